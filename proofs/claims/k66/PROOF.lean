import PyProof.Rows.All
import Wide.All
import OpenK.AllK
import Wide.FinOn
import Lean
import PyProof.EqAt
import PyProof.EqKinds
import PyProof.TupleCall
import PySem.Challenge.RW_mendsure_k66_a_ring_has_a_pair
set_option Elab.async false
set_option linter.all false
set_option maxRecDepth 100000
open List (all_cons all_eq_true all_map any_cons any_eq_false any_eq_true cons_append drop_eq_getElem_cons drop_of_length_le drop_zero filterMap_cons filterMap_cons_some find?_cons flatten_cons foldl_cons forIn_cons forIn_nil getD_eq_getElem?_getD getElem?_append_left getElem?_append_right getElem?_drop getElem?_map getElem?_of_mem getElem?_set_ne getElem?_set_self getElem?_take_of_lt getElem_drop getElem_inj getElem_mem getElem_of_mem getElem_take le_trans length_drop length_filter_le length_nil length_pos_iff length_range length_replicate length_set length_zip lookup_cons map_append map_cons map_drop map_id map_map map_nil map_take mem_append mem_append_left mem_append_right mem_filter mem_filterMap mem_flatMap mem_of_getElem? mem_of_mem_take mem_range nil_append nodup_append nodup_cons nodup_nil not_lt of_mem_zip pairwise_append pairwise_cons pairwise_map range'_succ replicate_succ reverse_cons take_add take_append_drop take_of_length_le zipIdx_cons zipIdx_nil zip_cons_cons zip_nil_left not_mem_nil)
open Bool (or_eq_true)
open Nat (add_assoc add_sub_cancel add_zero le_of_lt le_refl le_succ le_trans lt_irrefl lt_of_lt_of_le lt_trans min_eq_left ne_of_gt ne_of_lt not_lt sub_self sub_zero zero_add zero_le)
open Int (toNat_natCast)
theorem xF0:¬(false=true):=Bool.false_ne_true

abbrev dF0:=@decide_eq_false
abbrev dT0:=@decide_eq_true
abbrev iP:=@if_pos
abbrev iN:=@if_neg
abbrev mC:=@List.mem_cons
abbrev lC:=@List.length_cons
abbrev mO:=@List.mem_cons_of_mem
abbrev lM:=@List.length_map
abbrev mS:=@List.mem_singleton
abbrev mF0:=@List.mem_cons_self
abbrev fT:=@Bool.false_eq_true
abbrev sA0:=@List.size_toArray
abbrev lS:=@List.length_singleton
abbrev eL:=@Int.emod_lt_of_pos
abbrev eN0:=@Int.emod_nonneg
abbrev aE:=@Bool.and_eq_true
abbrev iF:=@if_false
abbrev aN:=@List.append_nil
abbrev lA:=@List.length_append
abbrev gS0:=@List.getElem?_eq_some_iff
abbrev gE0:=@List.getElem?_eq_getElem
abbrev wB0:=@PySem.wpAny_bind
abbrev wP0:=@PySem.wpAny_pure
abbrev hP0:=@PySem.Heap.get?_push_of_some
abbrev mM:=@List.mem_map
abbrev lT:=@List.length_take
abbrev aA:=@List.append_assoc
abbrev VP:=PySem.Value->PySem.Shared->Prop
namespace L2
open PySem PySem.Spec PyProof.Rows
abbrev Key:=Sum Int Str
def zLM:Key->Value->Bool
 |.inl k,v=>Value.isInt k v
 |.inr x,v=>Value.isStrOf x v
def keyH(w:World):Key->Int
 |.inl k=>hashInt k
 |.inr x=>hashStr w x
theorem yN: ∀{k:Key}{v:Value},zLM k v=true->(∃i t,k=Sum.inl i/\v=Value.int i t)\/(∃x t,k=Sum.inr x/\v=Value.str x t)
 |.inl i,v,h=>by
  obtain⟨t,e⟩:=Value.isInt_shape (k:=i) (v:=v) h
  exact .inl ⟨i,t,rfl,e⟩
 |.inr x,v,h=>by
  obtain⟨t,e⟩:=Value.isStrOf_shape (x:=x) (v:=v) h
  exact .inr ⟨x,t,rfl,e⟩
theorem yAE(i:Int)(t:Tok):zLM (.inl i) (.int i t)=true:=by simp [zLM,Value.isInt]
theorem yAF(x:Str)(t:Tok):zLM (.inr x) (.str x t)=true:=by simp [zLM,Value.isStrOf]
theorem yLY(a b:Int):decide ((Sum.inl a:Key)=Sum.inl b)=(a==b):=by
 by_cases e:a=b
 ·subst e;simp
 ·have h: ¬(Sum.inl a:Key)=Sum.inl b:=λq=>e (Sum.inl.inj q)
  rw [dF0 h]
  exact(beq_eq_false_iff_ne.mpr e).symm
theorem yLZ(a b:Str):decide ((Sum.inr a:Key)=Sum.inr b)=decide (a=b):=by
 by_cases e:a=b
 ·subst e;simp
 ·have h: ¬(Sum.inr a:Key)=Sum.inr b:=λq=>e (Sum.inr.inj q)
  rw [dF0 h,dF0 e]
theorem yMA(a:Int)(b:Str):decide ((Sum.inl a:Key)=Sum.inr b)=false:=dF0 (λq=>nomatch q)
theorem yMB(a:Str)(b:Int):decide ((Sum.inr a:Key)=Sum.inl b)=false:=dF0 (λq=>nomatch q)
def yW(prog:Program)(w:World):PySem.KeyKind prog w Key where
 is:=zLM
 hash:=keyH w
 inj:=λv a b ha hb=>by
  rcases yN ha with⟨i,t,rfl,rfl⟩|⟨x,t,rfl,rfl⟩
  ·rcases yN hb with⟨j,u,rfl,e⟩|⟨y,u,rfl,e⟩
   ·injection e with e1 _;rw [e1]
   ·exact nomatch e
  ·rcases yN hb with⟨j,u,rfl,e⟩|⟨y,u,rfl,e⟩
   ·exact nomatch e
   ·injection e with e1 _;rw [e1]
 byValue:=λk v h=>by
  rcases yN h with⟨i,t,rfl,rfl⟩|⟨x,t,rfl,rfl⟩<;>rfl
 pyHash:=λhv h=>by
  rcases yN hv with⟨i,t,rfl,rfl⟩|⟨x,t,rfl,rfl⟩
  ·exact wpAny_pyHash_int h
  ·exact wpAny_pyHash_str h
 eqBool:=λhu hv h=>by
  rcases yN hu with⟨i,t,rfl,rfl⟩|⟨x,t,rfl,rfl⟩
  ·rcases yN hv with⟨j,u,rfl,rfl⟩|⟨y,u,rfl,rfl⟩
   ·rw [yLY]at h;exact wpAny_eqBool_int h
   ·rw [yMA]at h;exact SeqAt.EqAt.int_str i t y u _ _ _ _ h
  ·rcases yN hv with⟨j,u,rfl,rfl⟩|⟨y,u,rfl,rfl⟩
   ·rw [yMB]at h;exact SeqAt.EqAt.str_int x t j u _ _ _ _ h
   ·rw [yLZ]at h;exact wpAny_eqBool_str h
 «strs»:=λk x t v h=>by
  rcases yN h with⟨i,u,rfl,e⟩|⟨y,u,rfl,e⟩
  ·exact nomatch e
  ·injection e with e1 _
   subst e1
   cases v<;>rfl
theorem zSJ(prog:Program)(w:World)(i:Int)(t:Tok):(yW prog w).is (.inl i) (.int i t)=true:=yAE i t
theorem zSK(prog:Program)(w:World)(x:Str)(t:Tok):(yW prog w).is (.inr x) (.str x t)=true:=yAF x t
inductive V where
 |non|bl (b:Bool)|int (i:Int)|str (x:Str)|byt (b:Array UInt8)|flt (b:UInt64)|ref (a:Addr)|ty (n:String)
 deriving DecidableEq
def RelV:V->Value->Prop
 |.non,u=>u=Value.none
 |.bl b,u=>u=Value.bool b
 |.int i,u=> ∃t,u=Value.int i t
 |.str x,u=> ∃t,u=Value.str x t
 |.byt b,u=> ∃t,u=Value.bytes b t
 |.flt b,u=> ∃t,u=Value.float b t
 |.ref a,u=>u=Value.ref a
 |.ty n,u=>u=Value.type n
abbrev Vals:List V->List Value->Prop:=Paired RelV
theorem Vals.length{xs:List V}{us:List Value}(r:Vals xs us):xs.length=us.length:=Paired.length r
theorem Vals.get: ∀{xs:List V}{us:List Value}{i:Nat}{x:V},Vals xs us->xs[i]? =some x-> ∃u,us[i]? =some u/\RelV x u
 |_,_,_,_,.nil,e=>by simp at e
 |_,_,0,_,.cons r _,e=>by simp at e;subst e;exact⟨_,rfl,r⟩
 |_,_,i+1,x,.cons _ t,e=>by
  obtain⟨u,h1,h2⟩:=Vals.get (i:=i) (x:=x) t (by simpa using e)
  exact⟨u,by simpa using h1,h2⟩
theorem Vals.set{x:V}{u:Value}(r:RelV x u): ∀{xs:List V}{us:List Value}(i:Nat),Vals xs us->Vals (xs.set i x) (us.set i u)
 |_,_,_,.nil=>.nil
 |_,_,0,.cons _ t=>.cons r t
 |_,_,i+1,.cons q t=>.cons q (Vals.set r i t)
theorem Vals.append: ∀{xs ys:List V}{us ws:List Value},Vals xs us->Vals ys ws->Vals (xs++ys) (us++ws)
 |_,_,_,_,.nil,s=>s
 |_,_,_,_,.cons r t,s=>.cons r (Vals.append t s)
theorem Vals.take: ∀{xs:List V}{us:List Value}(n:Nat),Vals xs us->Vals (xs.take n) (us.take n)
 |_,_,0,_=>.nil
 |_,_,_+1,.nil=>.nil
 |_,_,n+1,.cons r t=>.cons r (Vals.take n t)
theorem Vals.drop: ∀{xs:List V}{us:List Value}(n:Nat),Vals xs us->Vals (xs.drop n) (us.drop n)
 |_,_,0,r=>r
 |_,_,_+1,.nil=>.nil
 |_,_,n+1,.cons _ t=>Vals.drop n t
theorem Vals.none_of: ∀{xs:List V}{us:List Value}{i:Nat},Vals xs us->xs[i]? =none->us[i]? =none:=λ{xs us i} r e=>by
 have h1:=r.length
 have h2:xs.length<=i:=List.getElem?_eq_none_iff.mp e
 exact List.getElem?_eq_none_iff.mpr (by omega)
def RelO:Option V->Option Value->Prop
 |some v,some u=>RelV v u
 |none,none=>True
 |_,_=>False
def KV{κ:Type}:List (κ×V)->List (κ×Value)->Prop:=Paired λ(p:κ×V) (q:κ×Value)=>p.1=q.1/\RelV p.2 q.2
def kV:Key->V
 |.inl i=>.int i
 |.inr x=>.str x
inductive HO where
 |lst (xs:List V)
 |tup (xs:List V)
 |dK (kvs:List (Key×V))|dT (kvs:List (List Key×V))
 |set (S:Int->Bool) (n:Nat)
 |ins (C dx:Addr) (fs:List (Str×V))
 |own (x:Addr)
 |xd (fs:List (Str×V))
 |met (f x:Addr)
 |rng (lo hi:Int)
 |frz (o:Obj) (u:HO)
 |tbl (ps:Array Value)
 |ext (φ:Heap->Prop)
abbrev Hp:=Addr->Option HO
def upd(H:Hp)(a:Addr)(o:HO):Hp:=λb=>if b=a then some o else H b
theorem yS{H:Hp}{a:Addr}{o:HO}:upd H a o a=some o:=by unfold upd;rw [iP rfl]
theorem zR{H:Hp}{a b:Addr}{o:HO}(h:b≠a):upd H a o b=H b:=by unfold upd;rw [iN h]
theorem zX{H:Hp}{a b:Addr}{o:HO}(h:H a=some o)(h':H b=none):a≠b:=by
 intro e;subst e;rw [h]at h';cases h'
section
variable(P:Program)(w:World)
def ObjOk(H:Hp)(h:Heap)(a:Addr):HO->Prop
 |.lst xs=>xs.length<=sizeLine/\ ∃(its:List Value)(n:Nat),Vals xs its/\h.get? a=some {cls:=.type "list",data:=.seq its.toArray n}
 |.tup xs=>xs.length<=sizeLine/\ ∃its:List Value,Vals xs its/\IsTup h a its.toArray
 |.dK kvs=>kvs.length<=sizeLine/\(a==sysModules)=false/\ ∃vs,KV kvs vs/\h.DictOf (yW P w) a vs
 |.dT kvs=>kvs.length<=sizeLine/\(a==sysModules)=false/\ ∃xs:List (List Key×Addr×Value),
   Paired (λ(p:List Key×V) (q:List Key×Addr×Value)=>p.1=q.1/\H q.2.1=some (.tup (p.1.map kV))/\RelV p.2 q.2.2) kvs xs/\
   ∃o es ep,h.get? a=some o/\o.ExactDict/\o.data=.dict es ep/\es.toList=xs.map (entryOfKey (tupleKind (yW P w)))/\(xs.map (·.1)).Nodup
 |.set S n=>h.SetOf (intKind P w) a S n
 |.ins C dx fs=>H dx=some (.own a)/\fs.length<=1000/\dx≠a/\h.get? a=some (PySem.W.instObj C dx)/\
   ∃mA,h.Ns1 dx mA/\(∀f,RelO (fs.lookup f) (mA f))/\PySem.Within mA (fs.map (·.1))
 |.own _=> ∃o,h.get? a=some o
 |.xd fs=> ∃mA,h.Ns1 a mA/\ ∀f,RelO (fs.lookup f) (mA f)
 |.rng lo hi=> ∃t u v,h.get? a=some {cls:=.type "range",data:=.fields #[.int lo t,.int hi u,.int 1 v]}
 |.frz o u=>h.get? a=some o/\ObjOk H h a u
 |.tbl ps=>h.get? a=some {cls:=.none,data:=.fields ps}
 |.met f x=>h.get? a=some (PySem.W.methodObj (.ref f) (.ref x))
 |.ext φ=>φ h/\(∃o,h.get? a=some o)/\ ∀h1 h2:Heap,φ h1->(∀o,h1.get? a=some o->h2.get? a=some o)->φ h2
def HOk(H:Hp)(h:Heap):Prop:= ∀a o,H a=some o->ObjOk P w H h a o
end
section
variable{P:Program}{w:World}{H H':Hp}{h h':Heap}{a:Addr}{o:HO}
theorem ObjOk.lt(x:ObjOk P w H h a o):a<h.objs.size:=by
 cases o with
 |lst xs=>obtain⟨_,_,_,_,e⟩:=x;exact Heap.lt_size e
 |tup xs=>obtain⟨_,_,_,p⟩:=x;exact p.lt
 |dK kvs=>obtain⟨_,_,_,_,o,_,_,e,_⟩:=x;exact Heap.lt_size e
 |dT kvs=>obtain⟨_,_,_,_,o,_,_,e,_⟩:=x;exact Heap.lt_size e
 |set S n=>obtain⟨o,_,_,_,e,_⟩:=x;exact Heap.lt_size e
 |ins C dx fs=>obtain⟨_,_,_,e,_⟩:=x;exact Heap.lt_size e
 |own y=>obtain⟨_,e⟩:=x;exact Heap.lt_size e
 |xd fs=>obtain⟨_,⟨_,_,_,e,_⟩,_⟩:=x;exact Heap.lt_size e
 |rng lo hi=>obtain⟨_,_,_,e⟩:=x;exact Heap.lt_size e
 |frz ob u=>obtain⟨e,_⟩:=x;exact Heap.lt_size e
 |tbl ps=>exact Heap.lt_size (show h.get? a=some _ from x)
 |met f y=>exact Heap.lt_size (show h.get? a=some _ from x)
 |ext φ=>obtain⟨_,⟨_,e⟩,_⟩:=x;exact Heap.lt_size e
theorem Paired.mapP{α β:Type}{F G:α->β->Prop}: ∀{l₁:List α}{l₂:List β},Paired F l₁ l₂->(∀a b,F a b->G a b)->Paired G l₁ l₂
 |_,_,.nil,_=>.nil
 |_,_,.cons r t,f=>.cons (f _ _ r) (Paired.mapP t f)
theorem ObjOk.stay(x:ObjOk P w H h a o)(k: ∀b u,(b=a\/H b=some (.own a))->h.get? b=some u->h'.get? b=some u)
  (ho: ∀b,H b=some (.own a)->H' b=some (.own a)) (ht: ∀b xs,H b=some (.tup xs)->H' b=some (.tup xs)):ObjOk P w H' h' a o:=by
 induction o with
 |lst xs=>obtain⟨z,its,n,r,e⟩:=x;exact⟨z,its,n,r,k _ _ (.inl rfl) e⟩
 |tup xs=>obtain⟨z,its,r,ob,e,c⟩:=x;exact⟨z,its,r,ob,k _ _ (.inl rfl) e,c⟩
 |dK kvs=>obtain⟨z,y,vs,r,ob,es,ep,e,c⟩:=x;exact⟨z,y,vs,r,ob,es,ep,k _ _ (.inl rfl) e,c⟩
 |dT kvs=>
  obtain⟨z,y,xs,r,ob,es,ep,e,c⟩:=x
  exact⟨z,y,xs,Paired.mapP r λp q z=>⟨z.1,ht _ _ z.2.1,z.2.2⟩,ob,es,ep,k _ _ (.inl rfl) e,c⟩
 |set S n=>obtain⟨ob,es,ep,t,e,c⟩:=x;exact⟨ob,es,ep,t,k _ _ (.inl rfl) e,c⟩
 |ins C dx fs=>
  obtain⟨d,z,ne,e,mA,⟨od,es,ep,e2,c⟩,r⟩:=x
  exact⟨ho _ d,z,ne,k _ _ (.inl rfl) e,mA,⟨od,es,ep,k _ _ (.inr d) e2,c⟩,r⟩
 |own y=>obtain⟨ob,e⟩:=x;exact⟨ob,k _ _ (.inl rfl) e⟩
 |xd fs=>obtain⟨mA,⟨od,es,ep,e,c⟩,r⟩:=x;exact⟨mA,⟨od,es,ep,k _ _ (.inl rfl) e,c⟩,r⟩
 |rng lo hi=>obtain⟨t,u,v,e⟩:=x;exact⟨t,u,v,k _ _ (.inl rfl) e⟩
 |frz ob u ih=>obtain⟨e,q⟩:=x;exact⟨k _ _ (.inl rfl) e,ih q⟩
 |tbl ps=>
  have e:h.get? a=some {cls:=.none,data:=.fields ps}:=x
  show h'.get? a=some {cls:=.none,data:=.fields ps}
  exact k a _ (.inl rfl) e
 |met f y=>
  have e:h.get? a=some (PySem.W.methodObj (.ref f) (.ref y)):=x
  show h'.get? a=some (PySem.W.methodObj (.ref f) (.ref y))
  exact k a _ (.inl rfl) e
 |ext φ=>obtain⟨p,⟨o,e⟩,st⟩:=x;exact⟨st _ _ p λo q=>k _ _ (.inl rfl) q,⟨o,k _ _ (.inl rfl) e⟩,st⟩
theorem HOk.lt(x:HOk P w H h)(e:H a=some o):a<h.objs.size:=(x a o e).lt
theorem HOk.fresh(x:HOk P w H h)(e:h.objs.size<=a):H a=none:=by
 cases q:H a with
 |none=>rfl
 |some u=>exact absurd (lt_of_lt_of_le (x.lt q) e) (lt_irrefl _)
theorem HOk.kept(x:HOk P w H h)(k: ∀b u,h.get? b=some u->h'.get? b=some u):HOk P w H h':=λa o e=>
 (x a o e).stay (λb u _ q=>k b u q) (λ_ q=>q) λ_ _ q=>q
theorem HOk.laid(x:HOk P w H h)(k: ∀b u,h.get? b=some u->h'.get? b=some u)(hp:h.objs.size<=a)(new:ObjOk P w (upd H a o) h' a o):HOk P w (upd H a o) h':=λb u e=>by
 have hn:=x.fresh hp
 by_cases hb:b=a
 ·subst hb;rw [yS]at e;cases e;exact new
 ·rw [zR hb]at e
  exact(x b u e).stay (λc v _ q=>k c v q) (λc q=>by rw [zR (zX q hn)];exact q) λc xs q=>by rw [zR (zX q hn)];exact q
end
def Rd(H:Hp)(a:Addr)(u:HO):Prop:=H a=some u\/ ∃o,H a=some (.frz o u)
theorem Rd.ok{P:Program}{w:World}{H:Hp}{h:Heap}{a:Addr}{u:HO}(r:Rd H a u)(x:HOk P w H h):ObjOk P w H h a u:=by
 rcases r with r|⟨o,r⟩
 ·exact x a u r
 ·obtain⟨_,q⟩:=x a _ r
  exact q
def Mut:Option HO->Prop
 |some (.lst _)=>True
 |some (.dK _)=>True
 |some (.dT _)=>True
 |some (.set _ _)=>True
 |some (.ins _ _ _)=>True
 |some (.ext _)=>True
 |_=>False
section
variable{P:Program}{w:World}{H:Hp}{h h':Heap}{x e:Addr}{o':HO}
theorem HOk.write(ok:HOk P w H h)(mu:Mut (H x))(he:e=x\/H e=some (.own x))(k: ∀b u,b≠e->h.get? b=some u->h'.get? b=some u)(heo: ∃u,h'.get? e=some u)
  (new:ObjOk P w (upd H x o') h' x o'):HOk P w (upd H x o') h':=λb u q=>by
 have nown: ∀c y,H c=some (.own y)->c≠x:=λc y r z=>by subst z;rw [r]at mu;exact mu
 have ntup: ∀c xs,H c=some (.tup xs)->c≠x:=λc xs r z=>by subst z;rw [r]at mu;exact mu
 by_cases hb:b=x
 ·subst hb;rw [yS]at q;cases q;exact new
 ·rw [zR hb]at q
  by_cases hbe:b=e
  ·have q':H b=some (.own x):=by
    rcases he with z|z
    ·exact absurd (hbe.trans z) hb
    ·rw [hbe];exact z
   rw [q]at q';cases q'
   obtain⟨v,hv⟩:=heo
   exact⟨v,by rw [hbe];exact hv⟩
  ·refine(ok b u q).stay (λc v hc r=>k c v ?_ r) (λc r=>by rw [zR (nown c b r)];exact r) λc xs r=>by rw [zR (ntup c xs r)];exact r
   rcases hc with rfl|hc
   ·exact hbe
   ·rintro rfl
    rcases he with z|z
    ·exact nown c b hc z
    ·rw [hc]at z;cases z;exact hb rfl
end
structure Un(fs ex:List Addr)(H H':Hp)(h h':Heap):Prop where
 keep: ∀b o,h.get? b=some o->H b=none->b∉fs->b∉ex->h'.get? b=some o
 slot: ∀b o,h.get? b=some o->H b=none->b∈fs->b∉ex-> ∃sl,h'.get? b=some {o with slots:=sl}
 free: ∀b o,h.get? b=some o->H b=none->b∉ex->H' b=none
 there: ∀b o,h.get? b=some o->b∉ex-> ∃o',h'.get? b=some o'
 tups: ∀b xs,H b=some (.tup xs)->H' b=some (.tup xs)
 frzs: ∀b o u,H b=some (.frz o u)->H' b=some (.frz o u)
 tbls: ∀b ps,H b=some (.tbl ps)-> ∃more,H' b=some (.tbl (ps++more))
section
variable{fs fs' ex ex':List Addr}{H H1 H2:Hp}{h h1 h2 h':Heap}{a x e:Addr}{o:HO}
theorem Un.any(u:Un fs ex H H1 h h1){b:Addr}{ob:Obj}(q:h.get? b=some ob)(n:H b=none)(hx:b∉ex): ∃sl,h1.get? b=some {ob with slots:=sl}:=by
 by_cases hb:b∈fs
 ·exact u.slot b ob q n hb hx
 ·exact⟨ob.slots,u.keep b ob q n hb hx⟩
theorem Un.kept(k: ∀b u,h.get? b=some u->h'.get? b=some u):Un fs ex H H h h':=
 ⟨λb ob q _ _ _=>k b ob q,λb ob q _ _ _=>⟨ob.slots,k b ob q⟩,λ_ _ _ n _=>n,λb ob q _=>⟨ob,k b ob q⟩,λ_ _ q=>q,λ_ _ _ q=>q,λ_ ps q=>⟨#[],by rw [q];simp⟩⟩
theorem Un.refl:Un fs ex H H h h:=Un.kept λ_ _ q=>q
theorem Un.laid(k: ∀b u,h.get? b=some u->h'.get? b=some u)(hp:h.objs.size<=a)(hn:H a=none):Un fs ex H (upd H a o) h h' where
 keep:=λb u q _ _ _=>k b u q
 slot:=λb u q _ _ _=>⟨u.slots,k b u q⟩
 free:=λb u q n _=>by rw [zR (ne_of_lt (lt_of_lt_of_le (Heap.lt_size q) hp))];exact n
 there:=λb u q _=>⟨u,k b u q⟩
 tups:=λb xs q=>by rw [zR (zX q hn)];exact q
 frzs:=λb u xs q=>by rw [zR (zX q hn)];exact q
 tbls:=λb ps q=>⟨#[],by rw [zR (zX q hn),q];simp⟩
theorem Un.write(mu:Mut (H x))(he:e=x\/H e=some (.own x))(k: ∀b u,b≠e->h.get? b=some u->h'.get? b=some u)(heo: ∃u,h'.get? e=some u):Un fs ex H (upd H x o) h h':=by
 have hx: ∀b,H b=none->b≠x:=λb n z=>by subst z;rw [n]at mu;exact mu
 have hb: ∀b,H b=none->b≠e:=λb n z=>by
  subst z
  rcases he with r|r
  ·exact hx b n r
  ·rw [n]at r;cases r
 have hm: ∀b u,H b=some u-> ¬Mut (some u)->b≠x:=λb u q nm z=>by subst z;rw [q]at mu;exact nm mu
 refine⟨λb u q n _ _=>k b u (hb b n) q,λb u q n _ _=>⟨u.slots,k b u (hb b n) q⟩,λb u q n _=>by rw [zR (hx b n)];exact n,λb u q _=>?_,
  λb xs q=>by rw [zR (hm b _ q λz=>z)];exact q,λb u xs q=>by rw [zR (hm b _ q λz=>z)];exact q,λb ps q=>⟨#[],by rw [zR (hm b _ q λz=>z),q];simp⟩⟩
 by_cases hbe:b=e
 ·subst hbe;exact heo
 ·exact⟨u,k b u hbe q⟩
end
def trk(h:Heap)(H:Hp):List Addr:=(List.range h.objs.size).filter λa=>(H a).isSome
def zPY(h:Heap)(H:Hp):Heap:=PySem.W.hideAll h (trk h H)
theorem yAG(h:Heap)(H:Hp):(zPY h H).objs.size=h.objs.size:=PySem.W.hideAll_size _ _
theorem yBZ{h:Heap}{H:Hp}{b:Addr}{o:Obj}(e:h.get? b=some o)(n:H b=none):(zPY h H).get? b=some o:=
 PySem.W.hideAll_get _ e λhm=>by
  have q:(H b).isSome=true:=(mem_filter.mp hm).2
  rw [n]at q;simp at q
theorem yGS{h:Heap}{H:Hp}{b:Addr}{o:Obj}(e:(zPY h H).get? b=some o):h.get? b=some o/\H b=none:=by
 have e':h.get? b=some o:=PySem.W.of_hideAll (trk h H) e
 refine⟨e',?_⟩
 cases q:H b with
 |none=>rfl
 |some x=>
  have hm:b∈trk h H:=mem_filter.mpr ⟨mem_range.mpr (Heap.lt_size e'),by simp [q]⟩
  have z:(zPY h H).get? b=none:=PySem.W.hideAll_none (trk h H) hm
  rw [z]at e;cases e
def yGT(g h:Heap)(L:Addr):List (Addr×Obj):=(List.range h.objs.size).filterMap λa=>if a=L\/(g.get? a).isSome=true then none else(h.get? a).map λo=>(a,o)
def gA(g h:Heap)(L d:Addr):List (Addr×Obj):=(yGT g h L).filter λp=>decide (p.1≠d)
structure Mod(K:PySem.W.Frag)(mg:Str->Option Value)(base:Heap):Prop where
 kin:K.In base
 glob:base.Ns mainGlobals mg
 blt: ∃mb,base.Ns builtinsNs mb/\ ∀x:Str,x≠"__name__"->mb x=bootBuiltins x
 nolimit:base.NoLimit
structure Cx where
 prog:Program
 w:World
 K:PySem.W.Frag
 mg:Str->Option Value
 base:Heap
 A:Around
 N:List Str
 s₀:Shared
 H₀:Hp
 env:Env
 outer:List Env
 stack:List Env
 ex:List Addr
 fn:Str->Bool
 calm:Bool
 pn:List (Addr×Obj)
 xe:VP
def frs(l:List Env):List Addr:=l.filterMap (·.frame)
abbrev Cx.fs(X:Cx):List Addr:=frs X.outer
def Vis(sc:Scope)(x:Str):Prop:=sc.names.lookup x=some .local\/sc.names.lookup x=some .cell\/sc.names.lookup x=some .free
def Loc(sc:Scope)(x:Str):Prop:=sc.names.lookup x=some .local\/sc.names.lookup x=some .cell
def Look(env:Env)(h:Heap)(m:Str->Option Value)(x:Str)(u:Value):Prop:=
 (env.kindOf x=some .local/\m x=some u)\/((env.kindOf x=some .cell\/env.kindOf x=some .free)/\ ∃c,env.cells.lookup x=some c/\h.IsCell c (some u))
structure Cx.Ok(X:Cx):Prop where
 mod:Mod X.K X.mg X.base
 kind:X.env.scope.kind=.function
 glob:X.env.globals=mainGlobals
 blt:X.env.builtins=builtinsNs
 above:X.s₀.heap.objs.size<=X.env.locals
 inj: ∀x y c,X.env.cells.lookup x=some c->X.env.cells.lookup y=some c->x=y
 has: ∀x,(X.env.kindOf x=some .cell\/X.env.kindOf x=some .free)-> ∃c,X.env.cells.lookup x=some c
 cab: ∀x c,X.fn x=true->X.env.cells.lookup x=some c->X.s₀.heap.objs.size<=c
 hd:X.calm=true->X.A.handled=none
 frames:X.A.frames=some X.stack
 stk:X.stack=X.outer\/(X.stack=X.env::X.outer/\X.env.frame=some X.env.locals)
 exf: ∀b∈X.ex,b≠X.env.locals/\ ∀x c,X.env.cells.lookup x=some c->c≠b
 bs: ∀b o,X.base.get? b=some o->X.s₀.heap.get? b=some o/\X.H₀ b=none
 bsz:X.base.objs.size<=X.s₀.heap.objs.size
 noex: ∀b o,X.base.get? b=some o->b∉X.ex
 exfs: ∀b∈X.ex,b∉X.fs
 funs:X.s₀.heap.FunFrames X.base X.outer
 frf: ∀b∈X.fs,X.H₀ b=none
structure Inv(X:Cx)(pins:List (Addr×Obj))(σ:List (Option V))(H:Hp)(s:Shared):Prop where
 ok:X.Ok
 os:s.os=X.s₀.os
 bare:AllBare s.gens
 base:Un X.fs X.ex X.H₀ H X.s₀.heap s.heap
 loc: ∃m,s.heap.Ns X.env.locals m/\ ∀(i:Nat)(x:Str)(v:V),X.N[i]? =some x->σ[i]? =some (some v)->Vis X.env.scope x-> ∃u,RelV v u/\Look X.env s.heap m x u
 cell: ∀x c,X.env.cells.lookup x=some c-> ∃v,s.heap.IsCell c v
 free:H X.env.locals=none
 freeC: ∀x c,X.env.cells.lookup x=some c->H c=none
 pin: ∀p∈X.pn++pins,s.heap.get? p.1=some p.2/\H p.1=none/\p.1≠X.env.locals/\p.1∉X.fs/\ ∀v,p.2.data≠.cell v
 hok:HOk X.prog X.w H s.heap
 len:σ.length=X.N.length
section
variable{X:Cx}{pins:List (Addr×Obj)}{σ:List (Option V)}{H H':Hp}{s:Shared}{h':Heap}
theorem Cx.Ok.nofr(ok:X.Ok){b:Addr}{o:Obj}(e:X.base.get? b=some o):b∉X.fs:=λhb=>by
 have:=(ok.funs.mem hb).1
 rw [e]at this;cases this
theorem Inv.bs(I:Inv X pins σ H s): ∀b o,X.base.get? b=some o->s.heap.get? b=some o/\H b=none:=λb o e=>
 ⟨I.base.keep b o (I.ok.bs b o e).1 (I.ok.bs b o e).2 (I.ok.nofr e) (I.ok.noex b o e),I.base.free b o (I.ok.bs b o e).1 (I.ok.bs b o e).2 (I.ok.noex b o e)⟩
theorem Inv.bk(I:Inv X pins σ H s): ∀b o,X.base.get? b=some o->s.heap.get? b=some o:=λb o e=>(I.bs b o e).1
theorem Inv.mod(I:Inv X pins σ H s):Mod X.K X.mg X.base:=I.ok.mod
theorem Inv.kIn(I:Inv X pins σ H s):X.K.In s.heap:=I.ok.mod.kin.keeps I.bk
theorem Inv.lt(I:Inv X pins σ H s):X.env.locals<s.heap.objs.size:=let ⟨_,hn,_⟩:=I.loc;hn.lt
theorem Inv.sz(I:Inv X pins σ H s):X.s₀.heap.objs.size<=s.heap.objs.size:=le_trans I.ok.above (le_of_lt I.lt)
theorem Inv.nofs(I:Inv X pins σ H s){a:Addr}(h:s.heap.objs.size<=a):a∉X.fs:=λhb=>by
 obtain⟨_,o,ho,_⟩:=I.ok.funs.mem hb
 exact absurd (lt_of_lt_of_le (Heap.lt_size ho) (le_trans I.sz h)) (lt_irrefl _)
theorem Inv.cne(I:Inv X pins σ H s): ∀x c,X.env.cells.lookup x=some c->c≠X.env.locals:=λx c e z=>by
 obtain⟨v,o,ho,hd⟩:=I.cell x c e
 obtain⟨m,⟨o',es,ep,ho',hd',_⟩,_⟩:=I.loc
 rw [z,ho']at ho;cases ho;rw [hd']at hd;cases hd
theorem Inv.funs(I:Inv X pins σ H s):s.heap.FunFrames X.base X.outer:=by
 have all: ∀(l:List Env),(∀b∈frs l,b∈X.fs)->X.s₀.heap.FunFrames X.base l->s.heap.FunFrames X.base l:=by
  intro l
  induction l with
  |nil=>intro _ _;trivial
  |cons env r ih=>
   intro hs hl
   obtain⟨hk,⟨L,o,hf,hn,ho,hd⟩,hr⟩:=hl
   have hL:L∈X.fs:=hs L (by unfold frs;rw [filterMap_cons,hf];exact mF0)
   obtain⟨sl,e⟩:=I.base.slot L o ho (I.ok.frf L hL) hL λz=>I.ok.exfs L z hL
   exact⟨hk,⟨L,_,hf,hn,e,hd⟩,ih (λb hb=>hs b (by unfold frs;rw [filterMap_cons,hf];exact mO _ hb)) hr⟩
 exact all X.outer (λ_ hb=>hb) I.ok.funs
theorem Inv.stack(I:Inv X pins σ H s):s.heap.FunFrames X.base X.stack:=by
 rcases I.ok.stk with e|⟨e,hf⟩
 ·rw [e];exact I.funs
 ·rw [e]
  obtain⟨m,hn,_⟩:=I.loc
  refine .cons (by rw [I.ok.kind];decide) hf hn ?_ I.funs
  exact Heap.get?_none_of_le (le_trans I.ok.bsz I.ok.above)
theorem Inv.stkSub(I:Inv X pins σ H s): ∀b∈frs X.stack,b∈X.env.locals::X.fs:=λb hb=>by
 rcases I.ok.stk with e|⟨e,hf⟩
 ·rw [e]at hb;exact mO _ hb
 ·rw [e]at hb
  unfold frs at hb
  rw [filterMap_cons,hf]at hb
  exact hb
theorem Inv.stkFree(I:Inv X pins σ H s): ∀b∈frs X.stack,H b=none:=λb hb=>by
 rcases mC.mp (I.stkSub b hb)with e|hb
 ·rw [e];exact I.free
 ·obtain⟨_,o,ho,_⟩:=I.ok.funs.mem hb
  exact I.base.free b o ho (I.ok.frf b hb) λz=>I.ok.exfs b z hb
theorem Inv.step{g':Array GenState}{t':Nat}{d':Drawn}{ch:List Addr}(I:Inv X pins σ H s)
  (hch: ∀b∈ch,(b∈X.ex\/X.s₀.heap.objs.size<=b)/\b≠X.env.locals/\(∀x c,X.env.cells.lookup x=some c->c≠b)/\ ∀p∈X.pn++pins,p.1≠b)
  (keep: ∀b o,b≠X.env.locals->b∉X.fs->b∉ch->s.heap.get? b=some o->H b=none->h'.get? b=some o)
  (slot: ∀b o,b≠X.env.locals->b∈X.fs->b∉ch->s.heap.get? b=some o->H b=none-> ∃sl,h'.get? b=some {o with slots:=sl}) (free: ∀b o,b∉ch->s.heap.get? b=some o->H b=none->H' b=none)
  (there: ∀b o,b∉ch->s.heap.get? b=some o-> ∃o',h'.get? b=some o')
  (tups: ∀b xs,H b=some (.tup xs)->H' b=some (.tup xs)) (frzs: ∀b o u,H b=some (.frz o u)->H' b=some (.frz o u)) (tbls: ∀b ps,H b=some (.tbl ps)-> ∃more,H' b=some (.tbl (ps++more)))
  (ns: ∀m,s.heap.Ns X.env.locals m->h'.Ns X.env.locals m) (hok:HOk X.prog X.w H' h') (hg:AllBare g'):
  Inv X pins σ H' {s with heap:=h',gens:=g',drawn:=d',toks:=t'}:=by
 have neL: ∀b o,X.s₀.heap.get? b=some o->b≠X.env.locals:=λb o e=>ne_of_lt (lt_of_lt_of_le (Heap.lt_size e) I.ok.above)
 have neC: ∀b o,X.s₀.heap.get? b=some o->b∉X.ex->b∉ch:=λb o e hx hb=>by
  rcases (hch b hb).1 with z|z
  ·exact hx z
  ·exact absurd (lt_of_lt_of_le (Heap.lt_size e) z) (lt_irrefl _)
 have cellK: ∀x c,X.env.cells.lookup x=some c-> ∀v,s.heap.IsCell c v->h'.IsCell c v:=λx c e v ⟨o,ho,hd⟩=>by
  have nch:c∉ch:=λz=>(hch c z).2.2.1 x c e rfl
  by_cases hc:c∈X.fs
  ·obtain⟨sl,q⟩:=slot c o (I.cne x c e) hc nch ho (I.freeC x c e)
   exact⟨_,q,hd⟩
  ·exact⟨o,keep c o (I.cne x c e) hc nch ho (I.freeC x c e),hd⟩
 refine⟨I.ok,I.os,hg,⟨λb o e n hb hx=>?_,λb o e n hb hx=>?_,λb o e n hx=>?_,λb o e hx=>?_,λb xs e=>tups b xs (I.base.tups b xs e),λb o xs e=>frzs b o xs (I.base.frzs b o xs e),λb ps e=>?_⟩,?_,λx c e=>?_,?_,λx c e=>?_,λp hp=>?_,hok,I.len⟩
 ·exact keep b o (neL b o e) hb (neC b o e hx) (I.base.keep b o e n hb hx) (I.base.free b o e n hx)
 ·obtain⟨sl,e1⟩:=I.base.slot b o e n hb hx
  obtain⟨sl',e2⟩:=slot b _ (neL b o e) hb (neC b o e hx) e1 (I.base.free b o e n hx)
  exact⟨sl',e2⟩
 ·obtain⟨o',e1⟩:=I.base.there b o e hx
  exact free b o' (neC b o e hx) e1 (I.base.free b o e n hx)
 ·obtain⟨o',e1⟩:=I.base.there b o e hx
  exact there b o' (neC b o e hx) e1
 ·obtain⟨m1,e1⟩:=I.base.tbls b ps e
  obtain⟨m2,e2⟩:=tbls b _ e1
  exact⟨m1++m2,by rw [e2,Array.append_assoc]⟩
 ·obtain⟨m,hn,hl⟩:=I.loc
  refine⟨m,ns m hn,λi x v e1 e2 e3=>?_⟩
  obtain⟨u,r,l⟩:=hl i x v e1 e2 e3
  refine⟨u,r,?_⟩
  rcases l with l|⟨k,c,e,z⟩
  ·exact .inl l
  ·exact .inr ⟨k,c,e,cellK x c e _ z⟩
 ·obtain⟨v,z⟩:=I.cell x c e
  exact⟨v,cellK x c e v z⟩
 ·obtain⟨m,⟨o,_,_,ho,_⟩,_⟩:=I.loc
  exact free _ o (λz=>(hch _ z).2.1 rfl) ho I.free
 ·obtain⟨v,o,ho,hd⟩:=I.cell x c e
  exact free c o (λz=>(hch c z).2.2.1 x c e rfl) ho (I.freeC x c e)
 ·obtain⟨e,n,ne,nf,d⟩:=I.pin p hp
  have nch:p.1∉ch:=λz=>(hch p.1 z).2.2.2 p hp rfl
  exact⟨keep p.1 p.2 ne nf nch e n,free p.1 p.2 nch e n,ne,nf,d⟩
theorem Inv.un{t':Nat}(I:Inv X pins σ H s)(u:Un X.fs [] H H' s.heap h')(hok:HOk X.prog X.w H' h'):Inv X pins σ H' {s with heap:=h',toks:=t'}:=by
 obtain⟨m,⟨o,es,ep,ho,r⟩,_⟩:=id I.loc
 obtain⟨sl,hL⟩:=u.any ho I.free (by simp)
 exact I.step (g':=s.gens) (d':=s.drawn) (ch:=[]) (λ_ z=>nomatch z) (λb o _ hb _ e n=>u.keep b o e n hb (by simp)) (λb o _ hb _ e n=>u.slot b o e n hb (by simp)) (λb o _ e n=>u.free b o e n (by simp)) (λb o _ e=>u.there b o e (by simp)) u.tups u.frzs u.tbls (λm' hm=>by
  obtain⟨o',es',ep',ho',r'⟩:=hm
  rw [ho]at ho';cases ho'
  exact⟨_,es',ep',hL,r'⟩) hok I.bare
theorem Inv.call{g':Array GenState}{t':Nat}{d':Drawn}{ch:List Addr}(I:Inv X pins σ H s)(u:Un (frs X.stack) ch H H' s.heap h')(hok:HOk X.prog X.w H' h')(hg:AllBare g')
  (hch: ∀b∈ch,(b∈X.ex\/X.s₀.heap.objs.size<=b)/\b≠X.env.locals/\(∀x c,X.env.cells.lookup x=some c->c≠b)/\ ∀p∈X.pn++pins,p.1≠b):
  Inv X pins σ H' {s with heap:=h',gens:=g',drawn:=d',toks:=t'}:=by
 obtain⟨m,⟨o,es,ep,ho,r⟩,_⟩:=id I.loc
 obtain⟨sl,hL⟩:=u.any ho I.free λz=>(hch _ z).2.1 rfl
 exact I.step (ch:=ch) hch (λb o hL hb hc e n=>u.keep b o e n (λz=>(mC.mp (I.stkSub b z)).elim hL hb) hc) (λb o _ _ hc e n=>u.any e n hc) (λb o hc e n=>u.free b o e n hc) (λb o hc e=>u.there b o e hc) u.tups u.frzs u.tbls (λm' hm=>by
  obtain⟨o',es',ep',ho',r'⟩:=hm
  rw [ho]at ho';cases ho'
  exact⟨_,es',ep',hL,r'⟩) hok hg
theorem Inv.turned{t':Nat}{it:Addr}(I:Inv X pins σ H s)(k: ∀b o,b≠it->s.heap.get? b=some o->h'.get? b=some o)(hn:H it=none)(hL:it≠X.env.locals)
  (h1:it∈X.ex\/X.s₀.heap.objs.size<=it) (h2: ∀x c,X.env.cells.lookup x=some c->c≠it) (h3: ∀p∈X.pn++pins,p.1≠it):Inv X pins σ H {s with heap:=h',toks:=t'}:=by
 have nit: ∀b u,H b=some u->b≠it:=λb u e z=>by rw [z,hn]at e;cases e
 refine I.step (g':=s.gens) (d':=s.drawn) (ch:=[it]) (λb hb=>?_) (λb o _ _ hc e _=>k b o (λz=>hc (by simp [z])) e) (λb o _ _ hc e _=>⟨o.slots,k b o (λz=>hc (by simp [z])) e⟩) (λ_ _ _ _ n=>n)
  (λb o hc e=>⟨o,k b o (λz=>hc (by simp [z])) e⟩) (λ_ _ e=>e) (λ_ _ _ e=>e) (λb ps e=>⟨#[],by rw [e];simp⟩) (λm hm=>?_) (λb u e=>?_) I.bare
 ·have e:b=it:=by simpa using hb
  subst e
  exact⟨h1,hL,h2,h3⟩
 ·obtain⟨o,es,ep,ho,r⟩:=hm
  exact⟨o,es,ep,k _ o (Ne.symm hL) ho,r⟩
 ·refine(I.hok b u e).stay (λc v hc q=>k c v ?_ q) (λ_ q=>q) λ_ _ q=>q
  rcases hc with z|z
  ·rw [z];exact nit b u e
  ·exact nit c _ z
theorem Inv.tok(I:Inv X pins σ H s)(t:Nat):Inv X pins σ H {s with toks:=t}:=I.un (h':=s.heap) (t':=t) Un.refl I.hok
theorem Inv.kept{t':Nat}(I:Inv X pins σ H s)(k: ∀b u,s.heap.get? b=some u->h'.get? b=some u):Inv X pins σ H {s with heap:=h',toks:=t'}:=I.un (Un.kept k) (I.hok.kept k)
theorem Inv.laid{a:Addr}{o:HO}{t':Nat}(I:Inv X pins σ H s)(k: ∀b u,s.heap.get? b=some u->h'.get? b=some u)(hp:s.heap.objs.size<=a)(new:ObjOk X.prog X.w (upd H a o) h' a o):
  Inv X pins σ (upd H a o) {s with heap:=h',toks:=t'}:=I.un (Un.laid k hp (I.hok.fresh hp)) (I.hok.laid k hp new)
theorem Inv.write{x e:Addr}{o:HO}{t':Nat}(I:Inv X pins σ H s)(mu:Mut (H x))(he:e=x\/H e=some (.own x))(k: ∀b u,b≠e->s.heap.get? b=some u->h'.get? b=some u)(heo: ∃u,h'.get? e=some u)
  (new:ObjOk X.prog X.w (upd H x o) h' x o):Inv X pins σ (upd H x o) {s with heap:=h',toks:=t'}:=I.un (Un.write mu he k heo) (I.hok.write mu he k heo new)
theorem Inv.pins_of{pins':List (Addr×Obj)}(I:Inv X pins σ H s)(h: ∀p∈pins',s.heap.get? p.1=some p.2/\H p.1=none/\p.1≠X.env.locals/\p.1∉X.fs/\ ∀v,p.2.data≠.cell v):Inv X pins' σ H s:=
 ⟨I.ok,I.os,I.bare,I.base,I.loc,I.cell,I.free,I.freeC,λp hp=>(mem_append.mp hp).elim (λz=>I.pin p (mem_append_left _ z)) (h p),I.hok,I.len⟩
theorem zSL{N:List Str}(hN:N.Nodup){i j:Nat}{x:Str}(a:N[i]? =some x)(b:N[j]? =some x):i=j:=by
 obtain⟨h1,e1⟩:=gS0.mp a
 obtain⟨h2,e2⟩:=gS0.mp b
 exact(getElem_inj hN).mp (e1.trans e2.symm)
theorem zOI{M:Model}{A:Around}{E:VP}{i:Nat}{x:Str}{v:V}{u:Value}{Q:Unit->Shared->Prop}(I:Inv X pins σ H s)(hN:X.N.Nodup)(hi:X.N[i]? =some x)(hx:Loc X.env.scope x)(r:RelV v u)
  (h: ∀s',Inv X pins (σ.set i (some v)) H s'->(∃a,Heap.SameBut a s.heap s'.heap/\(a=X.env.locals\/X.env.cells.lookup x=some a))->Q () s') (hf:X.fn x=true\/X.env.scope.names.lookup x=some .local:=by first |exact .inl rfl|exact .inr rfl|assumption):wpAny M A (storeName X.env x u) Q E s:=by
 obtain⟨m,hn,hl⟩:=id I.loc
 have hcls:(X.env.scope.kind==.class || (X.env.scope.kind==.module&&X.env.locals !=X.env.globals))=false:=by rw [I.ok.kind];rfl
 have hiσ:i<σ.length:=by rw [I.len];exact(gS0.mp hi).1
 have cne:=I.cne
 have tracked: ∀{a:Addr}{h':Heap},(∃o,s.heap.get? a=some o/\H a=none)->Heap.SameBut a s.heap h'->HOk X.prog X.w H h':=λ{a h'} ha hs b ob e=>by
  obtain⟨_,_,hfree⟩:=ha
  refine(I.hok b ob e).stay (λc w' hc q=>(hs.2 c ?_).trans q) (λ_ q=>q) λ_ _ q=>q
  rintro rfl
  rcases hc with rfl|hc
  ·rw [hfree]at e;cases e
  ·rw [hfree]at hc;cases hc
 rcases hx with hk|hk
 ·refine wpAny_storeName_local hk hn (λh' hn' hs=>?_) hcls
  obtain⟨oL,_,_,hoL,_⟩:=id hn
  refine h _ ⟨I.ok,I.os,I.bare,⟨λb o e n hb hx=>?_,λb o e n hb hx=>?_,I.base.free,λb o e hx=>?_,I.base.tups,I.base.frzs,I.base.tbls⟩,⟨_,hn',λj y v' e1 e2 e3=>?_⟩,λy c e=>?_,I.free,I.freeC,λp hp=>?_,tracked ⟨oL,hoL,I.free⟩ hs,by simpa using I.len⟩ ⟨_,hs,.inl rfl⟩
  ·exact(hs.2 b (ne_of_lt (lt_of_lt_of_le (Heap.lt_size e) I.ok.above))).trans (I.base.keep b o e n hb hx)
  ·obtain⟨sl,e1⟩:=I.base.slot b o e n hb hx
   exact⟨sl,(hs.2 b (ne_of_lt (lt_of_lt_of_le (Heap.lt_size e) I.ok.above))).trans e1⟩
  ·obtain⟨o',e1⟩:=I.base.there b o e hx
   exact⟨o',(hs.2 b (ne_of_lt (lt_of_lt_of_le (Heap.lt_size e) I.ok.above))).trans e1⟩
  ·by_cases hj:j=i
   ·subst hj
    rw [hi]at e1;cases e1
    rw [getElem?_set_self hiσ]at e2
    cases e2
    exact⟨u,r,.inl ⟨hk,by simp⟩⟩
   ·rw [getElem?_set_ne (Ne.symm hj)]at e2
    obtain⟨u',r',q⟩:=hl j y v' e1 e2 e3
    refine⟨u',r',?_⟩
    rcases q with⟨k,e⟩|⟨k,c,e,z⟩
    ·refine .inl ⟨k,?_⟩
     have:y≠x:=λe=>hj (zSL hN e1 (e▸hi))
     simp [this,e]
    ·exact .inr ⟨k,c,e,z.sameBut hs (cne y c e)⟩
  ·obtain⟨w',z⟩:=I.cell y c e
   exact⟨w',z.sameBut hs (cne y c e)⟩
  ·obtain⟨e,n,ne,nf,d⟩:=I.pin p hp
   exact⟨(hs.2 p.1 ne).trans e,n,ne,nf,d⟩
 ·have hfn:X.fn x=true:=by
   rcases hf with z|z
   ·exact z
   ·rw [z]at hk;cases hk
  obtain⟨c,hc⟩:=I.ok.has x (.inl hk)
  obtain⟨w',z⟩:=I.cell x c hc
  refine wpAny_storeName_cell I.ok.kind hk hc z (λh' hc' hs=>?_)
  obtain⟨oc,hoc,hocd⟩:=id z
  refine h {s with heap:=h'} ⟨I.ok,I.os,I.bare,⟨λb o e n hb hx=>?_,λb o e n hb hx=>?_,I.base.free,λb o e hx=>?_,I.base.tups,I.base.frzs,I.base.tbls⟩,⟨m,hn.sameBut hs (Ne.symm (cne x c hc)),λj y v' e1 e2 e3=>?_⟩,λy c' e=>?_,I.free,I.freeC,λp hp=>?_,tracked ⟨oc,hoc,I.freeC x c hc⟩ hs,by simpa using I.len⟩ ⟨c,hs,.inr hc⟩
  ·exact(hs.2 b (ne_of_lt (lt_of_lt_of_le (Heap.lt_size e) (I.ok.cab x c hfn hc)))).trans (I.base.keep b o e n hb hx)
  ·obtain⟨sl,e1⟩:=I.base.slot b o e n hb hx
   exact⟨sl,(hs.2 b (ne_of_lt (lt_of_lt_of_le (Heap.lt_size e) (I.ok.cab x c hfn hc)))).trans e1⟩
  ·obtain⟨o',e1⟩:=I.base.there b o e hx
   exact⟨o',(hs.2 b (ne_of_lt (lt_of_lt_of_le (Heap.lt_size e) (I.ok.cab x c hfn hc)))).trans e1⟩
  ·by_cases hj:j=i
   ·subst hj
    rw [hi]at e1;cases e1
    rw [getElem?_set_self hiσ]at e2
    cases e2
    exact⟨u,r,.inr ⟨.inl hk,c,hc,hc'⟩⟩
   ·rw [getElem?_set_ne (Ne.symm hj)]at e2
    obtain⟨u',r',q⟩:=hl j y v' e1 e2 e3
    refine⟨u',r',?_⟩
    rcases q with q|⟨k,c',e,z'⟩
    ·exact .inl q
    ·refine .inr ⟨k,c',e,z'.sameBut hs ?_⟩
     rintro rfl
     exact hj (zSL hN e1 (I.ok.inj _ _ _ e hc▸hi))
  ·by_cases hcc:c'=c
   ·subst hcc;exact⟨_,hc'⟩
   ·obtain⟨w2,z2⟩:=I.cell y c' e
    exact⟨w2,z2.sameBut hs hcc⟩
  ·obtain⟨e,n,ne,nf,d⟩:=I.pin p hp
   refine⟨(hs.2 p.1 ?_).trans e,n,ne,nf,d⟩
   intro q
   rw [q,hoc]at e
   have q':oc=p.2:=Option.some.inj e
   exact d w' (by rw [<-q'];exact hocd)
theorem zSM{M:Model}{A:Around}{E:VP}{i:Nat}{x:Str}{v:V}{u:Value}{Q:Unit->Shared->Prop}(I:Inv X pins σ H s)(hN:X.N.Nodup)(hi:X.N[i]? =some x)(hx:Loc X.env.scope x)(r:RelV v u)
  (h: ∀s',Inv X pins (σ.set i (some v)) H s'->Q () s') (hf:X.fn x=true\/X.env.scope.names.lookup x=some .local:=by first |exact .inl rfl|exact .inr rfl|assumption):wpAny M A (storeName X.env x u) Q E s:=
 zOI I hN hi hx r (λs' I' _=>h s' I') hf
theorem Inv.call'{s':Shared}{ch:List Addr}(I:Inv X pins σ H s)(ho:s'.os=s.os)(u:Un (frs X.stack) ch H H' s.heap s'.heap)(hok:HOk X.prog X.w H' s'.heap)(hg:AllBare s'.gens)
  (hch: ∀b∈ch,(b∈X.ex\/X.s₀.heap.objs.size<=b)/\b≠X.env.locals/\(∀x c,X.env.cells.lookup x=some c->c≠b)/\ ∀p∈X.pn++pins,p.1≠b):Inv X pins σ H' s':=by
 obtain⟨h',g',d',t',o'⟩:=s'
 have e:o'=s.os:=ho
 subst e
 exact I.call (g':=g') (t':=t') (d':=d') u hok hg hch
end
abbrev XK:=Value->Option Addr->Hp->Prop
abbrev St:=List (Option V)
abbrev VK:=V->Hp->Prop
abbrev TE:=St->Hp->VK->Prop
abbrev TT:=St->Hp->(Bool->Hp->Prop)->Prop
abbrev TA:=St->Hp->(List V->Hp->Prop)->Prop
structure Ends where
 nx:St->Hp->Prop
 rt:VK
 bk:St->Hp->Prop:=λ_ _=>False
 ct:St->Hp->Prop:=λ_ _=>False
abbrev TS:=Ends->St->Hp->Prop
def EP(X:Cx)(pins:List (Addr×Obj))(σ:St)(Q:VK)(u:Value)(s':Shared):Prop:= ∃v H',Inv X pins σ H' s'/\RelV v u/\Q v H'
def TP(X:Cx)(pins:List (Addr×Obj))(σ:St)(Q:Bool->Hp->Prop)(b:Bool)(s':Shared):Prop:= ∃H',Inv X pins σ H' s'/\Q b H'
def AP(X:Cx)(pins:List (Addr×Obj))(σ:St)(Q:List V->Hp->Prop)(us:List Value)(s':Shared):Prop:= ∃vs H',Inv X pins σ H' s'/\Vals vs us/\Q vs H'
def SP(X:Cx)(pins:List (Addr×Obj))(D:Ends)(f:Flow)(s':Shared):Prop:=
 match f with
 |.next=> ∃σ' H',Inv X pins σ' H' s'/\D.nx σ' H'
 |.brk=> ∃σ' H',Inv X pins σ' H' s'/\D.bk σ' H'
 |.cont=> ∃σ' H',Inv X pins σ' H' s'/\D.ct σ' H'
 |.ret u=> ∃v σ' H',Inv X pins σ' H' s'/\RelV v u/\D.rt v H'
def PE(X:Cx)(e:Expr)(t:TE):Prop:=
 ∀(pins:List (Addr×Obj))(s:Shared)(σ:St)(H:Hp)(Q:VK),Inv X pins σ H s->t σ H Q->wpAny (model X.prog X.w) X.A (eval e X.env) (EP X pins σ Q) X.xe s
def PT(X:Cx)(e:Expr)(t:TT):Prop:=
 ∀(pins:List (Addr×Obj))(s:Shared)(σ:St)(H:Hp)(Q:Bool->Hp->Prop),Inv X pins σ H s->t σ H Q->wpAny (model X.prog X.w) X.A (isTrue e X.env (eval e X.env)) (TP X pins σ Q) X.xe s
def PW(X:Cx)(e:Expr)(t:TT):Prop:=
 ∀(whole:Sem Value)(pins:List (Addr×Obj))(s:Shared)(σ:St)(H:Hp)(Q:Bool->Hp->Prop),Inv X pins σ H s->t σ H Q->wpAny (model X.prog X.w) X.A (isTrue e X.env whole) (TP X pins σ Q) X.xe s
theorem PW.pt{X:Cx}{e:Expr}{t:TT}(h:PW X e t):PT X e t:=h _
def PA(X:Cx)(es:List Expr)(t:TA):Prop:=
 ∀(pos:Pos)(pins:List (Addr×Obj))(s:Shared)(σ:St)(H:Hp)(Q:List V->Hp->Prop),Inv X pins σ H s->t σ H Q->wpAny (model X.prog X.w) X.A (spliced (backTo pos (starEach es X.env))) (AP X pins σ Q) X.xe s
def PS(X:Cx)(st:Stmt)(t:TS):Prop:=
 ∀(pins:List (Addr×Obj))(s:Shared)(σ:St)(H:Hp)(D:Ends),Inv X pins σ H s->t D σ H->wpAny (model X.prog X.w) X.A (exec st X.env) (SP X pins D) X.xe s
def PSs(X:Cx)(st:List Stmt)(t:TS):Prop:=
 ∀(pins:List (Addr×Obj))(s:Shared)(σ:St)(H:Hp)(D:Ends),Inv X pins σ H s->t D σ H->wpAny (model X.prog X.w) X.A (execs st X.env) (SP X pins D) X.xe s
theorem thn{α:Type}{t:Sem α}{Q Q':α->Shared->Prop}{M:Model}{A:Around}{E:VP}{s:Shared}(h:wpAny M A t Q E s)(hQ: ∀a s,Q a s->Q' a s):wpAny M A t Q' E s:=wpAny_mono h hQ λ_ _ x=>x
section
variable{X:Cx}
def tVar(i:Nat):TE:=λσ H Q=> ∃v,σ[i]? =some (some v)/\Q v H
def tC(v:V):TE:=λ_ H Q=>Q v H
theorem yMC{i:Nat}{x:Str}{pos:Pos}(hN:X.N[i]? =some x)(hv:Vis X.env.scope x)(hd:(x==("__debug__":Str))=false:=by decide)(hcd:(x==("__classdict__":Str))=false:=by decide):PE X (.Name x pos) (tVar i):=by
 intro pins s σ H Q I h
 obtain⟨v,e,h⟩:=h
 obtain⟨m,hn,hl⟩:=I.loc
 obtain⟨u,r,l⟩:=hl i x v hN e hv
 have fin:EP X pins σ Q u s:=⟨v,H,I,r,h⟩
 rcases l with⟨hk,hm⟩|⟨hk,c,hc,hcell⟩
 ·exact wpAny_Name (wpAny_loadName_local I.ok.kind hk hn hm fin) hd
 ·rcases hk with hk|hk
  ·exact wpAny_Name (wpAny_loadName_cell I.ok.kind hk hc hcell fin) hd
  ·exact wpAny_Name (wpAny_loadName_free I.ok.kind hk hc hcell fin hcd) hd
theorem yCA{i j pos}:PE X (.Constant (.int i) j pos) (tC (.int i)):=λ_ _ _ H _ I h=>wpAny_Constant_int ⟨.int i,H,I.tok _,⟨_,rfl⟩,h⟩
theorem pe_bl{b j pos}:PE X (.Constant (.bool b) j pos) (tC (.bl b)):=λ_ _ _ H _ I h=>Constant_bool ⟨.bl b,H,I,rfl,h⟩
theorem yMD{j pos}:PE X (.Constant .none j pos) (tC .non):=λ_ _ _ H _ I h=>Constant_none ⟨.non,H,I,rfl,h⟩
theorem yME{x j pos}:PE X (.Constant (.str x) j pos) (tC (.str x)):=λ_ _ _ H _ I h=>Calls.Constant_str ⟨.str x,H,I.tok _,⟨_,rfl⟩,h⟩
def Gl(X:Cx)(x:Str):Prop:=X.env.kindOf x=some .globalImplicit
theorem yGU{E:VP}{pins:List (Addr×Obj)}{s:Shared}{σ:St}{H:Hp}{x:Str}{u:Value}{pos:Pos}{Q:VP}(I:Inv X pins σ H s)(hg:Gl X x)(hm:X.mg x=some u)(h:Q u s)
  (hd:(x==("__debug__":Str))=false:=by decide):wpAny (model X.prog X.w) X.A (eval (.Name x pos) X.env) Q E s:=
 Calls.Name_function_global I.ok.kind hg (Calls.loadGlobal_global (by rw [I.ok.glob];exact I.mod.glob.keeps I.bk) hm h) hd
theorem zLN{E:VP}{pins:List (Addr×Obj)}{s:Shared}{σ:St}{H:Hp}{x:Str}{u:Value}{pos:Pos}{Q:VP}(I:Inv X pins σ H s)(hg:Gl X x)(hm:X.mg x=none)(hv:bootBuiltins x=some u)(h:Q u s)
  (hn:x≠"__name__":=by decide) (hd:(x==("__debug__":Str))=false:=by decide):wpAny (model X.prog X.w) X.A (eval (.Name x pos) X.env) Q E s:=by
 obtain⟨mb,h1,h2⟩:=I.mod.blt
 exact Calls.Name_function_global I.ok.kind hg (Calls.loadGlobal_builtin (by rw [I.ok.glob];exact I.mod.glob.keeps I.bk) hm (by rw [I.ok.blt];exact h1.keeps I.bk) ((h2 x hn).trans hv) h) hd
variable{a b:Expr}{ta tb:TE}{pos:Pos}
variable{tA tB':TT}{gA:List Expr}
def tAnd(t u:TT):TT:=λσ H Q=>t σ H λc H1=>if c=true then u σ H1 Q else Q false H1
def tOr(t u:TT):TT:=λσ H Q=>t σ H λc H1=>if c=true then Q true H1 else u σ H1 Q
theorem yGV(ha:PT X a tA):PW X (.BoolOp .And [a] pos) tA:=by
 intro wh pins s σ H Q I h
 refine isTrue_and (thn (ha pins s σ H Q I h) λc s1 e=>?_)
 cases c with
 |true=>exact isTrue_and_nil e
 |false=>exact e
theorem yMF(ha:PT X a tA):PW X (.BoolOp .Or [a] pos) tA:=by
 intro wh pins s σ H Q I h
 refine isTrue_or (thn (ha pins s σ H Q I h) λc s1 e=>?_)
 cases c with
 |false=>exact isTrue_or_nil e
 |true=>exact e
theorem yMG(ha:PT X a tA)(hb:PW X (.BoolOp .And (b::gA) pos) tB'):PW X (.BoolOp .And (a::b::gA) pos) (tAnd tA tB'):=by
 intro wh pins s σ H Q I h
 refine isTrue_and (thn (ha pins s σ H _ I h) λc s1 ⟨H1,I1,q1⟩=>?_)
 cases c with
 |true=>exact hb wh pins s1 σ H1 Q I1 q1
 |false=>exact⟨H1,I1,q1⟩
theorem pw_or(ha:PT X a tA)(hb:PW X (.BoolOp .Or (b::gA) pos) tB'):PW X (.BoolOp .Or (a::b::gA) pos) (tOr tA tB'):=by
 intro wh pins s σ H Q I h
 refine isTrue_or (thn (ha pins s σ H _ I h) λc s1 ⟨H1,I1,q1⟩=>?_)
 cases c with
 |true=>exact⟨H1,I1,q1⟩
 |false=>exact hb wh pins s1 σ H1 Q I1 q1
def tAndV(ta tb:TE):TE:=λσ H Q=>ta σ H λx H1=> ∃c,x=.bl c/\if c=true then tb σ H1 Q else Q (.bl false) H1
def tOrV(ta tb:TE):TE:=λσ H Q=>ta σ H λx H1=> ∃c,x=.bl c/\if c=true then Q (.bl true) H1 else tb σ H1 Q
theorem yMH{op}{t:TE}(h:PE X a t):PE X (.BoolOp op [a] pos) t:=λpins s σ H Q I hw=>BoolOp_one (h pins s σ H Q I hw)
theorem yMI(ha:PE X a ta)(hb:PE X (.BoolOp .And (b::gA) pos) tb):PE X (.BoolOp .And (a::b::gA) pos) (tAndV ta tb):=by
 intro pins s σ H Q I h
 refine BoolOp_and (thn (ha pins s σ H _ I h) λv s1 ⟨x,H1,I1,r1,q1⟩=>?_)
 obtain⟨c,rfl,q1⟩:=q1
 cases r1
 refine wpAny_truthy_bool ?_
 cases c with
 |true=>exact hb pins s1 σ H1 Q I1 q1
 |false=>exact⟨.bl false,H1,I1,rfl,q1⟩
theorem pe_or(ha:PE X a ta)(hb:PE X (.BoolOp .Or (b::gA) pos) tb):PE X (.BoolOp .Or (a::b::gA) pos) (tOrV ta tb):=by
 intro pins s σ H Q I h
 refine BoolOp_or (thn (ha pins s σ H _ I h) λv s1 ⟨x,H1,I1,r1,q1⟩=>?_)
 obtain⟨c,rfl,q1⟩:=q1
 cases r1
 refine wpAny_truthy_bool ?_
 cases c with
 |false=>exact hb pins s1 σ H1 Q I1 q1
 |true=>exact⟨.bl true,H1,I1,rfl,q1⟩
end
def SqL(K:PySem.W.Frag)(H:Hp)(a:Addr)(xs:List V):Prop:=
 Rd H a (.lst xs)\/
  ∃(o:Obj)(its:Array Value)(n:Nat),K.lookup a=some o/\o.cls=.type "list"/\o.dict=none/\o.data=.seq its n/\its.size<=sizeLine/\Vals xs its.toList
def SqT(K:PySem.W.Frag)(H:Hp)(a:Addr)(xs:List V):Prop:=
 Rd H a (.tup xs)\/
  ∃(o:Obj)(its:Array Value)(n:Nat),K.lookup a=some o/\o.cls=.type "tuple"/\o.data=.seq its n/\its.size<=sizeLine/\Vals xs its.toList
def absV:Value->Option V
 |.none=>some .non
 |.bool b=>some (.bl b)
 |.int i _=>some (.int i)
 |.str x _=>some (.str x)
 |.bytes b _=>some (.byt b)
 |.float b _=>some (.flt b)
 |.ref a=>some (.ref a)
 |.type n=>some (.ty n)
 |_=>none
theorem RelV.abs{x:V}{u:Value}(r:RelV x u):absV u=some x:=by
 cases x with
 |non=>cases r;rfl
 |bl _=>cases r;rfl
 |int _=>obtain⟨t,rfl⟩:=r;rfl
 |str _=>obtain⟨t,rfl⟩:=r;rfl
 |byt _=>obtain⟨t,rfl⟩:=r;rfl
 |flt _=>obtain⟨t,rfl⟩:=r;rfl
 |ref _=>cases r;rfl
 |ty _=>cases r;rfl
theorem RelV.inj{x y:V}{u:Value}(r:RelV x u)(q:RelV y u):x=y:=Option.some.inj (r.abs.symm.trans q.abs)
theorem Vals.inj: ∀{xs ys:List V}{us:List Value},Vals xs us->Vals ys us->xs=ys
 |_,_,_,.nil,.nil=>rfl
 |_,_,_,.cons r t,.cons r' t'=>by rw [r.inj r',Vals.inj t t']
section
variable{X:Cx}{pins:List (Addr×Obj)}{σ:St}{H:Hp}{s:Shared}{a:Addr}{xs ys:List V}
theorem SqL.of{K:PySem.W.Frag}(h:H a=some (.lst xs)):SqL K H a xs:=.inl (.inl h)
theorem SqT.of{K:PySem.W.Frag}(h:H a=some (.tup xs)):SqT K H a xs:=.inl (.inl h)
theorem Inv.list(I:Inv X pins σ H s)(h:SqL X.K H a xs): ∃its:List Value,Vals xs its/\PlainL s.heap a its.toArray/\xs.length<=sizeLine:=by
 rcases h with h|⟨o,its,n,hk,hc,hd,hs,hz,r⟩
 ·obtain⟨z,its,n,r,e⟩:=h.ok I.hok
  exact⟨its,r,⟨_,n,e,rfl,rfl,rfl⟩,z⟩
 ·refine⟨its.toList,r,⟨o,n,I.kIn a o hk,hc,hd,by simpa using hs⟩,?_⟩
  have e:=r.length
  simp only [Array.length_toList]at e
  omega
theorem Inv.tuple(I:Inv X pins σ H s)(h:SqT X.K H a xs): ∃its:List Value,Vals xs its/\IsTup s.heap a its.toArray/\xs.length<=sizeLine:=by
 rcases h with h|⟨o,its,n,hk,hc,hs,hz,r⟩
 ·obtain⟨z,its,r,p⟩:=h.ok I.hok
  exact⟨its,r,p,z⟩
 ·refine⟨its.toList,r,⟨o,I.kIn a o hk,hc,n,by simpa using hs⟩,?_⟩
  have e:=r.length
  simp only [Array.length_toList]at e
  omega
theorem Inv.list_inj(I:Inv X pins σ H s)(h:SqL X.K H a xs)(h':SqL X.K H a ys):xs=ys:=by
 obtain⟨its,r,⟨o,n,e,_,_,d⟩,_⟩:=I.list h
 obtain⟨its',r',⟨o',n',e',_,_,d'⟩,_⟩:=I.list h'
 rw [e]at e';cases e'
 rw [d]at d'
 injection d' with d1 _
 have:its=its':=by simpa using congrArg Array.toList d1
 subst this
 exact r.inj r'
theorem Inv.tuple_inj(I:Inv X pins σ H s)(h:SqT X.K H a xs)(h':SqT X.K H a ys):xs=ys:=by
 obtain⟨its,r,⟨o,e,_,n,d⟩,_⟩:=I.tuple h
 obtain⟨its',r',⟨o',e',_,n',d'⟩,_⟩:=I.tuple h'
 rw [e]at e';cases e'
 rw [d]at d'
 injection d' with d1 _
 have:its=its':=by simpa using congrArg Array.toList d1
 subst this
 exact r.inj r'
end
abbrev Cx.wish(X:Cx)(E:VP):Cx:={X with xe:=E}
abbrev Cx.nox(X:Cx):Cx:=X.wish λ_ _=>False
theorem Cx.Ok.wish{X:Cx}(ok:X.Ok)(E:VP):(X.wish E).Ok:=
 ⟨ok.mod,ok.kind,ok.glob,ok.blt,ok.above,ok.inj,ok.has,ok.cab,ok.hd,ok.frames,ok.stk,ok.exf,ok.bs,ok.bsz,ok.noex,ok.exfs,ok.funs,ok.frf⟩
theorem Cx.Ok.unwish{X:Cx}{E:VP}(ok:(X.wish E).Ok):X.Ok:=
 ⟨ok.mod,ok.kind,ok.glob,ok.blt,ok.above,ok.inj,ok.has,ok.cab,ok.hd,ok.frames,ok.stk,ok.exf,ok.bs,ok.bsz,ok.noex,ok.exfs,ok.funs,ok.frf⟩
section
variable{X:Cx}{pins:List (Addr×Obj)}{σ:St}{H:Hp}{s:Shared}{E:VP}
theorem Inv.wish(I:Inv X pins σ H s)(E:VP):Inv (X.wish E) pins σ H s:=⟨I.ok.wish E,I.os,I.bare,I.base,I.loc,I.cell,I.free,I.freeC,I.pin,I.hok,I.len⟩
theorem Inv.unwish(I:Inv (X.wish E) pins σ H s):Inv X pins σ H s:=⟨I.ok.unwish,I.os,I.bare,I.base,I.loc,I.cell,I.free,I.freeC,I.pin,I.hok,I.len⟩
theorem SP.unwish{D:Ends}{f:Flow}{s':Shared}(h:SP (X.wish E) pins D f s'):SP X pins D f s':=by
 cases f with
 |next=>obtain⟨σ',H',I,q⟩:=h;exact⟨σ',H',I.unwish,q⟩
 |brk=>obtain⟨σ',H',I,q⟩:=h;exact⟨σ',H',I.unwish,q⟩
 |cont=>obtain⟨σ',H',I,q⟩:=h;exact⟨σ',H',I.unwish,q⟩
 |ret u=>obtain⟨v,σ',H',I,r,q⟩:=h;exact⟨v,σ',H',I.unwish,r,q⟩
theorem PSs.nox{st:List Stmt}{t:TS}(h:PSs X.nox st t):PSs X st t:=λpins s σ H D I hw=>
 wpAny_mono (h pins s σ H D (I.wish _) hw) (λ_ _ q=>q.unwish) λ_ _ z=>False.elim z
end
section
variable{X:Cx}{st:Stmt}{gA:List Stmt}{t u:TS}{e:Expr}{te:TE}{pos:Pos}
def tNext:TS:=λD σ H=>D.nx σ H
def tSeq(t u:TS):TS:=λD σ H=>t {D with nx:=u D} σ H
theorem yGW:PSs X [] tNext:=λ_ _ σ H _ I h=>wpAny_execs_nil ⟨σ,H,I,h⟩
theorem yCB(h1:PS X st t)(h2:PSs X gA u):PSs X (st::gA) (tSeq t u):=by
 intro pins s σ H D I h
 refine wpAny_execs_cons (thn (h1 pins s σ H {D with nx:=u D} I h) λf s1 q=>?_)
 cases f with
 |next=>
  obtain⟨σ',H',I',q⟩:=q
  exact h2 pins s1 σ' H' D I' q
 |ret v=>exact q
 |brk=>exact q
 |cont=>exact q
theorem yGX(h1:PS X st t):PSs X [st] t:=by
 intro pins s σ H D I h
 refine wpAny_execs_cons (thn (h1 pins s σ H D I h) λf s1 q=>?_)
 cases f with
 |next=>exact wpAny_execs_nil q
 |ret v=>exact q
 |brk=>exact q
 |cont=>exact q
theorem Inv.quiet{pins:List (Addr×Obj)}{σ:St}{H:Hp}{s:Shared}(I:Inv X pins σ H s):interactive X.env=false:=by simp [interactive,I.ok.kind]
def tDrop(te:TE):TS:=λD σ H=>te σ H λ_ H1=>D.nx σ H1
theorem yGY(he:PE X e te)(hs:swapsWith e none pos.line X.env=pure false:=by rfl):PS X (.Expr e pos) (tDrop te):=by
 intro pins s σ H D I h
 exact wpAny_Expr_any (thn (he pins s σ H _ I h) λv s1 ⟨x,H1,I1,r1,q1⟩=>⟨σ,H1,I1,q1⟩) I.quiet hs
def tRet(te:TE):TS:=λD σ H=>te σ H D.rt
theorem yMJ(he:PE X e te):PS X (.Return (some e) pos) (tRet te):=by
 intro pins s σ H D I h
 exact wpAny_Return_some (thn (he pins s σ H _ I h) λv s1 ⟨x,H1,I1,r1,q1⟩=>⟨x,σ,H1,I1,r1,q1⟩)
def tIfS(c:TT)(t u:TS):TS:=λD σ H=>c σ H λb H1=>if b=true then t D σ H1 else u D σ H1
theorem ps_if{c:Expr}{a b:List Stmt}{tc:TT}(hc:PT X c tc)(ha:PSs X a t)(hb:PSs X b u):PS X (.If c a b pos) (tIfS tc t u):=by
 intro pins s σ H D I h
 refine wpAny_If (thn (hc pins s σ H _ I h) λd s1 ⟨H1,I1,q1⟩=>?_)
 cases d with
 |true=>exact ha pins s1 σ H1 D I1 q1
 |false=>exact hb pins s1 σ H1 D I1 q1
def yMK:TS:=λ_ _ _=>False
theorem yCC:PS X st yMK:=λ_ _ _ _ _ _ h=>h.elim
end
abbrev TG:=V->St->Hp->(St->Hp->Prop)->Prop
abbrev TGs:=List V->St->Hp->(St->Hp->Prop)->Prop
def PG(X:Cx)(target:Expr)(t:TG):Prop:=
 ∀(pins:List (Addr×Obj))(s:Shared)(σ:St)(H:Hp)(v:V)(u:Value)(Q:St->Hp->Prop),Inv X pins σ H s->RelV v u->t v σ H Q->
  wpAny (model X.prog X.w) X.A (assign target X.env u) (λ_ s'=> ∃σ' H',Inv X pins σ' H' s'/\Q σ' H') X.xe s
def PGs(X:Cx)(ts:List Expr)(t:TGs):Prop:=
 ∀(pins:List (Addr×Obj))(s:Shared)(σ:St)(H:Hp)(vs:List V)(us:List Value)(Q:St->Hp->Prop),Inv X pins σ H s->Vals vs us->t vs σ H Q->
  wpAny (model X.prog X.w) X.A (assignInOrder ((assignEach ts X.env).map (·.2)) us) (λ_ s'=> ∃σ' H',Inv X pins σ' H' s'/\Q σ' H') X.xe s
abbrev TSet:=V->V->V->Hp->(Hp->Prop)->Prop
def PSet(X:Cx)(t:TSet):Prop:=
 ∀(pins:List (Addr×Obj))(s:Shared)(σ:St)(H:Hp)(o i v:V)(ov iv u:Value)(Q:Hp->Prop),Inv X pins σ H s->RelV o ov->RelV i iv->RelV v u->t o i v H Q->
  wpAny (model X.prog X.w) X.A (setItem ov iv u) (λ_ s'=> ∃H',Inv X pins σ H' s'/\Q H') X.xe s
section
variable{X:Cx}{pos:Pos}
def yCD(i:Nat):TG:=λv σ H Q=>Q (σ.set i (some v)) H
theorem zXJ{i:Nat}{x:Str}(hN:X.N.Nodup)(hi:X.N[i]? =some x)(hx:Loc X.env.scope x)(hf:X.fn x=true\/X.env.scope.names.lookup x=some .local:=by first |exact .inl rfl|exact .inr rfl|assumption):PG X (.Name x pos) (yCD i):=by
 intro pins s σ H v u Q I r h
 exact wpAny_assign_Name (zSM I hN hi hx r (λs' I'=>⟨_,H,I',h⟩) hf)
def gNil:TGs:=λvs σ H Q=>vs=[]/\Q σ H
def gCons(t:TG)(u:TGs):TGs:=λvs σ H Q=> ∃v r,vs=v::r/\t v σ H λσ' H'=>u r σ' H' Q
theorem yGZ:PGs X [] gNil:=by
 intro pins s σ H vs us Q I r h
 obtain⟨e,h⟩:=h
 subst e
 cases r
 exact assignInOrder_nil ⟨σ,H,I,h⟩
theorem yCE{e:Expr}{es:List Expr}{t:TG}{u:TGs}(h1:PG X e t)(h2:PGs X es u)
  (hs:(assignEach (e::es) X.env).map (·.2)=assign e X.env::(assignEach es X.env).map (·.2):=by rfl):PGs X (e::es) (gCons t u):=by
 intro pins s σ H vs us Q I r h
 obtain⟨v,vr,e1,h⟩:=h
 subst e1
 cases r with
 |cons r rr=>
  rw [hs]
  refine assignInOrder_cons (thn (h1 pins s σ H _ _ _ I r h) λ_ s1 ⟨σ1,H1,I1,q1⟩=>?_)
  exact h2 pins s1 σ1 H1 _ _ Q I1 rr q1
def gTup(K:PySem.W.Frag)(n:Nat)(t:TGs):TG:=λv σ H Q=> ∃a xs,v=.ref a/\SqT K H a xs/\xs.length=n/\t xs σ H Q
theorem yML{es:List Expr}{k:Nat}{t:TGs}{n:Nat}(hc:X.calm=true)(h:PGs X es t)
  (hn:(assignEach es X.env).length=n:=by rfl) (hst:(assignEach es X.env).findIdx? (·.1)=none:=by rfl):PG X (.Tuple es k pos) (gTup X.K n t):=by
 intro pins s σ H v u Q I r hw
 obtain⟨a,xs,e1,hq,hl,hw⟩:=hw
 subst e1
 cases r
 obtain⟨its,rv,ht,hz⟩:=I.tuple hq
 refine assign_Tuple_tuple (I.ok.hd hc) ht (by simp [hn, <-hl,rv.length]) hst λh' hx=>?_
 have I1:Inv X pins σ H {s with heap:=h'}:=I.kept (t':=s.toks) λb o e=>hx b o (ne_of_lt (Heap.lt_size e)) e
 exact h pins _ σ H xs _ Q I1 (by simpa using rv) hw
def gSub(to ti:TE)(t:TSet):TG:=λv σ H Q=>to σ H λo H1=>ti σ H1 λi H2=>t o i v H2 λH3=>Q σ H3
theorem yCF{o i:Expr}{to ti:TE}{t:TSet}(ho:PE X o to)(hi:PE X i ti)(hs:PSet X t)
  (ha: ∀v,assign (.Subscript o i pos) X.env v=(do
   let ov <-holding [v] (eval o X.env)
   let iv <-holding [v,ov] (eval i X.env)
   standAt pos
   holding [v,ov,iv] (setItem ov iv v)
   release [v,ov,iv] []):=by intro _;rfl):PG X (.Subscript o i pos) (gSub to ti t):=by
 intro pins s σ H v u Q I r h
 rw [ha]
 refine wB0 (wpAny_holding (thn (ho pins s σ H _ I h) λov s1 ⟨x,H1,I1,r1,q1⟩=>?_))
 refine wB0 (wpAny_holding (thn (hi pins s1 σ H1 _ I1 q1) λiv s2 ⟨y,H2,I2,r2,q2⟩=>?_))
 refine wB0 (wpAny_standAt (wB0 (wpAny_holding (thn (hs pins s2 σ H2 x y v ov iv u _ I2 r1 r2 r q2) λ_ s3 ⟨H3,I3,q3⟩=>?_))))
 exact wpAny_release ⟨σ,H3,I3,q3⟩
def tAsg(te:TE)(g:TG):TS:=λD σ H=>te σ H λx H1=>g x σ H1 D.nx
theorem yMM{tg e:Expr}{te:TE}{g:TG}(he:PE X e te)(hg:PG X tg g)(hs:swapsWithSole [tg] e pos.line X.env=pure false:=by rfl)(hw:swappedStores [tg] e X.env=pure none:=by rfl)
  (h1:(assignEach [tg] X.env).map (·.2)=[assign tg X.env]:=by rfl):PS X (.Assign [tg] e pos) (tAsg te g):=by
 intro pins s σ H D I h
 refine wpAny_Assign_stores (thn (he pins s σ H _ I h) λv s1 ⟨x,H1,I1,r1,q1⟩=>?_) hs hw
 rw [h1]
 exact thn (hg pins s1 σ H1 x v _ I1 r1 q1) λ_ s2 q=>q
theorem yMN{i:Nat}{x:Str}{e:Expr}{te:TE}{pos':Pos}(hN:X.N.Nodup)(hi:X.N[i]? =some x)(hx:Loc X.env.scope x)(he:PE X e te)(hs:swapsWith e (some (.Name x pos')) pos.line X.env=pure false:=by rfl)(hf:X.fn x=true\/X.env.scope.names.lookup x=some .local:=by first |exact .inl rfl|exact .inr rfl|assumption):
  PS X (.Assign [.Name x pos'] e pos) (tAsg te (yCD i)):=by
 intro pins s σ H D I h
 refine wpAny_Assign_Name (thn (he pins s σ H _ I h) λv s1 ⟨y,H1,I1,r1,q1⟩=>?_) hs
 exact zSM I1 hN hi hx r1 (λs2 I2=>⟨_,H1,I2,q1⟩) hf
end
section
variable{X:Cx}{pos:Pos}
def yMO(c:TT)(tb:TS):TS:=λD σ H=> ∃W:Nat->St->Hp->Prop,(∃m,W m σ H)/\ ∀m σ H,W m σ H->
 c σ H λb H1=>if b=true then∃N:St->Hp->Prop,(∀σ' H',N σ' H'-> ∃m',m'<m/\W m' σ' H')/\tb {D with nx:=N,ct:=N,bk:=D.nx} σ H1 else D.nx σ H1
theorem yCG{c:Expr}{body:List Stmt}{tc:TT}{tb:TS}(hp:PassesOwn (model X.prog X.w) X.A X.env X.xe)(hc:PT X c tc)(hb:PSs X body tb):PS X (.While c body [] pos) (yMO tc tb):=by
 intro pins s σ H D I h
 obtain⟨W,⟨m0,w0⟩,turn⟩:=h
 refine wpAny_While (codeAny_whileLoop (λn s'=> ∃σ' H',Inv X pins σ' H' s'/\W n σ' H') ?_ m0 ⟨σ,H,I,w0⟩)
 rintro n s1 ⟨σ1,H1,I1,w1⟩
 refine wpAny_passesOwn hp (thn (hc pins s1 σ1 H1 _ I1 (turn n σ1 H1 w1)) λb s2 ⟨H2,I2,q2⟩=>?_)
 cases b with
 |true=>
  obtain⟨N,hN,q2⟩:=q2
  rw [iP rfl]
  refine wpAny_passesOwn hp (thn (hb pins s2 σ1 H2 _ I2 q2) λf s3 q3=>?_)
  cases f with
  |next=>
   obtain⟨σ3,H3,I3,n3⟩:=q3
   obtain⟨m',hm,w3⟩:=hN σ3 H3 n3
   exact⟨m',hm,σ3,H3,I3,w3⟩
  |cont=>
   obtain⟨σ3,H3,I3,n3⟩:=q3
   obtain⟨m',hm,w3⟩:=hN σ3 H3 n3
   exact⟨m',hm,σ3,H3,I3,w3⟩
  |brk=>exact q3
  |ret v=>exact q3
 |false=>
  rw [iN xF0]
  exact wpAny_execs_nil ⟨σ1,H2,I2,q2⟩
end
structure It where
 go:Nat->Hp->Prop
 yld:Nat->Hp->V->Hp->Prop
 stop:Nat->Hp->Prop
def zGX(X:Cx)(pins:List (Addr×Obj))(H:Hp)(b:Addr):Prop:=
 H b=none/\b≠X.env.locals/\b∉X.fs/\(b∈X.ex\/X.s₀.heap.objs.size<=b)/\(∀x c,X.env.cells.lookup x=some c->c≠b)/\ ∀p∈X.pn++pins,p.1≠b
theorem Inv.fpOk{X:Cx}{pins:List (Addr×Obj)}{σ:St}{H H':Hp}{s:Shared}{b:Addr}(I:Inv X pins σ H s)(hb:s.heap.objs.size<=b)(hn:H' b=none):zGX X pins H' b:=by
 refine⟨hn,ne_of_gt (lt_of_lt_of_le I.lt hb),I.nofs hb,.inr (le_trans I.sz hb),λx c e z=>?_,λp hp z=>?_⟩
 ·obtain⟨v,q⟩:=I.cell x c e
  exact absurd (lt_of_lt_of_le q.lt (by rw [z];exact hb)) (lt_irrefl _)
 ·exact absurd (lt_of_lt_of_le (Heap.lt_size (I.pin p hp).1) (by rw [z];exact hb)) (lt_irrefl _)
structure Turn(P:Program)(w:World)(K:PySem.W.Frag)(tg:Expr)(J:It)(fp:List Addr)(it:Addr)(tn:Nat->Heap->Prop):Prop where
 mem:it∈fp
 obj: ∀i h,tn i h-> ∀b∈fp, ∃o,h.get? b=some o/\ ∀v,o.data≠.cell v
 keep: ∀i h h',tn i h->(∀b∈fp, ∀o,h.get? b=some o->h'.get? b=some o)->tn i h'
 item: ∀(X:Cx),X.prog=P->X.w=w->X.K=K->X.calm=true-> ∀(i:Nat)(pins:List (Addr×Obj))(s:Shared)(σ:St)(H:Hp)(E:VP),Inv X pins σ H s->(∀b∈fp,zGX X pins H b)->tn i s.heap->J.go i H->
  wpAny (model P w) X.A (pyNext (.ref it)) (λr s1=> ∃u,r=some u/\
   wpAny (model P w) X.A (letOwnedTupleGo tg (.ref it) u) (λ_ s2=> ∃x H',Inv X pins σ H' s2/\RelV x u/\J.yld i H x H'/\tn (i+1) s2.heap/\ ∀b∈fp,H' b=none) E s1) E s
 done: ∀(X:Cx),X.prog=P->X.w=w->X.K=K->X.calm=true-> ∀(i:Nat)(pins:List (Addr×Obj))(s:Shared)(σ:St)(H:Hp)(E:VP),Inv X pins σ H s->(∀b∈fp,zGX X pins H b)->tn i s.heap->J.stop i H->
  wpAny (model P w) X.A (pyNext (.ref it)) (λr s1=>r=none/\Inv X pins σ H s1) E s
 self: ∀(A:Around)(i:Nat)(s:Shared)(Q:VP)(E:VP),tn i s.heap->Q (.ref it) s->wpAny (model P w) A (pyIter (.ref it)) Q E s
abbrev TI:=St->Hp->(It->Hp->Prop)->Prop
def PIE(X:Cx)(pins:List (Addr×Obj))(σ:St)(tg:Expr)(R:It->Hp->Prop)(itv:Value)(s2:Shared):Prop:=
 ∃(it:Addr)(fp:List Addr)(tn:Nat->Heap->Prop)(J:It)(H':Hp),itv=.ref it/\Inv X pins σ H' s2/\Turn X.prog X.w X.K tg J fp it tn/\tn 0 s2.heap/\(∀b∈fp,zGX X pins H' b)/\R J H'
def PI(X:Cx)(tg iter:Expr)(wi:TI):Prop:=
 ∀(pins:List (Addr×Obj))(s:Shared)(σ:St)(H:Hp)(R:It->Hp->Prop),Inv X pins σ H s->wi σ H R->
  wpAny (model X.prog X.w) X.A (eval iter X.env) (λv s1=>wpAny (model X.prog X.w) X.A (pyIter v) (PIE X pins σ tg R) X.xe s1) X.xe s
theorem zXK{M:Model}{A:Around}{E:VP}{s:Shared}{tg:Expr}{it:Addr}{u:Value}{o:Obj}{n:String}{vs:Array Value}{Q:Unit->Shared->Prop}(ho:s.heap.get? it=some o)(hc:o.cls=.type n)(hd:o.data=.fields vs)
  (hn:["enumerate","zip","dict_itemiterator","dict_reverseitemiterator","odict_iterator","itertools.zip_longest","itertools.pairwise"].contains n=false) (hQ:Q () s):wpAny M A (letOwnedTupleGo tg (.ref it) u) Q E s:=by
 unfold letOwnedTupleGo
 cases tg<;>first
  |exact wP0 hQ
  |(cases u<;>first
    |exact wP0 hQ
    |(refine wB0 (wpAny_load ho ?_)
      rw [hc,hd]
      show wpAny M A (if(["enumerate","zip","dict_itemiterator","dict_reverseitemiterator","odict_iterator","itertools.zip_longest","itertools.pairwise"].contains n&&vs[0]? ==some (rawInt _))=true then _ else _) Q E s
      rw [iN (by intro h;rw [hn,Bool.false_and]at h;cases h)]
      exact wP0 hQ))
def Itl(K:PySem.W.Frag)(a:Addr):It:=
 ⟨λi H=> ∃xs x,SqL K H a xs/\xs[i]? =some x,λi H x H'=>H'=H/\ ∀xs,SqL K H a xs->xs[i]? =some x,λi H=> ∃xs,SqL K H a xs/\xs.length<=i⟩
def Itt(K:PySem.W.Frag)(a:Addr):It:=
 ⟨λi H=> ∃xs x,SqT K H a xs/\xs[i]? =some x,λi H x H'=>H'=H/\ ∀xs,SqT K H a xs->xs[i]? =some x,λi H=> ∃xs,SqT K H a xs/\xs.length<=i⟩
def Itr(lo:Int)(n:Nat):It:=⟨λi _=>i<n,λi H x H'=>H'=H/\x=.int (lo+i),λi _=>n<=i⟩
theorem zOJ{P:Program}{w:World}{K:PySem.W.Frag}{tg:Expr}(a it:Addr):Turn P w K tg (Itl K a) [it] it (λi h=>h.IsListIter it a i) where
 mem:=by simp
 obj:=λi h st b hb=>by
  have e:b=it:=by simpa using hb
  subst e
  obtain⟨o,e,c,d⟩:=st
  exact⟨o,e,λv z=>by rw [d]at z;cases z⟩
 keep:=λi h h' st k=>st.at λo e=>k it (by simp) o e
 item:=by
  intro X hP hw hK hc i pins s σ H E I hf st hg
  subst hP hw hK
  obtain⟨xs,x,hq,hx⟩:=hg
  obtain⟨its,rv,p,hz⟩:=I.list hq
  obtain⟨u,hu,ru⟩:=rv.get hx
  obtain⟨f0,f1,f2,f3,f4,f5⟩:=hf it (by simp)
  refine wpAny_pyNext_list_item st p.isList (x:=u) (by simpa using hu) λh' st' sb=>?_
  have I1:Inv X pins σ H {s with heap:=h'}:=I.turned (t':=s.toks) (λb o hb e=>(sb.2 b hb).trans e) f0 f1 f3 f4 f5
  obtain⟨o,e,c,d⟩:=id st'
  exact⟨u,rfl,zXK (s:={s with heap:=h'}) e c d (by decide) ⟨x,H,I1,ru,⟨rfl,λys hy=>by rw [I.list_inj hy hq];exact hx⟩,st',λb hb=>(hf b hb).1⟩⟩
 done:=by
  intro X hP hw hK hc i pins s σ H E I hf st hg
  subst hP hw hK
  obtain⟨xs,hq,hx⟩:=hg
  obtain⟨its,rv,p,hz⟩:=I.list hq
  obtain⟨f0,f1,f2,f3,f4,f5⟩:=hf it (by simp)
  have hl:=rv.length
  exact wpAny_pyNext_list_end (I.ok.hd hc) st p.isList (by simp;omega) λh' eb=>⟨rfl,I.turned (t':=s.toks) (λb o hb e=>eb b o hb e) f0 f1 f3 f4 f5⟩
 self:=λ_ _ _ _ _ st h=>wpAny_pyIter_listiter st h
theorem zLO{P:Program}{w:World}{K:PySem.W.Frag}{tg:Expr}(a it:Addr):Turn P w K tg (Itt K a) [it] it (λi h=>h.IsTupleIter it a i) where
 mem:=by simp
 obj:=λi h st b hb=>by
  have e:b=it:=by simpa using hb
  subst e
  obtain⟨o,e,c,d⟩:=st
  exact⟨o,e,λv z=>by rw [d]at z;cases z⟩
 keep:=λi h h' st k=>st.at λo e=>k it (by simp) o e
 item:=by
  intro X hP hw hK hc i pins s σ H E I hf st hg
  subst hP hw hK
  obtain⟨xs,x,hq,hx⟩:=hg
  obtain⟨its,rv,p,hz⟩:=I.tuple hq
  obtain⟨u,hu,ru⟩:=rv.get hx
  obtain⟨f0,f1,f2,f3,f4,f5⟩:=hf it (by simp)
  refine wpAny_pyNext_tuple_item st (show s.heap.IsTuple a its.toArray from p) (x:=u) (by simpa using hu) λh' st' sb=>?_
  have I1:Inv X pins σ H {s with heap:=h'}:=I.turned (t':=s.toks) (λb o hb e=>(sb.2 b hb).trans e) f0 f1 f3 f4 f5
  obtain⟨o,e,c,d⟩:=id st'
  exact⟨u,rfl,zXK (s:={s with heap:=h'}) e c d (by decide) ⟨x,H,I1,ru,⟨rfl,λys hy=>by rw [I.tuple_inj hy hq];exact hx⟩,st',λb hb=>(hf b hb).1⟩⟩
 done:=by
  intro X hP hw hK hc i pins s σ H E I hf st hg
  subst hP hw hK
  obtain⟨xs,hq,hx⟩:=hg
  obtain⟨its,rv,p,hz⟩:=I.tuple hq
  obtain⟨f0,f1,f2,f3,f4,f5⟩:=hf it (by simp)
  have hl:=rv.length
  exact wpAny_pyNext_tuple_end (I.ok.hd hc) st (show s.heap.IsTuple a its.toArray from p) (by simp;omega) λh' eb=>⟨rfl,I.turned (t':=s.toks) (λb o hb e=>eb b o hb e) f0 f1 f3 f4 f5⟩
 self:=λ_ _ _ _ _ st h=>wpAny_pyIter_tupleiter st h
theorem zVO{P:Program}{w:World}{K:PySem.W.Frag}{tg:Expr}(it:Addr)(lo:Int)(n:Nat):Turn P w K tg (Itr lo n) [it] it (λi h=>IsRangeIter h it (lo+(i:Nat) * 1) ((n:Int) - (i:Nat)) 1) where
 mem:=by simp
 obj:=λi h st b hb=>by
  have e:b=it:=by simpa using hb
  subst e
  exact⟨_,st,λv z=>by
   have z':Data.fields _=Data.cell v:=z
   cases z'⟩
 keep:=λi h h' st k=>k it (by simp) _ st
 item:=by
  intro X hP hw hK hc i pins s σ H E I hf st hg
  subst hP hw hK
  obtain⟨f0,f1,f2,f3,f4,f5⟩:=hf it (by simp)
  have W:=Walks.range (prog:=X.prog) (w:=X.w) (I.ok.hd hc) it lo 1 n
  refine W.item i s _ _ hg st λv h' tk hv st' kk=>?_
  obtain⟨t,rfl⟩:=hv
  have I1:Inv X pins σ H {s with heap:=h',toks:=tk}:=I.turned (λb o hb e=>kk b o (by simpa using hb) e) f0 f1 f3 f4 f5
  refine⟨_,rfl,zXK (s:={s with heap:=h',toks:=tk}) (n:="range_iterator") st' rfl rfl (by decide) ⟨.int (lo+i),H,I1,⟨t,?_⟩,⟨rfl,rfl⟩,st',λb hb=>(hf b hb).1⟩⟩
  rw [Int.mul_one]
 done:=by
  intro X hP hw hK hc i pins s σ H E I hf st hg
  subst hP hw hK
  obtain⟨f0,f1,f2,f3,f4,f5⟩:=hf it (by simp)
  exact wpAny_pyNext_range_end (I.ok.hd hc) st (by have:n<=i:=hg;omega) λh' eb=>⟨rfl,I.turned (t':=s.toks) (λb o hb e=>eb b o hb e) f0 f1 f3 f4 f5⟩
 self:=λ_ _ _ _ _ st h=>wpAny_pyIter_rangeiter st h
section
variable{X:Cx}{tg:Expr}
def iList(K:PySem.W.Frag)(tl:TE):TI:=λσ H R=>tl σ H λx H1=> ∃a,x=.ref a/\(∃xs,SqL K H1 a xs)/\R (Itl K a) H1
def iTup(K:PySem.W.Frag)(tl:TE):TI:=λσ H R=>tl σ H λx H1=> ∃a,x=.ref a/\(∃xs,SqT K H1 a xs)/\R (Itt K a) H1
theorem yHA{l:Expr}{tl:TE}(hl:PE X l tl):PI X tg l (iList X.K tl):=by
 intro pins s σ H R I h
 refine thn (hl pins s σ H _ I h) λv s1 ⟨x,H1,I1,r1,q1⟩=>?_
 obtain⟨a,e,⟨xs,hq⟩,q⟩:=q1
 subst e
 cases r1
 obtain⟨its,rv,p,hz⟩:=I1.list hq
 refine wpAny_pyIter_list p.isList ?_
 refine⟨s1.heap.objs.size,[s1.heap.objs.size],_,_,H1,rfl,I1.kept (t':=s1.toks) λb o e=>hP0 _ e,zOJ a _,⟨_,Heap.get?_push_size _ rfl,rfl,rfl⟩,λb hb=>?_,q⟩
 have e:b=s1.heap.objs.size:=by simpa using hb
 subst e
 exact I1.fpOk (le_refl _) (I1.hok.fresh (le_refl _))
theorem yMP{l:Expr}{tl:TE}(hl:PE X l tl):PI X tg l (iTup X.K tl):=by
 intro pins s σ H R I h
 refine thn (hl pins s σ H _ I h) λv s1 ⟨x,H1,I1,r1,q1⟩=>?_
 obtain⟨a,e,⟨xs,hq⟩,q⟩:=q1
 subst e
 cases r1
 obtain⟨its,rv,p,hz⟩:=I1.tuple hq
 refine wpAny_pyIter_tuple (show s1.heap.IsTuple a its.toArray from p) ?_
 refine⟨s1.heap.objs.size,[s1.heap.objs.size],_,_,H1,rfl,I1.kept (t':=s1.toks) λb o e=>hP0 _ e,zLO a _,⟨_,Heap.get?_push_size _ rfl,rfl,rfl⟩,λb hb=>?_,q⟩
 have e:b=s1.heap.objs.size:=by simpa using hb
 subst e
 exact I1.fpOk (le_refl _) (I1.hok.fresh (le_refl _))
theorem zSN{pins:List (Addr×Obj)}{σ:St}{H:Hp}{s:Shared}{R:It->Hp->Prop}{E:VP}{lo hi:Int}{t u v:Tok}{tk:Nat}(I:Inv X pins σ H s)(h1: -(2 ^ 62)<=lo)(h2:lo<2 ^ 62)(h3: -(2 ^ 62)<=hi)(h4:hi<2 ^ 62)
  (q:R (Itr lo (hi - lo).toNat) H):wpAny (model X.prog X.w) X.A (pyIter (.ref s.heap.objs.size)) (PIE X pins σ tg R) E {s with heap:=s.heap.push {cls:=.type "range",data:=.fields #[.int lo t,.int hi u,.int 1 v]},toks:=tk}:=by
 refine wpAny_pyIter_range (IsRange.new ..) (small_one h1 h2 h3 h4) ?_
 have I1:Inv X pins σ H {s with heap:=s.heap.push {cls:=.type "range",data:=.fields #[.int lo t,.int hi u,.int 1 v]},toks:=tk}:=I.kept λb o e=>hP0 _ e
 refine⟨(s.heap.push {cls:=.type "range",data:=.fields #[.int lo t,.int hi u,.int 1 v]}).objs.size,[(s.heap.push {cls:=.type "range",data:=.fields #[.int lo t,.int hi u,.int 1 v]}).objs.size],_,_,H,rfl,
  I1.kept (t':=tk) λb o e=>hP0 _ e,zVO _ lo (hi - lo).toNat,?_,λb hb=>?_,q⟩
 ·have e1:lo+((0:Nat):Int) * 1=lo:=by simp
  have e2:(((hi - lo).toNat:Nat):Int) - ((0:Nat):Int)=Builtin.Range.rangeSize lo hi 1:=by rw [rangeSize_one];split<;>omega
  show IsRangeIter _ _ (lo+((0:Nat):Int) * 1) ((((hi - lo).toNat:Nat):Int) - ((0:Nat):Int)) 1
  rw [e1,e2]
  exact Heap.get?_push_size _ rfl
 ·have e:b=(s.heap.push {cls:=.type "range",data:=.fields #[.int lo t,.int hi u,.int 1 v]}).objs.size:=by simpa using hb
  subst e
  exact I1.fpOk (le_refl _) (I1.hok.fresh (le_refl _))
def iRng1(ta:TA):TI:=λσ H R=>ta σ H λvs H1=> ∃j:Int,vs=[.int j]/\ -(2 ^ 62)<=j/\j<2 ^ 62/\R (Itr 0 j.toNat) H1
def iRng2(ta:TA):TI:=λσ H R=>ta σ H λvs H1=> ∃i j:Int,vs=[.int i,.int j]/\(-(2 ^ 62)<=i/\i<2 ^ 62/\ -(2 ^ 62)<=j/\j<2 ^ 62)/\R (Itr i (j - i).toNat) H1
theorem yAH{a:Expr}{ta:TA}{p pos:Pos}(hg:Gl X "range")(hm:X.mg "range"=none)(ha:PA X [a] ta)(hs:starEach [a] X.env=[(false,eval a X.env)]:=by rfl):PI X tg (.Call (.Name "range" p) [a] [] pos) (iRng1 ta):=by
 intro pins s σ H R I h
 refine Call_ (zLN I hg hm boot_range (PyProof.Rows.callWith_type1 (thn (ha pos pins s σ H _ I h) λus s1 ⟨vs,H1,I1,r1,q1⟩=>?_) hs rfl))
 obtain⟨j,e,q1,q2,q⟩:=q1
 subst e
 cases r1 with
 |cons r rr=>
  cases rr
  obtain⟨t,rfl⟩:=r
  exact call_range_1 (zSN I1 (by omega) (by omega) q1 q2 (by simpa using q))
theorem yAI{a b:Expr}{ta:TA}{p pos:Pos}(hg:Gl X "range")(hm:X.mg "range"=none)(ha:PA X [a,b] ta)(hs:starEach [a,b] X.env=[(false,eval a X.env),(false,eval b X.env)]:=by rfl)(hs2:starEach [b] X.env=[(false,eval b X.env)]:=by rfl):
  PI X tg (.Call (.Name "range" p) [a,b] [] pos) (iRng2 ta):=by
 intro pins s σ H R I h
 refine Call_ (zLN I hg hm boot_range (PyProof.Rows.callWith_type1 (thn (ha pos pins s σ H _ I h) λus s1 ⟨vs,H1,I1,r1,q1⟩=>?_) (by rw [hs,hs2]) (by rw [hs2];rfl)))
 obtain⟨i,j,e,⟨q1,q2,q3,q4⟩,q⟩:=q1
 subst e
 cases r1 with
 |cons r rr=>
  cases rr with
  |cons r' rr=>
   cases rr
   obtain⟨t,rfl⟩:=r
   obtain⟨t',rfl⟩:=r'
   exact call_range_2 (zSN I1 q1 q2 q3 q4 q)
def tFor(wi:TI)(g:TG)(tb:TS):TS:=λD σ H=>wi σ H λJ H1=> ∃W:Nat->Nat->St->Hp->Prop,(∃m,W 0 m σ H1)/\ ∀i m σ H,W i m σ H->
 (J.stop i H/\D.nx σ H)\/(J.go i H/\ ∃N:St->Hp->Prop,(∀σ' H',N σ' H'-> ∃m',m'<m/\W (i+1) m' σ' H')/\ ∀x H',J.yld i H x H'->g x σ H' λσ2 H2=>tb {D with nx:=N,ct:=N,bk:=D.nx} σ2 H2)
def zIR(fp:List Addr)(h:Heap):List (Addr×Obj):=fp.filterMap λb=>(h.get? b).map λo=>(b,o)
theorem zGY{fp:List Addr}{h:Heap}{b:Addr}{o:Obj}(hb:b∈fp)(e:h.get? b=some o):(b,o)∈zIR fp h:=mem_filterMap.mpr ⟨b,hb,by rw [e];rfl⟩
theorem yAJ{fp:List Addr}{h:Heap}{p:Addr×Obj}(hp:p∈zIR fp h):p.1∈fp/\h.get? p.1=some p.2:=by
 obtain⟨b,hb,e⟩:=mem_filterMap.mp hp
 cases q:h.get? b with
 |none=>rw [q]at e;cases e
 |some o=>
  rw [q]at e
  have e':(b,o)=p:=Option.some.inj e
  subst e'
  exact⟨hb,q⟩
theorem Inv.pinned{pins:List (Addr×Obj)}{σ:St}{H:Hp}{s:Shared}{fp:List Addr}(I:Inv X pins σ H s)(hf: ∀b∈fp,zGX X pins H b)(ho: ∀b∈fp, ∃o,s.heap.get? b=some o/\ ∀v,o.data≠.cell v):Inv X (pins++zIR fp s.heap) σ H s:=
 I.pins_of λp hp=>(mem_append.mp hp).elim (λz=>I.pin p (mem_append_right _ z)) λz=>by
  obtain⟨hb,e⟩:=yAJ z
  obtain⟨f0,f1,f2,_⟩:=hf p.1 hb
  obtain⟨o,e',d⟩:=ho p.1 hb
  rw [e]at e';cases e'
  exact⟨e,f0,f1,f2,d⟩
theorem Inv.unpinned{pins pl:List (Addr×Obj)}{σ:St}{H:Hp}{s:Shared}(I:Inv X (pins++pl) σ H s):Inv X pins σ H s:=I.pins_of λp hp=>I.pin p (mem_append_right _ (mem_append_left _ hp))
theorem yMQ{iter:Expr}{body:List Stmt}{wi:TI}{g:TG}{tb:TS}{pos:Pos}(hp:PassesOwn (model X.prog X.w) X.A X.env X.xe)(hc:X.calm=true)(hi:PI X tg iter wi)(hg:PG X tg g)(hb:PSs X body tb)
  (hs: ∀x,foldedSetIterable iter X.env x=pure x:=by intro _;rfl):PS X (.For tg iter body [] pos) (tFor wi g tb):=by
 intro pins s σ H D I h
 refine wpAny_For (thn (hi pins s σ H _ I h) λv s1 h1=>thn h1 λitv s2 h2=>?_) hs
 obtain⟨it,fp,tn,J,H2,e,I2,T,st2,f2,W,⟨m0,w0⟩,turn⟩:=h2
 subst e
 have stat: ∀{H':Hp},(∀b∈fp,H' b=none)-> ∀b∈fp,zGX X pins H' b:=λhn b hb=>⟨hn b hb,(f2 b hb).2⟩
 refine codeAny_forLoop_any (λn s'=> ∃i σ' H',Inv X pins σ' H' s'/\tn i s'.heap/\(∀b∈fp,H' b=none)/\W i n σ' H') ?_ m0 ⟨0,σ,H2,I2,st2,λb hb=>(f2 b hb).1,w0⟩
 rintro n s3 ⟨i,σ3,H3,I3,st3,fr3,w3⟩
 rcases turn i n σ3 H3 w3 with⟨stop,qn⟩|⟨go,N,hN,step⟩
 ·refine wpAny_passesOwn hp (thn (T.done X rfl rfl rfl hc i pins s3 σ3 H3 X.xe I3 (stat fr3) st3 stop) λr s4 ⟨hr,I4⟩=>?_)
  subst hr
  exact wpAny_execs_nil ⟨σ3,H3,I4,qn⟩
 ·refine wpAny_passesOwn hp (thn (T.item X rfl rfl rfl hc i pins s3 σ3 H3 X.xe I3 (stat fr3) st3 go) λr s4 ⟨u,hr,h4⟩=>?_)
  subst hr
  refine wpAny_passesOwn hp (thn h4 λ_ s5 ⟨x,H5,I5,r5,y5,st5,fr5⟩=>?_)
  have I5':=I5.pinned (stat fr5) (T.obj _ _ st5)
  refine wpAny_passesOwn hp (thn (hg _ s5 σ3 H5 x u _ I5' r5 (step x H5 y5)) λ_ s6 ⟨σ6,H6,I6,q6⟩=>?_)
  refine wpAny_passesOwn hp (thn (hb _ s6 σ6 H6 _ I6 q6) λf s7 q7=>?_)
  have again: ∀{σ7:St}{H7:Hp},Inv X (pins++zIR fp s5.heap) σ7 H7 s7->N σ7 H7-> ∃m,m<n/\ ∃i σ' H',Inv X pins σ' H' s7/\tn i s7.heap/\(∀b∈fp,H' b=none)/\W i m σ' H':=λ{σ7 H7} I7 n7=>by
   obtain⟨m',hm,w7⟩:=hN σ7 H7 n7
   refine⟨m',hm,i+1,σ7,H7,I7.unpinned,T.keep _ _ _ st5 λb hb o e=>(I7.pin (b,o) (mem_append_right _ (mem_append_right _ (zGY hb e)))).1,λb hb=>?_,w7⟩
   obtain⟨o,e,d⟩:=T.obj _ _ st5 b hb
   exact(I7.pin (b,o) (mem_append_right _ (mem_append_right _ (zGY hb e)))).2.1
  cases f with
  |next=>obtain⟨σ7,H7,I7,n7⟩:=q7;exact again I7 n7
  |cont=>obtain⟨σ7,H7,I7,n7⟩:=q7;exact again I7 n7
  |brk=>obtain⟨σ7,H7,I7,q7⟩:=q7;exact⟨σ7,H7,I7.unpinned,q7⟩
  |ret v=>obtain⟨x7,σ7,H7,I7,r7,q7⟩:=q7;exact⟨x7,σ7,H7,I7.unpinned,r7,q7⟩
end
abbrev R2:=V->V->Hp->VK->Prop
def OpR(X:Cx)(f:Value->Value->Sem Value)(r:R2):Prop:=
 ∀(pins:List (Addr×Obj))(s:Shared)(σ:St)(H:Hp)(x y:V)(v u:Value)(Q:VK),Inv X pins σ H s->RelV x v->RelV y u->r x y H Q->
  wpAny (model X.prog X.w) X.A (f v u) (EP X pins σ Q) X.xe s
def UnR(X:Cx)(f:Value->Sem Value)(r:V->Hp->VK->Prop):Prop:=
 ∀(pins:List (Addr×Obj))(s:Shared)(σ:St)(H:Hp)(x:V)(v:Value)(Q:VK),Inv X pins σ H s->RelV x v->r x H Q->
  wpAny (model X.prog X.w) X.A (f v) (EP X pins σ Q) X.xe s
def CallR(X:Cx)(f:Value)(r:List V->Hp->VK->Prop):Prop:=
 ∀(pins:List (Addr×Obj))(s:Shared)(σ:St)(H:Hp)(xs:List V)(us:List Value)(Q:VK),Inv X pins σ H s->Vals xs us->r xs H Q->
  wpAny (model X.prog X.w) X.A (call f us) (EP X pins σ Q) X.xe s
def TruR(X:Cx)(r:V->Hp->(Bool->Hp->Prop)->Prop):Prop:=
 ∀(pins:List (Addr×Obj))(s:Shared)(σ:St)(H:Hp)(x:V)(v:Value)(Q:Bool->Hp->Prop),Inv X pins σ H s->RelV x v->r x H Q->
  wpAny (model X.prog X.w) X.A (truthy v) (TP X pins σ Q) X.xe s
def tOp(r:R2)(ta tb:TE):TE:=λσ H Q=>ta σ H λx H1=>tb σ H1 λy H2=>r x y H2 Q
def tUn(r:V->Hp->VK->Prop)(ta:TE):TE:=λσ H Q=>ta σ H λx H1=>r x H1 Q
def rI(C:Int->Int->Prop)(g:Int->Int->V):R2:=λx y H Q=> ∃i j,x=.int i/\y=.int j/\C i j/\Q (g i j) H
def rI0(g:Int->Int->V):R2:=λx y H Q=> ∃i j,x=.int i/\y=.int j/\Q (g i j) H
def rU(g:Int->V):V->Hp->VK->Prop:=λx H Q=> ∃i,x=.int i/\Q (g i) H
section
variable{X:Cx}{a b c:Expr}{ta tb tc:TE}{pos:Pos}
theorem binT(ha:PE X a ta)(hb:PE X b tb){pins:List (Addr×Obj)}{s:Shared}{σ:St}{H:Hp}{R:V->V->Hp->Prop}(I:Inv X pins σ H s)
  (h:ta σ H λx H1=>tb σ H1 λy H2=>R x y H2) {Q:VP} {f:Value->Value->Sem Value}
  (hf: ∀v u s2 x y H2,Inv X pins σ H2 s2->RelV x v->RelV y u->R x y H2->wpAny (model X.prog X.w) X.A (f v u) Q X.xe s2):
  wpAny (model X.prog X.w) X.A (eval a X.env) (λv s₁=>wpAny (model X.prog X.w) X.A (eval b X.env) (λu s₂=>wpAny (model X.prog X.w) X.A (f v u) Q X.xe s₂) X.xe s₁) X.xe s:=by
 refine thn (ha pins s σ H _ I h) λv s1 ⟨x,H1,I1,r1,q1⟩=>?_
 refine thn (hb pins s1 σ H1 _ I1 q1) λu s2 ⟨y,H2,I2,r2,q2⟩=>?_
 exact hf v u s2 x y H2 I2 r1 r2 q2
theorem pe_op{op:Operator}{r:R2}(ho:OpR X (binaryOp op) r)(ha:PE X a ta)(hb:PE X b tb):PE X (.BinOp a op b pos) (tOp r ta tb):=by
 intro pins s σ H Q I h
 exact wpAny_BinOp (binT ha hb I h λv u s2 x y H2 I2 rx ry q=>ho pins s2 σ H2 x y v u Q I2 rx ry q)
theorem pe_un{op:UnaryOp}{r:V->Hp->VK->Prop}(ho:UnR X (unaryOp op) r)(ha:PE X a ta):PE X (.UnaryOp op a pos) (tUn r ta):=by
 intro pins s σ H Q I h
 exact UnaryOp_ (thn (ha pins s σ H _ I h) λv s1 ⟨x,H1,I1,r1,q1⟩=>ho pins s1 σ H1 x v Q I1 r1 q1)
theorem opI{f:Value->Value->Sem Value}{C:Int->Int->Prop}{g:Int->Int->Int}
  (rule: ∀(i j:Int)(t u:Tok)(s:Shared)(Q:VP)(E:VP),C i j->Q (.int (g i j) s.toks) {s with toks:=s.toks+1}->wpAny (model X.prog X.w) X.A (f (.int i t) (.int j u)) Q E s):
  OpR X f (rI C λi j=>.int (g i j)):=by
 intro pins s σ H x y v u Q I rx ry h
 obtain⟨i,j,rfl,rfl,hc,q⟩:=h
 obtain⟨t,rfl⟩:=rx
 obtain⟨t',rfl⟩:=ry
 exact rule i j t t' s _ _ hc ⟨.int (g i j),H,I.tok _,⟨_,rfl⟩,q⟩
theorem opI0{f:Value->Value->Sem Value}{g:Int->Int->Int}
  (rule: ∀(i j:Int)(t u:Tok)(s:Shared)(Q:VP)(E:VP),Q (.int (g i j) s.toks) {s with toks:=s.toks+1}->wpAny (model X.prog X.w) X.A (f (.int i t) (.int j u)) Q E s):
  OpR X f (rI0 λi j=>.int (g i j)):=by
 intro pins s σ H x y v u Q I rx ry h
 obtain⟨i,j,rfl,rfl,q⟩:=h
 obtain⟨t,rfl⟩:=rx
 obtain⟨t',rfl⟩:=ry
 exact rule i j t t' s _ _ ⟨.int (g i j),H,I.tok _,⟨_,rfl⟩,q⟩
def CMul(i j:Int):Prop:=(-(2 ^ 64)<i/\i<2 ^ 64)\/(-(2 ^ 64)<j/\j<2 ^ 64)
theorem CMul.ok{i j:Int}(h:CMul i j):IntMulOk i j:=by
 rcases h with⟨h1,h2⟩|⟨h1,h2⟩
 ·exact .of_left (intBits_le_64 h1 h2)
 ·exact .of_right (intBits_le_64 h1 h2)
theorem yMR:OpR X (binaryOp .Add) (rI0 λi j=>.int (i+j)):=opI0 λ_ _ _ _ _ _ _ q=>add_int q
theorem yMS:OpR X (binaryOp .Sub) (rI0 λi j=>.int (i - j)):=opI0 λ_ _ _ _ _ _ _ q=>sub_int q
theorem yMT:OpR X (binaryOp .Mod) (rI (λ_ j=>0<j) λi j=>.int (i % j)):=opI λi j _ _ _ _ _ hc q=>by
 have h1:(0:Int)<j:=hc
 exact mod_int' (by omega) (by rw [Int.fmod_eq_emod_of_nonneg i (by omega)];exact q)
theorem unI{f:Value->Sem Value}{g:Int->Int}
  (rule: ∀(i:Int)(t:Tok)(s:Shared)(Q:VP)(E:VP),Q (.int (g i) s.toks) {s with toks:=s.toks+1}->wpAny (model X.prog X.w) X.A (f (.int i t)) Q E s):
  UnR X f (rU λi=>.int (g i)):=by
 intro pins s σ H x v Q I rx h
 obtain⟨i,rfl,q⟩:=h
 obtain⟨t,rfl⟩:=rx
 exact rule i t s _ _ ⟨.int (g i),H,I.tok _,⟨_,rfl⟩,q⟩
theorem yMU:UnR X (unaryOp .USub) (rU λi=>.int (-i)):=unI λ_ _ _ _ _ q=>neg_int q
end
section
variable{X:Cx}{a b c:Expr}{ta tb tc:TE}{pos:Pos}
theorem zVP{pins:List (Addr×Obj)}{σ:St}{H:Hp}{s:Shared}{Q:VK}{k k':Bool}(I:Inv X pins σ H s)(q:Q (.bl k) H)(e:k=k'):EP X pins σ Q (.bool k') s:=by
 subst e
 exact⟨.bl k,H,I,rfl,q⟩
theorem yAK:OpR X (compareOp .In) (λx y H Q=> ∃i j,x=.str i/\y=.str j/\Q (.bl (!(Builtin.Str.occurrences j i 0 j.length 1).isEmpty)) H):=by
 intro pins s σ H x y v u Q I rx ry h
 obtain⟨i,j,rfl,rfl,q⟩:=h
 obtain⟨t,rfl⟩:=rx
 obtain⟨t',rfl⟩:=ry
 exact in_str (zVP I q rfl)
theorem yMV:OpR X (compareOp .Is) (λx y H Q=>y=.non/\Q (.bl (decide (x=.non))) H):=by
 intro pins s σ H x y v u Q I rx ry h
 obtain⟨rfl,q⟩:=h
 cases ry
 refine is_none_gen (zVP I q ?_)
 cases x<;>first
  |(cases rx;rfl)
  |(obtain⟨t,rfl⟩:=rx;rfl)
theorem zPZ:OpR X (compareOp .NotIn) (λx y H Q=> ∃i j,x=.str i/\y=.str j/\Q (.bl (!(!(Builtin.Str.occurrences j i 0 j.length 1).isEmpty))) H):=by
 intro pins s σ H x y v u Q I rx ry h
 obtain⟨i,j,rfl,rfl,q⟩:=h
 obtain⟨t,rfl⟩:=rx
 obtain⟨t',rfl⟩:=ry
 exact notIn_str (zVP I q rfl)
theorem OpR.or{f:Value->Value->Sem Value}{r r':R2}(h:OpR X f r)(h':OpR X f r'):OpR X f (λx y H Q=>r x y H Q\/r' x y H Q):=by
 intro pins s σ H x y v u Q I rx ry q
 rcases q with q|q
 ·exact h pins s σ H x y v u Q I rx ry q
 ·exact h' pins s σ H x y v u Q I rx ry q
theorem yCH(b:Expr){op:CmpOp}(h:op≠.In:=by decide)(h2:op≠.NotIn:=by decide):behindInMarks op b=false:=by
 have e1:(op==CmpOp.In)=false:=by cases op<;>first |rfl|exact absurd rfl h
 have e2:(op==CmpOp.NotIn)=false:=by cases op<;>first |rfl|exact absurd rfl h2
 cases b<;>simp [behindInMarks,e1,e2]
theorem yHB{op:CmpOp}{r:R2}(ho:OpR X (compareOp op) r)(ha:PE X a ta)(hb:PE X b tb)(hm:behindInMarks op b=false):PE X (.Compare a [op] [b] pos) (tOp r ta tb):=by
 intro pins s σ H Q I h
 exact wpAny_Compare1 (binT ha hb I h λv u s2 x y H2 I2 rx ry q=>ho pins s2 σ H2 x y v u Q I2 rx ry q) hm
def tTest(t:TE):TT:=λσ H Q=>t σ H λx H'=> ∃k,x=.bl k/\Q k H'
theorem yHC{op:CmpOp}{r:R2}(ho:OpR X (compareOp op) r)(ha:PE X a ta)(hb:PE X b tb)(hm:behindInMarks op b=false):PT X (.Compare a [op] [b] pos) (tTest (tOp r ta tb)):=by
 intro pins s σ H Q I h
 refine wpAny_isTrue_Compare1 (thn (ha pins s σ H _ I h) λv s1 ⟨x,H1,I1,r1,q1⟩=>thn (hb pins s1 σ H1 _ I1 q1) λu s2 ⟨y,H2,I2,r2,q2⟩=>
  thn (ho pins s2 σ H2 x y v u _ I2 r1 r2 q2) λc s3 ⟨z,H3,I3,r3,k,e,q3⟩=>?_) hm
 subst e
 cases r3
 exact wpAny_truthy_bool ⟨H3,I3,q3⟩
def TruV(K:PySem.W.Frag)(x:V)(H:Hp)(k:Bool):Prop:=
 match x with
 |.non=>k=false
 |.bl b=>k=b
 |.int i=>k=(i !=0)
 |.str y=>y.length<=sizeLine/\k=((y.length:Int) !=0)
 |.byt y=>y.size<=sizeLine/\k=((y.size:Int) !=0)
 |.ref p=>(∃xs,SqL K H p xs/\k= !xs.isEmpty)\/(∃xs,SqT K H p xs/\k= !xs.isEmpty)\/ ∃kvs,H p=some (.dK kvs)/\k= !kvs.isEmpty
 |_=>False
theorem zVQ{κ:Type}{kvs:List (κ×V)}{vs:List (κ×Value)}(r:KV kvs vs):(!vs.isEmpty)= !kvs.isEmpty:=by
 cases r<;>rfl
theorem zLP{xs:List V}{its:List Value}(r:Vals xs its):(!its.toArray.isEmpty)= !xs.isEmpty:=by
 cases r<;>simp
theorem zGZ:(sizeLine:Nat)<2 ^ 63:=by rw [sizeLine_eq];decide
theorem yMW:TruR X (λx H Q=> ∃k,TruV X.K x H k/\Q k H):=by
 intro pins s σ H x v Q I rx h
 obtain⟨k,e,q⟩:=h
 have hl:=zGZ
 have hs:sizeLine=16777216:=sizeLine_eq
 cases x with
 |non=>
  cases rx
  have e':k=false:=e
  subst e'
  exact truthy_none ⟨H,I,q⟩
 |bl b=>
  cases rx
  have e':k=b:=e
  subst e'
  exact wpAny_truthy_bool ⟨H,I,q⟩
 |int i=>
  obtain⟨t,rfl⟩:=rx
  have e':k=(i !=0):=e
  subst e'
  exact PySem.P.truthy_int ⟨H,I,q⟩
 |str y=>
  obtain⟨t,rfl⟩:=rx
  obtain⟨hy,e'⟩:y.length<=sizeLine/\k=((y.length:Int) !=0):=e
  subst e'
  exact PySem.P.truthy_str (by omega) ⟨H,I.tok _,q⟩
 |byt y=>
  obtain⟨t,rfl⟩:=rx
  obtain⟨hy,e'⟩:y.size<=sizeLine/\k=((y.size:Int) !=0):=e
  subst e'
  exact PySem.W.truthy_bytes (by omega) ⟨H,I.tok _,q⟩
 |ref p=>
  cases rx
  have e':(∃xs,SqL X.K H p xs/\k= !xs.isEmpty)\/(∃xs,SqT X.K H p xs/\k= !xs.isEmpty)\/ ∃kvs,H p=some (.dK kvs)/\k= !kvs.isEmpty:=e
  rcases e' with⟨xs,hx,e'⟩|⟨xs,hx,e'⟩|⟨kvs,hx,e'⟩
  ·subst e'
   obtain⟨its,r,pl,hz⟩:=I.list hx
   have hlen:=r.length
   exact wpAny_truthy_list pl.isList (by simp only [sA0];omega) ⟨H,I.tok _,by rw [zLP r];exact q⟩
  ·subst e'
   obtain⟨its,r,pl,hz⟩:=I.tuple hx
   have hlen:=r.length
   exact truthy_tuple pl (by simp only [sA0];omega) ⟨H,I.tok _,by rw [zLP r];exact q⟩
  ·subst e'
   obtain⟨hz,hS,vs,r,m⟩:kvs.length<=sizeLine/\(p==sysModules)=false/\ ∃vs,KV kvs vs/\s.heap.DictOf (yW X.prog X.w) p vs:=I.hok p _ hx
   have hlen:kvs.length=vs.length:=Paired.length r
   exact wpAny_truthy_dict hS m (by omega) ⟨H,I.tok _,by rw [zVQ r];exact q⟩
 |_=>exact(show False from e).elim
theorem yCI(ha:PE X a ta)(he: ∀whole,isTrue a X.env whole=(do let v <-whole;standAt a.pos;holding [v] (truthy v))):
  PT X a (λσ H Q=>ta σ H λx H'=> ∃k,TruV X.K x H' k/\Q k H'):=by
 intro pins s σ H Q I h
 exact isTrue_plain (thn (ha pins s σ H _ I h) λv s1 ⟨x,H1,I1,r1,q1⟩=>yMW pins s1 σ H1 x v Q I1 r1 q1) (he _)
theorem zVR:OpR X (binaryOp .Add) (λx y H Q=> ∃i j,x=.str i/\y=.str j/\i.length+j.length<=sizeLine/\Q (.str (i++j)) H):=by
 intro pins s σ H x y v u Q I rx ry h
 obtain⟨i,j,rfl,rfl,hz,q⟩:=h
 obtain⟨t,rfl⟩:=rx
 obtain⟨t',rfl⟩:=ry
 exact add_str (λt' tk=>⟨.str (i++j),H,I.tok _,⟨_,rfl⟩,q⟩) hz
theorem vals1{x:V}{us:List Value}(r:Vals [x] us): ∃u,us=[u]/\RelV x u:=by
 cases r with
 |cons r1 r2=>cases r2;exact⟨_,rfl,r1⟩
theorem vals2{x y:V}{us:List Value}(r:Vals [x,y] us): ∃u w',us=[u,w']/\RelV x u/\RelV y w':=by
 cases r with
 |cons r1 r2=>
  cases r2 with
  |cons r3 r4=>cases r4;exact⟨_,_,rfl,r1,r3⟩
theorem zOK(hc:X.calm=true):CallR X (.builtin "min") (λxs H Q=> ∃i j,xs=[.int i,.int j]/\Q (.int (if j<i then j else i)) H):=by
 intro pins s σ H xs us Q I r h
 obtain⟨i,j,rfl,q⟩:=h
 obtain⟨u,w',rfl,⟨t,rfl⟩,⟨t',rfl⟩⟩:=vals2 r
 refine min_two_ints (I.ok.hd hc) λh' tk k=>⟨_,H,I.kept k,?_,q⟩
 by_cases hj:j<i
 ·rw [iP hj,iP hj];exact⟨_,rfl⟩
 ·rw [iN hj,iN hj];exact⟨_,rfl⟩
theorem yAL:CallR X (.type "int") (λxs H Q=>(∃i,xs=[.int i]/\Q (.int i) H)\/ ∃k,xs=[.bl k]/\Q (.int (if k then 1 else 0)) H):=by
 intro pins s σ H xs us Q I r h
 rcases h with⟨i,rfl,q⟩|⟨k,rfl,q⟩
 ·obtain⟨u,rfl,t,rfl⟩:=vals1 r
  exact call_int_int ⟨.int i,H,I,⟨_,rfl⟩,q⟩
 ·obtain⟨u,rfl,r1⟩:=vals1 r
  cases r1
  exact call_int_bool ⟨.int (if k then 1 else 0),H,I.tok _,⟨_,rfl⟩,q⟩
end
structure Cls(K:PySem.W.Frag)(C:Addr):Prop where
 pg:PySem.W.plainGet K C Str.empty=true
 hd:PySem.W.hasDictIn K C=true
 po:PySem.W.plainOver K C=true
 sa:PySem.W.findIn K (.ref C) "__setattr__"=some (some (.builtin "object.__setattr__"))
section
variable{X:Cx}{pins:List (Addr×Obj)}{σ:St}{H:Hp}{s:Shared}{A:Around}{E:VP}{Q:VP}{c:Value}{b:Bool}
inductive zHY(K:PySem.W.Frag)(H:Hp):V->Value->Prop where
 |non:zHY K H .non (.type "NoneType")
 |bl (x:Bool):zHY K H (.bl x) (.type "bool")
 |int (i:Int):zHY K H (.int i) (.type "int")
 |str (x:Str):zHY K H (.str x) (.type "str")
 |flt (x:UInt64):zHY K H (.flt x) (.type "float")
 |lst {a:Addr} {xs:List V} (e:H a=some (.lst xs)):zHY K H (.ref a) (.type "list")
 |frz {a:Addr} {o:Obj} {xs:List V} (e:H a=some (.frz o (.lst xs))):zHY K H (.ref a) (.type "list")
 |tup {a:Addr} {xs:List V} (e:H a=some (.tup xs)):zHY K H (.ref a) (.type "tuple")
 |dK {a:Addr} {kvs:List (Key×V)} (e:H a=some (.dK kvs)):zHY K H (.ref a) (.type "dict")
 |dT {a:Addr} {kvs:List (List Key×V)} (e:H a=some (.dT kvs)):zHY K H (.ref a) (.type "dict")
 |ins {a C dx:Addr} {fs:List (Str×V)} (e:H a=some (.ins C dx fs)) (cl:Cls K C) (ha:PySem.W.findIn K (.ref C) "__class__"=some (some (.builtin "object.__class__")))
   (hn:PySem.W.specialIn K (.builtin "object.__class__") "__get__"=some (some (.builtin "getset_descriptor.__get__"))) (htk:PySem.W.takesIn K (.builtin "object.__class__")=some true)
   (hm:PySem.W.mroIn K C (.type "object")=some true):zHY K H (.ref a) (.ref C)
end
structure Room(k:Nat)(A:Around):Prop where
 hd:A.handled=none
 dp:A.depth+3 * k+5<recursionLimit
 un:A.units+16 * k+200<cLine
theorem Room.mono{j k:Nat}{A:Around}(r:Room k A)(h:j<=k):Room j A:=⟨r.hd,by have:=r.dp;omega,by have:=r.un;omega⟩
theorem Room.deeper{k:Nat}{A:Around}(r:Room (k+1) A)(env:Env):Room k (A.deeper env):=
 ⟨r.hd,by have:=r.dp;show A.depth+1+3 * k+5<_;omega,by have:=r.un;show A.units+3+16 * k+200<_;omega⟩
theorem Room.depth{k:Nat}{A:Around}(r:Room k A):A.depth<recursionLimit:=by have:=r.dp;omega
theorem Room.units{k:Nat}{A:Around}(r:Room k A):A.units+64<cLine:=by have:=r.un;omega
def tNil:TA:=λ_ H Q=>Q [] H
def tCons(ta:TE)(tr:TA):TA:=λσ H Q=>ta σ H λx H1=>tr σ H1 λxs H2=>Q (x::xs) H2
section
variable{X:Cx}{e:Expr}{es:List Expr}{te:TE}{t:TA}{pos:Pos}
theorem yMX:PA X [] tNil:=λ_ _ _ _ H Q I h=>Calls.spliced_nil ⟨[],H,I,.nil,h⟩
theorem yHD(ha:PE X e te)(hr:PA X es t)(hs:starEach (e::es) X.env=(false,eval e X.env)::starEach es X.env:=by rfl):PA X (e::es) (tCons te t):=by
 intro pos pins s σ H Q I h
 rw [hs]
 show wpAny _ _ (spliced ((false,eval e X.env)::backTo pos (starEach es X.env))) _ _ s
 refine Calls.spliced_cons (thn (ha pins s σ H _ I h) λu s1 ⟨x,H1,I1,r1,q1⟩=>?_)
 exact thn (hr pos pins s1 σ H1 _ I1 q1) λus s2 ⟨xs,H2,I2,r2,q2⟩=>⟨x::xs,H2,I2,.cons r1 r2,q2⟩
def tTup(t:TA):TE:=λσ H Q=>t σ H λxs H1=>xs.length<=sizeLine/\ ∀p,H1 p=none->Q (.ref p) (upd H1 p (.tup xs))
def tLst(t:TA):TE:=λσ H Q=>t σ H λxs H1=>xs.length<=sizeLine/\ ∀p,H1 p=none->Q (.ref p) (upd H1 p (.lst xs))
theorem yMY{x1}(h:PA X es t):PE X (.Tuple es x1 pos) (tTup t):=by
 intro pins s σ H Q I hq
 refine wpAny_Tuple_spliced (thn (h pos pins s σ H _ I hq) λus s1 ⟨xs,H1,I1,r,z,q⟩=>⟨by rw [<-r.length];exact z,?_⟩)
 have hf:H1 s1.heap.objs.size=none:=I1.hok.fresh (le_refl _)
 refine⟨.ref s1.heap.objs.size,upd H1 s1.heap.objs.size (.tup xs),I1.laid (t':=s1.toks) (λb u e=>hP0 _ e) (le_refl _) ?_,rfl,q _ hf⟩
 exact⟨z,us,r,⟨_,Heap.get?_push_size _ rfl,rfl,_,rfl⟩⟩
theorem yMZ(h:PA X es t):PE X (.List es pos) (tLst t):=by
 intro pins s σ H Q I hq
 refine wpAny_List_spliced (thn (h pos pins s σ H _ I hq) λus s1 ⟨xs,H1,I1,r,z,q⟩=>⟨by rw [<-r.length];exact z,?_⟩)
 have hf:H1 s1.heap.objs.size=none:=I1.hok.fresh (le_refl _)
 refine⟨.ref s1.heap.objs.size,upd H1 s1.heap.objs.size (.lst xs),I1.laid (t':=s1.toks) (λb u e=>hP0 _ e) (le_refl _) ?_,rfl,q _ hf⟩
 exact⟨z,us,0,r,Heap.get?_push_size _ rfl⟩
end
abbrev Sp:=List V->Hp->VK->XK->Prop
abbrev CXT:=List Env->Hp->Shared->XK->VP
structure Env0(P:Program)(w:World)(K:PySem.W.Frag)(mg:Str->Option Value)(base:Heap)(A:Around)(outer:List Env)(s:Shared)(H:Hp):Prop where
 frames:A.frames=some outer
 mod:Mod K mg base
 bs: ∀b o,base.get? b=some o->s.heap.get? b=some o/\H b=none
 bsz:base.objs.size<=s.heap.objs.size
 funs:s.heap.FunFrames base outer
 frf: ∀b∈frs outer,H b=none
 hok:HOk P w H s.heap
 bare:AllBare s.gens
def CE(outer:List Env)(P:Program)(w:World)(H:Hp)(s:Shared)(Q:VK)(u:Value)(s':Shared):Prop:=
 ∃v H',s'.os=s.os/\AllBare s'.gens/\Un (frs outer) [] H H' s.heap s'.heap/\HOk P w H' s'.heap/\RelV v u/\Q v H'
def CR(CX:CXT)(outer:List Env)(P:Program)(w:World)(H:Hp)(s:Shared)(Q:VK)(E:XK)(r:Result)(s':Shared):Prop:=
 match r with
 |.ok (.ret u)=>CE outer P w H s Q u s'
 |.ok _=>False
 |.error e=>CX outer H s E e s'
structure FnOk(P:Program)(w:World)(K:PySem.W.Frag)(mg:Str->Option Value)(base:Heap)(CX:CXT)(k:Nat)(f:Addr)(fd:FuncData)(ps:List Str)(sp:Sp):Prop where
 len: ∀vs H Q E,sp vs H Q E->vs.length=ps.length
 run: ∀(A:Around)(outer:List Env)(s:Shared)(H:Hp)(args:Args)(us:List Value)(vs:List V)(Q:VK)(E:XK),Room k A->Env0 P w K mg base A outer s H->BindsTo s fd args (ps.zip us)->Vals vs us->sp vs H Q E->
  codeAny (model P w) A (.call (.ref f) args) (CR CX outer P w H s Q E) s
theorem FnOk.imp{P:Program}{w:World}{K:PySem.W.Frag}{mg:Str->Option Value}{base:Heap}{CX:CXT}{k:Nat}{f:Addr}{fd:FuncData}{ps:List Str}{sp sp':Sp}(F:FnOk P w K mg base CX k f fd ps sp)
  (h: ∀vs H Q E,sp' vs H Q E->sp vs H Q E):FnOk P w K mg base CX k f fd ps sp':=
 ⟨λvs H Q E q=>F.len vs H Q E (h _ _ _ _ q),λA outer s H args us vs Q E hr he hb hv hs=>F.run A outer s H args us vs Q E hr he hb hv (h _ _ _ _ hs)⟩
section
variable{X:Cx}{pins:List (Addr×Obj)}{σ:St}{H:Hp}{s s':Shared}
theorem Inv.env0(I:Inv X pins σ H s):Env0 X.prog X.w X.K X.mg X.base X.A X.stack s H:=
 ⟨I.ok.frames,I.ok.mod,I.bs,le_trans I.ok.bsz I.sz,I.stack,I.stkFree,I.hok,I.bare⟩
theorem Inv.after{Q:VK}{u:Value}(I:Inv X pins σ H s)(h:CE X.stack X.prog X.w H s Q u s'):EP X pins σ Q u s':=by
 obtain⟨v,H',os,bare,un,hok,r,q⟩:=h
 obtain⟨hh,g,d,t,os'⟩:=s'
 obtain rfl:os'=s.os:=os
 exact⟨v,H',I.call (h':=hh) (g':=g) (d':=d) (t':=t) (ch:=[]) un hok bare (λb z=>absurd z (by simp)),r,q⟩
end
def tCall(sp:Sp)(dvs:List V)(E:XK)(t:TA):TE:=λσ H Q=>t σ H λvs H1=>sp (vs++dvs) H1 Q E
def Binds(K:PySem.W.Frag)(fd:FuncData)(ps:List Str)(ds:List Value):Prop:=
 ∀(s:Shared)(us:List Value),K.In s.heap->(us++ds).length=ps.length->BindsTo s fd ⟨us,[]⟩ (ps.zip (us++ds))
theorem Binds.all{K:PySem.W.Frag}{fd:FuncData}{ps:List Str}(h: ∀us:List Value,us.length=ps.length->bindArgs fd ⟨us,[]⟩=pure (ps.zip us)):Binds K fd ps []:=λs us _ hl=>by
 rw [aN]at hl ⊢
 exact .of_eq (h us hl)
def zVS(CX:CXT)(X:Cx)(E:XK):Prop:= ∀(pins:List (Addr×Obj))(σ:St)(H:Hp)(s:Shared)(e:Value)(s':Shared),Inv X pins σ H s->CX X.stack H s E e s'->X.xe e s'
section
variable{X:Cx}{CX:CXT}{k:Nat}{f C:Addr}{fd:FuncData}{ps:List Str}{sp:Sp}{dvs:List V}{ds:List Value}{E:XK}{x m:Str}{p pos apos:Pos}{e o:Expr}{es:List Expr}{ta:TE}{t:TA}
theorem yNA{pins:List (Addr×Obj)}{σ:St}{H:Hp}{s:Shared}{Q:VK}{us:List Value}{vs:List V}(F:FnOk X.prog X.w X.K X.mg X.base CX k f fd ps sp)(hr:Room k X.A)(hb:Binds X.K fd ps ds)(hd:Vals dvs ds)(hx:zVS CX X E)
  (I:Inv X pins σ H s) (r:Vals vs us) (h:sp (vs++dvs) H Q E):wpAny (model X.prog X.w) X.A (call (.ref f) us) (EP X pins σ Q) X.xe s:=by
 have r2:Vals (vs++dvs) (us++ds):=r.append hd
 have hl:(us++ds).length=ps.length:=by rw [<-r2.length];exact F.len _ _ _ _ h
 refine wpAny_call (codeAny_mono (F.run X.A X.stack s H ⟨us,[]⟩ (us++ds) (vs++dvs) Q E hr I.env0 (hb s us I.kIn hl) r2 h) λr s' hq=>?_)
 cases r with
 |error e=>exact hx pins σ H s e s' I hq
 |ok fl=>
  cases fl with
  |ret u=>exact I.after hq
  |next=>exact False.elim hq
  |brk=>exact False.elim hq
  |cont=>exact False.elim hq
theorem yHE(F:FnOk X.prog X.w X.K X.mg X.base CX k f fd ps sp)(hr:Room k X.A)(hg:Gl X x)(hm:X.mg x=some (.ref f))(hk:PySem.W.keepIn X.K (.ref f)=true)(hb:Binds X.K fd ps ds)(hd:Vals dvs ds)(hx:zVS CX X E)
  (ha:PA X (e::es) t) (hdb:(x==("__debug__":Str))=false:=by decide) (he:starEach (e::es) X.env=(false,eval e X.env)::starEach es X.env:=by rfl) (hpl:(backTo pos (starEach es X.env)).any (·.1)=false:=by rfl):
  PE X (.Call (.Name x p) (e::es) [] pos) (tCall sp dvs E t):=by
 intro pins s σ H Q I h
 refine wpAny_Call_Name_kw (yGU I hg hm ?_ hdb)
 refine PySem.W.callWith_K (h₀:=X.base) I.ok.mod.kin hk (thn (ha pos pins s σ H _ I h) λus s1 ⟨vs,H1,I1,r,q⟩=>⟨I1.kIn,?_⟩) he hpl
 exact yNA F hr hb hd hx I1 r q
end
structure FnScope(N P:List Str)(sc:Scope):Prop where
 kind:sc.kind=.function
 co:sc.isCoroutine=false
 gen:sc.isGenerator=false
 nd:N.Nodup
 pre:N.take P.length=P
 par: ∀x∈P,sc.names.lookup x=some .local\/sc.names.lookup x=some .cell
 nofree: ∀y∈sc.names,y.2≠.free
theorem fsK{N P:List Str}{sc:Scope}(h:N.Nodup/\N.take P.length=P/\(∀x∈P,sc.names.lookup x=some .local\/sc.names.lookup x=some .cell)/\∀y∈sc.names,y.2≠.free)(a:sc.kind=.function:=by rfl)(b:sc.isCoroutine=false:=by rfl)(c:sc.isGenerator=false:=by rfl):FnScope N P sc:=⟨a,b,c,h.1,h.2.1,h.2.2.1,h.2.2.2⟩
theorem zOL{kindOf:Str->Option NameKind}{x:Str}: ∀{binds:List (Str×Value)}{m:Str->Option Value},(∀v,(x,v)∉binds)->bindL kindOf binds m x=m x
 |[],_,_=>rfl
 |(n,v)::r,m,h=>by
  unfold bindL
  rw [zOL λw hw=>h w (mO _ hw)]
  split
  ·have:x≠n:=by rintro rfl;exact h v mF0
   simp [this]
  ·rfl
theorem zOM{kindOf:Str->Option NameKind}{x:Str}: ∀{binds:List (Str×Value)}{m:Str->Option Value},(∀v,(x,v)∉binds)->bindC kindOf binds m x=m x
 |[],_,_=>rfl
 |(n,v)::r,m,h=>by
  unfold bindC
  rw [zOM λw hw=>h w (mO _ hw)]
  split
  ·rfl
  ·have:x≠n:=by rintro rfl;exact h v mF0
   simp [this]
theorem zON{kindOf:Str->Option NameKind}{x:Str}{v:Value}: ∀{P:List Str}{vs:List Value}{i:Nat}{m:Str->Option Value},P.Nodup->P[i]? =some x->vs[i]? =some v->kindOf x=some .local->
  bindL kindOf (P.zip vs) m x=some v
 |[],_,_,_,_,h,_,_=>by simp at h
 |_::_,[],_,_,_,_,h,_=>by simp at h
 |p::P,w::vs,0,m,nd,h1,h2,hk=>by
  simp at h1 h2;subst h1;subst h2
  show bindL kindOf ((p,w)::P.zip vs) m p=_
  unfold bindL
  rw [zOL λv hv=>(nodup_cons.mp nd).1 (of_mem_zip hv).1,iP hk]
  simp
 |p::P,w::vs,i+1,m,nd,h1,h2,hk=>by
  show bindL kindOf ((p,w)::P.zip vs) m x=_
  unfold bindL
  exact zON (i:=i) (nodup_cons.mp nd).2 (by simpa using h1) (by simpa using h2) hk
theorem zOO{kindOf:Str->Option NameKind}{x:Str}{v:Value}: ∀{P:List Str}{vs:List Value}{i:Nat}{m:Str->Option Value},P.Nodup->P[i]? =some x->vs[i]? =some v->kindOf x≠some .local->
  bindC kindOf (P.zip vs) m x=some v
 |[],_,_,_,_,h,_,_=>by simp at h
 |_::_,[],_,_,_,_,h,_=>by simp at h
 |p::P,w::vs,0,m,nd,h1,h2,hk=>by
  simp at h1 h2;subst h1;subst h2
  show bindC kindOf ((p,w)::P.zip vs) m p=_
  unfold bindC
  rw [zOM λv hv=>(nodup_cons.mp nd).1 (of_mem_zip hv).1,iN hk]
  simp
 |p::P,w::vs,i+1,m,nd,h1,h2,hk=>by
  show bindC kindOf ((p,w)::P.zip vs) m x=_
  unfold bindC
  exact zOO (i:=i) (nodup_cons.mp nd).2 (by simpa using h1) (by simpa using h2) hk
def start(N:List Str)(vs:List V):St:=vs.map some++List.replicate (N.length - vs.length) none
def zVT(CX:CXT)(P:Program)(w:World)(K:PySem.W.Frag)(mg:Str->Option Value)(base:Heap)(N:List Str)(qual:Str)(scope:Scope)(f:Addr)(cd:Value)(A:Around)(outer:List Env)(s:Shared)(H:Hp)(E:XK):Cx where
 prog:=P
 w:=w
 K:=K
 mg:=mg
 base:=base
 A:=A.deeper (envOfC qual scope s.heap.objs.size f cd)
 N:=N
 s₀:=s
 H₀:=H
 env:=envOfC qual scope s.heap.objs.size f cd
 outer:=outer
 stack:=envOfC qual scope s.heap.objs.size f cd::outer
 ex:=[]
 calm:=true
 fn:=λ_=>true
 pn:=[]
 xe:=λe s'=>wpAny (model P w) (A.deeper (envOfC qual scope s.heap.objs.size f cd)) (leaving (envOfC qual scope s.heap.objs.size f cd) e) (λ_ s''=>CX outer H s E e s'') (λe' s''=>CX outer H s E e' s'') s'
theorem zSO{sc:Scope}{n:Nat}{x:Str}(h:sc.names.lookup x=some .cell): ∃c,(cellsFrom n sc.names []).lookup x=some c:=by
 have q:=PySem.W.cellsFrom_some sc.names n [] (.inl h)
 exact Option.isSome_iff_exists.mp q
theorem yAM{CX:CXT}{P:Program}{w:World}{K:PySem.W.Frag}{mg:Str->Option Value}{base:Heap}{N ps:List Str}{qual:Str}{scope:Scope}{f:Addr}{cd:Value}{A:Around}{outer:List Env}{s s1:Shared}{H:Hp}{E:XK}{us:List Value}{vs:List V}
  (S:FnScope N ps scope) (hd:A.handled=none) (e0:Env0 P w K mg base A outer s H) (hl:vs.length=ps.length) (r:Vals vs us)
  (x:InCallC s s.heap.objs.size (bindL (envOfC qual scope s.heap.objs.size f cd).kindOf (ps.zip us) λ_=>none) (cellsFrom (s.heap.objs.size+1) scope.names []) (bindC (envOfC qual scope s.heap.objs.size f cd).kindOf (ps.zip us) λ_=>none) s1):
  Inv (zVT CX P w K mg base N qual scope f cd A outer s H E) [] (start N vs) H s1:=by
 have hpl:ps.length<=N.length:=by have:=congrArg List.length S.pre;rw [lT]at this;omega
 obtain⟨h1,tk,rfl,hk⟩:=x.done
 have noA: ∀b:Addr,b∉(zVT CX P w K mg base N qual scope f cd A outer s H E).ex:=λb z=>absurd (show b∈([]:List Addr)from z) (by simp)
 refine⟨⟨e0.mod,S.kind,rfl,rfl,le_refl _,λy z c h1 h2=>?_,λy hy=>?_,λy c _ h=>?_,λ_=>hd,Around.frames_deeper e0.frames,.inr ⟨rfl,rfl⟩,λb z=>absurd z (noA b),e0.bs,e0.bsz,λb _ _=>noA b,λb z=>absurd z (noA b),e0.funs,e0.frf⟩,
  rfl,e0.bare,Un.kept hk,⟨_,x.toInCall.ns,λi y v h1 h2 h3=>?_⟩,λy c h=>⟨_,x.cell y c h⟩,e0.hok.fresh (le_refl _),λy c h=>?_,λp hp=>absurd (show p∈([]:List (Addr×Obj))from hp) (by simp),e0.hok.kept hk,?_⟩
 ·exact name_of_addr x.apart (PySem.mem_of_lookup h1) (PySem.mem_of_lookup h2)
 ·have hy:scope.names.lookup y=some .cell\/scope.names.lookup y=some .free:=hy
  rcases hy with hy|hy
  ·exact zSO hy
  ·exact absurd rfl (S.nofree _ (PySem.mem_of_lookup hy))
 ·exact le_of_lt (x.above y c (PySem.mem_of_lookup h))
 ·have hi:i<vs.length:=by
   unfold start at h2
   by_cases hi:i<vs.length
   ·exact hi
   ·rw [getElem?_append_right (by simpa using hi)]at h2
    rw [List.getElem?_replicate]at h2
    split at h2<;>cases h2
  have ha:vs[i]? =some v:=by
   unfold start at h2
   rw [getElem?_append_left (by simpa using hi),getElem?_map]at h2
   cases e:vs[i]? with
   |none=>rw [e]at h2;cases h2
   |some a=>rw [e]at h2;cases h2;rfl
  obtain⟨u,hu,rv⟩:=r.get ha
  have hp:ps[i]? =some y:=by
   rw [<-S.pre,getElem?_take_of_lt (by omega)];exact h1
  have ndP:ps.Nodup:=by rw [<-S.pre];exact S.nd.sublist (List.take_sublist _ _)
  refine⟨u,rv,?_⟩
  rcases S.par y (mem_of_getElem? hp)with k|k
  ·exact .inl ⟨k,zON ndP hp hu k⟩
  ·obtain⟨c,e⟩:=zSO (n:=s.heap.objs.size+1) k
   refine .inr ⟨.inl k,c,e,?_⟩
   have q:=x.cell y c e
   rw [zOO ndP hp hu (by show scope.names.lookup y≠_;rw [k];decide)]at q
   exact q
 ·exact e0.hok.fresh (le_of_lt (x.above y c (PySem.mem_of_lookup h)))
 ·unfold start
  show _=N.length
  rw [lA,lM,length_replicate]
  omega
theorem fn_of{CX:CXT}{P:Program}{w:World}{K:PySem.W.Frag}{mg:Str->Option Value}{base:Heap}{k:Nat}{f:Addr}{name qual:Str}{params:Arguments}{body:List Stmt}{scope:Scope}{dV kV doc pm cdv ct oc:Value}{an od:Option Addr}
  {osl:Array (Option Value)} {N ps:List Str} {sp:Sp} (lk:K.lookup f=some ⟨oc,od,.func (PySem.W.fnOf name qual params body scope dV kV doc pm an cdv ct),osl⟩) (hcd:PySem.W.codeIn K cdv qual=true) (S:FnScope N ps scope)
  (len: ∀vs H Q E,sp vs H Q E->vs.length=ps.length)
  (hbody: ∀(A:Around)(outer:List Env)(s:Shared)(H:Hp)(vs:List V)(Q:VK)(E:XK),Room k (A.deeper (envOfC qual scope s.heap.objs.size f cdv))->sp vs H Q E->
   ∃t,PSs (zVT CX P w K mg base N qual scope f cdv A outer s H E) body t/\t {nx:=λ_ H'=>Q .non H',rt:=Q} (start N vs) H):
  FnOk P w K mg base CX (k+1) f (PySem.W.fnOf name qual params body scope dV kV doc pm an cdv ct) ps sp:=by
 refine⟨len,λA outer s H args us vs Q E hr e0 hb r hsp=>?_⟩
 have hl:=len _ _ _ _ hsp
 have KX:K.In s.heap:=e0.mod.kin.keeps λb o e=>(e0.bs b o e).1
 have lim:s.heap.NoLimit:=e0.mod.nolimit.keeps λb o e=>(e0.bs b o e).1
 have hkind: ∀y∈ps.zip us,scope.names.lookup y.1=some .local\/(scope.names.lookup y.1=some .cell/\((cellsFrom (s.heap.objs.size+1) scope.names []).lookup y.1).isSome=true):=λ⟨n,v⟩ hy=>by
  rcases S.par n (of_mem_zip hy).1 with q|q
  ·exact .inl q
  ·exact .inr ⟨q,PySem.W.cellsFrom_some _ _ _ (.inl q)⟩
 refine codeAny_call_function hr.depth (KX _ _ lk) rfl S.co S.gen rfl (PySem.W.codeRec_of KX hcd) (hb _ _ _ _ ?_)
 refine wpAny_newFunctionEnv_cells S.kind hkind λenv he s1 x=>?_
 subst he
 refine⟨lim.keeps x.toInCall.keep,codeAny_func ?_⟩
 obtain⟨t,ht,hq⟩:=hbody A outer s H vs Q E (hr.deeper _) hsp
 have I:Inv (zVT CX P w K mg base N qual scope f cdv A outer s H E) [] (start N vs) H s1:=yAM S hr.hd e0 hl r x
 refine wpAny_mono (ht [] s1 (start N vs) H _ I hq) (λfl s' hs=>?_) λe s' hs=>hs
 have fin: ∀{σ':St}{H':Hp}{v:V}{u:Value},Inv (zVT CX P w K mg base N qual scope f cdv A outer s H E) [] σ' H' s'->RelV v u->Q v H'->CE outer P w H s Q u s':=
  λ{σ' H' v u} J rv q=>⟨v,H',J.os,J.bare,J.base,J.hok,rv,q⟩
 cases fl with
 |ret u=>
  obtain⟨v,σ',H',J,rv,q⟩:=hs
  exact fin J rv q
 |next=>
  obtain⟨σ',H',J,q⟩:=hs
  exact fin (v:=V.non) (u:=Value.none) J rfl q
 |brk=>
  obtain⟨_,_,_,q⟩:=hs
  exact False.elim q
 |cont=>
  obtain⟨_,_,_,q⟩:=hs
  exact False.elim q
section
variable{X:Cx}{x:Str}{p pos:Pos}{e:Expr}{es:List Expr}{t:TA}{id T:String}{r:List V->Hp->VK->Prop}
def tCB(r:List V->Hp->VK->Prop)(t:TA):TE:=λσ H Q=>t σ H λvs H1=>r vs H1 Q
theorem yCJ(hc:CallR X (.builtin id) r)(hg:Gl X x)(hm:X.mg x=none)(hv:bootBuiltins x=some (.builtin id))(ha:PA X (e::es) t)(hn:x≠"__name__":=by decide)(hdb:(x==("__debug__":Str))=false:=by decide)
  (he:starEach (e::es) X.env=(false,eval e X.env)::starEach es X.env:=by rfl) (hpl:(backTo pos (starEach es X.env)).any (·.1)=false:=by rfl):PE X (.Call (.Name x p) (e::es) [] pos) (tCB r t):=by
 intro pins s σ H Q I h
 refine wpAny_Call_Name_kw (zLN I hg hm hv ?_ hn hdb)
 exact PyProof.Rows.callWith_builtin1 (thn (ha pos pins s σ H _ I h) λus s1 ⟨vs,H1,I1,r1,q1⟩=>hc pins s1 σ H1 vs us Q I1 r1 q1) he hpl
theorem yAN(hc:CallR X (.type T) r)(hg:Gl X x)(hm:X.mg x=none)(hv:bootBuiltins x=some (.type T))(ha:PA X (e::es) t)(hn:x≠"__name__":=by decide)(hdb:(x==("__debug__":Str))=false:=by decide)
  (he:starEach (e::es) X.env=(false,eval e X.env)::starEach es X.env:=by rfl) (hpl:(backTo pos (starEach es X.env)).any (·.1)=false:=by rfl):PE X (.Call (.Name x p) (e::es) [] pos) (tCB r t):=by
 intro pins s σ H Q I h
 refine wpAny_Call_Name_kw (zLN I hg hm hv ?_ hn hdb)
 exact PyProof.Rows.callWith_type1 (thn (ha pos pins s σ H _ I h) λus s1 ⟨vs,H1,I1,r1,q1⟩=>hc pins s1 σ H1 vs us Q I1 r1 q1) he hpl
end
end L2
namespace HT
open PySem PyProof.Rows
section
variable{prog:Program}{w:World}{A:Around}{E:VP}{s:Shared}
theorem cat_tup{t b:Addr}{vs ws:List Value}{Q:VP}(ht:IsTup s.heap t vs.toArray)(hb:IsTup s.heap b ws.toArray)(hv:vs≠[])
  (h1:ws=[]->Q (.ref t) s) (h2:ws≠[]->Q (.ref s.heap.objs.size) {s with heap:=s.heap.push {cls:=.type "tuple",data:=.seq (vs++ws).toArray}})
  (hsz:vs.length+ws.length<=sizeLine):wpAny (model prog w) A (binaryOp .Add (.ref t) (.ref b)) Q E s:=by
 obtain⟨⟨cls,dd,data,sl⟩,ho,hc,n,hd⟩:=id ht
 obtain⟨⟨cls2,dd2,data2,sl2⟩,ho2,hc2,n2,hd2⟩:=id hb
 simp only at hc hd hc2 hd2
 subst hc hd hc2 hd2
 have e:vs.toArray++ws.toArray=(vs++ws).toArray:=by simp
 by_cases hw:ws=[]
 ·exact concat_meets ⟨_,ho,rfl⟩ ⟨_,ho2,rfl⟩ noFill_tuple_add seq_tuple_add PySem.F.slot_tuple_add PySem.F.entry_tuple_add (PySem.F.args_tuple_add_2 _ _)
   (tuple_addW1 t b vs.toArray ws.toArray n n2 dd dd2 sl sl2 (by simpa using hv) (by simp [hw])) ⟨ho,ho2,h1 hw⟩
 ·refine concat_meets ⟨_,ho,rfl⟩ ⟨_,ho2,rfl⟩ noFill_tuple_add seq_tuple_add PySem.F.slot_tuple_add PySem.F.entry_tuple_add (PySem.F.args_tuple_add_2 _ _)
   (tuple_addW2 t b vs.toArray ws.toArray n n2 dd dd2 sl sl2 (by simpa using hv) (by simpa using hw) (by rw [sA0,sA0];exact hsz)) ⟨ho,ho2,?_⟩
  rw [e]
  exact h2 hw
def sIx(n d:Nat):Option Int->Nat
 |none=>d
 |some v=>if v<0 then(v+(n:Int)).toNat else min v.toNat n
theorem sIx_nat(n d k:Nat):sIx n d (some (k:Int))=min k n:=by
 show(if(k:Int)<0 then((k:Int)+(n:Int)).toNat else min (k:Int).toNat n)=min k n
 rw [iN (by omega),toNat_natCast]
theorem sIx_le(n d:Nat)(hd:d<=n)(o:Option Int):sIx n d o<=n:=by
 cases o with
 |none=>exact hd
 |some v=>
  show(if v<0 then(v+(n:Int)).toNat else min v.toNat n)<=n
  by_cases hv:v<0
  ·rw [iP hv];omega
  ·rw [iN hv];exact Nat.min_le_right _ _
theorem zXL(v:Int)(n d:Nat):(if v<0 then max (v+(n:Int)) 0 else min v (n:Int))=((sIx n d (some v):Nat):Int):=by
 show(if v<0 then max (v+(n:Int)) 0 else min v (n:Int))=(((if v<0 then(v+(n:Int)).toNat else min v.toNat n):Nat):Int)
 by_cases hv:v<0
 ·simp only [iP hv];omega
 ·simp only [iN hv];omega
theorem zVU(lo hi:Option Int)(n:Nat):Builtin.Slice.sliceAdjust lo hi 1 (n:Int)=(((sIx n 0 lo:Nat):Int),((sIx n n hi:Nat):Int)):=by
 have h1: ¬((1:Int)<0):=by omega
 unfold Builtin.Slice.sliceAdjust
 simp only [h1,iF]
 refine Prod.ext ?_ ?_
 ·cases lo with
  |none=>rfl
  |some v=>exact zXL v n 0
 ·cases hi with
  |none=>rfl
  |some v=>exact zXL v n n
theorem zVV(i j:Nat):Builtin.Slice.slicePlaces (i:Int) (j:Int) 1=j - i:=by
 unfold Builtin.Slice.slicePlaces
 have h1:(1:Int)>0:=by omega
 simp only [h1,if_true,Int.ediv_one]
 split<;>omega
theorem zLQ{v:Value}{o:Option Int}{Q:Option Int->Shared->Prop}(p:IsPart v o)(h:Q o s):wpAny (model prog w) A (Builtin.Slice.slicePartIndex v) Q E s:=by
 cases p with
 |none=>exact slicePart_none h
 |int i t=>exact slicePart_int h
theorem sliceApplied_gen{sl:Addr}{vl vu:Value}{lo hi:Option Int}{n:Nat}{Q:Int×Int×Nat->Shared->Prop}(hs:s.heap.IsSliceOf sl vl vu .none)(pl:IsPart vl lo)(pu:IsPart vu hi)
  (h:Q (((sIx n 0 lo:Nat):Int),1,sIx n n hi - sIx n 0 lo) s):wpAny (model prog w) A (Builtin.Slice.sliceApplied (.ref sl) (pure (n:Int))) Q E s:=by
 obtain⟨os,hos,hcs,hds⟩:=id hs
 unfold Builtin.Slice.sliceApplied Builtin.Slice.sliceFields
 refine wB0 (wB0 (wpAny_field hos hds (x:=vl) rfl (wB0 (wpAny_field hos hds (x:=vu) rfl (wB0 (wpAny_field hos hds (x:=.none) rfl (wP0 ?_)))))))
 refine wB0 (slicePart_none ?_)
 show wpAny _ _ (if((1:Int)==0)=true then _ else _) _ _ s
 rw [iN (by decide)]
 refine wB0 (zLQ pl (wB0 (zLQ pu (wB0 (wP0 ?_)))))
 show wpAny _ _ (match Builtin.Slice.sliceAdjust lo hi 1 (n:Int)with |(lo,hi)=>pure (lo,(1:Int),Builtin.Slice.slicePlaces lo hi 1)) _ _ s
 rw [zVU lo hi n]
 show wpAny _ _ (pure (((sIx n 0 lo:Nat):Int),(1:Int),Builtin.Slice.slicePlaces ((sIx n 0 lo:Nat):Int) ((sIx n n hi:Nat):Int) 1)) _ _ s
 rw [zVV]
 exact wP0 h
theorem yCK(xs:Array Value)(i k:Nat):((List.range k).filterMap λ(m:Nat)=>xs[((i:Int)+(m:Int) * 1).toNat]?).toArray=((xs.toList.drop i).take k).toArray:=by
 have e:(λ(m:Nat)=>xs[((i:Int)+(m:Int) * 1).toNat]?)=λm=>xs[i+m]? :=by
  funext m
  have:((i:Int)+(m:Int) * 1).toNat=i+m:=by omega
  rw [this]
 rw [e]
 have:=pick_run xs i k
 rw [List.filterMap_map]at this
 have e2:((λx=>xs[x]?)∘λx=>i+x)=λm=>xs[i+m]? :=rfl
 rw [e2]at this
 rw [this]
theorem getItem_tuple_cut{t sl:Addr}{items:Array Value}{vl vu:Value}{lo hi:Option Int}{Q:VP}(ht:IsTup s.heap t items)(hs:s.heap.IsSliceOf sl vl vu .none)(pl:IsPart vl lo)(pu:IsPart vu hi)
  (hw: ¬(sIx items.size 0 lo=0/\sIx items.size items.size hi=items.size))
  (h:Q (.ref s.heap.objs.size) {s with heap:=s.heap.push {cls:=.type "tuple",data:=.seq ((items.toList.drop (sIx items.size 0 lo)).take (sIx items.size items.size hi - sIx items.size 0 lo)).toArray}})
  (hsz:items.size<=sizeLine):wpAny (model prog w) A (getItem (.ref t) (.ref sl)) Q E s:=by
 have htake:sizeOk (.seq ((items.toList.drop (sIx items.size 0 lo)).take (sIx items.size items.size hi - sIx items.size 0 lo)).toArray):=by
  show((items.toList.drop (sIx items.size 0 lo)).take (sIx items.size items.size hi - sIx items.size 0 lo)).toArray.size<=sizeLine
  rw [sA0,lT,length_drop,Array.length_toList]
  omega
 have hj:sIx items.size items.size hi<=items.size:=sIx_le _ _ (le_refl _) hi
 obtain⟨os,hos,hcs,hds⟩:=id hs
 have hTs:s.TypeIs (.ref sl) "slice":=⟨os,hos,hcs⟩
 unfold getItem
 try with_reducible refine wpAny_holding ?_
 first |refine wB0 (wP0 ?_)|skip
 refine wB0 (wpAny_sequenceKey ht.typeIs (by decide) ?_)
 refine wB0 (wpAny_callSpecial?_slot (name:=Str.ofString "__getitem__") ht.typeIs PyProof.Rows.slot_tuple_getitem
  (wpAny_call_entry PyProof.Rows.slot_tuple_getitem ht.typeIs entry_tuple_getitem ?_ (args_tuple_getitem _ _)))
 show wpAny _ _ (Builtin.Tuple.tupleItemsOf (.ref t) >>= _) _ _ s
 refine wB0 (tupleItemsOf_ ht ?_)
 refine wB0 (wpAny_typeOf hTs ?_)
 rw [iP (by decide)]
 refine wB0 (sliceApplied_gen hs pl pu ?_)
 have hno: ¬((((sIx items.size 0 lo:Nat):Int)==0&&(1:Int)==1&&(sIx items.size items.size hi - sIx items.size 0 lo)==items.size)=true):=by
  intro q
  rw [aE,aE]at q
  have q1:((sIx items.size 0 lo:Nat):Int)=0:=eq_of_beq q.1.1
  have q2:sIx items.size items.size hi - sIx items.size 0 lo=items.size:=eq_of_beq q.2
  exact hw ⟨by omega,by omega⟩
 show wpAny _ _ (if(((sIx items.size 0 lo:Nat):Int)==0&&(1:Int)==1&&(sIx items.size items.size hi - sIx items.size 0 lo)==items.size)=true then _ else _) _ _ s
 rw [iN hno,yCK]
 first
  |exact wB0 (m:=Builtin.Tuple.tupleExact _) (wpAny_newObj_type (wP0 ⟨_,rfl,wP0 h⟩) htake)
  |exact wB0 (m:=Builtin.Tuple.tupleExact _) (wpAny_newObj_type (wB0 (wP0 (wP0 ⟨_,rfl,wP0 h⟩))) htake)
  |exact wB0 (wB0 (m:=Builtin.Tuple.tupleExact _) (wpAny_newObj_type (wP0 (wP0 ⟨_,rfl,wP0 h⟩)) htake))
  |exact wB0 (wB0 (m:=Builtin.Tuple.tupleExact _) (wpAny_newObj_type (wP0 ⟨_,rfl,wP0 h⟩) htake))
end
end HT
namespace L2
open PySem PySem.Spec PyProof.Rows
abbrev TO:=St->Hp->(Option Int->Hp->Prop)->Prop
def PO(X:Cx)(e:Option Expr)(t:TO):Prop:=
 ∀(pins:List (Addr×Obj))(s:Shared)(σ:St)(H:Hp)(Q:Option Int->Hp->Prop),Inv X pins σ H s->t σ H Q->
  wpAny (model X.prog X.w) X.A (evalPart e X.env) (λu s'=> ∃o H',Inv X pins σ H' s'/\IsPart u o/\Q o H') X.xe s
def yHF:TO:=λ_ H Q=>Q none H
def tPart(t:TE):TO:=λσ H Q=>t σ H λx H1=> ∃i,x=.int i/\Q (some i) H1
section
variable{X:Cx}{e:Expr}{te:TE}{lo hi:Option Expr}{tl th:TO}{pos p2:Pos}
theorem yHG:PO X none yHF:=by
 intro pins s σ H Q I h
 rw [evalPart_none]
 exact wP0 ⟨none,H,I,.none,h⟩
theorem yHH(h:PE X e te):PO X (some e) (tPart te):=by
 intro pins s σ H Q I hw
 rw [evalPart_some]
 refine thn (h pins s σ H _ I hw) λu s1 ⟨x,H1,I1,r1,q1⟩=>?_
 obtain⟨i,rfl,q⟩:=q1
 obtain⟨t,rfl⟩:=r1
 exact⟨some i,H1,I1,.int i t,q⟩
def SlR(X:Cx)(r:V->Option Int->Option Int->Hp->VK->Prop):Prop:=
 ∀(pins:List (Addr×Obj))(s:Shared)(σ:St)(H:Hp)(x:V)(v vl vu:Value)(lo hi:Option Int)(sl:Addr)(Q:VK),Inv X pins σ H s->RelV x v->s.heap.IsSliceOf sl vl vu .none->IsPart vl lo->IsPart vu hi->r x lo hi H Q->
  ∃T id,typeLookup (.type T) "__getitem__"=pure (some (.builtin id))/\s.TypeIs v T/\wpAny (model X.prog X.w) X.A (getItem v (.ref sl)) (EP X pins σ Q) X.xe s
theorem SlR.or{r r':V->Option Int->Option Int->Hp->VK->Prop}(h:SlR X r)(h':SlR X r'):SlR X (λx lo hi H Q=>r x lo hi H Q\/r' x lo hi H Q):=by
 intro pins s σ H x v vl vu lo hi sl Q I rx hs pl pu q
 rcases q with q|q
 ·exact h pins s σ H x v vl vu lo hi sl Q I rx hs pl pu q
 ·exact h' pins s σ H x v vl vu lo hi sl Q I rx hs pl pu q
def tSl(r:V->Option Int->Option Int->Hp->VK->Prop)(te:TE)(tl th:TO):TE:=λσ H Q=>te σ H λx H1=>tl σ H1 λl H2=>th σ H2 λu H3=>r x l u H3 Q
theorem yCL{r:V->Option Int->Option Int->Hp->VK->Prop}(hr:SlR X r)(he:PE X e te)(hl:PO X lo tl)(hu:PO X hi th):PE X (.Subscript e (.Slice lo hi none p2) pos) (tSl r te tl th):=by
 intro pins s σ H Q I h
 refine Subscript_ (thn (he pins s σ H _ I h) λv s1 ⟨x,H1,I1,r1,q1⟩=>?_)
 refine wpAny_Slice (thn (hl pins s1 σ H1 _ I1 q1) λvl s2 ⟨l,H2,I2,pl,q2⟩=>thn (hu pins s2 σ H2 _ I2 q2) λvu s3 ⟨u,H3,I3,pu,q3⟩=>?_)
 rw [evalPart_none]
 refine wP0 ?_
 have I4:Inv X pins σ H3 {s3 with heap:=s3.heap.push {cls:=.type "slice",data:=.fields #[vl,vu,.none]}}:=I3.kept (t':=s3.toks) λb ob q=>hP0 _ q
 obtain⟨T,id,hT,ht,hg⟩:=hr pins {s3 with heap:=s3.heap.push {cls:=.type "slice",data:=.fields #[vl,vu,.none]}} σ H3 x v vl vu l u s3.heap.objs.size Q I4 r1 (Heap.IsSliceOf.new ..) pl pu q3
 show wpAny (model X.prog X.w) X.A (subscriptTail e (.Slice lo hi none p2) v (.ref s3.heap.objs.size)) (EP X pins σ Q) X.xe {s3 with heap:=s3.heap.push {cls:=.type "slice",data:=.fields #[vl,vu,.none]}}
 exact tail_any (ops:=[.ref s3.heap.objs.size,v]) ht hT hg (by with_unfolding_all rfl)
def zSP(xs:List V)(lo hi:Option Int):List V:=(xs.drop (HT.sIx xs.length 0 lo)).take (HT.sIx xs.length xs.length hi - HT.sIx xs.length 0 lo)
theorem zKA(xs:List V)(lo hi:Option Int):(zSP xs lo hi).length<=xs.length:=by
 unfold zSP
 rw [lT,length_drop]
 omega
def rSlT(K:PySem.W.Frag):V->Option Int->Option Int->Hp->VK->Prop:=λx lo hi H Q=> ∃a xs,x=.ref a/\SqT K H a xs/\
 ¬(HT.sIx xs.length 0 lo=0/\HT.sIx xs.length xs.length hi=xs.length)/\ ∀p,H p=none->Q (.ref p) (upd H p (.tup (zSP xs lo hi)))
theorem yNB:SlR X (rSlT X.K):=by
 intro pins s σ H x v vl vu lo hi sl Q I rx hs pl pu h
 obtain⟨a,xs,rfl,hx,hw,q⟩:=h
 cases rx
 obtain⟨its,r,ht,hz⟩:=I.tuple hx
 have hlen:its.toArray.size=xs.length:=by rw [sA0];exact r.length.symm
 refine⟨"tuple",_,PyProof.Rows.slot_tuple_getitem.lookup,ht.typeIs,?_⟩
 refine HT.getItem_tuple_cut ht hs pl pu (by rw [hlen];exact hw) ?_ (by rw [hlen];exact hz)
 rw [hlen]
 refine⟨.ref s.heap.objs.size,_,I.laid (t':=s.toks) (o:=.tup (zSP xs lo hi)) (λb ob q=>hP0 _ q) (le_refl _) ?_,rfl,q _ (I.hok.fresh (le_refl _))⟩
 exact⟨le_trans (zKA xs lo hi) hz,_,(r.drop (HT.sIx xs.length 0 lo)).take (HT.sIx xs.length xs.length hi - HT.sIx xs.length 0 lo),IsTup.new _ _⟩
def rCatT(K:PySem.W.Frag):R2:=λx y H Q=> ∃a b xs ys,x=.ref a/\y=.ref b/\SqT K H a xs/\SqT K H b ys/\xs≠[]/\xs.length+ys.length<=sizeLine/\
 (ys=[]->Q (.ref a) H)/\(ys≠[]-> ∀p,H p=none->Q (.ref p) (upd H p (.tup (xs++ys))))
theorem Vals.nil_iff{xs:List V}{us:List Value}(r:Vals xs us):us=[]↔xs=[]:=by
 cases r with
 |nil=>simp
 |cons _ _=>simp
theorem yHI:OpR X (binaryOp .Add) (rCatT X.K):=by
 intro pins s σ H x y v u Q I rx ry h
 obtain⟨a,b,xs,ys,rfl,rfl,ha,hb,hx,hz,q1,q2⟩:=h
 cases rx
 cases ry
 obtain⟨its,r1,p1,_⟩:=I.tuple ha
 obtain⟨its2,r2,p2,_⟩:=I.tuple hb
 refine HT.cat_tup p1 p2 (λz=>hx (r1.nil_iff.mp z)) (λz=>⟨.ref a,H,I,rfl,q1 (r2.nil_iff.mp z)⟩) (λz=>?_) (by rw [<-r1.length, <-r2.length];exact hz)
 refine⟨.ref s.heap.objs.size,_,I.laid (t':=s.toks) (o:=.tup (xs++ys)) (λb ob q=>hP0 _ q) (le_refl _) ?_,rfl,q2 (λw=>z (r2.nil_iff.mpr w)) _ (I.hok.fresh (le_refl _))⟩
 exact⟨by rw [lA];exact hz,_,r1.append r2,IsTup.new _ _⟩
end
def ixN(n:Nat)(i:Int):Option Nat:=if 0<=i then(if i<n then some i.toNat else none)else if -(n:Int)<=i then some (i+n).toNat else none
def atI{α:Type}(xs:List α)(i:Int):Option α:=(ixN xs.length i).bind λj=>xs[j]?
theorem zXM{n:Nat}{i:Int}{j:Nat}(h:ixN n i=some j):seqIndex? i n=some j/\j<n/\ -(n:Int)<=i/\i<n:=by
 unfold ixN at h
 by_cases h0:0<=i
 ·rw [iP h0]at h
  by_cases h1:i<n
  ·rw [iP h1]at h
   have e:i.toNat=j:=Option.some.inj h
   exact⟨by rw [seqIndex_of h0 h1,e],by omega,by omega,h1⟩
  ·rw [iN h1]at h;cases h
 ·rw [iN h0]at h
  by_cases h1: -(n:Int)<=i
  ·rw [iP h1]at h
   have e:(i+n).toNat=j:=Option.some.inj h
   exact⟨by rw [seqIndex_neg (by omega) h1,e],by omega,h1,by omega⟩
  ·rw [iN h1]at h;cases h
theorem zQA{α:Type}{xs:List α}{i:Int}{v:α}(h:atI xs i=some v): ∃j,seqIndex? i xs.length=some j/\xs[j]? =some v/\j<xs.length/\ -(xs.length:Int)<=i/\i<xs.length:=by
 unfold atI at h
 cases e:ixN xs.length i with
 |none=>rw [e]at h;cases h
 |some j=>
  rw [e]at h
  obtain⟨h1,h2,h3,h4⟩:=zXM e
  exact⟨j,h1,h,h2,h3,h4⟩
theorem atI_nat{α:Type}{xs:List α}{j:Nat}{v:α}(h:xs[j]? =some v):atI xs (j:Int)=some v:=by
 have hj:j<xs.length:=(gS0.mp h).1
 have e:ixN xs.length (j:Int)=some j:=by
  unfold ixN
  rw [iP (by omega),iP (by omega)];simp
 unfold atI;rw [e];exact h
def zQB(b:Expr):Prop:= ∀o i,subscripted b false o i=operate [o,i] (getItem o i)
def IxR(X:Cx)(r:R2):Prop:=
 ∀(value slice:Expr)(pins:List (Addr×Obj))(s:Shared)(σ:St)(H:Hp)(x y:V)(v u:Value)(Q:VK),Inv X pins σ H s->RelV x v->RelV y u->r x y H Q->
  subscripted slice false v u=operate [v,u] (getItem v u)->wpAny (model X.prog X.w) X.A (subscriptTail value slice v u) (EP X pins σ Q) X.xe s
def MtR(X:Cx)(id:String)(r:V->List V->Hp->VK->Prop):Prop:=
 ∀(pins:List (Addr×Obj))(s:Shared)(σ:St)(H:Hp)(x:V)(xs:List V)(v:Value)(us:List Value)(Q:VK),Inv X pins σ H s->RelV x v->Vals xs us->r x xs H Q->
  wpAny (model X.prog X.w) X.A (call (.builtin id) (v::us)) (EP X pins σ Q) X.xe s
section
variable{X:Cx}{a b:Expr}{ta tb:TE}{pos:Pos}
theorem IxR.or{r r':R2}(h:IxR X r)(h':IxR X r'):IxR X (λx y H Q=>r x y H Q\/r' x y H Q):=by
 intro value slice pins s σ H x y v u Q I rx ry q hs
 rcases q with q|q
 ·exact h value slice pins s σ H x y v u Q I rx ry q hs
 ·exact h' value slice pins s σ H x y v u Q I rx ry q hs
theorem pe_ix{r:R2}(hr:IxR X r)(ha:PE X a ta)(hb:PE X b tb)(hs:zQB b):PE X (.Subscript a b pos) (tOp r ta tb):=by
 intro pins s σ H Q I h
 exact Subscript_ (binT ha hb I h λv u s2 x y H2 I2 rx ry q=>hr a b pins s2 σ H2 x y v u Q I2 rx ry q (hs _ _))
def rIxL(K:PySem.W.Frag):R2:=λx y H Q=> ∃p xs i v,x=.ref p/\y=.int i/\SqL K H p xs/\atI xs i=some v/\Q v H
def rIxT(K:PySem.W.Frag):R2:=λx y H Q=> ∃p xs i v,x=.ref p/\y=.int i/\SqT K H p xs/\atI xs i=some v/\Q v H
def rIxS:R2:=λx y H Q=> ∃z i c,x=.str z/\y=.int i/\z.length<=sizeLine/\atI z.cps.toList i=some c/\Q (.str ⟨#[c]⟩) H
theorem yHJ:IxR X (rIxL X.K):=by
 intro value slice pins s σ H x y v u Q I rx ry h hs
 obtain⟨p,xs,i,z,rfl,rfl,hq,he,q⟩:=h
 cases rx
 obtain⟨t,rfl⟩:=ry
 obtain⟨its,r,pl,hz⟩:=I.list hq
 obtain⟨j,h1,h2,h3,h4,h5⟩:=zQA he
 obtain⟨w,ew,rw'⟩:=r.get h2
 have hl:=r.length
 have hn:=zGZ
 have fin:EP X pins σ Q w s:=⟨z,H,I,rw',q⟩
 by_cases h0:0<=i
 ·have hj:i.toNat=j:=by
   rw [seqIndex_of h0 h5]at h1
   exact Option.some.inj h1
  exact item_listR pl.isList h0 (by omega) (by rw [hj];simpa using ew) fin hs
 ·have hj:(i+(its.toArray.size:Int)).toNat=j:=by
   rw [seqIndex_neg (by omega) h4]at h1
   rw [sA0, <-hl]
   exact Option.some.inj h1
  exact subscriptTail_builtinR (x:=w) pl.isList.typeIs slot_list_getitem.lookup
   (wpAny_getItem_list_neg (Q:=λr s'=>r=w/\EP X pins σ Q r s') pl.isList (by omega) (by rw [sA0]<;>omega) (by omega) (by rw [hj];simpa using ew) ⟨rfl,fin⟩) hs
theorem ix_tup:IxR X (rIxT X.K):=by
 intro value slice pins s σ H x y v u Q I rx ry h hs
 obtain⟨p,xs,i,z,rfl,rfl,hq,he,q⟩:=h
 cases rx
 obtain⟨t,rfl⟩:=ry
 obtain⟨its,r,pl,hz⟩:=I.tuple hq
 obtain⟨j,h1,h2,h3,h4,h5⟩:=zQA he
 obtain⟨w,ew,rw'⟩:=r.get h2
 have hl:=r.length
 have hn:=zGZ
 have fin:EP X pins σ Q w s:=⟨z,H,I,rw',q⟩
 exact subscriptTail_builtinR (x:=w) pl.typeIs slot_tuple_getitem.lookup
  (getItem_tuple (j:=j) (Q:=λr s'=>r=w/\EP X pins σ Q r s') pl (by omega) (by omega) (by rw [sA0, <-hl];exact h1) (by simpa using ew) ⟨rfl,fin⟩) hs
theorem ix_str:IxR X rIxS:=by
 intro value slice pins s σ H x y v u Q I rx ry h hs
 obtain⟨z,i,c,rfl,rfl,hz,he,q⟩:=h
 obtain⟨t,rfl⟩:=rx
 obtain⟨t',rfl⟩:=ry
 obtain⟨j,h1,h2,h3,h4,h5⟩:=zQA he
 have hl:z.cps.toList.length=z.length:=by simp [Str.length]
 rw [hl]at h1 h4 h5
 have hn:=zGZ
 exact tail_any (typeIs_str s z t) slot_str_getitem.lookup (getItem_str (c:=c) (by
  have e1:decide (i< -(2 ^ 63:Int))=false:=dF0 (by omega)
  have e2:decide (i>=2 ^ 63)=false:=dF0 (by omega)
  rw [e1,e2,Bool.or_false]) (by rw [h1];simpa using h2) ⟨.str ⟨#[c]⟩,H,I.tok _,⟨_,rfl⟩,q⟩) hs
def rIx(K:PySem.W.Frag):R2:=λx y H Q=>rIxL K x y H Q\/rIxT K x y H Q\/rIxS x y H Q
theorem yNC:IxR X (rIx X.K):=yHJ.or (ix_tup.or ix_str)
theorem zVW(its:List Value)(n j:Nat)(u:Value):Obj.mapSeq (·.setIfInBounds j u) {cls:=.type "list",data:=.seq its.toArray n}={cls:=.type "list",data:=.seq (its.set j u).toArray n}:=by
 simp [Obj.mapSeq]
theorem Inv.lst{pins:List (Addr×Obj)}{σ:St}{H:Hp}{s:Shared}{p:Addr}{xs:List V}(I:Inv X pins σ H s)(h:H p=some (.lst xs)):
  ∃(its:List Value)(n:Nat),Vals xs its/\s.heap.get? p=some {cls:=.type "list",data:=.seq its.toArray n}/\xs.length<=sizeLine:=by
 obtain⟨z,its,n,r,e⟩:=I.hok p _ h
 exact⟨its,n,r,e,z⟩
theorem Inv.lstUpd{pins:List (Addr×Obj)}{σ:St}{H:Hp}{s:Shared}{p:Addr}{xs ys:List V}{its its':List Value}{n n':Nat}{f:Obj->Obj}(I:Inv X pins σ H s)(h:H p=some (.lst xs))
  (ho:s.heap.get? p=some {cls:=.type "list",data:=.seq its.toArray n}) (hf:f {cls:=.type "list",data:=.seq its.toArray n}={cls:=.type "list",data:=.seq its'.toArray n'}) (r:Vals ys its') (hz:ys.length<=sizeLine) (t:Nat):
  Inv X pins σ (upd H p (.lst ys)) {s with heap:=s.heap.update p f,toks:=t}:=by
 have e:(s.heap.update p f).get? p=some {cls:=.type "list",data:=.seq its'.toArray n'}:=by
  rw [Heap.get?_update_self f ho (by rw [hf]<;>rfl),hf]
 refine I.write (x:=p) (e:=p) (by rw [h];trivial) (.inl rfl) (λb u hb q=>(Heap.get?_update_other _ _ (Ne.symm hb)).trans q) ⟨_,e⟩ ?_
 exact⟨hz,its',n',r,e⟩
def rSetL:V->V->V->Hp->(Hp->Prop)->Prop:=λo i v H Q=> ∃p xs k j,o=.ref p/\i=.int k/\H p=some (.lst xs)/\ixN xs.length k=some j/\Q (upd H p (.lst (xs.set j v)))
theorem set_list:PSet X rSetL:=by
 intro pins s σ H o i v ov iv u Q I ro ri rv h
 obtain⟨p,xs,k,j,rfl,rfl,hp,hj,q⟩:=h
 cases ro
 obtain⟨t,rfl⟩:=ri
 obtain⟨its,n,r,ho,hz⟩:=I.lst hp
 obtain⟨h1,h2,h3,h4⟩:=zXM hj
 have hl:=r.length
 have hn:=zGZ
 have I':Inv X pins σ (upd H p (.lst (xs.set j v))) {s with heap:=s.heap.update p (Obj.mapSeq (·.setIfInBounds j u))}:=
  I.lstUpd hp ho (zVW its n j u) (r.set rv j) (by rw [length_set];exact hz) s.toks
 by_cases h0:0<=k
 ·have hk:k.toNat=j:=by
   rw [seqIndex_of h0 h4]at h1
   exact Option.some.inj h1
  exact PySem.W.ki_setAt ho h0 (by omega) (by rw [sA0, <-hl];exact h4) (by rw [hk];exact⟨_,I',q⟩)
 ·have hk:(k+(its.toArray.size:Int)).toNat=j:=by
   rw [seqIndex_neg (by omega) h3]at h1
   rw [sA0, <-hl]
   exact Option.some.inj h1
  exact PySem.W.ki_setBack ho (by omega) (by rw [sA0, <-hl];exact h3) (by omega) (by rw [hk];exact⟨_,I',q⟩)
theorem zQC(lo hi:Option Int)(n:Nat):(sliceBounds lo hi none n).1=((HT.sIx n 0 lo:Nat):Int)/\(sliceBounds lo hi none n).2.1=((HT.sIx n n hi:Nat):Int)/\(sliceBounds lo hi none n).2.2=1:=by
 refine⟨?_,?_,rfl⟩
 ·cases lo with
  |none=>simp [sliceBounds,HT.sIx]
  |some i=>
   simp only [sliceBounds,HT.sIx,Option.getD_none,show(1:Int)>0 by decide,if_true]
   by_cases h:i<0
   ·simp only [h,if_true]<;>omega
   ·simp only [h,iF]<;>omega
 ·cases hi with
  |none=>simp [sliceBounds,HT.sIx]
  |some i=>
   simp only [sliceBounds,HT.sIx,Option.getD_none,show(1:Int)>0 by decide,if_true]
   by_cases h:i<0
   ·simp only [h,if_true]<;>omega
   ·simp only [h,iF]<;>omega
theorem zNU(its:List Value)(lo hi:Option Int):slicePick its.toArray lo hi none=((its.drop (HT.sIx its.length 0 lo)).take (HT.sIx its.length its.length hi - HT.sIx its.length 0 lo)).toArray:=by
 obtain⟨h1,h2,h3⟩:=zQC lo hi its.toArray.size
 unfold slicePick
 rw [h1,h2,h3]
 simp only [sliceRange_one,pick_run,sA0]<;>rfl
def rSlL(K:PySem.W.Frag):V->Option Int->Option Int->Hp->VK->Prop:=λx lo hi H Q=> ∃a xs,x=.ref a/\SqL K H a xs/\ ∀p,H p=none->Q (.ref p) (upd H p (.lst (zSP xs lo hi)))
theorem yHK:SlR X (rSlL X.K):=by
 intro pins s σ H x v vl vu lo hi sl Q I rx hs pl pu h
 obtain⟨a,xs,rfl,hx,q⟩:=h
 cases rx
 obtain⟨its,r,ht,hz⟩:=I.list hx
 have hlen:=r.length
 refine⟨"list",_,slot_list_getitem.lookup,ht.isList.typeIs,?_⟩
 refine wpAny_getItem_list_slice ht.isList hs pl pu .none (by simp) ?_ (by rw [sA0]<;>omega)
 rw [zNU, <-hlen]
 refine⟨.ref s.heap.objs.size,_,I.laid (t':=s.toks) (o:=.lst (zSP xs lo hi)) (λb ob q=>hP0 _ q) (le_refl _) ?_,rfl,q _ (I.hok.fresh (le_refl _))⟩
 exact⟨le_trans (zKA xs lo hi) hz,_,0,(r.drop (HT.sIx xs.length 0 lo)).take (HT.sIx xs.length xs.length hi - HT.sIx xs.length 0 lo),Heap.get?_push_size _ rfl⟩
def wS:V->Bool
 |.non=>true
 |.bl _=>true
 |.int _=>true
 |.str _=>true
 |_=>false
def eqV:V->V->Bool
 |.non,.non=>true
 |.bl a,.bl b=>a==b
 |.bl a,.int b=>(if a then 1 else 0)==b
 |.int a,.bl b=>a==(if b then 1 else 0)
 |.int a,.int b=>a==b
 |.str a,.str b=>a==b
 |_,_=>false
theorem yND{A:Around}{s:Shared}{y x:V}{u v:Value}(ry:RelV y u)(rx:RelV x v)(fy:wS y=true)(fx:wS x=true):SeqAt.EqAt A s u v (eqV y x):=by
 cases y with
 |non=>
  cases ry
  cases x with
  |non=>cases rx;exact SeqAt.EqAt.same _
  |bl b=>cases rx;exact SeqAt.EqAt.none_bool b
  |int b=>obtain⟨t,rfl⟩:=rx;exact SeqAt.EqAt.none_int b t
  |str b=>obtain⟨t,rfl⟩:=rx;exact SeqAt.EqAt.none_str b t
  |_=>exact absurd (show false=true from fx) xF0
 |bl a=>
  cases ry
  cases x with
  |non=>cases rx;exact SeqAt.EqAt.bool_none a
  |bl b=>cases rx;exact SeqAt.EqAt.bool_bool a b
  |int b=>obtain⟨t,rfl⟩:=rx;exact SeqAt.EqAt.bool_int a b t
  |str b=>obtain⟨t,rfl⟩:=rx;exact SeqAt.EqAt.bool_str a b t
  |_=>exact absurd (show false=true from fx) xF0
 |int a=>
  obtain⟨t',rfl⟩:=ry
  cases x with
  |non=>cases rx;exact SeqAt.EqAt.int_none a t'
  |bl b=>cases rx;exact SeqAt.EqAt.int_bool a t' b
  |int b=>obtain⟨t,rfl⟩:=rx;exact SeqAt.EqAt.int_int a t' b t
  |str b=>obtain⟨t,rfl⟩:=rx;exact SeqAt.EqAt.int_str a t' b t
  |_=>exact absurd (show false=true from fx) xF0
 |str a=>
  obtain⟨t',rfl⟩:=ry
  cases x with
  |non=>cases rx;exact SeqAt.EqAt.str_none a t'
  |bl b=>cases rx;exact SeqAt.EqAt.str_bool a t' b
  |int b=>obtain⟨t,rfl⟩:=rx;exact SeqAt.EqAt.str_int a t' b t
  |str b=>obtain⟨t,rfl⟩:=rx;exact SeqAt.EqAt.str_str a t' b t
  |_=>exact absurd (show false=true from fx) xF0
 |_=>exact absurd (show false=true from fy) xF0
theorem zQD:CallR X (.builtin "len") (λxs H Q=> ∃p ys,xs=[.ref p]/\(SqL X.K H p ys\/SqT X.K H p ys)/\Q (.int ys.length) H):=by
 intro pins s σ H xs us Q I r h
 obtain⟨p,ys,rfl,hq,q⟩:=h
 obtain⟨u,rfl,rx⟩:=vals1 r
 cases rx
 have hn:=zGZ
 rcases hq with hq|hq
 ·obtain⟨its,r',pl,hz⟩:=I.list hq
  have hlen:=r'.length
  exact Calls.call_len_list pl.isList (by simp only [sA0]<;>omega) ⟨.int ys.length,H,I.tok _,⟨s.toks+1,by rw [sA0,hlen]⟩,q⟩
 ·obtain⟨its,r',pl,hz⟩:=I.tuple hq
  have hlen:=r'.length
  exact len_tuple pl (by simp only [sA0]<;>omega) ⟨.int ys.length,H,I.tok _,⟨s.toks+1,by rw [sA0,hlen]⟩,q⟩
theorem zQE:CallR X (.builtin "len") (λxs H Q=> ∃z,xs=[.str z]/\z.length<=sizeLine/\Q (.int z.length) H):=by
 intro pins s σ H xs us Q I r h
 obtain⟨z,rfl,hz,q⟩:=h
 obtain⟨u,rfl,t,rfl⟩:=vals1 r
 have hn:=zGZ
 exact len_str (by omega) ⟨.int z.length,H,I.tok _,⟨_,rfl⟩,q⟩
theorem CallR.or{f:Value}{r r':List V->Hp->VK->Prop}(h:CallR X f r)(h':CallR X f r'):CallR X f (λxs H Q=>r xs H Q\/r' xs H Q):=by
 intro pins s σ H xs us Q I rs q
 rcases q with q|q
 ·exact h pins s σ H xs us Q I rs q
 ·exact h' pins s σ H xs us Q I rs q
theorem cU:CallR X (.type "tuple") (λxs H Q=> ∃p ys,xs=[.ref p]/\((SqL X.K H p ys/\ ∀l,H l=none->Q (.ref l) (upd H l (.tup ys)))\/(SqT X.K H p ys/\Q (.ref p) H))):=by
 intro pins s σ H xs us Q I r h
 obtain⟨p,ys,rfl,h⟩:=h
 obtain⟨u,rfl,rx⟩:=vals1 r
 cases rx
 rcases h with⟨hq,q⟩|⟨hq,q⟩
 ·obtain⟨its,r',pl,hz⟩:=I.list hq
  have hlen:=r'.length
  refine call_tuple_list pl.isList (λh' kp=>?_) (by simp only [sA0]<;>omega)
  have I1:Inv X pins σ H {s with heap:=h'}:=I.kept (t':=s.toks) kp
  have I2:Inv X pins σ (upd H h'.objs.size (.tup ys)) {s with heap:=h'.push {cls:=.type "tuple",data:=.seq its.toArray}}:=
   I1.laid (t':=s.toks) (λb o e=>hP0 _ e) (le_refl _) (show ObjOk X.prog X.w _ _ _ (.tup ys)from⟨hz,its,r',IsTup.new _ _⟩)
  exact⟨.ref h'.objs.size,_,I2,rfl,q _ (I1.hok.fresh (le_refl _))⟩
 ·obtain⟨its,r',pl,hz⟩:=I.tuple hq
  exact call_tuple_same pl ⟨.ref p,H,I,rfl,q⟩
def tyV(K:PySem.W.Frag)(T:String)(x:V)(H:Hp):Prop:=match x with
 |.str _=>T="str"
 |.int _=>T="int"
 |.ref p=>(T="list"/\ ∃xs,SqL K H p xs)\/(T="tuple"/\ ∃o,K.lookup p=some o/\o.cls=.type "tuple"/\o.dict=none)\/
   (T="dict"/\((∃kvs,H p=some (.dK kvs))\/ ∃kvs,H p=some (.dT kvs)))\/(T="set"/\ ∃S n,H p=some (.set S n))
 |_=>False
theorem yCM{pins:List (Addr×Obj)}{σ:St}{H:Hp}{s:Shared}{T:String}{x:V}{v:Value}(I:Inv X pins σ H s)(r:RelV x v)(ty:tyV X.K T x H):
  s.TypeIs v T/\ ∀a,v=.ref a-> ∃ob,s.heap.get? a=some ob/\ob.dict=none:=by
 cases x with
 |str z=>
  obtain⟨t,rfl⟩:=r
  cases (show T="str" from ty)
  exact⟨typeIs_str s z t,λ_ e=>nomatch e⟩
 |int i=>
  obtain⟨t,rfl⟩:=r
  cases (show T="int" from ty)
  exact⟨typeIs_int s i t,λ_ e=>nomatch e⟩
 |ref p=>
  cases r
  rcases ty with⟨rfl,xs,hq⟩|⟨rfl,o,hk,hc,hd⟩|⟨rfl,hk⟩|⟨rfl,S,n,hk⟩
  ·obtain⟨its,_,pl,_⟩:=I.list hq
   refine⟨pl.isList.typeIs,λa e=>?_⟩
   cases e
   obtain⟨o,n,e,c,hd,_⟩:=pl
   exact⟨o,e,hd⟩
  ·refine⟨⟨o,I.kIn p o hk,hc⟩,λa e=>?_⟩
   cases e
   exact⟨o,I.kIn _ o hk,hd⟩
  ·have z: ∃o,s.heap.get? p=some o/\o.ExactDict:=by
    rcases hk with⟨kvs,hk⟩|⟨kvs,hk⟩
    ·obtain⟨_,_,_,_,o,_,_,e,ex,_⟩:=I.hok p _ hk
     exact⟨o,e,ex⟩
    ·obtain⟨_,_,_,_,o,_,_,e,ex,_⟩:=I.hok p _ hk
     exact⟨o,e,ex⟩
   obtain⟨o,e,ex⟩:=z
   refine⟨⟨o,e,ex.1⟩,λa e2=>?_⟩
   cases e2
   exact⟨o,e,ex.2.1⟩
  ·obtain⟨o,_,_,_,e,ex,_⟩:=I.hok p _ hk
   refine⟨⟨o,e,ex.1⟩,λa e2=>?_⟩
   cases e2
   exact⟨o,e,ex.2.1⟩
 |_=>exact False.elim ty
def tBM0(K:PySem.W.Frag)(T:String)(r:V->List V->Hp->VK->Prop)(to:TE):TE:=λσ H Q=>to σ H λx H1=>tyV K T x H1/\r x [] H1 Q
def tBM(K:PySem.W.Frag)(T:String)(r:V->List V->Hp->VK->Prop)(to:TE)(t:TA):TE:=λσ H Q=>to σ H λx H1=>tyV K T x H1/\t σ H1 λxs H2=>r x xs H2 Q
variable{o e:Expr}{es:List Expr}{to:TE}{t:TA}{name:Str}{apos cpos:Pos}{T id:String}{r:V->List V->Hp->VK->Prop}
theorem yNE(pa:PlainAttrs T)(slot:Slot T name id)(hty:typeOf (.builtin id)=pure (.type "method_descriptor"))(hm:MtR X id r)(ho:PE X o to)
  (hbase:attributeBase o name X.env (eval o X.env)=eval o X.env:=by rfl) (hline:(apos.endLine==cpos.line)=true:=by rfl):PE X (.Call (.Attribute o name apos) [] [] cpos) (tBM0 X.K T r to):=by
 intro pins s σ H Q I h
 refine wpAny_Call_method0_late hbase hline (thn (ho pins s σ H _ I h) λv s1 ⟨x,H1,I1,r1,ty,q1⟩=>?_)
 obtain⟨h1,h2⟩:=yCM I1 r1 ty
 exact⟨T,id,pa,slot,hty,h1,h2,Calls.callWith_builtin rfl (PySem.evalArgs_none (hm pins s1 σ H1 x [] v [] Q I1 r1 .nil q1))⟩
theorem pe_bm(pa:PlainAttrs T)(slot:Slot T name id)(hty:typeOf (.builtin id)=pure (.type "method_descriptor"))(hm:MtR X id r)(ho:PE X o to)(ha:PA X (e::es) t)
  (hbase:attributeBase o name X.env (eval o X.env)=eval o X.env:=by rfl)
  (hfew:((backTo cpos (starEach (e::es) X.env)).all (λx=>!x.1)&&(backToKw cpos (keywordEach [] X.env)).all (λx=>x.1.isSome)
   &&decide ((e::es).length+([]:List Keyword).length+(if([]:List Keyword).isEmpty then 0 else 1)<30))=true:=by rfl)
  (hline:(apos.endLine==cpos.line)=true:=by rfl) (hs:starEach (e::es) X.env=(false,eval e X.env)::starEach es X.env:=by rfl) (hplain:(backTo cpos (starEach es X.env)).any (·.1)=false:=by rfl):
  PE X (.Call (.Attribute o name apos) (e::es) [] cpos) (tBM X.K T r to t):=by
 intro pins s σ H Q I h
 refine wpAny_Call_method_late hbase hfew hline rfl (thn (ho pins s σ H _ I h) λv s1 ⟨x,H1,I1,r1,ty,q1⟩=>?_)
 obtain⟨h1,h2⟩:=yCM I1 r1 ty
 refine⟨T,id,pa,slot,hty,h1,h2,?_⟩
 have hA:=ha cpos pins s1 σ H1 _ I1 q1
 rw [hs]at hA ⊢
 refine Calls.callWith_builtin (by show(false || (backTo cpos (starEach es X.env)).any (·.1))=false;rw [hplain]<;>rfl) (Calls.evalArgs_plain ?_)
 exact thn hA λus s2 ⟨vs,H2,I2,r2,q2⟩=>hm pins s2 σ H2 x vs v us Q I2 r1 r2 q2
end
def MtM(X:Cx)(id:String)(r:V->List V->Hp->VK->Prop):Prop:=
 ∀(pins:List (Addr×Obj))(s:Shared)(σ:St)(H:Hp)(x:V)(xs:List V)(v:Value)(us:List Value)(Q:VK),Inv X pins σ H s->RelV x v->Vals xs us->r x xs H Q->
  wpAny (model X.prog X.w) X.A (call (.builtin id) (v::us)) (EP X pins σ Q) X.xe s
theorem Vals.one: ∀{x:V}{us:List Value},Vals [x] us-> ∃u,us=[u]/\RelV x u
 |_,_,.cons r .nil=>⟨_,rfl,r⟩
theorem Vals.zero: ∀{us:List Value},Vals [] us->us=[]
 |_,.nil=>rfl
theorem Vals.eraseIdx: ∀{xs:List V}{us:List Value}(i:Nat),Vals xs us->Vals (xs.eraseIdx i) (us.eraseIdx i)
 |_,_,_,.nil=>.nil
 |_,_,0,.cons _ t=>t
 |_,_,i+1,.cons r t=>.cons r (Vals.eraseIdx i t)
theorem Vals.reverse{xs:List V}{us:List Value}(h:Vals xs us):Vals xs.reverse us.reverse:=by
 induction h with
 |nil=>exact .nil
 |cons r t ih=>rw [reverse_cons,reverse_cons];exact Vals.append ih (.cons r .nil)
theorem Vals.rep{xs:List V}{us:List Value}(h:Vals xs us): ∀k:Nat,Vals (List.replicate k xs).flatten (List.replicate k us).flatten
 |0=>.nil
 |k+1=>by
  rw [replicate_succ,replicate_succ,flatten_cons,flatten_cons]
  exact Vals.append h (Vals.rep h k)
theorem zOP{α:Type}: ∀(l:List α)(i:Nat),(l.eraseIdx i).length<=l.length
 |[],_=>le_refl _
 |_::_,0=>le_succ _
 |_::r,i+1=>Nat.succ_le_succ (zOP r i)
theorem foldl_rep(its:List Value): ∀(k:Nat)(acc:List Value),
  List.foldl (λx1 x2=>x1++x2) acc.toArray (List.replicate k its.toArray)=(acc++(List.replicate k its).flatten).toArray
 |0,acc=>by simp
 |k+1,acc=>by
  have e:acc.toArray++its.toArray=(acc++its).toArray:=by simp
  have e2:(acc++its)++(List.replicate k its).flatten=acc++(List.replicate (k+1) its).flatten:=by
   rw [replicate_succ,flatten_cons,aA]
  rw [<-e2, <-foldl_rep its k (acc++its), <-e,replicate_succ,foldl_cons]
section
variable{X:Cx}{pins:List (Addr×Obj)}{σ:St}{H:Hp}{s:Shared}{l b:Addr}{xs ys zs:List V}
theorem Inv.lset{its its':List Value}{n:Nat}{f:Array Value->Array Value}{t':Nat}(I:Inv X pins σ H s)(hH:H l=some (.lst xs))
  (e:s.heap.get? l=some {cls:=.type "list",data:=.seq its.toArray n}) (hf:f its.toArray=its'.toArray) (hv:Vals ys its') (hz:ys.length<=sizeLine):
  Inv X pins σ (upd H l (.lst ys)) {s with heap:=s.heap.update l (Obj.mapSeq f),toks:=t'}:=by
 have q:=PySem.IsL.update e f
 rw [hf]at q
 refine I.write (x:=l) (e:=l) (by rw [hH];exact trivial) (.inl rfl) (λb' u hb hu=>(Heap.get?_update_other s.heap (Obj.mapSeq f) (Ne.symm hb)).trans hu) ⟨_,q⟩ ?_
 exact⟨hz,its',_,hv,q⟩
theorem Inv.lnew{its:List Value}{t':Nat}(I:Inv X pins σ H s)(hv:Vals ys its)(hz:ys.length<=sizeLine):
  Inv X pins σ (upd H s.heap.objs.size (.lst ys)) {s with heap:=s.heap.push {cls:=.type "list",data:=.seq its.toArray},toks:=t'}:=
 I.laid (λ_ _ q=>hP0 _ q) (le_refl _) ⟨hz,its,0,hv,Heap.get?_push_size _ rfl⟩
theorem Inv.fresh(I:Inv X pins σ H s):H s.heap.objs.size=none:=I.hok.fresh (le_refl _)
theorem Inv.lstM(I:Inv X pins σ H s)(hH:H l=some (.lst xs)):xs.length<=sizeLine/\ ∃(its:List Value)(n:Nat),Vals xs its/\xs.length=its.length/\s.heap.get? l=some {cls:=.type "list",data:=.seq its.toArray n}:=by
 obtain⟨z,its,n,r,e⟩:=I.hok l _ hH
 exact⟨z,its,n,r,r.length,e⟩
theorem zSQ{n:Nat}(h:n<=sizeLine):Builtin.List.listTooLong n=false:=by
 unfold Builtin.List.listTooLong
 exact dF0 (by omega)
end
section
variable{X:Cx}
def zXN:V->List V->Hp->VK->Prop:=λx vs H Q=> ∃l xs y,x=.ref l/\vs=[y]/\H l=some (.lst xs)/\xs.length<sizeLine/\Q .non (upd H l (.lst (xs++[y])))
theorem yAO:MtM X "list.append" zXN:=by
 intro pins s σ H x vs v us Q I rx rv h
 obtain⟨l,xs,y,rfl,rfl,hH,hz,q⟩:=h
 cases rx
 obtain⟨u,rfl,ru⟩:=rv.one
 obtain⟨z,its,n,r,hl,e⟩:=I.lstM hH
 refine call_meets F.slot_list_append ⟨_,e,rfl⟩ F.entry_list_append (F.args_list_append_2 _ _) (PySem.list_append l its.toArray n u (by rw [sA0];omega)) ⟨e,?_⟩
 refine⟨.non,_,I.lset (its':=its++[u]) hH e (by simp) (r.append (.cons ru .nil)) ?_,rfl,q⟩
 rw [lA,lS]
 omega
def zXO:V->List V->Hp->VK->Prop:=λx vs H Q=> ∃l b xs zs,x=.ref l/\vs=[.ref b]/\H l=some (.lst xs)/\H b=some (.lst zs)/\xs.length+zs.length<=sizeLine/\Q .non (upd H l (.lst (xs++zs)))
theorem yAP:MtM X "list.extend" zXO:=by
 intro pins s σ H x vs v us Q I rx rv h
 obtain⟨l,b,xs,zs,rfl,rfl,hH,hB,hz,q⟩:=h
 cases rx
 obtain⟨u,rfl,ru⟩:=rv.one
 cases ru
 obtain⟨z,its,n,r,hl,e⟩:=I.lstM hH
 obtain⟨z2,its2,n2,r2,hl2,e2⟩:=I.lstM hB
 have hsz:its.toArray.size+its2.toArray.size<=sizeLine:=by rw [sA0,sA0];omega
 have hlong: ¬(!its.toArray.isEmpty&&Builtin.List.listTooLong (its.toArray.size+its2.toArray.size))=true:=by
  rw [zSQ hsz,Bool.and_false]
  exact xF0
 refine call_meets F.slot_list_extend ⟨_,e,rfl⟩ F.entry_list_extend (F.args_list_extend_2 _ _)
  (AutoSeq1.list_extend_list_list_0 l its.toArray n b its2.toArray n2 hlong (by rw [sA0];omega) (by omega)) ⟨e,e2,?_⟩
 refine⟨.non,_,I.lset (its':=its++its2) hH e (by simp) (r.append r2) ?_,rfl,q⟩
 rw [lA]
 omega
def zSR:V->List V->Hp->VK->Prop:=λx vs H Q=> ∃l xs,x=.ref l/\vs=[]/\H l=some (.lst xs)/\Q .non (upd H l (.lst xs.reverse))
theorem zVX:MtM X "list.reverse" zSR:=by
 intro pins s σ H x vs v us Q I rx rv h
 obtain⟨l,xs,rfl,rfl,hH,q⟩:=h
 cases rx
 have hus:=rv.zero
 subst hus
 obtain⟨z,its,n,r,hl,e⟩:=I.lstM hH
 refine call_meets F.slot_list_reverse ⟨_,e,rfl⟩ F.entry_list_reverse (F.args_list_reverse_1 _) (AutoSeq1.list_reverse_list_0 l its.toArray n (by rw [sA0];omega)) ⟨e,?_⟩
 refine⟨.non,_,I.lset (its':=its.reverse) hH e (by simp) r.reverse ?_,rfl,q⟩
 rw [List.length_reverse]
 omega
def rCat:R2:=λx y H Q=> ∃l b xs zs,x=.ref l/\y=.ref b/\H l=some (.lst xs)/\H b=some (.lst zs)/\xs.length+zs.length<=sizeLine/\ ∀p,H p=none->Q (.ref p) (upd H p (.lst (xs++zs)))
theorem yNF:OpR X (binaryOp .Add) rCat:=by
 intro pins s σ H x y v u Q I rx ry h
 obtain⟨l,b,xs,zs,rfl,rfl,hH,hB,hz,q⟩:=h
 cases rx
 cases ry
 obtain⟨z,its,n,r,hl,e⟩:=I.lstM hH
 obtain⟨z2,its2,n2,r2,hl2,e2⟩:=I.lstM hB
 refine PySem.P.add_list e e2 ?_ (by rw [sA0,sA0];omega)
 have ea:its.toArray++its2.toArray=(its++its2).toArray:=by simp
 rw [ea]
 exact⟨.ref _,_,I.lnew (t':=s.toks) (r.append r2) (by rw [lA];omega),rfl,q _ I.fresh⟩
def rRep:R2:=λx y H Q=> ∃l k xs,x=.ref l/\y=.int k/\H l=some (.lst xs)/\ -(2 ^ 63)<=k/\k<2 ^ 63/\xs.length * k.toNat<=sizeLine/\
 ∀p,H p=none->Q (.ref p) (upd H p (.lst (List.replicate k.toNat xs).flatten))
theorem len_rep{α:Type}(xs:List α)(k:Nat):(List.replicate k xs).flatten.length=k * xs.length:=by
 induction k with
 |zero=>simp
 |succ k ih=>rw [replicate_succ,flatten_cons,lA,ih,Nat.succ_mul,Nat.add_comm]
theorem yNG:OpR X (binaryOp .Mult) rRep:=by
 intro pins s σ H x y v u Q I rx ry h
 obtain⟨l,k,xs,rfl,rfl,hH,h1,h2,hz,q⟩:=h
 cases rx
 obtain⟨t,rfl⟩:=ry
 obtain⟨z,its,n,r,hl,e⟩:=I.lstM hH
 have hlen:its.toArray.size * k.toNat<=sizeLine:=by rw [sA0, <-hl];exact hz
 have hcap: ¬its.toArray.size * k.toNat>(2 ^ 63 - 1) / 8:=by
  have:(sizeLine:Nat)<=(2 ^ 63 - 1) / 8:=by decide
  omega
 have hfit: ¬(!Builtin.List.listFitsIndex k)=true:=by
  rw [fitsIndex_both h1 h2]
  exact xF0
 have hlong: ¬Builtin.List.listTooLong (its.toArray.size * k.toNat)=true:=by
  rw [zSQ hlen]
  exact xF0
 have hnew:List.foldl (λx1 x2=>x1++x2) #[] (List.replicate (if its.toArray.isEmpty=true then 0 else k.toNat) its.toArray)=(List.replicate k.toNat its).flatten.toArray:=by
  have f0: ∀m:Nat,List.foldl (λx1 x2=>x1++x2) #[] (List.replicate m its.toArray)=(List.replicate m its).flatten.toArray:=λm=>by
   have:=foldl_rep its m []
   rw [nil_append]at this
   exact this
  rw [f0]
  cases its with
  |nil=>simp
  |cons a r'=>rw [iN (by simp)]
 refine wpAny_binaryOp_repeat_ref (T:="list") (U:="int") (by decide) ⟨_,e,rfl⟩ (λs'=>typeIs_int s' k t) noFill_list_mul F.fills_int_mul F.slot_int_rmul repeat_list F.slot_int_index.lookup
  (call_meets F.slot_int_rmul (typeIs_int s k t) F.entry_int_rmul (F.args_int_rmul_2 _ _) (int___rmul___int_list k t l its.toArray n)
   ⟨e,rfl,⟨_,e,rfl⟩,call_meets F.slot_list_mul ⟨_,e,rfl⟩ F.entry_list_mul (F.args_list_mul_2 _ _) (AutoListH.list___mul___list_int_3 l its.toArray n k t hfit hcap hlong) ⟨e,?_⟩⟩)
 rw [hnew]
 exact⟨.ref _,_,I.lnew (t':=s.toks) (r.rep k.toNat) (by rw [len_rep,Nat.mul_comm];exact hz),rfl,q _ I.fresh⟩
end
end L2
namespace Att
open PySem PySem.W PySem.Calls PyProof.Rows
theorem zKO{P:Params}{h:Heap}: ∀(ns:List Int)(vs:List Value),WellAll P h vs (ns.map WData.int)->IntsAre vs ns:=by
 intro ns
 induction ns with
 |nil=>
  intro vs w
  rw [map_nil]at w
  cases w
  exact .nil
 |cons n ns ih=>
  intro vs w
  rw [map_cons]at w
  cases w with
  |cons a b=>
   cases a
   exact .cons _ _ (ih _ b)
theorem yAQ{l:OpenLaw}{n:Nat}(hn:l.most=some n){P:Params}{h:Heap}{args:List WData}{vals:List Value}
  (hpre:l.row.toRowW.claim.pre args=true) (hwl:WellAll P h vals args):
  ∃a vs ns,vals=[Value.ref a]/\args=[WData.list (ns.map WData.int)]/\h.get? a=some {cls:=.type "list",data:=.seq vs.toArray}/\IntsAre vs ns/\ns.length<=n:=by
 have hsh:WShape.hasAll [] args [.list .int]=true:=(pre_splitW hpre).1
 have hc:l.pre.holds [] {args:=args}=true:=(pre_splitW hpre).2
 obtain⟨d,r,rfl,h1,h2⟩:=hasAllW_cons hsh
 obtain rfl:=hasAllW_nil h2
 obtain⟨xs,rfl,h3⟩:=hasW_list h1
 obtain⟨ns,rfl⟩:=items_int h3
 have hlen:ns.length<=n:=by
  unfold OpenLaw.pre at hc
  have h4:(WTm.not (.lt (.lit (.int (n:Int))) (.len (.arg 0)))).holds [] {args:=[.list (ns.map .int)]}=true:=by
   have h4:=(holds_andW hc).1
   rw [hn]at h4
   exact h4
  have h5:=condW_of h4 (w_not (w_lt w_lit (w_len_list (w_arg rfl))))
  rw [lM]at h5
  refine Nat.le_of_not_lt λq=>?_
  have q':(n:Int)<((ns.length:Nat):Int):=by omega
  first
   |(rw [dT0 q']at h5;exact absurd h5 (by decide))
   |(simp at h5;omega)
 cases hwl with
 |cons w1 w2=>
  cases w2
  cases w1 with
  |list ho hall=>exact⟨_,_,ns,rfl,rfl,ho,zKO ns _ hall,hlen⟩
theorem yAR(l:OpenLaw)(args:List WData):l.row.toRowW.claim.post args (.bool true) args=true:=
 postW_of (r:=l.row.toRowW) (X:=(true==true))
  (show WShape.has [] (.bool true) .bool=true by first |rfl|decide|simp [WShape.has,WShape.arms,WShape.armsAll])
  (show(WTm.eq .res (.lit (.bool true))).value [] {args:=args,res:=some (.bool true),after:=args}=some (.bool (true==true))from w_eq_bool (w_res rfl) w_lit) rfl
theorem attach_call{l:OpenLaw}{n:Nat}{q:Program}{loose:List Str}{XP:(Str->Option Value)->Heap->Prop}{YP:World->Heap->Prop}{d:DefRec}
  (hn:l.most=some n) (hdf:d.params.defaults=[])
  (call: ∀(w:World)(s₀ s₁:Shared)(mg mb:Str->Option Value)(fa:Addr)(o:Obj)(pm cd doc:Value)(a:Addr)(vs:List Value)(ns:List Int),
   Ground q loose [] XP w s₀ mg mb s₁.heap->YP w s₁.heap->
   s₁.heap.get? fa=some o->o.data=.func (docDef d.name d.params d.body d.scope pm cd doc)->s₁.heap.CodeRec cd d.name->mg d.name=some (.ref fa)->
   s₁.heap.get? a=some {cls:=.type "list",data:=.seq vs.toArray}->IntsAre vs ns->ns.length<=n->s₁.gens=#[]->
   codeAny (model l.prog w) callerA (.call (.ref fa) ⟨[.ref a],[]⟩) (λr s'=>r=.ok (.ret (.bool true))/\OldK s₁.heap s'.heap/\s'.os=s₁.os/\AllBare s'.gens) s₁):
  WalkO q loose XP YP l.row.toRowW d [] (λf vs=>PySem.call f vs):=by
 intro w s₀ s₁ mg mb G Y fa o pm cd doc dV kV ho hd hcd hD hmg hg args vals as hpre hlay hrd hwl hlo
 obtain rfl:dV=.none:=Dflts.none hD hdf
 obtain rfl:kV=.none:=Dflts.noKw hD
 obtain⟨a,vs,ns,rfl,rfl,hobj,hints,hlen⟩:=yAQ hn hpre hwl
 refine enter_call (codeAny_mono (call w s₀ s₁ mg mb fa o pm cd doc a vs ns G Y ho (fd_plain hd) hcd hmg hobj hints hlen hg) λr s' hq=>?_)
 obtain⟨rfl,h2,h3,h4⟩:=hq
 exact⟨.inl ⟨.bool true,.bool true,[],rfl,λ_=>rfl,.bool true,yAR l _,λ_=>⟨List.Pairwise.nil,λ_ hm=>(nomatch hm)⟩⟩,h2,h3,h4⟩
end Att
namespace L2
open PySem PySem.Spec PyProof.Rows
theorem zOQ: ∀{vs:List Value}{ns:List Int},IntsAre vs ns->Vals (ns.map V.int) vs
 |_,_,.nil=>.nil
 |_,_,.cons n t h=>.cons ⟨t,rfl⟩ (zOQ h)
def yCN(H:Hp):Prop:= ∀b,H b=none\/ ∃o xs,H b=some (.frz o (.lst xs))
theorem yCO{P:Program}{w:World}{K:PySem.W.Frag}{mg mb:Str->Option Value}{CX:CXT}{k:Nat}{fa a:Addr}{fd:FuncData}{x:Str}{sp:Sp}{s₁:Shared}{vs:List Value}{ns:List Int}
  (KX:K.In s₁.heap) (hns:s₁.heap.Ns mainGlobals mg) (hb:s₁.heap.Ns builtinsNs mb) (hbb: ∀x:Str,x≠"__name__"->mb x=bootBuiltins x) (hlim:s₁.heap.NoLimit) (hg:s₁.gens=#[])
  (ha:s₁.heap.get? a=some {cls:=.type "list",data:=.seq vs.toArray}) (hi:IntsAre vs ns) (hl:ns.length<=sizeLine) (hr:Room k callerA)
  (F: ∀base:Heap,K.In base->base.Ns mainGlobals mg->FnOk P w K mg base CX k fa fd [x] sp) (hbind: ∀(s:Shared)(u:Value),BindsTo s fd ⟨[u],[]⟩ [(x,u)])
  (hsp: ∀H:Hp,yCN H->SqL K H a (ns.map V.int)->sp [.ref a] H (λv _=>v=.bl true) λ_ _ _=>False)
  (hCX: ∀H e s',CX [] H s₁ (λ_ _ _=>False) e s'->False):
  codeAny (model P w) callerA (.call (.ref fa) ⟨[.ref a],[]⟩) (λr s'=>r=.ok (.ret (.bool true))/\OldK s₁.heap s'.heap/\s'.os=s₁.os/\AllBare s'.gens) s₁:=by
 have rv:=zOQ hi
 have lenV:=hi.length
 have core: ∀H:Hp,yCN H->SqL K H a (ns.map V.int)->HOk P w H s₁.heap->(∀b,H b≠none->b=a)->(H a≠none->K.lookup a=none)->
   codeAny (model P w) callerA (.call (.ref fa) ⟨[.ref a],[]⟩) (λr s'=>r=.ok (.ret (.bool true))/\OldK s₁.heap s'.heap/\s'.os=s₁.os/\AllBare s'.gens) s₁:=by
  intro H hO hS hok hA hK
  have base_of: ∀{b:Addr}{o:Obj},s₁.heap.get? b=some o->H b=none->(zPY s₁.heap H).get? b=some o:=λe n=>yBZ e n
  have noA: ∀{b:Addr}{o:Obj}{es:Array DictEntry}{ep:Nat},s₁.heap.get? b=some o->o.data=.dict es ep->H b=none:=λ{b o es ep} e d=>by
   cases q:H b with
   |none=>rfl
   |some u=>
    have e':b=a:=hA b (by rw [q];simp)
    subst e'
    rw [ha]at e;cases e
    have d':Data.seq vs.toArray _=Data.dict es ep:=d
    cases d'
  have nsK: ∀{b:Addr}{m:Str->Option Value},s₁.heap.Ns b m->(zPY s₁.heap H).Ns b m:=λ{b m} ⟨o,es,ep,e,d,r⟩=>⟨o,es,ep,base_of e (noA e d),d,r⟩
  have hKb:K.In (zPY s₁.heap H):=λb o e=>base_of (KX b o e) (by
   cases q:H b with
   |none=>rfl
   |some u=>
    have e':b=a:=hA b (by rw [q];simp)
    subst e'
    rw [hK (by rw [q];simp)]at e;cases e)
  have hM:Mod K mg (zPY s₁.heap H):=⟨hKb,nsK hns,⟨mb,nsK hb,hbb⟩,let ⟨mc,h1,h2⟩:=hlim;⟨mc,nsK h1,h2⟩⟩
  have e0:Env0 P w K mg (zPY s₁.heap H) callerA [] s₁ H:=⟨rfl,hM,λb o e=>yGS e,Nat.le_of_eq (yAG _ _),trivial,λb hb=>absurd (show b∈([]:List Addr)from hb) (by simp),hok,.of_eq hg⟩
  refine codeAny_mono ((F _ hKb (nsK hns)).run callerA [] s₁ H ⟨[.ref a],[]⟩ [.ref a] [.ref a] _ _ hr e0 (hbind s₁ (.ref a)) (.cons rfl .nil) (hsp H hO hS)) λr s' h=>?_
  cases r with
  |error e=>exact(hCX H e s' h).elim
  |ok fl=>
   cases fl with
   |next=>exact False.elim h
   |brk=>exact False.elim h
   |cont=>exact False.elim h
   |ret u=>
    obtain⟨v,H',os,bare,un,hok',r',q⟩:=h
    have q':v=.bl true:=q
    subst q'
    obtain rfl:u=Value.bool true:=r'
    refine⟨rfl,OldK.of_keep λb o e=>?_,os,bare⟩
    cases q:H b with
    |none=>exact un.keep b o e q (by intro z;exact absurd (show b∈([]:List Addr)from z) (by simp)) (by simp)
    |some u=>
     rcases hO b with z|⟨ob,xs,z⟩
     ·rw [q]at z;cases z
     ·have z2:=un.frzs b ob _ z
      obtain⟨e1,_⟩:=hok b _ z
      obtain⟨e2,_⟩:=hok' b _ z2
      rw [e]at e1;cases e1
      exact e2
 cases hk:K.lookup a with
 |some o=>
  have e:=KX a o hk
  rw [ha]at e
  cases e
  refine core (λ_=>none) (λ_=>.inl rfl) (.inr ⟨_,vs.toArray,_,hk,rfl,rfl,rfl,by rw [sA0,lenV];exact hl,by simpa using rv⟩) (λb u z=>by have z':(none:Option HO)=some u:=z;cases z') (λb z=>absurd rfl z) λz=>absurd rfl z
 |none=>
  refine core (λb=>if b=a then some (.frz {cls:=.type "list",data:=.seq vs.toArray} (.lst (ns.map V.int)))else none) (λb=>?_) (.inl (.inr ⟨{cls:=.type "list",data:=.seq vs.toArray},iP rfl⟩)) (λb u z=>?_) (λb z=>?_) λ_=>hk
  ·by_cases hb:b=a
   ·exact .inr ⟨_,_,iP hb⟩
   ·exact .inl (iN hb)
  ·by_cases hb:b=a
   ·have z':=(iP hb).symm.trans z
    cases z'
    subst hb
    exact⟨ha,by rw [lM];exact hl,vs,_,rv,ha⟩
   ·have z':=(iN hb).symm.trans z
    cases z'
  ·by_cases hb:b=a
   ·exact hb
   ·exact absurd (iN hb) z
theorem walk_of{l:PySem.W.OpenLaw}{n k:Nat}{q:Program}{loose:List Str}{XP:(Str->Option Value)->Heap->Prop}{YP:World->Heap->Prop}{d:DefRec}{K:Params->PySem.W.Frag}{CX:World->CXT}{sp:World->Sp}{x:Str}
  (hn:l.most=some n) (hn2:n<=sizeLine) (hdf:d.params.defaults=[]) (hr:Room k callerA)
  (hY: ∀(w:World)(h:Heap),YP w h->(K w.params).In h)
  (F: ∀(w:World)(mg:Str->Option Value)(fa:Addr)(h:Heap),(K w.params).In h->h.Ns mainGlobals mg->mg d.name=some (.ref fa)->
   ∃fd:FuncData,(∀(s:Shared)(u:Value),BindsTo s fd ⟨[u],[]⟩ [(x,u)])/\
    ∀base:Heap,(K w.params).In base->base.Ns mainGlobals mg->FnOk l.prog w (K w.params) mg base (CX w) k fa fd [x] (sp w))
  (hsp: ∀(w:World)(H:Hp)(a:Addr)(ns:List Int),ns.length<=n->yCN H->SqL (K w.params) H a (ns.map V.int)->sp w [.ref a] H (λv _=>v=.bl true) λ_ _ _=>False)
  (hCX: ∀(w:World)(H:Hp)(s:Shared)(e:Value)(s':Shared),CX w [] H s (λ_ _ _=>False) e s'->False):
  PySem.W.WalkO q loose XP YP l.row.toRowW d [] (λf vs=>PySem.call f vs):=by
 refine Att.attach_call hn hdf λw s₀ s₁ mg mb fa o pm cd doc a vs ns G Y ho hd hcd hmg hobj hints hlen hg=>?_
 have KX:=hY w _ Y
 obtain⟨fd,hb,hF⟩:=F w mg fa _ KX G.T.g hmg
 exact yCO KX G.T.g G.T.b G.T.builtins G.T.nolimit hg hobj hints (le_trans hlen hn2) hr hF hb (λH hO hS=>hsp w H a ns hlen hO hS) λH e s'=>hCX w H s₁ e s'
def zDG(s:Stmt):Arguments:=match s with
 |.FunctionDef _ a _ _ _ _ _ _ _ _=>a
 |_=>{posonlyargs:=[],args:=[],vararg:=none,kwonlyargs:=[],kw_defaults:=[],kwarg:=none,defaults:=[]}
def nU(s:Stmt):List Stmt:=match s with
 |.FunctionDef _ _ b _ _ _ _ _ _ _=>b
 |_=>[]
def zH(s:Stmt):Scope:=match s with
 |.FunctionDef _ _ _ _ _ _ sc _ _ _=>sc
 |_=>{kind:=.function,names:=[],isGenerator:=false,isCoroutine:=false}
abbrev CX0:CXT:=λ_ _ _ _ _ _=>False
abbrev E0:XK:=λ_ _ _=>False
theorem pass0{X:Cx}:zVS CX0 X E0:=λ_ _ _ _ _ _ _ h=>h.elim
structure Fun(K:PySem.W.Frag)(x qual:Str)(st:Stmt)(f:Addr)(fd:FuncData):Prop where
 ex: ∃(oc:Value)(od:Option Addr)(kV doc pm:Value)(an:Option Addr)(cdv ct:Value)(osl:Array (Option Value)),
  fd=PySem.W.fnOf x qual (zDG st) (nU st) (zH st) .none kV doc pm an cdv ct/\K.lookup f=some ⟨oc,od,.func fd,osl⟩/\PySem.W.codeIn K cdv qual=true
 kp:PySem.W.keepIn K (.ref f)=true
section
variable{P:Program}{w:World}{K:PySem.W.Frag}{mg:Str->Option Value}{base:Heap}
theorem Fun.ok{x qual:Str}{st:Stmt}{f:Addr}{fd:FuncData}{N ps:List Str}{k:Nat}{sp:Sp}(F:Fun K x qual st f fd)(S:FnScope N ps (zH st))(len: ∀vs H Q E,sp vs H Q E->vs.length=ps.length)
  (hbody: ∀(cdv:Value)(A:Around)(outer:List Env)(s:Shared)(H:Hp)(vs:List V)(Q:VK)(E:XK),Room k (A.deeper (envOfC qual (zH st) s.heap.objs.size f cdv))->sp vs H Q E->
   ∃t,PSs (zVT CX0 P w K mg base N qual (zH st) f cdv A outer s H E).nox (nU st) t/\t {nx:=λ_ H'=>Q .non H',rt:=Q} (start N vs) H):FnOk P w K mg base CX0 (k+1) f fd ps sp:=by
 obtain⟨oc,od,kV,doc,pm,an,cdv,ct,osl,rfl,lk,hcd⟩:=F.ex
 refine fn_of lk hcd S len λA outer s H vs Q E hr hsp=>?_
 obtain⟨t,h,q⟩:=hbody cdv A outer s H vs Q E hr hsp
 exact⟨t,h.nox,q⟩
theorem Fun.binds{x qual:Str}{st:Stmt}{f:Addr}{fd:FuncData}{ps:List Str}(F:Fun K x qual st f fd)
  (h: ∀(kV doc pm:Value)(an:Option Addr)(cdv ct:Value)(us:List Value),us.length=ps.length->bindArgs (PySem.W.fnOf x qual (zDG st) (nU st) (zH st) .none kV doc pm an cdv ct) ⟨us,[]⟩=pure (ps.zip us)):Binds K fd ps []:=by
 obtain⟨oc,od,kV,doc,pm,an,cdv,ct,osl,rfl,lk,hcd⟩:=F.ex
 exact .all (h kV doc pm an cdv ct)
theorem yNH{x qual:Str}{st:Stmt}{f:Addr}{oc:Value}{od an:Option Addr}{osl:Array (Option Value)}{kV doc pm cdv ct:Value}(l:K.lookup f=some ⟨oc,od,.func (PySem.W.fnOf x qual (zDG st) (nU st) (zH st) .none kV doc pm an cdv ct),osl⟩)
  (c:PySem.W.codeIn K cdv qual=true) (k:PySem.W.keepIn K (.ref f)=true):Fun K x qual st f (PySem.W.fnOf x qual (zDG st) (nU st) (zH st) .none kV doc pm an cdv ct):=⟨⟨oc,od,kV,doc,pm,an,cdv,ct,osl,rfl,l,c⟩,k⟩
end
section
variable{X:Cx}
theorem pv(i:Nat){x:Str}{pos:Pos}(hN:X.N[i]? =some x:=by rfl)(hv:Vis X.env.scope x:=by first |exact Or.inl rfl|exact Or.inr (Or.inl rfl)|exact Or.inr (Or.inr rfl))(hd:(x==("__debug__":Str))=false:=by decide)
  (hcd:(x==("__classdict__":Str))=false:=by decide):PE X (.Name x pos) (tVar i):=yMC hN hv hd hcd
end
end L2
set_option maxHeartbeats 4000000
namespace L2
open PySem PySem.Spec PyProof.Rows
def zEG(env:Env)(l:List (Str×NameKind))(cs:List (Str×Addr)):List (Str×Addr):=
 l.foldl (λc y=>if y.2==.free then(y.1,(env.cells.lookup y.1).getD 0)::c else c) cs
theorem zQF{α β:Type}{l:List α}{f:α->β->Sem (ForInStep β)}{g:β->α->β}: ∀(c:β),(∀x∈l, ∀c,f x c=pure (.yield (g c x)))->
  forIn l c f=pure (l.foldl g c):=by
 induction l with
 |nil=>intro c _;rfl
 |cons x l ih=>
  intro c h
  rw [forIn_cons,h x mF0,pure_bind]
  exact ih _ λy hy=>h y (mO _ hy)
theorem zNV{scope:Scope}{env:Env}(h: ∀y∈scope.names,y.2=.free-> ∃c,env.cells.lookup y.1=some c):closureFor scope env=pure (zEG env scope.names []):=by
 unfold closureFor zEG
 dsimp only
 rw [zQF (g:=λc y=>if y.2==.free then(y.1,(env.cells.lookup y.1).getD 0)::c else c) [] ?_]
 ·rfl
 ·intro y hy c
  obtain⟨n,k⟩:=y
  by_cases hk:k=.free
  ·subst hk
   obtain⟨a,ha⟩:=h _ hy rfl
   have ha':env.cells.lookup n=some a:=ha
   simp [cellOf,ha']
  ·have e:(k==NameKind.free)=false:=by simpa using hk
   simp [e]
theorem zKB{env:Env}: ∀(l:List (Str×NameKind))(cs:List (Str×Addr)),(∀y∈l,y.2=.free-> ∃c,env.cells.lookup y.1=some c)->(∀p∈cs,env.cells.lookup p.1=some p.2)->
  ∀p∈zEG env l cs,env.cells.lookup p.1=some p.2
 |[],_,_,h=>h
 |(n,k)::l,cs,hl,h=>by
  refine zKB l _ (λy hy=>hl y (mO _ hy)) λp hp=>?_
  by_cases hk:k=.free
  ·subst hk
   obtain⟨c,hc⟩:=hl _ mF0 rfl
   have hc':env.cells.lookup n=some c:=hc
   have hp':p∈(n,(env.cells.lookup n).getD 0)::cs:=hp
   rcases mC.mp hp' with rfl|hp
   ·show env.cells.lookup n=some ((env.cells.lookup n).getD 0)
    rw [hc'];rfl
   ·exact h p hp
  ·have hp':p∈(if(k==NameKind.free)=true then(n,(env.cells.lookup n).getD 0)::cs else cs):=hp
   rw [iN (by simpa using hk)]at hp'
   exact h p hp'
theorem zLR{env:Env}: ∀(l:List (Str×NameKind))(cs:List (Str×Addr))(p:Str×Addr),p∈cs->p∈zEG env l cs
 |[],_,_,h=>h
 |(n,k)::l,cs,p,h=>by
  refine zLR l _ p ?_
  show p∈(if(k==.free)=true then(n,(env.cells.lookup n).getD 0)::cs else cs)
  split
  ·exact mO _ h
  ·exact h
theorem zEQ{env:Env}: ∀(l:List (Str×NameKind))(cs:List (Str×Addr))(n:Str),(n,NameKind.free)∈l-> ∃c,(n,c)∈zEG env l cs
 |[],_,_,h=>nomatch h
 |(m,k)::l,cs,n,h=>by
  rcases mC.mp h with e|h
  ·have e1:n=m:=congrArg Prod.fst e
   have e2:NameKind.free=k:=congrArg Prod.snd e
   subst e1 e2
   exact⟨(env.cells.lookup n).getD 0,zLR l _ _ mF0⟩
  ·exact zEQ l _ n h
theorem jM{β:Type}: ∀{l:List (Str×β)}{n:Str},(∃c,(n,c)∈l)-> ∃c,l.lookup n=some c
 |[],_,h=>let ⟨_,z⟩:=h;nomatch z
 |(m,b)::l,n,h=>by
  by_cases e:n=m
  ·subst e
   exact⟨b,by simp [lookup_cons]⟩
  ·obtain⟨c,hc⟩:=h
   rcases mC.mp hc with z|z
   ·cases z;exact absurd rfl e
   ·obtain⟨c',h'⟩:=jM ⟨c,z⟩
    refine⟨c',?_⟩
    have e':(n==m)=false:=by simpa using e
    simp [lookup_cons,e',h']
def zVY(scope osc:Scope):List (Str×NameKind):=scope.names.map λ(n,k)=>if(k==.free&&osc.kind==.function&&osc.names.lookup n==some .cell)then(n,.cell)else(n,k)
def zKC(osc:Scope)(N:List Str)(sc:Scope)(idx:List Nat):Bool:=
 decide (sc.kind=.function)&&sc.names.all (λy=>decide (sc.names.lookup y.1=some y.2))&&
 sc.names.all (λy=>decide (y.2≠.free) || decide (osc.names.lookup y.1=some .cell) || decide (osc.names.lookup y.1=some .free))&&
 idx.all (λi=>match N[i]? with
  |some y=>(decide (osc.names.lookup y=some .cell) || decide (osc.names.lookup y=some .free))&&decide (sc.names.lookup y=some .free)
  |none=>false)
def rlS(sc osc:Scope):Scope:={sc with names:=zVY sc osc}
abbrev clC(env:Env)(sc:Scope)(C:Addr):List (Str×Addr):=cellsFrom (C+1) sc.names (zEG env sc.names [])
theorem wB: ∀(l:List (Str×NameKind))(n:Nat)(acc:List (Str×Addr)),cellsFrom n l acc=cellsFrom n l []++acc
 |[],n,acc=>rfl
 |(x,k)::l,n,acc=>by
  unfold cellsFrom
  split
  ·rw [wB l (n+1) ((x,n)::acc),wB l (n+1) [(x,n)],aA];rfl
  ·exact wB l n acc
theorem zHM: ∀(l:List (Str×NameKind))(n:Nat){x:Str}{c:Addr},(x,c)∈cellsFrom n l []->(x,NameKind.cell)∈l/\n<=c
 |[],n,x,c,h=>nomatch h
 |(y,k)::l,n,x,c,h=>by
  unfold cellsFrom at h
  split at h
  ·rename_i hk
   rw [wB]at h
   rcases mem_append.mp h with h|h
   ·obtain⟨h1,h2⟩:=zHM l (n+1) h
    exact⟨mO _ h1,by omega⟩
   ·have e:=mS.mp h
    cases e
    have hk':k=.cell:=by simpa using hk
    subst hk'
    exact⟨mF0,le_refl _⟩
  ·obtain⟨h1,h2⟩:=zHM l n h
   exact⟨mO _ h1,h2⟩
theorem zHA{l:List (Str×NameKind)}{C:Nat}{x:Str}{c:Addr}(h:(x,c)∈cellsFrom (C+1) l []){n:Nat}(hC:n<=C):n<c:=Nat.lt_of_le_of_lt hC (zHM l (C+1) h).2
theorem zFW: ∀(l:List (Str×NameKind))(n:Nat){x:Str},(x,NameKind.cell)∈l-> ∃c,(x,c)∈cellsFrom n l []
 |[],n,x,h=>nomatch h
 |(y,k)::l,n,x,h=>by
  unfold cellsFrom
  rcases mC.mp h with e|h
  ·cases e
   rw [iP (by decide),wB]
   exact⟨n,mem_append_right _ mF0⟩
  ·split
   ·obtain⟨c,hc⟩:=zFW l (n+1) h
    rw [wB]
    exact⟨c,mem_append_left _ hc⟩
   ·exact zFW l n h
theorem own_apart: ∀(l:List (Str×NameKind))(n:Nat),(cellsFrom n l []).Pairwise λx y=>x.2≠y.2
 |[],n=>List.Pairwise.nil
 |(y,k)::l,n=>by
  unfold cellsFrom
  split
  ·rw [wB]
   refine pairwise_append.mpr ⟨own_apart l (n+1),List.pairwise_singleton _ _,λa ha b hb e=>?_⟩
   rw [mS.mp hb]at e
   have:=(zHM l (n+1) (x:=a.1) (c:=a.2) ha).2
   exact ne_of_gt this e
  ·exact own_apart l n
theorem zDH{β:Type}(x:Str): ∀(l m:List (Str×β)),(l++m).lookup x=(l.lookup x).or (m.lookup x)
 |[],m=>rfl
 |(y,b)::l,m=>by
  rw [cons_append,lookup_cons,lookup_cons]
  cases x==y with
  |true=>rfl
  |false=>exact zDH x l m
theorem zOR{β:Type}{x:Str}: ∀{l:List (Str×β)},(∀c,(x,c)∉l)->l.lookup x=none
 |[],_=>rfl
 |(y,b)::l,h=>by
  rw [lookup_cons]
  cases e:x==y with
  |true=>rw [beq_iff_eq.mp e]at h;exact absurd mF0 (h b)
  |false=>exact zOR λc hc=>h c (mO _ hc)
theorem zAH{env:Env}{sc:Scope}{C:Addr}{x:Str}{c:Addr}(e:(clC env sc C).lookup x=some c):(x,c)∈cellsFrom (C+1) sc.names []\/(zEG env sc.names []).lookup x=some c:=by
 unfold clC at e
 rw [wB,zDH]at e
 cases z:(cellsFrom (C+1) sc.names []).lookup x with
 |some c'=>rw [z]at e;cases e;exact .inl (PySem.mem_of_lookup z)
 |none=>rw [z]at e;exact .inr e
theorem yNI{env:Env}{sc:Scope}{C:Addr}{x:Str}{c:Addr}(h:(x,NameKind.cell)∈sc.names)(e:(clC env sc C).lookup x=some c):(x,c)∈cellsFrom (C+1) sc.names []:=by
 unfold clC at e
 rw [wB,zDH]at e
 obtain⟨c',h'⟩:=jM (zFW sc.names (C+1) h)
 rw [h']at e
 cases e
 exact PySem.mem_of_lookup h'
theorem yHL{env:Env}{sc:Scope}{C:Addr}{x:Str}(h:(x,NameKind.cell)∉sc.names):(clC env sc C).lookup x=(zEG env sc.names []).lookup x:=by
 unfold clC
 rw [wB,zDH,zOR λc hc=>h (zHM _ _ hc).1]
 rfl
def zIS(σ:St)(idx:List Nat):St:=idx.map λi=>(σ[i]?).join
theorem zBS(σ:St)(idx:List Nat):(zIS σ idx).length=idx.length:=by unfold zIS;rw [lM]
def yA(X:Cx)(sc:Scope)(T:List Str)(idx:List Nat)(C:Addr)(s₂:Shared)(H1:Hp)(fp:List Addr):Cx where
 prog:=X.prog
 w:=X.w
 K:=X.K
 mg:=X.mg
 base:=X.base
 A:=X.A
 N:=T++idx.map λi=>(X.N[i]?).getD Str.empty
 s₀:=s₂
 H₀:=H1
 env:=compEnvC sc (clC X.env sc C) C X.env
 outer:=X.stack
 stack:=X.stack
 ex:=fp
 fn:=λx=>sc.names.lookup x==some .cell
 calm:=X.calm
 pn:=[]
 xe:=λ_ _=>False
def yCP(wi:TI)(g:TG)(tc:Addr->Shared->Hp->List Addr->TT)(te:Addr->Shared->Hp->List Addr->TE)(nt:Nat)(idx:List Nat):TE:=λσ H Q=>wi σ H λJ H1=> ∃W:Nat->Nat->List V->Hp->Prop,(∃m,W 0 m [] H1)/\ ∀i m ys H2,W i m ys H2->ys.length<=sizeLine/\
 ((J.stop i H2/\ ∀D,H2 D=none->Q (.ref D) (upd H2 D (.lst ys)))\/
   (J.go i H2/\ys.length<sizeLine/\ ∀x H3,J.yld i H2 x H3-> ∀τ:St,τ.length=nt->g x (τ++zIS σ idx) H3 λσ4 H4=>(∃τ',σ4=τ'++zIS σ idx/\τ'.length=nt)/\
    ∀C s₂ fp,tc C s₂ H1 fp σ4 H4 λb H5=>if b=true then te C s₂ H1 fp σ4 H5 λy H6=> ∃m',m'<m/\W (i+1) m' (ys++[y]) H6 else∃m',m'<m/\W (i+1) m' ys H5))
section
variable{prog:Program}{w:World}{A:Around}{R:Result->Shared->Prop}{s:Shared}
theorem zQG{elt target iter:Expr}{ifs:List Expr}{scope:Scope}{pos:Pos}{it acc:Value}{env:Env}(I:Nat->Shared->Prop)
  (turn: ∀n s,I n s->wpAny (model prog w) A (pyNext it) (λr s₁=>match r with
   |none=>R (.ok .next) s₁
   |some v=>wpAny (model prog w) A (letOwnedTupleGo target it v) (λ_ s₁'=>wpAny (model prog w) A (assign target env v) (λ_ s₂=>
     wpAny (model prog w) A (forIn ifs true λc r=>if r=true then do let ok <-isTrue c env (eval c env);pure (ForInStep.yield ok)else pure (ForInStep.yield r)) (λok s₃=>
      if ok=true then wpAny (model prog w) A (eval elt env) (λx s₄=>
       wpAny (model prog w) A (call (.builtin "list.append") [acc,x]) (λ_ s₅=> ∃m,m<n/\I m s₅) (λ_ _=>False) s₄) (λ_ _=>False) s₃
      else∃m,m<n/\I m s₃) (λ_ _=>False) s₂) (λ_ _=>False) s₁') (λ_ _=>False) s₁) (λ_ _=>False) s)
  (n:Nat) (h:I n s):codeAny (model prog w) A (.compLoop (.ListComp elt [⟨target,iter,ifs,0⟩] scope pos) 0 it acc env) R s:=by
 refine codeAny_loop rfl I (λn s hI=>?_) n h
 show wpAny _ A ((compTurn (.ListComp elt [⟨target,iter,ifs,0⟩] scope pos) 0 it acc env).onRaise (λx=>do noteFrame x env;theTreesLotGoes x)) _ _ s
 refine wpAny_noted ?_
 rw [compTurn_list]
 have no: ∀{E':VP}(v:Value)(s':Shared),False->E' v s':=λ_ _ z=>z.elim
 refine wB0 (wpAny_standAt (wB0 (wpAny_mono (turn n s hI) (λr s₁ h₁=>?_) (no))))
 cases r with
 |none=>exact wP0 h₁
 |some v=>
  refine wB0 (wpAny_mono h₁ (λ_ s₁' h₁'=>wB0 (wpAny_mono h₁' (λ_ s₂ h₂=>wB0 (wpAny_mono h₂ (λok s₃ h₃=>?_) no)) no)) no)
  cases ok with
  |false=>exact wP0 ⟨rfl,h₃⟩
  |true=>
   exact wB0 (wB0 (wpAny_mono h₃ (λx s₄ h₄=>wB0 (wpAny_mono h₄ (λ_ s₅ h₅=>wP0 (wP0 ⟨rfl,h₅⟩)) no)) no))
end
def yAS(X:Cx)(ifs:List Expr)(t:TT):Prop:=
 ∀(pins:List (Addr×Obj))(s:Shared)(σ:St)(H:Hp)(Q:Bool->Hp->Prop),Inv X pins σ H s->t σ H Q->
  wpAny (model X.prog X.w) X.A (forIn ifs true λc r=>if r=true then do let ok <-isTrue c X.env (eval c X.env);pure (ForInStep.yield ok)else pure (ForInStep.yield r)) (TP X pins σ Q) X.xe s
def tNoIf:TT:=λ_ H Q=>Q true H
theorem yCQ{X:Cx}:yAS X [] tNoIf:=λ_ _ _ H _ I h=>wpAny_tests_nil ⟨H,I,h⟩
theorem yCR{X:Cx}{c:Expr}{t:TT}(h:PT X c t):yAS X [c] t:=λpins s σ H Q I q=>wpAny_tests_one (h pins s σ H Q I q)
structure CompF(osc:Scope)(N:List Str)(sc:Scope)(idx:List Nat):Prop where
 kind:sc.kind=.function
 uni: ∀y∈sc.names,sc.names.lookup y.1=some y.2
 frees: ∀y∈sc.names,y.2=.free->osc.names.lookup y.1=some .cell\/osc.names.lookup y.1=some .free
 cap: ∀i∈idx, ∃y,N[i]? =some y/\(osc.names.lookup y=some .cell\/osc.names.lookup y=some .free)/\sc.names.lookup y=some .free
theorem CompF.locs{osc:Scope}{N:List Str}{sc:Scope}{idx:List Nat}(F:CompF osc N sc idx): ∀y∈sc.names,y.2=.local->sc.names.lookup y.1=some .local:=λy hy e=>by rw [F.uni y hy,e]
theorem yHM{osc:Scope}{N:List Str}{sc:Scope}{idx:List Nat}(h:zKC osc N sc idx=true):CompF osc N sc idx:=by
 unfold zKC at h
 simp only [aE,all_eq_true,decide_eq_true_eq,or_eq_true]at h
 obtain⟨⟨⟨h1,h2⟩,h4⟩,h5⟩:=h
 refine⟨h1,λy hy=>h2 y hy,λy hy e=>?_,λi hi=>?_⟩
 ·rcases h4 y hy with(z|z)|z
  ·exact absurd e z
  ·exact .inl z
  ·exact .inr z
 ·have q:=h5 i hi
  cases e:N[i]? with
  |none=>rw [e]at q;cases q
  |some y=>
   rw [e]at q
   simp only [aE,decide_eq_true_eq,or_eq_true]at q
   exact⟨y,rfl,q.1,q.2⟩
theorem yCS{sc osc:Scope}{x:Str}(h:(zVY sc osc).lookup x=some .cell\/(zVY sc osc).lookup x=some .free):(x,NameKind.free)∈sc.names\/(x,NameKind.cell)∈sc.names:=by
 have key: ∀k',(k'=.cell\/k'=.free)->(x,k')∈zVY sc osc->(x,NameKind.free)∈sc.names\/(x,NameKind.cell)∈sc.names:=by
  intro k' hk' hm
  unfold zVY at hm
  obtain⟨⟨n,k⟩,hy,e⟩:=mM.mp hm
  dsimp only at e
  split at e
  ·rename_i hc
   cases e
   rw [aE,aE]at hc
   have:k=.free:=by simpa using hc.1.1
   subst this
   exact .inl hy
  ·cases e
   rcases hk' with rfl|rfl
   ·exact .inr hy
   ·exact .inl hy
 rcases h with h|h
 ·exact key _ (.inl rfl) (PySem.mem_of_lookup h)
 ·exact key _ (.inr rfl) (PySem.mem_of_lookup h)
theorem zOS{osc:Scope}{x:Str}: ∀{l:List (Str×NameKind)},l.lookup x=some .free->(l.map λ(n,k)=>if(k==NameKind.free&&osc.kind==.function&&osc.names.lookup n==some .cell)then(n,NameKind.cell)else(n,k)).lookup x=some .cell\/(l.map λ(n,k)=>if(k==NameKind.free&&osc.kind==.function&&osc.names.lookup n==some .cell)then(n,NameKind.cell)else(n,k)).lookup x=some .free
 |[],h=>by simp at h
 |(n,k)::l,h=>by
  have ih:=@zOS osc x l
  rw [lookup_cons]at h
  rw [map_cons]
  by_cases hc:(k==NameKind.free&&osc.kind==.function&&osc.names.lookup n==some .cell)=true
  ·dsimp only
   rw [iP hc,lookup_cons]
   cases hx:x==n with
   |true=>exact .inl rfl
   |false=>rw [hx]at h;exact ih h
  ·dsimp only
   rw [iN hc,lookup_cons]
   cases hx:x==n with
   |true=>rw [hx]at h;exact .inr h
   |false=>rw [hx]at h;exact ih h
section
variable{X:Cx}{pins:List (Addr×Obj)}{σ:St}{H1:Hp}{s₂:Shared}{sc:Scope}{T:List Str}{idx:List Nat}{C:Addr}{fp:List Addr}
theorem zSS(I:Inv X pins σ H1 s₂)(F:CompF X.env.scope X.N sc idx): ∀y∈sc.names,y.2=.free-> ∃c,X.env.cells.lookup y.1=some c:=
 λy hy e=>I.ok.has y.1 (F.frees y hy e)
theorem kR(I:Inv X pins σ H1 s₂)(F:CompF X.env.scope X.N sc idx){x:Str}{c:Addr}(e:(zEG X.env sc.names []).lookup x=some c):X.env.cells.lookup x=some c:=
 zKB sc.names [] (zSS I F) (λ_ z=>nomatch z) (x,c) (PySem.mem_of_lookup e)
theorem yHN(I:Inv X pins σ H1 s₂)(F:CompF X.env.scope X.N sc idx){x:Str}{c:Addr}(hx:(x,NameKind.free)∈sc.names)(e:X.env.cells.lookup x=some c):(zEG X.env sc.names []).lookup x=some c:=by
 obtain⟨c',h'⟩:=jM (zEQ (env:=X.env) sc.names [] x hx)
 rw [h']
 rw [kR I F h']at e
 exact e
theorem yAT(I:Inv X pins σ H1 s₂)(F:CompF X.env.scope X.N sc idx)(hC:s₂.heap.objs.size<=C)(hfp: ∀b∈fp,zGX X pins H1 b)(hlt: ∀b∈fp,b<s₂.heap.objs.size):(yA X sc T idx C s₂ H1 fp).Ok where
 mod:=I.ok.mod
 kind:=F.kind
 glob:=I.ok.glob
 blt:=I.ok.blt
 above:=hC
 inj:=λx y c h1 h2=>by
  have low: ∀z,(zEG X.env sc.names []).lookup z=some c->c<s₂.heap.objs.size:=λz h=>let ⟨v,q⟩:=I.cell z c (kR I F h);q.lt
  rcases zAH h1 with z1|z1<;>rcases zAH h2 with z2|z2
  ·exact PySem.name_of_addr (own_apart sc.names (C+1)) z1 z2
  ·exact absurd (low y z2) (not_lt.mpr (le_of_lt (zHA z1 hC)))
  ·exact absurd (low x z1) (not_lt.mpr (le_of_lt (zHA z2 hC)))
  ·exact I.ok.inj x y c (kR I F z1) (kR I F z2)
 has:=λx hx=>by
  have hx':(zVY sc X.env.scope).lookup x=some .cell\/(zVY sc X.env.scope).lookup x=some .free:=hx
  show∃c,(clC X.env sc C).lookup x=some c
  unfold clC
  rw [wB]
  rcases yCS hx' with z|z
  ·obtain⟨c,hc⟩:=zEQ (env:=X.env) sc.names [] x z
   exact jM ⟨c,mem_append_right _ hc⟩
  ·obtain⟨c,hc⟩:=zFW sc.names (C+1) z
   exact jM ⟨c,mem_append_left _ hc⟩
 cab:=λx c h e=>by
  have h':sc.names.lookup x=some .cell:=beq_iff_eq.mp h
  exact le_of_lt (zHA (yNI (PySem.mem_of_lookup h') e) hC)
 hd:=I.ok.hd
 frames:=I.ok.frames
 stk:=.inl rfl
 exf:=λb hb=>⟨ne_of_lt (lt_of_lt_of_le (hlt b hb) hC),λx c e=>by
  rcases zAH e with z|z
  ·exact ne_of_gt (lt_trans (hlt b hb) (zHA z hC))
  ·exact(hfp b hb).2.2.2.2.1 x c (kR I F z)⟩
 bs:=I.bs
 bsz:=le_trans I.ok.bsz I.sz
 noex:=λb o e hb=>by
  rcases (hfp b hb).2.2.2.1 with z|z
  ·exact I.ok.noex b o e z
  ·exact absurd (lt_of_lt_of_le (Heap.lt_size e) (le_trans I.ok.bsz z)) (lt_irrefl _)
 exfs:=λb hb z=>by
  rcases mC.mp (I.stkSub b z)with e|e
  ·exact(hfp b hb).2.1 e
  ·exact(hfp b hb).2.2.1 e
 funs:=I.stack
 frf:=I.stkFree
theorem zVZ{s₄:Shared}{m:Str->Option Value}(I:Inv X pins σ H1 s₂)(F:CompF X.env.scope X.N sc idx)(hC:s₂.heap.objs.size<=C)(hfp: ∀b∈fp,zGX X pins H1 b)(hlt: ∀b∈fp,b<s₂.heap.objs.size)
  (kp: ∀b o,s₂.heap.get? b=some o->s₄.heap.get? b=some o) (ho:s₄.os=s₂.os) (hg:s₄.gens=s₂.gens) (hn:s₄.heap.Ns C m) (hcl: ∀x c,(x,c)∈cellsFrom (C+1) sc.names []->s₄.heap.IsCell c none):
  Inv (yA X sc T idx C s₂ H1 fp) [] (T.map (λ_=>none)++zIS σ idx) H1 s₄:=by
 have cellK: ∀c v,s₂.heap.IsCell c v->s₄.heap.IsCell c v:=λc v ⟨o,h1,h2⟩=>⟨o,kp c o h1,h2⟩
 refine⟨yAT I F hC hfp hlt,ho,by rw [hg];exact I.bare,Un.kept kp,⟨m,hn,λi x v e1 e2 e3=>?_⟩,λx c e=>?_,I.hok.fresh hC,λx c e=>?_,λp hp=>absurd (show p∈([]:List (Addr×Obj))from hp) (by simp),I.hok.kept kp,?_⟩
 ·have e1':(T++idx.map λi=>(X.N[i]?).getD Str.empty)[i]? =some x:=e1
  by_cases hi:i<T.length
  ·rw [getElem?_append_left (by simpa using hi),getElem?_map]at e2
   cases z:T[i]? with
   |none=>rw [z]at e2;cases e2
   |some y=>rw [z]at e2;cases e2
  ·rw [getElem?_append_right (by simpa using hi)]at e2
   rw [getElem?_append_right (by omega)]at e1'
   rw [lM]at e2
   unfold zIS at e2
   rw [getElem?_map]at e1' e2
   cases z:idx[i - T.length]? with
   |none=>rw [z]at e2;cases e2
   |some j=>
    rw [z]at e1' e2
    have hj:j∈idx:=mem_of_getElem? z
    obtain⟨y,hy,k1,k2⟩:=F.cap j hj
    have ex:y=x:=by
     have q:(X.N[j]?).getD Str.empty=x:=Option.some.inj e1'
     rw [hy]at q;exact q
    subst ex
    have ev:σ[j]? =some (some v):=by
     have q:(σ[j]?).join=some v:=Option.some.inj e2
     cases w':σ[j]? with
     |none=>rw [w']at q;cases q
     |some a=>rw [w']at q;have q':a=some v:=q;rw [q']
    obtain⟨m0,hn0,hl0⟩:=I.loc
    have vis:Vis X.env.scope y:=k1.elim (λz=>.inr (.inl z)) λz=>.inr (.inr z)
    obtain⟨u,r,l⟩:=hl0 j y v hy ev vis
    refine⟨u,r,?_⟩
    rcases l with⟨kl,_⟩|⟨_,c,hc,q⟩
    ·have kl':X.env.scope.names.lookup y=some .local:=kl
     rcases k1 with z|z<;>rw [z]at kl'<;>cases kl'
    ·have nc:(y,NameKind.cell)∉sc.names:=λz=>by
      have:=F.uni _ z
      rw [k2]at this
      cases this
     refine .inr ⟨zOS (osc:=X.env.scope) k2,c,?_,cellK c _ q⟩
     show(clC X.env sc C).lookup y=some c
     rw [yHL nc]
     exact yHN I F (PySem.mem_of_lookup k2) hc
 ·rcases zAH e with z|z
  ·exact⟨none,hcl x c z⟩
  ·obtain⟨v,q⟩:=I.cell x c (kR I F z)
   exact⟨v,cellK c v q⟩
 ·rcases zAH e with z|z
  ·exact I.hok.fresh (le_of_lt (zHA z hC))
  ·exact I.freeC x c (kR I F z)
 ·show(T.map (λ_=>(none:Option V))++zIS σ idx).length=(T++idx.map λi=>(X.N[i]?).getD Str.empty).length
  rw [lA,lA,lM,lM,zBS]
theorem zWA{σ1:St}{H':Hp}{s':Shared}{h':Heap}{D:Addr}{ys:List V}{its:List Value}{n:Nat}(I:Inv X pins σ H1 s₂)(hC:s₂.heap.objs.size<=C)(hfp: ∀b∈fp,zGX X pins H1 b)
  (J:Inv (yA X sc T idx C s₂ H1 fp) [] σ1 H' s') (hs:Heap.SameBut C s'.heap h') (hD:s₂.heap.objs.size<=D) (hDC:D≠C) (eD:s'.heap.get? D=some {cls:=.type "list",data:=.seq its.toArray n}) (nD:H' D=none) (r:Vals ys its) (hz:ys.length<=sizeLine):
  Inv X pins σ (upd H' D (.lst ys)) {s' with heap:=h'}:=by
 have old: ∀b o,s₂.heap.get? b=some o->b≠C/\b≠D:=λb o e=>⟨ne_of_lt (lt_of_lt_of_le (Heap.lt_size e) hC),ne_of_lt (lt_of_lt_of_le (Heap.lt_size e) hD)⟩
 have oldH: ∀b u,H1 b=some u->b≠D:=λb u e=>ne_of_lt (lt_of_lt_of_le (I.hok.lt e) hD)
 have nC:H' C=none:=J.free
 have B:Un (frs X.stack) fp H1 H' s₂.heap s'.heap:=J.base
 have mv: ∀b o,b≠C->s'.heap.get? b=some o->h'.get? b=some o:=λb o hb e=>(hs.2 b hb).trans e
 refine I.call' (s':={s' with heap:=h'}) (ch:=fp) J.os ⟨λb o e q hb hx=>?_,λb o e q hb hx=>?_,λb o e q hx=>?_,λb o e hx=>?_,λb xs e=>?_,λb o u e=>?_,λb ps e=>?_⟩ ?_ J.bare λb hb=>⟨(hfp b hb).2.2.2.1,(hfp b hb).2.1,(hfp b hb).2.2.2.2.1,(hfp b hb).2.2.2.2.2⟩
 ·exact mv b o (old b o e).1 (B.keep b o e q hb hx)
 ·obtain⟨sl,z⟩:=B.slot b o e q hb hx
  exact⟨sl,mv b _ (old b o e).1 z⟩
 ·rw [zR (old b o e).2];exact B.free b o e q hx
 ·obtain⟨o',z⟩:=B.there b o e hx
  exact⟨o',mv b o' (old b o e).1 z⟩
 ·rw [zR (oldH b _ e)];exact B.tups b xs e
 ·rw [zR (oldH b _ e)];exact B.frzs b o u e
 ·obtain⟨more,z⟩:=B.tbls b ps e
  exact⟨more,by rw [zR (oldH b _ e)];exact z⟩
 ·intro b u e
  by_cases hb:b=D
  ·subst hb
   rw [yS]at e;cases e
   exact⟨hz,its,n,r,mv b _ hDC eD⟩
  ·rw [zR hb]at e
   refine(J.hok b u e).stay (λc v hc q=>mv c v ?_ q) (λc q=>by rw [zR (zX q nD)];exact q) λc xs q=>by rw [zR (zX q nD)];exact q
   rcases hc with z|z
   ·rw [z];exact zX e nC
   ·exact zX z nC
end
section
variable{X:Cx}
theorem zNW{M:Model}{A:Around}{E:VP}{s:Shared}{scope:Scope}{globals:Addr}{closure:List (Str×Addr)}{qual:Str}{outer:Env}{Q:Env->Shared->Prop}
  (hQ:Q (newEnv scope s.heap.objs.size globals (cellsFrom (s.heap.objs.size+1) scope.names closure) qual none .none (some outer) builtinsNs) {s with heap:=pushCells (s.heap.push {cls:=.type "dict",data:=.dict #[]}) scope.names}):
  wpAny M A (newFunctionEnv scope globals closure [] qual none .none (some outer)) Q E s:=by
 simp only [newFunctionEnv,Option.isSome_some,if_true]
 refine wB0 (wpAny_alloc ?_)
 refine wB0 (wpAny_layCells _ (λname kind cells=>by cases hkc:kind==NameKind.cell<;>simp [hkc]) _ _ _ _ ?_)
 rw [show({s with heap:=s.heap.push {cls:=.type "dict",data:=.dict #[]}}:Shared).heap.objs.size=s.heap.objs.size+1 from Heap.size_push ..]
 simp only [forIn_nil]
 exact wB0 (wP0 (wP0 hQ))
theorem zST{elt tg iter:Expr}{ifs:List Expr}{pos:Pos}{sc:Scope}{wi:TI}{g:TG}{tc:Addr->Shared->Hp->List Addr->TT}{te:Addr->Shared->Hp->List Addr->TE}(T:List Str)(idx:List Nat)
  (hi:PI X tg iter wi) (hcalm:X.calm=true) (hB:zKC X.env.scope X.N sc idx=true)
  (hg: ∀C s₂ H1 fp,PG (yA X sc T idx C s₂ H1 fp) tg g)
  (hc: ∀C s₂ H1 fp,yAS (yA X sc T idx C s₂ H1 fp) ifs (tc C s₂ H1 fp))
  (he: ∀C s₂ H1 fp,PE (yA X sc T idx C s₂ H1 fp) elt (te C s₂ H1 fp))
  (hs: ∀x,foldedSetIterable iter X.env x=pure x:=by intro _;rfl)
  {pins:List (Addr×Obj)} {s:Shared} {σ:St} {H:Hp} {Q:VK} {use:Option (Value->Sem Unit)} {Q':VP} (I:Inv X pins σ H s) (h:yCP wi g tc te T.length idx σ H Q)
  (fin: ∀(D C:Addr)(s4:Shared)(H':Hp)(r:_),(∀h',Heap.SameBut C s4.heap h'->Inv X pins σ H' {s4 with heap:=h'})->zGX X pins H' C->(∃m,s4.heap.Ns C m)->Q (.ref D) H'->
   compPost (model X.prog X.w) X.A X.xe use Q' (.ref D) C (.ok r) s4):
  wpAny (model X.prog X.w) X.A (comprehension (.ListComp elt [⟨tg,iter,ifs,0⟩] sc pos) sc X.env (firstIterPos [⟨tg,iter,ifs,0⟩] pos) (newList []) false (eval iter X.env) use) Q' X.xe s:=by
 have cf:=yHM hB
 refine wpAny_comprehension_free (use:=use) (cl:=zEG X.env sc.names []) rfl hs (zNV (zSS I cf)) cf.kind cf.locs ?_
 refine thn (hi pins s σ H _ I h) λv s1 h1=>thn h1 λitv s2 h2=>?_
 obtain⟨it,fp,tn,J,H2,e,I2,Tn,st2,f2,W,⟨m0,w0⟩,turn⟩:=h2
 subst e
 have hlt: ∀b∈fp,b<s2.heap.objs.size:=λb hb=>let ⟨o,e,_⟩:=Tn.obj _ _ st2 b hb;Heap.lt_size e
 refine wpAny_newObj_type (zNW ?_)
 dsimp only
 generalize hH2:s2.heap.push {cls:=.type "list",dict:=none,data:=.seq ([]:List Value).toArray}=HH
 generalize hh1:pushCells (HH.push {cls:=.type "dict",data:=.dict #[]}) sc.names=h₁
 have hns₁:h₁.Ns HH.objs.size (λ_=>none):=hh1▸(Heap.Ns.new HH (.type "dict")).keeps (pushCells_keeps _ _)
 have hC:HH.objs.size=s2.heap.objs.size+1:=by rw [<-hH2,Heap.size_push]
 have hDC:s2.heap.objs.size≠HH.objs.size:=by rw [hC];exact ne_of_lt (Nat.lt_succ_self _)
 have hCle:s2.heap.objs.size<=HH.objs.size:=by rw [hC];exact le_succ _
 have up1: ∀b o,HH.get? b=some o->h₁.get? b=some o:=λb o e=>hh1▸pushCells_keeps _ _ b o (hP0 _ e)
 have old: ∀b o,s2.heap.get? b=some o->h₁.get? b=some o:=λb o e=>up1 b o (hH2▸hP0 _ e)
 have eD0:h₁.get? s2.heap.objs.size=some {cls:=.type "list",data:=.seq ([]:List Value).toArray 0}:=up1 _ _ (hH2▸Heap.get?_push_size _ rfl)
 have hcl: ∀x c,(x,c)∈cellsFrom (HH.objs.size+1) sc.names []->h₁.IsCell c none:=λx c hm=>by
  have ok:=cellsFrom_ok sc.names (HH.push {cls:=.type "dict",data:=.dict #[]}) 0 [] ⟨λ_ _ hm=>(nomatch hm),List.Pairwise.nil⟩ (zero_le _)
  rw [Heap.size_push,hh1]at ok
  exact(ok.empty x c hm).1
 have nD0:H2 s2.heap.objs.size=none:=I2.hok.fresh (le_refl _)
 have cD: ∀x c,(clC X.env sc HH.objs.size).lookup x=some c->c≠s2.heap.objs.size:=λx c e=>by
  rcases zAH e with z|z
  ·exact ne_of_gt (zHA z hCle)
  ·obtain⟨v,q⟩:=I2.cell x c (kR I2 cf z)
   exact ne_of_lt q.lt
 have loop: ∀s4:Shared,s4={s2 with heap:=h₁}->
   codeAny (model X.prog X.w) X.A (.compLoop (.ListComp elt [⟨tg,iter,ifs,0⟩] sc pos) 0 (.ref it) (.ref s2.heap.objs.size) (compEnvC sc (clC X.env sc HH.objs.size) HH.objs.size X.env))
    (compPost (model X.prog X.w) X.A X.xe use Q' (.ref s2.heap.objs.size) HH.objs.size) s4:=by
  rintro s4 rfl
  have J0:Inv (yA X sc T idx HH.objs.size s2 H2 fp) [] (T.map (λ_=>none)++zIS σ idx) H2 {s2 with heap:=h₁}:=
   zVZ I2 cf hCle f2 hlt old rfl rfl hns₁ hcl
  refine zQG (λk s'=> ∃(i:Nat)(ys:List V)(its:List Value)(n:Nat)(H':Hp)(τ:St),Inv (yA X sc T idx HH.objs.size s2 H2 fp) [] (τ++zIS σ idx) H' s'/\τ.length=T.length/\tn i s'.heap/\(∀b∈fp,H' b=none)/\
   s'.heap.get? s2.heap.objs.size=some {cls:=.type "list",data:=.seq its.toArray n}/\H' s2.heap.objs.size=none/\Vals ys its/\W i k ys H') ?_ m0
   ⟨0,[],[],0,H2,T.map (λ_=>none),J0,by rw [lM],Tn.keep _ _ _ st2 λb _ o e=>old b o e,λb hb=>(f2 b hb).1,eD0,nD0,.nil,w0⟩
  rintro k s3 ⟨i,ys,its,n,H3,τ,I3,hτ,st3,fr3,eD3,nD3,r3,w3⟩
  obtain⟨hz,alt⟩:=turn i k ys H3 w3
  have hDfs:s2.heap.objs.size∉(yA X sc T idx HH.objs.size s2 H2 fp).fs:=λz=>by
   obtain⟨_,o,ho,_⟩:=I2.stack.mem (show s2.heap.objs.size∈frs X.stack from z)
   exact absurd (Heap.lt_size ho) (lt_irrefl _)
  have pinD: ∀{H':Hp}{s':Shared},s'.heap.get? s2.heap.objs.size=some {cls:=.type "list",data:=.seq its.toArray n}->H' s2.heap.objs.size=none->
    ∀p∈[(s2.heap.objs.size,({cls:=.type "list",data:=.seq its.toArray n}:Obj))],s'.heap.get? p.1=some p.2/\H' p.1=none/\p.1≠(yA X sc T idx HH.objs.size s2 H2 fp).env.locals/\p.1∉(yA X sc T idx HH.objs.size s2 H2 fp).fs/\ ∀v,p.2.data≠.cell v:=
   λ{H' s'} e1 e2 p hp=>by
    have ep:p=(s2.heap.objs.size,{cls:=.type "list",data:=.seq its.toArray n}):=by simpa using hp
    subst ep
    exact⟨e1,e2,hDC,hDfs,λv z=>by cases z⟩
  have P3:Inv (yA X sc T idx HH.objs.size s2 H2 fp) [(s2.heap.objs.size,{cls:=.type "list",data:=.seq its.toArray n})] (τ++zIS σ idx) H3 s3:=I3.pins_of (pinD eD3 nD3)
  have stat: ∀{H':Hp},(∀b∈fp,H' b=none)-> ∀b∈fp,zGX (yA X sc T idx HH.objs.size s2 H2 fp) [(s2.heap.objs.size,{cls:=.type "list",data:=.seq its.toArray n})] H' b:=λ{H'} hn b hb=>by
   have hb2:=hlt b hb
   refine⟨hn b hb,ne_of_lt (lt_of_lt_of_le hb2 hCle),I3.ok.exfs b hb,.inl hb,λx c e=>?_,λp hp=>?_⟩
   ·rcases zAH e with z|z
    ·exact ne_of_gt (lt_trans hb2 (zHA z hCle))
    ·exact(f2 b hb).2.2.2.2.1 x c (kR I2 cf z)
   have ep:p=(s2.heap.objs.size,({cls:=.type "list",data:=.seq its.toArray n}:Obj)):=by simpa [yA]using hp
   subst ep
   exact ne_of_gt hb2
  rcases alt with⟨stop,q⟩|⟨go,hl2,step⟩
  ·refine thn (Tn.done (yA X sc T idx HH.objs.size s2 H2 fp) rfl rfl rfl hcalm i _ s3 _ H3 (λ_ _=>False) P3 (stat fr3) st3 stop) λr s4 ⟨hr,I4⟩=>?_
   subst hr
   obtain⟨m,hn,_⟩:=id I4.loc
   have eD4:=(I4.pin (s2.heap.objs.size,{cls:=.type "list",data:=.seq its.toArray n}) (by simp)).1
   exact fin _ _ s4 _ _ (λh' hs'=>zWA I2 hCle f2 (I4.pins_of (λp hp=>nomatch hp)) hs' (le_refl _) hDC eD4 nD3 r3 hz) (I2.fpOk hCle (by rw [zR (Ne.symm hDC)];exact I4.free)) ⟨m,hn⟩ (q _ nD3)
  ·refine thn (Tn.item (yA X sc T idx HH.objs.size s2 H2 fp) rfl rfl rfl hcalm i _ s3 _ H3 (λ_ _=>False) P3 (stat fr3) st3 go) λr s4 ⟨u,hr,h4⟩=>?_
   subst hr
   refine thn h4 λ_ s5 ⟨x,H5,I5,r5,y5,st5,fr5⟩=>?_
   have I5':=I5.pinned (stat fr5) (Tn.obj _ _ st5)
   refine thn (hg HH.objs.size s2 H2 fp _ s5 _ H5 x u _ I5' r5 (step x H5 y5 τ hτ)) λ_ s6 ⟨σ6,H6,I6,⟨τ',e6,l6⟩,q6⟩=>?_
   subst e6
   refine thn (hc HH.objs.size s2 H2 fp _ s6 _ H6 _ I6 (q6 HH.objs.size s2 fp)) λok s7 ⟨H7,I7,q7⟩=>?_
   have mD:(s2.heap.objs.size,({cls:=.type "list",data:=.seq its.toArray n}:Obj))∈(yA X sc T idx HH.objs.size s2 H2 fp).pn++([(s2.heap.objs.size,{cls:=.type "list",data:=.seq its.toArray n})]++zIR fp s5.heap):=
    mem_append_right _ (mem_append_left _ (by simp))
   have mF: ∀b∈fp, ∀o,s5.heap.get? b=some o->(b,o)∈(yA X sc T idx HH.objs.size s2 H2 fp).pn++([(s2.heap.objs.size,{cls:=.type "list",data:=.seq its.toArray n})]++zIR fp s5.heap):=λb hb o e=>
    mem_append_right _ (mem_append_right _ (zGY hb e))
   cases ok with
   |false=>
    rw [iN xF0]at q7 ⊢
    obtain⟨m',hm',w7⟩:=q7
    refine⟨m',hm',i+1,ys,its,n,H7,τ',I7.pins_of (λp hp=>nomatch hp),l6,Tn.keep _ _ _ st5 λb hb o e=>(I7.pin _ (mF b hb o e)).1,λb hb=>?_,(I7.pin _ mD).1,(I7.pin _ mD).2.1,r3,w7⟩
    obtain⟨o,e,d⟩:=Tn.obj _ _ st5 b hb
    exact(I7.pin _ (mF b hb o e)).2.1
   |true=>
    rw [iP rfl]at q7 ⊢
    refine thn (he HH.objs.size s2 H2 fp _ s7 _ H7 _ I7 q7) λy s8 ⟨yv,H8,I8,r8,m',hm',w8⟩=>?_
    have eD8:=(I8.pin _ mD).1
    have nD8:=(I8.pin _ mD).2.1
    have hl:=r3.length
    have q:=PySem.IsL.update eD8 (λz=>z.push y)
    rw [show its.toArray.push y=(its++[y]).toArray by simp]at q
    refine call_meets PySem.F.slot_list_append ⟨_,eD8,rfl⟩ PySem.F.entry_list_append (PySem.F.args_list_append_2 _ _) (PySem.list_append s2.heap.objs.size its.toArray n y (by rw [sA0];omega)) ⟨eD8,?_⟩
    have I9:Inv (yA X sc T idx HH.objs.size s2 H2 fp) [] (τ'++zIS σ idx) H8 s8:=I8.pins_of (λp hp=>nomatch hp)
    have up: ∀b o,b≠s2.heap.objs.size->s8.heap.get? b=some o->(s8.heap.update s2.heap.objs.size (Obj.mapSeq λz=>z.push y)).get? b=some o:=λb o hb e=>(Heap.get?_update_other s8.heap _ (Ne.symm hb)).trans e
    refine⟨m',hm',i+1,ys++[yv],its++[y],_,H8,τ',I9.turned (t':=s8.toks) up nD8 hDC (.inr (le_refl _)) cD (λp hp=>nomatch hp),l6,?_,λb hb=>?_,q,nD8,r3.append (.cons r8 .nil),w8⟩
    ·exact Tn.keep _ _ _ st5 λb hb o e=>up b o (ne_of_lt (hlt b hb)) (I8.pin _ (mF b hb o e)).1
    ·obtain⟨o,e,d⟩:=Tn.obj _ _ st5 b hb
     exact(I8.pin _ (mF b hb o e)).2.1
 exact codeAny_compStart_list (loop _ rfl) (Tn.self X.A 0 _ _ _ (Tn.keep _ _ _ st2 λb _ o e=>old b o e) (loop _ rfl))
theorem yHO{elt tg iter:Expr}{ifs:List Expr}{pos:Pos}{sc:Scope}{wi:TI}{g:TG}{tc:Addr->Shared->Hp->List Addr->TT}{te:Addr->Shared->Hp->List Addr->TE}(T:List Str)(idx:List Nat)
  (hi:PI X tg iter wi) (hcalm:X.calm=true) (hB:zKC X.env.scope X.N sc idx=true)
  (hg: ∀C s₂ H1 fp,PG (yA X sc T idx C s₂ H1 fp) tg g)
  (hc: ∀C s₂ H1 fp,yAS (yA X sc T idx C s₂ H1 fp) ifs (tc C s₂ H1 fp))
  (he: ∀C s₂ H1 fp,PE (yA X sc T idx C s₂ H1 fp) elt (te C s₂ H1 fp))
  (hs: ∀x,foldedSetIterable iter X.env x=pure x:=by intro _;rfl):
  PE X (.ListComp elt [⟨tg,iter,ifs,0⟩] sc pos) (yCP wi g tc te T.length idx):=by
 intro pins s σ H Q I h
 rw [eval_ListComp]
 exact zST T idx hi hcalm hB hg hc he hs (use:=none) I h λD C s4 H' r J _ ⟨m,hn⟩ q=>⟨m,hn,λh' hs'=>⟨.ref D,H',J h' hs',rfl,q⟩⟩
end
def mkS(x:List Nat):Str:=⟨x.toArray⟩
theorem kS(x:List Nat):(mkS x).length=x.length:=by simp [mkS,Str.length]
theorem zFX(x:List Nat):(mkS x).cps.toList=x:=by simp [mkS]
theorem zLA{x y:List Nat}(h:mkS x=mkS y):x=y:=by
 have:=congrArg (λs=>s.cps.toList) h
 simpa [mkS]using this
theorem yHP(x y:List Nat):mkS x++mkS y=mkS (x++y):=by
 show Str.append (mkS x) (mkS y)=_
 simp [Str.append,mkS]
theorem yHQ(c:Nat):(⟨#[c]⟩:Str)=mkS [c]:=rfl
def gI{α:Type}(xs:List α)(lo hi:Option Int):List α:=(xs.drop (HT.sIx xs.length 0 lo)).take (HT.sIx xs.length xs.length hi - HT.sIx xs.length 0 lo)
theorem strIdx(lo hi:Option Int)(n:Nat):Builtin.Str.strSliceIndices lo hi 1 n=(List.range (HT.sIx n n hi - HT.sIx n 0 lo)).map (HT.sIx n 0 lo+·):=by
 have e1:(match lo with |none=>(if(1:Int)>0 then(0:Int)else(n:Int) - 1)|some i=>if(1:Int)>0 then max 0 (min (if i<0 then i+(n:Int)else i) (n:Int))else max (-1) (min (if i<0 then i+(n:Int)else i) ((n:Int) - 1)))=((HT.sIx n 0 lo:Nat):Int):=by
  cases lo with
  |none=>simp [HT.sIx]
  |some i=>
   simp only [HT.sIx,show(1:Int)>0 by decide,if_true]
   by_cases h:i<0
   ·simp only [h,if_true];omega
   ·simp only [h,iF];omega
 have e2:(match hi with |none=>(if(1:Int)>0 then(n:Int)else -1)|some i=>if(1:Int)>0 then max 0 (min (if i<0 then i+(n:Int)else i) (n:Int))else max (-1) (min (if i<0 then i+(n:Int)else i) ((n:Int) - 1)))=((HT.sIx n n hi:Nat):Int):=by
  cases hi with
  |none=>simp [HT.sIx]
  |some i=>
   simp only [HT.sIx,show(1:Int)>0 by decide,if_true]
   by_cases h:i<0
   ·simp only [h,if_true];omega
   ·simp only [h,iF];omega
 rw [<-sliceRange_one]
 unfold Builtin.Str.strSliceIndices
 dsimp only
 rw [<-e1, <-e2]
 cases lo<;>cases hi<;>rfl
theorem yAU(x:List Nat)(lo hi:Option Int):Txt.slice (mkS x) lo hi=mkS (gI x lo hi):=by
 unfold Txt.slice
 rw [strIdx,kS]
 have hp:((List.range (HT.sIx x.length x.length hi - HT.sIx x.length 0 lo)).map (HT.sIx x.length 0 lo+·)).filterMap ((mkS x).cps[·]?)=gI x lo hi:=by
  have:=pick_run (mkS x).cps (HT.sIx x.length 0 lo) (HT.sIx x.length x.length hi - HT.sIx x.length 0 lo)
  rw [zFX]at this
  exact this
 rw [hp]
 split
 ·rename_i hc
  rw [aE]at hc
  have hl:HT.sIx x.length x.length hi - HT.sIx x.length 0 lo=x.length:=by simpa using hc.2
  have h2:HT.sIx x.length x.length hi<=x.length:=HT.sIx_le _ _ (le_refl _) _
  have h3:HT.sIx x.length 0 lo<=x.length:=HT.sIx_le _ _ (zero_le _) _
  have e:HT.sIx x.length 0 lo=0:=by omega
  unfold gI
  rw [hl,e]
  simp
 ·rfl
section
variable{X:Cx}
def rSlS:V->Option Int->Option Int->Hp->VK->Prop:=λx lo hi H Q=> ∃cs,x=.str (mkS cs)/\cs.length<=sizeLine/\Q (.str (mkS (gI cs lo hi))) H
theorem yNJ:SlR X rSlS:=by
 intro pins s σ H x v vl vu lo hi sl Q I rx hs pl pu h
 obtain⟨cs,rfl,hz,q⟩:=h
 obtain⟨t,rfl⟩:=rx
 have hl:(Txt.slice (mkS cs) lo hi).length<=sizeLine:=le_trans (Txt.slice_le _ _ _) (by rw [kS];exact hz)
 rw [<-yAU]at q
 refine⟨"str",_,slot_str_getitem.lookup,typeIs_str _ _ _,?_⟩
 obtain⟨o,ho,hc,hd⟩:=hs
 cases pl with
 |none=>
  cases pu with
  |none=>exact wpAny_getItem_str_slice (l:=none) (u:=none) (st:=none) ⟨o,ho,hc,hd⟩ rfl (post_val_or_str ⟨hl,λt' k=>⟨.str _,H,I.tok _,⟨_,rfl⟩,q⟩⟩)
  |int j uj=>exact wpAny_getItem_str_slice (l:=none) (u:=some (j,uj)) (st:=none) ⟨o,ho,hc,hd⟩ rfl (post_val_or_str ⟨hl,λt' k=>⟨.str _,H,I.tok _,⟨_,rfl⟩,q⟩⟩)
 |int i ui=>
  cases pu with
  |none=>exact wpAny_getItem_str_slice (l:=some (i,ui)) (u:=none) (st:=none) ⟨o,ho,hc,hd⟩ rfl (post_val_or_str ⟨hl,λt' k=>⟨.str _,H,I.tok _,⟨_,rfl⟩,q⟩⟩)
  |int j uj=>exact wpAny_getItem_str_slice (l:=some (i,ui)) (u:=some (j,uj)) (st:=none) ⟨o,ho,hc,hd⟩ rfl (post_val_or_str ⟨hl,λt' k=>⟨.str _,H,I.tok _,⟨_,rfl⟩,q⟩⟩)
def zLS(cs:List Nat)(k:Int):List Nat:=(List.replicate k.toNat cs).flatten
theorem zIT(cs:List Nat): ∀(k:Nat)(acc:List Nat),List.foldl (λx1 x2=>x1++x2) acc.toArray (List.replicate k cs.toArray)=(acc++(List.replicate k cs).flatten).toArray
 |0,acc=>by simp
 |k+1,acc=>by
  rw [replicate_succ,foldl_cons,replicate_succ,flatten_cons, <-aA, <-zIT cs k (acc++cs)]
  simp
theorem zWB:OpR X (binaryOp .Mult) (λx y H Q=> ∃cs k,x=.str (mkS cs)/\y=.int k/\0<=k/\k<1000/\cs.length<=1000/\Q (.str (mkS (zLS cs k))) H):=by
 intro pins s σ H x y v u Q I rx ry h
 obtain⟨cs,k,rfl,rfl,h0,h1,hc,q⟩:=h
 obtain⟨t,rfl⟩:=rx
 obtain⟨t',rfl⟩:=ry
 have hs:sizeLine=16777216:=sizeLine_eq
 have hprod:cs.length * k.toNat<=1000 * 1000:=Nat.mul_le_mul hc (by omega)
 have e: ∀b,Q (.str b) H->b=mkS (zLS cs k)->True:=λ_ _ _=>trivial
 refine PySem.P.mul_str (by rw [dF0 (by omega),dF0 (by omega)];rfl) (λh2 _=>?_) (λ_ _=>?_) ?_
 ·rw [kS]
  have hk:1<=k:=by omega
  have:(1000:Int)<=(2 ^ 63 - 1) / k:=by
   rw [Int.le_ediv_iff_mul_le (by omega)]
   omega
  omega
 ·rw [kS]
  unfold PySem.Builtin.Str.tooLong
  exact dF0 (by omega)
 ·have made: ∀(z:Str),z=mkS (zLS cs k)->z.length<=sizeLine->(Made.str z).post (EP X pins σ Q) s:=λz ez hz=>⟨hz,by rw [ez];exact⟨.str _,H,I.tok _,⟨_,rfl⟩,q⟩⟩
  have hlen:(zLS cs k).length=k.toNat * cs.length:=by
   unfold zLS;rw [len_rep]
  by_cases hn:k<1
  ·rw [iP hn]
   have hk:k.toNat=0:=by omega
   refine made _ ?_ (by decide)
   unfold zLS;rw [hk];rfl
  ·rw [iN hn]
   by_cases h3:(k==1 || (mkS cs).length==0)=true
   ·rw [iP h3]
    refine⟨.str (mkS cs),H,I,⟨_,rfl⟩,?_⟩
    have:zLS cs k=cs:=by
     unfold zLS
     rw [or_eq_true]at h3
     rcases h3 with h3|h3
     ·have:k=1:=by simpa using h3
      subst this
      simp
     ·rw [kS]at h3
      have:cs=[]:=by cases cs with |nil=>rfl|cons _ _=>simp at h3
      subst this
      simp
    rw [this]at q
    exact q
   ·rw [iN h3]
    refine made _ ?_ ?_
    ·unfold zLS mkS
     have:=zIT cs k.toNat []
     rw [nil_append]at this
     exact congrArg Str.mk this
    ·have e3:(List.foldl (λx1 x2=>x1++x2) #[] (List.replicate k.toNat (mkS cs).cps))=(zLS cs k).toArray:=by
      have:=zIT cs k.toNat []
      rw [nil_append]at this
      exact this
     show(List.foldl (λx1 x2=>x1++x2) #[] (List.replicate k.toNat (mkS cs).cps)).size<=sizeLine
     rw [e3,sA0,hlen,Nat.mul_comm]
     omega
theorem zQH:CallR X (.builtin "all") (λxs H Q=> ∃(a:Addr)(bs:List Bool),xs=[.ref a]/\SqL X.K H a (bs.map V.bl)/\X.calm=true/\Q (.bl (bs.all id)) H):=by
 intro pins s σ H xs us Q I r h
 obtain⟨a,bs,rfl,hq,hc,q⟩:=h
 obtain⟨u,rfl,ru⟩:=vals1 r
 cases ru
 obtain⟨its,rv,pl,hz⟩:=I.list hq
 have hlen:its.length=bs.length:=by rw [<-rv.length,lM]
 refine PySem.call_all_walk (wpAny_pyIter_list pl.isList ?_)
 have hI:a≠s.heap.objs.size:=by
  obtain⟨o,ho,_⟩:=pl.isList
  exact ne_of_lt (Heap.lt_size ho)
 have I1: ∀(h':Heap)(tk:Nat),(∀b o,b∉[s.heap.objs.size]->(s.heap.push {cls:=.type "list_iterator",data:=.fields #[.ref a,.int 0 0]}).get? b=some o->h'.get? b=some o)->Inv X pins σ H {s with heap:=h',toks:=tk}:=λh' tk k=>
  I.kept λb o e=>k b o (by simpa using ne_of_lt (Heap.lt_size e)) (hP0 _ e)
 refine⟨s.heap.objs.size,[s.heap.objs.size,a],[s.heap.objs.size],its.toArray.size,_,_,λi=>bs.getD i false,rfl,PySem.Walks.list (by first |exact I.ok.hd hc|exact(show X.A.in1.handled=none from I.ok.hd hc)) _ a hI its.toArray,⟨⟨_,Heap.get?_push_size _ rfl,rfl,rfl⟩,pl.isList.at λo e=>hP0 _ e⟩,?_,λh' tk k=>?_⟩
 ·intro i v s' Q' E' hv hQ'
  have hv':its[i]? =some v:=by simpa using hv
  have hi:i<bs.length:=by rw [<-hlen];exact(gS0.mp hv').1
  have hb:(bs.map V.bl)[i]? =some (V.bl (bs.getD i false)):=by
   rw [getElem?_map,gE0 hi]
   simp [getD_eq_getElem?_getD,hi]
  obtain⟨u',hu',rv'⟩:=rv.get hb
  rw [hv']at hu'
  cases hu'
  cases rv'
  exact wpAny_truthy_bool hQ'
 ·refine⟨.bl (bs.all id),H,I1 h' tk k,?_,q⟩
  show Value.bool _=Value.bool _
  congr 1
  rw [sA0,hlen]
  have: ∀(l:List Bool),(List.range l.length).all (λi=>l.getD i false)=l.all id:=by
   intro l
   rw [Bool.eq_iff_iff,all_eq_true,all_eq_true]
   constructor
   ·intro h x hx
    obtain⟨i,hi,rfl⟩:=getElem_of_mem hx
    have:=h i (mem_range.mpr hi)
    simpa [getD_eq_getElem?_getD,hi]using this
   ·intro h i hi
    have hi':=mem_range.mp hi
    have:=h l[i] (getElem_mem hi')
    simpa [getD_eq_getElem?_getD,hi']using this
  exact this bs
def Its(x:List Nat):It:=⟨λi _=>i<x.length,λi H v H'=>H'=H/\ ∃c,x[i]? =some c/\v=.str (mkS [c]),λi _=>x.length<=i⟩
def iStr(tl:TE):TI:=λσ H R=>tl σ H λv H1=> ∃x,v=.str (mkS x)/\R (Its x) H1
theorem zSU{P:Program}{w:World}{K:PySem.W.Frag}{tg:Expr}(it:Addr)(ty:String)(x:List Nat)(t:Tok)(hty:ty="str_ascii_iterator"\/ty="str_iterator"):
  Turn P w K tg (Its x) [it] it (λi h=>h.IsStrIter it ty (mkS x) t i) where
 mem:=by simp
 obj:=λi h st b hb=>by
  have e:b=it:=by simpa using hb
  subst e
  obtain⟨o,e,c,d⟩:=st
  exact⟨o,e,λv z=>by rw [d]at z;cases z⟩
 keep:=λi h h' st k=>let ⟨o,ho,r⟩:=st;⟨o,k it (by simp) o ho,r⟩
 item:=by
  intro X hP hw hK hc i pins s σ H E I hf st hg
  subst hP hw hK
  obtain⟨f0,f1,f2,f3,f4,f5⟩:=hf it (by simp)
  have hi:i<x.length:=hg
  have hxi:(mkS x).cps[i]? =some x[i]:=by simp [mkS,hi]
  have fin: ∀(h':Heap),h'.IsStrIter it ty (mkS x) t (i+1)->Heap.SameBut it s.heap h'-> ∃u,some (Value.str ⟨#[x[i]]⟩ s.toks)=some u/\
    wpAny (model X.prog X.w) X.A (letOwnedTupleGo tg (.ref it) u) (λ_ s2=> ∃y H',Inv X pins σ H' s2/\RelV y u/\(Its x).yld i H y H'/\s2.heap.IsStrIter it ty (mkS x) t (i+1)/\ ∀b∈[it],H' b=none) E {s with heap:=h',toks:=s.toks+1}:=λh' st' sb=>by
   have I1:Inv X pins σ H {s with heap:=h',toks:=s.toks+1}:=I.turned (λb o hb e=>(sb.2 b hb).trans e) f0 f1 f3 f4 f5
   obtain⟨o,e,c,d⟩:=id st'
   refine⟨_,rfl,zXK (s:={s with heap:=h',toks:=s.toks+1}) e c d (by rcases hty with rfl|rfl<;>decide) ⟨.str (mkS [x[i]]),H,I1,⟨_,rfl⟩,⟨rfl,x[i],by simp [hi],rfl⟩,st',λb hb=>(hf b hb).1⟩⟩
  rcases hty with rfl|rfl
  ·exact wpAny_pyNext_ascii_item st hxi λh' st' sb=>fin h' st' sb
  ·exact wpAny_pyNext_wide_item st hxi λh' st' sb=>fin h' st' sb
 done:=by
  intro X hP hw hK hc i pins s σ H E I hf st hg
  subst hP hw hK
  obtain⟨f0,f1,f2,f3,f4,f5⟩:=hf it (by simp)
  have hi:x.length<=i:=hg
  have hxi:(mkS x).cps[i]? =none:=by simp [mkS,hi]
  rcases hty with rfl|rfl
  ·exact wpAny_pyNext_ascii_end (I.ok.hd hc) st hxi λh' eb=>⟨rfl,I.turned (t':=s.toks) (λb o hb e=>eb b o hb e) f0 f1 f3 f4 f5⟩
  ·exact wpAny_pyNext_wide_end (I.ok.hd hc) st hxi λh' eb=>⟨rfl,I.turned (t':=s.toks) (λb o hb e=>eb b o hb e) f0 f1 f3 f4 f5⟩
 self:=λ_ _ _ _ _ st h=>by
  rcases hty with rfl|rfl
  ·exact wpAny_pyIter_striter_ascii st h
  ·exact wpAny_pyIter_striter_wide st h
theorem yNK{tg l:Expr}{tl:TE}(hl:PE X l tl):PI X tg l (iStr tl):=by
 intro pins s σ H R I h
 refine thn (hl pins s σ H _ I h) λv s1 ⟨x,H1,I1,r1,q1⟩=>?_
 obtain⟨cs,e,q⟩:=q1
 subst e
 obtain⟨t,rfl⟩:=r1
 have fp: ∀(o:Obj), ∀b∈[s1.heap.objs.size],zGX X pins H1 b:=λo b hb=>by
  have e:b=s1.heap.objs.size:=by simpa using hb
  subst e
  exact I1.fpOk (le_refl _) (I1.hok.fresh (le_refl _))
 cases ha:(mkS cs).cps.all (· <128)
 ·refine wpAny_pyIter_wide ha ?_
  exact⟨s1.heap.objs.size,[s1.heap.objs.size],_,_,H1,rfl,I1.kept (t':=s1.toks) λb o e=>hP0 _ e,zSU _ "str_iterator" cs t (.inr rfl),⟨_,Heap.get?_push_size _ rfl,rfl,rfl⟩,fp default,q⟩
 ·refine wpAny_pyIter_ascii ha ?_
  exact⟨s1.heap.objs.size,[s1.heap.objs.size],_,_,H1,rfl,I1.kept (t':=s1.toks) λb o e=>hP0 _ e,zSU _ "str_ascii_iterator" cs t (.inl rfl),⟨_,Heap.get?_push_size _ rfl,rfl,rfl⟩,fp default,q⟩
end
section
variable{X:Cx}
def PU(X:Cx)(e:Expr)(t:TE):Prop:= ∀(i:Nat)(x:Str)(pos' pos:Pos),X.N.Nodup->X.N[i]? =some x->Loc X.env.scope x->(X.fn x=true\/X.env.scope.names.lookup x=some .local)->
 swapsWith e (some (.Name x pos')) pos.line X.env=pure true->PS X (.Assign [.Name x pos'] e pos) (tAsg t (yCD i))
theorem yHR{elt tg iter:Expr}{ifs:List Expr}{pos:Pos}{sc:Scope}{wi:TI}{g:TG}{tc:Addr->Shared->Hp->List Addr->TT}{te:Addr->Shared->Hp->List Addr->TE}(T:List Str)(idx:List Nat)
  (hi:PI X tg iter wi) (hcalm:X.calm=true) (hB:zKC X.env.scope X.N sc idx=true)
  (hg: ∀C s₂ H1 fp,PG (yA X sc T idx C s₂ H1 fp) tg g)
  (hc: ∀C s₂ H1 fp,yAS (yA X sc T idx C s₂ H1 fp) ifs (tc C s₂ H1 fp))
  (he: ∀C s₂ H1 fp,PE (yA X sc T idx C s₂ H1 fp) elt (te C s₂ H1 fp))
  (hs: ∀x,foldedSetIterable iter X.env x=pure x:=by intro _;rfl):
  PU X (.ListComp elt [⟨tg,iter,ifs,0⟩] sc pos) (yCP wi g tc te T.length idx):=by
 intro i x pos' spos hN hix hx hf hsw pins s σ H D I h
 rw [exec_Assign_Name_used _ _ _ _ hsw]
 refine wB0 (wpAny_standAt (wB0 ?_))
 rw [arm_evalThenUse_ListComp]
 refine wB0 (thn (zST T idx hi hcalm hB hg hc he hs (use:=some (assign (.Name x pos') X.env)) (Q':=λ_ s'=> ∃σ' H',Inv X pins σ' H' s'/\D.nx σ' H') I h λDd C s4 H' _ J4 fo hm q=>?_) λ_ s' hq=>wP0 (wP0 hq))
 have I4:=J4 s4.heap (Heap.SameBut.refl _ _)
 refine wpAny_assign_Name (zOI I4 hN hix hx (show RelV (.ref Dd) (.ref Dd)from rfl) (λs' I' ⟨a,hs',ha⟩=>?_) hf)
 obtain⟨m,hm⟩:=hm
 have hCa:C≠a:=by
  rintro rfl
  rcases ha with ha|ha
  ·exact fo.2.1 ha
  ·exact fo.2.2.2.2.1 x _ ha rfl
 refine⟨m,hm.sameBut hs' hCa,λh' hs''=>⟨_,H',?_,q⟩⟩
 exact I'.turned (t':=s'.toks) (λb o hb e=>(hs''.2 b hb).trans e) fo.1 fo.2.1 fo.2.2.2.1 fo.2.2.2.2.1 fo.2.2.2.2.2
end
end L2
namespace L2
namespace M
open PySem PySem.Spec PyProof.Rows
theorem yNL{A:Around}{s:Shared}{y x:V}{u v:Value}(ry:RelV y u)(rx:RelV x v)(fy:wS y=true)(fx:wS x=true):SeqAt.RcAt A s u v (eqV y x):=by
 cases y with
 |non=>
  cases ry
  cases x with
  |non=>cases rx;exact SeqAt.RcAt.none_none
  |bl b=>cases rx;exact SeqAt.RcAt.none_bool b
  |int b=>obtain⟨t,rfl⟩:=rx;exact SeqAt.RcAt.none_int b t
  |str b=>obtain⟨t,rfl⟩:=rx;exact SeqAt.RcAt.none_str b t
  |_=>exact absurd (show false=true from fx) xF0
 |bl a=>
  cases ry
  cases x with
  |non=>cases rx;exact SeqAt.RcAt.bool_none a
  |bl b=>cases rx;exact SeqAt.RcAt.bool_bool a b
  |int b=>obtain⟨t,rfl⟩:=rx;exact SeqAt.RcAt.bool_int a b t
  |str b=>obtain⟨t,rfl⟩:=rx;exact SeqAt.RcAt.bool_str a b t
  |_=>exact absurd (show false=true from fx) xF0
 |int a=>
  obtain⟨t',rfl⟩:=ry
  cases x with
  |non=>cases rx;exact SeqAt.RcAt.int_none a t'
  |bl b=>cases rx;exact SeqAt.RcAt.int_bool a t' b
  |int b=>obtain⟨t,rfl⟩:=rx;exact SeqAt.RcAt.int_int a t' b t
  |str b=>obtain⟨t,rfl⟩:=rx;exact SeqAt.RcAt.int_str a t' b t
  |_=>exact absurd (show false=true from fx) xF0
 |str a=>
  obtain⟨t',rfl⟩:=ry
  cases x with
  |non=>cases rx;exact SeqAt.RcAt.str_none a t'
  |bl b=>cases rx;exact SeqAt.RcAt.str_bool a t' b
  |int b=>obtain⟨t,rfl⟩:=rx;exact SeqAt.RcAt.str_int a t' b t
  |str b=>obtain⟨t,rfl⟩:=rx;exact SeqAt.RcAt.str_str a t' b t
  |_=>exact absurd (show false=true from fx) xF0
 |_=>exact absurd (show false=true from fy) xF0
theorem yNM{A:Around}{s:Shared}{y x:V}{u v:Value}(ry:RelV y u)(rx:RelV x v)(fy:wS y=true)(fx:wS x=true):SeqAt.RcNeAt A s u v (!eqV y x):=by
 cases y with
 |non=>
  cases ry
  cases x with
  |non=>cases rx;exact SeqAt.RcNeAt.none_none
  |bl b=>cases rx;exact SeqAt.RcNeAt.none_bool b
  |int b=>obtain⟨t,rfl⟩:=rx;exact SeqAt.RcNeAt.none_int b t
  |str b=>obtain⟨t,rfl⟩:=rx;exact SeqAt.RcNeAt.none_str b t
  |_=>exact absurd (show false=true from fx) xF0
 |bl a=>
  cases ry
  cases x with
  |non=>cases rx;exact SeqAt.RcNeAt.bool_none a
  |bl b=>cases rx;exact SeqAt.RcNeAt.bool_bool a b
  |int b=>obtain⟨t,rfl⟩:=rx;exact SeqAt.RcNeAt.bool_int a b t
  |str b=>obtain⟨t,rfl⟩:=rx;exact SeqAt.RcNeAt.bool_str a b t
  |_=>exact absurd (show false=true from fx) xF0
 |int a=>
  obtain⟨t',rfl⟩:=ry
  cases x with
  |non=>cases rx;exact SeqAt.RcNeAt.int_none a t'
  |bl b=>cases rx;exact SeqAt.RcNeAt.int_bool a t' b
  |int b=>obtain⟨t,rfl⟩:=rx;exact SeqAt.RcNeAt.int_int a t' b t
  |str b=>obtain⟨t,rfl⟩:=rx;exact SeqAt.RcNeAt.int_str a t' b t
  |_=>exact absurd (show false=true from fx) xF0
 |str a=>
  obtain⟨t',rfl⟩:=ry
  cases x with
  |non=>cases rx;exact SeqAt.RcNeAt.str_none a t'
  |bl b=>cases rx;exact SeqAt.RcNeAt.str_bool a t' b
  |int b=>obtain⟨t,rfl⟩:=rx;exact SeqAt.RcNeAt.str_int a t' b t
  |str b=>obtain⟨t,rfl⟩:=rx;exact SeqAt.RcNeAt.str_str a t' b t
  |_=>exact absurd (show false=true from fx) xF0
 |_=>exact absurd (show false=true from fy) xF0
theorem eq_ll{A:Around}{s:Shared}{x:V}{v:Value}{l:Addr}{items:Array Value}(rx:RelV x v)(fx:wS x=true)(hl:s.heap.IsList l items)(hu:A.units<cLine):SeqAt.EqAt A s (.ref l) v false:=by
 cases x with
 |non=>cases rx;exact SeqAt.EqAt.list_none hl hu
 |bl b=>cases rx;exact SeqAt.EqAt.list_bool b hl hu
 |int b=>obtain⟨t,rfl⟩:=rx;exact SeqAt.EqAt.list_int b t hl hu
 |str b=>obtain⟨t,rfl⟩:=rx;exact SeqAt.EqAt.list_str b t hl hu
 |_=>exact absurd (show false=true from fx) xF0
theorem eq_lr{A:Around}{s:Shared}{x:V}{v:Value}{l:Addr}{items:Array Value}(rx:RelV x v)(fx:wS x=true)(hl:s.heap.IsList l items)(hu:A.units<cLine):SeqAt.EqAt A s v (.ref l) false:=by
 cases x with
 |non=>cases rx;exact SeqAt.EqAt.none_list hl hu
 |bl b=>cases rx;exact SeqAt.EqAt.bool_list b hl hu
 |int b=>obtain⟨t,rfl⟩:=rx;exact SeqAt.EqAt.int_list b t hl hu
 |str b=>obtain⟨t,rfl⟩:=rx;exact SeqAt.EqAt.str_list b t hl hu
 |_=>exact absurd (show false=true from fx) xF0
theorem yLD{A:Around}{s:Shared}{x:V}{v:Value}{l:Addr}{items:Array Value}(rx:RelV x v)(fx:wS x=true)(hl:s.heap.IsTuple l items)(hu:A.units<cLine):SeqAt.EqAt A s (.ref l) v false:=by
 cases x with
 |non=>cases rx;exact SeqAt.EqAt.tuple_none hl hu
 |bl b=>cases rx;exact SeqAt.EqAt.tuple_bool b hl hu
 |int b=>obtain⟨t,rfl⟩:=rx;exact SeqAt.EqAt.tuple_int b t hl hu
 |str b=>obtain⟨t,rfl⟩:=rx;exact SeqAt.EqAt.tuple_str b t hl hu
 |_=>exact absurd (show false=true from fx) xF0
theorem yLE{A:Around}{s:Shared}{x:V}{v:Value}{l:Addr}{items:Array Value}(rx:RelV x v)(fx:wS x=true)(hl:s.heap.IsTuple l items)(hu:A.units<cLine):SeqAt.EqAt A s v (.ref l) false:=by
 cases x with
 |non=>cases rx;exact SeqAt.EqAt.none_tuple hl hu
 |bl b=>cases rx;exact SeqAt.EqAt.bool_tuple b hl hu
 |int b=>obtain⟨t,rfl⟩:=rx;exact SeqAt.EqAt.int_tuple b t hl hu
 |str b=>obtain⟨t,rfl⟩:=rx;exact SeqAt.EqAt.str_tuple b t hl hu
 |_=>exact absurd (show false=true from fx) xF0
theorem rc_ll{A:Around}{s:Shared}{x:V}{v:Value}{l:Addr}{items:Array Value}(rx:RelV x v)(fx:wS x=true)(hl:s.heap.IsList l items)(hu:A.units<cLine):SeqAt.RcAt A s (.ref l) v false:=by
 cases x with
 |non=>cases rx;exact SeqAt.RcAt.list_none hl hu
 |bl b=>cases rx;exact SeqAt.RcAt.list_bool b hl hu
 |int b=>obtain⟨t,rfl⟩:=rx;exact SeqAt.RcAt.list_int b t hl hu
 |str b=>obtain⟨t,rfl⟩:=rx;exact SeqAt.RcAt.list_str b t hl hu
 |_=>exact absurd (show false=true from fx) xF0
theorem rc_lr{A:Around}{s:Shared}{x:V}{v:Value}{l:Addr}{items:Array Value}(rx:RelV x v)(fx:wS x=true)(hl:s.heap.IsList l items)(hu:A.units<cLine):SeqAt.RcAt A s v (.ref l) false:=by
 cases x with
 |non=>cases rx;exact SeqAt.RcAt.none_list hl hu
 |bl b=>cases rx;exact SeqAt.RcAt.bool_list b hl hu
 |int b=>obtain⟨t,rfl⟩:=rx;exact SeqAt.RcAt.int_list b t hl hu
 |str b=>obtain⟨t,rfl⟩:=rx;exact SeqAt.RcAt.str_list b t hl hu
 |_=>exact absurd (show false=true from fx) xF0
theorem rc_tl{A:Around}{s:Shared}{x:V}{v:Value}{l:Addr}{items:Array Value}(rx:RelV x v)(fx:wS x=true)(hl:s.heap.IsTuple l items)(hu:A.units<cLine):SeqAt.RcAt A s (.ref l) v false:=by
 cases x with
 |non=>cases rx;exact SeqAt.RcAt.tuple_none hl hu
 |bl b=>cases rx;exact SeqAt.RcAt.tuple_bool b hl hu
 |int b=>obtain⟨t,rfl⟩:=rx;exact SeqAt.RcAt.tuple_int b t hl hu
 |str b=>obtain⟨t,rfl⟩:=rx;exact SeqAt.RcAt.tuple_str b t hl hu
 |_=>exact absurd (show false=true from fx) xF0
theorem rc_tr{A:Around}{s:Shared}{x:V}{v:Value}{l:Addr}{items:Array Value}(rx:RelV x v)(fx:wS x=true)(hl:s.heap.IsTuple l items)(hu:A.units<cLine):SeqAt.RcAt A s v (.ref l) false:=by
 cases x with
 |non=>cases rx;exact SeqAt.RcAt.none_tuple hl hu
 |bl b=>cases rx;exact SeqAt.RcAt.bool_tuple b hl hu
 |int b=>obtain⟨t,rfl⟩:=rx;exact SeqAt.RcAt.int_tuple b t hl hu
 |str b=>obtain⟨t,rfl⟩:=rx;exact SeqAt.RcAt.str_tuple b t hl hu
 |_=>exact absurd (show false=true from fx) xF0
theorem rn_ll{A:Around}{s:Shared}{x:V}{v:Value}{l:Addr}{items:Array Value}(rx:RelV x v)(fx:wS x=true)(hl:s.heap.IsList l items)(hu:A.units<cLine):SeqAt.RcNeAt A s (.ref l) v true:=by
 cases x with
 |non=>cases rx;exact SeqAt.RcNeAt.list_none hl hu
 |bl b=>cases rx;exact SeqAt.RcNeAt.list_bool b hl hu
 |int b=>obtain⟨t,rfl⟩:=rx;exact SeqAt.RcNeAt.list_int b t hl hu
 |str b=>obtain⟨t,rfl⟩:=rx;exact SeqAt.RcNeAt.list_str b t hl hu
 |_=>exact absurd (show false=true from fx) xF0
theorem rn_lr{A:Around}{s:Shared}{x:V}{v:Value}{l:Addr}{items:Array Value}(rx:RelV x v)(fx:wS x=true)(hl:s.heap.IsList l items)(hu:A.units<cLine):SeqAt.RcNeAt A s v (.ref l) true:=by
 cases x with
 |non=>cases rx;exact SeqAt.RcNeAt.none_list hl hu
 |bl b=>cases rx;exact SeqAt.RcNeAt.bool_list b hl hu
 |int b=>obtain⟨t,rfl⟩:=rx;exact SeqAt.RcNeAt.int_list b t hl hu
 |str b=>obtain⟨t,rfl⟩:=rx;exact SeqAt.RcNeAt.str_list b t hl hu
 |_=>exact absurd (show false=true from fx) xF0
theorem rn_tl{A:Around}{s:Shared}{x:V}{v:Value}{l:Addr}{items:Array Value}(rx:RelV x v)(fx:wS x=true)(hl:s.heap.IsTuple l items)(hu:A.units<cLine):SeqAt.RcNeAt A s (.ref l) v true:=by
 cases x with
 |non=>cases rx;exact SeqAt.RcNeAt.tuple_none hl hu
 |bl b=>cases rx;exact SeqAt.RcNeAt.tuple_bool b hl hu
 |int b=>obtain⟨t,rfl⟩:=rx;exact SeqAt.RcNeAt.tuple_int b t hl hu
 |str b=>obtain⟨t,rfl⟩:=rx;exact SeqAt.RcNeAt.tuple_str b t hl hu
 |_=>exact absurd (show false=true from fx) xF0
theorem rn_tr{A:Around}{s:Shared}{x:V}{v:Value}{l:Addr}{items:Array Value}(rx:RelV x v)(fx:wS x=true)(hl:s.heap.IsTuple l items)(hu:A.units<cLine):SeqAt.RcNeAt A s v (.ref l) true:=by
 cases x with
 |non=>cases rx;exact SeqAt.RcNeAt.none_tuple hl hu
 |bl b=>cases rx;exact SeqAt.RcNeAt.bool_tuple b hl hu
 |int b=>obtain⟨t,rfl⟩:=rx;exact SeqAt.RcNeAt.int_tuple b t hl hu
 |str b=>obtain⟨t,rfl⟩:=rx;exact SeqAt.RcNeAt.str_tuple b t hl hu
 |_=>exact absurd (show false=true from fx) xF0
theorem yCT{y:V}(h:wS y=true):eqV y y=true:=by
 cases y<;>first |rfl|(simp [eqV];done)|exact absurd (show false=true from h) xF0
inductive NK where
 |key (k:Key)|tup (ks:List NK)
noncomputable instance:DecidableEq NK:=λ_ _=>Classical.propDecidable _
section
variable{prog:Program}{w:World}(knd:KeyKind prog w Key)
mutual
def isN(h:Heap):NK->Value->Prop
 |.key k,v=>knd.is k v=true
 |.tup ks,v=> ∃a o items n,v=.ref a/\h.get? a=some o/\o.cls=.type "tuple"/\o.data=.seq items n/\zGL h ks items.toList
def zGL(h:Heap):List NK->List Value->Prop
 |[],vs=>vs=[]
 |k::ks,vs=> ∃v r,vs=v::r/\isN h k v/\zGL h ks r
end
mutual
def zER:NK->Int
 |.key k=>knd.hash k
 |.tup ks=>reduceHash (Builtin.Tuple.tupleHashOf (zLT ks))
def zLT:List NK->List Int
 |[]=>[]
 |k::ks=>zER k::zLT ks
end
mutual
def zLU:NK->Nat
 |.key _=>1
 |.tup ks=>bV ks+1
def bV:List NK->Nat
 |[]=>0
 |k::ks=>zLU k+bV ks
end
mutual
def zKP:NK->Nat
 |.key _=>0
 |.tup ks=>zKD ks+1
def zKD:List NK->Nat
 |[]=>0
 |k::ks=>max (zKP k) (zKD ks)
end
variable{knd}
theorem jW{h:Heap}{k:Key}{v:Value}:isN knd h (.key k) v↔knd.is k v=true:=by unfold isN;exact Iff.rfl
theorem wN{h:Heap}{ks:List NK}{v:Value}:isN knd h (.tup ks) v↔ ∃a o items n,v=.ref a/\h.get? a=some o/\o.cls=.type "tuple"/\o.data=.seq items n/\zGL knd h ks items.toList:=by
 conv=>lhs;unfold isN
theorem kI{h:Heap}{vs:List Value}:zGL knd h [] vs↔vs=[]:=by unfold zGL;exact Iff.rfl
theorem yT{h:Heap}{k:NK}{ks:List NK}{vs:List Value}:zGL knd h (k::ks) vs↔ ∃v r,vs=v::r/\isN knd h k v/\zGL knd h ks r:=by
 conv=>lhs;unfold zGL
mutual
theorem zQI{h:Heap}: ∀{x y:NK}{v:Value},isN knd h x v->isN knd h y v->x=y
 |.key k,.key k',v,hx,hy=>by rw [knd.inj v k k' (jW.mp hx) (jW.mp hy)]
 |.key k,.tup ks,v,hx,hy=>by
  obtain⟨a,o,items,n,rfl,_⟩:=wN.mp hy
  have:=knd.byValue _ _ (jW.mp hx)
  simp [carriedByValue]at this
 |.tup ks,.key k,v,hx,hy=>by
  obtain⟨a,o,items,n,rfl,_⟩:=wN.mp hx
  have:=knd.byValue _ _ (jW.mp hy)
  simp [carriedByValue]at this
 |.tup ks,.tup ks',v,hx,hy=>by
  obtain⟨a,o,items,n,e,ho,_,hd,hi⟩:=wN.mp hx
  obtain⟨a',o',items',n',e',ho',_,hd',hi'⟩:=wN.mp hy
  rw [e]at e'
  cases e'
  obtain rfl:o=o':=Option.some.inj (ho.symm.trans ho')
  rw [hd]at hd'
  injection hd' with h1 _
  subst h1
  rw [zSV hi hi']
theorem zSV{h:Heap}: ∀{xs ys:List NK}{vs:List Value},zGL knd h xs vs->zGL knd h ys vs->xs=ys
 |[],[],_,_,_=>rfl
 |[],y::ys,vs,hx,hy=>by
  obtain⟨v,r,e,_⟩:=yT.mp hy
  rw [kI.mp hx]at e;cases e
 |x::xs,[],vs,hx,hy=>by
  obtain⟨v,r,e,_⟩:=yT.mp hx
  rw [kI.mp hy]at e;cases e
 |x::xs,y::ys,vs,hx,hy=>by
  obtain⟨v,r,e,h1,h2⟩:=yT.mp hx
  obtain⟨v',r',e',h1',h2'⟩:=yT.mp hy
  rw [e]at e'
  cases e'
  rw [zQI h1 h1',zSV h2 h2']
end
mutual
theorem zSW{h h':Heap}(m: ∀a o items n,h.get? a=some o->o.data=.seq items n->h'.get? a=some o): ∀{x:NK}{v:Value},isN knd h x v->isN knd h' x v
 |.key k,v,hx=>jW.mpr (jW.mp hx)
 |.tup ks,v,hx=>by
  obtain⟨a,o,items,n,e,ho,hc,hd,hi⟩:=wN.mp hx
  exact wN.mpr ⟨a,o,items,n,e,m a o items n ho hd,hc,hd,zOT m hi⟩
theorem zOT{h h':Heap}(m: ∀a o items n,h.get? a=some o->o.data=.seq items n->h'.get? a=some o): ∀{xs:List NK}{vs:List Value},zGL knd h xs vs->zGL knd h' xs vs
 |[],vs,hx=>kI.mpr (kI.mp hx)
 |x::xs,vs,hx=>by
  obtain⟨v,r,e,h1,h2⟩:=yT.mp hx
  exact yT.mpr ⟨v,r,e,zSW m h1,zOT m h2⟩
end
theorem zLV: ∀ks:List NK,zLT knd ks=ks.map (zER knd)
 |[]=>by unfold zLT;rfl
 |k::ks=>by unfold zLT;rw [zLV ks];rfl
theorem zHB:bV []=0:=by rw [bV]
theorem zES(k:NK)(ks:List NK):bV (k::ks)=zLU k+bV ks:=by rw [bV]
theorem zLW(k:NK)(ks:List NK):zKD (k::ks)=max (zKP k) (zKD ks):=by rw [zKD]
theorem zCR(ks:List NK):zKP (.tup ks)=zKD ks+1:=by rw [zKP]
theorem zGQ: ∀(xs ys:List NK),bV (xs++ys)=bV xs+bV ys
 |[],ys=>by rw [zHB,nil_append,zero_add]
 |x::xs,ys=>by rw [cons_append,zES,zES,zGQ xs ys];omega
theorem zHN{s:Shared}{ks:List NK}{a:Addr}(h:isN knd s.heap (.tup ks) (.ref a)):s.TypeIs (.ref a) "tuple":=by
 obtain⟨a',o,items,n,e,ho,hc,_⟩:=wN.mp h
 cases e
 exact⟨o,ho,hc⟩
theorem zSX: ∀(n:Nat){A:Around}{E:VP}{s:Shared}{k:NK}{v:Value}{Q:Int->Shared->Prop},zKP k<=n->A.units+n<cLine->isN knd s.heap k v->Q (zER knd k) {s with toks:=s.toks+zLU k}->wpAny (model prog w) A (pyHash v) Q E s
 |n,A,E,s,.key k,v,Q,_,_,hk,h=>knd.pyHash (jW.mp hk) (by rw [zER,zLU]at h;exact h)
 |0,A,E,s,.tup ks,v,Q,hd,_,_,_=>by rw [zCR]at hd;omega
 |n+1,A,E,s,.tup ks,v,Q,hdep,hu,hk,h=>by
  obtain⟨a,o,items,m,rfl,ho,hc,hd,hi⟩:=wN.mp hk
  have hT:s.TypeIs (.ref a) "tuple":=⟨o,ho,hc⟩
  rw [zCR]at hdep
  have hdl: ∀k∈ks,zKP k<=n:=by
   have: ∀ks:List NK,zKD ks<=n-> ∀k∈ks,zKP k<=n:=by
    intro ks
    induction ks with
    |nil=>intro _ k hk;simp at hk
    |cons x xs ih=>
     intro hx k hk
     rw [zLW]at hx
     rcases mC.mp hk with rfl|hk
     ·omega
     ·exact ih (by omega) k hk
   exact this ks (by omega)
  rw [zER,zLU,zLV]at h
  unfold pyHash
  first |unfold pyHashByItsType|skip
  first |refine wB0 (wpAny_cRoomFor_or (.inr (show A.units<cLine by omega)) ?_)|skip
  refine wB0 (wpAny_specialOf hT F.slot_tuple_hash.lookup ?_)
  show wpAny _ _ (if(some (Value.builtin "tuple.__hash__")==some Value.none)=true then _ else _) Q E s
  rw [iN (by rw [beq_builtin_none];exact xF0)]
  refine wB0 (wpAny_specialOf hT F.slot_tuple_hash.lookup ?_)
  show wpAny _ _ (callSpecialIfBoundUnlessNone? (.ref a) "__hash__" _ >>= _) Q E s
  refine wB0 (wpAny_callSpecialIfBoundUnlessNone?_slot hT F.slot_tuple_hash (wpAny_call_entry F.slot_tuple_hash hT F.entry_tuple_hash ?_ (F.args_tuple_hash_1 _)))
  show wpAny _ _ (Builtin.Tuple.tupleItemsOf (.ref a) >>= _) _ _ s
  refine wB0 (wpAny_tupleItemsOf ho hd ?_)
  refine wB0 ?_
  rw [<-Array.forIn_toList]
  refine wpAny_forIn_list _
   (λgA (b:Array Int) s'=> ∃done left,ks=done++left/\zGL knd s.heap left gA/\b.toList=done.map (zER knd)/\s'={s with toks:=s.toks+bV done})
   _ ?_ ?_ _ _ ⟨[],ks,rfl,hi,rfl,by rw [zHB];rfl⟩
  ·rintro x gA b s' ⟨done,left,rfl,hl,hb,rfl⟩
   cases left with
   |nil=>rw [kI]at hl;cases hl
   |cons k ks'=>
    obtain⟨v,r,e,h1,hl'⟩:=yT.mp hl
    cases e
    refine wB0 (zSX n (hdl k (by simp)) (show A.units+1+n<cLine by omega) h1 ?_)
    have e1:bV (done++[k])=bV done+zLU k:=by rw [zGQ,zES,zHB];rfl
    first
     |exact wP0 ⟨done++[k],ks',by simp,hl',by simp [hb],by simp [add_assoc,e1]⟩
     |exact wB0 (wP0 (wP0 ⟨done++[k],ks',by simp,hl',by simp [hb],by simp [add_assoc,e1]⟩))
  ·rintro b s' ⟨done,left,rfl,hl,hb,rfl⟩
   cases left with
   |cons k ks'=>obtain⟨v,r,e,_⟩:=yT.mp hl;cases e
   |nil=>
    rw [aN]at h
    show wpAny _ _ (retInt (Builtin.Tuple.tupleHashOf b.toList)) _ _ _
    rw [hb]
    refine wpAny_ret_mkInt ?_
    show wpAny _ _ (if(decide (-(2:Int) ^ 63<=Builtin.Tuple.tupleHashOf (done.map (zER knd)))&&decide (Builtin.Tuple.tupleHashOf (done.map (zER knd))<2 ^ 63))=true then _ else _) Q E _
    unfold reduceHash at h
    by_cases hr:(decide (-(2:Int) ^ 63<=Builtin.Tuple.tupleHashOf (done.map (zER knd)))&&decide (Builtin.Tuple.tupleHashOf (done.map (zER knd))<2 ^ 63))=true
    ·rw [iP hr]
     rw [iP hr]at h
     exact wP0 (by simpa [add_assoc]using h)
    ·rw [iN hr]
     rw [iN hr]at h
     exact wB0 (wpAny_rule (wP0 (by simpa [add_assoc]using h)))
end
section
variable{prog:Program}{w:World}
abbrev mk(prog:Program)(w:World):KeyKind prog w Key:=yW prog w
theorem yHS(a b:Key):decide (NK.key a=NK.key b)=decide (a=b):=by
 by_cases h:a=b
 ·subst h;simp
 ·rw [dF0 h,dF0 λz=>h (NK.key.inj z)]
theorem yNN(a:Key)(b:List NK):decide (NK.key a=NK.tup b)=false:=dF0 λz=>nomatch z
theorem yNO(a:Key)(b:List NK):decide (NK.tup b=NK.key a)=false:=dF0 λz=>nomatch z
theorem yNP(a b:List NK):decide (NK.tup a=NK.tup b)=decide (a=b):=by
 by_cases h:a=b
 ·subst h;simp
 ·rw [dF0 h,dF0 λz=>h (NK.tup.inj z)]
theorem zSY{k:Key}{v:Value}(h:(mk prog w).is k v=true): ∃x:V,RelV x v/\wS x=true:=by
 rcases yN (show zLM k v=true from h)with⟨i,t,rfl,rfl⟩|⟨x,t,rfl,rfl⟩
 ·exact⟨.int i,⟨t,rfl⟩,rfl⟩
 ·exact⟨.str x,⟨t,rfl⟩,rfl⟩
theorem yAV{A:Around}{E:VP}{s:Shared}{x y:List NK}{a b:Addr}{P:Fin->Shared->Prop}
  (he: ∀k1∈x, ∀k2 u v (Q:Bool->Shared->Prop),isN (mk prog w) s.heap k1 u->isN (mk prog w) s.heap k2 v->Q (decide (k1=k2)) s->wpAny (model prog w) A (eqBool u v) Q E s)
  (hx:isN (mk prog w) s.heap (.tup x) (.ref a)) (hy:isN (mk prog w) s.heap (.tup y) (.ref b)) (h:P (.done (.ret (.bool (decide (x=y))))) s):
  wpAny (model prog w) A (Builtin.«tuple.__eq__» ⟨[.ref a,.ref b],[]⟩) P E s:=by
 have hTb:=zHN hy
 obtain⟨_,oa,xs,na,e,hoa,_,hda,hia⟩:=wN.mp hx
 cases e
 obtain⟨_,ob,ys,nb,e,hob,_,hdb,hib⟩:=wN.mp hy
 cases e
 show wpAny _ _ (isInstance (.ref b) (.type "tuple") >>= _) _ _ s
 refine wB0 (wpAny_isInstance hTb isSubtype_tuple_tuple ?_)
 simp only [Bool.not_true,fT,iF]
 refine wB0 (wpAny_tupleItemsOf hoa hda ?_)
 refine wB0 (wpAny_tupleItemsOf hob hdb ?_)
 refine wB0 ?_
 refine wpAny_forIn_list _
  (λgA r s'=>r.1=none/\s'=s/\ ∃x' y' xs' ys',gA=List.zip xs' ys'/\(∀k∈x',k∈x)/\zGL (mk prog w) s.heap x' xs'/\zGL (mk prog w) s.heap y' ys'/\decide (x'=y')=decide (x=y)/\(xs'.length==ys'.length)=(xs.size==ys.size))
  _ ?_ ?_ _ _ ⟨rfl,rfl,x,y,xs.toList,ys.toList,rfl,λk hk=>hk,hia,hib,rfl,by simp⟩
 ·rintro⟨u,v⟩ gA r s' ⟨hr,rfl,x',y',xs',ys',hz,hm,hx',hy',hdec,hlen⟩
  cases x' with
  |nil=>rw [kI.mp hx']at hz;simp at hz
  |cons k1 x''=>
   cases y' with
   |nil=>rw [kI.mp hy']at hz;simp at hz
   |cons k2 y''=>
    obtain⟨u',xs'',rfl,h1,hx''⟩:=yT.mp hx'
    obtain⟨v',ys'',rfl,h2,hy''⟩:=yT.mp hy'
    simp only [zip_cons_cons,List.cons.injEq,Prod.mk.injEq]at hz
    obtain⟨⟨rfl,rfl⟩,rfl⟩:=hz
    refine wB0 (he k1 (hm k1 mF0) k2 _ _ _ h1 h2 ?_)
    by_cases hk:k1=k2
    ·subst hk
     rw [dT0 rfl]
     simp only [Bool.not_true,fT,iF]
     refine wP0 ⟨rfl,rfl,x'',y'',xs'',ys'',rfl,λk hk=>hm k (mO _ hk),hx'',hy'',?_,by simpa using hlen⟩
     rw [<-hdec]
     by_cases hxy:x''=y''
     ·simp [hxy]
     ·simp [hxy]
    ·rw [dF0 hk]
     simp only [Bool.not_false,if_true]
     have hf:decide (x=y)=false:=by rw [<-hdec];simp [hk]
     rw [hf]at h
     exact wB0 (wP0 (wP0 (wP0 h)))
 ·rintro⟨r1,r2⟩ s' ⟨hr,rfl,x',y',xs',ys',hz,hm,hx',hy',hdec,hlen⟩
  simp only at hr
  subst hr
  refine wP0 ?_
  have hfin:(xs.size==ys.size)=decide (x=y):=by
   rw [<-hdec, <-hlen]
   cases x' with
   |nil=>
    rw [kI.mp hx']
    cases y' with
    |nil=>rw [kI.mp hy'];simp
    |cons k2 y''=>obtain⟨v',ys'',rfl,h2,hy''⟩:=yT.mp hy';simp
   |cons k1 x''=>
    obtain⟨u',xs'',rfl,h1,hx''⟩:=yT.mp hx'
    cases y' with
    |nil=>rw [kI.mp hy'];simp
    |cons k2 y''=>obtain⟨v',ys'',rfl,h2,hy''⟩:=yT.mp hy';simp at hz
  show P (.done (.ret (.bool (xs.size==ys.size)))) s'
  rw [hfin];exact h
theorem zLX{n:Nat}: ∀{ks:List NK},zKD ks<=n-> ∀k∈ks,zKP k<=n
 |[],_,k,hk=>by simp at hk
 |x::xs,hx,k,hk=>by
  rw [zLW]at hx
  rcases mC.mp hk with rfl|hk
  ·omega
  ·exact zLX (by omega) k hk
theorem zSZ: ∀(n:Nat){A:Around}{E:VP}{s:Shared}{x y:NK}{u v:Value}{Q:Bool->Shared->Prop},zKP x<=n->A.units+n<cLine->isN (mk prog w) s.heap x u->isN (mk prog w) s.heap y v->Q (decide (x=y)) s->wpAny (model prog w) A (eqBool u v) Q E s
 |n,A,E,s,.key a,.key b,u,v,Q,_,_,hx,hy,h=>(mk prog w).eqBool (jW.mp hx) (jW.mp hy) (by rw [yHS]at h;exact h)
 |n,A,E,s,.key a,.tup b,u,v,Q,_,hu,hx,hy,h=>by
  obtain⟨z,rz,fz⟩:=zSY (jW.mp hx)
  obtain⟨l,o,items,m,rfl,ho,hc,hd,_⟩:=wN.mp hy
  rw [yNN]at h
  exact yLE rz fz (items:=items) ⟨o,ho,hc,m,hd⟩ (by omega) prog w E Q h
 |n,A,E,s,.tup a,.key b,u,v,Q,_,hu,hx,hy,h=>by
  obtain⟨z,rz,fz⟩:=zSY (jW.mp hy)
  obtain⟨l,o,items,m,rfl,ho,hc,hd,_⟩:=wN.mp hx
  rw [yNO]at h
  exact yLD rz fz (items:=items) ⟨o,ho,hc,m,hd⟩ (by omega) prog w E Q h
 |0,A,E,s,.tup a,.tup b,u,v,Q,hd,_,hx,hy,h=>by rw [zCR]at hd;omega
 |n+1,A,E,s,.tup x,.tup y,u,v,Q,hd,hu,hx,hy,h=>by
  obtain⟨a,_,_,_,ea,_⟩:=wN.mp hx
  obtain⟨b,_,_,_,eb,_⟩:=wN.mp hy
  subst ea eb
  rw [zCR]at hd
  rw [yNP]at h
  unfold eqBool
  try with_reducible refine wpAny_holding ?_
  show wpAny _ _ (if(Value.ref a==Value.ref b)=true then _ else _) Q E s
  by_cases hab:(Value.ref a==Value.ref b)=true
  ·rw [iP hab]
   have e:a=b:=by have:=eq_of_beq hab;injection this
   subst e
   have:x=y:=NK.tup.inj (zQI hx hy)
   subst this
   exact wB0 (wpAny_rule (wP0 (by simpa using h)))
  ·rw [iN hab]
   refine wB0 (wpAny_richCompare_same_room (op:=.Eq) (zHN hx) (zHN hy) F.slot_tuple_eq
    (wpAny_call_entry F.slot_tuple_eq (zHN hx) F.entry_tuple_eq (yAV (λk1 hk1 k2 u v Q h1 h2 h3=>zSZ n (zLX (by omega) k1 hk1) (show A.units+1+n<cLine by omega) h1 h2 h3) hx hy ⟨_,rfl,(λe=>nomatch e),wpAny_truthy_bool h⟩) (F.args_tuple_eq_2 _ _)) (by omega))
theorem zXP: ∀(n m:Nat){A:Around}{E:VP}{s:Shared}{x:NK}{u:Value}{Q:Bool->Shared->Prop},zKP x<=n->n<m->isN (mk prog w) s.heap x u->Q true s->wpAny (model prog w) A (eqIsQuiet m u) Q E s
 |n,m,A,E,s,.key k,u,Q,_,_,hx,h=>by
  rw [eqIsQuiet_byValue m ((mk prog w).byValue _ _ (jW.mp hx))]
  exact wP0 h
 |0,m,A,E,s,.tup ks,u,Q,hd,_,hx,h=>by rw [zCR]at hd;omega
 |n+1,0,A,E,s,.tup ks,u,Q,hd,hm,hx,h=>by omega
 |n+1,m+1,A,E,s,.tup ks,u,Q,hdp,hm,hx,h=>by
  obtain⟨a,o,items,j,rfl,ho,hc,hd,hi⟩:=wN.mp hx
  have hT:s.TypeIs (.ref a) "tuple":=⟨o,ho,hc⟩
  rw [zCR]at hdp
  unfold eqIsQuiet
  refine wB0 (wpAny_specialOf hT F.slot_tuple_eq.lookup ?_)
  show wpAny _ _ (isInstance (.ref a) (.type "tuple") >>= _) _ _ s
  refine wB0 (wpAny_isInstance hT isSubtype_tuple_tuple ?_)
  simp only [Bool.not_true,fT,iF]
  refine wB0 (wpAny_seqItems ho hd ?_)
  refine wB0 ?_
  show wpAny _ _ (forIn items _ _) _ _ s
  rw [<-Array.forIn_toList]
  refine wpAny_forIn_list _ (λgA r s'=>r.1=none/\s'=s/\ ∃left,(∀k∈left,k∈ks)/\zGL (mk prog w) s.heap left gA) _ ?_ ?_ _ _ ⟨rfl,rfl,ks,λk hk=>hk,hi⟩
  ·rintro v gA r s' ⟨hr,rfl,left,hm',hl⟩
   cases left with
   |nil=>rw [kI]at hl;cases hl
   |cons k left=>
    obtain⟨v',r',e,h1,h2⟩:=yT.mp hl
    cases e
    refine wB0 (zXP n m (zLX (by omega) k (hm' k mF0)) (by omega) h1 ?_)
    simp only [Bool.not_true,fT,iF]
    exact wP0 ⟨rfl,rfl,left,λk hk=>hm' k (mO _ hk),h2⟩
  ·rintro⟨r1,r2⟩ s' ⟨hr,rfl,_⟩
   simp only at hr
   subst hr
   exact wP0 h
end
noncomputable def yCU(prog:Program)(w:World):HeapKind prog w NK where
 is:=λh k a=>isN (mk prog w) h k (.ref a)/\zKP k<=4
 hash:=zER (mk prog w)
 draws:=zLU
 room:=λA=>A.units+4<cLine
 inj:=λhx hy=>zQI hx.1 hy.1
 keeps:=λx ho hd hs=>⟨zSW (λa o' items n e q=>(hs.2 a λz=>by
  subst z
  rw [ho]at e;cases e
  rw [hd]at q;cases q).trans e) x.1,x.2⟩
 pyHash:=λhu hk h=>zSX 4 hk.2 hu hk.1 h
 eqBool:=λhu hx hy h=>zSZ 4 hx.2 hu hx.1 hy.1 h
 quiet:=λhk h=>zXP 4 8 hk.2 (by decide) hk.1 h
def DN(P:Program)(w:World)(a:Addr)(xs:List (NK×Addr×Value)):HO:=
 .ext λh=>xs.length<=sizeLine/\(a==sysModules)=false/\ ∃o es ep,h.get? a=some o/\o.ExactDict/\o.data=.dict es ep/\es.toList=xs.map (entryOfKey (yCU P w))/\(xs.map (·.1)).Nodup
end M
end L2
namespace L2
open PySem PySem.Spec PyProof.Rows
def Fly(h:Heap)(e T:Addr)(cls:Value)(d:Option Addr)(fl:Value):Prop:=
 ∃oe vs oT ts,h.get? e=some oe/\oe.cls=cls/\oe.dict=d/\oe.data=.fields vs/\vs[1]? =some (.ref T)/\T≠e/\h.get? T=some oT/\oT.data=.fields ts/\ts[3]? =some fl
structure Mvd(fs:List Addr)(e T:Addr)(h h':Heap):Prop where
 keep: ∀b o,b≠e->b≠T->b∉fs->h.get? b=some o->h'.get? b=some o
 slot: ∀b o,b≠e->b≠T->h.get? b=some o-> ∃sl,h'.get? b=some {o with slots:=sl}
 there: ∀b o,h.get? b=some o-> ∃o',h'.get? b=some o'
theorem Mvd.new{fs:List Addr}{e T T':Addr}{h h1 h2:Heap}(a:Mvd fs e T h h1)(n:h.get? T'=none)(b:Mvd fs e T' h1 h2):Mvd fs e T h h2:=by
 have ne: ∀c o,h.get? c=some o->c≠T':=λc o q z=>by rw [z,n]at q;cases q
 exact⟨λc o h1 h2 h3 q=>b.keep c o h1 (ne c o q) h3 (a.keep c o h1 h2 h3 q),λc o h1 h2 q=>by
  obtain⟨sl,e1⟩:=a.slot c o h1 h2 q
  obtain⟨sl',e2⟩:=b.slot c _ h1 (ne c o q) e1
  exact⟨sl',e2⟩,λc o q=>let ⟨o',e1⟩:=a.there c o q;b.there c o' e1⟩
def CXe(P:Program)(w:World):CXT:=λouter H s E x s'=> ∃e T C d H',x=.ref e/\s'.os=s.os/\AllBare s'.gens/\Un (frs outer) [] H H' s.heap s'.heap/\HOk P w H' s'.heap/\Fly s'.heap e T (.ref C) d .none/\
 s.heap.get? e=none/\s.heap.get? T=none/\H' e=none/\H' T=none/\E (.ref C) d H'
abbrev bmV:List Value:=[.type "ValueError",.type "Exception",.type "BaseException",.type "object"]
def qn:List Str:=["__class__","__getattribute__","__getattr__","__setattr__","place","number"]
end L2
namespace L2
namespace M
open PySem PySem.Spec PyProof.Rows
inductive MV where
 |non|bl (b:Bool)|int (i:Int)|str (x:List Nat)|tup (ds:List MV)|scr (ds:List MV)|loc (l:Nat)|typ (n:String)|obj (c:Str) (ns:List Str) (ds:List MV)
instance:Inhabited MV:=⟨.non⟩
inductive MO where
 |lst (ds:List MV)|dic (kvs:List (MV×MV))|ins (c:Str) (fs:List (Str×MV))
abbrev Sto:=List MO
def SqF(K:PySem.W.Frag)(H:Hp)(a:Addr)(xs:List V):Prop:=
 (∃o,H a=some (.frz o (.lst xs)))\/
  ∃(o:Obj)(its:Array Value)(n:Nat),K.lookup a=some o/\o.cls=.type "list"/\o.dict=none/\o.data=.seq its n/\its.size<=sizeLine/\Vals xs its.toList
theorem SqF.l{K:PySem.W.Frag}{H:Hp}{a:Addr}{xs:List V}(h:SqF K H a xs):SqL K H a xs:=by
 rcases h with⟨o,h⟩|h
 ·exact .inl (.inr ⟨o,h⟩)
 ·exact .inr h
mutual
def Den(K:PySem.W.Frag)(α:List Addr)(H:Hp):MV->V->Prop
 |.non,v=>v=.non
 |.bl b,v=>v=.bl b
 |.int i,v=>v=.int i
 |.str x,v=>v=.str (mkS x)
 |.tup ds,v=> ∃a vs,v=.ref a/\SqT K H a vs/\DenL K α H ds vs
 |.scr ds,v=> ∃a vs,v=.ref a/\SqF K H a vs/\DenL K α H ds vs
 |.loc l,v=> ∃a,v=.ref a/\α[l]? =some a
 |.typ n,v=>v=.ty n
 |.obj c ns ds,v=> ∃a C dx vs o,v=.ref a/\H a=some (.frz o (.ins C dx (ns.zip vs)))/\PySem.W.nsIn K mainGlobals c=some (some (.ref C))/\(PySem.W.clsIn K C).map (·.name)=some c/\ns.length=vs.length/\DenL K α H ds vs
def DenL(K:PySem.W.Frag)(α:List Addr)(H:Hp):List MV->List V->Prop
 |[],vs=>vs=[]
 |d::ds,vs=> ∃v r,vs=v::r/\Den K α H d v/\DenL K α H ds r
end
structure Ex0(α:List Addr)(H:Hp)(α':List Addr)(H':Hp):Prop where
 pre: ∃t,α'=α++t
 tup: ∀b xs,H b=some (.tup xs)->H' b=some (.tup xs)
 frz: ∀b o u,H b=some (.frz o u)->H' b=some (.frz o u)
structure Ext(α:List Addr)(H:Hp)(α':List Addr)(H':Hp):Prop extends Ex0 α H α' H' where
 new: ∀b∈α',b∈α\/H b=none
 keep: ∀b o,H b=some o->b∉α->H' b=some o
 has: ∀b o,H b=some o-> ∃o',H' b=some o'
section
variable{K:PySem.W.Frag}{α α' α'':List Addr}{H H' H'':Hp}
theorem Ext.refl(α:List Addr)(H:Hp):Ext α H α H:=⟨⟨⟨[],by simp⟩,λ_ _ h=>h,λ_ _ _ h=>h⟩,λb h=>.inl h,λ_ _ h _=>h,λ_ o h=>⟨o,h⟩⟩
theorem Ex0.grow(α t:List Addr)(H:Hp):Ex0 α H (α++t) H:=⟨⟨t,rfl⟩,λ_ _ h=>h,λ_ _ _ h=>h⟩
theorem Ext.free(x:Ext α H α' H'){b:Addr}(h:H' b=none):H b=none:=by
 cases e:H b with
 |none=>rfl
 |some o=>obtain⟨o',h'⟩:=x.has b o e;rw [h]at h';cases h'
theorem Ext.out(x:Ext α H α' H'){b:Addr}{o:HO}(h:H b=some o)(n:b∉α):b∉α':=λz=>by
 rcases x.new b z with z|z
 ·exact n z
 ·rw [h]at z;cases z
theorem Ext.trans(x:Ext α H α' H')(y:Ext α' H' α'' H''):Ext α H α'' H'' where
 pre:=by
  obtain⟨t,rfl⟩:=x.pre
  obtain⟨u,rfl⟩:=y.pre
  exact⟨t++u,by rw [aA]⟩
 new:=λb h=>(y.new b h).elim (x.new b) λz=>.inr (x.free z)
 keep:=λb o h n=>y.keep b o (x.keep b o h n) (x.out h n)
 has:=λb o h=>let ⟨o',h'⟩:=x.has b o h;y.has b o' h'
 tup:=λb xs h=>y.tup b xs (x.tup b xs h)
 frz:=λb o u h=>y.frz b o u (x.frz b o u h)
theorem Ex0.at(x:Ex0 α H α' H'){l:Nat}{a:Addr}(h:α[l]? =some a):α'[l]? =some a:=by
 obtain⟨t,rfl⟩:=x.pre
 rw [getElem?_append_left (gS0.mp h).1]
 exact h
theorem Ex0.sqT(x:Ex0 α H α' H'){a:Addr}{vs:List V}(q:SqT K H a vs):SqT K H' a vs:=by
 rcases q with(q|⟨o,q⟩)|q
 ·exact .inl (.inl (x.tup a vs q))
 ·exact .inl (.inr ⟨o,x.frz a o _ q⟩)
 ·exact .inr q
theorem Ex0.sqF(x:Ex0 α H α' H'){a:Addr}{vs:List V}(q:SqF K H a vs):SqF K H' a vs:=by
 rcases q with⟨o,q⟩|q
 ·exact .inl ⟨o,x.frz a o _ q⟩
 ·exact .inr q
mutual
theorem Den.ex0(x:Ex0 α H α' H'): ∀{d:MV}{v:V},Den K α H d v->Den K α' H' d v
 |.non,_,q=>by unfold Den at q ⊢; exact q
 |.bl _,_,q=>by unfold Den at q ⊢; exact q
 |.int _,_,q=>by unfold Den at q ⊢; exact q
 |.str _,_,q=>by unfold Den at q ⊢; exact q
 |.typ _,_,q=>by unfold Den at q ⊢; exact q
 |.obj c ns ds,_,q=>by
  unfold Den at q ⊢
  obtain⟨a,C,dx,vs,o,e,h,hn,hc,hl,l⟩:=q
  exact⟨a,C,dx,vs,o,e,x.frz a _ _ h,hn,hc,hl,DenL.ex0 x l⟩
 |.loc _,_,q=>by
  unfold Den at q ⊢
  obtain⟨a,e,h⟩:=q
  exact⟨a,e,x.at h⟩
 |.tup ds,_,q=>by
  unfold Den at q ⊢
  obtain⟨a,vs,e,s,l⟩:=q
  exact⟨a,vs,e,x.sqT s,DenL.ex0 x l⟩
 |.scr ds,_,q=>by
  unfold Den at q ⊢
  obtain⟨a,vs,e,s,l⟩:=q
  exact⟨a,vs,e,x.sqF s,DenL.ex0 x l⟩
theorem DenL.ex0(x:Ex0 α H α' H'): ∀{ds:List MV}{vs:List V},DenL K α H ds vs->DenL K α' H' ds vs
 |[],_,q=>by unfold DenL at q ⊢; exact q
 |d::ds,_,q=>by
  unfold DenL at q ⊢
  obtain⟨v,r,e,a,l⟩:=q
  exact⟨v,r,e,Den.ex0 x a,DenL.ex0 x l⟩
end
theorem Den.ext(x:Ext α H α' H'){d:MV}{v:V}(q:Den K α H d v):Den K α' H' d v:=q.ex0 x.toEx0
theorem DenL.ext(x:Ext α H α' H'){d:List MV}{v:List V}(q:DenL K α H d v):DenL K α' H' d v:=q.ex0 x.toEx0
theorem zHO:Den K α H .non .non:=by unfold Den;rfl
theorem gK(b:Bool):Den K α H (.bl b) (.bl b):=by unfold Den;rfl
theorem xN(i:Int):Den K α H (.int i) (.int i):=by unfold Den;rfl
theorem nV(x:List Nat):Den K α H (.str x) (.str (mkS x)):=by unfold Den;rfl
theorem yHT(n:String):Den K α H (.typ n) (.ty n):=by unfold Den;rfl
theorem zDI{ds:List MV}{a:Addr}{vs:List V}(s:SqT K H a vs)(l:DenL K α H ds vs):Den K α H (.tup ds) (.ref a):=by unfold Den;exact⟨a,vs,rfl,s,l⟩
theorem zXQ{ds:List MV}{a:Addr}{vs:List V}(s:SqF K H a vs)(l:DenL K α H ds vs):Den K α H (.scr ds) (.ref a):=by unfold Den;exact⟨a,vs,rfl,s,l⟩
theorem zFY{l:Nat}{a:Addr}(h:α[l]? =some a):Den K α H (.loc l) (.ref a):=by unfold Den;exact⟨a,rfl,h⟩
theorem zAI{v:V}(d:Den K α H .non v):v=.non:=by unfold Den at d;exact d
theorem zCS{b:Bool}{v:V}(d:Den K α H (.bl b) v):v=.bl b:=by unfold Den at d;exact d
theorem xO{i:Int}{v:V}(d:Den K α H (.int i) v):v=.int i:=by unfold Den at d;exact d
theorem wC{x:List Nat}{v:V}(d:Den K α H (.str x) v):v=.str (mkS x):=by unfold Den at d;exact d
theorem yHU{c:Str}{ns:List Str}{ds:List MV}{a C dx:Addr}{vs:List V}{o:Obj}(h:H a=some (.frz o (.ins C dx (ns.zip vs))))(hn:PySem.W.nsIn K mainGlobals c=some (some (.ref C)))(hc:(PySem.W.clsIn K C).map (·.name)=some c)(hl:ns.length=vs.length)(l:DenL K α H ds vs):Den K α H (.obj c ns ds) (.ref a):=by unfold Den;exact⟨a,C,dx,vs,o,rfl,h,hn,hc,hl,l⟩
theorem bW{c:Str}{ns:List Str}{ds:List MV}{v:V}(d:Den K α H (.obj c ns ds) v): ∃a C dx vs o,v=.ref a/\H a=some (.frz o (.ins C dx (ns.zip vs)))/\PySem.W.nsIn K mainGlobals c=some (some (.ref C))/\(PySem.W.clsIn K C).map (·.name)=some c/\ns.length=vs.length/\DenL K α H ds vs:=by unfold Den at d;exact d
theorem dQ{n:String}{v:V}(d:Den K α H (.typ n) v):v=.ty n:=by unfold Den at d;exact d
theorem xP{ds:List MV}{v:V}(d:Den K α H (.tup ds) v): ∃a vs,v=.ref a/\SqT K H a vs/\DenL K α H ds vs:=by unfold Den at d;exact d
theorem bX{ds:List MV}{v:V}(d:Den K α H (.scr ds) v): ∃a vs,v=.ref a/\SqF K H a vs/\DenL K α H ds vs:=by unfold Den at d;exact d
theorem gM{l:Nat}{v:V}(d:Den K α H (.loc l) v): ∃a,v=.ref a/\α[l]? =some a:=by unfold Den at d;exact d
theorem yI:DenL K α H [] []:=by unfold DenL;rfl
theorem yG{d:MV}{v:V}{ds:List MV}{vs:List V}(a:Den K α H d v)(l:DenL K α H ds vs):DenL K α H (d::ds) (v::vs):=by unfold DenL;exact⟨v,vs,rfl,a,l⟩
theorem DenL.uncons{d:MV}{ds:List MV}{vs:List V}(l:DenL K α H (d::ds) vs): ∃v r,vs=v::r/\Den K α H d v/\DenL K α H ds r:=by unfold DenL at l;exact l
theorem DenL.isnil{vs:List V}(l:DenL K α H [] vs):vs=[]:=by unfold DenL at l;exact l
theorem DenL.length: ∀{ds:List MV}{vs:List V},DenL K α H ds vs->vs.length=ds.length
 |[],_,q=>by rw [q.isnil];rfl
 |d::ds,_,q=>by
  obtain⟨v,r,rfl,_,l⟩:=q.uncons
  rw [lC,lC,DenL.length l]
theorem DenL.append: ∀{ds es:List MV}{vs us:List V},DenL K α H ds vs->DenL K α H es us->DenL K α H (ds++es) (vs++us)
 |[],_,_,_,q,l=>by rw [q.isnil];exact l
 |d::ds,_,_,_,q,l=>by
  obtain⟨v,r,rfl,a,l'⟩:=q.uncons
  exact yG a (DenL.append l' l)
theorem DenL.drop: ∀{ds:List MV}{vs:List V}(n:Nat),DenL K α H ds vs->DenL K α H (ds.drop n) (vs.drop n)
 |_,_,0,q=>q
 |[],_,n+1,q=>by rw [q.isnil];exact yI
 |d::ds,_,n+1,q=>by
  obtain⟨v,r,rfl,_,l⟩:=q.uncons
  exact DenL.drop n l
theorem DenL.take: ∀{ds:List MV}{vs:List V}(n:Nat),DenL K α H ds vs->DenL K α H (ds.take n) (vs.take n)
 |_,_,0,q=>yI
 |[],_,n+1,q=>by rw [q.isnil];exact yI
 |d::ds,_,n+1,q=>by
  obtain⟨v,r,rfl,a,l⟩:=q.uncons
  exact yG a (DenL.take n l)
theorem DenL.reverse: ∀{ds:List MV}{vs:List V},DenL K α H ds vs->DenL K α H ds.reverse vs.reverse
 |[],_,q=>by rw [q.isnil];exact yI
 |d::ds,_,q=>by
  obtain⟨v,r,rfl,a,l⟩:=q.uncons
  rw [reverse_cons,reverse_cons]
  exact(DenL.reverse l).append (yG a yI)
theorem DenL.set{d:MV}{v:V}(a:Den K α H d v): ∀{ds:List MV}{vs:List V}(n:Nat),DenL K α H ds vs->DenL K α H (ds.set n d) (vs.set n v)
 |[],_,_,q=>by rw [q.isnil];exact yI
 |e::ds,_,0,q=>by
  obtain⟨v',r,rfl,a',l⟩:=q.uncons
  exact yG a l
 |e::ds,_,n+1,q=>by
  obtain⟨v',r,rfl,a',l⟩:=q.uncons
  exact yG a' (DenL.set a n l)
theorem DenL.get: ∀{ds:List MV}{vs:List V}{i:Nat}{v:V},DenL K α H ds vs->vs[i]? =some v-> ∃d,ds[i]? =some d/\Den K α H d v
 |[],_,_,_,q,e=>by rw [q.isnil]at e;simp at e
 |d::ds,_,0,_,q,e=>by
  obtain⟨v,r,rfl,a,l⟩:=q.uncons
  simp at e;subst e
  exact⟨d,rfl,a⟩
 |d::ds,_,i+1,_,q,e=>by
  obtain⟨v,r,rfl,a,l⟩:=q.uncons
  obtain⟨d',h1,h2⟩:=DenL.get (i:=i) l (by simpa using e)
  exact⟨d',by simpa using h1,h2⟩
theorem DenL.at{ds:List MV}{vs:List V}{i:Nat}{d:MV}(q:DenL K α H ds vs)(e:ds[i]? =some d): ∃v,vs[i]? =some v/\Den K α H d v:=by
 have hi:i<ds.length:=(gS0.mp e).1
 have hv:i<vs.length:=by rw [q.length];exact hi
 obtain⟨d',h1,h2⟩:=q.get (gE0 hv)
 rw [e]at h1;cases h1
 exact⟨_,gE0 hv,h2⟩
theorem DenL.cut{ds:List MV}{vs:List V}(q:DenL K α H ds vs)(lo hi:Option Int):DenL K α H (gI ds lo hi) (zSP vs lo hi):=by
 unfold gI zSP
 rw [q.length]
 exact(q.drop _).take _
theorem zOU: ∀(ns:List Int),DenL K α H (ns.map MV.int) (ns.map V.int)
 |[]=>yI
 |b::bs=>yG (xN b) (zOU bs)
end
structure Gm where
 K:PySem.W.Frag
 mg:Str->Option Value
 P:Program
 w:World
abbrev _root_.L2.Cx.g(X:Cx):Gm:=⟨X.K,X.mg,X.prog,X.w⟩
inductive DenF(K:PySem.W.Frag)(α:List Addr)(H:Hp):List (Str×MV)->List (Str×V)->Prop
 |nil:DenF K α H [] []
 |cons {x:Str} {d:MV} {v:V} {fs gs}:Den K α H d v->DenF K α H fs gs->DenF K α H ((x,d)::fs) ((x,v)::gs)
theorem DenF.ex0{K:PySem.W.Frag}{α α':List Addr}{H H':Hp}(x:Ex0 α H α' H'): ∀{fs gs},DenF K α H fs gs->DenF K α' H' fs gs
 |_,_,.nil=>.nil
 |_,_,.cons a l=>.cons (a.ex0 x) (DenF.ex0 x l)
def KeyD:MV->Key->Prop
 |.int i,k=>k=.inl i
 |.str x,k=>k=.inr (mkS x)
 |_,_=>False
inductive DenK(K:PySem.W.Frag)(α:List Addr)(H:Hp):List (MV×MV)->List (Key×V)->Prop
 |nil:DenK K α H [] []
 |cons {k:MV} {k':Key} {d:MV} {v:V} {fs gs}:KeyD k k'->Den K α H d v->DenK K α H fs gs->DenK K α H ((k,d)::fs) ((k',v)::gs)
theorem DenK.ex0{K:PySem.W.Frag}{α α':List Addr}{H H':Hp}(x:Ex0 α H α' H'): ∀{fs gs},DenK K α H fs gs->DenK K α' H' fs gs
 |_,_,.nil=>.nil
 |_,_,.cons k a l=>.cons k (a.ex0 x) (DenK.ex0 x l)
mutual
def nkOf:MV->Option NK
 |.int i=>some (.key (.inl i))
 |.str x=>some (.key (.inr (mkS x)))
 |.tup ds=>(yLF ds).map .tup
 |_=>none
def yLF:List MV->Option (List NK)
 |[]=>some []
 |d::ds=>(nkOf d).bind λk=>(yLF ds).map (k::·)
end
inductive DenN(K:PySem.W.Frag)(α:List Addr)(H:Hp):List (MV×MV)->List (NK×Addr×Value)->Prop
 |nil:DenN K α H [] []
 |cons {k:MV} {nk:NK} {a:Addr} {d:MV} {v:V} {u:Value} {fs xs}:nkOf k=some nk->zKP nk<=4->Den K α H k (.ref a)->Den K α H d v->RelV v u->DenN K α H fs xs->DenN K α H ((k,d)::fs) ((nk,a,u)::xs)
theorem DenN.ex0{K:PySem.W.Frag}{α α':List Addr}{H H':Hp}(x:Ex0 α H α' H'): ∀{fs xs},DenN K α H fs xs->DenN K α' H' fs xs
 |_,_,.nil=>.nil
 |_,_,.cons k e a d r l=>.cons k e (a.ex0 x) (d.ex0 x) r (DenN.ex0 x l)
def ObD(g:Gm)(α:List Addr)(H:Hp)(a:Addr):MO->Prop
 |.lst ds=> ∃vs,H a=some (.lst vs)/\DenL g.K α H ds vs
 |.dic kvs=>(∃ks,H a=some (.dK ks)/\DenK g.K α H kvs ks)\/ ∃xs,H a=some (DN g.P g.w a xs)/\DenN g.K α H kvs xs
 |.ins c fs=> ∃C gs,g.mg c=some (.ref C)/\DenF g.K α H fs gs/\
   ∃oe,H a=some (.ext λh=>h.get? a=some oe)/\oe.cls=.ref C/\(fs=[]\/ ∃dx od,oe.dict=some dx/\H dx=some (.frz od (.xd gs))/\ ∃vs,oe.data=.fields vs)
theorem ObD.there{g:Gm}{α:List Addr}{H:Hp}{a:Addr}{o:MO}(h:ObD g α H a o): ∃ho,H a=some ho/\(∀xs,ho≠.tup xs)/\ ∀ob u,ho≠.frz ob u:=by
 cases o with
 |lst ds=>obtain⟨vs,h,_⟩:=h;exact⟨_,h,(λxs z=>by cases z),λ_ _ z=>by cases z⟩
 |dic ds=>
  rcases h with⟨vs,h,_⟩|⟨vs,h,_⟩
  ·exact⟨_,h,(λxs z=>by cases z),λ_ _ z=>by cases z⟩
  ·exact⟨_,h,(λxs z=>by cases z),λ_ _ z=>by cases z⟩
 |ins c ds=>
  obtain⟨_,_,_,_,_,h,_⟩:=h
  exact⟨_,h,(λxs z=>by cases z),λ_ _ z=>by cases z⟩
theorem ObD.move{g:Gm}{α α':List Addr}{H H':Hp}{a:Addr}{o:MO}(h:ObD g α H a o)(x:Ex0 α H α' H')(e:H' a=H a):ObD g α' H' a o:=by
 cases o with
 |lst ds=>obtain⟨vs,h,l⟩:=h;exact⟨vs,e.trans h,l.ex0 x⟩
 |dic ds=>
  rcases h with⟨vs,h,l⟩|⟨vs,h,l⟩
  ·exact .inl ⟨vs,e.trans h,l.ex0 x⟩
  ·exact .inr ⟨vs,e.trans h,l.ex0 x⟩
 |ins c ds=>
  obtain⟨C,gs,m,l,oe,h,hc,hf⟩:=h
  exact⟨C,gs,m,l.ex0 x,oe,e.trans h,hc,hf.imp id λ⟨dx,od,h1,h2,h3⟩=>⟨dx,od,h1,x.frz _ _ _ h2,h3⟩⟩
structure Wd(g:Gm)(α:List Addr)(S:Sto)(H:Hp):Prop where
 len:α.length=S.length
 nd:α.Nodup
 obj: ∀(l:Nat)(a:Addr)(o:MO),α[l]? =some a->S[l]? =some o->ObD g α H a o
section
variable{g:Gm}{α α':List Addr}{S S':Sto}{H H':Hp}
theorem Wd.at(w:Wd g α S H){l:Nat}{o:MO}(h:S[l]? =some o): ∃a,α[l]? =some a/\ObD g α H a o:=by
 have hl:l<α.length:=by rw [w.len];exact(gS0.mp h).1
 exact⟨α[l],gE0 hl,w.obj l _ o (gE0 hl) h⟩
theorem Wd.of(w:Wd g α S H){l:Nat}{a:Addr}(h:α[l]? =some a): ∃o,S[l]? =some o/\ObD g α H a o:=by
 have hl:l<S.length:=by rw [<-w.len];exact(gS0.mp h).1
 exact⟨S[l],gE0 hl,w.obj l a _ h (gE0 hl)⟩
theorem Wd.mem(w:Wd g α S H){a:Addr}(h:a∈α): ∃ho,H a=some ho/\(∀xs,ho≠.tup xs)/\ ∀ob u,ho≠.frz ob u:=by
 obtain⟨l,hl⟩:=getElem?_of_mem h
 obtain⟨o,_,q⟩:=w.of hl
 exact q.there
theorem Wd.newx(w:Wd g α S H){p:Addr}{o:HO}(hp:H p=none):Ext α H α (upd H p o) where
 pre:=⟨[],by simp⟩
 new:=λb h=>.inl h
 keep:=λb o h _=>by rw [zR (zX h hp)];exact h
 has:=λb o h=>⟨o,by rw [zR (zX h hp)];exact h⟩
 tup:=λb o h=>by rw [zR (zX h hp)];exact h
 frz:=λb o u h=>by rw [zR (zX h hp)];exact h
theorem Wd.fresh(w:Wd g α S H){p:Addr}(hp:H p=none):p∉α:=λz=>by
 obtain⟨_,h,_⟩:=w.mem z;rw [hp]at h;cases h
theorem Wd.new(w:Wd g α S H){p:Addr}{o:HO}(hp:H p=none):Wd g α S (upd H p o):=
 ⟨w.len,w.nd,λl a ob h1 h2=>(w.obj l a ob h1 h2).move (w.newx hp).toEx0 (zR λz=>w.fresh hp (by rw [<-z];exact mem_of_getElem? h1))⟩
theorem Wd.writex(w:Wd g α S H){l:Nat}{a:Addr}{o:HO}(h:α[l]? =some a):Ext α H α (upd H a o) where
 pre:=⟨[],by simp⟩
 new:=λb h=>.inl h
 keep:=λb o e n=>by rw [zR λz=>n (by rw [z];exact mem_of_getElem? h)];exact e
 has:=λb o e=>by
  by_cases z:b=a
  ·subst z;exact⟨_,yS⟩
  ·exact⟨o,by rw [zR z];exact e⟩
 tup:=λb xs e=>by
  obtain⟨ho,h1,h2,_⟩:=w.mem (mem_of_getElem? h)
  rw [zR λz=>h2 xs (by subst z;rw [e]at h1;exact(Option.some.inj h1).symm)];exact e
 frz:=λb ob u e=>by
  obtain⟨ho,h1,_,h2⟩:=w.mem (mem_of_getElem? h)
  rw [zR λz=>h2 ob u (by subst z;rw [e]at h1;exact(Option.some.inj h1).symm)];exact e
theorem Wd.ne(w:Wd g α S H){l m:Nat}{a b:Addr}(h:α[l]? =some a)(h':α[m]? =some b)(n:l≠m):a≠b:=by
 rintro rfl
 obtain⟨h1,e1⟩:=gS0.mp h
 obtain⟨h2,e2⟩:=gS0.mp h'
 exact n ((getElem_inj w.nd).mp (e1.trans e2.symm))
theorem Wd.write(w:Wd g α S H){l:Nat}{a:Addr}{o:HO}{ob:MO}(h:α[l]? =some a)(q:ObD g α (upd H a o) a ob):Wd g α (S.set l ob) (upd H a o) where
 len:=by rw [length_set];exact w.len
 nd:=w.nd
 obj:=λm b ob' h1 h2=>by
  by_cases e:l=m
  ·subst e
   rw [h]at h1
   have hl:l<S.length:=by rw [<-w.len];exact(gS0.mp h).1
   rw [getElem?_set_self hl]at h2
   rw [<-Option.some.inj h1, <-Option.some.inj h2]
   exact q
  ·rw [getElem?_set_ne e]at h2
   exact(w.obj m b ob' h1 h2).move (w.writex h).toEx0 (zR (w.ne h1 h λz=>e z.symm))
theorem Wd.enterx(w:Wd g α S H){H0:Hp}{α0:List Addr}(x:Ext α0 H0 α H){b:Addr}(h0:H0 b=none)(n:b∉α):Ext α0 H0 (α++[b]) H where
 pre:=let ⟨t,e⟩:=x.pre;⟨t++[b],by rw [e,aA]⟩
 new:=λc hc=>(mem_append.mp hc).elim (x.new c) λz=>.inr (by rw [mS.mp z];exact h0)
 keep:=x.keep
 has:=x.has
 tup:=x.tup
 frz:=x.frz
theorem Wd.enter(w:Wd g α S H){b:Addr}{ds:List MV}{vs:List V}(h:H b=some (.lst vs))(n:b∉α)(l:DenL g.K α H ds vs):Wd g (α++[b]) (S++[.lst ds]) H where
 len:=by rw [lA,lA,w.len];rfl
 nd:=nodup_append.mpr ⟨w.nd,by simp,λa ha c hc=>by rw [mS.mp hc];rintro rfl;exact n ha⟩
 obj:=λm a o h1 h2=>by
  by_cases hm:m<α.length
  ·rw [getElem?_append_left hm]at h1
   rw [getElem?_append_left (by rw [<-w.len];exact hm)]at h2
   exact(w.obj m a o h1 h2).move (Ex0.grow α [b] H) rfl
  ·have hm':m=α.length:=by
    have:=(gS0.mp h1).1
    rw [lA,lS]at this
    omega
   subst hm'
   rw [getElem?_append_right (le_refl _),sub_self]at h1
   rw [getElem?_append_right (by rw [w.len];exact le_refl _),w.len,sub_self]at h2
   cases h1;cases h2
   exact⟨vs,h,l.ex0 (Ex0.grow α [b] H)⟩
end
inductive R(β:Type) where
 |ok (b:β) (S:Sto)|exc (c:Str) (fs:List (Str×MV)) (S:Sto)|no
def R.bind{β γ:Type}:R β->(β->Sto->R γ)->R γ
 |.ok b S,k=>k b S
 |.exc c fs S,_=>.exc c fs S
 |.no,_=>.no
theorem R.bind_ok{β γ:Type}(b:β)(S:Sto)(k:β->Sto->R γ):(R.ok b S).bind k=k b S:=rfl
inductive Er where
 |val (d:MV)|new (ds:List MV)
instance:Inhabited Er:=⟨.val .non⟩
def DenX(K:PySem.W.Frag)(α:List Addr)(H:Hp):Er->V->Prop
 |.val d,v=>Den K α H d v
 |.new ds,v=> ∃b vs,v=.ref b/\H b=some (.lst vs)/\b∉α/\DenL K α H ds vs
def DenE(K:PySem.W.Frag)(H:Hp)(α':List Addr)(H':Hp)(r:Er)(v:V):Prop:=DenX K α' H' r v/\match r with |.new _=> ∀a,v=.ref a->H a=none|_=>True
section
variable{K:PySem.W.Frag}{α α':List Addr}{H H0 H':Hp}
theorem DenX.ext(x:Ext α H α' H'): ∀{r:Er}{v:V},DenX K α H r v->DenX K α' H' r v
 |.val d,_,q=>Den.ext x q
 |.new ds,_,⟨b,vs,e,h,n,l⟩=>⟨b,vs,e,x.keep b _ h n,x.out h n,l.ext x⟩
theorem DenE.val{d:MV}{v:V}(q:Den K α' H' d v):DenE K H α' H' (.val d) v:=⟨q,trivial⟩
theorem DenE.back(hf: ∀b,H b=none->H0 b=none){r:Er}{v:V}(q:DenE K H α' H' r v):DenE K H0 α' H' r v:=by
 refine⟨q.1,?_⟩
 cases r with
 |new ds=>exact λa e=>hf a (q.2 a e)
 |_=>trivial
theorem DenE.ext{α'':List Addr}{H'':Hp}(x:Ext α' H' α'' H''){r:Er}{v:V}(q:DenE K H α' H' r v):DenE K H α'' H'' r v:=⟨q.1.ext x,q.2⟩
end
section
variable{K:PySem.W.Frag}{α:List Addr}{H:Hp}{v:V}
theorem zLY(d:DenX K α H (.val .non) v):v=.non:=zAI (K:=K) (α:=α) (H:=H) d
theorem zKE{b:Bool}(d:DenX K α H (.val (.bl b)) v):v=.bl b:=zCS (K:=K) (α:=α) (H:=H) d
theorem yX{b:Int}(d:DenX K α H (.val (.int b)) v):v=.int b:=xO (K:=K) (α:=α) (H:=H) d
theorem bY{b:List Nat}(d:DenX K α H (.val (.str b)) v):v=.str (mkS b):=wC (K:=K) (α:=α) (H:=H) d
theorem yNQ{b:String}(d:DenX K α H (.val (.typ b)) v):v=.ty b:=dQ (K:=K) (α:=α) (H:=H) d
theorem yNR{c:Str}{ns:List Str}{ds:List MV}(d:DenX K α H (.val (.obj c ns ds)) v): ∃a C dx vs o,v=.ref a/\H a=some (.frz o (.ins C dx (ns.zip vs)))/\PySem.W.nsIn K mainGlobals c=some (some (.ref C))/\(PySem.W.clsIn K C).map (·.name)=some c/\ns.length=vs.length/\DenL K α H ds vs:=bW (K:=K) (α:=α) (H:=H) d
theorem zAJ{ds:List MV}(d:DenX K α H (.val (.tup ds)) v): ∃a vs,v=.ref a/\SqT K H a vs/\DenL K α H ds vs:=xP (K:=K) (α:=α) (H:=H) d
theorem zLZ{ds:List MV}(d:DenX K α H (.val (.scr ds)) v): ∃a vs,v=.ref a/\SqF K H a vs/\DenL K α H ds vs:=bX (K:=K) (α:=α) (H:=H) d
theorem zCF{l:Nat}(d:DenX K α H (.val (.loc l)) v): ∃a,v=.ref a/\α[l]? =some a:=gM (K:=K) (α:=α) (H:=H) d
end
def zGR:List Er->List V->List Addr
 |.new _::rs,.ref b::vs=>b::zGR rs vs
 |_::rs,_::vs=>zGR rs vs
 |_,_=>[]
inductive ArgsE(K:PySem.W.Frag)(H:Hp)(α':List Addr)(H':Hp):List Er->List V->Prop
 |nil:ArgsE K H α' H' [] []
 |cons {r v rs vs}:DenE K H α' H' r v->(∀ds b,r=.new ds->v=.ref b->b∉zGR rs vs)->ArgsE K H α' H' rs vs->ArgsE K H α' H' (r::rs) (v::vs)
theorem ArgsE.nones{K:PySem.W.Frag}{H:Hp}{α':List Addr}{H':Hp}: ∀{rs vs},ArgsE K H α' H' rs vs-> ∀b∈zGR rs vs,H b=none
 |_,_,.nil=>λb h=>by simp [zGR]at h
 |.val d::_,v::_,.cons a n l=>λb h=>ArgsE.nones l b (by simpa [zGR]using h)
 |.new ds::_,v::_,.cons a n l=>λb h=>by
  obtain⟨c,vs,rfl,_⟩:=a.1
  rcases mC.mp (show b∈c::zGR _ _ from h)with rfl|h
  ·exact a.2 _ rfl
  ·exact ArgsE.nones l b h
theorem ArgsE.back{K:PySem.W.Frag}{H H0:Hp}{α':List Addr}{H':Hp}(hf: ∀b,H b=none->H0 b=none): ∀{rs vs},ArgsE K H α' H' rs vs->ArgsE K H0 α' H' rs vs
 |_,_,.nil=>.nil
 |_,_,.cons a n l=>.cons (a.back hf) n (ArgsE.back hf l)
theorem ArgsE.length{K:PySem.W.Frag}{H:Hp}{α':List Addr}{H':Hp}: ∀{rs vs},ArgsE K H α' H' rs vs->vs.length=rs.length
 |_,_,.nil=>rfl
 |_,_,.cons _ _ l=>by rw [lC,lC,ArgsE.length l]
class Dn (β:Type) (τ:outParam Type) where
 d:Gm->Hp->List Addr->Sto->Hp->β->τ->Prop
 back: ∀{g:Gm}{H H0:Hp}{α':List Addr}{S':Sto}{H':Hp}{b:β}{u:τ},(∀b,H b=none->H0 b=none)->d g H α' S' H' b u->d g H0 α' S' H' b u
instance:Dn Er V:=⟨λg H α' _ H' r v=>DenE g.K H α' H' r v,λhf q=>q.back hf⟩
instance:Dn Bool Bool:=⟨λ_ _ _ _ _ b u=>u=b,λ_ q=>q⟩
instance:Dn (List Er) (List V):=⟨λg H α' _ H' r v=>ArgsE g.K H α' H' r v,λhf q=>q.back hf⟩
instance:Dn (Option Int) (Option Int):=⟨λ_ _ _ _ _ b u=>u=b,λ_ q=>q⟩
abbrev XW:=Str->List (Str×MV)->Sto->List Addr->Hp->Prop
abbrev W0:XW:=λ_ _ _ _ _=>False
def Post{β τ:Type}[Dn β τ](g:Gm)(W:XW)(α:List Addr)(H:Hp):R β->(τ->Hp->Prop)->Prop
 |.ok b S,Q=> ∀u α' H',Ext α H α' H'->Wd g α' S H'->Dn.d g H α' S H' b u->Q u H'
 |.exc c fs S,_=> ∀α' H',Ext α H α' H'->Wd g α' S H'->W c fs S α' H'
 |.no,_=>False
section
variable{β τ γ υ:Type}[Dn β τ][Dn γ υ]{g:Gm}{W:XW}{α α':List Addr}{H H':Hp}
theorem Post.shift(x:Ext α H α' H'): ∀{m:R β}{Q:τ->Hp->Prop},Post g W α H m Q->Post g W α' H' m Q
 |.ok b S,Q,q=>λu α2 H2 x2 w2 d2=>q u α2 H2 (x.trans x2) w2 (Dn.back (λb h=>x.free h) d2)
 |.exc c fs S,_,q=>λα2 H2 x2 w2=>q α2 H2 (x.trans x2) w2
 |.no,_,q=>q
theorem Post.bind{m:R β}{k:β->Sto->R γ}{Q:υ->Hp->Prop}{Q':τ->Hp->Prop}(q:Post g W α H (m.bind k) Q)
  (f: ∀u b S1 α1 H1,m=.ok b S1->Ext α H α1 H1->Wd g α1 S1 H1->Dn.d g H α1 S1 H1 b u->Post g W α H (k b S1) Q->Q' u H1):Post g W α H m Q':=by
 cases m with
 |ok b S=>exact λu α1 H1 x w d=>f u b S α1 H1 rfl x w d q
 |exc c fs S=>exact q
 |no=>exact q
theorem Post.here{b:β}{S:Sto}{Q:τ->Hp->Prop}{u:τ}(q:Post g W α H (.ok b S) Q)(w:Wd g α S H)(d:Dn.d g H α S H b u):Q u H:=q u α H (Ext.refl α H) w d
end
theorem Post.val{g:Gm}{W:XW}{α:List Addr}{H:Hp}{d:MV}{S:Sto}{Q:VK}{v:V}(q:Post g W α H (.ok (Er.val d) S) Q)(w:Wd g α S H)(k:Den g.K α H d v):Q v H:=q.here w (DenE.val k)
theorem Post.newl{g:Gm}{W:XW}{α:List Addr}{H:Hp}{ds:List MV}{S:Sto}{Q:VK}{vs:List V}{p:Addr}(q:Post g W α H (.ok (Er.new ds) S) Q)(w:Wd g α S H)(hp:H p=none)(l:DenL g.K α H ds vs):Q (.ref p) (upd H p (.lst vs)):=
 q (.ref p) α _ (w.newx hp) (w.new hp) ⟨⟨p,vs,rfl,yS,w.fresh hp,l.ext (w.newx hp)⟩,λa e=>by cases e;exact hp⟩
theorem Post.newt{g:Gm}{W:XW}{α:List Addr}{H:Hp}{ds:List MV}{S:Sto}{Q:VK}{vs:List V}{p:Addr}(q:Post g W α H (.ok (Er.val (.tup ds)) S) Q)(w:Wd g α S H)(hp:H p=none)(l:DenL g.K α H ds vs):Q (.ref p) (upd H p (.tup vs)):=
 q (.ref p) α _ (w.newx hp) (w.new hp) (.val (zDI (.of yS) (l.ext (w.newx hp))))
abbrev Rho:=List (Option MV)
structure Slots(K:PySem.W.Frag)(α:List Addr)(H:Hp)(ρ:Rho)(σ:St):Prop where
 len:σ.length=ρ.length
 slot: ∀(i:Nat)(d:MV),ρ[i]? =some (some d)-> ∃v,σ[i]? =some (some v)/\Den K α H d v
section
variable{K:PySem.W.Frag}{α α':List Addr}{H H':Hp}{ρ:Rho}{σ:St}
theorem Slots.ex0(q:Slots K α H ρ σ)(x:Ex0 α H α' H'):Slots K α' H' ρ σ:=⟨q.len,λi d e=>let ⟨v,h1,h2⟩:=q.slot i d e;⟨v,h1,h2.ex0 x⟩⟩
theorem Slots.ext(q:Slots K α H ρ σ)(x:Ext α H α' H'):Slots K α' H' ρ σ:=q.ex0 x.toEx0
theorem yHV{α:Type}{l:List α}{i j:Nat}{x y:α}(h:(l.set i x)[j]? =some y):(j=i/\y=x/\i<l.length)\/(j≠i/\l[j]? =some y):=by
 by_cases hj:i=j
 ·subst hj
  by_cases hl:i<l.length
  ·rw [getElem?_set_self hl]at h
   exact .inl ⟨rfl,(Option.some.inj h).symm,hl⟩
  ·rw [List.getElem?_eq_none (by rw [length_set];omega)]at h;cases h
 ·rw [getElem?_set_ne hj]at h
  exact .inr ⟨λz=>hj z.symm,h⟩
theorem Slots.set(q:Slots K α H ρ σ){i:Nat}{d:MV}{v:V}(h:Den K α H d v):Slots K α H (ρ.set i (some d)) (σ.set i (some v)):=by
 refine⟨by rw [length_set,length_set];exact q.len,λj e z=>?_⟩
 rcases yHV z with⟨rfl,e',hl⟩|⟨hj,e'⟩
 ·cases e'
  exact⟨v,by rw [getElem?_set_self (by rw [q.len];exact hl)],h⟩
 ·obtain⟨u,h1,h2⟩:=q.slot j e e'
  exact⟨u,by rw [getElem?_set_ne (Ne.symm hj)];exact h1,h2⟩
end
def Jd(X:Cx)(W:XW){β τ:Type}[Dn β τ](P:(St->Hp->(τ->Hp->Prop)->Prop)->Prop)(f:Rho->Sto->R β):Prop:=
 ∃t,P t/\ ∀α ρ S σ H Q,Wd X.g α S H->Slots X.K α H ρ σ->Post X.g W α H (f ρ S) Q->t σ H Q
abbrev PEm(X:Cx)(W:XW)(e:Expr)(f:Rho->Sto->R Er):Prop:=Jd X W (PE X e) f
abbrev PTm(X:Cx)(W:XW)(e:Expr)(f:Rho->Sto->R Bool):Prop:=Jd X W (PT X e) f
abbrev PWm(X:Cx)(W:XW)(e:Expr)(f:Rho->Sto->R Bool):Prop:=Jd X W (PW X e) f
abbrev PAm(X:Cx)(W:XW)(es:List Expr)(f:Rho->Sto->R (List Er)):Prop:=Jd X W (PA X es) f
abbrev POm(X:Cx)(W:XW)(e:Option Expr)(f:Rho->Sto->R (Option Int)):Prop:=Jd X W (PO X e) f
section
variable{X:Cx}{W:XW}{a b c e:Expr}{es:List Expr}{f g h:Rho->Sto->R Er}{tf tg:Rho->Sto->R Bool}{af:Rho->Sto->R (List Er)}{pos:Pos}
def rdSl:Option (Option MV)->Sto->R Er
 |some (some d),S=>.ok (.val d) S
 |_,_=>.no
theorem zA(i:Nat){x:Str}(hN:X.N[i]? =some x:=by rfl)(hv:Vis X.env.scope x:=by first |exact Or.inl rfl|exact Or.inr (Or.inl rfl)|exact Or.inr (Or.inr rfl))(hd:(x==("__debug__":Str))=false:=by decide)
  (hcd:(x==("__classdict__":Str))=false:=by decide):PEm X W (.Name x pos) (λρ S=>rdSl (ρ[i]?) S):=by
 refine⟨_,pv i hN hv hd hcd,λα ρ S σ H Q wd sl q=>?_⟩
 dsimp only at q
 cases z:ρ[i]? with
 |none=>rw [z]at q;exact q.elim
 |some o=>
  cases o with
  |none=>rw [z]at q;exact q.elim
  |some d=>
   rw [z]at q
   obtain⟨v,h1,h2⟩:=sl.slot i d z
   exact⟨v,h1,Post.val q wd h2⟩
theorem zC{i:Int}{j:Nat}:PEm X W (.Constant (.int i) j pos) (λ_ S=>.ok (.val (.int i)) S):=⟨_,yCA,λα ρ S σ H Q wd sl q=>Post.val q wd (xN i)⟩
theorem zGS{i:Bool}{j:Nat}:PEm X W (.Constant (.bool i) j pos) (λ_ S=>.ok (.val (.bl i)) S):=⟨_,pe_bl,λα ρ S σ H Q wd sl q=>Post.val q wd (gK i)⟩
theorem zWC{j:Nat}:PEm X W (.Constant .none j pos) (λ_ S=>.ok (.val .non) S):=⟨_,yMD,λα ρ S σ H Q wd sl q=>Post.val q wd zHO⟩
theorem zCG{x:Str}{j:Nat}(cs:List Nat)(hx:x=mkS cs:=by rfl):PEm X W (.Constant (.str x) j pos) (λ_ S=>.ok (.val (.str cs)) S):=
 ⟨_,yME,λα ρ S σ H Q wd sl q=>Post.val q wd (by rw [hx];exact nV cs)⟩
theorem yNS{i:Int}{j:Nat}{p3:Pos}:PEm X W (.UnaryOp .USub (.Constant (.int i) j p3) pos) (λ_ S=>.ok (.val (.int (-i))) S):=
 ⟨_,pe_un yMU yCA,λα ρ S σ H Q wd sl q=>⟨i,rfl,Post.val q wd (xN (-i))⟩⟩
def Op2(X:Cx)(W:XW)(r:R2)(F:Er->Er->Sto->R Er):Prop:= ∀p q x y α S H Q,Wd X.g α S H->DenX X.K α H p x->DenX X.K α H q y->Post X.g W α H (F p q S) Q->r x y H Q
theorem two{r:R2}{F:Er->Er->Sto->R Er}(hF:Op2 X W r F){ta tb:TE}(fa: ∀α ρ S σ H Q,Wd X.g α S H->Slots X.K α H ρ σ->Post X.g W α H (f ρ S) Q->ta σ H Q)
  (fb: ∀α ρ S σ H Q,Wd X.g α S H->Slots X.K α H ρ σ->Post X.g W α H (g ρ S) Q->tb σ H Q) {α:List Addr} {ρ:Rho} {S:Sto} {σ:St} {H:Hp} {Q:VK} (wd:Wd X.g α S H) (sl:Slots X.K α H ρ σ)
  (q:Post X.g W α H ((f ρ S).bind λp S1=>(g ρ S1).bind λq S2=>F p q S2) Q):ta σ H λx H1=>tb σ H1 λy H2=>r x y H2 Q:=
 fa α ρ S σ H _ wd sl (q.bind λu p S1 α1 H1 e1 x1 w1 d1 q1=>fb α1 ρ S1 σ H1 _ w1 (sl.ext x1) ((q1.shift x1).bind λu2 p2 S2 α2 H2 e2 x2 w2 d2 q2=>
  hF p p2 u u2 α2 S2 H2 Q w2 (d1.1.ext x2) d2.1 (q2.shift x2)))
theorem zOV{op:Operator}{r:R2}{F:Er->Er->Sto->R Er}(ho:OpR X (binaryOp op) r)(hF:Op2 X W r F)(ha:PEm X W a f)(hb:PEm X W b g):PEm X W (.BinOp a op b pos) (λρ S=>(f ρ S).bind λp S1=>(g ρ S1).bind λq S2=>F p q S2):=by
 obtain⟨ta,ha,fa⟩:=ha
 obtain⟨tb,hb,fb⟩:=hb
 exact⟨_,pe_op ho ha hb,λα ρ S σ H Q wd sl q=>two hF fa fb wd sl q⟩
theorem zMA{op:CmpOp}{r:R2}{F:Er->Er->Sto->R Er}(ho:OpR X (compareOp op) r)(hF:Op2 X W r F)(ha:PEm X W a f)(hb:PEm X W b g)(hm:behindInMarks op b=false:=by first |exact yCH _|with_unfolding_all rfl):
  PEm X W (.Compare a [op] [b] pos) (λρ S=>(f ρ S).bind λp S1=>(g ρ S1).bind λq S2=>F p q S2):=by
 obtain⟨ta,ha,fa⟩:=ha
 obtain⟨tb,hb,fb⟩:=hb
 exact⟨_,yHB ho ha hb hm,λα ρ S σ H Q wd sl q=>two hF fa fb wd sl q⟩
theorem pm_ix{r:R2}{F:Er->Er->Sto->R Er}(ho:IxR X r)(hF:Op2 X W r F)(ha:PEm X W a f)(hb:PEm X W b g)(hs:zQB b:=by exact λ_ _=>rfl):
  PEm X W (.Subscript a b pos) (λρ S=>(f ρ S).bind λp S1=>(g ρ S1).bind λq S2=>F p q S2):=by
 obtain⟨ta,ha,fa⟩:=ha
 obtain⟨tb,hb,fb⟩:=hb
 exact⟨_,pe_ix ho ha hb hs,λα ρ S σ H Q wd sl q=>two hF fa fb wd sl q⟩
def asB:Er->Sto->R Bool
 |.val (.bl b),S=>.ok b S
 |_,_=>.no
theorem yCV{p:Er}{S:Sto}{α:List Addr}{H:Hp}{Q:Bool->Hp->Prop}(q:Post X.g W α H (asB p S) Q): ∃k,p=.val (.bl k)/\Post X.g W α H (.ok k S) Q:=by
 unfold asB at q
 split at q
 ·exact⟨_,rfl,q⟩
 ·exact q.elim
theorem zTA{β τ:Type}[Dn β τ]{p:Er}{S:Sto}{α:List Addr}{H:Hp}{k:Bool->Sto->R β}{Q:τ->Hp->Prop}(q:Post X.g W α H ((asB p S).bind k) Q): ∃c,p=.val (.bl c)/\Post X.g W α H (k c S) Q:=by
 unfold asB at q
 split at q
 ·exact⟨_,rfl,q⟩
 ·exact q.elim
theorem zHC{op:CmpOp}{r:R2}{F:Er->Er->Sto->R Er}(ho:OpR X (compareOp op) r)(hF:Op2 X W r F)(ha:PEm X W a f)(hb:PEm X W b g)(hm:behindInMarks op b=false:=by first |exact yCH _|with_unfolding_all rfl):
  PTm X W (.Compare a [op] [b] pos) (λρ S=>((f ρ S).bind λp S1=>(g ρ S1).bind λq S2=>F p q S2).bind asB):=by
 obtain⟨ta,ha,fa⟩:=ha
 obtain⟨tb,hb,fb⟩:=hb
 refine⟨_,yHC ho ha hb hm,λα ρ S σ H Q wd sl q=>?_⟩
 refine two hF fa fb wd sl (Q:=λx H'=> ∃k,x=.bl k/\Q k H') (q.bind λu p S1 α1 H1 e1 x1 w1 d1 q1=>?_)
 obtain⟨k,rfl,q2⟩:=yCV (q1.shift x1)
 exact⟨k,zKE d1.1,q2.here w1 rfl⟩
def chF(F G:Er->Er->Sto->R Er)(p q:Er)(S:Sto)(k:Sto->R Er):R Er:=(F p q S).bind λz S1=>(asB z S1).bind λc S2=>if c=true then(k S2).bind λr S3=>G q r S3 else .ok (.val (.bl false)) S2
def zQJ:Er->Sto->R Bool
 |.val .non,S=>.ok false S
 |.val (.bl b),S=>.ok b S
 |.val (.int i),S=>.ok (i !=0) S
 |.val (.str x),S=>if x.length<=sizeLine then .ok (!x.isEmpty) S else .no
 |.val (.tup ds),S=>.ok (!ds.isEmpty) S
 |.val (.scr ds),S=>.ok (!ds.isEmpty) S
 |.val (.loc l),S=>match S[l]? with
  |some (.lst ds)=>.ok (!ds.isEmpty) S
  |_=>.no
 |.val (.typ _),_=>.no
 |.val (.obj _ _ _),_=>.no
 |.new ds,S=>.ok (!ds.isEmpty) S
theorem zFZ{ds:List MV}{vs:List V}{K:PySem.W.Frag}{α:List Addr}{H:Hp}(l:DenL K α H ds vs):(!vs.isEmpty)= !ds.isEmpty:=by
 have:=l.length
 cases ds<;>cases vs<;>simp_all
theorem yCW{p:Er}{x:V}{S:Sto}{α:List Addr}{H:Hp}{Q:Bool->Hp->Prop}(wd:Wd X.g α S H)(d:DenX X.K α H p x)(q:Post X.g W α H (zQJ p S) Q): ∃k,TruV X.K x H k/\Q k H:=by
 match p,d,q with
 |.val .non,d,q=>cases zLY d;exact⟨_,rfl,q.here wd rfl⟩
 |.val (.bl b),d,q=>cases zKE d;exact⟨_,rfl,q.here wd rfl⟩
 |.val (.int i),d,q=>cases yX d;exact⟨_,rfl,q.here wd rfl⟩
 |.val (.typ n),d,q=>exact q.elim
 |.val (.obj _ _ _),d,q=>exact q.elim
 |.val (.str z),d,q=>
  cases bY d
  have q':Post X.g W α H (if z.length<=sizeLine then R.ok (!z.isEmpty) S else R.no) Q:=q
  split at q'
  ·rename_i hz
   refine⟨_,⟨by rw [kS];exact hz,?_⟩,q'.here wd rfl⟩
   rw [kS]
   cases z with
   |nil=>rfl
   |cons c r=>
    have h0:((r.length:Int)+1)≠0:=by omega
    simp [h0]
  ·exact q'.elim
 |.val (.tup ds),d,q=>
  obtain⟨a,vs,rfl,s,l⟩:=zAJ d
  exact⟨_,.inr (.inl ⟨vs,s,(zFZ l).symm⟩),q.here wd rfl⟩
 |.val (.scr ds),d,q=>
  obtain⟨a,vs,rfl,s,l⟩:=zLZ d
  exact⟨_,.inl ⟨vs,s.l,(zFZ l).symm⟩,q.here wd rfl⟩
 |.val (.loc n),d,q=>
  obtain⟨a,rfl,h⟩:=zCF d
  obtain⟨o,h1,h2⟩:=wd.of h
  have q':Post X.g W α H (match S[n]? with |some (.lst ds)=>R.ok (!ds.isEmpty) S|_=>R.no) Q:=q
  rw [h1]at q'
  cases o with
  |lst ds=>
   obtain⟨vs,h3,l⟩:=h2
   exact⟨_,.inl ⟨vs,.of h3,(zFZ l).symm⟩,q'.here wd rfl⟩
  |dic ds=>exact q'.elim
  |ins c fs=>exact q'.elim
 |.new ds,⟨a,vs,ex,s,n,l⟩,q=>subst ex;exact⟨_,.inl ⟨vs,.of s,(zFZ l).symm⟩,q.here wd rfl⟩
theorem zHP(ha:PEm X W a f)(he: ∀whole,isTrue a X.env whole=(do let v <-whole;standAt a.pos;holding [v] (truthy v)):=by intro _;rfl):PTm X W a (λρ S=>(f ρ S).bind zQJ):=by
 obtain⟨ta,ha,fa⟩:=ha
 exact⟨_,yCI ha he,λα ρ S σ H Q wd sl q=>fa α ρ S σ H _ wd sl (q.bind λu p S1 α1 H1 e1 x1 w1 d1 q1=>yCW w1 d1.1 (q1.shift x1))⟩
end
section
variable{X:Cx}{W:XW}{a b c e:Expr}{es:List Expr}{f g h:Rho->Sto->R Er}{tf tg:Rho->Sto->R Bool}{af:Rho->Sto->R (List Er)}{pos:Pos}
def andF(p:Er)(S:Sto)(k:Sto->R Er):R Er:=(asB p S).bind λc S1=>if c=true then k S1 else .ok (.val (.bl false)) S1
def orF(p:Er)(S:Sto)(k:Sto->R Er):R Er:=(asB p S).bind λc S1=>if c=true then .ok (.val (.bl true)) S1 else k S1
theorem yCX{op}(ha:PEm X W a f):PEm X W (.BoolOp op [a] pos) f:=let ⟨t,h,k⟩:=ha;⟨t,yMH h,k⟩
theorem yNT(ha:PEm X W a f)(hb:PEm X W (.BoolOp .And (b::es) pos) g):PEm X W (.BoolOp .And (a::b::es) pos) (λρ S=>(f ρ S).bind λp S1=>andF p S1 λS2=>g ρ S2):=by
 obtain⟨ta,ha,fa⟩:=ha
 obtain⟨tb,hb,fb⟩:=hb
 refine⟨_,yMI ha hb,λα ρ S σ H Q wd sl q=>fa α ρ S σ H _ wd sl (q.bind λu p S1 α1 H1 e1 x1 w1 d1 q1=>?_)⟩
 obtain⟨k,rfl,q2⟩:=zTA (q1.shift x1)
 refine⟨k,zKE d1.1,?_⟩
 cases k with
 |true=>rw [iP rfl]at q2 ⊢; exact fb α1 ρ S1 σ H1 _ w1 (sl.ext x1) q2
 |false=>rw [iN xF0]at q2 ⊢; exact Post.val q2 w1 (gK false)
theorem pm_or(ha:PEm X W a f)(hb:PEm X W (.BoolOp .Or (b::es) pos) g):PEm X W (.BoolOp .Or (a::b::es) pos) (λρ S=>(f ρ S).bind λp S1=>orF p S1 λS2=>g ρ S2):=by
 obtain⟨ta,ha,fa⟩:=ha
 obtain⟨tb,hb,fb⟩:=hb
 refine⟨_,pe_or ha hb,λα ρ S σ H Q wd sl q=>fa α ρ S σ H _ wd sl (q.bind λu p S1 α1 H1 e1 x1 w1 d1 q1=>?_)⟩
 obtain⟨k,rfl,q2⟩:=zTA (q1.shift x1)
 refine⟨k,zKE d1.1,?_⟩
 cases k with
 |true=>rw [iP rfl]at q2 ⊢; exact Post.val q2 w1 (gK true)
 |false=>rw [iN xF0]at q2 ⊢; exact fb α1 ρ S1 σ H1 _ w1 (sl.ext x1) q2
theorem zQK(ha:PTm X W a tf):PWm X W (.BoolOp .And [a] pos) tf:=let ⟨t,h,k⟩:=ha;⟨t,yGV h,k⟩
theorem yNU(ha:PTm X W a tf):PWm X W (.BoolOp .Or [a] pos) tf:=let ⟨t,h,k⟩:=ha;⟨t,yMF h,k⟩
theorem zIU(ha:PTm X W a tf)(hb:PWm X W (.BoolOp .And (b::es) pos) tg):PWm X W (.BoolOp .And (a::b::es) pos) (λρ S=>(tf ρ S).bind λk S1=>if k=true then tg ρ S1 else .ok false S1):=by
 obtain⟨ta,ha,fa⟩:=ha
 obtain⟨tb,hb,fb⟩:=hb
 refine⟨_,yMG ha hb,λα ρ S σ H Q wd sl q=>fa α ρ S σ H _ wd sl (q.bind λu p S1 α1 H1 e1 x1 w1 d1 q1=>?_)⟩
 cases d1
 cases u with
 |true=>rw [iP rfl]at q1 ⊢; exact fb α1 ρ S1 σ H1 _ w1 (sl.ext x1) (q1.shift x1)
 |false=>rw [iN xF0]at q1 ⊢; exact(q1.shift x1).here w1 rfl
theorem wm_or(ha:PTm X W a tf)(hb:PWm X W (.BoolOp .Or (b::es) pos) tg):PWm X W (.BoolOp .Or (a::b::es) pos) (λρ S=>(tf ρ S).bind λk S1=>if k=true then .ok true S1 else tg ρ S1):=by
 obtain⟨ta,ha,fa⟩:=ha
 obtain⟨tb,hb,fb⟩:=hb
 refine⟨_,pw_or ha hb,λα ρ S σ H Q wd sl q=>fa α ρ S σ H _ wd sl (q.bind λu p S1 α1 H1 e1 x1 w1 d1 q1=>?_)⟩
 cases d1
 cases u with
 |true=>rw [iP rfl]at q1 ⊢; exact(q1.shift x1).here w1 rfl
 |false=>rw [iN xF0]at q1 ⊢; exact fb α1 ρ S1 σ H1 _ w1 (sl.ext x1) (q1.shift x1)
theorem zXR(h:PWm X W a tf):PTm X W a tf:=let ⟨t,h,k⟩:=h;⟨t,h.pt,k⟩
end
section
variable{K:PySem.W.Frag}{H0:Hp}
def zN:List Er->Sto->List MV×Sto
 |[],S=>([],S)
 |.val d::rs,S=>((d::(zN rs S).1),(zN rs S).2)
 |.new xs::rs,S=>((.loc S.length::(zN rs (S++[.lst xs])).1),(zN rs (S++[.lst xs])).2)
theorem ArgsE.grow{H0:Hp}{α:List Addr}{H:Hp}{b:Addr}{rs:List Er}{vs:List V}(q:ArgsE K H0 α H rs vs)(n:b∉zGR rs vs):ArgsE K H0 (α++[b]) H rs vs:=by
 induction q with
 |nil=>exact .nil
 |@cons r v rs vs a m l ih=>
  cases r with
  |val d=>exact .cons ⟨Den.ex0 (Ex0.grow α [b] H) a.1,trivial⟩ m (ih (by simpa [zGR]using n))
  |new ds=>
   obtain⟨⟨c,us,rfl,h1,h2,h3⟩,h4⟩:=a
   have n':b∉c::zGR rs vs:=n
   refine .cons ⟨⟨c,us,rfl,h1,λz=>?_,h3.ex0 (Ex0.grow α [b] H)⟩,h4⟩ m (ih λz=>n' (mO _ z))
   rcases mem_append.mp z with z|z
   ·exact h2 z
   ·exact n' (by rw [mS.mp z];exact mF0)
theorem zET{g:Gm}{H0:Hp}{α0:List Addr}{H:Hp}: ∀{rs:List Er}{vs:List V}{α:List Addr}{S:Sto},Wd g α S H->Ext α0 H0 α H->ArgsE g.K H0 α H rs vs->
  ∃α',Ext α0 H0 α' H/\Ex0 α H α' H/\Wd g α' (zN rs S).2 H/\DenL g.K α' H (zN rs S).1 vs
 |_,_,α,S,w,x,.nil=>⟨α,x,⟨⟨[],by simp⟩,λ_ _ h=>h,λ_ _ _ h=>h⟩,w,yI⟩
 |.val d::rs,v::vs,α,S,w,x,.cons a n l=>by
  obtain⟨α',x',y',w',l'⟩:=zET w x l
  exact⟨α',x',y',w',yG (Den.ex0 y' a.1) l'⟩
 |.new ds::rs,v::vs,α,S,w,x,.cons a n l=>by
  obtain⟨⟨c,us,rfl,h1,h2,h3⟩,h4⟩:=a
  obtain⟨α',x',y',w',l'⟩:=zET (w.enter h1 h2 h3) (w.enterx x (h4 c rfl) h2) (l.grow (n ds c rfl rfl))
  refine⟨α',x',⟨?_,y'.tup,y'.frz⟩,w',yG (zFY (y'.at ?_)) l'⟩
  ·obtain⟨t,e⟩:=y'.pre
   exact⟨[c]++t,by rw [e,aA]⟩
  ·rw [<-w.len,getElem?_append_right (le_refl _),sub_self];rfl
theorem zIV: ∀(rs:List Er)(S:Sto),(zN rs S).1.length=rs.length
 |[],S=>rfl
 |.val d::rs,S=>by show(d::(zN rs S).1).length=_;rw [lC,zIV rs S];rfl
 |.new ds::rs,S=>by show(_::(zN rs _).1).length=_;rw [lC,zIV rs _];rfl
end
section
variable{X:Cx}{W:XW}{a b c e:Expr}{es:List Expr}{f g h:Rho->Sto->R Er}{tf tg:Rho->Sto->R Bool}{af:Rho->Sto->R (List Er)}{pos:Pos}
theorem zF:PAm X W [] (λ_ S=>.ok [] S):=⟨_,yMX,λα ρ S σ H Q wd sl q=>q.here wd .nil⟩
theorem zB(ha:PEm X W a f)(hr:PAm X W es af)(hs:starEach (a::es) X.env=(false,eval a X.env)::starEach es X.env:=by rfl):PAm X W (a::es) (λρ S=>(f ρ S).bind λp S1=>(af ρ S1).bind λps S2=>.ok (p::ps) S2):=by
 obtain⟨ta,ha,fa⟩:=ha
 obtain⟨tr,hr,fr⟩:=hr
 refine⟨_,yHD ha hr hs,λα ρ S σ H Q wd sl q=>fa α ρ S σ H _ wd sl (q.bind λu p S1 α1 H1 e1 x1 w1 d1 q1=>fr α1 ρ S1 σ H1 _ w1 (sl.ext x1) ?_)⟩
 have q1':Post X.g W α H ((af ρ S1).bind λps S2=>.ok (p::ps) S2) Q:=q1
 cases z:af ρ S1 with
 |ok ps S2=>
  rw [z]at q1'
  intro vs α2 H2 x2 w2 d2
  refine q1' (u::vs) α2 H2 (x1.trans x2) w2 (ArgsE.cons (DenE.ext x2 d1) (λds b er eu hb=>?_) (ArgsE.back (λb h=>x1.free h) d2))
  subst er eu
  obtain⟨⟨c,us,ec,h1,_⟩,_⟩:=d1
  cases ec
  have:=ArgsE.nones d2 _ hb
  rw [h1]at this;cases this
 |exc c fs S2=>rw [z]at q1';exact λα2 H2 x2 w2=>q1' α2 H2 (x1.trans x2) w2
 |no=>rw [z]at q1';exact q1'
def zDJ(rs:List Er)(S:Sto):R Er:=if rs.length<=sizeLine then .ok (.val (.tup (zN rs S).1)) (zN rs S).2 else .no
def bT(rs:List Er)(S:Sto):R Er:=if rs.length<=sizeLine then .ok (.new (zN rs S).1) (zN rs S).2 else .no
theorem gN{x1}(h:PAm X W es af):PEm X W (.Tuple es x1 pos) (λρ S=>(af ρ S).bind zDJ):=by
 obtain⟨t,h,k⟩:=h
 refine⟨_,yMY h,λα ρ S σ H Q wd sl q=>k α ρ S σ H _ wd sl (q.bind λvs rs S1 α1 H1 e1 x1 w1 d1 q1=>?_)⟩
 have q1':Post X.g W α H (if rs.length<=sizeLine then R.ok (Er.val (.tup (zN rs S1).1)) (zN rs S1).2 else R.no) Q:=q1
 split at q1'
 ·rename_i hz
  obtain⟨α2,x2,y2,w2,l2⟩:=zET w1 x1 d1
  exact⟨by rw [ArgsE.length d1];exact hz,λp hp=>(q1'.shift x2).newt w2 hp l2⟩
 ·exact q1'.elim
theorem kZ(h:PAm X W es af):PEm X W (.List es pos) (λρ S=>(af ρ S).bind bT):=by
 obtain⟨t,h,k⟩:=h
 refine⟨_,yMZ h,λα ρ S σ H Q wd sl q=>k α ρ S σ H _ wd sl (q.bind λvs rs S1 α1 H1 e1 x1 w1 d1 q1=>?_)⟩
 have q1':Post X.g W α H (if rs.length<=sizeLine then R.ok (Er.new (zN rs S1).1) (zN rs S1).2 else R.no) Q:=q1
 split at q1'
 ·rename_i hz
  obtain⟨α2,x2,y2,w2,l2⟩:=zET w1 x1 d1
  exact⟨by rw [ArgsE.length d1];exact hz,λp hp=>(q1'.shift x2).newl w2 hp l2⟩
 ·exact q1'.elim
inductive ArgsX(K:PySem.W.Frag)(α:List Addr)(H:Hp):List Er->List V->Prop
 |nil:ArgsX K α H [] []
 |cons {r v rs vs}:DenX K α H r v->ArgsX K α H rs vs->ArgsX K α H (r::rs) (v::vs)
theorem ArgsE.x{K:PySem.W.Frag}{H0:Hp}{α:List Addr}{H:Hp}: ∀{rs vs},ArgsE K H0 α H rs vs->ArgsX K α H rs vs
 |_,_,.nil=>.nil
 |_,_,.cons a _ l=>.cons a.1 (ArgsE.x l)
def zCT(X:Cx)(W:XW)(r:List V->Hp->VK->Prop)(F:List Er->Sto->R Er):Prop:= ∀rs vs α S H Q,Wd X.g α S H->ArgsX X.K α H rs vs->Post X.g W α H (F rs S) Q->r vs H Q
theorem yH{id:String}{r:List V->Hp->VK->Prop}{F:List Er->Sto->R Er}{x:Str}{p:Pos}(hc:CallR X (.builtin id) r)(hF:zCT X W r F)(hg:Gl X x)(hm:X.mg x=none)(hv:bootBuiltins x=some (.builtin id))(ha:PAm X W (e::es) af)
  (hn:x≠"__name__":=by decide) (hdb:(x==("__debug__":Str))=false:=by decide)
  (he:starEach (e::es) X.env=(false,eval e X.env)::starEach es X.env:=by rfl) (hpl:(backTo pos (starEach es X.env)).any (·.1)=false:=by rfl):PEm X W (.Call (.Name x p) (e::es) [] pos) (λρ S=>(af ρ S).bind F):=by
 obtain⟨t,ha,k⟩:=ha
 exact⟨_,yCJ hc hg hm hv ha hn hdb he hpl,λα ρ S σ H Q wd sl q=>k α ρ S σ H _ wd sl (q.bind λvs rs S1 α1 H1 e1 x1 w1 d1 q1=>hF rs vs α1 S1 H1 Q w1 (ArgsE.x d1) (q1.shift x1))⟩
theorem kT{T:String}{r:List V->Hp->VK->Prop}{F:List Er->Sto->R Er}{x:Str}{p:Pos}(hc:CallR X (.type T) r)(hF:zCT X W r F)(hg:Gl X x)(hm:X.mg x=none)(hv:bootBuiltins x=some (.type T))(ha:PAm X W (e::es) af)
  (hn:x≠"__name__":=by decide) (hdb:(x==("__debug__":Str))=false:=by decide)
  (he:starEach (e::es) X.env=(false,eval e X.env)::starEach es X.env:=by rfl) (hpl:(backTo pos (starEach es X.env)).any (·.1)=false:=by rfl):PEm X W (.Call (.Name x p) (e::es) [] pos) (λρ S=>(af ρ S).bind F):=by
 obtain⟨t,ha,k⟩:=ha
 exact⟨_,yAN hc hg hm hv ha hn hdb he hpl,λα ρ S σ H Q wd sl q=>k α ρ S σ H _ wd sl (q.bind λvs rs S1 α1 H1 e1 x1 w1 d1 q1=>hF rs vs α1 S1 H1 Q w1 (ArgsE.x d1) (q1.shift x1))⟩
def zWD(X:Cx)(W:XW)(r:V->List V->Hp->VK->Prop)(F:Er->List Er->Sto->R Er):Prop:= ∀p rs x vs α S H0 H Q α0,Wd X.g α S H->Ext α0 H0 α H->DenX X.K α H p x->ArgsE X.K H0 α H rs vs->Post X.g W α0 H0 (F p rs S) Q->r x vs H Q
def TyM(X:Cx)(T:String)(ty:Er->Sto->Bool):Prop:= ∀p x α S H,Wd X.g α S H->DenX X.K α H p x->ty p S=true->tyV X.K T x H
theorem zXS{T:String}{name:Str}{id:String}{r:V->List V->Hp->VK->Prop}{F:Er->List Er->Sto->R Er}{ty:Er->Sto->Bool}{apos:Pos}(pa:PlainAttrs T)(slot:Slot T name id)(hty:typeOf (.builtin id)=pure (.type "method_descriptor"))(hm:MtR X id r)(hF:zWD X W r F)(hT:TyM X T ty)
  (ho:PEm X W a f) (ha:PAm X W (e::es) af)
  (hbase:attributeBase a name X.env (eval a X.env)=eval a X.env:=by rfl)
  (hfew:((backTo pos (starEach (e::es) X.env)).all (λx=>!x.1)&&(backToKw pos (keywordEach [] X.env)).all (λx=>x.1.isSome)
   &&decide ((e::es).length+([]:List Keyword).length+(if([]:List Keyword).isEmpty then 0 else 1)<30))=true:=by rfl)
  (hline:(apos.endLine==pos.line)=true:=by rfl) (hs:starEach (e::es) X.env=(false,eval e X.env)::starEach es X.env:=by rfl) (hplain:(backTo pos (starEach es X.env)).any (·.1)=false:=by rfl):
  PEm X W (.Call (.Attribute a name apos) (e::es) [] pos) (λρ S=>(f ρ S).bind λp S1=>if ty p S1=true then(af ρ S1).bind λrs S2=>F p rs S2 else .no):=by
 obtain⟨to,ho,fo⟩:=ho
 obtain⟨t,ha,k⟩:=ha
 refine⟨_,pe_bm pa slot hty hm ho ha hbase hfew hline hs hplain,λα ρ S σ H Q wd sl q=>fo α ρ S σ H _ wd sl (q.bind λu p S1 α1 H1 e1 x1 w1 d1 q1=>?_)⟩
 split at q1
 ·rename_i hz
  exact⟨hT p u α1 S1 H1 w1 d1.1 hz,k α1 ρ S1 σ H1 _ w1 (sl.ext x1) ((q1.shift x1).bind λvs rs S2 α2 H2 e2 x2 w2 d2 q2=>hF p rs u vs α2 S2 H1 H2 Q α1 w2 x2 (d1.1.ext x2) d2 q2)⟩
 ·exact q1.elim
theorem zTB{T:String}{name:Str}{id:String}{r:V->List V->Hp->VK->Prop}{F:Er->List Er->Sto->R Er}{ty:Er->Sto->Bool}{apos:Pos}(pa:PlainAttrs T)(slot:Slot T name id)(hty:typeOf (.builtin id)=pure (.type "method_descriptor"))(hm:MtR X id r)(hF:zWD X W r F)(hT:TyM X T ty)
  (ho:PEm X W a f) (hbase:attributeBase a name X.env (eval a X.env)=eval a X.env:=by rfl) (hline:(apos.endLine==pos.line)=true:=by rfl):
  PEm X W (.Call (.Attribute a name apos) [] [] pos) (λρ S=>(f ρ S).bind λp S1=>if ty p S1=true then F p [] S1 else .no):=by
 obtain⟨to,ho,fo⟩:=ho
 refine⟨_,yNE pa slot hty hm ho hbase hline,λα ρ S σ H Q wd sl q=>fo α ρ S σ H _ wd sl (q.bind λu p S1 α1 H1 e1 x1 w1 d1 q1=>?_)⟩
 split at q1
 ·rename_i hz
  exact⟨hT p u α1 S1 H1 w1 d1.1 hz,hF p [] u [] α1 S1 H1 H1 Q α1 w1 (Ext.refl _ _) d1.1 .nil (q1.shift x1)⟩
 ·exact q1.elim
theorem kA:POm X W none (λ_ S=>.ok none S):=⟨_,yHG,λα ρ S σ H Q wd sl q=>q.here wd rfl⟩
def asI:Er->Sto->R (Option Int)
 |.val (.int i),S=>.ok (some i) S
 |_,_=>.no
theorem kB(ha:PEm X W a f):POm X W (some a) (λρ S=>(f ρ S).bind asI):=by
 obtain⟨ta,ha,fa⟩:=ha
 refine⟨_,yHH ha,λα ρ S σ H Q wd sl q=>fa α ρ S σ H _ wd sl (q.bind λu p S1 α1 H1 e1 x1 w1 d1 q1=>?_)⟩
 unfold asI at q1
 split at q1
 ·exact⟨_,yX d1.1,(q1.shift x1).here w1 rfl⟩
 ·exact q1.elim
def Sl3(X:Cx)(W:XW)(r:V->Option Int->Option Int->Hp->VK->Prop)(F:Er->Option Int->Option Int->Sto->R Er):Prop:= ∀p lo hi x α S H Q,Wd X.g α S H->DenX X.K α H p x->Post X.g W α H (F p lo hi S) Q->r x lo hi H Q
theorem yCY{lo hi:Option Expr}{r:V->Option Int->Option Int->Hp->VK->Prop}{F:Er->Option Int->Option Int->Sto->R Er}{lf hf:Rho->Sto->R (Option Int)}{p2:Pos}(hr:SlR X r)(hF:Sl3 X W r F)(ha:PEm X W a f)(hl:POm X W lo lf)(hh:POm X W hi hf):
  PEm X W (.Subscript a (.Slice lo hi none p2) pos) (λρ S=>(f ρ S).bind λp S1=>(lf ρ S1).bind λl S2=>(hf ρ S2).bind λu S3=>F p l u S3):=by
 obtain⟨ta,ha,fa⟩:=ha
 obtain⟨tl,hl,fl⟩:=hl
 obtain⟨th,hh,fh⟩:=hh
 refine⟨_,yCL hr ha hl hh,λα ρ S σ H Q wd sl q=>fa α ρ S σ H _ wd sl (q.bind λu p S1 α1 H1 e1 x1 w1 d1 q1=>fl α1 ρ S1 σ H1 _ w1 (sl.ext x1) ((q1.shift x1).bind λu2 l S2 α2 H2 e2 x2 w2 d2 q2=>
  fh α2 ρ S2 σ H2 _ w2 ((sl.ext x1).ext x2) ((q2.shift x2).bind λu3 m S3 α3 H3 e3 x3 w3 d3 q3=>?_)))⟩
 cases d2
 cases d3
 exact hF p u2 u3 u α3 S3 H3 Q w3 ((d1.1.ext x2).ext x3) (q3.shift x3)
end
inductive Fl where
 |next (ρ:Rho)|ret (r:Er)|brk (ρ:Rho)|cont (ρ:Rho)
abbrev AX:=Rho->Sto->R Er
abbrev AY:=Rho->Sto->R Fl
abbrev AZ:=Rho->Sto->R Bool
def PostS(g:Gm)(W:XW)(α:List Addr)(H:Hp)(D:Ends):R Fl->Prop
 |.ok (.next ρ) S=> ∀σ α' H',Ext α H α' H'->Wd g α' S H'->Slots g.K α' H' ρ σ->D.nx σ H'
 |.ok (.ret r) S=> ∀v α' H',Ext α H α' H'->Wd g α' S H'->DenE g.K H α' H' r v->D.rt v H'
 |.ok (.brk ρ) S=> ∀σ α' H',Ext α H α' H'->Wd g α' S H'->Slots g.K α' H' ρ σ->D.bk σ H'
 |.ok (.cont ρ) S=> ∀σ α' H',Ext α H α' H'->Wd g α' S H'->Slots g.K α' H' ρ σ->D.ct σ H'
 |.exc c fs S=> ∀α' H',Ext α H α' H'->Wd g α' S H'->W c fs S α' H'
 |.no=>False
section
variable{g:Gm}{W:XW}{α α':List Addr}{H H':Hp}{D D':Ends}
theorem PostS.shift(x:Ext α H α' H'): ∀{m:R Fl},PostS g W α H D m->PostS g W α' H' D m
 |.ok (.next ρ) S,q=>λσ α2 H2 x2 w2 s2=>q σ α2 H2 (x.trans x2) w2 s2
 |.ok (.ret r) S,q=>λv α2 H2 x2 w2 d2=>q v α2 H2 (x.trans x2) w2 (d2.back λb h=>x.free h)
 |.ok (.brk ρ) S,q=>λσ α2 H2 x2 w2 s2=>q σ α2 H2 (x.trans x2) w2 s2
 |.ok (.cont ρ) S,q=>λσ α2 H2 x2 w2 s2=>q σ α2 H2 (x.trans x2) w2 s2
 |.exc c fs S,q=>λα2 H2 x2 w2=>q α2 H2 (x.trans x2) w2
 |.no,q=>q
theorem PostS.expr{β τ:Type}[Dn β τ]{m:R β}{k:β->Sto->R Fl}{Q':τ->Hp->Prop}(q:PostS g W α H D (m.bind k))
  (f: ∀u b S1 α1 H1,m=.ok b S1->Ext α H α1 H1->Wd g α1 S1 H1->Dn.d g H α1 S1 H1 b u->PostS g W α H D (k b S1)->Q' u H1):Post g W α H m Q':=by
 cases m with
 |ok b S=>exact λu α1 H1 x w d=>f u b S α1 H1 rfl x w d q
 |exc c fs S=>exact q
 |no=>exact q
theorem PostS.stmt{m:R Fl}{k:Fl->Sto->R Fl}(q:PostS g W α H D (m.bind k))
  (hn: ∀ρ S σ α1 H1,m=.ok (.next ρ) S->Ext α H α1 H1->Wd g α1 S H1->Slots g.K α1 H1 ρ σ->PostS g W α H D (k (.next ρ) S)->D'.nx σ H1)
  (hr: ∀r S v α1 H1,m=.ok (.ret r) S->Ext α H α1 H1->Wd g α1 S H1->DenE g.K H α1 H1 r v->PostS g W α H D (k (.ret r) S)->D'.rt v H1)
  (hb: ∀ρ S σ α1 H1,m=.ok (.brk ρ) S->Ext α H α1 H1->Wd g α1 S H1->Slots g.K α1 H1 ρ σ->PostS g W α H D (k (.brk ρ) S)->D'.bk σ H1)
  (hc: ∀ρ S σ α1 H1,m=.ok (.cont ρ) S->Ext α H α1 H1->Wd g α1 S H1->Slots g.K α1 H1 ρ σ->PostS g W α H D (k (.cont ρ) S)->D'.ct σ H1):PostS g W α H D' m:=by
 cases m with
 |ok fl S=>
  cases fl with
  |next ρ=>exact λσ α1 H1 x w s=>hn ρ S σ α1 H1 rfl x w s q
  |ret r=>exact λv α1 H1 x w d=>hr r S v α1 H1 rfl x w d q
  |brk ρ=>exact λσ α1 H1 x w s=>hb ρ S σ α1 H1 rfl x w s q
  |cont ρ=>exact λσ α1 H1 x w s=>hc ρ S σ α1 H1 rfl x w s q
 |exc c fs S=>exact q
 |no=>exact q
end
def PSm(X:Cx)(W:XW)(st:Stmt)(F:AY):Prop:=
 ∃t,PS X st t/\ ∀α ρ S σ H D,Wd X.g α S H->Slots X.K α H ρ σ->PostS X.g W α H D (F ρ S)->t D σ H
def zQL(X:Cx)(W:XW)(st:List Stmt)(F:AY):Prop:=
 ∃t,PSs X st t/\ ∀α ρ S σ H D,Wd X.g α S H->Slots X.K α H ρ σ->PostS X.g W α H D (F ρ S)->t D σ H
def zO(F G:AY):AY:=λρ S=>(F ρ S).bind λfl S1=>match fl with
 |.next ρ'=>G ρ' S1
 |.ret r=>.ok (.ret r) S1
 |.brk ρ'=>.ok (.brk ρ') S1
 |.cont ρ'=>.ok (.cont ρ') S1
section
variable{X:Cx}{W:XW}{st:Stmt}{sts as bs:List Stmt}{F G:AY}{f g:AX}{tf:AZ}{e c:Expr}{pos:Pos}
theorem xV:zQL X W [] (λρ S=>.ok (.next ρ) S):=⟨_,yGW,λα ρ S σ H D wd sl q=>q σ α H (Ext.refl α H) wd sl⟩
theorem zI(h:PSm X W st F):zQL X W [st] F:=let ⟨t,h,k⟩:=h;⟨t,yGX h,k⟩
theorem zE(h1:PSm X W st F)(h2:zQL X W sts G):zQL X W (st::sts) (zO F G):=by
 obtain⟨t,h1,k1⟩:=h1
 obtain⟨u,h2,k2⟩:=h2
 refine⟨_,yCB h1 h2,λα ρ S σ H D wd sl q=>k1 α ρ S σ H _ wd sl (q.stmt ?_ ?_ ?_ ?_)⟩
 ·intro ρ1 S1 σ1 α1 H1 e x1 w1 s1 q1
  exact k2 α1 ρ1 S1 σ1 H1 D w1 s1 (PostS.shift x1 q1)
 ·intro r S1 v α1 H1 e x1 w1 d1 q1
  exact q1 v α1 H1 x1 w1 d1
 ·intro ρ1 S1 σ1 α1 H1 e x1 w1 s1 q1
  exact q1 σ1 α1 H1 x1 w1 s1
 ·intro ρ1 S1 σ1 α1 H1 e x1 w1 s1 q1
  exact q1 σ1 α1 H1 x1 w1 s1
theorem yK(he:PEm X W e f):PSm X W (.Return (some e) pos) (λρ S=>(f ρ S).bind λr S1=>.ok (.ret r) S1):=by
 obtain⟨t,he,k⟩:=he
 exact⟨_,yMJ he,λα ρ S σ H D wd sl q=>k α ρ S σ H _ wd sl (q.expr λu r S1 α1 H1 e x1 w1 d1 q1=>q1 u α1 H1 x1 w1 d1)⟩
theorem yCZ:PSm X W st (λ_ _=>.no):=⟨_,yCC,λα ρ S σ H D wd sl q=>q.elim⟩
theorem kU(he:PEm X W e f)(hs:swapsWith e none pos.line X.env=pure false:=by rfl):PSm X W (.Expr e pos) (λρ S=>(f ρ S).bind λ_ S1=>.ok (.next ρ) S1):=by
 obtain⟨t,he,k⟩:=he
 exact⟨_,yGY he hs,λα ρ S σ H D wd sl q=>k α ρ S σ H _ wd sl (q.expr λu r S1 α1 H1 e x1 w1 d1 q1=>q1 σ α1 H1 x1 w1 (sl.ext x1))⟩
theorem jN(hc:PTm X W c tf)(ha:zQL X W as F)(hb:zQL X W bs G):PSm X W (.If c as bs pos) (λρ S=>(tf ρ S).bind λk S1=>if k=true then F ρ S1 else G ρ S1):=by
 obtain⟨tc,hc,kc⟩:=hc
 obtain⟨ta,ha,ka⟩:=ha
 obtain⟨tb,hb,kb⟩:=hb
 refine⟨_,ps_if hc ha hb,λα ρ S σ H D wd sl q=>kc α ρ S σ H _ wd sl (q.expr λu p S1 α1 H1 e x1 w1 d1 q1=>?_)⟩
 cases d1
 cases u with
 |true=>rw [iP rfl]at q1 ⊢; exact ka α1 ρ S1 σ H1 D w1 (sl.ext x1) (PostS.shift x1 q1)
 |false=>rw [iN xF0]at q1 ⊢; exact kb α1 ρ S1 σ H1 D w1 (sl.ext x1) (PostS.shift x1 q1)
instance:Dn Rho St:=⟨λg _ α' _ H' ρ σ=>Slots g.K α' H' ρ σ,λ_ q=>q⟩
def PGm(X:Cx)(W:XW)(tg:Expr)(gf:MV->Rho->Sto->R Rho):Prop:=
 ∃t,PG X tg t/\ ∀α ρ S σ H d v Q,Wd X.g α S H->Slots X.K α H ρ σ->Den X.K α H d v->Post X.g W α H (gf d ρ S) Q->t v σ H Q
def PGsm(X:Cx)(W:XW)(tgs:List Expr)(gf:List MV->Rho->Sto->R Rho):Prop:=
 ∃t,PGs X tgs t/\ ∀α ρ S σ H ds vs Q,Wd X.g α S H->Slots X.K α H ρ σ->DenL X.K α H ds vs->Post X.g W α H (gf ds ρ S) Q->t vs σ H Q
def gNm(i:Nat):MV->Rho->Sto->R Rho:=λd ρ S=>.ok (ρ.set i (some d)) S
theorem zS(i:Nat){x:Str}(hN:X.N.Nodup)(hi:X.N[i]? =some x:=by rfl)(hx:Loc X.env.scope x:=by first |exact Or.inl rfl|exact Or.inr rfl)(hf:X.fn x=true\/X.env.scope.names.lookup x=some .local:=by first |exact .inl rfl|exact .inr rfl|assumption):
  PGm X W (.Name x pos) (gNm i):=⟨_,zXJ hN hi hx hf,λα ρ S σ H d v Q wd sl de q=>Post.here (b:=ρ.set i (some d)) q wd (sl.set de)⟩
def dF:List MV->Rho->Sto->R Rho
 |[],ρ,S=>.ok ρ S
 |_,_,_=>.no
def yF(g1:MV->Rho->Sto->R Rho)(g2:List MV->Rho->Sto->R Rho):List MV->Rho->Sto->R Rho
 |d::ds,ρ,S=>(g1 d ρ S).bind λρ1 S1=>g2 ds ρ1 S1
 |_,_,_=>.no
theorem zEU:PGsm X W [] dF:=⟨_,yGZ,λα ρ S σ H ds vs Q wd sl de q=>by
 cases ds with
 |nil=>exact⟨de.isnil,Post.here (b:=ρ) q wd sl⟩
 |cons d ds=>exact q.elim⟩
theorem xZ{es:List Expr}{g1:MV->Rho->Sto->R Rho}{g2:List MV->Rho->Sto->R Rho}(h1:PGm X W e g1)(h2:PGsm X W es g2)(hs:(assignEach (e::es) X.env).map (·.2)=assign e X.env::(assignEach es X.env).map (·.2):=by rfl):PGsm X W (e::es) (yF g1 g2):=by
 obtain⟨t1,h1,k1⟩:=h1
 obtain⟨t2,h2,k2⟩:=h2
 refine⟨_,yCE h1 h2 hs,λα ρ S σ H ds vs Q wd sl de q=>?_⟩
 cases ds with
 |nil=>exact q.elim
 |cons d ds=>
  obtain⟨v,r,rfl,a,l⟩:=de.uncons
  refine⟨v,r,rfl,k1 α ρ S σ H d v _ wd sl a (Post.bind q λu p S1 α1 H1 e x1 w1 d1 q1=>k2 α1 p S1 u H1 ds r Q w1 d1 (l.ext x1) (q1.shift x1))⟩
def gTp(n:Nat)(g2:List MV->Rho->Sto->R Rho):MV->Rho->Sto->R Rho
 |.tup ds,ρ,S=>if ds.length=n then g2 ds ρ S else .no
 |_,_,_=>.no
theorem zEV{es:List Expr}{k n:Nat}{g2:List MV->Rho->Sto->R Rho}(hc:X.calm=true)(h:PGsm X W es g2)
  (hn:(assignEach es X.env).length=n:=by rfl) (hst:(assignEach es X.env).findIdx? (·.1)=none:=by rfl):PGm X W (.Tuple es k pos) (gTp n g2):=by
 obtain⟨t,h,k⟩:=h
 refine⟨_,yML hc h hn hst,λα ρ S σ H d v Q wd sl de q=>?_⟩
 unfold gTp at q
 split at q
 ·split at q
  ·rename_i hl
   obtain⟨a,vs,rfl,s,l⟩:=xP de
   exact⟨a,vs,rfl,s,by rw [l.length];exact hl,k α ρ S σ H _ vs Q wd sl l q⟩
  ·exact q.elim
 ·exact q.elim
def dR(r:Er)(S:Sto):R MV:=match r with
 |.val d=>.ok d S
 |.new ds=>.ok (.loc S.length) (S++[.lst ds])
theorem zCU{g:Gm}{H0:Hp}{α0 α:List Addr}{H:Hp}{S:Sto}{r:Er}{v:V}(w:Wd g α S H)(x:Ext α0 H0 α H)(d:DenE g.K H0 α H r v):
  ∃d' S' α',dR r S=.ok d' S'/\Ext α0 H0 α' H/\Ex0 α H α' H/\Wd g α' S' H/\Den g.K α' H d' v:=by
 cases r with
 |val d'=>exact⟨d',S,α,rfl,x,⟨⟨[],by simp⟩,λ_ _ h=>h,λ_ _ _ h=>h⟩,w,d.1⟩
 |new ds=>
  obtain⟨⟨c,us,rfl,h1,h2,h3⟩,h4⟩:=d
  exact⟨.loc S.length,S++[.lst ds],α++[c],rfl,w.enterx x (h4 c rfl) h2,Ex0.grow α [c] H,w.enter h1 h2 h3,zFY (by rw [<-w.len,getElem?_append_right (le_refl _),sub_self];rfl)⟩
def zQM(ρ:Rho)(i:Nat)(r:Er)(S:Sto):R Fl:=(dR r S).bind λd S1=>.ok (.next (ρ.set i (some d))) S1
theorem zK(i:Nat){x:Str}{pos':Pos}(hN:X.N.Nodup)(he:PEm X W e f)(hi:X.N[i]? =some x:=by rfl)(hx:Loc X.env.scope x:=by first |exact Or.inl rfl|exact Or.inr rfl)
  (hs:swapsWith e (some (.Name x pos')) pos.line X.env=pure false:=by rfl) (hf:X.fn x=true\/X.env.scope.names.lookup x=some .local:=by first |exact .inl rfl|exact .inr rfl|assumption):
  PSm X W (.Assign [.Name x pos'] e pos) (λρ S=>(f ρ S).bind (zQM ρ i)):=by
 obtain⟨t,he,k⟩:=he
 refine⟨_,yMN hN hi hx he hs hf,λα ρ S σ H D wd sl q=>k α ρ S σ H _ wd sl (q.expr λu r S1 α1 H1 e x1 w1 d1 q1=>?_)⟩
 obtain⟨d',S',α',e1,x',y',w',de⟩:=zCU w1 x1 d1
 unfold zQM at q1
 rw [e1]at q1
 exact q1 _ α' H1 x' w' (((sl.ext x1).ex0 y').set de)
def asgF(gf:MV->Rho->Sto->R Rho)(ρ:Rho)(r:Er)(S:Sto):R Fl:=(dR r S).bind λd S1=>(gf d ρ S1).bind λρ' S2=>.ok (.next ρ') S2
theorem zHD{tg:Expr}{gf:MV->Rho->Sto->R Rho}(he:PEm X W e f)(hg:PGm X W tg gf)(hs:swapsWithSole [tg] e pos.line X.env=pure false:=by rfl)(hw:swappedStores [tg] e X.env=pure none:=by rfl)
  (h1:(assignEach [tg] X.env).map (·.2)=[assign tg X.env]:=by rfl):PSm X W (.Assign [tg] e pos) (λρ S=>(f ρ S).bind (asgF gf ρ)):=by
 obtain⟨t,he,k⟩:=he
 obtain⟨tg',hg,kg⟩:=hg
 refine⟨_,yMM he hg hs hw h1,λα ρ S σ H D wd sl q=>k α ρ S σ H _ wd sl (q.expr λu r S1 α1 H1 e x1 w1 d1 q1=>?_)⟩
 obtain⟨d',S',α',e1,x',y',w',de⟩:=zCU w1 x1 d1
 unfold asgF at q1
 rw [e1]at q1
 have q1:PostS X.g W α H D ((gf d' ρ S').bind λρ' S2=>.ok (.next ρ') S2):=q1
 exact kg α' ρ S' σ H1 d' u _ w' ((sl.ext x1).ex0 y') de ((PostS.shift x' q1).expr λσ2 ρ2 S2 α2 H2 e2 x2 w2 s2 q2=>q2 σ2 α2 H2 x2 w2 s2)
structure Wk where
 ds:List MV
 gs:List (Nat×List MV)
def stay(gs:List (Nat×List MV))(S:Sto):Prop:= ∀p∈gs,S[p.1]? =some (.lst p.2)
def ItM(g:Gm)(J:It)(P:List Addr->Sto->Hp->Prop)(ds:List MV):Prop:= ∀i α S H,P α S H->Wd g α S H->(i<ds.length->J.go i H/\ ∀x H',J.yld i H x H'->Ext α H α H'/\Wd g α S H'/\P α S H'/\ ∃d,ds[i]? =some d/\Den g.K α H' d x)/\(ds.length<=i->J.stop i H)
structure WkD(g:Gm)(α:List Addr)(S:Sto)(H:Hp)(k:Wk)(J:It)(P:List Addr->Sto->Hp->Prop):Prop where
 it:ItM g J P k.ds
 here:P α S H
 stays: ∀α1 S1 H1 α2 S2 H2,P α1 S1 H1->Ext α1 H1 α2 H2->Wd g α2 S2 H2->stay k.gs S2->P α2 S2 H2
 st:stay k.gs S
instance:Dn Wk It:=⟨λg _ α S H k J=> ∃P,WkD g α S H k J P,λ_ q=>q⟩
abbrev PIm(X:Cx)(W:XW)(tg iter:Expr)(f:Rho->Sto->R Wk):Prop:=Jd X W (PI X tg iter) f
variable{tg iter:Expr}
theorem zHQ{a:Addr}{ds:List MV}:ItM X.g (Itl X.K a) (λα S H=> ∃vs,SqL X.K H a vs/\DenL X.K α H ds vs) ds:=by
 intro i α S H ⟨vs,s,l⟩ w
 have hl:=l.length
 refine⟨λhi=>?_,λhi=>⟨vs,s,by omega⟩⟩
 have hv:i<vs.length:=by omega
 refine⟨⟨vs,vs[i],s,gE0 hv⟩,λx H' y=>?_⟩
 obtain⟨rfl,y⟩:=y
 obtain⟨d,h1,h2⟩:=l.get (y vs s)
 exact⟨Ext.refl _ _,w,⟨vs,s,l⟩,d,h1,h2⟩
theorem zXT{a:Addr}{ds:List MV}:ItM X.g (Itt X.K a) (λα S H=> ∃vs,SqT X.K H a vs/\DenL X.K α H ds vs) ds:=by
 intro i α S H ⟨vs,s,l⟩ w
 have hl:=l.length
 refine⟨λhi=>?_,λhi=>⟨vs,s,by omega⟩⟩
 have hv:i<vs.length:=by omega
 refine⟨⟨vs,vs[i],s,gE0 hv⟩,λx H' y=>?_⟩
 obtain⟨rfl,y⟩:=y
 obtain⟨d,h1,h2⟩:=l.get (y vs s)
 exact⟨Ext.refl _ _,w,⟨vs,s,l⟩,d,h1,h2⟩
theorem yHW{x:List Nat}:ItM X.g (Its x) (λ_ _ _=>True) (x.map λc=>.str [c]):=by
 intro i α S H _ w
 refine⟨λhi=>⟨show i<x.length by simpa using hi,λv H' y=>?_⟩,λhi=>by show x.length<=i;simpa using hi⟩
 obtain⟨rfl,c,h1,h2⟩:=y
 refine⟨Ext.refl _ _,w,trivial,.str [c],by rw [getElem?_map,h1];rfl,?_⟩
 rw [h2]
 exact nV [c]
theorem zOW{lo:Int}{n:Nat}:ItM X.g (Itr lo n) (λ_ _ _=>True) ((List.range n).map λk=>.int (lo+(k:Nat))):=by
 intro i α S H _ w
 refine⟨λhi=>⟨show i<n by simpa using hi,λv H' y=>?_⟩,λhi=>by show n<=i;simpa using hi⟩
 obtain⟨rfl,y⟩:=y
 have hi':i<n:=by simpa using hi
 refine⟨Ext.refl _ _,w,trivial,.int (lo+i),by rw [getElem?_map,List.getElem?_range hi'];rfl,?_⟩
 rw [y]
 exact xN _
def itL:Er->Sto->R Wk
 |.new ds,S=>.ok ⟨ds,[]⟩ S
 |.val (.scr ds),S=>.ok ⟨ds,[]⟩ S
 |.val (.loc l),S=>match S[l]? with
  |some (.lst ds)=>.ok ⟨ds,[(l,ds)]⟩ S
  |_=>.no
 |_,_=>.no
theorem jO{S:Sto}:stay [] S:=λp h=>by simp at h
theorem wO(he:PEm X W iter f):PIm X W tg iter (λρ S=>(f ρ S).bind itL):=by
 obtain⟨t,he,k⟩:=he
 refine⟨_,yHA he,λα ρ S σ H Rc wd sl q=>k α ρ S σ H _ wd sl (q.bind λu p S1 α1 H1 e x1 w1 d1 q1=>?_)⟩
 replace q1:=q1.shift x1
 unfold itL at q1
 split at q1
 ·rename_i S0 ds
  obtain⟨⟨b,vs,rfl,h1,h2,h3⟩,h4⟩:=d1
  refine⟨b,rfl,⟨vs,.of h1⟩,q1.here (u:=Itl X.K b) w1 ⟨λα2 S2 H2=> ∃vs,SqL X.K H2 b vs/\DenL X.K α2 H2 ds vs/\H2 b=some (.lst vs)/\b∉α2,?_,⟨vs,.of h1,h3,h1,h2⟩,?_,jO⟩⟩
  ·intro i α2 S2 H2 ⟨vs2,a1,a2,a3,a4⟩ w2
   obtain⟨i1,i2⟩:=zHQ (X:=X) (a:=b) (ds:=ds) i α2 S2 H2 ⟨vs2,a1,a2⟩ w2
   refine⟨λhi=>⟨(i1 hi).1,λx H' y=>?_⟩,i2⟩
   obtain⟨j1,j2,j3,j4⟩:=(i1 hi).2 x H' y
   obtain⟨rfl,_⟩:=y
   exact⟨j1,j2,⟨vs2,a1,a2,a3,a4⟩,j4⟩
  ·intro α2 S2 H2 α3 S3 H3 ⟨vs2,a1,a2,a3,a4⟩ x w3 _
   exact⟨vs2,.of (x.keep b _ a3 a4),a2.ext x,x.keep b _ a3 a4,x.out a3 a4⟩
 ·rename_i S0 ds
  obtain⟨a,vs,rfl,s,l⟩:=zLZ d1.1
  refine⟨a,rfl,⟨vs,s.l⟩,q1.here (u:=Itl X.K a) w1 ⟨λα2 S2 H2=> ∃vs,SqL X.K H2 a vs/\DenL X.K α2 H2 ds vs/\SqF X.K H2 a vs,?_,⟨vs,s.l,l,s⟩,?_,jO⟩⟩
  ·intro i α2 S2 H2 ⟨vs2,a1,a2,a3⟩ w2
   obtain⟨i1,i2⟩:=zHQ (X:=X) (a:=a) (ds:=ds) i α2 S2 H2 ⟨vs2,a1,a2⟩ w2
   refine⟨λhi=>⟨(i1 hi).1,λx H' y=>?_⟩,i2⟩
   obtain⟨j1,j2,j3,j4⟩:=(i1 hi).2 x H' y
   obtain⟨rfl,_⟩:=y
   exact⟨j1,j2,⟨vs2,a1,a2,a3⟩,j4⟩
  ·intro α2 S2 H2 α3 S3 H3 ⟨vs2,a1,a2,a3⟩ x w3 _
   exact⟨vs2,(x.sqF a3).l,a2.ext x,x.sqF a3⟩
 ·rename_i S0 n
  obtain⟨a,rfl,h⟩:=zCF d1.1
  obtain⟨o,h1,h2⟩:=w1.of h
  rw [h1]at q1
  cases o with
  |lst ds=>
   obtain⟨vs,h3,l⟩:=h2
   refine⟨a,rfl,⟨vs,.of h3⟩,Post.here (b:=(⟨ds,[(n,ds)]⟩:Wk)) q1 (u:=Itl X.K a) w1 ⟨λα2 S2 H2=> ∃vs,SqL X.K H2 a vs/\DenL X.K α2 H2 ds vs/\α2[n]? =some a,?_,⟨vs,.of h3,l,h⟩,?_,?_⟩⟩
   ·intro i α2 S2 H2 ⟨vs2,a1,a2,a3⟩ w2
    obtain⟨i1,i2⟩:=zHQ (X:=X) (a:=a) (ds:=ds) i α2 S2 H2 ⟨vs2,a1,a2⟩ w2
    refine⟨λhi=>⟨(i1 hi).1,λx H' y=>?_⟩,i2⟩
    obtain⟨j1,j2,j3,j4⟩:=(i1 hi).2 x H' y
    obtain⟨rfl,_⟩:=y
    exact⟨j1,j2,⟨vs2,a1,a2,a3⟩,j4⟩
   ·intro α2 S2 H2 α3 S3 H3 ⟨vs2,a1,a2,a3⟩ x w3 hs
    have a3':=x.at a3
    have:=w3.obj n a _ a3' (hs (n,ds) (by simp))
    obtain⟨vs3,b1,b2⟩:=this
    exact⟨vs3,.of b1,b2,a3'⟩
   ·intro p hp
    have:p=(n,ds):=by simpa using hp
    subst this
    exact h1
  |dic ds=>exact q1.elim
  |ins c fs=>exact q1.elim
 ·exact q1.elim
def itT:Er->Sto->R Wk
 |.val (.tup ds),S=>.ok ⟨ds,[]⟩ S
 |_,_=>.no
theorem zMB(he:PEm X W iter f):PIm X W tg iter (λρ S=>(f ρ S).bind itT):=by
 obtain⟨t,he,k⟩:=he
 refine⟨_,yMP he,λα ρ S σ H Rc wd sl q=>k α ρ S σ H _ wd sl (q.bind λu p S1 α1 H1 e x1 w1 d1 q1=>?_)⟩
 replace q1:=q1.shift x1
 unfold itT at q1
 split at q1
 ·rename_i S0 ds
  obtain⟨a,vs,rfl,s,l⟩:=zAJ d1.1
  exact⟨a,rfl,⟨vs,s⟩,q1.here (u:=Itt X.K a) w1 ⟨_,zXT,⟨vs,s,l⟩,λα2 S2 H2 α3 S3 H3 ⟨vs2,a1,a2⟩ x w3 _=>⟨vs2,x.sqT a1,a2.ext x⟩,jO⟩⟩
 ·exact q1.elim
def itS:Er->Sto->R Wk
 |.val (.str x),S=>.ok ⟨x.map λc=>.str [c],[]⟩ S
 |_,_=>.no
theorem yNV(he:PEm X W iter f):PIm X W tg iter (λρ S=>(f ρ S).bind itS):=by
 obtain⟨t,he,k⟩:=he
 refine⟨_,yNK he,λα ρ S σ H Rc wd sl q=>k α ρ S σ H _ wd sl (q.bind λu p S1 α1 H1 e x1 w1 d1 q1=>?_)⟩
 replace q1:=q1.shift x1
 unfold itS at q1
 split at q1
 ·rename_i S0 x
  exact⟨x,bY d1.1,q1.here (u:=Its x) w1 ⟨_,yHW,trivial,λ_ _ _ _ _ _ _ _ _ _=>trivial,jO⟩⟩
 ·exact q1.elim
def gE:List Er->Sto->R Wk
 |[.val (.int j)],S=>if -(2 ^ 62)<=j/\j<2 ^ 62 then .ok ⟨(List.range j.toNat).map λk=>.int (k:Nat),[]⟩ S else .no
 |_,_=>.no
def zTC:List Er->Sto->R Wk
 |[.val (.int i),.val (.int j)],S=>if -(2 ^ 62)<=i/\i<2 ^ 62/\ -(2 ^ 62)<=j/\j<2 ^ 62 then .ok ⟨(List.range (j - i).toNat).map λk=>.int (i+(k:Nat)),[]⟩ S else .no
 |_,_=>.no
variable{af:Rho->Sto->R (List Er)}{p:Pos}{a b:Expr}
theorem zXU{K:PySem.W.Frag}{H0:Hp}{α:List Addr}{H:Hp}{r:Er}{vs:List V}(d:ArgsE K H0 α H [r] vs): ∃v,vs=[v]/\DenX K α H r v:=by
 cases d with
 |cons a n l=>cases l;exact⟨_,rfl,a.1⟩
theorem args2{K:PySem.W.Frag}{H0:Hp}{α:List Addr}{H:Hp}{r r':Er}{vs:List V}(d:ArgsE K H0 α H [r,r'] vs): ∃v u,vs=[v,u]/\DenX K α H r v/\DenX K α H r' u:=by
 cases d with
 |cons a n l=>obtain⟨u,rfl,l'⟩:=zXU l;exact⟨_,u,rfl,a.1,l'⟩
theorem xC(hg:Gl X "range")(hm:X.mg "range"=none)(ha:PAm X W [a] af)(hs:starEach [a] X.env=[(false,eval a X.env)]:=by rfl):PIm X W tg (.Call (.Name "range" p) [a] [] pos) (λρ S=>(af ρ S).bind gE):=by
 obtain⟨t,ha,k⟩:=ha
 refine⟨_,yAH hg hm ha hs,λα ρ S σ H Rc wd sl q=>k α ρ S σ H _ wd sl (q.bind λvs rs S1 α1 H1 e x1 w1 d1 q1=>?_)⟩
 replace q1:=q1.shift x1
 unfold gE at q1
 split at q1
 ·split at q1
  ·rename_i S0 j hj
   obtain⟨v,rfl,dv⟩:=zXU d1
   cases yX dv
   have:=zOW (X:=X) (lo:=0) (n:=j.toNat)
   simp only [Int.zero_add]at this
   exact⟨j,rfl,hj.1,hj.2,q1.here (u:=Itr 0 j.toNat) w1 ⟨_,this,trivial,λ_ _ _ _ _ _ _ _ _ _=>trivial,jO⟩⟩
  ·exact q1.elim
 ·exact q1.elim
theorem yAW(hg:Gl X "range")(hm:X.mg "range"=none)(ha:PAm X W [a,b] af)(hs:starEach [a,b] X.env=[(false,eval a X.env),(false,eval b X.env)]:=by rfl)(hs2:starEach [b] X.env=[(false,eval b X.env)]:=by rfl):PIm X W tg (.Call (.Name "range" p) [a,b] [] pos) (λρ S=>(af ρ S).bind zTC):=by
 obtain⟨t,ha,k⟩:=ha
 refine⟨_,yAI hg hm ha hs hs2,λα ρ S σ H Rc wd sl q=>k α ρ S σ H _ wd sl (q.bind λvs rs S1 α1 H1 e x1 w1 d1 q1=>?_)⟩
 replace q1:=q1.shift x1
 unfold zTC at q1
 split at q1
 ·split at q1
  ·rename_i S0 i j hj
   obtain⟨v,u,rfl,dv,du⟩:=args2 d1
   cases yX dv
   cases yX du
   exact⟨i,j,rfl,hj,q1.here (u:=Itr i (j - i).toNat) w1 ⟨_,zOW,trivial,λ_ _ _ _ _ _ _ _ _ _=>trivial,jO⟩⟩
  ·exact q1.elim
 ·exact q1.elim
open Classical in
noncomputable def wK(gf:MV->Rho->Sto->R Rho)(body:AY)(gs:List (Nat×List MV)):List MV->AY
 |[],ρ,S=>.ok (.next ρ) S
 |d::ds,ρ,S=>(gf d ρ S).bind λρ0 S0=>(body ρ0 S0).bind λfl S1=>match fl with
  |.next ρ'=>if stay gs S1 then wK gf body gs ds ρ' S1 else .no
  |.cont ρ'=>if stay gs S1 then wK gf body gs ds ρ' S1 else .no
  |.brk ρ'=>.ok (.next ρ') S1
  |.ret r=>.ok (.ret r) S1
open Classical in
theorem xD{itf:Rho->Sto->R Wk}{gf:MV->Rho->Sto->R Rho}(hp:PassesOwn (model X.prog X.w) X.A X.env X.xe)(hc:X.calm=true)(hi:PIm X W tg iter itf)(hg:PGm X W tg gf)(hb:zQL X W as F)
  (hs: ∀y,foldedSetIterable iter X.env y=pure y:=by intro _;rfl):PSm X W (.For tg iter as [] pos) (λρ S=>(itf ρ S).bind λk S1=>wK gf F k.gs k.ds ρ S1):=by
 obtain⟨wi,hi,ki⟩:=hi
 obtain⟨tg',hg,kg⟩:=hg
 obtain⟨tb,hb,kb⟩:=hb
 refine⟨_,yMQ hp hc hi hg hb hs,λα ρ S σ H D wd sl q=>ki α ρ S σ H _ wd sl (q.expr λJ k S1 α1 H1 e x1 w1 d1 q1=>?_)⟩
 obtain⟨P,hP⟩:=d1
 have sl1:=sl.ext x1
 replace q1:=PostS.shift x1 q1
 refine⟨λn m σ2 H2=>m=k.ds.length - n/\n<=k.ds.length/\ ∃α2 ρ2 S2,Wd X.g α2 S2 H2/\Slots X.K α2 H2 ρ2 σ2/\P α2 S2 H2/\PostS X.g W α2 H2 D (wK gf F k.gs (k.ds.drop n) ρ2 S2),⟨_,rfl,zero_le _,α1,ρ,S1,w1,sl1,hP.here,by simpa using q1⟩,?_⟩
 rintro n m σ2 H2 ⟨rfl,hn,α2,ρ2,S2,w2,sl2,p2,q2⟩
 obtain⟨i1,i2⟩:=hP.it n α2 S2 H2 p2 w2
 by_cases hlt:n<k.ds.length
 ·obtain⟨go,yl⟩:=i1 hlt
  refine .inr ⟨go,λσ3 H3=> ∃α3 ρ3 S3,Wd X.g α3 S3 H3/\Slots X.K α3 H3 ρ3 σ3/\P α3 S3 H3/\PostS X.g W α3 H3 D (wK gf F k.gs (k.ds.drop (n+1)) ρ3 S3),λσ3 H3 ⟨α3,ρ3,S3,h3⟩=>⟨k.ds.length - (n+1),by omega,rfl,hlt,α3,ρ3,S3,h3⟩,λv H3 y=>?_⟩
  obtain⟨x3,w3,p3,d,hd,dv⟩:=yl v H3 y
  have hdrop:k.ds.drop n=d::k.ds.drop (n+1):=by
   rw [drop_eq_getElem_cons hlt]
   have:=gE0 hlt
   rw [hd]at this
   rw [<-Option.some.inj this]
  rw [hdrop]at q2
  unfold wK at q2
  replace q2:=PostS.shift x3 q2
  refine kg α2 ρ2 S2 σ2 H3 d v _ w3 (sl2.ext x3) dv (q2.expr λσ4 ρ4 S4 α4 H4 e4 x4 w4 s4 q4=>?_)
  have p4: ∀α5 S5 H5,Ext α4 H4 α5 H5->Wd X.g α5 S5 H5->stay k.gs S5->P α5 S5 H5:=λα5 S5 H5 x5 w5 s5=>hP.stays α2 S2 H3 α5 S5 H5 p3 (x4.trans x5) w5 s5
  refine kb α4 ρ4 S4 σ4 H4 _ w4 s4 ((PostS.shift x4 q4).stmt ?_ ?_ ?_ ?_)
  ·intro ρ5 S5 σ5 α5 H5 e5 x5 w5 s5 q5
   have q5':PostS X.g W α4 H4 D (if stay k.gs S5 then wK gf F k.gs (k.ds.drop (n+1)) ρ5 S5 else .no):=q5
   split at q5'
   ·rename_i hst
    exact⟨α5,ρ5,S5,w5,s5,p4 α5 S5 H5 x5 w5 hst,PostS.shift x5 q5'⟩
   ·exact q5'.elim
  ·intro r S5 v5 α5 H5 e5 x5 w5 d5 q5
   exact q5 v5 α5 H5 x5 w5 d5
  ·intro ρ5 S5 σ5 α5 H5 e5 x5 w5 s5 q5
   exact q5 σ5 α5 H5 x5 w5 s5
  ·intro ρ5 S5 σ5 α5 H5 e5 x5 w5 s5 q5
   have q5':PostS X.g W α4 H4 D (if stay k.gs S5 then wK gf F k.gs (k.ds.drop (n+1)) ρ5 S5 else .no):=q5
   split at q5'
   ·rename_i hst
    exact⟨α5,ρ5,S5,w5,s5,p4 α5 S5 H5 x5 w5 hst,PostS.shift x5 q5'⟩
   ·exact q5'.elim
 ·have e:n=k.ds.length:=by omega
  subst e
  refine .inl ⟨i2 (le_refl _),?_⟩
  rw [List.drop_length]at q2
  exact q2 σ2 α2 H2 (Ext.refl _ _) w2 sl2
def gB(t:AZ)(b:AY):Nat->AY
 |0,_,_=>.no
 |n+1,ρ,S=>(t ρ S).bind λk S1=>if k=true then(b ρ S1).bind λfl S2=>match fl with
   |.next ρ'=>gB t b n ρ' S2
   |.cont ρ'=>gB t b n ρ' S2
   |.brk ρ'=>.ok (.next ρ') S2
   |.ret r=>.ok (.ret r) S2
  else .ok (.next ρ) S1
theorem zTD(N:Nat)(hp:PassesOwn (model X.prog X.w) X.A X.env X.xe)(hc:PTm X W c tf)(hb:zQL X W as F):PSm X W (.While c as [] pos) (λρ S=>gB tf F N ρ S):=by
 obtain⟨tc,hc,kc⟩:=hc
 obtain⟨tb,hb,kb⟩:=hb
 refine⟨_,yCG hp hc hb,λα ρ S σ H D wd sl q=>⟨λm σ1 H1=> ∃α1 ρ1 S1,Wd X.g α1 S1 H1/\Slots X.K α1 H1 ρ1 σ1/\PostS X.g W α1 H1 D (gB tf F m ρ1 S1),⟨N,α,ρ,S,wd,sl,q⟩,?_⟩⟩
 rintro m σ1 H1 ⟨α1,ρ1,S1,w1,sl1,q1⟩
 cases m with
 |zero=>exact q1.elim
 |succ n=>
  unfold gB at q1
  refine kc α1 ρ1 S1 σ1 H1 _ w1 sl1 (q1.expr λu p S2 α2 H2 e2 x2 w2 d2 q2=>?_)
  cases d2
  replace q2:=PostS.shift x2 q2
  cases u with
  |false=>rw [iN xF0]at q2 ⊢; exact q2 σ1 α2 H2 (Ext.refl _ _) w2 (sl1.ext x2)
  |true=>
   rw [iP rfl]at q2 ⊢
   refine⟨λσ3 H3=> ∃α3 ρ3 S3,Wd X.g α3 S3 H3/\Slots X.K α3 H3 ρ3 σ3/\PostS X.g W α3 H3 D (gB tf F n ρ3 S3),λσ' H' h=>⟨n,Nat.lt_succ_self n,h⟩,kb α2 ρ1 S2 σ1 H2 _ w2 (sl1.ext x2) (q2.stmt ?_ ?_ ?_ ?_)⟩
   ·intro ρ5 S5 σ5 α5 H5 e5 x5 w5 s5 q5
    exact⟨α5,ρ5,S5,w5,s5,PostS.shift x5 q5⟩
   ·intro r S5 v5 α5 H5 e5 x5 w5 d5 q5
    exact q5 v5 α5 H5 x5 w5 d5
   ·intro ρ5 S5 σ5 α5 H5 e5 x5 w5 s5 q5
    exact q5 σ5 α5 H5 x5 w5 s5
   ·intro ρ5 S5 σ5 α5 H5 e5 x5 w5 s5 q5
    exact⟨α5,ρ5,S5,w5,s5,PostS.shift x5 q5⟩
end
def noX{β:Type}:R β->R β
 |.ok b S=>.ok b S
 |_=>.no
theorem yY{β:Type}(b:β)(S:Sto):noX (R.ok b S)=.ok b S:=rfl
theorem Post.bindY{β τ γ υ:Type}[Dn β τ][Dn γ υ]{g:Gm}{W:XW}{α α':List Addr}{H H':Hp}(x:Ext α H α' H'){m:R β}{k:β->Sto->R γ}{Q:υ->Hp->Prop}{Q':τ->Hp->Prop}(q:Post g W α H ((noX m).bind k) Q)
  (f: ∀u b S1 α1 H1,m=.ok b S1->Ext α' H' α1 H1->Wd g α1 S1 H1->Dn.d g H' α1 S1 H1 b u->Post g W α H (k b S1) Q->Q' u H1):Post g W0 α' H' m Q':=by
 cases m with
 |ok b S=>exact λu α1 H1 x w d=>f u b S α1 H1 rfl x w d q
 |exc c fs S=>exact q.elim
 |no=>exact q
theorem R.bind_assoc{β γ δ:Type}(m:R β)(k1:β->Sto->R γ)(k2:γ->Sto->R δ):(m.bind k1).bind k2=m.bind λb S=>(k1 b S).bind k2:=by cases m<;>rfl
def blk(nt:Nat)(idx:List Nat)(ρ:Rho):Rho:=List.replicate nt none++idx.map λi=>(ρ[i]?).join
open Classical in
noncomputable def xE(gf:MV->Rho->Sto->R Rho)(cf:AZ)(ef:AX)(ρb:Rho)(gs:List (Nat×List MV)):List MV->Sto->R (List MV)
 |[],S=>.ok [] S
 |d::ds,S=>(noX (gf d ρb S)).bind λρ1 S0=>(noX (cf ρ1 S0)).bind λk S1=>
  if k=true then(noX (ef ρ1 S1)).bind λr S2=>(dR r S2).bind λy S3=>if stay gs S3 then(xE gf cf ef ρb gs ds S3).bind λout S4=>.ok (y::out) S4 else .no
  else if stay gs S1 then xE gf cf ef ρb gs ds S1 else .no
theorem yAX{K:PySem.W.Frag}{α:List Addr}{H:Hp}{ρ:Rho}{σ:St}(q:Slots K α H ρ σ)(nt:Nat)(idx:List Nat)(τ:St)(hτ:τ.length=nt):Slots K α H (blk nt idx ρ) (τ++zIS σ idx):=by
 refine⟨by unfold blk;rw [lA,lA,zBS,lM,length_replicate,hτ],λi d e=>?_⟩
 unfold blk at e
 by_cases hi:i<nt
 ·rw [getElem?_append_left (by rw [length_replicate];exact hi),List.getElem?_replicate]at e
  split at e<;>cases e
 ·rw [getElem?_append_right (by rw [length_replicate];omega),length_replicate,getElem?_map]at e
  cases z:idx[i - nt]? with
  |none=>rw [z]at e;cases e
  |some k=>
   rw [z]at e
   have e2:(ρ[k]?).join=some d:=Option.some.inj e
   cases z2:ρ[k]? with
   |none=>rw [z2]at e2;cases e2
   |some o=>
    rw [z2]at e2
    have e3:o=some d:=e2
    subst e3
    obtain⟨v,h1,h2⟩:=q.slot k d z2
    refine⟨v,?_,h2⟩
    rw [getElem?_append_right (by omega),hτ]
    unfold zIS
    rw [getElem?_map,z]
    show some (σ[k]?).join=some (some v)
    rw [h1];rfl
def Keeps(nt:Nat)(σ:St)(Q:St->Hp->Prop):St->Hp->Prop:=λσ' H'=>σ'.length=σ.length->(∀j,nt<=j->σ'[j]? =σ[j]?)->Q σ' H'
def PGn(nt:Nat)(X:Cx)(W:XW)(tg:Expr)(gf:MV->Rho->Sto->R Rho):Prop:=
 ∃t,PG X tg t/\ ∀α ρ S σ H d v Q,Wd X.g α S H->Slots X.K α H ρ σ->Den X.K α H d v->Post X.g W α H (gf d ρ S) (Keeps nt σ Q)->t v σ H Q
section
variable{X:Cx}{W:XW}{e:Expr}{pos:Pos}{nt:Nat}
theorem kC(i:Nat){x:Str}(hN:X.N.Nodup)(hi:X.N[i]? =some x:=by rfl)(hx:Loc X.env.scope x:=by first |exact Or.inl rfl|exact Or.inr rfl)(hf:X.fn x=true\/X.env.scope.names.lookup x=some .local:=by first |exact .inl rfl|exact .inr rfl|assumption)(hlt:i<nt:=by decide):
  PGn nt X W (.Name x pos) (gNm i):=⟨_,zXJ hN hi hx hf,λα ρ S σ H d v Q wd sl de q=>Post.here (b:=ρ.set i (some d)) q wd (sl.set de) (by rw [length_set]) λj hj=>by rw [getElem?_set_ne (by omega)]⟩
end
abbrev yDA(X:Cx)(W:XW)(ifs:List Expr)(f:AZ):Prop:=Jd X W (yAS X ifs) f
section
variable{X:Cx}{W:XW}{iter:Expr}{c:Expr}{tf:AZ}{pos:Pos}
theorem zBT:yDA X W [] (λ_ S=>.ok true S):=⟨_,yCQ,λα ρ S σ H Q wd sl q=>q.here wd rfl⟩
theorem zGA(h:PTm X W c tf):yDA X W [c] tf:=let ⟨t,h,k⟩:=h;⟨t,yCR h,k⟩
open Classical in
theorem zXV{elt tg:Expr}{ifs:List Expr}{sc:Scope}{itf:Rho->Sto->R Wk}{cf:AZ}{ef:AX}{gf:MV->Rho->Sto->R Rho}(osc:Scope)(N:List Str)(T:List Str)(idx:List Nat)
  (hi:PIm X W tg iter itf) (hcalm:X.calm=true)
  (hg: ∀C s₂ H1 fp,([]++T++idx.map λi=>(N[i]?).getD Str.empty).Nodup->PGn T.length (yA X sc T idx C s₂ H1 fp) W0 tg gf)
  (hc: ∀C s₂ H1 fp,yDA (yA X sc T idx C s₂ H1 fp) W0 ifs cf) (he: ∀C s₂ H1 fp,PEm (yA X sc T idx C s₂ H1 fp) W0 elt ef)
  (e1:X.env.scope=osc:=by rfl) (e2:X.N=N:=by rfl) (hB:zKC osc N sc idx=true:=by decide+kernel) (hN:([]++T++idx.map λi=>(N[i]?).getD Str.empty).Nodup:=by decide+kernel)
  (hs: ∀y,foldedSetIterable iter X.env y=pure y:=by intro _;rfl):
  Jd (β:=Er) (τ:=V) X W (λt=>PE X (.ListComp elt [⟨tg,iter,ifs,0⟩] sc pos) t/\PU X (.ListComp elt [⟨tg,iter,ifs,0⟩] sc pos) t) (λρ S=>(itf ρ S).bind λk S1=>if k.ds.length<1000000 then(xE gf cf ef (blk T.length idx ρ) k.gs k.ds S1).bind λout S2=>.ok (.new out) S2 else .no):=by
 obtain⟨wi,hi,ki⟩:=hi
 subst e1 e2
 have big:(1000000:Nat)<sizeLine:=by rw [sizeLine_eq];decide
 have hg': ∃t,(∀C s₂ H1 fp,PG (yA X sc T idx C s₂ H1 fp) tg t)/\ ∀α ρ S σ H d v Q,Wd X.g α S H->Slots X.K α H ρ σ->Den X.K α H d v->Post X.g W0 α H (gf d ρ S) (Keeps T.length σ Q)->t v σ H Q:=by
  refine⟨λv σ H Q=> ∃α ρ S d,Wd X.g α S H/\Slots X.K α H ρ σ/\Den X.K α H d v/\Post X.g W0 α H (gf d ρ S) (Keeps T.length σ Q),λC s₂ H1 fp pins s σ H v u Q I r ⟨α,ρ,S,d,h1,h2,h3,h4⟩=>?_,λα ρ S σ H d v Q h1 h2 h3 h4=>⟨α,ρ,S,d,h1,h2,h3,h4⟩⟩
  obtain⟨t,ht,kt⟩:=hg C s₂ H1 fp hN
  exact ht pins s σ H v u Q I r (kt α ρ S σ H d v Q h1 h2 h3 h4)
 obtain⟨tg',hg1,kg⟩:=hg'
 refine⟨_,⟨yHO T idx hi hcalm hB hg1 (λC s₂ H1 fp=>(Classical.choose_spec (hc C s₂ H1 fp)).1) (λC s₂ H1 fp=>(Classical.choose_spec (he C s₂ H1 fp)).1) hs,yHR T idx hi hcalm hB hg1 (λC s₂ H1 fp=>(Classical.choose_spec (hc C s₂ H1 fp)).1) (λC s₂ H1 fp=>(Classical.choose_spec (he C s₂ H1 fp)).1) hs⟩,λα ρ S σ H Q wd sl q=>ki α ρ S σ H _ wd sl (q.bind λJ k S1 α1 H1 e1 x1 w1 d1 q1=>?_)⟩
 obtain⟨P,hP⟩:=d1
 split at q1
 ·rename_i hlen
  refine⟨λn m ys H2=>m=k.ds.length - n/\n<=k.ds.length/\ys.length<=n/\ ∃α2 S2,Ext α H α2 H2/\Wd X.g α2 S2 H2/\P α2 S2 H2/\ ∃outs,DenL X.K α2 H2 outs ys/\Post X.g W α H ((xE gf cf ef (blk T.length idx ρ) k.gs (k.ds.drop n) S2).bind λo S'=>.ok (Er.new (outs++o)) S') Q,
   ⟨_,rfl,zero_le _,le_refl _,α1,S1,x1,w1,hP.here,[],yI,by simpa using q1⟩,?_⟩
  rintro n m ys H2 ⟨rfl,hn,hy,α2,S2,x2,w2,p2,outs,l,q2⟩
  obtain⟨i1,i2⟩:=hP.it n α2 S2 H2 p2 w2
  refine⟨by omega,?_⟩
  by_cases hlt:n<k.ds.length
  ·obtain⟨go,yl⟩:=i1 hlt
   refine .inr ⟨go,by omega,λv H3 y τ hτ=>?_⟩
   obtain⟨x3,w3,p3,d,hd,dv⟩:=yl v H3 y
   have hdrop:k.ds.drop n=d::k.ds.drop (n+1):=by
    rw [drop_eq_getElem_cons hlt]
    have:=gE0 hlt
    rw [hd]at this
    rw [<-Option.some.inj this]
   rw [hdrop]at q2
   unfold xE at q2
   have slb:=yAX (sl.ext (x2.trans x3)) T.length idx τ hτ
   refine kg α2 (blk T.length idx ρ) S2 _ H3 d v _ w3 slb dv ?_
   rw [R.bind_assoc]at q2
   refine q2.bindY (x2.trans x3) λσ4 ρ4 S4 α4 H4 e4 x4 w4 s4 q4 len4 kp4=>⟨⟨σ4.take T.length,?_,?_⟩,λC s₂ fp=>?_⟩
   ·refine List.ext_getElem? λj=>?_
    have hl4:σ4.length=T.length+idx.length:=by rw [len4,lA,zBS,hτ]
    by_cases hj:j<T.length
    ·rw [getElem?_append_left (by rw [lT];omega),getElem?_take_of_lt hj]
    ·rw [kp4 j (by omega),getElem?_append_right (by omega),getElem?_append_right (by rw [lT];omega),hτ,lT,min_eq_left (by omega)]
   ·rw [lT,len4,lA,zBS,hτ];omega
   have x34:Ext α H α4 H4:=(x2.trans x3).trans x4
   have p4: ∀α5 S5 H5,Ext α4 H4 α5 H5->Wd X.g α5 S5 H5->stay k.gs S5->P α5 S5 H5:=λα5 S5 H5 x5 w5 s5=>hP.stays α2 S2 H3 α5 S5 H5 p3 (x4.trans x5) w5 s5
   rw [R.bind_assoc]at q4
   refine(Classical.choose_spec (hc C s₂ H1 fp)).2 α4 ρ4 S4 σ4 H4 _ w4 s4 (q4.bindY x34 λb5 b5' S5 α5 H5 e5 x5 w5 d5 q5=>?_)
   cases d5
   cases b5 with
   |false=>
    rw [iN xF0]at q5 ⊢
    split at q5
    ·rename_i hst
     exact⟨k.ds.length - (n+1),by omega,rfl,hlt,by omega,α5,S5,x34.trans x5,w5,p4 α5 S5 H5 x5 w5 hst,outs,(l.ext (x3.trans x4)).ext x5,q5⟩
    ·exact q5.elim
   |true=>
    rw [iP rfl,R.bind_assoc]at q5
    rw [iP rfl]
    refine(Classical.choose_spec (he C s₂ H1 fp)).2 α5 ρ4 S5 σ4 H5 _ w5 (s4.ext x5) (q5.bindY (x34.trans x5) λy6 r6 S6 α6 H6 e6 x6 w6 d6 q6=>?_)
    obtain⟨d',S',α',e7,x7,y7,w7,de⟩:=zCU w6 x6 d6
    rw [e7]at q6
    have q6:Post X.g W α H ((if stay k.gs S' then(xE gf cf ef (blk T.length idx ρ) k.gs (k.ds.drop (n+1)) S').bind λout S4=>.ok (d'::out) S4 else .no).bind λo S'=>.ok (Er.new (outs++o)) S') Q:=q6
    split at q6
    ·rename_i hst
     refine⟨k.ds.length - (n+1),by omega,rfl,hlt,by rw [lA,lS];omega,α',S',(x34.trans x5).trans x7,w7,p4 α' S' H6 (x5.trans x7) w7 hst,outs++[d'],((l.ext (x3.trans x4)).ext (x5.trans x7)).append (yG de yI),?_⟩
     rw [R.bind_assoc]at q6
     have e8:(λ(o:List MV) (S':Sto)=>R.ok (Er.new ((outs++[d'])++o)) S')=(λ(b:List MV) S=>(R.ok (d'::b) S).bind λo S'=>.ok (Er.new (outs++o)) S'):=by
      funext o S'
      show _=R.ok (Er.new (outs++(d'::o))) S'
      rw [aA];rfl
     rw [e8]
     exact q6
    ·exact q6.elim
  ·have e:n=k.ds.length:=by omega
   subst e
   rw [List.drop_length]at q2
   have q3:Post X.g W α H (.ok (Er.new (outs++[])) S2) Q:=q2
   rw [aN]at q3
   exact .inl ⟨i2 (le_refl _),λD hD=>(q3.shift x2).newl w2 hD l⟩
 ·exact q1.elim
open Classical in
theorem cV{elt tg:Expr}{ifs:List Expr}{sc:Scope}{itf:Rho->Sto->R Wk}{cf:AZ}{ef:AX}{gf:MV->Rho->Sto->R Rho}(osc:Scope)(N:List Str)(T:List Str)(idx:List Nat)
  (hi:PIm X W tg iter itf) (hcalm:X.calm=true)
  (hg: ∀C s₂ H1 fp,([]++T++idx.map λi=>(N[i]?).getD Str.empty).Nodup->PGn T.length (yA X sc T idx C s₂ H1 fp) W0 tg gf)
  (hc: ∀C s₂ H1 fp,yDA (yA X sc T idx C s₂ H1 fp) W0 ifs cf) (he: ∀C s₂ H1 fp,PEm (yA X sc T idx C s₂ H1 fp) W0 elt ef)
  (e1:X.env.scope=osc:=by rfl) (e2:X.N=N:=by rfl) (hB:zKC osc N sc idx=true:=by decide+kernel) (hN:([]++T++idx.map λi=>(N[i]?).getD Str.empty).Nodup:=by decide+kernel)
  (hs: ∀y,foldedSetIterable iter X.env y=pure y:=by intro _;rfl):
  PEm X W (.ListComp elt [⟨tg,iter,ifs,0⟩] sc pos) (λρ S=>(itf ρ S).bind λk S1=>if k.ds.length<1000000 then(xE gf cf ef (blk T.length idx ρ) k.gs k.ds S1).bind λout S2=>.ok (.new out) S2 else .no):=let ⟨t,h,k⟩:=(zXV osc N T idx hi hcalm hg hc he e1 e2 hB hN hs);⟨t,h.1,k⟩
open Classical in
theorem zLB{x:Str}{pos' spos:Pos}(i:Nat)(hNN:X.N.Nodup){elt tg:Expr}{ifs:List Expr}{sc:Scope}{itf:Rho->Sto->R Wk}{cf:AZ}{ef:AX}{gf:MV->Rho->Sto->R Rho}(osc:Scope)(N:List Str)(T:List Str)(idx:List Nat)
  (hi:PIm X W tg iter itf) (hcalm:X.calm=true)
  (hg: ∀C s₂ H1 fp,([]++T++idx.map λi=>(N[i]?).getD Str.empty).Nodup->PGn T.length (yA X sc T idx C s₂ H1 fp) W0 tg gf)
  (hc: ∀C s₂ H1 fp,yDA (yA X sc T idx C s₂ H1 fp) W0 ifs cf) (he: ∀C s₂ H1 fp,PEm (yA X sc T idx C s₂ H1 fp) W0 elt ef)
  (e1:X.env.scope=osc:=by rfl) (e2:X.N=N:=by rfl) (hB:zKC osc N sc idx=true:=by decide+kernel) (hN:([]++T++idx.map λi=>(N[i]?).getD Str.empty).Nodup:=by decide+kernel)
  (hs: ∀y,foldedSetIterable iter X.env y=pure y:=by intro _;rfl)
  (hi2:X.N[i]? =some x:=by rfl) (hx:Loc X.env.scope x:=by first |exact Or.inl rfl|exact Or.inr rfl)
  (hsw:swapsWith (.ListComp elt [⟨tg,iter,ifs,0⟩] sc pos) (some (.Name x pos')) spos.line X.env=pure true:=by with_unfolding_all rfl) (hf:X.fn x=true\/X.env.scope.names.lookup x=some .local:=by first |exact .inl rfl|exact .inr rfl|assumption):
  PSm X W (.Assign [.Name x pos'] (.ListComp elt [⟨tg,iter,ifs,0⟩] sc pos) spos) (λρ S=>((itf ρ S).bind λk S1=>if k.ds.length<1000000 then(xE gf cf ef (blk T.length idx ρ) k.gs k.ds S1).bind λout S2=>.ok (.new out) S2 else .no).bind (zQM ρ i)):=by
 obtain⟨t,h,k⟩:=(zXV osc N T idx hi hcalm hg hc he e1 e2 hB hN hs)
 refine⟨_,h.2 i x pos' spos hNN hi2 hx hf hsw,λα ρ S σ H D wd sl q=>k α ρ S σ H _ wd sl (q.expr λu r S1 α1 H1 e x1 w1 d1 q1=>?_)⟩
 obtain⟨d',S',α',e1,x',y',w',de⟩:=zCU w1 x1 d1
 unfold zQM at q1
 rw [e1]at q1
 exact q1 _ α' H1 x' w' (((sl.ext x1).ex0 y').set de)
end
mutual
def lo(n:Nat):MV->Prop
 |.loc l=>l<n
 |.tup ds=>loL n ds
 |.scr ds=>loL n ds
 |.obj _ _ ds=>loL n ds
 |_=>True
def loL(n:Nat):List MV->Prop
 |[]=>True
 |d::ds=>lo n d/\loL n ds
end
def loO(n:Nat):MO->Prop
 |.lst ds=>loL n ds
 |.dic kvs=> ∀p∈kvs,lo n p.1/\lo n p.2
 |.ins _ fs=> ∀p∈fs,lo n p.2
section
variable{K:PySem.W.Frag}{α t:List Addr}{H:Hp}
mutual
theorem Den.back: ∀{d:MV}{v:V},Den K (α++t) H d v->lo α.length d->Den K α H d v
 |.non,_,q,_=>by cases zAI q;exact zHO
 |.bl _,_,q,_=>by cases zCS q;exact gK _
 |.int _,_,q,_=>by cases xO q;exact xN _
 |.str _,_,q,_=>by cases wC q;exact nV _
 |.typ _,_,q,_=>by cases dQ q;exact yHT _
 |.obj c ns ds,_,q,h=>by
  obtain⟨a,C,dx,vs,o,rfl,e,hn,hc,hl,l⟩:=bW q
  exact yHU e hn hc hl (DenL.back l (by unfold lo at h;exact h))
 |.loc l,_,q,h=>by
  obtain⟨a,rfl,e⟩:=gM q
  have hl:l<α.length:=by unfold lo at h;exact h
  rw [getElem?_append_left hl]at e
  exact zFY e
 |.tup ds,_,q,h=>by
  obtain⟨a,vs,rfl,s,l⟩:=xP q
  exact zDI s (DenL.back l (by unfold lo at h;exact h))
 |.scr ds,_,q,h=>by
  obtain⟨a,vs,rfl,s,l⟩:=bX q
  exact zXQ s (DenL.back l (by unfold lo at h;exact h))
theorem DenL.back: ∀{ds:List MV}{vs:List V},DenL K (α++t) H ds vs->loL α.length ds->DenL K α H ds vs
 |[],_,q,_=>by rw [q.isnil];exact yI
 |d::ds,_,q,h=>by
  obtain⟨v,r,rfl,a,l⟩:=q.uncons
  unfold loL at h
  exact yG (Den.back a h.1) (DenL.back l h.2)
end
mutual
theorem Den.lo: ∀{d:MV}{v:V},Den K α H d v->lo α.length d
 |.non,_,q=>by unfold M.lo;trivial
 |.bl _,_,q=>by unfold M.lo;trivial
 |.int _,_,q=>by unfold M.lo;trivial
 |.str _,_,q=>by unfold M.lo;trivial
 |.typ _,_,q=>by unfold M.lo;trivial
 |.obj c ns ds,_,q=>by
  obtain⟨a,C,dx,vs,o,rfl,e,hn,hc,hl,l⟩:=bW q
  unfold M.lo
  exact DenL.lo l
 |.loc l,_,q=>by
  obtain⟨a,rfl,e⟩:=gM q
  unfold M.lo
  exact(gS0.mp e).1
 |.tup ds,_,q=>by
  obtain⟨a,vs,rfl,s,l⟩:=xP q
  unfold M.lo
  exact DenL.lo l
 |.scr ds,_,q=>by
  obtain⟨a,vs,rfl,s,l⟩:=bX q
  unfold M.lo
  exact DenL.lo l
theorem DenL.lo: ∀{ds:List MV}{vs:List V},DenL K α H ds vs->loL α.length ds
 |[],_,q=>by unfold loL;trivial
 |d::ds,_,q=>by
  obtain⟨v,r,rfl,a,l⟩:=q.uncons
  unfold loL
  exact⟨Den.lo a,DenL.lo l⟩
end
theorem DenK.back: ∀{fs gs},DenK K (α++t) H fs gs->(∀p∈fs,M.lo α.length p.1/\M.lo α.length p.2)->DenK K α H fs gs
 |_,_,.nil,_=>.nil
 |_,_,.cons k a l,h=>.cons k (a.back (h _ mF0).2) (DenK.back l λp hp=>h p (mO _ hp))
theorem KeyD.lo{n:Nat}{k:MV}{k':Key}(h:KeyD k k'):M.lo n k:=by
 unfold KeyD at h
 split at h
 ·unfold M.lo;trivial
 ·unfold M.lo;trivial
 ·exact h.elim
theorem DenK.lo: ∀{fs gs},DenK K α H fs gs-> ∀p∈fs,M.lo α.length p.1/\M.lo α.length p.2
 |_,_,.nil=>λp h=>by simp at h
 |_,_,.cons k a l=>λp h=>(mC.mp h).elim (λe=>by subst e;exact⟨k.lo,a.lo⟩) (DenK.lo l p)
theorem DenN.back: ∀{fs xs},DenN K (α++t) H fs xs->(∀p∈fs,M.lo α.length p.1/\M.lo α.length p.2)->DenN K α H fs xs
 |_,_,.nil,_=>.nil
 |_,_,.cons k e a d r l,h=>.cons k e (a.back (h _ mF0).1) (d.back (h _ mF0).2) r (DenN.back l λp hp=>h p (mO _ hp))
theorem DenN.lo: ∀{fs xs},DenN K α H fs xs-> ∀p∈fs,M.lo α.length p.1/\M.lo α.length p.2
 |_,_,.nil=>λp h=>by simp at h
 |_,_,.cons k e a d r l=>λp h=>(mC.mp h).elim (λz=>by subst z;exact⟨a.lo,d.lo⟩) (DenN.lo l p)
theorem DenF.back: ∀{fs gs},DenF K (α++t) H fs gs->(∀p∈fs,M.lo α.length p.2)->DenF K α H fs gs
 |_,_,.nil,_=>.nil
 |_,_,.cons a l,h=>.cons (a.back (h _ mF0)) (DenF.back l λp hp=>h p (mO _ hp))
theorem DenF.lo: ∀{fs gs},DenF K α H fs gs-> ∀p∈fs,M.lo α.length p.2
 |_,_,.nil=>λp h=>by simp at h
 |_,_,.cons a l=>λp h=>(mC.mp h).elim (λe=>by subst e;exact a.lo) (DenF.lo l p)
theorem ObD.back{g:Gm}{a:Addr}{o:MO}(q:ObD g (α++t) H a o)(h:loO α.length o):ObD g α H a o:=by
 cases o with
 |lst ds=>obtain⟨vs,h1,l⟩:=q;exact⟨vs,h1,l.back h⟩
 |dic ds=>
  rcases q with⟨vs,h1,l⟩|⟨vs,h1,l⟩
  ·exact .inl ⟨vs,h1,l.back h⟩
  ·exact .inr ⟨vs,h1,l.back h⟩
 |ins c fs=>obtain⟨C,gs,m,l,r⟩:=q;exact⟨C,gs,m,l.back h,r⟩
theorem ObD.lo{g:Gm}{a:Addr}{o:MO}(q:ObD g α H a o):loO α.length o:=by
 cases o with
 |lst ds=>obtain⟨vs,h1,l⟩:=q;exact l.lo
 |dic ds=>
  rcases q with⟨vs,h1,l⟩|⟨vs,h1,l⟩
  ·exact l.lo
  ·exact l.lo
 |ins c fs=>obtain⟨C,gs,m,l,r⟩:=q;exact l.lo
end
def yDB(S S2:Sto):Prop:=S.length<=S2.length/\ ∀l,l<S.length->S2[l]? =S[l]? \/ ∃o,S2[l]? =some o/\loO S.length o
open Classical in
noncomputable def zBU(S:Sto)(r:Er)(S2:Sto):R Er:=
 if yDB S S2 then match r with
  |.val (.loc l)=>if l<S.length then .ok r (S2.take S.length)else match S2[l]? with
   |some (.lst ds)=>if loL S.length ds then .ok (.new ds) (S2.take S.length)else .ok r S2
   |_=>.ok r S2
  |.val d=>if lo S.length d then .ok r (S2.take S.length)else .ok r S2
  |.new ds=>if loL S.length ds then .ok r (S2.take S.length)else .ok r S2
 else .ok r S2
theorem yHX{g:Gm}{α α1 α2 α3:List Addr}{H H1 H3:Hp}{S1 S3:Sto}{r:Er}{v:V}(x1:Ext α H α1 H1)(w1:Wd g α1 S1 H1)(h12: ∃t,α2=α1++t)(x2:Ext α H α2 H1)(x3:Ext α2 H1 α3 H3)(w3:Wd g α3 S3 H3)(d:DenE g.K H1 α3 H3 r v):
  ∃r' S' α',zBU S1 r S3=.ok r' S'/\Ext α H α' H3/\Wd g α' S' H3/\DenE g.K H α' H3 r' v:=by
 have x23:=x2.trans x3
 have dfull:DenE g.K H α3 H3 r v:=d.back λb h=>x1.free h
 unfold zBU
 by_cases hc:yDB S1 S3
 ·rw [iP hc]
  obtain⟨t,ht⟩: ∃t,α3=α1++t:=by
   obtain⟨t,e⟩:=h12
   obtain⟨u,e'⟩:=x3.pre
   exact⟨t++u,by rw [e',e,aA]⟩
  have hn:α1.length=S1.length:=w1.len
  have xc:Ext α H α1 H3:=⟨⟨x1.pre,x23.tup,x23.frz⟩,x1.new,x23.keep,x23.has⟩
  have wc:Wd g α1 (S3.take S1.length) H3:=by
   refine⟨by rw [lT,hn,min_eq_left hc.1],w1.nd,λl a o h1 h2=>?_⟩
   have hl:l<S1.length:=by rw [<-hn];exact(gS0.mp h1).1
   rw [getElem?_take_of_lt hl]at h2
   have h1':α3[l]? =some a:=by rw [ht,getElem?_append_left (by rw [hn];exact hl)];exact h1
   have q:=w3.obj l a o h1' h2
   rw [ht]at q
   refine q.back ?_
   rcases hc.2 l hl with e|⟨o',e,lo'⟩
   ·rw [e]at h2
    exact(w1.obj l a o h1 h2).lo
   ·rw [h2]at e
    cases e
    rw [hn];exact lo'
  have dlo: ∀d,lo S1.length d->Den g.K α3 H3 d v->DenE g.K H α1 H3 (.val d) v:=λd hd q=>.val ((ht▸q:Den g.K (α1++t) H3 d v).back (by rw [hn];exact hd))
  cases r with
  |new ds=>
   dsimp only
   split
   ·rename_i hl
    obtain⟨⟨b,vs,rfl,h1,h2,h3⟩,h4⟩:=dfull
    exact⟨_,_,α1,rfl,xc,wc,⟨b,vs,rfl,h1,λz=>h2 (by rw [ht];exact mem_append_left _ z),(ht▸h3:DenL g.K (α1++t) H3 ds vs).back (by rw [hn];exact hl)⟩,h4⟩
   ·exact⟨_,_,α3,rfl,x23,w3,dfull⟩
  |val mv=>
   have dd:Den g.K α3 H3 mv v:=dfull.1
   cases mv with
   |loc l=>
    dsimp only
    split
    ·rename_i hl
     exact⟨_,_,α1,rfl,xc,wc,dlo _ (by unfold lo;exact hl) dd⟩
    ·rename_i hl
     obtain⟨a,rfl,ha⟩:=gM dd
     split
     ·rename_i ds hS
      split
      ·rename_i hlo
       obtain⟨vs,h1,h2⟩:=w3.obj l a _ ha hS
       have hna:a∉α1:=λz=>by
        obtain⟨m,hm⟩:=getElem?_of_mem z
        have hml:m<α1.length:=(gS0.mp hm).1
        have hm':α3[m]? =some a:=by rw [ht,getElem?_append_left hml];exact hm
        obtain⟨u1,e1⟩:=gS0.mp hm'
        obtain⟨u2,e2⟩:=gS0.mp ha
        have:=(getElem_inj w3.nd).mp (e1.trans e2.symm)
        omega
       refine⟨_,_,α1,rfl,xc,wc,⟨a,vs,rfl,h1,hna,(ht▸h2:DenL g.K (α1++t) H3 ds vs).back (by rw [hn];exact hlo)⟩,λb e=>?_⟩
       cases e
       rcases x23.new a (mem_of_getElem? ha)with z|z
       ·obtain⟨u,eu⟩:=x1.pre
        exact absurd (by rw [eu];exact mem_append_left _ z) hna
       ·exact z
      ·exact⟨_,_,α3,rfl,x23,w3,dfull⟩
     ·exact⟨_,_,α3,rfl,x23,w3,dfull⟩
   |non=>dsimp only;split;(· rename_i hl;exact⟨_,_,α1,rfl,xc,wc,dlo _ hl dd⟩);(· exact⟨_,_,α3,rfl,x23,w3,dfull⟩)
   |bl b=>dsimp only;split;(· rename_i hl;exact⟨_,_,α1,rfl,xc,wc,dlo _ hl dd⟩);(· exact⟨_,_,α3,rfl,x23,w3,dfull⟩)
   |int b=>dsimp only;split;(· rename_i hl;exact⟨_,_,α1,rfl,xc,wc,dlo _ hl dd⟩);(· exact⟨_,_,α3,rfl,x23,w3,dfull⟩)
   |str b=>dsimp only;split;(· rename_i hl;exact⟨_,_,α1,rfl,xc,wc,dlo _ hl dd⟩);(· exact⟨_,_,α3,rfl,x23,w3,dfull⟩)
   |typ b=>dsimp only;split;(· rename_i hl;exact⟨_,_,α1,rfl,xc,wc,dlo _ hl dd⟩);(· exact⟨_,_,α3,rfl,x23,w3,dfull⟩)
   |obj b b' b''=>dsimp only;split;(· rename_i hl;exact⟨_,_,α1,rfl,xc,wc,dlo _ hl dd⟩);(· exact⟨_,_,α3,rfl,x23,w3,dfull⟩)
   |tup b=>dsimp only;split;(· rename_i hl;exact⟨_,_,α1,rfl,xc,wc,dlo _ hl dd⟩);(· exact⟨_,_,α3,rfl,x23,w3,dfull⟩)
   |scr b=>dsimp only;split;(· rename_i hl;exact⟨_,_,α1,rfl,xc,wc,dlo _ hl dd⟩);(· exact⟨_,_,α3,rfl,x23,w3,dfull⟩)
 ·rw [iN hc]
  exact⟨_,_,α3,rfl,x23,w3,dfull⟩
def spM(g:Gm)(n:Nat)(F:List MV->Sto->R Er):Sp:=λvs H Q _=> ∃α S ds,Wd g α S H/\DenL g.K α H ds vs/\ds.length=n/\Post g W0 α H (F ds S) Q
noncomputable def zZ(n:Nat)(F:List MV->Sto->R Er)(rs:List Er)(S:Sto):R Er:=if rs.length=n then(noX (F (zN rs S).1 (zN rs S).2)).bind λr S2=>zBU S r S2 else .no
section
variable{X:Cx}{W:XW}{e:Expr}{es:List Expr}{af:Rho->Sto->R (List Er)}{pos:Pos}
theorem yAY{n:Nat}{F:List MV->Sto->R Er}{rs:List Er}{vs:List V}{α α1:List Addr}{H H1:Hp}{S1:Sto}{Q:VK}(x1:Ext α H α1 H1)(w1:Wd X.g α1 S1 H1)(d1:ArgsE X.K H α1 H1 rs vs)(q:Post X.g W α H (zZ n F rs S1) Q):
  spM X.g n F vs H1 Q E0:=by
 unfold zZ at q
 split at q
 ·rename_i hl
  obtain⟨α2,x2,y2,w2,l2⟩:=zET w1 x1 d1
  refine⟨α2,_,_,w2,l2,by rw [zIV];exact hl,?_⟩
  cases z:F (zN rs S1).1 (zN rs S1).2 with
  |ok r S3=>
   rw [z]at q
   intro v α3 H3 x3 w3 d3
   obtain⟨r',S',α',e',x',w',d'⟩:=yHX x1 w1 y2.pre x2 x3 w3 d3
   have q:Post X.g W α H (zBU S1 r S3) Q:=q
   rw [e']at q
   exact q v α' H3 x' w' d'
  |exc c fs S3=>rw [z]at q;exact q.elim
  |no=>rw [z]at q;exact q.elim
 ·exact q.elim
theorem yHY{k n:Nat}{fa:Addr}{fd:FuncData}{ps:List Str}{F:List MV->Sto->R Er}{x:Str}{p:Pos}(G:FnOk X.prog X.w X.K X.mg X.base CX0 k fa fd ps (spM X.g n F))(hr:Room k X.A)(hg:Gl X x)(hm:X.mg x=some (.ref fa))
  (hk:PySem.W.keepIn X.K (.ref fa)=true) (hb:Binds X.K fd ps []) (ha:PAm X W (e::es) af) (hdb:(x==("__debug__":Str))=false:=by decide)
  (he:starEach (e::es) X.env=(false,eval e X.env)::starEach es X.env:=by rfl) (hpl:(backTo pos (starEach es X.env)).any (·.1)=false:=by rfl):
  PEm X W (.Call (.Name x p) (e::es) [] pos) (λρ S=>(af ρ S).bind λrs S1=>zZ n F rs S1):=by
 obtain⟨t,ha,kk⟩:=ha
 refine⟨_,yHE G hr hg hm hk hb .nil pass0 ha hdb he hpl,λα ρ S σ H Q wd sl q=>kk α ρ S σ H _ wd sl (q.bind λvs rs S1 α1 H1 e1 x1 w1 d1 q1=>?_)⟩
 rw [aN]
 exact yAY x1 w1 d1 q1
end
def yL(N:List Str)(ds:List MV):Rho:=ds.map some++List.replicate (N.length - ds.length) none
def xF:R Fl->R Er
 |.ok (.next _) S=>.ok (.val .non) S
 |.ok (.ret r) S=>.ok r S
 |.exc c fs S=>.exc c fs S
 |_=>.no
theorem zTE{K:PySem.W.Frag}{α:List Addr}{N:List Str}{H:Hp}{ds:List MV}{vs:List V}(l:DenL K α H ds vs):Slots K α H (yL N ds) (start N vs):=by
 have hlen:=l.length
 refine⟨?_,λi d e=>?_⟩
 ·unfold start yL
  rw [lA,lA,lM,lM,length_replicate,length_replicate,hlen]
 ·unfold yL at e
  by_cases hi:i<ds.length
  ·rw [getElem?_append_left (by simpa using hi),getElem?_map]at e
   cases z:ds[i]? with
   |none=>rw [z]at e;cases e
   |some d'=>
    rw [z]at e
    obtain⟨v,h1,h2⟩:=l.at z
    have e':d'=d:=Option.some.inj (Option.some.inj e)
    subst e'
    refine⟨v,?_,h2⟩
    unfold start
    rw [getElem?_append_left (by rw [lM,hlen];exact hi),getElem?_map,h1];rfl
  ·rw [getElem?_append_right (by simpa using hi),List.getElem?_replicate]at e
   split at e<;>cases e
section
variable{P:Program}{w:World}{K:PySem.W.Frag}{mg:Str->Option Value}{base:Heap}
theorem okM{x qual:Str}{st:Stmt}{f:Addr}{fd:FuncData}{N ps:List Str}{k:Nat}(Fb:AY)(F:Fun K x qual st f fd)(Sc:FnScope N ps (zH st))
  (hbody: ∀(cdv:Value)(A:Around)(outer:List Env)(s:Shared)(H:Hp)(E:XK),Room k (A.deeper (envOfC qual (zH st) s.heap.objs.size f cdv))->
   zQL (zVT CX0 P w K mg base N qual (zH st) f cdv A outer s H E).nox W0 (nU st) Fb):
  FnOk P w K mg base CX0 (k+1) f fd ps (spM ⟨K,mg,P,w⟩ ps.length λds S=>xF (Fb (yL N ds) S)):=by
 refine F.ok Sc (λvs H Q E h=>?_) (λcdv A outer s H vs Q E hr h=>?_)
 ·obtain⟨α,S,ds,_,l,hl,_⟩:=h
  rw [l.length,hl]
 ·obtain⟨α,S,ds,wd,l,hl,q⟩:=h
  obtain⟨t,ht,kk⟩:=hbody cdv A outer s H E hr
  refine⟨t,ht,kk α (yL N ds) S (start N vs) H _ wd (zTE l) ?_⟩
  dsimp only at q
  cases z:Fb (yL N ds) S with
  |ok fl S'=>
   rw [z]at q
   cases fl with
   |next ρ=>exact λσ α' H' x' w' s'=>q .non α' H' x' w' (DenE.val zHO)
   |ret r=>exact λv α' H' x' w' d'=>q v α' H' x' w' d'
   |brk ρ=>exact q.elim
   |cont ρ=>exact q.elim
  |exc c fs S'=>rw [z]at q;exact λα' H' x' w'=>q α' H' x' w'
  |no=>rw [z]at q;exact q
end
inductive Vw where
 |fl (v:V)|tp (ds:List MV)|ls (ds:List MV)
def jP(S:Sto):Er->Option (List MV)
 |.new ds=>some ds
 |.val (.scr ds)=>some ds
 |.val (.loc l)=>match S[l]? with
  |some (.lst ds)=>some ds
  |_=>none
 |_=>none
def vwE(S:Sto):Er->Option Vw
 |.val .non=>some (.fl .non)
 |.val (.bl b)=>some (.fl (.bl b))
 |.val (.int i)=>some (.fl (.int i))
 |.val (.str x)=>some (.fl (.str (mkS x)))
 |.val (.tup ds)=>some (.tp ds)
 |.val (.typ _)=>none
 |.val (.obj _ _ _)=>none
 |r=>(jP S r).map .ls
def prs(e:MV->MV->Option Bool):List MV->List MV->Option (List Bool)
 |d::ds,f::fs=>(e d f).bind λk=>(prs e ds fs).map (k::·)
 |_,_=>some []
def eqW(e:MV->MV->Option Bool):Vw->Vw->Option Bool
 |.fl x,.fl y=>some (eqV x y)
 |.tp ds,.tp es=>(prs e ds es).map λbs=>bs.all id&&ds.length==es.length
 |.ls ds,.ls es=>if ds.length=es.length then(prs e ds es).map λbs=>bs.all id else some false
 |_,_=>some false
theorem zWE(e:MV->MV->Option Bool)(ds es:List MV):eqW e (.tp ds) (.tp es)=(prs e ds es).map λbs=>bs.all id&&ds.length==es.length:=rfl
theorem zWF(e:MV->MV->Option Bool)(ds es:List MV):eqW e (.ls ds) (.ls es)=if ds.length=es.length then(prs e ds es).map λbs=>bs.all id else some false:=rfl
def eqv(S:Sto):Nat->MV->MV->Option Bool
 |0,_,_=>none
 |n+1,a,b=>(vwE S (.val a)).bind λx=>(vwE S (.val b)).bind λy=>eqW (eqv S n) x y
def zMC(S:Sto)(n:Nat)(a b:Er):Option Bool:=(vwE S a).bind λx=>(vwE S b).bind λy=>eqW (eqv S n) x y
section
variable{X:Cx}{α:List Addr}{S:Sto}{H:Hp}
theorem zGT{K:PySem.W.Frag}{g:Gm}(hK:g.K=K)(wd:Wd g α S H){r:Er}{ds:List MV}{x:V}(e:jP S r=some ds)(d:DenX K α H r x): ∃a vs,x=.ref a/\SqL K H a vs/\DenL K α H ds vs:=by
 subst hK
 unfold jP at e
 split at e
 ·cases e
  obtain⟨b,vs,rfl,h,_,l⟩:=d
  exact⟨b,vs,rfl,.of h,l⟩
 ·cases e
  obtain⟨a,vs,rfl,s,l⟩:=zLZ d
  exact⟨a,vs,rfl,s.l,l⟩
 ·rename_i n
  obtain⟨a,rfl,h⟩:=zCF d
  split at e
  ·rename_i es hS
   cases e
   obtain⟨vs,h1,l⟩:=wd.obj n a _ h hS
   exact⟨a,vs,rfl,.of h1,l⟩
  ·cases e
 ·cases e
theorem zEH{r:Er}{x y:V}(e:vwE S r=some (.fl y))(d:DenX X.K α H r x):x=y/\wS y=true:=by
 unfold vwE at e
 split at e
 ·cases e;exact⟨zLY d,rfl⟩
 ·cases e;exact⟨zKE d,rfl⟩
 ·cases e;exact⟨yX d,rfl⟩
 ·cases e;exact⟨bY d,rfl⟩
 ·cases e
 ·cases e
 ·cases e
 ·cases z:jP S r<;>rw [z]at e<;>cases e
theorem zEI{r:Er}{x:V}{ds:List MV}(e:vwE S r=some (.tp ds))(d:DenX X.K α H r x): ∃a vs,x=.ref a/\SqT X.K H a vs/\DenL X.K α H ds vs:=by
 unfold vwE at e
 split at e
 ·cases e
 ·cases e
 ·cases e
 ·cases e
 ·cases e;exact zAJ d
 ·cases e
 ·cases e
 ·cases z:jP S r<;>rw [z]at e<;>cases e
theorem zEJ(wd:Wd X.g α S H){r:Er}{x:V}{ds:List MV}(e:vwE S r=some (.ls ds))(d:DenX X.K α H r x): ∃a vs,x=.ref a/\SqL X.K H a vs/\DenL X.K α H ds vs:=by
 unfold vwE at e
 split at e
 ·cases e
 ·cases e
 ·cases e
 ·cases e
 ·cases e
 ·cases e
 ·cases e
 ·cases z:jP S r with
  |none=>rw [z]at e;cases e
  |some es=>rw [z]at e;cases e;exact zGT rfl wd z d
theorem zGB{e:MV->MV->Option Bool}: ∀{ds es:List MV}{bs:List Bool},prs e ds es=some bs->bs.length=min ds.length es.length
 |[],_,_,h=>by simp [prs]at h;subst h;simp
 |_::_,[],_,h=>by simp [prs]at h;subst h;simp
 |d::ds,f::fs,bs,h=>by
  unfold prs at h
  cases z:e d f with
  |none=>rw [z]at h;cases h
  |some k=>
   rw [z]at h
   cases z2:prs e ds fs with
   |none=>simp [z2]at h
   |some cs=>
    simp [z2]at h
    subst h
    simp [zGB z2]
theorem zQN{e:MV->MV->Option Bool}: ∀{ds es:List MV}{bs:List Bool}{j:Nat}{d f:MV},prs e ds es=some bs->ds[j]? =some d->es[j]? =some f->e d f=some (bs.getD j true)
 |[],_,_,_,_,_,h,h1,_=>by simp at h1
 |_::_,[],_,_,_,_,h,_,h2=>by simp at h2
 |d::ds,f::fs,bs,j,d',f',h,h1,h2=>by
  unfold prs at h
  cases z:e d f with
  |none=>rw [z]at h;cases h
  |some k=>
   rw [z]at h
   cases z2:prs e ds fs with
   |none=>simp [z2]at h
   |some cs=>
    simp [z2]at h
    subst h
    cases j with
    |zero=>simp at h1 h2;subst h1 h2;simpa using z
    |succ j=>simpa using zQN z2 (by simpa using h1) (by simpa using h2)
theorem range_all{bs:List Bool}{n:Nat}(h:bs.length=n):(List.range n).all (λj=>bs.getD j true)=bs.all id:=by
 subst h
 rw [Bool.eq_iff_iff,all_eq_true,all_eq_true]
 constructor
 ·intro h x hx
  obtain⟨i,hi,rfl⟩:=getElem_of_mem hx
  have:=h i (mem_range.mpr hi)
  simpa [getD_eq_getElem?_getD,hi]using this
 ·intro h i hi
  have hi':=mem_range.mp hi
  have:=h bs[i] (getElem_mem hi')
  simpa [getD_eq_getElem?_getD,hi']using this
variable{pins:List (Addr×Obj)}{σ:St}{s:Shared}
theorem zHR(I:Inv X pins σ H s){a:Addr}{xs ys:List V}(h:SqL X.K H a xs)(h':SqT X.K H a ys):False:=by
 obtain⟨_,_,pl,_⟩:=I.list h
 obtain⟨_,_,pt,_⟩:=I.tuple h'
 obtain⟨o,n,e,c,_,_⟩:=pl
 obtain⟨o',e',c',_⟩:=pt
 rw [e]at e'
 cases e'
 rw [c]at c'
 exact absurd c' (by simp)
theorem yDC(I:Inv X pins σ H s)(wd:Wd X.g α S H){e:MV->MV->Option Bool}(he: ∀d f v k,Den X.K α H d v->Den X.K α H f v->e d f=some k->k=true){a b:Er}{x:V}{p q:Vw}{k:Bool}
  (ha:vwE S a=some p) (hb:vwE S b=some q) (da:DenX X.K α H a x) (db:DenX X.K α H b x) (h:eqW e p q=some k):k=true:=by
 have hp: ∀{ds es:List MV}{vs:List V}{bs:List Bool},DenL X.K α H ds vs->DenL X.K α H es vs->prs e ds es=some bs->bs.all id=true:=by
  intro ds es vs bs l1 l2 z
  rw [all_eq_true]
  intro k hk
  obtain⟨i,hi,rfl⟩:=getElem_of_mem hk
  have hl:=zGB z
  have h1:i<ds.length:=by omega
  have h2:i<es.length:=by omega
  obtain⟨v,g1,g2⟩:=l1.at (gE0 h1)
  obtain⟨v',g3,g4⟩:=l2.at (gE0 h2)
  rw [g1]at g3;cases g3
  have:=he _ _ _ _ g2 g4 (zQN z (gE0 h1) (gE0 h2))
  simpa [getD_eq_getElem?_getD,hi]using this
 cases p with
 |fl y=>
  obtain⟨rfl,f1⟩:=zEH ha da
  cases q with
  |fl z=>obtain⟨rfl,f2⟩:=zEH hb db;cases h;exact yCT f1
  |tp ds=>obtain⟨a,vs,rfl,_⟩:=zEI hb db;exact absurd (show false=true from f1) xF0
  |ls ds=>obtain⟨a,vs,rfl,_⟩:=zEJ wd hb db;exact absurd (show false=true from f1) xF0
 |tp ds=>
  obtain⟨a1,vs,rfl,s1,l1⟩:=zEI ha da
  cases q with
  |fl z=>obtain⟨rfl,f2⟩:=zEH hb db;exact absurd (show false=true from f2) xF0
  |tp es=>
   obtain⟨a2,us,e2,s2,l2⟩:=zEI hb db
   cases e2
   cases I.tuple_inj s1 s2
   rw [zWE]at h
   cases z:prs e ds es with
   |none=>rw [z]at h;cases h
   |some bs=>
    rw [z]at h
    cases h
    show(bs.all id&&ds.length==es.length)=true
    rw [hp l1 l2 z, <-l1.length, <-l2.length];simp
  |ls es=>obtain⟨a2,us,e2,s2,l2⟩:=zEJ wd hb db;cases e2;exact(zHR I s2 s1).elim
 |ls ds=>
  obtain⟨a1,vs,rfl,s1,l1⟩:=zEJ wd ha da
  cases q with
  |fl z=>obtain⟨rfl,f2⟩:=zEH hb db;exact absurd (show false=true from f2) xF0
  |tp es=>obtain⟨a2,us,e2,s2,l2⟩:=zEI hb db;cases e2;exact(zHR I s1 s2).elim
  |ls es=>
   obtain⟨a2,us,e2,s2,l2⟩:=zEJ wd hb db
   cases e2
   cases I.list_inj s1 s2
   rw [zWF]at h
   rw [iP (by rw [<-l1.length, <-l2.length])]at h
   cases z:prs e ds es with
   |none=>rw [z]at h;cases h
   |some bs=>rw [z]at h;cases h;exact hp l1 l2 z
theorem zMD(I:Inv X pins σ H s)(wd:Wd X.g α S H): ∀(n:Nat)(d f:MV)(v:V)(k:Bool),Den X.K α H d v->Den X.K α H f v->eqv S n d f=some k->k=true
 |0,_,_,_,_,_,_,h=>by cases h
 |n+1,d,f,v,k,h1,h2,h=>by
  unfold eqv at h
  cases za:vwE S (.val d)with
  |none=>rw [za]at h;cases h
  |some p=>
   cases zb:vwE S (.val f)with
   |none=>rw [za,zb]at h;cases h
   |some q=>
    rw [za,zb]at h
    exact yDC I wd (zMD I wd n) za zb (a:=.val d) (b:=.val f) h1 h2 h
theorem zHS{e:MV->MV->Option Bool}{A:Around}(he: ∀d f x y u v k,Den X.K α H d x->Den X.K α H f y->RelV x u->RelV y v->e d f=some k->SeqAt.EqAt A s u v k)
  {ds es:List MV} {vs us:List V} {its its2:List Value} {bs:List Bool} (l1:DenL X.K α H ds vs) (l2:DenL X.K α H es us) (r1:Vals vs its) (r2:Vals us its2) (z:prs e ds es=some bs):
  ∀j (h1:j<its.toArray.size) (h2:j<its2.toArray.size),SeqAt.EqAt A s its.toArray[j] its2.toArray[j] (bs.getD j true):=by
 intro j h1 h2
 have g1:j<vs.length:=by rw [r1.length];simpa using h1
 have g2:j<us.length:=by rw [r2.length];simpa using h2
 obtain⟨d,d1,d2⟩:=l1.get (gE0 g1)
 obtain⟨f,f1,f2⟩:=l2.get (gE0 g2)
 obtain⟨u,u1,u2⟩:=r1.get (gE0 g1)
 obtain⟨v,v1,v2⟩:=r2.get (gE0 g2)
 have e1:its.toArray[j]=u:=by
  have:its[j]? =some (its[j]'(by simpa using h1)):=gE0 _
  rw [u1]at this
  simpa using(Option.some.inj this).symm
 have e2:its2.toArray[j]=v:=by
  have:its2[j]? =some (its2[j]'(by simpa using h2)):=gE0 _
  rw [v1]at this
  simpa using(Option.some.inj this).symm
 rw [e1,e2]
 exact he d f _ _ u v _ d2 f2 u2 v2 (zQN z d1 f1)
theorem zIW(I:Inv X pins σ H s)(wd:Wd X.g α S H): ∀(n:Nat)(A:Around)(d f:MV)(x y:V)(u v:Value)(k:Bool),A.units+n<cLine->Den X.K α H d x->Den X.K α H f y->RelV x u->RelV y v->eqv S n d f=some k->SeqAt.EqAt A s u v k
 |0,_,_,_,_,_,_,_,_,_,_,_,_,_,h=>by cases h
 |n+1,A,d,f,x,y,u,v,k,hu,h1,h2,rx,ry,h=>by
  have hu0:A.units<cLine:=by omega
  have hsame:=h
  unfold eqv at h
  cases za:vwE S (.val d)with
  |none=>rw [za]at h;cases h
  |some p=>
   cases zb:vwE S (.val f)with
   |none=>rw [za,zb]at h;cases h
   |some q=>
    rw [za,zb]at h
    have h:eqW (eqv S n) p q=some k:=h
    have he:=λd f x y u v k a b c d' e=>zIW I wd n A.in1 d f x y u v k (show A.units+1+n<cLine by omega) a b c d' e
    cases p with
    |fl x'=>
     obtain⟨rfl,fx⟩:=zEH za (α:=α) (H:=H) (X:=X) h1
     cases q with
     |fl y'=>obtain⟨rfl,fy⟩:=zEH zb (α:=α) (H:=H) (X:=X) h2;cases h;exact yND rx ry fx fy
     |tp es=>
      obtain⟨b,us,rfl,s2,l2⟩:=zEI zb (α:=α) (H:=H) (X:=X) h2
      cases ry;cases h
      obtain⟨its,_,pt,_⟩:=I.tuple s2
      exact yLE rx fx pt hu0
     |ls es=>
      obtain⟨b,us,rfl,s2,l2⟩:=zEJ wd zb h2
      cases ry;cases h
      obtain⟨its,_,pl,_⟩:=I.list s2
      exact eq_lr rx fx pl.isList hu0
    |tp ds=>
     obtain⟨a,vs,rfl,s1,l1⟩:=zEI za (α:=α) (H:=H) (X:=X) h1
     cases rx
     obtain⟨its,r1,pt,_⟩:=I.tuple s1
     cases q with
     |fl y'=>obtain⟨rfl,fy⟩:=zEH zb (α:=α) (H:=H) (X:=X) h2;cases h;exact yLD ry fy pt hu0
     |tp es=>
      obtain⟨b,us,rfl,s2,l2⟩:=zEI zb (α:=α) (H:=H) (X:=X) h2
      cases ry
      by_cases hab:a=b
      ·subst hab
       rw [zMD I wd (n+1) d f _ k h1 h2 hsame]
       exact SeqAt.EqAt.same _
      ·obtain⟨its2,r2,pt2,_⟩:=I.tuple s2
       rw [zWE]at h
       cases z:prs (eqv S n) ds es with
       |none=>rw [z]at h;cases h
       |some bs=>
        rw [z]at h
        cases h
        have:=SeqAt.RcAt.tuples pt pt2 hu0 (zHS he l1 l2 r1 r2 z)
        have hl:=zGB z
        rw [range_all (by rw [hl];simp [<-r1.length, <-r2.length,l1.length,l2.length])]at this
        have e3:(its.toArray.size==its2.toArray.size)=(ds.length==es.length):=by simp [<-r1.length, <-r2.length,l1.length,l2.length]
        rw [e3]at this
        exact SeqAt.EqAt.of_refs hab this
     |ls es=>
      obtain⟨b,us,rfl,s2,l2⟩:=zEJ wd zb h2
      cases ry;cases h
      obtain⟨its2,_,pl,_⟩:=I.list s2
      exact SeqAt.EqAt.tuple_list pt pl.isList hu0
    |ls ds=>
     obtain⟨a,vs,rfl,s1,l1⟩:=zEJ wd za h1
     cases rx
     obtain⟨its,r1,pl,_⟩:=I.list s1
     cases q with
     |fl y'=>obtain⟨rfl,fy⟩:=zEH zb (α:=α) (H:=H) (X:=X) h2;cases h;exact eq_ll ry fy pl.isList hu0
     |tp es=>
      obtain⟨b,us,rfl,s2,l2⟩:=zEI zb (α:=α) (H:=H) (X:=X) h2
      cases ry;cases h
      obtain⟨its2,_,pt,_⟩:=I.tuple s2
      exact SeqAt.EqAt.list_tuple pl.isList pt hu0
     |ls es=>
      obtain⟨b,us,rfl,s2,l2⟩:=zEJ wd zb h2
      cases ry
      by_cases hab:a=b
      ·subst hab
       rw [zMD I wd (n+1) d f _ k h1 h2 hsame]
       exact SeqAt.EqAt.same _
      ·obtain⟨its2,r2,pl2,_⟩:=I.list s2
       rw [zWF]at h
       by_cases hl:ds.length=es.length
       ·rw [iP hl]at h
        cases z:prs (eqv S n) ds es with
        |none=>rw [z]at h;cases h
        |some bs=>
         rw [z]at h
         cases h
         have hs:its.toArray.size=its2.toArray.size:=by simp [<-r1.length, <-r2.length,l1.length,l2.length,hl]
         have:=SeqAt.RcAt.lists pl.isList pl2.isList hs hu0 (zHS he l1 l2 r1 r2 z)
         have hl':=zGB z
         rw [range_all (by rw [hl'];simp [<-r1.length,l1.length,hl])]at this
         exact SeqAt.EqAt.of_refs hab this
       ·rw [iN hl]at h
        cases h
        exact SeqAt.EqAt.of_refs hab (SeqAt.RcAt.lists_lengths pl.isList pl2.isList (by simpa [<-r1.length, <-r2.length,l1.length,l2.length]using hl) hu0)
theorem yLG{RC:Around->Shared->Value->Value->Bool->Prop}{tr:Bool->Bool}{A:Around}
  (hff: ∀x y u v,RelV x u->RelV y v->wS x=true->wS y=true->RC A s u v (tr (eqV x y)))
  (hfl: ∀x v l items,RelV x v->wS x=true->s.heap.IsList l items->A.units<cLine->RC A s v (.ref l) (tr false)/\RC A s (.ref l) v (tr false))
  (hft: ∀x v l items,RelV x v->wS x=true->s.heap.IsTuple l items->A.units<cLine->RC A s v (.ref l) (tr false)/\RC A s (.ref l) v (tr false))
  (hlt: ∀l b items items2,s.heap.IsList l items->s.heap.IsTuple b items2->A.units<cLine->RC A s (.ref l) (.ref b) (tr false)/\RC A s (.ref b) (.ref l) (tr false))
  (htt: ∀(l b:Addr)(items items2:Array Value)(e:Nat->Bool),s.heap.IsTuple l items->s.heap.IsTuple b items2->A.units<cLine->(∀j (h1:j<items.size) (h2:j<items2.size),SeqAt.EqAt A.in1 s items[j] items2[j] (e j))->RC A s (.ref l) (.ref b) (tr ((List.range (min items.size items2.size)).all e&&items.size==items2.size)))
  (hll: ∀(l b:Addr)(items items2:Array Value)(e:Nat->Bool),s.heap.IsList l items->s.heap.IsList b items2->items.size=items2.size->A.units<cLine->(∀j (h1:j<items.size) (h2:j<items2.size),SeqAt.EqAt A.in1 s items[j] items2[j] (e j))->RC A s (.ref l) (.ref b) (tr ((List.range items.size).all e)))
  (hln: ∀(l b:Addr)(items items2:Array Value),s.heap.IsList l items->s.heap.IsList b items2->(items.size !=items2.size)=true->A.units<cLine->RC A s (.ref l) (.ref b) (tr false))
  (I:Inv X pins σ H s) (wd:Wd X.g α S H) (n:Nat) {a b:Er} {x y:V} {u v:Value} {k:Bool} (hu:A.units+(n+1)<cLine) (h1:DenX X.K α H a x) (h2:DenX X.K α H b y) (rx:RelV x u) (ry:RelV y v) (h:zMC S n a b=some k):RC A s u v (tr k):=by
 have hu0:A.units<cLine:=by omega
 unfold zMC at h
 cases za:vwE S a with
 |none=>rw [za]at h;cases h
 |some p=>
  cases zb:vwE S b with
  |none=>rw [za,zb]at h;cases h
  |some q=>
   rw [za,zb]at h
   have h:eqW (eqv S n) p q=some k:=h
   have he:=λd f x y u v k a b c d' e=>zIW I wd n A.in1 d f x y u v k (show A.units+1+n<cLine by omega) a b c d' e
   cases p with
   |fl x'=>
    obtain⟨rfl,fx⟩:=zEH za h1
    cases q with
    |fl y'=>obtain⟨rfl,fy⟩:=zEH zb h2;cases h;exact hff _ _ _ _ rx ry fx fy
    |tp es=>
     obtain⟨b,us,rfl,s2,l2⟩:=zEI zb h2
     cases ry;cases h
     obtain⟨its,_,pt,_⟩:=I.tuple s2
     exact(hft _ _ _ _ rx fx pt hu0).1
    |ls es=>
     obtain⟨b,us,rfl,s2,l2⟩:=zEJ wd zb h2
     cases ry;cases h
     obtain⟨its,_,pl,_⟩:=I.list s2
     exact(hfl _ _ _ _ rx fx pl.isList hu0).1
   |tp ds=>
    obtain⟨a,vs,rfl,s1,l1⟩:=zEI za h1
    cases rx
    obtain⟨its,r1,pt,_⟩:=I.tuple s1
    cases q with
    |fl y'=>obtain⟨rfl,fy⟩:=zEH zb h2;cases h;exact(hft _ _ _ _ ry fy pt hu0).2
    |tp es=>
     obtain⟨b,us,rfl,s2,l2⟩:=zEI zb h2
     cases ry
     obtain⟨its2,r2,pt2,_⟩:=I.tuple s2
     rw [zWE]at h
     cases z:prs (eqv S n) ds es with
     |none=>rw [z]at h;cases h
     |some bs=>
      rw [z]at h
      cases h
      have:=htt _ _ _ _ _ pt pt2 hu0 (zHS he l1 l2 r1 r2 z)
      have hl:=zGB z
      rw [range_all (by rw [hl];simp [<-r1.length, <-r2.length,l1.length,l2.length])]at this
      have e3:(its.toArray.size==its2.toArray.size)=(ds.length==es.length):=by simp [<-r1.length, <-r2.length,l1.length,l2.length]
      rw [e3]at this
      exact this
    |ls es=>
     obtain⟨b,us,rfl,s2,l2⟩:=zEJ wd zb h2
     cases ry;cases h
     obtain⟨its2,_,pl,_⟩:=I.list s2
     exact(hlt _ _ _ _ pl.isList pt hu0).2
   |ls ds=>
    obtain⟨a,vs,rfl,s1,l1⟩:=zEJ wd za h1
    cases rx
    obtain⟨its,r1,pl,_⟩:=I.list s1
    cases q with
    |fl y'=>obtain⟨rfl,fy⟩:=zEH zb h2;cases h;exact(hfl _ _ _ _ ry fy pl.isList hu0).2
    |tp es=>
     obtain⟨b,us,rfl,s2,l2⟩:=zEI zb h2
     cases ry;cases h
     obtain⟨its2,_,pt,_⟩:=I.tuple s2
     exact(hlt _ _ _ _ pl.isList pt hu0).1
    |ls es=>
     obtain⟨b,us,rfl,s2,l2⟩:=zEJ wd zb h2
     cases ry
     obtain⟨its2,r2,pl2,_⟩:=I.list s2
     rw [zWF]at h
     by_cases hl:ds.length=es.length
     ·rw [iP hl]at h
      cases z:prs (eqv S n) ds es with
      |none=>rw [z]at h;cases h
      |some bs=>
       rw [z]at h
       cases h
       have hs:its.toArray.size=its2.toArray.size:=by simp [<-r1.length, <-r2.length,l1.length,l2.length,hl]
       have:=hll _ _ _ _ _ pl.isList pl2.isList hs hu0 (zHS he l1 l2 r1 r2 z)
       have hl':=zGB z
       rw [range_all (by rw [hl'];simp [<-r1.length,l1.length,hl])]at this
       exact this
     ·rw [iN hl]at h
      cases h
      exact hln _ _ _ _ pl.isList pl2.isList (by simpa [<-r1.length, <-r2.length,l1.length,l2.length]using hl) hu0
theorem yNW(I:Inv X pins σ H s)(wd:Wd X.g α S H)(n:Nat){A:Around}{a b:Er}{x y:V}{u v:Value}{k:Bool}(hu:A.units+(n+1)<cLine)(h1:DenX X.K α H a x)(h2:DenX X.K α H b y)(rx:RelV x u)(ry:RelV y v)(h:zMC S n a b=some k):SeqAt.RcAt A s u v k:=
 yLG (RC:=SeqAt.RcAt) (tr:=id) (λ_ _ _ _ a b c d=>yNL a b c d) (λ_ _ _ _ a b c d=>⟨rc_lr a b c d,rc_ll a b c d⟩) (λ_ _ _ _ a b c d=>⟨rc_tr a b c d,rc_tl a b c d⟩)
  (λ_ _ _ _ a b c=>⟨SeqAt.RcAt.list_tuple a b c,SeqAt.RcAt.tuple_list b a c⟩) (λ_ _ _ _ _ a b c d=>SeqAt.RcAt.tuples a b c d) (λ_ _ _ _ _ a b c d e=>SeqAt.RcAt.lists a b c d e) (λ_ _ _ _ a b c d=>SeqAt.RcAt.lists_lengths a b c d)
  I wd n hu h1 h2 rx ry h
theorem yNX(I:Inv X pins σ H s)(wd:Wd X.g α S H)(n:Nat){A:Around}{a b:Er}{x y:V}{u v:Value}{k:Bool}(hu:A.units+(n+1)<cLine)(h1:DenX X.K α H a x)(h2:DenX X.K α H b y)(rx:RelV x u)(ry:RelV y v)(h:zMC S n a b=some k):SeqAt.RcNeAt A s u v (!k):=
 yLG (RC:=SeqAt.RcNeAt) (tr:=λb=>!b) (λ_ _ _ _ a b c d=>yNM a b c d) (λ_ _ _ _ a b c d=>⟨rn_lr a b c d,rn_ll a b c d⟩) (λ_ _ _ _ a b c d=>⟨rn_tr a b c d,rn_tl a b c d⟩)
  (λ_ _ _ _ a b c=>⟨SeqAt.RcNeAt.list_tuple a b c,SeqAt.RcNeAt.tuple_list b a c⟩) (λ_ _ _ _ _ a b c d=>SeqAt.RcNeAt.tuples a b c d) (λ_ _ _ _ _ a b c d e=>SeqAt.RcNeAt.lists a b c d e) (λ_ _ _ _ a b c d=>SeqAt.RcNeAt.lists_lengths a b c d)
  I wd n hu h1 h2 rx ry h
theorem zXW{α β:Type}: ∀{a c:List α}{b d:List β},a.length=b.length->c.length=d.length->a.zip b=c.zip d->a=c/\b=d
 |[],[],[],[],_,_,_=>⟨rfl,rfl⟩
 |[],_::_,[],_::_,_,_,e=>by simp at e
 |_::_,[],_::_,[],_,_,e=>by simp at e
 |x::a,y::c,z::b,w::d,h1,h2,e=>by
  simp only [zip_cons_cons,List.cons.injEq,Prod.mk.injEq]at e
  obtain⟨rfl,rfl⟩:=zXW (by simpa using h1) (by simpa using h2) e.2
  exact⟨by rw [e.1.1],by rw [e.1.2]⟩
mutual
theorem Den.inj(I:Inv X pins σ H s)(wd:Wd X.g α S H): ∀{d f:MV}{v:V},Den X.K α H d v->Den X.K α H f v->d=f
 |.non,f,v,h,h'=>by cases zAI h;cases f<;>first |rfl|(have:=zCS h';cases this;done)|(have:=xO h';cases this;done)|(have:=wC h';cases this;done)|(have:=dQ h';cases this;done)|(obtain⟨_,_,e,_⟩:=xP h';cases e;done)|(obtain⟨_,_,e,_⟩:=bX h';cases e;done)|(obtain⟨_,e,_⟩:=gM h';cases e;done)|(obtain⟨_,_,_,_,_,e,_⟩:=bW h';cases e;done)
 |.bl b,f,v,h,h'=>by cases zCS h;cases f<;>first |(have:=zCS h';cases this;rfl;done)|(have:=zAI h';cases this;done)|(have:=xO h';cases this;done)|(have:=wC h';cases this;done)|(have:=dQ h';cases this;done)|(obtain⟨_,_,e,_⟩:=xP h';cases e;done)|(obtain⟨_,_,e,_⟩:=bX h';cases e;done)|(obtain⟨_,e,_⟩:=gM h';cases e;done)|(obtain⟨_,_,_,_,_,e,_⟩:=bW h';cases e;done)
 |.int b,f,v,h,h'=>by cases xO h;cases f<;>first |(have:=xO h';cases this;rfl;done)|(have:=zAI h';cases this;done)|(have:=zCS h';cases this;done)|(have:=wC h';cases this;done)|(have:=dQ h';cases this;done)|(obtain⟨_,_,e,_⟩:=xP h';cases e;done)|(obtain⟨_,_,e,_⟩:=bX h';cases e;done)|(obtain⟨_,e,_⟩:=gM h';cases e;done)|(obtain⟨_,_,_,_,_,e,_⟩:=bW h';cases e;done)
 |.str b,f,v,h,h'=>by cases wC h;cases f<;>first |(have:=wC h';rw [zLA (V.str.inj this)];done)|(have:=zAI h';cases this;done)|(have:=zCS h';cases this;done)|(have:=xO h';cases this;done)|(have:=dQ h';cases this;done)|(obtain⟨_,_,e,_⟩:=xP h';cases e;done)|(obtain⟨_,_,e,_⟩:=bX h';cases e;done)|(obtain⟨_,e,_⟩:=gM h';cases e;done)|(obtain⟨_,_,_,_,_,e,_⟩:=bW h';cases e;done)
 |.typ b,f,v,h,h'=>by cases dQ h;cases f<;>first |(have:=dQ h';cases this;rfl;done)|(have:=zAI h';cases this;done)|(have:=zCS h';cases this;done)|(have:=xO h';cases this;done)|(have:=wC h';cases this;done)|(obtain⟨_,_,e,_⟩:=xP h';cases e;done)|(obtain⟨_,_,e,_⟩:=bX h';cases e;done)|(obtain⟨_,e,_⟩:=gM h';cases e;done)|(obtain⟨_,_,_,_,_,e,_⟩:=bW h';cases e;done)
 |.tup ds,f,v,h,h'=>by
  obtain⟨a,vs,rfl,s1,l1⟩:=xP h
  cases f with
  |tup es=>
   obtain⟨a2,us,e2,s2,l2⟩:=xP h'
   cases e2
   cases I.tuple_inj s1 s2
   rw [DenL.inj I wd l1 l2]
  |scr es=>obtain⟨a2,us,e2,s2,l2⟩:=bX h';cases e2;exact(zHR I s2.l s1).elim
  |loc l=>
   obtain⟨a2,e2,h2⟩:=gM h'
   cases e2
   obtain⟨ho,k1,k2,k3⟩:=wd.mem (mem_of_getElem? h2)
   rcases s1 with(s1|⟨o,s1⟩)|⟨o,its,n,s1,_⟩
   ·rw [k1]at s1;exact absurd (Option.some.inj s1) (k2 _)
   ·rw [k1]at s1;exact absurd (Option.some.inj s1) (k3 _ _)
   ·have:=(I.bs a o (I.mod.kin a o s1)).2;rw [k1]at this;cases this
  |non=>cases zAI h'
  |bl b=>cases zCS h'
  |int b=>cases xO h'
  |str b=>cases wC h'
  |typ b=>cases dQ h'
  |obj c ns es=>
   obtain⟨a2,C,dx,us,o2,e2,h2,_⟩:=bW h'
   cases e2
   rcases s1 with(s1|⟨o,s1⟩)|⟨o,its,n,s1,_⟩
   ·rw [h2]at s1;cases s1
   ·rw [h2]at s1;cases s1
   ·have:=(I.bs a o (I.mod.kin a o s1)).2;rw [h2]at this;cases this
 |.scr ds,f,v,h,h'=>by
  obtain⟨a,vs,rfl,s1,l1⟩:=bX h
  cases f with
  |scr es=>
   obtain⟨a2,us,e2,s2,l2⟩:=bX h'
   cases e2
   cases I.list_inj s1.l s2.l
   rw [DenL.inj I wd l1 l2]
  |tup es=>obtain⟨a2,us,e2,s2,l2⟩:=xP h';cases e2;exact(zHR I s1.l s2).elim
  |loc l=>
   obtain⟨a2,e2,h2⟩:=gM h'
   cases e2
   obtain⟨ho,k1,k2,k3⟩:=wd.mem (mem_of_getElem? h2)
   rcases s1 with⟨o,s1⟩|⟨o,its,n,s1,_⟩
   ·rw [k1]at s1;exact absurd (Option.some.inj s1) (k3 _ _)
   ·have:=(I.bs a o (I.mod.kin a o s1)).2;rw [k1]at this;cases this
  |non=>cases zAI h'
  |bl b=>cases zCS h'
  |int b=>cases xO h'
  |str b=>cases wC h'
  |typ b=>cases dQ h'
  |obj c ns es=>
   obtain⟨a2,C,dx,us,o2,e2,h2,_⟩:=bW h'
   cases e2
   rcases s1 with⟨o,s1⟩|⟨o,its,n,s1,_⟩
   ·rw [h2]at s1;cases s1
   ·have:=(I.bs a o (I.mod.kin a o s1)).2;rw [h2]at this;cases this
 |.loc l,f,v,h,h'=>by
  obtain⟨a,rfl,h1⟩:=gM h
  obtain⟨ho,k1,k2,k3⟩:=wd.mem (mem_of_getElem? h1)
  cases f with
  |loc m=>
   obtain⟨a2,e2,h2⟩:=gM h'
   cases e2
   by_cases hlm:l=m
   ·rw [hlm]
   ·exact absurd rfl (wd.ne h1 h2 hlm)
  |tup es=>
   obtain⟨a2,us,e2,s1,l2⟩:=xP h'
   cases e2
   rcases s1 with(s1|⟨o,s1⟩)|⟨o,its,n,s1,_⟩
   ·rw [k1]at s1;exact absurd (Option.some.inj s1) (k2 _)
   ·rw [k1]at s1;exact absurd (Option.some.inj s1) (k3 _ _)
   ·have:=(I.bs a o (I.mod.kin a o s1)).2;rw [k1]at this;cases this
  |scr es=>
   obtain⟨a2,us,e2,s1,l2⟩:=bX h'
   cases e2
   rcases s1 with⟨o,s1⟩|⟨o,its,n,s1,_⟩
   ·rw [k1]at s1;exact absurd (Option.some.inj s1) (k3 _ _)
   ·have:=(I.bs a o (I.mod.kin a o s1)).2;rw [k1]at this;cases this
  |non=>cases zAI h'
  |bl b=>cases zCS h'
  |int b=>cases xO h'
  |str b=>cases wC h'
  |typ b=>cases dQ h'
  |obj c ns es=>
   obtain⟨a2,C,dx,us,o2,e2,h2,_⟩:=bW h'
   cases e2
   rw [k1]at h2;exact absurd (Option.some.inj h2) (k3 _ _)
 |.obj c ns ds,f,v,h,h'=>by
  obtain⟨a,C,dx,us,o2,rfl,h2,hn,hc,hl,l1⟩:=bW h
  cases f with
  |obj c' ns' es=>
   obtain⟨a2,C2,dx2,us2,o3,e2,h3,hn2,hc2,hl2,l2⟩:=bW h'
   cases e2
   rw [h2]at h3
   injection h3 with h3
   injection h3 with _ h3
   injection h3 with e1 e2 e3
   subst e1
   rw [hc]at hc2
   cases hc2
   obtain⟨rfl,rfl⟩:=zXW hl hl2 e3
   rw [DenL.inj I wd l1 l2]
  |tup es=>
   obtain⟨a2,us,e2,s1,l2⟩:=xP h'
   cases e2
   rcases s1 with(s1|⟨o,s1⟩)|⟨o,its,n,s1,_⟩
   ·rw [h2]at s1;cases s1
   ·rw [h2]at s1;cases s1
   ·have:=(I.bs a o (I.mod.kin a o s1)).2;rw [h2]at this;cases this
  |scr es=>
   obtain⟨a2,us,e2,s1,l2⟩:=bX h'
   cases e2
   rcases s1 with⟨o,s1⟩|⟨o,its,n,s1,_⟩
   ·rw [h2]at s1;cases s1
   ·have:=(I.bs a o (I.mod.kin a o s1)).2;rw [h2]at this;cases this
  |loc l=>
   obtain⟨a2,e2,h1⟩:=gM h'
   cases e2
   obtain⟨ho,k1,k2,k3⟩:=wd.mem (mem_of_getElem? h1)
   rw [k1]at h2;exact absurd (Option.some.inj h2) (k3 _ _)
  |non=>cases zAI h'
  |bl b=>cases zCS h'
  |int b=>cases xO h'
  |str b=>cases wC h'
  |typ b=>cases dQ h'
theorem DenL.inj(I:Inv X pins σ H s)(wd:Wd X.g α S H): ∀{ds fs:List MV}{vs:List V},DenL X.K α H ds vs->DenL X.K α H fs vs->ds=fs
 |[],fs,vs,h,h'=>by
  cases h.isnil
  cases fs with
  |nil=>rfl
  |cons f fs=>obtain⟨_,_,e,_⟩:=h'.uncons;cases e
 |d::ds,fs,vs,h,h'=>by
  obtain⟨v,r,rfl,a,l⟩:=h.uncons
  cases fs with
  |nil=>cases h'.isnil
  |cons f fs=>
   obtain⟨v',r',e,a',l'⟩:=h'.uncons
   cases e
   rw [Den.inj I wd a a',DenL.inj I wd l l']
end
end
inductive LexR(A:Around)(s:Shared):List Value->List Value->Bool->Prop
 |nn:LexR A s [] [] false
 |nc (x xs):LexR A s [] (x::xs) true
 |cn (y ys):LexR A s (y::ys) [] false
 |eq {y x ys xs k}:SeqAt.EqAt A s y x true->LexR A s ys xs k->LexR A s (y::ys) (x::xs) k
 |ne {y x ys xs k}:SeqAt.EqAt A s y x false->(∀(prog:Program)(w:World)(E Q:VP),Q (.bool k) s->wpAny (model prog w) A (richCompare .Lt y x) Q E s)->LexR A s (y::ys) (x::xs) k
section
open PySem.SeqAt
open PySem.AutoSeq1 (wpAny_loadPart')
open PySem.MeetsSeq PySem.MeetsSeq2 PySem.MeetsSeq3
theorem zWG(l b:Addr)(its its2:Array Value)(n n2:Nat)(dd dd2:Option Addr)(sl sl2:Array (Option Value))(k:Bool):
  Meets (Builtin.«tuple.__lt__» ⟨[.ref l,.ref b],[]⟩)
   (λA R s=>s.heap.get? l=some {cls:=.type "tuple",dict:=dd,data:=.seq its n,slots:=sl}/\s.heap.get? b=some {cls:=.type "tuple",dict:=dd2,data:=.seq its2 n2,slots:=sl2}/\
    LexR A.in1 s its.toList its2.toList k/\R (.ok (.ret (.bool k))) s):=
 .of_wp λprog w A R s h=>by
  obtain⟨hp,g,d,tk,os⟩:=s;obtain⟨hl,hb,hx,h⟩:=h
  have f2:=AutoSeq1.sub_tuple_tuple
  wp_walk using wpAny_loadPart' hl,wpAny_loadPart' hb,wpAny_forIn_list _ (λgA b s'=>b.1=none/\s'=⟨hp,g,d,tk,os⟩/\ ∃(vs ws:List Value),gA=vs.zip ws/\
   LexR A.in1 ⟨hp,g,d,tk,os⟩ vs ws k/\vs.length+its2.size=ws.length+its.size) _
  case turn=>
   rintro⟨y,x⟩ gA b s' ⟨hb',rfl,vs,ws,hz,hlx,hlen⟩
   cases hlx with
   |nn=>rw [zip_nil_left]at hz;cases hz
   |nc x xs=>rw [zip_nil_left]at hz;cases hz
   |cn y ys=>rw [List.zip_nil_right]at hz;cases hz
   |@eq y' x' ys xs k' he hr=>
    rw [zip_cons_cons]at hz
    injection hz with hyx hrest
    injection hyx with hy hx
    subst hy hx
    simp only [lC]at hlen
    refine wB0 (he prog w _ _ ?_)
    wp_walk
    exact⟨rfl,rfl,_,_,hrest,hr,by omega⟩
   |@ne y' x' ys xs k' he hr=>
    rw [zip_cons_cons]at hz
    injection hz with hyx hrest
    injection hyx with hy hx
    subst hy hx
    refine wB0 (he prog w _ _ ?_)
    have hri:=hr prog w
    wp_walk using hri
    exact⟨_,rfl,by simpa using h⟩
  case fin=>
   rintro⟨b1,b2⟩ s' ⟨hb',rfl,vs,ws,hz,hlx,hlen⟩
   simp only at hb'
   subst hb'
   have hv:k=decide (its.size<its2.size):=by
    cases hlx with
    |nn=>simp only [length_nil]at hlen;exact(dF0 (by omega)).symm
    |nc x xs=>simp only [length_nil,lC]at hlen;exact(dT0 (by omega)).symm
    |cn y ys=>simp only [length_nil,lC]at hlen;exact(dF0 (by omega)).symm
    |eq he hr=>rw [zip_cons_cons]at hz;cases hz
    |ne he hr=>rw [zip_cons_cons]at hz;cases hz
   rw [hv]at h
   wp_walk
   exact⟨_,rfl,by simpa [Builtin.Tuple.tupleCompareSizes]using h⟩
  case h=>
   exact⟨rfl,rfl,its.toList,its2.toList,rfl,hx,by simp;omega⟩
end
theorem yDD{A:Around}{s:Shared}{l b:Addr}{its its2:Array Value}{k:Bool}(hl:IsTup s.heap l its)(hb:IsTup s.heap b its2)(hx:LexR A.in1 s its.toList its2.toList k)(hu:A.units<cLine)(prog:Program)(w:World)(E Q:VP)(h:Q (.bool k) s):
  wpAny (model prog w) A (richCompare .Lt (.ref l) (.ref b)) Q E s:=by
 obtain⟨⟨cls,dd,data,sl⟩,ho,hc,n,hd⟩:=id hl
 obtain⟨⟨cls2,dd2,data2,sl2⟩,ho2,hc2,n2,hd2⟩:=id hb
 simp only at hc hd hc2 hd2
 subst hc hd hc2 hd2
 exact richCompare_meets_room (op:=.Lt) ⟨_,ho,rfl⟩ ⟨_,ho2,rfl⟩ PySem.F.slot_tuple_lt PySem.F.entry_tuple_lt (PySem.F.args_tuple_lt_2 _ _) (zWG l b its its2 n n2 dd dd2 sl sl2 k)
  ⟨ho,ho2,hx,show Value.bool k≠Value.notImplemented/\Q (.bool k) s from⟨(λx=>nomatch x),h⟩⟩ hu
def zWH(e l:MV->MV->Option Bool):List MV->List MV->Option Bool
 |[],[]=>some false
 |[],_::_=>some true
 |_::_,[]=>some false
 |d::ds,f::fs=>(e d f).bind λk=>if k=true then zWH e l ds fs else l d f
def ltv(S:Sto):Nat->MV->MV->Option Bool
 |0,_,_=>none
 |n+1,.int i,.int j=>some (decide (i<j))
 |n+1,.str x,.str y=>some (decide (x<y))
 |n+1,.tup ds,.tup es=>zWH (eqv S n) (ltv S n) ds es
 |_,_,_=>none
section
variable{X:Cx}{α:List Addr}{S:Sto}{H:Hp}{pins:List (Addr×Obj)}{σ:St}{s:Shared}
theorem yDE{A:Around}{e l:MV->MV->Option Bool}(he: ∀d f x y u v k,Den X.K α H d x->Den X.K α H f y->RelV x u->RelV y v->e d f=some k->SeqAt.EqAt A s u v k)
  (hl: ∀d f x y u v k,Den X.K α H d x->Den X.K α H f y->RelV x u->RelV y v->l d f=some k-> ∀(prog:Program)(w:World)(E Q:VP),Q (.bool k) s->wpAny (model prog w) A (richCompare .Lt u v) Q E s):
  ∀{ds fs:List MV}{vs us:List V}{its its2:List Value}{k:Bool},DenL X.K α H ds vs->DenL X.K α H fs us->Vals vs its->Vals us its2->zWH e l ds fs=some k->LexR A s its its2 k
 |[],[],_,_,_,_,k,l1,l2,r1,r2,h=>by
  cases l1.isnil;cases l2.isnil;cases r1;cases r2;cases h;exact .nn
 |[],f::fs,_,_,_,_,k,l1,l2,r1,r2,h=>by
  cases l1.isnil
  obtain⟨v,r,rfl,a,l⟩:=l2.uncons
  cases r1
  cases r2 with
  |cons a b=>cases h;exact .nc _ _
 |d::ds,[],_,_,_,_,k,l1,l2,r1,r2,h=>by
  cases l2.isnil
  obtain⟨v,r,rfl,a,l⟩:=l1.uncons
  cases r2
  cases r1 with
  |cons a b=>cases h;exact .cn _ _
 |d::ds,f::fs,_,_,_,_,k,l1,l2,r1,r2,h=>by
  obtain⟨v,r,rfl,a,l1'⟩:=l1.uncons
  obtain⟨v2,r3,rfl,a2,l2'⟩:=l2.uncons
  cases r1 with
  |cons b1 c1=>
   cases r2 with
   |cons b2 c2=>
    unfold zWH at h
    cases z:e d f with
    |none=>rw [z]at h;cases h
    |some kk=>
     rw [z]at h
     have h:(if kk=true then zWH e l ds fs else l d f)=some k:=h
     cases kk with
     |true=>
      rw [iP rfl]at h
      exact .eq (he d f _ _ _ _ _ a a2 b1 b2 z) (yDE he hl l1' l2' c1 c2 h)
     |false=>
      rw [iN xF0]at h
      exact .ne (he d f _ _ _ _ _ a a2 b1 b2 z) (hl d f _ _ _ _ _ a a2 b1 b2 h)
theorem zWI(I:Inv X pins σ H s)(wd:Wd X.g α S H): ∀(n:Nat)(A:Around)(d f:MV)(x y:V)(u v:Value)(k:Bool),A.units+n<cLine->Den X.K α H d x->Den X.K α H f y->RelV x u->RelV y v->ltv S n d f=some k->
  ∀(prog:Program)(w:World)(E Q:VP),Q (.bool k) s->wpAny (model prog w) A (richCompare .Lt u v) Q E s
 |0,_,_,_,_,_,_,_,_,_,_,_,_,_,h=>by cases h
 |n+1,A,d,f,x,y,u,v,k,hu,h1,h2,rx,ry,h=>by
  intro prog w E Q hq
  unfold ltv at h
  split at h
  ·cases h
  ·cases h
   cases xO h1;cases xO h2
   obtain⟨t,rfl⟩:=rx
   obtain⟨t',rfl⟩:=ry
   exact(PyProof.Rows.lt_int hq:wpAny (model prog w) A (compareOp .Lt _ _) Q E s)
  ·cases h
   cases wC h1;cases wC h2
   obtain⟨t,rfl⟩:=rx
   obtain⟨t',rfl⟩:=ry
   refine(PySem.P.lt_str ?_:wpAny (model prog w) A (compareOp .Lt _ _) Q E s)
   rw [zFX,zFX]
   exact hq
  ·rename_i n' ds es hn
   obtain⟨a,vs,rfl,s1,l1⟩:=xP h1
   obtain⟨b,us,rfl,s2,l2⟩:=xP h2
   cases rx;cases ry
   obtain⟨its,r1,pt,_⟩:=I.tuple s1
   obtain⟨its2,r2,pt2,_⟩:=I.tuple s2
   cases hn
   refine yDD pt pt2 ?_ (by omega) prog w E Q hq
   exact yDE (λd f x y u v k a b c d' e=>zIW I wd n A.in1 d f x y u v k (show A.units+1+n<cLine by omega) a b c d' e)
    (λd f x y u v k a b c d' e=>zWI I wd n A.in1 d f x y u v k (show A.units+1+n<cLine by omega) a b c d' e) l1 l2 r1 r2 h
  ·cases h
end
section
variable{X:Cx}{W:XW}{a b c e:Expr}{es:List Expr}{f g h:AX}{af:Rho->Sto->R (List Er)}{pos:Pos}
def iiF(C:Int->Int->Prop)[∀i j,Decidable (C i j)](g:Int->Int->Int):Er->Er->Sto->R Er
 |.val (.int i),.val (.int j),S=>if C i j then .ok (.val (.int (g i j))) S else .no
 |_,_,_=>.no
def ibF(g:Int->Int->Bool):Er->Er->Sto->R Er
 |.val (.int i),.val (.int j),S=>.ok (.val (.bl (g i j))) S
 |_,_,_=>.no
theorem zWJ{C C':Int->Int->Prop}[∀i j,Decidable (C i j)]{g:Int->Int->Int}(h: ∀i j,C i j->C' i j):Op2 X W (rI C' λi j=>.int (g i j)) (iiF C g):=by
 intro p q x y α S H Q wd dp dq post
 unfold iiF at post
 split at post
 ·split at post
  ·rename_i hc
   exact⟨_,_,yX dp,yX dq,h _ _ hc,Post.val post wd (xN _)⟩
  ·exact post.elim
 ·exact post.elim
theorem yHZ{g:Int->Int->Int}:Op2 X W (rI0 λi j=>.int (g i j)) (iiF (λ_ _=>True) g):=by
 intro p q x y α S H Q wd dp dq post
 unfold iiF at post
 split at post
 ·rw [iP trivial]at post
  exact⟨_,_,yX dp,yX dq,Post.val post wd (xN _)⟩
 ·exact post.elim
abbrev zKQ:=iiF (λ_ _=>True) λi j=>i - j
theorem zIX(ha:PEm X W a f)(hb:PEm X W b g):PEm X W (.BinOp a .Sub b pos) (λρ S=>(f ρ S).bind λp S1=>(g ρ S1).bind λq S2=>zKQ p q S2):=zOV yMS yHZ ha hb
def zWK(_ j:Int):Prop:=0<j/\j.natAbs.log2<9000
instance(i j:Int):Decidable (zWK i j):=inferInstanceAs (Decidable (_/\_))
abbrev jA:=iiF zWK λi j=>i / j
theorem yDF:OpR X (binaryOp .FloorDiv) (rI zWK λi j=>.int (i / j)):=opI λi j _ _ _ _ _ hc q=>by
 have e:i.fdiv j=i / j:=Int.fdiv_eq_ediv_of_nonneg i (Int.le_of_lt hc.1)
 refine floordiv_int (by have:=hc.1;omega) ?_ (.inl (PyProof.noPylong_of_log2 hc.2))
 rw [e]
 exact q
theorem yV(ha:PEm X W a f)(hb:PEm X W b g):PEm X W (.BinOp a .FloorDiv b pos) (λρ S=>(f ρ S).bind λp S1=>(g ρ S1).bind λq S2=>jA p q S2):=zOV yDF (zWJ λi j h=>h) ha hb
abbrev wL:=iiF (λ_ j=>0<j) λi j=>i % j
theorem zY(ha:PEm X W a f)(hb:PEm X W b g):PEm X W (.BinOp a .Mod b pos) (λρ S=>(f ρ S).bind λp S1=>(g ρ S1).bind λq S2=>wL p q S2):=zOV yMT (zWJ λi j h=>h) ha hb
def yAZ(i j:Int):Prop:=0<=j/\(Builtin.Int.intBits i:Int) * j<=2 ^ 27
instance(i j:Int):Decidable (yAZ i j):=inferInstanceAs (Decidable (_/\_))
abbrev zKR:=iiF yAZ λi j=>i ^ j.toNat
theorem yIA:OpR X (binaryOp .Pow) (rI yAZ λi j=>.int (i ^ j.toNat)):=opI λ_ _ _ _ _ _ _ hc q=>pow_int hc.1 hc.2 q
theorem zME(ha:PEm X W a f)(hb:PEm X W b g):PEm X W (.BinOp a .Pow b pos) (λρ S=>(f ρ S).bind λp S1=>(g ρ S1).bind λq S2=>zKR p q S2):=zOV yIA (zWJ λi j h=>h) ha hb
def shlC(i j:Int):Prop:=0<=j/\j<=1000000/\i.natAbs<2 ^ 64
instance(i j:Int):Decidable (shlC i j):=inferInstanceAs (Decidable (_/\_/\_))
def usubF:Er->Sto->R Er
 |.val (.int i),S=>.ok (.val (.int (-i))) S
 |_,_=>.no
def lsW(S:Sto):Er->Option (List MV)
 |.new ds=>some ds
 |.val (.loc l)=>match S[l]? with
  |some (.lst ds)=>some ds
  |_=>none
 |_=>none
theorem zQO{α:List Addr}{S:Sto}{H:Hp}(wd:Wd X.g α S H){r:Er}{ds:List MV}{x:V}(e:lsW S r=some ds)(d:DenX X.K α H r x): ∃a vs,x=.ref a/\H a=some (.lst vs)/\DenL X.K α H ds vs:=by
 unfold lsW at e
 split at e
 ·cases e
  obtain⟨b,vs,rfl,h,_,l⟩:=d
  exact⟨b,vs,rfl,h,l⟩
 ·rename_i n
  obtain⟨a,rfl,h⟩:=zCF d
  split at e
  ·rename_i es hS
   cases e
   obtain⟨vs,h1,l⟩:=wd.obj n a _ h hS
   exact⟨a,vs,rfl,h1,l⟩
  ·cases e
 ·cases e
def zXX(p q:Er)(S:Sto):R Er:=match lsW S p,lsW S q with
 |some x,some y=>if x.length+y.length<=sizeLine then .ok (.new (x++y)) S else .no
 |_,_=>.no
def wP:Er->Er->Sto->R Er
 |.val (.int i),.val (.int j),S=>.ok (.val (.int (i+j))) S
 |.val (.str x),.val (.str y),S=>if x.length+y.length<=sizeLine then .ok (.val (.str (x++y))) S else .no
 |.val (.tup x),.val (.tup y),S=>if x.length+y.length<=sizeLine then .ok (.val (.tup (x++y))) S else .no
 |p,q,S=>zXX p q S
theorem yDG:OpR X (binaryOp .Add) (λx y H Q=> ∃a b ys,x=.ref a/\y=.ref b/\SqT X.K H a []/\SqT X.K H b ys/\Q (.ref b) H):=by
 intro pins s σ H x y v u Q I rx ry h
 obtain⟨a,b,ys,rfl,rfl,ha,hb,q⟩:=h
 cases rx
 cases ry
 obtain⟨its,r1,p1,_⟩:=I.tuple ha
 obtain⟨its2,r2,p2,_⟩:=I.tuple hb
 have e0:its=[]:=r1.nil_iff.mpr rfl
 subst e0
 obtain⟨⟨cls,dd,data,sl⟩,ho,hc,n,hd⟩:=id p1
 obtain⟨⟨cls2,dd2,data2,sl2⟩,ho2,hc2,n2,hd2⟩:=id p2
 simp only at hc hd hc2 hd2
 subst hc hd hc2 hd2
 exact concat_meets ⟨_,ho,rfl⟩ ⟨_,ho2,rfl⟩ noFill_tuple_add seq_tuple_add PySem.F.slot_tuple_add PySem.F.entry_tuple_add (PySem.F.args_tuple_add_2 _ _)
  (tuple_addW0 a b _ _ n n2 dd dd2 sl sl2 rfl) ⟨ho,ho2,⟨.ref b,H,I,rfl,q⟩⟩
theorem yP(ha:PEm X W a f)(hb:PEm X W b g):PEm X W (.BinOp a .Add b pos) (λρ S=>(f ρ S).bind λp S1=>(g ρ S1).bind λq S2=>wP p q S2):=by
 refine zOV (yMR.or (zVR.or (yNF.or (yHI.or yDG)))) ?_ ha hb
 intro p q x y α S H Q wd dp dq post
 unfold wP at post
 split at post
 ·exact .inl ⟨_,_,yX dp,yX dq,Post.val post wd (xN _)⟩
 ·split at post
  ·rename_i hz
   refine .inr (.inl ⟨_,_,bY dp,bY dq,by rw [kS,kS];exact hz,?_⟩)
   rw [yHP]
   exact Post.val post wd (nV _)
  ·exact post.elim
 ·split at post
  ·rename_i xx yy hz
   obtain⟨a1,vs,rfl,s1,l1⟩:=zAJ dp
   obtain⟨a2,us,rfl,s2,l2⟩:=zAJ dq
   by_cases h0:vs=[]
   ·subst h0
    have e0:=l1.length
    refine .inr (.inr (.inr (.inr ⟨a1,a2,us,rfl,rfl,s1,s2,?_⟩)))
    have:xx=[]:=by cases xx with |nil=>rfl|cons _ _=>simp at e0
    subst this
    exact Post.val post wd (zDI s2 l2)
   ·refine .inr (.inr (.inr (.inl ⟨a1,a2,vs,us,rfl,rfl,s1,s2,h0,by rw [l1.length,l2.length];exact hz,λh1=>?_,λh1 p hp=>Post.newt post wd hp (l1.append l2)⟩)))
    subst h1
    have e0:=l2.length
    have:yy=[]:=by cases yy with |nil=>rfl|cons _ _=>simp at e0
    subst this
    rw [aN]at post
    exact Post.val post wd (zDI s1 l1)
  ·exact post.elim
 ·unfold zXX at post
  split at post
  ·rename_i ds1 ds2 e1 e2
   split at post
   ·rename_i hz
    obtain⟨a1,vs,rfl,h1,l1⟩:=zQO wd e1 dp
    obtain⟨a2,us,rfl,h2,l2⟩:=zQO wd e2 dq
    exact .inr (.inr (.inl ⟨a1,a2,vs,us,rfl,rfl,h1,h2,by rw [l1.length,l2.length];exact hz,λp hp=>Post.newl post wd hp (l1.append l2)⟩))
   ·exact post.elim
  ·exact post.elim
def mulC(i j:Int):Prop:=(-(2 ^ 64)<i/\i<2 ^ 64)\/(-(2 ^ 64)<j/\j<2 ^ 64)\/(i.natAbs.log2<4000/\j.natAbs.log2<4000)
theorem zXY{i:Int}(h:i.natAbs.log2<4000):Builtin.Int.intBits i<=2 ^ 20:=by
 have e:(2:Nat) ^ 20=1048576:=by decide
 unfold Builtin.Int.intBits
 split<;>omega
theorem mulC.ok{i j:Int}(h:mulC i j):IntMulOk i j:=by
 rcases h with h|h|⟨h1,h2⟩
 ·exact CMul.ok (.inl h)
 ·exact CMul.ok (.inr h)
 ·exact .of_bits (zXY h1) (zXY h2)
theorem yIB{X:Cx}:OpR X (binaryOp .Mult) (rI mulC λi j=>.int (i * j)):=opI λ_ _ _ _ _ _ _ hc q=>mul_int q hc.ok
instance(i j:Int):Decidable (mulC i j):=inferInstanceAs (Decidable (_\/_\/_))
def yLH(p:Er)(k:Int)(S:Sto):R Er:=match lsW S p with
 |some x=>if 0<=k/\k<100000/\x.length * k.toNat<=sizeLine then .ok (.new (List.replicate k.toNat x).flatten) S else .no
 |none=>.no
def zEW:Er->Er->Sto->R Er
 |.val (.int i),.val (.int j),S=>if mulC i j then .ok (.val (.int (i * j))) S else .no
 |.val (.str x),.val (.int k),S=>if 0<=k/\k<1000/\x.length<=1000 then .ok (.val (.str (zLS x k))) S else .no
 |p,.val (.int k),S=>yLH p k S
 |_,_,_=>.no
theorem DenL.rep{K:PySem.W.Frag}{α:List Addr}{H:Hp}{ds:List MV}{vs:List V}(l:DenL K α H ds vs): ∀k:Nat,DenL K α H (List.replicate k ds).flatten (List.replicate k vs).flatten
 |0=>yI
 |k+1=>by rw [replicate_succ,flatten_cons,replicate_succ,flatten_cons];exact l.append (DenL.rep l k)
theorem zAK(ha:PEm X W a f)(hb:PEm X W b g):PEm X W (.BinOp a .Mult b pos) (λρ S=>(f ρ S).bind λp S1=>(g ρ S1).bind λq S2=>zEW p q S2):=by
 refine zOV (yIB.or (zWB.or yNG)) ?_ ha hb
 intro p q x y α S H Q wd dp dq post
 unfold zEW at post
 split at post
 ·split at post
  ·rename_i hc
   exact .inl ⟨_,_,yX dp,yX dq,hc,Post.val post wd (xN _)⟩
  ·exact post.elim
 ·split at post
  ·rename_i hc
   exact .inr (.inl ⟨_,_,bY dp,yX dq,hc.1,hc.2.1,hc.2.2,Post.val post wd (nV _)⟩)
  ·exact post.elim
 ·unfold yLH at post
  split at post
  ·rename_i ds e1
   split at post
   ·rename_i hc
    obtain⟨a1,vs,rfl,h1,l1⟩:=zQO wd e1 dp
    exact .inr (.inr ⟨a1,_,vs,rfl,yX dq,h1,by omega,by omega,by rw [l1.length];exact hc.2.2,λp hp=>Post.newl post wd hp (l1.rep _)⟩)
   ·exact post.elim
  ·exact post.elim
 ·exact post.elim
def zM:Nat:=40
def eqF(p q:Er)(S:Sto):R Er:=match zMC S zM p q with
 |some k=>.ok (.val (.bl k)) S
 |none=>.no
def neF(p q:Er)(S:Sto):R Er:=match zMC S zM p q with
 |some k=>.ok (.val (.bl !k)) S
 |none=>.no
theorem yDH(hu:X.A.units+64<cLine):OpR X (compareOp .Eq) (λx y H Q=> ∃α S p q k,Wd X.g α S H/\DenX X.K α H p x/\DenX X.K α H q y/\zMC S zM p q=some k/\Q (.bl k) H):=by
 intro pins s σ H x y v u Q I rx ry h
 obtain⟨α,S,p,q,k,wd,dp,dq,e,hq⟩:=h
 exact yNW I wd zM (by unfold zM;omega) dp dq rx ry e X.prog X.w _ _ ⟨.bl k,H,I,rfl,hq⟩
theorem yDI(hu:X.A.units+64<cLine):OpR X (compareOp .NotEq) (λx y H Q=> ∃α S p q k,Wd X.g α S H/\DenX X.K α H p x/\DenX X.K α H q y/\zMC S zM p q=some k/\Q (.bl (!k)) H):=by
 intro pins s σ H x y v u Q I rx ry h
 obtain⟨α,S,p,q,k,wd,dp,dq,e,hq⟩:=h
 exact yNX I wd zM (by unfold zM;omega) dp dq rx ry e X.prog X.w _ _ ⟨.bl (!k),H,I,rfl,hq⟩
theorem zXZ:Op2 X W (λx y H Q=> ∃α S p q k,Wd X.g α S H/\DenX X.K α H p x/\DenX X.K α H q y/\zMC S zM p q=some k/\Q (.bl k) H) eqF:=by
 intro p q x y α S H Q wd dp dq post
 unfold eqF at post
 split at post
 ·rename_i k e
  exact⟨α,S,p,q,k,wd,dp,dq,e,Post.val post wd (gK _)⟩
 ·exact post.elim
theorem zYA:Op2 X W (λx y H Q=> ∃α S p q k,Wd X.g α S H/\DenX X.K α H p x/\DenX X.K α H q y/\zMC S zM p q=some k/\Q (.bl (!k)) H) neF:=by
 intro p q x y α S H Q wd dp dq post
 unfold neF at post
 split at post
 ·rename_i k e
  exact⟨α,S,p,q,k,wd,dp,dq,e,Post.val post wd (gK _)⟩
 ·exact post.elim
theorem yLI(hu:X.A.units+64<cLine)(ha:PEm X W a f)(hb:PEm X W b g):PEm X W (.Compare a [.Eq] [b] pos) (λρ S=>(f ρ S).bind λp S1=>(g ρ S1).bind λq S2=>eqF p q S2):=zMA (yDH hu) zXZ ha hb
theorem zAL(hu:X.A.units+64<cLine)(ha:PEm X W a f)(hb:PEm X W b g):PTm X W (.Compare a [.Eq] [b] pos) (λρ S=>((f ρ S).bind λp S1=>(g ρ S1).bind λq S2=>eqF p q S2).bind asB):=zHC (yDH hu) zXZ ha hb
theorem pm_ne(hu:X.A.units+64<cLine)(ha:PEm X W a f)(hb:PEm X W b g):PEm X W (.Compare a [.NotEq] [b] pos) (λρ S=>(f ρ S).bind λp S1=>(g ρ S1).bind λq S2=>neF p q S2):=zMA (yDI hu) zYA ha hb
theorem yLJ(hu:X.A.units+64<cLine)(ha:PEm X W a f)(hb:PEm X W b g):PTm X W (.Compare a [.NotEq] [b] pos) (λρ S=>((f ρ S).bind λp S1=>(g ρ S1).bind λq S2=>neF p q S2).bind asB):=zHC (yDI hu) zYA ha hb
def ltF:Er->Er->Sto->R Er
 |.val d,.val f,S=>match ltv S zM d f with
  |some k=>.ok (.val (.bl k)) S
  |none=>.no
 |_,_,_=>.no
theorem yNY(hu:X.A.units+64<cLine):OpR X (compareOp .Lt) (λx y H Q=> ∃α S d f k,Wd X.g α S H/\Den X.K α H d x/\Den X.K α H f y/\ltv S zM d f=some k/\Q (.bl k) H):=by
 intro pins s σ H x y v u Q I rx ry h
 obtain⟨α,S,d,f,k,wd,dp,dq,e,hq⟩:=h
 exact zWI I wd zM X.A d f x y v u k (by unfold zM;omega) dp dq rx ry e X.prog X.w _ _ ⟨.bl k,H,I,rfl,hq⟩
theorem yIC:Op2 X W (λx y H Q=> ∃α S d f k,Wd X.g α S H/\Den X.K α H d x/\Den X.K α H f y/\ltv S zM d f=some k/\Q (.bl k) H) ltF:=by
 intro p q x y α S H Q wd dp dq post
 unfold ltF at post
 split at post
 ·split at post
  ·rename_i k e
   exact⟨α,S,_,_,k,wd,dp,dq,e,Post.val post wd (gK _)⟩
  ·exact post.elim
 ·exact post.elim
theorem yLK(hu:X.A.units+64<cLine)(ha:PEm X W a f)(hb:PEm X W b g):PTm X W (.Compare a [.Lt] [b] pos) (λρ S=>((f ρ S).bind λp S1=>(g ρ S1).bind λq S2=>ltF p q S2).bind asB):=zHC (yNY hu) yIC ha hb
def zTF:Er->Er->Sto->R Er
 |.val .non,.val .non,S=>.ok (.val (.bl true)) S
 |_,.val .non,S=>.ok (.val (.bl false)) S
 |_,_,_=>.no
theorem yDJ{α:List Addr}{H:Hp}{p:Er}{x:V}(d:DenX X.K α H p x)(n:p≠.val .non):decide (x=.non)=false:=by
 cases p with
 |new ds=>obtain⟨b,vs,rfl,_⟩:=d;rfl
 |val m=>
  cases m with
  |non=>exact absurd rfl n
  |bl b=>cases zKE d;rfl
  |int b=>cases yX d;rfl
  |str b=>cases bY d;rfl
  |typ b=>cases yNQ d;rfl
  |obj b b' b''=>obtain⟨_,_,_,_,_,rfl,_⟩:=yNR d;rfl
  |tup b=>obtain⟨_,_,rfl,_⟩:=zAJ d;rfl
  |scr b=>obtain⟨_,_,rfl,_⟩:=zLZ d;rfl
  |loc b=>obtain⟨_,rfl,_⟩:=zCF d;rfl
theorem yID:Op2 X W (λx y H Q=>y=.non/\Q (.bl (decide (x=.non))) H) zTF:=by
 intro p q x y α S H Q wd dp dq post
 unfold zTF at post
 split at post
 ·cases zLY dp;exact⟨zLY dq,Post.val post wd (gK _)⟩
 ·rename_i p' S' hn
  rw [yDJ dp (λz=>by first |exact hn z|exact hn z rfl|exact hn _ z|exact hn rfl z)]
  exact⟨zLY dq,Post.val post wd (gK _)⟩
 ·exact post.elim
theorem yLL(ha:PEm X W a f)(hb:PEm X W b g):PEm X W (.Compare a [.Is] [b] pos) (λρ S=>(f ρ S).bind λp S1=>(g ρ S1).bind λq S2=>zTF p q S2):=zMA yMV yID ha hb
def getL(ds:List MV):Er->Sto->R Er
 |.val (.int i),S=>match atI ds i with |some d=>.ok (.val d) S|none=>.no
 |_,_=>.no
def ixF:Er->Er->Sto->R Er
 |.val (.str x),.val (.int i),S=>if x.length<=sizeLine then match atI x i with |some c=>.ok (.val (.str [c])) S|none=>.no else .no
 |.val (.tup ds),q,S=>getL ds q S
 |p,q,S=>match jP S p with |some ds=>getL ds q S|none=>.no
theorem yIE{K:PySem.W.Frag}{α:List Addr}{H:Hp}{ds:List MV}{vs:List V}{i:Int}{d:MV}(l:DenL K α H ds vs)(e:atI ds i=some d): ∃v,atI vs i=some v/\Den K α H d v:=by
 unfold atI at e ⊢
 rw [l.length]
 cases z:ixN ds.length i with
 |none=>rw [z]at e;cases e
 |some j=>
  rw [z]at e
  obtain⟨v,h1,h2⟩:=l.at (show ds[j]? =some d from e)
  exact⟨v,h1,h2⟩
theorem zQ(ha:PEm X W a f)(hb:PEm X W b g)(hs:zQB b:=by exact λ_ _=>rfl):PEm X W (.Subscript a b pos) (λρ S=>(f ρ S).bind λp S1=>(g ρ S1).bind λq S2=>ixF p q S2):=by
 refine pm_ix yNC ?_ ha hb hs
 intro p q x y α S H Q wd dp dq post
 have key: ∀{ds:List MV}{vs:List V}{i:Int}{d:MV},DenL X.K α H ds vs->atI ds i=some d->Post X.g W α H (.ok (Er.val d) S) Q-> ∃v,atI vs i=some v/\Q v H:=λl e post=>by
  obtain⟨v,h1,h2⟩:=yIE l e
  exact⟨v,h1,Post.val post wd h2⟩
 unfold ixF at post
 split at post
 ·split at post
  ·rename_i hz
   split at post
   ·rename_i ch e
    refine .inr (.inr ⟨_,_,ch,bY dp,yX dq,by rw [kS];exact hz,by rw [zFX];exact e,?_⟩)
    exact Post.val post wd (nV [ch])
   ·exact post.elim
  ·exact post.elim
 ·unfold getL at post
  split at post
  ·split at post
   ·rename_i d e
    obtain⟨a1,vs,rfl,s1,l1⟩:=zAJ dp
    obtain⟨v,h1,h2⟩:=key l1 e post
    exact .inr (.inl ⟨a1,vs,_,v,rfl,yX dq,s1,h1,h2⟩)
   ·exact post.elim
  ·exact post.elim
 ·split at post
  ·rename_i ds el
   unfold getL at post
   split at post
   ·split at post
    ·rename_i d e
     obtain⟨a1,vs,rfl,s1,l1⟩:=zGT rfl wd el dp
     obtain⟨v,h1,h2⟩:=key l1 e post
     exact .inl ⟨a1,vs,_,v,rfl,yX dq,s1,h1,h2⟩
    ·exact post.elim
   ·exact post.elim
  ·exact post.elim
end
theorem zNX{prog:Program}{w:World}{A:Around}{E:VP}{s:Shared}{t sl:Addr}{its:Array Value}{vl vu:Value}{lo hi:Option Int}{Q:VP}(ht:IsTup s.heap t its)(hs:s.heap.IsSliceOf sl vl vu .none)(pl:IsPart vl lo)(pu:IsPart vu hi)
  (h0:HT.sIx its.size 0 lo=0) (h1:HT.sIx its.size its.size hi=its.size) (h:Q (.ref t) s):wpAny (model prog w) A (getItem (.ref t) (.ref sl)) Q E s:=by
 have hTs:s.TypeIs (.ref sl) "slice":=by obtain⟨os,hos,hcs,_⟩:=id hs;exact⟨os,hos,hcs⟩
 have hTt:=ht.typeIs
 unfold getItem
 try with_reducible refine wpAny_holding ?_
 first |refine wB0 (wP0 ?_)|skip
 refine wB0 (wpAny_sequenceKey hTt (by decide) ?_)
 refine wB0 (wpAny_callSpecial?_slot (name:=Str.ofString "__getitem__") hTt PyProof.Rows.slot_tuple_getitem (wpAny_call_entry PyProof.Rows.slot_tuple_getitem hTt entry_tuple_getitem ?_ (args_tuple_getitem _ _)))
 show wpAny _ _ (Builtin.Tuple.tupleItemsOf (.ref t) >>= _) _ _ s
 refine wB0 (tupleItemsOf_ ht (wB0 (wpAny_typeOf hTs ?_)))
 rw [iP (by decide)]
 refine wB0 (HT.sliceApplied_gen hs pl pu ?_)
 show wpAny _ _ (if(((HT.sIx its.size 0 lo:Nat):Int)==0&&(1:Int)==1&&(HT.sIx its.size its.size hi - HT.sIx its.size 0 lo)==its.size)=true then _ else _) _ _ s
 rw [iP (by rw [h0,h1];simp)]
 unfold Builtin.Tuple.tupleIsExact
 refine wB0 (wB0 (wpAny_typeOf hTt (wP0 ?_)))
 rw [iP (by decide)]
 refine wB0 (wpAny_rule ?_)
 first
  |exact wP0 ⟨_,rfl,wP0 h⟩
  |exact wB0 (wP0 (wP0 ⟨_,rfl,wP0 h⟩))
  |exact wB0 (wP0 ⟨_,rfl,wP0 h⟩)
section
variable{X:Cx}{W:XW}{a b c e:Expr}{es:List Expr}{f g h:AX}{af:Rho->Sto->R (List Er)}{pos:Pos}
theorem yIF:SlR X (λx lo hi H Q=> ∃a xs,x=.ref a/\SqT X.K H a xs/\HT.sIx xs.length 0 lo=0/\HT.sIx xs.length xs.length hi=xs.length/\Q (.ref a) H):=by
 intro pins s σ H x v vl vu lo hi sl Q I rx hs pl pu h
 obtain⟨a,xs,rfl,hx,h0,h1,q⟩:=h
 cases rx
 obtain⟨its,r,ht,hz⟩:=I.tuple hx
 have hlen:its.toArray.size=xs.length:=by rw [sA0];exact r.length.symm
 exact⟨"tuple",_,PyProof.Rows.slot_tuple_getitem.lookup,ht.typeIs,zNX ht hs pl pu (by rw [hlen];exact h0) (by rw [hlen];exact h1) ⟨.ref a,H,I,rfl,q⟩⟩
def zCH:Er->Option Int->Option Int->Sto->R Er
 |.val (.str x),lo,hi,S=>if x.length<=sizeLine then .ok (.val (.str (gI x lo hi))) S else .no
 |.val (.tup ds),lo,hi,S=>.ok (.val (.tup (gI ds lo hi))) S
 |p,lo,hi,S=>match jP S p with |some ds=>.ok (.new (gI ds lo hi)) S|none=>.no
theorem yBA{α:Type}{ds:List α}{lo hi:Option Int}(h0:HT.sIx ds.length 0 lo=0)(h1:HT.sIx ds.length ds.length hi=ds.length):gI ds lo hi=ds:=by
 unfold gI
 rw [h0,h1]
 simp
theorem gO{lo hi:Option Expr}{lf hf:Rho->Sto->R (Option Int)}{p2:Pos}(ha:PEm X W a f)(hl:POm X W lo lf)(hh:POm X W hi hf):PEm X W (.Subscript a (.Slice lo hi none p2) pos) (λρ S=>(f ρ S).bind λp S1=>(lf ρ S1).bind λl S2=>(hf ρ S2).bind λu S3=>zCH p l u S3):=by
 refine yCY (yNJ.or (yHK.or (yNB.or yIF))) ?_ ha hl hh
 intro p lo hi x α S H Q wd dp post
 unfold zCH at post
 split at post
 ·split at post
  ·rename_i hz
   exact .inl ⟨_,bY dp,hz,Post.val post wd (nV _)⟩
  ·exact post.elim
 ·rename_i _ _ _ ds
  obtain⟨a1,vs,rfl,s1,l1⟩:=zAJ dp
  by_cases hw:HT.sIx vs.length 0 lo=0/\HT.sIx vs.length vs.length hi=vs.length
  ·have e:gI ds lo hi=ds:=yBA (by rw [<-l1.length];exact hw.1) (by rw [<-l1.length];exact hw.2)
   rw [e]at post
   exact .inr (.inr (.inr ⟨a1,vs,rfl,s1,hw.1,hw.2,Post.val post wd (zDI s1 l1)⟩))
  ·exact .inr (.inr (.inl ⟨a1,vs,rfl,s1,hw,λp hp=>Post.newt post wd hp (l1.cut lo hi)⟩))
 ·split at post
  ·rename_i ds el
   obtain⟨a1,vs,rfl,s1,l1⟩:=zGT rfl wd el dp
   exact .inr (.inl ⟨a1,vs,rfl,s1,λp hp=>Post.newl post wd hp (l1.cut lo hi)⟩)
  ·exact post.elim
theorem DenL.pick{K:PySem.W.Frag}{α:List Addr}{H:Hp}{ds:List MV}{vs:List V}(l:DenL K α H ds vs): ∀idx:List Nat,DenL K α H (idx.filterMap (ds[·]?)) (idx.filterMap (vs[·]?))
 |[]=>yI
 |i::idx=>by
  cases z:ds[i]? with
  |none=>
   have z2:vs[i]? =none:=by rw [List.getElem?_eq_none_iff,l.length];exact List.getElem?_eq_none_iff.mp z
   rw [List.filterMap_cons_none z,List.filterMap_cons_none z2]
   exact DenL.pick l idx
  |some d=>
   obtain⟨v,h1,h2⟩:=l.at z
   rw [filterMap_cons_some z,filterMap_cons_some h1]
   exact yG h2 (DenL.pick l idx)
theorem Vals.pick{xs:List V}{us:List Value}(r:Vals xs us): ∀idx:List Nat,Vals (idx.filterMap (xs[·]?)) (idx.filterMap (us[·]?))
 |[]=>.nil
 |i::idx=>by
  cases z:xs[i]? with
  |none=>rw [List.filterMap_cons_none z,List.filterMap_cons_none (r.none_of z)];exact Vals.pick r idx
  |some d=>
   obtain⟨v,h1,h2⟩:=r.get z
   rw [filterMap_cons_some z,filterMap_cons_some h1]
   exact .cons h2 (Vals.pick r idx)
end
section
variable{X:Cx}{W:XW}{a b c e:Expr}{es:List Expr}{f g h:AX}{af:Rho->Sto->R (List Er)}{pos:Pos}
def zTG(S:Sto)(n:Nat)(d:MV):List MV->Option (List Bool)
 |[]=>some []
 |y::ys=>(eqv S n y d).bind λk=>(zTG S n d ys).map (k::·)
section
variable{α:List Addr}{S:Sto}{H:Hp}{pins:List (Addr×Obj)}{σ:St}{s:Shared}
noncomputable def zTH(X:Cx)(α:List Addr)(S:Sto)(H:Hp)(n:Nat)(d:MV)(u:Value):Bool:=open Classical in decide (∃y x,Den X.K α H y x/\RelV x u/\eqv S n y d=some true)
open Classical in
theorem yIG(I:Inv X pins σ H s)(wd:Wd X.g α S H){n:Nat}{d y:MV}{x:V}{u:Value}{k:Bool}(dy:Den X.K α H y x)(r:RelV x u)(e:eqv S n y d=some k):zTH X α S H n d u=k:=by
 unfold zTH
 cases k with
 |true=>exact dT0 ⟨y,x,dy,r,e⟩
 |false=>
  refine dF0 λ⟨y',x',dy',r',e'⟩=>?_
  have ex:=r.inj r'
  subst ex
  rw [dy.inj I wd dy']at e
  rw [e]at e'
  cases e'
theorem zHT(I:Inv X pins σ H s)(wd:Wd X.g α S H){n:Nat}{A:Around}{d:MV}{x:V}{v:Value}(hu:A.units+n<cLine)(dd:Den X.K α H d x)(rx:RelV x v): ∀{ys:List MV}{vs:List V}{us:List Value}{bs:List Bool},DenL X.K α H ys vs->Vals vs us->zTG S n d ys=some bs->
  us.map (zTH X α S H n d)=bs/\ ∀u∈us,SeqAt.EqAt A s u v (zTH X α S H n d u)
 |[],_,_,bs,l,r,e=>by
  cases l.isnil;cases r;cases e
  exact⟨rfl,λu hu=>by cases hu⟩
 |y::ys,_,_,bs,l,r,e=>by
  obtain⟨v',r',rfl,dy,l'⟩:=l.uncons
  cases r with
  |cons r1 r2=>
   unfold zTG at e
   cases z:eqv S n y d with
   |none=>rw [z]at e;cases e
   |some k=>
    rw [z]at e
    cases z2:zTG S n d ys with
    |none=>simp [z2]at e
    |some cs=>
     simp [z2]at e
     subst e
     obtain⟨h1,h2⟩:=zHT I wd hu dd rx l' r2 z2
     have h3:=yIG I wd dy r1 z
     refine⟨by rw [map_cons,h1,h3],λu hu'=>?_⟩
     rcases mC.mp hu' with rfl|hu'
     ·rw [h3];exact zIW I wd n A y d _ _ _ _ k hu dy dd r1 rx z
     ·exact h2 u hu'
end
theorem any_map{us:List Value}{f:Value->Bool}{bs:List Bool}(h:us.map f=bs):us.toArray.any f=bs.any id:=by
 subst h
 simp [List.any_map]
def itemsOf(S:Sto):Er->Option (List MV)
 |.val (.tup ds)=>some ds
 |r=>jP S r
theorem zMF{α:List Addr}{S:Sto}{H:Hp}(wd:Wd X.g α S H){r:Er}{ds:List MV}{x:V}(e:itemsOf S r=some ds)(d:DenX X.K α H r x): ∃a vs,x=.ref a/\(SqL X.K H a vs\/SqT X.K H a vs)/\DenL X.K α H ds vs:=by
 unfold itemsOf at e
 split at e
 ·cases e
  obtain⟨a,vs,rfl,s,l⟩:=zAJ d
  exact⟨a,vs,rfl,.inr s,l⟩
 ·obtain⟨a,vs,rfl,s,l⟩:=zGT rfl wd e d
  exact⟨a,vs,rfl,.inl s,l⟩
def zHE(neg:Bool)(p q:Er)(S:Sto):R Er:=match p with
 |.val d=>match itemsOf S q with
  |some ys=>match zTG S zM d ys with
   |some bs=>.ok (.val (.bl (if neg=true then !bs.any id else bs.any id))) S
   |none=>.no
  |none=>.no
 |.new _=>.no
def inF(neg:Bool):Er->Er->Sto->R Er
 |.val (.str [c]),.val (.str y),S=>.ok (.val (.bl (if neg=true then !decide (c∈y)else decide (c∈y)))) S
 |p,q,S=>zHE neg p q S
abbrev yDK(X:Cx)(neg:Bool):R2:=λx y H Q=> ∃α S d q ys bs,Wd X.g α S H/\Den X.K α H d x/\DenX X.K α H q y/\itemsOf S q=some ys/\zTG S zM d ys=some bs/\Q (.bl (if neg=true then !bs.any id else bs.any id)) H
theorem yNZ(hu:X.A.units+64<cLine):OpR X (compareOp .In) (yDK X false):=by
 intro pins s σ H x y v u Q I rx ry h
 obtain⟨α,S,d,q,ys,bs,wd,dd,dq,ei,ea,hq⟩:=h
 obtain⟨a,vs,rfl,sq,l⟩:=zMF wd ei dq
 cases ry
 rcases sq with sq|sq
 ·obtain⟨its,r,pl,_⟩:=I.list sq
  obtain⟨h1,h2⟩:=zHT I wd (A:=X.A.in1) (by show X.A.units+1+zM<cLine;unfold zM;omega) dd rx l r ea
  refine SeqAt.in_listAt (zTH X α S H zM d) pl.isList (λw hw=>h2 w (by simpa using hw)) ⟨.bl _,H,I,rfl,?_⟩
  rw [any_map h1]
  exact hq
 ·obtain⟨its,r,pl,_⟩:=I.tuple sq
  obtain⟨h1,h2⟩:=zHT I wd (A:=X.A.in1) (by show X.A.units+1+zM<cLine;unfold zM;omega) dd rx l r ea
  refine SeqAt.in_tupleAt (zTH X α S H zM d) pl (λw hw=>h2 w (by simpa using hw)) ⟨.bl _,H,I,rfl,?_⟩
  rw [any_map h1]
  exact hq
theorem yBB(hu:X.A.units+64<cLine):OpR X (compareOp .NotIn) (yDK X true):=by
 intro pins s σ H x y v u Q I rx ry h
 obtain⟨α,S,d,q,ys,bs,wd,dd,dq,ei,ea,hq⟩:=h
 obtain⟨a,vs,rfl,sq,l⟩:=zMF wd ei dq
 cases ry
 rcases sq with sq|sq
 ·obtain⟨its,r,pl,_⟩:=I.list sq
  obtain⟨h1,h2⟩:=zHT I wd (A:=X.A.in1) (by show X.A.units+1+zM<cLine;unfold zM;omega) dd rx l r ea
  refine SeqAt.notIn_listAt (zTH X α S H zM d) pl.isList (λw hw=>h2 w (by simpa using hw)) ⟨.bl _,H,I,rfl,?_⟩
  rw [any_map h1]
  exact hq
 ·obtain⟨its,r,pl,_⟩:=I.tuple sq
  obtain⟨h1,h2⟩:=zHT I wd (A:=X.A.in1) (by show X.A.units+1+zM<cLine;unfold zM;omega) dd rx l r ea
  refine SeqAt.notIn_tupleAt (zTH X α S H zM d) pl (λw hw=>h2 w (by simpa using hw)) ⟨.bl _,H,I,rfl,?_⟩
  rw [any_map h1]
  exact hq
theorem zQP{neg:Bool}:Op2 X W (λx y H Q=>(∃i j,x=.str i/\y=.str j/\Q (.bl (if neg=true then !(!(Builtin.Str.occurrences j i 0 j.length 1).isEmpty)else !(Builtin.Str.occurrences j i 0 j.length 1).isEmpty)) H)\/yDK X neg x y H Q) (inF neg):=by
 intro p q x y α S H Q wd dp dq post
 unfold inF at post
 split at post
 ·refine .inl ⟨_,_,bY dp,bY dq,?_⟩
  rw [<-yHQ,PySem.StrLaws.found_one,zFX]
  exact Post.val post wd (gK _)
 ·unfold zHE at post
  split at post
  ·rename_i d _
   split at post
   ·rename_i ys ei
    split at post
    ·rename_i bs ea
     exact .inr ⟨α,S,_,q,ys,bs,wd,dp,dq,ei,ea,Post.val post wd (gK _)⟩
    ·exact post.elim
   ·exact post.elim
  ·exact post.elim
theorem OpR.imp{f:Value->Value->Sem Value}{r r':R2}(h:OpR X f r)(i: ∀x y H Q,r' x y H Q->r x y H Q):OpR X f r':=λpins s σ H x y v u Q I rx ry q=>h pins s σ H x y v u Q I rx ry (i x y H Q q)
theorem yDL(hu:X.A.units+64<cLine):OpR X (compareOp .In) (λx y H Q=>(∃i j,x=.str i/\y=.str j/\Q (.bl (if(false:Bool)=true then !(!(Builtin.Str.occurrences j i 0 j.length 1).isEmpty)else !(Builtin.Str.occurrences j i 0 j.length 1).isEmpty)) H)\/yDK X false x y H Q):=
 OpR.imp (yAK.or (yNZ hu)) λx y H Q q=>q.imp (λq=>q) λq=>q
theorem yBC(hu:X.A.units+64<cLine):OpR X (compareOp .NotIn) (λx y H Q=>(∃i j,x=.str i/\y=.str j/\Q (.bl (if(true:Bool)=true then !(!(Builtin.Str.occurrences j i 0 j.length 1).isEmpty)else !(Builtin.Str.occurrences j i 0 j.length 1).isEmpty)) H)\/yDK X true x y H Q):=
 OpR.imp (zPZ.or (yBB hu)) λx y H Q q=>q.imp (λq=>q) λq=>q
theorem pm_in(hu:X.A.units+64<cLine)(ha:PEm X W a f)(hb:PEm X W b g)(hm:behindInMarks .In b=false:=by with_unfolding_all rfl):PEm X W (.Compare a [.In] [b] pos) (λρ S=>(f ρ S).bind λp S1=>(g ρ S1).bind λq S2=>inF false p q S2):=zMA (yDL hu) zQP ha hb hm
theorem yDM(hu:X.A.units+64<cLine)(ha:PEm X W a f)(hb:PEm X W b g)(hm:behindInMarks .In b=false:=by with_unfolding_all rfl):PTm X W (.Compare a [.In] [b] pos) (λρ S=>((f ρ S).bind λp S1=>(g ρ S1).bind λq S2=>inF false p q S2).bind asB):=zHC (yDL hu) zQP ha hb hm
theorem zAM(hu:X.A.units+64<cLine)(ha:PEm X W a f)(hb:PEm X W b g)(hm:behindInMarks .NotIn b=false:=by with_unfolding_all rfl):PTm X W (.Compare a [.NotIn] [b] pos) (λρ S=>((f ρ S).bind λp S1=>(g ρ S1).bind λq S2=>inF true p q S2).bind asB):=zHC (yBC hu) zQP ha hb hm
theorem zAN{K:PySem.W.Frag}{α:List Addr}{H:Hp}{r:Er}{vs:List V}(d:ArgsX K α H [r] vs): ∃v,vs=[v]/\DenX K α H r v:=by
 cases d with
 |cons a l=>cases l;exact⟨_,rfl,a⟩
theorem argx2{K:PySem.W.Frag}{α:List Addr}{H:Hp}{r r':Er}{vs:List V}(d:ArgsX K α H [r,r'] vs): ∃v u,vs=[v,u]/\DenX K α H r v/\DenX K α H r' u:=by
 cases d with
 |cons a l=>obtain⟨u,rfl,l'⟩:=zAN l;exact⟨_,u,rfl,a,l'⟩
def zDK:List Er->Sto->R Er
 |[.val (.str x)],S=>if x.length<=sizeLine then .ok (.val (.int x.length)) S else .no
 |[r],S=>match itemsOf S r with |some ds=>.ok (.val (.int ds.length)) S|none=>.no
 |_,_=>.no
theorem dS:zCT X W (λxs H Q=>(∃z,xs=[.str z]/\z.length<=sizeLine/\Q (.int z.length) H)\/ ∃p ys,xs=[.ref p]/\(SqL X.K H p ys\/SqT X.K H p ys)/\Q (.int ys.length) H) zDK:=by
 intro rs vs α S H Q wd d post
 unfold zDK at post
 split at post
 ·split at post
  ·rename_i hz
   obtain⟨v,rfl,dv⟩:=zAN d
   cases bY dv
   refine .inl ⟨_,rfl,by rw [kS];exact hz,?_⟩
   rw [kS]
   exact Post.val post wd (xN _)
  ·exact post.elim
 ·split at post
  ·rename_i ds e
   obtain⟨v,rfl,dv⟩:=zAN d
   obtain⟨a,us,rfl,sq,l⟩:=zMF wd e dv
   refine .inr ⟨a,us,rfl,sq,?_⟩
   rw [l.length]
   exact Post.val post wd (xN _)
  ·exact post.elim
 ·exact post.elim
theorem xQ:CallR X (.builtin "len") (λxs H Q=>(∃z,xs=[.str z]/\z.length<=sizeLine/\Q (.int z.length) H)\/ ∃p ys,xs=[.ref p]/\(SqL X.K H p ys\/SqT X.K H p ys)/\Q (.int ys.length) H):=zQE.or zQD
def zEK:List MV->Option (List Bool)
 |[]=>some []
 |.bl b::r=>(zEK r).map (b::·)
 |_::_=>none
theorem zIY{K:PySem.W.Frag}{α:List Addr}{H:Hp}: ∀{ds:List MV}{bs:List Bool}{vs:List V},zEK ds=some bs->DenL K α H ds vs->vs=bs.map V.bl
 |[],_,_,e,l=>by cases e;exact l.isnil
 |d::r,bs,_,e,l=>by
  cases d with
  |bl b=>
   unfold zEK at e
   cases z:zEK r with
   |none=>rw [z]at e;cases e
   |some cs=>
    rw [z]at e
    cases e
    obtain⟨v,us,rfl,dv,l'⟩:=l.uncons
    rw [zCS dv,zIY z l']
    rfl
  |_=>cases e
def allF:List Er->Sto->R Er
 |[r],S=>match (jP S r).bind zEK with |some bs=>.ok (.val (.bl (bs.all id))) S|none=>.no
 |_,_=>.no
def anyF:List Er->Sto->R Er
 |[r],S=>match (jP S r).bind zEK with |some bs=>.ok (.val (.bl (bs.any id))) S|none=>.no
 |_,_=>.no
theorem yOA(hc:X.calm=true):zCT X W (λxs H Q=> ∃(a:Addr)(bs:List Bool),xs=[.ref a]/\SqL X.K H a (bs.map V.bl)/\X.calm=true/\Q (.bl (bs.all id)) H) allF:=by
 intro rs vs α S H Q wd d post
 unfold allF at post
 split at post
 ·split at post
  ·rename_i bs e
   obtain⟨v,rfl,dv⟩:=zAN d
   cases z:jP S _ with
   |none=>rw [z]at e;cases e
   |some ds=>
    rw [z]at e
    obtain⟨a1,us,rfl,s,l⟩:=zGT rfl wd z dv
    refine⟨a1,bs,rfl,?_,hc,Post.val post wd (gK _)⟩
    rw [<-zIY e l]
    exact s
  ·exact post.elim
 ·exact post.elim
def yOB(S:Sto):Er->Option String
 |.val .non=>some "NoneType"
 |.val (.bl _)=>some "bool"
 |.val (.int _)=>some "int"
 |.val (.str _)=>some "str"
 |.val (.tup _)=>some "tuple"
 |.val (.typ _)=>none
 |.val (.obj _ _ _)=>none
 |r=>(jP S r).map λ_=>"list"
def isiB(t T:String):Bool:=t==T || (t=="bool"&&T=="int")
def known(T:String):Bool:=T=="int" || T=="bool" || T=="str" || T=="tuple" || T=="list"
def yBD:List Er->Sto->R Er
 |[r,.val (.typ T)],S=>match yOB S r with
  |some t=>if known T=true then .ok (.val (.bl (isiB t T))) S else .no
  |none=>.no
 |_,_=>.no
def zDL:List Er->Sto->R Er
 |[.val (.tup ds)],S=>.ok (.val (.tup ds)) S
 |[r],S=>match jP S r with |some ds=>.ok (.val (.tup ds)) S|none=>.no
 |_,_=>.no
theorem zHU:zCT X W (λxs H Q=> ∃p ys,xs=[.ref p]/\((SqL X.K H p ys/\ ∀l,H l=none->Q (.ref l) (upd H l (.tup ys)))\/(SqT X.K H p ys/\Q (.ref p) H))) zDL:=by
 intro rs vs α S H Q wd d post
 unfold zDL at post
 split at post
 ·obtain⟨v,rfl,dv⟩:=zAN d
  obtain⟨a,us,rfl,sq,l⟩:=zAJ dv
  exact⟨a,us,rfl,.inr ⟨sq,Post.val post wd (zDI sq l)⟩⟩
 ·split at post
  ·rename_i ds e
   obtain⟨v,rfl,dv⟩:=zAN d
   obtain⟨a,us,rfl,sq,l⟩:=zGT rfl wd e dv
   exact⟨a,us,rfl,.inl ⟨sq,λp hp=>Post.newt post wd hp l⟩⟩
  ·exact post.elim
 ·exact post.elim
theorem gP:bootBuiltins "len"=some (.builtin "len"):=by decide+kernel
theorem yOC:bootBuiltins "all"=some (.builtin "all"):=by decide+kernel
theorem yOD:bootBuiltins "any"=some (.builtin "any"):=by decide+kernel
theorem yOE:bootBuiltins "int"=some (.type "int"):=by decide+kernel
theorem zHV:bootBuiltins "tuple"=some (.type "tuple"):=by decide+kernel
theorem zYB:bootBuiltins "list"=some (.type "list"):=by decide+kernel
end
def digN(n:Nat):List Nat:=(Nat.toDigits 10 n).map Char.toNat
def decL(i:Int):List Nat:=if i<0 then 45::digN i.natAbs else digN i.natAbs
section
variable{X:Cx}{W:XW}{a b c e o i:Expr}{es:List Expr}{f g h:AX}{af:Rho->Sto->R (List Er)}{pos apos:Pos}
def strF:List Er->Sto->R Er
 |[.val (.int i)],S=>if i.natAbs.log2<1920 then .ok (.val (.str (decL i))) S else .no
 |[.val (.str x)],S=>.ok (.val (.str x)) S
 |_,_=>.no
theorem zTI:CallR X (.type "int") (λxs H Q=>((∃i,xs=[.int i]/\Q (.int i) H)\/ ∃k,xs=[.bl k]/\Q (.int (if k then 1 else 0)) H)\/ ∃x n,xs=[.str x]/\PySem.intText? x=some n/\x.length<=640/\Q (.int n) H):=by
 refine yAL.or ?_
 intro pins s σ H xs us Q I r h
 obtain⟨x,n,rfl,hn,hl,q⟩:=h
 obtain⟨u,rfl,t,rfl⟩:=vals1 r
 exact PySem.W.KIN.call_text hn hl ⟨.int n,H,I.tok _,⟨_,rfl⟩,q⟩
def intF:List Er->Sto->R Er
 |[.val (.int i)],S=>.ok (.val (.int i)) S
 |[.val (.bl k)],S=>.ok (.val (.int (if k then 1 else 0))) S
 |[.val (.str x)],S=>match PySem.intText? (mkS x)with
  |some n=>if x.length<=640 then .ok (.val (.int n)) S else .no
  |none=>.no
 |_,_=>.no
theorem yOF:zCT X W (λxs H Q=>((∃i,xs=[.int i]/\Q (.int i) H)\/ ∃k,xs=[.bl k]/\Q (.int (if k then 1 else 0)) H)\/ ∃x n,xs=[.str x]/\PySem.intText? x=some n/\x.length<=640/\Q (.int n) H) intF:=by
 intro rs vs α S H Q wd d post
 unfold intF at post
 split at post
 ·obtain⟨v,rfl,dv⟩:=zAN d
  cases yX dv
  exact .inl (.inl ⟨_,rfl,Post.val post wd (xN _)⟩)
 ·obtain⟨v,rfl,dv⟩:=zAN d
  cases zKE dv
  exact .inl (.inr ⟨_,rfl,Post.val post wd (xN _)⟩)
 ·obtain⟨v,rfl,dv⟩:=zAN d
  cases bY dv
  split at post
  ·rename_i n hn
   split at post
   ·rename_i hz
    exact .inr ⟨_,n,rfl,hn,by rw [kS];exact hz,Post.val post wd (xN _)⟩
   ·exact post.elim
  ·exact post.elim
 ·exact post.elim
def jQ(p:Er)(S:Sto):Bool:=(jP S p).isSome
theorem zQQ:TyM X "list" jQ:=by
 intro p x α S H wd d h
 unfold jQ at h
 cases z:jP S p with
 |none=>rw [z]at h;cases h
 |some ds=>
  obtain⟨a,vs,rfl,s,l⟩:=zGT rfl wd z d
  exact .inl ⟨rfl,vs,s⟩
def strIdx(x y:List Nat):Option Nat:=(Builtin.Str.occurrences (mkS x) (mkS y) 0 (mkS x).length 1).head?
def sidxF:Er->List Er->Sto->R Er
 |.val (.str x),[.val (.str y)],S=>match strIdx x y with |some i=>.ok (.val (.int (i:Nat))) S|none=>.no
 |_,_,_=>.no
def zHW(p:Er)(S:Sto)(G:List MV->Option (List MV)):R Er:=match p with
 |.val (.loc l)=>match S[l]? with
  |some (.lst ds)=>match G ds with
   |some es=>.ok (.val .non) (S.set l (.lst es))
   |none=>.no
  |_=>.no
 |_=>.no
theorem zIZ{α0 α:List Addr}{H0 H:Hp}{S:Sto}{p:Er}{x:V}{G:List MV->Option (List MV)}{Q:VK}(wd:Wd X.g α S H)(x0:Ext α0 H0 α H)(dp:DenX X.K α H p x)(post:Post X.g W α0 H0 (zHW p S G) Q):
  ∃a vs ds es,x=.ref a/\H a=some (.lst vs)/\DenL X.K α H ds vs/\G ds=some es/\ ∀us,DenL X.K α H es us->Q .non (upd H a (.lst us)):=by
 unfold zHW at post
 split at post
 ·rename_i l
  obtain⟨a,rfl,h⟩:=zCF dp
  obtain⟨ob,h1,h2⟩:=wd.of h
  rw [h1]at post
  cases ob with
  |lst ds=>
   obtain⟨vs,h3,l1⟩:=h2
   have post:Post X.g W α0 H0 (match G ds with |some es=>R.ok (Er.val .non) (S.set l (.lst es))|none=>R.no) Q:=post
   split at post
   ·rename_i es eg
    refine⟨a,vs,ds,es,rfl,h3,l1,eg,λus lu=>?_⟩
    have xw:=wd.writex h (o:=.lst us)
    exact(post.shift (x0.trans xw)).val (wd.write h ⟨us,yS,lu.ext xw⟩) zHO
   ·exact post.elim
  |dic _=>exact post.elim
  |ins _ _=>exact post.elim
 ·exact post.elim
def zKS:Er->List Er->Sto->R Er
 |p,[r],S=>(dR r S).bind λy S1=>zHW p S1 λds=>if ds.length<sizeLine then some (ds++[y])else none
 |_,_,_=>.no
theorem yBE:zWD X W zXN zKS:=by
 intro p rs x vs α S H0 H Q α0 wd x0 dp da post
 match rs,da,post with
 |[],_,post=>exact post.elim
 |_::_::_,_,post=>exact post.elim
 |[r],da,post=>
  cases da with
  |cons d n l=>
   cases l
   obtain⟨d',S',α',e',x',y',w',dd⟩:=zCU wd x0 d
   have post:Post X.g W α0 H0 ((dR r S).bind λy S1=>zHW p S1 λds=>if ds.length<sizeLine then some (ds++[y])else none) Q:=post
   rw [e']at post
   have dp':DenX X.K α' H p x:=by
    cases p with
    |val m=>exact Den.ex0 y' dp
    |new ds=>exact post.elim
   obtain⟨a,us,ds,es,rfl,h1,l1,eg,k⟩:=zIZ w' x' dp' post
   split at eg
   ·rename_i hz
    cases eg
    exact⟨a,us,_,rfl,rfl,h1,by rw [l1.length];exact hz,k _ (l1.append (yG dd yI))⟩
   ·cases eg
theorem gF(ho:PEm X W a f)(ha:PAm X W (e::es) af)
  (hbase:attributeBase a "append" X.env (eval a X.env)=eval a X.env:=by rfl)
  (hfew:((backTo pos (starEach (e::es) X.env)).all (λx=>!x.1)&&(backToKw pos (keywordEach [] X.env)).all (λx=>x.1.isSome)
   &&decide ((e::es).length+([]:List Keyword).length+(if([]:List Keyword).isEmpty then 0 else 1)<30))=true:=by rfl)
  (hline:(apos.endLine==pos.line)=true:=by rfl) (hs:starEach (e::es) X.env=(false,eval e X.env)::starEach es X.env:=by rfl) (hplain:(backTo pos (starEach es X.env)).any (·.1)=false:=by rfl):
  PEm X W (.Call (.Attribute a "append" apos) (e::es) [] pos) (λρ S=>(f ρ S).bind λp S1=>if jQ p S1=true then(af ρ S1).bind λrs S2=>zKS p rs S2 else .no):=
 zXS PySem.F.plainAttrs_list PySem.F.slot_list_append PySem.F.type_list_append yAO yBE zQQ ho ha hbase hfew hline hs hplain
def clrF:Er->List Er->Sto->R Er
 |p,[],S=>zHW p S λ_=>some []
 |_,_,_=>.no
def yBF:Er->List Er->Sto->R Er
 |p,[],S=>zHW p S λds=>some ds.reverse
 |_,_,_=>.no
theorem zWL:zWD X W zSR yBF:=by
 intro p rs x vs α S H0 H Q α0 wd x0 dp da post
 match rs,da,post with
 |_::_,_,post=>exact post.elim
 |[],.nil,post=>
  have post:Post X.g W α0 H0 (zHW p S λds=>some ds.reverse) Q:=post
  obtain⟨a,us,ds,es,rfl,h1,l1,eg,k⟩:=zIZ wd x0 dp post
  cases eg
  exact⟨a,us,rfl,rfl,h1,k _ l1.reverse⟩
theorem zMG(ho:PEm X W a f)(hbase:attributeBase a "reverse" X.env (eval a X.env)=eval a X.env:=by rfl)(hline:(apos.endLine==pos.line)=true:=by rfl):
  PEm X W (.Call (.Attribute a "reverse" apos) [] [] pos) (λρ S=>(f ρ S).bind λp S1=>if jQ p S1=true then yBF p [] S1 else .no):=
 zTB PySem.F.plainAttrs_list PySem.F.slot_list_reverse PySem.F.type_list_reverse zVX zWL zQQ ho hbase hline
def zTJ(p q:Er)(d:MV)(ρ:Rho)(S:Sto):R Rho:=match p,q with
 |.val (.loc l),.val (.int k)=>match S[l]? with
  |some (.lst ds)=>match ixN ds.length k with
   |some j=>.ok ρ (S.set l (.lst (ds.set j d)))
   |none=>.no
  |_=>.no
 |_,_=>.no
theorem yOG(ho:PEm X W o f)(hi:PEm X W i g)
  (ha: ∀v,assign (.Subscript o i pos) X.env v=(do
   let ov <-holding [v] (eval o X.env)
   let iv <-holding [v,ov] (eval i X.env)
   standAt pos
   holding [v,ov,iv] (setItem ov iv v)
   release [v,ov,iv] []):=by intro _;rfl):PGm X W (.Subscript o i pos) (λd ρ S=>(f ρ S).bind λp S1=>(g ρ S1).bind λq S2=>zTJ p q d ρ S2):=by
 obtain⟨to,ho,fo⟩:=ho
 obtain⟨ti,hi,fi⟩:=hi
 refine⟨_,yCF ho hi set_list ha,λα ρ S σ H d v Q wd sl de q=>fo α ρ S σ H _ wd sl (q.bind λu p S1 α1 H1 e1 x1 w1 d1 q1=>fi α1 ρ S1 σ H1 _ w1 (sl.ext x1) ((q1.shift x1).bind λu2 p2 S2 α2 H2 e2 x2 w2 d2 q2=>?_))⟩
 replace q2:=q2.shift x2
 have d1':=DenX.ext x2 d1.1
 unfold zTJ at q2
 split at q2
 ·rename_i l k
  obtain⟨a,rfl,h⟩:=zCF d1'
  cases yX d2.1
  obtain⟨ob,h1,h2⟩:=w2.of h
  rw [h1]at q2
  cases ob with
  |lst ds=>
   obtain⟨vs,h3,l1⟩:=h2
   have q2:Post X.g W α2 H2 (match ixN ds.length k with |some j=>R.ok ρ (S2.set l (.lst (ds.set j d)))|none=>R.no) Q:=q2
   split at q2
   ·rename_i j ej
    have xw:=w2.writex h (o:=.lst (vs.set j v))
    have sl2:=((sl.ext x1).ext x2).ext xw
    exact⟨a,vs,k,j,rfl,rfl,h3,by rw [l1.length];exact ej,q2 σ α2 _ xw (w2.write h ⟨_,yS,(l1.set ((de.ext x1).ext x2) j).ext xw⟩) sl2⟩
   ·exact q2.elim
  |dic _=>exact q2.elim
  |ins _ _=>exact q2.elim
 ·exact q2.elim
end
theorem _root_.L2.Inv.turnedL{X:Cx}{pins:List (Addr×Obj)}{σ:St}{H:Hp}{s:Shared}{h':Heap}{t':Nat}{fp:List Addr}(I:Inv X pins σ H s)(k: ∀b o,b∉fp->s.heap.get? b=some o->h'.get? b=some o)
  (hf: ∀b∈fp,zGX X pins H b):Inv X pins σ H {s with heap:=h',toks:=t'}:=by
 have nit: ∀b u,H b=some u->b∉fp:=λb u e z=>by rw [(hf b z).1]at e;cases e
 refine I.step (g':=s.gens) (d':=s.drawn) (ch:=fp) (λb hb=>⟨(hf b hb).2.2.2.1,(hf b hb).2.1,(hf b hb).2.2.2.2.1,(hf b hb).2.2.2.2.2⟩) (λb o _ _ hc e _=>k b o hc e) (λb o _ _ hc e _=>⟨o.slots,k b o hc e⟩) (λ_ _ _ _ n=>n)
  (λb o hc e=>⟨o,k b o hc e⟩) (λ_ _ e=>e) (λ_ _ _ e=>e) (λb ps e=>⟨#[],by rw [e];simp⟩) (λm hm=>?_) (λb u e=>?_) I.bare
 ·obtain⟨o,es,ep,ho,r⟩:=hm
  exact⟨o,es,ep,k _ o (λz=>(hf _ z).2.1 rfl) ho,r⟩
 ·refine(I.hok b u e).stay (λc v hc q=>k c v ?_ q) (λ_ q=>q) λ_ _ q=>q
  rcases hc with z|z
  ·rw [z];exact nit b u e
  ·exact nit c _ z
def IsSub(k:Bool)(h:Heap)(it l:Addr)(i:Nat):Prop:=if k=true then h.IsListIter it l i else h.IsTupleIter it l i
def zKF(k:Bool)(h:Heap)(l:Addr)(its:Array Value):Prop:=if k=true then h.IsList l its else h.IsTuple l its
def zJA(k:Bool)(l:Addr):Obj:={cls:=.type (if k=true then "list_iterator" else "tuple_iterator"),data:=.fields #[.ref l,.int 0 0]}
theorem IsSub.mk'{k:Bool}{h:Heap}{it l:Addr}(e:h.get? it=some (zJA k l)):IsSub k h it l 0:=by
 cases k with
 |true=>exact⟨_,e,rfl,rfl⟩
 |false=>exact⟨_,e,rfl,rfl⟩
theorem IsSub.there{k:Bool}{h:Heap}{it l:Addr}{i:Nat}(x:IsSub k h it l i): ∃o,h.get? it=some o/\ ∀v,o.data≠.cell v:=by
 cases k with
 |true=>obtain⟨o,e,_,d⟩:=(x:h.IsListIter it l i);exact⟨o,e,λv z=>by rw [d]at z;cases z⟩
 |false=>obtain⟨o,e,_,d⟩:=(x:h.IsTupleIter it l i);exact⟨o,e,λv z=>by rw [d]at z;cases z⟩
theorem IsSub.move{k:Bool}{h h':Heap}{it l:Addr}{i:Nat}(x:IsSub k h it l i)(f: ∀o,h.get? it=some o->h'.get? it=some o):IsSub k h' it l i:=by
 cases k with
 |true=>obtain⟨o,e,r⟩:=(x:h.IsListIter it l i);exact⟨o,f o e,r⟩
 |false=>obtain⟨o,e,r⟩:=(x:h.IsTupleIter it l i);exact⟨o,f o e,r⟩
section
variable{prog:Program}{w:World}{A:Around}{E:VP}{s:Shared}
theorem zMH{k:Bool}{l:Addr}{its:Array Value}{Q:VP}(hl:zKF k s.heap l its)(h:Q (.ref s.heap.objs.size) {s with heap:=s.heap.push (zJA k l)}):wpAny (model prog w) A (pyIter (.ref l)) Q E s:=by
 cases k with
 |true=>exact wpAny_pyIter_list hl h
 |false=>exact wpAny_pyIter_tuple hl h
theorem yDN{k:Bool}{it l:Addr}{i:Nat}{its:Array Value}{x:Value}{Q:VP}(hit:IsSub k s.heap it l i)(hl:zKF k s.heap l its)(hx:its[i]? =some x)
  (hQ: ∀h',IsSub k h' it l (i+1)->Heap.SameBut it s.heap h'->Q x {s with heap:=h'}):wpAny (model prog w) A (Builtin.SmallTypes.nextOf (.ref it)) Q E s:=by
 cases k with
 |true=>exact wpAny_nextOf_list_item hit hl hx hQ
 |false=>
  have hit':s.heap.IsTupleIter it l i:=hit
  obtain⟨o,ho,hc,hd⟩:=id hit'
  obtain⟨ol,hol,_,nl,hdl⟩:=(hl:s.heap.IsTuple l its)
  unfold Builtin.SmallTypes.nextOf
  refine wB0 (wpAny_callSpecial?_slot (name:=Str.ofString "__next__") hit'.typeIs F.slot_tuple_iterator_next (wpAny_call_entry F.slot_tuple_iterator_next hit'.typeIs F.entry_tuple_iterator_next ?_ (F.args_tuple_iterator_next_1 _)))
  show wpAny _ _ (field (.ref it) 0 >>= _) _ _ s
  refine wB0 (wpAny_field ho hd (x:=.ref l) rfl ?_)
  show wpAny _ _ (if(Value.ref l==Value.none)=true then _ else _) _ _ s
  rw [iN (show¬((Value.ref l==Value.none)=true)from xF0)]
  show wpAny _ _ (field (.ref it) 1 >>= _) _ _ s
  refine wB0 (wpAny_field ho hd (x:=.int i 0) rfl ?_)
  show wpAny _ _ (seqItems? (.ref l) >>= _) _ _ s
  refine wB0 (wpAny_seqItems hol hdl ?_)
  simp only [toNat_natCast,hx]
  refine wB0 (wpAny_setField ho hd (by simp) (wP0 ⟨x,rfl,wP0 (hQ _ ?_ (Heap.SameBut.update ..))⟩))
  exact⟨_,Heap.get?_update_self _ ho (Obj.isFreed_of_fields (Obj.data_mapFields hd _)),(Obj.cls_mapFields ..).trans hc,by rw [Obj.data_mapFields hd];simp [rawInt]⟩
theorem yIH{k:Bool}{it l:Addr}{i:Nat}{its:Array Value}{Q:VP}(hh:A.handled=none)(hit:IsSub k s.heap it l i)(hl:zKF k s.heap l its)(hx:its[i]? =none)
  (hE: ∀h' e,Heap.ExtBut it s.heap h'->(∃o,h'.get? e=some o/\o.cls=.type "StopIteration")->E (.ref e) {s with heap:=h'}):wpAny (model prog w) A (Builtin.SmallTypes.nextOf (.ref it)) Q E s:=by
 cases k with
 |true=>exact wpAny_nextOf_list_end hh hit hl hx hE
 |false=>
  have hit':s.heap.IsTupleIter it l i:=hit
  obtain⟨o,ho,hc,hd⟩:=id hit'
  obtain⟨ol,hol,_,nl,hdl⟩:=(hl:s.heap.IsTuple l its)
  unfold Builtin.SmallTypes.nextOf
  refine wB0 (wpAny_callSpecial?_slot (name:=Str.ofString "__next__") hit'.typeIs F.slot_tuple_iterator_next (wpAny_call_entry F.slot_tuple_iterator_next hit'.typeIs F.entry_tuple_iterator_next ?_ (F.args_tuple_iterator_next_1 _)))
  show wpAny _ _ (field (.ref it) 0 >>= _) _ _ s
  refine wB0 (wpAny_field ho hd (x:=.ref l) rfl ?_)
  show wpAny _ _ (if(Value.ref l==Value.none)=true then _ else _) _ _ s
  rw [iN (show¬((Value.ref l==Value.none)=true)from xF0)]
  show wpAny _ _ (field (.ref it) 1 >>= _) _ _ s
  refine wB0 (wpAny_field ho hd (x:=.int i 0) rfl ?_)
  show wpAny _ _ (seqItems? (.ref l) >>= _) _ _ s
  refine wB0 (wpAny_seqItems hol hdl ?_)
  simp only [toNat_natCast,hx]
  refine wB0 (wpAny_rule (wB0 (wpAny_setField ho hd (by simp) ?_)))
  show wpAny _ _ (newExc (.type "StopIteration") [] >>= _) _ _ _
  refine wB0 ?_
  simp only [newExc,newTuple]
  refine wB0 (wpAny_newObj_type ?_ (by size_fits))
  refine wB0 (m:=firstArgMember _ _) (wpAny_of_eq (a:=Value.none) (by first |rfl|(simp only [firstArgMember];rfl)) ?_)
  refine wpAny_newObj_type ?_ (by size_fits)
  simp only [raiseNew]
  refine wB0 (wpAny_handled ?_)
  first |rw [show A.in1.handled=none from hh]|rw [hh]
  refine wB0 (wP0 (wpAny_throw ?_))
  exact hE _ _ (((Heap.SameBut.update ..).extBut.push _).push _) ⟨_,Heap.get?_push_size _ rfl,rfl⟩
end
def SqK(k:Bool)(K:PySem.W.Frag)(H:Hp)(a:Addr)(xs:List V):Prop:=if k=true then SqL K H a xs else SqT K H a xs
section
variable{X:Cx}{pins:List (Addr×Obj)}{σ:St}{H:Hp}{s:Shared}
theorem _root_.L2.Inv.seqK(I:Inv X pins σ H s){k:Bool}{a:Addr}{xs:List V}(h:SqK k X.K H a xs): ∃its:List Value,Vals xs its/\zKF k s.heap a its.toArray/\xs.length<=sizeLine:=by
 cases k with
 |true=>obtain⟨its,r,p,z⟩:=I.list h;exact⟨its,r,p.isList,z⟩
 |false=>obtain⟨its,r,p,z⟩:=I.tuple h;exact⟨its,r,p,z⟩
theorem _root_.L2.Inv.seqK_inj(I:Inv X pins σ H s){k:Bool}{a:Addr}{xs ys:List V}(h:SqK k X.K H a xs)(h':SqK k X.K H a ys):xs=ys:=by
 cases k with
 |true=>exact I.list_inj h h'
 |false=>exact I.tuple_inj h h'
end
structure Sr where
 k:Bool
 ds:List MV
 gs:List (Nat×List MV)
def srcOf(S:Sto):Er->Option Sr
 |.val (.tup ds)=>some ⟨false,ds,[]⟩
 |.new ds=>some ⟨true,ds,[]⟩
 |.val (.scr ds)=>some ⟨true,ds,[]⟩
 |.val (.loc l)=>match S[l]? with
  |some (.lst ds)=>some ⟨true,ds,[(l,ds)]⟩
  |_=>none
 |_=>none
structure SrcD(X:Cx)(q:Sr)(l:Addr)(P:List Addr->Sto->Hp->Prop):Prop where
 get: ∀α S H,P α S H-> ∃vs,SqK q.k X.K H l vs/\DenL X.K α H q.ds vs
 stays: ∀α1 S1 H1 α2 S2 H2,P α1 S1 H1->Ext α1 H1 α2 H2->Wd X.g α2 S2 H2->stay q.gs S2->P α2 S2 H2
 st: ∀α S H,P α S H->stay q.gs S
theorem yDO{X:Cx}{α:List Addr}{S:Sto}{H:Hp}(wd:Wd X.g α S H){r:Er}{x:V}{q:Sr}(e:srcOf S r=some q)(d:DenX X.K α H r x): ∃l P,x=.ref l/\P α S H/\SrcD X q l P:=by
 unfold srcOf at e
 split at e
 ·rename_i ds
  cases e
  obtain⟨a,vs,rfl,s,l⟩:=zAJ d
  exact⟨a,λα S H=> ∃vs,SqT X.K H a vs/\DenL X.K α H ds vs,rfl,⟨vs,s,l⟩,λα S H h=>h,λα1 S1 H1 α2 S2 H2 ⟨vs,h1,h2⟩ x w _=>⟨vs,x.sqT h1,h2.ext x⟩,λ_ _ _ _=>jO⟩
 ·rename_i ds
  cases e
  obtain⟨b,vs,rfl,h,n,l⟩:=d
  exact⟨b,λα S H=> ∃vs,H b=some (.lst vs)/\b∉α/\DenL X.K α H ds vs,rfl,⟨vs,h,n,l⟩,λα S H ⟨vs,h1,_,h2⟩=>⟨vs,(SqL.of h1:SqL X.K H b vs),h2⟩,
   λα1 S1 H1 α2 S2 H2 ⟨vs,h1,h2,h3⟩ x w _=>⟨vs,x.keep b _ h1 h2,x.out h1 h2,h3.ext x⟩,λ_ _ _ _=>jO⟩
 ·rename_i ds
  cases e
  obtain⟨a,vs,rfl,s,l⟩:=zLZ d
  exact⟨a,λα S H=> ∃vs,SqF X.K H a vs/\DenL X.K α H ds vs,rfl,⟨vs,s,l⟩,λα S H ⟨vs,h1,h2⟩=>⟨vs,h1.l,h2⟩,λα1 S1 H1 α2 S2 H2 ⟨vs,h1,h2⟩ x w _=>⟨vs,x.sqF h1,h2.ext x⟩,λ_ _ _ _=>jO⟩
 ·rename_i n
  split at e
  ·rename_i ds hS
   cases e
   obtain⟨a,rfl,h⟩:=zCF d
   obtain⟨vs,h1,h2⟩:=wd.obj n a _ h hS
   refine⟨a,λα S H=> ∃vs,H a=some (.lst vs)/\DenL X.K α H ds vs/\α[n]? =some a/\S[n]? =some (.lst ds),rfl,⟨vs,h1,h2,h,hS⟩,λα S H ⟨vs,h1,h2,_⟩=>⟨vs,(SqL.of h1:SqL X.K H a vs),h2⟩,?_,?_⟩
   ·intro α1 S1 H1 α2 S2 H2 ⟨vs,a1,a2,a3,a4⟩ x w hs
    have hs':=hs (n,ds) (by simp)
    obtain⟨us,b1,b2⟩:=w.obj n a _ (x.at a3) hs'
    exact⟨us,b1,b2,x.at a3,hs'⟩
   ·intro α S H ⟨vs,_,_,_,a4⟩ p hp
    have:p=(n,ds):=by simpa using hp
    subst this
    exact a4
  ·cases e
 ·cases e
section
variable{X:Cx}{W:XW}{a b:Expr}{elts:List Expr}{kt:Nat}{pt p pos:Pos}{ta:TA}{af:Rho->Sto->R (List Er)}
theorem yII:bootBuiltins "enumerate"=some (.type "enumerate"):=by decide+kernel
def pairs(xs ys:List MV):List MV:=List.zipWith (λx y=>.tup [x,y]) xs ys
end
structure EnSt(k:Bool)(e it l:Addr)(i:Nat)(h:Heap):Prop where
 e: ∃old,IsEnum h e it i old
 s:IsSub k h it l i
section
variable{prog:Program}{w:World}{A:Around}{E:VP}{s:Shared}{k:Bool}{e it l:Addr}{i:Nat}{its:Array Value}
theorem yIJ{x old:Value}{Q:VP}(he:IsEnum s.heap e it i old)(hit:IsSub k s.heap it l i)(hl:zKF k s.heap l its)(hx:its[i]? =some x)(hne:e≠it)
  (hQ: ∀h',IsEnumOut h' e it ((i:Int)+1) x s.heap.objs.size->IsSub k h' it l (i+1)->h'.get? s.heap.objs.size=some {cls:=.type "tuple",data:=.seq #[.int i s.toks,x]}->
   (∀b o,b≠e->b≠it->s.heap.get? b=some o->h'.get? b=some o)->Q (.ref s.heap.objs.size) {s with heap:=h',toks:=s.toks+1}):
  wpAny (model prog w) A (Builtin.«enumerate.__next__» ⟨[.ref e],[]⟩) (λfin s'=> ∃v,fin=.done (.ret v)/\Q v s') E s:=by
 obtain⟨hp,g,d,tk,os⟩:=s
 show wpAny _ _ (field (.ref e) 2 >>= _) _ _ _
 refine wB0 (wpAny_field he rfl (x:=.ref it) rfl (wB0 (yDN hit hl hx λha ita hsa=>?_)))
 replace hsa:Heap.SameBut it hp ha:=hsa
 have ea:IsEnum ha e it i old:=(hsa.2 e hne).trans he
 show wpAny _ _ (field (.ref e) 3 >>= _) _ _ ⟨ha,g,d,tk,os⟩
 refine wB0 (wpAny_field ea rfl (x:=rawInt i) rfl ?_)
 show wpAny _ _ (field (.ref e) 4 >>= _) _ _ ⟨ha,g,d,tk,os⟩
 refine wB0 (wpAny_field ea rfl (x:=.none) rfl ?_)
 show wpAny _ _ (mkInt i >>= _) _ _ ⟨ha,g,d,tk,os⟩
 refine wB0 (wpAny_mkInt ?_)
 show wpAny _ _ (setField (.ref e) 3 (rawInt ((i:Int)+1)) >>= _) _ _ ⟨ha,g,d,tk+1,os⟩
 refine wB0 (wpAny_setField_rec ea (by simp) λhb eb hsb=>?_)
 replace hsb:Heap.SameBut e ha hb:=hsb
 replace eb:IsEnum hb e it ((i:Int)+1) old:=eb
 show wpAny _ _ (setField (.ref e) 4 .none >>= _) _ _ ⟨hb,g,d,tk+1,os⟩
 refine wB0 (wpAny_setField_rec eb (by simp) λhc ec hsc=>?_)
 replace hsc:Heap.SameBut e hb hc:=hsc
 replace ec:IsEnum hc e it ((i:Int)+1) old:=ec
 show wpAny _ _ (newTuple [.int i tk,x] >>= _) _ _ ⟨hc,g,d,tk+1,os⟩
 refine wB0 (wpAny_newTuple ?_)
 have hsz:hc.objs.size=hp.objs.size:=by rw [hsc.1,hsb.1,hsa.1]
 have hel:e<hp.objs.size:=Heap.lt_size he
 have ed:IsEnum (hc.push {cls:=.type "tuple",data:=.seq #[.int i tk,x]}) e it ((i:Int)+1) old:=hP0 _ ec
 have td:(hc.push {cls:=.type "tuple",data:=.seq #[.int i tk,x]}).get? hp.objs.size=some {cls:=.type "tuple",data:=.seq #[.int i tk,x]}:=by rw [<-hsz];exact Heap.get?_push_size _ rfl
 have kd: ∀b o,b≠e->b≠it->hp.get? b=some o->(hc.push {cls:=.type "tuple",data:=.seq #[.int i tk,x]}).get? b=some o:=λb o n1 n2 q=>
  hP0 _ (hsc.extBut b o n1 (hsb.extBut b o n1 (hsa.extBut b o n2 q)))
 have sd:IsSub k (hc.push {cls:=.type "tuple",data:=.seq #[.int i tk,x]}) it l (i+1):=ita.move λo q=>hP0 _ (hsc.extBut _ o (Ne.symm hne) (hsb.extBut _ o (Ne.symm hne) q))
 generalize hc.push {cls:=.type "tuple",data:=.seq #[.int i tk,x]}=hd at ed td kd sd ⊢
 show wpAny _ _ (Builtin.SmallTypes.ownedTupleIsFree (.ref e) >>= _) _ _ ⟨hd,g,d,tk+1,os⟩
 rw [hsz]
 refine wB0 ?_
 unfold Builtin.SmallTypes.ownedTupleIsFree
 refine wB0 (wpAny_field ed rfl (x:=.none) rfl (wP0 ?_))
 simp only [if_true]
 refine wB0 (wpAny_rule (wB0 (wpAny_field ed rfl (x:=old) rfl (wB0 (wpAny_setField_rec ed (by simp) λhf ef hsf=>?_)))))
 replace hsf:Heap.SameBut e hd hf:=hsf
 replace ef:IsEnum hf e it ((i:Int)+1) x:=ef
 show wpAny _ _ (Builtin.SmallTypes.ownedTupleHandOut (.ref e) (.ref hp.objs.size) >>= _) _ _ ⟨hf,g,d,tk+1,os⟩
 refine wB0 ?_
 unfold Builtin.SmallTypes.ownedTupleHandOut
 refine wB0 (wpAny_setField_rec ef (by simp) λhg' eg hsg=>?_)
 replace hsg:Heap.SameBut e hf hg':=hsg
 replace eg:IsEnumOut hg' e it ((i:Int)+1) x hp.objs.size:=eg
 refine wpAny_setField_rec eg (by simp) λhh' eh hsh=>?_
 replace hsh:Heap.SameBut e hg' hh':=hsh
 replace eh:IsEnumOut hh' e it ((i:Int)+1) x hp.objs.size:=eh
 have up: ∀b o,b≠e->hd.get? b=some o->hh'.get? b=some o:=λb o n q=>hsh.extBut b o n (hsg.extBut b o n (hsf.extBut b o n q))
 exact wB0 (wpAny_letGo (wP0 ⟨_,rfl,hQ hh' eh (sd.move λo q=>up _ o (Ne.symm hne) q) (up _ _ (ne_of_gt hel) td) λb o n1 n2 q=>up b o n1 (kd b o n1 n2 q)⟩))
theorem zWM(k:Bool)(l:Addr)(its:Array Value):
  Meets (Builtin.«enumerate.__new__» ⟨[.type "enumerate",.ref l],[]⟩) (λ_ R s=>zKF k s.heap l its/\
   R (.ok (.ret (.ref (s.heap.objs.size+1)))) {s with heap:=(s.heap.push (zJA k l)).push {cls:=.type "enumerate",data:=.fields #[.none,.bool false,.ref s.heap.objs.size,rawInt 0,.none,.none]}}):=
 .of_wp λprog w A R s h=>by
  obtain⟨hp,g,d,tk,os⟩:=s;obtain⟨hl,h⟩:=h
  have hsub:=sub_enumerate
  have hL:zKF k (Shared.heap ⟨hp,g,d,tk,os⟩) l its:=hl
  have z1: ∀(h:Heap)(o:Obj),(h.push o).objs.size=h.objs.size+1:=λh o=>Heap.size_push ..
  wp_walk
  refine wpAny_stack_any λst=>wP0 ?_
  split
  ·rename_i c _ _ _ _ _
   cases (c==Value.type "enumerate")
   ·wp_walk using zMH hL
    exact⟨_,rfl,by simp only [z1];exact h⟩
   ·wp_walk using zMH hL
    exact⟨_,rfl,by simp only [z1];exact h⟩
  ·wp_walk using zMH hL
   exact⟨_,rfl,by simp only [z1];exact h⟩
end
def zOX(K:PySem.W.Frag)(F:List MV->Sto->R Er):Sp:=λvs H Q _=> ∃ds,DenL K [] H ds vs/\ds.length=1/\ ∀g:Gm,g.K=K->Post g W0 [] H (F ds []) Q
theorem yDP{g:Gm}{F:List MV->Sto->R Er}: ∀vs H Q E,zOX g.K F vs H Q E->spM g 1 F vs H Q E:=λvs H Q E ⟨ds,l,hl,q⟩=>⟨[],[],ds,⟨rfl,by simp,λl a o h=>by simp at h⟩,l,hl,q g rfl⟩
theorem yOH{K:PySem.W.Frag}{H:Hp}{a:Addr}{xs:List V}(hO:yCN H)(h:SqL K H a xs):SqF K H a xs:=by
 rcases h with(h|⟨o,h⟩)|h
 ·rcases hO a with z|⟨o,ys,z⟩
  ·rw [z]at h;cases h
  ·rw [z]at h;cases h
 ·exact .inl ⟨o,h⟩
 ·exact .inr h
theorem yDQ{K:PySem.W.Frag}{F:List MV->Sto->R Er}{H:Hp}{a:Addr}{ns:List Int}(hO:yCN H)(hS:SqL K H a (ns.map V.int))(h: ∃S,F [.scr (ns.map MV.int)] []=.ok (.val (.bl true)) S):zOX K F [.ref a] H (λv _=>v=.bl true) λ_ _ _=>False:=by
 obtain⟨S,h⟩:=h
 refine⟨_,yG (zXQ (yOH hO hS) (zOU ns)) yI,rfl,λg _=>?_⟩
 rw [h]
 exact λv α' H' x w d=>zKE d.1
theorem bok{β γ:Type}(b:β)(S:Sto)(k:β->Sto->R γ):(R.ok b S).bind k=k b S:=by
 have h:=R.bind_ok b S k
 exact Eq.trans h rfl
theorem yIK(d:MV)(S:Sto):rdSl (some (some d)) S=.ok (.val d) S:=rfl
theorem zMI{S T:Sto}:yDB S (S++T):=⟨by rw [lA];omega,λl hl=>.inl (getElem?_append_left hl)⟩
theorem zCI(n:Nat)(i:Int):lo n (.int i):=by unfold lo;trivial
theorem zJB(n:Nat)(i:List Nat):lo n (.str i):=by unfold lo;trivial
theorem yLM(n:Nat)(i:Bool):lo n (.bl i):=by unfold lo;trivial
theorem zWN(n:Nat):lo n .non:=by unfold lo;trivial
theorem zDM{n:Nat}{ds:List MV}(h:loL n ds):lo n (.tup ds):=by unfold lo;exact h
theorem wX{n:Nat}: ∀{ds:List MV},(∀d∈ds,lo n d)->loL n ds
 |[],_=>by unfold loL;trivial
 |d::ds,h=>by unfold loL;exact⟨h d mF0,wX λe he=>h e (mO _ he)⟩
theorem yDR{S T:Sto}{d:MV}(h:lo S.length d)(hn: ∀l,d≠.loc l):zBU S (.val d) (S++T)=.ok (.val d) S:=by
 unfold zBU
 rw [iP zMI]
 have e:(S++T).take S.length=S:=by simp
 cases d with
 |loc l=>exact absurd rfl (hn l)
 |_=>dsimp only;rw [iP h,e]
theorem yDS{S T:Sto}{ds:List MV}(h:loL S.length ds):zBU S (.new ds) (S++T)=.ok (.new ds) S:=by
 unfold zBU
 rw [iP zMI]
 have e:(S++T).take S.length=S:=by simp
 dsimp only
 rw [iP h,e]
theorem yDT{S T:Sto}{l:Nat}{ds:List MV}(hl:S.length<=l)(hS:(S++T)[l]? =some (.lst ds))(h:loL S.length ds):zBU S (.val (.loc l)) (S++T)=.ok (.new ds) S:=by
 unfold zBU
 rw [iP zMI]
 have e:(S++T).take S.length=S:=by simp
 dsimp only
 rw [iN (by omega),hS]
 dsimp only
 rw [iP h,e]
theorem zEX{n:Nat}{F:List MV->Sto->R Er}{rs:List Er}{S T:Sto}{d:MV}(hn:rs.length=n)(hF:F (zN rs S).1 (zN rs S).2=.ok (.val d) (S++T))(h:lo S.length d)(hd: ∀l,d≠.loc l):zZ n F rs S=.ok (.val d) S:=by
 unfold zZ
 rw [iP hn,hF]
 exact yDR h hd
theorem gQ{n:Nat}{F:List MV->Sto->R Er}{rs:List Er}{S T:Sto}{ds:List MV}(hn:rs.length=n)(hF:F (zN rs S).1 (zN rs S).2=.ok (.new ds) (S++T))(h:loL S.length ds):zZ n F rs S=.ok (.new ds) S:=by
 unfold zZ
 rw [iP hn,hF]
 exact yDS h
theorem zEY{n:Nat}{F:List MV->Sto->R Er}{rs:List Er}{S T:Sto}{l:Nat}{ds:List MV}(hn:rs.length=n)(hF:F (zN rs S).1 (zN rs S).2=.ok (.val (.loc l)) (S++T))(hl:S.length<=l)(hS:(S++T)[l]? =some (.lst ds))(h:loL S.length ds):zZ n F rs S=.ok (.new ds) S:=by
 unfold zZ
 rw [iP hn,hF]
 exact yDT hl hS h
theorem zCV{n:Nat}{F:List MV->Sto->R Er}{rs:List Er}{S:Sto}{d:MV}(hn:rs.length=n)(hF:F (zN rs S).1 (zN rs S).2=.ok (.val d) S)(h:lo S.length d)(hd: ∀l,d≠.loc l):zZ n F rs S=.ok (.val d) S:=zEX (T:=[]) hn (by rw [aN];exact hF) h hd
section
variable{S:Sto}
theorem as_bl(b:Bool)(S:Sto):asB (.val (.bl b)) S=.ok b S:=rfl
theorem as_int(i:Int)(S:Sto):asI (.val (.int i)) S=.ok (some i) S:=rfl
theorem yOI(b:Bool)(S:Sto):zQJ (.val (.bl b)) S=.ok b S:=rfl
theorem add_int(i j:Int)(S:Sto):wP (.val (.int i)) (.val (.int j)) S=.ok (.val (.int (i+j))) S:=rfl
theorem sub_int(i j:Int)(S:Sto):zKQ (.val (.int i)) (.val (.int j)) S=.ok (.val (.int (i - j))) S:=rfl
theorem add_str{x y:List Nat}(h:x.length+y.length<=sizeLine):wP (.val (.str x)) (.val (.str y)) S=.ok (.val (.str (x++y))) S:=iP h
theorem yIL{x y:List MV}(h:x.length+y.length<=sizeLine):wP (.val (.tup x)) (.val (.tup y)) S=.ok (.val (.tup (x++y))) S:=iP h
theorem yDU{p q:Er}{x y:List MV}(h1:lsW S p=some x)(h2:lsW S q=some y)(h:x.length+y.length<=sizeLine):wP p q S=.ok (.new (x++y)) S:=by
 have e:zXX p q S=.ok (.new (x++y)) S:=by
  unfold zXX
  rw [h1,h2]
  exact iP h
 unfold wP
 split
 ·cases h1
 ·cases h1
 ·cases h1
 ·exact e
theorem yOJ{g:Int->Int->Bool}(i j:Int)(S:Sto):ibF g (.val (.int i)) (.val (.int j)) S=.ok (.val (.bl (g i j))) S:=rfl
theorem yIM(i j:Int):eqV (.int i) (.int j)=decide (i=j):=by
 show(i==j)=_
 by_cases h:i=j
 ·subst h;simp
 ·rw [dF0 h];simpa using h
theorem yIN(x y:List Nat):eqV (.str (mkS x)) (.str (mkS y))=decide (x=y):=by
 show(mkS x==mkS y)=_
 by_cases h:x=y
 ·subst h;simp
 ·rw [dF0 h]
  have:mkS x≠mkS y:=λz=>h (zLA z)
  simpa using this
theorem zGC(n:Nat)(i j:Int):eqv S (n+1) (.int i) (.int j)=some (decide (i=j)):=by rw [<-yIM];rfl
theorem zYC(n:Nat)(x y:List Nat):eqv S (n+1) (.str x) (.str y)=some (decide (x=y)):=by rw [<-yIN];rfl
theorem yOK(n:Nat)(x:Int)(y:List Nat):eqv S (n+1) (.int x) (.str y)=some false:=rfl
theorem yOL(n:Nat)(x:List Nat)(y:Int):eqv S (n+1) (.str x) (.int y)=some false:=rfl
theorem yIO(d f:MV):eqF (.val d) (.val f) S=match eqv S (zM+1) d f with |some k=>.ok (.val (.bl k)) S|none=>.no:=rfl
theorem yIP(d f:MV):neF (.val d) (.val f) S=match eqv S (zM+1) d f with |some k=>.ok (.val (.bl !k)) S|none=>.no:=rfl
theorem yDV{d f:MV}{k:Bool}(h:eqv S (zM+1) d f=some k):eqF (.val d) (.val f) S=.ok (.val (.bl k)) S:=by rw [yIO,h]
theorem yOM{d f:MV}{k:Bool}(h:eqv S (zM+1) d f=some k):neF (.val d) (.val f) S=.ok (.val (.bl !k)) S:=by rw [yIP,h]
theorem eq_int(i j:Int)(S:Sto):eqF (.val (.int i)) (.val (.int j)) S=.ok (.val (.bl (decide (i=j)))) S:=yDV (zGC _ i j)
theorem eq_str(x y:List Nat)(S:Sto):eqF (.val (.str x)) (.val (.str y)) S=.ok (.val (.bl (decide (x=y)))) S:=yDV (zYC _ x y)
theorem ne_int(i j:Int)(S:Sto):neF (.val (.int i)) (.val (.int j)) S=.ok (.val (.bl (!decide (i=j)))) S:=yOM (zGC _ i j)
theorem lt_int(i j:Int)(S:Sto):ltF (.val (.int i)) (.val (.int j)) S=.ok (.val (.bl (decide (i<j)))) S:=rfl
theorem lt_str(i j:List Nat)(S:Sto):ltF (.val (.str i)) (.val (.str j)) S=.ok (.val (.bl (decide (i<j)))) S:=rfl
theorem yC{b:Int}(h:0<b)(h2:b<1073741824)(a:Int)(S:Sto):jA (.val (.int a)) (.val (.int b)) S=.ok (.val (.int (a / b))) S:=by
 refine iP ⟨h,?_⟩
 have h3:b.natAbs<2 ^ 30:=by omega
 have:=(Nat.log2_lt (by omega:b.natAbs≠0)).mpr h3
 omega
theorem mod_lit{b:Int}(h:0<b)(a:Int)(S:Sto):wL (.val (.int a)) (.val (.int b)) S=.ok (.val (.int (a % b))) S:=iP h
theorem zQR{b:Int}(h: -(2 ^ 64)<b/\b<2 ^ 64)(a:Int)(S:Sto):zEW (.val (.int a)) (.val (.int b)) S=.ok (.val (.int (a * b))) S:=iP (Or.inr (Or.inl h))
theorem dH{a:Int}(h: -(2 ^ 64)<a/\a<2 ^ 64)(b:Int)(S:Sto):zEW (.val (.int a)) (.val (.int b)) S=.ok (.val (.int (a * b))) S:=iP (Or.inl h)
theorem zYD{a b:Int}(h:yAZ a b)(S:Sto):zKR (.val (.int a)) (.val (.int b)) S=.ok (.val (.int (a ^ b.toNat))) S:=iP h
theorem yIQ(ρ:Rho)(i:Nat)(d:MV)(S:Sto):zQM ρ i (.val d) S=.ok (.next (ρ.set i (some d))) S:=rfl
theorem yIR(ρ:Rho)(i:Nat)(ds:List MV)(S:Sto):zQM ρ i (.new ds) S=.ok (.next (ρ.set i (some (.loc S.length)))) (S++[.lst ds]):=rfl
theorem yIS(S:Sto):zN [] S=([],S):=rfl
theorem yIT(d:MV)(rs:List Er)(S:Sto):zN (.val d::rs) S=(d::(zN rs S).1,(zN rs S).2):=rfl
theorem zD{F G:AY}{ρ ρ':Rho}{S S':Sto}(h:F ρ S=.ok (.next ρ') S'):zO F G ρ S=G ρ' S':=by unfold zO;rw [h];rfl
theorem nW{F G:AY}{ρ:Rho}{S S':Sto}{r:Er}(h:F ρ S=.ok (.ret r) S'):zO F G ρ S=.ok (.ret r) S':=by unfold zO;rw [h];rfl
theorem yU(S:Sto):stay [] S:=jO
theorem zT{gf:MV->Rho->Sto->R Rho}{b:AY}{gs:List (Nat×List MV)}{d:MV}{ds:List MV}{ρ ρ0 ρ':Rho}{S0 S':Sto}(hg:gf d ρ S=.ok ρ0 S0)(h:b ρ0 S0=.ok (.next ρ') S')(hs:stay gs S'):wK gf b gs (d::ds) ρ S=wK gf b gs ds ρ' S':=by
 conv=>lhs;unfold wK
 rw [hg,bok,h,bok]
 dsimp only
 rw [iP hs]
theorem zQS{gf:MV->Rho->Sto->R Rho}{b:AY}{gs:List (Nat×List MV)}{d:MV}{ds:List MV}{ρ ρ0:Rho}{S0 S':Sto}{r:Er}(hg:gf d ρ S=.ok ρ0 S0)(h:b ρ0 S0=.ok (.ret r) S'):wK gf b gs (d::ds) ρ S=.ok (.ret r) S':=by
 conv=>lhs;unfold wK
 rw [hg,bok,h,bok]
theorem zHF{t:AZ}{b:AY}{n:Nat}{ρ ρ':Rho}{S1 S2:Sto}(h1:t ρ S=.ok true S1)(h2:b ρ S1=.ok (.next ρ') S2):gB t b (n+1) ρ S=gB t b n ρ' S2:=by
 conv=>lhs;unfold gB
 rw [h1,bok,iP rfl,h2,bok]
theorem zOY{t:AZ}{b:AY}{n:Nat}{ρ:Rho}{S1:Sto}(h1:t ρ S=.ok false S1):gB t b (n+1) ρ S=.ok (.next ρ) S1:=by
 conv=>lhs;unfold gB
 rw [h1,bok,iN xF0]
theorem zGD{α:Type}{xs:List α}{i:Int}(h0:0<=i)(h1:i<xs.length): ∃c,atI xs i=some c:=by
 refine⟨xs[i.toNat]'(by omega),?_⟩
 unfold atI ixN
 rw [iP h0,iP h1]
 exact gE0 _
theorem zGE{α:Type}{P:α->Prop}{xs:List α}{i:Int}{e:α}(h: ∀e∈xs,P e)(z:atI xs i=some e):P e:=by
 unfold atI at z
 cases q:ixN xs.length i with
 |none=>rw [q]at z;cases z
 |some j=>rw [q]at z;exact h e (mem_of_getElem? (show xs[j]? =some e from z))
theorem ix_str{x:List Nat}{i:Int}{c:Nat}(h:x.length<=sizeLine)(hk:atI x i=some c):ixF (.val (.str x)) (.val (.int i)) S=.ok (.val (.str [c])) S:=by
 show(if x.length<=sizeLine then match atI x i with |some c=>R.ok (Er.val (.str [c])) S|none=>.no else .no)=_
 rw [iP h,hk]
theorem ix_tup{ds:List MV}{i:Int}{d:MV}(hk:atI ds i=some d):ixF (.val (.tup ds)) (.val (.int i)) S=.ok (.val d) S:=by
 show(match atI ds i with |some d=>R.ok (Er.val d) S|none=>.no)=_
 rw [hk]
theorem zWO{ds:List MV}{i:Int}{d:MV}(hk:atI ds i=some d):ixF (.new ds) (.val (.int i)) S=.ok (.val d) S:=by
 show(match atI ds i with |some d=>R.ok (Er.val d) S|none=>.no)=_
 rw [hk]
theorem zAO{l:Nat}{ds:List MV}{i:Int}{d:MV}(hS:S[l]? =some (.lst ds))(hk:atI ds i=some d):ixF (.val (.loc l)) (.val (.int i)) S=.ok (.val d) S:=by
 have e:jP S (.val (.loc l))=some ds:=by unfold jP;dsimp only;rw [hS]
 show(match jP S (.val (.loc l))with |some ds=>getL ds (.val (.int i)) S|none=>.no)=_
 rw [e]
 show(match atI ds i with |some d=>R.ok (Er.val d) S|none=>.no)=_
 rw [hk]
theorem zGF{l:Nat}{ds:List MV}(hS:S[l]? =some (.lst ds)):zDK [.val (.loc l)] S=.ok (.val (.int ds.length)) S:=by
 have e:jP S (.val (.loc l))=some ds:=by unfold jP;dsimp only;rw [hS]
 have e2:itemsOf S (.val (.loc l))=some ds:=by unfold itemsOf;exact e
 show(match itemsOf S (.val (.loc l))with |some ds=>R.ok (Er.val (.int ds.length)) S|none=>.no)=_
 rw [e2]
theorem zCW{l:Nat}{ds:List MV}(hS:S[l]? =some (.lst ds)):jP S (.val (.loc l))=some ds:=by unfold jP;dsimp only;rw [hS]
theorem yIU{l:Nat}{ds:List MV}(hS:S[l]? =some (.lst ds)):lsW S (.val (.loc l))=some ds:=by unfold lsW;dsimp only;rw [hS]
theorem zDN{l:Nat}{ds:List MV}(hS:S[l]? =some (.lst ds)):itL (.val (.loc l)) S=.ok ⟨ds,[(l,ds)]⟩ S:=by unfold itL;dsimp only;rw [hS]
theorem dI{l:Nat}{ds:List MV}(hS:S[l]? =some (.lst ds)):stay [(l,ds)] S:=λp hp=>by
 have:p=(l,ds):=by simpa using hp
 subst this;exact hS
theorem zQT{j:Int}(h: -(2 ^ 62)<=j/\j<2 ^ 62):gE [.val (.int j)] S=.ok ⟨(List.range j.toNat).map λk=>.int (k:Nat),[]⟩ S:=iP h
theorem yIV{i j:Int}(h: -(2 ^ 62)<=i/\i<2 ^ 62/\ -(2 ^ 62)<=j/\j<2 ^ 62):zTC [.val (.int i),.val (.int j)] S=.ok ⟨(List.range (j - i).toNat).map λk=>.int (i+(k:Nat)),[]⟩ S:=iP h
theorem cut_str{x:List Nat}(h:x.length<=sizeLine)(lo hi:Option Int):zCH (.val (.str x)) lo hi S=.ok (.val (.str (gI x lo hi))) S:=iP h
theorem yDW{α:Type}(x:List α)(lo hi:Option Int):(gI x lo hi).length<=x.length:=by
 unfold gI
 rw [lT,length_drop]
 omega
theorem yDX{α:Type}{x:List α}{lo hi:Option Int}{a:α}(h:a∈gI x lo hi):a∈x:=List.mem_of_mem_drop (mem_of_mem_take h)
theorem zBV{α:Type}(x:List α)(k:Int)(h0:0<=k):gI x none (some k)=x.take k.toNat:=by
 unfold gI
 have h1:HT.sIx x.length 0 none=0:=rfl
 rw [h1]
 have h2:HT.sIx x.length x.length (some k)=min k.toNat x.length:=by
  unfold HT.sIx
  simp only
  split<;>omega
 rw [h2,drop_zero,sub_zero]
 by_cases hk:k.toNat<=x.length
 ·rw [min_eq_left hk]
 ·rw [Nat.min_eq_right (by omega),List.take_length,take_of_length_le (by omega)]
theorem fits{n:Nat}(h:n<=1000000):n<=sizeLine:=by rw [sizeLine_eq];exact le_trans h (by decide)
theorem zEZ{rs:List Er}(h:rs.length<=1000000):bT rs S=.ok (.new (zN rs S).1) (zN rs S).2:=iP (fits h)
theorem zWP{rs:List Er}(h:rs.length<=1000000):zDJ rs S=.ok (.val (.tup (zN rs S).1)) (zN rs S).2:=iP (fits h)
theorem lst0(S:Sto):bT [] S=.ok (.new []) S:=zEZ (by simp)
theorem lst1(a:MV)(S:Sto):bT [.val a] S=.ok (.new [a]) S:=zEZ (by simp)
theorem lst2(a b:MV)(S:Sto):bT [.val a,.val b] S=.ok (.new [a,b]) S:=zEZ (by simp)
theorem lst3(a b c:MV)(S:Sto):bT [.val a,.val b,.val c] S=.ok (.new [a,b,c]) S:=zEZ (by simp)
theorem lst6(a b c d e f:MV)(S:Sto):bT [.val a,.val b,.val c,.val d,.val e,.val f] S=.ok (.new [a,b,c,d,e,f]) S:=zEZ (by simp)
theorem tup2(a b:MV)(S:Sto):zDJ [.val a,.val b] S=.ok (.val (.tup [a,b])) S:=zWP (by simp)
theorem tup3(a b c:MV)(S:Sto):zDJ [.val a,.val b,.val c] S=.ok (.val (.tup [a,b,c])) S:=zWP (by simp)
theorem yON(i:Int)(S:Sto):yBD [.val (.int i),.val (.typ "str")] S=.ok (.val (.bl false)) S:=rfl
theorem yOO(i:List Nat)(S:Sto):yBD [.val (.str i),.val (.typ "str")] S=.ok (.val (.bl true)) S:=rfl
theorem yOP(i:Int)(S:Sto):yBD [.val (.int i),.val (.typ "tuple")] S=.ok (.val (.bl false)) S:=rfl
theorem yOQ(i:List Nat)(S:Sto):yBD [.val (.str i),.val (.typ "tuple")] S=.ok (.val (.bl false)) S:=rfl
theorem yOR(i:List MV)(S:Sto):yBD [.val (.tup i),.val (.typ "tuple")] S=.ok (.val (.bl true)) S:=rfl
theorem yOS(i:Bool)(S:Sto):yBD [.val (.bl i),.val (.typ "bool")] S=.ok (.val (.bl true)) S:=rfl
theorem zMJ{gf:MV->Rho->Sto->R Rho}{cf:AZ}{ef:AX}{ρb:Rho}{gs:List (Nat×List MV)}{P:MV->Prop}(hs:stay gs S):
  ∀{ds:List MV},(∀d∈ds, ∃ρ1 y,gf d ρb S=.ok ρ1 S/\cf ρ1 S=.ok true S/\ef ρ1 S=.ok (.val y) S/\P y)-> ∃out,xE gf cf ef ρb gs ds S=.ok out S/\out.length=ds.length/\ ∀o∈out,P o
 |[],_=>⟨[],rfl,rfl,λo h=>by simp at h⟩
 |d::ds,st=>by
  obtain⟨ρ1,y,h1,h2,h3,h4⟩:=st d mF0
  obtain⟨out,e,hl,hp⟩:=zMJ hs (ds:=ds) λd hd=>st d (mO _ hd)
  refine⟨y::out,?_,by rw [lC,lC,hl],λo ho=>(mC.mp ho).elim (λz=>z▸h4) (hp o)⟩
  unfold xE
  rw [h1,yY,bok,h2,yY,bok,iP rfl,h3,yY,bok]
  unfold dR
  rw [bok,iP hs,e]
  rfl
def Nm(x:List Nat):Prop:=1<=x.length/\x.length<=8/\ ∀c∈x,97<=c/\c<=122
def Vl:MV->Prop
 |.int i=> -(10 ^ 30)<i/\i<10 ^ 30
 |.str x=>Nm x
 |_=>False
theorem Vl.cases{d:MV}(h:Vl d):(∃i,d=.int i/\ -(10 ^ 30)<i/\i<10 ^ 30)\/ ∃x,d=.str x/\Nm x:=by
 cases d with
 |int i=>exact .inl ⟨i,rfl,h⟩
 |str x=>exact .inr ⟨x,rfl,h⟩
 |_=>exact h.elim
end
def Ite(K:PySem.W.Frag)(k:Bool)(l:Addr):It:=
 ⟨λi H=> ∃xs x,SqK k K H l xs/\xs[i]? =some x,
   λi H v H'=> ∃p x,H p=none/\v=.ref p/\H'=upd H p (.tup [.int (i:Nat),x])/\(∀xs,SqK k K H l xs->xs[i]? =some x),
   λi H=> ∃xs,SqK k K H l xs/\xs.length<=i⟩
section
variable{prog:Program}{w:World}{A:Around}{E:VP}{s:Shared}{k:Bool}{e it l:Addr}{i:Nat}{its:Array Value}
theorem yBG(hl:zKF k s.heap l its){Q:VP}
  (h: ∀h',EnSt k (s.heap.objs.size+1) s.heap.objs.size l 0 h'->(∀c o,s.heap.get? c=some o->h'.get? c=some o)->Q (.ref (s.heap.objs.size+1)) {s with heap:=h'}):
  wpAny (model prog w) A (call (.type "enumerate") [.ref l]) Q E s:=by
 refine callType_new F.called_enumerate (by decide) (F.typeCall_enumerate_1 _) (F.newCall_enumerate_1 _) (λobj=>F.args_object_init_2 obj _) F.entry_enumerate_new (zWM k l its) ⟨hl,?_⟩
 have hz:(s.heap.push (zJA k l)).objs.size=s.heap.objs.size+1:=Heap.size_push ..
 show _/\_
 have he:IsEnum ((s.heap.push (zJA k l)).push {cls:=.type "enumerate",data:=.fields #[.none,.bool false,.ref s.heap.objs.size,rawInt 0,.none,.none]}) (s.heap.objs.size+1) s.heap.objs.size 0 .none:=by
  have:=Heap.get?_push_size (s.heap.push (zJA k l)) (o:={cls:=.type "enumerate",data:=.fields #[.none,.bool false,.ref s.heap.objs.size,rawInt 0,.none,.none]}) rfl
  rw [hz]at this;exact this
 refine⟨⟨_,he,rfl⟩,h _ ⟨⟨.none,he⟩,IsSub.mk' (hP0 _ (Heap.get?_push_size _ rfl))⟩ λb o x=>hP0 _ (hP0 _ x)⟩
end
theorem yBH{P:Program}{w:World}{K:PySem.W.Frag}{elts:List Expr}{kt:Nat}{pt:Pos}{k:Bool}{e it l:Addr}(hne:e≠it):
  Turn P w K (.Tuple elts kt pt) (Ite K k l) [e,it] e (λi h=>EnSt k e it l i h) where
 mem:=by simp
 obj:=λi h st b hb=>by
  obtain⟨⟨old,he⟩,hs⟩:=st
  have hb':b=e\/b=it:=by simpa using hb
  rcases hb' with rfl|rfl
  ·exact⟨_,he,λv q=>by cases q⟩
  ·exact hs.there
 keep:=λi h h' st kk=>by
  obtain⟨⟨old,he⟩,hs⟩:=st
  exact⟨⟨old,kk e (by simp) _ he⟩,hs.move λo q=>kk it (by simp) o q⟩
 item:=by
  intro X hP hw hK hc i pins s σ H E I hf st hg
  subst hP hw hK
  obtain⟨xs,x,q1,hx⟩:=hg
  obtain⟨its,r1,p1,_⟩:=I.seqK q1
  obtain⟨u,hu,ru⟩:=r1.get hx
  obtain⟨⟨old,he⟩,hs⟩:=st
  have hT:s.TypeIs (.ref e) "enumerate":=⟨_,he,rfl⟩
  unfold pyNext
  refine wB0 (wpAny_attempt (wpAny_callSpecial?_slot (name:=Str.ofString "__next__") hT F.slot_enumerate_next (wpAny_call_entry F.slot_enumerate_next hT F.entry_enumerate_next
   (yIJ he hs p1 (x:=u) (by simpa using hu) hne λh' a1 a2 a3 a4=>wP0 ⟨_,rfl,?_⟩) (F.args_enumerate_next_1 _))))
  refine wpAny_letOwnedTupleGo_enum a1 λh2 z2 sb2=>?_
  have hpn:H s.heap.objs.size=none:=I.hok.fresh (le_refl _)
  have I0:Inv X pins σ (upd H s.heap.objs.size (.tup [.int (i:Nat),x])) {s with heap:=s.heap.push {cls:=.type "tuple",data:=.seq #[.int i s.toks,u]},toks:=s.toks+1}:=
   I.laid (t':=s.toks+1) (o:=.tup [.int (i:Nat),x]) (λb o e=>hP0 _ e) (le_refl _) ⟨by show 2<=sizeLine;decide,[.int i s.toks,u],.cons ⟨_,rfl⟩ (.cons ru .nil),⟨_,Heap.get?_push_size _ rfl,rfl,_,rfl⟩⟩
  have lt: ∀b∈[e,it],b<s.heap.objs.size:=λb hb=>by
   have hb':b=e\/b=it:=by simpa using hb
   rcases hb' with rfl|rfl
   ·exact Heap.lt_size he
   ·obtain⟨o,eo,_⟩:=hs.there;exact Heap.lt_size eo
  have fr: ∀b∈[e,it],upd H s.heap.objs.size (.tup [.int (i:Nat),x]) b=none:=λb hb=>by rw [zR (ne_of_lt (lt b hb))];exact(hf b hb).1
  have mv: ∀b o,b∉[e,it]->(s.heap.push {cls:=.type "tuple",data:=.seq #[.int i s.toks,u]}).get? b=some o->h2.get? b=some o:=λb o hb eo=>by
   simp only [mC,not_mem_nil,or_false,not_or]at hb
   refine sb2.extBut _ _ hb.1 ?_
   by_cases hbs:b=s.heap.objs.size
   ·subst hbs
    rw [Heap.get?_push_size _ rfl]at eo
    cases eo
    exact a3
   ·rw [Heap.get?_push_ne _ _ _ hbs]at eo
    exact a4 b o hb.1 hb.2 eo
  have I2:=I0.turnedL (h':=h2) (t':=s.toks+1) mv λb hb=>let ⟨_,c2,c3,c4,c5,c6⟩:=hf b hb;⟨fr b hb,c2,c3,c4,c5,c6⟩
  refine⟨.ref s.heap.objs.size,_,I2,rfl,⟨s.heap.objs.size,x,hpn,rfl,rfl,λzs hz=>?_⟩,⟨⟨u,?_⟩,?_⟩,fr⟩
  ·rw [I.seqK_inj hz q1];exact hx
  ·simpa using z2
  ·exact a2.move λo eo=>sb2.extBut _ _ (Ne.symm hne) eo
 done:=by
  intro X hP hw hK hc i pins s σ H E I hf st hg
  subst hP hw hK
  obtain⟨xs,q1,hx⟩:=hg
  obtain⟨its,r1,p1,_⟩:=I.seqK q1
  obtain⟨⟨old,he⟩,hs⟩:=st
  have hT:s.TypeIs (.ref e) "enumerate":=⟨_,he,rfl⟩
  have e1:=r1.length
  unfold pyNext
  refine wB0 (wpAny_attempt (wpAny_callSpecial?_slot (name:=Str.ofString "__next__") hT F.slot_enumerate_next (wpAny_call_entry F.slot_enumerate_next hT F.entry_enumerate_next ?_ (F.args_enumerate_next_1 _))))
  show wpAny _ _ (field (.ref e) 2 >>= _) _ _ _
  refine wB0 (wpAny_field he rfl (x:=.ref it) rfl ?_)
  refine wB0 (yIH (I.ok.hd hc) hs p1 (by simp;omega) λh' x hk hx'=>?_)
  obtain⟨o,ho,hcl⟩:=hx'
  refine wB0 (wpAny_isInstance (T:="StopIteration") (b:=true) ⟨o,ho,hcl⟩ isSubtype_stop (wP0 ⟨rfl,?_⟩))
  refine I.turnedL (h':=h') (t':=s.toks) (λb o hb eo=>?_) hf
  simp only [mC,not_mem_nil,or_false,not_or]at hb
  exact hk b o hb.2 eo
 self:=λ_ _ _ _ _ st h=>let ⟨⟨_,he⟩,_⟩:=st;wpAny_pyIter_enum he h
def iEnum(K:PySem.W.Frag)(ta:TA):TI:=λσ H R=>ta σ H λvs H1=> ∃k l,vs=[.ref l]/\(∃xs,SqK k K H1 l xs)/\R (Ite K k l) H1
section
variable{X:Cx}{W:XW}{a:Expr}{elts:List Expr}{kt:Nat}{pt p pos:Pos}{ta:TA}{af:Rho->Sto->R (List Er)}
theorem yIW(hg:Gl X "enumerate")(hm:X.mg "enumerate"=none)(ha:PA X [a] ta)(hs:starEach [a] X.env=[(false,eval a X.env)]:=by rfl):
  PI X (.Tuple elts kt pt) (.Call (.Name "enumerate" p) [a] [] pos) (iEnum X.K ta):=by
 intro pins s σ H R I h
 refine Call_ (zLN I hg hm yII (PyProof.Rows.callWith_type1 (thn (ha pos pins s σ H _ I h) λus s1 ⟨vs,H1,I1,r1,q1⟩=>?_) (by rw [hs];rfl) (by rfl)))
 obtain⟨k,l,rfl,⟨xs,c1⟩,q⟩:=q1
 cases r1 with
 |cons r rr=>
  cases rr
  cases r
  obtain⟨its,v1,p1,_⟩:=I1.seqK c1
  refine yBG p1 λh' st hk=>let ⟨⟨_,he⟩,_⟩:=id st;wpAny_pyIter_enum he ?_
  have I2:Inv X pins σ H1 {s1 with heap:=h'}:=I1.kept (t':=s1.toks) hk
  refine⟨_,_,_,_,H1,rfl,I2,yBH (ne_of_gt (Nat.lt_succ_self _)),st,λb hb=>?_,q⟩
  have hle:s1.heap.objs.size<=b:=by
   have hb':b=s1.heap.objs.size+1\/b=s1.heap.objs.size:=by simpa using hb
   rcases hb' with h|h<;>rw [h]<;>(first |exact le_refl _|exact Nat.le_add_right _ _)
  exact I1.fpOk hle (I1.hok.fresh hle)
def zTK(xs:List MV):List MV:=xs.zipIdx.map λp=>.tup [.int (p.2:Nat),p.1]
def itE(rs:List Er)(S:Sto):R Wk:=match rs with
 |[p]=>match srcOf S p with
  |some a=>.ok ⟨zTK a.ds,a.gs⟩ S
  |none=>.no
 |_=>.no
theorem yIX(hg:Gl X "enumerate")(hm:X.mg "enumerate"=none)(ha:PAm X W [a] af)(hs:starEach [a] X.env=[(false,eval a X.env)]:=by rfl):
  PIm X W (.Tuple elts kt pt) (.Call (.Name "enumerate" p) [a] [] pos) (λρ S=>(af ρ S).bind itE):=by
 obtain⟨t,ha,k⟩:=ha
 refine⟨_,yIW hg hm ha hs,λα ρ S σ H Rc wd sl q=>k α ρ S σ H _ wd sl (q.bind λvs rs S1 α1 H1 e x1 w1 d1 q1=>?_)⟩
 replace q1:=q1.shift x1
 unfold itE at q1
 split at q1
 ·rename_i r1
  split at q1
  ·rename_i s1 e1
   obtain⟨u,rfl,du⟩:=zXU d1
   obtain⟨l1,P1,rfl,p1,D1⟩:=yDO w1 e1 du
   have g1:=D1.get _ _ _ p1
   have hlen:(zTK s1.ds).length=s1.ds.length:=by unfold zTK;rw [lM,List.length_zipIdx]
   refine⟨s1.k,l1,rfl,⟨_,g1.choose_spec.1⟩,q1.here (u:=Ite X.K s1.k l1) w1 ⟨λα S H=>P1 α S H,?_,p1,?_,?_⟩⟩
   ·intro i α2 S2 H2 b1 w2
    obtain⟨us,c1,c2⟩:=D1.get _ _ _ b1
    have hl:=c2.length
    refine⟨λhi=>?_,λhi=>?_⟩
    ·have hi:i<(zTK s1.ds).length:=hi
     have h1:i<us.length:=by omega
     refine⟨⟨us,us[i],c1,gE0 h1⟩,?_⟩
     rintro x H' ⟨pp,xx,hp,rfl,rfl,hx⟩
     obtain⟨d,hd,dd⟩:=c2.get (hx us c1)
     have xn:=w2.newx (o:=.tup [.int (i:Nat),xx]) hp
     have wn:=w2.new (o:=.tup [.int (i:Nat),xx]) hp
     refine⟨xn,wn,D1.stays _ _ _ _ _ _ b1 xn wn (D1.st _ _ _ b1),.tup [.int (i:Nat),d],?_,?_⟩
     ·unfold zTK;rw [getElem?_map,List.getElem?_zipIdx,hd];simp
     ·exact zDI (.of yS) (yG (xN _) (yG (dd.ext xn) yI))
    ·have hi:(zTK s1.ds).length<=i:=hi
     exact⟨us,c1,by omega⟩
   ·intro α1 S1 H1 α2 S2 H2 b1 x w hs
    exact D1.stays _ _ _ _ _ _ b1 x w hs
   ·exact D1.st _ _ _ p1
  ·exact q1.elim
 ·exact q1.elim
end
noncomputable instance:DecidableEq MV:=λ_ _=>Classical.propDecidable _
noncomputable def look(kvs:List (MV×MV))(k:MV):Option MV:=(kvs.find? λp=>decide (p.1=k)).map (·.2)
noncomputable def zMK(kvs:List (MV×MV))(k d:MV):List (MV×MV):=if(look kvs k).isSome=true then kvs.map (λp=>if p.1=k then(p.1,d)else p)else kvs++[(k,d)]
section
variable{X:Cx}{pins:List (Addr×Obj)}{σ:St}{H:Hp}{s:Shared}{α:List Addr}
theorem zOZ(p:MV×MV)(kvs:List (MV×MV))(k:MV):look (p::kvs) k=if p.1=k then some p.2 else look kvs k:=by
 unfold look
 rw [find?_cons]
 by_cases h:p.1=k
 ·rw [dT0 h,iP h];rfl
 ·rw [dF0 h,iN h]
end
section
variable{X:Cx}{W:XW}{a b o i:Expr}{f g:AX}{pos:Pos}
theorem zWQ{pins:List (Addr×Obj)}{σ:St}{H:Hp}{s:Shared}(I:Inv X pins σ H s):sysModules<s.heap.objs.size:=lt_trans (by decide) ((I.mod.glob.keeps I.bk).lt)
theorem Wd.put{gg:Gm}{α:List Addr}{S:Sto}{H:Hp}{p:Addr}{ho:HO}{m:MO}(w:Wd gg α S H)(hp:H p=none)(q:ObD gg (α++[p]) (upd H p ho) p m):Ext α H (α++[p]) (upd H p ho)/\Wd gg (α++[p]) (S++[m]) (upd H p ho):=by
 have x:=w.newx (o:=ho) hp
 have nw:=w.new (o:=ho) hp
 have np:=w.fresh hp
 refine⟨⟨⟨⟨[p],rfl⟩,x.tup,x.frz⟩,λb hb=>?_,x.keep,x.has⟩,⟨?_,?_,λl c ob h1 h2=>?_⟩⟩
 ·rcases mem_append.mp hb with h|h
  ·exact .inl h
  ·rw [mS.mp h];exact .inr hp
 ·rw [lA,lA,w.len];rfl
 ·exact nodup_append.mpr ⟨w.nd,by simp,λa ha c hc=>by rw [mS.mp hc];rintro rfl;exact np ha⟩
 ·by_cases hl:l<α.length
  ·rw [getElem?_append_left hl]at h1
   rw [getElem?_append_left (by rw [<-w.len];exact hl)]at h2
   exact(nw.obj l c ob h1 h2).move (Ex0.grow α [p] _) rfl
  ·have hl':l=α.length:=by
    have:=(gS0.mp h1).1
    rw [lA,lS]at this
    omega
   subst hl'
   rw [getElem?_append_right (le_refl _),sub_self]at h1
   rw [getElem?_append_right (by rw [w.len];exact le_refl _),w.len,sub_self]at h2
   cases h1;cases h2
   exact q
def zTL(S:Sto):R Er:=.ok (.val (.loc S.length)) (S++[.dic []])
theorem zML:PEm X W (.Dict [] [] pos) (λ_ S=>zTL S):=by
 refine⟨λσ H Q=> ∀p,H p=none->Q (.ref p) (upd H p (.dK [])),λpins s σ H Q I h=>?_,λα ρ S σ H Q wd sl q p hp=>?_⟩
 ·exact wpAny_Dict_empty ⟨.ref s.heap.objs.size,_,I.laid (a:=s.heap.objs.size) (o:=.dK []) (t':=s.toks) (λ_ _ q=>hP0 _ q) (le_refl _)
   ⟨zero_le _,beq_eq_false_iff_ne.mpr (Ne.symm (ne_of_lt (zWQ I))),[],.nil,Heap.DictOf.new s.heap⟩,rfl,h _ (I.hok.fresh (le_refl _))⟩
 ·obtain⟨x,w'⟩:=wd.put (ho:=.dK []) (m:=.dic []) hp (.inl ⟨[],yS,.nil⟩)
  exact q (.ref p) (α++[p]) _ x w' (DenE.val (zFY (by rw [<-wd.len,getElem?_append_right (le_refl _),sub_self];rfl)))
theorem DenN.length{α:List Addr}{H:Hp}: ∀{kvs xs},DenN X.K α H kvs xs->xs.length=kvs.length
 |_,_,.nil=>rfl
 |_,_,.cons _ _ _ _ _ l=>by rw [lC,lC,DenN.length l]
end
def FsD(g:Gm)(α:List Addr)(H:Hp)(d:Option Addr)(fs:List (Str×MV)):Prop:=fs=[]\/ ∃dx gs od,d=some dx/\H dx=some (.frz od (.xd gs))/\DenF g.K α H fs gs
abbrev WE(g:Gm)(E:XK):XW:=λc fs _ α H=> ∀C d,g.mg c=some (.ref C)->FsD g α H d fs->E (.ref C) d H
def yOT:MV->Bool
 |.non=>true
 |.bl _=>true
 |.int _=>true
 |.str _=>true
 |_=>false
theorem Post.wmono{β τ:Type}[Dn β τ]{g:Gm}{W W':XW}{α:List Addr}{H:Hp}(f: ∀c fs S α' H',W c fs S α' H'->W' c fs S α' H'): ∀{m:R β}{Q:τ->Hp->Prop},Post g W α H m Q->Post g W' α H m Q
 |.ok b S,Q,q=>q
 |.exc c fs S,_,q=>λα' H' x w=>f _ _ _ _ _ (q α' H' x w)
 |.no,_,q=>q
def XCl(K:PySem.W.Frag)(C:Addr)(bm:List Value)(init:Option Value):Prop:=
 ∃nm q N bs hd sn sub ab col dd k0 k1 k2 k3 k5,K.lookup C=some (excClassObj nm q C N bs bm hd sn sub ab col dd k0 k1 k2 k3 k5 "ValueError.__new__")/\PySem.W.nsOkIn K N=true/\PySem.W.nsIn K N "__init__"=some init/\(∀n∈qn,PySem.W.nsIn K N n=some none)/\hd=true
def XEach(K:PySem.W.Frag)(mg:Str->Option Value)(M:Addr):List (Str×Addr)->Prop
 |[]=>True
 |(c,C)::r=>(mg c=some (.ref C)/\ ∃i,XCl K C (.ref M::bmV) i)/\XEach K mg M r
theorem XEach.at{K:PySem.W.Frag}{mg:Str->Option Value}{M:Addr}: ∀{cs:List (Str×Addr)},XEach K mg M cs-> ∀{c C},(c,C)∈cs->mg c=some (.ref C)/\ ∃i,XCl K C (.ref M::bmV) i
 |(c,C)::r,h,c',C',z=>by
  rcases mC.mp z with z|z
  ·cases z;exact h.1
  ·exact XEach.at h.2 z
def spX(g:Gm)(n:Nat)(F:List MV->Sto->R Er):Sp:=λvs H Q E=> ∃α S ds,Wd g α S H/\DenL g.K α H ds vs/\ds.length=n/\Post g (WE g E) α H (F ds S) Q
noncomputable def zYE(n:Nat)(F:List MV->Sto->R Er)(rs:List Er)(S:Sto):R Er:=if rs.length=n then(match F (zN rs S).1 (zN rs S).2 with
 |.ok r S2=>zBU S r S2
 |.exc c fs S2=>if fs.all (λp=>yOT p.2)=true then(zBU S (.val .non) S2).bind λ_ S3=>.exc c fs S3 else .no
 |.no=>.no)else .no
section
variable{P:Program}{w:World}{K:PySem.W.Frag}{mg:Str->Option Value}{base:Heap}
theorem _root_.L2.FnOk.noX{k n:Nat}{f:Addr}{fd:FuncData}{ps:List Str}{g:Gm}{F:List MV->Sto->R Er}(G:FnOk P w K mg base (CXe P w) k f fd ps (spX g n F)):FnOk P w K mg base CX0 k f fd ps (spM g n F):=by
 have up: ∀{vs H Q}, ∀{E},spM g n F vs H Q E->spX g n F vs H Q E0:=λ⟨α,S,ds,h1,h2,h3,h4⟩=>⟨α,S,ds,h1,h2,h3,h4.wmono λ_ _ _ _ _ z=>z.elim⟩
 refine⟨λvs H Q E h=>G.len vs H Q E0 (up h),λA outer s H args us vs Q E hr e0 hb hv h=>codeAny_mono (G.run A outer s H args us vs Q E0 hr e0 hb hv (up h)) λr s' hq=>?_⟩
 cases r with
 |error e=>
  obtain⟨_,_,_,_,_,_,_,_,_,_,_,_,_,_,_,z⟩:=hq
  exact z
 |ok fl=>cases fl<;>exact hq
end
end M
end L2
namespace L2
open PySem PySem.Spec PyProof.Rows
structure Out(X:Cx)(pins:List (Addr×Obj))(H:Hp)(s:Shared)(b:Addr):Prop where
 s0:X.s₀.heap.get? b=none
 h:H b=none
 pin: ∀p∈X.pn++pins,p.1≠b
 fld: ∃o vs,s.heap.get? b=some o/\o.data=.fields vs
section
variable{X:Cx}{pins:List (Addr×Obj)}{σ:St}{H:Hp}{s:Shared}{e T b:Addr}{h':Heap}
theorem Out.ne(o:Out X pins H s b){c:Addr}{oc:Obj}(hc:s.heap.get? c=some oc)(nf: ∀vs,oc.data≠.fields vs):c≠b:=λz=>by
 obtain⟨ob,vs,h1,h2⟩:=o.fld
 rw [z,h1]at hc;cases hc
 exact nf vs h2
theorem Out.loc(o:Out X pins H s b)(I:Inv X pins σ H s):X.env.locals≠b:=by
 obtain⟨m,⟨oL,es,ep,h1,h2,_⟩,_⟩:=I.loc
 exact o.ne h1 λvs z=>by rw [h2]at z;cases z
end
end L2
namespace L2
namespace M
open PySem PySem.Spec PyProof.Rows
def endF(i:Nat):Fl->Sto->R Fl
 |.next ρ,S=>.ok (.next (ρ.set i none)) S
 |.ret r,S=>.ok (.ret r) S
 |.brk ρ,S=>.ok (.brk (ρ.set i none)) S
 |.cont ρ,S=>.ok (.cont (ρ.set i none)) S
def tryF(ns:List Str)(i:Nat)(kn:Er->Sto->R Fl)(Fh:AY)(ρ:Rho):R Er->R Fl
 |.ok r S=>kn r S
 |.exc c fs S=>if c∈ns then(noX (Fh (ρ.set i (some (.loc S.length))) (S++[.ins c fs]))).bind (endF i)else .no
 |.no=>.no
end M
end L2
namespace Srt
open PySem PyProof.Rows
def nX:Bool->Keyed->Array Keyed->Nat->Nat->Nat->StateT SortSt Sem (Option Nat):=sortPriv% PySem.Builtin.gallop
def wW:Nat->StateT SortSt Sem Unit:=sortPriv% PySem.Builtin.setMinGallop
def zMM:Array Keyed->Array Keyed->StateT SortSt Sem (Array Keyed):=sortPriv% PySem.Builtin.mergeLo
def zMN:Array Keyed->Array Keyed->StateT SortSt Sem (Array Keyed):=sortPriv% PySem.Builtin.mergeHi
section
variable{M:Model}{A:Around}{E:VP}{s:Shared}{σ:Type}
theorem yIY{x:σ}{Q:PUnit->σ->Prop}{st:σ}(h:Q ⟨⟩ x):wpS M A E s (set x:StateT σ Sem PUnit) Q st:=by
 unfold wpS;rw [StateT.run_set];exact wP0 ⟨rfl,h⟩
theorem zCX{x:String}{Q:Unit->σ->Prop}{st:σ}(h:Q () st):wpS M A E s (liftM (rule x):StateT σ Sem Unit) Q st:=wpS_lift (wpAny_rule ⟨rfl,h⟩)
end
end Srt
set_option autoImplicit false
namespace Srt
variable{β:Type}{le:β->β->Prop}
structure Two(le:β->β->Prop)(T out xs ys:List β):Prop where
 hx:(out++xs).Pairwise le
 hy:(out++ys).Pairwise le
 pm:(out++(xs++ys)).Perm T
theorem Two.movexs{T out zs xs ys:List β}(h:Two le T out (zs++xs) ys)(hl: ∀z,z∈zs-> ∀y,y∈ys->le z y):Two le T (out++zs) xs ys:=by
 refine⟨by simpa only [aA]using h.hx,?_,by simpa only [aA]using h.pm⟩
 have a:=pairwise_append.mp h.hx
 have b:=pairwise_append.mp h.hy
 have c:=pairwise_append.mp a.2.1
 refine pairwise_append.mpr ⟨pairwise_append.mpr ⟨a.1,c.1,λx hx y hy=>a.2.2 x hx y (mem_append_left _ hy)⟩,b.2.1,λx hx y hy=>?_⟩
 cases mem_append.mp hx with
 |inl q=>exact b.2.2 x q y hy
 |inr q=>exact hl x q y hy
theorem Two.swap{T out xs ys:List β}(h:Two le T out xs ys):Two le T out ys xs:=
 ⟨h.hy,h.hx,(List.Perm.append_left out List.perm_append_comm).trans h.pm⟩
theorem Two.moveys{T out zs xs ys:List β}(h:Two le T out xs (zs++ys))(hl: ∀z,z∈zs-> ∀x,x∈xs->le z x):Two le T (out++zs) xs ys:=
 (h.swap.movexs hl).swap
theorem Two.fin{T out xs ys:List β}(h:Two le T out xs ys)(hl: ∀x,x∈xs-> ∀y,y∈ys->le x y):(out++xs++ys).Pairwise le/\(out++xs++ys).Perm T:=by
 have a:=pairwise_append.mp h.hx
 have b:=pairwise_append.mp h.hy
 refine⟨pairwise_append.mpr ⟨h.hx,b.2.1,λx hx y hy=>?_⟩,by rw [aA];exact h.pm⟩
 cases mem_append.mp hx with
 |inl q=>exact b.2.2 x q y hy
 |inr q=>exact hl x q y hy
structure TwoR(le:β->β->Prop)(T xs ys R:List β):Prop where
 hx:(xs++R).Pairwise le
 hy:(ys++R).Pairwise le
 pm:(xs++ys++R).Perm T
theorem TwoR.swap{T R xs ys:List β}(h:TwoR le T xs ys R):TwoR le T ys xs R:=
 ⟨h.hy,h.hx,(List.Perm.append_right R List.perm_append_comm).trans h.pm⟩
theorem TwoR.moveys{T R zs xs ys:List β}(h:TwoR le T xs (ys++zs) R)(hl: ∀x,x∈xs-> ∀z,z∈zs->le x z):TwoR le T xs ys (zs++R):=by
 refine⟨?_,by simpa only [aA]using h.hy,by simpa only [aA]using h.pm⟩
 have a:=pairwise_append.mp h.hx
 have b:=pairwise_append.mp h.hy
 have c:=pairwise_append.mp b.1
 refine pairwise_append.mpr ⟨a.1,pairwise_append.mpr ⟨c.2.1,a.2.1,λz hz y hy=>b.2.2 z (mem_append_right _ hz) y hy⟩,λx hx y hy=>?_⟩
 cases mem_append.mp hy with
 |inl q=>exact hl x hx y q
 |inr q=>exact a.2.2 x hx y q
theorem TwoR.movexs{T R zs xs ys:List β}(h:TwoR le T (xs++zs) ys R)(hl: ∀y,y∈ys-> ∀z,z∈zs->le y z):TwoR le T xs ys (zs++R):=
 (h.swap.moveys hl).swap
theorem TwoR.fin{T R xs ys:List β}(h:TwoR le T xs ys R)(hl: ∀x,x∈xs-> ∀y,y∈ys->le x y):(xs++ys++R).Pairwise le/\(xs++ys++R).Perm T:=by
 have a:=pairwise_append.mp h.hx
 have b:=pairwise_append.mp h.hy
 refine⟨pairwise_append.mpr ⟨pairwise_append.mpr ⟨a.1,b.1,hl⟩,a.2.1,λx hx y hy=>?_⟩,h.pm⟩
 cases mem_append.mp hx with
 |inl q=>exact a.2.2 x q y hy
 |inr q=>exact b.2.2 x q y hy
theorem zMO(l:List β)(i k:Nat):l.drop i=(l.drop i).take k++l.drop (i+k):=by
 rw [<-List.drop_drop,take_append_drop]
theorem zTM(l:List β)(i k:Nat)(h:i<=k):l.take k=l.take i++(l.take k).drop i:=by
 have:=take_append_drop i (l.take k)
 rw [List.take_take,min_eq_left h]at this
 exact this.symm
end Srt
set_option autoImplicit false
namespace Srt
open PySem PyProof.Rows
abbrev SM:=StateT SortSt Sem
noncomputable def bey(lf:Bool)(x:Keyed)(v:Array Keyed)(b i:Nat):SM (Option Bool):=
 elem' v (b+i) >>= λy=>if lf=true then lt' y x else lt' x y >>= λr=>pure (r.map λq=>!q)
abbrev G3:=Option (Option Nat)×Nat×Nat
noncomputable def gUp(f:Nat->SM (Option Bool))(n m h:Nat):SM G3:=
 forIn [0:n] ((none,0,1):G3) λ_ c=>
  if c.2.2>=m then pure (.done (none,c.2.1,c.2.2))else f (h+c.2.2) >>= λo=>match o with
   |some q=>if(!q)=true then pure (.done (none,c.2.1,c.2.2))else pure (.yield (none,c.2.2,2 * c.2.2+1))
   |_=>pure (.done (some none,c.2.1,c.2.2))
noncomputable def gDn(f:Nat->SM (Option Bool))(n m h:Nat):SM G3:=
 forIn [0:n] ((none,0,1):G3) λ_ c=>
  if c.2.2>=m then pure (.done (none,c.2.1,c.2.2))else f (h - c.2.2) >>= λo=>match o with
   |some q=>if q=true then pure (.done (none,c.2.1,c.2.2))else pure (.yield (none,c.2.2,2 * c.2.2+1))
   |_=>pure (.done (some none,c.2.1,c.2.2))
noncomputable def gBin(f:Nat->SM (Option Bool))(n lo hi:Nat):SM G3:=
 forIn [0:n] ((none,lo,hi):G3) λ_ c=>
  if c.2.1>=c.2.2 then pure (.done (none,c.2.1,c.2.2))else f (c.2.1+(c.2.2 - c.2.1) / 2) >>= λo=>match o with
   |some q=>if q=true then pure (.yield (none,c.2.1+(c.2.2 - c.2.1) / 2+1,c.2.2))else pure (.yield (none,c.2.1,c.2.1+(c.2.2 - c.2.1) / 2))
   |_=>pure (.done (some none,c.2.1,c.2.2))
noncomputable def gEnd(f:Nat->SM (Option Bool))(n lo hi:Nat):SM (Option Nat):=
 gBin f n lo hi >>= λc=>match c.1 with
  |some r=>pure r
  |none=>pure (some c.2.2)
noncomputable def gal(f:Nat->SM (Option Bool))(n h:Nat):SM (Option Nat):=
 f h >>= λo=>match o with
  |some q=>if q=true then gUp f n (n - h) h >>= λc=>(match c.1 with
     |some r=>pure r
     |none=>gEnd f n (h+c.2.1+1) (h+min c.2.2 (n - h)))
    else gDn f n (h+1) h >>= λc=>(match c.1 with
     |some r=>pure r
     |none=>gEnd f n (h+1 - min c.2.2 (h+1)) (h - c.2.1))
  |_=>pure none
theorem zMP(lf:Bool)(x:Keyed)(v:Array Keyed)(b n h:Nat):nX lf x v b n h=gal (bey lf x v b) n h:=by kernel_rfl
section
variable{M:Model}{A:Around}{E:VP}{s:Shared}
def Tells(M:Model)(A:Around)(E:VP)(s:Shared)(st:SortSt)(f:Nat->SM (Option Bool))(p:Nat->Bool)(n:Nat):Prop:=
 ∀i,i<n-> ∀Q:Option Bool->SortSt->Prop,Q (some (p i)) st->wpS M A E s (f i) Q st
variable{st:SortSt}{f:Nat->SM (Option Bool)}{p:Nat->Bool}{n h:Nat}
theorem yOU{Q:G3->SortSt->Prop}(hf:Tells M A E s st f p n)(hh:h<n)(h0:p h=true)
  (hq: ∀l o,l<o->h+l<n->p (h+l)=true->(n - h<=o\/(h+o<n/\p (h+o)=false))->Q (none,l,o) st):
  wpS M A E s (gUp f n (n - h) h) Q st:=by
 unfold gUp
 refine wpS_forRange (I:=λx c st'=>st'=st/\ ∃l o,c=(none,l,o)/\x+1<=o/\l<o/\h+l<n/\p (h+l)=true) ?_ ?_ ⟨rfl,0,1,rfl,by omega,by omega,by omega,h0⟩
 ·rintro x c st' _ hx ⟨rfl,l,o,rfl,h1,h2,h3,h4⟩
  dsimp only
  by_cases hge:o>=n - h
  ·rw [iP hge];exact wpS_pure (hq l o h2 h3 h4 (.inl hge))
  ·rw [iN hge]
   refine wpS_bind (hf (h+o) (by omega) _ ?_)
   cases hp:p (h+o)with
   |false=>exact wpS_pure (hq l o h2 h3 h4 (.inr ⟨by omega,hp⟩))
   |true=>exact wpS_pure ⟨rfl,o,2 * o+1,rfl,by omega,by omega,by omega,hp⟩
 ·rintro c st' ⟨rfl,l,o,rfl,h1,h2,h3,h4⟩
  exact hq l o h2 h3 h4 (.inl (by omega))
theorem yOV{Q:G3->SortSt->Prop}(hf:Tells M A E s st f p n)(hh:h<n)(h0:p h=false)
  (hq: ∀l o,l<o->l<=h->p (h - l)=false->(h+1<=o\/(o<=h/\p (h - o)=true))->Q (none,l,o) st):
  wpS M A E s (gDn f n (h+1) h) Q st:=by
 unfold gDn
 refine wpS_forRange (I:=λx c st'=>st'=st/\ ∃l o,c=(none,l,o)/\x+1<=o/\l<o/\l<=h/\p (h - l)=false) ?_ ?_ ⟨rfl,0,1,rfl,by omega,by omega,by omega,h0⟩
 ·rintro x c st' _ hx ⟨rfl,l,o,rfl,h1,h2,h3,h4⟩
  dsimp only
  by_cases hge:o>=h+1
  ·rw [iP hge];exact wpS_pure (hq l o h2 h3 h4 (.inl hge))
  ·rw [iN hge]
   refine wpS_bind (hf (h - o) (by omega) _ ?_)
   cases hp:p (h - o)with
   |true=>exact wpS_pure (hq l o h2 h3 h4 (.inr ⟨by omega,hp⟩))
   |false=>exact wpS_pure ⟨rfl,o,2 * o+1,rfl,by omega,by omega,by omega,hp⟩
 ·rintro c st' ⟨rfl,l,o,rfl,h1,h2,h3,h4⟩
  exact hq l o h2 h3 h4 (.inl (by omega))
theorem zYF{Q:Option Nat->SortSt->Prop}{lo hi:Nat}(hf:Tells M A E s st f p n)(hm: ∀i j,i<=j->j<n->p j=true->p i=true)
  (h1:lo<=hi) (h2:hi<=n) (h3: ∀i,i<lo->p i=true) (h4: ∀i,hi<=i->i<n->p i=false)
  (hq: ∀r,r<=n->(∀i,i<r->p i=true)->(∀i,r<=i->i<n->p i=false)->Q (some r) st):
  wpS M A E s (gEnd f n lo hi) Q st:=by
 unfold gEnd gBin
 refine wpS_bind (wpS_mono (wpS_forRange (I:=λx c st'=>st'=st/\ ∃l r,c=(none,l,r)/\l<=r/\r<=n/\r - l<=n - x/\(∀i,i<l->p i=true)/\(∀i,r<=i->i<n->p i=false))
  (Q:=λc st'=>st'=st/\ ∃l r,c=(none,l,r)/\r<=n/\(∀i,i<r->p i=true)/\(∀i,r<=i->i<n->p i=false)) ?_ ?_ ⟨rfl,lo,hi,rfl,h1,h2,by omega,h3,h4⟩) ?_)
 ·rintro x c st' _ hx ⟨rfl,l,r,rfl,a1,a2,a3,a4,a5⟩
  dsimp only
  by_cases hge:l>=r
  ·rw [iP hge]
   have:l=r:=by omega
   subst this
   exact wpS_pure ⟨rfl,l,l,rfl,a2,a4,a5⟩
  ·rw [iN hge]
   refine wpS_bind (hf (l+(r - l) / 2) (by omega) _ ?_)
   cases hp:p (l+(r - l) / 2)with
   |true=>exact wpS_pure ⟨rfl,_,r,rfl,by omega,a2,by omega,λi hi=>hm i _ (by omega) (by omega) hp,a5⟩
   |false=>
    refine wpS_pure ⟨rfl,l,_,rfl,by omega,by omega,by omega,a4,λi hi1 hi2=>?_⟩
    cases hpi:p i with
    |false=>rfl
    |true=>rw [hm _ i hi1 hi2 hpi]at hp;cases hp
 ·rintro c st' ⟨rfl,l,r,rfl,a1,a2,a3,a4,a5⟩
  have:l=r:=by omega
  subst this
  exact⟨rfl,l,l,rfl,a2,a4,a5⟩
 ·rintro c st' ⟨rfl,l,r,rfl,a2,a4,a5⟩
  exact wpS_pure (hq r a2 a4 a5)
theorem yDY{Q:Option Nat->SortSt->Prop}(hf:Tells M A E s st f p n)(hm: ∀i j,i<=j->j<n->p j=true->p i=true)(hh:h<n)
  (hq: ∀r,r<=n->(∀i,i<r->p i=true)->(∀i,r<=i->i<n->p i=false)->Q (some r) st):
  wpS M A E s (gal f n h) Q st:=by
 have hn: ∀i j,i<=j->j<n->p i=false->p j=false:=by
  intro i j h1 h2 h3
  cases hj:p j with
  |false=>rfl
  |true=>rw [hm i j h1 h2 hj]at h3;cases h3
 unfold gal
 refine wpS_bind (hf h hh _ ?_)
 cases hp:p h with
 |true=>
  refine wpS_bind (yOU hf hh hp λl o h1 h2 h3 h4=>?_)
  dsimp only
  refine zYF hf hm (by omega) (by omega) (λi hi=>hm i (h+l) (by omega) h2 h3) (λi h5 h6=>?_) hq
  rcases h4 with h4|⟨h4,h7⟩
  ·omega
  ·exact hn _ i (by omega) h6 h7
 |false=>
  refine wpS_bind (yOV hf hh hp λl o h1 h2 h3 h4=>?_)
  dsimp only
  refine zYF hf hm (by omega) (by omega) (λi hi=>?_) (λi h5 h6=>hn _ i h5 h6 h3) hq
  rcases h4 with h4|⟨h4,h7⟩
  ·omega
  ·exact hm i (h - o) (by omega) (by omega) h7
end
end Srt
set_option autoImplicit false
namespace Srt
open PySem PyProof.Rows
theorem gG{β:Type}{l:List β}{i:Nat}{z:β}(h:z∈l.drop i): ∃j,i+j<l.length/\l[i+j]? =some z:=by
 obtain⟨j,hj,e⟩:=List.mem_iff_getElem.mp h
 rw [length_drop]at hj
 refine⟨j,by omega,?_⟩
 rw [getElem_drop]at e
 rw [<-e,gE0 (by omega)]
theorem kK{β:Type}{l:List β}{i k:Nat}{z:β}(h:z∈(l.drop i).take k): ∃j,j<k/\i+j<l.length/\l[i+j]? =some z:=by
 obtain⟨j,hj,e⟩:=List.mem_iff_getElem.mp h
 rw [lT,length_drop]at hj
 refine⟨j,by omega,by omega,?_⟩
 rw [getElem_take,getElem_drop]at e
 rw [<-e,gE0 (by omega)]
theorem zFA{β:Type}{l:List β}{k:Nat}{z:β}(h:z∈l.take k): ∃j,j<k/\j<l.length/\l[j]? =some z:=by
 obtain⟨j,hj,e⟩:=List.mem_iff_getElem.mp h
 rw [lT]at hj
 refine⟨j,by omega,by omega,?_⟩
 rw [getElem_take]at e
 rw [<-e,gE0 (by omega)]
section
variable{M:Model}{A:Around}{E:VP}{s:Shared}
structure Cmp(M:Model)(A:Around)(E:VP)(s:Shared)(kd:SortKind)(D:Keyed->Prop)(lt:Keyed->Keyed->Bool):Prop where
 go: ∀x y,D x->D y-> ∀st:SortSt,kindOf st=kd-> ∀Q:Option Bool->SortSt->Prop,Q (some (lt x y)) st->wpS M A E s (lt' x y) Q st
 tr: ∀x y z,lt y x=false->lt z y=false->lt z x=false
 as: ∀x y,lt x y=true->lt y x=false
variable{kd:SortKind}{D:Keyed->Prop}{lt:Keyed->Keyed->Bool}
abbrev Le(lt:Keyed->Keyed->Bool)(x y:Keyed):Prop:=lt y x=false
theorem Cmp.rf(C:Cmp M A E s kd D lt)(x:Keyed):Le lt x x:=by
 show lt x x=false
 cases h:lt x x with
 |false=>rfl
 |true=>exact absurd h (by rw [C.as x x h];simp)
def SL(lt:Keyed->Keyed->Bool)(l:List Keyed)(b n:Nat):Prop:= ∀i j x y,i<=j->j<n->l[b+i]? =some x->l[b+j]? =some y->lt y x=false
theorem yM{st:SortSt}{v:Array Keyed}{i:Nat}{Q:Keyed->SortSt->Prop}{x:Keyed}(e:v.toList[i]? =some x)(h:Q x st):wpS M A E s (elem' v i) Q st:=by
 rw [elem'_eq]
 have:v[i]? =some x:=by rw [<-Array.getElem?_toList];exact e
 rw [this]
 exact wpS_pure h
theorem kD{v:Array Keyed}{i:Nat}(h:i<v.size): ∃x,v.toList[i]? =some x:=⟨v.toList[i]'(by simpa using h),gE0 _⟩
def pB(lt:Keyed->Keyed->Bool)(lf:Bool)(x:Keyed)(l:List Keyed)(b i:Nat):Bool:=(l[b+i]?).elim false λy=>if lf=true then lt y x else !lt x y
theorem tells(C:Cmp M A E s kd D lt){st:SortSt}(hk:kindOf st=kd){v:Array Keyed}(hD: ∀y,y∈v.toList->D y){x:Keyed}(hx:D x){b n:Nat}(hn:b+n<=v.size)(lf:Bool):
  Tells M A E s st (bey lf x v b) (pB lt lf x v.toList b) n:=by
 intro i hi Q hq
 obtain⟨y,hy⟩:=kD (v:=v) (i:=b+i) (by omega)
 have hDy:=hD y (mem_of_getElem? hy)
 unfold bey
 unfold pB at hq
 rw [hy]at hq
 refine wpS_bind (yM hy ?_)
 cases lf with
 |true=>exact C.go y x hDy hx st hk _ hq
 |false=>
  show wpS M A E s (lt' x y >>= λr=>pure (r.map λq=>!q)) Q st
  exact wpS_bind (C.go x y hx hDy st hk _ (wpS_pure hq))
theorem zQU(C:Cmp M A E s kd D lt){st:SortSt}(hk:kindOf st=kd){v:Array Keyed}(hD: ∀y,y∈v.toList->D y){x:Keyed}(hx:D x){b n h:Nat}(hn:b+n<=v.size)(hh:h<n)
  (hs:SL lt v.toList b n) {Q:Option Nat->SortSt->Prop}
  (hq: ∀r,r<=n->(∀i y,i<r->v.toList[b+i]? =some y->lt x y=false)->(∀i y,r<=i->i<n->v.toList[b+i]? =some y->lt x y=true)->Q (some r) st):
  wpS M A E s (nX false x v b n h) Q st:=by
 rw [zMP]
 refine yDY (tells C hk hD hx hn false) (λi j h1 h2 h3=>?_) hh (λr h1 h2 h3=>hq r h1 (λi y h4 h5=>?_) (λi y h4 h5 h6=>?_))
 ·obtain⟨y,hy⟩:=kD (v:=v) (i:=b+i) (by omega)
  obtain⟨z,hz⟩:=kD (v:=v) (i:=b+j) (by omega)
  unfold pB at h3 ⊢
  rw [hz]at h3;rw [hy]
  have h3':(!lt x z)=true:=h3
  show(!lt x y)=true
  have:=hs i j y z h1 h2 hy hz
  have h4:lt x z=false:=by simpa using h3'
  rw [C.tr y z x this h4];rfl
 ·have:=h2 i h4
  unfold pB at this
  rw [h5]at this
  have h':(!lt x y)=true:=this
  simpa using h'
 ·have:=h3 i h4 h5
  unfold pB at this
  rw [h6]at this
  have h':(!lt x y)=false:=this
  simpa using h'
theorem zQV(C:Cmp M A E s kd D lt){st:SortSt}(hk:kindOf st=kd){v:Array Keyed}(hD: ∀y,y∈v.toList->D y){x:Keyed}(hx:D x){b n h:Nat}(hn:b+n<=v.size)(hh:h<n)
  (hs:SL lt v.toList b n) {Q:Option Nat->SortSt->Prop}
  (hq: ∀r,r<=n->(∀i y,i<r->v.toList[b+i]? =some y->lt y x=true)->(∀i y,r<=i->i<n->v.toList[b+i]? =some y->lt y x=false)->Q (some r) st):
  wpS M A E s (nX true x v b n h) Q st:=by
 rw [zMP]
 refine yDY (tells C hk hD hx hn true) (λi j h1 h2 h3=>?_) hh (λr h1 h2 h3=>hq r h1 (λi y h4 h5=>?_) (λi y h4 h5 h6=>?_))
 ·obtain⟨y,hy⟩:=kD (v:=v) (i:=b+i) (by omega)
  obtain⟨z,hz⟩:=kD (v:=v) (i:=b+j) (by omega)
  unfold pB at h3 ⊢
  rw [hz]at h3;rw [hy]
  have h3':lt z x=true:=h3
  show lt y x=true
  have:=hs i j y z h1 h2 hy hz
  cases hyx:lt y x with
  |true=>rfl
  |false=>exact absurd h3' (by rw [C.tr x y z hyx this];simp)
 ·have:=h2 i h4
  unfold pB at this
  rw [h5]at this
  exact this
 ·have:=h3 i h4 h5
  unfold pB at this
  rw [h6]at this
  exact this
end
end Srt
set_option autoImplicit false
namespace Srt
open PySem PyProof.Rows
abbrev V:=Array Keyed
abbrev L5:=Option V×V×Nat×Nat×Nat
abbrev L6:=Option V×V×Nat×Nat×Nat×Nat
abbrev L7:=Option V×V×Nat×Nat×Nat×Nat×Nat
abbrev dnL(a b o:V)(i j:Nat):V:=o++a.extract i a.size++b.extract j b.size
abbrev laL(a b o:V)(i j:Nat):V:=o++b.extract j b.size++a.extract i a.size
noncomputable def one1(a b:V)(g:Nat)(c:L6):SM (ForInStep L6):=
 elem' b c.2.2.2.1 >>= λy=>elem' a c.2.2.1 >>= λx=>lt' y x >>= λr=>match r with
  |some q=>if q=true then elem' b c.2.2.2.1 >>= λy=>
     if(c.2.2.2.1+1==b.size)=true then pure (.done (some (dnL a b (c.2.1.push y) c.2.2.1 (c.2.2.2.1+1)),c.2.1.push y,c.2.2.1,c.2.2.2.1+1,0,c.2.2.2.2.2+1))
     else if c.2.2.2.2.2+1>=g then pure (.done (none,c.2.1.push y,c.2.2.1,c.2.2.2.1+1,0,c.2.2.2.2.2+1))
     else pure (.yield (none,c.2.1.push y,c.2.2.1,c.2.2.2.1+1,0,c.2.2.2.2.2+1))
    else elem' a c.2.2.1 >>= λx=>
     if(c.2.2.1+1+1==a.size)=true then pure (.done (some (laL a b (c.2.1.push x) (c.2.2.1+1) c.2.2.2.1),c.2.1.push x,c.2.2.1+1,c.2.2.2.1,c.2.2.2.2.1+1,0))
     else if c.2.2.2.2.1+1>=g then pure (.done (none,c.2.1.push x,c.2.2.1+1,c.2.2.2.1,c.2.2.2.2.1+1,0))
     else pure (.yield (none,c.2.1.push x,c.2.2.1+1,c.2.2.2.1,c.2.2.2.2.1+1,0))
  |_=>pure (.done (some (dnL a b c.2.1 c.2.2.1 c.2.2.2.1),c.2.1,c.2.2.1,c.2.2.2.1,c.2.2.2.2.1,c.2.2.2.2.2))
noncomputable def in1(a b:V)(t g:Nat)(c:L6):SM L6:=forIn [0:t] c λ_ c=>one1 a b g c
noncomputable def two4(a b o:V)(i j g p q:Nat):SM (ForInStep L7):=
 elem' a i >>= λx=>if(i+1+1==a.size)=true then pure (.done (some (laL a b (o.push x) (i+1) j),o.push x,i+1,j,g,p,q))
  else if(decide (p<7)&&decide (q<7))=true then pure (.done (none,o.push x,i+1,j,g,p,q))else pure (.yield (none,o.push x,i+1,j,g,p,q))
noncomputable def two3(a b o:V)(i j g p q:Nat):SM (ForInStep L7):=
 elem' b j >>= λy=>if(j+1==b.size)=true then pure (.done (some (dnL a b (o.push y) i (j+1)),o.push y,i,j+1,g,p,q))
  else elem' a i >>= λx=>nX true x b (j+1) (b.size - (j+1)) 0 >>= λr=>match r with
   |some k=>if k>0 then
      if(j+1+k==b.size)=true then pure (.done (some (dnL a b (o.push y++b.extract (j+1) (j+1+k)) i (j+1+k)),o.push y++b.extract (j+1) (j+1+k),i,j+1+k,g,p,k))
      else two4 a b (o.push y++b.extract (j+1) (j+1+k)) i (j+1+k) g p k
     else two4 a b (o.push y) i (j+1) g p k
   |_=>pure (.done (some (dnL a b (o.push y) i (j+1)),o.push y,i,j+1,g,p,q))
noncomputable def two2(a b o:V)(i j g p q:Nat):SM (ForInStep L7):=
 wW g >>= λ_=>elem' b j >>= λy=>nX false y a i (a.size - i) 0 >>= λr=>match r with
  |some k=>if k>0 then
     if(i+k+1==a.size)=true then pure (.done (some (laL a b (o++a.extract i (i+k)) (i+k) j),o++a.extract i (i+k),i+k,j,g,k,q))
     else if(i+k==a.size)=true then pure (.done (some (dnL a b (o++a.extract i (i+k)) (i+k) j),o++a.extract i (i+k),i+k,j,g,k,q))
     else two3 a b (o++a.extract i (i+k)) (i+k) j g k q
    else two3 a b o i j g k q
  |_=>pure (.done (some (dnL a b o i j),o,i,j,g,p,q))
noncomputable def in2(a b:V)(t:Nat)(c:L7):SM L7:=forIn [0:t] c λ_ c=>
 if c.2.2.2.2.1>1 then two2 a b c.2.1 c.2.2.1 c.2.2.2.1 (c.2.2.2.2.1 - 1) c.2.2.2.2.2.1 c.2.2.2.2.2.2
 else two2 a b c.2.1 c.2.2.1 c.2.2.2.1 c.2.2.2.2.1 c.2.2.2.2.2.1 c.2.2.2.2.2.2
noncomputable def outL(a b:V)(t:Nat)(c:L5):SM L5:=forIn [0:t] c λ_ c=>
 in1 a b t c.2.2.2.2 (none,c.2.1,c.2.2.1,c.2.2.2.1,0,0) >>= λd=>match d.1 with
  |some r=>pure (.done (some r,d.2.1,d.2.2.1,d.2.2.2.1,c.2.2.2.2))
  |none=>liftM (rule "list.sort.gallop") >>= λ_=>in2 a b t (none,d.2.1,d.2.2.1,d.2.2.2.1,c.2.2.2.2+1,d.2.2.2.2.1,d.2.2.2.2.2) >>= λe=>match e.1 with
   |some r=>pure (.done (some r,e.2.1,e.2.2.1,e.2.2.2.1,e.2.2.2.2.1))
   |none=>wW (e.2.2.2.2.1+1) >>= λ_=>pure (.yield (none,e.2.1,e.2.2.1,e.2.2.2.1,e.2.2.2.2.1+1))
noncomputable def mLo(a b:V):SM V:=
 liftM (rule "list.sort.merge-lo") >>= λ_=>elem' b 0 >>= λy=>if(1==b.size)=true then pure (dnL a b #[y] 0 1)
  else if(0+1==a.size)=true then pure (laL a b #[y] 0 1)
  else get >>= λst=>outL a b (a.size+b.size) (none,#[y],0,1,gallopOf st) >>= λc=>match c.1 with
   |some r=>pure r
   |none=>liftM (unsupported "internal:list.sort.merge-bound")
theorem zTN(a b:V):zMM a b=mLo a b:=by kernel_rfl
end Srt
set_option autoImplicit false
namespace Srt
open PySem PyProof.Rows
theorem zJC(v:V)(i:Nat):(v.extract i v.size).toList=v.toList.drop i:=by
 rw [Array.toList_extract,List.extract_eq_take_drop]
 exact take_of_length_le (by simp)
theorem zQW(v:V)(i k:Nat):(v.extract i (i+k)).toList=(v.toList.drop i).take k:=by
 rw [Array.toList_extract,List.extract_eq_take_drop,Nat.add_sub_cancel_left]
theorem yIZ(g:Nat):wW g=modify λs=>SortSt.mk' (kindOf s) (arrOf s) (pendingOf s) g (failedOf s):=rfl
def Sg(st st':SortSt):Prop:= ∃g,st'=SortSt.mk' (kindOf st) (arrOf st) (pendingOf st) g (failedOf st)
theorem Sg.refl(st:SortSt):Sg st st:=⟨gallopOf st,rfl⟩
theorem Sg.kind{st st':SortSt}(h:Sg st st'):kindOf st'=kindOf st:=by obtain⟨g,rfl⟩:=h;rfl
section
variable{M:Model}{A:Around}{E:VP}{s:Shared}{kd:SortKind}{D:Keyed->Prop}{lt:Keyed->Keyed->Bool}{a b:V}
theorem zLC{st st':SortSt}(h:Sg st st'){g:Nat}{Q:Unit->SortSt->Prop}(hq: ∀st',Sg st st'->Q () st'):wpS M A E s (wW g) Q st':=by
 rw [yIZ]
 obtain⟨g',rfl⟩:=h
 exact wpS_modify (hq _ ⟨g,rfl⟩)
abbrev TwoA(lt:Keyed->Keyed->Bool)(a b o:V)(i j:Nat):Prop:=Two (Le lt) (a.toList++b.toList) o.toList (a.toList.drop i) (b.toList.drop j)
def FinA(lt:Keyed->Keyed->Bool)(a b r:V):Prop:=r.toList.Pairwise (Le lt)/\r.toList.Perm (a.toList++b.toList)
theorem zQX{β:Type}{l:List β}{i:Nat}{x:β}(h:l[i]? =some x):l.drop i=x::l.drop (i+1):=by
 obtain⟨hi,e⟩:=gS0.mp h
 rw [<-e];exact drop_eq_getElem_cons hi
theorem heads{β:Type}{le:β->β->Prop}(rf: ∀x,le x x){l:List β}{i:Nat}{x:β}(h:(l.drop i).Pairwise le)(e:l[i]? =some x): ∀z,z∈l.drop i->le x z:=by
 rw [zQX e]at h ⊢
 intro z hz
 cases hz with
 |head=>exact rf x
 |tail _ hz=>exact(pairwise_cons.mp h).1 z hz
theorem TwoA.sa{o:V}{i j:Nat}(h:TwoA lt a b o i j):(a.toList.drop i).Pairwise (Le lt):=(pairwise_append.mp h.hx).2.1
theorem TwoA.sb{o:V}{i j:Nat}(h:TwoA lt a b o i j):(b.toList.drop j).Pairwise (Le lt):=(pairwise_append.mp h.hy).2.1
theorem zYG{l:List Keyed}{i n:Nat}(h:(l.drop i).Pairwise (Le lt))(rf: ∀x,Le lt x x):SL lt l i n:=by
 intro p q x y h1 h2 hx hy
 by_cases e:p=q
 ·subst e;rw [hx]at hy;cases hy;exact rf x
 ·obtain⟨b1,e1⟩:=gS0.mp hx
  obtain⟨b2,e2⟩:=gS0.mp hy
  have:=List.pairwise_iff_getElem.mp h p q (by rw [length_drop];omega) (by rw [length_drop];omega) (by omega)
  rw [getElem_drop,getElem_drop,e1,e2]at this
  exact this
theorem TwoA.pushB{o:V}{i j:Nat}{y:Keyed}(h:TwoA lt a b o i j)(e:b.toList[j]? =some y)(hl: ∀x,x∈a.toList.drop i->Le lt y x):TwoA lt a b (o.push y) i (j+1):=by
 have h':Two (Le lt) (a.toList++b.toList) o.toList (a.toList.drop i) ([y]++b.toList.drop (j+1)):=by rw [show [y]++b.toList.drop (j+1)=b.toList.drop j from(zQX e).symm];exact h
 have:=h'.moveys λz hz x hx=>by rw [mS.mp hz];exact hl x hx
 show Two _ _ (o.push y).toList _ _
 rw [Array.toList_push];exact this
theorem TwoA.pushA{o:V}{i j:Nat}{x:Keyed}(h:TwoA lt a b o i j)(e:a.toList[i]? =some x)(hl: ∀y,y∈b.toList.drop j->Le lt x y):TwoA lt a b (o.push x) (i+1) j:=by
 have h':Two (Le lt) (a.toList++b.toList) o.toList ([x]++a.toList.drop (i+1)) (b.toList.drop j):=by rw [show [x]++a.toList.drop (i+1)=a.toList.drop i from(zQX e).symm];exact h
 have:=h'.movexs λz hz y hy=>by rw [mS.mp hz];exact hl y hy
 show Two _ _ (o.push x).toList _ _
 rw [Array.toList_push];exact this
theorem TwoA.cutA{o:V}{i j k:Nat}(h:TwoA lt a b o i j)(hl: ∀n z,n<k->a.toList[i+n]? =some z-> ∀y,y∈b.toList.drop j->Le lt z y):TwoA lt a b (o++a.extract i (i+k)) (i+k) j:=by
 have h':Two (Le lt) (a.toList++b.toList) o.toList ((a.toList.drop i).take k++a.toList.drop (i+k)) (b.toList.drop j):=by rw [<-zMO];exact h
 have:=h'.movexs λz hz y hy=>by obtain⟨n,h1,_,h2⟩:=kK hz;exact hl n z h1 h2 y hy
 show Two _ _ (o++a.extract i (i+k)).toList _ _
 rw [Array.toList_append,zQW];exact this
theorem TwoA.cutB{o:V}{i j k:Nat}(h:TwoA lt a b o i j)(hl: ∀n z,n<k->b.toList[j+n]? =some z-> ∀x,x∈a.toList.drop i->Le lt z x):TwoA lt a b (o++b.extract j (j+k)) i (j+k):=by
 have h':Two (Le lt) (a.toList++b.toList) o.toList (a.toList.drop i) ((b.toList.drop j).take k++b.toList.drop (j+k)):=by rw [<-zMO];exact h
 have:=h'.moveys λz hz y hy=>by obtain⟨n,h1,_,h2⟩:=kK hz;exact hl n z h1 h2 y hy
 show Two _ _ (o++b.extract j (j+k)).toList _ _
 rw [Array.toList_append,zQW];exact this
theorem TwoA.dnB{o:V}{i j:Nat}(h:TwoA lt a b o i j)(hj:b.size<=j):FinA lt a b (dnL a b o i j):=by
 have e:(dnL a b o i j).toList=o.toList++a.toList.drop i++b.toList.drop j:=by rw [Array.toList_append,Array.toList_append,zJC,zJC]
 unfold FinA;rw [e]
 exact h.fin λx _ y hy=>by rw [drop_of_length_le (by simpa using hj)]at hy;cases hy
theorem TwoA.dnA{o:V}{i j:Nat}(h:TwoA lt a b o i j)(hi:a.size<=i):FinA lt a b (dnL a b o i j):=by
 have e:(dnL a b o i j).toList=o.toList++a.toList.drop i++b.toList.drop j:=by rw [Array.toList_append,Array.toList_append,zJC,zJC]
 unfold FinA;rw [e]
 exact h.fin λx hx y _=>by rw [drop_of_length_le (by simpa using hi)]at hx;cases hx
theorem TwoA.la{o:V}{i j:Nat}(h:TwoA lt a b o i j)(hi:i+1=a.size)(hz: ∀x y,a.toList[a.size - 1]? =some x->y∈b.toList->Le lt y x):FinA lt a b (laL a b o i j):=by
 have e:(laL a b o i j).toList=o.toList++b.toList.drop j++a.toList.drop i:=by rw [Array.toList_append,Array.toList_append,zJC,zJC]
 unfold FinA;rw [e]
 refine h.swap.fin λy hy x hx=>?_
 obtain⟨n,h1,h2⟩:=gG hx
 have hl:a.toList.length=a.size:=by simp
 exact hz x y (by rw [show a.size - 1=i+n by omega];exact h2) (List.mem_of_mem_drop hy)
theorem TwoA.len{o:V}{i j:Nat}(h:TwoA lt a b o i j):o.size+((a.size - i)+(b.size - j))=a.size+b.size:=by
 have:=h.pm.length_eq
 simpa [lA,length_drop]using this
def I1(lt:Keyed->Keyed->Bool)(a b o:V)(i j:Nat):Prop:=i+1<a.size/\j<b.size/\TwoA lt a b o i j
structure Set2(M:Model)(A:Around)(E:VP)(s:Shared)(kd:SortKind)(D:Keyed->Prop)(lt:Keyed->Keyed->Bool)(a b:V):Prop where
 C:Cmp M A E s kd D lt
 da: ∀x,x∈a.toList->D x
 db: ∀x,x∈b.toList->D x
 lst: ∀x y,a.toList[a.size - 1]? =some x->y∈b.toList->Le lt y x
def N6(lt:Keyed->Keyed->Bool)(a b:V)(n:Nat)(c:L6):Prop:= ∃o i j p q,c=(none,o,i,j,p,q)/\I1 lt a b o i j/\n<=o.size
def P6(lt:Keyed->Keyed->Bool)(a b:V)(n:Nat)(c:L6):Prop:=(∃r e,c=(some r,e)/\FinA lt a b r)\/N6 lt a b n c
def N7(lt:Keyed->Keyed->Bool)(a b:V)(n:Nat)(c:L7):Prop:= ∃o i j g p q,c=(none,o,i,j,g,p,q)/\I1 lt a b o i j/\n<=o.size
def P7(lt:Keyed->Keyed->Bool)(a b:V)(n:Nat)(c:L7):Prop:=(∃r e,c=(some r,e)/\FinA lt a b r)\/N7 lt a b n c
theorem yJA(Z:Set2 M A E s kd D lt a b){st:SortSt}(hk:kindOf st=kd){o:V}{i j p q g:Nat}(h:I1 lt a b o i j){Q:ForInStep L6->SortSt->Prop}
  (hd: ∀c,P6 lt a b (o.size+1) c->Q (.done c) st) (hy: ∀c,N6 lt a b (o.size+1) c->Q (.yield c) st):wpS M A E s (one1 a b g (none,o,i,j,p,q)) Q st:=by
 obtain⟨h1,h2,h3⟩:=h
 obtain⟨y,ey⟩:=kD h2
 obtain⟨x,ex⟩:=kD (v:=a) (i:=i) (by omega)
 have hb:=heads Z.C.rf h3.sb ey
 have ha:=heads Z.C.rf h3.sa ex
 unfold one1
 refine wpS_bind (yM ey (wpS_bind (yM ex (wpS_bind (Z.C.go y x (Z.db y (mem_of_getElem? ey)) (Z.da x (mem_of_getElem? ex)) st hk _ ?_)))))
 cases hlt:lt y x with
 |true=>
  have T':=h3.pushB ey λz hz=>Z.C.tr y x z (Z.C.as y x hlt) (ha z hz)
  have hs:(o.push y).size=o.size+1:=Array.size_push ..
  refine wpS_bind (yM ey ?_)
  dsimp only
  by_cases c1:j+1=b.size
  ·rw [iP (by simpa using c1)]
   exact wpS_pure (hd _ (.inl ⟨_,_,rfl,T'.dnB (by omega)⟩))
  ·rw [iN (by simpa using c1)]
   have I':I1 lt a b (o.push y) i (j+1):=⟨h1,by omega,T'⟩
   split
   ·exact wpS_pure (hd _ (.inr ⟨_,_,_,_,_,rfl,I',by omega⟩))
   ·exact wpS_pure (hy _ ⟨_,_,_,_,_,rfl,I',by omega⟩)
 |false=>
  have T':=h3.pushA ex λz hz=>Z.C.tr x y z hlt (hb z hz)
  have hs:(o.push x).size=o.size+1:=Array.size_push ..
  refine wpS_bind (yM ex ?_)
  dsimp only
  by_cases c1:i+1+1=a.size
  ·rw [iP (by simpa using c1)]
   exact wpS_pure (hd _ (.inl ⟨_,_,rfl,T'.la c1 Z.lst⟩))
  ·rw [iN (by simpa using c1)]
   have I':I1 lt a b (o.push x) (i+1) j:=⟨by omega,h2,T'⟩
   split
   ·exact wpS_pure (hd _ (.inr ⟨_,_,_,_,_,rfl,I',by omega⟩))
   ·exact wpS_pure (hy _ ⟨_,_,_,_,_,rfl,I',by omega⟩)
theorem N6.mono{n m:Nat}{c:L6}(h:N6 lt a b n c)(e:m<=n):N6 lt a b m c:=by
 obtain⟨o,i,j,p,q,h1,h2,h3⟩:=h;exact⟨o,i,j,p,q,h1,h2,by omega⟩
theorem P6.mono{n m:Nat}{c:L6}(h:P6 lt a b n c)(e:m<=n):P6 lt a b m c:=h.imp id λh=>h.mono e
theorem yOW(Z:Set2 M A E s kd D lt a b){st:SortSt}(hk:kindOf st=kd){o:V}{i j g t:Nat}(ht:1<=t)(h:I1 lt a b o i j){Q:L6->SortSt->Prop}
  (hq: ∀c,P6 lt a b (o.size+1) c->Q c st):wpS M A E s (in1 a b t g (none,o,i,j,0,0)) Q st:=by
 unfold in1
 refine wpS_forRange (I:=λx c st'=>st'=st/\N6 lt a b (o.size+x) c) ?_ ?_ ⟨rfl,o,i,j,0,0,rfl,h,by omega⟩
 ·rintro x c st' _ _ ⟨rfl,o',i',j',p',q',rfl,h',hn⟩
  refine yJA Z hk h' (λc hc=>hq c (hc.mono (by omega))) (λc hc=>⟨rfl,hc.mono (by omega)⟩)
 ·rintro c st' ⟨rfl,hN⟩
  exact hq c (.inr (hN.mono (by omega)))
theorem zYH(Z:Set2 M A E s kd D lt a b){st:SortSt}{o:V}{i j g p q:Nat}(h1:i+1<a.size)(h2:j<b.size)(h3:TwoA lt a b o i j)
  (hl: ∀x,a.toList[i]? =some x-> ∀y,y∈b.toList.drop j->Le lt x y) {n:Nat} (hn:n<=o.size) {Q:ForInStep L7->SortSt->Prop}
  (hd: ∀c,P7 lt a b n c->Q (.done c) st) (hy: ∀c,N7 lt a b n c->Q (.yield c) st):wpS M A E s (two4 a b o i j g p q) Q st:=by
 obtain⟨x,ex⟩:=kD (v:=a) (i:=i) (by omega)
 have T':=h3.pushA ex (hl x ex)
 have hs:(o.push x).size=o.size+1:=Array.size_push ..
 unfold two4
 refine wpS_bind (yM ex ?_)
 by_cases c1:i+1+1=a.size
 ·rw [iP (by simpa using c1)]
  exact wpS_pure (hd _ (.inl ⟨_,_,rfl,T'.la c1 Z.lst⟩))
 ·rw [iN (by simpa using c1)]
  have I':I1 lt a b (o.push x) (i+1) j:=⟨by omega,h2,T'⟩
  split
  ·exact wpS_pure (hd _ (.inr ⟨_,_,_,_,_,_,rfl,I',by omega⟩))
  ·exact wpS_pure (hy _ ⟨_,_,_,_,_,_,rfl,I',by omega⟩)
theorem zYI(Z:Set2 M A E s kd D lt a b){st:SortSt}(hk:kindOf st=kd){o:V}{i j g p q:Nat}(h1:i+1<a.size)(h2:j<b.size)(h3:TwoA lt a b o i j)
  (hl: ∀y,b.toList[j]? =some y-> ∀x,x∈a.toList.drop i->Le lt y x) {n:Nat} (hn:n<=o.size) {Q:ForInStep L7->SortSt->Prop}
  (hd: ∀c,P7 lt a b n c->Q (.done c) st) (hy: ∀c,N7 lt a b n c->Q (.yield c) st):wpS M A E s (two3 a b o i j g p q) Q st:=by
 obtain⟨y,ey⟩:=kD h2
 obtain⟨x,ex⟩:=kD (v:=a) (i:=i) (by omega)
 have T':=h3.pushB ey (hl y ey)
 have hs:(o.push y).size=o.size+1:=Array.size_push ..
 have ha:=heads Z.C.rf h3.sa ex
 unfold two3
 refine wpS_bind (yM ey ?_)
 by_cases c1:j+1=b.size
 ·rw [iP (by simpa using c1)]
  exact wpS_pure (hd _ (.inl ⟨_,_,rfl,T'.dnB (by omega)⟩))
 ·rw [iN (by simpa using c1)]
  refine wpS_bind (yM ex (wpS_bind (zQV Z.C hk Z.db (Z.da x (mem_of_getElem? ex)) (by omega) (by omega) (zYG T'.sb Z.C.rf) λk k1 k2 k3=>?_)))
  dsimp only
  by_cases ck:k>0
  ·rw [iP ck]
   have T2:=T'.cutB (k:=k) λm z hm hz x' hx'=>Z.C.tr z x x' (Z.C.as z x (k2 m z hm hz)) (ha x' hx')
   have hs2:(o.push y++b.extract (j+1) (j+1+k)).size>=o.size+1:=by rw [Array.size_append];omega
   by_cases c2:j+1+k=b.size
   ·rw [iP (by simpa using c2)]
    exact wpS_pure (hd _ (.inl ⟨_,_,rfl,T2.dnB (by omega)⟩))
   ·rw [iN (by simpa using c2)]
    refine zYH Z h1 (by omega) T2 (λx' hx' y' hy'=>?_) (by omega) hd hy
    rw [ex]at hx';cases hx'
    obtain⟨m,m1,m2⟩:=gG hy'
    rw [Array.length_toList]at m1
    exact k3 (k+m) y' (by omega) (by omega) (by rw [<-add_assoc];exact m2)
  ·rw [iN ck]
   refine zYH Z h1 (by omega) T' (λx' hx' y' hy'=>?_) (by omega) hd hy
   rw [ex]at hx';cases hx'
   obtain⟨m,m1,m2⟩:=gG hy'
   rw [Array.length_toList]at m1
   exact k3 m y' (by omega) (by omega) m2
theorem zYJ(Z:Set2 M A E s kd D lt a b){st0 st:SortSt}(hg:Sg st0 st)(hk:kindOf st0=kd){o:V}{i j g p q:Nat}(h:I1 lt a b o i j){n:Nat}(hn:n<=o.size)
  {Q:ForInStep L7->SortSt->Prop} (hd: ∀c st,Sg st0 st->P7 lt a b n c->Q (.done c) st) (hy: ∀c st,Sg st0 st->N7 lt a b n c->Q (.yield c) st):
  wpS M A E s (two2 a b o i j g p q) Q st:=by
 obtain⟨h1,h2,h3⟩:=h
 obtain⟨y,ey⟩:=kD h2
 have hb:=heads Z.C.rf h3.sb ey
 unfold two2
 refine wpS_bind (zLC hg λst' hg'=>?_)
 have hk':kindOf st'=kd:=hg'.kind.trans hk
 refine wpS_bind (yM ey (wpS_bind (zQU Z.C hk' Z.da (Z.db y (mem_of_getElem? ey)) (by omega) (by omega) (zYG h3.sa Z.C.rf) λk k1 k2 k3=>?_)))
 dsimp only
 by_cases ck:k>0
 ·rw [iP ck]
  have T2:=h3.cutA (k:=k) λm z hm hz y' hy'=>Z.C.tr z y y' (k2 m z hm hz) (hb y' hy')
  have hs2:(o++a.extract i (i+k)).size>=o.size:=by rw [Array.size_append];omega
  by_cases c1:i+k+1=a.size
  ·rw [iP (by simpa using c1)]
   exact wpS_pure (hd _ _ hg' (.inl ⟨_,_,rfl,T2.la c1 Z.lst⟩))
  ·rw [iN (by simpa using c1)]
   by_cases c2:i+k=a.size
   ·rw [iP (by simpa using c2)]
    exact wpS_pure (hd _ _ hg' (.inl ⟨_,_,rfl,T2.dnA (by omega)⟩))
   ·rw [iN (by simpa using c2)]
    refine zYI Z hk' (by omega) h2 T2 (λy' hy' x' hx'=>?_) (by omega) (λc hc=>hd c _ hg' hc) (λc hc=>hy c _ hg' hc)
    rw [ey]at hy';cases hy'
    obtain⟨m,m1,m2⟩:=gG hx'
    rw [Array.length_toList]at m1
    exact Z.C.as _ _ (k3 (k+m) x' (by omega) (by omega) (by rw [<-add_assoc];exact m2))
 ·rw [iN ck]
  refine zYI Z hk' h1 h2 h3 (λy' hy' x' hx'=>?_) hn (λc hc=>hd c _ hg' hc) (λc hc=>hy c _ hg' hc)
  rw [ey]at hy';cases hy'
  obtain⟨m,m1,m2⟩:=gG hx'
  rw [Array.length_toList]at m1
  exact Z.C.as _ _ (k3 m x' (by omega) (by omega) m2)
theorem yOX(Z:Set2 M A E s kd D lt a b){st0 st:SortSt}(hg:Sg st0 st)(hk:kindOf st0=kd){o:V}{i j g p q t:Nat}(h:I1 lt a b o i j){n:Nat}(hn:n<=o.size)
  {Q:L7->SortSt->Prop} (hq: ∀c st,Sg st0 st->P7 lt a b n c->Q c st):wpS M A E s (in2 a b t (none,o,i,j,g,p,q)) Q st:=by
 unfold in2
 refine wpS_forRange (I:=λx c st'=>Sg st0 st'/\N7 lt a b n c) ?_ ?_ ⟨hg,o,i,j,g,p,q,rfl,h,hn⟩
 ·rintro x c st' _ _ ⟨hg',o',i',j',g',p',q',rfl,h',hn'⟩
  dsimp only
  split
  ·exact zYJ Z hg' hk h' hn' (λc st hs hc=>hq c st hs hc) (λc st hs hc=>⟨hs,hc⟩)
  ·exact zYJ Z hg' hk h' hn' (λc st hs hc=>hq c st hs hc) (λc st hs hc=>⟨hs,hc⟩)
 ·rintro c st' ⟨hg',hN⟩
  exact hq c st' hg' (.inr hN)
theorem yOY(Z:Set2 M A E s kd D lt a b){st:SortSt}(hk:kindOf st=kd)(sa:a.toList.Pairwise (Le lt))(sb:b.toList.Pairwise (Le lt))(na:1<=a.size)(nb:1<=b.size)
  (h0: ∀x y,a.toList[0]? =some x->b.toList[0]? =some y->Le lt y x)
  {Q:V->SortSt->Prop} (hq: ∀r st',Sg st st'->FinA lt a b r->Q r st'):wpS M A E s (zMM a b) Q st:=by
 rw [zTN]
 unfold mLo
 refine wpS_bind (zCX ?_)
 obtain⟨y,ey⟩:=kD (v:=b) (i:=0) (by omega)
 obtain⟨x,ex⟩:=kD (v:=a) (i:=0) (by omega)
 have T0:TwoA lt a b #[] 0 0:=⟨by simpa using sa,by simpa using sb,by simp⟩
 have hax:=heads Z.C.rf T0.sa ex
 have T1:TwoA lt a b #[y] 0 1:=T0.pushB ey λz hz=>Z.C.tr y x z (h0 x y ex ey) (hax z hz)
 refine wpS_bind (yM ey ?_)
 by_cases c1:1=b.size
 ·rw [iP (by simpa using c1)]
  exact wpS_pure (hq _ _ (Sg.refl st) (T1.dnB (by omega)))
 ·rw [iN (by simpa using c1)]
  by_cases c2:0+1=a.size
  ·rw [iP (by simpa using c2)]
   exact wpS_pure (hq _ _ (Sg.refl st) (T1.la c2 Z.lst))
  ·rw [iN (by simpa using c2)]
   refine wpS_bind (wpS_get ?_)
   refine wpS_bind (wpS_mono (m:=outL a b (a.size+b.size) (none,#[y],0,1,gallopOf st)) (Q:=λc st'=>Sg st st'/\ ∃r e,c=(some r,e)/\FinA lt a b r) ?_ ?_)
   ·unfold outL
    refine wpS_forRange (I:=λx c st'=>Sg st st'/\ ∃o i j g,c=(none,o,i,j,g)/\I1 lt a b o i j/\x+1<=o.size) ?_ ?_ ⟨Sg.refl st,_,_,_,_,rfl,⟨by omega,by omega,T1⟩,by simp⟩
    ·rintro n c st' _ _ ⟨hg,o,i,j,g,rfl,hI,hn⟩
     dsimp only
     refine wpS_bind (yOW Z (hg.kind.trans hk) (by omega) hI λd hd=>?_)
     rcases hd with⟨r,e,rfl,hF⟩|⟨o',i',j',p',q',rfl,hI',hn'⟩
     ·exact wpS_pure ⟨hg,r,_,rfl,hF⟩
     ·dsimp only
      refine wpS_bind (zCX ?_)
      refine wpS_bind (yOX Z hg hk hI' hn' λe st2 hg2 he=>?_)
      rcases he with⟨r,e,rfl,hF⟩|⟨o2,i2,j2,g2,p2,q2,rfl,hI2,hn2⟩
      ·exact wpS_pure ⟨hg2,r,_,rfl,hF⟩
      ·dsimp only
       refine wpS_bind (zLC hg2 λst3 hg3=>?_)
       exact wpS_pure ⟨hg3,o2,i2,j2,_,rfl,hI2,by omega⟩
    ·rintro c st' ⟨hg,o,i,j,g,rfl,hI,hn⟩
     have:=hI.2.2.len
     omega
   ·rintro c st' ⟨hg,r,e,rfl,hF⟩
    exact wpS_pure (hq r st' hg hF)
end
end Srt
set_option autoImplicit false
namespace Srt
open PySem PyProof.Rows
abbrev H5:=Option V×Nat×Nat×V×Nat
abbrev H6:=Option V×Nat×Nat×V×Nat×Nat
abbrev H7:=Option V×Nat×Nat×V×Nat×Nat×Nat
abbrev dnH(a b o:V)(i j:Nat):V:=a.extract 0 i++b.extract 0 j++o.reverse
abbrev fbH(a b o:V)(i j:Nat):V:=b.extract 0 j++a.extract 0 i++o.reverse
noncomputable def yBI(a b:V)(g:Nat)(c:H6):SM (ForInStep H6):=
 elem' b (c.2.2.1 - 1) >>= λy=>elem' a (c.2.1 - 1) >>= λx=>lt' y x >>= λr=>match r with
  |some q=>if q=true then elem' a (c.2.1 - 1) >>= λx=>
     if(c.2.1 - 1==0)=true then pure (.done (some (dnH a b (c.2.2.2.1.push x) (c.2.1 - 1) c.2.2.1),c.2.1 - 1,c.2.2.1,c.2.2.2.1.push x,c.2.2.2.2.1+1,0))
     else if c.2.2.2.2.1+1>=g then pure (.done (none,c.2.1 - 1,c.2.2.1,c.2.2.2.1.push x,c.2.2.2.2.1+1,0))
     else pure (.yield (none,c.2.1 - 1,c.2.2.1,c.2.2.2.1.push x,c.2.2.2.2.1+1,0))
    else elem' b (c.2.2.1 - 1) >>= λy=>
     if(c.2.2.1 - 1==1)=true then pure (.done (some (fbH a b (c.2.2.2.1.push y) c.2.1 (c.2.2.1 - 1)),c.2.1,c.2.2.1 - 1,c.2.2.2.1.push y,0,c.2.2.2.2.2+1))
     else if c.2.2.2.2.2+1>=g then pure (.done (none,c.2.1,c.2.2.1 - 1,c.2.2.2.1.push y,0,c.2.2.2.2.2+1))
     else pure (.yield (none,c.2.1,c.2.2.1 - 1,c.2.2.2.1.push y,0,c.2.2.2.2.2+1))
  |_=>pure (.done (some (dnH a b c.2.2.2.1 c.2.1 c.2.2.1),c.2.1,c.2.2.1,c.2.2.2.1,c.2.2.2.2.1,c.2.2.2.2.2))
noncomputable def zGM(a b:V)(t g:Nat)(c:H6):SM H6:=forIn [0:t] c λ_ c=>yBI a b g c
noncomputable def hw4(a b o:V)(i j g p q:Nat):SM (ForInStep H7):=
 elem' a (i - 1) >>= λx=>if(i - 1==0)=true then pure (.done (some (dnH a b (o.push x) (i - 1) j),i - 1,j,o.push x,g,p,q))
  else if(decide (p<7)&&decide (q<7))=true then pure (.done (none,i - 1,j,o.push x,g,p,q))else pure (.yield (none,i - 1,j,o.push x,g,p,q))
noncomputable def hw3(a b o:V)(i j g p q:Nat):SM (ForInStep H7):=
 elem' b (j - 1) >>= λy=>if(j - 1==1)=true then pure (.done (some (fbH a b (o.push y) i (j - 1)),i,j - 1,o.push y,g,p,q))
  else elem' a (i - 1) >>= λx=>nX true x b 0 (j - 1) (j - 1 - 1) >>= λr=>match r with
   |some k=>if j - 1 - k>0 then
      if(k==1)=true then pure (.done (some (fbH a b (o.push y++(b.extract k (j - 1)).reverse) i k),i,k,o.push y++(b.extract k (j - 1)).reverse,g,p,j - 1 - k))
      else if(k==0)=true then pure (.done (some (dnH a b (o.push y++(b.extract k (j - 1)).reverse) i k),i,k,o.push y++(b.extract k (j - 1)).reverse,g,p,j - 1 - k))
      else hw4 a b (o.push y++(b.extract k (j - 1)).reverse) i k g p (j - 1 - k)
     else hw4 a b (o.push y) i (j - 1) g p (j - 1 - k)
   |_=>pure (.done (some (dnH a b (o.push y) i (j - 1)),i,j - 1,o.push y,g,p,q))
noncomputable def hw2(a b o:V)(i j g p q:Nat):SM (ForInStep H7):=
 wW g >>= λ_=>elem' b (j - 1) >>= λy=>nX false y a 0 i (i - 1) >>= λr=>match r with
  |some k=>if i - k>0 then
     if(k==0)=true then pure (.done (some (dnH a b (o++(a.extract k i).reverse) k j),k,j,o++(a.extract k i).reverse,g,i - k,q))
     else hw3 a b (o++(a.extract k i).reverse) k j g (i - k) q
    else hw3 a b o i j g (i - k) q
  |_=>pure (.done (some (dnH a b o i j),i,j,o,g,p,q))
noncomputable def zJD(a b:V)(t:Nat)(c:H7):SM H7:=forIn [0:t] c λ_ c=>
 if c.2.2.2.2.1>1 then hw2 a b c.2.2.2.1 c.2.1 c.2.2.1 (c.2.2.2.2.1 - 1) c.2.2.2.2.2.1 c.2.2.2.2.2.2
 else hw2 a b c.2.2.2.1 c.2.1 c.2.2.1 c.2.2.2.2.1 c.2.2.2.2.2.1 c.2.2.2.2.2.2
noncomputable def outH(a b:V)(t:Nat)(c:H5):SM H5:=forIn [0:t] c λ_ c=>
 zGM a b t c.2.2.2.2 (none,c.2.1,c.2.2.1,c.2.2.2.1,0,0) >>= λd=>match d.1 with
  |some r=>pure (.done (some r,d.2.1,d.2.2.1,d.2.2.2.1,c.2.2.2.2))
  |none=>liftM (rule "list.sort.gallop") >>= λ_=>zJD a b t (none,d.2.1,d.2.2.1,d.2.2.2.1,c.2.2.2.2+1,d.2.2.2.2.1,d.2.2.2.2.2) >>= λe=>match e.1 with
   |some r=>pure (.done (some r,e.2.1,e.2.2.1,e.2.2.2.1,e.2.2.2.2.1))
   |none=>wW (e.2.2.2.2.1+1) >>= λ_=>pure (.yield (none,e.2.1,e.2.2.1,e.2.2.2.1,e.2.2.2.2.1+1))
noncomputable def mHi(a b:V):SM V:=
 liftM (rule "list.sort.merge-hi") >>= λ_=>elem' a (a.size - 1) >>= λx=>if(a.size - 1==0)=true then pure (dnH a b #[x] (a.size - 1) b.size)
  else if(b.size==1)=true then pure (fbH a b #[x] (a.size - 1) b.size)
  else get >>= λst=>outH a b (a.size+b.size) (none,a.size - 1,b.size,#[x],gallopOf st) >>= λc=>match c.1 with
   |some r=>pure r
   |none=>liftM (unsupported "internal:list.sort.merge-bound")
theorem zTO(a b:V):zMN a b=mHi a b:=by kernel_rfl
theorem zQY(v:V)(i:Nat):(v.extract 0 i).toList=v.toList.take i:=by
 rw [Array.toList_extract,List.extract_eq_take_drop];rfl
theorem yOZ(v:V)(t i:Nat):(v.extract t i).toList=(v.toList.take i).drop t:=by
 rw [Array.toList_extract,List.extract_eq_take_drop,List.drop_take]
theorem zMQ{β:Type}{l:List β}{t i:Nat}{z:β}(h:z∈(l.take i).drop t): ∃n,t<=n/\n<i/\l[n]? =some z:=by
 obtain⟨j,h1,h2⟩:=gG h
 rw [lT]at h1
 rw [getElem?_take_of_lt (by omega)]at h2
 exact⟨t+j,by omega,by omega,h2⟩
theorem zLD{β:Type}{l:List β}{i:Nat}{x:β}(h:l[i]? =some x):l.take (i+1)=l.take i++[x]:=by
 obtain⟨hi,e⟩:=gS0.mp h
 rw [<-e];exact(List.take_append_getElem hi).symm
theorem zYK{β:Type}{le:β->β->Prop}(rf: ∀x,le x x){l:List β}{i:Nat}{x:β}(h:(l.take (i+1)).Pairwise le)(e:l[i]? =some x): ∀z,z∈l.take (i+1)->le z x:=by
 rw [zLD e]at h ⊢
 intro z hz
 rcases mem_append.mp hz with q|q
 ·exact(pairwise_append.mp h).2.2 z q x (mS.mpr rfl)
 ·rw [mS.mp q];exact rf x
section
variable{M:Model}{A:Around}{E:VP}{s:Shared}{kd:SortKind}{D:Keyed->Prop}{lt:Keyed->Keyed->Bool}{a b:V}
theorem zYL{l:List Keyed}{n:Nat}(h:(l.take n).Pairwise (Le lt))(rf: ∀x,Le lt x x):SL lt l 0 n:=by
 intro p q x y h1 h2 hx hy
 rw [zero_add]at hx hy
 by_cases e:p=q
 ·subst e;rw [hx]at hy;cases hy;exact rf x
 ·obtain⟨b1,e1⟩:=gS0.mp hx
  obtain⟨b2,e2⟩:=gS0.mp hy
  have:=List.pairwise_iff_getElem.mp h p q (by rw [lT];omega) (by rw [lT];omega) (by omega)
  rw [getElem_take,getElem_take,e1,e2]at this
  exact this
abbrev TwoH(lt:Keyed->Keyed->Bool)(a b o:V)(i j:Nat):Prop:=TwoR (Le lt) (a.toList++b.toList) (a.toList.take i) (b.toList.take j) o.toList.reverse
theorem TwoH.sa{o:V}{i j:Nat}(h:TwoH lt a b o i j):(a.toList.take i).Pairwise (Le lt):=(pairwise_append.mp h.hx).1
theorem TwoH.sb{o:V}{i j:Nat}(h:TwoH lt a b o i j):(b.toList.take j).Pairwise (Le lt):=(pairwise_append.mp h.hy).1
theorem TwoH.pushA{o:V}{i j:Nat}{x:Keyed}(h:TwoH lt a b o (i+1) j)(e:a.toList[i]? =some x)(hl: ∀y,y∈b.toList.take j->Le lt y x):TwoH lt a b (o.push x) i j:=by
 have h':TwoR (Le lt) (a.toList++b.toList) (a.toList.take i++[x]) (b.toList.take j) o.toList.reverse:=by rw [<-zLD e];exact h
 have:=h'.movexs λy hy z hz=>by rw [mS.mp hz];exact hl y hy
 show TwoR _ _ _ _ (o.push x).toList.reverse
 rw [Array.toList_push,List.reverse_append];exact this
theorem TwoH.pushB{o:V}{i j:Nat}{y:Keyed}(h:TwoH lt a b o i (j+1))(e:b.toList[j]? =some y)(hl: ∀x,x∈a.toList.take i->Le lt x y):TwoH lt a b (o.push y) i j:=by
 have h':TwoR (Le lt) (a.toList++b.toList) (a.toList.take i) (b.toList.take j++[y]) o.toList.reverse:=by rw [<-zLD e];exact h
 have:=h'.moveys λx hx z hz=>by rw [mS.mp hz];exact hl x hx
 show TwoR _ _ _ _ (o.push y).toList.reverse
 rw [Array.toList_push,List.reverse_append];exact this
theorem zYM(o v:V)(t i:Nat):(o++(v.extract t i).reverse).toList.reverse=(v.toList.take i).drop t++o.toList.reverse:=by
 rw [Array.toList_append,List.reverse_append,Array.toList_reverse,List.reverse_reverse,yOZ]
theorem TwoH.cutA{o:V}{i j t:Nat}(ht:t<=i)(h:TwoH lt a b o i j)(hl: ∀n z,t<=n->n<i->a.toList[n]? =some z-> ∀y,y∈b.toList.take j->Le lt y z):TwoH lt a b (o++(a.extract t i).reverse) t j:=by
 have h':TwoR (Le lt) (a.toList++b.toList) (a.toList.take t++(a.toList.take i).drop t) (b.toList.take j) o.toList.reverse:=by rw [<-zTM _ t i ht];exact h
 have:=h'.movexs λy hy z hz=>by obtain⟨n,h1,h2,h3⟩:=zMQ hz;exact hl n z h1 h2 h3 y hy
 show TwoR _ _ _ _ (o++(a.extract t i).reverse).toList.reverse
 rw [zYM];exact this
theorem TwoH.cutB{o:V}{i j t:Nat}(ht:t<=j)(h:TwoH lt a b o i j)(hl: ∀n z,t<=n->n<j->b.toList[n]? =some z-> ∀x,x∈a.toList.take i->Le lt x z):TwoH lt a b (o++(b.extract t j).reverse) i t:=by
 have h':TwoR (Le lt) (a.toList++b.toList) (a.toList.take i) (b.toList.take t++(b.toList.take j).drop t) o.toList.reverse:=by rw [<-zTM _ t j ht];exact h
 have:=h'.moveys λx hx z hz=>by obtain⟨n,h1,h2,h3⟩:=zMQ hz;exact hl n z h1 h2 h3 x hx
 show TwoR _ _ _ _ (o++(b.extract t j).reverse).toList.reverse
 rw [zYM];exact this
theorem TwoH.dn{o:V}{i j:Nat}(h:TwoH lt a b o i j)(hz:i=0\/j=0):FinA lt a b (dnH a b o i j):=by
 have e:(dnH a b o i j).toList=a.toList.take i++b.toList.take j++o.toList.reverse:=by rw [Array.toList_append,Array.toList_append,zQY,zQY,Array.toList_reverse]
 unfold FinA;rw [e]
 refine h.fin λx hx y hy=>?_
 rcases hz with rfl|rfl
 ·cases hx
 ·cases hy
theorem TwoH.fb{o:V}{i:Nat}(h:TwoH lt a b o i 1)(hz: ∀x y,x∈a.toList->b.toList[0]? =some y->Le lt y x):FinA lt a b (fbH a b o i 1):=by
 have e:(fbH a b o i 1).toList=b.toList.take 1++a.toList.take i++o.toList.reverse:=by rw [Array.toList_append,Array.toList_append,zQY,zQY,Array.toList_reverse]
 unfold FinA;rw [e]
 refine h.swap.fin λy hy x hx=>?_
 obtain⟨n,h1,h2,h3⟩:=zFA hy
 exact hz x y (mem_of_mem_take hx) (by rw [show 0=n by omega];exact h3)
theorem TwoH.len{o:V}{i j:Nat}(h:TwoH lt a b o i j)(h1:i<=a.size)(h2:j<=b.size):o.size+(i+j)=a.size+b.size:=by
 have:=h.pm.length_eq
 simp only [lA,lT,List.length_reverse,Array.length_toList]at this
 omega
def J1(lt:Keyed->Keyed->Bool)(a b o:V)(i j:Nat):Prop:=1<=i/\i<=a.size/\2<=j/\j<=b.size/\TwoH lt a b o i j
structure Set3(M:Model)(A:Around)(E:VP)(s:Shared)(kd:SortKind)(D:Keyed->Prop)(lt:Keyed->Keyed->Bool)(a b:V):Prop extends Set2 M A E s kd D lt a b where
 fst: ∀x y,x∈a.toList->b.toList[0]? =some y->Le lt y x
def R6(lt:Keyed->Keyed->Bool)(a b:V)(n:Nat)(c:H6):Prop:= ∃i j o p q,c=(none,i,j,o,p,q)/\J1 lt a b o i j/\n<=o.size
def S6(lt:Keyed->Keyed->Bool)(a b:V)(n:Nat)(c:H6):Prop:=(∃r e,c=(some r,e)/\FinA lt a b r)\/R6 lt a b n c
def R7(lt:Keyed->Keyed->Bool)(a b:V)(n:Nat)(c:H7):Prop:= ∃i j o g p q,c=(none,i,j,o,g,p,q)/\J1 lt a b o i j/\n<=o.size
def S7(lt:Keyed->Keyed->Bool)(a b:V)(n:Nat)(c:H7):Prop:=(∃r e,c=(some r,e)/\FinA lt a b r)\/R7 lt a b n c
theorem R6.mono{n m:Nat}{c:H6}(h:R6 lt a b n c)(e:m<=n):R6 lt a b m c:=by
 obtain⟨o,i,j,p,q,h1,h2,h3⟩:=h;exact⟨o,i,j,p,q,h1,h2,by omega⟩
theorem S6.mono{n m:Nat}{c:H6}(h:S6 lt a b n c)(e:m<=n):S6 lt a b m c:=h.imp id λh=>h.mono e
theorem yJB(Z:Set3 M A E s kd D lt a b){st:SortSt}(hk:kindOf st=kd){o:V}{i j p q g:Nat}(h:J1 lt a b o i j){Q:ForInStep H6->SortSt->Prop}
  (hd: ∀c,S6 lt a b (o.size+1) c->Q (.done c) st) (hy: ∀c,R6 lt a b (o.size+1) c->Q (.yield c) st):wpS M A E s (yBI a b g (none,i,j,o,p,q)) Q st:=by
 obtain⟨h1,h2,h3,h4,h5⟩:=h
 obtain⟨i,rfl⟩: ∃k,i=k+1:=⟨i - 1,by omega⟩
 obtain⟨j,rfl⟩: ∃k,j=k+1:=⟨j - 1,by omega⟩
 obtain⟨y,ey⟩:=kD (v:=b) (i:=j) (by omega)
 obtain⟨x,ex⟩:=kD (v:=a) (i:=i) (by omega)
 have hb:=zYK Z.C.rf h5.sb ey
 have ha:=zYK Z.C.rf h5.sa ex
 unfold yBI
 simp only [add_sub_cancel]
 refine wpS_bind (yM ey (wpS_bind (yM ex (wpS_bind (Z.C.go y x (Z.db y (mem_of_getElem? ey)) (Z.da x (mem_of_getElem? ex)) st hk _ ?_)))))
 cases hlt:lt y x with
 |true=>
  have T':=h5.pushA ex λz hz=>Z.C.tr z y x (hb z hz) (Z.C.as y x hlt)
  have hs:(o.push x).size=o.size+1:=Array.size_push ..
  refine wpS_bind (yM ex ?_)
  by_cases c1:i=0
  ·rw [iP (by simpa using c1)]
   exact wpS_pure (hd _ (.inl ⟨_,_,rfl,T'.dn (.inl c1)⟩))
  ·rw [iN (by simpa using c1)]
   have I':J1 lt a b (o.push x) i (j+1):=⟨by omega,by omega,h3,h4,T'⟩
   split
   ·exact wpS_pure (hd _ (.inr ⟨_,_,_,_,_,rfl,I',by omega⟩))
   ·exact wpS_pure (hy _ ⟨_,_,_,_,_,rfl,I',by omega⟩)
 |false=>
  have T':=h5.pushB ey λz hz=>Z.C.tr z x y (ha z hz) hlt
  have hs:(o.push y).size=o.size+1:=Array.size_push ..
  refine wpS_bind (yM ey ?_)
  by_cases c1:j=1
  ·rw [iP (by simpa using c1)]
   subst c1
   exact wpS_pure (hd _ (.inl ⟨_,_,rfl,T'.fb Z.fst⟩))
  ·rw [iN (by simpa using c1)]
   have I':J1 lt a b (o.push y) (i+1) j:=⟨h1,h2,by omega,by omega,T'⟩
   split
   ·exact wpS_pure (hd _ (.inr ⟨_,_,_,_,_,rfl,I',by omega⟩))
   ·exact wpS_pure (hy _ ⟨_,_,_,_,_,rfl,I',by omega⟩)
theorem yJC(Z:Set3 M A E s kd D lt a b){st:SortSt}(hk:kindOf st=kd){o:V}{i j g t:Nat}(ht:1<=t)(h:J1 lt a b o i j){Q:H6->SortSt->Prop}
  (hq: ∀c,S6 lt a b (o.size+1) c->Q c st):wpS M A E s (zGM a b t g (none,i,j,o,0,0)) Q st:=by
 unfold zGM
 refine wpS_forRange (I:=λx c st'=>st'=st/\R6 lt a b (o.size+x) c) ?_ ?_ ⟨rfl,i,j,o,0,0,rfl,h,by omega⟩
 ·rintro x c st' _ _ ⟨rfl,i',j',o',p',q',rfl,h',hn⟩
  refine yJB Z hk h' (λc hc=>hq c (hc.mono (by omega))) (λc hc=>⟨rfl,hc.mono (by omega)⟩)
 ·rintro c st' ⟨rfl,hN⟩
  exact hq c (.inr (hN.mono (by omega)))
theorem yDZ(Z:Set3 M A E s kd D lt a b){st:SortSt}{o:V}{i j g p q:Nat}(h1:i+1<=a.size)(h2:2<=j)(h2':j<=b.size)(h3:TwoH lt a b o (i+1) j)
  (hl: ∀x,a.toList[i]? =some x-> ∀y,y∈b.toList.take j->Le lt y x) {n:Nat} (hn:n<=o.size) {Q:ForInStep H7->SortSt->Prop}
  (hd: ∀c,S7 lt a b n c->Q (.done c) st) (hy: ∀c,R7 lt a b n c->Q (.yield c) st):wpS M A E s (hw4 a b o (i+1) j g p q) Q st:=by
 obtain⟨x,ex⟩:=kD (v:=a) (i:=i) (by omega)
 have T':=h3.pushA ex (hl x ex)
 have hs:(o.push x).size=o.size+1:=Array.size_push ..
 unfold hw4
 simp only [add_sub_cancel]
 refine wpS_bind (yM ex ?_)
 by_cases c1:i=0
 ·rw [iP (by simpa using c1)]
  exact wpS_pure (hd _ (.inl ⟨_,_,rfl,T'.dn (.inl c1)⟩))
 ·rw [iN (by simpa using c1)]
  have I':J1 lt a b (o.push x) i j:=⟨by omega,by omega,h2,h2',T'⟩
  split
  ·exact wpS_pure (hd _ (.inr ⟨_,_,_,_,_,_,rfl,I',by omega⟩))
  ·exact wpS_pure (hy _ ⟨_,_,_,_,_,_,rfl,I',by omega⟩)
theorem yEA(Z:Set3 M A E s kd D lt a b){st:SortSt}(hk:kindOf st=kd){o:V}{i j g p q:Nat}(h1:i+1<=a.size)(h2:1<=j)(h2':j+1<=b.size)(h3:TwoH lt a b o (i+1) (j+1))
  (hl: ∀y,b.toList[j]? =some y-> ∀x,x∈a.toList.take (i+1)->Le lt x y) {n:Nat} (hn:n<=o.size) {Q:ForInStep H7->SortSt->Prop}
  (hd: ∀c,S7 lt a b n c->Q (.done c) st) (hy: ∀c,R7 lt a b n c->Q (.yield c) st):wpS M A E s (hw3 a b o (i+1) (j+1) g p q) Q st:=by
 obtain⟨y,ey⟩:=kD (v:=b) (i:=j) (by omega)
 obtain⟨x,ex⟩:=kD (v:=a) (i:=i) (by omega)
 have T':=h3.pushB ey (hl y ey)
 have hs:(o.push y).size=o.size+1:=Array.size_push ..
 have ha:=zYK Z.C.rf h3.sa ex
 unfold hw3
 simp only [add_sub_cancel]
 refine wpS_bind (yM ey ?_)
 by_cases c1:j=1
 ·rw [iP (by simpa using c1)]
  subst c1
  exact wpS_pure (hd _ (.inl ⟨_,_,rfl,T'.fb Z.fst⟩))
 ·rw [iN (by simpa using c1)]
  refine wpS_bind (yM ex (wpS_bind (zQV Z.C hk Z.db (Z.da x (mem_of_getElem? ex)) (by omega) (by omega) (zYL T'.sb Z.C.rf) λk k1 k2 k3=>?_)))
  dsimp only
  have hle: ∀y',y'∈b.toList.take k->Le lt y' x:=by
   intro y' hy'
   obtain⟨m,m1,m2,m3⟩:=zFA hy'
   exact Z.C.as _ _ (k2 m y' m1 (by rw [zero_add];exact m3))
  by_cases ck:j - k>0
  ·rw [iP ck]
   have T2:=T'.cutB k1 λm z hm1 hm2 hz x' hx'=>Z.C.tr x' x z (ha x' hx') (k3 m z hm1 hm2 (by rw [zero_add];exact hz))
   have hs2:(o.push y++(b.extract k j).reverse).size>=o.size+1:=by rw [Array.size_append];omega
   by_cases c2:k=1
   ·rw [iP (by simpa using c2)]
    subst c2
    exact wpS_pure (hd _ (.inl ⟨_,_,rfl,T2.fb Z.fst⟩))
   ·rw [iN (by simpa using c2)]
    by_cases c3:k=0
    ·rw [iP (by simpa using c3)]
     exact wpS_pure (hd _ (.inl ⟨_,_,rfl,T2.dn (.inr c3)⟩))
    ·rw [iN (by simpa using c3)]
     refine yDZ Z h1 (by omega) (by omega) T2 (λx' hx' y' hy'=>?_) (by omega) hd hy
     rw [ex]at hx';cases hx'
     exact hle y' hy'
  ·rw [iN ck]
   have hkj:k=j:=by omega
   subst hkj
   refine yDZ Z h1 (by omega) (by omega) T' (λx' hx' y' hy'=>?_) (by omega) hd hy
   rw [ex]at hx';cases hx'
   exact hle y' hy'
theorem yEB(Z:Set3 M A E s kd D lt a b){st0 st:SortSt}(hg:Sg st0 st)(hk:kindOf st0=kd){o:V}{i j g p q:Nat}(h:J1 lt a b o i j){n:Nat}(hn:n<=o.size)
  {Q:ForInStep H7->SortSt->Prop} (hd: ∀c st,Sg st0 st->S7 lt a b n c->Q (.done c) st) (hy: ∀c st,Sg st0 st->R7 lt a b n c->Q (.yield c) st):
  wpS M A E s (hw2 a b o i j g p q) Q st:=by
 obtain⟨h1,h2,h3,h4,h5⟩:=h
 obtain⟨j,rfl⟩: ∃k,j=k+1:=⟨j - 1,by omega⟩
 obtain⟨y,ey⟩:=kD (v:=b) (i:=j) (by omega)
 have hb:=zYK Z.C.rf h5.sb ey
 unfold hw2
 simp only [add_sub_cancel]
 refine wpS_bind (zLC hg λst' hg'=>?_)
 have hk':kindOf st'=kd:=hg'.kind.trans hk
 refine wpS_bind (yM ey (wpS_bind (zQU Z.C hk' Z.da (Z.db y (mem_of_getElem? ey)) (by omega) (by omega) (zYL h5.sa Z.C.rf) λk k1 k2 k3=>?_)))
 dsimp only
 have hle: ∀x',x'∈a.toList.take k->Le lt x' y:=by
  intro x' hx'
  obtain⟨m,m1,m2,m3⟩:=zFA hx'
  exact k2 m x' m1 (by rw [zero_add];exact m3)
 by_cases ck:i - k>0
 ·rw [iP ck]
  have T2:=h5.cutA k1 λm z hm1 hm2 hz y' hy'=>Z.C.tr y' y z (hb y' hy') (Z.C.as _ _ (k3 m z hm1 hm2 (by rw [zero_add];exact hz)))
  have hs2:(o++(a.extract k i).reverse).size>=o.size:=by rw [Array.size_append];omega
  by_cases c1:k=0
  ·rw [iP (by simpa using c1)]
   exact wpS_pure (hd _ _ hg' (.inl ⟨_,_,rfl,T2.dn (.inl c1)⟩))
  ·rw [iN (by simpa using c1)]
   obtain⟨k,rfl⟩: ∃m,k=m+1:=⟨k - 1,by omega⟩
   refine yEA Z hk' (by omega) (by omega) (by omega) T2 (λy' hy' x' hx'=>?_) (by omega) (λc hc=>hd c _ hg' hc) (λc hc=>hy c _ hg' hc)
   rw [ey]at hy';cases hy'
   exact hle x' hx'
 ·rw [iN ck]
  have hki:k=i:=by omega
  subst hki
  obtain⟨k,rfl⟩: ∃m,k=m+1:=⟨k - 1,by omega⟩
  refine yEA Z hk' (by omega) (by omega) (by omega) h5 (λy' hy' x' hx'=>?_) hn (λc hc=>hd c _ hg' hc) (λc hc=>hy c _ hg' hc)
  rw [ey]at hy';cases hy'
  exact hle x' hx'
theorem yJD(Z:Set3 M A E s kd D lt a b){st0 st:SortSt}(hg:Sg st0 st)(hk:kindOf st0=kd){o:V}{i j g p q t:Nat}(h:J1 lt a b o i j){n:Nat}(hn:n<=o.size)
  {Q:H7->SortSt->Prop} (hq: ∀c st,Sg st0 st->S7 lt a b n c->Q c st):wpS M A E s (zJD a b t (none,i,j,o,g,p,q)) Q st:=by
 unfold zJD
 refine wpS_forRange (I:=λx c st'=>Sg st0 st'/\R7 lt a b n c) ?_ ?_ ⟨hg,i,j,o,g,p,q,rfl,h,hn⟩
 ·rintro x c st' _ _ ⟨hg',i',j',o',g',p',q',rfl,h',hn'⟩
  dsimp only
  split
  ·exact yEB Z hg' hk h' hn' (λc st hs hc=>hq c st hs hc) (λc st hs hc=>⟨hs,hc⟩)
  ·exact yEB Z hg' hk h' hn' (λc st hs hc=>hq c st hs hc) (λc st hs hc=>⟨hs,hc⟩)
 ·rintro c st' ⟨hg',hN⟩
  exact hq c st' hg' (.inr hN)
theorem yPA(Z:Set3 M A E s kd D lt a b){st:SortSt}(hk:kindOf st=kd)(sa:a.toList.Pairwise (Le lt))(sb:b.toList.Pairwise (Le lt))(na:1<=a.size)(nb:1<=b.size)
  {Q:V->SortSt->Prop} (hq: ∀r st',Sg st st'->FinA lt a b r->Q r st'):wpS M A E s (zMN a b) Q st:=by
 rw [zTO]
 unfold mHi
 refine wpS_bind (zCX ?_)
 obtain⟨x,ex⟩:=kD (v:=a) (i:=a.size - 1) (by omega)
 have T0:TwoH lt a b #[] (a.size - 1+1) b.size:=by
  rw [Nat.sub_add_cancel na]
  refine⟨?_,?_,?_⟩
  ·rw [take_of_length_le (by simp)];simpa using sa
  ·rw [take_of_length_le (by simp)];simpa using sb
  ·rw [take_of_length_le (by simp),take_of_length_le (by simp)];simp
 have T1:TwoH lt a b #[x] (a.size - 1) b.size:=T0.pushA ex λy hy=>Z.lst x y ex (mem_of_mem_take hy)
 refine wpS_bind (yM ex ?_)
 by_cases c1:a.size - 1=0
 ·rw [iP (by simpa using c1)]
  exact wpS_pure (hq _ _ (Sg.refl st) (T1.dn (.inl c1)))
 ·rw [iN (by simpa using c1)]
  by_cases c2:b.size=1
  ·rw [iP (by simpa using c2)]
   rw [c2]at T1 ⊢
   exact wpS_pure (hq _ _ (Sg.refl st) (T1.fb Z.fst))
  ·rw [iN (by simpa using c2)]
   refine wpS_bind (wpS_get ?_)
   refine wpS_bind (wpS_mono (m:=outH a b (a.size+b.size) (none,a.size - 1,b.size,#[x],gallopOf st)) (Q:=λc st'=>Sg st st'/\ ∃r e,c=(some r,e)/\FinA lt a b r) ?_ ?_)
   ·unfold outH
    refine wpS_forRange (I:=λx c st'=>Sg st st'/\ ∃i j o g,c=(none,i,j,o,g)/\J1 lt a b o i j/\x+1<=o.size) ?_ ?_ ⟨Sg.refl st,_,_,_,_,rfl,⟨by omega,by omega,by omega,by omega,T1⟩,by simp⟩
    ·rintro n c st' _ _ ⟨hg,i,j,o,g,rfl,hI,hn⟩
     dsimp only
     refine wpS_bind (yJC Z (hg.kind.trans hk) (by omega) hI λd hd=>?_)
     rcases hd with⟨r,e,rfl,hF⟩|⟨i',j',o',p',q',rfl,hI',hn'⟩
     ·exact wpS_pure ⟨hg,r,_,rfl,hF⟩
     ·dsimp only
      refine wpS_bind (zCX ?_)
      refine wpS_bind (yJD Z hg hk hI' hn' λe st2 hg2 he=>?_)
      rcases he with⟨r,e,rfl,hF⟩|⟨i2,j2,o2,g2,p2,q2,rfl,hI2,hn2⟩
      ·exact wpS_pure ⟨hg2,r,_,rfl,hF⟩
      ·dsimp only
       refine wpS_bind (zLC hg2 λst3 hg3=>?_)
       exact wpS_pure ⟨hg3,i2,j2,o2,_,rfl,hI2,by omega⟩
    ·rintro c st' ⟨hg,i,j,o,g,rfl,hI,hn⟩
     have:=hI.2.2.2.2.len hI.2.1 hI.2.2.2.1
     omega
   ·rintro c st' ⟨hg,r,e,rfl,hF⟩
    exact wpS_pure (hq r st' hg hF)
end
end Srt
set_option autoImplicit false
namespace Srt
open PySem PyProof.Rows
abbrev C2:=Option (Option Nat)×Nat
abbrev C3:=Option (Option Nat)×Nat×Nat
noncomputable def ascL(lo a n:Nat):SM C2:=forIn [a:n] ((none,a):C2) λ_ c=>ltAt' (lo+c.2) (lo+c.2 - 1) >>= λo=>match o with
 |some q=>if q=true then pure (.done (none,c.2))else pure (.yield (none,c.2+1))
 |_=>pure (.done (some none,c.2))
noncomputable def tl3(lo m n:Nat):SM (Option Nat):=reverseSlice' lo (lo+m) >>= λ_=>ascL lo m n >>= λc=>match c.1 with
 |some r=>pure r
 |none=>pure (some c.2)
noncomputable def dscL(lo a n:Nat):SM C3:=forIn [a:n] ((none,a,0):C3) λ_ c=>ltAt' (lo+c.2.1) (lo+c.2.1 - 1) >>= λo=>match o with
 |some q=>if q=true then
    if c.2.2>0 then reverseSlice' (lo+c.2.1 - (c.2.2+1)) (lo+c.2.1) >>= λ_=>pure (.yield (none,c.2.1+1,0))else pure (.yield (none,c.2.1+1,0))
   else ltAt' (lo+c.2.1 - 1) (lo+c.2.1) >>= λo=>match o with
    |some q=>if q=true then pure (.done (none,c.2.1,c.2.2))else pure (.yield (none,c.2.1+1,c.2.2+1))
    |_=>pure (.done (some none,c.2.1,c.2.2))
 |_=>pure (.done (some none,c.2.1,c.2.2))
noncomputable def dscP(lo m n:Nat):SM (Option Nat):=liftM (rule "list.sort.descending-run") >>= λ_=>dscL lo (m+1) n >>= λc=>match c.1 with
 |some r=>pure r
 |none=>if c.2.2>0 then reverseSlice' (lo+c.2.1 - (c.2.2+1)) (lo+c.2.1) >>= λ_=>tl3 lo c.2.1 n else tl3 lo c.2.1 n
noncomputable def cntR(lo n:Nat):SM (Option Nat):=ascL lo 1 n >>= λc=>match c.1 with
 |some r=>pure r
 |none=>if(c.2==n)=true then pure (some c.2)else if c.2>1 then ltAt' lo (lo+c.2 - 1) >>= λo=>(match o with
    |some q=>if q=true then pure (some c.2)else reverseSlice' lo (lo+c.2) >>= λ_=>dscP lo c.2 n
    |_=>pure none)
   else dscP lo c.2 n
theorem zNY(lo n:Nat):countRun' lo n=cntR lo n:=by kernel_rfl
noncomputable def binI(lo k:Nat):SM (Option Bool×Nat×Nat):=forIn [0:k] ((none,0,k):Option Bool×Nat×Nat) λ_ c=>
 if c.2.1>=c.2.2 then pure (.done (none,c.2.1,c.2.2))else ltAt' (lo+k) (lo+(c.2.1+c.2.2) / 2) >>= λo=>match o with
  |some q=>if q=true then pure (.yield (none,c.2.1,(c.2.1+c.2.2) / 2))else pure (.yield (none,(c.2.1+c.2.2) / 2+1,c.2.2))
  |_=>pure (.done (some false,c.2.1,c.2.2))
noncomputable def binS(lo n ok:Nat):SM Bool:=(forIn [max ok 1:n] ((none,()):Option Bool×Unit) λk _=>binI lo k >>= λc=>match c.1 with
  |some r=>pure (.done (some r,()))
  |none=>moveDown' (lo+k) (lo+c.2.1) >>= λ_=>pure (.yield (none,()))) >>= λc=>match c.1 with
 |some r=>pure r
 |none=>pure true
theorem zKT(lo n ok:Nat):binarySort' lo n ok=binS lo n ok:=by kernel_rfl
def Kx(d:Keyed)(v:V)(i:Nat):Keyed:=(v[i]?).getD d
theorem zFB{d:Keyed}{v u:V}{i j:Nat}(h:v[i]? =u[j]?):Kx d v i=Kx d u j:=by unfold Kx;rw [h]
theorem zJE{d:Keyed}{v:V}{i j:Nat}(hj:j<=v.size)(k:Nat):Kx d (mirror v i j ((j - i) / 2)) k=if i<=k/\k<j then Kx d v (i+j - 1 - k)else Kx d v k:=by
 have e:=getElem?_mirror_all (i:=i) hj k
 by_cases h1:i<=k/\k<j
 ·rw [iP h1]at e ⊢; exact zFB e
 ·rw [iN h1]at e ⊢; exact zFB e
theorem zPA{d:Keyed}{v:V}{src m:Nat}(hs:src<v.size)(hm:m<=src)(k:Nat):
  Kx d (bubble v src m) k=if k=src - m then Kx d v src else if src - m<k/\k<=src then Kx d v (k - 1)else Kx d v k:=by
 have e:=getElem?_bubble hs m hm k
 by_cases h1:k=src - m
 ·rw [iP h1]at e ⊢; exact zFB e
 ·rw [iN h1]at e ⊢
  by_cases h2:src - m<k/\k<=src
  ·rw [iP h2]at e ⊢; exact zFB e
  ·rw [iN h2]at e ⊢; exact zFB e
structure SB(a₀:V)(kd:SortKind)(pd:Array (Nat×Nat×Nat))(f:V)(lo:Nat)(st:SortSt):Prop where
 pm:(arrOf st).Perm a₀
 kind:kindOf st=kd
 fl:failedOf st=none
 pd:pendingOf st=pd
 fx: ∀i,i<lo->(arrOf st)[i]? =f[i]?
section
variable{M:Model}{A:Around}{E:VP}{s:Shared}{kd:SortKind}{D:Keyed->Prop}{lt:Keyed->Keyed->Bool}{a₀ f:V}{pd:Array (Nat×Nat×Nat)}{lo:Nat}{st:SortSt}{d:Keyed}
theorem SB.size(h:SB a₀ kd pd f lo st):(arrOf st).size=a₀.size:=h.pm.size_eq
theorem SB.rev(h:SB a₀ kd pd f lo st){i j:Nat}(hi:lo<=i)(hj:j<=a₀.size):SB a₀ kd pd f lo (setArr st (mirror (arrOf st) i j ((j - i) / 2))):=
 ⟨(mirror_perm _ _ _ _).trans h.pm,h.kind,h.fl,h.pd,λk hk=>by
  show(mirror (arrOf st) i j ((j - i) / 2))[k]? =_
  rw [getElem?_mirror_all (by rw [h.size];exact hj),iN (by omega)];exact h.fx k hk⟩
theorem SB.bub(h:SB a₀ kd pd f lo st){i m:Nat}(hi:lo+m<=i)(hj:i<a₀.size):SB a₀ kd pd f lo (setArr st (bubble (arrOf st) i m)):=
 ⟨(bubble_perm _ _ _).trans h.pm,h.kind,h.fl,h.pd,λk hk=>by
  show(bubble (arrOf st) i m)[k]? =_
  rw [getElem?_bubble (by rw [h.size];exact hj) _ (by omega),iN (by omega),iN (by omega)];exact h.fx k hk⟩
theorem zHX(C:Cmp M A E s kd D lt)(h:SB a₀ kd pd f lo st)(hD: ∀x,x∈a₀.toList->D x){i j:Nat}(hi:i<a₀.size)(hj:j<a₀.size){Q:Option Bool->SortSt->Prop}
  (hq:Q (some (lt (Kx d (arrOf st) i) (Kx d (arrOf st) j))) st):wpS M A E s (ltAt' i j) Q st:=by
 obtain⟨x,ex⟩:=kD (v:=arrOf st) (i:=i) (by rw [h.size];exact hi)
 obtain⟨y,ey⟩:=kD (v:=arrOf st) (i:=j) (by rw [h.size];exact hj)
 have mx:x∈a₀.toList:=(Array.perm_iff_toList_perm.mp h.pm).mem_iff.mp (mem_of_getElem? ex)
 have my:y∈a₀.toList:=(Array.perm_iff_toList_perm.mp h.pm).mem_iff.mp (mem_of_getElem? ey)
 have e1:Kx d (arrOf st) i=x:=by unfold Kx;rw [<-Array.getElem?_toList,ex];rfl
 have e2:Kx d (arrOf st) j=y:=by unfold Kx;rw [<-Array.getElem?_toList,ey];rfl
 rw [e1,e2]at hq
 rw [ltAt'_eq]
 refine wpS_bind (wpS_get ?_)
 exact wpS_bind (yM ex (wpS_bind (yM ey (C.go x y (hD x mx) (hD y my) st h.kind _ hq))))
theorem zQZ{i j:Nat}{Q:Unit->SortSt->Prop}(h:Q () (setArr st (mirror (arrOf st) i j ((j - i) / 2)))):wpS M A E s (reverseSlice' i j) Q st:=by
 rw [reverseSlice'_eq];exact wpS_modify h
def Up(lt:Keyed->Keyed->Bool)(d:Keyed)(v:V)(lo n:Nat):Prop:= ∀i j,i<=j->j<n->Le lt (Kx d v (lo+i)) (Kx d v (lo+j))
def Dn(lt:Keyed->Keyed->Bool)(d:Keyed)(v:V)(lo n:Nat):Prop:= ∀i j,i<=j->j<n->Le lt (Kx d v (lo+j)) (Kx d v (lo+i))
theorem Up.step(C:Cmp M A E s kd D lt){v:V}{x:Nat}(hs:Up lt d v lo x)(hx:1<=x)(hl:lt (Kx d v (lo+x)) (Kx d v (lo+x - 1))=false):Up lt d v lo (x+1):=by
 intro i j hij hj
 by_cases hjx:j<x
 ·exact hs i j hij hjx
 ·have hj':j=x:=by omega
  subst hj'
  by_cases hi':i=j
  ·subst hi';exact C.rf _
  ·have:=hs i (j - 1) (by omega) (by omega)
   rw [show lo+(j - 1)=lo+j - 1 by omega]at this
   exact C.tr _ _ _ this hl
theorem zYN(C:Cmp M A E s kd D lt)(hD: ∀x,x∈a₀.toList->D x)(h:SB a₀ kd pd f lo st){a n:Nat}(hn:lo+n<=a₀.size)(ha:1<=a)(han:a<=n)(hs:Up lt d (arrOf st) lo a){Q:C2->SortSt->Prop}
  (hq: ∀m,a<=m->m<=n->Up lt d (arrOf st) lo m->(m=n\/lt (Kx d (arrOf st) (lo+m)) (Kx d (arrOf st) (lo+m - 1))=true)->Q (none,m) st):wpS M A E s (ascL lo a n) Q st:=by
 unfold ascL
 refine wpS_forRange (I:=λx c st'=>st'=st/\c=(none,x)/\Up lt d (arrOf st) lo x) ?_ ?_ ⟨rfl,rfl,hs⟩
 ·rintro x c st' hax hxn ⟨rfl,rfl,hs'⟩
  dsimp only
  refine wpS_bind (zHX (d:=d) C h hD (by omega) (by omega) ?_)
  cases hl:lt (Kx d (arrOf st') (lo+x)) (Kx d (arrOf st') (lo+x - 1))with
  |true=>exact wpS_pure (hq x hax (by omega) hs' (.inr hl))
  |false=>exact wpS_pure ⟨rfl,rfl,hs'.step C (by omega) hl⟩
 ·rintro c st' ⟨rfl,rfl,hs'⟩
  rw [show max a n=n by omega]at hs' ⊢
  exact hq n han (le_refl _) hs' (.inl rfl)
theorem Up.of_mirror(h:SB a₀ kd pd f lo st){m:Nat}(hm:lo+m<=a₀.size)(hs:Dn lt d (arrOf st) lo m):Up lt d (mirror (arrOf st) lo (lo+m) ((lo+m - lo) / 2)) lo m:=by
 intro i j hij hj
 rw [zJE (by rw [h.size];exact hm),zJE (by rw [h.size];exact hm),iP (by omega),iP (by omega)]
 have:=hs (m - 1 - j) (m - 1 - i) (by omega) (by omega)
 rw [show lo+(m - 1 - j)=lo+(lo+m) - 1 - (lo+j) by omega,show lo+(m - 1 - i)=lo+(lo+m) - 1 - (lo+i) by omega]at this
 exact this
theorem yEC(C:Cmp M A E s kd D lt)(hD: ∀x,x∈a₀.toList->D x)(h:SB a₀ kd pd f lo st){m n:Nat}(hn:lo+n<=a₀.size)(h1:1<=m)(hm:m<=n)(hs:Dn lt d (arrOf st) lo m){Q:Option Nat->SortSt->Prop}
  (hq: ∀m st',SB a₀ kd pd f lo st'->1<=m->m<=n->Up lt d (arrOf st') lo m->Q (some m) st'):wpS M A E s (tl3 lo m n) Q st:=by
 unfold tl3
 refine wpS_bind (zQZ ?_)
 have h':=h.rev (i:=lo) (j:=lo+m) (le_refl _) (by omega)
 exact wpS_bind (zYN C hD h' hn h1 hm (Up.of_mirror h (by omega) hs) λk k1 k2 k3 _=>wpS_pure (hq k _ h' (by omega) k2 k3))
def Eqs(lt:Keyed->Keyed->Bool)(d:Keyed)(v:V)(i j:Nat):Prop:= ∀k l,i<=k->k<j->i<=l->l<j->Le lt (Kx d v k) (Kx d v l)
theorem Dn.mirror(C:Cmp M A E s kd D lt)(h:SB a₀ kd pd f lo st){i j n:Nat}(hj:j<=a₀.size)(he:Eqs lt d (arrOf st) i j)(hs:Dn lt d (arrOf st) lo n):Dn lt d (mirror (arrOf st) i j ((j - i) / 2)) lo n:=by
 have key: ∀k,Le lt (Kx d (PyProof.Rows.mirror (arrOf st) i j ((j - i) / 2)) k) (Kx d (arrOf st) k)/\Le lt (Kx d (arrOf st) k) (Kx d (PyProof.Rows.mirror (arrOf st) i j ((j - i) / 2)) k):=by
  intro k
  rw [zJE (by rw [h.size];exact hj)]
  split
  ·exact⟨he _ _ (by omega) (by omega) (by omega) (by omega),he _ _ (by omega) (by omega) (by omega) (by omega)⟩
  ·exact⟨C.rf _,C.rf _⟩
 intro p q hpq hq
 exact C.tr _ _ _ (key _).1 (C.tr _ _ _ (hs p q hpq hq) (key _).2)
theorem yJE(C:Cmp M A E s kd D lt)(hD: ∀x,x∈a₀.toList->D x)(h:SB a₀ kd pd f lo st){a n:Nat}(hn:lo+n<=a₀.size)(h1:1<=a)(han:a<=n)(hs:Dn lt d (arrOf st) lo a){Q:C3->SortSt->Prop}
  (hq: ∀m e st',SB a₀ kd pd f lo st'->a<=m->m<=n->Dn lt d (arrOf st') lo m->e+1<=m->Eqs lt d (arrOf st') (lo+m - (e+1)) (lo+m)->Q (none,m,e) st'):wpS M A E s (dscL lo a n) Q st:=by
 unfold dscL
 refine wpS_forRange (I:=λx c st'=> ∃e,c=(none,x,e)/\SB a₀ kd pd f lo st'/\Dn lt d (arrOf st') lo x/\e+1<=x/\Eqs lt d (arrOf st') (lo+x - (e+1)) (lo+x)) ?_ ?_
  ⟨0,rfl,h,hs,by omega,λk l h1 h2 h3 h4=>by rw [show k=l by omega];exact C.rf _⟩
 ·rintro x c st' hax hxn ⟨e,rfl,hB,hs',hq',he⟩
  dsimp only
  have one: ∀v:V,Eqs lt d v (lo+(x+1) - (0+1)) (lo+(x+1)):=λv k l h1 h2 h3 h4=>by rw [show k=l by omega];exact C.rf _
  refine wpS_bind (zHX (d:=d) C hB hD (by omega) (by omega) ?_)
  cases hl:lt (Kx d (arrOf st') (lo+x)) (Kx d (arrOf st') (lo+x - 1))with
  |true=>
   have nx:Dn lt d (arrOf st') lo (x+1):=by
    intro i j hij hj
    by_cases hjx:j<x
    ·exact hs' i j hij hjx
    ·have hj':j=x:=by omega
     subst hj'
     by_cases hi':i=j
     ·subst hi';exact C.rf _
     ·have:=hs' i (j - 1) (by omega) (by omega)
      rw [show lo+(j - 1)=lo+j - 1 by omega]at this
      exact C.tr _ _ _ (C.as _ _ hl) this
   dsimp only
   rw [iP rfl]
   by_cases ce:e>0
   ·rw [iP ce]
    refine wpS_bind (zQZ (wpS_pure ⟨0,rfl,hB.rev (by omega) (by omega),nx.mirror C hB (by omega) he,by omega,one _⟩))
   ·rw [iN ce]
    exact wpS_pure ⟨0,rfl,hB,nx,by omega,one _⟩
  |false=>
   dsimp only
   rw [iN (by simp)]
   refine wpS_bind (zHX (d:=d) C hB hD (by omega) (by omega) ?_)
   cases hr:lt (Kx d (arrOf st') (lo+x - 1)) (Kx d (arrOf st') (lo+x))with
   |true=>exact wpS_pure (hq x e st' hB hax (by omega) hs' hq' he)
   |false=>
    refine wpS_pure ⟨e+1,rfl,hB,λi j hij hj=>?_,by omega,λk l k1 k2 k3 k4=>?_⟩
    ·by_cases hjx:j<x
     ·exact hs' i j hij hjx
     ·have hj':j=x:=by omega
      subst hj'
      by_cases hi':i=j
      ·subst hi';exact C.rf _
      ·have:=hs' i (j - 1) (by omega) (by omega)
       rw [show lo+(j - 1)=lo+j - 1 by omega]at this
       exact C.tr _ _ _ hr this
    ·by_cases ck:k=lo+x
     ·subst ck
      by_cases cl:l=lo+x
      ·subst cl;exact C.rf _
      ·exact C.tr _ _ _ hr (he _ _ (by omega) (by omega) (by omega) (by omega))
     ·by_cases cl:l=lo+x
      ·subst cl
       exact C.tr _ _ _ (he k (lo+x - 1) (by omega) (by omega) (by omega) (by omega)) hl
      ·exact he _ _ (by omega) (by omega) (by omega) (by omega)
 ·rintro c st' ⟨e,rfl,hB,hs',hq',he⟩
  rw [show max a n=n by omega]at hs' hq' he ⊢
  exact hq n e st' hB han (le_refl _) hs' hq' he
theorem zYO(C:Cmp M A E s kd D lt)(hD: ∀x,x∈a₀.toList->D x)(h:SB a₀ kd pd f lo st){m n:Nat}(hn:lo+n<=a₀.size)(hm:m+1<=n)(hs:Dn lt d (arrOf st) lo (m+1)){Q:Option Nat->SortSt->Prop}
  (hq: ∀m st',SB a₀ kd pd f lo st'->1<=m->m<=n->Up lt d (arrOf st') lo m->Q (some m) st'):wpS M A E s (dscP lo m n) Q st:=by
 unfold dscP
 refine wpS_bind (zCX ?_)
 refine wpS_bind (yJE C hD h hn (by omega) hm hs λk e st' hB k1 k2 k3 k4 k5=>?_)
 dsimp only
 by_cases ce:e>0
 ·rw [iP ce]
  exact wpS_bind (zQZ (yEC C hD (hB.rev (by omega) (by omega)) hn (by omega) k2 (k3.mirror C hB (by omega) k5) hq))
 ·rw [iN ce]
  exact yEC C hD hB hn (by omega) k2 k3 hq
theorem yJF(C:Cmp M A E s kd D lt)(hD: ∀x,x∈a₀.toList->D x)(h:SB a₀ kd pd f lo st){n:Nat}(hn:lo+n<=a₀.size)(h1:1<=n){Q:Option Nat->SortSt->Prop}
  (hq: ∀m st',SB a₀ kd pd f lo st'->1<=m->m<=n->Up lt d (arrOf st') lo m->Q (some m) st'):wpS M A E s (countRun' lo n) Q st:=by
 rw [zNY]
 unfold cntR
 refine wpS_bind (zYN (d:=d) C hD h hn (le_refl 1) h1 (λi j hij hj=>by rw [show i=j by omega];exact C.rf _) λm m1 m2 hs hor=>?_)
 dsimp only
 by_cases cm:m=n
 ·rw [iP (by simpa using cm)]
  exact wpS_pure (hq m st h m1 m2 hs)
 ·rw [iN (by simpa using cm)]
  have hlt:=hor.resolve_left cm
  by_cases cg:m>1
  ·rw [iP cg]
   refine wpS_bind (zHX (d:=d) C h hD (by omega) (by omega) ?_)
   cases hr:lt (Kx d (arrOf st) lo) (Kx d (arrOf st) (lo+m - 1))with
   |true=>exact wpS_pure (hq m st h m1 m2 hs)
   |false=>
    have all:Eqs lt d (arrOf st) lo (lo+m):=by
     intro k l k1 k2 k3 k4
     have a1:=hs 0 (l - lo) (by omega) (by omega)
     have a2:=hs (k - lo) (m - 1) (by omega) (by omega)
     rw [show lo+0=lo by omega,show lo+(l - lo)=l by omega]at a1
     rw [show lo+(k - lo)=k by omega,show lo+(m - 1)=lo+m - 1 by omega]at a2
     exact C.tr _ _ _ a2 (C.tr _ _ _ hr a1)
    have dn:Dn lt d (arrOf st) lo (m+1):=by
     intro i j hij hj
     by_cases hjm:j<m
     ·exact all _ _ (by omega) (by omega) (by omega) (by omega)
     ·have hj':j=m:=by omega
      subst hj'
      by_cases hi':i=j
      ·subst hi';exact C.rf _
      ·exact C.tr _ _ _ (C.as _ _ hlt) (all _ _ (by omega) (by omega) (by omega) (by omega))
    dsimp only
    rw [iN (by simp)]
    exact wpS_bind (zQZ (zYO C hD (h.rev (le_refl _) (by omega)) hn (by omega) (dn.mirror C h (by omega) all) hq))
  ·rw [iN cg]
   have:m=1:=by omega
   subst this
   refine zYO C hD h hn (by omega) (λi j hij hj=>?_) hq
   by_cases hi':i=j
   ·subst hi';exact C.rf _
   ·rw [show i=0 by omega,show j=1 by omega]
    exact C.as _ _ hlt
theorem yJG(C:Cmp M A E s kd D lt)(hD: ∀x,x∈a₀.toList->D x)(h:SB a₀ kd pd f lo st){n ok:Nat}(hn:lo+n<=a₀.size)(hok:ok<=n)(hs:Up lt d (arrOf st) lo ok){Q:Bool->SortSt->Prop}
  (hq: ∀st',SB a₀ kd pd f lo st'->Up lt d (arrOf st') lo n->Q true st'):wpS M A E s (binarySort' lo n ok) Q st:=by
 rw [zKT]
 unfold binS
 refine wpS_bind (wpS_mono (wpS_forRange (I:=λk c st'=>c=(none,())/\SB a₀ kd pd f lo st'/\Up lt d (arrOf st') lo (min k n))
  (Q:=λc st'=>c=(none,())/\SB a₀ kd pd f lo st'/\Up lt d (arrOf st') lo n) ?_ ?_ ?_) ?_)
 ·rintro k c st' hak hkn ⟨rfl,hB,hs'⟩
  rw [show min k n=k by omega]at hs'
  unfold binI
  refine wpS_bind (wpS_mono (wpS_forRange (I:=λx c st''=>st''=st'/\ ∃l r,c=(none,l,r)/\l<=r/\r<=k/\r - l<=k - x/\
    (∀i,i<l->Le lt (Kx d (arrOf st') (lo+i)) (Kx d (arrOf st') (lo+k)))/\(∀i,r<=i->i<k->Le lt (Kx d (arrOf st') (lo+k)) (Kx d (arrOf st') (lo+i))))
   (Q:=λc st''=>st''=st'/\ ∃l r,c=(none,l,r)/\l<=k/\
    (∀i,i<l->Le lt (Kx d (arrOf st') (lo+i)) (Kx d (arrOf st') (lo+k)))/\(∀i,l<=i->i<k->Le lt (Kx d (arrOf st') (lo+k)) (Kx d (arrOf st') (lo+i)))) ?_ ?_ ?_) ?_)
  ·rintro x c st'' _ hxk ⟨rfl,l,r,rfl,hlr,hrk,hm,hlo,hhi⟩
   dsimp only
   by_cases hge:l>=r
   ·rw [iP hge]
    have:l=r:=by omega
    subst this
    exact wpS_pure ⟨rfl,l,l,rfl,hrk,hlo,hhi⟩
   ·rw [iN hge]
    refine wpS_bind (zHX (d:=d) C hB hD (by omega) (by omega) ?_)
    cases hl:lt (Kx d (arrOf st'') (lo+k)) (Kx d (arrOf st'') (lo+(l+r) / 2))with
    |true=>exact wpS_pure ⟨rfl,l,(l+r) / 2,rfl,by omega,by omega,by omega,hlo,λi h1 h2=>C.tr _ _ _ (C.as _ _ hl) (hs' _ _ h1 h2)⟩
    |false=>exact wpS_pure ⟨rfl,(l+r) / 2+1,r,rfl,by omega,by omega,by omega,λi h1=>C.tr _ _ _ (hs' i ((l+r) / 2) (by omega) (by omega)) hl,hhi⟩
  ·rintro c st'' ⟨rfl,l,r,rfl,hlr,hrk,hm,hlo,hhi⟩
   have:l=r:=by omega
   subst this
   exact⟨rfl,l,l,rfl,hrk,hlo,hhi⟩
  ·exact⟨rfl,0,k,rfl,by omega,by omega,by omega,λi hi=>by omega,λi h1 h2=>by omega⟩
  ·rintro c st'' ⟨rfl,l,r,rfl,hlk,hlo,hhi⟩
   dsimp only
   rw [moveDown'_eq]
   have hks:lo+k<(arrOf st'').size:=by rw [hB.size];omega
   refine wpS_bind (wpS_modify (wpS_pure ⟨rfl,?_,?_⟩))
   ·exact hB.bub (by omega) (by omega)
   ·rw [show min (k+1) n=k+1 by omega]
    intro i j hij hj
    show Le lt (Kx d (bubble (arrOf st'') (lo+k) (lo+k - (lo+l))) (lo+i)) (Kx d (bubble (arrOf st'') (lo+k) (lo+k - (lo+l))) (lo+j))
    rw [zPA hks (by omega),zPA hks (by omega),show lo+k - (lo+k - (lo+l))=lo+l by omega]
    have sh: ∀i,1<=i->lo+i - 1=lo+(i - 1):=λi hi=>by omega
    repeat' split
    all_goals first
     |(exfalso;omega)
     |exact C.rf _
     |exact hlo _ (by omega)
     |(rw [sh _ (by omega)];exact hhi _ (by omega) (by omega))
     |exact hhi _ (by omega) (by omega)
     |exact hs' _ _ (by omega) (by omega)
     |(rw [sh i (by omega)];exact hs' _ _ (by omega) (by omega))
     |(rw [sh j (by omega)];exact hs' _ _ (by omega) (by omega))
     |(rw [sh i (by omega),sh j (by omega)];exact hs' _ _ (by omega) (by omega))
     |(rw [sh i (by omega)];exact hlo _ (by omega))
 ·rintro c st' ⟨hc,hB,hs'⟩
  refine⟨hc,hB,?_⟩
  rwa [show min (max (max ok 1) n) n=n by omega]at hs'
 ·refine⟨rfl,h,λi j hij hj=>?_⟩
  by_cases h1:ok=0
  ·rw [show i=j by omega];exact C.rf _
  ·exact hs i j hij (by omega)
 ·rintro c st' ⟨rfl,hB,hs'⟩
  exact wpS_pure (hq st' hB hs')
end
end Srt
set_option autoImplicit false
namespace Srt
open PySem PyProof.Rows
abbrev putAll(w:V)(p:Nat)(v:V):V:=w.toList.zipIdx.foldl (λa (x,j)=>a.setIfInBounds (p+j) x) v
noncomputable def yED(p:Nat)(w:V):SM Bool:=(modify λs=>setArr s (putAll w p (arrOf s))) >>= λ_=>get >>= λs=>pure (failedOf s).isNone
noncomputable def mAt(i:Nat):SM Bool:=get >>= λst=>match (pendingOf st)[i]?,(pendingOf st)[i+1]? with
 |some (sa,na,pw),some (sb,nb,_)=>set (setPending st (((pendingOf st).setIfInBounds i (sa,na+nb,pw)).eraseIdxIfInBounds (i+1))) >>= λ_=>
  elem' (arrOf st) sb >>= λy=>nX false y (arrOf st) sa na 0 >>= λr=>(match r with
   |some k=>if(na - k==0)=true then pure true else elem' (arrOf st) (sa+k+(na - k) - 1) >>= λx=>nX true x (arrOf st) sb nb (nb - 1) >>= λr=>(match r with
    |some m=>if(m==0)=true then pure true
      else if na - k<=m then zMM ((arrOf st).extract (sa+k) sb) ((arrOf st).extract sb (sb+m)) >>= λw=>yED (sa+k) w
      else zMN ((arrOf st).extract (sa+k) sb) ((arrOf st).extract sb (sb+m)) >>= λw=>yED (sa+k) w
    |_=>pure false)
   |_=>pure false)
 |_,_=>liftM (unsupported "internal:list.sort.pending")
theorem zTP(i:Nat):mergeAt' i=mAt i:=by kernel_rfl
theorem zKG(p:Nat): ∀(ws:List Keyed)(k:Nat)(v:V),p+k+ws.length<=v.size->
  ((ws.zipIdx k).foldl (λa (x,j)=>a.setIfInBounds (p+j) x) v).toList=v.toList.take (p+k)++ws++v.toList.drop (p+k+ws.length)
 |[],k,v,_=>by simp
 |x::t,k,v,h=>by
  rw [zipIdx_cons,foldl_cons]
  have hl:p+(k+1)+t.length<=(v.setIfInBounds (p+k) x).size:=by rw [Array.size_setIfInBounds];simp only [lC]at h;omega
  rw [zKG p t (k+1) _ hl]
  simp only [lC]at h ⊢
  have e:(v.setIfInBounds (p+k) x).toList=v.toList.set (p+k) x:=Array.toList_setIfInBounds ..
  rw [e]
  have e1:(v.toList.set (p+k) x).take (p+(k+1))=v.toList.take (p+k)++[x]:=by
   rw [show p+(k+1)=p+k+1 by omega]
   have hx:(v.toList.set (p+k) x)[p+k]? =some x:=by rw [getElem?_set_self];simp;omega
   rw [zLD hx,List.take_set_of_le (le_refl _)]
  rw [e1,List.drop_set_of_lt (by omega)]
  rw [show p+(k+1)+t.length=p+k+(t.length+1) by omega]
  simp only [aA,cons_append,nil_append]
section
variable{M:Model}{A:Around}{E:VP}{s:Shared}{kd:SortKind}{D:Keyed->Prop}{lt:Keyed->Keyed->Bool}{a₀ f:V}{pd:Array (Nat×Nat×Nat)}{lo:Nat}{st:SortSt}{d:Keyed}
theorem Up.sl{v:V}{n:Nat}(h:Up lt d v lo n):SL lt v.toList lo n:=by
 intro i j x y h1 h2 hx hy
 have e1:Kx d v (lo+i)=x:=by unfold Kx;rw [<-Array.getElem?_toList,hx];rfl
 have e2:Kx d v (lo+j)=y:=by unfold Kx;rw [<-Array.getElem?_toList,hy];rfl
 have:=h i j h1 h2
 rw [e1,e2]at this
 exact this
theorem SL.pw{l:List Keyed}{n:Nat}(h:SL lt l lo n):((l.drop lo).take n).Pairwise (Le lt):=by
 rw [List.pairwise_iff_getElem]
 intro i j hi hj hij
 rw [lT,length_drop]at hi hj
 rw [getElem_take,getElem_take,getElem_drop,getElem_drop]
 exact h i j _ _ (by omega) (by omega) (gE0 _) (gE0 _)
theorem four{β:Type}{le:β->β->Prop}{A1 A2 B1 B2 W:List β}(hA:(A1++A2).Pairwise le)(hB:(B1++B2).Pairwise le)(h1: ∀z,z∈A1-> ∀w,w∈B1++B2->le z w)(h2: ∀z,z∈A1++A2-> ∀w,w∈B2->le z w)
  (hW:W.Pairwise le) (pW:W.Perm (A2++B1)):(A1++W++B2).Pairwise le/\(A1++W++B2).Perm (A1++(A2++(B1++B2))):=by
 have a:=pairwise_append.mp hA
 have b:=pairwise_append.mp hB
 refine⟨pairwise_append.mpr ⟨pairwise_append.mpr ⟨a.1,hW,λz hz w hw=>?_⟩,b.2.1,λz hz w hw=>?_⟩,?_⟩
 ·rcases mem_append.mp (pW.mem_iff.mp hw)with q|q
  ·exact a.2.2 z hz w q
  ·exact h1 z hz w (mem_append_left _ q)
 ·rcases mem_append.mp hz with q|q
  ·exact h2 z (mem_append_left _ q) w hw
  ·rcases mem_append.mp (pW.mem_iff.mp q)with r|r
   ·exact h2 z (mem_append_right _ r) w hw
   ·exact b.2.2 z r w hw
 ·rw [<-aA A2 B1 B2, <-aA]
  exact(pW.append_left A1).append_right B2
structure Out(a₀:V)(kd:SortKind)(lt:Keyed->Keyed->Bool)(n:Nat)(st:SortSt):Prop where
 pm:(arrOf st).toList.Perm a₀.toList
 kind:kindOf st=kd
 fl:failedOf st=none
 pd: ∃w,pendingOf st=#[(0,n,w)]
 so:(arrOf st).toList.Pairwise (Le lt)
end
end Srt
set_option autoImplicit false
namespace Srt
open PySem PyProof.Rows
abbrev U2:=Option Unit×Nat
abbrev U1:=Option Unit×Unit
noncomputable def psh(lo n:Nat):SM (ForInStep U2):=(modify λs=>setPending s ((pendingOf s).push (lo,n,0))) >>= λ_=>pure (.yield (none,lo+n))
noncomputable def nxt(N lo n:Nat):SM (ForInStep U2):=get >>= λst=>match (pendingOf st).back? with
 |some (a,b,_)=>(forIn [0:N] ((none,()):U1) λ_ _=>get >>= λst=>(match (if(pendingOf st).size>1 then(pendingOf st)[(pendingOf st).size - 2]? else none)with
   |some (_,_,z)=>if z<=power' N (2 * a+b) (2 * a+b+b+n) N then pure (.done (none,()))else mergeAt' ((pendingOf st).size - 2) >>= λq=>if(!q)=true then pure (.done (some (),()))else pure (.yield (none,()))
   |_=>pure (.done (none,())))) >>= λc=>(match c.1 with
  |some r=>pure (.done (some r,lo))
  |none=>(modify λs=>setPending s ((pendingOf s).modify ((pendingOf s).size - 1) λ(u,v,_)=>(u,v,power' N (2 * a+b) (2 * a+b+b+n) N))) >>= λ_=>psh lo n)
 |_=>psh lo n
noncomputable def runs(N r:Nat):SM U2:=forIn [0:N] ((none,0):U2) λ_ c=>if c.2>=N then pure (.done (none,c.2))else countRun' c.2 (N - c.2) >>= λo=>match o with
 |some m=>if m<r then liftM (rule "list.sort.binary-insertion") >>= λ_=>binarySort' c.2 (min (N - c.2) r) m >>= λq=>if(!q)=true then pure (.done (some (),c.2))else nxt N c.2 (min (N - c.2) r)
   else nxt N c.2 m
 |_=>pure (.done (some (),c.2))
noncomputable def colp(N:Nat):SM U1:=forIn [0:N] ((none,()):U1) λ_ _=>get >>= λst=>if(pendingOf st).size<=1 then pure (.done (none,()))else
 mergeAt' (if Option.any (λx=>decide (x<((pendingOf st)[(pendingOf st).size - 2+1]?).elim 0 λx=>x.2.1)) (if(pendingOf st).size - 2>0 then Option.map (λx=>x.2.1) (pendingOf st)[(pendingOf st).size - 2 - 1]? else none)=true
  then(pendingOf st).size - 2 - 1 else(pendingOf st).size - 2) >>= λq=>if(!q)=true then pure (.done (some (),()))else pure (.yield (none,()))
noncomputable def sRun:SM Unit:=get >>= λst=>runs (arrOf st).size (minRun' (arrOf st).size (arrOf st).size 0) >>= λc=>match c.1 with
 |some r=>pure r
 |none=>colp (arrOf st).size >>= λc=>match c.1 with
  |some r=>pure r
  |none=>pure ()
theorem zNZ:sortRuns'=sRun:=by kernel_rfl
section
variable{M:Model}{A:Around}{E:VP}{s:Shared}{kd:SortKind}{D:Keyed->Prop}{lt:Keyed->Keyed->Bool}{a₀ f:V}{pd:Array (Nat×Nat×Nat)}{lo:Nat}{st:SortSt}{d:Keyed}
theorem yPB{lo n:Nat}{Q:ForInStep U2->SortSt->Prop}(h:Q (.yield (none,lo+n)) (setPending st ((pendingOf st).push (lo,n,0)))):wpS M A E s (psh lo n) Q st:=
 wpS_bind (wpS_modify (wpS_pure h))
def Dun(a₀:V)(lt:Keyed->Keyed->Bool)(st:SortSt):Prop:=(arrOf st).toList.Perm a₀.toList/\failedOf st=none/\(arrOf st).toList.Pairwise (Le lt)
end
end Srt
set_option autoImplicit false
namespace Srt
open PySem PyProof.Rows
theorem zLE{β:Type}(l:List β)(p m n:Nat):(l.drop p).take (m+n)=(l.drop p).take m++(l.drop (p+m)).take n:=by rw [take_add,List.drop_drop]
theorem zTQ{β:Type}(l:List β)(p k:Nat):l.take (p+k)=l.take p++(l.drop p).take k:=by rw [take_add]
theorem erS{β:Type}(A B:List β)(x y z:β):((A++x::y::B).toArray.setIfInBounds A.length z).eraseIdxIfInBounds (A.length+1)=(A++z::B).toArray:=by
 have e1:(A++x::y::B).toArray.setIfInBounds A.length z=(A++z::y::B).toArray:=by
  apply Array.toList_inj.mp
  rw [Array.toList_setIfInBounds]
  simp
 rw [e1]
 unfold Array.eraseIdxIfInBounds
 rw [dif_pos (by simp)]
 apply Array.toList_inj.mp
 rw [Array.toList_eraseIdx]
 show(A++z::y::B).eraseIdx (A.length+1)=A++z::B
 rw [List.eraseIdx_append_of_length_le (by omega)]
 rw [show A.length+1 - A.length=1 by omega]
 rfl
section
variable{M:Model}{A:Around}{E:VP}{s:Shared}{kd:SortKind}{D:Keyed->Prop}{lt:Keyed->Keyed->Bool}{a₀ f:V}{pd:Array (Nat×Nat×Nat)}{lo:Nat}{st:SortSt}{d:Keyed}
theorem yLN(rf: ∀x,Le lt x x){l:List Keyed}{p n:Nat}(h:((l.drop p).take n).Pairwise (Le lt)):SL lt l p n:=by
 intro i j x y hij hj hx hy
 rcases Nat.lt_or_ge i j with h'|h'
 ·have e1:((l.drop p).take n)[i]? =some x:=by rw [getElem?_take_of_lt (by omega),getElem?_drop];exact hx
  have e2:((l.drop p).take n)[j]? =some y:=by rw [getElem?_take_of_lt hj,getElem?_drop];exact hy
  obtain⟨i1,i2⟩:=gS0.mp e1
  obtain⟨j1,j2⟩:=gS0.mp e2
  have:=List.pairwise_iff_getElem.mp h i j i1 j1 h'
  rw [i2,j2]at this
  exact this
 ·have:i=j:=by omega
  subst this
  rw [hx]at hy
  cases hy
  exact rf x
structure OutG(a₀:V)(kd:SortKind)(lt:Keyed->Keyed->Bool)(l:List Keyed)(p n:Nat)(rs:List (Nat×Nat×Nat))(st:SortSt):Prop where
 pm:(arrOf st).toList.Perm a₀.toList
 kind:kindOf st=kd
 fl:failedOf st=none
 pd:pendingOf st=rs.toArray
 so:SL lt (arrOf st).toList p n
 ot: ∀j,j<p\/p+n<=j->(arrOf st).toList[j]? =l[j]?
theorem yEE{st:SortSt}{l l':List Keyed}{p q n:Nat}{w:V}{rs:List (Nat×Nat×Nat)}(hk:kindOf st=kd)(hf:failedOf st=none)(hp:pendingOf st=rs.toArray)
  (hl:q+w.size<=(arrOf st).size) (e:(arrOf st).toList.take q++w.toList++(arrOf st).toList.drop (q+w.size)=l') (h1:SL lt l' p n) (h2:l'.Perm a₀.toList) (h3: ∀j,j<p\/p+n<=j->l'[j]? =l[j]?)
  {Q:Bool->SortSt->Prop} (hq: ∀st',OutG a₀ kd lt l p n rs st'->Q true st'):wpS M A E s (yED q w) Q st:=by
 have e':(putAll w q (arrOf st)).toList=l':=by
  have:=zKG q w.toList 0 (arrOf st) (by simpa using hl)
  rw [add_zero]at this
  exact this.trans (by simpa using e)
 unfold yED
 refine wpS_bind (wpS_modify (wpS_bind (wpS_get ?_)))
 have O:OutG a₀ kd lt l p n rs (setArr st (putAll w q (arrOf st))):=⟨by show(putAll w q (arrOf st)).toList.Perm _;rw [e'];exact h2,hk,hf,hp,by show SL lt (putAll w q (arrOf st)).toList p n;rw [e'];exact h1,by show∀j,_->(putAll w q (arrOf st)).toList[j]? =_;rw [e'];exact h3⟩
 have:(failedOf (setArr st (putAll w q (arrOf st)))).isNone=true:=by rw [O.fl];rfl
 rw [this]
 exact wpS_pure (hq _ O)
theorem yJH(C:Cmp M A E s kd D lt)(hD: ∀x,x∈a₀.toList->D x){p n1 n2 pw pw2:Nat}{Rs Ts:List (Nat×Nat×Nat)}(h1:1<=n1)(h2:1<=n2)(pm0:(arrOf st).toList.Perm a₀.toList)(hk:kindOf st=kd)(hf:failedOf st=none)
  (hp:pendingOf st=(Rs++(p,n1,pw)::(p+n1,n2,pw2)::Ts).toArray) (hz:p+n1+n2<=(arrOf st).size) (hA:SL lt (arrOf st).toList p n1) (hB:SL lt (arrOf st).toList (p+n1) n2)
  {Q:Bool->SortSt->Prop} (hq: ∀st',OutG a₀ kd lt (arrOf st).toList p (n1+n2) (Rs++(p,n1+n2,pw)::Ts) st'->Q true st'):wpS M A E s (mergeAt' Rs.length) Q st:=by
 rw [zTP]
 unfold mAt
 refine wpS_bind (wpS_get ?_)
 rw [hp]
 have e0:(Rs++(p,n1,pw)::(p+n1,n2,pw2)::Ts).toArray[Rs.length]? =some (p,n1,pw):=by simp
 have e1:(Rs++(p,n1,pw)::(p+n1,n2,pw2)::Ts).toArray[Rs.length+1]? =some (p+n1,n2,pw2):=by simp
 rw [e0,e1]
 dsimp only
 refine wpS_bind (yIY ?_)
 rw [erS]
 generalize hst:setPending st (Rs++(p,n1+n2,pw)::Ts).toArray=st1
 have k1:kindOf st1=kd:=by rw [<-hst];exact hk
 have f1:failedOf st1=none:=by rw [<-hst];exact hf
 have p1:pendingOf st1=(Rs++(p,n1+n2,pw)::Ts).toArray:=by rw [<-hst]
 have r1:arrOf st1=arrOf st:=by rw [<-hst]
 have hDv: ∀x,x∈(arrOf st).toList->D x:=λx hx=>hD x (pm0.mem_iff.mp hx)
 generalize hv:arrOf st=v at *
 obtain⟨y,ey⟩:=kD (v:=v) (i:=p+n1) (by omega)
 obtain⟨x,ex⟩:=kD (v:=v) (i:=p+n1 - 1) (by omega)
 have hl:v.toList.length=v.size:=by simp
 have pA:=hA.pw
 have pB:=hB.pw
 have hyB: ∀w,w∈(v.toList.drop (p+n1)).take n2->Le lt y w:=λw hw=>by
  obtain⟨i,i1,_,i2⟩:=kK hw
  exact hB 0 i y w (zero_le _) i1 (by rw [add_zero];exact ey) i2
 have hxA: ∀z,z∈(v.toList.drop p).take n1->Le lt z x:=λz hz'=>by
  obtain⟨i,i1,_,i2⟩:=kK hz'
  exact hA i (n1 - 1) z x (by omega) (by omega) i2 (by rw [show p+(n1 - 1)=p+n1 - 1 by omega];exact ex)
 refine wpS_bind (yM ey (wpS_bind (zQU C k1 hDv (hDv y (mem_of_getElem? ey)) (by omega) (by omega) hA λk ka kb kc=>?_)))
 dsimp only
 have g1: ∀z,z∈(v.toList.drop p).take k-> ∀w,w∈(v.toList.drop (p+n1)).take n2->Le lt z w:=by
  intro z hz' w hw
  obtain⟨i,i1,i2,i3⟩:=kK hz'
  exact C.tr _ _ _ (kb i z i1 i3) (hyB w hw)
 have whole:((v.toList.drop p).take n1++(v.toList.drop (p+n1)).take n2).Pairwise (Le lt)->OutG a₀ kd lt v.toList p (n1+n2) (Rs++(p,n1+n2,pw)::Ts) st1:=λhp=>⟨by rw [r1];exact pm0,k1,f1,p1,by rw [r1];exact yLN C.rf (by rw [zLE];exact hp),λj _=>by rw [r1]⟩
 by_cases c1:n1 - k=0
 ·rw [iP (by simpa using c1)]
  refine wpS_pure (hq _ (whole ?_))
  have hk':k=n1:=by omega
  subst hk'
  exact pairwise_append.mpr ⟨pA,pB,g1⟩
 ·rw [iN (by simpa using c1)]
  have ex':v.toList[p+k+(n1 - k) - 1]? =some x:=by rw [show p+k+(n1 - k) - 1=p+n1 - 1 by omega];exact ex
  refine wpS_bind (yM ex' (wpS_bind (zQV C k1 hDv (hDv x (mem_of_getElem? ex)) (by omega) (by omega) hB λm ma mb mc=>?_)))
  dsimp only
  have g2: ∀z,z∈(v.toList.drop p).take n1-> ∀w,w∈(v.toList.drop (p+n1+m)).take (n2 - m)->Le lt z w:=by
   intro z hz' w hw
   obtain⟨i,i1,_,i2⟩:=kK hw
   exact C.tr _ _ _ (hxA z hz') (mc (m+i) w (by omega) (by omega) (by rw [<-add_assoc];exact i2))
  by_cases c2:m=0
  ·rw [iP (by simpa using c2)]
   refine wpS_pure (hq _ (whole ?_))
   subst c2
   exact pairwise_append.mpr ⟨pA,pB,λz hz' w hw=>g2 z hz' w (by rw [add_zero,sub_zero];exact hw)⟩
  ·rw [iN (by simpa using c2)]
   generalize ha:v.extract (p+k) (p+n1)=a
   generalize hb:v.extract (p+n1) (p+n1+m)=b
   have la:a.toList=(v.toList.drop (p+k)).take (n1 - k):=by rw [<-ha,show p+n1=p+k+(n1 - k) by omega,zQW]
   have lb:b.toList=(v.toList.drop (p+n1)).take m:=by rw [<-hb,zQW]
   have za:a.size=n1 - k:=by rw [<-Array.length_toList,la,lT,length_drop];omega
   have zb:b.size=m:=by rw [<-Array.length_toList,lb,lT,length_drop];omega
   have eA:(v.toList.drop p).take n1=(v.toList.drop p).take k++a.toList:=by rw [la, <-zLE];congr 1;omega
   have eB:(v.toList.drop (p+n1)).take n2=b.toList++(v.toList.drop (p+n1+m)).take (n2 - m):=by rw [lb, <-zLE];congr 1;omega
   have mA: ∀z,z∈a.toList-> ∃i,k<=i/\i<n1/\v.toList[p+i]? =some z:=by
    intro z hz'
    rw [la]at hz'
    obtain⟨i,i1,_,i2⟩:=kK hz'
    exact⟨k+i,by omega,by omega,by rw [<-add_assoc];exact i2⟩
   have mB: ∀z,z∈b.toList-> ∃i,i<m/\v.toList[p+n1+i]? =some z:=by
    intro z hz'
    rw [lb]at hz'
    obtain⟨i,i1,_,i2⟩:=kK hz'
    exact⟨i,i1,i2⟩
   have Z:Set3 M A E s kd D lt a b:={
    C:=C
    da:=λz hz'=>by obtain⟨i,_,_,e⟩:=mA z hz';exact hDv z (mem_of_getElem? e)
    db:=λz hz'=>by obtain⟨i,_,e⟩:=mB z hz';exact hDv z (mem_of_getElem? e)
    lst:=λx' y' hx' hy'=>by
     rw [la,getElem?_take_of_lt (by omega),getElem?_drop,show p+k+(a.size - 1)=p+n1 - 1 by omega,ex]at hx'
     cases hx'
     obtain⟨i,i1,e⟩:=mB y' hy'
     exact C.as _ _ (mb i y' i1 e)
    fst:=λx' y' hx' hy'=>by
     rw [lb,getElem?_take_of_lt (by omega),getElem?_drop,add_zero,ey]at hy'
     cases hy'
     obtain⟨i,i1,i2,e⟩:=mA x' hx'
     exact C.as _ _ (kc i x' i1 i2 e)}
   have sA:a.toList.Pairwise (Le lt):=by rw [eA]at pA;exact(pairwise_append.mp pA).2.1
   have sB:b.toList.Pairwise (Le lt):=by rw [eB]at pB;exact(pairwise_append.mp pB).1
   have fin: ∀r st2,Sg st1 st2->FinA lt a b r->wpS M A E s (yED (p+k) r) Q st2:=by
    rintro r st2 ⟨g,rfl⟩ ⟨fa,fb⟩
    have zr:r.size=n1 - k+m:=by
     have:=fb.length_eq
     simp only [lA,Array.length_toList]at this
     omega
    have F:=four (W:=r.toList) (A1:=(v.toList.drop p).take k) (A2:=a.toList) (B1:=b.toList) (B2:=(v.toList.drop (p+n1+m)).take (n2 - m)) (by rw [<-eA];exact pA) (by rw [<-eB];exact pB)
     (λz hz' w hw=>g1 z hz' w (by rw [eB];exact hw)) (λz hz' w hw=>g2 z (by rw [eA];exact hz') w hw) fa fb
    have F2:=F.2
    rw [<-eB, <-aA, <-eA, <-zLE]at F2
    have eN:v.toList.take (p+k)++r.toList++v.toList.drop (p+n1+m)=v.toList.take p++((v.toList.drop p).take k++r.toList++(v.toList.drop (p+n1+m)).take (n2 - m))++v.toList.drop (p+n1+n2):=by
     have hd:=zMO v.toList (p+n1+m) (n2 - m)
     rw [show p+n1+m+(n2 - m)=p+n1+n2 by omega]at hd
     rw [zTQ]
     conv=>lhs;rw [hd]
     simp only [aA]
    have eO:v.toList=v.toList.take p++(v.toList.drop p).take (n1+n2)++v.toList.drop (p+n1+n2):=by
     rw [<-zTQ, <-add_assoc,take_append_drop]
    generalize hG:(v.toList.drop p).take k++r.toList++(v.toList.drop (p+n1+m)).take (n2 - m)=G at F F2 eN
    have lG:G.length=n1+n2:=by
     have:=F2.length_eq
     rw [lT,length_drop]at this
     omega
    have lP:(v.toList.take p).length=p:=by rw [lT];omega
    have dG:(((v.toList.take p++G++v.toList.drop (p+n1+n2)).drop p).take (n1+n2))=G:=by
     rw [aA,List.drop_append_of_le_length (by omega),drop_of_length_le (by omega),nil_append,List.take_append_of_le_length (by omega),take_of_length_le (by omega)]
    refine yEE (st:=SortSt.mk' (kindOf st1) (arrOf st1) (pendingOf st1) g (failedOf st1)) (l:=v.toList) (l':=v.toList.take p++G++v.toList.drop (p+n1+n2)) (p:=p) (n:=n1+n2) k1 f1 p1 ?_ ?_ (yLN C.rf (by rw [dG];exact F.1)) ?_ ?_ hq
    ·show p+k+r.size<=(arrOf st1).size
     rw [r1];omega
    ·show(arrOf st1).toList.take (p+k)++r.toList++(arrOf st1).toList.drop (p+k+r.size)=_
     rw [r1,zr,show p+k+(n1 - k+m)=p+n1+m by omega,eN]
    ·refine List.Perm.trans ?_ pm0
     conv=>rhs;rw [eO]
     exact(F2.append_left _).append_right _
    ·intro j hj
     rcases hj with hj|hj
     ·rw [aA,getElem?_append_left (by omega)]
      conv=>rhs;rw [eO,aA,getElem?_append_left (by omega)]
     ·rw [getElem?_append_right (by rw [lA];omega),lA,lP,lG,getElem?_drop]
      congr 1
      omega
   split
   ·exact wpS_bind (yOY Z.toSet2 k1 sA sB (by omega) (by omega) (λx' y' hx' hy'=>Z.fst x' y' (mem_of_getElem? hx') hy') fin)
   ·exact wpS_bind (yPA Z k1 sA sB (by omega) (by omega) fin)
end
end Srt
set_option autoImplicit false
namespace Srt
open PySem PyProof.Rows
abbrev Rn:=Nat×Nat×Nat
def RunsOk(lt:Keyed->Keyed->Bool)(l:List Keyed):Nat->List Rn->Nat->Prop
 |p,[],q=>p=q
 |p,r::rs,q=>r.1=p/\1<=r.2.1/\SL lt l p r.2.1/\RunsOk lt l (p+r.2.1) rs q
section
variable{lt:Keyed->Keyed->Bool}{l l':List Keyed}
theorem SL.congr{p n:Nat}(h:SL lt l p n)(e: ∀j,p<=j->j<p+n->l'[j]? =l[j]?):SL lt l' p n:=λi j x y h1 h2 hx hy=>h i j x y h1 h2 (by rw [<-e (p+i) (by omega) (by omega)];exact hx) (by rw [<-e (p+j) (by omega) (by omega)];exact hy)
theorem RunsOk.le: ∀{rs:List Rn}{p q:Nat},RunsOk lt l p rs q->p+rs.length<=q
 |[],p,q,h=>by cases h;exact le_refl _
 |r::rs,p,q,h=>by
  have:=RunsOk.le h.2.2.2
  have:=h.2.1
  rw [lC]
  omega
theorem RunsOk.congr: ∀{rs:List Rn}{p q:Nat},RunsOk lt l p rs q->(∀j,p<=j->j<q->l'[j]? =l[j]?)->RunsOk lt l' p rs q
 |[],p,q,h,_=>h
 |r::rs,p,q,h,e=>by
  have:=RunsOk.le h.2.2.2
  exact⟨h.1,h.2.1,h.2.2.1.congr λj h1 h2=>e j h1 (by omega),RunsOk.congr h.2.2.2 λj h1 h2=>e j (by omega) h2⟩
theorem RunsOk.split: ∀{A B:List Rn}{p q:Nat},RunsOk lt l p (A++B) q-> ∃m,RunsOk lt l p A m/\RunsOk lt l m B q
 |[],B,p,q,h=>⟨p,rfl,h⟩
 |r::A,B,p,q,h=>by
  obtain⟨m,h1,h2⟩:=RunsOk.split h.2.2.2
  exact⟨m,⟨h.1,h.2.1,h.2.2.1,h1⟩,h2⟩
theorem RunsOk.join: ∀{A B:List Rn}{p m q:Nat},RunsOk lt l p A m->RunsOk lt l m B q->RunsOk lt l p (A++B) q
 |[],B,p,m,q,h,h'=>by cases h;exact h'
 |r::A,B,p,m,q,h,h'=>⟨h.1,h.2.1,h.2.2.1,RunsOk.join h.2.2.2 h'⟩
end
section
variable{M:Model}{A:Around}{E:VP}{s:Shared}{kd:SortKind}{D:Keyed->Prop}{lt:Keyed->Keyed->Bool}{a₀ f:V}{lo:Nat}{st:SortSt}{d:Keyed}
structure ST(a₀:V)(kd:SortKind)(lt:Keyed->Keyed->Bool)(rs:List Rn)(q:Nat)(st:SortSt):Prop where
 pm:(arrOf st).toList.Perm a₀.toList
 kind:kindOf st=kd
 fl:failedOf st=none
 pd:pendingOf st=rs.toArray
 ok:RunsOk lt (arrOf st).toList 0 rs q
 le:q<=a₀.size
theorem ST.size{rs:List Rn}{q:Nat}(h:ST a₀ kd lt rs q st):(arrOf st).size=a₀.size:=by
 have:=h.pm.length_eq
 simpa using this
theorem zYP(C:Cmp M A E s kd D lt)(hD: ∀x,x∈a₀.toList->D x){rs:List Rn}{q i:Nat}(h:ST a₀ kd lt rs q st)(hi:i+1<rs.length){Q:Bool->SortSt->Prop}
  (hq: ∀rs' st',ST a₀ kd lt rs' q st'->rs'.length+1=rs.length->(∀j,q<=j->(arrOf st').toList[j]? =(arrOf st).toList[j]?)->Q true st'):wpS M A E s (mergeAt' i) Q st:=by
 obtain⟨Rs,r1,r2,Ts,e,hl⟩: ∃Rs r1 r2 Ts,rs=Rs++r1::r2::Ts/\Rs.length=i:=⟨rs.take i,rs[i],rs[i+1],rs.drop (i+2),by
  rw [<-drop_eq_getElem_cons, <-drop_eq_getElem_cons,take_append_drop],by rw [lT];omega⟩
 subst e hl
 obtain⟨m,o1,o2⟩:=h.ok.split
 obtain⟨p,n1,pw⟩:=r1
 obtain⟨p2,n2,pw2⟩:=r2
 obtain⟨e1,g1,s1,e2,g2,s2,o3⟩:=o2
 dsimp only at e1 g1 s1 e2 g2 s2 o3
 subst e1 e2
 have hle:=o3.le
 have hsz:=h.size
 have hle2:=h.le
 refine yJH C hD g1 g2 h.pm h.kind h.fl h.pd (by omega) s1 s2 λst' O=>hq (Rs++(p,n1+n2,pw)::Ts) st' ⟨O.pm,O.kind,O.fl,O.pd,?_,h.le⟩ (by simp only [lA,lC];omega) λj hj=>O.ot j (.inr (by omega))
 refine RunsOk.join (o1.congr λj h1 h2=>O.ot j (.inl h2)) ⟨rfl,by show 1<=n1+n2;omega,O.so,?_⟩
 show RunsOk lt _ (p+(n1+n2)) Ts q
 rw [<-add_assoc]
 exact o3.congr λj h1 h2=>O.ot j (.inr (by omega))
theorem zYQ{rs:List Rn}{n:Nat}(h:ST a₀ kd lt rs lo st)(h1:1<=n)(hs:SL lt (arrOf st).toList lo n)(hz:lo+n<=a₀.size){Q:ForInStep U2->SortSt->Prop}(hq: ∀rs' st',ST a₀ kd lt rs' (lo+n) st'->Q (.yield (none,lo+n)) st'):wpS M A E s (psh lo n) Q st:=by
 refine yPB (hq (rs++[(lo,n,0)]) _ ⟨h.pm,h.kind,h.fl,?_,RunsOk.join h.ok ⟨rfl,h1,hs,rfl⟩,hz⟩)
 show(pendingOf st).push _=_
 rw [h.pd]
 simp
theorem yEF(C:Cmp M A E s kd D lt)(hD: ∀x,x∈a₀.toList->D x){rs:List Rn}{n:Nat}(h:ST a₀ kd lt rs lo st)(h1:1<=n)(hs:SL lt (arrOf st).toList lo n)(hz:lo+n<=a₀.size){Q:ForInStep U2->SortSt->Prop}(hq: ∀rs' st',ST a₀ kd lt rs' (lo+n) st'->Q (.yield (none,lo+n)) st'):
  wpS M A E s (nxt a₀.size lo n) Q st:=by
 unfold nxt
 refine wpS_bind (wpS_get ?_)
 rcases List.eq_nil_or_concat rs with rfl|⟨A',⟨a,b,w⟩,rfl⟩
 ·have hb:(pendingOf st).back? =none:=by rw [h.pd];rfl
  rw [hb]
  exact zYQ h h1 hs hz hq
 ·have hb:(pendingOf st).back? =some (a,b,w):=by rw [h.pd];simp
  rw [hb]
  dsimp only
  generalize power' a₀.size (2 * a+b) (2 * a+b+b+n) a₀.size=pw
  refine wpS_bind (wpS_mono (wpS_forRange (I:=λ_ c st3=>c=((none,()):U1)/\ ∃rs,rs≠[]/\ST a₀ kd lt rs lo st3/\SL lt (arrOf st3).toList lo n) (Q:=λc st3=>c=((none,()):U1)/\ ∃rs,rs≠[]/\ST a₀ kd lt rs lo st3/\SL lt (arrOf st3).toList lo n) ?_ (λ_ _ hh=>hh) ⟨rfl,_,by simp,h,hs⟩) ?_)
  ·rintro x c st3 _ _ ⟨rfl,rs,hne,hT,hsl⟩
   refine wpS_bind (wpS_get ?_)
   have hsz:(pendingOf st3).size=rs.length:=by rw [hT.pd];simp
   by_cases c1:(pendingOf st3).size>1
   ·rw [iP c1]
    cases hz':(pendingOf st3)[(pendingOf st3).size - 2]? with
    |none=>exact wpS_pure ⟨rfl,rs,hne,hT,hsl⟩
    |some r=>
     obtain⟨r1,r2,z⟩:=r
     dsimp only
     by_cases c2:z<=pw
     ·rw [iP c2]
      exact wpS_pure ⟨rfl,rs,hne,hT,hsl⟩
     ·rw [iN c2]
      refine wpS_bind (zYP C hD hT (by omega) λrs' st' hT' hlen hot=>?_)
      rw [iN (by simp)]
      exact wpS_pure ⟨rfl,rs',λe=>by rw [e,length_nil]at hlen;omega,hT',hsl.congr λj h1 _=>hot j h1⟩
   ·rw [iN c1]
    exact wpS_pure ⟨rfl,rs,hne,hT,hsl⟩
  ·rintro c st3 ⟨rfl,rs,hne,hT,hsl⟩
   dsimp only
   refine wpS_bind (wpS_modify ?_)
   rcases List.eq_nil_or_concat rs with rfl|⟨B,⟨u,v,w'⟩,rfl⟩
   ·exact absurd rfl hne
   ·rw [List.concat_eq_append]at hT
    have hmod:(pendingOf st3).modify ((pendingOf st3).size - 1) (λx=>(x.fst,x.2.fst,pw))=(B++[(u,v,pw)]).toArray:=by
     rw [hT.pd]
     apply Array.toList_inj.mp
     rw [Array.toList_modify]
     have e:(B++[(u,v,w')]).toArray.size - 1=B.length:=by simp
     rw [e]
     show(B++[(u,v,w')]).modify B.length _=B++[(u,v,pw)]
     have key: ∀(B:List Rn)(x:Rn)(f:Rn->Rn),(B++[x]).modify B.length f=B++[f x]:=by
      intro B
      induction B with
      |nil=>intro x f;rfl
      |cons b B ih=>intro x f;show b::(B++[x]).modify B.length f=_;rw [ih];rfl
     rw [key]
    refine zYQ (st:=setPending st3 ((pendingOf st3).modify ((pendingOf st3).size - 1) λx=>(x.fst,x.2.fst,pw))) (rs:=B++[(u,v,pw)]) ⟨hT.pm,hT.kind,hT.fl,?_,?_,hT.le⟩ h1 hsl hz hq
    ·rw [<-hmod]
    ·obtain⟨m,o1,o2⟩:=hT.ok.split
     exact RunsOk.join o1 ⟨o2.1,o2.2.1,o2.2.2.1,o2.2.2.2⟩
theorem yEG(C:Cmp M A E s kd D lt)(hD: ∀x,x∈a₀.toList->D x)(d:Keyed){r:Nat}(h:ST a₀ kd lt [] 0 st){Q:U2->SortSt->Prop}
  (hq: ∀rs st',ST a₀ kd lt rs a₀.size st'->Q (none,a₀.size) st'):wpS M A E s (runs a₀.size r) Q st:=by
 unfold runs
 refine wpS_forRange (I:=λx c st'=> ∃lo rs,c=((none,lo):U2)/\x<=lo/\ST a₀ kd lt rs lo st') ?_ ?_ ⟨0,[],rfl,le_refl _,h⟩
 ·rintro x c st1 _ hx ⟨lo,rs,rfl,hxl,hT⟩
  dsimp only
  have hle:=hT.le
  by_cases c1:lo>=a₀.size
  ·rw [iP c1]
   have e:lo=a₀.size:=by omega
   subst e
   exact wpS_pure (hq rs st1 hT)
  ·rw [iN c1]
   have hB:SB a₀ kd rs.toArray (arrOf st1) lo st1:=⟨Array.perm_iff_toList_perm.mpr hT.pm,hT.kind,hT.fl,hT.pd,λ_ _=>rfl⟩
   have back: ∀{st2:SortSt},SB a₀ kd rs.toArray (arrOf st1) lo st2->ST a₀ kd lt rs lo st2:=λ{st2} hB2=>⟨Array.perm_iff_toList_perm.mp hB2.pm,hB2.kind,hB2.fl,hB2.pd,hT.ok.congr λj _ hj=>by rw [Array.getElem?_toList,hB2.fx j hj, <-Array.getElem?_toList],hT.le⟩
   refine wpS_bind (yJF (d:=d) C hD hB (n:=a₀.size - lo) (by omega) (by omega) λm st2 hB2 hm1 hm2 hu=>?_)
   dsimp only
   by_cases cm:m<r
   ·rw [iP cm]
    refine wpS_bind (zCX ?_)
    refine wpS_bind (yJG C hD hB2 (n:=min (a₀.size - lo) r) (by omega) (by omega) hu λst3 hB3 hu3=>?_)
    rw [iN (by simp)]
    exact yEF C hD (back hB3) (by omega) hu3.sl (by omega) λrs' st' hT'=>⟨_,rs',rfl,by omega,hT'⟩
   ·rw [iN cm]
    exact yEF C hD (back hB2) (by omega) hu.sl (by omega) λrs' st' hT'=>⟨_,rs',rfl,by omega,hT'⟩
 ·rintro c st1 ⟨lo,rs,rfl,hxl,hT⟩
  have hle:=hT.le
  have e:lo=a₀.size:=by omega
  subst e
  exact hq rs st1 hT
theorem yEH{rs:List Rn}(h2:2<=a₀.size)(h:ST a₀ kd lt rs a₀.size st)(hl:rs.length<=1):Dun a₀ lt st:=by
 refine⟨h.pm,h.fl,?_⟩
 match rs,hl,h.ok with
 |[],_,o=>exact absurd (show 0=a₀.size from o) (by omega)
 |[r],_,o=>
  obtain⟨e1,g1,s1,o2⟩:=o
  have e2:0+r.2.1=a₀.size:=o2
  have:=s1.pw
  rwa [drop_zero,take_of_length_le (by rw [Array.length_toList,h.size];omega)]at this
theorem yEI(C:Cmp M A E s kd D lt)(hD: ∀x,x∈a₀.toList->D x)(h2:2<=a₀.size){rs:List Rn}(h:ST a₀ kd lt rs a₀.size st){Q:U1->SortSt->Prop}(hq: ∀st',Dun a₀ lt st'->Q (none,()) st'):wpS M A E s (colp a₀.size) Q st:=by
 unfold colp
 have hl0:=h.ok.le
 refine wpS_forRange (I:=λx c st'=>c=((none,()):U1)/\ ∃rs,ST a₀ kd lt rs a₀.size st'/\(rs.length<=1\/rs.length+x<=a₀.size)) ?_ ?_ ⟨rfl,rs,h,.inr (by omega)⟩
 ·rintro x c st1 _ hx ⟨rfl,rs,hT,hl⟩
  refine wpS_bind (wpS_get ?_)
  have hsz:(pendingOf st1).size=rs.length:=by rw [hT.pd];simp
  by_cases c1:(pendingOf st1).size<=1
  ·rw [iP c1]
   exact wpS_pure (hq st1 (yEH h2 hT (by omega)))
  ·rw [iN c1]
   generalize hi:(if Option.any (λx=>decide (x<((pendingOf st1)[(pendingOf st1).size - 2+1]?).elim 0 λx=>x.2.1)) (if(pendingOf st1).size - 2>0 then Option.map (λx=>x.2.1) (pendingOf st1)[(pendingOf st1).size - 2 - 1]? else none)=true
      then(pendingOf st1).size - 2 - 1 else(pendingOf st1).size - 2)=i
   have hi2:i+1<rs.length:=by
    have key: ∀(P:Prop)[Decidable P](n:Nat),2<=n->(if P then n - 2 - 1 else n - 2)+1<n:=by
     intro P _ n hn
     by_cases c:P
     ·rw [iP c];omega
     ·rw [iN c];omega
    rw [<-hi, <-hsz]
    exact key _ _ (by omega)
   refine wpS_bind (zYP C hD hT hi2 λrs' st' hT' hlen _=>?_)
   rw [iN (by simp)]
   exact wpS_pure ⟨rfl,rs',hT',by omega⟩
 ·rintro c st1 ⟨rfl,rs,hT,hl⟩
  refine hq st1 (yEH h2 hT ?_)
  rcases hl with hl|hl
  ·exact hl
  ·omega
theorem zRA(C:Cmp M A E s kd D lt)(hD: ∀x,x∈(arrOf st).toList->D x)(d:Keyed)(h2:2<=(arrOf st).size)(hk:kindOf st=kd)(hp:pendingOf st=#[])(hf:failedOf st=none)
  {Q:Unit->SortSt->Prop} (hq: ∀st',Dun (arrOf st) lt st'->Q () st'):wpS M A E s sortRuns' Q st:=by
 rw [zNZ]
 unfold sRun
 refine wpS_bind (wpS_get ?_)
 refine wpS_bind (yEG C hD d ⟨List.Perm.refl _,hk,hf,hp,rfl,zero_le _⟩ λrs st1 hT=>?_)
 dsimp only
 refine wpS_bind (yEI C hD h2 hT λst2 hd=>?_)
 exact wpS_pure (hq st2 hd)
end
end Srt
set_option autoImplicit false
set_option autoImplicit false
namespace Srt
open PySem PyProof.Rows
section
variable{prog:Program}{w:World}{A:Around}{E:VP}{s:Shared}
theorem yJI{α β:Type}{f:α->Sem β}{g:α->β}{M:Model}(l:List α)(h: ∀x,x∈l->wpAny M A (f x) (λr s'=>s'=s/\r=g x) E s):wpAny M A (l.mapM f) (λr s'=>s'=s/\r=l.map g) E s:=by
 induction l with
 |nil=>rw [List.mapM_nil];exact wP0 ⟨rfl,rfl⟩
 |cons x l ih=>
  rw [List.mapM_cons]
  refine wB0 (wpAny_mono (h x mF0) (λr s' hr=>?_) λ_ _ e=>e)
  rw [hr.1,hr.2]
  refine wB0 (wpAny_mono (ih λy hy=>h y (mO _ hy)) (λr s' hr=>?_) λ_ _ e=>e)
  rw [hr.1,hr.2]
  exact wP0 ⟨rfl,rfl⟩
theorem zTR{α β:Type}{f:α->Sem β}{g:α->β}{M:Model}{l:List α}(h: ∀x,x∈l->wpAny M A (f x) (λr s'=>s'=s/\r=g x) E s):wpAny M A (l.toArray.mapM f) (λr s'=>s'=s/\r=(l.map g).toArray) E s:=by
 rw [List.mapM_toArray]
 show wpAny M A (List.toArray<$>l.mapM f) _ E s
 rw [map_eq_pure_bind]
 refine wB0 (wpAny_mono (yJI l h) (λr s' hr=>?_) λ_ _ e=>e)
 obtain⟨rfl,rfl⟩:=hr
 exact wP0 ⟨rfl,rfl⟩
def TupAt(h:Heap)(a:Addr)(its:List Value):Prop:= ∃o n,h.get? a=some o/\o.cls=.type "tuple"/\o.data=.seq its.toArray n
theorem zJF(v:Value):firstOfTuple' v=(do
  if(<-typeOf v) !=.type "tuple" then return none
  return (<-Builtin.List.listItems v)[0]?):=rfl
theorem yEJ{M:Model}{a:Addr}{its:List Value}(h:TupAt s.heap a its):wpAny M A (firstOfTuple' (.ref a)) (λr s'=>s'=s/\r=its[0]?) E s:=by
 obtain⟨o,n,h1,h2,h3⟩:=h
 rw [zJF]
 refine wB0 (wpAny_typeOf (T:="tuple") ⟨o,h1,h2⟩ ?_)
 rw [iN (by simp)]
 refine wB0 (listItems_at h1 h3 ?_)
 exact wP0 ⟨rfl,by simp⟩
end
end Srt
set_option autoImplicit false
namespace Srt
open PySem PyProof.Rows
inductive LexS(A:Around)(s:Shared):List Value->List Value->Bool->Prop
 |nn:LexS A s [] [] false
 |nc (x xs):LexS A s [] (x::xs) true
 |cn (y ys):LexS A s (y::ys) [] false
 |eq {y x ys xs k}:SeqAt.EqAt A s y x true->LexS A s ys xs k->LexS A s (y::ys) (x::xs) k
 |ne {y x ys xs k}:SeqAt.EqAt A s y x false->(∀(prog:Program)(w:World)(E Q:VP),Q (.bool k) s->wpAny (model prog w) A (richCompare .Lt y x) Q E s)->LexS A s (y::ys) (x::xs) k
section
variable{prog:Program}{w:World}{A:Around}{E:VP}{s:Shared}
theorem yPC(c:Bool)(x y:Value):keyLt' (tuples' c) x y=(Builtin.List.listItems x >>= λxs=>Builtin.List.listItems y >>= λys=>
  (forIn (xs.toList.zip ys.toList).zipIdx ((none,()):Option Bool×Unit) λz _=>eqBool z.1.1 z.1.2 >>= λe=>if(!e)=true then oneLt' (c&&z.2==0) z.1.1 z.1.2 >>= λr=>pure (.done (some r,()))else pure (.yield (none,()))) >>= λr=>
  match r.1 with
  |some r=>pure r
  |none=>pure (decide (xs.size<ys.size))):=by kernel_rfl
theorem yPD(x y:Value):oneLt' false x y=richCompare .Lt x y >>= λv=>truthOfDropped v:=by rw [oneLt'_eq];rfl
theorem zWR{b:Bool}{Q:Bool->Shared->Prop}(h:Q b s):wpAny (model prog w) A (truthOfDropped (.bool b)) Q E s:=wpAny_truthy_bool h
theorem wp_lt{kd:SortKind}{x y:Keyed}{k:Bool}{st:SortSt}(hk:kindOf st=kd)(h: ∀(E:VP)(Q:Bool->Shared->Prop),Q k s->wpAny (model prog w) A (keyLt' kd x.1 y.1) Q E s){Q:Option Bool->SortSt->Prop}(hq:Q (some k) st):
  wpS (model prog w) A E s (lt' x y) Q st:=by
 rw [lt'_eq]
 refine wpS_bind (wpS_get ?_)
 rw [hk]
 refine wpS_bind (wpS_lift (wpAny_attempt (h _ _ ⟨rfl,?_⟩)))
 exact wpS_pure hq
end
end Srt
set_option autoImplicit false
set_option autoImplicit false
namespace Srt
open PySem PyProof.Rows
section
variable{prog:Program}{w:World}{A:Around}{E:VP}{s:Shared}
theorem yEK{m n:Nat}{k:Bool}(vs ws:List Value)(i:Nat)(hx:LexS A s vs ws k):1<=i->vs.length+n=ws.length+m->
   wpAny (model prog w) A (forIn ((vs.zip ws).zipIdx i) ((none,()):Option Bool×Unit) λz _=>eqBool z.1.1 z.1.2 >>= λe=>if(!e)=true then oneLt' (true&&z.2==0) z.1.1 z.1.2 >>= λr=>pure (.done (some r,()))else pure (.yield (none,())))
    (λr s'=>s'=s/\(r=(some k,())\/(r=(none,())/\k=decide (m<n)))) E s:=by
 induction hx generalizing i with
 |nn=>intro hi h;rw [zip_nil_left,zipIdx_nil,forIn_nil];exact wP0 ⟨rfl,.inr ⟨rfl,(dF0 (by simp at h;omega)).symm⟩⟩
 |nc x xs=>intro hi h;rw [zip_nil_left,zipIdx_nil,forIn_nil];exact wP0 ⟨rfl,.inr ⟨rfl,(dT0 (by simp at h;omega)).symm⟩⟩
 |cn y ys=>intro hi h;rw [List.zip_nil_right,zipIdx_nil,forIn_nil];exact wP0 ⟨rfl,.inr ⟨rfl,(dF0 (by simp at h;omega)).symm⟩⟩
 |eq he hr ih=>
  intro hi h
  rw [zip_cons_cons,zipIdx_cons,forIn_cons]
  refine wB0 (wB0 (he prog w E _ ?_))
  rw [iN (by simp)]
  exact wP0 (ih (i+1) (by omega) (by simpa using(by simp at h;omega)))
 |ne he hr=>
  intro hi h
  rw [zip_cons_cons,zipIdx_cons,forIn_cons]
  refine wB0 (wB0 (he prog w E _ ?_))
  rw [iP (by simp)]
  simp only [Bool.true_and]
  rw [show(i==0)=false by simp;omega,yPD]
  refine wB0 (wB0 (hr prog w E _ (zWR ?_)))
  exact wP0 (wP0 ⟨rfl,.inl rfl⟩)
end
end Srt
set_option autoImplicit false
namespace Srt
open PySem PyProof.Rows
section
variable{prog:Program}{w:World}{A:Around}{E:VP}{s:Shared}
theorem sort_plain{a:Addr}{vs:List Value}{n0:Nat}{P:PySem.Fin->Shared->Prop}(ho:s.heap.get? a=some (seqObj "list" vs.toArray n0))(hl:vs.length<1000000)
  (hk: ∀s2:Shared,s2={s with heap:=((s.heap.update a (Obj.mapSeq λ_=>#[])).push (seqObj "tuple" vs.toArray 0)).push (seqObj "list" #[] 0)}-> ∃(kd:SortKind)(D:Keyed->Prop)(lt:Keyed->Keyed->Bool),
   (2<=vs.length->wpAny (model prog w) A (keyKind' vs.toArray) (λk s'=>s'=s2/\k=kd) E s2/\Cmp (model prog w) A E s2 kd D lt/\ ∀p,p∈vs.zip vs->D p)/\
   ∀out:List Keyed,out.Perm (vs.zip vs)->out.Pairwise (Le lt)->P (.done (.ret .none)) {s2 with heap:=s2.heap.update a (Obj.mapSeq λ_=>(out.map (·.2)).toArray)}):
  wpAny (model prog w) A (Builtin.«list.sort» ⟨[.ref a],[]⟩) P E s:=by
 unfold Builtin.«list.sort»
 dsimp only
 rw [iN (by simp),iN (by simp)]
 rw [forIn_nil]
 refine wB0 (wP0 ?_)
 have e1:List.lookup (Str.ofString "key") ([]:List (Str×Value))=none:=rfl
 have e2:List.lookup (Str.ofString "reverse") ([]:List (Str×Value))=none:=rfl
 rw [e1,e2]
 refine wB0 (wP0 ?_)
 have ha:a<s.heap.objs.size:=Heap.lt_size ho
 refine wB0 (listItems_at ho rfl ?_)
 refine wB0 (listUpdate_at ho rfl ?_)
 obtain⟨q,hq⟩: ∃q,(s.heap.update a (Obj.mapSeq λ_=>#[])).get? a=some (seqObj "list" #[] q):=⟨_,get?_update_seq ho (λ_=>#[])⟩
 dsimp only
 refine wB0 (seqEpoch_at hq rfl ?_)
 refine wB0 (wpAny_newTuple ?_)
 refine wB0 (wpAny_newList ?_)
 refine wpAny_holding ?_
 rw [iN (by simp)]
 dsimp only
 generalize hs2:({s with heap:=((s.heap.update a (Obj.mapSeq λ_=>#[])).push (seqObj "tuple" vs.toArray 0)).push (seqObj "list" #[] 0)}:Shared)=s2
 have g1:s2.heap.get? a=some (seqObj "list" #[] q):=by rw [<-hs2];exact hP0 _ (hP0 _ hq)
 obtain⟨kd,D,lt,g4,g5⟩:=hk s2 hs2.symm
 rw [iN (by simp)]
 refine wB0 (wP0 ?_)
 rw [iN (by simp)]
 have fin: ∀st:SortSt,failedOf st=none->(arrOf st).toList.Perm (vs.zip vs)->(arrOf st).toList.Pairwise (Le lt)->
   wpAny (model prog w) A (do
    let e <-seqEpoch a
    Builtin.List.listUpdate (.ref a) λ_=>(arrOf st).map (·.2)
    if(e !=q)=true then rule "list.sort.modified" >>= λ_=>raiseErrorWords "ValueError" "list modified during sort" >>= λ(_:Unit)=>ret .none else ret .none) P E s2:=by
  intro st hf hp hs
  refine wB0 (seqEpoch_at g1 rfl ?_)
  have hlen:((arrOf st).map (·.2)).size<=sizeLine+1:=by
   rw [Array.size_map, <-Array.length_toList,hp.length_eq,length_zip]
   have:=sizeLine_eq;omega
  refine wB0 (listUpdate_at g1 rfl ?_ (hsz2:=hlen))
  rw [iN (by simp)]
  have e3:(arrOf st).map (·.2)=((arrOf st).toList.map (·.2)).toArray:=by rw [<-Array.toList_map]
  rw [e3]
  exact wP0 (g5 _ hp hs)
 by_cases h2':vs.toArray.size<2
 ·rw [iP h2',iP h2']
  refine wB0 (wP0 ?_)
  rw [StateT.run_pure]
  refine wB0 (wP0 ?_)
  rw [iN (by simp)]
  have hz:(vs.zip vs).length<=1:=by rw [length_zip];simp at h2';omega
  refine fin (SortSt.mk' general' (vs.toArray.zip vs.toArray) #[] 7 none) rfl ?_ ?_
  ·show(vs.toArray.zip vs.toArray).toList.Perm _
   simp
  ·show(vs.toArray.zip vs.toArray).toList.Pairwise _
   have:(vs.toArray.zip vs.toArray).toList=vs.zip vs:=by simp
   rw [this]
   match vs.zip vs,hz with
   |[],_=>exact .nil
   |[x],_=>exact List.pairwise_singleton _ _
   |x::y::r,h=>simp at h
 ·rw [iN h2',iN h2']
  obtain⟨k1,k2,k3⟩:=g4 (by simp at h2';omega)
  refine wB0 (wpAny_mono k1 (λk s' hk'=>?_) λ_ _ e=>e)
  obtain⟨rfl,rfl⟩:=hk'
  have za:(arrOf (SortSt.mk' k (vs.toArray.zip vs.toArray) #[] 7 none)).toList=vs.zip vs:=by
   show(vs.toArray.zip vs.toArray).toList=_
   simp
  have zs:(arrOf (SortSt.mk' k (vs.toArray.zip vs.toArray) #[] 7 none)).size=vs.length:=by
   rw [<-Array.length_toList,za,length_zip,Nat.min_self]
  refine wB0 (wpAny_mono (zRA (st:=SortSt.mk' k (vs.toArray.zip vs.toArray) #[] 7 none) k2 (λp hp=>k3 p (by rw [za]at hp;exact hp)) (.none,.none) (by rw [zs];simp at h2';omega) rfl rfl rfl
   (Q:=λ_ st'=>Dun (arrOf (SortSt.mk' k (vs.toArray.zip vs.toArray) #[] 7 none)) lt st') λst' h=>h) (λr s3 hr=>?_) λ_ _ e=>e)
  obtain⟨⟨⟩,st'⟩:=r
  obtain⟨rfl,d1,d2,d3⟩:=hr
  dsimp only
  rw [iN (by simp)]
  have F:=fin st' d2 (by rw [<-za];exact d1) d3
  have d4:failedOf st'=none:=d2
  unfold failedOf at d4
  rw [d4]
  exact F
end
end Srt
set_option autoImplicit false
namespace Srt
open PySem PyProof.Rows
section
variable{prog:Program}{w:World}{A:Around}{E:VP}{s:Shared}
theorem zTS{M:Model}{l:List Value}(hl:l≠[])(h: ∀x,x∈l-> ∃z tk,x=.int z tk):wpAny M A (oneTypeOnly' l.toArray) (λr s'=>s'=s/\r=some (.type "int")) E s:=by
 rw [oneTypeOnly'_eq]
 refine wB0 (wpAny_mono (zTR (g:=λ_=>Value.type "int") λx hx=>?_) (λr s' hr=>?_) λ_ _ e=>e)
 ·obtain⟨z,tk,rfl⟩:=h x hx
  exact wP0 ⟨rfl,rfl⟩
 ·obtain⟨rfl,rfl⟩:=hr
  match l,hl with
  |x::l,_=>
   have h0:(List.map (λ_=>Value.type "int") (x::l)).toArray[0]? =some (Value.type "int"):=by simp
   have hall:((List.map (λ_=>Value.type "int") (x::l)).toArray.all λx=>x==Value.type "int")=true:=by
    simp only [List.all_toArray,all_map,all_eq_true]
    intro _ _
    rfl
   rw [h0]
   dsimp only
   rw [hall]
   exact wP0 ⟨rfl,rfl⟩
theorem wp_kindI{M:Model}{keys:List Value}(hl:keys≠[])(h: ∀x,x∈keys-> ∃a its z tk r,x=.ref a/\TupAt s.heap a its/\its=.int z tk::r):
  wpAny M A (keyKind' keys.toArray) (λk s'=>s'=s/\k=tuples' true) E s:=by
 rw [keyKind'_eq]
 have hg: ∀x, ∃y:Option Value,x∈keys->(∃z tk,y=some (.int z tk))/\ ∀M:Model,wpAny M A (firstOfTuple' x) (λr s'=>s'=s/\r=y) E s:=by
  intro x
  by_cases hx:x∈keys
  ·obtain⟨a,its,z,tk,r,rfl,h1,rfl⟩:=h x hx
   exact⟨some (.int z tk),λ_=>⟨⟨z,tk,rfl⟩,λM=>yEJ h1⟩⟩
  ·exact⟨none,λz=>absurd z hx⟩
 let g:=λx=>Classical.choose (hg x)
 have gs: ∀x,x∈keys->(∃z tk,g x=some (.int z tk))/\ ∀M:Model,wpAny M A (firstOfTuple' x) (λr s'=>s'=s/\r=g x) E s:=λx hx=>Classical.choose_spec (hg x) hx
 refine wB0 (wpAny_mono (zTR (g:=g) λx hx=>(gs x hx).2 M) (λr s' hr=>?_) λ_ _ e=>e)
 obtain⟨rfl,rfl⟩:=hr
 rw [iP (by
  simp only [List.all_toArray,all_map,all_eq_true]
  intro x hx
  obtain⟨⟨b,jts,e⟩,_⟩:=gs x hx
  show(g x).isSome=true
  rw [e];rfl)]
 refine wB0 (wpAny_rule ?_)
 have ef:(keys.map g).toArray.filterMap id=((keys.map g).filterMap id).toArray:=by simp
 rw [ef]
 refine wB0 (wpAny_mono (zTS (l:=(keys.map g).filterMap id) ?_ ?_) (λr s' hr=>?_) λ_ _ e=>e)
 ·match keys,hl,gs with
  |x::l,_,gs=>
   obtain⟨⟨b,jts,e⟩,_⟩:=gs x mF0
   rw [map_cons,e]
   simp
 ·intro x hx
  obtain⟨y,hy,e⟩:=mem_filterMap.mp hx
  obtain⟨z,hz,e'⟩:=mM.mp hy
  obtain⟨⟨b,jts,e2⟩,_⟩:=gs z hz
  have:some x=some (Value.int b jts):=by rw [<-e2,e'];exact e.symm
  cases this
  exact⟨b,jts,rfl⟩
 ·obtain⟨rfl,rfl⟩:=hr
  refine wP0 ⟨rfl,?_⟩
  have:((some (Value.type "int")).any λx=>x !=Value.type "tuple")=true:=by rfl
  rw [this]
end
end Srt
set_option autoImplicit false
namespace Srt
open PySem PyProof.Rows
section
variable{prog:Program}{w:World}{A:Around}{E:VP}{s:Shared}
theorem wp_keyLtI{l b:Addr}{x y:Int}{t u:Tok}{r r2:List Value}{e k:Bool}{Q:Bool->Shared->Prop}(hl:TupAt s.heap l (.int x t::r))(hb:TupAt s.heap b (.int y u::r2))(he:SeqAt.EqAt A s (.int x t) (.int y u) e)
  (hx:if e=true then LexS A s r r2 k else k=decide (x<y)) (hq:Q k s):
  wpAny (model prog w) A (keyLt' (tuples' true) (.ref l) (.ref b)) Q E s:=by
 obtain⟨o1,n1,a1,_,a3⟩:=hl
 obtain⟨o2,n2,b1,_,b3⟩:=hb
 rw [yPC]
 refine wB0 (listItems_at a1 a3 (wB0 (listItems_at b1 b3 ?_)))
 simp only [sA0]
 refine wB0 ?_
 rw [zip_cons_cons,zipIdx_cons,forIn_cons]
 refine wB0 (wB0 (he prog w E _ ?_))
 cases e with
 |true=>
  rw [iP rfl]at hx
  rw [iN (by simp)]
  refine wP0 ?_
  refine wpAny_mono (yEK r r2 1 hx (m:=(Value.int x t::r).length) (n:=(Value.int y u::r2).length) (le_refl _) (by simp only [lC];omega)) (λq s' h=>?_) λ_ _ e=>e
  obtain⟨rfl,rfl|⟨rfl,e⟩⟩:=h
  ·exact wP0 hq
  ·dsimp only
   rw [<-e]
   exact wP0 hq
 |false=>
  rw [iN xF0]at hx
  subst hx
  rw [iP (by simp)]
  refine wB0 (oneLt_int ?_)
  exact wP0 (wP0 (wP0 hq))
end
end Srt
namespace L2
namespace M
open PySem PySem.Spec PyProof.Rows
mutual
def zEL:MV->Bool
 |.int _=>true
 |.str _=>true
 |.tup ds=>zPB ds
 |_=>false
def zPB:List MV->Bool
 |[]=>true
 |d::ds=>zEL d&&zPB ds
end
theorem zPC{α β:Type}{g:α->β}{p m:List β}(h:p.Perm m): ∀l:List α,l.map g=p-> ∃l':List α,l'.Perm l/\l'.map g=m:=by
 induction h with
 |nil=>intro l e;exact⟨l,.refl _,e⟩
 |cons x _ ih=>
  intro l e
  cases l with
  |nil=>cases e
  |cons a l=>
   rw [map_cons]at e
   injection e with e1 e2
   obtain⟨l',p',q'⟩:=ih l e2
   exact⟨a::l',p'.cons a,by rw [map_cons,e1,q']⟩
 |swap x y t=>
  intro l e
  match l,e with
  |a::b::l,e=>
   rw [map_cons,map_cons]at e
   injection e with e1 e2
   injection e2 with e2 e3
   exact⟨b::a::l,.swap _ _ _,by rw [map_cons,map_cons,e1,e2,e3]⟩
 |trans _ _ ih1 ih2=>
  intro l e
  obtain⟨l1,p1,q1⟩:=ih1 l e
  obtain⟨l2,p2,q2⟩:=ih2 l1 q1
  exact⟨l2,p2.trans p1,q2⟩
section
variable{X:Cx}{α:List Addr}{S:Sto}{H:Hp}{pins:List (Addr×Obj)}{σ:St}{s:Shared}
mutual
theorem zYR(I:Inv X pins σ H s): ∀{d d':MV}{v:V},zEL d=true->zEL d'=true->Den X.K α H d v->Den X.K α H d' v->d=d'
 |.int i,d',v,_,h',q,q'=>by
  cases xO q
  cases d' with
  |int j=>cases xO q';rfl
  |str x=>cases wC q'
  |tup ds=>obtain⟨a,vs,e,_⟩:=xP q';cases e
  |_=>simp [zEL]at h'
 |.str x,d',v,_,h',q,q'=>by
  have e:=wC q
  cases d' with
  |int j=>rw [xO q']at e;cases e
  |str y=>rw [wC q']at e;injection e with e;rw [zLA e]
  |tup ds=>obtain⟨a,vs,e',_⟩:=xP q';rw [e']at e;cases e
  |_=>simp [zEL]at h'
 |.tup ds,d',v,h,h',q,q'=>by
  obtain⟨a,vs,e,t,l⟩:=xP q
  cases d' with
  |int j=>rw [xO q']at e;cases e
  |str y=>rw [wC q']at e;cases e
  |tup es=>
   obtain⟨a',vs',e',t',l'⟩:=xP q'
   rw [e]at e';cases e'
   have:=I.tuple_inj t t'
   subst this
   rw [zTT I (by unfold zEL at h;exact h) (by unfold zEL at h';exact h') l l']
  |_=>simp [zEL]at h'
theorem zTT(I:Inv X pins σ H s): ∀{ds es:List MV}{vs:List V},zPB ds=true->zPB es=true->DenL X.K α H ds vs->DenL X.K α H es vs->ds=es
 |[],[],_,_,_,_,_=>rfl
 |[],e::es,_,_,_,q,q'=>by obtain⟨v,r,e,_⟩:=q'.uncons;rw [q.isnil]at e;cases e
 |d::ds,[],_,_,_,q,q'=>by obtain⟨v,r,e,_⟩:=q.uncons;rw [q'.isnil]at e;cases e
 |d::ds,e::es,_,h,h',q,q'=>by
  obtain⟨v,r,rfl,a,l⟩:=q.uncons
  obtain⟨v',r',e',a',l'⟩:=q'.uncons
  cases e'
  unfold zPB at h h'
  rw [aE]at h h'
  rw [zYR I h.1 h'.1 a a',zTT I h.2 h'.2 l l']
end
theorem lexRS{A:Around}{xs ys:List Value}{k:Bool}(h:LexR A s xs ys k):Srt.LexS A s xs ys k:=by
 induction h with
 |nn=>exact .nn
 |nc x xs=>exact .nc x xs
 |cn x xs=>exact .cn x xs
 |eq a _ ih=>exact .eq a ih
 |ne a b=>exact .ne a b
theorem zWS(I:Inv X pins σ H s){ds:List MV}{x:V}{u:Value}(d:Den X.K α H (.tup ds) x)(r:RelV x u): ∃a vs its,u=.ref a/\DenL X.K α H ds vs/\Vals vs its/\Srt.TupAt s.heap a its/\IsTup s.heap a its.toArray:=by
 obtain⟨a,vs,rfl,t,l⟩:=xP d
 cases r
 obtain⟨its,r1,pt,_⟩:=I.tuple t
 obtain⟨o,h1,h2,n,h3⟩:=id pt
 exact⟨a,vs,its,rfl,l,r1,⟨o,n,h1,h2,h3⟩,pt⟩
end
structure OrdD(S:Sto)(ks:List MV):Prop where
 any: ∀a,a∈ks-> ∀b,b∈ks-> ∃t,ltv S zM a b=some t
 tr: ∀a,a∈ks-> ∀b,b∈ks-> ∀c,c∈ks->ltv S zM b a=some false->ltv S zM c b=some false->ltv S zM c a=some false
 as: ∀a,a∈ks-> ∀b,b∈ks->ltv S zM a b=some true->ltv S zM b a=some false
section
variable{X:Cx}{α:List Addr}{S:Sto}{H:Hp}{pins:List (Addr×Obj)}{σ:St}{s:Shared}{k:Nat}{fa:Addr}{fd:FuncData}{ps:List Str}{Fd:List MV->Sto->R Er}
theorem yBJ{e:Addr}{ys:List V}{its:List Value}{n:Nat}(J:Inv X pins σ H s)(f:zGX X pins H e)(h0:X.s₀.heap.objs.size<=e)(he:s.heap.get? e=some (seqObj "list" its.toArray n))(hv:Vals ys its)(hz:ys.length<=sizeLine):Inv X pins σ (upd H e (.lst ys)) s:=by
 have s0: ∀o,X.s₀.heap.get? e≠some o:=λo z=>absurd (lt_of_lt_of_le (Heap.lt_size z) h0) (lt_irrefl _)
 refine⟨J.ok,J.os,J.bare,⟨J.base.keep,J.base.slot,λb ob' q n hx=>?_,J.base.there,λb xs q=>?_,λb o' u q=>?_,λb ps q=>?_⟩,J.loc,J.cell,?_,λx c hc=>?_,λp hp=>?_,λb u q=>?_,J.len⟩
 ·rw [zR λz=>s0 ob' (by rw [<-z];exact q)]
  exact J.base.free b ob' q n hx
 ·rw [zR (zX (J.base.tups b xs q) f.1)];exact J.base.tups b xs q
 ·rw [zR (zX (J.base.frzs b o' u q) f.1)];exact J.base.frzs b o' u q
 ·obtain⟨mo,z⟩:=J.base.tbls b ps q
  exact⟨mo,by rw [zR (zX z f.1)];exact z⟩
 ·rw [zR (Ne.symm f.2.1)];exact J.free
 ·rw [zR (f.2.2.2.2.1 x c hc)];exact J.freeC x c hc
 ·obtain⟨e1,n,ne,nf,dd⟩:=J.pin p hp
  exact⟨e1,by rw [zR (f.2.2.2.2.2 p hp)];exact n,ne,nf,dd⟩
 ·by_cases z:b=e
  ·subst z
   rw [yS]at q
   cases q
   exact⟨hz,its,n,hv,he⟩
  ·rw [zR z]at q
   exact(J.hok b u q).stay (λ_ _ _ r=>r) (λc r=>by rw [zR (zX r f.1)];exact r) λc xs r=>by rw [zR (zX r f.1)];exact r
noncomputable def zRB(K:PySem.W.Frag)(α:List Addr)(H:Hp)(kds:List MV)(u:Value):MV:=
 open Classical in if h: ∃d v,d∈kds/\Den K α H d v/\RelV v u then Classical.choose h else kds.headD .non
noncomputable def ltV(K:PySem.W.Frag)(α:List Addr)(H:Hp)(S:Sto)(kds:List MV)(p q:Keyed):Bool:=(ltv S zM (zRB K α H kds p.1) (zRB K α H kds q.1)).getD false
theorem cW{K:PySem.W.Frag}{kds:List MV}(hne:kds≠[])(u:Value):zRB K α H kds u∈kds:=by
 unfold zRB
 split
 ·rename_i h
  obtain⟨v,h1,_⟩:=Classical.choose_spec h
  exact h1
 ·match kds,hne with
  |x::l,_=>exact mF0
theorem zMR{K:PySem.W.Frag}{kds:List MV}{u:Value}(h: ∃d v,d∈kds/\Den K α H d v/\RelV v u): ∃v,Den K α H (zRB K α H kds u) v/\RelV v u:=by
 unfold zRB
 rw [dif_pos h]
 obtain⟨v,_,h2,h3⟩:=Classical.choose_spec h
 exact⟨v,h2,h3⟩
theorem yEL(I:Inv X pins σ H s){kds:List MV}{kvs:List V}{ks:List Value}(hpu: ∀d,d∈kds->zEL d=true)(dk:DenL X.K α H kds kvs)(vk:Vals kvs ks){i:Nat}{u:Value}{a:MV}(hu:ks[i]? =some u)(ha:kds[i]? =some a):
  zRB X.K α H kds u=a:=by
 obtain⟨v,hv,da⟩:=dk.at ha
 obtain⟨u',hu',r⟩:=vk.get hv
 rw [hu]at hu';cases hu'
 have ma:a∈kds:=mem_of_getElem? ha
 have ne:kds≠[]:=λz=>by rw [z]at ma;cases ma
 obtain⟨v',d',r'⟩:=zMR (K:=X.K) (α:=α) (H:=H) ⟨a,v,ma,da,r⟩
 rw [r'.inj r]at d'
 exact zYR I (hpu _ (cW ne u)) (hpu a ma) d' da
end
section
variable{X:Cx}{α:List Addr}{S:Sto}{H:Hp}{pins:List (Addr×Obj)}{σ:St}{s:Shared}{k:Nat}{fa:Addr}{fd:FuncData}{ps:List Str}{Fd:List MV->Sto->R Er}
theorem yBK{ks its:List Value}{N:Nat}(h1:ks.length=N)(h2:its.length=N):(List.range N).map (λi=>((ks[i]?).getD .none,(its[i]?).getD .none))=ks.zip its:=by
 apply List.ext_getElem?
 intro i
 rw [getElem?_map]
 by_cases hi:i<N
 ·have e:(ks.zip its)[i]? =some (ks[i]'(by omega),its[i]'(by omega)):=by
   rw [List.getElem?_zip_eq_some]
   exact⟨gE0 _,gE0 _⟩
  rw [List.getElem?_range hi,e]
  show some ((ks[i]?).getD .none,(its[i]?).getD .none)=_
  rw [gE0 (by omega),gE0 (by omega)]
  rfl
 ·rw [List.getElem?_eq_none (by rw [length_range];omega),List.getElem?_eq_none (by rw [length_zip];omega)]
  rfl
theorem zMS{β:Type}{l:List β}{d:β}{idx:List Nat}(h: ∀i,i∈idx->i<l.length):idx.map (λi=>(l[i]?).getD d)=idx.filterMap (l[·]?):=by
 induction idx with
 |nil=>rfl
 |cons i idx ih=>
  have hi:=h i mF0
  rw [map_cons,filterMap_cons_some (gE0 hi),ih λj hj=>h j (mO _ hj),gE0 hi]
  rfl
end
def zYS(S:Sto)(ds kds r:List MV):Prop:= ∃idx:List Nat,idx.Perm (List.range ds.length)/\idx.Pairwise (λi j=> ∀a c,kds[i]? =some a->kds[j]? =some c->ltv S zM c a=some false)/\r=idx.filterMap (ds[·]?)
open Classical in
open Classical in
section
variable{X:Cx}{W:XW}{tg iter a:Expr}{f:AX}{af:Rho->Sto->R (List Er)}{e:Expr}{es:List Expr}{pos apos:Pos}
def Itq(K:PySem.W.Frag)(k:Bool)(a:Addr):It:=if k=true then Itl K a else Itt K a
def iSeq(K:PySem.W.Frag)(tl:TE):TI:=λσ H R=>tl σ H λx H1=> ∃k a,x=.ref a/\(∃xs,SqK k K H1 a xs)/\R (Itq K k a) H1
theorem yPE{l:Expr}{tl:TE}(hl:PE X l tl):PI X tg l (iSeq X.K tl):=by
 intro pins s σ H R I h
 refine thn (hl pins s σ H _ I h) λv s1 ⟨x,H1,I1,r1,q1⟩=>?_
 obtain⟨k,a,e,⟨xs,hq⟩,q⟩:=q1
 subst e
 cases r1
 cases k with
 |true=>
  obtain⟨its,rv,p,hz⟩:=I1.list (show SqL X.K H1 a xs from hq)
  refine wpAny_pyIter_list p.isList ?_
  refine⟨s1.heap.objs.size,[s1.heap.objs.size],_,_,H1,rfl,I1.kept (t':=s1.toks) λb o e=>hP0 _ e,zOJ a _,⟨_,Heap.get?_push_size _ rfl,rfl,rfl⟩,λb hb=>?_,q⟩
  have e:b=s1.heap.objs.size:=by simpa using hb
  subst e
  exact I1.fpOk (le_refl _) (I1.hok.fresh (le_refl _))
 |false=>
  obtain⟨its,rv,p,hz⟩:=I1.tuple (show SqT X.K H1 a xs from hq)
  refine wpAny_pyIter_tuple (show s1.heap.IsTuple a its.toArray from p) ?_
  refine⟨s1.heap.objs.size,[s1.heap.objs.size],_,_,H1,rfl,I1.kept (t':=s1.toks) λb o e=>hP0 _ e,zLO a _,⟨_,Heap.get?_push_size _ rfl,rfl,rfl⟩,λb hb=>?_,q⟩
  have e:b=s1.heap.objs.size:=by simpa using hb
  subst e
  exact I1.fpOk (le_refl _) (I1.hok.fresh (le_refl _))
def itQ(r:Er)(S:Sto):R Wk:=match srcOf S r with
 |some q=>.ok ⟨q.ds,q.gs⟩ S
 |none=>.no
theorem yPF(he:PEm X W iter f):PIm X W tg iter (λρ S=>(f ρ S).bind itQ):=by
 obtain⟨t,he,k⟩:=he
 refine⟨_,yPE he,λα ρ S σ H Rc wd sl q=>k α ρ S σ H _ wd sl (q.bind λu p S1 α1 H1 e x1 w1 d1 q1=>?_)⟩
 replace q1:=q1.shift x1
 unfold itQ at q1
 split at q1
 ·rename_i q e1
  obtain⟨l1,P1,rfl,p1,D1⟩:=yDO w1 e1 d1.1
  have g1:=D1.get _ _ _ p1
  refine⟨q.k,l1,rfl,⟨_,g1.choose_spec.1⟩,q1.here (u:=Itq X.K q.k l1) w1 ⟨λα S H=>P1 α S H,?_,p1,λα1 S1 H1 α2 S2 H2 b1 x w hs=>D1.stays _ _ _ _ _ _ b1 x w hs,D1.st _ _ _ p1⟩⟩
  intro i α2 S2 H2 b1 w2
  obtain⟨us,c1,c2⟩:=D1.get _ _ _ b1
  obtain⟨qk,qd,qg⟩:=q
  cases qk with
  |true=>
   obtain⟨i1,i2⟩:=zHQ (X:=X) (a:=l1) (ds:=qd) i α2 S2 H2 ⟨us,c1,c2⟩ w2
   refine⟨λhi=>⟨(i1 hi).1,λx H' y=>?_⟩,i2⟩
   obtain⟨j1,j2,j3,j4⟩:=(i1 hi).2 x H' y
   obtain⟨rfl,_⟩:=y
   exact⟨j1,j2,b1,j4⟩
  |false=>
   obtain⟨i1,i2⟩:=zXT (X:=X) (a:=l1) (ds:=qd) i α2 S2 H2 ⟨us,c1,c2⟩ w2
   refine⟨λhi=>⟨(i1 hi).1,λx H' y=>?_⟩,i2⟩
   obtain⟨j1,j2,j3,j4⟩:=(i1 hi).2 x H' y
   obtain⟨rfl,_⟩:=y
   exact⟨j1,j2,b1,j4⟩
 ·exact q1.elim
theorem DenL.eraseIdx{K:PySem.W.Frag}{α:List Addr}{H:Hp}: ∀{ds:List MV}{vs:List V}(n:Nat),DenL K α H ds vs->DenL K α H (ds.eraseIdx n) (vs.eraseIdx n)
 |[],_,_,q=>by rw [q.isnil];exact yI
 |d::ds,_,0,q=>by
  obtain⟨v,r,rfl,_,l⟩:=q.uncons
  exact l
 |d::ds,_,n+1,q=>by
  obtain⟨v,r,rfl,a,l⟩:=q.uncons
  exact yG a (DenL.eraseIdx n l)
end
section
variable{X:Cx}{W:XW}{a b o i:Expr}{f g:AX}{pos:Pos}{pins:List (Addr×Obj)}{σ:St}{H:Hp}{s:Shared}{α:List Addr}
def zGN(kvs:List (Key×V))(k:Key)(v:V):List (Key×V):=if(kvs.any λkv=>decide (kv.1=k))=true then kvs.map (λkv=>if kv.1=k then(kv.1,v)else kv)else kvs++[(k,v)]
theorem zMT(kvs:List (Key×V))(k:Key)(v:V):(zGN kvs k v).length<=kvs.length+1:=by
 unfold zGN
 split
 ·rw [lM];exact le_succ _
 ·rw [lA];exact le_refl _
theorem yPG{kvs:List (Key×V)}{vs:List (Key×Value)}(r:KV kvs vs)(k:Key):(kvs.any λkv=>decide (kv.1=k))=vs.any λkv=>decide (kv.1=k):=by
 unfold KV at r
 induction r with
 |nil=>rfl
 |cons h t ih=>rw [any_cons,any_cons,ih,h.1]
theorem yJJ{kvs:List (Key×V)}{vs:List (Key×Value)}(r:KV kvs vs)(k:Key){y:V}{u:Value}(ry:RelV y u):KV (kvs.map λkv=>if kv.1=k then(kv.1,y)else kv) (vs.map λkv=>if kv.1=k then(kv.1,u)else kv):=by
 unfold KV at r ⊢
 induction r with
 |nil=>exact .nil
 |@cons p q ps qs h t ih=>
  rw [map_cons,map_cons]
  refine .cons ?_ ih
  by_cases e:p.1=k
  ·rw [iP e,iP (h.1.symm.trans e)];exact⟨h.1,ry⟩
  ·rw [iN e,iN λz=>e (h.1.trans z)];exact h
theorem yJK{kvs:List (Key×V)}{vs:List (Key×Value)}(r:KV kvs vs){p:Key×V}{q:Key×Value}(h:p.1=q.1/\RelV p.2 q.2):KV (kvs++[p]) (vs++[q]):=by
 unfold KV at r ⊢
 induction r with
 |nil=>exact .cons h .nil
 |cons h' t ih=>exact .cons h' ih
theorem yEM{kvs:List (Key×V)}{vs:List (Key×Value)}(r:KV kvs vs)(k:Key){y:V}{u:Value}(ry:RelV y u):KV (zGN kvs k y) (stored vs k u):=by
 unfold zGN stored
 rw [yPG r k]
 by_cases e:(vs.any λkv=>decide (kv.1=k))=true
 ·rw [iP e,iP e];exact yJJ r k ry
 ·rw [iN e,iN e];exact yJK r ⟨rfl,ry⟩
theorem zRC{k:MV}{a b:Key}(h:KeyD k a)(h':KeyD k b):a=b:=by
 cases k with
 |int i=>exact Eq.trans (show a=.inl i from h) (show b=.inl i from h').symm
 |str x=>exact Eq.trans (show a=.inr (mkS x)from h) (show b=.inr (mkS x)from h').symm
 |_=>exact False.elim h
theorem zMU{k k':MV}{a:Key}(h:KeyD k a)(h':KeyD k' a):k=k':=by
 cases k with
 |int i=>
  have e:a=.inl i:=h
  subst e
  cases k' with
  |int j=>have e':(Sum.inl i:Key)=.inl j:=h';cases e';rfl
  |str y=>have e':(Sum.inl i:Key)=.inr (mkS y):=h';cases e'
  |_=>exact False.elim h'
 |str x=>
  have e:a=.inr (mkS x):=h
  subst e
  cases k' with
  |int j=>have e':(Sum.inr (mkS x):Key)=.inl j:=h';cases e'
  |str y=>
   have e':(Sum.inr (mkS x):Key)=.inr (mkS y):=h'
   injection e' with e'
   rw [zLA e']
  |_=>exact False.elim h'
 |_=>exact False.elim h
theorem zTU: ∀{kvs:List (MV×MV)}{ks:List (Key×V)}{k:MV}{k':Key},DenK X.K α H kvs ks->KeyD k k'->(ks.any λkv=>decide (kv.1=k'))=(look kvs k).isSome
 |_,_,k,k',.nil,hk=>rfl
 |_,_,k,k',.cons (k:=c) (k':=c') hc a l,hk=>by
  rw [zOZ,any_cons]
  by_cases h:c=k
  ·subst h
   rw [iP rfl,dT0 (zRC hc hk)];rfl
  ·have hn: ¬c'=k':=λz=>h (zMU hc (z.symm▸hk))
   rw [iN h,dF0 hn,Bool.false_or]
   exact zTU l hk
theorem zMV: ∀{kvs:List (MV×MV)}{ks:List (Key×V)}{k d:MV}{k':Key}{v:V},DenK X.K α H kvs ks->KeyD k k'->Den X.K α H d v->DenK X.K α H (kvs.map λp=>if p.1=k then(p.1,d)else p) (ks.map λkv=>if kv.1=k' then(kv.1,v)else kv)
 |_,_,k,d,k',v,.nil,hk,hd=>.nil
 |_,_,k,d,k',v,.cons (k:=c) (k':=c') hc a l,hk,hd=>by
  rw [map_cons,map_cons]
  by_cases h:c=k
  ·subst h
   rw [iP rfl,iP (zRC hc hk)]
   exact .cons hc hd (zMV l hk hd)
  ·have hn: ¬c'=k':=λz=>h (zMU hc (z.symm▸hk))
   rw [iN h,iN hn]
   exact .cons hc a (zMV l hk hd)
theorem DenK.append: ∀{kvs kvs':List (MV×MV)}{xs xs':List (Key×V)},DenK X.K α H kvs xs->DenK X.K α H kvs' xs'->DenK X.K α H (kvs++kvs') (xs++xs')
 |_,_,_,_,.nil,h=>h
 |_,_,_,_,.cons hk a l,h=>.cons hk a (DenK.append l h)
theorem DenK.length: ∀{kvs:List (MV×MV)}{xs:List (Key×V)},DenK X.K α H kvs xs->xs.length=kvs.length
 |_,_,.nil=>rfl
 |_,_,.cons _ _ l=>by rw [lC,lC,DenK.length l]
theorem zTV{kvs:List (MV×MV)}{ks:List (Key×V)}{k d:MV}{k':Key}{v:V}(l:DenK X.K α H kvs ks)(hk:KeyD k k')(hd:Den X.K α H d v):DenK X.K α H (zMK kvs k d) (zGN ks k' v):=by
 unfold zMK zGN
 rw [zTU l hk]
 by_cases h:(look kvs k).isSome=true
 ·rw [iP h,iP h];exact zMV l hk hd
 ·rw [iN h,iN h];exact l.append (.cons hk hd .nil)
def DK(X:Cx)(H:Hp)(d:Addr)(ks:List (Key×V)):Prop:=H d=some (.dK ks)\/(ks=[]/\H d=some (DN X.prog X.w d []))
theorem cX(I:Inv X pins σ H s){ks:List (Key×V)}{d:Addr}(h:DK X H d ks):ks.length<=sizeLine/\(d==sysModules)=false/\ ∃vs,KV ks vs/\s.heap.DictOf (yW X.prog X.w) d vs:=by
 rcases h with h|⟨rfl,h⟩
 ·exact(show ObjOk X.prog X.w H s.heap d (.dK ks)from I.hok d _ h)
 ·obtain⟨⟨hz,hs,o,es,ep,ho,hc,hd,he,hn⟩,_⟩:=(show ObjOk X.prog X.w H s.heap d (DN X.prog X.w d [])from I.hok d _ h)
  have he':es.toList=[]:=he
  refine⟨zero_le _,hs,[],.nil,o,es,ep,ho,hc,hd,λe hm=>?_,by rw [he'];exact .nil,nodup_nil⟩
  rw [<-Array.mem_toList_iff,he']at hm
  exact absurd hm (by simp)
theorem zMW:CallR X (.type "list") (λxs H Q=> ∃d ks,xs=[.ref d]/\DK X H d ks/\X.calm=true/\ ∀l,H l=none->Q (.ref l) (upd H l (.lst (ks.map λp=>kV p.1)))):=by
 intro pins s σ H xs us Q I r h
 obtain⟨d,ks,rfl,dd,hc,q⟩:=h
 obtain⟨u,rfl,rx⟩:=vals1 r
 cases rx
 obtain⟨z,hd,vs,rel,dm⟩:=cX I dd
 obtain⟨ep,hat⟩:=dm.dictAt
 have hl:ks.length=vs.length:=Paired.length rel
 refine PySem.W.kdl_call (PySem.W.kdl_dict (knd:=yW X.prog X.w) (kvs:=vs) (ep:=ep) hd) (I.ok.hd hc) hat (by omega) λh' tk acc c' hk hS hacc=>?_
 have rv:Vals (ks.map λp=>kV p.1) acc.toList:=by
  have key: ∀{ks:List (Key×V)}{vs:List (Key×Value)}{us:List Value},KV ks vs->us.length=vs.length->(∀(j:Nat)(v:Value),us[j]? =some v-> ∃(k:Key)(x:Value),vs[j]? =some (k,x)/\(yW X.prog X.w).is k v=true)->Vals (ks.map λp=>kV p.1) us:=by
   intro ks vs us kv
   unfold KV at kv
   induction kv generalizing us with
   |nil=>intro hl _;cases us with
    |nil=>exact .nil
    |cons a b=>simp at hl
   |@cons p q ps qs h t ih=>
    intro hl hv
    cases us with
    |nil=>simp at hl
    |cons a b=>
     obtain⟨k,x,e,hi⟩:=hv 0 a rfl
     simp only [List.getElem?_cons_zero,Option.some.injEq]at e
     subst e
     rw [map_cons]
     refine .cons ?_ (ih (by simpa using hl) λj v hj=>by simpa using hv (j+1) v (by simpa using hj))
     rw [h.1]
     rcases yN hi with⟨i,t,e1,e2⟩|⟨i,t,e1,e2⟩
     ·subst e2;rw [show k=.inl i from e1];exact⟨t,rfl⟩
     ·subst e2;rw [show k=.inr i from e1];exact⟨t,rfl⟩
  exact key rel (by rw [Array.length_toList];exact hacc.1) λj v e=>hacc.2 j v (by rw [<-Array.getElem?_toList];exact e)
 refine⟨.ref s.heap.objs.size,_,I.laid (t':=tk) hk (le_refl _) (show ObjOk X.prog X.w _ h' _ (.lst (ks.map λp=>kV p.1))from⟨by rw [lM];exact z,acc.toList,c',rv,?_⟩),rfl,q _ (I.hok.fresh (le_refl _))⟩
 rw [Array.toArray_toList]
 exact hS
theorem zJG: ∀{kvs:List (MV×MV)}{ks:List (Key×V)},DenK X.K α H kvs ks->DenL X.K α H (kvs.map (·.1)) (ks.map λp=>kV p.1)
 |_,_,.nil=>yI
 |_,_,.cons (k:=c) (k':=c') hc a l=>by
  refine yG ?_ (zJG l)
  cases c with
  |int i=>rw [show c'=.inl i from hc];exact xN i
  |str x=>rw [show c'=.inr (mkS x)from hc];exact nV x
  |_=>exact False.elim hc
end
section
variable{X:Cx}{W:XW}{o e:Expr}{es:List Expr}{f:AX}{af:Rho->Sto->R (List Er)}{apos pos:Pos}{to:TE}{t:TA}{T:String}{name:Str}{id:String}{r:V->List V->Hp->VK->Prop}
def zHY(X:Cx)(T:String)(TY:V->Hp->Prop):Prop:= ∀(pins:List (Addr×Obj))(s:Shared)(σ:St)(H:Hp)(x:V)(v:Value),Inv X pins σ H s->RelV x v->TY x H->s.TypeIs v T/\ ∀a,v=.ref a-> ∃ob,s.heap.get? a=some ob/\ob.dict=none
theorem yPH{TY:V->Hp->Prop}(hTY:zHY X T TY)(pa:PlainAttrs T)(slot:Slot T name id)(hty:typeOf (.builtin id)=pure (.type "method_descriptor"))(hm:MtR X id r)(ho:PE X o to)(ha:PA X (e::es) t)
  (hbase:attributeBase o name X.env (eval o X.env)=eval o X.env)
  (hfew:((backTo pos (starEach (e::es) X.env)).all (λx=>!x.1)&&(backToKw pos (keywordEach [] X.env)).all (λx=>x.1.isSome)
   &&decide ((e::es).length+([]:List Keyword).length+(if([]:List Keyword).isEmpty then 0 else 1)<30))=true)
  (hline:(apos.endLine==pos.line)=true) (hs:starEach (e::es) X.env=(false,eval e X.env)::starEach es X.env) (hplain:(backTo pos (starEach es X.env)).any (·.1)=false):
  PE X (.Call (.Attribute o name apos) (e::es) [] pos) (λσ H Q=>to σ H λx H1=>TY x H1/\t σ H1 λvs H2=>r x vs H2 Q):=by
 intro pins s σ H Q I h
 refine wpAny_Call_method_late hbase hfew hline rfl (thn (ho pins s σ H _ I h) λv s1 ⟨x,H1,I1,r1,ty,q1⟩=>?_)
 obtain⟨h1,h2⟩:=hTY pins s1 σ H1 x v I1 r1 ty
 refine⟨T,id,pa,slot,hty,h1,h2,?_⟩
 have hA:=ha pos pins s1 σ H1 _ I1 q1
 rw [hs]at hA ⊢
 refine Calls.callWith_builtin (by show(false || (backTo pos (starEach es X.env)).any (·.1))=false;rw [hplain]<;>rfl) (Calls.evalArgs_plain ?_)
 exact thn hA λus s2 ⟨vs,H2,I2,r2,q2⟩=>hm pins s2 σ H2 x vs v us Q I2 r1 r2 q2
end
def VAt(d:Addr)(us:List Value)(ep:Nat)(h:Heap):Prop:= ∃o es,h.get? d=some o/\o.ExactDict/\o.data=.dict es ep/\es.toList.map (·.val)=us
theorem VAt.at{d:Addr}{us:List Value}{ep:Nat}{h h':Heap}(x:VAt d us ep h)(m: ∀o,h.get? d=some o->h'.get? d=some o):VAt d us ep h':=let ⟨o,es,ho,r⟩:=x;⟨o,es,m o ho,r⟩
theorem VAt.size{d:Addr}{us:List Value}{ep:Nat}{h:Heap}(x:VAt d us ep h): ∃o es,h.get? d=some o/\o.ExactDict/\o.data=.dict es ep/\es.size=us.length/\ ∀i (hi:i<es.size),us[i]? =some es[i].val:=by
 obtain⟨o,es,ho,hc,hd,e⟩:=x
 refine⟨o,es,ho,hc,hd,by rw [<-e,lM,Array.length_toList],λi hi=>?_⟩
 rw [<-e,getElem?_map,Array.getElem?_toList,Array.getElem?_eq_getElem hi]
 rfl
end M
end L2
namespace L2
open PySem PySem.Spec PyProof.Rows
abbrev BIG:Nat:=10 ^ 100
section
variable{X:Cx}{par:Str}{i:Nat}{pins:List (Addr×Obj)}{σ:St}{H:Hp}
def tJ(i:Nat):TE:=λσ H Q=> ∃n,σ[i]? =some (some (.int n))/\n.natAbs<BIG/\ ∀y:Str,Q (.str y) H
end
namespace M
structure XIn(K:PySem.W.Frag)(M C f:Addr):Prop where
 ex: ∃nm q N bs sn sub ab col dd k0 k1 k2 k3 k5,K.lookup C=some (excClassObj nm q C N bs (.ref M::bmV) true sn sub ab col dd k0 k1 k2 k3 k5 "ValueError.__new__")/\PySem.W.nsOkIn K N=true/\PySem.W.nsIn K N "__init__"=some (some (.ref f))/\ ∀n∈qn,PySem.W.nsIn K N n=some none
 fo: ∃o,K.lookup f=some o/\o.cls=.type "function"
theorem XIn.cl{K:PySem.W.Frag}{M C f:Addr}(x:XIn K M C f):XCl K C (.ref M::bmV) (some (.ref f)):=by
 obtain⟨nm,q,N,bs,sn,sub,ab,col,dd,k0,k1,k2,k3,k5,a,b,c,d⟩:=x.ex
 exact⟨nm,q,N,bs,true,sn,sub,ab,col,dd,k0,k1,k2,k3,k5,a,b,c,d,rfl⟩
structure DefM(K:PySem.W.Frag)(mg:Str->Option Value)(x:Str)(st:Stmt):Prop where
 ex: ∃f fd,mg x=some (.ref f)/\Fun K x x st f fd
theorem def_mk{K:PySem.W.Frag}{mg:Str->Option Value}{h:Heap}{x:Str}{st:Stmt}{g:Addr}{od an:Option Addr}{sl:Array (Option Value)}{oc kV dc pm cd ct:Value}(a:PySem.W.nsIn K mainGlobals x=some (some (.ref g)))
  (l:K.lookup g=some ⟨oc,od,.func (PySem.W.fnOf x x (zDG st) (nU st) (zH st) .none kV dc pm an cd ct),sl⟩) (c:PySem.W.codeIn K cd x=true) (k:PySem.W.keepIn K (.ref g)=true) (X:K.In h) (GG:h.Ns mainGlobals mg):DefM K mg x st:=⟨_,_,PySem.W.mg_of X GG a,yNH l c k⟩
structure Cal(P:Program)(w:World)(K:PySem.W.Frag)(mg:Str->Option Value)(base:Heap)(CX:CXT)(x:Str)(k:Nat)(ps:List Str)(sp:Sp):Prop where
 ex: ∃fa fd,FnOk P w K mg base CX k fa fd ps sp/\mg x=some (.ref fa)/\PySem.W.keepIn K (.ref fa)=true/\Binds K fd ps []
abbrev CalM(P:Program)(w:World)(K:PySem.W.Frag)(mg:Str->Option Value)(base:Heap)(x:Str)(k n:Nat)(ps:List Str)(F:List MV->Sto->R Er):Prop:=Cal P w K mg base CX0 x k ps (spM ⟨K,mg,P,w⟩ n F)
abbrev CalX(P:Program)(w:World)(K:PySem.W.Frag)(mg:Str->Option Value)(base:Heap)(x:Str)(k n:Nat)(ps:List Str)(F:List MV->Sto->R Er):Prop:=Cal P w K mg base (CXe P w) x k ps (spX ⟨K,mg,P,w⟩ n F)
section
variable{P:Program}{w:World}{K:PySem.W.Frag}{mg:Str->Option Value}{base:Heap}{x:Str}{st:Stmt}{N ps:List Str}{k n:Nat}{F:List MV->Sto->R Er}
abbrev yPI(x:Str)(st:Stmt)(ps:List Str):Prop:= ∀(kV doc pm:Value)(an:Option Addr)(cdv ct:Value)(us:List Value),us.length=ps.length->bindArgs (PySem.W.fnOf x x (zDG st) (nU st) (zH st) .none kV doc pm an cdv ct) ⟨us,[]⟩=pure (ps.zip us)
theorem okC(D:DefM K mg x st)(hb:yPI x st ps)(h: ∀f fd,Fun K x x st f fd->FnOk P w K mg base CX0 k f fd ps (spM ⟨K,mg,P,w⟩ n F)):CalM P w K mg base x k n ps F:=
 let ⟨f,fd,m,Fu⟩:=D.ex;⟨f,fd,h f fd Fu,m,Fu.kp,Fu.binds hb⟩
theorem Cal.noX(G:CalX P w K mg base x k n ps F):CalM P w K mg base x k n ps F:=let ⟨fa,fd,G,m,kp,b⟩:=G.ex;⟨fa,fd,G.noX,m,kp,b⟩
theorem yPJ{l:PySem.W.OpenLaw}{fa:Addr}{p:Str}(D:DefM K mg x st)(hfa:mg x=some (.ref fa))(hb: ∀(kV doc pm:Value)(an:Option Addr)(cdv ct:Value)(s:Shared)(v:Value),BindsTo s (PySem.W.fnOf x x (zDG st) (nU st) (zH st) .none kV doc pm an cdv ct) ⟨[v],[]⟩ [(p,v)])
  (h: ∀base f fd,Fun K x x st f fd->FnOk l.prog w K mg base CX0 k f fd [p] (spM ⟨K,mg,l.prog,w⟩ 1 F)):
  ∃fd:FuncData,(∀(s:Shared)(v:Value),BindsTo s fd ⟨[v],[]⟩ [(p,v)])/\ ∀base:Heap,K.In base->base.Ns mainGlobals mg->FnOk l.prog w K mg base CX0 k fa fd [p] (zOX K F):=by
 obtain⟨f,fd,m,Fu⟩:=D.ex
 rw [hfa]at m
 cases m
 refine⟨fd,?_,λbase _ _=>(h base fa fd Fu).imp λvs H Q E=>yDP (g:=⟨K,mg,l.prog,w⟩) vs H Q E⟩
 obtain⟨_,_,_,_,_,_,_,_,_,rfl,_,_⟩:=Fu.ex
 exact hb _ _ _ _ _ _
end
section
variable{X:Cx}{W:XW}{E:XK}{e:Expr}{es:List Expr}{af:Rho->Sto->R (List Er)}{k n:Nat}{ps:List Str}{F:List MV->Sto->R Er}{x:Str}{p pos:Pos}
theorem zP(G:CalM X.prog X.w X.K X.mg X.base x k n ps F)(hr:Room k X.A)(hg:Gl X x)(ha:PAm X W (e::es) af)(hdb:(x==("__debug__":Str))=false:=by decide)
  (he:starEach (e::es) X.env=(false,eval e X.env)::starEach es X.env:=by rfl) (hpl:(backTo pos (starEach es X.env)).any (·.1)=false:=by rfl):PEm X W (.Call (.Name x p) (e::es) [] pos) (λρ S=>(af ρ S).bind λrs S1=>zZ n F rs S1):=
 let ⟨_,_,G,m,kp,b⟩:=G.ex;yHY G hr hg m kp b ha hdb he hpl
variable{M:Addr}{cs:List (Str×Addr)}{i j:Nat}{nm y:Str}{Fh:AY}{b0:Stmt}{suite:List Stmt}{mp hpos cpos epos pos':Pos}{ns:List Str}
end
end M
end L2
namespace L2
open PySem PySem.Spec PyProof.Rows
structure RoomH(k:Nat)(A:Around):Prop where
 dp:A.depth+3 * k+5<recursionLimit
 un:A.units+16 * k+200<cLine
theorem RoomH.depth{k:Nat}{A:Around}(r:RoomH k A):A.depth<recursionLimit:=by have:=r.dp;omega
theorem RoomH.units{k:Nat}{A:Around}(r:RoomH k A):A.units+64<cLine:=by have:=r.un;omega
structure FnOkH(P:Program)(w:World)(K:PySem.W.Frag)(mg:Str->Option Value)(base:Heap)(k:Nat)(f:Addr)(fd:FuncData)(ps:List Str)(sp:Sp):Prop where
 len: ∀vs H Q E,sp vs H Q E->vs.length=ps.length
 run: ∀(A:Around)(outer:List Env)(s:Shared)(H:Hp)(args:Args)(us:List Value)(vs:List V)(Q:VK)(E:XK),RoomH k A->Env0 P w K mg base A outer s H->BindsTo s fd args (ps.zip us)->Vals vs us->sp vs H Q E->
  codeAny (model P w) A (.call (.ref f) args) (CR CX0 outer P w H s Q E) s
namespace M
section
variable{P:Program}{w:World}{K:PySem.W.Frag}{mg:Str->Option Value}{base:Heap}{x:Str}{st:Stmt}{N ps:List Str}{k n:Nat}{F:List MV->Sto->R Er}
structure CalH(P:Program)(w:World)(K:PySem.W.Frag)(mg:Str->Option Value)(base:Heap)(x:Str)(k n:Nat)(ps:List Str)(F:List MV->Sto->R Er):Prop where
 ex: ∃fa fd,FnOkH P w K mg base k fa fd ps (spM ⟨K,mg,P,w⟩ n F)/\mg x=some (.ref fa)/\PySem.W.keepIn K (.ref fa)=true/\Binds K fd ps []
end
def maxF:List Er->Sto->R Er
 |[.val (.int i),.val (.int j)],S=>.ok (.val (.int (if j>i then j else i))) S
 |_,_=>.no
def zWT:List Er->Sto->R Er
 |[.val (.int i),.val (.int j)],S=>.ok (.val (.int (if j<i then j else i))) S
 |_,_=>.no
section
variable{X:Cx}{W:XW}
theorem yEN:zCT X W (λxs H Q=> ∃i j,xs=[.int i,.int j]/\Q (.int (if j<i then j else i)) H) zWT:=by
 intro rs vs α S H Q wd d post
 unfold zWT at post
 split at post
 ·obtain⟨v,u,rfl,dv,du⟩:=argx2 d
  cases yX dv
  cases yX du
  exact⟨_,_,rfl,Post.val post wd (xN _)⟩
 ·exact post.elim
end
theorem yEO:bootBuiltins "min"=some (.builtin "min"):=by decide+kernel
section
variable{X:Cx}{W:XW}{o e:Expr}{es:List Expr}{f:AX}{af:Rho->Sto->R (List Er)}{apos pos:Pos}
def lit3F(kvs:List (MV×MV))(S:Sto):R Er:=.ok (.val (.loc S.length)) (S++[.dic kvs])
end
section
variable{X:Cx}{W:XW}{o e:Expr}{es:List Expr}{f:AX}{af:Rho->Sto->R (List Er)}{apos pos:Pos}
def zCY(ks:List (Key×V))(k:Key):Option V:=(ks.find? λp=>decide (p.1=k)).map (·.2)
theorem zYT: ∀{ks:List (Key×V)}{vs:List (Key×Value)}(r:KV ks vs)(k:Key),(∀v,zCY ks k=some v-> ∃u,valueAt vs k=some u/\RelV v u)/\(zCY ks k=none->valueAt vs k=none)
 |_,_,.nil,k=>⟨λv h=>(nomatch h),λ_=>rfl⟩
 |(a,x)::ks,(b,u)::vs,.cons ⟨h1,h2⟩ l,k=>by
  cases (show a=b from h1)
  have ih:=zYT l k
  unfold zCY valueAt
  by_cases c:a=k
  ·simp only [find?_cons,c,decide_true,Option.map_some]
   exact⟨λv h=>⟨u,rfl,by cases h;exact h2⟩,λh=>nomatch h⟩
  ·simp only [find?_cons,c,decide_false]
   exact ih
theorem zPD{α:List Addr}{H:Hp}: ∀{kvs:List (MV×MV)}{ks:List (Key×V)}{k:MV}{k':Key},DenK X.K α H kvs ks->KeyD k k'->(∀d,look kvs k=some d-> ∃v,zCY ks k'=some v/\Den X.K α H d v)/\(look kvs k=none->zCY ks k'=none)
 |_,_,_,_,.nil,_=>⟨λd h=>(nomatch h),λ_=>rfl⟩
 |_,_,k,k',.cons (k:=k0) (k':=k0') (d:=d0) (v:=v0) h1 h2 l,hk=>by
  have ih:=zPD l hk
  rw [zOZ]
  unfold zCY
  by_cases c:k0=k
  ·subst c
   have:=zRC h1 hk
   simp only [find?_cons,this,decide_true,Option.map_some,iP rfl]
   exact⟨λd h=>⟨v0,rfl,by cases h;exact h2⟩,λh=>nomatch h⟩
  ·have hn: ¬k0'=k':=λz=>c (zMU h1 (z▸hk))
   simp only [find?_cons,hn,decide_false,iN c]
   exact ih
def TyK(X:Cx)(x:V)(H:Hp):Prop:= ∃d ks,x=.ref d/\DK X H d ks
theorem yEP:zHY X "dict" (TyK X):=by
 intro pins s σ H x v I rx ⟨d,ks,e,dd⟩
 subst e
 cases rx
 obtain⟨_,hs,vs,kv,o,es,ep,ho,hc,_⟩:=cX I dd
 exact⟨⟨o,ho,hc.1⟩,λa e=>by cases e;exact⟨o,ho,hc.2.1⟩⟩
end
noncomputable section
variable{α β:Type}
def vJ(i:Nat)(ρ:Rho)(S:Sto):R Er:=rdSl (ρ[i]?) S
def kJ(d:MV)(_:Rho)(S:Sto):R Er:=.ok (.val d) S
def bJ(f:Rho->Sto->R α)(F:α->Sto->R β)(ρ:Rho)(S:Sto):R β:=(f ρ S).bind F
def dJ(F:Er->Er->Sto->R Er)(f g:AX)(ρ:Rho)(S:Sto):R Er:=(f ρ S).bind λp S=>(g ρ S).bind λq S=>F p q S
def nJ(f:AX)(ρ:Rho)(S:Sto):R Er:=(f ρ S).bind λp S=>(asB p S).bind λk S=>.ok (.val (.bl !k)) S
def aJ(f g:AX)(ρ:Rho)(S:Sto):R Er:=(f ρ S).bind λp S=>andF p S λS=>g ρ S
def oJ(f g:AX)(ρ:Rho)(S:Sto):R Er:=(f ρ S).bind λp S=>orF p S λS=>g ρ S
def iJ(c:AZ)(f g:Rho->Sto->R α)(ρ:Rho)(S:Sto):R α:=(c ρ S).bind λk S=>if k=true then f ρ S else g ρ S
def mJ(_:Rho)(S:Sto):R (Option Int):=.ok none S
def tJ(F:Er->Option Int->Option Int->Sto->R Er)(f:AX)(g h:Rho->Sto->R (Option Int))(ρ:Rho)(S:Sto):R Er:=(f ρ S).bind λp S=>(g ρ S).bind λl S=>(h ρ S).bind λu S=>F p l u S
def lJ(k:List (MV×MV))(_:Rho)(S:Sto):R Er:=lit3F k S
def zJ(_:Rho)(S:Sto):R Er:=zTL S
def fJ(n:Nat)(F:List MV->Sto->R Er)(a:Rho->Sto->R (List Er))(ρ:Rho)(S:Sto):R Er:=(a ρ S).bind λr S=>zZ n F r S
def xJ(n:Nat)(F:List MV->Sto->R Er)(a:Rho->Sto->R (List Er))(ρ:Rho)(S:Sto):R Er:=(a ρ S).bind λr S=>zYE n F r S
def hJ(F:List MV->Sto->R Er)(_:Rho)(S:Sto):R Er:=zZ 0 F [] S
def eJ(t:Er->Sto->Bool)(F:Er->List Er->Sto->R Er)(f:AX)(a:Rho->Sto->R (List Er))(ρ:Rho)(S:Sto):R Er:=(f ρ S).bind λp S=>if t p S=true then(a ρ S).bind λr S=>F p r S else .no
def gJ(t:Er->Sto->Bool)(F:Er->List Er->Sto->R Er)(f:AX)(ρ:Rho)(S:Sto):R Er:=(f ρ S).bind λp S=>if t p S=true then F p [] S else .no
def uJ(_:Rho)(S:Sto):R Bool:=.ok true S
def pJ(i:Rho->Sto->R Wk)(g:MV->Rho->Sto->R Rho)(c:AZ)(e:AX)(n:Nat)(I:List Nat)(ρ:Rho)(S:Sto):R Er:=(i ρ S).bind λk S=>if k.ds.length<1000000 then(xE g c e (blk n I ρ) k.gs k.ds S).bind λo S=>.ok (.new o) S else .no
def jJ(F G:Er->Er->Sto->R Er)(f g h:AX)(ρ:Rho)(S:Sto):R Er:=(f ρ S).bind λp S=>(g ρ S).bind λq S=>chF F G p q S λS=>h ρ S
def qJ(f:AZ)(ρ:Rho)(S:Sto):R Bool:=(f ρ S).bind λk S=>.ok (!k) S
def rJ(f g:AZ)(ρ:Rho)(S:Sto):R Bool:=(f ρ S).bind λk S=>if k=true then g ρ S else .ok false S
def sJ(f g:AZ)(ρ:Rho)(S:Sto):R Bool:=(f ρ S).bind λk S=>if k=true then .ok true S else g ρ S
def wJ(_:Rho)(S:Sto):R (List Er):=.ok [] S
def yJ(f:AX)(g:Rho->Sto->R (List Er))(ρ:Rho)(S:Sto):R (List Er):=(f ρ S).bind λp S=>(g ρ S).bind λl S=>.ok (p::l) S
def AJ(f:AX)(ρ:Rho)(S:Sto):R Fl:=(f ρ S).bind λr S=>.ok (.ret r) S
def BJ(f:AX)(ρ:Rho)(S:Sto):R Fl:=(f ρ S).bind λ_ S=>.ok (.next ρ) S
def CJ(f:AX)(i:Nat)(ρ:Rho)(S:Sto):R Fl:=(f ρ S).bind (zQM ρ i)
def DJ(F:Er->Er->MV->Rho->Sto->R Rho)(f g:AX)(d:MV)(ρ:Rho)(S:Sto):R Rho:=(f ρ S).bind λp S=>(g ρ S).bind λq S=>F p q d ρ S
def EJ(f:AX)(g:MV->Rho->Sto->R Rho)(ρ:Rho)(S:Sto):R Fl:=(f ρ S).bind (asgF g ρ)
def FJ(i:Rho->Sto->R Wk)(g:MV->Rho->Sto->R Rho)(b:AY)(ρ:Rho)(S:Sto):R Fl:=(i ρ S).bind λk S=>wK g b k.gs k.ds ρ S
def GJ(a:Rho->Sto->R (List Er))(c:Str)(ρ:Rho)(S:Sto):R Fl:=(a ρ S).bind λr S=>if r.length<=10 then .exc c [] S else .no
def HJ(cs:List Str)(i:Nat)(h:AY)(n:Nat)(F:List MV->Sto->R Er)(a:Rho->Sto->R (List Er))(ρ:Rho)(S:Sto):R Fl:=(noX (a ρ S)).bind λr S=>tryF cs i (λ_ S=>.ok (.next ρ) S) h ρ (zYE n F r S)
def IJ(cs:List Str)(i j:Nat)(h:AY)(n:Nat)(F:List MV->Sto->R Er)(a:Rho->Sto->R (List Er))(ρ:Rho)(S:Sto):R Fl:=(noX (a ρ S)).bind λr S=>tryF cs i (zQM ρ j) h ρ (zYE n F r S)
def JJ(ρ:Rho)(S:Sto):R Fl:=.ok (.next ρ) S
end
section
variable{X:Cx}{W:XW}{a e:Expr}{tg:Expr}{p pos:Pos}{ta:TA}{f:AX}{af:Rho->Sto->R (List Er)}
def augF(F:Er->Er->Sto->R Er)(i:Nat)(f:AX)(ρ:Rho)(S:Sto):R Fl:=(rdSl (ρ[i]?) S).bind λp S1=>(f ρ S1).bind λq S2=>(F p q S2).bind (zQM ρ i)
theorem zMX:bootBuiltins "sorted"=some (.builtin "sorted"):=by decide+kernel
end
section
variable{X:Cx}{W:XW}{M:Addr}{cs:List (Str×Addr)}{i:Nat}{nm:Str}{Fh:AY}{b0:Stmt}{suite:List Stmt}{mp hpos cpos epos pos p:Pos}{e:Expr}{es:List Expr}{af:Rho->Sto->R (List Er)}{k n:Nat}{fa:Addr}{fd:FuncData}{ps:List Str}{F:List MV->Sto->R Er}{x:Str}{ns:List Str}
def TB(X:Cx)(W:XW)(ns:List Str)(i:Nat)(Fh:AY)(hs:List ExceptHandler)(st:Stmt)(bf:AX):Prop:=
 ∀α ρ S σ H D pins s,Wd X.g α S H->Slots X.K α H ρ σ->PostS X.g W α H D (tryF ns i (λ_ S2=>.ok (.next ρ) S2) Fh ρ (bf ρ S))->Inv X pins σ H s->
  wpAny (model X.prog X.w) X.A (exec st X.env) (λf s'=>f=Flow.next/\ ∃H',Inv X pins σ H' s'/\D.nx σ H')
   (λx s1=>wpAny (model X.prog X.w) X.A (noteFrame x X.env) (λ_ s₂=>wpAny (model X.prog X.w) X.A (setFlight x none) (λ_ s₃=>wpAny (model X.prog X.w) X.A (handleBy x X.env hs) (SP X pins D) X.xe s₃) X.xe s₂) X.xe s1) s
end
noncomputable section
def KJ(n:Nat)(F:List MV->Sto->R Er)(a:Rho->Sto->R (List Er))(ρ:Rho)(S:Sto):R Er:=(noX (a ρ S)).bind λr S=>zYE n F r S
def LJ(c:AZ)(f g:AX)(ρ:Rho)(S:Sto):R Er:=(noX (c ρ S)).bind λk S=>if k=true then f ρ S else g ρ S
def MJ(cs:List Str)(i:Nat)(h:AY)(f:AX)(ρ:Rho)(S:Sto):R Fl:=tryF cs i (λ_ S=>.ok (.next ρ) S) h ρ (f ρ S)
end
end M
end L2
namespace L2
open PySem PySem.Spec PyProof.Rows
namespace M
section
variable{X:Cx}{W:XW}{a e:Expr}{es:List Expr}{f g:AX}{af:Rho->Sto->R (List Er)}{pos apos p p2:Pos}{fld m:Str}
noncomputable def selM(m:Str)(l:List (Str×(List MV->Sto->R Er))):Er->Option (List MV->Sto->R Er)
 |.val (.obj c ns _)=>if m∈ns then none else l.lookup c
 |_=>none
noncomputable def NJ(m:Str)(n:Nat)(l:List (Str×(List MV->Sto->R Er)))(f:AX)(af:Rho->Sto->R (List Er))(ρ:Rho)(S:Sto):R Er:=(f ρ S).bind λp S=>match selM m l p with
 |some F=>(af ρ S).bind λr S=>zZ n F (p::r) S
 |none=>.no
end
def dU:List MV->Option (List (List Nat))
 |[]=>some []
 |.str x::ds=>(dU ds).map (x::·)
 |_::_=>none
theorem zYU{K:PySem.W.Frag}{α:List Addr}{H:Hp}: ∀{ds:List MV}{zs:List (List Nat)}{vs:List V}{us:List Value},dU ds=some zs->DenL K α H ds vs->Vals vs us-> ∃l:List (Str×Tok),us=strValues l/\l.map (·.1)=zs.map mkS
 |[],zs,vs,us,e,d,r=>by
  cases e
  rw [d.isnil]at r
  cases r
  exact⟨[],rfl,rfl⟩
 |x::ds,zs,vs,us,e,d,r=>by
  obtain⟨v,r',rfl,d1,d2⟩:=d.uncons
  cases r with
  |cons a b=>
   cases x<;>first |(cases e)|skip
   rename_i i
   unfold dU at e
   cases z:dU ds with
   |none=>rw [z]at e;cases e
   |some ms=>
    rw [z]at e
    cases e
    cases wC d1
    obtain⟨t,rfl⟩:=a
    obtain⟨l,rfl,hl⟩:=zYU z d2 b
    exact⟨(mkS i,t)::l,rfl,by rw [map_cons,hl];rfl⟩
section
variable{X:Cx}{W:XW}{a e:Expr}{es:List Expr}{pos apos:Pos}{f:AX}{af:Rho->Sto->R (List Er)}
def extF:Er->List Er->Sto->R Er
 |p,[r],S=>match lsW S r with
  |some zs=>zHW p S λds=>if ds.length+zs.length<=sizeLine then some (ds++zs)else none
  |none=>.no
 |_,_,_=>.no
theorem yBL:zWD X W zXO extF:=by
 intro p rs x vs α S H0 H Q α0 wd x0 dp da post
 match rs,da,post with
 |[],_,post=>exact post.elim
 |_::_::_,_,post=>exact post.elim
 |[r],da,post=>
  have post:Post X.g W α0 H0 (match lsW S r with |some zs=>zHW p S λds=>if ds.length+zs.length<=sizeLine then some (ds++zs)else none|none=>.no) Q:=post
  split at post
  ·rename_i zs hz
   obtain⟨v,rfl,dv⟩:=zXU da
   obtain⟨b,us,rfl,hb,lb⟩:=zQO wd hz dv
   obtain⟨c,ws,ds,es,rfl,h1,l1,eg,k⟩:=zIZ wd x0 dp post
   split at eg
   ·rename_i hl
    cases eg
    exact⟨c,b,ws,us,rfl,rfl,h1,hb,by rw [l1.length,lb.length];exact hl,k _ (l1.append lb)⟩
   ·cases eg
  ·exact post.elim
theorem yBM(ho:PEm X W a f)(ha:PAm X W (e::es) af)
  (hbase:attributeBase a "extend" X.env (eval a X.env)=eval a X.env:=by rfl)
  (hfew:((backTo pos (starEach (e::es) X.env)).all (λx=>!x.1)&&(backToKw pos (keywordEach [] X.env)).all (λx=>x.1.isSome)
   &&decide ((e::es).length+([]:List Keyword).length+(if([]:List Keyword).isEmpty then 0 else 1)<30))=true:=by rfl)
  (hline:(apos.endLine==pos.line)=true:=by rfl) (hs:starEach (e::es) X.env=(false,eval e X.env)::starEach es X.env:=by rfl) (hplain:(backTo pos (starEach es X.env)).any (·.1)=false:=by rfl):
  PEm X W (.Call (.Attribute a "extend" apos) (e::es) [] pos) (λρ S=>(f ρ S).bind λp S1=>if jQ p S1=true then(af ρ S1).bind λrs S2=>extF p rs S2 else .no):=
 zXS PySem.F.plainAttrs_list PySem.F.slot_list_extend PySem.F.type_list_extend yAP yBL zQQ ho ha hbase hfew hline hs hplain
end
section
variable{X:Cx}{W:XW}{a e:Expr}{es:List Expr}{f:AX}{af:Rho->Sto->R (List Er)}{apos pos:Pos}
theorem zPE{K:PySem.W.Frag}{α:List Addr}{H:Hp}: ∀(ps:List (List Nat)),DenL K α H (ps.map MV.str) (ps.map λp=>V.str (mkS p))
 |[]=>yI
 |p::ps=>yG (nV p) (zPE ps)
end
section
variable{X:Cx}{α:List Addr}{S:Sto}{H:Hp}{pins:List (Addr×Obj)}{σ:St}{s:Shared}{k:Nat}{fa:Addr}{fd:FuncData}{ps:List Str}{Fd:List MV->Sto->R Er}
theorem args_sorted1(a:Value):argsOk "sorted" ⟨[a],[]⟩:=by unfold argsOk;kernel_rfl
theorem zWU(a:Value):argsOk "list.sort" ⟨[a],[]⟩:=by unfold argsOk;kernel_rfl
end
open Classical in
theorem _root_.L2.Room.u128{k:Nat}{A:Around}(r:Room k A):A.units+128<cLine:=by have:=r.un;omega
section
variable{X:Cx}{α:List Addr}{S:Sto}{H:Hp}{pins:List (Addr×Obj)}{σ:St}{s:Shared}{k:Nat}{fa:Addr}{fd:FuncData}{ps:List Str}{Fd:List MV->Sto->R Er}
def zPF(d:MV):Prop:= ∃x r,d=.tup (.int x::r)
theorem yJL(I:Inv X pins σ H s)(wd:Wd X.g α S H){A:Around}(hu:A.units+64<cLine){d f:MV}{x y:V}{u v:Value}{k:Bool}(kd:zPF d)(kf:zPF f)(h1:Den X.K α H d x)(h2:Den X.K α H f y)(rx:RelV x u)(ry:RelV y v)
  (h:ltv S zM d f=some k) (prog:Program) (w:World) (E:VP) (Q:Bool->Shared->Prop) (hq:Q k s):wpAny (model prog w) A (keyLt' (tuples' true) u v) Q E s:=by
 obtain⟨x1,r1,rfl⟩:=kd
 obtain⟨x2,r2,rfl⟩:=kf
 obtain⟨a1,vs1,its1,rfl,l1,v1,t1,_⟩:=zWS I h1 rx
 obtain⟨a2,vs2,its2,rfl,l2,v2,t2,_⟩:=zWS I h2 ry
 obtain⟨w1,q1,rfl,d1,m1⟩:=l1.uncons
 obtain⟨w2,q2,rfl,d2,m2⟩:=l2.uncons
 cases v1 with
 |@cons _ u1 _ us1 rv1 rr1=>
  cases v2 with
  |@cons _ u2 _ us2 rv2 rr2=>
   have h':(eqv S 39 (.int x1) (.int x2)).bind (λk=>if k=true then zWH (eqv S 39) (ltv S 39) r1 r2 else ltv S 39 (.int x1) (.int x2))=some k:=h
   have he:eqv S 39 (.int x1) (.int x2)=some (decide (x1=x2)):=zGC 38 x1 x2
   have ea:=zIW I wd 39 A _ _ _ _ _ _ _ (by omega) d1 d2 rv1 rv2 he
   cases xO d1
   cases xO d2
   obtain⟨tk1,rfl⟩:=rv1
   obtain⟨tk2,rfl⟩:=rv2
   rw [he]at h'
   refine Srt.wp_keyLtI t1 t2 ea ?_ hq
   cases hd:decide (x1=x2)with
   |true=>
    rw [hd]at h'
    rw [iP rfl]
    have h'':zWH (eqv S 39) (ltv S 39) r1 r2=some k:=h'
    exact lexRS (yDE (λd f x y u v k a b c d' e=>zIW I wd 39 A d f x y u v k (by omega) a b c d' e)
     (λd f x y u v k a b c d' e=>zWI I wd 39 A d f x y u v k (by omega) a b c d' e) m1 m2 rr1 rr2 h'')
   |false=>
    rw [hd]at h'
    rw [iN xF0]
    have h'':(some (decide (x1<x2)):Option Bool)=some k:=h'
    cases h''
    rfl
theorem cmp_i(I:Inv X pins σ H s)(wd:Wd X.g α S H){A:Around}(hu:A.units+64<cLine){kds:List MV}(hne:kds≠[])(hkind: ∀d,d∈kds->zPF d)(ho:OrdD S kds){E':VP}:
  Srt.Cmp (model X.prog X.w) A E' s (tuples' true) (λp=> ∃d v,d∈kds/\Den X.K α H d v/\RelV v p.1) (ltV X.K α H S kds) where
 go x y hx hy st hk Q hq:=by
  obtain⟨v1,d1,r1⟩:=zMR hx
  obtain⟨v2,d2,r2⟩:=zMR hy
  obtain⟨t,ht⟩:=ho.any _ (cW (K:=X.K) (α:=α) (H:=H) hne x.1) _ (cW (K:=X.K) (α:=α) (H:=H) hne y.1)
  have e:ltV X.K α H S kds x y=t:=by unfold ltV;rw [ht];rfl
  rw [e]at hq
  exact Srt.wp_lt hk (λE Q hq=>yJL I wd hu (hkind _ (cW hne x.1)) (hkind _ (cW hne y.1)) d1 d2 r1 r2 ht X.prog X.w E Q hq) hq
 tr x y z h1 h2:=by
  unfold ltV at h1 h2 ⊢
  have mx:=cW (K:=X.K) (α:=α) (H:=H) hne x.1
  have my:=cW (K:=X.K) (α:=α) (H:=H) hne y.1
  have mz:=cW (K:=X.K) (α:=α) (H:=H) hne z.1
  obtain⟨t1,e1⟩:=ho.any _ my _ mx
  obtain⟨t2,e2⟩:=ho.any _ mz _ my
  rw [e1]at h1;rw [e2]at h2
  have h1:t1=false:=h1
  have h2:t2=false:=h2
  subst h1 h2
  rw [ho.tr _ mx _ my _ mz e1 e2];rfl
 as x y h:=by
  unfold ltV at h ⊢
  have mx:=cW (K:=X.K) (α:=α) (H:=H) hne x.1
  have my:=cW (K:=X.K) (α:=α) (H:=H) hne y.1
  obtain⟨t1,e1⟩:=ho.any _ mx _ my
  rw [e1]at h
  have h:t1=true:=h
  subst h
  rw [ho.as _ mx _ my e1];rfl
theorem yPK(I:Inv X pins σ H s){A:Around}{kds:List MV}{kvs:List V}{ks:List Value}(hne:kds≠[])(hkind: ∀d,d∈kds->zPF d)(dk:DenL X.K α H kds kvs)(vk:Vals kvs ks){E':VP}:
  wpAny (model X.prog X.w) A (keyKind' ks.toArray) (λq s'=>s'=s/\q=tuples' true) E' s:=by
 have ne:ks≠[]:=λz=>by
  have h1:=vk.length;have h2:=dk.length
  rw [z]at h1
  exact hne (List.length_eq_zero_iff.mp (by rw [<-h2,h1];rfl))
 have all: ∀u,u∈ks-> ∃d v,d∈kds/\Den X.K α H d v/\RelV v u:=by
  intro u hu
  obtain⟨i,hi⟩:=getElem?_of_mem hu
  have hl:i<kvs.length:=by rw [vk.length];exact(gS0.mp hi).1
  obtain⟨u',h1,r⟩:=vk.get (gE0 hl)
  rw [hi]at h1;cases h1
  obtain⟨d,h2,h3⟩:=dk.get (gE0 hl)
  exact⟨d,_,mem_of_getElem? h2,h3,r⟩
 refine Srt.wp_kindI ne λu hu=>?_
 obtain⟨d,v,md,dd,r⟩:=all u hu
 obtain⟨x,rr,rfl⟩:=hkind d md
 obtain⟨a,vs,its,rfl,l,vv,t,_⟩:=zWS I dd r
 obtain⟨v1,r1,rfl,d1,_⟩:=l.uncons
 cases vv with
 |@cons _ u1 _ us1 rv rr'=>
  cases xO d1
  obtain⟨tk,rfl⟩:=rv
  exact⟨a,_,_,tk,us1,rfl,t,rfl⟩
end
section
variable{X:Cx}{α:List Addr}{S:Sto}{H:Hp}{pins:List (Addr×Obj)}{σ:St}{s:Shared}{k:Nat}{fa:Addr}{fd:FuncData}{ps:List Str}{Fd:List MV->Sto->R Er}
theorem yEQ(hu:X.A.units+128<cLine)(I:Inv X pins σ H s)(wd:Wd X.g α S H){l:Addr}{xs:List V}{ds:List MV}(hl:SqL X.K H l xs)(dl:DenL X.K α H ds xs)
  (hlen:ds.length<1000000) (hpu: ∀d,d∈ds->zEL d=true) (hkind: ∀d,d∈ds->zPF d) (hord:OrdD S ds) {Q:VK}
  (hQ: ∀(idx:List Nat)(p:Addr)(ys:List V),idx.Perm (List.range ds.length)->idx.Pairwise (λi j=> ∀a c,ds[i]? =some a->ds[j]? =some c->ltv S zM c a=some false)->H p=none->
   DenL X.K α H (idx.filterMap (ds[·]?)) ys->Q (.ref p) (upd H p (.lst ys))):wpAny (model X.prog X.w) X.A (call (.builtin "sorted") [.ref l]) (EP X pins σ Q) X.xe s:=by
 obtain⟨its,rv,⟨o,n0,e0,hc0,_,hd0⟩,_⟩:=I.list hl
 have isl:s.heap.IsList l its.toArray:=⟨o,e0,hc0,n0,hd0⟩
 have hil:its.length=ds.length:=by rw [<-rv.length,dl.length]
 have hln:=sizeLine_eq
 refine call_function_entry_kw kind_sorted plain_sorted entry_sorted (args_sorted1 _) ?_
 unfold Builtin.«sorted»
 refine wB0 (m:=checkCount "sorted" 1 1 _) (wP0 ?_)
 refine wB0 (collect_list isl ?_ (by omega))
 refine wB0 (wpAny_newList ?_)
 generalize hh1:(s.heap.push (seqObj "list" #[] 0)).update s.heap.objs.size (Obj.mapSeq (· ++its.toArray))=h1
 have hsz:h1.objs.size=s.heap.objs.size+1:=by rw [<-hh1,Heap.size_update,size_push']
 have k1: ∀b u,s.heap.get? b=some u->h1.get? b=some u:=λb u e=>by
  rw [<-hh1,Heap.get?_update_other _ _ (ne_of_gt (Heap.lt_size e))]
  exact hP0 _ e
 have hoL:(h1.push (seqObj "list" its.toArray 0)).get? h1.objs.size=some (seqObj "list" its.toArray 0):=Heap.get?_push_size _ rfl
 show wpAny _ _ _ _ _ {s with heap:=h1.push (seqObj "list" its.toArray 0)}
 dsimp only
 generalize hL:h1.objs.size=L at *
 have sL:s.heap.objs.size<=L:=by omega
 refine wB0 (wpAny_holding (wpAny_call_entry_kw slot_list_sort ⟨_,hoL,rfl⟩ entry_list_sort (Srt.sort_plain hoL (by omega) λs2 he2=>?_) (zWU _)))
 dsimp only at he2
 generalize hh2:h1.push (seqObj "list" its.toArray 0)=h2 at *
 have fL:zGX X pins H L:=I.fpOk sL (I.hok.fresh sL)
 have k3: ∀b u,s.heap.get? b=some u->s2.heap.get? b=some u:=λb u e=>by
  rw [he2]
  refine hP0 _ (hP0 _ ?_)
  rw [Heap.get?_update_other _ _ (ne_of_gt (lt_of_lt_of_le (Heap.lt_size e) sL)), <-hh2]
  exact hP0 _ (k1 b u e)
 have I3:Inv X pins σ H s2:=by
  have:=I.kept (h':=s2.heap) (t':=s.toks) k3
  rw [he2]at this ⊢
  exact this
 have hu':X.A.in1.in1.units+64<cLine:=by show X.A.units+1+1+64<cLine;omega
 obtain⟨q,gL⟩: ∃q,s2.heap.get? L=some (seqObj "list" #[] q):=by
  rw [he2]
  exact⟨_,hP0 _ (hP0 _ (get?_update_seq hoL (λ_=>#[])))⟩
 refine⟨tuples' true,(λp=> ∃d v,d∈ds/\Den X.K α H d v/\RelV v p.1),ltV X.K α H S ds,λhge=>?_,λout op os=>?_⟩
 ·have ne:ds≠[]:=λz=>by rw [hil,z]at hge;exact absurd hge (by decide)
  refine⟨yPK I3 ne hkind dl rv,cmp_i I3 wd hu' ne hkind hord,λp hp=>?_⟩
  have hp1:p.1∈its:=(of_mem_zip hp).1
  obtain⟨i,hi⟩:=getElem?_of_mem hp1
  have hl':i<xs.length:=by rw [rv.length];exact(gS0.mp hi).1
  obtain⟨u',h1',r⟩:=rv.get (gE0 hl')
  rw [hi]at h1';cases h1'
  obtain⟨d,h2',h3'⟩:=dl.get (gE0 hl')
  exact⟨d,_,mem_of_getElem? h2',h3',r⟩
 ·obtain⟨idx,ip,ie⟩:=zPC op.symm (List.range ds.length) (yBK hil hil)
  have ib: ∀i,i∈idx->i<ds.length:=λi hi=>mem_range.mp (ip.mem_iff.mp hi)
  have eo:out.map (·.2)=idx.filterMap (its[·]?):=by
   rw [<-ie,map_map]
   exact zMS λi hi=>by rw [hil];exact ib i hi
  have po:idx.Pairwise (λi j=> ∀a c,ds[i]? =some a->ds[j]? =some c->ltv S zM c a=some false):=by
   rw [<-ie,pairwise_map]at os
   refine List.Pairwise.imp_of_mem (λ{i j} hi hj h a c ha hc=>?_) os
   have ui:its[i]? =some (its[i]'(by rw [hil];exact ib i hi)):=gE0 _
   have uj:its[j]? =some (its[j]'(by rw [hil];exact ib j hj)):=gE0 _
   have h':(ltv S zM (zRB X.K α H ds ((its[j]?).getD .none)) (zRB X.K α H ds ((its[i]?).getD .none))).getD false=false:=h
   rw [ui,uj]at h'
   simp only [Option.getD_some]at h'
   rw [yEL I3 hpu dl rv ui ha,yEL I3 hpu dl rv uj hc]at h'
   obtain⟨t,ht⟩:=hord.any c (mem_of_getElem? hc) a (mem_of_getElem? ha)
   rw [ht]at h'
   have h':t=false:=h'
   rw [ht,h']
  have vy:=Vals.pick rv idx
  refine⟨_,rfl,wP0 ⟨_,rfl,.ref L,upd H L (.lst (idx.filterMap (xs[·]?))),?_,rfl,hQ idx L _ ip po (I.hok.fresh sL) (dl.pick idx)⟩⟩
  obtain⟨f0,f1,f2,f3,f4,f5⟩:=fL
  have I6:Inv X pins σ H {s2 with heap:=s2.heap.update L (Obj.mapSeq λ_=>(out.map (·.2)).toArray)}:=
   I3.turned (t':=s2.toks) (λb o hb e=>(Heap.get?_update_other _ _ (Ne.symm hb)).trans e) f0 f1 f3 f4 f5
  obtain⟨n',gL2⟩: ∃n',(s2.heap.update L (Obj.mapSeq λ_=>(out.map (·.2)).toArray)).get? L=some (seqObj "list" (idx.filterMap (its[·]?)).toArray n'):=⟨_,by
   have:=get?_update_seq gL (λ_=>(out.map (·.2)).toArray)
   rw [eo]at this ⊢
   exact this⟩
  refine yBJ (its:=idx.filterMap (its[·]?)) I6 ⟨f0,f1,f2,f3,f4,f5⟩ (le_trans I.sz sL) gL2 vy ?_
  ·have:=List.length_filterMap_le (xs[·]?) idx
   have h3:=ip.length_eq
   rw [length_range]at h3
   omega
end
structure SrtI(S:Sto)(ds:List MV):Prop where
 len:ds.length<1000000
 pu: ∀d,d∈ds->zEL d=true
 kind: ∀d,d∈ds->zPF d
 ord:OrdD S ds
open Classical in
noncomputable def zPG(rs:List Er)(S:Sto):R Er:=match rs with
 |[p]=>match jP S p with
  |some ds=>if h: ∃r,SrtI S ds/\ ∀r',zYS S ds ds r'->r'=r then .ok (.new (Classical.choose h)) S else .no
  |none=>.no
 |_=>.no
theorem zYV{p:Er}{S:Sto}{ds r:List MV}(e:jP S p=some ds)(ok:SrtI S ds)(u: ∀r',zYS S ds ds r'->r'=r)(ex:zYS S ds ds r):zPG [p] S=.ok (.new r) S:=by
 unfold zPG
 dsimp only
 rw [e]
 dsimp only
 have h: ∃r,SrtI S ds/\ ∀r',zYS S ds ds r'->r'=r:=⟨r,ok,u⟩
 rw [dif_pos h]
 obtain⟨_,u'⟩:=Classical.choose_spec h
 rw [<-u' r ex]
section
variable{X:Cx}{W:XW}
theorem yBN(hu:X.A.units+128<cLine):CallR X (.builtin "sorted") (λxs H Q=> ∃α S l vs ds,xs=[.ref l]/\Wd X.g α S H/\SqL X.K H l vs/\DenL X.K α H ds vs/\SrtI S ds/\
  ∀(idx:List Nat)(p:Addr)(ys:List V),idx.Perm (List.range ds.length)->idx.Pairwise (λi j=> ∀a c,ds[i]? =some a->ds[j]? =some c->ltv S zM c a=some false)->H p=none->DenL X.K α H (idx.filterMap (ds[·]?)) ys->Q (.ref p) (upd H p (.lst ys))):=by
 intro pins s σ H xs us Q I r h
 obtain⟨α,S,l,vs,ds,rfl,wd,hl,dl,ok,q⟩:=h
 obtain⟨u,rfl,rx⟩:=vals1 r
 cases rx
 exact yEQ hu I wd hl dl ok.len ok.pu ok.kind ok.ord q
theorem yJM:zCT X W (λxs H Q=> ∃α S l vs ds,xs=[.ref l]/\Wd X.g α S H/\SqL X.K H l vs/\DenL X.K α H ds vs/\SrtI S ds/\
  ∀(idx:List Nat)(p:Addr)(ys:List V),idx.Perm (List.range ds.length)->idx.Pairwise (λi j=> ∀a c,ds[i]? =some a->ds[j]? =some c->ltv S zM c a=some false)->H p=none->DenL X.K α H (idx.filterMap (ds[·]?)) ys->Q (.ref p) (upd H p (.lst ys))) zPG:=by
 intro rs vs α S H Q wd d post
 unfold zPG at post
 split at post
 ·split at post
  ·rename_i ds e
   split at post
   ·rename_i h
    obtain⟨v,rfl,dv⟩:=zAN d
    obtain⟨l,us,rfl,h1,h2⟩:=zGT rfl wd e dv
    obtain⟨ok,u⟩:=Classical.choose_spec h
    refine⟨α,S,l,us,ds,rfl,wd,h1,h2,ok,λidx p ys i1 i2 hp hd=>?_⟩
    have er:=u _ ⟨idx,i1,i2,rfl⟩
    rw [er]at hd
    exact Post.newl post wd hp hd
   ·exact post.elim
  ·exact post.elim
 ·exact post.elim
end
section
variable{X:Cx}{W:XW}{a b o i e:Expr}{es:List Expr}{f g:AX}{af:Rho->Sto->R (List Er)}{apos pos:Pos}{α:List Addr}{H:Hp}{pins:List (Addr×Obj)}{σ:St}{s:Shared}
def kyOf:MV->Option Key
 |.int i=>some (.inl i)
 |.str x=>some (.inr (mkS x))
 |_=>none
theorem ky_D: ∀{k:MV}{k':Key},kyOf k=some k'->KeyD k k'
 |.int i,_,h=>by cases h;exact rfl
 |.str x,_,h=>by cases h;exact rfl
 |.non,_,h=>nomatch h
 |.bl _,_,h=>nomatch h
 |.tup _,_,h=>nomatch h
 |.scr _,_,h=>nomatch h
 |.loc _,_,h=>nomatch h
 |.typ _,_,h=>nomatch h
 |.obj _ _ _,_,h=>nomatch h
theorem yER: ∀{k:MV}{k':Key}{v:V},kyOf k=some k'->Den X.K α H k v->v=kV k'
 |.int i,_,_,h,d=>by cases h;exact xO d
 |.str x,_,_,h,d=>by cases h;exact wC d
 |.non,_,_,h,_=>nomatch h
 |.bl _,_,_,h,_=>nomatch h
 |.tup _,_,_,h,_=>nomatch h
 |.scr _,_,_,h,_=>nomatch h
 |.loc _,_,_,h,_=>nomatch h
 |.typ _,_,_,h,_=>nomatch h
 |.obj _ _ _,_,_,h,_=>nomatch h
theorem zTW: ∀{k:Key}{u:Value},RelV (kV k) u->(yW X.prog X.w).is k u=true
 |.inl i,_,h=>by obtain⟨t,rfl⟩:=(h: ∃t,_=_);exact zSJ _ _ i t
 |.inr x,_,h=>by obtain⟨t,rfl⟩:=(h: ∃t,_=_);exact zSK _ _ x t
def zHZ(k:MV):Bool:=(kyOf k).isSome
theorem yLO{kvs:List (MV×MV)}{d:Addr}(ob:ObD X.g α H d (.dic kvs))(hk:kvs.all (λp=>zHZ p.1)=true): ∃ks,DK X H d ks/\DenK X.K α H kvs ks:=by
 rcases ob with⟨ks,h,l⟩|⟨xs,h,l⟩
 ·exact⟨ks,.inl h,l⟩
 ·cases l with
  |nil=>exact⟨[],.inr ⟨rfl,h⟩,.nil⟩
  |@cons k nk a d v u fs xs hn e ha hd r l=>
   rw [all_cons,aE]at hk
   obtain⟨k',hk'⟩:=Option.isSome_iff_exists.mp hk.1
   have:=yER hk' ha
   cases k'<;>cases this
noncomputable def zIA(S:Sto):Er->Option (Nat×List (MV×MV))
 |.val (.loc l)=>match S[l]? with
  |some (.dic kvs)=>if kvs.all (λp=>zHZ p.1)=true then some (l,kvs)else none
  |_=>none
 |_=>none
theorem dxo{S:Sto}(wd:Wd X.g α S H){r:Er}{x:V}{l:Nat}{kvs:List (MV×MV)}(e:zIA S r=some (l,kvs))(d:DenX X.K α H r x):
  ∃c ks,x=.ref c/\α[l]? =some c/\S[l]? =some (.dic kvs)/\DK X H c ks/\DenK X.K α H kvs ks/\kvs.all (λp=>zHZ p.1)=true:=by
 unfold zIA at e
 split at e
 ·rename_i n
  obtain⟨c,rfl,h⟩:=zCF d
  split at e
  ·rename_i ks hS
   split at e
   ·rename_i hk
    obtain⟨rfl,rfl⟩:=Prod.mk.inj (Option.some.inj e)
    obtain⟨xs,dd,l⟩:=yLO (wd.obj _ c _ h hS) hk
    exact⟨c,xs,rfl,h,hS,dd,l,hk⟩
   ·cases e
  ·cases e
 ·cases e
theorem zWV{ks:List (Key×V)}{d:Addr}(dd:DK X H d ks):Mut (H d):=by
 rcases dd with z|⟨_,z⟩<;>rw [z]<;>exact trivial
def rSetX(X:Cx):TSet:=λo i v H Q=> ∃(ks:List (Key×V))(d:Addr)(k:Key),o=.ref d/\i=kV k/\DK X H d ks/\ks.length<sizeLine/\Q (upd H d (.dK (zGN ks k v)))
theorem yBO:PSet X (rSetX X):=by
 intro pins s σ H o i v ov iv u Q I ro ri rv h
 obtain⟨ks,d,k,rfl,rfl,dd,hz,q⟩:=h
 cases ro
 obtain⟨z,hd,vs,rel,dm⟩:=cX I dd
 have hl:ks.length=vs.length:=Paired.length rel
 have hp:=zMT ks k v
 refine wpAny_setItem_pairs (knd:=yW X.prog X.w) (hsz:=by omega) (zTW ri) dm λh' dm' hs'=>⟨_,?_,q⟩
 have he: ∃q,h'.get? d=some q:=let ⟨q,_,_,hq,_⟩:=dm';⟨q,hq⟩
 exact I.write (t':=_) (x:=d) (e:=d) (zWV dd) (.inl rfl) (λb uo hb eo=>(hs'.2 b hb).trans eo) he ⟨by omega,hd,_,yEM rel _ rv,dm'⟩
noncomputable def zFC(p q:Er)(d:MV)(ρ:Rho)(S:Sto):R Rho:=match q with
 |.val k=>match zIA S p with
  |some (l,kvs)=>if zHZ k=true/\kvs.length<1000000 then .ok ρ (S.set l (.dic (zMK kvs k d)))else .no
  |none=>.no
 |_=>.no
theorem zLF(ho:PEm X W o f)(hi:PEm X W i g)
  (ha: ∀v,assign (.Subscript o i pos) X.env v=(do
   let ov <-holding [v] (eval o X.env)
   let iv <-holding [v,ov] (eval i X.env)
   standAt pos
   holding [v,ov,iv] (setItem ov iv v)
   release [v,ov,iv] []):=by intro _;rfl):PGm X W (.Subscript o i pos) (λd ρ S=>(f ρ S).bind λp S1=>(g ρ S1).bind λq S2=>zFC p q d ρ S2):=by
 obtain⟨to,ho,fo⟩:=ho
 obtain⟨ti,hi,fi⟩:=hi
 refine⟨_,yCF ho hi yBO ha,λα ρ S σ H d v Q wd sl de q=>fo α ρ S σ H _ wd sl (q.bind λu p S1 α1 H1 e1 x1 w1 d1 q1=>fi α1 ρ S1 σ H1 _ w1 (sl.ext x1) ((q1.shift x1).bind λu2 p2 S2 α2 H2 e2 x2 w2 d2 q2=>?_))⟩
 replace q2:=q2.shift x2
 have d1':=DenX.ext x2 d1.1
 have de2:=(de.ext x1).ext x2
 unfold zFC at q2
 split at q2
 ·rename_i k
  split at q2
  ·rename_i l kvs e
   split at q2
   ·rename_i hk
    obtain⟨c,ks,rfl,hc,hS,dd,dl,hall⟩:=dxo w2 e d1'
    obtain⟨k',hk'⟩:=Option.isSome_iff_exists.mp hk.1
    refine⟨ks,c,k',rfl,yER (X:=X) (α:=α2) (H:=H2) hk' d2.1,dd,?_,?_⟩
    ·rw [dl.length]
     exact lt_of_lt_of_le hk.2 (fits (le_refl _))
    ·have xw:=w2.writex hc (o:=.dK (zGN ks k' v))
     have sl2:=((sl.ext x1).ext x2).ext xw
     exact q2 σ α2 _ xw (w2.write hc (.inl ⟨_,yS,(zTV (k:=k) dl (ky_D hk') de2).ex0 xw.toEx0⟩)) sl2
   ·exact q2.elim
  ·exact q2.elim
 ·exact q2.elim
theorem yES{prog:Program}{w:World}{KK:Type}[DecidableEq KK]{knd:KeyKind prog w KK}{A:Around}{E:VP}{s:Shared}{d:Addr}{k:KK}{key:Value}{f:KK->Option Value}{Q:VP}(hkey:knd.is k key=true)(hd:(d==sysModules)=false)(hm:s.heap.MapOf knd d f)
  (h:Q (.bool !(f k).isSome) {s with toks:=s.toks+1}):wpAny (model prog w) A (compareOp .NotIn key (.ref d)) Q E s:=by
 show wpAny _ _ (do return .bool (!(<-contains (.ref d) key))) Q E s
 refine wB0 ?_
 unfold contains
 try with_reducible refine wpAny_holding ?_
 refine wB0 (wpAny_specialOf hm.typeIs slot_dict_contains.lookup ?_)
 show wpAny _ _ (if(some (Value.builtin "dict.__contains__")==some Value.none)=true then _ else _) _ E s
 rw [iN (by rw [beq_builtin_none];exact xF0)]
 refine wB0 (wpAny_callSpecialUnlessNone?_slot (name:=Str.ofString "__contains__") hm.typeIs slot_dict_contains
  (wpAny_call_entry slot_dict_contains hm.typeIs entry_dict_contains ?_ (args_dict_contains _ _)))
 show wpAny _ _ (dictGet d key >>= _) _ _ s
 refine wB0 (wpAny_dictGet_of hkey hm ?_)
 cases hf:f k with
 |some v=>
  rw [hf]at h
  show wpAny _ _ (ret (.bool true)) _ _ _
  exact wP0 ⟨_,rfl,wpAny_truthy_bool (wP0 h)⟩
 |none=>
  rw [hf]at h
  show wpAny _ _ (Builtin.Dict.pendingKey? d key >>= _) _ _ _
  exact wB0 (wpAny_pendingKey_other hd (wP0 ⟨_,rfl,wpAny_truthy_bool (wP0 h)⟩))
abbrev rInX(X:Cx)(neg:Bool):R2:=λx y H Q=> ∃(ks:List (Key×V))(d:Addr)(k:Key),x=kV k/\y=.ref d/\DK X H d ks/\
 Q (.bl (if neg=true then !(zCY ks k).isSome else(zCY ks k).isSome)) H
theorem look_same{ks:List (Key×V)}{vs:List (Key×Value)}(r:KV ks vs)(k:Key):(valueAt vs k).isSome=(zCY ks k).isSome:=by
 obtain⟨l1,l2⟩:=zYT r k
 cases h:zCY ks k with
 |none=>rw [l2 h];rfl
 |some v=>obtain⟨u,e,_⟩:=l1 v h;rw [e];rfl
theorem yET:OpR X (compareOp .In) (rInX X false):=by
 intro pins s σ H x y v u Q I rx ry h
 obtain⟨ks,d,k,rfl,rfl,dd,q⟩:=h
 cases ry
 obtain⟨_,hs,vs,rel,dm⟩:=cX I dd
 refine wpAny_in_of (knd:=yW X.prog X.w) (zTW rx) hs dm.mapOf ?_
 rw [look_same rel k]
 exact⟨.bl (zCY ks k).isSome,H,I.kept (t':=_) (λ_ _ z=>z),rfl,q⟩
theorem yBP:OpR X (compareOp .NotIn) (rInX X true):=by
 intro pins s σ H x y v u Q I rx ry h
 obtain⟨ks,d,k,rfl,rfl,dd,q⟩:=h
 cases ry
 obtain⟨_,hs,vs,rel,dm⟩:=cX I dd
 refine yES (knd:=yW X.prog X.w) (zTW rx) hs dm.mapOf ?_
 rw [look_same rel k]
 exact⟨.bl !(zCY ks k).isSome,H,I.kept (t':=_) (λ_ _ z=>z),rfl,q⟩
noncomputable def zJH(neg:Bool)(p q:Er)(S:Sto):R Er:=match p with
 |.val k=>match zIA S q with
  |some (_,kvs)=>if zHZ k=true then .ok (.val (.bl (if neg=true then !(look kvs k).isSome else(look kvs k).isSome))) S else .no
  |none=>.no
 |_=>.no
theorem yBQ{kvs:List (MV×MV)}{ks:List (Key×V)}{k:MV}{k':Key}(l:DenK X.K α H kvs ks)(hk:KeyD k k'):(zCY ks k').isSome=(look kvs k).isSome:=by
 obtain⟨g1,g2⟩:=zPD l hk
 cases h:look kvs k with
 |none=>rw [g2 h];rfl
 |some v=>obtain⟨u,e,_⟩:=g1 v h;rw [e];rfl
theorem zRD{neg:Bool}:Op2 X W (rInX X neg) (zJH neg):=by
 intro p q x y α S H Q wd dp dq post
 unfold zJH at post
 split at post
 ·rename_i k
  split at post
  ·rename_i l kvs e
   split at post
   ·rename_i hk
    obtain⟨c,ks,rfl,_,_,dd,dl,_⟩:=dxo wd e dq
    obtain⟨k',hk'⟩:=Option.isSome_iff_exists.mp hk
    refine⟨ks,c,k',yER (X:=X) (α:=α) (H:=H) hk' dp,rfl,dd,?_⟩
    rw [yBQ dl (ky_D hk')]
    exact Post.val post wd (gK _)
   ·exact post.elim
  ·exact post.elim
 ·exact post.elim
theorem yPL(ha:PEm X W a f)(hb:PEm X W b g)(hm:behindInMarks .In b=false:=by with_unfolding_all rfl):PEm X W (.Compare a [.In] [b] pos) (λρ S=>(f ρ S).bind λp S1=>(g ρ S1).bind λq S2=>zJH false p q S2):=zMA yET zRD ha hb hm
theorem yPM(ha:PEm X W a f)(hb:PEm X W b g)(hm:behindInMarks .In b=false:=by with_unfolding_all rfl):PTm X W (.Compare a [.In] [b] pos) (λρ S=>((f ρ S).bind λp S1=>(g ρ S1).bind λq S2=>zJH false p q S2).bind asB):=zHC yET zRD ha hb hm
theorem zPH(ha:PEm X W a f)(hb:PEm X W b g)(hm:behindInMarks .NotIn b=false:=by with_unfolding_all rfl):PTm X W (.Compare a [.NotIn] [b] pos) (λρ S=>((f ρ S).bind λp S1=>(g ρ S1).bind λq S2=>zJH true p q S2).bind asB):=zHC yBP zRD ha hb hm
end
section
variable{X:Cx}{W:XW}{a b o i e:Expr}{es:List Expr}{f g:AX}{af:Rho->Sto->R (List Er)}{apos pos:Pos}{α:List Addr}{H:Hp}{pins:List (Addr×Obj)}{σ:St}{s:Shared}
noncomputable def delK(kvs:List (MV×MV))(k:MV):List (MV×MV):=kvs.filter λp=>!decide (p.1=k)
noncomputable def popXF(p:Er)(rs:List Er)(S:Sto):R Er:=match rs with
 |[.val k,.val y]=>match zIA S p with
  |some (l,kvs)=>if zHZ k=true then(match look kvs k with |some d=>.ok (.val d) (S.set l (.dic (delK kvs k)))|none=>.ok (.val y) S)else .no
  |none=>.no
 |_=>.no
noncomputable def isDx(p:Er)(S:Sto):Bool:=(zIA S p).isSome
theorem yBR{ks:List (Key×V)}{vs:List (Key×Value)}: ∀{us:List Value},KV ks vs->us.length=vs.length->(∀(j:Nat)(v:Value),us[j]? =some v-> ∃(k:Key)(x:Value),vs[j]? =some (k,x)/\(yW X.prog X.w).is k v=true)->Vals (ks.map λp=>kV p.1) us:=by
 intro us kv
 unfold KV at kv
 induction kv generalizing us with
 |nil=>intro hl _;cases us with
  |nil=>exact .nil
  |cons a b=>simp at hl
 |@cons p q ps qs h t ih=>
  intro hl hv
  cases us with
  |nil=>simp at hl
  |cons a b=>
   obtain⟨k,x,e,hi⟩:=hv 0 a rfl
   simp only [List.getElem?_cons_zero,Option.some.injEq]at e
   subst e
   rw [map_cons]
   refine .cons ?_ (ih (by simpa using hl) λj v hj=>by simpa using hv (j+1) v (by simpa using hj))
   rw [h.1]
   rcases yN hi with⟨i,t,e1,e2⟩|⟨i,t,e1,e2⟩
   ·subst e2;rw [show k=.inl i from e1];exact⟨t,rfl⟩
   ·subst e2;rw [show k=.inr i from e1];exact⟨t,rfl⟩
end
section
variable{X:Cx}{W:XW}{α:List Addr}{H:Hp}
noncomputable def tupKF:List Er->Sto->R Er
 |[r],S=>match zIA S r with |some (_,kvs)=>.ok (.val (.tup (kvs.map (·.1)))) S|none=>.no
 |_,_=>.no
noncomputable def zFD:List Er->Sto->R Er
 |[r],S=>match zIA S r with |some (_,kvs)=>.ok (.new (kvs.map (·.1))) S|none=>.no
 |_,_=>.no
theorem zTX(hc:X.calm=true):zCT X W (λxs H Q=> ∃d ks,xs=[.ref d]/\DK X H d ks/\X.calm=true/\ ∀l,H l=none->Q (.ref l) (upd H l (.lst (ks.map λp=>kV p.1)))) zFD:=by
 intro rs vs α S H Q wd d post
 unfold zFD at post
 split at post
 ·split at post
  ·rename_i n kvs e
   obtain⟨v,rfl,dv⟩:=zAN d
   obtain⟨c,ks,rfl,h1,h2,dd,dl,_⟩:=dxo wd e dv
   exact⟨c,ks,rfl,dd,hc,λl hl=>Post.newl post wd hl (zJG dl)⟩
  ·exact post.elim
 ·exact post.elim
theorem yPN(hc:X.calm=true):zCT X W (λxs H Q=> ∃(a:Addr)(bs:List Bool),xs=[.ref a]/\SqL X.K H a (bs.map V.bl)/\X.calm=true/\Q (.bl (bs.any id)) H) anyF:=by
 intro rs vs α S H Q wd d post
 unfold anyF at post
 split at post
 ·split at post
  ·rename_i bs e
   obtain⟨v,rfl,dv⟩:=zAN d
   cases z:jP S _ with
   |none=>rw [z]at e;cases e
   |some ds=>
    rw [z]at e
    obtain⟨a1,us,rfl,s,l⟩:=zGT rfl wd z dv
    refine⟨a1,bs,rfl,?_,hc,Post.val post wd (gK _)⟩
    rw [<-zIY e l]
    exact s
  ·exact post.elim
 ·exact post.elim
end
section
variable{X:Cx}{W:XW}{a b:Expr}{f g:AX}{pos:Pos}
theorem zRE:CallR X (.builtin "any") (λxs H Q=> ∃(a:Addr)(bs:List Bool),xs=[.ref a]/\SqL X.K H a (bs.map V.bl)/\X.calm=true/\Q (.bl (bs.any id)) H):=by
 intro pins s σ H xs us Q I r h
 obtain⟨a,bs,rfl,hq,hc,q⟩:=h
 obtain⟨u,rfl,ru⟩:=vals1 r
 cases ru
 obtain⟨its,rv,pl,hz⟩:=I.list hq
 have hlen:its.length=bs.length:=by rw [<-rv.length,lM]
 refine PySem.call_any_walk (wpAny_pyIter_list pl.isList ?_)
 have hI:a≠s.heap.objs.size:=by
  obtain⟨o,ho,_⟩:=pl.isList
  exact ne_of_lt (Heap.lt_size ho)
 have I1: ∀(h':Heap)(tk:Nat),(∀b o,b∉[s.heap.objs.size]->(s.heap.push {cls:=.type "list_iterator",data:=.fields #[.ref a,.int 0 0]}).get? b=some o->h'.get? b=some o)->Inv X pins σ H {s with heap:=h',toks:=tk}:=λh' tk k=>
  I.kept λb o e=>k b o (by simpa using ne_of_lt (Heap.lt_size e)) (hP0 _ e)
 refine⟨s.heap.objs.size,[s.heap.objs.size,a],[s.heap.objs.size],its.toArray.size,_,_,λi=>bs.getD i false,rfl,PySem.Walks.list (by first |exact I.ok.hd hc|exact(show X.A.in1.handled=none from I.ok.hd hc)) _ a hI its.toArray,⟨⟨_,Heap.get?_push_size _ rfl,rfl,rfl⟩,pl.isList.at λo e=>hP0 _ e⟩,?_,λh' tk k=>?_⟩
 ·intro i v s' Q' E' hv hQ'
  have hv':its[i]? =some v:=by simpa using hv
  have hi:i<bs.length:=by rw [<-hlen];exact(gS0.mp hv').1
  have hb:(bs.map V.bl)[i]? =some (V.bl (bs.getD i false)):=by
   rw [getElem?_map,gE0 hi]
   simp [getD_eq_getElem?_getD,hi]
  obtain⟨u',hu',rv'⟩:=rv.get hb
  rw [hv']at hu'
  cases hu'
  cases rv'
  exact wpAny_truthy_bool hQ'
 ·refine⟨.bl (bs.any id),H,I1 h' tk k,?_,q⟩
  show Value.bool _=Value.bool _
  congr 1
  rw [sA0,hlen]
  have: ∀(l:List Bool),(List.range l.length).any (λi=>l.getD i false)=l.any id:=by
   intro l
   rw [Bool.eq_iff_iff,any_eq_true,any_eq_true]
   constructor
   ·rintro⟨i,hi,h⟩
    have hi':=mem_range.mp hi
    exact⟨l[i],getElem_mem hi',by simpa [getD_eq_getElem?_getD,hi']using h⟩
   ·rintro⟨x,hx,h⟩
    obtain⟨i,hi,rfl⟩:=getElem_of_mem hx
    exact⟨i,mem_range.mpr hi,by simpa [getD_eq_getElem?_getD,hi]using h⟩
  exact this bs
def shrC(i j:Int):Prop:=0<=j
instance(i j:Int):Decidable (shrC i j):=inferInstanceAs (Decidable (_<=_))
end
end M
end L2
namespace PySem
theorem zRF:typeLookup (.type "list") "keys"=pure none:=am_miss_of_fast (by decide+kernel)
theorem getAttr?_miss_list{prog:Program}{w:World}{A:Around}{E:VP}{s:Shared}{a:Addr}{o:Obj}{xs:Array Value}{k:Nat}{name:Str}{Q:Option Value->Shared->Prop}
  (hx:s.heap.get? a=some o) (hc:o.cls=.type "list") (hdat:o.data=.seq xs k) (hd:o.dict=none) (hmiss:typeLookup (.type "list") name=pure none) (hname:(["__module__","__name__","__qualname__","__doc__","__annotations__"]:List Str).contains name=false) (hA:A.handled=none)
  (h: ∀h' tk,(∀b o,s.heap.get? b=some o->h'.get? b=some o)->Q none {s with heap:=h',toks:=tk}) (hsz:name.length+100<=sizeLine:=by size_fits):
  wpAny (model prog w) A (getAttr? (.ref a) name) Q E s:=by
 obtain⟨c,dct,dat,sl⟩:=o
 simp only at hc hdat hd
 subst hc hdat hd
 obtain⟨hp,g,d,tk,os⟩:=s
 have hT: ∀tk',(⟨hp,g,d,tk',os⟩:Shared).TypeIs (.ref a) "list":=λ_=>⟨_,hx,rfl⟩
 have f1:=sub_AttributeError
 have f3:=F.slot_list_getattribute.lookup
 have f4:=F.slot_list_getattribute.bind (.ref a)
 have f5:=am_list_getattr_none
 unfold getAttr? getAttrBy? getAttrBy
 repeat (any_goals (first |assumption|exact hT _|((with_reducible show wpAny _ _ (call (Value.builtin "list.__getattribute__") _ _) _ _ _);refine call_meets F.slot_list_getattribute (hT _) am_entry_list_getattribute (F.args_list_getattribute_2 _ _) (meets_getattribute_miss_list a xs k sl name _ hmiss hname hsz) ⟨hx,hA,λh' tk' e hx'=>?_⟩)|wp_step))
 obtain⟨t',u',he⟩:=hx'.there
 show wpAny _ _ (getattributeRaised _ _ _ _ _ _ _) _ _ _
 unfold getattributeRaised
 repeat (any_goals (first |assumption|wp_step))
 exact h _ _ hx'.keeps
namespace F
theorem entry_dict_update_loop:entryFor table "dict.update.loop"=some Builtin.«dict.update.loop»:=entryFor_of_tree (by kernel_rfl)
theorem plain_dict_update_loop:plainId "dict.update.loop"=true:=by decide+kernel
end F
open PyProof.Rows
section
variable{prog:Program}{w:World}{K:Type}[DecidableEq K]{knd:KeyKind prog w K}{A:Around}{E:VP}{s:Shared}{R:Result->Shared->Prop}
def zWW(knd:KeyKind prog w K)(h:Heap)(kv:K×Value)(v:Value):Prop:= ∃a key,v=.ref a/\IsTup h a #[key,kv.2]/\knd.is kv.1 key=true
theorem zIB{I D:Addr}{fp:List Addr}{n:Nat}{P:Nat->Value->Prop}{St:Nat->Heap->Prop}(W:Walks prog w A.in1 I fp [I] n P St)(hDf:D∉fp)(kvs:List (K×Value))(hn:kvs.length=n)(hz:n<=sizeLine){h₀:Heap}
  (hP: ∀i v,P i v-> ∃kv,kvs[i]? =some kv/\zWW knd h₀ kv v) (hI:h₀.get? I=none) (hD:h₀.get? D=none):
  ∀(k i:Nat)(j:Int)(s:Shared),n - i=k->i<=n->St i s.heap->s.heap.DictOf knd D (merged [] (kvs.take i))->(∀b o,h₀.get? b=some o->s.heap.get? b=some o)->
   (∀h' tk,(∀b o,h₀.get? b=some o->h'.get? b=some o)->h'.DictOf knd D (merged [] kvs)->R (.ok (.ret .none)) {s with heap:=h',toks:=tk})->
   codeAny (model prog w) A (.builtin "dict.update.loop" ⟨[.ref D,.ref I,rawInt j,.none],[]⟩) R s:=by
 have hDI:D≠I:=λe=>hDf (e▸W.sub _ (mS.mpr rfl))
 intro k
 induction k with
 |zero=>
  intro i j s hk hi hst hS hkeep hR
  have hin:i=n:=by omega
  subst hin
  refine codeAny_builtin F.entry_dict_update_loop ?_
  rw [Around.under_plainId F.plain_dict_update_loop _]
  show wpAny _ A.in1 (pyNext (.ref I) >>= _) _ _ s
  refine wB0 (W.done s _ _ hst λh' tk hk'=>?_)
  show wpAny _ A.in1 (Builtin.Dict.addKeywords D [] >>= λ_=>ret Value.none) _ _ _
  refine wB0 (wP0 ?_)
  rw [<-hn,List.take_length]at hS
  refine wP0 (hR h' tk (λb o e=>?_) ?_)
  ·exact hk' b o (λh=>by rw [mS.mp h,hI]at e;cases e) (hkeep b o e)
  ·obtain⟨o,es,ep,ho,gA⟩:=hS
   exact⟨o,es,ep,hk' D o (λh=>hDI (mS.mp h)) ho,gA⟩
 |succ k ih=>
  intro i j s hk hi hst hS hkeep hR
  have hlt:i<n:=by omega
  refine codeAny_builtin F.entry_dict_update_loop ?_
  rw [Around.under_plainId F.plain_dict_update_loop _]
  show wpAny _ A.in1 (pyNext (.ref I) >>= _) _ _ s
  refine wB0 (W.item i s _ _ hlt hst λv h' tk hPv hst' hk'=>?_)
  obtain⟨kv,hkv,a,key,rfl,hT,hkey⟩:=hP i v hPv
  have hkeep': ∀b o,h₀.get? b=some o->h'.get? b=some o:=λb o e=>hk' b o (λh=>by rw [mS.mp h,hI]at e;cases e) (hkeep b o e)
  have hS':h'.DictOf knd D (merged [] (kvs.take i)):=by
   obtain⟨o,es,ep,ho,gA⟩:=hS
   exact⟨o,es,ep,hk' D o (λh=>hDI (mS.mp h)) ho,gA⟩
  obtain⟨o,ho,hc,nn,hdat⟩:=hT.keeps hkeep'
  have hTI:Shared.TypeIs {s with heap:=h',toks:=tk} (.ref a) "tuple":=⟨o,ho,hc⟩
  refine wB0 (wpAny_holding ?_)
  refine wB0 (wpAny_tryCatch ?_)
  unfold Builtin.Dict.pairItems
  refine wB0 (wpAny_typeOf hTI ?_)
  rw [iP (by decide)]
  refine wB0 ?_
  show wpAny _ _ (do match (<-load a).data with |.seq xs _=>pure (some xs)|_=>pure none) _ _ _
  refine wB0 (wpAny_load ho ?_)
  rw [hdat]
  refine wP0 (wP0 ?_)
  show wpAny _ _ (holding [key,kv.2] (dictSet D key kv.2)) _ _ _
  refine wpAny_holding ?_
  have hlen:=merged_length_le [] (kvs.take i)
  have hl2:(kvs.take i).length<=n:=by rw [<-hn];exact List.length_take_le' i kvs
  refine wpAny_dictSet_pairs (s:={s with heap:=h',toks:=tk}) (hsz:=by rw [length_nil]at hlen;omega) hkey hS' λh2 hd2 hs2=>?_
  have hkeep2: ∀b o,h₀.get? b=some o->h2.get? b=some o:=λb o e=>by
   rw [hs2.2 b (λh=>by rw [h,hD]at e;cases e)];exact hkeep' b o e
  refine wP0 ⟨plainId_quiet F.plain_dict_update_loop _,ih (i+1) (j+1) _ (by omega) hlt (W.frame _ _ _ hst' λb hb o e=>?_) ?_ hkeep2 λh3 tk3 k3 d3=>hR h3 tk3 k3 d3⟩
  ·rw [hs2.2 b (λh=>hDf (h▸hb))];exact e
  ·rw [merged_take_succ _ _ _ _ hkv];exact hd2
theorem zKU{l:Addr}{its:Array Value}{o:Obj}{c:Nat}{kvs:List (K×Value)}{Q:VP}(hA:A.handled=none)(ho:s.heap.get? l=some o)(hc:o.cls=.type "list")(hd:o.dict=none)(hdat:o.data=.seq its c)(hlen:its.size=kvs.length)(hz:its.size<=sizeLine)
  (hP: ∀(i:Nat) v,its[i]? =some v-> ∃kv,kvs[i]? =some kv/\zWW knd s.heap kv v)
  (h: ∀h' tk,(∀b o,s.heap.get? b=some o->h'.get? b=some o)->h'.DictOf knd s.heap.objs.size (merged [] kvs)->Q (.ref s.heap.objs.size) {s with heap:=h',toks:=tk}):
  wpAny (model prog w) A (call (.type "dict") [.ref l]) Q E s:=by
 refine callType_codes (Q₁:=λobj s₁=>obj=.ref s.heap.objs.size/\s₁={s with heap:=s.heap.push {cls:=.type "dict",data:=.dict #[]}}) F.kt_called_dict (F.kt_typeCall_dict_1 _) F.entry_dict_init (kt_code_dict_new _ ⟨rfl,rfl⟩) ?_
 rintro obj s₁ ⟨rfl,rfl⟩
 have hnew:(s.heap.push {cls:=.type "dict",data:=.dict #[]}).DictOf knd s.heap.objs.size []:=Heap.DictOf.new s.heap
 have ho':(s.heap.push {cls:=.type "dict",data:=.dict #[]}).get? l=some o:=hP0 _ ho
 have hl0:=Heap.lt_size ho
 refine⟨hnew.typeIs,F.args_dict_init_2 _ _,?_⟩
 unfold Builtin.«dict.__init__»
 refine wB0 ?_
 unfold Builtin.Dict.selfAndRest
 refine wB0 (wpAny_notOrdered_dict hnew.typeIs ?_)
 show wpAny _ _ (pure (s.heap.objs.size,[Value.ref l])) _ _ _
 refine wP0 ?_
 show wpAny _ _ (Builtin.Dict.updateFrom "dict.__init__" s.heap.objs.size (.ref l) [] .none) _ _ _
 unfold Builtin.Dict.updateFrom
 refine wB0 (wpAny_typeOf (T:="list") ⟨o,ho',hc⟩ ?_)
 rw [iP (by decide)]
 refine wB0 (getAttr?_miss_list ho' hc hdat hd zRF (by decide+kernel) hA (λh1 tk1 k1=>?_) (by decide+kernel))
 rw [iP (show(none:Option Value).isNone=true from rfl)]
 refine wB0 (wpAny_rule ?_)
 have ho1:=k1 l o ho'
 refine wB0 (wpAny_pyIter_list (items:=its) ⟨o,ho1,hc,c,hdat⟩ ?_)
 have hI:l≠h1.objs.size:=ne_of_lt (Heap.lt_size ho1)
 have hsz:s.heap.objs.size<h1.objs.size:=by
  obtain⟨oo,_,_,hg,_⟩:=hnew
  exact Heap.lt_size (k1 _ _ hg)
 refine wP0 ⟨plainId_quiet F.plain_dict_update_loop _,zIB (knd:=knd) (h₀:=s.heap) (D:=s.heap.objs.size) (Walks.list (by first |exact hA|exact(show A.in1.in1.handled=none from hA)) h1.objs.size l hI its) ?_ kvs hlen.symm hz hP ?_ ?_ _ 0 0 _ rfl (zero_le _) ⟨⟨_,Heap.get?_push_size _ rfl,rfl,rfl⟩,⟨o,hP0 _ ho1,hc,c,hdat⟩⟩ ?_ ?_ λh' tk hk hd'=>?_⟩
 ·rw [mC,mS]
  rintro(e|e)
  ·exact ne_of_lt hsz e
  ·exact ne_of_lt hl0 e.symm
 ·cases hg:s.heap.get? h1.objs.size with
  |none=>rfl
  |some oo=>exact absurd (Heap.lt_size hg) (Nat.lt_asymm hsz)
 ·cases hg:s.heap.get? s.heap.objs.size with
  |none=>rfl
  |some oo=>exact absurd (Heap.lt_size hg) (lt_irrefl _)
 ·obtain⟨oo,es,ep,hg,gA⟩:=hnew
  exact⟨oo,es,ep,hP0 _ (k1 _ _ hg),gA⟩
 ·intro b oo e
  exact hP0 _ (k1 _ _ (hP0 _ e))
 ·exact⟨rfl,h h' tk hk hd'⟩
end
end PySem
namespace L2
namespace M
open PySem PySem.Spec PyProof.Rows
section
variable{X:Cx}{W:XW}{α:List Addr}{H:Hp}{pins:List (Addr×Obj)}{σ:St}{s:Shared}
def zPI(ps:List (Key×V)):List (Key×V):=ps.foldl (λacc p=>zGN acc p.1 p.2) []
inductive PairsV(K:PySem.W.Frag)(H:Hp):List V->List (Key×V)->Prop
 |nil:PairsV K H [] []
 |cons {a:Addr} {k:Key} {v:V} {vs ps}:SqT K H a [kV k,v]->PairsV K H vs ps->PairsV K H (.ref a::vs) ((k,v)::ps)
theorem zYW{ps:List (Key×V)}{qs:List (Key×Value)}(r:KV ps qs): ∀{as:List (Key×V)}{bs:List (Key×Value)},KV as bs->KV (ps.foldl (λacc p=>zGN acc p.1 p.2) as) (merged bs qs):=by
 unfold KV at r
 induction r with
 |nil=>intro as bs h;exact h
 |@cons p q ps qs h t ih=>
  intro as bs hb
  rw [foldl_cons]
  show KV _ (merged (stored bs q.1 q.2) qs)
  rw [h.1]
  exact ih (yEM hb _ h.2)
theorem yEU(I:Inv X pins σ H s){vs:List V}{ps:List (Key×V)}(r:PairsV X.K H vs ps): ∀{us:List Value},Vals vs us-> ∃qs:List (Key×Value),KV ps qs/\qs.length=us.length/\ ∀(i:Nat) v,us[i]? =some v-> ∃kv,qs[i]? =some kv/\zWW (yW X.prog X.w) s.heap kv v:=by
 induction r with
 |nil=>intro us h;cases h;exact⟨[],.nil,rfl,λi v h=>by simp at h⟩
 |@cons a k v vs ps hq t ih=>
  intro us h
  cases h with
  |@cons _ u _ us ru rt=>
   cases ru
   obtain⟨qs,h1,h2,h3⟩:=ih rt
   obtain⟨its,r',pl,hz⟩:=I.tuple hq
   obtain⟨u1,u2,rfl,q1,q2⟩:=vals2 r'
   refine⟨(k,u2)::qs,.cons ⟨rfl,q2⟩ h1,by rw [lC,lC,h2],λi w hw=>?_⟩
   cases i with
   |zero=>
    cases hw
    exact⟨_,rfl,a,u1,rfl,pl,zTW q1⟩
   |succ i=>exact h3 i w hw
theorem yBS(ps:List (Key×V)):(zPI ps).length<=ps.length:=by
 have: ∀(ps as:List (Key×V)),(ps.foldl (λacc p=>zGN acc p.1 p.2) as).length<=as.length+ps.length:=by
  intro ps
  induction ps with
  |nil=>intro as;exact le_refl _
  |cons p ps ih=>
   intro as
   rw [foldl_cons,lC]
   have:=ih (zGN as p.1 p.2)
   have:=zMT as p.1 p.2
   omega
 have:=this ps []
 rw [length_nil,zero_add]at this
 exact this
theorem zWX{K:PySem.W.Frag}{vs:List V}{ps:List (Key×V)}(r:PairsV K H vs ps):ps.length=vs.length:=by
 induction r with
 |nil=>rfl
 |cons _ _ ih=>rw [lC,lC,ih]
theorem zPJ:CallR X (.type "dict") (λxs H Q=> ∃l vs ps,xs=[.ref l]/\SqL X.K H l vs/\PairsV X.K H vs ps/\X.calm=true/\ ∀d,H d=none->Q (.ref d) (upd H d (.dK (zPI ps)))):=by
 intro pins s σ H xs us Q I r h
 obtain⟨l,vs,ps,rfl,hq,hp,hc,q⟩:=h
 obtain⟨u,rfl,rx⟩:=vals1 r
 cases rx
 obtain⟨its,rv,⟨o,n,ho,hcl,hd,hdat⟩,hz⟩:=I.list hq
 obtain⟨qs,h1,h2,h3⟩:=yEU I hp rv
 have hl:=rv.length
 refine zKU (knd:=yW X.prog X.w) (kvs:=qs) (I.ok.hd hc) ho hcl hd hdat (by rw [sA0,h2]) (by rw [sA0];omega) (λi v e=>h3 i v (by simpa using e)) λh' tk hk hdd=>?_
 have hpl:=zWX hp
 have hf:=yBS ps
 refine⟨.ref s.heap.objs.size,_,I.laid (t':=tk) hk (le_refl _) (show ObjOk X.prog X.w _ h' _ (.dK (zPI ps))from⟨by omega,beq_eq_false_iff_ne.mpr (Ne.symm (ne_of_lt (zWQ I))),_,zYW h1 .nil,hdd⟩),rfl,q _ (I.hok.fresh (le_refl _))⟩
noncomputable def zFE:List MV->Option (List (MV×MV))
 |[]=>some []
 |.tup [k,v]::r=>if zHZ k=true then(zFE r).map ((k,v)::·)else none
 |_::_=>none
noncomputable def yEV(ps:List (MV×MV)):List (MV×MV):=ps.foldl (λacc p=>zMK acc p.1 p.2) []
theorem zMY{K:PySem.W.Frag}: ∀{ds:List MV}{kvs:List (MV×MV)}{vs:List V},zFE ds=some kvs->DenL X.K α H ds vs-> ∃ps,PairsV X.K H vs ps/\DenK X.K α H kvs ps
 |[],kvs,vs,e,l=>by
  cases e
  rw [l.isnil]
  exact⟨[],.nil,.nil⟩
 |d::ds,kvs,vs,e,l=>by
  obtain⟨v,r,rfl,dv,l'⟩:=l.uncons
  unfold zFE at e
  split at e
  ·cases (by assumption:d::ds=[])
  ·rename_i k y r' hd
   obtain⟨rfl,rfl⟩:=List.cons.inj hd
   split at e
   ·rename_i hk
    cases z:zFE ds with
    |none=>rw [z]at e;cases e
    |some ms=>
     rw [z]at e
     cases e
     obtain⟨ps,p1,p2⟩:=zMY (K:=K) z l'
     obtain⟨a,us,rfl,hs,hl⟩:=xP dv
     obtain⟨v1,r1,rfl,d1,l1⟩:=hl.uncons
     obtain⟨v2,r2,rfl,d2,l2⟩:=l1.uncons
     have e2:=l2.isnil
     subst e2
     obtain⟨k',hk'⟩:=Option.isSome_iff_exists.mp hk
     have e1:=yER (X:=X) hk' d1
     subst e1
     exact⟨(k',v2)::ps,.cons hs p1,.cons (ky_D hk') d2 p2⟩
   ·cases e
  ·cases e
theorem zJI: ∀{kvs:List (MV×MV)}{ps:List (Key×V)},DenK X.K α H kvs ps-> ∀{as:List (MV×MV)}{bs:List (Key×V)},DenK X.K α H as bs->DenK X.K α H (kvs.foldl (λacc p=>zMK acc p.1 p.2) as) (ps.foldl (λacc p=>zGN acc p.1 p.2) bs)
 |_,_,.nil,as,bs,h=>h
 |_,_,.cons (k:=k) (k':=k') hk a l,as,bs,h=>by
  rw [foldl_cons,foldl_cons]
  exact zJI l (zTV h hk a)
noncomputable def zTY:List Er->Sto->R Er
 |[r],S=>match (jP S r).bind zFE with |some kvs=>.ok (.val (.loc S.length)) (S++[.dic (yEV kvs)])|none=>.no
 |_,_=>.no
theorem zYX:bootBuiltins "dict"=some (.type "dict"):=by decide+kernel
theorem zYY(hc:X.calm=true):zCT X W (λxs H Q=> ∃l vs ps,xs=[.ref l]/\SqL X.K H l vs/\PairsV X.K H vs ps/\X.calm=true/\ ∀d,H d=none->Q (.ref d) (upd H d (.dK (zPI ps)))) zTY:=by
 intro rs vs α S H Q wd d post
 unfold zTY at post
 split at post
 ·split at post
  ·rename_i kvs e
   obtain⟨v,rfl,dv⟩:=zAN d
   cases z:jP S _ with
   |none=>rw [z]at e;cases e
   |some ds=>
    rw [z]at e
    obtain⟨a1,us,rfl,sq,l⟩:=zGT rfl wd z dv
    obtain⟨ps,p1,p2⟩:=zMY (X:=X) (K:=X.K) e l
    refine⟨a1,us,ps,rfl,sq,p1,hc,λp hp=>?_⟩
    have xn:=wd.newx (o:=.dK (zPI ps)) hp
    obtain⟨x,w'⟩:=wd.put (ho:=.dK (zPI ps)) (m:=.dic (yEV kvs)) hp (.inl ⟨_,yS,(zJI p2 .nil).ex0 ⟨⟨[p],rfl⟩,xn.tup,xn.frz⟩⟩)
    exact post (.ref p) (α++[p]) _ x w' (DenE.val (zFY (by rw [<-wd.len,getElem?_append_right (le_refl _),sub_self];rfl)))
  ·exact post.elim
 ·exact post.elim
end
section
variable{X:Cx}{W:XW}{a b o i e:Expr}{es:List Expr}{f g:AX}{af:Rho->Sto->R (List Er)}{apos pos:Pos}{α:List Addr}{H:Hp}{pins:List (Addr×Obj)}{σ:St}{s:Shared}
def zTZ(ks ps:List (Key×V)):List (Key×V):=ps.foldl (λacc p=>zGN acc p.1 p.2) ks
theorem zPK: ∀(ps ks:List (Key×V)),(zTZ ks ps).length<=ks.length+ps.length
 |[],ks=>le_refl _
 |p::ps,ks=>by
  have h1:=zPK ps (zGN ks p.1 p.2)
  have h2:=zMT ks p.1 p.2
  show(zTZ (zGN ks p.1 p.2) ps).length<=_
  rw [lC]
  omega
def yLP(X:Cx):V->List V->Hp->VK->Prop:=λx vs H Q=> ∃(ks ps:List (Key×V))(d p:Addr),x=.ref d/\vs=[.ref p]/\d≠p/\DK X H d ks/\DK X H p ps/\ks.length+ps.length<2000000/\Q .non (upd H d (.dK (zTZ ks ps)))
theorem yJN:MtR X "dict.update" (yLP X):=by
 intro pins s σ H x vs v us Q I rx rv h
 obtain⟨ks,ps,d,p,rfl,rfl,hne,dd,dp,hz,q⟩:=h
 obtain⟨u1,rfl,r1⟩:=vals1 rv
 cases rx
 cases r1
 have hT:s.TypeIs (.ref d) "dict":=(yEP pins s σ H (.ref d) (.ref d) I rfl ⟨d,ks,rfl,dd⟩).1
 obtain⟨z,hs,vs,kv,dm⟩:=cX I dd
 obtain⟨z2,hs2,vs2,kv2,dm2⟩:=cX I dp
 have hl:ks.length=vs.length:=Paired.length kv
 have hl2:ps.length=vs2.length:=Paired.length kv2
 have hS:=sizeLine_eq
 refine call_meetsIn PySem.F.slot_dict_update hT PySem.F.entry_dict_update (PySem.F.args_dict_update_2 _ _) (meets_dict_update (yW X.prog X.w) d p hne hs2)
  ⟨vs,vs2,dm,dm2,by rw [hS];omega,λh' hm _ hb=>?_⟩
 have he': ∃q,h'.get? d=some q:=let ⟨q,_,_,hq,_⟩:=hm;⟨q,hq⟩
 have hol:=zPK ps ks
 refine⟨.non,upd H d (.dK (zTZ ks ps)),?_,rfl,q⟩
 exact I.write (t':=_) (x:=d) (e:=d) (zWV dd) (.inl rfl) (λb uo hb' eo=>(hb.2 b hb').trans eo) he' ⟨by rw [hS];omega,hs,_,zYW kv2 kv,hm⟩
noncomputable def zYZ(kvs ps:List (MV×MV)):List (MV×MV):=ps.foldl (λacc p=>zMK acc p.1 p.2) kvs
noncomputable def zPL(p:Er)(rs:List Er)(S:Sto):R Er:=match rs with
 |[r]=>match zIA S p with
  |some (l,kvs)=>match zIA S r with
   |some (m,ps)=>if l≠m/\kvs.length+ps.length<1000000 then .ok (.val .non) (S.set l (.dic (zYZ kvs ps)))else .no
   |none=>.no
  |none=>.no
 |_=>.no
theorem yJO:zWD X W (yLP X) zPL:=by
 intro p rs x vs α S H0 H Q α0 wd x0 dp da post
 unfold zPL at post
 split at post
 ·rename_i r
  split at post
  ·rename_i l kvs ed
   split at post
   ·rename_i m ps er
    split at post
    ·rename_i hc
     cases da with
     |cons dv n1 l1=>
     cases l1
     obtain⟨c,ks,rfl,h1,hS,DDx,dl,_⟩:=dxo wd ed dp
     obtain⟨c2,ks2,rfl,h2,hS2,DDx2,dl2,_⟩:=dxo wd er dv.1
     have hne:c≠c2:=λz=>hc.1 (by
      subst z
      exact(List.getElem?_inj (gS0.mp h1).1 wd.nd).mp (h1.trans h2.symm))
     have e1:ks.length=kvs.length:=DenK.length dl
     have e2:ks2.length=ps.length:=DenK.length dl2
     refine⟨ks,ks2,c,c2,rfl,rfl,hne,DDx,DDx2,by omega,?_⟩
     have xw:=wd.writex h1 (o:=.dK (zTZ ks ks2))
     exact(Post.shift (x0.trans xw) post).val (wd.write h1 (.inl ⟨_,yS,(zJI dl2 dl).ex0 xw.toEx0⟩)) zHO
    ·exact post.elim
   ·exact post.elim
  ·exact post.elim
 ·exact post.elim
theorem yJP(ho:PEm X W o f)(ha:PAm X W (e::es) af)
  (hbase:attributeBase o "update" X.env (eval o X.env)=eval o X.env:=by rfl)
  (hfew:((backTo pos (starEach (e::es) X.env)).all (λx=>!x.1)&&(backToKw pos (keywordEach [] X.env)).all (λx=>x.1.isSome)
   &&decide ((e::es).length+([]:List Keyword).length+(if([]:List Keyword).isEmpty then 0 else 1)<30))=true:=by rfl)
  (hline:(apos.endLine==pos.line)=true:=by rfl) (hs:starEach (e::es) X.env=(false,eval e X.env)::starEach es X.env:=by rfl) (hplain:(backTo pos (starEach es X.env)).any (·.1)=false:=by rfl):
  PEm X W (.Call (.Attribute o "update" apos) (e::es) [] pos) (λρ S=>(f ρ S).bind λp S1=>if isDx p S1=true then(af ρ S1).bind λrs S2=>zPL p rs S2 else .no):=by
 obtain⟨to,ho,fo⟩:=ho
 obtain⟨t,ha,k⟩:=ha
 refine⟨_,yPH yEP PySem.F.plainAttrs_dict PySem.F.slot_dict_update PySem.F.type_dict_update yJN ho ha hbase hfew hline hs hplain,λα ρ S σ H Q wd sl q=>fo α ρ S σ H _ wd sl (q.bind λu p S1 α1 H1 e1 x1 w1 d1 q1=>?_)⟩
 split at q1
 ·rename_i hz
  obtain⟨⟨l,kvs⟩,hz⟩:=Option.isSome_iff_exists.mp hz
  obtain⟨c,xs,rfl,_,_,dd,_⟩:=dxo w1 hz d1.1
  exact⟨⟨c,xs,rfl,dd⟩,k α1 ρ S1 σ H1 _ w1 (sl.ext x1) ((q1.shift x1).bind λvs rs S2 α2 H2 e2 x2 w2 d2 q2=>yJO p rs _ vs α2 S2 H1 H2 Q α1 w2 x2 (d1.1.ext x2) d2 q2)⟩
 ·exact q1.elim
end
section
variable{X:Cx}{W:XW}{a b:Expr}{f g:AX}{pos:Pos}
open Classical in
noncomputable def zUA(n:Nat)(p q:Er)(S:Sto):R Er:=match p with
 |.val k=>match q with
  |.val d=>if zHZ k=true/\S[n]? =some (.dic [])then .ok (.val (.loc n)) (S.set n (.dic [(k,d)]))else .no
  |_=>.no
 |_=>.no
theorem yEW(ha:PEm X W a f)(hb:PEm X W b g):PEm X W (.Dict [some a] [b] pos) (λρ S=>(f ρ (S++[.dic []])).bind λp S1=>(g ρ S1).bind λq S2=>zUA S.length p q S2):=by
 obtain⟨ta,ha,fa⟩:=ha
 obtain⟨tb,hb,fb⟩:=hb
 refine⟨λσ H Q=> ∀p,H p=none->ta σ (upd H p (.dK [])) λv H1=>tb σ H1 λu H2=> ∃k,v=kV k/\DK X H2 p []/\Q (.ref p) (upd H2 p (.dK [(k,u)])),λpins s σ H Q I h=>?_,λα ρ S σ H Q wd sl q p hp=>?_⟩
 ·have I0:=I.laid (a:=s.heap.objs.size) (o:=.dK []) (t':=s.toks) (h':=s.heap.push {cls:=.type "dict",data:=.dict #[]}) (λ_ _ q=>hP0 _ q) (le_refl _)
   ⟨zero_le _,beq_eq_false_iff_ne.mpr (Ne.symm (ne_of_lt (zWQ I))),[],.nil,Heap.DictOf.new s.heap⟩
  refine wpAny_Dict_pairs (knd:=yW X.prog X.w) (pairs:=[(eval a X.env,do let x <-eval b X.env;standAt pos;pure x)]) rfl (by simp) (by simp) ?_
  refine evalPairs_cons (wpAny_mono (ha _ _ _ _ _ I0 (h _ (I.hok.fresh (le_refl _)))) (λkv s1 h1=>?_) λ_ _ e=>e)
  obtain⟨v,H1,I1,r1,t1⟩:=h1
  refine wB0 (wpAny_mono (hb _ _ _ _ _ I1 t1) (λvv s2 h2=>?_) λ_ _ e=>e)
  obtain⟨u,H2,I2,r2,k,rfl,dd,q⟩:=h2
  refine wB0 (wpAny_standAt (wP0 (evalPairs_nil ?_)))
  obtain⟨z,hs,vs,kvr,dm⟩:=cX I2 dd
  have hl:([]:List (Key×V)).length=vs.length:=Paired.length kvr
  have hv0:vs=[]:=List.length_eq_zero_iff.mp hl.symm
  subst hv0
  refine⟨[(k,vv)],⟨zTW (X:=X) r1,rfl,trivial⟩,dm,λh' dm' hs'=>⟨.ref _,_,?_,rfl,q⟩⟩
  have he: ∃q,h'.get? s.heap.objs.size=some q:=let ⟨q,_,_,hq,_⟩:=dm';⟨q,hq⟩
  exact I2.write (t':=_) (x:=s.heap.objs.size) (e:=s.heap.objs.size) (zWV dd) (.inl rfl) (λb uo hb eo=>(hs'.2 b hb).trans eo) he ⟨by rw [sizeLine_eq];simp,hs,_,.cons ⟨rfl,r2⟩ .nil,dm'⟩
 ·obtain⟨x,w'⟩:=wd.put (ho:=.dK []) (m:=.dic []) hp (.inl ⟨[],yS,.nil⟩)
  refine fa (α++[p]) ρ (S++[.dic []]) σ _ _ w' (sl.ext x) ((q.shift x).bind λv r S1 α1 H1 e1 x1 w1 d1 q1=>?_)
  refine fb α1 ρ S1 σ H1 _ w1 (sl.ext (x.trans x1)) ((q1.shift x1).bind λu r2 S2 α2 H2 e2 x2 w2 d2 q2=>?_)
  unfold zUA at q2
  split at q2
  ·rename_i k
   split at q2
   ·rename_i d
    split at q2
    ·rename_i hk
     obtain⟨k',hk'⟩:=Option.isSome_iff_exists.mp hk.1
     have dk:Den X.K α2 H2 k v:=d1.1.ext x2
     have ek:=yER (X:=X) (α:=α2) (H:=H2) hk' dk
     subst ek
     have hα:α2[S.length]? =some p:=by
      obtain⟨t1,h1⟩:=x1.pre
      obtain⟨t2,h2⟩:=x2.pre
      rw [h2,h1,aA,aA, <-wd.len,getElem?_append_right (le_refl _),sub_self]
      rfl
     obtain⟨ks,dd,dl⟩:=yLO (w2.obj _ p _ hα hk.2) rfl
     cases dl
     refine⟨k',rfl,dd,?_⟩
     have xw:=w2.writex hα (o:=.dK [(k',u)])
     exact(Post.shift (x2.trans xw) q2).val (w2.write hα (.inl ⟨_,yS,.cons (ky_D hk') (d2.1.ext xw) .nil⟩)) (zFY (by rw [hα]))
    ·exact q2.elim
   ·exact q2.elim
  ·exact q2.elim
end
section
variable{X:Cx}{W:XW}
theorem zPM:CallR X (.builtin "len") (λxs H Q=> ∃d ks,xs=[.ref d]/\DK X H d ks/\Q (.int ks.length) H):=by
 intro pins s σ H vs us Q I rv h
 obtain⟨d,ks,rfl,dd,q⟩:=h
 obtain⟨u1,rfl,r1⟩:=vals1 rv
 cases r1
 obtain⟨z,hs,vs,kv,dm⟩:=cX I dd
 have hl:ks.length=vs.length:=Paired.length kv
 have hS:=sizeLine_eq
 refine PySem.call_len_dict hs dm (by omega) ⟨.int ks.length,H,(I.tok _).tok _,by rw [hl];exact⟨_,rfl⟩,q⟩
noncomputable def zPN:List Er->Sto->R Er
 |[r],S=>match zIA S r with
  |some (_,kvs)=>.ok (.val (.int kvs.length)) S
  |none=>.no
 |_,_=>.no
theorem zZA:zCT X W (λxs H Q=> ∃d ks,xs=[.ref d]/\DK X H d ks/\Q (.int ks.length) H) zPN:=by
 intro rs vs α S H Q wd d post
 unfold zPN at post
 split at post
 ·split at post
  ·rename_i l kvs e
   obtain⟨v,rfl,dv⟩:=zAN d
   obtain⟨c,ks,rfl,h1,hS,DDx,dl,_⟩:=dxo wd e dv
   have el:ks.length=kvs.length:=DenK.length dl
   refine⟨c,ks,rfl,DDx,?_⟩
   rw [el]
   exact Post.val post wd (xN _)
  ·exact post.elim
 ·exact post.elim
noncomputable def d1J(f g:AX)(ρ:Rho)(S:Sto):R Er:=(f ρ (S++[.dic []])).bind λp S1=>(g ρ S1).bind λq S2=>zUA S.length p q S2
theorem yBT{a b:Expr}{f g:AX}{pos:Pos}(ha:PEm X W a f)(hb:PEm X W b g):PEm X W (.Dict [some a] [b] pos) (d1J f g):=yEW ha hb
end
def zWY(x:List Nat):List (List Nat)->List (List Nat)
 |[]=>[x]
 |y::r=>if y<x then y::zWY x r else x::y::r
def zGU(ns:List (List Nat)):List (List Nat):=ns.foldr zWY []
theorem zJJ(x:List Nat): ∀l,(zWY x l).Perm (x::l)
 |[]=>.refl _
 |y::r=>by
  unfold zWY
  split
  ·exact((zJJ x r).cons y).trans (.swap _ _ _)
  ·exact .refl _
theorem zDO: ∀ns,(zGU ns).Perm ns
 |[]=>.refl _
 |x::r=>(zJJ x _).trans ((zDO r).cons x)
theorem zMZ(x:List Nat): ∀l:List (List Nat),l.Pairwise (λa b=> ¬b<a)->(zWY x l).Pairwise (λa b=> ¬b<a)
 |[],_=>by simp [zWY]
 |y::r,h=>by
  obtain⟨h1,h2⟩:=pairwise_cons.mp h
  unfold zWY
  split
  ·rename_i hyx
   refine pairwise_cons.mpr ⟨λz hz=>?_,zMZ x r h2⟩
   rcases mC.mp ((zJJ x r).mem_iff.mp hz)with rfl|hz
   ·exact List.lt_asymm hyx
   ·exact h1 z hz
  ·rename_i hyx
   refine pairwise_cons.mpr ⟨λz hz=>?_,h⟩
   rcases mC.mp hz with rfl|hz
   ·exact hyx
   ·exact not_lt.mpr (le_trans (not_lt.mp hyx) (not_lt.mp (h1 z hz)))
theorem zKH: ∀ns,(zGU ns).Pairwise (λa b=> ¬b<a)
 |[]=>.nil
 |x::r=>zMZ x _ (zKH r)
theorem yEX{ns ns':List (List Nat)}(hp:ns'.Perm ns)(hs:ns'.Pairwise (λa b=> ¬b<a)):ns'=zGU ns:=
 List.Perm.eq_of_pairwise (λ_ _ _ _ a b=>List.le_antisymm (not_lt.mp a) (not_lt.mp b)) hs (zKH ns) (hp.trans (zDO ns).symm)
theorem zPO: ∀(l:List Str)(p:Str),risingS p l=true->(p::l).Pairwise (λa b=> ¬b.cps.toList<a.cps.toList)
 |[],p,_=>by simp
 |x::r,p,h=>by
  have h:(!ltCps x.cps.toList p.cps.toList&&risingS x r)=true:=h
  rw [aE,Bool.not_eq_true',ltCps_eq,decide_eq_false_iff_not]at h
  have ih:=zPO r x h.2
  refine pairwise_cons.mpr ⟨λz hz=>?_,ih⟩
  rcases mC.mp hz with rfl|hz
  ·exact h.1
  ·exact not_lt.mpr (le_trans (not_lt.mp h.1) (not_lt.mp ((pairwise_cons.mp ih).1 z hz)))
theorem yBU: ∀(l:List Str),sortedS l=true->l.Pairwise (λa b=> ¬b.cps.toList<a.cps.toList)
 |[],_=>.nil
 |x::r,h=>zPO r x h
theorem yPO(x:Str):mkS x.cps.toList=x:=by unfold mkS;simp
theorem zUB{zs:List (List Nat)}{ss:List Str}(hp:ss.Perm (zs.map mkS))(hs:sortedS ss=true):ss=(zGU zs).map mkS:=by
 have h1:(ss.map λx=>x.cps.toList).Perm zs:=by
  have:=hp.map λx:Str=>x.cps.toList
  rw [map_map,show((λx:Str=>x.cps.toList)∘mkS)=id from funext zFX,map_id]at this
  exact this
 have h2:(ss.map λx=>x.cps.toList).Pairwise (λa b=> ¬b<a):=pairwise_map.mpr (yBU ss hs)
 rw [<-yEX h1 h2,map_map,show(mkS∘λx:Str=>x.cps.toList)=id from funext yPO,map_id]
section
variable{prog:Program}{w:World}{A:Around}{E:VP}{s:Shared}{T:String}{r d:Addr}{n:Nat}{P:Nat->Value->Prop}{OK:Heap->Prop}
theorem zUC{Q:VP}(K:PySem.W.KdlSrc prog w "dict" r d n P OK)(hh:A.handled=none)(hok:OK s.heap)(hn:n<64){ss:List Str}(hI: ∀acc:Array Value,ItemsOf P acc n->StrsAre acc.toList ss)
  (h: ∀(h':Heap)(tk:Nat)(out:Array Value)(ss':List Str),(∀b o,s.heap.get? b=some o->h'.get? b=some o)->StrsAre out.toList ss'->ss'.Perm ss->sortedS ss'=true-> ∀(vs:List Value),Q (.ref h'.objs.size) {s with heap:=sortedHeap (h'.push (seqObj "list" vs.toArray 0)) h'.objs.size vs out,toks:=tk}):
  wpAny (model prog w) A (call (.builtin "sorted") [.ref r]) Q E s:=by
 refine Calls.call_function_entry kind_sorted plain_sorted entry_sorted (args_sorted1 _) ?_
 unfold Builtin.«sorted»
 refine wB0 (m:=checkCount "sorted" 1 1 _) (wP0 ?_)
 refine wB0 (PySem.W.kdu_collect (A:=A.in1) K hh hok (by rw [sizeLine_eq];omega) λh' tk acc hk hacc=>?_)
 have hl:acc.toList.length=n:=by rw [Array.length_toList];exact hacc.1
 refine wB0 (wpAny_newList ?_ (by rw [hl,sizeLine_eq];omega))
 have hoL:(h'.push (seqObj "list" acc.toList.toArray 0)).get? h'.objs.size=some (seqObj "list" acc.toList.toArray 0):=Heap.get?_push_size _ rfl
 show wpAny _ _ _ _ _ {s with heap:=h'.push (seqObj "list" acc.toList.toArray 0),toks:=tk}
 have hS:=hI acc hacc
 refine wB0 (wpAny_holding (wpAny_call_entry slot_list_sort ⟨_,hoL,rfl⟩ entry_list_sort (list_sort_treeK strKind_oneLt hoL hS.keysOf (λv₁ v₂ gA e=>keyKind_strs (by rw [<-e];exact hS)) (by rw [hl];exact hn) λst' hp hs=>⟨_,rfl,?_⟩) (args_list_sort _)))
 obtain⟨ss',h1,h2,h3⟩:=sorted_out_str hS hp hs
 refine wP0 ⟨_,rfl,h h' tk _ ss' hk h1 h2 h3 acc.toList⟩
end
section
variable{X:Cx}{W:XW}{α:List Addr}{H:Hp}
theorem zUD: ∀(l:List (Str×Tok)),StrsAre (strValues l) (l.map (·.1))
 |[]=>.nil
 |(x,t)::l=>.cons x t (zUD l)
theorem zPP: ∀{us:List Value}{zs:List (List Nat)},StrsAre us (zs.map mkS)->Vals (zs.map λz=>V.str (mkS z)) us
 |_,[],h=>by cases h;exact .nil
 |_,z::zs,h=>by
  cases h with
  |cons y t h=>exact .cons ⟨t,rfl⟩ (zPP h)
theorem zUE: ∀{ds:List MV}{ns:List (List Nat)},dU ds=some ns->ns.length=ds.length
 |[],ns,h=>by cases h;rfl
 |x::ds,ns,hi=>by
  cases x<;>first |(cases hi;done)|skip
  unfold dU at hi
  cases zz:dU ds with
  |none=>rw [zz]at hi;cases hi
  |some ms=>rw [zz]at hi;cases hi;rw [lC,lC,zUE zz]
theorem zWZ:CallR X (.builtin "sorted") (λxs H Q=> ∃d ks ds ns α,xs=[.ref d]/\DK X H d ks/\dU ds=some ns/\DenL X.K α H ds (ks.map λp=>kV p.1)/\ds.length<64/\X.calm=true/\ ∀p,H p=none->Q (.ref p) (upd H p (.lst ((zGU ns).map λz=>V.str (mkS z))))):=by
 intro pins s σ H xs us Q I r h
 obtain⟨d,ks,ds,ns,α,rfl,dd,hi,hd',hz,hc,q⟩:=h
 obtain⟨u,rfl,rx⟩:=vals1 r
 cases rx
 obtain⟨z,hd,vs,rel,dm⟩:=cX I dd
 obtain⟨ep,hat⟩:=dm.dictAt
 have hl:ks.length=vs.length:=Paired.length rel
 have hlen:vs.length<64:=by have:=hd'.length;rw [lM]at this;omega
 refine zUC (PySem.W.kdl_dict (knd:=yW X.prog X.w) (kvs:=vs) (ep:=ep) hd) (I.ok.hd hc) hat hlen (ss:=ns.map mkS) (λacc hacc=>by
  obtain⟨l,e1,e2⟩:=zYU hi hd' (yBR (X:=X) rel (by rw [Array.length_toList];exact hacc.1) λj v e=>hacc.2 j v (by rw [<-Array.getElem?_toList];exact e))
  rw [e1, <-e2]
  exact zUD l) λh' tk out ss' hk a1 a2 a3 us=>?_
 have en:=zUB a2 a3
 subst en
 have I1:Inv X pins σ H {s with heap:=h',toks:=tk}:=I.kept hk
 obtain⟨e,he⟩:=sortedHeap_at (h:=h'.push (seqObj "list" us.toArray 0)) (a:=h'.objs.size) (vs:=us) (n:=0) (out:=out) (Heap.get?_push_size _ rfl)
 refine⟨.ref h'.objs.size,_,I1.laid (t':=tk) (λb o eb=>?_) (le_refl _) (show ObjOk X.prog X.w _ _ _ (.lst ((zGU ns).map λz=>V.str (mkS z)))from⟨?_,out.toList,e,zPP a1,?_⟩),rfl,q _ (I1.hok.fresh (le_refl _))⟩
 ·have hb:=Heap.lt_size eb
  rw [sortedHeap_old (ne_of_lt hb) (by rw [size_push'];exact Nat.lt_succ_of_lt hb)]
  exact hP0 _ eb
 ·have e2:=(zDO ns).length_eq
  have e3:=zUE hi
  have:=sizeLine_eq
  rw [lM]
  omega
 ·rw [Array.toArray_toList]
  exact he
noncomputable def zNA(rs:List Er)(S:Sto):R Er:=match rs with
 |[p]=>match zIA S p with
  |some (_,kvs)=>if kvs.length<64 then(match dU (kvs.map (·.1))with |some ns=>.ok (.new ((zGU ns).map MV.str)) S|none=>.no)else .no
  |none=>.no
 |_=>.no
theorem yEY(hc:X.calm=true):zCT X W (λxs H Q=> ∃d ks ds ns α,xs=[.ref d]/\DK X H d ks/\dU ds=some ns/\DenL X.K α H ds (ks.map λp=>kV p.1)/\ds.length<64/\X.calm=true/\ ∀p,H p=none->Q (.ref p) (upd H p (.lst ((zGU ns).map λz=>V.str (mkS z))))) zNA:=by
 intro rs vs α S H Q wd d post
 unfold zNA at post
 split at post
 ·split at post
  ·rename_i n kvs e
   split at post
   ·rename_i hz
    split at post
    ·rename_i ns hi
     obtain⟨v,rfl,dv⟩:=zAN d
     obtain⟨c,ks,rfl,h1,h2,dd,dl,_⟩:=dxo wd e dv
     exact⟨c,ks,_,ns,α,rfl,dd,hi,zJG dl,by rw [lM];exact hz,hc,λp hp=>Post.newl post wd hp (zPE _)⟩
    ·exact post.elim
   ·exact post.elim
  ·exact post.elim
 ·exact post.elim
end
section
variable{X:Cx}{W:XW}{a:Expr}{f:AX}{pos apos:Pos}
def yLQ:V->List V->Hp->VK->Prop:=λx vs H Q=> ∃l xs y,x=.ref l/\vs=[]/\H l=some (.lst xs)/\xs[xs.length - 1]? =some y/\Q y (upd H l (.lst (xs.eraseIdx (xs.length - 1))))
theorem yJQ:MtR X "list.pop" yLQ:=by
 intro pins s σ H x vs v us Q I rx rv h
 obtain⟨l,xs,y,rfl,rfl,hH,hy,q⟩:=h
 cases rx
 have hus:=rv.zero
 subst hus
 obtain⟨z,its,n,r,hl,e⟩:=I.lstM hH
 obtain⟨w,hw,rw'⟩:=r.get hy
 refine call_meets F.slot_list_pop ⟨_,e,rfl⟩ F.entry_list_pop (F.args_list_pop_1 _)
  (MeetsSeq.list_pop_last l its.toArray n w (by rw [sA0, <-hl, <-Array.getElem?_toList];exact hw) (by rw [sA0];omega)) ⟨e,?_⟩
 refine⟨y,_,I.lset (its':=its.eraseIdx (xs.length - 1)) hH e ?_ (r.eraseIdx (xs.length - 1)) ?_,rw',q⟩
 ·show its.toArray.eraseIdxIfInBounds (its.toArray.size - 1)=(its.eraseIdx (xs.length - 1)).toArray
  rw [List.eraseIdxIfInBounds_toArray,sA0,hl]
 ·have:=zOP xs (xs.length - 1)
  omega
def zNB(p:Er)(rs:List Er)(S:Sto):R Er:=match p,rs with
 |.val (.loc l),[]=>match S[l]? with
  |some (.lst ds)=>match ds[ds.length - 1]? with
   |some d=>.ok (.val d) (S.set l (.lst (ds.eraseIdx (ds.length - 1))))
   |none=>.no
  |_=>.no
 |_,_=>.no
theorem yJR:zWD X W yLQ zNB:=by
 intro p rs x vs α S H0 H Q α0 wd x0 dp da post
 unfold zNB at post
 split at post
 ·rename_i l
  obtain⟨a,rfl,h⟩:=zCF dp
  cases da
  obtain⟨ob,h1,h2⟩:=wd.of h
  rw [h1]at post
  cases ob with
  |lst ds=>
   obtain⟨us,h3,l1⟩:=h2
   dsimp only at post
   split at post
   ·rename_i d ed
    obtain⟨y,ey,dy⟩:=l1.at ed
    have hlen:us.length=ds.length:=l1.length
    have xw:=wd.writex h (o:=.lst (us.eraseIdx (us.length - 1)))
    refine⟨a,us,y,rfl,rfl,h3,by rw [hlen];exact ey,?_⟩
    exact(post.shift (x0.trans xw)).val (wd.write h ⟨_,yS,by rw [hlen];rw [hlen]at xw;exact(l1.eraseIdx (ds.length - 1)).ext xw⟩) (dy.ext xw)
   ·exact post.elim
  |dic _=>exact post.elim
  |ins _ _=>exact post.elim
 ·exact post.elim
theorem yJS(ho:PEm X W a f)(hbase:attributeBase a "pop" X.env (eval a X.env)=eval a X.env:=by rfl)(hline:(apos.endLine==pos.line)=true:=by rfl):
  PEm X W (.Call (.Attribute a "pop" apos) [] [] pos) (λρ S=>(f ρ S).bind λp S1=>if jQ p S1=true then zNB p [] S1 else .no):=
 zTB PySem.F.plainAttrs_list PySem.F.slot_list_pop PySem.F.type_list_pop yJQ yJR zQQ ho hbase hline
end
end M
end L2
namespace L2
namespace M
namespace My
open PySem PySem.Spec PyProof.Rows
local macro_rules
 | `(tactic|simp? [$xs,*] $[$l:location]?)=>`(tactic|simp only [List.getElem?_cons_zero,List.getElem?_cons_succ,yIK,bok,as_int,as_bl,yOI,add_int,sub_int,eq_int,yOJ,lst0,lst1,lst2,lst3,lst6,tup2,tup3,yON,yOO,yOP,yOQ,yOR,yOS,yIQ,yIR,List.set_cons_zero,List.set_cons_succ,if_true,yIT,yIS,vJ,kJ,bJ,dJ,nJ,aJ,oJ,iJ,mJ,tJ,lJ,zJ,fJ,xJ,hJ,eJ,gJ,uJ,pJ,jJ,qJ,rJ,sJ,wJ,yJ,AJ,BJ,CJ,DJ,EJ,FJ,GJ,HJ,IJ,JJ,KJ,LJ,MJ,NJ,$xs,*] $[$l:location]?)
abbrev zHG:List Str:=["atoms","names","atom","term"]
abbrev nQ:List Str:=["question","seen","place","atom"]
abbrev zKI:List Str:=["tables","question","atom","key"]
abbrev zAP:List Str:=["tables","question","place","atoms","others","names","before","other"]
abbrev zCJ:List Str:=["tables","question","place","learnt","unknown","reached","waiting","names","other"]
abbrev zRG:List Str:=["tables","question","pairs","a"]
abbrev yEZ:List Str:=["tables","question","pairs","a","b"]
abbrev zFF:List Str:=["_law_rest","_law_letters","_law_many","_law_name","_law_k"]
abbrev gR:List Str:=["_law_rest","_law_many","_law_words_here","_law_k","_law_word","_law_letter"]
abbrev zIC:List Str:=["_law_cell","_law_many","_law_letters","_law_long","_law_spot","_law_words_here","_law_k","_law_word","_law_j","_law_sign"]
abbrev zID:List Str:=["_law_cell","_law_many","_law_some","_law_rest","_law_k","_law_number"]
abbrev zGV:List Str:=["_law_cell","_law_numbers","_law_tables_here","_law_number","_law_wide"]
abbrev zCK:List Str:=["_law_cell","_law_words_here","_law_rest","_law_many","_law_found","_law_k","_law_value","_law_number","_law_pool","_law_turn"]
abbrev dL:List Str:=["_law_number","_law_names","_law_values_here"]
abbrev zEM:List Str:=["_law_atoms","_law_some","_law_t","_law_terms","_law_term_here"]
abbrev wT:List Str:=["_law_cells","_law_tables_here","_law_names","_law_values_here","_law_many","_law_order","_law_atoms","_law_k","_law_numbers","_law_wide","_law_some","_law_head"]
abbrev zIE:List Str:=["_law_tables_here","_law_question_here","_law_t","_law_terms","_law_k"]
abbrev zZB:List Str:=["_law_script","_law_words_here","_law_tables_here","_law_values_here","_law_cells","_law_question_here","_law_pairs","_law_one","_law_other","_law_two","_law_third","_law_found"]
noncomputable def zAQ:AY:=(iJ (bJ (dJ eqF (dJ ixF (vJ 3) (kJ (.int 0))) (kJ (.str [118,97,114]))) asB) ((EJ (kJ (.bl true)) (DJ zFC (vJ 1) (dJ ixF (vJ 3) (kJ (.int 1)))))) (JJ))
noncomputable def nY:AY:=(zAQ)
noncomputable def zFG:AY:=(FJ (bJ (dJ ixF (vJ 2) (kJ (.int 1))) itT) (gNm 3) (nY))
noncomputable def zDP:AY:=(zFG)
noncomputable section
abbrev AF:=AY
abbrev AE:=AX
def zDQ:AF:=(CJ zJ 1)
def zDR:AF:=(FJ (bJ (vJ 0) itQ) (gNm 2) (zDP))
def zDS:AF:=(AJ (bJ (yJ (vJ 1) wJ) zFD))
def zNC:AF:=zO (zDQ) (zO (zDR) ((zDS)))
def bZ(ds:List MV)(S:Sto):R Er:=xF (zNC (yL zHG ds) S)
noncomputable def wD:AY:=(iJ (bJ (dJ (zJH false) (dJ ixF (vJ 3) (kJ (.int 0))) (vJ 1)) asB) ((λ_ _=>R.no)) (JJ))
noncomputable def wE:AY:=(EJ (kJ (.bl true)) (DJ zFC (vJ 1) (dJ ixF (vJ 3) (kJ (.int 0)))))
noncomputable def wY:AY:=zO (wD) ((wE))
def wZ:AF:=(CJ zJ 1)
def bU:AF:=(FJ (bJ (yJ (dJ ixF (vJ 0) (kJ (.int 1))) wJ) itE) (gTp 2 (yF (gNm 2) (yF (gNm 3) dF))) (wY))
def jB:AF:=zO (wZ) ((bU))
def wA(ds:List MV)(S:Sto):R Er:=xF (jB (yL nQ ds) S)
def cA:AZ:=(bJ (dJ (inF true) (vJ 0) (dJ ixF (vJ 1) (kJ (.int 0)))) asB)
def zCZ:AE:=(vJ 0)
def zAR:AF:=(AJ (pJ (bJ (fJ 1 bZ (yJ (bJ (yJ (vJ 1) wJ) bT) wJ)) itL) (gNm 0) (cA) (zCZ) 1 [0]))
def zDT:AF:=(zAR)
def yZ(ds:List MV)(S:Sto):R Er:=xF (zDT (yL ["question","atom"] ds) S)
def zCL:AF:=(CJ (dJ ixF (dJ ixF (vJ 0) (dJ ixF (vJ 2) (kJ (.int 0)))) (kJ (.int 1))) 3)
def zCM:AF:=(AJ (fJ 2 yZ (yJ (vJ 1) (yJ (bJ (yJ (dJ ixF (vJ 2) (kJ (.int 0))) (yJ (tJ zCH (dJ ixF (vJ 2) (kJ (.int 1))) mJ (bJ (vJ 3) asI)) wJ)) zDJ) wJ))))
def zFH:AF:=zO (zCL) ((zCM))
def gH(ds:List MV)(S:Sto):R Er:=xF (zFH (yL zKI ds) S)
def zFI:AZ:=uJ
def zAS:AE:=(bJ (yJ (vJ 0) (yJ (kJ (.bl true)) wJ)) zDJ)
def zFJ:AZ:=uJ
def zAT:AE:=(dJ (zJH false) (vJ 0) (vJ 1))
def zFK:AZ:=uJ
def zAU:AE:=(bJ (yJ (vJ 0) (yJ (kJ (.bl true)) wJ)) zDJ)
noncomputable def zFL:AY:=(iJ (bJ (bJ (yJ (pJ (bJ (fJ 3 gH (yJ (vJ 0) (yJ (vJ 1) (yJ (vJ 7) wJ)))) itL) (gNm 0) (zFJ) (zAT) 1 [5]) wJ) allF) zQJ) ((BJ (eJ isDx zPL (vJ 5) (yJ (bJ (yJ (pJ (bJ (fJ 2 yZ (yJ (vJ 1) (yJ (vJ 7) wJ))) itL) (gNm 0) (zFK) (zAU) 1 []) wJ) zTY) wJ)))) (JJ))
noncomputable def nZ:AY:=(zFL)
noncomputable def zAV:AY:=(CJ (bJ (yJ (vJ 5) wJ) zPN) 6)
noncomputable def zFM:AY:=(FJ (bJ (vJ 4) itT) (gNm 7) (nZ))
noncomputable def zAA:AY:=zO (zAV) ((zFM))
noncomputable def cY:AZ:=(bJ (dJ ltF (vJ 6) (bJ (yJ (vJ 5) wJ) zPN)) asB)
def zDU:AF:=(CJ (dJ ixF (vJ 1) (kJ (.int 1))) 3)
def zDV:AF:=(CJ (dJ wP (tJ zCH (vJ 3) mJ (bJ (vJ 2) asI)) (tJ zCH (vJ 3) (bJ (dJ wP (vJ 2) (kJ (.int 1))) asI) mJ)) 4)
def zDW:AF:=(CJ (bJ (yJ (pJ (bJ (fJ 3 gH (yJ (vJ 0) (yJ (vJ 1) (yJ (dJ ixF (vJ 3) (vJ 2)) wJ)))) itL) (gNm 0) (zFI) (zAS) 1 []) wJ) zTY) 5)
def zDX:AF:=(CJ (kJ (.int (-1))) 6)
def zIF:AF:=(λρ S=>gB (cY) (zAA) 10000 ρ S)
def zIG:AF:=(AJ (vJ 5))
def zHH:AF:=zO (zDU) (zO (zDV) (zO (zDW) (zO (zDX) (zO (zIF) ((zIG))))))
def zDY(ds:List MV)(S:Sto):R Er:=xF (zHH (yL zAP ds) S)
def dM:AZ:=uJ
def kL:AE:=(dJ (inF false) (vJ 0) (vJ 1))
def zAW:AF:=(AJ (bJ (yJ (pJ (bJ (vJ 0) itL) (gNm 0) (dM) (kL) 1 [1]) wJ) anyF))
def cB:AF:=(zAW)
def kW(ds:List MV)(S:Sto):R Er:=xF (cB (yL ["some","others"] ds) S)
def gS:AZ:=(bJ (dJ (zJH true) (vJ 0) (vJ 1)) asB)
def zBW:AE:=(vJ 0)
def zBX:AZ:=uJ
def gT:AE:=(pJ (bJ (fJ 2 yZ (yJ (vJ 1) (yJ (vJ 0) wJ))) itL) (gNm 0) (gS) (zBW) 1 [2])
noncomputable def zBY:AY:=(iJ (rJ (bJ (dJ (zJH true) (vJ 8) (vJ 5)) asB) (bJ (fJ 2 kW (yJ (vJ 7) (yJ (dJ ixF (vJ 4) (vJ 8)) wJ))) zQJ)) (zO (EJ (kJ (.bl true)) (DJ zFC (vJ 5) (vJ 8))) ((BJ (eJ jQ zKS (vJ 6) (yJ (vJ 8) wJ))))) (JJ))
noncomputable def jX:AY:=(zBY)
noncomputable def gU:AY:=(CJ (dJ ixF (vJ 4) (gJ jQ zNB (vJ 6))) 7)
noncomputable def zBZ:AY:=(FJ (bJ (yJ (bJ (yJ (vJ 4) wJ) zDK) wJ) gE) (gNm 8) (jX))
noncomputable def jY:AY:=zO (gU) ((zBZ))
noncomputable def wF:AZ:=(bJ (vJ 6) zQJ)
def dW:AF:=(CJ (fJ 3 zDY (yJ (vJ 0) (yJ (vJ 1) (yJ (vJ 2) wJ)))) 3)
def dX:AF:=(CJ (pJ (bJ (dJ ixF (vJ 1) (kJ (.int 1))) itT) (gNm 0) (zBX) (gT) 1 [1,3]) 4)
def dY:AF:=(CJ (d1J (vJ 2) (kJ (.bl true))) 5)
def dZ:AF:=(CJ (bJ (yJ (vJ 2) wJ) bT) 6)
def zEN:AF:=(λρ S=>gB (wF) (jY) 10000 ρ S)
def zEO:AF:=(AJ (bJ (yJ (vJ 5) wJ) zFD))
def zCN:AF:=zO (dW) (zO (dX) (zO (dY) (zO (dZ) (zO (zEN) ((zEO))))))
def cZ(ds:List MV)(S:Sto):R Er:=xF (zCN (yL zCJ ds) S)
def zFN:AZ:=(bJ (dJ neF (vJ 0) (vJ 1)) asB)
def zFO:AE:=(bJ (yJ (vJ 1) (yJ (vJ 0) wJ)) zDJ)
noncomputable def zKJ:AY:=(BJ (eJ jQ extF (vJ 2) (yJ (pJ (bJ (fJ 3 cZ (yJ (vJ 0) (yJ (vJ 1) (yJ (vJ 3) wJ)))) itL) (gNm 0) (zFN) (zFO) 1 [3]) wJ)))
noncomputable def zGG:AY:=(zKJ)
def zJK:AF:=(BJ (fJ 1 wA (yJ (vJ 1) wJ)))
def zJL:AF:=(CJ (bJ wJ bT) 2)
def zJM:AF:=(FJ (bJ (yJ (bJ (yJ (dJ ixF (vJ 1) (kJ (.int 1))) wJ) zDK) wJ) gE) (gNm 3) (zGG))
def zPQ:AF:=(AJ (bJ (yJ (vJ 2) wJ) zPG))
def zRH:AF:=zO (zJK) (zO (zJL) (zO (zJM) ((zPQ))))
def zGH(ds:List MV)(S:Sto):R Er:=xF (zRH (yL zRG ds) S)
noncomputable def zHI:AY:=(iJ (bJ (dJ (inF false) (bJ (yJ (vJ 4) (yJ (vJ 3) wJ)) zDJ) (vJ 2)) asB) ((AJ (bJ (yJ (vJ 3) (yJ (vJ 4) wJ)) bT))) (JJ))
noncomputable def zIH:AY:=(zHI)
def zND:AF:=(CJ (fJ 2 zGH (yJ (vJ 0) (yJ (vJ 1) wJ))) 2)
def zNE:AF:=(FJ (bJ (vJ 2) itL) (gTp 2 (yF (gNm 3) (yF (gNm 4) dF))) (zIH))
def yFA:AF:=(AJ (kJ .non))
def zXA:AF:=zO (zND) (zO (zNE) ((yFA)))
def zJN(ds:List MV)(S:Sto):R Er:=xF (zXA (yL yEZ ds) S)
def cC:AF:=(iJ (bJ (dJ ltF (vJ 1) (bJ (yJ (vJ 0) wJ) zDK)) asB) ((AJ (dJ ixF (vJ 0) (vJ 1)))) (JJ))
def zJO:AF:=(AJ (kJ (.int 0)))
def zAX:AF:=zO (cC) ((zJO))
def zU(ds:List MV)(S:Sto):R Er:=xF (zAX (yL ["_law_script","_law_k"] ds) S)
noncomputable def gC:AY:=(CJ (dJ wP (vJ 3) (dJ ixF (vJ 1) (dJ wL (vJ 0) (kJ (.int 26))))) 3)
noncomputable def gD:AY:=(CJ (dJ jA (vJ 0) (kJ (.int 26))) 0)
noncomputable def cE:AY:=zO (gC) ((gD))
def cF:AF:=(CJ (kJ (.str [97,98,99,100,101,102,103,104,105,106,107,108,109,110,111,112,113,114,115,116,117,118,119,120,121,122])) 1)
def cG:AF:=(CJ (dJ wP (kJ (.int 1)) (dJ wL (vJ 0) (kJ (.int 8)))) 2)
def cH:AF:=(CJ (dJ jA (vJ 0) (kJ (.int 8))) 0)
def cI:AF:=(CJ (kJ (.str [])) 3)
def cJ:AF:=(FJ (bJ (yJ (vJ 2) wJ) gE) (gNm 4) (cE))
def zDA:AF:=(AJ (bJ (yJ (vJ 3) (yJ (vJ 0) wJ)) zDJ))
def zAY:AF:=zO (cF) (zO (cG) (zO (cH) (zO (cI) (zO (cJ) ((zDA))))))
def wG(ds:List MV)(S:Sto):R Er:=xF (zAY (yL zFF ds) S)
noncomputable def xG:AY:=(iJ (bJ (dJ (inF false) (vJ 4) (vJ 2)) asB) ((CJ (dJ wP (tJ zCH (vJ 4) mJ (bJ (kJ (.int 7)) asI)) (vJ 5)) 4)) (JJ))
noncomputable def yQ:AY:=(xG)
noncomputable def xH:AY:=(EJ (fJ 1 wG (yJ (vJ 0) wJ)) (gTp 2 (yF (gNm 4) (yF (gNm 0) dF))))
noncomputable def xI:AY:=(FJ (bJ (kJ (.str [97,98,99,100,101,102,103,104,105,106])) itS) (gNm 5) (yQ))
noncomputable def xK:AY:=(BJ (eJ jQ zKS (vJ 2) (yJ (vJ 4) wJ)))
noncomputable def xW:AY:=zO (xH) (zO (xI) ((xK)))
def xX:AF:=(CJ (bJ wJ bT) 2)
def xY:AF:=(FJ (bJ (yJ (vJ 1) wJ) gE) (gNm 3) (xW))
def jR:AF:=(AJ (vJ 2))
def wQ:AF:=zO (xX) (zO (xY) ((jR)))
def xA(ds:List MV)(S:Sto):R Er:=xF (wQ (yL gR ds) S)
noncomputable def cK:AY:=(CJ (dJ wP (dJ jA (vJ 0) (dJ wP (kJ (.int 49)) (dJ zEW (kJ (.int 5)) (vJ 8)))) (dJ zEW (vJ 8) (dJ wL (dJ jA (vJ 0) (kJ (.int 49))) (kJ (.int 3))))) 9)
noncomputable def cL:AY:=(iJ (bJ (dJ eqF (vJ 8) (vJ 4)) asB) ((CJ (dJ wP (vJ 9) (dJ zEW (kJ (.int 3)) (vJ 6))) 9)) (JJ))
noncomputable def zDB:AY:=(CJ (dJ wP (vJ 7) (dJ ixF (vJ 2) (dJ wL (vJ 9) (kJ (.int 26))))) 7)
noncomputable def gV:AY:=zO (cK) (zO (cL) ((zDB)))
noncomputable def cM:AY:=(CJ (kJ (.str [])) 7)
noncomputable def cN:AY:=(FJ (bJ (yJ (vJ 3) wJ) gE) (gNm 8) (gV))
noncomputable def cO:AY:=(BJ (eJ jQ zKS (vJ 5) (yJ (vJ 7) wJ)))
noncomputable def zAZ:AY:=zO (cM) (zO (cN) ((cO)))
def kM:AF:=(iJ (bJ (dJ eqF (dJ wL (vJ 0) (kJ (.int 2))) (kJ (.int 0))) asB) ((AJ (fJ 2 xA (yJ (dJ jA (vJ 0) (kJ (.int 2))) (yJ (vJ 1) wJ))))) (JJ))
def zBA:AF:=(CJ (kJ (.str [97,98,99,100,101,102,103,104,105,106,107,108,109,110,111,112,113,114,115,116,117,118,119,120,121,122])) 2)
def zBB:AF:=(CJ (dJ wL (dJ zEW (dJ wL (dJ zEW (vJ 0) (kJ (.int 69621))) (kJ (.int 2147483629))) (kJ (.int 48271))) (kJ (.int 2147483647))) 0)
def zBC:AF:=(CJ (dJ wP (kJ (.int 1)) (dJ wL (vJ 0) (kJ (.int 7)))) 3)
def zBD:AF:=(CJ (dJ wL (dJ jA (vJ 0) (kJ (.int 7))) (vJ 3)) 4)
def zBE:AF:=(CJ (bJ wJ bT) 5)
def zBF:AF:=(FJ (bJ (yJ (vJ 1) wJ) gE) (gNm 6) (zAZ))
def zBG:AF:=(iJ (bJ (dJ eqF (dJ wL (dJ jA (vJ 0) (kJ (.int 49))) (kJ (.int 4))) (kJ (.int 1))) asB) ((EJ (dJ wP (dJ ixF (vJ 5) (kJ (.int 0))) (dJ ixF (vJ 2) (dJ wL (dJ jA (vJ 0) (kJ (.int 196))) (kJ (.int 26))))) (DJ zTJ (vJ 5) (kJ (.int 1))))) (JJ))
def zFP:AF:=(AJ (vJ 5))
def gW:AF:=zO (kM) (zO (zBA) (zO (zBB) (zO (zBC) (zO (zBD) (zO (zBE) (zO (zBF) (zO (zBG) ((zFP)))))))))
def zAB(ds:List MV)(S:Sto):R Er:=xF (gW (yL zIC ds) S)
noncomputable def cP:AY:=(BJ (eJ jQ zKS (vJ 2) (yJ (dJ wL (vJ 3) (kJ (.int 1000000))) wJ)))
noncomputable def cQ:AY:=(CJ (dJ jA (vJ 3) (kJ (.int 1000000))) 3)
noncomputable def gX:AY:=zO (cP) ((cQ))
noncomputable def cR:AY:=(CJ (dJ wL (dJ wP (dJ wP (dJ zEW (vJ 5) (vJ 5)) (dJ zEW (kJ (.int 48271)) (vJ 5))) (vJ 4)) (kJ (.int 2147483647))) 5)
noncomputable def cS:AY:=(BJ (eJ jQ zKS (vJ 2) (yJ (dJ jA (dJ wL (dJ zEW (vJ 5) (kJ (.int 69621))) (kJ (.int 2147483587))) (kJ (.int 16))) wJ)))
noncomputable def zBH:AY:=zO (cR) ((cS))
def zBI:AF:=(CJ (bJ wJ bT) 2)
def kN:AF:=(iJ (bJ (dJ eqF (dJ wL (vJ 0) (kJ (.int 2))) (kJ (.int 0))) asB) (zO (CJ (dJ jA (vJ 0) (kJ (.int 2))) 3) (zO (FJ (bJ (yJ (vJ 1) wJ) gE) (gNm 4) (gX)) ((AJ (vJ 2))))) (JJ))
def zBJ:AF:=(CJ (dJ wP (dJ wL (vJ 0) (kJ (.int 2147483629))) (kJ (.int 1))) 5)
def zBK:AF:=(FJ (bJ (yJ (vJ 1) wJ) gE) (gNm 4) (zBH))
def zNF:AF:=(AJ (vJ 2))
def gY:AF:=zO (zBI) (zO (kN) (zO (zBJ) (zO (zBK) ((zNF)))))
def yR(ds:List MV)(S:Sto):R Er:=xF (gY (yL zID ds) S)
noncomputable def gZ:AY:=(CJ (dJ wP (dJ wP (kJ (.int 1)) (dJ wL (vJ 3) (kJ (.int 3)))) (bJ (yJ (dJ eqF (dJ wL (dJ jA (vJ 3) (kJ (.int 3))) (kJ (.int 5))) (kJ (.int 0))) wJ) intF)) 4)
noncomputable def bA:AY:=(BJ (eJ jQ zKS (vJ 2) (yJ (bJ (yJ (vJ 4) (yJ (bJ (yJ (vJ 4) (yJ (dJ ixF (bJ (yJ (kJ (.int 0)) (yJ (kJ (.int 1)) (yJ (kJ (.int 1)) (yJ (kJ (.int 1)) (yJ (kJ (.int 2)) (yJ (kJ (.int 4)) wJ)))))) bT) (dJ wL (dJ jA (vJ 3) (kJ (.int 15))) (kJ (.int 6)))) wJ)) zWT) wJ)) zDJ) wJ)))
noncomputable def nA:AY:=zO (gZ) ((bA))
def nB:AF:=(CJ (fJ 2 yR (yJ (vJ 0) (yJ (kJ (.int 5)) wJ))) 1)
def nE:AF:=(CJ (bJ wJ bT) 2)
def nF:AF:=(FJ (bJ (tJ zCH (vJ 1) mJ (bJ (dJ wP (kJ (.int 1)) (dJ wL (dJ ixF (vJ 1) (kJ (.int 4))) (kJ (.int 4)))) asI)) itL) (gNm 3) (nA))
def zEP:AF:=(AJ (bJ (yJ (vJ 2) wJ) zDL))
def zCO:AF:=zO (nB) (zO (nE) (zO (nF) ((zEP))))
def dA(ds:List MV)(S:Sto):R Er:=xF (zCO (yL zGV ds) S)
noncomputable def bB:AY:=(EJ (fJ 1 wG (yJ (dJ jA (vJ 2) (kJ (.int 2))) wJ)) (gTp 2 (yF (gNm 6) (yF (gNm 2) dF))))
noncomputable def kE:AY:=(iJ (bJ (dJ eqF (dJ wL (vJ 2) (kJ (.int 2))) (kJ (.int 1))) asB) (zO (CJ (dJ wP (dJ zKQ (dJ wL (dJ jA (vJ 2) (kJ (.int 2))) (dJ zKQ (dJ zEW (kJ (.int 2)) (dJ zKR (kJ (.int 10)) (kJ (.int 30)))) (kJ (.int 1)))) (dJ zKR (kJ (.int 10)) (kJ (.int 30)))) (kJ (.int 1))) 6) ((CJ (dJ jA (vJ 2) (dJ zKQ (dJ zEW (kJ (.int 2)) (dJ zKR (kJ (.int 10)) (kJ (.int 30)))) (kJ (.int 1)))) 2))) (JJ))
noncomputable def bC:AY:=(iJ (bJ (dJ (inF true) (vJ 6) (vJ 4)) asB) ((BJ (eJ jQ zKS (vJ 4) (yJ (vJ 6) wJ)))) (JJ))
noncomputable def xR:AY:=zO (bB) (zO (kE) ((bC)))
def kF:AZ:=(bJ (dJ (inF true) (vJ 0) (vJ 1)) asB)
def bD:AE:=(vJ 0)
def wU:AF:=(iJ (bJ (dJ eqF (dJ wL (vJ 0) (kJ (.int 2))) (kJ (.int 0))) asB) (zO (CJ (dJ jA (vJ 0) (kJ (.int 2))) 2) (zO (CJ (dJ wP (kJ (.int 2)) (dJ wL (vJ 2) (kJ (.int 3)))) 3) (zO (CJ (dJ jA (vJ 2) (kJ (.int 3))) 2) (zO (CJ (bJ wJ bT) 4) (zO (FJ (bJ (yJ (vJ 3) wJ) gE) (gNm 5) (xR)) ((AJ (dJ wP (vJ 4) (tJ zCH (pJ (bJ (vJ 1) itL) (gNm 0) (kF) (bD) 1 [4]) mJ (bJ (dJ zKQ (kJ (.int 2)) (bJ (yJ (kJ (.int 2)) (yJ (bJ (yJ (vJ 4) wJ) zDK) wJ)) zWT)) asI)))))))))) (JJ))
def nG:AF:=(CJ (dJ wP (dJ zKQ (dJ wL (vJ 0) (dJ zKQ (dJ zEW (kJ (.int 2)) (dJ zKR (kJ (.int 10)) (kJ (.int 30)))) (kJ (.int 2)))) (dJ zKR (kJ (.int 10)) (kJ (.int 30)))) (kJ (.int 1))) 7)
def nH:AF:=(CJ (bJ (yJ (vJ 7) (yJ (dJ wP (vJ 7) (kJ (.int 1))) (yJ (dJ ixF (vJ 1) (kJ (.int 0))) (yJ (dJ ixF (vJ 1) (kJ (.int 1))) wJ)))) bT) 8)
def nI:AF:=(CJ (dJ wL (dJ jA (vJ 0) (kJ (.int 5))) (kJ (.int 4))) 9)
def nK:AF:=(AJ (tJ zCH (dJ wP (tJ zCH (vJ 8) (bJ (vJ 9) asI) mJ) (tJ zCH (vJ 8) mJ (bJ (vJ 9) asI))) mJ (bJ (dJ wP (kJ (.int 2)) (dJ wL (vJ 0) (kJ (.int 3)))) asI)))
def jS:AF:=zO (wU) (zO (nG) (zO (nH) (zO (nI) ((nK)))))
def dB(ds:List MV)(S:Sto):R Er:=xF (jS (yL zCK ds) S)
def jT:AF:=(iJ (bJ (dJ eqF (dJ wL (vJ 0) (kJ (.int 6))) (kJ (.int 0))) asB) ((AJ (bJ (yJ (kJ (.str [105,115])) (yJ (dJ ixF (vJ 2) (dJ wL (dJ jA (vJ 0) (kJ (.int 6))) (bJ (yJ (vJ 2) wJ) zDK))) wJ)) zDJ))) (JJ))
def zGW:AF:=(AJ (bJ (yJ (kJ (.str [118,97,114])) (yJ (dJ ixF (vJ 1) (dJ wL (dJ jA (vJ 0) (kJ (.int 6))) (bJ (yJ (vJ 1) wJ) zDK))) wJ)) zDJ))
def dN:AF:=zO (jT) ((zGW))
def zCA(ds:List MV)(S:Sto):R Er:=xF (dN (yL dL ds) S)
noncomputable def jC:AY:=(iJ (bJ (dJ eqF (dJ ixF (vJ 4) (kJ (.int 0))) (kJ (.str [118,97,114]))) asB) ((EJ (kJ (.bl true)) (DJ zFC (vJ 1) (dJ ixF (vJ 4) (kJ (.int 1)))))) (JJ))
noncomputable def kG:AY:=(jC)
noncomputable def nR:AY:=(FJ (bJ (vJ 3) itT) (gNm 4) (kG))
noncomputable def bE:AY:=(nR)
def bF:AF:=(CJ zJ 1)
def bG:AF:=(FJ (bJ (vJ 0) itL) (gTp 2 (yF (gNm 2) (yF (gNm 3) dF))) (bE))
def zCB:AF:=(AJ (bJ (yJ (vJ 1) wJ) zNA))
def nL:AF:=zO (bF) (zO (bG) ((zCB)))
def jZ(ds:List MV)(S:Sto):R Er:=xF (nL (yL zEM ds) S)
def nS:AZ:=uJ
def jD:AE:=(dJ wL (dJ wP (dJ jA (dJ ixF (vJ 1) (kJ (.int 0))) (kJ (.int 4))) (vJ 0)) (bJ (yJ (vJ 2) wJ) zDK))
def nT:AZ:=uJ
def jE:AE:=(fJ 3 zCA (yJ (vJ 0) (yJ (vJ 1) (yJ (vJ 2) wJ))))
noncomputable def jF:AY:=(CJ (fJ 2 yR (yJ (dJ ixF (vJ 0) (dJ wP (kJ (.int 2)) (vJ 7))) (yJ (kJ (.int 4)) wJ))) 8)
noncomputable def jG:AY:=(CJ (dJ ixF (dJ ixF (vJ 1) (dJ ixF (vJ 5) (vJ 7))) (kJ (.int 0))) 9)
noncomputable def jH:AY:=(BJ (eJ jQ zKS (vJ 6) (yJ (bJ (yJ (dJ ixF (vJ 5) (vJ 7)) (yJ (bJ (yJ (pJ (bJ (tJ zCH (vJ 8) mJ (bJ (vJ 9) asI)) itL) (gNm 0) (nT) (jE) 1 [2,3]) wJ) zDL) wJ)) zDJ) wJ)))
noncomputable def kH:AY:=zO (jF) (zO (jG) ((jH)))
def jI:AZ:=(bJ (dJ eqF (dJ wL (dJ jA (dJ ixF (vJ 1) (kJ (.int 1))) (dJ ixF (bJ (yJ (kJ (.int 1)) (yJ (kJ (.int 3)) (yJ (kJ (.int 9)) (yJ (kJ (.int 27)) wJ)))) bT) (vJ 0))) (kJ (.int 3))) (kJ (.int 1))) asB)
def jK:AE:=(dJ ixF (vJ 2) (vJ 0))
def bH:AF:=(CJ (dJ wP (kJ (.int 1)) (dJ wL (dJ ixF (vJ 0) (kJ (.int 0))) (bJ (yJ (vJ 1) wJ) zDK))) 4)
def bI:AF:=(CJ (pJ (bJ (yJ (bJ (yJ (vJ 1) wJ) zDK) wJ) gE) (gNm 0) (nS) (jD) 1 [0,1]) 5)
def bK:AF:=(iJ (bJ (dJ eqF (dJ wL (dJ jA (dJ ixF (vJ 0) (kJ (.int 0))) (kJ (.int 16))) (kJ (.int 2))) (kJ (.int 1))) asB) ((BJ (gJ jQ yBF (vJ 5)))) (JJ))
def bL:AF:=(CJ (bJ wJ bT) 6)
def bM:AF:=(FJ (bJ (yJ (vJ 4) wJ) gE) (gNm 7) (kH))
def bN:AF:=(CJ (fJ 1 jZ (yJ (vJ 6) wJ)) 10)
def bO:AF:=(CJ (pJ (bJ (yJ (bJ (yJ (vJ 10) wJ) zDK) wJ) gE) (gNm 0) (jI) (jK) 1 [0,10]) 11)
def bP:AF:=(iJ (bJ (dJ eqF (dJ wL (dJ jA (dJ ixF (vJ 0) (kJ (.int 1))) (kJ (.int 81))) (kJ (.int 2))) (kJ (.int 1))) asB) ((BJ (gJ jQ yBF (vJ 11)))) (JJ))
def bQ:AF:=(AJ (bJ (yJ (bJ (yJ (tJ zCH (vJ 11) mJ (bJ (kJ (.int 2)) asI)) wJ) zDL) (yJ (bJ (yJ (vJ 6) wJ) zDL) wJ)) zDJ))
def nM:AF:=zO (bH) (zO (bI) (zO (bK) (zO (bL) (zO (bM) (zO (bN) (zO (bO) (zO (bP) ((bQ)))))))))
def wV(ds:List MV)(S:Sto):R Er:=xF (nM (yL wT ds) S)
noncomputable def zDC:AY:=(iJ (rJ (bJ (dJ eqF (dJ ixF (dJ ixF (vJ 3) (vJ 4)) (kJ (.int 0))) (kJ (.str [118,97,114]))) asB) (rJ (bJ (dJ (inF true) (dJ ixF (vJ 3) (vJ 4)) (tJ zCH (vJ 3) mJ (bJ (dJ ixF (dJ ixF (vJ 0) (vJ 2)) (kJ (.int 1))) asI))) asB) (bJ (dJ (inF true) (dJ ixF (dJ ixF (vJ 3) (vJ 4)) (kJ (.int 1))) (dJ ixF (vJ 1) (kJ (.int 0)))) asB))) ((AJ (kJ (.bl false)))) (JJ))
noncomputable def xL:AY:=(zDC)
noncomputable def zDD:AY:=(FJ (bJ (yJ (dJ ixF (dJ ixF (vJ 0) (vJ 2)) (kJ (.int 1))) (yJ (bJ (yJ (vJ 3) wJ) zDK) wJ)) zTC) (gNm 4) (xL))
noncomputable def wH:AY:=(zDD)
def zBL:AF:=(FJ (bJ (dJ ixF (vJ 1) (kJ (.int 1))) itT) (gTp 2 (yF (gNm 2) (yF (gNm 3) dF))) (wH))
def zNG:AF:=(AJ (kJ (.bl true)))
def bR:AF:=zO (zBL) ((zNG))
def zAC(ds:List MV)(S:Sto):R Er:=xF (bR (yL zIE ds) S)
def zPR:AZ:=uJ
def zJP:AE:=(fJ 2 zU (yJ (vJ 1) (yJ (dJ wP (kJ (.int 3)) (vJ 0)) wJ)))
noncomputable def zPS:AY:=(iJ (rJ (bJ (dJ eqF (vJ 9) (vJ 8)) asB) (rJ (bJ (dJ neF (vJ 10) (vJ 7)) asB) (rJ (bJ (dJ (inF true) (bJ (yJ (vJ 7) (yJ (vJ 10) wJ)) zDJ) (vJ 6)) asB) (bJ (dJ (inF true) (bJ (yJ (vJ 8) (yJ (vJ 7) wJ)) zDJ) (vJ 6)) asB)))) ((AJ (kJ (.bl false)))) (JJ))
noncomputable def zLG:AY:=(zPS)
noncomputable def zPT:AY:=(FJ (bJ (vJ 6) itL) (gTp 2 (yF (gNm 9) (yF (gNm 10) dF))) (zLG))
noncomputable def zRI:AY:=(zPT)
def zJQ:AZ:=(bJ (dJ (inF false) (bJ (yJ (dJ ixF (vJ 0) (kJ (.int 1))) (yJ (dJ ixF (vJ 0) (kJ (.int 0))) wJ)) zDJ) (vJ 1)) asB)
def zPU:AE:=(vJ 0)
def zRJ:AF:=(CJ (fJ 2 zAB (yJ (fJ 2 zU (yJ (vJ 0) (yJ (kJ (.int 0)) wJ))) (yJ (kJ (.int 6)) wJ))) 1)
def zRK:AF:=(CJ (fJ 1 dA (yJ (fJ 2 zU (yJ (vJ 0) (yJ (kJ (.int 1)) wJ))) wJ)) 2)
def zRL:AF:=(CJ (fJ 2 dB (yJ (fJ 2 zU (yJ (vJ 0) (yJ (kJ (.int 2)) wJ))) (yJ (tJ zCH (vJ 1) (bJ (kJ (.int 4)) asI) mJ) wJ))) 3)
def zRM:AF:=(CJ (pJ (bJ (yJ (kJ (.int 6)) wJ) gE) (gNm 0) (zPR) (zJP) 1 [0]) 4)
def zRN:AF:=(CJ (fJ 4 wV (yJ (vJ 4) (yJ (vJ 2) (yJ (tJ zCH (vJ 1) mJ (bJ (dJ ixF (bJ (yJ (kJ (.int 4)) (yJ (kJ (.int 2)) (yJ (kJ (.int 3)) wJ))) bT) (dJ wL (fJ 2 zU (yJ (vJ 0) (yJ (kJ (.int 9)) wJ))) (kJ (.int 3)))) asI)) (yJ (vJ 3) wJ))))) 5)
def zRO:AF:=(CJ (fJ 2 zGH (yJ (vJ 2) (yJ (vJ 5) wJ))) 6)
def zRP:AF:=(FJ (bJ (vJ 6) itL) (gTp 2 (yF (gNm 7) (yF (gNm 8) dF))) (zRI))
def zLH:AF:=(CJ (fJ 2 zJN (yJ (vJ 2) (yJ (vJ 5) wJ))) 11)
def dC:AF:=(iJ (sJ (bJ (dJ eqF (bJ (yJ (dJ ixF (vJ 5) (kJ (.int 1))) wJ) zDK) (kJ (.int 1))) asB) (bJ (fJ 2 zAC (yJ (vJ 2) (yJ (vJ 5) wJ))) zQJ)) ((AJ (aJ (dJ zTF (vJ 11) (kJ .non)) (dJ eqF (vJ 6) (bJ wJ bT))))) (JJ))
def zII:AF:=(AJ (oJ (dJ zTF (vJ 11) (kJ .non)) (dJ neF (pJ (bJ (vJ 6) itL) (gNm 0) (zJQ) (zPU) 1 [6]) (bJ wJ bT))))
def zZC:AF:=zO (zRJ) (zO (zRK) (zO (zRL) (zO (zRM) (zO (zRN) (zO (zRO) (zO (zRP) (zO (zLH) (zO (dC) ((zII))))))))))
def zUF(ds:List MV)(S:Sto):R Er:=xF (zZC (yL zZB ds) S)
end
section
variable(K F:Nat->List (List Nat))(n:Nat)
inductive Kn(i:Nat):List Nat->Prop
 |key {x:List Nat}:x∈K i->Kn i x
 |step {x:List Nat} (j:Nat):j<n->j≠i->(∀y,y∈K j->Kn i y)->x∈F j->Kn i x
inductive Rc(i:Nat):Nat->Prop
 |self:Rc i i
 |step {x:List Nat} (j k:Nat):Rc i j->k<n->x∈F j->x∈F k-> ¬Kn K F n i x->Rc i k
end
section
variable{K F:Nat->List (List Nat)}{n:Nat}
theorem yJT{a b:Nat}(h:Rc K F n a b)(hne:b≠a): ∃z,z∈F b/\ ¬Kn K F n a z:=by
 cases h with
 |self=>exact absurd rfl hne
 |step j k hj hk h1 h2 h3=>exact⟨_,h2,h3⟩
theorem yJU{a b:Nat}(hK: ∀j,j<n-> ∀y,y∈K j->y∈F j)(ha:a<n)(hab:Rc K F n a b)(hne:b≠a){x:List Nat}(hx:Kn K F n a x): ∀j,Rc K F n b j->x∈F j-> ¬Kn K F n b x->Rc K F n b a:=by
 induction hx with
 |key h=>exact λj hj h1 h2=>.step j a hj ha h1 (hK a ha _ h) h2
 |@step x m hm hma hall hxm ih=>
  intro j hj h1 h2
  by_cases hmb:m=b
  ·subst hmb
   obtain⟨z,hz,hn⟩:=yJT hab hne
   exact absurd (.step m hm hma hall hz) hn
  ·by_cases hex: ∃y,y∈K m/\ ¬Kn K F n b y
   ·obtain⟨y,hy,hyn⟩:=hex
    exact ih y hy m (.step j m hj hm h1 hxm h2) (hK m hm y hy) hyn
   ·exact absurd (.step m hm hmb (λy hy=>Classical.byContradiction λz=>hex ⟨y,hy,z⟩) hxm) h2
theorem yPP{a b c:Nat}(hK: ∀j,j<n-> ∀y,y∈K j->y∈F j)(ha:a<n)(hab:Rc K F n a b)(hne:b≠a)(hbc:Rc K F n b c):Rc K F n a c\/Rc K F n b a:=by
 induction hbc with
 |self=>exact .inl hab
 |@step x j k hj hk h1 h2 h3 ih=>
  rcases ih with ih|ih
  ·by_cases hx:Kn K F n a x
   ·exact .inr (yJU hK ha hab hne hx j hj h1 h3)
   ·exact .inl (.step j k ih hk h1 h2 hx)
  ·exact .inr ih
end
theorem yJV{b:Int}(h:zWK 0 b)(a:Int)(S:Sto):jA (.val (.int a)) (.val (.int b)) S=.ok (.val (.int (a / b))) S:=iP (show zWK a b from h)
theorem zCC{S:Sto}{l:Nat}{ds:List MV}{d:MV}(hS:S[l]? =some (.lst ds))(hz:ds.length<1000000):zKS (.val (.loc l)) [.val d] S=.ok (.val .non) (S.set l (.lst (ds++[d]))):=by
 show zHW (.val (.loc l)) S (λds=>if ds.length<sizeLine then some (ds++[d])else none)=_
 unfold zHW
 dsimp only
 rw [hS]
 dsimp only
 rw [iP (lt_of_lt_of_le hz (fits (le_refl _)))]
theorem hX{S:Sto}{l:Nat}{ds:List MV}(hS:S[l]? =some (.lst ds)):jQ (.val (.loc l)) S=true:=by
 unfold jQ
 rw [zCW hS];rfl
theorem yFB{S:Sto}{l:Nat}{ds:List MV}{k:Int}{j:Nat}{d:MV}{ρ:Rho}(hS:S[l]? =some (.lst ds))(hj:ixN ds.length k=some j):zTJ (.val (.loc l)) (.val (.int k)) d ρ S=.ok ρ (S.set l (.lst (ds.set j d))):=by
 unfold zTJ
 dsimp only
 rw [hS]
 dsimp only
 rw [hj]
theorem zPV{S:Sto}{l:Nat}{ds:List MV}(hS:S[l]? =some (.lst ds)):zDL [.val (.loc l)] S=.ok (.val (.tup ds)) S:=by
 show(match jP S (.val (.loc l))with |some ds=>R.ok (Er.val (.tup ds)) S|none=>.no)=_
 rw [zCW hS]
theorem zAD(ds:List MV)(S:Sto):zDK [.val (.tup ds)] S=.ok (.val (.int ds.length)) S:=rfl
theorem zDZ(gf:MV->Rho->Sto->R Rho)(ρ:Rho)(d:MV)(S:Sto):asgF gf ρ (.val d) S=(gf d ρ S).bind λρ' S2=>.ok (.next ρ') S2:=rfl
def tbl(p:Int×Int):MV:=.tup [.int p.1,.int p.2]
mutual
def pd:MV->Bool
 |.int _=>true
 |.str _=>true
 |.tup ds=>pdL ds
 |_=>false
def pdL:List MV->Bool
 |[]=>true
 |d::ds=>pd d&&pdL ds
end
mutual
def dpt:MV->Nat
 |.tup ds=>zRQ ds+1
 |_=>0
def zRQ:List MV->Nat
 |[]=>0
 |d::ds=>max (dpt d) (zRQ ds)
end
theorem zJR(ds:List MV):pd (.tup ds)=pdL ds:=by rw [pd]
theorem zLI:pdL []=true:=by rw [pdL]
theorem jU(d:MV)(ds:List MV):pdL (d::ds)=(pd d&&pdL ds):=by rw [pdL]
theorem zIJ(ds:List MV):dpt (.tup ds)=zRQ ds+1:=by rw [dpt]
theorem kX(d:MV)(ds:List MV):zRQ (d::ds)=max (dpt d) (zRQ ds):=by rw [zRQ]
theorem zIK:zRQ []=0:=by rw [zRQ]
theorem zRR(i:Int):pd (.int i)=true:=by rw [pd]
theorem zBM(i:List Nat):pd (.str i)=true:=by rw [pd]
theorem zLJ(i:Int):dpt (.int i)=0:=by simp [dpt]
theorem zEA(i:List Nat):dpt (.str i)=0:=by simp [dpt]
theorem zRS: ∀{ds:List MV},pdL ds=true-> ∀d∈ds,pd d=true
 |[],_,d,h=>by simp at h
 |e::ds,hp,d,h=>by
  rw [jU,aE]at hp
  rcases mC.mp h with rfl|h
  ·exact hp.1
  ·exact zRS hp.2 d h
theorem zUG: ∀{ds:List MV}, ∀d∈ds,dpt d<=zRQ ds
 |[],d,h=>by simp at h
 |e::ds,d,h=>by
  rw [kX]
  rcases mC.mp h with rfl|h
  ·exact Nat.le_max_left _ _
  ·exact le_trans (zUG d h) (Nat.le_max_right _ _)
theorem zUH{d:MV}(h:pd d=true):(∃i,d=.int i)\/(∃x,d=.str x)\/ ∃ds,d=.tup ds/\pdL ds=true:=by
 cases d with
 |int i=>exact .inl ⟨i,rfl⟩
 |str x=>exact .inr (.inl ⟨x,rfl⟩)
 |tup ds=>exact .inr (.inr ⟨ds,rfl,by rw [<-zJR];exact h⟩)
 |_=>rw [pd]at h<;>first |cases h|(intros;simp)
theorem dec_is{p:Prop}[Decidable p]{q:Prop}[Decidable q](h:p↔q):decide p=decide q:=by
 by_cases hq:q
 ·rw [dT0 hq,dT0 (h.mpr hq)]
 ·rw [dF0 hq,dF0 λz=>hq (h.mp z)]
theorem zUI{e:MV->MV->Option Bool}: ∀{ds es:List MV},(∀d∈ds, ∀f∈es,e d f=some (decide (d=f)))-> ∃bs,prs e ds es=some bs/\(bs.all id&&ds.length==es.length)=decide (ds=es)
 |[],[],_=>⟨[],rfl,by simp⟩
 |[],_::_,_=>⟨[],rfl,by simp⟩
 |_::_,[],_=>⟨[],rfl,by simp⟩
 |d::ds,f::es,h=>by
  obtain⟨bs,h1,h2⟩:=zUI (e:=e) (ds:=ds) (es:=es) λa ha b hb=>h a (mO _ ha) b (mO _ hb)
  refine⟨decide (d=f)::bs,?_,?_⟩
  ·unfold prs
   rw [h d mF0 f mF0,h1]
   rfl
  ·by_cases hd:d=f
   ·subst hd
    rw [all_cons,dT0 rfl]
    simp only [id,Bool.true_and,lC]
    rw [show(ds.length+1==es.length+1)=(ds.length==es.length) by simp,h2]
    exact dec_is (by simp)
   ·rw [all_cons,dF0 hd]
    rw [dF0 (show¬(d::ds=f::es)from λz=>hd (List.cons.inj z).1)]
    rfl
theorem zUJ{S:Sto}: ∀(n:Nat){d e:MV},pd d=true->pd e=true->dpt d<n->eqv S n d e=some (decide (d=e))
 |0,d,e,_,_,h=>by omega
 |n+1,d,e,hd,he,h=>by
  rcases zUH hd with⟨i,rfl⟩|⟨x,rfl⟩|⟨ds,rfl,pds⟩<;>rcases zUH he with⟨j,rfl⟩|⟨y,rfl⟩|⟨es,rfl,pes⟩
  ·rw [zGC];exact congrArg some (dec_is (by simp))
  ·rw [yOK,dF0 (by simp)]
  ·rw [dF0 (by simp)];rfl
  ·rw [yOL,dF0 (by simp)]
  ·rw [zYC];exact congrArg some (dec_is (by simp))
  ·rw [dF0 (by simp)];rfl
  ·rw [dF0 (by simp)];rfl
  ·rw [dF0 (by simp)];rfl
  ·rw [zIJ]at h
   obtain⟨bs,h1,h2⟩:=zUI (e:=eqv S n) (ds:=ds) (es:=es) λa ha b hb=>zUJ n (zRS pds a ha) (zRS pes b hb) (by have:=zUG a ha;omega)
   show((prs (eqv S n) ds es).map λbs=>bs.all id&&ds.length==es.length)=_
   rw [h1]
   show some (bs.all id&&ds.length==es.length)=_
   rw [h2]
   exact congrArg some (dec_is (by simp))
theorem zIL{S:Sto}{d:MV}(hd:pd d=true): ∀{ys:List MV},(∀y∈ys,pd y=true/\dpt y<40)->zTG S zM d ys=some (ys.map λy=>decide (y=d))
 |[],_=>rfl
 |y::ys,h=>by
  have h1:=h y mF0
  unfold zTG
  rw [zUJ zM h1.1 hd (by unfold zM;exact h1.2),zIL hd λz hz=>h z (mO _ hz)]
  rfl
theorem zRT{n:Nat}{F:List MV->Sto->R Er}{rs:List Er}{S:Sto}{b:Bool}(hn:rs.length=n)(hF:F (zN rs S).1 (zN rs S).2=.ok (.val (.bl b)) S):zZ n F rs S=.ok (.val (.bl b)) S:=zCV hn hF (yLM _ _) (λl=>by simp)
def SqM(S:Sto)(m:MV)(ds:List MV):Prop:=m=.tup ds\/ ∃l,m=.loc l/\S[l]? =some (.lst ds)
theorem SqM.len{S:Sto}{m:MV}{ds:List MV}(h:SqM S m ds):zDK [.val m] S=.ok (.val (.int ds.length)) S:=by
 rcases h with rfl|⟨l,rfl,hS⟩
 ·rfl
 ·exact zGF hS
theorem zUK{n:Nat}{F:List MV->Sto->R Er}{rs:List Er}{S T:Sto}{r:Er}{ds:List MV}{as:List MV}{S2:Sto}(hn:rs.length=n)(hE:zN rs S=(as,S2))(hF:F as S2=.ok r (S++T))(hr:r=.new ds\/ ∃l,r=.val (.loc l)/\S.length<=l/\(S++T)[l]? =some (.lst ds))(h:loL S.length ds):zZ n F rs S=.ok (.new ds) S:=by
 have hF':F (zN rs S).1 (zN rs S).2=.ok r (S++T):=by rw [hE];exact hF
 rcases hr with rfl|⟨l,rfl,h1,h2⟩
 ·exact gQ hn hF' h
 ·exact zEY hn hF' h1 h2 h
theorem yJW(neg:Bool)(p:Er)(l:Nat)(S:Sto):inF neg p (.val (.loc l)) S=zHE neg p (.val (.loc l)) S:=by
 unfold inF
 split
 ·rename_i h;cases h
 ·rfl
theorem zGI{S:Sto}{l:Nat}{d:MV}{ys:List MV}(neg:Bool)(hS:S[l]? =some (.lst ys))(hd:pd d=true)(h: ∀y∈ys,pd y=true/\dpt y<40):inF neg (.val d) (.val (.loc l)) S=.ok (.val (.bl (if neg=true then !decide (d∈ys)else decide (d∈ys)))) S:=by
 have e1:itemsOf S (.val (.loc l))=some ys:=by unfold itemsOf;exact zCW hS
 rw [yJW]
 unfold zHE
 dsimp only
 rw [e1]
 dsimp only
 rw [zIL hd h]
 dsimp only
 have ha:(ys.map λy=>decide (y=d)).any id=decide (d∈ys):=by
  rw [List.any_map]
  by_cases hm:d∈ys
  ·rw [dT0 hm,any_eq_true]
   exact⟨d,hm,by simp⟩
  ·rw [dF0 hm]
   rw [any_eq_false]
   intro y hy
   simp only [Function.comp,id,decide_eq_true_eq]
   rintro rfl
   exact hm hy
 rw [ha]
abbrev VAR:List Nat:=[118,97,114]
abbrev IS:List Nat:=[105,115]
def zRU(d:MV):Prop:=(∃x,d=.tup [.str VAR,.str x])\/ ∃v,((∃i,v=.int i)\/ ∃x,v=.str x)/\d=.tup [.str IS,v]
mutual
theorem zPW{n:Nat}: ∀{d:MV},pd d=true->lo n d
 |.int i,_=>zCI n i
 |.str x,_=>zJB n x
 |.tup ds,h=>zDM (yFC (by rw [zJR]at h;exact h))
 |.non,_=>zWN n
 |.bl b,_=>yLM n b
 |.scr ds,h=>by unfold pd at h;cases h
 |.loc l,h=>by unfold pd at h;cases h
 |.typ t,h=>by unfold pd at h;cases h
theorem yFC{n:Nat}: ∀{ds:List MV},pdL ds=true->loL n ds
 |[],_=>wX λd hd=>by simp at hd
 |d::ds,h=>by
  rw [jU,aE]at h
  unfold loL
  exact⟨zPW h.1,yFC h.2⟩
end
theorem zUL{d:MV}(h:zRU d):pd d=true/\dpt d<=1:=by
 rcases h with⟨x,rfl⟩|⟨v,⟨i,rfl⟩|⟨x,rfl⟩,rfl⟩
 ·exact⟨by rw [zJR,jU,jU,zLI,zBM,zBM];rfl,by rw [zIJ,kX,kX,zIK,zEA,zEA];decide⟩
 ·exact⟨by rw [zJR,jU,jU,zLI,zBM,zRR];rfl,by rw [zIJ,kX,kX,zIK,zEA,zLJ];decide⟩
 ·exact⟨by rw [zJR,jU,jU,zLI,zBM,zBM];rfl,by rw [zIJ,kX,kX,zIK,zEA,zEA];decide⟩
def vn:MV->Option (List Nat)
 |.tup [.str w,.str x]=>if w=VAR then some x else none
 |_=>none
theorem yFD(x:List Nat):vn (.tup [.str VAR,.str x])=some x:=by simp [vn]
theorem zUM(S:Sto):eqF (.val (.str VAR)) (.val (.str VAR)) S=.ok (.val (.bl true)) S:=by rw [eq_str,dT0 rfl]
theorem yFE(S:Sto):eqF (.val (.str IS)) (.val (.str VAR)) S=.ok (.val (.bl false)) S:=by rw [eq_str,dF0 (by decide)]
theorem zL(S:Sto)(o:MO):(S++[o])[S.length]? =some o:=by simp
theorem xT(S:Sto)(o o':MO):(S++[o]).set S.length o'=S++[o']:=by simp
theorem zRV{fs:List (List Nat)}: ∀y∈fs.map MV.str,pd y=true/\dpt y<40:=λd hd=>by obtain⟨u,_,rfl⟩:=mM.mp hd;exact⟨zBM u,by rw [zEA];decide⟩
theorem zZD{x:List Nat}{fs:List (List Nat)}:MV.str x∈fs.map MV.str↔x∈fs:=⟨λh=>by obtain⟨u,hu,e⟩:=mM.mp h;cases e;exact hu,λh=>mM.mpr ⟨x,h,rfl⟩⟩
theorem zNH(a b:MV)(S:Sto):ixF (.val (.tup [a,b])) (.val (.int 0)) S=.ok (.val a) S:=rfl
theorem zGO(a b:MV)(S:Sto):ixF (.val (.tup [a,b])) (.val (.int 1)) S=.ok (.val b) S:=rfl
theorem SqM.itQ{S:Sto}{m:MV}{ds:List MV}(h:SqM S m ds): ∃gs,(∀T,stay gs (S++T))/\ ∀T,itQ (.val m) (S++T)=.ok ⟨ds,gs⟩ (S++T):=by
 rcases h with rfl|⟨l,rfl,hS⟩
 ·exact⟨[],λT=>yU _,λT=>rfl⟩
 ·have hT: ∀T,(S++T)[l]? =some (.lst ds):=λT=>by rw [getElem?_append_left (gS0.mp hS).1];exact hS
  refine⟨[(l,ds)],λT=>dI (hT T),λT=>?_⟩
  have e:srcOf (S++T) (.val (.loc l))=some ⟨true,ds,[(l,ds)]⟩:=by
   unfold srcOf
   dsimp only
   rw [hT T]
  unfold L2.M.itQ
  rw [e]
theorem zUN{kvs:List (MV×MV)}{k:MV}(h:(look kvs k).isSome=true):k∈kvs.map (·.1):=by
 unfold look at h
 rw [Option.isSome_map]at h
 obtain⟨p,hp⟩:=Option.isSome_iff_exists.mp h
 have h1:=List.find?_some hp
 exact mM.mpr ⟨p,List.mem_of_find?_eq_some hp,of_decide_eq_true h1⟩
theorem tup2(a b:MV)(S:Sto):zDJ [.val a,.val b] S=.ok (.val (.tup [a,b])) S:=zWP (by simp)
theorem zNI(ds:List MV)(S:Sto):itT (.val (.tup ds)) S=.ok ⟨ds,[]⟩ S:=rfl
theorem lst1(a:MV)(S:Sto):bT [.val a] S=.ok (.new [a]) S:=zEZ (by simp)
noncomputable def zCP(ks:List (List Nat))(x:List Nat):List (List Nat):=if x∈ks then ks else ks++[x]
theorem zUO(ks:List (List Nat))(x y:List Nat):y∈zCP ks x↔y∈ks\/y=x:=by
 unfold zCP
 split
 ·rename_i h
  exact⟨.inl,λz=>z.elim id λe=>e▸h⟩
 ·rw [mem_append,mS]
theorem zZE{ks:List (List Nat)}(h:ks.Nodup)(x:List Nat):(zCP ks x).Nodup:=by
 unfold zCP
 split
 ·exact h
 ·rename_i hx
  exact nodup_append.mpr ⟨h,by simp,λa ha b hb=>by rw [mS.mp hb];rintro rfl;exact hx ha⟩
theorem zUP(ks:List (List Nat))(x:List Nat):(zCP ks x).length<=ks.length+1:=by
 unfold zCP
 split
 ·omega
 ·rw [lA,lS];omega
noncomputable def nN(ks xs:List (List Nat)):List (List Nat):=xs.foldl zCP ks
theorem dO: ∀(xs ks:List (List Nat))(y:List Nat),y∈nN ks xs↔y∈ks\/y∈xs
 |[],ks,y=>by simp [nN]
 |x::xs,ks,y=>by
  show y∈nN (zCP ks x) xs↔_
  rw [dO xs,zUO,mC,or_assoc]
theorem zRW: ∀(xs:List (List Nat)){ks:List (List Nat)},ks.Nodup->(nN ks xs).Nodup
 |[],_,h=>h
 |x::xs,_,h=>zRW xs (zZE h x)
theorem zDE: ∀(xs ks:List (List Nat)),(nN ks xs).length<=ks.length+xs.length
 |[],ks=>le_refl _
 |x::xs,ks=>by
  have h1:=zDE xs (zCP ks x)
  have h2:=zUP ks x
  show(nN (zCP ks x) xs).length<=_
  rw [lC]
  omega
def dT(ks:List (List Nat)):List (MV×MV):=ks.map λx=>(.str x,.bl true)
theorem zRX(ks:List (List Nat)):(dT ks).map (·.1)=ks.map MV.str:=by
 unfold dT
 rw [map_map]
 rfl
theorem zZF(ks:List (List Nat))(x:List Nat):(look (dT ks) (.str x)).isSome=decide (x∈ks):=by
 by_cases h:x∈ks
 ·rw [dT0 h]
  unfold look
  rw [Option.isSome_map,List.find?_isSome]
  exact⟨(.str x,.bl true),mM.mpr ⟨x,h,rfl⟩,by simp⟩
 ·rw [dF0 h]
  cases z:(look (dT ks) (.str x)).isSome with
  |false=>rfl
  |true=>
   have:=zUN z
   rw [zRX]at this
   exact absurd (zZD.mp this) h
theorem yFF(ks:List (List Nat))(x:List Nat):zMK (dT ks) (.str x) (.bl true)=dT (zCP ks x):=by
 unfold zMK zCP
 rw [zZF]
 by_cases h:x∈ks
 ·rw [iP h,iP (dT0 h)]
  unfold dT
  rw [map_map]
  refine List.map_congr_left λy _=>?_
  show(if MV.str y=MV.str x then(MV.str y,MV.bl true)else(MV.str y,MV.bl true))=_
  split<;>rfl
 ·rw [iN h,iN (by rw [dF0 h];exact xF0)]
  unfold dT
  rw [map_append]
  rfl
theorem zKK(ks:List (List Nat)):(dT ks).all (λp=>zHZ p.1)=true:=by
 unfold dT
 rw [all_map,all_eq_true]
 intro x _
 rfl
theorem zFQ{S:Sto}{l:Nat}{kvs:List (MV×MV)}(h:S[l]? =some (.dic kvs))(ha:kvs.all (λp=>zHZ p.1)=true):zIA S (.val (.loc l))=some (l,kvs):=by
 unfold zIA
 dsimp only
 rw [h]
 dsimp only
 rw [iP ha]
theorem zZG{S:Sto}{l:Nat}{ks:List (List Nat)}(h:S[l]? =some (.dic (dT ks)))(hl:ks.length<1000000)(x:List Nat)(ρ:Rho):zFC (.val (.loc l)) (.val (.str x)) (.bl true) ρ S=.ok ρ (S.set l (.dic (dT (zCP ks x)))):=by
 unfold zFC
 dsimp only
 rw [zFQ h (zKK ks)]
 dsimp only
 rw [iP ⟨rfl,by unfold dT;rw [lM];exact hl⟩,yFF]
theorem yFG{S:Sto}{l:Nat}{ks:List (List Nat)}(h:S[l]? =some (.dic (dT ks))):zFD [.val (.loc l)] S=.ok (.new (ks.map MV.str)) S:=by
 unfold zFD
 dsimp only
 rw [zFQ h (zKK ks)]
 dsimp only
 rw [zRX]
abbrev D4(m:MV)(n:Nat)(a t:Option MV):Rho:=[some m,some (.loc n),a,t]
theorem zJS{S:Sto}{m:MV}{a:Option MV}: ∀(tms:List MV),(∀d∈tms,zRU d)-> ∀(ks:List (List Nat))(t:Option MV),ks.length+tms.length<1000->
  ∃t',wK (gNm 3) nY [] tms (D4 m S.length a t) (S++[.dic (dT ks)])=.ok (.next (D4 m S.length a t')) (S++[.dic (dT (nN ks (tms.filterMap vn)))])
 |[],_,ks,t,_=>⟨t,rfl⟩
 |d::tms,hT,ks,t,hl=>by
  rw [lC]at hl
  rcases hT d mF0 with⟨x,rfl⟩|⟨v,hv,rfl⟩
  ·have hal:=zUP ks x
   obtain⟨t',ih⟩:=zJS (S:=S) (m:=m) (a:=a) tms (λe he=>hT e (mO _ he)) (zCP ks x) (some (.tup [.str VAR,.str x])) (by omega)
   refine⟨t',?_⟩
   rw [zT (show gNm 3 (.tup [.str VAR,.str x]) (D4 m S.length a t) (S++[.dic (dT ks)])=.ok (D4 m S.length a (some (.tup [.str VAR,.str x]))) (S++[.dic (dT ks)])from rfl) (ρ':=D4 m S.length a (some (.tup [.str VAR,.str x]))) (S':=S++[.dic (dT (zCP ks x))]) ?_ (yU _)]
   ·rw [filterMap_cons,yFD]
    exact ih
   ·unfold nY zAQ
    simp? [zNH,zGO,zUM,zDZ,zZG (zL S (.dic (dT ks))) (show ks.length<1000000 by omega),xT]
  ·obtain⟨t',ih⟩:=zJS (S:=S) (m:=m) (a:=a) tms (λe he=>hT e (mO _ he)) ks (some (.tup [.str IS,v])) (by omega)
   have hv0:vn (.tup [.str IS,v])=none:=by
    cases v with
    |str y=>simp [vn]
    |_=>rfl
   refine⟨t',?_⟩
   rw [zT (show gNm 3 (.tup [.str IS,v]) (D4 m S.length a t) (S++[.dic (dT ks)])=.ok (D4 m S.length a (some (.tup [.str IS,v]))) (S++[.dic (dT ks)])from rfl) (ρ':=D4 m S.length a (some (.tup [.str IS,v]))) (S':=S++[.dic (dT ks)]) ?_ (yU _)]
   ·rw [filterMap_cons,hv0]
    exact ih
   ·unfold nY zAQ
    simp? [zNH,zGO,yFE,fT,iF]
noncomputable def nmL(tms:List MV):List (List Nat):=nN [] (tms.filterMap vn)
theorem yJX{tm0:MV}{tms:List MV}(hT: ∀d∈tms,zRU d)(hl:tms.length<=100)(S:Sto):zZ 1 bZ [.new [.tup [tm0,.tup tms]]] S=.ok (.new ((nmL tms).map MV.str)) S:=by
 obtain⟨S1,hS1⟩: ∃S1:Sto,S1=S++[.lst [.tup [tm0,.tup tms]]]:=⟨_,rfl⟩
 have hq:S1[S.length]? =some (.lst [.tup [tm0,.tup tms]]):=by rw [hS1];exact zL _ _
 obtain⟨gs,hg,hit⟩:=(show SqM S1 (.loc S.length) [.tup [tm0,.tup tms]]from .inr ⟨_,rfl,hq⟩).itQ
 obtain⟨t',h4⟩:=zJS (S:=S1) (m:=.loc S.length) (a:=some (.tup [tm0,.tup tms])) tms hT [] none (by simp only [length_nil];omega)
 have hs:yL zHG [.loc S.length]=[some (.loc S.length),none,none,none]:=rfl
 have e1:zDQ [some (.loc S.length),none,none,none] S1=.ok (.next (D4 (.loc S.length) S1.length none none)) (S1++[.dic (dT [])]):=by
  unfold zDQ
  simp? [zTL]
  rfl
 have hb:zDP (D4 (.loc S.length) S1.length (some (.tup [tm0,.tup tms])) none) (S1++[.dic (dT [])])=.ok (.next (D4 (.loc S.length) S1.length (some (.tup [tm0,.tup tms])) t')) (S1++[.dic (dT (nmL tms))]):=by
  unfold zDP zFG
  simp? [zGO,zNI]
  exact h4
 have e2:zDR (D4 (.loc S.length) S1.length none none) (S1++[.dic (dT [])])=.ok (.next (D4 (.loc S.length) S1.length (some (.tup [tm0,.tup tms])) t')) (S1++[.dic (dT (nmL tms))]):=by
  unfold zDR
  simp? [hit]
  rw [zT (show gNm 2 (.tup [tm0,.tup tms]) (D4 (.loc S.length) S1.length none none) (S1++[.dic (dT [])])=.ok (D4 (.loc S.length) S1.length (some (.tup [tm0,.tup tms])) none) (S1++[.dic (dT [])])from rfl) hb (hg _)]
  rfl
 have e3:zDS (D4 (.loc S.length) S1.length (some (.tup [tm0,.tup tms])) t') (S1++[.dic (dT (nmL tms))])=.ok (.ret (.new ((nmL tms).map MV.str))) (S1++[.dic (dT (nmL tms))]):=by
  unfold zDS
  simp? [yFG (zL S1 (.dic (dT (nmL tms))))]
 refine gQ (T:=[.lst [.tup [tm0,.tup tms]],.dic (dT (nmL tms))]) rfl ?_ (wX λd hd=>by
  obtain⟨y,_,rfl⟩:=mM.mp hd
  exact zJB _ _)
 show bZ [.loc S.length] (S++[.lst [.tup [tm0,.tup tms]]])=_
 rw [<-hS1]
 unfold bZ zNC
 rw [hs,zD e1,zD e2,e3,hS1,aA]
 rfl
theorem zKL{S:Sto}{gf:MV->Rho->Sto->R Rho}{cf:AZ}{ef:AX}{ρb:Rho}{gs:List (Nat×List MV)}{p:MV->Bool}(hs:stay gs S):
  ∀{ds:List MV},(∀d∈ds, ∃ρ1,gf d ρb S=.ok ρ1 S/\cf ρ1 S=.ok (p d) S/\ef ρ1 S=.ok (.val d) S)->xE gf cf ef ρb gs ds S=.ok (ds.filter p) S
 |[],_=>rfl
 |d::ds,st=>by
  obtain⟨ρ1,h1,h2,h3⟩:=st d mF0
  have e:=zKL hs (p:=p) (ds:=ds) λd hd=>st d (mO _ hd)
  unfold xE
  cases hp:p d with
  |true=>
   rw [h1,yY,bok,h2,yY,bok,hp,iP rfl,h3,yY,bok]
   unfold dR
   rw [bok,iP hs,e,List.filter_cons_of_pos hp]
   rfl
  |false=>
   rw [h1,yY,bok,h2,yY,bok,hp,iN xF0,iP hs,e,List.filter_cons_of_neg (by rw [hp];exact xF0)]
theorem zZH(neg:Bool)(p:Er)(ds:List MV)(S:Sto):inF neg p (.val (.tup ds)) S=zHE neg p (.val (.tup ds)) S:=by
 unfold inF
 split<;>first |rfl|(rename_i h;cases h)
theorem yFH{S:Sto}{x:List Nat}{fs:List (List Nat)}(neg:Bool):inF neg (.val (.str x)) (.val (.tup (fs.map MV.str))) S=.ok (.val (.bl (if neg=true then !decide (x∈fs)else decide (x∈fs)))) S:=by
 have e1:itemsOf S (.val (.tup (fs.map MV.str)))=some (fs.map MV.str):=rfl
 rw [zZH]
 unfold zHE
 dsimp only
 rw [e1]
 dsimp only
 rw [zIL (zBM x) zRV]
 dsimp only
 have h:((fs.map MV.str).map λy=>decide (y=MV.str x)).any id=decide (x∈fs):=by
  rw [List.any_map]
  by_cases hm:x∈fs
  ·rw [dT0 hm,any_eq_true]
   exact⟨.str x,mM.mpr ⟨x,hm,rfl⟩,by simp⟩
  ·rw [dF0 hm,any_eq_false]
   intro y hy
   obtain⟨z,hz,rfl⟩:=mM.mp hy
   simp only [Function.comp,id,decide_eq_true_eq]
   intro e
   cases e
   exact hm hz
 rw [h]
noncomputable def fnL(hs:List (List Nat))(tms:List MV):List (List Nat):=(nmL tms).filter λx=>!decide (x∈hs)
theorem zZI{hs:List (List Nat)}{at' tm0:MV}{tms:List MV}(hT: ∀d∈tms,zRU d)(hl:tms.length<=100)(S:Sto):zZ 2 yZ [.val (.tup [.tup (hs.map MV.str),at']),.val (.tup [tm0,.tup tms])] S=.ok (.new ((fnL hs tms).map MV.str)) S:=by
 have hnl:(nmL tms).length<=tms.length:=by
  have h1:=zDE (tms.filterMap vn) []
  have h2:=List.length_filterMap_le vn tms
  rw [length_nil]at h1
  unfold nmL
  omega
 have hcf:=zKL (S:=S) (gf:=gNm 0) (cf:=cA) (ef:=zCZ) (ρb:=[none,some (.tup [.tup (hs.map MV.str),at'])]) (gs:=[]) (p:=λd=>match d with |.str x=>!decide (x∈hs)|_=>false) (yU S) (ds:=(nmL tms).map MV.str) λd hd=>by
  obtain⟨y,hy,rfl⟩:=mM.mp hd
  refine⟨[some (.str y),some (.tup [.tup (hs.map MV.str),at'])],rfl,?_,rfl⟩
  unfold cA
  simp? [zNH,yFH,if_true]
 have hfm:((nmL tms).map MV.str).filter (λd=>match d with |.str x=>!decide (x∈hs)|_=>false)=(fnL hs tms).map MV.str:=by
  unfold fnL
  rw [List.filter_map]
  rfl
 rw [hfm]at hcf
 have hlt:((nmL tms).map MV.str).length<1000000:=by rw [lM];omega
 refine gQ (T:=[]) rfl ?_ (wX λd hd=>by
  obtain⟨y,_,rfl⟩:=mM.mp hd
  exact zJB _ _)
 rw [aN]
 show xF (zDT [some (.tup [.tup (hs.map MV.str),at']),some (.tup [tm0,.tup tms])] S)=_
 have e1:zAR [some (.tup [.tup (hs.map MV.str),at']),some (.tup [tm0,.tup tms])] S=.ok (.ret (.new ((fnL hs tms).map MV.str))) S:=by
  unfold zAR
  simp? [lst1,yJX hT hl,show∀(ds:List MV)(S:Sto),itL (.new ds) S=.ok ⟨ds,[]⟩ S from λ_ _=>rfl,hlt,show blk 1 [0] [some (MV.tup [.tup (hs.map MV.str),at']),some (.tup [tm0,.tup tms])]=[none,some (.tup [.tup (hs.map MV.str),at'])]from rfl,hcf]
 unfold zDT
 rw [e1]
 rfl
theorem zNJ{hs:List (List Nat)}{tms:List MV}{x:List Nat}:x∈fnL hs tms↔x∈tms.filterMap vn/\x∉hs:=by
 unfold fnL nmL
 rw [mem_filter,dO]
 simp
theorem zIM(ds:List MV)(l h:Option Int)(S:Sto):zCH (.val (.tup ds)) l h S=.ok (.val (.tup (gI ds l h))) S:=rfl
theorem yPQ{ts:List (Int×Int)}{t:Int}{p:Int×Int}{hs:List (List Nat)}{at':MV}{tms:List MV}(hd:atI (ts.map tbl) t=some (tbl p))(h0:0<=p.2)(hT: ∀d∈tms,zRU d)(hl:tms.length<=100)(S:Sto):
  zZ 3 gH [.val (.tup (ts.map tbl)),.val (.tup [.tup (hs.map MV.str),at']),.val (.tup [.int t,.tup tms])] S=.ok (.new ((fnL hs (tms.take p.2.toNat)).map MV.str)) S:=by
 refine gQ (T:=[]) rfl ?_ (wX λd hd=>by
  obtain⟨y,_,rfl⟩:=mM.mp hd
  exact zJB _ _)
 rw [aN]
 show xF (zFH [some (.tup (ts.map tbl)),some (.tup [.tup (hs.map MV.str),at']),some (.tup [.int t,.tup tms]),none] S)=_
 have e1:zCL [some (.tup (ts.map tbl)),some (.tup [.tup (hs.map MV.str),at']),some (.tup [.int t,.tup tms]),none] S=.ok (.next [some (.tup (ts.map tbl)),some (.tup [.tup (hs.map MV.str),at']),some (.tup [.int t,.tup tms]),some (.int p.2)]) S:=by
  unfold zCL
  simp? [zNH,ix_tup (S:=S) hd,show∀S:Sto,ixF (.val (tbl p)) (.val (.int 1)) S=.ok (.val (.int p.2)) S from λ_=>rfl]
 have hf:=zZI (hs:=hs) (at':=at') (tm0:=.int t) (tms:=tms.take p.2.toNat) (λd hd=>hT d (mem_of_mem_take hd)) (by rw [lT];omega) S
 have e2:zCM [some (.tup (ts.map tbl)),some (.tup [.tup (hs.map MV.str),at']),some (.tup [.int t,.tup tms]),some (.int p.2)] S=.ok (.ret (.new ((fnL hs (tms.take p.2.toNat)).map MV.str))) S:=by
  unfold zCM
  simp? [zNH,zGO,zIM,zBV _ _ h0,tup2,hf]
 unfold zFH
 rw [zD e1,e2]
 rfl
theorem yJY{hs:List (List Nat)}{tms:List MV}{k:Nat}{x:List Nat}(h:x∈fnL hs (tms.take k)):x∈fnL hs tms:=by
 rw [zNJ]at h ⊢
 refine⟨?_,h.2⟩
 obtain⟨d,hd,e⟩:=mem_filterMap.mp h.1
 exact mem_filterMap.mpr ⟨d,mem_of_mem_take hd,e⟩
theorem zAG{α:Type}{f g:α->MV}{S:Sto}{gf:MV->Rho->Sto->R Rho}{cf:AZ}{ef:AX}{ρb:Rho}{gs:List (Nat×List MV)}(hs:stay gs S):
  ∀{ds:List α},(∀d∈ds, ∃ρ1,gf (f d) ρb S=.ok ρ1 S/\cf ρ1 S=.ok true S/\ef ρ1 S=.ok (.val (g d)) S)->xE gf cf ef ρb gs (ds.map f) S=.ok (ds.map g) S
 |[],_=>rfl
 |d::ds,st=>by
  obtain⟨ρ1,h1,h2,h3⟩:=st d mF0
  have e:=zAG hs (f:=f) (g:=g) (ds:=ds) λd hd=>st d (mO _ hd)
  rw [map_cons]
  unfold xE
  rw [h1,yY,bok,h2,yY,bok,iP rfl,h3,yY,bok]
  unfold dR
  rw [bok,iP hs,e]
  rfl
theorem zXB{α:Type}(f:α->Bool): ∀xs:List α,zEK (xs.map λx=>.bl (f x))=some (xs.map f)
 |[]=>rfl
 |x::xs=>by rw [map_cons,map_cons];unfold zEK;rw [zXB f xs];rfl
theorem zZJ{α:Type}(f:α->Bool)(xs:List α)(S:Sto):allF [.new (xs.map λx=>.bl (f x))] S=.ok (.val (.bl (xs.all f))) S:=by
 show(match (some (xs.map λx=>MV.bl (f x))).bind zEK with |some bs=>R.ok (Er.val (.bl (bs.all id))) S|none=>.no)=_
 rw [show(some (xs.map λx=>MV.bl (f x))).bind zEK=some (xs.map f)from zXB f xs]
 show R.ok (Er.val (.bl ((xs.map f).all id))) S=_
 rw [all_map]
 rfl
theorem yJZ{α:Type}(f:α->Bool)(xs:List α)(S:Sto):anyF [.new (xs.map λx=>.bl (f x))] S=.ok (.val (.bl (xs.any f))) S:=by
 show(match (some (xs.map λx=>MV.bl (f x))).bind zEK with |some bs=>R.ok (Er.val (.bl (bs.any id))) S|none=>.no)=_
 rw [show(some (xs.map λx=>MV.bl (f x))).bind zEK=some (xs.map f)from zXB f xs]
 show R.ok (Er.val (.bl ((xs.map f).any id))) S=_
 rw [List.any_map]
 rfl
theorem zPX{α:Type}(ds:List α)(j:Nat):gI ds none (some (j:Int))=ds.take j:=by
 unfold gI
 rw [HT.sIx_nat,show HT.sIx ds.length 0 none=0 from rfl,drop_zero,sub_zero]
 by_cases h:j<=ds.length
 ·rw [min_eq_left h]
 ·rw [Nat.min_eq_right (by omega),take_of_length_le (le_refl _),take_of_length_le (by omega)]
theorem zJT{α:Type}(ds:List α)(j:Nat):gI ds (some (j:Int)) none=ds.drop j:=by
 unfold gI
 rw [HT.sIx_nat,show HT.sIx ds.length ds.length none=ds.length from rfl]
 by_cases h:j<=ds.length
 ·rw [min_eq_left h,take_of_length_le (by rw [length_drop];exact le_refl _)]
 ·rw [Nat.min_eq_right (by omega),drop_of_length_le (le_refl _),drop_of_length_le (show ds.length<=j by omega),List.take_nil]
theorem zGJ{α β:Type}(f:α->β)(xs:List α)(i:Int):atI (xs.map f) i=(atI xs i).map f:=by
 unfold atI
 rw [lM]
 cases ixN xs.length i with
 |none=>rfl
 |some j=>exact getElem?_map
theorem zCD{α:Type}{xs:List α}{k:Nat}{x:α}(h:xs[k]? =some x):atI xs (k:Int)=some x:=L2.atI_nat h
abbrev prT(x:List Nat):MV:=.tup [.str x,.bl true]
theorem zUQ: ∀xs:List (List Nat),zFE (xs.map prT)=some (dT xs)
 |[]=>rfl
 |x::xs=>by
  rw [map_cons]
  unfold zFE
  rw [iP (show zHZ (.str x)=true from rfl),zUQ xs]
  rfl
theorem zRY: ∀(xs ks:List (List Nat)),zYZ (dT ks) (dT xs)=dT (nN ks xs)
 |[],ks=>rfl
 |x::xs,ks=>by
  show zYZ (zMK (dT ks) (.str x) (.bl true)) (dT xs)=dT (nN (zCP ks x) xs)
  rw [yFF,zRY xs]
theorem zZK(xs:List (List Nat))(S:Sto):zTY [.new (xs.map prT)] S=.ok (.val (.loc S.length)) (S++[.dic (dT (nN [] xs))]):=by
 show(match zFE (xs.map prT)with |some kvs=>R.ok (Er.val (.loc S.length)) (S++[MO.dic (yEV kvs)])|none=>.no)=_
 rw [zUQ]
 show R.ok (Er.val (.loc S.length)) (S++[MO.dic (zYZ (dT []) (dT xs))])=_
 rw [zRY]
theorem yFI{S:Sto}{l:Nat}{ks:List (List Nat)}(neg:Bool)(h:S[l]? =some (.dic (dT ks)))(x:List Nat):zJH neg (.val (.str x)) (.val (.loc l)) S=.ok (.val (.bl (if neg=true then !decide (x∈ks)else decide (x∈ks)))) S:=by
 unfold zJH
 dsimp only
 rw [zFQ h (zKK ks)]
 dsimp only
 rw [iP (show zHZ (.str x)=true from rfl),zZF]
theorem zZL{S:Sto}{l:Nat}{ks:List (List Nat)}(h:S[l]? =some (.dic (dT ks))):zPN [.val (.loc l)] S=.ok (.val (.int ks.length)) S:=by
 unfold zPN
 dsimp only
 rw [zFQ h (zKK ks)]
 dsimp only
 rw [show(dT ks).length=ks.length by unfold dT;rw [lM]]
theorem yKA{S:Sto}{l:Nat}{ks:List (List Nat)}(h:S[l]? =some (.dic (dT ks))):isDx (.val (.loc l)) S=true:=by
 unfold isDx
 rw [zFQ h (zKK ks)]
 rfl
theorem yKB{S:Sto}{l m:Nat}{ks xs:List (List Nat)}(h:S[l]? =some (.dic (dT ks)))(h2:S[m]? =some (.dic (dT xs)))(hne:l≠m)(hl:ks.length+xs.length<1000000):zPL (.val (.loc l)) [.val (.loc m)] S=.ok (.val .non) (S.set l (.dic (dT (nN ks xs)))):=by
 unfold zPL
 dsimp only
 rw [zFQ h (zKK ks)]
 dsimp only
 rw [zFQ h2 (zKK xs)]
 dsimp only
 rw [iP ⟨hne,by rw [show(dT ks).length=ks.length by unfold dT;rw [lM],show(dT xs).length=xs.length by unfold dT;rw [lM]];exact hl⟩,zRY]
def aM(a:Int×List MV):MV:=.tup [.int a.1,.tup a.2]
abbrev qM(hs:List (List Nat))(as:List (Int×List MV)):MV:=.tup [.tup (hs.map MV.str),.tup (as.map aM)]
structure AOk(ts:List (Int×Int))(a:Int×List MV):Prop where
 tb: ∃p,atI ts a.1=some p/\0<=p.2
 tm: ∀d∈a.2,zRU d
 len:a.2.length<=4
noncomputable def kyL(ts:List (Int×Int))(hs:List (List Nat))(a:Int×List MV):List (List Nat):=fnL hs (a.2.take ((atI ts a.1).getD (0,0)).2.toNat)
noncomputable abbrev frL(hs:List (List Nat))(a:Int×List MV):List (List Nat):=fnL hs a.2
theorem yFJ{ts:List (Int×Int)}{hs:List (List Nat)}{d:MV}{a:Int×List MV}(h:AOk ts a)(S:Sto):zZ 3 gH [.val (.tup (ts.map tbl)),.val (.tup [.tup (hs.map MV.str),d]),.val (aM a)] S=.ok (.new ((kyL ts hs a).map MV.str)) S:=by
 obtain⟨p,hp,h0⟩:=h.tb
 have e:=yPQ (ts:=ts) (t:=a.1) (p:=p) (hs:=hs) (at':=d) (tms:=a.2) (by rw [zGJ,hp];rfl) h0 h.tm (by have:=h.len;omega) S
 unfold kyL
 rw [hp]
 exact e
theorem yLR{ts:List (Int×Int)}{hs:List (List Nat)}{d:MV}{a:Int×List MV}(h:AOk ts a)(S:Sto):zZ 2 yZ [.val (.tup [.tup (hs.map MV.str),d]),.val (aM a)] S=.ok (.new ((frL hs a).map MV.str)) S:=zZI h.tm (by have:=h.len;omega) S
theorem yFK(hs:List (List Nat))(tms:List MV):(fnL hs tms).length<=tms.length:=by
 have h1:=zDE (tms.filterMap vn) []
 have h2:=List.length_filterMap_le vn tms
 have h3:=length_filter_le (λx=>!decide (x∈hs)) (nmL tms)
 rw [length_nil]at h1
 unfold fnL
 unfold nmL at h3 ⊢
 omega
theorem zJU{ts:List (Int×Int)}{hs:List (List Nat)}{a:Int×List MV}(h:AOk ts a):(frL hs a).length<=4:=le_trans (yFK hs a.2) h.len
theorem yFL{ts:List (Int×Int)}{hs:List (List Nat)}{a:Int×List MV}(h:AOk ts a):(kyL ts hs a).length<=4:=le_trans (yFK hs _) (by rw [lT];have:=h.len;omega)
theorem zFR{α:Type}[DecidableEq α]: ∀{ks U:List α},ks.Nodup->(∀x∈ks,x∈U)->ks.length<=U.length
 |[],_,_,_=>zero_le _
 |x::ks,U,hn,h=>by
  rw [nodup_cons]at hn
  have hx:=h x mF0
  have ih:=zFR (ks:=ks) (U:=U.erase x) hn.2 λy hy=>(List.mem_erase_of_ne (show y≠x from λe=>hn.1 (e▸hy))).mpr (h y (mO _ hy))
  rw [List.length_erase_of_mem hx]at ih
  have:=List.length_pos_of_mem hx
  rw [lC]
  omega
theorem zJV(S T:Sto)(o:MO):(S++o::T)[S.length]? =some o:=by simp
theorem yKC(S T:Sto)(o o':MO):(S++o::T).set S.length o'=S++o'::T:=by simp
theorem zHJ(ds:List MV)(S:Sto):itL (.new ds) S=.ok ⟨ds,[]⟩ S:=rfl
noncomputable def stK(ts:List (Int×Int))(hs ks:List (List Nat))(a:Int×List MV):List (List Nat):=if(kyL ts hs a).all (λx=>decide (x∈ks))=true then nN ks (nN [] (frL hs a))else ks
abbrev KA(ts:List (Int×Int))(q:MV)(i:Nat)(as oth:List MV)(l:Nat)(b:Int)(o:Option MV):Rho:=[some (.tup (ts.map tbl)),some q,some (.int i),some (.tup as),some (.tup oth),some (.loc l),some (.int b),o]
theorem yKD{ts:List (Int×Int)}{hs:List (List Nat)}{qd:MV}{i:Nat}{as oth:List MV}{b:Int}{a:Int×List MV}(h:AOk ts a)(S T:Sto){ks:List (List Nat)}(hl:ks.length<=1000):
  ∃T',nZ (KA ts (.tup [.tup (hs.map MV.str),qd]) i as oth S.length b (some (aM a))) (S++.dic (dT ks)::T)=.ok (.next (KA ts (.tup [.tup (hs.map MV.str),qd]) i as oth S.length b (some (aM a)))) (S++.dic (dT (stK ts hs ks a))::T'):=by
 obtain⟨S1,hS1⟩: ∃S1:Sto,S1=S++.dic (dT ks)::T:=⟨_,rfl⟩
 have hat:S1[S.length]? =some (.dic (dT ks)):=by rw [hS1];exact zJV _ _ _
 have hc1:xE (gNm 0) zFJ zAT [none,some (.loc S.length)] [] ((kyL ts hs a).map MV.str) S1=.ok ((kyL ts hs a).map λx=>.bl (decide (x∈ks))) S1:=
  zAG (yU _) λx _=>⟨[some (.str x),some (.loc S.length)],rfl,rfl,by
   unfold zAT
   simp? [yFI false hat x,fT,iF]⟩
 have hk:((kyL ts hs a).map MV.str).length<1000000:=by rw [lM];have:=yFL (hs:=hs) h;omega
 have hf:((frL hs a).map MV.str).length<1000000:=by rw [lM];have:=zJU (hs:=hs) h;omega
 have hc2:xE (gNm 0) zFK zAU [none] [] ((frL hs a).map MV.str) S1=.ok ((frL hs a).map prT) S1:=
  zAG (yU _) λx _=>⟨[some (.str x)],rfl,rfl,by
   unfold zAU
   simp? [tup2]⟩
 have hb1: ∀a b c d e f g h:Option MV,blk 1 [5] [a,b,c,d,e,f,g,h]=[none,f]:=λ_ _ _ _ _ _ _ _=>rfl
 have hb2: ∀a b c d e f g h:Option MV,blk 1 [] [a,b,c,d,e,f,g,h]=[none]:=λ_ _ _ _ _ _ _ _=>rfl
 unfold nZ zFL
 rw [<-hS1]
 unfold stK
 by_cases hq:(kyL ts hs a).all (λx=>decide (x∈ks))=true
 ·have hin:(S1++[.dic (dT (nN [] (frL hs a)))])[S.length]? =some (.dic (dT ks)):=by rw [getElem?_append_left (gS0.mp hat).1];exact hat
  have hne:S.length≠S1.length:=by rw [hS1,lA,lC];omega
  have hlen:ks.length+(nN [] (frL hs a)).length<1000000:=by
   have:=zDE (frL hs a) []
   have:=zJU (hs:=hs) h
   rw [length_nil]at *
   omega
  refine⟨T++[.dic (dT (nN [] (frL hs a)))],?_⟩
  rw [iP hq]
  simp? [yFJ h,zHJ,hk,hb1,hc1,zZJ,hq,yKA hat,yLR h,hf,hb2,hc2,zZK,yKB hin (zL _ _) hne hlen]
  rw [hS1,aA,cons_append,yKC]
 ·refine⟨T,?_⟩
  rw [iN hq, <-hS1]
  simp? [yFJ h,zHJ,hk,hb1,hc1,zZJ,hq,fT,iF]
theorem zZM(ts:List (Int×Int))(hs ks:List (List Nat))(a:Int×List MV): ∃t,stK ts hs ks a=ks++t:=by
 have h1: ∀(xs ks:List (List Nat)), ∃t,nN ks xs=ks++t:=by
  intro xs
  induction xs with
  |nil=>exact λks=>⟨[],(aN _).symm⟩
  |cons x xs ih=>
   intro ks
   obtain⟨t,e⟩:=ih (zCP ks x)
   show∃t,nN (zCP ks x) xs=ks++t
   rw [e]
   unfold zCP
   split
   ·exact⟨t,rfl⟩
   ·exact⟨x::t,by rw [aA];rfl⟩
 unfold stK
 split
 ·exact h1 _ _
 ·exact⟨[],(aN _).symm⟩
theorem zRZ(ts:List (Int×Int))(hs:List (List Nat)): ∀(oth:List (Int×List MV))(ks:List (List Nat)), ∃t,oth.foldl (stK ts hs) ks=ks++t
 |[],ks=>⟨[],(aN _).symm⟩
 |a::oth,ks=>by
  obtain⟨t,e⟩:=zZM ts hs ks a
  obtain⟨u,e2⟩:=zRZ ts hs oth (stK ts hs ks a)
  exact⟨t++u,by rw [foldl_cons,e2,e,aA]⟩
theorem zUR(ts:List (Int×Int))(hs:List (List Nat)): ∀(oth:List (Int×List MV))(ks:List (List Nat)),oth.foldl (stK ts hs) ks=ks-> ∀a∈oth,stK ts hs ks a=ks
 |[],_,_,a,ha=>by simp at ha
 |c::oth,ks,h,a,ha=>by
  rw [foldl_cons]at h
  obtain⟨t,e⟩:=zZM ts hs ks c
  obtain⟨u,e2⟩:=zRZ ts hs oth (stK ts hs ks c)
  have e3:ks++(t++u)=ks++[]:=by rw [aN, <-aA, <-e, <-e2,h]
  have e4:t=[]:=(List.append_eq_nil_iff.mp (List.append_cancel_left e3)).1
  have e5:stK ts hs ks c=ks:=by rw [e,e4,aN]
  rcases mC.mp ha with rfl|ha
  ·exact e5
  ·rw [e5]at h
   exact zUR ts hs oth ks h a ha
theorem yPR{ts:List (Int×Int)}{hs ks:List (List Nat)}(h:ks.Nodup)(a:Int×List MV):(stK ts hs ks a).Nodup:=by
 unfold stK
 split
 ·exact zRW _ h
 ·exact h
noncomputable def Fq(hs:List (List Nat))(as:List (Int×List MV))(j:Nat):List (List Nat):=(as[j]?).elim [] (frL hs)
noncomputable def Kq(ts:List (Int×Int))(hs:List (List Nat))(as:List (Int×List MV))(j:Nat):List (List Nat):=(as[j]?).elim [] (kyL ts hs)
theorem zUS{hs:List (List Nat)}{as:List (Int×List MV)}{j:Nat}{a:Int×List MV}(h:as[j]? =some a):Fq hs as j=frL hs a:=by unfold Fq;rw [h];rfl
theorem zZN{ts:List (Int×Int)}{hs:List (List Nat)}{as:List (Int×List MV)}{j:Nat}{a:Int×List MV}(h:as[j]? =some a):Kq ts hs as j=kyL ts hs a:=by unfold Kq;rw [h];rfl
theorem KqF(ts:List (Int×Int))(hs:List (List Nat))(as:List (Int×List MV))(j:Nat)(_:j<as.length)(y:List Nat)(h:y∈Kq ts hs as j):y∈Fq hs as j:=by
 unfold Kq at h
 unfold Fq
 cases e:as[j]? with
 |none=>rw [e]at h;simp at h
 |some a=>
  rw [e]at h
  exact yJY h
abbrev KnQ(ts:List (Int×Int))(hs:List (List Nat))(as:List (Int×List MV)):Nat->List Nat->Prop:=Kn (Kq ts hs as) (Fq hs as) as.length
theorem yPS{ts:List (Int×Int)}{hs ks:List (List Nat)}{as:List (Int×List MV)}{i j:Nat}{a:Int×List MV}(ha:as[j]? =some a)(hj:j≠i)(h: ∀x∈ks,KnQ ts hs as i x): ∀x∈stK ts hs ks a,KnQ ts hs as i x:=by
 intro x hx
 unfold stK at hx
 split at hx
 ·rename_i hq
  rw [dO,dO]at hx
  rcases hx with hx|hx|hx
  ·exact h x hx
  ·simp at hx
  ·refine .step j (gS0.mp ha).1 hj (λy hy=>?_) (by rw [zUS ha];exact hx)
   rw [zZN ha]at hy
   exact h y (of_decide_eq_true (all_eq_true.mp hq y hy))
 ·exact h x hx
theorem yFM{ts:List (Int×Int)}{hs:List (List Nat)}{as:List (Int×List MV)}{i:Nat}: ∀(oth:List (Int×List MV)),(∀a∈oth, ∃j,as[j]? =some a/\j≠i)-> ∀(ks:List (List Nat)),ks.Nodup->(∀x∈ks,KnQ ts hs as i x)->(oth.foldl (stK ts hs) ks).Nodup/\ ∀x∈oth.foldl (stK ts hs) ks,KnQ ts hs as i x
 |[],_,ks,hn,h=>⟨hn,h⟩
 |a::oth,ho,ks,hn,h=>by
  obtain⟨j,hj,hne⟩:=ho a mF0
  rw [foldl_cons]
  exact yFM oth (λb hb=>ho b (mO _ hb)) _ (yPR hn a) (yPS hj hne h)
theorem yPT{ts:List (Int×Int)}{hs ks:List (List Nat)}{as oth:List (Int×List MV)}{i:Nat}{a0:Int×List MV}(hi:as[i]? =some a0)(hk: ∀x∈kyL ts hs a0,x∈ks)(ho: ∀j a,as[j]? =some a->j≠i->a∈oth)(hs': ∀a∈oth,stK ts hs ks a=ks){x:List Nat}(h:KnQ ts hs as i x):x∈ks:=by
 induction h with
 |key h=>rw [zZN hi]at h;exact hk _ h
 |@step x j hj hne hall hx ih=>
  have ha:=gE0 hj
  have e:=hs' _ (ho j _ ha hne)
  rw [zUS ha]at hx
  rw [zZN ha]at ih
  unfold stK at e
  rw [iP (all_eq_true.mpr λy hy=>dT0 (ih y hy))]at e
  rw [<-e,dO,dO]
  exact .inr (.inr hx)
noncomputable def zUT(hs:List (List Nat))(as:List (Int×List MV)):List (List Nat):=as.flatMap (frL hs)
theorem zSA{ts:List (Int×Int)}{hs:List (List Nat)}: ∀{as:List (Int×List MV)},(∀a∈as,AOk ts a)->(zUT hs as).length<=4 * as.length
 |[],_=>le_refl _
 |a::as,h=>by
  have h1:=zSA (hs:=hs) λb hb=>h b (mO _ hb)
  have h2:=zJU (hs:=hs) (h a mF0)
  unfold zUT at h1 ⊢
  rw [List.flatMap_cons,lA,lC]
  omega
theorem yLS{ts:List (Int×Int)}{hs:List (List Nat)}{as:List (Int×List MV)}{i:Nat}(hi:i<as.length){x:List Nat}(h:KnQ ts hs as i x):x∈zUT hs as:=by
 have e: ∀j,j<as.length->x∈Fq hs as j->x∈zUT hs as:=λj hj h=>by
  rw [zUS (gE0 hj)]at h
  exact mem_flatMap.mpr ⟨_,getElem_mem hj,h⟩
 cases h with
 |key h=>exact e i hi (KqF ts hs as i hi _ h)
 |step j hj _ _ hx=>exact e j hj hx
theorem yFN{ts:List (Int×Int)}{hs:List (List Nat)}{qd:MV}{i:Nat}{as oth:List MV}{b:Int}(S:Sto): ∀(os:List (Int×List MV)),(∀a∈os,AOk ts a)-> ∀(T:Sto)(ks:List (List Nat))(o:Option MV),ks.length+4 * os.length<=1000->
  ∃T' o',wK (gNm 7) nZ [] (os.map aM) (KA ts (.tup [.tup (hs.map MV.str),qd]) i as oth S.length b o) (S++.dic (dT ks)::T)=.ok (.next (KA ts (.tup [.tup (hs.map MV.str),qd]) i as oth S.length b o')) (S++.dic (dT (os.foldl (stK ts hs) ks))::T')
 |[],_,T,ks,o,_=>⟨T,o,rfl⟩
 |a::os,h,T,ks,o,hl=>by
  rw [lC]at hl
  have ha:=h a mF0
  obtain⟨T1,e1⟩:=yKD (hs:=hs) (qd:=qd) (i:=i) (as:=as) (oth:=oth) (b:=b) ha S T (ks:=ks) (by omega)
  have hk:(stK ts hs ks a).length<=ks.length+4:=by
   unfold stK
   split
   ·have h1:=zDE (nN [] (frL hs a)) ks
    have h2:=zDE (frL hs a) []
    have h3:=zJU (hs:=hs) ha
    rw [length_nil]at h2
    omega
   ·omega
  obtain⟨T',o',e⟩:=yFN (hs:=hs) (qd:=qd) (i:=i) (as:=as) (oth:=oth) (b:=b) S os (λc hc=>h c (mO _ hc)) T1 (stK ts hs ks a) (some (aM a)) (by omega)
  refine⟨T',o',?_⟩
  rw [map_cons,zT (ρ0:=KA ts (.tup [.tup (hs.map MV.str),qd]) i as oth S.length b (some (aM a))) rfl e1 (yU _)]
  exact e
theorem zZO{ts:List (Int×Int)}{q:MV}{i:Nat}{as oth:List MV}{b:Int}{o:Option MV}(S T:Sto)(ks:List (List Nat)):cY (KA ts q i as oth S.length b o) (S++.dic (dT ks)::T)=.ok (decide (b<ks.length)) (S++.dic (dT ks)::T):=by
 unfold cY
 simp? [zZL (zJV S T (.dic (dT ks))),lt_int]
theorem yKE{ts:List (Int×Int)}{hs:List (List Nat)}{qd:MV}{i:Nat}{as:List MV}{b:Int}(S:Sto){os:List (Int×List MV)}(h: ∀a∈os,AOk ts a)(T:Sto)(ks:List (List Nat))(o:Option MV)(hl:ks.length+4 * os.length<=1000):
  ∃T' o',zAA (KA ts (.tup [.tup (hs.map MV.str),qd]) i as (os.map aM) S.length b o) (S++.dic (dT ks)::T)=.ok (.next (KA ts (.tup [.tup (hs.map MV.str),qd]) i as (os.map aM) S.length ks.length o')) (S++.dic (dT (os.foldl (stK ts hs) ks))::T'):=by
 obtain⟨T',o',e⟩:=yFN (hs:=hs) (qd:=qd) (i:=i) (as:=as) (oth:=os.map aM) (b:=ks.length) S os h T ks o hl
 refine⟨T',o',?_⟩
 have e1:zAV (KA ts (.tup [.tup (hs.map MV.str),qd]) i as (os.map aM) S.length b o) (S++.dic (dT ks)::T)=.ok (.next (KA ts (.tup [.tup (hs.map MV.str),qd]) i as (os.map aM) S.length ks.length o)) (S++.dic (dT ks)::T):=by
  unfold zAV
  simp? [zZL (zJV S T (.dic (dT ks)))]
 unfold zAA
 rw [zD e1]
 unfold zFM
 simp? [zNI]
 exact e
theorem zUU{ts:List (Int×Int)}{hs:List (List Nat)}{as os:List (Int×List MV)}{i:Nat}(hi:i<as.length)(hA: ∀a∈as,AOk ts a)(hlen:as.length<=4)(hos: ∀a∈os, ∃j,as[j]? =some a/\j≠i)(hol:os.length<=4)(S:Sto): ∀(m f:Nat),m+2<=f-> ∀(T:Sto)(ks:List (List Nat))(b:Int)(o:Option MV),ks.Nodup->(∀x∈ks,KnQ ts hs as i x)->(zUT hs as).length<=ks.length+m->b<ks.length->
  ∃T' ks' b' o' t,gB cY zAA f (KA ts (qM hs as) i (as.map aM) (os.map aM) S.length b o) (S++.dic (dT ks)::T)=.ok (.next (KA ts (qM hs as) i (as.map aM) (os.map aM) S.length b' o')) (S++.dic (dT ks')::T')/\ks'=ks++t/\(∀x∈ks',KnQ ts hs as i x)/\ ∀a∈os,stK ts hs ks' a=ks'
 |m,f,hf,T,ks,b,o,hn,hk,hU,hb=>by
  obtain⟨f,rfl⟩: ∃g,f=g+1:=⟨f - 1,by omega⟩
  have hA': ∀a∈os,AOk ts a:=λa ha=>by
   obtain⟨j,hj,_⟩:=hos a ha
   exact hA a (mem_of_getElem? hj)
  have hle:ks.length<=16:=by
   have h1:=zFR hn λx hx=>yLS hi (hk x hx)
   have h2:=zSA (hs:=hs) hA
   omega
  obtain⟨T1,o1,e1⟩:=yKE (hs:=hs) (qd:=.tup (as.map aM)) (i:=i) (as:=as.map aM) (b:=b) S hA' T ks o (by omega)
  have ht:=zZO (ts:=ts) (q:=qM hs as) (i:=i) (as:=as.map aM) (oth:=os.map aM) (b:=b) (o:=o) S T ks
  rw [dT0 hb]at ht
  obtain⟨t,et⟩:=zRZ ts hs os ks
  obtain⟨hn1,hk1⟩:=yFM os hos ks hn hk
  have hlt:=congrArg List.length et
  rw [lA]at hlt
  by_cases hz:t=[]
  ·subst hz
   rw [aN]at et
   obtain⟨f,rfl⟩: ∃g,f=g+1:=⟨f - 1,by omega⟩
   have ht2:=zZO (ts:=ts) (q:=qM hs as) (i:=i) (as:=as.map aM) (oth:=os.map aM) (b:=ks.length) (o:=o1) S T1 ks
   rw [dF0 (by omega)]at ht2
   refine⟨T1,ks,ks.length,o1,[],?_,(aN _).symm,hk,zUR ts hs os ks et⟩
   rw [et]at e1
   rw [zHF ht e1,zOY ht2]
  ·have htp:0<t.length:=length_pos_iff.mpr hz
   have h1:=zFR hn1 λx hx=>yLS hi (hk1 x hx)
   have hm:m - 1<m:=by omega
   obtain⟨T',ks',b',o',t',e,h2,h3,h4⟩:=zUU hi hA hlen hos hol S (m - 1) f (by omega) T1 (os.foldl (stK ts hs) ks) ks.length o1 hn1 hk1 (by omega) (by omega)
   refine⟨T',ks',b',o',t++t',?_,by rw [h2,et,aA],h3,h4⟩
   rw [zHF ht e1]
   exact e
 termination_by m=>m
theorem yFO{n:Nat}{F:List MV->Sto->R Er}{rs:List Er}{S T:Sto}{kvs:List (MV×MV)}(hn:rs.length=n)(hF:F (zN rs S).1 (zN rs S).2=.ok (.val (.loc S.length)) (S++.dic kvs::T)):zZ n F rs S=.ok (.val (.loc S.length)) (S++.dic kvs::T):=by
 unfold zZ
 rw [iP hn,hF]
 show zBU S (.val (.loc S.length)) (S++.dic kvs::T)=_
 unfold zBU
 dsimp only
 split
 ·rw [iN (lt_irrefl _),zJV]
 ·rfl
theorem zZP{as:List (Int×List MV)}{i:Nat}{a:Int×List MV}:a∈as.take i++as.drop (i+1)↔ ∃j,as[j]? =some a/\j≠i:=by
 rw [mem_append]
 constructor
 ·rintro(h|h)
  ·obtain⟨j,hj,e⟩:=List.mem_take_iff_getElem.mp h
   exact⟨j,by rw [<-e];exact gE0 _,by omega⟩
  ·obtain⟨j,e⟩:=List.mem_iff_getElem?.mp h
   rw [getElem?_drop]at e
   exact⟨i+1+j,e,by omega⟩
 ·rintro⟨j,hj,hne⟩
  by_cases h:j<i
  ·exact .inl (mem_of_getElem? (show(as.take i)[j]? =some a by rw [getElem?_take_of_lt h];exact hj))
  ·exact .inr (mem_of_getElem? (i:=j - (i+1)) (show(as.drop (i+1))[j - (i+1)]? =some a by rw [getElem?_drop,show i+1+(j - (i+1))=j by omega];exact hj))
theorem yFP{ts:List (Int×Int)}{hs:List (List Nat)}{as:List (Int×List MV)}(hA: ∀a∈as,AOk ts a)(hlen:as.length<=4){i:Nat}(hi:i<as.length)(S:Sto):
  ∃ks T,zZ 3 zDY [.val (.tup (ts.map tbl)),.val (qM hs as),.val (.int i)] S=.ok (.val (.loc S.length)) (S++.dic (dT ks)::T)/\ ∀x,x∈ks↔KnQ ts hs as i x:=by
 have ha:=gE0 hi
 have hAi:=hA _ (getElem_mem hi)
 obtain⟨a,ea⟩: ∃a,a=as[i]:=⟨_,rfl⟩
 rw [<-ea]at ha hAi
 obtain⟨os,eo⟩: ∃os,os=as.take i++as.drop (i+1):=⟨_,rfl⟩
 have hos: ∀c∈os, ∃j,as[j]? =some c/\j≠i:=λc hc=>zZP.mp (eo▸hc)
 have hol:os.length<=4:=by
  rw [eo,lA,lT,length_drop]
  omega
 have hk0: ∀x∈nN [] (kyL ts hs a),KnQ ts hs as i x:=λx hx=>by
  rw [dO]at hx
  rcases hx with hx|hx
  ·simp at hx
  ·exact .key (by rw [zZN ha];exact hx)
 obtain⟨T',ks',b',o',t,e5,h5,h6,h7⟩:=zUU (hs:=hs) hi hA hlen hos hol S 100 10000 (by omega) [] (nN [] (kyL ts hs a)) (-1) none (zRW _ nodup_nil) hk0 (by have:=zSA (hs:=hs) hA;omega) (by omega)
 refine⟨ks',T',?_,λx=>⟨h6 x,λh=>?_⟩⟩
 ·refine yFO rfl ?_
  show xF (zHH [some (.tup (ts.map tbl)),some (qM hs as),some (.int i),none,none,none,none,none] S)=_
  have e1:zDU [some (.tup (ts.map tbl)),some (qM hs as),some (.int i),none,none,none,none,none] S=.ok (.next [some (.tup (ts.map tbl)),some (qM hs as),some (.int i),some (.tup (as.map aM)),none,none,none,none]) S:=by
   unfold zDU
   simp? [zGO]
  have e2:zDV [some (.tup (ts.map tbl)),some (qM hs as),some (.int i),some (.tup (as.map aM)),none,none,none,none] S=.ok (.next [some (.tup (ts.map tbl)),some (qM hs as),some (.int i),some (.tup (as.map aM)),some (.tup (os.map aM)),none,none,none]) S:=by
   have hc:((i:Int)+1)=((i+1:Nat):Int):=by omega
   have hz:((as.map aM).take i).length+((as.map aM).drop (i+1)).length<=sizeLine:=fits (by rw [lT,length_drop,lM];omega)
   unfold zDV
   simp? [zIM,zPX,hc,zJT,yIL hz]
   rw [eo,map_append,map_take,map_drop]
  have hkl:((kyL ts hs a).map MV.str).length<1000000:=by rw [lM];have:=yFL (hs:=hs) hAi;omega
  have hc2:xE (gNm 0) zFI zAS [none] [] ((kyL ts hs a).map MV.str) S=.ok ((kyL ts hs a).map prT) S:=
   zAG (yU _) λx _=>⟨[some (.str x)],rfl,rfl,by
    unfold zAS
    simp? [tup2]⟩
  have hb2: ∀a b c d e f g h:Option MV,blk 1 [] [a,b,c,d,e,f,g,h]=[none]:=λ_ _ _ _ _ _ _ _=>rfl
  have hix:ixF (.val (.tup (as.map aM))) (.val (.int i)) S=.ok (.val (aM a)) S:=ix_tup (zCD (by rw [getElem?_map,ha];rfl))
  have e3:zDW [some (.tup (ts.map tbl)),some (qM hs as),some (.int i),some (.tup (as.map aM)),some (.tup (os.map aM)),none,none,none] S=.ok (.next [some (.tup (ts.map tbl)),some (qM hs as),some (.int i),some (.tup (as.map aM)),some (.tup (os.map aM)),some (.loc S.length),none,none]) (S++[.dic (dT (nN [] (kyL ts hs a)))]):=by
   unfold zDW
   simp? [hix,yFJ hAi,zHJ,hkl,hb2,hc2,zZK]
  have e4:zDX [some (.tup (ts.map tbl)),some (qM hs as),some (.int i),some (.tup (as.map aM)),some (.tup (os.map aM)),some (.loc S.length),none,none] (S++[.dic (dT (nN [] (kyL ts hs a)))])=.ok (.next (KA ts (qM hs as) i (as.map aM) (os.map aM) S.length (-1) none)) (S++[.dic (dT (nN [] (kyL ts hs a)))]):=by
   unfold zDX
   simp? [bok]
  unfold zHH
  rw [zD e1,zD e2,zD e3,zD e4,zD (show zIF _ _=_ from e5)]
  unfold zIG
  simp? [bok]
  rfl
 ·refine yPT ha (λy hy=>?_) (λj c hc hne=>by rw [eo];exact zZP.mpr ⟨j,hc,hne⟩) h7 h
  rw [h5,mem_append,dO]
  exact .inl (.inr hy)
abbrev zG(k:Nat):MV:=.int (k:Int)
theorem zSB{j k:Nat}(h:zG j=zG k):j=k:=by
 injection h with h
 exact Int.ofNat.inj h
theorem yKF{j:Nat}{rs:List Nat}:zG j∈rs.map zG↔j∈rs:=⟨λh=>by obtain⟨k,hk,e⟩:=mM.mp h;rw [<-zSB e];exact hk,λh=>mM.mpr ⟨j,h,rfl⟩⟩
theorem zUV{n:Nat}(h:n<=1000)(S:Sto):gE [.val (.int (n:Int))] S=.ok ⟨(List.range n).map zG,[]⟩ S:=by
 rw [zQT (by omega),toNat_natCast]
theorem rng6(S:Sto):gE [.val (.int 6)] S=.ok ⟨(List.range 6).map zG,[]⟩ S:=zUV (n:=6) (by decide) S
def rD(rs:List Nat):List (MV×MV):=rs.map λj=>(zG j,.bl true)
theorem zZQ(rs:List Nat):(rD rs).map (·.1)=rs.map zG:=by
 unfold rD
 rw [map_map]
 rfl
theorem zZR(rs:List Nat)(j:Nat):(look (rD rs) (zG j)).isSome=decide (j∈rs):=by
 by_cases h:j∈rs
 ·rw [dT0 h]
  unfold look
  rw [Option.isSome_map,List.find?_isSome]
  exact⟨(zG j,.bl true),mM.mpr ⟨j,h,rfl⟩,by simp⟩
 ·rw [dF0 h]
  cases z:(look (rD rs) (zG j)).isSome with
  |false=>rfl
  |true=>
   have:=zUN z
   rw [zZQ]at this
   exact absurd (yKF.mp this) h
theorem yPU{rs:List Nat}{j:Nat}(h:j∉rs):zMK (rD rs) (zG j) (.bl true)=rD (rs++[j]):=by
 unfold zMK
 rw [zZR,iN (by rw [dF0 h];exact xF0)]
 unfold rD
 rw [map_append]
 rfl
theorem yFQ(rs:List Nat):(rD rs).all (λp=>zHZ p.1)=true:=by
 unfold rD
 rw [all_map,all_eq_true]
 intro x _
 rfl
theorem yFR{S:Sto}{l:Nat}{rs:List Nat}(neg:Bool)(h:S[l]? =some (.dic (rD rs)))(j:Nat):zJH neg (.val (zG j)) (.val (.loc l)) S=.ok (.val (.bl (if neg=true then !decide (j∈rs)else decide (j∈rs)))) S:=by
 unfold zJH
 dsimp only
 rw [zFQ h (yFQ rs)]
 dsimp only
 rw [iP (show zHZ (zG j)=true from rfl),zZR]
theorem zZS{S:Sto}{l:Nat}{rs:List Nat}(h:S[l]? =some (.dic (rD rs)))(hl:rs.length<1000000){j:Nat}(hj:j∉rs)(ρ:Rho):zFC (.val (.loc l)) (.val (zG j)) (.bl true) ρ S=.ok ρ (S.set l (.dic (rD (rs++[j])))):=by
 unfold zFC
 dsimp only
 rw [zFQ h (yFQ rs)]
 dsimp only
 rw [iP ⟨rfl,by unfold rD;rw [lM];exact hl⟩,yPU hj]
theorem yFS{S:Sto}{l:Nat}{rs:List Nat}(h:S[l]? =some (.dic (rD rs))):zFD [.val (.loc l)] S=.ok (.new (rs.map zG)) S:=by
 unfold zFD
 dsimp only
 rw [zFQ h (yFQ rs)]
 dsimp only
 rw [zZQ]
theorem zNK{α:Type}{f:α->MV}{g:α->List MV}{gf:MV->Rho->Sto->R Rho}{cf:AZ}{ef:AX}{ρb:Rho}{S:Sto}: ∀(xs:List α),(∀x∈xs, ∀T, ∃ρ1,gf (f x) ρb (S++T)=.ok ρ1 (S++T)/\cf ρ1 (S++T)=.ok true (S++T)/\ef ρ1 (S++T)=.ok (.new (g x)) (S++T))->
  ∀T,xE gf cf ef ρb [] (xs.map f) (S++T)=.ok ((List.range' (S.length+T.length) xs.length).map MV.loc) (S++T++xs.map λx=>MO.lst (g x))
 |[],_,T=>by rw [map_nil,map_nil,aN];rfl
 |x::xs,h,T=>by
  obtain⟨ρ1,h1,h2,h3⟩:=h x mF0 T
  have ih:=zNK (f:=f) (g:=g) (gf:=gf) (cf:=cf) (ef:=ef) (ρb:=ρb) (S:=S) xs (λy hy=>h y (mO _ hy)) (T++[.lst (g x)])
  rw [map_cons]
  unfold xE
  rw [h1,yY,bok,h2,yY,bok,iP rfl,h3,yY,bok]
  unfold dR
  rw [bok,iP (yU _),aA,ih,bok,lA,lA,lS,lC,range'_succ,map_cons,map_cons]
  simp only [aA,List.singleton_append,add_assoc]
noncomputable def cmB(xs ys:List (List Nat)):Bool:=xs.any λx=>decide (x∈ys)
theorem yPV{S:Sto}{l m:Nat}{xs ys:List (List Nat)}(h1:S[l]? =some (.lst (xs.map MV.str)))(h2:S[m]? =some (.lst (ys.map MV.str)))(hl:xs.length<1000000):zZ 2 kW [.val (.loc l),.val (.loc m)] S=.ok (.val (.bl (cmB xs ys))) S:=by
 refine zRT rfl ?_
 show xF (cB [some (.loc l),some (.loc m)] S)=_
 have hc:xE (gNm 0) dM kL [none,some (.loc m)] [(l,xs.map MV.str)] (xs.map MV.str) S=.ok (xs.map λx=>.bl (decide (x∈ys))) S:=
  zAG (dI h1) λx _=>⟨[some (.str x),some (.loc m)],rfl,rfl,by
   unfold kL
   simp? [zGI false h2 (zBM x) zRV,fT,iF]
   rw [dec_is (zZD (x:=x) (fs:=ys))]⟩
 have hk:(xs.map MV.str).length<1000000:=by rw [lM];exact hl
 have hb: ∀a b:Option MV,blk 1 [1] [a,b]=[none,b]:=λ_ _=>rfl
 unfold cB zAW
 simp? [zDN h1,hk,hb,hc,yJZ]
 rfl
theorem zBN{α:Type}{f g:α->MV}{p:α->Bool}{S:Sto}{gf:MV->Rho->Sto->R Rho}{cf:AZ}{ef:AX}{ρb:Rho}{gs:List (Nat×List MV)}(hs:stay gs S):
  ∀{ds:List α},(∀d∈ds, ∃ρ1,gf (f d) ρb S=.ok ρ1 S/\cf ρ1 S=.ok (p d) S/\ef ρ1 S=.ok (.val (g d)) S)->xE gf cf ef ρb gs (ds.map f) S=.ok ((ds.filter p).map g) S
 |[],_=>rfl
 |d::ds,st=>by
  obtain⟨ρ1,h1,h2,h3⟩:=st d mF0
  have e:=zBN hs (f:=f) (g:=g) (p:=p) (ds:=ds) λd hd=>st d (mO _ hd)
  rw [map_cons]
  unfold xE
  cases hp:p d with
  |true=>
   rw [h1,yY,bok,h2,yY,bok,hp,iP rfl,h3,yY,bok]
   unfold dR
   rw [bok,iP hs,e,List.filter_cons_of_pos hp]
   rfl
  |false=>
   rw [h1,yY,bok,h2,yY,bok,hp,iN xF0,iP hs,e,List.filter_cons_of_neg (by rw [hp];exact xF0)]
theorem yKG(K:List Nat)(n:Nat):loL n (K.map zG):=wX λd hd=>by
 obtain⟨i,_,rfl⟩:=mM.mp hd
 exact zCI _ _
abbrev SA(ts:List (Int×Int))(q:MV)(i l0 l4 l5:Nat)(nm o:Option MV):Rho:=[some (.tup (ts.map tbl)),some q,some (zG i),some (.loc l0),some (.loc l4),some (.loc l5),some (.loc (l5+1)),nm,o]
abbrev StW(B:Sto)(rs ws:List Nat):Sto:=B++[.dic (rD rs),.lst (ws.map zG)]
structure UN(B:Sto)(l4 u0 n:Nat)(un:Nat->List (List Nat)):Prop where
 tab:B[l4]? =some (.lst ((List.range' u0 n).map MV.loc))
 row: ∀j,j<n->B[u0+j]? =some (.lst ((un j).map MV.str))
 len: ∀j,j<n->(un j).length<=4
theorem yFT(B:Sto)(rs ws:List Nat):(StW B rs ws)[B.length]? =some (.dic (rD rs)):=by simp [StW]
theorem zUW(B:Sto)(rs ws:List Nat):(StW B rs ws)[B.length+1]? =some (.lst (ws.map zG)):=by simp [StW]
theorem yPW(B:Sto)(rs ws rs':List Nat):(StW B rs ws).set B.length (.dic (rD rs'))=StW B rs' ws:=by simp [StW]
theorem yFU(B:Sto)(rs ws ws':List Nat):(StW B rs ws).set (B.length+1) (.lst (ws'.map zG))=StW B rs ws':=by simp [StW]
theorem zZT{B:Sto}{k:Nat}{o:MO}(h:B[k]? =some o)(rs ws:List Nat):(StW B rs ws)[k]? =some o:=by
 show(B++_)[k]? =_
 rw [getElem?_append_left (gS0.mp h).1]
 exact h
theorem yFV{B:Sto}{l4 u0 n:Nat}{un:Nat->List (List Nat)}(U:UN B l4 u0 n un){j:Nat}(hj:j<n)(rs ws:List Nat):ixF (.val (.loc l4)) (.val (zG j)) (StW B rs ws)=.ok (.val (.loc (u0+j))) (StW B rs ws):=
 zAO (zZT U.tab rs ws) (zCD (by rw [getElem?_map,List.getElem?_range' hj,Nat.one_mul];rfl))
theorem yKH{ts:List (Int×Int)}{q:MV}{i l0 l4 u0 n:Nat}{B:Sto}{un:Nat->List (List Nat)}(U:UN B l4 u0 n un){w j:Nat}(hw:w<n)(hj:j<n){rs ws:List Nat}(hr:rs.length<1000)(hws:ws.length<1000):
  jX (SA ts q i l0 l4 B.length (some (.loc (u0+w))) (some (zG j))) (StW B rs ws)=.ok (.next (SA ts q i l0 l4 B.length (some (.loc (u0+w))) (some (zG j)))) (if j∉rs/\cmB (un w) (un j)=true then StW B (rs++[j]) (ws++[j])else StW B rs ws):=by
 have hin:=yFR true (yFT B rs ws) j
 rw [iP rfl]at hin
 unfold jX zBY
 by_cases hm:j∈rs
 ·rw [dT0 hm]at hin
  rw [iN λz=>z.1 hm]
  simp? [hin,Bool.not_true,fT,iF]
 ·rw [dF0 hm]at hin
  have hc:=yPV (zZT (U.row w hw) rs ws) (zZT (U.row j hj) rs ws) (by have:=U.len w hw;omega)
  by_cases hcm:cmB (un w) (un j)=true
  ·rw [iP ⟨hm,hcm⟩]
   have e1:(EJ (kJ (.bl true)) (DJ zFC (vJ 5) (vJ 8))) (SA ts q i l0 l4 B.length (some (.loc (u0+w))) (some (zG j))) (StW B rs ws)=.ok (.next (SA ts q i l0 l4 B.length (some (.loc (u0+w))) (some (zG j)))) (StW B (rs++[j]) ws):=by
    simp? [zDZ,zZS (yFT B rs ws) (show rs.length<1000000 by omega) hm,yPW]
   have e2:(BJ (eJ jQ zKS (vJ 6) (yJ (vJ 8) wJ))) (SA ts q i l0 l4 B.length (some (.loc (u0+w))) (some (zG j))) (StW B (rs++[j]) ws)=.ok (.next (SA ts q i l0 l4 B.length (some (.loc (u0+w))) (some (zG j)))) (StW B (rs++[j]) (ws++[j])):=by
    simp? [hX (zUW B (rs++[j]) ws),zCC (zUW B (rs++[j]) ws) (show(ws.map zG).length<1000000 by rw [lM];omega)]
    rw [show ws.map zG++[.int (j:Int)]=(ws++[j]).map zG by rw [map_append];rfl,yFU]
   simp? [hin,Bool.not_false,yFV U hj,hc,hcm]
   rw [zD e1,e2]
  ·rw [iN λz=>hcm z.2]
   simp? [hin,Bool.not_false,yFV U hj,hc,hcm,fT,iF]
theorem zXC{ts:List (Int×Int)}{q:MV}{i l0 l4 u0 n:Nat}{B:Sto}{un:Nat->List (List Nat)}(U:UN B l4 u0 n un){w:Nat}(hw:w<n): ∀(js:List Nat),(∀j∈js,j<n)-> ∀(rs ws:List Nat)(o:Option MV),rs.length+js.length<1000->ws.length+js.length<1000->
  ∃t o',wK (gNm 8) jX [] (js.map zG) (SA ts q i l0 l4 B.length (some (.loc (u0+w))) o) (StW B rs ws)=.ok (.next (SA ts q i l0 l4 B.length (some (.loc (u0+w))) o')) (StW B (rs++t) (ws++t))/\(rs.Nodup->(rs++t).Nodup)/\(∀k∈t,k<n/\cmB (un w) (un k)=true)/\ ∀k∈js,cmB (un w) (un k)=true->k∈rs++t
 |[],_,rs,ws,o,_,_=>⟨[],o,by rw [aN,aN];rfl,λh=>by rw [aN];exact h,λk hk=>by simp at hk,λk hk=>by simp at hk⟩
 |j::js,hjs,rs,ws,o,h1,h2=>by
  rw [lC]at h1 h2
  have hj:=hjs j mF0
  have hjs': ∀k∈js,k<n:=λk hk=>hjs k (mO _ hk)
  have e:=yKH (ts:=ts) (q:=q) (i:=i) (l0:=l0) U hw hj (rs:=rs) (ws:=ws) (by omega) (by omega)
  by_cases hm:j∉rs/\cmB (un w) (un j)=true
  ·rw [iP hm]at e
   obtain⟨t,o',e',h3,h4,h5⟩:=zXC (ts:=ts) (q:=q) (i:=i) (l0:=l0) U hw js hjs' (rs++[j]) (ws++[j]) (some (zG j)) (by rw [lA,lS];omega) (by rw [lA,lS];omega)
   refine⟨j::t,o',?_,λhn=>?_,λk hk=>?_,λk hk hc=>?_⟩
   ·rw [map_cons,zT (ρ0:=SA ts q i l0 l4 B.length (some (.loc (u0+w))) (some (zG j))) rfl e (yU _),e',aA,aA]
    rfl
   ·have:=h3 (nodup_append.mpr ⟨hn,by simp,λa ha b hb=>by rw [mS.mp hb];rintro rfl;exact hm.1 ha⟩)
    rw [aA]at this
    exact this
   ·rcases mC.mp hk with rfl|hk
    ·exact⟨hj,hm.2⟩
    ·exact h4 k hk
   ·rcases mC.mp hk with rfl|hk
    ·exact mem_append.mpr (.inr mF0)
    ·have:=h5 k hk hc
     rw [aA]at this
     exact this
  ·rw [iN hm]at e
   obtain⟨t,o',e',h3,h4,h5⟩:=zXC (ts:=ts) (q:=q) (i:=i) (l0:=l0) U hw js hjs' rs ws (some (zG j)) (by omega) (by omega)
   refine⟨t,o',?_,h3,h4,λk hk hc=>?_⟩
   ·rw [map_cons,zT (ρ0:=SA ts q i l0 l4 B.length (some (.loc (u0+w))) (some (zG j))) rfl e (yU _),e']
   ·rcases mC.mp hk with rfl|hk
    ·exact mem_append.mpr (.inl (Classical.byContradiction λz=>hm ⟨z,hc⟩))
    ·exact h5 k hk hc
theorem yKI{S:Sto}{l:Nat}{ds:List MV}{d:MV}(h:S[l]? =some (.lst (ds++[d]))):zNB (.val (.loc l)) [] S=.ok (.val d) (S.set l (.lst ds)):=by
 unfold zNB
 dsimp only
 rw [h]
 dsimp only
 have e1:(ds++[d])[(ds++[d]).length - 1]? =some d:=by simp
 have e2:(ds++[d]).eraseIdx ((ds++[d]).length - 1)=ds:=by
  rw [lA,lS,add_sub_cancel,List.eraseIdx_append_of_length_le (le_refl _),sub_self]
  exact aN _
 rw [e1,e2]
theorem yKJ{ts:List (Int×Int)}{q:MV}{i l0 l4 u0 n:Nat}{B:Sto}{un:Nat->List (List Nat)}(U:UN B l4 u0 n un)(hn:n<=4){w:Nat}(hw:w<n){rs ws:List Nat}(hr:rs.length<=100)(hws:ws.length<=100)(nm o:Option MV):
  ∃t o',jY (SA ts q i l0 l4 B.length nm o) (StW B rs (ws++[w]))=.ok (.next (SA ts q i l0 l4 B.length (some (.loc (u0+w))) o')) (StW B (rs++t) (ws++t))/\(rs.Nodup->(rs++t).Nodup)/\(∀k∈t,k<n/\cmB (un w) (un k)=true)/\ ∀k,k<n->cmB (un w) (un k)=true->k∈rs++t:=by
 obtain⟨t,o',e,h3,h4,h5⟩:=zXC (ts:=ts) (q:=q) (i:=i) (l0:=l0) U hw (List.range n) (λj hj=>mem_range.mp hj) rs ws o (by rw [length_range];omega) (by rw [length_range];omega)
 refine⟨t,o',?_,h3,h4,λk hk=>h5 k (mem_range.mpr hk)⟩
 have hp:zNB (.val (.loc (B.length+1))) [] (StW B rs (ws++[w]))=.ok (.val (zG w)) (StW B rs ws):=by
  rw [yKI (ds:=ws.map zG) (d:=zG w) (by rw [zUW,map_append];rfl),yFU]
 have e1:gU (SA ts q i l0 l4 B.length nm o) (StW B rs (ws++[w]))=.ok (.next (SA ts q i l0 l4 B.length (some (.loc (u0+w))) o)) (StW B rs ws):=by
  unfold gU
  simp? [hX (zUW B rs (ws++[w])),hp,yFV U hw]
 unfold jY
 rw [zD e1]
 unfold zBZ
 have hl:=zGF (zZT U.tab rs ws)
 rw [lM,List.length_range']at hl
 simp? [hl,zUV (n:=n) (by omega)]
 exact e
theorem yKK{S:Sto}{l:Nat}{ds:List MV}(h:S[l]? =some (.lst ds)):zQJ (.val (.loc l)) S=.ok (!ds.isEmpty) S:=by
 unfold zQJ
 dsimp only
 rw [h]
theorem zUX{ts:List (Int×Int)}{q:MV}{i l0 l4 u0 n:Nat}{B:Sto}{un:Nat->List (List Nat)}(U:UN B l4 u0 n un)(hn4:n<=4){P:Nat->Prop}(hP: ∀r k,P r->k<n->cmB (un r) (un k)=true->P k): ∀(m f:Nat),m<f-> ∀(rs ws:List Nat)(nm o:Option MV),n - rs.length+ws.length<=m->ws.length<=rs.length->rs.Nodup->(∀r∈rs,r<n/\P r)->(∀r∈ws,r∈rs)->(∀r∈rs,r∉ws-> ∀k,k<n->cmB (un r) (un k)=true->k∈rs)->
  ∃rs' nm' o',gB wF jY f (SA ts q i l0 l4 B.length nm o) (StW B rs ws)=.ok (.next (SA ts q i l0 l4 B.length nm' o')) (StW B rs' [])/\(∀r∈rs,r∈rs')/\rs'.Nodup/\(∀r∈rs',r<n/\P r)/\ ∀r∈rs', ∀k,k<n->cmB (un r) (un k)=true->k∈rs'
 |m,f,hf,rs,ws,nm,o,hm,hwl,hnd,hr,hw,hc=>by
  obtain⟨f,rfl⟩: ∃g,f=g+1:=⟨f - 1,by omega⟩
  have ht:wF (SA ts q i l0 l4 B.length nm o) (StW B rs ws)=.ok (!(ws.map zG).isEmpty) (StW B rs ws):=by
   unfold wF
   simp? [yKK (zUW B rs ws)]
  have hrl:rs.length<=n:=by
   have:=zFR hnd λx hx=>mem_range.mpr (hr x hx).1
   rw [length_range]at this
   exact this
  rcases List.eq_nil_or_concat ws with rfl|⟨ws,w,rfl⟩
  ·exact⟨rs,nm,o,zOY ht,λr h=>h,hnd,hr,λr h=>hc r h (by simp)⟩
  ·rw [List.concat_eq_append]at *
   have ht':wF (SA ts q i l0 l4 B.length nm o) (StW B rs (ws++[w]))=.ok true (StW B rs (ws++[w])):=by rw [ht];simp
   rw [lA,lS]at hm hwl
   have hww:w∈rs:=hw w (mem_append.mpr (.inr mF0))
   have hwn:=hr w hww
   obtain⟨t,o',e,h3,h4,h5⟩:=yKJ (ts:=ts) (q:=q) (i:=i) (l0:=l0) U hn4 hwn.1 (rs:=rs) (ws:=ws) (by omega) (by omega) nm o
   have hnd':=h3 hnd
   have hr': ∀r∈rs++t,r<n/\P r:=λr h=>by
    rcases mem_append.mp h with h|h
    ·exact hr r h
    ·exact⟨(h4 r h).1,hP w r hwn.2 (h4 r h).1 (h4 r h).2⟩
   have hrl':(rs++t).length<=n:=by
    have:=zFR hnd' λx hx=>mem_range.mpr (hr' x hx).1
    rw [length_range]at this
    exact this
   rw [lA]at hrl'
   have hlt:m - 1<m:=by omega
   obtain⟨rs',nm',o'',e2,g1,g2,g3,g4⟩:=zUX (ts:=ts) (q:=q) (i:=i) (l0:=l0) U hn4 hP (m - 1) f (by omega) (rs++t) (ws++t) (some (.loc (u0+w))) o' (by rw [lA,lA];omega) (by rw [lA,lA];omega) hnd' hr' (λr h=>by
    rcases mem_append.mp h with h|h
    ·exact mem_append.mpr (.inl (hw r (mem_append.mpr (.inl h))))
    ·exact mem_append.mpr (.inr h)) (λr h hn k hk hcm=>by
    rcases mem_append.mp h with h|h
    ·by_cases e:r=w
     ·subst e
      exact h5 k hk hcm
     ·exact mem_append.mpr (.inl (hc r h (λz=>by
       rcases mem_append.mp z with z|z
       ·exact hn (mem_append.mpr (.inl z))
       ·exact e (mS.mp z)) k hk hcm))
    ·exact absurd (mem_append.mpr (.inr h)) hn)
   refine⟨rs',nm',o'',?_,λr h=>g1 r (mem_append.mpr (.inl h)),g2,g3,g4⟩
   rw [zHF ht' e]
   exact e2
 termination_by m=>m
abbrev RcQ(ts:List (Int×Int))(hs:List (List Nat))(as:List (Int×List MV)):Nat->Nat->Prop:=Rc (Kq ts hs as) (Fq hs as) as.length
noncomputable def unL(hs ks:List (List Nat))(as:List (Int×List MV))(j:Nat):List (List Nat):=(Fq hs as j).filter λx=>!decide (x∈ks)
theorem yFW{ts:List (Int×Int)}{hs ks:List (List Nat)}{as:List (Int×List MV)}{i:Nat}(hk: ∀x,x∈ks↔KnQ ts hs as i x)(r k:Nat):cmB (unL hs ks as r) (unL hs ks as k)=true↔ ∃x,x∈Fq hs as r/\x∈Fq hs as k/\ ¬KnQ ts hs as i x:=by
 unfold cmB
 rw [any_eq_true]
 constructor
 ·rintro⟨x,h1,h2⟩
  have h2:=of_decide_eq_true h2
  unfold unL at h1 h2
  rw [mem_filter]at h1 h2
  exact⟨x,h1.1,h2.1,λz=>by have:=h1.2;rw [dT0 ((hk x).mpr z)]at this;cases this⟩
 ·rintro⟨x,h1,h2,h3⟩
  have e:(!decide (x∈ks))=true:=by rw [dF0 λz=>h3 ((hk x).mp z)];rfl
  exact⟨x,mem_filter.mpr ⟨h1,e⟩,dT0 (mem_filter.mpr ⟨h2,e⟩)⟩
theorem yLT{ts:List (Int×Int)}{hs:List (List Nat)}{as:List (Int×List MV)}{i j:Nat}(hi:i<as.length)(h:RcQ ts hs as i j):j<as.length:=by
 cases h with
 |self=>exact hi
 |step j k _ hk _ _ _=>exact hk
theorem yKL(S:Sto)(i:Nat):zUA S.length (.val (zG i)) (.val (.bl true)) (S++[.dic []])=.ok (.val (.loc S.length)) (S++[.dic (rD [i])]):=by
 unfold zUA
 dsimp only
 rw [iP ⟨rfl,zL _ _⟩,xT]
 rfl
theorem yBV{ts:List (Int×Int)}{hs:List (List Nat)}{as:List (Int×List MV)}(hA: ∀a∈as,AOk ts a)(hlen:as.length<=4){i:Nat}(hi:i<as.length)(S:Sto):
  ∃rs:List Nat,zZ 3 cZ [.val (.tup (ts.map tbl)),.val (qM hs as),.val (zG i)] S=.ok (.new (rs.map zG)) S/\rs.Nodup/\ ∀j,j∈rs↔RcQ ts hs as i j:=by
 obtain⟨ks,T,e1,hk⟩:=yFP (hs:=hs) hA hlen hi S
 obtain⟨S1,hS1⟩: ∃S1:Sto,S1=S++.dic (dT ks)::T:=⟨_,rfl⟩
 have hat: ∀U:Sto,(S1++U)[S.length]? =some (.dic (dT ks)):=λU=>by
  rw [hS1,aA]
  exact zJV _ _ _
 have hin: ∀a∈as, ∀U:Sto, ∃ρ1,gNm 0 (aM a) [none,some (qM hs as),some (.loc S.length)] (S1++U)=.ok ρ1 (S1++U)/\zBX ρ1 (S1++U)=.ok true (S1++U)/\gT ρ1 (S1++U)=.ok (.new (((frL hs a).filter λx=>!decide (x∈ks)).map MV.str)) (S1++U):=λa ha U=>by
  have hAa:=hA a ha
  refine⟨[some (aM a),some (qM hs as),some (.loc S.length)],rfl,rfl,?_⟩
  have hc:xE (gNm 0) gS zBW [none,some (.loc S.length)] [] ((frL hs a).map MV.str) (S1++U)=.ok (((frL hs a).filter λx=>!decide (x∈ks)).map MV.str) (S1++U):=
   zBN (yU _) λx _=>⟨[some (.str x),some (.loc S.length)],rfl,by
    unfold gS
    simp? [yFI true (hat U) x],rfl⟩
  have hl:((frL hs a).map MV.str).length<1000000:=by rw [lM];have:=zJU (hs:=hs) hAa;omega
  have hb: ∀a b c:Option MV,blk 1 [2] [a,b,c]=[none,c]:=λ_ _ _=>rfl
  unfold gT
  simp? [yLR hAa,zHJ,hl,hb,hc]
 have hcl:=zNK (f:=aM) (g:=λa=>((frL hs a).filter λx=>!decide (x∈ks)).map MV.str) as hin []
 rw [aN,length_nil,add_zero]at hcl
 obtain⟨B,hB⟩: ∃B:Sto,B=S1++(as.map λa=>MO.lst (((frL hs a).filter λx=>!decide (x∈ks)).map MV.str))++[.lst ((List.range' S1.length as.length).map MV.loc)]:=⟨_,rfl⟩
 have U:UN B (S1.length+as.length) S1.length as.length (unL hs ks as):=by
  refine⟨?_,λj hj=>?_,λj hj=>?_⟩
  ·rw [hB,getElem?_append_right (by rw [lA,lM];exact le_refl _),lA,lM,sub_self]
   rfl
  ·rw [hB,aA,getElem?_append_right (by omega),Nat.add_sub_cancel_left,getElem?_append_left (by rw [lM];exact hj),getElem?_map,gE0 hj]
   unfold unL
   rw [zUS (gE0 hj)]
   rfl
  ·unfold unL
   rw [zUS (gE0 hj)]
   have h1:=length_filter_le (λx=>!decide (x∈ks)) (frL hs as[j])
   have h2:=zJU (hs:=hs) (hA _ (getElem_mem hj))
   omega
 obtain⟨rs,nm',o',e5,g1,g2,g3,g4⟩:=zUX (ts:=ts) (q:=qM hs as) (i:=i) (l0:=S.length) U hlen (P:=RcQ ts hs as i) (λr k hr hkl hc=>by
  obtain⟨x,h1,h2,h3⟩:=(yFW hk r k).mp hc
  exact .step r k hr hkl h1 h2 h3) 10 10000 (by omega) [i] [i] none none (by rw [lS];omega) (le_refl _) (by simp) (λr hr=>by
  rw [mS.mp hr]
  exact⟨hi,.self⟩) (λr h=>h) (λr h hn=>absurd h hn)
 refine⟨rs,?_,g2,λj=>⟨λh=>(g3 j h).2,λh=>?_⟩⟩
 ·have hBS: ∃V,StW B rs []=S++V:=⟨_,by rw [show StW B rs []=B++[.dic (rD rs),.lst []]from rfl,hB,hS1];simp only [aA];rfl⟩
  obtain⟨V,hV⟩:=hBS
  refine gQ (T:=V) rfl ?_ (yKG _ _)
  show xF (zCN [some (.tup (ts.map tbl)),some (qM hs as),some (zG i),none,none,none,none,none,none] S)=_
  have f1:dW [some (.tup (ts.map tbl)),some (qM hs as),some (zG i),none,none,none,none,none,none] S=.ok (.next [some (.tup (ts.map tbl)),some (qM hs as),some (zG i),some (.loc S.length),none,none,none,none,none]) S1:=by
   unfold dW
   simp? [e1]
   rw [hS1]
  have hb: ∀a b c d e f g h i:Option MV,blk 1 [1,3] [a,b,c,d,e,f,g,h,i]=[none,b,d]:=λ_ _ _ _ _ _ _ _ _=>rfl
  have hl:(as.map aM).length<1000000:=by rw [lM];omega
  have f2:dX [some (.tup (ts.map tbl)),some (qM hs as),some (zG i),some (.loc S.length),none,none,none,none,none] S1=.ok (.next [some (.tup (ts.map tbl)),some (qM hs as),some (zG i),some (.loc S.length),some (.loc (S1.length+as.length)),none,none,none,none]) B:=by
   unfold dX
   simp? [zGO,zNI,hl,hb,hcl]
   rw [hB,lA,lM]
  have f3:dY [some (.tup (ts.map tbl)),some (qM hs as),some (zG i),some (.loc S.length),some (.loc (S1.length+as.length)),none,none,none,none] B=.ok (.next [some (.tup (ts.map tbl)),some (qM hs as),some (zG i),some (.loc S.length),some (.loc (S1.length+as.length)),some (.loc B.length),none,none,none]) (B++[.dic (rD [i])]):=by
   unfold dY
   simp? [d1J,yKL]
  have f4:dZ [some (.tup (ts.map tbl)),some (qM hs as),some (zG i),some (.loc S.length),some (.loc (S1.length+as.length)),some (.loc B.length),none,none,none] (B++[.dic (rD [i])])=.ok (.next (SA ts (qM hs as) i S.length (S1.length+as.length) B.length none none)) (StW B [i] [i]):=by
   unfold dZ
   simp? [lst1]
   rw [lA,aA]
   rfl
  unfold zCN
  rw [zD f1,zD f2,zD f3,zD f4,zD (show zEN _ _=_ from e5)]
  unfold zEO
  simp? [yFS (yFT B rs [])]
  rw [hV]
  rfl
 ·induction h with
  |self=>exact g1 i mF0
  |@step x j k hj hkn h1 h2 h3 ih=>exact g4 j ih k hkn ((yFW hk j k).mpr ⟨x,h1,h2,h3⟩)
abbrev Pr:=Nat×Nat
def prM(p:Pr):MV:=.tup [zG p.1,zG p.2]
theorem yKM{p q:Pr}(h:prM p=prM q):p=q:=by
 unfold prM at h
 injection h with h
 injection h with h1 h
 injection h with h2 _
 exact Prod.ext (zSB h1) (zSB h2)
theorem yFX{p:Pr}{T:List Pr}:prM p∈T.map prM↔p∈T:=⟨λh=>by obtain⟨q,hq,e⟩:=mM.mp h;rw [<-yKM e];exact hq,λh=>mM.mpr ⟨p,h,rfl⟩⟩
theorem zUY(T:List Pr): ∀y∈T.map prM,pd y=true/\dpt y<40:=λy hy=>by
 obtain⟨p,_,rfl⟩:=mM.mp hy
 unfold prM
 exact⟨by rw [zJR,jU,jU,zLI,zRR,zRR];rfl,by rw [zIJ,kX,kX,zIK,zLJ,zLJ];decide⟩
theorem pr_lo(T:List Pr)(n:Nat):loL n (T.map prM):=wX λd hd=>zPW (zUY T d hd).1
def pLt(a b:Pr):Bool:=decide (a.1<b.1\/a.1=b.1/\a.2<b.2)
theorem zKM{α:Type}{le:α->α->Prop}: ∀{l1 l2:List α},l1.Perm l2->l1.Pairwise le->l2.Pairwise le->(∀a∈l1, ∀b∈l1,le a b->le b a->a=b)->l1=l2
 |[],l2,p,_,_,_=>p.nil_eq
 |a::l1,[],p,_,_,_=>by have:=p.length_eq;simp at this
 |a::l1,b::l2,p,h1,h2,u=>by
  have c1:=pairwise_cons.mp h1
  have c2:=pairwise_cons.mp h2
  have e:a=b:=by
   rcases mC.mp (p.mem_iff.mp (mF0 (a:=a) (l:=l1)))with e|m2
   ·exact e
   ·rcases mC.mp (p.mem_iff.mpr (mF0 (a:=b) (l:=l2)))with e|m1
    ·exact e.symm
    ·exact u a mF0 b (mO _ m1) (c1.1 b m1) (c2.1 a m2)
  subst e
  rw [zKM (p.cons_inv) c1.2 c2.2 λx hx y hy=>u x (mO _ hx) y (mO _ hy)]
theorem zNL{β:Type}(T:List β):(List.range T.length).filterMap (T[·]?)=T:=by
 induction T with
 |nil=>rfl
 |cons t T ih=>
  rw [lC,List.range_succ_eq_map,filterMap_cons,List.filterMap_map]
  show t::List.filterMap (λi=>(t::T)[i+1]?) (List.range T.length)=_
  simp only [List.getElem?_cons_succ]
  rw [ih]
theorem zNM(S:Sto)(a b:Pr):ltv S zM (prM a) (prM b)=some (pLt a b):=by
 have e:zM=38+1+1:=rfl
 rw [e]
 show((eqv S (38+1) (zG a.1) (zG b.1)).bind λz=>if z=true then((eqv S (38+1) (zG a.2) (zG b.2)).bind λz=>if z=true then some false else ltv S (38+1) (zG a.2) (zG b.2))else ltv S (38+1) (zG a.1) (zG b.1))=_
 rw [show eqv S (38+1) (zG a.1) (zG b.1)=some (decide ((a.1:Int)=b.1))from zGC 38 a.1 b.1,show eqv S (38+1) (zG a.2) (zG b.2)=some (decide ((a.2:Int)=b.2))from zGC 38 a.2 b.2]
 show(if decide ((a.1:Int)=b.1)=true then(if decide ((a.2:Int)=b.2)=true then some false else some (decide ((a.2:Int)<b.2)))else some (decide ((a.1:Int)<b.1)))=_
 unfold pLt
 split
 ·rename_i h
  have h:=of_decide_eq_true h
  split
  ·rename_i h2
   have h2:=of_decide_eq_true h2
   rw [dF0 (by omega)]
  ·exact congrArg some (dec_is (by omega))
 ·rename_i h
  have h: ¬(a.1:Int)=b.1:=λz=>h (dT0 z)
  exact congrArg some (dec_is (by omega))
theorem zNN{a b:Pr}:pLt a b=false↔ ¬(a.1<b.1\/a.1=b.1/\a.2<b.2):=by unfold pLt;exact decide_eq_false_iff_not
theorem zUZ{a b:Pr}:pLt a b=true↔(a.1<b.1\/a.1=b.1/\a.2<b.2):=by unfold pLt;exact decide_eq_true_iff
theorem yKN{T R:List Pr}(pR:R.Perm T)(qR:R.Pairwise (λa b=>pLt b a=false))(hl:T.length<1000000){p:Er}{S:Sto}(hp:jP S p=some (T.map prM)):zPG [p] S=.ok (.new (R.map prM)) S:=by
 cases hT:T with
 |nil=>
  subst hT
  have e:R=[]:=pR.eq_nil
  subst e
  refine zYV hp ⟨by simp,λd hd=>by simp at hd,λd hd=>by simp at hd,⟨λa ha=>by simp at ha,λa ha=>by simp at ha,λa ha=>by simp at ha⟩⟩ (λr' h=>?_) ⟨[],by simp,.nil,rfl⟩
  obtain⟨idx,ip,_,rfl⟩:=h
  have:=ip.length_eq
  have e2:idx=[]:=List.eq_nil_of_length_eq_zero (by simpa using this)
  rw [e2];rfl
 |cons t0 T0=>
 have mem: ∀k∈T.map prM, ∃t,k=prM t:=λk hk=>by
  obtain⟨t,_,h2⟩:=mM.mp hk
  exact⟨t,h2.symm⟩
 have ok:SrtI S (T.map prM):=by
  refine⟨by rw [lM];exact hl,λd hd=>?_,λd hd=>?_,⟨λa ha b hb=>?_,λa ha b hb c hc h1 h2=>?_,λa ha b hb h1=>?_⟩⟩
  ·obtain⟨t,rfl⟩:=mem d hd
   simp [prM,zEL,zPB]
  ·obtain⟨t,rfl⟩:=mem d hd
   exact⟨_,_,rfl⟩
  ·obtain⟨t,rfl⟩:=mem a ha
   obtain⟨u,rfl⟩:=mem b hb
   exact⟨_,zNM S t u⟩
  ·obtain⟨t,rfl⟩:=mem a ha
   obtain⟨u,rfl⟩:=mem b hb
   obtain⟨v,rfl⟩:=mem c hc
   rw [zNM]at h1 h2 ⊢
   have h1:=zNN.mp (Option.some.inj h1)
   have h2:=zNN.mp (Option.some.inj h2)
   rw [zNN.mpr (by omega)]
  ·obtain⟨t,rfl⟩:=mem a ha
   obtain⟨u,rfl⟩:=mem b hb
   rw [zNM]at h1 ⊢
   have h1:=zUZ.mp (Option.some.inj h1)
   rw [zNN.mpr (by omega)]
 refine zYV hp ok (λr' h=>?_) ?_
 ·obtain⟨idx,p',q',rfl⟩:=h
  rw [lM]at p'
  have e1:(idx.filterMap (T[·]?)).Perm T:=by
   have:=p'.filterMap (T[·]?)
   rwa [zNL]at this
  have e2:(idx.filterMap (T[·]?)).Pairwise (λa b=>pLt b a=false):=by
   rw [List.pairwise_filterMap]
   refine q'.imp λ{i j} h b hb c hc=>?_
   have h':=h (prM b) (prM c) (by rw [getElem?_map,hb];rfl) (by rw [getElem?_map,hc];rfl)
   rw [zNM]at h'
   exact Option.some.inj h'
  have e3:idx.filterMap ((T.map prM)[·]?)=(idx.filterMap (T[·]?)).map prM:=by
   rw [List.map_filterMap]
   congr 1
   funext i
   rw [getElem?_map]
  rw [e3,zKM (e1.trans pR.symm) e2 qR λa _ b _ h1 h2=>by
   have h1:=zNN.mp h1
   have h2:=zNN.mp h2
   exact Prod.ext (by omega) (by omega)]
 ·have g:(List.range T.length).map (λi=>(T[i]?).getD t0)=T:=by
   rw [zMS λi hi=>mem_range.mp hi,zNL]
  obtain⟨idx,ip,ie⟩:=zPC pR.symm (List.range T.length) g
  have ib: ∀i,i∈idx->i<T.length:=λi hi=>mem_range.mp (ip.mem_iff.mp hi)
  refine⟨idx,by rw [lM];exact ip,?_,?_⟩
  ·rw [<-ie,pairwise_map]at qR
   refine List.Pairwise.imp_of_mem (λ{i j} hi hj h a c ha hc=>?_) qR
   have zi:T[i]? =some (T[i]'(ib i hi)):=gE0 _
   have zj:T[j]? =some (T[j]'(ib j hj)):=gE0 _
   rw [getElem?_map,zi]at ha
   rw [getElem?_map,zj]at hc
   cases ha;cases hc
   rw [zi,zj]at h
   rw [zNM]
   exact congrArg some h
  ·have e2:idx.map (λi=>(T[i]?).getD t0)=idx.filterMap (T[·]?):=zMS ib
   rw [<-ie,e2,List.map_filterMap]
   congr 1
   funext i
   rw [getElem?_map]
theorem yKO(ds:List MV)(S:Sto):itE [.val (.tup ds)] S=.ok ⟨zTK ds,[]⟩ S:=rfl
abbrev CT(q:MV)(l:Nat)(p a:Option MV):Rho:=[some q,some (.loc l),p,a]
theorem yFY{q:MV}(S:Sto): ∀(as:List (Int×List MV))(k:Nat)(rs:List Nat)(p a:Option MV),rs.length+as.length<1000->(∀a∈as,0<=a.1)->(rs++as.map λa=>a.1.toNat).Nodup->
  ∃p' a' rs',wK (gTp 2 (yF (gNm 2) (yF (gNm 3) dF))) wY [] (((as.map aM).zipIdx k).map λp=>.tup [.int (p.2:Nat),p.1]) (CT q S.length p a) (S++[.dic (rD rs)])=.ok (.next (CT q S.length p' a')) (S++[.dic (rD rs')])
 |[],k,rs,p,a,_,_,_=>⟨p,a,rs,rfl⟩
 |c::as,k,rs,p,a,hl,h0,hn=>by
  rw [lC]at hl
  have hc0:=h0 c mF0
  have hci:zG c.1.toNat=.int c.1:=by rw [show zG c.1.toNat=.int ((c.1.toNat:Nat):Int)from rfl,Int.toNat_of_nonneg hc0]
  rw [map_cons]at hn
  have hnot:c.1.toNat∉rs:=λz=>(nodup_append.mp hn).2.2 _ z _ mF0 rfl
  obtain⟨p',a',rs',ih⟩:=yFY (q:=q) S as (k+1) (rs++[c.1.toNat]) (some (.int (k:Nat))) (some (aM c)) (by rw [lA,lS];omega) (λb hb=>h0 b (mO _ hb)) (by rw [aA];exact hn)
  refine⟨p',a',rs',?_⟩
  have hin:=yFR false (zL S (.dic (rD rs))) c.1.toNat
  rw [dF0 hnot,iN xF0,hci]at hin
  have hst:=λρ=>zZS (zL S (.dic (rD rs))) (show rs.length<1000000 by omega) hnot ρ
  rw [hci]at hst
  have hix: ∀S:Sto,ixF (.val (aM c)) (.val (.int 0)) S=.ok (.val (.int c.1)) S:=λ_=>rfl
  have e1:wD (CT q S.length (some (.int (k:Nat))) (some (aM c))) (S++[.dic (rD rs)])=.ok (.next (CT q S.length (some (.int (k:Nat))) (some (aM c)))) (S++[.dic (rD rs)]):=by
   unfold wD
   simp? [hix,hin,fT,iF]
  have e2:wE (CT q S.length (some (.int (k:Nat))) (some (aM c))) (S++[.dic (rD rs)])=.ok (.next (CT q S.length (some (.int (k:Nat))) (some (aM c)))) (S++[.dic (rD (rs++[c.1.toNat]))]):=by
   unfold wE
   simp? [hix,zDZ,hst,xT]
  rw [map_cons,zipIdx_cons,map_cons,zT (ρ0:=CT q S.length (some (.int (k:Nat))) (some (aM c))) (S0:=S++[.dic (rD rs)]) rfl (by
   unfold wY
   rw [zD e1]
   exact e2) (yU _)]
  exact ih
theorem yKP{hs:List (List Nat)}{as:List (Int×List MV)}(hl:as.length<=4)(h0: ∀a∈as,0<=a.1)(hn:(as.map λa=>a.1.toNat).Nodup)(S:Sto):zZ 1 wA [.val (qM hs as)] S=.ok (.val .non) S:=by
 obtain⟨p',a',rs',e⟩:=yFY (q:=qM hs as) S as 0 [] none none (by rw [length_nil];omega) h0 hn
 refine zEX (T:=[.dic (rD rs')]) rfl ?_ (zWN _) (λl=>by simp)
 show xF (jB [some (qM hs as),none,none,none] S)=_
 have e1:wZ [some (qM hs as),none,none,none] S=.ok (.next (CT (qM hs as) S.length none none)) (S++[.dic (rD [])]):=by
  unfold wZ
  simp? [zTL]
  rfl
 unfold jB
 rw [zD e1]
 unfold bU
 simp? [zGO,yKO,zTK]
 rw [show(List.map (λp=>MV.tup [.int (p.2:Nat),p.1]) (List.map aM as).zipIdx)=(((as.map aM).zipIdx 0).map λp=>.tup [.int (p.2:Nat),p.1])from rfl,e]
 rfl
structure QOk(ts:List (Int×Int))(as:List (Int×List MV)):Prop where
 at': ∀a∈as,AOk ts a
 len:as.length<=4
 pos: ∀a∈as,0<=a.1
 nd:(as.map λa=>a.1.toNat).Nodup
open Classical in
noncomputable def PR(R:Nat->Nat->Prop)(n:Nat):List Pr:=(List.range n).flatMap λa=>((List.range n).filter λb=>decide (b≠a/\R a b)).map λb=>(a,b)
open Classical in
theorem zFS{R:Nat->Nat->Prop}{n:Nat}{p:Pr}:p∈PR R n↔p.1<n/\p.2<n/\p.2≠p.1/\R p.1 p.2:=by
 unfold PR
 rw [mem_flatMap]
 constructor
 ·rintro⟨a,ha,h⟩
  obtain⟨b,hb,rfl⟩:=mM.mp h
  rw [mem_filter]at hb
  exact⟨mem_range.mp ha,mem_range.mp hb.1,of_decide_eq_true hb.2⟩
 ·rintro⟨h1,h2,h3⟩
  exact⟨p.1,mem_range.mpr h1,mM.mpr ⟨p.2,mem_filter.mpr ⟨mem_range.mpr h2,dT0 h3⟩,rfl⟩⟩
theorem yLU(R:Nat->Nat->Prop)(n:Nat):(PR R n).Pairwise (λa b=>pLt a b=true):=by
 unfold PR
 rw [List.pairwise_flatMap]
 refine⟨λa _=>?_,?_⟩
 ·rw [pairwise_map]
  refine List.Pairwise.imp ?_ (List.Pairwise.filter _ List.pairwise_lt_range)
  intro x y h
  exact zUZ.mpr (.inr ⟨rfl,h⟩)
 ·refine List.pairwise_lt_range.imp λ{a b} h x hx y hy=>?_
  obtain⟨_,_,rfl⟩:=mM.mp hx
  obtain⟨_,_,rfl⟩:=mM.mp hy
  exact zUZ.mpr (.inl h)
theorem yLV(R:Nat->Nat->Prop)(n:Nat):(PR R n).Nodup:=(yLU R n).imp λ{a b} h e=>by
 subst e
 have:=zUZ.mp h
 omega
theorem yKQ{S:Sto}{l:Nat}{ds es:List MV}(hS:S[l]? =some (.lst ds))(hz:ds.length+es.length<=1000000):extF (.val (.loc l)) [.new es] S=.ok (.val .non) (S.set l (.lst (ds++es))):=by
 show zHW (.val (.loc l)) S (λds=>if ds.length+es.length<=sizeLine then some (ds++es)else none)=_
 unfold zHW
 dsimp only
 rw [hS]
 dsimp only
 rw [iP (fits hz)]
section
variable{ts:List (Int×Int)}{hs:List (List Nat)}{as:List (Int×List MV)}
abbrev SW(ts:List (Int×Int))(q:MV)(p o:Option MV):Rho:=[some (.tup (ts.map tbl)),some q,p,o]
theorem yPX{i:Nat}{rs:List Nat}(Q:QOk ts as)(hi:i<as.length)(hn:rs.Nodup)(h: ∀j,j∈rs↔RcQ ts hs as i j):rs.length<=4:=by
 have:=zFR hn λx hx=>mem_range.mpr (yLT hi ((h x).mp hx))
 rw [length_range]at this
 have:=Q.len
 omega
theorem yFZ(Q:QOk ts as)(S:Sto): ∀(m k:Nat)(T:List Pr)(o:Option MV),k+m=as.length->T.length<=4 * k->T.Nodup->(∀p,p∈T↔p.1<k/\p.2≠p.1/\RcQ ts hs as p.1 p.2)->
  ∃(T':List Pr)(o':Option MV),wK (gNm 3) zGG [] ((List.range' k m).map zG) (SW ts (qM hs as) (some (.loc S.length)) o) (S++[.lst (T.map prM)])=.ok (.next (SW ts (qM hs as) (some (.loc S.length)) o')) (S++[.lst (T'.map prM)])/\T'.length<=16/\T'.Nodup/\ ∀p,p∈T'↔p.1<as.length/\p.2≠p.1/\RcQ ts hs as p.1 p.2
 |0,k,T,o,hk,hl,hn,h=>⟨T,o,rfl,by have:=Q.len;omega,hn,by rw [<-hk];exact h⟩
 |m+1,k,T,o,hk,hl,hn,h=>by
  have hki:k<as.length:=by omega
  obtain⟨rs,e1,hrn,hrs⟩:=yBV (hs:=hs) Q.at' Q.len hki (S++[.lst (T.map prM)])
  have hrl:=yPX Q hki hrn hrs
  have hql:=Q.len
  have hc:xE (gNm 0) zFN zFO [none,some (zG k)] [] (rs.map zG) (S++[.lst (T.map prM)])=.ok (((rs.filter λb=>!decide (b=k)).map λb=>(k,b)).map prM) (S++[.lst (T.map prM)]):=by
   rw [map_map]
   exact zBN (yU _) λb _=>⟨[some (zG b),some (zG k)],rfl,by
    unfold zFN
    simp? [ne_int]
    rw [dec_is (show(b:Int)=k↔b=k by omega)],by
    unfold zFO
    simp? [tup2]
    rfl⟩
  obtain⟨N,eN⟩: ∃N:List Pr,N=(rs.filter λb=>!decide (b=k)).map λb=>(k,b):=⟨_,rfl⟩
  rw [<-eN]at hc
  have hNl:N.length<=4:=by rw [eN,lM];exact le_trans (length_filter_le _ _) hrl
  have hNm: ∀p,p∈N↔p.1=k/\p.2≠p.1/\RcQ ts hs as p.1 p.2:=λp=>by
   rw [eN,mM]
   constructor
   ·rintro⟨b,hb,rfl⟩
    rw [mem_filter,hrs]at hb
    refine⟨rfl,λe=>?_,hb.1⟩
    have h2:=hb.2
    rw [dT0 (show b=k from e)]at h2
    cases h2
   ·rintro⟨h1,h2,h3⟩
    refine⟨p.2,?_,Prod.ext h1.symm rfl⟩
    rw [mem_filter,hrs, <-h1,dF0 h2]
    exact⟨h3,rfl⟩
  have hNn:N.Nodup:=by
   rw [eN]
   unfold List.Nodup
   rw [pairwise_map]
   exact(List.Pairwise.filter _ hrn).imp λ{x y} h e=>h (congrArg Prod.snd e)
  have hl1:(rs.map zG).length<1000000:=by rw [lM];omega
  have hz:(T.map prM).length+(N.map prM).length<=1000000:=by rw [lM,lM];omega
  have hb: ∀a b c d:Option MV,blk 1 [3] [a,b,c,d]=[none,d]:=λ_ _ _ _=>rfl
  have eb:zGG (SW ts (qM hs as) (some (.loc S.length)) (some (zG k))) (S++[.lst (T.map prM)])=.ok (.next (SW ts (qM hs as) (some (.loc S.length)) (some (zG k)))) (S++[.lst ((T++N).map prM)]):=by
   unfold zGG zKJ
   simp? [hX (zL S (.lst (T.map prM))),e1,zHJ,hl1,hb,hc,yKQ (zL S (.lst (T.map prM))) hz,xT]
   rw [map_append]
  obtain⟨T',o',e,g⟩:=yFZ Q S m (k+1) (T++N) (some (zG k)) (by omega) (by rw [lA];omega) (nodup_append.mpr ⟨hn,hNn,λx hx y hy=>by
   rintro rfl
   have h1:=(h x).mp hx
   have h2:=(hNm x).mp hy
   omega⟩) (λp=>by
   rw [mem_append,h,hNm]
   constructor
   ·rintro(⟨a,b,c⟩|⟨a,b,c⟩)
    ·exact⟨by omega,b,c⟩
    ·exact⟨by omega,b,c⟩
   ·rintro⟨a,b,c⟩
    by_cases hpk:p.1=k
    ·exact .inr ⟨hpk,b,c⟩
    ·exact .inl ⟨by omega,b,c⟩)
  refine⟨T',o',?_,g⟩
  rw [range'_succ,map_cons,zT (ρ0:=(SW ts (qM hs as) (some (.loc S.length)) (some (zG k)))) rfl eb (yU _)]
  exact e
noncomputable abbrev PQ(ts:List (Int×Int))(hs:List (List Nat))(as:List (Int×List MV)):List Pr:=PR (RcQ ts hs as) as.length
theorem zVA(Q:QOk ts as)(S:Sto):zZ 2 zGH [.val (.tup (ts.map tbl)),.val (qM hs as)] S=.ok (.new ((PQ ts hs as).map prM)) S:=by
 obtain⟨T',o',e,hl,hn,hT⟩:=yFZ (hs:=hs) Q S as.length 0 [] none (by omega) (le_refl _) nodup_nil (λp=>⟨λh=>by simp at h,λh=>absurd h.1 (Nat.not_lt_zero _)⟩)
 refine gQ (T:=[.lst (T'.map prM)]) rfl ?_ (pr_lo _ _)
 show xF (zRH (SW ts (qM hs as) none none) S)=_
 have e1:zJK (SW ts (qM hs as) none none) S=.ok (.next (SW ts (qM hs as) none none)) S:=by
  unfold zJK
  simp? [yKP Q.len Q.pos Q.nd]
 have e2:zJL (SW ts (qM hs as) none none) S=.ok (.next (SW ts (qM hs as) (some (.loc S.length)) none)) (S++[.lst []]):=by
  unfold zJL
  simp? [bok]
 have hlen:=Q.len
 have e3:zJM (SW ts (qM hs as) (some (.loc S.length)) none) (S++[.lst []])=.ok (.next (SW ts (qM hs as) (some (.loc S.length)) o')) (S++[.lst (T'.map prM)]):=by
  unfold zJM
  simp? [zGO,zAD,lM,zUV (n:=as.length) (by omega)]
  rw [List.range_eq_range']
  exact e
 have hp:(PQ ts hs as).Perm T':=(List.perm_ext_iff_of_nodup (yLV _ _) hn).mpr λp=>by
  rw [zFS,hT]
  exact⟨λh=>⟨h.1,h.2.2⟩,λh=>⟨h.1,yLT h.1 h.2.2,h.2⟩⟩
 have hs4:=yKN hp ((yLU _ _).imp λ{a b} h=>zNN.mpr (by have:=zUZ.mp h;omega)) (by omega) (zCW (zL S (.lst (T'.map prM))))
 unfold zRH
 rw [zD e1,zD e2,zD e3]
 unfold zPQ
 simp? [hs4]
 rfl
noncomputable def rgP(L:List Pr):Option Pr:=L.find? λp=>decide ((p.2,p.1)∈L)
def rgE:Option Pr->Er
 |none=>.val .non
 |some p=>.new [zG p.1,zG p.2]
def rgR:Option Pr->Rho->Fl
 |none,ρ=>.next ρ
 |some p,_=>.ret (.new [zG p.1,zG p.2])
abbrev RG(ts:List (Int×Int))(q:MV)(l:Nat)(a b:Option MV):Rho:=[some (.tup (ts.map tbl)),some q,some (.loc l),a,b]
theorem yGA{q:MV}{L:List Pr}{S:Sto}{l:Nat}(hS:S[l]? =some (.lst (L.map prM))): ∀(M:List Pr)(a b:Option MV), ∃a' b',wK (gTp 2 (yF (gNm 3) (yF (gNm 4) dF))) zIH [(l,L.map prM)] (M.map prM) (RG ts q l a b) S=.ok (rgR (M.find? λp=>decide ((p.2,p.1)∈L)) (RG ts q l a' b')) S
 |[],a,b=>⟨a,b,rfl⟩
 |p::M,a,b=>by
  have hin:=zGI false hS (zUY [(p.2,p.1)] (prM (p.2,p.1)) mF0).1 (zUY L)
  rw [iN xF0,dec_is (yFX (p:=(p.2,p.1)) (T:=L))]at hin
  have hin:inF false (.val (.tup [zG p.2,zG p.1])) (.val (.loc l)) S=.ok (.val (.bl (decide ((p.2,p.1)∈L)))) S:=hin
  rw [map_cons]
  by_cases hp:(p.2,p.1)∈L
  ·rw [dT0 hp]at hin
   refine⟨a,b,?_⟩
   rw [List.find?_cons_of_pos (by exact dT0 hp)]
   refine zQS (ρ0:=RG ts q l (some (zG p.1)) (some (zG p.2))) (S0:=S) rfl ?_
   unfold zIH zHI
   simp? [tup2,hin,lst2]
  ·rw [dF0 hp]at hin
   obtain⟨a',b',e⟩:=yGA (q:=q) hS M (some (zG p.1)) (some (zG p.2))
   refine⟨a',b',?_⟩
   rw [List.find?_cons_of_neg (by rw [dF0 hp];exact xF0)]
   rw [zT (ρ0:=RG ts q l (some (zG p.1)) (some (zG p.2))) (S0:=S) rfl (by
    unfold zIH zHI
    simp? [tup2,hin,fT,iF]
    rfl) (dI hS)]
   exact e
theorem yKR(Q:QOk ts as)(S:Sto):zZ 2 zJN [.val (.tup (ts.map tbl)),.val (qM hs as)] S=.ok (rgE (rgP (PQ ts hs as))) S:=by
 obtain⟨L,hL⟩: ∃L,L=PQ ts hs as:=⟨_,rfl⟩
 rw [<-hL]
 have hsw:=zVA (hs:=hs) Q S
 rw [<-hL]at hsw
 obtain⟨a',b',e⟩:=yGA (ts:=ts) (q:=qM hs as) (L:=L) (zL S (.lst (L.map prM))) L none none
 have e1:zND [some (.tup (ts.map tbl)),some (qM hs as),none,none,none] S=.ok (.next (RG ts (qM hs as) S.length none none)) (S++[.lst (L.map prM)]):=by
  unfold zND
  simp? [hsw]
 have e2:zNE (RG ts (qM hs as) S.length none none) (S++[.lst (L.map prM)])=.ok (rgR (rgP L) (RG ts (qM hs as) S.length a' b')) (S++[.lst (L.map prM)]):=by
  unfold zNE
  simp? [zDN (zL S (.lst (L.map prM)))]
  exact e
 have hF: ∀_:Unit,xF (zXA [some (.tup (ts.map tbl)),some (qM hs as),none,none,none] S)=.ok (rgE (rgP L)) (S++[.lst (L.map prM)]):=λ_=>by
  unfold zXA
  rw [zD e1]
  cases hr:rgP L with
  |none=>
   rw [hr]at e2
   rw [zD e2]
   rfl
  |some p=>
   rw [hr]at e2
   rw [nW e2]
   rfl
 have hF:=hF ()
 cases hr:rgP L with
 |none=>
  rw [hr]at hF
  exact zEX (T:=[.lst (L.map prM)]) rfl hF (zWN _) (λl=>by simp)
 |some p=>
  rw [hr]at hF
  exact gQ (T:=[.lst (L.map prM)]) rfl hF (wX λd hd=>by
   rcases mC.mp hd with rfl|hd
   ·exact zCI _ _
   ·rw [mS.mp hd]
    exact zCI _ _)
end
def abc:List Nat:=[97,98,99,100,101,102,103,104,105,106,107,108,109,110,111,112,113,114,115,116,117,118,119,120,121,122]
theorem zXD(i:Int)(S:Sto): ∃k,ixF (.val (.str abc)) (.val (.int (i % 26))) S=.ok (.val (.str [k])) S:=by
 obtain⟨k,hk⟩:=zGD (xs:=abc) (i:=i % 26) (eN0 _ (by decide)) (by have:=eL i (show(0:Int)<26 by decide);show i % 26<26;exact this)
 exact⟨k,ix_str (show abc.length<=sizeLine by rw [sizeLine_eq];decide) hk⟩
theorem addS{x y:List Nat}(h:x.length+y.length<=1000)(S:Sto):wP (.val (.str x)) (.val (.str y)) S=.ok (.val (.str (x++y))) S:=add_str (fits (by omega))
abbrev NI(c:Int)(m:Option MV)(x:List Nat)(o:Option MV):Rho:=[some (.int c),some (.str abc),m,some (.str x),o]
theorem yGB(m:Option MV)(S:Sto): ∀(ds:List MV)(c:Int)(x:List Nat)(o:Option MV),x.length+ds.length<=900-> ∃c' x' o',wK (gNm 4) cE [] ds (NI c m x o) S=.ok (.next (NI c' m x' o')) S/\x'.length=x.length+ds.length
 |[],c,x,o,_=>⟨c,x,o,rfl,rfl⟩
 |d::ds,c,x,o,h=>by
  rw [lC]at h
  obtain⟨k,hk⟩:=zXD c S
  have e1:gC (NI c m x (some d)) S=.ok (.next (NI c m (x++[k]) (some d))) S:=by
   unfold gC
   simp? [mod_lit (show(0:Int)<26 by decide),hk,addS (x:=x) (y:=[k]) (by rw [lS];omega)]
  have e2:gD (NI c m (x++[k]) (some d)) S=.ok (.next (NI (c / 26) m (x++[k]) (some d))) S:=by
   unfold gD
   simp? [yC (b:=26) (by decide) (by decide)]
  obtain⟨c',x',o',e,hl⟩:=yGB m S ds (c / 26) (x++[k]) (some d) (by rw [lA,lS];omega)
  refine⟨c',x',o',?_,by rw [hl,lA,lS,lC];omega⟩
  rw [zT (ρ0:=NI c m x (some d)) rfl (by
   unfold cE
   rw [zD e1]
   exact e2) (yU _)]
  exact e
theorem zZU(c:Int)(S:Sto): ∃x c',zZ 1 wG [.val (.int c)] S=.ok (.val (.tup [.str x,.int c'])) S/\x.length<=8:=by
 have h0:=eN0 c (show(8:Int)≠0 by decide)
 have h1:=eL c (show(0:Int)<8 by decide)
 obtain⟨c',x',o',e,hl⟩:=yGB (some (.int (1+c % 8))) S ((List.range (1+c % 8).toNat).map λk=>.int (k:Nat)) (c / 8) [] none (by rw [lM,length_range,length_nil];omega)
 rw [lM,length_range,length_nil]at hl
 refine⟨x',c',?_,by omega⟩
 refine zCV rfl ?_ (zDM (wX λd hd=>by
  rcases mC.mp hd with rfl|hd
  ·exact zJB _ _
  ·rw [mS.mp hd];exact zCI _ _)) (λl=>by simp)
 show xF (zAY [some (.int c),none,none,none,none] S)=_
 have e1:cF [some (.int c),none,none,none,none] S=.ok (.next [some (.int c),some (.str abc),none,none,none]) S:=by
  unfold cF
  simp? [bok]
  rfl
 have e2:cG [some (.int c),some (.str abc),none,none,none] S=.ok (.next [some (.int c),some (.str abc),some (.int (1+c % 8)),none,none]) S:=by
  unfold cG
  simp? [mod_lit (show(0:Int)<8 by decide)]
 have e3:cH [some (.int c),some (.str abc),some (.int (1+c % 8)),none,none] S=.ok (.next [some (.int (c / 8)),some (.str abc),some (.int (1+c % 8)),none,none]) S:=by
  unfold cH
  simp? [yC (b:=8) (by decide) (by decide)]
 have e4:cI [some (.int (c / 8)),some (.str abc),some (.int (1+c % 8)),none,none] S=.ok (.next (NI (c / 8) (some (.int (1+c % 8))) [] none)) S:=by
  unfold cI
  simp? [bok]
 have e5:cJ (NI (c / 8) (some (.int (1+c % 8))) [] none) S=.ok (.next (NI c' (some (.int (1+c % 8))) x' o')) S:=by
  unfold cJ
  simp? [zQT (show -(2 ^ 62)<=(1+c % 8)/\(1+c % 8)<2 ^ 62 by omega)]
  exact e
 unfold zAY
 rw [zD e1,zD e2,zD e3,zD e4,zD e5]
 unfold zDA
 simp? [tup2]
 rfl
abbrev WD(c:Int)(l:Nat)(k w o:Option MV):Rho:=[some (.int c),some (.int 6),some (.loc l),k,w,o]
abbrev Ws(ws:List (List Nat)):Prop:= ∀x∈ws,x.length<=8
theorem zXE{c:Int}{k:Option MV}{ws:List (List Nat)}(S:Sto): ∀(ds:List (List Nat))(x:List Nat)(o:Option MV),x.length<=8->(∀d∈ds,d.length=1)-> ∃x' o',wK (gNm 5) yQ [] (ds.map MV.str) (WD c S.length k (some (.str x)) o) (S++[.lst (ws.map MV.str)])=.ok (.next (WD c S.length k (some (.str x')) o')) (S++[.lst (ws.map MV.str)])/\x'.length<=8
 |[],x,o,h,_=>⟨x,o,rfl,h⟩
 |d::ds,x,o,h,hd=>by
  have hd1:=hd d mF0
  have hin:=zGI false (zL S (.lst (ws.map MV.str))) (zBM x) zRV
  rw [iN xF0]at hin
  by_cases hm:MV.str x∈ws.map MV.str
  ·rw [dT0 hm]at hin
   have ht:(x.take 7).length<=7:=by rw [lT];omega
   obtain⟨x',o',e,hl⟩:=zXE (c:=c) (k:=k) (ws:=ws) S ds (x.take 7++d) (some (.str d)) (by rw [lA];omega) (λy hy=>hd y (mO _ hy))
   refine⟨x',o',?_,hl⟩
   rw [map_cons,zT (ρ0:=WD c S.length k (some (.str x)) (some (.str d))) (ρ':=WD c S.length k (some (.str (x.take 7++d))) (some (.str d))) (S':=S++[.lst (ws.map MV.str)]) rfl (by
    unfold yQ xG
    simp? [hin,cut_str (fits (show x.length<=1000000 by omega)),zBV x 7 (by decide),show(7:Int).toNat=7 from rfl,addS (x:=x.take 7) (y:=d) (by omega)]) (yU _)]
   exact e
  ·rw [dF0 hm]at hin
   obtain⟨x',o',e,hl⟩:=zXE (c:=c) (k:=k) (ws:=ws) S ds x (some (.str d)) h (λy hy=>hd y (mO _ hy))
   refine⟨x',o',?_,hl⟩
   rw [map_cons,zT (ρ0:=WD c S.length k (some (.str x)) (some (.str d))) (ρ':=WD c S.length k (some (.str x)) (some (.str d))) (S':=S++[.lst (ws.map MV.str)]) rfl (by
    unfold yQ xG
    simp? [hin,fT,iF]) (yU _)]
   exact e
def abj:List Nat:=[97,98,99,100,101,102,103,104,105,106]
theorem yGC(S:Sto): ∀(ds:List MV)(c:Int)(ws:List (List Nat))(k w o:Option MV),ws.length+ds.length<=100->Ws ws-> ∃c' ws' k' w' o',wK (gNm 3) xW [] ds (WD c S.length k w o) (S++[.lst (ws.map MV.str)])=.ok (.next (WD c' S.length k' w' o')) (S++[.lst (ws'.map MV.str)])/\ws'.length=ws.length+ds.length/\Ws ws'
 |[],c,ws,k,w,o,_,h=>⟨c,ws,k,w,o,rfl,rfl,h⟩
 |d::ds,c,ws,k,w,o,hl,h=>by
  rw [lC]at hl
  obtain⟨x,c1,e1,hx⟩:=zZU c (S++[.lst (ws.map MV.str)])
  have f1:xH (WD c S.length (some d) w o) (S++[.lst (ws.map MV.str)])=.ok (.next (WD c1 S.length (some d) (some (.str x)) o)) (S++[.lst (ws.map MV.str)]):=by
   unfold xH
   simp? [e1,zDZ]
   rfl
  obtain⟨x',o',e2,hx'⟩:=zXE (c:=c1) (k:=some d) (ws:=ws) S (abj.map λc=>[c]) x o hx (by decide)
  have f2:xI (WD c1 S.length (some d) (some (.str x)) o) (S++[.lst (ws.map MV.str)])=.ok (.next (WD c1 S.length (some d) (some (.str x')) o')) (S++[.lst (ws.map MV.str)]):=by
   unfold xI
   simp? [bok]
   exact e2
  have f3:xK (WD c1 S.length (some d) (some (.str x')) o') (S++[.lst (ws.map MV.str)])=.ok (.next (WD c1 S.length (some d) (some (.str x')) o')) (S++[.lst ((ws++[x']).map MV.str)]):=by
   unfold xK
   simp? [hX (zL S (.lst (ws.map MV.str))),zCC (zL S (.lst (ws.map MV.str))) (show(ws.map MV.str).length<1000000 by rw [lM];omega),xT]
   rw [map_append]
   rfl
  obtain⟨c',ws',k',w',o'',e,g1,g2⟩:=yGC S ds c1 (ws++[x']) (some d) (some (.str x')) o' (by rw [lA,lS];omega) (λy hy=>by
   rcases mem_append.mp hy with hy|hy
   ·exact h y hy
   ·rw [mS.mp hy];exact hx')
  refine⟨c',ws',k',w',o'',?_,by rw [g1,lA,lS,lC];omega,g2⟩
  rw [zT (ρ0:=WD c S.length (some d) w o) rfl (by
   unfold xW
   rw [zD f1,zD f2]
   exact f3) (yU _)]
  exact e
theorem zIN(ws:List (List Nat))(n:Nat):loL n (ws.map MV.str):=wX λd hd=>by
 obtain⟨x,_,rfl⟩:=mM.mp hd
 exact zJB _ _
theorem yBW(c:Int)(S:Sto): ∃ws:List (List Nat),ws.length=6/\Ws ws/\zZ 2 xA [.val (.int c),.val (.int 6)] S=.ok (.new (ws.map MV.str)) S:=by
 obtain⟨c',ws,k,w,o,e,hl,hw⟩:=yGC S ((List.range 6).map λk=>.int (k:Nat)) c [] none none none (by decide) (λx hx=>by simp at hx)
 refine⟨ws,hl,hw,?_⟩
 refine zEY (T:=[.lst (ws.map MV.str)]) rfl ?_ (le_refl _) (zL _ _) (zIN _ _)
 show xF (wQ [some (.int c),some (.int 6),none,none,none,none] S)=_
 have e1:xX [some (.int c),some (.int 6),none,none,none,none] S=.ok (.next (WD c S.length none none none)) (S++[.lst []]):=by
  unfold xX
  simp? [bok]
 have e2:xY (WD c S.length none none none) (S++[.lst []])=.ok (.next (WD c' S.length k w o)) (S++[.lst (ws.map MV.str)]):=by
  unfold xY
  simp? [rng6]
  exact e
 unfold wQ
 rw [zD e1,zD e2]
 unfold jR
 simp? [bok]
 rfl
abbrev WW(c:Int)(g s:Option MV)(l:Nat)(k w j z:Option MV):Rho:=[some (.int c),some (.int 6),some (.str abc),g,s,some (.loc l),k,w,j,z]
abbrev WV(c:Int)(a g s l:Option MV):Rho:=[some (.int c),some (.int 6),a,g,s,l,none,none,none,none]
theorem yKS(c g s:Int)(l k j:Nat)(hj:j<100)(x:List Nat)(hx:x.length<=100)(z:Option MV)(S:Sto): ∃a z',gV (WW c (some (.int g)) (some (.int s)) l (some (zG k)) (some (.str x)) (some (zG j)) z) S=.ok (.next (WW c (some (.int g)) (some (.int s)) l (some (zG k)) (some (.str (x++[a]))) (some (zG j)) z')) S:=by
 obtain⟨v,hv⟩: ∃v:Int,v=c / (49+5 * (j:Int))+(j:Int) * (c / 49 % 3):=⟨_,rfl⟩
 have e1:cK (WW c (some (.int g)) (some (.int s)) l (some (zG k)) (some (.str x)) (some (zG j)) z) S=.ok (.next (WW c (some (.int g)) (some (.int s)) l (some (zG k)) (some (.str x)) (some (zG j)) (some (.int v)))) S:=by
  unfold cK
  simp? [dH (a:=5) (show -(2 ^ 64)<(5:Int)/\(5:Int)<2 ^ 64 by decide),yC (b:=49+5 * (j:Int)) (by omega) (by omega),yC (b:=49) (by decide) (by decide),mod_lit (show(0:Int)<3 by decide),dH (a:=(j:Int)) (show -(2 ^ 64)<(j:Int)/\(j:Int)<2 ^ 64 by omega)]
  rw [hv]
 obtain⟨u,e2⟩: ∃u:Int,cL (WW c (some (.int g)) (some (.int s)) l (some (zG k)) (some (.str x)) (some (zG j)) (some (.int v))) S=.ok (.next (WW c (some (.int g)) (some (.int s)) l (some (zG k)) (some (.str x)) (some (zG j)) (some (.int u)))) S:=by
  unfold cL
  by_cases h:(j:Int)=s
  ·refine⟨v+3 * (k:Int),?_⟩
   simp? [h,decide_true,dH (a:=3) (show -(2 ^ 64)<(3:Int)/\(3:Int)<2 ^ 64 by decide)]
  ·refine⟨v,?_⟩
   simp? [h,decide_false,fT,iF]
 obtain⟨a,ha⟩:=zXD u S
 refine⟨a,some (.int u),?_⟩
 unfold gV
 rw [zD e1,zD e2]
 unfold zDB
 simp? [mod_lit (show(0:Int)<26 by decide),ha,addS (x:=x) (y:=[a]) (by rw [lS];omega)]
theorem yGD(c g s:Int)(l k:Nat)(S:Sto): ∀(js:List Nat),(∀j∈js,j<100)-> ∀(x:List Nat)(j z:Option MV),x.length+js.length<=100-> ∃x' j' z',wK (gNm 8) gV [] (js.map zG) (WW c (some (.int g)) (some (.int s)) l (some (zG k)) (some (.str x)) j z) S=.ok (.next (WW c (some (.int g)) (some (.int s)) l (some (zG k)) (some (.str x')) j' z')) S/\x'.length=x.length+js.length
 |[],_,x,j,z,_=>⟨x,j,z,rfl,rfl⟩
 |i::js,hj,x,j,z,h=>by
  rw [lC]at h
  obtain⟨a,z1,e1⟩:=yKS c g s l k i (hj i mF0) x (by omega) z S
  obtain⟨x',j',z',e,hl⟩:=yGD c g s l k S js (λy hy=>hj y (mO _ hy)) (x++[a]) (some (zG i)) z1 (by rw [lA,lS];omega)
  refine⟨x',j',z',?_,by rw [hl,lA,lS,lC];omega⟩
  rw [map_cons,zT (ρ0:=WW c (some (.int g)) (some (.int s)) l (some (zG k)) (some (.str x)) (some (zG i)) z) rfl e1 (yU _)]
  exact e
theorem yGE(c g s:Int)(hg:1<=g/\g<=7)(S:Sto): ∀(ks:List Nat)(ws:List (List Nat))(k w j z:Option MV),ws.length+ks.length<=100->(∀x∈ws,x.length<=7)-> ∃(ws':List (List Nat))(k' w' j' z':Option MV),wK (gNm 6) zAZ [] (ks.map zG) (WW c (some (.int g)) (some (.int s)) S.length k w j z) (S++[.lst (ws.map MV.str)])=.ok (.next (WW c (some (.int g)) (some (.int s)) S.length k' w' j' z')) (S++[.lst (ws'.map MV.str)])/\ws'.length=ws.length+ks.length/\ ∀x∈ws',x.length<=7
 |[],ws,k,w,j,z,_,h=>⟨ws,k,w,j,z,rfl,rfl,h⟩
 |i::ks,ws,k,w,j,z,hl,h=>by
  rw [lC]at hl
  have f1:cM (WW c (some (.int g)) (some (.int s)) S.length (some (zG i)) w j z) (S++[.lst (ws.map MV.str)])=.ok (.next (WW c (some (.int g)) (some (.int s)) S.length (some (zG i)) (some (.str [])) j z)) (S++[.lst (ws.map MV.str)]):=by
   unfold cM
   simp? [bok]
  obtain⟨x,j1,z1,e2,hx⟩:=yGD c g s S.length i (S++[.lst (ws.map MV.str)]) (List.range g.toNat) (λy hy=>by have:=mem_range.mp hy;omega) [] j z (by rw [length_nil,length_range];omega)
  rw [length_nil,length_range]at hx
  have f2:cN (WW c (some (.int g)) (some (.int s)) S.length (some (zG i)) (some (.str [])) j z) (S++[.lst (ws.map MV.str)])=.ok (.next (WW c (some (.int g)) (some (.int s)) S.length (some (zG i)) (some (.str x)) j1 z1)) (S++[.lst (ws.map MV.str)]):=by
   unfold cN
   simp? [zQT (show -(2 ^ 62)<=g/\g<2 ^ 62 by omega)]
   exact e2
  have f3:cO (WW c (some (.int g)) (some (.int s)) S.length (some (zG i)) (some (.str x)) j1 z1) (S++[.lst (ws.map MV.str)])=.ok (.next (WW c (some (.int g)) (some (.int s)) S.length (some (zG i)) (some (.str x)) j1 z1)) (S++[.lst ((ws++[x]).map MV.str)]):=by
   unfold cO
   simp? [hX (zL S (.lst (ws.map MV.str))),zCC (zL S (.lst (ws.map MV.str))) (show(ws.map MV.str).length<1000000 by rw [lM];omega),xT]
   rw [map_append]
   rfl
  obtain⟨ws',k',w',j',z',e,g1,g2⟩:=yGE c g s hg S ks (ws++[x]) (some (zG i)) (some (.str x)) j1 z1 (by rw [lA,lS];omega) (λy hy=>by
   rcases mem_append.mp hy with hy|hy
   ·exact h y hy
   ·rw [mS.mp hy];omega)
  refine⟨ws',k',w',j',z',?_,by rw [g1,lA,lS,lC];omega,g2⟩
  rw [map_cons,zT (ρ0:=WW c (some (.int g)) (some (.int s)) S.length (some (zG i)) w j z) rfl (by
   unfold zAZ
   rw [zD f1,zD f2]
   exact f3) (yU _)]
  exact e
theorem yGF(c:Int)(S:Sto): ∃ws:List (List Nat),ws.length=6/\Ws ws/\zZ 2 zAB [.val (.int c),.val (.int 6)] S=.ok (.new (ws.map MV.str)) S:=by
 by_cases h2:c % 2=0
 ·obtain⟨ws,hl,hw,e⟩:=yBW (c / 2) S
  refine⟨ws,hl,hw,?_⟩
  refine gQ (T:=[]) rfl ?_ (zIN _ _)
  rw [aN]
  show xF (gW (WV c none none none none) S)=_
  have e1:kM (WV c none none none none) S=.ok (.ret (.new (ws.map MV.str))) S:=by
   unfold kM
   simp? [mod_lit (show(0:Int)<2 by decide),h2,decide_true,yC (b:=2) (by decide) (by decide),e]
  unfold gW
  rw [nW e1]
  rfl
 ·obtain⟨d,hd⟩: ∃d:Int,d=c * 69621 % 2147483629 * 48271 % 2147483647:=⟨_,rfl⟩
  have h0:=eN0 d (show(7:Int)≠0 by decide)
  have h1:=eL d (show(0:Int)<7 by decide)
  obtain⟨g,hg⟩: ∃g:Int,g=1+d % 7:=⟨_,rfl⟩
  obtain⟨s,hs⟩: ∃s:Int,s=d / 7 % g:=⟨_,rfl⟩
  obtain⟨ws,k,w,j,z,e7,hl,hw⟩:=yGE d g s (by omega) S (List.range 6) [] none none none none (by decide) (λx hx=>by simp at hx)
  have hl:ws.length=6:=hl
  have f1:kM (WV c none none none none) S=.ok (.next (WV c none none none none)) S:=by
   unfold kM
   simp? [mod_lit (show(0:Int)<2 by decide),h2,decide_false,fT,iF]
  have f2:zBA (WV c none none none none) S=.ok (.next (WV c (some (.str abc)) none none none)) S:=by
   unfold zBA
   simp? [bok]
   rfl
  have f3:zBB (WV c (some (.str abc)) none none none) S=.ok (.next (WV d (some (.str abc)) none none none)) S:=by
   unfold zBB
   simp? [zQR (show -(2 ^ 64)<(69621:Int)/\(69621:Int)<2 ^ 64 by decide),mod_lit (show(0:Int)<2147483629 by decide),zQR (show -(2 ^ 64)<(48271:Int)/\(48271:Int)<2 ^ 64 by decide),mod_lit (show(0:Int)<2147483647 by decide)]
   rw [hd]
  have f4:zBC (WV d (some (.str abc)) none none none) S=.ok (.next (WV d (some (.str abc)) (some (.int g)) none none)) S:=by
   unfold zBC
   simp? [mod_lit (show(0:Int)<7 by decide)]
   rw [hg]
  have f5:zBD (WV d (some (.str abc)) (some (.int g)) none none) S=.ok (.next (WV d (some (.str abc)) (some (.int g)) (some (.int s)) none)) S:=by
   unfold zBD
   simp? [yC (b:=7) (by decide) (by decide),mod_lit (show(0:Int)<g by omega)]
   rw [hs]
  have f6:zBE (WV d (some (.str abc)) (some (.int g)) (some (.int s)) none) S=.ok (.next (WW d (some (.int g)) (some (.int s)) S.length none none none none)) (S++[.lst []]):=by
   unfold zBE
   simp? [bok]
  have f7:zBF (WW d (some (.int g)) (some (.int s)) S.length none none none none) (S++[.lst []])=.ok (.next (WW d (some (.int g)) (some (.int s)) S.length k w j z)) (S++[.lst (ws.map MV.str)]):=by
   unfold zBF
   simp? [rng6]
   exact e7
  obtain⟨ws',e8,hl',hw'⟩: ∃ws':List (List Nat),zBG (WW d (some (.int g)) (some (.int s)) S.length k w j z) (S++[.lst (ws.map MV.str)])=.ok (.next (WW d (some (.int g)) (some (.int s)) S.length k w j z)) (S++[.lst (ws'.map MV.str)])/\ws'.length=6/\Ws ws':=by
   unfold zBG
   by_cases h4:d / 49 % 4=1
   ·obtain⟨a,ha⟩:=zXD (d / 196) (S++[.lst (ws.map MV.str)])
    have hx:ws[0]? =some (ws[0]'(by omega)):=gE0 _
    have hx7:=hw _ (getElem_mem (show 0<ws.length by omega))
    have hix:ixF (.val (.loc S.length)) (.val (.int 0)) (S++[.lst (ws.map MV.str)])=.ok (.val (.str ws[0])) (S++[.lst (ws.map MV.str)]):=zAO (zL _ _) (zCD (k:=0) (by rw [getElem?_map,hx];rfl))
    refine⟨ws.set 1 (ws[0]++[a]),?_,by rw [length_set];exact hl,λy hy=>?_⟩
    ·simp? [yC (b:=49) (by decide) (by decide),mod_lit (show(0:Int)<4 by decide),h4,decide_true,hix,yC (b:=196) (by decide) (by decide),mod_lit (show(0:Int)<26 by decide),ha,addS (x:=ws[0]) (y:=[a]) (by rw [lS];omega),zDZ,yFB (k:=1) (j:=1) (zL S (.lst (ws.map MV.str))) (by unfold ixN;rw [lM,hl];rfl),xT]
     rw [List.map_set]
    ·rcases List.mem_or_eq_of_mem_set hy with hy|rfl
     ·have:=hw y hy;omega
     ·rw [lA,lS];omega
   ·refine⟨ws,?_,hl,λy hy=>by have:=hw y hy;omega⟩
    simp? [yC (b:=49) (by decide) (by decide),mod_lit (show(0:Int)<4 by decide),h4,decide_false,fT,iF]
  refine⟨ws',hl',hw',?_⟩
  refine zEY (T:=[.lst (ws'.map MV.str)]) rfl ?_ (le_refl _) (zL _ _) (zIN _ _)
  show xF (gW (WV c none none none none) S)=_
  unfold gW
  rw [zD f1,zD f2,zD f3,zD f4,zD f5,zD f6,zD f7,zD e8]
  unfold zFP
  simp? [bok]
  rfl
theorem zGK{S:Sto}{l:Nat}{ds:List MV}(hS:S[l]? =some (.lst ds))(a b:Option Int):zCH (.val (.loc l)) a b S=.ok (.new (gI ds a b)) S:=by
 show(match jP S (.val (.loc l))with |some ds=>R.ok (Er.new (gI ds a b)) S|none=>.no)=_
 rw [zCW hS]
theorem zZV(ds:List MV)(a b:Option Int)(S:Sto):zCH (.new ds) a b S=.ok (.new (gI ds a b)) S:=rfl
theorem zZW(ns:List Int)(n:Nat):loL n (ns.map MV.int):=wX λd hd=>by
 obtain⟨x,_,rfl⟩:=mM.mp hd
 exact zCI _ _
abbrev DW(c:Int)(m l:Nat)(r k n:Option MV):Rho:=[some (.int c),some (zG m),some (.loc l),r,k,n]
theorem zZX(c:Int)(m:Nat)(n:Option MV)(S:Sto): ∀(ks:List MV)(ns:List Int)(r:Int)(k:Option MV),ns.length+ks.length<=100-> ∃(ns':List Int)(r':Int)(k':Option MV),wK (gNm 4) gX [] ks (DW c m S.length (some (.int r)) k n) (S++[.lst (ns.map MV.int)])=.ok (.next (DW c m S.length (some (.int r')) k' n)) (S++[.lst (ns'.map MV.int)])/\ns'.length=ns.length+ks.length
 |[],ns,r,k,_=>⟨ns,r,k,rfl,rfl⟩
 |d::ks,ns,r,k,h=>by
  rw [lC]at h
  have f1:cP (DW c m S.length (some (.int r)) (some d) n) (S++[.lst (ns.map MV.int)])=.ok (.next (DW c m S.length (some (.int r)) (some d) n)) (S++[.lst ((ns++[r % 1000000]).map MV.int)]):=by
   unfold cP
   simp? [hX (zL S (.lst (ns.map MV.int))),mod_lit (show(0:Int)<1000000 by decide),zCC (zL S (.lst (ns.map MV.int))) (show(ns.map MV.int).length<1000000 by rw [lM];omega),xT]
   rw [map_append]
   rfl
  have f2:cQ (DW c m S.length (some (.int r)) (some d) n) (S++[.lst ((ns++[r % 1000000]).map MV.int)])=.ok (.next (DW c m S.length (some (.int (r / 1000000))) (some d) n)) (S++[.lst ((ns++[r % 1000000]).map MV.int)]):=by
   unfold cQ
   simp? [yC (b:=1000000) (by decide) (by decide)]
  obtain⟨ns',r',k',e,hl⟩:=zZX c m n S ks (ns++[r % 1000000]) (r / 1000000) (some d) (by rw [lA,lS];omega)
  refine⟨ns',r',k',?_,by rw [hl,lA,lS,lC];omega⟩
  rw [zT (ρ0:=DW c m S.length (some (.int r)) (some d) n) rfl (by
   unfold gX
   rw [zD f1]
   exact f2) (yU _)]
  exact e
theorem zZY(c:Int)(m:Nat)(r:Option MV)(S:Sto): ∀(ks:List Nat)(ns:List Int)(n:Int)(k:Option MV),ns.length+ks.length<=100->0<=n/\n<4294967296-> ∃(ns':List Int)(n':Int)(k':Option MV),wK (gNm 4) zBH [] (ks.map zG) (DW c m S.length r k (some (.int n))) (S++[.lst (ns.map MV.int)])=.ok (.next (DW c m S.length r k' (some (.int n')))) (S++[.lst (ns'.map MV.int)])/\ns'.length=ns.length+ks.length
 |[],ns,n,k,_,_=>⟨ns,n,k,rfl,rfl⟩
 |d::ks,ns,n,k,h,hn=>by
  rw [lC]at h
  obtain⟨v,hv⟩: ∃v:Int,v=(n * n+48271 * n+(d:Int)) % 2147483647:=⟨_,rfl⟩
  have hv0:0<=v/\v<4294967296:=by
   have h1:=eN0 (n * n+48271 * n+(d:Int)) (show(2147483647:Int)≠0 by decide)
   have h2:=eL (n * n+48271 * n+(d:Int)) (show(0:Int)<2147483647 by decide)
   omega
  have f1:cR (DW c m S.length r (some (zG d)) (some (.int n))) (S++[.lst (ns.map MV.int)])=.ok (.next (DW c m S.length r (some (zG d)) (some (.int v)))) (S++[.lst (ns.map MV.int)]):=by
   unfold cR
   simp? [dH (a:=n) (show -(2 ^ 64)<n/\n<2 ^ 64 by omega),dH (a:=48271) (show -(2 ^ 64)<(48271:Int)/\(48271:Int)<2 ^ 64 by decide),mod_lit (show(0:Int)<2147483647 by decide)]
   rw [hv]
  obtain⟨u,hu⟩: ∃u:Int,u=v * 69621 % 2147483587 / 16:=⟨_,rfl⟩
  have f2:cS (DW c m S.length r (some (zG d)) (some (.int v))) (S++[.lst (ns.map MV.int)])=.ok (.next (DW c m S.length r (some (zG d)) (some (.int v)))) (S++[.lst ((ns++[u]).map MV.int)]):=by
   unfold cS
   simp? [hX (zL S (.lst (ns.map MV.int))),zQR (show -(2 ^ 64)<(69621:Int)/\(69621:Int)<2 ^ 64 by decide),mod_lit (show(0:Int)<2147483587 by decide),yC (b:=16) (by decide) (by decide),zCC (zL S (.lst (ns.map MV.int))) (show(ns.map MV.int).length<1000000 by rw [lM];omega),xT]
   rw [map_append,hu]
   rfl
  obtain⟨ns',n',k',e,hl⟩:=zZY c m r S ks (ns++[u]) v (some (zG d)) (by rw [lA,lS];omega) hv0
  refine⟨ns',n',k',?_,by rw [hl,lA,lS,lC];omega⟩
  rw [map_cons,zT (ρ0:=DW c m S.length r (some (zG d)) (some (.int n))) rfl (by
   unfold zBH
   rw [zD f1]
   exact f2) (yU _)]
  exact e
theorem zVB(c:Int){m:Nat}(hm:m<=10)(S:Sto): ∃ns:List Int,ns.length=m/\zZ 2 yR [.val (.int c),.val (zG m)] S=.ok (.new (ns.map MV.int)) S:=by
 have f1:zBI [some (.int c),some (zG m),none,none,none,none] S=.ok (.next (DW c m S.length none none none)) (S++[.lst []]):=by
  unfold zBI
  simp? [bok]
 by_cases h2:c % 2=0
 ·obtain⟨ns,r',k',e,hl⟩:=zZX c m none S ((List.range m).map λk=>.int (k:Nat)) [] (c / 2) none (by rw [lM,length_range,length_nil];omega)
  rw [lM,length_range,length_nil,zero_add]at hl
  refine⟨ns,hl,?_⟩
  refine zEY (T:=[.lst (ns.map MV.int)]) rfl ?_ (le_refl _) (zL _ _) (zZW _ _)
  show xF (gY [some (.int c),some (zG m),none,none,none,none] S)=_
  have e1:(CJ (dJ jA (vJ 0) (kJ (.int 2))) 3) (DW c m S.length none none none) (S++[.lst []])=.ok (.next (DW c m S.length (some (.int (c / 2))) none none)) (S++[.lst []]):=by
   simp? [yC (b:=2) (by decide) (by decide)]
  have e2:(FJ (bJ (yJ (vJ 1) wJ) gE) (gNm 4) (gX)) (DW c m S.length (some (.int (c / 2))) none none) (S++[.lst []])=.ok (.next (DW c m S.length (some (.int r')) k' none)) (S++[.lst (ns.map MV.int)]):=by
   simp? [zUV (n:=m) (by omega)]
   exact e
  have f2:kN (DW c m S.length none none none) (S++[.lst []])=.ok (.ret (.val (.loc S.length))) (S++[.lst (ns.map MV.int)]):=by
   unfold kN
   simp? [mod_lit (show(0:Int)<2 by decide),h2,decide_true]
   rw [zD e1,zD e2]
   rfl
  unfold gY
  rw [zD f1,nW f2]
  rfl
 ·have h3:=eN0 c (show(2147483629:Int)≠0 by decide)
  have h4:=eL c (show(0:Int)<2147483629 by decide)
  obtain⟨ns,n',k',e,hl⟩:=zZY c m none S (List.range m) [] (c % 2147483629+1) none (by rw [length_range,length_nil];omega) (by omega)
  rw [length_range,length_nil,zero_add]at hl
  refine⟨ns,hl,?_⟩
  refine zEY (T:=[.lst (ns.map MV.int)]) rfl ?_ (le_refl _) (zL _ _) (zZW _ _)
  show xF (gY [some (.int c),some (zG m),none,none,none,none] S)=_
  have f2:kN (DW c m S.length none none none) (S++[.lst []])=.ok (.next (DW c m S.length none none none)) (S++[.lst []]):=by
   unfold kN
   simp? [mod_lit (show(0:Int)<2 by decide),h2,decide_false,fT,iF]
  have f3:zBJ (DW c m S.length none none none) (S++[.lst []])=.ok (.next (DW c m S.length none none (some (.int (c % 2147483629+1))))) (S++[.lst []]):=by
   unfold zBJ
   simp? [mod_lit (show(0:Int)<2147483629 by decide)]
  have f4:zBK (DW c m S.length none none (some (.int (c % 2147483629+1)))) (S++[.lst []])=.ok (.next (DW c m S.length none k' (some (.int n')))) (S++[.lst (ns.map MV.int)]):=by
   unfold zBK
   simp? [zUV (n:=m) (by omega)]
   exact e
  unfold gY
  rw [zD f1,zD f2,zD f3,zD f4]
  rfl
abbrev TB(c:Int)(l:Nat)(n w:Option MV):Rho:=[some (.int c),some (.loc l),some (.loc (l+1)),n,w]
theorem yGG(c:Int)(S:Sto)(o:MO): ∀(ns:List Int)(ts:List (Int×Int))(n w:Option MV),ts.length+ns.length<=100->(∀p∈ts,1<=p.1/\p.1<=4/\0<=p.2/\p.2<=p.1)-> ∃(ts':List (Int×Int))(n' w':Option MV),wK (gNm 3) nA [] (ns.map MV.int) (TB c S.length n w) (S++[o]++[.lst (ts.map tbl)])=.ok (.next (TB c S.length n' w')) (S++[o]++[.lst (ts'.map tbl)])/\ts'.length=ts.length+ns.length/\ ∀p∈ts',1<=p.1/\p.1<=4/\0<=p.2/\p.2<=p.1
 |[],ts,n,w,_,h=>⟨ts,n,w,rfl,rfl,h⟩
 |d::ns,ts,n,w,hl,h=>by
  rw [lC]at hl
  obtain⟨v,hv⟩: ∃v:Int,v=1+d % 3+(if decide (d / 3 % 5=0)=true then 1 else 0):=⟨_,rfl⟩
  have hv1:1<=v/\v<=4:=by
   have h1:=eN0 d (show(3:Int)≠0 by decide)
   have h2:=eL d (show(0:Int)<3 by decide)
   rw [hv]
   split<;>omega
  have f1:gZ (TB c S.length (some (.int d)) w) (S++[o]++[.lst (ts.map tbl)])=.ok (.next (TB c S.length (some (.int d)) (some (.int v)))) (S++[o]++[.lst (ts.map tbl)]):=by
   unfold gZ
   simp? [mod_lit (show(0:Int)<3 by decide),yC (b:=3) (by decide) (by decide),mod_lit (show(0:Int)<5 by decide),show∀b S,intF [.val (.bl b)] S=.ok (.val (.int (if b then 1 else 0))) S from λ_ _=>rfl]
   rw [hv]
  obtain⟨z,hz⟩:=zGD (xs:=([0,1,1,1,2,4]:List Int)) (i:=d / 15 % 6) (eN0 _ (by decide)) (by have:=eL (d / 15) (show(0:Int)<6 by decide);show d / 15 % 6<6;exact this)
  have hz0:0<=z:=zGE (P:=λz:Int=>0<=z) (by decide) hz
  have hix: ∀S:Sto,ixF (.new [.int 0,.int 1,.int 1,.int 1,.int 2,.int 4]) (.val (.int (d / 15 % 6))) S=.ok (.val (.int z)) S:=λS=>zWO (by
   have:=zGJ MV.int [0,1,1,1,2,4] (d / 15 % 6)
   rw [hz]at this
   exact this)
  have hS1:S.length+1=(S++[o]).length:=by rw [lA,lS]
  obtain⟨y,hy⟩: ∃y:Int,y=if z<v then z else v:=⟨_,rfl⟩
  have hat:(S++[o]++[.lst (ts.map tbl)])[S.length+1]? =some (.lst (ts.map tbl)):=by rw [hS1];exact zL _ _
  have f2:bA (TB c S.length (some (.int d)) (some (.int v))) (S++[o]++[.lst (ts.map tbl)])=.ok (.next (TB c S.length (some (.int d)) (some (.int v)))) (S++[o]++[.lst ((ts++[(v,y)]).map tbl)]):=by
   unfold bA
   simp? [hX hat,yC (b:=15) (by decide) (by decide),mod_lit (show(0:Int)<6 by decide),hix,show∀i j S,zWT [.val (.int i),.val (.int j)] S=.ok (.val (.int (if j<i then j else i))) S from λ_ _ _=>rfl, <-hy,tup2,zCC hat (show(ts.map tbl).length<1000000 by rw [lM];omega)]
   rw [hS1,xT,map_append]
   rfl
  obtain⟨ts',n',w',e,g1,g2⟩:=yGG c S o ns (ts++[(v,y)]) (some (.int d)) (some (.int v)) (by rw [lA,lS];omega) (λp hp=>by
   rcases mem_append.mp hp with hp|hp
   ·exact h p hp
   ·rw [mS.mp hp]
    refine⟨hv1.1,hv1.2,?_⟩
    show 0<=y/\y<=v
    rw [hy]
    split<;>omega)
  refine⟨ts',n',w',?_,by rw [g1,lA,lS,lC];omega,g2⟩
  rw [map_cons,zT (ρ0:=TB c S.length (some (.int d)) w) rfl (by
   unfold nA
   rw [zD f1]
   exact f2) (yU _)]
  exact e
theorem yPY(ts:List (Int×Int))(n:Nat):lo n (.tup (ts.map tbl)):=zDM (wX λd hd=>by
 obtain⟨p,_,rfl⟩:=mM.mp hd
 exact zDM (wX λd hd=>by
  rcases mC.mp hd with rfl|hd
  ·exact zCI _ _
  ·rw [mS.mp hd];exact zCI _ _))
theorem yBX(c:Int)(S:Sto): ∃ts:List (Int×Int),(1<=ts.length/\ts.length<=4)/\(∀p∈ts,1<=p.1/\p.1<=4/\0<=p.2/\p.2<=p.1)/\zZ 1 dA [.val (.int c)] S=.ok (.val (.tup (ts.map tbl))) S:=by
 obtain⟨ns,hn,e1⟩:=zVB c (show 5<=10 by decide) S
 obtain⟨v,hv⟩: ∃v,ns[4]? =some v:=⟨_,gE0 (show 4<ns.length by omega)⟩
 have h1:=eN0 v (show(4:Int)≠0 by decide)
 have h2:=eL v (show(0:Int)<4 by decide)
 obtain⟨ts,n',w',e,hl,hp⟩:=yGG c S (.lst (ns.map MV.int)) (ns.take (1+v % 4).toNat) [] none none (by rw [lT,length_nil];omega) (λp hp=>by simp at hp)
 rw [lT,length_nil]at hl
 refine⟨ts,by omega,hp,?_⟩
 have hS1:S.length+1=(S++[MO.lst (ns.map MV.int)]).length:=by rw [lA,lS]
 refine zEX (T:=[.lst (ns.map MV.int)]++[.lst (ts.map tbl)]) rfl ?_ (yPY _ _) (λl=>by simp)
 show xF (zCO [some (.int c),none,none,none,none] S)=_
 have f1:nB [some (.int c),none,none,none,none] S=.ok (.next [some (.int c),some (.loc S.length),none,none,none]) (S++[.lst (ns.map MV.int)]):=by
  unfold nB
  simp? [show∀S,zZ 2 yR [.val (.int c),.val (.int 5)] S=zZ 2 yR [.val (.int c),.val (zG 5)] S from λ_=>rfl,e1]
 have f2:nE [some (.int c),some (.loc S.length),none,none,none] (S++[.lst (ns.map MV.int)])=.ok (.next (TB c S.length none none)) (S++[.lst (ns.map MV.int)]++[.lst []]):=by
  unfold nE
  simp? [bok]
  rw [<-hS1]
 have hat:(S++[.lst (ns.map MV.int)]++[.lst []])[S.length]? =some (.lst (ns.map MV.int)):=by
  rw [getElem?_append_left (by rw [lA,lS];omega)]
  exact zL _ _
 have hix:ixF (.val (.loc S.length)) (.val (.int 4)) (S++[.lst (ns.map MV.int)]++[.lst []])=.ok (.val (.int v)) (S++[.lst (ns.map MV.int)]++[.lst []]):=zAO hat (zCD (k:=4) (by rw [getElem?_map,hv];rfl))
 have f3:nF (TB c S.length none none) (S++[.lst (ns.map MV.int)]++[.lst []])=.ok (.next (TB c S.length n' w')) (S++[.lst (ns.map MV.int)]++[.lst (ts.map tbl)]):=by
  unfold nF
  simp? [hix,mod_lit (show(0:Int)<4 by decide),zGK hat,zBV _ (1+v % 4) (by omega),zHJ]
  rw [<-map_take]
  exact e
 have hat2:(S++[.lst (ns.map MV.int)]++[.lst (ts.map tbl)])[S.length+1]? =some (.lst (ts.map tbl)):=by rw [hS1];exact zL _ _
 unfold zCO
 rw [zD f1,zD f2,zD f3]
 unfold zEP
 simp? [zPV hat2]
 rw [aA]
 rfl
abbrev VS(v:MV):Prop:=(∃i,v=.int i)\/ ∃x,v=.str x
theorem zZZ{v:MV}(h:VS v):pd v=true/\dpt v<40:=by
 rcases h with⟨i,rfl⟩|⟨x,rfl⟩
 ·exact⟨zRR i,by rw [zLJ];decide⟩
 ·exact⟨zBM x,by rw [zEA];decide⟩
theorem yLW{vs:List MV}(h: ∀v∈vs,VS v)(n:Nat):loL n vs:=wX λd hd=>zPW (zZZ (h d hd)).1
abbrev VV(c:Int)(l:Nat)(r m f k v n p t:Option MV):Rho:=[some (.int c),some (.loc l),r,m,f,k,v,n,p,t]
abbrev VW(c:Int)(lw:Nat)(r m:Option MV)(lf:Nat)(k v:Option MV):Rho:=[some (.int c),some (.loc lw),r,m,some (.loc lf),k,v,none,none,none]
theorem yKT(c:Int)(lw:Nat)(m:Option MV)(S:Sto){vs:List MV}(hl:vs.length<=100)(h: ∀v∈vs,VS v)(r:Int)(k v:Option MV): ∃(vs':List MV)(r':Int)(v':Option MV),xR (VW c lw (some (.int r)) m S.length k v) (S++[.lst vs])=.ok (.next (VW c lw (some (.int r')) m S.length k v')) (S++[.lst vs'])/\vs'≠[]/\vs'.length<=vs.length+1/\ ∀v∈vs',VS v:=by
 obtain⟨x,r1,e1,_⟩:=zZU (r / 2) (S++[.lst vs])
 have f1:bB (VW c lw (some (.int r)) m S.length k v) (S++[.lst vs])=.ok (.next (VW c lw (some (.int r1)) m S.length k (some (.str x)))) (S++[.lst vs]):=by
  unfold bB
  simp? [yC (b:=2) (by decide) (by decide),e1,zDZ]
  rfl
 obtain⟨r2,u,f2,hu⟩: ∃(r2:Int)(u:MV),kE (VW c lw (some (.int r1)) m S.length k (some (.str x))) (S++[.lst vs])=.ok (.next (VW c lw (some (.int r2)) m S.length k (some u))) (S++[.lst vs])/\VS u:=by
  by_cases h2:r1 % 2=1
  ·have hp: ∀S:Sto,zKR (.val (.int 10)) (.val (.int 30)) S=.ok (.val (.int (10 ^ 30))) S:=λS=>zYD (by unfold yAZ;decide+kernel) S
   have hd:zWK 0 (2 * 10 ^ 30 - 1):=by unfold zWK;decide+kernel
   refine⟨r1 / (2 * 10 ^ 30 - 1),.int (r1 / 2 % (2 * 10 ^ 30 - 1) - 10 ^ 30+1),?_,.inl ⟨_,rfl⟩⟩
   have g1:(CJ (dJ wP (dJ zKQ (dJ wL (dJ jA (vJ 2) (kJ (.int 2))) (dJ zKQ (dJ zEW (kJ (.int 2)) (dJ zKR (kJ (.int 10)) (kJ (.int 30)))) (kJ (.int 1)))) (dJ zKR (kJ (.int 10)) (kJ (.int 30)))) (kJ (.int 1))) 6) (VW c lw (some (.int r1)) m S.length k (some (.str x))) (S++[.lst vs])=.ok (.next (VW c lw (some (.int r1)) m S.length k (some (.int (r1 / 2 % (2 * 10 ^ 30 - 1) - 10 ^ 30+1))))) (S++[.lst vs]):=by
    simp? [yC (b:=2) (by decide) (by decide),hp,dH (a:=2) (show -(2 ^ 64)<(2:Int)/\(2:Int)<2 ^ 64 by decide),mod_lit (b:=2 * 10 ^ 30 - 1) (by decide)]
   have g2:(CJ (dJ jA (vJ 2) (dJ zKQ (dJ zEW (kJ (.int 2)) (dJ zKR (kJ (.int 10)) (kJ (.int 30)))) (kJ (.int 1)))) 2) (VW c lw (some (.int r1)) m S.length k (some (.int (r1 / 2 % (2 * 10 ^ 30 - 1) - 10 ^ 30+1)))) (S++[.lst vs])=.ok (.next (VW c lw (some (.int (r1 / (2 * 10 ^ 30 - 1)))) m S.length k (some (.int (r1 / 2 % (2 * 10 ^ 30 - 1) - 10 ^ 30+1))))) (S++[.lst vs]):=by
    simp? [hp,dH (a:=2) (show -(2 ^ 64)<(2:Int)/\(2:Int)<2 ^ 64 by decide),yJV hd]
   unfold kE
   simp? [mod_lit (show(0:Int)<2 by decide),h2,decide_true]
   rw [zD g1]
   exact g2
  ·refine⟨r1,.str x,?_,.inr ⟨x,rfl⟩⟩
   unfold kE
   simp? [mod_lit (show(0:Int)<2 by decide),h2,decide_false,fT,iF]
 have hin:=zGI true (zL S (.lst vs)) (zZZ hu).1 λy hy=>zZZ (h y hy)
 rw [iP rfl]at hin
 by_cases hm:u∈vs
 ·rw [dT0 hm]at hin
  refine⟨vs,r2,some u,?_,λz=>by rw [z]at hm;simp at hm,by omega,h⟩
  unfold xR
  rw [zD f1,zD f2]
  unfold bC
  simp? [hin,Bool.not_true,fT,iF]
 ·rw [dF0 hm]at hin
  refine⟨vs++[u],r2,some u,?_,by simp,by rw [lA,lS];exact le_refl _,λy hy=>?_⟩
  ·unfold xR
   rw [zD f1,zD f2]
   unfold bC
   simp? [hin,Bool.not_false,hX (zL S (.lst vs)),zCC (zL S (.lst vs)) (show vs.length<1000000 by omega),xT]
  ·rcases mem_append.mp hy with hy|hy
   ·exact h y hy
   ·rw [mS.mp hy];exact hu
theorem yGH(c:Int)(lw:Nat)(m:Option MV)(S:Sto): ∀(ds:List MV)(vs:List MV)(r:Int)(k v:Option MV),vs.length+ds.length<=100->(vs≠[]\/ds≠[])->(∀v∈vs,VS v)-> ∃(vs':List MV)(r':Int)(k' v':Option MV),wK (gNm 5) xR [] ds (VW c lw (some (.int r)) m S.length k v) (S++[.lst vs])=.ok (.next (VW c lw (some (.int r')) m S.length k' v')) (S++[.lst vs'])/\vs'≠[]/\vs'.length<=vs.length+ds.length/\ ∀v∈vs',VS v
 |[],vs,r,k,v,_,hne,h=>⟨vs,r,k,v,rfl,hne.resolve_right λz=>z rfl,le_refl _,h⟩
 |d::ds,vs,r,k,v,hl,_,h=>by
  rw [lC]at hl
  obtain⟨vs1,r1,v1,e1,g1,g2,g3⟩:=yKT c lw m S (by omega) h r (some d) v
  obtain⟨vs',r',k',v',e,h1,h2,h3⟩:=yGH c lw m S ds vs1 r1 (some d) v1 (by omega) (.inl g1) g3
  refine⟨vs',r',k',v',?_,h1,by rw [lC];omega,h3⟩
  rw [zT (ρ0:=VW c lw (some (.int r)) m S.length (some d) v) rfl e1 (yU _)]
  exact e
theorem yBY(c:Int){ws:List (List Nat)}(hw:ws.length=2)(S:Sto): ∃vs:List MV,vs≠[]/\vs.length<=100/\(∀v∈vs,VS v)/\zZ 2 dB [.val (.int c),.new (ws.map MV.str)] S=.ok (.new vs) S:=by
 obtain⟨S1,hS1⟩: ∃S1:Sto,S1=S++[.lst (ws.map MV.str)]:=⟨_,rfl⟩
 have hwat:S1[S.length]? =some (.lst (ws.map MV.str)):=by rw [hS1];exact zL _ _
 by_cases h2:c % 2=0
 ·obtain⟨r,hr⟩: ∃r,r=c / 2:=⟨_,rfl⟩
  have h3:=eN0 r (show(3:Int)≠0 by decide)
  have h4:=eL r (show(0:Int)<3 by decide)
  obtain⟨vs,r',k',v',e,g1,g2,g3⟩:=yGH c S.length (some (.int (2+r % 3))) S1 ((List.range (2+r % 3).toNat).map λk=>.int (k:Nat)) [] (r / 3) none none (by rw [lM,length_range,length_nil];omega) (.inr (by
   intro z
   have:=congrArg List.length z
   rw [lM,length_range,length_nil]at this
   omega)) (λv hv=>by simp at hv)
  rw [lM,length_range,length_nil]at g2
  have hvat:(S1++[.lst vs])[S1.length]? =some (.lst vs):=zL _ _
  have hwat2:(S1++[.lst vs])[S.length]? =some (.lst (ws.map MV.str)):=by
   rw [getElem?_append_left (gS0.mp hwat).1]
   exact hwat
  have hc:xE (gNm 0) kF bD [none,some (.loc S1.length)] [(S.length,ws.map MV.str)] (ws.map MV.str) (S1++[.lst vs])=.ok ((ws.filter λx=>!decide (MV.str x∈vs)).map MV.str) (S1++[.lst vs]):=
   zBN (dI hwat2) λx _=>⟨[some (.str x),some (.loc S1.length)],rfl,by
    unfold kF
    simp? [zGI true hvat (zBM x) λy hy=>zZZ (g3 y hy)],rfl⟩
  obtain⟨t,ht⟩: ∃t:Int,t=2 - (if(vs.length:Int)<2 then(vs.length:Int)else 2):=⟨_,rfl⟩
  obtain⟨ys,hys⟩: ∃ys,ys=gI ((ws.filter λx=>!decide (MV.str x∈vs)).map MV.str) none (some t):=⟨_,rfl⟩
  have hym: ∀y∈ys,VS y:=λy hy=>by
   rw [hys]at hy
   obtain⟨x,_,rfl⟩:=mM.mp (yDX hy)
   exact .inr ⟨x,rfl⟩
  have hyl:ys.length<=2:=by
   rw [hys]
   refine le_trans (yDW _ _ _) ?_
   rw [lM]
   exact le_trans (length_filter_le _ _) (by omega)
  have hall: ∀v∈vs++ys,VS v:=λv hv=>(mem_append.mp hv).elim (g3 v) (hym v)
  refine⟨vs++ys,by simp [g1],by rw [lA];omega,hall,?_⟩
  refine zUK (T:=[.lst (ws.map MV.str)]++[.lst vs]) rfl (show zN [.val (.int c),.new (ws.map MV.str)] S=([.int c,.loc S.length],S++[.lst (ws.map MV.str)])from rfl) ?_ (.inl rfl) (yLW hall _)
  rw [<-hS1]
  show xF (jS (VV c S.length none none none none none none none none) S1)=_
  have q1:(CJ (dJ jA (vJ 0) (kJ (.int 2))) 2) (VV c S.length none none none none none none none none) S1=.ok (.next (VV c S.length (some (.int r)) none none none none none none none)) S1:=by
   simp? [yC (b:=2) (by decide) (by decide)]
   rw [hr]
  have q2:(CJ (dJ wP (kJ (.int 2)) (dJ wL (vJ 2) (kJ (.int 3)))) 3) (VV c S.length (some (.int r)) none none none none none none none) S1=.ok (.next (VV c S.length (some (.int r)) (some (.int (2+r % 3))) none none none none none none)) S1:=by
   simp? [mod_lit (show(0:Int)<3 by decide)]
  have q3:(CJ (dJ jA (vJ 2) (kJ (.int 3))) 2) (VV c S.length (some (.int r)) (some (.int (2+r % 3))) none none none none none none) S1=.ok (.next (VV c S.length (some (.int (r / 3))) (some (.int (2+r % 3))) none none none none none none)) S1:=by
   simp? [yC (b:=3) (by decide) (by decide)]
  have q4:(CJ (bJ wJ bT) 4) (VV c S.length (some (.int (r / 3))) (some (.int (2+r % 3))) none none none none none none) S1=.ok (.next (VW c S.length (some (.int (r / 3))) (some (.int (2+r % 3))) S1.length none none)) (S1++[.lst []]):=by
   simp? [bok]
  have q5:(FJ (bJ (yJ (vJ 3) wJ) gE) (gNm 5) (xR)) (VW c S.length (some (.int (r / 3))) (some (.int (2+r % 3))) S1.length none none) (S1++[.lst []])=.ok (.next (VW c S.length (some (.int r')) (some (.int (2+r % 3))) S1.length k' v')) (S1++[.lst vs]):=by
   simp? [zQT (show -(2 ^ 62)<=(2+r % 3)/\(2+r % 3)<2 ^ 62 by omega)]
   exact e
  have hb: ∀a b c d e f g h i j:Option MV,blk 1 [4] [a,b,c,d,e,f,g,h,i,j]=[none,e]:=λ_ _ _ _ _ _ _ _ _ _=>rfl
  have hwl:(ws.map MV.str).length<1000000:=by rw [lM];omega
  have q6:(AJ (dJ wP (vJ 4) (tJ zCH (pJ (bJ (vJ 1) itL) (gNm 0) (kF) (bD) 1 [4]) mJ (bJ (dJ zKQ (kJ (.int 2)) (bJ (yJ (kJ (.int 2)) (yJ (bJ (yJ (vJ 4) wJ) zDK) wJ)) zWT)) asI)))) (VW c S.length (some (.int r')) (some (.int (2+r % 3))) S1.length k' v') (S1++[.lst vs])=.ok (.ret (.new (vs++ys))) (S1++[.lst vs]):=by
   simp? [zDN hwat2,hwl,hb,hc,zGF hvat,show∀i j S,zWT [.val (.int i),.val (.int j)] S=.ok (.val (.int (if j<i then j else i))) S from λ_ _ _=>rfl, <-ht,zZV, <-hys,yDU (yIU hvat) (show lsW (S1++[.lst vs]) (.new ys)=some ys from rfl) (fits (show vs.length+ys.length<=1000000 by omega))]
  have f1:wU (VV c S.length none none none none none none none none) S1=.ok (.ret (.new (vs++ys))) (S1++[.lst vs]):=by
   unfold wU
   simp? [mod_lit (show(0:Int)<2 by decide),h2,decide_true]
   rw [zD q1,zD q2,zD q3,zD q4,zD q5]
   exact q6
  unfold jS
  rw [nW f1,hS1,aA]
  rfl
 ·obtain⟨x0,x1,rfl⟩: ∃x0 x1,ws=[x0,x1]:=by
   match ws,hw with
   |[a,b],_=>exact⟨a,b,rfl⟩
  obtain⟨n,hn⟩: ∃n:Int,n=c % (2 * 10 ^ 30 - 2) - 10 ^ 30+1:=⟨_,rfl⟩
  obtain⟨pl,hpl⟩: ∃pl:List MV,pl=[.int n,.int (n+1),.str x0,.str x1]:=⟨_,rfl⟩
  obtain⟨tn,htn⟩: ∃tn:Int,tn=c / 5 % 4:=⟨_,rfl⟩
  have h3:=eN0 (c / 5) (show(4:Int)≠0 by decide)
  have h4:=eL (c / 5) (show(0:Int)<4 by decide)
  have h5:=eN0 c (show(3:Int)≠0 by decide)
  have h6:=eL c (show(0:Int)<3 by decide)
  have hpm: ∀v∈pl,VS v:=λv hv=>by
   rw [hpl]at hv
   simp only [mC,not_mem_nil,or_false]at hv
   rcases hv with rfl|rfl|rfl|rfl
   ·exact .inl ⟨_,rfl⟩
   ·exact .inl ⟨_,rfl⟩
   ·exact .inr ⟨_,rfl⟩
   ·exact .inr ⟨_,rfl⟩
  have hpl4:pl.length=4:=by rw [hpl];rfl
  obtain⟨ys,hys⟩: ∃ys:List MV,ys=(pl.drop tn.toNat++pl.take tn.toNat).take (2+c % 3).toNat:=⟨_,rfl⟩
  have hyl:ys.length=(2+c % 3).toNat:=by
   rw [hys,lT,lA,length_drop,lT,hpl4]
   omega
  have hym: ∀v∈ys,VS v:=λv hv=>by
   rw [hys]at hv
   rcases mem_append.mp (mem_of_mem_take hv)with hv|hv
   ·exact hpm v (List.mem_of_mem_drop hv)
   ·exact hpm v (mem_of_mem_take hv)
  refine⟨ys,λz=>?_,by omega,hym,?_⟩
  ·rw [z,length_nil]at hyl
   omega
  refine zUK (T:=[.lst ([x0,x1].map MV.str)]++[.lst pl]) rfl (show zN [.val (.int c),.new ([x0,x1].map MV.str)] S=([.int c,.loc S.length],S++[.lst ([x0,x1].map MV.str)])from rfl) ?_ (.inl rfl) (yLW hym _)
  rw [<-hS1]
  show xF (jS (VV c S.length none none none none none none none none) S1)=_
  have hp: ∀S:Sto,zKR (.val (.int 10)) (.val (.int 30)) S=.ok (.val (.int (10 ^ 30))) S:=λS=>zYD (by unfold yAZ;decide+kernel) S
  have f1:wU (VV c S.length none none none none none none none none) S1=.ok (.next (VV c S.length none none none none none none none none)) S1:=by
   unfold wU
   simp? [mod_lit (show(0:Int)<2 by decide),h2,decide_false,fT,iF]
  have f2:nG (VV c S.length none none none none none none none none) S1=.ok (.next (VV c S.length none none none none none (some (.int n)) none none)) S1:=by
   unfold nG
   simp? [hp,dH (a:=2) (show -(2 ^ 64)<(2:Int)/\(2:Int)<2 ^ 64 by decide),mod_lit (b:=2 * 10 ^ 30 - 2) (by decide)]
   rw [hn]
  have i0:ixF (.val (.loc S.length)) (.val (.int 0)) S1=.ok (.val (.str x0)) S1:=zAO hwat (zCD (k:=0) rfl)
  have i1:ixF (.val (.loc S.length)) (.val (.int 1)) S1=.ok (.val (.str x1)) S1:=zAO hwat (zCD (k:=1) rfl)
  have f3:nH (VV c S.length none none none none none (some (.int n)) none none) S1=.ok (.next (VV c S.length none none none none none (some (.int n)) (some (.loc S1.length)) none)) (S1++[.lst pl]):=by
   unfold nH
   simp? [i0,i1,show∀(a b c d:MV)(S:Sto),bT [.val a,.val b,.val c,.val d] S=.ok (.new [a,b,c,d]) S from λa b c d S=>zEZ (by simp)]
   rw [hpl]
  have f4:nI (VV c S.length none none none none none (some (.int n)) (some (.loc S1.length)) none) (S1++[.lst pl])=.ok (.next (VV c S.length none none none none none (some (.int n)) (some (.loc S1.length)) (some (.int tn)))) (S1++[.lst pl]):=by
   unfold nI
   simp? [yC (b:=5) (by decide) (by decide),mod_lit (show(0:Int)<4 by decide)]
   rw [htn]
  have hat:(S1++[.lst pl])[S1.length]? =some (.lst pl):=zL _ _
  have ht1:(tn.toNat:Int)=tn:=by omega
  have hcd:=zJT pl tn.toNat
  rw [ht1]at hcd
  have f5:nK (VV c S.length none none none none none (some (.int n)) (some (.loc S1.length)) (some (.int tn))) (S1++[.lst pl])=.ok (.ret (.new ys)) (S1++[.lst pl]):=by
   unfold nK
   simp? [zGK hat,hcd,zBV pl tn (by omega),yDU (show lsW (S1++[.lst pl]) (.new (pl.drop tn.toNat))=some (pl.drop tn.toNat)from rfl) (show lsW (S1++[.lst pl]) (.new (pl.take tn.toNat))=some (pl.take tn.toNat)from rfl) (fits (show(pl.drop tn.toNat).length+(pl.take tn.toNat).length<=1000000 by rw [length_drop,lT,hpl4];omega)),mod_lit (show(0:Int)<3 by decide),zZV,zBV _ (2+c % 3) (by omega)]
   rw [hys]
  unfold jS
  rw [zD f1,zD f2,zD f3,zD f4,f5,hS1,aA]
  rfl
def TmIn(xs:List (List Nat))(d:MV):Prop:=(∃x∈xs,d=.tup [.str VAR,.str x])\/ ∃v,VS v/\d=.tup [.str IS,v]
theorem TmIn.ok{xs:List (List Nat)}{d:MV}(h:TmIn xs d):zRU d:=by
 rcases h with⟨x,_,rfl⟩|⟨v,hv,rfl⟩
 ·exact .inl ⟨x,rfl⟩
 ·exact .inr ⟨v,hv,rfl⟩
theorem yAA{S:Sto}{l:Nat}{ds:List MV}(hS:S[l]? =some (.lst ds))(hne:ds≠[])(n:Int): ∃d∈ds,ixF (.val (.loc l)) (.val (.int (n % (ds.length:Int)))) S=.ok (.val d) S:=by
 have hp:0<ds.length:=length_pos_iff.mpr hne
 obtain⟨d,hd⟩:=zGD (xs:=ds) (i:=n % (ds.length:Int)) (eN0 _ (by omega)) (eL _ (by omega))
 exact⟨d,zGE (P:=λd=>d∈ds) (λe he=>he) hd,zAO hS hd⟩
theorem yKU{S:Sto}{ln lv:Nat}{xs:List (List Nat)}{vs:List MV}(h1:S[ln]? =some (.lst (xs.map MV.str)))(hx:xs≠[])(h2:S[lv]? =some (.lst vs))(hv:vs≠[])(hvs: ∀v∈vs,VS v)(n:Int): ∃d,TmIn xs d/\zZ 3 zCA [.val (.int n),.val (.loc ln),.val (.loc lv)] S=.ok (.val d) S:=by
 have hvl:0<vs.length:=length_pos_iff.mpr hv
 have hxl:0<xs.length:=length_pos_iff.mpr hx
 by_cases h6:n % 6=0
 ·obtain⟨v,hm,hi⟩:=yAA h2 hv (n / 6)
  have hvv:=hvs v hm
  refine⟨.tup [.str IS,v],.inr ⟨v,hvv,rfl⟩,?_⟩
  refine zCV rfl ?_ (zPW (zUL (.inr ⟨v,hvv,rfl⟩)).1) (λl=>by simp)
  show xF (dN [some (.int n),some (.loc ln),some (.loc lv)] S)=_
  have e1:jT [some (.int n),some (.loc ln),some (.loc lv)] S=.ok (.ret (.val (.tup [.str IS,v]))) S:=by
   unfold jT
   simp? [mod_lit (show(0:Int)<6 by decide),h6,decide_true,yC (b:=6) (by decide) (by decide),zGF h2,mod_lit (b:=(vs.length:Int)) (by omega),hi,tup2]
  unfold dN
  rw [nW e1]
  rfl
 ·obtain⟨d,hm,hi⟩:=yAA h1 (by simpa using hx) (n / 6)
  obtain⟨x,hxm,rfl⟩:=mM.mp hm
  rw [lM]at hi
  refine⟨.tup [.str VAR,.str x],.inl ⟨x,hxm,rfl⟩,?_⟩
  refine zCV rfl ?_ (zPW (zUL (.inl ⟨x,rfl⟩)).1) (λl=>by simp)
  show xF (dN [some (.int n),some (.loc ln),some (.loc lv)] S)=_
  have e1:jT [some (.int n),some (.loc ln),some (.loc lv)] S=.ok (.next [some (.int n),some (.loc ln),some (.loc lv)]) S:=by
   unfold jT
   simp? [mod_lit (show(0:Int)<6 by decide),h6,decide_false,fT,iF]
  unfold dN
  rw [zD e1]
  unfold zGW
  simp? [yC (b:=6) (by decide) (by decide),zGF h1,lM,mod_lit (b:=(xs.length:Int)) (by omega),hi,tup2]
  rfl
abbrev SG(la l:Nat)(t m d:Option MV):Rho:=[some (.loc la),some (.loc l),t,m,d]
structure Kx(xs ks:List (List Nat)):Prop where
 nd:ks.Nodup
 sub: ∀x∈ks,x∈xs
theorem Kx.len{xs ks:List (List Nat)}(h:Kx xs ks):ks.length<=xs.length:=zFR h.nd h.sub
theorem yGI{la:Nat}{t m:Option MV}{xs:List (List Nat)}(hx:xs.length<=100)(S:Sto): ∀(tms:List MV),(∀d∈tms,TmIn xs d)-> ∀(ks:List (List Nat))(o:Option MV),Kx xs ks-> ∃(ks':List (List Nat))(o':Option MV),wK (gNm 4) kG [] tms (SG la S.length t m o) (S++[.dic (dT ks)])=.ok (.next (SG la S.length t m o')) (S++[.dic (dT ks')])/\Kx xs ks'
 |[],_,ks,o,h=>⟨ks,o,rfl,h⟩
 |d::tms,hT,ks,o,h=>by
  have hT': ∀d∈tms,TmIn xs d:=λe he=>hT e (mO _ he)
  rcases hT d mF0 with⟨x,hm,rfl⟩|⟨v,hv,rfl⟩
  ·obtain⟨ks',o',e,h'⟩:=yGI (la:=la) (t:=t) (m:=m) hx S tms hT' (zCP ks x) (some (.tup [.str VAR,.str x])) ⟨zZE h.nd x,λy hy=>by
    rcases (zUO ks x y).mp hy with hy|rfl
    ·exact h.sub y hy
    ·exact hm⟩
   refine⟨ks',o',?_,h'⟩
   have hl:=h.len
   rw [zT (ρ0:=SG la S.length t m (some (.tup [.str VAR,.str x]))) (ρ':=SG la S.length t m (some (.tup [.str VAR,.str x]))) (S':=S++[.dic (dT (zCP ks x))]) rfl (by
    unfold kG jC
    simp? [zNH,zGO,zUM,zDZ,zZG (zL S (.dic (dT ks))) (show ks.length<1000000 by omega),xT]) (yU _)]
   exact e
  ·obtain⟨ks',o',e,h'⟩:=yGI (la:=la) (t:=t) (m:=m) hx S tms hT' ks (some (.tup [.str IS,v])) h
   refine⟨ks',o',?_,h'⟩
   rw [zT (ρ0:=SG la S.length t m (some (.tup [.str IS,v]))) (ρ':=SG la S.length t m (some (.tup [.str IS,v]))) (S':=S++[.dic (dT ks)]) rfl (by
    unfold kG jC
    simp? [zNH,yFE,fT,iF]) (yU _)]
   exact e
theorem yGJ{la:Nat}{xs:List (List Nat)}{all:List MV}(hx:xs.length<=100)(S:Sto)(hla:S[la]? =some (.lst all)): ∀(as:List (Int×List MV)),(∀a∈as, ∀d∈a.2,TmIn xs d)-> ∀(ks:List (List Nat))(t m o:Option MV),Kx xs ks-> ∃(ks':List (List Nat))(t' m' o':Option MV),wK (gTp 2 (yF (gNm 2) (yF (gNm 3) dF))) bE [(la,all)] (as.map aM) (SG la S.length t m o) (S++[.dic (dT ks)])=.ok (.next (SG la S.length t' m' o')) (S++[.dic (dT ks')])/\Kx xs ks'
 |[],_,ks,t,m,o,h=>⟨ks,t,m,o,rfl,h⟩
 |a::as,hA,ks,t,m,o,h=>by
  obtain⟨ks1,o1,e1,h1⟩:=yGI (la:=la) (t:=some (.int a.1)) (m:=some (.tup a.2)) hx S a.2 (hA a mF0) ks o h
  obtain⟨ks',t',m',o',e,h'⟩:=yGJ hx S hla as (λb hb=>hA b (mO _ hb)) ks1 (some (.int a.1)) (some (.tup a.2)) o1 h1
  refine⟨ks',t',m',o',?_,h'⟩
  have hst:stay [(la,all)] (S++[.dic (dT ks1)]):=dI (by rw [getElem?_append_left (gS0.mp hla).1];exact hla)
  rw [map_cons,zT (ρ0:=SG la S.length (some (.int a.1)) (some (.tup a.2)) o) (ρ':=SG la S.length (some (.int a.1)) (some (.tup a.2)) o1) (S0:=S++[.dic (dT ks)]) (S':=S++[.dic (dT ks1)]) rfl (by
   unfold bE nR
   simp? [zNI]
   exact e1) hst]
  exact e
theorem yAB: ∀ks:List (List Nat),dU (ks.map MV.str)=some ks
 |[]=>rfl
 |x::ks=>by
  rw [map_cons]
  unfold dU
  rw [yAB ks]
  rfl
theorem yGK{S:Sto}{l:Nat}{ks:List (List Nat)}(h:S[l]? =some (.dic (dT ks)))(hl:ks.length<64):zNA [.val (.loc l)] S=.ok (.new ((zGU ks).map MV.str)) S:=by
 unfold zNA
 dsimp only
 rw [zFQ h (zKK ks)]
 dsimp only
 rw [iP (show(dT ks).length<64 by unfold dT;rw [lM];exact hl),zRX,yAB]
theorem zVC{la:Nat}{xs:List (List Nat)}{as:List (Int×List MV)}(hx:xs.length<=4)(S:Sto)(hla:S[la]? =some (.lst (as.map aM)))(hA: ∀a∈as, ∀d∈a.2,TmIn xs d): ∃ys:List (List Nat),ys.length<=4/\zZ 1 jZ [.val (.loc la)] S=.ok (.new (ys.map MV.str)) S:=by
 obtain⟨ks,t,m,o,e,h⟩:=yGJ (by omega) S hla as hA [] none none none ⟨nodup_nil,λx hx=>by simp at hx⟩
 have hl:=h.len
 refine⟨zGU ks,by rw [(zDO ks).length_eq];omega,?_⟩
 refine gQ (T:=[.dic (dT ks)]) rfl ?_ (zIN _ _)
 show xF (nL [some (.loc la),none,none,none,none] S)=_
 have f1:bF [some (.loc la),none,none,none,none] S=.ok (.next (SG la S.length none none none)) (S++[.dic (dT [])]):=by
  unfold bF
  simp? [zTL]
  rfl
 have hla2:(S++[.dic (dT [])])[la]? =some (.lst (as.map aM)):=by rw [getElem?_append_left (gS0.mp hla).1];exact hla
 have f2:bG (SG la S.length none none none) (S++[.dic (dT [])])=.ok (.next (SG la S.length t m o)) (S++[.dic (dT ks)]):=by
  unfold bG
  simp? [zDN hla2]
  exact e
 unfold nL
 rw [zD f1,zD f2]
 unfold zCB
 simp? [yGK (zL S (.dic (dT ks))) (show ks.length<64 by omega)]
 rfl
theorem zVD{gf:MV->Rho->Sto->R Rho}{cf:AZ}{ef:AX}{ρb:Rho}{gs:List (Nat×List MV)}{S:Sto}{P:MV->Prop}(hs:stay gs S):
  ∀{ds:List MV},(∀d∈ds, ∃ρ1 b y,gf d ρb S=.ok ρ1 S/\cf ρ1 S=.ok b S/\ef ρ1 S=.ok (.val y) S/\P y)-> ∃out,xE gf cf ef ρb gs ds S=.ok out S/\out.length<=ds.length/\ ∀o∈out,P o
 |[],_=>⟨[],rfl,le_refl _,λo h=>by simp at h⟩
 |d::ds,st=>by
  obtain⟨ρ1,b,y,h1,h2,h3,h4⟩:=st d mF0
  obtain⟨out,e,hl,hp⟩:=zVD hs (ds:=ds) λd hd=>st d (mO _ hd)
  cases b with
  |true=>
   refine⟨y::out,?_,by rw [lC,lC];omega,λo ho=>(mC.mp ho).elim (λz=>z▸h4) (hp o)⟩
   unfold xE
   rw [h1,yY,bok,h2,yY,bok,iP rfl,h3,yY,bok]
   unfold dR
   rw [bok,iP hs,e]
   rfl
  |false=>
   refine⟨out,?_,by rw [lC];omega,hp⟩
   unfold xE
   rw [h1,yY,bok,h2,yY,bok,iN xF0,iP hs,e]
theorem yAC{S:Sto}{l:Nat}{ds:List MV}(hS:S[l]? =some (.lst ds)):yBF (.val (.loc l)) [] S=.ok (.val .non) (S.set l (.lst ds.reverse)):=by
 unfold yBF zHW
 dsimp only
 rw [hS]
theorem yPZ(q:Int){n:Nat}(h1:1<=n)(h4:n<=4):((List.range n).map λk:Nat=>((q+(k:Int)) % (n:Int)).toNat).Nodup:=by
 unfold List.Nodup
 rw [pairwise_map]
 refine List.Pairwise.imp_of_mem (λ{i j} hi hj hne e=>hne ?_) (List.nodup_range (n:=n))
 have hi:=mem_range.mp hi
 have hj:=mem_range.mp hj
 have:n=1\/n=2\/n=3\/n=4:=by omega
 rcases this with rfl|rfl|rfl|rfl<;>omega
abbrev QV(lc:Nat)(ts:List (Int×Int))(ln lv:Nat)(m o a k nb w s h:Option MV):Rho:=[some (.loc lc),some (.tup (ts.map tbl)),some (.loc ln),some (.loc lv),m,o,a,k,nb,w,s,h]
abbrev QA(lc:Nat)(ts:List (Int×Int))(ln lv:Nat)(m:Option MV)(lo:Nat)(k nb w:Option MV):Rho:=QV lc ts ln lv m (some (.loc lo)) (some (.loc (lo+1))) k nb w none none
abbrev ZZ(B:Sto)(ord:List Nat)(as:List (Int×List MV))(T:Sto):Sto:=B++.lst (ord.map zG)::.lst (as.map aM)::T
theorem zz_o(B:Sto)(ord:List Nat)(as:List (Int×List MV))(T:Sto):(ZZ B ord as T)[B.length]? =some (.lst (ord.map zG)):=by simp [ZZ]
theorem zz_a(B:Sto)(ord:List Nat)(as:List (Int×List MV))(T:Sto):(ZZ B ord as T)[B.length+1]? =some (.lst (as.map aM)):=by simp [ZZ]
theorem yQA(B:Sto)(ord:List Nat)(as as':List (Int×List MV))(T:Sto):(ZZ B ord as T).set (B.length+1) (.lst (as'.map aM))=ZZ B ord as' T:=by simp [ZZ]
theorem zSC{B:Sto}{k:Nat}{o:MO}(h:B[k]? =some o)(ord:List Nat)(as:List (Int×List MV))(T:Sto):(ZZ B ord as T)[k]? =some o:=by
 show(B++_)[k]? =_
 rw [getElem?_append_left (gS0.mp h).1]
 exact h
theorem yAD(B:Sto)(ord:List Nat)(as:List (Int×List MV))(T:Sto)(o:MO):ZZ B ord as T++[o]=ZZ B ord as (T++[o]):=by simp [ZZ]
structure QB(B:Sto)(lc ln lv:Nat)(cs:List Int)(xs:List (List Nat))(vs:List MV):Prop where
 c:B[lc]? =some (.lst (cs.map MV.int))
 c6:cs.length=6
 n:B[ln]? =some (.lst (xs.map MV.str))
 n1:xs≠[]
 n4:xs.length<=4
 v:B[lv]? =some (.lst vs)
 v1:vs≠[]
 vs: ∀v∈vs,VS v
section
variable{B:Sto}{lc ln lv:Nat}{cs:List Int}{xs:List (List Nat)}{vs:List MV}{ts:List (Int×Int)}{ord:List Nat}
theorem yKV(H:QB B lc ln lv cs xs vs)(hts: ∀p∈ts,1<=p.1/\p.1<=4/\0<=p.2/\p.2<=p.1)(ho: ∀o∈ord,o<ts.length){as:List (Int×List MV)}(hl:as.length<=100)(T:Sto)(m nb w:Option MV){k:Nat}(hk:k<ord.length)(hk4:k<4):
  ∃(a:Int×List MV)(T':Sto)(nb' w':Option MV),kH (QA lc ts ln lv m B.length (some (zG k)) nb w) (ZZ B ord as T)=.ok (.next (QA lc ts ln lv m B.length (some (zG k)) nb' w')) (ZZ B ord (as++[a]) T')/\a.1=(ord[k]:Int)/\AOk ts a/\ ∀d∈a.2,TmIn xs d:=by
 obtain⟨c,hc⟩: ∃c,cs[2+k]? =some c:=⟨_,gE0 (show 2+k<cs.length by have:=H.c6;omega)⟩
 obtain⟨ns,hns,e1⟩:=zVB c (show 4<=10 by decide) (ZZ B ord as T)
 have hix:ixF (.val (.loc lc)) (.val (.int (2+(k:Int)))) (ZZ B ord as T)=.ok (.val (.int c)) (ZZ B ord as T):=zAO (zSC H.c _ _ _) (by
  have:=zCD (xs:=cs.map MV.int) (k:=2+k) (x:=.int c) (by rw [getElem?_map,hc];rfl)
  rw [Int.natCast_add]at this
  exact this)
 have f1:jF (QA lc ts ln lv m B.length (some (zG k)) nb w) (ZZ B ord as T)=.ok (.next (QA lc ts ln lv m B.length (some (zG k)) (some (.loc (ZZ B ord as T).length)) w)) (ZZ B ord as (T++[.lst (ns.map MV.int)])):=by
  unfold jF
  simp? [hix,show∀S,zZ 2 yR [.val (.int c),.val (.int 4)] S=zZ 2 yR [.val (.int c),.val (zG 4)] S from λ_=>rfl,e1]
  rw [yAD]
 obtain⟨T1,hT1⟩: ∃T1,T1=T++[.lst (ns.map MV.int)]:=⟨_,rfl⟩
 obtain⟨o,ho'⟩: ∃o,o=ord[k]:=⟨_,rfl⟩
 have hok:ord[k]? =some o:=by rw [ho'];exact gE0 hk
 have hot:=ho o (mem_of_getElem? hok)
 obtain⟨p,hp⟩: ∃p,ts[o]? =some p:=⟨_,gE0 hot⟩
 have hpp:=hts p (mem_of_getElem? hp)
 have hio: ∀U,ixF (.val (.loc B.length)) (.val (zG k)) (ZZ B ord as U)=.ok (.val (zG o)) (ZZ B ord as U):=λU=>zAO (zz_o _ _ _ _) (zCD (by rw [getElem?_map,hok];rfl))
 have hit: ∀S:Sto,ixF (.val (.tup (ts.map tbl))) (.val (zG o)) S=.ok (.val (tbl p)) S:=λS=>ix_tup (zCD (by rw [getElem?_map,hp];rfl))
 have f2:jG (QA lc ts ln lv m B.length (some (zG k)) (some (.loc (ZZ B ord as T).length)) w) (ZZ B ord as T1)=.ok (.next (QA lc ts ln lv m B.length (some (zG k)) (some (.loc (ZZ B ord as T).length)) (some (.int p.1)))) (ZZ B ord as T1):=by
  unfold jG
  simp? [hio,hit,show∀S:Sto,ixF (.val (tbl p)) (.val (.int 0)) S=.ok (.val (.int p.1)) S from λ_=>rfl]
 have hna:(ZZ B ord as T1)[(ZZ B ord as T).length]? =some (.lst (ns.map MV.int)):=by
  rw [hT1, <-yAD]
  exact zL _ _
 obtain⟨out,hco,hol,hom⟩:=zMJ (S:=ZZ B ord as T1) (gf:=gNm 0) (cf:=nT) (ef:=jE) (ρb:=[none,some (.loc ln),some (.loc lv)]) (gs:=[]) (P:=TmIn xs) (yU _) (ds:=(ns.map MV.int).take p.1.toNat) λd hd=>by
  obtain⟨i,_,rfl⟩:=mM.mp (mem_of_mem_take hd)
  obtain⟨t,ht,e⟩:=yKU (zSC H.n ord as T1) H.n1 (zSC H.v ord as T1) H.v1 H.vs i
  refine⟨[some (.int i),some (.loc ln),some (.loc lv)],t,rfl,rfl,?_,ht⟩
  unfold jE
  simp? [e]
 rw [lT,lM,hns]at hol
 have hlt:((ns.map MV.int).take p.1.toNat).length<1000000:=by rw [lT,lM];omega
 have hb: ∀a b c d e f g h i j k l:Option MV,blk 1 [2,3] [a,b,c,d,e,f,g,h,i,j,k,l]=[none,c,d]:=λ_ _ _ _ _ _ _ _ _ _ _ _=>rfl
 have f3:jH (QA lc ts ln lv m B.length (some (zG k)) (some (.loc (ZZ B ord as T).length)) (some (.int p.1))) (ZZ B ord as T1)=.ok (.next (QA lc ts ln lv m B.length (some (zG k)) (some (.loc (ZZ B ord as T).length)) (some (.int p.1)))) (ZZ B ord (as++[((o:Int),out)]) T1):=by
  unfold jH
  simp? [hX (zz_a B ord as T1),hio,zGK hna,zBV _ p.1 (show 0<=p.1 by omega),zHJ,hlt,hb,hco,show∀(ds:List MV)(S:Sto),zDL [.new ds] S=.ok (.val (.tup ds)) S from λ_ _=>rfl,tup2,zCC (zz_a B ord as T1) (show(as.map aM).length<1000000 by rw [lM];omega)]
  rw [show as.map aM++[.tup [.int (o:Int),.tup out]]=(as++[((o:Int),out)]).map aM by rw [map_append];rfl,yQA]
 refine⟨((o:Int),out),T1,some (.loc (ZZ B ord as T).length),some (.int p.1),?_,by rw [ho'],⟨⟨p,zCD hp,by omega⟩,λd hd=>(hom d hd).ok,?_⟩,hom⟩
 ·unfold kH
  rw [zD f1, <-hT1,zD f2]
  exact f3
 ·show out.length<=4
  omega
theorem yGL(H:QB B lc ln lv cs xs vs)(hts: ∀p∈ts,1<=p.1/\p.1<=4/\0<=p.2/\p.2<=p.1)(ho: ∀o∈ord,o<ts.length)(m:Option MV): ∀(n k:Nat)(as:List (Int×List MV))(T:Sto)(q nb w:Option MV),k+n<=ord.length->k+n<=4->as.length=k->(as.map λa=>a.1.toNat)=ord.take k->(∀a∈as,0<=a.1/\AOk ts a/\ ∀d∈a.2,TmIn xs d)->
  ∃(as':List (Int×List MV))(T':Sto)(q' nb' w':Option MV),wK (gNm 7) kH [] ((List.range' k n).map zG) (QA lc ts ln lv m B.length q nb w) (ZZ B ord as T)=.ok (.next (QA lc ts ln lv m B.length q' nb' w')) (ZZ B ord as' T')/\as'.length=k+n/\(as'.map λa=>a.1.toNat)=ord.take (k+n)/\ ∀a∈as',0<=a.1/\AOk ts a/\ ∀d∈a.2,TmIn xs d
 |0,k,as,T,q,nb,w,_,_,h1,h2,h3=>⟨as,T,q,nb,w,rfl,h1,h2,h3⟩
 |n+1,k,as,T,q,nb,w,hk,h4,h1,h2,h3=>by
  have hko:k<ord.length:=by omega
  obtain⟨a,T1,nb1,w1,e1,g1,g2,g3⟩:=yKV H hts ho (as:=as) (by omega) T m nb w hko (by omega)
  obtain⟨as',T',q',nb',w',e,j1,j2,j3⟩:=yGL H hts ho m n (k+1) (as++[a]) T1 (some (zG k)) nb1 w1 (by omega) (by omega) (by rw [lA,lS,h1]) (by
   rw [map_append,h2,List.take_add_one,gE0 hko,List.map_singleton,g1]
   rfl) (λb hb=>by
   rcases mem_append.mp hb with hb|hb
   ·exact h3 b hb
   ·rw [mS.mp hb]
    exact⟨by rw [g1];omega,g2,g3⟩)
  refine⟨as',T',q',nb',w',?_,by omega,by rw [j2];congr 1;omega,j3⟩
  rw [range'_succ,map_cons,zT (ρ0:=QA lc ts ln lv m B.length (some (zG k)) nb w) rfl e1 (yU _)]
  exact e
end
theorem zVE: ∀{o:List MV},(∀y∈o, ∃x:List Nat,y=.str x)-> ∃ys:List (List Nat),o=ys.map MV.str
 |[],_=>⟨[],rfl⟩
 |a::o,h=>by
  obtain⟨x,rfl⟩:=h a mF0
  obtain⟨ys,rfl⟩:=zVE λy hy=>h y (mO _ hy)
  exact⟨x::ys,rfl⟩
theorem am_lo{ts:List (Int×Int)}{as:List (Int×List MV)}(h: ∀a∈as,AOk ts a)(n:Nat):loL n (as.map aM):=wX λd hd=>by
 obtain⟨a,ha,rfl⟩:=mM.mp hd
 exact zDM (wX λe he=>by
  rcases mC.mp he with rfl|he
  ·exact zCI _ _
  ·rw [mS.mp he]
   exact zDM (wX λt ht=>zPW (zUL ((h a ha).tm t ht)).1))
theorem yGM{lc lv:Nat}{cs:List Int}{xs:List (List Nat)}{vs:List MV}{ts:List (Int×Int)}{S:Sto}(hc:S[lc]? =some (.lst (cs.map MV.int)))(hc6:cs.length=6)(hx1:xs≠[])(hx4:xs.length<=4)(hv:S[lv]? =some (.lst vs))(hv1:vs≠[])(hvs: ∀v∈vs,VS v)(hn1:1<=ts.length)(hn4:ts.length<=4)(hts: ∀p∈ts,1<=p.1/\p.1<=4/\0<=p.2/\p.2<=p.1):
  ∃(hs:List (List Nat))(as:List (Int×List MV)),QOk ts as/\zZ 4 wV [.val (.loc lc),.val (.tup (ts.map tbl)),.new (xs.map MV.str),.val (.loc lv)] S=.ok (.val (qM hs as)) S:=by
 obtain⟨B,hB⟩: ∃B:Sto,B=S++[.lst (xs.map MV.str)]:=⟨_,rfl⟩
 have old: ∀{k o},S[k]? =some o->B[k]? =some o:=λh=>by rw [hB,getElem?_append_left (gS0.mp h).1];exact h
 have H:QB B lc S.length lv cs xs vs:=⟨old hc,hc6,by rw [hB];exact zL _ _,hx1,hx4,old hv,hv1,hvs⟩
 obtain⟨c0,h0⟩: ∃c,cs[0]? =some c:=⟨_,gE0 (show 0<cs.length by omega)⟩
 obtain⟨c1,h1⟩: ∃c,cs[1]? =some c:=⟨_,gE0 (show 1<cs.length by omega)⟩
 obtain⟨n,hn⟩: ∃n,n=ts.length:=⟨_,rfl⟩
 have i0: ∀T:Sto,ixF (.val (.loc lc)) (.val (.int 0)) (B++T)=.ok (.val (.int c0)) (B++T):=λT=>zAO (by rw [getElem?_append_left (gS0.mp H.c).1];exact H.c) (zCD (k:=0) (by rw [getElem?_map,h0];rfl))
 have i0':=i0 []
 rw [aN]at i0'
 have hm0:=eN0 c0 (show(n:Int)≠0 by omega)
 have hm1:=eL c0 (show(0:Int)<n by omega)
 obtain⟨m,hm⟩: ∃m:Nat,(m:Int)=1+c0 % (n:Int):=⟨(1+c0 % (n:Int)).toNat,by omega⟩
 have hmn:1<=m/\m<=n:=by omega
 have f1:bH (QV lc ts S.length lv none none none none none none none none) B=.ok (.next (QV lc ts S.length lv (some (zG m)) none none none none none none none)) B:=by
  unfold bH
  simp? [i0',zAD,lM, <-hn,mod_lit (b:=(n:Int)) (by omega), <-hm]
 obtain⟨ord0,ho0⟩: ∃o:List Nat,o=(List.range n).map λk:Nat=>((c0 / 4+(k:Int)) % (n:Int)).toNat:=⟨_,rfl⟩
 have hnd0:ord0.Nodup:=by rw [ho0];exact yPZ (c0 / 4) (by omega) (by omega)
 have hlt0: ∀o∈ord0,o<n:=λo ho=>by
  rw [ho0]at ho
  obtain⟨k,_,rfl⟩:=mM.mp ho
  have:=eN0 (c0 / 4+(k:Int)) (show(n:Int)≠0 by omega)
  have:=eL (c0 / 4+(k:Int)) (show(0:Int)<n by omega)
  omega
 have hl0:ord0.length=n:=by rw [ho0,lM,length_range]
 have hco:xE (gNm 0) nS jD [none,some (.loc lc),some (.tup (ts.map tbl))] [] ((List.range n).map zG) B=.ok (ord0.map zG) B:=by
  rw [ho0,map_map]
  refine zAG (yU _) λk _=>⟨[some (zG k),some (.loc lc),some (.tup (ts.map tbl))],rfl,rfl,?_⟩
  have:=eN0 (c0 / 4+(k:Int)) (show(n:Int)≠0 by omega)
  unfold jD
  simp? [i0',yC (b:=4) (by decide) (by decide),zAD,lM, <-hn,mod_lit (b:=(n:Int)) (by omega)]
  show R.ok (Er.val (.int ((c0 / 4+(k:Int)) % (n:Int)))) B=R.ok (Er.val (.int (((c0 / 4+(k:Int)) % (n:Int)).toNat:Int))) B
  rw [Int.toNat_of_nonneg this]
 have hb: ∀a b c d e f g h i j k l:Option MV,blk 1 [0,1] [a,b,c,d,e,f,g,h,i,j,k,l]=[none,a,b]:=λ_ _ _ _ _ _ _ _ _ _ _ _=>rfl
 have hrl:(List.range n).length<1000000:=by rw [length_range];omega
 have f2:bI (QV lc ts S.length lv (some (zG m)) none none none none none none none) B=.ok (.next (QV lc ts S.length lv (some (zG m)) (some (.loc B.length)) none none none none none none)) (B++[.lst (ord0.map zG)]):=by
  unfold bI
  simp? [zAD,lM, <-hn,zUV (n:=n) (by omega),hrl,hb,hco]
 obtain⟨ord,f3,hnd,hlt,hol⟩: ∃ord:List Nat,bK (QV lc ts S.length lv (some (zG m)) (some (.loc B.length)) none none none none none none) (B++[.lst (ord0.map zG)])=.ok (.next (QV lc ts S.length lv (some (zG m)) (some (.loc B.length)) none none none none none none)) (B++[.lst (ord.map zG)])/\ord.Nodup/\(∀o∈ord,o<n)/\ord.length=n:=by
  unfold bK
  by_cases h2:c0 / 16 % 2=1
  ·refine⟨ord0.reverse,?_,List.pairwise_reverse.mpr (hnd0.imp λh e=>h e.symm),λo ho=>hlt0 o (List.mem_reverse.mp ho),by rw [List.length_reverse,hl0]⟩
   simp? [i0,yC (b:=16) (by decide) (by decide),mod_lit (show(0:Int)<2 by decide),h2,decide_true,hX (zL B (.lst (ord0.map zG))),yAC (zL B (.lst (ord0.map zG))),xT]
   rw [List.map_reverse]
  ·refine⟨ord0,?_,hnd0,hlt0,hl0⟩
   simp? [i0,yC (b:=16) (by decide) (by decide),mod_lit (show(0:Int)<2 by decide),h2,decide_false,fT,iF]
 have f4:bL (QV lc ts S.length lv (some (zG m)) (some (.loc B.length)) none none none none none none) (B++[.lst (ord.map zG)])=.ok (.next (QA lc ts S.length lv (some (zG m)) B.length none none none)) (ZZ B ord [] []):=by
  unfold bL
  simp? [bok]
  rw [lA,lS,aA]
  rfl
 obtain⟨as,T,q,nb,w,e5,g1,g2,g3⟩:=yGL (ts:=ts) (ord:=ord) H hts (λo ho=>by rw [<-hn];exact hlt o ho) (some (zG m)) m 0 [] [] none none none (by omega) (by omega) rfl rfl (λa ha=>by simp at ha)
 rw [zero_add]at g1 g2
 have f5:bM (QA lc ts S.length lv (some (zG m)) B.length none none none) (ZZ B ord [] [])=.ok (.next (QA lc ts S.length lv (some (zG m)) B.length q nb w)) (ZZ B ord as T):=by
  unfold bM
  simp? [zUV (n:=m) (by omega)]
  rw [List.range_eq_range']
  exact e5
 have hQ:QOk ts as:=⟨λa ha=>(g3 a ha).2.1,by omega,λa ha=>(g3 a ha).1,by rw [g2];exact hnd.sublist (List.take_sublist _ _)⟩
 obtain⟨ys,hyl,e6⟩:=zVC hx4 (ZZ B ord as T) (zz_a B ord as T) λa ha=>(g3 a ha).2.2
 obtain⟨Z,hZ⟩: ∃Z:Sto,Z=ZZ B ord as T:=⟨_,rfl⟩
 rw [<-hZ]at e6 f5
 have hZB: ∀{k o},B[k]? =some o->Z[k]? =some o:=λh=>by rw [hZ];exact zSC h _ _ _
 have f6:bN (QA lc ts S.length lv (some (zG m)) B.length q nb w) Z=.ok (.next (QV lc ts S.length lv (some (zG m)) (some (.loc B.length)) (some (.loc (B.length+1))) q nb w (some (.loc Z.length)) none)) (Z++[.lst (ys.map MV.str)]):=by
  unfold bN
  simp? [e6]
 have oldZ: ∀{k o}(U:Sto),Z[k]? =some o->(Z++U)[k]? =some o:=λU h=>by rw [getElem?_append_left (gS0.mp h).1];exact h
 have i1: ∀U:Sto,ixF (.val (.loc lc)) (.val (.int 1)) (Z++U)=.ok (.val (.int c1)) (Z++U):=λU=>zAO (oldZ U (hZB H.c)) (zCD (k:=1) (by rw [getElem?_map,h1];rfl))
 have hl4: ∀(a b c d:MV)(S:Sto),bT [.val a,.val b,.val c,.val d] S=.ok (.new [a,b,c,d]) S:=λa b c d S=>zEZ (by simp)
 obtain⟨out,hco,hol2,hom⟩:=zVD (S:=Z++[.lst (ys.map MV.str)]) (gf:=gNm 0) (cf:=jI) (ef:=jK) (ρb:=[none,some (.loc lc),some (.loc Z.length)]) (gs:=[]) (P:=λy=> ∃x:List Nat,y=.str x) (yU _) (ds:=(List.range ys.length).map zG) λd hd=>by
  obtain⟨k,hk,rfl⟩:=mM.mp hd
  have hk:=mem_range.mp hk
  obtain⟨p,hp⟩:=zGD (xs:=([1,3,9,27]:List Int)) (i:=(k:Int)) (by omega) (by show(k:Int)<4;omega)
  have hp0:0<p/\p<1073741824:=zGE (P:=λp:Int=>0<p/\p<1073741824) (by decide) hp
  have hip: ∀S:Sto,ixF (.new [.int 1,.int 3,.int 9,.int 27]) (.val (.int (k:Int))) S=.ok (.val (.int p)) S:=λS=>zWO (by
   have:=zGJ MV.int [1,3,9,27] (k:Int)
   rw [hp]at this
   exact this)
  refine⟨[some (zG k),some (.loc lc),some (.loc Z.length)],decide (c1 / p % 3=1),.str ys[k],rfl,?_,?_,⟨_,rfl⟩⟩
  ·unfold jI
   simp? [i1,hl4,hip,yC hp0.1 hp0.2,mod_lit (show(0:Int)<3 by decide)]
  ·unfold jK
   simp? [zAO (zL Z (.lst (ys.map MV.str))) (zCD (k:=k) (x:=.str ys[k]) (by rw [getElem?_map,gE0 hk];rfl))]
 rw [lM,length_range]at hol2
 have hb2: ∀a b c d e f g h i j k l:Option MV,blk 1 [0,10] [a,b,c,d,e,f,g,h,i,j,k,l]=[none,a,k]:=λ_ _ _ _ _ _ _ _ _ _ _ _=>rfl
 have hrl2:(List.range ys.length).length<1000000:=by rw [length_range];omega
 obtain⟨Y,hY⟩: ∃Y:Sto,Y=Z++[.lst (ys.map MV.str)]:=⟨_,rfl⟩
 have f7:bO (QV lc ts S.length lv (some (zG m)) (some (.loc B.length)) (some (.loc (B.length+1))) q nb w (some (.loc Z.length)) none) Y=.ok (.next (QV lc ts S.length lv (some (zG m)) (some (.loc B.length)) (some (.loc (B.length+1))) q nb w (some (.loc Z.length)) (some (.loc Y.length)))) (Y++[.lst out]):=by
  unfold bO
  rw [hY]
  simp? [zGF (zL Z (.lst (ys.map MV.str))),lM,zUV (n:=ys.length) (by omega),hrl2,hb2,hco]
 have i1Y: ∀U:Sto,ixF (.val (.loc lc)) (.val (.int 1)) (Y++U)=.ok (.val (.int c1)) (Y++U):=λU=>by
  rw [hY,aA]
  exact i1 _
 obtain⟨out2,f8,hom2⟩: ∃out2:List MV,bP (QV lc ts S.length lv (some (zG m)) (some (.loc B.length)) (some (.loc (B.length+1))) q nb w (some (.loc Z.length)) (some (.loc Y.length))) (Y++[.lst out])=.ok (.next (QV lc ts S.length lv (some (zG m)) (some (.loc B.length)) (some (.loc (B.length+1))) q nb w (some (.loc Z.length)) (some (.loc Y.length)))) (Y++[.lst out2])/\ ∀y∈out2, ∃x:List Nat,y=.str x:=by
  unfold bP
  by_cases h2:c1 / 81 % 2=1
  ·refine⟨out.reverse,?_,λy hy=>hom y (List.mem_reverse.mp hy)⟩
   simp? [i1Y,yC (b:=81) (by decide) (by decide),mod_lit (show(0:Int)<2 by decide),h2,decide_true,hX (zL Y (.lst out)),yAC (zL Y (.lst out)),xT]
  ·refine⟨out,?_,hom⟩
   simp? [i1Y,yC (b:=81) (by decide) (by decide),mod_lit (show(0:Int)<2 by decide),h2,decide_false,fT,iF]
 obtain⟨hs,hhs⟩:=zVE (o:=out2.take 2) λy hy=>hom2 y (mem_of_mem_take hy)
 refine⟨hs,as,hQ,?_⟩
 have hya:(Y++[.lst out2])[B.length+1]? =some (.lst (as.map aM)):=by
  rw [hY,aA]
  exact oldZ _ (by rw [hZ];exact zz_a _ _ _ _)
 have f9:bQ (QV lc ts S.length lv (some (zG m)) (some (.loc B.length)) (some (.loc (B.length+1))) q nb w (some (.loc Z.length)) (some (.loc Y.length))) (Y++[.lst out2])=.ok (.ret (.val (qM hs as))) (Y++[.lst out2]):=by
  unfold bQ
  simp? [zGK (zL Y (.lst out2)),zBV _ 2 (show(0:Int)<=2 by decide),show(2:Int).toNat=2 from rfl,show∀(ds:List MV)(S:Sto),zDL [.new ds] S=.ok (.val (.tup ds)) S from λ_ _=>rfl,zPV hya,tup2]
  rw [hhs]
 obtain⟨V,hV⟩: ∃V:Sto,Y++[.lst out2]=S++V:=⟨_,by rw [hY,hZ,hB];simp only [ZZ,aA];rfl⟩
 have hF:wV [.loc lc,.tup (ts.map tbl),.loc S.length,.loc lv] B=.ok (.val (qM hs as)) (S++V):=by
  show xF (nM (QV lc ts S.length lv none none none none none none none none) B)=_
  unfold nM
  rw [zD f1,zD f2,zD f3,zD f4,zD f5,zD f6, <-hY,zD f7,zD f8,f9,hV]
  rfl
 have hE:zN [.val (.loc lc),.val (.tup (ts.map tbl)),.new (xs.map MV.str),.val (.loc lv)] S=([.loc lc,.tup (ts.map tbl),.loc S.length,.loc lv],B):=by rw [hB];rfl
 refine zEX (T:=V) rfl (by rw [hE];exact hF) (zDM (wX λd hd=>?_)) (λl=>by simp)
 rcases mC.mp hd with rfl|hd
 ·exact zDM (zIN _ _)
 ·rw [mS.mp hd]
  exact zDM (am_lo hQ.at' _)
theorem rng2N{i j:Nat}(hi:i<=1000)(hj:j<=1000)(S:Sto):zTC [.val (.int (i:Int)),.val (.int (j:Int))] S=.ok ⟨((List.range (j - i)).map (i+·)).map zG,[]⟩ S:=by
 rw [yIV (by omega),map_map,show((j:Int) - (i:Int)).toNat=j - i by omega]
 rfl
theorem yKW{S:Sto}{d:MV}{ys:List MV}(neg:Bool)(hd:pd d=true)(h: ∀y∈ys,pd y=true/\dpt y<40):inF neg (.val d) (.val (.tup ys)) S=.ok (.val (.bl (if neg=true then !decide (d∈ys)else decide (d∈ys)))) S:=by
 have e1:itemsOf S (.val (.tup ys))=some ys:=rfl
 rw [zZH]
 unfold zHE
 dsimp only
 rw [e1]
 dsimp only
 rw [zIL hd h]
 dsimp only
 have ha:(ys.map λy=>decide (y=d)).any id=decide (d∈ys):=by
  rw [List.any_map]
  by_cases hm:d∈ys
  ·rw [dT0 hm,any_eq_true]
   exact⟨d,hm,by simp⟩
  ·rw [dF0 hm,any_eq_false]
   intro y hy
   simp only [Function.comp,id,decide_eq_true_eq]
   rintro rfl
   exact hm hy
 rw [ha]
def Bad(hs:List (List Nat))(tms:List MV)(κ:Nat)(d:MV):Prop:= ∃x,d=.tup [.str VAR,.str x]/\d∉tms.take κ/\x∉hs
abbrev KD(ts:List (Int×Int))(q:MV)(t m k:Option MV):Rho:=[some (.tup (ts.map tbl)),some q,t,m,k]
section
variable{ts:List (Int×Int)}{hs:List (List Nat)}{qd:MV}
theorem yKX{t:Int}{p:Int×Int}(hp:atI ts t=some p){κ:Nat}(hκ:(κ:Int)=p.2){tms:List MV}(hT: ∀d∈tms,zRU d){k:Nat}{d:MV}(hd:tms[k]? =some d)(S:Sto):
  xL (KD ts (.tup [.tup (hs.map MV.str),qd]) (some (.int t)) (some (.tup tms)) (some (zG k))) S=.ok (.ret (.val (.bl false))) S\/
  (xL (KD ts (.tup [.tup (hs.map MV.str),qd]) (some (.int t)) (some (.tup tms)) (some (zG k))) S=.ok (.next (KD ts (.tup [.tup (hs.map MV.str),qd]) (some (.int t)) (some (.tup tms)) (some (zG k)))) S/\ ¬Bad hs tms κ d):=by
 have hi:ixF (.val (.tup tms)) (.val (zG k)) S=.ok (.val d) S:=ix_tup (zCD hd)
 have ht:ixF (.val (.tup (ts.map tbl))) (.val (.int t)) S=.ok (.val (tbl p)) S:=ix_tup (by rw [zGJ,hp];rfl)
 have ht1:ixF (.val (tbl p)) (.val (.int 1)) S=.ok (.val (.int p.2)) S:=rfl
 unfold xL zDC
 rcases hT d (mem_of_getElem? hd)with⟨x,rfl⟩|⟨v,hv,rfl⟩
 ·have zGM:=yKW (S:=S) true (zUL (.inl ⟨x,rfl⟩)).1 (ys:=tms.take κ) λy hy=>by
   have:=zUL (hT y (mem_of_mem_take hy))
   exact⟨this.1,by omega⟩
  have zJD:=yFH (S:=S) (x:=x) (fs:=hs) true
  rw [iP rfl]at zGM zJD
  have hcut:gI tms none (some p.2)=tms.take κ:=by rw [<-hκ,zPX]
  by_cases h1:MV.tup [.str VAR,.str x]∈tms.take κ
  ·rw [dT0 h1]at zGM
   refine .inr ⟨?_,λ⟨y,e,hn,_⟩=>hn h1⟩
   simp? [hi,zNH,zUM,ht,ht1,zIM,hcut,zGM,Bool.not_true,fT,iF]
  ·rw [dF0 h1]at zGM
   by_cases h2:x∈hs
   ·rw [dT0 h2]at zJD
    refine .inr ⟨?_,λ⟨y,e,_,hn⟩=>?_⟩
    ·simp? [hi,zNH,zGO,zUM,ht,ht1,zIM,hcut,zGM,Bool.not_false,zJD,Bool.not_true,fT,iF]
    ·cases e
     exact hn h2
   ·rw [dF0 h2]at zJD
    refine .inl ?_
    simp? [hi,zNH,zGO,zUM,ht,ht1,zIM,hcut,zGM,Bool.not_false,zJD]
 ·refine .inr ⟨?_,λ⟨y,e,_⟩=>?_⟩
  ·simp? [hi,zNH,yFE,fT,iF]
  ·cases e
theorem yLX{t:Int}{p:Int×Int}(hp:atI ts t=some p){κ:Nat}(hκ:(κ:Int)=p.2){tms:List MV}(hT: ∀d∈tms,zRU d)(S:Sto): ∀(ks:List Nat),(∀k∈ks,k<tms.length)-> ∀o:Option MV,
  wK (gNm 4) xL [] (ks.map zG) (KD ts (.tup [.tup (hs.map MV.str),qd]) (some (.int t)) (some (.tup tms)) o) S=.ok (.ret (.val (.bl false))) S\/
  ((∃o',wK (gNm 4) xL [] (ks.map zG) (KD ts (.tup [.tup (hs.map MV.str),qd]) (some (.int t)) (some (.tup tms)) o) S=.ok (.next (KD ts (.tup [.tup (hs.map MV.str),qd]) (some (.int t)) (some (.tup tms)) o')) S)/\ ∀k∈ks, ∀d,tms[k]? =some d-> ¬Bad hs tms κ d)
 |[],_,o=>.inr ⟨⟨o,rfl⟩,λk hk=>by simp at hk⟩
 |k::ks,hk,o=>by
  have hd:=gE0 (hk k mF0)
  rw [map_cons]
  rcases yKX (hs:=hs) (qd:=qd) hp hκ hT hd S with e|⟨e,hb⟩
  ·exact .inl (zQS (ρ0:=KD ts (.tup [.tup (hs.map MV.str),qd]) (some (.int t)) (some (.tup tms)) (some (zG k))) (S0:=S) rfl e)
  ·rw [zT (ρ0:=KD ts (.tup [.tup (hs.map MV.str),qd]) (some (.int t)) (some (.tup tms)) (some (zG k))) (S0:=S) rfl e (yU _)]
   rcases yLX hp hκ hT S ks (λj hj=>hk j (mO _ hj)) (some (zG k))with e2|⟨e2,hb2⟩
   ·exact .inl e2
   ·refine .inr ⟨e2,λj hj d hjd=>?_⟩
    rcases mC.mp hj with rfl|hj
    ·rw [hd]at hjd
     cases hjd
     exact hb
    ·exact hb2 j hj d hjd
def KyA(ts:List (Int×Int))(hs:List (List Nat))(a:Int×List MV):Prop:= ∀x∈frL hs a,x∈kyL ts hs a
theorem yGN(hts: ∀p∈ts,1<=p.1/\p.1<=4/\0<=p.2/\p.2<=p.1)(S:Sto): ∀(as:List (Int×List MV)),(∀a∈as,AOk ts a)-> ∀t m o:Option MV,
  wK (gTp 2 (yF (gNm 2) (yF (gNm 3) dF))) wH [] (as.map aM) (KD ts (.tup [.tup (hs.map MV.str),qd]) t m o) S=.ok (.ret (.val (.bl false))) S\/
  ((∃t' m' o',wK (gTp 2 (yF (gNm 2) (yF (gNm 3) dF))) wH [] (as.map aM) (KD ts (.tup [.tup (hs.map MV.str),qd]) t m o) S=.ok (.next (KD ts (.tup [.tup (hs.map MV.str),qd]) t' m' o')) S)/\ ∀a∈as,KyA ts hs a)
 |[],_,t,m,o=>.inr ⟨⟨t,m,o,rfl⟩,λa ha=>by simp at ha⟩
 |a::as,hA,t,m,o=>by
  have ha:=hA a mF0
  obtain⟨p,hp,_⟩:=ha.tb
  have hpp:=hts p (zGE (P:=λp=>p∈ts) (λe he=>he) hp)
  obtain⟨κ,hκ⟩: ∃κ:Nat,(κ:Int)=p.2:=⟨p.2.toNat,by omega⟩
  have hal:=ha.len
  have ht:ixF (.val (.tup (ts.map tbl))) (.val (.int a.1)) S=.ok (.val (tbl p)) S:=ix_tup (by rw [zGJ,hp];rfl)
  have ht1:ixF (.val (tbl p)) (.val (.int 1)) S=.ok (.val (.int (κ:Int))) S:=by rw [hκ];rfl
  have eb: ∀r,wK (gNm 4) xL [] (((List.range (a.2.length - κ)).map (κ+·)).map zG) (KD ts (.tup [.tup (hs.map MV.str),qd]) (some (.int a.1)) (some (.tup a.2)) o) S=r->wH (KD ts (.tup [.tup (hs.map MV.str),qd]) (some (.int a.1)) (some (.tup a.2)) o) S=r:=λr e=>by
   unfold wH zDD
   simp? [ht,ht1,zAD,rng2N (i:=κ) (j:=a.2.length) (by omega) (by omega)]
   exact e
  rw [map_cons]
  rcases yLX (hs:=hs) (qd:=qd) hp hκ ha.tm S ((List.range (a.2.length - κ)).map (κ+·)) (λk hk=>by
   obtain⟨j,hj,rfl⟩:=mM.mp hk
   have:=mem_range.mp hj
   omega) o with e|⟨⟨o1,e⟩,hb⟩
  ·exact .inl (zQS (ρ0:=KD ts (.tup [.tup (hs.map MV.str),qd]) (some (.int a.1)) (some (.tup a.2)) o) (S0:=S) rfl (eb _ e))
  ·rw [zT (ρ0:=KD ts (.tup [.tup (hs.map MV.str),qd]) (some (.int a.1)) (some (.tup a.2)) o) (S0:=S) rfl (eb _ e) (yU _)]
   rcases yGN hts S as (λb hb=>hA b (mO _ hb)) (some (.int a.1)) (some (.tup a.2)) o1 with e2|⟨e2,hb2⟩
   ·exact .inl e2
   ·refine .inr ⟨e2,λb hbm=>?_⟩
    rcases mC.mp hbm with rfl|hbm
    ·intro x hx
     rw [zNJ]at hx
     obtain⟨d,hdm,hdx⟩:=mem_filterMap.mp hx.1
     have hde:d=.tup [.str VAR,.str x]:=by
      rcases ha.tm d hdm with⟨y,rfl⟩|⟨v,hv,rfl⟩
      ·rw [yFD]at hdx
       cases hdx
       rfl
      ·rcases hv with⟨i,rfl⟩|⟨y,rfl⟩
       ·cases hdx
       ·simp [vn]at hdx
     unfold kyL
     rw [hp,zNJ]
     refine⟨mem_filterMap.mpr ⟨d,?_,hdx⟩,hx.2⟩
     show d∈b.2.take p.2.toNat
     rw [show p.2.toNat=κ by omega]
     obtain⟨j,hj⟩:=List.mem_iff_getElem?.mp hdm
     by_cases hjk:j<κ
     ·exact mem_of_getElem? (show(b.2.take κ)[j]? =some d by rw [getElem?_take_of_lt hjk];exact hj)
     ·have hjl:=(gS0.mp hj).1
      exact Classical.byContradiction λz=>hb j (mM.mpr ⟨j - κ,mem_range.mpr (by omega),by omega⟩) d hj ⟨x,hde,z,hx.2⟩
    ·exact hb2 b hbm
theorem zVF{as:List (Int×List MV)}(hts: ∀p∈ts,1<=p.1/\p.1<=4/\0<=p.2/\p.2<=p.1)(hA: ∀a∈as,AOk ts a)(S:Sto): ∃b:Bool,zZ 2 zAC [.val (.tup (ts.map tbl)),.val (qM hs as)] S=.ok (.val (.bl b)) S/\(b=true-> ∀a∈as,KyA ts hs a):=by
 have e0: ∀r,wK (gTp 2 (yF (gNm 2) (yF (gNm 3) dF))) wH [] (as.map aM) (KD ts (qM hs as) none none none) S=r->zBL (KD ts (qM hs as) none none none) S=r:=λr e=>by
  unfold zBL
  simp? [zGO,zNI]
  exact e
 rcases yGN (hs:=hs) (qd:=.tup (as.map aM)) hts S as hA none none none with e|⟨⟨t,m,o,e⟩,hb⟩
 ·refine⟨false,zRT rfl ?_,λz=>by cases z⟩
  show xF (bR (KD ts (qM hs as) none none none) S)=_
  unfold bR
  rw [nW (e0 _ e)]
  rfl
 ·refine⟨true,zRT rfl ?_,λ_=>hb⟩
  show xF (bR (KD ts (qM hs as) none none none) S)=_
  unfold bR
  rw [zD (e0 _ e)]
  rfl
theorem zXF{as:List (Int×List MV)}(h: ∀a∈as,KyA ts hs a){i j:Nat}(hr:RcQ ts hs as i j):j=i:=by
 induction hr with
 |self=>rfl
 |@step x j k hj hk h1 h2 h3 ih=>
  subst ih
  refine absurd (Kn.key ?_) h3
  unfold Fq at h1
  unfold Kq
  cases e:as[j]? with
  |none=>rw [e]at h1;simp at h1
  |some a=>
   rw [e]at h1
   exact h a (mem_of_getElem? e) x h1
end
theorem yKY(ns:List Int)(k:Int)(hk:0<=k)(S:Sto): ∃c,zZ 2 zU [.val (.scr (ns.map MV.int)),.val (.int k)] S=.ok (.val (.int c)) S:=by
 have hlen:zDK [.val (.scr (ns.map MV.int))] S=.ok (.val (.int ns.length)) S:=by
  show R.ok (Er.val (.int (((ns.map MV.int).length:Nat):Int))) S=_
  rw [lM]
 have e1:cC [some (.scr (ns.map MV.int)),some (.int k)] S=if decide (k<ns.length)=true then(ixF (.val (.scr (ns.map MV.int))) (.val (.int k)) S).bind λr S1=>.ok (.ret r) S1 else .ok (.next [some (.scr (ns.map MV.int)),some (.int k)]) S:=by
  unfold cC
  simp? [hlen,lt_int]
 have fin: ∀c,zU [.scr (ns.map MV.int),.int k] S=.ok (.val (.int c)) S-> ∃c,zZ 2 zU [.val (.scr (ns.map MV.int)),.val (.int k)] S=.ok (.val (.int c)) S:=λc h=>⟨c,zCV rfl h (zCI _ _) (λl=>by simp)⟩
 have hs:yL ["_law_script","_law_k"] [.scr (ns.map MV.int),.int k]=[some (.scr (ns.map MV.int)),some (.int k)]:=rfl
 by_cases hlt:k<ns.length
 ·obtain⟨d,hd⟩:=zGD (xs:=ns.map MV.int) (i:=k) hk (by rw [lM];exact hlt)
  obtain⟨c,rfl⟩: ∃c,d=.int c:=zGE (P:=λd=> ∃c,d=.int c) (λe he=>by obtain⟨c,_,rfl⟩:=mM.mp he;exact⟨c,rfl⟩) hd
  have hix:ixF (.val (.scr (ns.map MV.int))) (.val (.int k)) S=.ok (.val (.int c)) S:=by
   show(match atI (ns.map MV.int) k with |some d=>R.ok (Er.val d) S|none=>.no)=_
   rw [hd]
  refine fin c ?_
  rw [dT0 hlt,iP rfl,hix,bok]at e1
  unfold zU zAX
  rw [hs,nW e1]
  rfl
 ·refine fin 0 ?_
  rw [dF0 hlt,iN xF0]at e1
  unfold zU zAX
  rw [hs,zD e1]
  rfl
theorem yKZ(ds:List MV)(S:Sto):neF (.new ds) (.new []) S=.ok (.val (.bl !ds.isEmpty)) S:=by
 cases ds<;>rfl
theorem yLA{L:List Pr}{p:Pr}(h:rgP L=some p):p∈L/\(p.2,p.1)∈L:=by
 unfold rgP at h
 have h2:=List.find?_some (p:=λp:Pr=>decide ((p.2,p.1)∈L)) h
 exact⟨List.mem_of_find?_eq_some h,of_decide_eq_true h2⟩
theorem zVG: ∀{o:List MV},(∀y∈o, ∃i:Int,y=.int i)-> ∃ys:List Int,o=ys.map MV.int
 |[],_=>⟨[],rfl⟩
 |a::o,h=>by
  obtain⟨x,rfl⟩:=h a mF0
  obtain⟨ys,rfl⟩:=zVG λy hy=>h y (mO _ hy)
  exact⟨x::ys,rfl⟩
theorem eq_nil{S:Sto}{l:Nat}{ds:List MV}(hS:S[l]? =some (.lst ds)):eqF (.val (.loc l)) (.new []) S=.ok (.val (.bl ds.isEmpty)) S:=by
 have e:vwE S (.val (.loc l))=some (.ls ds):=by
  show(jP S (.val (.loc l))).map Vw.ls=_
  rw [zCW hS];rfl
 unfold eqF zMC
 rw [e]
 cases ds with
 |nil=>rfl
 |cons d ds=>rfl
abbrev LW(sc:List MV)(a b c d e f g h i j k:Option MV):Rho:=[some (.scr sc),a,b,c,d,e,f,g,h,i,j,k]
abbrev LX(sc:List MV)(ts:List (Int×Int))(q f g h i j k:Option MV):Rho:=LW sc (some (.loc 0)) (some (.tup (ts.map tbl))) (some (.loc 1)) (some (.loc 2)) q f g h i j k
abbrev LZ(sc:List MV)(ts:List (Int×Int))(q:MV)(g h i j k:Option MV):Rho:=LX sc ts (some q) (some (.loc 3)) g h i j k
def Tri(P:List Pr):Prop:= ∀p∈P, ∀q∈P,q.1=p.2->q.2≠p.1->(p.1,q.2)∈P\/(p.2,p.1)∈P
section
variable{sc:List MV}{ts:List (Int×Int)}{qq:MV}{P:List Pr}{S:Sto}
theorem zNO(hP:S[3]? =some (.lst (P.map prM)))(neg:Bool)(p:Pr):inF neg (.val (.tup [.int (p.1:Int),.int (p.2:Int)])) (.val (.loc 3)) S=.ok (.val (.bl (if neg=true then !decide (p∈P)else decide (p∈P)))) S:=by
 have:=zGI neg hP (zUY [p] (prM p) mF0).1 (zUY P)
 rw [dec_is (yFX (p:=p) (T:=P))]at this
 exact this
theorem yLB(hP:S[3]? =some (.lst (P.map prM)))(hT:Tri P){p q:Pr}(hp:p∈P)(hq:q∈P):zLG (LZ sc ts qq (some (zG p.1)) (some (zG p.2)) (some (zG q.1)) (some (zG q.2)) none) S=.ok (.next (LZ sc ts qq (some (zG p.1)) (some (zG p.2)) (some (zG q.1)) (some (zG q.2)) none)) S:=by
 unfold zLG zPS
 by_cases h1:q.1=p.2
 ·have hh:(q.1:Int)=p.2:=by omega
  by_cases h2:q.2=p.1
  ·have hh2:(q.2:Int)=p.1:=by omega
   simp? [hh,decide_true,ne_int,hh2,Bool.not_true,fT,iF]
  ·have hh2: ¬(q.2:Int)=p.1:=by omega
   have zGM:=zNO hP true (p.1,q.2)
   have zJD:=zNO hP true (p.2,p.1)
   rw [iP rfl]at zGM zJD
   by_cases h3:(p.1,q.2)∈P
   ·rw [dT0 h3]at zGM
    simp? [hh,decide_true,ne_int,hh2,decide_false,Bool.not_false,tup2,zGM,Bool.not_true,fT,iF]
   ·rw [dF0 h3]at zGM
    rw [dT0 ((hT p hp q hq h1 h2).resolve_left h3)]at zJD
    simp? [hh,decide_true,ne_int,hh2,decide_false,Bool.not_false,tup2,zGM,zJD,Bool.not_true,fT,iF]
 ·have hh: ¬(q.1:Int)=p.2:=by omega
  simp? [hh,decide_false,fT,iF]
theorem yGO(hP:S[3]? =some (.lst (P.map prM)))(hT:Tri P){p:Pr}(hp:p∈P): ∀(Q:List Pr),(∀q∈Q,q∈P)-> ∀i j:Option MV, ∃i' j',wK (gTp 2 (yF (gNm 9) (yF (gNm 10) dF))) zLG [(3,P.map prM)] (Q.map prM) (LZ sc ts qq (some (zG p.1)) (some (zG p.2)) i j none) S=.ok (.next (LZ sc ts qq (some (zG p.1)) (some (zG p.2)) i' j' none)) S
 |[],_,i,j=>⟨i,j,rfl⟩
 |q::Q,hQ,i,j=>by
  obtain⟨i',j',e⟩:=yGO hP hT hp Q (λr hr=>hQ r (mO _ hr)) (some (zG q.1)) (some (zG q.2))
  refine⟨i',j',?_⟩
  rw [map_cons,zT (ρ0:=LZ sc ts qq (some (zG p.1)) (some (zG p.2)) (some (zG q.1)) (some (zG q.2)) none) (S0:=S) rfl (yLB hP hT hp (hQ q mF0)) (dI hP)]
  exact e
theorem yGP(hP:S[3]? =some (.lst (P.map prM)))(hT:Tri P): ∀(Q:List Pr),(∀q∈Q,q∈P)-> ∀g h i j:Option MV, ∃g' h' i' j',wK (gTp 2 (yF (gNm 7) (yF (gNm 8) dF))) zRI [(3,P.map prM)] (Q.map prM) (LZ sc ts qq g h i j none) S=.ok (.next (LZ sc ts qq g' h' i' j' none)) S
 |[],_,g,h,i,j=>⟨g,h,i,j,rfl⟩
 |q::Q,hQ,g,h,i,j=>by
  obtain⟨i1,j1,e1⟩:=yGO (sc:=sc) (ts:=ts) (qq:=qq) hP hT (hQ q mF0) P (λr hr=>hr) i j
  obtain⟨g',h',i',j',e⟩:=yGP hP hT Q (λr hr=>hQ r (mO _ hr)) (some (zG q.1)) (some (zG q.2)) i1 j1
  refine⟨g',h',i',j',?_⟩
  rw [map_cons,zT (ρ0:=LZ sc ts qq (some (zG q.1)) (some (zG q.2)) i j none) (ρ':=LZ sc ts qq (some (zG q.1)) (some (zG q.2)) i1 j1 none) (S0:=S) (S':=S) rfl (by
   unfold zRI zPT
   simp? [zDN hP]
   exact e1) (dI hP)]
  exact e
end
theorem yGQ(ns:List Int)(h:ns.length<=63): ∃S,zUF [.scr (ns.map MV.int)] []=.ok (.val (.bl true)) S:=by
 obtain⟨sc,hsc⟩: ∃sc,sc=ns.map MV.int:=⟨_,rfl⟩
 have cell: ∀(k:Int),0<=k-> ∀S, ∃c,zZ 2 zU [.val (.scr sc),.val (.int k)] S=.ok (.val (.int c)) S:=λk hk S=>by rw [hsc];exact yKY ns k hk S
 rw [<-hsc]
 obtain⟨c0,hc0⟩:=cell 0 (by decide) []
 obtain⟨ws,hw6,_,hws⟩:=yGF c0 []
 obtain⟨S1,hS1⟩: ∃S1:Sto,S1=[.lst (ws.map MV.str)]:=⟨_,rfl⟩
 have f1:zRJ (LW sc none none none none none none none none none none none) []=.ok (.next (LW sc (some (.loc 0)) none none none none none none none none none none)) S1:=by
  unfold zRJ
  simp? [hc0,hws]
  rw [hS1]
  rfl
 obtain⟨c1,hc1⟩:=cell 1 (by decide) S1
 obtain⟨ts,⟨ht1,ht4⟩,hts,htb⟩:=yBX c1 S1
 have f2:zRK (LW sc (some (.loc 0)) none none none none none none none none none none) S1=.ok (.next (LW sc (some (.loc 0)) (some (.tup (ts.map tbl))) none none none none none none none none none)) S1:=by
  unfold zRK
  simp? [hc1,htb]
 obtain⟨c2,hc2⟩:=cell 2 (by decide) S1
 have hw0:S1[0]? =some (.lst (ws.map MV.str)):=by rw [hS1];rfl
 have hcut:gI (ws.map MV.str) (some 4) none=(ws.drop 4).map MV.str:=by
  have:=zJT (ws.map MV.str) 4
  rw [map_drop]
  exact this
 obtain⟨vs,hv1,_,hvs,hva⟩:=yBY c2 (ws:=ws.drop 4) (by rw [length_drop,hw6]) S1
 obtain⟨S2,hS2⟩: ∃S2:Sto,S2=S1++[.lst vs]:=⟨_,rfl⟩
 have f3:zRL (LW sc (some (.loc 0)) (some (.tup (ts.map tbl))) none none none none none none none none none) S1=.ok (.next (LW sc (some (.loc 0)) (some (.tup (ts.map tbl))) (some (.loc 1)) none none none none none none none none)) S2:=by
  unfold zRL
  simp? [hc2,zGK hw0,hcut,hva]
  rw [hS2,hS1]
  rfl
 obtain⟨out,hco,hol,hom⟩:=zMJ (S:=S2) (gf:=gNm 0) (cf:=zPR) (ef:=zJP) (ρb:=[none,some (.scr sc)]) (gs:=[]) (P:=λy=> ∃i:Int,y=.int i) (yU _) (ds:=(List.range 6).map zG) λd hd=>by
  obtain⟨k,hk,rfl⟩:=mM.mp hd
  obtain⟨c,hc⟩:=cell (3+(k:Int)) (by omega) S2
  refine⟨[some (zG k),some (.scr sc)],.int c,rfl,rfl,?_,⟨c,rfl⟩⟩
  unfold zJP
  simp? [hc]
 obtain⟨cs,rfl⟩:=zVG hom
 rw [lM,lM,length_range]at hol
 obtain⟨S3,hS3⟩: ∃S3:Sto,S3=S2++[.lst (cs.map MV.int)]:=⟨_,rfl⟩
 have hb: ∀a b c d e f g h i j k l:Option MV,blk 1 [0] [a,b,c,d,e,f,g,h,i,j,k,l]=[none,a]:=λ_ _ _ _ _ _ _ _ _ _ _ _=>rfl
 have f4:zRM (LW sc (some (.loc 0)) (some (.tup (ts.map tbl))) (some (.loc 1)) none none none none none none none none) S2=.ok (.next (LX sc ts none none none none none none none)) S3:=by
  unfold zRM
  simp? [rng6,show((List.range 6).map zG).length<1000000 by decide,hb,hco]
  rw [hS3,hS2,hS1]
  rfl
 obtain⟨c9,hc9⟩:=cell 9 (by decide) S3
 obtain⟨p,hp⟩:=zGD (xs:=([4,2,3]:List Int)) (i:=c9 % 3) (eN0 _ (by decide)) (by have:=eL c9 (show(0:Int)<3 by decide);show c9 % 3<3;exact this)
 have hp0:2<=p/\p<=4:=zGE (P:=λp:Int=>2<=p/\p<=4) (by decide) hp
 have hip: ∀S:Sto,ixF (.new [.int 4,.int 2,.int 3]) (.val (.int (c9 % 3))) S=.ok (.val (.int p)) S:=λS=>zWO (by
  have:=zGJ MV.int [4,2,3] (c9 % 3)
  rw [hp]at this
  exact this)
 have hw3:S3[0]? =some (.lst (ws.map MV.str)):=by rw [hS3,hS2,hS1];rfl
 have hv3:S3[1]? =some (.lst vs):=by rw [hS3,hS2,hS1];rfl
 have hc3:S3[2]? =some (.lst (cs.map MV.int)):=by rw [hS3,hS2,hS1];rfl
 have hl3:S3.length=3:=by rw [hS3,hS2,hS1];rfl
 have hxl:(ws.take p.toNat).length=p.toNat:=by rw [lT,hw6];omega
 obtain⟨hs,as,Q,hq⟩:=yGM (lc:=2) (lv:=1) (xs:=ws.take p.toNat) (ts:=ts) hc3 hol (λz=>by rw [z,length_nil]at hxl;omega) (by omega) hv3 hv1 hvs ht1 ht4 hts
 have hcut2:gI (ws.map MV.str) none (some p)=(ws.take p.toNat).map MV.str:=by rw [zBV _ p (by omega),map_take]
 have f5:zRN (LX sc ts none none none none none none none) S3=.ok (.next (LX sc ts (some (qM hs as)) none none none none none none)) S3:=by
  unfold zRN
  simp? [hc9,mod_lit (show(0:Int)<3 by decide),hip,zGK hw3,hcut2,hq]
 obtain⟨P,hP⟩: ∃P,P=PQ ts hs as:=⟨_,rfl⟩
 have hsw:=zVA (hs:=hs) Q S3
 rw [<-hP]at hsw
 obtain⟨S4,hS4⟩: ∃S4:Sto,S4=S3++[.lst (P.map prM)]:=⟨_,rfl⟩
 have hP4: ∀U:Sto,(S4++U)[3]? =some (.lst (P.map prM)):=λU=>by rw [hS4, <-hl3,aA];exact zJV _ _ _
 have hP4':=hP4 []
 rw [aN]at hP4'
 have hl4:S4.length=4:=by rw [hS4,lA,hl3];rfl
 have f6:zRO (LX sc ts (some (qM hs as)) none none none none none none) S3=.ok (.next (LZ sc ts (qM hs as) none none none none none)) S4:=by
  unfold zRO
  simp? [hsw]
  rw [hS4,hl3]
 have hTri:Tri P:=λp hp q hq h1 h2=>by
  rw [hP]at hp hq ⊢
  have a:=zFS.mp hp
  have b:=zFS.mp hq
  rw [h1]at b
  rcases yPP (KqF ts hs as) a.1 a.2.2.2 a.2.2.1 b.2.2.2 with z|z
  ·exact .inl (zFS.mpr ⟨a.1,b.2.1,h2,z⟩)
  ·exact .inr (zFS.mpr ⟨a.2.1,a.1,λe=>a.2.2.1 e.symm,z⟩)
 obtain⟨g',h',i',j',e7⟩:=yGP (sc:=sc) (ts:=ts) (qq:=qM hs as) hP4' hTri P (λr hr=>hr) none none none none
 have f7:zRP (LZ sc ts (qM hs as) none none none none none) S4=.ok (.next (LZ sc ts (qM hs as) g' h' i' j' none)) S4:=by
  unfold zRP
  simp? [zDN hP4']
  exact e7
 have hring:=yKR (hs:=hs) Q S4
 rw [<-hP]at hring
 have inn: ∀S:Sto,zTF (.val .non) (.val .non) S=.ok (.val (.bl true)) S:=λ_=>rfl
 have inl: ∀(l:Nat)(S:Sto),zTF (.val (.loc l)) (.val .non) S=.ok (.val (.bl false)) S:=λ_ _=>rfl
 have yBI:as.length=1->P=[]:=λh1=>by
  cases e:P with
  |nil=>rfl
  |cons p l=>
   have:p∈PQ ts hs as:=by rw [<-hP,e];exact mF0
   have:=zFS.mp this
   omega
 have hkey:(∀a∈as,KyA ts hs a)->P=[]:=λhk=>by
  cases e:P with
  |nil=>rfl
  |cons p l=>
   have:p∈PQ ts hs as:=by rw [<-hP,e];exact mF0
   have:=zFS.mp this
   exact absurd (zXF hk this.2.2.2) this.2.2.1
 suffices hmain: ∃S,xF (zZC (LW sc none none none none none none none none none none none) [])=.ok (.val (.bl true)) S from hmain
 have fin: ∀(o:Option MV)(S5:Sto),zLH (LZ sc ts (qM hs as) g' h' i' j' none) S4=.ok (.next (LZ sc ts (qM hs as) g' h' i' j' o)) S5->zO dC zII (LZ sc ts (qM hs as) g' h' i' j' o) S5=.ok (.ret (.val (.bl true))) S5-> ∃S,xF (zZC (LW sc none none none none none none none none none none none) [])=.ok (.val (.bl true)) S:=λo S5 f8 e=>⟨S5,by
  unfold zZC
  rw [zD f1,zD f2,zD f3,zD f4,zD f5,zD f6,zD f7,zD f8,e]
  rfl⟩
 cases hr:rgP P with
 |none=>
  rw [hr]at hring
  have hring:zZ 2 zJN [.val (.tup (ts.map tbl)),.val (qM hs as)] S4=.ok (.val .non) S4:=hring
  refine fin (some .non) S4 (by
   unfold zLH
   simp? [hring]) ?_
  obtain⟨b,hb,hbk⟩:=zVF (hs:=hs) hts Q.at' S4
  have done:P=[]->(AJ (aJ (dJ zTF (vJ 11) (kJ .non)) (dJ eqF (vJ 6) (bJ wJ bT)))) (LZ sc ts (qM hs as) g' h' i' j' (some .non)) S4=.ok (.ret (.val (.bl true))) S4:=λhn=>by
   have he:=eq_nil hP4'
   rw [hn,map_nil]at he
   simp? [inn,andF,he]
   rfl
  by_cases h1:as.length=1
  ·have e9:dC (LZ sc ts (qM hs as) g' h' i' j' (some .non)) S4=.ok (.ret (.val (.bl true))) S4:=by
    unfold dC
    have hh:(as.length:Int)=1:=by omega
    rw [<-done (yBI h1)]
    simp? [zGO,zAD,lM,hh,decide_true]
   rw [nW e9]
  ·have hh: ¬(as.length:Int)=1:=by omega
   cases b with
   |true=>
    have e9:dC (LZ sc ts (qM hs as) g' h' i' j' (some .non)) S4=.ok (.ret (.val (.bl true))) S4:=by
     unfold dC
     rw [<-done (hkey (hbk rfl))]
     simp? [zGO,zAD,lM,hh,decide_false,hb,fT,iF]
    rw [nW e9]
   |false=>
    have e9:dC (LZ sc ts (qM hs as) g' h' i' j' (some .non)) S4=.ok (.next (LZ sc ts (qM hs as) g' h' i' j' (some .non))) S4:=by
     unfold dC
     simp? [zGO,zAD,lM,hh,decide_false,hb,fT,iF]
    rw [zD e9]
    unfold zII
    simp? [inn,orF]
 |some p=>
  obtain⟨g1,g2⟩:=yLA hr
  rw [hr]at hring
  have hring:zZ 2 zJN [.val (.tup (ts.map tbl)),.val (qM hs as)] S4=.ok (.new [zG p.1,zG p.2]) S4:=hring
  obtain⟨S5,hS5⟩: ∃S5:Sto,S5=S4++[.lst [zG p.1,zG p.2]]:=⟨_,rfl⟩
  have hP5:S5[3]? =some (.lst (P.map prM)):=by rw [hS5];exact hP4 _
  refine fin (some (.loc 4)) S5 (by
   unfold zLH
   simp? [hring]
   rw [hS5,hl4]) ?_
  obtain⟨b,hb,hbk⟩:=zVF (hs:=hs) hts Q.at' S5
  have hne:P≠[]:=λz=>by rw [z]at g1;simp at g1
  have hh: ¬(as.length:Int)=1:=λz=>hne (yBI (by omega))
  cases b with
  |true=>exact absurd (hkey (hbk rfl)) hne
  |false=>
   have e9:dC (LZ sc ts (qM hs as) g' h' i' j' (some (.loc 4))) S5=.ok (.next (LZ sc ts (qM hs as) g' h' i' j' (some (.loc 4)))) S5:=by
    unfold dC
    simp? [zGO,zAD,lM,hh,decide_false,hb,fT,iF]
   have hPl:(P.map prM).length<1000000:=by
    have h1:=zFR (yLV (RcQ ts hs as) as.length) (U:=(List.range 4).flatMap λa=>(List.range 4).map λb=>(a,b)) λp hp=>by
     have:=zFS.mp hp
     have h4:=Q.len
     exact mem_flatMap.mpr ⟨p.1,mem_range.mpr (by omega),mM.mpr ⟨p.2,mem_range.mpr (by omega),rfl⟩⟩
    rw [lM,hP]
    exact Nat.lt_of_le_of_lt h1 (by decide)
   have hc:xE (gNm 0) zJQ zPU [none,some (.loc 3)] [(3,P.map prM)] (P.map prM) S5=.ok ((P.filter λp=>decide ((p.2,p.1)∈P)).map prM) S5:=
    zBN (dI hP5) λp _=>⟨[some (prM p),some (.loc 3)],rfl,by
     have hin:=zNO hP5 false (p.2,p.1)
     rw [iN xF0]at hin
     unfold zJQ
     simp? [show ixF (.val (prM p)) (.val (.int 1)) S5=.ok (.val (.int (p.2:Int))) S5 from rfl,show ixF (.val (prM p)) (.val (.int 0)) S5=.ok (.val (.int (p.1:Int))) S5 from rfl,tup2,hin],rfl⟩
   have hb6: ∀a b c d e f g h i j k l:Option MV,blk 1 [6] [a,b,c,d,e,f,g,h,i,j,k,l]=[none,g]:=λ_ _ _ _ _ _ _ _ _ _ _ _=>rfl
   have hfe:((P.filter λp=>decide ((p.2,p.1)∈P)).map prM).isEmpty=false:=by
    have hm:p∈P.filter λp=>decide ((p.2,p.1)∈P):=mem_filter.mpr ⟨g1,dT0 g2⟩
    cases e:P.filter λp=>decide ((p.2,p.1)∈P)with
    |nil=>rw [e]at hm;simp at hm
    |cons a l=>rfl
   rw [zD e9]
   unfold zII
   simp? [inl,orF,zDN hP5,hPl,hb6,hc,yKZ,hfe,Bool.not_false,fT,iF]
section
variable{P:Program}{w:World}{K:PySem.W.Frag}{mg:Str->Option Value}{base:Heap}
def top(i:Nat):Stmt:=PySem.Challenge.pw_mendsure_k66_a_ring_has_a_pair.main.body.getD i (.Pass ⟨0,0,0,0⟩)
abbrev zHK:Stmt:=top 4
theorem zCE:FnScope zHG ["atoms"] (zH zHK):=fsK (by decide+kernel)
theorem zVH(D:DefM K mg "names_in" zHK)(zHL:mg "list"=none):(CalM P w K mg base) "names_in" 1 1 ["atoms"] bZ:=
 by have h:=okC (P:=P) (w:=w) (base:=base) D (λ_ _ _ _ _ _ us hl=>match us,hl with |[_],_=>rfl) λf fd F=>okM (k:=0) _ F zCE λcdv A outer s H E hr=>(zE (zK 1 zCE.nd zML) (zE (xD PassesOwn.never rfl (yPF (zA 0)) (zS 2 zCE.nd) (zI (xD PassesOwn.never rfl (zMB (zQ (zA 2) zC)) (zS 3 zCE.nd) (zI (jN (zAL hr.units (zQ (zA 3) zC) (zCG [118,97,114])) (zI (zHD zGS (zLF (zA 1) (zQ (zA 3) zC)))) xV))))) (zI (yK (kT zMW (zTX rfl) rfl zHL zYB (zB (zA 1) zF))))))
    exact h
abbrev jL:Stmt:=top 6
theorem xU:FnScope nQ ["question"] (zH jL):=fsK (by decide+kernel)
theorem zFT(D:DefM K mg "check_tables_once" jL)(dP:mg "enumerate"=none):(CalM P w K mg base) "check_tables_once" 1 1 ["question"] wA:=
 by have h:=okC (P:=P) (w:=w) (base:=base) D (λ_ _ _ _ _ _ us hl=>match us,hl with |[_],_=>rfl) λf fd F=>okM (k:=0) _ F xU λcdv A outer s H E hr=>(zE (zK 1 xU.nd zML) (zI (xD PassesOwn.never rfl (yIX rfl dP (zB (zQ (zA 0) zC) zF)) (zEV (n:=2) rfl (xZ (zS 2 xU.nd) (xZ (zS 3 xU.nd) zEU))) (zE (jN (yPM (zQ (zA 3) zC) (zA 1)) (zI yCZ) xV) (zI (zHD zGS (zLF (zA 1) (zQ (zA 3) zC))))))))
    exact h
abbrev zAE:Stmt:=top 7
theorem zOA:FnScope ["question","atom"] ["question","atom"] (zH zAE):=fsK (by decide+kernel)
theorem zOB(D:DefM K mg "free_names" zAE)(zXI:(CalM P w K mg base) "names_in" 1 1 ["atoms"] bZ):(CalM P w K mg base) "free_names" 2 2 ["question","atom"] yZ:=
 by have h:=okC (P:=P) (w:=w) (base:=base) D (λ_ _ _ _ _ _ us hl=>match us,hl with |[_,_],_=>rfl) λf fd F=>okM (k:=1) _ F zOA λcdv A outer s H E hr=>(zI (yK (cV (zH zAE) ["question","atom"] ["name"] [0] (wO (zP zXI (hr.mono (by decide)) rfl (zB (kZ (zB (zA 1) zF)) zF))) rfl (λ_ _ _ _ hN=>(kC 0 hN)) (λ_ _ _ _=>(zGA (zAM hr.units (zA 0) (zQ (zA 1) zC)))) (λ_ _ _ _=>(zA 0)))))
    exact h
abbrev zFU:Stmt:=top 8
theorem zIO:FnScope zKI ["tables","question","atom"] (zH zFU):=fsK (by decide+kernel)
theorem zSD(D:DefM K mg "key_names" zFU)(bS:(CalM P w K mg base) "free_names" 2 2 ["question","atom"] yZ):(CalM P w K mg base) "key_names" 3 3 ["tables","question","atom"] gH:=
 by have h:=okC (P:=P) (w:=w) (base:=base) D (λ_ _ _ _ _ _ us hl=>match us,hl with |[_,_,_],_=>rfl) λf fd F=>okM (k:=2) _ F zIO λcdv A outer s H E hr=>(zE (zK 3 zIO.nd (zQ (zQ (zA 0) (zQ (zA 2) zC)) zC)) (zI (yK (zP bS (hr.mono (by decide)) rfl (zB (zA 1) (zB (gN (zB (zQ (zA 2) zC) (zB (gO (zQ (zA 2) zC) kA (kB (zA 3))) zF))) zF))))))
    exact h
abbrev cT:Stmt:=top 9
theorem kO:FnScope zAP ["tables","question","place"] (zH cT):=fsK (by decide+kernel)
theorem zVI(D:DefM K mg "known_at" cT)(zKN:(CalM P w K mg base) "key_names" 3 3 ["tables","question","atom"] gH)(zJZ:mg "dict"=none)(wM:mg "len"=none)(zVL:mg "all"=none)(bS:(CalM P w K mg base) "free_names" 2 2 ["question","atom"] yZ):(CalM P w K mg base) "known_at" 4 3 ["tables","question","place"] zDY:=
 by have h:=okC (P:=P) (w:=w) (base:=base) D (λ_ _ _ _ _ _ us hl=>match us,hl with |[_,_,_],_=>rfl) λf fd F=>okM (k:=3) _ F kO λcdv A outer s H E hr=>(zE (zK 3 kO.nd (zQ (zA 1) zC)) (zE (zK 4 kO.nd (yP (gO (zA 3) kA (kB (zA 2))) (gO (zA 3) (kB (yP (zA 2) zC)) kA))) (zE (zK 5 kO.nd (kT zPJ (zYY rfl) rfl zJZ zYX (zB (cV (zH cT) zAP ["name"] [] (wO (zP zKN (hr.mono (by decide)) rfl (zB (zA 0) (zB (zA 1) (zB (zQ (zA 3) (zA 2)) zF))))) rfl (λ_ _ _ _ hN=>(kC 0 hN)) (λ_ _ _ _=>zBT) (λ_ _ _ _=>(gN (zB (zA 0) (zB zGS zF))))) zF))) (zE (zK 6 kO.nd yNS) (zE (zTD 10000 PassesOwn.never (yLK hr.units (zA 6) (yH zPM zZA rfl wM gP (zB (zA 5) zF))) (zE (zK 6 kO.nd (yH zPM zZA rfl wM gP (zB (zA 5) zF))) (zI (xD PassesOwn.never rfl (zMB (zA 4)) (zS 7 kO.nd) (zI (jN (zHP (yH zQH (yOA rfl) rfl zVL yOC (zB (cV (zH cT) zAP ["name"] [5] (wO (zP zKN (hr.mono (by decide)) rfl (zB (zA 0) (zB (zA 1) (zB (zA 7) zF))))) rfl (λ_ _ _ _ hN=>(kC 0 hN)) (λ_ _ _ _=>zBT) (λ_ _ _ _=>(yPL (zA 0) (zA 1)))) zF))) (zI (kU (yJP (zA 5) (zB (kT zPJ (zYY rfl) rfl zJZ zYX (zB (cV (zH cT) zAP ["name"] [] (wO (zP bS (hr.mono (by decide)) rfl (zB (zA 1) (zB (zA 7) zF)))) rfl (λ_ _ _ _ hN=>(kC 0 hN)) (λ_ _ _ _=>zBT) (λ_ _ _ _=>(gN (zB (zA 0) (zB zGS zF))))) zF)) zF)))) xV)))))) (zI (yK (zA 5))))))))
    exact h
abbrev kY:Stmt:=top 10
theorem zIP:FnScope ["some","others"] ["some","others"] (zH kY):=fsK (by decide+kernel)
theorem zIQ(D:DefM K mg "have_in_common" kY)(zVK:mg "any"=none):(CalM P w K mg base) "have_in_common" 1 2 ["some","others"] kW:=
 by have h:=okC (P:=P) (w:=w) (base:=base) D (λ_ _ _ _ _ _ us hl=>match us,hl with |[_,_],_=>rfl) λf fd F=>okM (k:=0) _ F zIP λcdv A outer s H E hr=>(zI (yK (yH zRE (yPN rfl) rfl zVK yOD (zB (cV (zH kY) ["some","others"] ["name"] [1] (wO (zA 0)) rfl (λ_ _ _ _ hN=>(kC 0 hN)) (λ_ _ _ _=>zBT) (λ_ _ _ _=>(pm_in hr.units (zA 0) (zA 1)))) zF))))
    exact h
abbrev jV:Stmt:=top 11
theorem xM:FnScope zCJ ["tables","question","place"] (zH jV):=fsK (by decide+kernel)
theorem zNP(D:DefM K mg "swayed_from" jV)(zXH:(CalM P w K mg base) "known_at" 4 3 ["tables","question","place"] zDY)(bS:(CalM P w K mg base) "free_names" 2 2 ["question","atom"] yZ)(yE:mg "range"=none)(wM:mg "len"=none)(zJY:(CalM P w K mg base) "have_in_common" 1 2 ["some","others"] kW)(zHL:mg "list"=none):(CalM P w K mg base) "swayed_from" 5 3 ["tables","question","place"] cZ:=
 by have h:=okC (P:=P) (w:=w) (base:=base) D (λ_ _ _ _ _ _ us hl=>match us,hl with |[_,_,_],_=>rfl) λf fd F=>okM (k:=4) _ F xM λcdv A outer s H E hr=>(zE (zK 3 xM.nd (zP zXH (hr.mono (by decide)) rfl (zB (zA 0) (zB (zA 1) (zB (zA 2) zF))))) (zE (zLB 4 xM.nd (zH jV) zCJ ["atom"] [1,3] (zMB (zQ (zA 1) zC)) rfl (λ_ _ _ _ hN=>(kC 0 hN)) (λ_ _ _ _=>zBT) (λ_ _ _ _=>(cV (rlS ({kind:=PySem.ScopeKind.function,names:=[(PySem.Str.ofString ".0",PySem.NameKind.local),(PySem.Str.ofString "atom",PySem.NameKind.local),(PySem.Str.ofString "free_names",PySem.NameKind.globalImplicit),(PySem.Str.ofString "learnt",PySem.NameKind.free),(PySem.Str.ofString "question",PySem.NameKind.free)],isGenerator:=false,isCoroutine:=false,more:=[]:PySem.Scope}) (zH jV)) ["atom","question","learnt"] ["name"] [2] (wO (zP bS (hr.mono (by decide)) rfl (zB (zA 1) (zB (zA 0) zF)))) rfl (λ_ _ _ _ hN=>(kC 0 hN)) (λ_ _ _ _=>(zGA (zPH (zA 0) (zA 1)))) (λ_ _ _ _=>(zA 0))))) (zE (zK 5 xM.nd (yBT (zA 2) zGS)) (zE (zK 6 xM.nd (kZ (zB (zA 2) zF))) (zE (zTD 10000 PassesOwn.never (zHP (zA 6)) (zE (zK 7 xM.nd (zQ (zA 4) (yJS (zA 6)))) (zI (xD PassesOwn.never rfl (xC rfl yE (zB (yH xQ dS rfl wM gP (zB (zA 4) zF)) zF)) (zS 8 xM.nd) (zI (jN (zXR (zIU (zPH (zA 8) (zA 5)) (zQK (zHP (zP zJY (hr.mono (by decide)) rfl (zB (zA 7) (zB (zQ (zA 4) (zA 8)) zF))))))) (zE (zHD zGS (zLF (zA 5) (zA 8))) (zI (kU (gF (zA 6) (zB (zA 8) zF))))) xV)))))) (zI (yK (kT zMW (zTX rfl) rfl zHL zYB (zB (zA 5) zF)))))))))
    exact h
abbrev zLK:Stmt:=top 12
theorem zNQ:FnScope zRG ["tables","question"] (zH zLK):=fsK (by decide+kernel)
theorem yGR(D:DefM K mg "sways" zLK)(zGP:(CalM P w K mg base) "check_tables_once" 1 1 ["question"] wA)(yE:mg "range"=none)(wM:mg "len"=none)(zOH:(CalM P w K mg base) "swayed_from" 5 3 ["tables","question","place"] cZ)(zBR:mg "sorted"=none):(CalM P w K mg base) "sways" 6 2 ["tables","question"] zGH:=
 by have h:=okC (P:=P) (w:=w) (base:=base) D (λ_ _ _ _ _ _ us hl=>match us,hl with |[_,_],_=>rfl) λf fd F=>okM (k:=5) _ F zNQ λcdv A outer s H E hr=>(zE (kU (zP zGP (hr.mono (by decide)) rfl (zB (zA 1) zF))) (zE (zK 2 zNQ.nd (kZ zF)) (zE (xD PassesOwn.never rfl (xC rfl yE (zB (yH xQ dS rfl wM gP (zB (zQ (zA 1) zC) zF)) zF)) (zS 3 zNQ.nd) (zI (kU (yBM (zA 2) (zB (cV (zH zLK) zRG ["b"] [3] (wO (zP zOH (hr.mono (by decide)) rfl (zB (zA 0) (zB (zA 1) (zB (zA 3) zF))))) rfl (λ_ _ _ _ hN=>(kC 0 hN)) (λ_ _ _ _=>(zGA (yLJ hr.units (zA 0) (zA 1)))) (λ_ _ _ _=>(gN (zB (zA 1) (zB (zA 0) zF))))) zF))))) (zI (yK (yH (yBN hr.u128) yJM rfl zBR zMX (zB (zA 2) zF)))))))
    exact h
abbrev zXG:Stmt:=top 13
theorem zLL:FnScope yEZ ["tables","question"] (zH zXG):=fsK (by decide+kernel)
theorem yLC(D:DefM K mg "ring" zXG)(zSH:(CalM P w K mg base) "sways" 6 2 ["tables","question"] zGH):(CalM P w K mg base) "ring" 7 2 ["tables","question"] zJN:=
 by have h:=okC (P:=P) (w:=w) (base:=base) D (λ_ _ _ _ _ _ us hl=>match us,hl with |[_,_],_=>rfl) λf fd F=>okM (k:=6) _ F zLL λcdv A outer s H E hr=>(zE (zK 2 zLL.nd (zP zSH (hr.mono (by decide)) rfl (zB (zA 0) (zB (zA 1) zF)))) (zE (xD PassesOwn.never rfl (wO (zA 2)) (zEV (n:=2) rfl (xZ (zS 3 zLL.nd) (xZ (zS 4 zLL.nd) zEU))) (zI (jN (yDM hr.units (gN (zB (zA 4) (zB (zA 3) zF))) (zA 2)) (zI (yK (kZ (zB (zA 3) (zB (zA 4) zF))))) xV))) (zI (yK zWC))))
    exact h
abbrev zBO:Stmt:=top 15
theorem zKV:FnScope ["_law_script","_law_k"] ["_law_script","_law_k"] (zH zBO):=fsK (by decide+kernel)
theorem zKW(D:DefM K mg "_law_cell_at" zBO)(wM:mg "len"=none):(CalM P w K mg base) "_law_cell_at" 1 2 ["_law_script","_law_k"] zU:=
 by have h:=okC (P:=P) (w:=w) (base:=base) D (λ_ _ _ _ _ _ us hl=>match us,hl with |[_,_],_=>rfl) λf fd F=>okM (k:=0) _ F zKV λcdv A outer s H E hr=>(zE (jN (yLK hr.units (zA 1) (yH xQ dS rfl wM gP (zB (zA 0) zF))) (zI (yK (zQ (zA 0) (zA 1)))) xV) (zI (yK zC)))
    exact h
abbrev zBP:Stmt:=top 16
theorem yO:FnScope zFF ["_law_rest"] (zH zBP):=fsK (by decide+kernel)
theorem zKX(D:DefM K mg "_law_name_in" zBP)(yE:mg "range"=none):(CalM P w K mg base) "_law_name_in" 1 1 ["_law_rest"] wG:=
 by have h:=okC (P:=P) (w:=w) (base:=base) D (λ_ _ _ _ _ _ us hl=>match us,hl with |[_],_=>rfl) λf fd F=>okM (k:=0) _ F yO λcdv A outer s H E hr=>(zE (zK 1 yO.nd (zCG [97,98,99,100,101,102,103,104,105,106,107,108,109,110,111,112,113,114,115,116,117,118,119,120,121,122])) (zE (zK 2 yO.nd (yP zC (zY (zA 0) zC))) (zE (zK 0 yO.nd (yV (zA 0) zC)) (zE (zK 3 yO.nd (zCG [])) (zE (xD PassesOwn.never rfl (xC rfl yE (zB (zA 2) zF)) (zS 4 yO.nd) (zE (zK 3 yO.nd (yP (zA 3) (zQ (zA 1) (zY (zA 0) zC)))) (zI (zK 0 yO.nd (yV (zA 0) zC))))) (zI (yK (gN (zB (zA 3) (zB (zA 0) zF))))))))))
    exact h
abbrev wR:Stmt:=top 17
theorem zV:FnScope gR ["_law_rest","_law_many"] (zH wR):=fsK (by decide+kernel)
theorem zDF(D:DefM K mg "_law_words_by_digits" wR)(yE:mg "range"=none)(zBQ:(CalM P w K mg base) "_law_name_in" 1 1 ["_law_rest"] wG):(CalM P w K mg base) "_law_words_by_digits" 2 2 ["_law_rest","_law_many"] xA:=
 by have h:=okC (P:=P) (w:=w) (base:=base) D (λ_ _ _ _ _ _ us hl=>match us,hl with |[_,_],_=>rfl) λf fd F=>okM (k:=1) _ F zV λcdv A outer s H E hr=>(zE (zK 2 zV.nd (kZ zF)) (zE (xD PassesOwn.never rfl (xC rfl yE (zB (zA 1) zF)) (zS 3 zV.nd) (zE (zHD (zP zBQ (hr.mono (by decide)) rfl (zB (zA 0) zF)) (zEV (n:=2) rfl (xZ (zS 4 zV.nd) (xZ (zS 0 zV.nd) zEU)))) (zE (xD PassesOwn.never rfl (yNV (zCG [97,98,99,100,101,102,103,104,105,106])) (zS 5 zV.nd) (zI (jN (yDM hr.units (zA 4) (zA 2)) (zI (zK 4 zV.nd (yP (gO (zA 4) kA (kB zC)) (zA 5)))) xV))) (zI (kU (gF (zA 2) (zB (zA 4) zF))))))) (zI (yK (zA 2)))))
    exact h
abbrev zEB:Stmt:=top 18
theorem yB:FnScope zIC ["_law_cell","_law_many"] (zH zEB):=fsK (by decide+kernel)
theorem zOC(D:DefM K mg "_law_words" zEB)(zEE:(CalM P w K mg base) "_law_words_by_digits" 2 2 ["_law_rest","_law_many"] xA)(yE:mg "range"=none):(CalM P w K mg base) "_law_words" 3 2 ["_law_cell","_law_many"] zAB:=
 by have h:=okC (P:=P) (w:=w) (base:=base) D (λ_ _ _ _ _ _ us hl=>match us,hl with |[_,_],_=>rfl) λf fd F=>okM (k:=2) _ F yB λcdv A outer s H E hr=>(zE (jN (zAL hr.units (zY (zA 0) zC) zC) (zI (yK (zP zEE (hr.mono (by decide)) rfl (zB (yV (zA 0) zC) (zB (zA 1) zF))))) xV) (zE (zK 2 yB.nd (zCG [97,98,99,100,101,102,103,104,105,106,107,108,109,110,111,112,113,114,115,116,117,118,119,120,121,122])) (zE (zK 0 yB.nd (zY (zAK (zY (zAK (zA 0) zC) zC) zC) zC)) (zE (zK 3 yB.nd (yP zC (zY (zA 0) zC))) (zE (zK 4 yB.nd (zY (yV (zA 0) zC) (zA 3))) (zE (zK 5 yB.nd (kZ zF)) (zE (xD PassesOwn.never rfl (xC rfl yE (zB (zA 1) zF)) (zS 6 yB.nd) (zE (zK 7 yB.nd (zCG [])) (zE (xD PassesOwn.never rfl (xC rfl yE (zB (zA 3) zF)) (zS 8 yB.nd) (zE (zK 9 yB.nd (yP (yV (zA 0) (yP zC (zAK zC (zA 8)))) (zAK (zA 8) (zY (yV (zA 0) zC) zC)))) (zE (jN (zAL hr.units (zA 8) (zA 4)) (zI (zK 9 yB.nd (yP (zA 9) (zAK zC (zA 6))))) xV) (zI (zK 7 yB.nd (yP (zA 7) (zQ (zA 2) (zY (zA 9) zC)))))))) (zI (kU (gF (zA 5) (zB (zA 7) zF))))))) (zE (jN (zAL hr.units (zY (yV (zA 0) zC) zC) zC) (zI (zHD (yP (zQ (zA 5) zC) (zQ (zA 2) (zY (yV (zA 0) zC) zC))) (yOG (zA 5) zC))) xV) (zI (yK (zA 5)))))))))))
    exact h
abbrev zEC:Stmt:=top 19
theorem xB:FnScope zID ["_law_cell","_law_many"] (zH zEC):=fsK (by decide+kernel)
theorem zOD(D:DefM K mg "_law_drawn" zEC)(yE:mg "range"=none):(CalM P w K mg base) "_law_drawn" 1 2 ["_law_cell","_law_many"] yR:=
 by have h:=okC (P:=P) (w:=w) (base:=base) D (λ_ _ _ _ _ _ us hl=>match us,hl with |[_,_],_=>rfl) λf fd F=>okM (k:=0) _ F xB λcdv A outer s H E hr=>(zE (zK 2 xB.nd (kZ zF)) (zE (jN (zAL hr.units (zY (zA 0) zC) zC) (zE (zK 3 xB.nd (yV (zA 0) zC)) (zE (xD PassesOwn.never rfl (xC rfl yE (zB (zA 1) zF)) (zS 4 xB.nd) (zE (kU (gF (zA 2) (zB (zY (zA 3) zC) zF))) (zI (zK 3 xB.nd (yV (zA 3) zC))))) (zI (yK (zA 2))))) xV) (zE (zK 5 xB.nd (yP (zY (zA 0) zC) zC)) (zE (xD PassesOwn.never rfl (xC rfl yE (zB (zA 1) zF)) (zS 4 xB.nd) (zE (zK 5 xB.nd (zY (yP (yP (zAK (zA 5) (zA 5)) (zAK zC (zA 5))) (zA 4)) zC)) (zI (kU (gF (zA 2) (zB (yV (zY (zAK (zA 5) zC) zC) zC) zF)))))) (zI (yK (zA 2)))))))
    exact h
abbrev zCQ:Stmt:=top 20
theorem kP:FnScope zGV ["_law_cell"] (zH zCQ):=fsK (by decide+kernel)
theorem zNR(D:DefM K mg "_law_tables" zCQ)(zEF:(CalM P w K mg base) "_law_drawn" 1 2 ["_law_cell","_law_many"] yR)(zVN:mg "int"=none)(zNT:mg "min"=none)(zAF:mg "tuple"=none):(CalM P w K mg base) "_law_tables" 2 1 ["_law_cell"] dA:=
 by have h:=okC (P:=P) (w:=w) (base:=base) D (λ_ _ _ _ _ _ us hl=>match us,hl with |[_],_=>rfl) λf fd F=>okM (k:=1) _ F kP λcdv A outer s H E hr=>(zE (zK 1 kP.nd (zP zEF (hr.mono (by decide)) rfl (zB (zA 0) (zB zC zF)))) (zE (zK 2 kP.nd (kZ zF)) (zE (xD PassesOwn.never rfl (wO (gO (zA 1) kA (kB (yP zC (zY (zQ (zA 1) zC) zC))))) (zS 3 kP.nd) (zE (zK 4 kP.nd (yP (yP zC (zY (zA 3) zC)) (kT zTI yOF rfl zVN yOE (zB (yLI hr.units (zY (yV (zA 3) zC) zC) zC) zF)))) (zI (kU (gF (zA 2) (zB (gN (zB (zA 4) (zB (yH (zOK rfl) yEN rfl zNT yEO (zB (zA 4) (zB (zQ (kZ (zB zC (zB zC (zB zC (zB zC (zB zC (zB zC zF))))))) (zY (yV (zA 3) zC) zC)) zF))) zF))) zF)))))) (zI (yK (kT cU zHU rfl zAF zHV (zB (zA 2) zF)))))))
    exact h
abbrev dD:Stmt:=top 21
theorem zW:FnScope zCK ["_law_cell","_law_words_here"] (zH dD):=fsK (by decide+kernel)
theorem zNS(D:DefM K mg "_law_values" dD)(yE:mg "range"=none)(zBQ:(CalM P w K mg base) "_law_name_in" 1 1 ["_law_rest"] wG)(wM:mg "len"=none)(zNT:mg "min"=none):(CalM P w K mg base) "_law_values" 2 2 ["_law_cell","_law_words_here"] dB:=
 by have h:=okC (P:=P) (w:=w) (base:=base) D (λ_ _ _ _ _ _ us hl=>match us,hl with |[_,_],_=>rfl) λf fd F=>okM (k:=1) _ F zW λcdv A outer s H E hr=>(zE (jN (zAL hr.units (zY (zA 0) zC) zC) (zE (zK 2 zW.nd (yV (zA 0) zC)) (zE (zK 3 zW.nd (yP zC (zY (zA 2) zC))) (zE (zK 2 zW.nd (yV (zA 2) zC)) (zE (zK 4 zW.nd (kZ zF)) (zE (xD PassesOwn.never rfl (xC rfl yE (zB (zA 3) zF)) (zS 5 zW.nd) (zE (zHD (zP zBQ (hr.mono (by decide)) rfl (zB (yV (zA 2) zC) zF)) (zEV (n:=2) rfl (xZ (zS 6 zW.nd) (xZ (zS 2 zW.nd) zEU)))) (zE (jN (zAL hr.units (zY (zA 2) zC) zC) (zE (zK 6 zW.nd (yP (zIX (zY (yV (zA 2) zC) (zIX (zAK zC (zME zC zC)) zC)) (zME zC zC)) zC)) (zI (zK 2 zW.nd (yV (zA 2) (zIX (zAK zC (zME zC zC)) zC))))) xV) (zI (jN (zAM hr.units (zA 6) (zA 4)) (zI (kU (gF (zA 4) (zB (zA 6) zF)))) xV))))) (zI (yK (yP (zA 4) (gO (cV (zH dD) zCK ["_law_word"] [4] (wO (zA 1)) rfl (λ_ _ _ _ hN=>(kC 0 hN)) (λ_ _ _ _=>(zGA (zAM hr.units (zA 0) (zA 1)))) (λ_ _ _ _=>(zA 0))) kA (kB (zIX zC (yH (zOK rfl) yEN rfl zNT yEO (zB zC (zB (yH xQ dS rfl wM gP (zB (zA 4) zF)) zF)))))))))))))) xV) (zE (zK 7 zW.nd (yP (zIX (zY (zA 0) (zIX (zAK zC (zME zC zC)) zC)) (zME zC zC)) zC)) (zE (zK 8 zW.nd (kZ (zB (zA 7) (zB (yP (zA 7) zC) (zB (zQ (zA 1) zC) (zB (zQ (zA 1) zC) zF)))))) (zE (zK 9 zW.nd (zY (yV (zA 0) zC) zC)) (zI (yK (gO (yP (gO (zA 8) (kB (zA 9)) kA) (gO (zA 8) kA (kB (zA 9)))) kA (kB (yP zC (zY (zA 0) zC))))))))))
    exact h
abbrev zFV:Stmt:=top 22
theorem zSE:FnScope dL dL (zH zFV):=fsK (by decide+kernel)
theorem zSF(D:DefM K mg "_law_term" zFV)(wM:mg "len"=none):(CalM P w K mg base) "_law_term" 1 3 dL zCA:=
 by have h:=okC (P:=P) (w:=w) (base:=base) D (λ_ _ _ _ _ _ us hl=>match us,hl with |[_,_,_],_=>rfl) λf fd F=>okM (k:=0) _ F zSE λcdv A outer s H E hr=>(zE (jN (zAL hr.units (zY (zA 0) zC) zC) (zI (yK (gN (zB (zCG [105,115]) (zB (zQ (zA 2) (zY (yV (zA 0) zC) (yH xQ dS rfl wM gP (zB (zA 2) zF)))) zF))))) xV) (zI (yK (gN (zB (zCG [118,97,114]) (zB (zQ (zA 1) (zY (yV (zA 0) zC) (yH xQ dS rfl wM gP (zB (zA 1) zF)))) zF))))))
    exact h
abbrev nO:Stmt:=top 23
theorem wI:FnScope zEM ["_law_atoms"] (zH nO):=fsK (by decide+kernel)
theorem zJW(D:DefM K mg "_law_standing" nO)(zBR:mg "sorted"=none):(CalM P w K mg base) "_law_standing" 1 1 ["_law_atoms"] jZ:=
 by have h:=okC (P:=P) (w:=w) (base:=base) D (λ_ _ _ _ _ _ us hl=>match us,hl with |[_],_=>rfl) λf fd F=>okM (k:=0) _ F wI λcdv A outer s H E hr=>(zE (zK 1 wI.nd zML) (zE (xD PassesOwn.never rfl (wO (zA 0)) (zEV (n:=2) rfl (xZ (zS 2 wI.nd) (xZ (zS 3 wI.nd) zEU))) (zI (xD PassesOwn.never rfl (zMB (zA 3)) (zS 4 wI.nd) (zI (jN (zAL hr.units (zQ (zA 4) zC) (zCG [118,97,114])) (zI (zHD zGS (zLF (zA 1) (zQ (zA 4) zC)))) xV))))) (zI (yK (yH zWZ (yEY rfl) rfl zBR zMX (zB (zA 1) zF))))))
    exact h
abbrev xS:Stmt:=top 24
theorem yD:FnScope wT ["_law_cells","_law_tables_here","_law_names","_law_values_here"] (zH xS):=fsK (by decide+kernel)
theorem zJX(D:DefM K mg "_law_question" xS)(wM:mg "len"=none)(yE:mg "range"=none)(zEF:(CalM P w K mg base) "_law_drawn" 1 2 ["_law_cell","_law_many"] yR)(zVM:(CalM P w K mg base) "_law_term" 1 3 dL zCA)(zAF:mg "tuple"=none)(zKZ:(CalM P w K mg base) "_law_standing" 1 1 ["_law_atoms"] jZ):(CalM P w K mg base) "_law_question" 2 4 ["_law_cells","_law_tables_here","_law_names","_law_values_here"] wV:=
 by have h:=okC (P:=P) (w:=w) (base:=base) D (λ_ _ _ _ _ _ us hl=>match us,hl with |[_,_,_,_],_=>rfl) λf fd F=>okM (k:=1) _ F yD λcdv A outer s H E hr=>(zE (zK 4 yD.nd (yP zC (zY (zQ (zA 0) zC) (yH xQ dS rfl wM gP (zB (zA 1) zF))))) (zE (zLB 5 yD.nd (zH xS) wT ["_law_k"] [0,1] (xC rfl yE (zB (yH xQ dS rfl wM gP (zB (zA 1) zF)) zF)) rfl (λ_ _ _ _ hN=>(kC 0 hN)) (λ_ _ _ _=>zBT) (λ_ _ _ _=>(zY (yP (yV (zQ (zA 1) zC) zC) (zA 0)) (yH xQ dS rfl wM gP (zB (zA 2) zF))))) (zE (jN (zAL hr.units (zY (yV (zQ (zA 0) zC) zC) zC) zC) (zI (kU (zMG (zA 5)))) xV) (zE (zK 6 yD.nd (kZ zF)) (zE (xD PassesOwn.never rfl (xC rfl yE (zB (zA 4) zF)) (zS 7 yD.nd) (zE (zK 8 yD.nd (zP zEF (hr.mono (by decide)) rfl (zB (zQ (zA 0) (yP zC (zA 7))) (zB zC zF)))) (zE (zK 9 yD.nd (zQ (zQ (zA 1) (zQ (zA 5) (zA 7))) zC)) (zI (kU (gF (zA 6) (zB (gN (zB (zQ (zA 5) (zA 7)) (zB (kT cU zHU rfl zAF zHV (zB (cV (zH xS) wT ["_law_number"] [2,3] (wO (gO (zA 8) kA (kB (zA 9)))) rfl (λ_ _ _ _ hN=>(kC 0 hN)) (λ_ _ _ _=>zBT) (λ_ _ _ _=>(zP zVM (hr.mono (by decide)) rfl (zB (zA 0) (zB (zA 1) (zB (zA 2) zF)))))) zF)) zF))) zF))))))) (zE (zK 10 yD.nd (zP zKZ (hr.mono (by decide)) rfl (zB (zA 6) zF))) (zE (zLB 11 yD.nd (zH xS) wT ["_law_k"] [0,10] (xC rfl yE (zB (yH xQ dS rfl wM gP (zB (zA 10) zF)) zF)) rfl (λ_ _ _ _ hN=>(kC 0 hN)) (λ_ _ _ _=>(zGA (zAL hr.units (zY (yV (zQ (zA 1) zC) (zQ (kZ (zB zC (zB zC (zB zC (zB zC zF))))) (zA 0))) zC) zC))) (λ_ _ _ _=>(zQ (zA 2) (zA 0)))) (zE (jN (zAL hr.units (zY (yV (zQ (zA 0) zC) zC) zC) zC) (zI (kU (zMG (zA 11)))) xV) (zI (yK (gN (zB (kT cU zHU rfl zAF zHV (zB (gO (zA 11) kA (kB zC)) zF)) (zB (kT cU zHU rfl zAF zHV (zB (zA 6) zF)) zF)))))))))))))
    exact h
abbrev zED:Stmt:=top 25
theorem dE:FnScope zIE ["_law_tables_here","_law_question_here"] (zH zED):=fsK (by decide+kernel)
theorem zOE(D:DefM K mg "_law_keyed" zED)(yE:mg "range"=none)(wM:mg "len"=none):(CalM P w K mg base) "_law_keyed" 1 2 ["_law_tables_here","_law_question_here"] zAC:=
 by have h:=okC (P:=P) (w:=w) (base:=base) D (λ_ _ _ _ _ _ us hl=>match us,hl with |[_,_],_=>rfl) λf fd F=>okM (k:=0) _ F dE λcdv A outer s H E hr=>(zE (xD PassesOwn.never rfl (zMB (zQ (zA 1) zC)) (zEV (n:=2) rfl (xZ (zS 2 dE.nd) (xZ (zS 3 dE.nd) zEU))) (zI (xD PassesOwn.never rfl (yAW rfl yE (zB (zQ (zQ (zA 0) (zA 2)) zC) (zB (yH xQ dS rfl wM gP (zB (zA 3) zF)) zF))) (zS 4 dE.nd) (zI (jN (zXR (zIU (zAL hr.units (zQ (zQ (zA 3) (zA 4)) zC) (zCG [118,97,114])) (zIU (zAM hr.units (zQ (zA 3) (zA 4)) (gO (zA 3) kA (kB (zQ (zQ (zA 0) (zA 2)) zC)))) (zQK (zAM hr.units (zQ (zQ (zA 3) (zA 4)) zC) (zQ (zA 1) zC)))))) (zI (yK zGS)) xV))))) (zI (yK zGS)))
    exact h
abbrev zVJ:Stmt:=top 26
theorem nP:FnScope zZB ["_law_script"] (zH zVJ):=fsK (by decide+kernel)
theorem yQB{f:Addr}{fd:FuncData}(F:Fun K "law" "law" zVJ f fd)(zSI:(CalM P w K mg base) "_law_words" 3 2 ["_law_cell","_law_many"] zAB)(kQ:(CalM P w K mg base) "_law_cell_at" 1 2 ["_law_script","_law_k"] zU)(zOG:(CalM P w K mg base) "_law_tables" 2 1 ["_law_cell"] dA)(zOF:(CalM P w K mg base) "_law_values" 2 2 ["_law_cell","_law_words_here"] dB)(yE:mg "range"=none)(zKY:(CalM P w K mg base) "_law_question" 2 4 ["_law_cells","_law_tables_here","_law_names","_law_values_here"] wV)(zSH:(CalM P w K mg base) "sways" 6 2 ["tables","question"] zGH)(yQC:(CalM P w K mg base) "ring" 7 2 ["tables","question"] zJN)(wM:mg "len"=none)(zSG:(CalM P w K mg base) "_law_keyed" 1 2 ["_law_tables_here","_law_question_here"] zAC):FnOk P w K mg base CX0 8 f fd ["_law_script"] (spM ⟨K,mg,P,w⟩ 1 zUF):=
 by have h:=okM (P:=P) (w:=w) (mg:=mg) (base:=base) (k:=7) _ F nP λcdv A outer s H E hr=>(zE (zK 1 nP.nd (zP zSI (hr.mono (by decide)) rfl (zB (zP kQ (hr.mono (by decide)) rfl (zB (zA 0) (zB zC zF))) (zB zC zF)))) (zE (zK 2 nP.nd (zP zOG (hr.mono (by decide)) rfl (zB (zP kQ (hr.mono (by decide)) rfl (zB (zA 0) (zB zC zF))) zF))) (zE (zK 3 nP.nd (zP zOF (hr.mono (by decide)) rfl (zB (zP kQ (hr.mono (by decide)) rfl (zB (zA 0) (zB zC zF))) (zB (gO (zA 1) (kB zC) kA) zF)))) (zE (zLB 4 nP.nd (zH zVJ) zZB ["_law_k"] [0] (xC rfl yE (zB zC zF)) rfl (λ_ _ _ _ hN=>(kC 0 hN)) (λ_ _ _ _=>zBT) (λ_ _ _ _=>(zP kQ (hr.mono (by decide)) rfl (zB (zA 1) (zB (yP zC (zA 0)) zF))))) (zE (zK 5 nP.nd (zP zKY (hr.mono (by decide)) rfl (zB (zA 4) (zB (zA 2) (zB (gO (zA 1) kA (kB (zQ (kZ (zB zC (zB zC (zB zC zF)))) (zY (zP kQ (hr.mono (by decide)) rfl (zB (zA 0) (zB zC zF))) zC)))) (zB (zA 3) zF)))))) (zE (zK 6 nP.nd (zP zSH (hr.mono (by decide)) rfl (zB (zA 2) (zB (zA 5) zF)))) (zE (xD PassesOwn.never rfl (wO (zA 6)) (zEV (n:=2) rfl (xZ (zS 7 nP.nd) (xZ (zS 8 nP.nd) zEU))) (zI (xD PassesOwn.never rfl (wO (zA 6)) (zEV (n:=2) rfl (xZ (zS 9 nP.nd) (xZ (zS 10 nP.nd) zEU))) (zI (jN (zXR (zIU (zAL hr.units (zA 9) (zA 8)) (zIU (yLJ hr.units (zA 10) (zA 7)) (zIU (zAM hr.units (gN (zB (zA 7) (zB (zA 10) zF))) (zA 6)) (zQK (zAM hr.units (gN (zB (zA 8) (zB (zA 7) zF))) (zA 6))))))) (zI (yK zGS)) xV))))) (zE (zK 11 nP.nd (zP yQC (hr.mono (by decide)) rfl (zB (zA 2) (zB (zA 5) zF)))) (zE (jN (zXR (wm_or (zAL hr.units (yH xQ dS rfl wM gP (zB (zQ (zA 5) zC) zF)) zC) (yNU (zHP (zP zSG (hr.mono (by decide)) rfl (zB (zA 2) (zB (zA 5) zF))))))) (zI (yK (yNT (yLL (zA 11) zWC) (yCX (yLI hr.units (zA 6) (kZ zF)))))) xV) (zI (yK (pm_or (yLL (zA 11) zWC) (yCX (pm_ne hr.units (cV (zH zVJ) zZB ["_law_pair"] [6] (wO (zA 6)) rfl (λ_ _ _ _ hN=>(kC 0 hN)) (λ_ _ _ _=>(zGA (yDM hr.units (gN (zB (zQ (zA 0) zC) (zB (zQ (zA 0) zC) zF))) (zA 1)))) (λ_ _ _ _=>(zA 0))) (kZ zF)))))))))))))))
    exact h
end
theorem all_mk{l:PySem.W.OpenLaw}{w:World}{K:PySem.W.Frag}{h:Heap}{mg:Str->Option Value}{fa:Addr}(X:K.In h)(GG:h.Ns mainGlobals mg)(hfa:mg "law"=some (.ref fa))
  (D0:DefM K mg "names_in" zHK)
  (D1:DefM K mg "check_tables_once" jL)
  (D2:DefM K mg "free_names" zAE)
  (D3:DefM K mg "key_names" zFU)
  (D4:DefM K mg "known_at" cT)
  (D5:DefM K mg "have_in_common" kY)
  (D6:DefM K mg "swayed_from" jV)
  (D7:DefM K mg "sways" zLK)
  (D8:DefM K mg "ring" zXG)
  (D9:DefM K mg "_law_cell_at" zBO)
  (D10:DefM K mg "_law_name_in" zBP)
  (D11:DefM K mg "_law_words_by_digits" wR)
  (D12:DefM K mg "_law_words" zEB)
  (D13:DefM K mg "_law_drawn" zEC)
  (D14:DefM K mg "_law_tables" zCQ)
  (D15:DefM K mg "_law_values" dD)
  (D16:DefM K mg "_law_term" zFV)
  (D17:DefM K mg "_law_standing" nO)
  (D18:DefM K mg "_law_question" xS)
  (D19:DefM K mg "_law_keyed" zED)
  (D20:DefM K mg "law" zVJ)
  (zVL:PySem.W.nsIn K mainGlobals "all"=some none)
  (zVK:PySem.W.nsIn K mainGlobals "any"=some none)
  (zJZ:PySem.W.nsIn K mainGlobals "dict"=some none)
  (dP:PySem.W.nsIn K mainGlobals "enumerate"=some none)
  (zVN:PySem.W.nsIn K mainGlobals "int"=some none)
  (wM:PySem.W.nsIn K mainGlobals "len"=some none)
  (zHL:PySem.W.nsIn K mainGlobals "list"=some none)
  (zNT:PySem.W.nsIn K mainGlobals "min"=some none)
  (yE:PySem.W.nsIn K mainGlobals "range"=some none)
  (zBR:PySem.W.nsIn K mainGlobals "sorted"=some none)
  (zAF:PySem.W.nsIn K mainGlobals "tuple"=some none)
  : ∃fd:FuncData,(∀(s:Shared)(v:Value),BindsTo s fd ⟨[v],[]⟩ [("_law_script",v)])/\ ∀base:Heap,K.In base->base.Ns mainGlobals mg->FnOk l.prog w K mg base CX0 8 fa fd ["_law_script"] (zOX K zUF):=by
 have Z_all:=PySem.W.mg_none_of X GG zVL
 have Z_any:=PySem.W.mg_none_of X GG zVK
 have Z_dict:=PySem.W.mg_none_of X GG zJZ
 have Z_enumerate:=PySem.W.mg_none_of X GG dP
 have Z_int:=PySem.W.mg_none_of X GG zVN
 have Z_len:=PySem.W.mg_none_of X GG wM
 have Z_list:=PySem.W.mg_none_of X GG zHL
 have Z_min:=PySem.W.mg_none_of X GG zNT
 have Z_range:=PySem.W.mg_none_of X GG yE
 have Z_sorted:=PySem.W.mg_none_of X GG zBR
 have Z_tuple:=PySem.W.mg_none_of X GG zAF
 refine yPJ D20 hfa (λ_ _ _ _ _ _ s v=>.of_eq rfl) λbase f fd F=>?_
 have G0:=zVH (P:=l.prog) (w:=w) (base:=base) D0 Z_list
 have G1:=zFT (P:=l.prog) (w:=w) (base:=base) D1 Z_enumerate
 have G2:=zOB (P:=l.prog) (w:=w) (base:=base) D2 G0
 have G3:=zSD (P:=l.prog) (w:=w) (base:=base) D3 G2
 have G4:=zVI (P:=l.prog) (w:=w) (base:=base) D4 G3 Z_dict Z_len Z_all G2
 have G5:=zIQ (P:=l.prog) (w:=w) (base:=base) D5 Z_any
 have G6:=zNP (P:=l.prog) (w:=w) (base:=base) D6 G4 G2 Z_range Z_len G5 Z_list
 have G7:=yGR (P:=l.prog) (w:=w) (base:=base) D7 G1 Z_range Z_len G6 Z_sorted
 have G8:=yLC (P:=l.prog) (w:=w) (base:=base) D8 G7
 have G9:=zKW (P:=l.prog) (w:=w) (base:=base) D9 Z_len
 have G10:=zKX (P:=l.prog) (w:=w) (base:=base) D10 Z_range
 have G11:=zDF (P:=l.prog) (w:=w) (base:=base) D11 Z_range G10
 have G12:=zOC (P:=l.prog) (w:=w) (base:=base) D12 G11 Z_range
 have G13:=zOD (P:=l.prog) (w:=w) (base:=base) D13 Z_range
 have G14:=zNR (P:=l.prog) (w:=w) (base:=base) D14 G13 Z_int Z_min Z_tuple
 have G15:=zNS (P:=l.prog) (w:=w) (base:=base) D15 Z_range G10 Z_len Z_min
 have G16:=zSF (P:=l.prog) (w:=w) (base:=base) D16 Z_len
 have G17:=zJW (P:=l.prog) (w:=w) (base:=base) D17 Z_sorted
 have G18:=zJX (P:=l.prog) (w:=w) (base:=base) D18 Z_len Z_range G13 G16 Z_tuple G17
 have G19:=zOE (P:=l.prog) (w:=w) (base:=base) D19 Z_range Z_len
 exact yQB (P:=l.prog) (w:=w) (base:=base) F G12 G9 G14 G15 Z_range G18 G7 G8 Z_len G19
theorem walk{l:PySem.W.OpenLaw}{q:Program}{loose:List Str}{XP:(Str->Option Value)->Heap->Prop}{YP:World->Heap->Prop}{d:DefRec}{K:Params->PySem.W.Frag}(hn:l.most=some 63)(hdf:d.params.defaults=[])
  (hY: ∀(w:World)(h:Heap),YP w h->(K w.params).In h)
  (F: ∀(w:World)(mg:Str->Option Value)(fa:Addr)(h:Heap),(K w.params).In h->h.Ns mainGlobals mg->mg d.name=some (.ref fa)->
   ∃fd:FuncData,(∀(s:Shared)(u:Value),BindsTo s fd ⟨[u],[]⟩ [("_law_script",u)])/\ ∀base:Heap,(K w.params).In base->base.Ns mainGlobals mg->FnOk l.prog w (K w.params) mg base CX0 8 fa fd ["_law_script"] (zOX (K w.params) zUF)):
  PySem.W.WalkO q loose XP YP l.row.toRowW d [] (λf vs=>PySem.call f vs):=
 L2.walk_of (n:=63) (k:=8) (x:="_law_script") (CX:=λ_=>CX0) (sp:=λw=>zOX (K w.params) zUF) hn (by decide) hdf ⟨rfl,by decide,by decide⟩ hY F
  (λw H a ns hl hO hS=>yDQ hO hS (yGQ ns hl)) λ_ _ _ _ _ z=>z
end My
end M
end L2
noncomputable def zTw : PySem.Params → PySem.Heap := fun P => { PySem.W.boot_heap P with objs := #[] }
noncomputable def PySem.W.Fast.tw11356242050897347582 := zTw
theorem PySem.W.Fast.te11356242050897347582 : PySem.W.Fast.tw11356242050897347582 = zTw := rfl
noncomputable def PySem.W.Fast.tw6186685867328185915 := zTw
theorem PySem.W.Fast.te6186685867328185915 : PySem.W.Fast.tw6186685867328185915 = zTw := rfl
noncomputable def PySem.W.Fast.tw8529244340787211395 := zTw
theorem PySem.W.Fast.te8529244340787211395 : PySem.W.Fast.tw8529244340787211395 = zTw := rfl
noncomputable def PySem.W.Fast.tw6141642076968726344 := zTw
theorem PySem.W.Fast.te6141642076968726344 : PySem.W.Fast.tw6141642076968726344 = zTw := rfl
noncomputable def PySem.W.Fast.tw3975516615872172222 := zTw
theorem PySem.W.Fast.te3975516615872172222 : PySem.W.Fast.tw3975516615872172222 = zTw := rfl
noncomputable def PySem.W.Fast.tw11062088286492784067 := zTw
theorem PySem.W.Fast.te11062088286492784067 : PySem.W.Fast.tw11062088286492784067 = zTw := rfl
noncomputable def PySem.W.Fast.tw468428543879945234 := zTw
theorem PySem.W.Fast.te468428543879945234 : PySem.W.Fast.tw468428543879945234 = zTw := rfl
noncomputable def PySem.W.Fast.tw15776370832670388700 := zTw
theorem PySem.W.Fast.te15776370832670388700 : PySem.W.Fast.tw15776370832670388700 = zTw := rfl
open PySem PySem.W PyProof.Rows
set_option maxRecDepth 100000 in
set_option maxHeartbeats 0 in
theorem PySem.Challenge.cw_mendsure_k66_a_ring_has_a_pair_holds : PySem.Challenge.rw_mendsure_k66_a_ring_has_a_pair.Holds := by
  w_on; o_law; k_head; (case hw => w_witness2)
  k_fill
  refine L2.M.My.walk (l := PySem.Challenge.rw_mendsure_k66_a_ring_has_a_pair) rfl rfl (fun w h Y => PySem.W.kIn_of Y) ?F
  case F =>
    intro w mg fa h KX G hmg
    refine' L2.M.My.all_mk KX G hmg ?D0 ?D1 ?D2 ?D3 ?D4 ?D5 ?D6 ?D7 ?D8 ?D9 ?D10 ?D11 ?D12 ?D13 ?D14 ?D15 ?D16 ?D17 ?D18 ?D19 ?D20 ?zVL ?zVK ?zJZ ?dP ?zVN ?wM ?zHL ?zNT ?yE ?zBR ?zAF
    (case D0 => exact L2.M.def_mk (by k_is) (by k_is) (by k_is) (by k_is) KX G)
    (case D1 => exact L2.M.def_mk (by k_is) (by k_is) (by k_is) (by k_is) KX G)
    (case D2 => exact L2.M.def_mk (by k_is) (by k_is) (by k_is) (by k_is) KX G)
    (case D3 => exact L2.M.def_mk (by k_is) (by k_is) (by k_is) (by k_is) KX G)
    (case D4 => exact L2.M.def_mk (by k_is) (by k_is) (by k_is) (by k_is) KX G)
    (case D5 => exact L2.M.def_mk (by k_is) (by k_is) (by k_is) (by k_is) KX G)
    (case D6 => exact L2.M.def_mk (by k_is) (by k_is) (by k_is) (by k_is) KX G)
    (case D7 => exact L2.M.def_mk (by k_is) (by k_is) (by k_is) (by k_is) KX G)
    (case D8 => exact L2.M.def_mk (by k_is) (by k_is) (by k_is) (by k_is) KX G)
    (case D9 => exact L2.M.def_mk (by k_is) (by k_is) (by k_is) (by k_is) KX G)
    (case D10 => exact L2.M.def_mk (by k_is) (by k_is) (by k_is) (by k_is) KX G)
    (case D11 => exact L2.M.def_mk (by k_is) (by k_is) (by k_is) (by k_is) KX G)
    (case D12 => exact L2.M.def_mk (by k_is) (by k_is) (by k_is) (by k_is) KX G)
    (case D13 => exact L2.M.def_mk (by k_is) (by k_is) (by k_is) (by k_is) KX G)
    (case D14 => exact L2.M.def_mk (by k_is) (by k_is) (by k_is) (by k_is) KX G)
    (case D15 => exact L2.M.def_mk (by k_is) (by k_is) (by k_is) (by k_is) KX G)
    (case D16 => exact L2.M.def_mk (by k_is) (by k_is) (by k_is) (by k_is) KX G)
    (case D17 => exact L2.M.def_mk (by k_is) (by k_is) (by k_is) (by k_is) KX G)
    (case D18 => exact L2.M.def_mk (by k_is) (by k_is) (by k_is) (by k_is) KX G)
    (case D19 => exact L2.M.def_mk (by k_is) (by k_is) (by k_is) (by k_is) KX G)
    (case D20 => exact L2.M.def_mk (by k_is) (by k_is) (by k_is) (by k_is) KX G)
    (case zVL => k_is)
    (case zVK => k_is)
    (case zJZ => k_is)
    (case dP => k_is)
    (case zVN => k_is)
    (case wM => k_is)
    (case zHL => k_is)
    (case zNT => k_is)
    (case yE => k_is)
    (case zBR => k_is)
    (case zAF => k_is)
