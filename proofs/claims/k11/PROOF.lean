
import PyProof.Rows.All
import Wide.All
import OpenK.AllK
import Wide.FinOn
import Lean
import PyProof.EqAt
import PyProof.EqKinds
import PyProof.TupleCall
import PySem.Challenge.RW_mendsure_k11_breaks_of_sets
set_option Elab.async false
set_option linter.all false
set_option maxRecDepth 100000
open List (all_cons all_eq_true all_map any_cons any_eq_false drop_eq_getElem_cons drop_length drop_of_length_le ext_getElem? filterMap_cons filterMap_cons_some filter_cons_of_neg filter_cons_of_pos flatMap_cons flatten_cons foldl_cons forIn_cons forIn_nil getD_eq_getElem?_getD getElem?_append_left getElem?_append_right getElem?_drop getElem?_eq_none getElem?_map getElem?_of_mem getElem?_set_ne getElem?_set_self getElem?_take_of_lt getElem_drop getElem_inj getElem_mem getElem_take le_antisymm le_trans length_drop length_filter_le length_nil length_range length_replicate length_set length_zip lookup_cons lt_asymm lt_irrefl map_append map_cons map_map mem_append mem_append_left mem_append_right mem_filter mem_filterMap mem_of_getElem? mem_of_mem_take mem_range nil_append nodup_cons not_lt of_mem_zip pairwise_append pairwise_cons perm_append_comm replicate_succ set_append_left take_add take_append_drop take_of_length_le zipIdx_cons zipIdx_nil zip_cons_cons zip_nil_left)
open Bool (or_eq_true)
open Nat (add_assoc add_sub_cancel add_zero le_of_eq le_of_lt le_refl le_succ le_trans lt_irrefl lt_of_lt_of_le lt_succ_self min_eq_left mul_le_mul ne_of_gt ne_of_lt not_lt sub_self zero_add zero_le)
open Int (toNat_natCast)
theorem xF0:¬(false=true):=Bool.false_ne_true

abbrev dF0:=@decide_eq_false
abbrev dT0:=@decide_eq_true
abbrev iP:=@if_pos
abbrev iN:=@if_neg
abbrev mC:=@List.mem_cons
abbrev lC:=@List.length_cons
abbrev mO:=@List.mem_cons_of_mem
abbrev lM:=@List.length_map
abbrev nM0:=@List.not_mem_nil
abbrev mS:=@List.mem_singleton
abbrev mF0:=@List.mem_cons_self
abbrev fT0:=@Bool.false_eq_true
abbrev sA0:=@List.size_toArray
abbrev lS:=@List.length_singleton
abbrev eL:=@Int.emod_lt_of_pos
abbrev eN0:=@Int.emod_nonneg
abbrev aE:=@Bool.and_eq_true
abbrev iF:=@if_false
abbrev aN:=@List.append_nil
abbrev lA:=@List.length_append
abbrev gS0:=@List.getElem?_eq_some_iff
abbrev gE0:=@List.getElem?_eq_getElem
abbrev wB0:=@PySem.wpAny_bind
abbrev wP0:=@PySem.wpAny_pure
abbrev hP0:=@PySem.Heap.get?_push_of_some
abbrev mM:=@List.mem_map
abbrev lT:=@List.length_take
abbrev aA:=@List.append_assoc
abbrev VP:=PySem.Value->PySem.Shared->Prop
namespace L2
open PySem PySem.Spec PyProof.Rows
abbrev Key:=Sum Int Str
def yPW:Key->Value->Bool
 |.inl k,v=>Value.isInt k v
 |.inr x,v=>Value.isStrOf x v
def keyH(w:World):Key->Int
 |.inl k=>hashInt k
 |.inr x=>hashStr w x
theorem wN: ∀{k:Key}{v:Value},yPW k v=true->(∃i t,k=Sum.inl i/\v=Value.int i t)\/(∃x t,k=Sum.inr x/\v=Value.str x t)
 |.inl i,v,h=>by
  obtain⟨t,e⟩:=Value.isInt_shape (k:=i) (v:=v) h
  exact .inl ⟨i,t,rfl,e⟩
 |.inr x,v,h=>by
  obtain⟨t,e⟩:=Value.isStrOf_shape (x:=x) (v:=v) h
  exact .inr ⟨x,t,rfl,e⟩
theorem yQH(a b:Int):decide ((Sum.inl a:Key)=Sum.inl b)=(a==b):=by
 by_cases e:a=b
 ·subst e;simp
 ·have h: ¬(Sum.inl a:Key)=Sum.inl b:=λq=>e (Sum.inl.inj q)
  rw [dF0 h]
  exact(beq_eq_false_iff_ne.mpr e).symm
theorem yQI(a b:Str):decide ((Sum.inr a:Key)=Sum.inr b)=decide (a=b):=by
 by_cases e:a=b
 ·subst e;simp
 ·have h: ¬(Sum.inr a:Key)=Sum.inr b:=λq=>e (Sum.inr.inj q)
  rw [dF0 h,dF0 e]
theorem yQJ(a:Int)(b:Str):decide ((Sum.inl a:Key)=Sum.inr b)=false:=dF0 (λq=>nomatch q)
theorem yQK(a:Str)(b:Int):decide ((Sum.inr a:Key)=Sum.inl b)=false:=dF0 (λq=>nomatch q)
def zQT(prog:Program)(w:World):PySem.KeyKind prog w Key where
 is:=yPW
 hash:=keyH w
 inj:=λv a b ha hb=>by
  rcases wN ha with⟨i,t,rfl,rfl⟩|⟨x,t,rfl,rfl⟩
  ·rcases wN hb with⟨j,u,rfl,e⟩|⟨y,u,rfl,e⟩
   ·injection e with e1 _;rw [e1]
   ·exact nomatch e
  ·rcases wN hb with⟨j,u,rfl,e⟩|⟨y,u,rfl,e⟩
   ·exact nomatch e
   ·injection e with e1 _;rw [e1]
 byValue:=λk v h=>by
  rcases wN h with⟨i,t,rfl,rfl⟩|⟨x,t,rfl,rfl⟩<;>rfl
 pyHash:=λhv h=>by
  rcases wN hv with⟨i,t,rfl,rfl⟩|⟨x,t,rfl,rfl⟩
  ·exact wpAny_pyHash_int h
  ·exact wpAny_pyHash_str h
 eqBool:=λhu hv h=>by
  rcases wN hu with⟨i,t,rfl,rfl⟩|⟨x,t,rfl,rfl⟩
  ·rcases wN hv with⟨j,u,rfl,rfl⟩|⟨y,u,rfl,rfl⟩
   ·rw [yQH]at h;exact wpAny_eqBool_int h
   ·rw [yQJ]at h;exact SeqAt.EqAt.int_str i t y u _ _ _ _ h
  ·rcases wN hv with⟨j,u,rfl,rfl⟩|⟨y,u,rfl,rfl⟩
   ·rw [yQK]at h;exact SeqAt.EqAt.str_int x t j u _ _ _ _ h
   ·rw [yQI]at h;exact wpAny_eqBool_str h
 «strs»:=λk x t v h=>by
  rcases wN h with⟨i,u,rfl,e⟩|⟨y,u,rfl,e⟩
  ·exact nomatch e
  ·injection e with e1 _
   subst e1
   cases v<;>rfl
inductive V where
 |non|bl (b:Bool)|int (i:Int)|str (x:Str)|byt (b:Array UInt8)|flt (b:UInt64)|ref (a:Addr)|ty (n:String)
 deriving DecidableEq
def RelV:V->Value->Prop
 |.non,u=>u=Value.none
 |.bl b,u=>u=Value.bool b
 |.int i,u=> ∃t,u=Value.int i t
 |.str x,u=> ∃t,u=Value.str x t
 |.byt b,u=> ∃t,u=Value.bytes b t
 |.flt b,u=> ∃t,u=Value.float b t
 |.ref a,u=>u=Value.ref a
 |.ty n,u=>u=Value.type n
abbrev Vals:List V->List Value->Prop:=Paired RelV
theorem Vals.length{xs:List V}{us:List Value}(r:Vals xs us):xs.length=us.length:=Paired.length r
theorem Vals.get: ∀{xs:List V}{us:List Value}{i:Nat}{x:V},Vals xs us->xs[i]? =some x-> ∃u,us[i]? =some u/\RelV x u
 |_,_,_,_,.nil,e=>by simp at e
 |_,_,0,_,.cons r _,e=>by simp at e;subst e;exact⟨_,rfl,r⟩
 |_,_,i+1,x,.cons _ t,e=>by
  obtain⟨u,h1,h2⟩:=Vals.get (i:=i) (x:=x) t (by simpa using e)
  exact⟨u,by simpa using h1,h2⟩
theorem Vals.set{x:V}{u:Value}(r:RelV x u): ∀{xs:List V}{us:List Value}(i:Nat),Vals xs us->Vals (xs.set i x) (us.set i u)
 |_,_,_,.nil=>.nil
 |_,_,0,.cons _ t=>.cons r t
 |_,_,i+1,.cons q t=>.cons q (Vals.set r i t)
theorem Vals.append: ∀{xs ys:List V}{us ws:List Value},Vals xs us->Vals ys ws->Vals (xs++ys) (us++ws)
 |_,_,_,_,.nil,s=>s
 |_,_,_,_,.cons r t,s=>.cons r (Vals.append t s)
theorem Vals.take: ∀{xs:List V}{us:List Value}(n:Nat),Vals xs us->Vals (xs.take n) (us.take n)
 |_,_,0,_=>.nil
 |_,_,_+1,.nil=>.nil
 |_,_,n+1,.cons r t=>.cons r (Vals.take n t)
theorem Vals.drop: ∀{xs:List V}{us:List Value}(n:Nat),Vals xs us->Vals (xs.drop n) (us.drop n)
 |_,_,0,r=>r
 |_,_,_+1,.nil=>.nil
 |_,_,n+1,.cons _ t=>Vals.drop n t
theorem Vals.none_of: ∀{xs:List V}{us:List Value}{i:Nat},Vals xs us->xs[i]? =none->us[i]? =none:=λ{xs us i} r e=>by
 have h1:=r.length
 have h2:xs.length<=i:=List.getElem?_eq_none_iff.mp e
 exact List.getElem?_eq_none_iff.mpr (by omega)
def RelO:Option V->Option Value->Prop
 |some v,some u=>RelV v u
 |none,none=>True
 |_,_=>False
def KV{κ:Type}:List (κ×V)->List (κ×Value)->Prop:=Paired λ(p:κ×V) (q:κ×Value)=>p.1=q.1/\RelV p.2 q.2
def kV:Key->V
 |.inl i=>.int i
 |.inr x=>.str x
inductive HO where
 |lst (xs:List V)
 |tup (xs:List V)
 |dK (kvs:List (Key×V))|dT (kvs:List (List Key×V))
 |set (S:Int->Bool) (n:Nat)
 |ins (C dx:Addr) (fs:List (Str×V))
 |own (x:Addr)
 |xd (fs:List (Str×V))
 |met (f x:Addr)
 |rng (lo hi:Int)
 |frz (o:Obj) (u:HO)
 |tbl (ps:Array Value)
 |ext (φ:Heap->Prop)
abbrev Hp:=Addr->Option HO
def upd(H:Hp)(a:Addr)(o:HO):Hp:=λb=>if b=a then some o else H b
theorem xU{H:Hp}{a:Addr}{o:HO}:upd H a o a=some o:=by unfold upd;rw [iP rfl]
theorem zZ{H:Hp}{a b:Addr}{o:HO}(h:b≠a):upd H a o b=H b:=by unfold upd;rw [iN h]
theorem yEC{H:Hp}{a:Addr}{o u:HO}:upd (upd H a o) a u=upd H a u:=by
 funext b;unfold upd;split<;>rfl
theorem yK{H:Hp}{a b:Addr}{o:HO}(h:H a=some o)(h':H b=none):a≠b:=by
 intro e;subst e;rw [h]at h';cases h'
section
variable(P:Program)(w:World)
def ObjOk(H:Hp)(h:Heap)(a:Addr):HO->Prop
 |.lst xs=>xs.length<=sizeLine/\ ∃(its:List Value)(n:Nat),Vals xs its/\h.get? a=some {cls:=.type "list",data:=.seq its.toArray n}
 |.tup xs=>xs.length<=sizeLine/\ ∃its:List Value,Vals xs its/\IsTup h a its.toArray
 |.dK kvs=>kvs.length<=sizeLine/\(a==sysModules)=false/\ ∃vs,KV kvs vs/\h.DictOf (zQT P w) a vs
 |.dT kvs=>kvs.length<=sizeLine/\(a==sysModules)=false/\ ∃xs:List (List Key×Addr×Value),
   Paired (λ(p:List Key×V) (q:List Key×Addr×Value)=>p.1=q.1/\H q.2.1=some (.tup (p.1.map kV))/\RelV p.2 q.2.2) kvs xs/\
   ∃o es ep,h.get? a=some o/\o.ExactDict/\o.data=.dict es ep/\es.toList=xs.map (entryOfKey (tupleKind (zQT P w)))/\(xs.map (·.1)).Nodup
 |.set S n=>h.SetOf (intKind P w) a S n
 |.ins C dx fs=>H dx=some (.own a)/\fs.length<=1000/\dx≠a/\h.get? a=some (PySem.W.instObj C dx)/\
   ∃mA,h.Ns1 dx mA/\(∀f,RelO (fs.lookup f) (mA f))/\PySem.Within mA (fs.map (·.1))
 |.own _=> ∃o,h.get? a=some o
 |.xd fs=> ∃mA,h.Ns1 a mA/\ ∀f,RelO (fs.lookup f) (mA f)
 |.rng lo hi=> ∃t u v,h.get? a=some {cls:=.type "range",data:=.fields #[.int lo t,.int hi u,.int 1 v]}
 |.frz o u=>h.get? a=some o/\ObjOk H h a u
 |.tbl ps=>h.get? a=some {cls:=.none,data:=.fields ps}
 |.met f x=>h.get? a=some (PySem.W.methodObj (.ref f) (.ref x))
 |.ext φ=>φ h/\(∃o,h.get? a=some o)/\ ∀h1 h2:Heap,φ h1->(∀o,h1.get? a=some o->h2.get? a=some o)->φ h2
def HOk(H:Hp)(h:Heap):Prop:= ∀a o,H a=some o->ObjOk P w H h a o
end
section
variable{P:Program}{w:World}{H H':Hp}{h h':Heap}{a:Addr}{o:HO}
theorem ObjOk.lt(x:ObjOk P w H h a o):a<h.objs.size:=by
 cases o with
 |lst xs=>obtain⟨_,_,_,_,e⟩:=x;exact Heap.lt_size e
 |tup xs=>obtain⟨_,_,_,p⟩:=x;exact p.lt
 |dK kvs=>obtain⟨_,_,_,_,o,_,_,e,_⟩:=x;exact Heap.lt_size e
 |dT kvs=>obtain⟨_,_,_,_,o,_,_,e,_⟩:=x;exact Heap.lt_size e
 |set S n=>obtain⟨o,_,_,_,e,_⟩:=x;exact Heap.lt_size e
 |ins C dx fs=>obtain⟨_,_,_,e,_⟩:=x;exact Heap.lt_size e
 |own y=>obtain⟨_,e⟩:=x;exact Heap.lt_size e
 |xd fs=>obtain⟨_,⟨_,_,_,e,_⟩,_⟩:=x;exact Heap.lt_size e
 |rng lo hi=>obtain⟨_,_,_,e⟩:=x;exact Heap.lt_size e
 |frz ob u=>obtain⟨e,_⟩:=x;exact Heap.lt_size e
 |tbl ps=>exact Heap.lt_size (show h.get? a=some _ from x)
 |met f y=>exact Heap.lt_size (show h.get? a=some _ from x)
 |ext φ=>obtain⟨_,⟨_,e⟩,_⟩:=x;exact Heap.lt_size e
theorem Paired.mapP{α β:Type}{F G:α->β->Prop}: ∀{l₁:List α}{l₂:List β},Paired F l₁ l₂->(∀a b,F a b->G a b)->Paired G l₁ l₂
 |_,_,.nil,_=>.nil
 |_,_,.cons r t,f=>.cons (f _ _ r) (Paired.mapP t f)
theorem ObjOk.stay(x:ObjOk P w H h a o)(k: ∀b u,(b=a\/H b=some (.own a))->h.get? b=some u->h'.get? b=some u)
  (ho: ∀b,H b=some (.own a)->H' b=some (.own a)) (ht: ∀b xs,H b=some (.tup xs)->H' b=some (.tup xs)):ObjOk P w H' h' a o:=by
 induction o with
 |lst xs=>obtain⟨z,its,n,r,e⟩:=x;exact⟨z,its,n,r,k _ _ (.inl rfl) e⟩
 |tup xs=>obtain⟨z,its,r,ob,e,c⟩:=x;exact⟨z,its,r,ob,k _ _ (.inl rfl) e,c⟩
 |dK kvs=>obtain⟨z,y,vs,r,ob,es,ep,e,c⟩:=x;exact⟨z,y,vs,r,ob,es,ep,k _ _ (.inl rfl) e,c⟩
 |dT kvs=>
  obtain⟨z,y,xs,r,ob,es,ep,e,c⟩:=x
  exact⟨z,y,xs,Paired.mapP r λp q z=>⟨z.1,ht _ _ z.2.1,z.2.2⟩,ob,es,ep,k _ _ (.inl rfl) e,c⟩
 |set S n=>obtain⟨ob,es,ep,t,e,c⟩:=x;exact⟨ob,es,ep,t,k _ _ (.inl rfl) e,c⟩
 |ins C dx fs=>
  obtain⟨d,z,ne,e,mA,⟨od,es,ep,e2,c⟩,r⟩:=x
  exact⟨ho _ d,z,ne,k _ _ (.inl rfl) e,mA,⟨od,es,ep,k _ _ (.inr d) e2,c⟩,r⟩
 |own y=>obtain⟨ob,e⟩:=x;exact⟨ob,k _ _ (.inl rfl) e⟩
 |xd fs=>obtain⟨mA,⟨od,es,ep,e,c⟩,r⟩:=x;exact⟨mA,⟨od,es,ep,k _ _ (.inl rfl) e,c⟩,r⟩
 |rng lo hi=>obtain⟨t,u,v,e⟩:=x;exact⟨t,u,v,k _ _ (.inl rfl) e⟩
 |frz ob u ih=>obtain⟨e,q⟩:=x;exact⟨k _ _ (.inl rfl) e,ih q⟩
 |tbl ps=>
  have e:h.get? a=some {cls:=.none,data:=.fields ps}:=x
  show h'.get? a=some {cls:=.none,data:=.fields ps}
  exact k a _ (.inl rfl) e
 |met f y=>
  have e:h.get? a=some (PySem.W.methodObj (.ref f) (.ref y)):=x
  show h'.get? a=some (PySem.W.methodObj (.ref f) (.ref y))
  exact k a _ (.inl rfl) e
 |ext φ=>obtain⟨p,⟨o,e⟩,st⟩:=x;exact⟨st _ _ p λo q=>k _ _ (.inl rfl) q,⟨o,k _ _ (.inl rfl) e⟩,st⟩
theorem HOk.lt(x:HOk P w H h)(e:H a=some o):a<h.objs.size:=(x a o e).lt
theorem HOk.fresh(x:HOk P w H h)(e:h.objs.size<=a):H a=none:=by
 cases q:H a with
 |none=>rfl
 |some u=>exact absurd (lt_of_lt_of_le (x.lt q) e) (lt_irrefl _)
theorem HOk.kept(x:HOk P w H h)(k: ∀b u,h.get? b=some u->h'.get? b=some u):HOk P w H h':=λa o e=>
 (x a o e).stay (λb u _ q=>k b u q) (λ_ q=>q) λ_ _ q=>q
theorem HOk.laid(x:HOk P w H h)(k: ∀b u,h.get? b=some u->h'.get? b=some u)(hp:h.objs.size<=a)(new:ObjOk P w (upd H a o) h' a o):HOk P w (upd H a o) h':=λb u e=>by
 have hn:=x.fresh hp
 by_cases hb:b=a
 ·subst hb;rw [xU]at e;cases e;exact new
 ·rw [zZ hb]at e
  exact(x b u e).stay (λc v _ q=>k c v q) (λc q=>by rw [zZ (yK q hn)];exact q) λc xs q=>by rw [zZ (yK q hn)];exact q
end
def Rd(H:Hp)(a:Addr)(u:HO):Prop:=H a=some u\/ ∃o,H a=some (.frz o u)
theorem Rd.ok{P:Program}{w:World}{H:Hp}{h:Heap}{a:Addr}{u:HO}(r:Rd H a u)(x:HOk P w H h):ObjOk P w H h a u:=by
 rcases r with r|⟨o,r⟩
 ·exact x a u r
 ·obtain⟨_,q⟩:=x a _ r
  exact q
def Mut:Option HO->Prop
 |some (.lst _)=>True
 |some (.dK _)=>True
 |some (.dT _)=>True
 |some (.set _ _)=>True
 |some (.ins _ _ _)=>True
 |some (.ext _)=>True
 |_=>False
section
variable{P:Program}{w:World}{H:Hp}{h h':Heap}{x e:Addr}{o':HO}
theorem HOk.write(ok:HOk P w H h)(mu:Mut (H x))(he:e=x\/H e=some (.own x))(k: ∀b u,b≠e->h.get? b=some u->h'.get? b=some u)(heo: ∃u,h'.get? e=some u)
  (new:ObjOk P w (upd H x o') h' x o'):HOk P w (upd H x o') h':=λb u q=>by
 have nown: ∀c y,H c=some (.own y)->c≠x:=λc y r z=>by subst z;rw [r]at mu;exact mu
 have ntup: ∀c xs,H c=some (.tup xs)->c≠x:=λc xs r z=>by subst z;rw [r]at mu;exact mu
 by_cases hb:b=x
 ·subst hb;rw [xU]at q;cases q;exact new
 ·rw [zZ hb]at q
  by_cases hbe:b=e
  ·have q':H b=some (.own x):=by
    rcases he with z|z
    ·exact absurd (hbe.trans z) hb
    ·rw [hbe];exact z
   rw [q]at q';cases q'
   obtain⟨v,hv⟩:=heo
   exact⟨v,by rw [hbe];exact hv⟩
  ·refine(ok b u q).stay (λc v hc r=>k c v ?_ r) (λc r=>by rw [zZ (nown c b r)];exact r) λc xs r=>by rw [zZ (ntup c xs r)];exact r
   rcases hc with rfl|hc
   ·exact hbe
   ·rintro rfl
    rcases he with z|z
    ·exact nown c b hc z
    ·rw [hc]at z;cases z;exact hb rfl
end
structure Un(fs ex:List Addr)(H H':Hp)(h h':Heap):Prop where
 keep: ∀b o,h.get? b=some o->H b=none->b∉fs->b∉ex->h'.get? b=some o
 slot: ∀b o,h.get? b=some o->H b=none->b∈fs->b∉ex-> ∃sl,h'.get? b=some {o with slots:=sl}
 free: ∀b o,h.get? b=some o->H b=none->b∉ex->H' b=none
 there: ∀b o,h.get? b=some o->b∉ex-> ∃o',h'.get? b=some o'
 tups: ∀b xs,H b=some (.tup xs)->H' b=some (.tup xs)
 frzs: ∀b o u,H b=some (.frz o u)->H' b=some (.frz o u)
 tbls: ∀b ps,H b=some (.tbl ps)-> ∃more,H' b=some (.tbl (ps++more))
section
variable{fs fs' ex ex':List Addr}{H H1 H2:Hp}{h h1 h2 h':Heap}{a x e:Addr}{o:HO}
theorem Un.any(u:Un fs ex H H1 h h1){b:Addr}{ob:Obj}(q:h.get? b=some ob)(n:H b=none)(hx:b∉ex): ∃sl,h1.get? b=some {ob with slots:=sl}:=by
 by_cases hb:b∈fs
 ·exact u.slot b ob q n hb hx
 ·exact⟨ob.slots,u.keep b ob q n hb hx⟩
theorem Un.kept(k: ∀b u,h.get? b=some u->h'.get? b=some u):Un fs ex H H h h':=
 ⟨λb ob q _ _ _=>k b ob q,λb ob q _ _ _=>⟨ob.slots,k b ob q⟩,λ_ _ _ n _=>n,λb ob q _=>⟨ob,k b ob q⟩,λ_ _ q=>q,λ_ _ _ q=>q,λ_ ps q=>⟨#[],by rw [q];simp⟩⟩
theorem Un.refl:Un fs ex H H h h:=Un.kept λ_ _ q=>q
theorem Un.laid(k: ∀b u,h.get? b=some u->h'.get? b=some u)(hp:h.objs.size<=a)(hn:H a=none):Un fs ex H (upd H a o) h h' where
 keep:=λb u q _ _ _=>k b u q
 slot:=λb u q _ _ _=>⟨u.slots,k b u q⟩
 free:=λb u q n _=>by rw [zZ (ne_of_lt (lt_of_lt_of_le (Heap.lt_size q) hp))];exact n
 there:=λb u q _=>⟨u,k b u q⟩
 tups:=λb xs q=>by rw [zZ (yK q hn)];exact q
 frzs:=λb u xs q=>by rw [zZ (yK q hn)];exact q
 tbls:=λb ps q=>⟨#[],by rw [zZ (yK q hn),q];simp⟩
theorem Un.write(mu:Mut (H x))(he:e=x\/H e=some (.own x))(k: ∀b u,b≠e->h.get? b=some u->h'.get? b=some u)(heo: ∃u,h'.get? e=some u):Un fs ex H (upd H x o) h h':=by
 have hx: ∀b,H b=none->b≠x:=λb n z=>by subst z;rw [n]at mu;exact mu
 have hb: ∀b,H b=none->b≠e:=λb n z=>by
  subst z
  rcases he with r|r
  ·exact hx b n r
  ·rw [n]at r;cases r
 have hm: ∀b u,H b=some u-> ¬Mut (some u)->b≠x:=λb u q nm z=>by subst z;rw [q]at mu;exact nm mu
 refine⟨λb u q n _ _=>k b u (hb b n) q,λb u q n _ _=>⟨u.slots,k b u (hb b n) q⟩,λb u q n _=>by rw [zZ (hx b n)];exact n,λb u q _=>?_,
  λb xs q=>by rw [zZ (hm b _ q λz=>z)];exact q,λb u xs q=>by rw [zZ (hm b _ q λz=>z)];exact q,λb ps q=>⟨#[],by rw [zZ (hm b _ q λz=>z),q];simp⟩⟩
 by_cases hbe:b=e
 ·subst hbe;exact heo
 ·exact⟨u,k b u hbe q⟩
end
def trk(h:Heap)(H:Hp):List Addr:=(List.range h.objs.size).filter λa=>(H a).isSome
def zWI(h:Heap)(H:Hp):Heap:=PySem.W.hideAll h (trk h H)
theorem yGP(h:Heap)(H:Hp):(zWI h H).objs.size=h.objs.size:=PySem.W.hideAll_size _ _
theorem yIN{h:Heap}{H:Hp}{b:Addr}{o:Obj}(e:h.get? b=some o)(n:H b=none):(zWI h H).get? b=some o:=
 PySem.W.hideAll_get _ e λhm=>by
  have q:(H b).isSome=true:=(mem_filter.mp hm).2
  rw [n]at q;simp at q
theorem yMF{h:Heap}{H:Hp}{b:Addr}{o:Obj}(e:(zWI h H).get? b=some o):h.get? b=some o/\H b=none:=by
 have e':h.get? b=some o:=PySem.W.of_hideAll (trk h H) e
 refine⟨e',?_⟩
 cases q:H b with
 |none=>rfl
 |some x=>
  have hm:b∈trk h H:=mem_filter.mpr ⟨mem_range.mpr (Heap.lt_size e'),by simp [q]⟩
  have z:(zWI h H).get? b=none:=PySem.W.hideAll_none (trk h H) hm
  rw [z]at e;cases e
def yMG(g h:Heap)(L:Addr):List (Addr×Obj):=(List.range h.objs.size).filterMap λa=>if a=L\/(g.get? a).isSome=true then none else(h.get? a).map λo=>(a,o)
def rest(g h:Heap)(L d:Addr):List (Addr×Obj):=(yMG g h L).filter λp=>decide (p.1≠d)
structure Mod(K:PySem.W.Frag)(mg:Str->Option Value)(base:Heap):Prop where
 kin:K.In base
 glob:base.Ns mainGlobals mg
 blt: ∃mb,base.Ns builtinsNs mb/\ ∀x:Str,x≠"__name__"->mb x=bootBuiltins x
 nolimit:base.NoLimit
structure Cx where
 prog:Program
 w:World
 K:PySem.W.Frag
 mg:Str->Option Value
 base:Heap
 A:Around
 N:List Str
 s₀:Shared
 H₀:Hp
 env:Env
 outer:List Env
 stack:List Env
 ex:List Addr
 fn:Str->Bool
 calm:Bool
 pn:List (Addr×Obj)
 xe:VP
def frs(l:List Env):List Addr:=l.filterMap (·.frame)
abbrev Cx.fs(X:Cx):List Addr:=frs X.outer
def Vis(sc:Scope)(x:Str):Prop:=sc.names.lookup x=some .local\/sc.names.lookup x=some .cell\/sc.names.lookup x=some .free
def Loc(sc:Scope)(x:Str):Prop:=sc.names.lookup x=some .local\/sc.names.lookup x=some .cell
def Look(env:Env)(h:Heap)(m:Str->Option Value)(x:Str)(u:Value):Prop:=
 (env.kindOf x=some .local/\m x=some u)\/((env.kindOf x=some .cell\/env.kindOf x=some .free)/\ ∃c,env.cells.lookup x=some c/\h.IsCell c (some u))
structure Cx.Ok(X:Cx):Prop where
 mod:Mod X.K X.mg X.base
 kind:X.env.scope.kind=.function
 glob:X.env.globals=mainGlobals
 blt:X.env.builtins=builtinsNs
 above:X.s₀.heap.objs.size<=X.env.locals
 inj: ∀x y c,X.env.cells.lookup x=some c->X.env.cells.lookup y=some c->x=y
 has: ∀x,(X.env.kindOf x=some .cell\/X.env.kindOf x=some .free)-> ∃c,X.env.cells.lookup x=some c
 cab: ∀x c,X.fn x=true->X.env.cells.lookup x=some c->X.s₀.heap.objs.size<=c
 hd:X.calm=true->X.A.handled=none
 frames:X.A.frames=some X.stack
 stk:X.stack=X.outer\/(X.stack=X.env::X.outer/\X.env.frame=some X.env.locals)
 exf: ∀b∈X.ex,b≠X.env.locals/\ ∀x c,X.env.cells.lookup x=some c->c≠b
 bs: ∀b o,X.base.get? b=some o->X.s₀.heap.get? b=some o/\X.H₀ b=none
 bsz:X.base.objs.size<=X.s₀.heap.objs.size
 noex: ∀b o,X.base.get? b=some o->b∉X.ex
 exfs: ∀b∈X.ex,b∉X.fs
 funs:X.s₀.heap.FunFrames X.base X.outer
 frf: ∀b∈X.fs,X.H₀ b=none
structure Inv(X:Cx)(pins:List (Addr×Obj))(σ:List (Option V))(H:Hp)(s:Shared):Prop where
 ok:X.Ok
 os:s.os=X.s₀.os
 bare:AllBare s.gens
 base:Un X.fs X.ex X.H₀ H X.s₀.heap s.heap
 loc: ∃m,s.heap.Ns X.env.locals m/\ ∀(i:Nat)(x:Str)(v:V),X.N[i]? =some x->σ[i]? =some (some v)->Vis X.env.scope x-> ∃u,RelV v u/\Look X.env s.heap m x u
 cell: ∀x c,X.env.cells.lookup x=some c-> ∃v,s.heap.IsCell c v
 free:H X.env.locals=none
 freeC: ∀x c,X.env.cells.lookup x=some c->H c=none
 pin: ∀p∈X.pn++pins,s.heap.get? p.1=some p.2/\H p.1=none/\p.1≠X.env.locals/\p.1∉X.fs/\ ∀v,p.2.data≠.cell v
 hok:HOk X.prog X.w H s.heap
 len:σ.length=X.N.length
section
variable{X:Cx}{pins:List (Addr×Obj)}{σ:List (Option V)}{H H':Hp}{s:Shared}{h':Heap}
theorem Cx.Ok.nofr(ok:X.Ok){b:Addr}{o:Obj}(e:X.base.get? b=some o):b∉X.fs:=λhb=>by
 have:=(ok.funs.mem hb).1
 rw [e]at this;cases this
theorem Inv.bs(I:Inv X pins σ H s): ∀b o,X.base.get? b=some o->s.heap.get? b=some o/\H b=none:=λb o e=>
 ⟨I.base.keep b o (I.ok.bs b o e).1 (I.ok.bs b o e).2 (I.ok.nofr e) (I.ok.noex b o e),I.base.free b o (I.ok.bs b o e).1 (I.ok.bs b o e).2 (I.ok.noex b o e)⟩
theorem Inv.bk(I:Inv X pins σ H s): ∀b o,X.base.get? b=some o->s.heap.get? b=some o:=λb o e=>(I.bs b o e).1
theorem Inv.mod(I:Inv X pins σ H s):Mod X.K X.mg X.base:=I.ok.mod
theorem Inv.kIn(I:Inv X pins σ H s):X.K.In s.heap:=I.ok.mod.kin.keeps I.bk
theorem Inv.lt(I:Inv X pins σ H s):X.env.locals<s.heap.objs.size:=let ⟨_,hn,_⟩:=I.loc;hn.lt
theorem Inv.sz(I:Inv X pins σ H s):X.s₀.heap.objs.size<=s.heap.objs.size:=le_trans I.ok.above (le_of_lt I.lt)
theorem Inv.nofs(I:Inv X pins σ H s){a:Addr}(h:s.heap.objs.size<=a):a∉X.fs:=λhb=>by
 obtain⟨_,o,ho,_⟩:=I.ok.funs.mem hb
 exact absurd (lt_of_lt_of_le (Heap.lt_size ho) (le_trans I.sz h)) (lt_irrefl _)
theorem Inv.cne(I:Inv X pins σ H s): ∀x c,X.env.cells.lookup x=some c->c≠X.env.locals:=λx c e z=>by
 obtain⟨v,o,ho,hd⟩:=I.cell x c e
 obtain⟨m,⟨o',es,ep,ho',hd',_⟩,_⟩:=I.loc
 rw [z,ho']at ho;cases ho;rw [hd']at hd;cases hd
theorem Inv.funs(I:Inv X pins σ H s):s.heap.FunFrames X.base X.outer:=by
 have all: ∀(l:List Env),(∀b∈frs l,b∈X.fs)->X.s₀.heap.FunFrames X.base l->s.heap.FunFrames X.base l:=by
  intro l
  induction l with
  |nil=>intro _ _;trivial
  |cons env r ih=>
   intro hs hl
   obtain⟨hk,⟨L,o,hf,hn,ho,hd⟩,hr⟩:=hl
   have hL:L∈X.fs:=hs L (by unfold frs;rw [filterMap_cons,hf];exact mF0)
   obtain⟨sl,e⟩:=I.base.slot L o ho (I.ok.frf L hL) hL λz=>I.ok.exfs L z hL
   exact⟨hk,⟨L,_,hf,hn,e,hd⟩,ih (λb hb=>hs b (by unfold frs;rw [filterMap_cons,hf];exact mO _ hb)) hr⟩
 exact all X.outer (λ_ hb=>hb) I.ok.funs
theorem Inv.stack(I:Inv X pins σ H s):s.heap.FunFrames X.base X.stack:=by
 rcases I.ok.stk with e|⟨e,hf⟩
 ·rw [e];exact I.funs
 ·rw [e]
  obtain⟨m,hn,_⟩:=I.loc
  refine .cons (by rw [I.ok.kind];decide) hf hn ?_ I.funs
  exact Heap.get?_none_of_le (le_trans I.ok.bsz I.ok.above)
theorem Inv.stkSub(I:Inv X pins σ H s): ∀b∈frs X.stack,b∈X.env.locals::X.fs:=λb hb=>by
 rcases I.ok.stk with e|⟨e,hf⟩
 ·rw [e]at hb;exact mO _ hb
 ·rw [e]at hb
  unfold frs at hb
  rw [filterMap_cons,hf]at hb
  exact hb
theorem Inv.stkFree(I:Inv X pins σ H s): ∀b∈frs X.stack,H b=none:=λb hb=>by
 rcases mC.mp (I.stkSub b hb)with e|hb
 ·rw [e];exact I.free
 ·obtain⟨_,o,ho,_⟩:=I.ok.funs.mem hb
  exact I.base.free b o ho (I.ok.frf b hb) λz=>I.ok.exfs b z hb
theorem Inv.step{g':Array GenState}{t':Nat}{d':Drawn}{ch:List Addr}(I:Inv X pins σ H s)
  (hch: ∀b∈ch,(b∈X.ex\/X.s₀.heap.objs.size<=b)/\b≠X.env.locals/\(∀x c,X.env.cells.lookup x=some c->c≠b)/\ ∀p∈X.pn++pins,p.1≠b)
  (keep: ∀b o,b≠X.env.locals->b∉X.fs->b∉ch->s.heap.get? b=some o->H b=none->h'.get? b=some o)
  (slot: ∀b o,b≠X.env.locals->b∈X.fs->b∉ch->s.heap.get? b=some o->H b=none-> ∃sl,h'.get? b=some {o with slots:=sl}) (free: ∀b o,b∉ch->s.heap.get? b=some o->H b=none->H' b=none)
  (there: ∀b o,b∉ch->s.heap.get? b=some o-> ∃o',h'.get? b=some o')
  (tups: ∀b xs,H b=some (.tup xs)->H' b=some (.tup xs)) (frzs: ∀b o u,H b=some (.frz o u)->H' b=some (.frz o u)) (tbls: ∀b ps,H b=some (.tbl ps)-> ∃more,H' b=some (.tbl (ps++more)))
  (ns: ∀m,s.heap.Ns X.env.locals m->h'.Ns X.env.locals m) (hok:HOk X.prog X.w H' h') (hg:AllBare g'):
  Inv X pins σ H' {s with heap:=h',gens:=g',drawn:=d',toks:=t'}:=by
 have neL: ∀b o,X.s₀.heap.get? b=some o->b≠X.env.locals:=λb o e=>ne_of_lt (lt_of_lt_of_le (Heap.lt_size e) I.ok.above)
 have neC: ∀b o,X.s₀.heap.get? b=some o->b∉X.ex->b∉ch:=λb o e hx hb=>by
  rcases (hch b hb).1 with z|z
  ·exact hx z
  ·exact absurd (lt_of_lt_of_le (Heap.lt_size e) z) (lt_irrefl _)
 have cellK: ∀x c,X.env.cells.lookup x=some c-> ∀v,s.heap.IsCell c v->h'.IsCell c v:=λx c e v ⟨o,ho,hd⟩=>by
  have nch:c∉ch:=λz=>(hch c z).2.2.1 x c e rfl
  by_cases hc:c∈X.fs
  ·obtain⟨sl,q⟩:=slot c o (I.cne x c e) hc nch ho (I.freeC x c e)
   exact⟨_,q,hd⟩
  ·exact⟨o,keep c o (I.cne x c e) hc nch ho (I.freeC x c e),hd⟩
 refine⟨I.ok,I.os,hg,⟨λb o e n hb hx=>?_,λb o e n hb hx=>?_,λb o e n hx=>?_,λb o e hx=>?_,λb xs e=>tups b xs (I.base.tups b xs e),λb o xs e=>frzs b o xs (I.base.frzs b o xs e),λb ps e=>?_⟩,?_,λx c e=>?_,?_,λx c e=>?_,λp hp=>?_,hok,I.len⟩
 ·exact keep b o (neL b o e) hb (neC b o e hx) (I.base.keep b o e n hb hx) (I.base.free b o e n hx)
 ·obtain⟨sl,e1⟩:=I.base.slot b o e n hb hx
  obtain⟨sl',e2⟩:=slot b _ (neL b o e) hb (neC b o e hx) e1 (I.base.free b o e n hx)
  exact⟨sl',e2⟩
 ·obtain⟨o',e1⟩:=I.base.there b o e hx
  exact free b o' (neC b o e hx) e1 (I.base.free b o e n hx)
 ·obtain⟨o',e1⟩:=I.base.there b o e hx
  exact there b o' (neC b o e hx) e1
 ·obtain⟨m1,e1⟩:=I.base.tbls b ps e
  obtain⟨m2,e2⟩:=tbls b _ e1
  exact⟨m1++m2,by rw [e2,Array.append_assoc]⟩
 ·obtain⟨m,hn,hl⟩:=I.loc
  refine⟨m,ns m hn,λi x v e1 e2 e3=>?_⟩
  obtain⟨u,r,l⟩:=hl i x v e1 e2 e3
  refine⟨u,r,?_⟩
  rcases l with l|⟨k,c,e,z⟩
  ·exact .inl l
  ·exact .inr ⟨k,c,e,cellK x c e _ z⟩
 ·obtain⟨v,z⟩:=I.cell x c e
  exact⟨v,cellK x c e v z⟩
 ·obtain⟨m,⟨o,_,_,ho,_⟩,_⟩:=I.loc
  exact free _ o (λz=>(hch _ z).2.1 rfl) ho I.free
 ·obtain⟨v,o,ho,hd⟩:=I.cell x c e
  exact free c o (λz=>(hch c z).2.2.1 x c e rfl) ho (I.freeC x c e)
 ·obtain⟨e,n,ne,nf,d⟩:=I.pin p hp
  have nch:p.1∉ch:=λz=>(hch p.1 z).2.2.2 p hp rfl
  exact⟨keep p.1 p.2 ne nf nch e n,free p.1 p.2 nch e n,ne,nf,d⟩
theorem Inv.un{t':Nat}(I:Inv X pins σ H s)(u:Un X.fs [] H H' s.heap h')(hok:HOk X.prog X.w H' h'):Inv X pins σ H' {s with heap:=h',toks:=t'}:=by
 obtain⟨m,⟨o,es,ep,ho,r⟩,_⟩:=id I.loc
 obtain⟨sl,hL⟩:=u.any ho I.free (by simp)
 exact I.step (g':=s.gens) (d':=s.drawn) (ch:=[]) (λ_ z=>nomatch z) (λb o _ hb _ e n=>u.keep b o e n hb (by simp)) (λb o _ hb _ e n=>u.slot b o e n hb (by simp)) (λb o _ e n=>u.free b o e n (by simp)) (λb o _ e=>u.there b o e (by simp)) u.tups u.frzs u.tbls (λm' hm=>by
  obtain⟨o',es',ep',ho',r'⟩:=hm
  rw [ho]at ho';cases ho'
  exact⟨_,es',ep',hL,r'⟩) hok I.bare
theorem Inv.call{g':Array GenState}{t':Nat}{d':Drawn}{ch:List Addr}(I:Inv X pins σ H s)(u:Un (frs X.stack) ch H H' s.heap h')(hok:HOk X.prog X.w H' h')(hg:AllBare g')
  (hch: ∀b∈ch,(b∈X.ex\/X.s₀.heap.objs.size<=b)/\b≠X.env.locals/\(∀x c,X.env.cells.lookup x=some c->c≠b)/\ ∀p∈X.pn++pins,p.1≠b):
  Inv X pins σ H' {s with heap:=h',gens:=g',drawn:=d',toks:=t'}:=by
 obtain⟨m,⟨o,es,ep,ho,r⟩,_⟩:=id I.loc
 obtain⟨sl,hL⟩:=u.any ho I.free λz=>(hch _ z).2.1 rfl
 exact I.step (ch:=ch) hch (λb o hL hb hc e n=>u.keep b o e n (λz=>(mC.mp (I.stkSub b z)).elim hL hb) hc) (λb o _ _ hc e n=>u.any e n hc) (λb o hc e n=>u.free b o e n hc) (λb o hc e=>u.there b o e hc) u.tups u.frzs u.tbls (λm' hm=>by
  obtain⟨o',es',ep',ho',r'⟩:=hm
  rw [ho]at ho';cases ho'
  exact⟨_,es',ep',hL,r'⟩) hok hg
theorem Inv.turned{t':Nat}{it:Addr}(I:Inv X pins σ H s)(k: ∀b o,b≠it->s.heap.get? b=some o->h'.get? b=some o)(hn:H it=none)(hL:it≠X.env.locals)
  (h1:it∈X.ex\/X.s₀.heap.objs.size<=it) (h2: ∀x c,X.env.cells.lookup x=some c->c≠it) (h3: ∀p∈X.pn++pins,p.1≠it):Inv X pins σ H {s with heap:=h',toks:=t'}:=by
 have nit: ∀b u,H b=some u->b≠it:=λb u e z=>by rw [z,hn]at e;cases e
 refine I.step (g':=s.gens) (d':=s.drawn) (ch:=[it]) (λb hb=>?_) (λb o _ _ hc e _=>k b o (λz=>hc (by simp [z])) e) (λb o _ _ hc e _=>⟨o.slots,k b o (λz=>hc (by simp [z])) e⟩) (λ_ _ _ _ n=>n)
  (λb o hc e=>⟨o,k b o (λz=>hc (by simp [z])) e⟩) (λ_ _ e=>e) (λ_ _ _ e=>e) (λb ps e=>⟨#[],by rw [e];simp⟩) (λm hm=>?_) (λb u e=>?_) I.bare
 ·have e:b=it:=by simpa using hb
  subst e
  exact⟨h1,hL,h2,h3⟩
 ·obtain⟨o,es,ep,ho,r⟩:=hm
  exact⟨o,es,ep,k _ o (Ne.symm hL) ho,r⟩
 ·refine(I.hok b u e).stay (λc v hc q=>k c v ?_ q) (λ_ q=>q) λ_ _ q=>q
  rcases hc with z|z
  ·rw [z];exact nit b u e
  ·exact nit c _ z
theorem Inv.tok(I:Inv X pins σ H s)(t:Nat):Inv X pins σ H {s with toks:=t}:=I.un (h':=s.heap) (t':=t) Un.refl I.hok
theorem Inv.kept{t':Nat}(I:Inv X pins σ H s)(k: ∀b u,s.heap.get? b=some u->h'.get? b=some u):Inv X pins σ H {s with heap:=h',toks:=t'}:=I.un (Un.kept k) (I.hok.kept k)
theorem Inv.laid{a:Addr}{o:HO}{t':Nat}(I:Inv X pins σ H s)(k: ∀b u,s.heap.get? b=some u->h'.get? b=some u)(hp:s.heap.objs.size<=a)(new:ObjOk X.prog X.w (upd H a o) h' a o):
  Inv X pins σ (upd H a o) {s with heap:=h',toks:=t'}:=I.un (Un.laid k hp (I.hok.fresh hp)) (I.hok.laid k hp new)
theorem Inv.write{x e:Addr}{o:HO}{t':Nat}(I:Inv X pins σ H s)(mu:Mut (H x))(he:e=x\/H e=some (.own x))(k: ∀b u,b≠e->s.heap.get? b=some u->h'.get? b=some u)(heo: ∃u,h'.get? e=some u)
  (new:ObjOk X.prog X.w (upd H x o) h' x o):Inv X pins σ (upd H x o) {s with heap:=h',toks:=t'}:=I.un (Un.write mu he k heo) (I.hok.write mu he k heo new)
theorem Inv.pins_of{pins':List (Addr×Obj)}(I:Inv X pins σ H s)(h: ∀p∈pins',s.heap.get? p.1=some p.2/\H p.1=none/\p.1≠X.env.locals/\p.1∉X.fs/\ ∀v,p.2.data≠.cell v):Inv X pins' σ H s:=
 ⟨I.ok,I.os,I.bare,I.base,I.loc,I.cell,I.free,I.freeC,λp hp=>(mem_append.mp hp).elim (λz=>I.pin p (mem_append_left _ z)) (h p),I.hok,I.len⟩
theorem zZI{N:List Str}(hN:N.Nodup){i j:Nat}{x:Str}(a:N[i]? =some x)(b:N[j]? =some x):i=j:=by
 obtain⟨h1,e1⟩:=gS0.mp a
 obtain⟨h2,e2⟩:=gS0.mp b
 exact(getElem_inj hN).mp (e1.trans e2.symm)
theorem zVI{M:Model}{A:Around}{E:VP}{i:Nat}{x:Str}{v:V}{u:Value}{Q:Unit->Shared->Prop}(I:Inv X pins σ H s)(hN:X.N.Nodup)(hi:X.N[i]? =some x)(hx:Loc X.env.scope x)(r:RelV v u)
  (h: ∀s',Inv X pins (σ.set i (some v)) H s'->(∃a,Heap.SameBut a s.heap s'.heap/\(a=X.env.locals\/X.env.cells.lookup x=some a))->Q () s') (hf:X.fn x=true\/X.env.scope.names.lookup x=some .local:=by first |exact .inl rfl|exact .inr rfl|assumption):wpAny M A (storeName X.env x u) Q E s:=by
 obtain⟨m,hn,hl⟩:=id I.loc
 have hcls:(X.env.scope.kind==.class || (X.env.scope.kind==.module&&X.env.locals !=X.env.globals))=false:=by rw [I.ok.kind];rfl
 have hiσ:i<σ.length:=by rw [I.len];exact(gS0.mp hi).1
 have cne:=I.cne
 have tracked: ∀{a:Addr}{h':Heap},(∃o,s.heap.get? a=some o/\H a=none)->Heap.SameBut a s.heap h'->HOk X.prog X.w H h':=λ{a h'} ha hs b ob e=>by
  obtain⟨_,_,hfree⟩:=ha
  refine(I.hok b ob e).stay (λc w' hc q=>(hs.2 c ?_).trans q) (λ_ q=>q) λ_ _ q=>q
  rintro rfl
  rcases hc with rfl|hc
  ·rw [hfree]at e;cases e
  ·rw [hfree]at hc;cases hc
 rcases hx with hk|hk
 ·refine wpAny_storeName_local hk hn (λh' hn' hs=>?_) hcls
  obtain⟨oL,_,_,hoL,_⟩:=id hn
  refine h _ ⟨I.ok,I.os,I.bare,⟨λb o e n hb hx=>?_,λb o e n hb hx=>?_,I.base.free,λb o e hx=>?_,I.base.tups,I.base.frzs,I.base.tbls⟩,⟨_,hn',λj y v' e1 e2 e3=>?_⟩,λy c e=>?_,I.free,I.freeC,λp hp=>?_,tracked ⟨oL,hoL,I.free⟩ hs,by simpa using I.len⟩ ⟨_,hs,.inl rfl⟩
  ·exact(hs.2 b (ne_of_lt (lt_of_lt_of_le (Heap.lt_size e) I.ok.above))).trans (I.base.keep b o e n hb hx)
  ·obtain⟨sl,e1⟩:=I.base.slot b o e n hb hx
   exact⟨sl,(hs.2 b (ne_of_lt (lt_of_lt_of_le (Heap.lt_size e) I.ok.above))).trans e1⟩
  ·obtain⟨o',e1⟩:=I.base.there b o e hx
   exact⟨o',(hs.2 b (ne_of_lt (lt_of_lt_of_le (Heap.lt_size e) I.ok.above))).trans e1⟩
  ·by_cases hj:j=i
   ·subst hj
    rw [hi]at e1;cases e1
    rw [getElem?_set_self hiσ]at e2
    cases e2
    exact⟨u,r,.inl ⟨hk,by simp⟩⟩
   ·rw [getElem?_set_ne (Ne.symm hj)]at e2
    obtain⟨u',r',q⟩:=hl j y v' e1 e2 e3
    refine⟨u',r',?_⟩
    rcases q with⟨k,e⟩|⟨k,c,e,z⟩
    ·refine .inl ⟨k,?_⟩
     have:y≠x:=λe=>hj (zZI hN e1 (e▸hi))
     simp [this,e]
    ·exact .inr ⟨k,c,e,z.sameBut hs (cne y c e)⟩
  ·obtain⟨w',z⟩:=I.cell y c e
   exact⟨w',z.sameBut hs (cne y c e)⟩
  ·obtain⟨e,n,ne,nf,d⟩:=I.pin p hp
   exact⟨(hs.2 p.1 ne).trans e,n,ne,nf,d⟩
 ·have hfn:X.fn x=true:=by
   rcases hf with z|z
   ·exact z
   ·rw [z]at hk;cases hk
  obtain⟨c,hc⟩:=I.ok.has x (.inl hk)
  obtain⟨w',z⟩:=I.cell x c hc
  refine wpAny_storeName_cell I.ok.kind hk hc z (λh' hc' hs=>?_)
  obtain⟨oc,hoc,hocd⟩:=id z
  refine h {s with heap:=h'} ⟨I.ok,I.os,I.bare,⟨λb o e n hb hx=>?_,λb o e n hb hx=>?_,I.base.free,λb o e hx=>?_,I.base.tups,I.base.frzs,I.base.tbls⟩,⟨m,hn.sameBut hs (Ne.symm (cne x c hc)),λj y v' e1 e2 e3=>?_⟩,λy c' e=>?_,I.free,I.freeC,λp hp=>?_,tracked ⟨oc,hoc,I.freeC x c hc⟩ hs,by simpa using I.len⟩ ⟨c,hs,.inr hc⟩
  ·exact(hs.2 b (ne_of_lt (lt_of_lt_of_le (Heap.lt_size e) (I.ok.cab x c hfn hc)))).trans (I.base.keep b o e n hb hx)
  ·obtain⟨sl,e1⟩:=I.base.slot b o e n hb hx
   exact⟨sl,(hs.2 b (ne_of_lt (lt_of_lt_of_le (Heap.lt_size e) (I.ok.cab x c hfn hc)))).trans e1⟩
  ·obtain⟨o',e1⟩:=I.base.there b o e hx
   exact⟨o',(hs.2 b (ne_of_lt (lt_of_lt_of_le (Heap.lt_size e) (I.ok.cab x c hfn hc)))).trans e1⟩
  ·by_cases hj:j=i
   ·subst hj
    rw [hi]at e1;cases e1
    rw [getElem?_set_self hiσ]at e2
    cases e2
    exact⟨u,r,.inr ⟨.inl hk,c,hc,hc'⟩⟩
   ·rw [getElem?_set_ne (Ne.symm hj)]at e2
    obtain⟨u',r',q⟩:=hl j y v' e1 e2 e3
    refine⟨u',r',?_⟩
    rcases q with q|⟨k,c',e,z'⟩
    ·exact .inl q
    ·refine .inr ⟨k,c',e,z'.sameBut hs ?_⟩
     rintro rfl
     exact hj (zZI hN e1 (I.ok.inj _ _ _ e hc▸hi))
  ·by_cases hcc:c'=c
   ·subst hcc;exact⟨_,hc'⟩
   ·obtain⟨w2,z2⟩:=I.cell y c' e
    exact⟨w2,z2.sameBut hs hcc⟩
  ·obtain⟨e,n,ne,nf,d⟩:=I.pin p hp
   refine⟨(hs.2 p.1 ?_).trans e,n,ne,nf,d⟩
   intro q
   rw [q,hoc]at e
   have q':oc=p.2:=Option.some.inj e
   exact d w' (by rw [<-q'];exact hocd)
theorem zZJ{M:Model}{A:Around}{E:VP}{i:Nat}{x:Str}{v:V}{u:Value}{Q:Unit->Shared->Prop}(I:Inv X pins σ H s)(hN:X.N.Nodup)(hi:X.N[i]? =some x)(hx:Loc X.env.scope x)(r:RelV v u)
  (h: ∀s',Inv X pins (σ.set i (some v)) H s'->Q () s') (hf:X.fn x=true\/X.env.scope.names.lookup x=some .local:=by first |exact .inl rfl|exact .inr rfl|assumption):wpAny M A (storeName X.env x u) Q E s:=
 zVI I hN hi hx r (λs' I' _=>h s' I') hf
theorem Inv.call'{s':Shared}{ch:List Addr}(I:Inv X pins σ H s)(ho:s'.os=s.os)(u:Un (frs X.stack) ch H H' s.heap s'.heap)(hok:HOk X.prog X.w H' s'.heap)(hg:AllBare s'.gens)
  (hch: ∀b∈ch,(b∈X.ex\/X.s₀.heap.objs.size<=b)/\b≠X.env.locals/\(∀x c,X.env.cells.lookup x=some c->c≠b)/\ ∀p∈X.pn++pins,p.1≠b):Inv X pins σ H' s':=by
 obtain⟨h',g',d',t',o'⟩:=s'
 have e:o'=s.os:=ho
 subst e
 exact I.call (g':=g') (t':=t') (d':=d') u hok hg hch
end
abbrev XK:=Value->Option Addr->Hp->Prop
abbrev St:=List (Option V)
abbrev VK:=V->Hp->Prop
abbrev TE:=St->Hp->VK->Prop
abbrev TT:=St->Hp->(Bool->Hp->Prop)->Prop
abbrev TA:=St->Hp->(List V->Hp->Prop)->Prop
structure Ends where
 nx:St->Hp->Prop
 rt:VK
 bk:St->Hp->Prop:=λ_ _=>False
 ct:St->Hp->Prop:=λ_ _=>False
abbrev TS:=Ends->St->Hp->Prop
def EP(X:Cx)(pins:List (Addr×Obj))(σ:St)(Q:VK)(u:Value)(s':Shared):Prop:= ∃v H',Inv X pins σ H' s'/\RelV v u/\Q v H'
def TP(X:Cx)(pins:List (Addr×Obj))(σ:St)(Q:Bool->Hp->Prop)(b:Bool)(s':Shared):Prop:= ∃H',Inv X pins σ H' s'/\Q b H'
def AP(X:Cx)(pins:List (Addr×Obj))(σ:St)(Q:List V->Hp->Prop)(us:List Value)(s':Shared):Prop:= ∃vs H',Inv X pins σ H' s'/\Vals vs us/\Q vs H'
def SP(X:Cx)(pins:List (Addr×Obj))(D:Ends)(f:Flow)(s':Shared):Prop:=
 match f with
 |.next=> ∃σ' H',Inv X pins σ' H' s'/\D.nx σ' H'
 |.brk=> ∃σ' H',Inv X pins σ' H' s'/\D.bk σ' H'
 |.cont=> ∃σ' H',Inv X pins σ' H' s'/\D.ct σ' H'
 |.ret u=> ∃v σ' H',Inv X pins σ' H' s'/\RelV v u/\D.rt v H'
def PE(X:Cx)(e:Expr)(t:TE):Prop:=
 ∀(pins:List (Addr×Obj))(s:Shared)(σ:St)(H:Hp)(Q:VK),Inv X pins σ H s->t σ H Q->wpAny (model X.prog X.w) X.A (eval e X.env) (EP X pins σ Q) X.xe s
def PT(X:Cx)(e:Expr)(t:TT):Prop:=
 ∀(pins:List (Addr×Obj))(s:Shared)(σ:St)(H:Hp)(Q:Bool->Hp->Prop),Inv X pins σ H s->t σ H Q->wpAny (model X.prog X.w) X.A (isTrue e X.env (eval e X.env)) (TP X pins σ Q) X.xe s
def PW(X:Cx)(e:Expr)(t:TT):Prop:=
 ∀(whole:Sem Value)(pins:List (Addr×Obj))(s:Shared)(σ:St)(H:Hp)(Q:Bool->Hp->Prop),Inv X pins σ H s->t σ H Q->wpAny (model X.prog X.w) X.A (isTrue e X.env whole) (TP X pins σ Q) X.xe s
theorem PW.pt{X:Cx}{e:Expr}{t:TT}(h:PW X e t):PT X e t:=h _
def PA(X:Cx)(es:List Expr)(t:TA):Prop:=
 ∀(pos:Pos)(pins:List (Addr×Obj))(s:Shared)(σ:St)(H:Hp)(Q:List V->Hp->Prop),Inv X pins σ H s->t σ H Q->wpAny (model X.prog X.w) X.A (spliced (backTo pos (starEach es X.env))) (AP X pins σ Q) X.xe s
def PS(X:Cx)(st:Stmt)(t:TS):Prop:=
 ∀(pins:List (Addr×Obj))(s:Shared)(σ:St)(H:Hp)(D:Ends),Inv X pins σ H s->t D σ H->wpAny (model X.prog X.w) X.A (exec st X.env) (SP X pins D) X.xe s
def PSs(X:Cx)(st:List Stmt)(t:TS):Prop:=
 ∀(pins:List (Addr×Obj))(s:Shared)(σ:St)(H:Hp)(D:Ends),Inv X pins σ H s->t D σ H->wpAny (model X.prog X.w) X.A (execs st X.env) (SP X pins D) X.xe s
theorem thn{α:Type}{t:Sem α}{Q Q':α->Shared->Prop}{M:Model}{A:Around}{E:VP}{s:Shared}(h:wpAny M A t Q E s)(hQ: ∀a s,Q a s->Q' a s):wpAny M A t Q' E s:=wpAny_mono h hQ λ_ _ x=>x
section
variable{X:Cx}
def tVar(i:Nat):TE:=λσ H Q=> ∃v,σ[i]? =some (some v)/\Q v H
def tC(v:V):TE:=λ_ H Q=>Q v H
theorem yQL{i:Nat}{x:Str}{pos:Pos}(hN:X.N[i]? =some x)(hv:Vis X.env.scope x)(hd:(x==("__debug__":Str))=false:=by decide)(hcd:(x==("__classdict__":Str))=false:=by decide):PE X (.Name x pos) (tVar i):=by
 intro pins s σ H Q I h
 obtain⟨v,e,h⟩:=h
 obtain⟨m,hn,hl⟩:=I.loc
 obtain⟨u,r,l⟩:=hl i x v hN e hv
 have fin:EP X pins σ Q u s:=⟨v,H,I,r,h⟩
 rcases l with⟨hk,hm⟩|⟨hk,c,hc,hcell⟩
 ·exact wpAny_Name (wpAny_loadName_local I.ok.kind hk hn hm fin) hd
 ·rcases hk with hk|hk
  ·exact wpAny_Name (wpAny_loadName_cell I.ok.kind hk hc hcell fin) hd
  ·exact wpAny_Name (wpAny_loadName_free I.ok.kind hk hc hcell fin hcd) hd
theorem yIO{i j pos}:PE X (.Constant (.int i) j pos) (tC (.int i)):=λ_ _ _ H _ I h=>wpAny_Constant_int ⟨.int i,H,I.tok _,⟨_,rfl⟩,h⟩
theorem pe_bl{b j pos}:PE X (.Constant (.bool b) j pos) (tC (.bl b)):=λ_ _ _ H _ I h=>Constant_bool ⟨.bl b,H,I,rfl,h⟩
theorem yQM{x j pos}:PE X (.Constant (.str x) j pos) (tC (.str x)):=λ_ _ _ H _ I h=>Calls.Constant_str ⟨.str x,H,I.tok _,⟨_,rfl⟩,h⟩
def Gl(X:Cx)(x:Str):Prop:=X.env.kindOf x=some .globalImplicit
theorem yED{E:VP}{pins:List (Addr×Obj)}{s:Shared}{σ:St}{H:Hp}{x:Str}{u:Value}{pos:Pos}{Q:VP}(I:Inv X pins σ H s)(hg:Gl X x)(hm:X.mg x=some u)(h:Q u s)
  (hd:(x==("__debug__":Str))=false:=by decide):wpAny (model X.prog X.w) X.A (eval (.Name x pos) X.env) Q E s:=
 Calls.Name_function_global I.ok.kind hg (Calls.loadGlobal_global (by rw [I.ok.glob];exact I.mod.glob.keeps I.bk) hm h) hd
theorem zOM{E:VP}{pins:List (Addr×Obj)}{s:Shared}{σ:St}{H:Hp}{x:Str}{u:Value}{pos:Pos}{Q:VP}(I:Inv X pins σ H s)(hg:Gl X x)(hm:X.mg x=none)(hv:bootBuiltins x=some u)(h:Q u s)
  (hn:x≠"__name__":=by decide) (hd:(x==("__debug__":Str))=false:=by decide):wpAny (model X.prog X.w) X.A (eval (.Name x pos) X.env) Q E s:=by
 obtain⟨mb,h1,h2⟩:=I.mod.blt
 exact Calls.Name_function_global I.ok.kind hg (Calls.loadGlobal_builtin (by rw [I.ok.glob];exact I.mod.glob.keeps I.bk) hm (by rw [I.ok.blt];exact h1.keeps I.bk) ((h2 x hn).trans hv) h) hd
theorem yMH{x:Str}{v:V}{u:Value}{pos:Pos}(hg:Gl X x)(hm:X.mg x=none)(hv:bootBuiltins x=some u)(r:RelV v u)(hn:x≠"__name__":=by decide)(hd:(x==("__debug__":Str))=false:=by decide):PE X (.Name x pos) (tC v):=
 λ_ _ _ H _ I h=>zOM I hg hm hv ⟨v,H,I,r,h⟩ hn hd
variable{a b:Expr}{ta tb:TE}{pos:Pos}
variable{tA tB':TT}{rest:List Expr}
def tAnd(t u:TT):TT:=λσ H Q=>t σ H λc H1=>if c=true then u σ H1 Q else Q false H1
def tOr(t u:TT):TT:=λσ H Q=>t σ H λc H1=>if c=true then Q true H1 else u σ H1 Q
def tNot(t:TT):TT:=λσ H Q=>t σ H λc H1=>Q (!c) H1
theorem yMI(ha:PT X a tA):PW X (.BoolOp .And [a] pos) tA:=by
 intro wh pins s σ H Q I h
 refine isTrue_and (thn (ha pins s σ H Q I h) λc s1 e=>?_)
 cases c with
 |true=>exact isTrue_and_nil e
 |false=>exact e
theorem yQN(ha:PT X a tA):PW X (.BoolOp .Or [a] pos) tA:=by
 intro wh pins s σ H Q I h
 refine isTrue_or (thn (ha pins s σ H Q I h) λc s1 e=>?_)
 cases c with
 |false=>exact isTrue_or_nil e
 |true=>exact e
theorem yQO(ha:PT X a tA)(hb:PW X (.BoolOp .And (b::rest) pos) tB'):PW X (.BoolOp .And (a::b::rest) pos) (tAnd tA tB'):=by
 intro wh pins s σ H Q I h
 refine isTrue_and (thn (ha pins s σ H _ I h) λc s1 ⟨H1,I1,q1⟩=>?_)
 cases c with
 |true=>exact hb wh pins s1 σ H1 Q I1 q1
 |false=>exact⟨H1,I1,q1⟩
theorem pw_or(ha:PT X a tA)(hb:PW X (.BoolOp .Or (b::rest) pos) tB'):PW X (.BoolOp .Or (a::b::rest) pos) (tOr tA tB'):=by
 intro wh pins s σ H Q I h
 refine isTrue_or (thn (ha pins s σ H _ I h) λc s1 ⟨H1,I1,q1⟩=>?_)
 cases c with
 |true=>exact⟨H1,I1,q1⟩
 |false=>exact hb wh pins s1 σ H1 Q I1 q1
theorem yQP(ha:PT X a tA):PT X (.UnaryOp .Not a pos) (tNot tA):=by
 intro pins s σ H Q I h
 exact isTrue_not (ha pins s σ H (λc H1=>Q (!c) H1) I h)
def tAndV(ta tb:TE):TE:=λσ H Q=>ta σ H λx H1=> ∃c,x=.bl c/\if c=true then tb σ H1 Q else Q (.bl false) H1
def tOrV(ta tb:TE):TE:=λσ H Q=>ta σ H λx H1=> ∃c,x=.bl c/\if c=true then Q (.bl true) H1 else tb σ H1 Q
def tNotV(ta:TE):TE:=λσ H Q=>ta σ H λx H1=> ∃c,x=.bl c/\Q (.bl (!c)) H1
theorem yQQ{op}{t:TE}(h:PE X a t):PE X (.BoolOp op [a] pos) t:=λpins s σ H Q I hw=>BoolOp_one (h pins s σ H Q I hw)
theorem yQR(ha:PE X a ta)(hb:PE X (.BoolOp .And (b::rest) pos) tb):PE X (.BoolOp .And (a::b::rest) pos) (tAndV ta tb):=by
 intro pins s σ H Q I h
 refine BoolOp_and (thn (ha pins s σ H _ I h) λv s1 ⟨x,H1,I1,r1,q1⟩=>?_)
 obtain⟨c,rfl,q1⟩:=q1
 cases r1
 refine wpAny_truthy_bool ?_
 cases c with
 |true=>exact hb pins s1 σ H1 Q I1 q1
 |false=>exact⟨.bl false,H1,I1,rfl,q1⟩
theorem pe_or(ha:PE X a ta)(hb:PE X (.BoolOp .Or (b::rest) pos) tb):PE X (.BoolOp .Or (a::b::rest) pos) (tOrV ta tb):=by
 intro pins s σ H Q I h
 refine BoolOp_or (thn (ha pins s σ H _ I h) λv s1 ⟨x,H1,I1,r1,q1⟩=>?_)
 obtain⟨c,rfl,q1⟩:=q1
 cases r1
 refine wpAny_truthy_bool ?_
 cases c with
 |false=>exact hb pins s1 σ H1 Q I1 q1
 |true=>exact⟨.bl true,H1,I1,rfl,q1⟩
theorem yQS(ha:PE X a ta):PE X (.UnaryOp .Not a pos) (tNotV ta):=by
 intro pins s σ H Q I h
 refine UnaryOp_ (thn (ha pins s σ H _ I h) λv s1 ⟨x,H1,I1,r1,q1⟩=>?_)
 obtain⟨c,rfl,q1⟩:=q1
 cases r1
 exact not_of (wpAny_truthy_bool ⟨.bl (!c),H1,I1,rfl,q1⟩)
end
def SqL(K:PySem.W.Frag)(H:Hp)(a:Addr)(xs:List V):Prop:=
 Rd H a (.lst xs)\/
  ∃(o:Obj)(its:Array Value)(n:Nat),K.lookup a=some o/\o.cls=.type "list"/\o.dict=none/\o.data=.seq its n/\its.size<=sizeLine/\Vals xs its.toList
def SqT(K:PySem.W.Frag)(H:Hp)(a:Addr)(xs:List V):Prop:=
 Rd H a (.tup xs)\/
  ∃(o:Obj)(its:Array Value)(n:Nat),K.lookup a=some o/\o.cls=.type "tuple"/\o.data=.seq its n/\its.size<=sizeLine/\Vals xs its.toList
def absV:Value->Option V
 |.none=>some .non
 |.bool b=>some (.bl b)
 |.int i _=>some (.int i)
 |.str x _=>some (.str x)
 |.bytes b _=>some (.byt b)
 |.float b _=>some (.flt b)
 |.ref a=>some (.ref a)
 |.type n=>some (.ty n)
 |_=>none
theorem RelV.abs{x:V}{u:Value}(r:RelV x u):absV u=some x:=by
 cases x with
 |non=>cases r;rfl
 |bl _=>cases r;rfl
 |int _=>obtain⟨t,rfl⟩:=r;rfl
 |str _=>obtain⟨t,rfl⟩:=r;rfl
 |byt _=>obtain⟨t,rfl⟩:=r;rfl
 |flt _=>obtain⟨t,rfl⟩:=r;rfl
 |ref _=>cases r;rfl
 |ty _=>cases r;rfl
theorem RelV.inj{x y:V}{u:Value}(r:RelV x u)(q:RelV y u):x=y:=Option.some.inj (r.abs.symm.trans q.abs)
theorem Vals.inj: ∀{xs ys:List V}{us:List Value},Vals xs us->Vals ys us->xs=ys
 |_,_,_,.nil,.nil=>rfl
 |_,_,_,.cons r t,.cons r' t'=>by rw [r.inj r',Vals.inj t t']
section
variable{X:Cx}{pins:List (Addr×Obj)}{σ:St}{H:Hp}{s:Shared}{a:Addr}{xs ys:List V}
theorem SqL.of{K:PySem.W.Frag}(h:H a=some (.lst xs)):SqL K H a xs:=.inl (.inl h)
theorem SqT.of{K:PySem.W.Frag}(h:H a=some (.tup xs)):SqT K H a xs:=.inl (.inl h)
theorem Inv.list(I:Inv X pins σ H s)(h:SqL X.K H a xs): ∃its:List Value,Vals xs its/\PlainL s.heap a its.toArray/\xs.length<=sizeLine:=by
 rcases h with h|⟨o,its,n,hk,hc,hd,hs,hz,r⟩
 ·obtain⟨z,its,n,r,e⟩:=h.ok I.hok
  exact⟨its,r,⟨_,n,e,rfl,rfl,rfl⟩,z⟩
 ·refine⟨its.toList,r,⟨o,n,I.kIn a o hk,hc,hd,by simpa using hs⟩,?_⟩
  have e:=r.length
  simp only [Array.length_toList]at e
  omega
theorem Inv.tuple(I:Inv X pins σ H s)(h:SqT X.K H a xs): ∃its:List Value,Vals xs its/\IsTup s.heap a its.toArray/\xs.length<=sizeLine:=by
 rcases h with h|⟨o,its,n,hk,hc,hs,hz,r⟩
 ·obtain⟨z,its,r,p⟩:=h.ok I.hok
  exact⟨its,r,p,z⟩
 ·refine⟨its.toList,r,⟨o,I.kIn a o hk,hc,n,by simpa using hs⟩,?_⟩
  have e:=r.length
  simp only [Array.length_toList]at e
  omega
theorem Inv.list_inj(I:Inv X pins σ H s)(h:SqL X.K H a xs)(h':SqL X.K H a ys):xs=ys:=by
 obtain⟨its,r,⟨o,n,e,_,_,d⟩,_⟩:=I.list h
 obtain⟨its',r',⟨o',n',e',_,_,d'⟩,_⟩:=I.list h'
 rw [e]at e';cases e'
 rw [d]at d'
 injection d' with d1 _
 have:its=its':=by simpa using congrArg Array.toList d1
 subst this
 exact r.inj r'
theorem Inv.tuple_inj(I:Inv X pins σ H s)(h:SqT X.K H a xs)(h':SqT X.K H a ys):xs=ys:=by
 obtain⟨its,r,⟨o,e,_,n,d⟩,_⟩:=I.tuple h
 obtain⟨its',r',⟨o',e',_,n',d'⟩,_⟩:=I.tuple h'
 rw [e]at e';cases e'
 rw [d]at d'
 injection d' with d1 _
 have:its=its':=by simpa using congrArg Array.toList d1
 subst this
 exact r.inj r'
end
abbrev Cx.wish(X:Cx)(E:VP):Cx:={X with xe:=E}
abbrev Cx.nox(X:Cx):Cx:=X.wish λ_ _=>False
theorem Cx.Ok.wish{X:Cx}(ok:X.Ok)(E:VP):(X.wish E).Ok:=
 ⟨ok.mod,ok.kind,ok.glob,ok.blt,ok.above,ok.inj,ok.has,ok.cab,ok.hd,ok.frames,ok.stk,ok.exf,ok.bs,ok.bsz,ok.noex,ok.exfs,ok.funs,ok.frf⟩
theorem Cx.Ok.unwish{X:Cx}{E:VP}(ok:(X.wish E).Ok):X.Ok:=
 ⟨ok.mod,ok.kind,ok.glob,ok.blt,ok.above,ok.inj,ok.has,ok.cab,ok.hd,ok.frames,ok.stk,ok.exf,ok.bs,ok.bsz,ok.noex,ok.exfs,ok.funs,ok.frf⟩
section
variable{X:Cx}{pins:List (Addr×Obj)}{σ:St}{H:Hp}{s:Shared}{E:VP}
theorem Inv.wish(I:Inv X pins σ H s)(E:VP):Inv (X.wish E) pins σ H s:=⟨I.ok.wish E,I.os,I.bare,I.base,I.loc,I.cell,I.free,I.freeC,I.pin,I.hok,I.len⟩
theorem Inv.unwish(I:Inv (X.wish E) pins σ H s):Inv X pins σ H s:=⟨I.ok.unwish,I.os,I.bare,I.base,I.loc,I.cell,I.free,I.freeC,I.pin,I.hok,I.len⟩
theorem SP.unwish{D:Ends}{f:Flow}{s':Shared}(h:SP (X.wish E) pins D f s'):SP X pins D f s':=by
 cases f with
 |next=>obtain⟨σ',H',I,q⟩:=h;exact⟨σ',H',I.unwish,q⟩
 |brk=>obtain⟨σ',H',I,q⟩:=h;exact⟨σ',H',I.unwish,q⟩
 |cont=>obtain⟨σ',H',I,q⟩:=h;exact⟨σ',H',I.unwish,q⟩
 |ret u=>obtain⟨v,σ',H',I,r,q⟩:=h;exact⟨v,σ',H',I.unwish,r,q⟩
theorem PSs.nox{st:List Stmt}{t:TS}(h:PSs X.nox st t):PSs X st t:=λpins s σ H D I hw=>
 wpAny_mono (h pins s σ H D (I.wish _) hw) (λ_ _ q=>q.unwish) λ_ _ z=>False.elim z
end
section
variable{X:Cx}{st:Stmt}{rest:List Stmt}{t u:TS}{e:Expr}{te:TE}{pos:Pos}
def tNext:TS:=λD σ H=>D.nx σ H
def tSeq(t u:TS):TS:=λD σ H=>t {D with nx:=u D} σ H
theorem yMJ:PSs X [] tNext:=λ_ _ σ H _ I h=>wpAny_execs_nil ⟨σ,H,I,h⟩
theorem yIP(h1:PS X st t)(h2:PSs X rest u):PSs X (st::rest) (tSeq t u):=by
 intro pins s σ H D I h
 refine wpAny_execs_cons (thn (h1 pins s σ H {D with nx:=u D} I h) λf s1 q=>?_)
 cases f with
 |next=>
  obtain⟨σ',H',I',q⟩:=q
  exact h2 pins s1 σ' H' D I' q
 |ret v=>exact q
 |brk=>exact q
 |cont=>exact q
theorem yEE(h1:PS X st t):PSs X [st] t:=by
 intro pins s σ H D I h
 refine wpAny_execs_cons (thn (h1 pins s σ H D I h) λf s1 q=>?_)
 cases f with
 |next=>exact wpAny_execs_nil q
 |ret v=>exact q
 |brk=>exact q
 |cont=>exact q
theorem Inv.quiet{pins:List (Addr×Obj)}{σ:St}{H:Hp}{s:Shared}(I:Inv X pins σ H s):interactive X.env=false:=by simp [interactive,I.ok.kind]
def tDrop(te:TE):TS:=λD σ H=>te σ H λ_ H1=>D.nx σ H1
theorem yMK(he:PE X e te)(hs:swapsWith e none pos.line X.env=pure false:=by rfl):PS X (.Expr e pos) (tDrop te):=by
 intro pins s σ H D I h
 exact wpAny_Expr_any (thn (he pins s σ H _ I h) λv s1 ⟨x,H1,I1,r1,q1⟩=>⟨σ,H1,I1,q1⟩) I.quiet hs
def tRet(te:TE):TS:=λD σ H=>te σ H D.rt
theorem yQT(he:PE X e te):PS X (.Return (some e) pos) (tRet te):=by
 intro pins s σ H D I h
 exact wpAny_Return_some (thn (he pins s σ H _ I h) λv s1 ⟨x,H1,I1,r1,q1⟩=>⟨x,σ,H1,I1,r1,q1⟩)
def tIfS(c:TT)(t u:TS):TS:=λD σ H=>c σ H λb H1=>if b=true then t D σ H1 else u D σ H1
theorem ps_if{c:Expr}{a b:List Stmt}{tc:TT}(hc:PT X c tc)(ha:PSs X a t)(hb:PSs X b u):PS X (.If c a b pos) (tIfS tc t u):=by
 intro pins s σ H D I h
 refine wpAny_If (thn (hc pins s σ H _ I h) λd s1 ⟨H1,I1,q1⟩=>?_)
 cases d with
 |true=>exact ha pins s1 σ H1 D I1 q1
 |false=>exact hb pins s1 σ H1 D I1 q1
end
abbrev TG:=V->St->Hp->(St->Hp->Prop)->Prop
abbrev TGs:=List V->St->Hp->(St->Hp->Prop)->Prop
def PG(X:Cx)(target:Expr)(t:TG):Prop:=
 ∀(pins:List (Addr×Obj))(s:Shared)(σ:St)(H:Hp)(v:V)(u:Value)(Q:St->Hp->Prop),Inv X pins σ H s->RelV v u->t v σ H Q->
  wpAny (model X.prog X.w) X.A (assign target X.env u) (λ_ s'=> ∃σ' H',Inv X pins σ' H' s'/\Q σ' H') X.xe s
def PGs(X:Cx)(ts:List Expr)(t:TGs):Prop:=
 ∀(pins:List (Addr×Obj))(s:Shared)(σ:St)(H:Hp)(vs:List V)(us:List Value)(Q:St->Hp->Prop),Inv X pins σ H s->Vals vs us->t vs σ H Q->
  wpAny (model X.prog X.w) X.A (assignInOrder ((assignEach ts X.env).map (·.2)) us) (λ_ s'=> ∃σ' H',Inv X pins σ' H' s'/\Q σ' H') X.xe s
abbrev TSet:=V->V->V->Hp->(Hp->Prop)->Prop
def PSet(X:Cx)(t:TSet):Prop:=
 ∀(pins:List (Addr×Obj))(s:Shared)(σ:St)(H:Hp)(o i v:V)(ov iv u:Value)(Q:Hp->Prop),Inv X pins σ H s->RelV o ov->RelV i iv->RelV v u->t o i v H Q->
  wpAny (model X.prog X.w) X.A (setItem ov iv u) (λ_ s'=> ∃H',Inv X pins σ H' s'/\Q H') X.xe s
section
variable{X:Cx}{pos:Pos}
def yIQ(i:Nat):TG:=λv σ H Q=>Q (σ.set i (some v)) H
theorem yEF{i:Nat}{x:Str}(hN:X.N.Nodup)(hi:X.N[i]? =some x)(hx:Loc X.env.scope x)(hf:X.fn x=true\/X.env.scope.names.lookup x=some .local:=by first |exact .inl rfl|exact .inr rfl|assumption):PG X (.Name x pos) (yIQ i):=by
 intro pins s σ H v u Q I r h
 exact wpAny_assign_Name (zZJ I hN hi hx r (λs' I'=>⟨_,H,I',h⟩) hf)
def gNil:TGs:=λvs σ H Q=>vs=[]/\Q σ H
def gCons(t:TG)(u:TGs):TGs:=λvs σ H Q=> ∃v r,vs=v::r/\t v σ H λσ' H'=>u r σ' H' Q
theorem yEG:PGs X [] gNil:=by
 intro pins s σ H vs us Q I r h
 obtain⟨e,h⟩:=h
 subst e
 cases r
 exact assignInOrder_nil ⟨σ,H,I,h⟩
theorem zZK{e:Expr}{es:List Expr}{t:TG}{u:TGs}(h1:PG X e t)(h2:PGs X es u)
  (hs:(assignEach (e::es) X.env).map (·.2)=assign e X.env::(assignEach es X.env).map (·.2):=by rfl):PGs X (e::es) (gCons t u):=by
 intro pins s σ H vs us Q I r h
 obtain⟨v,vr,e1,h⟩:=h
 subst e1
 cases r with
 |cons r rr=>
  rw [hs]
  refine assignInOrder_cons (thn (h1 pins s σ H _ _ _ I r h) λ_ s1 ⟨σ1,H1,I1,q1⟩=>?_)
  exact h2 pins s1 σ1 H1 _ _ Q I1 rr q1
def gTup(K:PySem.W.Frag)(n:Nat)(t:TGs):TG:=λv σ H Q=> ∃a xs,v=.ref a/\SqT K H a xs/\xs.length=n/\t xs σ H Q
theorem yIR{es:List Expr}{k:Nat}{t:TGs}{n:Nat}(hc:X.calm=true)(h:PGs X es t)
  (hn:(assignEach es X.env).length=n:=by rfl) (hst:(assignEach es X.env).findIdx? (·.1)=none:=by rfl):PG X (.Tuple es k pos) (gTup X.K n t):=by
 intro pins s σ H v u Q I r hw
 obtain⟨a,xs,e1,hq,hl,hw⟩:=hw
 subst e1
 cases r
 obtain⟨its,rv,ht,hz⟩:=I.tuple hq
 refine assign_Tuple_tuple (I.ok.hd hc) ht (by simp [hn, <-hl,rv.length]) hst λh' hx=>?_
 have I1:Inv X pins σ H {s with heap:=h'}:=I.kept (t':=s.toks) λb o e=>hx b o (ne_of_lt (Heap.lt_size e)) e
 exact h pins _ σ H xs _ Q I1 (by simpa using rv) hw
def gSub(to ti:TE)(t:TSet):TG:=λv σ H Q=>to σ H λo H1=>ti σ H1 λi H2=>t o i v H2 λH3=>Q σ H3
theorem yQU{o i:Expr}{to ti:TE}{t:TSet}(ho:PE X o to)(hi:PE X i ti)(hs:PSet X t)
  (ha: ∀v,assign (.Subscript o i pos) X.env v=(do
   let ov <-holding [v] (eval o X.env)
   let iv <-holding [v,ov] (eval i X.env)
   standAt pos
   holding [v,ov,iv] (setItem ov iv v)
   release [v,ov,iv] []):=by intro _;rfl):PG X (.Subscript o i pos) (gSub to ti t):=by
 intro pins s σ H v u Q I r h
 rw [ha]
 refine wB0 (wpAny_holding (thn (ho pins s σ H _ I h) λov s1 ⟨x,H1,I1,r1,q1⟩=>?_))
 refine wB0 (wpAny_holding (thn (hi pins s1 σ H1 _ I1 q1) λiv s2 ⟨y,H2,I2,r2,q2⟩=>?_))
 refine wB0 (wpAny_standAt (wB0 (wpAny_holding (thn (hs pins s2 σ H2 x y v ov iv u _ I2 r1 r2 r q2) λ_ s3 ⟨H3,I3,q3⟩=>?_))))
 exact wpAny_release ⟨σ,H3,I3,q3⟩
def tAsg(te:TE)(g:TG):TS:=λD σ H=>te σ H λx H1=>g x σ H1 D.nx
theorem yQV{tg e:Expr}{te:TE}{g:TG}(he:PE X e te)(hg:PG X tg g)(hs:swapsWithSole [tg] e pos.line X.env=pure false:=by rfl)(hw:swappedStores [tg] e X.env=pure none:=by rfl)
  (h1:(assignEach [tg] X.env).map (·.2)=[assign tg X.env]:=by rfl):PS X (.Assign [tg] e pos) (tAsg te g):=by
 intro pins s σ H D I h
 refine wpAny_Assign_stores (thn (he pins s σ H _ I h) λv s1 ⟨x,H1,I1,r1,q1⟩=>?_) hs hw
 rw [h1]
 exact thn (hg pins s1 σ H1 x v _ I1 r1 q1) λ_ s2 q=>q
theorem yQW{i:Nat}{x:Str}{e:Expr}{te:TE}{pos':Pos}(hN:X.N.Nodup)(hi:X.N[i]? =some x)(hx:Loc X.env.scope x)(he:PE X e te)(hs:swapsWith e (some (.Name x pos')) pos.line X.env=pure false:=by rfl)(hf:X.fn x=true\/X.env.scope.names.lookup x=some .local:=by first |exact .inl rfl|exact .inr rfl|assumption):
  PS X (.Assign [.Name x pos'] e pos) (tAsg te (yIQ i)):=by
 intro pins s σ H D I h
 refine wpAny_Assign_Name (thn (he pins s σ H _ I h) λv s1 ⟨y,H1,I1,r1,q1⟩=>?_) hs
 exact zZJ I1 hN hi hx r1 (λs2 I2=>⟨_,H1,I2,q1⟩) hf
end
structure It where
 go:Nat->Hp->Prop
 yld:Nat->Hp->V->Hp->Prop
 stop:Nat->Hp->Prop
def zNE(X:Cx)(pins:List (Addr×Obj))(H:Hp)(b:Addr):Prop:=
 H b=none/\b≠X.env.locals/\b∉X.fs/\(b∈X.ex\/X.s₀.heap.objs.size<=b)/\(∀x c,X.env.cells.lookup x=some c->c≠b)/\ ∀p∈X.pn++pins,p.1≠b
theorem Inv.fpOk{X:Cx}{pins:List (Addr×Obj)}{σ:St}{H H':Hp}{s:Shared}{b:Addr}(I:Inv X pins σ H s)(hb:s.heap.objs.size<=b)(hn:H' b=none):zNE X pins H' b:=by
 refine⟨hn,ne_of_gt (lt_of_lt_of_le I.lt hb),I.nofs hb,.inr (le_trans I.sz hb),λx c e z=>?_,λp hp z=>?_⟩
 ·obtain⟨v,q⟩:=I.cell x c e
  exact absurd (lt_of_lt_of_le q.lt (by rw [z];exact hb)) (lt_irrefl _)
 ·exact absurd (lt_of_lt_of_le (Heap.lt_size (I.pin p hp).1) (by rw [z];exact hb)) (lt_irrefl _)
structure Turn(P:Program)(w:World)(K:PySem.W.Frag)(tg:Expr)(J:It)(fp:List Addr)(it:Addr)(tn:Nat->Heap->Prop):Prop where
 mem:it∈fp
 obj: ∀i h,tn i h-> ∀b∈fp, ∃o,h.get? b=some o/\ ∀v,o.data≠.cell v
 keep: ∀i h h',tn i h->(∀b∈fp, ∀o,h.get? b=some o->h'.get? b=some o)->tn i h'
 item: ∀(X:Cx),X.prog=P->X.w=w->X.K=K->X.calm=true-> ∀(i:Nat)(pins:List (Addr×Obj))(s:Shared)(σ:St)(H:Hp)(E:VP),Inv X pins σ H s->(∀b∈fp,zNE X pins H b)->tn i s.heap->J.go i H->
  wpAny (model P w) X.A (pyNext (.ref it)) (λr s1=> ∃u,r=some u/\
   wpAny (model P w) X.A (letOwnedTupleGo tg (.ref it) u) (λ_ s2=> ∃x H',Inv X pins σ H' s2/\RelV x u/\J.yld i H x H'/\tn (i+1) s2.heap/\ ∀b∈fp,H' b=none) E s1) E s
 done: ∀(X:Cx),X.prog=P->X.w=w->X.K=K->X.calm=true-> ∀(i:Nat)(pins:List (Addr×Obj))(s:Shared)(σ:St)(H:Hp)(E:VP),Inv X pins σ H s->(∀b∈fp,zNE X pins H b)->tn i s.heap->J.stop i H->
  wpAny (model P w) X.A (pyNext (.ref it)) (λr s1=>r=none/\Inv X pins σ H s1) E s
 self: ∀(A:Around)(i:Nat)(s:Shared)(Q:VP)(E:VP),tn i s.heap->Q (.ref it) s->wpAny (model P w) A (pyIter (.ref it)) Q E s
abbrev TI:=St->Hp->(It->Hp->Prop)->Prop
def PIE(X:Cx)(pins:List (Addr×Obj))(σ:St)(tg:Expr)(R:It->Hp->Prop)(itv:Value)(s2:Shared):Prop:=
 ∃(it:Addr)(fp:List Addr)(tn:Nat->Heap->Prop)(J:It)(H':Hp),itv=.ref it/\Inv X pins σ H' s2/\Turn X.prog X.w X.K tg J fp it tn/\tn 0 s2.heap/\(∀b∈fp,zNE X pins H' b)/\R J H'
def PI(X:Cx)(tg iter:Expr)(wi:TI):Prop:=
 ∀(pins:List (Addr×Obj))(s:Shared)(σ:St)(H:Hp)(R:It->Hp->Prop),Inv X pins σ H s->wi σ H R->
  wpAny (model X.prog X.w) X.A (eval iter X.env) (λv s1=>wpAny (model X.prog X.w) X.A (pyIter v) (PIE X pins σ tg R) X.xe s1) X.xe s
theorem yIS{M:Model}{A:Around}{E:VP}{s:Shared}{tg:Expr}{it:Addr}{u:Value}{o:Obj}{n:String}{vs:Array Value}{Q:Unit->Shared->Prop}(ho:s.heap.get? it=some o)(hc:o.cls=.type n)(hd:o.data=.fields vs)
  (hn:["enumerate","zip","dict_itemiterator","dict_reverseitemiterator","odict_iterator","itertools.zip_longest","itertools.pairwise"].contains n=false) (hQ:Q () s):wpAny M A (letOwnedTupleGo tg (.ref it) u) Q E s:=by
 unfold letOwnedTupleGo
 cases tg<;>first
  |exact wP0 hQ
  |(cases u<;>first
    |exact wP0 hQ
    |(refine wB0 (wpAny_load ho ?_)
      rw [hc,hd]
      show wpAny M A (if(["enumerate","zip","dict_itemiterator","dict_reverseitemiterator","odict_iterator","itertools.zip_longest","itertools.pairwise"].contains n&&vs[0]? ==some (rawInt _))=true then _ else _) Q E s
      rw [iN (by intro h;rw [hn,Bool.false_and]at h;cases h)]
      exact wP0 hQ))
def Itl(K:PySem.W.Frag)(a:Addr):It:=
 ⟨λi H=> ∃xs x,SqL K H a xs/\xs[i]? =some x,λi H x H'=>H'=H/\ ∀xs,SqL K H a xs->xs[i]? =some x,λi H=> ∃xs,SqL K H a xs/\xs.length<=i⟩
def Itt(K:PySem.W.Frag)(a:Addr):It:=
 ⟨λi H=> ∃xs x,SqT K H a xs/\xs[i]? =some x,λi H x H'=>H'=H/\ ∀xs,SqT K H a xs->xs[i]? =some x,λi H=> ∃xs,SqT K H a xs/\xs.length<=i⟩
def Itr(lo:Int)(n:Nat):It:=⟨λi _=>i<n,λi H x H'=>H'=H/\x=.int (lo+i),λi _=>n<=i⟩
theorem yGQ{P:Program}{w:World}{K:PySem.W.Frag}{tg:Expr}(a it:Addr):Turn P w K tg (Itl K a) [it] it (λi h=>h.IsListIter it a i) where
 mem:=by simp
 obj:=λi h st b hb=>by
  have e:b=it:=by simpa using hb
  subst e
  obtain⟨o,e,c,d⟩:=st
  exact⟨o,e,λv z=>by rw [d]at z;cases z⟩
 keep:=λi h h' st k=>st.at λo e=>k it (by simp) o e
 item:=by
  intro X hP hw hK hc i pins s σ H E I hf st hg
  subst hP hw hK
  obtain⟨xs,x,hq,hx⟩:=hg
  obtain⟨its,rv,p,hz⟩:=I.list hq
  obtain⟨u,hu,ru⟩:=rv.get hx
  obtain⟨f0,f1,f2,f3,f4,f5⟩:=hf it (by simp)
  refine wpAny_pyNext_list_item st p.isList (x:=u) (by simpa using hu) λh' st' sb=>?_
  have I1:Inv X pins σ H {s with heap:=h'}:=I.turned (t':=s.toks) (λb o hb e=>(sb.2 b hb).trans e) f0 f1 f3 f4 f5
  obtain⟨o,e,c,d⟩:=id st'
  exact⟨u,rfl,yIS (s:={s with heap:=h'}) e c d (by decide) ⟨x,H,I1,ru,⟨rfl,λys hy=>by rw [I.list_inj hy hq];exact hx⟩,st',λb hb=>(hf b hb).1⟩⟩
 done:=by
  intro X hP hw hK hc i pins s σ H E I hf st hg
  subst hP hw hK
  obtain⟨xs,hq,hx⟩:=hg
  obtain⟨its,rv,p,hz⟩:=I.list hq
  obtain⟨f0,f1,f2,f3,f4,f5⟩:=hf it (by simp)
  have hl:=rv.length
  exact wpAny_pyNext_list_end (I.ok.hd hc) st p.isList (by simp;omega) λh' eb=>⟨rfl,I.turned (t':=s.toks) (λb o hb e=>eb b o hb e) f0 f1 f3 f4 f5⟩
 self:=λ_ _ _ _ _ st h=>wpAny_pyIter_listiter st h
theorem yCE{P:Program}{w:World}{K:PySem.W.Frag}{tg:Expr}(a it:Addr):Turn P w K tg (Itt K a) [it] it (λi h=>h.IsTupleIter it a i) where
 mem:=by simp
 obj:=λi h st b hb=>by
  have e:b=it:=by simpa using hb
  subst e
  obtain⟨o,e,c,d⟩:=st
  exact⟨o,e,λv z=>by rw [d]at z;cases z⟩
 keep:=λi h h' st k=>st.at λo e=>k it (by simp) o e
 item:=by
  intro X hP hw hK hc i pins s σ H E I hf st hg
  subst hP hw hK
  obtain⟨xs,x,hq,hx⟩:=hg
  obtain⟨its,rv,p,hz⟩:=I.tuple hq
  obtain⟨u,hu,ru⟩:=rv.get hx
  obtain⟨f0,f1,f2,f3,f4,f5⟩:=hf it (by simp)
  refine wpAny_pyNext_tuple_item st (show s.heap.IsTuple a its.toArray from p) (x:=u) (by simpa using hu) λh' st' sb=>?_
  have I1:Inv X pins σ H {s with heap:=h'}:=I.turned (t':=s.toks) (λb o hb e=>(sb.2 b hb).trans e) f0 f1 f3 f4 f5
  obtain⟨o,e,c,d⟩:=id st'
  exact⟨u,rfl,yIS (s:={s with heap:=h'}) e c d (by decide) ⟨x,H,I1,ru,⟨rfl,λys hy=>by rw [I.tuple_inj hy hq];exact hx⟩,st',λb hb=>(hf b hb).1⟩⟩
 done:=by
  intro X hP hw hK hc i pins s σ H E I hf st hg
  subst hP hw hK
  obtain⟨xs,hq,hx⟩:=hg
  obtain⟨its,rv,p,hz⟩:=I.tuple hq
  obtain⟨f0,f1,f2,f3,f4,f5⟩:=hf it (by simp)
  have hl:=rv.length
  exact wpAny_pyNext_tuple_end (I.ok.hd hc) st (show s.heap.IsTuple a its.toArray from p) (by simp;omega) λh' eb=>⟨rfl,I.turned (t':=s.toks) (λb o hb e=>eb b o hb e) f0 f1 f3 f4 f5⟩
 self:=λ_ _ _ _ _ st h=>wpAny_pyIter_tupleiter st h
theorem yCF{P:Program}{w:World}{K:PySem.W.Frag}{tg:Expr}(it:Addr)(lo:Int)(n:Nat):Turn P w K tg (Itr lo n) [it] it (λi h=>IsRangeIter h it (lo+(i:Nat) * 1) ((n:Int) - (i:Nat)) 1) where
 mem:=by simp
 obj:=λi h st b hb=>by
  have e:b=it:=by simpa using hb
  subst e
  exact⟨_,st,λv z=>by
   have z':Data.fields _=Data.cell v:=z
   cases z'⟩
 keep:=λi h h' st k=>k it (by simp) _ st
 item:=by
  intro X hP hw hK hc i pins s σ H E I hf st hg
  subst hP hw hK
  obtain⟨f0,f1,f2,f3,f4,f5⟩:=hf it (by simp)
  have W:=Walks.range (prog:=X.prog) (w:=X.w) (I.ok.hd hc) it lo 1 n
  refine W.item i s _ _ hg st λv h' tk hv st' kk=>?_
  obtain⟨t,rfl⟩:=hv
  have I1:Inv X pins σ H {s with heap:=h',toks:=tk}:=I.turned (λb o hb e=>kk b o (by simpa using hb) e) f0 f1 f3 f4 f5
  refine⟨_,rfl,yIS (s:={s with heap:=h',toks:=tk}) (n:="range_iterator") st' rfl rfl (by decide) ⟨.int (lo+i),H,I1,⟨t,?_⟩,⟨rfl,rfl⟩,st',λb hb=>(hf b hb).1⟩⟩
  rw [Int.mul_one]
 done:=by
  intro X hP hw hK hc i pins s σ H E I hf st hg
  subst hP hw hK
  obtain⟨f0,f1,f2,f3,f4,f5⟩:=hf it (by simp)
  exact wpAny_pyNext_range_end (I.ok.hd hc) st (by have:n<=i:=hg;omega) λh' eb=>⟨rfl,I.turned (t':=s.toks) (λb o hb e=>eb b o hb e) f0 f1 f3 f4 f5⟩
 self:=λ_ _ _ _ _ st h=>wpAny_pyIter_rangeiter st h
section
variable{X:Cx}{tg:Expr}
def iList(K:PySem.W.Frag)(tl:TE):TI:=λσ H R=>tl σ H λx H1=> ∃a,x=.ref a/\(∃xs,SqL K H1 a xs)/\R (Itl K a) H1
def iTup(K:PySem.W.Frag)(tl:TE):TI:=λσ H R=>tl σ H λx H1=> ∃a,x=.ref a/\(∃xs,SqT K H1 a xs)/\R (Itt K a) H1
theorem yML{l:Expr}{tl:TE}(hl:PE X l tl):PI X tg l (iList X.K tl):=by
 intro pins s σ H R I h
 refine thn (hl pins s σ H _ I h) λv s1 ⟨x,H1,I1,r1,q1⟩=>?_
 obtain⟨a,e,⟨xs,hq⟩,q⟩:=q1
 subst e
 cases r1
 obtain⟨its,rv,p,hz⟩:=I1.list hq
 refine wpAny_pyIter_list p.isList ?_
 refine⟨s1.heap.objs.size,[s1.heap.objs.size],_,_,H1,rfl,I1.kept (t':=s1.toks) λb o e=>hP0 _ e,yGQ a _,⟨_,Heap.get?_push_size _ rfl,rfl,rfl⟩,λb hb=>?_,q⟩
 have e:b=s1.heap.objs.size:=by simpa using hb
 subst e
 exact I1.fpOk (le_refl _) (I1.hok.fresh (le_refl _))
theorem yQX{l:Expr}{tl:TE}(hl:PE X l tl):PI X tg l (iTup X.K tl):=by
 intro pins s σ H R I h
 refine thn (hl pins s σ H _ I h) λv s1 ⟨x,H1,I1,r1,q1⟩=>?_
 obtain⟨a,e,⟨xs,hq⟩,q⟩:=q1
 subst e
 cases r1
 obtain⟨its,rv,p,hz⟩:=I1.tuple hq
 refine wpAny_pyIter_tuple (show s1.heap.IsTuple a its.toArray from p) ?_
 refine⟨s1.heap.objs.size,[s1.heap.objs.size],_,_,H1,rfl,I1.kept (t':=s1.toks) λb o e=>hP0 _ e,yCE a _,⟨_,Heap.get?_push_size _ rfl,rfl,rfl⟩,λb hb=>?_,q⟩
 have e:b=s1.heap.objs.size:=by simpa using hb
 subst e
 exact I1.fpOk (le_refl _) (I1.hok.fresh (le_refl _))
theorem yIT{pins:List (Addr×Obj)}{σ:St}{H:Hp}{s:Shared}{R:It->Hp->Prop}{E:VP}{lo hi:Int}{t u v:Tok}{tk:Nat}(I:Inv X pins σ H s)(h1: -(2 ^ 62)<=lo)(h2:lo<2 ^ 62)(h3: -(2 ^ 62)<=hi)(h4:hi<2 ^ 62)
  (q:R (Itr lo (hi - lo).toNat) H):wpAny (model X.prog X.w) X.A (pyIter (.ref s.heap.objs.size)) (PIE X pins σ tg R) E {s with heap:=s.heap.push {cls:=.type "range",data:=.fields #[.int lo t,.int hi u,.int 1 v]},toks:=tk}:=by
 refine wpAny_pyIter_range (IsRange.new ..) (small_one h1 h2 h3 h4) ?_
 have I1:Inv X pins σ H {s with heap:=s.heap.push {cls:=.type "range",data:=.fields #[.int lo t,.int hi u,.int 1 v]},toks:=tk}:=I.kept λb o e=>hP0 _ e
 refine⟨(s.heap.push {cls:=.type "range",data:=.fields #[.int lo t,.int hi u,.int 1 v]}).objs.size,[(s.heap.push {cls:=.type "range",data:=.fields #[.int lo t,.int hi u,.int 1 v]}).objs.size],_,_,H,rfl,
  I1.kept (t':=tk) λb o e=>hP0 _ e,yCF _ lo (hi - lo).toNat,?_,λb hb=>?_,q⟩
 ·have e1:lo+((0:Nat):Int) * 1=lo:=by simp
  have e2:(((hi - lo).toNat:Nat):Int) - ((0:Nat):Int)=Builtin.Range.rangeSize lo hi 1:=by rw [rangeSize_one];split<;>omega
  show IsRangeIter _ _ (lo+((0:Nat):Int) * 1) ((((hi - lo).toNat:Nat):Int) - ((0:Nat):Int)) 1
  rw [e1,e2]
  exact Heap.get?_push_size _ rfl
 ·have e:b=(s.heap.push {cls:=.type "range",data:=.fields #[.int lo t,.int hi u,.int 1 v]}).objs.size:=by simpa using hb
  subst e
  exact I1.fpOk (le_refl _) (I1.hok.fresh (le_refl _))
def iRng1(ta:TA):TI:=λσ H R=>ta σ H λvs H1=> ∃j:Int,vs=[.int j]/\ -(2 ^ 62)<=j/\j<2 ^ 62/\R (Itr 0 j.toNat) H1
theorem yGR{a:Expr}{ta:TA}{p pos:Pos}(hg:Gl X "range")(hm:X.mg "range"=none)(ha:PA X [a] ta)(hs:starEach [a] X.env=[(false,eval a X.env)]:=by rfl):PI X tg (.Call (.Name "range" p) [a] [] pos) (iRng1 ta):=by
 intro pins s σ H R I h
 refine Call_ (zOM I hg hm boot_range (PyProof.Rows.callWith_type1 (thn (ha pos pins s σ H _ I h) λus s1 ⟨vs,H1,I1,r1,q1⟩=>?_) hs rfl))
 obtain⟨j,e,q1,q2,q⟩:=q1
 subst e
 cases r1 with
 |cons r rr=>
  cases rr
  obtain⟨t,rfl⟩:=r
  exact call_range_1 (yIT I1 (by omega) (by omega) q1 q2 (by simpa using q))
def tFor(wi:TI)(g:TG)(tb:TS):TS:=λD σ H=>wi σ H λJ H1=> ∃W:Nat->Nat->St->Hp->Prop,(∃m,W 0 m σ H1)/\ ∀i m σ H,W i m σ H->
 (J.stop i H/\D.nx σ H)\/(J.go i H/\ ∃N:St->Hp->Prop,(∀σ' H',N σ' H'-> ∃m',m'<m/\W (i+1) m' σ' H')/\ ∀x H',J.yld i H x H'->g x σ H' λσ2 H2=>tb {D with nx:=N,ct:=N,bk:=D.nx} σ2 H2)
def zON(fp:List Addr)(h:Heap):List (Addr×Obj):=fp.filterMap λb=>(h.get? b).map λo=>(b,o)
theorem zLU{fp:List Addr}{h:Heap}{b:Addr}{o:Obj}(hb:b∈fp)(e:h.get? b=some o):(b,o)∈zON fp h:=mem_filterMap.mpr ⟨b,hb,by rw [e];rfl⟩
theorem yGS{fp:List Addr}{h:Heap}{p:Addr×Obj}(hp:p∈zON fp h):p.1∈fp/\h.get? p.1=some p.2:=by
 obtain⟨b,hb,e⟩:=mem_filterMap.mp hp
 cases q:h.get? b with
 |none=>rw [q]at e;cases e
 |some o=>
  rw [q]at e
  have e':(b,o)=p:=Option.some.inj e
  subst e'
  exact⟨hb,q⟩
theorem Inv.pinned{pins:List (Addr×Obj)}{σ:St}{H:Hp}{s:Shared}{fp:List Addr}(I:Inv X pins σ H s)(hf: ∀b∈fp,zNE X pins H b)(ho: ∀b∈fp, ∃o,s.heap.get? b=some o/\ ∀v,o.data≠.cell v):Inv X (pins++zON fp s.heap) σ H s:=
 I.pins_of λp hp=>(mem_append.mp hp).elim (λz=>I.pin p (mem_append_right _ z)) λz=>by
  obtain⟨hb,e⟩:=yGS z
  obtain⟨f0,f1,f2,_⟩:=hf p.1 hb
  obtain⟨o,e',d⟩:=ho p.1 hb
  rw [e]at e';cases e'
  exact⟨e,f0,f1,f2,d⟩
theorem Inv.unpinned{pins pl:List (Addr×Obj)}{σ:St}{H:Hp}{s:Shared}(I:Inv X (pins++pl) σ H s):Inv X pins σ H s:=I.pins_of λp hp=>I.pin p (mem_append_right _ (mem_append_left _ hp))
theorem yQY{iter:Expr}{body:List Stmt}{wi:TI}{g:TG}{tb:TS}{pos:Pos}(hp:PassesOwn (model X.prog X.w) X.A X.env X.xe)(hc:X.calm=true)(hi:PI X tg iter wi)(hg:PG X tg g)(hb:PSs X body tb)
  (hs: ∀x,foldedSetIterable iter X.env x=pure x:=by intro _;rfl):PS X (.For tg iter body [] pos) (tFor wi g tb):=by
 intro pins s σ H D I h
 refine wpAny_For (thn (hi pins s σ H _ I h) λv s1 h1=>thn h1 λitv s2 h2=>?_) hs
 obtain⟨it,fp,tn,J,H2,e,I2,T,st2,f2,W,⟨m0,w0⟩,turn⟩:=h2
 subst e
 have stat: ∀{H':Hp},(∀b∈fp,H' b=none)-> ∀b∈fp,zNE X pins H' b:=λhn b hb=>⟨hn b hb,(f2 b hb).2⟩
 refine codeAny_forLoop_any (λn s'=> ∃i σ' H',Inv X pins σ' H' s'/\tn i s'.heap/\(∀b∈fp,H' b=none)/\W i n σ' H') ?_ m0 ⟨0,σ,H2,I2,st2,λb hb=>(f2 b hb).1,w0⟩
 rintro n s3 ⟨i,σ3,H3,I3,st3,fr3,w3⟩
 rcases turn i n σ3 H3 w3 with⟨stop,qn⟩|⟨go,N,hN,step⟩
 ·refine wpAny_passesOwn hp (thn (T.done X rfl rfl rfl hc i pins s3 σ3 H3 X.xe I3 (stat fr3) st3 stop) λr s4 ⟨hr,I4⟩=>?_)
  subst hr
  exact wpAny_execs_nil ⟨σ3,H3,I4,qn⟩
 ·refine wpAny_passesOwn hp (thn (T.item X rfl rfl rfl hc i pins s3 σ3 H3 X.xe I3 (stat fr3) st3 go) λr s4 ⟨u,hr,h4⟩=>?_)
  subst hr
  refine wpAny_passesOwn hp (thn h4 λ_ s5 ⟨x,H5,I5,r5,y5,st5,fr5⟩=>?_)
  have I5':=I5.pinned (stat fr5) (T.obj _ _ st5)
  refine wpAny_passesOwn hp (thn (hg _ s5 σ3 H5 x u _ I5' r5 (step x H5 y5)) λ_ s6 ⟨σ6,H6,I6,q6⟩=>?_)
  refine wpAny_passesOwn hp (thn (hb _ s6 σ6 H6 _ I6 q6) λf s7 q7=>?_)
  have again: ∀{σ7:St}{H7:Hp},Inv X (pins++zON fp s5.heap) σ7 H7 s7->N σ7 H7-> ∃m,m<n/\ ∃i σ' H',Inv X pins σ' H' s7/\tn i s7.heap/\(∀b∈fp,H' b=none)/\W i m σ' H':=λ{σ7 H7} I7 n7=>by
   obtain⟨m',hm,w7⟩:=hN σ7 H7 n7
   refine⟨m',hm,i+1,σ7,H7,I7.unpinned,T.keep _ _ _ st5 λb hb o e=>(I7.pin (b,o) (mem_append_right _ (mem_append_right _ (zLU hb e)))).1,λb hb=>?_,w7⟩
   obtain⟨o,e,d⟩:=T.obj _ _ st5 b hb
   exact(I7.pin (b,o) (mem_append_right _ (mem_append_right _ (zLU hb e)))).2.1
  cases f with
  |next=>obtain⟨σ7,H7,I7,n7⟩:=q7;exact again I7 n7
  |cont=>obtain⟨σ7,H7,I7,n7⟩:=q7;exact again I7 n7
  |brk=>obtain⟨σ7,H7,I7,q7⟩:=q7;exact⟨σ7,H7,I7.unpinned,q7⟩
  |ret v=>obtain⟨x7,σ7,H7,I7,r7,q7⟩:=q7;exact⟨x7,σ7,H7,I7.unpinned,r7,q7⟩
end
abbrev R2:=V->V->Hp->VK->Prop
def OpR(X:Cx)(f:Value->Value->Sem Value)(r:R2):Prop:=
 ∀(pins:List (Addr×Obj))(s:Shared)(σ:St)(H:Hp)(x y:V)(v u:Value)(Q:VK),Inv X pins σ H s->RelV x v->RelV y u->r x y H Q->
  wpAny (model X.prog X.w) X.A (f v u) (EP X pins σ Q) X.xe s
def UnR(X:Cx)(f:Value->Sem Value)(r:V->Hp->VK->Prop):Prop:=
 ∀(pins:List (Addr×Obj))(s:Shared)(σ:St)(H:Hp)(x:V)(v:Value)(Q:VK),Inv X pins σ H s->RelV x v->r x H Q->
  wpAny (model X.prog X.w) X.A (f v) (EP X pins σ Q) X.xe s
def CallR(X:Cx)(f:Value)(r:List V->Hp->VK->Prop):Prop:=
 ∀(pins:List (Addr×Obj))(s:Shared)(σ:St)(H:Hp)(xs:List V)(us:List Value)(Q:VK),Inv X pins σ H s->Vals xs us->r xs H Q->
  wpAny (model X.prog X.w) X.A (call f us) (EP X pins σ Q) X.xe s
def TruR(X:Cx)(r:V->Hp->(Bool->Hp->Prop)->Prop):Prop:=
 ∀(pins:List (Addr×Obj))(s:Shared)(σ:St)(H:Hp)(x:V)(v:Value)(Q:Bool->Hp->Prop),Inv X pins σ H s->RelV x v->r x H Q->
  wpAny (model X.prog X.w) X.A (truthy v) (TP X pins σ Q) X.xe s
def tOp(r:R2)(ta tb:TE):TE:=λσ H Q=>ta σ H λx H1=>tb σ H1 λy H2=>r x y H2 Q
def tUn(r:V->Hp->VK->Prop)(ta:TE):TE:=λσ H Q=>ta σ H λx H1=>r x H1 Q
def rI(C:Int->Int->Prop)(g:Int->Int->V):R2:=λx y H Q=> ∃i j,x=.int i/\y=.int j/\C i j/\Q (g i j) H
def rI0(g:Int->Int->V):R2:=λx y H Q=> ∃i j,x=.int i/\y=.int j/\Q (g i j) H
def rU(g:Int->V):V->Hp->VK->Prop:=λx H Q=> ∃i,x=.int i/\Q (g i) H
section
variable{X:Cx}{a b c:Expr}{ta tb tc:TE}{pos:Pos}
theorem binT(ha:PE X a ta)(hb:PE X b tb){pins:List (Addr×Obj)}{s:Shared}{σ:St}{H:Hp}{R:V->V->Hp->Prop}(I:Inv X pins σ H s)
  (h:ta σ H λx H1=>tb σ H1 λy H2=>R x y H2) {Q:VP} {f:Value->Value->Sem Value}
  (hf: ∀v u s2 x y H2,Inv X pins σ H2 s2->RelV x v->RelV y u->R x y H2->wpAny (model X.prog X.w) X.A (f v u) Q X.xe s2):
  wpAny (model X.prog X.w) X.A (eval a X.env) (λv s₁=>wpAny (model X.prog X.w) X.A (eval b X.env) (λu s₂=>wpAny (model X.prog X.w) X.A (f v u) Q X.xe s₂) X.xe s₁) X.xe s:=by
 refine thn (ha pins s σ H _ I h) λv s1 ⟨x,H1,I1,r1,q1⟩=>?_
 refine thn (hb pins s1 σ H1 _ I1 q1) λu s2 ⟨y,H2,I2,r2,q2⟩=>?_
 exact hf v u s2 x y H2 I2 r1 r2 q2
theorem pe_op{op:Operator}{r:R2}(ho:OpR X (binaryOp op) r)(ha:PE X a ta)(hb:PE X b tb):PE X (.BinOp a op b pos) (tOp r ta tb):=by
 intro pins s σ H Q I h
 exact wpAny_BinOp (binT ha hb I h λv u s2 x y H2 I2 rx ry q=>ho pins s2 σ H2 x y v u Q I2 rx ry q)
theorem pe_un{op:UnaryOp}{r:V->Hp->VK->Prop}(ho:UnR X (unaryOp op) r)(ha:PE X a ta):PE X (.UnaryOp op a pos) (tUn r ta):=by
 intro pins s σ H Q I h
 exact UnaryOp_ (thn (ha pins s σ H _ I h) λv s1 ⟨x,H1,I1,r1,q1⟩=>ho pins s1 σ H1 x v Q I1 r1 q1)
theorem opI{f:Value->Value->Sem Value}{C:Int->Int->Prop}{g:Int->Int->Int}
  (rule: ∀(i j:Int)(t u:Tok)(s:Shared)(Q:VP)(E:VP),C i j->Q (.int (g i j) s.toks) {s with toks:=s.toks+1}->wpAny (model X.prog X.w) X.A (f (.int i t) (.int j u)) Q E s):
  OpR X f (rI C λi j=>.int (g i j)):=by
 intro pins s σ H x y v u Q I rx ry h
 obtain⟨i,j,rfl,rfl,hc,q⟩:=h
 obtain⟨t,rfl⟩:=rx
 obtain⟨t',rfl⟩:=ry
 exact rule i j t t' s _ _ hc ⟨.int (g i j),H,I.tok _,⟨_,rfl⟩,q⟩
theorem opI0{f:Value->Value->Sem Value}{g:Int->Int->Int}
  (rule: ∀(i j:Int)(t u:Tok)(s:Shared)(Q:VP)(E:VP),Q (.int (g i j) s.toks) {s with toks:=s.toks+1}->wpAny (model X.prog X.w) X.A (f (.int i t) (.int j u)) Q E s):
  OpR X f (rI0 λi j=>.int (g i j)):=by
 intro pins s σ H x y v u Q I rx ry h
 obtain⟨i,j,rfl,rfl,q⟩:=h
 obtain⟨t,rfl⟩:=rx
 obtain⟨t',rfl⟩:=ry
 exact rule i j t t' s _ _ ⟨.int (g i j),H,I.tok _,⟨_,rfl⟩,q⟩
theorem opB0{f:Value->Value->Sem Value}{g:Int->Int->Bool}
  (rule: ∀(i j:Int)(t u:Tok)(s:Shared)(Q:VP)(E:VP),Q (.bool (g i j)) s->wpAny (model X.prog X.w) X.A (f (.int i t) (.int j u)) Q E s):
  OpR X f (rI0 λi j=>.bl (g i j)):=by
 intro pins s σ H x y v u Q I rx ry h
 obtain⟨i,j,rfl,rfl,q⟩:=h
 obtain⟨t,rfl⟩:=rx
 obtain⟨t',rfl⟩:=ry
 exact rule i j t t' s _ _ ⟨.bl (g i j),H,I,rfl,q⟩
def CMul(i j:Int):Prop:=(-(2 ^ 64)<i/\i<2 ^ 64)\/(-(2 ^ 64)<j/\j<2 ^ 64)
theorem CMul.ok{i j:Int}(h:CMul i j):IntMulOk i j:=by
 rcases h with⟨h1,h2⟩|⟨h1,h2⟩
 ·exact .of_left (intBits_le_64 h1 h2)
 ·exact .of_right (intBits_le_64 h1 h2)
theorem yQZ:OpR X (binaryOp .Add) (rI0 λi j=>.int (i+j)):=opI0 λ_ _ _ _ _ _ _ q=>add_int q
theorem yRA:OpR X (binaryOp .Sub) (rI0 λi j=>.int (i - j)):=opI0 λ_ _ _ _ _ _ _ q=>sub_int q
theorem yRB:OpR X (binaryOp .Mod) (rI (λ_ j=>0<j) λi j=>.int (i % j)):=opI λi j _ _ _ _ _ hc q=>by
 have h1:(0:Int)<j:=hc
 exact mod_int' (by omega) (by rw [Int.fmod_eq_emod_of_nonneg i (by omega)];exact q)
theorem unI{f:Value->Sem Value}{g:Int->Int}
  (rule: ∀(i:Int)(t:Tok)(s:Shared)(Q:VP)(E:VP),Q (.int (g i) s.toks) {s with toks:=s.toks+1}->wpAny (model X.prog X.w) X.A (f (.int i t)) Q E s):
  UnR X f (rU λi=>.int (g i)):=by
 intro pins s σ H x v Q I rx h
 obtain⟨i,rfl,q⟩:=h
 obtain⟨t,rfl⟩:=rx
 exact rule i t s _ _ ⟨.int (g i),H,I.tok _,⟨_,rfl⟩,q⟩
theorem yRC:UnR X (unaryOp .USub) (rU λi=>.int (-i)):=unI λ_ _ _ _ _ q=>neg_int q
end
section
variable{X:Cx}{a b c:Expr}{ta tb tc:TE}{pos:Pos}
theorem yRD{pins:List (Addr×Obj)}{σ:St}{H:Hp}{s:Shared}{Q:VK}{k k':Bool}(I:Inv X pins σ H s)(q:Q (.bl k) H)(e:k=k'):EP X pins σ Q (.bool k') s:=by
 subst e
 exact⟨.bl k,H,I,rfl,q⟩
theorem op_ge:OpR X (compareOp .GtE) (rI0 λi j=>.bl (decide (j<=i))):=opB0 λ_ _ _ _ _ _ _ q=>ge_int q
theorem zWJ:OpR X (compareOp .NotIn) (λx y H Q=> ∃i j,x=.str i/\y=.str j/\Q (.bl (!(!(Builtin.Str.occurrences j i 0 j.length 1).isEmpty))) H):=by
 intro pins s σ H x y v u Q I rx ry h
 obtain⟨i,j,rfl,rfl,q⟩:=h
 obtain⟨t,rfl⟩:=rx
 obtain⟨t',rfl⟩:=ry
 exact notIn_str (yRD I q rfl)
theorem OpR.or{f:Value->Value->Sem Value}{r r':R2}(h:OpR X f r)(h':OpR X f r'):OpR X f (λx y H Q=>r x y H Q\/r' x y H Q):=by
 intro pins s σ H x y v u Q I rx ry q
 rcases q with q|q
 ·exact h pins s σ H x y v u Q I rx ry q
 ·exact h' pins s σ H x y v u Q I rx ry q
theorem yIU(b:Expr){op:CmpOp}(h:op≠.In:=by decide)(h2:op≠.NotIn:=by decide):behindInMarks op b=false:=by
 have e1:(op==CmpOp.In)=false:=by cases op<;>first |rfl|exact absurd rfl h
 have e2:(op==CmpOp.NotIn)=false:=by cases op<;>first |rfl|exact absurd rfl h2
 cases b<;>simp [behindInMarks,e1,e2]
theorem yMM{op:CmpOp}{r:R2}(ho:OpR X (compareOp op) r)(ha:PE X a ta)(hb:PE X b tb)(hm:behindInMarks op b=false):PE X (.Compare a [op] [b] pos) (tOp r ta tb):=by
 intro pins s σ H Q I h
 exact wpAny_Compare1 (binT ha hb I h λv u s2 x y H2 I2 rx ry q=>ho pins s2 σ H2 x y v u Q I2 rx ry q) hm
def tTest(t:TE):TT:=λσ H Q=>t σ H λx H'=> ∃k,x=.bl k/\Q k H'
theorem yMN{op:CmpOp}{r:R2}(ho:OpR X (compareOp op) r)(ha:PE X a ta)(hb:PE X b tb)(hm:behindInMarks op b=false):PT X (.Compare a [op] [b] pos) (tTest (tOp r ta tb)):=by
 intro pins s σ H Q I h
 refine wpAny_isTrue_Compare1 (thn (ha pins s σ H _ I h) λv s1 ⟨x,H1,I1,r1,q1⟩=>thn (hb pins s1 σ H1 _ I1 q1) λu s2 ⟨y,H2,I2,r2,q2⟩=>
  thn (ho pins s2 σ H2 x y v u _ I2 r1 r2 q2) λc s3 ⟨z,H3,I3,r3,k,e,q3⟩=>?_) hm
 subst e
 cases r3
 exact wpAny_truthy_bool ⟨H3,I3,q3⟩
def TruV(K:PySem.W.Frag)(x:V)(H:Hp)(k:Bool):Prop:=
 match x with
 |.non=>k=false
 |.bl b=>k=b
 |.int i=>k=(i !=0)
 |.str y=>y.length<=sizeLine/\k=((y.length:Int) !=0)
 |.byt y=>y.size<=sizeLine/\k=((y.size:Int) !=0)
 |.ref p=>(∃xs,SqL K H p xs/\k= !xs.isEmpty)\/(∃xs,SqT K H p xs/\k= !xs.isEmpty)\/ ∃kvs,H p=some (.dK kvs)/\k= !kvs.isEmpty
 |_=>False
theorem yCG{κ:Type}{kvs:List (κ×V)}{vs:List (κ×Value)}(r:KV kvs vs):(!vs.isEmpty)= !kvs.isEmpty:=by
 cases r<;>rfl
theorem zRN{xs:List V}{its:List Value}(r:Vals xs its):(!its.toArray.isEmpty)= !xs.isEmpty:=by
 cases r<;>simp
theorem zLV:(sizeLine:Nat)<2 ^ 63:=by rw [sizeLine_eq];decide
theorem yRE:TruR X (λx H Q=> ∃k,TruV X.K x H k/\Q k H):=by
 intro pins s σ H x v Q I rx h
 obtain⟨k,e,q⟩:=h
 have hl:=zLV
 have hs:sizeLine=16777216:=sizeLine_eq
 cases x with
 |non=>
  cases rx
  have e':k=false:=e
  subst e'
  exact truthy_none ⟨H,I,q⟩
 |bl b=>
  cases rx
  have e':k=b:=e
  subst e'
  exact wpAny_truthy_bool ⟨H,I,q⟩
 |int i=>
  obtain⟨t,rfl⟩:=rx
  have e':k=(i !=0):=e
  subst e'
  exact PySem.P.truthy_int ⟨H,I,q⟩
 |str y=>
  obtain⟨t,rfl⟩:=rx
  obtain⟨hy,e'⟩:y.length<=sizeLine/\k=((y.length:Int) !=0):=e
  subst e'
  exact PySem.P.truthy_str (by omega) ⟨H,I.tok _,q⟩
 |byt y=>
  obtain⟨t,rfl⟩:=rx
  obtain⟨hy,e'⟩:y.size<=sizeLine/\k=((y.size:Int) !=0):=e
  subst e'
  exact PySem.W.truthy_bytes (by omega) ⟨H,I.tok _,q⟩
 |ref p=>
  cases rx
  have e':(∃xs,SqL X.K H p xs/\k= !xs.isEmpty)\/(∃xs,SqT X.K H p xs/\k= !xs.isEmpty)\/ ∃kvs,H p=some (.dK kvs)/\k= !kvs.isEmpty:=e
  rcases e' with⟨xs,hx,e'⟩|⟨xs,hx,e'⟩|⟨kvs,hx,e'⟩
  ·subst e'
   obtain⟨its,r,pl,hz⟩:=I.list hx
   have hlen:=r.length
   exact wpAny_truthy_list pl.isList (by simp only [sA0];omega) ⟨H,I.tok _,by rw [zRN r];exact q⟩
  ·subst e'
   obtain⟨its,r,pl,hz⟩:=I.tuple hx
   have hlen:=r.length
   exact truthy_tuple pl (by simp only [sA0];omega) ⟨H,I.tok _,by rw [zRN r];exact q⟩
  ·subst e'
   obtain⟨hz,hS,vs,r,m⟩:kvs.length<=sizeLine/\(p==sysModules)=false/\ ∃vs,KV kvs vs/\s.heap.DictOf (zQT X.prog X.w) p vs:=I.hok p _ hx
   have hlen:kvs.length=vs.length:=Paired.length r
   exact wpAny_truthy_dict hS m (by omega) ⟨H,I.tok _,by rw [yCG r];exact q⟩
 |_=>exact(show False from e).elim
theorem yIV(ha:PE X a ta)(he: ∀whole,isTrue a X.env whole=(do let v <-whole;standAt a.pos;holding [v] (truthy v))):
  PT X a (λσ H Q=>ta σ H λx H'=> ∃k,TruV X.K x H' k/\Q k H'):=by
 intro pins s σ H Q I h
 exact isTrue_plain (thn (ha pins s σ H _ I h) λv s1 ⟨x,H1,I1,r1,q1⟩=>yRE pins s1 σ H1 x v Q I1 r1 q1) (he _)
theorem yCH:OpR X (binaryOp .Add) (λx y H Q=> ∃i j,x=.str i/\y=.str j/\i.length+j.length<=sizeLine/\Q (.str (i++j)) H):=by
 intro pins s σ H x y v u Q I rx ry h
 obtain⟨i,j,rfl,rfl,hz,q⟩:=h
 obtain⟨t,rfl⟩:=rx
 obtain⟨t',rfl⟩:=ry
 exact add_str (λt' tk=>⟨.str (i++j),H,I.tok _,⟨_,rfl⟩,q⟩) hz
theorem vals1{x:V}{us:List Value}(r:Vals [x] us): ∃u,us=[u]/\RelV x u:=by
 cases r with
 |cons r1 r2=>cases r2;exact⟨_,rfl,r1⟩
theorem vals2{x y:V}{us:List Value}(r:Vals [x,y] us): ∃u w',us=[u,w']/\RelV x u/\RelV y w':=by
 cases r with
 |cons r1 r2=>
  cases r2 with
  |cons r3 r4=>cases r4;exact⟨_,_,rfl,r1,r3⟩
theorem yGT(hc:X.calm=true):CallR X (.builtin "min") (λxs H Q=> ∃i j,xs=[.int i,.int j]/\Q (.int (if j<i then j else i)) H):=by
 intro pins s σ H xs us Q I r h
 obtain⟨i,j,rfl,q⟩:=h
 obtain⟨u,w',rfl,⟨t,rfl⟩,⟨t',rfl⟩⟩:=vals2 r
 refine min_two_ints (I.ok.hd hc) λh' tk k=>⟨_,H,I.kept k,?_,q⟩
 by_cases hj:j<i
 ·rw [iP hj,iP hj];exact⟨_,rfl⟩
 ·rw [iN hj,iN hj];exact⟨_,rfl⟩
end
structure ObjM(h:Heap)(x dx C:Addr)(mA:Str->Option Value):Prop where
 obj:h.get? x=some (PySem.W.instObj C dx)
 ns:h.Ns1 dx mA
 ne:dx≠x
theorem yGU{h:Heap}{dx:Addr}{mA:Str->Option Value}(n:h.Ns1 dx mA): ∃od,h.get? dx=some od/\ ∀name,PySem.W.lookIn name od=some (mA name):=by
 obtain⟨o,es,ep,ho,hd,hk,_,hm⟩:=n
 refine⟨o,ho,λname=>?_⟩
 have e:=hm name
 unfold nsFind findBy at e
 rw [<-Array.find?_toList]at e
 unfold PySem.W.lookIn
 rw [hd]
 dsimp only
 split
 ·rename_i y q
  rw [q]at e
  exact congrArg some e
 ·rename_i q
  rw [q]at e
  have a:es.toList.any (·.refKey)=false:=by
   rw [any_eq_false]
   intro y hy
   obtain⟨z,t,hkey⟩:=hk y (Array.mem_toList_iff.mp hy)
   simp [DictEntry.refKey,hkey]
  have a': ¬es.toList.any (·.refKey)=true:=by rw [a];exact xF0
  rw [iN a']
  exact congrArg some e
theorem ObjM.look{h:Heap}{x dx C:Addr}{mA:Str->Option Value}(I:ObjM h x dx C mA): ∃od,PySem.W.InstAt h x (PySem.W.instObj C dx) C (some od)/\ ∀name,PySem.W.lookIn name od=some (mA name):=
 let ⟨od,ho,hl⟩:=yGU I.ns
 ⟨od,⟨I.obj,rfl,rfl,ho⟩,hl⟩
section
variable{prog:Program}{w:World}{A:Around}{E:VP}{s:Shared}{K:PySem.W.Frag}{x dx C f:Addr}{mA:Str->Option Value}{name:Str}{v:Value}
theorem yMO{expr:Bool}{Q:VP}(X:K.In s.heap)(I:ObjM s.heap x dx C mA)(hg:PySem.W.plainGet K C name=true)(hh:PySem.W.hasDictIn K C=true)
  (ha:PySem.W.findIn K (.ref C) name=some none) (hv:mA name=some v) (hv':PySem.W.handedIn v=true) (h:Q v {s with toks:=s.toks+1}):
  wpAny (model prog w) A (getAttr (.ref x) name expr) Q E s:=by
 obtain⟨od,J,hl⟩:=I.look
 exact PySem.W.get_value X J (PySem.W.plainGet_of hg).1 (PySem.W.findObj_own hh ha rfl (by rw [hl,hv])) hv' h
theorem yIW{pl:Sem Bool}{Q:Value×List Value->Shared->Prop}(X:K.In s.heap)(I:ObjM s.heap x dx C mA)(hg:PySem.W.plainGet K C name=true)
  (hf:PySem.W.findIn K (.ref C) name=some (some (.ref f))) (ht:PySem.W.isFn K (.ref f)=true) (hv:mA name=none) (h:Q (.ref f,[.ref x]) s):
  wpAny (model prog w) A (getMethod (.ref x) name pl) Q E s:=by
 obtain⟨od,J,hl⟩:=I.look
 exact PySem.W.method_fn X J (PySem.W.plainGet_of hg).1 (PySem.W.plainGet_of hg).2 hf (beq_iff_eq.mp ht) (by show(PySem.W.lookIn name od).map (·.isSome)=some false;rw [hl,hv];rfl) h
theorem yMP{ns:List Str}{Q:Unit->Shared->Prop}(X:K.In s.heap)(I:ObjM s.heap x dx C mA)
  (hs:PySem.W.findIn K (.ref C) "__setattr__"=some (some (.builtin "object.__setattr__"))) (hp:PySem.W.plainOver K C=true) (ht:PySem.W.takerIn K C name=some none) (hh:PySem.W.hasDictIn K C=true)
  (hw:PySem.Within mA ns) (hsz:ns.length<=sizeLine)
  (h: ∀h',ObjM h' x dx C (λy=>if y=name then some v else mA y)->Heap.SameBut dx s.heap h'->Q () {s with heap:=h',toks:=s.toks+2}):
  wpAny (model prog w) A (setAttr (.ref x) name v) Q E s:=by
 obtain⟨od,J,hl⟩:=I.look
 refine PySem.W.set_plain X J hs (PySem.W.osa_open (s:={s with toks:=s.toks+1}) (r:=none) X J hp ht λb=>?_)
 obtain⟨cd,hc,hd'⟩:=PySem.W.any_some hh
 have hx:s.heap.get? x=some ⟨.ref C,some dx,.plain,#[]⟩:=I.obj
 refine wB0 (wP0 (wB0 (wB0 (wpAny_loadPart hx (wB0 (PySem.W.Looks.here (s:={s with toks:=s.toks+1}) (PySem.W.looks_clsIn X hc) ?_))))))
 rw [hd']
 refine wP0 (a:=some dx) (wB0 (wP0 (wB0 ?_)))
 refine wpAny_nsSet1 (s:={s with toks:=s.toks+1}) I.ns λh' hn2 hs2=>?_
 obtain⟨oD,esD,epD,hoD,hdD,hcD⟩:=hn2.count (PySem.Within.cons name v hw)
 refine wB0 (wpAny_lookBehind hoD (by rw [hdD];exact pastItsLine_dict (le_trans hcD (by rw [lC];omega))) ?_)
 exact wP0 (h _ ⟨(hs2.2 _ (Ne.symm I.ne)).trans I.obj,hn2,I.ne⟩ hs2)
theorem yIX{R:Result->Shared->Prop}{vs:List Value}{kw:List (Str×Value)}(X:K.In s.heap)(hm:PySem.W.makesIn K C=true)
  (hi:PySem.W.findIn K (.ref C) "__init__"=some (some (.ref f))) (hf:PySem.W.typeIn K (.ref f)=some (.type "function"))
  (h:codeAny (model prog w) (A.under (.builtin "type.__call__" ⟨.ref C::vs,kw⟩)) (.call (.ref f) ⟨.ref (s.heap.objs.size+1)::vs,kw⟩) (PySem.W.InitBack (s.heap.objs.size+1) R)
   {s with heap:=(s.heap.push PySem.W.emptyDict).push (PySem.W.instObj C s.heap.objs.size)}):
  codeAny (model prog w) A (.call (.ref C) ⟨vs,kw⟩) R s:=by
 obtain⟨hh,g,d,t,os⟩:=s
 exact PySem.W.make_core (PySem.W.makes_of X hm) (PySem.W.looks_findIn X hi) (λself=>PySem.W.bind_fn X self hf) (.inl rfl) h
end
def zIU(f:Str)(v:V):List (Str×V)->List (Str×V)
 |[]=>[(f,v)]
 |(g,x)::r=>if g=f then(g,v)::r else(g,x)::zIU f v r
theorem zPQ(f g:Str)(v:V): ∀fs:List (Str×V),(zIU f v fs).lookup g=if g=f then some v else fs.lookup g
 |[]=>by
  show List.lookup g [(f,v)]=_
  by_cases h:g=f
  ·have hb:(g==f)=true:=beq_iff_eq.mpr h
   simp only [List.lookup,hb,iP h]
  ·have hb:(g==f)=false:=beq_eq_false_iff_ne.mpr h
   simp only [List.lookup,hb,iN h]
 |(k,x)::r=>by
  have ih:=zPQ f g v r
  rw [show zIU f v ((k,x)::r)=(if k=f then(k,v)::r else(k,x)::zIU f v r)from rfl]
  by_cases hk:k=f
  ·rw [iP hk]
   by_cases h:g=k
   ·have hb:(g==k)=true:=beq_iff_eq.mpr h
    simp only [List.lookup,hb,iP (h.trans hk)]
   ·have hb:(g==k)=false:=beq_eq_false_iff_ne.mpr h
    simp only [List.lookup,hb,iN (λe:g=f=>h (e.trans hk.symm))]
  ·rw [iN hk]
   by_cases h:g=k
   ·have hb:(g==k)=true:=beq_iff_eq.mpr h
    simp only [List.lookup,hb,iN (λe:g=f=>hk (h.symm.trans e))]
   ·have hb:(g==k)=false:=beq_eq_false_iff_ne.mpr h
    simp only [List.lookup,hb]
    exact ih
theorem zOO(f:Str)(v:V): ∀fs:List (Str×V),f∈(zIU f v fs).map (·.1)/\ ∀g,g∈fs.map (·.1)->g∈(zIU f v fs).map (·.1)
 |[]=>⟨by simp [zIU],λg h=>by simp at h⟩
 |(k,x)::r=>by
  obtain⟨i1,i2⟩:=zOO f v r
  rw [show zIU f v ((k,x)::r)=(if k=f then(k,v)::r else(k,x)::zIU f v r)from rfl]
  by_cases hk:k=f
  ·rw [iP hk]
   subst hk
   exact⟨by simp,λg h=>by simpa using h⟩
  ·rw [iN hk]
   refine⟨?_,λg h=>?_⟩
   ·rw [map_cons]
    exact mO _ i1
   ·rw [map_cons]at h ⊢
    rcases mC.mp h with e|e
    ·exact mC.mpr (.inl e)
    ·exact mO _ (i2 g e)
theorem zPR(f:Str)(v:V): ∀fs:List (Str×V),(zIU f v fs).length<=fs.length+1
 |[]=>by simp [zIU]
 |(k,x)::r=>by
  have ih:=zPR f v r
  rw [show zIU f v ((k,x)::r)=(if k=f then(k,v)::r else(k,x)::zIU f v r)from rfl]
  by_cases hk:k=f
  ·rw [iP hk,lC,lC];omega
  ·rw [iN hk,lC,lC];omega
theorem RelO.some_of{v:V}{o:Option Value}(r:RelO (some v) o): ∃u,o=some u/\RelV v u:=by
 cases o with
 |none=>exact(show False from r).elim
 |some u=>exact⟨u,rfl,r⟩
theorem RelO.none_of{o:Option Value}(r:RelO none o):o=none:=by
 cases o with
 |none=>rfl
 |some u=>exact(show False from r).elim
theorem yGV{v:V}{u:Value}(r:RelV v u):PySem.W.handedIn u=true:=by
 cases v with
 |non=>cases (show u=Value.none from r);rfl
 |bl b=>cases (show u=Value.bool b from r);rfl
 |int i=>obtain⟨t,e⟩:=(show∃t,u=Value.int i t from r);cases e;rfl
 |str x=>obtain⟨t,e⟩:=(show∃t,u=Value.str x t from r);cases e;rfl
 |byt b=>obtain⟨t,e⟩:=(show∃t,u=Value.bytes b t from r);cases e;rfl
 |flt b=>obtain⟨t,e⟩:=(show∃t,u=Value.float b t from r);cases e;rfl
 |ref a=>cases (show u=Value.ref a from r);rfl
 |ty n=>cases (show u=Value.type n from r);rfl
section
variable{P:Program}{w:World}{H H':Hp}{h h':Heap}{a C dx:Addr}{fs fs':List (Str×V)}
theorem yMQ(hok:HOk P w H h)(e:H a=some (.ins C dx fs)): ∃mA,ObjM h a dx C mA/\(∀f,RelO (fs.lookup f) (mA f))/\PySem.Within mA (fs.map (·.1))/\fs.length<=1000/\H dx=some (.own a):=by
 obtain⟨d,z,ne,ob,mA,n,r,q⟩:=(show ObjOk P w H h a (.ins C dx fs)from hok a _ e)
 exact⟨mA,⟨ob,n,ne⟩,r,q,z,d⟩
end
structure Cls(K:PySem.W.Frag)(C:Addr):Prop where
 pg:PySem.W.plainGet K C Str.empty=true
 hd:PySem.W.hasDictIn K C=true
 po:PySem.W.plainOver K C=true
 sa:PySem.W.findIn K (.ref C) "__setattr__"=some (some (.builtin "object.__setattr__"))
theorem Cls.get{K:PySem.W.Frag}{C:Addr}(c:Cls K C)(f:Str):PySem.W.plainGet K C f=true:=c.pg
def NoAttr(K:PySem.W.Frag)(C:Addr)(f:Str):Prop:=PySem.W.findIn K (.ref C) f=some none
theorem NoAttr.taker{K:PySem.W.Frag}{C:Addr}{f:Str}(n:NoAttr K C f):PySem.W.takerIn K C f=some none:=by
 unfold PySem.W.takerIn
 rw [show PySem.W.findIn K (.ref C) f=some none from n]
 rfl
structure Meth(K:PySem.W.Frag)(C:Addr)(m:Str)(f:Addr):Prop where
 at_:PySem.W.findIn K (.ref C) m=some (some (.ref f))
 fn:PySem.W.isFn K (.ref f)=true
 kp:PySem.W.keepIn K (.ref f)=true
section
variable{X:Cx}{pins:List (Addr×Obj)}{σ:St}{H:Hp}{s:Shared}{a C dx:Addr}{fs:List (Str×V)}{f:Str}{v:V}{A:Around}{E:VP}
theorem yCI{y:V}{u:Value}{Q:Unit->Shared->Prop}(I:Inv X pins σ H s)(e:H a=some (.ins C dx fs))(c:Cls X.K C)(n:NoAttr X.K C f)(hl:fs.length<1000)(ry:RelV y u)
  (h: ∀s',Inv X pins σ (upd H a (.ins C dx (zIU f y fs))) s'->Q () s'):wpAny (model X.prog X.w) A (setAttr (.ref a) f u) Q E s:=by
 obtain⟨mA,O,r,wi,_,ho⟩:=yMQ I.hok e
 have hz:(fs.map (·.1)).length<=sizeLine:=by rw [lM,sizeLine_eq];omega
 refine yMP I.kIn O c.sa c.po n.taker c.hd wi hz λh' O' sb=>h _ ?_
 have hd: ∃o,h'.get? dx=some o:=let ⟨o,_,_,e',_⟩:=O'.ns;⟨o,e'⟩
 refine I.write (x:=a) (e:=dx) (by rw [e];exact True.intro) (.inr ho) (λb q hb z=>(sb.2 b hb).trans z) hd ?_
 refine⟨by rw [zZ O.ne];exact ho,?_,O.ne,O'.obj,_,O'.ns,λg=>?_,λg hg=>?_⟩
 ·have:=zPR f y fs;omega
 ·show RelO ((zIU f y fs).lookup g) (if g=f then some u else mA g)
  rw [zPQ]
  by_cases q:g=f
  ·rw [iP q,iP q];exact ry
  ·rw [iN q,iN q];exact r g
 ·by_cases q:g=f
  ·rw [q];exact(zOO f y fs).1
  ·refine(zOO f y fs).2 g (wi g λz=>hg ?_)
   show(if g=f then some u else mA g)=none
   rw [iN q];exact z
theorem Inv.made(I:Inv X pins σ H s):Inv X pins σ (upd (upd H s.heap.objs.size (.own (s.heap.objs.size+1))) (s.heap.objs.size+1) (.ins C s.heap.objs.size []))
  {s with heap:=(s.heap.push PySem.W.emptyDict).push (PySem.W.instObj C s.heap.objs.size)}:=by
 have e1:(s.heap.push PySem.W.emptyDict).get? s.heap.objs.size=some PySem.W.emptyDict:=Heap.get?_push_size s.heap rfl
 have e2:((s.heap.push PySem.W.emptyDict).push (PySem.W.instObj C s.heap.objs.size)).get? (s.heap.objs.size+1)=some (PySem.W.instObj C s.heap.objs.size):=by
  have:=Heap.get?_push_size (s.heap.push PySem.W.emptyDict) (o:=PySem.W.instObj C s.heap.objs.size) rfl
  rwa [Heap.size_push]at this
 have e3:(s.heap.push PySem.W.emptyDict).Ns s.heap.objs.size (λ_=>none):=⟨PySem.W.emptyDict,#[],_,e1,rfl,(λe he=>absurd he (by simp)),λ_=>rfl⟩
 have I1:=I.laid (a:=s.heap.objs.size) (o:=.own (s.heap.objs.size+1)) (h':=s.heap.push PySem.W.emptyDict) (t':=s.toks) (λb u q=>hP0 _ q) (le_refl _) ⟨_,e1⟩
 refine I1.laid (a:=s.heap.objs.size+1) (o:=.ins C s.heap.objs.size []) (t':=s.toks) (λb u q=>hP0 _ q) (le_of_eq (Heap.size_push _ _)) ?_
 have ne:s.heap.objs.size≠s.heap.objs.size+1:=ne_of_lt (lt_succ_self _)
 refine⟨by rw [zZ ne,xU],zero_le _,ne,e2,λ_=>none,(Heap.Ns1.of_empty e3).at λo q=>hP0 _ q,λ_=>True.intro,λy hy=>absurd rfl hy⟩
theorem yMR{prog:Program}{w:World}{env:Env}{e:Expr}{f:Str}{pos:Pos}{s:Shared}{Q:VP}(hb:attributeBase e f env (eval e env)=eval e env)
  (h:wpAny (model prog w) A (eval e env) (λo s₁=>wpAny (model prog w) A (getAttr o f true) Q E s₁) E s):wpAny (model prog w) A (eval (.Attribute e f pos) env) Q E s:=
 Attribute_any_ h (by rw [arm_eval_Attribute,hb])
end
def sFld(K:PySem.W.Frag)(ta tv:TE)(f:Str):TS:=λD σ H=>tv σ H λy H1=>ta σ H1 λx H2=> ∃a C dx fs,x=.ref a/\H2 a=some (.ins C dx fs)/\Cls K C/\NoAttr K C f/\fs.length<1000/\
 D.nx σ (upd H2 a (.ins C dx (zIU f y fs)))
section
variable{X:Cx}{o e value:Expr}{f:Str}{pos pos' tpos:Pos}{ta tv:TE}
theorem yRF(ha:PE X o ta)(hv:PE X value tv)(hs:swapsWith value (some (.Attribute o f pos')) pos.line X.env=pure false):PS X (.Assign [.Attribute o f pos'] value pos) (sFld X.K ta tv f):=by
 intro pins s σ H D I h
 refine plainObj_wpAny_Assign_Attribute (thn (hv pins s σ H _ I h) λu s1 ⟨y,H1,I1,ry,q⟩=>thn (ha pins s1 σ H1 _ I1 q) λov s2 ⟨x,H2,I2,rx,a,C,dx,fs,ex,ea,c,n,l,q2⟩=>?_) hs
 subst ex
 obtain rfl:ov=Value.ref a:=rx
 exact yCI I2 ea c n l ry λs3 I3=>⟨σ,_,I3,q2⟩
end
structure Room(k:Nat)(A:Around):Prop where
 hd:A.handled=none
 dp:A.depth+3 * k+5<recursionLimit
 un:A.units+16 * k+200<cLine
theorem Room.mono{j k:Nat}{A:Around}(r:Room k A)(h:j<=k):Room j A:=⟨r.hd,by have:=r.dp;omega,by have:=r.un;omega⟩
theorem Room.deeper{k:Nat}{A:Around}(r:Room (k+1) A)(env:Env):Room k (A.deeper env):=
 ⟨r.hd,by have:=r.dp;show A.depth+1+3 * k+5<_;omega,by have:=r.un;show A.units+3+16 * k+200<_;omega⟩
theorem yCJ{A:Around}{C:Addr}{us:List Value}{kw:List (Str×Value)}:(A.under (.builtin "type.__call__" ⟨.ref C::us,kw⟩)).depth=A.depth+1:=by
 first |rfl|simp [Around.under,Code.weight,Code.isCreation,Code.isGuard,Code.isCaller,Code.frames,Code.isFrame,guardIds]
theorem yCK{A:Around}{C:Addr}{us:List Value}{kw:List (Str×Value)}:(A.under (.builtin "type.__call__" ⟨.ref C::us,kw⟩)).units=A.units+1:=by
 first |rfl|simp [Around.under,Code.cUnits,Code.frames,Code.isFrame]
theorem Room.make{k:Nat}{A:Around}(r:Room (k+1) A)(C:Addr)(us:List Value)(kw:List (Str×Value)):Room k (A.under (.builtin "type.__call__" ⟨.ref C::us,kw⟩)):=
 ⟨r.hd,by have:=r.dp;rw [yCJ];omega,by have:=r.un;rw [yCK];omega⟩
theorem Room.depth{k:Nat}{A:Around}(r:Room k A):A.depth<recursionLimit:=by have:=r.dp;omega
theorem Room.units{k:Nat}{A:Around}(r:Room k A):A.units+64<cLine:=by have:=r.un;omega
def tNil:TA:=λ_ H Q=>Q [] H
def yPX(ta:TE)(tr:TA):TA:=λσ H Q=>ta σ H λx H1=>tr σ H1 λxs H2=>Q (x::xs) H2
section
variable{X:Cx}{e:Expr}{es:List Expr}{te:TE}{t:TA}{pos:Pos}
theorem yCL:PA X [] tNil:=λ_ _ _ _ H Q I h=>Calls.spliced_nil ⟨[],H,I,.nil,h⟩
theorem zWK(ha:PE X e te)(hr:PA X es t)(hs:starEach (e::es) X.env=(false,eval e X.env)::starEach es X.env:=by rfl):PA X (e::es) (yPX te t):=by
 intro pos pins s σ H Q I h
 rw [hs]
 show wpAny _ _ (spliced ((false,eval e X.env)::backTo pos (starEach es X.env))) _ _ s
 refine Calls.spliced_cons (thn (ha pins s σ H _ I h) λu s1 ⟨x,H1,I1,r1,q1⟩=>?_)
 exact thn (hr pos pins s1 σ H1 _ I1 q1) λus s2 ⟨xs,H2,I2,r2,q2⟩=>⟨x::xs,H2,I2,.cons r1 r2,q2⟩
def tTup(t:TA):TE:=λσ H Q=>t σ H λxs H1=>xs.length<=sizeLine/\ ∀p,H1 p=none->Q (.ref p) (upd H1 p (.tup xs))
def tLst(t:TA):TE:=λσ H Q=>t σ H λxs H1=>xs.length<=sizeLine/\ ∀p,H1 p=none->Q (.ref p) (upd H1 p (.lst xs))
theorem yRG{x1}(h:PA X es t):PE X (.Tuple es x1 pos) (tTup t):=by
 intro pins s σ H Q I hq
 refine wpAny_Tuple_spliced (thn (h pos pins s σ H _ I hq) λus s1 ⟨xs,H1,I1,r,z,q⟩=>⟨by rw [<-r.length];exact z,?_⟩)
 have hf:H1 s1.heap.objs.size=none:=I1.hok.fresh (le_refl _)
 refine⟨.ref s1.heap.objs.size,upd H1 s1.heap.objs.size (.tup xs),I1.laid (t':=s1.toks) (λb u e=>hP0 _ e) (le_refl _) ?_,rfl,q _ hf⟩
 exact⟨z,us,r,⟨_,Heap.get?_push_size _ rfl,rfl,_,rfl⟩⟩
theorem yRH(h:PA X es t):PE X (.List es pos) (tLst t):=by
 intro pins s σ H Q I hq
 refine wpAny_List_spliced (thn (h pos pins s σ H _ I hq) λus s1 ⟨xs,H1,I1,r,z,q⟩=>⟨by rw [<-r.length];exact z,?_⟩)
 have hf:H1 s1.heap.objs.size=none:=I1.hok.fresh (le_refl _)
 refine⟨.ref s1.heap.objs.size,upd H1 s1.heap.objs.size (.lst xs),I1.laid (t':=s1.toks) (λb u e=>hP0 _ e) (le_refl _) ?_,rfl,q _ hf⟩
 exact⟨z,us,0,r,Heap.get?_push_size _ rfl⟩
end
abbrev Sp:=List V->Hp->VK->XK->Prop
abbrev CXT:=List Env->Hp->Shared->XK->VP
structure Env0(P:Program)(w:World)(K:PySem.W.Frag)(mg:Str->Option Value)(base:Heap)(A:Around)(outer:List Env)(s:Shared)(H:Hp):Prop where
 frames:A.frames=some outer
 mod:Mod K mg base
 bs: ∀b o,base.get? b=some o->s.heap.get? b=some o/\H b=none
 bsz:base.objs.size<=s.heap.objs.size
 funs:s.heap.FunFrames base outer
 frf: ∀b∈frs outer,H b=none
 hok:HOk P w H s.heap
 bare:AllBare s.gens
def CE(outer:List Env)(P:Program)(w:World)(H:Hp)(s:Shared)(Q:VK)(u:Value)(s':Shared):Prop:=
 ∃v H',s'.os=s.os/\AllBare s'.gens/\Un (frs outer) [] H H' s.heap s'.heap/\HOk P w H' s'.heap/\RelV v u/\Q v H'
def CR(CX:CXT)(outer:List Env)(P:Program)(w:World)(H:Hp)(s:Shared)(Q:VK)(E:XK)(r:Result)(s':Shared):Prop:=
 match r with
 |.ok (.ret u)=>CE outer P w H s Q u s'
 |.ok _=>False
 |.error e=>CX outer H s E e s'
structure FnOk(P:Program)(w:World)(K:PySem.W.Frag)(mg:Str->Option Value)(base:Heap)(CX:CXT)(k:Nat)(f:Addr)(fd:FuncData)(ps:List Str)(sp:Sp):Prop where
 len: ∀vs H Q E,sp vs H Q E->vs.length=ps.length
 run: ∀(A:Around)(outer:List Env)(s:Shared)(H:Hp)(args:Args)(us:List Value)(vs:List V)(Q:VK)(E:XK),Room k A->Env0 P w K mg base A outer s H->BindsTo s fd args (ps.zip us)->Vals vs us->sp vs H Q E->
  codeAny (model P w) A (.call (.ref f) args) (CR CX outer P w H s Q E) s
theorem FnOk.mono{P:Program}{w:World}{K:PySem.W.Frag}{mg:Str->Option Value}{base:Heap}{CX:CXT}{j k:Nat}{f:Addr}{fd:FuncData}{ps:List Str}{sp:Sp}(F:FnOk P w K mg base CX j f fd ps sp)(h:j<=k):
  FnOk P w K mg base CX k f fd ps sp:=⟨F.len,λA outer s H args us vs Q E hr=>F.run A outer s H args us vs Q E (hr.mono h)⟩
theorem FnOk.imp{P:Program}{w:World}{K:PySem.W.Frag}{mg:Str->Option Value}{base:Heap}{CX:CXT}{k:Nat}{f:Addr}{fd:FuncData}{ps:List Str}{sp sp':Sp}(F:FnOk P w K mg base CX k f fd ps sp)
  (h: ∀vs H Q E,sp' vs H Q E->sp vs H Q E):FnOk P w K mg base CX k f fd ps sp':=
 ⟨λvs H Q E q=>F.len vs H Q E (h _ _ _ _ q),λA outer s H args us vs Q E hr he hb hv hs=>F.run A outer s H args us vs Q E hr he hb hv (h _ _ _ _ hs)⟩
theorem Env0.make{P:Program}{w:World}{K:PySem.W.Frag}{mg:Str->Option Value}{base:Heap}{A:Around}{outer:List Env}{s:Shared}{H:Hp}(e:Env0 P w K mg base A outer s H)(C:Addr)(us:List Value)(kw:List (Str×Value)):
  Env0 P w K mg base (A.under (.builtin "type.__call__" ⟨.ref C::us,kw⟩)) outer s H:=⟨by first |exact e.frames|(simpa [Around.under,Code.envs,Code.isFrame,pushEnvs]using e.frames),e.mod,e.bs,e.bsz,e.funs,e.frf,e.hok,e.bare⟩
section
variable{X:Cx}{pins:List (Addr×Obj)}{σ:St}{H:Hp}{s s':Shared}
theorem Inv.env0(I:Inv X pins σ H s):Env0 X.prog X.w X.K X.mg X.base X.A X.stack s H:=
 ⟨I.ok.frames,I.ok.mod,I.bs,le_trans I.ok.bsz I.sz,I.stack,I.stkFree,I.hok,I.bare⟩
theorem Inv.after{Q:VK}{u:Value}(I:Inv X pins σ H s)(h:CE X.stack X.prog X.w H s Q u s'):EP X pins σ Q u s':=by
 obtain⟨v,H',os,bare,un,hok,r,q⟩:=h
 obtain⟨hh,g,d,t,os'⟩:=s'
 obtain rfl:os'=s.os:=os
 exact⟨v,H',I.call (h':=hh) (g':=g) (d':=d) (t':=t) (ch:=[]) un hok bare (λb z=>absurd z (by simp)),r,q⟩
end
def tCall(sp:Sp)(dvs:List V)(E:XK)(t:TA):TE:=λσ H Q=>t σ H λvs H1=>sp (vs++dvs) H1 Q E
def yPY(C:Addr)(sp:Sp)(dvs:List V)(E:XK)(t:TA):TE:=λσ H Q=>t σ H λvs H1=> ∀x dx,H1 x=none->H1 dx=none->dx≠x->
 sp (.ref x::(vs++dvs)) (upd (upd H1 dx (.own x)) x (.ins C dx [])) (λv H2=>v=.non/\Q (.ref x) H2) E
def Binds(K:PySem.W.Frag)(fd:FuncData)(ps:List Str)(ds:List Value):Prop:=
 ∀(s:Shared)(us:List Value),K.In s.heap->(us++ds).length=ps.length->BindsTo s fd ⟨us,[]⟩ (ps.zip (us++ds))
theorem Binds.all{K:PySem.W.Frag}{fd:FuncData}{ps:List Str}(h: ∀us:List Value,us.length=ps.length->bindArgs fd ⟨us,[]⟩=pure (ps.zip us)):Binds K fd ps []:=λs us _ hl=>by
 rw [aN]at hl ⊢
 exact .of_eq (h us hl)
def zRO(CX:CXT)(X:Cx)(E:XK):Prop:= ∀(pins:List (Addr×Obj))(σ:St)(H:Hp)(s:Shared)(e:Value)(s':Shared),Inv X pins σ H s->CX X.stack H s E e s'->X.xe e s'
section
variable{X:Cx}{CX:CXT}{k:Nat}{f C:Addr}{fd:FuncData}{ps:List Str}{sp:Sp}{dvs:List V}{ds:List Value}{E:XK}{x m:Str}{p pos apos:Pos}{e o:Expr}{es:List Expr}{ta:TE}{t:TA}
theorem yIY{pins:List (Addr×Obj)}{σ:St}{H:Hp}{s:Shared}{Q:VK}{us:List Value}{vs:List V}(F:FnOk X.prog X.w X.K X.mg X.base CX k f fd ps sp)(hr:Room k X.A)(hb:Binds X.K fd ps ds)(hd:Vals dvs ds)(hx:zRO CX X E)
  (I:Inv X pins σ H s) (r:Vals vs us) (h:sp (vs++dvs) H Q E):wpAny (model X.prog X.w) X.A (call (.ref f) us) (EP X pins σ Q) X.xe s:=by
 have r2:Vals (vs++dvs) (us++ds):=r.append hd
 have hl:(us++ds).length=ps.length:=by rw [<-r2.length];exact F.len _ _ _ _ h
 refine wpAny_call (codeAny_mono (F.run X.A X.stack s H ⟨us,[]⟩ (us++ds) (vs++dvs) Q E hr I.env0 (hb s us I.kIn hl) r2 h) λr s' hq=>?_)
 cases r with
 |error e=>exact hx pins σ H s e s' I hq
 |ok fl=>
  cases fl with
  |ret u=>exact I.after hq
  |next=>exact False.elim hq
  |brk=>exact False.elim hq
  |cont=>exact False.elim hq
theorem yMS(F:FnOk X.prog X.w X.K X.mg X.base CX k f fd ps sp)(hr:Room k X.A)(hg:Gl X x)(hm:X.mg x=some (.ref f))(hk:PySem.W.keepIn X.K (.ref f)=true)(hb:Binds X.K fd ps ds)(hd:Vals dvs ds)(hx:zRO CX X E)
  (ha:PA X (e::es) t) (hdb:(x==("__debug__":Str))=false:=by decide) (he:starEach (e::es) X.env=(false,eval e X.env)::starEach es X.env:=by rfl) (hpl:(backTo pos (starEach es X.env)).any (·.1)=false:=by rfl):
  PE X (.Call (.Name x p) (e::es) [] pos) (tCall sp dvs E t):=by
 intro pins s σ H Q I h
 refine wpAny_Call_Name_kw (yED I hg hm ?_ hdb)
 refine PySem.W.callWith_K (h₀:=X.base) I.ok.mod.kin hk (thn (ha pos pins s σ H _ I h) λus s1 ⟨vs,H1,I1,r,q⟩=>⟨I1.kIn,?_⟩) he hpl
 exact yIY F hr hb hd hx I1 r q
structure Mk(K:PySem.W.Frag)(C f:Addr):Prop where
 makes:PySem.W.makesIn K C=true
 init:PySem.W.findIn K (.ref C) "__init__"=some (some (.ref f))
 fn:PySem.W.isFn K (.ref f)=true
 kp:PySem.W.keepIn K (.ref C)=true
theorem yIZ{pins:List (Addr×Obj)}{σ:St}{H:Hp}{s:Shared}{Q:VK}{us:List Value}{vs:List V}(M:Mk X.K C f)(F:FnOk X.prog X.w X.K X.mg X.base CX k f fd ps sp)(hr:Room (k+1) X.A)(hb:Binds X.K fd ps ds)(hd:Vals dvs ds)
  (hx:zRO CX X E) (I:Inv X pins σ H s) (r:Vals vs us)
  (h: ∀x dx,H x=none->H dx=none->dx≠x->sp (.ref x::(vs++dvs)) (upd (upd H dx (.own x)) x (.ins C dx [])) (λv H2=>v=.non/\Q (.ref x) H2) E):
  wpAny (model X.prog X.w) X.A (call (.ref C) us) (EP X pins σ Q) X.xe s:=by
 have hq:=h (s.heap.objs.size+1) s.heap.objs.size (I.hok.fresh (le_succ _)) (I.hok.fresh (le_refl _)) (ne_of_lt (lt_succ_self _))
 have I2:=Inv.made (C:=C) I
 have r2:Vals (V.ref (s.heap.objs.size+1)::(vs++dvs)) (Value.ref (s.heap.objs.size+1)::(us++ds)):=.cons rfl (r.append hd)
 have hl:(Value.ref (s.heap.objs.size+1)::us++ds).length=ps.length:=by
  have e:=r2.length
  rw [F.len _ _ _ _ hq]at e
  exact e.symm
 refine wpAny_call (yIX (f:=f) I.kIn M.makes M.init (beq_iff_eq.mp M.fn) (codeAny_mono (F.run _ X.stack _ _ ⟨Value.ref (s.heap.objs.size+1)::us,[]⟩ (Value.ref (s.heap.objs.size+1)::(us++ds)) _ _ E (hr.make C us [])
  (I2.env0.make C us []) (hb _ (Value.ref (s.heap.objs.size+1)::us) I2.kIn hl) r2 hq) λr s' hq'=>?_))
 cases r with
 |error e=>exact hx pins σ _ _ e s' I2 hq'
 |ok fl=>
  cases fl with
  |ret u=>
   obtain⟨v,H',I3,rv,ev,q3⟩:=I2.after hq'
   subst ev
   exact⟨rv,⟨V.ref (s.heap.objs.size+1),H',I3,rfl,q3⟩⟩
  |next=>exact False.elim hq'
  |brk=>exact False.elim hq'
  |cont=>exact False.elim hq'
theorem yMT(M:Mk X.K C f)(F:FnOk X.prog X.w X.K X.mg X.base CX k f fd ps sp)(hr:Room (k+1) X.A)(hg:Gl X x)(hm:X.mg x=some (.ref C))(hb:Binds X.K fd ps ds)(hd:Vals dvs ds)(hx:zRO CX X E)
  (ha:PA X (e::es) t) (hdb:(x==("__debug__":Str))=false:=by decide) (he:starEach (e::es) X.env=(false,eval e X.env)::starEach es X.env:=by rfl) (hpl:(backTo pos (starEach es X.env)).any (·.1)=false:=by rfl):
  PE X (.Call (.Name x p) (e::es) [] pos) (yPY C sp dvs E t):=by
 intro pins s σ H Q I h
 refine wpAny_Call_Name_kw (yED I hg hm ?_ hdb)
 refine PySem.W.callWith_K (h₀:=X.base) I.ok.mod.kin M.kp (thn (ha pos pins s σ H _ I h) λus s1 ⟨vs,H1,I1,r,q⟩=>⟨I1.kIn,?_⟩) he hpl
 exact yIZ M F hr hb hd hx I1 r q
end
structure FnScope(N P:List Str)(sc:Scope):Prop where
 kind:sc.kind=.function
 co:sc.isCoroutine=false
 gen:sc.isGenerator=false
 nd:N.Nodup
 pre:N.take P.length=P
 par: ∀x∈P,sc.names.lookup x=some .local\/sc.names.lookup x=some .cell
 nofree: ∀y∈sc.names,y.2≠.free
theorem fsK{N P:List Str}{sc:Scope}(h:N.Nodup/\N.take P.length=P/\(∀x∈P,sc.names.lookup x=some .local\/sc.names.lookup x=some .cell)/\∀y∈sc.names,y.2≠.free)(a:sc.kind=.function:=by rfl)(b:sc.isCoroutine=false:=by rfl)(c:sc.isGenerator=false:=by rfl):FnScope N P sc:=⟨a,b,c,h.1,h.2.1,h.2.2.1,h.2.2.2⟩
theorem zVJ{kindOf:Str->Option NameKind}{x:Str}: ∀{binds:List (Str×Value)}{m:Str->Option Value},(∀v,(x,v)∉binds)->bindL kindOf binds m x=m x
 |[],_,_=>rfl
 |(n,v)::r,m,h=>by
  unfold bindL
  rw [zVJ λw hw=>h w (mO _ hw)]
  split
  ·have:x≠n:=by rintro rfl;exact h v mF0
   simp [this]
  ·rfl
theorem zVK{kindOf:Str->Option NameKind}{x:Str}: ∀{binds:List (Str×Value)}{m:Str->Option Value},(∀v,(x,v)∉binds)->bindC kindOf binds m x=m x
 |[],_,_=>rfl
 |(n,v)::r,m,h=>by
  unfold bindC
  rw [zVK λw hw=>h w (mO _ hw)]
  split
  ·rfl
  ·have:x≠n:=by rintro rfl;exact h v mF0
   simp [this]
theorem zVL{kindOf:Str->Option NameKind}{x:Str}{v:Value}: ∀{P:List Str}{vs:List Value}{i:Nat}{m:Str->Option Value},P.Nodup->P[i]? =some x->vs[i]? =some v->kindOf x=some .local->
  bindL kindOf (P.zip vs) m x=some v
 |[],_,_,_,_,h,_,_=>by simp at h
 |_::_,[],_,_,_,_,h,_=>by simp at h
 |p::P,w::vs,0,m,nd,h1,h2,hk=>by
  simp at h1 h2;subst h1;subst h2
  show bindL kindOf ((p,w)::P.zip vs) m p=_
  unfold bindL
  rw [zVJ λv hv=>(nodup_cons.mp nd).1 (of_mem_zip hv).1,iP hk]
  simp
 |p::P,w::vs,i+1,m,nd,h1,h2,hk=>by
  show bindL kindOf ((p,w)::P.zip vs) m x=_
  unfold bindL
  exact zVL (i:=i) (nodup_cons.mp nd).2 (by simpa using h1) (by simpa using h2) hk
theorem zVM{kindOf:Str->Option NameKind}{x:Str}{v:Value}: ∀{P:List Str}{vs:List Value}{i:Nat}{m:Str->Option Value},P.Nodup->P[i]? =some x->vs[i]? =some v->kindOf x≠some .local->
  bindC kindOf (P.zip vs) m x=some v
 |[],_,_,_,_,h,_,_=>by simp at h
 |_::_,[],_,_,_,_,h,_=>by simp at h
 |p::P,w::vs,0,m,nd,h1,h2,hk=>by
  simp at h1 h2;subst h1;subst h2
  show bindC kindOf ((p,w)::P.zip vs) m p=_
  unfold bindC
  rw [zVK λv hv=>(nodup_cons.mp nd).1 (of_mem_zip hv).1,iN hk]
  simp
 |p::P,w::vs,i+1,m,nd,h1,h2,hk=>by
  show bindC kindOf ((p,w)::P.zip vs) m x=_
  unfold bindC
  exact zVM (i:=i) (nodup_cons.mp nd).2 (by simpa using h1) (by simpa using h2) hk
def start(N:List Str)(vs:List V):St:=vs.map some++List.replicate (N.length - vs.length) none
def zZL(CX:CXT)(P:Program)(w:World)(K:PySem.W.Frag)(mg:Str->Option Value)(base:Heap)(N:List Str)(qual:Str)(scope:Scope)(f:Addr)(cd:Value)(A:Around)(outer:List Env)(s:Shared)(H:Hp)(E:XK):Cx where
 prog:=P
 w:=w
 K:=K
 mg:=mg
 base:=base
 A:=A.deeper (envOfC qual scope s.heap.objs.size f cd)
 N:=N
 s₀:=s
 H₀:=H
 env:=envOfC qual scope s.heap.objs.size f cd
 outer:=outer
 stack:=envOfC qual scope s.heap.objs.size f cd::outer
 ex:=[]
 calm:=true
 fn:=λ_=>true
 pn:=[]
 xe:=λe s'=>wpAny (model P w) (A.deeper (envOfC qual scope s.heap.objs.size f cd)) (leaving (envOfC qual scope s.heap.objs.size f cd) e) (λ_ s''=>CX outer H s E e s'') (λe' s''=>CX outer H s E e' s'') s'
theorem zZM{sc:Scope}{n:Nat}{x:Str}(h:sc.names.lookup x=some .cell): ∃c,(cellsFrom n sc.names []).lookup x=some c:=by
 have q:=PySem.W.cellsFrom_some sc.names n [] (.inl h)
 exact Option.isSome_iff_exists.mp q
theorem yGW{CX:CXT}{P:Program}{w:World}{K:PySem.W.Frag}{mg:Str->Option Value}{base:Heap}{N ps:List Str}{qual:Str}{scope:Scope}{f:Addr}{cd:Value}{A:Around}{outer:List Env}{s s1:Shared}{H:Hp}{E:XK}{us:List Value}{vs:List V}
  (S:FnScope N ps scope) (hd:A.handled=none) (e0:Env0 P w K mg base A outer s H) (hl:vs.length=ps.length) (r:Vals vs us)
  (x:InCallC s s.heap.objs.size (bindL (envOfC qual scope s.heap.objs.size f cd).kindOf (ps.zip us) λ_=>none) (cellsFrom (s.heap.objs.size+1) scope.names []) (bindC (envOfC qual scope s.heap.objs.size f cd).kindOf (ps.zip us) λ_=>none) s1):
  Inv (zZL CX P w K mg base N qual scope f cd A outer s H E) [] (start N vs) H s1:=by
 have hpl:ps.length<=N.length:=by have:=congrArg List.length S.pre;rw [lT]at this;omega
 obtain⟨h1,tk,rfl,hk⟩:=x.done
 have noA: ∀b:Addr,b∉(zZL CX P w K mg base N qual scope f cd A outer s H E).ex:=λb z=>absurd (show b∈([]:List Addr)from z) (by simp)
 refine⟨⟨e0.mod,S.kind,rfl,rfl,le_refl _,λy z c h1 h2=>?_,λy hy=>?_,λy c _ h=>?_,λ_=>hd,Around.frames_deeper e0.frames,.inr ⟨rfl,rfl⟩,λb z=>absurd z (noA b),e0.bs,e0.bsz,λb _ _=>noA b,λb z=>absurd z (noA b),e0.funs,e0.frf⟩,
  rfl,e0.bare,Un.kept hk,⟨_,x.toInCall.ns,λi y v h1 h2 h3=>?_⟩,λy c h=>⟨_,x.cell y c h⟩,e0.hok.fresh (le_refl _),λy c h=>?_,λp hp=>absurd (show p∈([]:List (Addr×Obj))from hp) (by simp),e0.hok.kept hk,?_⟩
 ·exact name_of_addr x.apart (PySem.mem_of_lookup h1) (PySem.mem_of_lookup h2)
 ·have hy:scope.names.lookup y=some .cell\/scope.names.lookup y=some .free:=hy
  rcases hy with hy|hy
  ·exact zZM hy
  ·exact absurd rfl (S.nofree _ (PySem.mem_of_lookup hy))
 ·exact le_of_lt (x.above y c (PySem.mem_of_lookup h))
 ·have hi:i<vs.length:=by
   unfold start at h2
   by_cases hi:i<vs.length
   ·exact hi
   ·rw [getElem?_append_right (by simpa using hi)]at h2
    rw [List.getElem?_replicate]at h2
    split at h2<;>cases h2
  have ha:vs[i]? =some v:=by
   unfold start at h2
   rw [getElem?_append_left (by simpa using hi),getElem?_map]at h2
   cases e:vs[i]? with
   |none=>rw [e]at h2;cases h2
   |some a=>rw [e]at h2;cases h2;rfl
  obtain⟨u,hu,rv⟩:=r.get ha
  have hp:ps[i]? =some y:=by
   rw [<-S.pre,getElem?_take_of_lt (by omega)];exact h1
  have ndP:ps.Nodup:=by rw [<-S.pre];exact S.nd.sublist (List.take_sublist _ _)
  refine⟨u,rv,?_⟩
  rcases S.par y (mem_of_getElem? hp)with k|k
  ·exact .inl ⟨k,zVL ndP hp hu k⟩
  ·obtain⟨c,e⟩:=zZM (n:=s.heap.objs.size+1) k
   refine .inr ⟨.inl k,c,e,?_⟩
   have q:=x.cell y c e
   rw [zVM ndP hp hu (by show scope.names.lookup y≠_;rw [k];decide)]at q
   exact q
 ·exact e0.hok.fresh (le_of_lt (x.above y c (PySem.mem_of_lookup h)))
 ·unfold start
  show _=N.length
  rw [lA,lM,length_replicate]
  omega
theorem fn_of{CX:CXT}{P:Program}{w:World}{K:PySem.W.Frag}{mg:Str->Option Value}{base:Heap}{k:Nat}{f:Addr}{name qual:Str}{params:Arguments}{body:List Stmt}{scope:Scope}{dV kV doc pm cdv ct oc:Value}{an od:Option Addr}
  {osl:Array (Option Value)} {N ps:List Str} {sp:Sp} (lk:K.lookup f=some ⟨oc,od,.func (PySem.W.fnOf name qual params body scope dV kV doc pm an cdv ct),osl⟩) (hcd:PySem.W.codeIn K cdv qual=true) (S:FnScope N ps scope)
  (len: ∀vs H Q E,sp vs H Q E->vs.length=ps.length)
  (hbody: ∀(A:Around)(outer:List Env)(s:Shared)(H:Hp)(vs:List V)(Q:VK)(E:XK),Room k (A.deeper (envOfC qual scope s.heap.objs.size f cdv))->sp vs H Q E->
   ∃t,PSs (zZL CX P w K mg base N qual scope f cdv A outer s H E) body t/\t {nx:=λ_ H'=>Q .non H',rt:=Q} (start N vs) H):
  FnOk P w K mg base CX (k+1) f (PySem.W.fnOf name qual params body scope dV kV doc pm an cdv ct) ps sp:=by
 refine⟨len,λA outer s H args us vs Q E hr e0 hb r hsp=>?_⟩
 have hl:=len _ _ _ _ hsp
 have KX:K.In s.heap:=e0.mod.kin.keeps λb o e=>(e0.bs b o e).1
 have lim:s.heap.NoLimit:=e0.mod.nolimit.keeps λb o e=>(e0.bs b o e).1
 have hkind: ∀y∈ps.zip us,scope.names.lookup y.1=some .local\/(scope.names.lookup y.1=some .cell/\((cellsFrom (s.heap.objs.size+1) scope.names []).lookup y.1).isSome=true):=λ⟨n,v⟩ hy=>by
  rcases S.par n (of_mem_zip hy).1 with q|q
  ·exact .inl q
  ·exact .inr ⟨q,PySem.W.cellsFrom_some _ _ _ (.inl q)⟩
 refine codeAny_call_function hr.depth (KX _ _ lk) rfl S.co S.gen rfl (PySem.W.codeRec_of KX hcd) (hb _ _ _ _ ?_)
 refine wpAny_newFunctionEnv_cells S.kind hkind λenv he s1 x=>?_
 subst he
 refine⟨lim.keeps x.toInCall.keep,codeAny_func ?_⟩
 obtain⟨t,ht,hq⟩:=hbody A outer s H vs Q E (hr.deeper _) hsp
 have I:Inv (zZL CX P w K mg base N qual scope f cdv A outer s H E) [] (start N vs) H s1:=yGW S hr.hd e0 hl r x
 refine wpAny_mono (ht [] s1 (start N vs) H _ I hq) (λfl s' hs=>?_) λe s' hs=>hs
 have fin: ∀{σ':St}{H':Hp}{v:V}{u:Value},Inv (zZL CX P w K mg base N qual scope f cdv A outer s H E) [] σ' H' s'->RelV v u->Q v H'->CE outer P w H s Q u s':=
  λ{σ' H' v u} J rv q=>⟨v,H',J.os,J.bare,J.base,J.hok,rv,q⟩
 cases fl with
 |ret u=>
  obtain⟨v,σ',H',J,rv,q⟩:=hs
  exact fin J rv q
 |next=>
  obtain⟨σ',H',J,q⟩:=hs
  exact fin (v:=V.non) (u:=Value.none) J rfl q
 |brk=>
  obtain⟨_,_,_,q⟩:=hs
  exact False.elim q
 |cont=>
  obtain⟨_,_,_,q⟩:=hs
  exact False.elim q
section
variable{X:Cx}{x:Str}{p pos:Pos}{e:Expr}{es:List Expr}{t:TA}{id T:String}{r:List V->Hp->VK->Prop}
def tCB(r:List V->Hp->VK->Prop)(t:TA):TE:=λσ H Q=>t σ H λvs H1=>r vs H1 Q
theorem yJA(hc:CallR X (.builtin id) r)(hg:Gl X x)(hm:X.mg x=none)(hv:bootBuiltins x=some (.builtin id))(ha:PA X (e::es) t)(hn:x≠"__name__":=by decide)(hdb:(x==("__debug__":Str))=false:=by decide)
  (he:starEach (e::es) X.env=(false,eval e X.env)::starEach es X.env:=by rfl) (hpl:(backTo pos (starEach es X.env)).any (·.1)=false:=by rfl):PE X (.Call (.Name x p) (e::es) [] pos) (tCB r t):=by
 intro pins s σ H Q I h
 refine wpAny_Call_Name_kw (zOM I hg hm hv ?_ hn hdb)
 exact PyProof.Rows.callWith_builtin1 (thn (ha pos pins s σ H _ I h) λus s1 ⟨vs,H1,I1,r1,q1⟩=>hc pins s1 σ H1 vs us Q I1 r1 q1) he hpl
theorem zVN(hc:CallR X (.type T) r)(hg:Gl X x)(hm:X.mg x=none)(hv:bootBuiltins x=some (.type T))(ha:PA X (e::es) t)(hn:x≠"__name__":=by decide)(hdb:(x==("__debug__":Str))=false:=by decide)
  (he:starEach (e::es) X.env=(false,eval e X.env)::starEach es X.env:=by rfl) (hpl:(backTo pos (starEach es X.env)).any (·.1)=false:=by rfl):PE X (.Call (.Name x p) (e::es) [] pos) (tCB r t):=by
 intro pins s σ H Q I h
 refine wpAny_Call_Name_kw (zOM I hg hm hv ?_ hn hdb)
 exact PyProof.Rows.callWith_type1 (thn (ha pos pins s σ H _ I h) λus s1 ⟨vs,H1,I1,r1,q1⟩=>hc pins s1 σ H1 vs us Q I1 r1 q1) he hpl
end
end L2
namespace HT
open PySem PyProof.Rows
section
variable{prog:Program}{w:World}{A:Around}{E:VP}{s:Shared}
theorem cat_tup{t b:Addr}{vs ws:List Value}{Q:VP}(ht:IsTup s.heap t vs.toArray)(hb:IsTup s.heap b ws.toArray)(hv:vs≠[])
  (h1:ws=[]->Q (.ref t) s) (h2:ws≠[]->Q (.ref s.heap.objs.size) {s with heap:=s.heap.push {cls:=.type "tuple",data:=.seq (vs++ws).toArray}})
  (hsz:vs.length+ws.length<=sizeLine):wpAny (model prog w) A (binaryOp .Add (.ref t) (.ref b)) Q E s:=by
 obtain⟨⟨cls,dd,data,sl⟩,ho,hc,n,hd⟩:=id ht
 obtain⟨⟨cls2,dd2,data2,sl2⟩,ho2,hc2,n2,hd2⟩:=id hb
 simp only at hc hd hc2 hd2
 subst hc hd hc2 hd2
 have e:vs.toArray++ws.toArray=(vs++ws).toArray:=by simp
 by_cases hw:ws=[]
 ·exact concat_meets ⟨_,ho,rfl⟩ ⟨_,ho2,rfl⟩ noFill_tuple_add seq_tuple_add PySem.F.slot_tuple_add PySem.F.entry_tuple_add (PySem.F.args_tuple_add_2 _ _)
   (tuple_addW1 t b vs.toArray ws.toArray n n2 dd dd2 sl sl2 (by simpa using hv) (by simp [hw])) ⟨ho,ho2,h1 hw⟩
 ·refine concat_meets ⟨_,ho,rfl⟩ ⟨_,ho2,rfl⟩ noFill_tuple_add seq_tuple_add PySem.F.slot_tuple_add PySem.F.entry_tuple_add (PySem.F.args_tuple_add_2 _ _)
   (tuple_addW2 t b vs.toArray ws.toArray n n2 dd dd2 sl sl2 (by simpa using hv) (by simpa using hw) (by rw [sA0,sA0];exact hsz)) ⟨ho,ho2,?_⟩
  rw [e]
  exact h2 hw
def sIx(n d:Nat):Option Int->Nat
 |none=>d
 |some v=>if v<0 then(v+(n:Int)).toNat else min v.toNat n
theorem sIx_nat(n d k:Nat):sIx n d (some (k:Int))=min k n:=by
 show(if(k:Int)<0 then((k:Int)+(n:Int)).toNat else min (k:Int).toNat n)=min k n
 rw [iN (by omega),toNat_natCast]
theorem sIx_le(n d:Nat)(hd:d<=n)(o:Option Int):sIx n d o<=n:=by
 cases o with
 |none=>exact hd
 |some v=>
  show(if v<0 then(v+(n:Int)).toNat else min v.toNat n)<=n
  by_cases hv:v<0
  ·rw [iP hv];omega
  ·rw [iN hv];exact Nat.min_le_right _ _
theorem yEH(v:Int)(n d:Nat):(if v<0 then max (v+(n:Int)) 0 else min v (n:Int))=((sIx n d (some v):Nat):Int):=by
 show(if v<0 then max (v+(n:Int)) 0 else min v (n:Int))=(((if v<0 then(v+(n:Int)).toNat else min v.toNat n):Nat):Int)
 by_cases hv:v<0
 ·simp only [iP hv];omega
 ·simp only [iN hv];omega
theorem yCM(lo hi:Option Int)(n:Nat):Builtin.Slice.sliceAdjust lo hi 1 (n:Int)=(((sIx n 0 lo:Nat):Int),((sIx n n hi:Nat):Int)):=by
 have h1: ¬((1:Int)<0):=by omega
 unfold Builtin.Slice.sliceAdjust
 simp only [h1,iF]
 refine Prod.ext ?_ ?_
 ·cases lo with
  |none=>rfl
  |some v=>exact yEH v n 0
 ·cases hi with
  |none=>rfl
  |some v=>exact yEH v n n
theorem yCN(i j:Nat):Builtin.Slice.slicePlaces (i:Int) (j:Int) 1=j - i:=by
 unfold Builtin.Slice.slicePlaces
 have h1:(1:Int)>0:=by omega
 simp only [h1,if_true,Int.ediv_one]
 split<;>omega
theorem zRP{v:Value}{o:Option Int}{Q:Option Int->Shared->Prop}(p:IsPart v o)(h:Q o s):wpAny (model prog w) A (Builtin.Slice.slicePartIndex v) Q E s:=by
 cases p with
 |none=>exact slicePart_none h
 |int i t=>exact slicePart_int h
theorem sliceApplied_gen{sl:Addr}{vl vu:Value}{lo hi:Option Int}{n:Nat}{Q:Int×Int×Nat->Shared->Prop}(hs:s.heap.IsSliceOf sl vl vu .none)(pl:IsPart vl lo)(pu:IsPart vu hi)
  (h:Q (((sIx n 0 lo:Nat):Int),1,sIx n n hi - sIx n 0 lo) s):wpAny (model prog w) A (Builtin.Slice.sliceApplied (.ref sl) (pure (n:Int))) Q E s:=by
 obtain⟨os,hos,hcs,hds⟩:=id hs
 unfold Builtin.Slice.sliceApplied Builtin.Slice.sliceFields
 refine wB0 (wB0 (wpAny_field hos hds (x:=vl) rfl (wB0 (wpAny_field hos hds (x:=vu) rfl (wB0 (wpAny_field hos hds (x:=.none) rfl (wP0 ?_)))))))
 refine wB0 (slicePart_none ?_)
 show wpAny _ _ (if((1:Int)==0)=true then _ else _) _ _ s
 rw [iN (by decide)]
 refine wB0 (zRP pl (wB0 (zRP pu (wB0 (wP0 ?_)))))
 show wpAny _ _ (match Builtin.Slice.sliceAdjust lo hi 1 (n:Int)with |(lo,hi)=>pure (lo,(1:Int),Builtin.Slice.slicePlaces lo hi 1)) _ _ s
 rw [yCM lo hi n]
 show wpAny _ _ (pure (((sIx n 0 lo:Nat):Int),(1:Int),Builtin.Slice.slicePlaces ((sIx n 0 lo:Nat):Int) ((sIx n n hi:Nat):Int) 1)) _ _ s
 rw [yCN]
 exact wP0 h
theorem yJB(xs:Array Value)(i k:Nat):((List.range k).filterMap λ(m:Nat)=>xs[((i:Int)+(m:Int) * 1).toNat]?).toArray=((xs.toList.drop i).take k).toArray:=by
 have e:(λ(m:Nat)=>xs[((i:Int)+(m:Int) * 1).toNat]?)=λm=>xs[i+m]? :=by
  funext m
  have:((i:Int)+(m:Int) * 1).toNat=i+m:=by omega
  rw [this]
 rw [e]
 have:=pick_run xs i k
 rw [List.filterMap_map]at this
 have e2:((λx=>xs[x]?)∘λx=>i+x)=λm=>xs[i+m]? :=rfl
 rw [e2]at this
 rw [this]
theorem getItem_tuple_cut{t sl:Addr}{items:Array Value}{vl vu:Value}{lo hi:Option Int}{Q:VP}(ht:IsTup s.heap t items)(hs:s.heap.IsSliceOf sl vl vu .none)(pl:IsPart vl lo)(pu:IsPart vu hi)
  (hw: ¬(sIx items.size 0 lo=0/\sIx items.size items.size hi=items.size))
  (h:Q (.ref s.heap.objs.size) {s with heap:=s.heap.push {cls:=.type "tuple",data:=.seq ((items.toList.drop (sIx items.size 0 lo)).take (sIx items.size items.size hi - sIx items.size 0 lo)).toArray}})
  (hsz:items.size<=sizeLine):wpAny (model prog w) A (getItem (.ref t) (.ref sl)) Q E s:=by
 have htake:sizeOk (.seq ((items.toList.drop (sIx items.size 0 lo)).take (sIx items.size items.size hi - sIx items.size 0 lo)).toArray):=by
  show((items.toList.drop (sIx items.size 0 lo)).take (sIx items.size items.size hi - sIx items.size 0 lo)).toArray.size<=sizeLine
  rw [sA0,lT,length_drop,Array.length_toList]
  omega
 have hj:sIx items.size items.size hi<=items.size:=sIx_le _ _ (le_refl _) hi
 obtain⟨os,hos,hcs,hds⟩:=id hs
 have hTs:s.TypeIs (.ref sl) "slice":=⟨os,hos,hcs⟩
 unfold getItem
 try with_reducible refine wpAny_holding ?_
 first |refine wB0 (wP0 ?_)|skip
 refine wB0 (wpAny_sequenceKey ht.typeIs (by decide) ?_)
 refine wB0 (wpAny_callSpecial?_slot (name:=Str.ofString "__getitem__") ht.typeIs PyProof.Rows.slot_tuple_getitem
  (wpAny_call_entry PyProof.Rows.slot_tuple_getitem ht.typeIs entry_tuple_getitem ?_ (args_tuple_getitem _ _)))
 show wpAny _ _ (Builtin.Tuple.tupleItemsOf (.ref t) >>= _) _ _ s
 refine wB0 (tupleItemsOf_ ht ?_)
 refine wB0 (wpAny_typeOf hTs ?_)
 rw [iP (by decide)]
 refine wB0 (sliceApplied_gen hs pl pu ?_)
 have hno: ¬((((sIx items.size 0 lo:Nat):Int)==0&&(1:Int)==1&&(sIx items.size items.size hi - sIx items.size 0 lo)==items.size)=true):=by
  intro q
  rw [aE,aE]at q
  have q1:((sIx items.size 0 lo:Nat):Int)=0:=eq_of_beq q.1.1
  have q2:sIx items.size items.size hi - sIx items.size 0 lo=items.size:=eq_of_beq q.2
  exact hw ⟨by omega,by omega⟩
 show wpAny _ _ (if(((sIx items.size 0 lo:Nat):Int)==0&&(1:Int)==1&&(sIx items.size items.size hi - sIx items.size 0 lo)==items.size)=true then _ else _) _ _ s
 rw [iN hno,yJB]
 first
  |exact wB0 (m:=Builtin.Tuple.tupleExact _) (wpAny_newObj_type (wP0 ⟨_,rfl,wP0 h⟩) htake)
  |exact wB0 (m:=Builtin.Tuple.tupleExact _) (wpAny_newObj_type (wB0 (wP0 (wP0 ⟨_,rfl,wP0 h⟩))) htake)
  |exact wB0 (wB0 (m:=Builtin.Tuple.tupleExact _) (wpAny_newObj_type (wP0 (wP0 ⟨_,rfl,wP0 h⟩)) htake))
  |exact wB0 (wB0 (m:=Builtin.Tuple.tupleExact _) (wpAny_newObj_type (wP0 ⟨_,rfl,wP0 h⟩) htake))
end
end HT
namespace L2
open PySem PySem.Spec PyProof.Rows
abbrev TO:=St->Hp->(Option Int->Hp->Prop)->Prop
def PO(X:Cx)(e:Option Expr)(t:TO):Prop:=
 ∀(pins:List (Addr×Obj))(s:Shared)(σ:St)(H:Hp)(Q:Option Int->Hp->Prop),Inv X pins σ H s->t σ H Q->
  wpAny (model X.prog X.w) X.A (evalPart e X.env) (λu s'=> ∃o H',Inv X pins σ H' s'/\IsPart u o/\Q o H') X.xe s
def yMU:TO:=λ_ H Q=>Q none H
def tPart(t:TE):TO:=λσ H Q=>t σ H λx H1=> ∃i,x=.int i/\Q (some i) H1
section
variable{X:Cx}{e:Expr}{te:TE}{lo hi:Option Expr}{tl th:TO}{pos p2:Pos}
theorem yMV:PO X none yMU:=by
 intro pins s σ H Q I h
 rw [evalPart_none]
 exact wP0 ⟨none,H,I,.none,h⟩
theorem yMW(h:PE X e te):PO X (some e) (tPart te):=by
 intro pins s σ H Q I hw
 rw [evalPart_some]
 refine thn (h pins s σ H _ I hw) λu s1 ⟨x,H1,I1,r1,q1⟩=>?_
 obtain⟨i,rfl,q⟩:=q1
 obtain⟨t,rfl⟩:=r1
 exact⟨some i,H1,I1,.int i t,q⟩
def SlR(X:Cx)(r:V->Option Int->Option Int->Hp->VK->Prop):Prop:=
 ∀(pins:List (Addr×Obj))(s:Shared)(σ:St)(H:Hp)(x:V)(v vl vu:Value)(lo hi:Option Int)(sl:Addr)(Q:VK),Inv X pins σ H s->RelV x v->s.heap.IsSliceOf sl vl vu .none->IsPart vl lo->IsPart vu hi->r x lo hi H Q->
  ∃T id,typeLookup (.type T) "__getitem__"=pure (some (.builtin id))/\s.TypeIs v T/\wpAny (model X.prog X.w) X.A (getItem v (.ref sl)) (EP X pins σ Q) X.xe s
theorem SlR.or{r r':V->Option Int->Option Int->Hp->VK->Prop}(h:SlR X r)(h':SlR X r'):SlR X (λx lo hi H Q=>r x lo hi H Q\/r' x lo hi H Q):=by
 intro pins s σ H x v vl vu lo hi sl Q I rx hs pl pu q
 rcases q with q|q
 ·exact h pins s σ H x v vl vu lo hi sl Q I rx hs pl pu q
 ·exact h' pins s σ H x v vl vu lo hi sl Q I rx hs pl pu q
def tSl(r:V->Option Int->Option Int->Hp->VK->Prop)(te:TE)(tl th:TO):TE:=λσ H Q=>te σ H λx H1=>tl σ H1 λl H2=>th σ H2 λu H3=>r x l u H3 Q
theorem yJC{r:V->Option Int->Option Int->Hp->VK->Prop}(hr:SlR X r)(he:PE X e te)(hl:PO X lo tl)(hu:PO X hi th):PE X (.Subscript e (.Slice lo hi none p2) pos) (tSl r te tl th):=by
 intro pins s σ H Q I h
 refine Subscript_ (thn (he pins s σ H _ I h) λv s1 ⟨x,H1,I1,r1,q1⟩=>?_)
 refine wpAny_Slice (thn (hl pins s1 σ H1 _ I1 q1) λvl s2 ⟨l,H2,I2,pl,q2⟩=>thn (hu pins s2 σ H2 _ I2 q2) λvu s3 ⟨u,H3,I3,pu,q3⟩=>?_)
 rw [evalPart_none]
 refine wP0 ?_
 have I4:Inv X pins σ H3 {s3 with heap:=s3.heap.push {cls:=.type "slice",data:=.fields #[vl,vu,.none]}}:=I3.kept (t':=s3.toks) λb ob q=>hP0 _ q
 obtain⟨T,id,hT,ht,hg⟩:=hr pins {s3 with heap:=s3.heap.push {cls:=.type "slice",data:=.fields #[vl,vu,.none]}} σ H3 x v vl vu l u s3.heap.objs.size Q I4 r1 (Heap.IsSliceOf.new ..) pl pu q3
 show wpAny (model X.prog X.w) X.A (subscriptTail e (.Slice lo hi none p2) v (.ref s3.heap.objs.size)) (EP X pins σ Q) X.xe {s3 with heap:=s3.heap.push {cls:=.type "slice",data:=.fields #[vl,vu,.none]}}
 exact tail_any (ops:=[.ref s3.heap.objs.size,v]) ht hT hg (by with_unfolding_all rfl)
def zZN(xs:List V)(lo hi:Option Int):List V:=(xs.drop (HT.sIx xs.length 0 lo)).take (HT.sIx xs.length xs.length hi - HT.sIx xs.length 0 lo)
theorem zPS(xs:List V)(lo hi:Option Int):(zZN xs lo hi).length<=xs.length:=by
 unfold zZN
 rw [lT,length_drop]
 omega
def rSlT(K:PySem.W.Frag):V->Option Int->Option Int->Hp->VK->Prop:=λx lo hi H Q=> ∃a xs,x=.ref a/\SqT K H a xs/\
 ¬(HT.sIx xs.length 0 lo=0/\HT.sIx xs.length xs.length hi=xs.length)/\ ∀p,H p=none->Q (.ref p) (upd H p (.tup (zZN xs lo hi)))
theorem yRI:SlR X (rSlT X.K):=by
 intro pins s σ H x v vl vu lo hi sl Q I rx hs pl pu h
 obtain⟨a,xs,rfl,hx,hw,q⟩:=h
 cases rx
 obtain⟨its,r,ht,hz⟩:=I.tuple hx
 have hlen:its.toArray.size=xs.length:=by rw [sA0];exact r.length.symm
 refine⟨"tuple",_,PyProof.Rows.slot_tuple_getitem.lookup,ht.typeIs,?_⟩
 refine HT.getItem_tuple_cut ht hs pl pu (by rw [hlen];exact hw) ?_ (by rw [hlen];exact hz)
 rw [hlen]
 refine⟨.ref s.heap.objs.size,_,I.laid (t':=s.toks) (o:=.tup (zZN xs lo hi)) (λb ob q=>hP0 _ q) (le_refl _) ?_,rfl,q _ (I.hok.fresh (le_refl _))⟩
 exact⟨le_trans (zPS xs lo hi) hz,_,(r.drop (HT.sIx xs.length 0 lo)).take (HT.sIx xs.length xs.length hi - HT.sIx xs.length 0 lo),IsTup.new _ _⟩
def rCatT(K:PySem.W.Frag):R2:=λx y H Q=> ∃a b xs ys,x=.ref a/\y=.ref b/\SqT K H a xs/\SqT K H b ys/\xs≠[]/\xs.length+ys.length<=sizeLine/\
 (ys=[]->Q (.ref a) H)/\(ys≠[]-> ∀p,H p=none->Q (.ref p) (upd H p (.tup (xs++ys))))
theorem Vals.nil_iff{xs:List V}{us:List Value}(r:Vals xs us):us=[]↔xs=[]:=by
 cases r with
 |nil=>simp
 |cons _ _=>simp
theorem yMX:OpR X (binaryOp .Add) (rCatT X.K):=by
 intro pins s σ H x y v u Q I rx ry h
 obtain⟨a,b,xs,ys,rfl,rfl,ha,hb,hx,hz,q1,q2⟩:=h
 cases rx
 cases ry
 obtain⟨its,r1,p1,_⟩:=I.tuple ha
 obtain⟨its2,r2,p2,_⟩:=I.tuple hb
 refine HT.cat_tup p1 p2 (λz=>hx (r1.nil_iff.mp z)) (λz=>⟨.ref a,H,I,rfl,q1 (r2.nil_iff.mp z)⟩) (λz=>?_) (by rw [<-r1.length, <-r2.length];exact hz)
 refine⟨.ref s.heap.objs.size,_,I.laid (t':=s.toks) (o:=.tup (xs++ys)) (λb ob q=>hP0 _ q) (le_refl _) ?_,rfl,q2 (λw=>z (r2.nil_iff.mpr w)) _ (I.hok.fresh (le_refl _))⟩
 exact⟨by rw [lA];exact hz,_,r1.append r2,IsTup.new _ _⟩
end
def ixN(n:Nat)(i:Int):Option Nat:=if 0<=i then(if i<n then some i.toNat else none)else if -(n:Int)<=i then some (i+n).toNat else none
def atI{α:Type}(xs:List α)(i:Int):Option α:=(ixN xs.length i).bind λj=>xs[j]?
theorem yEI{n:Nat}{i:Int}{j:Nat}(h:ixN n i=some j):seqIndex? i n=some j/\j<n/\ -(n:Int)<=i/\i<n:=by
 unfold ixN at h
 by_cases h0:0<=i
 ·rw [iP h0]at h
  by_cases h1:i<n
  ·rw [iP h1]at h
   have e:i.toNat=j:=Option.some.inj h
   exact⟨by rw [seqIndex_of h0 h1,e],by omega,by omega,h1⟩
  ·rw [iN h1]at h;cases h
 ·rw [iN h0]at h
  by_cases h1: -(n:Int)<=i
  ·rw [iP h1]at h
   have e:(i+n).toNat=j:=Option.some.inj h
   exact⟨by rw [seqIndex_neg (by omega) h1,e],by omega,h1,by omega⟩
  ·rw [iN h1]at h;cases h
theorem zWL{α:Type}{xs:List α}{i:Int}{v:α}(h:atI xs i=some v): ∃j,seqIndex? i xs.length=some j/\xs[j]? =some v/\j<xs.length/\ -(xs.length:Int)<=i/\i<xs.length:=by
 unfold atI at h
 cases e:ixN xs.length i with
 |none=>rw [e]at h;cases h
 |some j=>
  rw [e]at h
  obtain⟨h1,h2,h3,h4⟩:=yEI e
  exact⟨j,h1,h,h2,h3,h4⟩
def zWM(b:Expr):Prop:= ∀o i,subscripted b false o i=operate [o,i] (getItem o i)
def IxR(X:Cx)(r:R2):Prop:=
 ∀(value slice:Expr)(pins:List (Addr×Obj))(s:Shared)(σ:St)(H:Hp)(x y:V)(v u:Value)(Q:VK),Inv X pins σ H s->RelV x v->RelV y u->r x y H Q->
  subscripted slice false v u=operate [v,u] (getItem v u)->wpAny (model X.prog X.w) X.A (subscriptTail value slice v u) (EP X pins σ Q) X.xe s
def MtR(X:Cx)(id:String)(r:V->List V->Hp->VK->Prop):Prop:=
 ∀(pins:List (Addr×Obj))(s:Shared)(σ:St)(H:Hp)(x:V)(xs:List V)(v:Value)(us:List Value)(Q:VK),Inv X pins σ H s->RelV x v->Vals xs us->r x xs H Q->
  wpAny (model X.prog X.w) X.A (call (.builtin id) (v::us)) (EP X pins σ Q) X.xe s
section
variable{X:Cx}{a b:Expr}{ta tb:TE}{pos:Pos}
theorem IxR.or{r r':R2}(h:IxR X r)(h':IxR X r'):IxR X (λx y H Q=>r x y H Q\/r' x y H Q):=by
 intro value slice pins s σ H x y v u Q I rx ry q hs
 rcases q with q|q
 ·exact h value slice pins s σ H x y v u Q I rx ry q hs
 ·exact h' value slice pins s σ H x y v u Q I rx ry q hs
theorem pe_ix{r:R2}(hr:IxR X r)(ha:PE X a ta)(hb:PE X b tb)(hs:zWM b):PE X (.Subscript a b pos) (tOp r ta tb):=by
 intro pins s σ H Q I h
 exact Subscript_ (binT ha hb I h λv u s2 x y H2 I2 rx ry q=>hr a b pins s2 σ H2 x y v u Q I2 rx ry q (hs _ _))
def rIxL(K:PySem.W.Frag):R2:=λx y H Q=> ∃p xs i v,x=.ref p/\y=.int i/\SqL K H p xs/\atI xs i=some v/\Q v H
def rIxT(K:PySem.W.Frag):R2:=λx y H Q=> ∃p xs i v,x=.ref p/\y=.int i/\SqT K H p xs/\atI xs i=some v/\Q v H
def rIxS:R2:=λx y H Q=> ∃z i c,x=.str z/\y=.int i/\z.length<=sizeLine/\atI z.cps.toList i=some c/\Q (.str ⟨#[c]⟩) H
theorem yMY:IxR X (rIxL X.K):=by
 intro value slice pins s σ H x y v u Q I rx ry h hs
 obtain⟨p,xs,i,z,rfl,rfl,hq,he,q⟩:=h
 cases rx
 obtain⟨t,rfl⟩:=ry
 obtain⟨its,r,pl,hz⟩:=I.list hq
 obtain⟨j,h1,h2,h3,h4,h5⟩:=zWL he
 obtain⟨w,ew,rw'⟩:=r.get h2
 have hl:=r.length
 have hn:=zLV
 have fin:EP X pins σ Q w s:=⟨z,H,I,rw',q⟩
 by_cases h0:0<=i
 ·have hj:i.toNat=j:=by
   rw [seqIndex_of h0 h5]at h1
   exact Option.some.inj h1
  exact item_listR pl.isList h0 (by omega) (by rw [hj];simpa using ew) fin hs
 ·have hj:(i+(its.toArray.size:Int)).toNat=j:=by
   rw [seqIndex_neg (by omega) h4]at h1
   rw [sA0, <-hl]
   exact Option.some.inj h1
  exact subscriptTail_builtinR (x:=w) pl.isList.typeIs slot_list_getitem.lookup
   (wpAny_getItem_list_neg (Q:=λr s'=>r=w/\EP X pins σ Q r s') pl.isList (by omega) (by rw [sA0]<;>omega) (by omega) (by rw [hj];simpa using ew) ⟨rfl,fin⟩) hs
theorem ix_tup:IxR X (rIxT X.K):=by
 intro value slice pins s σ H x y v u Q I rx ry h hs
 obtain⟨p,xs,i,z,rfl,rfl,hq,he,q⟩:=h
 cases rx
 obtain⟨t,rfl⟩:=ry
 obtain⟨its,r,pl,hz⟩:=I.tuple hq
 obtain⟨j,h1,h2,h3,h4,h5⟩:=zWL he
 obtain⟨w,ew,rw'⟩:=r.get h2
 have hl:=r.length
 have hn:=zLV
 have fin:EP X pins σ Q w s:=⟨z,H,I,rw',q⟩
 exact subscriptTail_builtinR (x:=w) pl.typeIs slot_tuple_getitem.lookup
  (getItem_tuple (j:=j) (Q:=λr s'=>r=w/\EP X pins σ Q r s') pl (by omega) (by omega) (by rw [sA0, <-hl];exact h1) (by simpa using ew) ⟨rfl,fin⟩) hs
theorem ix_str:IxR X rIxS:=by
 intro value slice pins s σ H x y v u Q I rx ry h hs
 obtain⟨z,i,c,rfl,rfl,hz,he,q⟩:=h
 obtain⟨t,rfl⟩:=rx
 obtain⟨t',rfl⟩:=ry
 obtain⟨j,h1,h2,h3,h4,h5⟩:=zWL he
 have hl:z.cps.toList.length=z.length:=by simp [Str.length]
 rw [hl]at h1 h4 h5
 have hn:=zLV
 exact tail_any (typeIs_str s z t) slot_str_getitem.lookup (getItem_str (c:=c) (by
  have e1:decide (i< -(2 ^ 63:Int))=false:=dF0 (by omega)
  have e2:decide (i>=2 ^ 63)=false:=dF0 (by omega)
  rw [e1,e2,Bool.or_false]) (by rw [h1];simpa using h2) ⟨.str ⟨#[c]⟩,H,I.tok _,⟨_,rfl⟩,q⟩) hs
def rIx(K:PySem.W.Frag):R2:=λx y H Q=>rIxL K x y H Q\/rIxT K x y H Q\/rIxS x y H Q
theorem yRJ:IxR X (rIx X.K):=yMY.or (ix_tup.or ix_str)
theorem yCO(its:List Value)(n j:Nat)(u:Value):Obj.mapSeq (·.setIfInBounds j u) {cls:=.type "list",data:=.seq its.toArray n}={cls:=.type "list",data:=.seq (its.set j u).toArray n}:=by
 simp [Obj.mapSeq]
theorem Inv.lst{pins:List (Addr×Obj)}{σ:St}{H:Hp}{s:Shared}{p:Addr}{xs:List V}(I:Inv X pins σ H s)(h:H p=some (.lst xs)):
  ∃(its:List Value)(n:Nat),Vals xs its/\s.heap.get? p=some {cls:=.type "list",data:=.seq its.toArray n}/\xs.length<=sizeLine:=by
 obtain⟨z,its,n,r,e⟩:=I.hok p _ h
 exact⟨its,n,r,e,z⟩
theorem Inv.lstUpd{pins:List (Addr×Obj)}{σ:St}{H:Hp}{s:Shared}{p:Addr}{xs ys:List V}{its its':List Value}{n n':Nat}{f:Obj->Obj}(I:Inv X pins σ H s)(h:H p=some (.lst xs))
  (ho:s.heap.get? p=some {cls:=.type "list",data:=.seq its.toArray n}) (hf:f {cls:=.type "list",data:=.seq its.toArray n}={cls:=.type "list",data:=.seq its'.toArray n'}) (r:Vals ys its') (hz:ys.length<=sizeLine) (t:Nat):
  Inv X pins σ (upd H p (.lst ys)) {s with heap:=s.heap.update p f,toks:=t}:=by
 have e:(s.heap.update p f).get? p=some {cls:=.type "list",data:=.seq its'.toArray n'}:=by
  rw [Heap.get?_update_self f ho (by rw [hf]<;>rfl),hf]
 refine I.write (x:=p) (e:=p) (by rw [h];trivial) (.inl rfl) (λb u hb q=>(Heap.get?_update_other _ _ (Ne.symm hb)).trans q) ⟨_,e⟩ ?_
 exact⟨hz,its',n',r,e⟩
def rSetL:V->V->V->Hp->(Hp->Prop)->Prop:=λo i v H Q=> ∃p xs k j,o=.ref p/\i=.int k/\H p=some (.lst xs)/\ixN xs.length k=some j/\Q (upd H p (.lst (xs.set j v)))
theorem set_list:PSet X rSetL:=by
 intro pins s σ H o i v ov iv u Q I ro ri rv h
 obtain⟨p,xs,k,j,rfl,rfl,hp,hj,q⟩:=h
 cases ro
 obtain⟨t,rfl⟩:=ri
 obtain⟨its,n,r,ho,hz⟩:=I.lst hp
 obtain⟨h1,h2,h3,h4⟩:=yEI hj
 have hl:=r.length
 have hn:=zLV
 have I':Inv X pins σ (upd H p (.lst (xs.set j v))) {s with heap:=s.heap.update p (Obj.mapSeq (·.setIfInBounds j u))}:=
  I.lstUpd hp ho (yCO its n j u) (r.set rv j) (by rw [length_set];exact hz) s.toks
 by_cases h0:0<=k
 ·have hk:k.toNat=j:=by
   rw [seqIndex_of h0 h4]at h1
   exact Option.some.inj h1
  exact PySem.W.ki_setAt ho h0 (by omega) (by rw [sA0, <-hl];exact h4) (by rw [hk];exact⟨_,I',q⟩)
 ·have hk:(k+(its.toArray.size:Int)).toNat=j:=by
   rw [seqIndex_neg (by omega) h3]at h1
   rw [sA0, <-hl]
   exact Option.some.inj h1
  exact PySem.W.ki_setBack ho (by omega) (by rw [sA0, <-hl];exact h3) (by omega) (by rw [hk];exact⟨_,I',q⟩)
theorem zWN(lo hi:Option Int)(n:Nat):(sliceBounds lo hi none n).1=((HT.sIx n 0 lo:Nat):Int)/\(sliceBounds lo hi none n).2.1=((HT.sIx n n hi:Nat):Int)/\(sliceBounds lo hi none n).2.2=1:=by
 refine⟨?_,?_,rfl⟩
 ·cases lo with
  |none=>simp [sliceBounds,HT.sIx]
  |some i=>
   simp only [sliceBounds,HT.sIx,Option.getD_none,show(1:Int)>0 by decide,if_true]
   by_cases h:i<0
   ·simp only [h,if_true]<;>omega
   ·simp only [h,iF]<;>omega
 ·cases hi with
  |none=>simp [sliceBounds,HT.sIx]
  |some i=>
   simp only [sliceBounds,HT.sIx,Option.getD_none,show(1:Int)>0 by decide,if_true]
   by_cases h:i<0
   ·simp only [h,if_true]<;>omega
   ·simp only [h,iF]<;>omega
theorem zUI(its:List Value)(lo hi:Option Int):slicePick its.toArray lo hi none=((its.drop (HT.sIx its.length 0 lo)).take (HT.sIx its.length its.length hi - HT.sIx its.length 0 lo)).toArray:=by
 obtain⟨h1,h2,h3⟩:=zWN lo hi its.toArray.size
 unfold slicePick
 rw [h1,h2,h3]
 simp only [sliceRange_one,pick_run,sA0]<;>rfl
def rSlL(K:PySem.W.Frag):V->Option Int->Option Int->Hp->VK->Prop:=λx lo hi H Q=> ∃a xs,x=.ref a/\SqL K H a xs/\ ∀p,H p=none->Q (.ref p) (upd H p (.lst (zZN xs lo hi)))
theorem yMZ:SlR X (rSlL X.K):=by
 intro pins s σ H x v vl vu lo hi sl Q I rx hs pl pu h
 obtain⟨a,xs,rfl,hx,q⟩:=h
 cases rx
 obtain⟨its,r,ht,hz⟩:=I.list hx
 have hlen:=r.length
 refine⟨"list",_,slot_list_getitem.lookup,ht.isList.typeIs,?_⟩
 refine wpAny_getItem_list_slice ht.isList hs pl pu .none (by simp) ?_ (by rw [sA0]<;>omega)
 rw [zUI, <-hlen]
 refine⟨.ref s.heap.objs.size,_,I.laid (t':=s.toks) (o:=.lst (zZN xs lo hi)) (λb ob q=>hP0 _ q) (le_refl _) ?_,rfl,q _ (I.hok.fresh (le_refl _))⟩
 exact⟨le_trans (zPS xs lo hi) hz,_,0,(r.drop (HT.sIx xs.length 0 lo)).take (HT.sIx xs.length xs.length hi - HT.sIx xs.length 0 lo),Heap.get?_push_size _ rfl⟩
def kY:V->Bool
 |.non=>true
 |.bl _=>true
 |.int _=>true
 |.str _=>true
 |_=>false
def eqV:V->V->Bool
 |.non,.non=>true
 |.bl a,.bl b=>a==b
 |.bl a,.int b=>(if a then 1 else 0)==b
 |.int a,.bl b=>a==(if b then 1 else 0)
 |.int a,.int b=>a==b
 |.str a,.str b=>a==b
 |_,_=>false
theorem yRK{A:Around}{s:Shared}{y x:V}{u v:Value}(ry:RelV y u)(rx:RelV x v)(fy:kY y=true)(fx:kY x=true):SeqAt.EqAt A s u v (eqV y x):=by
 cases y with
 |non=>
  cases ry
  cases x with
  |non=>cases rx;exact SeqAt.EqAt.same _
  |bl b=>cases rx;exact SeqAt.EqAt.none_bool b
  |int b=>obtain⟨t,rfl⟩:=rx;exact SeqAt.EqAt.none_int b t
  |str b=>obtain⟨t,rfl⟩:=rx;exact SeqAt.EqAt.none_str b t
  |_=>exact absurd (show false=true from fx) xF0
 |bl a=>
  cases ry
  cases x with
  |non=>cases rx;exact SeqAt.EqAt.bool_none a
  |bl b=>cases rx;exact SeqAt.EqAt.bool_bool a b
  |int b=>obtain⟨t,rfl⟩:=rx;exact SeqAt.EqAt.bool_int a b t
  |str b=>obtain⟨t,rfl⟩:=rx;exact SeqAt.EqAt.bool_str a b t
  |_=>exact absurd (show false=true from fx) xF0
 |int a=>
  obtain⟨t',rfl⟩:=ry
  cases x with
  |non=>cases rx;exact SeqAt.EqAt.int_none a t'
  |bl b=>cases rx;exact SeqAt.EqAt.int_bool a t' b
  |int b=>obtain⟨t,rfl⟩:=rx;exact SeqAt.EqAt.int_int a t' b t
  |str b=>obtain⟨t,rfl⟩:=rx;exact SeqAt.EqAt.int_str a t' b t
  |_=>exact absurd (show false=true from fx) xF0
 |str a=>
  obtain⟨t',rfl⟩:=ry
  cases x with
  |non=>cases rx;exact SeqAt.EqAt.str_none a t'
  |bl b=>cases rx;exact SeqAt.EqAt.str_bool a t' b
  |int b=>obtain⟨t,rfl⟩:=rx;exact SeqAt.EqAt.str_int a t' b t
  |str b=>obtain⟨t,rfl⟩:=rx;exact SeqAt.EqAt.str_str a t' b t
  |_=>exact absurd (show false=true from fx) xF0
 |_=>exact absurd (show false=true from fy) xF0
theorem zWO:CallR X (.builtin "len") (λxs H Q=> ∃p ys,xs=[.ref p]/\(SqL X.K H p ys\/SqT X.K H p ys)/\Q (.int ys.length) H):=by
 intro pins s σ H xs us Q I r h
 obtain⟨p,ys,rfl,hq,q⟩:=h
 obtain⟨u,rfl,rx⟩:=vals1 r
 cases rx
 have hn:=zLV
 rcases hq with hq|hq
 ·obtain⟨its,r',pl,hz⟩:=I.list hq
  have hlen:=r'.length
  exact Calls.call_len_list pl.isList (by simp only [sA0]<;>omega) ⟨.int ys.length,H,I.tok _,⟨s.toks+1,by rw [sA0,hlen]⟩,q⟩
 ·obtain⟨its,r',pl,hz⟩:=I.tuple hq
  have hlen:=r'.length
  exact len_tuple pl (by simp only [sA0]<;>omega) ⟨.int ys.length,H,I.tok _,⟨s.toks+1,by rw [sA0,hlen]⟩,q⟩
theorem zWP:CallR X (.builtin "len") (λxs H Q=> ∃z,xs=[.str z]/\z.length<=sizeLine/\Q (.int z.length) H):=by
 intro pins s σ H xs us Q I r h
 obtain⟨z,rfl,hz,q⟩:=h
 obtain⟨u,rfl,t,rfl⟩:=vals1 r
 have hn:=zLV
 exact len_str (by omega) ⟨.int z.length,H,I.tok _,⟨_,rfl⟩,q⟩
theorem CallR.or{f:Value}{r r':List V->Hp->VK->Prop}(h:CallR X f r)(h':CallR X f r'):CallR X f (λxs H Q=>r xs H Q\/r' xs H Q):=by
 intro pins s σ H xs us Q I rs q
 rcases q with q|q
 ·exact h pins s σ H xs us Q I rs q
 ·exact h' pins s σ H xs us Q I rs q
theorem zWQ:CallR X (.type "list") (λxs H Q=> ∃p ys,xs=[.ref p]/\(SqL X.K H p ys\/SqT X.K H p ys)/\ ∀l,H l=none->Q (.ref l) (upd H l (.lst ys))):=by
 intro pins s σ H xs us Q I r h
 obtain⟨p,ys,rfl,hq,q⟩:=h
 obtain⟨u,rfl,rx⟩:=vals1 r
 cases rx
 have fin: ∀(its:List Value),Vals ys its->ys.length<=sizeLine-> ∀(h':Heap)(c':Nat),(∀b o',s.heap.get? b=some o'->h'.get? b=some o')->
   h'.get? s.heap.objs.size=some {cls:=.type "list",dict:=none,data:=.seq its.toArray c',slots:=#[]}->EP X pins σ Q (.ref s.heap.objs.size) {s with heap:=h'}:=λits r' hz h' c' kp e=>
  ⟨.ref s.heap.objs.size,_,I.laid (t':=s.toks) kp (le_refl _) (show ObjOk X.prog X.w _ h' _ (.lst ys)from⟨hz,its,c',r',e⟩),rfl,q _ (I.hok.fresh (le_refl _))⟩
 rcases hq with hq|hq
 ·obtain⟨its,r',pl,hz⟩:=I.list hq
  have hlen:=r'.length
  obtain⟨o,ho,hc,n,hd⟩:=pl.isList
  exact call_list_seq p (.inl rfl) ho hc hd (λh' c' kp e=>fin its r' hz h' c' kp e) (by simp only [sA0]<;>omega)
 ·obtain⟨its,r',pl,hz⟩:=I.tuple hq
  have hlen:=r'.length
  obtain⟨o,ho,hc,n,hd⟩:=pl
  exact call_list_seq p (.inr rfl) ho hc hd (λh' c' kp e=>fin its r' hz h' c' kp e) (by simp only [sA0]<;>omega)
theorem xN:CallR X (.type "tuple") (λxs H Q=> ∃p ys,xs=[.ref p]/\((SqL X.K H p ys/\ ∀l,H l=none->Q (.ref l) (upd H l (.tup ys)))\/(SqT X.K H p ys/\Q (.ref p) H))):=by
 intro pins s σ H xs us Q I r h
 obtain⟨p,ys,rfl,h⟩:=h
 obtain⟨u,rfl,rx⟩:=vals1 r
 cases rx
 rcases h with⟨hq,q⟩|⟨hq,q⟩
 ·obtain⟨its,r',pl,hz⟩:=I.list hq
  have hlen:=r'.length
  refine call_tuple_list pl.isList (λh' kp=>?_) (by simp only [sA0]<;>omega)
  have I1:Inv X pins σ H {s with heap:=h'}:=I.kept (t':=s.toks) kp
  have I2:Inv X pins σ (upd H h'.objs.size (.tup ys)) {s with heap:=h'.push {cls:=.type "tuple",data:=.seq its.toArray}}:=
   I1.laid (t':=s.toks) (λb o e=>hP0 _ e) (le_refl _) (show ObjOk X.prog X.w _ _ _ (.tup ys)from⟨hz,its,r',IsTup.new _ _⟩)
  exact⟨.ref h'.objs.size,_,I2,rfl,q _ (I1.hok.fresh (le_refl _))⟩
 ·obtain⟨its,r',pl,hz⟩:=I.tuple hq
  exact call_tuple_same pl ⟨.ref p,H,I,rfl,q⟩
def tyV(K:PySem.W.Frag)(T:String)(x:V)(H:Hp):Prop:=match x with
 |.str _=>T="str"
 |.int _=>T="int"
 |.ref p=>(T="list"/\ ∃xs,SqL K H p xs)\/(T="tuple"/\ ∃o,K.lookup p=some o/\o.cls=.type "tuple"/\o.dict=none)\/
   (T="dict"/\((∃kvs,H p=some (.dK kvs))\/ ∃kvs,H p=some (.dT kvs)))\/(T="set"/\ ∃S n,H p=some (.set S n))
 |_=>False
theorem yRL{pins:List (Addr×Obj)}{σ:St}{H:Hp}{s:Shared}{T:String}{x:V}{v:Value}(I:Inv X pins σ H s)(r:RelV x v)(ty:tyV X.K T x H):
  s.TypeIs v T/\ ∀a,v=.ref a-> ∃ob,s.heap.get? a=some ob/\ob.dict=none:=by
 cases x with
 |str z=>
  obtain⟨t,rfl⟩:=r
  cases (show T="str" from ty)
  exact⟨typeIs_str s z t,λ_ e=>nomatch e⟩
 |int i=>
  obtain⟨t,rfl⟩:=r
  cases (show T="int" from ty)
  exact⟨typeIs_int s i t,λ_ e=>nomatch e⟩
 |ref p=>
  cases r
  rcases ty with⟨rfl,xs,hq⟩|⟨rfl,o,hk,hc,hd⟩|⟨rfl,hk⟩|⟨rfl,S,n,hk⟩
  ·obtain⟨its,_,pl,_⟩:=I.list hq
   refine⟨pl.isList.typeIs,λa e=>?_⟩
   cases e
   obtain⟨o,n,e,c,hd,_⟩:=pl
   exact⟨o,e,hd⟩
  ·refine⟨⟨o,I.kIn p o hk,hc⟩,λa e=>?_⟩
   cases e
   exact⟨o,I.kIn _ o hk,hd⟩
  ·have z: ∃o,s.heap.get? p=some o/\o.ExactDict:=by
    rcases hk with⟨kvs,hk⟩|⟨kvs,hk⟩
    ·obtain⟨_,_,_,_,o,_,_,e,ex,_⟩:=I.hok p _ hk
     exact⟨o,e,ex⟩
    ·obtain⟨_,_,_,_,o,_,_,e,ex,_⟩:=I.hok p _ hk
     exact⟨o,e,ex⟩
   obtain⟨o,e,ex⟩:=z
   refine⟨⟨o,e,ex.1⟩,λa e2=>?_⟩
   cases e2
   exact⟨o,e,ex.2.1⟩
  ·obtain⟨o,_,_,_,e,ex,_⟩:=I.hok p _ hk
   refine⟨⟨o,e,ex.1⟩,λa e2=>?_⟩
   cases e2
   exact⟨o,e,ex.2.1⟩
 |_=>exact False.elim ty
def tBM(K:PySem.W.Frag)(T:String)(r:V->List V->Hp->VK->Prop)(to:TE)(t:TA):TE:=λσ H Q=>to σ H λx H1=>tyV K T x H1/\t σ H1 λxs H2=>r x xs H2 Q
variable{o e:Expr}{es:List Expr}{to:TE}{t:TA}{name:Str}{apos cpos:Pos}{T id:String}{r:V->List V->Hp->VK->Prop}
theorem pe_bm(pa:PlainAttrs T)(slot:Slot T name id)(hty:typeOf (.builtin id)=pure (.type "method_descriptor"))(hm:MtR X id r)(ho:PE X o to)(ha:PA X (e::es) t)
  (hbase:attributeBase o name X.env (eval o X.env)=eval o X.env:=by rfl)
  (hfew:((backTo cpos (starEach (e::es) X.env)).all (λx=>!x.1)&&(backToKw cpos (keywordEach [] X.env)).all (λx=>x.1.isSome)
   &&decide ((e::es).length+([]:List Keyword).length+(if([]:List Keyword).isEmpty then 0 else 1)<30))=true:=by rfl)
  (hline:(apos.endLine==cpos.line)=true:=by rfl) (hs:starEach (e::es) X.env=(false,eval e X.env)::starEach es X.env:=by rfl) (hplain:(backTo cpos (starEach es X.env)).any (·.1)=false:=by rfl):
  PE X (.Call (.Attribute o name apos) (e::es) [] cpos) (tBM X.K T r to t):=by
 intro pins s σ H Q I h
 refine wpAny_Call_method_late hbase hfew hline rfl (thn (ho pins s σ H _ I h) λv s1 ⟨x,H1,I1,r1,ty,q1⟩=>?_)
 obtain⟨h1,h2⟩:=yRL I1 r1 ty
 refine⟨T,id,pa,slot,hty,h1,h2,?_⟩
 have hA:=ha cpos pins s1 σ H1 _ I1 q1
 rw [hs]at hA ⊢
 refine Calls.callWith_builtin (by show(false || (backTo cpos (starEach es X.env)).any (·.1))=false;rw [hplain]<;>rfl) (Calls.evalArgs_plain ?_)
 exact thn hA λus s2 ⟨vs,H2,I2,r2,q2⟩=>hm pins s2 σ H2 x vs v us Q I2 r1 r2 q2
end
def MtM(X:Cx)(id:String)(r:V->List V->Hp->VK->Prop):Prop:=
 ∀(pins:List (Addr×Obj))(s:Shared)(σ:St)(H:Hp)(x:V)(xs:List V)(v:Value)(us:List Value)(Q:VK),Inv X pins σ H s->RelV x v->Vals xs us->r x xs H Q->
  wpAny (model X.prog X.w) X.A (call (.builtin id) (v::us)) (EP X pins σ Q) X.xe s
theorem Vals.one: ∀{x:V}{us:List Value},Vals [x] us-> ∃u,us=[u]/\RelV x u
 |_,_,.cons r .nil=>⟨_,rfl,r⟩
theorem Vals.rep{xs:List V}{us:List Value}(h:Vals xs us): ∀k:Nat,Vals (List.replicate k xs).flatten (List.replicate k us).flatten
 |0=>.nil
 |k+1=>by
  rw [replicate_succ,replicate_succ,flatten_cons,flatten_cons]
  exact Vals.append h (Vals.rep h k)
theorem foldl_rep(its:List Value): ∀(k:Nat)(acc:List Value),
  List.foldl (λx1 x2=>x1++x2) acc.toArray (List.replicate k its.toArray)=(acc++(List.replicate k its).flatten).toArray
 |0,acc=>by simp
 |k+1,acc=>by
  have e:acc.toArray++its.toArray=(acc++its).toArray:=by simp
  have e2:(acc++its)++(List.replicate k its).flatten=acc++(List.replicate (k+1) its).flatten:=by
   rw [replicate_succ,flatten_cons,aA]
  rw [<-e2, <-foldl_rep its k (acc++its), <-e,replicate_succ,foldl_cons]
section
variable{X:Cx}{pins:List (Addr×Obj)}{σ:St}{H:Hp}{s:Shared}{l b:Addr}{xs ys zs:List V}
theorem Inv.lset{its its':List Value}{n:Nat}{f:Array Value->Array Value}{t':Nat}(I:Inv X pins σ H s)(hH:H l=some (.lst xs))
  (e:s.heap.get? l=some {cls:=.type "list",data:=.seq its.toArray n}) (hf:f its.toArray=its'.toArray) (hv:Vals ys its') (hz:ys.length<=sizeLine):
  Inv X pins σ (upd H l (.lst ys)) {s with heap:=s.heap.update l (Obj.mapSeq f),toks:=t'}:=by
 have q:=PySem.IsL.update e f
 rw [hf]at q
 refine I.write (x:=l) (e:=l) (by rw [hH];exact trivial) (.inl rfl) (λb' u hb hu=>(Heap.get?_update_other s.heap (Obj.mapSeq f) (Ne.symm hb)).trans hu) ⟨_,q⟩ ?_
 exact⟨hz,its',_,hv,q⟩
theorem Inv.lnew{its:List Value}{t':Nat}(I:Inv X pins σ H s)(hv:Vals ys its)(hz:ys.length<=sizeLine):
  Inv X pins σ (upd H s.heap.objs.size (.lst ys)) {s with heap:=s.heap.push {cls:=.type "list",data:=.seq its.toArray},toks:=t'}:=
 I.laid (λ_ _ q=>hP0 _ q) (le_refl _) ⟨hz,its,0,hv,Heap.get?_push_size _ rfl⟩
theorem Inv.fresh(I:Inv X pins σ H s):H s.heap.objs.size=none:=I.hok.fresh (le_refl _)
theorem Inv.lstM(I:Inv X pins σ H s)(hH:H l=some (.lst xs)):xs.length<=sizeLine/\ ∃(its:List Value)(n:Nat),Vals xs its/\xs.length=its.length/\s.heap.get? l=some {cls:=.type "list",data:=.seq its.toArray n}:=by
 obtain⟨z,its,n,r,e⟩:=I.hok l _ hH
 exact⟨z,its,n,r,r.length,e⟩
theorem zZO{n:Nat}(h:n<=sizeLine):Builtin.List.listTooLong n=false:=by
 unfold Builtin.List.listTooLong
 exact dF0 (by omega)
end
section
variable{X:Cx}
def yEJ:V->List V->Hp->VK->Prop:=λx vs H Q=> ∃l xs y,x=.ref l/\vs=[y]/\H l=some (.lst xs)/\xs.length<sizeLine/\Q .non (upd H l (.lst (xs++[y])))
theorem yGX:MtM X "list.append" yEJ:=by
 intro pins s σ H x vs v us Q I rx rv h
 obtain⟨l,xs,y,rfl,rfl,hH,hz,q⟩:=h
 cases rx
 obtain⟨u,rfl,ru⟩:=rv.one
 obtain⟨z,its,n,r,hl,e⟩:=I.lstM hH
 refine call_meets F.slot_list_append ⟨_,e,rfl⟩ F.entry_list_append (F.args_list_append_2 _ _) (PySem.list_append l its.toArray n u (by rw [sA0];omega)) ⟨e,?_⟩
 refine⟨.non,_,I.lset (its':=its++[u]) hH e (by simp) (r.append (.cons ru .nil)) ?_,rfl,q⟩
 rw [lA,lS]
 omega
def yEK:V->List V->Hp->VK->Prop:=λx vs H Q=> ∃l b xs zs,x=.ref l/\vs=[.ref b]/\H l=some (.lst xs)/\H b=some (.lst zs)/\xs.length+zs.length<=sizeLine/\Q .non (upd H l (.lst (xs++zs)))
theorem yGY:MtM X "list.extend" yEK:=by
 intro pins s σ H x vs v us Q I rx rv h
 obtain⟨l,b,xs,zs,rfl,rfl,hH,hB,hz,q⟩:=h
 cases rx
 obtain⟨u,rfl,ru⟩:=rv.one
 cases ru
 obtain⟨z,its,n,r,hl,e⟩:=I.lstM hH
 obtain⟨z2,its2,n2,r2,hl2,e2⟩:=I.lstM hB
 have hsz:its.toArray.size+its2.toArray.size<=sizeLine:=by rw [sA0,sA0];omega
 have hlong: ¬(!its.toArray.isEmpty&&Builtin.List.listTooLong (its.toArray.size+its2.toArray.size))=true:=by
  rw [zZO hsz,Bool.and_false]
  exact xF0
 refine call_meets F.slot_list_extend ⟨_,e,rfl⟩ F.entry_list_extend (F.args_list_extend_2 _ _)
  (AutoSeq1.list_extend_list_list_0 l its.toArray n b its2.toArray n2 hlong (by rw [sA0];omega) (by omega)) ⟨e,e2,?_⟩
 refine⟨.non,_,I.lset (its':=its++its2) hH e (by simp) (r.append r2) ?_,rfl,q⟩
 rw [lA]
 omega
def rCat:R2:=λx y H Q=> ∃l b xs zs,x=.ref l/\y=.ref b/\H l=some (.lst xs)/\H b=some (.lst zs)/\xs.length+zs.length<=sizeLine/\ ∀p,H p=none->Q (.ref p) (upd H p (.lst (xs++zs)))
theorem yRM:OpR X (binaryOp .Add) rCat:=by
 intro pins s σ H x y v u Q I rx ry h
 obtain⟨l,b,xs,zs,rfl,rfl,hH,hB,hz,q⟩:=h
 cases rx
 cases ry
 obtain⟨z,its,n,r,hl,e⟩:=I.lstM hH
 obtain⟨z2,its2,n2,r2,hl2,e2⟩:=I.lstM hB
 refine PySem.P.add_list e e2 ?_ (by rw [sA0,sA0];omega)
 have ea:its.toArray++its2.toArray=(its++its2).toArray:=by simp
 rw [ea]
 exact⟨.ref _,_,I.lnew (t':=s.toks) (r.append r2) (by rw [lA];omega),rfl,q _ I.fresh⟩
def rRep:R2:=λx y H Q=> ∃l k xs,x=.ref l/\y=.int k/\H l=some (.lst xs)/\ -(2 ^ 63)<=k/\k<2 ^ 63/\xs.length * k.toNat<=sizeLine/\
 ∀p,H p=none->Q (.ref p) (upd H p (.lst (List.replicate k.toNat xs).flatten))
theorem len_rep{α:Type}(xs:List α)(k:Nat):(List.replicate k xs).flatten.length=k * xs.length:=by
 induction k with
 |zero=>simp
 |succ k ih=>rw [replicate_succ,flatten_cons,lA,ih,Nat.succ_mul,Nat.add_comm]
theorem yRN:OpR X (binaryOp .Mult) rRep:=by
 intro pins s σ H x y v u Q I rx ry h
 obtain⟨l,k,xs,rfl,rfl,hH,h1,h2,hz,q⟩:=h
 cases rx
 obtain⟨t,rfl⟩:=ry
 obtain⟨z,its,n,r,hl,e⟩:=I.lstM hH
 have hlen:its.toArray.size * k.toNat<=sizeLine:=by rw [sA0, <-hl];exact hz
 have hcap: ¬its.toArray.size * k.toNat>(2 ^ 63 - 1) / 8:=by
  have:(sizeLine:Nat)<=(2 ^ 63 - 1) / 8:=by decide
  omega
 have hfit: ¬(!Builtin.List.listFitsIndex k)=true:=by
  rw [fitsIndex_both h1 h2]
  exact xF0
 have hlong: ¬Builtin.List.listTooLong (its.toArray.size * k.toNat)=true:=by
  rw [zZO hlen]
  exact xF0
 have hnew:List.foldl (λx1 x2=>x1++x2) #[] (List.replicate (if its.toArray.isEmpty=true then 0 else k.toNat) its.toArray)=(List.replicate k.toNat its).flatten.toArray:=by
  have f0: ∀m:Nat,List.foldl (λx1 x2=>x1++x2) #[] (List.replicate m its.toArray)=(List.replicate m its).flatten.toArray:=λm=>by
   have:=foldl_rep its m []
   rw [nil_append]at this
   exact this
  rw [f0]
  cases its with
  |nil=>simp
  |cons a r'=>rw [iN (by simp)]
 refine wpAny_binaryOp_repeat_ref (T:="list") (U:="int") (by decide) ⟨_,e,rfl⟩ (λs'=>typeIs_int s' k t) noFill_list_mul F.fills_int_mul F.slot_int_rmul repeat_list F.slot_int_index.lookup
  (call_meets F.slot_int_rmul (typeIs_int s k t) F.entry_int_rmul (F.args_int_rmul_2 _ _) (int___rmul___int_list k t l its.toArray n)
   ⟨e,rfl,⟨_,e,rfl⟩,call_meets F.slot_list_mul ⟨_,e,rfl⟩ F.entry_list_mul (F.args_list_mul_2 _ _) (AutoListH.list___mul___list_int_3 l its.toArray n k t hfit hcap hlong) ⟨e,?_⟩⟩)
 rw [hnew]
 exact⟨.ref _,_,I.lnew (t':=s.toks) (r.rep k.toNat) (by rw [len_rep,Nat.mul_comm];exact hz),rfl,q _ I.fresh⟩
end
end L2
namespace Att
open PySem PySem.W PySem.Calls PyProof.Rows
theorem zQL{P:Params}{h:Heap}: ∀(ns:List Int)(vs:List Value),WellAll P h vs (ns.map WData.int)->IntsAre vs ns:=by
 intro ns
 induction ns with
 |nil=>
  intro vs w
  rw [List.map_nil]at w
  cases w
  exact .nil
 |cons n ns ih=>
  intro vs w
  rw [map_cons]at w
  cases w with
  |cons a b=>
   cases a
   exact .cons _ _ (ih _ b)
theorem yGZ{l:OpenLaw}{n:Nat}(hn:l.most=some n){P:Params}{h:Heap}{args:List WData}{vals:List Value}
  (hpre:l.row.toRowW.claim.pre args=true) (hwl:WellAll P h vals args):
  ∃a vs ns,vals=[Value.ref a]/\args=[WData.list (ns.map WData.int)]/\h.get? a=some {cls:=.type "list",data:=.seq vs.toArray}/\IntsAre vs ns/\ns.length<=n:=by
 have hsh:WShape.hasAll [] args [.list .int]=true:=(pre_splitW hpre).1
 have hc:l.pre.holds [] {args:=args}=true:=(pre_splitW hpre).2
 obtain⟨d,r,rfl,h1,h2⟩:=hasAllW_cons hsh
 obtain rfl:=hasAllW_nil h2
 obtain⟨xs,rfl,h3⟩:=hasW_list h1
 obtain⟨ns,rfl⟩:=items_int h3
 have hlen:ns.length<=n:=by
  unfold OpenLaw.pre at hc
  have h4:(WTm.not (.lt (.lit (.int (n:Int))) (.len (.arg 0)))).holds [] {args:=[.list (ns.map .int)]}=true:=by
   have h4:=(holds_andW hc).1
   rw [hn]at h4
   exact h4
  have h5:=condW_of h4 (w_not (w_lt w_lit (w_len_list (w_arg rfl))))
  rw [lM]at h5
  refine Nat.le_of_not_lt λq=>?_
  have q':(n:Int)<((ns.length:Nat):Int):=by omega
  first
   |(rw [dT0 q']at h5;exact absurd h5 (by decide))
   |(simp at h5;omega)
 cases hwl with
 |cons w1 w2=>
  cases w2
  cases w1 with
  |list ho hall=>exact⟨_,_,ns,rfl,rfl,ho,zQL ns _ hall,hlen⟩
theorem yHA(l:OpenLaw)(args:List WData):l.row.toRowW.claim.post args (.bool true) args=true:=
 postW_of (r:=l.row.toRowW) (X:=(true==true))
  (show WShape.has [] (.bool true) .bool=true by first |rfl|decide|simp [WShape.has,WShape.arms,WShape.armsAll])
  (show(WTm.eq .res (.lit (.bool true))).value [] {args:=args,res:=some (.bool true),after:=args}=some (.bool (true==true))from w_eq_bool (w_res rfl) w_lit) rfl
theorem attach_call{l:OpenLaw}{n:Nat}{q:Program}{loose:List Str}{XP:(Str->Option Value)->Heap->Prop}{YP:World->Heap->Prop}{d:DefRec}
  (hn:l.most=some n) (hdf:d.params.defaults=[])
  (call: ∀(w:World)(s₀ s₁:Shared)(mg mb:Str->Option Value)(fa:Addr)(o:Obj)(pm cd doc:Value)(a:Addr)(vs:List Value)(ns:List Int),
   Ground q loose [] XP w s₀ mg mb s₁.heap->YP w s₁.heap->
   s₁.heap.get? fa=some o->o.data=.func (docDef d.name d.params d.body d.scope pm cd doc)->s₁.heap.CodeRec cd d.name->mg d.name=some (.ref fa)->
   s₁.heap.get? a=some {cls:=.type "list",data:=.seq vs.toArray}->IntsAre vs ns->ns.length<=n->s₁.gens=#[]->
   codeAny (model l.prog w) callerA (.call (.ref fa) ⟨[.ref a],[]⟩) (λr s'=>r=.ok (.ret (.bool true))/\OldK s₁.heap s'.heap/\s'.os=s₁.os/\AllBare s'.gens) s₁):
  WalkO q loose XP YP l.row.toRowW d [] (λf vs=>PySem.call f vs):=by
 intro w s₀ s₁ mg mb G Y fa o pm cd doc dV kV ho hd hcd hD hmg hg args vals as hpre hlay hrd hwl hlo
 obtain rfl:dV=.none:=Dflts.none hD hdf
 obtain rfl:kV=.none:=Dflts.noKw hD
 obtain⟨a,vs,ns,rfl,rfl,hobj,hints,hlen⟩:=yGZ hn hpre hwl
 refine enter_call (codeAny_mono (call w s₀ s₁ mg mb fa o pm cd doc a vs ns G Y ho (fd_plain hd) hcd hmg hobj hints hlen hg) λr s' hq=>?_)
 obtain⟨rfl,h2,h3,h4⟩:=hq
 exact⟨.inl ⟨.bool true,.bool true,[],rfl,λ_=>rfl,.bool true,yHA l _,λ_=>⟨List.Pairwise.nil,λ_ hm=>(nomatch hm)⟩⟩,h2,h3,h4⟩
end Att
namespace L2
open PySem PySem.Spec PyProof.Rows
theorem zVO: ∀{vs:List Value}{ns:List Int},IntsAre vs ns->Vals (ns.map V.int) vs
 |_,_,.nil=>.nil
 |_,_,.cons n t h=>.cons ⟨t,rfl⟩ (zVO h)
def yJD(H:Hp):Prop:= ∀b,H b=none\/ ∃o xs,H b=some (.frz o (.lst xs))
theorem yJE{P:Program}{w:World}{K:PySem.W.Frag}{mg mb:Str->Option Value}{CX:CXT}{k:Nat}{fa a:Addr}{fd:FuncData}{x:Str}{sp:Sp}{s₁:Shared}{vs:List Value}{ns:List Int}
  (KX:K.In s₁.heap) (hns:s₁.heap.Ns mainGlobals mg) (hb:s₁.heap.Ns builtinsNs mb) (hbb: ∀x:Str,x≠"__name__"->mb x=bootBuiltins x) (hlim:s₁.heap.NoLimit) (hg:s₁.gens=#[])
  (ha:s₁.heap.get? a=some {cls:=.type "list",data:=.seq vs.toArray}) (hi:IntsAre vs ns) (hl:ns.length<=sizeLine) (hr:Room k callerA)
  (F: ∀base:Heap,K.In base->base.Ns mainGlobals mg->FnOk P w K mg base CX k fa fd [x] sp) (hbind: ∀(s:Shared)(u:Value),BindsTo s fd ⟨[u],[]⟩ [(x,u)])
  (hsp: ∀H:Hp,yJD H->SqL K H a (ns.map V.int)->sp [.ref a] H (λv _=>v=.bl true) λ_ _ _=>False)
  (hCX: ∀H e s',CX [] H s₁ (λ_ _ _=>False) e s'->False):
  codeAny (model P w) callerA (.call (.ref fa) ⟨[.ref a],[]⟩) (λr s'=>r=.ok (.ret (.bool true))/\OldK s₁.heap s'.heap/\s'.os=s₁.os/\AllBare s'.gens) s₁:=by
 have rv:=zVO hi
 have lenV:=hi.length
 have core: ∀H:Hp,yJD H->SqL K H a (ns.map V.int)->HOk P w H s₁.heap->(∀b,H b≠none->b=a)->(H a≠none->K.lookup a=none)->
   codeAny (model P w) callerA (.call (.ref fa) ⟨[.ref a],[]⟩) (λr s'=>r=.ok (.ret (.bool true))/\OldK s₁.heap s'.heap/\s'.os=s₁.os/\AllBare s'.gens) s₁:=by
  intro H hO hS hok hA hK
  have base_of: ∀{b:Addr}{o:Obj},s₁.heap.get? b=some o->H b=none->(zWI s₁.heap H).get? b=some o:=λe n=>yIN e n
  have noA: ∀{b:Addr}{o:Obj}{es:Array DictEntry}{ep:Nat},s₁.heap.get? b=some o->o.data=.dict es ep->H b=none:=λ{b o es ep} e d=>by
   cases q:H b with
   |none=>rfl
   |some u=>
    have e':b=a:=hA b (by rw [q];simp)
    subst e'
    rw [ha]at e;cases e
    have d':Data.seq vs.toArray _=Data.dict es ep:=d
    cases d'
  have nsK: ∀{b:Addr}{m:Str->Option Value},s₁.heap.Ns b m->(zWI s₁.heap H).Ns b m:=λ{b m} ⟨o,es,ep,e,d,r⟩=>⟨o,es,ep,base_of e (noA e d),d,r⟩
  have hKb:K.In (zWI s₁.heap H):=λb o e=>base_of (KX b o e) (by
   cases q:H b with
   |none=>rfl
   |some u=>
    have e':b=a:=hA b (by rw [q];simp)
    subst e'
    rw [hK (by rw [q];simp)]at e;cases e)
  have hM:Mod K mg (zWI s₁.heap H):=⟨hKb,nsK hns,⟨mb,nsK hb,hbb⟩,let ⟨mc,h1,h2⟩:=hlim;⟨mc,nsK h1,h2⟩⟩
  have e0:Env0 P w K mg (zWI s₁.heap H) callerA [] s₁ H:=⟨rfl,hM,λb o e=>yMF e,le_of_eq (yGP _ _),trivial,λb hb=>absurd (show b∈([]:List Addr)from hb) (by simp),hok,.of_eq hg⟩
  refine codeAny_mono ((F _ hKb (nsK hns)).run callerA [] s₁ H ⟨[.ref a],[]⟩ [.ref a] [.ref a] _ _ hr e0 (hbind s₁ (.ref a)) (.cons rfl .nil) (hsp H hO hS)) λr s' h=>?_
  cases r with
  |error e=>exact(hCX H e s' h).elim
  |ok fl=>
   cases fl with
   |next=>exact False.elim h
   |brk=>exact False.elim h
   |cont=>exact False.elim h
   |ret u=>
    obtain⟨v,H',os,bare,un,hok',r',q⟩:=h
    have q':v=.bl true:=q
    subst q'
    obtain rfl:u=Value.bool true:=r'
    refine⟨rfl,OldK.of_keep λb o e=>?_,os,bare⟩
    cases q:H b with
    |none=>exact un.keep b o e q (by intro z;exact absurd (show b∈([]:List Addr)from z) (by simp)) (by simp)
    |some u=>
     rcases hO b with z|⟨ob,xs,z⟩
     ·rw [q]at z;cases z
     ·have z2:=un.frzs b ob _ z
      obtain⟨e1,_⟩:=hok b _ z
      obtain⟨e2,_⟩:=hok' b _ z2
      rw [e]at e1;cases e1
      exact e2
 cases hk:K.lookup a with
 |some o=>
  have e:=KX a o hk
  rw [ha]at e
  cases e
  refine core (λ_=>none) (λ_=>.inl rfl) (.inr ⟨_,vs.toArray,_,hk,rfl,rfl,rfl,by rw [sA0,lenV];exact hl,by simpa using rv⟩) (λb u z=>by have z':(none:Option HO)=some u:=z;cases z') (λb z=>absurd rfl z) λz=>absurd rfl z
 |none=>
  refine core (λb=>if b=a then some (.frz {cls:=.type "list",data:=.seq vs.toArray} (.lst (ns.map V.int)))else none) (λb=>?_) (.inl (.inr ⟨{cls:=.type "list",data:=.seq vs.toArray},iP rfl⟩)) (λb u z=>?_) (λb z=>?_) λ_=>hk
  ·by_cases hb:b=a
   ·exact .inr ⟨_,_,iP hb⟩
   ·exact .inl (iN hb)
  ·by_cases hb:b=a
   ·have z':=(iP hb).symm.trans z
    cases z'
    subst hb
    exact⟨ha,by rw [lM];exact hl,vs,_,rv,ha⟩
   ·have z':=(iN hb).symm.trans z
    cases z'
  ·by_cases hb:b=a
   ·exact hb
   ·exact absurd (iN hb) z
theorem walk_of{l:PySem.W.OpenLaw}{n k:Nat}{q:Program}{loose:List Str}{XP:(Str->Option Value)->Heap->Prop}{YP:World->Heap->Prop}{d:DefRec}{K:Params->PySem.W.Frag}{CX:World->CXT}{sp:World->Sp}{x:Str}
  (hn:l.most=some n) (hn2:n<=sizeLine) (hdf:d.params.defaults=[]) (hr:Room k callerA)
  (hY: ∀(w:World)(h:Heap),YP w h->(K w.params).In h)
  (F: ∀(w:World)(mg:Str->Option Value)(fa:Addr)(h:Heap),(K w.params).In h->h.Ns mainGlobals mg->mg d.name=some (.ref fa)->
   ∃fd:FuncData,(∀(s:Shared)(u:Value),BindsTo s fd ⟨[u],[]⟩ [(x,u)])/\
    ∀base:Heap,(K w.params).In base->base.Ns mainGlobals mg->FnOk l.prog w (K w.params) mg base (CX w) k fa fd [x] (sp w))
  (hsp: ∀(w:World)(H:Hp)(a:Addr)(ns:List Int),ns.length<=n->yJD H->SqL (K w.params) H a (ns.map V.int)->sp w [.ref a] H (λv _=>v=.bl true) λ_ _ _=>False)
  (hCX: ∀(w:World)(H:Hp)(s:Shared)(e:Value)(s':Shared),CX w [] H s (λ_ _ _=>False) e s'->False):
  PySem.W.WalkO q loose XP YP l.row.toRowW d [] (λf vs=>PySem.call f vs):=by
 refine Att.attach_call hn hdf λw s₀ s₁ mg mb fa o pm cd doc a vs ns G Y ho hd hcd hmg hobj hints hlen hg=>?_
 have KX:=hY w _ Y
 obtain⟨fd,hb,hF⟩:=F w mg fa _ KX G.T.g hmg
 exact yJE KX G.T.g G.T.b G.T.builtins G.T.nolimit hg hobj hints (le_trans hlen hn2) hr hF hb (λH hO hS=>hsp w H a ns hlen hO hS) λH e s'=>hCX w H s₁ e s'
def inClass(s:Stmt)(j:Nat):Stmt:=match s with
 |.ClassDef _ _ _ body _ _ _ _ _ _ _=>body.getD j (.Pass ⟨0,0,0,0⟩)
 |_=>.Pass ⟨0,0,0,0⟩
def kE(s:Stmt):Arguments:=match s with
 |.FunctionDef _ a _ _ _ _ _ _ _ _=>a
 |_=>{posonlyargs:=[],args:=[],vararg:=none,kwonlyargs:=[],kw_defaults:=[],kwarg:=none,defaults:=[]}
def wB(s:Stmt):List Stmt:=match s with
 |.FunctionDef _ _ b _ _ _ _ _ _ _=>b
 |_=>[]
def zI(s:Stmt):Scope:=match s with
 |.FunctionDef _ _ _ _ _ _ sc _ _ _=>sc
 |_=>{kind:=.function,names:=[],isGenerator:=false,isCoroutine:=false}
abbrev CX0:CXT:=λ_ _ _ _ _ _=>False
abbrev E0:XK:=λ_ _ _=>False
theorem yJF{X:Cx}:zRO CX0 X E0:=λ_ _ _ _ _ _ _ h=>h.elim
structure Fun(K:PySem.W.Frag)(x qual:Str)(st:Stmt)(f:Addr)(fd:FuncData):Prop where
 ex: ∃(oc:Value)(od:Option Addr)(kV doc pm:Value)(an:Option Addr)(cdv ct:Value)(osl:Array (Option Value)),
  fd=PySem.W.fnOf x qual (kE st) (wB st) (zI st) .none kV doc pm an cdv ct/\K.lookup f=some ⟨oc,od,.func fd,osl⟩/\PySem.W.codeIn K cdv qual=true
 kp:PySem.W.keepIn K (.ref f)=true
section
variable{P:Program}{w:World}{K:PySem.W.Frag}{mg:Str->Option Value}{base:Heap}
theorem Fun.ok{x qual:Str}{st:Stmt}{f:Addr}{fd:FuncData}{N ps:List Str}{k:Nat}{sp:Sp}(F:Fun K x qual st f fd)(S:FnScope N ps (zI st))(len: ∀vs H Q E,sp vs H Q E->vs.length=ps.length)
  (hbody: ∀(cdv:Value)(A:Around)(outer:List Env)(s:Shared)(H:Hp)(vs:List V)(Q:VK)(E:XK),Room k (A.deeper (envOfC qual (zI st) s.heap.objs.size f cdv))->sp vs H Q E->
   ∃t,PSs (zZL CX0 P w K mg base N qual (zI st) f cdv A outer s H E).nox (wB st) t/\t {nx:=λ_ H'=>Q .non H',rt:=Q} (start N vs) H):FnOk P w K mg base CX0 (k+1) f fd ps sp:=by
 obtain⟨oc,od,kV,doc,pm,an,cdv,ct,osl,rfl,lk,hcd⟩:=F.ex
 refine fn_of lk hcd S len λA outer s H vs Q E hr hsp=>?_
 obtain⟨t,h,q⟩:=hbody cdv A outer s H vs Q E hr hsp
 exact⟨t,h.nox,q⟩
theorem Fun.binds{x qual:Str}{st:Stmt}{f:Addr}{fd:FuncData}{ps:List Str}(F:Fun K x qual st f fd)
  (h: ∀(kV doc pm:Value)(an:Option Addr)(cdv ct:Value)(us:List Value),us.length=ps.length->bindArgs (PySem.W.fnOf x qual (kE st) (wB st) (zI st) .none kV doc pm an cdv ct) ⟨us,[]⟩=pure (ps.zip us)):Binds K fd ps []:=by
 obtain⟨oc,od,kV,doc,pm,an,cdv,ct,osl,rfl,lk,hcd⟩:=F.ex
 exact .all (h kV doc pm an cdv ct)
theorem zGL{x qual:Str}{st:Stmt}{f:Addr}{oc:Value}{od an:Option Addr}{osl:Array (Option Value)}{kV doc pm cdv ct:Value}(l:K.lookup f=some ⟨oc,od,.func (PySem.W.fnOf x qual (kE st) (wB st) (zI st) .none kV doc pm an cdv ct),osl⟩)
  (c:PySem.W.codeIn K cdv qual=true) (k:PySem.W.keepIn K (.ref f)=true):Fun K x qual st f (PySem.W.fnOf x qual (kE st) (wB st) (zI st) .none kV doc pm an cdv ct):=⟨⟨oc,od,kV,doc,pm,an,cdv,ct,osl,rfl,l,c⟩,k⟩
end
section
variable{X:Cx}
theorem pv(i:Nat){x:Str}{pos:Pos}(hN:X.N[i]? =some x:=by rfl)(hv:Vis X.env.scope x:=by first |exact Or.inl rfl|exact Or.inr (Or.inl rfl)|exact Or.inr (Or.inr rfl))(hd:(x==("__debug__":Str))=false:=by decide)
  (hcd:(x==("__classdict__":Str))=false:=by decide):PE X (.Name x pos) (tVar i):=yQL hN hv hd hcd
end
end L2
set_option maxHeartbeats 4000000
namespace L2
open PySem PySem.Spec PyProof.Rows
def zID(env:Env)(l:List (Str×NameKind))(cs:List (Str×Addr)):List (Str×Addr):=
 l.foldl (λc y=>if y.2==.free then(y.1,(env.cells.lookup y.1).getD 0)::c else c) cs
theorem zWR{α β:Type}{l:List α}{f:α->β->Sem (ForInStep β)}{g:β->α->β}: ∀(c:β),(∀x∈l, ∀c,f x c=pure (.yield (g c x)))->
  forIn l c f=pure (l.foldl g c):=by
 induction l with
 |nil=>intro c _;rfl
 |cons x l ih=>
  intro c h
  rw [forIn_cons,h x mF0,pure_bind]
  exact ih _ λy hy=>h y (mO _ hy)
theorem zUJ{scope:Scope}{env:Env}(h: ∀y∈scope.names,y.2=.free-> ∃c,env.cells.lookup y.1=some c):closureFor scope env=pure (zID env scope.names []):=by
 unfold closureFor zID
 dsimp only
 rw [zWR (g:=λc y=>if y.2==.free then(y.1,(env.cells.lookup y.1).getD 0)::c else c) [] ?_]
 ·rfl
 ·intro y hy c
  obtain⟨n,k⟩:=y
  by_cases hk:k=.free
  ·subst hk
   obtain⟨a,ha⟩:=h _ hy rfl
   have ha':env.cells.lookup n=some a:=ha
   simp [cellOf,ha']
  ·have e:(k==NameKind.free)=false:=by simpa using hk
   simp [e]
theorem zPT{env:Env}: ∀(l:List (Str×NameKind))(cs:List (Str×Addr)),(∀y∈l,y.2=.free-> ∃c,env.cells.lookup y.1=some c)->(∀p∈cs,env.cells.lookup p.1=some p.2)->
  ∀p∈zID env l cs,env.cells.lookup p.1=some p.2
 |[],_,_,h=>h
 |(n,k)::l,cs,hl,h=>by
  refine zPT l _ (λy hy=>hl y (mO _ hy)) λp hp=>?_
  by_cases hk:k=.free
  ·subst hk
   obtain⟨c,hc⟩:=hl _ mF0 rfl
   have hc':env.cells.lookup n=some c:=hc
   have hp':p∈(n,(env.cells.lookup n).getD 0)::cs:=hp
   rcases mC.mp hp' with rfl|hp
   ·show env.cells.lookup n=some ((env.cells.lookup n).getD 0)
    rw [hc'];rfl
   ·exact h p hp
  ·have hp':p∈(if(k==NameKind.free)=true then(n,(env.cells.lookup n).getD 0)::cs else cs):=hp
   rw [iN (by simpa using hk)]at hp'
   exact h p hp'
theorem zRQ{env:Env}: ∀(l:List (Str×NameKind))(cs:List (Str×Addr))(p:Str×Addr),p∈cs->p∈zID env l cs
 |[],_,_,h=>h
 |(n,k)::l,cs,p,h=>by
  refine zRQ l _ p ?_
  show p∈(if(k==.free)=true then(n,(env.cells.lookup n).getD 0)::cs else cs)
  split
  ·exact mO _ h
  ·exact h
theorem zIV{env:Env}: ∀(l:List (Str×NameKind))(cs:List (Str×Addr))(n:Str),(n,NameKind.free)∈l-> ∃c,(n,c)∈zID env l cs
 |[],_,_,h=>nomatch h
 |(m,k)::l,cs,n,h=>by
  rcases mC.mp h with e|h
  ·have e1:n=m:=congrArg Prod.fst e
   have e2:NameKind.free=k:=congrArg Prod.snd e
   subst e1 e2
   exact⟨(env.cells.lookup n).getD 0,zRQ l _ _ mF0⟩
  ·exact zIV l _ n h
theorem gB{β:Type}: ∀{l:List (Str×β)}{n:Str},(∃c,(n,c)∈l)-> ∃c,l.lookup n=some c
 |[],_,h=>let ⟨_,z⟩:=h;nomatch z
 |(m,b)::l,n,h=>by
  by_cases e:n=m
  ·subst e
   exact⟨b,by simp [lookup_cons]⟩
  ·obtain⟨c,hc⟩:=h
   rcases mC.mp hc with z|z
   ·cases z;exact absurd rfl e
   ·obtain⟨c',h'⟩:=gB ⟨c,z⟩
    refine⟨c',?_⟩
    have e':(n==m)=false:=by simpa using e
    simp [lookup_cons,e',h']
def yCP(scope osc:Scope):List (Str×NameKind):=scope.names.map λ(n,k)=>if(k==.free&&osc.kind==.function&&osc.names.lookup n==some .cell)then(n,.cell)else(n,k)
def zPU(osc:Scope)(N:List Str)(sc:Scope)(idx:List Nat):Bool:=
 decide (sc.kind=.function)&&sc.names.all (λy=>decide (sc.names.lookup y.1=some y.2))&&
 sc.names.all (λy=>decide (y.2≠.free) || decide (osc.names.lookup y.1=some .cell) || decide (osc.names.lookup y.1=some .free))&&
 idx.all (λi=>match N[i]? with
  |some y=>(decide (osc.names.lookup y=some .cell) || decide (osc.names.lookup y=some .free))&&decide (sc.names.lookup y=some .free)
  |none=>false)
def rlS(sc osc:Scope):Scope:={sc with names:=yCP sc osc}
abbrev clC(env:Env)(sc:Scope)(C:Addr):List (Str×Addr):=cellsFrom (C+1) sc.names (zID env sc.names [])
theorem wX: ∀(l:List (Str×NameKind))(n:Nat)(acc:List (Str×Addr)),cellsFrom n l acc=cellsFrom n l []++acc
 |[],n,acc=>rfl
 |(x,k)::l,n,acc=>by
  unfold cellsFrom
  split
  ·rw [wX l (n+1) ((x,n)::acc),wX l (n+1) [(x,n)],aA];rfl
  ·exact wX l n acc
theorem zNF: ∀(l:List (Str×NameKind))(n:Nat){x:Str}{c:Addr},(x,c)∈cellsFrom n l []->(x,NameKind.cell)∈l/\n<=c
 |[],n,x,c,h=>nomatch h
 |(y,k)::l,n,x,c,h=>by
  unfold cellsFrom at h
  split at h
  ·rename_i hk
   rw [wX]at h
   rcases mem_append.mp h with h|h
   ·obtain⟨h1,h2⟩:=zNF l (n+1) h
    exact⟨mO _ h1,by omega⟩
   ·have e:=mS.mp h
    cases e
    have hk':k=.cell:=by simpa using hk
    subst hk'
    exact⟨mF0,le_refl _⟩
  ·obtain⟨h1,h2⟩:=zNF l n h
   exact⟨mO _ h1,h2⟩
theorem zLW{l:List (Str×NameKind)}{C:Nat}{x:Str}{c:Addr}(h:(x,c)∈cellsFrom (C+1) l []){n:Nat}(hC:n<=C):n<c:=Nat.lt_of_le_of_lt hC (zNF l (C+1) h).2
theorem zKU: ∀(l:List (Str×NameKind))(n:Nat){x:Str},(x,NameKind.cell)∈l-> ∃c,(x,c)∈cellsFrom n l []
 |[],n,x,h=>nomatch h
 |(y,k)::l,n,x,h=>by
  unfold cellsFrom
  rcases mC.mp h with e|h
  ·cases e
   rw [iP (by decide),wX]
   exact⟨n,mem_append_right _ mF0⟩
  ·split
   ·obtain⟨c,hc⟩:=zKU l (n+1) h
    rw [wX]
    exact⟨c,mem_append_left _ hc⟩
   ·exact zKU l n h
theorem own_apart: ∀(l:List (Str×NameKind))(n:Nat),(cellsFrom n l []).Pairwise λx y=>x.2≠y.2
 |[],n=>List.Pairwise.nil
 |(y,k)::l,n=>by
  unfold cellsFrom
  split
  ·rw [wX]
   refine pairwise_append.mpr ⟨own_apart l (n+1),List.pairwise_singleton _ _,λa ha b hb e=>?_⟩
   rw [mS.mp hb]at e
   have:=(zNF l (n+1) (x:=a.1) (c:=a.2) ha).2
   exact ne_of_gt this e
  ·exact own_apart l n
theorem zGM{β:Type}(x:Str): ∀(l m:List (Str×β)),(l++m).lookup x=(l.lookup x).or (m.lookup x)
 |[],m=>rfl
 |(y,b)::l,m=>by
  rw [List.cons_append,lookup_cons,lookup_cons]
  cases x==y with
  |true=>rfl
  |false=>exact zGM x l m
theorem zVP{β:Type}{x:Str}: ∀{l:List (Str×β)},(∀c,(x,c)∉l)->l.lookup x=none
 |[],_=>rfl
 |(y,b)::l,h=>by
  rw [lookup_cons]
  cases e:x==y with
  |true=>rw [beq_iff_eq.mp e]at h;exact absurd mF0 (h b)
  |false=>exact zVP λc hc=>h c (mO _ hc)
theorem zBY{env:Env}{sc:Scope}{C:Addr}{x:Str}{c:Addr}(e:(clC env sc C).lookup x=some c):(x,c)∈cellsFrom (C+1) sc.names []\/(zID env sc.names []).lookup x=some c:=by
 unfold clC at e
 rw [wX,zGM]at e
 cases z:(cellsFrom (C+1) sc.names []).lookup x with
 |some c'=>rw [z]at e;cases e;exact .inl (PySem.mem_of_lookup z)
 |none=>rw [z]at e;exact .inr e
theorem yRO{env:Env}{sc:Scope}{C:Addr}{x:Str}{c:Addr}(h:(x,NameKind.cell)∈sc.names)(e:(clC env sc C).lookup x=some c):(x,c)∈cellsFrom (C+1) sc.names []:=by
 unfold clC at e
 rw [wX,zGM]at e
 obtain⟨c',h'⟩:=gB (zKU sc.names (C+1) h)
 rw [h']at e
 cases e
 exact PySem.mem_of_lookup h'
theorem yNA{env:Env}{sc:Scope}{C:Addr}{x:Str}(h:(x,NameKind.cell)∉sc.names):(clC env sc C).lookup x=(zID env sc.names []).lookup x:=by
 unfold clC
 rw [wX,zGM,zVP λc hc=>h (zNF _ _ hc).1]
 rfl
def zOP(σ:St)(idx:List Nat):St:=idx.map λi=>(σ[i]?).join
theorem zDD(σ:St)(idx:List Nat):(zOP σ idx).length=idx.length:=by unfold zOP;rw [lM]
def yM(X:Cx)(sc:Scope)(T:List Str)(idx:List Nat)(C:Addr)(s₂:Shared)(H1:Hp)(fp:List Addr):Cx where
 prog:=X.prog
 w:=X.w
 K:=X.K
 mg:=X.mg
 base:=X.base
 A:=X.A
 N:=T++idx.map λi=>(X.N[i]?).getD Str.empty
 s₀:=s₂
 H₀:=H1
 env:=compEnvC sc (clC X.env sc C) C X.env
 outer:=X.stack
 stack:=X.stack
 ex:=fp
 fn:=λx=>sc.names.lookup x==some .cell
 calm:=X.calm
 pn:=[]
 xe:=λ_ _=>False
def yJG(wi:TI)(g:TG)(tc:Addr->Shared->Hp->List Addr->TT)(te:Addr->Shared->Hp->List Addr->TE)(nt:Nat)(idx:List Nat):TE:=λσ H Q=>wi σ H λJ H1=> ∃W:Nat->Nat->List V->Hp->Prop,(∃m,W 0 m [] H1)/\ ∀i m ys H2,W i m ys H2->ys.length<=sizeLine/\
 ((J.stop i H2/\ ∀D,H2 D=none->Q (.ref D) (upd H2 D (.lst ys)))\/
   (J.go i H2/\ys.length<sizeLine/\ ∀x H3,J.yld i H2 x H3-> ∀τ:St,τ.length=nt->g x (τ++zOP σ idx) H3 λσ4 H4=>(∃τ',σ4=τ'++zOP σ idx/\τ'.length=nt)/\
    ∀C s₂ fp,tc C s₂ H1 fp σ4 H4 λb H5=>if b=true then te C s₂ H1 fp σ4 H5 λy H6=> ∃m',m'<m/\W (i+1) m' (ys++[y]) H6 else∃m',m'<m/\W (i+1) m' ys H5))
section
variable{prog:Program}{w:World}{A:Around}{R:Result->Shared->Prop}{s:Shared}
theorem zWS{elt target iter:Expr}{ifs:List Expr}{scope:Scope}{pos:Pos}{it acc:Value}{env:Env}(I:Nat->Shared->Prop)
  (turn: ∀n s,I n s->wpAny (model prog w) A (pyNext it) (λr s₁=>match r with
   |none=>R (.ok .next) s₁
   |some v=>wpAny (model prog w) A (letOwnedTupleGo target it v) (λ_ s₁'=>wpAny (model prog w) A (assign target env v) (λ_ s₂=>
     wpAny (model prog w) A (forIn ifs true λc r=>if r=true then do let ok <-isTrue c env (eval c env);pure (ForInStep.yield ok)else pure (ForInStep.yield r)) (λok s₃=>
      if ok=true then wpAny (model prog w) A (eval elt env) (λx s₄=>
       wpAny (model prog w) A (call (.builtin "list.append") [acc,x]) (λ_ s₅=> ∃m,m<n/\I m s₅) (λ_ _=>False) s₄) (λ_ _=>False) s₃
      else∃m,m<n/\I m s₃) (λ_ _=>False) s₂) (λ_ _=>False) s₁') (λ_ _=>False) s₁) (λ_ _=>False) s)
  (n:Nat) (h:I n s):codeAny (model prog w) A (.compLoop (.ListComp elt [⟨target,iter,ifs,0⟩] scope pos) 0 it acc env) R s:=by
 refine codeAny_loop rfl I (λn s hI=>?_) n h
 show wpAny _ A ((compTurn (.ListComp elt [⟨target,iter,ifs,0⟩] scope pos) 0 it acc env).onRaise (λx=>do noteFrame x env;theTreesLotGoes x)) _ _ s
 refine wpAny_noted ?_
 rw [compTurn_list]
 have no: ∀{E':VP}(v:Value)(s':Shared),False->E' v s':=λ_ _ z=>z.elim
 refine wB0 (wpAny_standAt (wB0 (wpAny_mono (turn n s hI) (λr s₁ h₁=>?_) (no))))
 cases r with
 |none=>exact wP0 h₁
 |some v=>
  refine wB0 (wpAny_mono h₁ (λ_ s₁' h₁'=>wB0 (wpAny_mono h₁' (λ_ s₂ h₂=>wB0 (wpAny_mono h₂ (λok s₃ h₃=>?_) no)) no)) no)
  cases ok with
  |false=>exact wP0 ⟨rfl,h₃⟩
  |true=>
   exact wB0 (wB0 (wpAny_mono h₃ (λx s₄ h₄=>wB0 (wpAny_mono h₄ (λ_ s₅ h₅=>wP0 (wP0 ⟨rfl,h₅⟩)) no)) no))
end
def yHB(X:Cx)(ifs:List Expr)(t:TT):Prop:=
 ∀(pins:List (Addr×Obj))(s:Shared)(σ:St)(H:Hp)(Q:Bool->Hp->Prop),Inv X pins σ H s->t σ H Q->
  wpAny (model X.prog X.w) X.A (forIn ifs true λc r=>if r=true then do let ok <-isTrue c X.env (eval c X.env);pure (ForInStep.yield ok)else pure (ForInStep.yield r)) (TP X pins σ Q) X.xe s
def tNoIf:TT:=λ_ H Q=>Q true H
theorem yJH{X:Cx}:yHB X [] tNoIf:=λ_ _ _ H _ I h=>wpAny_tests_nil ⟨H,I,h⟩
theorem yJI{X:Cx}{c:Expr}{t:TT}(h:PT X c t):yHB X [c] t:=λpins s σ H Q I q=>wpAny_tests_one (h pins s σ H Q I q)
structure CompF(osc:Scope)(N:List Str)(sc:Scope)(idx:List Nat):Prop where
 kind:sc.kind=.function
 uni: ∀y∈sc.names,sc.names.lookup y.1=some y.2
 frees: ∀y∈sc.names,y.2=.free->osc.names.lookup y.1=some .cell\/osc.names.lookup y.1=some .free
 cap: ∀i∈idx, ∃y,N[i]? =some y/\(osc.names.lookup y=some .cell\/osc.names.lookup y=some .free)/\sc.names.lookup y=some .free
theorem CompF.locs{osc:Scope}{N:List Str}{sc:Scope}{idx:List Nat}(F:CompF osc N sc idx): ∀y∈sc.names,y.2=.local->sc.names.lookup y.1=some .local:=λy hy e=>by rw [F.uni y hy,e]
theorem yNB{osc:Scope}{N:List Str}{sc:Scope}{idx:List Nat}(h:zPU osc N sc idx=true):CompF osc N sc idx:=by
 unfold zPU at h
 simp only [aE,all_eq_true,decide_eq_true_eq,or_eq_true]at h
 obtain⟨⟨⟨h1,h2⟩,h4⟩,h5⟩:=h
 refine⟨h1,λy hy=>h2 y hy,λy hy e=>?_,λi hi=>?_⟩
 ·rcases h4 y hy with(z|z)|z
  ·exact absurd e z
  ·exact .inl z
  ·exact .inr z
 ·have q:=h5 i hi
  cases e:N[i]? with
  |none=>rw [e]at q;cases q
  |some y=>
   rw [e]at q
   simp only [aE,decide_eq_true_eq,or_eq_true]at q
   exact⟨y,rfl,q.1,q.2⟩
theorem yJJ{sc osc:Scope}{x:Str}(h:(yCP sc osc).lookup x=some .cell\/(yCP sc osc).lookup x=some .free):(x,NameKind.free)∈sc.names\/(x,NameKind.cell)∈sc.names:=by
 have key: ∀k',(k'=.cell\/k'=.free)->(x,k')∈yCP sc osc->(x,NameKind.free)∈sc.names\/(x,NameKind.cell)∈sc.names:=by
  intro k' hk' hm
  unfold yCP at hm
  obtain⟨⟨n,k⟩,hy,e⟩:=mM.mp hm
  dsimp only at e
  split at e
  ·rename_i hc
   cases e
   rw [aE,aE]at hc
   have:k=.free:=by simpa using hc.1.1
   subst this
   exact .inl hy
  ·cases e
   rcases hk' with rfl|rfl
   ·exact .inr hy
   ·exact .inl hy
 rcases h with h|h
 ·exact key _ (.inl rfl) (PySem.mem_of_lookup h)
 ·exact key _ (.inr rfl) (PySem.mem_of_lookup h)
theorem zVQ{osc:Scope}{x:Str}: ∀{l:List (Str×NameKind)},l.lookup x=some .free->(l.map λ(n,k)=>if(k==NameKind.free&&osc.kind==.function&&osc.names.lookup n==some .cell)then(n,NameKind.cell)else(n,k)).lookup x=some .cell\/(l.map λ(n,k)=>if(k==NameKind.free&&osc.kind==.function&&osc.names.lookup n==some .cell)then(n,NameKind.cell)else(n,k)).lookup x=some .free
 |[],h=>by simp at h
 |(n,k)::l,h=>by
  have ih:=@zVQ osc x l
  rw [lookup_cons]at h
  rw [map_cons]
  by_cases hc:(k==NameKind.free&&osc.kind==.function&&osc.names.lookup n==some .cell)=true
  ·dsimp only
   rw [iP hc,lookup_cons]
   cases hx:x==n with
   |true=>exact .inl rfl
   |false=>rw [hx]at h;exact ih h
  ·dsimp only
   rw [iN hc,lookup_cons]
   cases hx:x==n with
   |true=>rw [hx]at h;exact .inr h
   |false=>rw [hx]at h;exact ih h
section
variable{X:Cx}{pins:List (Addr×Obj)}{σ:St}{H1:Hp}{s₂:Shared}{sc:Scope}{T:List Str}{idx:List Nat}{C:Addr}{fp:List Addr}
theorem zZP(I:Inv X pins σ H1 s₂)(F:CompF X.env.scope X.N sc idx): ∀y∈sc.names,y.2=.free-> ∃c,X.env.cells.lookup y.1=some c:=
 λy hy e=>I.ok.has y.1 (F.frees y hy e)
theorem jK(I:Inv X pins σ H1 s₂)(F:CompF X.env.scope X.N sc idx){x:Str}{c:Addr}(e:(zID X.env sc.names []).lookup x=some c):X.env.cells.lookup x=some c:=
 zPT sc.names [] (zZP I F) (λ_ z=>nomatch z) (x,c) (PySem.mem_of_lookup e)
theorem yNC(I:Inv X pins σ H1 s₂)(F:CompF X.env.scope X.N sc idx){x:Str}{c:Addr}(hx:(x,NameKind.free)∈sc.names)(e:X.env.cells.lookup x=some c):(zID X.env sc.names []).lookup x=some c:=by
 obtain⟨c',h'⟩:=gB (zIV (env:=X.env) sc.names [] x hx)
 rw [h']
 rw [jK I F h']at e
 exact e
theorem yHC(I:Inv X pins σ H1 s₂)(F:CompF X.env.scope X.N sc idx)(hC:s₂.heap.objs.size<=C)(hfp: ∀b∈fp,zNE X pins H1 b)(hlt: ∀b∈fp,b<s₂.heap.objs.size):(yM X sc T idx C s₂ H1 fp).Ok where
 mod:=I.ok.mod
 kind:=F.kind
 glob:=I.ok.glob
 blt:=I.ok.blt
 above:=hC
 inj:=λx y c h1 h2=>by
  have low: ∀z,(zID X.env sc.names []).lookup z=some c->c<s₂.heap.objs.size:=λz h=>let ⟨v,q⟩:=I.cell z c (jK I F h);q.lt
  rcases zBY h1 with z1|z1<;>rcases zBY h2 with z2|z2
  ·exact PySem.name_of_addr (own_apart sc.names (C+1)) z1 z2
  ·exact absurd (low y z2) (not_lt.mpr (le_of_lt (zLW z1 hC)))
  ·exact absurd (low x z1) (not_lt.mpr (le_of_lt (zLW z2 hC)))
  ·exact I.ok.inj x y c (jK I F z1) (jK I F z2)
 has:=λx hx=>by
  have hx':(yCP sc X.env.scope).lookup x=some .cell\/(yCP sc X.env.scope).lookup x=some .free:=hx
  show∃c,(clC X.env sc C).lookup x=some c
  unfold clC
  rw [wX]
  rcases yJJ hx' with z|z
  ·obtain⟨c,hc⟩:=zIV (env:=X.env) sc.names [] x z
   exact gB ⟨c,mem_append_right _ hc⟩
  ·obtain⟨c,hc⟩:=zKU sc.names (C+1) z
   exact gB ⟨c,mem_append_left _ hc⟩
 cab:=λx c h e=>by
  have h':sc.names.lookup x=some .cell:=beq_iff_eq.mp h
  exact le_of_lt (zLW (yRO (PySem.mem_of_lookup h') e) hC)
 hd:=I.ok.hd
 frames:=I.ok.frames
 stk:=.inl rfl
 exf:=λb hb=>⟨ne_of_lt (lt_of_lt_of_le (hlt b hb) hC),λx c e=>by
  rcases zBY e with z|z
  ·exact ne_of_gt (Nat.lt_trans (hlt b hb) (zLW z hC))
  ·exact(hfp b hb).2.2.2.2.1 x c (jK I F z)⟩
 bs:=I.bs
 bsz:=le_trans I.ok.bsz I.sz
 noex:=λb o e hb=>by
  rcases (hfp b hb).2.2.2.1 with z|z
  ·exact I.ok.noex b o e z
  ·exact absurd (lt_of_lt_of_le (Heap.lt_size e) (le_trans I.ok.bsz z)) (lt_irrefl _)
 exfs:=λb hb z=>by
  rcases mC.mp (I.stkSub b z)with e|e
  ·exact(hfp b hb).2.1 e
  ·exact(hfp b hb).2.2.1 e
 funs:=I.stack
 frf:=I.stkFree
theorem yCQ{s₄:Shared}{m:Str->Option Value}(I:Inv X pins σ H1 s₂)(F:CompF X.env.scope X.N sc idx)(hC:s₂.heap.objs.size<=C)(hfp: ∀b∈fp,zNE X pins H1 b)(hlt: ∀b∈fp,b<s₂.heap.objs.size)
  (kp: ∀b o,s₂.heap.get? b=some o->s₄.heap.get? b=some o) (ho:s₄.os=s₂.os) (hg:s₄.gens=s₂.gens) (hn:s₄.heap.Ns C m) (hcl: ∀x c,(x,c)∈cellsFrom (C+1) sc.names []->s₄.heap.IsCell c none):
  Inv (yM X sc T idx C s₂ H1 fp) [] (T.map (λ_=>none)++zOP σ idx) H1 s₄:=by
 have cellK: ∀c v,s₂.heap.IsCell c v->s₄.heap.IsCell c v:=λc v ⟨o,h1,h2⟩=>⟨o,kp c o h1,h2⟩
 refine⟨yHC I F hC hfp hlt,ho,by rw [hg];exact I.bare,Un.kept kp,⟨m,hn,λi x v e1 e2 e3=>?_⟩,λx c e=>?_,I.hok.fresh hC,λx c e=>?_,λp hp=>absurd (show p∈([]:List (Addr×Obj))from hp) (by simp),I.hok.kept kp,?_⟩
 ·have e1':(T++idx.map λi=>(X.N[i]?).getD Str.empty)[i]? =some x:=e1
  by_cases hi:i<T.length
  ·rw [getElem?_append_left (by simpa using hi),getElem?_map]at e2
   cases z:T[i]? with
   |none=>rw [z]at e2;cases e2
   |some y=>rw [z]at e2;cases e2
  ·rw [getElem?_append_right (by simpa using hi)]at e2
   rw [getElem?_append_right (by omega)]at e1'
   rw [lM]at e2
   unfold zOP at e2
   rw [getElem?_map]at e1' e2
   cases z:idx[i - T.length]? with
   |none=>rw [z]at e2;cases e2
   |some j=>
    rw [z]at e1' e2
    have hj:j∈idx:=mem_of_getElem? z
    obtain⟨y,hy,k1,k2⟩:=F.cap j hj
    have ex:y=x:=by
     have q:(X.N[j]?).getD Str.empty=x:=Option.some.inj e1'
     rw [hy]at q;exact q
    subst ex
    have ev:σ[j]? =some (some v):=by
     have q:(σ[j]?).join=some v:=Option.some.inj e2
     cases w':σ[j]? with
     |none=>rw [w']at q;cases q
     |some a=>rw [w']at q;have q':a=some v:=q;rw [q']
    obtain⟨m0,hn0,hl0⟩:=I.loc
    have vis:Vis X.env.scope y:=k1.elim (λz=>.inr (.inl z)) λz=>.inr (.inr z)
    obtain⟨u,r,l⟩:=hl0 j y v hy ev vis
    refine⟨u,r,?_⟩
    rcases l with⟨kl,_⟩|⟨_,c,hc,q⟩
    ·have kl':X.env.scope.names.lookup y=some .local:=kl
     rcases k1 with z|z<;>rw [z]at kl'<;>cases kl'
    ·have nc:(y,NameKind.cell)∉sc.names:=λz=>by
      have:=F.uni _ z
      rw [k2]at this
      cases this
     refine .inr ⟨zVQ (osc:=X.env.scope) k2,c,?_,cellK c _ q⟩
     show(clC X.env sc C).lookup y=some c
     rw [yNA nc]
     exact yNC I F (PySem.mem_of_lookup k2) hc
 ·rcases zBY e with z|z
  ·exact⟨none,hcl x c z⟩
  ·obtain⟨v,q⟩:=I.cell x c (jK I F z)
   exact⟨v,cellK c v q⟩
 ·rcases zBY e with z|z
  ·exact I.hok.fresh (le_of_lt (zLW z hC))
  ·exact I.freeC x c (jK I F z)
 ·show(T.map (λ_=>(none:Option V))++zOP σ idx).length=(T++idx.map λi=>(X.N[i]?).getD Str.empty).length
  rw [lA,lA,lM,lM,zDD]
theorem yCR{σ1:St}{H':Hp}{s':Shared}{h':Heap}{D:Addr}{ys:List V}{its:List Value}{n:Nat}(I:Inv X pins σ H1 s₂)(hC:s₂.heap.objs.size<=C)(hfp: ∀b∈fp,zNE X pins H1 b)
  (J:Inv (yM X sc T idx C s₂ H1 fp) [] σ1 H' s') (hs:Heap.SameBut C s'.heap h') (hD:s₂.heap.objs.size<=D) (hDC:D≠C) (eD:s'.heap.get? D=some {cls:=.type "list",data:=.seq its.toArray n}) (nD:H' D=none) (r:Vals ys its) (hz:ys.length<=sizeLine):
  Inv X pins σ (upd H' D (.lst ys)) {s' with heap:=h'}:=by
 have old: ∀b o,s₂.heap.get? b=some o->b≠C/\b≠D:=λb o e=>⟨ne_of_lt (lt_of_lt_of_le (Heap.lt_size e) hC),ne_of_lt (lt_of_lt_of_le (Heap.lt_size e) hD)⟩
 have oldH: ∀b u,H1 b=some u->b≠D:=λb u e=>ne_of_lt (lt_of_lt_of_le (I.hok.lt e) hD)
 have nC:H' C=none:=J.free
 have B:Un (frs X.stack) fp H1 H' s₂.heap s'.heap:=J.base
 have mv: ∀b o,b≠C->s'.heap.get? b=some o->h'.get? b=some o:=λb o hb e=>(hs.2 b hb).trans e
 refine I.call' (s':={s' with heap:=h'}) (ch:=fp) J.os ⟨λb o e q hb hx=>?_,λb o e q hb hx=>?_,λb o e q hx=>?_,λb o e hx=>?_,λb xs e=>?_,λb o u e=>?_,λb ps e=>?_⟩ ?_ J.bare λb hb=>⟨(hfp b hb).2.2.2.1,(hfp b hb).2.1,(hfp b hb).2.2.2.2.1,(hfp b hb).2.2.2.2.2⟩
 ·exact mv b o (old b o e).1 (B.keep b o e q hb hx)
 ·obtain⟨sl,z⟩:=B.slot b o e q hb hx
  exact⟨sl,mv b _ (old b o e).1 z⟩
 ·rw [zZ (old b o e).2];exact B.free b o e q hx
 ·obtain⟨o',z⟩:=B.there b o e hx
  exact⟨o',mv b o' (old b o e).1 z⟩
 ·rw [zZ (oldH b _ e)];exact B.tups b xs e
 ·rw [zZ (oldH b _ e)];exact B.frzs b o u e
 ·obtain⟨more,z⟩:=B.tbls b ps e
  exact⟨more,by rw [zZ (oldH b _ e)];exact z⟩
 ·intro b u e
  by_cases hb:b=D
  ·subst hb
   rw [xU]at e;cases e
   exact⟨hz,its,n,r,mv b _ hDC eD⟩
  ·rw [zZ hb]at e
   refine(J.hok b u e).stay (λc v hc q=>mv c v ?_ q) (λc q=>by rw [zZ (yK q nD)];exact q) λc xs q=>by rw [zZ (yK q nD)];exact q
   rcases hc with z|z
   ·rw [z];exact yK e nC
   ·exact yK z nC
end
section
variable{X:Cx}
theorem zUK{M:Model}{A:Around}{E:VP}{s:Shared}{scope:Scope}{globals:Addr}{closure:List (Str×Addr)}{qual:Str}{outer:Env}{Q:Env->Shared->Prop}
  (hQ:Q (newEnv scope s.heap.objs.size globals (cellsFrom (s.heap.objs.size+1) scope.names closure) qual none .none (some outer) builtinsNs) {s with heap:=pushCells (s.heap.push {cls:=.type "dict",data:=.dict #[]}) scope.names}):
  wpAny M A (newFunctionEnv scope globals closure [] qual none .none (some outer)) Q E s:=by
 simp only [newFunctionEnv,Option.isSome_some,if_true]
 refine wB0 (wpAny_alloc ?_)
 refine wB0 (wpAny_layCells _ (λname kind cells=>by cases hkc:kind==NameKind.cell<;>simp [hkc]) _ _ _ _ ?_)
 rw [show({s with heap:=s.heap.push {cls:=.type "dict",data:=.dict #[]}}:Shared).heap.objs.size=s.heap.objs.size+1 from Heap.size_push ..]
 simp only [forIn_nil]
 exact wB0 (wP0 (wP0 hQ))
theorem zZQ{elt tg iter:Expr}{ifs:List Expr}{pos:Pos}{sc:Scope}{wi:TI}{g:TG}{tc:Addr->Shared->Hp->List Addr->TT}{te:Addr->Shared->Hp->List Addr->TE}(T:List Str)(idx:List Nat)
  (hi:PI X tg iter wi) (hcalm:X.calm=true) (hB:zPU X.env.scope X.N sc idx=true)
  (hg: ∀C s₂ H1 fp,PG (yM X sc T idx C s₂ H1 fp) tg g)
  (hc: ∀C s₂ H1 fp,yHB (yM X sc T idx C s₂ H1 fp) ifs (tc C s₂ H1 fp))
  (he: ∀C s₂ H1 fp,PE (yM X sc T idx C s₂ H1 fp) elt (te C s₂ H1 fp))
  (hs: ∀x,foldedSetIterable iter X.env x=pure x:=by intro _;rfl)
  {pins:List (Addr×Obj)} {s:Shared} {σ:St} {H:Hp} {Q:VK} {use:Option (Value->Sem Unit)} {Q':VP} (I:Inv X pins σ H s) (h:yJG wi g tc te T.length idx σ H Q)
  (fin: ∀(D C:Addr)(s4:Shared)(H':Hp)(r:_),(∀h',Heap.SameBut C s4.heap h'->Inv X pins σ H' {s4 with heap:=h'})->zNE X pins H' C->(∃m,s4.heap.Ns C m)->Q (.ref D) H'->
   compPost (model X.prog X.w) X.A X.xe use Q' (.ref D) C (.ok r) s4):
  wpAny (model X.prog X.w) X.A (comprehension (.ListComp elt [⟨tg,iter,ifs,0⟩] sc pos) sc X.env (firstIterPos [⟨tg,iter,ifs,0⟩] pos) (newList []) false (eval iter X.env) use) Q' X.xe s:=by
 have cf:=yNB hB
 refine wpAny_comprehension_free (use:=use) (cl:=zID X.env sc.names []) rfl hs (zUJ (zZP I cf)) cf.kind cf.locs ?_
 refine thn (hi pins s σ H _ I h) λv s1 h1=>thn h1 λitv s2 h2=>?_
 obtain⟨it,fp,tn,J,H2,e,I2,Tn,st2,f2,W,⟨m0,w0⟩,turn⟩:=h2
 subst e
 have hlt: ∀b∈fp,b<s2.heap.objs.size:=λb hb=>let ⟨o,e,_⟩:=Tn.obj _ _ st2 b hb;Heap.lt_size e
 refine wpAny_newObj_type (zUK ?_)
 dsimp only
 generalize hH2:s2.heap.push {cls:=.type "list",dict:=none,data:=.seq ([]:List Value).toArray}=HH
 generalize hh1:pushCells (HH.push {cls:=.type "dict",data:=.dict #[]}) sc.names=h₁
 have hns₁:h₁.Ns HH.objs.size (λ_=>none):=hh1▸(Heap.Ns.new HH (.type "dict")).keeps (pushCells_keeps _ _)
 have hC:HH.objs.size=s2.heap.objs.size+1:=by rw [<-hH2,Heap.size_push]
 have hDC:s2.heap.objs.size≠HH.objs.size:=by rw [hC];exact ne_of_lt (lt_succ_self _)
 have hCle:s2.heap.objs.size<=HH.objs.size:=by rw [hC];exact le_succ _
 have up1: ∀b o,HH.get? b=some o->h₁.get? b=some o:=λb o e=>hh1▸pushCells_keeps _ _ b o (hP0 _ e)
 have old: ∀b o,s2.heap.get? b=some o->h₁.get? b=some o:=λb o e=>up1 b o (hH2▸hP0 _ e)
 have eD0:h₁.get? s2.heap.objs.size=some {cls:=.type "list",data:=.seq ([]:List Value).toArray 0}:=up1 _ _ (hH2▸Heap.get?_push_size _ rfl)
 have hcl: ∀x c,(x,c)∈cellsFrom (HH.objs.size+1) sc.names []->h₁.IsCell c none:=λx c hm=>by
  have ok:=cellsFrom_ok sc.names (HH.push {cls:=.type "dict",data:=.dict #[]}) 0 [] ⟨λ_ _ hm=>(nomatch hm),List.Pairwise.nil⟩ (zero_le _)
  rw [Heap.size_push,hh1]at ok
  exact(ok.empty x c hm).1
 have nD0:H2 s2.heap.objs.size=none:=I2.hok.fresh (le_refl _)
 have cD: ∀x c,(clC X.env sc HH.objs.size).lookup x=some c->c≠s2.heap.objs.size:=λx c e=>by
  rcases zBY e with z|z
  ·exact ne_of_gt (zLW z hCle)
  ·obtain⟨v,q⟩:=I2.cell x c (jK I2 cf z)
   exact ne_of_lt q.lt
 have loop: ∀s4:Shared,s4={s2 with heap:=h₁}->
   codeAny (model X.prog X.w) X.A (.compLoop (.ListComp elt [⟨tg,iter,ifs,0⟩] sc pos) 0 (.ref it) (.ref s2.heap.objs.size) (compEnvC sc (clC X.env sc HH.objs.size) HH.objs.size X.env))
    (compPost (model X.prog X.w) X.A X.xe use Q' (.ref s2.heap.objs.size) HH.objs.size) s4:=by
  rintro s4 rfl
  have J0:Inv (yM X sc T idx HH.objs.size s2 H2 fp) [] (T.map (λ_=>none)++zOP σ idx) H2 {s2 with heap:=h₁}:=
   yCQ I2 cf hCle f2 hlt old rfl rfl hns₁ hcl
  refine zWS (λk s'=> ∃(i:Nat)(ys:List V)(its:List Value)(n:Nat)(H':Hp)(τ:St),Inv (yM X sc T idx HH.objs.size s2 H2 fp) [] (τ++zOP σ idx) H' s'/\τ.length=T.length/\tn i s'.heap/\(∀b∈fp,H' b=none)/\
   s'.heap.get? s2.heap.objs.size=some {cls:=.type "list",data:=.seq its.toArray n}/\H' s2.heap.objs.size=none/\Vals ys its/\W i k ys H') ?_ m0
   ⟨0,[],[],0,H2,T.map (λ_=>none),J0,by rw [lM],Tn.keep _ _ _ st2 λb _ o e=>old b o e,λb hb=>(f2 b hb).1,eD0,nD0,.nil,w0⟩
  rintro k s3 ⟨i,ys,its,n,H3,τ,I3,hτ,st3,fr3,eD3,nD3,r3,w3⟩
  obtain⟨hz,alt⟩:=turn i k ys H3 w3
  have hDfs:s2.heap.objs.size∉(yM X sc T idx HH.objs.size s2 H2 fp).fs:=λz=>by
   obtain⟨_,o,ho,_⟩:=I2.stack.mem (show s2.heap.objs.size∈frs X.stack from z)
   exact absurd (Heap.lt_size ho) (lt_irrefl _)
  have pinD: ∀{H':Hp}{s':Shared},s'.heap.get? s2.heap.objs.size=some {cls:=.type "list",data:=.seq its.toArray n}->H' s2.heap.objs.size=none->
    ∀p∈[(s2.heap.objs.size,({cls:=.type "list",data:=.seq its.toArray n}:Obj))],s'.heap.get? p.1=some p.2/\H' p.1=none/\p.1≠(yM X sc T idx HH.objs.size s2 H2 fp).env.locals/\p.1∉(yM X sc T idx HH.objs.size s2 H2 fp).fs/\ ∀v,p.2.data≠.cell v:=
   λ{H' s'} e1 e2 p hp=>by
    have ep:p=(s2.heap.objs.size,{cls:=.type "list",data:=.seq its.toArray n}):=by simpa using hp
    subst ep
    exact⟨e1,e2,hDC,hDfs,λv z=>by cases z⟩
  have P3:Inv (yM X sc T idx HH.objs.size s2 H2 fp) [(s2.heap.objs.size,{cls:=.type "list",data:=.seq its.toArray n})] (τ++zOP σ idx) H3 s3:=I3.pins_of (pinD eD3 nD3)
  have stat: ∀{H':Hp},(∀b∈fp,H' b=none)-> ∀b∈fp,zNE (yM X sc T idx HH.objs.size s2 H2 fp) [(s2.heap.objs.size,{cls:=.type "list",data:=.seq its.toArray n})] H' b:=λ{H'} hn b hb=>by
   have hb2:=hlt b hb
   refine⟨hn b hb,ne_of_lt (lt_of_lt_of_le hb2 hCle),I3.ok.exfs b hb,.inl hb,λx c e=>?_,λp hp=>?_⟩
   ·rcases zBY e with z|z
    ·exact ne_of_gt (Nat.lt_trans hb2 (zLW z hCle))
    ·exact(f2 b hb).2.2.2.2.1 x c (jK I2 cf z)
   have ep:p=(s2.heap.objs.size,({cls:=.type "list",data:=.seq its.toArray n}:Obj)):=by simpa [yM]using hp
   subst ep
   exact ne_of_gt hb2
  rcases alt with⟨stop,q⟩|⟨go,hl2,step⟩
  ·refine thn (Tn.done (yM X sc T idx HH.objs.size s2 H2 fp) rfl rfl rfl hcalm i _ s3 _ H3 (λ_ _=>False) P3 (stat fr3) st3 stop) λr s4 ⟨hr,I4⟩=>?_
   subst hr
   obtain⟨m,hn,_⟩:=id I4.loc
   have eD4:=(I4.pin (s2.heap.objs.size,{cls:=.type "list",data:=.seq its.toArray n}) (by simp)).1
   exact fin _ _ s4 _ _ (λh' hs'=>yCR I2 hCle f2 (I4.pins_of (λp hp=>nomatch hp)) hs' (le_refl _) hDC eD4 nD3 r3 hz) (I2.fpOk hCle (by rw [zZ (Ne.symm hDC)];exact I4.free)) ⟨m,hn⟩ (q _ nD3)
  ·refine thn (Tn.item (yM X sc T idx HH.objs.size s2 H2 fp) rfl rfl rfl hcalm i _ s3 _ H3 (λ_ _=>False) P3 (stat fr3) st3 go) λr s4 ⟨u,hr,h4⟩=>?_
   subst hr
   refine thn h4 λ_ s5 ⟨x,H5,I5,r5,y5,st5,fr5⟩=>?_
   have I5':=I5.pinned (stat fr5) (Tn.obj _ _ st5)
   refine thn (hg HH.objs.size s2 H2 fp _ s5 _ H5 x u _ I5' r5 (step x H5 y5 τ hτ)) λ_ s6 ⟨σ6,H6,I6,⟨τ',e6,l6⟩,q6⟩=>?_
   subst e6
   refine thn (hc HH.objs.size s2 H2 fp _ s6 _ H6 _ I6 (q6 HH.objs.size s2 fp)) λok s7 ⟨H7,I7,q7⟩=>?_
   have mD:(s2.heap.objs.size,({cls:=.type "list",data:=.seq its.toArray n}:Obj))∈(yM X sc T idx HH.objs.size s2 H2 fp).pn++([(s2.heap.objs.size,{cls:=.type "list",data:=.seq its.toArray n})]++zON fp s5.heap):=
    mem_append_right _ (mem_append_left _ (by simp))
   have mF: ∀b∈fp, ∀o,s5.heap.get? b=some o->(b,o)∈(yM X sc T idx HH.objs.size s2 H2 fp).pn++([(s2.heap.objs.size,{cls:=.type "list",data:=.seq its.toArray n})]++zON fp s5.heap):=λb hb o e=>
    mem_append_right _ (mem_append_right _ (zLU hb e))
   cases ok with
   |false=>
    rw [iN xF0]at q7 ⊢
    obtain⟨m',hm',w7⟩:=q7
    refine⟨m',hm',i+1,ys,its,n,H7,τ',I7.pins_of (λp hp=>nomatch hp),l6,Tn.keep _ _ _ st5 λb hb o e=>(I7.pin _ (mF b hb o e)).1,λb hb=>?_,(I7.pin _ mD).1,(I7.pin _ mD).2.1,r3,w7⟩
    obtain⟨o,e,d⟩:=Tn.obj _ _ st5 b hb
    exact(I7.pin _ (mF b hb o e)).2.1
   |true=>
    rw [iP rfl]at q7 ⊢
    refine thn (he HH.objs.size s2 H2 fp _ s7 _ H7 _ I7 q7) λy s8 ⟨yv,H8,I8,r8,m',hm',w8⟩=>?_
    have eD8:=(I8.pin _ mD).1
    have nD8:=(I8.pin _ mD).2.1
    have hl:=r3.length
    have q:=PySem.IsL.update eD8 (λz=>z.push y)
    rw [show its.toArray.push y=(its++[y]).toArray by simp]at q
    refine call_meets PySem.F.slot_list_append ⟨_,eD8,rfl⟩ PySem.F.entry_list_append (PySem.F.args_list_append_2 _ _) (PySem.list_append s2.heap.objs.size its.toArray n y (by rw [sA0];omega)) ⟨eD8,?_⟩
    have I9:Inv (yM X sc T idx HH.objs.size s2 H2 fp) [] (τ'++zOP σ idx) H8 s8:=I8.pins_of (λp hp=>nomatch hp)
    have up: ∀b o,b≠s2.heap.objs.size->s8.heap.get? b=some o->(s8.heap.update s2.heap.objs.size (Obj.mapSeq λz=>z.push y)).get? b=some o:=λb o hb e=>(Heap.get?_update_other s8.heap _ (Ne.symm hb)).trans e
    refine⟨m',hm',i+1,ys++[yv],its++[y],_,H8,τ',I9.turned (t':=s8.toks) up nD8 hDC (.inr (le_refl _)) cD (λp hp=>nomatch hp),l6,?_,λb hb=>?_,q,nD8,r3.append (.cons r8 .nil),w8⟩
    ·exact Tn.keep _ _ _ st5 λb hb o e=>up b o (ne_of_lt (hlt b hb)) (I8.pin _ (mF b hb o e)).1
    ·obtain⟨o,e,d⟩:=Tn.obj _ _ st5 b hb
     exact(I8.pin _ (mF b hb o e)).2.1
 exact codeAny_compStart_list (loop _ rfl) (Tn.self X.A 0 _ _ _ (Tn.keep _ _ _ st2 λb _ o e=>old b o e) (loop _ rfl))
theorem yND{elt tg iter:Expr}{ifs:List Expr}{pos:Pos}{sc:Scope}{wi:TI}{g:TG}{tc:Addr->Shared->Hp->List Addr->TT}{te:Addr->Shared->Hp->List Addr->TE}(T:List Str)(idx:List Nat)
  (hi:PI X tg iter wi) (hcalm:X.calm=true) (hB:zPU X.env.scope X.N sc idx=true)
  (hg: ∀C s₂ H1 fp,PG (yM X sc T idx C s₂ H1 fp) tg g)
  (hc: ∀C s₂ H1 fp,yHB (yM X sc T idx C s₂ H1 fp) ifs (tc C s₂ H1 fp))
  (he: ∀C s₂ H1 fp,PE (yM X sc T idx C s₂ H1 fp) elt (te C s₂ H1 fp))
  (hs: ∀x,foldedSetIterable iter X.env x=pure x:=by intro _;rfl):
  PE X (.ListComp elt [⟨tg,iter,ifs,0⟩] sc pos) (yJG wi g tc te T.length idx):=by
 intro pins s σ H Q I h
 rw [eval_ListComp]
 exact zZQ T idx hi hcalm hB hg hc he hs (use:=none) I h λD C s4 H' r J _ ⟨m,hn⟩ q=>⟨m,hn,λh' hs'=>⟨.ref D,H',J h' hs',rfl,q⟩⟩
end
def mkS(x:List Nat):Str:=⟨x.toArray⟩
theorem kZ(x:List Nat):(mkS x).length=x.length:=by simp [mkS,Str.length]
theorem zGN(x:List Nat):(mkS x).cps.toList=x:=by simp [mkS]
theorem zWT{x y:List Nat}(h:mkS x=mkS y):x=y:=by
 have:=congrArg (λs=>s.cps.toList) h
 simpa [mkS]using this
theorem zWU(x y:List Nat):mkS x++mkS y=mkS (x++y):=by
 show Str.append (mkS x) (mkS y)=_
 simp [Str.append,mkS]
theorem yNE(c:Nat):(⟨#[c]⟩:Str)=mkS [c]:=rfl
def wD{α:Type}(xs:List α)(lo hi:Option Int):List α:=(xs.drop (HT.sIx xs.length 0 lo)).take (HT.sIx xs.length xs.length hi - HT.sIx xs.length 0 lo)
theorem strIdx(lo hi:Option Int)(n:Nat):Builtin.Str.strSliceIndices lo hi 1 n=(List.range (HT.sIx n n hi - HT.sIx n 0 lo)).map (HT.sIx n 0 lo+·):=by
 have e1:(match lo with |none=>(if(1:Int)>0 then(0:Int)else(n:Int) - 1)|some i=>if(1:Int)>0 then max 0 (min (if i<0 then i+(n:Int)else i) (n:Int))else max (-1) (min (if i<0 then i+(n:Int)else i) ((n:Int) - 1)))=((HT.sIx n 0 lo:Nat):Int):=by
  cases lo with
  |none=>simp [HT.sIx]
  |some i=>
   simp only [HT.sIx,show(1:Int)>0 by decide,if_true]
   by_cases h:i<0
   ·simp only [h,if_true];omega
   ·simp only [h,iF];omega
 have e2:(match hi with |none=>(if(1:Int)>0 then(n:Int)else -1)|some i=>if(1:Int)>0 then max 0 (min (if i<0 then i+(n:Int)else i) (n:Int))else max (-1) (min (if i<0 then i+(n:Int)else i) ((n:Int) - 1)))=((HT.sIx n n hi:Nat):Int):=by
  cases hi with
  |none=>simp [HT.sIx]
  |some i=>
   simp only [HT.sIx,show(1:Int)>0 by decide,if_true]
   by_cases h:i<0
   ·simp only [h,if_true];omega
   ·simp only [h,iF];omega
 rw [<-sliceRange_one]
 unfold Builtin.Str.strSliceIndices
 dsimp only
 rw [<-e1, <-e2]
 cases lo<;>cases hi<;>rfl
theorem yHD(x:List Nat)(lo hi:Option Int):Txt.slice (mkS x) lo hi=mkS (wD x lo hi):=by
 unfold Txt.slice
 rw [strIdx,kZ]
 have hp:((List.range (HT.sIx x.length x.length hi - HT.sIx x.length 0 lo)).map (HT.sIx x.length 0 lo+·)).filterMap ((mkS x).cps[·]?)=wD x lo hi:=by
  have:=pick_run (mkS x).cps (HT.sIx x.length 0 lo) (HT.sIx x.length x.length hi - HT.sIx x.length 0 lo)
  rw [zGN]at this
  exact this
 rw [hp]
 split
 ·rename_i hc
  rw [aE]at hc
  have hl:HT.sIx x.length x.length hi - HT.sIx x.length 0 lo=x.length:=by simpa using hc.2
  have h2:HT.sIx x.length x.length hi<=x.length:=HT.sIx_le _ _ (le_refl _) _
  have h3:HT.sIx x.length 0 lo<=x.length:=HT.sIx_le _ _ (zero_le _) _
  have e:HT.sIx x.length 0 lo=0:=by omega
  unfold wD
  rw [hl,e]
  simp
 ·rfl
section
variable{X:Cx}
def rSlS:V->Option Int->Option Int->Hp->VK->Prop:=λx lo hi H Q=> ∃cs,x=.str (mkS cs)/\cs.length<=sizeLine/\Q (.str (mkS (wD cs lo hi))) H
theorem yRP:SlR X rSlS:=by
 intro pins s σ H x v vl vu lo hi sl Q I rx hs pl pu h
 obtain⟨cs,rfl,hz,q⟩:=h
 obtain⟨t,rfl⟩:=rx
 have hl:(Txt.slice (mkS cs) lo hi).length<=sizeLine:=le_trans (Txt.slice_le _ _ _) (by rw [kZ];exact hz)
 rw [<-yHD]at q
 refine⟨"str",_,slot_str_getitem.lookup,typeIs_str _ _ _,?_⟩
 obtain⟨o,ho,hc,hd⟩:=hs
 cases pl with
 |none=>
  cases pu with
  |none=>exact wpAny_getItem_str_slice (l:=none) (u:=none) (st:=none) ⟨o,ho,hc,hd⟩ rfl (post_val_or_str ⟨hl,λt' k=>⟨.str _,H,I.tok _,⟨_,rfl⟩,q⟩⟩)
  |int j uj=>exact wpAny_getItem_str_slice (l:=none) (u:=some (j,uj)) (st:=none) ⟨o,ho,hc,hd⟩ rfl (post_val_or_str ⟨hl,λt' k=>⟨.str _,H,I.tok _,⟨_,rfl⟩,q⟩⟩)
 |int i ui=>
  cases pu with
  |none=>exact wpAny_getItem_str_slice (l:=some (i,ui)) (u:=none) (st:=none) ⟨o,ho,hc,hd⟩ rfl (post_val_or_str ⟨hl,λt' k=>⟨.str _,H,I.tok _,⟨_,rfl⟩,q⟩⟩)
  |int j uj=>exact wpAny_getItem_str_slice (l:=some (i,ui)) (u:=some (j,uj)) (st:=none) ⟨o,ho,hc,hd⟩ rfl (post_val_or_str ⟨hl,λt' k=>⟨.str _,H,I.tok _,⟨_,rfl⟩,q⟩⟩)
def zRR(cs:List Nat)(k:Int):List Nat:=(List.replicate k.toNat cs).flatten
theorem zOQ(cs:List Nat): ∀(k:Nat)(acc:List Nat),List.foldl (λx1 x2=>x1++x2) acc.toArray (List.replicate k cs.toArray)=(acc++(List.replicate k cs).flatten).toArray
 |0,acc=>by simp
 |k+1,acc=>by
  rw [replicate_succ,foldl_cons,replicate_succ,flatten_cons, <-aA, <-zOQ cs k (acc++cs)]
  simp
theorem yCS:OpR X (binaryOp .Mult) (λx y H Q=> ∃cs k,x=.str (mkS cs)/\y=.int k/\0<=k/\k<1000/\cs.length<=1000/\Q (.str (mkS (zRR cs k))) H):=by
 intro pins s σ H x y v u Q I rx ry h
 obtain⟨cs,k,rfl,rfl,h0,h1,hc,q⟩:=h
 obtain⟨t,rfl⟩:=rx
 obtain⟨t',rfl⟩:=ry
 have hs:sizeLine=16777216:=sizeLine_eq
 have hprod:cs.length * k.toNat<=1000 * 1000:=mul_le_mul hc (by omega)
 have e: ∀b,Q (.str b) H->b=mkS (zRR cs k)->True:=λ_ _ _=>trivial
 refine PySem.P.mul_str (by rw [dF0 (by omega),dF0 (by omega)];rfl) (λh2 _=>?_) (λ_ _=>?_) ?_
 ·rw [kZ]
  have hk:1<=k:=by omega
  have:(1000:Int)<=(2 ^ 63 - 1) / k:=by
   rw [Int.le_ediv_iff_mul_le (by omega)]
   omega
  omega
 ·rw [kZ]
  unfold PySem.Builtin.Str.tooLong
  exact dF0 (by omega)
 ·have made: ∀(z:Str),z=mkS (zRR cs k)->z.length<=sizeLine->(Made.str z).post (EP X pins σ Q) s:=λz ez hz=>⟨hz,by rw [ez];exact⟨.str _,H,I.tok _,⟨_,rfl⟩,q⟩⟩
  have hlen:(zRR cs k).length=k.toNat * cs.length:=by
   unfold zRR;rw [len_rep]
  by_cases hn:k<1
  ·rw [iP hn]
   have hk:k.toNat=0:=by omega
   refine made _ ?_ (by decide)
   unfold zRR;rw [hk];rfl
  ·rw [iN hn]
   by_cases h3:(k==1 || (mkS cs).length==0)=true
   ·rw [iP h3]
    refine⟨.str (mkS cs),H,I,⟨_,rfl⟩,?_⟩
    have:zRR cs k=cs:=by
     unfold zRR
     rw [or_eq_true]at h3
     rcases h3 with h3|h3
     ·have:k=1:=by simpa using h3
      subst this
      simp
     ·rw [kZ]at h3
      have:cs=[]:=by cases cs with |nil=>rfl|cons _ _=>simp at h3
      subst this
      simp
    rw [this]at q
    exact q
   ·rw [iN h3]
    refine made _ ?_ ?_
    ·unfold zRR mkS
     have:=zOQ cs k.toNat []
     rw [nil_append]at this
     exact congrArg Str.mk this
    ·have e3:(List.foldl (λx1 x2=>x1++x2) #[] (List.replicate k.toNat (mkS cs).cps))=(zRR cs k).toArray:=by
      have:=zOQ cs k.toNat []
      rw [nil_append]at this
      exact this
     show(List.foldl (λx1 x2=>x1++x2) #[] (List.replicate k.toNat (mkS cs).cps)).size<=sizeLine
     rw [e3,sA0,hlen,Nat.mul_comm]
     omega
theorem zWV:CallR X (.builtin "all") (λxs H Q=> ∃(a:Addr)(bs:List Bool),xs=[.ref a]/\SqL X.K H a (bs.map V.bl)/\X.calm=true/\Q (.bl (bs.all id)) H):=by
 intro pins s σ H xs us Q I r h
 obtain⟨a,bs,rfl,hq,hc,q⟩:=h
 obtain⟨u,rfl,ru⟩:=vals1 r
 cases ru
 obtain⟨its,rv,pl,hz⟩:=I.list hq
 have hlen:its.length=bs.length:=by rw [<-rv.length,lM]
 refine PySem.call_all_walk (wpAny_pyIter_list pl.isList ?_)
 have hI:a≠s.heap.objs.size:=by
  obtain⟨o,ho,_⟩:=pl.isList
  exact ne_of_lt (Heap.lt_size ho)
 have I1: ∀(h':Heap)(tk:Nat),(∀b o,b∉[s.heap.objs.size]->(s.heap.push {cls:=.type "list_iterator",data:=.fields #[.ref a,.int 0 0]}).get? b=some o->h'.get? b=some o)->Inv X pins σ H {s with heap:=h',toks:=tk}:=λh' tk k=>
  I.kept λb o e=>k b o (by simpa using ne_of_lt (Heap.lt_size e)) (hP0 _ e)
 refine⟨s.heap.objs.size,[s.heap.objs.size,a],[s.heap.objs.size],its.toArray.size,_,_,λi=>bs.getD i false,rfl,PySem.Walks.list (by first |exact I.ok.hd hc|exact(show X.A.in1.handled=none from I.ok.hd hc)) _ a hI its.toArray,⟨⟨_,Heap.get?_push_size _ rfl,rfl,rfl⟩,pl.isList.at λo e=>hP0 _ e⟩,?_,λh' tk k=>?_⟩
 ·intro i v s' Q' E' hv hQ'
  have hv':its[i]? =some v:=by simpa using hv
  have hi:i<bs.length:=by rw [<-hlen];exact(gS0.mp hv').1
  have hb:(bs.map V.bl)[i]? =some (V.bl (bs.getD i false)):=by
   rw [getElem?_map,gE0 hi]
   simp [getD_eq_getElem?_getD,hi]
  obtain⟨u',hu',rv'⟩:=rv.get hb
  rw [hv']at hu'
  cases hu'
  cases rv'
  exact wpAny_truthy_bool hQ'
 ·refine⟨.bl (bs.all id),H,I1 h' tk k,?_,q⟩
  show Value.bool _=Value.bool _
  congr 1
  rw [sA0,hlen]
  have: ∀(l:List Bool),(List.range l.length).all (λi=>l.getD i false)=l.all id:=by
   intro l
   rw [Bool.eq_iff_iff,all_eq_true,all_eq_true]
   constructor
   ·intro h x hx
    obtain⟨i,hi,rfl⟩:=List.getElem_of_mem hx
    have:=h i (mem_range.mpr hi)
    simpa [getD_eq_getElem?_getD,hi]using this
   ·intro h i hi
    have hi':=mem_range.mp hi
    have:=h l[i] (getElem_mem hi')
    simpa [getD_eq_getElem?_getD,hi']using this
  exact this bs
end
section
variable{X:Cx}
def PU(X:Cx)(e:Expr)(t:TE):Prop:= ∀(i:Nat)(x:Str)(pos' pos:Pos),X.N.Nodup->X.N[i]? =some x->Loc X.env.scope x->(X.fn x=true\/X.env.scope.names.lookup x=some .local)->
 swapsWith e (some (.Name x pos')) pos.line X.env=pure true->PS X (.Assign [.Name x pos'] e pos) (tAsg t (yIQ i))
theorem yNF{elt tg iter:Expr}{ifs:List Expr}{pos:Pos}{sc:Scope}{wi:TI}{g:TG}{tc:Addr->Shared->Hp->List Addr->TT}{te:Addr->Shared->Hp->List Addr->TE}(T:List Str)(idx:List Nat)
  (hi:PI X tg iter wi) (hcalm:X.calm=true) (hB:zPU X.env.scope X.N sc idx=true)
  (hg: ∀C s₂ H1 fp,PG (yM X sc T idx C s₂ H1 fp) tg g)
  (hc: ∀C s₂ H1 fp,yHB (yM X sc T idx C s₂ H1 fp) ifs (tc C s₂ H1 fp))
  (he: ∀C s₂ H1 fp,PE (yM X sc T idx C s₂ H1 fp) elt (te C s₂ H1 fp))
  (hs: ∀x,foldedSetIterable iter X.env x=pure x:=by intro _;rfl):
  PU X (.ListComp elt [⟨tg,iter,ifs,0⟩] sc pos) (yJG wi g tc te T.length idx):=by
 intro i x pos' spos hN hix hx hf hsw pins s σ H D I h
 rw [exec_Assign_Name_used _ _ _ _ hsw]
 refine wB0 (wpAny_standAt (wB0 ?_))
 rw [arm_evalThenUse_ListComp]
 refine wB0 (thn (zZQ T idx hi hcalm hB hg hc he hs (use:=some (assign (.Name x pos') X.env)) (Q':=λ_ s'=> ∃σ' H',Inv X pins σ' H' s'/\D.nx σ' H') I h λDd C s4 H' _ J4 fo hm q=>?_) λ_ s' hq=>wP0 (wP0 hq))
 have I4:=J4 s4.heap (Heap.SameBut.refl _ _)
 refine wpAny_assign_Name (zVI I4 hN hix hx (show RelV (.ref Dd) (.ref Dd)from rfl) (λs' I' ⟨a,hs',ha⟩=>?_) hf)
 obtain⟨m,hm⟩:=hm
 have hCa:C≠a:=by
  rintro rfl
  rcases ha with ha|ha
  ·exact fo.2.1 ha
  ·exact fo.2.2.2.2.1 x _ ha rfl
 refine⟨m,hm.sameBut hs' hCa,λh' hs''=>⟨_,H',?_,q⟩⟩
 exact I'.turned (t':=s'.toks) (λb o hb e=>(hs''.2 b hb).trans e) fo.1 fo.2.1 fo.2.2.2.1 fo.2.2.2.2.1 fo.2.2.2.2.2
end
end L2
namespace L2
namespace M
open PySem PySem.Spec PyProof.Rows
theorem yRQ{A:Around}{s:Shared}{y x:V}{u v:Value}(ry:RelV y u)(rx:RelV x v)(fy:kY y=true)(fx:kY x=true):SeqAt.RcAt A s u v (eqV y x):=by
 cases y with
 |non=>
  cases ry
  cases x with
  |non=>cases rx;exact SeqAt.RcAt.none_none
  |bl b=>cases rx;exact SeqAt.RcAt.none_bool b
  |int b=>obtain⟨t,rfl⟩:=rx;exact SeqAt.RcAt.none_int b t
  |str b=>obtain⟨t,rfl⟩:=rx;exact SeqAt.RcAt.none_str b t
  |_=>exact absurd (show false=true from fx) xF0
 |bl a=>
  cases ry
  cases x with
  |non=>cases rx;exact SeqAt.RcAt.bool_none a
  |bl b=>cases rx;exact SeqAt.RcAt.bool_bool a b
  |int b=>obtain⟨t,rfl⟩:=rx;exact SeqAt.RcAt.bool_int a b t
  |str b=>obtain⟨t,rfl⟩:=rx;exact SeqAt.RcAt.bool_str a b t
  |_=>exact absurd (show false=true from fx) xF0
 |int a=>
  obtain⟨t',rfl⟩:=ry
  cases x with
  |non=>cases rx;exact SeqAt.RcAt.int_none a t'
  |bl b=>cases rx;exact SeqAt.RcAt.int_bool a t' b
  |int b=>obtain⟨t,rfl⟩:=rx;exact SeqAt.RcAt.int_int a t' b t
  |str b=>obtain⟨t,rfl⟩:=rx;exact SeqAt.RcAt.int_str a t' b t
  |_=>exact absurd (show false=true from fx) xF0
 |str a=>
  obtain⟨t',rfl⟩:=ry
  cases x with
  |non=>cases rx;exact SeqAt.RcAt.str_none a t'
  |bl b=>cases rx;exact SeqAt.RcAt.str_bool a t' b
  |int b=>obtain⟨t,rfl⟩:=rx;exact SeqAt.RcAt.str_int a t' b t
  |str b=>obtain⟨t,rfl⟩:=rx;exact SeqAt.RcAt.str_str a t' b t
  |_=>exact absurd (show false=true from fx) xF0
 |_=>exact absurd (show false=true from fy) xF0
theorem yRR{A:Around}{s:Shared}{y x:V}{u v:Value}(ry:RelV y u)(rx:RelV x v)(fy:kY y=true)(fx:kY x=true):SeqAt.RcNeAt A s u v (!eqV y x):=by
 cases y with
 |non=>
  cases ry
  cases x with
  |non=>cases rx;exact SeqAt.RcNeAt.none_none
  |bl b=>cases rx;exact SeqAt.RcNeAt.none_bool b
  |int b=>obtain⟨t,rfl⟩:=rx;exact SeqAt.RcNeAt.none_int b t
  |str b=>obtain⟨t,rfl⟩:=rx;exact SeqAt.RcNeAt.none_str b t
  |_=>exact absurd (show false=true from fx) xF0
 |bl a=>
  cases ry
  cases x with
  |non=>cases rx;exact SeqAt.RcNeAt.bool_none a
  |bl b=>cases rx;exact SeqAt.RcNeAt.bool_bool a b
  |int b=>obtain⟨t,rfl⟩:=rx;exact SeqAt.RcNeAt.bool_int a b t
  |str b=>obtain⟨t,rfl⟩:=rx;exact SeqAt.RcNeAt.bool_str a b t
  |_=>exact absurd (show false=true from fx) xF0
 |int a=>
  obtain⟨t',rfl⟩:=ry
  cases x with
  |non=>cases rx;exact SeqAt.RcNeAt.int_none a t'
  |bl b=>cases rx;exact SeqAt.RcNeAt.int_bool a t' b
  |int b=>obtain⟨t,rfl⟩:=rx;exact SeqAt.RcNeAt.int_int a t' b t
  |str b=>obtain⟨t,rfl⟩:=rx;exact SeqAt.RcNeAt.int_str a t' b t
  |_=>exact absurd (show false=true from fx) xF0
 |str a=>
  obtain⟨t',rfl⟩:=ry
  cases x with
  |non=>cases rx;exact SeqAt.RcNeAt.str_none a t'
  |bl b=>cases rx;exact SeqAt.RcNeAt.str_bool a t' b
  |int b=>obtain⟨t,rfl⟩:=rx;exact SeqAt.RcNeAt.str_int a t' b t
  |str b=>obtain⟨t,rfl⟩:=rx;exact SeqAt.RcNeAt.str_str a t' b t
  |_=>exact absurd (show false=true from fx) xF0
 |_=>exact absurd (show false=true from fy) xF0
theorem eq_ll{A:Around}{s:Shared}{x:V}{v:Value}{l:Addr}{items:Array Value}(rx:RelV x v)(fx:kY x=true)(hl:s.heap.IsList l items)(hu:A.units<cLine):SeqAt.EqAt A s (.ref l) v false:=by
 cases x with
 |non=>cases rx;exact SeqAt.EqAt.list_none hl hu
 |bl b=>cases rx;exact SeqAt.EqAt.list_bool b hl hu
 |int b=>obtain⟨t,rfl⟩:=rx;exact SeqAt.EqAt.list_int b t hl hu
 |str b=>obtain⟨t,rfl⟩:=rx;exact SeqAt.EqAt.list_str b t hl hu
 |_=>exact absurd (show false=true from fx) xF0
theorem eq_lr{A:Around}{s:Shared}{x:V}{v:Value}{l:Addr}{items:Array Value}(rx:RelV x v)(fx:kY x=true)(hl:s.heap.IsList l items)(hu:A.units<cLine):SeqAt.EqAt A s v (.ref l) false:=by
 cases x with
 |non=>cases rx;exact SeqAt.EqAt.none_list hl hu
 |bl b=>cases rx;exact SeqAt.EqAt.bool_list b hl hu
 |int b=>obtain⟨t,rfl⟩:=rx;exact SeqAt.EqAt.int_list b t hl hu
 |str b=>obtain⟨t,rfl⟩:=rx;exact SeqAt.EqAt.str_list b t hl hu
 |_=>exact absurd (show false=true from fx) xF0
theorem eq_tl{A:Around}{s:Shared}{x:V}{v:Value}{l:Addr}{items:Array Value}(rx:RelV x v)(fx:kY x=true)(hl:s.heap.IsTuple l items)(hu:A.units<cLine):SeqAt.EqAt A s (.ref l) v false:=by
 cases x with
 |non=>cases rx;exact SeqAt.EqAt.tuple_none hl hu
 |bl b=>cases rx;exact SeqAt.EqAt.tuple_bool b hl hu
 |int b=>obtain⟨t,rfl⟩:=rx;exact SeqAt.EqAt.tuple_int b t hl hu
 |str b=>obtain⟨t,rfl⟩:=rx;exact SeqAt.EqAt.tuple_str b t hl hu
 |_=>exact absurd (show false=true from fx) xF0
theorem eq_tr{A:Around}{s:Shared}{x:V}{v:Value}{l:Addr}{items:Array Value}(rx:RelV x v)(fx:kY x=true)(hl:s.heap.IsTuple l items)(hu:A.units<cLine):SeqAt.EqAt A s v (.ref l) false:=by
 cases x with
 |non=>cases rx;exact SeqAt.EqAt.none_tuple hl hu
 |bl b=>cases rx;exact SeqAt.EqAt.bool_tuple b hl hu
 |int b=>obtain⟨t,rfl⟩:=rx;exact SeqAt.EqAt.int_tuple b t hl hu
 |str b=>obtain⟨t,rfl⟩:=rx;exact SeqAt.EqAt.str_tuple b t hl hu
 |_=>exact absurd (show false=true from fx) xF0
theorem rc_ll{A:Around}{s:Shared}{x:V}{v:Value}{l:Addr}{items:Array Value}(rx:RelV x v)(fx:kY x=true)(hl:s.heap.IsList l items)(hu:A.units<cLine):SeqAt.RcAt A s (.ref l) v false:=by
 cases x with
 |non=>cases rx;exact SeqAt.RcAt.list_none hl hu
 |bl b=>cases rx;exact SeqAt.RcAt.list_bool b hl hu
 |int b=>obtain⟨t,rfl⟩:=rx;exact SeqAt.RcAt.list_int b t hl hu
 |str b=>obtain⟨t,rfl⟩:=rx;exact SeqAt.RcAt.list_str b t hl hu
 |_=>exact absurd (show false=true from fx) xF0
theorem rc_lr{A:Around}{s:Shared}{x:V}{v:Value}{l:Addr}{items:Array Value}(rx:RelV x v)(fx:kY x=true)(hl:s.heap.IsList l items)(hu:A.units<cLine):SeqAt.RcAt A s v (.ref l) false:=by
 cases x with
 |non=>cases rx;exact SeqAt.RcAt.none_list hl hu
 |bl b=>cases rx;exact SeqAt.RcAt.bool_list b hl hu
 |int b=>obtain⟨t,rfl⟩:=rx;exact SeqAt.RcAt.int_list b t hl hu
 |str b=>obtain⟨t,rfl⟩:=rx;exact SeqAt.RcAt.str_list b t hl hu
 |_=>exact absurd (show false=true from fx) xF0
theorem rc_tl{A:Around}{s:Shared}{x:V}{v:Value}{l:Addr}{items:Array Value}(rx:RelV x v)(fx:kY x=true)(hl:s.heap.IsTuple l items)(hu:A.units<cLine):SeqAt.RcAt A s (.ref l) v false:=by
 cases x with
 |non=>cases rx;exact SeqAt.RcAt.tuple_none hl hu
 |bl b=>cases rx;exact SeqAt.RcAt.tuple_bool b hl hu
 |int b=>obtain⟨t,rfl⟩:=rx;exact SeqAt.RcAt.tuple_int b t hl hu
 |str b=>obtain⟨t,rfl⟩:=rx;exact SeqAt.RcAt.tuple_str b t hl hu
 |_=>exact absurd (show false=true from fx) xF0
theorem rc_tr{A:Around}{s:Shared}{x:V}{v:Value}{l:Addr}{items:Array Value}(rx:RelV x v)(fx:kY x=true)(hl:s.heap.IsTuple l items)(hu:A.units<cLine):SeqAt.RcAt A s v (.ref l) false:=by
 cases x with
 |non=>cases rx;exact SeqAt.RcAt.none_tuple hl hu
 |bl b=>cases rx;exact SeqAt.RcAt.bool_tuple b hl hu
 |int b=>obtain⟨t,rfl⟩:=rx;exact SeqAt.RcAt.int_tuple b t hl hu
 |str b=>obtain⟨t,rfl⟩:=rx;exact SeqAt.RcAt.str_tuple b t hl hu
 |_=>exact absurd (show false=true from fx) xF0
theorem rn_ll{A:Around}{s:Shared}{x:V}{v:Value}{l:Addr}{items:Array Value}(rx:RelV x v)(fx:kY x=true)(hl:s.heap.IsList l items)(hu:A.units<cLine):SeqAt.RcNeAt A s (.ref l) v true:=by
 cases x with
 |non=>cases rx;exact SeqAt.RcNeAt.list_none hl hu
 |bl b=>cases rx;exact SeqAt.RcNeAt.list_bool b hl hu
 |int b=>obtain⟨t,rfl⟩:=rx;exact SeqAt.RcNeAt.list_int b t hl hu
 |str b=>obtain⟨t,rfl⟩:=rx;exact SeqAt.RcNeAt.list_str b t hl hu
 |_=>exact absurd (show false=true from fx) xF0
theorem rn_lr{A:Around}{s:Shared}{x:V}{v:Value}{l:Addr}{items:Array Value}(rx:RelV x v)(fx:kY x=true)(hl:s.heap.IsList l items)(hu:A.units<cLine):SeqAt.RcNeAt A s v (.ref l) true:=by
 cases x with
 |non=>cases rx;exact SeqAt.RcNeAt.none_list hl hu
 |bl b=>cases rx;exact SeqAt.RcNeAt.bool_list b hl hu
 |int b=>obtain⟨t,rfl⟩:=rx;exact SeqAt.RcNeAt.int_list b t hl hu
 |str b=>obtain⟨t,rfl⟩:=rx;exact SeqAt.RcNeAt.str_list b t hl hu
 |_=>exact absurd (show false=true from fx) xF0
theorem rn_tl{A:Around}{s:Shared}{x:V}{v:Value}{l:Addr}{items:Array Value}(rx:RelV x v)(fx:kY x=true)(hl:s.heap.IsTuple l items)(hu:A.units<cLine):SeqAt.RcNeAt A s (.ref l) v true:=by
 cases x with
 |non=>cases rx;exact SeqAt.RcNeAt.tuple_none hl hu
 |bl b=>cases rx;exact SeqAt.RcNeAt.tuple_bool b hl hu
 |int b=>obtain⟨t,rfl⟩:=rx;exact SeqAt.RcNeAt.tuple_int b t hl hu
 |str b=>obtain⟨t,rfl⟩:=rx;exact SeqAt.RcNeAt.tuple_str b t hl hu
 |_=>exact absurd (show false=true from fx) xF0
theorem rn_tr{A:Around}{s:Shared}{x:V}{v:Value}{l:Addr}{items:Array Value}(rx:RelV x v)(fx:kY x=true)(hl:s.heap.IsTuple l items)(hu:A.units<cLine):SeqAt.RcNeAt A s v (.ref l) true:=by
 cases x with
 |non=>cases rx;exact SeqAt.RcNeAt.none_tuple hl hu
 |bl b=>cases rx;exact SeqAt.RcNeAt.bool_tuple b hl hu
 |int b=>obtain⟨t,rfl⟩:=rx;exact SeqAt.RcNeAt.int_tuple b t hl hu
 |str b=>obtain⟨t,rfl⟩:=rx;exact SeqAt.RcNeAt.str_tuple b t hl hu
 |_=>exact absurd (show false=true from fx) xF0
theorem yJK{y:V}(h:kY y=true):eqV y y=true:=by
 cases y<;>first |rfl|(simp [eqV];done)|exact absurd (show false=true from h) xF0
section
variable{prog:Program}{w:World}(knd:KeyKind prog w Key)




variable{knd}


end
section
variable{prog:Program}{w:World}
abbrev mk(prog:Program)(w:World):KeyKind prog w Key:=zQT prog w
end
end M
end L2
namespace L2
open PySem PySem.Spec PyProof.Rows
def Fly(h:Heap)(e T:Addr)(cls:Value)(d:Option Addr)(fl:Value):Prop:=
 ∃oe vs oT ts,h.get? e=some oe/\oe.cls=cls/\oe.dict=d/\oe.data=.fields vs/\vs[1]? =some (.ref T)/\T≠e/\h.get? T=some oT/\oT.data=.fields ts/\ts[3]? =some fl
structure Mvd(fs:List Addr)(e T:Addr)(h h':Heap):Prop where
 keep: ∀b o,b≠e->b≠T->b∉fs->h.get? b=some o->h'.get? b=some o
 slot: ∀b o,b≠e->b≠T->h.get? b=some o-> ∃sl,h'.get? b=some {o with slots:=sl}
 there: ∀b o,h.get? b=some o-> ∃o',h'.get? b=some o'
theorem Mvd.new{fs:List Addr}{e T T':Addr}{h h1 h2:Heap}(a:Mvd fs e T h h1)(n:h.get? T'=none)(b:Mvd fs e T' h1 h2):Mvd fs e T h h2:=by
 have ne: ∀c o,h.get? c=some o->c≠T':=λc o q z=>by rw [z,n]at q;cases q
 exact⟨λc o h1 h2 h3 q=>b.keep c o h1 (ne c o q) h3 (a.keep c o h1 h2 h3 q),λc o h1 h2 q=>by
  obtain⟨sl,e1⟩:=a.slot c o h1 h2 q
  obtain⟨sl',e2⟩:=b.slot c _ h1 (ne c o q) e1
  exact⟨sl',e2⟩,λc o q=>let ⟨o',e1⟩:=a.there c o q;b.there c o' e1⟩
def CXe(P:Program)(w:World):CXT:=λouter H s E x s'=> ∃e T C d H',x=.ref e/\s'.os=s.os/\AllBare s'.gens/\Un (frs outer) [] H H' s.heap s'.heap/\HOk P w H' s'.heap/\Fly s'.heap e T (.ref C) d .none/\
 s.heap.get? e=none/\s.heap.get? T=none/\H' e=none/\H' T=none/\E (.ref C) d H'
abbrev bmV:List Value:=[.type "ValueError",.type "Exception",.type "BaseException",.type "object"]
def qn:List Str:=["__class__","__getattribute__","__getattr__","__setattr__","place","number"]
end L2
namespace L2
namespace M
open PySem PySem.Spec PyProof.Rows
inductive MV where
 |non|bl (b:Bool)|int (i:Int)|str (x:List Nat)|tup (ds:List MV)|scr (ds:List MV)|loc (l:Nat)|typ (n:String)|obj (c:Str) (ns:List Str) (ds:List MV)
instance:Inhabited MV:=⟨.non⟩
inductive MO where
 |lst (ds:List MV)|dic (kvs:List (MV×MV))|ins (c:Str) (fs:List (Str×MV))
abbrev Sto:=List MO
def SqF(K:PySem.W.Frag)(H:Hp)(a:Addr)(xs:List V):Prop:=
 (∃o,H a=some (.frz o (.lst xs)))\/
  ∃(o:Obj)(its:Array Value)(n:Nat),K.lookup a=some o/\o.cls=.type "list"/\o.dict=none/\o.data=.seq its n/\its.size<=sizeLine/\Vals xs its.toList
theorem SqF.l{K:PySem.W.Frag}{H:Hp}{a:Addr}{xs:List V}(h:SqF K H a xs):SqL K H a xs:=by
 rcases h with⟨o,h⟩|h
 ·exact .inl (.inr ⟨o,h⟩)
 ·exact .inr h
mutual
def Den(K:PySem.W.Frag)(α:List Addr)(H:Hp):MV->V->Prop
 |.non,v=>v=.non
 |.bl b,v=>v=.bl b
 |.int i,v=>v=.int i
 |.str x,v=>v=.str (mkS x)
 |.tup ds,v=> ∃a vs,v=.ref a/\SqT K H a vs/\DenL K α H ds vs
 |.scr ds,v=> ∃a vs,v=.ref a/\SqF K H a vs/\DenL K α H ds vs
 |.loc l,v=> ∃a,v=.ref a/\α[l]? =some a
 |.typ n,v=>v=.ty n
 |.obj c ns ds,v=> ∃a C dx vs o,v=.ref a/\H a=some (.frz o (.ins C dx (ns.zip vs)))/\PySem.W.nsIn K mainGlobals c=some (some (.ref C))/\(PySem.W.clsIn K C).map (·.name)=some c/\ns.length=vs.length/\DenL K α H ds vs
def DenL(K:PySem.W.Frag)(α:List Addr)(H:Hp):List MV->List V->Prop
 |[],vs=>vs=[]
 |d::ds,vs=> ∃v r,vs=v::r/\Den K α H d v/\DenL K α H ds r
end

structure Ex0(α:List Addr)(H:Hp)(α':List Addr)(H':Hp):Prop where
 pre: ∃t,α'=α++t
 tup: ∀b xs,H b=some (.tup xs)->H' b=some (.tup xs)
 frz: ∀b o u,H b=some (.frz o u)->H' b=some (.frz o u)
structure Ext(α:List Addr)(H:Hp)(α':List Addr)(H':Hp):Prop extends Ex0 α H α' H' where
 new: ∀b∈α',b∈α\/H b=none
 keep: ∀b o,H b=some o->b∉α->H' b=some o
 has: ∀b o,H b=some o-> ∃o',H' b=some o'
section
variable{K:PySem.W.Frag}{α α' α'':List Addr}{H H' H'':Hp}
theorem Ext.refl(α:List Addr)(H:Hp):Ext α H α H:=⟨⟨⟨[],by simp⟩,λ_ _ h=>h,λ_ _ _ h=>h⟩,λb h=>.inl h,λ_ _ h _=>h,λ_ o h=>⟨o,h⟩⟩
theorem Ex0.grow(α t:List Addr)(H:Hp):Ex0 α H (α++t) H:=⟨⟨t,rfl⟩,λ_ _ h=>h,λ_ _ _ h=>h⟩
theorem Ext.free(x:Ext α H α' H'){b:Addr}(h:H' b=none):H b=none:=by
 cases e:H b with
 |none=>rfl
 |some o=>obtain⟨o',h'⟩:=x.has b o e;rw [h]at h';cases h'
theorem Ext.out(x:Ext α H α' H'){b:Addr}{o:HO}(h:H b=some o)(n:b∉α):b∉α':=λz=>by
 rcases x.new b z with z|z
 ·exact n z
 ·rw [h]at z;cases z
theorem Ext.trans(x:Ext α H α' H')(y:Ext α' H' α'' H''):Ext α H α'' H'' where
 pre:=by
  obtain⟨t,rfl⟩:=x.pre
  obtain⟨u,rfl⟩:=y.pre
  exact⟨t++u,by rw [aA]⟩
 new:=λb h=>(y.new b h).elim (x.new b) λz=>.inr (x.free z)
 keep:=λb o h n=>y.keep b o (x.keep b o h n) (x.out h n)
 has:=λb o h=>let ⟨o',h'⟩:=x.has b o h;y.has b o' h'
 tup:=λb xs h=>y.tup b xs (x.tup b xs h)
 frz:=λb o u h=>y.frz b o u (x.frz b o u h)
theorem Ex0.at(x:Ex0 α H α' H'){l:Nat}{a:Addr}(h:α[l]? =some a):α'[l]? =some a:=by
 obtain⟨t,rfl⟩:=x.pre
 rw [getElem?_append_left (gS0.mp h).1]
 exact h
theorem Ex0.sqT(x:Ex0 α H α' H'){a:Addr}{vs:List V}(q:SqT K H a vs):SqT K H' a vs:=by
 rcases q with(q|⟨o,q⟩)|q
 ·exact .inl (.inl (x.tup a vs q))
 ·exact .inl (.inr ⟨o,x.frz a o _ q⟩)
 ·exact .inr q
theorem Ex0.sqF(x:Ex0 α H α' H'){a:Addr}{vs:List V}(q:SqF K H a vs):SqF K H' a vs:=by
 rcases q with⟨o,q⟩|q
 ·exact .inl ⟨o,x.frz a o _ q⟩
 ·exact .inr q
mutual
theorem Den.ex0(x:Ex0 α H α' H'): ∀{d:MV}{v:V},Den K α H d v->Den K α' H' d v
 |.non,_,q=>by unfold Den at q ⊢; exact q
 |.bl _,_,q=>by unfold Den at q ⊢; exact q
 |.int _,_,q=>by unfold Den at q ⊢; exact q
 |.str _,_,q=>by unfold Den at q ⊢; exact q
 |.typ _,_,q=>by unfold Den at q ⊢; exact q
 |.obj c ns ds,_,q=>by
  unfold Den at q ⊢
  obtain⟨a,C,dx,vs,o,e,h,hn,hc,hl,l⟩:=q
  exact⟨a,C,dx,vs,o,e,x.frz a _ _ h,hn,hc,hl,DenL.ex0 x l⟩
 |.loc _,_,q=>by
  unfold Den at q ⊢
  obtain⟨a,e,h⟩:=q
  exact⟨a,e,x.at h⟩
 |.tup ds,_,q=>by
  unfold Den at q ⊢
  obtain⟨a,vs,e,s,l⟩:=q
  exact⟨a,vs,e,x.sqT s,DenL.ex0 x l⟩
 |.scr ds,_,q=>by
  unfold Den at q ⊢
  obtain⟨a,vs,e,s,l⟩:=q
  exact⟨a,vs,e,x.sqF s,DenL.ex0 x l⟩
theorem DenL.ex0(x:Ex0 α H α' H'): ∀{ds:List MV}{vs:List V},DenL K α H ds vs->DenL K α' H' ds vs
 |[],_,q=>by unfold DenL at q ⊢; exact q
 |d::ds,_,q=>by
  unfold DenL at q ⊢
  obtain⟨v,r,e,a,l⟩:=q
  exact⟨v,r,e,Den.ex0 x a,DenL.ex0 x l⟩
end

theorem Den.ext(x:Ext α H α' H'){d:MV}{v:V}(q:Den K α H d v):Den K α' H' d v:=q.ex0 x.toEx0
theorem DenL.ext(x:Ext α H α' H'){d:List MV}{v:List V}(q:DenL K α H d v):DenL K α' H' d v:=q.ex0 x.toEx0
theorem zWW:Den K α H .non .non:=by unfold Den;rfl
theorem dD(b:Bool):Den K α H (.bl b) (.bl b):=by unfold Den;rfl
theorem jL(i:Int):Den K α H (.int i) (.int i):=by unfold Den;rfl
theorem zGO(x:List Nat):Den K α H (.str x) (.str (mkS x)):=by unfold Den;rfl
theorem yEL(n:String):Den K α H (.typ n) (.ty n):=by unfold Den;rfl
theorem zGP{ds:List MV}{a:Addr}{vs:List V}(s:SqT K H a vs)(l:DenL K α H ds vs):Den K α H (.tup ds) (.ref a):=by unfold Den;exact⟨a,vs,rfl,s,l⟩
theorem yEM{ds:List MV}{a:Addr}{vs:List V}(s:SqF K H a vs)(l:DenL K α H ds vs):Den K α H (.scr ds) (.ref a):=by unfold Den;exact⟨a,vs,rfl,s,l⟩
theorem zWX{l:Nat}{a:Addr}(h:α[l]? =some a):Den K α H (.loc l) (.ref a):=by unfold Den;exact⟨a,rfl,h⟩
theorem zBZ{v:V}(d:Den K α H .non v):v=.non:=by unfold Den at d;exact d
theorem zGA{b:Bool}{v:V}(d:Den K α H (.bl b) v):v=.bl b:=by unfold Den at d;exact d
theorem kX{i:Int}{v:V}(d:Den K α H (.int i) v):v=.int i:=by unfold Den at d;exact d
theorem wF{x:List Nat}{v:V}(d:Den K α H (.str x) v):v=.str (mkS x):=by unfold Den at d;exact d
theorem yEN{c:Str}{ns:List Str}{ds:List MV}{a C dx:Addr}{vs:List V}{o:Obj}(h:H a=some (.frz o (.ins C dx (ns.zip vs))))(hn:PySem.W.nsIn K mainGlobals c=some (some (.ref C)))(hc:(PySem.W.clsIn K C).map (·.name)=some c)(hl:ns.length=vs.length)(l:DenL K α H ds vs):Den K α H (.obj c ns ds) (.ref a):=by unfold Den;exact⟨a,C,dx,vs,o,rfl,h,hn,hc,hl,l⟩
theorem dE{c:Str}{ns:List Str}{ds:List MV}{v:V}(d:Den K α H (.obj c ns ds) v): ∃a C dx vs o,v=.ref a/\H a=some (.frz o (.ins C dx (ns.zip vs)))/\PySem.W.nsIn K mainGlobals c=some (some (.ref C))/\(PySem.W.clsIn K C).map (·.name)=some c/\ns.length=vs.length/\DenL K α H ds vs:=by unfold Den at d;exact d
theorem zAD{n:String}{v:V}(d:Den K α H (.typ n) v):v=.ty n:=by unfold Den at d;exact d
theorem wG{ds:List MV}{v:V}(d:Den K α H (.tup ds) v): ∃a vs,v=.ref a/\SqT K H a vs/\DenL K α H ds vs:=by unfold Den at d;exact d
theorem dF{ds:List MV}{v:V}(d:Den K α H (.scr ds) v): ∃a vs,v=.ref a/\SqF K H a vs/\DenL K α H ds vs:=by unfold Den at d;exact d
theorem bU{l:Nat}{v:V}(d:Den K α H (.loc l) v): ∃a,v=.ref a/\α[l]? =some a:=by unfold Den at d;exact d
theorem xV:DenL K α H [] []:=by unfold DenL;rfl
theorem xD{d:MV}{v:V}{ds:List MV}{vs:List V}(a:Den K α H d v)(l:DenL K α H ds vs):DenL K α H (d::ds) (v::vs):=by unfold DenL;exact⟨v,vs,rfl,a,l⟩
theorem DenL.uncons{d:MV}{ds:List MV}{vs:List V}(l:DenL K α H (d::ds) vs): ∃v r,vs=v::r/\Den K α H d v/\DenL K α H ds r:=by unfold DenL at l;exact l
theorem DenL.isnil{vs:List V}(l:DenL K α H [] vs):vs=[]:=by unfold DenL at l;exact l
theorem DenL.length: ∀{ds:List MV}{vs:List V},DenL K α H ds vs->vs.length=ds.length
 |[],_,q=>by rw [q.isnil];rfl
 |d::ds,_,q=>by
  obtain⟨v,r,rfl,_,l⟩:=q.uncons
  rw [lC,lC,DenL.length l]
theorem DenL.append: ∀{ds es:List MV}{vs us:List V},DenL K α H ds vs->DenL K α H es us->DenL K α H (ds++es) (vs++us)
 |[],_,_,_,q,l=>by rw [q.isnil];exact l
 |d::ds,_,_,_,q,l=>by
  obtain⟨v,r,rfl,a,l'⟩:=q.uncons
  exact xD a (DenL.append l' l)
theorem DenL.drop: ∀{ds:List MV}{vs:List V}(n:Nat),DenL K α H ds vs->DenL K α H (ds.drop n) (vs.drop n)
 |_,_,0,q=>q
 |[],_,n+1,q=>by rw [q.isnil];exact xV
 |d::ds,_,n+1,q=>by
  obtain⟨v,r,rfl,_,l⟩:=q.uncons
  exact DenL.drop n l
theorem DenL.take: ∀{ds:List MV}{vs:List V}(n:Nat),DenL K α H ds vs->DenL K α H (ds.take n) (vs.take n)
 |_,_,0,q=>xV
 |[],_,n+1,q=>by rw [q.isnil];exact xV
 |d::ds,_,n+1,q=>by
  obtain⟨v,r,rfl,a,l⟩:=q.uncons
  exact xD a (DenL.take n l)
theorem DenL.set{d:MV}{v:V}(a:Den K α H d v): ∀{ds:List MV}{vs:List V}(n:Nat),DenL K α H ds vs->DenL K α H (ds.set n d) (vs.set n v)
 |[],_,_,q=>by rw [q.isnil];exact xV
 |e::ds,_,0,q=>by
  obtain⟨v',r,rfl,a',l⟩:=q.uncons
  exact xD a l
 |e::ds,_,n+1,q=>by
  obtain⟨v',r,rfl,a',l⟩:=q.uncons
  exact xD a' (DenL.set a n l)
theorem DenL.get: ∀{ds:List MV}{vs:List V}{i:Nat}{v:V},DenL K α H ds vs->vs[i]? =some v-> ∃d,ds[i]? =some d/\Den K α H d v
 |[],_,_,_,q,e=>by rw [q.isnil]at e;simp at e
 |d::ds,_,0,_,q,e=>by
  obtain⟨v,r,rfl,a,l⟩:=q.uncons
  simp at e;subst e
  exact⟨d,rfl,a⟩
 |d::ds,_,i+1,_,q,e=>by
  obtain⟨v,r,rfl,a,l⟩:=q.uncons
  obtain⟨d',h1,h2⟩:=DenL.get (i:=i) l (by simpa using e)
  exact⟨d',by simpa using h1,h2⟩
theorem DenL.at{ds:List MV}{vs:List V}{i:Nat}{d:MV}(q:DenL K α H ds vs)(e:ds[i]? =some d): ∃v,vs[i]? =some v/\Den K α H d v:=by
 have hi:i<ds.length:=(gS0.mp e).1
 have hv:i<vs.length:=by rw [q.length];exact hi
 obtain⟨d',h1,h2⟩:=q.get (gE0 hv)
 rw [e]at h1;cases h1
 exact⟨_,gE0 hv,h2⟩
theorem DenL.cut{ds:List MV}{vs:List V}(q:DenL K α H ds vs)(lo hi:Option Int):DenL K α H (wD ds lo hi) (zZN vs lo hi):=by
 unfold wD zZN
 rw [q.length]
 exact(q.drop _).take _
theorem zOR: ∀(ns:List Int),DenL K α H (ns.map MV.int) (ns.map V.int)
 |[]=>xV
 |b::bs=>xD (jL b) (zOR bs)
end
structure Gm where
 K:PySem.W.Frag
 mg:Str->Option Value
 P:Program
 w:World
abbrev _root_.L2.Cx.g(X:Cx):Gm:=⟨X.K,X.mg,X.prog,X.w⟩
inductive DenF(K:PySem.W.Frag)(α:List Addr)(H:Hp):List (Str×MV)->List (Str×V)->Prop
 |nil:DenF K α H [] []
 |cons {x:Str} {d:MV} {v:V} {fs gs}:Den K α H d v->DenF K α H fs gs->DenF K α H ((x,d)::fs) ((x,v)::gs)
theorem DenF.ex0{K:PySem.W.Frag}{α α':List Addr}{H H':Hp}(x:Ex0 α H α' H'): ∀{fs gs},DenF K α H fs gs->DenF K α' H' fs gs
 |_,_,.nil=>.nil
 |_,_,.cons a l=>.cons (a.ex0 x) (DenF.ex0 x l)

def ObD(g:Gm)(α:List Addr)(H:Hp)(a:Addr):MO->Prop
 |.lst ds=> ∃vs,H a=some (.lst vs)/\DenL g.K α H ds vs
 |.dic _=>False
 |.ins c fs=> ∃C gs,g.mg c=some (.ref C)/\DenF g.K α H fs gs/\
   ∃oe,H a=some (.ext λh=>h.get? a=some oe)/\oe.cls=.ref C/\(fs=[]\/ ∃dx od,oe.dict=some dx/\H dx=some (.frz od (.xd gs))/\ ∃vs,oe.data=.fields vs)
theorem ObD.there{g:Gm}{α:List Addr}{H:Hp}{a:Addr}{o:MO}(h:ObD g α H a o): ∃ho,H a=some ho/\(∀xs,ho≠.tup xs)/\ ∀ob u,ho≠.frz ob u:=by
 cases o with
 |lst ds=>obtain⟨vs,h,_⟩:=h;exact⟨_,h,(λxs z=>by cases z),λ_ _ z=>by cases z⟩
 |dic ds=>exact False.elim h
 |ins c ds=>
  obtain⟨_,_,_,_,_,h,_⟩:=h
  exact⟨_,h,(λxs z=>by cases z),λ_ _ z=>by cases z⟩
theorem ObD.move{g:Gm}{α α':List Addr}{H H':Hp}{a:Addr}{o:MO}(h:ObD g α H a o)(x:Ex0 α H α' H')(e:H' a=H a):ObD g α' H' a o:=by
 cases o with
 |lst ds=>obtain⟨vs,h,l⟩:=h;exact⟨vs,e.trans h,l.ex0 x⟩
 |dic ds=>exact False.elim h
 |ins c ds=>
  obtain⟨C,gs,m,l,oe,h,hc,hf⟩:=h
  exact⟨C,gs,m,l.ex0 x,oe,e.trans h,hc,hf.imp id λ⟨dx,od,h1,h2,h3⟩=>⟨dx,od,h1,x.frz _ _ _ h2,h3⟩⟩
structure Wd(g:Gm)(α:List Addr)(S:Sto)(H:Hp):Prop where
 len:α.length=S.length
 nd:α.Nodup
 obj: ∀(l:Nat)(a:Addr)(o:MO),α[l]? =some a->S[l]? =some o->ObD g α H a o
section
variable{g:Gm}{α α':List Addr}{S S':Sto}{H H':Hp}
theorem Wd.at(w:Wd g α S H){l:Nat}{o:MO}(h:S[l]? =some o): ∃a,α[l]? =some a/\ObD g α H a o:=by
 have hl:l<α.length:=by rw [w.len];exact(gS0.mp h).1
 exact⟨α[l],gE0 hl,w.obj l _ o (gE0 hl) h⟩
theorem Wd.of(w:Wd g α S H){l:Nat}{a:Addr}(h:α[l]? =some a): ∃o,S[l]? =some o/\ObD g α H a o:=by
 have hl:l<S.length:=by rw [<-w.len];exact(gS0.mp h).1
 exact⟨S[l],gE0 hl,w.obj l a _ h (gE0 hl)⟩
theorem Wd.mem(w:Wd g α S H){a:Addr}(h:a∈α): ∃ho,H a=some ho/\(∀xs,ho≠.tup xs)/\ ∀ob u,ho≠.frz ob u:=by
 obtain⟨l,hl⟩:=getElem?_of_mem h
 obtain⟨o,_,q⟩:=w.of hl
 exact q.there
theorem Wd.newx(w:Wd g α S H){p:Addr}{o:HO}(hp:H p=none):Ext α H α (upd H p o) where
 pre:=⟨[],by simp⟩
 new:=λb h=>.inl h
 keep:=λb o h _=>by rw [zZ (yK h hp)];exact h
 has:=λb o h=>⟨o,by rw [zZ (yK h hp)];exact h⟩
 tup:=λb o h=>by rw [zZ (yK h hp)];exact h
 frz:=λb o u h=>by rw [zZ (yK h hp)];exact h
theorem Wd.fresh(w:Wd g α S H){p:Addr}(hp:H p=none):p∉α:=λz=>by
 obtain⟨_,h,_⟩:=w.mem z;rw [hp]at h;cases h
theorem Wd.new(w:Wd g α S H){p:Addr}{o:HO}(hp:H p=none):Wd g α S (upd H p o):=
 ⟨w.len,w.nd,λl a ob h1 h2=>(w.obj l a ob h1 h2).move (w.newx hp).toEx0 (zZ λz=>w.fresh hp (by rw [<-z];exact mem_of_getElem? h1))⟩
theorem Wd.writex(w:Wd g α S H){l:Nat}{a:Addr}{o:HO}(h:α[l]? =some a):Ext α H α (upd H a o) where
 pre:=⟨[],by simp⟩
 new:=λb h=>.inl h
 keep:=λb o e n=>by rw [zZ λz=>n (by rw [z];exact mem_of_getElem? h)];exact e
 has:=λb o e=>by
  by_cases z:b=a
  ·subst z;exact⟨_,xU⟩
  ·exact⟨o,by rw [zZ z];exact e⟩
 tup:=λb xs e=>by
  obtain⟨ho,h1,h2,_⟩:=w.mem (mem_of_getElem? h)
  rw [zZ λz=>h2 xs (by subst z;rw [e]at h1;exact(Option.some.inj h1).symm)];exact e
 frz:=λb ob u e=>by
  obtain⟨ho,h1,_,h2⟩:=w.mem (mem_of_getElem? h)
  rw [zZ λz=>h2 ob u (by subst z;rw [e]at h1;exact(Option.some.inj h1).symm)];exact e
theorem Wd.ne(w:Wd g α S H){l m:Nat}{a b:Addr}(h:α[l]? =some a)(h':α[m]? =some b)(n:l≠m):a≠b:=by
 rintro rfl
 obtain⟨h1,e1⟩:=gS0.mp h
 obtain⟨h2,e2⟩:=gS0.mp h'
 exact n ((getElem_inj w.nd).mp (e1.trans e2.symm))
theorem Wd.write(w:Wd g α S H){l:Nat}{a:Addr}{o:HO}{ob:MO}(h:α[l]? =some a)(q:ObD g α (upd H a o) a ob):Wd g α (S.set l ob) (upd H a o) where
 len:=by rw [length_set];exact w.len
 nd:=w.nd
 obj:=λm b ob' h1 h2=>by
  by_cases e:l=m
  ·subst e
   rw [h]at h1
   have hl:l<S.length:=by rw [<-w.len];exact(gS0.mp h).1
   rw [getElem?_set_self hl]at h2
   rw [<-Option.some.inj h1, <-Option.some.inj h2]
   exact q
  ·rw [getElem?_set_ne e]at h2
   exact(w.obj m b ob' h1 h2).move (w.writex h).toEx0 (zZ (w.ne h1 h λz=>e z.symm))
theorem Wd.enterx(w:Wd g α S H){H0:Hp}{α0:List Addr}(x:Ext α0 H0 α H){b:Addr}(h0:H0 b=none)(n:b∉α):Ext α0 H0 (α++[b]) H where
 pre:=let ⟨t,e⟩:=x.pre;⟨t++[b],by rw [e,aA]⟩
 new:=λc hc=>(mem_append.mp hc).elim (x.new c) λz=>.inr (by rw [mS.mp z];exact h0)
 keep:=x.keep
 has:=x.has
 tup:=x.tup
 frz:=x.frz
theorem Wd.enter(w:Wd g α S H){b:Addr}{ds:List MV}{vs:List V}(h:H b=some (.lst vs))(n:b∉α)(l:DenL g.K α H ds vs):Wd g (α++[b]) (S++[.lst ds]) H where
 len:=by rw [lA,lA,w.len];rfl
 nd:=List.nodup_append.mpr ⟨w.nd,by simp,λa ha c hc=>by rw [mS.mp hc];rintro rfl;exact n ha⟩
 obj:=λm a o h1 h2=>by
  by_cases hm:m<α.length
  ·rw [getElem?_append_left hm]at h1
   rw [getElem?_append_left (by rw [<-w.len];exact hm)]at h2
   exact(w.obj m a o h1 h2).move (Ex0.grow α [b] H) rfl
  ·have hm':m=α.length:=by
    have:=(gS0.mp h1).1
    rw [lA,lS]at this
    omega
   subst hm'
   rw [getElem?_append_right (le_refl _),sub_self]at h1
   rw [getElem?_append_right (by rw [w.len];exact le_refl _),w.len,sub_self]at h2
   cases h1;cases h2
   exact⟨vs,h,l.ex0 (Ex0.grow α [b] H)⟩
end
inductive R(β:Type) where
 |ok (b:β) (S:Sto)|exc (c:Str) (fs:List (Str×MV)) (S:Sto)|no
def R.bind{β γ:Type}:R β->(β->Sto->R γ)->R γ
 |.ok b S,k=>k b S
 |.exc c fs S,_=>.exc c fs S
 |.no,_=>.no
theorem R.bind_ok{β γ:Type}(b:β)(S:Sto)(k:β->Sto->R γ):(R.ok b S).bind k=k b S:=rfl
inductive Er where
 |val (d:MV)|new (ds:List MV)
instance:Inhabited Er:=⟨.val .non⟩
def DenX(K:PySem.W.Frag)(α:List Addr)(H:Hp):Er->V->Prop
 |.val d,v=>Den K α H d v
 |.new ds,v=> ∃b vs,v=.ref b/\H b=some (.lst vs)/\b∉α/\DenL K α H ds vs
def DenE(K:PySem.W.Frag)(H:Hp)(α':List Addr)(H':Hp)(r:Er)(v:V):Prop:=DenX K α' H' r v/\match r with |.new _=> ∀a,v=.ref a->H a=none|_=>True
section
variable{K:PySem.W.Frag}{α α':List Addr}{H H0 H':Hp}
theorem DenX.ext(x:Ext α H α' H'): ∀{r:Er}{v:V},DenX K α H r v->DenX K α' H' r v
 |.val d,_,q=>Den.ext x q
 |.new ds,_,⟨b,vs,e,h,n,l⟩=>⟨b,vs,e,x.keep b _ h n,x.out h n,l.ext x⟩
theorem DenE.val{d:MV}{v:V}(q:Den K α' H' d v):DenE K H α' H' (.val d) v:=⟨q,trivial⟩
theorem DenE.back(hf: ∀b,H b=none->H0 b=none){r:Er}{v:V}(q:DenE K H α' H' r v):DenE K H0 α' H' r v:=by
 refine⟨q.1,?_⟩
 cases r with
 |new ds=>exact λa e=>hf a (q.2 a e)
 |_=>trivial
theorem DenE.ext{α'':List Addr}{H'':Hp}(x:Ext α' H' α'' H''){r:Er}{v:V}(q:DenE K H α' H' r v):DenE K H α'' H'' r v:=⟨q.1.ext x,q.2⟩
end
section
variable{K:PySem.W.Frag}{α:List Addr}{H:Hp}{v:V}
theorem yCT(d:DenX K α H (.val .non) v):v=.non:=zBZ (K:=K) (α:=α) (H:=H) d
theorem zPV{b:Bool}(d:DenX K α H (.val (.bl b)) v):v=.bl b:=zGA (K:=K) (α:=α) (H:=H) d
theorem xL{b:Int}(d:DenX K α H (.val (.int b)) v):v=.int b:=kX (K:=K) (α:=α) (H:=H) d
theorem dH{b:List Nat}(d:DenX K α H (.val (.str b)) v):v=.str (mkS b):=wF (K:=K) (α:=α) (H:=H) d
theorem yRS{b:String}(d:DenX K α H (.val (.typ b)) v):v=.ty b:=zAD (K:=K) (α:=α) (H:=H) d
theorem yJL{c:Str}{ns:List Str}{ds:List MV}(d:DenX K α H (.val (.obj c ns ds)) v): ∃a C dx vs o,v=.ref a/\H a=some (.frz o (.ins C dx (ns.zip vs)))/\PySem.W.nsIn K mainGlobals c=some (some (.ref C))/\(PySem.W.clsIn K C).map (·.name)=some c/\ns.length=vs.length/\DenL K α H ds vs:=dE (K:=K) (α:=α) (H:=H) d
theorem zCA{ds:List MV}(d:DenX K α H (.val (.tup ds)) v): ∃a vs,v=.ref a/\SqT K H a vs/\DenL K α H ds vs:=wG (K:=K) (α:=α) (H:=H) d
theorem zWY{ds:List MV}(d:DenX K α H (.val (.scr ds)) v): ∃a vs,v=.ref a/\SqF K H a vs/\DenL K α H ds vs:=dF (K:=K) (α:=α) (H:=H) d
theorem zLX{l:Nat}(d:DenX K α H (.val (.loc l)) v): ∃a,v=.ref a/\α[l]? =some a:=bU (K:=K) (α:=α) (H:=H) d
end
def zLN:List Er->List V->List Addr
 |.new _::rs,.ref b::vs=>b::zLN rs vs
 |_::rs,_::vs=>zLN rs vs
 |_,_=>[]
inductive ArgsE(K:PySem.W.Frag)(H:Hp)(α':List Addr)(H':Hp):List Er->List V->Prop
 |nil:ArgsE K H α' H' [] []
 |cons {r v rs vs}:DenE K H α' H' r v->(∀ds b,r=.new ds->v=.ref b->b∉zLN rs vs)->ArgsE K H α' H' rs vs->ArgsE K H α' H' (r::rs) (v::vs)
theorem ArgsE.nones{K:PySem.W.Frag}{H:Hp}{α':List Addr}{H':Hp}: ∀{rs vs},ArgsE K H α' H' rs vs-> ∀b∈zLN rs vs,H b=none
 |_,_,.nil=>λb h=>by simp [zLN]at h
 |.val d::_,v::_,.cons a n l=>λb h=>ArgsE.nones l b (by simpa [zLN]using h)
 |.new ds::_,v::_,.cons a n l=>λb h=>by
  obtain⟨c,vs,rfl,_⟩:=a.1
  rcases mC.mp (show b∈c::zLN _ _ from h)with rfl|h
  ·exact a.2 _ rfl
  ·exact ArgsE.nones l b h
theorem ArgsE.back{K:PySem.W.Frag}{H H0:Hp}{α':List Addr}{H':Hp}(hf: ∀b,H b=none->H0 b=none): ∀{rs vs},ArgsE K H α' H' rs vs->ArgsE K H0 α' H' rs vs
 |_,_,.nil=>.nil
 |_,_,.cons a n l=>.cons (a.back hf) n (ArgsE.back hf l)
theorem ArgsE.length{K:PySem.W.Frag}{H:Hp}{α':List Addr}{H':Hp}: ∀{rs vs},ArgsE K H α' H' rs vs->vs.length=rs.length
 |_,_,.nil=>rfl
 |_,_,.cons _ _ l=>by rw [lC,lC,ArgsE.length l]
class Dn (β:Type) (τ:outParam Type) where
 d:Gm->Hp->List Addr->Sto->Hp->β->τ->Prop
 back: ∀{g:Gm}{H H0:Hp}{α':List Addr}{S':Sto}{H':Hp}{b:β}{u:τ},(∀b,H b=none->H0 b=none)->d g H α' S' H' b u->d g H0 α' S' H' b u
instance:Dn Er V:=⟨λg H α' _ H' r v=>DenE g.K H α' H' r v,λhf q=>q.back hf⟩
instance:Dn Bool Bool:=⟨λ_ _ _ _ _ b u=>u=b,λ_ q=>q⟩
instance:Dn (List Er) (List V):=⟨λg H α' _ H' r v=>ArgsE g.K H α' H' r v,λhf q=>q.back hf⟩
instance:Dn (Option Int) (Option Int):=⟨λ_ _ _ _ _ b u=>u=b,λ_ q=>q⟩
abbrev XW:=Str->List (Str×MV)->Sto->List Addr->Hp->Prop
abbrev W0:XW:=λ_ _ _ _ _=>False
def Post{β τ:Type}[Dn β τ](g:Gm)(W:XW)(α:List Addr)(H:Hp):R β->(τ->Hp->Prop)->Prop
 |.ok b S,Q=> ∀u α' H',Ext α H α' H'->Wd g α' S H'->Dn.d g H α' S H' b u->Q u H'
 |.exc c fs S,_=> ∀α' H',Ext α H α' H'->Wd g α' S H'->W c fs S α' H'
 |.no,_=>False
section
variable{β τ γ υ:Type}[Dn β τ][Dn γ υ]{g:Gm}{W:XW}{α α':List Addr}{H H':Hp}
theorem Post.shift(x:Ext α H α' H'): ∀{m:R β}{Q:τ->Hp->Prop},Post g W α H m Q->Post g W α' H' m Q
 |.ok b S,Q,q=>λu α2 H2 x2 w2 d2=>q u α2 H2 (x.trans x2) w2 (Dn.back (λb h=>x.free h) d2)
 |.exc c fs S,_,q=>λα2 H2 x2 w2=>q α2 H2 (x.trans x2) w2
 |.no,_,q=>q
theorem Post.bind{m:R β}{k:β->Sto->R γ}{Q:υ->Hp->Prop}{Q':τ->Hp->Prop}(q:Post g W α H (m.bind k) Q)
  (f: ∀u b S1 α1 H1,m=.ok b S1->Ext α H α1 H1->Wd g α1 S1 H1->Dn.d g H α1 S1 H1 b u->Post g W α H (k b S1) Q->Q' u H1):Post g W α H m Q':=by
 cases m with
 |ok b S=>exact λu α1 H1 x w d=>f u b S α1 H1 rfl x w d q
 |exc c fs S=>exact q
 |no=>exact q
theorem Post.here{b:β}{S:Sto}{Q:τ->Hp->Prop}{u:τ}(q:Post g W α H (.ok b S) Q)(w:Wd g α S H)(d:Dn.d g H α S H b u):Q u H:=q u α H (Ext.refl α H) w d
end
theorem Post.val{g:Gm}{W:XW}{α:List Addr}{H:Hp}{d:MV}{S:Sto}{Q:VK}{v:V}(q:Post g W α H (.ok (Er.val d) S) Q)(w:Wd g α S H)(k:Den g.K α H d v):Q v H:=q.here w (DenE.val k)
theorem Post.newl{g:Gm}{W:XW}{α:List Addr}{H:Hp}{ds:List MV}{S:Sto}{Q:VK}{vs:List V}{p:Addr}(q:Post g W α H (.ok (Er.new ds) S) Q)(w:Wd g α S H)(hp:H p=none)(l:DenL g.K α H ds vs):Q (.ref p) (upd H p (.lst vs)):=
 q (.ref p) α _ (w.newx hp) (w.new hp) ⟨⟨p,vs,rfl,xU,w.fresh hp,l.ext (w.newx hp)⟩,λa e=>by cases e;exact hp⟩
theorem Post.newt{g:Gm}{W:XW}{α:List Addr}{H:Hp}{ds:List MV}{S:Sto}{Q:VK}{vs:List V}{p:Addr}(q:Post g W α H (.ok (Er.val (.tup ds)) S) Q)(w:Wd g α S H)(hp:H p=none)(l:DenL g.K α H ds vs):Q (.ref p) (upd H p (.tup vs)):=
 q (.ref p) α _ (w.newx hp) (w.new hp) (.val (zGP (.of xU) (l.ext (w.newx hp))))
abbrev Rho:=List (Option MV)
structure Slots(K:PySem.W.Frag)(α:List Addr)(H:Hp)(ρ:Rho)(σ:St):Prop where
 len:σ.length=ρ.length
 slot: ∀(i:Nat)(d:MV),ρ[i]? =some (some d)-> ∃v,σ[i]? =some (some v)/\Den K α H d v
section
variable{K:PySem.W.Frag}{α α':List Addr}{H H':Hp}{ρ:Rho}{σ:St}
theorem Slots.ex0(q:Slots K α H ρ σ)(x:Ex0 α H α' H'):Slots K α' H' ρ σ:=⟨q.len,λi d e=>let ⟨v,h1,h2⟩:=q.slot i d e;⟨v,h1,h2.ex0 x⟩⟩
theorem Slots.ext(q:Slots K α H ρ σ)(x:Ext α H α' H'):Slots K α' H' ρ σ:=q.ex0 x.toEx0
theorem yNG{α:Type}{l:List α}{i j:Nat}{x y:α}(h:(l.set i x)[j]? =some y):(j=i/\y=x/\i<l.length)\/(j≠i/\l[j]? =some y):=by
 by_cases hj:i=j
 ·subst hj
  by_cases hl:i<l.length
  ·rw [getElem?_set_self hl]at h
   exact .inl ⟨rfl,(Option.some.inj h).symm,hl⟩
  ·rw [getElem?_eq_none (by rw [length_set];omega)]at h;cases h
 ·rw [getElem?_set_ne hj]at h
  exact .inr ⟨λz=>hj z.symm,h⟩
theorem Slots.set(q:Slots K α H ρ σ){i:Nat}{d:MV}{v:V}(h:Den K α H d v):Slots K α H (ρ.set i (some d)) (σ.set i (some v)):=by
 refine⟨by rw [length_set,length_set];exact q.len,λj e z=>?_⟩
 rcases yNG z with⟨rfl,e',hl⟩|⟨hj,e'⟩
 ·cases e'
  exact⟨v,by rw [getElem?_set_self (by rw [q.len];exact hl)],h⟩
 ·obtain⟨u,h1,h2⟩:=q.slot j e e'
  exact⟨u,by rw [getElem?_set_ne (Ne.symm hj)];exact h1,h2⟩
end
def Jd(X:Cx)(W:XW){β τ:Type}[Dn β τ](P:(St->Hp->(τ->Hp->Prop)->Prop)->Prop)(f:Rho->Sto->R β):Prop:=
 ∃t,P t/\ ∀α ρ S σ H Q,Wd X.g α S H->Slots X.K α H ρ σ->Post X.g W α H (f ρ S) Q->t σ H Q
abbrev PEm(X:Cx)(W:XW)(e:Expr)(f:Rho->Sto->R Er):Prop:=Jd X W (PE X e) f
abbrev PTm(X:Cx)(W:XW)(e:Expr)(f:Rho->Sto->R Bool):Prop:=Jd X W (PT X e) f
abbrev PWm(X:Cx)(W:XW)(e:Expr)(f:Rho->Sto->R Bool):Prop:=Jd X W (PW X e) f
abbrev PAm(X:Cx)(W:XW)(es:List Expr)(f:Rho->Sto->R (List Er)):Prop:=Jd X W (PA X es) f
abbrev POm(X:Cx)(W:XW)(e:Option Expr)(f:Rho->Sto->R (Option Int)):Prop:=Jd X W (PO X e) f
section
variable{X:Cx}{W:XW}{a b c e:Expr}{es:List Expr}{f g h:Rho->Sto->R Er}{tf tg:Rho->Sto->R Bool}{af:Rho->Sto->R (List Er)}{pos:Pos}
def rdSl:Option (Option MV)->Sto->R Er
 |some (some d),S=>.ok (.val d) S
 |_,_=>.no
theorem zB(i:Nat){x:Str}(hN:X.N[i]? =some x:=by rfl)(hv:Vis X.env.scope x:=by first |exact Or.inl rfl|exact Or.inr (Or.inl rfl)|exact Or.inr (Or.inr rfl))(hd:(x==("__debug__":Str))=false:=by decide)
  (hcd:(x==("__classdict__":Str))=false:=by decide):PEm X W (.Name x pos) (λρ S=>rdSl (ρ[i]?) S):=by
 refine⟨_,pv i hN hv hd hcd,λα ρ S σ H Q wd sl q=>?_⟩
 dsimp only at q
 cases z:ρ[i]? with
 |none=>rw [z]at q;exact q.elim
 |some o=>
  cases o with
  |none=>rw [z]at q;exact q.elim
  |some d=>
   rw [z]at q
   obtain⟨v,h1,h2⟩:=sl.slot i d z
   exact⟨v,h1,Post.val q wd h2⟩
theorem zE{i:Int}{j:Nat}:PEm X W (.Constant (.int i) j pos) (λ_ S=>.ok (.val (.int i)) S):=⟨_,yIO,λα ρ S σ H Q wd sl q=>Post.val q wd (jL i)⟩
theorem dB{i:Bool}{j:Nat}:PEm X W (.Constant (.bool i) j pos) (λ_ S=>.ok (.val (.bl i)) S):=⟨_,pe_bl,λα ρ S σ H Q wd sl q=>Post.val q wd (dD i)⟩
theorem yR{x:Str}{j:Nat}(cs:List Nat)(hx:x=mkS cs:=by rfl):PEm X W (.Constant (.str x) j pos) (λ_ S=>.ok (.val (.str cs)) S):=
 ⟨_,yQM,λα ρ S σ H Q wd sl q=>Post.val q wd (by rw [hx];exact zGO cs)⟩
theorem zNG{x:Str}{T:String}(hg:Gl X x)(hm:X.mg x=none)(hv:bootBuiltins x=some (.type T))(hn:x≠"__name__":=by decide)(hd:(x==("__debug__":Str))=false:=by decide):PEm X W (.Name x pos) (λ_ S=>.ok (.val (.typ T)) S):=
 ⟨_,yMH (v:=.ty T) hg hm hv rfl hn hd,λα ρ S σ H Q wd sl q=>Post.val q wd (yEL T)⟩
theorem zRS{i:Int}{j:Nat}{p3:Pos}:PEm X W (.UnaryOp .USub (.Constant (.int i) j p3) pos) (λ_ S=>.ok (.val (.int (-i))) S):=
 ⟨_,pe_un yRC yIO,λα ρ S σ H Q wd sl q=>⟨i,rfl,Post.val q wd (jL (-i))⟩⟩
def Op2(X:Cx)(W:XW)(r:R2)(F:Er->Er->Sto->R Er):Prop:= ∀p q x y α S H Q,Wd X.g α S H->DenX X.K α H p x->DenX X.K α H q y->Post X.g W α H (F p q S) Q->r x y H Q
theorem two{r:R2}{F:Er->Er->Sto->R Er}(hF:Op2 X W r F){ta tb:TE}(fa: ∀α ρ S σ H Q,Wd X.g α S H->Slots X.K α H ρ σ->Post X.g W α H (f ρ S) Q->ta σ H Q)
  (fb: ∀α ρ S σ H Q,Wd X.g α S H->Slots X.K α H ρ σ->Post X.g W α H (g ρ S) Q->tb σ H Q) {α:List Addr} {ρ:Rho} {S:Sto} {σ:St} {H:Hp} {Q:VK} (wd:Wd X.g α S H) (sl:Slots X.K α H ρ σ)
  (q:Post X.g W α H ((f ρ S).bind λp S1=>(g ρ S1).bind λq S2=>F p q S2) Q):ta σ H λx H1=>tb σ H1 λy H2=>r x y H2 Q:=
 fa α ρ S σ H _ wd sl (q.bind λu p S1 α1 H1 e1 x1 w1 d1 q1=>fb α1 ρ S1 σ H1 _ w1 (sl.ext x1) ((q1.shift x1).bind λu2 p2 S2 α2 H2 e2 x2 w2 d2 q2=>
  hF p p2 u u2 α2 S2 H2 Q w2 (d1.1.ext x2) d2.1 (q2.shift x2)))
theorem zVR{op:Operator}{r:R2}{F:Er->Er->Sto->R Er}(ho:OpR X (binaryOp op) r)(hF:Op2 X W r F)(ha:PEm X W a f)(hb:PEm X W b g):PEm X W (.BinOp a op b pos) (λρ S=>(f ρ S).bind λp S1=>(g ρ S1).bind λq S2=>F p q S2):=by
 obtain⟨ta,ha,fa⟩:=ha
 obtain⟨tb,hb,fb⟩:=hb
 exact⟨_,pe_op ho ha hb,λα ρ S σ H Q wd sl q=>two hF fa fb wd sl q⟩
theorem yCU{op:CmpOp}{r:R2}{F:Er->Er->Sto->R Er}(ho:OpR X (compareOp op) r)(hF:Op2 X W r F)(ha:PEm X W a f)(hb:PEm X W b g)(hm:behindInMarks op b=false:=by first |exact yIU _|with_unfolding_all rfl):
  PEm X W (.Compare a [op] [b] pos) (λρ S=>(f ρ S).bind λp S1=>(g ρ S1).bind λq S2=>F p q S2):=by
 obtain⟨ta,ha,fa⟩:=ha
 obtain⟨tb,hb,fb⟩:=hb
 exact⟨_,yMM ho ha hb hm,λα ρ S σ H Q wd sl q=>two hF fa fb wd sl q⟩
theorem pm_ix{r:R2}{F:Er->Er->Sto->R Er}(ho:IxR X r)(hF:Op2 X W r F)(ha:PEm X W a f)(hb:PEm X W b g)(hs:zWM b:=by exact λ_ _=>rfl):
  PEm X W (.Subscript a b pos) (λρ S=>(f ρ S).bind λp S1=>(g ρ S1).bind λq S2=>F p q S2):=by
 obtain⟨ta,ha,fa⟩:=ha
 obtain⟨tb,hb,fb⟩:=hb
 exact⟨_,pe_ix ho ha hb hs,λα ρ S σ H Q wd sl q=>two hF fa fb wd sl q⟩
def asB:Er->Sto->R Bool
 |.val (.bl b),S=>.ok b S
 |_,_=>.no
theorem yJM{p:Er}{S:Sto}{α:List Addr}{H:Hp}{Q:Bool->Hp->Prop}(q:Post X.g W α H (asB p S) Q): ∃k,p=.val (.bl k)/\Post X.g W α H (.ok k S) Q:=by
 unfold asB at q
 split at q
 ·exact⟨_,rfl,q⟩
 ·exact q.elim
theorem zRT{β τ:Type}[Dn β τ]{p:Er}{S:Sto}{α:List Addr}{H:Hp}{k:Bool->Sto->R β}{Q:τ->Hp->Prop}(q:Post X.g W α H ((asB p S).bind k) Q): ∃c,p=.val (.bl c)/\Post X.g W α H (k c S) Q:=by
 unfold asB at q
 split at q
 ·exact⟨_,rfl,q⟩
 ·exact q.elim
theorem zRU{op:CmpOp}{r:R2}{F:Er->Er->Sto->R Er}(ho:OpR X (compareOp op) r)(hF:Op2 X W r F)(ha:PEm X W a f)(hb:PEm X W b g)(hm:behindInMarks op b=false:=by first |exact yIU _|with_unfolding_all rfl):
  PTm X W (.Compare a [op] [b] pos) (λρ S=>((f ρ S).bind λp S1=>(g ρ S1).bind λq S2=>F p q S2).bind asB):=by
 obtain⟨ta,ha,fa⟩:=ha
 obtain⟨tb,hb,fb⟩:=hb
 refine⟨_,yMN ho ha hb hm,λα ρ S σ H Q wd sl q=>?_⟩
 refine two hF fa fb wd sl (Q:=λx H'=> ∃k,x=.bl k/\Q k H') (q.bind λu p S1 α1 H1 e1 x1 w1 d1 q1=>?_)
 obtain⟨k,rfl,q2⟩:=yJM (q1.shift x1)
 exact⟨k,zPV d1.1,q2.here w1 rfl⟩
def chF(F G:Er->Er->Sto->R Er)(p q:Er)(S:Sto)(k:Sto->R Er):R Er:=(F p q S).bind λz S1=>(asB z S1).bind λc S2=>if c=true then(k S2).bind λr S3=>G q r S3 else .ok (.val (.bl false)) S2
def zIW:Er->Sto->R Bool
 |.val .non,S=>.ok false S
 |.val (.bl b),S=>.ok b S
 |.val (.int i),S=>.ok (i !=0) S
 |.val (.str x),S=>if x.length<=sizeLine then .ok (!x.isEmpty) S else .no
 |.val (.tup ds),S=>.ok (!ds.isEmpty) S
 |.val (.scr ds),S=>.ok (!ds.isEmpty) S
 |.val (.loc l),S=>match S[l]? with
  |some (.lst ds)=>.ok (!ds.isEmpty) S
  |_=>.no
 |.val (.typ _),_=>.no
 |.val (.obj _ _ _),_=>.no
 |.new ds,S=>.ok (!ds.isEmpty) S
theorem zKV{ds:List MV}{vs:List V}{K:PySem.W.Frag}{α:List Addr}{H:Hp}(l:DenL K α H ds vs):(!vs.isEmpty)= !ds.isEmpty:=by
 have:=l.length
 cases ds<;>cases vs<;>simp_all
theorem yJN{p:Er}{x:V}{S:Sto}{α:List Addr}{H:Hp}{Q:Bool->Hp->Prop}(wd:Wd X.g α S H)(d:DenX X.K α H p x)(q:Post X.g W α H (zIW p S) Q): ∃k,TruV X.K x H k/\Q k H:=by
 match p,d,q with
 |.val .non,d,q=>cases yCT d;exact⟨_,rfl,q.here wd rfl⟩
 |.val (.bl b),d,q=>cases zPV d;exact⟨_,rfl,q.here wd rfl⟩
 |.val (.int i),d,q=>cases xL d;exact⟨_,rfl,q.here wd rfl⟩
 |.val (.typ n),d,q=>exact q.elim
 |.val (.obj _ _ _),d,q=>exact q.elim
 |.val (.str z),d,q=>
  cases dH d
  have q':Post X.g W α H (if z.length<=sizeLine then R.ok (!z.isEmpty) S else R.no) Q:=q
  split at q'
  ·rename_i hz
   refine⟨_,⟨by rw [kZ];exact hz,?_⟩,q'.here wd rfl⟩
   rw [kZ]
   cases z with
   |nil=>rfl
   |cons c r=>
    have h0:((r.length:Int)+1)≠0:=by omega
    simp [h0]
  ·exact q'.elim
 |.val (.tup ds),d,q=>
  obtain⟨a,vs,rfl,s,l⟩:=zCA d
  exact⟨_,.inr (.inl ⟨vs,s,(zKV l).symm⟩),q.here wd rfl⟩
 |.val (.scr ds),d,q=>
  obtain⟨a,vs,rfl,s,l⟩:=zWY d
  exact⟨_,.inl ⟨vs,s.l,(zKV l).symm⟩,q.here wd rfl⟩
 |.val (.loc n),d,q=>
  obtain⟨a,rfl,h⟩:=zLX d
  obtain⟨o,h1,h2⟩:=wd.of h
  have q':Post X.g W α H (match S[n]? with |some (.lst ds)=>R.ok (!ds.isEmpty) S|_=>R.no) Q:=q
  rw [h1]at q'
  cases o with
  |lst ds=>
   obtain⟨vs,h3,l⟩:=h2
   exact⟨_,.inl ⟨vs,.of h3,(zKV l).symm⟩,q'.here wd rfl⟩
  |dic ds=>exact q'.elim
  |ins c fs=>exact q'.elim
 |.new ds,⟨a,vs,ex,s,n,l⟩,q=>subst ex;exact⟨_,.inl ⟨vs,.of s,(zKV l).symm⟩,q.here wd rfl⟩
theorem wO(ha:PEm X W a f)(he: ∀whole,isTrue a X.env whole=(do let v <-whole;standAt a.pos;holding [v] (truthy v)):=by intro _;rfl):PTm X W a (λρ S=>(f ρ S).bind zIW):=by
 obtain⟨ta,ha,fa⟩:=ha
 exact⟨_,yIV ha he,λα ρ S σ H Q wd sl q=>fa α ρ S σ H _ wd sl (q.bind λu p S1 α1 H1 e1 x1 w1 d1 q1=>yJN w1 d1.1 (q1.shift x1))⟩
end
section
variable{X:Cx}{W:XW}{a b c e:Expr}{es:List Expr}{f g h:Rho->Sto->R Er}{tf tg:Rho->Sto->R Bool}{af:Rho->Sto->R (List Er)}{pos:Pos}
def zRV(p:Er)(S:Sto)(k:Sto->R Er):R Er:=(asB p S).bind λc S1=>if c=true then k S1 else .ok (.val (.bl false)) S1
def orF(p:Er)(S:Sto)(k:Sto->R Er):R Er:=(asB p S).bind λc S1=>if c=true then .ok (.val (.bl true)) S1 else k S1
theorem zOS{op}(ha:PEm X W a f):PEm X W (.BoolOp op [a] pos) f:=let ⟨t,h,k⟩:=ha;⟨t,yQQ h,k⟩
theorem zLY(ha:PEm X W a f)(hb:PEm X W (.BoolOp .And (b::es) pos) g):PEm X W (.BoolOp .And (a::b::es) pos) (λρ S=>(f ρ S).bind λp S1=>zRV p S1 λS2=>g ρ S2):=by
 obtain⟨ta,ha,fa⟩:=ha
 obtain⟨tb,hb,fb⟩:=hb
 refine⟨_,yQR ha hb,λα ρ S σ H Q wd sl q=>fa α ρ S σ H _ wd sl (q.bind λu p S1 α1 H1 e1 x1 w1 d1 q1=>?_)⟩
 obtain⟨k,rfl,q2⟩:=zRT (q1.shift x1)
 refine⟨k,zPV d1.1,?_⟩
 cases k with
 |true=>rw [iP rfl]at q2 ⊢; exact fb α1 ρ S1 σ H1 _ w1 (sl.ext x1) q2
 |false=>rw [iN xF0]at q2 ⊢; exact Post.val q2 w1 (dD false)
theorem pm_or(ha:PEm X W a f)(hb:PEm X W (.BoolOp .Or (b::es) pos) g):PEm X W (.BoolOp .Or (a::b::es) pos) (λρ S=>(f ρ S).bind λp S1=>orF p S1 λS2=>g ρ S2):=by
 obtain⟨ta,ha,fa⟩:=ha
 obtain⟨tb,hb,fb⟩:=hb
 refine⟨_,pe_or ha hb,λα ρ S σ H Q wd sl q=>fa α ρ S σ H _ wd sl (q.bind λu p S1 α1 H1 e1 x1 w1 d1 q1=>?_)⟩
 obtain⟨k,rfl,q2⟩:=zRT (q1.shift x1)
 refine⟨k,zPV d1.1,?_⟩
 cases k with
 |true=>rw [iP rfl]at q2 ⊢; exact Post.val q2 w1 (dD true)
 |false=>rw [iN xF0]at q2 ⊢; exact fb α1 ρ S1 σ H1 _ w1 (sl.ext x1) q2
theorem yRT(ha:PEm X W a f):PEm X W (.UnaryOp .Not a pos) (λρ S=>(f ρ S).bind λp S1=>(asB p S1).bind λk S2=>.ok (.val (.bl !k)) S2):=by
 obtain⟨ta,ha,fa⟩:=ha
 refine⟨_,yQS ha,λα ρ S σ H Q wd sl q=>fa α ρ S σ H _ wd sl (q.bind λu p S1 α1 H1 e1 x1 w1 d1 q1=>?_)⟩
 obtain⟨k,rfl,q2⟩:=zRT (q1.shift x1)
 exact⟨k,zPV d1.1,Post.val q2 w1 (dD _)⟩
theorem zBQ(ha:PTm X W a tf):PWm X W (.BoolOp .And [a] pos) tf:=let ⟨t,h,k⟩:=ha;⟨t,yMI h,k⟩
theorem zIX(ha:PTm X W a tf):PWm X W (.BoolOp .Or [a] pos) tf:=let ⟨t,h,k⟩:=ha;⟨t,yQN h,k⟩
theorem zDY(ha:PTm X W a tf)(hb:PWm X W (.BoolOp .And (b::es) pos) tg):PWm X W (.BoolOp .And (a::b::es) pos) (λρ S=>(tf ρ S).bind λk S1=>if k=true then tg ρ S1 else .ok false S1):=by
 obtain⟨ta,ha,fa⟩:=ha
 obtain⟨tb,hb,fb⟩:=hb
 refine⟨_,yQO ha hb,λα ρ S σ H Q wd sl q=>fa α ρ S σ H _ wd sl (q.bind λu p S1 α1 H1 e1 x1 w1 d1 q1=>?_)⟩
 cases d1
 cases u with
 |true=>rw [iP rfl]at q1 ⊢; exact fb α1 ρ S1 σ H1 _ w1 (sl.ext x1) (q1.shift x1)
 |false=>rw [iN xF0]at q1 ⊢; exact(q1.shift x1).here w1 rfl
theorem zNH(ha:PTm X W a tf)(hb:PWm X W (.BoolOp .Or (b::es) pos) tg):PWm X W (.BoolOp .Or (a::b::es) pos) (λρ S=>(tf ρ S).bind λk S1=>if k=true then .ok true S1 else tg ρ S1):=by
 obtain⟨ta,ha,fa⟩:=ha
 obtain⟨tb,hb,fb⟩:=hb
 refine⟨_,pw_or ha hb,λα ρ S σ H Q wd sl q=>fa α ρ S σ H _ wd sl (q.bind λu p S1 α1 H1 e1 x1 w1 d1 q1=>?_)⟩
 cases d1
 cases u with
 |true=>rw [iP rfl]at q1 ⊢; exact(q1.shift x1).here w1 rfl
 |false=>rw [iN xF0]at q1 ⊢; exact fb α1 ρ S1 σ H1 _ w1 (sl.ext x1) (q1.shift x1)
theorem nQ(h:PWm X W a tf):PTm X W a tf:=let ⟨t,h,k⟩:=h;⟨t,h.pt,k⟩
theorem yCV(ha:PTm X W a tf):PTm X W (.UnaryOp .Not a pos) (λρ S=>(tf ρ S).bind λk S1=>.ok (!k) S1):=by
 obtain⟨ta,ha,fa⟩:=ha
 refine⟨_,yQP ha,λα ρ S σ H Q wd sl q=>fa α ρ S σ H _ wd sl (q.bind λu p S1 α1 H1 e1 x1 w1 d1 q1=>?_)⟩
 cases d1
 exact(q1.shift x1).here w1 rfl
end
section
variable{K:PySem.W.Frag}{H0:Hp}
def zW:List Er->Sto->List MV×Sto
 |[],S=>([],S)
 |.val d::rs,S=>((d::(zW rs S).1),(zW rs S).2)
 |.new xs::rs,S=>((.loc S.length::(zW rs (S++[.lst xs])).1),(zW rs (S++[.lst xs])).2)
theorem ArgsE.grow{H0:Hp}{α:List Addr}{H:Hp}{b:Addr}{rs:List Er}{vs:List V}(q:ArgsE K H0 α H rs vs)(n:b∉zLN rs vs):ArgsE K H0 (α++[b]) H rs vs:=by
 induction q with
 |nil=>exact .nil
 |@cons r v rs vs a m l ih=>
  cases r with
  |val d=>exact .cons ⟨Den.ex0 (Ex0.grow α [b] H) a.1,trivial⟩ m (ih (by simpa [zLN]using n))
  |new ds=>
   obtain⟨⟨c,us,rfl,h1,h2,h3⟩,h4⟩:=a
   have n':b∉c::zLN rs vs:=n
   refine .cons ⟨⟨c,us,rfl,h1,λz=>?_,h3.ex0 (Ex0.grow α [b] H)⟩,h4⟩ m (ih λz=>n' (mO _ z))
   rcases mem_append.mp z with z|z
   ·exact h2 z
   ·exact n' (by rw [mS.mp z];exact mF0)
theorem zIY{g:Gm}{H0:Hp}{α0:List Addr}{H:Hp}: ∀{rs:List Er}{vs:List V}{α:List Addr}{S:Sto},Wd g α S H->Ext α0 H0 α H->ArgsE g.K H0 α H rs vs->
  ∃α',Ext α0 H0 α' H/\Ex0 α H α' H/\Wd g α' (zW rs S).2 H/\DenL g.K α' H (zW rs S).1 vs
 |_,_,α,S,w,x,.nil=>⟨α,x,⟨⟨[],by simp⟩,λ_ _ h=>h,λ_ _ _ h=>h⟩,w,xV⟩
 |.val d::rs,v::vs,α,S,w,x,.cons a n l=>by
  obtain⟨α',x',y',w',l'⟩:=zIY w x l
  exact⟨α',x',y',w',xD (Den.ex0 y' a.1) l'⟩
 |.new ds::rs,v::vs,α,S,w,x,.cons a n l=>by
  obtain⟨⟨c,us,rfl,h1,h2,h3⟩,h4⟩:=a
  obtain⟨α',x',y',w',l'⟩:=zIY (w.enter h1 h2 h3) (w.enterx x (h4 c rfl) h2) (l.grow (n ds c rfl rfl))
  refine⟨α',x',⟨?_,y'.tup,y'.frz⟩,w',xD (zWX (y'.at ?_)) l'⟩
  ·obtain⟨t,e⟩:=y'.pre
   exact⟨[c]++t,by rw [e,aA]⟩
  ·rw [<-w.len,getElem?_append_right (le_refl _),sub_self];rfl
theorem zOT: ∀(rs:List Er)(S:Sto),(zW rs S).1.length=rs.length
 |[],S=>rfl
 |.val d::rs,S=>by show(d::(zW rs S).1).length=_;rw [lC,zOT rs S];rfl
 |.new ds::rs,S=>by show(_::(zW rs _).1).length=_;rw [lC,zOT rs _];rfl
end
section
variable{X:Cx}{W:XW}{a b c e:Expr}{es:List Expr}{f g h:Rho->Sto->R Er}{tf tg:Rho->Sto->R Bool}{af:Rho->Sto->R (List Er)}{pos:Pos}
theorem zC:PAm X W [] (λ_ S=>.ok [] S):=⟨_,yCL,λα ρ S σ H Q wd sl q=>q.here wd .nil⟩
theorem zA(ha:PEm X W a f)(hr:PAm X W es af)(hs:starEach (a::es) X.env=(false,eval a X.env)::starEach es X.env:=by rfl):PAm X W (a::es) (λρ S=>(f ρ S).bind λp S1=>(af ρ S1).bind λps S2=>.ok (p::ps) S2):=by
 obtain⟨ta,ha,fa⟩:=ha
 obtain⟨tr,hr,fr⟩:=hr
 refine⟨_,zWK ha hr hs,λα ρ S σ H Q wd sl q=>fa α ρ S σ H _ wd sl (q.bind λu p S1 α1 H1 e1 x1 w1 d1 q1=>fr α1 ρ S1 σ H1 _ w1 (sl.ext x1) ?_)⟩
 have q1':Post X.g W α H ((af ρ S1).bind λps S2=>.ok (p::ps) S2) Q:=q1
 cases z:af ρ S1 with
 |ok ps S2=>
  rw [z]at q1'
  intro vs α2 H2 x2 w2 d2
  refine q1' (u::vs) α2 H2 (x1.trans x2) w2 (ArgsE.cons (DenE.ext x2 d1) (λds b er eu hb=>?_) (ArgsE.back (λb h=>x1.free h) d2))
  subst er eu
  obtain⟨⟨c,us,ec,h1,_⟩,_⟩:=d1
  cases ec
  have:=ArgsE.nones d2 _ hb
  rw [h1]at this;cases this
 |exc c fs S2=>rw [z]at q1';exact λα2 H2 x2 w2=>q1' α2 H2 (x1.trans x2) w2
 |no=>rw [z]at q1';exact q1'
def kM(rs:List Er)(S:Sto):R Er:=if rs.length<=sizeLine then .ok (.val (.tup (zW rs S).1)) (zW rs S).2 else .no
def bG(rs:List Er)(S:Sto):R Er:=if rs.length<=sizeLine then .ok (.new (zW rs S).1) (zW rs S).2 else .no
theorem xA{x1}(h:PAm X W es af):PEm X W (.Tuple es x1 pos) (λρ S=>(af ρ S).bind kM):=by
 obtain⟨t,h,k⟩:=h
 refine⟨_,yRG h,λα ρ S σ H Q wd sl q=>k α ρ S σ H _ wd sl (q.bind λvs rs S1 α1 H1 e1 x1 w1 d1 q1=>?_)⟩
 have q1':Post X.g W α H (if rs.length<=sizeLine then R.ok (Er.val (.tup (zW rs S1).1)) (zW rs S1).2 else R.no) Q:=q1
 split at q1'
 ·rename_i hz
  obtain⟨α2,x2,y2,w2,l2⟩:=zIY w1 x1 d1
  exact⟨by rw [ArgsE.length d1];exact hz,λp hp=>(q1'.shift x2).newt w2 hp l2⟩
 ·exact q1'.elim
theorem wH(h:PAm X W es af):PEm X W (.List es pos) (λρ S=>(af ρ S).bind bG):=by
 obtain⟨t,h,k⟩:=h
 refine⟨_,yRH h,λα ρ S σ H Q wd sl q=>k α ρ S σ H _ wd sl (q.bind λvs rs S1 α1 H1 e1 x1 w1 d1 q1=>?_)⟩
 have q1':Post X.g W α H (if rs.length<=sizeLine then R.ok (Er.new (zW rs S1).1) (zW rs S1).2 else R.no) Q:=q1
 split at q1'
 ·rename_i hz
  obtain⟨α2,x2,y2,w2,l2⟩:=zIY w1 x1 d1
  exact⟨by rw [ArgsE.length d1];exact hz,λp hp=>(q1'.shift x2).newl w2 hp l2⟩
 ·exact q1'.elim
inductive ArgsX(K:PySem.W.Frag)(α:List Addr)(H:Hp):List Er->List V->Prop
 |nil:ArgsX K α H [] []
 |cons {r v rs vs}:DenX K α H r v->ArgsX K α H rs vs->ArgsX K α H (r::rs) (v::vs)
theorem ArgsE.x{K:PySem.W.Frag}{H0:Hp}{α:List Addr}{H:Hp}: ∀{rs vs},ArgsE K H0 α H rs vs->ArgsX K α H rs vs
 |_,_,.nil=>.nil
 |_,_,.cons a _ l=>.cons a.1 (ArgsE.x l)
def zNI(X:Cx)(W:XW)(r:List V->Hp->VK->Prop)(F:List Er->Sto->R Er):Prop:= ∀rs vs α S H Q,Wd X.g α S H->ArgsX X.K α H rs vs->Post X.g W α H (F rs S) Q->r vs H Q
theorem yE{id:String}{r:List V->Hp->VK->Prop}{F:List Er->Sto->R Er}{x:Str}{p:Pos}(hc:CallR X (.builtin id) r)(hF:zNI X W r F)(hg:Gl X x)(hm:X.mg x=none)(hv:bootBuiltins x=some (.builtin id))(ha:PAm X W (e::es) af)
  (hn:x≠"__name__":=by decide) (hdb:(x==("__debug__":Str))=false:=by decide)
  (he:starEach (e::es) X.env=(false,eval e X.env)::starEach es X.env:=by rfl) (hpl:(backTo pos (starEach es X.env)).any (·.1)=false:=by rfl):PEm X W (.Call (.Name x p) (e::es) [] pos) (λρ S=>(af ρ S).bind F):=by
 obtain⟨t,ha,k⟩:=ha
 exact⟨_,yJA hc hg hm hv ha hn hdb he hpl,λα ρ S σ H Q wd sl q=>k α ρ S σ H _ wd sl (q.bind λvs rs S1 α1 H1 e1 x1 w1 d1 q1=>hF rs vs α1 S1 H1 Q w1 (ArgsE.x d1) (q1.shift x1))⟩
theorem jM{T:String}{r:List V->Hp->VK->Prop}{F:List Er->Sto->R Er}{x:Str}{p:Pos}(hc:CallR X (.type T) r)(hF:zNI X W r F)(hg:Gl X x)(hm:X.mg x=none)(hv:bootBuiltins x=some (.type T))(ha:PAm X W (e::es) af)
  (hn:x≠"__name__":=by decide) (hdb:(x==("__debug__":Str))=false:=by decide)
  (he:starEach (e::es) X.env=(false,eval e X.env)::starEach es X.env:=by rfl) (hpl:(backTo pos (starEach es X.env)).any (·.1)=false:=by rfl):PEm X W (.Call (.Name x p) (e::es) [] pos) (λρ S=>(af ρ S).bind F):=by
 obtain⟨t,ha,k⟩:=ha
 exact⟨_,zVN hc hg hm hv ha hn hdb he hpl,λα ρ S σ H Q wd sl q=>k α ρ S σ H _ wd sl (q.bind λvs rs S1 α1 H1 e1 x1 w1 d1 q1=>hF rs vs α1 S1 H1 Q w1 (ArgsE.x d1) (q1.shift x1))⟩
def MtdM(X:Cx)(W:XW)(r:V->List V->Hp->VK->Prop)(F:Er->List Er->Sto->R Er):Prop:= ∀p rs x vs α S H0 H Q α0,Wd X.g α S H->Ext α0 H0 α H->DenX X.K α H p x->ArgsE X.K H0 α H rs vs->Post X.g W α0 H0 (F p rs S) Q->r x vs H Q
def TyM(X:Cx)(T:String)(ty:Er->Sto->Bool):Prop:= ∀p x α S H,Wd X.g α S H->DenX X.K α H p x->ty p S=true->tyV X.K T x H
theorem zWZ{T:String}{name:Str}{id:String}{r:V->List V->Hp->VK->Prop}{F:Er->List Er->Sto->R Er}{ty:Er->Sto->Bool}{apos:Pos}(pa:PlainAttrs T)(slot:Slot T name id)(hty:typeOf (.builtin id)=pure (.type "method_descriptor"))(hm:MtR X id r)(hF:MtdM X W r F)(hT:TyM X T ty)
  (ho:PEm X W a f) (ha:PAm X W (e::es) af)
  (hbase:attributeBase a name X.env (eval a X.env)=eval a X.env:=by rfl)
  (hfew:((backTo pos (starEach (e::es) X.env)).all (λx=>!x.1)&&(backToKw pos (keywordEach [] X.env)).all (λx=>x.1.isSome)
   &&decide ((e::es).length+([]:List Keyword).length+(if([]:List Keyword).isEmpty then 0 else 1)<30))=true:=by rfl)
  (hline:(apos.endLine==pos.line)=true:=by rfl) (hs:starEach (e::es) X.env=(false,eval e X.env)::starEach es X.env:=by rfl) (hplain:(backTo pos (starEach es X.env)).any (·.1)=false:=by rfl):
  PEm X W (.Call (.Attribute a name apos) (e::es) [] pos) (λρ S=>(f ρ S).bind λp S1=>if ty p S1=true then(af ρ S1).bind λrs S2=>F p rs S2 else .no):=by
 obtain⟨to,ho,fo⟩:=ho
 obtain⟨t,ha,k⟩:=ha
 refine⟨_,pe_bm pa slot hty hm ho ha hbase hfew hline hs hplain,λα ρ S σ H Q wd sl q=>fo α ρ S σ H _ wd sl (q.bind λu p S1 α1 H1 e1 x1 w1 d1 q1=>?_)⟩
 split at q1
 ·rename_i hz
  exact⟨hT p u α1 S1 H1 w1 d1.1 hz,k α1 ρ S1 σ H1 _ w1 (sl.ext x1) ((q1.shift x1).bind λvs rs S2 α2 H2 e2 x2 w2 d2 q2=>hF p rs u vs α2 S2 H1 H2 Q α1 w2 x2 (d1.1.ext x2) d2 q2)⟩
 ·exact q1.elim
theorem gS:POm X W none (λ_ S=>.ok none S):=⟨_,yMV,λα ρ S σ H Q wd sl q=>q.here wd rfl⟩
def asI:Er->Sto->R (Option Int)
 |.val (.int i),S=>.ok (some i) S
 |_,_=>.no
theorem gT(ha:PEm X W a f):POm X W (some a) (λρ S=>(f ρ S).bind asI):=by
 obtain⟨ta,ha,fa⟩:=ha
 refine⟨_,yMW ha,λα ρ S σ H Q wd sl q=>fa α ρ S σ H _ wd sl (q.bind λu p S1 α1 H1 e1 x1 w1 d1 q1=>?_)⟩
 unfold asI at q1
 split at q1
 ·exact⟨_,xL d1.1,(q1.shift x1).here w1 rfl⟩
 ·exact q1.elim
def Sl3(X:Cx)(W:XW)(r:V->Option Int->Option Int->Hp->VK->Prop)(F:Er->Option Int->Option Int->Sto->R Er):Prop:= ∀p lo hi x α S H Q,Wd X.g α S H->DenX X.K α H p x->Post X.g W α H (F p lo hi S) Q->r x lo hi H Q
theorem yJO{lo hi:Option Expr}{r:V->Option Int->Option Int->Hp->VK->Prop}{F:Er->Option Int->Option Int->Sto->R Er}{lf hf:Rho->Sto->R (Option Int)}{p2:Pos}(hr:SlR X r)(hF:Sl3 X W r F)(ha:PEm X W a f)(hl:POm X W lo lf)(hh:POm X W hi hf):
  PEm X W (.Subscript a (.Slice lo hi none p2) pos) (λρ S=>(f ρ S).bind λp S1=>(lf ρ S1).bind λl S2=>(hf ρ S2).bind λu S3=>F p l u S3):=by
 obtain⟨ta,ha,fa⟩:=ha
 obtain⟨tl,hl,fl⟩:=hl
 obtain⟨th,hh,fh⟩:=hh
 refine⟨_,yJC hr ha hl hh,λα ρ S σ H Q wd sl q=>fa α ρ S σ H _ wd sl (q.bind λu p S1 α1 H1 e1 x1 w1 d1 q1=>fl α1 ρ S1 σ H1 _ w1 (sl.ext x1) ((q1.shift x1).bind λu2 l S2 α2 H2 e2 x2 w2 d2 q2=>
  fh α2 ρ S2 σ H2 _ w2 ((sl.ext x1).ext x2) ((q2.shift x2).bind λu3 m S3 α3 H3 e3 x3 w3 d3 q3=>?_)))⟩
 cases d2
 cases d3
 exact hF p u2 u3 u α3 S3 H3 Q w3 ((d1.1.ext x2).ext x3) (q3.shift x3)
end
inductive Fl where
 |next (ρ:Rho)|ret (r:Er)|brk (ρ:Rho)|cont (ρ:Rho)
abbrev AX:=Rho->Sto->R Er
abbrev AY:=Rho->Sto->R Fl
abbrev AZ:=Rho->Sto->R Bool
def PostS(g:Gm)(W:XW)(α:List Addr)(H:Hp)(D:Ends):R Fl->Prop
 |.ok (.next ρ) S=> ∀σ α' H',Ext α H α' H'->Wd g α' S H'->Slots g.K α' H' ρ σ->D.nx σ H'
 |.ok (.ret r) S=> ∀v α' H',Ext α H α' H'->Wd g α' S H'->DenE g.K H α' H' r v->D.rt v H'
 |.ok (.brk ρ) S=> ∀σ α' H',Ext α H α' H'->Wd g α' S H'->Slots g.K α' H' ρ σ->D.bk σ H'
 |.ok (.cont ρ) S=> ∀σ α' H',Ext α H α' H'->Wd g α' S H'->Slots g.K α' H' ρ σ->D.ct σ H'
 |.exc c fs S=> ∀α' H',Ext α H α' H'->Wd g α' S H'->W c fs S α' H'
 |.no=>False
section
variable{g:Gm}{W:XW}{α α':List Addr}{H H':Hp}{D D':Ends}
theorem PostS.shift(x:Ext α H α' H'): ∀{m:R Fl},PostS g W α H D m->PostS g W α' H' D m
 |.ok (.next ρ) S,q=>λσ α2 H2 x2 w2 s2=>q σ α2 H2 (x.trans x2) w2 s2
 |.ok (.ret r) S,q=>λv α2 H2 x2 w2 d2=>q v α2 H2 (x.trans x2) w2 (d2.back λb h=>x.free h)
 |.ok (.brk ρ) S,q=>λσ α2 H2 x2 w2 s2=>q σ α2 H2 (x.trans x2) w2 s2
 |.ok (.cont ρ) S,q=>λσ α2 H2 x2 w2 s2=>q σ α2 H2 (x.trans x2) w2 s2
 |.exc c fs S,q=>λα2 H2 x2 w2=>q α2 H2 (x.trans x2) w2
 |.no,q=>q
theorem PostS.expr{β τ:Type}[Dn β τ]{m:R β}{k:β->Sto->R Fl}{Q':τ->Hp->Prop}(q:PostS g W α H D (m.bind k))
  (f: ∀u b S1 α1 H1,m=.ok b S1->Ext α H α1 H1->Wd g α1 S1 H1->Dn.d g H α1 S1 H1 b u->PostS g W α H D (k b S1)->Q' u H1):Post g W α H m Q':=by
 cases m with
 |ok b S=>exact λu α1 H1 x w d=>f u b S α1 H1 rfl x w d q
 |exc c fs S=>exact q
 |no=>exact q
theorem PostS.stmt{m:R Fl}{k:Fl->Sto->R Fl}(q:PostS g W α H D (m.bind k))
  (hn: ∀ρ S σ α1 H1,m=.ok (.next ρ) S->Ext α H α1 H1->Wd g α1 S H1->Slots g.K α1 H1 ρ σ->PostS g W α H D (k (.next ρ) S)->D'.nx σ H1)
  (hr: ∀r S v α1 H1,m=.ok (.ret r) S->Ext α H α1 H1->Wd g α1 S H1->DenE g.K H α1 H1 r v->PostS g W α H D (k (.ret r) S)->D'.rt v H1)
  (hb: ∀ρ S σ α1 H1,m=.ok (.brk ρ) S->Ext α H α1 H1->Wd g α1 S H1->Slots g.K α1 H1 ρ σ->PostS g W α H D (k (.brk ρ) S)->D'.bk σ H1)
  (hc: ∀ρ S σ α1 H1,m=.ok (.cont ρ) S->Ext α H α1 H1->Wd g α1 S H1->Slots g.K α1 H1 ρ σ->PostS g W α H D (k (.cont ρ) S)->D'.ct σ H1):PostS g W α H D' m:=by
 cases m with
 |ok fl S=>
  cases fl with
  |next ρ=>exact λσ α1 H1 x w s=>hn ρ S σ α1 H1 rfl x w s q
  |ret r=>exact λv α1 H1 x w d=>hr r S v α1 H1 rfl x w d q
  |brk ρ=>exact λσ α1 H1 x w s=>hb ρ S σ α1 H1 rfl x w s q
  |cont ρ=>exact λσ α1 H1 x w s=>hc ρ S σ α1 H1 rfl x w s q
 |exc c fs S=>exact q
 |no=>exact q
end
def PSm(X:Cx)(W:XW)(st:Stmt)(F:AY):Prop:=
 ∃t,PS X st t/\ ∀α ρ S σ H D,Wd X.g α S H->Slots X.K α H ρ σ->PostS X.g W α H D (F ρ S)->t D σ H
def zZR(X:Cx)(W:XW)(st:List Stmt)(F:AY):Prop:=
 ∃t,PSs X st t/\ ∀α ρ S σ H D,Wd X.g α S H->Slots X.K α H ρ σ->PostS X.g W α H D (F ρ S)->t D σ H
def zU(F G:AY):AY:=λρ S=>(F ρ S).bind λfl S1=>match fl with
 |.next ρ'=>G ρ' S1
 |.ret r=>.ok (.ret r) S1
 |.brk ρ'=>.ok (.brk ρ') S1
 |.cont ρ'=>.ok (.cont ρ') S1
section
variable{X:Cx}{W:XW}{st:Stmt}{sts as bs:List Stmt}{F G:AY}{f g:AX}{tf:AZ}{e c:Expr}{pos:Pos}
theorem yN:zZR X W [] (λρ S=>.ok (.next ρ) S):=⟨_,yMJ,λα ρ S σ H D wd sl q=>q σ α H (Ext.refl α H) wd sl⟩
theorem zN(h:PSm X W st F):zZR X W [st] F:=let ⟨t,h,k⟩:=h;⟨t,yEE h,k⟩
theorem zG(h1:PSm X W st F)(h2:zZR X W sts G):zZR X W (st::sts) (zU F G):=by
 obtain⟨t,h1,k1⟩:=h1
 obtain⟨u,h2,k2⟩:=h2
 refine⟨_,yIP h1 h2,λα ρ S σ H D wd sl q=>k1 α ρ S σ H _ wd sl (q.stmt ?_ ?_ ?_ ?_)⟩
 ·intro ρ1 S1 σ1 α1 H1 e x1 w1 s1 q1
  exact k2 α1 ρ1 S1 σ1 H1 D w1 s1 (PostS.shift x1 q1)
 ·intro r S1 v α1 H1 e x1 w1 d1 q1
  exact q1 v α1 H1 x1 w1 d1
 ·intro ρ1 S1 σ1 α1 H1 e x1 w1 s1 q1
  exact q1 σ1 α1 H1 x1 w1 s1
 ·intro ρ1 S1 σ1 α1 H1 e x1 w1 s1 q1
  exact q1 σ1 α1 H1 x1 w1 s1
theorem zQ(he:PEm X W e f):PSm X W (.Return (some e) pos) (λρ S=>(f ρ S).bind λr S1=>.ok (.ret r) S1):=by
 obtain⟨t,he,k⟩:=he
 exact⟨_,yQT he,λα ρ S σ H D wd sl q=>k α ρ S σ H _ wd sl (q.expr λu r S1 α1 H1 e x1 w1 d1 q1=>q1 u α1 H1 x1 w1 d1)⟩
theorem kF(he:PEm X W e f)(hs:swapsWith e none pos.line X.env=pure false:=by rfl):PSm X W (.Expr e pos) (λρ S=>(f ρ S).bind λ_ S1=>.ok (.next ρ) S1):=by
 obtain⟨t,he,k⟩:=he
 exact⟨_,yMK he hs,λα ρ S σ H D wd sl q=>k α ρ S σ H _ wd sl (q.expr λu r S1 α1 H1 e x1 w1 d1 q1=>q1 σ α1 H1 x1 w1 (sl.ext x1))⟩
theorem xI(hc:PTm X W c tf)(ha:zZR X W as F)(hb:zZR X W bs G):PSm X W (.If c as bs pos) (λρ S=>(tf ρ S).bind λk S1=>if k=true then F ρ S1 else G ρ S1):=by
 obtain⟨tc,hc,kc⟩:=hc
 obtain⟨ta,ha,ka⟩:=ha
 obtain⟨tb,hb,kb⟩:=hb
 refine⟨_,ps_if hc ha hb,λα ρ S σ H D wd sl q=>kc α ρ S σ H _ wd sl (q.expr λu p S1 α1 H1 e x1 w1 d1 q1=>?_)⟩
 cases d1
 cases u with
 |true=>rw [iP rfl]at q1 ⊢; exact ka α1 ρ S1 σ H1 D w1 (sl.ext x1) (PostS.shift x1 q1)
 |false=>rw [iN xF0]at q1 ⊢; exact kb α1 ρ S1 σ H1 D w1 (sl.ext x1) (PostS.shift x1 q1)
instance:Dn Rho St:=⟨λg _ α' _ H' ρ σ=>Slots g.K α' H' ρ σ,λ_ q=>q⟩
def PGm(X:Cx)(W:XW)(tg:Expr)(gf:MV->Rho->Sto->R Rho):Prop:=
 ∃t,PG X tg t/\ ∀α ρ S σ H d v Q,Wd X.g α S H->Slots X.K α H ρ σ->Den X.K α H d v->Post X.g W α H (gf d ρ S) Q->t v σ H Q
def PGsm(X:Cx)(W:XW)(tgs:List Expr)(gf:List MV->Rho->Sto->R Rho):Prop:=
 ∃t,PGs X tgs t/\ ∀α ρ S σ H ds vs Q,Wd X.g α S H->Slots X.K α H ρ σ->DenL X.K α H ds vs->Post X.g W α H (gf ds ρ S) Q->t vs σ H Q
def gNm(i:Nat):MV->Rho->Sto->R Rho:=λd ρ S=>.ok (ρ.set i (some d)) S
theorem yL(i:Nat){x:Str}(hN:X.N.Nodup)(hi:X.N[i]? =some x:=by rfl)(hx:Loc X.env.scope x:=by first |exact Or.inl rfl|exact Or.inr rfl)(hf:X.fn x=true\/X.env.scope.names.lookup x=some .local:=by first |exact .inl rfl|exact .inr rfl|assumption):
  PGm X W (.Name x pos) (gNm i):=⟨_,yEF hN hi hx hf,λα ρ S σ H d v Q wd sl de q=>Post.here (b:=ρ.set i (some d)) q wd (sl.set de)⟩
def wY:List MV->Rho->Sto->R Rho
 |[],ρ,S=>.ok ρ S
 |_,_,_=>.no
def zV(g1:MV->Rho->Sto->R Rho)(g2:List MV->Rho->Sto->R Rho):List MV->Rho->Sto->R Rho
 |d::ds,ρ,S=>(g1 d ρ S).bind λρ1 S1=>g2 ds ρ1 S1
 |_,_,_=>.no
theorem zLZ:PGsm X W [] wY:=⟨_,yEG,λα ρ S σ H ds vs Q wd sl de q=>by
 cases ds with
 |nil=>exact⟨de.isnil,Post.here (b:=ρ) q wd sl⟩
 |cons d ds=>exact q.elim⟩
theorem kG{es:List Expr}{g1:MV->Rho->Sto->R Rho}{g2:List MV->Rho->Sto->R Rho}(h1:PGm X W e g1)(h2:PGsm X W es g2)(hs:(assignEach (e::es) X.env).map (·.2)=assign e X.env::(assignEach es X.env).map (·.2):=by rfl):PGsm X W (e::es) (zV g1 g2):=by
 obtain⟨t1,h1,k1⟩:=h1
 obtain⟨t2,h2,k2⟩:=h2
 refine⟨_,zZK h1 h2 hs,λα ρ S σ H ds vs Q wd sl de q=>?_⟩
 cases ds with
 |nil=>exact q.elim
 |cons d ds=>
  obtain⟨v,r,rfl,a,l⟩:=de.uncons
  refine⟨v,r,rfl,k1 α ρ S σ H d v _ wd sl a (Post.bind q λu p S1 α1 H1 e x1 w1 d1 q1=>k2 α1 p S1 u H1 ds r Q w1 d1 (l.ext x1) (q1.shift x1))⟩
def gTp(n:Nat)(g2:List MV->Rho->Sto->R Rho):MV->Rho->Sto->R Rho
 |.tup ds,ρ,S=>if ds.length=n then g2 ds ρ S else .no
 |_,_,_=>.no
theorem zMA{es:List Expr}{k n:Nat}{g2:List MV->Rho->Sto->R Rho}(hc:X.calm=true)(h:PGsm X W es g2)
  (hn:(assignEach es X.env).length=n:=by rfl) (hst:(assignEach es X.env).findIdx? (·.1)=none:=by rfl):PGm X W (.Tuple es k pos) (gTp n g2):=by
 obtain⟨t,h,k⟩:=h
 refine⟨_,yIR hc h hn hst,λα ρ S σ H d v Q wd sl de q=>?_⟩
 unfold gTp at q
 split at q
 ·split at q
  ·rename_i hl
   obtain⟨a,vs,rfl,s,l⟩:=wG de
   exact⟨a,vs,rfl,s,by rw [l.length];exact hl,k α ρ S σ H _ vs Q wd sl l q⟩
  ·exact q.elim
 ·exact q.elim
def zAE(r:Er)(S:Sto):R MV:=match r with
 |.val d=>.ok d S
 |.new ds=>.ok (.loc S.length) (S++[.lst ds])
theorem zGB{g:Gm}{H0:Hp}{α0 α:List Addr}{H:Hp}{S:Sto}{r:Er}{v:V}(w:Wd g α S H)(x:Ext α0 H0 α H)(d:DenE g.K H0 α H r v):
  ∃d' S' α',zAE r S=.ok d' S'/\Ext α0 H0 α' H/\Ex0 α H α' H/\Wd g α' S' H/\Den g.K α' H d' v:=by
 cases r with
 |val d'=>exact⟨d',S,α,rfl,x,⟨⟨[],by simp⟩,λ_ _ h=>h,λ_ _ _ h=>h⟩,w,d.1⟩
 |new ds=>
  obtain⟨⟨c,us,rfl,h1,h2,h3⟩,h4⟩:=d
  exact⟨.loc S.length,S++[.lst ds],α++[c],rfl,w.enterx x (h4 c rfl) h2,Ex0.grow α [c] H,w.enter h1 h2 h3,zWX (by rw [<-w.len,getElem?_append_right (le_refl _),sub_self];rfl)⟩
def zXA(ρ:Rho)(i:Nat)(r:Er)(S:Sto):R Fl:=(zAE r S).bind λd S1=>.ok (.next (ρ.set i (some d))) S1
theorem zS(i:Nat){x:Str}{pos':Pos}(hN:X.N.Nodup)(he:PEm X W e f)(hi:X.N[i]? =some x:=by rfl)(hx:Loc X.env.scope x:=by first |exact Or.inl rfl|exact Or.inr rfl)
  (hs:swapsWith e (some (.Name x pos')) pos.line X.env=pure false:=by rfl) (hf:X.fn x=true\/X.env.scope.names.lookup x=some .local:=by first |exact .inl rfl|exact .inr rfl|assumption):
  PSm X W (.Assign [.Name x pos'] e pos) (λρ S=>(f ρ S).bind (zXA ρ i)):=by
 obtain⟨t,he,k⟩:=he
 refine⟨_,yQW hN hi hx he hs hf,λα ρ S σ H D wd sl q=>k α ρ S σ H _ wd sl (q.expr λu r S1 α1 H1 e x1 w1 d1 q1=>?_)⟩
 obtain⟨d',S',α',e1,x',y',w',de⟩:=zGB w1 x1 d1
 unfold zXA at q1
 rw [e1]at q1
 exact q1 _ α' H1 x' w' (((sl.ext x1).ex0 y').set de)
def asgF(gf:MV->Rho->Sto->R Rho)(ρ:Rho)(r:Er)(S:Sto):R Fl:=(zAE r S).bind λd S1=>(gf d ρ S1).bind λρ' S2=>.ok (.next ρ') S2
theorem yJP{tg:Expr}{gf:MV->Rho->Sto->R Rho}(he:PEm X W e f)(hg:PGm X W tg gf)(hs:swapsWithSole [tg] e pos.line X.env=pure false:=by rfl)(hw:swappedStores [tg] e X.env=pure none:=by rfl)
  (h1:(assignEach [tg] X.env).map (·.2)=[assign tg X.env]:=by rfl):PSm X W (.Assign [tg] e pos) (λρ S=>(f ρ S).bind (asgF gf ρ)):=by
 obtain⟨t,he,k⟩:=he
 obtain⟨tg',hg,kg⟩:=hg
 refine⟨_,yQV he hg hs hw h1,λα ρ S σ H D wd sl q=>k α ρ S σ H _ wd sl (q.expr λu r S1 α1 H1 e x1 w1 d1 q1=>?_)⟩
 obtain⟨d',S',α',e1,x',y',w',de⟩:=zGB w1 x1 d1
 unfold asgF at q1
 rw [e1]at q1
 have q1:PostS X.g W α H D ((gf d' ρ S').bind λρ' S2=>.ok (.next ρ') S2):=q1
 exact kg α' ρ S' σ H1 d' u _ w' ((sl.ext x1).ex0 y') de ((PostS.shift x' q1).expr λσ2 ρ2 S2 α2 H2 e2 x2 w2 s2 q2=>q2 σ2 α2 H2 x2 w2 s2)
structure Wk where
 ds:List MV
 gs:List (Nat×List MV)
def stay(gs:List (Nat×List MV))(S:Sto):Prop:= ∀p∈gs,S[p.1]? =some (.lst p.2)
def ItM(g:Gm)(J:It)(P:List Addr->Sto->Hp->Prop)(ds:List MV):Prop:= ∀i α S H,P α S H->Wd g α S H->(i<ds.length->J.go i H/\ ∀x H',J.yld i H x H'->Ext α H α H'/\Wd g α S H'/\P α S H'/\ ∃d,ds[i]? =some d/\Den g.K α H' d x)/\(ds.length<=i->J.stop i H)
structure WkD(g:Gm)(α:List Addr)(S:Sto)(H:Hp)(k:Wk)(J:It)(P:List Addr->Sto->Hp->Prop):Prop where
 it:ItM g J P k.ds
 here:P α S H
 stays: ∀α1 S1 H1 α2 S2 H2,P α1 S1 H1->Ext α1 H1 α2 H2->Wd g α2 S2 H2->stay k.gs S2->P α2 S2 H2
 st:stay k.gs S
instance:Dn Wk It:=⟨λg _ α S H k J=> ∃P,WkD g α S H k J P,λ_ q=>q⟩
abbrev PIm(X:Cx)(W:XW)(tg iter:Expr)(f:Rho->Sto->R Wk):Prop:=Jd X W (PI X tg iter) f
variable{tg iter:Expr}
theorem zRW{a:Addr}{ds:List MV}:ItM X.g (Itl X.K a) (λα S H=> ∃vs,SqL X.K H a vs/\DenL X.K α H ds vs) ds:=by
 intro i α S H ⟨vs,s,l⟩ w
 have hl:=l.length
 refine⟨λhi=>?_,λhi=>⟨vs,s,by omega⟩⟩
 have hv:i<vs.length:=by omega
 refine⟨⟨vs,vs[i],s,gE0 hv⟩,λx H' y=>?_⟩
 obtain⟨rfl,y⟩:=y
 obtain⟨d,h1,h2⟩:=l.get (y vs s)
 exact⟨Ext.refl _ _,w,⟨vs,s,l⟩,d,h1,h2⟩
theorem yNH{a:Addr}{ds:List MV}:ItM X.g (Itt X.K a) (λα S H=> ∃vs,SqT X.K H a vs/\DenL X.K α H ds vs) ds:=by
 intro i α S H ⟨vs,s,l⟩ w
 have hl:=l.length
 refine⟨λhi=>?_,λhi=>⟨vs,s,by omega⟩⟩
 have hv:i<vs.length:=by omega
 refine⟨⟨vs,vs[i],s,gE0 hv⟩,λx H' y=>?_⟩
 obtain⟨rfl,y⟩:=y
 obtain⟨d,h1,h2⟩:=l.get (y vs s)
 exact⟨Ext.refl _ _,w,⟨vs,s,l⟩,d,h1,h2⟩
theorem yHE{lo:Int}{n:Nat}:ItM X.g (Itr lo n) (λ_ _ _=>True) ((List.range n).map λk=>.int (lo+(k:Nat))):=by
 intro i α S H _ w
 refine⟨λhi=>⟨show i<n by simpa using hi,λv H' y=>?_⟩,λhi=>by show n<=i;simpa using hi⟩
 obtain⟨rfl,y⟩:=y
 have hi':i<n:=by simpa using hi
 refine⟨Ext.refl _ _,w,trivial,.int (lo+i),by rw [getElem?_map,List.getElem?_range hi'];rfl,?_⟩
 rw [y]
 exact jL _
def itL:Er->Sto->R Wk
 |.new ds,S=>.ok ⟨ds,[]⟩ S
 |.val (.scr ds),S=>.ok ⟨ds,[]⟩ S
 |.val (.loc l),S=>match S[l]? with
  |some (.lst ds)=>.ok ⟨ds,[(l,ds)]⟩ S
  |_=>.no
 |_,_=>.no
theorem nR{S:Sto}:stay [] S:=λp h=>by simp at h
theorem zDE(he:PEm X W iter f):PIm X W tg iter (λρ S=>(f ρ S).bind itL):=by
 obtain⟨t,he,k⟩:=he
 refine⟨_,yML he,λα ρ S σ H Rc wd sl q=>k α ρ S σ H _ wd sl (q.bind λu p S1 α1 H1 e x1 w1 d1 q1=>?_)⟩
 replace q1:=q1.shift x1
 unfold itL at q1
 split at q1
 ·rename_i S0 ds
  obtain⟨⟨b,vs,rfl,h1,h2,h3⟩,h4⟩:=d1
  refine⟨b,rfl,⟨vs,.of h1⟩,q1.here (u:=Itl X.K b) w1 ⟨λα2 S2 H2=> ∃vs,SqL X.K H2 b vs/\DenL X.K α2 H2 ds vs/\H2 b=some (.lst vs)/\b∉α2,?_,⟨vs,.of h1,h3,h1,h2⟩,?_,nR⟩⟩
  ·intro i α2 S2 H2 ⟨vs2,a1,a2,a3,a4⟩ w2
   obtain⟨i1,i2⟩:=zRW (X:=X) (a:=b) (ds:=ds) i α2 S2 H2 ⟨vs2,a1,a2⟩ w2
   refine⟨λhi=>⟨(i1 hi).1,λx H' y=>?_⟩,i2⟩
   obtain⟨j1,j2,j3,j4⟩:=(i1 hi).2 x H' y
   obtain⟨rfl,_⟩:=y
   exact⟨j1,j2,⟨vs2,a1,a2,a3,a4⟩,j4⟩
  ·intro α2 S2 H2 α3 S3 H3 ⟨vs2,a1,a2,a3,a4⟩ x w3 _
   exact⟨vs2,.of (x.keep b _ a3 a4),a2.ext x,x.keep b _ a3 a4,x.out a3 a4⟩
 ·rename_i S0 ds
  obtain⟨a,vs,rfl,s,l⟩:=zWY d1.1
  refine⟨a,rfl,⟨vs,s.l⟩,q1.here (u:=Itl X.K a) w1 ⟨λα2 S2 H2=> ∃vs,SqL X.K H2 a vs/\DenL X.K α2 H2 ds vs/\SqF X.K H2 a vs,?_,⟨vs,s.l,l,s⟩,?_,nR⟩⟩
  ·intro i α2 S2 H2 ⟨vs2,a1,a2,a3⟩ w2
   obtain⟨i1,i2⟩:=zRW (X:=X) (a:=a) (ds:=ds) i α2 S2 H2 ⟨vs2,a1,a2⟩ w2
   refine⟨λhi=>⟨(i1 hi).1,λx H' y=>?_⟩,i2⟩
   obtain⟨j1,j2,j3,j4⟩:=(i1 hi).2 x H' y
   obtain⟨rfl,_⟩:=y
   exact⟨j1,j2,⟨vs2,a1,a2,a3⟩,j4⟩
  ·intro α2 S2 H2 α3 S3 H3 ⟨vs2,a1,a2,a3⟩ x w3 _
   exact⟨vs2,(x.sqF a3).l,a2.ext x,x.sqF a3⟩
 ·rename_i S0 n
  obtain⟨a,rfl,h⟩:=zLX d1.1
  obtain⟨o,h1,h2⟩:=w1.of h
  rw [h1]at q1
  cases o with
  |lst ds=>
   obtain⟨vs,h3,l⟩:=h2
   refine⟨a,rfl,⟨vs,.of h3⟩,Post.here (b:=(⟨ds,[(n,ds)]⟩:Wk)) q1 (u:=Itl X.K a) w1 ⟨λα2 S2 H2=> ∃vs,SqL X.K H2 a vs/\DenL X.K α2 H2 ds vs/\α2[n]? =some a,?_,⟨vs,.of h3,l,h⟩,?_,?_⟩⟩
   ·intro i α2 S2 H2 ⟨vs2,a1,a2,a3⟩ w2
    obtain⟨i1,i2⟩:=zRW (X:=X) (a:=a) (ds:=ds) i α2 S2 H2 ⟨vs2,a1,a2⟩ w2
    refine⟨λhi=>⟨(i1 hi).1,λx H' y=>?_⟩,i2⟩
    obtain⟨j1,j2,j3,j4⟩:=(i1 hi).2 x H' y
    obtain⟨rfl,_⟩:=y
    exact⟨j1,j2,⟨vs2,a1,a2,a3⟩,j4⟩
   ·intro α2 S2 H2 α3 S3 H3 ⟨vs2,a1,a2,a3⟩ x w3 hs
    have a3':=x.at a3
    have:=w3.obj n a _ a3' (hs (n,ds) (by simp))
    obtain⟨vs3,b1,b2⟩:=this
    exact⟨vs3,.of b1,b2,a3'⟩
   ·intro p hp
    have:p=(n,ds):=by simpa using hp
    subst this
    exact h1
  |dic ds=>exact q1.elim
  |ins c fs=>exact q1.elim
 ·exact q1.elim
def itT:Er->Sto->R Wk
 |.val (.tup ds),S=>.ok ⟨ds,[]⟩ S
 |_,_=>.no
theorem dI(he:PEm X W iter f):PIm X W tg iter (λρ S=>(f ρ S).bind itT):=by
 obtain⟨t,he,k⟩:=he
 refine⟨_,yQX he,λα ρ S σ H Rc wd sl q=>k α ρ S σ H _ wd sl (q.bind λu p S1 α1 H1 e x1 w1 d1 q1=>?_)⟩
 replace q1:=q1.shift x1
 unfold itT at q1
 split at q1
 ·rename_i S0 ds
  obtain⟨a,vs,rfl,s,l⟩:=zCA d1.1
  exact⟨a,rfl,⟨vs,s⟩,q1.here (u:=Itt X.K a) w1 ⟨_,yNH,⟨vs,s,l⟩,λα2 S2 H2 α3 S3 H3 ⟨vs2,a1,a2⟩ x w3 _=>⟨vs2,x.sqT a1,a2.ext x⟩,nR⟩⟩
 ·exact q1.elim
def zCB:List Er->Sto->R Wk
 |[.val (.int j)],S=>if -(2 ^ 62)<=j/\j<2 ^ 62 then .ok ⟨(List.range j.toNat).map λk=>.int (k:Nat),[]⟩ S else .no
 |_,_=>.no
variable{af:Rho->Sto->R (List Er)}{p:Pos}{a b:Expr}
theorem zZS{K:PySem.W.Frag}{H0:Hp}{α:List Addr}{H:Hp}{r:Er}{vs:List V}(d:ArgsE K H0 α H [r] vs): ∃v,vs=[v]/\DenX K α H r v:=by
 cases d with
 |cons a n l=>cases l;exact⟨_,rfl,a.1⟩
theorem wI(hg:Gl X "range")(hm:X.mg "range"=none)(ha:PAm X W [a] af)(hs:starEach [a] X.env=[(false,eval a X.env)]:=by rfl):PIm X W tg (.Call (.Name "range" p) [a] [] pos) (λρ S=>(af ρ S).bind zCB):=by
 obtain⟨t,ha,k⟩:=ha
 refine⟨_,yGR hg hm ha hs,λα ρ S σ H Rc wd sl q=>k α ρ S σ H _ wd sl (q.bind λvs rs S1 α1 H1 e x1 w1 d1 q1=>?_)⟩
 replace q1:=q1.shift x1
 unfold zCB at q1
 split at q1
 ·split at q1
  ·rename_i S0 j hj
   obtain⟨v,rfl,dv⟩:=zZS d1
   cases xL dv
   have:=yHE (X:=X) (lo:=0) (n:=j.toNat)
   simp only [Int.zero_add]at this
   exact⟨j,rfl,hj.1,hj.2,q1.here (u:=Itr 0 j.toNat) w1 ⟨_,this,trivial,λ_ _ _ _ _ _ _ _ _ _=>trivial,nR⟩⟩
  ·exact q1.elim
 ·exact q1.elim
open Classical in
noncomputable def zCC(gf:MV->Rho->Sto->R Rho)(body:AY)(gs:List (Nat×List MV)):List MV->AY
 |[],ρ,S=>.ok (.next ρ) S
 |d::ds,ρ,S=>(gf d ρ S).bind λρ0 S0=>(body ρ0 S0).bind λfl S1=>match fl with
  |.next ρ'=>if stay gs S1 then zCC gf body gs ds ρ' S1 else .no
  |.cont ρ'=>if stay gs S1 then zCC gf body gs ds ρ' S1 else .no
  |.brk ρ'=>.ok (.next ρ') S1
  |.ret r=>.ok (.ret r) S1
open Classical in
theorem kH{itf:Rho->Sto->R Wk}{gf:MV->Rho->Sto->R Rho}(hp:PassesOwn (model X.prog X.w) X.A X.env X.xe)(hc:X.calm=true)(hi:PIm X W tg iter itf)(hg:PGm X W tg gf)(hb:zZR X W as F)
  (hs: ∀y,foldedSetIterable iter X.env y=pure y:=by intro _;rfl):PSm X W (.For tg iter as [] pos) (λρ S=>(itf ρ S).bind λk S1=>zCC gf F k.gs k.ds ρ S1):=by
 obtain⟨wi,hi,ki⟩:=hi
 obtain⟨tg',hg,kg⟩:=hg
 obtain⟨tb,hb,kb⟩:=hb
 refine⟨_,yQY hp hc hi hg hb hs,λα ρ S σ H D wd sl q=>ki α ρ S σ H _ wd sl (q.expr λJ k S1 α1 H1 e x1 w1 d1 q1=>?_)⟩
 obtain⟨P,hP⟩:=d1
 have sl1:=sl.ext x1
 replace q1:=PostS.shift x1 q1
 refine⟨λn m σ2 H2=>m=k.ds.length - n/\n<=k.ds.length/\ ∃α2 ρ2 S2,Wd X.g α2 S2 H2/\Slots X.K α2 H2 ρ2 σ2/\P α2 S2 H2/\PostS X.g W α2 H2 D (zCC gf F k.gs (k.ds.drop n) ρ2 S2),⟨_,rfl,zero_le _,α1,ρ,S1,w1,sl1,hP.here,by simpa using q1⟩,?_⟩
 rintro n m σ2 H2 ⟨rfl,hn,α2,ρ2,S2,w2,sl2,p2,q2⟩
 obtain⟨i1,i2⟩:=hP.it n α2 S2 H2 p2 w2
 by_cases hlt:n<k.ds.length
 ·obtain⟨go,yl⟩:=i1 hlt
  refine .inr ⟨go,λσ3 H3=> ∃α3 ρ3 S3,Wd X.g α3 S3 H3/\Slots X.K α3 H3 ρ3 σ3/\P α3 S3 H3/\PostS X.g W α3 H3 D (zCC gf F k.gs (k.ds.drop (n+1)) ρ3 S3),λσ3 H3 ⟨α3,ρ3,S3,h3⟩=>⟨k.ds.length - (n+1),by omega,rfl,hlt,α3,ρ3,S3,h3⟩,λv H3 y=>?_⟩
  obtain⟨x3,w3,p3,d,hd,dv⟩:=yl v H3 y
  have hdrop:k.ds.drop n=d::k.ds.drop (n+1):=by
   rw [drop_eq_getElem_cons hlt]
   have:=gE0 hlt
   rw [hd]at this
   rw [<-Option.some.inj this]
  rw [hdrop]at q2
  unfold zCC at q2
  replace q2:=PostS.shift x3 q2
  refine kg α2 ρ2 S2 σ2 H3 d v _ w3 (sl2.ext x3) dv (q2.expr λσ4 ρ4 S4 α4 H4 e4 x4 w4 s4 q4=>?_)
  have p4: ∀α5 S5 H5,Ext α4 H4 α5 H5->Wd X.g α5 S5 H5->stay k.gs S5->P α5 S5 H5:=λα5 S5 H5 x5 w5 s5=>hP.stays α2 S2 H3 α5 S5 H5 p3 (x4.trans x5) w5 s5
  refine kb α4 ρ4 S4 σ4 H4 _ w4 s4 ((PostS.shift x4 q4).stmt ?_ ?_ ?_ ?_)
  ·intro ρ5 S5 σ5 α5 H5 e5 x5 w5 s5 q5
   have q5':PostS X.g W α4 H4 D (if stay k.gs S5 then zCC gf F k.gs (k.ds.drop (n+1)) ρ5 S5 else .no):=q5
   split at q5'
   ·rename_i hst
    exact⟨α5,ρ5,S5,w5,s5,p4 α5 S5 H5 x5 w5 hst,PostS.shift x5 q5'⟩
   ·exact q5'.elim
  ·intro r S5 v5 α5 H5 e5 x5 w5 d5 q5
   exact q5 v5 α5 H5 x5 w5 d5
  ·intro ρ5 S5 σ5 α5 H5 e5 x5 w5 s5 q5
   exact q5 σ5 α5 H5 x5 w5 s5
  ·intro ρ5 S5 σ5 α5 H5 e5 x5 w5 s5 q5
   have q5':PostS X.g W α4 H4 D (if stay k.gs S5 then zCC gf F k.gs (k.ds.drop (n+1)) ρ5 S5 else .no):=q5
   split at q5'
   ·rename_i hst
    exact⟨α5,ρ5,S5,w5,s5,p4 α5 S5 H5 x5 w5 hst,PostS.shift x5 q5'⟩
   ·exact q5'.elim
 ·have e:n=k.ds.length:=by omega
  subst e
  refine .inl ⟨i2 (le_refl _),?_⟩
  rw [drop_length]at q2
  exact q2 σ2 α2 H2 (Ext.refl _ _) w2 sl2
end
def noX{β:Type}:R β->R β
 |.ok b S=>.ok b S
 |_=>.no
theorem yU{β:Type}(b:β)(S:Sto):noX (R.ok b S)=.ok b S:=rfl
theorem Post.bindY{β τ γ υ:Type}[Dn β τ][Dn γ υ]{g:Gm}{W:XW}{α α':List Addr}{H H':Hp}(x:Ext α H α' H'){m:R β}{k:β->Sto->R γ}{Q:υ->Hp->Prop}{Q':τ->Hp->Prop}(q:Post g W α H ((noX m).bind k) Q)
  (f: ∀u b S1 α1 H1,m=.ok b S1->Ext α' H' α1 H1->Wd g α1 S1 H1->Dn.d g H' α1 S1 H1 b u->Post g W α H (k b S1) Q->Q' u H1):Post g W0 α' H' m Q':=by
 cases m with
 |ok b S=>exact λu α1 H1 x w d=>f u b S α1 H1 rfl x w d q
 |exc c fs S=>exact q.elim
 |no=>exact q
theorem R.bind_assoc{β γ δ:Type}(m:R β)(k1:β->Sto->R γ)(k2:γ->Sto->R δ):(m.bind k1).bind k2=m.bind λb S=>(k1 b S).bind k2:=by cases m<;>rfl
def blk(nt:Nat)(idx:List Nat)(ρ:Rho):Rho:=List.replicate nt none++idx.map λi=>(ρ[i]?).join
open Classical in
noncomputable def xC(gf:MV->Rho->Sto->R Rho)(cf:AZ)(ef:AX)(ρb:Rho)(gs:List (Nat×List MV)):List MV->Sto->R (List MV)
 |[],S=>.ok [] S
 |d::ds,S=>(noX (gf d ρb S)).bind λρ1 S0=>(noX (cf ρ1 S0)).bind λk S1=>
  if k=true then(noX (ef ρ1 S1)).bind λr S2=>(zAE r S2).bind λy S3=>if stay gs S3 then(xC gf cf ef ρb gs ds S3).bind λout S4=>.ok (y::out) S4 else .no
  else if stay gs S1 then xC gf cf ef ρb gs ds S1 else .no
theorem yHF{K:PySem.W.Frag}{α:List Addr}{H:Hp}{ρ:Rho}{σ:St}(q:Slots K α H ρ σ)(nt:Nat)(idx:List Nat)(τ:St)(hτ:τ.length=nt):Slots K α H (blk nt idx ρ) (τ++zOP σ idx):=by
 refine⟨by unfold blk;rw [lA,lA,zDD,lM,length_replicate,hτ],λi d e=>?_⟩
 unfold blk at e
 by_cases hi:i<nt
 ·rw [getElem?_append_left (by rw [length_replicate];exact hi),List.getElem?_replicate]at e
  split at e<;>cases e
 ·rw [getElem?_append_right (by rw [length_replicate];omega),length_replicate,getElem?_map]at e
  cases z:idx[i - nt]? with
  |none=>rw [z]at e;cases e
  |some k=>
   rw [z]at e
   have e2:(ρ[k]?).join=some d:=Option.some.inj e
   cases z2:ρ[k]? with
   |none=>rw [z2]at e2;cases e2
   |some o=>
    rw [z2]at e2
    have e3:o=some d:=e2
    subst e3
    obtain⟨v,h1,h2⟩:=q.slot k d z2
    refine⟨v,?_,h2⟩
    rw [getElem?_append_right (by omega),hτ]
    unfold zOP
    rw [getElem?_map,z]
    show some (σ[k]?).join=some (some v)
    rw [h1];rfl
def Keeps(nt:Nat)(σ:St)(Q:St->Hp->Prop):St->Hp->Prop:=λσ' H'=>σ'.length=σ.length->(∀j,nt<=j->σ'[j]? =σ[j]?)->Q σ' H'
def PGn(nt:Nat)(X:Cx)(W:XW)(tg:Expr)(gf:MV->Rho->Sto->R Rho):Prop:=
 ∃t,PG X tg t/\ ∀α ρ S σ H d v Q,Wd X.g α S H->Slots X.K α H ρ σ->Den X.K α H d v->Post X.g W α H (gf d ρ S) (Keeps nt σ Q)->t v σ H Q
def PGsn(nt:Nat)(X:Cx)(W:XW)(tgs:List Expr)(gf:List MV->Rho->Sto->R Rho):Prop:=
 ∃t,PGs X tgs t/\ ∀α ρ S σ H ds vs Q,Wd X.g α S H->Slots X.K α H ρ σ->DenL X.K α H ds vs->Post X.g W α H (gf ds ρ S) (Keeps nt σ Q)->t vs σ H Q
section
variable{X:Cx}{W:XW}{e:Expr}{pos:Pos}{nt:Nat}
theorem yV(i:Nat){x:Str}(hN:X.N.Nodup)(hi:X.N[i]? =some x:=by rfl)(hx:Loc X.env.scope x:=by first |exact Or.inl rfl|exact Or.inr rfl)(hf:X.fn x=true\/X.env.scope.names.lookup x=some .local:=by first |exact .inl rfl|exact .inr rfl|assumption)(hlt:i<nt:=by decide):
  PGn nt X W (.Name x pos) (gNm i):=⟨_,yEF hN hi hx hf,λα ρ S σ H d v Q wd sl de q=>Post.here (b:=ρ.set i (some d)) q wd (sl.set de) (by rw [length_set]) λj hj=>by rw [getElem?_set_ne (by omega)]⟩
theorem yCW:PGsn nt X W [] wY:=⟨_,yEG,λα ρ S σ H ds vs Q wd sl de q=>by
 cases ds with
 |nil=>exact⟨de.isnil,Post.here (b:=ρ) q wd sl rfl λ_ _=>rfl⟩
 |cons d ds=>exact q.elim⟩
theorem Post.keeps{g:Gm}{W:XW}{α:List Addr}{H:Hp}{m:R Rho}{σ σ1:St}{Q:St->Hp->Prop}(h1:σ1.length=σ.length)(h2: ∀j,nt<=j->σ1[j]? =σ[j]?)(q:Post g W α H m (Keeps nt σ Q)):Post g W α H m (Keeps nt σ1 Q):=by
 cases m with
 |ok b S=>exact λu α1 H1 x w d k1 k2=>q u α1 H1 x w d (k1.trans h1) λj hj=>(k2 j hj).trans (h2 j hj)
 |exc c fs S=>exact q
 |no=>exact q
theorem zKW{es:List Expr}{g1:MV->Rho->Sto->R Rho}{g2:List MV->Rho->Sto->R Rho}(h1:PGn nt X W e g1)(h2:PGsn nt X W es g2)(hs:(assignEach (e::es) X.env).map (·.2)=assign e X.env::(assignEach es X.env).map (·.2):=by rfl):PGsn nt X W (e::es) (zV g1 g2):=by
 obtain⟨t1,h1,k1⟩:=h1
 obtain⟨t2,h2,k2⟩:=h2
 refine⟨_,zZK h1 h2 hs,λα ρ S σ H ds vs Q wd sl de q=>?_⟩
 cases ds with
 |nil=>exact q.elim
 |cons d ds=>
  obtain⟨v,r,rfl,a,l⟩:=de.uncons
  refine⟨v,r,rfl,k1 α ρ S σ H d v _ wd sl a (Post.bind q λu p S1 α1 H1 e x1 w1 d1 q1 k1 k2'=>k2 α1 p S1 u H1 ds r Q w1 d1 (l.ext x1) (Post.keeps k1 k2' (q1.shift x1)))⟩
theorem yCX{es:List Expr}{k n:Nat}{g2:List MV->Rho->Sto->R Rho}(hc:X.calm=true)(h:PGsn nt X W es g2)
  (hn:(assignEach es X.env).length=n:=by rfl) (hst:(assignEach es X.env).findIdx? (·.1)=none:=by rfl):PGn nt X W (.Tuple es k pos) (gTp n g2):=by
 obtain⟨t,h,k⟩:=h
 refine⟨_,yIR hc h hn hst,λα ρ S σ H d v Q wd sl de q=>?_⟩
 unfold gTp at q
 split at q
 ·split at q
  ·rename_i hl
   obtain⟨a,vs,rfl,s,l⟩:=wG de
   exact⟨a,vs,rfl,s,by rw [l.length];exact hl,k α ρ S σ H _ vs Q wd sl l q⟩
  ·exact q.elim
 ·exact q.elim
end
abbrev yJQ(X:Cx)(W:XW)(ifs:List Expr)(f:AZ):Prop:=Jd X W (yHB X ifs) f
section
variable{X:Cx}{W:XW}{iter:Expr}{c:Expr}{tf:AZ}{pos:Pos}
theorem jN:yJQ X W [] (λ_ S=>.ok true S):=⟨_,yJH,λα ρ S σ H Q wd sl q=>q.here wd rfl⟩
theorem zGQ(h:PTm X W c tf):yJQ X W [c] tf:=let ⟨t,h,k⟩:=h;⟨t,yJI h,k⟩
open Classical in
theorem yEO{elt tg:Expr}{ifs:List Expr}{sc:Scope}{itf:Rho->Sto->R Wk}{cf:AZ}{ef:AX}{gf:MV->Rho->Sto->R Rho}(osc:Scope)(N:List Str)(T:List Str)(idx:List Nat)
  (hi:PIm X W tg iter itf) (hcalm:X.calm=true)
  (hg: ∀C s₂ H1 fp,([]++T++idx.map λi=>(N[i]?).getD Str.empty).Nodup->PGn T.length (yM X sc T idx C s₂ H1 fp) W0 tg gf)
  (hc: ∀C s₂ H1 fp,yJQ (yM X sc T idx C s₂ H1 fp) W0 ifs cf) (he: ∀C s₂ H1 fp,PEm (yM X sc T idx C s₂ H1 fp) W0 elt ef)
  (e1:X.env.scope=osc:=by rfl) (e2:X.N=N:=by rfl) (hB:zPU osc N sc idx=true:=by decide+kernel) (hN:([]++T++idx.map λi=>(N[i]?).getD Str.empty).Nodup:=by decide+kernel)
  (hs: ∀y,foldedSetIterable iter X.env y=pure y:=by intro _;rfl):
  Jd (β:=Er) (τ:=V) X W (λt=>PE X (.ListComp elt [⟨tg,iter,ifs,0⟩] sc pos) t/\PU X (.ListComp elt [⟨tg,iter,ifs,0⟩] sc pos) t) (λρ S=>(itf ρ S).bind λk S1=>if k.ds.length<1000000 then(xC gf cf ef (blk T.length idx ρ) k.gs k.ds S1).bind λout S2=>.ok (.new out) S2 else .no):=by
 obtain⟨wi,hi,ki⟩:=hi
 subst e1 e2
 have big:(1000000:Nat)<sizeLine:=by rw [sizeLine_eq];decide
 have hg': ∃t,(∀C s₂ H1 fp,PG (yM X sc T idx C s₂ H1 fp) tg t)/\ ∀α ρ S σ H d v Q,Wd X.g α S H->Slots X.K α H ρ σ->Den X.K α H d v->Post X.g W0 α H (gf d ρ S) (Keeps T.length σ Q)->t v σ H Q:=by
  refine⟨λv σ H Q=> ∃α ρ S d,Wd X.g α S H/\Slots X.K α H ρ σ/\Den X.K α H d v/\Post X.g W0 α H (gf d ρ S) (Keeps T.length σ Q),λC s₂ H1 fp pins s σ H v u Q I r ⟨α,ρ,S,d,h1,h2,h3,h4⟩=>?_,λα ρ S σ H d v Q h1 h2 h3 h4=>⟨α,ρ,S,d,h1,h2,h3,h4⟩⟩
  obtain⟨t,ht,kt⟩:=hg C s₂ H1 fp hN
  exact ht pins s σ H v u Q I r (kt α ρ S σ H d v Q h1 h2 h3 h4)
 obtain⟨tg',hg1,kg⟩:=hg'
 refine⟨_,⟨yND T idx hi hcalm hB hg1 (λC s₂ H1 fp=>(Classical.choose_spec (hc C s₂ H1 fp)).1) (λC s₂ H1 fp=>(Classical.choose_spec (he C s₂ H1 fp)).1) hs,yNF T idx hi hcalm hB hg1 (λC s₂ H1 fp=>(Classical.choose_spec (hc C s₂ H1 fp)).1) (λC s₂ H1 fp=>(Classical.choose_spec (he C s₂ H1 fp)).1) hs⟩,λα ρ S σ H Q wd sl q=>ki α ρ S σ H _ wd sl (q.bind λJ k S1 α1 H1 e1 x1 w1 d1 q1=>?_)⟩
 obtain⟨P,hP⟩:=d1
 split at q1
 ·rename_i hlen
  refine⟨λn m ys H2=>m=k.ds.length - n/\n<=k.ds.length/\ys.length<=n/\ ∃α2 S2,Ext α H α2 H2/\Wd X.g α2 S2 H2/\P α2 S2 H2/\ ∃outs,DenL X.K α2 H2 outs ys/\Post X.g W α H ((xC gf cf ef (blk T.length idx ρ) k.gs (k.ds.drop n) S2).bind λo S'=>.ok (Er.new (outs++o)) S') Q,
   ⟨_,rfl,zero_le _,le_refl _,α1,S1,x1,w1,hP.here,[],xV,by simpa using q1⟩,?_⟩
  rintro n m ys H2 ⟨rfl,hn,hy,α2,S2,x2,w2,p2,outs,l,q2⟩
  obtain⟨i1,i2⟩:=hP.it n α2 S2 H2 p2 w2
  refine⟨by omega,?_⟩
  by_cases hlt:n<k.ds.length
  ·obtain⟨go,yl⟩:=i1 hlt
   refine .inr ⟨go,by omega,λv H3 y τ hτ=>?_⟩
   obtain⟨x3,w3,p3,d,hd,dv⟩:=yl v H3 y
   have hdrop:k.ds.drop n=d::k.ds.drop (n+1):=by
    rw [drop_eq_getElem_cons hlt]
    have:=gE0 hlt
    rw [hd]at this
    rw [<-Option.some.inj this]
   rw [hdrop]at q2
   unfold xC at q2
   have slb:=yHF (sl.ext (x2.trans x3)) T.length idx τ hτ
   refine kg α2 (blk T.length idx ρ) S2 _ H3 d v _ w3 slb dv ?_
   rw [R.bind_assoc]at q2
   refine q2.bindY (x2.trans x3) λσ4 ρ4 S4 α4 H4 e4 x4 w4 s4 q4 len4 kp4=>⟨⟨σ4.take T.length,?_,?_⟩,λC s₂ fp=>?_⟩
   ·refine ext_getElem? λj=>?_
    have hl4:σ4.length=T.length+idx.length:=by rw [len4,lA,zDD,hτ]
    by_cases hj:j<T.length
    ·rw [getElem?_append_left (by rw [lT];omega),getElem?_take_of_lt hj]
    ·rw [kp4 j (by omega),getElem?_append_right (by omega),getElem?_append_right (by rw [lT];omega),hτ,lT,min_eq_left (by omega)]
   ·rw [lT,len4,lA,zDD,hτ];omega
   have x34:Ext α H α4 H4:=(x2.trans x3).trans x4
   have p4: ∀α5 S5 H5,Ext α4 H4 α5 H5->Wd X.g α5 S5 H5->stay k.gs S5->P α5 S5 H5:=λα5 S5 H5 x5 w5 s5=>hP.stays α2 S2 H3 α5 S5 H5 p3 (x4.trans x5) w5 s5
   rw [R.bind_assoc]at q4
   refine(Classical.choose_spec (hc C s₂ H1 fp)).2 α4 ρ4 S4 σ4 H4 _ w4 s4 (q4.bindY x34 λb5 b5' S5 α5 H5 e5 x5 w5 d5 q5=>?_)
   cases d5
   cases b5 with
   |false=>
    rw [iN xF0]at q5 ⊢
    split at q5
    ·rename_i hst
     exact⟨k.ds.length - (n+1),by omega,rfl,hlt,by omega,α5,S5,x34.trans x5,w5,p4 α5 S5 H5 x5 w5 hst,outs,(l.ext (x3.trans x4)).ext x5,q5⟩
    ·exact q5.elim
   |true=>
    rw [iP rfl,R.bind_assoc]at q5
    rw [iP rfl]
    refine(Classical.choose_spec (he C s₂ H1 fp)).2 α5 ρ4 S5 σ4 H5 _ w5 (s4.ext x5) (q5.bindY (x34.trans x5) λy6 r6 S6 α6 H6 e6 x6 w6 d6 q6=>?_)
    obtain⟨d',S',α',e7,x7,y7,w7,de⟩:=zGB w6 x6 d6
    rw [e7]at q6
    have q6:Post X.g W α H ((if stay k.gs S' then(xC gf cf ef (blk T.length idx ρ) k.gs (k.ds.drop (n+1)) S').bind λout S4=>.ok (d'::out) S4 else .no).bind λo S'=>.ok (Er.new (outs++o)) S') Q:=q6
    split at q6
    ·rename_i hst
     refine⟨k.ds.length - (n+1),by omega,rfl,hlt,by rw [lA,lS];omega,α',S',(x34.trans x5).trans x7,w7,p4 α' S' H6 (x5.trans x7) w7 hst,outs++[d'],((l.ext (x3.trans x4)).ext (x5.trans x7)).append (xD de xV),?_⟩
     rw [R.bind_assoc]at q6
     have e8:(λ(o:List MV) (S':Sto)=>R.ok (Er.new ((outs++[d'])++o)) S')=(λ(b:List MV) S=>(R.ok (d'::b) S).bind λo S'=>.ok (Er.new (outs++o)) S'):=by
      funext o S'
      show _=R.ok (Er.new (outs++(d'::o))) S'
      rw [aA];rfl
     rw [e8]
     exact q6
    ·exact q6.elim
  ·have e:n=k.ds.length:=by omega
   subst e
   rw [drop_length]at q2
   have q3:Post X.g W α H (.ok (Er.new (outs++[])) S2) Q:=q2
   rw [aN]at q3
   exact .inl ⟨i2 (le_refl _),λD hD=>(q3.shift x2).newl w2 hD l⟩
 ·exact q1.elim
open Classical in
theorem wW{elt tg:Expr}{ifs:List Expr}{sc:Scope}{itf:Rho->Sto->R Wk}{cf:AZ}{ef:AX}{gf:MV->Rho->Sto->R Rho}(osc:Scope)(N:List Str)(T:List Str)(idx:List Nat)
  (hi:PIm X W tg iter itf) (hcalm:X.calm=true)
  (hg: ∀C s₂ H1 fp,([]++T++idx.map λi=>(N[i]?).getD Str.empty).Nodup->PGn T.length (yM X sc T idx C s₂ H1 fp) W0 tg gf)
  (hc: ∀C s₂ H1 fp,yJQ (yM X sc T idx C s₂ H1 fp) W0 ifs cf) (he: ∀C s₂ H1 fp,PEm (yM X sc T idx C s₂ H1 fp) W0 elt ef)
  (e1:X.env.scope=osc:=by rfl) (e2:X.N=N:=by rfl) (hB:zPU osc N sc idx=true:=by decide+kernel) (hN:([]++T++idx.map λi=>(N[i]?).getD Str.empty).Nodup:=by decide+kernel)
  (hs: ∀y,foldedSetIterable iter X.env y=pure y:=by intro _;rfl):
  PEm X W (.ListComp elt [⟨tg,iter,ifs,0⟩] sc pos) (λρ S=>(itf ρ S).bind λk S1=>if k.ds.length<1000000 then(xC gf cf ef (blk T.length idx ρ) k.gs k.ds S1).bind λout S2=>.ok (.new out) S2 else .no):=let ⟨t,h,k⟩:=(yEO osc N T idx hi hcalm hg hc he e1 e2 hB hN hs);⟨t,h.1,k⟩
open Classical in
theorem zQU{x:Str}{pos' spos:Pos}(i:Nat)(hNN:X.N.Nodup){elt tg:Expr}{ifs:List Expr}{sc:Scope}{itf:Rho->Sto->R Wk}{cf:AZ}{ef:AX}{gf:MV->Rho->Sto->R Rho}(osc:Scope)(N:List Str)(T:List Str)(idx:List Nat)
  (hi:PIm X W tg iter itf) (hcalm:X.calm=true)
  (hg: ∀C s₂ H1 fp,([]++T++idx.map λi=>(N[i]?).getD Str.empty).Nodup->PGn T.length (yM X sc T idx C s₂ H1 fp) W0 tg gf)
  (hc: ∀C s₂ H1 fp,yJQ (yM X sc T idx C s₂ H1 fp) W0 ifs cf) (he: ∀C s₂ H1 fp,PEm (yM X sc T idx C s₂ H1 fp) W0 elt ef)
  (e1:X.env.scope=osc:=by rfl) (e2:X.N=N:=by rfl) (hB:zPU osc N sc idx=true:=by decide+kernel) (hN:([]++T++idx.map λi=>(N[i]?).getD Str.empty).Nodup:=by decide+kernel)
  (hs: ∀y,foldedSetIterable iter X.env y=pure y:=by intro _;rfl)
  (hi2:X.N[i]? =some x:=by rfl) (hx:Loc X.env.scope x:=by first |exact Or.inl rfl|exact Or.inr rfl)
  (hsw:swapsWith (.ListComp elt [⟨tg,iter,ifs,0⟩] sc pos) (some (.Name x pos')) spos.line X.env=pure true:=by with_unfolding_all rfl) (hf:X.fn x=true\/X.env.scope.names.lookup x=some .local:=by first |exact .inl rfl|exact .inr rfl|assumption):
  PSm X W (.Assign [.Name x pos'] (.ListComp elt [⟨tg,iter,ifs,0⟩] sc pos) spos) (λρ S=>((itf ρ S).bind λk S1=>if k.ds.length<1000000 then(xC gf cf ef (blk T.length idx ρ) k.gs k.ds S1).bind λout S2=>.ok (.new out) S2 else .no).bind (zXA ρ i)):=by
 obtain⟨t,h,k⟩:=(yEO osc N T idx hi hcalm hg hc he e1 e2 hB hN hs)
 refine⟨_,h.2 i x pos' spos hNN hi2 hx hf hsw,λα ρ S σ H D wd sl q=>k α ρ S σ H _ wd sl (q.expr λu r S1 α1 H1 e x1 w1 d1 q1=>?_)⟩
 obtain⟨d',S',α',e1,x',y',w',de⟩:=zGB w1 x1 d1
 unfold zXA at q1
 rw [e1]at q1
 exact q1 _ α' H1 x' w' (((sl.ext x1).ex0 y').set de)
end
mutual
def lo(n:Nat):MV->Prop
 |.loc l=>l<n
 |.tup ds=>loL n ds
 |.scr ds=>loL n ds
 |.obj _ _ ds=>loL n ds
 |_=>True
def loL(n:Nat):List MV->Prop
 |[]=>True
 |d::ds=>lo n d/\loL n ds
end

def loO(n:Nat):MO->Prop
 |.lst ds=>loL n ds
 |.dic kvs=> ∀p∈kvs,lo n p.1/\lo n p.2
 |.ins _ fs=> ∀p∈fs,lo n p.2
section
variable{K:PySem.W.Frag}{α t:List Addr}{H:Hp}
mutual
theorem Den.back: ∀{d:MV}{v:V},Den K (α++t) H d v->lo α.length d->Den K α H d v
 |.non,_,q,_=>by cases zBZ q;exact zWW
 |.bl _,_,q,_=>by cases zGA q;exact dD _
 |.int _,_,q,_=>by cases kX q;exact jL _
 |.str _,_,q,_=>by cases wF q;exact zGO _
 |.typ _,_,q,_=>by cases zAD q;exact yEL _
 |.obj c ns ds,_,q,h=>by
  obtain⟨a,C,dx,vs,o,rfl,e,hn,hc,hl,l⟩:=dE q
  exact yEN e hn hc hl (DenL.back l (by unfold lo at h;exact h))
 |.loc l,_,q,h=>by
  obtain⟨a,rfl,e⟩:=bU q
  have hl:l<α.length:=by unfold lo at h;exact h
  rw [getElem?_append_left hl]at e
  exact zWX e
 |.tup ds,_,q,h=>by
  obtain⟨a,vs,rfl,s,l⟩:=wG q
  exact zGP s (DenL.back l (by unfold lo at h;exact h))
 |.scr ds,_,q,h=>by
  obtain⟨a,vs,rfl,s,l⟩:=dF q
  exact yEM s (DenL.back l (by unfold lo at h;exact h))
theorem DenL.back: ∀{ds:List MV}{vs:List V},DenL K (α++t) H ds vs->loL α.length ds->DenL K α H ds vs
 |[],_,q,_=>by rw [q.isnil];exact xV
 |d::ds,_,q,h=>by
  obtain⟨v,r,rfl,a,l⟩:=q.uncons
  unfold loL at h
  exact xD (Den.back a h.1) (DenL.back l h.2)
end

mutual
theorem Den.lo: ∀{d:MV}{v:V},Den K α H d v->lo α.length d
 |.non,_,q=>by unfold M.lo;trivial
 |.bl _,_,q=>by unfold M.lo;trivial
 |.int _,_,q=>by unfold M.lo;trivial
 |.str _,_,q=>by unfold M.lo;trivial
 |.typ _,_,q=>by unfold M.lo;trivial
 |.obj c ns ds,_,q=>by
  obtain⟨a,C,dx,vs,o,rfl,e,hn,hc,hl,l⟩:=dE q
  unfold M.lo
  exact DenL.lo l
 |.loc l,_,q=>by
  obtain⟨a,rfl,e⟩:=bU q
  unfold M.lo
  exact(gS0.mp e).1
 |.tup ds,_,q=>by
  obtain⟨a,vs,rfl,s,l⟩:=wG q
  unfold M.lo
  exact DenL.lo l
 |.scr ds,_,q=>by
  obtain⟨a,vs,rfl,s,l⟩:=dF q
  unfold M.lo
  exact DenL.lo l
theorem DenL.lo: ∀{ds:List MV}{vs:List V},DenL K α H ds vs->loL α.length ds
 |[],_,q=>by unfold loL;trivial
 |d::ds,_,q=>by
  obtain⟨v,r,rfl,a,l⟩:=q.uncons
  unfold loL
  exact⟨Den.lo a,DenL.lo l⟩
end

theorem DenF.back: ∀{fs gs},DenF K (α++t) H fs gs->(∀p∈fs,M.lo α.length p.2)->DenF K α H fs gs
 |_,_,.nil,_=>.nil
 |_,_,.cons a l,h=>.cons (a.back (h _ mF0)) (DenF.back l λp hp=>h p (mO _ hp))
theorem DenF.lo: ∀{fs gs},DenF K α H fs gs-> ∀p∈fs,M.lo α.length p.2
 |_,_,.nil=>λp h=>by simp at h
 |_,_,.cons a l=>λp h=>(mC.mp h).elim (λe=>by subst e;exact a.lo) (DenF.lo l p)
theorem ObD.back{g:Gm}{a:Addr}{o:MO}(q:ObD g (α++t) H a o)(h:loO α.length o):ObD g α H a o:=by
 cases o with
 |lst ds=>obtain⟨vs,h1,l⟩:=q;exact⟨vs,h1,l.back h⟩
 |dic ds=>exact False.elim q
 |ins c fs=>obtain⟨C,gs,m,l,r⟩:=q;exact⟨C,gs,m,l.back h,r⟩
theorem ObD.lo{g:Gm}{a:Addr}{o:MO}(q:ObD g α H a o):loO α.length o:=by
 cases o with
 |lst ds=>obtain⟨vs,h1,l⟩:=q;exact l.lo
 |dic ds=>exact False.elim q
 |ins c fs=>obtain⟨C,gs,m,l,r⟩:=q;exact l.lo
end
def zRX(S S2:Sto):Prop:=S.length<=S2.length/\ ∀l,l<S.length->S2[l]? =S[l]? \/ ∃o,S2[l]? =some o/\loO S.length o
open Classical in
noncomputable def zCD(S:Sto)(r:Er)(S2:Sto):R Er:=
 if zRX S S2 then match r with
  |.val (.loc l)=>if l<S.length then .ok r (S2.take S.length)else match S2[l]? with
   |some (.lst ds)=>if loL S.length ds then .ok (.new ds) (S2.take S.length)else .ok r S2
   |_=>.ok r S2
  |.val d=>if lo S.length d then .ok r (S2.take S.length)else .ok r S2
  |.new ds=>if loL S.length ds then .ok r (S2.take S.length)else .ok r S2
 else .ok r S2
theorem yNI{g:Gm}{α α1 α2 α3:List Addr}{H H1 H3:Hp}{S1 S3:Sto}{r:Er}{v:V}(x1:Ext α H α1 H1)(w1:Wd g α1 S1 H1)(h12: ∃t,α2=α1++t)(x2:Ext α H α2 H1)(x3:Ext α2 H1 α3 H3)(w3:Wd g α3 S3 H3)(d:DenE g.K H1 α3 H3 r v):
  ∃r' S' α',zCD S1 r S3=.ok r' S'/\Ext α H α' H3/\Wd g α' S' H3/\DenE g.K H α' H3 r' v:=by
 have x23:=x2.trans x3
 have dfull:DenE g.K H α3 H3 r v:=d.back λb h=>x1.free h
 unfold zCD
 by_cases hc:zRX S1 S3
 ·rw [iP hc]
  obtain⟨t,ht⟩: ∃t,α3=α1++t:=by
   obtain⟨t,e⟩:=h12
   obtain⟨u,e'⟩:=x3.pre
   exact⟨t++u,by rw [e',e,aA]⟩
  have hn:α1.length=S1.length:=w1.len
  have xc:Ext α H α1 H3:=⟨⟨x1.pre,x23.tup,x23.frz⟩,x1.new,x23.keep,x23.has⟩
  have wc:Wd g α1 (S3.take S1.length) H3:=by
   refine⟨by rw [lT,hn,min_eq_left hc.1],w1.nd,λl a o h1 h2=>?_⟩
   have hl:l<S1.length:=by rw [<-hn];exact(gS0.mp h1).1
   rw [getElem?_take_of_lt hl]at h2
   have h1':α3[l]? =some a:=by rw [ht,getElem?_append_left (by rw [hn];exact hl)];exact h1
   have q:=w3.obj l a o h1' h2
   rw [ht]at q
   refine q.back ?_
   rcases hc.2 l hl with e|⟨o',e,lo'⟩
   ·rw [e]at h2
    exact(w1.obj l a o h1 h2).lo
   ·rw [h2]at e
    cases e
    rw [hn];exact lo'
  have dlo: ∀d,lo S1.length d->Den g.K α3 H3 d v->DenE g.K H α1 H3 (.val d) v:=λd hd q=>.val ((ht▸q:Den g.K (α1++t) H3 d v).back (by rw [hn];exact hd))
  cases r with
  |new ds=>
   dsimp only
   split
   ·rename_i hl
    obtain⟨⟨b,vs,rfl,h1,h2,h3⟩,h4⟩:=dfull
    exact⟨_,_,α1,rfl,xc,wc,⟨b,vs,rfl,h1,λz=>h2 (by rw [ht];exact mem_append_left _ z),(ht▸h3:DenL g.K (α1++t) H3 ds vs).back (by rw [hn];exact hl)⟩,h4⟩
   ·exact⟨_,_,α3,rfl,x23,w3,dfull⟩
  |val mv=>
   have dd:Den g.K α3 H3 mv v:=dfull.1
   cases mv with
   |loc l=>
    dsimp only
    split
    ·rename_i hl
     exact⟨_,_,α1,rfl,xc,wc,dlo _ (by unfold lo;exact hl) dd⟩
    ·rename_i hl
     obtain⟨a,rfl,ha⟩:=bU dd
     split
     ·rename_i ds hS
      split
      ·rename_i hlo
       obtain⟨vs,h1,h2⟩:=w3.obj l a _ ha hS
       have hna:a∉α1:=λz=>by
        obtain⟨m,hm⟩:=getElem?_of_mem z
        have hml:m<α1.length:=(gS0.mp hm).1
        have hm':α3[m]? =some a:=by rw [ht,getElem?_append_left hml];exact hm
        obtain⟨u1,e1⟩:=gS0.mp hm'
        obtain⟨u2,e2⟩:=gS0.mp ha
        have:=(getElem_inj w3.nd).mp (e1.trans e2.symm)
        omega
       refine⟨_,_,α1,rfl,xc,wc,⟨a,vs,rfl,h1,hna,(ht▸h2:DenL g.K (α1++t) H3 ds vs).back (by rw [hn];exact hlo)⟩,λb e=>?_⟩
       cases e
       rcases x23.new a (mem_of_getElem? ha)with z|z
       ·obtain⟨u,eu⟩:=x1.pre
        exact absurd (by rw [eu];exact mem_append_left _ z) hna
       ·exact z
      ·exact⟨_,_,α3,rfl,x23,w3,dfull⟩
     ·exact⟨_,_,α3,rfl,x23,w3,dfull⟩
   |non=>dsimp only;split;(· rename_i hl;exact⟨_,_,α1,rfl,xc,wc,dlo _ hl dd⟩);(· exact⟨_,_,α3,rfl,x23,w3,dfull⟩)
   |bl b=>dsimp only;split;(· rename_i hl;exact⟨_,_,α1,rfl,xc,wc,dlo _ hl dd⟩);(· exact⟨_,_,α3,rfl,x23,w3,dfull⟩)
   |int b=>dsimp only;split;(· rename_i hl;exact⟨_,_,α1,rfl,xc,wc,dlo _ hl dd⟩);(· exact⟨_,_,α3,rfl,x23,w3,dfull⟩)
   |str b=>dsimp only;split;(· rename_i hl;exact⟨_,_,α1,rfl,xc,wc,dlo _ hl dd⟩);(· exact⟨_,_,α3,rfl,x23,w3,dfull⟩)
   |typ b=>dsimp only;split;(· rename_i hl;exact⟨_,_,α1,rfl,xc,wc,dlo _ hl dd⟩);(· exact⟨_,_,α3,rfl,x23,w3,dfull⟩)
   |obj b b' b''=>dsimp only;split;(· rename_i hl;exact⟨_,_,α1,rfl,xc,wc,dlo _ hl dd⟩);(· exact⟨_,_,α3,rfl,x23,w3,dfull⟩)
   |tup b=>dsimp only;split;(· rename_i hl;exact⟨_,_,α1,rfl,xc,wc,dlo _ hl dd⟩);(· exact⟨_,_,α3,rfl,x23,w3,dfull⟩)
   |scr b=>dsimp only;split;(· rename_i hl;exact⟨_,_,α1,rfl,xc,wc,dlo _ hl dd⟩);(· exact⟨_,_,α3,rfl,x23,w3,dfull⟩)
 ·rw [iN hc]
  exact⟨_,_,α3,rfl,x23,w3,dfull⟩
def spM(g:Gm)(n:Nat)(F:List MV->Sto->R Er):Sp:=λvs H Q _=> ∃α S ds,Wd g α S H/\DenL g.K α H ds vs/\ds.length=n/\Post g W0 α H (F ds S) Q
noncomputable def zT(n:Nat)(F:List MV->Sto->R Er)(rs:List Er)(S:Sto):R Er:=if rs.length=n then(noX (F (zW rs S).1 (zW rs S).2)).bind λr S2=>zCD S r S2 else .no
section
variable{X:Cx}{W:XW}{e:Expr}{es:List Expr}{af:Rho->Sto->R (List Er)}{pos:Pos}
theorem zVS{n:Nat}{F:List MV->Sto->R Er}{rs:List Er}{vs:List V}{α α1:List Addr}{H H1:Hp}{S1:Sto}{Q:VK}(x1:Ext α H α1 H1)(w1:Wd X.g α1 S1 H1)(d1:ArgsE X.K H α1 H1 rs vs)(q:Post X.g W α H (zT n F rs S1) Q):
  spM X.g n F vs H1 Q E0:=by
 unfold zT at q
 split at q
 ·rename_i hl
  obtain⟨α2,x2,y2,w2,l2⟩:=zIY w1 x1 d1
  refine⟨α2,_,_,w2,l2,by rw [zOT];exact hl,?_⟩
  cases z:F (zW rs S1).1 (zW rs S1).2 with
  |ok r S3=>
   rw [z]at q
   intro v α3 H3 x3 w3 d3
   obtain⟨r',S',α',e',x',w',d'⟩:=yNI x1 w1 y2.pre x2 x3 w3 d3
   have q:Post X.g W α H (zCD S1 r S3) Q:=q
   rw [e']at q
   exact q v α' H3 x' w' d'
  |exc c fs S3=>rw [z]at q;exact q.elim
  |no=>rw [z]at q;exact q.elim
 ·exact q.elim
theorem yNJ{k n:Nat}{fa:Addr}{fd:FuncData}{ps:List Str}{F:List MV->Sto->R Er}{x:Str}{p:Pos}(G:FnOk X.prog X.w X.K X.mg X.base CX0 k fa fd ps (spM X.g n F))(hr:Room k X.A)(hg:Gl X x)(hm:X.mg x=some (.ref fa))
  (hk:PySem.W.keepIn X.K (.ref fa)=true) (hb:Binds X.K fd ps []) (ha:PAm X W (e::es) af) (hdb:(x==("__debug__":Str))=false:=by decide)
  (he:starEach (e::es) X.env=(false,eval e X.env)::starEach es X.env:=by rfl) (hpl:(backTo pos (starEach es X.env)).any (·.1)=false:=by rfl):
  PEm X W (.Call (.Name x p) (e::es) [] pos) (λρ S=>(af ρ S).bind λrs S1=>zT n F rs S1):=by
 obtain⟨t,ha,kk⟩:=ha
 refine⟨_,yMS G hr hg hm hk hb .nil yJF ha hdb he hpl,λα ρ S σ H Q wd sl q=>kk α ρ S σ H _ wd sl (q.bind λvs rs S1 α1 H1 e1 x1 w1 d1 q1=>?_)⟩
 rw [aN]
 exact zVS x1 w1 d1 q1
end
def zR(N:List Str)(ds:List MV):Rho:=ds.map some++List.replicate (N.length - ds.length) none
def yG:R Fl->R Er
 |.ok (.next _) S=>.ok (.val .non) S
 |.ok (.ret r) S=>.ok r S
 |.exc c fs S=>.exc c fs S
 |_=>.no
theorem zZT{K:PySem.W.Frag}{α:List Addr}{N:List Str}{H:Hp}{ds:List MV}{vs:List V}(l:DenL K α H ds vs):Slots K α H (zR N ds) (start N vs):=by
 have hlen:=l.length
 refine⟨?_,λi d e=>?_⟩
 ·unfold start zR
  rw [lA,lA,lM,lM,length_replicate,length_replicate,hlen]
 ·unfold zR at e
  by_cases hi:i<ds.length
  ·rw [getElem?_append_left (by simpa using hi),getElem?_map]at e
   cases z:ds[i]? with
   |none=>rw [z]at e;cases e
   |some d'=>
    rw [z]at e
    obtain⟨v,h1,h2⟩:=l.at z
    have e':d'=d:=Option.some.inj (Option.some.inj e)
    subst e'
    refine⟨v,?_,h2⟩
    unfold start
    rw [getElem?_append_left (by rw [lM,hlen];exact hi),getElem?_map,h1];rfl
  ·rw [getElem?_append_right (by simpa using hi),List.getElem?_replicate]at e
   split at e<;>cases e
section
variable{P:Program}{w:World}{K:PySem.W.Frag}{mg:Str->Option Value}{base:Heap}
theorem okM{x qual:Str}{st:Stmt}{f:Addr}{fd:FuncData}{N ps:List Str}{k:Nat}(Fb:AY)(F:Fun K x qual st f fd)(Sc:FnScope N ps (zI st))
  (hbody: ∀(cdv:Value)(A:Around)(outer:List Env)(s:Shared)(H:Hp)(E:XK),Room k (A.deeper (envOfC qual (zI st) s.heap.objs.size f cdv))->
   zZR (zZL CX0 P w K mg base N qual (zI st) f cdv A outer s H E).nox W0 (wB st) Fb):
  FnOk P w K mg base CX0 (k+1) f fd ps (spM ⟨K,mg,P,w⟩ ps.length λds S=>yG (Fb (zR N ds) S)):=by
 refine F.ok Sc (λvs H Q E h=>?_) (λcdv A outer s H vs Q E hr h=>?_)
 ·obtain⟨α,S,ds,_,l,hl,_⟩:=h
  rw [l.length,hl]
 ·obtain⟨α,S,ds,wd,l,hl,q⟩:=h
  obtain⟨t,ht,kk⟩:=hbody cdv A outer s H E hr
  refine⟨t,ht,kk α (zR N ds) S (start N vs) H _ wd (zZT l) ?_⟩
  dsimp only at q
  cases z:Fb (zR N ds) S with
  |ok fl S'=>
   rw [z]at q
   cases fl with
   |next ρ=>exact λσ α' H' x' w' s'=>q .non α' H' x' w' (DenE.val zWW)
   |ret r=>exact λv α' H' x' w' d'=>q v α' H' x' w' d'
   |brk ρ=>exact q.elim
   |cont ρ=>exact q.elim
  |exc c fs S'=>rw [z]at q;exact λα' H' x' w'=>q α' H' x' w'
  |no=>rw [z]at q;exact q
end
inductive Vw where
 |fl (v:V)|tp (ds:List MV)|ls (ds:List MV)
def gC(S:Sto):Er->Option (List MV)
 |.new ds=>some ds
 |.val (.scr ds)=>some ds
 |.val (.loc l)=>match S[l]? with
  |some (.lst ds)=>some ds
  |_=>none
 |_=>none
def vwE(S:Sto):Er->Option Vw
 |.val .non=>some (.fl .non)
 |.val (.bl b)=>some (.fl (.bl b))
 |.val (.int i)=>some (.fl (.int i))
 |.val (.str x)=>some (.fl (.str (mkS x)))
 |.val (.tup ds)=>some (.tp ds)
 |.val (.typ _)=>none
 |.val (.obj _ _ _)=>none
 |r=>(gC S r).map .ls
def prs(e:MV->MV->Option Bool):List MV->List MV->Option (List Bool)
 |d::ds,f::fs=>(e d f).bind λk=>(prs e ds fs).map (k::·)
 |_,_=>some []
def eqW(e:MV->MV->Option Bool):Vw->Vw->Option Bool
 |.fl x,.fl y=>some (eqV x y)
 |.tp ds,.tp es=>(prs e ds es).map λbs=>bs.all id&&ds.length==es.length
 |.ls ds,.ls es=>if ds.length=es.length then(prs e ds es).map λbs=>bs.all id else some false
 |_,_=>some false
theorem yCY(e:MV->MV->Option Bool)(ds es:List MV):eqW e (.tp ds) (.tp es)=(prs e ds es).map λbs=>bs.all id&&ds.length==es.length:=rfl
theorem zXB(e:MV->MV->Option Bool)(ds es:List MV):eqW e (.ls ds) (.ls es)=if ds.length=es.length then(prs e ds es).map λbs=>bs.all id else some false:=rfl
def eqv(S:Sto):Nat->MV->MV->Option Bool
 |0,_,_=>none
 |n+1,a,b=>(vwE S (.val a)).bind λx=>(vwE S (.val b)).bind λy=>eqW (eqv S n) x y
def zOU(S:Sto)(n:Nat)(a b:Er):Option Bool:=(vwE S a).bind λx=>(vwE S b).bind λy=>eqW (eqv S n) x y
section
variable{X:Cx}{α:List Addr}{S:Sto}{H:Hp}
theorem zLO{K:PySem.W.Frag}{g:Gm}(hK:g.K=K)(wd:Wd g α S H){r:Er}{ds:List MV}{x:V}(e:gC S r=some ds)(d:DenX K α H r x): ∃a vs,x=.ref a/\SqL K H a vs/\DenL K α H ds vs:=by
 subst hK
 unfold gC at e
 split at e
 ·cases e
  obtain⟨b,vs,rfl,h,_,l⟩:=d
  exact⟨b,vs,rfl,.of h,l⟩
 ·cases e
  obtain⟨a,vs,rfl,s,l⟩:=zWY d
  exact⟨a,vs,rfl,s.l,l⟩
 ·rename_i n
  obtain⟨a,rfl,h⟩:=zLX d
  split at e
  ·rename_i es hS
   cases e
   obtain⟨vs,h1,l⟩:=wd.obj n a _ h hS
   exact⟨a,vs,rfl,.of h1,l⟩
  ·cases e
 ·cases e
theorem zIE{r:Er}{x y:V}(e:vwE S r=some (.fl y))(d:DenX X.K α H r x):x=y/\kY y=true:=by
 unfold vwE at e
 split at e
 ·cases e;exact⟨yCT d,rfl⟩
 ·cases e;exact⟨zPV d,rfl⟩
 ·cases e;exact⟨xL d,rfl⟩
 ·cases e;exact⟨dH d,rfl⟩
 ·cases e
 ·cases e
 ·cases e
 ·cases z:gC S r<;>rw [z]at e<;>cases e
theorem zIF{r:Er}{x:V}{ds:List MV}(e:vwE S r=some (.tp ds))(d:DenX X.K α H r x): ∃a vs,x=.ref a/\SqT X.K H a vs/\DenL X.K α H ds vs:=by
 unfold vwE at e
 split at e
 ·cases e
 ·cases e
 ·cases e
 ·cases e
 ·cases e;exact zCA d
 ·cases e
 ·cases e
 ·cases z:gC S r<;>rw [z]at e<;>cases e
theorem zIG(wd:Wd X.g α S H){r:Er}{x:V}{ds:List MV}(e:vwE S r=some (.ls ds))(d:DenX X.K α H r x): ∃a vs,x=.ref a/\SqL X.K H a vs/\DenL X.K α H ds vs:=by
 unfold vwE at e
 split at e
 ·cases e
 ·cases e
 ·cases e
 ·cases e
 ·cases e
 ·cases e
 ·cases e
 ·cases z:gC S r with
  |none=>rw [z]at e;cases e
  |some es=>rw [z]at e;cases e;exact zLO rfl wd z d
theorem zKX{e:MV->MV->Option Bool}: ∀{ds es:List MV}{bs:List Bool},prs e ds es=some bs->bs.length=min ds.length es.length
 |[],_,_,h=>by simp [prs]at h;subst h;simp
 |_::_,[],_,h=>by simp [prs]at h;subst h;simp
 |d::ds,f::fs,bs,h=>by
  unfold prs at h
  cases z:e d f with
  |none=>rw [z]at h;cases h
  |some k=>
   rw [z]at h
   cases z2:prs e ds fs with
   |none=>simp [z2]at h
   |some cs=>
    simp [z2]at h
    subst h
    simp [zKX z2]
theorem zXC{e:MV->MV->Option Bool}: ∀{ds es:List MV}{bs:List Bool}{j:Nat}{d f:MV},prs e ds es=some bs->ds[j]? =some d->es[j]? =some f->e d f=some (bs.getD j true)
 |[],_,_,_,_,_,h,h1,_=>by simp at h1
 |_::_,[],_,_,_,_,h,_,h2=>by simp at h2
 |d::ds,f::fs,bs,j,d',f',h,h1,h2=>by
  unfold prs at h
  cases z:e d f with
  |none=>rw [z]at h;cases h
  |some k=>
   rw [z]at h
   cases z2:prs e ds fs with
   |none=>simp [z2]at h
   |some cs=>
    simp [z2]at h
    subst h
    cases j with
    |zero=>simp at h1 h2;subst h1 h2;simpa using z
    |succ j=>simpa using zXC z2 (by simpa using h1) (by simpa using h2)
theorem range_all{bs:List Bool}{n:Nat}(h:bs.length=n):(List.range n).all (λj=>bs.getD j true)=bs.all id:=by
 subst h
 rw [Bool.eq_iff_iff,all_eq_true,all_eq_true]
 constructor
 ·intro h x hx
  obtain⟨i,hi,rfl⟩:=List.getElem_of_mem hx
  have:=h i (mem_range.mpr hi)
  simpa [getD_eq_getElem?_getD,hi]using this
 ·intro h i hi
  have hi':=mem_range.mp hi
  have:=h bs[i] (getElem_mem hi')
  simpa [getD_eq_getElem?_getD,hi']using this
variable{pins:List (Addr×Obj)}{σ:St}{s:Shared}
theorem zNJ(I:Inv X pins σ H s){a:Addr}{xs ys:List V}(h:SqL X.K H a xs)(h':SqT X.K H a ys):False:=by
 obtain⟨_,_,pl,_⟩:=I.list h
 obtain⟨_,_,pt,_⟩:=I.tuple h'
 obtain⟨o,n,e,c,_,_⟩:=pl
 obtain⟨o',e',c',_⟩:=pt
 rw [e]at e'
 cases e'
 rw [c]at c'
 exact absurd c' (by simp)
theorem yJR(I:Inv X pins σ H s)(wd:Wd X.g α S H){e:MV->MV->Option Bool}(he: ∀d f v k,Den X.K α H d v->Den X.K α H f v->e d f=some k->k=true){a b:Er}{x:V}{p q:Vw}{k:Bool}
  (ha:vwE S a=some p) (hb:vwE S b=some q) (da:DenX X.K α H a x) (db:DenX X.K α H b x) (h:eqW e p q=some k):k=true:=by
 have hp: ∀{ds es:List MV}{vs:List V}{bs:List Bool},DenL X.K α H ds vs->DenL X.K α H es vs->prs e ds es=some bs->bs.all id=true:=by
  intro ds es vs bs l1 l2 z
  rw [all_eq_true]
  intro k hk
  obtain⟨i,hi,rfl⟩:=List.getElem_of_mem hk
  have hl:=zKX z
  have h1:i<ds.length:=by omega
  have h2:i<es.length:=by omega
  obtain⟨v,g1,g2⟩:=l1.at (gE0 h1)
  obtain⟨v',g3,g4⟩:=l2.at (gE0 h2)
  rw [g1]at g3;cases g3
  have:=he _ _ _ _ g2 g4 (zXC z (gE0 h1) (gE0 h2))
  simpa [getD_eq_getElem?_getD,hi]using this
 cases p with
 |fl y=>
  obtain⟨rfl,f1⟩:=zIE ha da
  cases q with
  |fl z=>obtain⟨rfl,f2⟩:=zIE hb db;cases h;exact yJK f1
  |tp ds=>obtain⟨a,vs,rfl,_⟩:=zIF hb db;exact absurd (show false=true from f1) xF0
  |ls ds=>obtain⟨a,vs,rfl,_⟩:=zIG wd hb db;exact absurd (show false=true from f1) xF0
 |tp ds=>
  obtain⟨a1,vs,rfl,s1,l1⟩:=zIF ha da
  cases q with
  |fl z=>obtain⟨rfl,f2⟩:=zIE hb db;exact absurd (show false=true from f2) xF0
  |tp es=>
   obtain⟨a2,us,e2,s2,l2⟩:=zIF hb db
   cases e2
   cases I.tuple_inj s1 s2
   rw [yCY]at h
   cases z:prs e ds es with
   |none=>rw [z]at h;cases h
   |some bs=>
    rw [z]at h
    cases h
    show(bs.all id&&ds.length==es.length)=true
    rw [hp l1 l2 z, <-l1.length, <-l2.length];simp
  |ls es=>obtain⟨a2,us,e2,s2,l2⟩:=zIG wd hb db;cases e2;exact(zNJ I s2 s1).elim
 |ls ds=>
  obtain⟨a1,vs,rfl,s1,l1⟩:=zIG wd ha da
  cases q with
  |fl z=>obtain⟨rfl,f2⟩:=zIE hb db;exact absurd (show false=true from f2) xF0
  |tp es=>obtain⟨a2,us,e2,s2,l2⟩:=zIF hb db;cases e2;exact(zNJ I s1 s2).elim
  |ls es=>
   obtain⟨a2,us,e2,s2,l2⟩:=zIG wd hb db
   cases e2
   cases I.list_inj s1 s2
   rw [zXB]at h
   rw [iP (by rw [<-l1.length, <-l2.length])]at h
   cases z:prs e ds es with
   |none=>rw [z]at h;cases h
   |some bs=>rw [z]at h;cases h;exact hp l1 l2 z
theorem zRY(I:Inv X pins σ H s)(wd:Wd X.g α S H): ∀(n:Nat)(d f:MV)(v:V)(k:Bool),Den X.K α H d v->Den X.K α H f v->eqv S n d f=some k->k=true
 |0,_,_,_,_,_,_,h=>by cases h
 |n+1,d,f,v,k,h1,h2,h=>by
  unfold eqv at h
  cases za:vwE S (.val d)with
  |none=>rw [za]at h;cases h
  |some p=>
   cases zb:vwE S (.val f)with
   |none=>rw [za,zb]at h;cases h
   |some q=>
    rw [za,zb]at h
    exact yJR I wd (zRY I wd n) za zb (a:=.val d) (b:=.val f) h1 h2 h
theorem zNK{e:MV->MV->Option Bool}{A:Around}(he: ∀d f x y u v k,Den X.K α H d x->Den X.K α H f y->RelV x u->RelV y v->e d f=some k->SeqAt.EqAt A s u v k)
  {ds es:List MV} {vs us:List V} {its its2:List Value} {bs:List Bool} (l1:DenL X.K α H ds vs) (l2:DenL X.K α H es us) (r1:Vals vs its) (r2:Vals us its2) (z:prs e ds es=some bs):
  ∀j (h1:j<its.toArray.size) (h2:j<its2.toArray.size),SeqAt.EqAt A s its.toArray[j] its2.toArray[j] (bs.getD j true):=by
 intro j h1 h2
 have g1:j<vs.length:=by rw [r1.length];simpa using h1
 have g2:j<us.length:=by rw [r2.length];simpa using h2
 obtain⟨d,d1,d2⟩:=l1.get (gE0 g1)
 obtain⟨f,f1,f2⟩:=l2.get (gE0 g2)
 obtain⟨u,u1,u2⟩:=r1.get (gE0 g1)
 obtain⟨v,v1,v2⟩:=r2.get (gE0 g2)
 have e1:its.toArray[j]=u:=by
  have:its[j]? =some (its[j]'(by simpa using h1)):=gE0 _
  rw [u1]at this
  simpa using(Option.some.inj this).symm
 have e2:its2.toArray[j]=v:=by
  have:its2[j]? =some (its2[j]'(by simpa using h2)):=gE0 _
  rw [v1]at this
  simpa using(Option.some.inj this).symm
 rw [e1,e2]
 exact he d f _ _ u v _ d2 f2 u2 v2 (zXC z d1 f1)
theorem zOV(I:Inv X pins σ H s)(wd:Wd X.g α S H): ∀(n:Nat)(A:Around)(d f:MV)(x y:V)(u v:Value)(k:Bool),A.units+n<cLine->Den X.K α H d x->Den X.K α H f y->RelV x u->RelV y v->eqv S n d f=some k->SeqAt.EqAt A s u v k
 |0,_,_,_,_,_,_,_,_,_,_,_,_,_,h=>by cases h
 |n+1,A,d,f,x,y,u,v,k,hu,h1,h2,rx,ry,h=>by
  have hu0:A.units<cLine:=by omega
  have hsame:=h
  unfold eqv at h
  cases za:vwE S (.val d)with
  |none=>rw [za]at h;cases h
  |some p=>
   cases zb:vwE S (.val f)with
   |none=>rw [za,zb]at h;cases h
   |some q=>
    rw [za,zb]at h
    have h:eqW (eqv S n) p q=some k:=h
    have he:=λd f x y u v k a b c d' e=>zOV I wd n A.in1 d f x y u v k (show A.units+1+n<cLine by omega) a b c d' e
    cases p with
    |fl x'=>
     obtain⟨rfl,fx⟩:=zIE za (α:=α) (H:=H) (X:=X) h1
     cases q with
     |fl y'=>obtain⟨rfl,fy⟩:=zIE zb (α:=α) (H:=H) (X:=X) h2;cases h;exact yRK rx ry fx fy
     |tp es=>
      obtain⟨b,us,rfl,s2,l2⟩:=zIF zb (α:=α) (H:=H) (X:=X) h2
      cases ry;cases h
      obtain⟨its,_,pt,_⟩:=I.tuple s2
      exact eq_tr rx fx pt hu0
     |ls es=>
      obtain⟨b,us,rfl,s2,l2⟩:=zIG wd zb h2
      cases ry;cases h
      obtain⟨its,_,pl,_⟩:=I.list s2
      exact eq_lr rx fx pl.isList hu0
    |tp ds=>
     obtain⟨a,vs,rfl,s1,l1⟩:=zIF za (α:=α) (H:=H) (X:=X) h1
     cases rx
     obtain⟨its,r1,pt,_⟩:=I.tuple s1
     cases q with
     |fl y'=>obtain⟨rfl,fy⟩:=zIE zb (α:=α) (H:=H) (X:=X) h2;cases h;exact eq_tl ry fy pt hu0
     |tp es=>
      obtain⟨b,us,rfl,s2,l2⟩:=zIF zb (α:=α) (H:=H) (X:=X) h2
      cases ry
      by_cases hab:a=b
      ·subst hab
       rw [zRY I wd (n+1) d f _ k h1 h2 hsame]
       exact SeqAt.EqAt.same _
      ·obtain⟨its2,r2,pt2,_⟩:=I.tuple s2
       rw [yCY]at h
       cases z:prs (eqv S n) ds es with
       |none=>rw [z]at h;cases h
       |some bs=>
        rw [z]at h
        cases h
        have:=SeqAt.RcAt.tuples pt pt2 hu0 (zNK he l1 l2 r1 r2 z)
        have hl:=zKX z
        rw [range_all (by rw [hl];simp [<-r1.length, <-r2.length,l1.length,l2.length])]at this
        have e3:(its.toArray.size==its2.toArray.size)=(ds.length==es.length):=by simp [<-r1.length, <-r2.length,l1.length,l2.length]
        rw [e3]at this
        exact SeqAt.EqAt.of_refs hab this
     |ls es=>
      obtain⟨b,us,rfl,s2,l2⟩:=zIG wd zb h2
      cases ry;cases h
      obtain⟨its2,_,pl,_⟩:=I.list s2
      exact SeqAt.EqAt.tuple_list pt pl.isList hu0
    |ls ds=>
     obtain⟨a,vs,rfl,s1,l1⟩:=zIG wd za h1
     cases rx
     obtain⟨its,r1,pl,_⟩:=I.list s1
     cases q with
     |fl y'=>obtain⟨rfl,fy⟩:=zIE zb (α:=α) (H:=H) (X:=X) h2;cases h;exact eq_ll ry fy pl.isList hu0
     |tp es=>
      obtain⟨b,us,rfl,s2,l2⟩:=zIF zb (α:=α) (H:=H) (X:=X) h2
      cases ry;cases h
      obtain⟨its2,_,pt,_⟩:=I.tuple s2
      exact SeqAt.EqAt.list_tuple pl.isList pt hu0
     |ls es=>
      obtain⟨b,us,rfl,s2,l2⟩:=zIG wd zb h2
      cases ry
      by_cases hab:a=b
      ·subst hab
       rw [zRY I wd (n+1) d f _ k h1 h2 hsame]
       exact SeqAt.EqAt.same _
      ·obtain⟨its2,r2,pl2,_⟩:=I.list s2
       rw [zXB]at h
       by_cases hl:ds.length=es.length
       ·rw [iP hl]at h
        cases z:prs (eqv S n) ds es with
        |none=>rw [z]at h;cases h
        |some bs=>
         rw [z]at h
         cases h
         have hs:its.toArray.size=its2.toArray.size:=by simp [<-r1.length, <-r2.length,l1.length,l2.length,hl]
         have:=SeqAt.RcAt.lists pl.isList pl2.isList hs hu0 (zNK he l1 l2 r1 r2 z)
         have hl':=zKX z
         rw [range_all (by rw [hl'];simp [<-r1.length,l1.length,hl])]at this
         exact SeqAt.EqAt.of_refs hab this
       ·rw [iN hl]at h
        cases h
        exact SeqAt.EqAt.of_refs hab (SeqAt.RcAt.lists_lengths pl.isList pl2.isList (by simpa [<-r1.length, <-r2.length,l1.length,l2.length]using hl) hu0)
theorem yPZ{RC:Around->Shared->Value->Value->Bool->Prop}{tr:Bool->Bool}{A:Around}
  (hff: ∀x y u v,RelV x u->RelV y v->kY x=true->kY y=true->RC A s u v (tr (eqV x y)))
  (hfl: ∀x v l items,RelV x v->kY x=true->s.heap.IsList l items->A.units<cLine->RC A s v (.ref l) (tr false)/\RC A s (.ref l) v (tr false))
  (hft: ∀x v l items,RelV x v->kY x=true->s.heap.IsTuple l items->A.units<cLine->RC A s v (.ref l) (tr false)/\RC A s (.ref l) v (tr false))
  (hlt: ∀l b items items2,s.heap.IsList l items->s.heap.IsTuple b items2->A.units<cLine->RC A s (.ref l) (.ref b) (tr false)/\RC A s (.ref b) (.ref l) (tr false))
  (htt: ∀(l b:Addr)(items items2:Array Value)(e:Nat->Bool),s.heap.IsTuple l items->s.heap.IsTuple b items2->A.units<cLine->(∀j (h1:j<items.size) (h2:j<items2.size),SeqAt.EqAt A.in1 s items[j] items2[j] (e j))->RC A s (.ref l) (.ref b) (tr ((List.range (min items.size items2.size)).all e&&items.size==items2.size)))
  (hll: ∀(l b:Addr)(items items2:Array Value)(e:Nat->Bool),s.heap.IsList l items->s.heap.IsList b items2->items.size=items2.size->A.units<cLine->(∀j (h1:j<items.size) (h2:j<items2.size),SeqAt.EqAt A.in1 s items[j] items2[j] (e j))->RC A s (.ref l) (.ref b) (tr ((List.range items.size).all e)))
  (hln: ∀(l b:Addr)(items items2:Array Value),s.heap.IsList l items->s.heap.IsList b items2->(items.size !=items2.size)=true->A.units<cLine->RC A s (.ref l) (.ref b) (tr false))
  (I:Inv X pins σ H s) (wd:Wd X.g α S H) (n:Nat) {a b:Er} {x y:V} {u v:Value} {k:Bool} (hu:A.units+(n+1)<cLine) (h1:DenX X.K α H a x) (h2:DenX X.K α H b y) (rx:RelV x u) (ry:RelV y v) (h:zOU S n a b=some k):RC A s u v (tr k):=by
 have hu0:A.units<cLine:=by omega
 unfold zOU at h
 cases za:vwE S a with
 |none=>rw [za]at h;cases h
 |some p=>
  cases zb:vwE S b with
  |none=>rw [za,zb]at h;cases h
  |some q=>
   rw [za,zb]at h
   have h:eqW (eqv S n) p q=some k:=h
   have he:=λd f x y u v k a b c d' e=>zOV I wd n A.in1 d f x y u v k (show A.units+1+n<cLine by omega) a b c d' e
   cases p with
   |fl x'=>
    obtain⟨rfl,fx⟩:=zIE za h1
    cases q with
    |fl y'=>obtain⟨rfl,fy⟩:=zIE zb h2;cases h;exact hff _ _ _ _ rx ry fx fy
    |tp es=>
     obtain⟨b,us,rfl,s2,l2⟩:=zIF zb h2
     cases ry;cases h
     obtain⟨its,_,pt,_⟩:=I.tuple s2
     exact(hft _ _ _ _ rx fx pt hu0).1
    |ls es=>
     obtain⟨b,us,rfl,s2,l2⟩:=zIG wd zb h2
     cases ry;cases h
     obtain⟨its,_,pl,_⟩:=I.list s2
     exact(hfl _ _ _ _ rx fx pl.isList hu0).1
   |tp ds=>
    obtain⟨a,vs,rfl,s1,l1⟩:=zIF za h1
    cases rx
    obtain⟨its,r1,pt,_⟩:=I.tuple s1
    cases q with
    |fl y'=>obtain⟨rfl,fy⟩:=zIE zb h2;cases h;exact(hft _ _ _ _ ry fy pt hu0).2
    |tp es=>
     obtain⟨b,us,rfl,s2,l2⟩:=zIF zb h2
     cases ry
     obtain⟨its2,r2,pt2,_⟩:=I.tuple s2
     rw [yCY]at h
     cases z:prs (eqv S n) ds es with
     |none=>rw [z]at h;cases h
     |some bs=>
      rw [z]at h
      cases h
      have:=htt _ _ _ _ _ pt pt2 hu0 (zNK he l1 l2 r1 r2 z)
      have hl:=zKX z
      rw [range_all (by rw [hl];simp [<-r1.length, <-r2.length,l1.length,l2.length])]at this
      have e3:(its.toArray.size==its2.toArray.size)=(ds.length==es.length):=by simp [<-r1.length, <-r2.length,l1.length,l2.length]
      rw [e3]at this
      exact this
    |ls es=>
     obtain⟨b,us,rfl,s2,l2⟩:=zIG wd zb h2
     cases ry;cases h
     obtain⟨its2,_,pl,_⟩:=I.list s2
     exact(hlt _ _ _ _ pl.isList pt hu0).2
   |ls ds=>
    obtain⟨a,vs,rfl,s1,l1⟩:=zIG wd za h1
    cases rx
    obtain⟨its,r1,pl,_⟩:=I.list s1
    cases q with
    |fl y'=>obtain⟨rfl,fy⟩:=zIE zb h2;cases h;exact(hfl _ _ _ _ ry fy pl.isList hu0).2
    |tp es=>
     obtain⟨b,us,rfl,s2,l2⟩:=zIF zb h2
     cases ry;cases h
     obtain⟨its2,_,pt,_⟩:=I.tuple s2
     exact(hlt _ _ _ _ pl.isList pt hu0).1
    |ls es=>
     obtain⟨b,us,rfl,s2,l2⟩:=zIG wd zb h2
     cases ry
     obtain⟨its2,r2,pl2,_⟩:=I.list s2
     rw [zXB]at h
     by_cases hl:ds.length=es.length
     ·rw [iP hl]at h
      cases z:prs (eqv S n) ds es with
      |none=>rw [z]at h;cases h
      |some bs=>
       rw [z]at h
       cases h
       have hs:its.toArray.size=its2.toArray.size:=by simp [<-r1.length, <-r2.length,l1.length,l2.length,hl]
       have:=hll _ _ _ _ _ pl.isList pl2.isList hs hu0 (zNK he l1 l2 r1 r2 z)
       have hl':=zKX z
       rw [range_all (by rw [hl'];simp [<-r1.length,l1.length,hl])]at this
       exact this
     ·rw [iN hl]at h
      cases h
      exact hln _ _ _ _ pl.isList pl2.isList (by simpa [<-r1.length, <-r2.length,l1.length,l2.length]using hl) hu0
theorem yRU(I:Inv X pins σ H s)(wd:Wd X.g α S H)(n:Nat){A:Around}{a b:Er}{x y:V}{u v:Value}{k:Bool}(hu:A.units+(n+1)<cLine)(h1:DenX X.K α H a x)(h2:DenX X.K α H b y)(rx:RelV x u)(ry:RelV y v)(h:zOU S n a b=some k):SeqAt.RcAt A s u v k:=
 yPZ (RC:=SeqAt.RcAt) (tr:=id) (λ_ _ _ _ a b c d=>yRQ a b c d) (λ_ _ _ _ a b c d=>⟨rc_lr a b c d,rc_ll a b c d⟩) (λ_ _ _ _ a b c d=>⟨rc_tr a b c d,rc_tl a b c d⟩)
  (λ_ _ _ _ a b c=>⟨SeqAt.RcAt.list_tuple a b c,SeqAt.RcAt.tuple_list b a c⟩) (λ_ _ _ _ _ a b c d=>SeqAt.RcAt.tuples a b c d) (λ_ _ _ _ _ a b c d e=>SeqAt.RcAt.lists a b c d e) (λ_ _ _ _ a b c d=>SeqAt.RcAt.lists_lengths a b c d)
  I wd n hu h1 h2 rx ry h
theorem yRV(I:Inv X pins σ H s)(wd:Wd X.g α S H)(n:Nat){A:Around}{a b:Er}{x y:V}{u v:Value}{k:Bool}(hu:A.units+(n+1)<cLine)(h1:DenX X.K α H a x)(h2:DenX X.K α H b y)(rx:RelV x u)(ry:RelV y v)(h:zOU S n a b=some k):SeqAt.RcNeAt A s u v (!k):=
 yPZ (RC:=SeqAt.RcNeAt) (tr:=λb=>!b) (λ_ _ _ _ a b c d=>yRR a b c d) (λ_ _ _ _ a b c d=>⟨rn_lr a b c d,rn_ll a b c d⟩) (λ_ _ _ _ a b c d=>⟨rn_tr a b c d,rn_tl a b c d⟩)
  (λ_ _ _ _ a b c=>⟨SeqAt.RcNeAt.list_tuple a b c,SeqAt.RcNeAt.tuple_list b a c⟩) (λ_ _ _ _ _ a b c d=>SeqAt.RcNeAt.tuples a b c d) (λ_ _ _ _ _ a b c d e=>SeqAt.RcNeAt.lists a b c d e) (λ_ _ _ _ a b c d=>SeqAt.RcNeAt.lists_lengths a b c d)
  I wd n hu h1 h2 rx ry h
theorem yEP{α β:Type}: ∀{a c:List α}{b d:List β},a.length=b.length->c.length=d.length->a.zip b=c.zip d->a=c/\b=d
 |[],[],[],[],_,_,_=>⟨rfl,rfl⟩
 |[],_::_,[],_::_,_,_,e=>by simp at e
 |_::_,[],_::_,[],_,_,e=>by simp at e
 |x::a,y::c,z::b,w::d,h1,h2,e=>by
  simp only [zip_cons_cons,List.cons.injEq,Prod.mk.injEq]at e
  obtain⟨rfl,rfl⟩:=yEP (by simpa using h1) (by simpa using h2) e.2
  exact⟨by rw [e.1.1],by rw [e.1.2]⟩
mutual
theorem Den.inj(I:Inv X pins σ H s)(wd:Wd X.g α S H): ∀{d f:MV}{v:V},Den X.K α H d v->Den X.K α H f v->d=f
 |.non,f,v,h,h'=>by cases zBZ h;cases f<;>first |rfl|(have:=zGA h';cases this;done)|(have:=kX h';cases this;done)|(have:=wF h';cases this;done)|(have:=zAD h';cases this;done)|(obtain⟨_,_,e,_⟩:=wG h';cases e;done)|(obtain⟨_,_,e,_⟩:=dF h';cases e;done)|(obtain⟨_,e,_⟩:=bU h';cases e;done)|(obtain⟨_,_,_,_,_,e,_⟩:=dE h';cases e;done)
 |.bl b,f,v,h,h'=>by cases zGA h;cases f<;>first |(have:=zGA h';cases this;rfl;done)|(have:=zBZ h';cases this;done)|(have:=kX h';cases this;done)|(have:=wF h';cases this;done)|(have:=zAD h';cases this;done)|(obtain⟨_,_,e,_⟩:=wG h';cases e;done)|(obtain⟨_,_,e,_⟩:=dF h';cases e;done)|(obtain⟨_,e,_⟩:=bU h';cases e;done)|(obtain⟨_,_,_,_,_,e,_⟩:=dE h';cases e;done)
 |.int b,f,v,h,h'=>by cases kX h;cases f<;>first |(have:=kX h';cases this;rfl;done)|(have:=zBZ h';cases this;done)|(have:=zGA h';cases this;done)|(have:=wF h';cases this;done)|(have:=zAD h';cases this;done)|(obtain⟨_,_,e,_⟩:=wG h';cases e;done)|(obtain⟨_,_,e,_⟩:=dF h';cases e;done)|(obtain⟨_,e,_⟩:=bU h';cases e;done)|(obtain⟨_,_,_,_,_,e,_⟩:=dE h';cases e;done)
 |.str b,f,v,h,h'=>by cases wF h;cases f<;>first |(have:=wF h';rw [zWT (V.str.inj this)];done)|(have:=zBZ h';cases this;done)|(have:=zGA h';cases this;done)|(have:=kX h';cases this;done)|(have:=zAD h';cases this;done)|(obtain⟨_,_,e,_⟩:=wG h';cases e;done)|(obtain⟨_,_,e,_⟩:=dF h';cases e;done)|(obtain⟨_,e,_⟩:=bU h';cases e;done)|(obtain⟨_,_,_,_,_,e,_⟩:=dE h';cases e;done)
 |.typ b,f,v,h,h'=>by cases zAD h;cases f<;>first |(have:=zAD h';cases this;rfl;done)|(have:=zBZ h';cases this;done)|(have:=zGA h';cases this;done)|(have:=kX h';cases this;done)|(have:=wF h';cases this;done)|(obtain⟨_,_,e,_⟩:=wG h';cases e;done)|(obtain⟨_,_,e,_⟩:=dF h';cases e;done)|(obtain⟨_,e,_⟩:=bU h';cases e;done)|(obtain⟨_,_,_,_,_,e,_⟩:=dE h';cases e;done)
 |.tup ds,f,v,h,h'=>by
  obtain⟨a,vs,rfl,s1,l1⟩:=wG h
  cases f with
  |tup es=>
   obtain⟨a2,us,e2,s2,l2⟩:=wG h'
   cases e2
   cases I.tuple_inj s1 s2
   rw [DenL.inj I wd l1 l2]
  |scr es=>obtain⟨a2,us,e2,s2,l2⟩:=dF h';cases e2;exact(zNJ I s2.l s1).elim
  |loc l=>
   obtain⟨a2,e2,h2⟩:=bU h'
   cases e2
   obtain⟨ho,k1,k2,k3⟩:=wd.mem (mem_of_getElem? h2)
   rcases s1 with(s1|⟨o,s1⟩)|⟨o,its,n,s1,_⟩
   ·rw [k1]at s1;exact absurd (Option.some.inj s1) (k2 _)
   ·rw [k1]at s1;exact absurd (Option.some.inj s1) (k3 _ _)
   ·have:=(I.bs a o (I.mod.kin a o s1)).2;rw [k1]at this;cases this
  |non=>cases zBZ h'
  |bl b=>cases zGA h'
  |int b=>cases kX h'
  |str b=>cases wF h'
  |typ b=>cases zAD h'
  |obj c ns es=>
   obtain⟨a2,C,dx,us,o2,e2,h2,_⟩:=dE h'
   cases e2
   rcases s1 with(s1|⟨o,s1⟩)|⟨o,its,n,s1,_⟩
   ·rw [h2]at s1;cases s1
   ·rw [h2]at s1;cases s1
   ·have:=(I.bs a o (I.mod.kin a o s1)).2;rw [h2]at this;cases this
 |.scr ds,f,v,h,h'=>by
  obtain⟨a,vs,rfl,s1,l1⟩:=dF h
  cases f with
  |scr es=>
   obtain⟨a2,us,e2,s2,l2⟩:=dF h'
   cases e2
   cases I.list_inj s1.l s2.l
   rw [DenL.inj I wd l1 l2]
  |tup es=>obtain⟨a2,us,e2,s2,l2⟩:=wG h';cases e2;exact(zNJ I s1.l s2).elim
  |loc l=>
   obtain⟨a2,e2,h2⟩:=bU h'
   cases e2
   obtain⟨ho,k1,k2,k3⟩:=wd.mem (mem_of_getElem? h2)
   rcases s1 with⟨o,s1⟩|⟨o,its,n,s1,_⟩
   ·rw [k1]at s1;exact absurd (Option.some.inj s1) (k3 _ _)
   ·have:=(I.bs a o (I.mod.kin a o s1)).2;rw [k1]at this;cases this
  |non=>cases zBZ h'
  |bl b=>cases zGA h'
  |int b=>cases kX h'
  |str b=>cases wF h'
  |typ b=>cases zAD h'
  |obj c ns es=>
   obtain⟨a2,C,dx,us,o2,e2,h2,_⟩:=dE h'
   cases e2
   rcases s1 with⟨o,s1⟩|⟨o,its,n,s1,_⟩
   ·rw [h2]at s1;cases s1
   ·have:=(I.bs a o (I.mod.kin a o s1)).2;rw [h2]at this;cases this
 |.loc l,f,v,h,h'=>by
  obtain⟨a,rfl,h1⟩:=bU h
  obtain⟨ho,k1,k2,k3⟩:=wd.mem (mem_of_getElem? h1)
  cases f with
  |loc m=>
   obtain⟨a2,e2,h2⟩:=bU h'
   cases e2
   by_cases hlm:l=m
   ·rw [hlm]
   ·exact absurd rfl (wd.ne h1 h2 hlm)
  |tup es=>
   obtain⟨a2,us,e2,s1,l2⟩:=wG h'
   cases e2
   rcases s1 with(s1|⟨o,s1⟩)|⟨o,its,n,s1,_⟩
   ·rw [k1]at s1;exact absurd (Option.some.inj s1) (k2 _)
   ·rw [k1]at s1;exact absurd (Option.some.inj s1) (k3 _ _)
   ·have:=(I.bs a o (I.mod.kin a o s1)).2;rw [k1]at this;cases this
  |scr es=>
   obtain⟨a2,us,e2,s1,l2⟩:=dF h'
   cases e2
   rcases s1 with⟨o,s1⟩|⟨o,its,n,s1,_⟩
   ·rw [k1]at s1;exact absurd (Option.some.inj s1) (k3 _ _)
   ·have:=(I.bs a o (I.mod.kin a o s1)).2;rw [k1]at this;cases this
  |non=>cases zBZ h'
  |bl b=>cases zGA h'
  |int b=>cases kX h'
  |str b=>cases wF h'
  |typ b=>cases zAD h'
  |obj c ns es=>
   obtain⟨a2,C,dx,us,o2,e2,h2,_⟩:=dE h'
   cases e2
   rw [k1]at h2;exact absurd (Option.some.inj h2) (k3 _ _)
 |.obj c ns ds,f,v,h,h'=>by
  obtain⟨a,C,dx,us,o2,rfl,h2,hn,hc,hl,l1⟩:=dE h
  cases f with
  |obj c' ns' es=>
   obtain⟨a2,C2,dx2,us2,o3,e2,h3,hn2,hc2,hl2,l2⟩:=dE h'
   cases e2
   rw [h2]at h3
   injection h3 with h3
   injection h3 with _ h3
   injection h3 with e1 e2 e3
   subst e1
   rw [hc]at hc2
   cases hc2
   obtain⟨rfl,rfl⟩:=yEP hl hl2 e3
   rw [DenL.inj I wd l1 l2]
  |tup es=>
   obtain⟨a2,us,e2,s1,l2⟩:=wG h'
   cases e2
   rcases s1 with(s1|⟨o,s1⟩)|⟨o,its,n,s1,_⟩
   ·rw [h2]at s1;cases s1
   ·rw [h2]at s1;cases s1
   ·have:=(I.bs a o (I.mod.kin a o s1)).2;rw [h2]at this;cases this
  |scr es=>
   obtain⟨a2,us,e2,s1,l2⟩:=dF h'
   cases e2
   rcases s1 with⟨o,s1⟩|⟨o,its,n,s1,_⟩
   ·rw [h2]at s1;cases s1
   ·have:=(I.bs a o (I.mod.kin a o s1)).2;rw [h2]at this;cases this
  |loc l=>
   obtain⟨a2,e2,h1⟩:=bU h'
   cases e2
   obtain⟨ho,k1,k2,k3⟩:=wd.mem (mem_of_getElem? h1)
   rw [k1]at h2;exact absurd (Option.some.inj h2) (k3 _ _)
  |non=>cases zBZ h'
  |bl b=>cases zGA h'
  |int b=>cases kX h'
  |str b=>cases wF h'
  |typ b=>cases zAD h'
theorem DenL.inj(I:Inv X pins σ H s)(wd:Wd X.g α S H): ∀{ds fs:List MV}{vs:List V},DenL X.K α H ds vs->DenL X.K α H fs vs->ds=fs
 |[],fs,vs,h,h'=>by
  cases h.isnil
  cases fs with
  |nil=>rfl
  |cons f fs=>obtain⟨_,_,e,_⟩:=h'.uncons;cases e
 |d::ds,fs,vs,h,h'=>by
  obtain⟨v,r,rfl,a,l⟩:=h.uncons
  cases fs with
  |nil=>cases h'.isnil
  |cons f fs=>
   obtain⟨v',r',e,a',l'⟩:=h'.uncons
   cases e
   rw [Den.inj I wd a a',DenL.inj I wd l l']
end

end
inductive LexR(A:Around)(s:Shared):List Value->List Value->Bool->Prop
 |nn:LexR A s [] [] false
 |nc (x xs):LexR A s [] (x::xs) true
 |cn (y ys):LexR A s (y::ys) [] false
 |eq {y x ys xs k}:SeqAt.EqAt A s y x true->LexR A s ys xs k->LexR A s (y::ys) (x::xs) k
 |ne {y x ys xs k}:SeqAt.EqAt A s y x false->(∀(prog:Program)(w:World)(E Q:VP),Q (.bool k) s->wpAny (model prog w) A (richCompare .Lt y x) Q E s)->LexR A s (y::ys) (x::xs) k
section
open PySem.SeqAt
open PySem.AutoSeq1 (wpAny_loadPart')
open PySem.MeetsSeq PySem.MeetsSeq2 PySem.MeetsSeq3
theorem yCZ(l b:Addr)(its its2:Array Value)(n n2:Nat)(dd dd2:Option Addr)(sl sl2:Array (Option Value))(k:Bool):
  Meets (Builtin.«tuple.__lt__» ⟨[.ref l,.ref b],[]⟩)
   (λA R s=>s.heap.get? l=some {cls:=.type "tuple",dict:=dd,data:=.seq its n,slots:=sl}/\s.heap.get? b=some {cls:=.type "tuple",dict:=dd2,data:=.seq its2 n2,slots:=sl2}/\
    LexR A.in1 s its.toList its2.toList k/\R (.ok (.ret (.bool k))) s):=
 .of_wp λprog w A R s h=>by
  obtain⟨hp,g,d,tk,os⟩:=s;obtain⟨hl,hb,hx,h⟩:=h
  have f2:=AutoSeq1.sub_tuple_tuple
  wp_walk using wpAny_loadPart' hl,wpAny_loadPart' hb,wpAny_forIn_list _ (λrest b s'=>b.1=none/\s'=⟨hp,g,d,tk,os⟩/\ ∃(vs ws:List Value),rest=vs.zip ws/\
   LexR A.in1 ⟨hp,g,d,tk,os⟩ vs ws k/\vs.length+its2.size=ws.length+its.size) _
  case turn=>
   rintro⟨y,x⟩ rest b s' ⟨hb',rfl,vs,ws,hz,hlx,hlen⟩
   cases hlx with
   |nn=>rw [zip_nil_left]at hz;cases hz
   |nc x xs=>rw [zip_nil_left]at hz;cases hz
   |cn y ys=>rw [List.zip_nil_right]at hz;cases hz
   |@eq y' x' ys xs k' he hr=>
    rw [zip_cons_cons]at hz
    injection hz with hyx hrest
    injection hyx with hy hx
    subst hy hx
    simp only [lC]at hlen
    refine wB0 (he prog w _ _ ?_)
    wp_walk
    exact⟨rfl,rfl,_,_,hrest,hr,by omega⟩
   |@ne y' x' ys xs k' he hr=>
    rw [zip_cons_cons]at hz
    injection hz with hyx hrest
    injection hyx with hy hx
    subst hy hx
    refine wB0 (he prog w _ _ ?_)
    have hri:=hr prog w
    wp_walk using hri
    exact⟨_,rfl,by simpa using h⟩
  case fin=>
   rintro⟨b1,b2⟩ s' ⟨hb',rfl,vs,ws,hz,hlx,hlen⟩
   simp only at hb'
   subst hb'
   have hv:k=decide (its.size<its2.size):=by
    cases hlx with
    |nn=>simp only [length_nil]at hlen;exact(dF0 (by omega)).symm
    |nc x xs=>simp only [length_nil,lC]at hlen;exact(dT0 (by omega)).symm
    |cn y ys=>simp only [length_nil,lC]at hlen;exact(dF0 (by omega)).symm
    |eq he hr=>rw [zip_cons_cons]at hz;cases hz
    |ne he hr=>rw [zip_cons_cons]at hz;cases hz
   rw [hv]at h
   wp_walk
   exact⟨_,rfl,by simpa [Builtin.Tuple.tupleCompareSizes]using h⟩
  case h=>
   exact⟨rfl,rfl,its.toList,its2.toList,rfl,hx,by simp;omega⟩
end
theorem yJS{A:Around}{s:Shared}{l b:Addr}{its its2:Array Value}{k:Bool}(hl:IsTup s.heap l its)(hb:IsTup s.heap b its2)(hx:LexR A.in1 s its.toList its2.toList k)(hu:A.units<cLine)(prog:Program)(w:World)(E Q:VP)(h:Q (.bool k) s):
  wpAny (model prog w) A (richCompare .Lt (.ref l) (.ref b)) Q E s:=by
 obtain⟨⟨cls,dd,data,sl⟩,ho,hc,n,hd⟩:=id hl
 obtain⟨⟨cls2,dd2,data2,sl2⟩,ho2,hc2,n2,hd2⟩:=id hb
 simp only at hc hd hc2 hd2
 subst hc hd hc2 hd2
 exact richCompare_meets_room (op:=.Lt) ⟨_,ho,rfl⟩ ⟨_,ho2,rfl⟩ PySem.F.slot_tuple_lt PySem.F.entry_tuple_lt (PySem.F.args_tuple_lt_2 _ _) (yCZ l b its its2 n n2 dd dd2 sl sl2 k)
  ⟨ho,ho2,hx,show Value.bool k≠Value.notImplemented/\Q (.bool k) s from⟨(λx=>nomatch x),h⟩⟩ hu
def zRZ(e l:MV->MV->Option Bool):List MV->List MV->Option Bool
 |[],[]=>some false
 |[],_::_=>some true
 |_::_,[]=>some false
 |d::ds,f::fs=>(e d f).bind λk=>if k=true then zRZ e l ds fs else l d f
def ltv(S:Sto):Nat->MV->MV->Option Bool
 |0,_,_=>none
 |n+1,.int i,.int j=>some (decide (i<j))
 |n+1,.str x,.str y=>some (decide (x<y))
 |n+1,.tup ds,.tup es=>zRZ (eqv S n) (ltv S n) ds es
 |_,_,_=>none
section
variable{X:Cx}{α:List Addr}{S:Sto}{H:Hp}{pins:List (Addr×Obj)}{σ:St}{s:Shared}
theorem yJT{A:Around}{e l:MV->MV->Option Bool}(he: ∀d f x y u v k,Den X.K α H d x->Den X.K α H f y->RelV x u->RelV y v->e d f=some k->SeqAt.EqAt A s u v k)
  (hl: ∀d f x y u v k,Den X.K α H d x->Den X.K α H f y->RelV x u->RelV y v->l d f=some k-> ∀(prog:Program)(w:World)(E Q:VP),Q (.bool k) s->wpAny (model prog w) A (richCompare .Lt u v) Q E s):
  ∀{ds fs:List MV}{vs us:List V}{its its2:List Value}{k:Bool},DenL X.K α H ds vs->DenL X.K α H fs us->Vals vs its->Vals us its2->zRZ e l ds fs=some k->LexR A s its its2 k
 |[],[],_,_,_,_,k,l1,l2,r1,r2,h=>by
  cases l1.isnil;cases l2.isnil;cases r1;cases r2;cases h;exact .nn
 |[],f::fs,_,_,_,_,k,l1,l2,r1,r2,h=>by
  cases l1.isnil
  obtain⟨v,r,rfl,a,l⟩:=l2.uncons
  cases r1
  cases r2 with
  |cons a b=>cases h;exact .nc _ _
 |d::ds,[],_,_,_,_,k,l1,l2,r1,r2,h=>by
  cases l2.isnil
  obtain⟨v,r,rfl,a,l⟩:=l1.uncons
  cases r2
  cases r1 with
  |cons a b=>cases h;exact .cn _ _
 |d::ds,f::fs,_,_,_,_,k,l1,l2,r1,r2,h=>by
  obtain⟨v,r,rfl,a,l1'⟩:=l1.uncons
  obtain⟨v2,r3,rfl,a2,l2'⟩:=l2.uncons
  cases r1 with
  |cons b1 c1=>
   cases r2 with
   |cons b2 c2=>
    unfold zRZ at h
    cases z:e d f with
    |none=>rw [z]at h;cases h
    |some kk=>
     rw [z]at h
     have h:(if kk=true then zRZ e l ds fs else l d f)=some k:=h
     cases kk with
     |true=>
      rw [iP rfl]at h
      exact .eq (he d f _ _ _ _ _ a a2 b1 b2 z) (yJT he hl l1' l2' c1 c2 h)
     |false=>
      rw [iN xF0]at h
      exact .ne (he d f _ _ _ _ _ a a2 b1 b2 z) (hl d f _ _ _ _ _ a a2 b1 b2 h)
theorem yDA(I:Inv X pins σ H s)(wd:Wd X.g α S H): ∀(n:Nat)(A:Around)(d f:MV)(x y:V)(u v:Value)(k:Bool),A.units+n<cLine->Den X.K α H d x->Den X.K α H f y->RelV x u->RelV y v->ltv S n d f=some k->
  ∀(prog:Program)(w:World)(E Q:VP),Q (.bool k) s->wpAny (model prog w) A (richCompare .Lt u v) Q E s
 |0,_,_,_,_,_,_,_,_,_,_,_,_,_,h=>by cases h
 |n+1,A,d,f,x,y,u,v,k,hu,h1,h2,rx,ry,h=>by
  intro prog w E Q hq
  unfold ltv at h
  split at h
  ·cases h
  ·cases h
   cases kX h1;cases kX h2
   obtain⟨t,rfl⟩:=rx
   obtain⟨t',rfl⟩:=ry
   exact(PyProof.Rows.lt_int hq:wpAny (model prog w) A (compareOp .Lt _ _) Q E s)
  ·cases h
   cases wF h1;cases wF h2
   obtain⟨t,rfl⟩:=rx
   obtain⟨t',rfl⟩:=ry
   refine(PySem.P.lt_str ?_:wpAny (model prog w) A (compareOp .Lt _ _) Q E s)
   rw [zGN,zGN]
   exact hq
  ·rename_i n' ds es hn
   obtain⟨a,vs,rfl,s1,l1⟩:=wG h1
   obtain⟨b,us,rfl,s2,l2⟩:=wG h2
   cases rx;cases ry
   obtain⟨its,r1,pt,_⟩:=I.tuple s1
   obtain⟨its2,r2,pt2,_⟩:=I.tuple s2
   cases hn
   refine yJS pt pt2 ?_ (by omega) prog w E Q hq
   exact yJT (λd f x y u v k a b c d' e=>zOV I wd n A.in1 d f x y u v k (show A.units+1+n<cLine by omega) a b c d' e)
    (λd f x y u v k a b c d' e=>yDA I wd n A.in1 d f x y u v k (show A.units+1+n<cLine by omega) a b c d' e) l1 l2 r1 r2 h
  ·cases h
end
section
variable{X:Cx}{W:XW}{a b c e:Expr}{es:List Expr}{f g h:AX}{af:Rho->Sto->R (List Er)}{pos:Pos}
def iiF(C:Int->Int->Prop)[∀i j,Decidable (C i j)](g:Int->Int->Int):Er->Er->Sto->R Er
 |.val (.int i),.val (.int j),S=>if C i j then .ok (.val (.int (g i j))) S else .no
 |_,_,_=>.no
def ibF(g:Int->Int->Bool):Er->Er->Sto->R Er
 |.val (.int i),.val (.int j),S=>.ok (.val (.bl (g i j))) S
 |_,_,_=>.no
theorem yDB{C C':Int->Int->Prop}[∀i j,Decidable (C i j)]{g:Int->Int->Int}(h: ∀i j,C i j->C' i j):Op2 X W (rI C' λi j=>.int (g i j)) (iiF C g):=by
 intro p q x y α S H Q wd dp dq post
 unfold iiF at post
 split at post
 ·split at post
  ·rename_i hc
   exact⟨_,_,xL dp,xL dq,h _ _ hc,Post.val post wd (jL _)⟩
  ·exact post.elim
 ·exact post.elim
theorem yNK{g:Int->Int->Int}:Op2 X W (rI0 λi j=>.int (g i j)) (iiF (λ_ _=>True) g):=by
 intro p q x y α S H Q wd dp dq post
 unfold iiF at post
 split at post
 ·rw [iP trivial]at post
  exact⟨_,_,xL dp,xL dq,Post.val post wd (jL _)⟩
 ·exact post.elim
theorem yRW{g:Int->Int->Bool}:Op2 X W (rI0 λi j=>.bl (g i j)) (ibF g):=by
 intro p q x y α S H Q wd dp dq post
 unfold ibF at post
 split at post
 ·exact⟨_,_,xL dp,xL dq,Post.val post wd (dD _)⟩
 ·exact post.elim
abbrev yJU:=iiF (λ_ _=>True) λi j=>i - j
theorem yDC(ha:PEm X W a f)(hb:PEm X W b g):PEm X W (.BinOp a .Sub b pos) (λρ S=>(f ρ S).bind λp S1=>(g ρ S1).bind λq S2=>yJU p q S2):=zVR yRA yNK ha hb
def yHG(_ j:Int):Prop:=0<j/\j.natAbs.log2<9000
instance(i j:Int):Decidable (yHG i j):=inferInstanceAs (Decidable (_/\_))
abbrev zUL:=iiF yHG λi j=>i / j
theorem yJV:OpR X (binaryOp .FloorDiv) (rI yHG λi j=>.int (i / j)):=opI λi j _ _ _ _ _ hc q=>by
 have e:i.fdiv j=i / j:=Int.fdiv_eq_ediv_of_nonneg i (Int.le_of_lt hc.1)
 refine floordiv_int (by have:=hc.1;omega) ?_ (.inl (PyProof.noPylong_of_log2 hc.2))
 rw [e]
 exact q
theorem zSA(ha:PEm X W a f)(hb:PEm X W b g):PEm X W (.BinOp a .FloorDiv b pos) (λρ S=>(f ρ S).bind λp S1=>(g ρ S1).bind λq S2=>zUL p q S2):=zVR yJV (yDB λi j h=>h) ha hb
abbrev zSB:=iiF (λ_ j=>0<j) λi j=>i % j
theorem zGR(ha:PEm X W a f)(hb:PEm X W b g):PEm X W (.BinOp a .Mod b pos) (λρ S=>(f ρ S).bind λp S1=>(g ρ S1).bind λq S2=>zSB p q S2):=zVR yRB (yDB λi j h=>h) ha hb
def powC(i j:Int):Prop:=0<=j/\(Builtin.Int.intBits i:Int) * j<=2 ^ 27
instance(i j:Int):Decidable (powC i j):=inferInstanceAs (Decidable (_/\_))
abbrev powF:=iiF powC λi j=>i ^ j.toNat
theorem yNL:OpR X (binaryOp .Pow) (rI powC λi j=>.int (i ^ j.toNat)):=opI λ_ _ _ _ _ _ _ hc q=>pow_int hc.1 hc.2 q
theorem yJW(ha:PEm X W a f)(hb:PEm X W b g):PEm X W (.BinOp a .Pow b pos) (λρ S=>(f ρ S).bind λp S1=>(g ρ S1).bind λq S2=>powF p q S2):=zVR yNL (yDB λi j h=>h) ha hb
def shlC(i j:Int):Prop:=0<=j/\j<=1000000/\i.natAbs<2 ^ 64
instance(i j:Int):Decidable (shlC i j):=inferInstanceAs (Decidable (_/\_/\_))
def usubF:Er->Sto->R Er
 |.val (.int i),S=>.ok (.val (.int (-i))) S
 |_,_=>.no
def lsW(S:Sto):Er->Option (List MV)
 |.new ds=>some ds
 |.val (.loc l)=>match S[l]? with
  |some (.lst ds)=>some ds
  |_=>none
 |_=>none
theorem zXD{α:List Addr}{S:Sto}{H:Hp}(wd:Wd X.g α S H){r:Er}{ds:List MV}{x:V}(e:lsW S r=some ds)(d:DenX X.K α H r x): ∃a vs,x=.ref a/\H a=some (.lst vs)/\DenL X.K α H ds vs:=by
 unfold lsW at e
 split at e
 ·cases e
  obtain⟨b,vs,rfl,h,_,l⟩:=d
  exact⟨b,vs,rfl,h,l⟩
 ·rename_i n
  obtain⟨a,rfl,h⟩:=zLX d
  split at e
  ·rename_i es hS
   cases e
   obtain⟨vs,h1,l⟩:=wd.obj n a _ h hS
   exact⟨a,vs,rfl,h1,l⟩
  ·cases e
 ·cases e
def yEQ(p q:Er)(S:Sto):R Er:=match lsW S p,lsW S q with
 |some x,some y=>if x.length+y.length<=sizeLine then .ok (.new (x++y)) S else .no
 |_,_=>.no
def wZ:Er->Er->Sto->R Er
 |.val (.int i),.val (.int j),S=>.ok (.val (.int (i+j))) S
 |.val (.str x),.val (.str y),S=>if x.length+y.length<=sizeLine then .ok (.val (.str (x++y))) S else .no
 |.val (.tup x),.val (.tup y),S=>if x.length+y.length<=sizeLine then .ok (.val (.tup (x++y))) S else .no
 |p,q,S=>yEQ p q S
theorem yJX:OpR X (binaryOp .Add) (λx y H Q=> ∃a b ys,x=.ref a/\y=.ref b/\SqT X.K H a []/\SqT X.K H b ys/\Q (.ref b) H):=by
 intro pins s σ H x y v u Q I rx ry h
 obtain⟨a,b,ys,rfl,rfl,ha,hb,q⟩:=h
 cases rx
 cases ry
 obtain⟨its,r1,p1,_⟩:=I.tuple ha
 obtain⟨its2,r2,p2,_⟩:=I.tuple hb
 have e0:its=[]:=r1.nil_iff.mpr rfl
 subst e0
 obtain⟨⟨cls,dd,data,sl⟩,ho,hc,n,hd⟩:=id p1
 obtain⟨⟨cls2,dd2,data2,sl2⟩,ho2,hc2,n2,hd2⟩:=id p2
 simp only at hc hd hc2 hd2
 subst hc hd hc2 hd2
 exact concat_meets ⟨_,ho,rfl⟩ ⟨_,ho2,rfl⟩ noFill_tuple_add seq_tuple_add PySem.F.slot_tuple_add PySem.F.entry_tuple_add (PySem.F.args_tuple_add_2 _ _)
  (tuple_addW0 a b _ _ n n2 dd dd2 sl sl2 rfl) ⟨ho,ho2,⟨.ref b,H,I,rfl,q⟩⟩
theorem yS(ha:PEm X W a f)(hb:PEm X W b g):PEm X W (.BinOp a .Add b pos) (λρ S=>(f ρ S).bind λp S1=>(g ρ S1).bind λq S2=>wZ p q S2):=by
 refine zVR (yQZ.or (yCH.or (yRM.or (yMX.or yJX)))) ?_ ha hb
 intro p q x y α S H Q wd dp dq post
 unfold wZ at post
 split at post
 ·exact .inl ⟨_,_,xL dp,xL dq,Post.val post wd (jL _)⟩
 ·split at post
  ·rename_i hz
   refine .inr (.inl ⟨_,_,dH dp,dH dq,by rw [kZ,kZ];exact hz,?_⟩)
   rw [zWU]
   exact Post.val post wd (zGO _)
  ·exact post.elim
 ·split at post
  ·rename_i xx yy hz
   obtain⟨a1,vs,rfl,s1,l1⟩:=zCA dp
   obtain⟨a2,us,rfl,s2,l2⟩:=zCA dq
   by_cases h0:vs=[]
   ·subst h0
    have e0:=l1.length
    refine .inr (.inr (.inr (.inr ⟨a1,a2,us,rfl,rfl,s1,s2,?_⟩)))
    have:xx=[]:=by cases xx with |nil=>rfl|cons _ _=>simp at e0
    subst this
    exact Post.val post wd (zGP s2 l2)
   ·refine .inr (.inr (.inr (.inl ⟨a1,a2,vs,us,rfl,rfl,s1,s2,h0,by rw [l1.length,l2.length];exact hz,λh1=>?_,λh1 p hp=>Post.newt post wd hp (l1.append l2)⟩)))
    subst h1
    have e0:=l2.length
    have:yy=[]:=by cases yy with |nil=>rfl|cons _ _=>simp at e0
    subst this
    rw [aN]at post
    exact Post.val post wd (zGP s1 l1)
  ·exact post.elim
 ·unfold yEQ at post
  split at post
  ·rename_i ds1 ds2 e1 e2
   split at post
   ·rename_i hz
    obtain⟨a1,vs,rfl,h1,l1⟩:=zXD wd e1 dp
    obtain⟨a2,us,rfl,h2,l2⟩:=zXD wd e2 dq
    exact .inr (.inr (.inl ⟨a1,a2,vs,us,rfl,rfl,h1,h2,by rw [l1.length,l2.length];exact hz,λp hp=>Post.newl post wd hp (l1.append l2)⟩))
   ·exact post.elim
  ·exact post.elim
def mulC(i j:Int):Prop:=(-(2 ^ 64)<i/\i<2 ^ 64)\/(-(2 ^ 64)<j/\j<2 ^ 64)\/(i.natAbs.log2<4000/\j.natAbs.log2<4000)
theorem yER{i:Int}(h:i.natAbs.log2<4000):Builtin.Int.intBits i<=2 ^ 20:=by
 have e:(2:Nat) ^ 20=1048576:=by decide
 unfold Builtin.Int.intBits
 split<;>omega
theorem mulC.ok{i j:Int}(h:mulC i j):IntMulOk i j:=by
 rcases h with h|h|⟨h1,h2⟩
 ·exact CMul.ok (.inl h)
 ·exact CMul.ok (.inr h)
 ·exact .of_bits (yER h1) (yER h2)
theorem yNM{X:Cx}:OpR X (binaryOp .Mult) (rI mulC λi j=>.int (i * j)):=opI λ_ _ _ _ _ _ _ hc q=>mul_int q hc.ok
instance(i j:Int):Decidable (mulC i j):=inferInstanceAs (Decidable (_\/_\/_))
def yQA(p:Er)(k:Int)(S:Sto):R Er:=match lsW S p with
 |some x=>if 0<=k/\k<100000/\x.length * k.toNat<=sizeLine then .ok (.new (List.replicate k.toNat x).flatten) S else .no
 |none=>.no
def zIZ:Er->Er->Sto->R Er
 |.val (.int i),.val (.int j),S=>if mulC i j then .ok (.val (.int (i * j))) S else .no
 |.val (.str x),.val (.int k),S=>if 0<=k/\k<1000/\x.length<=1000 then .ok (.val (.str (zRR x k))) S else .no
 |p,.val (.int k),S=>yQA p k S
 |_,_,_=>.no
theorem DenL.rep{K:PySem.W.Frag}{α:List Addr}{H:Hp}{ds:List MV}{vs:List V}(l:DenL K α H ds vs): ∀k:Nat,DenL K α H (List.replicate k ds).flatten (List.replicate k vs).flatten
 |0=>xV
 |k+1=>by rw [replicate_succ,flatten_cons,replicate_succ,flatten_cons];exact l.append (DenL.rep l k)
theorem zAF(ha:PEm X W a f)(hb:PEm X W b g):PEm X W (.BinOp a .Mult b pos) (λρ S=>(f ρ S).bind λp S1=>(g ρ S1).bind λq S2=>zIZ p q S2):=by
 refine zVR (yNM.or (yCS.or yRN)) ?_ ha hb
 intro p q x y α S H Q wd dp dq post
 unfold zIZ at post
 split at post
 ·split at post
  ·rename_i hc
   exact .inl ⟨_,_,xL dp,xL dq,hc,Post.val post wd (jL _)⟩
  ·exact post.elim
 ·split at post
  ·rename_i hc
   exact .inr (.inl ⟨_,_,dH dp,xL dq,hc.1,hc.2.1,hc.2.2,Post.val post wd (zGO _)⟩)
  ·exact post.elim
 ·unfold yQA at post
  split at post
  ·rename_i ds e1
   split at post
   ·rename_i hc
    obtain⟨a1,vs,rfl,h1,l1⟩:=zXD wd e1 dp
    exact .inr (.inr ⟨a1,_,vs,rfl,xL dq,h1,by omega,by omega,by rw [l1.length];exact hc.2.2,λp hp=>Post.newl post wd hp (l1.rep _)⟩)
   ·exact post.elim
  ·exact post.elim
 ·exact post.elim
def zX:Nat:=40
def eqF(p q:Er)(S:Sto):R Er:=match zOU S zX p q with
 |some k=>.ok (.val (.bl k)) S
 |none=>.no
def neF(p q:Er)(S:Sto):R Er:=match zOU S zX p q with
 |some k=>.ok (.val (.bl !k)) S
 |none=>.no
theorem yJY(hu:X.A.units+64<cLine):OpR X (compareOp .Eq) (λx y H Q=> ∃α S p q k,Wd X.g α S H/\DenX X.K α H p x/\DenX X.K α H q y/\zOU S zX p q=some k/\Q (.bl k) H):=by
 intro pins s σ H x y v u Q I rx ry h
 obtain⟨α,S,p,q,k,wd,dp,dq,e,hq⟩:=h
 exact yRU I wd zX (by unfold zX;omega) dp dq rx ry e X.prog X.w _ _ ⟨.bl k,H,I,rfl,hq⟩
theorem yJZ(hu:X.A.units+64<cLine):OpR X (compareOp .NotEq) (λx y H Q=> ∃α S p q k,Wd X.g α S H/\DenX X.K α H p x/\DenX X.K α H q y/\zOU S zX p q=some k/\Q (.bl (!k)) H):=by
 intro pins s σ H x y v u Q I rx ry h
 obtain⟨α,S,p,q,k,wd,dp,dq,e,hq⟩:=h
 exact yRV I wd zX (by unfold zX;omega) dp dq rx ry e X.prog X.w _ _ ⟨.bl (!k),H,I,rfl,hq⟩
theorem yES:Op2 X W (λx y H Q=> ∃α S p q k,Wd X.g α S H/\DenX X.K α H p x/\DenX X.K α H q y/\zOU S zX p q=some k/\Q (.bl k) H) eqF:=by
 intro p q x y α S H Q wd dp dq post
 unfold eqF at post
 split at post
 ·rename_i k e
  exact⟨α,S,p,q,k,wd,dp,dq,e,Post.val post wd (dD _)⟩
 ·exact post.elim
theorem yET:Op2 X W (λx y H Q=> ∃α S p q k,Wd X.g α S H/\DenX X.K α H p x/\DenX X.K α H q y/\zOU S zX p q=some k/\Q (.bl (!k)) H) neF:=by
 intro p q x y α S H Q wd dp dq post
 unfold neF at post
 split at post
 ·rename_i k e
  exact⟨α,S,p,q,k,wd,dp,dq,e,Post.val post wd (dD _)⟩
 ·exact post.elim
theorem zPW(hu:X.A.units+64<cLine)(ha:PEm X W a f)(hb:PEm X W b g):PEm X W (.Compare a [.Eq] [b] pos) (λρ S=>(f ρ S).bind λp S1=>(g ρ S1).bind λq S2=>eqF p q S2):=yCU (yJY hu) yES ha hb
theorem wE(hu:X.A.units+64<cLine)(ha:PEm X W a f)(hb:PEm X W b g):PTm X W (.Compare a [.Eq] [b] pos) (λρ S=>((f ρ S).bind λp S1=>(g ρ S1).bind λq S2=>eqF p q S2).bind asB):=zRU (yJY hu) yES ha hb
theorem pm_ne(hu:X.A.units+64<cLine)(ha:PEm X W a f)(hb:PEm X W b g):PEm X W (.Compare a [.NotEq] [b] pos) (λρ S=>(f ρ S).bind λp S1=>(g ρ S1).bind λq S2=>neF p q S2):=yCU (yJZ hu) yET ha hb
theorem zNL(hu:X.A.units+64<cLine)(ha:PEm X W a f)(hb:PEm X W b g):PTm X W (.Compare a [.NotEq] [b] pos) (λρ S=>((f ρ S).bind λp S1=>(g ρ S1).bind λq S2=>neF p q S2).bind asB):=zRU (yJZ hu) yET ha hb
def ltF:Er->Er->Sto->R Er
 |.val d,.val f,S=>match ltv S zX d f with
  |some k=>.ok (.val (.bl k)) S
  |none=>.no
 |_,_,_=>.no
theorem yKA(hu:X.A.units+64<cLine):OpR X (compareOp .Lt) (λx y H Q=> ∃α S d f k,Wd X.g α S H/\Den X.K α H d x/\Den X.K α H f y/\ltv S zX d f=some k/\Q (.bl k) H):=by
 intro pins s σ H x y v u Q I rx ry h
 obtain⟨α,S,d,f,k,wd,dp,dq,e,hq⟩:=h
 exact yDA I wd zX X.A d f x y v u k (by unfold zX;omega) dp dq rx ry e X.prog X.w _ _ ⟨.bl k,H,I,rfl,hq⟩
theorem yEU:Op2 X W (λx y H Q=> ∃α S d f k,Wd X.g α S H/\Den X.K α H d x/\Den X.K α H f y/\ltv S zX d f=some k/\Q (.bl k) H) ltF:=by
 intro p q x y α S H Q wd dp dq post
 unfold ltF at post
 split at post
 ·split at post
  ·rename_i k e
   exact⟨α,S,_,_,k,wd,dp,dq,e,Post.val post wd (dD _)⟩
  ·exact post.elim
 ·exact post.elim
theorem pm_lt(hu:X.A.units+64<cLine)(ha:PEm X W a f)(hb:PEm X W b g):PEm X W (.Compare a [.Lt] [b] pos) (λρ S=>(f ρ S).bind λp S1=>(g ρ S1).bind λq S2=>ltF p q S2):=yCU (yKA hu) yEU ha hb
theorem zZU(hu:X.A.units+64<cLine)(ha:PEm X W a f)(hb:PEm X W b g):PTm X W (.Compare a [.Lt] [b] pos) (λρ S=>((f ρ S).bind λp S1=>(g ρ S1).bind λq S2=>ltF p q S2).bind asB):=zRU (yKA hu) yEU ha hb
abbrev geF:=ibF λi j=>decide (j<=i)
theorem tm_ge(ha:PEm X W a f)(hb:PEm X W b g):PTm X W (.Compare a [.GtE] [b] pos) (λρ S=>((f ρ S).bind λp S1=>(g ρ S1).bind λq S2=>geF p q S2).bind asB):=zRU op_ge yRW ha hb
def getL(ds:List MV):Er->Sto->R Er
 |.val (.int i),S=>match atI ds i with |some d=>.ok (.val d) S|none=>.no
 |_,_=>.no
def ixF:Er->Er->Sto->R Er
 |.val (.str x),.val (.int i),S=>if x.length<=sizeLine then match atI x i with |some c=>.ok (.val (.str [c])) S|none=>.no else .no
 |.val (.tup ds),q,S=>getL ds q S
 |p,q,S=>match gC S p with |some ds=>getL ds q S|none=>.no
theorem yNN{K:PySem.W.Frag}{α:List Addr}{H:Hp}{ds:List MV}{vs:List V}{i:Int}{d:MV}(l:DenL K α H ds vs)(e:atI ds i=some d): ∃v,atI vs i=some v/\Den K α H d v:=by
 unfold atI at e ⊢
 rw [l.length]
 cases z:ixN ds.length i with
 |none=>rw [z]at e;cases e
 |some j=>
  rw [z]at e
  obtain⟨v,h1,h2⟩:=l.at (show ds[j]? =some d from e)
  exact⟨v,h1,h2⟩
theorem zO(ha:PEm X W a f)(hb:PEm X W b g)(hs:zWM b:=by exact λ_ _=>rfl):PEm X W (.Subscript a b pos) (λρ S=>(f ρ S).bind λp S1=>(g ρ S1).bind λq S2=>ixF p q S2):=by
 refine pm_ix yRJ ?_ ha hb hs
 intro p q x y α S H Q wd dp dq post
 have key: ∀{ds:List MV}{vs:List V}{i:Int}{d:MV},DenL X.K α H ds vs->atI ds i=some d->Post X.g W α H (.ok (Er.val d) S) Q-> ∃v,atI vs i=some v/\Q v H:=λl e post=>by
  obtain⟨v,h1,h2⟩:=yNN l e
  exact⟨v,h1,Post.val post wd h2⟩
 unfold ixF at post
 split at post
 ·split at post
  ·rename_i hz
   split at post
   ·rename_i ch e
    refine .inr (.inr ⟨_,_,ch,dH dp,xL dq,by rw [kZ];exact hz,by rw [zGN];exact e,?_⟩)
    exact Post.val post wd (zGO [ch])
   ·exact post.elim
  ·exact post.elim
 ·unfold getL at post
  split at post
  ·split at post
   ·rename_i d e
    obtain⟨a1,vs,rfl,s1,l1⟩:=zCA dp
    obtain⟨v,h1,h2⟩:=key l1 e post
    exact .inr (.inl ⟨a1,vs,_,v,rfl,xL dq,s1,h1,h2⟩)
   ·exact post.elim
  ·exact post.elim
 ·split at post
  ·rename_i ds el
   unfold getL at post
   split at post
   ·split at post
    ·rename_i d e
     obtain⟨a1,vs,rfl,s1,l1⟩:=zLO rfl wd el dp
     obtain⟨v,h1,h2⟩:=key l1 e post
     exact .inl ⟨a1,vs,_,v,rfl,xL dq,s1,h1,h2⟩
    ·exact post.elim
   ·exact post.elim
  ·exact post.elim
end
theorem zUM{prog:Program}{w:World}{A:Around}{E:VP}{s:Shared}{t sl:Addr}{its:Array Value}{vl vu:Value}{lo hi:Option Int}{Q:VP}(ht:IsTup s.heap t its)(hs:s.heap.IsSliceOf sl vl vu .none)(pl:IsPart vl lo)(pu:IsPart vu hi)
  (h0:HT.sIx its.size 0 lo=0) (h1:HT.sIx its.size its.size hi=its.size) (h:Q (.ref t) s):wpAny (model prog w) A (getItem (.ref t) (.ref sl)) Q E s:=by
 have hTs:s.TypeIs (.ref sl) "slice":=by obtain⟨os,hos,hcs,_⟩:=id hs;exact⟨os,hos,hcs⟩
 have hTt:=ht.typeIs
 unfold getItem
 try with_reducible refine wpAny_holding ?_
 first |refine wB0 (wP0 ?_)|skip
 refine wB0 (wpAny_sequenceKey hTt (by decide) ?_)
 refine wB0 (wpAny_callSpecial?_slot (name:=Str.ofString "__getitem__") hTt PyProof.Rows.slot_tuple_getitem (wpAny_call_entry PyProof.Rows.slot_tuple_getitem hTt entry_tuple_getitem ?_ (args_tuple_getitem _ _)))
 show wpAny _ _ (Builtin.Tuple.tupleItemsOf (.ref t) >>= _) _ _ s
 refine wB0 (tupleItemsOf_ ht (wB0 (wpAny_typeOf hTs ?_)))
 rw [iP (by decide)]
 refine wB0 (HT.sliceApplied_gen hs pl pu ?_)
 show wpAny _ _ (if(((HT.sIx its.size 0 lo:Nat):Int)==0&&(1:Int)==1&&(HT.sIx its.size its.size hi - HT.sIx its.size 0 lo)==its.size)=true then _ else _) _ _ s
 rw [iP (by rw [h0,h1];simp)]
 unfold Builtin.Tuple.tupleIsExact
 refine wB0 (wB0 (wpAny_typeOf hTt (wP0 ?_)))
 rw [iP (by decide)]
 refine wB0 (wpAny_rule ?_)
 first
  |exact wP0 ⟨_,rfl,wP0 h⟩
  |exact wB0 (wP0 (wP0 ⟨_,rfl,wP0 h⟩))
  |exact wB0 (wP0 ⟨_,rfl,wP0 h⟩)
section
variable{X:Cx}{W:XW}{a b c e:Expr}{es:List Expr}{f g h:AX}{af:Rho->Sto->R (List Er)}{pos:Pos}
theorem yNO:SlR X (λx lo hi H Q=> ∃a xs,x=.ref a/\SqT X.K H a xs/\HT.sIx xs.length 0 lo=0/\HT.sIx xs.length xs.length hi=xs.length/\Q (.ref a) H):=by
 intro pins s σ H x v vl vu lo hi sl Q I rx hs pl pu h
 obtain⟨a,xs,rfl,hx,h0,h1,q⟩:=h
 cases rx
 obtain⟨its,r,ht,hz⟩:=I.tuple hx
 have hlen:its.toArray.size=xs.length:=by rw [sA0];exact r.length.symm
 exact⟨"tuple",_,PyProof.Rows.slot_tuple_getitem.lookup,ht.typeIs,zUM ht hs pl pu (by rw [hlen];exact h0) (by rw [hlen];exact h1) ⟨.ref a,H,I,rfl,q⟩⟩
def zGC:Er->Option Int->Option Int->Sto->R Er
 |.val (.str x),lo,hi,S=>if x.length<=sizeLine then .ok (.val (.str (wD x lo hi))) S else .no
 |.val (.tup ds),lo,hi,S=>.ok (.val (.tup (wD ds lo hi))) S
 |p,lo,hi,S=>match gC S p with |some ds=>.ok (.new (wD ds lo hi)) S|none=>.no
theorem yHH{α:Type}{ds:List α}{lo hi:Option Int}(h0:HT.sIx ds.length 0 lo=0)(h1:HT.sIx ds.length ds.length hi=ds.length):wD ds lo hi=ds:=by
 unfold wD
 rw [h0,h1]
 simp
theorem zAG{lo hi:Option Expr}{lf hf:Rho->Sto->R (Option Int)}{p2:Pos}(ha:PEm X W a f)(hl:POm X W lo lf)(hh:POm X W hi hf):PEm X W (.Subscript a (.Slice lo hi none p2) pos) (λρ S=>(f ρ S).bind λp S1=>(lf ρ S1).bind λl S2=>(hf ρ S2).bind λu S3=>zGC p l u S3):=by
 refine yJO (yRP.or (yMZ.or (yRI.or yNO))) ?_ ha hl hh
 intro p lo hi x α S H Q wd dp post
 unfold zGC at post
 split at post
 ·split at post
  ·rename_i hz
   exact .inl ⟨_,dH dp,hz,Post.val post wd (zGO _)⟩
  ·exact post.elim
 ·rename_i _ _ _ ds
  obtain⟨a1,vs,rfl,s1,l1⟩:=zCA dp
  by_cases hw:HT.sIx vs.length 0 lo=0/\HT.sIx vs.length vs.length hi=vs.length
  ·have e:wD ds lo hi=ds:=yHH (by rw [<-l1.length];exact hw.1) (by rw [<-l1.length];exact hw.2)
   rw [e]at post
   exact .inr (.inr (.inr ⟨a1,vs,rfl,s1,hw.1,hw.2,Post.val post wd (zGP s1 l1)⟩))
  ·exact .inr (.inr (.inl ⟨a1,vs,rfl,s1,hw,λp hp=>Post.newt post wd hp (l1.cut lo hi)⟩))
 ·split at post
  ·rename_i ds el
   obtain⟨a1,vs,rfl,s1,l1⟩:=zLO rfl wd el dp
   exact .inr (.inl ⟨a1,vs,rfl,s1,λp hp=>Post.newl post wd hp (l1.cut lo hi)⟩)
  ·exact post.elim
theorem DenL.pick{K:PySem.W.Frag}{α:List Addr}{H:Hp}{ds:List MV}{vs:List V}(l:DenL K α H ds vs): ∀idx:List Nat,DenL K α H (idx.filterMap (ds[·]?)) (idx.filterMap (vs[·]?))
 |[]=>xV
 |i::idx=>by
  cases z:ds[i]? with
  |none=>
   have z2:vs[i]? =none:=by rw [List.getElem?_eq_none_iff,l.length];exact List.getElem?_eq_none_iff.mp z
   rw [List.filterMap_cons_none z,List.filterMap_cons_none z2]
   exact DenL.pick l idx
  |some d=>
   obtain⟨v,h1,h2⟩:=l.at z
   rw [filterMap_cons_some z,filterMap_cons_some h1]
   exact xD h2 (DenL.pick l idx)
theorem Vals.pick{xs:List V}{us:List Value}(r:Vals xs us): ∀idx:List Nat,Vals (idx.filterMap (xs[·]?)) (idx.filterMap (us[·]?))
 |[]=>.nil
 |i::idx=>by
  cases z:xs[i]? with
  |none=>rw [List.filterMap_cons_none z,List.filterMap_cons_none (r.none_of z)];exact Vals.pick r idx
  |some d=>
   obtain⟨v,h1,h2⟩:=r.get z
   rw [filterMap_cons_some z,filterMap_cons_some h1]
   exact .cons h2 (Vals.pick r idx)
end
section
variable{X:Cx}{W:XW}{a b c e:Expr}{es:List Expr}{f g h:AX}{af:Rho->Sto->R (List Er)}{pos:Pos}
def zZV(S:Sto)(n:Nat)(d:MV):List MV->Option (List Bool)
 |[]=>some []
 |y::ys=>(eqv S n y d).bind λk=>(zZV S n d ys).map (k::·)
section
variable{α:List Addr}{S:Sto}{H:Hp}{pins:List (Addr×Obj)}{σ:St}{s:Shared}
noncomputable def yHI(X:Cx)(α:List Addr)(S:Sto)(H:Hp)(n:Nat)(d:MV)(u:Value):Bool:=open Classical in decide (∃y x,Den X.K α H y x/\RelV x u/\eqv S n y d=some true)
open Classical in
theorem yNP(I:Inv X pins σ H s)(wd:Wd X.g α S H){n:Nat}{d y:MV}{x:V}{u:Value}{k:Bool}(dy:Den X.K α H y x)(r:RelV x u)(e:eqv S n y d=some k):yHI X α S H n d u=k:=by
 unfold yHI
 cases k with
 |true=>exact dT0 ⟨y,x,dy,r,e⟩
 |false=>
  refine dF0 λ⟨y',x',dy',r',e'⟩=>?_
  have ex:=r.inj r'
  subst ex
  rw [dy.inj I wd dy']at e
  rw [e]at e'
  cases e'
theorem zXE(I:Inv X pins σ H s)(wd:Wd X.g α S H){n:Nat}{A:Around}{d:MV}{x:V}{v:Value}(hu:A.units+n<cLine)(dd:Den X.K α H d x)(rx:RelV x v): ∀{ys:List MV}{vs:List V}{us:List Value}{bs:List Bool},DenL X.K α H ys vs->Vals vs us->zZV S n d ys=some bs->
  us.map (yHI X α S H n d)=bs/\ ∀u∈us,SeqAt.EqAt A s u v (yHI X α S H n d u)
 |[],_,_,bs,l,r,e=>by
  cases l.isnil;cases r;cases e
  exact⟨rfl,λu hu=>by cases hu⟩
 |y::ys,_,_,bs,l,r,e=>by
  obtain⟨v',r',rfl,dy,l'⟩:=l.uncons
  cases r with
  |cons r1 r2=>
   unfold zZV at e
   cases z:eqv S n y d with
   |none=>rw [z]at e;cases e
   |some k=>
    rw [z]at e
    cases z2:zZV S n d ys with
    |none=>simp [z2]at e
    |some cs=>
     simp [z2]at e
     subst e
     obtain⟨h1,h2⟩:=zXE I wd hu dd rx l' r2 z2
     have h3:=yNP I wd dy r1 z
     refine⟨by rw [map_cons,h1,h3],λu hu'=>?_⟩
     rcases mC.mp hu' with rfl|hu'
     ·rw [h3];exact zOV I wd n A y d _ _ _ _ k hu dy dd r1 rx z
     ·exact h2 u hu'
end
theorem any_map{us:List Value}{f:Value->Bool}{bs:List Bool}(h:us.map f=bs):us.toArray.any f=bs.any id:=by
 subst h
 simp [List.any_map]
def itemsOf(S:Sto):Er->Option (List MV)
 |.val (.tup ds)=>some ds
 |r=>gC S r
theorem zSC{α:List Addr}{S:Sto}{H:Hp}(wd:Wd X.g α S H){r:Er}{ds:List MV}{x:V}(e:itemsOf S r=some ds)(d:DenX X.K α H r x): ∃a vs,x=.ref a/\(SqL X.K H a vs\/SqT X.K H a vs)/\DenL X.K α H ds vs:=by
 unfold itemsOf at e
 split at e
 ·cases e
  obtain⟨a,vs,rfl,s,l⟩:=zCA d
  exact⟨a,vs,rfl,.inr s,l⟩
 ·obtain⟨a,vs,rfl,s,l⟩:=zLO rfl wd e d
  exact⟨a,vs,rfl,.inl s,l⟩
def zOW(neg:Bool)(p q:Er)(S:Sto):R Er:=match p with
 |.val d=>match itemsOf S q with
  |some ys=>match zZV S zX d ys with
   |some bs=>.ok (.val (.bl (if neg=true then !bs.any id else bs.any id))) S
   |none=>.no
  |none=>.no
 |.new _=>.no
def inF(neg:Bool):Er->Er->Sto->R Er
 |.val (.str [c]),.val (.str y),S=>.ok (.val (.bl (if neg=true then !decide (c∈y)else decide (c∈y)))) S
 |p,q,S=>zOW neg p q S
abbrev rInM(X:Cx)(neg:Bool):R2:=λx y H Q=> ∃α S d q ys bs,Wd X.g α S H/\Den X.K α H d x/\DenX X.K α H q y/\itemsOf S q=some ys/\zZV S zX d ys=some bs/\Q (.bl (if neg=true then !bs.any id else bs.any id)) H
theorem yHJ(hu:X.A.units+64<cLine):OpR X (compareOp .NotIn) (rInM X true):=by
 intro pins s σ H x y v u Q I rx ry h
 obtain⟨α,S,d,q,ys,bs,wd,dd,dq,ei,ea,hq⟩:=h
 obtain⟨a,vs,rfl,sq,l⟩:=zSC wd ei dq
 cases ry
 rcases sq with sq|sq
 ·obtain⟨its,r,pl,_⟩:=I.list sq
  obtain⟨h1,h2⟩:=zXE I wd (A:=X.A.in1) (by show X.A.units+1+zX<cLine;unfold zX;omega) dd rx l r ea
  refine SeqAt.notIn_listAt (yHI X α S H zX d) pl.isList (λw hw=>h2 w (by simpa using hw)) ⟨.bl _,H,I,rfl,?_⟩
  rw [any_map h1]
  exact hq
 ·obtain⟨its,r,pl,_⟩:=I.tuple sq
  obtain⟨h1,h2⟩:=zXE I wd (A:=X.A.in1) (by show X.A.units+1+zX<cLine;unfold zX;omega) dd rx l r ea
  refine SeqAt.notIn_tupleAt (yHI X α S H zX d) pl (λw hw=>h2 w (by simpa using hw)) ⟨.bl _,H,I,rfl,?_⟩
  rw [any_map h1]
  exact hq
theorem yNQ{neg:Bool}:Op2 X W (λx y H Q=>(∃i j,x=.str i/\y=.str j/\Q (.bl (if neg=true then !(!(Builtin.Str.occurrences j i 0 j.length 1).isEmpty)else !(Builtin.Str.occurrences j i 0 j.length 1).isEmpty)) H)\/rInM X neg x y H Q) (inF neg):=by
 intro p q x y α S H Q wd dp dq post
 unfold inF at post
 split at post
 ·refine .inl ⟨_,_,dH dp,dH dq,?_⟩
  rw [<-yNE,PySem.StrLaws.found_one,zGN]
  exact Post.val post wd (dD _)
 ·unfold zOW at post
  split at post
  ·rename_i d _
   split at post
   ·rename_i ys ei
    split at post
    ·rename_i bs ea
     exact .inr ⟨α,S,_,q,ys,bs,wd,dp,dq,ei,ea,Post.val post wd (dD _)⟩
    ·exact post.elim
   ·exact post.elim
  ·exact post.elim
theorem OpR.imp{f:Value->Value->Sem Value}{r r':R2}(h:OpR X f r)(i: ∀x y H Q,r' x y H Q->r x y H Q):OpR X f r':=λpins s σ H x y v u Q I rx ry q=>h pins s σ H x y v u Q I rx ry (i x y H Q q)
theorem yHK(hu:X.A.units+64<cLine):OpR X (compareOp .NotIn) (λx y H Q=>(∃i j,x=.str i/\y=.str j/\Q (.bl (if(true:Bool)=true then !(!(Builtin.Str.occurrences j i 0 j.length 1).isEmpty)else !(Builtin.Str.occurrences j i 0 j.length 1).isEmpty)) H)\/rInM X true x y H Q):=
 OpR.imp (zWJ.or (yHJ hu)) λx y H Q q=>q.imp (λq=>q) λq=>q
theorem zZW(hu:X.A.units+64<cLine)(ha:PEm X W a f)(hb:PEm X W b g)(hm:behindInMarks .NotIn b=false:=by with_unfolding_all rfl):PTm X W (.Compare a [.NotIn] [b] pos) (λρ S=>((f ρ S).bind λp S1=>(g ρ S1).bind λq S2=>inF true p q S2).bind asB):=zRU (yHK hu) yNQ ha hb hm
theorem zPX{K:PySem.W.Frag}{α:List Addr}{H:Hp}{r:Er}{vs:List V}(d:ArgsX K α H [r] vs): ∃v,vs=[v]/\DenX K α H r v:=by
 cases d with
 |cons a l=>cases l;exact⟨_,rfl,a⟩
theorem yQB{K:PySem.W.Frag}{α:List Addr}{H:Hp}{r r':Er}{vs:List V}(d:ArgsX K α H [r,r'] vs): ∃v u,vs=[v,u]/\DenX K α H r v/\DenX K α H r' u:=by
 cases d with
 |cons a l=>obtain⟨u,rfl,l'⟩:=zPX l;exact⟨_,u,rfl,a,l'⟩
def nS:List Er->Sto->R Er
 |[.val (.str x)],S=>if x.length<=sizeLine then .ok (.val (.int x.length)) S else .no
 |[r],S=>match itemsOf S r with |some ds=>.ok (.val (.int ds.length)) S|none=>.no
 |_,_=>.no
theorem dL:zNI X W (λxs H Q=>(∃z,xs=[.str z]/\z.length<=sizeLine/\Q (.int z.length) H)\/ ∃p ys,xs=[.ref p]/\(SqL X.K H p ys\/SqT X.K H p ys)/\Q (.int ys.length) H) nS:=by
 intro rs vs α S H Q wd d post
 unfold nS at post
 split at post
 ·split at post
  ·rename_i hz
   obtain⟨v,rfl,dv⟩:=zPX d
   cases dH dv
   refine .inl ⟨_,rfl,by rw [kZ];exact hz,?_⟩
   rw [kZ]
   exact Post.val post wd (jL _)
  ·exact post.elim
 ·split at post
  ·rename_i ds e
   obtain⟨v,rfl,dv⟩:=zPX d
   obtain⟨a,us,rfl,sq,l⟩:=zSC wd e dv
   refine .inr ⟨a,us,rfl,sq,?_⟩
   rw [l.length]
   exact Post.val post wd (jL _)
  ·exact post.elim
 ·exact post.elim
theorem xS:CallR X (.builtin "len") (λxs H Q=>(∃z,xs=[.str z]/\z.length<=sizeLine/\Q (.int z.length) H)\/ ∃p ys,xs=[.ref p]/\(SqL X.K H p ys\/SqT X.K H p ys)/\Q (.int ys.length) H):=zWP.or zWO
def zNM:List MV->Option (List Bool)
 |[]=>some []
 |.bl b::r=>(zNM r).map (b::·)
 |_::_=>none
theorem zVT{K:PySem.W.Frag}{α:List Addr}{H:Hp}: ∀{ds:List MV}{bs:List Bool}{vs:List V},zNM ds=some bs->DenL K α H ds vs->vs=bs.map V.bl
 |[],_,_,e,l=>by cases e;exact l.isnil
 |d::r,bs,_,e,l=>by
  cases d with
  |bl b=>
   unfold zNM at e
   cases z:zNM r with
   |none=>rw [z]at e;cases e
   |some cs=>
    rw [z]at e
    cases e
    obtain⟨v,us,rfl,dv,l'⟩:=l.uncons
    rw [zGA dv,zVT z l']
    rfl
  |_=>cases e
def allF:List Er->Sto->R Er
 |[r],S=>match (gC S r).bind zNM with |some bs=>.ok (.val (.bl (bs.all id))) S|none=>.no
 |_,_=>.no
theorem yRX(hc:X.calm=true):zNI X W (λxs H Q=> ∃(a:Addr)(bs:List Bool),xs=[.ref a]/\SqL X.K H a (bs.map V.bl)/\X.calm=true/\Q (.bl (bs.all id)) H) allF:=by
 intro rs vs α S H Q wd d post
 unfold allF at post
 split at post
 ·split at post
  ·rename_i bs e
   obtain⟨v,rfl,dv⟩:=zPX d
   cases z:gC S _ with
   |none=>rw [z]at e;cases e
   |some ds=>
    rw [z]at e
    obtain⟨a1,us,rfl,s,l⟩:=zLO rfl wd z dv
    refine⟨a1,bs,rfl,?_,hc,Post.val post wd (dD _)⟩
    rw [<-zVT e l]
    exact s
  ·exact post.elim
 ·exact post.elim
def zOX(S:Sto):Er->Option String
 |.val .non=>some "NoneType"
 |.val (.bl _)=>some "bool"
 |.val (.int _)=>some "int"
 |.val (.str _)=>some "str"
 |.val (.tup _)=>some "tuple"
 |.val (.typ _)=>none
 |.val (.obj _ _ _)=>none
 |r=>(gC S r).map λ_=>"list"
def yKB(t T:String):Bool:=t==T || (t=="bool"&&T=="int")
def known(T:String):Bool:=T=="int" || T=="bool" || T=="str" || T=="tuple" || T=="list"
def zAH:List Er->Sto->R Er
 |[r,.val (.typ T)],S=>match zOX S r with
  |some t=>if known T=true then .ok (.val (.bl (yKB t T))) S else .no
  |none=>.no
 |_,_=>.no
theorem zBW(K:PySem.W.Frag){t T:String}(ht:t="NoneType"\/t="bool"\/t="int"\/t="str"\/t="tuple"\/t="list")(hT:known T=true):PySem.W.kitOne K (.type t) (.type T)=some (yKB t T):=by
 have hT':T="int"\/T="bool"\/T="str"\/T="tuple"\/T="list":=by
  unfold known at hT
  simp only [or_eq_true,beq_iff_eq]at hT
  rcases hT with(((h|h)|h)|h)|h
  ·exact .inl h
  ·exact .inr (.inl h)
  ·exact .inr (.inr (.inl h))
  ·exact .inr (.inr (.inr (.inl h)))
  ·exact .inr (.inr (.inr (.inr h)))
 rcases ht with rfl|rfl|rfl|rfl|rfl|rfl<;>rcases hT' with rfl|rfl|rfl|rfl|rfl<;>kernel_rfl
theorem bV:CallR X (.builtin "isinstance") (λxs H Q=> ∃α S r x t T,xs=[x,.ty T]/\Wd X.g α S H/\DenX X.K α H r x/\zOX S r=some t/\known T=true/\Q (.bl (yKB t T)) H):=by
 intro pins s σ H xs us Q I rr h
 obtain⟨α,S,r,x,t,T,rfl,wd,d,et,hk,q⟩:=h
 obtain⟨u,w',rfl,rx,rT⟩:=vals2 rr
 cases rT
 have fin: ∀tk,EP X pins σ Q (.bool (yKB t T)) {s with toks:=tk}:=λtk=>⟨.bl _,H,I.tok _,rfl,q⟩
 unfold zOX at et
 split at et
 ·cases et
  cases yCT d
  cases rx
  exact PySem.W.kia_one PySem.W.kitx_none I.kIn True.intro (zBW X.K (.inl rfl) hk) (λz=>nomatch z) fin
 ·cases et
  cases zPV d
  cases rx
  exact PySem.W.kia_one PySem.W.kitx_bool I.kIn True.intro (zBW X.K (.inr (.inl rfl)) hk) (λz=>nomatch z) fin
 ·cases et
  cases xL d
  obtain⟨t,rfl⟩:=rx
  exact PySem.W.kia_one PySem.W.kitx_int I.kIn True.intro (zBW X.K (.inr (.inr (.inl rfl))) hk) (λz=>nomatch z) fin
 ·cases et
  cases dH d
  obtain⟨t,rfl⟩:=rx
  exact PySem.W.kia_one PySem.W.kitx_str I.kIn True.intro (zBW X.K (.inr (.inr (.inr (.inl rfl)))) hk) (λz=>nomatch z) fin
 ·cases et
  obtain⟨a,vs,rfl,sq,l⟩:=zCA d
  cases rx
  obtain⟨its,r1,p1,_⟩:=I.tuple sq
  obtain⟨o,h1,h2,_⟩:=p1
  exact PySem.W.kia_one PySem.W.kitx_tuple I.kIn ⟨o,h1,h2⟩ (zBW X.K (.inr (.inr (.inr (.inr (.inl rfl))))) hk) (λz=>nomatch z) fin
 ·cases et
 ·cases et
 ·cases z:gC S r with
  |none=>rw [z]at et;cases et
  |some ds=>
   rw [z]at et
   cases et
   obtain⟨a,vs,rfl,sq,l⟩:=zLO rfl wd z d
   cases rx
   obtain⟨its,r1,p1,_⟩:=I.list sq
   obtain⟨o,h1,h2,_⟩:=p1.isList
   exact PySem.W.kia_one PySem.W.kitx_list I.kIn ⟨o,h1,h2⟩ (zBW X.K (.inr (.inr (.inr (.inr (.inr rfl))))) hk) (λz=>nomatch z) fin
theorem zGS:zNI X W (λxs H Q=> ∃α S r x t T,xs=[x,.ty T]/\Wd X.g α S H/\DenX X.K α H r x/\zOX S r=some t/\known T=true/\Q (.bl (yKB t T)) H) zAH:=by
 intro rs vs α S H Q wd d post
 unfold zAH at post
 split at post
 ·split at post
  ·rename_i t et
   split at post
   ·rename_i hk
    obtain⟨v,u,rfl,d1,d2⟩:=yQB d
    cases yRS d2
    exact⟨α,S,_,v,t,_,rfl,wd,d1,et,hk,Post.val post wd (dD _)⟩
   ·exact post.elim
  ·exact post.elim
 ·exact post.elim
def dM:List Er->Sto->R Er
 |[.val (.tup ds)],S=>.ok (.val (.tup ds)) S
 |[r],S=>match gC S r with |some ds=>.ok (.val (.tup ds)) S|none=>.no
 |_,_=>.no
theorem nT:zNI X W (λxs H Q=> ∃p ys,xs=[.ref p]/\((SqL X.K H p ys/\ ∀l,H l=none->Q (.ref l) (upd H l (.tup ys)))\/(SqT X.K H p ys/\Q (.ref p) H))) dM:=by
 intro rs vs α S H Q wd d post
 unfold dM at post
 split at post
 ·obtain⟨v,rfl,dv⟩:=zPX d
  obtain⟨a,us,rfl,sq,l⟩:=zCA dv
  exact⟨a,us,rfl,.inr ⟨sq,Post.val post wd (zGP sq l)⟩⟩
 ·split at post
  ·rename_i ds e
   obtain⟨v,rfl,dv⟩:=zPX d
   obtain⟨a,us,rfl,sq,l⟩:=zLO rfl wd e dv
   exact⟨a,us,rfl,.inl ⟨sq,λp hp=>Post.newt post wd hp l⟩⟩
  ·exact post.elim
 ·exact post.elim
def yKC:List Er->Sto->R Er
 |[r],S=>match itemsOf S r with |some ds=>.ok (.new ds) S|none=>.no
 |_,_=>.no
theorem yNR:zNI X W (λxs H Q=> ∃p ys,xs=[.ref p]/\(SqL X.K H p ys\/SqT X.K H p ys)/\ ∀l,H l=none->Q (.ref l) (upd H l (.lst ys))) yKC:=by
 intro rs vs α S H Q wd d post
 unfold yKC at post
 split at post
 ·split at post
  ·rename_i ds e
   obtain⟨v,rfl,dv⟩:=zPX d
   obtain⟨a,us,rfl,sq,l⟩:=zSC wd e dv
   exact⟨a,us,rfl,sq,λp hp=>Post.newl post wd hp l⟩
  ·exact post.elim
 ·exact post.elim
theorem dN:bootBuiltins "len"=some (.builtin "len"):=by decide+kernel
theorem yRY:bootBuiltins "all"=some (.builtin "all"):=by decide+kernel
theorem xG:bootBuiltins "isinstance"=some (.builtin "isinstance"):=by decide+kernel
theorem yRZ:bootBuiltins "int"=some (.type "int"):=by decide+kernel
theorem zXF:bootBuiltins "bool"=some (.type "bool"):=by decide+kernel
theorem yDD:bootBuiltins "str"=some (.type "str"):=by decide+kernel
theorem gD:bootBuiltins "tuple"=some (.type "tuple"):=by decide+kernel
theorem yEV:bootBuiltins "list"=some (.type "list"):=by decide+kernel
end
def digN(n:Nat):List Nat:=(Nat.toDigits 10 n).map Char.toNat
def decL(i:Int):List Nat:=if i<0 then 45::digN i.natAbs else digN i.natAbs
section
variable{X:Cx}{W:XW}{a b c e o i:Expr}{es:List Expr}{f g h:AX}{af:Rho->Sto->R (List Er)}{pos apos:Pos}
def strF:List Er->Sto->R Er
 |[.val (.int i)],S=>if i.natAbs.log2<1920 then .ok (.val (.str (decL i))) S else .no
 |[.val (.str x)],S=>.ok (.val (.str x)) S
 |_,_=>.no
def zSD:Er->Sto->Bool
 |.val (.str _),_=>true
 |_,_=>false
theorem ty_str:TyM X "str" zSD:=by
 intro p x α S H wd d h
 unfold zSD at h
 split at h
 ·cases dH d;rfl
 ·cases h
def gE(p:Er)(S:Sto):Bool:=(gC S p).isSome
theorem yKD:TyM X "list" gE:=by
 intro p x α S H wd d h
 unfold gE at h
 cases z:gC S p with
 |none=>rw [z]at h;cases h
 |some ds=>
  obtain⟨a,vs,rfl,s,l⟩:=zLO rfl wd z d
  exact .inl ⟨rfl,vs,s⟩
def strIdx(x y:List Nat):Option Nat:=(Builtin.Str.occurrences (mkS x) (mkS y) 0 (mkS x).length 1).head?
def sidxF:Er->List Er->Sto->R Er
 |.val (.str x),[.val (.str y)],S=>match strIdx x y with |some i=>.ok (.val (.int (i:Nat))) S|none=>.no
 |_,_,_=>.no
def zSE(p:Er)(S:Sto)(G:List MV->Option (List MV)):R Er:=match p with
 |.val (.loc l)=>match S[l]? with
  |some (.lst ds)=>match G ds with
   |some es=>.ok (.val .non) (S.set l (.lst es))
   |none=>.no
  |_=>.no
 |_=>.no
theorem zVU{α0 α:List Addr}{H0 H:Hp}{S:Sto}{p:Er}{x:V}{G:List MV->Option (List MV)}{Q:VK}(wd:Wd X.g α S H)(x0:Ext α0 H0 α H)(dp:DenX X.K α H p x)(post:Post X.g W α0 H0 (zSE p S G) Q):
  ∃a vs ds es,x=.ref a/\H a=some (.lst vs)/\DenL X.K α H ds vs/\G ds=some es/\ ∀us,DenL X.K α H es us->Q .non (upd H a (.lst us)):=by
 unfold zSE at post
 split at post
 ·rename_i l
  obtain⟨a,rfl,h⟩:=zLX dp
  obtain⟨ob,h1,h2⟩:=wd.of h
  rw [h1]at post
  cases ob with
  |lst ds=>
   obtain⟨vs,h3,l1⟩:=h2
   have post:Post X.g W α0 H0 (match G ds with |some es=>R.ok (Er.val .non) (S.set l (.lst es))|none=>R.no) Q:=post
   split at post
   ·rename_i es eg
    refine⟨a,vs,ds,es,rfl,h3,l1,eg,λus lu=>?_⟩
    have xw:=wd.writex h (o:=.lst us)
    exact(post.shift (x0.trans xw)).val (wd.write h ⟨us,xU,lu.ext xw⟩) zWW
   ·exact post.elim
  |dic _=>exact post.elim
  |ins _ _=>exact post.elim
 ·exact post.elim
def zMB:Er->List Er->Sto->R Er
 |p,[r],S=>(zAE r S).bind λy S1=>zSE p S1 λds=>if ds.length<sizeLine then some (ds++[y])else none
 |_,_,_=>.no
theorem yHL:MtdM X W yEJ zMB:=by
 intro p rs x vs α S H0 H Q α0 wd x0 dp da post
 match rs,da,post with
 |[],_,post=>exact post.elim
 |_::_::_,_,post=>exact post.elim
 |[r],da,post=>
  cases da with
  |cons d n l=>
   cases l
   obtain⟨d',S',α',e',x',y',w',dd⟩:=zGB wd x0 d
   have post:Post X.g W α0 H0 ((zAE r S).bind λy S1=>zSE p S1 λds=>if ds.length<sizeLine then some (ds++[y])else none) Q:=post
   rw [e']at post
   have dp':DenX X.K α' H p x:=by
    cases p with
    |val m=>exact Den.ex0 y' dp
    |new ds=>exact post.elim
   obtain⟨a,us,ds,es,rfl,h1,l1,eg,k⟩:=zVU w' x' dp' post
   split at eg
   ·rename_i hz
    cases eg
    exact⟨a,us,_,rfl,rfl,h1,by rw [l1.length];exact hz,k _ (l1.append (xD dd xV))⟩
   ·cases eg
theorem wK(ho:PEm X W a f)(ha:PAm X W (e::es) af)
  (hbase:attributeBase a "append" X.env (eval a X.env)=eval a X.env:=by rfl)
  (hfew:((backTo pos (starEach (e::es) X.env)).all (λx=>!x.1)&&(backToKw pos (keywordEach [] X.env)).all (λx=>x.1.isSome)
   &&decide ((e::es).length+([]:List Keyword).length+(if([]:List Keyword).isEmpty then 0 else 1)<30))=true:=by rfl)
  (hline:(apos.endLine==pos.line)=true:=by rfl) (hs:starEach (e::es) X.env=(false,eval e X.env)::starEach es X.env:=by rfl) (hplain:(backTo pos (starEach es X.env)).any (·.1)=false:=by rfl):
  PEm X W (.Call (.Attribute a "append" apos) (e::es) [] pos) (λρ S=>(f ρ S).bind λp S1=>if gE p S1=true then(af ρ S1).bind λrs S2=>zMB p rs S2 else .no):=
 zWZ PySem.F.plainAttrs_list PySem.F.slot_list_append PySem.F.type_list_append yGX yHL yKD ho ha hbase hfew hline hs hplain
def zZX(p q:Er)(d:MV)(ρ:Rho)(S:Sto):R Rho:=match p,q with
 |.val (.loc l),.val (.int k)=>match S[l]? with
  |some (.lst ds)=>match ixN ds.length k with
   |some j=>.ok ρ (S.set l (.lst (ds.set j d)))
   |none=>.no
  |_=>.no
 |_,_=>.no
theorem ySA(ho:PEm X W o f)(hi:PEm X W i g)
  (ha: ∀v,assign (.Subscript o i pos) X.env v=(do
   let ov <-holding [v] (eval o X.env)
   let iv <-holding [v,ov] (eval i X.env)
   standAt pos
   holding [v,ov,iv] (setItem ov iv v)
   release [v,ov,iv] []):=by intro _;rfl):PGm X W (.Subscript o i pos) (λd ρ S=>(f ρ S).bind λp S1=>(g ρ S1).bind λq S2=>zZX p q d ρ S2):=by
 obtain⟨to,ho,fo⟩:=ho
 obtain⟨ti,hi,fi⟩:=hi
 refine⟨_,yQU ho hi set_list ha,λα ρ S σ H d v Q wd sl de q=>fo α ρ S σ H _ wd sl (q.bind λu p S1 α1 H1 e1 x1 w1 d1 q1=>fi α1 ρ S1 σ H1 _ w1 (sl.ext x1) ((q1.shift x1).bind λu2 p2 S2 α2 H2 e2 x2 w2 d2 q2=>?_))⟩
 replace q2:=q2.shift x2
 have d1':=DenX.ext x2 d1.1
 unfold zZX at q2
 split at q2
 ·rename_i l k
  obtain⟨a,rfl,h⟩:=zLX d1'
  cases xL d2.1
  obtain⟨ob,h1,h2⟩:=w2.of h
  rw [h1]at q2
  cases ob with
  |lst ds=>
   obtain⟨vs,h3,l1⟩:=h2
   have q2:Post X.g W α2 H2 (match ixN ds.length k with |some j=>R.ok ρ (S2.set l (.lst (ds.set j d)))|none=>R.no) Q:=q2
   split at q2
   ·rename_i j ej
    have xw:=w2.writex h (o:=.lst (vs.set j v))
    have sl2:=((sl.ext x1).ext x2).ext xw
    exact⟨a,vs,k,j,rfl,rfl,h3,by rw [l1.length];exact ej,q2 σ α2 _ xw (w2.write h ⟨_,xU,(l1.set ((de.ext x1).ext x2) j).ext xw⟩) sl2⟩
   ·exact q2.elim
  |dic _=>exact q2.elim
  |ins _ _=>exact q2.elim
 ·exact q2.elim
end
theorem _root_.L2.Inv.turnedL{X:Cx}{pins:List (Addr×Obj)}{σ:St}{H:Hp}{s:Shared}{h':Heap}{t':Nat}{fp:List Addr}(I:Inv X pins σ H s)(k: ∀b o,b∉fp->s.heap.get? b=some o->h'.get? b=some o)
  (hf: ∀b∈fp,zNE X pins H b):Inv X pins σ H {s with heap:=h',toks:=t'}:=by
 have nit: ∀b u,H b=some u->b∉fp:=λb u e z=>by rw [(hf b z).1]at e;cases e
 refine I.step (g':=s.gens) (d':=s.drawn) (ch:=fp) (λb hb=>⟨(hf b hb).2.2.2.1,(hf b hb).2.1,(hf b hb).2.2.2.2.1,(hf b hb).2.2.2.2.2⟩) (λb o _ _ hc e _=>k b o hc e) (λb o _ _ hc e _=>⟨o.slots,k b o hc e⟩) (λ_ _ _ _ n=>n)
  (λb o hc e=>⟨o,k b o hc e⟩) (λ_ _ e=>e) (λ_ _ _ e=>e) (λb ps e=>⟨#[],by rw [e];simp⟩) (λm hm=>?_) (λb u e=>?_) I.bare
 ·obtain⟨o,es,ep,ho,r⟩:=hm
  exact⟨o,es,ep,k _ o (λz=>(hf _ z).2.1 rfl) ho,r⟩
 ·refine(I.hok b u e).stay (λc v hc q=>k c v ?_ q) (λ_ q=>q) λ_ _ q=>q
  rcases hc with z|z
  ·rw [z];exact nit b u e
  ·exact nit c _ z
def IsSub(k:Bool)(h:Heap)(it l:Addr)(i:Nat):Prop:=if k=true then h.IsListIter it l i else h.IsTupleIter it l i
def zPY(k:Bool)(h:Heap)(l:Addr)(its:Array Value):Prop:=if k=true then h.IsList l its else h.IsTuple l its
def zOY(k:Bool)(l:Addr):Obj:={cls:=.type (if k=true then "list_iterator" else "tuple_iterator"),data:=.fields #[.ref l,.int 0 0]}
theorem IsSub.mk'{k:Bool}{h:Heap}{it l:Addr}(e:h.get? it=some (zOY k l)):IsSub k h it l 0:=by
 cases k with
 |true=>exact⟨_,e,rfl,rfl⟩
 |false=>exact⟨_,e,rfl,rfl⟩
theorem IsSub.there{k:Bool}{h:Heap}{it l:Addr}{i:Nat}(x:IsSub k h it l i): ∃o,h.get? it=some o/\ ∀v,o.data≠.cell v:=by
 cases k with
 |true=>obtain⟨o,e,_,d⟩:=(x:h.IsListIter it l i);exact⟨o,e,λv z=>by rw [d]at z;cases z⟩
 |false=>obtain⟨o,e,_,d⟩:=(x:h.IsTupleIter it l i);exact⟨o,e,λv z=>by rw [d]at z;cases z⟩
theorem IsSub.move{k:Bool}{h h':Heap}{it l:Addr}{i:Nat}(x:IsSub k h it l i)(f: ∀o,h.get? it=some o->h'.get? it=some o):IsSub k h' it l i:=by
 cases k with
 |true=>obtain⟨o,e,r⟩:=(x:h.IsListIter it l i);exact⟨o,f o e,r⟩
 |false=>obtain⟨o,e,r⟩:=(x:h.IsTupleIter it l i);exact⟨o,f o e,r⟩
section
variable{prog:Program}{w:World}{A:Around}{E:VP}{s:Shared}
theorem zSF{k:Bool}{l:Addr}{its:Array Value}{Q:VP}(hl:zPY k s.heap l its)(h:Q (.ref s.heap.objs.size) {s with heap:=s.heap.push (zOY k l)}):wpAny (model prog w) A (pyIter (.ref l)) Q E s:=by
 cases k with
 |true=>exact wpAny_pyIter_list hl h
 |false=>exact wpAny_pyIter_tuple hl h
theorem yKE{k:Bool}{it l:Addr}{i:Nat}{its:Array Value}{x:Value}{Q:VP}(hit:IsSub k s.heap it l i)(hl:zPY k s.heap l its)(hx:its[i]? =some x)
  (hQ: ∀h',IsSub k h' it l (i+1)->Heap.SameBut it s.heap h'->Q x {s with heap:=h'}):wpAny (model prog w) A (Builtin.SmallTypes.nextOf (.ref it)) Q E s:=by
 cases k with
 |true=>exact wpAny_nextOf_list_item hit hl hx hQ
 |false=>
  have hit':s.heap.IsTupleIter it l i:=hit
  obtain⟨o,ho,hc,hd⟩:=id hit'
  obtain⟨ol,hol,_,nl,hdl⟩:=(hl:s.heap.IsTuple l its)
  unfold Builtin.SmallTypes.nextOf
  refine wB0 (wpAny_callSpecial?_slot (name:=Str.ofString "__next__") hit'.typeIs F.slot_tuple_iterator_next (wpAny_call_entry F.slot_tuple_iterator_next hit'.typeIs F.entry_tuple_iterator_next ?_ (F.args_tuple_iterator_next_1 _)))
  show wpAny _ _ (field (.ref it) 0 >>= _) _ _ s
  refine wB0 (wpAny_field ho hd (x:=.ref l) rfl ?_)
  show wpAny _ _ (if(Value.ref l==Value.none)=true then _ else _) _ _ s
  rw [iN (show¬((Value.ref l==Value.none)=true)from xF0)]
  show wpAny _ _ (field (.ref it) 1 >>= _) _ _ s
  refine wB0 (wpAny_field ho hd (x:=.int i 0) rfl ?_)
  show wpAny _ _ (seqItems? (.ref l) >>= _) _ _ s
  refine wB0 (wpAny_seqItems hol hdl ?_)
  simp only [toNat_natCast,hx]
  refine wB0 (wpAny_setField ho hd (by simp) (wP0 ⟨x,rfl,wP0 (hQ _ ?_ (Heap.SameBut.update ..))⟩))
  exact⟨_,Heap.get?_update_self _ ho (Obj.isFreed_of_fields (Obj.data_mapFields hd _)),(Obj.cls_mapFields ..).trans hc,by rw [Obj.data_mapFields hd];simp [rawInt]⟩
theorem yNS{k:Bool}{it l:Addr}{i:Nat}{its:Array Value}{Q:VP}(hh:A.handled=none)(hit:IsSub k s.heap it l i)(hl:zPY k s.heap l its)(hx:its[i]? =none)
  (hE: ∀h' e,Heap.ExtBut it s.heap h'->(∃o,h'.get? e=some o/\o.cls=.type "StopIteration")->E (.ref e) {s with heap:=h'}):wpAny (model prog w) A (Builtin.SmallTypes.nextOf (.ref it)) Q E s:=by
 cases k with
 |true=>exact wpAny_nextOf_list_end hh hit hl hx hE
 |false=>
  have hit':s.heap.IsTupleIter it l i:=hit
  obtain⟨o,ho,hc,hd⟩:=id hit'
  obtain⟨ol,hol,_,nl,hdl⟩:=(hl:s.heap.IsTuple l its)
  unfold Builtin.SmallTypes.nextOf
  refine wB0 (wpAny_callSpecial?_slot (name:=Str.ofString "__next__") hit'.typeIs F.slot_tuple_iterator_next (wpAny_call_entry F.slot_tuple_iterator_next hit'.typeIs F.entry_tuple_iterator_next ?_ (F.args_tuple_iterator_next_1 _)))
  show wpAny _ _ (field (.ref it) 0 >>= _) _ _ s
  refine wB0 (wpAny_field ho hd (x:=.ref l) rfl ?_)
  show wpAny _ _ (if(Value.ref l==Value.none)=true then _ else _) _ _ s
  rw [iN (show¬((Value.ref l==Value.none)=true)from xF0)]
  show wpAny _ _ (field (.ref it) 1 >>= _) _ _ s
  refine wB0 (wpAny_field ho hd (x:=.int i 0) rfl ?_)
  show wpAny _ _ (seqItems? (.ref l) >>= _) _ _ s
  refine wB0 (wpAny_seqItems hol hdl ?_)
  simp only [toNat_natCast,hx]
  refine wB0 (wpAny_rule (wB0 (wpAny_setField ho hd (by simp) ?_)))
  show wpAny _ _ (newExc (.type "StopIteration") [] >>= _) _ _ _
  refine wB0 ?_
  simp only [newExc,newTuple]
  refine wB0 (wpAny_newObj_type ?_ (by size_fits))
  refine wB0 (m:=firstArgMember _ _) (wpAny_of_eq (a:=Value.none) (by first |rfl|(simp only [firstArgMember];rfl)) ?_)
  refine wpAny_newObj_type ?_ (by size_fits)
  simp only [raiseNew]
  refine wB0 (wpAny_handled ?_)
  first |rw [show A.in1.handled=none from hh]|rw [hh]
  refine wB0 (wP0 (wpAny_throw ?_))
  exact hE _ _ (((Heap.SameBut.update ..).extBut.push _).push _) ⟨_,Heap.get?_push_size _ rfl,rfl⟩
end
def SqK(k:Bool)(K:PySem.W.Frag)(H:Hp)(a:Addr)(xs:List V):Prop:=if k=true then SqL K H a xs else SqT K H a xs
section
variable{X:Cx}{pins:List (Addr×Obj)}{σ:St}{H:Hp}{s:Shared}
theorem _root_.L2.Inv.seqK(I:Inv X pins σ H s){k:Bool}{a:Addr}{xs:List V}(h:SqK k X.K H a xs): ∃its:List Value,Vals xs its/\zPY k s.heap a its.toArray/\xs.length<=sizeLine:=by
 cases k with
 |true=>obtain⟨its,r,p,z⟩:=I.list h;exact⟨its,r,p.isList,z⟩
 |false=>obtain⟨its,r,p,z⟩:=I.tuple h;exact⟨its,r,p,z⟩
theorem _root_.L2.Inv.seqK_inj(I:Inv X pins σ H s){k:Bool}{a:Addr}{xs ys:List V}(h:SqK k X.K H a xs)(h':SqK k X.K H a ys):xs=ys:=by
 cases k with
 |true=>exact I.list_inj h h'
 |false=>exact I.tuple_inj h h'
end
structure Sr where
 k:Bool
 ds:List MV
 gs:List (Nat×List MV)
def srcOf(S:Sto):Er->Option Sr
 |.val (.tup ds)=>some ⟨false,ds,[]⟩
 |.new ds=>some ⟨true,ds,[]⟩
 |.val (.scr ds)=>some ⟨true,ds,[]⟩
 |.val (.loc l)=>match S[l]? with
  |some (.lst ds)=>some ⟨true,ds,[(l,ds)]⟩
  |_=>none
 |_=>none
structure SrcD(X:Cx)(q:Sr)(l:Addr)(P:List Addr->Sto->Hp->Prop):Prop where
 get: ∀α S H,P α S H-> ∃vs,SqK q.k X.K H l vs/\DenL X.K α H q.ds vs
 stays: ∀α1 S1 H1 α2 S2 H2,P α1 S1 H1->Ext α1 H1 α2 H2->Wd X.g α2 S2 H2->stay q.gs S2->P α2 S2 H2
 st: ∀α S H,P α S H->stay q.gs S
theorem ySB{X:Cx}{α:List Addr}{S:Sto}{H:Hp}(wd:Wd X.g α S H){r:Er}{x:V}{q:Sr}(e:srcOf S r=some q)(d:DenX X.K α H r x): ∃l P,x=.ref l/\P α S H/\SrcD X q l P:=by
 unfold srcOf at e
 split at e
 ·rename_i ds
  cases e
  obtain⟨a,vs,rfl,s,l⟩:=zCA d
  exact⟨a,λα S H=> ∃vs,SqT X.K H a vs/\DenL X.K α H ds vs,rfl,⟨vs,s,l⟩,λα S H h=>h,λα1 S1 H1 α2 S2 H2 ⟨vs,h1,h2⟩ x w _=>⟨vs,x.sqT h1,h2.ext x⟩,λ_ _ _ _=>nR⟩
 ·rename_i ds
  cases e
  obtain⟨b,vs,rfl,h,n,l⟩:=d
  exact⟨b,λα S H=> ∃vs,H b=some (.lst vs)/\b∉α/\DenL X.K α H ds vs,rfl,⟨vs,h,n,l⟩,λα S H ⟨vs,h1,_,h2⟩=>⟨vs,(SqL.of h1:SqL X.K H b vs),h2⟩,
   λα1 S1 H1 α2 S2 H2 ⟨vs,h1,h2,h3⟩ x w _=>⟨vs,x.keep b _ h1 h2,x.out h1 h2,h3.ext x⟩,λ_ _ _ _=>nR⟩
 ·rename_i ds
  cases e
  obtain⟨a,vs,rfl,s,l⟩:=zWY d
  exact⟨a,λα S H=> ∃vs,SqF X.K H a vs/\DenL X.K α H ds vs,rfl,⟨vs,s,l⟩,λα S H ⟨vs,h1,h2⟩=>⟨vs,h1.l,h2⟩,λα1 S1 H1 α2 S2 H2 ⟨vs,h1,h2⟩ x w _=>⟨vs,x.sqF h1,h2.ext x⟩,λ_ _ _ _=>nR⟩
 ·rename_i n
  split at e
  ·rename_i ds hS
   cases e
   obtain⟨a,rfl,h⟩:=zLX d
   obtain⟨vs,h1,h2⟩:=wd.obj n a _ h hS
   refine⟨a,λα S H=> ∃vs,H a=some (.lst vs)/\DenL X.K α H ds vs/\α[n]? =some a/\S[n]? =some (.lst ds),rfl,⟨vs,h1,h2,h,hS⟩,λα S H ⟨vs,h1,h2,_⟩=>⟨vs,(SqL.of h1:SqL X.K H a vs),h2⟩,?_,?_⟩
   ·intro α1 S1 H1 α2 S2 H2 ⟨vs,a1,a2,a3,a4⟩ x w hs
    have hs':=hs (n,ds) (by simp)
    obtain⟨us,b1,b2⟩:=w.obj n a _ (x.at a3) hs'
    exact⟨us,b1,b2,x.at a3,hs'⟩
   ·intro α S H ⟨vs,_,_,_,a4⟩ p hp
    have:p=(n,ds):=by simpa using hp
    subst this
    exact a4
  ·cases e
 ·cases e
section
variable{X:Cx}{W:XW}{a b:Expr}{elts:List Expr}{kt:Nat}{pt p pos:Pos}{ta:TA}{af:Rho->Sto->R (List Er)}
theorem yNT:bootBuiltins "enumerate"=some (.type "enumerate"):=by decide+kernel
def pairs(xs ys:List MV):List MV:=List.zipWith (λx y=>.tup [x,y]) xs ys
end
structure EnSt(k:Bool)(e it l:Addr)(i:Nat)(h:Heap):Prop where
 e: ∃old,IsEnum h e it i old
 s:IsSub k h it l i
section
variable{prog:Program}{w:World}{A:Around}{E:VP}{s:Shared}{k:Bool}{e it l:Addr}{i:Nat}{its:Array Value}
theorem yNU{x old:Value}{Q:VP}(he:IsEnum s.heap e it i old)(hit:IsSub k s.heap it l i)(hl:zPY k s.heap l its)(hx:its[i]? =some x)(hne:e≠it)
  (hQ: ∀h',IsEnumOut h' e it ((i:Int)+1) x s.heap.objs.size->IsSub k h' it l (i+1)->h'.get? s.heap.objs.size=some {cls:=.type "tuple",data:=.seq #[.int i s.toks,x]}->
   (∀b o,b≠e->b≠it->s.heap.get? b=some o->h'.get? b=some o)->Q (.ref s.heap.objs.size) {s with heap:=h',toks:=s.toks+1}):
  wpAny (model prog w) A (Builtin.«enumerate.__next__» ⟨[.ref e],[]⟩) (λfin s'=> ∃v,fin=.done (.ret v)/\Q v s') E s:=by
 obtain⟨hp,g,d,tk,os⟩:=s
 show wpAny _ _ (field (.ref e) 2 >>= _) _ _ _
 refine wB0 (wpAny_field he rfl (x:=.ref it) rfl (wB0 (yKE hit hl hx λha ita hsa=>?_)))
 replace hsa:Heap.SameBut it hp ha:=hsa
 have ea:IsEnum ha e it i old:=(hsa.2 e hne).trans he
 show wpAny _ _ (field (.ref e) 3 >>= _) _ _ ⟨ha,g,d,tk,os⟩
 refine wB0 (wpAny_field ea rfl (x:=rawInt i) rfl ?_)
 show wpAny _ _ (field (.ref e) 4 >>= _) _ _ ⟨ha,g,d,tk,os⟩
 refine wB0 (wpAny_field ea rfl (x:=.none) rfl ?_)
 show wpAny _ _ (mkInt i >>= _) _ _ ⟨ha,g,d,tk,os⟩
 refine wB0 (wpAny_mkInt ?_)
 show wpAny _ _ (setField (.ref e) 3 (rawInt ((i:Int)+1)) >>= _) _ _ ⟨ha,g,d,tk+1,os⟩
 refine wB0 (wpAny_setField_rec ea (by simp) λhb eb hsb=>?_)
 replace hsb:Heap.SameBut e ha hb:=hsb
 replace eb:IsEnum hb e it ((i:Int)+1) old:=eb
 show wpAny _ _ (setField (.ref e) 4 .none >>= _) _ _ ⟨hb,g,d,tk+1,os⟩
 refine wB0 (wpAny_setField_rec eb (by simp) λhc ec hsc=>?_)
 replace hsc:Heap.SameBut e hb hc:=hsc
 replace ec:IsEnum hc e it ((i:Int)+1) old:=ec
 show wpAny _ _ (newTuple [.int i tk,x] >>= _) _ _ ⟨hc,g,d,tk+1,os⟩
 refine wB0 (wpAny_newTuple ?_)
 have hsz:hc.objs.size=hp.objs.size:=by rw [hsc.1,hsb.1,hsa.1]
 have hel:e<hp.objs.size:=Heap.lt_size he
 have ed:IsEnum (hc.push {cls:=.type "tuple",data:=.seq #[.int i tk,x]}) e it ((i:Int)+1) old:=hP0 _ ec
 have td:(hc.push {cls:=.type "tuple",data:=.seq #[.int i tk,x]}).get? hp.objs.size=some {cls:=.type "tuple",data:=.seq #[.int i tk,x]}:=by rw [<-hsz];exact Heap.get?_push_size _ rfl
 have kd: ∀b o,b≠e->b≠it->hp.get? b=some o->(hc.push {cls:=.type "tuple",data:=.seq #[.int i tk,x]}).get? b=some o:=λb o n1 n2 q=>
  hP0 _ (hsc.extBut b o n1 (hsb.extBut b o n1 (hsa.extBut b o n2 q)))
 have sd:IsSub k (hc.push {cls:=.type "tuple",data:=.seq #[.int i tk,x]}) it l (i+1):=ita.move λo q=>hP0 _ (hsc.extBut _ o (Ne.symm hne) (hsb.extBut _ o (Ne.symm hne) q))
 generalize hc.push {cls:=.type "tuple",data:=.seq #[.int i tk,x]}=hd at ed td kd sd ⊢
 show wpAny _ _ (Builtin.SmallTypes.ownedTupleIsFree (.ref e) >>= _) _ _ ⟨hd,g,d,tk+1,os⟩
 rw [hsz]
 refine wB0 ?_
 unfold Builtin.SmallTypes.ownedTupleIsFree
 refine wB0 (wpAny_field ed rfl (x:=.none) rfl (wP0 ?_))
 simp only [if_true]
 refine wB0 (wpAny_rule (wB0 (wpAny_field ed rfl (x:=old) rfl (wB0 (wpAny_setField_rec ed (by simp) λhf ef hsf=>?_)))))
 replace hsf:Heap.SameBut e hd hf:=hsf
 replace ef:IsEnum hf e it ((i:Int)+1) x:=ef
 show wpAny _ _ (Builtin.SmallTypes.ownedTupleHandOut (.ref e) (.ref hp.objs.size) >>= _) _ _ ⟨hf,g,d,tk+1,os⟩
 refine wB0 ?_
 unfold Builtin.SmallTypes.ownedTupleHandOut
 refine wB0 (wpAny_setField_rec ef (by simp) λhg' eg hsg=>?_)
 replace hsg:Heap.SameBut e hf hg':=hsg
 replace eg:IsEnumOut hg' e it ((i:Int)+1) x hp.objs.size:=eg
 refine wpAny_setField_rec eg (by simp) λhh' eh hsh=>?_
 replace hsh:Heap.SameBut e hg' hh':=hsh
 replace eh:IsEnumOut hh' e it ((i:Int)+1) x hp.objs.size:=eh
 have up: ∀b o,b≠e->hd.get? b=some o->hh'.get? b=some o:=λb o n q=>hsh.extBut b o n (hsg.extBut b o n (hsf.extBut b o n q))
 exact wB0 (wpAny_letGo (wP0 ⟨_,rfl,hQ hh' eh (sd.move λo q=>up _ o (Ne.symm hne) q) (up _ _ (ne_of_gt hel) td) λb o n1 n2 q=>up b o n1 (kd b o n1 n2 q)⟩))
theorem yDE(k:Bool)(l:Addr)(its:Array Value):
  Meets (Builtin.«enumerate.__new__» ⟨[.type "enumerate",.ref l],[]⟩) (λ_ R s=>zPY k s.heap l its/\
   R (.ok (.ret (.ref (s.heap.objs.size+1)))) {s with heap:=(s.heap.push (zOY k l)).push {cls:=.type "enumerate",data:=.fields #[.none,.bool false,.ref s.heap.objs.size,rawInt 0,.none,.none]}}):=
 .of_wp λprog w A R s h=>by
  obtain⟨hp,g,d,tk,os⟩:=s;obtain⟨hl,h⟩:=h
  have hsub:=sub_enumerate
  have hL:zPY k (Shared.heap ⟨hp,g,d,tk,os⟩) l its:=hl
  have z1: ∀(h:Heap)(o:Obj),(h.push o).objs.size=h.objs.size+1:=λh o=>Heap.size_push ..
  wp_walk
  refine wpAny_stack_any λst=>wP0 ?_
  split
  ·rename_i c _ _ _ _ _
   cases (c==Value.type "enumerate")
   ·wp_walk using zSF hL
    exact⟨_,rfl,by simp only [z1];exact h⟩
   ·wp_walk using zSF hL
    exact⟨_,rfl,by simp only [z1];exact h⟩
  ·wp_walk using zSF hL
   exact⟨_,rfl,by simp only [z1];exact h⟩
end
def zVV(K:PySem.W.Frag)(F:List MV->Sto->R Er):Sp:=λvs H Q _=> ∃ds,DenL K [] H ds vs/\ds.length=1/\ ∀g:Gm,g.K=K->Post g W0 [] H (F ds []) Q
theorem yKF{g:Gm}{F:List MV->Sto->R Er}: ∀vs H Q E,zVV g.K F vs H Q E->spM g 1 F vs H Q E:=λvs H Q E ⟨ds,l,hl,q⟩=>⟨[],[],ds,⟨rfl,by simp,λl a o h=>by simp at h⟩,l,hl,q g rfl⟩
theorem ySC{K:PySem.W.Frag}{H:Hp}{a:Addr}{xs:List V}(hO:yJD H)(h:SqL K H a xs):SqF K H a xs:=by
 rcases h with(h|⟨o,h⟩)|h
 ·rcases hO a with z|⟨o,ys,z⟩
  ·rw [z]at h;cases h
  ·rw [z]at h;cases h
 ·exact .inl ⟨o,h⟩
 ·exact .inr h
theorem yKG{K:PySem.W.Frag}{F:List MV->Sto->R Er}{H:Hp}{a:Addr}{ns:List Int}(hO:yJD H)(hS:SqL K H a (ns.map V.int))(h: ∃S,F [.scr (ns.map MV.int)] []=.ok (.val (.bl true)) S):zVV K F [.ref a] H (λv _=>v=.bl true) λ_ _ _=>False:=by
 obtain⟨S,h⟩:=h
 refine⟨_,xD (yEM (ySC hO hS) (zOR ns)) xV,rfl,λg _=>?_⟩
 rw [h]
 exact λv α' H' x w d=>zPV d.1
theorem bok{β γ:Type}(b:β)(S:Sto)(k:β->Sto->R γ):(R.ok b S).bind k=k b S:=by
 have h:=R.bind_ok b S k
 exact Eq.trans h rfl
theorem yNV(d:MV)(S:Sto):rdSl (some (some d)) S=.ok (.val d) S:=rfl
theorem zSG{S T:Sto}:zRX S (S++T):=⟨by rw [lA];omega,λl hl=>.inl (getElem?_append_left hl)⟩
theorem xW(n:Nat)(i:Int):lo n (.int i):=by unfold lo;trivial
theorem zDZ(n:Nat)(i:List Nat):lo n (.str i):=by unfold lo;trivial
theorem yQC(n:Nat)(i:Bool):lo n (.bl i):=by unfold lo;trivial
theorem xX{n:Nat}{ds:List MV}(h:loL n ds):lo n (.tup ds):=by unfold lo;exact h
theorem yP{n:Nat}: ∀{ds:List MV},(∀d∈ds,lo n d)->loL n ds
 |[],_=>by unfold loL;trivial
 |d::ds,h=>by unfold loL;exact⟨h d mF0,yP λe he=>h e (mO _ he)⟩
theorem yKH{S T:Sto}{d:MV}(h:lo S.length d)(hn: ∀l,d≠.loc l):zCD S (.val d) (S++T)=.ok (.val d) S:=by
 unfold zCD
 rw [iP zSG]
 have e:(S++T).take S.length=S:=by simp
 cases d with
 |loc l=>exact absurd rfl (hn l)
 |_=>dsimp only;rw [iP h,e]
theorem yKI{S T:Sto}{ds:List MV}(h:loL S.length ds):zCD S (.new ds) (S++T)=.ok (.new ds) S:=by
 unfold zCD
 rw [iP zSG]
 have e:(S++T).take S.length=S:=by simp
 dsimp only
 rw [iP h,e]
theorem yKJ{S T:Sto}{l:Nat}{ds:List MV}(hl:S.length<=l)(hS:(S++T)[l]? =some (.lst ds))(h:loL S.length ds):zCD S (.val (.loc l)) (S++T)=.ok (.new ds) S:=by
 unfold zCD
 rw [iP zSG]
 have e:(S++T).take S.length=S:=by simp
 dsimp only
 rw [iN (by omega),hS]
 dsimp only
 rw [iP h,e]
theorem nU{n:Nat}{F:List MV->Sto->R Er}{rs:List Er}{S T:Sto}{d:MV}(hn:rs.length=n)(hF:F (zW rs S).1 (zW rs S).2=.ok (.val d) (S++T))(h:lo S.length d)(hd: ∀l,d≠.loc l):zT n F rs S=.ok (.val d) S:=by
 unfold zT
 rw [iP hn,hF]
 exact yKH h hd
theorem zCE{n:Nat}{F:List MV->Sto->R Er}{rs:List Er}{S T:Sto}{ds:List MV}(hn:rs.length=n)(hF:F (zW rs S).1 (zW rs S).2=.ok (.new ds) (S++T))(h:loL S.length ds):zT n F rs S=.ok (.new ds) S:=by
 unfold zT
 rw [iP hn,hF]
 exact yKI h
theorem yKK{n:Nat}{F:List MV->Sto->R Er}{rs:List Er}{S T:Sto}{l:Nat}{ds:List MV}(hn:rs.length=n)(hF:F (zW rs S).1 (zW rs S).2=.ok (.val (.loc l)) (S++T))(hl:S.length<=l)(hS:(S++T)[l]? =some (.lst ds))(h:loL S.length ds):zT n F rs S=.ok (.new ds) S:=by
 unfold zT
 rw [iP hn,hF]
 exact yKJ hl hS h
theorem jO{n:Nat}{F:List MV->Sto->R Er}{rs:List Er}{S:Sto}{d:MV}(hn:rs.length=n)(hF:F (zW rs S).1 (zW rs S).2=.ok (.val d) S)(h:lo S.length d)(hd: ∀l,d≠.loc l):zT n F rs S=.ok (.val d) S:=nU (T:=[]) hn (by rw [aN];exact hF) h hd
theorem zZY{gf:MV->Rho->Sto->R Rho}{body:AY}{gs:List (Nat×List MV)}{L:List MV}(I:Nat->Rho->Sto->Prop)
  (st: ∀i d,L[i]? =some d-> ∀ρ S,I i ρ S-> ∃ρ' S',((gf d ρ S).bind λρ0 S0=>body ρ0 S0)=.ok (.next ρ') S'/\stay gs S'/\I (i+1) ρ' S'):
  ∀(n i:Nat){ρ:Rho}{S:Sto},n+i=L.length->I i ρ S-> ∃ρ' S',zCC gf body gs (L.drop i) ρ S=.ok (.next ρ') S'/\I L.length ρ' S'
 |0,i,ρ,S,hn,h=>by
  have e:i=L.length:=by omega
  subst e
  rw [drop_length]
  exact⟨ρ,S,rfl,h⟩
 |n+1,i,ρ,S,hn,h=>by
  have hi:i<L.length:=by omega
  obtain⟨ρ1,S1,e,hs,h1⟩:=st i L[i] (gE0 hi) ρ S h
  obtain⟨ρ2,S2,e2,h2⟩:=zZY I st n (i+1) (by omega) h1
  refine⟨ρ2,S2,?_,h2⟩
  rw [drop_eq_getElem_cons hi]
  unfold zCC
  cases z:gf L[i] ρ S with
  |ok ρ0 S0=>
   rw [z]at e
   have e:body ρ0 S0=.ok (.next ρ1) S1:=e
   rw [bok]
   show(body ρ0 S0).bind _=_
   rw [e,bok]
   dsimp only
   rw [iP hs]
   exact e2
  |exc c fs S0=>rw [z]at e;cases e
  |no=>rw [z]at e;cases e
theorem zMC{gf:MV->Rho->Sto->R Rho}{body:AY}{gs:List (Nat×List MV)}{L:List MV}(I:Nat->Rho->Sto->Prop)
  (st: ∀i d,L[i]? =some d-> ∀ρ S,I i ρ S-> ∃ρ' S',((gf d ρ S).bind λρ0 S0=>body ρ0 S0)=.ok (.next ρ') S'/\stay gs S'/\I (i+1) ρ' S') {ρ:Rho} {S:Sto} (h:I 0 ρ S):
  ∃ρ' S',zCC gf body gs L ρ S=.ok (.next ρ') S'/\I L.length ρ' S':=zZY I st L.length 0 (by omega) h
section
variable{S:Sto}
theorem as_bl(b:Bool)(S:Sto):asB (.val (.bl b)) S=.ok b S:=rfl
theorem as_int(i:Int)(S:Sto):asI (.val (.int i)) S=.ok (some i) S:=rfl
theorem ySD(b:Bool)(S:Sto):zIW (.val (.bl b)) S=.ok b S:=rfl
theorem add_int(i j:Int)(S:Sto):wZ (.val (.int i)) (.val (.int j)) S=.ok (.val (.int (i+j))) S:=rfl
theorem sub_int(i j:Int)(S:Sto):yJU (.val (.int i)) (.val (.int j)) S=.ok (.val (.int (i - j))) S:=rfl
theorem add_str{x y:List Nat}(h:x.length+y.length<=sizeLine):wZ (.val (.str x)) (.val (.str y)) S=.ok (.val (.str (x++y))) S:=iP h
theorem yKL{p q:Er}{x y:List MV}(h1:lsW S p=some x)(h2:lsW S q=some y)(h:x.length+y.length<=sizeLine):wZ p q S=.ok (.new (x++y)) S:=by
 have e:yEQ p q S=.ok (.new (x++y)) S:=by
  unfold yEQ
  rw [h1,h2]
  exact iP h
 unfold wZ
 split
 ·cases h1
 ·cases h1
 ·cases h1
 ·exact e
theorem ySE{g:Int->Int->Bool}(i j:Int)(S:Sto):ibF g (.val (.int i)) (.val (.int j)) S=.ok (.val (.bl (g i j))) S:=rfl
theorem yNW(i j:Int):eqV (.int i) (.int j)=decide (i=j):=by
 show(i==j)=_
 by_cases h:i=j
 ·subst h;simp
 ·rw [dF0 h];simpa using h
theorem yNX(x y:List Nat):eqV (.str (mkS x)) (.str (mkS y))=decide (x=y):=by
 show(mkS x==mkS y)=_
 by_cases h:x=y
 ·subst h;simp
 ·rw [dF0 h]
  have:mkS x≠mkS y:=λz=>h (zWT z)
  simpa using this
theorem zQV(n:Nat)(i j:Int):eqv S (n+1) (.int i) (.int j)=some (decide (i=j)):=by rw [<-yNW];rfl
theorem zBR(n:Nat)(x y:List Nat):eqv S (n+1) (.str x) (.str y)=some (decide (x=y)):=by rw [<-yNX];rfl
theorem ySF(n:Nat)(x:Int)(y:List Nat):eqv S (n+1) (.int x) (.str y)=some false:=rfl
theorem ySG(n:Nat)(x:List Nat)(y:Int):eqv S (n+1) (.str x) (.int y)=some false:=rfl
theorem ySH(n:Nat)(x y:Bool):eqv S (n+1) (.bl x) (.bl y)=some (x==y):=rfl
theorem yNY(d f:MV):eqF (.val d) (.val f) S=match eqv S (zX+1) d f with |some k=>.ok (.val (.bl k)) S|none=>.no:=rfl
theorem yNZ(d f:MV):neF (.val d) (.val f) S=match eqv S (zX+1) d f with |some k=>.ok (.val (.bl !k)) S|none=>.no:=rfl
theorem zXG{d f:MV}{k:Bool}(h:eqv S (zX+1) d f=some k):eqF (.val d) (.val f) S=.ok (.val (.bl k)) S:=by rw [yNY,h]
theorem zJA{d f:MV}{k:Bool}(h:eqv S (zX+1) d f=some k):neF (.val d) (.val f) S=.ok (.val (.bl !k)) S:=by rw [yNZ,h]
theorem eq_int(i j:Int)(S:Sto):eqF (.val (.int i)) (.val (.int j)) S=.ok (.val (.bl (decide (i=j)))) S:=zXG (zQV _ i j)
theorem ne_int(i j:Int)(S:Sto):neF (.val (.int i)) (.val (.int j)) S=.ok (.val (.bl (!decide (i=j)))) S:=zJA (zQV _ i j)
theorem lt_int(i j:Int)(S:Sto):ltF (.val (.int i)) (.val (.int j)) S=.ok (.val (.bl (decide (i<j)))) S:=rfl
theorem lt_str(i j:List Nat)(S:Sto):ltF (.val (.str i)) (.val (.str j)) S=.ok (.val (.bl (decide (i<j)))) S:=rfl
theorem zKY{b:Int}(h:0<b)(h2:b<1073741824)(a:Int)(S:Sto):zUL (.val (.int a)) (.val (.int b)) S=.ok (.val (.int (a / b))) S:=by
 refine iP ⟨h,?_⟩
 have h3:b.natAbs<2 ^ 30:=by omega
 have:=(Nat.log2_lt (by omega:b.natAbs≠0)).mpr h3
 omega
theorem mod_lit{b:Int}(h:0<b)(a:Int)(S:Sto):zSB (.val (.int a)) (.val (.int b)) S=.ok (.val (.int (a % b))) S:=iP h
theorem yEW{b:Int}(h: -(2 ^ 64)<b/\b<2 ^ 64)(a:Int)(S:Sto):zIZ (.val (.int a)) (.val (.int b)) S=.ok (.val (.int (a * b))) S:=iP (Or.inr (Or.inl h))
theorem zSH{a:Int}(h: -(2 ^ 64)<a/\a<2 ^ 64)(b:Int)(S:Sto):zIZ (.val (.int a)) (.val (.int b)) S=.ok (.val (.int (a * b))) S:=iP (Or.inl h)
theorem yOA(ρ:Rho)(i:Nat)(d:MV)(S:Sto):zXA ρ i (.val d) S=.ok (.next (ρ.set i (some d))) S:=rfl
theorem yOB(ρ:Rho)(i:Nat)(ds:List MV)(S:Sto):zXA ρ i (.new ds) S=.ok (.next (ρ.set i (some (.loc S.length)))) (S++[.lst ds]):=rfl
theorem yOC(S:Sto):zW [] S=([],S):=rfl
theorem yOD(d:MV)(rs:List Er)(S:Sto):zW (.val d::rs) S=(d::(zW rs S).1,(zW rs S).2):=rfl
theorem zD{F G:AY}{ρ ρ':Rho}{S S':Sto}(h:F ρ S=.ok (.next ρ') S'):zU F G ρ S=G ρ' S':=by unfold zU;rw [h];rfl
theorem yW{F G:AY}{ρ:Rho}{S S':Sto}{r:Er}(h:F ρ S=.ok (.ret r) S'):zU F G ρ S=.ok (.ret r) S':=by unfold zU;rw [h];rfl
theorem wV(S:Sto):stay [] S:=nR
theorem zGD{gf:MV->Rho->Sto->R Rho}{b:AY}{gs:List (Nat×List MV)}{d:MV}{ds:List MV}{ρ ρ0 ρ':Rho}{S0 S':Sto}(hg:gf d ρ S=.ok ρ0 S0)(h:b ρ0 S0=.ok (.next ρ') S')(hs:stay gs S'):zCC gf b gs (d::ds) ρ S=zCC gf b gs ds ρ' S':=by
 conv=>lhs;unfold zCC
 rw [hg,bok,h,bok]
 dsimp only
 rw [iP hs]
theorem zNN{gf:MV->Rho->Sto->R Rho}{b:AY}{gs:List (Nat×List MV)}{d:MV}{ds:List MV}{ρ ρ0:Rho}{S0 S':Sto}{r:Er}(hg:gf d ρ S=.ok ρ0 S0)(h:b ρ0 S0=.ok (.ret r) S'):zCC gf b gs (d::ds) ρ S=.ok (.ret r) S':=by
 conv=>lhs;unfold zCC
 rw [hg,bok,h,bok]
theorem nF{α:Type}{xs:List α}{i:Int}(h0:0<=i)(h1:i<xs.length): ∃c,atI xs i=some c:=by
 refine⟨xs[i.toNat]'(by omega),?_⟩
 unfold atI ixN
 rw [iP h0,iP h1]
 exact gE0 _
theorem yOE{α:Type}{xs:List α}{i:Int}(h0: -(xs.length:Int)<=i)(h1:i<xs.length): ∃c,atI xs i=some c:=by
 by_cases h:0<=i
 ·exact nF h h1
 ·refine⟨xs[(i+xs.length).toNat]'(by omega),?_⟩
  unfold atI ixN
  rw [iN h,iP h0]
  exact gE0 _
theorem nG{α:Type}{P:α->Prop}{xs:List α}{i:Int}{e:α}(h: ∀e∈xs,P e)(z:atI xs i=some e):P e:=by
 unfold atI at z
 cases q:ixN xs.length i with
 |none=>rw [q]at z;cases z
 |some j=>rw [q]at z;exact h e (mem_of_getElem? (show xs[j]? =some e from z))
theorem ix_str{x:List Nat}{i:Int}{c:Nat}(h:x.length<=sizeLine)(hk:atI x i=some c):ixF (.val (.str x)) (.val (.int i)) S=.ok (.val (.str [c])) S:=by
 show(if x.length<=sizeLine then match atI x i with |some c=>R.ok (Er.val (.str [c])) S|none=>.no else .no)=_
 rw [iP h,hk]
theorem ix_tup{ds:List MV}{i:Int}{d:MV}(hk:atI ds i=some d):ixF (.val (.tup ds)) (.val (.int i)) S=.ok (.val d) S:=by
 show(match atI ds i with |some d=>R.ok (Er.val d) S|none=>.no)=_
 rw [hk]
theorem zSI{ds:List MV}{i:Int}{d:MV}(hk:atI ds i=some d):ixF (.new ds) (.val (.int i)) S=.ok (.val d) S:=by
 show(match atI ds i with |some d=>R.ok (Er.val d) S|none=>.no)=_
 rw [hk]
theorem zJB{l:Nat}{ds:List MV}{i:Int}{d:MV}(hS:S[l]? =some (.lst ds))(hk:atI ds i=some d):ixF (.val (.loc l)) (.val (.int i)) S=.ok (.val d) S:=by
 have e:gC S (.val (.loc l))=some ds:=by unfold gC;dsimp only;rw [hS]
 show(match gC S (.val (.loc l))with |some ds=>getL ds (.val (.int i)) S|none=>.no)=_
 rw [e]
 show(match atI ds i with |some d=>R.ok (Er.val d) S|none=>.no)=_
 rw [hk]
theorem yEX{l:Nat}{ds:List MV}(hS:S[l]? =some (.lst ds)):nS [.val (.loc l)] S=.ok (.val (.int ds.length)) S:=by
 have e:gC S (.val (.loc l))=some ds:=by unfold gC;dsimp only;rw [hS]
 have e2:itemsOf S (.val (.loc l))=some ds:=by unfold itemsOf;exact e
 show(match itemsOf S (.val (.loc l))with |some ds=>R.ok (Er.val (.int ds.length)) S|none=>.no)=_
 rw [e2]
theorem jC{l:Nat}{ds:List MV}(hS:S[l]? =some (.lst ds)):gC S (.val (.loc l))=some ds:=by unfold gC;dsimp only;rw [hS]
theorem zKZ{l:Nat}{ds:List MV}(hS:S[l]? =some (.lst ds)):itL (.val (.loc l)) S=.ok ⟨ds,[(l,ds)]⟩ S:=by unfold itL;dsimp only;rw [hS]
theorem bW{l:Nat}{ds:List MV}(hS:S[l]? =some (.lst ds)):stay [(l,ds)] S:=λp hp=>by
 have:p=(l,ds):=by simpa using hp
 subst this;exact hS
theorem zAI{j:Int}(h: -(2 ^ 62)<=j/\j<2 ^ 62):zCB [.val (.int j)] S=.ok ⟨(List.range j.toNat).map λk=>.int (k:Nat),[]⟩ S:=iP h
theorem cut_str{x:List Nat}(h:x.length<=sizeLine)(lo hi:Option Int):zGC (.val (.str x)) lo hi S=.ok (.val (.str (wD x lo hi))) S:=iP h
theorem zSJ{α:Type}(x:List α)(lo hi:Option Int):(wD x lo hi).length<=x.length:=by
 unfold wD
 rw [lT,length_drop]
 omega
theorem zNO{α:Type}{x:List α}{lo hi:Option Int}{a:α}(h:a∈wD x lo hi):a∈x:=List.mem_of_mem_drop (mem_of_mem_take h)
theorem zNP{α β:Type}(f:α->β)(x:List α)(lo hi:Option Int):wD (x.map f) lo hi=(wD x lo hi).map f:=by
 unfold wD
 rw [lM,List.map_take,List.map_drop]
theorem fits{n:Nat}(h:n<=1000000):n<=sizeLine:=by rw [sizeLine_eq];exact le_trans h (by decide)
theorem zMD{rs:List Er}(h:rs.length<=1000000):bG rs S=.ok (.new (zW rs S).1) (zW rs S).2:=iP (fits h)
theorem zJC{rs:List Er}(h:rs.length<=1000000):kM rs S=.ok (.val (.tup (zW rs S).1)) (zW rs S).2:=iP (fits h)
theorem yHM(S:Sto):bG [] S=.ok (.new []) S:=zMD (by simp)
theorem lst1(a:MV)(S:Sto):bG [.val a] S=.ok (.new [a]) S:=zMD (by simp)
theorem lst2(a b:MV)(S:Sto):bG [.val a,.val b] S=.ok (.new [a,b]) S:=zMD (by simp)
theorem lst3(a b c:MV)(S:Sto):bG [.val a,.val b,.val c] S=.ok (.new [a,b,c]) S:=zMD (by simp)
theorem lst6(a b c d e f:MV)(S:Sto):bG [.val a,.val b,.val c,.val d,.val e,.val f] S=.ok (.new [a,b,c,d,e,f]) S:=zMD (by simp)
theorem tup2(a b:MV)(S:Sto):kM [.val a,.val b] S=.ok (.val (.tup [a,b])) S:=zJC (by simp)
theorem tup3(a b c:MV)(S:Sto):kM [.val a,.val b,.val c] S=.ok (.val (.tup [a,b,c])) S:=zJC (by simp)
theorem ySI(i:Int)(S:Sto):zAH [.val (.int i),.val (.typ "str")] S=.ok (.val (.bl false)) S:=rfl
theorem ySJ(i:List Nat)(S:Sto):zAH [.val (.str i),.val (.typ "str")] S=.ok (.val (.bl true)) S:=rfl
theorem ySK(i:Int)(S:Sto):zAH [.val (.int i),.val (.typ "tuple")] S=.ok (.val (.bl false)) S:=rfl
theorem ySL(i:List Nat)(S:Sto):zAH [.val (.str i),.val (.typ "tuple")] S=.ok (.val (.bl false)) S:=rfl
theorem ySM(i:List MV)(S:Sto):zAH [.val (.tup i),.val (.typ "tuple")] S=.ok (.val (.bl true)) S:=rfl
theorem ySN(i:Bool)(S:Sto):zAH [.val (.bl i),.val (.typ "bool")] S=.ok (.val (.bl true)) S:=rfl
theorem zZZ{gf:MV->Rho->Sto->R Rho}{cf:AZ}{ef:AX}{ρb:Rho}{gs:List (Nat×List MV)}{P:MV->Prop}(hs:stay gs S):
  ∀{ds:List MV},(∀d∈ds, ∃ρ1 y,gf d ρb S=.ok ρ1 S/\cf ρ1 S=.ok true S/\ef ρ1 S=.ok (.val y) S/\P y)-> ∃out,xC gf cf ef ρb gs ds S=.ok out S/\out.length=ds.length/\ ∀o∈out,P o
 |[],_=>⟨[],rfl,rfl,λo h=>by simp at h⟩
 |d::ds,st=>by
  obtain⟨ρ1,y,h1,h2,h3,h4⟩:=st d mF0
  obtain⟨out,e,hl,hp⟩:=zZZ hs (ds:=ds) λd hd=>st d (mO _ hd)
  refine⟨y::out,?_,by rw [lC,lC,hl],λo ho=>(mC.mp ho).elim (λz=>z▸h4) (hp o)⟩
  unfold xC
  rw [h1,yU,bok,h2,yU,bok,iP rfl,h3,yU,bok]
  unfold zAE
  rw [bok,iP hs,e]
  rfl
theorem zVW{gf:MV->Rho->Sto->R Rho}{cf:AZ}{ef:AX}{ρb:Rho}{gs:List (Nat×List MV)}(hs:stay gs S):
  ∀{ds:List MV},(∀d∈ds, ∃ρ1,gf d ρb S=.ok ρ1 S/\cf ρ1 S=.ok false S)->xC gf cf ef ρb gs ds S=.ok [] S
 |[],_=>rfl
 |d::ds,st=>by
  obtain⟨ρ1,h1,h2⟩:=st d mF0
  have e:=zVW hs (ef:=ef) (ds:=ds) λd hd=>st d (mO _ hd)
  unfold xC
  rw [h1,yU,bok,h2,yU,bok,iN xF0,iP hs,e]
def Nm(x:List Nat):Prop:=1<=x.length/\x.length<=8/\ ∀c∈x,97<=c/\c<=122
def Vl:MV->Prop
 |.int i=> -(10 ^ 30)<i/\i<10 ^ 30
 |.str x=>Nm x
 |_=>False
theorem Vl.cases{d:MV}(h:Vl d):(∃i,d=.int i/\ -(10 ^ 30)<i/\i<10 ^ 30)\/ ∃x,d=.str x/\Nm x:=by
 cases d with
 |int i=>exact .inl ⟨i,rfl,h⟩
 |str x=>exact .inr ⟨x,rfl,h⟩
 |_=>exact h.elim
theorem Vl.lo{d:MV}(h:Vl d)(n:Nat):lo n d:=by
 rcases h.cases with⟨i,rfl,_⟩|⟨x,rfl,_⟩
 ·exact xW n i
 ·exact zDZ n x
end
def Ite(K:PySem.W.Frag)(k:Bool)(l:Addr):It:=
 ⟨λi H=> ∃xs x,SqK k K H l xs/\xs[i]? =some x,
   λi H v H'=> ∃p x,H p=none/\v=.ref p/\H'=upd H p (.tup [.int (i:Nat),x])/\(∀xs,SqK k K H l xs->xs[i]? =some x),
   λi H=> ∃xs,SqK k K H l xs/\xs.length<=i⟩
section
variable{prog:Program}{w:World}{A:Around}{E:VP}{s:Shared}{k:Bool}{e it l:Addr}{i:Nat}{its:Array Value}
theorem yHN(hl:zPY k s.heap l its){Q:VP}
  (h: ∀h',EnSt k (s.heap.objs.size+1) s.heap.objs.size l 0 h'->(∀c o,s.heap.get? c=some o->h'.get? c=some o)->Q (.ref (s.heap.objs.size+1)) {s with heap:=h'}):
  wpAny (model prog w) A (call (.type "enumerate") [.ref l]) Q E s:=by
 refine callType_new F.called_enumerate (by decide) (F.typeCall_enumerate_1 _) (F.newCall_enumerate_1 _) (λobj=>F.args_object_init_2 obj _) F.entry_enumerate_new (yDE k l its) ⟨hl,?_⟩
 have hz:(s.heap.push (zOY k l)).objs.size=s.heap.objs.size+1:=Heap.size_push ..
 show _/\_
 have he:IsEnum ((s.heap.push (zOY k l)).push {cls:=.type "enumerate",data:=.fields #[.none,.bool false,.ref s.heap.objs.size,rawInt 0,.none,.none]}) (s.heap.objs.size+1) s.heap.objs.size 0 .none:=by
  have:=Heap.get?_push_size (s.heap.push (zOY k l)) (o:={cls:=.type "enumerate",data:=.fields #[.none,.bool false,.ref s.heap.objs.size,rawInt 0,.none,.none]}) rfl
  rw [hz]at this;exact this
 refine⟨⟨_,he,rfl⟩,h _ ⟨⟨.none,he⟩,IsSub.mk' (hP0 _ (Heap.get?_push_size _ rfl))⟩ λb o x=>hP0 _ (hP0 _ x)⟩
end
theorem yHO{P:Program}{w:World}{K:PySem.W.Frag}{elts:List Expr}{kt:Nat}{pt:Pos}{k:Bool}{e it l:Addr}(hne:e≠it):
  Turn P w K (.Tuple elts kt pt) (Ite K k l) [e,it] e (λi h=>EnSt k e it l i h) where
 mem:=by simp
 obj:=λi h st b hb=>by
  obtain⟨⟨old,he⟩,hs⟩:=st
  have hb':b=e\/b=it:=by simpa using hb
  rcases hb' with rfl|rfl
  ·exact⟨_,he,λv q=>by cases q⟩
  ·exact hs.there
 keep:=λi h h' st kk=>by
  obtain⟨⟨old,he⟩,hs⟩:=st
  exact⟨⟨old,kk e (by simp) _ he⟩,hs.move λo q=>kk it (by simp) o q⟩
 item:=by
  intro X hP hw hK hc i pins s σ H E I hf st hg
  subst hP hw hK
  obtain⟨xs,x,q1,hx⟩:=hg
  obtain⟨its,r1,p1,_⟩:=I.seqK q1
  obtain⟨u,hu,ru⟩:=r1.get hx
  obtain⟨⟨old,he⟩,hs⟩:=st
  have hT:s.TypeIs (.ref e) "enumerate":=⟨_,he,rfl⟩
  unfold pyNext
  refine wB0 (wpAny_attempt (wpAny_callSpecial?_slot (name:=Str.ofString "__next__") hT F.slot_enumerate_next (wpAny_call_entry F.slot_enumerate_next hT F.entry_enumerate_next
   (yNU he hs p1 (x:=u) (by simpa using hu) hne λh' a1 a2 a3 a4=>wP0 ⟨_,rfl,?_⟩) (F.args_enumerate_next_1 _))))
  refine wpAny_letOwnedTupleGo_enum a1 λh2 z2 sb2=>?_
  have hpn:H s.heap.objs.size=none:=I.hok.fresh (le_refl _)
  have I0:Inv X pins σ (upd H s.heap.objs.size (.tup [.int (i:Nat),x])) {s with heap:=s.heap.push {cls:=.type "tuple",data:=.seq #[.int i s.toks,u]},toks:=s.toks+1}:=
   I.laid (t':=s.toks+1) (o:=.tup [.int (i:Nat),x]) (λb o e=>hP0 _ e) (le_refl _) ⟨by show 2<=sizeLine;decide,[.int i s.toks,u],.cons ⟨_,rfl⟩ (.cons ru .nil),⟨_,Heap.get?_push_size _ rfl,rfl,_,rfl⟩⟩
  have lt: ∀b∈[e,it],b<s.heap.objs.size:=λb hb=>by
   have hb':b=e\/b=it:=by simpa using hb
   rcases hb' with rfl|rfl
   ·exact Heap.lt_size he
   ·obtain⟨o,eo,_⟩:=hs.there;exact Heap.lt_size eo
  have fr: ∀b∈[e,it],upd H s.heap.objs.size (.tup [.int (i:Nat),x]) b=none:=λb hb=>by rw [zZ (ne_of_lt (lt b hb))];exact(hf b hb).1
  have mv: ∀b o,b∉[e,it]->(s.heap.push {cls:=.type "tuple",data:=.seq #[.int i s.toks,u]}).get? b=some o->h2.get? b=some o:=λb o hb eo=>by
   simp only [mC,nM0,or_false,not_or]at hb
   refine sb2.extBut _ _ hb.1 ?_
   by_cases hbs:b=s.heap.objs.size
   ·subst hbs
    rw [Heap.get?_push_size _ rfl]at eo
    cases eo
    exact a3
   ·rw [Heap.get?_push_ne _ _ _ hbs]at eo
    exact a4 b o hb.1 hb.2 eo
  have I2:=I0.turnedL (h':=h2) (t':=s.toks+1) mv λb hb=>let ⟨_,c2,c3,c4,c5,c6⟩:=hf b hb;⟨fr b hb,c2,c3,c4,c5,c6⟩
  refine⟨.ref s.heap.objs.size,_,I2,rfl,⟨s.heap.objs.size,x,hpn,rfl,rfl,λzs hz=>?_⟩,⟨⟨u,?_⟩,?_⟩,fr⟩
  ·rw [I.seqK_inj hz q1];exact hx
  ·simpa using z2
  ·exact a2.move λo eo=>sb2.extBut _ _ (Ne.symm hne) eo
 done:=by
  intro X hP hw hK hc i pins s σ H E I hf st hg
  subst hP hw hK
  obtain⟨xs,q1,hx⟩:=hg
  obtain⟨its,r1,p1,_⟩:=I.seqK q1
  obtain⟨⟨old,he⟩,hs⟩:=st
  have hT:s.TypeIs (.ref e) "enumerate":=⟨_,he,rfl⟩
  have e1:=r1.length
  unfold pyNext
  refine wB0 (wpAny_attempt (wpAny_callSpecial?_slot (name:=Str.ofString "__next__") hT F.slot_enumerate_next (wpAny_call_entry F.slot_enumerate_next hT F.entry_enumerate_next ?_ (F.args_enumerate_next_1 _))))
  show wpAny _ _ (field (.ref e) 2 >>= _) _ _ _
  refine wB0 (wpAny_field he rfl (x:=.ref it) rfl ?_)
  refine wB0 (yNS (I.ok.hd hc) hs p1 (by simp;omega) λh' x hk hx'=>?_)
  obtain⟨o,ho,hcl⟩:=hx'
  refine wB0 (wpAny_isInstance (T:="StopIteration") (b:=true) ⟨o,ho,hcl⟩ isSubtype_stop (wP0 ⟨rfl,?_⟩))
  refine I.turnedL (h':=h') (t':=s.toks) (λb o hb eo=>?_) hf
  simp only [mC,nM0,or_false,not_or]at hb
  exact hk b o hb.2 eo
 self:=λ_ _ _ _ _ st h=>let ⟨⟨_,he⟩,_⟩:=st;wpAny_pyIter_enum he h
def iEnum(K:PySem.W.Frag)(ta:TA):TI:=λσ H R=>ta σ H λvs H1=> ∃k l,vs=[.ref l]/\(∃xs,SqK k K H1 l xs)/\R (Ite K k l) H1
section
variable{X:Cx}{W:XW}{a:Expr}{elts:List Expr}{kt:Nat}{pt p pos:Pos}{ta:TA}{af:Rho->Sto->R (List Er)}
theorem yOF(hg:Gl X "enumerate")(hm:X.mg "enumerate"=none)(ha:PA X [a] ta)(hs:starEach [a] X.env=[(false,eval a X.env)]:=by rfl):
  PI X (.Tuple elts kt pt) (.Call (.Name "enumerate" p) [a] [] pos) (iEnum X.K ta):=by
 intro pins s σ H R I h
 refine Call_ (zOM I hg hm yNT (PyProof.Rows.callWith_type1 (thn (ha pos pins s σ H _ I h) λus s1 ⟨vs,H1,I1,r1,q1⟩=>?_) (by rw [hs];rfl) (by rfl)))
 obtain⟨k,l,rfl,⟨xs,c1⟩,q⟩:=q1
 cases r1 with
 |cons r rr=>
  cases rr
  cases r
  obtain⟨its,v1,p1,_⟩:=I1.seqK c1
  refine yHN p1 λh' st hk=>let ⟨⟨_,he⟩,_⟩:=id st;wpAny_pyIter_enum he ?_
  have I2:Inv X pins σ H1 {s1 with heap:=h'}:=I1.kept (t':=s1.toks) hk
  refine⟨_,_,_,_,H1,rfl,I2,yHO (ne_of_gt (lt_succ_self _)),st,λb hb=>?_,q⟩
  have hle:s1.heap.objs.size<=b:=by
   have hb':b=s1.heap.objs.size+1\/b=s1.heap.objs.size:=by simpa using hb
   rcases hb' with h|h<;>rw [h]<;>(first |exact le_refl _|exact Nat.le_add_right _ _)
  exact I1.fpOk hle (I1.hok.fresh hle)
def zUN(xs:List MV):List MV:=xs.zipIdx.map λp=>.tup [.int (p.2:Nat),p.1]
def itE(rs:List Er)(S:Sto):R Wk:=match rs with
 |[p]=>match srcOf S p with
  |some a=>.ok ⟨zUN a.ds,a.gs⟩ S
  |none=>.no
 |_=>.no
theorem zLA(hg:Gl X "enumerate")(hm:X.mg "enumerate"=none)(ha:PAm X W [a] af)(hs:starEach [a] X.env=[(false,eval a X.env)]:=by rfl):
  PIm X W (.Tuple elts kt pt) (.Call (.Name "enumerate" p) [a] [] pos) (λρ S=>(af ρ S).bind itE):=by
 obtain⟨t,ha,k⟩:=ha
 refine⟨_,yOF hg hm ha hs,λα ρ S σ H Rc wd sl q=>k α ρ S σ H _ wd sl (q.bind λvs rs S1 α1 H1 e x1 w1 d1 q1=>?_)⟩
 replace q1:=q1.shift x1
 unfold itE at q1
 split at q1
 ·rename_i r1
  split at q1
  ·rename_i s1 e1
   obtain⟨u,rfl,du⟩:=zZS d1
   obtain⟨l1,P1,rfl,p1,D1⟩:=ySB w1 e1 du
   have g1:=D1.get _ _ _ p1
   have hlen:(zUN s1.ds).length=s1.ds.length:=by unfold zUN;rw [lM,List.length_zipIdx]
   refine⟨s1.k,l1,rfl,⟨_,g1.choose_spec.1⟩,q1.here (u:=Ite X.K s1.k l1) w1 ⟨λα S H=>P1 α S H,?_,p1,?_,?_⟩⟩
   ·intro i α2 S2 H2 b1 w2
    obtain⟨us,c1,c2⟩:=D1.get _ _ _ b1
    have hl:=c2.length
    refine⟨λhi=>?_,λhi=>?_⟩
    ·have hi:i<(zUN s1.ds).length:=hi
     have h1:i<us.length:=by omega
     refine⟨⟨us,us[i],c1,gE0 h1⟩,?_⟩
     rintro x H' ⟨pp,xx,hp,rfl,rfl,hx⟩
     obtain⟨d,hd,dd⟩:=c2.get (hx us c1)
     have xn:=w2.newx (o:=.tup [.int (i:Nat),xx]) hp
     have wn:=w2.new (o:=.tup [.int (i:Nat),xx]) hp
     refine⟨xn,wn,D1.stays _ _ _ _ _ _ b1 xn wn (D1.st _ _ _ b1),.tup [.int (i:Nat),d],?_,?_⟩
     ·unfold zUN;rw [getElem?_map,List.getElem?_zipIdx,hd];simp
     ·exact zGP (.of xU) (xD (jL _) (xD (dd.ext xn) xV))
    ·have hi:(zUN s1.ds).length<=i:=hi
     exact⟨us,c1,by omega⟩
   ·intro α1 S1 H1 α2 S2 H2 b1 x w hs
    exact D1.stays _ _ _ _ _ _ b1 x w hs
   ·exact D1.st _ _ _ p1
  ·exact q1.elim
 ·exact q1.elim
end
noncomputable instance:DecidableEq MV:=λ_ _=>Classical.propDecidable _
noncomputable def look(kvs:List (MV×MV))(k:MV):Option MV:=(kvs.find? λp=>decide (p.1=k)).map (·.2)
section
variable{X:Cx}{W:XW}{a b o i:Expr}{f g:AX}{pos:Pos}
def newDF(S:Sto):R Er:=.ok (.val (.loc S.length)) (S++[.dic []])
end
def FsD(g:Gm)(α:List Addr)(H:Hp)(d:Option Addr)(fs:List (Str×MV)):Prop:=fs=[]\/ ∃dx gs od,d=some dx/\H dx=some (.frz od (.xd gs))/\DenF g.K α H fs gs
abbrev WE(g:Gm)(E:XK):XW:=λc fs _ α H=> ∀C d,g.mg c=some (.ref C)->FsD g α H d fs->E (.ref C) d H
def ySO:MV->Bool
 |.non=>true
 |.bl _=>true
 |.int _=>true
 |.str _=>true
 |_=>false
theorem Post.wmono{β τ:Type}[Dn β τ]{g:Gm}{W W':XW}{α:List Addr}{H:Hp}(f: ∀c fs S α' H',W c fs S α' H'->W' c fs S α' H'): ∀{m:R β}{Q:τ->Hp->Prop},Post g W α H m Q->Post g W' α H m Q
 |.ok b S,Q,q=>q
 |.exc c fs S,_,q=>λα' H' x w=>f _ _ _ _ _ (q α' H' x w)
 |.no,_,q=>q
def XCl(K:PySem.W.Frag)(C:Addr)(bm:List Value)(init:Option Value):Prop:=
 ∃nm q N bs hd sn sub ab col dd k0 k1 k2 k3 k5,K.lookup C=some (excClassObj nm q C N bs bm hd sn sub ab col dd k0 k1 k2 k3 k5 "ValueError.__new__")/\PySem.W.nsOkIn K N=true/\PySem.W.nsIn K N "__init__"=some init/\(∀n∈qn,PySem.W.nsIn K N n=some none)/\hd=true
def XEach(K:PySem.W.Frag)(mg:Str->Option Value)(M:Addr):List (Str×Addr)->Prop
 |[]=>True
 |(c,C)::r=>(mg c=some (.ref C)/\ ∃i,XCl K C (.ref M::bmV) i)/\XEach K mg M r
theorem XEach.at{K:PySem.W.Frag}{mg:Str->Option Value}{M:Addr}: ∀{cs:List (Str×Addr)},XEach K mg M cs-> ∀{c C},(c,C)∈cs->mg c=some (.ref C)/\ ∃i,XCl K C (.ref M::bmV) i
 |(c,C)::r,h,c',C',z=>by
  rcases mC.mp z with z|z
  ·cases z;exact h.1
  ·exact XEach.at h.2 z
def spX(g:Gm)(n:Nat)(F:List MV->Sto->R Er):Sp:=λvs H Q E=> ∃α S ds,Wd g α S H/\DenL g.K α H ds vs/\ds.length=n/\Post g (WE g E) α H (F ds S) Q
noncomputable def yEY(n:Nat)(F:List MV->Sto->R Er)(rs:List Er)(S:Sto):R Er:=if rs.length=n then(match F (zW rs S).1 (zW rs S).2 with
 |.ok r S2=>zCD S r S2
 |.exc c fs S2=>if fs.all (λp=>ySO p.2)=true then(zCD S (.val .non) S2).bind λ_ S3=>.exc c fs S3 else .no
 |.no=>.no)else .no
section
variable{P:Program}{w:World}{K:PySem.W.Frag}{mg:Str->Option Value}{base:Heap}
theorem _root_.L2.FnOk.noX{k n:Nat}{f:Addr}{fd:FuncData}{ps:List Str}{g:Gm}{F:List MV->Sto->R Er}(G:FnOk P w K mg base (CXe P w) k f fd ps (spX g n F)):FnOk P w K mg base CX0 k f fd ps (spM g n F):=by
 have up: ∀{vs H Q}, ∀{E},spM g n F vs H Q E->spX g n F vs H Q E0:=λ⟨α,S,ds,h1,h2,h3,h4⟩=>⟨α,S,ds,h1,h2,h3,h4.wmono λ_ _ _ _ _ z=>z.elim⟩
 refine⟨λvs H Q E h=>G.len vs H Q E0 (up h),λA outer s H args us vs Q E hr e0 hb hv h=>codeAny_mono (G.run A outer s H args us vs Q E0 hr e0 hb hv (up h)) λr s' hq=>?_⟩
 cases r with
 |error e=>
  obtain⟨_,_,_,_,_,_,_,_,_,_,_,_,_,_,_,z⟩:=hq
  exact z
 |ok fl=>cases fl<;>exact hq
end
end M
end L2
namespace L2
open PySem PySem.Spec PyProof.Rows
structure Out(X:Cx)(pins:List (Addr×Obj))(H:Hp)(s:Shared)(b:Addr):Prop where
 s0:X.s₀.heap.get? b=none
 h:H b=none
 pin: ∀p∈X.pn++pins,p.1≠b
 fld: ∃o vs,s.heap.get? b=some o/\o.data=.fields vs
section
variable{X:Cx}{pins:List (Addr×Obj)}{σ:St}{H:Hp}{s:Shared}{e T b:Addr}{h':Heap}
theorem Out.ne(o:Out X pins H s b){c:Addr}{oc:Obj}(hc:s.heap.get? c=some oc)(nf: ∀vs,oc.data≠.fields vs):c≠b:=λz=>by
 obtain⟨ob,vs,h1,h2⟩:=o.fld
 rw [z,h1]at hc;cases hc
 exact nf vs h2
theorem Out.loc(o:Out X pins H s b)(I:Inv X pins σ H s):X.env.locals≠b:=by
 obtain⟨m,⟨oL,es,ep,h1,h2,_⟩,_⟩:=I.loc
 exact o.ne h1 λvs z=>by rw [h2]at z;cases z
end
end L2
namespace L2
namespace M
open PySem PySem.Spec PyProof.Rows
def endF(i:Nat):Fl->Sto->R Fl
 |.next ρ,S=>.ok (.next (ρ.set i none)) S
 |.ret r,S=>.ok (.ret r) S
 |.brk ρ,S=>.ok (.brk (ρ.set i none)) S
 |.cont ρ,S=>.ok (.cont (ρ.set i none)) S
def tryF(ns:List Str)(i:Nat)(kn:Er->Sto->R Fl)(Fh:AY)(ρ:Rho):R Er->R Fl
 |.ok r S=>kn r S
 |.exc c fs S=>if c∈ns then(noX (Fh (ρ.set i (some (.loc S.length))) (S++[.ins c fs]))).bind (endF i)else .no
 |.no=>.no
end M
end L2
namespace Srt
open PySem PyProof.Rows
def zBS:Bool->Keyed->Array Keyed->Nat->Nat->Nat->StateT SortSt Sem (Option Nat):=sortPriv% PySem.Builtin.gallop
def kR:Nat->StateT SortSt Sem Unit:=sortPriv% PySem.Builtin.setMinGallop
def zSK:Array Keyed->Array Keyed->StateT SortSt Sem (Array Keyed):=sortPriv% PySem.Builtin.mergeLo
def zSL:Array Keyed->Array Keyed->StateT SortSt Sem (Array Keyed):=sortPriv% PySem.Builtin.mergeHi
section
variable{M:Model}{A:Around}{E:VP}{s:Shared}{σ:Type}
theorem yOG{x:σ}{Q:PUnit->σ->Prop}{st:σ}(h:Q ⟨⟩ x):wpS M A E s (set x:StateT σ Sem PUnit) Q st:=by
 unfold wpS;rw [StateT.run_set];exact wP0 ⟨rfl,h⟩
theorem zGE{x:String}{Q:Unit->σ->Prop}{st:σ}(h:Q () st):wpS M A E s (liftM (rule x):StateT σ Sem Unit) Q st:=wpS_lift (wpAny_rule ⟨rfl,h⟩)
end
end Srt
set_option autoImplicit false
namespace Srt
variable{β:Type}{le:β->β->Prop}
structure Two(le:β->β->Prop)(T out xs ys:List β):Prop where
 hx:(out++xs).Pairwise le
 hy:(out++ys).Pairwise le
 pm:(out++(xs++ys)).Perm T
theorem Two.movexs{T out zs xs ys:List β}(h:Two le T out (zs++xs) ys)(hl: ∀z,z∈zs-> ∀y,y∈ys->le z y):Two le T (out++zs) xs ys:=by
 refine⟨by simpa only [aA]using h.hx,?_,by simpa only [aA]using h.pm⟩
 have a:=pairwise_append.mp h.hx
 have b:=pairwise_append.mp h.hy
 have c:=pairwise_append.mp a.2.1
 refine pairwise_append.mpr ⟨pairwise_append.mpr ⟨a.1,c.1,λx hx y hy=>a.2.2 x hx y (mem_append_left _ hy)⟩,b.2.1,λx hx y hy=>?_⟩
 cases mem_append.mp hx with
 |inl q=>exact b.2.2 x q y hy
 |inr q=>exact hl x q y hy
theorem Two.swap{T out xs ys:List β}(h:Two le T out xs ys):Two le T out ys xs:=
 ⟨h.hy,h.hx,(List.Perm.append_left out perm_append_comm).trans h.pm⟩
theorem Two.moveys{T out zs xs ys:List β}(h:Two le T out xs (zs++ys))(hl: ∀z,z∈zs-> ∀x,x∈xs->le z x):Two le T (out++zs) xs ys:=
 (h.swap.movexs hl).swap
theorem Two.fin{T out xs ys:List β}(h:Two le T out xs ys)(hl: ∀x,x∈xs-> ∀y,y∈ys->le x y):(out++xs++ys).Pairwise le/\(out++xs++ys).Perm T:=by
 have a:=pairwise_append.mp h.hx
 have b:=pairwise_append.mp h.hy
 refine⟨pairwise_append.mpr ⟨h.hx,b.2.1,λx hx y hy=>?_⟩,by rw [aA];exact h.pm⟩
 cases mem_append.mp hx with
 |inl q=>exact b.2.2 x q y hy
 |inr q=>exact hl x q y hy
structure TwoR(le:β->β->Prop)(T xs ys R:List β):Prop where
 hx:(xs++R).Pairwise le
 hy:(ys++R).Pairwise le
 pm:(xs++ys++R).Perm T
theorem TwoR.swap{T R xs ys:List β}(h:TwoR le T xs ys R):TwoR le T ys xs R:=
 ⟨h.hy,h.hx,(List.Perm.append_right R perm_append_comm).trans h.pm⟩
theorem TwoR.moveys{T R zs xs ys:List β}(h:TwoR le T xs (ys++zs) R)(hl: ∀x,x∈xs-> ∀z,z∈zs->le x z):TwoR le T xs ys (zs++R):=by
 refine⟨?_,by simpa only [aA]using h.hy,by simpa only [aA]using h.pm⟩
 have a:=pairwise_append.mp h.hx
 have b:=pairwise_append.mp h.hy
 have c:=pairwise_append.mp b.1
 refine pairwise_append.mpr ⟨a.1,pairwise_append.mpr ⟨c.2.1,a.2.1,λz hz y hy=>b.2.2 z (mem_append_right _ hz) y hy⟩,λx hx y hy=>?_⟩
 cases mem_append.mp hy with
 |inl q=>exact hl x hx y q
 |inr q=>exact a.2.2 x hx y q
theorem TwoR.movexs{T R zs xs ys:List β}(h:TwoR le T (xs++zs) ys R)(hl: ∀y,y∈ys-> ∀z,z∈zs->le y z):TwoR le T xs ys (zs++R):=
 (h.swap.moveys hl).swap
theorem TwoR.fin{T R xs ys:List β}(h:TwoR le T xs ys R)(hl: ∀x,x∈xs-> ∀y,y∈ys->le x y):(xs++ys++R).Pairwise le/\(xs++ys++R).Perm T:=by
 have a:=pairwise_append.mp h.hx
 have b:=pairwise_append.mp h.hy
 refine⟨pairwise_append.mpr ⟨pairwise_append.mpr ⟨a.1,b.1,hl⟩,a.2.1,λx hx y hy=>?_⟩,h.pm⟩
 cases mem_append.mp hx with
 |inl q=>exact a.2.2 x q y hy
 |inr q=>exact b.2.2 x q y hy
theorem zSM(l:List β)(i k:Nat):l.drop i=(l.drop i).take k++l.drop (i+k):=by
 rw [<-List.drop_drop,take_append_drop]
theorem yAA(l:List β)(i k:Nat)(h:i<=k):l.take k=l.take i++(l.take k).drop i:=by
 have:=take_append_drop i (l.take k)
 rw [List.take_take,min_eq_left h]at this
 exact this.symm
end Srt
set_option autoImplicit false
namespace Srt
open PySem PyProof.Rows
abbrev SM:=StateT SortSt Sem
noncomputable def bey(lf:Bool)(x:Keyed)(v:Array Keyed)(b i:Nat):SM (Option Bool):=
 elem' v (b+i) >>= λy=>if lf=true then lt' y x else lt' x y >>= λr=>pure (r.map λq=>!q)
abbrev G3:=Option (Option Nat)×Nat×Nat
noncomputable def gUp(f:Nat->SM (Option Bool))(n m h:Nat):SM G3:=
 forIn [0:n] ((none,0,1):G3) λ_ c=>
  if c.2.2>=m then pure (.done (none,c.2.1,c.2.2))else f (h+c.2.2) >>= λo=>match o with
   |some q=>if(!q)=true then pure (.done (none,c.2.1,c.2.2))else pure (.yield (none,c.2.2,2 * c.2.2+1))
   |_=>pure (.done (some none,c.2.1,c.2.2))
noncomputable def gDn(f:Nat->SM (Option Bool))(n m h:Nat):SM G3:=
 forIn [0:n] ((none,0,1):G3) λ_ c=>
  if c.2.2>=m then pure (.done (none,c.2.1,c.2.2))else f (h - c.2.2) >>= λo=>match o with
   |some q=>if q=true then pure (.done (none,c.2.1,c.2.2))else pure (.yield (none,c.2.2,2 * c.2.2+1))
   |_=>pure (.done (some none,c.2.1,c.2.2))
noncomputable def gBin(f:Nat->SM (Option Bool))(n lo hi:Nat):SM G3:=
 forIn [0:n] ((none,lo,hi):G3) λ_ c=>
  if c.2.1>=c.2.2 then pure (.done (none,c.2.1,c.2.2))else f (c.2.1+(c.2.2 - c.2.1) / 2) >>= λo=>match o with
   |some q=>if q=true then pure (.yield (none,c.2.1+(c.2.2 - c.2.1) / 2+1,c.2.2))else pure (.yield (none,c.2.1,c.2.1+(c.2.2 - c.2.1) / 2))
   |_=>pure (.done (some none,c.2.1,c.2.2))
noncomputable def gEnd(f:Nat->SM (Option Bool))(n lo hi:Nat):SM (Option Nat):=
 gBin f n lo hi >>= λc=>match c.1 with
  |some r=>pure r
  |none=>pure (some c.2.2)
noncomputable def gal(f:Nat->SM (Option Bool))(n h:Nat):SM (Option Nat):=
 f h >>= λo=>match o with
  |some q=>if q=true then gUp f n (n - h) h >>= λc=>(match c.1 with
     |some r=>pure r
     |none=>gEnd f n (h+c.2.1+1) (h+min c.2.2 (n - h)))
    else gDn f n (h+1) h >>= λc=>(match c.1 with
     |some r=>pure r
     |none=>gEnd f n (h+1 - min c.2.2 (h+1)) (h - c.2.1))
  |_=>pure none
theorem zSN(lf:Bool)(x:Keyed)(v:Array Keyed)(b n h:Nat):zBS lf x v b n h=gal (bey lf x v b) n h:=by kernel_rfl
section
variable{M:Model}{A:Around}{E:VP}{s:Shared}
def Tells(M:Model)(A:Around)(E:VP)(s:Shared)(st:SortSt)(f:Nat->SM (Option Bool))(p:Nat->Bool)(n:Nat):Prop:=
 ∀i,i<n-> ∀Q:Option Bool->SortSt->Prop,Q (some (p i)) st->wpS M A E s (f i) Q st
variable{st:SortSt}{f:Nat->SM (Option Bool)}{p:Nat->Bool}{n h:Nat}
theorem ySP{Q:G3->SortSt->Prop}(hf:Tells M A E s st f p n)(hh:h<n)(h0:p h=true)
  (hq: ∀l o,l<o->h+l<n->p (h+l)=true->(n - h<=o\/(h+o<n/\p (h+o)=false))->Q (none,l,o) st):
  wpS M A E s (gUp f n (n - h) h) Q st:=by
 unfold gUp
 refine wpS_forRange (I:=λx c st'=>st'=st/\ ∃l o,c=(none,l,o)/\x+1<=o/\l<o/\h+l<n/\p (h+l)=true) ?_ ?_ ⟨rfl,0,1,rfl,by omega,by omega,by omega,h0⟩
 ·rintro x c st' _ hx ⟨rfl,l,o,rfl,h1,h2,h3,h4⟩
  dsimp only
  by_cases hge:o>=n - h
  ·rw [iP hge];exact wpS_pure (hq l o h2 h3 h4 (.inl hge))
  ·rw [iN hge]
   refine wpS_bind (hf (h+o) (by omega) _ ?_)
   cases hp:p (h+o)with
   |false=>exact wpS_pure (hq l o h2 h3 h4 (.inr ⟨by omega,hp⟩))
   |true=>exact wpS_pure ⟨rfl,o,2 * o+1,rfl,by omega,by omega,by omega,hp⟩
 ·rintro c st' ⟨rfl,l,o,rfl,h1,h2,h3,h4⟩
  exact hq l o h2 h3 h4 (.inl (by omega))
theorem ySQ{Q:G3->SortSt->Prop}(hf:Tells M A E s st f p n)(hh:h<n)(h0:p h=false)
  (hq: ∀l o,l<o->l<=h->p (h - l)=false->(h+1<=o\/(o<=h/\p (h - o)=true))->Q (none,l,o) st):
  wpS M A E s (gDn f n (h+1) h) Q st:=by
 unfold gDn
 refine wpS_forRange (I:=λx c st'=>st'=st/\ ∃l o,c=(none,l,o)/\x+1<=o/\l<o/\l<=h/\p (h - l)=false) ?_ ?_ ⟨rfl,0,1,rfl,by omega,by omega,by omega,h0⟩
 ·rintro x c st' _ hx ⟨rfl,l,o,rfl,h1,h2,h3,h4⟩
  dsimp only
  by_cases hge:o>=h+1
  ·rw [iP hge];exact wpS_pure (hq l o h2 h3 h4 (.inl hge))
  ·rw [iN hge]
   refine wpS_bind (hf (h - o) (by omega) _ ?_)
   cases hp:p (h - o)with
   |true=>exact wpS_pure (hq l o h2 h3 h4 (.inr ⟨by omega,hp⟩))
   |false=>exact wpS_pure ⟨rfl,o,2 * o+1,rfl,by omega,by omega,by omega,hp⟩
 ·rintro c st' ⟨rfl,l,o,rfl,h1,h2,h3,h4⟩
  exact hq l o h2 h3 h4 (.inl (by omega))
theorem yEZ{Q:Option Nat->SortSt->Prop}{lo hi:Nat}(hf:Tells M A E s st f p n)(hm: ∀i j,i<=j->j<n->p j=true->p i=true)
  (h1:lo<=hi) (h2:hi<=n) (h3: ∀i,i<lo->p i=true) (h4: ∀i,hi<=i->i<n->p i=false)
  (hq: ∀r,r<=n->(∀i,i<r->p i=true)->(∀i,r<=i->i<n->p i=false)->Q (some r) st):
  wpS M A E s (gEnd f n lo hi) Q st:=by
 unfold gEnd gBin
 refine wpS_bind (wpS_mono (wpS_forRange (I:=λx c st'=>st'=st/\ ∃l r,c=(none,l,r)/\l<=r/\r<=n/\r - l<=n - x/\(∀i,i<l->p i=true)/\(∀i,r<=i->i<n->p i=false))
  (Q:=λc st'=>st'=st/\ ∃l r,c=(none,l,r)/\r<=n/\(∀i,i<r->p i=true)/\(∀i,r<=i->i<n->p i=false)) ?_ ?_ ⟨rfl,lo,hi,rfl,h1,h2,by omega,h3,h4⟩) ?_)
 ·rintro x c st' _ hx ⟨rfl,l,r,rfl,a1,a2,a3,a4,a5⟩
  dsimp only
  by_cases hge:l>=r
  ·rw [iP hge]
   have:l=r:=by omega
   subst this
   exact wpS_pure ⟨rfl,l,l,rfl,a2,a4,a5⟩
  ·rw [iN hge]
   refine wpS_bind (hf (l+(r - l) / 2) (by omega) _ ?_)
   cases hp:p (l+(r - l) / 2)with
   |true=>exact wpS_pure ⟨rfl,_,r,rfl,by omega,a2,by omega,λi hi=>hm i _ (by omega) (by omega) hp,a5⟩
   |false=>
    refine wpS_pure ⟨rfl,l,_,rfl,by omega,by omega,by omega,a4,λi hi1 hi2=>?_⟩
    cases hpi:p i with
    |false=>rfl
    |true=>rw [hm _ i hi1 hi2 hpi]at hp;cases hp
 ·rintro c st' ⟨rfl,l,r,rfl,a1,a2,a3,a4,a5⟩
  have:l=r:=by omega
  subst this
  exact⟨rfl,l,l,rfl,a2,a4,a5⟩
 ·rintro c st' ⟨rfl,l,r,rfl,a2,a4,a5⟩
  exact wpS_pure (hq r a2 a4 a5)
theorem yKM{Q:Option Nat->SortSt->Prop}(hf:Tells M A E s st f p n)(hm: ∀i j,i<=j->j<n->p j=true->p i=true)(hh:h<n)
  (hq: ∀r,r<=n->(∀i,i<r->p i=true)->(∀i,r<=i->i<n->p i=false)->Q (some r) st):
  wpS M A E s (gal f n h) Q st:=by
 have hn: ∀i j,i<=j->j<n->p i=false->p j=false:=by
  intro i j h1 h2 h3
  cases hj:p j with
  |false=>rfl
  |true=>rw [hm i j h1 h2 hj]at h3;cases h3
 unfold gal
 refine wpS_bind (hf h hh _ ?_)
 cases hp:p h with
 |true=>
  refine wpS_bind (ySP hf hh hp λl o h1 h2 h3 h4=>?_)
  dsimp only
  refine yEZ hf hm (by omega) (by omega) (λi hi=>hm i (h+l) (by omega) h2 h3) (λi h5 h6=>?_) hq
  rcases h4 with h4|⟨h4,h7⟩
  ·omega
  ·exact hn _ i (by omega) h6 h7
 |false=>
  refine wpS_bind (ySQ hf hh hp λl o h1 h2 h3 h4=>?_)
  dsimp only
  refine yEZ hf hm (by omega) (by omega) (λi hi=>?_) (λi h5 h6=>hn _ i h5 h6 h3) hq
  rcases h4 with h4|⟨h4,h7⟩
  ·omega
  ·exact hm i (h - o) (by omega) (by omega) h7
end
end Srt
set_option autoImplicit false
namespace Srt
open PySem PyProof.Rows
theorem bO{β:Type}{l:List β}{i:Nat}{z:β}(h:z∈l.drop i): ∃j,i+j<l.length/\l[i+j]? =some z:=by
 obtain⟨j,hj,e⟩:=List.mem_iff_getElem.mp h
 rw [length_drop]at hj
 refine⟨j,by omega,?_⟩
 rw [getElem_drop]at e
 rw [<-e,gE0 (by omega)]
theorem jD{β:Type}{l:List β}{i k:Nat}{z:β}(h:z∈(l.drop i).take k): ∃j,j<k/\i+j<l.length/\l[i+j]? =some z:=by
 obtain⟨j,hj,e⟩:=List.mem_iff_getElem.mp h
 rw [lT,length_drop]at hj
 refine⟨j,by omega,by omega,?_⟩
 rw [getElem_take,getElem_drop]at e
 rw [<-e,gE0 (by omega)]
theorem zJD{β:Type}{l:List β}{k:Nat}{z:β}(h:z∈l.take k): ∃j,j<k/\j<l.length/\l[j]? =some z:=by
 obtain⟨j,hj,e⟩:=List.mem_iff_getElem.mp h
 rw [lT]at hj
 refine⟨j,by omega,by omega,?_⟩
 rw [getElem_take]at e
 rw [<-e,gE0 (by omega)]
section
variable{M:Model}{A:Around}{E:VP}{s:Shared}
structure Cmp(M:Model)(A:Around)(E:VP)(s:Shared)(kd:SortKind)(D:Keyed->Prop)(lt:Keyed->Keyed->Bool):Prop where
 go: ∀x y,D x->D y-> ∀st:SortSt,kindOf st=kd-> ∀Q:Option Bool->SortSt->Prop,Q (some (lt x y)) st->wpS M A E s (lt' x y) Q st
 tr: ∀x y z,lt y x=false->lt z y=false->lt z x=false
 as: ∀x y,lt x y=true->lt y x=false
variable{kd:SortKind}{D:Keyed->Prop}{lt:Keyed->Keyed->Bool}
abbrev Le(lt:Keyed->Keyed->Bool)(x y:Keyed):Prop:=lt y x=false
theorem Cmp.rf(C:Cmp M A E s kd D lt)(x:Keyed):Le lt x x:=by
 show lt x x=false
 cases h:lt x x with
 |false=>rfl
 |true=>exact absurd h (by rw [C.as x x h];simp)
def SL(lt:Keyed->Keyed->Bool)(l:List Keyed)(b n:Nat):Prop:= ∀i j x y,i<=j->j<n->l[b+i]? =some x->l[b+j]? =some y->lt y x=false
theorem yX{st:SortSt}{v:Array Keyed}{i:Nat}{Q:Keyed->SortSt->Prop}{x:Keyed}(e:v.toList[i]? =some x)(h:Q x st):wpS M A E s (elem' v i) Q st:=by
 rw [elem'_eq]
 have:v[i]? =some x:=by rw [<-Array.getElem?_toList];exact e
 rw [this]
 exact wpS_pure h
theorem jA{v:Array Keyed}{i:Nat}(h:i<v.size): ∃x,v.toList[i]? =some x:=⟨v.toList[i]'(by simpa using h),gE0 _⟩
def pB(lt:Keyed->Keyed->Bool)(lf:Bool)(x:Keyed)(l:List Keyed)(b i:Nat):Bool:=(l[b+i]?).elim false λy=>if lf=true then lt y x else !lt x y
theorem tells(C:Cmp M A E s kd D lt){st:SortSt}(hk:kindOf st=kd){v:Array Keyed}(hD: ∀y,y∈v.toList->D y){x:Keyed}(hx:D x){b n:Nat}(hn:b+n<=v.size)(lf:Bool):
  Tells M A E s st (bey lf x v b) (pB lt lf x v.toList b) n:=by
 intro i hi Q hq
 obtain⟨y,hy⟩:=jA (v:=v) (i:=b+i) (by omega)
 have hDy:=hD y (mem_of_getElem? hy)
 unfold bey
 unfold pB at hq
 rw [hy]at hq
 refine wpS_bind (yX hy ?_)
 cases lf with
 |true=>exact C.go y x hDy hx st hk _ hq
 |false=>
  show wpS M A E s (lt' x y >>= λr=>pure (r.map λq=>!q)) Q st
  exact wpS_bind (C.go x y hx hDy st hk _ (wpS_pure hq))
theorem zXH(C:Cmp M A E s kd D lt){st:SortSt}(hk:kindOf st=kd){v:Array Keyed}(hD: ∀y,y∈v.toList->D y){x:Keyed}(hx:D x){b n h:Nat}(hn:b+n<=v.size)(hh:h<n)
  (hs:SL lt v.toList b n) {Q:Option Nat->SortSt->Prop}
  (hq: ∀r,r<=n->(∀i y,i<r->v.toList[b+i]? =some y->lt x y=false)->(∀i y,r<=i->i<n->v.toList[b+i]? =some y->lt x y=true)->Q (some r) st):
  wpS M A E s (zBS false x v b n h) Q st:=by
 rw [zSN]
 refine yKM (tells C hk hD hx hn false) (λi j h1 h2 h3=>?_) hh (λr h1 h2 h3=>hq r h1 (λi y h4 h5=>?_) (λi y h4 h5 h6=>?_))
 ·obtain⟨y,hy⟩:=jA (v:=v) (i:=b+i) (by omega)
  obtain⟨z,hz⟩:=jA (v:=v) (i:=b+j) (by omega)
  unfold pB at h3 ⊢
  rw [hz]at h3;rw [hy]
  have h3':(!lt x z)=true:=h3
  show(!lt x y)=true
  have:=hs i j y z h1 h2 hy hz
  have h4:lt x z=false:=by simpa using h3'
  rw [C.tr y z x this h4];rfl
 ·have:=h2 i h4
  unfold pB at this
  rw [h5]at this
  have h':(!lt x y)=true:=this
  simpa using h'
 ·have:=h3 i h4 h5
  unfold pB at this
  rw [h6]at this
  have h':(!lt x y)=false:=this
  simpa using h'
theorem zXI(C:Cmp M A E s kd D lt){st:SortSt}(hk:kindOf st=kd){v:Array Keyed}(hD: ∀y,y∈v.toList->D y){x:Keyed}(hx:D x){b n h:Nat}(hn:b+n<=v.size)(hh:h<n)
  (hs:SL lt v.toList b n) {Q:Option Nat->SortSt->Prop}
  (hq: ∀r,r<=n->(∀i y,i<r->v.toList[b+i]? =some y->lt y x=true)->(∀i y,r<=i->i<n->v.toList[b+i]? =some y->lt y x=false)->Q (some r) st):
  wpS M A E s (zBS true x v b n h) Q st:=by
 rw [zSN]
 refine yKM (tells C hk hD hx hn true) (λi j h1 h2 h3=>?_) hh (λr h1 h2 h3=>hq r h1 (λi y h4 h5=>?_) (λi y h4 h5 h6=>?_))
 ·obtain⟨y,hy⟩:=jA (v:=v) (i:=b+i) (by omega)
  obtain⟨z,hz⟩:=jA (v:=v) (i:=b+j) (by omega)
  unfold pB at h3 ⊢
  rw [hz]at h3;rw [hy]
  have h3':lt z x=true:=h3
  show lt y x=true
  have:=hs i j y z h1 h2 hy hz
  cases hyx:lt y x with
  |true=>rfl
  |false=>exact absurd h3' (by rw [C.tr x y z hyx this];simp)
 ·have:=h2 i h4
  unfold pB at this
  rw [h5]at this
  exact this
 ·have:=h3 i h4 h5
  unfold pB at this
  rw [h6]at this
  exact this
end
end Srt
set_option autoImplicit false
namespace Srt
open PySem PyProof.Rows
abbrev V:=Array Keyed
abbrev L5:=Option V×V×Nat×Nat×Nat
abbrev L6:=Option V×V×Nat×Nat×Nat×Nat
abbrev L7:=Option V×V×Nat×Nat×Nat×Nat×Nat
abbrev dnL(a b o:V)(i j:Nat):V:=o++a.extract i a.size++b.extract j b.size
abbrev laL(a b o:V)(i j:Nat):V:=o++b.extract j b.size++a.extract i a.size
noncomputable def one1(a b:V)(g:Nat)(c:L6):SM (ForInStep L6):=
 elem' b c.2.2.2.1 >>= λy=>elem' a c.2.2.1 >>= λx=>lt' y x >>= λr=>match r with
  |some q=>if q=true then elem' b c.2.2.2.1 >>= λy=>
     if(c.2.2.2.1+1==b.size)=true then pure (.done (some (dnL a b (c.2.1.push y) c.2.2.1 (c.2.2.2.1+1)),c.2.1.push y,c.2.2.1,c.2.2.2.1+1,0,c.2.2.2.2.2+1))
     else if c.2.2.2.2.2+1>=g then pure (.done (none,c.2.1.push y,c.2.2.1,c.2.2.2.1+1,0,c.2.2.2.2.2+1))
     else pure (.yield (none,c.2.1.push y,c.2.2.1,c.2.2.2.1+1,0,c.2.2.2.2.2+1))
    else elem' a c.2.2.1 >>= λx=>
     if(c.2.2.1+1+1==a.size)=true then pure (.done (some (laL a b (c.2.1.push x) (c.2.2.1+1) c.2.2.2.1),c.2.1.push x,c.2.2.1+1,c.2.2.2.1,c.2.2.2.2.1+1,0))
     else if c.2.2.2.2.1+1>=g then pure (.done (none,c.2.1.push x,c.2.2.1+1,c.2.2.2.1,c.2.2.2.2.1+1,0))
     else pure (.yield (none,c.2.1.push x,c.2.2.1+1,c.2.2.2.1,c.2.2.2.2.1+1,0))
  |_=>pure (.done (some (dnL a b c.2.1 c.2.2.1 c.2.2.2.1),c.2.1,c.2.2.1,c.2.2.2.1,c.2.2.2.2.1,c.2.2.2.2.2))
noncomputable def in1(a b:V)(t g:Nat)(c:L6):SM L6:=forIn [0:t] c λ_ c=>one1 a b g c
noncomputable def two4(a b o:V)(i j g p q:Nat):SM (ForInStep L7):=
 elem' a i >>= λx=>if(i+1+1==a.size)=true then pure (.done (some (laL a b (o.push x) (i+1) j),o.push x,i+1,j,g,p,q))
  else if(decide (p<7)&&decide (q<7))=true then pure (.done (none,o.push x,i+1,j,g,p,q))else pure (.yield (none,o.push x,i+1,j,g,p,q))
noncomputable def two3(a b o:V)(i j g p q:Nat):SM (ForInStep L7):=
 elem' b j >>= λy=>if(j+1==b.size)=true then pure (.done (some (dnL a b (o.push y) i (j+1)),o.push y,i,j+1,g,p,q))
  else elem' a i >>= λx=>zBS true x b (j+1) (b.size - (j+1)) 0 >>= λr=>match r with
   |some k=>if k>0 then
      if(j+1+k==b.size)=true then pure (.done (some (dnL a b (o.push y++b.extract (j+1) (j+1+k)) i (j+1+k)),o.push y++b.extract (j+1) (j+1+k),i,j+1+k,g,p,k))
      else two4 a b (o.push y++b.extract (j+1) (j+1+k)) i (j+1+k) g p k
     else two4 a b (o.push y) i (j+1) g p k
   |_=>pure (.done (some (dnL a b (o.push y) i (j+1)),o.push y,i,j+1,g,p,q))
noncomputable def two2(a b o:V)(i j g p q:Nat):SM (ForInStep L7):=
 kR g >>= λ_=>elem' b j >>= λy=>zBS false y a i (a.size - i) 0 >>= λr=>match r with
  |some k=>if k>0 then
     if(i+k+1==a.size)=true then pure (.done (some (laL a b (o++a.extract i (i+k)) (i+k) j),o++a.extract i (i+k),i+k,j,g,k,q))
     else if(i+k==a.size)=true then pure (.done (some (dnL a b (o++a.extract i (i+k)) (i+k) j),o++a.extract i (i+k),i+k,j,g,k,q))
     else two3 a b (o++a.extract i (i+k)) (i+k) j g k q
    else two3 a b o i j g k q
  |_=>pure (.done (some (dnL a b o i j),o,i,j,g,p,q))
noncomputable def in2(a b:V)(t:Nat)(c:L7):SM L7:=forIn [0:t] c λ_ c=>
 if c.2.2.2.2.1>1 then two2 a b c.2.1 c.2.2.1 c.2.2.2.1 (c.2.2.2.2.1 - 1) c.2.2.2.2.2.1 c.2.2.2.2.2.2
 else two2 a b c.2.1 c.2.2.1 c.2.2.2.1 c.2.2.2.2.1 c.2.2.2.2.2.1 c.2.2.2.2.2.2
noncomputable def outL(a b:V)(t:Nat)(c:L5):SM L5:=forIn [0:t] c λ_ c=>
 in1 a b t c.2.2.2.2 (none,c.2.1,c.2.2.1,c.2.2.2.1,0,0) >>= λd=>match d.1 with
  |some r=>pure (.done (some r,d.2.1,d.2.2.1,d.2.2.2.1,c.2.2.2.2))
  |none=>liftM (rule "list.sort.gallop") >>= λ_=>in2 a b t (none,d.2.1,d.2.2.1,d.2.2.2.1,c.2.2.2.2+1,d.2.2.2.2.1,d.2.2.2.2.2) >>= λe=>match e.1 with
   |some r=>pure (.done (some r,e.2.1,e.2.2.1,e.2.2.2.1,e.2.2.2.2.1))
   |none=>kR (e.2.2.2.2.1+1) >>= λ_=>pure (.yield (none,e.2.1,e.2.2.1,e.2.2.2.1,e.2.2.2.2.1+1))
noncomputable def mLo(a b:V):SM V:=
 liftM (rule "list.sort.merge-lo") >>= λ_=>elem' b 0 >>= λy=>if(1==b.size)=true then pure (dnL a b #[y] 0 1)
  else if(0+1==a.size)=true then pure (laL a b #[y] 0 1)
  else get >>= λst=>outL a b (a.size+b.size) (none,#[y],0,1,gallopOf st) >>= λc=>match c.1 with
   |some r=>pure r
   |none=>liftM (unsupported "internal:list.sort.merge-bound")
theorem yAB(a b:V):zSK a b=mLo a b:=by kernel_rfl
end Srt
set_option autoImplicit false
namespace Srt
open PySem PyProof.Rows
theorem zOZ(v:V)(i:Nat):(v.extract i v.size).toList=v.toList.drop i:=by
 rw [Array.toList_extract,List.extract_eq_take_drop]
 exact take_of_length_le (by simp)
theorem zXJ(v:V)(i k:Nat):(v.extract i (i+k)).toList=(v.toList.drop i).take k:=by
 rw [Array.toList_extract,List.extract_eq_take_drop,Nat.add_sub_cancel_left]
theorem yOH(g:Nat):kR g=modify λs=>SortSt.mk' (kindOf s) (arrOf s) (pendingOf s) g (failedOf s):=rfl
def Sg(st st':SortSt):Prop:= ∃g,st'=SortSt.mk' (kindOf st) (arrOf st) (pendingOf st) g (failedOf st)
theorem Sg.refl(st:SortSt):Sg st st:=⟨gallopOf st,rfl⟩
theorem Sg.kind{st st':SortSt}(h:Sg st st'):kindOf st'=kindOf st:=by obtain⟨g,rfl⟩:=h;rfl
section
variable{M:Model}{A:Around}{E:VP}{s:Shared}{kd:SortKind}{D:Keyed->Prop}{lt:Keyed->Keyed->Bool}{a b:V}
theorem zQW{st st':SortSt}(h:Sg st st'){g:Nat}{Q:Unit->SortSt->Prop}(hq: ∀st',Sg st st'->Q () st'):wpS M A E s (kR g) Q st':=by
 rw [yOH]
 obtain⟨g',rfl⟩:=h
 exact wpS_modify (hq _ ⟨g,rfl⟩)
abbrev TwoA(lt:Keyed->Keyed->Bool)(a b o:V)(i j:Nat):Prop:=Two (Le lt) (a.toList++b.toList) o.toList (a.toList.drop i) (b.toList.drop j)
def FinA(lt:Keyed->Keyed->Bool)(a b r:V):Prop:=r.toList.Pairwise (Le lt)/\r.toList.Perm (a.toList++b.toList)
theorem zXK{β:Type}{l:List β}{i:Nat}{x:β}(h:l[i]? =some x):l.drop i=x::l.drop (i+1):=by
 obtain⟨hi,e⟩:=gS0.mp h
 rw [<-e];exact drop_eq_getElem_cons hi
theorem heads{β:Type}{le:β->β->Prop}(rf: ∀x,le x x){l:List β}{i:Nat}{x:β}(h:(l.drop i).Pairwise le)(e:l[i]? =some x): ∀z,z∈l.drop i->le x z:=by
 rw [zXK e]at h ⊢
 intro z hz
 cases hz with
 |head=>exact rf x
 |tail _ hz=>exact(pairwise_cons.mp h).1 z hz
theorem TwoA.sa{o:V}{i j:Nat}(h:TwoA lt a b o i j):(a.toList.drop i).Pairwise (Le lt):=(pairwise_append.mp h.hx).2.1
theorem TwoA.sb{o:V}{i j:Nat}(h:TwoA lt a b o i j):(b.toList.drop j).Pairwise (Le lt):=(pairwise_append.mp h.hy).2.1
theorem yFA{l:List Keyed}{i n:Nat}(h:(l.drop i).Pairwise (Le lt))(rf: ∀x,Le lt x x):SL lt l i n:=by
 intro p q x y h1 h2 hx hy
 by_cases e:p=q
 ·subst e;rw [hx]at hy;cases hy;exact rf x
 ·obtain⟨b1,e1⟩:=gS0.mp hx
  obtain⟨b2,e2⟩:=gS0.mp hy
  have:=List.pairwise_iff_getElem.mp h p q (by rw [length_drop];omega) (by rw [length_drop];omega) (by omega)
  rw [getElem_drop,getElem_drop,e1,e2]at this
  exact this
theorem TwoA.pushB{o:V}{i j:Nat}{y:Keyed}(h:TwoA lt a b o i j)(e:b.toList[j]? =some y)(hl: ∀x,x∈a.toList.drop i->Le lt y x):TwoA lt a b (o.push y) i (j+1):=by
 have h':Two (Le lt) (a.toList++b.toList) o.toList (a.toList.drop i) ([y]++b.toList.drop (j+1)):=by rw [show [y]++b.toList.drop (j+1)=b.toList.drop j from(zXK e).symm];exact h
 have:=h'.moveys λz hz x hx=>by rw [mS.mp hz];exact hl x hx
 show Two _ _ (o.push y).toList _ _
 rw [Array.toList_push];exact this
theorem TwoA.pushA{o:V}{i j:Nat}{x:Keyed}(h:TwoA lt a b o i j)(e:a.toList[i]? =some x)(hl: ∀y,y∈b.toList.drop j->Le lt x y):TwoA lt a b (o.push x) (i+1) j:=by
 have h':Two (Le lt) (a.toList++b.toList) o.toList ([x]++a.toList.drop (i+1)) (b.toList.drop j):=by rw [show [x]++a.toList.drop (i+1)=a.toList.drop i from(zXK e).symm];exact h
 have:=h'.movexs λz hz y hy=>by rw [mS.mp hz];exact hl y hy
 show Two _ _ (o.push x).toList _ _
 rw [Array.toList_push];exact this
theorem TwoA.cutA{o:V}{i j k:Nat}(h:TwoA lt a b o i j)(hl: ∀n z,n<k->a.toList[i+n]? =some z-> ∀y,y∈b.toList.drop j->Le lt z y):TwoA lt a b (o++a.extract i (i+k)) (i+k) j:=by
 have h':Two (Le lt) (a.toList++b.toList) o.toList ((a.toList.drop i).take k++a.toList.drop (i+k)) (b.toList.drop j):=by rw [<-zSM];exact h
 have:=h'.movexs λz hz y hy=>by obtain⟨n,h1,_,h2⟩:=jD hz;exact hl n z h1 h2 y hy
 show Two _ _ (o++a.extract i (i+k)).toList _ _
 rw [Array.toList_append,zXJ];exact this
theorem TwoA.cutB{o:V}{i j k:Nat}(h:TwoA lt a b o i j)(hl: ∀n z,n<k->b.toList[j+n]? =some z-> ∀x,x∈a.toList.drop i->Le lt z x):TwoA lt a b (o++b.extract j (j+k)) i (j+k):=by
 have h':Two (Le lt) (a.toList++b.toList) o.toList (a.toList.drop i) ((b.toList.drop j).take k++b.toList.drop (j+k)):=by rw [<-zSM];exact h
 have:=h'.moveys λz hz y hy=>by obtain⟨n,h1,_,h2⟩:=jD hz;exact hl n z h1 h2 y hy
 show Two _ _ (o++b.extract j (j+k)).toList _ _
 rw [Array.toList_append,zXJ];exact this
theorem TwoA.dnB{o:V}{i j:Nat}(h:TwoA lt a b o i j)(hj:b.size<=j):FinA lt a b (dnL a b o i j):=by
 have e:(dnL a b o i j).toList=o.toList++a.toList.drop i++b.toList.drop j:=by rw [Array.toList_append,Array.toList_append,zOZ,zOZ]
 unfold FinA;rw [e]
 exact h.fin λx _ y hy=>by rw [drop_of_length_le (by simpa using hj)]at hy;cases hy
theorem TwoA.dnA{o:V}{i j:Nat}(h:TwoA lt a b o i j)(hi:a.size<=i):FinA lt a b (dnL a b o i j):=by
 have e:(dnL a b o i j).toList=o.toList++a.toList.drop i++b.toList.drop j:=by rw [Array.toList_append,Array.toList_append,zOZ,zOZ]
 unfold FinA;rw [e]
 exact h.fin λx hx y _=>by rw [drop_of_length_le (by simpa using hi)]at hx;cases hx
theorem TwoA.la{o:V}{i j:Nat}(h:TwoA lt a b o i j)(hi:i+1=a.size)(hz: ∀x y,a.toList[a.size - 1]? =some x->y∈b.toList->Le lt y x):FinA lt a b (laL a b o i j):=by
 have e:(laL a b o i j).toList=o.toList++b.toList.drop j++a.toList.drop i:=by rw [Array.toList_append,Array.toList_append,zOZ,zOZ]
 unfold FinA;rw [e]
 refine h.swap.fin λy hy x hx=>?_
 obtain⟨n,h1,h2⟩:=bO hx
 have hl:a.toList.length=a.size:=by simp
 exact hz x y (by rw [show a.size - 1=i+n by omega];exact h2) (List.mem_of_mem_drop hy)
theorem TwoA.len{o:V}{i j:Nat}(h:TwoA lt a b o i j):o.size+((a.size - i)+(b.size - j))=a.size+b.size:=by
 have:=h.pm.length_eq
 simpa [lA,length_drop]using this
def I1(lt:Keyed->Keyed->Bool)(a b o:V)(i j:Nat):Prop:=i+1<a.size/\j<b.size/\TwoA lt a b o i j
structure Set2(M:Model)(A:Around)(E:VP)(s:Shared)(kd:SortKind)(D:Keyed->Prop)(lt:Keyed->Keyed->Bool)(a b:V):Prop where
 C:Cmp M A E s kd D lt
 da: ∀x,x∈a.toList->D x
 db: ∀x,x∈b.toList->D x
 lst: ∀x y,a.toList[a.size - 1]? =some x->y∈b.toList->Le lt y x
def N6(lt:Keyed->Keyed->Bool)(a b:V)(n:Nat)(c:L6):Prop:= ∃o i j p q,c=(none,o,i,j,p,q)/\I1 lt a b o i j/\n<=o.size
def P6(lt:Keyed->Keyed->Bool)(a b:V)(n:Nat)(c:L6):Prop:=(∃r e,c=(some r,e)/\FinA lt a b r)\/N6 lt a b n c
def N7(lt:Keyed->Keyed->Bool)(a b:V)(n:Nat)(c:L7):Prop:= ∃o i j g p q,c=(none,o,i,j,g,p,q)/\I1 lt a b o i j/\n<=o.size
def P7(lt:Keyed->Keyed->Bool)(a b:V)(n:Nat)(c:L7):Prop:=(∃r e,c=(some r,e)/\FinA lt a b r)\/N7 lt a b n c
theorem yOI(Z:Set2 M A E s kd D lt a b){st:SortSt}(hk:kindOf st=kd){o:V}{i j p q g:Nat}(h:I1 lt a b o i j){Q:ForInStep L6->SortSt->Prop}
  (hd: ∀c,P6 lt a b (o.size+1) c->Q (.done c) st) (hy: ∀c,N6 lt a b (o.size+1) c->Q (.yield c) st):wpS M A E s (one1 a b g (none,o,i,j,p,q)) Q st:=by
 obtain⟨h1,h2,h3⟩:=h
 obtain⟨y,ey⟩:=jA h2
 obtain⟨x,ex⟩:=jA (v:=a) (i:=i) (by omega)
 have hb:=heads Z.C.rf h3.sb ey
 have ha:=heads Z.C.rf h3.sa ex
 unfold one1
 refine wpS_bind (yX ey (wpS_bind (yX ex (wpS_bind (Z.C.go y x (Z.db y (mem_of_getElem? ey)) (Z.da x (mem_of_getElem? ex)) st hk _ ?_)))))
 cases hlt:lt y x with
 |true=>
  have T':=h3.pushB ey λz hz=>Z.C.tr y x z (Z.C.as y x hlt) (ha z hz)
  have hs:(o.push y).size=o.size+1:=Array.size_push ..
  refine wpS_bind (yX ey ?_)
  dsimp only
  by_cases c1:j+1=b.size
  ·rw [iP (by simpa using c1)]
   exact wpS_pure (hd _ (.inl ⟨_,_,rfl,T'.dnB (by omega)⟩))
  ·rw [iN (by simpa using c1)]
   have I':I1 lt a b (o.push y) i (j+1):=⟨h1,by omega,T'⟩
   split
   ·exact wpS_pure (hd _ (.inr ⟨_,_,_,_,_,rfl,I',by omega⟩))
   ·exact wpS_pure (hy _ ⟨_,_,_,_,_,rfl,I',by omega⟩)
 |false=>
  have T':=h3.pushA ex λz hz=>Z.C.tr x y z hlt (hb z hz)
  have hs:(o.push x).size=o.size+1:=Array.size_push ..
  refine wpS_bind (yX ex ?_)
  dsimp only
  by_cases c1:i+1+1=a.size
  ·rw [iP (by simpa using c1)]
   exact wpS_pure (hd _ (.inl ⟨_,_,rfl,T'.la c1 Z.lst⟩))
  ·rw [iN (by simpa using c1)]
   have I':I1 lt a b (o.push x) (i+1) j:=⟨by omega,h2,T'⟩
   split
   ·exact wpS_pure (hd _ (.inr ⟨_,_,_,_,_,rfl,I',by omega⟩))
   ·exact wpS_pure (hy _ ⟨_,_,_,_,_,rfl,I',by omega⟩)
theorem N6.mono{n m:Nat}{c:L6}(h:N6 lt a b n c)(e:m<=n):N6 lt a b m c:=by
 obtain⟨o,i,j,p,q,h1,h2,h3⟩:=h;exact⟨o,i,j,p,q,h1,h2,by omega⟩
theorem P6.mono{n m:Nat}{c:L6}(h:P6 lt a b n c)(e:m<=n):P6 lt a b m c:=h.imp id λh=>h.mono e
theorem ySR(Z:Set2 M A E s kd D lt a b){st:SortSt}(hk:kindOf st=kd){o:V}{i j g t:Nat}(ht:1<=t)(h:I1 lt a b o i j){Q:L6->SortSt->Prop}
  (hq: ∀c,P6 lt a b (o.size+1) c->Q c st):wpS M A E s (in1 a b t g (none,o,i,j,0,0)) Q st:=by
 unfold in1
 refine wpS_forRange (I:=λx c st'=>st'=st/\N6 lt a b (o.size+x) c) ?_ ?_ ⟨rfl,o,i,j,0,0,rfl,h,by omega⟩
 ·rintro x c st' _ _ ⟨rfl,o',i',j',p',q',rfl,h',hn⟩
  refine yOI Z hk h' (λc hc=>hq c (hc.mono (by omega))) (λc hc=>⟨rfl,hc.mono (by omega)⟩)
 ·rintro c st' ⟨rfl,hN⟩
  exact hq c (.inr (hN.mono (by omega)))
theorem yFB(Z:Set2 M A E s kd D lt a b){st:SortSt}{o:V}{i j g p q:Nat}(h1:i+1<a.size)(h2:j<b.size)(h3:TwoA lt a b o i j)
  (hl: ∀x,a.toList[i]? =some x-> ∀y,y∈b.toList.drop j->Le lt x y) {n:Nat} (hn:n<=o.size) {Q:ForInStep L7->SortSt->Prop}
  (hd: ∀c,P7 lt a b n c->Q (.done c) st) (hy: ∀c,N7 lt a b n c->Q (.yield c) st):wpS M A E s (two4 a b o i j g p q) Q st:=by
 obtain⟨x,ex⟩:=jA (v:=a) (i:=i) (by omega)
 have T':=h3.pushA ex (hl x ex)
 have hs:(o.push x).size=o.size+1:=Array.size_push ..
 unfold two4
 refine wpS_bind (yX ex ?_)
 by_cases c1:i+1+1=a.size
 ·rw [iP (by simpa using c1)]
  exact wpS_pure (hd _ (.inl ⟨_,_,rfl,T'.la c1 Z.lst⟩))
 ·rw [iN (by simpa using c1)]
  have I':I1 lt a b (o.push x) (i+1) j:=⟨by omega,h2,T'⟩
  split
  ·exact wpS_pure (hd _ (.inr ⟨_,_,_,_,_,_,rfl,I',by omega⟩))
  ·exact wpS_pure (hy _ ⟨_,_,_,_,_,_,rfl,I',by omega⟩)
theorem yFC(Z:Set2 M A E s kd D lt a b){st:SortSt}(hk:kindOf st=kd){o:V}{i j g p q:Nat}(h1:i+1<a.size)(h2:j<b.size)(h3:TwoA lt a b o i j)
  (hl: ∀y,b.toList[j]? =some y-> ∀x,x∈a.toList.drop i->Le lt y x) {n:Nat} (hn:n<=o.size) {Q:ForInStep L7->SortSt->Prop}
  (hd: ∀c,P7 lt a b n c->Q (.done c) st) (hy: ∀c,N7 lt a b n c->Q (.yield c) st):wpS M A E s (two3 a b o i j g p q) Q st:=by
 obtain⟨y,ey⟩:=jA h2
 obtain⟨x,ex⟩:=jA (v:=a) (i:=i) (by omega)
 have T':=h3.pushB ey (hl y ey)
 have hs:(o.push y).size=o.size+1:=Array.size_push ..
 have ha:=heads Z.C.rf h3.sa ex
 unfold two3
 refine wpS_bind (yX ey ?_)
 by_cases c1:j+1=b.size
 ·rw [iP (by simpa using c1)]
  exact wpS_pure (hd _ (.inl ⟨_,_,rfl,T'.dnB (by omega)⟩))
 ·rw [iN (by simpa using c1)]
  refine wpS_bind (yX ex (wpS_bind (zXI Z.C hk Z.db (Z.da x (mem_of_getElem? ex)) (by omega) (by omega) (yFA T'.sb Z.C.rf) λk k1 k2 k3=>?_)))
  dsimp only
  by_cases ck:k>0
  ·rw [iP ck]
   have T2:=T'.cutB (k:=k) λm z hm hz x' hx'=>Z.C.tr z x x' (Z.C.as z x (k2 m z hm hz)) (ha x' hx')
   have hs2:(o.push y++b.extract (j+1) (j+1+k)).size>=o.size+1:=by rw [Array.size_append];omega
   by_cases c2:j+1+k=b.size
   ·rw [iP (by simpa using c2)]
    exact wpS_pure (hd _ (.inl ⟨_,_,rfl,T2.dnB (by omega)⟩))
   ·rw [iN (by simpa using c2)]
    refine yFB Z h1 (by omega) T2 (λx' hx' y' hy'=>?_) (by omega) hd hy
    rw [ex]at hx';cases hx'
    obtain⟨m,m1,m2⟩:=bO hy'
    rw [Array.length_toList]at m1
    exact k3 (k+m) y' (by omega) (by omega) (by rw [<-add_assoc];exact m2)
  ·rw [iN ck]
   refine yFB Z h1 (by omega) T' (λx' hx' y' hy'=>?_) (by omega) hd hy
   rw [ex]at hx';cases hx'
   obtain⟨m,m1,m2⟩:=bO hy'
   rw [Array.length_toList]at m1
   exact k3 m y' (by omega) (by omega) m2
theorem yFD(Z:Set2 M A E s kd D lt a b){st0 st:SortSt}(hg:Sg st0 st)(hk:kindOf st0=kd){o:V}{i j g p q:Nat}(h:I1 lt a b o i j){n:Nat}(hn:n<=o.size)
  {Q:ForInStep L7->SortSt->Prop} (hd: ∀c st,Sg st0 st->P7 lt a b n c->Q (.done c) st) (hy: ∀c st,Sg st0 st->N7 lt a b n c->Q (.yield c) st):
  wpS M A E s (two2 a b o i j g p q) Q st:=by
 obtain⟨h1,h2,h3⟩:=h
 obtain⟨y,ey⟩:=jA h2
 have hb:=heads Z.C.rf h3.sb ey
 unfold two2
 refine wpS_bind (zQW hg λst' hg'=>?_)
 have hk':kindOf st'=kd:=hg'.kind.trans hk
 refine wpS_bind (yX ey (wpS_bind (zXH Z.C hk' Z.da (Z.db y (mem_of_getElem? ey)) (by omega) (by omega) (yFA h3.sa Z.C.rf) λk k1 k2 k3=>?_)))
 dsimp only
 by_cases ck:k>0
 ·rw [iP ck]
  have T2:=h3.cutA (k:=k) λm z hm hz y' hy'=>Z.C.tr z y y' (k2 m z hm hz) (hb y' hy')
  have hs2:(o++a.extract i (i+k)).size>=o.size:=by rw [Array.size_append];omega
  by_cases c1:i+k+1=a.size
  ·rw [iP (by simpa using c1)]
   exact wpS_pure (hd _ _ hg' (.inl ⟨_,_,rfl,T2.la c1 Z.lst⟩))
  ·rw [iN (by simpa using c1)]
   by_cases c2:i+k=a.size
   ·rw [iP (by simpa using c2)]
    exact wpS_pure (hd _ _ hg' (.inl ⟨_,_,rfl,T2.dnA (by omega)⟩))
   ·rw [iN (by simpa using c2)]
    refine yFC Z hk' (by omega) h2 T2 (λy' hy' x' hx'=>?_) (by omega) (λc hc=>hd c _ hg' hc) (λc hc=>hy c _ hg' hc)
    rw [ey]at hy';cases hy'
    obtain⟨m,m1,m2⟩:=bO hx'
    rw [Array.length_toList]at m1
    exact Z.C.as _ _ (k3 (k+m) x' (by omega) (by omega) (by rw [<-add_assoc];exact m2))
 ·rw [iN ck]
  refine yFC Z hk' h1 h2 h3 (λy' hy' x' hx'=>?_) hn (λc hc=>hd c _ hg' hc) (λc hc=>hy c _ hg' hc)
  rw [ey]at hy';cases hy'
  obtain⟨m,m1,m2⟩:=bO hx'
  rw [Array.length_toList]at m1
  exact Z.C.as _ _ (k3 m x' (by omega) (by omega) m2)
theorem ySS(Z:Set2 M A E s kd D lt a b){st0 st:SortSt}(hg:Sg st0 st)(hk:kindOf st0=kd){o:V}{i j g p q t:Nat}(h:I1 lt a b o i j){n:Nat}(hn:n<=o.size)
  {Q:L7->SortSt->Prop} (hq: ∀c st,Sg st0 st->P7 lt a b n c->Q c st):wpS M A E s (in2 a b t (none,o,i,j,g,p,q)) Q st:=by
 unfold in2
 refine wpS_forRange (I:=λx c st'=>Sg st0 st'/\N7 lt a b n c) ?_ ?_ ⟨hg,o,i,j,g,p,q,rfl,h,hn⟩
 ·rintro x c st' _ _ ⟨hg',o',i',j',g',p',q',rfl,h',hn'⟩
  dsimp only
  split
  ·exact yFD Z hg' hk h' hn' (λc st hs hc=>hq c st hs hc) (λc st hs hc=>⟨hs,hc⟩)
  ·exact yFD Z hg' hk h' hn' (λc st hs hc=>hq c st hs hc) (λc st hs hc=>⟨hs,hc⟩)
 ·rintro c st' ⟨hg',hN⟩
  exact hq c st' hg' (.inr hN)
theorem yST(Z:Set2 M A E s kd D lt a b){st:SortSt}(hk:kindOf st=kd)(sa:a.toList.Pairwise (Le lt))(sb:b.toList.Pairwise (Le lt))(na:1<=a.size)(nb:1<=b.size)
  (h0: ∀x y,a.toList[0]? =some x->b.toList[0]? =some y->Le lt y x)
  {Q:V->SortSt->Prop} (hq: ∀r st',Sg st st'->FinA lt a b r->Q r st'):wpS M A E s (zSK a b) Q st:=by
 rw [yAB]
 unfold mLo
 refine wpS_bind (zGE ?_)
 obtain⟨y,ey⟩:=jA (v:=b) (i:=0) (by omega)
 obtain⟨x,ex⟩:=jA (v:=a) (i:=0) (by omega)
 have T0:TwoA lt a b #[] 0 0:=⟨by simpa using sa,by simpa using sb,by simp⟩
 have hax:=heads Z.C.rf T0.sa ex
 have T1:TwoA lt a b #[y] 0 1:=T0.pushB ey λz hz=>Z.C.tr y x z (h0 x y ex ey) (hax z hz)
 refine wpS_bind (yX ey ?_)
 by_cases c1:1=b.size
 ·rw [iP (by simpa using c1)]
  exact wpS_pure (hq _ _ (Sg.refl st) (T1.dnB (by omega)))
 ·rw [iN (by simpa using c1)]
  by_cases c2:0+1=a.size
  ·rw [iP (by simpa using c2)]
   exact wpS_pure (hq _ _ (Sg.refl st) (T1.la c2 Z.lst))
  ·rw [iN (by simpa using c2)]
   refine wpS_bind (wpS_get ?_)
   refine wpS_bind (wpS_mono (m:=outL a b (a.size+b.size) (none,#[y],0,1,gallopOf st)) (Q:=λc st'=>Sg st st'/\ ∃r e,c=(some r,e)/\FinA lt a b r) ?_ ?_)
   ·unfold outL
    refine wpS_forRange (I:=λx c st'=>Sg st st'/\ ∃o i j g,c=(none,o,i,j,g)/\I1 lt a b o i j/\x+1<=o.size) ?_ ?_ ⟨Sg.refl st,_,_,_,_,rfl,⟨by omega,by omega,T1⟩,by simp⟩
    ·rintro n c st' _ _ ⟨hg,o,i,j,g,rfl,hI,hn⟩
     dsimp only
     refine wpS_bind (ySR Z (hg.kind.trans hk) (by omega) hI λd hd=>?_)
     rcases hd with⟨r,e,rfl,hF⟩|⟨o',i',j',p',q',rfl,hI',hn'⟩
     ·exact wpS_pure ⟨hg,r,_,rfl,hF⟩
     ·dsimp only
      refine wpS_bind (zGE ?_)
      refine wpS_bind (ySS Z hg hk hI' hn' λe st2 hg2 he=>?_)
      rcases he with⟨r,e,rfl,hF⟩|⟨o2,i2,j2,g2,p2,q2,rfl,hI2,hn2⟩
      ·exact wpS_pure ⟨hg2,r,_,rfl,hF⟩
      ·dsimp only
       refine wpS_bind (zQW hg2 λst3 hg3=>?_)
       exact wpS_pure ⟨hg3,o2,i2,j2,_,rfl,hI2,by omega⟩
    ·rintro c st' ⟨hg,o,i,j,g,rfl,hI,hn⟩
     have:=hI.2.2.len
     omega
   ·rintro c st' ⟨hg,r,e,rfl,hF⟩
    exact wpS_pure (hq r st' hg hF)
end
end Srt
set_option autoImplicit false
namespace Srt
open PySem PyProof.Rows
abbrev H5:=Option V×Nat×Nat×V×Nat
abbrev H6:=Option V×Nat×Nat×V×Nat×Nat
abbrev H7:=Option V×Nat×Nat×V×Nat×Nat×Nat
abbrev dnH(a b o:V)(i j:Nat):V:=a.extract 0 i++b.extract 0 j++o.reverse
abbrev fbH(a b o:V)(i j:Nat):V:=b.extract 0 j++a.extract 0 i++o.reverse
noncomputable def hone(a b:V)(g:Nat)(c:H6):SM (ForInStep H6):=
 elem' b (c.2.2.1 - 1) >>= λy=>elem' a (c.2.1 - 1) >>= λx=>lt' y x >>= λr=>match r with
  |some q=>if q=true then elem' a (c.2.1 - 1) >>= λx=>
     if(c.2.1 - 1==0)=true then pure (.done (some (dnH a b (c.2.2.2.1.push x) (c.2.1 - 1) c.2.2.1),c.2.1 - 1,c.2.2.1,c.2.2.2.1.push x,c.2.2.2.2.1+1,0))
     else if c.2.2.2.2.1+1>=g then pure (.done (none,c.2.1 - 1,c.2.2.1,c.2.2.2.1.push x,c.2.2.2.2.1+1,0))
     else pure (.yield (none,c.2.1 - 1,c.2.2.1,c.2.2.2.1.push x,c.2.2.2.2.1+1,0))
    else elem' b (c.2.2.1 - 1) >>= λy=>
     if(c.2.2.1 - 1==1)=true then pure (.done (some (fbH a b (c.2.2.2.1.push y) c.2.1 (c.2.2.1 - 1)),c.2.1,c.2.2.1 - 1,c.2.2.2.1.push y,0,c.2.2.2.2.2+1))
     else if c.2.2.2.2.2+1>=g then pure (.done (none,c.2.1,c.2.2.1 - 1,c.2.2.2.1.push y,0,c.2.2.2.2.2+1))
     else pure (.yield (none,c.2.1,c.2.2.1 - 1,c.2.2.2.1.push y,0,c.2.2.2.2.2+1))
  |_=>pure (.done (some (dnH a b c.2.2.2.1 c.2.1 c.2.2.1),c.2.1,c.2.2.1,c.2.2.2.1,c.2.2.2.2.1,c.2.2.2.2.2))
noncomputable def hin1(a b:V)(t g:Nat)(c:H6):SM H6:=forIn [0:t] c λ_ c=>hone a b g c
noncomputable def hw4(a b o:V)(i j g p q:Nat):SM (ForInStep H7):=
 elem' a (i - 1) >>= λx=>if(i - 1==0)=true then pure (.done (some (dnH a b (o.push x) (i - 1) j),i - 1,j,o.push x,g,p,q))
  else if(decide (p<7)&&decide (q<7))=true then pure (.done (none,i - 1,j,o.push x,g,p,q))else pure (.yield (none,i - 1,j,o.push x,g,p,q))
noncomputable def hw3(a b o:V)(i j g p q:Nat):SM (ForInStep H7):=
 elem' b (j - 1) >>= λy=>if(j - 1==1)=true then pure (.done (some (fbH a b (o.push y) i (j - 1)),i,j - 1,o.push y,g,p,q))
  else elem' a (i - 1) >>= λx=>zBS true x b 0 (j - 1) (j - 1 - 1) >>= λr=>match r with
   |some k=>if j - 1 - k>0 then
      if(k==1)=true then pure (.done (some (fbH a b (o.push y++(b.extract k (j - 1)).reverse) i k),i,k,o.push y++(b.extract k (j - 1)).reverse,g,p,j - 1 - k))
      else if(k==0)=true then pure (.done (some (dnH a b (o.push y++(b.extract k (j - 1)).reverse) i k),i,k,o.push y++(b.extract k (j - 1)).reverse,g,p,j - 1 - k))
      else hw4 a b (o.push y++(b.extract k (j - 1)).reverse) i k g p (j - 1 - k)
     else hw4 a b (o.push y) i (j - 1) g p (j - 1 - k)
   |_=>pure (.done (some (dnH a b (o.push y) i (j - 1)),i,j - 1,o.push y,g,p,q))
noncomputable def hw2(a b o:V)(i j g p q:Nat):SM (ForInStep H7):=
 kR g >>= λ_=>elem' b (j - 1) >>= λy=>zBS false y a 0 i (i - 1) >>= λr=>match r with
  |some k=>if i - k>0 then
     if(k==0)=true then pure (.done (some (dnH a b (o++(a.extract k i).reverse) k j),k,j,o++(a.extract k i).reverse,g,i - k,q))
     else hw3 a b (o++(a.extract k i).reverse) k j g (i - k) q
    else hw3 a b o i j g (i - k) q
  |_=>pure (.done (some (dnH a b o i j),i,j,o,g,p,q))
noncomputable def hin2(a b:V)(t:Nat)(c:H7):SM H7:=forIn [0:t] c λ_ c=>
 if c.2.2.2.2.1>1 then hw2 a b c.2.2.2.1 c.2.1 c.2.2.1 (c.2.2.2.2.1 - 1) c.2.2.2.2.2.1 c.2.2.2.2.2.2
 else hw2 a b c.2.2.2.1 c.2.1 c.2.2.1 c.2.2.2.2.1 c.2.2.2.2.2.1 c.2.2.2.2.2.2
noncomputable def outH(a b:V)(t:Nat)(c:H5):SM H5:=forIn [0:t] c λ_ c=>
 hin1 a b t c.2.2.2.2 (none,c.2.1,c.2.2.1,c.2.2.2.1,0,0) >>= λd=>match d.1 with
  |some r=>pure (.done (some r,d.2.1,d.2.2.1,d.2.2.2.1,c.2.2.2.2))
  |none=>liftM (rule "list.sort.gallop") >>= λ_=>hin2 a b t (none,d.2.1,d.2.2.1,d.2.2.2.1,c.2.2.2.2+1,d.2.2.2.2.1,d.2.2.2.2.2) >>= λe=>match e.1 with
   |some r=>pure (.done (some r,e.2.1,e.2.2.1,e.2.2.2.1,e.2.2.2.2.1))
   |none=>kR (e.2.2.2.2.1+1) >>= λ_=>pure (.yield (none,e.2.1,e.2.2.1,e.2.2.2.1,e.2.2.2.2.1+1))
noncomputable def mHi(a b:V):SM V:=
 liftM (rule "list.sort.merge-hi") >>= λ_=>elem' a (a.size - 1) >>= λx=>if(a.size - 1==0)=true then pure (dnH a b #[x] (a.size - 1) b.size)
  else if(b.size==1)=true then pure (fbH a b #[x] (a.size - 1) b.size)
  else get >>= λst=>outH a b (a.size+b.size) (none,a.size - 1,b.size,#[x],gallopOf st) >>= λc=>match c.1 with
   |some r=>pure r
   |none=>liftM (unsupported "internal:list.sort.merge-bound")
theorem yAC(a b:V):zSL a b=mHi a b:=by kernel_rfl
theorem zXL(v:V)(i:Nat):(v.extract 0 i).toList=v.toList.take i:=by
 rw [Array.toList_extract,List.extract_eq_take_drop];rfl
theorem ySU(v:V)(t i:Nat):(v.extract t i).toList=(v.toList.take i).drop t:=by
 rw [Array.toList_extract,List.extract_eq_take_drop,List.drop_take]
theorem zSO{β:Type}{l:List β}{t i:Nat}{z:β}(h:z∈(l.take i).drop t): ∃n,t<=n/\n<i/\l[n]? =some z:=by
 obtain⟨j,h1,h2⟩:=bO h
 rw [lT]at h1
 rw [getElem?_take_of_lt (by omega)]at h2
 exact⟨t+j,by omega,by omega,h2⟩
theorem zQX{β:Type}{l:List β}{i:Nat}{x:β}(h:l[i]? =some x):l.take (i+1)=l.take i++[x]:=by
 obtain⟨hi,e⟩:=gS0.mp h
 rw [<-e];exact(List.take_append_getElem hi).symm
theorem yFE{β:Type}{le:β->β->Prop}(rf: ∀x,le x x){l:List β}{i:Nat}{x:β}(h:(l.take (i+1)).Pairwise le)(e:l[i]? =some x): ∀z,z∈l.take (i+1)->le z x:=by
 rw [zQX e]at h ⊢
 intro z hz
 rcases mem_append.mp hz with q|q
 ·exact(pairwise_append.mp h).2.2 z q x (mS.mpr rfl)
 ·rw [mS.mp q];exact rf x
section
variable{M:Model}{A:Around}{E:VP}{s:Shared}{kd:SortKind}{D:Keyed->Prop}{lt:Keyed->Keyed->Bool}{a b:V}
theorem yFF{l:List Keyed}{n:Nat}(h:(l.take n).Pairwise (Le lt))(rf: ∀x,Le lt x x):SL lt l 0 n:=by
 intro p q x y h1 h2 hx hy
 rw [zero_add]at hx hy
 by_cases e:p=q
 ·subst e;rw [hx]at hy;cases hy;exact rf x
 ·obtain⟨b1,e1⟩:=gS0.mp hx
  obtain⟨b2,e2⟩:=gS0.mp hy
  have:=List.pairwise_iff_getElem.mp h p q (by rw [lT];omega) (by rw [lT];omega) (by omega)
  rw [getElem_take,getElem_take,e1,e2]at this
  exact this
abbrev TwoH(lt:Keyed->Keyed->Bool)(a b o:V)(i j:Nat):Prop:=TwoR (Le lt) (a.toList++b.toList) (a.toList.take i) (b.toList.take j) o.toList.reverse
theorem TwoH.sa{o:V}{i j:Nat}(h:TwoH lt a b o i j):(a.toList.take i).Pairwise (Le lt):=(pairwise_append.mp h.hx).1
theorem TwoH.sb{o:V}{i j:Nat}(h:TwoH lt a b o i j):(b.toList.take j).Pairwise (Le lt):=(pairwise_append.mp h.hy).1
theorem TwoH.pushA{o:V}{i j:Nat}{x:Keyed}(h:TwoH lt a b o (i+1) j)(e:a.toList[i]? =some x)(hl: ∀y,y∈b.toList.take j->Le lt y x):TwoH lt a b (o.push x) i j:=by
 have h':TwoR (Le lt) (a.toList++b.toList) (a.toList.take i++[x]) (b.toList.take j) o.toList.reverse:=by rw [<-zQX e];exact h
 have:=h'.movexs λy hy z hz=>by rw [mS.mp hz];exact hl y hy
 show TwoR _ _ _ _ (o.push x).toList.reverse
 rw [Array.toList_push,List.reverse_append];exact this
theorem TwoH.pushB{o:V}{i j:Nat}{y:Keyed}(h:TwoH lt a b o i (j+1))(e:b.toList[j]? =some y)(hl: ∀x,x∈a.toList.take i->Le lt x y):TwoH lt a b (o.push y) i j:=by
 have h':TwoR (Le lt) (a.toList++b.toList) (a.toList.take i) (b.toList.take j++[y]) o.toList.reverse:=by rw [<-zQX e];exact h
 have:=h'.moveys λx hx z hz=>by rw [mS.mp hz];exact hl x hx
 show TwoR _ _ _ _ (o.push y).toList.reverse
 rw [Array.toList_push,List.reverse_append];exact this
theorem yFG(o v:V)(t i:Nat):(o++(v.extract t i).reverse).toList.reverse=(v.toList.take i).drop t++o.toList.reverse:=by
 rw [Array.toList_append,List.reverse_append,Array.toList_reverse,List.reverse_reverse,ySU]
theorem TwoH.cutA{o:V}{i j t:Nat}(ht:t<=i)(h:TwoH lt a b o i j)(hl: ∀n z,t<=n->n<i->a.toList[n]? =some z-> ∀y,y∈b.toList.take j->Le lt y z):TwoH lt a b (o++(a.extract t i).reverse) t j:=by
 have h':TwoR (Le lt) (a.toList++b.toList) (a.toList.take t++(a.toList.take i).drop t) (b.toList.take j) o.toList.reverse:=by rw [<-yAA _ t i ht];exact h
 have:=h'.movexs λy hy z hz=>by obtain⟨n,h1,h2,h3⟩:=zSO hz;exact hl n z h1 h2 h3 y hy
 show TwoR _ _ _ _ (o++(a.extract t i).reverse).toList.reverse
 rw [yFG];exact this
theorem TwoH.cutB{o:V}{i j t:Nat}(ht:t<=j)(h:TwoH lt a b o i j)(hl: ∀n z,t<=n->n<j->b.toList[n]? =some z-> ∀x,x∈a.toList.take i->Le lt x z):TwoH lt a b (o++(b.extract t j).reverse) i t:=by
 have h':TwoR (Le lt) (a.toList++b.toList) (a.toList.take i) (b.toList.take t++(b.toList.take j).drop t) o.toList.reverse:=by rw [<-yAA _ t j ht];exact h
 have:=h'.moveys λx hx z hz=>by obtain⟨n,h1,h2,h3⟩:=zSO hz;exact hl n z h1 h2 h3 x hx
 show TwoR _ _ _ _ (o++(b.extract t j).reverse).toList.reverse
 rw [yFG];exact this
theorem TwoH.dn{o:V}{i j:Nat}(h:TwoH lt a b o i j)(hz:i=0\/j=0):FinA lt a b (dnH a b o i j):=by
 have e:(dnH a b o i j).toList=a.toList.take i++b.toList.take j++o.toList.reverse:=by rw [Array.toList_append,Array.toList_append,zXL,zXL,Array.toList_reverse]
 unfold FinA;rw [e]
 refine h.fin λx hx y hy=>?_
 rcases hz with rfl|rfl
 ·cases hx
 ·cases hy
theorem TwoH.fb{o:V}{i:Nat}(h:TwoH lt a b o i 1)(hz: ∀x y,x∈a.toList->b.toList[0]? =some y->Le lt y x):FinA lt a b (fbH a b o i 1):=by
 have e:(fbH a b o i 1).toList=b.toList.take 1++a.toList.take i++o.toList.reverse:=by rw [Array.toList_append,Array.toList_append,zXL,zXL,Array.toList_reverse]
 unfold FinA;rw [e]
 refine h.swap.fin λy hy x hx=>?_
 obtain⟨n,h1,h2,h3⟩:=zJD hy
 exact hz x y (mem_of_mem_take hx) (by rw [show 0=n by omega];exact h3)
theorem TwoH.len{o:V}{i j:Nat}(h:TwoH lt a b o i j)(h1:i<=a.size)(h2:j<=b.size):o.size+(i+j)=a.size+b.size:=by
 have:=h.pm.length_eq
 simp only [lA,lT,List.length_reverse,Array.length_toList]at this
 omega
def J1(lt:Keyed->Keyed->Bool)(a b o:V)(i j:Nat):Prop:=1<=i/\i<=a.size/\2<=j/\j<=b.size/\TwoH lt a b o i j
structure Set3(M:Model)(A:Around)(E:VP)(s:Shared)(kd:SortKind)(D:Keyed->Prop)(lt:Keyed->Keyed->Bool)(a b:V):Prop extends Set2 M A E s kd D lt a b where
 fst: ∀x y,x∈a.toList->b.toList[0]? =some y->Le lt y x
def R6(lt:Keyed->Keyed->Bool)(a b:V)(n:Nat)(c:H6):Prop:= ∃i j o p q,c=(none,i,j,o,p,q)/\J1 lt a b o i j/\n<=o.size
def S6(lt:Keyed->Keyed->Bool)(a b:V)(n:Nat)(c:H6):Prop:=(∃r e,c=(some r,e)/\FinA lt a b r)\/R6 lt a b n c
def R7(lt:Keyed->Keyed->Bool)(a b:V)(n:Nat)(c:H7):Prop:= ∃i j o g p q,c=(none,i,j,o,g,p,q)/\J1 lt a b o i j/\n<=o.size
def S7(lt:Keyed->Keyed->Bool)(a b:V)(n:Nat)(c:H7):Prop:=(∃r e,c=(some r,e)/\FinA lt a b r)\/R7 lt a b n c
theorem R6.mono{n m:Nat}{c:H6}(h:R6 lt a b n c)(e:m<=n):R6 lt a b m c:=by
 obtain⟨o,i,j,p,q,h1,h2,h3⟩:=h;exact⟨o,i,j,p,q,h1,h2,by omega⟩
theorem S6.mono{n m:Nat}{c:H6}(h:S6 lt a b n c)(e:m<=n):S6 lt a b m c:=h.imp id λh=>h.mono e
theorem yOJ(Z:Set3 M A E s kd D lt a b){st:SortSt}(hk:kindOf st=kd){o:V}{i j p q g:Nat}(h:J1 lt a b o i j){Q:ForInStep H6->SortSt->Prop}
  (hd: ∀c,S6 lt a b (o.size+1) c->Q (.done c) st) (hy: ∀c,R6 lt a b (o.size+1) c->Q (.yield c) st):wpS M A E s (hone a b g (none,i,j,o,p,q)) Q st:=by
 obtain⟨h1,h2,h3,h4,h5⟩:=h
 obtain⟨i,rfl⟩: ∃k,i=k+1:=⟨i - 1,by omega⟩
 obtain⟨j,rfl⟩: ∃k,j=k+1:=⟨j - 1,by omega⟩
 obtain⟨y,ey⟩:=jA (v:=b) (i:=j) (by omega)
 obtain⟨x,ex⟩:=jA (v:=a) (i:=i) (by omega)
 have hb:=yFE Z.C.rf h5.sb ey
 have ha:=yFE Z.C.rf h5.sa ex
 unfold hone
 simp only [add_sub_cancel]
 refine wpS_bind (yX ey (wpS_bind (yX ex (wpS_bind (Z.C.go y x (Z.db y (mem_of_getElem? ey)) (Z.da x (mem_of_getElem? ex)) st hk _ ?_)))))
 cases hlt:lt y x with
 |true=>
  have T':=h5.pushA ex λz hz=>Z.C.tr z y x (hb z hz) (Z.C.as y x hlt)
  have hs:(o.push x).size=o.size+1:=Array.size_push ..
  refine wpS_bind (yX ex ?_)
  by_cases c1:i=0
  ·rw [iP (by simpa using c1)]
   exact wpS_pure (hd _ (.inl ⟨_,_,rfl,T'.dn (.inl c1)⟩))
  ·rw [iN (by simpa using c1)]
   have I':J1 lt a b (o.push x) i (j+1):=⟨by omega,by omega,h3,h4,T'⟩
   split
   ·exact wpS_pure (hd _ (.inr ⟨_,_,_,_,_,rfl,I',by omega⟩))
   ·exact wpS_pure (hy _ ⟨_,_,_,_,_,rfl,I',by omega⟩)
 |false=>
  have T':=h5.pushB ey λz hz=>Z.C.tr z x y (ha z hz) hlt
  have hs:(o.push y).size=o.size+1:=Array.size_push ..
  refine wpS_bind (yX ey ?_)
  by_cases c1:j=1
  ·rw [iP (by simpa using c1)]
   subst c1
   exact wpS_pure (hd _ (.inl ⟨_,_,rfl,T'.fb Z.fst⟩))
  ·rw [iN (by simpa using c1)]
   have I':J1 lt a b (o.push y) (i+1) j:=⟨h1,h2,by omega,by omega,T'⟩
   split
   ·exact wpS_pure (hd _ (.inr ⟨_,_,_,_,_,rfl,I',by omega⟩))
   ·exact wpS_pure (hy _ ⟨_,_,_,_,_,rfl,I',by omega⟩)
theorem yOK(Z:Set3 M A E s kd D lt a b){st:SortSt}(hk:kindOf st=kd){o:V}{i j g t:Nat}(ht:1<=t)(h:J1 lt a b o i j){Q:H6->SortSt->Prop}
  (hq: ∀c,S6 lt a b (o.size+1) c->Q c st):wpS M A E s (hin1 a b t g (none,i,j,o,0,0)) Q st:=by
 unfold hin1
 refine wpS_forRange (I:=λx c st'=>st'=st/\R6 lt a b (o.size+x) c) ?_ ?_ ⟨rfl,i,j,o,0,0,rfl,h,by omega⟩
 ·rintro x c st' _ _ ⟨rfl,i',j',o',p',q',rfl,h',hn⟩
  refine yOJ Z hk h' (λc hc=>hq c (hc.mono (by omega))) (λc hc=>⟨rfl,hc.mono (by omega)⟩)
 ·rintro c st' ⟨rfl,hN⟩
  exact hq c (.inr (hN.mono (by omega)))
theorem yKN(Z:Set3 M A E s kd D lt a b){st:SortSt}{o:V}{i j g p q:Nat}(h1:i+1<=a.size)(h2:2<=j)(h2':j<=b.size)(h3:TwoH lt a b o (i+1) j)
  (hl: ∀x,a.toList[i]? =some x-> ∀y,y∈b.toList.take j->Le lt y x) {n:Nat} (hn:n<=o.size) {Q:ForInStep H7->SortSt->Prop}
  (hd: ∀c,S7 lt a b n c->Q (.done c) st) (hy: ∀c,R7 lt a b n c->Q (.yield c) st):wpS M A E s (hw4 a b o (i+1) j g p q) Q st:=by
 obtain⟨x,ex⟩:=jA (v:=a) (i:=i) (by omega)
 have T':=h3.pushA ex (hl x ex)
 have hs:(o.push x).size=o.size+1:=Array.size_push ..
 unfold hw4
 simp only [add_sub_cancel]
 refine wpS_bind (yX ex ?_)
 by_cases c1:i=0
 ·rw [iP (by simpa using c1)]
  exact wpS_pure (hd _ (.inl ⟨_,_,rfl,T'.dn (.inl c1)⟩))
 ·rw [iN (by simpa using c1)]
  have I':J1 lt a b (o.push x) i j:=⟨by omega,by omega,h2,h2',T'⟩
  split
  ·exact wpS_pure (hd _ (.inr ⟨_,_,_,_,_,_,rfl,I',by omega⟩))
  ·exact wpS_pure (hy _ ⟨_,_,_,_,_,_,rfl,I',by omega⟩)
theorem yKO(Z:Set3 M A E s kd D lt a b){st:SortSt}(hk:kindOf st=kd){o:V}{i j g p q:Nat}(h1:i+1<=a.size)(h2:1<=j)(h2':j+1<=b.size)(h3:TwoH lt a b o (i+1) (j+1))
  (hl: ∀y,b.toList[j]? =some y-> ∀x,x∈a.toList.take (i+1)->Le lt x y) {n:Nat} (hn:n<=o.size) {Q:ForInStep H7->SortSt->Prop}
  (hd: ∀c,S7 lt a b n c->Q (.done c) st) (hy: ∀c,R7 lt a b n c->Q (.yield c) st):wpS M A E s (hw3 a b o (i+1) (j+1) g p q) Q st:=by
 obtain⟨y,ey⟩:=jA (v:=b) (i:=j) (by omega)
 obtain⟨x,ex⟩:=jA (v:=a) (i:=i) (by omega)
 have T':=h3.pushB ey (hl y ey)
 have hs:(o.push y).size=o.size+1:=Array.size_push ..
 have ha:=yFE Z.C.rf h3.sa ex
 unfold hw3
 simp only [add_sub_cancel]
 refine wpS_bind (yX ey ?_)
 by_cases c1:j=1
 ·rw [iP (by simpa using c1)]
  subst c1
  exact wpS_pure (hd _ (.inl ⟨_,_,rfl,T'.fb Z.fst⟩))
 ·rw [iN (by simpa using c1)]
  refine wpS_bind (yX ex (wpS_bind (zXI Z.C hk Z.db (Z.da x (mem_of_getElem? ex)) (by omega) (by omega) (yFF T'.sb Z.C.rf) λk k1 k2 k3=>?_)))
  dsimp only
  have hle: ∀y',y'∈b.toList.take k->Le lt y' x:=by
   intro y' hy'
   obtain⟨m,m1,m2,m3⟩:=zJD hy'
   exact Z.C.as _ _ (k2 m y' m1 (by rw [zero_add];exact m3))
  by_cases ck:j - k>0
  ·rw [iP ck]
   have T2:=T'.cutB k1 λm z hm1 hm2 hz x' hx'=>Z.C.tr x' x z (ha x' hx') (k3 m z hm1 hm2 (by rw [zero_add];exact hz))
   have hs2:(o.push y++(b.extract k j).reverse).size>=o.size+1:=by rw [Array.size_append];omega
   by_cases c2:k=1
   ·rw [iP (by simpa using c2)]
    subst c2
    exact wpS_pure (hd _ (.inl ⟨_,_,rfl,T2.fb Z.fst⟩))
   ·rw [iN (by simpa using c2)]
    by_cases c3:k=0
    ·rw [iP (by simpa using c3)]
     exact wpS_pure (hd _ (.inl ⟨_,_,rfl,T2.dn (.inr c3)⟩))
    ·rw [iN (by simpa using c3)]
     refine yKN Z h1 (by omega) (by omega) T2 (λx' hx' y' hy'=>?_) (by omega) hd hy
     rw [ex]at hx';cases hx'
     exact hle y' hy'
  ·rw [iN ck]
   have hkj:k=j:=by omega
   subst hkj
   refine yKN Z h1 (by omega) (by omega) T' (λx' hx' y' hy'=>?_) (by omega) hd hy
   rw [ex]at hx';cases hx'
   exact hle y' hy'
theorem yKP(Z:Set3 M A E s kd D lt a b){st0 st:SortSt}(hg:Sg st0 st)(hk:kindOf st0=kd){o:V}{i j g p q:Nat}(h:J1 lt a b o i j){n:Nat}(hn:n<=o.size)
  {Q:ForInStep H7->SortSt->Prop} (hd: ∀c st,Sg st0 st->S7 lt a b n c->Q (.done c) st) (hy: ∀c st,Sg st0 st->R7 lt a b n c->Q (.yield c) st):
  wpS M A E s (hw2 a b o i j g p q) Q st:=by
 obtain⟨h1,h2,h3,h4,h5⟩:=h
 obtain⟨j,rfl⟩: ∃k,j=k+1:=⟨j - 1,by omega⟩
 obtain⟨y,ey⟩:=jA (v:=b) (i:=j) (by omega)
 have hb:=yFE Z.C.rf h5.sb ey
 unfold hw2
 simp only [add_sub_cancel]
 refine wpS_bind (zQW hg λst' hg'=>?_)
 have hk':kindOf st'=kd:=hg'.kind.trans hk
 refine wpS_bind (yX ey (wpS_bind (zXH Z.C hk' Z.da (Z.db y (mem_of_getElem? ey)) (by omega) (by omega) (yFF h5.sa Z.C.rf) λk k1 k2 k3=>?_)))
 dsimp only
 have hle: ∀x',x'∈a.toList.take k->Le lt x' y:=by
  intro x' hx'
  obtain⟨m,m1,m2,m3⟩:=zJD hx'
  exact k2 m x' m1 (by rw [zero_add];exact m3)
 by_cases ck:i - k>0
 ·rw [iP ck]
  have T2:=h5.cutA k1 λm z hm1 hm2 hz y' hy'=>Z.C.tr y' y z (hb y' hy') (Z.C.as _ _ (k3 m z hm1 hm2 (by rw [zero_add];exact hz)))
  have hs2:(o++(a.extract k i).reverse).size>=o.size:=by rw [Array.size_append];omega
  by_cases c1:k=0
  ·rw [iP (by simpa using c1)]
   exact wpS_pure (hd _ _ hg' (.inl ⟨_,_,rfl,T2.dn (.inl c1)⟩))
  ·rw [iN (by simpa using c1)]
   obtain⟨k,rfl⟩: ∃m,k=m+1:=⟨k - 1,by omega⟩
   refine yKO Z hk' (by omega) (by omega) (by omega) T2 (λy' hy' x' hx'=>?_) (by omega) (λc hc=>hd c _ hg' hc) (λc hc=>hy c _ hg' hc)
   rw [ey]at hy';cases hy'
   exact hle x' hx'
 ·rw [iN ck]
  have hki:k=i:=by omega
  subst hki
  obtain⟨k,rfl⟩: ∃m,k=m+1:=⟨k - 1,by omega⟩
  refine yKO Z hk' (by omega) (by omega) (by omega) h5 (λy' hy' x' hx'=>?_) hn (λc hc=>hd c _ hg' hc) (λc hc=>hy c _ hg' hc)
  rw [ey]at hy';cases hy'
  exact hle x' hx'
theorem yOL(Z:Set3 M A E s kd D lt a b){st0 st:SortSt}(hg:Sg st0 st)(hk:kindOf st0=kd){o:V}{i j g p q t:Nat}(h:J1 lt a b o i j){n:Nat}(hn:n<=o.size)
  {Q:H7->SortSt->Prop} (hq: ∀c st,Sg st0 st->S7 lt a b n c->Q c st):wpS M A E s (hin2 a b t (none,i,j,o,g,p,q)) Q st:=by
 unfold hin2
 refine wpS_forRange (I:=λx c st'=>Sg st0 st'/\R7 lt a b n c) ?_ ?_ ⟨hg,i,j,o,g,p,q,rfl,h,hn⟩
 ·rintro x c st' _ _ ⟨hg',i',j',o',g',p',q',rfl,h',hn'⟩
  dsimp only
  split
  ·exact yKP Z hg' hk h' hn' (λc st hs hc=>hq c st hs hc) (λc st hs hc=>⟨hs,hc⟩)
  ·exact yKP Z hg' hk h' hn' (λc st hs hc=>hq c st hs hc) (λc st hs hc=>⟨hs,hc⟩)
 ·rintro c st' ⟨hg',hN⟩
  exact hq c st' hg' (.inr hN)
theorem ySV(Z:Set3 M A E s kd D lt a b){st:SortSt}(hk:kindOf st=kd)(sa:a.toList.Pairwise (Le lt))(sb:b.toList.Pairwise (Le lt))(na:1<=a.size)(nb:1<=b.size)
  {Q:V->SortSt->Prop} (hq: ∀r st',Sg st st'->FinA lt a b r->Q r st'):wpS M A E s (zSL a b) Q st:=by
 rw [yAC]
 unfold mHi
 refine wpS_bind (zGE ?_)
 obtain⟨x,ex⟩:=jA (v:=a) (i:=a.size - 1) (by omega)
 have T0:TwoH lt a b #[] (a.size - 1+1) b.size:=by
  rw [Nat.sub_add_cancel na]
  refine⟨?_,?_,?_⟩
  ·rw [take_of_length_le (by simp)];simpa using sa
  ·rw [take_of_length_le (by simp)];simpa using sb
  ·rw [take_of_length_le (by simp),take_of_length_le (by simp)];simp
 have T1:TwoH lt a b #[x] (a.size - 1) b.size:=T0.pushA ex λy hy=>Z.lst x y ex (mem_of_mem_take hy)
 refine wpS_bind (yX ex ?_)
 by_cases c1:a.size - 1=0
 ·rw [iP (by simpa using c1)]
  exact wpS_pure (hq _ _ (Sg.refl st) (T1.dn (.inl c1)))
 ·rw [iN (by simpa using c1)]
  by_cases c2:b.size=1
  ·rw [iP (by simpa using c2)]
   rw [c2]at T1 ⊢
   exact wpS_pure (hq _ _ (Sg.refl st) (T1.fb Z.fst))
  ·rw [iN (by simpa using c2)]
   refine wpS_bind (wpS_get ?_)
   refine wpS_bind (wpS_mono (m:=outH a b (a.size+b.size) (none,a.size - 1,b.size,#[x],gallopOf st)) (Q:=λc st'=>Sg st st'/\ ∃r e,c=(some r,e)/\FinA lt a b r) ?_ ?_)
   ·unfold outH
    refine wpS_forRange (I:=λx c st'=>Sg st st'/\ ∃i j o g,c=(none,i,j,o,g)/\J1 lt a b o i j/\x+1<=o.size) ?_ ?_ ⟨Sg.refl st,_,_,_,_,rfl,⟨by omega,by omega,by omega,by omega,T1⟩,by simp⟩
    ·rintro n c st' _ _ ⟨hg,i,j,o,g,rfl,hI,hn⟩
     dsimp only
     refine wpS_bind (yOK Z (hg.kind.trans hk) (by omega) hI λd hd=>?_)
     rcases hd with⟨r,e,rfl,hF⟩|⟨i',j',o',p',q',rfl,hI',hn'⟩
     ·exact wpS_pure ⟨hg,r,_,rfl,hF⟩
     ·dsimp only
      refine wpS_bind (zGE ?_)
      refine wpS_bind (yOL Z hg hk hI' hn' λe st2 hg2 he=>?_)
      rcases he with⟨r,e,rfl,hF⟩|⟨i2,j2,o2,g2,p2,q2,rfl,hI2,hn2⟩
      ·exact wpS_pure ⟨hg2,r,_,rfl,hF⟩
      ·dsimp only
       refine wpS_bind (zQW hg2 λst3 hg3=>?_)
       exact wpS_pure ⟨hg3,i2,j2,o2,_,rfl,hI2,by omega⟩
    ·rintro c st' ⟨hg,i,j,o,g,rfl,hI,hn⟩
     have:=hI.2.2.2.2.len hI.2.1 hI.2.2.2.1
     omega
   ·rintro c st' ⟨hg,r,e,rfl,hF⟩
    exact wpS_pure (hq r st' hg hF)
end
end Srt
set_option autoImplicit false
namespace Srt
open PySem PyProof.Rows
abbrev C2:=Option (Option Nat)×Nat
abbrev C3:=Option (Option Nat)×Nat×Nat
noncomputable def ascL(lo a n:Nat):SM C2:=forIn [a:n] ((none,a):C2) λ_ c=>ltAt' (lo+c.2) (lo+c.2 - 1) >>= λo=>match o with
 |some q=>if q=true then pure (.done (none,c.2))else pure (.yield (none,c.2+1))
 |_=>pure (.done (some none,c.2))
noncomputable def tl3(lo m n:Nat):SM (Option Nat):=reverseSlice' lo (lo+m) >>= λ_=>ascL lo m n >>= λc=>match c.1 with
 |some r=>pure r
 |none=>pure (some c.2)
noncomputable def dscL(lo a n:Nat):SM C3:=forIn [a:n] ((none,a,0):C3) λ_ c=>ltAt' (lo+c.2.1) (lo+c.2.1 - 1) >>= λo=>match o with
 |some q=>if q=true then
    if c.2.2>0 then reverseSlice' (lo+c.2.1 - (c.2.2+1)) (lo+c.2.1) >>= λ_=>pure (.yield (none,c.2.1+1,0))else pure (.yield (none,c.2.1+1,0))
   else ltAt' (lo+c.2.1 - 1) (lo+c.2.1) >>= λo=>match o with
    |some q=>if q=true then pure (.done (none,c.2.1,c.2.2))else pure (.yield (none,c.2.1+1,c.2.2+1))
    |_=>pure (.done (some none,c.2.1,c.2.2))
 |_=>pure (.done (some none,c.2.1,c.2.2))
noncomputable def dscP(lo m n:Nat):SM (Option Nat):=liftM (rule "list.sort.descending-run") >>= λ_=>dscL lo (m+1) n >>= λc=>match c.1 with
 |some r=>pure r
 |none=>if c.2.2>0 then reverseSlice' (lo+c.2.1 - (c.2.2+1)) (lo+c.2.1) >>= λ_=>tl3 lo c.2.1 n else tl3 lo c.2.1 n
noncomputable def cntR(lo n:Nat):SM (Option Nat):=ascL lo 1 n >>= λc=>match c.1 with
 |some r=>pure r
 |none=>if(c.2==n)=true then pure (some c.2)else if c.2>1 then ltAt' lo (lo+c.2 - 1) >>= λo=>(match o with
    |some q=>if q=true then pure (some c.2)else reverseSlice' lo (lo+c.2) >>= λ_=>dscP lo c.2 n
    |_=>pure none)
   else dscP lo c.2 n
theorem zUO(lo n:Nat):countRun' lo n=cntR lo n:=by kernel_rfl
noncomputable def binI(lo k:Nat):SM (Option Bool×Nat×Nat):=forIn [0:k] ((none,0,k):Option Bool×Nat×Nat) λ_ c=>
 if c.2.1>=c.2.2 then pure (.done (none,c.2.1,c.2.2))else ltAt' (lo+k) (lo+(c.2.1+c.2.2) / 2) >>= λo=>match o with
  |some q=>if q=true then pure (.yield (none,c.2.1,(c.2.1+c.2.2) / 2))else pure (.yield (none,(c.2.1+c.2.2) / 2+1,c.2.2))
  |_=>pure (.done (some false,c.2.1,c.2.2))
noncomputable def binS(lo n ok:Nat):SM Bool:=(forIn [max ok 1:n] ((none,()):Option Bool×Unit) λk _=>binI lo k >>= λc=>match c.1 with
  |some r=>pure (.done (some r,()))
  |none=>moveDown' (lo+k) (lo+c.2.1) >>= λ_=>pure (.yield (none,()))) >>= λc=>match c.1 with
 |some r=>pure r
 |none=>pure true
theorem zQM(lo n ok:Nat):binarySort' lo n ok=binS lo n ok:=by kernel_rfl
def Kx(d:Keyed)(v:V)(i:Nat):Keyed:=(v[i]?).getD d
theorem zJE{d:Keyed}{v u:V}{i j:Nat}(h:v[i]? =u[j]?):Kx d v i=Kx d u j:=by unfold Kx;rw [h]
theorem zPA{d:Keyed}{v:V}{i j:Nat}(hj:j<=v.size)(k:Nat):Kx d (mirror v i j ((j - i) / 2)) k=if i<=k/\k<j then Kx d v (i+j - 1 - k)else Kx d v k:=by
 have e:=getElem?_mirror_all (i:=i) hj k
 by_cases h1:i<=k/\k<j
 ·rw [iP h1]at e ⊢; exact zJE e
 ·rw [iN h1]at e ⊢; exact zJE e
theorem zVX{d:Keyed}{v:V}{src m:Nat}(hs:src<v.size)(hm:m<=src)(k:Nat):
  Kx d (bubble v src m) k=if k=src - m then Kx d v src else if src - m<k/\k<=src then Kx d v (k - 1)else Kx d v k:=by
 have e:=getElem?_bubble hs m hm k
 by_cases h1:k=src - m
 ·rw [iP h1]at e ⊢; exact zJE e
 ·rw [iN h1]at e ⊢
  by_cases h2:src - m<k/\k<=src
  ·rw [iP h2]at e ⊢; exact zJE e
  ·rw [iN h2]at e ⊢; exact zJE e
structure SB(a₀:V)(kd:SortKind)(pd:Array (Nat×Nat×Nat))(f:V)(lo:Nat)(st:SortSt):Prop where
 pm:(arrOf st).Perm a₀
 kind:kindOf st=kd
 fl:failedOf st=none
 pd:pendingOf st=pd
 fx: ∀i,i<lo->(arrOf st)[i]? =f[i]?
section
variable{M:Model}{A:Around}{E:VP}{s:Shared}{kd:SortKind}{D:Keyed->Prop}{lt:Keyed->Keyed->Bool}{a₀ f:V}{pd:Array (Nat×Nat×Nat)}{lo:Nat}{st:SortSt}{d:Keyed}
theorem SB.size(h:SB a₀ kd pd f lo st):(arrOf st).size=a₀.size:=h.pm.size_eq
theorem SB.rev(h:SB a₀ kd pd f lo st){i j:Nat}(hi:lo<=i)(hj:j<=a₀.size):SB a₀ kd pd f lo (setArr st (mirror (arrOf st) i j ((j - i) / 2))):=
 ⟨(mirror_perm _ _ _ _).trans h.pm,h.kind,h.fl,h.pd,λk hk=>by
  show(mirror (arrOf st) i j ((j - i) / 2))[k]? =_
  rw [getElem?_mirror_all (by rw [h.size];exact hj),iN (by omega)];exact h.fx k hk⟩
theorem SB.bub(h:SB a₀ kd pd f lo st){i m:Nat}(hi:lo+m<=i)(hj:i<a₀.size):SB a₀ kd pd f lo (setArr st (bubble (arrOf st) i m)):=
 ⟨(bubble_perm _ _ _).trans h.pm,h.kind,h.fl,h.pd,λk hk=>by
  show(bubble (arrOf st) i m)[k]? =_
  rw [getElem?_bubble (by rw [h.size];exact hj) _ (by omega),iN (by omega),iN (by omega)];exact h.fx k hk⟩
theorem zNQ(C:Cmp M A E s kd D lt)(h:SB a₀ kd pd f lo st)(hD: ∀x,x∈a₀.toList->D x){i j:Nat}(hi:i<a₀.size)(hj:j<a₀.size){Q:Option Bool->SortSt->Prop}
  (hq:Q (some (lt (Kx d (arrOf st) i) (Kx d (arrOf st) j))) st):wpS M A E s (ltAt' i j) Q st:=by
 obtain⟨x,ex⟩:=jA (v:=arrOf st) (i:=i) (by rw [h.size];exact hi)
 obtain⟨y,ey⟩:=jA (v:=arrOf st) (i:=j) (by rw [h.size];exact hj)
 have mx:x∈a₀.toList:=(Array.perm_iff_toList_perm.mp h.pm).mem_iff.mp (mem_of_getElem? ex)
 have my:y∈a₀.toList:=(Array.perm_iff_toList_perm.mp h.pm).mem_iff.mp (mem_of_getElem? ey)
 have e1:Kx d (arrOf st) i=x:=by unfold Kx;rw [<-Array.getElem?_toList,ex];rfl
 have e2:Kx d (arrOf st) j=y:=by unfold Kx;rw [<-Array.getElem?_toList,ey];rfl
 rw [e1,e2]at hq
 rw [ltAt'_eq]
 refine wpS_bind (wpS_get ?_)
 exact wpS_bind (yX ex (wpS_bind (yX ey (C.go x y (hD x mx) (hD y my) st h.kind _ hq))))
theorem zXM{i j:Nat}{Q:Unit->SortSt->Prop}(h:Q () (setArr st (mirror (arrOf st) i j ((j - i) / 2)))):wpS M A E s (reverseSlice' i j) Q st:=by
 rw [reverseSlice'_eq];exact wpS_modify h
def Up(lt:Keyed->Keyed->Bool)(d:Keyed)(v:V)(lo n:Nat):Prop:= ∀i j,i<=j->j<n->Le lt (Kx d v (lo+i)) (Kx d v (lo+j))
def Dn(lt:Keyed->Keyed->Bool)(d:Keyed)(v:V)(lo n:Nat):Prop:= ∀i j,i<=j->j<n->Le lt (Kx d v (lo+j)) (Kx d v (lo+i))
theorem Up.step(C:Cmp M A E s kd D lt){v:V}{x:Nat}(hs:Up lt d v lo x)(hx:1<=x)(hl:lt (Kx d v (lo+x)) (Kx d v (lo+x - 1))=false):Up lt d v lo (x+1):=by
 intro i j hij hj
 by_cases hjx:j<x
 ·exact hs i j hij hjx
 ·have hj':j=x:=by omega
  subst hj'
  by_cases hi':i=j
  ·subst hi';exact C.rf _
  ·have:=hs i (j - 1) (by omega) (by omega)
   rw [show lo+(j - 1)=lo+j - 1 by omega]at this
   exact C.tr _ _ _ this hl
theorem yFH(C:Cmp M A E s kd D lt)(hD: ∀x,x∈a₀.toList->D x)(h:SB a₀ kd pd f lo st){a n:Nat}(hn:lo+n<=a₀.size)(ha:1<=a)(han:a<=n)(hs:Up lt d (arrOf st) lo a){Q:C2->SortSt->Prop}
  (hq: ∀m,a<=m->m<=n->Up lt d (arrOf st) lo m->(m=n\/lt (Kx d (arrOf st) (lo+m)) (Kx d (arrOf st) (lo+m - 1))=true)->Q (none,m) st):wpS M A E s (ascL lo a n) Q st:=by
 unfold ascL
 refine wpS_forRange (I:=λx c st'=>st'=st/\c=(none,x)/\Up lt d (arrOf st) lo x) ?_ ?_ ⟨rfl,rfl,hs⟩
 ·rintro x c st' hax hxn ⟨rfl,rfl,hs'⟩
  dsimp only
  refine wpS_bind (zNQ (d:=d) C h hD (by omega) (by omega) ?_)
  cases hl:lt (Kx d (arrOf st') (lo+x)) (Kx d (arrOf st') (lo+x - 1))with
  |true=>exact wpS_pure (hq x hax (by omega) hs' (.inr hl))
  |false=>exact wpS_pure ⟨rfl,rfl,hs'.step C (by omega) hl⟩
 ·rintro c st' ⟨rfl,rfl,hs'⟩
  rw [show max a n=n by omega]at hs' ⊢
  exact hq n han (le_refl _) hs' (.inl rfl)
theorem Up.of_mirror(h:SB a₀ kd pd f lo st){m:Nat}(hm:lo+m<=a₀.size)(hs:Dn lt d (arrOf st) lo m):Up lt d (mirror (arrOf st) lo (lo+m) ((lo+m - lo) / 2)) lo m:=by
 intro i j hij hj
 rw [zPA (by rw [h.size];exact hm),zPA (by rw [h.size];exact hm),iP (by omega),iP (by omega)]
 have:=hs (m - 1 - j) (m - 1 - i) (by omega) (by omega)
 rw [show lo+(m - 1 - j)=lo+(lo+m) - 1 - (lo+j) by omega,show lo+(m - 1 - i)=lo+(lo+m) - 1 - (lo+i) by omega]at this
 exact this
theorem yKQ(C:Cmp M A E s kd D lt)(hD: ∀x,x∈a₀.toList->D x)(h:SB a₀ kd pd f lo st){m n:Nat}(hn:lo+n<=a₀.size)(h1:1<=m)(hm:m<=n)(hs:Dn lt d (arrOf st) lo m){Q:Option Nat->SortSt->Prop}
  (hq: ∀m st',SB a₀ kd pd f lo st'->1<=m->m<=n->Up lt d (arrOf st') lo m->Q (some m) st'):wpS M A E s (tl3 lo m n) Q st:=by
 unfold tl3
 refine wpS_bind (zXM ?_)
 have h':=h.rev (i:=lo) (j:=lo+m) (le_refl _) (by omega)
 exact wpS_bind (yFH C hD h' hn h1 hm (Up.of_mirror h (by omega) hs) λk k1 k2 k3 _=>wpS_pure (hq k _ h' (by omega) k2 k3))
def Eqs(lt:Keyed->Keyed->Bool)(d:Keyed)(v:V)(i j:Nat):Prop:= ∀k l,i<=k->k<j->i<=l->l<j->Le lt (Kx d v k) (Kx d v l)
theorem Dn.mirror(C:Cmp M A E s kd D lt)(h:SB a₀ kd pd f lo st){i j n:Nat}(hj:j<=a₀.size)(he:Eqs lt d (arrOf st) i j)(hs:Dn lt d (arrOf st) lo n):Dn lt d (mirror (arrOf st) i j ((j - i) / 2)) lo n:=by
 have key: ∀k,Le lt (Kx d (PyProof.Rows.mirror (arrOf st) i j ((j - i) / 2)) k) (Kx d (arrOf st) k)/\Le lt (Kx d (arrOf st) k) (Kx d (PyProof.Rows.mirror (arrOf st) i j ((j - i) / 2)) k):=by
  intro k
  rw [zPA (by rw [h.size];exact hj)]
  split
  ·exact⟨he _ _ (by omega) (by omega) (by omega) (by omega),he _ _ (by omega) (by omega) (by omega) (by omega)⟩
  ·exact⟨C.rf _,C.rf _⟩
 intro p q hpq hq
 exact C.tr _ _ _ (key _).1 (C.tr _ _ _ (hs p q hpq hq) (key _).2)
theorem yOM(C:Cmp M A E s kd D lt)(hD: ∀x,x∈a₀.toList->D x)(h:SB a₀ kd pd f lo st){a n:Nat}(hn:lo+n<=a₀.size)(h1:1<=a)(han:a<=n)(hs:Dn lt d (arrOf st) lo a){Q:C3->SortSt->Prop}
  (hq: ∀m e st',SB a₀ kd pd f lo st'->a<=m->m<=n->Dn lt d (arrOf st') lo m->e+1<=m->Eqs lt d (arrOf st') (lo+m - (e+1)) (lo+m)->Q (none,m,e) st'):wpS M A E s (dscL lo a n) Q st:=by
 unfold dscL
 refine wpS_forRange (I:=λx c st'=> ∃e,c=(none,x,e)/\SB a₀ kd pd f lo st'/\Dn lt d (arrOf st') lo x/\e+1<=x/\Eqs lt d (arrOf st') (lo+x - (e+1)) (lo+x)) ?_ ?_
  ⟨0,rfl,h,hs,by omega,λk l h1 h2 h3 h4=>by rw [show k=l by omega];exact C.rf _⟩
 ·rintro x c st' hax hxn ⟨e,rfl,hB,hs',hq',he⟩
  dsimp only
  have one: ∀v:V,Eqs lt d v (lo+(x+1) - (0+1)) (lo+(x+1)):=λv k l h1 h2 h3 h4=>by rw [show k=l by omega];exact C.rf _
  refine wpS_bind (zNQ (d:=d) C hB hD (by omega) (by omega) ?_)
  cases hl:lt (Kx d (arrOf st') (lo+x)) (Kx d (arrOf st') (lo+x - 1))with
  |true=>
   have nx:Dn lt d (arrOf st') lo (x+1):=by
    intro i j hij hj
    by_cases hjx:j<x
    ·exact hs' i j hij hjx
    ·have hj':j=x:=by omega
     subst hj'
     by_cases hi':i=j
     ·subst hi';exact C.rf _
     ·have:=hs' i (j - 1) (by omega) (by omega)
      rw [show lo+(j - 1)=lo+j - 1 by omega]at this
      exact C.tr _ _ _ (C.as _ _ hl) this
   dsimp only
   rw [iP rfl]
   by_cases ce:e>0
   ·rw [iP ce]
    refine wpS_bind (zXM (wpS_pure ⟨0,rfl,hB.rev (by omega) (by omega),nx.mirror C hB (by omega) he,by omega,one _⟩))
   ·rw [iN ce]
    exact wpS_pure ⟨0,rfl,hB,nx,by omega,one _⟩
  |false=>
   dsimp only
   rw [iN (by simp)]
   refine wpS_bind (zNQ (d:=d) C hB hD (by omega) (by omega) ?_)
   cases hr:lt (Kx d (arrOf st') (lo+x - 1)) (Kx d (arrOf st') (lo+x))with
   |true=>exact wpS_pure (hq x e st' hB hax (by omega) hs' hq' he)
   |false=>
    refine wpS_pure ⟨e+1,rfl,hB,λi j hij hj=>?_,by omega,λk l k1 k2 k3 k4=>?_⟩
    ·by_cases hjx:j<x
     ·exact hs' i j hij hjx
     ·have hj':j=x:=by omega
      subst hj'
      by_cases hi':i=j
      ·subst hi';exact C.rf _
      ·have:=hs' i (j - 1) (by omega) (by omega)
       rw [show lo+(j - 1)=lo+j - 1 by omega]at this
       exact C.tr _ _ _ hr this
    ·by_cases ck:k=lo+x
     ·subst ck
      by_cases cl:l=lo+x
      ·subst cl;exact C.rf _
      ·exact C.tr _ _ _ hr (he _ _ (by omega) (by omega) (by omega) (by omega))
     ·by_cases cl:l=lo+x
      ·subst cl
       exact C.tr _ _ _ (he k (lo+x - 1) (by omega) (by omega) (by omega) (by omega)) hl
      ·exact he _ _ (by omega) (by omega) (by omega) (by omega)
 ·rintro c st' ⟨e,rfl,hB,hs',hq',he⟩
  rw [show max a n=n by omega]at hs' hq' he ⊢
  exact hq n e st' hB han (le_refl _) hs' hq' he
theorem yFI(C:Cmp M A E s kd D lt)(hD: ∀x,x∈a₀.toList->D x)(h:SB a₀ kd pd f lo st){m n:Nat}(hn:lo+n<=a₀.size)(hm:m+1<=n)(hs:Dn lt d (arrOf st) lo (m+1)){Q:Option Nat->SortSt->Prop}
  (hq: ∀m st',SB a₀ kd pd f lo st'->1<=m->m<=n->Up lt d (arrOf st') lo m->Q (some m) st'):wpS M A E s (dscP lo m n) Q st:=by
 unfold dscP
 refine wpS_bind (zGE ?_)
 refine wpS_bind (yOM C hD h hn (by omega) hm hs λk e st' hB k1 k2 k3 k4 k5=>?_)
 dsimp only
 by_cases ce:e>0
 ·rw [iP ce]
  exact wpS_bind (zXM (yKQ C hD (hB.rev (by omega) (by omega)) hn (by omega) k2 (k3.mirror C hB (by omega) k5) hq))
 ·rw [iN ce]
  exact yKQ C hD hB hn (by omega) k2 k3 hq
theorem yON(C:Cmp M A E s kd D lt)(hD: ∀x,x∈a₀.toList->D x)(h:SB a₀ kd pd f lo st){n:Nat}(hn:lo+n<=a₀.size)(h1:1<=n){Q:Option Nat->SortSt->Prop}
  (hq: ∀m st',SB a₀ kd pd f lo st'->1<=m->m<=n->Up lt d (arrOf st') lo m->Q (some m) st'):wpS M A E s (countRun' lo n) Q st:=by
 rw [zUO]
 unfold cntR
 refine wpS_bind (yFH (d:=d) C hD h hn (le_refl 1) h1 (λi j hij hj=>by rw [show i=j by omega];exact C.rf _) λm m1 m2 hs hor=>?_)
 dsimp only
 by_cases cm:m=n
 ·rw [iP (by simpa using cm)]
  exact wpS_pure (hq m st h m1 m2 hs)
 ·rw [iN (by simpa using cm)]
  have hlt:=hor.resolve_left cm
  by_cases cg:m>1
  ·rw [iP cg]
   refine wpS_bind (zNQ (d:=d) C h hD (by omega) (by omega) ?_)
   cases hr:lt (Kx d (arrOf st) lo) (Kx d (arrOf st) (lo+m - 1))with
   |true=>exact wpS_pure (hq m st h m1 m2 hs)
   |false=>
    have all:Eqs lt d (arrOf st) lo (lo+m):=by
     intro k l k1 k2 k3 k4
     have a1:=hs 0 (l - lo) (by omega) (by omega)
     have a2:=hs (k - lo) (m - 1) (by omega) (by omega)
     rw [show lo+0=lo by omega,show lo+(l - lo)=l by omega]at a1
     rw [show lo+(k - lo)=k by omega,show lo+(m - 1)=lo+m - 1 by omega]at a2
     exact C.tr _ _ _ a2 (C.tr _ _ _ hr a1)
    have dn:Dn lt d (arrOf st) lo (m+1):=by
     intro i j hij hj
     by_cases hjm:j<m
     ·exact all _ _ (by omega) (by omega) (by omega) (by omega)
     ·have hj':j=m:=by omega
      subst hj'
      by_cases hi':i=j
      ·subst hi';exact C.rf _
      ·exact C.tr _ _ _ (C.as _ _ hlt) (all _ _ (by omega) (by omega) (by omega) (by omega))
    dsimp only
    rw [iN (by simp)]
    exact wpS_bind (zXM (yFI C hD (h.rev (le_refl _) (by omega)) hn (by omega) (dn.mirror C h (by omega) all) hq))
  ·rw [iN cg]
   have:m=1:=by omega
   subst this
   refine yFI C hD h hn (by omega) (λi j hij hj=>?_) hq
   by_cases hi':i=j
   ·subst hi';exact C.rf _
   ·rw [show i=0 by omega,show j=1 by omega]
    exact C.as _ _ hlt
theorem yOO(C:Cmp M A E s kd D lt)(hD: ∀x,x∈a₀.toList->D x)(h:SB a₀ kd pd f lo st){n ok:Nat}(hn:lo+n<=a₀.size)(hok:ok<=n)(hs:Up lt d (arrOf st) lo ok){Q:Bool->SortSt->Prop}
  (hq: ∀st',SB a₀ kd pd f lo st'->Up lt d (arrOf st') lo n->Q true st'):wpS M A E s (binarySort' lo n ok) Q st:=by
 rw [zQM]
 unfold binS
 refine wpS_bind (wpS_mono (wpS_forRange (I:=λk c st'=>c=(none,())/\SB a₀ kd pd f lo st'/\Up lt d (arrOf st') lo (min k n))
  (Q:=λc st'=>c=(none,())/\SB a₀ kd pd f lo st'/\Up lt d (arrOf st') lo n) ?_ ?_ ?_) ?_)
 ·rintro k c st' hak hkn ⟨rfl,hB,hs'⟩
  rw [show min k n=k by omega]at hs'
  unfold binI
  refine wpS_bind (wpS_mono (wpS_forRange (I:=λx c st''=>st''=st'/\ ∃l r,c=(none,l,r)/\l<=r/\r<=k/\r - l<=k - x/\
    (∀i,i<l->Le lt (Kx d (arrOf st') (lo+i)) (Kx d (arrOf st') (lo+k)))/\(∀i,r<=i->i<k->Le lt (Kx d (arrOf st') (lo+k)) (Kx d (arrOf st') (lo+i))))
   (Q:=λc st''=>st''=st'/\ ∃l r,c=(none,l,r)/\l<=k/\
    (∀i,i<l->Le lt (Kx d (arrOf st') (lo+i)) (Kx d (arrOf st') (lo+k)))/\(∀i,l<=i->i<k->Le lt (Kx d (arrOf st') (lo+k)) (Kx d (arrOf st') (lo+i)))) ?_ ?_ ?_) ?_)
  ·rintro x c st'' _ hxk ⟨rfl,l,r,rfl,hlr,hrk,hm,hlo,hhi⟩
   dsimp only
   by_cases hge:l>=r
   ·rw [iP hge]
    have:l=r:=by omega
    subst this
    exact wpS_pure ⟨rfl,l,l,rfl,hrk,hlo,hhi⟩
   ·rw [iN hge]
    refine wpS_bind (zNQ (d:=d) C hB hD (by omega) (by omega) ?_)
    cases hl:lt (Kx d (arrOf st'') (lo+k)) (Kx d (arrOf st'') (lo+(l+r) / 2))with
    |true=>exact wpS_pure ⟨rfl,l,(l+r) / 2,rfl,by omega,by omega,by omega,hlo,λi h1 h2=>C.tr _ _ _ (C.as _ _ hl) (hs' _ _ h1 h2)⟩
    |false=>exact wpS_pure ⟨rfl,(l+r) / 2+1,r,rfl,by omega,by omega,by omega,λi h1=>C.tr _ _ _ (hs' i ((l+r) / 2) (by omega) (by omega)) hl,hhi⟩
  ·rintro c st'' ⟨rfl,l,r,rfl,hlr,hrk,hm,hlo,hhi⟩
   have:l=r:=by omega
   subst this
   exact⟨rfl,l,l,rfl,hrk,hlo,hhi⟩
  ·exact⟨rfl,0,k,rfl,by omega,by omega,by omega,λi hi=>by omega,λi h1 h2=>by omega⟩
  ·rintro c st'' ⟨rfl,l,r,rfl,hlk,hlo,hhi⟩
   dsimp only
   rw [moveDown'_eq]
   have hks:lo+k<(arrOf st'').size:=by rw [hB.size];omega
   refine wpS_bind (wpS_modify (wpS_pure ⟨rfl,?_,?_⟩))
   ·exact hB.bub (by omega) (by omega)
   ·rw [show min (k+1) n=k+1 by omega]
    intro i j hij hj
    show Le lt (Kx d (bubble (arrOf st'') (lo+k) (lo+k - (lo+l))) (lo+i)) (Kx d (bubble (arrOf st'') (lo+k) (lo+k - (lo+l))) (lo+j))
    rw [zVX hks (by omega),zVX hks (by omega),show lo+k - (lo+k - (lo+l))=lo+l by omega]
    have sh: ∀i,1<=i->lo+i - 1=lo+(i - 1):=λi hi=>by omega
    repeat' split
    all_goals first
     |(exfalso;omega)
     |exact C.rf _
     |exact hlo _ (by omega)
     |(rw [sh _ (by omega)];exact hhi _ (by omega) (by omega))
     |exact hhi _ (by omega) (by omega)
     |exact hs' _ _ (by omega) (by omega)
     |(rw [sh i (by omega)];exact hs' _ _ (by omega) (by omega))
     |(rw [sh j (by omega)];exact hs' _ _ (by omega) (by omega))
     |(rw [sh i (by omega),sh j (by omega)];exact hs' _ _ (by omega) (by omega))
     |(rw [sh i (by omega)];exact hlo _ (by omega))
 ·rintro c st' ⟨hc,hB,hs'⟩
  refine⟨hc,hB,?_⟩
  rwa [show min (max (max ok 1) n) n=n by omega]at hs'
 ·refine⟨rfl,h,λi j hij hj=>?_⟩
  by_cases h1:ok=0
  ·rw [show i=j by omega];exact C.rf _
  ·exact hs i j hij (by omega)
 ·rintro c st' ⟨rfl,hB,hs'⟩
  exact wpS_pure (hq st' hB hs')
end
end Srt
set_option autoImplicit false
namespace Srt
open PySem PyProof.Rows
abbrev putAll(w:V)(p:Nat)(v:V):V:=w.toList.zipIdx.foldl (λa (x,j)=>a.setIfInBounds (p+j) x) v
noncomputable def yKR(p:Nat)(w:V):SM Bool:=(modify λs=>setArr s (putAll w p (arrOf s))) >>= λ_=>get >>= λs=>pure (failedOf s).isNone
noncomputable def mAt(i:Nat):SM Bool:=get >>= λst=>match (pendingOf st)[i]?,(pendingOf st)[i+1]? with
 |some (sa,na,pw),some (sb,nb,_)=>set (setPending st (((pendingOf st).setIfInBounds i (sa,na+nb,pw)).eraseIdxIfInBounds (i+1))) >>= λ_=>
  elem' (arrOf st) sb >>= λy=>zBS false y (arrOf st) sa na 0 >>= λr=>(match r with
   |some k=>if(na - k==0)=true then pure true else elem' (arrOf st) (sa+k+(na - k) - 1) >>= λx=>zBS true x (arrOf st) sb nb (nb - 1) >>= λr=>(match r with
    |some m=>if(m==0)=true then pure true
      else if na - k<=m then zSK ((arrOf st).extract (sa+k) sb) ((arrOf st).extract sb (sb+m)) >>= λw=>yKR (sa+k) w
      else zSL ((arrOf st).extract (sa+k) sb) ((arrOf st).extract sb (sb+m)) >>= λw=>yKR (sa+k) w
    |_=>pure false)
   |_=>pure false)
 |_,_=>liftM (unsupported "internal:list.sort.pending")
theorem yAD(i:Nat):mergeAt' i=mAt i:=by kernel_rfl
theorem zPZ(p:Nat): ∀(ws:List Keyed)(k:Nat)(v:V),p+k+ws.length<=v.size->
  ((ws.zipIdx k).foldl (λa (x,j)=>a.setIfInBounds (p+j) x) v).toList=v.toList.take (p+k)++ws++v.toList.drop (p+k+ws.length)
 |[],k,v,_=>by simp
 |x::t,k,v,h=>by
  rw [zipIdx_cons,foldl_cons]
  have hl:p+(k+1)+t.length<=(v.setIfInBounds (p+k) x).size:=by rw [Array.size_setIfInBounds];simp only [lC]at h;omega
  rw [zPZ p t (k+1) _ hl]
  simp only [lC]at h ⊢
  have e:(v.setIfInBounds (p+k) x).toList=v.toList.set (p+k) x:=Array.toList_setIfInBounds ..
  rw [e]
  have e1:(v.toList.set (p+k) x).take (p+(k+1))=v.toList.take (p+k)++[x]:=by
   rw [show p+(k+1)=p+k+1 by omega]
   have hx:(v.toList.set (p+k) x)[p+k]? =some x:=by rw [getElem?_set_self];simp;omega
   rw [zQX hx,List.take_set_of_le (le_refl _)]
  rw [e1,List.drop_set_of_lt (by omega)]
  rw [show p+(k+1)+t.length=p+k+(t.length+1) by omega]
  simp only [aA,List.cons_append,nil_append]
section
variable{M:Model}{A:Around}{E:VP}{s:Shared}{kd:SortKind}{D:Keyed->Prop}{lt:Keyed->Keyed->Bool}{a₀ f:V}{pd:Array (Nat×Nat×Nat)}{lo:Nat}{st:SortSt}{d:Keyed}
theorem Up.sl{v:V}{n:Nat}(h:Up lt d v lo n):SL lt v.toList lo n:=by
 intro i j x y h1 h2 hx hy
 have e1:Kx d v (lo+i)=x:=by unfold Kx;rw [<-Array.getElem?_toList,hx];rfl
 have e2:Kx d v (lo+j)=y:=by unfold Kx;rw [<-Array.getElem?_toList,hy];rfl
 have:=h i j h1 h2
 rw [e1,e2]at this
 exact this
theorem SL.pw{l:List Keyed}{n:Nat}(h:SL lt l lo n):((l.drop lo).take n).Pairwise (Le lt):=by
 rw [List.pairwise_iff_getElem]
 intro i j hi hj hij
 rw [lT,length_drop]at hi hj
 rw [getElem_take,getElem_take,getElem_drop,getElem_drop]
 exact h i j _ _ (by omega) (by omega) (gE0 _) (gE0 _)
theorem four{β:Type}{le:β->β->Prop}{A1 A2 B1 B2 W:List β}(hA:(A1++A2).Pairwise le)(hB:(B1++B2).Pairwise le)(h1: ∀z,z∈A1-> ∀w,w∈B1++B2->le z w)(h2: ∀z,z∈A1++A2-> ∀w,w∈B2->le z w)
  (hW:W.Pairwise le) (pW:W.Perm (A2++B1)):(A1++W++B2).Pairwise le/\(A1++W++B2).Perm (A1++(A2++(B1++B2))):=by
 have a:=pairwise_append.mp hA
 have b:=pairwise_append.mp hB
 refine⟨pairwise_append.mpr ⟨pairwise_append.mpr ⟨a.1,hW,λz hz w hw=>?_⟩,b.2.1,λz hz w hw=>?_⟩,?_⟩
 ·rcases mem_append.mp (pW.mem_iff.mp hw)with q|q
  ·exact a.2.2 z hz w q
  ·exact h1 z hz w (mem_append_left _ q)
 ·rcases mem_append.mp hz with q|q
  ·exact h2 z (mem_append_left _ q) w hw
  ·rcases mem_append.mp (pW.mem_iff.mp q)with r|r
   ·exact h2 z (mem_append_right _ r) w hw
   ·exact b.2.2 z r w hw
 ·rw [<-aA A2 B1 B2, <-aA]
  exact(pW.append_left A1).append_right B2
structure Out(a₀:V)(kd:SortKind)(lt:Keyed->Keyed->Bool)(n:Nat)(st:SortSt):Prop where
 pm:(arrOf st).toList.Perm a₀.toList
 kind:kindOf st=kd
 fl:failedOf st=none
 pd: ∃w,pendingOf st=#[(0,n,w)]
 so:(arrOf st).toList.Pairwise (Le lt)
end
end Srt
set_option autoImplicit false
namespace Srt
open PySem PyProof.Rows
abbrev U2:=Option Unit×Nat
abbrev U1:=Option Unit×Unit
noncomputable def psh(lo n:Nat):SM (ForInStep U2):=(modify λs=>setPending s ((pendingOf s).push (lo,n,0))) >>= λ_=>pure (.yield (none,lo+n))
noncomputable def nxt(N lo n:Nat):SM (ForInStep U2):=get >>= λst=>match (pendingOf st).back? with
 |some (a,b,_)=>(forIn [0:N] ((none,()):U1) λ_ _=>get >>= λst=>(match (if(pendingOf st).size>1 then(pendingOf st)[(pendingOf st).size - 2]? else none)with
   |some (_,_,z)=>if z<=power' N (2 * a+b) (2 * a+b+b+n) N then pure (.done (none,()))else mergeAt' ((pendingOf st).size - 2) >>= λq=>if(!q)=true then pure (.done (some (),()))else pure (.yield (none,()))
   |_=>pure (.done (none,())))) >>= λc=>(match c.1 with
  |some r=>pure (.done (some r,lo))
  |none=>(modify λs=>setPending s ((pendingOf s).modify ((pendingOf s).size - 1) λ(u,v,_)=>(u,v,power' N (2 * a+b) (2 * a+b+b+n) N))) >>= λ_=>psh lo n)
 |_=>psh lo n
noncomputable def runs(N r:Nat):SM U2:=forIn [0:N] ((none,0):U2) λ_ c=>if c.2>=N then pure (.done (none,c.2))else countRun' c.2 (N - c.2) >>= λo=>match o with
 |some m=>if m<r then liftM (rule "list.sort.binary-insertion") >>= λ_=>binarySort' c.2 (min (N - c.2) r) m >>= λq=>if(!q)=true then pure (.done (some (),c.2))else nxt N c.2 (min (N - c.2) r)
   else nxt N c.2 m
 |_=>pure (.done (some (),c.2))
noncomputable def colp(N:Nat):SM U1:=forIn [0:N] ((none,()):U1) λ_ _=>get >>= λst=>if(pendingOf st).size<=1 then pure (.done (none,()))else
 mergeAt' (if Option.any (λx=>decide (x<((pendingOf st)[(pendingOf st).size - 2+1]?).elim 0 λx=>x.2.1)) (if(pendingOf st).size - 2>0 then Option.map (λx=>x.2.1) (pendingOf st)[(pendingOf st).size - 2 - 1]? else none)=true
  then(pendingOf st).size - 2 - 1 else(pendingOf st).size - 2) >>= λq=>if(!q)=true then pure (.done (some (),()))else pure (.yield (none,()))
noncomputable def sRun:SM Unit:=get >>= λst=>runs (arrOf st).size (minRun' (arrOf st).size (arrOf st).size 0) >>= λc=>match c.1 with
 |some r=>pure r
 |none=>colp (arrOf st).size >>= λc=>match c.1 with
  |some r=>pure r
  |none=>pure ()
theorem zUP:sortRuns'=sRun:=by kernel_rfl
section
variable{M:Model}{A:Around}{E:VP}{s:Shared}{kd:SortKind}{D:Keyed->Prop}{lt:Keyed->Keyed->Bool}{a₀ f:V}{pd:Array (Nat×Nat×Nat)}{lo:Nat}{st:SortSt}{d:Keyed}
theorem ySW{lo n:Nat}{Q:ForInStep U2->SortSt->Prop}(h:Q (.yield (none,lo+n)) (setPending st ((pendingOf st).push (lo,n,0)))):wpS M A E s (psh lo n) Q st:=
 wpS_bind (wpS_modify (wpS_pure h))
def Dun(a₀:V)(lt:Keyed->Keyed->Bool)(st:SortSt):Prop:=(arrOf st).toList.Perm a₀.toList/\failedOf st=none/\(arrOf st).toList.Pairwise (Le lt)
end
end Srt
set_option autoImplicit false
namespace Srt
open PySem PyProof.Rows
theorem zQY{β:Type}(l:List β)(p m n:Nat):(l.drop p).take (m+n)=(l.drop p).take m++(l.drop (p+m)).take n:=by rw [take_add,List.drop_drop]
theorem yAE{β:Type}(l:List β)(p k:Nat):l.take (p+k)=l.take p++(l.drop p).take k:=by rw [take_add]
theorem erS{β:Type}(A B:List β)(x y z:β):((A++x::y::B).toArray.setIfInBounds A.length z).eraseIdxIfInBounds (A.length+1)=(A++z::B).toArray:=by
 have e1:(A++x::y::B).toArray.setIfInBounds A.length z=(A++z::y::B).toArray:=by
  apply Array.toList_inj.mp
  rw [Array.toList_setIfInBounds]
  simp
 rw [e1]
 unfold Array.eraseIdxIfInBounds
 rw [dif_pos (by simp)]
 apply Array.toList_inj.mp
 rw [Array.toList_eraseIdx]
 show(A++z::y::B).eraseIdx (A.length+1)=A++z::B
 rw [List.eraseIdx_append_of_length_le (by omega)]
 rw [show A.length+1 - A.length=1 by omega]
 rfl
section
variable{M:Model}{A:Around}{E:VP}{s:Shared}{kd:SortKind}{D:Keyed->Prop}{lt:Keyed->Keyed->Bool}{a₀ f:V}{pd:Array (Nat×Nat×Nat)}{lo:Nat}{st:SortSt}{d:Keyed}
theorem yQD(rf: ∀x,Le lt x x){l:List Keyed}{p n:Nat}(h:((l.drop p).take n).Pairwise (Le lt)):SL lt l p n:=by
 intro i j x y hij hj hx hy
 rcases Nat.lt_or_ge i j with h'|h'
 ·have e1:((l.drop p).take n)[i]? =some x:=by rw [getElem?_take_of_lt (by omega),getElem?_drop];exact hx
  have e2:((l.drop p).take n)[j]? =some y:=by rw [getElem?_take_of_lt hj,getElem?_drop];exact hy
  obtain⟨i1,i2⟩:=gS0.mp e1
  obtain⟨j1,j2⟩:=gS0.mp e2
  have:=List.pairwise_iff_getElem.mp h i j i1 j1 h'
  rw [i2,j2]at this
  exact this
 ·have:i=j:=by omega
  subst this
  rw [hx]at hy
  cases hy
  exact rf x
structure OutG(a₀:V)(kd:SortKind)(lt:Keyed->Keyed->Bool)(l:List Keyed)(p n:Nat)(rs:List (Nat×Nat×Nat))(st:SortSt):Prop where
 pm:(arrOf st).toList.Perm a₀.toList
 kind:kindOf st=kd
 fl:failedOf st=none
 pd:pendingOf st=rs.toArray
 so:SL lt (arrOf st).toList p n
 ot: ∀j,j<p\/p+n<=j->(arrOf st).toList[j]? =l[j]?
theorem yKS{st:SortSt}{l l':List Keyed}{p q n:Nat}{w:V}{rs:List (Nat×Nat×Nat)}(hk:kindOf st=kd)(hf:failedOf st=none)(hp:pendingOf st=rs.toArray)
  (hl:q+w.size<=(arrOf st).size) (e:(arrOf st).toList.take q++w.toList++(arrOf st).toList.drop (q+w.size)=l') (h1:SL lt l' p n) (h2:l'.Perm a₀.toList) (h3: ∀j,j<p\/p+n<=j->l'[j]? =l[j]?)
  {Q:Bool->SortSt->Prop} (hq: ∀st',OutG a₀ kd lt l p n rs st'->Q true st'):wpS M A E s (yKR q w) Q st:=by
 have e':(putAll w q (arrOf st)).toList=l':=by
  have:=zPZ q w.toList 0 (arrOf st) (by simpa using hl)
  rw [add_zero]at this
  exact this.trans (by simpa using e)
 unfold yKR
 refine wpS_bind (wpS_modify (wpS_bind (wpS_get ?_)))
 have O:OutG a₀ kd lt l p n rs (setArr st (putAll w q (arrOf st))):=⟨by show(putAll w q (arrOf st)).toList.Perm _;rw [e'];exact h2,hk,hf,hp,by show SL lt (putAll w q (arrOf st)).toList p n;rw [e'];exact h1,by show∀j,_->(putAll w q (arrOf st)).toList[j]? =_;rw [e'];exact h3⟩
 have:(failedOf (setArr st (putAll w q (arrOf st)))).isNone=true:=by rw [O.fl];rfl
 rw [this]
 exact wpS_pure (hq _ O)
theorem yOP(C:Cmp M A E s kd D lt)(hD: ∀x,x∈a₀.toList->D x){p n1 n2 pw pw2:Nat}{Rs Ts:List (Nat×Nat×Nat)}(h1:1<=n1)(h2:1<=n2)(pm0:(arrOf st).toList.Perm a₀.toList)(hk:kindOf st=kd)(hf:failedOf st=none)
  (hp:pendingOf st=(Rs++(p,n1,pw)::(p+n1,n2,pw2)::Ts).toArray) (hz:p+n1+n2<=(arrOf st).size) (hA:SL lt (arrOf st).toList p n1) (hB:SL lt (arrOf st).toList (p+n1) n2)
  {Q:Bool->SortSt->Prop} (hq: ∀st',OutG a₀ kd lt (arrOf st).toList p (n1+n2) (Rs++(p,n1+n2,pw)::Ts) st'->Q true st'):wpS M A E s (mergeAt' Rs.length) Q st:=by
 rw [yAD]
 unfold mAt
 refine wpS_bind (wpS_get ?_)
 rw [hp]
 have e0:(Rs++(p,n1,pw)::(p+n1,n2,pw2)::Ts).toArray[Rs.length]? =some (p,n1,pw):=by simp
 have e1:(Rs++(p,n1,pw)::(p+n1,n2,pw2)::Ts).toArray[Rs.length+1]? =some (p+n1,n2,pw2):=by simp
 rw [e0,e1]
 dsimp only
 refine wpS_bind (yOG ?_)
 rw [erS]
 generalize hst:setPending st (Rs++(p,n1+n2,pw)::Ts).toArray=st1
 have k1:kindOf st1=kd:=by rw [<-hst];exact hk
 have f1:failedOf st1=none:=by rw [<-hst];exact hf
 have p1:pendingOf st1=(Rs++(p,n1+n2,pw)::Ts).toArray:=by rw [<-hst]
 have r1:arrOf st1=arrOf st:=by rw [<-hst]
 have hDv: ∀x,x∈(arrOf st).toList->D x:=λx hx=>hD x (pm0.mem_iff.mp hx)
 generalize hv:arrOf st=v at *
 obtain⟨y,ey⟩:=jA (v:=v) (i:=p+n1) (by omega)
 obtain⟨x,ex⟩:=jA (v:=v) (i:=p+n1 - 1) (by omega)
 have hl:v.toList.length=v.size:=by simp
 have pA:=hA.pw
 have pB:=hB.pw
 have hyB: ∀w,w∈(v.toList.drop (p+n1)).take n2->Le lt y w:=λw hw=>by
  obtain⟨i,i1,_,i2⟩:=jD hw
  exact hB 0 i y w (zero_le _) i1 (by rw [add_zero];exact ey) i2
 have hxA: ∀z,z∈(v.toList.drop p).take n1->Le lt z x:=λz hz'=>by
  obtain⟨i,i1,_,i2⟩:=jD hz'
  exact hA i (n1 - 1) z x (by omega) (by omega) i2 (by rw [show p+(n1 - 1)=p+n1 - 1 by omega];exact ex)
 refine wpS_bind (yX ey (wpS_bind (zXH C k1 hDv (hDv y (mem_of_getElem? ey)) (by omega) (by omega) hA λk ka kb kc=>?_)))
 dsimp only
 have g1: ∀z,z∈(v.toList.drop p).take k-> ∀w,w∈(v.toList.drop (p+n1)).take n2->Le lt z w:=by
  intro z hz' w hw
  obtain⟨i,i1,i2,i3⟩:=jD hz'
  exact C.tr _ _ _ (kb i z i1 i3) (hyB w hw)
 have whole:((v.toList.drop p).take n1++(v.toList.drop (p+n1)).take n2).Pairwise (Le lt)->OutG a₀ kd lt v.toList p (n1+n2) (Rs++(p,n1+n2,pw)::Ts) st1:=λhp=>⟨by rw [r1];exact pm0,k1,f1,p1,by rw [r1];exact yQD C.rf (by rw [zQY];exact hp),λj _=>by rw [r1]⟩
 by_cases c1:n1 - k=0
 ·rw [iP (by simpa using c1)]
  refine wpS_pure (hq _ (whole ?_))
  have hk':k=n1:=by omega
  subst hk'
  exact pairwise_append.mpr ⟨pA,pB,g1⟩
 ·rw [iN (by simpa using c1)]
  have ex':v.toList[p+k+(n1 - k) - 1]? =some x:=by rw [show p+k+(n1 - k) - 1=p+n1 - 1 by omega];exact ex
  refine wpS_bind (yX ex' (wpS_bind (zXI C k1 hDv (hDv x (mem_of_getElem? ex)) (by omega) (by omega) hB λm ma mb mc=>?_)))
  dsimp only
  have g2: ∀z,z∈(v.toList.drop p).take n1-> ∀w,w∈(v.toList.drop (p+n1+m)).take (n2 - m)->Le lt z w:=by
   intro z hz' w hw
   obtain⟨i,i1,_,i2⟩:=jD hw
   exact C.tr _ _ _ (hxA z hz') (mc (m+i) w (by omega) (by omega) (by rw [<-add_assoc];exact i2))
  by_cases c2:m=0
  ·rw [iP (by simpa using c2)]
   refine wpS_pure (hq _ (whole ?_))
   subst c2
   exact pairwise_append.mpr ⟨pA,pB,λz hz' w hw=>g2 z hz' w (by rw [add_zero,Nat.sub_zero];exact hw)⟩
  ·rw [iN (by simpa using c2)]
   generalize ha:v.extract (p+k) (p+n1)=a
   generalize hb:v.extract (p+n1) (p+n1+m)=b
   have la:a.toList=(v.toList.drop (p+k)).take (n1 - k):=by rw [<-ha,show p+n1=p+k+(n1 - k) by omega,zXJ]
   have lb:b.toList=(v.toList.drop (p+n1)).take m:=by rw [<-hb,zXJ]
   have za:a.size=n1 - k:=by rw [<-Array.length_toList,la,lT,length_drop];omega
   have zb:b.size=m:=by rw [<-Array.length_toList,lb,lT,length_drop];omega
   have eA:(v.toList.drop p).take n1=(v.toList.drop p).take k++a.toList:=by rw [la, <-zQY];congr 1;omega
   have eB:(v.toList.drop (p+n1)).take n2=b.toList++(v.toList.drop (p+n1+m)).take (n2 - m):=by rw [lb, <-zQY];congr 1;omega
   have mA: ∀z,z∈a.toList-> ∃i,k<=i/\i<n1/\v.toList[p+i]? =some z:=by
    intro z hz'
    rw [la]at hz'
    obtain⟨i,i1,_,i2⟩:=jD hz'
    exact⟨k+i,by omega,by omega,by rw [<-add_assoc];exact i2⟩
   have mB: ∀z,z∈b.toList-> ∃i,i<m/\v.toList[p+n1+i]? =some z:=by
    intro z hz'
    rw [lb]at hz'
    obtain⟨i,i1,_,i2⟩:=jD hz'
    exact⟨i,i1,i2⟩
   have Z:Set3 M A E s kd D lt a b:={
    C:=C
    da:=λz hz'=>by obtain⟨i,_,_,e⟩:=mA z hz';exact hDv z (mem_of_getElem? e)
    db:=λz hz'=>by obtain⟨i,_,e⟩:=mB z hz';exact hDv z (mem_of_getElem? e)
    lst:=λx' y' hx' hy'=>by
     rw [la,getElem?_take_of_lt (by omega),getElem?_drop,show p+k+(a.size - 1)=p+n1 - 1 by omega,ex]at hx'
     cases hx'
     obtain⟨i,i1,e⟩:=mB y' hy'
     exact C.as _ _ (mb i y' i1 e)
    fst:=λx' y' hx' hy'=>by
     rw [lb,getElem?_take_of_lt (by omega),getElem?_drop,add_zero,ey]at hy'
     cases hy'
     obtain⟨i,i1,i2,e⟩:=mA x' hx'
     exact C.as _ _ (kc i x' i1 i2 e)}
   have sA:a.toList.Pairwise (Le lt):=by rw [eA]at pA;exact(pairwise_append.mp pA).2.1
   have sB:b.toList.Pairwise (Le lt):=by rw [eB]at pB;exact(pairwise_append.mp pB).1
   have fin: ∀r st2,Sg st1 st2->FinA lt a b r->wpS M A E s (yKR (p+k) r) Q st2:=by
    rintro r st2 ⟨g,rfl⟩ ⟨fa,fb⟩
    have zr:r.size=n1 - k+m:=by
     have:=fb.length_eq
     simp only [lA,Array.length_toList]at this
     omega
    have F:=four (W:=r.toList) (A1:=(v.toList.drop p).take k) (A2:=a.toList) (B1:=b.toList) (B2:=(v.toList.drop (p+n1+m)).take (n2 - m)) (by rw [<-eA];exact pA) (by rw [<-eB];exact pB)
     (λz hz' w hw=>g1 z hz' w (by rw [eB];exact hw)) (λz hz' w hw=>g2 z (by rw [eA];exact hz') w hw) fa fb
    have F2:=F.2
    rw [<-eB, <-aA, <-eA, <-zQY]at F2
    have eN:v.toList.take (p+k)++r.toList++v.toList.drop (p+n1+m)=v.toList.take p++((v.toList.drop p).take k++r.toList++(v.toList.drop (p+n1+m)).take (n2 - m))++v.toList.drop (p+n1+n2):=by
     have hd:=zSM v.toList (p+n1+m) (n2 - m)
     rw [show p+n1+m+(n2 - m)=p+n1+n2 by omega]at hd
     rw [yAE]
     conv=>lhs;rw [hd]
     simp only [aA]
    have eO:v.toList=v.toList.take p++(v.toList.drop p).take (n1+n2)++v.toList.drop (p+n1+n2):=by
     rw [<-yAE, <-add_assoc,take_append_drop]
    generalize hG:(v.toList.drop p).take k++r.toList++(v.toList.drop (p+n1+m)).take (n2 - m)=G at F F2 eN
    have lG:G.length=n1+n2:=by
     have:=F2.length_eq
     rw [lT,length_drop]at this
     omega
    have lP:(v.toList.take p).length=p:=by rw [lT];omega
    have dG:(((v.toList.take p++G++v.toList.drop (p+n1+n2)).drop p).take (n1+n2))=G:=by
     rw [aA,List.drop_append_of_le_length (by omega),drop_of_length_le (by omega),nil_append,List.take_append_of_le_length (by omega),take_of_length_le (by omega)]
    refine yKS (st:=SortSt.mk' (kindOf st1) (arrOf st1) (pendingOf st1) g (failedOf st1)) (l:=v.toList) (l':=v.toList.take p++G++v.toList.drop (p+n1+n2)) (p:=p) (n:=n1+n2) k1 f1 p1 ?_ ?_ (yQD C.rf (by rw [dG];exact F.1)) ?_ ?_ hq
    ·show p+k+r.size<=(arrOf st1).size
     rw [r1];omega
    ·show(arrOf st1).toList.take (p+k)++r.toList++(arrOf st1).toList.drop (p+k+r.size)=_
     rw [r1,zr,show p+k+(n1 - k+m)=p+n1+m by omega,eN]
    ·refine List.Perm.trans ?_ pm0
     conv=>rhs;rw [eO]
     exact(F2.append_left _).append_right _
    ·intro j hj
     rcases hj with hj|hj
     ·rw [aA,getElem?_append_left (by omega)]
      conv=>rhs;rw [eO,aA,getElem?_append_left (by omega)]
     ·rw [getElem?_append_right (by rw [lA];omega),lA,lP,lG,getElem?_drop]
      congr 1
      omega
   split
   ·exact wpS_bind (yST Z.toSet2 k1 sA sB (by omega) (by omega) (λx' y' hx' hy'=>Z.fst x' y' (mem_of_getElem? hx') hy') fin)
   ·exact wpS_bind (ySV Z k1 sA sB (by omega) (by omega) fin)
end
end Srt
set_option autoImplicit false
namespace Srt
open PySem PyProof.Rows
abbrev Rn:=Nat×Nat×Nat
def RunsOk(lt:Keyed->Keyed->Bool)(l:List Keyed):Nat->List Rn->Nat->Prop
 |p,[],q=>p=q
 |p,r::rs,q=>r.1=p/\1<=r.2.1/\SL lt l p r.2.1/\RunsOk lt l (p+r.2.1) rs q
section
variable{lt:Keyed->Keyed->Bool}{l l':List Keyed}
theorem SL.congr{p n:Nat}(h:SL lt l p n)(e: ∀j,p<=j->j<p+n->l'[j]? =l[j]?):SL lt l' p n:=λi j x y h1 h2 hx hy=>h i j x y h1 h2 (by rw [<-e (p+i) (by omega) (by omega)];exact hx) (by rw [<-e (p+j) (by omega) (by omega)];exact hy)
theorem RunsOk.le: ∀{rs:List Rn}{p q:Nat},RunsOk lt l p rs q->p+rs.length<=q
 |[],p,q,h=>by cases h;exact le_refl _
 |r::rs,p,q,h=>by
  have:=RunsOk.le h.2.2.2
  have:=h.2.1
  rw [lC]
  omega
theorem RunsOk.congr: ∀{rs:List Rn}{p q:Nat},RunsOk lt l p rs q->(∀j,p<=j->j<q->l'[j]? =l[j]?)->RunsOk lt l' p rs q
 |[],p,q,h,_=>h
 |r::rs,p,q,h,e=>by
  have:=RunsOk.le h.2.2.2
  exact⟨h.1,h.2.1,h.2.2.1.congr λj h1 h2=>e j h1 (by omega),RunsOk.congr h.2.2.2 λj h1 h2=>e j (by omega) h2⟩
theorem RunsOk.split: ∀{A B:List Rn}{p q:Nat},RunsOk lt l p (A++B) q-> ∃m,RunsOk lt l p A m/\RunsOk lt l m B q
 |[],B,p,q,h=>⟨p,rfl,h⟩
 |r::A,B,p,q,h=>by
  obtain⟨m,h1,h2⟩:=RunsOk.split h.2.2.2
  exact⟨m,⟨h.1,h.2.1,h.2.2.1,h1⟩,h2⟩
theorem RunsOk.join: ∀{A B:List Rn}{p m q:Nat},RunsOk lt l p A m->RunsOk lt l m B q->RunsOk lt l p (A++B) q
 |[],B,p,m,q,h,h'=>by cases h;exact h'
 |r::A,B,p,m,q,h,h'=>⟨h.1,h.2.1,h.2.2.1,RunsOk.join h.2.2.2 h'⟩
end
section
variable{M:Model}{A:Around}{E:VP}{s:Shared}{kd:SortKind}{D:Keyed->Prop}{lt:Keyed->Keyed->Bool}{a₀ f:V}{lo:Nat}{st:SortSt}{d:Keyed}
structure ST(a₀:V)(kd:SortKind)(lt:Keyed->Keyed->Bool)(rs:List Rn)(q:Nat)(st:SortSt):Prop where
 pm:(arrOf st).toList.Perm a₀.toList
 kind:kindOf st=kd
 fl:failedOf st=none
 pd:pendingOf st=rs.toArray
 ok:RunsOk lt (arrOf st).toList 0 rs q
 le:q<=a₀.size
theorem ST.size{rs:List Rn}{q:Nat}(h:ST a₀ kd lt rs q st):(arrOf st).size=a₀.size:=by
 have:=h.pm.length_eq
 simpa using this
theorem yFJ(C:Cmp M A E s kd D lt)(hD: ∀x,x∈a₀.toList->D x){rs:List Rn}{q i:Nat}(h:ST a₀ kd lt rs q st)(hi:i+1<rs.length){Q:Bool->SortSt->Prop}
  (hq: ∀rs' st',ST a₀ kd lt rs' q st'->rs'.length+1=rs.length->(∀j,q<=j->(arrOf st').toList[j]? =(arrOf st).toList[j]?)->Q true st'):wpS M A E s (mergeAt' i) Q st:=by
 obtain⟨Rs,r1,r2,Ts,e,hl⟩: ∃Rs r1 r2 Ts,rs=Rs++r1::r2::Ts/\Rs.length=i:=⟨rs.take i,rs[i],rs[i+1],rs.drop (i+2),by
  rw [<-drop_eq_getElem_cons, <-drop_eq_getElem_cons,take_append_drop],by rw [lT];omega⟩
 subst e hl
 obtain⟨m,o1,o2⟩:=h.ok.split
 obtain⟨p,n1,pw⟩:=r1
 obtain⟨p2,n2,pw2⟩:=r2
 obtain⟨e1,g1,s1,e2,g2,s2,o3⟩:=o2
 dsimp only at e1 g1 s1 e2 g2 s2 o3
 subst e1 e2
 have hle:=o3.le
 have hsz:=h.size
 have hle2:=h.le
 refine yOP C hD g1 g2 h.pm h.kind h.fl h.pd (by omega) s1 s2 λst' O=>hq (Rs++(p,n1+n2,pw)::Ts) st' ⟨O.pm,O.kind,O.fl,O.pd,?_,h.le⟩ (by simp only [lA,lC];omega) λj hj=>O.ot j (.inr (by omega))
 refine RunsOk.join (o1.congr λj h1 h2=>O.ot j (.inl h2)) ⟨rfl,by show 1<=n1+n2;omega,O.so,?_⟩
 show RunsOk lt _ (p+(n1+n2)) Ts q
 rw [<-add_assoc]
 exact o3.congr λj h1 h2=>O.ot j (.inr (by omega))
theorem yFK{rs:List Rn}{n:Nat}(h:ST a₀ kd lt rs lo st)(h1:1<=n)(hs:SL lt (arrOf st).toList lo n)(hz:lo+n<=a₀.size){Q:ForInStep U2->SortSt->Prop}(hq: ∀rs' st',ST a₀ kd lt rs' (lo+n) st'->Q (.yield (none,lo+n)) st'):wpS M A E s (psh lo n) Q st:=by
 refine ySW (hq (rs++[(lo,n,0)]) _ ⟨h.pm,h.kind,h.fl,?_,RunsOk.join h.ok ⟨rfl,h1,hs,rfl⟩,hz⟩)
 show(pendingOf st).push _=_
 rw [h.pd]
 simp
theorem yKT(C:Cmp M A E s kd D lt)(hD: ∀x,x∈a₀.toList->D x){rs:List Rn}{n:Nat}(h:ST a₀ kd lt rs lo st)(h1:1<=n)(hs:SL lt (arrOf st).toList lo n)(hz:lo+n<=a₀.size){Q:ForInStep U2->SortSt->Prop}(hq: ∀rs' st',ST a₀ kd lt rs' (lo+n) st'->Q (.yield (none,lo+n)) st'):
  wpS M A E s (nxt a₀.size lo n) Q st:=by
 unfold nxt
 refine wpS_bind (wpS_get ?_)
 rcases List.eq_nil_or_concat rs with rfl|⟨A',⟨a,b,w⟩,rfl⟩
 ·have hb:(pendingOf st).back? =none:=by rw [h.pd];rfl
  rw [hb]
  exact yFK h h1 hs hz hq
 ·have hb:(pendingOf st).back? =some (a,b,w):=by rw [h.pd];simp
  rw [hb]
  dsimp only
  generalize power' a₀.size (2 * a+b) (2 * a+b+b+n) a₀.size=pw
  refine wpS_bind (wpS_mono (wpS_forRange (I:=λ_ c st3=>c=((none,()):U1)/\ ∃rs,rs≠[]/\ST a₀ kd lt rs lo st3/\SL lt (arrOf st3).toList lo n) (Q:=λc st3=>c=((none,()):U1)/\ ∃rs,rs≠[]/\ST a₀ kd lt rs lo st3/\SL lt (arrOf st3).toList lo n) ?_ (λ_ _ hh=>hh) ⟨rfl,_,by simp,h,hs⟩) ?_)
  ·rintro x c st3 _ _ ⟨rfl,rs,hne,hT,hsl⟩
   refine wpS_bind (wpS_get ?_)
   have hsz:(pendingOf st3).size=rs.length:=by rw [hT.pd];simp
   by_cases c1:(pendingOf st3).size>1
   ·rw [iP c1]
    cases hz':(pendingOf st3)[(pendingOf st3).size - 2]? with
    |none=>exact wpS_pure ⟨rfl,rs,hne,hT,hsl⟩
    |some r=>
     obtain⟨r1,r2,z⟩:=r
     dsimp only
     by_cases c2:z<=pw
     ·rw [iP c2]
      exact wpS_pure ⟨rfl,rs,hne,hT,hsl⟩
     ·rw [iN c2]
      refine wpS_bind (yFJ C hD hT (by omega) λrs' st' hT' hlen hot=>?_)
      rw [iN (by simp)]
      exact wpS_pure ⟨rfl,rs',λe=>by rw [e,length_nil]at hlen;omega,hT',hsl.congr λj h1 _=>hot j h1⟩
   ·rw [iN c1]
    exact wpS_pure ⟨rfl,rs,hne,hT,hsl⟩
  ·rintro c st3 ⟨rfl,rs,hne,hT,hsl⟩
   dsimp only
   refine wpS_bind (wpS_modify ?_)
   rcases List.eq_nil_or_concat rs with rfl|⟨B,⟨u,v,w'⟩,rfl⟩
   ·exact absurd rfl hne
   ·rw [List.concat_eq_append]at hT
    have hmod:(pendingOf st3).modify ((pendingOf st3).size - 1) (λx=>(x.fst,x.2.fst,pw))=(B++[(u,v,pw)]).toArray:=by
     rw [hT.pd]
     apply Array.toList_inj.mp
     rw [Array.toList_modify]
     have e:(B++[(u,v,w')]).toArray.size - 1=B.length:=by simp
     rw [e]
     show(B++[(u,v,w')]).modify B.length _=B++[(u,v,pw)]
     have key: ∀(B:List Rn)(x:Rn)(f:Rn->Rn),(B++[x]).modify B.length f=B++[f x]:=by
      intro B
      induction B with
      |nil=>intro x f;rfl
      |cons b B ih=>intro x f;show b::(B++[x]).modify B.length f=_;rw [ih];rfl
     rw [key]
    refine yFK (st:=setPending st3 ((pendingOf st3).modify ((pendingOf st3).size - 1) λx=>(x.fst,x.2.fst,pw))) (rs:=B++[(u,v,pw)]) ⟨hT.pm,hT.kind,hT.fl,?_,?_,hT.le⟩ h1 hsl hz hq
    ·rw [<-hmod]
    ·obtain⟨m,o1,o2⟩:=hT.ok.split
     exact RunsOk.join o1 ⟨o2.1,o2.2.1,o2.2.2.1,o2.2.2.2⟩
theorem yKU(C:Cmp M A E s kd D lt)(hD: ∀x,x∈a₀.toList->D x)(d:Keyed){r:Nat}(h:ST a₀ kd lt [] 0 st){Q:U2->SortSt->Prop}
  (hq: ∀rs st',ST a₀ kd lt rs a₀.size st'->Q (none,a₀.size) st'):wpS M A E s (runs a₀.size r) Q st:=by
 unfold runs
 refine wpS_forRange (I:=λx c st'=> ∃lo rs,c=((none,lo):U2)/\x<=lo/\ST a₀ kd lt rs lo st') ?_ ?_ ⟨0,[],rfl,le_refl _,h⟩
 ·rintro x c st1 _ hx ⟨lo,rs,rfl,hxl,hT⟩
  dsimp only
  have hle:=hT.le
  by_cases c1:lo>=a₀.size
  ·rw [iP c1]
   have e:lo=a₀.size:=by omega
   subst e
   exact wpS_pure (hq rs st1 hT)
  ·rw [iN c1]
   have hB:SB a₀ kd rs.toArray (arrOf st1) lo st1:=⟨Array.perm_iff_toList_perm.mpr hT.pm,hT.kind,hT.fl,hT.pd,λ_ _=>rfl⟩
   have back: ∀{st2:SortSt},SB a₀ kd rs.toArray (arrOf st1) lo st2->ST a₀ kd lt rs lo st2:=λ{st2} hB2=>⟨Array.perm_iff_toList_perm.mp hB2.pm,hB2.kind,hB2.fl,hB2.pd,hT.ok.congr λj _ hj=>by rw [Array.getElem?_toList,hB2.fx j hj, <-Array.getElem?_toList],hT.le⟩
   refine wpS_bind (yON (d:=d) C hD hB (n:=a₀.size - lo) (by omega) (by omega) λm st2 hB2 hm1 hm2 hu=>?_)
   dsimp only
   by_cases cm:m<r
   ·rw [iP cm]
    refine wpS_bind (zGE ?_)
    refine wpS_bind (yOO C hD hB2 (n:=min (a₀.size - lo) r) (by omega) (by omega) hu λst3 hB3 hu3=>?_)
    rw [iN (by simp)]
    exact yKT C hD (back hB3) (by omega) hu3.sl (by omega) λrs' st' hT'=>⟨_,rs',rfl,by omega,hT'⟩
   ·rw [iN cm]
    exact yKT C hD (back hB2) (by omega) hu.sl (by omega) λrs' st' hT'=>⟨_,rs',rfl,by omega,hT'⟩
 ·rintro c st1 ⟨lo,rs,rfl,hxl,hT⟩
  have hle:=hT.le
  have e:lo=a₀.size:=by omega
  subst e
  exact hq rs st1 hT
theorem yKV{rs:List Rn}(h2:2<=a₀.size)(h:ST a₀ kd lt rs a₀.size st)(hl:rs.length<=1):Dun a₀ lt st:=by
 refine⟨h.pm,h.fl,?_⟩
 match rs,hl,h.ok with
 |[],_,o=>exact absurd (show 0=a₀.size from o) (by omega)
 |[r],_,o=>
  obtain⟨e1,g1,s1,o2⟩:=o
  have e2:0+r.2.1=a₀.size:=o2
  have:=s1.pw
  rwa [List.drop_zero,take_of_length_le (by rw [Array.length_toList,h.size];omega)]at this
theorem yKW(C:Cmp M A E s kd D lt)(hD: ∀x,x∈a₀.toList->D x)(h2:2<=a₀.size){rs:List Rn}(h:ST a₀ kd lt rs a₀.size st){Q:U1->SortSt->Prop}(hq: ∀st',Dun a₀ lt st'->Q (none,()) st'):wpS M A E s (colp a₀.size) Q st:=by
 unfold colp
 have hl0:=h.ok.le
 refine wpS_forRange (I:=λx c st'=>c=((none,()):U1)/\ ∃rs,ST a₀ kd lt rs a₀.size st'/\(rs.length<=1\/rs.length+x<=a₀.size)) ?_ ?_ ⟨rfl,rs,h,.inr (by omega)⟩
 ·rintro x c st1 _ hx ⟨rfl,rs,hT,hl⟩
  refine wpS_bind (wpS_get ?_)
  have hsz:(pendingOf st1).size=rs.length:=by rw [hT.pd];simp
  by_cases c1:(pendingOf st1).size<=1
  ·rw [iP c1]
   exact wpS_pure (hq st1 (yKV h2 hT (by omega)))
  ·rw [iN c1]
   generalize hi:(if Option.any (λx=>decide (x<((pendingOf st1)[(pendingOf st1).size - 2+1]?).elim 0 λx=>x.2.1)) (if(pendingOf st1).size - 2>0 then Option.map (λx=>x.2.1) (pendingOf st1)[(pendingOf st1).size - 2 - 1]? else none)=true
      then(pendingOf st1).size - 2 - 1 else(pendingOf st1).size - 2)=i
   have hi2:i+1<rs.length:=by
    have key: ∀(P:Prop)[Decidable P](n:Nat),2<=n->(if P then n - 2 - 1 else n - 2)+1<n:=by
     intro P _ n hn
     by_cases c:P
     ·rw [iP c];omega
     ·rw [iN c];omega
    rw [<-hi, <-hsz]
    exact key _ _ (by omega)
   refine wpS_bind (yFJ C hD hT hi2 λrs' st' hT' hlen _=>?_)
   rw [iN (by simp)]
   exact wpS_pure ⟨rfl,rs',hT',by omega⟩
 ·rintro c st1 ⟨rfl,rs,hT,hl⟩
  refine hq st1 (yKV h2 hT ?_)
  rcases hl with hl|hl
  ·exact hl
  ·omega
theorem zXN(C:Cmp M A E s kd D lt)(hD: ∀x,x∈(arrOf st).toList->D x)(d:Keyed)(h2:2<=(arrOf st).size)(hk:kindOf st=kd)(hp:pendingOf st=#[])(hf:failedOf st=none)
  {Q:Unit->SortSt->Prop} (hq: ∀st',Dun (arrOf st) lt st'->Q () st'):wpS M A E s sortRuns' Q st:=by
 rw [zUP]
 unfold sRun
 refine wpS_bind (wpS_get ?_)
 refine wpS_bind (yKU C hD d ⟨List.Perm.refl _,hk,hf,hp,rfl,zero_le _⟩ λrs st1 hT=>?_)
 dsimp only
 refine wpS_bind (yKW C hD h2 hT λst2 hd=>?_)
 exact wpS_pure (hq st2 hd)
end
end Srt
set_option autoImplicit false
set_option autoImplicit false
namespace Srt
open PySem PyProof.Rows
section
variable{prog:Program}{w:World}{A:Around}{E:VP}{s:Shared}
theorem yOQ{α β:Type}{f:α->Sem β}{g:α->β}{M:Model}(l:List α)(h: ∀x,x∈l->wpAny M A (f x) (λr s'=>s'=s/\r=g x) E s):wpAny M A (l.mapM f) (λr s'=>s'=s/\r=l.map g) E s:=by
 induction l with
 |nil=>rw [List.mapM_nil];exact wP0 ⟨rfl,rfl⟩
 |cons x l ih=>
  rw [List.mapM_cons]
  refine wB0 (wpAny_mono (h x mF0) (λr s' hr=>?_) λ_ _ e=>e)
  rw [hr.1,hr.2]
  refine wB0 (wpAny_mono (ih λy hy=>h y (mO _ hy)) (λr s' hr=>?_) λ_ _ e=>e)
  rw [hr.1,hr.2]
  exact wP0 ⟨rfl,rfl⟩
theorem yAF{α β:Type}{f:α->Sem β}{g:α->β}{M:Model}{l:List α}(h: ∀x,x∈l->wpAny M A (f x) (λr s'=>s'=s/\r=g x) E s):wpAny M A (l.toArray.mapM f) (λr s'=>s'=s/\r=(l.map g).toArray) E s:=by
 rw [List.mapM_toArray]
 show wpAny M A (List.toArray<$>l.mapM f) _ E s
 rw [map_eq_pure_bind]
 refine wB0 (wpAny_mono (yOQ l h) (λr s' hr=>?_) λ_ _ e=>e)
 obtain⟨rfl,rfl⟩:=hr
 exact wP0 ⟨rfl,rfl⟩
def TupAt(h:Heap)(a:Addr)(its:List Value):Prop:= ∃o n,h.get? a=some o/\o.cls=.type "tuple"/\o.data=.seq its.toArray n
theorem zPB(v:Value):firstOfTuple' v=(do
  if(<-typeOf v) !=.type "tuple" then return none
  return (<-Builtin.List.listItems v)[0]?):=rfl
theorem yKX{M:Model}{a:Addr}{its:List Value}(h:TupAt s.heap a its):wpAny M A (firstOfTuple' (.ref a)) (λr s'=>s'=s/\r=its[0]?) E s:=by
 obtain⟨o,n,h1,h2,h3⟩:=h
 rw [zPB]
 refine wB0 (wpAny_typeOf (T:="tuple") ⟨o,h1,h2⟩ ?_)
 rw [iN (by simp)]
 refine wB0 (listItems_at h1 h3 ?_)
 exact wP0 ⟨rfl,by simp⟩
end
end Srt
set_option autoImplicit false
namespace Srt
open PySem PyProof.Rows
inductive LexS(A:Around)(s:Shared):List Value->List Value->Bool->Prop
 |nn:LexS A s [] [] false
 |nc (x xs):LexS A s [] (x::xs) true
 |cn (y ys):LexS A s (y::ys) [] false
 |eq {y x ys xs k}:SeqAt.EqAt A s y x true->LexS A s ys xs k->LexS A s (y::ys) (x::xs) k
 |ne {y x ys xs k}:SeqAt.EqAt A s y x false->(∀(prog:Program)(w:World)(E Q:VP),Q (.bool k) s->wpAny (model prog w) A (richCompare .Lt y x) Q E s)->LexS A s (y::ys) (x::xs) k
section
variable{prog:Program}{w:World}{A:Around}{E:VP}{s:Shared}
theorem ySX(c:Bool)(x y:Value):keyLt' (tuples' c) x y=(Builtin.List.listItems x >>= λxs=>Builtin.List.listItems y >>= λys=>
  (forIn (xs.toList.zip ys.toList).zipIdx ((none,()):Option Bool×Unit) λz _=>eqBool z.1.1 z.1.2 >>= λe=>if(!e)=true then oneLt' (c&&z.2==0) z.1.1 z.1.2 >>= λr=>pure (.done (some r,()))else pure (.yield (none,()))) >>= λr=>
  match r.1 with
  |some r=>pure r
  |none=>pure (decide (xs.size<ys.size))):=by kernel_rfl
theorem ySY(x y:Value):oneLt' false x y=richCompare .Lt x y >>= λv=>truthOfDropped v:=by rw [oneLt'_eq];rfl
theorem yDF{b:Bool}{Q:Bool->Shared->Prop}(h:Q b s):wpAny (model prog w) A (truthOfDropped (.bool b)) Q E s:=wpAny_truthy_bool h
theorem wp_lt{kd:SortKind}{x y:Keyed}{k:Bool}{st:SortSt}(hk:kindOf st=kd)(h: ∀(E:VP)(Q:Bool->Shared->Prop),Q k s->wpAny (model prog w) A (keyLt' kd x.1 y.1) Q E s){Q:Option Bool->SortSt->Prop}(hq:Q (some k) st):
  wpS (model prog w) A E s (lt' x y) Q st:=by
 rw [lt'_eq]
 refine wpS_bind (wpS_get ?_)
 rw [hk]
 refine wpS_bind (wpS_lift (wpAny_attempt (h _ _ ⟨rfl,?_⟩)))
 exact wpS_pure hq
end
end Srt
set_option autoImplicit false
namespace Srt
open PySem PyProof.Rows
section
variable{prog:Program}{w:World}{A:Around}{E:VP}{s:Shared}
theorem yAG{M:Model}{l:List Value}(hl:l≠[])(h: ∀x,x∈l-> ∃z tk,x=.str z tk):wpAny M A (oneTypeOnly' l.toArray) (λr s'=>s'=s/\r=some (.type "str")) E s:=by
 rw [oneTypeOnly'_eq]
 refine wB0 (wpAny_mono (yAF (g:=λ_=>Value.type "str") λx hx=>?_) (λr s' hr=>?_) λ_ _ e=>e)
 ·obtain⟨z,tk,rfl⟩:=h x hx
  exact wP0 ⟨rfl,rfl⟩
 ·obtain⟨rfl,rfl⟩:=hr
  match l,hl with
  |x::l,_=>
   have h0:(List.map (λ_=>Value.type "str") (x::l)).toArray[0]? =some (Value.type "str"):=by simp
   have hall:((List.map (λ_=>Value.type "str") (x::l)).toArray.all λx=>x==Value.type "str")=true:=by
    simp only [List.all_toArray,all_map,all_eq_true]
    intro _ _
    rfl
   rw [h0]
   dsimp only
   rw [hall]
   exact wP0 ⟨rfl,rfl⟩
theorem wp_kindS{M:Model}{keys:List Value}(hl:keys≠[])(h: ∀x,x∈keys-> ∃a its z tk r,x=.ref a/\TupAt s.heap a its/\its=.str z tk::r):
  wpAny M A (keyKind' keys.toArray) (λk s'=>s'=s/\k=tuples' true) E s:=by
 rw [keyKind'_eq]
 have hg: ∀x, ∃y:Option Value,x∈keys->(∃z tk,y=some (.str z tk))/\ ∀M:Model,wpAny M A (firstOfTuple' x) (λr s'=>s'=s/\r=y) E s:=by
  intro x
  by_cases hx:x∈keys
  ·obtain⟨a,its,z,tk,r,rfl,h1,rfl⟩:=h x hx
   exact⟨some (.str z tk),λ_=>⟨⟨z,tk,rfl⟩,λM=>yKX h1⟩⟩
  ·exact⟨none,λz=>absurd z hx⟩
 let g:=λx=>Classical.choose (hg x)
 have gs: ∀x,x∈keys->(∃z tk,g x=some (.str z tk))/\ ∀M:Model,wpAny M A (firstOfTuple' x) (λr s'=>s'=s/\r=g x) E s:=λx hx=>Classical.choose_spec (hg x) hx
 refine wB0 (wpAny_mono (yAF (g:=g) λx hx=>(gs x hx).2 M) (λr s' hr=>?_) λ_ _ e=>e)
 obtain⟨rfl,rfl⟩:=hr
 rw [iP (by
  simp only [List.all_toArray,all_map,all_eq_true]
  intro x hx
  obtain⟨⟨b,jts,e⟩,_⟩:=gs x hx
  show(g x).isSome=true
  rw [e];rfl)]
 refine wB0 (wpAny_rule ?_)
 have ef:(keys.map g).toArray.filterMap id=((keys.map g).filterMap id).toArray:=by simp
 rw [ef]
 refine wB0 (wpAny_mono (yAG (l:=(keys.map g).filterMap id) ?_ ?_) (λr s' hr=>?_) λ_ _ e=>e)
 ·match keys,hl,gs with
  |x::l,_,gs=>
   obtain⟨⟨b,jts,e⟩,_⟩:=gs x mF0
   rw [map_cons,e]
   simp
 ·intro x hx
  obtain⟨y,hy,e⟩:=mem_filterMap.mp hx
  obtain⟨z,hz,e'⟩:=mM.mp hy
  obtain⟨⟨b,jts,e2⟩,_⟩:=gs z hz
  have:some x=some (Value.str b jts):=by rw [<-e2,e'];exact e.symm
  cases this
  exact⟨b,jts,rfl⟩
 ·obtain⟨rfl,rfl⟩:=hr
  refine wP0 ⟨rfl,?_⟩
  have:((some (Value.type "str")).any λx=>x !=Value.type "tuple")=true:=by rfl
  rw [this]
end
end Srt
set_option autoImplicit false
namespace Srt
open PySem PyProof.Rows
section
variable{prog:Program}{w:World}{A:Around}{E:VP}{s:Shared}
theorem yKY{m n:Nat}{k:Bool}(vs ws:List Value)(i:Nat)(hx:LexS A s vs ws k):1<=i->vs.length+n=ws.length+m->
   wpAny (model prog w) A (forIn ((vs.zip ws).zipIdx i) ((none,()):Option Bool×Unit) λz _=>eqBool z.1.1 z.1.2 >>= λe=>if(!e)=true then oneLt' (true&&z.2==0) z.1.1 z.1.2 >>= λr=>pure (.done (some r,()))else pure (.yield (none,())))
    (λr s'=>s'=s/\(r=(some k,())\/(r=(none,())/\k=decide (m<n)))) E s:=by
 induction hx generalizing i with
 |nn=>intro hi h;rw [zip_nil_left,zipIdx_nil,forIn_nil];exact wP0 ⟨rfl,.inr ⟨rfl,(dF0 (by simp at h;omega)).symm⟩⟩
 |nc x xs=>intro hi h;rw [zip_nil_left,zipIdx_nil,forIn_nil];exact wP0 ⟨rfl,.inr ⟨rfl,(dT0 (by simp at h;omega)).symm⟩⟩
 |cn y ys=>intro hi h;rw [List.zip_nil_right,zipIdx_nil,forIn_nil];exact wP0 ⟨rfl,.inr ⟨rfl,(dF0 (by simp at h;omega)).symm⟩⟩
 |eq he hr ih=>
  intro hi h
  rw [zip_cons_cons,zipIdx_cons,forIn_cons]
  refine wB0 (wB0 (he prog w E _ ?_))
  rw [iN (by simp)]
  exact wP0 (ih (i+1) (by omega) (by simpa using(by simp at h;omega)))
 |ne he hr=>
  intro hi h
  rw [zip_cons_cons,zipIdx_cons,forIn_cons]
  refine wB0 (wB0 (he prog w E _ ?_))
  rw [iP (by simp)]
  simp only [Bool.true_and]
  rw [show(i==0)=false by simp;omega,ySY]
  refine wB0 (wB0 (hr prog w E _ (yDF ?_)))
  exact wP0 (wP0 ⟨rfl,.inl rfl⟩)
theorem wp_keyLtS{l b:Addr}{x y:Str}{t u:Tok}{r r2:List Value}{e k:Bool}{Q:Bool->Shared->Prop}(hl:TupAt s.heap l (.str x t::r))(hb:TupAt s.heap b (.str y u::r2))(he:SeqAt.EqAt A s (.str x t) (.str y u) e)
  (hx:if e=true then LexS A s r r2 k else k=decide (x.cps.toList<y.cps.toList)) (hq:Q k s):
  wpAny (model prog w) A (keyLt' (tuples' true) (.ref l) (.ref b)) Q E s:=by
 obtain⟨o1,n1,a1,_,a3⟩:=hl
 obtain⟨o2,n2,b1,_,b3⟩:=hb
 rw [ySX]
 refine wB0 (listItems_at a1 a3 (wB0 (listItems_at b1 b3 ?_)))
 simp only [sA0]
 refine wB0 ?_
 rw [zip_cons_cons,zipIdx_cons,forIn_cons]
 refine wB0 (wB0 (he prog w E _ ?_))
 cases e with
 |true=>
  rw [iP rfl]at hx
  rw [iN (by simp)]
  refine wP0 ?_
  refine wpAny_mono (yKY r r2 1 hx (m:=(Value.str x t::r).length) (n:=(Value.str y u::r2).length) (le_refl _) (by simp only [lC];omega)) (λq s' h=>?_) λ_ _ e=>e
  obtain⟨rfl,rfl|⟨rfl,e⟩⟩:=h
  ·exact wP0 hq
  ·dsimp only
   rw [<-e]
   exact wP0 hq
 |false=>
  rw [iN xF0]at hx
  subst hx
  rw [iP (by simp)]
  refine wB0 (oneLt_str ?_)
  exact wP0 (wP0 (wP0 hq))
end
end Srt
set_option autoImplicit false
namespace Srt
open PySem PyProof.Rows
section
variable{prog:Program}{w:World}{A:Around}{E:VP}{s:Shared}
theorem sort_plain{a:Addr}{vs:List Value}{n0:Nat}{P:PySem.Fin->Shared->Prop}(ho:s.heap.get? a=some (seqObj "list" vs.toArray n0))(hl:vs.length<1000000)
  (hk: ∀s2:Shared,s2={s with heap:=((s.heap.update a (Obj.mapSeq λ_=>#[])).push (seqObj "tuple" vs.toArray 0)).push (seqObj "list" #[] 0)}-> ∃(kd:SortKind)(D:Keyed->Prop)(lt:Keyed->Keyed->Bool),
   (2<=vs.length->wpAny (model prog w) A (keyKind' vs.toArray) (λk s'=>s'=s2/\k=kd) E s2/\Cmp (model prog w) A E s2 kd D lt/\ ∀p,p∈vs.zip vs->D p)/\
   ∀out:List Keyed,out.Perm (vs.zip vs)->out.Pairwise (Le lt)->P (.done (.ret .none)) {s2 with heap:=s2.heap.update a (Obj.mapSeq λ_=>(out.map (·.2)).toArray)}):
  wpAny (model prog w) A (Builtin.«list.sort» ⟨[.ref a],[]⟩) P E s:=by
 unfold Builtin.«list.sort»
 dsimp only
 rw [iN (by simp),iN (by simp)]
 rw [forIn_nil]
 refine wB0 (wP0 ?_)
 have e1:List.lookup (Str.ofString "key") ([]:List (Str×Value))=none:=rfl
 have e2:List.lookup (Str.ofString "reverse") ([]:List (Str×Value))=none:=rfl
 rw [e1,e2]
 refine wB0 (wP0 ?_)
 have ha:a<s.heap.objs.size:=Heap.lt_size ho
 refine wB0 (listItems_at ho rfl ?_)
 refine wB0 (listUpdate_at ho rfl ?_)
 obtain⟨q,hq⟩: ∃q,(s.heap.update a (Obj.mapSeq λ_=>#[])).get? a=some (seqObj "list" #[] q):=⟨_,get?_update_seq ho (λ_=>#[])⟩
 dsimp only
 refine wB0 (seqEpoch_at hq rfl ?_)
 refine wB0 (wpAny_newTuple ?_)
 refine wB0 (wpAny_newList ?_)
 refine wpAny_holding ?_
 rw [iN (by simp)]
 dsimp only
 generalize hs2:({s with heap:=((s.heap.update a (Obj.mapSeq λ_=>#[])).push (seqObj "tuple" vs.toArray 0)).push (seqObj "list" #[] 0)}:Shared)=s2
 have g1:s2.heap.get? a=some (seqObj "list" #[] q):=by rw [<-hs2];exact hP0 _ (hP0 _ hq)
 obtain⟨kd,D,lt,g4,g5⟩:=hk s2 hs2.symm
 rw [iN (by simp)]
 refine wB0 (wP0 ?_)
 rw [iN (by simp)]
 have fin: ∀st:SortSt,failedOf st=none->(arrOf st).toList.Perm (vs.zip vs)->(arrOf st).toList.Pairwise (Le lt)->
   wpAny (model prog w) A (do
    let e <-seqEpoch a
    Builtin.List.listUpdate (.ref a) λ_=>(arrOf st).map (·.2)
    if(e !=q)=true then rule "list.sort.modified" >>= λ_=>raiseErrorWords "ValueError" "list modified during sort" >>= λ(_:Unit)=>ret .none else ret .none) P E s2:=by
  intro st hf hp hs
  refine wB0 (seqEpoch_at g1 rfl ?_)
  have hlen:((arrOf st).map (·.2)).size<=sizeLine+1:=by
   rw [Array.size_map, <-Array.length_toList,hp.length_eq,length_zip]
   have:=sizeLine_eq;omega
  refine wB0 (listUpdate_at g1 rfl ?_ (hsz2:=hlen))
  rw [iN (by simp)]
  have e3:(arrOf st).map (·.2)=((arrOf st).toList.map (·.2)).toArray:=by rw [<-Array.toList_map]
  rw [e3]
  exact wP0 (g5 _ hp hs)
 by_cases h2':vs.toArray.size<2
 ·rw [iP h2',iP h2']
  refine wB0 (wP0 ?_)
  rw [StateT.run_pure]
  refine wB0 (wP0 ?_)
  rw [iN (by simp)]
  have hz:(vs.zip vs).length<=1:=by rw [length_zip];simp at h2';omega
  refine fin (SortSt.mk' general' (vs.toArray.zip vs.toArray) #[] 7 none) rfl ?_ ?_
  ·show(vs.toArray.zip vs.toArray).toList.Perm _
   simp
  ·show(vs.toArray.zip vs.toArray).toList.Pairwise _
   have:(vs.toArray.zip vs.toArray).toList=vs.zip vs:=by simp
   rw [this]
   match vs.zip vs,hz with
   |[],_=>exact .nil
   |[x],_=>exact List.pairwise_singleton _ _
   |x::y::r,h=>simp at h
 ·rw [iN h2',iN h2']
  obtain⟨k1,k2,k3⟩:=g4 (by simp at h2';omega)
  refine wB0 (wpAny_mono k1 (λk s' hk'=>?_) λ_ _ e=>e)
  obtain⟨rfl,rfl⟩:=hk'
  have za:(arrOf (SortSt.mk' k (vs.toArray.zip vs.toArray) #[] 7 none)).toList=vs.zip vs:=by
   show(vs.toArray.zip vs.toArray).toList=_
   simp
  have zs:(arrOf (SortSt.mk' k (vs.toArray.zip vs.toArray) #[] 7 none)).size=vs.length:=by
   rw [<-Array.length_toList,za,length_zip,Nat.min_self]
  refine wB0 (wpAny_mono (zXN (st:=SortSt.mk' k (vs.toArray.zip vs.toArray) #[] 7 none) k2 (λp hp=>k3 p (by rw [za]at hp;exact hp)) (.none,.none) (by rw [zs];simp at h2';omega) rfl rfl rfl
   (Q:=λ_ st'=>Dun (arrOf (SortSt.mk' k (vs.toArray.zip vs.toArray) #[] 7 none)) lt st') λst' h=>h) (λr s3 hr=>?_) λ_ _ e=>e)
  obtain⟨⟨⟩,st'⟩:=r
  obtain⟨rfl,d1,d2,d3⟩:=hr
  dsimp only
  rw [iN (by simp)]
  have F:=fin st' d2 (by rw [<-za];exact d1) d3
  have d4:failedOf st'=none:=d2
  unfold failedOf at d4
  rw [d4]
  exact F
end
end Srt
namespace L2
namespace M
open PySem PySem.Spec PyProof.Rows
mutual
def zBN:MV->Bool
 |.int _=>true
 |.str _=>true
 |.tup ds=>zQA ds
 |_=>false
def zQA:List MV->Bool
 |[]=>true
 |d::ds=>zBN d&&zQA ds
end

theorem zVY{α β:Type}{g:α->β}{p m:List β}(h:p.Perm m): ∀l:List α,l.map g=p-> ∃l':List α,l'.Perm l/\l'.map g=m:=by
 induction h with
 |nil=>intro l e;exact⟨l,.refl _,e⟩
 |cons x _ ih=>
  intro l e
  cases l with
  |nil=>cases e
  |cons a l=>
   rw [map_cons]at e
   injection e with e1 e2
   obtain⟨l',p',q'⟩:=ih l e2
   exact⟨a::l',p'.cons a,by rw [map_cons,e1,q']⟩
 |swap x y t=>
  intro l e
  match l,e with
  |a::b::l,e=>
   rw [map_cons,map_cons]at e
   injection e with e1 e2
   injection e2 with e2 e3
   exact⟨b::a::l,.swap _ _ _,by rw [map_cons,map_cons,e1,e2,e3]⟩
 |trans _ _ ih1 ih2=>
  intro l e
  obtain⟨l1,p1,q1⟩:=ih1 l e
  obtain⟨l2,p2,q2⟩:=ih2 l1 q1
  exact⟨l2,p2.trans p1,q2⟩
section
variable{X:Cx}{α:List Addr}{S:Sto}{H:Hp}{pins:List (Addr×Obj)}{σ:St}{s:Shared}
mutual
theorem yFL(I:Inv X pins σ H s): ∀{d d':MV}{v:V},zBN d=true->zBN d'=true->Den X.K α H d v->Den X.K α H d' v->d=d'
 |.int i,d',v,_,h',q,q'=>by
  cases kX q
  cases d' with
  |int j=>cases kX q';rfl
  |str x=>cases wF q'
  |tup ds=>obtain⟨a,vs,e,_⟩:=wG q';cases e
  |_=>simp [zBN]at h'
 |.str x,d',v,_,h',q,q'=>by
  have e:=wF q
  cases d' with
  |int j=>rw [kX q']at e;cases e
  |str y=>rw [wF q']at e;injection e with e;rw [zWT e]
  |tup ds=>obtain⟨a,vs,e',_⟩:=wG q';rw [e']at e;cases e
  |_=>simp [zBN]at h'
 |.tup ds,d',v,h,h',q,q'=>by
  obtain⟨a,vs,e,t,l⟩:=wG q
  cases d' with
  |int j=>rw [kX q']at e;cases e
  |str y=>rw [wF q']at e;cases e
  |tup es=>
   obtain⟨a',vs',e',t',l'⟩:=wG q'
   rw [e]at e';cases e'
   have:=I.tuple_inj t t'
   subst this
   rw [yAH I (by unfold zBN at h;exact h) (by unfold zBN at h';exact h') l l']
  |_=>simp [zBN]at h'
theorem yAH(I:Inv X pins σ H s): ∀{ds es:List MV}{vs:List V},zQA ds=true->zQA es=true->DenL X.K α H ds vs->DenL X.K α H es vs->ds=es
 |[],[],_,_,_,_,_=>rfl
 |[],e::es,_,_,_,q,q'=>by obtain⟨v,r,e,_⟩:=q'.uncons;rw [q.isnil]at e;cases e
 |d::ds,[],_,_,_,q,q'=>by obtain⟨v,r,e,_⟩:=q.uncons;rw [q'.isnil]at e;cases e
 |d::ds,e::es,_,h,h',q,q'=>by
  obtain⟨v,r,rfl,a,l⟩:=q.uncons
  obtain⟨v',r',e',a',l'⟩:=q'.uncons
  cases e'
  unfold zQA at h h'
  rw [aE]at h h'
  rw [yFL I h.1 h'.1 a a',yAH I h.2 h'.2 l l']
end

theorem lexRS{A:Around}{xs ys:List Value}{k:Bool}(h:LexR A s xs ys k):Srt.LexS A s xs ys k:=by
 induction h with
 |nn=>exact .nn
 |nc x xs=>exact .nc x xs
 |cn x xs=>exact .cn x xs
 |eq a _ ih=>exact .eq a ih
 |ne a b=>exact .ne a b
theorem yDG(I:Inv X pins σ H s){ds:List MV}{x:V}{u:Value}(d:Den X.K α H (.tup ds) x)(r:RelV x u): ∃a vs its,u=.ref a/\DenL X.K α H ds vs/\Vals vs its/\Srt.TupAt s.heap a its/\IsTup s.heap a its.toArray:=by
 obtain⟨a,vs,rfl,t,l⟩:=wG d
 cases r
 obtain⟨its,r1,pt,_⟩:=I.tuple t
 obtain⟨o,h1,h2,n,h3⟩:=id pt
 exact⟨a,vs,its,rfl,l,r1,⟨o,n,h1,h2,h3⟩,pt⟩
end
structure OrdD(S:Sto)(ks:List MV):Prop where
 any: ∀a,a∈ks-> ∀b,b∈ks-> ∃t,ltv S zX a b=some t
 tr: ∀a,a∈ks-> ∀b,b∈ks-> ∀c,c∈ks->ltv S zX b a=some false->ltv S zX c b=some false->ltv S zX c a=some false
 as: ∀a,a∈ks-> ∀b,b∈ks->ltv S zX a b=some true->ltv S zX b a=some false
section
variable{X:Cx}{α:List Addr}{S:Sto}{H:Hp}{pins:List (Addr×Obj)}{σ:St}{s:Shared}{k:Nat}{fa:Addr}{fd:FuncData}{ps:List Str}{Fd:List MV->Sto->R Er}
theorem yHP{e:Addr}{ys:List V}{its:List Value}{n:Nat}(J:Inv X pins σ H s)(f:zNE X pins H e)(h0:X.s₀.heap.objs.size<=e)(he:s.heap.get? e=some (seqObj "list" its.toArray n))(hv:Vals ys its)(hz:ys.length<=sizeLine):Inv X pins σ (upd H e (.lst ys)) s:=by
 have s0: ∀o,X.s₀.heap.get? e≠some o:=λo z=>absurd (lt_of_lt_of_le (Heap.lt_size z) h0) (lt_irrefl _)
 refine⟨J.ok,J.os,J.bare,⟨J.base.keep,J.base.slot,λb ob' q n hx=>?_,J.base.there,λb xs q=>?_,λb o' u q=>?_,λb ps q=>?_⟩,J.loc,J.cell,?_,λx c hc=>?_,λp hp=>?_,λb u q=>?_,J.len⟩
 ·rw [zZ λz=>s0 ob' (by rw [<-z];exact q)]
  exact J.base.free b ob' q n hx
 ·rw [zZ (yK (J.base.tups b xs q) f.1)];exact J.base.tups b xs q
 ·rw [zZ (yK (J.base.frzs b o' u q) f.1)];exact J.base.frzs b o' u q
 ·obtain⟨mo,z⟩:=J.base.tbls b ps q
  exact⟨mo,by rw [zZ (yK z f.1)];exact z⟩
 ·rw [zZ (Ne.symm f.2.1)];exact J.free
 ·rw [zZ (f.2.2.2.2.1 x c hc)];exact J.freeC x c hc
 ·obtain⟨e1,n,ne,nf,dd⟩:=J.pin p hp
  exact⟨e1,by rw [zZ (f.2.2.2.2.2 p hp)];exact n,ne,nf,dd⟩
 ·by_cases z:b=e
  ·subst z
   rw [xU]at q
   cases q
   exact⟨hz,its,n,hv,he⟩
  ·rw [zZ z]at q
   exact(J.hok b u q).stay (λ_ _ _ r=>r) (λc r=>by rw [zZ (yK r f.1)];exact r) λc xs r=>by rw [zZ (yK r f.1)];exact r
noncomputable def zXO(K:PySem.W.Frag)(α:List Addr)(H:Hp)(kds:List MV)(u:Value):MV:=
 open Classical in if h: ∃d v,d∈kds/\Den K α H d v/\RelV v u then Classical.choose h else kds.headD .non
noncomputable def ltV(K:PySem.W.Frag)(α:List Addr)(H:Hp)(S:Sto)(kds:List MV)(p q:Keyed):Bool:=(ltv S zX (zXO K α H kds p.1) (zXO K α H kds q.1)).getD false
theorem nH{K:PySem.W.Frag}{kds:List MV}(hne:kds≠[])(u:Value):zXO K α H kds u∈kds:=by
 unfold zXO
 split
 ·rename_i h
  obtain⟨v,h1,_⟩:=Classical.choose_spec h
  exact h1
 ·match kds,hne with
  |x::l,_=>exact mF0
theorem zSP{K:PySem.W.Frag}{kds:List MV}{u:Value}(h: ∃d v,d∈kds/\Den K α H d v/\RelV v u): ∃v,Den K α H (zXO K α H kds u) v/\RelV v u:=by
 unfold zXO
 rw [dif_pos h]
 obtain⟨v,_,h2,h3⟩:=Classical.choose_spec h
 exact⟨v,h2,h3⟩
theorem yKZ(I:Inv X pins σ H s){kds:List MV}{kvs:List V}{ks:List Value}(hpu: ∀d,d∈kds->zBN d=true)(dk:DenL X.K α H kds kvs)(vk:Vals kvs ks){i:Nat}{u:Value}{a:MV}(hu:ks[i]? =some u)(ha:kds[i]? =some a):
  zXO X.K α H kds u=a:=by
 obtain⟨v,hv,da⟩:=dk.at ha
 obtain⟨u',hu',r⟩:=vk.get hv
 rw [hu]at hu';cases hu'
 have ma:a∈kds:=mem_of_getElem? ha
 have ne:kds≠[]:=λz=>by rw [z]at ma;cases ma
 obtain⟨v',d',r'⟩:=zSP (K:=X.K) (α:=α) (H:=H) ⟨a,v,ma,da,r⟩
 rw [r'.inj r]at d'
 exact yFL I (hpu _ (nH ne u)) (hpu a ma) d' da
end
section
variable{X:Cx}{α:List Addr}{S:Sto}{H:Hp}{pins:List (Addr×Obj)}{σ:St}{s:Shared}{k:Nat}{fa:Addr}{fd:FuncData}{ps:List Str}{Fd:List MV->Sto->R Er}
theorem yHQ{ks its:List Value}{N:Nat}(h1:ks.length=N)(h2:its.length=N):(List.range N).map (λi=>((ks[i]?).getD .none,(its[i]?).getD .none))=ks.zip its:=by
 apply ext_getElem?
 intro i
 rw [getElem?_map]
 by_cases hi:i<N
 ·have e:(ks.zip its)[i]? =some (ks[i]'(by omega),its[i]'(by omega)):=by
   rw [List.getElem?_zip_eq_some]
   exact⟨gE0 _,gE0 _⟩
  rw [List.getElem?_range hi,e]
  show some ((ks[i]?).getD .none,(its[i]?).getD .none)=_
  rw [gE0 (by omega),gE0 (by omega)]
  rfl
 ·rw [getElem?_eq_none (by rw [length_range];omega),getElem?_eq_none (by rw [length_zip];omega)]
  rfl
theorem zSQ{β:Type}{l:List β}{d:β}{idx:List Nat}(h: ∀i,i∈idx->i<l.length):idx.map (λi=>(l[i]?).getD d)=idx.filterMap (l[·]?):=by
 induction idx with
 |nil=>rfl
 |cons i idx ih=>
  have hi:=h i mF0
  rw [map_cons,filterMap_cons_some (gE0 hi),ih λj hj=>h j (mO _ hj),gE0 hi]
  rfl
end
def yFM(S:Sto)(ds kds r:List MV):Prop:= ∃idx:List Nat,idx.Perm (List.range ds.length)/\idx.Pairwise (λi j=> ∀a c,kds[i]? =some a->kds[j]? =some c->ltv S zX c a=some false)/\r=idx.filterMap (ds[·]?)
open Classical in
open Classical in
section
variable{X:Cx}{W:XW}{a b o i:Expr}{f g:AX}{pos:Pos}{pins:List (Addr×Obj)}{σ:St}{H:Hp}{s:Shared}{α:List Addr}
end
def VAt(d:Addr)(us:List Value)(ep:Nat)(h:Heap):Prop:= ∃o es,h.get? d=some o/\o.ExactDict/\o.data=.dict es ep/\es.toList.map (·.val)=us
theorem VAt.at{d:Addr}{us:List Value}{ep:Nat}{h h':Heap}(x:VAt d us ep h)(m: ∀o,h.get? d=some o->h'.get? d=some o):VAt d us ep h':=let ⟨o,es,ho,r⟩:=x;⟨o,es,m o ho,r⟩
theorem VAt.size{d:Addr}{us:List Value}{ep:Nat}{h:Heap}(x:VAt d us ep h): ∃o es,h.get? d=some o/\o.ExactDict/\o.data=.dict es ep/\es.size=us.length/\ ∀i (hi:i<es.size),us[i]? =some es[i].val:=by
 obtain⟨o,es,ho,hc,hd,e⟩:=x
 refine⟨o,es,ho,hc,hd,by rw [<-e,lM,Array.length_toList],λi hi=>?_⟩
 rw [<-e,getElem?_map,Array.getElem?_toList,Array.getElem?_eq_getElem hi]
 rfl
end M
end L2
namespace L2
open PySem PySem.Spec PyProof.Rows
abbrev BIG:Nat:=10 ^ 100
section
variable{X:Cx}{par:Str}{i:Nat}{pins:List (Addr×Obj)}{σ:St}{H:Hp}
def tJ(i:Nat):TE:=λσ H Q=> ∃n,σ[i]? =some (some (.int n))/\n.natAbs<BIG/\ ∀y:Str,Q (.str y) H
end
end L2
namespace L2
namespace M
open PySem PySem.Spec PyProof.Rows
structure DefM(K:PySem.W.Frag)(mg:Str->Option Value)(x:Str)(st:Stmt):Prop where
 ex: ∃f fd,mg x=some (.ref f)/\Fun K x x st f fd
theorem def_mk{K:PySem.W.Frag}{mg:Str->Option Value}{h:Heap}{x:Str}{st:Stmt}{g:Addr}{od an:Option Addr}{sl:Array (Option Value)}{oc kV dc pm cd ct:Value}(a:PySem.W.nsIn K mainGlobals x=some (some (.ref g)))
  (l:K.lookup g=some ⟨oc,od,.func (PySem.W.fnOf x x (kE st) (wB st) (zI st) .none kV dc pm an cd ct),sl⟩) (c:PySem.W.codeIn K cd x=true) (k:PySem.W.keepIn K (.ref g)=true) (X:K.In h) (GG:h.Ns mainGlobals mg):DefM K mg x st:=⟨_,_,PySem.W.mg_of X GG a,zGL l c k⟩
structure Cal(P:Program)(w:World)(K:PySem.W.Frag)(mg:Str->Option Value)(base:Heap)(CX:CXT)(x:Str)(k:Nat)(ps:List Str)(sp:Sp):Prop where
 ex: ∃fa fd,FnOk P w K mg base CX k fa fd ps sp/\mg x=some (.ref fa)/\PySem.W.keepIn K (.ref fa)=true/\Binds K fd ps []
abbrev CalM(P:Program)(w:World)(K:PySem.W.Frag)(mg:Str->Option Value)(base:Heap)(x:Str)(k n:Nat)(ps:List Str)(F:List MV->Sto->R Er):Prop:=Cal P w K mg base CX0 x k ps (spM ⟨K,mg,P,w⟩ n F)
abbrev CalX(P:Program)(w:World)(K:PySem.W.Frag)(mg:Str->Option Value)(base:Heap)(x:Str)(k n:Nat)(ps:List Str)(F:List MV->Sto->R Er):Prop:=Cal P w K mg base (CXe P w) x k ps (spX ⟨K,mg,P,w⟩ n F)
section
variable{P:Program}{w:World}{K:PySem.W.Frag}{mg:Str->Option Value}{base:Heap}{x:Str}{st:Stmt}{N ps:List Str}{k n:Nat}{F:List MV->Sto->R Er}
abbrev ySZ(x:Str)(st:Stmt)(ps:List Str):Prop:= ∀(kV doc pm:Value)(an:Option Addr)(cdv ct:Value)(us:List Value),us.length=ps.length->bindArgs (PySem.W.fnOf x x (kE st) (wB st) (zI st) .none kV doc pm an cdv ct) ⟨us,[]⟩=pure (ps.zip us)
theorem okC(D:DefM K mg x st)(hb:ySZ x st ps)(h: ∀f fd,Fun K x x st f fd->FnOk P w K mg base CX0 k f fd ps (spM ⟨K,mg,P,w⟩ n F)):CalM P w K mg base x k n ps F:=
 let ⟨f,fd,m,Fu⟩:=D.ex;⟨f,fd,h f fd Fu,m,Fu.kp,Fu.binds hb⟩
theorem Cal.noX(G:CalX P w K mg base x k n ps F):CalM P w K mg base x k n ps F:=let ⟨fa,fd,G,m,kp,b⟩:=G.ex;⟨fa,fd,G.noX,m,kp,b⟩
theorem yTA{l:PySem.W.OpenLaw}{fa:Addr}{p:Str}(D:DefM K mg x st)(hfa:mg x=some (.ref fa))(hb: ∀(kV doc pm:Value)(an:Option Addr)(cdv ct:Value)(s:Shared)(v:Value),BindsTo s (PySem.W.fnOf x x (kE st) (wB st) (zI st) .none kV doc pm an cdv ct) ⟨[v],[]⟩ [(p,v)])
  (h: ∀base f fd,Fun K x x st f fd->FnOk l.prog w K mg base CX0 k f fd [p] (spM ⟨K,mg,l.prog,w⟩ 1 F)):
  ∃fd:FuncData,(∀(s:Shared)(v:Value),BindsTo s fd ⟨[v],[]⟩ [(p,v)])/\ ∀base:Heap,K.In base->base.Ns mainGlobals mg->FnOk l.prog w K mg base CX0 k fa fd [p] (zVV K F):=by
 obtain⟨f,fd,m,Fu⟩:=D.ex
 rw [hfa]at m
 cases m
 refine⟨fd,?_,λbase _ _=>(h base fa fd Fu).imp λvs H Q E=>yKF (g:=⟨K,mg,l.prog,w⟩) vs H Q E⟩
 obtain⟨_,_,_,_,_,_,_,_,_,rfl,_,_⟩:=Fu.ex
 exact hb _ _ _ _ _ _
end
section
variable{X:Cx}{W:XW}{E:XK}{e:Expr}{es:List Expr}{af:Rho->Sto->R (List Er)}{k n:Nat}{ps:List Str}{F:List MV->Sto->R Er}{x:Str}{p pos:Pos}
theorem zH(G:CalM X.prog X.w X.K X.mg X.base x k n ps F)(hr:Room k X.A)(hg:Gl X x)(ha:PAm X W (e::es) af)(hdb:(x==("__debug__":Str))=false:=by decide)
  (he:starEach (e::es) X.env=(false,eval e X.env)::starEach es X.env:=by rfl) (hpl:(backTo pos (starEach es X.env)).any (·.1)=false:=by rfl):PEm X W (.Call (.Name x p) (e::es) [] pos) (λρ S=>(af ρ S).bind λrs S1=>zT n F rs S1):=
 let ⟨_,_,G,m,kp,b⟩:=G.ex;yNJ G hr hg m kp b ha hdb he hpl
variable{M:Addr}{cs:List (Str×Addr)}{i j:Nat}{nm y:Str}{Fh:AY}{b0:Stmt}{suite:List Stmt}{mp hpos cpos epos pos':Pos}{ns:List Str}
end
end M
end L2
namespace L2
open PySem PySem.Spec PyProof.Rows
structure RoomH(k:Nat)(A:Around):Prop where
 dp:A.depth+3 * k+5<recursionLimit
 un:A.units+16 * k+200<cLine
theorem RoomH.depth{k:Nat}{A:Around}(r:RoomH k A):A.depth<recursionLimit:=by have:=r.dp;omega
theorem RoomH.units{k:Nat}{A:Around}(r:RoomH k A):A.units+64<cLine:=by have:=r.un;omega
structure FnOkH(P:Program)(w:World)(K:PySem.W.Frag)(mg:Str->Option Value)(base:Heap)(k:Nat)(f:Addr)(fd:FuncData)(ps:List Str)(sp:Sp):Prop where
 len: ∀vs H Q E,sp vs H Q E->vs.length=ps.length
 run: ∀(A:Around)(outer:List Env)(s:Shared)(H:Hp)(args:Args)(us:List Value)(vs:List V)(Q:VK)(E:XK),RoomH k A->Env0 P w K mg base A outer s H->BindsTo s fd args (ps.zip us)->Vals vs us->sp vs H Q E->
  codeAny (model P w) A (.call (.ref f) args) (CR CX0 outer P w H s Q E) s
namespace M
section
variable{P:Program}{w:World}{K:PySem.W.Frag}{mg:Str->Option Value}{base:Heap}{x:Str}{st:Stmt}{N ps:List Str}{k n:Nat}{F:List MV->Sto->R Er}
structure CalH(P:Program)(w:World)(K:PySem.W.Frag)(mg:Str->Option Value)(base:Heap)(x:Str)(k n:Nat)(ps:List Str)(F:List MV->Sto->R Er):Prop where
 ex: ∃fa fd,FnOkH P w K mg base k fa fd ps (spM ⟨K,mg,P,w⟩ n F)/\mg x=some (.ref fa)/\PySem.W.keepIn K (.ref fa)=true/\Binds K fd ps []
end
def maxF:List Er->Sto->R Er
 |[.val (.int i),.val (.int j)],S=>.ok (.val (.int (if j>i then j else i))) S
 |_,_=>.no
def minF:List Er->Sto->R Er
 |[.val (.int i),.val (.int j)],S=>.ok (.val (.int (if j<i then j else i))) S
 |_,_=>.no
section
variable{X:Cx}{W:XW}
theorem yTB:zNI X W (λxs H Q=> ∃i j,xs=[.int i,.int j]/\Q (.int (if j<i then j else i)) H) minF:=by
 intro rs vs α S H Q wd d post
 unfold minF at post
 split at post
 ·obtain⟨v,u,rfl,dv,du⟩:=yQB d
  cases xL dv
  cases xL du
  exact⟨_,_,rfl,Post.val post wd (jL _)⟩
 ·exact post.elim
end
theorem yTC:bootBuiltins "min"=some (.builtin "min"):=by decide+kernel
section
variable{X:Cx}{W:XW}{o e:Expr}{es:List Expr}{f:AX}{af:Rho->Sto->R (List Er)}{apos pos:Pos}
def lit3F(kvs:List (MV×MV))(S:Sto):R Er:=.ok (.val (.loc S.length)) (S++[.dic kvs])
end
noncomputable section
variable{α β:Type}
def vJ(i:Nat)(ρ:Rho)(S:Sto):R Er:=rdSl (ρ[i]?) S
def kJ(d:MV)(_:Rho)(S:Sto):R Er:=.ok (.val d) S
def bJ(f:Rho->Sto->R α)(F:α->Sto->R β)(ρ:Rho)(S:Sto):R β:=(f ρ S).bind F
def dJ(F:Er->Er->Sto->R Er)(f g:AX)(ρ:Rho)(S:Sto):R Er:=(f ρ S).bind λp S=>(g ρ S).bind λq S=>F p q S
def nJ(f:AX)(ρ:Rho)(S:Sto):R Er:=(f ρ S).bind λp S=>(asB p S).bind λk S=>.ok (.val (.bl !k)) S
def aJ(f g:AX)(ρ:Rho)(S:Sto):R Er:=(f ρ S).bind λp S=>zRV p S λS=>g ρ S
def oJ(f g:AX)(ρ:Rho)(S:Sto):R Er:=(f ρ S).bind λp S=>orF p S λS=>g ρ S
def iJ(c:AZ)(f g:Rho->Sto->R α)(ρ:Rho)(S:Sto):R α:=(c ρ S).bind λk S=>if k=true then f ρ S else g ρ S
def mJ(_:Rho)(S:Sto):R (Option Int):=.ok none S
def tJ(F:Er->Option Int->Option Int->Sto->R Er)(f:AX)(g h:Rho->Sto->R (Option Int))(ρ:Rho)(S:Sto):R Er:=(f ρ S).bind λp S=>(g ρ S).bind λl S=>(h ρ S).bind λu S=>F p l u S
def lJ(k:List (MV×MV))(_:Rho)(S:Sto):R Er:=lit3F k S
def zJ(_:Rho)(S:Sto):R Er:=newDF S
def fJ(n:Nat)(F:List MV->Sto->R Er)(a:Rho->Sto->R (List Er))(ρ:Rho)(S:Sto):R Er:=(a ρ S).bind λr S=>zT n F r S
def xJ(n:Nat)(F:List MV->Sto->R Er)(a:Rho->Sto->R (List Er))(ρ:Rho)(S:Sto):R Er:=(a ρ S).bind λr S=>yEY n F r S
def hJ(F:List MV->Sto->R Er)(_:Rho)(S:Sto):R Er:=zT 0 F [] S
def eJ(t:Er->Sto->Bool)(F:Er->List Er->Sto->R Er)(f:AX)(a:Rho->Sto->R (List Er))(ρ:Rho)(S:Sto):R Er:=(f ρ S).bind λp S=>if t p S=true then(a ρ S).bind λr S=>F p r S else .no
def gJ(t:Er->Sto->Bool)(F:Er->List Er->Sto->R Er)(f:AX)(ρ:Rho)(S:Sto):R Er:=(f ρ S).bind λp S=>if t p S=true then F p [] S else .no
def uJ(_:Rho)(S:Sto):R Bool:=.ok true S
def pJ(i:Rho->Sto->R Wk)(g:MV->Rho->Sto->R Rho)(c:AZ)(e:AX)(n:Nat)(I:List Nat)(ρ:Rho)(S:Sto):R Er:=(i ρ S).bind λk S=>if k.ds.length<1000000 then(xC g c e (blk n I ρ) k.gs k.ds S).bind λo S=>.ok (.new o) S else .no
def jJ(F G:Er->Er->Sto->R Er)(f g h:AX)(ρ:Rho)(S:Sto):R Er:=(f ρ S).bind λp S=>(g ρ S).bind λq S=>chF F G p q S λS=>h ρ S
def qJ(f:AZ)(ρ:Rho)(S:Sto):R Bool:=(f ρ S).bind λk S=>.ok (!k) S
def rJ(f g:AZ)(ρ:Rho)(S:Sto):R Bool:=(f ρ S).bind λk S=>if k=true then g ρ S else .ok false S
def sJ(f g:AZ)(ρ:Rho)(S:Sto):R Bool:=(f ρ S).bind λk S=>if k=true then .ok true S else g ρ S
def wJ(_:Rho)(S:Sto):R (List Er):=.ok [] S
def yJ(f:AX)(g:Rho->Sto->R (List Er))(ρ:Rho)(S:Sto):R (List Er):=(f ρ S).bind λp S=>(g ρ S).bind λl S=>.ok (p::l) S
def AJ(f:AX)(ρ:Rho)(S:Sto):R Fl:=(f ρ S).bind λr S=>.ok (.ret r) S
def BJ(f:AX)(ρ:Rho)(S:Sto):R Fl:=(f ρ S).bind λ_ S=>.ok (.next ρ) S
def CJ(f:AX)(i:Nat)(ρ:Rho)(S:Sto):R Fl:=(f ρ S).bind (zXA ρ i)
def DJ(F:Er->Er->MV->Rho->Sto->R Rho)(f g:AX)(d:MV)(ρ:Rho)(S:Sto):R Rho:=(f ρ S).bind λp S=>(g ρ S).bind λq S=>F p q d ρ S
def EJ(f:AX)(g:MV->Rho->Sto->R Rho)(ρ:Rho)(S:Sto):R Fl:=(f ρ S).bind (asgF g ρ)
def FJ(i:Rho->Sto->R Wk)(g:MV->Rho->Sto->R Rho)(b:AY)(ρ:Rho)(S:Sto):R Fl:=(i ρ S).bind λk S=>zCC g b k.gs k.ds ρ S
def GJ(a:Rho->Sto->R (List Er))(c:Str)(ρ:Rho)(S:Sto):R Fl:=(a ρ S).bind λr S=>if r.length<=10 then .exc c [] S else .no
def HJ(cs:List Str)(i:Nat)(h:AY)(n:Nat)(F:List MV->Sto->R Er)(a:Rho->Sto->R (List Er))(ρ:Rho)(S:Sto):R Fl:=(noX (a ρ S)).bind λr S=>tryF cs i (λ_ S=>.ok (.next ρ) S) h ρ (yEY n F r S)
def IJ(cs:List Str)(i j:Nat)(h:AY)(n:Nat)(F:List MV->Sto->R Er)(a:Rho->Sto->R (List Er))(ρ:Rho)(S:Sto):R Fl:=(noX (a ρ S)).bind λr S=>tryF cs i (zXA ρ j) h ρ (yEY n F r S)
def JJ(ρ:Rho)(S:Sto):R Fl:=.ok (.next ρ) S
end
section
variable{X:Cx}{W:XW}{a e:Expr}{tg:Expr}{p pos:Pos}{ta:TA}{f:AX}{af:Rho->Sto->R (List Er)}
def augF(F:Er->Er->Sto->R Er)(i:Nat)(f:AX)(ρ:Rho)(S:Sto):R Fl:=(rdSl (ρ[i]?) S).bind λp S1=>(f ρ S1).bind λq S2=>(F p q S2).bind (zXA ρ i)
theorem zSR:bootBuiltins "sorted"=some (.builtin "sorted"):=by decide+kernel
end
noncomputable section
def KJ(n:Nat)(F:List MV->Sto->R Er)(a:Rho->Sto->R (List Er))(ρ:Rho)(S:Sto):R Er:=(noX (a ρ S)).bind λr S=>yEY n F r S
def LJ(c:AZ)(f g:AX)(ρ:Rho)(S:Sto):R Er:=(noX (c ρ S)).bind λk S=>if k=true then f ρ S else g ρ S
def MJ(cs:List Str)(i:Nat)(h:AY)(f:AX)(ρ:Rho)(S:Sto):R Fl:=tryF cs i (λ_ S=>.ok (.next ρ) S) h ρ (f ρ S)
end
section
variable{X:Cx}{W:XW}{a:Expr}{af:Rho->Sto->R (List Er)}{ta:TA}{pos pos2 p2 p3:Pos}
def yHR(r:Addr)(j:Int):HO:=.ext λh=> ∃t u v,IsRange h r 0 j 1 t u v
theorem yTD(hg:Gl X "range")(hm:X.mg "range"=none)(ha:PA X [a] ta)(hs:starEach [a] X.env=[(false,eval a X.env)]:=by rfl):
  PE X (.Call (.Name "range" p3) [a] [] pos2) (λσ H Q=>ta σ H λvs H1=> ∃j:Int,vs=[.int j]/\ ∀r,H1 r=none->Q (.ref r) (upd H1 r (yHR r j))):=by
 intro pins s σ H Q I h
 refine Call_ (zOM I hg hm boot_range (PyProof.Rows.callWith_type1 (thn (ha pos2 pins s σ H _ I h) λus s1 ⟨vs,H1,I1,r1,q1⟩=>?_) hs rfl))
 obtain⟨j,rfl,q⟩:=q1
 obtain⟨u,rfl,t,rfl⟩:=vals1 r1
 refine call_range_1 ?_
 have hlt:H1 s1.heap.objs.size=none:=I1.hok.fresh (le_refl _)
 refine⟨.ref s1.heap.objs.size,_,I1.laid (o:=yHR s1.heap.objs.size j) (t':=s1.toks+1+1) (λb o e=>hP0 _ e) (le_refl _) ⟨⟨_,_,_,IsRange.new ..⟩,⟨_,Heap.get?_push_size _ rfl⟩,?_⟩,rfl,q _ hlt⟩
 rintro h1 h2 ⟨t,u,v,hr⟩ mv
 exact⟨t,u,v,mv _ hr⟩
theorem zUQ{prog:Program}{w:World}{A:Around}{E:VP}{s:Shared}{Q:List Value->Shared->Prop}{r:Addr}{a b c:Int}{t u v:Tok}{n:Nat}(hh:A.handled=none)(hr:IsRange s.heap r a b c t u v)(hsmall:Builtin.Range.small a b c=true)
  (hn:Builtin.Range.rangeSize a b c=n) (hlen:n<=2 ^ 24) (hQ: ∀h' tk acc',(∀b o,s.heap.get? b=some o->h'.get? b=some o)->ItemsOf (λi v=> ∃t,v=.int (a+i * c) t) acc' n->Q acc'.toList {s with heap:=h',toks:=tk}):
  wpAny (model prog w) A (collect (.ref r)) Q E s:=by
 unfold collect
 refine wB0 (wpAny_runValue (codeAny_builtin F.entry_proto_collect ?_))
 rw [Around.under_plainId F.plain_proto_collect _]
 show wpAny _ A.in1 (newList [] >>= λl=>again (.builtin "list.__iadd__" ⟨[l,.ref r],[]⟩)) _ _ s
 refine wB0 (wpAny_newObj_type ?_)
 refine wP0 ⟨plainId_quiet F.plain_list_iadd _,codeAny_builtin F.entry_list_iadd ?_⟩
 rw [Around.under_plainId F.plain_list_iadd _]
 show wpAny _ A.in1 (Builtin.List.listExtendWith (.ref s.heap.objs.size) (.ref r) (.ref s.heap.objs.size)) _ _ _
 have hS:(s.heap.push {cls:=.type "list",data:=.seq ([]:List Value).toArray}).get? s.heap.objs.size=some {cls:=.type "list",data:=.seq #[] 0}:=Heap.get?_push_size _ rfl
 have fin': ∀h' tk acc' c',(∀b o,b≠s.heap.objs.size->(s.heap.push {cls:=.type "list",data:=.seq ([]:List Value).toArray}).get? b=some o->h'.get? b=some o)->h'.get? s.heap.objs.size=some {cls:=.type "list",dict:=none,data:=.seq acc' c',slots:=#[]}->ItemsOf (λi v=> ∃t,v=.int (a+i * c) t) acc' n->
   wpAny (model prog w) A (match Value.ref s.heap.objs.size with
   |Value.ref a=>do
    match (<-load a).data with
     |Data.seq xs _=>pure xs.toList
     |_=>unsupported "internal:collect"
   |_=>unsupported "internal:collect") Q E {s with heap:=h',toks:=tk}:=by
  intro h' tk acc' c' hk hS' hacc
  show wpAny _ A (load s.heap.objs.size >>= _) _ _ _
  refine wB0 (wpAny_load hS' ?_)
  refine wP0 ?_
  exact hQ h' tk acc' (λb o e=>hk b o (ne_of_lt (Heap.lt_size e)) (hP0 _ e)) hacc
 refine wpAny_mono (wpAny_extend_range (A:=A) (s:={s with heap:=s.heap.push {cls:=.type "list",data:=.seq ([]:List Value).toArray}}) (R:=λres s'=>res=.ok (.ret (.ref s.heap.objs.size))/\ ∃h' tk acc' c',s'={s with heap:=h',toks:=tk}/\(∀b o,b≠s.heap.objs.size->(s.heap.push {cls:=.type "list",data:=.seq ([]:List Value).toArray}).get? b=some o->h'.get? b=some o)/\h'.get? s.heap.objs.size=some {cls:=.type "list",dict:=none,data:=.seq acc' c',slots:=#[]}/\ItemsOf (λi v=> ∃t,v=.int (a+i * c) t) acc' n)
  hh (hP0 _ hr) hsmall hn hlen s.heap.objs.size (.ref s.heap.objs.size) 0 hS λh' tk acc' c' a1 a2 a3=>⟨rfl,h',tk,acc',c',rfl,a1,a2,a3⟩) (λfin s' h=>?_) (λe s' h=>?_)
 ·cases fin with
  |done f=>
   obtain⟨e,h',tk,acc',c',rfl,a1,a2,a3⟩:=h
   cases e
   exact fin' h' tk acc' c' a1 a2 a3
  |again c'=>exact⟨h.1,codeAny_mono h.2 λr s'' hr=>by obtain⟨rfl,h',tk,acc',c',rfl,a1,a2,a3⟩:=hr;exact fin' h' tk acc' c' a1 a2 a3⟩
 ·exact absurd h.1 (by simp)
end
section
variable{prog:Program}{w:World}{A:Around}{E:VP}{s:Shared}{r:Addr}{a b c:Int}{t u v:Tok}{n:Nat}
theorem yAI{Q₁:VP}(hh:A.handled=none)(hr:IsRange s.heap r a b c t u v)(hsmall:Builtin.Range.small a b c=true)(hn:Builtin.Range.rangeSize a b c=n)(hlen:n<=2 ^ 24)
  (h: ∀(h':Heap)(tk:Nat)(acc':Array Value),(∀b o,s.heap.get? b=some o->h'.get? b=some o)->ItemsOf (λi v=> ∃t,v=.int (a+i * c) t) acc' n->Q₁ (.ref h'.objs.size) {s with heap:=h'.push {cls:=.type "tuple",data:=.seq acc'},toks:=tk}):
  codeAny (model prog w) A (.call (.builtin "tuple.__new__") ⟨[.type "tuple",.ref r],[]⟩) (wants Q₁ E) s:=by
 refine codeAny_of_tree ?_
 show wpAny _ A.in1 (do checkBuiltinCall "tuple.__new__" ⟨[.type "tuple",.ref r],[]⟩;again (.builtin "tuple.__new__" ⟨[.type "tuple",.ref r],[]⟩)) _ _ s
 refine wB0 (wpAny_of_eq (F.newCall_tuple_1 _) (wP0 ⟨plainId_quiet F.plain_tuple_new _,codeAny_builtin F.entry_tuple_new ?_⟩))
 rw [Around.under_plainId F.plain_tuple_new _]
 have hsub:=sub_tuple_self
 have hinit:=init_tuple_lookup
 have hmh:=madeHere_tuple
 have hTI:s.TypeIs (.ref r) "range":=⟨_,hr,rfl⟩
 wp_walk using wpAny_typeOf hTI,zUQ (A:=A.in1) hh hr hsmall hn hlen
 intro h' tk acc hk hacc
 show wpAny _ _ (Builtin.Tuple.tupleExact acc.toList.toArray >>= λv=>ret v) _ _ _
 unfold Builtin.Tuple.tupleExact
 refine wB0 (wpAny_newObj_type ?_ (by show acc.toList.toArray.size<=sizeLine;simp only [Array.toArray_toList];rw [hacc.1,sizeLine_eq];omega))
 refine wP0 ?_
 have e:acc.toList.toArray=acc:=by simp
 rw [e]
 exact h h' tk acc hk hacc
theorem zPC{Q:VP}(hh:A.handled=none)(hr:IsRange s.heap r a b c t u v)(hsmall:Builtin.Range.small a b c=true)(hn:Builtin.Range.rangeSize a b c=n)(hlen:n<=2 ^ 24)
  (hQ: ∀(h':Heap)(tk:Nat)(acc':Array Value),(∀b o,s.heap.get? b=some o->h'.get? b=some o)->ItemsOf (λi v=> ∃t,v=.int (a+i * c) t) acc' n->Q (.ref h'.objs.size) {s with heap:=h'.push {cls:=.type "tuple",data:=.seq acc'},toks:=tk}):
  wpAny (model prog w) A (call (.type "tuple") [.ref r]) Q E s:=by
 refine callType_codes (Q₁:=λobj s₁=>s₁.TypeIs obj "tuple"/\Q obj s₁) F.called_tuple (F.typeCall_tuple_1 _) F.entry_object_init
  (yAI (A:=A.in1) hh hr hsmall hn hlen λh' tk acc hk hacc=>⟨⟨_,Heap.get?_push_size _ rfl,rfl⟩,hQ h' tk acc hk hacc⟩) λobj s₁ h₁=>?_
 exact⟨h₁.1,F.args_object_init_2 obj _,object_init_meets F.called_tuple.init.lookup F.called_tuple.made (by decide) prog w A.in1 _ s₁ ⟨h₁.1,rfl,h₁.2⟩⟩
end
section
variable{X:Cx}{W:XW}{a:Expr}{af:Rho->Sto->R (List Er)}{ta:TA}{pos pos2 p2 p3:Pos}
abbrev yAJ(j:Int):List Int:=(List.range j.toNat).map Int.ofNat
theorem yDH{acc:Array Value}{j:Int}(h:ItemsOf (λi v=> ∃t,v=Value.int (0+i * 1) t) acc j.toNat):Vals ((yAJ j).map V.int) acc.toList:=by
 obtain⟨h1,h2⟩:=h
 refine ?_
 have key: ∀(l:List Value)(k:Nat),(∀i v,l[i]? =some v-> ∃t,v=Value.int ((k+i:Nat):Int) t)->Vals (((List.range' k l.length).map Int.ofNat).map V.int) l:=by
  intro l
  induction l with
  |nil=>intro k _;exact .nil
  |cons x l ih=>
   intro k hh
   obtain⟨t,rfl⟩:=hh 0 x rfl
   rw [lC,List.range'_succ]
   refine .cons ⟨t,rfl⟩ (ih (k+1) λi v hv=>?_)
   obtain⟨t',e⟩:=hh (i+1) v hv
   exact⟨t',by rw [e,show k+(i+1)=k+1+i by omega]⟩
 have:=key acc.toList 0 λi v hv=>by
  obtain⟨t,e⟩:=h2 i v (by rw [<-Array.getElem?_toList];exact hv)
  refine⟨t,e.trans ?_⟩
  congr 1
  omega
 rw [Array.length_toList,h1, <-List.range_eq_range']at this
 exact this
theorem yLA{j:Int}:Builtin.Range.rangeSize 0 j 1=j.toNat:=by rw [rangeSize_one];split<;>omega
theorem yHS:CallR X (.type "tuple") (λxs H Q=> ∃r j,xs=[.ref r]/\H r=some (yHR r j)/\ -1000000<=j/\j<=1000000/\X.calm=true/\ ∀p,H p=none->Q (.ref p) (upd H p (.tup ((yAJ j).map V.int)))):=by
 intro pins s σ H xs us Q I r h
 obtain⟨r1,j,rfl,hr,j0,j1,hc,q⟩:=h
 obtain⟨_,rfl,rx⟩:=vals1 r
 cases rx
 obtain⟨⟨t,u,v,hR⟩,_⟩:=(show ObjOk X.prog X.w H s.heap r1 (yHR r1 j)from I.hok r1 _ hr)
 refine zPC (I.ok.hd hc) hR (small_one (by decide) (by decide) (by omega) (by omega)) yLA (by omega) λh' tk acc hk hacc=>?_
 have I1:Inv X pins σ H {s with heap:=h',toks:=tk}:=I.kept hk
 have I2:Inv X pins σ (upd H h'.objs.size (.tup ((yAJ j).map V.int))) {s with heap:=h'.push {cls:=.type "tuple",data:=.seq acc},toks:=tk}:=
  I1.laid (t':=tk) (λb o e=>hP0 _ e) (le_refl _) (show ObjOk X.prog X.w _ _ _ (.tup ((yAJ j).map V.int))from⟨?_,acc.toList,yDH hacc,?_⟩)
 ·exact⟨.ref h'.objs.size,_,I2,rfl,q _ (I1.hok.fresh (le_refl _))⟩
 ·rw [lM,lM,length_range,sizeLine_eq]
  omega
 ·have:=IsTup.new h' acc
  simpa using this
def yFN(rs:List Er)(S:Sto):R Er:=match rs with
 |[.val (.int j)]=>if -1000000<=j/\j<=1000000 then .ok (.val (.tup ((yAJ j).map MV.int))) S else .no
 |_=>.no
theorem yOR(hc:X.calm=true)(hg:Gl X "tuple")(hm:X.mg "tuple"=none)(hgr:Gl X "range")(hmr:X.mg "range"=none)(ha:PAm X W [a] af)(hs:starEach [a] X.env=[(false,eval a X.env)]:=by rfl)
  (he1:starEach [.Call (.Name "range" p3) [a] [] pos2] X.env=(false,eval (.Call (.Name "range" p3) [a] [] pos2) X.env)::starEach [] X.env:=by rfl) (hpl1:(backTo pos (starEach [] X.env)).any (·.1)=false:=by rfl):
  PEm X W (.Call (.Name "tuple" p2) [.Call (.Name "range" p3) [a] [] pos2] [] pos) (λρ S=>(af ρ S).bind yFN):=by
 obtain⟨t,ha,k⟩:=ha
 refine⟨_,zVN yHS hg hm gD (zWK (yTD hgr hmr ha hs) yCL he1) (by decide) (by decide) he1 hpl1,λα ρ S σ H Q wd sl q=>k α ρ S σ H _ wd sl (q.bind λvs rs S1 α1 H1 e1 x1 w1 d1 q1=>?_)⟩
 replace q1:=q1.shift x1
 unfold yFN at q1
 split at q1
 ·split at q1
  ·rename_i j hj
   obtain⟨u,rfl,du⟩:=zZS d1
   cases xL du
   refine⟨j,rfl,λv hv=>?_⟩
   have xn:=w1.newx (o:=yHR v j) hv
   have wn:=w1.new (o:=yHR v j) hv
   exact⟨v,j,rfl,xU,hj.1,hj.2,hc,λp hp=>(q1.shift xn).newt wn hp (zOR _)⟩
  ·exact q1.elim
 ·exact q1.elim
end
end M
end L2
namespace L2
open PySem PySem.Spec PyProof.Rows
section
variable{X:Cx}{pins:List (Addr×Obj)}{σ:St}{H:Hp}{s:Shared}{a C dx:Addr}{fs:List (Str×V)}{f:Str}{v:V}{A:Around}{E:VP}{o:Obj}
theorem yFO(I:Inv X pins σ H s)(e:H a=some (.frz o (.ins C dx fs))): ∃mA,ObjM s.heap a dx C mA/\ ∀f,RelO (fs.lookup f) (mA f):=by
 obtain⟨_,d,z,ne,ob,mA,n,r,q⟩:=(show ObjOk X.prog X.w H s.heap a (.frz o (.ins C dx fs))from I.hok a _ e)
 exact⟨mA,⟨ob,n,ne⟩,r⟩
theorem yAK{b:Bool}{Q:VP}(I:Inv X pins σ H s)(e:H a=some (.frz o (.ins C dx fs)))(c:Cls X.K C)(n:NoAttr X.K C f)(l:fs.lookup f=some v)
  (h: ∀u s',Inv X pins σ H s'->RelV v u->Q u s'):wpAny (model X.prog X.w) A (getAttr (.ref a) f b) Q E s:=by
 obtain⟨mA,O,r⟩:=yFO I e
 obtain⟨u,hu,ru⟩:=RelO.some_of (v:=v) (o:=mA f) (by rw [<-l];exact r f)
 exact yMO I.kIn O (c.get f) c.hd n hu (yGV ru) (h u _ (I.tok _) ru)
theorem yAL{m:Str}{g:Addr}{pl:Sem Bool}{Q:Value×List Value->Shared->Prop}(I:Inv X pins σ H s)(e:H a=some (.frz o (.ins C dx fs)))(c:Cls X.K C)(k:Meth X.K C m g)(l:fs.lookup m=none)
  (h:Q (.ref g,[.ref a]) s):wpAny (model X.prog X.w) A (getMethod (.ref a) m pl) Q E s:=by
 obtain⟨mA,O,r⟩:=yFO I e
 have hn:mA m=none:=RelO.none_of (by rw [<-l];exact r m)
 exact yIW I.kIn O (c.get m) k.at_ k.fn hn h
theorem Inv.freeze(I:Inv X pins σ H s)(e:H a=some (.ins C dx fs)):Inv X pins σ (upd H a (.frz (PySem.W.instObj C dx) (.ins C dx fs))) s:=by
 obtain⟨d,z,ne,ob,mA,n,r,q⟩:=(show ObjOk X.prog X.w H s.heap a (.ins C dx fs)from I.hok a _ e)
 exact I.write (x:=a) (e:=a) (h':=s.heap) (t':=s.toks) (o:=.frz (PySem.W.instObj C dx) (.ins C dx fs)) (by rw [e];exact True.intro) (.inl rfl) (λ_ _ _ q=>q) ⟨_,ob⟩ ⟨ob,by rw [zZ ne];exact d,z,ne,ob,mA,n,r,q⟩
end
namespace M
structure OC(K:PySem.W.Frag)(c:Str)(C:Addr):Prop where
 ns:PySem.W.nsIn K mainGlobals c=some (some (.ref C))
 nm:(PySem.W.clsIn K C).map (·.name)=some c
 cl:Cls K C
theorem OC.eq{K:PySem.W.Frag}{c:Str}{C C':Addr}(o:OC K c C)(h:PySem.W.nsIn K mainGlobals c=some (some (.ref C'))):C'=C:=by
 have:=o.ns
 rw [h]at this
 cases this
 rfl
section
variable{X:Cx}{W:XW}{a e:Expr}{es:List Expr}{f g:AX}{af:Rho->Sto->R (List Er)}{pos apos p p2:Pos}{fld m:Str}
def zDF(cs:List Str)(fld:Str):Er->Sto->R Er
 |.val (.obj c ns ds),S=>if c∈cs then(match (ns.zip ds).lookup fld with |some d=>.ok (.val d) S|none=>.no)else .no
 |_,_=>.no
theorem zSS{K:PySem.W.Frag}{α:List Addr}{H:Hp}{fld:Str}{d:MV}: ∀{ns:List Str}{ds:List MV}{vs:List V},DenL K α H ds vs->(ns.zip ds).lookup fld=some d-> ∃v,(ns.zip vs).lookup fld=some v/\Den K α H d v
 |[],_,_,_,h=>by simp at h
 |n::ns,[],_,_,h=>by simp at h
 |n::ns,x::ds,vs,l,h=>by
  obtain⟨v,r,rfl,a,l'⟩:=l.uncons
  rw [zip_cons_cons,lookup_cons]at h
  rw [zip_cons_cons]
  by_cases e:fld==n
  ·rw [e]at h
   cases h
   exact⟨v,by rw [lookup_cons,e],a⟩
  ·have e:(fld==n)=false:=by simpa using e
   rw [e]at h
   obtain⟨w,h1,h2⟩:=zSS l' h
   exact⟨w,by rw [lookup_cons,e];exact h1,h2⟩
theorem zBT{cs:List Str}(T: ∀c∈cs, ∃C,OC X.K c C/\NoAttr X.K C fld)(he:PEm X W e f)(hb:attributeBase e fld X.env (eval e X.env)=eval e X.env:=by rfl):PEm X W (.Attribute e fld pos) (λρ S=>(f ρ S).bind (zDF cs fld)):=by
 obtain⟨t,he,k⟩:=he
 refine⟨λσ H Q=>t σ H λx H1=> ∃a o C dx fs v,x=.ref a/\H1 a=some (.frz o (.ins C dx fs))/\Cls X.K C/\NoAttr X.K C fld/\fs.lookup fld=some v/\Q v H1,λpins s σ H Q I h=>?_,λα ρ S σ H Q wd sl q=>k α ρ S σ H _ wd sl (q.bind λu r S1 α1 H1 e1 x1 w1 d1 q1=>?_)⟩
 ·refine yMR hb (thn (he pins s σ H _ I h) λu s1 ⟨x,H1,I1,rx,a,o,C,dx,fs,v,ex,ea,c,n,l,q⟩=>?_)
  subst ex
  obtain rfl:u=Value.ref a:=rx
  exact yAK I1 ea c n l λu' s2 I2 ru=>⟨v,H1,I2,ru,q⟩
 ·replace q1:=q1.shift x1
  unfold zDF at q1
  split at q1
  ·rename_i c ns ds
   split at q1
   ·rename_i hc
    split at q1
    ·rename_i d hd
     obtain⟨a,C,dx,vs,o,rfl,h1,h2,h3,h4,h5⟩:=yJL d1.1
     obtain⟨C',oc,na⟩:=T c hc
     cases oc.eq h2
     obtain⟨v,l1,l2⟩:=zSS h5 hd
     exact⟨a,o,C,dx,_,v,rfl,h1,oc.cl,na,l1,Post.val q1 w1 l2⟩
    ·exact q1.elim
   ·exact q1.elim
  ·exact q1.elim
def spO(K:PySem.W.Frag)(fld:Str):Sp:=λvs H Q _=> ∃x C dx fs v,vs=[.ref x,v]/\H x=some (.ins C dx fs)/\Cls K C/\NoAttr K C fld/\fs.length<1000/\Q .non (upd H x (.ins C dx (zIU fld v fs)))
def yHT(c fld:Str):Er->Sto->R Er
 |.val d,S=>.ok (.val (.obj c [fld] [d])) S
 |_,_=>.no
theorem yOS{C fi:Addr}{fd:FuncData}{par x:Str}{k:Nat}(oc:OC X.K x C)(na:NoAttr X.K C fld)(Mk':Mk X.K C fi)(F:FnOk X.prog X.w X.K X.mg X.base CX0 k fi fd ["self",par] (spO X.K fld))(hb:Binds X.K fd ["self",par] [])(hr:Room (k+1) X.A)(hg:Gl X x)(hm:X.mg x=some (.ref C))(he:PEm X W e f)(hdb:(x==("__debug__":Str))=false:=by decide)
  (hs:starEach [e] X.env=(false,eval e X.env)::starEach [] X.env:=by rfl) (hpl:(backTo pos (starEach [] X.env)).any (·.1)=false:=by rfl):PEm X W (.Call (.Name x p) [e] [] pos) (λρ S=>(f ρ S).bind (yHT x fld)):=by
 obtain⟨t,he,kk⟩:=he
 refine⟨λσ H Q=>yPY C (spO X.K fld) [] E0 (yPX t tNil) σ H λy H2=> ∃x dx v,y=.ref x/\H2 x=some (.ins C dx [(fld,v)])/\Q (.ref x) (upd H2 x (.frz (PySem.W.instObj C dx) (.ins C dx [(fld,v)]))),λpins s σ H Q I h=>?_,λα ρ S σ H Q wd sl q=>kk α ρ S σ H _ wd sl (q.bind λu r S1 α1 H1 e1 x1 w1 d1 q1=>?_)⟩
 ·refine thn (yMT Mk' F hr hg hm hb .nil yJF (zWK he yCL hs) hdb hs hpl pins s σ H _ I h) λu s' ⟨y,H2,I2,ry,x,dx,v,ex,e,q⟩=>?_
  subst ex
  exact⟨.ref x,_,I2.freeze e,ry,q⟩
 ·replace q1:=q1.shift x1
  unfold yHT at q1
  split at q1
  ·rename_i d
   intro y dx hy hdx hne
   refine⟨y,C,dx,[],u,rfl,xU,oc.cl,na,by decide,rfl,y,dx,u,rfl,xU,?_⟩
   rw [yEC,yEC]
   have xa:=w1.newx (o:=.own y) hdx
   have wa:=w1.new (o:=.own y) hdx
   have hy':(upd H1 dx (.own y)) y=none:=by rw [zZ (Ne.symm hne)];exact hy
   have xb:=wa.newx (o:=.frz (PySem.W.instObj C dx) (.ins C dx [(fld,u)])) hy'
   have wb:=wa.new (o:=.frz (PySem.W.instObj C dx) (.ins C dx [(fld,u)])) hy'
   exact Post.val (q1.shift (xa.trans xb)) wb (yEN (ns:=[fld]) (vs:=[u]) xU oc.ns oc.nm rfl (xD ((d1.1.ext xa).ext xb) xV))
  ·exact q1.elim
noncomputable def yAM(m:Str)(l:List (Str×(List MV->Sto->R Er))):Er->Option (List MV->Sto->R Er)
 |.val (.obj c ns _)=>if m∈ns then none else l.lookup c
 |_=>none
noncomputable def NJ(m:Str)(n:Nat)(l:List (Str×(List MV->Sto->R Er)))(f:AX)(af:Rho->Sto->R (List Er))(ρ:Rho)(S:Sto):R Er:=(f ρ S).bind λp S=>match yAM m l p with
 |some F=>(af ρ S).bind λr S=>zT n F (p::r) S
 |none=>.no
theorem lookup_mem{β:Type}{c:Str}{b:β}: ∀{l:List (Str×β)},l.lookup c=some b->(c,b)∈l
 |[],h=>by simp at h
 |(d,x)::l,h=>by
  rw [lookup_cons]at h
  by_cases e:c==d
  ·rw [e]at h
   cases h
   have:c=d:=by simpa using e
   rw [this]
   exact mF0
  ·have e:(c==d)=false:=by simpa using e
   rw [e]at h
   exact mO _ (lookup_mem h)
theorem zST{β:Type}{m:Str}: ∀{ns:List Str}{vs:List β},m∉ns->(ns.zip vs).lookup m=none
 |[],_,_=>by simp
 |n::ns,[],_=>by simp
 |n::ns,v::vs,h=>by
  rw [zip_cons_cons,lookup_cons]
  have e:(m==n)=false:=by
   have:m≠n:=λz=>h (by rw [z];exact mF0)
   simpa using this
  rw [e]
  exact zST λz=>h (mO _ z)
def MtOk(X:Cx)(m:Str)(k n:Nat)(c:Str)(F:List MV->Sto->R Er):Prop:= ∃C fa fd ps,OC X.K c C/\Meth X.K C m fa/\FnOk X.prog X.w X.K X.mg X.base CX0 k fa fd ps (spM X.g n F)/\Binds X.K fd ps []
theorem zJF{o:Expr}{pl:Sem Bool}{k n:Nat}{l:List (Str×(List MV->Sto->R Er))}(T: ∀q∈l,MtOk X m k n q.1 q.2)(hr:Room k X.A)(he:PEm X W o f)(ha:PAm X W (e::es) af)
  (hst:starEach (e::es) X.env=(false,eval e X.env)::starEach es X.env:=by rfl) (hpl:(backTo pos (starEach es X.env)).any (·.1)=false:=by rfl)
  (ht:eval (.Call (.Attribute o m apos) (e::es) [] pos) X.env=(do
   let ov <-eval o X.env
   standAt apos.atName
   let (f,first) <-holding [ov] (getMethod ov m pl)
   callWith pos f first (backTo pos (starEach (e::es) X.env)) (backToKw pos (keywordEach [] X.env))):=by rfl):
  PEm X W (.Call (.Attribute o m apos) (e::es) [] pos) (NJ m n l f af):=by
 obtain⟨to,he,ko⟩:=he
 obtain⟨ta,ha,ka⟩:=ha
 refine⟨λσ H Q=>to σ H λx H1=> ∃a ob C dx fs g fd ps sp,x=.ref a/\H1 a=some (.frz ob (.ins C dx fs))/\Cls X.K C/\Meth X.K C m g/\fs.lookup m=none/\FnOk X.prog X.w X.K X.mg X.base CX0 k g fd ps sp/\Binds X.K fd ps []/\ta σ H1 λvs H2=>sp (x::vs) H2 Q E0,λpins s σ H Q I h=>?_,λα ρ S σ H Q wd sl q=>ko α ρ S σ H _ wd sl (Post.bind q λu r S1 α1 H1 e1 x1 w1 d1 q1=>?_)⟩
 ·refine PySem.W.methodCall_KW (pl:=pl) (thn (he pins s σ H _ I h) λu s1 ⟨x,H1,I1,rx,a,ob,C,dx,fs,g,fd,ps,sp,ex,ea,c,hm,l,F,hb,q⟩=>?_) ht
  subst ex
  obtain rfl:u=Value.ref a:=rx
  refine yAL I1 ea c hm l ?_
  refine PySem.W.callWith_K (first:=[.ref a]) (h₀:=X.base) I.ok.mod.kin hm.kp (thn (ha pos pins s1 σ H1 _ I1 q) λus s2 ⟨vs,H2,I2,r,q2⟩=>⟨I2.kIn,?_⟩) hst hpl
  exact yIY (us:=.ref a::us) (vs:=.ref a::vs) F hr hb .nil yJF I2 (.cons rfl r) (by rw [aN];exact q2)
 ·unfold yAM at q1
  cases r with
  |new ds=>exact q1.elim
  |val d=>
   cases d with
   |obj c ns ds=>
    dsimp only at q1
    by_cases hmn:m∈ns
    ·rw [iP hmn]at q1;exact q1.elim
    ·rw [iN hmn]at q1
     cases z:l.lookup c with
     |none=>rw [z]at q1;exact q1.elim
     |some F=>
      rw [z]at q1
      dsimp only at q1
      obtain⟨a,C,dx,vs,ob,rfl,h1,h2,h3,h4,h5⟩:=yJL d1.1
      obtain⟨C',g,fd,ps,oc,hm,hF,hb⟩:=T (c,F) (lookup_mem z)
      cases oc.eq h2
      refine⟨a,ob,C,dx,_,g,fd,ps,_,rfl,h1,oc.cl,hm,zST hmn,hF,hb,ka α1 ρ S1 σ H1 _ w1 (sl.ext x1) ?_⟩
      refine(Post.shift x1 q1).bind λus rs S2 α2 H2 e2 x2 w2 d2 q2=>?_
      exact zVS x2 w2 (ArgsE.cons (DenE.val (d1.1.ext x2)) (λds b er=>by cases er) d2) q2
   |_=>exact q1.elim
structure OI(K:PySem.W.Frag)(C:Addr):Prop where
 ha:PySem.W.findIn K (.ref C) "__class__"=some (some (.builtin "object.__class__"))
 hn:PySem.W.specialIn K (.builtin "object.__class__") "__get__"=some (some (.builtin "getset_descriptor.__get__"))
 htk:PySem.W.takesIn K (.builtin "object.__class__")=some true
 hm:PySem.W.mroIn K C (.type "object")=some true
end
def zDG(y:List Nat):List (List Nat)->List Nat
 |[]=>[]
 |[x]=>x
 |x::r=>x++y++zDG y r
theorem yAN(y:List Nat): ∀zs:List (List Nat),Str.join (mkS y) (zs.map mkS)=mkS (zDG y zs)
 |[]=>rfl
 |[x]=>rfl
 |x::z::r=>by
  show mkS x++mkS y++Str.join (mkS y) ((z::r).map mkS)=mkS (x++y++zDG y (z::r))
  rw [yAN y (z::r),zWU,zWU]
theorem yFP{y:Str}: ∀(l:List Str)(n k:Nat),(∀z∈l,z.length+y.length<=500)->l.length<=k->l.foldl (λa z=>a+z.length+y.length) n<=n+500 * k
 |[],n,k,_,_=>Nat.le_add_right _ _
 |z::l,n,0,_,h=>by simp at h
 |z::l,n,k+1,hz,h=>by
  rw [foldl_cons]
  have h1:=yFP l (n+z.length+y.length) k (λw hw=>hz w (mO _ hw)) (by simpa using h)
  have h2:=hz z mF0
  omega
theorem joinOk_of{y:List Nat}{zs:List (List Nat)}(h0:y.length<=100)(h1:zs.length<=1000)(h2: ∀z∈zs,z.length<=400):JoinOk (mkS y) (zs.map mkS)=true:=by
 unfold JoinOk
 rw [Bool.not_eq_true']
 unfold Builtin.Str.tooLong
 rw [List.foldl_toArray,decide_eq_false_iff_not]
 have:=yFP (y:=mkS y) (zs.map mkS) 0 1000 (λz hz=>by
  obtain⟨w,hw,rfl⟩:=mM.mp hz
  have:=h2 w hw
  rw [kZ,kZ]
  omega) (by rw [lM];exact h1)
 rw [sizeLine_eq]
 omega
def zGT:List MV->Option (List (List Nat))
 |[]=>some []
 |.str x::ds=>(zGT ds).map (x::·)
 |_::_=>none
theorem yFQ{K:PySem.W.Frag}{α:List Addr}{H:Hp}: ∀{ds:List MV}{zs:List (List Nat)}{vs:List V}{us:List Value},zGT ds=some zs->DenL K α H ds vs->Vals vs us-> ∃l:List (Str×Tok),us=strValues l/\l.map (·.1)=zs.map mkS
 |[],zs,vs,us,e,d,r=>by
  cases e
  rw [d.isnil]at r
  cases r
  exact⟨[],rfl,rfl⟩
 |x::ds,zs,vs,us,e,d,r=>by
  obtain⟨v,r',rfl,d1,d2⟩:=d.uncons
  cases r with
  |cons a b=>
   cases x<;>first |(cases e)|skip
   rename_i i
   unfold zGT at e
   cases z:zGT ds with
   |none=>rw [z]at e;cases e
   |some ms=>
    rw [z]at e
    cases e
    cases wF d1
    obtain⟨t,rfl⟩:=a
    obtain⟨l,rfl,hl⟩:=yFQ z d2 b
    exact⟨(mkS i,t)::l,rfl,by rw [map_cons,hl];rfl⟩
section
variable{X:Cx}{W:XW}{a e:Expr}{es:List Expr}{f:AX}{af:Rho->Sto->R (List Er)}{apos pos:Pos}
theorem yOT:MtR X "str.join" (λx xs H Q=> ∃y l vs ds zs α,x=.str (mkS y)/\xs=[.ref l]/\SqL X.K H l vs/\zGT ds=some zs/\DenL X.K α H ds vs/\(y.length<=100/\zs.length<=1000/\ ∀z∈zs,z.length<=400)/\Q (.str (mkS (zDG y zs))) H):=by
 intro pins s σ H x xs v us Q I rx rs h
 obtain⟨y,l,vs,ds,zs,α,rfl,rfl,hl,hz,hd,hc,q⟩:=h
 obtain⟨t,rfl⟩:=rx
 obtain⟨u,rfl,r1⟩:=vals1 rs
 cases r1
 obtain⟨its,rv,p,_⟩:=I.list hl
 obtain⟨ps,rfl,hp⟩:=yFQ hz hd rv
 refine PySem.SC.join p.isList hp (joinOk_of hc.1 hc.2.1 hc.2.2) λt' k=>⟨.str (mkS (zDG y zs)),H,I.tok _,⟨t',?_⟩,q⟩
 show Value.str (Builtin.Str.glued (mkS y) (zs.map mkS)) t'=_
 rw [StrLaws.glued_eq_join,yAN]
open Classical in
noncomputable def zVZ:Er->List Er->Sto->R Er
 |.val (.str y),[r],S=>match gC S r with
  |some ds=>match zGT ds with
   |some zs=>if y.length<=100/\zs.length<=1000/\ ∀z∈zs,z.length<=400 then .ok (.val (.str (zDG y zs))) S else .no
   |none=>.no
  |none=>.no
 |_,_,_=>.no
theorem yOU:MtdM X W (λx xs H Q=> ∃y l vs ds zs α,x=.str (mkS y)/\xs=[.ref l]/\SqL X.K H l vs/\zGT ds=some zs/\DenL X.K α H ds vs/\(y.length<=100/\zs.length<=1000/\ ∀z∈zs,z.length<=400)/\Q (.str (mkS (zDG y zs))) H) zVZ:=by
 intro p rs x vs α S H0 H Q α0 wd x0 dp da post
 replace post:=post.shift x0
 unfold zVZ at post
 split at post
 ·split at post
  ·rename_i ds e
   split at post
   ·rename_i zs hz
    split at post
    ·rename_i hc
     obtain⟨v,rfl,dv⟩:=zZS da
     obtain⟨l,us,rfl,h1,h2⟩:=zLO rfl wd e dv
     exact⟨_,l,us,ds,zs,α,dH dp,rfl,h1,hz,h2,hc,Post.val post wd (zGO _)⟩
    ·exact post.elim
   ·exact post.elim
  ·exact post.elim
 ·exact post.elim
theorem yOV(ho:PEm X W a f)(ha:PAm X W (e::es) af)
  (hbase:attributeBase a "join" X.env (eval a X.env)=eval a X.env:=by rfl)
  (hfew:((backTo pos (starEach (e::es) X.env)).all (λx=>!x.1)&&(backToKw pos (keywordEach [] X.env)).all (λx=>x.1.isSome)
   &&decide ((e::es).length+([]:List Keyword).length+(if([]:List Keyword).isEmpty then 0 else 1)<30))=true:=by rfl)
  (hline:(apos.endLine==pos.line)=true:=by rfl) (hs:starEach (e::es) X.env=(false,eval e X.env)::starEach es X.env:=by rfl) (hplain:(backTo pos (starEach es X.env)).any (·.1)=false:=by rfl):
  PEm X W (.Call (.Attribute a "join" apos) (e::es) [] pos) (λρ S=>(f ρ S).bind λp S1=>if zSD p S1=true then(af ρ S1).bind λrs S2=>zVZ p rs S2 else .no):=
 zWZ PySem.F.plainAttrs_str PySem.F.slot_str_join PySem.F.type_str_join yOT yOU ty_str ho ha hbase hfew hline hs hplain
end
section
variable(P:Program)(w:World)(K:PySem.W.Frag)(mg:Str->Option Value)(base:Heap)
def MkB(x fld:Str):Prop:= ∃C fi fd par,OC K x C/\NoAttr K C fld/\Mk K C fi/\FnOk P w K mg base CX0 1 fi fd ["self",par] (spO K fld)/\Binds K fd ["self",par] []/\mg x=some (.ref C)
def MtB(m:Str)(k n:Nat)(l:List (Str×(List MV->Sto->R Er))):Prop:= ∀q∈l, ∃C fa fd ps,OC K q.1 C/\Meth K C m fa/\FnOk P w K mg base CX0 k fa fd ps (spM ⟨K,mg,P,w⟩ n q.2)/\Binds K fd ps []
def FlB(cs:List Str)(fld:Str):Prop:= ∀c∈cs, ∃C,OC K c C/\NoAttr K C fld
end
section
variable{X:Cx}{W:XW}{a e o:Expr}{es:List Expr}{f:AX}{af:Rho->Sto->R (List Er)}{pos apos p p2:Pos}{fld m x:Str}
theorem zSU(B:MkB X.prog X.w X.K X.mg X.base x fld)(hr:Room 2 X.A)(hg:Gl X x)(he:PEm X W e f)(hdb:(x==("__debug__":Str))=false:=by decide)
  (hs:starEach [e] X.env=(false,eval e X.env)::starEach [] X.env:=by rfl) (hpl:(backTo pos (starEach [] X.env)).any (·.1)=false:=by rfl):PEm X W (.Call (.Name x p) [e] [] pos) (λρ S=>(f ρ S).bind (yHT x fld)):=by
 obtain⟨C,fi,fd,par,oc,na,mk,F,hb,hm⟩:=B
 exact yOS oc na mk F hb hr hg hm he hdb hs hpl
theorem yOW{P:Program}{w:World}{K:PySem.W.Frag}{mg:Str->Option Value}{base:Heap}{qual:Str}{st:Stmt}{f:Addr}{fd:FuncData}{par:Str}(F:Fun K "__init__" qual st f fd)(Sc:FnScope ["self",par] ["self",par] (zI st))
  (hbody: ∀(cdv:Value)(A:Around)(outer:List Env)(s:Shared)(H:Hp)(E:XK),PSs (zZL CX0 P w K mg base ["self",par] qual (zI st) f cdv A outer s H E).nox (wB st) (sFld K (λσ H Q=> ∃v,σ[0]? =some (some v)/\Q v H) (λσ H Q=> ∃v,σ[1]? =some (some v)/\Q v H) fld)):
  FnOk P w K mg base CX0 1 f fd ["self",par] (spO K fld):=by
 refine F.ok (k:=0) Sc (λvs H Q E h=>?_) λcdv A outer s H vs Q E hr h=>?_
 ·obtain⟨_,_,_,_,_,rfl,_⟩:=h;rfl
 ·obtain⟨x,C,dx,fs,v,rfl,h1,h2,h3,h4,q⟩:=h
  exact⟨_,hbody cdv A outer s H E,v,rfl,.ref x,rfl,x,C,dx,fs,rfl,h1,h2,h3,h4,q⟩
end
theorem nm_of{K:PySem.W.Frag}{C:Addr}{cd:ClassData}{c:Str}(e:PySem.W.clsIn K C=some cd)(h:cd.name=c):(PySem.W.clsIn K C).map (·.name)=some c:=by rw [e];exact congrArg some h
section
variable{X:Cx}{W:XW}{a e:Expr}{es:List Expr}{pos apos:Pos}{f:AX}{af:Rho->Sto->R (List Er)}
def yHU:Er->List Er->Sto->R Er
 |p,[r],S=>match lsW S r with
  |some zs=>zSE p S λds=>if ds.length+zs.length<=sizeLine then some (ds++zs)else none
  |none=>.no
 |_,_,_=>.no
theorem yHV:MtdM X W yEK yHU:=by
 intro p rs x vs α S H0 H Q α0 wd x0 dp da post
 match rs,da,post with
 |[],_,post=>exact post.elim
 |_::_::_,_,post=>exact post.elim
 |[r],da,post=>
  have post:Post X.g W α0 H0 (match lsW S r with |some zs=>zSE p S λds=>if ds.length+zs.length<=sizeLine then some (ds++zs)else none|none=>.no) Q:=post
  split at post
  ·rename_i zs hz
   obtain⟨v,rfl,dv⟩:=zZS da
   obtain⟨b,us,rfl,hb,lb⟩:=zXD wd hz dv
   obtain⟨c,ws,ds,es,rfl,h1,l1,eg,k⟩:=zVU wd x0 dp post
   split at eg
   ·rename_i hl
    cases eg
    exact⟨c,b,ws,us,rfl,rfl,h1,hb,by rw [l1.length,lb.length];exact hl,k _ (l1.append lb)⟩
   ·cases eg
  ·exact post.elim
theorem zPD(ho:PEm X W a f)(ha:PAm X W (e::es) af)
  (hbase:attributeBase a "extend" X.env (eval a X.env)=eval a X.env:=by rfl)
  (hfew:((backTo pos (starEach (e::es) X.env)).all (λx=>!x.1)&&(backToKw pos (keywordEach [] X.env)).all (λx=>x.1.isSome)
   &&decide ((e::es).length+([]:List Keyword).length+(if([]:List Keyword).isEmpty then 0 else 1)<30))=true:=by rfl)
  (hline:(apos.endLine==pos.line)=true:=by rfl) (hs:starEach (e::es) X.env=(false,eval e X.env)::starEach es X.env:=by rfl) (hplain:(backTo pos (starEach es X.env)).any (·.1)=false:=by rfl):
  PEm X W (.Call (.Attribute a "extend" apos) (e::es) [] pos) (λρ S=>(f ρ S).bind λp S1=>if gE p S1=true then(af ρ S1).bind λrs S2=>yHU p rs S2 else .no):=
 zWZ PySem.F.plainAttrs_list PySem.F.slot_list_extend PySem.F.type_list_extend yGY yHV yKD ho ha hbase hfew hline hs hplain
end
section
variable{X:Cx}{α:List Addr}{S:Sto}{H:Hp}{pins:List (Addr×Obj)}{σ:St}{s:Shared}{k:Nat}{fa:Addr}{fd:FuncData}{ps:List Str}{Fd:List MV->Sto->R Er}
def zSV(d:MV):Prop:= ∃x r,d=.tup (.str x::r)
theorem yOX(I:Inv X pins σ H s)(wd:Wd X.g α S H){A:Around}(hu:A.units+64<cLine){d f:MV}{x y:V}{u v:Value}{k:Bool}(kd:zSV d)(kf:zSV f)(h1:Den X.K α H d x)(h2:Den X.K α H f y)(rx:RelV x u)(ry:RelV y v)
  (h:ltv S zX d f=some k) (prog:Program) (w:World) (E:VP) (Q:Bool->Shared->Prop) (hq:Q k s):wpAny (model prog w) A (keyLt' (tuples' true) u v) Q E s:=by
 obtain⟨x1,r1,rfl⟩:=kd
 obtain⟨x2,r2,rfl⟩:=kf
 obtain⟨a1,vs1,its1,rfl,l1,v1,t1,_⟩:=yDG I h1 rx
 obtain⟨a2,vs2,its2,rfl,l2,v2,t2,_⟩:=yDG I h2 ry
 obtain⟨w1,q1,rfl,d1,m1⟩:=l1.uncons
 obtain⟨w2,q2,rfl,d2,m2⟩:=l2.uncons
 cases v1 with
 |@cons _ u1 _ us1 rv1 rr1=>
  cases v2 with
  |@cons _ u2 _ us2 rv2 rr2=>
   have h':(eqv S 39 (.str x1) (.str x2)).bind (λk=>if k=true then zRZ (eqv S 39) (ltv S 39) r1 r2 else ltv S 39 (.str x1) (.str x2))=some k:=h
   have he:eqv S 39 (.str x1) (.str x2)=some (decide (x1=x2)):=zBR 38 x1 x2
   have ea:=zOV I wd 39 A _ _ _ _ _ _ _ (by omega) d1 d2 rv1 rv2 he
   cases wF d1
   cases wF d2
   obtain⟨tk1,rfl⟩:=rv1
   obtain⟨tk2,rfl⟩:=rv2
   rw [he]at h'
   refine Srt.wp_keyLtS t1 t2 ea ?_ hq
   cases hd:decide (x1=x2)with
   |true=>
    rw [hd]at h'
    rw [iP rfl]
    have h'':zRZ (eqv S 39) (ltv S 39) r1 r2=some k:=h'
    exact lexRS (yJT (λd f x y u v k a b c d' e=>zOV I wd 39 A d f x y u v k (by omega) a b c d' e)
     (λd f x y u v k a b c d' e=>yDA I wd 39 A d f x y u v k (by omega) a b c d' e) m1 m2 rr1 rr2 h'')
   |false=>
    rw [hd]at h'
    rw [iN xF0]
    have h'':(some (decide (x1<x2)):Option Bool)=some k:=h'
    cases h''
    rw [zGN,zGN]
theorem cmp_s(I:Inv X pins σ H s)(wd:Wd X.g α S H){A:Around}(hu:A.units+64<cLine){kds:List MV}(hne:kds≠[])(hkind: ∀d,d∈kds->zSV d)(ho:OrdD S kds){E':VP}:
  Srt.Cmp (model X.prog X.w) A E' s (tuples' true) (λp=> ∃d v,d∈kds/\Den X.K α H d v/\RelV v p.1) (ltV X.K α H S kds) where
 go x y hx hy st hk Q hq:=by
  obtain⟨v1,d1,r1⟩:=zSP hx
  obtain⟨v2,d2,r2⟩:=zSP hy
  obtain⟨t,ht⟩:=ho.any _ (nH (K:=X.K) (α:=α) (H:=H) hne x.1) _ (nH (K:=X.K) (α:=α) (H:=H) hne y.1)
  have e:ltV X.K α H S kds x y=t:=by unfold ltV;rw [ht];rfl
  rw [e]at hq
  exact Srt.wp_lt hk (λE Q hq=>yOX I wd hu (hkind _ (nH hne x.1)) (hkind _ (nH hne y.1)) d1 d2 r1 r2 ht X.prog X.w E Q hq) hq
 tr x y z h1 h2:=by
  unfold ltV at h1 h2 ⊢
  have mx:=nH (K:=X.K) (α:=α) (H:=H) hne x.1
  have my:=nH (K:=X.K) (α:=α) (H:=H) hne y.1
  have mz:=nH (K:=X.K) (α:=α) (H:=H) hne z.1
  obtain⟨t1,e1⟩:=ho.any _ my _ mx
  obtain⟨t2,e2⟩:=ho.any _ mz _ my
  rw [e1]at h1;rw [e2]at h2
  have h1:t1=false:=h1
  have h2:t2=false:=h2
  subst h1 h2
  rw [ho.tr _ mx _ my _ mz e1 e2];rfl
 as x y h:=by
  unfold ltV at h ⊢
  have mx:=nH (K:=X.K) (α:=α) (H:=H) hne x.1
  have my:=nH (K:=X.K) (α:=α) (H:=H) hne y.1
  obtain⟨t1,e1⟩:=ho.any _ mx _ my
  rw [e1]at h
  have h:t1=true:=h
  subst h
  rw [ho.as _ mx _ my e1];rfl
theorem yTE(I:Inv X pins σ H s){A:Around}{kds:List MV}{kvs:List V}{ks:List Value}(hne:kds≠[])(hkind: ∀d,d∈kds->zSV d)(dk:DenL X.K α H kds kvs)(vk:Vals kvs ks){E':VP}:
  wpAny (model X.prog X.w) A (keyKind' ks.toArray) (λq s'=>s'=s/\q=tuples' true) E' s:=by
 have ne:ks≠[]:=λz=>by
  have h1:=vk.length;have h2:=dk.length
  rw [z]at h1
  exact hne (List.length_eq_zero_iff.mp (by rw [<-h2,h1];rfl))
 have all: ∀u,u∈ks-> ∃d v,d∈kds/\Den X.K α H d v/\RelV v u:=by
  intro u hu
  obtain⟨i,hi⟩:=getElem?_of_mem hu
  have hl:i<kvs.length:=by rw [vk.length];exact(gS0.mp hi).1
  obtain⟨u',h1,r⟩:=vk.get (gE0 hl)
  rw [hi]at h1;cases h1
  obtain⟨d,h2,h3⟩:=dk.get (gE0 hl)
  exact⟨d,_,mem_of_getElem? h2,h3,r⟩
 refine Srt.wp_kindS ne λu hu=>?_
 obtain⟨d,v,md,dd,r⟩:=all u hu
 obtain⟨x,rr,rfl⟩:=hkind d md
 obtain⟨a,vs,its,rfl,l,vv,t,_⟩:=yDG I dd r
 obtain⟨v1,r1,rfl,d1,_⟩:=l.uncons
 cases vv with
 |@cons _ u1 _ us1 rv rr'=>
  cases wF d1
  obtain⟨tk,rfl⟩:=rv
  exact⟨a,_,_,tk,us1,rfl,t,rfl⟩
end
section
variable{X:Cx}{α:List Addr}{S:Sto}{H:Hp}{pins:List (Addr×Obj)}{σ:St}{s:Shared}{k:Nat}{fa:Addr}{fd:FuncData}{ps:List Str}{Fd:List MV->Sto->R Er}
theorem args_sorted1(a:Value):argsOk "sorted" ⟨[a],[]⟩:=by unfold argsOk;kernel_rfl
theorem yDI(a:Value):argsOk "list.sort" ⟨[a],[]⟩:=by unfold argsOk;kernel_rfl
theorem yLB(hu:X.A.units+128<cLine)(I:Inv X pins σ H s)(wd:Wd X.g α S H){l:Addr}{xs:List V}{ds:List MV}(hl:SqL X.K H l xs)(dl:DenL X.K α H ds xs)
  (hlen:ds.length<1000000) (hpu: ∀d,d∈ds->zBN d=true) (hkind: ∀d,d∈ds->zSV d) (hord:OrdD S ds) {Q:VK}
  (hQ: ∀(idx:List Nat)(p:Addr)(ys:List V),idx.Perm (List.range ds.length)->idx.Pairwise (λi j=> ∀a c,ds[i]? =some a->ds[j]? =some c->ltv S zX c a=some false)->H p=none->
   DenL X.K α H (idx.filterMap (ds[·]?)) ys->Q (.ref p) (upd H p (.lst ys))):wpAny (model X.prog X.w) X.A (call (.builtin "sorted") [.ref l]) (EP X pins σ Q) X.xe s:=by
 obtain⟨its,rv,⟨o,n0,e0,hc0,_,hd0⟩,_⟩:=I.list hl
 have isl:s.heap.IsList l its.toArray:=⟨o,e0,hc0,n0,hd0⟩
 have hil:its.length=ds.length:=by rw [<-rv.length,dl.length]
 have hln:=sizeLine_eq
 refine call_function_entry_kw kind_sorted plain_sorted entry_sorted (args_sorted1 _) ?_
 unfold Builtin.«sorted»
 refine wB0 (m:=checkCount "sorted" 1 1 _) (wP0 ?_)
 refine wB0 (collect_list isl ?_ (by omega))
 refine wB0 (wpAny_newList ?_)
 generalize hh1:(s.heap.push (seqObj "list" #[] 0)).update s.heap.objs.size (Obj.mapSeq (· ++its.toArray))=h1
 have hsz:h1.objs.size=s.heap.objs.size+1:=by rw [<-hh1,Heap.size_update,size_push']
 have k1: ∀b u,s.heap.get? b=some u->h1.get? b=some u:=λb u e=>by
  rw [<-hh1,Heap.get?_update_other _ _ (ne_of_gt (Heap.lt_size e))]
  exact hP0 _ e
 have hoL:(h1.push (seqObj "list" its.toArray 0)).get? h1.objs.size=some (seqObj "list" its.toArray 0):=Heap.get?_push_size _ rfl
 show wpAny _ _ _ _ _ {s with heap:=h1.push (seqObj "list" its.toArray 0)}
 dsimp only
 generalize hL:h1.objs.size=L at *
 have sL:s.heap.objs.size<=L:=by omega
 refine wB0 (wpAny_holding (wpAny_call_entry_kw slot_list_sort ⟨_,hoL,rfl⟩ entry_list_sort (Srt.sort_plain hoL (by omega) λs2 he2=>?_) (yDI _)))
 dsimp only at he2
 generalize hh2:h1.push (seqObj "list" its.toArray 0)=h2 at *
 have fL:zNE X pins H L:=I.fpOk sL (I.hok.fresh sL)
 have k3: ∀b u,s.heap.get? b=some u->s2.heap.get? b=some u:=λb u e=>by
  rw [he2]
  refine hP0 _ (hP0 _ ?_)
  rw [Heap.get?_update_other _ _ (ne_of_gt (lt_of_lt_of_le (Heap.lt_size e) sL)), <-hh2]
  exact hP0 _ (k1 b u e)
 have I3:Inv X pins σ H s2:=by
  have:=I.kept (h':=s2.heap) (t':=s.toks) k3
  rw [he2]at this ⊢
  exact this
 have hu':X.A.in1.in1.units+64<cLine:=by show X.A.units+1+1+64<cLine;omega
 obtain⟨q,gL⟩: ∃q,s2.heap.get? L=some (seqObj "list" #[] q):=by
  rw [he2]
  exact⟨_,hP0 _ (hP0 _ (get?_update_seq hoL (λ_=>#[])))⟩
 refine⟨tuples' true,(λp=> ∃d v,d∈ds/\Den X.K α H d v/\RelV v p.1),ltV X.K α H S ds,λhge=>?_,λout op os=>?_⟩
 ·have ne:ds≠[]:=λz=>by rw [hil,z]at hge;exact absurd hge (by decide)
  refine⟨yTE I3 ne hkind dl rv,cmp_s I3 wd hu' ne hkind hord,λp hp=>?_⟩
  have hp1:p.1∈its:=(of_mem_zip hp).1
  obtain⟨i,hi⟩:=getElem?_of_mem hp1
  have hl':i<xs.length:=by rw [rv.length];exact(gS0.mp hi).1
  obtain⟨u',h1',r⟩:=rv.get (gE0 hl')
  rw [hi]at h1';cases h1'
  obtain⟨d,h2',h3'⟩:=dl.get (gE0 hl')
  exact⟨d,_,mem_of_getElem? h2',h3',r⟩
 ·obtain⟨idx,ip,ie⟩:=zVY op.symm (List.range ds.length) (yHQ hil hil)
  have ib: ∀i,i∈idx->i<ds.length:=λi hi=>mem_range.mp (ip.mem_iff.mp hi)
  have eo:out.map (·.2)=idx.filterMap (its[·]?):=by
   rw [<-ie,map_map]
   exact zSQ λi hi=>by rw [hil];exact ib i hi
  have po:idx.Pairwise (λi j=> ∀a c,ds[i]? =some a->ds[j]? =some c->ltv S zX c a=some false):=by
   rw [<-ie,List.pairwise_map]at os
   refine List.Pairwise.imp_of_mem (λ{i j} hi hj h a c ha hc=>?_) os
   have ui:its[i]? =some (its[i]'(by rw [hil];exact ib i hi)):=gE0 _
   have uj:its[j]? =some (its[j]'(by rw [hil];exact ib j hj)):=gE0 _
   have h':(ltv S zX (zXO X.K α H ds ((its[j]?).getD .none)) (zXO X.K α H ds ((its[i]?).getD .none))).getD false=false:=h
   rw [ui,uj]at h'
   simp only [Option.getD_some]at h'
   rw [yKZ I3 hpu dl rv ui ha,yKZ I3 hpu dl rv uj hc]at h'
   obtain⟨t,ht⟩:=hord.any c (mem_of_getElem? hc) a (mem_of_getElem? ha)
   rw [ht]at h'
   have h':t=false:=h'
   rw [ht,h']
  have vy:=Vals.pick rv idx
  refine⟨_,rfl,wP0 ⟨_,rfl,.ref L,upd H L (.lst (idx.filterMap (xs[·]?))),?_,rfl,hQ idx L _ ip po (I.hok.fresh sL) (dl.pick idx)⟩⟩
  obtain⟨f0,f1,f2,f3,f4,f5⟩:=fL
  have I6:Inv X pins σ H {s2 with heap:=s2.heap.update L (Obj.mapSeq λ_=>(out.map (·.2)).toArray)}:=
   I3.turned (t':=s2.toks) (λb o hb e=>(Heap.get?_update_other _ _ (Ne.symm hb)).trans e) f0 f1 f3 f4 f5
  obtain⟨n',gL2⟩: ∃n',(s2.heap.update L (Obj.mapSeq λ_=>(out.map (·.2)).toArray)).get? L=some (seqObj "list" (idx.filterMap (its[·]?)).toArray n'):=⟨_,by
   have:=get?_update_seq gL (λ_=>(out.map (·.2)).toArray)
   rw [eo]at this ⊢
   exact this⟩
  refine yHP (its:=idx.filterMap (its[·]?)) I6 ⟨f0,f1,f2,f3,f4,f5⟩ (le_trans I.sz sL) gL2 vy ?_
  ·have:=List.length_filterMap_le (xs[·]?) idx
   have h3:=ip.length_eq
   rw [length_range]at h3
   omega
end
structure SrtS(S:Sto)(ds:List MV):Prop where
 len:ds.length<1000000
 pu: ∀d,d∈ds->zBN d=true
 kind: ∀d,d∈ds->zSV d
 ord:OrdD S ds
open Classical in
noncomputable def zSW(rs:List Er)(S:Sto):R Er:=match rs with
 |[p]=>match gC S p with
  |some ds=>if h: ∃r,SrtS S ds/\ ∀r',yFM S ds ds r'->r'=r then .ok (.new (Classical.choose h)) S else .no
  |none=>.no
 |_=>.no
theorem yFR{p:Er}{S:Sto}{ds r:List MV}(e:gC S p=some ds)(ok:SrtS S ds)(u: ∀r',yFM S ds ds r'->r'=r)(ex:yFM S ds ds r):zSW [p] S=.ok (.new r) S:=by
 unfold zSW
 dsimp only
 rw [e]
 dsimp only
 have h: ∃r,SrtS S ds/\ ∀r',yFM S ds ds r'->r'=r:=⟨r,ok,u⟩
 rw [dif_pos h]
 obtain⟨_,u'⟩:=Classical.choose_spec h
 rw [<-u' r ex]
theorem _root_.L2.Room.u128{k:Nat}{A:Around}(r:Room k A):A.units+128<cLine:=by have:=r.un;omega
section
variable{X:Cx}{W:XW}
theorem zWA(hu:X.A.units+128<cLine):CallR X (.builtin "sorted") (λxs H Q=> ∃α S l vs ds,xs=[.ref l]/\Wd X.g α S H/\SqL X.K H l vs/\DenL X.K α H ds vs/\SrtS S ds/\
  ∀(idx:List Nat)(p:Addr)(ys:List V),idx.Perm (List.range ds.length)->idx.Pairwise (λi j=> ∀a c,ds[i]? =some a->ds[j]? =some c->ltv S zX c a=some false)->H p=none->DenL X.K α H (idx.filterMap (ds[·]?)) ys->Q (.ref p) (upd H p (.lst ys))):=by
 intro pins s σ H xs us Q I r h
 obtain⟨α,S,l,vs,ds,rfl,wd,hl,dl,ok,q⟩:=h
 obtain⟨u,rfl,rx⟩:=vals1 r
 cases rx
 exact yLB hu I wd hl dl ok.len ok.pu ok.kind ok.ord q
theorem yFS:zNI X W (λxs H Q=> ∃α S l vs ds,xs=[.ref l]/\Wd X.g α S H/\SqL X.K H l vs/\DenL X.K α H ds vs/\SrtS S ds/\
  ∀(idx:List Nat)(p:Addr)(ys:List V),idx.Perm (List.range ds.length)->idx.Pairwise (λi j=> ∀a c,ds[i]? =some a->ds[j]? =some c->ltv S zX c a=some false)->H p=none->DenL X.K α H (idx.filterMap (ds[·]?)) ys->Q (.ref p) (upd H p (.lst ys))) zSW:=by
 intro rs vs α S H Q wd d post
 unfold zSW at post
 split at post
 ·split at post
  ·rename_i ds e
   split at post
   ·rename_i h
    obtain⟨v,rfl,dv⟩:=zPX d
    obtain⟨l,us,rfl,h1,h2⟩:=zLO rfl wd e dv
    obtain⟨ok,u⟩:=Classical.choose_spec h
    refine⟨α,S,l,us,ds,rfl,wd,h1,h2,ok,λidx p ys i1 i2 hp hd=>?_⟩
    have er:=u _ ⟨idx,i1,i2,rfl⟩
    rw [er]at hd
    exact Post.newl post wd hp hd
   ·exact post.elim
  ·exact post.elim
 ·exact post.elim
end
section
variable{X:Cx}{W:XW}{a b:Expr}{f g:AX}{pos:Pos}
def shrC(i j:Int):Prop:=0<=j
instance(i j:Int):Decidable (shrC i j):=inferInstanceAs (Decidable (_<=_))
end
end M
end L2
namespace L2
namespace M
namespace My
open PySem PySem.Spec PyProof.Rows
local macro_rules
 | `(tactic|simp? [$xs,*] $[$l:location]?)=>`(tactic|simp only [List.getElem?_cons_zero,List.getElem?_cons_succ,yNV,bok,as_int,as_bl,ySD,add_int,sub_int,eq_int,ySE,yHM,lst1,lst2,lst3,lst6,tup2,tup3,ySI,ySJ,ySK,ySL,ySM,ySN,yOA,yOB,List.set_cons_zero,List.set_cons_succ,if_true,yOD,yOC,vJ,kJ,bJ,dJ,nJ,aJ,oJ,iJ,mJ,tJ,lJ,zJ,fJ,xJ,hJ,eJ,gJ,uJ,pJ,jJ,qJ,rJ,sJ,wJ,yJ,AJ,BJ,CJ,DJ,EJ,FJ,GJ,HJ,IJ,JJ,KJ,LJ,MJ,NJ,$xs,*] $[$l:location]?)
abbrev zWB:List Str:=["looked_at","test","left","right"]
abbrev zQB:List Str:=["self","row","rows","asked","other"]
abbrev zME:List Str:=["rows","pairs","place","i"]
abbrev kN:List Str:=["book","rules","rows","i","row","within","barred"]
abbrev zAJ:List Str:=["book","rules","i","j","row","other","parted"]
abbrev yAO:List Str:=["book","rows","rules","found","i","j"]
abbrev zMF:List Str:=["_law_cell","_law_k","_law_number"]
abbrev zDH:List Str:=["_law_well_here","_law_many","_law_found"]
abbrev zJG:List Str:=["_law_cell","_law_k","_law_found","_law_j"]
abbrev nV:List Str:=["_law_well_here","_law_pool_here","_law_letters","_law_names","_law_word_here","_law_way","_law_at"]
abbrev zJH:List Str:=["_law_cell","_law_well_here","_law_pool_here","_law_k","_law_way","_law_value_here"]
abbrev zEA:List Str:=["_law_cell","_law_well_here","_law_tables_here","_law_k","_law_wide","_law_key_here"]
abbrev zGU:List Str:=["_law_cell","_law_tables_here","_law_pool_here","_law_well_here","_law_t"]
abbrev zJI:List Str:=["_law_cells","_law_tables_here","_law_pool_here","_law_most","_law_rows_here","_law_cell","_law_row_here"]
abbrev zJJ:List Str:=["_law_well_here","_law_there","_law_tables_here","_law_pool_here","_law_k"]
abbrev zGV:List Str:=["_law_well_here","_law_there","_law_tables_here","_law_pool_here","_law_tests_here","_law_k","_law_left","_law_right"]
abbrev nW:List Str:=["_law_cell","_law_tables_here","_law_pool_here","_law_well_here","_law_way","_law_t","_law_u","_law_many","_law_columns","_law_others"]
abbrev zDI:List Str:=["_law_script","_law_most","_law_room","_law_pool_here","_law_tables_here","_law_many","_law_rules","_law_cells","_law_k"]
abbrev bX:List Str:=["_law_side_here","_law_rows_here"]
abbrev zQC:List Str:=["_law_tests_here","_law_rows_here","_law_left","_law_word_here","_law_right","_law_one","_law_other"]
abbrev gF:List Str:=["_law_rule_here","_law_row_here"]
abbrev zLP:List Str:=["_law_rule_here","_law_row_here","_law_other","_law_one","_law_two"]
abbrev bY:List Str:=["_law_rule_here","_law_row_here","_law_rows_here","_law_due"]
abbrev zSX:List Str:=["_law_book_here","_law_i","_law_t","_law_cells"]
abbrev zEB:List Str:=["_law_book_here","_law_some","_law_rows_here","_law_due","_law_i","_law_k","_law_rule_here","_law_j"]
abbrev dO:List Str:=["_law_rows_here","_law_cell"]
abbrev zJK:List Str:=["_law_book_here","_law_some","_law_due","_law_turn","_law_found","_law_row_here","_law_told_here"]
abbrev yQE:List Str:=["_law_script","_law_most","_law_book_here","_law_cell","_law_sets","_law_some"]
abbrev OCS:List Str:=["Rule","Never","Apart","Tie"]
noncomputable section
abbrev AF:=AY
abbrev AE:=AX
def zGW:AF:=(AJ (aJ (bJ (yJ (vJ 0) (yJ (kJ (.typ "int")) wJ)) zAH) (nJ (bJ (yJ (vJ 0) (yJ (kJ (.typ "bool")) wJ)) zAH))))
def zCF:AF:=(zGW)
def zCG(ds:List MV)(S:Sto):R Er:=yG (zCF (zR ["thing"] ds) S)
def jE:AF:=(iJ (bJ (dJ eqF (dJ ixF (vJ 0) (kJ (.int 0))) (kJ (.str [105,115]))) asB) ((AJ (dJ ixF (vJ 0) (kJ (.int 1))))) (JJ))
def zCH:AF:=(AJ (dJ ixF (dJ ixF (dJ ixF (vJ 1) (dJ ixF (vJ 0) (kJ (.int 1)))) (kJ (.int 1))) (dJ ixF (vJ 0) (kJ (.int 2)))))
def zGX:AF:=zU (jE) ((zCH))
def bZ(ds:List MV)(S:Sto):R Er:=yG (zGX (zR ["side","looked_at"] ds) S)
def zJL:AF:=(CJ (fJ 2 bZ (yJ (dJ ixF (vJ 1) (kJ (.int 0))) (yJ (vJ 0) wJ))) 2)
def zJM:AF:=(CJ (fJ 2 bZ (yJ (dJ ixF (vJ 1) (kJ (.int 2))) (yJ (vJ 0) wJ))) 3)
def zJN:AF:=(iJ (bJ (dJ eqF (dJ ixF (vJ 1) (kJ (.int 1))) (kJ (.str [115,97,109,101]))) asB) ((AJ (dJ eqF (vJ 2) (vJ 3)))) (JJ))
def zJO:AF:=(iJ (bJ (dJ eqF (dJ ixF (vJ 1) (kJ (.int 1))) (kJ (.str [117,110,108,105,107,101]))) asB) ((AJ (dJ neF (vJ 2) (vJ 3)))) (JJ))
def zJP:AF:=(AJ (aJ (fJ 1 zCG (yJ (vJ 2) wJ)) (aJ (fJ 1 zCG (yJ (vJ 3) wJ)) (dJ ltF (vJ 2) (vJ 3)))))
def zPE:AF:=zU (zJL) (zU (zJM) (zU (zJN) (zU (zJO) ((zJP)))))
def zLB(ds:List MV)(S:Sto):R Er:=yG (zPE (zR zWB ds) S)
def zDJ:AZ:=uJ
def cA:AE:=(fJ 2 zLB (yJ (vJ 1) (yJ (vJ 0) wJ)))
def zIH:AF:=(AJ (bJ (yJ (pJ (bJ (vJ 1) itT) (gNm 0) (zDJ) (cA) 1 [0]) wJ) allF))
def zEC:AF:=(zIH)
def xO(ds:List MV)(S:Sto):R Er:=yG (zEC (zR ["looked_at","tests"] ds) S)
def zJQ:AZ:=uJ
def zCI:AE:=(dJ ixF (dJ ixF (vJ 1) (kJ (.int 1))) (vJ 0))
def zNR:AF:=(AJ (pJ (bJ (vJ 1) itT) (gNm 0) (zJQ) (zCI) 1 [0]))
def zMG:AF:=(zNR)
def zCJ(ds:List MV)(S:Sto):R Er:=yG (zMG (zR ["row","columns"] ds) S)
def zUR:AF:=(AJ (kJ (.bl false)))
def xP:AF:=(zUR)
def bP(ds:List MV)(S:Sto):R Er:=yG (xP (zR ["self","row"] ds) S)
def zLI:AF:=(AJ (kJ (.bl false)))
def yD:AF:=(zLI)
def xK(ds:List MV)(S:Sto):R Er:=yG (yD (zR ["self","row","other"] ds) S)
def zSY:AF:=(AJ (kJ (.bl false)))
def xH:AF:=(zSY)
def jP(ds:List MV)(S:Sto):R Er:=yG (xH (zR ["self","row","rows"] ds) S)
def zJR:AF:=(AJ (aJ (dJ eqF (dJ ixF (vJ 1) (kJ (.int 0))) (dJ ixF (bJ (vJ 0) (zDF OCS "parts")) (kJ (.int 1)))) (fJ 2 xO (yJ (bJ (yJ (vJ 1) wJ) bG) (yJ (dJ ixF (bJ (vJ 0) (zDF OCS "parts")) (kJ (.int 2))) wJ)))))
def wP:AF:=(zJR)
def zGY(ds:List MV)(S:Sto):R Er:=yG (wP (zR ["self","row"] ds) S)
def kA:AF:=(iJ (sJ (bJ (dJ neF (dJ ixF (vJ 1) (kJ (.int 0))) (dJ ixF (bJ (vJ 0) (zDF OCS "parts")) (kJ (.int 1)))) asB) (bJ (dJ neF (dJ ixF (vJ 2) (kJ (.int 0))) (dJ ixF (bJ (vJ 0) (zDF OCS "parts")) (kJ (.int 2)))) asB)) ((AJ (kJ (.bl false)))) (JJ))
def bQ:AF:=(AJ (fJ 2 xO (yJ (bJ (yJ (vJ 1) (yJ (vJ 2) wJ)) bG) (yJ (dJ ixF (bJ (vJ 0) (zDF OCS "parts")) (kJ (.int 3))) wJ))))
def yB:AF:=zU (kA) ((bQ))
def wC(ds:List MV)(S:Sto):R Er:=yG (yB (zR ["self","row","other"] ds) S)
noncomputable def xT:List (Str×(List MV->Sto->R Er)):=[("Apart",wC)]
def nX:AF:=(AJ (oJ (NJ "parts_in_turn" 3 xT (vJ 0) (yJ (vJ 1) (yJ (vJ 2) wJ))) (NJ "parts_in_turn" 3 xT (vJ 0) (yJ (vJ 2) (yJ (vJ 1) wJ)))))
def yO:AF:=(nX)
def bH(ds:List MV)(S:Sto):R Er:=yG (yO (zR ["self","row","other"] ds) S)
noncomputable def zII:AY:=(iJ (rJ (bJ (dJ eqF (dJ ixF (vJ 4) (kJ (.int 0))) (dJ ixF (bJ (vJ 0) (zDF OCS "parts")) (kJ (.int 3)))) asB) (bJ (dJ eqF (fJ 2 zCJ (yJ (vJ 4) (yJ (dJ ixF (bJ (vJ 0) (zDF OCS "parts")) (kJ (.int 4))) wJ))) (vJ 3)) asB)) ((AJ (kJ (.bl false)))) (JJ))
noncomputable def nI:AY:=(zII)
def gG:AF:=(iJ (bJ (dJ neF (dJ ixF (vJ 1) (kJ (.int 0))) (dJ ixF (bJ (vJ 0) (zDF OCS "parts")) (kJ (.int 1)))) asB) ((AJ (kJ (.bl false)))) (JJ))
def zED:AF:=(CJ (fJ 2 zCJ (yJ (vJ 1) (yJ (dJ ixF (bJ (vJ 0) (zDF OCS "parts")) (kJ (.int 2))) wJ))) 3)
def zEE:AF:=(FJ (bJ (vJ 2) itL) (gNm 4) (nI))
def zUS:AF:=(AJ (kJ (.bl true)))
def xQ:AF:=zU (gG) (zU (zED) (zU (zEE) ((zUS))))
def zDK(ds:List MV)(S:Sto):R Er:=yG (xQ (zR zQB ds) S)
def jF:AF:=(iJ (bJ (dJ eqF (dJ ixF (vJ 0) (kJ (.int 0))) (kJ (.str [110,101,118,101,114]))) asB) ((AJ (bJ (vJ 0) (yHT "Never" "parts")))) (JJ))
def nY:AF:=(iJ (bJ (dJ eqF (dJ ixF (vJ 0) (kJ (.int 0))) (kJ (.str [97,112,97,114,116]))) asB) ((AJ (bJ (vJ 0) (yHT "Apart" "parts")))) (JJ))
def yAP:AF:=(AJ (bJ (vJ 0) (yHT "Tie" "parts")))
def zGF:AF:=zU (jF) (zU (nY) ((yAP)))
def zLC(ds:List MV)(S:Sto):R Er:=yG (zGF (zR ["parts"] ds) S)
def zJS:AZ:=uJ
def zCK:AE:=(fJ 1 zLC (yJ (vJ 0) wJ))
def zGZ:AF:=(AJ (pJ (bJ (dJ ixF (vJ 0) (kJ (.int 1))) itT) (gNm 0) (zJS) (zCK) 1 []))
def zMH:AF:=(zGZ)
def zHA(ds:List MV)(S:Sto):R Er:=yG (zMH (zR ["book"] ds) S)
def zJT:AZ:=uJ
def zCL:AE:=(bJ (yJ (vJ 1) (yJ (vJ 0) wJ)) kM)
noncomputable def zJU:AY:=(BJ (eJ gE yHU (vJ 1) (yJ (pJ (bJ (tJ zGC (vJ 0) (bJ (dJ wZ (vJ 2) (kJ (.int 1))) asI) mJ) itT) (gNm 0) (zJT) (zCL) 1 [3]) wJ)))
noncomputable def zHB:AY:=(zJU)
def zHC:AF:=(CJ (bJ wJ bG) 1)
def zHD:AF:=(FJ (bJ (yJ (vJ 0) wJ) itE) (gTp 2 (zV (gNm 2) (zV (gNm 3) wY))) (zHB))
def zXP:AF:=(AJ (vJ 1))
def zMI:AF:=zU (zHC) (zU (zHD) ((zXP)))
def zHE(ds:List MV)(S:Sto):R Er:=yG (zMI (zR zME ds) S)
def zSZ:AF:=(AJ (bJ (yJ (dJ ixF (vJ 1) (kJ (.int 0))) (yJ (tJ zGC (dJ ixF (vJ 1) (kJ (.int 1))) mJ (bJ (dJ ixF (dJ ixF (vJ 0) (dJ ixF (vJ 1) (kJ (.int 0)))) (kJ (.int 1))) asI)) wJ)) kM))
def zTA:AF:=(zSZ)
def zJV(ds:List MV)(S:Sto):R Er:=yG (zTA (zR ["tables","row"] ds) S)
noncomputable def zDL:List (Str×(List MV->Sto->R Er)):=[("Rule",bP),("Never",zGY),("Apart",bP),("Tie",bP)]
noncomputable def zGG:List (Str×(List MV->Sto->R Er)):=[("Rule",jP),("Never",jP),("Apart",jP),("Tie",zDK)]
def zBO:AZ:=uJ
def jW:AE:=(dJ ixF (dJ ixF (vJ 1) (kJ (.int 2))) (vJ 0))
def jX:AZ:=(bJ (NJ "bars" 2 zDL (vJ 1) (yJ (vJ 3) wJ)) zIW)
def jY:AE:=(bJ (yJ (kJ (.str [110,101,118,101,114])) (yJ (vJ 2) (yJ (vJ 0) wJ))) kM)
def jZ:AZ:=(bJ (NJ "lacks" 3 zGG (vJ 1) (yJ (vJ 3) (yJ (vJ 4) wJ))) zIW)
def hU:AE:=(bJ (yJ (kJ (.str [116,105,101])) (yJ (vJ 2) (yJ (vJ 0) wJ))) kM)
def cB:AF:=(CJ (dJ ixF (dJ ixF (vJ 0) (kJ (.int 2))) (vJ 3)) 4)
def cC:AF:=(CJ (pJ (bJ (vJ 2) itT) (gNm 0) (zBO) (jW) 1 [0]) 5)
def cE:AF:=(CJ (pJ (bJ (yJ (vJ 1) wJ) itE) (gTp 2 (zV (gNm 0) (zV (gNm 1) wY))) (jX) (jY) 2 [3,4]) 6)
def cF:AF:=(AJ (dJ wZ (vJ 6) (pJ (bJ (yJ (vJ 1) wJ) itE) (gTp 2 (zV (gNm 0) (zV (gNm 1) wY))) (jZ) (hU) 2 [3,4,5])))
def zAK:AF:=zU (cB) (zU (cC) (zU (cE) ((cF))))
def gU(ds:List MV)(S:Sto):R Er:=yG (zAK (zR kN ds) S)
noncomputable def xR:List (Str×(List MV->Sto->R Er)):=[("Rule",xK),("Never",xK),("Apart",bH),("Tie",xK)]
def hX:AZ:=(bJ (NJ "parts_them" 3 xR (vJ 1) (yJ (vJ 4) (yJ (vJ 5) wJ))) zIW)
def hZ:AE:=(bJ (yJ (kJ (.str [97,112,97,114,116])) (yJ (vJ 2) (yJ (vJ 3) (yJ (vJ 0) wJ)))) kM)
def cG:AF:=(CJ (dJ ixF (dJ ixF (vJ 0) (kJ (.int 2))) (vJ 2)) 4)
def cH:AF:=(CJ (dJ ixF (dJ ixF (vJ 0) (kJ (.int 2))) (vJ 3)) 5)
def cI:AF:=(CJ (pJ (bJ (yJ (vJ 1) wJ) itE) (gTp 2 (zV (gNm 0) (zV (gNm 1) wY))) (hX) (hZ) 2 [2,3,4,5]) 6)
def cJ:AF:=(iJ (bJ (dJ eqF (fJ 2 zJV (yJ (dJ ixF (vJ 0) (kJ (.int 0))) (yJ (vJ 4) wJ))) (fJ 2 zJV (yJ (dJ ixF (vJ 0) (kJ (.int 0))) (yJ (vJ 5) wJ)))) asB) ((BJ (eJ gE zMB (vJ 6) (yJ (bJ (yJ (kJ (.str [107,101,121])) (yJ (vJ 2) (yJ (vJ 3) wJ))) kM) wJ)))) (JJ))
def zNS:AF:=(AJ (vJ 6))
def zAL:AF:=zU (cG) (zU (cH) (zU (cI) (zU (cJ) ((zNS)))))
def gV(ds:List MV)(S:Sto):R Er:=yG (zAL (zR zAJ ds) S)
noncomputable def zNT:AY:=(BJ (eJ gE yHU (vJ 3) (yJ (fJ 4 gU (yJ (vJ 0) (yJ (vJ 2) (yJ (vJ 1) (yJ (vJ 4) wJ))))) wJ)))
noncomputable def zMJ:AY:=(zNT)
noncomputable def zNU:AY:=(BJ (eJ gE yHU (vJ 3) (yJ (fJ 4 gV (yJ (vJ 0) (yJ (vJ 2) (yJ (vJ 4) (yJ (vJ 5) wJ))))) wJ)))
noncomputable def zMK:AY:=(zNU)
def zML:AF:=(CJ (fJ 1 zHA (yJ (vJ 0) wJ)) 2)
def zMM:AF:=(CJ (bJ wJ bG) 3)
def zMN:AF:=(FJ (bJ (vJ 1) itT) (gNm 4) (zMJ))
def zMO:AF:=(FJ (bJ (fJ 1 zHE (yJ (vJ 1) wJ)) itL) (gTp 2 (zV (gNm 4) (zV (gNm 5) wY))) (zMK))
def zMP:AF:=(AJ (bJ (yJ (vJ 3) wJ) zSW))
def zTB:AF:=zU (zML) (zU (zMM) (zU (zMN) (zU (zMO) ((zMP)))))
def zGH(ds:List MV)(S:Sto):R Er:=yG (zTB (zR yAO ds) S)
def yAQ:AF:=(AJ (dJ eqF (bJ (yJ (fJ 2 zGH (yJ (vJ 0) (yJ (vJ 1) wJ))) wJ) nS) (kJ (.int 0))))
def yDJ:AF:=(yAQ)
def zXQ(ds:List MV)(S:Sto):R Er:=yG (yDJ (zR ["book","rows"] ds) S)
def dP:AF:=(iJ (bJ (dJ ltF (vJ 1) (bJ (yJ (vJ 0) wJ) nS)) asB) ((AJ (dJ ixF (vJ 0) (vJ 1)))) (JJ))
def zPF:AF:=(AJ (kJ (.int 0)))
def zCM:AF:=zU (dP) ((zPF))
def zY(ds:List MV)(S:Sto):R Er:=yG (zCM (zR ["_law_script","_law_k"] ds) S)
def zHF:AF:=(CJ (dJ zSB (dJ wZ (dJ wZ (dJ wZ (dJ zSB (vJ 0) (kJ (.int 2147483647))) (dJ zIZ (dJ zIZ (kJ (.int 7919)) (vJ 1)) (vJ 1))) (dJ zIZ (kJ (.int 101)) (vJ 1))) (kJ (.int 11))) (kJ (.int 2147483647))) 2)
def zHG:AF:=(CJ (dJ zSB (dJ wZ (dJ wZ (dJ zIZ (vJ 2) (vJ 2)) (dJ zIZ (kJ (.int 48271)) (vJ 2))) (kJ (.int 13))) (kJ (.int 2147483647))) 2)
def zHH:AF:=(AJ (dJ zSB (dJ wZ (dJ wZ (dJ zIZ (vJ 2) (vJ 2)) (dJ zIZ (kJ (.int 69621)) (vJ 2))) (kJ (.int 7))) (kJ (.int 2147483629))))
def zTC:AF:=zU (zHF) (zU (zHG) ((zHH)))
def xE(ds:List MV)(S:Sto):R Er:=yG (zTC (zR zMF ds) S)
def gH:AF:=(CJ (dJ zSB (dJ ixF (vJ 0) (kJ (.int 0))) (vJ 1)) 2)
def gI:AF:=(EJ (dJ zUL (dJ ixF (vJ 0) (kJ (.int 0))) (vJ 1)) (DJ zZX (vJ 0) (kJ (.int 0))))
def zUT:AF:=(AJ (vJ 2))
def zJW:AF:=zU (gH) (zU (gI) ((zUT)))
def zL(ds:List MV)(S:Sto):R Er:=yG (zJW (zR zDH ds) S)
noncomputable def zIJ:AY:=(CJ (dJ wZ (dJ zIZ (vJ 2) (kJ (.int 2147483629))) (fJ 2 xE (yJ (dJ zUL (vJ 0) (kJ (.int 2))) (yJ (dJ wZ (dJ wZ (kJ (.int 100)) (dJ zIZ (kJ (.int 6)) (vJ 1))) (vJ 3)) wJ)))) 2)
noncomputable def zEF:AY:=(zIJ)
def zEG:AF:=(iJ (bJ (dJ eqF (dJ zSB (vJ 0) (kJ (.int 2))) (kJ (.int 0))) asB) ((AJ (bJ (yJ (dJ zUL (vJ 0) (kJ (.int 2))) wJ) bG))) (JJ))
def zLQ:AF:=(CJ (kJ (.int 0)) 2)
def zEH:AF:=(FJ (bJ (yJ (kJ (.int 6)) wJ) zCB) (gNm 3) (zEF))
def zEI:AF:=(AJ (bJ (yJ (vJ 2) wJ) bG))
def zJX:AF:=zU (zEG) (zU (zLQ) (zU (zEH) ((zEI))))
def yI(ds:List MV)(S:Sto):R Er:=yG (zJX (zR zJG ds) S)
def zAM:AZ:=(bJ (bJ (yJ (vJ 0) (yJ (kJ (.typ "str")) wJ)) zAH) zIW)
def zIK:AE:=(vJ 0)
def zIL:AZ:=uJ
def zAN:AE:=(dJ ixF (vJ 2) (fJ 2 zL (yJ (vJ 1) (yJ (kJ (.int 26)) wJ))))
def zLR:AF:=(CJ (kJ (.str [97,98,99,100,101,102,103,104,105,106,107,108,109,110,111,112,113,114,115,116,117,118,119,120,121,122])) 2)
def zEJ:AF:=(CJ (pJ (bJ (vJ 1) itL) (gNm 0) (zAM) (zIK) 1 []) 3)
def zEK:AF:=(CJ (eJ zSD zVZ (kJ (.str [])) (yJ (pJ (bJ (yJ (dJ wZ (kJ (.int 1)) (fJ 2 zL (yJ (vJ 0) (yJ (kJ (.int 8)) wJ)))) wJ) zCB) (gNm 0) (zIL) (zAN) 1 [0,2]) wJ)) 4)
def zEL:AF:=(CJ (fJ 2 zL (yJ (vJ 0) (yJ (kJ (.int 3)) wJ))) 5)
def zEM:AF:=(iJ (sJ (bJ (dJ eqF (vJ 5) (kJ (.int 0))) asB) (bJ (dJ eqF (vJ 3) (bJ wJ bG)) asB)) ((AJ (vJ 4))) (JJ))
def zEN:AF:=(iJ (bJ (dJ eqF (vJ 5) (kJ (.int 1))) asB) ((AJ (tJ zGC (dJ wZ (dJ ixF (vJ 3) (kJ (.int (-1)))) (vJ 4)) mJ (bJ (bJ (yJ (kJ (.int 8)) (yJ (dJ wZ (bJ (yJ (dJ ixF (vJ 3) (kJ (.int (-1)))) wJ) nS) (kJ (.int 1))) wJ)) minF) asI)))) (JJ))
def zEO:AF:=(CJ (fJ 2 zL (yJ (vJ 0) (yJ (bJ (yJ (dJ ixF (vJ 3) (kJ (.int (-1)))) wJ) nS) wJ))) 6)
def zEP:AF:=(AJ (dJ wZ (dJ wZ (tJ zGC (dJ ixF (vJ 3) (kJ (.int (-1)))) mJ (bJ (vJ 6) asI)) (dJ ixF (vJ 4) (kJ (.int 0)))) (tJ zGC (dJ ixF (vJ 3) (kJ (.int (-1)))) (bJ (dJ wZ (vJ 6) (kJ (.int 1))) asI) mJ)))
def nZ:AF:=zU (zLR) (zU (zEJ) (zU (zEK) (zU (zEL) (zU (zEM) (zU (zEN) (zU (zEO) ((zEP))))))))
def jG(ds:List MV)(S:Sto):R Er:=yG (nZ (zR nV ds) S)
noncomputable def zAO:AY:=(CJ (fJ 2 zL (yJ (vJ 1) (yJ (kJ (.int 4)) wJ))) 4)
noncomputable def zAP:AY:=(CJ (dJ yJU (fJ 2 zL (yJ (vJ 1) (yJ (kJ (.int 9)) wJ))) (kJ (.int 4))) 5)
noncomputable def gW:AY:=(iJ (bJ (dJ eqF (vJ 4) (kJ (.int 0))) asB) ((CJ (dJ wZ (dJ yJU (fJ 2 zL (yJ (vJ 1) (yJ (dJ yJU (dJ zIZ (kJ (.int 2)) (dJ powF (kJ (.int 10)) (kJ (.int 30)))) (kJ (.int 1))) wJ))) (dJ powF (kJ (.int 10)) (kJ (.int 30)))) (kJ (.int 1))) 5)) (JJ))
noncomputable def gX:AY:=(iJ (sJ (bJ (dJ eqF (vJ 4) (kJ (.int 1))) asB) (bJ (dJ eqF (vJ 4) (kJ (.int 2))) asB)) ((CJ (fJ 2 jG (yJ (vJ 1) (yJ (vJ 2) wJ))) 5)) (JJ))
noncomputable def zAQ:AY:=(iJ (bJ (dJ (inF true) (vJ 5) (vJ 2)) asB) ((BJ (eJ gE zMB (vJ 2) (yJ (vJ 5) wJ)))) (JJ))
noncomputable def gK:AY:=zU (zAO) (zU (zAP) (zU (gW) (zU (gX) ((zAQ)))))
def zEQ:AF:=(CJ (fJ 2 yI (yJ (vJ 0) (yJ (kJ (.int 1)) wJ))) 1)
def zER:AF:=(CJ (bJ wJ bG) 2)
def zES:AF:=(FJ (bJ (yJ (dJ wZ (kJ (.int 2)) (fJ 2 zL (yJ (vJ 1) (yJ (kJ (.int 3)) wJ)))) wJ) zCB) (gNm 3) (gK))
def zET:AF:=(AJ (vJ 2))
def zQD:AF:=zU (zEQ) (zU (zER) (zU (zES) ((zET))))
def bR(ds:List MV)(S:Sto):R Er:=yG (zQD (zR zJH ds) S)
noncomputable def cK:AY:=(CJ (dJ wZ (kJ (.int 1)) (fJ 2 zL (yJ (vJ 1) (yJ (kJ (.int 4)) wJ)))) 4)
noncomputable def cL:AY:=(CJ (dJ ixF (bJ (yJ (kJ (.int 0)) (yJ (kJ (.int 1)) (yJ (kJ (.int 1)) (yJ (vJ 4) (yJ (fJ 2 zL (yJ (vJ 1) (yJ (dJ wZ (vJ 4) (kJ (.int 1))) wJ))) wJ))))) bG) (fJ 2 zL (yJ (vJ 1) (yJ (kJ (.int 5)) wJ)))) 5)
noncomputable def cM:AY:=(BJ (eJ gE zMB (vJ 2) (yJ (bJ (yJ (vJ 4) (yJ (vJ 5) wJ)) kM) wJ)))
noncomputable def gY:AY:=zU (cK) (zU (cL) ((cM)))
def zAR:AF:=(CJ (fJ 2 yI (yJ (vJ 0) (yJ (kJ (.int 2)) wJ))) 1)
def zAS:AF:=(CJ (bJ wJ bG) 2)
def zAT:AF:=(FJ (bJ (yJ (dJ wZ (kJ (.int 1)) (fJ 2 zL (yJ (vJ 1) (yJ (kJ (.int 4)) wJ)))) wJ) zCB) (gNm 3) (gY))
def zAU:AF:=(AJ (bJ (yJ (vJ 2) wJ) dM))
def zLS:AF:=zU (zAR) (zU (zAS) (zU (zAT) ((zAU))))
def kS(ds:List MV)(S:Sto):R Er:=yG (zLS (zR zEA ds) S)
def zJY:AZ:=uJ
def zCN:AE:=(dJ ixF (vJ 1) (fJ 2 zL (yJ (vJ 2) (yJ (bJ (yJ (vJ 1) wJ) nS) wJ))))
def zHI:AF:=(CJ (fJ 2 yI (yJ (vJ 0) (yJ (kJ (.int 3)) wJ))) 3)
def zHJ:AF:=(CJ (fJ 2 zL (yJ (vJ 3) (yJ (bJ (yJ (vJ 1) wJ) nS) wJ))) 4)
def zHK:AF:=(AJ (bJ (yJ (vJ 4) (yJ (bJ (yJ (pJ (bJ (yJ (dJ ixF (dJ ixF (vJ 1) (vJ 4)) (kJ (.int 0))) wJ) zCB) (gNm 0) (zJY) (zCN) 1 [2,3]) wJ) dM) wJ)) kM))
def zTD:AF:=zU (zHI) (zU (zHJ) ((zHK)))
def dQ(ds:List MV)(S:Sto):R Er:=yG (zTD (zR zGU ds) S)
noncomputable def zAV:AY:=(CJ (fJ 3 dQ (yJ (vJ 5) (yJ (vJ 1) (yJ (vJ 2) wJ)))) 6)
noncomputable def wL:AY:=(iJ (rJ (bJ (dJ (inF true) (vJ 6) (vJ 4)) asB) (bJ (dJ ltF (bJ (yJ (vJ 4) wJ) nS) (vJ 3)) asB)) ((BJ (eJ gE zMB (vJ 4) (yJ (vJ 6) wJ)))) (JJ))
noncomputable def kT:AY:=zU (zAV) ((wL))
def zEU:AF:=(CJ (bJ wJ bG) 4)
def zEV:AF:=(FJ (bJ (vJ 0) itL) (gNm 5) (kT))
def zEW:AF:=(AJ (bJ (yJ (vJ 4) wJ) dM))
def zQE:AF:=zU (zEU) (zU (zEV) ((zEW)))
def bS(ds:List MV)(S:Sto):R Er:=yG (zQE (zR zJI ds) S)
def gM:AF:=(iJ (bJ (dJ eqF (fJ 2 zL (yJ (vJ 0) (yJ (kJ (.int 3)) wJ))) (kJ (.int 0))) asB) ((AJ (bJ (yJ (kJ (.str [105,115])) (yJ (dJ ixF (vJ 3) (fJ 2 zL (yJ (vJ 0) (yJ (bJ (yJ (vJ 3) wJ) nS) wJ)))) wJ)) kM))) (JJ))
def zEX:AF:=(CJ (fJ 2 zL (yJ (vJ 0) (yJ (bJ (yJ (vJ 1) wJ) nS) wJ))) 4)
def zEY:AF:=(AJ (bJ (yJ (kJ (.str [99,101,108,108])) (yJ (vJ 4) (yJ (fJ 2 zL (yJ (vJ 0) (yJ (dJ ixF (dJ ixF (vJ 2) (dJ ixF (vJ 1) (vJ 4))) (kJ (.int 0))) wJ))) wJ))) kM))
def zJZ:AF:=zU (gM) (zU (zEX) ((zEY)))
def wQ(ds:List MV)(S:Sto):R Er:=yG (zJZ (zR zJJ ds) S)
noncomputable def dR:AY:=(CJ (fJ 4 wQ (yJ (vJ 0) (yJ (vJ 1) (yJ (vJ 2) (yJ (vJ 3) wJ))))) 6)
noncomputable def dS:AY:=(CJ (fJ 4 wQ (yJ (vJ 0) (yJ (vJ 1) (yJ (vJ 2) (yJ (vJ 3) wJ))))) 7)
noncomputable def dU:AY:=(BJ (eJ gE zMB (vJ 4) (yJ (bJ (yJ (vJ 6) (yJ (dJ ixF (bJ (yJ (kJ (.str [115,97,109,101])) (yJ (kJ (.str [117,110,108,105,107,101])) (yJ (kJ (.str [108,101,115,115])) (yJ (kJ (.str [115,97,109,101])) wJ)))) bG) (fJ 2 zL (yJ (vJ 0) (yJ (kJ (.int 4)) wJ)))) (yJ (vJ 7) wJ))) kM) wJ)))
noncomputable def cN:AY:=zU (dR) (zU (dS) ((dU)))
def zCO:AF:=(CJ (bJ wJ bG) 4)
def zCP:AF:=(FJ (bJ (yJ (dJ ixF (bJ (yJ (kJ (.int 1)) (yJ (kJ (.int 1)) (yJ (kJ (.int 2)) (yJ (kJ (.int 3)) wJ)))) bG) (fJ 2 zL (yJ (vJ 0) (yJ (kJ (.int 4)) wJ)))) wJ) zCB) (gNm 5) (cN))
def zCQ:AF:=(AJ (bJ (yJ (vJ 4) wJ) dM))
def zNV:AF:=zU (zCO) (zU (zCP) ((zCQ)))
def xM(ds:List MV)(S:Sto):R Er:=yG (zNV (zR zGV ds) S)
def zIM:AZ:=uJ
def gZ:AE:=(fJ 2 zL (yJ (vJ 2) (yJ (dJ ixF (dJ ixF (vJ 1) (vJ 3)) (kJ (.int 0))) wJ)))
def zIN:AZ:=uJ
def bA:AE:=(fJ 2 zL (yJ (vJ 2) (yJ (dJ ixF (dJ ixF (vJ 1) (vJ 3)) (kJ (.int 0))) wJ)))
def zEZ:AF:=(CJ (fJ 2 yI (yJ (vJ 0) (yJ (kJ (.int 4)) wJ))) 3)
def zFA:AF:=(CJ (fJ 2 zL (yJ (vJ 3) (yJ (kJ (.int 3)) wJ))) 4)
def zFB:AF:=(CJ (fJ 2 zL (yJ (vJ 3) (yJ (bJ (yJ (vJ 1) wJ) nS) wJ))) 5)
def zFC:AF:=(CJ (fJ 2 zL (yJ (vJ 3) (yJ (bJ (yJ (vJ 1) wJ) nS) wJ))) 6)
def gN:AF:=(iJ (bJ (dJ eqF (vJ 4) (kJ (.int 0))) asB) ((AJ (bJ (yJ (kJ (.str [110,101,118,101,114])) (yJ (vJ 5) (yJ (fJ 4 xM (yJ (vJ 3) (yJ (bJ (yJ (vJ 5) wJ) kM) (yJ (vJ 1) (yJ (vJ 2) wJ))))) wJ))) kM))) (JJ))
def gO:AF:=(iJ (bJ (dJ eqF (vJ 4) (kJ (.int 1))) asB) ((AJ (bJ (yJ (kJ (.str [97,112,97,114,116])) (yJ (vJ 5) (yJ (vJ 6) (yJ (fJ 4 xM (yJ (vJ 3) (yJ (bJ (yJ (vJ 5) (yJ (vJ 6) wJ)) kM) (yJ (vJ 1) (yJ (vJ 2) wJ))))) wJ)))) kM))) (JJ))
def zFD:AF:=(CJ (dJ ixF (bJ (yJ (kJ (.int 1)) (yJ (kJ (.int 2)) (yJ (kJ (.int 1)) (yJ (kJ (.int 3)) (yJ (kJ (.int 1)) wJ))))) bG) (fJ 2 zL (yJ (vJ 3) (yJ (kJ (.int 5)) wJ)))) 7)
def zFE:AF:=(CJ (bJ (yJ (pJ (bJ (yJ (vJ 7) wJ) zCB) (gNm 0) (zIM) (gZ) 1 [1,3,5]) wJ) dM) 8)
def zFF:AF:=(CJ (bJ (yJ (pJ (bJ (yJ (vJ 7) wJ) zCB) (gNm 0) (zIN) (bA) 1 [1,3,6]) wJ) dM) 9)
def zCR:AF:=(AJ (bJ (yJ (kJ (.str [116,105,101])) (yJ (vJ 5) (yJ (vJ 8) (yJ (vJ 6) (yJ (vJ 9) wJ))))) kM))
def zDM:AF:=zU (zEZ) (zU (zFA) (zU (zFB) (zU (zFC) (zU (gN) (zU (gO) (zU (zFD) (zU (zFE) (zU (zFF) ((zCR))))))))))
def wR(ds:List MV)(S:Sto):R Er:=yG (zDM (zR nW ds) S)
def zIO:AZ:=uJ
def zAW:AE:=(fJ 3 wR (yJ (fJ 2 zY (yJ (vJ 1) (yJ (dJ wZ (kJ (.int 3)) (vJ 0)) wJ))) (yJ (vJ 3) (yJ (vJ 2) wJ))))
noncomputable def zIP:AY:=(BJ (eJ gE zMB (vJ 7) (yJ (dJ wZ (kJ (.int 1)) (dJ zIZ (kJ (.int 2)) (fJ 2 xE (yJ (fJ 2 zY (yJ (vJ 0) (yJ (kJ (.int 2)) wJ))) (yJ (dJ wZ (kJ (.int 30)) (vJ 8)) wJ))))) wJ)))
noncomputable def zFG:AY:=(zIP)
def zFH:AF:=(CJ (fJ 1 bR (yJ (fJ 2 zY (yJ (vJ 0) (yJ (kJ (.int 0)) wJ))) wJ)) 3)
def zFI:AF:=(CJ (fJ 1 kS (yJ (fJ 2 zY (yJ (vJ 0) (yJ (kJ (.int 1)) wJ))) wJ)) 4)
def zFJ:AF:=(CJ (fJ 2 zL (yJ (fJ 2 yI (yJ (fJ 2 zY (yJ (vJ 0) (yJ (kJ (.int 2)) wJ))) (yJ (kJ (.int 5)) wJ))) (yJ (dJ ixF (bJ (yJ (kJ (.int 2)) (yJ (kJ (.int 3)) (yJ (kJ (.int 5)) (yJ (kJ (.int 7)) wJ)))) bG) (vJ 2)) wJ))) 5)
def zFK:AF:=(CJ (bJ (yJ (pJ (bJ (yJ (vJ 5) wJ) zCB) (gNm 0) (zIO) (zAW) 1 [0,3,4]) wJ) dM) 6)
def zFL:AF:=(CJ (bJ (yJ (tJ zGC (vJ 0) (bJ (dJ wZ (kJ (.int 3)) (vJ 5)) asI) mJ) wJ) yKC) 7)
def zFM:AF:=(FJ (bJ (yJ (dJ zSB (fJ 2 xE (yJ (fJ 2 zY (yJ (vJ 0) (yJ (kJ (.int 2)) wJ))) (yJ (kJ (.int 6)) wJ))) (dJ wZ (vJ 1) (kJ (.int 1)))) wJ) zCB) (gNm 8) (zFG))
def zFN:AF:=(AJ (bJ (yJ (vJ 4) (yJ (vJ 6) (yJ (fJ 4 bS (yJ (tJ zGC (vJ 7) mJ (bJ (dJ zIZ (kJ (.int 2)) (vJ 1)) asI)) (yJ (vJ 4) (yJ (vJ 3) (yJ (vJ 1) wJ))))) wJ))) kM))
def zQF:AF:=zU (zFH) (zU (zFI) (zU (zFJ) (zU (zFK) (zU (zFL) (zU (zFM) ((zFN)))))))
def bT(ds:List MV)(S:Sto):R Er:=yG (zQF (zR zDI ds) S)
def jH:AF:=(iJ (bJ (dJ eqF (dJ ixF (vJ 0) (kJ (.int 0))) (kJ (.str [105,115]))) asB) ((AJ (dJ ixF (vJ 0) (kJ (.int 1))))) (JJ))
def zCS:AF:=(AJ (dJ ixF (dJ ixF (dJ ixF (vJ 1) (dJ ixF (vJ 0) (kJ (.int 1)))) (kJ (.int 1))) (dJ ixF (vJ 0) (kJ (.int 2)))))
def zHL:AF:=zU (jH) ((zCS))
def cO(ds:List MV)(S:Sto):R Er:=yG (zHL (zR bX ds) S)
noncomputable def zAX:AY:=(CJ (fJ 2 cO (yJ (vJ 2) (yJ (vJ 1) wJ))) 5)
noncomputable def zAY:AY:=(CJ (fJ 2 cO (yJ (vJ 4) (yJ (vJ 1) wJ))) 6)
noncomputable def zAZ:AY:=(iJ (sJ (rJ (bJ (dJ eqF (vJ 3) (kJ (.str [115,97,109,101]))) asB) (bJ (dJ neF (vJ 5) (vJ 6)) asB)) (rJ (bJ (dJ eqF (vJ 3) (kJ (.str [117,110,108,105,107,101]))) asB) (bJ (dJ eqF (vJ 5) (vJ 6)) asB))) ((AJ (kJ (.bl false)))) (JJ))
noncomputable def zBA:AY:=(iJ (rJ (bJ (dJ eqF (vJ 3) (kJ (.str [108,101,115,115]))) asB) (sJ (bJ (bJ (yJ (vJ 5) (yJ (kJ (.typ "str")) wJ)) zAH) zIW) (sJ (bJ (bJ (yJ (vJ 6) (yJ (kJ (.typ "str")) wJ)) zAH) zIW) (bJ (dJ geF (vJ 5) (vJ 6)) asB)))) ((AJ (kJ (.bl false)))) (JJ))
noncomputable def nK:AY:=zU (zAX) (zU (zAY) (zU (zAZ) ((zBA))))
def zFO:AF:=(FJ (bJ (vJ 0) itT) (gTp 3 (zV (gNm 2) (zV (gNm 3) (zV (gNm 4) wY)))) (nK))
def zUU:AF:=(AJ (kJ (.bl true)))
def zKA:AF:=zU (zFO) ((zUU))
def kD(ds:List MV)(S:Sto):R Er:=yG (zKA (zR zQC ds) S)
def zBB:AF:=(AJ (aJ (dJ eqF (dJ ixF (vJ 0) (kJ (.int 0))) (kJ (.str [110,101,118,101,114]))) (aJ (dJ eqF (dJ ixF (vJ 1) (kJ (.int 0))) (dJ ixF (vJ 0) (kJ (.int 1)))) (fJ 2 kD (yJ (dJ ixF (vJ 0) (kJ (.int 2))) (yJ (bJ (yJ (vJ 1) wJ) kM) wJ))))))
def gP:AF:=(zBB)
def kU(ds:List MV)(S:Sto):R Er:=yG (gP (zR gF ds) S)
noncomputable def zDN:AY:=(iJ (rJ (bJ (dJ eqF (dJ ixF (vJ 3) (kJ (.int 0))) (dJ ixF (vJ 0) (kJ (.int 1)))) asB) (rJ (bJ (dJ eqF (dJ ixF (vJ 4) (kJ (.int 0))) (dJ ixF (vJ 0) (kJ (.int 2)))) asB) (bJ (fJ 2 kD (yJ (dJ ixF (vJ 0) (kJ (.int 3))) (yJ (bJ (yJ (vJ 3) (yJ (vJ 4) wJ)) kM) wJ))) zIW))) ((AJ (kJ (.bl true)))) (JJ))
noncomputable def zBC:AY:=(zDN)
def kO:AF:=(iJ (bJ (dJ neF (dJ ixF (vJ 0) (kJ (.int 0))) (kJ (.str [97,112,97,114,116]))) asB) ((AJ (kJ (.bl false)))) (JJ))
def zBD:AF:=(FJ (bJ (bJ (yJ (bJ (yJ (vJ 1) (yJ (vJ 2) wJ)) kM) (yJ (bJ (yJ (vJ 2) (yJ (vJ 1) wJ)) kM) wJ)) bG) itL) (gTp 2 (zV (gNm 3) (zV (gNm 4) wY))) (zBC))
def zQN:AF:=(AJ (kJ (.bl false)))
def gQ:AF:=zU (kO) (zU (zBD) ((zQN)))
def kW(ds:List MV)(S:Sto):R Er:=yG (gQ (zR zLP ds) S)
def zCT:AZ:=uJ
def bI:AE:=(dJ ixF (dJ ixF (vJ 1) (kJ (.int 1))) (vJ 0))
def zCU:AZ:=uJ
def bK:AE:=(dJ ixF (dJ ixF (vJ 1) (kJ (.int 1))) (vJ 0))
def bL:AZ:=(rJ (bJ (dJ eqF (dJ ixF (vJ 0) (kJ (.int 0))) (dJ ixF (vJ 1) (kJ (.int 3)))) asB) (bJ (dJ eqF (pJ (bJ (dJ ixF (vJ 1) (kJ (.int 4))) itT) (gNm 0) (zCU) (bK) 1 [0]) (vJ 2)) asB))
def zCV:AE:=(vJ 0)
def xF:AF:=(iJ (sJ (bJ (dJ neF (dJ ixF (vJ 0) (kJ (.int 0))) (kJ (.str [116,105,101]))) asB) (bJ (dJ neF (dJ ixF (vJ 1) (kJ (.int 0))) (dJ ixF (vJ 0) (kJ (.int 1)))) asB)) ((AJ (kJ (.bl false)))) (JJ))
def dW:AF:=(CJ (pJ (bJ (dJ ixF (vJ 0) (kJ (.int 2))) itT) (gNm 0) (zCT) (bI) 1 [1]) 3)
def dX:AF:=(AJ (dJ eqF (pJ (bJ (vJ 2) itL) (gNm 0) (bL) (zCV) 1 [0,3]) (bJ wJ bG)))
def xY:AF:=zU (xF) (zU (dW) ((dX)))
def cP(ds:List MV)(S:Sto):R Er:=yG (xY (zR bY ds) S)
def zHM:AF:=(EJ (dJ ixF (dJ ixF (vJ 0) (kJ (.int 2))) (vJ 1)) (gTp 2 (zV (gNm 2) (zV (gNm 3) wY))))
def zHN:AF:=(AJ (bJ (yJ (vJ 2) (yJ (tJ zGC (vJ 3) mJ (bJ (dJ ixF (dJ ixF (dJ ixF (vJ 0) (kJ (.int 0))) (vJ 2)) (kJ (.int 1))) asI)) wJ)) kM))
def zMQ:AF:=zU (zHM) ((zHN))
def zCW(ds:List MV)(S:Sto):R Er:=yG (zMQ (zR zSX ds) S)
def zDO:AZ:=uJ
def cQ:AE:=(dJ ixF (dJ ixF (vJ 1) (kJ (.int 2))) (vJ 0))
noncomputable def cR:AY:=(iJ (bJ (fJ 2 kU (yJ (vJ 6) (yJ (dJ ixF (dJ ixF (vJ 0) (kJ (.int 2))) (vJ 4)) wJ))) zIW) ((BJ (eJ gE zMB (vJ 3) (yJ (bJ (yJ (kJ (.str [110,101,118,101,114])) (yJ (vJ 4) (yJ (vJ 5) wJ))) kM) wJ)))) (JJ))
noncomputable def cS:AY:=(iJ (bJ (fJ 3 cP (yJ (vJ 6) (yJ (dJ ixF (dJ ixF (vJ 0) (kJ (.int 2))) (vJ 4)) (yJ (vJ 2) wJ)))) zIW) ((BJ (eJ gE zMB (vJ 3) (yJ (bJ (yJ (kJ (.str [116,105,101])) (yJ (vJ 4) (yJ (vJ 5) wJ))) kM) wJ)))) (JJ))
noncomputable def kP:AY:=zU (cR) ((cS))
noncomputable def zDP:AY:=(iJ (rJ (bJ (dJ ltF (vJ 4) (vJ 7)) asB) (bJ (fJ 3 kW (yJ (vJ 6) (yJ (dJ ixF (dJ ixF (vJ 0) (kJ (.int 2))) (vJ 4)) (yJ (dJ ixF (dJ ixF (vJ 0) (kJ (.int 2))) (vJ 7)) wJ)))) zIW)) ((BJ (eJ gE zMB (vJ 3) (yJ (bJ (yJ (kJ (.str [97,112,97,114,116])) (yJ (vJ 4) (yJ (vJ 7) (yJ (vJ 5) wJ)))) kM) wJ)))) (JJ))
noncomputable def bB:AY:=(zDP)
noncomputable def cT:AY:=(iJ (rJ (bJ (dJ ltF (vJ 4) (vJ 7)) asB) (bJ (dJ eqF (fJ 2 zCW (yJ (vJ 0) (yJ (vJ 4) wJ))) (fJ 2 zCW (yJ (vJ 0) (yJ (vJ 7) wJ)))) asB)) ((BJ (eJ gE zMB (vJ 3) (yJ (bJ (yJ (kJ (.str [107,101,121])) (yJ (vJ 4) (yJ (vJ 7) wJ))) kM) wJ)))) (JJ))
noncomputable def cU:AY:=(FJ (bJ (yJ (dJ ixF (vJ 0) (kJ (.int 1))) wJ) itE) (gTp 2 (zV (gNm 5) (zV (gNm 6) wY))) (bB))
noncomputable def bC:AY:=zU (cT) ((cU))
noncomputable def cV:AY:=(FJ (bJ (yJ (dJ ixF (vJ 0) (kJ (.int 1))) wJ) itE) (gTp 2 (zV (gNm 5) (zV (gNm 6) wY))) (kP))
noncomputable def cW:AY:=(FJ (bJ (vJ 1) itT) (gNm 7) (bC))
noncomputable def bD:AY:=zU (cV) ((cW))
def zBE:AF:=(CJ (pJ (bJ (vJ 1) itT) (gNm 0) (zDO) (cQ) 1 [0]) 2)
def zBF:AF:=(CJ (bJ wJ bG) 3)
def zBG:AF:=(FJ (bJ (vJ 1) itT) (gNm 4) (bD))
def zBH:AF:=(AJ (bJ (yJ (vJ 3) wJ) zSW))
def zFP:AF:=zU (zBE) (zU (zBF) (zU (zBG) ((zBH))))
def nL(ds:List MV)(S:Sto):R Er:=yG (zFP (zR zEB ds) S)
def cX:AZ:=(bJ (dJ ltF (dJ zSB (fJ 2 xE (yJ (vJ 1) (yJ (dJ wZ (vJ 0) (kJ (.int 7))) wJ))) (kJ (.int 5))) (kJ (.int 3))) asB)
def zKB:AE:=(vJ 0)
def zHO:AF:=(AJ (bJ (yJ (pJ (bJ (yJ (bJ (yJ (vJ 0) wJ) nS) wJ) zCB) (gNm 0) (cX) (zKB) 1 [1]) wJ) dM))
def zMR:AF:=(zHO)
def dY(ds:List MV)(S:Sto):R Er:=yG (zMR (zR dO ds) S)
def zBI:AZ:=(bJ (bJ (yJ (vJ 0) (yJ (kJ (.typ "bool")) wJ)) zAH) zIW)
def zIQ:AE:=(vJ 0)
noncomputable def zIR:AY:=(iJ (sJ (qJ (bJ (bJ (yJ (vJ 5) (yJ (kJ (.typ "tuple")) wJ)) zAH) zIW)) (bJ (dJ neF (pJ (bJ (tJ zGC (vJ 5) (bJ (kJ (.int 1)) asI) mJ) itT) (gNm 0) (zBI) (zIQ) 1 []) (bJ wJ bG)) asB)) ((AJ (kJ (.bl false)))) (JJ))
noncomputable def zFQ:AY:=(zIR)
noncomputable def zBJ:AY:=(CJ (fJ 2 zGH (yJ (vJ 0) (yJ (vJ 1) wJ))) 4)
noncomputable def zBK:AY:=(iJ (sJ (qJ (bJ (bJ (yJ (vJ 4) (yJ (kJ (.typ "list")) wJ)) zAH) zIW)) (bJ (dJ neF (vJ 4) (vJ 2)) asB)) ((AJ (kJ (.bl false)))) (JJ))
noncomputable def zBL:AY:=(FJ (bJ (vJ 4) itL) (gNm 5) (zFQ))
noncomputable def zBM:AY:=(BJ (eJ gE zMB (vJ 4) (yJ (bJ (yJ (kJ (.str [107,101,121])) (yJ (kJ (.int 0)) (yJ (kJ (.int 1)) wJ))) kM) wJ)))
noncomputable def nM:AY:=zU (zBJ) (zU (zBK) (zU (zBL) ((zBM))))
def zFR:AF:=(CJ (fJ 2 nL (yJ (vJ 0) (yJ (vJ 1) wJ))) 2)
def zFS:AF:=(FJ (bJ (yJ (kJ (.int 2)) wJ) zCB) (gNm 3) (nM))
def zFT:AF:=(CJ (fJ 2 zXQ (yJ (vJ 0) (yJ (vJ 1) wJ))) 6)
def zFU:AF:=(AJ (aJ (bJ (yJ (vJ 6) (yJ (kJ (.typ "bool")) wJ)) zAH) (dJ eqF (vJ 6) (dJ eqF (vJ 2) (bJ wJ bG)))))
def zKC:AF:=zU (zFR) (zU (zFS) (zU (zFT) ((zFU))))
def zDQ(ds:List MV)(S:Sto):R Er:=yG (zKC (zR zJK ds) S)
noncomputable def zWC:AY:=(iJ (qJ (bJ (fJ 2 zDQ (yJ (vJ 2) (yJ (vJ 5) wJ))) zIW)) ((AJ (kJ (.bl false)))) (JJ))
noncomputable def zXR:AY:=(zWC)
def zXS:AF:=(CJ (kJ (.int 12)) 1)
def zQZ:AF:=(iJ (bJ (dJ eqF (dJ zSB (fJ 2 xE (yJ (fJ 2 zY (yJ (vJ 0) (yJ (kJ (.int 2)) wJ))) (yJ (kJ (.int 6)) wJ))) (kJ (.int 8))) (kJ (.int 3))) asB) ((CJ (kJ (.int 60)) 1)) (JJ))
def zXT:AF:=(CJ (fJ 3 bT (yJ (vJ 0) (yJ (vJ 1) (yJ (kJ (.int 3)) wJ)))) 2)
def zXU:AF:=(CJ (fJ 2 zY (yJ (vJ 0) (yJ (kJ (.int 1)) wJ))) 3)
def zXV:AF:=(CJ (bJ (yJ (bJ (yJ (bJ (yJ (dJ ixF (vJ 2) (kJ (.int 2))) wJ) nS) wJ) yFN) (yJ (bJ wJ kM) (yJ (fJ 2 dY (yJ (dJ ixF (vJ 2) (kJ (.int 2))) (yJ (vJ 3) wJ))) (yJ (fJ 2 dY (yJ (dJ ixF (vJ 2) (kJ (.int 2))) (yJ (dJ wZ (dJ zUL (vJ 3) (kJ (.int 7))) (kJ (.int 1))) wJ))) wJ)))) bG) 4)
def zXW:AF:=(BJ (eJ gE zMB (vJ 4) (yJ (tJ zGC (fJ 2 dY (yJ (dJ ixF (vJ 2) (kJ (.int 2))) (yJ (dJ wZ (dJ zUL (vJ 3) (kJ (.int 49))) (kJ (.int 2))) wJ))) mJ (bJ (kJ (.int 3)) asI)) wJ)))
def zRA:AF:=(iJ (bJ (dJ eqF (vJ 1) (kJ (.int 60))) asB) ((CJ (dJ wZ (tJ zGC (vJ 4) mJ (bJ (kJ (.int 1)) asI)) (tJ zGC (vJ 4) (bJ (kJ (.int 4)) asI) mJ)) 4)) (JJ))
def zXX:AF:=(FJ (bJ (vJ 4) itL) (gNm 5) (zXR))
def yOY:AF:=(AJ (kJ (.bl true)))
def yLC:AF:=zU (zXS) (zU (zQZ) (zU (zXT) (zU (zXU) (zU (zXV) (zU (zXW) (zU (zRA) (zU (zXX) ((yOY)))))))))
def yAR(ds:List MV)(S:Sto):R Er:=yG (yLC (zR yQE ds) S)
end
theorem bE{S:Sto}{l:Nat}{ds:List MV}{d:MV}(hS:S[l]? =some (.lst ds))(hz:ds.length<1000000):zMB (.val (.loc l)) [.val d] S=.ok (.val .non) (S.set l (.lst (ds++[d]))):=by
 show zSE (.val (.loc l)) S (λds=>if ds.length<sizeLine then some (ds++[d])else none)=_
 unfold zSE
 dsimp only
 rw [hS]
 dsimp only
 rw [iP (lt_of_lt_of_le hz (fits (le_refl _)))]
theorem kI{S:Sto}{l:Nat}{ds:List MV}(hS:S[l]? =some (.lst ds)):gE (.val (.loc l)) S=true:=by
 unfold gE
 rw [jC hS];rfl
theorem yAS{S:Sto}{l:Nat}{ds:List MV}{k:Int}{j:Nat}{d:MV}{ρ:Rho}(hS:S[l]? =some (.lst ds))(hj:ixN ds.length k=some j):zZX (.val (.loc l)) (.val (.int k)) d ρ S=.ok ρ (S.set l (.lst (ds.set j d))):=by
 unfold zZX
 dsimp only
 rw [hS]
 dsimp only
 rw [hj]
theorem get_set{S:Sto}{l:Nat}{o o':MO}(h:S[l]? =some o):(S.set l o')[l]? =some o':=getElem?_set_self (gS0.mp h).1
theorem bM{S:Sto}{l m:Nat}{o':MO}(h:l≠m):(S.set l o')[m]? =S[m]? :=getElem?_set_ne h
theorem zPG{S:Sto}{l:Nat}{ds:List MV}(hS:S[l]? =some (.lst ds)):dM [.val (.loc l)] S=.ok (.val (.tup ds)) S:=by
 show(match gC S (.val (.loc l))with |some ds=>R.ok (Er.val (.tup ds)) S|none=>.no)=_
 rw [jC hS]
theorem zNW(ds:List MV)(S:Sto):nS [.val (.tup ds)] S=.ok (.val (.int ds.length)) S:=rfl
theorem zXY(gf:MV->Rho->Sto->R Rho)(ρ:Rho)(d:MV)(S:Sto):asgF gf ρ (.val d) S=(gf d ρ S).bind λρ' S2=>.ok (.next ρ') S2:=rfl
theorem zTE{n:Nat}{F:List MV->Sto->R Er}{rs:List Er}{S:Sto}{d:MV}{l:Nat}{x:Int}(hn:rs.length=n)(hF:F (zW rs S).1 (zW rs S).2=.ok (.val d) (S.set l (.lst [.int x])))(h:lo S.length d)(hd: ∀l,d≠.loc l):zT n F rs S=.ok (.val d) (S.set l (.lst [.int x])):=by
 unfold zT
 rw [iP hn,hF,yU,bok]
 have hc:zRX S (S.set l (.lst [.int x])):=by
  refine⟨by rw [length_set];exact le_refl _,λm hm=>?_⟩
  by_cases e:l=m
  ·subst e
   exact .inr ⟨_,getElem?_set_self hm,yP λe he=>by rw [mS.mp he];exact xW _ _⟩
  ·exact .inl (getElem?_set_ne e)
 unfold zCD
 rw [iP hc]
 have e:(S.set l (.lst [.int x])).take S.length=S.set l (.lst [.int x]):=by rw [take_of_length_le (by rw [length_set];exact le_refl _)]
 cases d with
 |loc m=>exact absurd rfl (hd m)
 |_=>dsimp only;rw [iP h,e]
theorem pp30(S:Sto):powF (.val (.int 10)) (.val (.int 30)) S=.ok (.val (.int (10 ^ 30))) S:=rfl
theorem yOZ{b:Int}(h:yHG 0 b)(a:Int)(S:Sto):zUL (.val (.int a)) (.val (.int b)) S=.ok (.val (.int (a / b))) S:=iP (show yHG a b from h)
theorem zXZ{a:Int}(h:0<=a/\a<4294967296)(b:Int)(S:Sto):zIZ (.val (.int b)) (.val (.int a)) S=.ok (.val (.int (b * a))) S:=
 yEW ⟨Int.lt_of_lt_of_le (by decide) h.1,Int.lt_trans h.2 (by decide)⟩ b S
theorem yAT{S:Sto}{l:Nat}{x n:Int}(hS:S[l]? =some (.lst [.int x]))(h0:0<n)(hd: ∀(a:Int)(S:Sto),zUL (.val (.int a)) (.val (.int n)) S=.ok (.val (.int (a / n))) S):zT 2 zL [.val (.loc l),.val (.int n)] S=.ok (.val (.int (x % n))) (S.set l (.lst [.int (x / n)])):=by
 have hs:zR zDH [.loc l,.int n]=[some (.loc l),some (.int n),none]:=rfl
 have ha:atI [MV.int x] 0=some (.int x):=rfl
 have e1:gH [some (.loc l),some (.int n),none] S=.ok (.next [some (.loc l),some (.int n),some (.int (x % n))]) S:=by
  unfold gH
  simp? [zJB hS ha,mod_lit h0]
 have e2:gI [some (.loc l),some (.int n),some (.int (x % n))] S=.ok (.next [some (.loc l),some (.int n),some (.int (x % n))]) (S.set l (.lst [.int (x / n)])):=by
  unfold gI
  simp? [zJB hS ha,hd,zXY,yAS hS (show ixN [MV.int x].length 0=some 0 from rfl)]
 refine zTE rfl ?_ (xW _ _) (λl=>by simp)
 show zL [.loc l,.int n] S=_
 unfold zL zJW
 rw [hs,zD e1,zD e2]
 rfl
theorem zDR{S:Sto}{l:Nat}{x n:Int}(hS:S[l]? =some (.lst [.int x]))(h0:0<n)(h1:n<1073741824):zT 2 zL [.val (.loc l),.val (.int n)] S=.ok (.val (.int (x % n))) (S.set l (.lst [.int (x / n)])):=yAT hS h0 (zKY h0 h1)
theorem zTF(c k:Int)(hk:0<=k/\k<100000)(S:Sto): ∃n,0<=n/\zT 2 xE [.val (.int c),.val (.int k)] S=.ok (.val (.int n)) S:=by
 have hs:zR zMF [.int c,.int k]=[some (.int c),some (.int k),none]:=rfl
 have hk':0<=k/\k<4294967296:=⟨hk.1,by omega⟩
 have e1:zHF [some (.int c),some (.int k),none] S=.ok (.next [some (.int c),some (.int k),some (.int ((c % 2147483647+7919 * k * k+101 * k+11) % 2147483647))]) S:=by
  unfold zHF
  simp? [mod_lit (show(0:Int)<2147483647 by decide),zXZ hk']
 have h0:0<=(c % 2147483647+7919 * k * k+101 * k+11) % 2147483647:=eN0 _ (by decide)
 have h1:(c % 2147483647+7919 * k * k+101 * k+11) % 2147483647<2147483647:=eL _ (by decide)
 generalize (c % 2147483647+7919 * k * k+101 * k+11) % 2147483647=m at h0 h1 e1
 have e2:zHG [some (.int c),some (.int k),some (.int m)] S=.ok (.next [some (.int c),some (.int k),some (.int ((m * m+48271 * m+13) % 2147483647))]) S:=by
  unfold zHG
  simp? [mod_lit (show(0:Int)<2147483647 by decide),zXZ (a:=m) ⟨h0,by omega⟩]
 have h2:0<=(m * m+48271 * m+13) % 2147483647:=eN0 _ (by decide)
 have h3:(m * m+48271 * m+13) % 2147483647<2147483647:=eL _ (by decide)
 generalize (m * m+48271 * m+13) % 2147483647=p at h2 h3 e2
 have e3:zHH [some (.int c),some (.int k),some (.int p)] S=.ok (.ret (.val (.int ((p * p+69621 * p+7) % 2147483629)))) S:=by
  unfold zHH
  simp? [mod_lit (show(0:Int)<2147483629 by decide),zXZ (a:=p) ⟨h2,by omega⟩]
 refine⟨(p * p+69621 * p+7) % 2147483629,eN0 _ (by decide),jO rfl ?_ (xW _ _) (λl=>by simp)⟩
 show xE [.int c,.int k] S=_
 unfold xE zTC
 rw [hs,zD e1,zD e2,e3]
 rfl
theorem zNX(c k:Int)(hk:0<=k/\k<100)(S:Sto): ∃t,zT 2 yI [.val (.int c),.val (.int k)] S=.ok (.new [.int t]) S:=by
 have hs:zR zJG [.int c,.int k]=[some (.int c),some (.int k),none,none]:=rfl
 have e1:zEG [some (.int c),some (.int k),none,none] S=if decide (c % 2=0)=true then .ok (.ret (.new [.int (c / 2)])) S else .ok (.next [some (.int c),some (.int k),none,none]) S:=by
  unfold zEG
  simp? [mod_lit (show(0:Int)<2 by decide),zKY (b:=2) (by decide) (by decide)]
 have fin: ∀t,yI [.int c,.int k] S=.ok (.new [.int t]) S-> ∃t,zT 2 yI [.val (.int c),.val (.int k)] S=.ok (.new [.int t]) S:=λt h=>⟨t,zCE (T:=[]) rfl (by rw [aN];exact h) (yP λe he=>by rw [mS.mp he];exact xW _ _)⟩
 cases hb:decide (c % 2=0)with
 |true=>
  rw [hb,iP rfl]at e1
  refine fin (c / 2) ?_
  unfold yI zJX
  rw [hs,yW e1]
  rfl
 |false=>
  rw [hb,iN xF0]at e1
  have e2:zLQ [some (.int c),some (.int k),none,none] S=.ok (.next [some (.int c),some (.int k),some (.int 0),none]) S:=rfl
  obtain⟨ρ',S',e,t,j',hρ,hS'⟩:=zMC (L:=(List.range 6).map λk=>MV.int (k:Nat)) (gf:=gNm 3) (body:=zEF) (gs:=[]) (S:=S) (ρ:=[some (.int c),some (.int k),some (.int 0),none])
   (λi ρ S'=> ∃(t:Int)(j':Option MV),ρ=[some (.int c),some (.int k),some (.int t),j']/\S'=S) (λi d hi ρ S1 ⟨t,j',hρ,hS1⟩=>by
    subst hρ hS1
    obtain⟨j,hj,rfl⟩:=mM.mp (mem_of_getElem? hi)
    rw [mem_range]at hj
    obtain⟨n,_,hn⟩:=zTF (c / 2) (100+6 * k+(j:Nat)) ⟨by omega,by omega⟩ S1
    refine⟨[some (.int c),some (.int k),some (.int (t * 2147483629+n)),some (.int (j:Nat))],S1,?_,wV _,_,_,rfl,rfl⟩
    rw [show gNm 3 (.int (j:Nat)) [some (.int c),some (.int k),some (.int t),j'] S1=.ok [some (.int c),some (.int k),some (.int t),some (.int (j:Nat))] S1 from rfl,bok]
    unfold zEF zIJ
    simp? [yEW (show -(2 ^ 64)<(2147483629:Int)/\(2147483629:Int)<2 ^ 64 by decide),zKY (b:=2) (by decide) (by decide),zXZ (a:=k) ⟨hk.1,by omega⟩,hn]) ⟨_,_,rfl,rfl⟩
  subst hρ hS'
  have e3:zEH [some (.int c),some (.int k),some (.int 0),none] S'=.ok (.next [some (.int c),some (.int k),some (.int t),j']) S':=by
   unfold zEH
   simp? [zAI (S:=S') (j:=6) (by decide)]
   exact e
  have e4:zEI [some (.int c),some (.int k),some (.int t),j'] S'=.ok (.ret (.new [.int t])) S':=by
   unfold zEI
   simp? [bok]
  refine fin t ?_
  unfold yI zJX
  rw [hs,zD e1,zD e2,zD e3,e4]
  rfl
mutual
def pd:MV->Bool
 |.int _=>true
 |.str _=>true
 |.tup ds=>pdL ds
 |_=>false
def pdL:List MV->Bool
 |[]=>true
 |d::ds=>pd d&&pdL ds
end

mutual
def dpt:MV->Nat
 |.tup ds=>zPH ds+1
 |_=>0
def zPH:List MV->Nat
 |[]=>0
 |d::ds=>max (dpt d) (zPH ds)
end

theorem zPI(ds:List MV):pd (.tup ds)=pdL ds:=by rw [pd]
theorem zYA:pdL []=true:=by rw [pdL]
theorem zCX(d:MV)(ds:List MV):pdL (d::ds)=(pd d&&pdL ds):=by rw [pdL]
theorem zLD(ds:List MV):dpt (.tup ds)=zPH ds+1:=by rw [dpt]
theorem dZ(d:MV)(ds:List MV):zPH (d::ds)=max (dpt d) (zPH ds):=by rw [zPH]
theorem zTG:zPH []=0:=by rw [zPH]
theorem zYB(i:Int):pd (.int i)=true:=by rw [pd]
theorem yLD(i:List Nat):pd (.str i)=true:=by rw [pd]
theorem zRB(i:Int):dpt (.int i)=0:=by simp [dpt]
theorem yFT(i:List Nat):dpt (.str i)=0:=by simp [dpt]
theorem zRC: ∀{ds:List MV},(∀d∈ds,pd d=true)->pdL ds=true
 |[],_=>zYA
 |d::ds,h=>by rw [zCX,h d mF0,zRC λe he=>h e (mO _ he)];rfl
theorem zYC: ∀{ds:List MV},pdL ds=true-> ∀d∈ds,pd d=true
 |[],_,d,h=>by simp at h
 |e::ds,hp,d,h=>by
  rw [zCX,aE]at hp
  rcases mC.mp h with rfl|h
  ·exact hp.1
  ·exact zYC hp.2 d h
theorem zRD: ∀{ds:List MV}{n:Nat},(∀d∈ds,dpt d<=n)->zPH ds<=n
 |[],n,_=>by rw [zTG];exact zero_le _
 |d::ds,n,h=>by
  rw [dZ]
  have h1:=h d mF0
  have h2:=zRD λe he=>h e (mO _ he)
  omega
theorem yAU: ∀{ds:List MV}, ∀d∈ds,dpt d<=zPH ds
 |[],d,h=>by simp at h
 |e::ds,d,h=>by
  rw [dZ]
  rcases mC.mp h with rfl|h
  ·exact Nat.le_max_left _ _
  ·exact le_trans (yAU d h) (Nat.le_max_right _ _)
theorem yAV{d:MV}(h:pd d=true):(∃i,d=.int i)\/(∃x,d=.str x)\/ ∃ds,d=.tup ds/\pdL ds=true:=by
 cases d with
 |int i=>exact .inl ⟨i,rfl⟩
 |str x=>exact .inr (.inl ⟨x,rfl⟩)
 |tup ds=>exact .inr (.inr ⟨ds,rfl,by rw [<-zPI];exact h⟩)
 |_=>rw [pd]at h<;>first |cases h|(intros;simp)
theorem dec_is{p:Prop}[Decidable p]{q:Prop}[Decidable q](h:p↔q):decide p=decide q:=by
 by_cases hq:q
 ·rw [dT0 hq,dT0 (h.mpr hq)]
 ·rw [dF0 hq,dF0 λz=>hq (h.mp z)]
theorem zNY{e:MV->MV->Option Bool}: ∀{ds es:List MV},(∀d∈ds, ∀f∈es,e d f=some (decide (d=f)))-> ∃bs,prs e ds es=some bs/\(bs.all id&&ds.length==es.length)=decide (ds=es)
 |[],[],_=>⟨[],rfl,by simp⟩
 |[],_::_,_=>⟨[],rfl,by simp⟩
 |_::_,[],_=>⟨[],rfl,by simp⟩
 |d::ds,f::es,h=>by
  obtain⟨bs,h1,h2⟩:=zNY (e:=e) (ds:=ds) (es:=es) λa ha b hb=>h a (mO _ ha) b (mO _ hb)
  refine⟨decide (d=f)::bs,?_,?_⟩
  ·unfold prs
   rw [h d mF0 f mF0,h1]
   rfl
  ·by_cases hd:d=f
   ·subst hd
    rw [all_cons,dT0 rfl]
    simp only [id,Bool.true_and,lC]
    rw [show(ds.length+1==es.length+1)=(ds.length==es.length) by simp,h2]
    exact dec_is (by simp)
   ·rw [all_cons,dF0 hd]
    rw [dF0 (show¬(d::ds=f::es)from λz=>hd (List.cons.inj z).1)]
    rfl
theorem zGI{S:Sto}: ∀(n:Nat){d e:MV},pd d=true->pd e=true->dpt d<n->eqv S n d e=some (decide (d=e))
 |0,d,e,_,_,h=>by omega
 |n+1,d,e,hd,he,h=>by
  rcases yAV hd with⟨i,rfl⟩|⟨x,rfl⟩|⟨ds,rfl,pds⟩<;>rcases yAV he with⟨j,rfl⟩|⟨y,rfl⟩|⟨es,rfl,pes⟩
  ·rw [zQV];exact congrArg some (dec_is (by simp))
  ·rw [ySF,dF0 (by simp)]
  ·rw [dF0 (by simp)];rfl
  ·rw [ySG,dF0 (by simp)]
  ·rw [zBR];exact congrArg some (dec_is (by simp))
  ·rw [dF0 (by simp)];rfl
  ·rw [dF0 (by simp)];rfl
  ·rw [dF0 (by simp)];rfl
  ·rw [zLD]at h
   obtain⟨bs,h1,h2⟩:=zNY (e:=eqv S n) (ds:=ds) (es:=es) λa ha b hb=>zGI n (zYC pds a ha) (zYC pes b hb) (by have:=yAU a ha;omega)
   show((prs (eqv S n) ds es).map λbs=>bs.all id&&ds.length==es.length)=_
   rw [h1]
   show some (bs.all id&&ds.length==es.length)=_
   rw [h2]
   exact congrArg some (dec_is (by simp))
theorem yFU{S:Sto}{d e:MV}(hd:pd d=true)(he:pd e=true)(h:dpt d<40):eqF (.val d) (.val e) S=.ok (.val (.bl (decide (d=e)))) S:=zXG (zGI (zX+1) hd he (by unfold zX;omega))
theorem zTH{S:Sto}{d:MV}(hd:pd d=true): ∀{ys:List MV},(∀y∈ys,pd y=true/\dpt y<40)->zZV S zX d ys=some (ys.map λy=>decide (y=d))
 |[],_=>rfl
 |y::ys,h=>by
  have h1:=h y mF0
  unfold zZV
  rw [zGI zX h1.1 hd (by unfold zX;exact h1.2),zTH hd λz hz=>h z (mO _ hz)]
  rfl
theorem yDK{S:Sto}{l:Nat}{d:MV}{ys:List MV}(hS:S[l]? =some (.lst ys))(hd:pd d=true)(hs: ∀x,d≠.str x)(h: ∀y∈ys,pd y=true/\dpt y<40):inF true (.val d) (.val (.loc l)) S=.ok (.val (.bl (!decide (d∈ys)))) S:=by
 have e1:itemsOf S (.val (.loc l))=some ys:=by unfold itemsOf;exact jC hS
 have e2:zOW true (.val d) (.val (.loc l)) S=.ok (.val (.bl (!decide (d∈ys)))) S:=by
  unfold zOW
  dsimp only
  rw [e1]
  dsimp only
  rw [zTH hd h]
  dsimp only
  rw [iP rfl]
  congr 4
  rw [List.any_map]
  by_cases hm:d∈ys
  ·rw [dT0 hm,List.any_eq_true]
   exact⟨d,hm,by simp⟩
  ·rw [dF0 hm]
   rw [any_eq_false]
   intro y hy
   simp only [Function.comp,id,decide_eq_true_eq]
   rintro rfl
   exact hm hy
 cases d with
 |str x=>exact absurd rfl (hs x)
 |_=>exact e2
theorem yHW{n:Nat}{F:List MV->Sto->R Er}{rs:List Er}{S T:Sto}{d:MV}{l:Nat}{x:Int}(hn:rs.length=n)(hF:F (zW rs S).1 (zW rs S).2=.ok (.val d) (S.set l (.lst [.int x])++T))(h:lo S.length d)(hd: ∀l,d≠.loc l):zT n F rs S=.ok (.val d) (S.set l (.lst [.int x])):=by
 unfold zT
 rw [iP hn,hF,yU,bok]
 have hL:(S.set l (.lst [.int x])).length=S.length:=length_set
 have hc:zRX S (S.set l (.lst [.int x])++T):=by
  refine⟨by rw [lA,hL];omega,λm hm=>?_⟩
  rw [getElem?_append_left (by rw [hL];exact hm)]
  by_cases e:l=m
  ·subst e
   exact .inr ⟨_,getElem?_set_self hm,yP λe he=>by rw [mS.mp he];exact xW _ _⟩
  ·exact .inl (getElem?_set_ne e)
 unfold zCD
 rw [iP hc]
 have e:(S.set l (.lst [.int x])++T).take S.length=S.set l (.lst [.int x]):=by rw [<-hL];simp
 cases d with
 |loc m=>exact absurd rfl (hd m)
 |_=>dsimp only;rw [iP h,e]
theorem zRE{gf:MV->Rho->Sto->R Rho}{cf:AZ}{ef:AX}{ρb:Rho}{gs:List (Nat×List MV)}{P:MV->Prop}{I:Sto->Prop}:
  ∀{ds:List MV}{S:Sto},(∀d∈ds, ∀S,I S-> ∃ρ1 y S',gf d ρb S=.ok ρ1 S/\cf ρ1 S=.ok true S/\ef ρ1 S=.ok (.val y) S'/\P y/\I S'/\stay gs S')->I S-> ∃out S',xC gf cf ef ρb gs ds S=.ok out S'/\I S'/\out.length=ds.length/\ ∀o∈out,P o
 |[],S,_,h=>⟨[],S,rfl,h,rfl,λo h=>by simp at h⟩
 |d::ds,S,st,h=>by
  obtain⟨ρ1,y,S1,h1,h2,h3,h4,h5,h6⟩:=st d mF0 S h
  obtain⟨out,S2,e,i2,hl,hp⟩:=zRE (ds:=ds) (S:=S1) (λd hd=>st d (mO _ hd)) h5
  refine⟨y::out,S2,?_,i2,by rw [lC,lC,hl],λo ho=>(mC.mp ho).elim (λz=>z▸h4) (hp o)⟩
  unfold xC
  rw [h1,yU,bok,h2,yU,bok,iP rfl,h3,yU,bok]
  unfold zAE
  rw [bok,iP h6,e]
  rfl
abbrev SN(S:Sto)(x:Int):Sto:=S++[MO.lst [.int x]]
theorem yFV(S:Sto)(x:Int):(SN S x)[S.length]? =some (.lst [.int x]):=by simp
theorem zYD(S:Sto)(x y:Int):List.set (SN S x) S.length (MO.lst [.int y])=SN S y:=by simp
theorem zHP(S:Sto)(x:Int){n:Int}(h0:0<n)(h1:n<1073741824):zT 2 zL [.val (.loc S.length),.val (.int n)] (SN S x)=.ok (.val (.int (x % n))) (SN S (x / n)):=by
 have:=zDR (n:=n) (yFV S x) h0 h1
 rw [zYD]at this
 exact this
theorem zGJ(x:Int){n:Nat}(h:0<n): ∃t:Nat,x % (n:Int)=t/\t<n:=by
 have h0:0<=x % (n:Int):=eN0 _ (by omega)
 have h1:x % (n:Int)<n:=eL _ (by omega)
 obtain⟨t,ht⟩:=Int.eq_ofNat_of_zero_le h0
 exact⟨t,ht,by omega⟩
theorem zNZ{S:Sto}{gf:MV->Rho->Sto->R Rho}{cf:AZ}{ef:AX}{ρb:Rho}{gs:List (Nat×List MV)}{p:MV->Bool}(hs:stay gs S):
  ∀{ds:List MV},(∀d∈ds, ∃ρ1,gf d ρb S=.ok ρ1 S/\cf ρ1 S=.ok (p d) S/\ef ρ1 S=.ok (.val d) S)->xC gf cf ef ρb gs ds S=.ok (ds.filter p) S
 |[],_=>rfl
 |d::ds,st=>by
  obtain⟨ρ1,h1,h2,h3⟩:=st d mF0
  have e:=zNZ hs (p:=p) (ds:=ds) λd hd=>st d (mO _ hd)
  unfold xC
  cases hp:p d with
  |true=>
   rw [h1,yU,bok,h2,yU,bok,hp,iP rfl,h3,yU,bok]
   unfold zAE
   rw [bok,iP hs,e,filter_cons_of_pos hp]
   rfl
  |false=>
   rw [h1,yU,bok,h2,yU,bok,hp,iN xF0,iP hs,e,filter_cons_of_neg (by rw [hp];exact xF0)]
theorem yPA(neg:Bool)(p:Er)(l:Nat)(S:Sto):inF neg p (.val (.loc l)) S=zOW neg p (.val (.loc l)) S:=by
 unfold inF
 split
 ·rename_i h;cases h
 ·rfl
theorem yPB{S:Sto}{l:Nat}{d:MV}{ys:List MV}(neg:Bool)(hS:S[l]? =some (.lst ys))(hd:pd d=true)(h: ∀y∈ys,pd y=true/\dpt y<40):inF neg (.val d) (.val (.loc l)) S=.ok (.val (.bl (if neg=true then !decide (d∈ys)else decide (d∈ys)))) S:=by
 have e1:itemsOf S (.val (.loc l))=some ys:=by unfold itemsOf;exact jC hS
 rw [yPA]
 unfold zOW
 dsimp only
 rw [e1]
 dsimp only
 rw [zTH hd h]
 dsimp only
 have ha:(ys.map λy=>decide (y=d)).any id=decide (d∈ys):=by
  rw [List.any_map]
  by_cases hm:d∈ys
  ·rw [dT0 hm,List.any_eq_true]
   exact⟨d,hm,by simp⟩
  ·rw [dF0 hm]
   rw [any_eq_false]
   intro y hy
   simp only [Function.comp,id,decide_eq_true_eq]
   rintro rfl
   exact hm hy
 rw [ha]
theorem zTI{S:Sto}{l:Nat}{ds:List MV}(h:S[l]? =some (.lst ds)):eqF (.val (.loc l)) (.new []) S=.ok (.val (.bl ds.isEmpty)) S:=by
 have hv:vwE S (.val (.loc l))=some (.ls ds):=by
  show(gC S (.val (.loc l))).map Vw.ls=_
  rw [jC h];rfl
 unfold eqF zOU
 rw [hv]
 cases ds<;>rfl
theorem zLE{α:Type}(ds:List α)(j:Nat):wD ds none (some (j:Int))=ds.take j:=by
 unfold wD
 rw [HT.sIx_nat,show HT.sIx ds.length 0 none=0 from rfl,List.drop_zero,Nat.sub_zero]
 by_cases h:j<=ds.length
 ·rw [min_eq_left h]
 ·rw [Nat.min_eq_right (by omega),take_of_length_le (le_refl _),take_of_length_le (by omega)]
theorem zPJ{α:Type}(ds:List α)(j:Nat):wD ds (some (j:Int)) none=ds.drop j:=by
 unfold wD
 rw [HT.sIx_nat,show HT.sIx ds.length ds.length none=ds.length from rfl]
 by_cases h:j<=ds.length
 ·rw [min_eq_left h,take_of_length_le (by rw [length_drop];exact le_refl _)]
 ·rw [Nat.min_eq_right (by omega),drop_of_length_le (le_refl _),drop_of_length_le (show ds.length<=j by omega),List.take_nil]
abbrev Wl(S:Sto)(l:Nat)(x:Int):Sto:=S.set l (.lst [.int x])
theorem yDL{S:Sto}{l:Nat}(h:l<S.length)(x:Int):(Wl S l x)[l]? =some (.lst [.int x]):=getElem?_set_self h
theorem yLE{S:Sto}{l m:Nat}(h:l≠m)(x:Int):(Wl S l x)[m]? =S[m]? :=getElem?_set_ne h
theorem yLF(S:Sto)(l:Nat)(x y:Int):(Wl S l x).set l (.lst [.int y])=Wl S l y:=List.set_set ..
theorem zHQ(S:Sto)(l:Nat)(x:Int):(Wl S l x).length=S.length:=length_set ..
theorem yFW(S:Sto)(x:Int):S++[.lst [.int x]]=Wl (S++[.lst []]) S.length x:=by simp [Wl]
theorem zPK{S:Sto}{l:Nat}(h:l<S.length)(x:Int)(T:Sto):Wl S l x++T=Wl (S++T) l x:=by
 unfold Wl
 rw [set_append_left _ _ h]
theorem yLG{S:Sto}{l:Nat}(h:l<S.length)(x:Int)(o o':MO):(Wl (S++[o]) l x).set S.length o'=Wl (S++[o']) l x:=by
 unfold Wl
 rw [set_append_left _ _ h,set_append_left _ _ h]
 rw [List.set_append_right _ _ (by rw [length_set];exact le_refl _),length_set,sub_self]
 rfl
theorem zRF{S:Sto}{l:Nat}(h:l<S.length)(x:Int)(o:MO):(Wl (S++[o]) l x)[S.length]? =some o:=by
 rw [yLE (ne_of_lt h)];simp
theorem yTF{S:Sto}{l:Nat}(x:Int)(T:Sto):zRX S (Wl S l x++T):=by
 refine⟨by rw [lA,zHQ];exact Nat.le_add_right _ _,λm hm=>?_⟩
 rw [getElem?_append_left (by rw [zHQ];exact hm)]
 by_cases e:l=m
 ·subst e
  exact .inr ⟨_,yDL hm x,yP λe he=>by rw [mS.mp he];exact xW _ _⟩
 ·exact .inl (yLE e x)
theorem yPC{S:Sto}{l:Nat}(y x:Int)(T:Sto):zRX (Wl S l y) (Wl S l x++T):=by
 have:=yTF (S:=Wl S l y) (l:=l) x T
 rw [show Wl (Wl S l y) l x=Wl S l x from yLF S l y x]at this
 exact this
theorem yPD(S:Sto)(l:Nat)(x:Int)(T:Sto){n:Nat}(h:n=S.length):(Wl S l x++T).take n=Wl S l x:=by
 rw [h,List.take_append_of_le_length (by rw [zHQ];exact le_refl _),take_of_length_le (by rw [zHQ];exact le_refl _)]
theorem yPE{n:Nat}{F:List MV->Sto->R Er}{rs:List Er}{S T:Sto}{l:Nat}{x y:Int}{d:MV}(hn:rs.length=n)(hF:F (zW rs (Wl S l x)).1 (zW rs (Wl S l x)).2=.ok (.val d) (Wl S l y++T))(h:lo S.length d)(hd: ∀l,d≠.loc l):zT n F rs (Wl S l x)=.ok (.val d) (Wl S l y):=by
 unfold zT
 rw [iP hn,hF,yU,bok]
 unfold zCD
 rw [iP (yPC x y T)]
 have e:=yPD S l y T (n:=(Wl S l x).length) (zHQ S l x)
 have h':lo (Wl S l x).length d:=by rw [zHQ];exact h
 cases d with
 |loc m=>exact absurd rfl (hd m)
 |_=>dsimp only;rw [iP h',e]
theorem zTJ{n:Nat}{F:List MV->Sto->R Er}{rs:List Er}{S T:Sto}{r:Er}{ds:List MV}{as:List MV}{S2:Sto}(hn:rs.length=n)(hE:zW rs S=(as,S2))(hF:F as S2=.ok r (S++T))(hr:r=.new ds\/ ∃l,r=.val (.loc l)/\S.length<=l/\(S++T)[l]? =some (.lst ds))(h:loL S.length ds):zT n F rs S=.ok (.new ds) S:=by
 have hF':F (zW rs S).1 (zW rs S).2=.ok r (S++T):=by rw [hE];exact hF
 rcases hr with rfl|⟨l,rfl,h1,h2⟩
 ·exact zCE hn hF' h
 ·exact yKK hn hF' h1 h2 h
theorem zKD{S:Sto}{l:Nat}{x n:Int}(hl:l<S.length)(h0:0<n)(h1:n<1073741824):zT 2 zL [.val (.loc l),.val (.int n)] (Wl S l x)=.ok (.val (.int (x % n))) (Wl S l (x / n)):=by
 have:=zDR (n:=n) (yDL hl x) h0 h1
 rw [yLF]at this
 exact this
def abc:List Nat:=[97,98,99,100,101,102,103,104,105,106,107,108,109,110,111,112,113,114,115,116,117,118,119,120,121,122]
theorem zBP{d:MV}(h:Vl d):pd d=true/\dpt d=0:=by
 rcases h.cases with⟨i,rfl,_⟩|⟨x,rfl,_⟩
 ·exact⟨zYB i,zRB i⟩
 ·exact⟨yLD x,yFT x⟩
theorem len_str{x:List Nat}(h:x.length<=1000)(S:Sto):nS [.val (.str x)] S=.ok (.val (.int x.length)) S:=iP (fits (by omega))
theorem adds{x y:List Nat}(h:x.length+y.length<=1000)(S:Sto):wZ (.val (.str x)) (.val (.str y)) S=.ok (.val (.str (x++y))) S:=add_str (fits (by omega))
theorem yTG(x:List Nat)(S:Sto):zSD (.val (.str x)) S=true:=rfl
theorem zTK(x:List Nat)(r:List (List Nat)):zDG [] (x::r)=x++zDG [] r:=by
 cases r with
 |nil=>show x=x++[];rw [aN]
 |cons y r=>show x++[]++zDG [] (y::r)=_;rw [aN]
theorem yFX: ∀{ds:List MV},(∀d∈ds, ∃c,d=MV.str [c]/\97<=c/\c<=122)-> ∃zs,zGT ds=some zs/\zs.length=ds.length/\(∀z∈zs,z.length=1)/\(zDG [] zs).length=ds.length/\ ∀c∈zDG [] zs,97<=c/\c<=122
 |[],_=>⟨[],rfl,rfl,by simp,rfl,by intro c hc;simp [zDG]at hc⟩
 |d::ds,h=>by
  obtain⟨c,rfl,hc⟩:=h d mF0
  obtain⟨zs,h1,h2,h3,h4,h5⟩:=yFX (ds:=ds) λe he=>h e (mO _ he)
  refine⟨[c]::zs,?_,by rw [lC,lC,h2],λz hz=>?_,by rw [zTK,lA,h4];simp [Nat.add_comm],λe he=>?_⟩
  ·unfold zGT;rw [h1];rfl
  ·rcases mC.mp hz with rfl|hz
   ·rfl
   ·exact h3 z hz
  ·rw [zTK]at he
   rcases mem_append.mp he with he|he
   ·rw [mS.mp he];exact hc
   ·exact h5 e he
theorem yPF{ds:List MV}(h: ∀d∈ds, ∃c,d=MV.str [c]/\97<=c/\c<=122)(hl:ds.length<=8)(S:Sto): ∃w:List Nat,w.length=ds.length/\(∀c∈w,97<=c/\c<=122)/\zVZ (.val (.str [])) [.new ds] S=.ok (.val (.str w)) S:=by
 obtain⟨zs,h1,h2,h3,h4,h5⟩:=yFX h
 refine⟨zDG [] zs,h4,h5,?_⟩
 unfold zVZ
 dsimp only
 rw [show gC S (.new ds)=some ds from rfl]
 dsimp only
 rw [h1]
 dsimp only
 rw [iP ⟨by show 0<=100;decide,by omega,λz hz=>by rw [h3 z hz];decide⟩]
def isSt:MV->Bool
 |.str _=>true
 |_=>false
abbrev W7(l lp:Nat)(x2 x3 x4 x5 x6:Option MV):Rho:=[some (.loc l),some (.loc lp),x2,x3,x4,x5,x6]
theorem yPG{S:Sto}{l lp:Nat}{x:Int}{vs:List MV}(hl:l<S.length)(hne:l≠lp)(hV: ∀d∈vs,Vl d)(hvl:vs.length<1000)(hP:S[lp]? =some (.lst vs)):
  ∃y x',Nm y/\zT 2 jG [.val (.loc l),.val (.loc lp)] (Wl S l x)=.ok (.val (.str y)) (Wl S l x'):=by
 have hs:zR nV [.loc l,.loc lp]=W7 l lp none none none none none:=rfl
 have hP':(Wl S l x)[lp]? =some (.lst vs):=by rw [yLE hne];exact hP
 have e1:zLR (W7 l lp none none none none none) (Wl S l x)=.ok (.next (W7 l lp (some (.str abc)) none none none none)) (Wl S l x):=rfl
 have hc:xC (gNm 0) zAM zIK [none] [(lp,vs)] vs (Wl S l x)=.ok (vs.filter isSt) (Wl S l x):=zNZ (bW hP') λd hd=>⟨[some d],rfl,by
  unfold zAM
  rcases (hV d hd).cases with⟨i,rfl,_⟩|⟨y,rfl,_⟩<;>(simp? [bok];rfl),rfl⟩
 have hN: ∀d∈vs.filter isSt, ∃q,d=.str q/\Nm q:=λd hd=>by
  have hm:=mem_filter.mp hd
  rcases (hV d hm.1).cases with⟨i,rfl,_⟩|⟨y,rfl,hy⟩
  ·have:=hm.2;cases this
  ·exact⟨y,rfl,hy⟩
 generalize vs.filter isSt=ns at hN hc
 have hl2:l<(S++[MO.lst ns]).length:=by rw [lA];omega
 have e2:zEJ (W7 l lp (some (.str abc)) none none none none) (Wl S l x)=.ok (.next (W7 l lp (some (.str abc)) (some (.loc S.length)) none none none)) (Wl (S++[.lst ns]) l x):=by
  unfold zEJ
  simp? [zKZ hP',show(vs.length<1000000)=True from eq_true (by omega),show blk 1 [] (W7 l lp (some (.str abc)) none none none none)=[none]from rfl,hc,zHQ,zPK hl]
 have hnm: ∀z,(Wl (S++[MO.lst ns]) l z)[S.length]? =some (.lst ns):=λz=>zRF hl z _
 have hm0:0<=x % 8:=eN0 _ (by decide)
 have hm1:x % 8<8:=eL _ (by decide)
 obtain⟨out,S',e,⟨z1,rfl⟩,hol,hop⟩:=zRE (gf:=gNm 0) (cf:=zIL) (ef:=zAN) (ρb:=[none,some (.loc l),some (.str abc)]) (gs:=[]) (P:=λy=> ∃c,y=MV.str [c]/\97<=c/\c<=122) (I:=λS'=> ∃z,S'=Wl (S++[.lst ns]) l z) (ds:=(List.range (1+x % 8).toNat).map λk=>MV.int (k:Nat)) (S:=Wl (S++[.lst ns]) l (x / 8)) (λd hd S1 ⟨z,hz⟩=>by
  subst hz
  obtain⟨k,hk⟩:=nF (xs:=abc) (i:=z % 26) (eN0 _ (by decide)) (by have:=eL z (show(0:Int)<26 by decide);show z % 26<26;exact this)
  refine⟨[some d,some (.loc l),some (.str abc)],.str [k],Wl (S++[.lst ns]) l (z / 26),rfl,rfl,?_,⟨k,rfl,nG (P:=λk=>97<=k/\k<=122) (by decide) hk⟩,⟨_,rfl⟩,wV _⟩
  unfold zAN
  simp? [zKD hl2 (show(0:Int)<26 by decide) (by decide),ix_str (show abc.length<=sizeLine by rw [sizeLine_eq];decide) hk]) ⟨_,rfl⟩
 rw [lM,length_range]at hol
 obtain⟨w,hw1,hw2,hw3⟩:=yPF hop (by omega) (Wl (S++[.lst ns]) l z1)
 have hwn:Nm w:=⟨by omega,by omega,hw2⟩
 have e3:zEK (W7 l lp (some (.str abc)) (some (.loc S.length)) none none none) (Wl (S++[.lst ns]) l x)=.ok (.next (W7 l lp (some (.str abc)) (some (.loc S.length)) (some (.str w)) none none)) (Wl (S++[.lst ns]) l z1):=by
  unfold zEK
  simp? [yTG,zKD hl2 (show(0:Int)<8 by decide) (by decide),zAI (S:=Wl (S++[.lst ns]) l (x / 8)) (j:=1+x % 8) (by omega),show(((List.range (1+x % 8).toNat).map λk=>MV.int (k:Nat)).length<1000000)=True from eq_true (by rw [lM,length_range];omega),show blk 1 [0,2] (W7 l lp (some (.str abc)) (some (.loc S.length)) none none none)=[none,some (.loc l),some (.str abc)]from rfl,e,hw3]
 have e4:zEL (W7 l lp (some (.str abc)) (some (.loc S.length)) (some (.str w)) none none) (Wl (S++[.lst ns]) l z1)=.ok (.next (W7 l lp (some (.str abc)) (some (.loc S.length)) (some (.str w)) (some (.int (z1 % 3))) none)) (Wl (S++[.lst ns]) l (z1 / 3)):=by
  unfold zEL
  simp? [zKD hl2 (show(0:Int)<3 by decide) (by decide)]
 have e5:zEM (W7 l lp (some (.str abc)) (some (.loc S.length)) (some (.str w)) (some (.int (z1 % 3))) none) (Wl (S++[.lst ns]) l (z1 / 3))=if(decide (z1 % 3=0) || ns.isEmpty)=true then .ok (.ret (.val (.str w))) (Wl (S++[.lst ns]) l (z1 / 3))else .ok (.next (W7 l lp (some (.str abc)) (some (.loc S.length)) (some (.str w)) (some (.int (z1 % 3))) none)) (Wl (S++[.lst ns]) l (z1 / 3)):=by
  unfold zEM
  cases hb:decide (z1 % 3=0)<;>cases hn:ns.isEmpty<;>(simp? [hb,zTI (hnm _),hn];rfl)
 have fin: ∀y z,Nm y->nZ (W7 l lp none none none none none) (Wl S l x)=.ok (.ret (.val (.str y))) (Wl (S++[.lst ns]) l z)-> ∃y x',Nm y/\zT 2 jG [.val (.loc l),.val (.loc lp)] (Wl S l x)=.ok (.val (.str y)) (Wl S l x'):=λy z hy h=>by
  refine⟨y,z,hy,yPE (T:=[.lst ns]) rfl ?_ (zDZ _ _) (λl=>by simp)⟩
  show jG [.loc l,.loc lp] (Wl S l x)=_
  unfold jG
  rw [hs,h,zPK hl]
  rfl
 cases hb:(decide (z1 % 3=0) || ns.isEmpty)with
 |true=>
  rw [hb,iP rfl]at e5
  refine fin w (z1 / 3) hwn ?_
  unfold nZ
  rw [zD e1,zD e2,zD e3,zD e4,yW e5]
 |false=>
  rw [hb,iN xF0]at e5
  have hne0:ns≠[]:=λz=>by rw [z]at hb;simp at hb
  obtain⟨d,hd⟩:=yOE (xs:=ns) (i:= -1) (by have:=List.length_pos_iff.mpr hne0;omega) (by omega)
  obtain⟨q,rfl,hq⟩:=nG (P:=λd=> ∃q,d=MV.str q/\Nm q) hN hd
  have q1:=hq.1
  have q2:=hq.2.1
  have w1:=hwn.1
  have w2:=hwn.2.1
  have ixl: ∀z,ixF (.val (.loc S.length)) (.val (.int (-1))) (Wl (S++[MO.lst ns]) l z)=.ok (.val (.str q)) (Wl (S++[MO.lst ns]) l z):=λz=>zJB (hnm z) hd
  have lq: ∀S,nS [.val (.str q)] S=.ok (.val (.int q.length)) S:=len_str (by omega)
  have hmin: ∀S,minF [.val (.int 8),.val (.int ((q.length:Int)+1))] S=.ok (.val (.int (min 8 (q.length+1):Nat))) S:=λS=>by
   show R.ok (Er.val (.int (if(q.length:Int)+1<8 then(q.length:Int)+1 else 8))) S=_
   congr 3
   split<;>omega
  have e6:zEN (W7 l lp (some (.str abc)) (some (.loc S.length)) (some (.str w)) (some (.int (z1 % 3))) none) (Wl (S++[.lst ns]) l (z1 / 3))=if decide (z1 % 3=1)=true then .ok (.ret (.val (.str ((q++w).take (min 8 (q.length+1)))))) (Wl (S++[.lst ns]) l (z1 / 3))else .ok (.next (W7 l lp (some (.str abc)) (some (.loc S.length)) (some (.str w)) (some (.int (z1 % 3))) none)) (Wl (S++[.lst ns]) l (z1 / 3)):=by
   unfold zEN
   simp? [ixl,adds (x:=q) (y:=w) (by omega),lq,hmin,cut_str (S:=Wl (S++[MO.lst ns]) l (z1 / 3)) (fits (show(q++w).length<=1000000 by rw [lA];omega)),zLE]
  cases h1:decide (z1 % 3=1)with
  |true=>
   rw [h1,iP rfl]at e6
   refine fin ((q++w).take (min 8 (q.length+1))) (z1 / 3) ⟨?_,?_,λc hc=>?_⟩ ?_
   ·rw [lT,lA];omega
   ·rw [lT];omega
   ·rcases mem_append.mp (mem_of_mem_take hc)with h|h
    ·exact hq.2.2 c h
    ·exact hw2 c h
   ·unfold nZ
    rw [zD e1,zD e2,zD e3,zD e4,zD e5,yW e6]
  |false=>
   rw [h1,iN xF0]at e6
   obtain⟨t,ht,htl⟩:=zGJ (z1 / 3) (n:=q.length) (by omega)
   have e7:zEO (W7 l lp (some (.str abc)) (some (.loc S.length)) (some (.str w)) (some (.int (z1 % 3))) none) (Wl (S++[.lst ns]) l (z1 / 3))=.ok (.next (W7 l lp (some (.str abc)) (some (.loc S.length)) (some (.str w)) (some (.int (z1 % 3))) (some (.int (t:Nat))))) (Wl (S++[.lst ns]) l (z1 / 3 / (q.length:Int))):=by
    unfold zEO
    simp? [ixl,lq,zKD (x:=z1 / 3) hl2 (show(0:Int)<(q.length:Int) by omega) (by omega),ht]
   obtain⟨c,hc⟩:=nF (xs:=w) (i:=0) (by decide) (by omega)
   have e8:zEP (W7 l lp (some (.str abc)) (some (.loc S.length)) (some (.str w)) (some (.int (z1 % 3))) (some (.int (t:Nat)))) (Wl (S++[.lst ns]) l (z1 / 3 / (q.length:Int)))=.ok (.ret (.val (.str (q.take t++[c]++q.drop (t+1))))) (Wl (S++[.lst ns]) l (z1 / 3 / (q.length:Int))):=by
    have c2:wD q (some ((t:Int)+1)) none=q.drop (t+1):=zPJ q (t+1)
    unfold zEP
    simp? [ixl,cut_str (S:=Wl (S++[MO.lst ns]) l (z1 / 3 / (q.length:Int))) (fits (show q.length<=1000000 by omega)),zLE,c2,ix_str (S:=Wl (S++[MO.lst ns]) l (z1 / 3 / (q.length:Int))) (fits (show w.length<=1000000 by omega)) hc,adds (x:=q.take t) (y:=[c]) (by rw [lT,lS];omega),adds (x:=q.take t++[c]) (y:=q.drop (t+1)) (by rw [lA,lT,length_drop,lS];omega)]
   refine fin (q.take t++[c]++q.drop (t+1)) (z1 / 3 / (q.length:Int)) ⟨?_,?_,λa ha=>?_⟩ ?_
   ·simp only [lA,lS];omega
   ·simp only [lA,lS,lT,length_drop];omega
   ·rcases mem_append.mp ha with h|h
    ·rcases mem_append.mp h with h|h
     ·exact hq.2.2 a (mem_of_mem_take h)
     ·rw [mS.mp h];exact nG (P:=λk=>97<=k/\k<=122) hw2 hc
    ·exact hq.2.2 a (List.mem_of_mem_drop h)
   ·unfold nZ
    rw [zD e1,zD e2,zD e3,zD e4,zD e5,zD e6,zD e7,e8]
theorem yDM(S:Sto)(a b:MO):(S++[a,b])[S.length+1]? =some b:=by
 rw [getElem?_append_right (by omega),show S.length+1 - S.length=1 by omega]
 rfl
theorem yTH{S:Sto}{l:Nat}{x n:Int}(hl:l<S.length)(h0:0<n)(hd: ∀(a:Int)(S:Sto),zUL (.val (.int a)) (.val (.int n)) S=.ok (.val (.int (a / n))) S):zT 2 zL [.val (.loc l),.val (.int n)] (Wl S l x)=.ok (.val (.int (x % n))) (Wl S l (x / n)):=by
 have:=yAT (n:=n) (yDL hl x) h0 hd
 rw [yLF]at this
 exact this
abbrev PP(c:MV)(l m:Nat)(k w v:Option MV):Rho:=[some c,some (.loc l),some (.loc m),k,w,v]
section
variable{S:Sto}{l m:Nat}{x:Int}{vs:List MV}{k w v:Option MV}{c:MV}
theorem po3{n v:Int}(hl:l<S.length)(hv:Vl (.int v)): ∃v' z,Vl (.int v')/\gW (PP c l m k (some (.int n)) (some (.int v))) (Wl S l x)=.ok (.next (PP c l m k (some (.int n)) (some (.int v')))) (Wl S l z):=by
 have h0:0<=x % (2 * 10 ^ 30 - 1):=eN0 _ (by decide)
 have h1:x % (2 * 10 ^ 30 - 1)<2 * 10 ^ 30 - 1:=eL _ (by decide)
 have e:gW (PP c l m k (some (.int n)) (some (.int v))) (Wl S l x)=if decide (n=0)=true then .ok (.next (PP c l m k (some (.int n)) (some (.int (x % (2 * 10 ^ 30 - 1) - 10 ^ 30+1))))) (Wl S l (x / (2 * 10 ^ 30 - 1)))else .ok (.next (PP c l m k (some (.int n)) (some (.int v)))) (Wl S l x):=by
  unfold gW
  simp? [pp30,zSH (show -(2 ^ 64)<(2:Int)/\(2:Int)<2 ^ 64 by decide),yTH (x:=x) hl (show(0:Int)<2 * 10 ^ 30 - 1 by decide) (yOZ (show yHG 0 (2 * 10 ^ 30 - 1) by decide+kernel))]
 by_cases h:n=0
 ·rw [dT0 h,iP rfl]at e
  exact⟨_,_,⟨by omega,by omega⟩,e⟩
 ·rw [dF0 h,iN xF0]at e
  exact⟨v,x,hv,e⟩
theorem po4{n:Int}{v:MV}(hl:l<S.length)(hne:l≠m)(hV: ∀d∈vs,Vl d)(hvl:vs.length<1000)(hP:S[m]? =some (.lst vs))(hv:Vl v): ∃v' z,Vl v'/\gX (PP c l m k (some (.int n)) (some v)) (Wl S l x)=.ok (.next (PP c l m k (some (.int n)) (some v'))) (Wl S l z):=by
 obtain⟨y,z,hy,hc⟩:=yPG (S:=S) (l:=l) (x:=x) hl hne hV hvl hP
 have e:gX (PP c l m k (some (.int n)) (some v)) (Wl S l x)=if(decide (n=1) || decide (n=2))=true then .ok (.next (PP c l m k (some (.int n)) (some (.str y)))) (Wl S l z)else .ok (.next (PP c l m k (some (.int n)) (some v))) (Wl S l x):=by
  unfold gX
  cases h1:decide (n=1)<;>cases h2:decide (n=2)<;>(simp? [h1,h2,hc,fT0,iF];try rfl)
 cases h:(decide (n=1) || decide (n=2))with
 |true=>
  rw [h,iP rfl]at e
  exact⟨_,_,show Vl (.str y)from hy,e⟩
 |false=>
  rw [h,iN xF0]at e
  exact⟨v,x,hv,e⟩
theorem yHX(hl:l<S.length)(hV: ∀d∈vs,Vl d)(hn:vs.length<100): ∃vs' w' v' z,(∀d∈vs',Vl d)/\vs'.length<=vs.length+1/\1<=vs'.length/\gK (PP c l S.length k w v) (Wl (S++[.lst vs]) l x)=.ok (.next (PP c l S.length k w' v')) (Wl (S++[.lst vs']) l z):=by
 have hl2:l<(S++[MO.lst vs]).length:=by rw [lA];omega
 have hv0:Vl (.int (x / 4 % 9 - 4)):=by
  have h0:0<=x / 4 % 9:=eN0 _ (by decide)
  have h1:x / 4 % 9<9:=eL _ (by decide)
  exact⟨by omega,by omega⟩
 have e1:zAO (PP c l S.length k w v) (Wl (S++[.lst vs]) l x)=.ok (.next (PP c l S.length k (some (.int (x % 4))) v)) (Wl (S++[.lst vs]) l (x / 4)):=by
  unfold zAO
  simp? [zKD hl2 (show(0:Int)<4 by decide) (by decide)]
 have e2:zAP (PP c l S.length k (some (.int (x % 4))) v) (Wl (S++[.lst vs]) l (x / 4))=.ok (.next (PP c l S.length k (some (.int (x % 4))) (some (.int (x / 4 % 9 - 4))))) (Wl (S++[.lst vs]) l (x / 4 / 9)):=by
  unfold zAP
  simp? [zKD hl2 (show(0:Int)<9 by decide) (by decide)]
 obtain⟨v3,z3,hv3,e3⟩:=po3 (c:=c) (m:=S.length) (k:=k) (n:=x % 4) (x:=x / 4 / 9) hl2 hv0
 obtain⟨v4,z4,hv4,e4⟩:=po4 (c:=c) (m:=S.length) (k:=k) (n:=x % 4) (x:=z3) (vs:=vs) hl2 (ne_of_lt hl) hV (by omega) (by simp) hv3
 have hS:(Wl (S++[.lst vs]) l z4)[S.length]? =some (.lst vs):=zRF hl z4 _
 have e5:zAQ (PP c l S.length k (some (.int (x % 4))) (some v4)) (Wl (S++[.lst vs]) l z4)=if(!decide (v4∈vs))=true then .ok (.next (PP c l S.length k (some (.int (x % 4))) (some v4))) (Wl (S++[.lst (vs++[v4])]) l z4)else .ok (.next (PP c l S.length k (some (.int (x % 4))) (some v4))) (Wl (S++[.lst vs]) l z4):=by
  unfold zAQ
  simp? [yPB true hS (zBP hv4).1 λy hy=>⟨(zBP (hV y hy)).1,by rw [(zBP (hV y hy)).2];decide⟩,kI hS,bE hS (show vs.length<1000000 by omega),yLG hl]
 by_cases h:v4∈vs
 ·rw [dT0 h,Bool.not_true,iN xF0]at e5
  refine⟨vs,some (.int (x % 4)),some v4,z4,hV,le_succ _,List.length_pos_of_mem h,?_⟩
  unfold gK
  rw [zD e1,zD e2,zD e3,zD e4,e5]
 ·rw [dF0 h,Bool.not_false,iP rfl]at e5
  refine⟨vs++[v4],some (.int (x % 4)),some v4,z4,λd hd=>?_,by rw [lA];exact le_refl _,by rw [lA];exact Nat.le_add_left _ _,?_⟩
  ·rcases mem_append.mp hd with hd|hd
   ·exact hV d hd
   ·rw [mS.mp hd];exact hv4
  ·unfold gK
   rw [zD e1,zD e2,zD e3,zD e4,e5]
end
def VOk(vs:List MV):Prop:=1<=vs.length/\vs.length<=4/\ ∀d∈vs,Vl d
theorem yPH(q:Int)(S:Sto): ∃vs,VOk vs/\zT 1 bR [.val (.int q)] S=.ok (.new vs) S:=by
 obtain⟨t,hw⟩:=zNX q 1 ⟨by decide,by decide⟩ S
 have hlS:S.length<(S++[MO.lst []]).length:=by rw [lA];exact lt_succ_self _
 have hm0:0<=t % 3:=eN0 _ (by decide)
 have hm1:t % 3<3:=eL _ (by decide)
 have hs:zR zJH [.int q]=[some (.int q),none,none,none,none,none]:=rfl
 have e1:zEQ [some (.int q),none,none,none,none,none] S=.ok (.next [some (.int q),some (.loc S.length),none,none,none,none]) (Wl (S++[.lst []]) S.length t):=by
  unfold zEQ
  simp? [hw]
  rw [yFW]
 have e2:zER [some (.int q),some (.loc S.length),none,none,none,none] (Wl (S++[.lst []]) S.length t)=.ok (.next (PP (.int q) S.length (S.length+1) none none none)) (Wl (S++[.lst []]++[.lst []]) S.length t):=by
  unfold zER
  simp? [zHQ,zPK hlS]
  rw [lA]
  rfl
 have hlen:((List.range (2+t % 3).toNat).map λk=>MV.int (k:Nat)).length=(2+t % 3).toNat:=by rw [lM,length_range]
 obtain⟨ρ',S',e,vs,z,k',w',v',hρ,hS',hV,h1,h2⟩:=zMC (L:=(List.range (2+t % 3).toNat).map λk=>MV.int (k:Nat)) (gf:=gNm 3) (body:=gK) (gs:=[]) (S:=Wl (S++[.lst []]++[.lst []]) S.length (t / 3)) (ρ:=PP (.int q) S.length (S.length+1) none none none)
  (λi ρ S'=> ∃(vs:List MV)(z:Int)(k' w' v':Option MV),ρ=PP (.int q) S.length (S.length+1) k' w' v'/\S'=Wl (S++[.lst []]++[.lst vs]) S.length z/\(∀d∈vs,Vl d)/\vs.length<=i/\(i=0\/1<=vs.length)) (λi d hi ρ S1 ⟨vs,z,k',w',v',hρ,hS1,hV,h1,h2⟩=>by
   subst hρ hS1
   have hil:i<5:=by have:=(gS0.mp hi).1;omega
   obtain⟨vs',w2,v2,z2,hV',h1',h2',hb⟩:=yHX (c:=.int q) (S:=S++[.lst []]) (l:=S.length) (x:=z) (vs:=vs) (k:=some d) (w:=w') (v:=v') hlS hV (by omega)
   rw [lA]at hb
   refine⟨PP (.int q) S.length (S.length+1) (some d) w2 v2,_,?_,wV _,vs',z2,some d,w2,v2,rfl,rfl,hV',by omega,.inr h2'⟩
   rw [show gNm 3 d (PP (.int q) S.length (S.length+1) k' w' v') (Wl (S++[.lst []]++[.lst vs]) S.length z)=.ok (PP (.int q) S.length (S.length+1) (some d) w' v') (Wl (S++[.lst []]++[.lst vs]) S.length z)from rfl,bok]
   exact hb) ⟨[],t / 3,none,none,none,rfl,rfl,by simp,le_refl _,.inl rfl⟩
 subst hρ hS'
 rw [hlen]at h1 h2
 have hl3:S.length<(S++[MO.lst []]++[MO.lst []]).length:=by simp only [lA,lC,length_nil];omega
 have e3:zES (PP (.int q) S.length (S.length+1) none none none) (Wl (S++[.lst []]++[.lst []]) S.length t)=.ok (.next (PP (.int q) S.length (S.length+1) k' w' v')) (Wl (S++[.lst []]++[.lst vs]) S.length z):=by
  unfold zES
  simp? [zKD hl3 (show(0:Int)<3 by decide) (by decide),zAI (S:=Wl (S++[.lst []]++[.lst []]) S.length (t / 3)) (j:=2+t % 3) (by omega)]
  exact e
 have e4:zET (PP (.int q) S.length (S.length+1) k' w' v') (Wl (S++[.lst []]++[.lst vs]) S.length z)=.ok (.ret (.val (.loc (S.length+1)))) (Wl (S++[.lst []]++[.lst vs]) S.length z):=by
  unfold zET
  simp? [bok]
 have hF:bR [.int q] S=.ok (.val (.loc (S.length+1))) (S++[.lst [.int z],.lst vs]):=by
  unfold bR zQD
  rw [hs,zD e1,zD e2,zD e3,e4]
  show R.ok _ _=_
  congr 1
  rw [<-zPK hlS, <-yFW,aA]
  rfl
 refine⟨vs,⟨by omega,by omega,hV⟩,zTJ rfl (show zW [.val (.int q)] S=([.int q],S)from rfl) hF (.inr ⟨_,rfl,le_succ _,?_⟩) (yP λd hd=>(hV d hd).lo _)⟩
 exact yDM S _ _
def tbl(p:Int×Int):MV:=.tup [.int p.1,.int p.2]
def TOk(ts:List (Int×Int)):Prop:=1<=ts.length/\ts.length<=4/\ ∀p∈ts,1<=p.1/\p.1<=4/\0<=p.2/\p.2<=p.1
theorem lst5(a b c d e:MV)(S:Sto):bG [.val a,.val b,.val c,.val d,.val e] S=.ok (.new [a,b,c,d,e]) S:=zMD (by simp)
abbrev T6(c:MV)(l m:Nat)(k w y:Option MV):Rho:=[some c,some (.loc l),some (.loc m),k,w,y]
theorem yLH{S:Sto}{l:Nat}{x:Int}{c:MV}{k w y:Option MV}{ts:List (Int×Int)}(hl:l<S.length)(hn:ts.length<1000):
  ∃p w' y' z,(1<=p.1/\p.1<=4/\0<=p.2/\p.2<=p.1)/\gY (T6 c l S.length k w y) (Wl (S++[.lst (ts.map tbl)]) l x)=.ok (.next (T6 c l S.length k w' y')) (Wl (S++[.lst ((ts++[p]).map tbl)]) l z):=by
 have hl2:l<(S++[MO.lst (ts.map tbl)]).length:=by rw [lA];omega
 have h0:0<=x % 4:=eN0 _ (by decide)
 have h1:x % 4<4:=eL _ (by decide)
 have hp:(0:Int)<1+x % 4+1:=by omega
 have h2:0<=x / 4 % (1+x % 4+1):=eN0 _ (by omega)
 have h3:x / 4 % (1+x % 4+1)<1+x % 4+1:=eL _ hp
 have e1:cK (T6 c l S.length k w y) (Wl (S++[.lst (ts.map tbl)]) l x)=.ok (.next (T6 c l S.length k (some (.int (1+x % 4))) y)) (Wl (S++[.lst (ts.map tbl)]) l (x / 4)):=by
  unfold cK
  simp? [zKD hl2 (show(0:Int)<4 by decide) (by decide)]
 have hS: ∀z,(Wl (S++[.lst (ts.map tbl)]) l z)[S.length]? =some (.lst (ts.map tbl)):=λz=>zRF hl z _
 obtain⟨d,hd⟩:=nF (xs:=[MV.int 0,.int 1,.int 1,.int (1+x % 4),.int (x / 4 % (1+x % 4+1))]) (i:=x / 4 / (1+x % 4+1) % 5) (eN0 _ (by decide)) (eL _ (by decide))
 obtain⟨key,rfl,hk⟩: ∃key,d=.int key/\0<=key/\key<=1+x % 4:=nG (P:=λd=> ∃key,d=MV.int key/\0<=key/\key<=1+x % 4) (λe he=>by
  simp only [mC,nM0,or_false]at he
  rcases he with rfl|rfl|rfl|rfl|rfl<;>exact⟨_,rfl,by omega,by omega⟩) hd
 have e2:cL (T6 c l S.length k (some (.int (1+x % 4))) y) (Wl (S++[.lst (ts.map tbl)]) l (x / 4))=.ok (.next (T6 c l S.length k (some (.int (1+x % 4))) (some (.int key)))) (Wl (S++[.lst (ts.map tbl)]) l (x / 4 / (1+x % 4+1) / 5)):=by
  unfold cL
  simp? [zKD (x:=x / 4) hl2 hp (by omega),lst5,zKD (x:=x / 4 / (1+x % 4+1)) hl2 (show(0:Int)<5 by decide) (by decide),zSI (S:=Wl (S++[.lst (ts.map tbl)]) l (x / 4 / (1+x % 4+1) / 5)) hd]
 have e3:cM (T6 c l S.length k (some (.int (1+x % 4))) (some (.int key))) (Wl (S++[.lst (ts.map tbl)]) l (x / 4 / (1+x % 4+1) / 5))=.ok (.next (T6 c l S.length k (some (.int (1+x % 4))) (some (.int key)))) (Wl (S++[.lst ((ts++[(1+x % 4,key)]).map tbl)]) l (x / 4 / (1+x % 4+1) / 5)):=by
  unfold cM
  simp? [kI (hS (x / 4 / (1+x % 4+1) / 5)),bE (hS (x / 4 / (1+x % 4+1) / 5)) (show(ts.map tbl).length<1000000 by rw [lM];omega),yLG hl]
  rw [map_append]
  rfl
 refine⟨(1+x % 4,key),some (.int (1+x % 4)),some (.int key),x / 4 / (1+x % 4+1) / 5,⟨by show 1<=1+x % 4;omega,by show 1+x % 4<=4;omega,hk.1,hk.2⟩,?_⟩
 unfold gY
 rw [zD e1,zD e2,e3]
theorem yLI{ts:List (Int×Int)}(n:Nat):lo n (.tup (ts.map tbl)):=xX (yP λd hd=>by
 obtain⟨p,_,rfl⟩:=mM.mp hd
 exact xX (yP λe he=>by simp at he;rcases he with rfl|rfl<;>exact xW _ _))
theorem yHY(q:Int)(S:Sto): ∃ts,TOk ts/\zT 1 kS [.val (.int q)] S=.ok (.val (.tup (ts.map tbl))) S:=by
 obtain⟨t,hw⟩:=zNX q 2 ⟨by decide,by decide⟩ S
 have hlS:S.length<(S++[MO.lst []]).length:=by rw [lA];exact lt_succ_self _
 have hm0:0<=t % 4:=eN0 _ (by decide)
 have hm1:t % 4<4:=eL _ (by decide)
 have hs:zR zEA [.int q]=[some (.int q),none,none,none,none,none]:=rfl
 have e1:zAR [some (.int q),none,none,none,none,none] S=.ok (.next [some (.int q),some (.loc S.length),none,none,none,none]) (Wl (S++[.lst []]) S.length t):=by
  unfold zAR
  simp? [hw]
  rw [yFW]
 have e2:zAS [some (.int q),some (.loc S.length),none,none,none,none] (Wl (S++[.lst []]) S.length t)=.ok (.next (T6 (.int q) S.length (S.length+1) none none none)) (Wl (S++[.lst []]++[.lst []]) S.length t):=by
  unfold zAS
  simp? [zHQ,zPK hlS]
  rw [lA]
  rfl
 have hlen:((List.range (1+t % 4).toNat).map λk=>MV.int (k:Nat)).length=(1+t % 4).toNat:=by rw [lM,length_range]
 obtain⟨ρ',S',e,ts,z,k',w',y',hρ,hS',hT,h1⟩:=zMC (L:=(List.range (1+t % 4).toNat).map λk=>MV.int (k:Nat)) (gf:=gNm 3) (body:=gY) (gs:=[]) (S:=Wl (S++[.lst []]++[.lst []]) S.length (t / 4)) (ρ:=T6 (.int q) S.length (S.length+1) none none none)
  (λi ρ S'=> ∃(ts:List (Int×Int))(z:Int)(k' w' y':Option MV),ρ=T6 (.int q) S.length (S.length+1) k' w' y'/\S'=Wl (S++[.lst []]++[.lst (ts.map tbl)]) S.length z/\(∀p∈ts,1<=p.1/\p.1<=4/\0<=p.2/\p.2<=p.1)/\ts.length=i) (λi d hi ρ S1 ⟨ts,z,k',w',y',hρ,hS1,hT,h1⟩=>by
   subst hρ hS1
   have hil:i<5:=by have:=(gS0.mp hi).1;omega
   obtain⟨p,w2,y2,z2,hp,hb⟩:=yLH (S:=S++[.lst []]) (l:=S.length) (x:=z) (c:=.int q) (ts:=ts) (k:=some d) (w:=w') (y:=y') hlS (by omega)
   rw [lA]at hb
   refine⟨T6 (.int q) S.length (S.length+1) (some d) w2 y2,_,?_,wV _,ts++[p],z2,some d,w2,y2,rfl,rfl,λq hq=>?_,by rw [lA,h1];rfl⟩
   ·rw [show gNm 3 d (T6 (.int q) S.length (S.length+1) k' w' y') (Wl (S++[.lst []]++[.lst (ts.map tbl)]) S.length z)=.ok (T6 (.int q) S.length (S.length+1) (some d) w' y') (Wl (S++[.lst []]++[.lst (ts.map tbl)]) S.length z)from rfl,bok]
    exact hb
   ·rcases mem_append.mp hq with h|h
    ·exact hT q h
    ·rw [mS.mp h];exact hp) ⟨[],t / 4,none,none,none,rfl,rfl,by simp,rfl⟩
 subst hρ hS'
 rw [hlen]at h1
 have hl3:S.length<(S++[MO.lst []]++[MO.lst []]).length:=by simp only [lA,lC,length_nil];omega
 have e3:zAT (T6 (.int q) S.length (S.length+1) none none none) (Wl (S++[.lst []]++[.lst []]) S.length t)=.ok (.next (T6 (.int q) S.length (S.length+1) k' w' y')) (Wl (S++[.lst []]++[.lst (ts.map tbl)]) S.length z):=by
  unfold zAT
  simp? [zKD hl3 (show(0:Int)<4 by decide) (by decide),zAI (S:=Wl (S++[.lst []]++[.lst []]) S.length (t / 4)) (j:=1+t % 4) (by omega)]
  exact e
 have hat:(Wl (S++[.lst []]++[.lst (ts.map tbl)]) S.length z)[S.length+1]? =some (.lst (ts.map tbl)):=by
  have:=zRF (S:=S++[MO.lst []]) (l:=S.length) hlS z (.lst (ts.map tbl))
  rw [lA]at this
  exact this
 have e4:zAU (T6 (.int q) S.length (S.length+1) k' w' y') (Wl (S++[.lst []]++[.lst (ts.map tbl)]) S.length z)=.ok (.ret (.val (.tup (ts.map tbl)))) (Wl (S++[.lst []]++[.lst (ts.map tbl)]) S.length z):=by
  unfold zAU
  simp? [zPG hat]
 refine⟨ts,⟨by omega,by omega,hT⟩,nU (T:=[.lst [.int z],.lst (ts.map tbl)]) rfl ?_ (yLI _) (λl=>by simp)⟩
 show kS [.int q] S=_
 unfold kS zLS
 rw [hs,zD e1,zD e2,zD e3,e4]
 show R.ok _ _=_
 congr 1
 rw [<-zPK hlS, <-yFW,aA]
 rfl
def zK(r:Nat×List MV):MV:=.tup [.int r.1,.tup r.2]
def ROk(ts:List (Int×Int))(r:Nat×List MV):Prop:= ∃p,ts[r.1]? =some p/\(r.2.length:Int)=p.1/\ ∀d∈r.2,Vl d
theorem yLJ{ts:List (Int×Int)}{r:Nat×List MV}(h:ROk ts r):pd (zK r)=true/\dpt (zK r)<=2:=by
 obtain⟨p,_,_,hv⟩:=h
 have h1:pdL r.2=true:=zRC λd hd=>(zBP (hv d hd)).1
 have h2:zPH r.2<=0:=zRD λd hd=>by rw [(zBP (hv d hd)).2];exact le_refl _
 unfold zK
 refine⟨by rw [zPI,zCX,zCX,zYA,zYB,zPI,h1];rfl,?_⟩
 rw [zLD,dZ,dZ,zTG,zRB,zLD]
 omega
theorem yLK{r q:Nat×List MV}(h:zK r=zK q):r=q:=by
 unfold zK at h
 injection h with h
 injection h with h1 h2
 injection h2 with h2 _
 injection h1 with h1
 injection h2 with h2
 exact Prod.ext (by omega) h2
theorem yDN{ts:List (Int×Int)}{r:Nat×List MV}(h:ROk ts r)(n:Nat):lo n (zK r):=by
 obtain⟨p,_,_,hv⟩:=h
 refine xX (yP λd hd=>?_)
 simp only [mC,nM0,or_false]at hd
 rcases hd with rfl|rfl
 ·exact xW _ _
 ·exact xX (yP λe he=>(hv e he).lo n)
theorem yLL{ts:List (Int×Int)}{t:Nat}{p:Int×Int}(h:ts[t]? =some p):atI (ts.map tbl) (t:Int)=some (tbl p):=by
 have hl:t<ts.length:=(gS0.mp h).1
 unfold atI ixN
 rw [iP (by omega),iP (by rw [lM];omega)]
 show(ts.map tbl)[(t:Int).toNat]? =_
 rw [toNat_natCast,getElem?_map,h]
 rfl
def SqM(S:Sto)(m:MV)(ds:List MV):Prop:=m=.tup ds\/ ∃l,m=.loc l/\S[l]? =some (.lst ds)
theorem SqM.ix{S:Sto}{m:MV}{ds:List MV}{i:Int}{d:MV}(h:SqM S m ds)(hk:atI ds i=some d):ixF (.val m) (.val (.int i)) S=.ok (.val d) S:=by
 rcases h with rfl|⟨l,rfl,hS⟩
 ·exact ix_tup hk
 ·exact zJB hS hk
theorem SqM.len{S:Sto}{m:MV}{ds:List MV}(h:SqM S m ds):nS [.val m] S=.ok (.val (.int ds.length)) S:=by
 rcases h with rfl|⟨l,rfl,hS⟩
 ·rfl
 ·exact yEX hS
def wid(ts:List (Int×Int))(t:Nat):Int:=((ts[t]?).map (·.1)).getD 0
theorem zFV{ts:List (Int×Int)}{t:Nat}{p:Int×Int}(h:ts[t]? =some p):wid ts t=p.1:=by unfold wid;rw [h];rfl
theorem yDO{ts:List (Int×Int)}(hT:TOk ts){t:Nat}(h:t<ts.length):1<=wid ts t/\wid ts t<=4:=by
 have:=hT.2.2 ts[t] (getElem_mem h)
 rw [zFV (gE0 h)]
 exact⟨this.1,this.2.1⟩
theorem zYE{ts:List (Int×Int)}{t:Nat}(ht:t<ts.length)(S:Sto): ∃e,ixF (.val (.tup (ts.map tbl))) (.val (.int (t:Nat))) S=.ok (.val e) S/\ixF (.val e) (.val (.int 0)) S=.ok (.val (.int (wid ts t))) S:=by
 have hgt:ts[t]? =some ts[t]:=gE0 ht
 exact⟨tbl ts[t],ix_tup (yLL hgt),by rw [zFV hgt];rfl⟩
theorem yTI{ts:List (Int×Int)}(hT:TOk ts)(c:Int){lp:Nat}{vs:List MV}{S:Sto}(hV:VOk vs)(hP:S[lp]? =some (.lst vs)):
  ∃r,ROk ts r/\zT 3 dQ [.val (.int c),.val (.tup (ts.map tbl)),.val (.loc lp)] S=.ok (.val (zK r)) S:=by
 obtain⟨n,hn⟩:=zNX c 3 ⟨by decide,by decide⟩ S
 have hlp:lp<S.length:=(gS0.mp hP).1
 have hPn: ∀x,(SN S x)[lp]? =some (.lst vs):=λx=>by rw [getElem?_append_left hlp];exact hP
 have hp:0<ts.length:=hT.1
 have hl4:=hT.2.1
 have hv1:=hV.1
 have hv4:=hV.2.1
 have hlen: ∀S,nS [.val (.tup (ts.map tbl))] S=.ok (.val (.int ts.length)) S:=λS=>by rw [zNW,lM]
 have hs:zR zGU [.int c,.tup (ts.map tbl),.loc lp]=[some (.int c),some (.tup (ts.map tbl)),some (.loc lp),none,none]:=rfl
 have e1:zHI [some (.int c),some (.tup (ts.map tbl)),some (.loc lp),none,none] S=.ok (.next [some (.int c),some (.tup (ts.map tbl)),some (.loc lp),some (.loc S.length),none]) (SN S n):=by
  unfold zHI
  simp? [hn]
 obtain⟨t,ht,htl⟩:=zGJ n hp
 have e2:zHJ [some (.int c),some (.tup (ts.map tbl)),some (.loc lp),some (.loc S.length),none] (SN S n)=.ok (.next [some (.int c),some (.tup (ts.map tbl)),some (.loc lp),some (.loc S.length),some (.int (t:Nat))]) (SN S (n / ts.length)):=by
  unfold zHJ
  simp? [hlen,zHP S n (n:=(ts.length:Int)) (by omega) (by omega)]
  rw [ht]
 have hw:=yDO hT htl
 obtain⟨out,S',e,⟨x',rfl⟩,hol,hop⟩:=zRE (gf:=gNm 0) (cf:=zJY) (ef:=zCN) (ρb:=[none,some (.loc lp),some (.loc S.length)]) (gs:=[]) (P:=Vl) (I:=λS'=> ∃y,S'=SN S y) (ds:=(List.range (wid ts t).toNat).map λk=>MV.int (k:Nat)) (S:=SN S (n / ts.length)) (λd hd S1 ⟨y,hy⟩=>by
  subst hy
  obtain⟨v,hv⟩:=nF (xs:=vs) (i:=y % (vs.length:Int)) (eN0 _ (by omega)) (eL _ (by omega))
  refine⟨[some d,some (.loc lp),some (.loc S.length)],v,SN S (y / (vs.length:Int)),rfl,rfl,?_,nG hV.2.2 hv,⟨_,rfl⟩,wV _⟩
  unfold zCN
  simp? [SqM.len (S:=SN S y) (.inr ⟨lp,rfl,hPn y⟩),zHP S y (n:=(vs.length:Int)) (by omega) (by omega),zJB (hPn _) hv]) ⟨_,rfl⟩
 rw [lM,length_range]at hol
 have e3:zHK [some (.int c),some (.tup (ts.map tbl)),some (.loc lp),some (.loc S.length),some (.int (t:Nat))] (SN S (n / ts.length))=.ok (.ret (.val (zK (t,out)))) (SN S x'):=by
  obtain⟨e',i1,i2⟩:=zYE htl (SN S (n / ts.length))
  unfold zHK
  simp? [i1,i2,zAI (S:=SN S (n / ts.length)) (j:=wid ts t) (by omega),show(((List.range (wid ts t).toNat).map λk=>MV.int (k:Nat)).length<1000000)=True from eq_true (by rw [lM,length_range];omega),show blk 1 [2,3] [some (.int c),some (.tup (ts.map tbl)),some (.loc lp),some (.loc S.length),some (.int (t:Nat))]=[none,some (.loc lp),some (.loc S.length)]from rfl,e,show dM [.new out] (SN S x')=.ok (.val (.tup out)) (SN S x')from rfl]
  rfl
 have hr:ROk ts (t,out):=⟨ts[t],gE0 htl,by
  have:=zFV (gE0 htl)
  show(out.length:Int)=_
  omega,hop⟩
 refine⟨(t,out),hr,nU (T:=[.lst [.int x']]) rfl ?_ (yDN hr _) (λl=>by unfold zK;simp)⟩
 show dQ [.int c,.tup (ts.map tbl),.loc lp] S=_
 unfold dQ zTD
 rw [hs,zD e1,zD e2,e3]
 rfl
abbrev R7(lc:Nat)(tb:MV)(lp:Nat)(w:Int)(lr:Nat)(x5 x6:Option MV):Rho:=[some (.loc lc),some tb,some (.loc lp),some (.int w),some (.loc lr),x5,x6]
theorem yHZ{ts:List (Int×Int)}(hT:TOk ts){c w:Int}{lc lp lr:Nat}{vs:List MV}{S:Sto}{x6:Option MV}{rs:List (Nat×List MV)}(hV:VOk vs)(hP:S[lp]? =some (.lst vs))(hS:S[lr]? =some (.lst (rs.map zK)))
  (hR: ∀r∈rs,ROk ts r) (hn:rs.Nodup) (hl:rs.length<1000): ∃(x6':Option MV)(rs':List (Nat×List MV)),kT (R7 lc (.tup (ts.map tbl)) lp w lr (some (.int c)) x6) S=.ok (.next (R7 lc (.tup (ts.map tbl)) lp w lr (some (.int c)) x6')) (S.set lr (.lst (rs'.map zK)))/\(∀r∈rs',ROk ts r)/\rs'.Nodup/\rs'.length<=rs.length+1:=by
 obtain⟨r,hr,hcall⟩:=yTI hT c hV hP
 have e1:zAV (R7 lc (.tup (ts.map tbl)) lp w lr (some (.int c)) x6) S=.ok (.next (R7 lc (.tup (ts.map tbl)) lp w lr (some (.int c)) (some (zK r)))) S:=by
  unfold zAV
  simp? [hcall]
 have hin:inF true (.val (zK r)) (.val (.loc lr)) S=.ok (.val (.bl (!decide (zK r∈rs.map zK)))) S:=yDK hS (yLJ hr).1 (λx=>by unfold zK;simp) λy hy=>by
  obtain⟨q,hq,rfl⟩:=mM.mp hy
  have:=yLJ (hR q hq)
  exact⟨this.1,by omega⟩
 have hlen:nS [.val (.loc lr)] S=.ok (.val (.int (rs.map zK).length)) S:=SqM.len (.inr ⟨lr,rfl,hS⟩)
 have hmem:zK r∈rs.map zK↔r∈rs:=⟨λh=>by obtain⟨q,hq,e⟩:=mM.mp h;rw [<-yLK e];exact hq,λh=>List.mem_map_of_mem h⟩
 have same:wL (R7 lc (.tup (ts.map tbl)) lp w lr (some (.int c)) (some (zK r))) S=.ok (.next (R7 lc (.tup (ts.map tbl)) lp w lr (some (.int c)) (some (zK r)))) S-> ∃(x6':Option MV)(rs':List (Nat×List MV)),kT (R7 lc (.tup (ts.map tbl)) lp w lr (some (.int c)) x6) S=.ok (.next (R7 lc (.tup (ts.map tbl)) lp w lr (some (.int c)) x6')) (S.set lr (.lst (rs'.map zK)))/\(∀r∈rs',ROk ts r)/\rs'.Nodup/\rs'.length<=rs.length+1:=λe2=>by
  refine⟨some (zK r),rs,?_,hR,hn,le_succ _⟩
  unfold kT
  rw [zD e1,e2]
  have hset:S.set lr (.lst (rs.map zK))=S:=by
   refine ext_getElem? λj=>?_
   by_cases e:lr=j
   ·subst e;rw [get_set hS,hS]
   ·rw [bM e]
  rw [hset]
 by_cases hm:r∈rs
 ·refine same ?_
  unfold wL
  simp? [hin,dT0 (hmem.mpr hm)]
  rfl
 ·by_cases hw:((rs.map zK).length:Int)<w
  ·have e2:wL (R7 lc (.tup (ts.map tbl)) lp w lr (some (.int c)) (some (zK r))) S=.ok (.next (R7 lc (.tup (ts.map tbl)) lp w lr (some (.int c)) (some (zK r)))) (S.set lr (.lst ((rs++[r]).map zK))):=by
    unfold wL
    simp? [hin,dF0 (λz=>hm (hmem.mp z)),hlen,lt_int,dT0 hw,Bool.not_false,kI hS,bE hS (show(rs.map zK).length<1000000 by rw [lM];omega)]
    rw [map_append]
    rfl
   refine⟨some (zK r),rs++[r],?_,?_,?_,?_⟩
   ·unfold kT
    rw [zD e1,e2]
   ·intro q hq
    rw [mem_append,mS]at hq
    rcases hq with hq|rfl
    ·exact hR q hq
    ·exact hr
   ·exact List.nodup_append.mpr ⟨hn,by simp,λa ha c hc=>by rw [mS.mp hc];rintro rfl;exact hm ha⟩
   ·rw [lA];exact le_refl _
  ·refine same ?_
   unfold wL
   simp? [hin,dF0 (λz=>hm (hmem.mp z)),hlen,lt_int,dF0 hw,Bool.not_false]
   rfl
theorem yPI{ts:List (Int×Int)}(hT:TOk ts)(is:List Int)(hil:is.length<=200){w:Int}{lp:Nat}{vs:List MV}{S:Sto}(hV:VOk vs)(hP:S[lp]? =some (.lst vs)):
  ∃rs:List (Nat×List MV),(∀r∈rs,ROk ts r)/\rs.Nodup/\rs.length<=is.length/\zT 4 bS [.new (is.map MV.int),.val (.tup (ts.map tbl)),.val (.loc lp),.val (.int w)] S=.ok (.val (.tup (rs.map zK))) S:=by
 have hlp:lp<S.length:=(gS0.mp hP).1
 have hs:zR zJI [.loc S.length,.tup (ts.map tbl),.loc lp,.int w]=[some (.loc S.length),some (.tup (ts.map tbl)),some (.loc lp),some (.int w),none,none,none]:=rfl
 have e1:zEU [some (.loc S.length),some (.tup (ts.map tbl)),some (.loc lp),some (.int w),none,none,none] (S++[.lst (is.map MV.int)])=.ok (.next (R7 S.length (.tup (ts.map tbl)) lp w (S.length+1) none none)) (S++[.lst (is.map MV.int)]++[.lst []]):=by
  unfold zEU
  simp? [bok]
  rw [lA]
  rfl
 obtain⟨ρ',S',e,x5,x6,rs,hρ,hS',hR,hN,hl⟩:=zMC (L:=is.map MV.int) (gf:=gNm 5) (body:=kT) (gs:=[(S.length,is.map MV.int)]) (S:=S++[.lst (is.map MV.int)]++[.lst []]) (ρ:=R7 S.length (.tup (ts.map tbl)) lp w (S.length+1) none none)
  (λi ρ S'=> ∃(x5 x6:Option MV)(rs:List (Nat×List MV)),ρ=R7 S.length (.tup (ts.map tbl)) lp w (S.length+1) x5 x6/\S'=S++[.lst (is.map MV.int)]++[.lst (rs.map zK)]/\(∀r∈rs,ROk ts r)/\rs.Nodup/\rs.length<=i) (λi d hi ρ S1 ⟨x5,x6,rs,hρ,hS1,hR,hN,hl⟩=>by
   subst hρ hS1
   obtain⟨c,_,rfl⟩:=mM.mp (mem_of_getElem? hi)
   have hil':i<is.length:=by have:=(gS0.mp hi).1;rw [lM]at this;exact this
   obtain⟨x6',rs',hb,hR',hN',hl'⟩:=yHZ hT (c:=c) (w:=w) (lc:=S.length) (lp:=lp) (lr:=S.length+1) (S:=S++[.lst (is.map MV.int)]++[.lst (rs.map zK)]) (x6:=x6) (rs:=rs) hV (by rw [aA,getElem?_append_left hlp];exact hP) (by simp) hR hN (by omega)
   refine⟨R7 S.length (.tup (ts.map tbl)) lp w (S.length+1) (some (.int c)) x6',S++[.lst (is.map MV.int)]++[.lst (rs'.map zK)],?_,bW (by simp),some (.int c),x6',rs',rfl,rfl,hR',hN',by omega⟩
   rw [show gNm 5 (.int c) (R7 S.length (.tup (ts.map tbl)) lp w (S.length+1) x5 x6) (S++[.lst (is.map MV.int)]++[.lst (rs.map zK)])=.ok (R7 S.length (.tup (ts.map tbl)) lp w (S.length+1) (some (.int c)) x6) (S++[.lst (is.map MV.int)]++[.lst (rs.map zK)])from rfl,bok,hb]
   have hset:List.set (S++[MO.lst (is.map MV.int)]++[MO.lst (rs.map zK)]) (S.length+1) (MO.lst (rs'.map zK))=S++[MO.lst (is.map MV.int)]++[MO.lst (rs'.map zK)]:=by simp
   rw [hset])
  ⟨none,none,[],rfl,rfl,λr hr=>by simp at hr,by simp,zero_le _⟩
 subst hρ hS'
 rw [lM]at hl
 have e2:zEV (R7 S.length (.tup (ts.map tbl)) lp w (S.length+1) none none) (S++[.lst (is.map MV.int)]++[.lst []])=.ok (.next (R7 S.length (.tup (ts.map tbl)) lp w (S.length+1) x5 x6)) (S++[.lst (is.map MV.int)]++[.lst (rs.map zK)]):=by
  unfold zEV
  simp? [zKZ (S:=S++[.lst (is.map MV.int)]++[.lst []]) (l:=S.length) (ds:=is.map MV.int) (by simp)]
  exact e
 have e3:zEW (R7 S.length (.tup (ts.map tbl)) lp w (S.length+1) x5 x6) (S++[.lst (is.map MV.int)]++[.lst (rs.map zK)])=.ok (.ret (.val (.tup (rs.map zK)))) (S++[.lst (is.map MV.int)]++[.lst (rs.map zK)]):=by
  unfold zEW
  simp? [zPG (S:=S++[.lst (is.map MV.int)]++[.lst (rs.map zK)]) (l:=S.length+1) (ds:=rs.map zK) (by simp)]
 refine⟨rs,hR,hN,hl,nU (T:=[.lst (is.map MV.int),.lst (rs.map zK)]) rfl ?_ (xX (yP λd hd=>?_)) (λl=>by simp)⟩
 ·show bS [.loc S.length,.tup (ts.map tbl),.loc lp,.int w] (S++[.lst (is.map MV.int)])=_
  unfold bS zQE
  rw [hs,zD e1,zD e2,e3]
  rw [aA]
  rfl
 ·obtain⟨r,hr,rfl⟩:=mM.mp hd
  exact yDN (hR r hr) _
theorem lst4(a b c d:MV)(S:Sto):bG [.val a,.val b,.val c,.val d] S=.ok (.new [a,b,c,d]) S:=zMD (by simp)
inductive Side where
 |isv (v:MV)|cell (k j:Nat)
def sIs:List Nat:=[105,115]
def yLM:List Nat:=[99,101,108,108]
def yA:Side->MV
 |.isv v=>.tup [.str sIs,v]
 |.cell k j=>.tup [.str yLM,.int k,.int j]
def zYF(ws:List Int):Side->Prop
 |.isv v=>Vl v
 |.cell k j=> ∃w,ws[k]? =some w/\(j:Int)<w
def zF(t:Nat):MV:=.int (t:Nat)
def ThOk(ts:List (Int×Int))(th:List Nat):Prop:=1<=th.length/\th.length<=2/\ ∀t∈th,t<ts.length
theorem yTJ{th:List Nat}{k t:Nat}(h:th[k]? =some t):atI (th.map zF) (k:Int)=some (zF t):=by
 have hl:k<th.length:=(gS0.mp h).1
 unfold atI ixN
 rw [iP (by omega),iP (by rw [lM];omega)]
 show(th.map zF)[(k:Int).toNat]? =_
 rw [toNat_natCast,getElem?_map,h]
 rfl
theorem zRG{ws:List Int}{sd:Side}(h:zYF ws sd)(n:Nat):lo n (yA sd):=by
 cases sd with
 |isv v=>exact xX (yP λe he=>by simp at he;rcases he with rfl|rfl;(exact zDZ _ _);exact Vl.lo h n)
 |cell k j=>exact xX (yP λe he=>by simp at he;rcases he with rfl|rfl|rfl<;>first |exact zDZ _ _|exact xW _ _)
theorem zTL(sd:Side)(l:Nat):yA sd≠.loc l:=by cases sd<;>(intro h;cases h)
abbrev D5(l:Nat)(th tb:MV)(lp:Nat)(x4:Option MV):Rho:=[some (.loc l),some th,some tb,some (.loc lp),x4]
theorem yFY{ts:List (Int×Int)}(hT:TOk ts){th:List Nat}(hth:ThOk ts th){l lp:Nat}{x:Int}{vs:List MV}{S:Sto}(hne:l≠lp)(hV:VOk vs)(hP:S[lp]? =some (.lst vs))(hS:S[l]? =some (.lst [.int x])):
  ∃sd x',zYF (th.map (wid ts)) sd/\zT 4 wQ [.val (.loc l),.val (.tup (th.map zF)),.val (.tup (ts.map tbl)),.val (.loc lp)] S=.ok (.val (yA sd)) (S.set l (.lst [.int x'])):=by
 have hs:zR zJJ [.loc l,.tup (th.map zF),.tup (ts.map tbl),.loc lp]=D5 l (.tup (th.map zF)) (.tup (ts.map tbl)) lp none:=rfl
 have t1:=zDR (n:=3) hS (by decide) (by decide)
 have hS1:=get_set (o':=.lst [.int (x / 3)]) hS
 have hP1:(S.set l (.lst [.int (x / 3)]))[lp]? =some (.lst vs):=by rw [bM hne];exact hP
 cases hb:decide (x % 3=0)with
 |true=>
  have t2:=zDR (n:=(vs.length:Int)) hS1 (by have:=hV.1;omega) (by have:=hV.2.1;omega)
  rw [List.set_set]at t2
  have hP2:(S.set l (.lst [.int (x / 3 / (vs.length:Int))]))[lp]? =some (.lst vs):=by rw [bM hne];exact hP
  obtain⟨v,hvv⟩:=nF (xs:=vs) (i:=x / 3 % (vs.length:Int)) (eN0 _ (by have:=hV.1;omega)) (eL _ (by have:=hV.1;omega))
  have vV:=nG hV.2.2 hvv
  refine⟨.isv v,x / 3 / (vs.length:Int),vV,zTE rfl ?_ (zRG (ws:=[]) (sd:=.isv v) vV _) (zTL _)⟩
  have e1:gM (D5 l (.tup (th.map zF)) (.tup (ts.map tbl)) lp none) S=.ok (.ret (.val (yA (.isv v)))) (S.set l (.lst [.int (x / 3 / (vs.length:Int))])):=by
   unfold gM
   simp? [t1,hb,yEX hP1,t2,zJB hP2 hvv]
   rfl
  show wQ [.loc l,.tup (th.map zF),.tup (ts.map tbl),.loc lp] S=_
  unfold wQ zJZ
  rw [hs,yW e1]
  rfl
 |false=>
  have e1:gM (D5 l (.tup (th.map zF)) (.tup (ts.map tbl)) lp none) S=.ok (.next (D5 l (.tup (th.map zF)) (.tup (ts.map tbl)) lp none)) (S.set l (.lst [.int (x / 3)])):=by
   unfold gM
   simp? [t1,hb]
   rfl
  have hp:(0:Int)<(th.length:Int):=by have:=hth.1;omega
  have hlen: ∀S,nS [.val (.tup (th.map zF))] S=.ok (.val (.int th.length)) S:=λS=>by rw [zNW,lM]
  have t2:=zDR (n:=(th.length:Int)) hS1 hp (by have:=hth.2.1;omega)
  rw [List.set_set]at t2
  have h0:0<=x / 3 % (th.length:Int):=eN0 _ (by omega)
  have h1:x / 3 % (th.length:Int)<th.length:=eL _ hp
  obtain⟨k,hk⟩:=Int.eq_ofNat_of_zero_le h0
  have hkl:k<th.length:=by omega
  have e2:zEX (D5 l (.tup (th.map zF)) (.tup (ts.map tbl)) lp none) (S.set l (.lst [.int (x / 3)]))=.ok (.next (D5 l (.tup (th.map zF)) (.tup (ts.map tbl)) lp (some (.int (k:Nat))))) (S.set l (.lst [.int (x / 3 / th.length)])):=by
   unfold zEX
   simp? [hlen,t2]
   rw [hk]
  have hgk:th[k]? =some th[k]:=gE0 hkl
  have htl:=hth.2.2 th[k] (getElem_mem hkl)
  generalize th[k]=t at hgk htl
  have hgt:ts[t]? =some ts[t]:=gE0 htl
  have hwd:=yDO hT htl
  rw [zFV hgt]at hwd
  have hS2:=get_set (o':=.lst [.int (x / 3 / th.length)]) hS
  have t3:=zDR (n:=ts[t].1) hS2 (by omega) (by omega)
  rw [List.set_set]at t3
  have g0:0<=x / 3 / th.length % ts[t].1:=eN0 _ (by omega)
  have g1:x / 3 / th.length % ts[t].1<ts[t].1:=eL _ (by omega)
  obtain⟨j,hj⟩:=Int.eq_ofNat_of_zero_le g0
  have hOk:zYF (th.map (wid ts)) (.cell k j):=⟨ts[t].1,by rw [getElem?_map,hgk];show some (wid ts t)=_;rw [zFV hgt],by omega⟩
  refine⟨.cell k j,x / 3 / th.length / ts[t].1,hOk,zTE rfl ?_ (zRG hOk _) (zTL _)⟩
  have e3:zEY (D5 l (.tup (th.map zF)) (.tup (ts.map tbl)) lp (some (.int (k:Nat)))) (S.set l (.lst [.int (x / 3 / th.length)]))=.ok (.ret (.val (yA (.cell k j)))) (S.set l (.lst [.int (x / 3 / th.length / ts[t].1)])):=by
   unfold zEY
   simp? [ix_tup (S:=S.set l (.lst [.int (x / 3 / th.length)])) (show atI (th.map zF) (k:Int)=some (.int t)from yTJ hgk),ix_tup (S:=S.set l (.lst [.int (x / 3 / th.length)])) (yLL hgt)]
   rw [show ixF (.val (tbl ts[t])) (.val (.int 0)) (S.set l (.lst [.int (x / 3 / th.length)]))=.ok (.val (.int ts[t].1)) (S.set l (.lst [.int (x / 3 / th.length)]))from rfl]
   simp? [t3]
   rw [hj]
   rfl
  show wQ [.loc l,.tup (th.map zF),.tup (ts.map tbl),.loc lp] S=_
  unfold wQ zJZ
  rw [hs,zD e1,zD e2,e3]
  rfl
structure Test where
 l:Side
 w:List Nat
 r:Side
def zYG:List (List Nat):=[[115,97,109,101],[117,110,108,105,107,101],[108,101,115,115]]
def testM(t:Test):MV:=.tup [yA t.l,.str t.w,yA t.r]
def zTM(ws:List Int)(t:Test):Prop:=zYF ws t.l/\t.w∈zYG/\zYF ws t.r
theorem zYH{ws:List Int}{t:Test}(h:zTM ws t)(n:Nat):lo n (testM t):=xX (yP λe he=>by
 simp only [mC,nM0,or_false]at he
 rcases he with rfl|rfl|rfl
 ·exact zRG h.1 n
 ·exact zDZ _ _
 ·exact zRG h.2.2 n)
abbrev T8(l:Nat)(th tb:MV)(lp lt:Nat)(x5 x6 x7:Option MV):Rho:=[some (.loc l),some th,some tb,some (.loc lp),some (.loc lt),x5,x6,x7]
theorem yIA{ts:List (Int×Int)}(hT:TOk ts){th:List Nat}(hth:ThOk ts th){l lp lt:Nat}{x:Int}{vs:List MV}{S:Sto}{x5 x6 x7:Option MV}{qs:List Test}(hne:l≠lp)(hlt:l≠lt)(hV:VOk vs)(hP:S[lp]? =some (.lst vs))(hS:S[l]? =some (.lst [.int x]))
  (hQ:S[lt]? =some (.lst (qs.map testM))) (hql:qs.length<1000): ∃(q:Test)(x':Int)(y6 y7:Option MV),zTM (th.map (wid ts)) q/\cN (T8 l (.tup (th.map zF)) (.tup (ts.map tbl)) lp lt x5 x6 x7) S=.ok (.next (T8 l (.tup (th.map zF)) (.tup (ts.map tbl)) lp lt x5 y6 y7)) ((S.set l (.lst [.int x'])).set lt (.lst ((qs++[q]).map testM))):=by
 obtain⟨sa,xa,oka,ca⟩:=yFY hT hth hne hV hP hS
 have hS1:=get_set (o':=.lst [.int xa]) hS
 have hP1:(S.set l (.lst [.int xa]))[lp]? =some (.lst vs):=by rw [bM hne];exact hP
 have e1:dR (T8 l (.tup (th.map zF)) (.tup (ts.map tbl)) lp lt x5 x6 x7) S=.ok (.next (T8 l (.tup (th.map zF)) (.tup (ts.map tbl)) lp lt x5 (some (yA sa)) x7)) (S.set l (.lst [.int xa])):=by
  unfold dR
  simp? [ca]
 obtain⟨sb,xb,okb,cb⟩:=yFY hT hth hne hV hP1 hS1
 rw [List.set_set]at cb
 have hS2:=get_set (o':=.lst [.int xb]) hS
 have e2:dS (T8 l (.tup (th.map zF)) (.tup (ts.map tbl)) lp lt x5 (some (yA sa)) x7) (S.set l (.lst [.int xa]))=.ok (.next (T8 l (.tup (th.map zF)) (.tup (ts.map tbl)) lp lt x5 (some (yA sa)) (some (yA sb)))) (S.set l (.lst [.int xb])):=by
  unfold dS
  simp? [cb]
 have t1:=zDR (n:=4) hS2 (by decide) (by decide)
 rw [List.set_set]at t1
 obtain⟨d,hd⟩:=nF (xs:=[MV.str [115,97,109,101],MV.str [117,110,108,105,107,101],MV.str [108,101,115,115],MV.str [115,97,109,101]]) (i:=xb % 4) (eN0 _ (by decide)) (eL _ (by decide))
 obtain⟨w,rfl,hw⟩: ∃w,d=.str w/\w∈zYG:=nG (P:=λd=> ∃w,d=MV.str w/\w∈zYG) (λe he=>by
  simp only [mC,nM0,or_false]at he
  rcases he with rfl|rfl|rfl|rfl<;>exact⟨_,rfl,by decide⟩) hd
 have hQ2:(S.set l (.lst [.int xb]))[lt]? =some (.lst (qs.map testM)):=by rw [bM hlt];exact hQ
 have hQ3:(S.set l (.lst [.int (xb / 4)]))[lt]? =some (.lst (qs.map testM)):=by rw [bM hlt];exact hQ
 have e3:dU (T8 l (.tup (th.map zF)) (.tup (ts.map tbl)) lp lt x5 (some (yA sa)) (some (yA sb))) (S.set l (.lst [.int xb]))=.ok (.next (T8 l (.tup (th.map zF)) (.tup (ts.map tbl)) lp lt x5 (some (yA sa)) (some (yA sb)))) ((S.set l (.lst [.int (xb / 4)])).set lt (.lst ((qs++[Test.mk sa w sb]).map testM))):=by
  unfold dU
  simp? [kI hQ2,lst4,t1,zSI hd,bE hQ3 (show(qs.map testM).length<1000000 by rw [lM];omega)]
  rw [map_append]
  rfl
 refine⟨⟨sa,w,sb⟩,xb / 4,some (yA sa),some (yA sb),⟨oka,hw,okb⟩,?_⟩
 unfold cN
 rw [zD e1,zD e2,e3]
theorem yAW{ts:List (Int×Int)}(hT:TOk ts){th:List Nat}(hth:ThOk ts th){l lp:Nat}{x:Int}{vs:List MV}{S:Sto}(hne:l≠lp)(hV:VOk vs)(hP:S[lp]? =some (.lst vs))(hS:S[l]? =some (.lst [.int x])):
  ∃(qs:List Test)(x':Int),1<=qs.length/\qs.length<=3/\(∀q∈qs,zTM (th.map (wid ts)) q)/\zT 4 xM [.val (.loc l),.val (.tup (th.map zF)),.val (.tup (ts.map tbl)),.val (.loc lp)] S=.ok (.val (.tup (qs.map testM))) (S.set l (.lst [.int x'])):=by
 have hl:l<S.length:=(gS0.mp hS).1
 have hlp:lp<S.length:=(gS0.mp hP).1
 have hs:zR zGV [.loc l,.tup (th.map zF),.tup (ts.map tbl),.loc lp]=[some (.loc l),some (.tup (th.map zF)),some (.tup (ts.map tbl)),some (.loc lp),none,none,none,none]:=rfl
 have e1:zCO [some (.loc l),some (.tup (th.map zF)),some (.tup (ts.map tbl)),some (.loc lp),none,none,none,none] S=.ok (.next (T8 l (.tup (th.map zF)) (.tup (ts.map tbl)) lp S.length none none none)) (S++[.lst []]):=by
  unfold zCO
  simp? [bok]
 have hSa:(S++[MO.lst []])[l]? =some (.lst [.int x]):=by rw [getElem?_append_left hl];exact hS
 have t1:=zDR (n:=4) hSa (by decide) (by decide)
 have hset: ∀(y:Int)(zs:List Test),List.set (S++[MO.lst (zs.map testM)]) l (MO.lst [.int y])=S.set l (.lst [.int y])++[.lst (zs.map testM)]:=λy zs=>set_append_left _ _ hl
 rw [show S++[MO.lst []]=S++[MO.lst (([]:List Test).map testM)]from rfl,hset]at t1
 obtain⟨m,hm⟩:=nF (xs:=[MV.int 1,MV.int 1,MV.int 2,MV.int 3]) (i:=x % 4) (eN0 _ (by decide)) (by have:=eL x (show(0:Int)<4 by decide);show x % 4<4;exact this)
 obtain⟨mi,rfl,m1,m3⟩: ∃v,m=.int v/\1<=v/\v<=3:=nG (P:=λe=> ∃v,e=.int v/\(1:Int)<=v/\v<=3) (by
  intro e he;simp only [mC,nM0,or_false]at he
  rcases he with rfl|rfl|rfl|rfl<;>exact⟨_,rfl,by decide,by decide⟩) hm
 have hlen:((List.range mi.toNat).map λk=>MV.int (k:Nat)).length=mi.toNat:=by rw [lM,length_range]
 obtain⟨ρ',S',e,x5,x6,x7,x',qs,hρ,hS',hql,hqk⟩:=zMC (L:=(List.range mi.toNat).map λk=>MV.int (k:Nat)) (gf:=gNm 5) (body:=cN) (gs:=[]) (S:=S.set l (.lst [.int (x / 4)])++[.lst (([]:List Test).map testM)]) (ρ:=T8 l (.tup (th.map zF)) (.tup (ts.map tbl)) lp S.length none none none)
  (λi ρ S'=> ∃(x5 x6 x7:Option MV)(x':Int)(qs:List Test),ρ=T8 l (.tup (th.map zF)) (.tup (ts.map tbl)) lp S.length x5 x6 x7/\S'=S.set l (.lst [.int x'])++[.lst (qs.map testM)]/\qs.length=i/\ ∀q∈qs,zTM (th.map (wid ts)) q) (λi d hi ρ S1 ⟨x5,x6,x7,x',qs,hρ,hS1,hql,hqk⟩=>by
   subst hρ hS1
   have hil:i<4:=by have:=(gS0.mp hi).1;omega
   have hLs:(S.set l (.lst [.int x'])).length=S.length:=length_set
   have a1:(S.set l (.lst [.int x'])++[MO.lst (qs.map testM)])[lp]? =some (.lst vs):=by rw [getElem?_append_left (by rw [hLs];exact hlp),bM hne];exact hP
   have a2:(S.set l (.lst [.int x'])++[MO.lst (qs.map testM)])[l]? =some (.lst [.int x']):=by rw [getElem?_append_left (by rw [hLs];exact hl)];exact get_set hS
   have a3:(S.set l (.lst [.int x'])++[MO.lst (qs.map testM)])[S.length]? =some (.lst (qs.map testM)):=by rw [<-hLs];simp
   obtain⟨q,x'',y6,y7,hq,hb⟩:=yIA hT hth (x5:=some d) (x6:=x6) (x7:=x7) (lt:=S.length) (qs:=qs) hne (by omega) hV a1 a2 a3 (by omega)
   have hfin:List.set (List.set (S.set l (.lst [.int x'])++[MO.lst (qs.map testM)]) l (MO.lst [.int x''])) S.length (MO.lst ((qs++[q]).map testM))=S.set l (.lst [.int x''])++[.lst ((qs++[q]).map testM)]:=by
    rw [set_append_left _ _ (by rw [hLs];exact hl),List.set_set]
    have hL2:(S.set l (.lst [.int x''])).length=S.length:=length_set
    rw [<-hL2]
    simp
   rw [hfin]at hb
   refine⟨T8 l (.tup (th.map zF)) (.tup (ts.map tbl)) lp S.length (some d) y6 y7,_,?_,wV _,some d,y6,y7,x'',qs++[q],rfl,rfl,by rw [lA,hql];rfl,?_⟩
   ·rw [show gNm 5 d (T8 l (.tup (th.map zF)) (.tup (ts.map tbl)) lp S.length x5 x6 x7) (S.set l (.lst [.int x'])++[MO.lst (qs.map testM)])=.ok (T8 l (.tup (th.map zF)) (.tup (ts.map tbl)) lp S.length (some d) x6 x7) (S.set l (.lst [.int x'])++[MO.lst (qs.map testM)])from rfl,bok,hb]
   ·intro z hz
    rw [mem_append,mS]at hz
    rcases hz with hz|rfl
    ·exact hqk z hz
    ·exact hq) ⟨none,none,none,x / 4,[],rfl,rfl,rfl,λp hp=>by simp at hp⟩
 subst hρ hS'
 rw [hlen]at hql
 have e2:zCP (T8 l (.tup (th.map zF)) (.tup (ts.map tbl)) lp S.length none none none) (S++[MO.lst []])=.ok (.next (T8 l (.tup (th.map zF)) (.tup (ts.map tbl)) lp S.length x5 x6 x7)) (S.set l (.lst [.int x'])++[.lst (qs.map testM)]):=by
  unfold zCP
  rw [show S++[MO.lst []]=S++[MO.lst (([]:List Test).map testM)]from rfl]
  simp? [lst4,t1,zSI hm]
  rw [zAI (by omega),bok]
  exact e
 have hLs:(S.set l (.lst [.int x'])).length=S.length:=length_set
 have e3:zCQ (T8 l (.tup (th.map zF)) (.tup (ts.map tbl)) lp S.length x5 x6 x7) (S.set l (.lst [.int x'])++[.lst (qs.map testM)])=.ok (.ret (.val (.tup (qs.map testM)))) (S.set l (.lst [.int x'])++[.lst (qs.map testM)]):=by
  unfold zCQ
  simp? [zPG (S:=S.set l (.lst [.int x'])++[.lst (qs.map testM)]) (l:=S.length) (ds:=qs.map testM) (by rw [<-hLs];simp)]
 refine⟨qs,x',by omega,by omega,hqk,yHW (T:=[.lst (qs.map testM)]) rfl ?_ (xX (yP λd hd=>?_)) (λl=>by simp)⟩
 ·show xM [.loc l,.tup (th.map zF),.tup (ts.map tbl),.loc lp] S=_
  unfold xM zNV
  rw [hs,zD e1,zD e2,e3]
  rfl
 ·obtain⟨q,hq,rfl⟩:=mM.mp hd
  exact zYH (hqk q hq) _
inductive Rule where
 |never (t:Nat) (qs:List Test)|apart (t u:Nat) (qs:List Test)|tie (t:Nat) (cs:List Nat) (u:Nat) (ds:List Nat)
def bN:List Nat:=[110,101,118,101,114]
def nA:List Nat:=[97,112,97,114,116]
def zLJ:List Nat:=[116,105,101]
def zM:Rule->MV
 |.never t qs=>.tup [.str bN,.int (t:Nat),.tup (qs.map testM)]
 |.apart t u qs=>.tup [.str nA,.int (t:Nat),.int (u:Nat),.tup (qs.map testM)]
 |.tie t cs u ds=>.tup [.str zLJ,.int (t:Nat),.tup (cs.map zF),.int (u:Nat),.tup (ds.map zF)]
def dA(ts:List (Int×Int)):Rule->Prop
 |.never t qs=>t<ts.length/\1<=qs.length/\qs.length<=3/\ ∀q∈qs,zTM [wid ts t] q
 |.apart t u qs=>t<ts.length/\u<ts.length/\1<=qs.length/\qs.length<=3/\ ∀q∈qs,zTM [wid ts t,wid ts u] q
 |.tie t cs u ds=>t<ts.length/\u<ts.length/\1<=cs.length/\cs.length<=3/\ds.length=cs.length/\(∀c∈cs,(c:Int)<wid ts t)/\ ∀d∈ds,(d:Int)<wid ts u
theorem zRH{ts:List (Int×Int)}{r:Rule}(h:dA ts r)(n:Nat):lo n (zM r):=by
 have nm: ∀(cs:List Nat),lo n (.tup (cs.map zF)):=λcs=>xX (yP λe he=>by
  obtain⟨c,_,rfl⟩:=mM.mp he
  exact xW _ _)
 cases r with
 |never t qs=>
  refine xX (yP λe he=>?_)
  simp only [mC,nM0,or_false]at he
  rcases he with rfl|rfl|rfl
  ·exact zDZ _ _
  ·exact xW _ _
  ·exact xX (yP λe he=>by obtain⟨q,hq,rfl⟩:=mM.mp he;exact zYH (h.2.2.2 q hq) n)
 |apart t u qs=>
  refine xX (yP λe he=>?_)
  simp only [mC,nM0,or_false]at he
  rcases he with rfl|rfl|rfl|rfl
  ·exact zDZ _ _
  ·exact xW _ _
  ·exact xW _ _
  ·exact xX (yP λe he=>by obtain⟨q,hq,rfl⟩:=mM.mp he;exact zYH (h.2.2.2.2 q hq) n)
 |tie t cs u ds=>
  refine xX (yP λe he=>?_)
  simp only [mC,nM0,or_false]at he
  rcases he with rfl|rfl|rfl|rfl|rfl
  ·exact zDZ _ _
  ·exact xW _ _
  ·exact nm cs
  ·exact xW _ _
  ·exact nm ds
theorem yDP(r:Rule)(l:Nat):zM r≠.loc l:=by cases r<;>(intro h;cases h)
abbrev U9(c:MV)(tb:MV)(lp l:Nat)(k t u:Option MV)(x7 x8 x9:Option MV):Rho:=[some c,some tb,some (.loc lp),some (.loc l),k,t,u,x7,x8,x9]
theorem tup1(a:MV)(S:Sto):kM [.val a] S=.ok (.val (.tup [a])) S:=zJC (by simp)
theorem tup4(a b c d:MV)(S:Sto):kM [.val a,.val b,.val c,.val d] S=.ok (.val (.tup [a,b,c,d])) S:=zJC (by simp)
theorem tup5(a b c d e:MV)(S:Sto):kM [.val a,.val b,.val c,.val d,.val e] S=.ok (.val (.tup [a,b,c,d,e])) S:=zJC (by simp)
theorem yFZ{ts:List (Int×Int)}(hT:TOk ts){t:Nat}(ht:t<ts.length){ef:AX}{ρb:Rho}{S:Sto}{x:Int}{mi:Int}
  (hef: ∀(d:MV)(y:Int),ef (ρb.set 0 (some d)) (SN S y)=zT 2 zL [.val (.loc S.length),.val (.int (wid ts t))] (SN S y)): ∃(cs:List Nat)(x':Int),xC (gNm 0) (λρ S=>(R.ok true S)) ef ρb [] ((List.range mi.toNat).map λk=>MV.int (k:Nat)) (SN S x)=.ok (cs.map zF) (SN S x')/\cs.length=mi.toNat/\ ∀c∈cs,(c:Int)<wid ts t:=by
 have hw:=yDO hT ht
 obtain⟨out,S',e,⟨x',rfl⟩,hl,hp⟩:=zRE (gf:=gNm 0) (cf:=λρ S=>(R.ok true S)) (ef:=ef) (ρb:=ρb) (gs:=[]) (P:=λy=> ∃c:Nat,y=zF c/\(c:Int)<wid ts t) (I:=λS'=> ∃y,S'=SN S y) (ds:=(List.range mi.toNat).map λk=>MV.int (k:Nat)) (S:=SN S x) (λd hd S1 ⟨y,hy⟩=>by
  subst hy
  have h0:0<=y % wid ts t:=eN0 _ (by omega)
  have h1:y % wid ts t<wid ts t:=eL _ (by omega)
  obtain⟨c,hc⟩:=Int.eq_ofNat_of_zero_le h0
  refine⟨ρb.set 0 (some d),.int (y % wid ts t),SN S (y / wid ts t),rfl,rfl,?_,⟨c,by rw [hc];rfl,by omega⟩,⟨_,rfl⟩,wV _⟩
  rw [hef,zHP S y (by omega) (by omega)]) ⟨x,rfl⟩
 have: ∀(o:List MV),(∀y∈o, ∃c:Nat,y=zF c/\(c:Int)<wid ts t)-> ∃cs:List Nat,o=cs.map zF/\ ∀c∈cs,(c:Int)<wid ts t:=by
  intro o
  induction o with
  |nil=>exact λ_=>⟨[],rfl,λc hc=>by simp at hc⟩
  |cons a o ih=>
   intro h
   obtain⟨c,rfl,hc⟩:=h a mF0
   obtain⟨cs,rfl,hcs⟩:=ih λy hy=>h y (mO _ hy)
   exact⟨c::cs,rfl,λd hd=>(mC.mp hd).elim (λe=>e▸hc) (hcs d)⟩
 obtain⟨cs,rfl,hcs⟩:=this out hp
 exact⟨cs,x',e,by rw [lM,lM,length_range]at hl;exact hl,hcs⟩
theorem yPJ{ts:List (Int×Int)}(hT:TOk ts)(c:Int){lp:Nat}{vs:List MV}{S:Sto}(hV:VOk vs)(hP:S[lp]? =some (.lst vs)):
  ∃r,dA ts r/\zT 3 wR [.val (.int c),.val (.tup (ts.map tbl)),.val (.loc lp)] S=.ok (.val (zM r)) S:=by
 obtain⟨n,hn⟩:=zNX c 4 ⟨by decide,by decide⟩ S
 have hlp:lp<S.length:=(gS0.mp hP).1
 have hne:S.length≠lp:=by omega
 have hPn: ∀x,(SN S x)[lp]? =some (.lst vs):=λx=>by rw [getElem?_append_left hlp];exact hP
 have hp:0<ts.length:=hT.1
 have hl4:=hT.2.1
 have hlen: ∀S,nS [.val (.tup (ts.map tbl))] S=.ok (.val (.int ts.length)) S:=λS=>by rw [zNW,lM]
 have fin: ∀(r:Rule)(x:Int),dA ts r->wR [.int c,.tup (ts.map tbl),.loc lp] S=.ok (.val (zM r)) (SN S x)-> ∃r,dA ts r/\zT 3 wR [.val (.int c),.val (.tup (ts.map tbl)),.val (.loc lp)] S=.ok (.val (zM r)) S:=
  λr x hr h=>⟨r,hr,nU (T:=[.lst [.int x]]) rfl h (zRH hr _) (yDP r)⟩
 have hs:zR nW [.int c,.tup (ts.map tbl),.loc lp]=[some (.int c),some (.tup (ts.map tbl)),some (.loc lp),none,none,none,none,none,none,none]:=rfl
 have e1:zEZ [some (.int c),some (.tup (ts.map tbl)),some (.loc lp),none,none,none,none,none,none,none] S=.ok (.next (U9 (.int c) (.tup (ts.map tbl)) lp S.length none none none none none none)) (SN S n):=by
  unfold zEZ
  simp? [hn]
 have e2:zFA (U9 (.int c) (.tup (ts.map tbl)) lp S.length none none none none none none) (SN S n)=.ok (.next (U9 (.int c) (.tup (ts.map tbl)) lp S.length (some (.int (n % 3))) none none none none none)) (SN S (n / 3)):=by
  unfold zFA
  simp? [zHP S n (n:=3) (by decide) (by decide)]
 obtain⟨t,ht,htl⟩:=zGJ (n / 3) hp
 have e3:zFB (U9 (.int c) (.tup (ts.map tbl)) lp S.length (some (.int (n % 3))) none none none none none) (SN S (n / 3))=.ok (.next (U9 (.int c) (.tup (ts.map tbl)) lp S.length (some (.int (n % 3))) (some (.int (t:Nat))) none none none none)) (SN S (n / 3 / ts.length)):=by
  unfold zFB
  simp? [hlen,zHP S (n / 3) (n:=(ts.length:Int)) (by omega) (by omega)]
  rw [ht]
 obtain⟨u,hu,hul⟩:=zGJ (n / 3 / ts.length) hp
 have e4:zFC (U9 (.int c) (.tup (ts.map tbl)) lp S.length (some (.int (n % 3))) (some (.int (t:Nat))) none none none none) (SN S (n / 3 / ts.length))=.ok (.next (U9 (.int c) (.tup (ts.map tbl)) lp S.length (some (.int (n % 3))) (some (.int (t:Nat))) (some (.int (u:Nat))) none none none)) (SN S (n / 3 / ts.length / ts.length)):=by
  unfold zFC
  simp? [hlen,zHP S (n / 3 / ts.length) (n:=(ts.length:Int)) (by omega) (by omega)]
  rw [hu]
 generalize n / 3 / ts.length / ts.length=x4 at e4
 cases hb:decide (n % 3=0)with
 |true=>
  obtain⟨qs,x',q1,q2,q3,hc⟩:=yAW hT (th:=[t]) ⟨by simp,by simp,λz hz=>by rw [mS.mp hz];exact htl⟩ hne hV (hPn x4) (yFV S x4)
  rw [zYD]at hc
  have e5:gN (U9 (.int c) (.tup (ts.map tbl)) lp S.length (some (.int (n % 3))) (some (.int (t:Nat))) (some (.int (u:Nat))) none none none) (SN S x4)=.ok (.ret (.val (zM (.never t qs)))) (SN S x'):=by
   unfold gN
   have hc':zT 4 xM [.val (.loc S.length),.val (.tup [.int (t:Nat)]),.val (.tup (ts.map tbl)),.val (.loc lp)] (SN S x4)=.ok (.val (.tup (qs.map testM))) (SN S x'):=hc
   simp? [hb,tup1,hc']
   rfl
  refine fin (.never t qs) x' ⟨htl,q1,q2,q3⟩ ?_
  unfold wR zDM
  rw [hs,zD e1,zD e2,zD e3,zD e4,yW e5]
  rfl
 |false=>
  have e5:gN (U9 (.int c) (.tup (ts.map tbl)) lp S.length (some (.int (n % 3))) (some (.int (t:Nat))) (some (.int (u:Nat))) none none none) (SN S x4)=.ok (.next (U9 (.int c) (.tup (ts.map tbl)) lp S.length (some (.int (n % 3))) (some (.int (t:Nat))) (some (.int (u:Nat))) none none none)) (SN S x4):=by
   unfold gN
   simp? [hb]
   rfl
  cases hb2:decide (n % 3=1)with
  |true=>
   obtain⟨qs,x',q1,q2,q3,hc⟩:=yAW hT (th:=[t,u]) ⟨by simp,by simp,λz hz=>by simp at hz;rcases hz with rfl|rfl;(exact htl);exact hul⟩ hne hV (hPn x4) (yFV S x4)
   rw [zYD]at hc
   have e6:gO (U9 (.int c) (.tup (ts.map tbl)) lp S.length (some (.int (n % 3))) (some (.int (t:Nat))) (some (.int (u:Nat))) none none none) (SN S x4)=.ok (.ret (.val (zM (.apart t u qs)))) (SN S x'):=by
    unfold gO
    have hc':zT 4 xM [.val (.loc S.length),.val (.tup [.int (t:Nat),.int (u:Nat)]),.val (.tup (ts.map tbl)),.val (.loc lp)] (SN S x4)=.ok (.val (.tup (qs.map testM))) (SN S x'):=hc
    simp? [hb2,tup4,hc']
    rfl
   refine fin (.apart t u qs) x' ⟨htl,hul,q1,q2,q3⟩ ?_
   unfold wR zDM
   rw [hs,zD e1,zD e2,zD e3,zD e4,zD e5,yW e6]
   rfl
  |false=>
   have e6:gO (U9 (.int c) (.tup (ts.map tbl)) lp S.length (some (.int (n % 3))) (some (.int (t:Nat))) (some (.int (u:Nat))) none none none) (SN S x4)=.ok (.next (U9 (.int c) (.tup (ts.map tbl)) lp S.length (some (.int (n % 3))) (some (.int (t:Nat))) (some (.int (u:Nat))) none none none)) (SN S x4):=by
    unfold gO
    simp? [hb2]
    rfl
   obtain⟨m,hm⟩:=nF (xs:=[MV.int 1,MV.int 2,MV.int 1,MV.int 3,MV.int 1]) (i:=x4 % 5) (eN0 _ (by decide)) (by have:=eL x4 (show(0:Int)<5 by decide);show x4 % 5<5;exact this)
   obtain⟨mi,rfl,m1,m3⟩: ∃v,m=.int v/\1<=v/\v<=3:=nG (P:=λe=> ∃v,e=.int v/\(1:Int)<=v/\v<=3) (by
    intro e he;simp only [mC,nM0,or_false]at he
    rcases he with rfl|rfl|rfl|rfl|rfl<;>exact⟨_,rfl,by decide,by decide⟩) hm
   have e7:zFD (U9 (.int c) (.tup (ts.map tbl)) lp S.length (some (.int (n % 3))) (some (.int (t:Nat))) (some (.int (u:Nat))) none none none) (SN S x4)=.ok (.next (U9 (.int c) (.tup (ts.map tbl)) lp S.length (some (.int (n % 3))) (some (.int (t:Nat))) (some (.int (u:Nat))) (some (.int mi)) none none)) (SN S (x4 / 5)):=by
    unfold zFD
    simp? [lst5,zHP S x4 (n:=5) (by decide) (by decide),zSI hm]
   obtain⟨cs,x8,hcs,hcl,hcw⟩:=yFZ hT htl (ef:=gZ) (ρb:=[none,some (.tup (ts.map tbl)),some (.loc S.length),some (.int (t:Nat))]) (S:=S) (x:=x4 / 5) (mi:=mi) (λd y=>by
    obtain⟨e,i1,i2⟩:=zYE htl (SN S y)
    show gZ [some d,some (.tup (ts.map tbl)),some (.loc S.length),some (.int (t:Nat))] (SN S y)=_
    unfold gZ
    simp? [i1,i2])
   have hll:((List.range mi.toNat).map λk=>MV.int (k:Nat)).length<1000000:=by rw [lM,length_range];omega
   have e8:zFE (U9 (.int c) (.tup (ts.map tbl)) lp S.length (some (.int (n % 3))) (some (.int (t:Nat))) (some (.int (u:Nat))) (some (.int mi)) none none) (SN S (x4 / 5))=.ok (.next (U9 (.int c) (.tup (ts.map tbl)) lp S.length (some (.int (n % 3))) (some (.int (t:Nat))) (some (.int (u:Nat))) (some (.int mi)) (some (.tup (cs.map zF))) none)) (SN S x8):=by
    unfold zFE
    simp? [zAI (S:=SN S (x4 / 5)) (show -(2 ^ 62)<=mi/\mi<2 ^ 62 by omega)]
    rw [iP hll]
    rw [show blk 1 [1,3,5] (U9 (.int c) (.tup (ts.map tbl)) lp S.length (some (.int (n % 3))) (some (.int (t:Nat))) (some (.int (u:Nat))) (some (.int mi)) none none)=[none,some (.tup (ts.map tbl)),some (.loc S.length),some (.int (t:Nat))]from rfl]
    rw [show zIM=(λρ S=>(R.ok true S))from rfl,hcs]
    rfl
   obtain⟨ds,x9,hds,hdl,hdw⟩:=yFZ hT hul (ef:=bA) (ρb:=[none,some (.tup (ts.map tbl)),some (.loc S.length),some (.int (u:Nat))]) (S:=S) (x:=x8) (mi:=mi) (λd y=>by
    obtain⟨e,i1,i2⟩:=zYE hul (SN S y)
    show bA [some d,some (.tup (ts.map tbl)),some (.loc S.length),some (.int (u:Nat))] (SN S y)=_
    unfold bA
    simp? [i1,i2])
   have e9:zFF (U9 (.int c) (.tup (ts.map tbl)) lp S.length (some (.int (n % 3))) (some (.int (t:Nat))) (some (.int (u:Nat))) (some (.int mi)) (some (.tup (cs.map zF))) none) (SN S x8)=.ok (.next (U9 (.int c) (.tup (ts.map tbl)) lp S.length (some (.int (n % 3))) (some (.int (t:Nat))) (some (.int (u:Nat))) (some (.int mi)) (some (.tup (cs.map zF))) (some (.tup (ds.map zF))))) (SN S x9):=by
    unfold zFF
    simp? [zAI (S:=SN S x8) (show -(2 ^ 62)<=mi/\mi<2 ^ 62 by omega)]
    rw [iP hll]
    rw [show blk 1 [1,3,6] (U9 (.int c) (.tup (ts.map tbl)) lp S.length (some (.int (n % 3))) (some (.int (t:Nat))) (some (.int (u:Nat))) (some (.int mi)) (some (.tup (cs.map zF))) none)=[none,some (.tup (ts.map tbl)),some (.loc S.length),some (.int (u:Nat))]from rfl]
    rw [show zIN=(λρ S=>(R.ok true S))from rfl,hds]
    rfl
   have e10:zCR (U9 (.int c) (.tup (ts.map tbl)) lp S.length (some (.int (n % 3))) (some (.int (t:Nat))) (some (.int (u:Nat))) (some (.int mi)) (some (.tup (cs.map zF))) (some (.tup (ds.map zF)))) (SN S x9)=.ok (.ret (.val (zM (.tie t cs u ds)))) (SN S x9):=by
    unfold zCR
    simp? [tup5]
    rfl
   refine fin (.tie t cs u ds) x9 ⟨htl,hul,by omega,by omega,by omega,hcw,hdw⟩ ?_
   unfold wR zDM
   rw [hs,zD e1,zD e2,zD e3,zD e4,zD e5,zD e6,zD e7,zD e8,zD e9,e10]
   rfl
def jB(rs:List (Nat×List MV)):Side->MV
 |.isv v=>v
 |.cell k j=>((rs[k]?).bind λr=>r.2[j]?).getD .non
def zTN(ws:List Int)(rs:List (Nat×List MV)):Prop:= ∀(k:Nat)(w:Int),ws[k]? =some w-> ∃r:Nat×List MV,rs[k]? =some r/\(r.2.length:Int)=w/\ ∀d∈r.2,Vl d
theorem nN{α:Type}{xs:List α}{k:Nat}{x:α}(h:xs[k]? =some x):atI xs (k:Int)=some x:=by
 have hl:k<xs.length:=(gS0.mp h).1
 unfold atI ixN
 rw [iP (by omega),iP (by omega)]
 show xs[(k:Int).toNat]? =_
 rw [toNat_natCast,h]
theorem zYI{ws:List Int}{rs:List (Nat×List MV)}(hR:zTN ws rs){k j:Nat}(h:zYF ws (.cell k j)): ∃(r:Nat×List MV)(v:MV),rs[k]? =some r/\r.2[j]? =some v/\Vl v/\jB rs (.cell k j)=v:=by
 obtain⟨w,h1,h2⟩:=h
 obtain⟨r,h3,h4,h5⟩:=hR k w h1
 have hj:j<r.2.length:=by omega
 refine⟨r,r.2[j],h3,gE0 hj,h5 _ (getElem_mem hj),?_⟩
 show((rs[k]?).bind λr=>r.2[j]?).getD .non=_
 rw [h3]
 show(r.2[j]?).getD .non=_
 rw [gE0 hj]
 rfl
theorem zGK{ws:List Int}{rs:List (Nat×List MV)}(hR:zTN ws rs){sd:Side}(h:zYF ws sd):Vl (jB rs sd):=by
 cases sd with
 |isv v=>exact h
 |cell k j=>obtain⟨r,v,_,_,h3,h4⟩:=zYI hR h;rw [h4];exact h3
theorem yAX{d:MV}(h:Vl d)(l:Nat):d≠.loc l:=by
 rcases h.cases with⟨i,rfl,_⟩|⟨x,rfl,_⟩<;>simp
theorem est(x y:List Nat)(S:Sto):eqF (.val (.str x)) (.val (.str y)) S=.ok (.val (.bl (decide (x=y)))) S:=zXG (zBR _ x y)
theorem eqV{a b:MV}(ha:Vl a)(hb:Vl b)(S:Sto):eqF (.val a) (.val b) S=.ok (.val (.bl (decide (a=b)))) S:=yFU (zBP ha).1 (zBP hb).1 (by rw [(zBP ha).2];decide)
theorem neV{a b:MV}(ha:Vl a)(hb:Vl b)(S:Sto):neF (.val a) (.val b) S=.ok (.val (.bl (!decide (a=b)))) S:=zJA (zGI (zX+1) (zBP ha).1 (zBP hb).1 (by rw [(zBP ha).2];exact Nat.succ_pos _))
theorem zOA{ws:List Int}{rs:List (Nat×List MV)}(hR:zTN ws rs){sd:Side}(h:zYF ws sd){m:MV}{S:Sto}(hm:SqM S m (rs.map zK)):zT 2 bZ [.val (yA sd),.val m] S=.ok (.val (jB rs sd)) S:=by
 have hv:=zGK hR h
 refine jO rfl ?_ (hv.lo _) (yAX hv)
 show yG (zGX [some (yA sd),some m] S)=_
 unfold zGX
 cases sd with
 |isv v=>
  have e1:jE [some (yA (.isv v)),some m] S=.ok (.ret (.val v)) S:=by
   unfold jE
   simp? [ix_tup (S:=S) (ds:=[.str sIs,v]) (i:=0) rfl,ix_tup (S:=S) (ds:=[.str sIs,v]) (i:=1) rfl,est]
   rfl
  rw [yW e1]
  rfl
 |cell k j=>
  obtain⟨r,v,h1,h2,h3,h4⟩:=zYI hR h
  have e1:jE [some (yA (.cell k j)),some m] S=.ok (.next [some (yA (.cell k j)),some m]) S:=by
   unfold jE
   simp? [ix_tup (S:=S) (ds:=[.str yLM,.int k,.int j]) (i:=0) rfl,est]
   rfl
  have hk:atI (rs.map zK) (k:Int)=some (zK r):=nN (by rw [getElem?_map,h1];rfl)
  have e2:zCH [some (yA (.cell k j)),some m] S=.ok (.ret (.val v)) S:=by
   unfold zCH
   simp? [show ixF (.val (yA (.cell k j))) (.val (.int 1)) S=.ok (.val (.int (k:Nat))) S from ix_tup rfl,show ixF (.val (yA (.cell k j))) (.val (.int 2)) S=.ok (.val (.int (j:Nat))) S from ix_tup rfl,hm.ix hk,show ixF (.val (zK r)) (.val (.int 1)) S=.ok (.val (.tup r.2)) S from ix_tup rfl,ix_tup (S:=S) (nN h2)]
  rw [zD e1,e2,h4]
  rfl
theorem zOB{ws:List Int}{rs:List (Nat×List MV)}(hR:zTN ws rs){sd:Side}(h:zYF ws sd){m:MV}{S:Sto}(hm:SqM S m (rs.map zK)):zT 2 cO [.val (yA sd),.val m] S=.ok (.val (jB rs sd)) S:=by
 have hv:=zGK hR h
 refine jO rfl ?_ (hv.lo _) (yAX hv)
 show yG (zHL [some (yA sd),some m] S)=_
 unfold zHL
 cases sd with
 |isv v=>
  have e1:jH [some (yA (.isv v)),some m] S=.ok (.ret (.val v)) S:=by
   unfold jH
   simp? [ix_tup (S:=S) (ds:=[.str sIs,v]) (i:=0) rfl,ix_tup (S:=S) (ds:=[.str sIs,v]) (i:=1) rfl,est]
   rfl
  rw [yW e1]
  rfl
 |cell k j=>
  obtain⟨r,v,h1,h2,h3,h4⟩:=zYI hR h
  have e1:jH [some (yA (.cell k j)),some m] S=.ok (.next [some (yA (.cell k j)),some m]) S:=by
   unfold jH
   simp? [ix_tup (S:=S) (ds:=[.str yLM,.int k,.int j]) (i:=0) rfl,est]
   rfl
  have hk:atI (rs.map zK) (k:Int)=some (zK r):=nN (by rw [getElem?_map,h1];rfl)
  have e2:zCS [some (yA (.cell k j)),some m] S=.ok (.ret (.val v)) S:=by
   unfold zCS
   simp? [show ixF (.val (yA (.cell k j))) (.val (.int 1)) S=.ok (.val (.int (k:Nat))) S from ix_tup rfl,show ixF (.val (yA (.cell k j))) (.val (.int 2)) S=.ok (.val (.int (j:Nat))) S from ix_tup rfl,hm.ix hk,show ixF (.val (zK r)) (.val (.int 1)) S=.ok (.val (.tup r.2)) S from ix_tup rfl,ix_tup (S:=S) (nN h2)]
  rw [zD e1,e2,h4]
  rfl
def ltV:MV->MV->Bool
 |.int i,.int j=>decide (i<j)
 |_,_=>false
def zWD:List Nat:=[115,97,109,101]
def zOC:List Nat:=[117,110,108,105,107,101]
noncomputable def xZ(rs:List (Nat×List MV))(q:Test):Bool:=if q.w=zWD then decide (jB rs q.l=jB rs q.r)else if q.w=zOC then !decide (jB rs q.l=jB rs q.r)else ltV (jB rs q.l) (jB rs q.r)
theorem yTK(i:Int)(S:Sto):zAH [.val (.int i),.val (.typ "int")] S=.ok (.val (.bl true)) S:=rfl
theorem yTL(i:Int)(S:Sto):zAH [.val (.int i),.val (.typ "bool")] S=.ok (.val (.bl false)) S:=rfl
theorem yTM(i:List Nat)(S:Sto):zAH [.val (.str i),.val (.typ "int")] S=.ok (.val (.bl false)) S:=rfl
theorem zRI{n:Nat}{F:List MV->Sto->R Er}{rs:List Er}{S T:Sto}{b:Bool}(hn:rs.length=n)(hF:F (zW rs S).1 (zW rs S).2=.ok (.val (.bl b)) (S++T)):zT n F rs S=.ok (.val (.bl b)) S:=nU hn hF (yQC _ _) (λl=>by simp)
theorem wA{n:Nat}{F:List MV->Sto->R Er}{rs:List Er}{S:Sto}{b:Bool}(hn:rs.length=n)(hF:F (zW rs S).1 (zW rs S).2=.ok (.val (.bl b)) S):zT n F rs S=.ok (.val (.bl b)) S:=jO hn hF (yQC _ _) (λl=>by simp)
theorem yGA{d:MV}(h:Vl d)(S:Sto):zT 1 zCG [.val d] S=.ok (.val (.bl (match d with |.int _=>true|_=>false))) S:=wA rfl (by
 rcases h.cases with⟨i,rfl,_⟩|⟨x,rfl,_⟩
 ·show yG (zCF [some (.int i)] S)=_
  unfold zCF zGW
  simp? [yTK,yTL,zRV]
  rfl
 ·show yG (zCF [some (.str x)] S)=_
  unfold zCF zGW
  simp? [yTM,zRV]
  rfl)
theorem yIB{ws:List Int}{rs:List (Nat×List MV)}(hR:zTN ws rs){q:Test}(h:zTM ws q){m:MV}{S:Sto}(hm:SqM S m (rs.map zK)):zT 2 zLB [.val m,.val (testM q)] S=.ok (.val (.bl (xZ rs q))) S:=wA rfl (by
 have ha:=zGK hR h.1
 have hb:=zGK hR h.2.2
 have t0: ∀S,ixF (.val (testM q)) (.val (.int 0)) S=.ok (.val (yA q.l)) S:=λS=>ix_tup rfl
 have t1: ∀S,ixF (.val (testM q)) (.val (.int 1)) S=.ok (.val (.str q.w)) S:=λS=>ix_tup rfl
 have t2: ∀S,ixF (.val (testM q)) (.val (.int 2)) S=.ok (.val (yA q.r)) S:=λS=>ix_tup rfl
 show yG (zPE [some m,some (testM q),none,none] S)=_
 have e1:zJL [some m,some (testM q),none,none] S=.ok (.next [some m,some (testM q),some (jB rs q.l),none]) S:=by
  unfold zJL
  simp? [t0,zOA hR h.1 hm]
 have e2:zJM [some m,some (testM q),some (jB rs q.l),none] S=.ok (.next [some m,some (testM q),some (jB rs q.l),some (jB rs q.r)]) S:=by
  unfold zJM
  simp? [t2,zOA hR h.2.2 hm]
 unfold xZ
 generalize jB rs q.l=a at ha e1 e2
 generalize jB rs q.r=b at hb e2
 have e3:zJN [some m,some (testM q),some a,some b] S=if decide (q.w=zWD)=true then .ok (.ret (.val (.bl (decide (a=b))))) S else .ok (.next [some m,some (testM q),some a,some b]) S:=by
  unfold zJN
  simp? [t1,est,eqV ha hb]
  rfl
 have e4:zJO [some m,some (testM q),some a,some b] S=if decide (q.w=zOC)=true then .ok (.ret (.val (.bl (!decide (a=b))))) S else .ok (.next [some m,some (testM q),some a,some b]) S:=by
  unfold zJO
  simp? [t1,est,neV ha hb]
  rfl
 have e5:zJP [some m,some (testM q),some a,some b] S=.ok (.ret (.val (.bl (ltV a b)))) S:=by
  unfold zJP
  rcases ha.cases with⟨i,rfl,_⟩|⟨x,rfl,_⟩<;>rcases hb.cases with⟨j,rfl,_⟩|⟨y,rfl,_⟩<;>(simp? [yGA ha,yGA hb,zRV,lt_int];rfl)
 unfold zPE
 rw [zD e1,zD e2]
 by_cases h1:q.w=zWD
 ·rw [dT0 h1,iP rfl]at e3
  rw [yW e3,iP h1]
  rfl
 ·rw [dF0 h1,iN xF0]at e3
  rw [zD e3,iN h1]
  by_cases h2:q.w=zOC
  ·rw [dT0 h2,iP rfl]at e4
   rw [yW e4,iP h2]
   rfl
  ·rw [dF0 h2,iN xF0]at e4
   rw [zD e4,iN h2,e5]
   rfl)
theorem nB{α:Type}{f g:α->MV}{S:Sto}{gf:MV->Rho->Sto->R Rho}{cf:AZ}{ef:AX}{ρb:Rho}{gs:List (Nat×List MV)}(hs:stay gs S):
  ∀{ds:List α},(∀d∈ds, ∃ρ1,gf (f d) ρb S=.ok ρ1 S/\cf ρ1 S=.ok true S/\ef ρ1 S=.ok (.val (g d)) S)->xC gf cf ef ρb gs (ds.map f) S=.ok (ds.map g) S
 |[],_=>rfl
 |d::ds,st=>by
  obtain⟨ρ1,h1,h2,h3⟩:=st d mF0
  have e:=nB hs (f:=f) (g:=g) (ds:=ds) λd hd=>st d (mO _ hd)
  rw [map_cons]
  unfold xC
  rw [h1,yU,bok,h2,yU,bok,iP rfl,h3,yU,bok]
  unfold zAE
  rw [bok,iP hs,e]
  rfl
theorem yPK{α:Type}(f:α->Bool)(xs:List α)(S:Sto):allF [.new (xs.map λx=>.bl (f x))] S=.ok (.val (.bl (xs.all f))) S:=by
 have h: ∀xs:List α,zNM (xs.map λx=>.bl (f x))=some (xs.map f):=by
  intro xs
  induction xs with
  |nil=>rfl
  |cons x xs ih=>rw [map_cons,map_cons];unfold zNM;rw [ih];rfl
 show(match (some (xs.map λx=>MV.bl (f x))).bind zNM with |some bs=>R.ok (Er.val (.bl (bs.all id))) S|none=>.no)=_
 rw [show(some (xs.map λx=>MV.bl (f x))).bind zNM=some (xs.map f)from h xs]
 show R.ok (Er.val (.bl ((xs.map f).all id))) S=_
 rw [all_map]
 rfl
theorem jQ(ds:List MV)(S:Sto):itT (.val (.tup ds)) S=.ok ⟨ds,[]⟩ S:=rfl
theorem yQF{ws:List Int}{rs:List (Nat×List MV)}(hR:zTN ws rs){qs:List Test}(hl:qs.length<=3)(h: ∀q∈qs,zTM ws q)(S:Sto):zT 2 xO [.new (rs.map zK),.val (.tup (qs.map testM))] S=.ok (.val (.bl (qs.all (xZ rs)))) S:=zRI (T:=[.lst (rs.map zK)]) rfl (by
 show yG (zEC [some (.loc S.length),some (.tup (qs.map testM))] (S++[.lst (rs.map zK)]))=_
 have hm:SqM (S++[.lst (rs.map zK)]) (.loc S.length) (rs.map zK):=.inr ⟨_,rfl,by simp⟩
 have hc:xC (gNm 0) zDJ cA [none,some (.loc S.length)] [] (qs.map testM) (S++[.lst (rs.map zK)])=.ok (qs.map λq=>.bl (xZ rs q)) (S++[.lst (rs.map zK)]):=nB (wV _) λq hq=>⟨[some (testM q),some (.loc S.length)],rfl,rfl,by
  unfold cA
  simp? [yIB hR (h q hq) hm]⟩
 unfold zEC zIH
 simp? [jQ,show((qs.map testM).length<1000000)=True from eq_true (by rw [lM];omega),show blk 1 [0] [some (.loc S.length),some (.tup (qs.map testM))]=[none,some (.loc S.length)]from rfl,hc,yPK]
 rfl)
theorem ge_int(i j:Int)(S:Sto):geF (.val (.int i)) (.val (.int j)) S=.ok (.val (.bl (decide (j<=i)))) S:=rfl
abbrev H7(ts rw:MV)(a b c d e:Option MV):Rho:=[some ts,some rw,a,b,c,d,e]
theorem yIC{ws:List Int}{rs:List (Nat×List MV)}(hR:zTN ws rs){q:Test}(h:zTM ws q){ts m:MV}{S:Sto}(hm:SqM S m (rs.map zK)){d e:Option MV}: ∃d' e',nK (H7 ts m (some (yA q.l)) (some (.str q.w)) (some (yA q.r)) d e) S=if xZ rs q=true then .ok (.next (H7 ts m (some (yA q.l)) (some (.str q.w)) (some (yA q.r)) d' e')) S else .ok (.ret (.val (.bl false))) S:=by
 have ha:=zGK hR h.1
 have hb:=zGK hR h.2.2
 have e1:zAX (H7 ts m (some (yA q.l)) (some (.str q.w)) (some (yA q.r)) d e) S=.ok (.next (H7 ts m (some (yA q.l)) (some (.str q.w)) (some (yA q.r)) (some (jB rs q.l)) e)) S:=by
  unfold zAX
  simp? [zOB hR h.1 hm]
 have e2:zAY (H7 ts m (some (yA q.l)) (some (.str q.w)) (some (yA q.r)) (some (jB rs q.l)) e) S=.ok (.next (H7 ts m (some (yA q.l)) (some (.str q.w)) (some (yA q.r)) (some (jB rs q.l)) (some (jB rs q.r)))) S:=by
  unfold zAY
  simp? [zOB hR h.2.2 hm]
 refine⟨some (jB rs q.l),some (jB rs q.r),?_⟩
 unfold nK
 rw [zD e1,zD e2]
 unfold xZ
 generalize jB rs q.l=a at ha
 generalize jB rs q.r=b at hb
 have hw:=h.2.1
 generalize q.w=w at hw
 simp only [zYG,mC,nM0,or_false]at hw
 have e3:zAZ (H7 ts m (some (yA q.l)) (some (.str w)) (some (yA q.r)) (some a) (some b)) S=if((decide (w=[115,97,109,101])&& !decide (a=b)) || (decide (w=[117,110,108,105,107,101])&&decide (a=b)))=true then .ok (.ret (.val (.bl false))) S else .ok (.next (H7 ts m (some (yA q.l)) (some (.str w)) (some (yA q.r)) (some a) (some b))) S:=by
  unfold zAZ
  simp? [est,neV ha hb,eqV ha hb]
  cases decide (w=[115,97,109,101])<;>cases decide (w=[117,110,108,105,107,101])<;>cases decide (a=b)<;>rfl
 have e4:zBA (H7 ts m (some (yA q.l)) (some (.str w)) (some (yA q.r)) (some a) (some b)) S=if(decide (w=[108,101,115,115])&& !ltV a b)=true then .ok (.ret (.val (.bl false))) S else .ok (.next (H7 ts m (some (yA q.l)) (some (.str w)) (some (yA q.r)) (some a) (some b))) S:=by
  unfold zBA
  cases hd:decide (w=[108,101,115,115])with
  |false=>simp? [est,hd];rfl
  |true=>
   rcases ha.cases with⟨i,rfl,_⟩|⟨x,rfl,_⟩<;>rcases hb.cases with⟨j,rfl,_⟩|⟨y,rfl,_⟩
   ·simp? [est,hd,ge_int,fT0,iF]
    by_cases z:i<j
    ·rw [dF0 (show¬j<=i by omega),show ltV (.int i) (.int j)=true from dT0 z];rfl
    ·rw [dT0 (show j<=i by omega),show ltV (.int i) (.int j)=false from dF0 z];rfl
   all_goals (simp? [est,hd,fT0,iF];rfl)
 rcases hw with rfl|rfl|rfl
 ·rw [iP (show [115,97,109,101]=zWD from rfl)]
  cases hd:decide (a=b)with
  |true=>
   rw [hd]at e3
   rw [zD e3,e4];rfl
  |false=>
   rw [hd]at e3
   rw [yW e3];rfl
 ·rw [iN (show¬[117,110,108,105,107,101]=zWD by decide),iP (show [117,110,108,105,107,101]=zOC from rfl)]
  cases hd:decide (a=b)with
  |false=>
   rw [hd]at e3
   rw [zD e3,e4];rfl
  |true=>
   rw [hd]at e3
   rw [yW e3];rfl
 ·rw [iN (show¬[108,101,115,115]=zWD by decide),iN (show¬[108,101,115,115]=zOC by decide)]
  rw [zD e3,e4]
  cases ltV a b<;>rfl
theorem zWE{ws:List Int}{rs:List (Nat×List MV)}(hR:zTN ws rs){ts m:MV}{S:Sto}(hm:SqM S m (rs.map zK)): ∀(qs:List Test)(a b c d e:Option MV),(∀q∈qs,zTM ws q)-> ∃ρ,zCC (gTp 3 (zV (gNm 2) (zV (gNm 3) (zV (gNm 4) wY)))) nK [] (qs.map testM) (H7 ts m a b c d e) S=if qs.all (xZ rs)=true then .ok (.next ρ) S else .ok (.ret (.val (.bl false))) S
 |[],a,b,c,d,e,_=>⟨_,rfl⟩
 |q::qs,a,b,c,d,e,h=>by
  obtain⟨d',e',ht⟩:=yIC hR (h q mF0) (ts:=ts) hm (d:=d) (e:=e)
  have hg:gTp 3 (zV (gNm 2) (zV (gNm 3) (zV (gNm 4) wY))) (testM q) (H7 ts m a b c d e) S=.ok (H7 ts m (some (yA q.l)) (some (.str q.w)) (some (yA q.r)) d e) S:=rfl
  cases hq:xZ rs q with
  |true=>
   rw [hq,iP rfl]at ht
   obtain⟨ρ,hl⟩:=zWE hR hm (ts:=ts) qs (some (yA q.l)) (some (.str q.w)) (some (yA q.r)) d' e' λz hz=>h z (mO _ hz)
   refine⟨ρ,?_⟩
   rw [map_cons,zGD hg ht (wV S),hl,all_cons,hq,Bool.true_and]
  |false=>
   rw [hq,iN xF0]at ht
   refine⟨H7 ts m a b c d e,?_⟩
   rw [map_cons,zNN hg ht,all_cons,hq,Bool.false_and,iN xF0]
theorem yLN{ws:List Int}{rs:List (Nat×List MV)}(hR:zTN ws rs){qs:List Test}(h: ∀q∈qs,zTM ws q)(S:Sto):zT 2 kD [.val (.tup (qs.map testM)),.val (.tup (rs.map zK))] S=.ok (.val (.bl (qs.all (xZ rs)))) S:=wA rfl (by
 obtain⟨ρ,hl⟩:=zWE hR (S:=S) (ts:=.tup (qs.map testM)) (m:=.tup (rs.map zK)) (.inl rfl) qs none none none none none h
 show yG (zKA (H7 (.tup (qs.map testM)) (.tup (rs.map zK)) none none none none none) S)=_
 have e1:zFO (H7 (.tup (qs.map testM)) (.tup (rs.map zK)) none none none none none) S=if qs.all (xZ rs)=true then .ok (.next ρ) S else .ok (.ret (.val (.bl false))) S:=by
  unfold zFO
  simp? [jQ]
  exact hl
 unfold zKA
 cases hq:qs.all (xZ rs)with
 |true=>rw [hq,iP rfl]at e1;rw [zD e1];rfl
 |false=>rw [hq,iN xF0]at e1;rw [yW e1];rfl)
theorem rs1{ts:List (Int×Int)}{a:Nat×List MV}(h:ROk ts a){t:Nat}(e:a.1=t):zTN [wid ts t] [a]:=λk w hk=>by
 obtain⟨p,h1,h2,h3⟩:=h
 match k,hk with
 |0,hk=>
  cases hk
  subst e
  exact⟨a,rfl,by rw [zFV h1];exact h2,h3⟩
theorem rs2{ts:List (Int×Int)}{a b:Nat×List MV}(ha:ROk ts a)(hb:ROk ts b){t u:Nat}(ea:a.1=t)(eb:b.1=u):zTN [wid ts t,wid ts u] [a,b]:=λk w hk=>by
 obtain⟨p,h1,h2,h3⟩:=ha
 obtain⟨q,g1,g2,g3⟩:=hb
 match k,hk with
 |0,hk=>
  cases hk
  subst ea
  exact⟨a,rfl,by rw [zFV h1];exact h2,h3⟩
 |1,hk=>
  cases hk
  subst eb
  exact⟨b,rfl,by rw [zFV g1];exact g2,g3⟩
abbrev ob(c:Str)(d:MV):MV:=.obj c ["parts"] [d]
theorem zKE(a:Nat×List MV)(S:Sto):ixF (.val (zK a)) (.val (.int 0)) S=.ok (.val (.int (a.1:Nat))) S:=ix_tup rfl
theorem row1(a:Nat×List MV)(S:Sto):ixF (.val (zK a)) (.val (.int 1)) S=.ok (.val (.tup a.2)) S:=ix_tup rfl
theorem fN(d:MV)(S:Sto):zDF OCS "parts" (.val (ob "Never" d)) S=.ok (.val d) S:=rfl
theorem fA(d:MV)(S:Sto):zDF OCS "parts" (.val (ob "Apart" d)) S=.ok (.val d) S:=rfl
theorem fT(d:MV)(S:Sto):zDF OCS "parts" (.val (ob "Tie" d)) S=.ok (.val d) S:=rfl
abbrev yID(m:Str)(n:Nat)(tM:List (Str×(List MV->Sto->R Er)))(G:List MV->Sto->R Er)(d rl:MV)(xs:List Er)(b:Bool)(S:Sto):Prop:=
 ∃F,yAM m tM (.val d)=some F/\zT n F (.val d::xs) S=.ok (.val (.bl b)) S/\zT n G (.val rl::xs) S=.ok (.val (.bl b)) S
theorem yDQ{ts:List (Int×Int)}{t:Nat}{qs:List Test}(h:dA ts (.never t qs)){a:Nat×List MV}(ha:ROk ts a)(S:Sto):yID "bars" 2 zDL kU (ob "Never" (zM (.never t qs))) (zM (.never t qs)) [.val (zK a)] (decide ((a.1:Int)=t)&&qs.all (xZ [a])) S:=by
 have r0: ∀S,ixF (.val (zM (.never t qs))) (.val (.int 0)) S=.ok (.val (.str bN)) S:=λS=>ix_tup rfl
 have r1: ∀S,ixF (.val (zM (.never t qs))) (.val (.int 1)) S=.ok (.val (.int (t:Nat))) S:=λS=>ix_tup rfl
 have r2: ∀S,ixF (.val (zM (.never t qs))) (.val (.int 2)) S=.ok (.val (.tup (qs.map testM))) S:=λS=>ix_tup rfl
 refine⟨zGY,rfl,wA rfl ?_,wA rfl ?_⟩
 ·show yG (wP [some (ob "Never" (zM (.never t qs))),some (zK a)] S)=_
  unfold wP zJR
  cases hd:decide ((a.1:Int)=t)with
  |false=>simp? [zKE,fN,r1,hd,zRV];rfl
  |true=>
   have e:a.1=t:=by have:=of_decide_eq_true hd;omega
   have hc:zT 2 xO [.new [zK a],.val (.tup (qs.map testM))] S=.ok (.val (.bl (qs.all (xZ [a])))) S:=yQF (rs:=[a]) (rs1 ha e) h.2.2.1 h.2.2.2 S
   simp? [zKE,fN,r1,hd,zRV,r2,hc]
   rfl
 ·show yG (gP [some (zM (.never t qs)),some (zK a)] S)=_
  unfold gP zBB
  cases hd:decide ((a.1:Int)=t)with
  |false=>simp? [zKE,r0,r1,est,hd,zRV];rfl
  |true=>
   have e:a.1=t:=by have:=of_decide_eq_true hd;omega
   have hc:zT 2 kD [.val (.tup (qs.map testM)),.val (.tup [zK a])] S=.ok (.val (.bl (qs.all (xZ [a])))) S:=yLN (rs:=[a]) (rs1 ha e) h.2.2.2 S
   simp? [zKE,r0,r1,r2,est,hd,zRV,tup1,hc]
   rfl
theorem yGB{x:List Nat}{more:List MV}{c:Str}(hs:yAM "bars" zDL (.val (ob c (.tup (.str x::more))))=some bP){rl:MV}(hrl: ∃y ms,rl=.tup (.str y::ms)/\y≠bN)(a:MV)(S:Sto):yID "bars" 2 zDL kU (ob c (.tup (.str x::more))) rl [.val a] false S:=by
 obtain⟨y,ms,rfl,hy⟩:=hrl
 refine⟨bP,hs,wA rfl rfl,wA rfl ?_⟩
 show yG (gP [some (.tup (.str y::ms)),some a] S)=_
 unfold gP zBB
 simp? [ix_tup (S:=S) (ds:=.str y::ms) (i:=0) (d:=.str y) (nN (k:=0) rfl),est,show decide (y=[110,101,118,101,114])=false from dF0 hy,zRV]
 rfl
theorem yGC{ts:List (Int×Int)}{t u:Nat}{qs:List Test}(h:dA ts (.apart t u qs)){a b:Nat×List MV}(ha:ROk ts a)(hb:ROk ts b)(S:Sto):zT 3 wC [.val (ob "Apart" (zM (.apart t u qs))),.val (zK a),.val (zK b)] S=.ok (.val (.bl (decide ((a.1:Int)=t)&&decide ((b.1:Int)=u)&&qs.all (xZ [a,b])))) S:=wA rfl (by
 have r1: ∀S,ixF (.val (zM (.apart t u qs))) (.val (.int 1)) S=.ok (.val (.int (t:Nat))) S:=λS=>ix_tup rfl
 have r2: ∀S,ixF (.val (zM (.apart t u qs))) (.val (.int 2)) S=.ok (.val (.int (u:Nat))) S:=λS=>ix_tup rfl
 have r3: ∀S,ixF (.val (zM (.apart t u qs))) (.val (.int 3)) S=.ok (.val (.tup (qs.map testM))) S:=λS=>ix_tup rfl
 show yG (yB [some (ob "Apart" (zM (.apart t u qs))),some (zK a),some (zK b)] S)=_
 have e1:kA [some (ob "Apart" (zM (.apart t u qs))),some (zK a),some (zK b)] S=if(decide ((a.1:Int)=t)&&decide ((b.1:Int)=u))=true then .ok (.next [some (ob "Apart" (zM (.apart t u qs))),some (zK a),some (zK b)]) S else .ok (.ret (.val (.bl false))) S:=by
  unfold kA
  cases hd:decide ((a.1:Int)=t)<;>cases hd2:decide ((b.1:Int)=u)<;>(simp? [zKE,fA,r1,r2,ne_int,hd,hd2];rfl)
 unfold yB
 cases hd:(decide ((a.1:Int)=t)&&decide ((b.1:Int)=u))with
 |false=>rw [hd,iN xF0]at e1;rw [yW e1];rfl
 |true=>
  rw [hd,iP rfl]at e1
  rw [zD e1]
  rw [aE,decide_eq_true_eq,decide_eq_true_eq]at hd
  have hc:zT 2 xO [.new [zK a,zK b],.val (.tup (qs.map testM))] S=.ok (.val (.bl (qs.all (xZ [a,b])))) S:=yQF (rs:=[a,b]) (rs2 ha hb (by omega) (by omega)) h.2.2.2.1 h.2.2.2.2 S
  unfold bQ
  simp? [fA,r3,hc]
  rfl)
theorem yAY{ts:List (Int×Int)}{t u:Nat}{qs:List Test}(h:dA ts (.apart t u qs)){a b:Nat×List MV}(ha:ROk ts a)(hb:ROk ts b)(S:Sto):yID "parts_them" 3 xR kW (ob "Apart" (zM (.apart t u qs))) (zM (.apart t u qs)) [.val (zK a),.val (zK b)] ((decide ((a.1:Int)=t)&&decide ((b.1:Int)=u)&&qs.all (xZ [a,b])) || (decide ((b.1:Int)=t)&&decide ((a.1:Int)=u)&&qs.all (xZ [b,a]))) S:=by
 have r0: ∀S,ixF (.val (zM (.apart t u qs))) (.val (.int 0)) S=.ok (.val (.str nA)) S:=λS=>ix_tup rfl
 have r1: ∀S,ixF (.val (zM (.apart t u qs))) (.val (.int 1)) S=.ok (.val (.int (t:Nat))) S:=λS=>ix_tup rfl
 have r2: ∀S,ixF (.val (zM (.apart t u qs))) (.val (.int 2)) S=.ok (.val (.int (u:Nat))) S:=λS=>ix_tup rfl
 have r3: ∀S,ixF (.val (zM (.apart t u qs))) (.val (.int 3)) S=.ok (.val (.tup (qs.map testM))) S:=λS=>ix_tup rfl
 refine⟨bH,rfl,wA rfl ?_,wA rfl ?_⟩
 ·show yG (yO [some (ob "Apart" (zM (.apart t u qs))),some (zK a),some (zK b)] S)=_
  unfold yO nX
  have hs:yAM "parts_in_turn" xT (.val (ob "Apart" (zM (.apart t u qs))))=some wC:=rfl
  cases hx:(decide ((a.1:Int)=t)&&decide ((b.1:Int)=u)&&qs.all (xZ [a,b]))<;>(simp? [hs,yGC h ha hb,yGC h hb ha,hx,orF];rfl)
 ·show yG (gQ [some (zM (.apart t u qs)),some (zK a),some (zK b),none,none] S)=_
  have e1:kO [some (zM (.apart t u qs)),some (zK a),some (zK b),none,none] S=.ok (.next [some (zM (.apart t u qs)),some (zK a),some (zK b),none,none]) S:=by
   unfold kO
   simp? [r0,zJA (S:=S) (zBR _ nA [97,112,97,114,116])]
   rfl
  have turn: ∀{c d:Nat×List MV}{p q:MV},ROk ts c->ROk ts d->zBC [some (zM (.apart t u qs)),some p,some q,some (zK c),some (zK d)] S=if(decide ((c.1:Int)=t)&&decide ((d.1:Int)=u)&&qs.all (xZ [c,d]))=true then .ok (.ret (.val (.bl true))) S else .ok (.next [some (zM (.apart t u qs)),some p,some q,some (zK c),some (zK d)]) S:=λ{c d p q} hc hd=>by
   unfold zBC zDN
   cases h1:decide ((c.1:Int)=t)with
   |false=>simp? [zKE,r1,h1];rfl
   |true=>
    cases h2:decide ((d.1:Int)=u)with
    |false=>simp? [zKE,r1,r2,h1,h2];rfl
    |true=>
     rw [decide_eq_true_eq]at h1 h2
     have hcl:zT 2 kD [.val (.tup (qs.map testM)),.val (.tup [zK c,zK d])] S=.ok (.val (.bl (qs.all (xZ [c,d])))) S:=yLN (rs:=[c,d]) (rs2 hc hd (by omega) (by omega)) h.2.2.2.2 S
     simp? [zKE,r1,r2,r3,dT0 h1,dT0 h2,hcl]
     cases qs.all (xZ [c,d])<;>rfl
  have g: ∀(c d:Nat×List MV)(p q:MV)(x y:Option MV),gTp 2 (zV (gNm 3) (zV (gNm 4) wY)) (.tup [zK c,zK d]) [some (zM (.apart t u qs)),some p,some q,x,y] S=.ok [some (zM (.apart t u qs)),some p,some q,some (zK c),some (zK d)] S:=λc d p q x y=>rfl
  have e2:zBD [some (zM (.apart t u qs)),some (zK a),some (zK b),none,none] S=if((decide ((a.1:Int)=t)&&decide ((b.1:Int)=u)&&qs.all (xZ [a,b])) || (decide ((b.1:Int)=t)&&decide ((a.1:Int)=u)&&qs.all (xZ [b,a])))=true then .ok (.ret (.val (.bl true))) S else .ok (.next [some (zM (.apart t u qs)),some (zK a),some (zK b),some (zK b),some (zK a)]) S:=by
   have t1:=turn (p:=zK a) (q:=zK b) ha hb
   have t2:=turn (p:=zK a) (q:=zK b) hb ha
   unfold zBD
   simp? [show∀ds S,itL (.new ds) S=.ok ⟨ds,[]⟩ S from λ_ _=>rfl]
   cases hx:(decide ((a.1:Int)=t)&&decide ((b.1:Int)=u)&&qs.all (xZ [a,b]))with
   |true=>rw [hx,iP rfl]at t1;rw [zNN (g a b _ _ none none) t1];rfl
   |false=>
    rw [hx,iN xF0]at t1
    rw [zGD (g a b _ _ none none) t1 (wV S)]
    cases hy:(decide ((b.1:Int)=t)&&decide ((a.1:Int)=u)&&qs.all (xZ [b,a]))with
    |true=>rw [hy,iP rfl]at t2;rw [zNN (g b a _ _ _ _) t2];rfl
    |false=>rw [hy,iN xF0]at t2;rw [zGD (g b a _ _ _ _) t2 (wV S)];rfl
  unfold gQ
  rw [zD e1]
  cases hx:((decide ((a.1:Int)=t)&&decide ((b.1:Int)=u)&&qs.all (xZ [a,b])) || (decide ((b.1:Int)=t)&&decide ((a.1:Int)=u)&&qs.all (xZ [b,a])))with
  |true=>rw [hx,iP rfl]at e2;rw [yW e2];rfl
  |false=>rw [hx,iN xF0]at e2;rw [zD e2];rfl
theorem yAZ{x:List Nat}{more:List MV}{c:Str}(hs:yAM "parts_them" xR (.val (ob c (.tup (.str x::more))))=some xK){rl:MV}(hrl: ∃y ms,rl=.tup (.str y::ms)/\y≠nA)(a b:MV)(S:Sto):yID "parts_them" 3 xR kW (ob c (.tup (.str x::more))) rl [.val a,.val b] false S:=by
 obtain⟨y,ms,rfl,hy⟩:=hrl
 refine⟨xK,hs,wA rfl rfl,wA rfl ?_⟩
 show yG (gQ [some (.tup (.str y::ms)),some a,some b,none,none] S)=_
 have e1:kO [some (.tup (.str y::ms)),some a,some b,none,none] S=.ok (.ret (.val (.bl false))) S:=by
  unfold kO
  simp? [ix_tup (S:=S) (ds:=.str y::ms) (i:=0) (d:=.str y) (nN (k:=0) rfl),zJA (S:=S) (zBR _ y [97,112,97,114,116]),show decide (y=[97,112,97,114,116])=false from dF0 hy]
  rfl
 unfold gQ
 rw [yW e1]
 rfl
theorem yBA{S:Sto}{l:Nat}{xs ys:List MV}(hS:S[l]? =some (.lst ys))(hx: ∀d∈xs,Vl d)(hy: ∀d∈ys,Vl d):eqF (.new xs) (.val (.loc l)) S=.ok (.val (.bl (decide (xs=ys)))) S:=by
 have hv:vwE S (.val (.loc l))=some (.ls ys):=by
  show(gC S (.val (.loc l))).map Vw.ls=_
  rw [jC hS];rfl
 have e:zOU S zX (.new xs) (.val (.loc l))=some (decide (xs=ys)):=by
  unfold zOU
  rw [hv,show vwE S (.new xs)=some (.ls xs)from rfl]
  show eqW (eqv S zX) (.ls xs) (.ls ys)=_
  obtain⟨bs,h1,h2⟩:=zNY (e:=eqv S zX) (ds:=xs) (es:=ys) λa ha b hb=>zGI zX (zBP (hx a ha)).1 (zBP (hy b hb)).1 (by rw [(zBP (hx a ha)).2];decide)
  rw [zXB]
  by_cases hl:xs.length=ys.length
  ·rw [iP hl,h1]
   show some (bs.all id)=_
   rw [<-h2,hl]
   simp
  ·rw [iN hl,dF0 λz=>hl (by rw [z])]
 unfold eqF
 rw [e]
def yF(a:Nat×List MV)(cs:List Nat):List MV:=cs.map λc=>(a.2[c]?).getD .non
theorem yGD{a:Nat×List MV}(hv: ∀d∈a.2,Vl d){c:Nat}(h:c<a.2.length):atI a.2 (c:Int)=some ((a.2[c]?).getD .non)/\Vl ((a.2[c]?).getD .non):=by
 have e:=gE0 h
 rw [e]
 exact⟨nN e,hv _ (getElem_mem h)⟩
theorem zOD{a:Nat×List MV}(hv: ∀d∈a.2,Vl d){cs:List Nat}(h: ∀c∈cs,c<a.2.length): ∀d∈yF a cs,Vl d:=λd hd=>by
 obtain⟨c,hc,rfl⟩:=mM.mp hd
 exact(yGD hv (h c hc)).2
theorem zMS{a:Nat×List MV}(hv: ∀d∈a.2,Vl d){cs:List Nat}(h: ∀c∈cs,c<a.2.length)(S:Sto){cf:AZ}{ef:AX}(hcf:cf=λ_ S=>.ok true S)(hef: ∀(c:Nat),ef [some (zF c),some (zK a)] S=ixF (.val (.tup a.2)) (.val (zF c)) S):xC (gNm 0) cf ef [none,some (zK a)] [] (cs.map zF) S=.ok (yF a cs) S:=nB (wV S) λc hc=>⟨[some (zF c),some (zK a)],rfl,by rw [hcf],by rw [hef];exact ix_tup (yGD hv (h c hc)).1⟩
theorem yGE{a:Nat×List MV}(hv: ∀d∈a.2,Vl d){cs:List Nat}(hl:cs.length<=3)(h: ∀c∈cs,c<a.2.length)(S:Sto):zT 2 zCJ [.val (zK a),.val (.tup (cs.map zF))] S=.ok (.new (yF a cs)) S:=zCE (T:=[]) rfl (by
 show yG (zMG [some (zK a),some (.tup (cs.map zF))] S)=_
 have hc:=zMS hv h S (cf:=zJQ) (ef:=zCI) rfl λc=>by
  unfold zCI
  simp? [row1]
 unfold zMG zNR
 simp? [jQ,show((cs.map zF).length<1000000)=True from eq_true (by rw [lM];omega),show blk 1 [0] [some (zK a),some (.tup (cs.map zF))]=[none,some (zK a)]from rfl,hc]
 rw [aN]
 rfl) (yP λd hd=>(zOD hv h d hd).lo _)
theorem zMT{α:Type}{f:α->MV}{p:α->Bool}{S:Sto}{gf:MV->Rho->Sto->R Rho}{cf:AZ}{ef:AX}{ρb:Rho}{gs:List (Nat×List MV)}(hs:stay gs S):
  ∀{ds:List α},(∀d∈ds, ∃ρ1,gf (f d) ρb S=.ok ρ1 S/\cf ρ1 S=.ok (p d) S/\ef ρ1 S=.ok (.val (f d)) S)->xC gf cf ef ρb gs (ds.map f) S=.ok ((ds.filter p).map f) S
 |[],_=>rfl
 |d::ds,st=>by
  obtain⟨ρ1,h1,h2,h3⟩:=st d mF0
  have e:=zMT hs (f:=f) (p:=p) (ds:=ds) λd hd=>st d (mO _ hd)
  rw [map_cons]
  unfold xC
  cases hp:p d with
  |true=>
   rw [h1,yU,bok,h2,yU,bok,hp,iP rfl,h3,yU,bok]
   unfold zAE
   rw [bok,iP hs,e,filter_cons_of_pos hp]
   rfl
  |false=>
   rw [h1,yU,bok,h2,yU,bok,hp,iN xF0,iP hs,e,filter_cons_of_neg (by rw [hp];exact xF0)]
theorem yPL(ds:List MV)(S:Sto):eqF (.new ds) (.new []) S=.ok (.val (.bl ds.isEmpty)) S:=by
 cases ds<;>rfl
section
variable{ts:List (Int×Int)}{t u:Nat}{cs ds:List Nat}
theorem zTO(h:dA ts (.tie t cs u ds)){a:Nat×List MV}(ha:ROk ts a):(a.1=t-> ∀c∈cs,c<a.2.length)/\(a.1=u-> ∀c∈ds,c<a.2.length):=by
 obtain⟨p,h1,h2,_⟩:=ha
 refine⟨λe c hc=>?_,λe c hc=>?_⟩
 ·have:=h.2.2.2.2.2.1 c hc
  rw [<-e,zFV h1]at this
  omega
 ·have:=h.2.2.2.2.2.2 c hc
  rw [<-e,zFV h1]at this
  omega
noncomputable def mtc(u:Nat)(ds:List Nat)(due:List MV)(o:Nat×List MV):Bool:=decide ((o.1:Int)=u)&&decide (yF o ds=due)
abbrev LkB(d rl a:MV)(l1 l2:Nat)(b:Bool)(S:Sto):Prop:=
 ∃F,yAM "lacks" zGG (.val d)=some F/\(∃T,F [d,a,.loc l1] S=.ok (.val (.bl b)) (S++T))/\zT 3 cP [.val rl,.val a,.val (.loc l2)] S=.ok (.val (.bl b)) S
abbrev K5(d a:MV)(l:Nat)(x y:Option MV):Rho:=[some d,some a,some (.loc l),x,y]
theorem yIE(h:dA ts (.tie t cs u ds)){a:Nat×List MV}(ha:ROk ts a){os:List (Nat×List MV)}(ho: ∀o∈os,ROk ts o)(hol:os.length<1000){l1 l2:Nat}{S:Sto}(hS1:S[l1]? =some (.lst (os.map zK)))(hS2:S[l2]? =some (.lst (os.map zK))):
  LkB (ob "Tie" (zM (.tie t cs u ds))) (zM (.tie t cs u ds)) (zK a) l1 l2 (decide ((a.1:Int)=t)&& !os.any (mtc u ds (yF a cs))) S:=by
 have r0: ∀S,ixF (.val (zM (.tie t cs u ds))) (.val (.int 0)) S=.ok (.val (.str zLJ)) S:=λS=>ix_tup rfl
 have r1: ∀S,ixF (.val (zM (.tie t cs u ds))) (.val (.int 1)) S=.ok (.val (.int (t:Nat))) S:=λS=>ix_tup rfl
 have r2: ∀S,ixF (.val (zM (.tie t cs u ds))) (.val (.int 2)) S=.ok (.val (.tup (cs.map zF))) S:=λS=>ix_tup rfl
 have r3: ∀S,ixF (.val (zM (.tie t cs u ds))) (.val (.int 3)) S=.ok (.val (.int (u:Nat))) S:=λS=>ix_tup rfl
 have r4: ∀S,ixF (.val (zM (.tie t cs u ds))) (.val (.int 4)) S=.ok (.val (.tup (ds.map zF))) S:=λS=>ix_tup rfl
 have hv: ∀{o:Nat×List MV},ROk ts o-> ∀d∈o.2,Vl d:=λ⟨_,_,_,z⟩=>z
 have hcl:cs.length<=3:=h.2.2.2.1
 have hdl:ds.length<=3:=by have:=h.2.2.2.2.1;omega
 have hl1:l1<S.length:=(gS0.mp hS1).1
 have hl2:l2<S.length:=(gS0.mp hS2).1
 cases hd:decide ((a.1:Int)=t)with
 |false=>
  rw [Bool.false_and]
  refine⟨zDK,rfl,⟨[],?_⟩,wA rfl ?_⟩
  ·rw [aN]
   show yG (xQ (K5 (ob "Tie" (zM (.tie t cs u ds))) (zK a) l1 none none) S)=_
   have e1:gG (K5 (ob "Tie" (zM (.tie t cs u ds))) (zK a) l1 none none) S=.ok (.ret (.val (.bl false))) S:=by
    unfold gG
    simp? [zKE,fT,r1,ne_int,hd]
    rfl
   unfold xQ
   rw [yW e1]
   rfl
  ·show yG (xY [some (zM (.tie t cs u ds)),some (zK a),some (.loc l2),none] S)=_
   have e1:xF [some (zM (.tie t cs u ds)),some (zK a),some (.loc l2),none] S=.ok (.ret (.val (.bl false))) S:=by
    unfold xF
    simp? [r0,r1,zKE,zJA (S:=S) (zBR _ zLJ [116,105,101]),ne_int,hd]
    rfl
   unfold xY
   rw [yW e1]
   rfl
 |true=>
  have ea:a.1=t:=by have:=of_decide_eq_true hd;omega
  have hca:=(zTO h ha).1 ea
  have hdue:=zOD (hv ha) hca
  have g1:(S++[MO.lst (yF a cs)])[l1]? =some (.lst (os.map zK)):=by rw [getElem?_append_left hl1];exact hS1
  have g2:(S++[MO.lst (yF a cs)])[l2]? =some (.lst (os.map zK)):=by rw [getElem?_append_left hl2];exact hS2
  have gd:(S++[MO.lst (yF a cs)])[S.length]? =some (.lst (yF a cs)):=by simp
  rw [Bool.true_and]
  refine⟨zDK,rfl,⟨[.lst (yF a cs)],?_⟩,zRI (T:=[.lst (yF a cs)]) rfl ?_⟩
  ·show yG (xQ (K5 (ob "Tie" (zM (.tie t cs u ds))) (zK a) l1 none none) S)=_
   have e1:gG (K5 (ob "Tie" (zM (.tie t cs u ds))) (zK a) l1 none none) S=.ok (.next (K5 (ob "Tie" (zM (.tie t cs u ds))) (zK a) l1 none none)) S:=by
    unfold gG
    simp? [zKE,fT,r1,ne_int,hd]
    rfl
   have e2:zED (K5 (ob "Tie" (zM (.tie t cs u ds))) (zK a) l1 none none) S=.ok (.next (K5 (ob "Tie" (zM (.tie t cs u ds))) (zK a) l1 (some (.loc S.length)) none)) (S++[.lst (yF a cs)]):=by
    unfold zED
    simp? [fT,r2,yGE (hv ha) hcl hca]
   have turn: ∀{o:Nat×List MV},ROk ts o->nI (K5 (ob "Tie" (zM (.tie t cs u ds))) (zK a) l1 (some (.loc S.length)) (some (zK o))) (S++[.lst (yF a cs)])=if mtc u ds (yF a cs) o=true then .ok (.ret (.val (.bl false))) (S++[.lst (yF a cs)])else .ok (.next (K5 (ob "Tie" (zM (.tie t cs u ds))) (zK a) l1 (some (.loc S.length)) (some (zK o)))) (S++[.lst (yF a cs)]):=λ{o} hr=>by
    unfold nI zII mtc
    cases h1:decide ((o.1:Int)=u)with
    |false=>simp? [zKE,fT,r3,h1];rfl
    |true=>
     have eo:o.1=u:=by have:=of_decide_eq_true h1;omega
     have hco:=(zTO h hr).2 eo
     simp? [zKE,fT,r3,h1,r4,yGE (hv hr) hdl hco,yBA gd (zOD (hv hr) hco) hdue]
     cases decide (yF o ds=yF a cs)<;>rfl
   have loop: ∀(l:List (Nat×List MV))(y:Option MV),(∀o∈l,ROk ts o)-> ∃ρ,zCC (gNm 4) nI [(l1,os.map zK)] (l.map zK) (K5 (ob "Tie" (zM (.tie t cs u ds))) (zK a) l1 (some (.loc S.length)) y) (S++[.lst (yF a cs)])=if l.any (mtc u ds (yF a cs))=true then .ok (.ret (.val (.bl false))) (S++[.lst (yF a cs)])else .ok (.next ρ) (S++[.lst (yF a cs)]):=by
    intro l
    induction l with
    |nil=>exact λy _=>⟨_,rfl⟩
    |cons o l ih=>
     intro y hl
     have ht:=turn (hl o mF0)
     cases ho':mtc u ds (yF a cs) o with
     |true=>
      rw [ho',iP rfl]at ht
      refine⟨[],?_⟩
      rw [map_cons,zNN rfl ht,any_cons,ho',Bool.true_or,iP rfl]
     |false=>
      rw [ho',iN xF0]at ht
      obtain⟨ρ,hρ⟩:=ih (some (zK o)) λz hz=>hl z (mO _ hz)
      refine⟨ρ,?_⟩
      rw [map_cons,zGD rfl ht (bW g1),hρ,any_cons,ho',Bool.false_or]
   obtain⟨ρ,hl⟩:=loop os none ho
   have e3:zEE (K5 (ob "Tie" (zM (.tie t cs u ds))) (zK a) l1 (some (.loc S.length)) none) (S++[.lst (yF a cs)])=if os.any (mtc u ds (yF a cs))=true then .ok (.ret (.val (.bl false))) (S++[.lst (yF a cs)])else .ok (.next ρ) (S++[.lst (yF a cs)]):=by
    unfold zEE
    simp? [zKZ g1]
    exact hl
   unfold xQ
   rw [zD e1,zD e2]
   cases hx:os.any (mtc u ds (yF a cs))with
   |true=>rw [hx,iP rfl]at e3;rw [yW e3];rfl
   |false=>rw [hx,iN xF0]at e3;rw [zD e3];rfl
  ·show yG (xY [some (zM (.tie t cs u ds)),some (zK a),some (.loc l2),none] S)=_
   have e1:xF [some (zM (.tie t cs u ds)),some (zK a),some (.loc l2),none] S=.ok (.next [some (zM (.tie t cs u ds)),some (zK a),some (.loc l2),none]) S:=by
    unfold xF
    simp? [r0,r1,zKE,zJA (S:=S) (zBR _ zLJ [116,105,101]),ne_int,hd]
    rfl
   have hc1:=zMS (hv ha) hca S (cf:=zCT) (ef:=bI) rfl λc=>by
    unfold bI
    simp? [row1]
   have e2:dW [some (zM (.tie t cs u ds)),some (zK a),some (.loc l2),none] S=.ok (.next [some (zM (.tie t cs u ds)),some (zK a),some (.loc l2),some (.loc S.length)]) (S++[.lst (yF a cs)]):=by
    unfold dW
    simp? [r2,jQ,show((cs.map zF).length<1000000)=True from eq_true (by rw [lM];omega),show blk 1 [1] [some (zM (.tie t cs u ds)),some (zK a),some (.loc l2),none]=[none,some (zK a)]from rfl,hc1]
   have hc3:xC (gNm 0) bL zCV [none,some (zM (.tie t cs u ds)),some (.loc S.length)] [(l2,os.map zK)] (os.map zK) (S++[.lst (yF a cs)])=.ok ((os.filter (mtc u ds (yF a cs))).map zK) (S++[.lst (yF a cs)]):=zMT (bW g2) λo hm=>⟨[some (zK o),some (zM (.tie t cs u ds)),some (.loc S.length)],rfl,by
    unfold bL mtc
    have hr:=ho o hm
    cases h1:decide ((o.1:Int)=u)with
    |false=>simp? [zKE,r3,h1];rfl
    |true=>
     have eo:o.1=u:=by have:=of_decide_eq_true h1;omega
     have hco:=(zTO h hr).2 eo
     have hc2:=zMS (hv hr) hco (S++[.lst (yF a cs)]) (cf:=zCU) (ef:=bK) rfl λc=>by
      unfold bK
      simp? [row1]
     simp? [zKE,r3,h1,r4,jQ,show((ds.map zF).length<1000000)=True from eq_true (by rw [lM];omega),show blk 1 [0] [some (zK o),some (zM (.tie t cs u ds)),some (.loc S.length)]=[none,some (zK o)]from rfl,hc2,yBA gd (zOD (hv hr) hco) hdue]
     cases decide (yF o ds=yF a cs)<;>rfl,rfl⟩
   have he: ∀(l:List (Nat×List MV))(p:(Nat×List MV)->Bool),((l.filter p).map zK).isEmpty= !l.any p:=λl p=>by
    induction l with
    |nil=>rfl
    |cons o l ih=>
     cases hp:p o with
     |true=>rw [filter_cons_of_pos hp,any_cons,hp];rfl
     |false=>rw [filter_cons_of_neg (by rw [hp];exact xF0),any_cons,hp,Bool.false_or];exact ih
   have e3:dX [some (zM (.tie t cs u ds)),some (zK a),some (.loc l2),some (.loc S.length)] (S++[.lst (yF a cs)])=.ok (.ret (.val (.bl (!os.any (mtc u ds (yF a cs)))))) (S++[.lst (yF a cs)]):=by
    unfold dX
    simp? [zKZ g2,show((os.map zK).length<1000000)=True from eq_true (by rw [lM];omega),show blk 1 [0,3] [some (zM (.tie t cs u ds)),some (zK a),some (.loc l2),some (.loc S.length)]=[none,some (zM (.tie t cs u ds)),some (.loc S.length)]from rfl,hc3,yPL,he]
   unfold xY
   rw [zD e1,zD e2,e3]
   rfl
end
theorem yBB{x:List Nat}{more:List MV}{c:Str}(hs:yAM "lacks" zGG (.val (ob c (.tup (.str x::more))))=some jP){rl:MV}(hrl: ∃y ms,rl=.tup (.str y::ms)/\y≠zLJ)(a:MV)(l1 l2:Nat)(S:Sto):
  LkB (ob c (.tup (.str x::more))) rl a l1 l2 false S:=by
 obtain⟨y,ms,rfl,hy⟩:=hrl
 refine⟨jP,hs,⟨[],by rw [aN];rfl⟩,wA rfl ?_⟩
 show yG (xY [some (.tup (.str y::ms)),some a,some (.loc l2),none] S)=_
 have e1:xF [some (.tup (.str y::ms)),some a,some (.loc l2),none] S=.ok (.ret (.val (.bl false))) S:=by
  unfold xF
  simp? [ix_tup (S:=S) (ds:=.str y::ms) (i:=0) (d:=.str y) (nN (k:=0) rfl),zJA (S:=S) (zBR _ y [116,105,101]),show decide (y=[116,105,101])=false from dF0 hy]
  rfl
 unfold xY
 rw [yW e1]
 rfl
theorem zDS(ns:List Int)(k:Int)(hk:0<=k)(S:Sto): ∃c,zT 2 zY [.val (.scr (ns.map MV.int)),.val (.int k)] S=.ok (.val (.int c)) S:=by
 have hlen:nS [.val (.scr (ns.map MV.int))] S=.ok (.val (.int ns.length)) S:=by
  show R.ok (Er.val (.int (((ns.map MV.int).length:Nat):Int))) S=_
  rw [lM]
 have e1:dP [some (.scr (ns.map MV.int)),some (.int k)] S=if decide (k<ns.length)=true then(ixF (.val (.scr (ns.map MV.int))) (.val (.int k)) S).bind λr S1=>.ok (.ret r) S1 else .ok (.next [some (.scr (ns.map MV.int)),some (.int k)]) S:=by
  unfold dP
  simp? [hlen,lt_int]
 have fin: ∀c,zY [.scr (ns.map MV.int),.int k] S=.ok (.val (.int c)) S-> ∃c,zT 2 zY [.val (.scr (ns.map MV.int)),.val (.int k)] S=.ok (.val (.int c)) S:=λc h=>⟨c,jO rfl h (xW _ _) (λl=>by simp)⟩
 have hs:zR ["_law_script","_law_k"] [.scr (ns.map MV.int),.int k]=[some (.scr (ns.map MV.int)),some (.int k)]:=rfl
 by_cases hlt:k<ns.length
 ·obtain⟨d,hd⟩:=nF (xs:=ns.map MV.int) (i:=k) hk (by rw [lM];exact hlt)
  obtain⟨c,rfl⟩: ∃c,d=.int c:=nG (P:=λd=> ∃c,d=.int c) (λe he=>by obtain⟨c,_,rfl⟩:=mM.mp he;exact⟨c,rfl⟩) hd
  have hix:ixF (.val (.scr (ns.map MV.int))) (.val (.int k)) S=.ok (.val (.int c)) S:=by
   show(match atI (ns.map MV.int) k with |some d=>R.ok (Er.val d) S|none=>.no)=_
   rw [hd]
  refine fin c ?_
  rw [dT0 hlt,iP rfl,hix,bok]at e1
  unfold zY zCM
  rw [hs,yW e1]
  rfl
 ·refine fin 0 ?_
  rw [dF0 hlt,iN xF0]at e1
  unfold zY zCM
  rw [hs,zD e1]
  rfl
def clsN:Rule->Str
 |.never _ _=>"Never"
 |.apart _ _ _=>"Apart"
 |.tie _ _ _ _=>"Tie"
theorem yQG{c:Str}{d:MV}{n:Nat}(h:lo n d):lo n (ob c d):=by
 unfold ob lo
 exact yP λe he=>by rw [mS.mp he];exact h
theorem made{ts:List (Int×Int)}{r:Rule}(h:dA ts r)(S:Sto):zT 1 zLC [.val (zM r)] S=.ok (.val (ob (clsN r) (zM r))) S:=by
 refine jO rfl ?_ (yQG (zRH h _)) (λl=>by simp)
 ·show yG (zGF [some (zM r)] S)=_
  cases r with
  |never t qs=>
   have r0: ∀S,ixF (.val (zM (.never t qs))) (.val (.int 0)) S=.ok (.val (.str bN)) S:=λS=>ix_tup rfl
   have e1:jF [some (zM (.never t qs))] S=.ok (.ret (.val (ob "Never" (zM (.never t qs))))) S:=by unfold jF;simp? [r0,est];rfl
   unfold zGF;rw [yW e1];rfl
  |apart t u qs=>
   have r0: ∀S,ixF (.val (zM (.apart t u qs))) (.val (.int 0)) S=.ok (.val (.str nA)) S:=λS=>ix_tup rfl
   have e1:jF [some (zM (.apart t u qs))] S=.ok (.next [some (zM (.apart t u qs))]) S:=by unfold jF;simp? [r0,est];rfl
   have e2:nY [some (zM (.apart t u qs))] S=.ok (.ret (.val (ob "Apart" (zM (.apart t u qs))))) S:=by unfold nY;simp? [r0,est];rfl
   unfold zGF;rw [zD e1,yW e2];rfl
  |tie t cs u ds=>
   have r0: ∀S,ixF (.val (zM (.tie t cs u ds))) (.val (.int 0)) S=.ok (.val (.str zLJ)) S:=λS=>ix_tup rfl
   have e1:jF [some (zM (.tie t cs u ds))] S=.ok (.next [some (zM (.tie t cs u ds))]) S:=by unfold jF;simp? [r0,est];rfl
   have e2:nY [some (zM (.tie t cs u ds))] S=.ok (.next [some (zM (.tie t cs u ds))]) S:=by unfold nY;simp? [r0,est];rfl
   unfold zGF;rw [zD e1,zD e2];rfl
theorem zRJ(ds:List MV)(a b:Option Int)(S:Sto):zGC (.val (.tup ds)) a b S=.ok (.val (.tup (wD ds a b))) S:=rfl
abbrev Row:=Nat×List MV
noncomputable def zLT:Rule->Row->Bool
 |.never t qs,a=>decide ((a.1:Int)=t)&&qs.all (xZ [a])
 |_,_=>false
def tiedV:Rule->Row->Bool
 |.tie t _ _ _,a=>decide ((a.1:Int)=t)
 |_,_=>false
noncomputable def servV:Rule->Row->Row->Bool
 |.tie _ cs u ds,a,o=>mtc u ds (yF a cs) o
 |_,_,_=>false
noncomputable def zCY(r:Rule)(a:Row)(os:List Row):Bool:=tiedV r a&& !os.any (servV r a)
abbrev obR(r:Rule):MV:=ob (clsN r) (zM r)
theorem yGF{ts:List (Int×Int)}{r:Rule}(h:dA ts r){a:Row}(ha:ROk ts a)(S:Sto):yID "bars" 2 zDL kU (obR r) (zM r) [.val (zK a)] (zLT r a) S:=by
 cases r with
 |never t qs=>exact yDQ h ha S
 |apart t u qs=>exact yGB (x:=nA) rfl ⟨nA,_,rfl,by decide⟩ (zK a) S
 |tie t cs u ds=>exact yGB (x:=zLJ) rfl ⟨zLJ,_,rfl,by decide⟩ (zK a) S
theorem yBC{ts:List (Int×Int)}{r:Rule}(h:dA ts r){a:Row}(ha:ROk ts a){os:List Row}(ho: ∀o∈os,ROk ts o)(hol:os.length<1000){l1 l2:Nat}{S:Sto}(hS1:S[l1]? =some (.lst (os.map zK)))(hS2:S[l2]? =some (.lst (os.map zK))):
  LkB (obR r) (zM r) (zK a) l1 l2 (zCY r a os) S:=by
 cases r with
 |never t qs=>exact yBB (x:=bN) rfl ⟨bN,_,rfl,by decide⟩ (zK a) l1 l2 S
 |apart t u qs=>exact yBB (x:=nA) rfl ⟨nA,_,rfl,by decide⟩ (zK a) l1 l2 S
 |tie t cs u ds=>exact yIE h ha ho hol hS1 hS2
noncomputable def zMU:Rule->Row->Row->Bool
 |.apart t u qs,a,b=>(decide ((a.1:Int)=t)&&decide ((b.1:Int)=u)&&qs.all (xZ [a,b])) || (decide ((b.1:Int)=t)&&decide ((a.1:Int)=u)&&qs.all (xZ [b,a]))
 |_,_,_=>false
theorem yBD{ts:List (Int×Int)}{r:Rule}(h:dA ts r){a b:Row}(ha:ROk ts a)(hb:ROk ts b)(S:Sto):yID "parts_them" 3 xR kW (obR r) (zM r) [.val (zK a),.val (zK b)] (zMU r a b) S:=by
 cases r with
 |never t qs=>exact yAZ (x:=bN) rfl ⟨bN,_,rfl,by decide⟩ (zK a) (zK b) S
 |apart t u qs=>exact yAY h ha hb S
 |tie t cs u ds=>exact yAZ (x:=zLJ) rfl ⟨zLJ,_,rfl,by decide⟩ (zK a) (zK b) S
theorem yLO(S:Sto)(x:Int){n:Int}(h0:0<n)(h1:n<1073741824):zT 2 zL [.new [.int x],.val (.int n)] S=.ok (.val (.int (x % n))) S:=by
 have hS:(SN S x)[S.length]? =some (.lst [.int x]):=yFV S x
 have hs:zR zDH [.loc S.length,.int n]=[some (.loc S.length),some (.int n),none]:=rfl
 have ha:atI [MV.int x] 0=some (.int x):=rfl
 have e1:gH [some (.loc S.length),some (.int n),none] (SN S x)=.ok (.next [some (.loc S.length),some (.int n),some (.int (x % n))]) (SN S x):=by
  unfold gH
  simp? [zJB hS ha,mod_lit h0]
 have e2:gI [some (.loc S.length),some (.int n),some (.int (x % n))] (SN S x)=.ok (.next [some (.loc S.length),some (.int n),some (.int (x % n))]) (SN S (x / n)):=by
  unfold gI
  simp? [zJB hS ha,zKY h0 h1,zXY,yAS hS (show ixN [MV.int x].length 0=some 0 from rfl)]
  rw [zYD]
 refine nU (T:=[.lst [.int (x / n)]]) rfl ?_ (xW _ _) (λl=>by simp)
 show zL [.loc S.length,.int n] (SN S x)=_
 unfold zL zJW
 rw [hs,zD e1,zD e2]
 rfl
def yH(ts:List (Int×Int))(rls:List Rule)(rs:List Row):MV:=.tup [.tup (ts.map tbl),.tup (rls.map zM),.tup (rs.map zK)]
theorem zOE: ∀{ts:List (Int×Int)}{o:List MV},(∀d∈o, ∃r,dA ts r/\d=zM r)-> ∃rls:List Rule,o=rls.map zM/\ ∀r∈rls,dA ts r
 |ts,[],_=>⟨[],rfl,λr h=>by simp at h⟩
 |ts,d::o,h=>by
  obtain⟨r,hr,rfl⟩:=h d mF0
  obtain⟨rls,rfl,hl⟩:=zOE (o:=o) λe he=>h e (mO _ he)
  exact⟨r::rls,rfl,λq hq=>(mC.mp hq).elim (λe=>e▸hr) (hl q)⟩
theorem yPM{ts:List (Int×Int)}{rs:List Row}(h: ∀r∈rs,ROk ts r)(n:Nat):lo n (.tup (rs.map zK)):=xX (yP λd hd=>by
 obtain⟨r,hr,rfl⟩:=mM.mp hd
 exact yDN (h r hr) _)
theorem yLP{ts:List (Int×Int)}{rls:List Rule}(h: ∀r∈rls,dA ts r)(n:Nat):lo n (.tup (rls.map zM)):=xX (yP λd hd=>by
 obtain⟨r,hr,rfl⟩:=mM.mp hd
 exact zRH (h r hr) _)
theorem yPN{ts:List (Int×Int)}{rls:List Rule}{rs:List Row}(h1: ∀r∈rls,dA ts r)(h2: ∀r∈rs,ROk ts r)(n:Nat):lo n (yH ts rls rs):=xX (yP λd hd=>by
 simp only [mC,nM0,or_false]at hd
 rcases hd with rfl|rfl|rfl
 ·exact yLI n
 ·exact yLP h1 n
 ·exact yPM h2 n)
theorem zWF(ds:List MV)(S:Sto):dM [.new ds] S=.ok (.val (.tup ds)) S:=rfl
abbrev N9(mo:Nat)(q:MV)(x3 x4 x5 x6 x7 x8:Option MV):Rho:=[some q,some (.int (mo:Nat)),some (.int 3),x3,x4,x5,x6,x7,x8]
theorem tup3(a b c:MV)(S:Sto):kM [.val a,.val b,.val c] S=.ok (.val (.tup [a,b,c])) S:=zJC (by simp)
theorem yPO(ns:List Int)(h:ns.length<=63)(mo:Nat)(hmo:mo<=60): ∃ts rls rs,TOk ts/\(∀r∈rls,dA ts r)/\(∀r∈rs,ROk ts r)/\rs.length<=120/\rls.length<=6/\
  zT 3 bT [.val (.scr (ns.map MV.int)),.val (.int (mo:Nat)),.val (.int 3)] []=.ok (.val (yH ts rls rs)) []:=by
 have hs:zR zDI [.scr (ns.map MV.int),.int (mo:Nat),.int 3]=N9 mo (.scr (ns.map MV.int)) none none none none none none:=rfl
 obtain⟨c0,h0⟩:=zDS ns 0 (by decide) []
 obtain⟨vs,hV,hp⟩:=yPH c0 []
 have e1:zFH (N9 mo (.scr (ns.map MV.int)) none none none none none none) []=.ok (.next (N9 mo (.scr (ns.map MV.int)) (some (.loc 0)) none none none none none)) [.lst vs]:=by
  unfold zFH
  simp? [h0,hp]
  rfl
 obtain⟨c1,h1⟩:=zDS ns 1 (by decide) [.lst vs]
 obtain⟨ts,hT,ht⟩:=yHY c1 [.lst vs]
 have e2:zFI (N9 mo (.scr (ns.map MV.int)) (some (.loc 0)) none none none none none) [.lst vs]=.ok (.next (N9 mo (.scr (ns.map MV.int)) (some (.loc 0)) (some (.tup (ts.map tbl))) none none none none)) [.lst vs]:=by
  unfold zFI
  simp? [h1,ht]
 obtain⟨c2,h2⟩:=zDS ns 2 (by decide) [.lst vs]
 obtain⟨t,hw⟩:=zNX c2 5 ⟨by decide,by decide⟩ [.lst vs]
 obtain⟨m,hm,hm5⟩:=zGJ t (n:=7) (by decide)
 have htk:=yLO [.lst vs] t (n:=7) (by decide) (by decide)
 rw [show((7:Nat):Int)=7 from rfl]at hm
 rw [hm]at htk
 have e3:zFJ (N9 mo (.scr (ns.map MV.int)) (some (.loc 0)) (some (.tup (ts.map tbl))) none none none none) [.lst vs]=.ok (.next (N9 mo (.scr (ns.map MV.int)) (some (.loc 0)) (some (.tup (ts.map tbl))) (some (.int (m:Nat))) none none none)) [.lst vs]:=by
  unfold zFJ
  simp? [h2,hw,lst4,zSI (S:=[.lst vs]) (ds:=[.int 2,.int 3,.int 5,.int 7]) (i:=3) (d:=.int 7) rfl,htk]
 obtain⟨out,q1,q2,q3⟩:=zZZ (gf:=gNm 0) (cf:=zIO) (ef:=zAW) (ρb:=[none,some (.scr (ns.map MV.int)),some (.loc 0),some (.tup (ts.map tbl))]) (gs:=[]) (S:=[.lst vs]) (P:=λy=> ∃r,dA ts r/\y=zM r) (wV _) (ds:=(List.range m).map λk=>MV.int (k:Nat)) (λd hd=>by
  obtain⟨k,hk,rfl⟩:=mM.mp hd
  obtain⟨c,hc⟩:=zDS ns (3+(k:Nat)) (by omega) [.lst vs]
  obtain⟨r,hr,hrc⟩:=yPJ hT c (lp:=0) (S:=[.lst vs]) hV rfl
  refine⟨[some (.int (k:Nat)),some (.scr (ns.map MV.int)),some (.loc 0),some (.tup (ts.map tbl))],zM r,rfl,rfl,?_,r,hr,rfl⟩
  unfold zAW
  simp? [hc,hrc])
 obtain⟨rls,rfl,hRl⟩:=zOE q3
 rw [lM,lM,length_range]at q2
 have e4:zFK (N9 mo (.scr (ns.map MV.int)) (some (.loc 0)) (some (.tup (ts.map tbl))) (some (.int (m:Nat))) none none none) [.lst vs]=.ok (.next (N9 mo (.scr (ns.map MV.int)) (some (.loc 0)) (some (.tup (ts.map tbl))) (some (.int (m:Nat))) (some (.tup (rls.map zM))) none none)) [.lst vs]:=by
  unfold zFK
  simp? [zAI (S:=[.lst vs]) (j:=(m:Nat)) ⟨by omega,by omega⟩,show(((List.range m).map λk=>MV.int (k:Nat)).length<1000000)=True from eq_true (by rw [lM,length_range];omega),show blk 1 [0,3,4] (N9 mo (.scr (ns.map MV.int)) (some (.loc 0)) (some (.tup (ts.map tbl))) (some (.int (m:Nat))) none none none)=[none,some (.scr (ns.map MV.int)),some (.loc 0),some (.tup (ts.map tbl))]from rfl,show((m:Nat):Int).toNat=m from rfl,q1,zWF]
 have cs: ∀(a b:Option Int)(S:Sto),zGC (.val (.scr (ns.map MV.int))) a b S=.ok (.new ((wD ns a b).map MV.int)) S:=λa b S=>by rw [<-zNP];rfl
 have cl: ∀(a b:Option Int),(wD ns a b).length<=63:=λa b=>le_trans (zSJ ns a b) h
 have e5:zFL (N9 mo (.scr (ns.map MV.int)) (some (.loc 0)) (some (.tup (ts.map tbl))) (some (.int (m:Nat))) (some (.tup (rls.map zM))) none none) [.lst vs]=.ok (.next (N9 mo (.scr (ns.map MV.int)) (some (.loc 0)) (some (.tup (ts.map tbl))) (some (.int (m:Nat))) (some (.tup (rls.map zM))) (some (.loc 1)) none)) [.lst vs,.lst ((wD ns (some (3+(m:Nat))) none).map MV.int)]:=by
  unfold zFL
  simp? [cs]
  rfl
 generalize hcc:wD ns (some (3+(m:Nat))) none=cc at e5
 have hccl:cc.length<=63:=by rw [<-hcc];exact cl _ _
 obtain⟨d2,h2'⟩:=zDS ns 2 (by decide) [.lst vs,.lst (cc.map MV.int)]
 obtain⟨n6,hn6,hm6⟩:=zTF d2 6 ⟨by decide,by decide⟩ [.lst vs,.lst (cc.map MV.int)]
 obtain⟨j,hj,hj9⟩:=zGJ n6 (n:=mo+1) (by omega)
 rw [Int.natCast_add,show((1:Nat):Int)=1 from rfl]at hj
 obtain⟨ρ',S',e6',x8,is,hρ,hS',hil⟩:=zMC (L:=(List.range j).map λk=>MV.int (k:Nat)) (gf:=gNm 8) (body:=zFG) (gs:=[]) (S:=[.lst vs,.lst (cc.map MV.int)]) (ρ:=N9 mo (.scr (ns.map MV.int)) (some (.loc 0)) (some (.tup (ts.map tbl))) (some (.int (m:Nat))) (some (.tup (rls.map zM))) (some (.loc 1)) none)
  (λi ρ S'=> ∃(x8:Option MV)(is:List Int),ρ=N9 mo (.scr (ns.map MV.int)) (some (.loc 0)) (some (.tup (ts.map tbl))) (some (.int (m:Nat))) (some (.tup (rls.map zM))) (some (.loc 1)) x8/\S'=[.lst vs,.lst (is.map MV.int)]/\is.length<=63+i) (λi d hi ρ S1 ⟨x8,is,hρ,hS1,hl⟩=>by
   subst hρ hS1
   obtain⟨k,hk,rfl⟩:=mM.mp (mem_of_getElem? hi)
   rw [mem_range]at hk
   have hi9:i<j:=by have:=(gS0.mp hi).1;rw [lM,length_range]at this;exact this
   obtain⟨c,hc⟩:=zDS ns 2 (by decide) [.lst vs,.lst (is.map MV.int)]
   obtain⟨y,_,hy⟩:=zTF c (30+(k:Nat)) ⟨by omega,by omega⟩ [.lst vs,.lst (is.map MV.int)]
   refine⟨_,_,?_,wV _,some (.int (k:Nat)),is++[1+2 * y],rfl,rfl,by rw [lA,lS];omega⟩
   rw [show gNm 8 (.int (k:Nat)) (N9 mo (.scr (ns.map MV.int)) (some (.loc 0)) (some (.tup (ts.map tbl))) (some (.int (m:Nat))) (some (.tup (rls.map zM))) (some (.loc 1)) x8) [.lst vs,.lst (is.map MV.int)]=.ok (N9 mo (.scr (ns.map MV.int)) (some (.loc 0)) (some (.tup (ts.map tbl))) (some (.int (m:Nat))) (some (.tup (rls.map zM))) (some (.loc 1)) (some (.int (k:Nat)))) [.lst vs,.lst (is.map MV.int)]from rfl,bok]
   unfold zFG zIP
   simp? [hc,hy,zSH (show -(2 ^ 64)<(2:Int)/\(2:Int)<2 ^ 64 by decide),kI (S:=[.lst vs,.lst (is.map MV.int)]) (l:=1) (ds:=is.map MV.int) rfl,bE (S:=[.lst vs,.lst (is.map MV.int)]) (l:=1) (ds:=is.map MV.int) rfl (by rw [lM];omega)]
   rw [map_append]
   rfl) ⟨none,cc,rfl,rfl,by omega⟩
 subst hρ hS'
 have e6:zFM (N9 mo (.scr (ns.map MV.int)) (some (.loc 0)) (some (.tup (ts.map tbl))) (some (.int (m:Nat))) (some (.tup (rls.map zM))) (some (.loc 1)) none) [.lst vs,.lst (cc.map MV.int)]=.ok (.next (N9 mo (.scr (ns.map MV.int)) (some (.loc 0)) (some (.tup (ts.map tbl))) (some (.int (m:Nat))) (some (.tup (rls.map zM))) (some (.loc 1)) x8)) [.lst vs,.lst (is.map MV.int)]:=by
  unfold zFM
  simp? [h2',hm6,mod_lit (show(0:Int)<(mo:Nat)+1 by omega),hj,zAI (S:=[.lst vs,.lst (cc.map MV.int)]) (j:=(j:Nat)) ⟨by omega,by omega⟩,show((j:Nat):Int).toNat=j from rfl]
  exact e6'
 have hcut:wD is none (some (2 * (mo:Nat)))=is.take (2 * mo):=by rw [<-zLE is (2 * mo),Int.natCast_mul];rfl
 obtain⟨rs,hR,_,hrl,hr⟩:=yPI hT (wD is none (some (2 * (mo:Nat)))) (by rw [hcut,lT];omega) (w:=(mo:Nat)) (lp:=0) (S:=[.lst vs,.lst (is.map MV.int)]) hV rfl
 have e7:zFN (N9 mo (.scr (ns.map MV.int)) (some (.loc 0)) (some (.tup (ts.map tbl))) (some (.int (m:Nat))) (some (.tup (rls.map zM))) (some (.loc 1)) x8) [.lst vs,.lst (is.map MV.int)]=.ok (.ret (.val (yH ts rls rs))) [.lst vs,.lst (is.map MV.int)]:=by
  rw [<-zNP]at hr
  unfold zFN
  simp? [zSH (show -(2 ^ 64)<(2:Int)/\(2:Int)<2 ^ 64 by decide),show zGC (.val (.loc 1)) none (some (2 * (mo:Nat):Int)) [.lst vs,.lst (is.map MV.int)]=.ok (.new (wD (is.map MV.int) none (some (2 * (mo:Nat))))) [.lst vs,.lst (is.map MV.int)]from rfl,hr,tup3]
  rfl
 refine⟨ts,rls,rs,hT,hRl,hR,?_,by omega,nU (T:=[.lst vs,.lst (is.map MV.int)]) rfl ?_ (yPN hRl hR _) (λl=>by simp [yH])⟩
 ·refine le_trans hrl ?_
  rw [hcut,lT];omega
 ·show bT [.scr (ns.map MV.int),.int (mo:Nat),.int 3] []=_
  unfold bT zQF
  rw [hs,zD e1,zD e2,zD e3,zD e4,zD e5,zD e6,e7]
  rfl
theorem zQG{α:Type}{le:α->α->Prop}: ∀{l1 l2:List α},l1.Perm l2->l1.Pairwise le->l2.Pairwise le->(∀a∈l1, ∀b∈l1,le a b->le b a->a=b)->l1=l2
 |[],l2,p,_,_,_=>p.nil_eq
 |a::l1,[],p,_,_,_=>by have:=p.length_eq;simp at this
 |a::l1,b::l2,p,h1,h2,u=>by
  have c1:=pairwise_cons.mp h1
  have c2:=pairwise_cons.mp h2
  have e:a=b:=by
   rcases mC.mp (p.mem_iff.mp (mF0 (a:=a) (l:=l1)))with e|m2
   ·exact e
   ·rcases mC.mp (p.mem_iff.mpr (mF0 (a:=b) (l:=l2)))with e|m1
    ·exact e.symm
    ·exact u a mF0 b (mO _ m1) (c1.1 b m1) (c2.1 a m2)
  subst e
  rw [zQG (p.cons_inv) c1.2 c2.2 λx hx y hy=>u x (mO _ hx) y (mO _ hy)]
theorem zTP{β:Type}(T:List β):(List.range T.length).filterMap (T[·]?)=T:=by
 induction T with
 |nil=>rfl
 |cons t T ih=>
  rw [lC,List.range_succ_eq_map,filterMap_cons,List.filterMap_map]
  show t::List.filterMap (λi=>(t::T)[i+1]?) (List.range T.length)=_
  simp only [List.getElem?_cons_succ]
  rw [ih]
theorem zWG: ∀{ds:List MV},(∀d∈ds,zBN d=true)->zQA ds=true
 |[],_=>by unfold zQA;rfl
 |d::ds,h=>by unfold zQA;rw [h d mF0,zWG λx hx=>h x (mO _ hx)];rfl
structure OrdB{β:Type}(f:β->MV)(lt:β->β->Bool):Prop where
 kind: ∀a,zSV (f a)
 pu: ∀a,zBN (f a)=true
 is: ∀S a b,ltv S zX (f a) (f b)=some (lt a b)
 tr: ∀a b c,lt b a=false->lt c b=false->lt c a=false
 as: ∀a b,lt a b=true->lt b a=false
 tri: ∀a b,lt a b=false->lt b a=false->a=b
section
variable{β:Type}{f:β->MV}{lt:β->β->Bool}
theorem yGG(O:OrdB f lt)(t:β): ∀{R:List β},R.Pairwise (λa b=>lt b a=false)-> ∃R':List β,R'.Perm (t::R)/\R'.Pairwise (λa b=>lt b a=false)
 |[],_=>⟨[t],.refl _,List.pairwise_singleton _ _⟩
 |a::l,hp=>by
  have c:=pairwise_cons.mp hp
  cases z:lt a t with
  |false=>
   refine⟨t::a::l,.refl _,pairwise_cons.mpr ⟨λx hx=>?_,hp⟩⟩
   rcases mC.mp hx with e|hx
   ·rw [e];exact z
   ·exact O.tr t a x z (c.1 x hx)
  |true=>
   obtain⟨R',p,q⟩:=yGG O t c.2
   refine⟨a::R',(p.cons a).trans (.swap _ _ _),pairwise_cons.mpr ⟨λx hx=>?_,q⟩⟩
   rcases mC.mp (p.mem_iff.mp hx)with e|hx
   ·rw [e];exact O.as a t z
   ·exact c.1 x hx
theorem yGH(O:OrdB f lt): ∀(T:List β), ∃R:List β,R.Perm T/\R.Pairwise (λa b=>lt b a=false)
 |[]=>⟨[],.refl _,.nil⟩
 |t::T=>by
  obtain⟨R,p,q⟩:=yGH O T
  obtain⟨R',p',q'⟩:=yGG O t q
  exact⟨R',p'.trans (p.cons t),q'⟩
theorem yGI(O:OrdB f lt){T R:List β}(pR:R.Perm T)(qR:R.Pairwise (λa b=>lt b a=false))(hl:T.length<1000000){p:Er}{S:Sto}(hp:gC S p=some (T.map f)):zSW [p] S=.ok (.new (R.map f)) S:=by
 cases hT:T with
 |nil=>
  subst hT
  have e:R=[]:=pR.eq_nil
  subst e
  refine yFR hp ⟨by simp,λd hd=>by simp at hd,λd hd=>by simp at hd,⟨λa ha=>by simp at ha,λa ha=>by simp at ha,λa ha=>by simp at ha⟩⟩ (λr' h=>?_) ⟨[],by simp,.nil,rfl⟩
  obtain⟨idx,ip,_,rfl⟩:=h
  have:=ip.length_eq
  have e2:idx=[]:=List.eq_nil_of_length_eq_zero (by simpa using this)
  rw [e2];rfl
 |cons t0 T0=>
 have mem: ∀k∈T.map f, ∃t,k=f t:=λk hk=>by
  obtain⟨t,_,h2⟩:=mM.mp hk
  exact⟨t,h2.symm⟩
 have ok:SrtS S (T.map f):=by
  refine⟨by rw [lM];exact hl,λd hd=>?_,λd hd=>?_,⟨λa ha b hb=>?_,λa ha b hb c hc h1 h2=>?_,λa ha b hb h1=>?_⟩⟩
  ·obtain⟨t,rfl⟩:=mem d hd
   exact O.pu t
  ·obtain⟨t,rfl⟩:=mem d hd
   exact O.kind t
  ·obtain⟨t,rfl⟩:=mem a ha
   obtain⟨u,rfl⟩:=mem b hb
   exact⟨_,O.is S t u⟩
  ·obtain⟨t,rfl⟩:=mem a ha
   obtain⟨u,rfl⟩:=mem b hb
   obtain⟨v,rfl⟩:=mem c hc
   rw [O.is]at h1 h2 ⊢
   rw [O.tr t u v (Option.some.inj h1) (Option.some.inj h2)]
  ·obtain⟨t,rfl⟩:=mem a ha
   obtain⟨u,rfl⟩:=mem b hb
   rw [O.is]at h1 ⊢
   rw [O.as t u (Option.some.inj h1)]
 refine yFR hp ok (λr' h=>?_) ?_
 ·obtain⟨idx,p',q',rfl⟩:=h
  rw [lM]at p'
  have e1:(idx.filterMap (T[·]?)).Perm T:=by
   have:=p'.filterMap (T[·]?)
   rwa [zTP]at this
  have e2:(idx.filterMap (T[·]?)).Pairwise (λa b=>lt b a=false):=by
   rw [List.pairwise_filterMap]
   refine q'.imp λ{i j} h b hb c hc=>?_
   have h':=h (f b) (f c) (by rw [getElem?_map,hb];rfl) (by rw [getElem?_map,hc];rfl)
   rw [O.is]at h'
   exact Option.some.inj h'
  have e3:idx.filterMap ((T.map f)[·]?)=(idx.filterMap (T[·]?)).map f:=by
   rw [List.map_filterMap]
   congr 1
   funext i
   rw [getElem?_map]
  rw [e3,zQG (e1.trans pR.symm) e2 qR λa _ b _ h1 h2=>O.tri a b h2 h1]
 ·have g:(List.range T.length).map (λi=>(T[i]?).getD t0)=T:=by
   rw [zSQ λi hi=>mem_range.mp hi,zTP]
  obtain⟨idx,ip,ie⟩:=zVY pR.symm (List.range T.length) g
  have ib: ∀i,i∈idx->i<T.length:=λi hi=>mem_range.mp (ip.mem_iff.mp hi)
  refine⟨idx,by rw [lM];exact ip,?_,?_⟩
  ·rw [<-ie,List.pairwise_map]at qR
   refine List.Pairwise.imp_of_mem (λ{i j} hi hj h a c ha hc=>?_) qR
   have zi:T[i]? =some (T[i]'(ib i hi)):=gE0 _
   have zj:T[j]? =some (T[j]'(ib j hj)):=gE0 _
   rw [getElem?_map,zi]at ha
   rw [getElem?_map,zj]at hc
   cases ha;cases hc
   rw [zi,zj]at h
   rw [O.is]
   exact congrArg some h
  ·have e2:idx.map (λi=>(T[i]?).getD t0)=idx.filterMap (T[·]?):=zSQ ib
   rw [<-ie,e2,List.map_filterMap]
   congr 1
   funext i
   rw [getElem?_map]
end
abbrev Bk:=List Nat×List Nat
def bkM(b:Bk):MV:=.tup (.str b.1::b.2.map zF)
def zYJ(a b:Bk):Bool:=decide (a.1<b.1) || (decide (a.1=b.1)&&decide (a.2<b.2))
theorem yBE{S:Sto}{n:Nat}: ∀(ks ms:List Nat),zRZ (eqv S (n+1)) (ltv S (n+1)) (ks.map zF) (ms.map zF)=some (decide (ks<ms))
 |[],[]=>rfl
 |[],m::ms=>by rw [dT0 (List.nil_lt_cons m ms)];rfl
 |k::ks,[]=>by rw [dF0 (List.not_lt_nil (k::ks))];rfl
 |k::ks,m::ms=>by
  rw [map_cons,map_cons]
  show((eqv S (n+1) (zF k) (zF m)).bind λz=>if z=true then zRZ (eqv S (n+1)) (ltv S (n+1)) (ks.map zF) (ms.map zF)else ltv S (n+1) (zF k) (zF m))=_
  rw [show eqv S (n+1) (zF k) (zF m)=some (decide ((k:Int)=m))from zQV n k m]
  show(if decide ((k:Int)=m)=true then _ else _)=_
  rw [decide_eq_decide.mpr (show k::ks<m::ms↔k<m\/k=m/\ks<ms from List.cons_lt_cons_iff)]
  by_cases h:k=m
  ·subst h
   rw [iP (by simp),yBE ks ms]
   congr 1
   simp
  ·rw [iN (by rw [decide_eq_true_eq];omega)]
   show some (decide ((k:Int)<m))=_
   congr 1
   exact dec_is (by omega)
theorem yDR:OrdB bkM zYJ where
 kind:=λa=>⟨a.1,a.2.map zF,rfl⟩
 pu:=λa=>by
  unfold bkM zBN
  exact zWG λx hx=>by
   rcases mC.mp hx with rfl|hx
   ·unfold zBN;rfl
   ·obtain⟨i,_,rfl⟩:=mM.mp hx;unfold zF zBN;rfl
 is:=λS a b=>by
  have e:zX=38+1+1:=rfl
  rw [e]
  show zRZ (eqv S (38+1)) (ltv S (38+1)) (.str a.1::a.2.map zF) (.str b.1::b.2.map zF)=_
  show((eqv S (38+1) (.str a.1) (.str b.1)).bind λz=>if z=true then zRZ (eqv S (38+1)) (ltv S (38+1)) (a.2.map zF) (b.2.map zF)else ltv S (38+1) (.str a.1) (.str b.1))=_
  rw [zBR,yBE]
  unfold zYJ
  show(if decide (a.1=b.1)=true then _ else _)=_
  by_cases h:a.1=b.1
  ·rw [iP (by simpa using h),dT0 h,h,dF0 (show¬b.1<b.1 from lt_irrefl b.1)]
   rfl
  ·rw [iN (by simpa using h),dF0 h]
   show some (decide (a.1<b.1))=_
   simp
 tr:=λa b c h1 h2=>by
  unfold zYJ at *
  simp only [Bool.or_eq_false_iff,Bool.and_eq_false_iff,decide_eq_false_iff_not]at *
  have t1: ¬c.1<a.1:=λh=>by
   rcases Classical.em (b.1<a.1)with h'|h'
   ·exact h1.1 h'
   ·rcases Classical.em (c.1<b.1)with h''|h''
    ·exact h2.1 h''
    ·exact not_lt.mpr (le_trans (not_lt.mp h') (not_lt.mp h'')) h
  refine⟨t1,?_⟩
  by_cases e:c.1=a.1
  ·refine .inr λh=>?_
   have e1:b.1=a.1:=le_antisymm (by rw [<-e];exact not_lt.mp h2.1) (not_lt.mp h1.1)
   have e2:c.1=b.1:=by rw [e1,e]
   have g1: ¬b.2<a.2:=h1.2.resolve_left (λz=>z e1)
   have g2: ¬c.2<b.2:=h2.2.resolve_left (λz=>z e2)
   exact not_lt.mpr (le_trans (not_lt.mp g1) (not_lt.mp g2)) h
  ·exact .inl e
 as:=λa b h=>by
  unfold zYJ at *
  simp only [or_eq_true,aE,decide_eq_true_eq,Bool.or_eq_false_iff,Bool.and_eq_false_iff,decide_eq_false_iff_not]at *
  rcases h with h|⟨e,h⟩
  ·exact⟨lt_asymm h,.inl λe=>by rw [e]at h;exact lt_irrefl _ h⟩
  ·exact⟨by rw [e];exact lt_irrefl _,.inr (lt_asymm h)⟩
 tri:=λa b h1 h2=>by
  unfold zYJ at *
  simp only [Bool.or_eq_false_iff,Bool.and_eq_false_iff,decide_eq_false_iff_not]at *
  have e:a.1=b.1:=le_antisymm (not_lt.mp h2.1) (not_lt.mp h1.1)
  have e2:a.2=b.2:=le_antisymm (not_lt.mp (h2.2.resolve_left (λz=>z e.symm))) (not_lt.mp (h1.2.resolve_left (λz=>z e)))
  exact Prod.ext e e2
theorem zTQ{α:Type}{f:α->MV}{p:α->Bool}{gf:MV->Rho->Sto->R Rho}{body:AY}{gs:List (Nat×List MV)}{S:Sto}{r:Er}(I:Rho->Prop)(hs:stay gs S):
  ∀{ds:List α},(∀d∈ds, ∀ρ,I ρ-> ∃ρ0,gf (f d) ρ S=.ok ρ0 S/\(p d=true->body ρ0 S=.ok (.ret r) S)/\(p d=false-> ∃ρ',I ρ'/\body ρ0 S=.ok (.next ρ') S))-> ∀ρ,I ρ->
   (ds.any p=true->zCC gf body gs (ds.map f) ρ S=.ok (.ret r) S)/\(ds.any p=false-> ∃ρ',I ρ'/\zCC gf body gs (ds.map f) ρ S=.ok (.next ρ') S)
 |[],_,ρ,h=>⟨(λz=>nomatch z),λ_=>⟨ρ,h,rfl⟩⟩
 |d::ds,st,ρ,h=>by
  obtain⟨ρ0,g,y,n⟩:=st d mF0 ρ h
  rw [any_cons,map_cons]
  cases hp:p d with
  |true=>exact⟨λ_=>zNN g (y hp),λz=>nomatch z⟩
  |false=>
   obtain⟨ρ',h',b⟩:=n hp
   rw [Bool.false_or,zGD g b hs]
   exact zTQ I hs (λd hd=>st d (mO _ hd)) ρ' h'
theorem zAA{α β:Type}{f:α->MV}{gf:MV->Rho->Sto->R Rho}{body:AY}{gs:List (Nat×List MV)}(J:Nat->β->Rho->Sto->Prop)(step:β->α->β):
  ∀{ds:List α}(k:Nat),(∀j d,ds[j]? =some d-> ∀b ρ S,J (k+j) b ρ S-> ∃ρ' S',((gf (f d) ρ S).bind λρ0 S0=>body ρ0 S0)=.ok (.next ρ') S'/\stay gs S'/\J (k+j+1) (step b d) ρ' S')-> ∀b ρ S,J k b ρ S->
   ∃ρ' S',zCC gf body gs (ds.map f) ρ S=.ok (.next ρ') S'/\J (k+ds.length) (ds.foldl step b) ρ' S'
 |[],k,_,b,ρ,S,h=>⟨ρ,S,rfl,h⟩
 |d::ds,k,st,b,ρ,S,h=>by
  obtain⟨ρ1,S1,e1,s1,j1⟩:=st 0 d rfl b ρ S h
  obtain⟨ρ2,S2,e2,j2⟩:=zAA J step (ds:=ds) (k+1) (λj d' hd b ρ S hj=>by
   have:=st (j+1) d' hd b ρ S (by rw [show k+(j+1)=k+1+j by omega];exact hj)
   rw [show k+(j+1)=k+1+j by omega]at this
   exact this) (step b d) ρ1 S1 j1
  refine⟨ρ2,S2,?_,by rw [lC,foldl_cons,show k+(ds.length+1)=k+1+ds.length by omega];exact j2⟩
  rw [map_cons]
  cases z:gf (f d) ρ S with
  |ok ρ0 S0=>
   rw [z,bok]at e1
   rw [zGD z e1 s1,e2]
  |exc c fs S0=>rw [z]at e1;cases e1
  |no=>rw [z]at e1;cases e1
theorem zHR{α:Type}{f g:α->MV}{p:α->Bool}{S:Sto}{gf:MV->Rho->Sto->R Rho}{cf:AZ}{ef:AX}{ρb:Rho}{gs:List (Nat×List MV)}(hs:stay gs S):
  ∀{ds:List α},(∀d∈ds, ∃ρ1,gf (f d) ρb S=.ok ρ1 S/\cf ρ1 S=.ok (p d) S/\ef ρ1 S=.ok (.val (g d)) S)->xC gf cf ef ρb gs (ds.map f) S=.ok ((ds.filter p).map g) S
 |[],_=>rfl
 |d::ds,st=>by
  obtain⟨ρ1,h1,h2,h3⟩:=st d mF0
  have e:=zHR hs (f:=f) (g:=g) (p:=p) (ds:=ds) λd hd=>st d (mO _ hd)
  rw [map_cons]
  unfold xC
  cases hp:p d with
  |true=>
   rw [h1,yU,bok,h2,yU,bok,hp,iP rfl,h3,yU,bok]
   unfold zAE
   rw [bok,iP hs,e,filter_cons_of_pos hp]
   rfl
  |false=>
   rw [h1,yU,bok,h2,yU,bok,hp,iN xF0,iP hs,e,filter_cons_of_neg (by rw [hp];exact xF0)]
theorem yPP(K:List Nat)(n:Nat):loL n (K.map zF):=yP λd hd=>by
 obtain⟨i,_,rfl⟩:=mM.mp hd
 exact xW _ _
section
variable{ts:List (Int×Int)}{rls:List Rule}{rs:List Row}
def atR(rs:List Row)(i:Nat):Row:=(rs[i]?).getD (0,[])
theorem cY{i:Nat}(h:i<rs.length):atR rs i∈rs:=by
 unfold atR
 rw [gE0 h]
 exact getElem_mem h
theorem cZ{i:Nat}(h:i<rs.length)(S:Sto):ixF (.val (.tup (rs.map zK))) (.val (zF i)) S=.ok (.val (zK (atR rs i))) S:=ix_tup (nN (by
 unfold atR
 rw [getElem?_map,gE0 h];rfl))
theorem book1(S:Sto):ixF (.val (yH ts rls rs)) (.val (.int 1)) S=.ok (.val (.tup (rls.map zM))) S:=ix_tup rfl
theorem zDT(S:Sto):ixF (.val (yH ts rls rs)) (.val (.int 2)) S=.ok (.val (.tup (rs.map zK))) S:=ix_tup rfl
theorem yTN(h: ∀r∈rls,dA ts r)(n:Nat):loL n (rls.map obR):=yP λd hd=>by
 obtain⟨r,hr,rfl⟩:=mM.mp hd
 exact yQG (zRH (h r hr) _)
theorem yPQ(h: ∀r∈rls,dA ts r)(hl:rls.length<=100)(S:Sto):zT 1 zHA [.val (yH ts rls rs)] S=.ok (.new (rls.map obR)) S:=zCE (T:=[]) rfl (by
 show yG (zMH [some (yH ts rls rs)] S)=_
 have hc:xC (gNm 0) zJS zCK [none] [] (rls.map zM) S=.ok (rls.map obR) S:=nB (wV _) λr hr=>⟨[some (zM r)],rfl,rfl,by
  unfold zCK
  simp? [made (h r hr)]⟩
 have e1:zGZ [some (yH ts rls rs)] S=.ok (.ret (.new (rls.map obR))) S:=by
  unfold zGZ
  simp? [book1,jQ,show((rls.map zM).length<1000000)=True from eq_true (by rw [lM];omega),show blk 1 [] [some (yH ts rls rs)]=[none]from rfl,hc]
 unfold zMH
 rw [e1,aN]
 rfl) (yTN h _)
def kyT(ts:List (Int×Int))(t:Nat):Int:=((ts[t]?).getD (0,0)).2
def zPL(ts:List (Int×Int))(a:Row):MV:=.tup [zF a.1,.tup (wD a.2 none (some (kyT ts a.1)))]
theorem yDS{a:Row}(h:ROk ts a):pd (zPL ts a)=true/\dpt (zPL ts a)<=2:=by
 obtain⟨p,_,_,hv⟩:=h
 have hm: ∀d∈wD a.2 none (some (kyT ts a.1)),Vl d:=λd hd=>hv d (zNO hd)
 have h1:pdL (wD a.2 none (some (kyT ts a.1)))=true:=zRC λd hd=>(zBP (hm d hd)).1
 have h2:zPH (wD a.2 none (some (kyT ts a.1)))<=0:=zRD λd hd=>by rw [(zBP (hm d hd)).2];exact le_refl _
 unfold zPL zF
 refine⟨by rw [zPI,zCX,zCX,zYA,zYB,zPI,h1];rfl,?_⟩
 rw [zLD,dZ,dZ,zTG,zRB,zLD]
 omega
theorem yLQ{a:Row}(h:ROk ts a)(n:Nat):lo n (zPL ts a):=xX (yP λd hd=>by
 obtain⟨p,_,_,hv⟩:=h
 simp only [mC,nM0,or_false]at hd
 rcases hd with rfl|rfl
 ·exact xW _ _
 ·exact xX (yP λd hd=>by
   have:=hv d (zNO hd)
   rcases this.cases with⟨i,rfl,_⟩|⟨x,rfl,_⟩
   ·exact xW _ _
   ·exact zDZ _ _))
theorem yLR{a:Row}(h:ROk ts a)(S:Sto):ixF (.val (.tup (ts.map tbl))) (.val (.int (a.1:Nat))) S=.ok (.val (.tup [.int ((ts[a.1]?).getD (0,0)).1,.int (kyT ts a.1)])) S:=by
 obtain⟨p,hp,_,_⟩:=h
 refine ix_tup (nN ?_)
 rw [getElem?_map,hp]
 unfold kyT
 rw [hp]
 rfl
theorem yLS(S:Sto):ixF (.val (yH ts rls rs)) (.val (.int 0)) S=.ok (.val (.tup (ts.map tbl))) S:=ix_tup rfl
theorem tup2(a b:MV)(S:Sto):kM [.val a,.val b] S=.ok (.val (.tup [a,b])) S:=zJC (by simp)
theorem yGJ{a:Row}(h:ROk ts a)(S:Sto):zT 2 zJV [.val (.tup (ts.map tbl)),.val (zK a)] S=.ok (.val (zPL ts a)) S:=by
 refine jO rfl ?_ (yLQ h _) (λl=>by simp [zPL])
 show yG (zTA [some (.tup (ts.map tbl)),some (zK a)] S)=_
 unfold zTA zSZ
 simp? [zKE,row1,yLR h,ix_tup (S:=S) (ds:=[.int ((ts[a.1]?).getD (0,0)).1,.int (kyT ts a.1)]) (i:=1) (d:=.int (kyT ts a.1)) rfl,zRJ,tup2]
 rfl
theorem zYK(hR: ∀r∈rs,ROk ts r){i:Nat}(hi:i<rs.length)(S:Sto):zT 2 zCW [.val (yH ts rls rs),.val (zF i)] S=.ok (.val (zPL ts (atR rs i))) S:=by
 have h:=hR _ (cY hi)
 refine jO rfl ?_ (yLQ h _) (λl=>by simp [zPL])
 show yG (zMQ [some (yH ts rls rs),some (zF i),none,none] S)=_
 have e1:zHM [some (yH ts rls rs),some (zF i),none,none] S=.ok (.next [some (yH ts rls rs),some (zF i),some (.int ((atR rs i).1:Nat)),some (.tup (atR rs i).2)]) S:=by
  unfold zHM
  simp? [zDT,cZ hi,zXY]
  rfl
 have e2:zHN [some (yH ts rls rs),some (zF i),some (.int ((atR rs i).1:Nat)),some (.tup (atR rs i).2)] S=.ok (.ret (.val (zPL ts (atR rs i)))) S:=by
  unfold zHN
  simp? [yLS,yLR h,ix_tup (S:=S) (ds:=[.int ((ts[(atR rs i).1]?).getD (0,0)).1,.int (kyT ts (atR rs i).1)]) (i:=1) (d:=.int (kyT ts (atR rs i).1)) rfl,zRJ,tup2]
  rfl
 unfold zMQ
 rw [zD e1,e2]
 rfl
noncomputable def yLT(ts:List (Int×Int))(a b:Row):Bool:=decide (zPL ts a=zPL ts b)
theorem zRK{a b:Row}(ha:ROk ts a)(hb:ROk ts b)(S:Sto):eqF (.val (zPL ts a)) (.val (zPL ts b)) S=.ok (.val (.bl (yLT ts a b))) S:=yFU (yDS ha).1 (yDS hb).1 (by have:=(yDS ha).2;omega)
def atL(rls:List Rule)(k:Nat):Rule:=(rls[k]?).getD (.tie 0 [] 0 [])
theorem zLF{k:Nat}(h:k<rls.length):atL rls k∈rls:=by
 unfold atL
 rw [gE0 h]
 exact getElem_mem h
theorem yGK{α:Type}(f:α->MV)(l:List α)(g:Nat->α)(hg: ∀k (h:k<l.length),g k=l[k]):zUN (l.map f)=(List.range l.length).map λi=>.tup [zF i,f (g i)]:=by
 unfold zUN
 apply ext_getElem?
 intro m
 by_cases hm:m<l.length
 ·simp only [getElem?_map,List.getElem?_zipIdx,List.getElem?_range hm,Option.map_some,gE0 hm,zero_add]
  rw [hg m hm]
  rfl
 ·rw [getElem?_eq_none (by rw [lM,List.length_zipIdx,lM];omega),getElem?_eq_none (by rw [lM,length_range];omega)]
theorem zYL(k:Nat)(h:k<rls.length):atL rls k=rls[k]:=by
 unfold atL
 rw [gE0 h]
 rfl
end
theorem zYM{S:Sto}{l:Nat}{ds zs:List MV}(hS:S[l]? =some (.lst ds))(hz:ds.length+zs.length<=1000000):yHU (.val (.loc l)) [.new zs] S=.ok (.val .non) (S.set l (.lst (ds++zs))):=by
 show(match lsW S (.new zs)with |some zs=>zSE (.val (.loc l)) S λds=>if ds.length+zs.length<=sizeLine then some (ds++zs)else none|none=>.no)=_
 show zSE (.val (.loc l)) S (λds=>if ds.length+zs.length<=sizeLine then some (ds++zs)else none)=_
 unfold zSE
 dsimp only
 rw [hS]
 dsimp only
 rw [iP (fits hz)]
theorem bk_lo(b:Bk)(n:Nat):lo n (bkM b):=xX (yP λd hd=>by
 rcases mC.mp hd with rfl|hd
 ·exact zDZ _ _
 ·obtain⟨i,_,rfl⟩:=mM.mp hd;exact xW _ _)
theorem zYN(l:List Bk)(n:Nat):loL n (l.map bkM):=yP λd hd=>by
 obtain⟨b,_,rfl⟩:=mM.mp hd
 exact bk_lo b n
theorem zYO{α:Type}{f:α->MV}{l:List α}{g:Nat->α}(hg: ∀k (h:k<l.length),g k=l[k]){S:Sto}{p:Nat}(h:S[p]? =some (.lst (l.map f))):itE [.val (.loc p)] S=.ok ⟨(List.range l.length).map λi=>.tup [zF i,f (g i)],[(p,l.map f)]⟩ S:=by
 have e:srcOf S (.val (.loc p))=some ⟨true,l.map f,[(p,l.map f)]⟩:=by
  unfold srcOf
  dsimp only
  rw [h]
 unfold itE
 dsimp only
 rw [e]
 show R.ok (⟨zUN (l.map f),[(p,l.map f)]⟩:Wk) S=_
 rw [yGK f l g hg]
theorem yGL{α:Type}{f:α->MV}{l:List α}{g:Nat->α}(hg: ∀k (h:k<l.length),g k=l[k])(S:Sto):itE [.val (.tup (l.map f))] S=.ok ⟨(List.range l.length).map λi=>.tup [zF i,f (g i)],[]⟩ S:=by
 show R.ok (⟨zUN (l.map f),[]⟩:Wk) S=_
 rw [yGK f l g hg]
def yLU:List Nat:=[107,101,121]
section
variable{ts:List (Int×Int)}{rls:List Rule}{rs:List Row}
noncomputable def zKF(rls:List Rule)(rs:List Row)(sm:List Nat)(i:Nat):List Bk:=((List.range rls.length).filter λk=>zLT (atL rls k) (atR rs i)).map (λk=>(bN,[i,k]))++((List.range rls.length).filter λk=>zCY (atL rls k) (atR rs i) (sm.map (atR rs))).map λk=>(zLJ,[i,k])
noncomputable def zKG(ts:List (Int×Int))(rls:List Rule)(rs:List Row)(i j:Nat):List Bk:=((List.range rls.length).filter λk=>zMU (atL rls k) (atR rs i) (atR rs j)).map (λk=>(nA,[i,j,k]))++if yLT ts (atR rs i) (atR rs j)=true then [(yLU,[i,j])]else []
theorem yGM(sm:List Nat)(i:Nat):(zKF rls rs sm i).length<=2 * rls.length:=by
 unfold zKF
 rw [lA,lM,lM]
 have h1:=length_filter_le (λk=>zLT (atL rls k) (atR rs i)) (List.range rls.length)
 have h2:=length_filter_le (λk=>zCY (atL rls k) (atR rs i) (sm.map (atR rs))) (List.range rls.length)
 rw [length_range]at h1 h2
 omega
theorem yGN(i j:Nat):(zKG ts rls rs i j).length<=rls.length+1:=by
 unfold zKG
 rw [lA,lM]
 have h1:=length_filter_le (λk=>zMU (atL rls k) (atR rs i) (atR rs j)) (List.range rls.length)
 rw [length_range]at h1
 split
 ·simp;omega
 ·simp;omega
abbrev O7(ts:List (Int×Int))(rls:List Rule)(rs:List Row)(sm:List Nat)(lr i:Nat)(x y z:Option MV):Rho:=[some (yH ts rls rs),some (.loc lr),some (.tup (sm.map zF)),some (zF i),x,y,z]
theorem c_one(hRl: ∀r∈rls,dA ts r)(hR: ∀r∈rs,ROk ts r)(hrl:rls.length<=100){sm:List Nat}(hs: ∀i∈sm,i<rs.length)(hl:sm.length<=200){i:Nat}(hi:i<rs.length){lr:Nat}{S:Sto}(hr:S[lr]? =some (.lst (rls.map obR))):
  zT 4 gU [.val (yH ts rls rs),.val (.loc lr),.val (.tup (sm.map zF)),.val (zF i)] S=.ok (.new ((zKF rls rs sm i).map bkM)) S:=by
 have ha:=hR _ (cY hi)
 have hlr:lr<S.length:=(gS0.mp hr).1
 have e1:cB (O7 ts rls rs sm lr i none none none) S=.ok (.next (O7 ts rls rs sm lr i (some (zK (atR rs i))) none none)) S:=by
  unfold cB
  simp? [zDT,cZ hi]
 have hc1:xC (gNm 0) zBO jW [none,some (yH ts rls rs)] [] (sm.map zF) S=.ok ((sm.map (atR rs)).map zK) S:=by
  rw [map_map]
  exact nB (g:=λj=>zK (atR rs j)) (wV _) λj hj=>⟨[some (zF j),some (yH ts rls rs)],rfl,rfl,by
   unfold jW
   simp? [zDT,cZ (hs j hj)]⟩
 have e2:cC (O7 ts rls rs sm lr i (some (zK (atR rs i))) none none) S=.ok (.next (O7 ts rls rs sm lr i (some (zK (atR rs i))) (some (.loc S.length)) none)) (S++[.lst ((sm.map (atR rs)).map zK)]):=by
  unfold cC
  simp? [jQ,show((sm.map zF).length<1000000)=True from eq_true (by rw [lM];omega),show blk 1 [0] (O7 ts rls rs sm lr i (some (zK (atR rs i))) none none)=[none,some (yH ts rls rs)]from rfl,hc1]
 have gw:(S++[MO.lst ((sm.map (atR rs)).map zK)])[S.length]? =some (.lst ((sm.map (atR rs)).map zK)):=by simp
 have gr:(S++[MO.lst ((sm.map (atR rs)).map zK)])[lr]? =some (.lst (rls.map obR)):=by rw [getElem?_append_left hlr];exact hr
 have ho: ∀o∈sm.map (atR rs),ROk ts o:=λo h=>by
  obtain⟨j,hj,rfl⟩:=mM.mp h
  exact hR _ (cY (hs j hj))
 generalize hS1:S++[MO.lst ((sm.map (atR rs)).map zK)]=S1 at e2 gw gr
 have hlen:(((List.range rls.length).map λk=>MV.tup [zF k,obR (atL rls k)]).length<1000000)=True:=eq_true (by rw [lM,length_range];omega)
 have hc2:xC (gTp 2 (zV (gNm 0) (zV (gNm 1) wY))) jX jY [none,none,some (zF i),some (zK (atR rs i))] [(lr,rls.map obR)] ((List.range rls.length).map λk=>MV.tup [zF k,obR (atL rls k)]) S1=.ok (((List.range rls.length).filter λk=>zLT (atL rls k) (atR rs i)).map λk=>bkM (bN,[i,k])) S1:=zHR (bW gr) λk hk=>by
  rw [mem_range]at hk
  obtain⟨F,h1,h2,_⟩:=yGF (hRl _ (zLF hk)) ha S1
  refine⟨[some (zF k),some (obR (atL rls k)),some (zF i),some (zK (atR rs i))],rfl,?_,?_⟩
  ·unfold jX
   simp? [h1,h2]
  ·unfold jY
   simp? [tup3]
   rfl
 have e3:cE (O7 ts rls rs sm lr i (some (zK (atR rs i))) (some (.loc S.length)) none) S1=.ok (.next (O7 ts rls rs sm lr i (some (zK (atR rs i))) (some (.loc S.length)) (some (.loc S1.length)))) (S1++[.lst (((List.range rls.length).filter λk=>zLT (atL rls k) (atR rs i)).map λk=>bkM (bN,[i,k]))]):=by
  unfold cE
  simp? [zYO (g:=atL rls) zYL gr,hlen,show blk 2 [3,4] (O7 ts rls rs sm lr i (some (zK (atR rs i))) (some (.loc S.length)) none)=[none,none,some (zF i),some (zK (atR rs i))]from rfl,hc2]
 generalize hb:(((List.range rls.length).filter λk=>zLT (atL rls k) (atR rs i)).map λk=>bkM (bN,[i,k]))=bs at e3
 have hbl:bs.length<=100:=by
  rw [<-hb,lM]
  exact le_trans (length_filter_le _ _) (by rw [length_range];exact hrl)
 have gb:(S1++[MO.lst bs])[S1.length]? =some (.lst bs):=by simp
 have up: ∀{m:Nat}{o:MO},S1[m]? =some o->(S1++[MO.lst bs])[m]? =some o:=λ{m o} h=>by rw [getElem?_append_left (gS0.mp h).1];exact h
 generalize hS2:S1++[MO.lst bs]=S2 at e3 gb up
 have hc3:xC (gTp 2 (zV (gNm 0) (zV (gNm 1) wY))) jZ hU [none,none,some (zF i),some (zK (atR rs i)),some (.loc S.length)] [(lr,rls.map obR)] ((List.range rls.length).map λk=>MV.tup [zF k,obR (atL rls k)]) S2=.ok (((List.range rls.length).filter λk=>zCY (atL rls k) (atR rs i) (sm.map (atR rs))).map λk=>bkM (zLJ,[i,k])) S2:=zHR (bW (up gr)) λk hk=>by
  rw [mem_range]at hk
  obtain⟨F,h1,⟨T,h2⟩,_⟩:=yBC (hRl _ (zLF hk)) ha ho (by rw [lM];omega) (up gw) (up gw)
  have h2':zT 3 F [.val (obR (atL rls k)),.val (zK (atR rs i)),.val (.loc S.length)] S2=.ok (.val (.bl (zCY (atL rls k) (atR rs i) (sm.map (atR rs))))) S2:=zRI (T:=T) rfl h2
  refine⟨[some (zF k),some (obR (atL rls k)),some (zF i),some (zK (atR rs i)),some (.loc S.length)],rfl,?_,?_⟩
  ·unfold jZ
   simp? [h1,h2']
  ·unfold hU
   simp? [tup3]
   rfl
 have hr2:(zKF rls rs sm i).map bkM=bs++((List.range rls.length).filter λk=>zCY (atL rls k) (atR rs i) (sm.map (atR rs))).map λk=>bkM (zLJ,[i,k]):=by
  unfold zKF
  rw [map_append,map_map,map_map, <-hb]
  rfl
 have e4:cF (O7 ts rls rs sm lr i (some (zK (atR rs i))) (some (.loc S.length)) (some (.loc S1.length))) S2=.ok (.ret (.new ((zKF rls rs sm i).map bkM))) S2:=by
  rw [hr2]
  unfold cF
  simp? [zYO (g:=atL rls) zYL (up gr),hlen,show blk 2 [3,4,5] (O7 ts rls rs sm lr i (some (zK (atR rs i))) (some (.loc S.length)) (some (.loc S1.length)))=[none,none,some (zF i),some (zK (atR rs i)),some (.loc S.length)]from rfl,hc3,yKL (S:=S2) (p:=.val (.loc S1.length)) (q:=.new (((List.range rls.length).filter λk=>zCY (atL rls k) (atR rs i) (sm.map (atR rs))).map λk=>bkM (zLJ,[i,k]))) (x:=bs) (jC gb) rfl (fits (by
   rw [lM]
   have:=length_filter_le (λk=>zCY (atL rls k) (atR rs i) (sm.map (atR rs))) (List.range rls.length)
   rw [length_range]at this
   omega))]
 refine zCE (T:=[.lst ((sm.map (atR rs)).map zK),.lst bs]) rfl ?_ (zYN _ _)
 show yG (zAK (O7 ts rls rs sm lr i none none none) S)=_
 unfold zAK
 rw [zD e1,zD e2,zD e3,e4, <-hS2, <-hS1,aA]
 rfl
abbrev P7(ts:List (Int×Int))(rls:List Rule)(rs:List Row)(lr i j:Nat)(x y z:Option MV):Rho:=[some (yH ts rls rs),some (.loc lr),some (zF i),some (zF j),x,y,z]
theorem c_two(hRl: ∀r∈rls,dA ts r)(hR: ∀r∈rs,ROk ts r)(hrl:rls.length<=100){i j:Nat}(hi:i<rs.length)(hj:j<rs.length){lr:Nat}{S:Sto}(hr:S[lr]? =some (.lst (rls.map obR))):
  zT 4 gV [.val (yH ts rls rs),.val (.loc lr),.val (zF i),.val (zF j)] S=.ok (.new ((zKG ts rls rs i j).map bkM)) S:=by
 have ha:=hR _ (cY hi)
 have hb:=hR _ (cY hj)
 have e1:cG (P7 ts rls rs lr i j none none none) S=.ok (.next (P7 ts rls rs lr i j (some (zK (atR rs i))) none none)) S:=by
  unfold cG
  simp? [zDT,cZ hi]
 have e2:cH (P7 ts rls rs lr i j (some (zK (atR rs i))) none none) S=.ok (.next (P7 ts rls rs lr i j (some (zK (atR rs i))) (some (zK (atR rs j))) none)) S:=by
  unfold cH
  simp? [zDT,cZ hj]
 have hlen:(((List.range rls.length).map λk=>MV.tup [zF k,obR (atL rls k)]).length<1000000)=True:=eq_true (by rw [lM,length_range];omega)
 have hc:xC (gTp 2 (zV (gNm 0) (zV (gNm 1) wY))) hX hZ [none,none,some (zF i),some (zF j),some (zK (atR rs i)),some (zK (atR rs j))] [(lr,rls.map obR)] ((List.range rls.length).map λk=>MV.tup [zF k,obR (atL rls k)]) S=.ok (((List.range rls.length).filter λk=>zMU (atL rls k) (atR rs i) (atR rs j)).map λk=>bkM (nA,[i,j,k])) S:=zHR (bW hr) λk hk=>by
  rw [mem_range]at hk
  obtain⟨F,h1,h2,_⟩:=yBD (hRl _ (zLF hk)) ha hb S
  refine⟨[some (zF k),some (obR (atL rls k)),some (zF i),some (zF j),some (zK (atR rs i)),some (zK (atR rs j))],rfl,?_,?_⟩
  ·unfold hX
   simp? [h1,h2]
  ·unfold hZ
   simp? [tup4]
   rfl
 generalize hps:(((List.range rls.length).filter λk=>zMU (atL rls k) (atR rs i) (atR rs j)).map λk=>bkM (nA,[i,j,k]))=ps at hc
 have hpl:ps.length<=100:=by
  rw [<-hps,lM]
  exact le_trans (length_filter_le _ _) (by rw [length_range];exact hrl)
 have e3:cI (P7 ts rls rs lr i j (some (zK (atR rs i))) (some (zK (atR rs j))) none) S=.ok (.next (P7 ts rls rs lr i j (some (zK (atR rs i))) (some (zK (atR rs j))) (some (.loc S.length)))) (S++[.lst ps]):=by
  unfold cI
  simp? [zYO (g:=atL rls) zYL hr,hlen,show blk 2 [2,3,4,5] (P7 ts rls rs lr i j (some (zK (atR rs i))) (some (zK (atR rs j))) none)=[none,none,some (zF i),some (zF j),some (zK (atR rs i)),some (zK (atR rs j))]from rfl,hc]
 have gp:(S++[MO.lst ps])[S.length]? =some (.lst ps):=by simp
 have e4:cJ (P7 ts rls rs lr i j (some (zK (atR rs i))) (some (zK (atR rs j))) (some (.loc S.length))) (S++[.lst ps])=.ok (.next (P7 ts rls rs lr i j (some (zK (atR rs i))) (some (zK (atR rs j))) (some (.loc S.length)))) (S++[.lst ((zKG ts rls rs i j).map bkM)]):=by
  unfold cJ
  cases hk:yLT ts (atR rs i) (atR rs j)with
  |false=>
   have e:(zKG ts rls rs i j).map bkM=ps:=by
    unfold zKG
    rw [hk,iN xF0,aN,map_map, <-hps]
    rfl
   rw [e]
   simp? [yLS,yGJ ha,yGJ hb,zRK ha hb,hk]
   rfl
  |true=>
   have e:(zKG ts rls rs i j).map bkM=ps++[bkM (yLU,[i,j])]:=by
    unfold zKG
    rw [hk,iP rfl,map_append,map_map, <-hps]
    rfl
   rw [e]
   simp? [yLS,yGJ ha,yGJ hb,zRK ha hb,hk,kI gp,tup3,bE gp (by omega)]
   rw [show List.set (S++[MO.lst ps]) S.length (MO.lst (ps++[MV.tup [.str [107,101,121],zF i,zF j]]))=S++[MO.lst (ps++[bkM (yLU,[i,j])])] by simp [bkM,yLU]]
 refine zTJ (T:=[.lst ((zKG ts rls rs i j).map bkM)]) (as:=[yH ts rls rs,.loc lr,zF i,zF j]) (S2:=S) rfl rfl (r:=.val (.loc S.length)) ?_ (.inr ⟨S.length,rfl,le_refl _,by simp⟩) (zYN _ _)
 show yG (zAL (P7 ts rls rs lr i j none none none) S)=_
 unfold zAL
 rw [zD e1,zD e2,zD e3,zD e4]
 rfl
end
def zIT(sm:List Nat)(k:Nat):Nat:=(sm[k]?).getD 0
theorem nE{α β:Type}(g:α->List β)(l:List α): ∀(b:List β),l.foldl (λb i=>b++g i) b=b++l.flatMap g:=by
 induction l with
 |nil=>intro b;simp
 |cons x l ih=>intro b;rw [foldl_cons,ih,flatMap_cons,aA]
def kK:List Nat->List (Nat×Nat)
 |[]=>[]
 |x::t=>t.map (λj=>(x,j))++kK t
theorem yBF: ∀(sm:List Nat),(List.range sm.length).flatMap (λp=>(sm.drop (p+1)).map λj=>(zIT sm p,j))=kK sm
 |[]=>rfl
 |x::t=>by
  rw [lC,List.range_succ_eq_map,flatMap_cons,List.flatMap_map]
  show t.map (λj=>(x,j))++_=_
  rw [show kK (x::t)=t.map (λj=>(x,j))++kK t from rfl, <-yBF t]
  rfl
theorem pairs_len: ∀(sm:List Nat),(kK sm).length<=sm.length * sm.length
 |[]=>le_refl _
 |x::t=>by
  have ih:=pairs_len t
  rw [show kK (x::t)=t.map (λj=>(x,j))++kK t from rfl,lA,lM,lC]
  rw [Nat.add_mul,Nat.mul_add]
  omega
theorem zWH: ∀{sm:List Nat}{p:Nat×Nat},p∈kK sm->p.1∈sm/\p.2∈sm
 |x::t,p,h=>by
  rcases mem_append.mp h with h|h
  ·obtain⟨j,hj,rfl⟩:=mM.mp h
   exact⟨mF0,mO _ hj⟩
  ·have:=zWH h
   exact⟨mO _ this.1,mO _ this.2⟩
def prM(p:Nat×Nat):MV:=.tup [zF p.1,zF p.2]
abbrev G4(sm:List Nat)(l:Nat)(x y:Option MV):Rho:=[some (.tup (sm.map zF)),some (.loc l),x,y]
theorem yPR{sm:List Nat}(hl:sm.length<=200)(S:Sto):zT 1 zHE [.val (.tup (sm.map zF))] S=.ok (.new ((kK sm).map prM)) S:=by
 have e1:zHC [some (.tup (sm.map zF)),none,none,none] S=.ok (.next (G4 sm S.length none none)) (S++[.lst []]):=by
  unfold zHC
  simp? [yHM]
 obtain⟨ρ',S',f,⟨x,y,hρ⟩,hS',_⟩:=zAA (f:=λp=>MV.tup [zF p,zF (zIT sm p)]) (gf:=gTp 2 (zV (gNm 2) (zV (gNm 3) wY))) (body:=zHB) (gs:=[]) (λk (b:List (Nat×Nat)) ρ S'=>(∃x y,ρ=G4 sm S.length x y)/\S'=S++[.lst (b.map prM)]/\b.length<=k * 200) (λb p=>b++(sm.drop (p+1)).map λj=>(zIT sm p,j)) (ds:=List.range sm.length) 0 (λj p hj b ρ S1 ⟨⟨x,y,hρ⟩,hS1,hbl⟩=>by
  subst hρ hS1
  obtain⟨hj1,hj2⟩:=gS0.mp hj
  rw [length_range]at hj1
  rw [List.getElem_range]at hj2
  subst hj2
  have gb:(S++[MO.lst (b.map prM)])[S.length]? =some (.lst (b.map prM)):=by simp
  have hc:xC (gNm 0) zJT zCL [none,some (zF (zIT sm j))] [] ((sm.drop (j+1)).map zF) (S++[.lst (b.map prM)])=.ok ((sm.drop (j+1)).map λq=>prM (zIT sm j,q)) (S++[.lst (b.map prM)]):=nB (wV _) λq _=>⟨[some (zF q),some (zF (zIT sm j))],rfl,rfl,by
   unfold zCL
   simp? [tup2]
   rfl⟩
  have hcut:wD (sm.map zF) (some ((j:Nat)+1)) none=(sm.drop (j+1)).map zF:=by
   rw [zNP,show((j:Nat):Int)+1=((j+1:Nat):Int)from rfl,zPJ]
  have hdl:((sm.drop (j+1)).map λq=>prM (zIT sm j,q)).length<=200:=by rw [lM,length_drop];omega
  refine⟨G4 sm S.length (some (zF j)) (some (zF (zIT sm j))),S++[.lst ((b++(sm.drop (j+1)).map λq=>(zIT sm j,q)).map prM)],?_,wV _,⟨_,_,rfl⟩,rfl,by
   rw [lA,lM,length_drop]
   rw [show(0+j+1) * 200=(0+j) * 200+200 by omega]
   omega⟩
  rw [show gTp 2 (zV (gNm 2) (zV (gNm 3) wY)) (.tup [zF j,zF (zIT sm j)]) (G4 sm S.length x y) (S++[.lst (b.map prM)])=.ok (G4 sm S.length (some (zF j)) (some (zF (zIT sm j)))) (S++[.lst (b.map prM)])from rfl,bok]
  unfold zHB zJU
  simp? [kI gb,show∀S,wZ (.val (zF j)) (.val (.int 1)) S=.ok (.val (.int ((j:Nat)+1))) S from λ_=>rfl,zRJ,hcut,jQ,show(((sm.drop (j+1)).map zF).length<1000000)=True from eq_true (by rw [lM,length_drop];omega),show blk 1 [3] (G4 sm S.length (some (zF j)) (some (zF (zIT sm j))))=[none,some (zF (zIT sm j))]from rfl,hc,zYM (zs:=(sm.drop (j+1)).map λq=>prM (zIT sm j,q)) gb (by rw [lM (as:=b)];omega)]
  rw [map_append,map_map]
  rw [show List.set (S++[MO.lst (b.map prM)]) S.length (MO.lst (b.map prM++(sm.drop (j+1)).map λq=>prM (zIT sm j,q)))=S++[MO.lst (b.map prM++(sm.drop (j+1)).map λq=>prM (zIT sm j,q))] by simp]
  rfl) [] (G4 sm S.length none none) (S++[.lst []]) ⟨⟨_,_,rfl⟩,rfl,zero_le _⟩
 subst hρ hS'
 rw [nE,nil_append,yBF]at f
 have e2:zHD (G4 sm S.length none none) (S++[.lst []])=.ok (.next (G4 sm S.length x y)) (S++[.lst ((kK sm).map prM)]):=by
  unfold zHD
  simp? [yGL (f:=zF) (l:=sm) (g:=zIT sm) (λk h=>by unfold zIT;rw [gE0 h];rfl)]
  exact f
 refine zTJ (T:=[.lst ((kK sm).map prM)]) (as:=[.tup (sm.map zF)]) (S2:=S) rfl rfl (r:=.val (.loc S.length)) ?_ (.inr ⟨S.length,rfl,le_refl _,by simp⟩) (yP λd hd=>by
  obtain⟨p,_,rfl⟩:=mM.mp hd
  exact xX (yP λe he=>by
   simp only [mC,nM0,or_false]at he
   rcases he with rfl|rfl<;>exact xW _ _))
 show yG (zMI [some (.tup (sm.map zF)),none,none,none] S)=_
 unfold zMI
 rw [zD e1,zD e2]
 rfl
section
variable{ts:List (Int×Int)}{rls:List Rule}{rs:List Row}
noncomputable def gA(ts:List (Int×Int))(rls:List Rule)(rs:List Row)(sm:List Nat):List Bk:=sm.flatMap (zKF rls rs sm)++(kK sm).flatMap λp=>zKG ts rls rs p.1 p.2
abbrev Z6(ts:List (Int×Int))(rls:List Rule)(rs:List Row)(sm:List Nat)(l:Nat)(x y:Option MV):Rho:=[some (yH ts rls rs),some (.tup (sm.map zF)),some (.loc l),some (.loc (l+1)),x,y]
theorem yBG(hRl: ∀r∈rls,dA ts r)(hR: ∀r∈rs,ROk ts r)(hrl:rls.length<=6){sm:List Nat}(hs: ∀i∈sm,i<rs.length)(hl:sm.length<=120){R:List Bk}(pR:R.Perm (gA ts rls rs sm))(qR:R.Pairwise λa b=>zYJ b a=false)(S:Sto):
  zT 2 zGH [.val (yH ts rls rs),.val (.tup (sm.map zF))] S=.ok (.new (R.map bkM)) S:=by
 have e1:zML [some (yH ts rls rs),some (.tup (sm.map zF)),none,none,none,none] S=.ok (.next [some (yH ts rls rs),some (.tup (sm.map zF)),some (.loc S.length),none,none,none]) (S++[.lst (rls.map obR)]):=by
  unfold zML
  simp? [yPQ hRl (by omega)]
 have e2:zMM [some (yH ts rls rs),some (.tup (sm.map zF)),some (.loc S.length),none,none,none] (S++[.lst (rls.map obR)])=.ok (.next (Z6 ts rls rs sm S.length none none)) (S++[.lst (rls.map obR),.lst []]):=by
  unfold zMM
  simp? [yHM]
  rw [lA,aA]
  rfl
 have gr: ∀ds,(S++[MO.lst (rls.map obR),MO.lst ds])[S.length]? =some (.lst (rls.map obR)):=λds=>by simp
 have gf: ∀ds,(S++[MO.lst (rls.map obR),MO.lst ds])[S.length+1]? =some (.lst ds):=λds=>yDM S _ _
 have gs': ∀ds es,List.set (S++[MO.lst (rls.map obR),MO.lst ds]) (S.length+1) (MO.lst es)=S++[MO.lst (rls.map obR),MO.lst es]:=λds es=>by simp
 obtain⟨ρ',S',f,⟨x,y,hρ⟩,hS',hl1⟩:=zAA (f:=zF) (gf:=gNm 4) (body:=zMJ) (gs:=[]) (λk (b:List Bk) ρ S'=>(∃x y,ρ=Z6 ts rls rs sm S.length x y)/\S'=S++[.lst (rls.map obR),.lst (b.map bkM)]/\b.length<=k * 12) (λb i=>b++zKF rls rs sm i) (ds:=sm) 0 (λj i hj b ρ S1 ⟨⟨x,y,hρ⟩,hS1,hbl⟩=>by
  subst hρ hS1
  have hi:i<rs.length:=hs i (mem_of_getElem? hj)
  have hj1:=(gS0.mp hj).1
  have h1:=yGM (rls:=rls) (rs:=rs) sm i
  refine⟨Z6 ts rls rs sm S.length (some (zF i)) y,S++[.lst (rls.map obR),.lst ((b++zKF rls rs sm i).map bkM)],?_,wV _,⟨_,_,rfl⟩,rfl,by rw [lA];omega⟩
  rw [show gNm 4 (zF i) (Z6 ts rls rs sm S.length x y) (S++[.lst (rls.map obR),.lst (b.map bkM)])=.ok (Z6 ts rls rs sm S.length (some (zF i)) y) (S++[.lst (rls.map obR),.lst (b.map bkM)])from rfl,bok]
  unfold zMJ zNT
  simp? [kI (gf (b.map bkM)),c_one hRl hR (by omega) hs (by omega) hi (gr (b.map bkM)),zYM (zs:=(zKF rls rs sm i).map bkM) (gf (b.map bkM)) (by rw [lM,lM];omega)]
  rw [map_append,gs']) [] (Z6 ts rls rs sm S.length none none) (S++[.lst (rls.map obR),.lst []]) ⟨⟨_,_,rfl⟩,rfl,zero_le _⟩
 subst hρ hS'
 rw [nE,nil_append]at f hl1
 have e3:zMN (Z6 ts rls rs sm S.length none none) (S++[.lst (rls.map obR),.lst []])=.ok (.next (Z6 ts rls rs sm S.length x y)) (S++[.lst (rls.map obR),.lst ((sm.flatMap (zKF rls rs sm)).map bkM)]):=by
  unfold zMN
  simp? [jQ]
  exact f
 have hpl:(kK sm).length<=14400:=le_trans (pairs_len sm) (le_trans (mul_le_mul hl hl) (by decide))
 obtain⟨ρ',S',f2,⟨x2,y2,hρ⟩,hS',hl2⟩:=zAA (f:=prM) (gf:=gTp 2 (zV (gNm 4) (zV (gNm 5) wY))) (body:=zMK) (gs:=[]) (λk (b:List Bk) ρ S'=>(∃x y,ρ=Z6 ts rls rs sm S.length x y)/\S'=S++[.lst (rls.map obR),.lst (b.map bkM)]/\b.length<=1440+k * 7) (λb p=>b++zKG ts rls rs p.1 p.2) (ds:=kK sm) 0 (λj p hj b ρ S1 ⟨⟨x,y,hρ⟩,hS1,hbl⟩=>by
  subst hρ hS1
  obtain⟨hp1,hp2⟩:=zWH (mem_of_getElem? hj)
  have hj1:=(gS0.mp hj).1
  have h1:=yGN (ts:=ts) (rls:=rls) (rs:=rs) p.1 p.2
  refine⟨Z6 ts rls rs sm S.length (some (zF p.1)) (some (zF p.2)),S++[.lst (rls.map obR),.lst ((b++zKG ts rls rs p.1 p.2).map bkM)],?_,wV _,⟨_,_,rfl⟩,rfl,by rw [lA];omega⟩
  rw [show gTp 2 (zV (gNm 4) (zV (gNm 5) wY)) (prM p) (Z6 ts rls rs sm S.length x y) (S++[.lst (rls.map obR),.lst (b.map bkM)])=.ok (Z6 ts rls rs sm S.length (some (zF p.1)) (some (zF p.2))) (S++[.lst (rls.map obR),.lst (b.map bkM)])from rfl,bok]
  unfold zMK zNU
  simp? [kI (gf (b.map bkM)),c_two hRl hR (by omega) (hs _ hp1) (hs _ hp2) (gr (b.map bkM)),zYM (zs:=(zKG ts rls rs p.1 p.2).map bkM) (gf (b.map bkM)) (by rw [lM,lM];omega)]
  rw [map_append,gs']) (sm.flatMap (zKF rls rs sm)) (Z6 ts rls rs sm S.length x y) (S++[.lst (rls.map obR),.lst ((sm.flatMap (zKF rls rs sm)).map bkM)]) ⟨⟨_,_,rfl⟩,rfl,by omega⟩
 subst hρ hS'
 rw [nE]at f2 hl2
 have e4:zMO (Z6 ts rls rs sm S.length x y) (S++[.lst (rls.map obR),.lst ((sm.flatMap (zKF rls rs sm)).map bkM)])=.ok (.next (Z6 ts rls rs sm S.length x2 y2)) (S++[.lst (rls.map obR),.lst ((gA ts rls rs sm).map bkM)]):=by
  unfold zMO
  simp? [yPR (sm:=sm) (by omega),show∀ds S,itL (.new ds) S=.ok ⟨ds,[]⟩ S from λ_ _=>rfl]
  exact f2
 have e5:zMP (Z6 ts rls rs sm S.length x2 y2) (S++[.lst (rls.map obR),.lst ((gA ts rls rs sm).map bkM)])=.ok (.ret (.new (R.map bkM))) (S++[.lst (rls.map obR),.lst ((gA ts rls rs sm).map bkM)]):=by
  have:=yGI yDR pR qR (by unfold gA;omega) (p:=.val (.loc (S.length+1))) (S:=S++[.lst (rls.map obR),.lst ((gA ts rls rs sm).map bkM)]) (jC (gf _))
  unfold zMP
  simp? [this]
 refine zCE (T:=[.lst (rls.map obR),.lst ((gA ts rls rs sm).map bkM)]) rfl ?_ (zYN _ _)
 show yG (zTB [some (yH ts rls rs),some (.tup (sm.map zF)),none,none,none,none] S)=_
 unfold zTB
 rw [zD e1,zD e2,zD e3,zD e4,e5]
 rfl
end
section
variable{ts:List (Int×Int)}{rls:List Rule}{rs:List Row}
noncomputable def zLK(rls:List Rule)(rs:List Row)(sm:List Nat)(i k:Nat):List Bk:=(if zLT (atL rls k) (atR rs i)=true then [(bN,[i,k])]else [])++if zCY (atL rls k) (atR rs i) (sm.map (atR rs))=true then [(zLJ,[i,k])]else []
noncomputable def zKH(ts:List (Int×Int))(rs:List Row)(i j:Nat):List Bk:=if(decide (i<j)&&yLT ts (atR rs i) (atR rs j))=true then [(yLU,[i,j])]else []
noncomputable def zMV(rls:List Rule)(rs:List Row)(i j k:Nat):List Bk:=if(decide (i<j)&&zMU (atL rls k) (atR rs i) (atR rs j))=true then [(nA,[i,j,k])]else []
noncomputable def zYP(ts:List (Int×Int))(rls:List Rule)(rs:List Row)(sm:List Nat):List Bk:=sm.flatMap λi=>(List.range rls.length).flatMap (zLK rls rs sm i)++sm.flatMap λj=>zKH ts rs i j++(List.range rls.length).flatMap (zMV rls rs i j)
theorem zTR{α β:Type}(f g:α->List β): ∀(l:List α),(l.flatMap λx=>f x++g x).Perm (l.flatMap f++l.flatMap g)
 |[]=>.nil
 |x::l=>by
  rw [flatMap_cons,flatMap_cons,flatMap_cons]
  have ih:=zTR f g l
  have h1:(f x++g x++(l.flatMap λx=>f x++g x)).Perm (f x++g x++(l.flatMap f++l.flatMap g)):=ih.append_left _
  refine h1.trans ?_
  rw [aA,aA]
  refine List.Perm.append_left _ ?_
  rw [<-aA, <-aA]
  exact perm_append_comm.append_right _
theorem zLG{α β:Type}{f g:α->List β}: ∀{l:List α},(∀x∈l,(f x).Perm (g x))->(l.flatMap f).Perm (l.flatMap g)
 |[],_=>.nil
 |x::l,h=>by
  rw [flatMap_cons,flatMap_cons]
  exact(h x mF0).append (zLG λy hy=>h y (mO _ hy))
theorem zLH{α β:Type}(p:α->Bool)(f:α->β): ∀(l:List α),(l.filter p).map f=l.flatMap λx=>if p x=true then [f x]else []
 |[]=>rfl
 |x::l=>by
  rw [flatMap_cons, <-zLH p f l]
  cases h:p x with
  |true=>rw [filter_cons_of_pos h,iP rfl];rfl
  |false=>rw [filter_cons_of_neg (by rw [h];exact xF0),iN xF0];rfl
theorem yLV{α β:Type}{f:α->List β}{l:List α}(h: ∀x∈l,f x=[]):l.flatMap f=[]:=by
 rw [List.flatMap_eq_nil_iff]
 exact h
theorem zTS{α β:Type}{f g:α->List β}{l:List α}(h: ∀x∈l,f x=g x):l.flatMap f=l.flatMap g:=by
 induction l with
 |nil=>rfl
 |cons x l ih=>rw [flatMap_cons,flatMap_cons,h x mF0,ih λy hy=>h y (mO _ hy)]
theorem zTT{β:Type}(F:Nat->Nat->List β): ∀{sm:List Nat},sm.Pairwise (· <·)->(sm.flatMap λi=>sm.flatMap λj=>if i<j then F i j else [])=(kK sm).flatMap λp=>F p.1 p.2
 |[],_=>rfl
 |x::t,h=>by
  rw [pairwise_cons]at h
  rw [flatMap_cons,flatMap_cons,iN (lt_irrefl x),nil_append]
  rw [show kK (x::t)=t.map (λj=>(x,j))++kK t from rfl,List.flatMap_append,List.flatMap_map, <-zTT F h.2]
  congr 1
  ·exact zTS λj hj=>by rw [iP (h.1 j hj)]
  ·exact zTS λi hi=>by
    rw [flatMap_cons,iN (by have:=h.1 i hi;omega),nil_append]
theorem yLW{sm:List Nat}(h:sm.Pairwise (· <·)):(zYP ts rls rs sm).Perm (gA ts rls rs sm):=by
 unfold zYP gA
 refine(zTR _ _ sm).trans (List.Perm.append ?_ ?_)
 ·refine zLG λi _=>?_
  unfold zKF zLK
  rw [zLH,zLH]
  exact zTR _ _ _
 ·rw [<-zTT (λi j=>zKG ts rls rs i j) h]
  refine zLG λi _=>zLG λj _=>?_
  unfold zKH zMV zKG
  by_cases hij:i<j
  ·rw [iP hij,dT0 hij]
   simp only [Bool.true_and]
   rw [zLH]
   exact perm_append_comm
  ·rw [iN hij,dF0 hij]
   simp only [Bool.false_and,fT0,iF,nil_append]
   rw [yLV λ_ _=>rfl]
abbrev Sw(S:Sto)(rs:List Row)(sm:List Nat)(b:List Bk):Sto:=S++[.lst ((sm.map (atR rs)).map zK),.lst (b.map bkM)]
abbrev L8(ts:List (Int×Int))(rls:List Rule)(rs:List Row)(sm:List Nat)(l:Nat)(x4 x5 x6 x7:Option MV):Rho:=[some (yH ts rls rs),some (.tup (sm.map zF)),some (.loc l),some (.loc (l+1)),x4,x5,x6,x7]
theorem yIF(hRl: ∀r∈rls,dA ts r)(hR: ∀r∈rs,ROk ts r)(hrl:rls.length<=6){sm:List Nat}(hs: ∀i∈sm,i<rs.length)(hl:sm.length<=120){R:List Bk}(pR:R.Perm (zYP ts rls rs sm))(qR:R.Pairwise λa b=>zYJ b a=false)(S:Sto):
  zT 2 nL [.val (yH ts rls rs),.val (.tup (sm.map zF))] S=.ok (.new (R.map bkM)) S:=by
 have hc1:xC (gNm 0) zDO cQ [none,some (yH ts rls rs)] [] (sm.map zF) S=.ok ((sm.map (atR rs)).map zK) S:=by
  rw [map_map]
  exact nB (g:=λj=>zK (atR rs j)) (wV _) λj hj=>⟨[some (zF j),some (yH ts rls rs)],rfl,rfl,by
   unfold cQ
   simp? [zDT,cZ (hs j hj)]⟩
 have e1:zBE [some (yH ts rls rs),some (.tup (sm.map zF)),none,none,none,none,none,none] S=.ok (.next [some (yH ts rls rs),some (.tup (sm.map zF)),some (.loc S.length),none,none,none,none,none]) (S++[.lst ((sm.map (atR rs)).map zK)]):=by
  unfold zBE
  simp? [jQ,show((sm.map zF).length<1000000)=True from eq_true (by rw [lM];omega),show blk 1 [0] [some (yH ts rls rs),some (.tup (sm.map zF)),none,none,none,none,none,none]=[none,some (yH ts rls rs)]from rfl,hc1]
 have e2:zBF [some (yH ts rls rs),some (.tup (sm.map zF)),some (.loc S.length),none,none,none,none,none] (S++[.lst ((sm.map (atR rs)).map zK)])=.ok (.next (L8 ts rls rs sm S.length none none none none)) (S++[.lst ((sm.map (atR rs)).map zK),.lst []]):=by
  unfold zBF
  simp? [yHM]
  rw [lA,aA]
  rfl
 have gw: ∀ds,(S++[MO.lst ((sm.map (atR rs)).map zK),MO.lst ds])[S.length]? =some (.lst ((sm.map (atR rs)).map zK)):=λds=>by simp
 have gf: ∀ds,(S++[MO.lst ((sm.map (atR rs)).map zK),MO.lst ds])[S.length+1]? =some (.lst ds):=λds=>yDM S _ _
 have gs': ∀ds es,List.set (S++[MO.lst ((sm.map (atR rs)).map zK),MO.lst ds]) (S.length+1) (MO.lst es)=S++[MO.lst ((sm.map (atR rs)).map zK),MO.lst es]:=λds es=>by simp
 have ho: ∀o∈sm.map (atR rs),ROk ts o:=λo h=>by
  obtain⟨j,hj,rfl⟩:=mM.mp h
  exact hR _ (cY (hs j hj))
 have turnA: ∀{i k:Nat},i<rs.length->k<rls.length-> ∀(b:List Bk)(x7:Option MV),b.length<900000->
   kP (L8 ts rls rs sm S.length (some (zF i)) (some (zF k)) (some (zM (atL rls k))) x7) (Sw S rs sm b)=.ok (.next (L8 ts rls rs sm S.length (some (zF i)) (some (zF k)) (some (zM (atL rls k))) x7)) (Sw S rs sm (b++zLK rls rs sm i k)):=λ{i k} hi hk b x7 hbl=>by
  have ha:=hR _ (cY hi)
  obtain⟨_,_,_,c1⟩:=yGF (hRl _ (zLF hk)) ha (Sw S rs sm b)
  have s1:cR (L8 ts rls rs sm S.length (some (zF i)) (some (zF k)) (some (zM (atL rls k))) x7) (Sw S rs sm b)=.ok (.next (L8 ts rls rs sm S.length (some (zF i)) (some (zF k)) (some (zM (atL rls k))) x7)) (Sw S rs sm (b++if zLT (atL rls k) (atR rs i)=true then [(bN,[i,k])]else [])):=by
   unfold cR
   cases hb:zLT (atL rls k) (atR rs i)with
   |false=>
    rw [hb]at c1
    rw [iN xF0,aN]
    simp? [zDT,cZ hi,c1]
    rfl
   |true=>
    rw [hb]at c1
    rw [iP rfl]
    simp? [zDT,cZ hi,c1,kI (gf (b.map bkM)),tup3,bE (gf (b.map bkM)) (by rw [lM];omega)]
    rw [gs'];unfold Sw;rw [map_append]
    rfl
  generalize hb2:(b++if zLT (atL rls k) (atR rs i)=true then [(bN,[i,k])]else [])=b2 at s1
  have hb2l:b2.length<900001:=by
   rw [<-hb2,lA]
   split<;>simp<;>omega
  obtain⟨_,_,_,c2⟩:=yBC (hRl _ (zLF hk)) ha ho (by rw [lM];omega) (gw (b2.map bkM)) (gw (b2.map bkM))
  have s2:cS (L8 ts rls rs sm S.length (some (zF i)) (some (zF k)) (some (zM (atL rls k))) x7) (Sw S rs sm b2)=.ok (.next (L8 ts rls rs sm S.length (some (zF i)) (some (zF k)) (some (zM (atL rls k))) x7)) (Sw S rs sm (b2++if zCY (atL rls k) (atR rs i) (sm.map (atR rs))=true then [(zLJ,[i,k])]else [])):=by
   unfold cS
   cases hb:zCY (atL rls k) (atR rs i) (sm.map (atR rs))with
   |false=>
    rw [hb]at c2
    rw [iN xF0,aN]
    simp? [zDT,cZ hi,c2]
    rfl
   |true=>
    rw [hb]at c2
    rw [iP rfl]
    simp? [zDT,cZ hi,c2,kI (gf (b2.map bkM)),tup3,bE (gf (b2.map bkM)) (by rw [lM];omega)]
    rw [gs'];unfold Sw;rw [map_append]
    rfl
  unfold kP
  rw [zD s1,s2, <-hb2,aA]
  rfl
 have turnP: ∀{i j k:Nat},i<rs.length->j<rs.length->k<rls.length-> ∀(b:List Bk),b.length<900000->
   bB (L8 ts rls rs sm S.length (some (zF i)) (some (zF k)) (some (zM (atL rls k))) (some (zF j))) (Sw S rs sm b)=.ok (.next (L8 ts rls rs sm S.length (some (zF i)) (some (zF k)) (some (zM (atL rls k))) (some (zF j)))) (Sw S rs sm (b++zMV rls rs i j k)):=λ{i j k} hi hj hk b hbl=>by
  have ha:=hR _ (cY hi)
  have hb':=hR _ (cY hj)
  obtain⟨_,_,_,c1⟩:=yBD (hRl _ (zLF hk)) ha hb' (Sw S rs sm b)
  have hlt: ∀T,ltF (.val (zF i)) (.val (zF j)) T=.ok (.val (.bl (decide (i<j)))) T:=λT=>by
   show ltF (.val (.int (i:Nat))) (.val (.int (j:Nat))) T=_
   rw [lt_int]
   congr 3
   exact dec_is (by omega)
  unfold bB zDP zMV
  cases h1:decide (i<j)with
  |false=>
   rw [Bool.false_and,iN xF0,aN]
   simp? [hlt,h1]
   rfl
  |true=>
   rw [Bool.true_and]
   cases hb:zMU (atL rls k) (atR rs i) (atR rs j)with
   |false=>
    rw [hb]at c1
    rw [iN xF0,aN]
    simp? [hlt,h1,zDT,cZ hi,cZ hj,c1]
    rfl
   |true=>
    rw [hb]at c1
    rw [iP rfl]
    simp? [hlt,h1,zDT,cZ hi,cZ hj,c1,kI (gf (b.map bkM)),tup4,bE (gf (b.map bkM)) (by rw [lM];omega)]
    rw [gs'];unfold Sw;rw [map_append]
    rfl
 have turnK: ∀{i j:Nat},i<rs.length->j<rs.length-> ∀(b:List Bk)(x5 x6:Option MV),b.length<900000->
   cT (L8 ts rls rs sm S.length (some (zF i)) x5 x6 (some (zF j))) (Sw S rs sm b)=.ok (.next (L8 ts rls rs sm S.length (some (zF i)) x5 x6 (some (zF j)))) (Sw S rs sm (b++zKH ts rs i j)):=λ{i j} hi hj b x5 x6 hbl=>by
  have ha:=hR _ (cY hi)
  have hb':=hR _ (cY hj)
  have hlt: ∀T,ltF (.val (zF i)) (.val (zF j)) T=.ok (.val (.bl (decide (i<j)))) T:=λT=>by
   show ltF (.val (.int (i:Nat))) (.val (.int (j:Nat))) T=_
   rw [lt_int]
   congr 3
   exact dec_is (by omega)
  unfold cT zKH
  cases h1:decide (i<j)with
  |false=>
   rw [Bool.false_and,iN xF0,aN]
   simp? [hlt,h1]
   rfl
  |true=>
   rw [Bool.true_and]
   cases hb:yLT ts (atR rs i) (atR rs j)with
   |false=>
    rw [iN xF0,aN]
    simp? [hlt,h1,zYK hR hi,zYK hR hj,zRK ha hb',hb]
    rfl
   |true=>
    rw [iP rfl]
    simp? [hlt,h1,zYK hR hi,zYK hR hj,zRK ha hb',hb,kI (gf (b.map bkM)),tup3,bE (gf (b.map bkM)) (by rw [lM];omega)]
    rw [gs'];unfold Sw;rw [map_append]
    rfl
 have hgr: ∀T,itE [.val (.tup (rls.map zM))] T=.ok ⟨(List.range rls.length).map λk=>.tup [zF k,zM (atL rls k)],[]⟩ T:=λT=>yGL (g:=atL rls) zYL T
 have rk: ∀{j k:Nat},(List.range rls.length)[j]? =some k->j=k/\k<rls.length:=λ{j k} h=>by
  obtain⟨h1,h2⟩:=gS0.mp h
  rw [length_range]at h1
  rw [List.getElem_range]at h2
  exact⟨h2,h2▸h1⟩
 have loopA: ∀{i:Nat},i<rs.length-> ∀(c:Nat)(b:List Bk)(x5 x6 x7:Option MV),b.length<=c->c<=800000->
   ∃y5 y6,zCC (gTp 2 (zV (gNm 5) (zV (gNm 6) wY))) kP [] ((List.range rls.length).map λk=>.tup [zF k,zM (atL rls k)]) (L8 ts rls rs sm S.length (some (zF i)) x5 x6 x7) (Sw S rs sm b)=.ok (.next (L8 ts rls rs sm S.length (some (zF i)) y5 y6 x7)) (Sw S rs sm (b++(List.range rls.length).flatMap (zLK rls rs sm i)))/\(b++(List.range rls.length).flatMap (zLK rls rs sm i)).length<=c+12:=λ{i} hi c b x5 x6 x7 hb hc=>by
  obtain⟨ρ',S',f,⟨y5,y6,hρ⟩,hS',hl1⟩:=zAA (f:=λk=>MV.tup [zF k,zM (atL rls k)]) (gf:=gTp 2 (zV (gNm 5) (zV (gNm 6) wY))) (body:=kP) (gs:=[]) (λk (b:List Bk) ρ S'=>(∃x5 x6,ρ=L8 ts rls rs sm S.length (some (zF i)) x5 x6 x7)/\S'=S++[.lst ((sm.map (atR rs)).map zK),.lst (b.map bkM)]/\b.length<=c+k * 2) (λb k=>b++zLK rls rs sm i k) (ds:=List.range rls.length) 0 (λj k hj b ρ S1 ⟨⟨x5,x6,hρ⟩,hS1,hbl⟩=>by
   subst hρ hS1
   obtain⟨rfl,hk⟩:=rk hj
   have hlA:(zLK rls rs sm i j).length<=2:=by
    unfold zLK
    rw [lA]
    split<;>split<;>simp
   refine⟨L8 ts rls rs sm S.length (some (zF i)) (some (zF j)) (some (zM (atL rls j))) x7,_,?_,wV _,⟨_,_,rfl⟩,rfl,by rw [lA];omega⟩
   rw [show gTp 2 (zV (gNm 5) (zV (gNm 6) wY)) (.tup [zF j,zM (atL rls j)]) (L8 ts rls rs sm S.length (some (zF i)) x5 x6 x7) (Sw S rs sm b)=.ok (L8 ts rls rs sm S.length (some (zF i)) (some (zF j)) (some (zM (atL rls j))) x7) (Sw S rs sm b)from rfl,bok]
   exact turnA hi hk b x7 (by omega)) b (L8 ts rls rs sm S.length (some (zF i)) x5 x6 x7) (Sw S rs sm b) ⟨⟨_,_,rfl⟩,rfl,by omega⟩
  subst hρ hS'
  rw [nE]at f hl1
  rw [length_range]at hl1
  exact⟨y5,y6,f,by omega⟩
 have turnJ: ∀{i j:Nat},i<rs.length->j<rs.length-> ∀(c:Nat)(b:List Bk)(x5 x6:Option MV),b.length<=c->c<=800000->
   ∃y5 y6,bC (L8 ts rls rs sm S.length (some (zF i)) x5 x6 (some (zF j))) (Sw S rs sm b)=.ok (.next (L8 ts rls rs sm S.length (some (zF i)) y5 y6 (some (zF j)))) (Sw S rs sm (b++(zKH ts rs i j++(List.range rls.length).flatMap (zMV rls rs i j))))/\(b++(zKH ts rs i j++(List.range rls.length).flatMap (zMV rls rs i j))).length<=c+7:=λ{i j} hi hj c b x5 x6 hb hc=>by
  have hlK:(zKH ts rs i j).length<=1:=by
   unfold zKH
   split<;>simp
  have k1:=turnK hi hj b x5 x6 (by omega)
  obtain⟨ρ',S',f,⟨y5,y6,hρ⟩,hS',hl1⟩:=zAA (f:=λk=>MV.tup [zF k,zM (atL rls k)]) (gf:=gTp 2 (zV (gNm 5) (zV (gNm 6) wY))) (body:=bB) (gs:=[]) (λk (b:List Bk) ρ S'=>(∃x5 x6,ρ=L8 ts rls rs sm S.length (some (zF i)) x5 x6 (some (zF j)))/\S'=S++[.lst ((sm.map (atR rs)).map zK),.lst (b.map bkM)]/\b.length<=c+1+k) (λb k=>b++zMV rls rs i j k) (ds:=List.range rls.length) 0 (λq k hq b ρ S1 ⟨⟨x5,x6,hρ⟩,hS1,hbl⟩=>by
   subst hρ hS1
   obtain⟨rfl,hk⟩:=rk hq
   have hlA:(zMV rls rs i j q).length<=1:=by
    unfold zMV
    split<;>simp
   refine⟨L8 ts rls rs sm S.length (some (zF i)) (some (zF q)) (some (zM (atL rls q))) (some (zF j)),_,?_,wV _,⟨_,_,rfl⟩,rfl,by rw [lA];omega⟩
   rw [show gTp 2 (zV (gNm 5) (zV (gNm 6) wY)) (.tup [zF q,zM (atL rls q)]) (L8 ts rls rs sm S.length (some (zF i)) x5 x6 (some (zF j))) (Sw S rs sm b)=.ok (L8 ts rls rs sm S.length (some (zF i)) (some (zF q)) (some (zM (atL rls q))) (some (zF j))) (Sw S rs sm b)from rfl,bok]
   exact turnP hi hj hk b (by omega)) (b++zKH ts rs i j) (L8 ts rls rs sm S.length (some (zF i)) x5 x6 (some (zF j))) (Sw S rs sm (b++zKH ts rs i j)) ⟨⟨_,_,rfl⟩,rfl,by rw [lA];omega⟩
  subst hρ hS'
  rw [nE,aA]at f hl1
  rw [length_range]at hl1
  refine⟨y5,y6,?_,by omega⟩
  have k2:cU (L8 ts rls rs sm S.length (some (zF i)) x5 x6 (some (zF j))) (Sw S rs sm (b++zKH ts rs i j))=.ok (.next (L8 ts rls rs sm S.length (some (zF i)) y5 y6 (some (zF j)))) (Sw S rs sm (b++(zKH ts rs i j++(List.range rls.length).flatMap (zMV rls rs i j)))):=by
   unfold cU
   simp? [book1,hgr]
   exact f
  unfold bC
  rw [zD k1,k2]
 have turnI: ∀{i:Nat},i<rs.length-> ∀(c:Nat)(b:List Bk)(x5 x6 x7:Option MV),b.length<=c->c<=700000->
   ∃y5 y6 y7,bD (L8 ts rls rs sm S.length (some (zF i)) x5 x6 x7) (Sw S rs sm b)=.ok (.next (L8 ts rls rs sm S.length (some (zF i)) y5 y6 y7)) (Sw S rs sm (b++((List.range rls.length).flatMap (zLK rls rs sm i)++sm.flatMap λj=>zKH ts rs i j++(List.range rls.length).flatMap (zMV rls rs i j))))/\(b++((List.range rls.length).flatMap (zLK rls rs sm i)++sm.flatMap λj=>zKH ts rs i j++(List.range rls.length).flatMap (zMV rls rs i j))).length<=c+852:=λ{i} hi c b x5 x6 x7 hb hc=>by
  obtain⟨a5,a6,f1,l1⟩:=loopA hi c b x5 x6 x7 hb (by omega)
  obtain⟨ρ',S',f,⟨y5,y6,y7,hρ⟩,hS',hl1⟩:=zAA (f:=zF) (gf:=gNm 7) (body:=bC) (gs:=[]) (λk (b:List Bk) ρ S'=>(∃x5 x6 x7,ρ=L8 ts rls rs sm S.length (some (zF i)) x5 x6 x7)/\S'=S++[.lst ((sm.map (atR rs)).map zK),.lst (b.map bkM)]/\b.length<=c+12+k * 7) (λb j=>b++(zKH ts rs i j++(List.range rls.length).flatMap (zMV rls rs i j))) (ds:=sm) 0 (λq j hq b ρ S1 ⟨⟨x5,x6,x7,hρ⟩,hS1,hbl⟩=>by
   subst hρ hS1
   have hq1:=(gS0.mp hq).1
   obtain⟨y5,y6,t1,t2⟩:=turnJ hi (hs j (mem_of_getElem? hq)) (c+12+(0+q) * 7) b x5 x6 hbl (by omega)
   refine⟨L8 ts rls rs sm S.length (some (zF i)) y5 y6 (some (zF j)),_,?_,wV _,⟨_,_,_,rfl⟩,rfl,by omega⟩
   rw [show gNm 7 (zF j) (L8 ts rls rs sm S.length (some (zF i)) x5 x6 x7) (Sw S rs sm b)=.ok (L8 ts rls rs sm S.length (some (zF i)) x5 x6 (some (zF j))) (Sw S rs sm b)from rfl,bok]
   exact t1) (b++(List.range rls.length).flatMap (zLK rls rs sm i)) (L8 ts rls rs sm S.length (some (zF i)) a5 a6 x7) (Sw S rs sm (b++(List.range rls.length).flatMap (zLK rls rs sm i))) ⟨⟨_,_,_,rfl⟩,rfl,by omega⟩
  subst hρ hS'
  rw [nE,aA]at f hl1
  refine⟨y5,y6,y7,?_,by omega⟩
  have k1:cV (L8 ts rls rs sm S.length (some (zF i)) x5 x6 x7) (Sw S rs sm b)=.ok (.next (L8 ts rls rs sm S.length (some (zF i)) a5 a6 x7)) (Sw S rs sm (b++(List.range rls.length).flatMap (zLK rls rs sm i))):=by
   unfold cV
   simp? [book1,hgr]
   exact f1
  have k2:cW (L8 ts rls rs sm S.length (some (zF i)) a5 a6 x7) (Sw S rs sm (b++(List.range rls.length).flatMap (zLK rls rs sm i)))=.ok (.next (L8 ts rls rs sm S.length (some (zF i)) y5 y6 y7)) (Sw S rs sm (b++((List.range rls.length).flatMap (zLK rls rs sm i)++sm.flatMap λj=>zKH ts rs i j++(List.range rls.length).flatMap (zMV rls rs i j)))):=by
   unfold cW
   simp? [jQ]
   exact f
  unfold bD
  rw [zD k1,k2]
 obtain⟨ρ',S',f,⟨y4,y5,y6,y7,hρ⟩,hS',hl1⟩:=zAA (f:=zF) (gf:=gNm 4) (body:=bD) (gs:=[]) (λk (b:List Bk) ρ S'=>(∃x4 x5 x6 x7,ρ=L8 ts rls rs sm S.length x4 x5 x6 x7)/\S'=S++[.lst ((sm.map (atR rs)).map zK),.lst (b.map bkM)]/\b.length<=k * 852) (λb i=>b++((List.range rls.length).flatMap (zLK rls rs sm i)++sm.flatMap λj=>zKH ts rs i j++(List.range rls.length).flatMap (zMV rls rs i j))) (ds:=sm) 0 (λq i hq b ρ S1 ⟨⟨x4,x5,x6,x7,hρ⟩,hS1,hbl⟩=>by
  subst hρ hS1
  have hq1:=(gS0.mp hq).1
  obtain⟨y5,y6,y7,t1,t2⟩:=turnI (hs i (mem_of_getElem? hq)) ((0+q) * 852) b x5 x6 x7 hbl (by omega)
  refine⟨L8 ts rls rs sm S.length (some (zF i)) y5 y6 y7,_,?_,wV _,⟨_,_,_,_,rfl⟩,rfl,by omega⟩
  rw [show gNm 4 (zF i) (L8 ts rls rs sm S.length x4 x5 x6 x7) (Sw S rs sm b)=.ok (L8 ts rls rs sm S.length (some (zF i)) x5 x6 x7) (Sw S rs sm b)from rfl,bok]
  exact t1) [] (L8 ts rls rs sm S.length none none none none) (S++[.lst ((sm.map (atR rs)).map zK),.lst []]) ⟨⟨_,_,_,_,rfl⟩,rfl,zero_le _⟩
 subst hρ hS'
 rw [nE,nil_append]at f hl1
 have e3:zBG (L8 ts rls rs sm S.length none none none none) (S++[.lst ((sm.map (atR rs)).map zK),.lst []])=.ok (.next (L8 ts rls rs sm S.length y4 y5 y6 y7)) (Sw S rs sm (zYP ts rls rs sm)):=by
  unfold zBG
  simp? [jQ]
  exact f
 have e4:zBH (L8 ts rls rs sm S.length y4 y5 y6 y7) (Sw S rs sm (zYP ts rls rs sm))=.ok (.ret (.new (R.map bkM))) (Sw S rs sm (zYP ts rls rs sm)):=by
  have:=yGI yDR pR qR (by unfold zYP;omega) (p:=.val (.loc (S.length+1))) (S:=S++[.lst ((sm.map (atR rs)).map zK),.lst ((zYP ts rls rs sm).map bkM)]) (jC (gf _))
  unfold zBH
  simp? [this]
 refine zCE (T:=[.lst ((sm.map (atR rs)).map zK),.lst ((zYP ts rls rs sm).map bkM)]) rfl ?_ (zYN _ _)
 show yG (zFP [some (yH ts rls rs),some (.tup (sm.map zF)),none,none,none,none,none,none] S)=_
 unfold zFP
 rw [zD e1,zD e2,zD e3,e4]
 rfl
end
theorem yLX{S:Sto}{l:Nat}{ds:List MV}(h:S[l]? =some (.lst ds)):zAH [.val (.loc l),.val (.typ "list")] S=.ok (.val (.bl true)) S:=by
 have e:zOX S (.val (.loc l))=some "list":=by
  unfold zOX
  dsimp only
  rw [jC h]
  rfl
 unfold zAH
 dsimp only
 rw [e]
 rfl
theorem yTO{S:Sto}{u n k:Nat}{ds:List MV}(hu:S[u]? =some (.lst ds))(hn:S[n]? =some (.lst ds))(hp: ∀d∈ds,pd d=true/\dpt d<k):eqv S (k+1) (.loc u) (.loc n)=some true:=by
 have e: ∀l,S[l]? =some (.lst ds)->vwE S (.val (.loc l))=some (.ls ds):=λl h=>by
  show(gC S (.val (.loc l))).map Vw.ls=_
  rw [jC h];rfl
 obtain⟨bs,h1,h2⟩:=zNY (e:=eqv S k) (ds:=ds) (es:=ds) λd hd f hf=>zGI k (hp d hd).1 (hp f hf).1 (hp d hd).2
 rw [dT0 rfl,aE]at h2
 unfold eqv
 rw [e u hu,e n hn]
 show(if ds.length=ds.length then(prs (eqv S k) ds ds).map λbs=>bs.all id else some false)=_
 rw [iP rfl,h1]
 show some (bs.all id)=_
 rw [h2.1]
theorem bk_pd(b:Bk):pd (bkM b)=true/\dpt (bkM b)<=1:=by
 have h1:pdL (b.2.map zF)=true:=zRC λd hd=>by obtain⟨i,_,rfl⟩:=mM.mp hd;exact zYB _
 have h2:zPH (b.2.map zF)<=0:=zRD λd hd=>by obtain⟨i,_,rfl⟩:=mM.mp hd;exact le_of_eq (zRB _)
 unfold bkM
 exact⟨by rw [zPI,zCX,yLD,h1];rfl,by rw [zLD,dZ,yFT];omega⟩
theorem yPS(ds:List MV)(S:Sto):neF (.new ds) (.new []) S=.ok (.val (.bl !ds.isEmpty)) S:=by
 cases ds<;>rfl
section
variable{ts:List (Int×Int)}{rls:List Rule}{rs:List Row}
theorem yBH{sm:List Nat}(b:Bk)(h:b∈gA ts rls rs sm):b.2.length<=3:=by
 unfold gA at h
 rcases mem_append.mp h with h|h
 ·obtain⟨i,_,h⟩:=List.mem_flatMap.mp h
  unfold zKF at h
  rcases mem_append.mp h with h|h
  ·obtain⟨k,_,rfl⟩:=mM.mp h;exact(by decide:2<=3)
  ·obtain⟨k,_,rfl⟩:=mM.mp h;exact(by decide:2<=3)
 ·obtain⟨p,_,h⟩:=List.mem_flatMap.mp h
  unfold zKG at h
  rcases mem_append.mp h with h|h
  ·obtain⟨k,_,rfl⟩:=mM.mp h;exact le_refl 3
  ·split at h
   ·rw [mS.mp h];exact(by decide:2<=3)
   ·cases h
theorem yTP(hRl: ∀r∈rls,dA ts r)(hR: ∀r∈rs,ROk ts r)(hrl:rls.length<=6){sm:List Nat}(hs: ∀i∈sm,i<rs.length)(hl:sm.length<=120){R:List Bk}(pR:R.Perm (gA ts rls rs sm))(qR:R.Pairwise λa b=>zYJ b a=false)(S:Sto):
  zT 2 zXQ [.val (yH ts rls rs),.val (.tup (sm.map zF))] S=.ok (.val (.bl (R.map bkM).isEmpty)) S:=by
 refine wA rfl ?_
 show yG (yDJ [some (yH ts rls rs),some (.tup (sm.map zF))] S)=_
 unfold yDJ yAQ
 simp? [yBG hRl hR hrl hs hl pR qR,show∀ds S,nS [.new ds] S=.ok (.val (.int (ds.length:Nat))) S from λ_ _=>rfl]
 have e:decide ((((R.map bkM).length:Nat):Int)=0)=(R.map bkM).isEmpty:=by
  cases R with
  |nil=>rfl
  |cons b R=>exact dF0 (show¬((((b::R).map bkM).length:Nat):Int)=0 from by rw [map_cons,lC];omega)
 rw [e]
 rfl
abbrev D7(ts:List (Int×Int))(rls:List Rule)(rs:List Row)(sm:List Nat)(l:Nat)(x3 x4 x5 x6:Option MV):Rho:=[some (yH ts rls rs),some (.tup (sm.map zF)),some (.loc l),x3,x4,x5,x6]
theorem yIG(hRl: ∀r∈rls,dA ts r)(hR: ∀r∈rs,ROk ts r)(hrl:rls.length<=6){sm:List Nat}(hs: ∀i∈sm,i<rs.length)(hl:sm.length<=120){R:List Bk}(pR:R.Perm (gA ts rls rs sm))(qR:R.Pairwise λa b=>zYJ b a=false)(hRlen:R.length<900000){l:Nat}{S:Sto}(hd:S[l]? =some (.lst (R.map bkM)))(x3 x4 x5 x6:Option MV):
  ∃y4 y5 T,nM (D7 ts rls rs sm l x3 x4 x5 x6) S=.ok (.next (D7 ts rls rs sm l x3 y4 y5 x6)) (S++T):=by
 have hl0:l<S.length:=(gS0.mp hd).1
 have b1:zBJ (D7 ts rls rs sm l x3 x4 x5 x6) S=.ok (.next (D7 ts rls rs sm l x3 (some (.loc S.length)) x5 x6)) (S++[.lst (R.map bkM)]):=by
  unfold zBJ
  simp? [yBG hRl hR hrl hs hl pR qR]
 have g1:(S++[MO.lst (R.map bkM)])[S.length]? =some (.lst (R.map bkM)):=by simp
 have g2:(S++[MO.lst (R.map bkM)])[l]? =some (.lst (R.map bkM)):=by rw [getElem?_append_left hl0];exact hd
 have hne:neF (.val (.loc S.length)) (.val (.loc l)) (S++[.lst (R.map bkM)])=.ok (.val (.bl false)) (S++[.lst (R.map bkM)]):=zJA (yTO g1 g2 λd hd=>by
  obtain⟨b,_,rfl⟩:=mM.mp hd
  have:=bk_pd b
  exact⟨this.1,Nat.lt_of_le_of_lt this.2 (by decide)⟩)
 have b2:zBK (D7 ts rls rs sm l x3 (some (.loc S.length)) x5 x6) (S++[.lst (R.map bkM)])=.ok (.next (D7 ts rls rs sm l x3 (some (.loc S.length)) x5 x6)) (S++[.lst (R.map bkM)]):=by
  unfold zBK
  simp? [yLX g1,hne]
  rfl
 obtain⟨_,o2⟩:=zTQ (f:=bkM) (p:=λ_=>false) (gf:=gNm 5) (body:=zFQ) (gs:=[(S.length,R.map bkM)]) (S:=S++[.lst (R.map bkM)]) (r:=.val (.bl false)) (λρ=> ∃y,ρ=D7 ts rls rs sm l x3 (some (.loc S.length)) y x6) (bW g1) (ds:=R) (λb hbR ρ ⟨y,hρ⟩=>by
  subst hρ
  have hb3:=yBH b (pR.mem_iff.mp hbR)
  refine⟨D7 ts rls rs sm l x3 (some (.loc S.length)) (some (bkM b)) x6,rfl,λh=>(nomatch h),λ_=>⟨D7 ts rls rs sm l x3 (some (.loc S.length)) (some (bkM b)) x6,⟨_,rfl⟩,?_⟩⟩
  have hcut: ∀T,zGC (.val (bkM b)) (some 1) none T=.ok (.val (.tup (b.2.map zF))) T:=λT=>by
   show M.R.ok (Er.val (.tup (wD (.str b.1::b.2.map zF) (some 1) none))) T=_
   rw [show(1:Int)=((1:Nat):Int)from rfl,zPJ]
   rfl
  have hlen:(b.2.map zF).length<1000000:=by rw [lM];omega
  ·have hc:xC (gNm 0) zBI zIQ [none] [] (b.2.map zF) (S++[.lst (R.map bkM)])=.ok [] (S++[.lst (R.map bkM)]):=zVW (wV _) λd hd=>by
    obtain⟨k,_,rfl⟩:=mM.mp hd
    refine⟨[some (zF k)],rfl,?_⟩
    unfold zBI
    simp? [show∀T,zAH [.val (zF k),.val (.typ "bool")] T=.ok (.val (.bl false)) T from λ_=>rfl]
   unfold zFQ zIR
   simp? [show∀T,zAH [.val (bkM b),.val (.typ "tuple")] T=.ok (.val (.bl true)) T from λ_=>rfl,hcut,jQ,show((b.2.map zF).length<1000000)=True from eq_true hlen,show blk 1 [] (D7 ts rls rs sm l x3 (some (.loc S.length)) (some (bkM b)) x6)=[none]from rfl,hc,yHM,yPS]
   rfl
  ) (D7 ts rls rs sm l x3 (some (.loc S.length)) x5 x6) ⟨_,rfl⟩
 obtain⟨ρ',⟨y5,rfl⟩,o2⟩:=o2 (by simp)
 have b3:zBL (D7 ts rls rs sm l x3 (some (.loc S.length)) x5 x6) (S++[.lst (R.map bkM)])=.ok (.next (D7 ts rls rs sm l x3 (some (.loc S.length)) y5 x6)) (S++[.lst (R.map bkM)]):=by
  unfold zBL
  simp? [zKZ g1]
  exact o2
 have b4:zBM (D7 ts rls rs sm l x3 (some (.loc S.length)) y5 x6) (S++[.lst (R.map bkM)])=.ok (.next (D7 ts rls rs sm l x3 (some (.loc S.length)) y5 x6)) (S++[.lst (R.map bkM++[.tup [.str [107,101,121],.int 0,.int 1]])]):=by
  unfold zBM
  simp? [kI g1,tup3,bE g1 (by rw [lM];omega)]
  rw [show List.set (S++[MO.lst (R.map bkM)]) S.length (MO.lst (R.map bkM++[.tup [.str [107,101,121],.int 0,.int 1]]))=S++[MO.lst (R.map bkM++[.tup [.str [107,101,121],.int 0,.int 1]])] by simp]
 refine⟨some (.loc S.length),y5,[.lst (R.map bkM++[.tup [.str [107,101,121],.int 0,.int 1]])],?_⟩
 unfold nM
 rw [zD b1,zD b2,zD b3,b4]
end
section
variable{ts:List (Int×Int)}{rls:List Rule}{rs:List Row}
theorem yIH(hrl:rls.length<=6){sm:List Nat}(hl:sm.length<=120):(gA ts rls rs sm).length<=200000:=by
 have key: ∀{α β:Type}(g:α->List β)(c:Nat)(l:List α),(∀x,(g x).length<=c)->(l.flatMap g).length<=l.length * c:=λ{α β} g c l h=>by
  induction l with
  |nil=>simp
  |cons x l ih=>
   rw [flatMap_cons,lA,lC,Nat.add_mul,Nat.one_mul]
   have:=h x
   omega
 unfold gA
 rw [lA]
 have h1:=key (zKF rls rs sm) 12 sm λi=>le_trans (yGM sm i) (by omega)
 have h2:=key (λp:Nat×Nat=>zKG ts rls rs p.1 p.2) 7 (kK sm) λp=>le_trans (yGN p.1 p.2) (by omega)
 have hpl:(kK sm).length<=14400:=le_trans (pairs_len sm) (le_trans (mul_le_mul hl hl) (by decide))
 omega
theorem yTQ(hRl: ∀r∈rls,dA ts r)(hR: ∀r∈rs,ROk ts r)(hrl:rls.length<=6){sm:List Nat}(hs: ∀i∈sm,i<rs.length)(hl:sm.length<=120)(hsd:sm.Pairwise (· <·))(S:Sto):
  zT 2 zDQ [.val (yH ts rls rs),.val (.tup (sm.map zF))] S=.ok (.val (.bl true)) S:=by
 obtain⟨R,pR,qR⟩:=yGH yDR (gA ts rls rs sm)
 have hRlen:R.length<900000:=by
  have:=pR.length_eq
  have:=yIH (ts:=ts) (rls:=rls) (rs:=rs) hrl hl
  omega
 have e1:zFR [some (yH ts rls rs),some (.tup (sm.map zF)),none,none,none,none,none] S=.ok (.next (D7 ts rls rs sm S.length none none none none)) (S++[.lst (R.map bkM)]):=by
  unfold zFR
  simp? [yIF hRl hR hrl hs hl (pR.trans (yLW hsd).symm) qR]
 have g0: ∀T,(S++[MO.lst (R.map bkM)]++T)[S.length]? =some (.lst (R.map bkM)):=λT=>by simp
 obtain⟨ρ',S',f,x3,x4,x5,T,hρ,hS'⟩:=zMC (L:=(List.range 2).map λk=>MV.int (k:Nat)) (gf:=gNm 3) (body:=nM) (gs:=[]) (S:=S++[.lst (R.map bkM)]) (ρ:=D7 ts rls rs sm S.length none none none none)
  (λ_ ρ S'=> ∃x3 x4 x5 T,ρ=D7 ts rls rs sm S.length x3 x4 x5 none/\S'=S++[.lst (R.map bkM)]++T) (λi d _ ρ S1 ⟨x3,x4,x5,T,hρ,hS1⟩=>by
   subst hρ hS1
   obtain⟨y4,y5,T2,h⟩:=yIG hRl hR hrl hs hl pR qR hRlen (g0 T) (some d) x4 x5 none
   refine⟨D7 ts rls rs sm S.length (some d) y4 y5 none,_,?_,wV _,_,_,_,T++T2,rfl,by rw [<-aA]⟩
   rw [show gNm 3 d (D7 ts rls rs sm S.length x3 x4 x5 none) (S++[.lst (R.map bkM)]++T)=.ok (D7 ts rls rs sm S.length (some d) x4 x5 none) (S++[.lst (R.map bkM)]++T)from rfl,bok]
   exact h) ⟨none,none,none,[],rfl,by rw [aN]⟩
 subst hρ hS'
 have e2:zFS (D7 ts rls rs sm S.length none none none none) (S++[.lst (R.map bkM)])=.ok (.next (D7 ts rls rs sm S.length x3 x4 x5 none)) (S++[.lst (R.map bkM)]++T):=by
  unfold zFS
  simp? [zAI (S:=S++[.lst (R.map bkM)]) (j:=2) (by decide),show(2:Int).toNat=2 from rfl]
  exact f
 have e3:zFT (D7 ts rls rs sm S.length x3 x4 x5 none) (S++[.lst (R.map bkM)]++T)=.ok (.next (D7 ts rls rs sm S.length x3 x4 x5 (some (.bl (R.map bkM).isEmpty)))) (S++[.lst (R.map bkM)]++T):=by
  unfold zFT
  simp? [yTP hRl hR hrl hs hl pR qR]
 have e4:zFU (D7 ts rls rs sm S.length x3 x4 x5 (some (.bl (R.map bkM).isEmpty))) (S++[.lst (R.map bkM)]++T)=.ok (.ret (.val (.bl true))) (S++[.lst (R.map bkM)]++T):=by
  unfold zFU
  simp? [show∀b T,zAH [.val (.bl b),.val (.typ "bool")] T=.ok (.val (.bl true)) T from λ_ _=>rfl,yHM,zTI (g0 T),zXG (S:=S++[.lst (R.map bkM)]++T) (ySH _ (R.map bkM).isEmpty (R.map bkM).isEmpty),zRV]
  cases (R.map bkM).isEmpty<;>rfl
 refine zRI (T:=[.lst (R.map bkM)]++T) rfl ?_
 show yG (zKC [some (yH ts rls rs),some (.tup (sm.map zF)),none,none,none,none,none] S)=_
 unfold zKC
 rw [zD e1,zD e2,zD e3,e4,aA]
 rfl
theorem yLY(hn:rs.length<=120)(c:Int)(S:Sto): ∃sm:List Nat,(∀i∈sm,i<rs.length)/\sm.length<=120/\sm.Pairwise (· <·)/\zT 2 dY [.val (.tup (rs.map zK)),.val (.int c)] S=.ok (.val (.tup (sm.map zF))) S:=by
 have hcond: ∀i:Nat, ∃b,i<rs.length->cX [some (zF i),some (.int c)] S=.ok b S:=λi=>by
  by_cases hi:i<rs.length
  ·obtain⟨n,_,hm⟩:=zTF c ((i:Nat)+7) ⟨by omega,by omega⟩ S
   refine⟨decide (n % 5<3),λ_=>?_⟩
   unfold cX
   simp? [show∀S,wZ (.val (zF i)) (.val (.int 7)) S=.ok (.val (.int ((i:Nat)+7))) S from λ_=>rfl,hm,mod_lit (show(0:Int)<5 by decide),lt_int]
  ·exact⟨true,λh=>absurd h hi⟩
 obtain⟨p,hp⟩:=Classical.axiomOfChoice hcond
 have hrd:(List.range rs.length).Pairwise (· <·):=List.pairwise_lt_range
 refine⟨(List.range rs.length).filter p,λi hi=>mem_range.mp (mem_filter.mp hi).1,le_trans (length_filter_le _ _) (by rw [length_range];exact hn),hrd.sublist List.filter_sublist,?_⟩
 have hc:xC (gNm 0) cX zKB [none,some (.int c)] [] ((List.range rs.length).map zF) S=.ok (((List.range rs.length).filter p).map zF) S:=zMT (wV _) λi hi=>⟨[some (zF i),some (.int c)],rfl,hp i (mem_range.mp hi),rfl⟩
 refine jO rfl ?_ (xX (yPP _ _)) (λl=>by simp)
 show yG (zMR [some (.tup (rs.map zK)),some (.int c)] S)=_
 have e1:zHO [some (.tup (rs.map zK)),some (.int c)] S=.ok (.ret (.val (.tup (((List.range rs.length).filter p).map zF)))) S:=by
  unfold zHO
  simp? [zNW,show((rs.map zK).length:Int)=((rs.length:Nat):Int) by rw [lM],zAI (S:=S) (j:=(rs.length:Nat)) ⟨by omega,by omega⟩,show((rs.length:Nat):Int).toNat=rs.length from rfl,show((List.range rs.length).map λk=>MV.int (k:Nat))=(List.range rs.length).map zF from rfl,show(((List.range rs.length).map zF).length<1000000)=True from eq_true (by rw [lM,length_range];omega),show blk 1 [1] [some (.tup (rs.map zK)),some (.int c)]=[none,some (.int c)]from rfl,hc,zWF]
 unfold zMR
 rw [e1]
 rfl
end
theorem yPT(n:Nat):(yAJ (n:Int)).map MV.int=(List.range n).map zF:=by
 unfold yAJ
 rw [toNat_natCast,map_map]
 rfl
def yLZ(rs:List Row)(d:MV):Prop:= ∃sm:List Nat,d=.tup (sm.map zF)/\(∀i∈sm,i<rs.length)/\sm.length<=120/\sm.Pairwise (· <·)
abbrev E6(ns:List Int)(mo:Nat)(ts:List (Int×Int))(rls:List Rule)(rs:List Row)(c:Int)(l:Nat)(x:Option MV):Rho:=[some (.scr (ns.map MV.int)),some (.int (mo:Nat)),some (yH ts rls rs),some (.int c),some (.loc l),x]
theorem yMA(ns:List Int)(h:ns.length<=63): ∃S,yAR [.scr (ns.map MV.int)] []=.ok (.val (.bl true)) S:=by
 obtain⟨c2,h2⟩:=zDS ns 2 (by decide) []
 obtain⟨n2,_,hm2⟩:=zTF c2 6 ⟨by decide,by decide⟩ []
 obtain⟨mo,hmo,e12⟩: ∃mo:Nat,(mo=12\/mo=60)/\zQZ [some (.scr (ns.map MV.int)),some (.int 12),none,none,none,none] []=.ok (.next [some (.scr (ns.map MV.int)),some (.int (mo:Nat)),none,none,none,none]) []:=by
  by_cases h8:n2 % 8=3
  ·refine⟨60,.inr rfl,?_⟩
   unfold zQZ
   simp? [h2,hm2,mod_lit (show(0:Int)<8 by decide),dT0 h8]
   rfl
  ·refine⟨12,.inl rfl,?_⟩
   unfold zQZ
   simp? [h2,hm2,mod_lit (show(0:Int)<8 by decide),dF0 h8]
   rfl
 have hmo60:mo<=60:=by rcases hmo with e|e<;>omega
 have e1:zXS [some (.scr (ns.map MV.int)),none,none,none,none,none] []=.ok (.next [some (.scr (ns.map MV.int)),some (.int 12),none,none,none,none]) []:=by
  unfold zXS
  simp? [bok]
 obtain⟨ts,rls,rs,hT,hRl,hR,hn,hrl,hb⟩:=yPO ns h mo hmo60
 have e3:zXT [some (.scr (ns.map MV.int)),some (.int (mo:Nat)),none,none,none,none] []=.ok (.next [some (.scr (ns.map MV.int)),some (.int (mo:Nat)),some (yH ts rls rs),none,none,none]) []:=by
  unfold zXT
  simp? [hb]
 obtain⟨c1,h1⟩:=zDS ns 1 (by decide) []
 have e4:zXU [some (.scr (ns.map MV.int)),some (.int (mo:Nat)),some (yH ts rls rs),none,none,none] []=.ok (.next [some (.scr (ns.map MV.int)),some (.int (mo:Nat)),some (yH ts rls rs),some (.int c1),none,none]) []:=by
  unfold zXU
  simp? [h1]
 obtain⟨s1,a1,a2,a3,a4⟩:=yLY hn c1 []
 obtain⟨s2,b1,b2,b3,b4⟩:=yLY hn (c1 / 7+1) []
 have hr0: ∀i∈List.range rs.length,i<rs.length:=λi hi=>mem_range.mp hi
 have hrd:(List.range rs.length).Pairwise (· <·):=List.pairwise_lt_range
 have ok0:yLZ rs (.tup ((List.range rs.length).map zF)):=⟨_,rfl,hr0,by rw [length_range];exact hn,hrd⟩
 have ok1:yLZ rs (.tup []):=⟨[],rfl,λi hi=>(nomatch hi),by decide,.nil⟩
 have ht:yFN [.val (.int ((rs.map zK).length:Nat))] []=.ok (.val (.tup ((List.range rs.length).map zF))) []:=by
  show(if -1000000<=(((rs.map zK).length:Nat):Int)/\(((rs.map zK).length:Nat):Int)<=1000000 then R.ok (Er.val (.tup ((yAJ (((rs.map zK).length:Nat):Int)).map MV.int))) []else .no)=_
  rw [yPT,lM,iP ⟨by omega,by omega⟩]
 have e5:zXV [some (.scr (ns.map MV.int)),some (.int (mo:Nat)),some (yH ts rls rs),some (.int c1),none,none] []=.ok (.next (E6 ns mo ts rls rs c1 0 none)) [.lst [.tup ((List.range rs.length).map zF),.tup [],.tup (s1.map zF),.tup (s2.map zF)]]:=by
  unfold zXV
  simp? [zDT,zNW,ht,show∀S,kM [] S=.ok (.val (.tup [])) S from λS=>zJC (by simp),a4,zKY (show(0:Int)<7 by decide) (by decide),b4,lst4]
  rfl
 generalize hS1:([MO.lst [.tup ((List.range rs.length).map zF),.tup [],.tup (s1.map zF),.tup (s2.map zF)]]:Sto)=S1 at e5
 obtain⟨s3,d1,d2,d3,d4⟩:=yLY hn (c1 / 49+2) S1
 have hcut3:wD (s3.map zF) none (some 3)=(s3.take 3).map zF:=by rw [zNP];rw [show(3:Int)=((3:Nat):Int)from rfl,zLE]
 have ok3:yLZ rs (.tup ((s3.take 3).map zF)):=⟨_,rfl,λi hi=>d1 i (mem_of_mem_take hi),le_trans (List.length_take_le' 3 s3) d2,d3.sublist (List.take_sublist 3 s3)⟩
 have e6:zXW (E6 ns mo ts rls rs c1 0 none) S1=.ok (.next (E6 ns mo ts rls rs c1 0 none)) [.lst [.tup ((List.range rs.length).map zF),.tup [],.tup (s1.map zF),.tup (s2.map zF),.tup ((s3.take 3).map zF)]]:=by
  have g:S1[0]? =some (.lst [.tup ((List.range rs.length).map zF),.tup [],.tup (s1.map zF),.tup (s2.map zF)]):=by rw [<-hS1];rfl
  unfold zXW
  simp? [kI g,zDT,zKY (show(0:Int)<49 by decide) (by decide),d4,zRJ,hcut3,bE g (by simp)]
  rw [<-hS1]
  rfl
 have oks: ∀d∈[MV.tup ((List.range rs.length).map zF),.tup [],.tup (s1.map zF),.tup (s2.map zF),.tup ((s3.take 3).map zF)],yLZ rs d:=λd hd=>by
  simp only [mC,nM0,or_false]at hd
  rcases hd with rfl|rfl|rfl|rfl|rfl
  ·exact ok0
  ·exact ok1
  ·exact⟨s1,rfl,a1,a2,a3⟩
  ·exact⟨s2,rfl,b1,b2,b3⟩
  ·exact ok3
 generalize hds:[MV.tup ((List.range rs.length).map zF),.tup [],.tup (s1.map zF),.tup (s2.map zF),.tup ((s3.take 3).map zF)]=ds at e6 oks
 have hdl:ds.length=5:=by rw [<-hds];rfl
 obtain⟨l,S7,es,e7,g7,ok7⟩: ∃l S7 es,zRA (E6 ns mo ts rls rs c1 0 none) [.lst ds]=.ok (.next (E6 ns mo ts rls rs c1 l none)) S7/\S7[l]? =some (.lst es)/\ ∀d∈es,yLZ rs d:=by
  rcases hmo with rfl|rfl
  ·refine⟨0,[.lst ds],ds,?_,rfl,oks⟩
   unfold zRA
   simp? [bok]
   rfl
  ·refine⟨1,[.lst ds,.lst (wD ds none (some 1)++wD ds (some 4) none)],wD ds none (some 1)++wD ds (some 4) none,?_,rfl,λd hd=>?_⟩
   ·unfold zRA
    simp? [show∀a b,zGC (.val (.loc 0)) a b [.lst ds]=.ok (.new (wD ds a b)) [.lst ds]from λ_ _=>rfl,yKL (S:=[.lst ds]) (p:=.new (wD ds none (some 1))) (q:=.new (wD ds (some 4) none)) rfl rfl (fits (by have:=zSJ ds none (some 1);have:=zSJ ds (some 4) none;omega))]
    rfl
   ·rcases mem_append.mp hd with hd|hd
    ·exact oks d (zNO hd)
    ·exact oks d (zNO hd)
 obtain⟨_,o2⟩:=zTQ (f:=id) (p:=λ_=>false) (gf:=gNm 5) (body:=zXR) (gs:=[(l,es)]) (S:=S7) (r:=.val (.bl false)) (λρ=> ∃y,ρ=E6 ns mo ts rls rs c1 l y) (bW g7) (ds:=es) (λd hd ρ ⟨y,hρ⟩=>by
  subst hρ
  obtain⟨sm,rfl,q1,q2,q3⟩:=ok7 d hd
  refine⟨E6 ns mo ts rls rs c1 l (some (.tup (sm.map zF))),rfl,λh=>(nomatch h),λ_=>⟨E6 ns mo ts rls rs c1 l (some (.tup (sm.map zF))),⟨_,rfl⟩,?_⟩⟩
  unfold zXR zWC
  simp? [yTQ hRl hR hrl q1 q2 q3]
  rfl) (E6 ns mo ts rls rs c1 l none) ⟨_,rfl⟩
 obtain⟨ρ',_,o2⟩:=o2 (by simp)
 rw [List.map_id]at o2
 have e8:zXX (E6 ns mo ts rls rs c1 l none) S7=.ok (.next ρ') S7:=by
  unfold zXX
  simp? [zKZ g7]
  exact o2
 refine⟨S7,?_⟩
 show yG (yLC [some (.scr (ns.map MV.int)),none,none,none,none,none] [])=_
 unfold yLC
 rw [zD e1,zD e12,zD e3,zD e4,zD e5,zD e6,zD e7,zD e8]
 rfl
section
variable{P:Program}{w:World}{K:PySem.W.Frag}{mg:Str->Option Value}{base:Heap}
def top(i:Nat):Stmt:=PySem.Challenge.pw_mendsure_k11_breaks_of_sets.main.body.getD i (.Pass ⟨0,0,0,0⟩)
theorem yMB:FnScope ["self","parts"] ["self","parts"] (zI (inClass (top 7) 0)):=fsK (by decide+kernel)
abbrev zMW:Stmt:=top 1
theorem yBI:FnScope ["thing"] ["thing"] (zI zMW):=fsK (by decide+kernel)
theorem yBJ(D:DefM K mg "is_whole" zMW)(yBX:mg "int"=none)(yC:mg "isinstance"=none)(zKT:mg "bool"=none):(CalM P w K mg base) "is_whole" 1 1 ["thing"] zCG:=
 by have h:=okC (P:=P) (w:=w) (base:=base) D (λ_ _ _ _ _ _ us hl=>match us,hl with |[_],_=>rfl) λf fd F=>okM (k:=0) _ F yBI λcdv A outer s H E hr=>(zN (zQ (zLY (yE bV zGS rfl yC xG (zA (zB 0) (zA (zNG rfl yBX yRZ) zC))) (zOS (yRT (yE bV zGS rfl yC xG (zA (zB 0) (zA (zNG rfl zKT zXF) zC))))))))
    exact h
abbrev zHS:Stmt:=top 3
theorem zUV:FnScope ["side","looked_at"] ["side","looked_at"] (zI zHS):=fsK (by decide+kernel)
theorem zUW(D:DefM K mg "side_value" zHS):(CalM P w K mg base) "side_value" 1 2 ["side","looked_at"] bZ:=
 by have h:=okC (P:=P) (w:=w) (base:=base) D (λ_ _ _ _ _ _ us hl=>match us,hl with |[_,_],_=>rfl) λf fd F=>okM (k:=0) _ F zUV λcdv A outer s H E hr=>(zG (xI (wE hr.units (zO (zB 0) zE) (yR [105,115])) (zN (zQ (zO (zB 0) zE))) yN) (zN (zQ (zO (zO (zO (zB 1) (zO (zB 0) zE)) zE) (zO (zB 0) zE)))))
    exact h
abbrev zPM:Stmt:=top 4
theorem zMX:FnScope zWB ["looked_at","test"] (zI zPM):=fsK (by decide+kernel)
theorem yDT(D:DefM K mg "fulfils" zPM)(zOJ:(CalM P w K mg base) "side_value" 1 2 ["side","looked_at"] bZ)(zUE:(CalM P w K mg base) "is_whole" 1 1 ["thing"] zCG):(CalM P w K mg base) "fulfils" 2 2 ["looked_at","test"] zLB:=
 by have h:=okC (P:=P) (w:=w) (base:=base) D (λ_ _ _ _ _ _ us hl=>match us,hl with |[_,_],_=>rfl) λf fd F=>okM (k:=1) _ F zMX λcdv A outer s H E hr=>(zG (zS 2 zMX.nd (zH zOJ (hr.mono (by decide)) rfl (zA (zO (zB 1) zE) (zA (zB 0) zC)))) (zG (zS 3 zMX.nd (zH zOJ (hr.mono (by decide)) rfl (zA (zO (zB 1) zE) (zA (zB 0) zC)))) (zG (xI (wE hr.units (zO (zB 1) zE) (yR [115,97,109,101])) (zN (zQ (zPW hr.units (zB 2) (zB 3)))) yN) (zG (xI (wE hr.units (zO (zB 1) zE) (yR [117,110,108,105,107,101])) (zN (zQ (pm_ne hr.units (zB 2) (zB 3)))) yN) (zN (zQ (zLY (zH zUE (hr.mono (by decide)) rfl (zA (zB 2) zC)) (zLY (zH zUE (hr.mono (by decide)) rfl (zA (zB 3) zC)) (zOS (pm_lt hr.units (zB 2) (zB 3)))))))))))
    exact h
abbrev nO:Stmt:=top 5
theorem zTU:FnScope ["looked_at","tests"] ["looked_at","tests"] (zI nO):=fsK (by decide+kernel)
theorem zTV(D:DefM K mg "fulfils_all" nO)(yIM:(CalM P w K mg base) "fulfils" 2 2 ["looked_at","test"] zLB)(yBY:mg "all"=none):(CalM P w K mg base) "fulfils_all" 3 2 ["looked_at","tests"] xO:=
 by have h:=okC (P:=P) (w:=w) (base:=base) D (λ_ _ _ _ _ _ us hl=>match us,hl with |[_,_],_=>rfl) λf fd F=>okM (k:=2) _ F zTU λcdv A outer s H E hr=>(zN (zQ (yE zWV (yRX rfl) rfl yBY yRY (zA (wW (zI nO) ["looked_at","tests"] ["test"] [0] (dI (zB 1)) rfl (λ_ _ _ _ hN=>(yV 0 hN)) (λ_ _ _ _=>jN) (λ_ _ _ _=>(zH yIM (hr.mono (by decide)) rfl (zA (zB 1) (zA (zB 0) zC))))) zC))))
    exact h
abbrev zHT:Stmt:=top 6
theorem yBK:FnScope ["row","columns"] ["row","columns"] (zI zHT):=fsK (by decide+kernel)
theorem yBL(D:DefM K mg "cells_in" zHT):(CalM P w K mg base) "cells_in" 1 2 ["row","columns"] zCJ:=
 by have h:=okC (P:=P) (w:=w) (base:=base) D (λ_ _ _ _ _ _ us hl=>match us,hl with |[_,_],_=>rfl) λf fd F=>okM (k:=0) _ F yBK λcdv A outer s H E hr=>(zN (zQ (wW (zI zHT) ["row","columns"] ["column"] [0] (dI (zB 1)) rfl (λ_ _ _ _ hN=>(yV 0 hN)) (λ_ _ _ _=>jN) (λ_ _ _ _=>(zO (zO (zB 1) zE) (zB 0))))))
    exact h
abbrev zQH:Stmt:=inClass (top 7) 1
theorem zYQ:FnScope ["self","row"] ["self","row"] (zI zQH):=fsK (by decide+kernel)
theorem zYR{f:Addr}{fd:FuncData}(F:Fun K "bars" "Rule.bars" zQH f fd):FnOk P w K mg base CX0 1 f fd ["self","row"] (spM ⟨K,mg,P,w⟩ 2 bP):=
 by have h:=okM (P:=P) (w:=w) (mg:=mg) (base:=base) (k:=0) _ F zYQ λcdv A outer s H E hr=>(zN (zQ dB))
    exact h
abbrev zDU:Stmt:=inClass (top 7) 2
theorem zMY:FnScope ["self","row","other"] ["self","row","other"] (zI zDU):=fsK (by decide+kernel)
theorem zMZ{f:Addr}{fd:FuncData}(F:Fun K "parts_them" "Rule.parts_them" zDU f fd):FnOk P w K mg base CX0 1 f fd ["self","row","other"] (spM ⟨K,mg,P,w⟩ 3 xK):=
 by have h:=okM (P:=P) (w:=w) (mg:=mg) (base:=base) (k:=0) _ F zMY λcdv A outer s H E hr=>(zN (zQ dB))
    exact h
abbrev zOF:Stmt:=inClass (top 7) 3
theorem zUX:FnScope ["self","row","rows"] ["self","row","rows"] (zI zOF):=fsK (by decide+kernel)
theorem zUY{f:Addr}{fd:FuncData}(F:Fun K "lacks" "Rule.lacks" zOF f fd):FnOk P w K mg base CX0 1 f fd ["self","row","rows"] (spM ⟨K,mg,P,w⟩ 3 jP):=
 by have h:=okM (P:=P) (w:=w) (mg:=mg) (base:=base) (k:=0) _ F zUX λcdv A outer s H E hr=>(zN (zQ dB))
    exact h
abbrev zOG:Stmt:=inClass (top 8) 0
theorem zUZ:FnScope ["self","row"] ["self","row"] (zI zOG):=fsK (by decide+kernel)
theorem zVA{f:Addr}{fd:FuncData}(F:Fun K "bars" "Never.bars" zOG f fd)(fl_parts:FlB K OCS "parts")(zFZ:(CalM P w K mg base) "fulfils_all" 3 2 ["looked_at","tests"] xO):FnOk P w K mg base CX0 4 f fd ["self","row"] (spM ⟨K,mg,P,w⟩ 2 zGY):=
 by have h:=okM (P:=P) (w:=w) (mg:=mg) (base:=base) (k:=3) _ F zUZ λcdv A outer s H E hr=>(zN (zQ (zLY (zPW hr.units (zO (zB 1) zE) (zO (zBT fl_parts (zB 0)) zE)) (zOS (zH zFZ (hr.mono (by decide)) rfl (zA (wH (zA (zB 1) zC)) (zA (zO (zBT fl_parts (zB 0)) zE) zC)))))))
    exact h
abbrev dC:Stmt:=inClass (top 9) 0
theorem zHU:FnScope ["self","row","other"] ["self","row","other"] (zI dC):=fsK (by decide+kernel)
theorem zHV{f:Addr}{fd:FuncData}(F:Fun K "parts_in_turn" "Apart.parts_in_turn" dC f fd)(fl_parts:FlB K OCS "parts")(zFZ:(CalM P w K mg base) "fulfils_all" 3 2 ["looked_at","tests"] xO):FnOk P w K mg base CX0 4 f fd ["self","row","other"] (spM ⟨K,mg,P,w⟩ 3 wC):=
 by have h:=okM (P:=P) (w:=w) (mg:=mg) (base:=base) (k:=3) _ F zHU λcdv A outer s H E hr=>(zG (xI (nQ (zNH (zNL hr.units (zO (zB 1) zE) (zO (zBT fl_parts (zB 0)) zE)) (zIX (zNL hr.units (zO (zB 2) zE) (zO (zBT fl_parts (zB 0)) zE))))) (zN (zQ dB)) yN) (zN (zQ (zH zFZ (hr.mono (by decide)) rfl (zA (wH (zA (zB 1) (zA (zB 2) zC))) (zA (zO (zBT fl_parts (zB 0)) zE) zC))))))
    exact h
abbrev zCZ:Stmt:=inClass (top 9) 1
theorem zLL:FnScope ["self","row","other"] ["self","row","other"] (zI zCZ):=fsK (by decide+kernel)
theorem zLM{f:Addr}{fd:FuncData}(F:Fun K "parts_them" "Apart.parts_them" zCZ f fd)(T_parts_in_turn:MtB P w K mg base "parts_in_turn" 4 3 xT):FnOk P w K mg base CX0 5 f fd ["self","row","other"] (spM ⟨K,mg,P,w⟩ 3 bH):=
 by have h:=okM (P:=P) (w:=w) (mg:=mg) (base:=base) (k:=4) _ F zLL λcdv A outer s H E hr=>(zN (zQ (pm_or (zJF T_parts_in_turn (hr.mono (by decide)) (zB 0) (zA (zB 1) (zA (zB 2) zC))) (zOS (zJF T_parts_in_turn (hr.mono (by decide)) (zB 0) (zA (zB 2) (zA (zB 1) zC)))))))
    exact h
abbrev zQI:Stmt:=inClass (top 10) 0
theorem zHW:FnScope zQB ["self","row","rows"] (zI zQI):=fsK (by decide+kernel)
theorem zYS{f:Addr}{fd:FuncData}(F:Fun K "lacks" "Tie.lacks" zQI f fd)(fl_parts:FlB K OCS "parts")(zUG:(CalM P w K mg base) "cells_in" 1 2 ["row","columns"] zCJ):FnOk P w K mg base CX0 2 f fd ["self","row","rows"] (spM ⟨K,mg,P,w⟩ 3 zDK):=
 by have h:=okM (P:=P) (w:=w) (mg:=mg) (base:=base) (k:=1) _ F zHW λcdv A outer s H E hr=>(zG (xI (zNL hr.units (zO (zB 1) zE) (zO (zBT fl_parts (zB 0)) zE)) (zN (zQ dB)) yN) (zG (zS 3 zHW.nd (zH zUG (hr.mono (by decide)) rfl (zA (zB 1) (zA (zO (zBT fl_parts (zB 0)) zE) zC)))) (zG (kH PassesOwn.never rfl (zDE (zB 2)) (yL 4 zHW.nd) (zN (xI (nQ (zDY (wE hr.units (zO (zB 4) zE) (zO (zBT fl_parts (zB 0)) zE)) (zBQ (wE hr.units (zH zUG (hr.mono (by decide)) rfl (zA (zB 4) (zA (zO (zBT fl_parts (zB 0)) zE) zC))) (zB 3))))) (zN (zQ dB)) yN))) (zN (zQ dB)))))
    exact h
abbrev zPN:Stmt:=top 11
theorem yDU:FnScope ["parts"] ["parts"] (zI zPN):=fsK (by decide+kernel)
theorem yDV(D:DefM K mg "rule_of" zPN)(mkb_Never:MkB P w K mg base "Never" "parts")(mkb_Apart:MkB P w K mg base "Apart" "parts")(mkb_Tie:MkB P w K mg base "Tie" "parts"):(CalM P w K mg base) "rule_of" 3 1 ["parts"] zLC:=
 by have h:=okC (P:=P) (w:=w) (base:=base) D (λ_ _ _ _ _ _ us hl=>match us,hl with |[_],_=>rfl) λf fd F=>okM (k:=2) _ F yDU λcdv A outer s H E hr=>(zG (xI (wE hr.units (zO (zB 0) zE) (yR [110,101,118,101,114])) (zN (zQ (zSU mkb_Never (hr.mono (by decide)) rfl (zB 0)))) yN) (zG (xI (wE hr.units (zO (zB 0) zE) (yR [97,112,97,114,116])) (zN (zQ (zSU mkb_Apart (hr.mono (by decide)) rfl (zB 0)))) yN) (zN (zQ (zSU mkb_Tie (hr.mono (by decide)) rfl (zB 0))))))
    exact h
abbrev zHX:Stmt:=top 13
theorem yBM:FnScope ["book"] ["book"] (zI zHX):=fsK (by decide+kernel)
theorem yBN(D:DefM K mg "rules_of" zHX)(yIL:(CalM P w K mg base) "rule_of" 3 1 ["parts"] zLC):(CalM P w K mg base) "rules_of" 4 1 ["book"] zHA:=
 by have h:=okC (P:=P) (w:=w) (base:=base) D (λ_ _ _ _ _ _ us hl=>match us,hl with |[_],_=>rfl) λf fd F=>okM (k:=3) _ F yBM λcdv A outer s H E hr=>(zN (zQ (wW (zI zHX) ["book"] ["parts"] [] (dI (zO (zB 0) zE)) rfl (λ_ _ _ _ hN=>(yV 0 hN)) (λ_ _ _ _=>jN) (λ_ _ _ _=>(zH yIL (hr.mono (by decide)) rfl (zA (zB 0) zC))))))
    exact h
abbrev zHY:Stmt:=top 14
theorem zDV:FnScope zME ["rows"] (zI zHY):=fsK (by decide+kernel)
theorem yBO(D:DefM K mg "pairs_of" zHY)(yT:mg "enumerate"=none):(CalM P w K mg base) "pairs_of" 1 1 ["rows"] zHE:=
 by have h:=okC (P:=P) (w:=w) (base:=base) D (λ_ _ _ _ _ _ us hl=>match us,hl with |[_],_=>rfl) λf fd F=>okM (k:=0) _ F zDV λcdv A outer s H E hr=>(zG (zS 1 zDV.nd (wH zC)) (zG (kH PassesOwn.never rfl (zLA rfl yT (zA (zB 0) zC)) (zMA (n:=2) rfl (kG (yL 2 zDV.nd) (kG (yL 3 zDV.nd) zLZ))) (zN (kF (zPD (zB 1) (zA (wW (zI zHY) zME ["j"] [3] (dI (zAG (zB 0) (gT (yS (zB 2) zE)) gS)) rfl (λ_ _ _ _ hN=>(yV 0 hN)) (λ_ _ _ _=>jN) (λ_ _ _ _=>(xA (zA (zB 1) (zA (zB 0) zC))))) zC))))) (zN (zQ (zB 1)))))
    exact h
abbrev zTW:Stmt:=top 15
theorem yII:FnScope ["tables","row"] ["tables","row"] (zI zTW):=fsK (by decide+kernel)
theorem yIJ(D:DefM K mg "key_of" zTW):(CalM P w K mg base) "key_of" 1 2 ["tables","row"] zJV:=
 by have h:=okC (P:=P) (w:=w) (base:=base) D (λ_ _ _ _ _ _ us hl=>match us,hl with |[_,_],_=>rfl) λf fd F=>okM (k:=0) _ F yII λcdv A outer s H E hr=>(zN (zQ (xA (zA (zO (zB 1) zE) (zA (zAG (zO (zB 1) zE) gS (gT (zO (zO (zB 0) (zO (zB 1) zE)) zE))) zC)))))
    exact h
abbrev wM:Stmt:=top 16
theorem jR:FnScope kN ["book","rules","rows","i"] (zI wM):=fsK (by decide+kernel)
theorem zPO(D:DefM K mg "breaks_of_one" wM)(yT:mg "enumerate"=none)(T_bars:MtB P w K mg base "bars" 4 2 zDL)(T_lacks:MtB P w K mg base "lacks" 2 3 zGG):(CalM P w K mg base) "breaks_of_one" 5 4 ["book","rules","rows","i"] gU:=
 by have h:=okC (P:=P) (w:=w) (base:=base) D (λ_ _ _ _ _ _ us hl=>match us,hl with |[_,_,_,_],_=>rfl) λf fd F=>okM (k:=4) _ F jR λcdv A outer s H E hr=>(zG (zS 4 jR.nd (zO (zO (zB 0) zE) (zB 3))) (zG (zS 5 jR.nd (wW (zI wM) kN ["j"] [0] (dI (zB 2)) rfl (λ_ _ _ _ hN=>(yV 0 hN)) (λ_ _ _ _=>jN) (λ_ _ _ _=>(zO (zO (zB 1) zE) (zB 0))))) (zG (zQU 6 jR.nd (zI wM) kN ["k","rule"] [3,4] (zLA rfl yT (zA (zB 1) zC)) rfl (λ_ _ _ _ hN=>(yCX (n:=2) rfl (zKW (yV 0 hN) (zKW (yV 1 hN) yCW)))) (λ_ _ _ _=>(zGQ (wO (zJF T_bars (hr.mono (by decide)) (zB 1) (zA (zB 3) zC))))) (λ_ _ _ _=>(xA (zA (yR [110,101,118,101,114]) (zA (zB 2) (zA (zB 0) zC)))))) (zN (zQ (yS (zB 6) (wW (zI wM) kN ["k","rule"] [3,4,5] (zLA rfl yT (zA (zB 1) zC)) rfl (λ_ _ _ _ hN=>(yCX (n:=2) rfl (zKW (yV 0 hN) (zKW (yV 1 hN) yCW)))) (λ_ _ _ _=>(zGQ (wO (zJF T_lacks (hr.mono (by decide)) (zB 1) (zA (zB 3) (zA (zB 4) zC)))))) (λ_ _ _ _=>(xA (zA (yR [116,105,101]) (zA (zB 2) (zA (zB 0) zC))))))))))))
    exact h
abbrev bF:Stmt:=top 17
theorem jS:FnScope zAJ ["book","rules","i","j"] (zI bF):=fsK (by decide+kernel)
theorem zPP(D:DefM K mg "breaks_of_two" bF)(yT:mg "enumerate"=none)(T_parts_them:MtB P w K mg base "parts_them" 5 3 xR)(yCC:(CalM P w K mg base) "key_of" 1 2 ["tables","row"] zJV):(CalM P w K mg base) "breaks_of_two" 6 4 ["book","rules","i","j"] gV:=
 by have h:=okC (P:=P) (w:=w) (base:=base) D (λ_ _ _ _ _ _ us hl=>match us,hl with |[_,_,_,_],_=>rfl) λf fd F=>okM (k:=5) _ F jS λcdv A outer s H E hr=>(zG (zS 4 jS.nd (zO (zO (zB 0) zE) (zB 2))) (zG (zS 5 jS.nd (zO (zO (zB 0) zE) (zB 3))) (zG (zQU 6 jS.nd (zI bF) zAJ ["k","rule"] [2,3,4,5] (zLA rfl yT (zA (zB 1) zC)) rfl (λ_ _ _ _ hN=>(yCX (n:=2) rfl (zKW (yV 0 hN) (zKW (yV 1 hN) yCW)))) (λ_ _ _ _=>(zGQ (wO (zJF T_parts_them (hr.mono (by decide)) (zB 1) (zA (zB 4) (zA (zB 5) zC)))))) (λ_ _ _ _=>(xA (zA (yR [97,112,97,114,116]) (zA (zB 2) (zA (zB 3) (zA (zB 0) zC))))))) (zG (xI (wE hr.units (zH yCC (hr.mono (by decide)) rfl (zA (zO (zB 0) zE) (zA (zB 4) zC))) (zH yCC (hr.mono (by decide)) rfl (zA (zO (zB 0) zE) (zA (zB 5) zC)))) (zN (kF (wK (zB 6) (zA (xA (zA (yR [107,101,121]) (zA (zB 2) (zA (zB 3) zC)))) zC)))) yN) (zN (zQ (zB 6)))))))
    exact h
abbrev zTX:Stmt:=top 18
theorem zBX:FnScope yAO ["book","rows"] (zI zTX):=fsK (by decide+kernel)
theorem yIK(D:DefM K mg "breaks" zTX)(yDX:(CalM P w K mg base) "rules_of" 4 1 ["book"] zHA)(zQS:(CalM P w K mg base) "breaks_of_one" 5 4 ["book","rules","rows","i"] gU)(yDY:(CalM P w K mg base) "pairs_of" 1 1 ["rows"] zHE)(zQR:(CalM P w K mg base) "breaks_of_two" 6 4 ["book","rules","i","j"] gV)(zDC:mg "sorted"=none):(CalM P w K mg base) "breaks" 7 2 ["book","rows"] zGH:=
 by have h:=okC (P:=P) (w:=w) (base:=base) D (λ_ _ _ _ _ _ us hl=>match us,hl with |[_,_],_=>rfl) λf fd F=>okM (k:=6) _ F zBX λcdv A outer s H E hr=>(zG (zS 2 zBX.nd (zH yDX (hr.mono (by decide)) rfl (zA (zB 0) zC))) (zG (zS 3 zBX.nd (wH zC)) (zG (kH PassesOwn.never rfl (dI (zB 1)) (yL 4 zBX.nd) (zN (kF (zPD (zB 3) (zA (zH zQS (hr.mono (by decide)) rfl (zA (zB 0) (zA (zB 2) (zA (zB 1) (zA (zB 4) zC))))) zC))))) (zG (kH PassesOwn.never rfl (zDE (zH yDY (hr.mono (by decide)) rfl (zA (zB 1) zC))) (zMA (n:=2) rfl (kG (yL 4 zBX.nd) (kG (yL 5 zBX.nd) zLZ))) (zN (kF (zPD (zB 3) (zA (zH zQR (hr.mono (by decide)) rfl (zA (zB 0) (zA (zB 2) (zA (zB 4) (zA (zB 5) zC))))) zC))))) (zN (zQ (yE (zWA hr.u128) yFS rfl zDC zSR (zA (zB 3) zC))))))))
    exact h
abbrev yDW:Stmt:=top 19
theorem yPU:FnScope ["book","rows"] ["book","rows"] (zI yDW):=fsK (by decide+kernel)
theorem yPV(D:DefM K mg "good" yDW)(zUH:(CalM P w K mg base) "breaks" 7 2 ["book","rows"] zGH)(kQ:mg "len"=none):(CalM P w K mg base) "good" 8 2 ["book","rows"] zXQ:=
 by have h:=okC (P:=P) (w:=w) (base:=base) D (λ_ _ _ _ _ _ us hl=>match us,hl with |[_,_],_=>rfl) λf fd F=>okM (k:=7) _ F yPU λcdv A outer s H E hr=>(zN (zQ (zPW hr.units (yE xS dL rfl kQ dN (zA (zH zUH (hr.mono (by decide)) rfl (zA (zB 0) (zA (zB 1) zC))) zC)) zE)))
    exact h
abbrev zDA:Stmt:=top 21
theorem zQO:FnScope ["_law_script","_law_k"] ["_law_script","_law_k"] (zI zDA):=fsK (by decide+kernel)
theorem zQP(D:DefM K mg "_law_cell_at" zDA)(kQ:mg "len"=none):(CalM P w K mg base) "_law_cell_at" 1 2 ["_law_script","_law_k"] zY:=
 by have h:=okC (P:=P) (w:=w) (base:=base) D (λ_ _ _ _ _ _ us hl=>match us,hl with |[_,_],_=>rfl) λf fd F=>okM (k:=0) _ F zQO λcdv A outer s H E hr=>(zG (xI (zZU hr.units (zB 1) (yE xS dL rfl kQ dN (zA (zB 0) zC))) (zN (zQ (zO (zB 0) (zB 1)))) yN) (zN (zQ zE)))
    exact h
abbrev zNA:Stmt:=top 22
theorem zKI:FnScope zMF ["_law_cell","_law_k"] (zI zNA):=fsK (by decide+kernel)
theorem yBP(D:DefM K mg "_law_mix" zNA):(CalM P w K mg base) "_law_mix" 1 2 ["_law_cell","_law_k"] xE:=
 by have h:=okC (P:=P) (w:=w) (base:=base) D (λ_ _ _ _ _ _ us hl=>match us,hl with |[_,_],_=>rfl) λf fd F=>okM (k:=0) _ F zKI λcdv A outer s H E hr=>(zG (zS 2 zKI.nd (zGR (yS (yS (yS (zGR (zB 0) zE) (zAF (zAF zE (zB 1)) (zB 1))) (zAF zE (zB 1))) zE) zE)) (zG (zS 2 zKI.nd (zGR (yS (yS (zAF (zB 2) (zB 2)) (zAF zE (zB 2))) zE) zE)) (zN (zQ (zGR (yS (yS (zAF (zB 2) (zB 2)) (zAF zE (zB 2))) zE) zE)))))
    exact h
abbrev zKJ:Stmt:=top 23
theorem zOH:FnScope zDH ["_law_well_here","_law_many"] (zI zKJ):=fsK (by decide+kernel)
theorem zYT(D:DefM K mg "_law_take" zKJ):(CalM P w K mg base) "_law_take" 1 2 ["_law_well_here","_law_many"] zL:=
 by have h:=okC (P:=P) (w:=w) (base:=base) D (λ_ _ _ _ _ _ us hl=>match us,hl with |[_,_],_=>rfl) λf fd F=>okM (k:=0) _ F zOH λcdv A outer s H E hr=>(zG (zS 2 zOH.nd (zGR (zO (zB 0) zE) (zB 1))) (zG (yJP (zSA (zO (zB 0) zE) (zB 1)) (ySA (zB 0) zE)) (zN (zQ (zB 2)))))
    exact h
abbrev zKK:Stmt:=top 24
theorem zBU:FnScope zJG ["_law_cell","_law_k"] (zI zKK):=fsK (by decide+kernel)
theorem zYU(D:DefM K mg "_law_well" zKK)(yQ:mg "range"=none)(jI:(CalM P w K mg base) "_law_mix" 1 2 ["_law_cell","_law_k"] xE):(CalM P w K mg base) "_law_well" 2 2 ["_law_cell","_law_k"] yI:=
 by have h:=okC (P:=P) (w:=w) (base:=base) D (λ_ _ _ _ _ _ us hl=>match us,hl with |[_,_],_=>rfl) λf fd F=>okM (k:=1) _ F zBU λcdv A outer s H E hr=>(zG (xI (wE hr.units (zGR (zB 0) zE) zE) (zN (zQ (wH (zA (zSA (zB 0) zE) zC)))) yN) (zG (zS 2 zBU.nd zE) (zG (kH PassesOwn.never rfl (wI rfl yQ (zA zE zC)) (yL 3 zBU.nd) (zN (zS 2 zBU.nd (yS (zAF (zB 2) zE) (zH jI (hr.mono (by decide)) rfl (zA (zSA (zB 0) zE) (zA (yS (yS zE (zAF zE (zB 1))) (zB 3)) zC))))))) (zN (zQ (wH (zA (zB 2) zC)))))))
    exact h
abbrev zAB:Stmt:=top 25
theorem jT:FnScope nV ["_law_well_here","_law_pool_here"] (zI zAB):=fsK (by decide+kernel)
theorem zYV(D:DefM K mg "_law_word" zAB)(zQK:mg "str"=none)(yC:mg "isinstance"=none)(yQ:mg "range"=none)(zP:(CalM P w K mg base) "_law_take" 1 2 ["_law_well_here","_law_many"] zL)(kQ:mg "len"=none)(yCA:mg "min"=none):(CalM P w K mg base) "_law_word" 2 2 ["_law_well_here","_law_pool_here"] jG:=
 by have h:=okC (P:=P) (w:=w) (base:=base) D (λ_ _ _ _ _ _ us hl=>match us,hl with |[_,_],_=>rfl) λf fd F=>okM (k:=1) _ F jT λcdv A outer s H E hr=>(zG (zS 2 jT.nd (yR [97,98,99,100,101,102,103,104,105,106,107,108,109,110,111,112,113,114,115,116,117,118,119,120,121,122])) (zG (zQU 3 jT.nd (zI zAB) nV ["_law_value_here"] [] (zDE (zB 1)) rfl (λ_ _ _ _ hN=>(yV 0 hN)) (λ_ _ _ _=>(zGQ (wO (yE bV zGS rfl yC xG (zA (zB 0) (zA (zNG rfl zQK yDD) zC)))))) (λ_ _ _ _=>(zB 0))) (zG (zS 4 jT.nd (yOV (yR []) (zA (wW (zI zAB) nV ["_law_k"] [0,2] (wI rfl yQ (zA (yS zE (zH zP (hr.mono (by decide)) rfl (zA (zB 0) (zA zE zC)))) zC)) rfl (λ_ _ _ _ hN=>(yV 0 hN)) (λ_ _ _ _=>jN) (λ_ _ _ _=>(zO (zB 2) (zH zP (hr.mono (by decide)) rfl (zA (zB 1) (zA zE zC)))))) zC))) (zG (zS 5 jT.nd (zH zP (hr.mono (by decide)) rfl (zA (zB 0) (zA zE zC)))) (zG (xI (nQ (zNH (wE hr.units (zB 5) zE) (zIX (wE hr.units (zB 3) (wH zC))))) (zN (zQ (zB 4))) yN) (zG (xI (wE hr.units (zB 5) zE) (zN (zQ (zAG (yS (zO (zB 3) zRS) (zB 4)) gS (gT (yE (yGT rfl) yTB rfl yCA yTC (zA zE (zA (yS (yE xS dL rfl kQ dN (zA (zO (zB 3) zRS) zC)) zE) zC))))))) yN) (zG (zS 6 jT.nd (zH zP (hr.mono (by decide)) rfl (zA (zB 0) (zA (yE xS dL rfl kQ dN (zA (zO (zB 3) zRS) zC)) zC)))) (zN (zQ (yS (yS (zAG (zO (zB 3) zRS) gS (gT (zB 6))) (zO (zB 4) zE)) (zAG (zO (zB 3) zRS) (gT (yS (zB 6) zE)) gS)))))))))))
    exact h
abbrev zKL:Stmt:=top 26
theorem wS:FnScope zJH ["_law_cell"] (zI zKL):=fsK (by decide+kernel)
theorem zYW(D:DefM K mg "_law_pool" zKL)(wU:(CalM P w K mg base) "_law_well" 2 2 ["_law_cell","_law_k"] yI)(yQ:mg "range"=none)(zP:(CalM P w K mg base) "_law_take" 1 2 ["_law_well_here","_law_many"] zL)(yBZ:(CalM P w K mg base) "_law_word" 2 2 ["_law_well_here","_law_pool_here"] jG):(CalM P w K mg base) "_law_pool" 3 1 ["_law_cell"] bR:=
 by have h:=okC (P:=P) (w:=w) (base:=base) D (λ_ _ _ _ _ _ us hl=>match us,hl with |[_],_=>rfl) λf fd F=>okM (k:=2) _ F wS λcdv A outer s H E hr=>(zG (zS 1 wS.nd (zH wU (hr.mono (by decide)) rfl (zA (zB 0) (zA zE zC)))) (zG (zS 2 wS.nd (wH zC)) (zG (kH PassesOwn.never rfl (wI rfl yQ (zA (yS zE (zH zP (hr.mono (by decide)) rfl (zA (zB 1) (zA zE zC)))) zC)) (yL 3 wS.nd) (zG (zS 4 wS.nd (zH zP (hr.mono (by decide)) rfl (zA (zB 1) (zA zE zC)))) (zG (zS 5 wS.nd (yDC (zH zP (hr.mono (by decide)) rfl (zA (zB 1) (zA zE zC))) zE)) (zG (xI (wE hr.units (zB 4) zE) (zN (zS 5 wS.nd (yS (yDC (zH zP (hr.mono (by decide)) rfl (zA (zB 1) (zA (yDC (zAF zE (yJW zE zE)) zE) zC))) (yJW zE zE)) zE))) yN) (zG (xI (nQ (zNH (wE hr.units (zB 4) zE) (zIX (wE hr.units (zB 4) zE)))) (zN (zS 5 wS.nd (zH yBZ (hr.mono (by decide)) rfl (zA (zB 1) (zA (zB 2) zC))))) yN) (zN (xI (zZW hr.units (zB 5) (zB 2)) (zN (kF (wK (zB 2) (zA (zB 5) zC)))) yN))))))) (zN (zQ (zB 2))))))
    exact h
abbrev zFW:Stmt:=top 27
theorem kB:FnScope zEA ["_law_cell"] (zI zFW):=fsK (by decide+kernel)
theorem zTY(D:DefM K mg "_law_tables" zFW)(wU:(CalM P w K mg base) "_law_well" 2 2 ["_law_cell","_law_k"] yI)(yQ:mg "range"=none)(zP:(CalM P w K mg base) "_law_take" 1 2 ["_law_well_here","_law_many"] zL)(xB:mg "tuple"=none):(CalM P w K mg base) "_law_tables" 3 1 ["_law_cell"] kS:=
 by have h:=okC (P:=P) (w:=w) (base:=base) D (λ_ _ _ _ _ _ us hl=>match us,hl with |[_],_=>rfl) λf fd F=>okM (k:=2) _ F kB λcdv A outer s H E hr=>(zG (zS 1 kB.nd (zH wU (hr.mono (by decide)) rfl (zA (zB 0) (zA zE zC)))) (zG (zS 2 kB.nd (wH zC)) (zG (kH PassesOwn.never rfl (wI rfl yQ (zA (yS zE (zH zP (hr.mono (by decide)) rfl (zA (zB 1) (zA zE zC)))) zC)) (yL 3 kB.nd) (zG (zS 4 kB.nd (yS zE (zH zP (hr.mono (by decide)) rfl (zA (zB 1) (zA zE zC))))) (zG (zS 5 kB.nd (zO (wH (zA zE (zA zE (zA zE (zA (zB 4) (zA (zH zP (hr.mono (by decide)) rfl (zA (zB 1) (zA (yS (zB 4) zE) zC))) zC)))))) (zH zP (hr.mono (by decide)) rfl (zA (zB 1) (zA zE zC))))) (zN (kF (wK (zB 2) (zA (xA (zA (zB 4) (zA (zB 5) zC))) zC))))))) (zN (zQ (jM xN nT rfl xB gD (zA (zB 2) zC)))))))
    exact h
abbrev zHZ:Stmt:=top 28
theorem zKM:FnScope zGU ["_law_cell","_law_tables_here","_law_pool_here"] (zI zHZ):=fsK (by decide+kernel)
theorem yBQ(D:DefM K mg "_law_row" zHZ)(wU:(CalM P w K mg base) "_law_well" 2 2 ["_law_cell","_law_k"] yI)(zP:(CalM P w K mg base) "_law_take" 1 2 ["_law_well_here","_law_many"] zL)(kQ:mg "len"=none)(yQ:mg "range"=none)(xB:mg "tuple"=none):(CalM P w K mg base) "_law_row" 3 3 ["_law_cell","_law_tables_here","_law_pool_here"] dQ:=
 by have h:=okC (P:=P) (w:=w) (base:=base) D (λ_ _ _ _ _ _ us hl=>match us,hl with |[_,_,_],_=>rfl) λf fd F=>okM (k:=2) _ F zKM λcdv A outer s H E hr=>(zG (zS 3 zKM.nd (zH wU (hr.mono (by decide)) rfl (zA (zB 0) (zA zE zC)))) (zG (zS 4 zKM.nd (zH zP (hr.mono (by decide)) rfl (zA (zB 3) (zA (yE xS dL rfl kQ dN (zA (zB 1) zC)) zC)))) (zN (zQ (xA (zA (zB 4) (zA (jM xN nT rfl xB gD (zA (wW (zI zHZ) zGU ["_law_k"] [2,3] (wI rfl yQ (zA (zO (zO (zB 1) (zB 4)) zE) zC)) rfl (λ_ _ _ _ hN=>(yV 0 hN)) (λ_ _ _ _=>jN) (λ_ _ _ _=>(zO (zB 1) (zH zP (hr.mono (by decide)) rfl (zA (zB 2) (zA (yE xS dL rfl kQ dN (zA (zB 1) zC)) zC)))))) zC)) zC)))))))
    exact h
abbrev zKN:Stmt:=top 29
theorem zBV:FnScope zJI ["_law_cells","_law_tables_here","_law_pool_here","_law_most"] (zI zKN):=fsK (by decide+kernel)
theorem zYX(D:DefM K mg "_law_rows" zKN)(yDZ:(CalM P w K mg base) "_law_row" 3 3 ["_law_cell","_law_tables_here","_law_pool_here"] dQ)(kQ:mg "len"=none)(xB:mg "tuple"=none):(CalM P w K mg base) "_law_rows" 4 4 ["_law_cells","_law_tables_here","_law_pool_here","_law_most"] bS:=
 by have h:=okC (P:=P) (w:=w) (base:=base) D (λ_ _ _ _ _ _ us hl=>match us,hl with |[_,_,_,_],_=>rfl) λf fd F=>okM (k:=3) _ F zBV λcdv A outer s H E hr=>(zG (zS 4 zBV.nd (wH zC)) (zG (kH PassesOwn.never rfl (zDE (zB 0)) (yL 5 zBV.nd) (zG (zS 6 zBV.nd (zH yDZ (hr.mono (by decide)) rfl (zA (zB 5) (zA (zB 1) (zA (zB 2) zC))))) (zN (xI (nQ (zDY (zZW hr.units (zB 6) (zB 4)) (zBQ (zZU hr.units (yE xS dL rfl kQ dN (zA (zB 4) zC)) (zB 3))))) (zN (kF (wK (zB 4) (zA (zB 6) zC)))) yN)))) (zN (zQ (jM xN nT rfl xB gD (zA (zB 4) zC))))))
    exact h
abbrev zKO:Stmt:=top 30
theorem zOI:FnScope zJJ ["_law_well_here","_law_there","_law_tables_here","_law_pool_here"] (zI zKO):=fsK (by decide+kernel)
theorem zYY(D:DefM K mg "_law_side" zKO)(zP:(CalM P w K mg base) "_law_take" 1 2 ["_law_well_here","_law_many"] zL)(kQ:mg "len"=none):(CalM P w K mg base) "_law_side" 2 4 ["_law_well_here","_law_there","_law_tables_here","_law_pool_here"] wQ:=
 by have h:=okC (P:=P) (w:=w) (base:=base) D (λ_ _ _ _ _ _ us hl=>match us,hl with |[_,_,_,_],_=>rfl) λf fd F=>okM (k:=1) _ F zOI λcdv A outer s H E hr=>(zG (xI (wE hr.units (zH zP (hr.mono (by decide)) rfl (zA (zB 0) (zA zE zC))) zE) (zN (zQ (xA (zA (yR [105,115]) (zA (zO (zB 3) (zH zP (hr.mono (by decide)) rfl (zA (zB 0) (zA (yE xS dL rfl kQ dN (zA (zB 3) zC)) zC)))) zC))))) yN) (zG (zS 4 zOI.nd (zH zP (hr.mono (by decide)) rfl (zA (zB 0) (zA (yE xS dL rfl kQ dN (zA (zB 1) zC)) zC)))) (zN (zQ (xA (zA (yR [99,101,108,108]) (zA (zB 4) (zA (zH zP (hr.mono (by decide)) rfl (zA (zB 0) (zA (zO (zO (zB 2) (zO (zB 1) (zB 4))) zE) zC))) zC))))))))
    exact h
abbrev zIA:Stmt:=top 31
theorem gR:FnScope zGV ["_law_well_here","_law_there","_law_tables_here","_law_pool_here"] (zI zIA):=fsK (by decide+kernel)
theorem zVB(D:DefM K mg "_law_tests" zIA)(yQ:mg "range"=none)(zP:(CalM P w K mg base) "_law_take" 1 2 ["_law_well_here","_law_many"] zL)(zQJ:(CalM P w K mg base) "_law_side" 2 4 ["_law_well_here","_law_there","_law_tables_here","_law_pool_here"] wQ)(xB:mg "tuple"=none):(CalM P w K mg base) "_law_tests" 3 4 ["_law_well_here","_law_there","_law_tables_here","_law_pool_here"] xM:=
 by have h:=okC (P:=P) (w:=w) (base:=base) D (λ_ _ _ _ _ _ us hl=>match us,hl with |[_,_,_,_],_=>rfl) λf fd F=>okM (k:=2) _ F gR λcdv A outer s H E hr=>(zG (zS 4 gR.nd (wH zC)) (zG (kH PassesOwn.never rfl (wI rfl yQ (zA (zO (wH (zA zE (zA zE (zA zE (zA zE zC))))) (zH zP (hr.mono (by decide)) rfl (zA (zB 0) (zA zE zC)))) zC)) (yL 5 gR.nd) (zG (zS 6 gR.nd (zH zQJ (hr.mono (by decide)) rfl (zA (zB 0) (zA (zB 1) (zA (zB 2) (zA (zB 3) zC)))))) (zG (zS 7 gR.nd (zH zQJ (hr.mono (by decide)) rfl (zA (zB 0) (zA (zB 1) (zA (zB 2) (zA (zB 3) zC)))))) (zN (kF (wK (zB 4) (zA (xA (zA (zB 6) (zA (zO (wH (zA (yR [115,97,109,101]) (zA (yR [117,110,108,105,107,101]) (zA (yR [108,101,115,115]) (zA (yR [115,97,109,101]) zC))))) (zH zP (hr.mono (by decide)) rfl (zA (zB 0) (zA zE zC)))) (zA (zB 7) zC)))) zC))))))) (zN (zQ (jM xN nT rfl xB gD (zA (zB 4) zC))))))
    exact h
abbrev zAC:Stmt:=top 32
theorem wT:FnScope nW ["_law_cell","_law_tables_here","_law_pool_here"] (zI zAC):=fsK (by decide+kernel)
theorem zYZ(D:DefM K mg "_law_rule" zAC)(wU:(CalM P w K mg base) "_law_well" 2 2 ["_law_cell","_law_k"] yI)(zP:(CalM P w K mg base) "_law_take" 1 2 ["_law_well_here","_law_many"] zL)(kQ:mg "len"=none)(zOL:(CalM P w K mg base) "_law_tests" 3 4 ["_law_well_here","_law_there","_law_tables_here","_law_pool_here"] xM)(yQ:mg "range"=none)(xB:mg "tuple"=none):(CalM P w K mg base) "_law_rule" 4 3 ["_law_cell","_law_tables_here","_law_pool_here"] wR:=
 by have h:=okC (P:=P) (w:=w) (base:=base) D (λ_ _ _ _ _ _ us hl=>match us,hl with |[_,_,_],_=>rfl) λf fd F=>okM (k:=3) _ F wT λcdv A outer s H E hr=>(zG (zS 3 wT.nd (zH wU (hr.mono (by decide)) rfl (zA (zB 0) (zA zE zC)))) (zG (zS 4 wT.nd (zH zP (hr.mono (by decide)) rfl (zA (zB 3) (zA zE zC)))) (zG (zS 5 wT.nd (zH zP (hr.mono (by decide)) rfl (zA (zB 3) (zA (yE xS dL rfl kQ dN (zA (zB 1) zC)) zC)))) (zG (zS 6 wT.nd (zH zP (hr.mono (by decide)) rfl (zA (zB 3) (zA (yE xS dL rfl kQ dN (zA (zB 1) zC)) zC)))) (zG (xI (wE hr.units (zB 4) zE) (zN (zQ (xA (zA (yR [110,101,118,101,114]) (zA (zB 5) (zA (zH zOL (hr.mono (by decide)) rfl (zA (zB 3) (zA (xA (zA (zB 5) zC)) (zA (zB 1) (zA (zB 2) zC))))) zC)))))) yN) (zG (xI (wE hr.units (zB 4) zE) (zN (zQ (xA (zA (yR [97,112,97,114,116]) (zA (zB 5) (zA (zB 6) (zA (zH zOL (hr.mono (by decide)) rfl (zA (zB 3) (zA (xA (zA (zB 5) (zA (zB 6) zC))) (zA (zB 1) (zA (zB 2) zC))))) zC))))))) yN) (zG (zS 7 wT.nd (zO (wH (zA zE (zA zE (zA zE (zA zE (zA zE zC)))))) (zH zP (hr.mono (by decide)) rfl (zA (zB 3) (zA zE zC))))) (zG (zS 8 wT.nd (jM xN nT rfl xB gD (zA (wW (zI zAC) nW ["_law_k"] [1,3,5] (wI rfl yQ (zA (zB 7) zC)) rfl (λ_ _ _ _ hN=>(yV 0 hN)) (λ_ _ _ _=>jN) (λ_ _ _ _=>(zH zP (hr.mono (by decide)) rfl (zA (zB 2) (zA (zO (zO (zB 1) (zB 3)) zE) zC))))) zC))) (zG (zS 9 wT.nd (jM xN nT rfl xB gD (zA (wW (zI zAC) nW ["_law_k"] [1,3,6] (wI rfl yQ (zA (zB 7) zC)) rfl (λ_ _ _ _ hN=>(yV 0 hN)) (λ_ _ _ _=>jN) (λ_ _ _ _=>(zH zP (hr.mono (by decide)) rfl (zA (zB 2) (zA (zO (zO (zB 1) (zB 3)) zE) zC))))) zC))) (zN (zQ (xA (zA (yR [116,105,101]) (zA (zB 5) (zA (zB 8) (zA (zB 6) (zA (zB 9) zC)))))))))))))))))
    exact h
abbrev zDW:Stmt:=top 33
theorem kL:FnScope zDI ["_law_script","_law_most","_law_room"] (zI zDW):=fsK (by decide+kernel)
theorem zZA(D:DefM K mg "_law_book" zDW)(yBV:(CalM P w K mg base) "_law_pool" 3 1 ["_law_cell"] bR)(yZ:(CalM P w K mg base) "_law_cell_at" 1 2 ["_law_script","_law_k"] zY)(zVF:(CalM P w K mg base) "_law_tables" 3 1 ["_law_cell"] kS)(zP:(CalM P w K mg base) "_law_take" 1 2 ["_law_well_here","_law_many"] zL)(wU:(CalM P w K mg base) "_law_well" 2 2 ["_law_cell","_law_k"] yI)(yQ:mg "range"=none)(yCB:(CalM P w K mg base) "_law_rule" 4 3 ["_law_cell","_law_tables_here","_law_pool_here"] wR)(xB:mg "tuple"=none)(zNC:mg "list"=none)(jI:(CalM P w K mg base) "_law_mix" 1 2 ["_law_cell","_law_k"] xE)(yBU:(CalM P w K mg base) "_law_rows" 4 4 ["_law_cells","_law_tables_here","_law_pool_here","_law_most"] bS):(CalM P w K mg base) "_law_book" 5 3 ["_law_script","_law_most","_law_room"] bT:=
 by have h:=okC (P:=P) (w:=w) (base:=base) D (λ_ _ _ _ _ _ us hl=>match us,hl with |[_,_,_],_=>rfl) λf fd F=>okM (k:=4) _ F kL λcdv A outer s H E hr=>(zG (zS 3 kL.nd (zH yBV (hr.mono (by decide)) rfl (zA (zH yZ (hr.mono (by decide)) rfl (zA (zB 0) (zA zE zC))) zC))) (zG (zS 4 kL.nd (zH zVF (hr.mono (by decide)) rfl (zA (zH yZ (hr.mono (by decide)) rfl (zA (zB 0) (zA zE zC))) zC))) (zG (zS 5 kL.nd (zH zP (hr.mono (by decide)) rfl (zA (zH wU (hr.mono (by decide)) rfl (zA (zH yZ (hr.mono (by decide)) rfl (zA (zB 0) (zA zE zC))) (zA zE zC))) (zA (zO (wH (zA zE (zA zE (zA zE (zA zE zC))))) (zB 2)) zC)))) (zG (zS 6 kL.nd (jM xN nT rfl xB gD (zA (wW (zI zDW) zDI ["_law_k"] [0,3,4] (wI rfl yQ (zA (zB 5) zC)) rfl (λ_ _ _ _ hN=>(yV 0 hN)) (λ_ _ _ _=>jN) (λ_ _ _ _=>(zH yCB (hr.mono (by decide)) rfl (zA (zH yZ (hr.mono (by decide)) rfl (zA (zB 1) (zA (yS zE (zB 0)) zC))) (zA (zB 3) (zA (zB 2) zC)))))) zC))) (zG (zS 7 kL.nd (jM zWQ yNR rfl zNC yEV (zA (zAG (zB 0) (gT (yS zE (zB 5))) gS) zC))) (zG (kH PassesOwn.never rfl (wI rfl yQ (zA (zGR (zH jI (hr.mono (by decide)) rfl (zA (zH yZ (hr.mono (by decide)) rfl (zA (zB 0) (zA zE zC))) (zA zE zC))) (yS (zB 1) zE)) zC)) (yL 8 kL.nd) (zN (kF (wK (zB 7) (zA (yS zE (zAF zE (zH jI (hr.mono (by decide)) rfl (zA (zH yZ (hr.mono (by decide)) rfl (zA (zB 0) (zA zE zC))) (zA (yS zE (zB 8)) zC))))) zC))))) (zN (zQ (xA (zA (zB 4) (zA (zB 6) (zA (zH yBU (hr.mono (by decide)) rfl (zA (zAG (zB 7) gS (gT (zAF zE (zB 1)))) (zA (zB 4) (zA (zB 3) (zA (zB 1) zC))))) zC))))))))))))
    exact h
abbrev zIB:Stmt:=top 34
theorem zVC:FnScope bX bX (zI zIB):=fsK (by decide+kernel)
theorem zVD(D:DefM K mg "_law_value" zIB):(CalM P w K mg base) "_law_value" 1 2 bX cO:=
 by have h:=okC (P:=P) (w:=w) (base:=base) D (λ_ _ _ _ _ _ us hl=>match us,hl with |[_,_],_=>rfl) λf fd F=>okM (k:=0) _ F zVC λcdv A outer s H E hr=>(zG (xI (wE hr.units (zO (zB 0) zE) (yR [105,115])) (zN (zQ (zO (zB 0) zE))) yN) (zN (zQ (zO (zO (zO (zB 1) (zO (zB 0) zE)) zE) (zO (zB 0) zE)))))
    exact h
abbrev zKP:Stmt:=top 35
theorem jU:FnScope zQC ["_law_tests_here","_law_rows_here"] (zI zKP):=fsK (by decide+kernel)
theorem zZB(D:DefM K mg "_law_hold" zKP)(zOK:(CalM P w K mg base) "_law_value" 1 2 bX cO)(zQK:mg "str"=none)(yC:mg "isinstance"=none):(CalM P w K mg base) "_law_hold" 2 2 ["_law_tests_here","_law_rows_here"] kD:=
 by have h:=okC (P:=P) (w:=w) (base:=base) D (λ_ _ _ _ _ _ us hl=>match us,hl with |[_,_],_=>rfl) λf fd F=>okM (k:=1) _ F jU λcdv A outer s H E hr=>(zG (kH PassesOwn.never rfl (dI (zB 0)) (zMA (n:=3) rfl (kG (yL 2 jU.nd) (kG (yL 3 jU.nd) (kG (yL 4 jU.nd) zLZ)))) (zG (zS 5 jU.nd (zH zOK (hr.mono (by decide)) rfl (zA (zB 2) (zA (zB 1) zC)))) (zG (zS 6 jU.nd (zH zOK (hr.mono (by decide)) rfl (zA (zB 4) (zA (zB 1) zC)))) (zG (xI (nQ (zNH (nQ (zDY (wE hr.units (zB 3) (yR [115,97,109,101])) (zBQ (zNL hr.units (zB 5) (zB 6))))) (zIX (nQ (zDY (wE hr.units (zB 3) (yR [117,110,108,105,107,101])) (zBQ (wE hr.units (zB 5) (zB 6)))))))) (zN (zQ dB)) yN) (zN (xI (nQ (zDY (wE hr.units (zB 3) (yR [108,101,115,115])) (zBQ (nQ (zNH (wO (yE bV zGS rfl yC xG (zA (zB 5) (zA (zNG rfl zQK yDD) zC)))) (zNH (wO (yE bV zGS rfl yC xG (zA (zB 6) (zA (zNG rfl zQK yDD) zC)))) (zIX (tm_ge (zB 5) (zB 6))))))))) (zN (zQ dB)) yN)))))) (zN (zQ dB)))
    exact h
abbrev zFX:Stmt:=top 36
theorem zTZ:FnScope gF gF (zI zFX):=fsK (by decide+kernel)
theorem zUA(D:DefM K mg "_law_barred" zFX)(zKS:(CalM P w K mg base) "_law_hold" 2 2 ["_law_tests_here","_law_rows_here"] kD):(CalM P w K mg base) "_law_barred" 3 2 gF kU:=
 by have h:=okC (P:=P) (w:=w) (base:=base) D (λ_ _ _ _ _ _ us hl=>match us,hl with |[_,_],_=>rfl) λf fd F=>okM (k:=2) _ F zTZ λcdv A outer s H E hr=>(zN (zQ (zLY (zPW hr.units (zO (zB 0) zE) (yR [110,101,118,101,114])) (zLY (zPW hr.units (zO (zB 1) zE) (zO (zB 0) zE)) (zOS (zH zKS (hr.mono (by decide)) rfl (zA (zO (zB 0) zE) (zA (xA (zA (zB 1) zC)) zC))))))))
    exact h
abbrev zFY:Stmt:=top 37
theorem zDB:FnScope zLP ["_law_rule_here","_law_row_here","_law_other"] (zI zFY):=fsK (by decide+kernel)
theorem zUB(D:DefM K mg "_law_parted" zFY)(zKS:(CalM P w K mg base) "_law_hold" 2 2 ["_law_tests_here","_law_rows_here"] kD):(CalM P w K mg base) "_law_parted" 3 3 ["_law_rule_here","_law_row_here","_law_other"] kW:=
 by have h:=okC (P:=P) (w:=w) (base:=base) D (λ_ _ _ _ _ _ us hl=>match us,hl with |[_,_,_],_=>rfl) λf fd F=>okM (k:=2) _ F zDB λcdv A outer s H E hr=>(zG (xI (zNL hr.units (zO (zB 0) zE) (yR [97,112,97,114,116])) (zN (zQ dB)) yN) (zG (kH PassesOwn.never rfl (zDE (wH (zA (xA (zA (zB 1) (zA (zB 2) zC))) (zA (xA (zA (zB 2) (zA (zB 1) zC))) zC)))) (zMA (n:=2) rfl (kG (yL 3 zDB.nd) (kG (yL 4 zDB.nd) zLZ))) (zN (xI (nQ (zDY (wE hr.units (zO (zB 3) zE) (zO (zB 0) zE)) (zDY (wE hr.units (zO (zB 4) zE) (zO (zB 0) zE)) (zBQ (wO (zH zKS (hr.mono (by decide)) rfl (zA (zO (zB 0) zE) (zA (xA (zA (zB 3) (zA (zB 4) zC))) zC)))))))) (zN (zQ dB)) yN))) (zN (zQ dB))))
    exact h
abbrev kC:Stmt:=top 38
theorem zIS:FnScope bY ["_law_rule_here","_law_row_here","_law_rows_here"] (zI kC):=fsK (by decide+kernel)
theorem zQQ(D:DefM K mg "_law_lacking" kC):(CalM P w K mg base) "_law_lacking" 1 3 ["_law_rule_here","_law_row_here","_law_rows_here"] cP:=
 by have h:=okC (P:=P) (w:=w) (base:=base) D (λ_ _ _ _ _ _ us hl=>match us,hl with |[_,_,_],_=>rfl) λf fd F=>okM (k:=0) _ F zIS λcdv A outer s H E hr=>(zG (xI (nQ (zNH (zNL hr.units (zO (zB 0) zE) (yR [116,105,101])) (zIX (zNL hr.units (zO (zB 1) zE) (zO (zB 0) zE))))) (zN (zQ dB)) yN) (zG (zS 3 zIS.nd (wW (zI kC) bY ["_law_c"] [1] (dI (zO (zB 0) zE)) rfl (λ_ _ _ _ hN=>(yV 0 hN)) (λ_ _ _ _=>jN) (λ_ _ _ _=>(zO (zO (zB 1) zE) (zB 0))))) (zN (zQ (zPW hr.units (wW (zI kC) bY ["_law_other"] [0,3] (zDE (zB 2)) rfl (λ_ _ _ _ hN=>(yV 0 hN)) (λ_ _ _ _=>(zGQ (nQ (zDY (wE hr.units (zO (zB 0) zE) (zO (zB 1) zE)) (zBQ (wE hr.units (wW (rlS ({kind:=PySem.ScopeKind.function,names:=[(PySem.Str.ofString ".0",PySem.NameKind.local),(PySem.Str.ofString "_law_other",PySem.NameKind.cell),(PySem.Str.ofString "_law_due",PySem.NameKind.free),(PySem.Str.ofString "_law_rule_here",PySem.NameKind.free)],isGenerator:=false,isCoroutine:=false,more:=[]:PySem.Scope}) (zI kC)) ["_law_other","_law_rule_here","_law_due"] ["_law_c"] [0] (dI (zO (zB 1) zE)) rfl (λ_ _ _ _ hN=>(yV 0 hN)) (λ_ _ _ _=>jN) (λ_ _ _ _=>(zO (zO (zB 1) zE) (zB 0)))) (zB 2))))))) (λ_ _ _ _=>(zB 0))) (wH zC))))))
    exact h
abbrev zNB:Stmt:=top 39
theorem zKQ:FnScope zSX ["_law_book_here","_law_i"] (zI zNB):=fsK (by decide+kernel)
theorem yBR(D:DefM K mg "_law_key" zNB):(CalM P w K mg base) "_law_key" 1 2 ["_law_book_here","_law_i"] zCW:=
 by have h:=okC (P:=P) (w:=w) (base:=base) D (λ_ _ _ _ _ _ us hl=>match us,hl with |[_,_],_=>rfl) λf fd F=>okM (k:=0) _ F zKQ λcdv A outer s H E hr=>(zG (yJP (zO (zO (zB 0) zE) (zB 1)) (zMA (n:=2) rfl (kG (yL 2 zKQ.nd) (kG (yL 3 zKQ.nd) zLZ)))) (zN (zQ (xA (zA (zB 2) (zA (zAG (zB 3) gS (gT (zO (zO (zO (zB 0) zE) (zB 2)) zE))) zC))))))
    exact h
abbrev nP:Stmt:=top 40
theorem yY:FnScope zEB ["_law_book_here","_law_some"] (zI nP):=fsK (by decide+kernel)
theorem zUC(D:DefM K mg "_law_breaks" nP)(yT:mg "enumerate"=none)(zVG:(CalM P w K mg base) "_law_barred" 3 2 gF kU)(zUD:(CalM P w K mg base) "_law_lacking" 1 3 ["_law_rule_here","_law_row_here","_law_rows_here"] cP)(zUF:(CalM P w K mg base) "_law_key" 1 2 ["_law_book_here","_law_i"] zCW)(zVE:(CalM P w K mg base) "_law_parted" 3 3 ["_law_rule_here","_law_row_here","_law_other"] kW)(zDC:mg "sorted"=none):(CalM P w K mg base) "_law_breaks" 4 2 ["_law_book_here","_law_some"] nL:=
 by have h:=okC (P:=P) (w:=w) (base:=base) D (λ_ _ _ _ _ _ us hl=>match us,hl with |[_,_],_=>rfl) λf fd F=>okM (k:=3) _ F yY λcdv A outer s H E hr=>(zG (zQU 2 yY.nd (zI nP) zEB ["_law_i"] [0] (dI (zB 1)) rfl (λ_ _ _ _ hN=>(yV 0 hN)) (λ_ _ _ _=>jN) (λ_ _ _ _=>(zO (zO (zB 1) zE) (zB 0)))) (zG (zS 3 yY.nd (wH zC)) (zG (kH PassesOwn.never rfl (dI (zB 1)) (yL 4 yY.nd) (zG (kH PassesOwn.never rfl (zLA rfl yT (zA (zO (zB 0) zE) zC)) (zMA (n:=2) rfl (kG (yL 5 yY.nd) (kG (yL 6 yY.nd) zLZ))) (zG (xI (wO (zH zVG (hr.mono (by decide)) rfl (zA (zB 6) (zA (zO (zO (zB 0) zE) (zB 4)) zC)))) (zN (kF (wK (zB 3) (zA (xA (zA (yR [110,101,118,101,114]) (zA (zB 4) (zA (zB 5) zC)))) zC)))) yN) (zN (xI (wO (zH zUD (hr.mono (by decide)) rfl (zA (zB 6) (zA (zO (zO (zB 0) zE) (zB 4)) (zA (zB 2) zC))))) (zN (kF (wK (zB 3) (zA (xA (zA (yR [116,105,101]) (zA (zB 4) (zA (zB 5) zC)))) zC)))) yN)))) (zN (kH PassesOwn.never rfl (dI (zB 1)) (yL 7 yY.nd) (zG (xI (nQ (zDY (zZU hr.units (zB 4) (zB 7)) (zBQ (wE hr.units (zH zUF (hr.mono (by decide)) rfl (zA (zB 0) (zA (zB 4) zC))) (zH zUF (hr.mono (by decide)) rfl (zA (zB 0) (zA (zB 7) zC))))))) (zN (kF (wK (zB 3) (zA (xA (zA (yR [107,101,121]) (zA (zB 4) (zA (zB 7) zC)))) zC)))) yN) (zN (kH PassesOwn.never rfl (zLA rfl yT (zA (zO (zB 0) zE) zC)) (zMA (n:=2) rfl (kG (yL 5 yY.nd) (kG (yL 6 yY.nd) zLZ))) (zN (xI (nQ (zDY (zZU hr.units (zB 4) (zB 7)) (zBQ (wO (zH zVE (hr.mono (by decide)) rfl (zA (zB 6) (zA (zO (zO (zB 0) zE) (zB 4)) (zA (zO (zO (zB 0) zE) (zB 7)) zC)))))))) (zN (kF (wK (zB 3) (zA (xA (zA (yR [97,112,97,114,116]) (zA (zB 4) (zA (zB 7) (zA (zB 5) zC))))) zC)))) yN))))))))) (zN (zQ (yE (zWA hr.u128) yFS rfl zDC zSR (zA (zB 3) zC)))))))
    exact h
abbrev zIC:Stmt:=top 41
theorem yBS:FnScope dO dO (zI zIC):=fsK (by decide+kernel)
theorem yBT(D:DefM K mg "_law_set" zIC)(yQ:mg "range"=none)(kQ:mg "len"=none)(jI:(CalM P w K mg base) "_law_mix" 1 2 ["_law_cell","_law_k"] xE)(xB:mg "tuple"=none):(CalM P w K mg base) "_law_set" 2 2 dO dY:=
 by have h:=okC (P:=P) (w:=w) (base:=base) D (λ_ _ _ _ _ _ us hl=>match us,hl with |[_,_],_=>rfl) λf fd F=>okM (k:=1) _ F yBS λcdv A outer s H E hr=>(zN (zQ (jM xN nT rfl xB gD (zA (wW (zI zIC) dO ["_law_i"] [1] (wI rfl yQ (zA (yE xS dL rfl kQ dN (zA (zB 0) zC)) zC)) rfl (λ_ _ _ _ hN=>(yV 0 hN)) (λ_ _ _ _=>(zGQ (zZU hr.units (zGR (zH jI (hr.mono (by decide)) rfl (zA (zB 1) (zA (yS (zB 0) zE) zC))) zE) zE))) (λ_ _ _ _=>(zB 0))) zC))))
    exact h
abbrev zDX:Stmt:=top 42
theorem jV:FnScope zJK ["_law_book_here","_law_some"] (zI zDX):=fsK (by decide+kernel)
theorem zZC(D:DefM K mg "_law_told" zDX)(zVH:(CalM P w K mg base) "_law_breaks" 4 2 ["_law_book_here","_law_some"] nL)(yQ:mg "range"=none)(zUH:(CalM P w K mg base) "breaks" 7 2 ["book","rows"] zGH)(zNC:mg "list"=none)(yC:mg "isinstance"=none)(xB:mg "tuple"=none)(zKT:mg "bool"=none)(yTS:(CalM P w K mg base) "good" 8 2 ["book","rows"] zXQ):(CalM P w K mg base) "_law_told" 9 2 ["_law_book_here","_law_some"] zDQ:=
 by have h:=okC (P:=P) (w:=w) (base:=base) D (λ_ _ _ _ _ _ us hl=>match us,hl with |[_,_],_=>rfl) λf fd F=>okM (k:=8) _ F jV λcdv A outer s H E hr=>(zG (zS 2 jV.nd (zH zVH (hr.mono (by decide)) rfl (zA (zB 0) (zA (zB 1) zC)))) (zG (kH PassesOwn.never rfl (wI rfl yQ (zA zE zC)) (yL 3 jV.nd) (zG (zS 4 jV.nd (zH zUH (hr.mono (by decide)) rfl (zA (zB 0) (zA (zB 1) zC)))) (zG (xI (nQ (zNH (yCV (wO (yE bV zGS rfl yC xG (zA (zB 4) (zA (zNG rfl zNC yEV) zC))))) (zIX (zNL hr.units (zB 4) (zB 2))))) (zN (zQ dB)) yN) (zG (kH PassesOwn.never rfl (zDE (zB 4)) (yL 5 jV.nd) (zN (xI (nQ (zNH (yCV (wO (yE bV zGS rfl yC xG (zA (zB 5) (zA (zNG rfl xB gD) zC))))) (zIX (zNL hr.units (wW (zI zDX) zJK ["_law_k"] [] (dI (zAG (zB 5) (gT zE) gS)) rfl (λ_ _ _ _ hN=>(yV 0 hN)) (λ_ _ _ _=>(zGQ (wO (yE bV zGS rfl yC xG (zA (zB 0) (zA (zNG rfl zKT zXF) zC)))))) (λ_ _ _ _=>(zB 0))) (wH zC))))) (zN (zQ dB)) yN))) (zN (kF (wK (zB 4) (zA (xA (zA (yR [107,101,121]) (zA zE (zA zE zC)))) zC)))))))) (zG (zS 6 jV.nd (zH yTS (hr.mono (by decide)) rfl (zA (zB 0) (zA (zB 1) zC)))) (zN (zQ (zLY (yE bV zGS rfl yC xG (zA (zB 6) (zA (zNG rfl zKT zXF) zC))) (zOS (zPW hr.units (zB 6) (zPW hr.units (zB 2) (wH zC))))))))))
    exact h
abbrev yMC:Stmt:=top 43
theorem zKR:FnScope yQE ["_law_script"] (zI yMC):=fsK (by decide+kernel)
theorem yTR{f:Addr}{fd:FuncData}(F:Fun K "law" "law" yMC f fd)(jI:(CalM P w K mg base) "_law_mix" 1 2 ["_law_cell","_law_k"] xE)(yZ:(CalM P w K mg base) "_law_cell_at" 1 2 ["_law_script","_law_k"] zY)(yCD:(CalM P w K mg base) "_law_book" 5 3 ["_law_script","_law_most","_law_room"] bT)(kQ:mg "len"=none)(xB:mg "tuple"=none)(yQ:mg "range"=none)(zND:(CalM P w K mg base) "_law_set" 2 2 dO dY)(yBW:(CalM P w K mg base) "_law_told" 9 2 ["_law_book_here","_law_some"] zDQ):FnOk P w K mg base CX0 10 f fd ["_law_script"] (spM ⟨K,mg,P,w⟩ 1 yAR):=
 by have h:=okM (P:=P) (w:=w) (mg:=mg) (base:=base) (k:=9) _ F zKR λcdv A outer s H E hr=>(zG (zS 1 zKR.nd zE) (zG (xI (wE hr.units (zGR (zH jI (hr.mono (by decide)) rfl (zA (zH yZ (hr.mono (by decide)) rfl (zA (zB 0) (zA zE zC))) (zA zE zC))) zE) zE) (zN (zS 1 zKR.nd zE)) yN) (zG (zS 2 zKR.nd (zH yCD (hr.mono (by decide)) rfl (zA (zB 0) (zA (zB 1) (zA zE zC))))) (zG (zS 3 zKR.nd (zH yZ (hr.mono (by decide)) rfl (zA (zB 0) (zA zE zC)))) (zG (zS 4 zKR.nd (wH (zA (yOR rfl rfl xB rfl yQ (zA (yE xS dL rfl kQ dN (zA (zO (zB 2) zE) zC)) zC)) (zA (xA zC) (zA (zH zND (hr.mono (by decide)) rfl (zA (zO (zB 2) zE) (zA (zB 3) zC))) (zA (zH zND (hr.mono (by decide)) rfl (zA (zO (zB 2) zE) (zA (yS (zSA (zB 3) zE) zE) zC))) zC)))))) (zG (kF (wK (zB 4) (zA (zAG (zH zND (hr.mono (by decide)) rfl (zA (zO (zB 2) zE) (zA (yS (zSA (zB 3) zE) zE) zC))) gS (gT zE)) zC))) (zG (xI (wE hr.units (zB 1) zE) (zN (zS 4 zKR.nd (yS (zAG (zB 4) gS (gT zE)) (zAG (zB 4) (gT zE) gS)))) yN) (zG (kH PassesOwn.never rfl (zDE (zB 4)) (yL 5 zKR.nd) (zN (xI (yCV (wO (zH yBW (hr.mono (by decide)) rfl (zA (zB 2) (zA (zB 5) zC))))) (zN (zQ dB)) yN))) (zN (zQ dB))))))))))
    exact h
end
theorem all_mk{l:PySem.W.OpenLaw}{w:World}{K:PySem.W.Frag}{h:Heap}{mg:Str->Option Value}{fa:Addr}(X:K.In h)(GG:h.Ns mainGlobals mg)(hfa:mg "law"=some (.ref fa))
  (D0:DefM K mg "is_whole" zMW)
  (D1:DefM K mg "side_value" zHS)
  (D2:DefM K mg "fulfils" zPM)
  (D3:DefM K mg "fulfils_all" nO)
  (D4:DefM K mg "cells_in" zHT)
  (D12:DefM K mg "rule_of" zPN)
  (D13:DefM K mg "rules_of" zHX)
  (D14:DefM K mg "pairs_of" zHY)
  (D15:DefM K mg "key_of" zTW)
  (D16:DefM K mg "breaks_of_one" wM)
  (D17:DefM K mg "breaks_of_two" bF)
  (D18:DefM K mg "breaks" zTX)
  (D19:DefM K mg "good" yDW)
  (D20:DefM K mg "_law_cell_at" zDA)
  (D21:DefM K mg "_law_mix" zNA)
  (D22:DefM K mg "_law_take" zKJ)
  (D23:DefM K mg "_law_well" zKK)
  (D24:DefM K mg "_law_word" zAB)
  (D25:DefM K mg "_law_pool" zKL)
  (D26:DefM K mg "_law_tables" zFW)
  (D27:DefM K mg "_law_row" zHZ)
  (D28:DefM K mg "_law_rows" zKN)
  (D29:DefM K mg "_law_side" zKO)
  (D30:DefM K mg "_law_tests" zIA)
  (D31:DefM K mg "_law_rule" zAC)
  (D32:DefM K mg "_law_book" zDW)
  (D33:DefM K mg "_law_value" zIB)
  (D34:DefM K mg "_law_hold" zKP)
  (D35:DefM K mg "_law_barred" zFX)
  (D36:DefM K mg "_law_parted" zFY)
  (D37:DefM K mg "_law_lacking" kC)
  (D38:DefM K mg "_law_key" zNB)
  (D39:DefM K mg "_law_breaks" nP)
  (D40:DefM K mg "_law_set" zIC)
  (D41:DefM K mg "_law_told" zDX)
  (D42:DefM K mg "law" yMC)
  {C_Rule:Addr} (n_Rule:PySem.W.nsIn K mainGlobals "Rule"=some (some (.ref C_Rule)))
  {C_Never:Addr} (n_Never:PySem.W.nsIn K mainGlobals "Never"=some (some (.ref C_Never)))
  {C_Apart:Addr} (n_Apart:PySem.W.nsIn K mainGlobals "Apart"=some (some (.ref C_Apart)))
  {C_Tie:Addr} (n_Tie:PySem.W.nsIn K mainGlobals "Tie"=some (some (.ref C_Tie)))
  (o_Rule:(PySem.W.clsIn K C_Rule).map (·.name)=some "Rule") (yEA:Cls K C_Rule) (zZE:NoAttr K C_Rule "parts") (i_Rule:OI K C_Rule)
  (o_Never:(PySem.W.clsIn K C_Never).map (·.name)=some "Never") (zZF:Cls K C_Never) (zRL:NoAttr K C_Never "parts") (i_Never:OI K C_Never)
  (o_Apart:(PySem.W.clsIn K C_Apart).map (·.name)=some "Apart") (zZD:Cls K C_Apart) (zRM:NoAttr K C_Apart "parts") (i_Apart:OI K C_Apart)
  (o_Tie:(PySem.W.clsIn K C_Tie).map (·.name)=some "Tie") (yME:Cls K C_Tie) (yGO:NoAttr K C_Tie "parts") (i_Tie:OI K C_Tie)
  {F_Rule___init__:Addr} {odF_Rule___init__ anF_Rule___init__:Option Addr} {slF_Rule___init__:Array (Option Value)} {ocF_Rule___init__ kVF_Rule___init__ dcF_Rule___init__ pmF_Rule___init__ cdF_Rule___init__ ctF_Rule___init__:Value}
  (yEB:Mk K C_Rule F_Rule___init__)
  (zZH:Mk K C_Never F_Rule___init__)
  (zZG:Mk K C_Apart F_Rule___init__)
  (yMD:Mk K C_Tie F_Rule___init__)
  (lF_Rule___init__:K.lookup F_Rule___init__=some ⟨ocF_Rule___init__,odF_Rule___init__,.func (PySem.W.fnOf "__init__" "Rule.__init__" (kE (inClass (top 7) 0)) (wB (inClass (top 7) 0)) (zI (inClass (top 7) 0)) .none kVF_Rule___init__ dcF_Rule___init__ pmF_Rule___init__ anF_Rule___init__ cdF_Rule___init__ ctF_Rule___init__),slF_Rule___init__⟩) (cF_Rule___init__:PySem.W.codeIn K cdF_Rule___init__ "Rule.__init__"=true) (kF_Rule___init__:PySem.W.keepIn K (.ref F_Rule___init__)=true)
  {xP:Addr} {odF_Rule_bars anF_Rule_bars:Option Addr} {slF_Rule_bars:Array (Option Value)} {ocF_Rule_bars kVF_Rule_bars dcF_Rule_bars pmF_Rule_bars cdF_Rule_bars ctF_Rule_bars:Value}
  (h_Rule_bars:Meth K C_Rule "bars" xP)
  (h_Apart_bars:Meth K C_Apart "bars" xP)
  (h_Tie_bars:Meth K C_Tie "bars" xP)
  (lF_Rule_bars:K.lookup xP=some ⟨ocF_Rule_bars,odF_Rule_bars,.func (PySem.W.fnOf "bars" "Rule.bars" (kE (inClass (top 7) 1)) (wB (inClass (top 7) 1)) (zI (inClass (top 7) 1)) .none kVF_Rule_bars dcF_Rule_bars pmF_Rule_bars anF_Rule_bars cdF_Rule_bars ctF_Rule_bars),slF_Rule_bars⟩) (cF_Rule_bars:PySem.W.codeIn K cdF_Rule_bars "Rule.bars"=true) (kF_Rule_bars:PySem.W.keepIn K (.ref xP)=true)
  {yD:Addr} {odF_Rule_parts_them anF_Rule_parts_them:Option Addr} {slF_Rule_parts_them:Array (Option Value)} {ocF_Rule_parts_them kVF_Rule_parts_them dcF_Rule_parts_them pmF_Rule_parts_them cdF_Rule_parts_them ctF_Rule_parts_them:Value}
  (h_Rule_parts_them:Meth K C_Rule "parts_them" yD)
  (h_Never_parts_them:Meth K C_Never "parts_them" yD)
  (h_Tie_parts_them:Meth K C_Tie "parts_them" yD)
  (lF_Rule_parts_them:K.lookup yD=some ⟨ocF_Rule_parts_them,odF_Rule_parts_them,.func (PySem.W.fnOf "parts_them" "Rule.parts_them" (kE (inClass (top 7) 2)) (wB (inClass (top 7) 2)) (zI (inClass (top 7) 2)) .none kVF_Rule_parts_them dcF_Rule_parts_them pmF_Rule_parts_them anF_Rule_parts_them cdF_Rule_parts_them ctF_Rule_parts_them),slF_Rule_parts_them⟩) (cF_Rule_parts_them:PySem.W.codeIn K cdF_Rule_parts_them "Rule.parts_them"=true) (kF_Rule_parts_them:PySem.W.keepIn K (.ref yD)=true)
  {xH:Addr} {odF_Rule_lacks anF_Rule_lacks:Option Addr} {slF_Rule_lacks:Array (Option Value)} {ocF_Rule_lacks kVF_Rule_lacks dcF_Rule_lacks pmF_Rule_lacks cdF_Rule_lacks ctF_Rule_lacks:Value}
  (h_Rule_lacks:Meth K C_Rule "lacks" xH)
  (h_Never_lacks:Meth K C_Never "lacks" xH)
  (h_Apart_lacks:Meth K C_Apart "lacks" xH)
  (lF_Rule_lacks:K.lookup xH=some ⟨ocF_Rule_lacks,odF_Rule_lacks,.func (PySem.W.fnOf "lacks" "Rule.lacks" (kE (inClass (top 7) 3)) (wB (inClass (top 7) 3)) (zI (inClass (top 7) 3)) .none kVF_Rule_lacks dcF_Rule_lacks pmF_Rule_lacks anF_Rule_lacks cdF_Rule_lacks ctF_Rule_lacks),slF_Rule_lacks⟩) (cF_Rule_lacks:PySem.W.codeIn K cdF_Rule_lacks "Rule.lacks"=true) (kF_Rule_lacks:PySem.W.keepIn K (.ref xH)=true)
  {wP:Addr} {odF_Never_bars anF_Never_bars:Option Addr} {slF_Never_bars:Array (Option Value)} {ocF_Never_bars kVF_Never_bars dcF_Never_bars pmF_Never_bars cdF_Never_bars ctF_Never_bars:Value}
  (h_Never_bars:Meth K C_Never "bars" wP)
  (lF_Never_bars:K.lookup wP=some ⟨ocF_Never_bars,odF_Never_bars,.func (PySem.W.fnOf "bars" "Never.bars" (kE (inClass (top 8) 0)) (wB (inClass (top 8) 0)) (zI (inClass (top 8) 0)) .none kVF_Never_bars dcF_Never_bars pmF_Never_bars anF_Never_bars cdF_Never_bars ctF_Never_bars),slF_Never_bars⟩) (cF_Never_bars:PySem.W.codeIn K cdF_Never_bars "Never.bars"=true) (kF_Never_bars:PySem.W.keepIn K (.ref wP)=true)
  {yB:Addr} {odF_Apart_parts_in_turn anF_Apart_parts_in_turn:Option Addr} {slF_Apart_parts_in_turn:Array (Option Value)} {ocF_Apart_parts_in_turn kVF_Apart_parts_in_turn dcF_Apart_parts_in_turn pmF_Apart_parts_in_turn cdF_Apart_parts_in_turn ctF_Apart_parts_in_turn:Value}
  (h_Apart_parts_in_turn:Meth K C_Apart "parts_in_turn" yB)
  (lF_Apart_parts_in_turn:K.lookup yB=some ⟨ocF_Apart_parts_in_turn,odF_Apart_parts_in_turn,.func (PySem.W.fnOf "parts_in_turn" "Apart.parts_in_turn" (kE (inClass (top 9) 0)) (wB (inClass (top 9) 0)) (zI (inClass (top 9) 0)) .none kVF_Apart_parts_in_turn dcF_Apart_parts_in_turn pmF_Apart_parts_in_turn anF_Apart_parts_in_turn cdF_Apart_parts_in_turn ctF_Apart_parts_in_turn),slF_Apart_parts_in_turn⟩) (cF_Apart_parts_in_turn:PySem.W.codeIn K cdF_Apart_parts_in_turn "Apart.parts_in_turn"=true) (kF_Apart_parts_in_turn:PySem.W.keepIn K (.ref yB)=true)
  {yO:Addr} {odF_Apart_parts_them anF_Apart_parts_them:Option Addr} {slF_Apart_parts_them:Array (Option Value)} {ocF_Apart_parts_them kVF_Apart_parts_them dcF_Apart_parts_them pmF_Apart_parts_them cdF_Apart_parts_them ctF_Apart_parts_them:Value}
  (h_Apart_parts_them:Meth K C_Apart "parts_them" yO)
  (lF_Apart_parts_them:K.lookup yO=some ⟨ocF_Apart_parts_them,odF_Apart_parts_them,.func (PySem.W.fnOf "parts_them" "Apart.parts_them" (kE (inClass (top 9) 1)) (wB (inClass (top 9) 1)) (zI (inClass (top 9) 1)) .none kVF_Apart_parts_them dcF_Apart_parts_them pmF_Apart_parts_them anF_Apart_parts_them cdF_Apart_parts_them ctF_Apart_parts_them),slF_Apart_parts_them⟩) (cF_Apart_parts_them:PySem.W.codeIn K cdF_Apart_parts_them "Apart.parts_them"=true) (kF_Apart_parts_them:PySem.W.keepIn K (.ref yO)=true)
  {xQ:Addr} {odF_Tie_lacks anF_Tie_lacks:Option Addr} {slF_Tie_lacks:Array (Option Value)} {ocF_Tie_lacks kVF_Tie_lacks dcF_Tie_lacks pmF_Tie_lacks cdF_Tie_lacks ctF_Tie_lacks:Value}
  (h_Tie_lacks:Meth K C_Tie "lacks" xQ)
  (lF_Tie_lacks:K.lookup xQ=some ⟨ocF_Tie_lacks,odF_Tie_lacks,.func (PySem.W.fnOf "lacks" "Tie.lacks" (kE (inClass (top 10) 0)) (wB (inClass (top 10) 0)) (zI (inClass (top 10) 0)) .none kVF_Tie_lacks dcF_Tie_lacks pmF_Tie_lacks anF_Tie_lacks cdF_Tie_lacks ctF_Tie_lacks),slF_Tie_lacks⟩) (cF_Tie_lacks:PySem.W.codeIn K cdF_Tie_lacks "Tie.lacks"=true) (kF_Tie_lacks:PySem.W.keepIn K (.ref xQ)=true)
  (yBY:PySem.W.nsIn K mainGlobals "all"=some none)
  (zKT:PySem.W.nsIn K mainGlobals "bool"=some none)
  (yT:PySem.W.nsIn K mainGlobals "enumerate"=some none)
  (yBX:PySem.W.nsIn K mainGlobals "int"=some none)
  (yC:PySem.W.nsIn K mainGlobals "isinstance"=some none)
  (kQ:PySem.W.nsIn K mainGlobals "len"=some none)
  (zNC:PySem.W.nsIn K mainGlobals "list"=some none)
  (yCA:PySem.W.nsIn K mainGlobals "min"=some none)
  (yQ:PySem.W.nsIn K mainGlobals "range"=some none)
  (zDC:PySem.W.nsIn K mainGlobals "sorted"=some none)
  (zQK:PySem.W.nsIn K mainGlobals "str"=some none)
  (xB:PySem.W.nsIn K mainGlobals "tuple"=some none)
  : ∃fd:FuncData,(∀(s:Shared)(v:Value),BindsTo s fd ⟨[v],[]⟩ [("_law_script",v)])/\ ∀base:Heap,K.In base->base.Ns mainGlobals mg->FnOk l.prog w K mg base CX0 10 fa fd ["_law_script"] (zVV K yAR):=by
 have Z_all:=PySem.W.mg_none_of X GG yBY
 have Z_bool:=PySem.W.mg_none_of X GG zKT
 have Z_enumerate:=PySem.W.mg_none_of X GG yT
 have Z_int:=PySem.W.mg_none_of X GG yBX
 have Z_isinstance:=PySem.W.mg_none_of X GG yC
 have Z_len:=PySem.W.mg_none_of X GG kQ
 have Z_list:=PySem.W.mg_none_of X GG zNC
 have Z_min:=PySem.W.mg_none_of X GG yCA
 have Z_range:=PySem.W.mg_none_of X GG yQ
 have Z_sorted:=PySem.W.mg_none_of X GG zDC
 have Z_str:=PySem.W.mg_none_of X GG zQK
 have Z_tuple:=PySem.W.mg_none_of X GG xB
 have FF_Rule___init__:=zGL (st:=inClass (top 7) 0) lF_Rule___init__ cF_Rule___init__ kF_Rule___init__
 have bF_Rule___init__:=FF_Rule___init__.binds (ps:=["self","parts"]) λ_ _ _ _ _ _ us hl=>match us,hl with |[_,_],_=>rfl
 have FF_Rule_bars:=zGL (st:=inClass (top 7) 1) lF_Rule_bars cF_Rule_bars kF_Rule_bars
 have bF_Rule_bars:=FF_Rule_bars.binds (ps:=["self","row"]) λ_ _ _ _ _ _ us hl=>match us,hl with |[_,_],_=>rfl
 have FF_Rule_parts_them:=zGL (st:=inClass (top 7) 2) lF_Rule_parts_them cF_Rule_parts_them kF_Rule_parts_them
 have bF_Rule_parts_them:=FF_Rule_parts_them.binds (ps:=["self","row","other"]) λ_ _ _ _ _ _ us hl=>match us,hl with |[_,_,_],_=>rfl
 have FF_Rule_lacks:=zGL (st:=inClass (top 7) 3) lF_Rule_lacks cF_Rule_lacks kF_Rule_lacks
 have bF_Rule_lacks:=FF_Rule_lacks.binds (ps:=["self","row","rows"]) λ_ _ _ _ _ _ us hl=>match us,hl with |[_,_,_],_=>rfl
 have FF_Never_bars:=zGL (st:=inClass (top 8) 0) lF_Never_bars cF_Never_bars kF_Never_bars
 have bF_Never_bars:=FF_Never_bars.binds (ps:=["self","row"]) λ_ _ _ _ _ _ us hl=>match us,hl with |[_,_],_=>rfl
 have FF_Apart_parts_in_turn:=zGL (st:=inClass (top 9) 0) lF_Apart_parts_in_turn cF_Apart_parts_in_turn kF_Apart_parts_in_turn
 have bF_Apart_parts_in_turn:=FF_Apart_parts_in_turn.binds (ps:=["self","row","other"]) λ_ _ _ _ _ _ us hl=>match us,hl with |[_,_,_],_=>rfl
 have FF_Apart_parts_them:=zGL (st:=inClass (top 9) 1) lF_Apart_parts_them cF_Apart_parts_them kF_Apart_parts_them
 have bF_Apart_parts_them:=FF_Apart_parts_them.binds (ps:=["self","row","other"]) λ_ _ _ _ _ _ us hl=>match us,hl with |[_,_,_],_=>rfl
 have FF_Tie_lacks:=zGL (st:=inClass (top 10) 0) lF_Tie_lacks cF_Tie_lacks kF_Tie_lacks
 have bF_Tie_lacks:=FF_Tie_lacks.binds (ps:=["self","row","rows"]) λ_ _ _ _ _ _ us hl=>match us,hl with |[_,_,_],_=>rfl
 have OC_Rule:OC K "Rule" C_Rule:=⟨n_Rule,o_Rule,yEA⟩
 have OC_Never:OC K "Never" C_Never:=⟨n_Never,o_Never,zZF⟩
 have OC_Apart:OC K "Apart" C_Apart:=⟨n_Apart,o_Apart,zZD⟩
 have OC_Tie:OC K "Tie" C_Tie:=⟨n_Tie,o_Tie,yME⟩
 have fl_parts:FlB K OCS "parts":=λc hc=>by
  simp only [OCS,mC,nM0,or_false]at hc
  rcases hc with rfl|rfl|rfl|rfl
  ·exact⟨C_Rule,OC_Rule,zZE⟩
  ·exact⟨C_Never,OC_Never,zRL⟩
  ·exact⟨C_Apart,OC_Apart,zRM⟩
  ·exact⟨C_Tie,OC_Tie,yGO⟩
 refine yTA D42 hfa (λ_ _ _ _ _ _ s v=>.of_eq rfl) λbase f fd F=>?_
 have GI_Rule:FnOk l.prog w K mg base CX0 1 F_Rule___init__ _ ["self","parts"] (spO K "parts"):=yOW FF_Rule___init__ yMB λcdv A outer s H E=>yEE (yRF (pv 0) (pv 1) rfl)
 have mkb_Rule:MkB l.prog w K mg base "Rule" "parts":=⟨C_Rule,F_Rule___init__,_,"parts",OC_Rule,zZE,yEB,GI_Rule,bF_Rule___init__,PySem.W.mg_of X GG n_Rule⟩
 have mkb_Never:MkB l.prog w K mg base "Never" "parts":=⟨C_Never,F_Rule___init__,_,"parts",OC_Never,zRL,zZH,GI_Rule,bF_Rule___init__,PySem.W.mg_of X GG n_Never⟩
 have mkb_Apart:MkB l.prog w K mg base "Apart" "parts":=⟨C_Apart,F_Rule___init__,_,"parts",OC_Apart,zRM,zZG,GI_Rule,bF_Rule___init__,PySem.W.mg_of X GG n_Apart⟩
 have mkb_Tie:MkB l.prog w K mg base "Tie" "parts":=⟨C_Tie,F_Rule___init__,_,"parts",OC_Tie,yGO,yMD,GI_Rule,bF_Rule___init__,PySem.W.mg_of X GG n_Tie⟩
 have G0:=yBJ (P:=l.prog) (w:=w) (base:=base) D0 Z_int Z_isinstance Z_bool
 have G1:=zUW (P:=l.prog) (w:=w) (base:=base) D1
 have G2:=yDT (P:=l.prog) (w:=w) (base:=base) D2 G1 G0
 have G3:=zTV (P:=l.prog) (w:=w) (base:=base) D3 G2 Z_all
 have G4:=yBL (P:=l.prog) (w:=w) (base:=base) D4
 have GM_Rule_bars:=zYR (P:=l.prog) (w:=w) (mg:=mg) (base:=base) FF_Rule_bars
 have GM_Rule_parts_them:=zMZ (P:=l.prog) (w:=w) (mg:=mg) (base:=base) FF_Rule_parts_them
 have GM_Rule_lacks:=zUY (P:=l.prog) (w:=w) (mg:=mg) (base:=base) FF_Rule_lacks
 have GM_Never_bars:=zVA (P:=l.prog) (w:=w) (mg:=mg) (base:=base) FF_Never_bars fl_parts G3
 have GM_Apart_parts_in_turn:=zHV (P:=l.prog) (w:=w) (mg:=mg) (base:=base) FF_Apart_parts_in_turn fl_parts G3
 have T_parts_in_turn:MtB l.prog w K mg base "parts_in_turn" 4 3 xT:=λq hq=>by
  simp only [xT,mC,nM0,or_false]at hq
  rcases hq with rfl
  ·exact⟨C_Apart,yB,_,_,OC_Apart,h_Apart_parts_in_turn,GM_Apart_parts_in_turn.mono (by decide),bF_Apart_parts_in_turn⟩
 have GM_Apart_parts_them:=zLM (P:=l.prog) (w:=w) (mg:=mg) (base:=base) FF_Apart_parts_them T_parts_in_turn
 have GM_Tie_lacks:=zYS (P:=l.prog) (w:=w) (mg:=mg) (base:=base) FF_Tie_lacks fl_parts G4
 have G12:=yDV (P:=l.prog) (w:=w) (base:=base) D12 mkb_Never mkb_Apart mkb_Tie
 have G13:=yBN (P:=l.prog) (w:=w) (base:=base) D13 G12
 have G14:=yBO (P:=l.prog) (w:=w) (base:=base) D14 Z_enumerate
 have G15:=yIJ (P:=l.prog) (w:=w) (base:=base) D15
 have T_bars:MtB l.prog w K mg base "bars" 4 2 zDL:=λq hq=>by
  simp only [zDL,mC,nM0,or_false]at hq
  rcases hq with rfl|rfl|rfl|rfl
  ·exact⟨C_Rule,xP,_,_,OC_Rule,h_Rule_bars,GM_Rule_bars.mono (by decide),bF_Rule_bars⟩
  ·exact⟨C_Never,wP,_,_,OC_Never,h_Never_bars,GM_Never_bars.mono (by decide),bF_Never_bars⟩
  ·exact⟨C_Apart,xP,_,_,OC_Apart,h_Apart_bars,GM_Rule_bars.mono (by decide),bF_Rule_bars⟩
  ·exact⟨C_Tie,xP,_,_,OC_Tie,h_Tie_bars,GM_Rule_bars.mono (by decide),bF_Rule_bars⟩
 have T_lacks:MtB l.prog w K mg base "lacks" 2 3 zGG:=λq hq=>by
  simp only [zGG,mC,nM0,or_false]at hq
  rcases hq with rfl|rfl|rfl|rfl
  ·exact⟨C_Rule,xH,_,_,OC_Rule,h_Rule_lacks,GM_Rule_lacks.mono (by decide),bF_Rule_lacks⟩
  ·exact⟨C_Never,xH,_,_,OC_Never,h_Never_lacks,GM_Rule_lacks.mono (by decide),bF_Rule_lacks⟩
  ·exact⟨C_Apart,xH,_,_,OC_Apart,h_Apart_lacks,GM_Rule_lacks.mono (by decide),bF_Rule_lacks⟩
  ·exact⟨C_Tie,xQ,_,_,OC_Tie,h_Tie_lacks,GM_Tie_lacks.mono (by decide),bF_Tie_lacks⟩
 have G16:=zPO (P:=l.prog) (w:=w) (base:=base) D16 Z_enumerate T_bars T_lacks
 have T_parts_them:MtB l.prog w K mg base "parts_them" 5 3 xR:=λq hq=>by
  simp only [xR,mC,nM0,or_false]at hq
  rcases hq with rfl|rfl|rfl|rfl
  ·exact⟨C_Rule,yD,_,_,OC_Rule,h_Rule_parts_them,GM_Rule_parts_them.mono (by decide),bF_Rule_parts_them⟩
  ·exact⟨C_Never,yD,_,_,OC_Never,h_Never_parts_them,GM_Rule_parts_them.mono (by decide),bF_Rule_parts_them⟩
  ·exact⟨C_Apart,yO,_,_,OC_Apart,h_Apart_parts_them,GM_Apart_parts_them.mono (by decide),bF_Apart_parts_them⟩
  ·exact⟨C_Tie,yD,_,_,OC_Tie,h_Tie_parts_them,GM_Rule_parts_them.mono (by decide),bF_Rule_parts_them⟩
 have G17:=zPP (P:=l.prog) (w:=w) (base:=base) D17 Z_enumerate T_parts_them G15
 have G18:=yIK (P:=l.prog) (w:=w) (base:=base) D18 G13 G16 G14 G17 Z_sorted
 have G19:=yPV (P:=l.prog) (w:=w) (base:=base) D19 G18 Z_len
 have G20:=zQP (P:=l.prog) (w:=w) (base:=base) D20 Z_len
 have G21:=yBP (P:=l.prog) (w:=w) (base:=base) D21
 have G22:=zYT (P:=l.prog) (w:=w) (base:=base) D22
 have G23:=zYU (P:=l.prog) (w:=w) (base:=base) D23 Z_range G21
 have G24:=zYV (P:=l.prog) (w:=w) (base:=base) D24 Z_str Z_isinstance Z_range G22 Z_len Z_min
 have G25:=zYW (P:=l.prog) (w:=w) (base:=base) D25 G23 Z_range G22 G24
 have G26:=zTY (P:=l.prog) (w:=w) (base:=base) D26 G23 Z_range G22 Z_tuple
 have G27:=yBQ (P:=l.prog) (w:=w) (base:=base) D27 G23 G22 Z_len Z_range Z_tuple
 have G28:=zYX (P:=l.prog) (w:=w) (base:=base) D28 G27 Z_len Z_tuple
 have G29:=zYY (P:=l.prog) (w:=w) (base:=base) D29 G22 Z_len
 have G30:=zVB (P:=l.prog) (w:=w) (base:=base) D30 Z_range G22 G29 Z_tuple
 have G31:=zYZ (P:=l.prog) (w:=w) (base:=base) D31 G23 G22 Z_len G30 Z_range Z_tuple
 have G32:=zZA (P:=l.prog) (w:=w) (base:=base) D32 G25 G20 G26 G22 G23 Z_range G31 Z_tuple Z_list G21 G28
 have G33:=zVD (P:=l.prog) (w:=w) (base:=base) D33
 have G34:=zZB (P:=l.prog) (w:=w) (base:=base) D34 G33 Z_str Z_isinstance
 have G35:=zUA (P:=l.prog) (w:=w) (base:=base) D35 G34
 have G36:=zUB (P:=l.prog) (w:=w) (base:=base) D36 G34
 have G37:=zQQ (P:=l.prog) (w:=w) (base:=base) D37
 have G38:=yBR (P:=l.prog) (w:=w) (base:=base) D38
 have G39:=zUC (P:=l.prog) (w:=w) (base:=base) D39 Z_enumerate G35 G37 G38 G36 Z_sorted
 have G40:=yBT (P:=l.prog) (w:=w) (base:=base) D40 Z_range Z_len G21 Z_tuple
 have G41:=zZC (P:=l.prog) (w:=w) (base:=base) D41 G39 Z_range G18 Z_list Z_isinstance Z_tuple Z_bool G19
 exact yTR (P:=l.prog) (w:=w) (base:=base) F G21 G20 G32 Z_len Z_tuple Z_range G40 G41
theorem walk{l:PySem.W.OpenLaw}{q:Program}{loose:List Str}{XP:(Str->Option Value)->Heap->Prop}{YP:World->Heap->Prop}{d:DefRec}{K:Params->PySem.W.Frag}(hn:l.most=some 63)(hdf:d.params.defaults=[])
  (hY: ∀(w:World)(h:Heap),YP w h->(K w.params).In h)
  (F: ∀(w:World)(mg:Str->Option Value)(fa:Addr)(h:Heap),(K w.params).In h->h.Ns mainGlobals mg->mg d.name=some (.ref fa)->
   ∃fd:FuncData,(∀(s:Shared)(u:Value),BindsTo s fd ⟨[u],[]⟩ [("_law_script",u)])/\ ∀base:Heap,(K w.params).In base->base.Ns mainGlobals mg->FnOk l.prog w (K w.params) mg base CX0 10 fa fd ["_law_script"] (zVV (K w.params) yAR)):
  PySem.W.WalkO q loose XP YP l.row.toRowW d [] (λf vs=>PySem.call f vs):=
 L2.walk_of (n:=63) (k:=10) (x:="_law_script") (CX:=λ_=>CX0) (sp:=λw=>zVV (K w.params) yAR) hn (by decide) hdf ⟨rfl,by decide,by decide⟩ hY F
  (λw H a ns hl hO hS=>yKG hO hS (yMA ns hl)) λ_ _ _ _ _ z=>z
end My
end M
end L2
noncomputable def zTw : PySem.Params → PySem.Heap := fun P => { PySem.W.boot_heap P with objs := #[] }
noncomputable def PySem.W.Fast.tw6259061910764341225 := zTw
theorem PySem.W.Fast.te6259061910764341225 : PySem.W.Fast.tw6259061910764341225 = zTw := rfl
noncomputable def PySem.W.Fast.tw9639740377836488548 := zTw
theorem PySem.W.Fast.te9639740377836488548 : PySem.W.Fast.tw9639740377836488548 = zTw := rfl
noncomputable def PySem.W.Fast.tw2616779389924140240 := zTw
theorem PySem.W.Fast.te2616779389924140240 : PySem.W.Fast.tw2616779389924140240 = zTw := rfl
noncomputable def PySem.W.Fast.tw15549187825841199127 := zTw
theorem PySem.W.Fast.te15549187825841199127 : PySem.W.Fast.tw15549187825841199127 = zTw := rfl
noncomputable def PySem.W.Fast.tw8269002905348504905 := zTw
theorem PySem.W.Fast.te8269002905348504905 : PySem.W.Fast.tw8269002905348504905 = zTw := rfl
noncomputable def PySem.W.Fast.tw14549625914456470565 := zTw
theorem PySem.W.Fast.te14549625914456470565 : PySem.W.Fast.tw14549625914456470565 = zTw := rfl
noncomputable def PySem.W.Fast.tw14540435799465779222 := zTw
theorem PySem.W.Fast.te14540435799465779222 : PySem.W.Fast.tw14540435799465779222 = zTw := rfl
noncomputable def PySem.W.Fast.tw17635070791819047803 := zTw
theorem PySem.W.Fast.te17635070791819047803 : PySem.W.Fast.tw17635070791819047803 = zTw := rfl
noncomputable def PySem.W.Fast.tw18431533655697062412 := zTw
theorem PySem.W.Fast.te18431533655697062412 : PySem.W.Fast.tw18431533655697062412 = zTw := rfl
noncomputable def PySem.W.Fast.tw3360644202614127065 := zTw
theorem PySem.W.Fast.te3360644202614127065 : PySem.W.Fast.tw3360644202614127065 = zTw := rfl
noncomputable def PySem.W.Fast.tw13580805271797425307 := zTw
theorem PySem.W.Fast.te13580805271797425307 : PySem.W.Fast.tw13580805271797425307 = zTw := rfl
noncomputable def PySem.W.Fast.tw7241852229151981983 := zTw
theorem PySem.W.Fast.te7241852229151981983 : PySem.W.Fast.tw7241852229151981983 = zTw := rfl
noncomputable def PySem.W.Fast.tw11109037674649829217 := zTw
theorem PySem.W.Fast.te11109037674649829217 : PySem.W.Fast.tw11109037674649829217 = zTw := rfl
noncomputable def PySem.W.Fast.tw10656740018869455546 := zTw
theorem PySem.W.Fast.te10656740018869455546 : PySem.W.Fast.tw10656740018869455546 = zTw := rfl
noncomputable def PySem.W.Fast.tw11049517196527809202 := zTw
theorem PySem.W.Fast.te11049517196527809202 : PySem.W.Fast.tw11049517196527809202 = zTw := rfl
noncomputable def PySem.W.Fast.tw6285241029789904835 := zTw
theorem PySem.W.Fast.te6285241029789904835 : PySem.W.Fast.tw6285241029789904835 = zTw := rfl
open PySem PySem.W PyProof.Rows
set_option maxRecDepth 100000 in
set_option maxHeartbeats 0 in
theorem PySem.Challenge.cw_mendsure_k11_breaks_of_sets_holds : PySem.Challenge.rw_mendsure_k11_breaks_of_sets.Holds := by
  w_on; o_law; k_head; (case hw => w_witness2)
  k_fill
  refine L2.M.My.walk (l := PySem.Challenge.rw_mendsure_k11_breaks_of_sets) rfl rfl (fun w h Y => PySem.W.kIn_of Y) ?F
  case F =>
    intro w mg fa h KX G hmg
    refine' L2.M.My.all_mk KX G hmg ?D0 ?D1 ?D2 ?D3 ?D4 ?D12 ?D13 ?D14 ?D15 ?D16 ?D17 ?D18 ?D19 ?D20 ?D21 ?D22 ?D23 ?D24 ?D25 ?D26 ?D27 ?D28 ?D29 ?D30 ?D31 ?D32 ?D33 ?D34 ?D35 ?D36 ?D37 ?D38 ?D39 ?D40 ?D41 ?D42 ?n_Rule ?n_Never ?n_Apart ?n_Tie ?o_Rule ?yEA ?zZE ?i_Rule ?o_Never ?zZF ?zRL ?i_Never ?o_Apart ?zZD ?zRM ?i_Apart ?o_Tie ?yME ?yGO ?i_Tie ?yEB ?zZH ?zZG ?yMD ?lF_Rule___init__ ?cF_Rule___init__ ?kF_Rule___init__ ?h_Rule_bars ?h_Apart_bars ?h_Tie_bars ?lF_Rule_bars ?cF_Rule_bars ?kF_Rule_bars ?h_Rule_parts_them ?h_Never_parts_them ?h_Tie_parts_them ?lF_Rule_parts_them ?cF_Rule_parts_them ?kF_Rule_parts_them ?h_Rule_lacks ?h_Never_lacks ?h_Apart_lacks ?lF_Rule_lacks ?cF_Rule_lacks ?kF_Rule_lacks ?h_Never_bars ?lF_Never_bars ?cF_Never_bars ?kF_Never_bars ?h_Apart_parts_in_turn ?lF_Apart_parts_in_turn ?cF_Apart_parts_in_turn ?kF_Apart_parts_in_turn ?h_Apart_parts_them ?lF_Apart_parts_them ?cF_Apart_parts_them ?kF_Apart_parts_them ?h_Tie_lacks ?lF_Tie_lacks ?cF_Tie_lacks ?kF_Tie_lacks ?yBY ?zKT ?yT ?yBX ?yC ?kQ ?zNC ?yCA ?yQ ?zDC ?zQK ?xB
    (case D0 => exact L2.M.def_mk (by k_is) (by k_is) (by k_is) (by k_is) KX G)
    (case D1 => exact L2.M.def_mk (by k_is) (by k_is) (by k_is) (by k_is) KX G)
    (case D2 => exact L2.M.def_mk (by k_is) (by k_is) (by k_is) (by k_is) KX G)
    (case D3 => exact L2.M.def_mk (by k_is) (by k_is) (by k_is) (by k_is) KX G)
    (case D4 => exact L2.M.def_mk (by k_is) (by k_is) (by k_is) (by k_is) KX G)
    (case D12 => exact L2.M.def_mk (by k_is) (by k_is) (by k_is) (by k_is) KX G)
    (case D13 => exact L2.M.def_mk (by k_is) (by k_is) (by k_is) (by k_is) KX G)
    (case D14 => exact L2.M.def_mk (by k_is) (by k_is) (by k_is) (by k_is) KX G)
    (case D15 => exact L2.M.def_mk (by k_is) (by k_is) (by k_is) (by k_is) KX G)
    (case D16 => exact L2.M.def_mk (by k_is) (by k_is) (by k_is) (by k_is) KX G)
    (case D17 => exact L2.M.def_mk (by k_is) (by k_is) (by k_is) (by k_is) KX G)
    (case D18 => exact L2.M.def_mk (by k_is) (by k_is) (by k_is) (by k_is) KX G)
    (case D19 => exact L2.M.def_mk (by k_is) (by k_is) (by k_is) (by k_is) KX G)
    (case D20 => exact L2.M.def_mk (by k_is) (by k_is) (by k_is) (by k_is) KX G)
    (case D21 => exact L2.M.def_mk (by k_is) (by k_is) (by k_is) (by k_is) KX G)
    (case D22 => exact L2.M.def_mk (by k_is) (by k_is) (by k_is) (by k_is) KX G)
    (case D23 => exact L2.M.def_mk (by k_is) (by k_is) (by k_is) (by k_is) KX G)
    (case D24 => exact L2.M.def_mk (by k_is) (by k_is) (by k_is) (by k_is) KX G)
    (case D25 => exact L2.M.def_mk (by k_is) (by k_is) (by k_is) (by k_is) KX G)
    (case D26 => exact L2.M.def_mk (by k_is) (by k_is) (by k_is) (by k_is) KX G)
    (case D27 => exact L2.M.def_mk (by k_is) (by k_is) (by k_is) (by k_is) KX G)
    (case D28 => exact L2.M.def_mk (by k_is) (by k_is) (by k_is) (by k_is) KX G)
    (case D29 => exact L2.M.def_mk (by k_is) (by k_is) (by k_is) (by k_is) KX G)
    (case D30 => exact L2.M.def_mk (by k_is) (by k_is) (by k_is) (by k_is) KX G)
    (case D31 => exact L2.M.def_mk (by k_is) (by k_is) (by k_is) (by k_is) KX G)
    (case D32 => exact L2.M.def_mk (by k_is) (by k_is) (by k_is) (by k_is) KX G)
    (case D33 => exact L2.M.def_mk (by k_is) (by k_is) (by k_is) (by k_is) KX G)
    (case D34 => exact L2.M.def_mk (by k_is) (by k_is) (by k_is) (by k_is) KX G)
    (case D35 => exact L2.M.def_mk (by k_is) (by k_is) (by k_is) (by k_is) KX G)
    (case D36 => exact L2.M.def_mk (by k_is) (by k_is) (by k_is) (by k_is) KX G)
    (case D37 => exact L2.M.def_mk (by k_is) (by k_is) (by k_is) (by k_is) KX G)
    (case D38 => exact L2.M.def_mk (by k_is) (by k_is) (by k_is) (by k_is) KX G)
    (case D39 => exact L2.M.def_mk (by k_is) (by k_is) (by k_is) (by k_is) KX G)
    (case D40 => exact L2.M.def_mk (by k_is) (by k_is) (by k_is) (by k_is) KX G)
    (case D41 => exact L2.M.def_mk (by k_is) (by k_is) (by k_is) (by k_is) KX G)
    (case D42 => exact L2.M.def_mk (by k_is) (by k_is) (by k_is) (by k_is) KX G)
    (case n_Rule => k_is)
    (case n_Never => k_is)
    (case n_Apart => k_is)
    (case n_Tie => k_is)
    (case o_Rule => exact L2.M.nm_of (by k_is) (by rfl))
    (case yEA => exact ⟨by k_is, by k_is, by k_is, by k_is⟩)
    (case zZE => show PySem.W.findIn _ _ _ = _; k_is)
    (case i_Rule => exact ⟨by k_is, by k_is, by k_is, by k_is⟩)
    (case o_Never => exact L2.M.nm_of (by k_is) (by rfl))
    (case zZF => exact ⟨by k_is, by k_is, by k_is, by k_is⟩)
    (case zRL => show PySem.W.findIn _ _ _ = _; k_is)
    (case i_Never => exact ⟨by k_is, by k_is, by k_is, by k_is⟩)
    (case o_Apart => exact L2.M.nm_of (by k_is) (by rfl))
    (case zZD => exact ⟨by k_is, by k_is, by k_is, by k_is⟩)
    (case zRM => show PySem.W.findIn _ _ _ = _; k_is)
    (case i_Apart => exact ⟨by k_is, by k_is, by k_is, by k_is⟩)
    (case o_Tie => exact L2.M.nm_of (by k_is) (by rfl))
    (case yME => exact ⟨by k_is, by k_is, by k_is, by k_is⟩)
    (case yGO => show PySem.W.findIn _ _ _ = _; k_is)
    (case i_Tie => exact ⟨by k_is, by k_is, by k_is, by k_is⟩)
    (case yEB => exact ⟨by k_is, by k_is, by k_is, by k_is⟩)
    (case zZH => exact ⟨by k_is, by k_is, by k_is, by k_is⟩)
    (case zZG => exact ⟨by k_is, by k_is, by k_is, by k_is⟩)
    (case yMD => exact ⟨by k_is, by k_is, by k_is, by k_is⟩)
    (case lF_Rule___init__ => k_is)
    (case cF_Rule___init__ => k_is)
    (case kF_Rule___init__ => k_is)
    (case h_Rule_bars => exact ⟨by k_is, by k_is, by k_is⟩)
    (case h_Apart_bars => exact ⟨by k_is, by k_is, by k_is⟩)
    (case h_Tie_bars => exact ⟨by k_is, by k_is, by k_is⟩)
    (case lF_Rule_bars => k_is)
    (case cF_Rule_bars => k_is)
    (case kF_Rule_bars => k_is)
    (case h_Rule_parts_them => exact ⟨by k_is, by k_is, by k_is⟩)
    (case h_Never_parts_them => exact ⟨by k_is, by k_is, by k_is⟩)
    (case h_Tie_parts_them => exact ⟨by k_is, by k_is, by k_is⟩)
    (case lF_Rule_parts_them => k_is)
    (case cF_Rule_parts_them => k_is)
    (case kF_Rule_parts_them => k_is)
    (case h_Rule_lacks => exact ⟨by k_is, by k_is, by k_is⟩)
    (case h_Never_lacks => exact ⟨by k_is, by k_is, by k_is⟩)
    (case h_Apart_lacks => exact ⟨by k_is, by k_is, by k_is⟩)
    (case lF_Rule_lacks => k_is)
    (case cF_Rule_lacks => k_is)
    (case kF_Rule_lacks => k_is)
    (case h_Never_bars => exact ⟨by k_is, by k_is, by k_is⟩)
    (case lF_Never_bars => k_is)
    (case cF_Never_bars => k_is)
    (case kF_Never_bars => k_is)
    (case h_Apart_parts_in_turn => exact ⟨by k_is, by k_is, by k_is⟩)
    (case lF_Apart_parts_in_turn => k_is)
    (case cF_Apart_parts_in_turn => k_is)
    (case kF_Apart_parts_in_turn => k_is)
    (case h_Apart_parts_them => exact ⟨by k_is, by k_is, by k_is⟩)
    (case lF_Apart_parts_them => k_is)
    (case cF_Apart_parts_them => k_is)
    (case kF_Apart_parts_them => k_is)
    (case h_Tie_lacks => exact ⟨by k_is, by k_is, by k_is⟩)
    (case lF_Tie_lacks => k_is)
    (case cF_Tie_lacks => k_is)
    (case kF_Tie_lacks => k_is)
    (case yBY => k_is)
    (case zKT => k_is)
    (case yT => k_is)
    (case yBX => k_is)
    (case yC => k_is)
    (case kQ => k_is)
    (case zNC => k_is)
    (case yCA => k_is)
    (case yQ => k_is)
    (case zDC => k_is)
    (case zQK => k_is)
    (case xB => k_is)
