import PyProof.Rows.All
import Wide.All
import OpenK.AllK
import Wide.FinOn
import Lean
import PyProof.EqAt
import PyProof.EqKinds
import PyProof.TupleCall
import PySem.Challenge.RW_mendsure_k63_heads_are_values
set_option Elab.async false
set_option linter.all false
set_option maxRecDepth 100000
open List (all_cons all_eq_true all_map any_cons any_eq_true cons_append drop_eq_getElem_cons drop_of_length_le drop_zero filterMap_cons filterMap_cons_some find?_cons flatten_cons foldl_cons forIn_cons forIn_nil getD_eq_getElem?_getD getElem?_append_left getElem?_append_right getElem?_drop getElem?_map getElem?_of_mem getElem?_set_ne getElem?_set_self getElem?_take_of_lt getElem_drop getElem_inj getElem_mem getElem_of_mem getElem_take le_trans length_drop length_filter_le length_nil length_pos_iff length_range length_replicate length_reverse length_set length_zip lookup_cons map_append map_cons map_drop map_id map_map map_nil map_take mem_append mem_append_left mem_append_right mem_filter mem_filterMap mem_flatMap mem_iff_getElem mem_of_getElem? mem_of_mem_take mem_range mem_reverse nil_append nodup_append nodup_cons nodup_nil not_lt of_mem_zip pairwise_append pairwise_cons pairwise_map range'_succ replicate_succ reverse_cons take_add take_append_drop take_of_length_le zipIdx_cons zipIdx_nil zip_cons_cons zip_nil_left not_mem_nil)
open Bool (or_eq_true)
open Nat (add_assoc add_sub_cancel add_zero le_of_lt le_refl le_succ le_trans lt_irrefl lt_of_lt_of_le lt_trans min_eq_left ne_of_gt ne_of_lt not_lt sub_self sub_zero zero_add zero_le)
open Int (toNat_natCast)
theorem xF0:¬(false=true):=Bool.false_ne_true

abbrev dF0:=@decide_eq_false
abbrev dT0:=@decide_eq_true
abbrev iP:=@if_pos
abbrev iN:=@if_neg
abbrev mC:=@List.mem_cons
abbrev lC:=@List.length_cons
abbrev mO:=@List.mem_cons_of_mem
abbrev lM:=@List.length_map
abbrev mS:=@List.mem_singleton
abbrev mF0:=@List.mem_cons_self
abbrev fT:=@Bool.false_eq_true
abbrev sA0:=@List.size_toArray
abbrev lS:=@List.length_singleton
abbrev eL:=@Int.emod_lt_of_pos
abbrev eN0:=@Int.emod_nonneg
abbrev aE:=@Bool.and_eq_true
abbrev iF:=@if_false
abbrev aN:=@List.append_nil
abbrev lA:=@List.length_append
abbrev gS0:=@List.getElem?_eq_some_iff
abbrev gE0:=@List.getElem?_eq_getElem
abbrev wB0:=@PySem.wpAny_bind
abbrev wP0:=@PySem.wpAny_pure
abbrev hP0:=@PySem.Heap.get?_push_of_some
abbrev mM:=@List.mem_map
abbrev lT:=@List.length_take
abbrev aA:=@List.append_assoc
abbrev VP:=PySem.Value->PySem.Shared->Prop
namespace L2
open PySem PySem.Spec PyProof.Rows
abbrev Key:=Sum Int Str
def zMN:Key->Value->Bool
 |.inl k,v=>Value.isInt k v
 |.inr x,v=>Value.isStrOf x v
def keyH(w:World):Key->Int
 |.inl k=>hashInt k
 |.inr x=>hashStr w x
theorem yO: ∀{k:Key}{v:Value},zMN k v=true->(∃i t,k=Sum.inl i/\v=Value.int i t)\/(∃x t,k=Sum.inr x/\v=Value.str x t)
 |.inl i,v,h=>by
  obtain⟨t,e⟩:=Value.isInt_shape (k:=i) (v:=v) h
  exact .inl ⟨i,t,rfl,e⟩
 |.inr x,v,h=>by
  obtain⟨t,e⟩:=Value.isStrOf_shape (x:=x) (v:=v) h
  exact .inr ⟨x,t,rfl,e⟩
theorem yBM(i:Int)(t:Tok):zMN (.inl i) (.int i t)=true:=by simp [zMN,Value.isInt]
theorem yBN(x:Str)(t:Tok):zMN (.inr x) (.str x t)=true:=by simp [zMN,Value.isStrOf]
theorem yNJ(a b:Int):decide ((Sum.inl a:Key)=Sum.inl b)=(a==b):=by
 by_cases e:a=b
 ·subst e;simp
 ·have h: ¬(Sum.inl a:Key)=Sum.inl b:=λq=>e (Sum.inl.inj q)
  rw [dF0 h]
  exact(beq_eq_false_iff_ne.mpr e).symm
theorem yNK(a b:Str):decide ((Sum.inr a:Key)=Sum.inr b)=decide (a=b):=by
 by_cases e:a=b
 ·subst e;simp
 ·have h: ¬(Sum.inr a:Key)=Sum.inr b:=λq=>e (Sum.inr.inj q)
  rw [dF0 h,dF0 e]
theorem yNL(a:Int)(b:Str):decide ((Sum.inl a:Key)=Sum.inr b)=false:=dF0 (λq=>nomatch q)
theorem yNM(a:Str)(b:Int):decide ((Sum.inr a:Key)=Sum.inl b)=false:=dF0 (λq=>nomatch q)
def xA(prog:Program)(w:World):PySem.KeyKind prog w Key where
 is:=zMN
 hash:=keyH w
 inj:=λv a b ha hb=>by
  rcases yO ha with⟨i,t,rfl,rfl⟩|⟨x,t,rfl,rfl⟩
  ·rcases yO hb with⟨j,u,rfl,e⟩|⟨y,u,rfl,e⟩
   ·injection e with e1 _;rw [e1]
   ·exact nomatch e
  ·rcases yO hb with⟨j,u,rfl,e⟩|⟨y,u,rfl,e⟩
   ·exact nomatch e
   ·injection e with e1 _;rw [e1]
 byValue:=λk v h=>by
  rcases yO h with⟨i,t,rfl,rfl⟩|⟨x,t,rfl,rfl⟩<;>rfl
 pyHash:=λhv h=>by
  rcases yO hv with⟨i,t,rfl,rfl⟩|⟨x,t,rfl,rfl⟩
  ·exact wpAny_pyHash_int h
  ·exact wpAny_pyHash_str h
 eqBool:=λhu hv h=>by
  rcases yO hu with⟨i,t,rfl,rfl⟩|⟨x,t,rfl,rfl⟩
  ·rcases yO hv with⟨j,u,rfl,rfl⟩|⟨y,u,rfl,rfl⟩
   ·rw [yNJ]at h;exact wpAny_eqBool_int h
   ·rw [yNL]at h;exact SeqAt.EqAt.int_str i t y u _ _ _ _ h
  ·rcases yO hv with⟨j,u,rfl,rfl⟩|⟨y,u,rfl,rfl⟩
   ·rw [yNM]at h;exact SeqAt.EqAt.str_int x t j u _ _ _ _ h
   ·rw [yNK]at h;exact wpAny_eqBool_str h
 «strs»:=λk x t v h=>by
  rcases yO h with⟨i,u,rfl,e⟩|⟨y,u,rfl,e⟩
  ·exact nomatch e
  ·injection e with e1 _
   subst e1
   cases v<;>rfl
theorem zTX(prog:Program)(w:World)(i:Int)(t:Tok):(xA prog w).is (.inl i) (.int i t)=true:=yBM i t
theorem zTY(prog:Program)(w:World)(x:Str)(t:Tok):(xA prog w).is (.inr x) (.str x t)=true:=yBN x t
inductive V where
 |non|bl (b:Bool)|int (i:Int)|str (x:Str)|byt (b:Array UInt8)|flt (b:UInt64)|ref (a:Addr)|ty (n:String)
 deriving DecidableEq
def RelV:V->Value->Prop
 |.non,u=>u=Value.none
 |.bl b,u=>u=Value.bool b
 |.int i,u=> ∃t,u=Value.int i t
 |.str x,u=> ∃t,u=Value.str x t
 |.byt b,u=> ∃t,u=Value.bytes b t
 |.flt b,u=> ∃t,u=Value.float b t
 |.ref a,u=>u=Value.ref a
 |.ty n,u=>u=Value.type n
abbrev Vals:List V->List Value->Prop:=Paired RelV
theorem Vals.length{xs:List V}{us:List Value}(r:Vals xs us):xs.length=us.length:=Paired.length r
theorem Vals.get: ∀{xs:List V}{us:List Value}{i:Nat}{x:V},Vals xs us->xs[i]? =some x-> ∃u,us[i]? =some u/\RelV x u
 |_,_,_,_,.nil,e=>by simp at e
 |_,_,0,_,.cons r _,e=>by simp at e;subst e;exact⟨_,rfl,r⟩
 |_,_,i+1,x,.cons _ t,e=>by
  obtain⟨u,h1,h2⟩:=Vals.get (i:=i) (x:=x) t (by simpa using e)
  exact⟨u,by simpa using h1,h2⟩
theorem Vals.set{x:V}{u:Value}(r:RelV x u): ∀{xs:List V}{us:List Value}(i:Nat),Vals xs us->Vals (xs.set i x) (us.set i u)
 |_,_,_,.nil=>.nil
 |_,_,0,.cons _ t=>.cons r t
 |_,_,i+1,.cons q t=>.cons q (Vals.set r i t)
theorem Vals.append: ∀{xs ys:List V}{us ws:List Value},Vals xs us->Vals ys ws->Vals (xs++ys) (us++ws)
 |_,_,_,_,.nil,s=>s
 |_,_,_,_,.cons r t,s=>.cons r (Vals.append t s)
theorem Vals.take: ∀{xs:List V}{us:List Value}(n:Nat),Vals xs us->Vals (xs.take n) (us.take n)
 |_,_,0,_=>.nil
 |_,_,_+1,.nil=>.nil
 |_,_,n+1,.cons r t=>.cons r (Vals.take n t)
theorem Vals.drop: ∀{xs:List V}{us:List Value}(n:Nat),Vals xs us->Vals (xs.drop n) (us.drop n)
 |_,_,0,r=>r
 |_,_,_+1,.nil=>.nil
 |_,_,n+1,.cons _ t=>Vals.drop n t
theorem Vals.none_of: ∀{xs:List V}{us:List Value}{i:Nat},Vals xs us->xs[i]? =none->us[i]? =none:=λ{xs us i} r e=>by
 have h1:=r.length
 have h2:xs.length<=i:=List.getElem?_eq_none_iff.mp e
 exact List.getElem?_eq_none_iff.mpr (by omega)
def RelO:Option V->Option Value->Prop
 |some v,some u=>RelV v u
 |none,none=>True
 |_,_=>False
def KV{κ:Type}:List (κ×V)->List (κ×Value)->Prop:=Paired λ(p:κ×V) (q:κ×Value)=>p.1=q.1/\RelV p.2 q.2
def kV:Key->V
 |.inl i=>.int i
 |.inr x=>.str x
inductive HO where
 |lst (xs:List V)
 |tup (xs:List V)
 |dK (kvs:List (Key×V))|dT (kvs:List (List Key×V))
 |set (S:Int->Bool) (n:Nat)
 |ins (C dx:Addr) (fs:List (Str×V))
 |own (x:Addr)
 |xd (fs:List (Str×V))
 |met (f x:Addr)
 |rng (lo hi:Int)
 |frz (o:Obj) (u:HO)
 |tbl (ps:Array Value)
 |ext (φ:Heap->Prop)
abbrev Hp:=Addr->Option HO
def upd(H:Hp)(a:Addr)(o:HO):Hp:=λb=>if b=a then some o else H b
theorem yW{H:Hp}{a:Addr}{o:HO}:upd H a o a=some o:=by unfold upd;rw [iP rfl]
theorem zS{H:Hp}{a b:Addr}{o:HO}(h:b≠a):upd H a o b=H b:=by unfold upd;rw [iN h]
theorem zZ{H:Hp}{a b:Addr}{o:HO}(h:H a=some o)(h':H b=none):a≠b:=by
 intro e;subst e;rw [h]at h';cases h'
section
variable(P:Program)(w:World)
def ObjOk(H:Hp)(h:Heap)(a:Addr):HO->Prop
 |.lst xs=>xs.length<=sizeLine/\ ∃(its:List Value)(n:Nat),Vals xs its/\h.get? a=some {cls:=.type "list",data:=.seq its.toArray n}
 |.tup xs=>xs.length<=sizeLine/\ ∃its:List Value,Vals xs its/\IsTup h a its.toArray
 |.dK kvs=>kvs.length<=sizeLine/\(a==sysModules)=false/\ ∃vs,KV kvs vs/\h.DictOf (xA P w) a vs
 |.dT kvs=>kvs.length<=sizeLine/\(a==sysModules)=false/\ ∃xs:List (List Key×Addr×Value),
   Paired (λ(p:List Key×V) (q:List Key×Addr×Value)=>p.1=q.1/\H q.2.1=some (.tup (p.1.map kV))/\RelV p.2 q.2.2) kvs xs/\
   ∃o es ep,h.get? a=some o/\o.ExactDict/\o.data=.dict es ep/\es.toList=xs.map (entryOfKey (tupleKind (xA P w)))/\(xs.map (·.1)).Nodup
 |.set S n=>h.SetOf (intKind P w) a S n
 |.ins C dx fs=>H dx=some (.own a)/\fs.length<=1000/\dx≠a/\h.get? a=some (PySem.W.instObj C dx)/\
   ∃mA,h.Ns1 dx mA/\(∀f,RelO (fs.lookup f) (mA f))/\PySem.Within mA (fs.map (·.1))
 |.own _=> ∃o,h.get? a=some o
 |.xd fs=> ∃mA,h.Ns1 a mA/\ ∀f,RelO (fs.lookup f) (mA f)
 |.rng lo hi=> ∃t u v,h.get? a=some {cls:=.type "range",data:=.fields #[.int lo t,.int hi u,.int 1 v]}
 |.frz o u=>h.get? a=some o/\ObjOk H h a u
 |.tbl ps=>h.get? a=some {cls:=.none,data:=.fields ps}
 |.met f x=>h.get? a=some (PySem.W.methodObj (.ref f) (.ref x))
 |.ext φ=>φ h/\(∃o,h.get? a=some o)/\ ∀h1 h2:Heap,φ h1->(∀o,h1.get? a=some o->h2.get? a=some o)->φ h2
def HOk(H:Hp)(h:Heap):Prop:= ∀a o,H a=some o->ObjOk P w H h a o
end
section
variable{P:Program}{w:World}{H H':Hp}{h h':Heap}{a:Addr}{o:HO}
theorem ObjOk.lt(x:ObjOk P w H h a o):a<h.objs.size:=by
 cases o with
 |lst xs=>obtain⟨_,_,_,_,e⟩:=x;exact Heap.lt_size e
 |tup xs=>obtain⟨_,_,_,p⟩:=x;exact p.lt
 |dK kvs=>obtain⟨_,_,_,_,o,_,_,e,_⟩:=x;exact Heap.lt_size e
 |dT kvs=>obtain⟨_,_,_,_,o,_,_,e,_⟩:=x;exact Heap.lt_size e
 |set S n=>obtain⟨o,_,_,_,e,_⟩:=x;exact Heap.lt_size e
 |ins C dx fs=>obtain⟨_,_,_,e,_⟩:=x;exact Heap.lt_size e
 |own y=>obtain⟨_,e⟩:=x;exact Heap.lt_size e
 |xd fs=>obtain⟨_,⟨_,_,_,e,_⟩,_⟩:=x;exact Heap.lt_size e
 |rng lo hi=>obtain⟨_,_,_,e⟩:=x;exact Heap.lt_size e
 |frz ob u=>obtain⟨e,_⟩:=x;exact Heap.lt_size e
 |tbl ps=>exact Heap.lt_size (show h.get? a=some _ from x)
 |met f y=>exact Heap.lt_size (show h.get? a=some _ from x)
 |ext φ=>obtain⟨_,⟨_,e⟩,_⟩:=x;exact Heap.lt_size e
theorem Paired.mapP{α β:Type}{F G:α->β->Prop}: ∀{l₁:List α}{l₂:List β},Paired F l₁ l₂->(∀a b,F a b->G a b)->Paired G l₁ l₂
 |_,_,.nil,_=>.nil
 |_,_,.cons r t,f=>.cons (f _ _ r) (Paired.mapP t f)
theorem ObjOk.stay(x:ObjOk P w H h a o)(k: ∀b u,(b=a\/H b=some (.own a))->h.get? b=some u->h'.get? b=some u)
  (ho: ∀b,H b=some (.own a)->H' b=some (.own a)) (ht: ∀b xs,H b=some (.tup xs)->H' b=some (.tup xs)):ObjOk P w H' h' a o:=by
 induction o with
 |lst xs=>obtain⟨z,its,n,r,e⟩:=x;exact⟨z,its,n,r,k _ _ (.inl rfl) e⟩
 |tup xs=>obtain⟨z,its,r,ob,e,c⟩:=x;exact⟨z,its,r,ob,k _ _ (.inl rfl) e,c⟩
 |dK kvs=>obtain⟨z,y,vs,r,ob,es,ep,e,c⟩:=x;exact⟨z,y,vs,r,ob,es,ep,k _ _ (.inl rfl) e,c⟩
 |dT kvs=>
  obtain⟨z,y,xs,r,ob,es,ep,e,c⟩:=x
  exact⟨z,y,xs,Paired.mapP r λp q z=>⟨z.1,ht _ _ z.2.1,z.2.2⟩,ob,es,ep,k _ _ (.inl rfl) e,c⟩
 |set S n=>obtain⟨ob,es,ep,t,e,c⟩:=x;exact⟨ob,es,ep,t,k _ _ (.inl rfl) e,c⟩
 |ins C dx fs=>
  obtain⟨d,z,ne,e,mA,⟨od,es,ep,e2,c⟩,r⟩:=x
  exact⟨ho _ d,z,ne,k _ _ (.inl rfl) e,mA,⟨od,es,ep,k _ _ (.inr d) e2,c⟩,r⟩
 |own y=>obtain⟨ob,e⟩:=x;exact⟨ob,k _ _ (.inl rfl) e⟩
 |xd fs=>obtain⟨mA,⟨od,es,ep,e,c⟩,r⟩:=x;exact⟨mA,⟨od,es,ep,k _ _ (.inl rfl) e,c⟩,r⟩
 |rng lo hi=>obtain⟨t,u,v,e⟩:=x;exact⟨t,u,v,k _ _ (.inl rfl) e⟩
 |frz ob u ih=>obtain⟨e,q⟩:=x;exact⟨k _ _ (.inl rfl) e,ih q⟩
 |tbl ps=>
  have e:h.get? a=some {cls:=.none,data:=.fields ps}:=x
  show h'.get? a=some {cls:=.none,data:=.fields ps}
  exact k a _ (.inl rfl) e
 |met f y=>
  have e:h.get? a=some (PySem.W.methodObj (.ref f) (.ref y)):=x
  show h'.get? a=some (PySem.W.methodObj (.ref f) (.ref y))
  exact k a _ (.inl rfl) e
 |ext φ=>obtain⟨p,⟨o,e⟩,st⟩:=x;exact⟨st _ _ p λo q=>k _ _ (.inl rfl) q,⟨o,k _ _ (.inl rfl) e⟩,st⟩
theorem HOk.lt(x:HOk P w H h)(e:H a=some o):a<h.objs.size:=(x a o e).lt
theorem HOk.fresh(x:HOk P w H h)(e:h.objs.size<=a):H a=none:=by
 cases q:H a with
 |none=>rfl
 |some u=>exact absurd (lt_of_lt_of_le (x.lt q) e) (lt_irrefl _)
theorem HOk.kept(x:HOk P w H h)(k: ∀b u,h.get? b=some u->h'.get? b=some u):HOk P w H h':=λa o e=>
 (x a o e).stay (λb u _ q=>k b u q) (λ_ q=>q) λ_ _ q=>q
theorem HOk.laid(x:HOk P w H h)(k: ∀b u,h.get? b=some u->h'.get? b=some u)(hp:h.objs.size<=a)(new:ObjOk P w (upd H a o) h' a o):HOk P w (upd H a o) h':=λb u e=>by
 have hn:=x.fresh hp
 by_cases hb:b=a
 ·subst hb;rw [yW]at e;cases e;exact new
 ·rw [zS hb]at e
  exact(x b u e).stay (λc v _ q=>k c v q) (λc q=>by rw [zS (zZ q hn)];exact q) λc xs q=>by rw [zS (zZ q hn)];exact q
end
def Rd(H:Hp)(a:Addr)(u:HO):Prop:=H a=some u\/ ∃o,H a=some (.frz o u)
theorem Rd.ok{P:Program}{w:World}{H:Hp}{h:Heap}{a:Addr}{u:HO}(r:Rd H a u)(x:HOk P w H h):ObjOk P w H h a u:=by
 rcases r with r|⟨o,r⟩
 ·exact x a u r
 ·obtain⟨_,q⟩:=x a _ r
  exact q
def Mut:Option HO->Prop
 |some (.lst _)=>True
 |some (.dK _)=>True
 |some (.dT _)=>True
 |some (.set _ _)=>True
 |some (.ins _ _ _)=>True
 |some (.ext _)=>True
 |_=>False
section
variable{P:Program}{w:World}{H:Hp}{h h':Heap}{x e:Addr}{o':HO}
theorem HOk.write(ok:HOk P w H h)(mu:Mut (H x))(he:e=x\/H e=some (.own x))(k: ∀b u,b≠e->h.get? b=some u->h'.get? b=some u)(heo: ∃u,h'.get? e=some u)
  (new:ObjOk P w (upd H x o') h' x o'):HOk P w (upd H x o') h':=λb u q=>by
 have nown: ∀c y,H c=some (.own y)->c≠x:=λc y r z=>by subst z;rw [r]at mu;exact mu
 have ntup: ∀c xs,H c=some (.tup xs)->c≠x:=λc xs r z=>by subst z;rw [r]at mu;exact mu
 by_cases hb:b=x
 ·subst hb;rw [yW]at q;cases q;exact new
 ·rw [zS hb]at q
  by_cases hbe:b=e
  ·have q':H b=some (.own x):=by
    rcases he with z|z
    ·exact absurd (hbe.trans z) hb
    ·rw [hbe];exact z
   rw [q]at q';cases q'
   obtain⟨v,hv⟩:=heo
   exact⟨v,by rw [hbe];exact hv⟩
  ·refine(ok b u q).stay (λc v hc r=>k c v ?_ r) (λc r=>by rw [zS (nown c b r)];exact r) λc xs r=>by rw [zS (ntup c xs r)];exact r
   rcases hc with rfl|hc
   ·exact hbe
   ·rintro rfl
    rcases he with z|z
    ·exact nown c b hc z
    ·rw [hc]at z;cases z;exact hb rfl
end
structure Un(fs ex:List Addr)(H H':Hp)(h h':Heap):Prop where
 keep: ∀b o,h.get? b=some o->H b=none->b∉fs->b∉ex->h'.get? b=some o
 slot: ∀b o,h.get? b=some o->H b=none->b∈fs->b∉ex-> ∃sl,h'.get? b=some {o with slots:=sl}
 free: ∀b o,h.get? b=some o->H b=none->b∉ex->H' b=none
 there: ∀b o,h.get? b=some o->b∉ex-> ∃o',h'.get? b=some o'
 tups: ∀b xs,H b=some (.tup xs)->H' b=some (.tup xs)
 frzs: ∀b o u,H b=some (.frz o u)->H' b=some (.frz o u)
 tbls: ∀b ps,H b=some (.tbl ps)-> ∃more,H' b=some (.tbl (ps++more))
section
variable{fs fs' ex ex':List Addr}{H H1 H2:Hp}{h h1 h2 h':Heap}{a x e:Addr}{o:HO}
theorem Un.any(u:Un fs ex H H1 h h1){b:Addr}{ob:Obj}(q:h.get? b=some ob)(n:H b=none)(hx:b∉ex): ∃sl,h1.get? b=some {ob with slots:=sl}:=by
 by_cases hb:b∈fs
 ·exact u.slot b ob q n hb hx
 ·exact⟨ob.slots,u.keep b ob q n hb hx⟩
theorem Un.kept(k: ∀b u,h.get? b=some u->h'.get? b=some u):Un fs ex H H h h':=
 ⟨λb ob q _ _ _=>k b ob q,λb ob q _ _ _=>⟨ob.slots,k b ob q⟩,λ_ _ _ n _=>n,λb ob q _=>⟨ob,k b ob q⟩,λ_ _ q=>q,λ_ _ _ q=>q,λ_ ps q=>⟨#[],by rw [q];simp⟩⟩
theorem Un.refl:Un fs ex H H h h:=Un.kept λ_ _ q=>q
theorem Un.laid(k: ∀b u,h.get? b=some u->h'.get? b=some u)(hp:h.objs.size<=a)(hn:H a=none):Un fs ex H (upd H a o) h h' where
 keep:=λb u q _ _ _=>k b u q
 slot:=λb u q _ _ _=>⟨u.slots,k b u q⟩
 free:=λb u q n _=>by rw [zS (ne_of_lt (lt_of_lt_of_le (Heap.lt_size q) hp))];exact n
 there:=λb u q _=>⟨u,k b u q⟩
 tups:=λb xs q=>by rw [zS (zZ q hn)];exact q
 frzs:=λb u xs q=>by rw [zS (zZ q hn)];exact q
 tbls:=λb ps q=>⟨#[],by rw [zS (zZ q hn),q];simp⟩
theorem Un.write(mu:Mut (H x))(he:e=x\/H e=some (.own x))(k: ∀b u,b≠e->h.get? b=some u->h'.get? b=some u)(heo: ∃u,h'.get? e=some u):Un fs ex H (upd H x o) h h':=by
 have hx: ∀b,H b=none->b≠x:=λb n z=>by subst z;rw [n]at mu;exact mu
 have hb: ∀b,H b=none->b≠e:=λb n z=>by
  subst z
  rcases he with r|r
  ·exact hx b n r
  ·rw [n]at r;cases r
 have hm: ∀b u,H b=some u-> ¬Mut (some u)->b≠x:=λb u q nm z=>by subst z;rw [q]at mu;exact nm mu
 refine⟨λb u q n _ _=>k b u (hb b n) q,λb u q n _ _=>⟨u.slots,k b u (hb b n) q⟩,λb u q n _=>by rw [zS (hx b n)];exact n,λb u q _=>?_,
  λb xs q=>by rw [zS (hm b _ q λz=>z)];exact q,λb u xs q=>by rw [zS (hm b _ q λz=>z)];exact q,λb ps q=>⟨#[],by rw [zS (hm b _ q λz=>z),q];simp⟩⟩
 by_cases hbe:b=e
 ·subst hbe;exact heo
 ·exact⟨u,k b u hbe q⟩
end
def trk(h:Heap)(H:Hp):List Addr:=(List.range h.objs.size).filter λa=>(H a).isSome
def zRJ(h:Heap)(H:Hp):Heap:=PySem.W.hideAll h (trk h H)
theorem yBO(h:Heap)(H:Hp):(zRJ h H).objs.size=h.objs.size:=PySem.W.hideAll_size _ _
theorem yDH{h:Heap}{H:Hp}{b:Addr}{o:Obj}(e:h.get? b=some o)(n:H b=none):(zRJ h H).get? b=some o:=
 PySem.W.hideAll_get _ e λhm=>by
  have q:(H b).isSome=true:=(mem_filter.mp hm).2
  rw [n]at q;simp at q
theorem yIK{h:Heap}{H:Hp}{b:Addr}{o:Obj}(e:(zRJ h H).get? b=some o):h.get? b=some o/\H b=none:=by
 have e':h.get? b=some o:=PySem.W.of_hideAll (trk h H) e
 refine⟨e',?_⟩
 cases q:H b with
 |none=>rfl
 |some x=>
  have hm:b∈trk h H:=mem_filter.mpr ⟨mem_range.mpr (Heap.lt_size e'),by simp [q]⟩
  have z:(zRJ h H).get? b=none:=PySem.W.hideAll_none (trk h H) hm
  rw [z]at e;cases e
def yIL(g h:Heap)(L:Addr):List (Addr×Obj):=(List.range h.objs.size).filterMap λa=>if a=L\/(g.get? a).isSome=true then none else(h.get? a).map λo=>(a,o)
def nL(g h:Heap)(L d:Addr):List (Addr×Obj):=(yIL g h L).filter λp=>decide (p.1≠d)
structure Mod(K:PySem.W.Frag)(mg:Str->Option Value)(base:Heap):Prop where
 kin:K.In base
 glob:base.Ns mainGlobals mg
 blt: ∃mb,base.Ns builtinsNs mb/\ ∀x:Str,x≠"__name__"->mb x=bootBuiltins x
 nolimit:base.NoLimit
structure Cx where
 prog:Program
 w:World
 K:PySem.W.Frag
 mg:Str->Option Value
 base:Heap
 A:Around
 N:List Str
 s₀:Shared
 H₀:Hp
 env:Env
 outer:List Env
 stack:List Env
 ex:List Addr
 fn:Str->Bool
 calm:Bool
 pn:List (Addr×Obj)
 xe:VP
def frs(l:List Env):List Addr:=l.filterMap (·.frame)
abbrev Cx.fs(X:Cx):List Addr:=frs X.outer
def Vis(sc:Scope)(x:Str):Prop:=sc.names.lookup x=some .local\/sc.names.lookup x=some .cell\/sc.names.lookup x=some .free
def Loc(sc:Scope)(x:Str):Prop:=sc.names.lookup x=some .local\/sc.names.lookup x=some .cell
def Look(env:Env)(h:Heap)(m:Str->Option Value)(x:Str)(u:Value):Prop:=
 (env.kindOf x=some .local/\m x=some u)\/((env.kindOf x=some .cell\/env.kindOf x=some .free)/\ ∃c,env.cells.lookup x=some c/\h.IsCell c (some u))
structure Cx.Ok(X:Cx):Prop where
 mod:Mod X.K X.mg X.base
 kind:X.env.scope.kind=.function
 glob:X.env.globals=mainGlobals
 blt:X.env.builtins=builtinsNs
 above:X.s₀.heap.objs.size<=X.env.locals
 inj: ∀x y c,X.env.cells.lookup x=some c->X.env.cells.lookup y=some c->x=y
 has: ∀x,(X.env.kindOf x=some .cell\/X.env.kindOf x=some .free)-> ∃c,X.env.cells.lookup x=some c
 cab: ∀x c,X.fn x=true->X.env.cells.lookup x=some c->X.s₀.heap.objs.size<=c
 hd:X.calm=true->X.A.handled=none
 frames:X.A.frames=some X.stack
 stk:X.stack=X.outer\/(X.stack=X.env::X.outer/\X.env.frame=some X.env.locals)
 exf: ∀b∈X.ex,b≠X.env.locals/\ ∀x c,X.env.cells.lookup x=some c->c≠b
 bs: ∀b o,X.base.get? b=some o->X.s₀.heap.get? b=some o/\X.H₀ b=none
 bsz:X.base.objs.size<=X.s₀.heap.objs.size
 noex: ∀b o,X.base.get? b=some o->b∉X.ex
 exfs: ∀b∈X.ex,b∉X.fs
 funs:X.s₀.heap.FunFrames X.base X.outer
 frf: ∀b∈X.fs,X.H₀ b=none
structure Inv(X:Cx)(pins:List (Addr×Obj))(σ:List (Option V))(H:Hp)(s:Shared):Prop where
 ok:X.Ok
 os:s.os=X.s₀.os
 bare:AllBare s.gens
 base:Un X.fs X.ex X.H₀ H X.s₀.heap s.heap
 loc: ∃m,s.heap.Ns X.env.locals m/\ ∀(i:Nat)(x:Str)(v:V),X.N[i]? =some x->σ[i]? =some (some v)->Vis X.env.scope x-> ∃u,RelV v u/\Look X.env s.heap m x u
 cell: ∀x c,X.env.cells.lookup x=some c-> ∃v,s.heap.IsCell c v
 free:H X.env.locals=none
 freeC: ∀x c,X.env.cells.lookup x=some c->H c=none
 pin: ∀p∈X.pn++pins,s.heap.get? p.1=some p.2/\H p.1=none/\p.1≠X.env.locals/\p.1∉X.fs/\ ∀v,p.2.data≠.cell v
 hok:HOk X.prog X.w H s.heap
 len:σ.length=X.N.length
section
variable{X:Cx}{pins:List (Addr×Obj)}{σ:List (Option V)}{H H':Hp}{s:Shared}{h':Heap}
theorem Cx.Ok.nofr(ok:X.Ok){b:Addr}{o:Obj}(e:X.base.get? b=some o):b∉X.fs:=λhb=>by
 have:=(ok.funs.mem hb).1
 rw [e]at this;cases this
theorem Inv.bs(I:Inv X pins σ H s): ∀b o,X.base.get? b=some o->s.heap.get? b=some o/\H b=none:=λb o e=>
 ⟨I.base.keep b o (I.ok.bs b o e).1 (I.ok.bs b o e).2 (I.ok.nofr e) (I.ok.noex b o e),I.base.free b o (I.ok.bs b o e).1 (I.ok.bs b o e).2 (I.ok.noex b o e)⟩
theorem Inv.bk(I:Inv X pins σ H s): ∀b o,X.base.get? b=some o->s.heap.get? b=some o:=λb o e=>(I.bs b o e).1
theorem Inv.mod(I:Inv X pins σ H s):Mod X.K X.mg X.base:=I.ok.mod
theorem Inv.kIn(I:Inv X pins σ H s):X.K.In s.heap:=I.ok.mod.kin.keeps I.bk
theorem Inv.lt(I:Inv X pins σ H s):X.env.locals<s.heap.objs.size:=let ⟨_,hn,_⟩:=I.loc;hn.lt
theorem Inv.sz(I:Inv X pins σ H s):X.s₀.heap.objs.size<=s.heap.objs.size:=le_trans I.ok.above (le_of_lt I.lt)
theorem Inv.nofs(I:Inv X pins σ H s){a:Addr}(h:s.heap.objs.size<=a):a∉X.fs:=λhb=>by
 obtain⟨_,o,ho,_⟩:=I.ok.funs.mem hb
 exact absurd (lt_of_lt_of_le (Heap.lt_size ho) (le_trans I.sz h)) (lt_irrefl _)
theorem Inv.cne(I:Inv X pins σ H s): ∀x c,X.env.cells.lookup x=some c->c≠X.env.locals:=λx c e z=>by
 obtain⟨v,o,ho,hd⟩:=I.cell x c e
 obtain⟨m,⟨o',es,ep,ho',hd',_⟩,_⟩:=I.loc
 rw [z,ho']at ho;cases ho;rw [hd']at hd;cases hd
theorem Inv.funs(I:Inv X pins σ H s):s.heap.FunFrames X.base X.outer:=by
 have all: ∀(l:List Env),(∀b∈frs l,b∈X.fs)->X.s₀.heap.FunFrames X.base l->s.heap.FunFrames X.base l:=by
  intro l
  induction l with
  |nil=>intro _ _;trivial
  |cons env r ih=>
   intro hs hl
   obtain⟨hk,⟨L,o,hf,hn,ho,hd⟩,hr⟩:=hl
   have hL:L∈X.fs:=hs L (by unfold frs;rw [filterMap_cons,hf];exact mF0)
   obtain⟨sl,e⟩:=I.base.slot L o ho (I.ok.frf L hL) hL λz=>I.ok.exfs L z hL
   exact⟨hk,⟨L,_,hf,hn,e,hd⟩,ih (λb hb=>hs b (by unfold frs;rw [filterMap_cons,hf];exact mO _ hb)) hr⟩
 exact all X.outer (λ_ hb=>hb) I.ok.funs
theorem Inv.stack(I:Inv X pins σ H s):s.heap.FunFrames X.base X.stack:=by
 rcases I.ok.stk with e|⟨e,hf⟩
 ·rw [e];exact I.funs
 ·rw [e]
  obtain⟨m,hn,_⟩:=I.loc
  refine .cons (by rw [I.ok.kind];decide) hf hn ?_ I.funs
  exact Heap.get?_none_of_le (le_trans I.ok.bsz I.ok.above)
theorem Inv.stkSub(I:Inv X pins σ H s): ∀b∈frs X.stack,b∈X.env.locals::X.fs:=λb hb=>by
 rcases I.ok.stk with e|⟨e,hf⟩
 ·rw [e]at hb;exact mO _ hb
 ·rw [e]at hb
  unfold frs at hb
  rw [filterMap_cons,hf]at hb
  exact hb
theorem Inv.stkFree(I:Inv X pins σ H s): ∀b∈frs X.stack,H b=none:=λb hb=>by
 rcases mC.mp (I.stkSub b hb)with e|hb
 ·rw [e];exact I.free
 ·obtain⟨_,o,ho,_⟩:=I.ok.funs.mem hb
  exact I.base.free b o ho (I.ok.frf b hb) λz=>I.ok.exfs b z hb
theorem Inv.step{g':Array GenState}{t':Nat}{d':Drawn}{ch:List Addr}(I:Inv X pins σ H s)
  (hch: ∀b∈ch,(b∈X.ex\/X.s₀.heap.objs.size<=b)/\b≠X.env.locals/\(∀x c,X.env.cells.lookup x=some c->c≠b)/\ ∀p∈X.pn++pins,p.1≠b)
  (keep: ∀b o,b≠X.env.locals->b∉X.fs->b∉ch->s.heap.get? b=some o->H b=none->h'.get? b=some o)
  (slot: ∀b o,b≠X.env.locals->b∈X.fs->b∉ch->s.heap.get? b=some o->H b=none-> ∃sl,h'.get? b=some {o with slots:=sl}) (free: ∀b o,b∉ch->s.heap.get? b=some o->H b=none->H' b=none)
  (there: ∀b o,b∉ch->s.heap.get? b=some o-> ∃o',h'.get? b=some o')
  (tups: ∀b xs,H b=some (.tup xs)->H' b=some (.tup xs)) (frzs: ∀b o u,H b=some (.frz o u)->H' b=some (.frz o u)) (tbls: ∀b ps,H b=some (.tbl ps)-> ∃more,H' b=some (.tbl (ps++more)))
  (ns: ∀m,s.heap.Ns X.env.locals m->h'.Ns X.env.locals m) (hok:HOk X.prog X.w H' h') (hg:AllBare g'):
  Inv X pins σ H' {s with heap:=h',gens:=g',drawn:=d',toks:=t'}:=by
 have neL: ∀b o,X.s₀.heap.get? b=some o->b≠X.env.locals:=λb o e=>ne_of_lt (lt_of_lt_of_le (Heap.lt_size e) I.ok.above)
 have neC: ∀b o,X.s₀.heap.get? b=some o->b∉X.ex->b∉ch:=λb o e hx hb=>by
  rcases (hch b hb).1 with z|z
  ·exact hx z
  ·exact absurd (lt_of_lt_of_le (Heap.lt_size e) z) (lt_irrefl _)
 have cellK: ∀x c,X.env.cells.lookup x=some c-> ∀v,s.heap.IsCell c v->h'.IsCell c v:=λx c e v ⟨o,ho,hd⟩=>by
  have nch:c∉ch:=λz=>(hch c z).2.2.1 x c e rfl
  by_cases hc:c∈X.fs
  ·obtain⟨sl,q⟩:=slot c o (I.cne x c e) hc nch ho (I.freeC x c e)
   exact⟨_,q,hd⟩
  ·exact⟨o,keep c o (I.cne x c e) hc nch ho (I.freeC x c e),hd⟩
 refine⟨I.ok,I.os,hg,⟨λb o e n hb hx=>?_,λb o e n hb hx=>?_,λb o e n hx=>?_,λb o e hx=>?_,λb xs e=>tups b xs (I.base.tups b xs e),λb o xs e=>frzs b o xs (I.base.frzs b o xs e),λb ps e=>?_⟩,?_,λx c e=>?_,?_,λx c e=>?_,λp hp=>?_,hok,I.len⟩
 ·exact keep b o (neL b o e) hb (neC b o e hx) (I.base.keep b o e n hb hx) (I.base.free b o e n hx)
 ·obtain⟨sl,e1⟩:=I.base.slot b o e n hb hx
  obtain⟨sl',e2⟩:=slot b _ (neL b o e) hb (neC b o e hx) e1 (I.base.free b o e n hx)
  exact⟨sl',e2⟩
 ·obtain⟨o',e1⟩:=I.base.there b o e hx
  exact free b o' (neC b o e hx) e1 (I.base.free b o e n hx)
 ·obtain⟨o',e1⟩:=I.base.there b o e hx
  exact there b o' (neC b o e hx) e1
 ·obtain⟨m1,e1⟩:=I.base.tbls b ps e
  obtain⟨m2,e2⟩:=tbls b _ e1
  exact⟨m1++m2,by rw [e2,Array.append_assoc]⟩
 ·obtain⟨m,hn,hl⟩:=I.loc
  refine⟨m,ns m hn,λi x v e1 e2 e3=>?_⟩
  obtain⟨u,r,l⟩:=hl i x v e1 e2 e3
  refine⟨u,r,?_⟩
  rcases l with l|⟨k,c,e,z⟩
  ·exact .inl l
  ·exact .inr ⟨k,c,e,cellK x c e _ z⟩
 ·obtain⟨v,z⟩:=I.cell x c e
  exact⟨v,cellK x c e v z⟩
 ·obtain⟨m,⟨o,_,_,ho,_⟩,_⟩:=I.loc
  exact free _ o (λz=>(hch _ z).2.1 rfl) ho I.free
 ·obtain⟨v,o,ho,hd⟩:=I.cell x c e
  exact free c o (λz=>(hch c z).2.2.1 x c e rfl) ho (I.freeC x c e)
 ·obtain⟨e,n,ne,nf,d⟩:=I.pin p hp
  have nch:p.1∉ch:=λz=>(hch p.1 z).2.2.2 p hp rfl
  exact⟨keep p.1 p.2 ne nf nch e n,free p.1 p.2 nch e n,ne,nf,d⟩
theorem Inv.un{t':Nat}(I:Inv X pins σ H s)(u:Un X.fs [] H H' s.heap h')(hok:HOk X.prog X.w H' h'):Inv X pins σ H' {s with heap:=h',toks:=t'}:=by
 obtain⟨m,⟨o,es,ep,ho,r⟩,_⟩:=id I.loc
 obtain⟨sl,hL⟩:=u.any ho I.free (by simp)
 exact I.step (g':=s.gens) (d':=s.drawn) (ch:=[]) (λ_ z=>nomatch z) (λb o _ hb _ e n=>u.keep b o e n hb (by simp)) (λb o _ hb _ e n=>u.slot b o e n hb (by simp)) (λb o _ e n=>u.free b o e n (by simp)) (λb o _ e=>u.there b o e (by simp)) u.tups u.frzs u.tbls (λm' hm=>by
  obtain⟨o',es',ep',ho',r'⟩:=hm
  rw [ho]at ho';cases ho'
  exact⟨_,es',ep',hL,r'⟩) hok I.bare
theorem Inv.call{g':Array GenState}{t':Nat}{d':Drawn}{ch:List Addr}(I:Inv X pins σ H s)(u:Un (frs X.stack) ch H H' s.heap h')(hok:HOk X.prog X.w H' h')(hg:AllBare g')
  (hch: ∀b∈ch,(b∈X.ex\/X.s₀.heap.objs.size<=b)/\b≠X.env.locals/\(∀x c,X.env.cells.lookup x=some c->c≠b)/\ ∀p∈X.pn++pins,p.1≠b):
  Inv X pins σ H' {s with heap:=h',gens:=g',drawn:=d',toks:=t'}:=by
 obtain⟨m,⟨o,es,ep,ho,r⟩,_⟩:=id I.loc
 obtain⟨sl,hL⟩:=u.any ho I.free λz=>(hch _ z).2.1 rfl
 exact I.step (ch:=ch) hch (λb o hL hb hc e n=>u.keep b o e n (λz=>(mC.mp (I.stkSub b z)).elim hL hb) hc) (λb o _ _ hc e n=>u.any e n hc) (λb o hc e n=>u.free b o e n hc) (λb o hc e=>u.there b o e hc) u.tups u.frzs u.tbls (λm' hm=>by
  obtain⟨o',es',ep',ho',r'⟩:=hm
  rw [ho]at ho';cases ho'
  exact⟨_,es',ep',hL,r'⟩) hok hg
theorem Inv.turned{t':Nat}{it:Addr}(I:Inv X pins σ H s)(k: ∀b o,b≠it->s.heap.get? b=some o->h'.get? b=some o)(hn:H it=none)(hL:it≠X.env.locals)
  (h1:it∈X.ex\/X.s₀.heap.objs.size<=it) (h2: ∀x c,X.env.cells.lookup x=some c->c≠it) (h3: ∀p∈X.pn++pins,p.1≠it):Inv X pins σ H {s with heap:=h',toks:=t'}:=by
 have nit: ∀b u,H b=some u->b≠it:=λb u e z=>by rw [z,hn]at e;cases e
 refine I.step (g':=s.gens) (d':=s.drawn) (ch:=[it]) (λb hb=>?_) (λb o _ _ hc e _=>k b o (λz=>hc (by simp [z])) e) (λb o _ _ hc e _=>⟨o.slots,k b o (λz=>hc (by simp [z])) e⟩) (λ_ _ _ _ n=>n)
  (λb o hc e=>⟨o,k b o (λz=>hc (by simp [z])) e⟩) (λ_ _ e=>e) (λ_ _ _ e=>e) (λb ps e=>⟨#[],by rw [e];simp⟩) (λm hm=>?_) (λb u e=>?_) I.bare
 ·have e:b=it:=by simpa using hb
  subst e
  exact⟨h1,hL,h2,h3⟩
 ·obtain⟨o,es,ep,ho,r⟩:=hm
  exact⟨o,es,ep,k _ o (Ne.symm hL) ho,r⟩
 ·refine(I.hok b u e).stay (λc v hc q=>k c v ?_ q) (λ_ q=>q) λ_ _ q=>q
  rcases hc with z|z
  ·rw [z];exact nit b u e
  ·exact nit c _ z
theorem Inv.tok(I:Inv X pins σ H s)(t:Nat):Inv X pins σ H {s with toks:=t}:=I.un (h':=s.heap) (t':=t) Un.refl I.hok
theorem Inv.kept{t':Nat}(I:Inv X pins σ H s)(k: ∀b u,s.heap.get? b=some u->h'.get? b=some u):Inv X pins σ H {s with heap:=h',toks:=t'}:=I.un (Un.kept k) (I.hok.kept k)
theorem Inv.laid{a:Addr}{o:HO}{t':Nat}(I:Inv X pins σ H s)(k: ∀b u,s.heap.get? b=some u->h'.get? b=some u)(hp:s.heap.objs.size<=a)(new:ObjOk X.prog X.w (upd H a o) h' a o):
  Inv X pins σ (upd H a o) {s with heap:=h',toks:=t'}:=I.un (Un.laid k hp (I.hok.fresh hp)) (I.hok.laid k hp new)
theorem Inv.write{x e:Addr}{o:HO}{t':Nat}(I:Inv X pins σ H s)(mu:Mut (H x))(he:e=x\/H e=some (.own x))(k: ∀b u,b≠e->s.heap.get? b=some u->h'.get? b=some u)(heo: ∃u,h'.get? e=some u)
  (new:ObjOk X.prog X.w (upd H x o) h' x o):Inv X pins σ (upd H x o) {s with heap:=h',toks:=t'}:=I.un (Un.write mu he k heo) (I.hok.write mu he k heo new)
theorem Inv.pins_of{pins':List (Addr×Obj)}(I:Inv X pins σ H s)(h: ∀p∈pins',s.heap.get? p.1=some p.2/\H p.1=none/\p.1≠X.env.locals/\p.1∉X.fs/\ ∀v,p.2.data≠.cell v):Inv X pins' σ H s:=
 ⟨I.ok,I.os,I.bare,I.base,I.loc,I.cell,I.free,I.freeC,λp hp=>(mem_append.mp hp).elim (λz=>I.pin p (mem_append_left _ z)) (h p),I.hok,I.len⟩
theorem zTZ{N:List Str}(hN:N.Nodup){i j:Nat}{x:Str}(a:N[i]? =some x)(b:N[j]? =some x):i=j:=by
 obtain⟨h1,e1⟩:=gS0.mp a
 obtain⟨h2,e2⟩:=gS0.mp b
 exact(getElem_inj hN).mp (e1.trans e2.symm)
theorem zPR{M:Model}{A:Around}{E:VP}{i:Nat}{x:Str}{v:V}{u:Value}{Q:Unit->Shared->Prop}(I:Inv X pins σ H s)(hN:X.N.Nodup)(hi:X.N[i]? =some x)(hx:Loc X.env.scope x)(r:RelV v u)
  (h: ∀s',Inv X pins (σ.set i (some v)) H s'->(∃a,Heap.SameBut a s.heap s'.heap/\(a=X.env.locals\/X.env.cells.lookup x=some a))->Q () s') (hf:X.fn x=true\/X.env.scope.names.lookup x=some .local:=by first |exact .inl rfl|exact .inr rfl|assumption):wpAny M A (storeName X.env x u) Q E s:=by
 obtain⟨m,hn,hl⟩:=id I.loc
 have hcls:(X.env.scope.kind==.class || (X.env.scope.kind==.module&&X.env.locals !=X.env.globals))=false:=by rw [I.ok.kind];rfl
 have hiσ:i<σ.length:=by rw [I.len];exact(gS0.mp hi).1
 have cne:=I.cne
 have tracked: ∀{a:Addr}{h':Heap},(∃o,s.heap.get? a=some o/\H a=none)->Heap.SameBut a s.heap h'->HOk X.prog X.w H h':=λ{a h'} ha hs b ob e=>by
  obtain⟨_,_,hfree⟩:=ha
  refine(I.hok b ob e).stay (λc w' hc q=>(hs.2 c ?_).trans q) (λ_ q=>q) λ_ _ q=>q
  rintro rfl
  rcases hc with rfl|hc
  ·rw [hfree]at e;cases e
  ·rw [hfree]at hc;cases hc
 rcases hx with hk|hk
 ·refine wpAny_storeName_local hk hn (λh' hn' hs=>?_) hcls
  obtain⟨oL,_,_,hoL,_⟩:=id hn
  refine h _ ⟨I.ok,I.os,I.bare,⟨λb o e n hb hx=>?_,λb o e n hb hx=>?_,I.base.free,λb o e hx=>?_,I.base.tups,I.base.frzs,I.base.tbls⟩,⟨_,hn',λj y v' e1 e2 e3=>?_⟩,λy c e=>?_,I.free,I.freeC,λp hp=>?_,tracked ⟨oL,hoL,I.free⟩ hs,by simpa using I.len⟩ ⟨_,hs,.inl rfl⟩
  ·exact(hs.2 b (ne_of_lt (lt_of_lt_of_le (Heap.lt_size e) I.ok.above))).trans (I.base.keep b o e n hb hx)
  ·obtain⟨sl,e1⟩:=I.base.slot b o e n hb hx
   exact⟨sl,(hs.2 b (ne_of_lt (lt_of_lt_of_le (Heap.lt_size e) I.ok.above))).trans e1⟩
  ·obtain⟨o',e1⟩:=I.base.there b o e hx
   exact⟨o',(hs.2 b (ne_of_lt (lt_of_lt_of_le (Heap.lt_size e) I.ok.above))).trans e1⟩
  ·by_cases hj:j=i
   ·subst hj
    rw [hi]at e1;cases e1
    rw [getElem?_set_self hiσ]at e2
    cases e2
    exact⟨u,r,.inl ⟨hk,by simp⟩⟩
   ·rw [getElem?_set_ne (Ne.symm hj)]at e2
    obtain⟨u',r',q⟩:=hl j y v' e1 e2 e3
    refine⟨u',r',?_⟩
    rcases q with⟨k,e⟩|⟨k,c,e,z⟩
    ·refine .inl ⟨k,?_⟩
     have:y≠x:=λe=>hj (zTZ hN e1 (e▸hi))
     simp [this,e]
    ·exact .inr ⟨k,c,e,z.sameBut hs (cne y c e)⟩
  ·obtain⟨w',z⟩:=I.cell y c e
   exact⟨w',z.sameBut hs (cne y c e)⟩
  ·obtain⟨e,n,ne,nf,d⟩:=I.pin p hp
   exact⟨(hs.2 p.1 ne).trans e,n,ne,nf,d⟩
 ·have hfn:X.fn x=true:=by
   rcases hf with z|z
   ·exact z
   ·rw [z]at hk;cases hk
  obtain⟨c,hc⟩:=I.ok.has x (.inl hk)
  obtain⟨w',z⟩:=I.cell x c hc
  refine wpAny_storeName_cell I.ok.kind hk hc z (λh' hc' hs=>?_)
  obtain⟨oc,hoc,hocd⟩:=id z
  refine h {s with heap:=h'} ⟨I.ok,I.os,I.bare,⟨λb o e n hb hx=>?_,λb o e n hb hx=>?_,I.base.free,λb o e hx=>?_,I.base.tups,I.base.frzs,I.base.tbls⟩,⟨m,hn.sameBut hs (Ne.symm (cne x c hc)),λj y v' e1 e2 e3=>?_⟩,λy c' e=>?_,I.free,I.freeC,λp hp=>?_,tracked ⟨oc,hoc,I.freeC x c hc⟩ hs,by simpa using I.len⟩ ⟨c,hs,.inr hc⟩
  ·exact(hs.2 b (ne_of_lt (lt_of_lt_of_le (Heap.lt_size e) (I.ok.cab x c hfn hc)))).trans (I.base.keep b o e n hb hx)
  ·obtain⟨sl,e1⟩:=I.base.slot b o e n hb hx
   exact⟨sl,(hs.2 b (ne_of_lt (lt_of_lt_of_le (Heap.lt_size e) (I.ok.cab x c hfn hc)))).trans e1⟩
  ·obtain⟨o',e1⟩:=I.base.there b o e hx
   exact⟨o',(hs.2 b (ne_of_lt (lt_of_lt_of_le (Heap.lt_size e) (I.ok.cab x c hfn hc)))).trans e1⟩
  ·by_cases hj:j=i
   ·subst hj
    rw [hi]at e1;cases e1
    rw [getElem?_set_self hiσ]at e2
    cases e2
    exact⟨u,r,.inr ⟨.inl hk,c,hc,hc'⟩⟩
   ·rw [getElem?_set_ne (Ne.symm hj)]at e2
    obtain⟨u',r',q⟩:=hl j y v' e1 e2 e3
    refine⟨u',r',?_⟩
    rcases q with q|⟨k,c',e,z'⟩
    ·exact .inl q
    ·refine .inr ⟨k,c',e,z'.sameBut hs ?_⟩
     rintro rfl
     exact hj (zTZ hN e1 (I.ok.inj _ _ _ e hc▸hi))
  ·by_cases hcc:c'=c
   ·subst hcc;exact⟨_,hc'⟩
   ·obtain⟨w2,z2⟩:=I.cell y c' e
    exact⟨w2,z2.sameBut hs hcc⟩
  ·obtain⟨e,n,ne,nf,d⟩:=I.pin p hp
   refine⟨(hs.2 p.1 ?_).trans e,n,ne,nf,d⟩
   intro q
   rw [q,hoc]at e
   have q':oc=p.2:=Option.some.inj e
   exact d w' (by rw [<-q'];exact hocd)
theorem zUA{M:Model}{A:Around}{E:VP}{i:Nat}{x:Str}{v:V}{u:Value}{Q:Unit->Shared->Prop}(I:Inv X pins σ H s)(hN:X.N.Nodup)(hi:X.N[i]? =some x)(hx:Loc X.env.scope x)(r:RelV v u)
  (h: ∀s',Inv X pins (σ.set i (some v)) H s'->Q () s') (hf:X.fn x=true\/X.env.scope.names.lookup x=some .local:=by first |exact .inl rfl|exact .inr rfl|assumption):wpAny M A (storeName X.env x u) Q E s:=
 zPR I hN hi hx r (λs' I' _=>h s' I') hf
theorem Inv.call'{s':Shared}{ch:List Addr}(I:Inv X pins σ H s)(ho:s'.os=s.os)(u:Un (frs X.stack) ch H H' s.heap s'.heap)(hok:HOk X.prog X.w H' s'.heap)(hg:AllBare s'.gens)
  (hch: ∀b∈ch,(b∈X.ex\/X.s₀.heap.objs.size<=b)/\b≠X.env.locals/\(∀x c,X.env.cells.lookup x=some c->c≠b)/\ ∀p∈X.pn++pins,p.1≠b):Inv X pins σ H' s':=by
 obtain⟨h',g',d',t',o'⟩:=s'
 have e:o'=s.os:=ho
 subst e
 exact I.call (g':=g') (t':=t') (d':=d') u hok hg hch
end
abbrev XK:=Value->Option Addr->Hp->Prop
abbrev St:=List (Option V)
abbrev VK:=V->Hp->Prop
abbrev TE:=St->Hp->VK->Prop
abbrev TT:=St->Hp->(Bool->Hp->Prop)->Prop
abbrev TA:=St->Hp->(List V->Hp->Prop)->Prop
structure Ends where
 nx:St->Hp->Prop
 rt:VK
 bk:St->Hp->Prop:=λ_ _=>False
 ct:St->Hp->Prop:=λ_ _=>False
abbrev TS:=Ends->St->Hp->Prop
def EP(X:Cx)(pins:List (Addr×Obj))(σ:St)(Q:VK)(u:Value)(s':Shared):Prop:= ∃v H',Inv X pins σ H' s'/\RelV v u/\Q v H'
def TP(X:Cx)(pins:List (Addr×Obj))(σ:St)(Q:Bool->Hp->Prop)(b:Bool)(s':Shared):Prop:= ∃H',Inv X pins σ H' s'/\Q b H'
def AP(X:Cx)(pins:List (Addr×Obj))(σ:St)(Q:List V->Hp->Prop)(us:List Value)(s':Shared):Prop:= ∃vs H',Inv X pins σ H' s'/\Vals vs us/\Q vs H'
def SP(X:Cx)(pins:List (Addr×Obj))(D:Ends)(f:Flow)(s':Shared):Prop:=
 match f with
 |.next=> ∃σ' H',Inv X pins σ' H' s'/\D.nx σ' H'
 |.brk=> ∃σ' H',Inv X pins σ' H' s'/\D.bk σ' H'
 |.cont=> ∃σ' H',Inv X pins σ' H' s'/\D.ct σ' H'
 |.ret u=> ∃v σ' H',Inv X pins σ' H' s'/\RelV v u/\D.rt v H'
def PE(X:Cx)(e:Expr)(t:TE):Prop:=
 ∀(pins:List (Addr×Obj))(s:Shared)(σ:St)(H:Hp)(Q:VK),Inv X pins σ H s->t σ H Q->wpAny (model X.prog X.w) X.A (eval e X.env) (EP X pins σ Q) X.xe s
def PT(X:Cx)(e:Expr)(t:TT):Prop:=
 ∀(pins:List (Addr×Obj))(s:Shared)(σ:St)(H:Hp)(Q:Bool->Hp->Prop),Inv X pins σ H s->t σ H Q->wpAny (model X.prog X.w) X.A (isTrue e X.env (eval e X.env)) (TP X pins σ Q) X.xe s
def PW(X:Cx)(e:Expr)(t:TT):Prop:=
 ∀(whole:Sem Value)(pins:List (Addr×Obj))(s:Shared)(σ:St)(H:Hp)(Q:Bool->Hp->Prop),Inv X pins σ H s->t σ H Q->wpAny (model X.prog X.w) X.A (isTrue e X.env whole) (TP X pins σ Q) X.xe s
theorem PW.pt{X:Cx}{e:Expr}{t:TT}(h:PW X e t):PT X e t:=h _
def PA(X:Cx)(es:List Expr)(t:TA):Prop:=
 ∀(pos:Pos)(pins:List (Addr×Obj))(s:Shared)(σ:St)(H:Hp)(Q:List V->Hp->Prop),Inv X pins σ H s->t σ H Q->wpAny (model X.prog X.w) X.A (spliced (backTo pos (starEach es X.env))) (AP X pins σ Q) X.xe s
def PS(X:Cx)(st:Stmt)(t:TS):Prop:=
 ∀(pins:List (Addr×Obj))(s:Shared)(σ:St)(H:Hp)(D:Ends),Inv X pins σ H s->t D σ H->wpAny (model X.prog X.w) X.A (exec st X.env) (SP X pins D) X.xe s
def PSs(X:Cx)(st:List Stmt)(t:TS):Prop:=
 ∀(pins:List (Addr×Obj))(s:Shared)(σ:St)(H:Hp)(D:Ends),Inv X pins σ H s->t D σ H->wpAny (model X.prog X.w) X.A (execs st X.env) (SP X pins D) X.xe s
theorem thn{α:Type}{t:Sem α}{Q Q':α->Shared->Prop}{M:Model}{A:Around}{E:VP}{s:Shared}(h:wpAny M A t Q E s)(hQ: ∀a s,Q a s->Q' a s):wpAny M A t Q' E s:=wpAny_mono h hQ λ_ _ x=>x
section
variable{X:Cx}
def tVar(i:Nat):TE:=λσ H Q=> ∃v,σ[i]? =some (some v)/\Q v H
def tC(v:V):TE:=λ_ H Q=>Q v H
theorem yNN{i:Nat}{x:Str}{pos:Pos}(hN:X.N[i]? =some x)(hv:Vis X.env.scope x)(hd:(x==("__debug__":Str))=false:=by decide)(hcd:(x==("__classdict__":Str))=false:=by decide):PE X (.Name x pos) (tVar i):=by
 intro pins s σ H Q I h
 obtain⟨v,e,h⟩:=h
 obtain⟨m,hn,hl⟩:=I.loc
 obtain⟨u,r,l⟩:=hl i x v hN e hv
 have fin:EP X pins σ Q u s:=⟨v,H,I,r,h⟩
 rcases l with⟨hk,hm⟩|⟨hk,c,hc,hcell⟩
 ·exact wpAny_Name (wpAny_loadName_local I.ok.kind hk hn hm fin) hd
 ·rcases hk with hk|hk
  ·exact wpAny_Name (wpAny_loadName_cell I.ok.kind hk hc hcell fin) hd
  ·exact wpAny_Name (wpAny_loadName_free I.ok.kind hk hc hcell fin hcd) hd
theorem yDI{i j pos}:PE X (.Constant (.int i) j pos) (tC (.int i)):=λ_ _ _ H _ I h=>wpAny_Constant_int ⟨.int i,H,I.tok _,⟨_,rfl⟩,h⟩
theorem pe_bl{b j pos}:PE X (.Constant (.bool b) j pos) (tC (.bl b)):=λ_ _ _ H _ I h=>Constant_bool ⟨.bl b,H,I,rfl,h⟩
theorem yNO{j pos}:PE X (.Constant .none j pos) (tC .non):=λ_ _ _ H _ I h=>Constant_none ⟨.non,H,I,rfl,h⟩
theorem yNP{x j pos}:PE X (.Constant (.str x) j pos) (tC (.str x)):=λ_ _ _ H _ I h=>Calls.Constant_str ⟨.str x,H,I.tok _,⟨_,rfl⟩,h⟩
def Gl(X:Cx)(x:Str):Prop:=X.env.kindOf x=some .globalImplicit
theorem yIM{E:VP}{pins:List (Addr×Obj)}{s:Shared}{σ:St}{H:Hp}{x:Str}{u:Value}{pos:Pos}{Q:VP}(I:Inv X pins σ H s)(hg:Gl X x)(hm:X.mg x=some u)(h:Q u s)
  (hd:(x==("__debug__":Str))=false:=by decide):wpAny (model X.prog X.w) X.A (eval (.Name x pos) X.env) Q E s:=
 Calls.Name_function_global I.ok.kind hg (Calls.loadGlobal_global (by rw [I.ok.glob];exact I.mod.glob.keeps I.bk) hm h) hd
theorem zRK{E:VP}{pins:List (Addr×Obj)}{s:Shared}{σ:St}{H:Hp}{x:Str}{u:Value}{pos:Pos}{Q:VP}(I:Inv X pins σ H s)(hg:Gl X x)(hm:X.mg x=none)(hv:bootBuiltins x=some u)(h:Q u s)
  (hn:x≠"__name__":=by decide) (hd:(x==("__debug__":Str))=false:=by decide):wpAny (model X.prog X.w) X.A (eval (.Name x pos) X.env) Q E s:=by
 obtain⟨mb,h1,h2⟩:=I.mod.blt
 exact Calls.Name_function_global I.ok.kind hg (Calls.loadGlobal_builtin (by rw [I.ok.glob];exact I.mod.glob.keeps I.bk) hm (by rw [I.ok.blt];exact h1.keeps I.bk) ((h2 x hn).trans hv) h) hd
variable{a b:Expr}{ta tb:TE}{pos:Pos}
variable{tA tB':TT}{nL:List Expr}
def tAnd(t u:TT):TT:=λσ H Q=>t σ H λc H1=>if c=true then u σ H1 Q else Q false H1
theorem yIN(ha:PT X a tA):PW X (.BoolOp .And [a] pos) tA:=by
 intro wh pins s σ H Q I h
 refine isTrue_and (thn (ha pins s σ H Q I h) λc s1 e=>?_)
 cases c with
 |true=>exact isTrue_and_nil e
 |false=>exact e
theorem yNQ(ha:PT X a tA)(hb:PW X (.BoolOp .And (b::nL) pos) tB'):PW X (.BoolOp .And (a::b::nL) pos) (tAnd tA tB'):=by
 intro wh pins s σ H Q I h
 refine isTrue_and (thn (ha pins s σ H _ I h) λc s1 ⟨H1,I1,q1⟩=>?_)
 cases c with
 |true=>exact hb wh pins s1 σ H1 Q I1 q1
 |false=>exact⟨H1,I1,q1⟩
end
def SqL(K:PySem.W.Frag)(H:Hp)(a:Addr)(xs:List V):Prop:=
 Rd H a (.lst xs)\/
  ∃(o:Obj)(its:Array Value)(n:Nat),K.lookup a=some o/\o.cls=.type "list"/\o.dict=none/\o.data=.seq its n/\its.size<=sizeLine/\Vals xs its.toList
def SqT(K:PySem.W.Frag)(H:Hp)(a:Addr)(xs:List V):Prop:=
 Rd H a (.tup xs)\/
  ∃(o:Obj)(its:Array Value)(n:Nat),K.lookup a=some o/\o.cls=.type "tuple"/\o.data=.seq its n/\its.size<=sizeLine/\Vals xs its.toList
def absV:Value->Option V
 |.none=>some .non
 |.bool b=>some (.bl b)
 |.int i _=>some (.int i)
 |.str x _=>some (.str x)
 |.bytes b _=>some (.byt b)
 |.float b _=>some (.flt b)
 |.ref a=>some (.ref a)
 |.type n=>some (.ty n)
 |_=>none
theorem RelV.abs{x:V}{u:Value}(r:RelV x u):absV u=some x:=by
 cases x with
 |non=>cases r;rfl
 |bl _=>cases r;rfl
 |int _=>obtain⟨t,rfl⟩:=r;rfl
 |str _=>obtain⟨t,rfl⟩:=r;rfl
 |byt _=>obtain⟨t,rfl⟩:=r;rfl
 |flt _=>obtain⟨t,rfl⟩:=r;rfl
 |ref _=>cases r;rfl
 |ty _=>cases r;rfl
theorem RelV.inj{x y:V}{u:Value}(r:RelV x u)(q:RelV y u):x=y:=Option.some.inj (r.abs.symm.trans q.abs)
theorem Vals.inj: ∀{xs ys:List V}{us:List Value},Vals xs us->Vals ys us->xs=ys
 |_,_,_,.nil,.nil=>rfl
 |_,_,_,.cons r t,.cons r' t'=>by rw [r.inj r',Vals.inj t t']
section
variable{X:Cx}{pins:List (Addr×Obj)}{σ:St}{H:Hp}{s:Shared}{a:Addr}{xs ys:List V}
theorem SqL.of{K:PySem.W.Frag}(h:H a=some (.lst xs)):SqL K H a xs:=.inl (.inl h)
theorem SqT.of{K:PySem.W.Frag}(h:H a=some (.tup xs)):SqT K H a xs:=.inl (.inl h)
theorem Inv.list(I:Inv X pins σ H s)(h:SqL X.K H a xs): ∃its:List Value,Vals xs its/\PlainL s.heap a its.toArray/\xs.length<=sizeLine:=by
 rcases h with h|⟨o,its,n,hk,hc,hd,hs,hz,r⟩
 ·obtain⟨z,its,n,r,e⟩:=h.ok I.hok
  exact⟨its,r,⟨_,n,e,rfl,rfl,rfl⟩,z⟩
 ·refine⟨its.toList,r,⟨o,n,I.kIn a o hk,hc,hd,by simpa using hs⟩,?_⟩
  have e:=r.length
  simp only [Array.length_toList]at e
  omega
theorem Inv.tuple(I:Inv X pins σ H s)(h:SqT X.K H a xs): ∃its:List Value,Vals xs its/\IsTup s.heap a its.toArray/\xs.length<=sizeLine:=by
 rcases h with h|⟨o,its,n,hk,hc,hs,hz,r⟩
 ·obtain⟨z,its,r,p⟩:=h.ok I.hok
  exact⟨its,r,p,z⟩
 ·refine⟨its.toList,r,⟨o,I.kIn a o hk,hc,n,by simpa using hs⟩,?_⟩
  have e:=r.length
  simp only [Array.length_toList]at e
  omega
theorem Inv.list_inj(I:Inv X pins σ H s)(h:SqL X.K H a xs)(h':SqL X.K H a ys):xs=ys:=by
 obtain⟨its,r,⟨o,n,e,_,_,d⟩,_⟩:=I.list h
 obtain⟨its',r',⟨o',n',e',_,_,d'⟩,_⟩:=I.list h'
 rw [e]at e';cases e'
 rw [d]at d'
 injection d' with d1 _
 have:its=its':=by simpa using congrArg Array.toList d1
 subst this
 exact r.inj r'
theorem Inv.tuple_inj(I:Inv X pins σ H s)(h:SqT X.K H a xs)(h':SqT X.K H a ys):xs=ys:=by
 obtain⟨its,r,⟨o,e,_,n,d⟩,_⟩:=I.tuple h
 obtain⟨its',r',⟨o',e',_,n',d'⟩,_⟩:=I.tuple h'
 rw [e]at e';cases e'
 rw [d]at d'
 injection d' with d1 _
 have:its=its':=by simpa using congrArg Array.toList d1
 subst this
 exact r.inj r'
end
abbrev Cx.wish(X:Cx)(E:VP):Cx:={X with xe:=E}
abbrev Cx.nox(X:Cx):Cx:=X.wish λ_ _=>False
theorem Cx.Ok.wish{X:Cx}(ok:X.Ok)(E:VP):(X.wish E).Ok:=
 ⟨ok.mod,ok.kind,ok.glob,ok.blt,ok.above,ok.inj,ok.has,ok.cab,ok.hd,ok.frames,ok.stk,ok.exf,ok.bs,ok.bsz,ok.noex,ok.exfs,ok.funs,ok.frf⟩
theorem Cx.Ok.unwish{X:Cx}{E:VP}(ok:(X.wish E).Ok):X.Ok:=
 ⟨ok.mod,ok.kind,ok.glob,ok.blt,ok.above,ok.inj,ok.has,ok.cab,ok.hd,ok.frames,ok.stk,ok.exf,ok.bs,ok.bsz,ok.noex,ok.exfs,ok.funs,ok.frf⟩
section
variable{X:Cx}{pins:List (Addr×Obj)}{σ:St}{H:Hp}{s:Shared}{E:VP}
theorem Inv.wish(I:Inv X pins σ H s)(E:VP):Inv (X.wish E) pins σ H s:=⟨I.ok.wish E,I.os,I.bare,I.base,I.loc,I.cell,I.free,I.freeC,I.pin,I.hok,I.len⟩
theorem Inv.unwish(I:Inv (X.wish E) pins σ H s):Inv X pins σ H s:=⟨I.ok.unwish,I.os,I.bare,I.base,I.loc,I.cell,I.free,I.freeC,I.pin,I.hok,I.len⟩
theorem SP.unwish{D:Ends}{f:Flow}{s':Shared}(h:SP (X.wish E) pins D f s'):SP X pins D f s':=by
 cases f with
 |next=>obtain⟨σ',H',I,q⟩:=h;exact⟨σ',H',I.unwish,q⟩
 |brk=>obtain⟨σ',H',I,q⟩:=h;exact⟨σ',H',I.unwish,q⟩
 |cont=>obtain⟨σ',H',I,q⟩:=h;exact⟨σ',H',I.unwish,q⟩
 |ret u=>obtain⟨v,σ',H',I,r,q⟩:=h;exact⟨v,σ',H',I.unwish,r,q⟩
theorem PSs.nox{st:List Stmt}{t:TS}(h:PSs X.nox st t):PSs X st t:=λpins s σ H D I hw=>
 wpAny_mono (h pins s σ H D (I.wish _) hw) (λ_ _ q=>q.unwish) λ_ _ z=>False.elim z
end
section
variable{X:Cx}{st:Stmt}{nL:List Stmt}{t u:TS}{e:Expr}{te:TE}{pos:Pos}
def tNext:TS:=λD σ H=>D.nx σ H
def tSeq(t u:TS):TS:=λD σ H=>t {D with nx:=u D} σ H
theorem yIO:PSs X [] tNext:=λ_ _ σ H _ I h=>wpAny_execs_nil ⟨σ,H,I,h⟩
theorem yDJ(h1:PS X st t)(h2:PSs X nL u):PSs X (st::nL) (tSeq t u):=by
 intro pins s σ H D I h
 refine wpAny_execs_cons (thn (h1 pins s σ H {D with nx:=u D} I h) λf s1 q=>?_)
 cases f with
 |next=>
  obtain⟨σ',H',I',q⟩:=q
  exact h2 pins s1 σ' H' D I' q
 |ret v=>exact q
 |brk=>exact q
 |cont=>exact q
theorem yIP(h1:PS X st t):PSs X [st] t:=by
 intro pins s σ H D I h
 refine wpAny_execs_cons (thn (h1 pins s σ H D I h) λf s1 q=>?_)
 cases f with
 |next=>exact wpAny_execs_nil q
 |ret v=>exact q
 |brk=>exact q
 |cont=>exact q
theorem Inv.quiet{pins:List (Addr×Obj)}{σ:St}{H:Hp}{s:Shared}(I:Inv X pins σ H s):interactive X.env=false:=by simp [interactive,I.ok.kind]
def tDrop(te:TE):TS:=λD σ H=>te σ H λ_ H1=>D.nx σ H1
theorem yIQ(he:PE X e te)(hs:swapsWith e none pos.line X.env=pure false:=by rfl):PS X (.Expr e pos) (tDrop te):=by
 intro pins s σ H D I h
 exact wpAny_Expr_any (thn (he pins s σ H _ I h) λv s1 ⟨x,H1,I1,r1,q1⟩=>⟨σ,H1,I1,q1⟩) I.quiet hs
def tRet(te:TE):TS:=λD σ H=>te σ H D.rt
theorem yNR(he:PE X e te):PS X (.Return (some e) pos) (tRet te):=by
 intro pins s σ H D I h
 exact wpAny_Return_some (thn (he pins s σ H _ I h) λv s1 ⟨x,H1,I1,r1,q1⟩=>⟨x,σ,H1,I1,r1,q1⟩)
def tIfS(c:TT)(t u:TS):TS:=λD σ H=>c σ H λb H1=>if b=true then t D σ H1 else u D σ H1
theorem ps_if{c:Expr}{a b:List Stmt}{tc:TT}(hc:PT X c tc)(ha:PSs X a t)(hb:PSs X b u):PS X (.If c a b pos) (tIfS tc t u):=by
 intro pins s σ H D I h
 refine wpAny_If (thn (hc pins s σ H _ I h) λd s1 ⟨H1,I1,q1⟩=>?_)
 cases d with
 |true=>exact ha pins s1 σ H1 D I1 q1
 |false=>exact hb pins s1 σ H1 D I1 q1
def yNS:TS:=λ_ _ _=>False
theorem yDK:PS X st yNS:=λ_ _ _ _ _ _ h=>h.elim
end
abbrev TG:=V->St->Hp->(St->Hp->Prop)->Prop
abbrev TGs:=List V->St->Hp->(St->Hp->Prop)->Prop
def PG(X:Cx)(target:Expr)(t:TG):Prop:=
 ∀(pins:List (Addr×Obj))(s:Shared)(σ:St)(H:Hp)(v:V)(u:Value)(Q:St->Hp->Prop),Inv X pins σ H s->RelV v u->t v σ H Q->
  wpAny (model X.prog X.w) X.A (assign target X.env u) (λ_ s'=> ∃σ' H',Inv X pins σ' H' s'/\Q σ' H') X.xe s
def PGs(X:Cx)(ts:List Expr)(t:TGs):Prop:=
 ∀(pins:List (Addr×Obj))(s:Shared)(σ:St)(H:Hp)(vs:List V)(us:List Value)(Q:St->Hp->Prop),Inv X pins σ H s->Vals vs us->t vs σ H Q->
  wpAny (model X.prog X.w) X.A (assignInOrder ((assignEach ts X.env).map (·.2)) us) (λ_ s'=> ∃σ' H',Inv X pins σ' H' s'/\Q σ' H') X.xe s
abbrev TSet:=V->V->V->Hp->(Hp->Prop)->Prop
def PSet(X:Cx)(t:TSet):Prop:=
 ∀(pins:List (Addr×Obj))(s:Shared)(σ:St)(H:Hp)(o i v:V)(ov iv u:Value)(Q:Hp->Prop),Inv X pins σ H s->RelV o ov->RelV i iv->RelV v u->t o i v H Q->
  wpAny (model X.prog X.w) X.A (setItem ov iv u) (λ_ s'=> ∃H',Inv X pins σ H' s'/\Q H') X.xe s
section
variable{X:Cx}{pos:Pos}
def yDL(i:Nat):TG:=λv σ H Q=>Q (σ.set i (some v)) H
theorem zYO{i:Nat}{x:Str}(hN:X.N.Nodup)(hi:X.N[i]? =some x)(hx:Loc X.env.scope x)(hf:X.fn x=true\/X.env.scope.names.lookup x=some .local:=by first |exact .inl rfl|exact .inr rfl|assumption):PG X (.Name x pos) (yDL i):=by
 intro pins s σ H v u Q I r h
 exact wpAny_assign_Name (zUA I hN hi hx r (λs' I'=>⟨_,H,I',h⟩) hf)
def gNil:TGs:=λvs σ H Q=>vs=[]/\Q σ H
def gCons(t:TG)(u:TGs):TGs:=λvs σ H Q=> ∃v r,vs=v::r/\t v σ H λσ' H'=>u r σ' H' Q
theorem zYP:PGs X [] gNil:=by
 intro pins s σ H vs us Q I r h
 obtain⟨e,h⟩:=h
 subst e
 cases r
 exact assignInOrder_nil ⟨σ,H,I,h⟩
theorem zUB{e:Expr}{es:List Expr}{t:TG}{u:TGs}(h1:PG X e t)(h2:PGs X es u)
  (hs:(assignEach (e::es) X.env).map (·.2)=assign e X.env::(assignEach es X.env).map (·.2):=by rfl):PGs X (e::es) (gCons t u):=by
 intro pins s σ H vs us Q I r h
 obtain⟨v,vr,e1,h⟩:=h
 subst e1
 cases r with
 |cons r rr=>
  rw [hs]
  refine assignInOrder_cons (thn (h1 pins s σ H _ _ _ I r h) λ_ s1 ⟨σ1,H1,I1,q1⟩=>?_)
  exact h2 pins s1 σ1 H1 _ _ Q I1 rr q1
def gTup(K:PySem.W.Frag)(n:Nat)(t:TGs):TG:=λv σ H Q=> ∃a xs,v=.ref a/\SqT K H a xs/\xs.length=n/\t xs σ H Q
theorem yDM{es:List Expr}{k:Nat}{t:TGs}{n:Nat}(hc:X.calm=true)(h:PGs X es t)
  (hn:(assignEach es X.env).length=n:=by rfl) (hst:(assignEach es X.env).findIdx? (·.1)=none:=by rfl):PG X (.Tuple es k pos) (gTup X.K n t):=by
 intro pins s σ H v u Q I r hw
 obtain⟨a,xs,e1,hq,hl,hw⟩:=hw
 subst e1
 cases r
 obtain⟨its,rv,ht,hz⟩:=I.tuple hq
 refine assign_Tuple_tuple (I.ok.hd hc) ht (by simp [hn, <-hl,rv.length]) hst λh' hx=>?_
 have I1:Inv X pins σ H {s with heap:=h'}:=I.kept (t':=s.toks) λb o e=>hx b o (ne_of_lt (Heap.lt_size e)) e
 exact h pins _ σ H xs _ Q I1 (by simpa using rv) hw
def gSub(to ti:TE)(t:TSet):TG:=λv σ H Q=>to σ H λo H1=>ti σ H1 λi H2=>t o i v H2 λH3=>Q σ H3
theorem yDN{o i:Expr}{to ti:TE}{t:TSet}(ho:PE X o to)(hi:PE X i ti)(hs:PSet X t)
  (ha: ∀v,assign (.Subscript o i pos) X.env v=(do
   let ov <-holding [v] (eval o X.env)
   let iv <-holding [v,ov] (eval i X.env)
   standAt pos
   holding [v,ov,iv] (setItem ov iv v)
   release [v,ov,iv] []):=by intro _;rfl):PG X (.Subscript o i pos) (gSub to ti t):=by
 intro pins s σ H v u Q I r h
 rw [ha]
 refine wB0 (wpAny_holding (thn (ho pins s σ H _ I h) λov s1 ⟨x,H1,I1,r1,q1⟩=>?_))
 refine wB0 (wpAny_holding (thn (hi pins s1 σ H1 _ I1 q1) λiv s2 ⟨y,H2,I2,r2,q2⟩=>?_))
 refine wB0 (wpAny_standAt (wB0 (wpAny_holding (thn (hs pins s2 σ H2 x y v ov iv u _ I2 r1 r2 r q2) λ_ s3 ⟨H3,I3,q3⟩=>?_))))
 exact wpAny_release ⟨σ,H3,I3,q3⟩
def tAsg(te:TE)(g:TG):TS:=λD σ H=>te σ H λx H1=>g x σ H1 D.nx
theorem yNT{tg e:Expr}{te:TE}{g:TG}(he:PE X e te)(hg:PG X tg g)(hs:swapsWithSole [tg] e pos.line X.env=pure false:=by rfl)(hw:swappedStores [tg] e X.env=pure none:=by rfl)
  (h1:(assignEach [tg] X.env).map (·.2)=[assign tg X.env]:=by rfl):PS X (.Assign [tg] e pos) (tAsg te g):=by
 intro pins s σ H D I h
 refine wpAny_Assign_stores (thn (he pins s σ H _ I h) λv s1 ⟨x,H1,I1,r1,q1⟩=>?_) hs hw
 rw [h1]
 exact thn (hg pins s1 σ H1 x v _ I1 r1 q1) λ_ s2 q=>q
theorem yNU{i:Nat}{x:Str}{e:Expr}{te:TE}{pos':Pos}(hN:X.N.Nodup)(hi:X.N[i]? =some x)(hx:Loc X.env.scope x)(he:PE X e te)(hs:swapsWith e (some (.Name x pos')) pos.line X.env=pure false:=by rfl)(hf:X.fn x=true\/X.env.scope.names.lookup x=some .local:=by first |exact .inl rfl|exact .inr rfl|assumption):
  PS X (.Assign [.Name x pos'] e pos) (tAsg te (yDL i)):=by
 intro pins s σ H D I h
 refine wpAny_Assign_Name (thn (he pins s σ H _ I h) λv s1 ⟨y,H1,I1,r1,q1⟩=>?_) hs
 exact zUA I1 hN hi hx r1 (λs2 I2=>⟨_,H1,I2,q1⟩) hf
end
section
variable{X:Cx}{pos:Pos}
def yNV(c:TT)(tb:TS):TS:=λD σ H=> ∃W:Nat->St->Hp->Prop,(∃m,W m σ H)/\ ∀m σ H,W m σ H->
 c σ H λb H1=>if b=true then∃N:St->Hp->Prop,(∀σ' H',N σ' H'-> ∃m',m'<m/\W m' σ' H')/\tb {D with nx:=N,ct:=N,bk:=D.nx} σ H1 else D.nx σ H1
theorem yDO{c:Expr}{body:List Stmt}{tc:TT}{tb:TS}(hp:PassesOwn (model X.prog X.w) X.A X.env X.xe)(hc:PT X c tc)(hb:PSs X body tb):PS X (.While c body [] pos) (yNV tc tb):=by
 intro pins s σ H D I h
 obtain⟨W,⟨m0,w0⟩,turn⟩:=h
 refine wpAny_While (codeAny_whileLoop (λn s'=> ∃σ' H',Inv X pins σ' H' s'/\W n σ' H') ?_ m0 ⟨σ,H,I,w0⟩)
 rintro n s1 ⟨σ1,H1,I1,w1⟩
 refine wpAny_passesOwn hp (thn (hc pins s1 σ1 H1 _ I1 (turn n σ1 H1 w1)) λb s2 ⟨H2,I2,q2⟩=>?_)
 cases b with
 |true=>
  obtain⟨N,hN,q2⟩:=q2
  rw [iP rfl]
  refine wpAny_passesOwn hp (thn (hb pins s2 σ1 H2 _ I2 q2) λf s3 q3=>?_)
  cases f with
  |next=>
   obtain⟨σ3,H3,I3,n3⟩:=q3
   obtain⟨m',hm,w3⟩:=hN σ3 H3 n3
   exact⟨m',hm,σ3,H3,I3,w3⟩
  |cont=>
   obtain⟨σ3,H3,I3,n3⟩:=q3
   obtain⟨m',hm,w3⟩:=hN σ3 H3 n3
   exact⟨m',hm,σ3,H3,I3,w3⟩
  |brk=>exact q3
  |ret v=>exact q3
 |false=>
  rw [iN xF0]
  exact wpAny_execs_nil ⟨σ1,H2,I2,q2⟩
end
structure It where
 go:Nat->Hp->Prop
 yld:Nat->Hp->V->Hp->Prop
 stop:Nat->Hp->Prop
def zHS(X:Cx)(pins:List (Addr×Obj))(H:Hp)(b:Addr):Prop:=
 H b=none/\b≠X.env.locals/\b∉X.fs/\(b∈X.ex\/X.s₀.heap.objs.size<=b)/\(∀x c,X.env.cells.lookup x=some c->c≠b)/\ ∀p∈X.pn++pins,p.1≠b
theorem Inv.fpOk{X:Cx}{pins:List (Addr×Obj)}{σ:St}{H H':Hp}{s:Shared}{b:Addr}(I:Inv X pins σ H s)(hb:s.heap.objs.size<=b)(hn:H' b=none):zHS X pins H' b:=by
 refine⟨hn,ne_of_gt (lt_of_lt_of_le I.lt hb),I.nofs hb,.inr (le_trans I.sz hb),λx c e z=>?_,λp hp z=>?_⟩
 ·obtain⟨v,q⟩:=I.cell x c e
  exact absurd (lt_of_lt_of_le q.lt (by rw [z];exact hb)) (lt_irrefl _)
 ·exact absurd (lt_of_lt_of_le (Heap.lt_size (I.pin p hp).1) (by rw [z];exact hb)) (lt_irrefl _)
structure Turn(P:Program)(w:World)(K:PySem.W.Frag)(tg:Expr)(J:It)(fp:List Addr)(it:Addr)(tn:Nat->Heap->Prop):Prop where
 mem:it∈fp
 obj: ∀i h,tn i h-> ∀b∈fp, ∃o,h.get? b=some o/\ ∀v,o.data≠.cell v
 keep: ∀i h h',tn i h->(∀b∈fp, ∀o,h.get? b=some o->h'.get? b=some o)->tn i h'
 item: ∀(X:Cx),X.prog=P->X.w=w->X.K=K->X.calm=true-> ∀(i:Nat)(pins:List (Addr×Obj))(s:Shared)(σ:St)(H:Hp)(E:VP),Inv X pins σ H s->(∀b∈fp,zHS X pins H b)->tn i s.heap->J.go i H->
  wpAny (model P w) X.A (pyNext (.ref it)) (λr s1=> ∃u,r=some u/\
   wpAny (model P w) X.A (letOwnedTupleGo tg (.ref it) u) (λ_ s2=> ∃x H',Inv X pins σ H' s2/\RelV x u/\J.yld i H x H'/\tn (i+1) s2.heap/\ ∀b∈fp,H' b=none) E s1) E s
 done: ∀(X:Cx),X.prog=P->X.w=w->X.K=K->X.calm=true-> ∀(i:Nat)(pins:List (Addr×Obj))(s:Shared)(σ:St)(H:Hp)(E:VP),Inv X pins σ H s->(∀b∈fp,zHS X pins H b)->tn i s.heap->J.stop i H->
  wpAny (model P w) X.A (pyNext (.ref it)) (λr s1=>r=none/\Inv X pins σ H s1) E s
 self: ∀(A:Around)(i:Nat)(s:Shared)(Q:VP)(E:VP),tn i s.heap->Q (.ref it) s->wpAny (model P w) A (pyIter (.ref it)) Q E s
abbrev TI:=St->Hp->(It->Hp->Prop)->Prop
def PIE(X:Cx)(pins:List (Addr×Obj))(σ:St)(tg:Expr)(R:It->Hp->Prop)(itv:Value)(s2:Shared):Prop:=
 ∃(it:Addr)(fp:List Addr)(tn:Nat->Heap->Prop)(J:It)(H':Hp),itv=.ref it/\Inv X pins σ H' s2/\Turn X.prog X.w X.K tg J fp it tn/\tn 0 s2.heap/\(∀b∈fp,zHS X pins H' b)/\R J H'
def PI(X:Cx)(tg iter:Expr)(wi:TI):Prop:=
 ∀(pins:List (Addr×Obj))(s:Shared)(σ:St)(H:Hp)(R:It->Hp->Prop),Inv X pins σ H s->wi σ H R->
  wpAny (model X.prog X.w) X.A (eval iter X.env) (λv s1=>wpAny (model X.prog X.w) X.A (pyIter v) (PIE X pins σ tg R) X.xe s1) X.xe s
theorem zYQ{M:Model}{A:Around}{E:VP}{s:Shared}{tg:Expr}{it:Addr}{u:Value}{o:Obj}{n:String}{vs:Array Value}{Q:Unit->Shared->Prop}(ho:s.heap.get? it=some o)(hc:o.cls=.type n)(hd:o.data=.fields vs)
  (hn:["enumerate","zip","dict_itemiterator","dict_reverseitemiterator","odict_iterator","itertools.zip_longest","itertools.pairwise"].contains n=false) (hQ:Q () s):wpAny M A (letOwnedTupleGo tg (.ref it) u) Q E s:=by
 unfold letOwnedTupleGo
 cases tg<;>first
  |exact wP0 hQ
  |(cases u<;>first
    |exact wP0 hQ
    |(refine wB0 (wpAny_load ho ?_)
      rw [hc,hd]
      show wpAny M A (if(["enumerate","zip","dict_itemiterator","dict_reverseitemiterator","odict_iterator","itertools.zip_longest","itertools.pairwise"].contains n&&vs[0]? ==some (rawInt _))=true then _ else _) Q E s
      rw [iN (by intro h;rw [hn,Bool.false_and]at h;cases h)]
      exact wP0 hQ))
def Itl(K:PySem.W.Frag)(a:Addr):It:=
 ⟨λi H=> ∃xs x,SqL K H a xs/\xs[i]? =some x,λi H x H'=>H'=H/\ ∀xs,SqL K H a xs->xs[i]? =some x,λi H=> ∃xs,SqL K H a xs/\xs.length<=i⟩
def Itt(K:PySem.W.Frag)(a:Addr):It:=
 ⟨λi H=> ∃xs x,SqT K H a xs/\xs[i]? =some x,λi H x H'=>H'=H/\ ∀xs,SqT K H a xs->xs[i]? =some x,λi H=> ∃xs,SqT K H a xs/\xs.length<=i⟩
def Itr(lo:Int)(n:Nat):It:=⟨λi _=>i<n,λi H x H'=>H'=H/\x=.int (lo+i),λi _=>n<=i⟩
theorem zPS{P:Program}{w:World}{K:PySem.W.Frag}{tg:Expr}(a it:Addr):Turn P w K tg (Itl K a) [it] it (λi h=>h.IsListIter it a i) where
 mem:=by simp
 obj:=λi h st b hb=>by
  have e:b=it:=by simpa using hb
  subst e
  obtain⟨o,e,c,d⟩:=st
  exact⟨o,e,λv z=>by rw [d]at z;cases z⟩
 keep:=λi h h' st k=>st.at λo e=>k it (by simp) o e
 item:=by
  intro X hP hw hK hc i pins s σ H E I hf st hg
  subst hP hw hK
  obtain⟨xs,x,hq,hx⟩:=hg
  obtain⟨its,rv,p,hz⟩:=I.list hq
  obtain⟨u,hu,ru⟩:=rv.get hx
  obtain⟨f0,f1,f2,f3,f4,f5⟩:=hf it (by simp)
  refine wpAny_pyNext_list_item st p.isList (x:=u) (by simpa using hu) λh' st' sb=>?_
  have I1:Inv X pins σ H {s with heap:=h'}:=I.turned (t':=s.toks) (λb o hb e=>(sb.2 b hb).trans e) f0 f1 f3 f4 f5
  obtain⟨o,e,c,d⟩:=id st'
  exact⟨u,rfl,zYQ (s:={s with heap:=h'}) e c d (by decide) ⟨x,H,I1,ru,⟨rfl,λys hy=>by rw [I.list_inj hy hq];exact hx⟩,st',λb hb=>(hf b hb).1⟩⟩
 done:=by
  intro X hP hw hK hc i pins s σ H E I hf st hg
  subst hP hw hK
  obtain⟨xs,hq,hx⟩:=hg
  obtain⟨its,rv,p,hz⟩:=I.list hq
  obtain⟨f0,f1,f2,f3,f4,f5⟩:=hf it (by simp)
  have hl:=rv.length
  exact wpAny_pyNext_list_end (I.ok.hd hc) st p.isList (by simp;omega) λh' eb=>⟨rfl,I.turned (t':=s.toks) (λb o hb e=>eb b o hb e) f0 f1 f3 f4 f5⟩
 self:=λ_ _ _ _ _ st h=>wpAny_pyIter_listiter st h
theorem zMO{P:Program}{w:World}{K:PySem.W.Frag}{tg:Expr}(a it:Addr):Turn P w K tg (Itt K a) [it] it (λi h=>h.IsTupleIter it a i) where
 mem:=by simp
 obj:=λi h st b hb=>by
  have e:b=it:=by simpa using hb
  subst e
  obtain⟨o,e,c,d⟩:=st
  exact⟨o,e,λv z=>by rw [d]at z;cases z⟩
 keep:=λi h h' st k=>st.at λo e=>k it (by simp) o e
 item:=by
  intro X hP hw hK hc i pins s σ H E I hf st hg
  subst hP hw hK
  obtain⟨xs,x,hq,hx⟩:=hg
  obtain⟨its,rv,p,hz⟩:=I.tuple hq
  obtain⟨u,hu,ru⟩:=rv.get hx
  obtain⟨f0,f1,f2,f3,f4,f5⟩:=hf it (by simp)
  refine wpAny_pyNext_tuple_item st (show s.heap.IsTuple a its.toArray from p) (x:=u) (by simpa using hu) λh' st' sb=>?_
  have I1:Inv X pins σ H {s with heap:=h'}:=I.turned (t':=s.toks) (λb o hb e=>(sb.2 b hb).trans e) f0 f1 f3 f4 f5
  obtain⟨o,e,c,d⟩:=id st'
  exact⟨u,rfl,zYQ (s:={s with heap:=h'}) e c d (by decide) ⟨x,H,I1,ru,⟨rfl,λys hy=>by rw [I.tuple_inj hy hq];exact hx⟩,st',λb hb=>(hf b hb).1⟩⟩
 done:=by
  intro X hP hw hK hc i pins s σ H E I hf st hg
  subst hP hw hK
  obtain⟨xs,hq,hx⟩:=hg
  obtain⟨its,rv,p,hz⟩:=I.tuple hq
  obtain⟨f0,f1,f2,f3,f4,f5⟩:=hf it (by simp)
  have hl:=rv.length
  exact wpAny_pyNext_tuple_end (I.ok.hd hc) st (show s.heap.IsTuple a its.toArray from p) (by simp;omega) λh' eb=>⟨rfl,I.turned (t':=s.toks) (λb o hb e=>eb b o hb e) f0 f1 f3 f4 f5⟩
 self:=λ_ _ _ _ _ st h=>wpAny_pyIter_tupleiter st h
theorem zWX{P:Program}{w:World}{K:PySem.W.Frag}{tg:Expr}(it:Addr)(lo:Int)(n:Nat):Turn P w K tg (Itr lo n) [it] it (λi h=>IsRangeIter h it (lo+(i:Nat) * 1) ((n:Int) - (i:Nat)) 1) where
 mem:=by simp
 obj:=λi h st b hb=>by
  have e:b=it:=by simpa using hb
  subst e
  exact⟨_,st,λv z=>by
   have z':Data.fields _=Data.cell v:=z
   cases z'⟩
 keep:=λi h h' st k=>k it (by simp) _ st
 item:=by
  intro X hP hw hK hc i pins s σ H E I hf st hg
  subst hP hw hK
  obtain⟨f0,f1,f2,f3,f4,f5⟩:=hf it (by simp)
  have W:=Walks.range (prog:=X.prog) (w:=X.w) (I.ok.hd hc) it lo 1 n
  refine W.item i s _ _ hg st λv h' tk hv st' kk=>?_
  obtain⟨t,rfl⟩:=hv
  have I1:Inv X pins σ H {s with heap:=h',toks:=tk}:=I.turned (λb o hb e=>kk b o (by simpa using hb) e) f0 f1 f3 f4 f5
  refine⟨_,rfl,zYQ (s:={s with heap:=h',toks:=tk}) (n:="range_iterator") st' rfl rfl (by decide) ⟨.int (lo+i),H,I1,⟨t,?_⟩,⟨rfl,rfl⟩,st',λb hb=>(hf b hb).1⟩⟩
  rw [Int.mul_one]
 done:=by
  intro X hP hw hK hc i pins s σ H E I hf st hg
  subst hP hw hK
  obtain⟨f0,f1,f2,f3,f4,f5⟩:=hf it (by simp)
  exact wpAny_pyNext_range_end (I.ok.hd hc) st (by have:n<=i:=hg;omega) λh' eb=>⟨rfl,I.turned (t':=s.toks) (λb o hb e=>eb b o hb e) f0 f1 f3 f4 f5⟩
 self:=λ_ _ _ _ _ st h=>wpAny_pyIter_rangeiter st h
section
variable{X:Cx}{tg:Expr}
def iList(K:PySem.W.Frag)(tl:TE):TI:=λσ H R=>tl σ H λx H1=> ∃a,x=.ref a/\(∃xs,SqL K H1 a xs)/\R (Itl K a) H1
def iTup(K:PySem.W.Frag)(tl:TE):TI:=λσ H R=>tl σ H λx H1=> ∃a,x=.ref a/\(∃xs,SqT K H1 a xs)/\R (Itt K a) H1
theorem yIR{l:Expr}{tl:TE}(hl:PE X l tl):PI X tg l (iList X.K tl):=by
 intro pins s σ H R I h
 refine thn (hl pins s σ H _ I h) λv s1 ⟨x,H1,I1,r1,q1⟩=>?_
 obtain⟨a,e,⟨xs,hq⟩,q⟩:=q1
 subst e
 cases r1
 obtain⟨its,rv,p,hz⟩:=I1.list hq
 refine wpAny_pyIter_list p.isList ?_
 refine⟨s1.heap.objs.size,[s1.heap.objs.size],_,_,H1,rfl,I1.kept (t':=s1.toks) λb o e=>hP0 _ e,zPS a _,⟨_,Heap.get?_push_size _ rfl,rfl,rfl⟩,λb hb=>?_,q⟩
 have e:b=s1.heap.objs.size:=by simpa using hb
 subst e
 exact I1.fpOk (le_refl _) (I1.hok.fresh (le_refl _))
theorem yNW{l:Expr}{tl:TE}(hl:PE X l tl):PI X tg l (iTup X.K tl):=by
 intro pins s σ H R I h
 refine thn (hl pins s σ H _ I h) λv s1 ⟨x,H1,I1,r1,q1⟩=>?_
 obtain⟨a,e,⟨xs,hq⟩,q⟩:=q1
 subst e
 cases r1
 obtain⟨its,rv,p,hz⟩:=I1.tuple hq
 refine wpAny_pyIter_tuple (show s1.heap.IsTuple a its.toArray from p) ?_
 refine⟨s1.heap.objs.size,[s1.heap.objs.size],_,_,H1,rfl,I1.kept (t':=s1.toks) λb o e=>hP0 _ e,zMO a _,⟨_,Heap.get?_push_size _ rfl,rfl,rfl⟩,λb hb=>?_,q⟩
 have e:b=s1.heap.objs.size:=by simpa using hb
 subst e
 exact I1.fpOk (le_refl _) (I1.hok.fresh (le_refl _))
theorem yDP{pins:List (Addr×Obj)}{σ:St}{H:Hp}{s:Shared}{R:It->Hp->Prop}{E:VP}{lo hi:Int}{t u v:Tok}{tk:Nat}(I:Inv X pins σ H s)(h1: -(2 ^ 62)<=lo)(h2:lo<2 ^ 62)(h3: -(2 ^ 62)<=hi)(h4:hi<2 ^ 62)
  (q:R (Itr lo (hi - lo).toNat) H):wpAny (model X.prog X.w) X.A (pyIter (.ref s.heap.objs.size)) (PIE X pins σ tg R) E {s with heap:=s.heap.push {cls:=.type "range",data:=.fields #[.int lo t,.int hi u,.int 1 v]},toks:=tk}:=by
 refine wpAny_pyIter_range (IsRange.new ..) (small_one h1 h2 h3 h4) ?_
 have I1:Inv X pins σ H {s with heap:=s.heap.push {cls:=.type "range",data:=.fields #[.int lo t,.int hi u,.int 1 v]},toks:=tk}:=I.kept λb o e=>hP0 _ e
 refine⟨(s.heap.push {cls:=.type "range",data:=.fields #[.int lo t,.int hi u,.int 1 v]}).objs.size,[(s.heap.push {cls:=.type "range",data:=.fields #[.int lo t,.int hi u,.int 1 v]}).objs.size],_,_,H,rfl,
  I1.kept (t':=tk) λb o e=>hP0 _ e,zWX _ lo (hi - lo).toNat,?_,λb hb=>?_,q⟩
 ·have e1:lo+((0:Nat):Int) * 1=lo:=by simp
  have e2:(((hi - lo).toNat:Nat):Int) - ((0:Nat):Int)=Builtin.Range.rangeSize lo hi 1:=by rw [rangeSize_one];split<;>omega
  show IsRangeIter _ _ (lo+((0:Nat):Int) * 1) ((((hi - lo).toNat:Nat):Int) - ((0:Nat):Int)) 1
  rw [e1,e2]
  exact Heap.get?_push_size _ rfl
 ·have e:b=(s.heap.push {cls:=.type "range",data:=.fields #[.int lo t,.int hi u,.int 1 v]}).objs.size:=by simpa using hb
  subst e
  exact I1.fpOk (le_refl _) (I1.hok.fresh (le_refl _))
def iRng1(ta:TA):TI:=λσ H R=>ta σ H λvs H1=> ∃j:Int,vs=[.int j]/\ -(2 ^ 62)<=j/\j<2 ^ 62/\R (Itr 0 j.toNat) H1
theorem yBP{a:Expr}{ta:TA}{p pos:Pos}(hg:Gl X "range")(hm:X.mg "range"=none)(ha:PA X [a] ta)(hs:starEach [a] X.env=[(false,eval a X.env)]:=by rfl):PI X tg (.Call (.Name "range" p) [a] [] pos) (iRng1 ta):=by
 intro pins s σ H R I h
 refine Call_ (zRK I hg hm boot_range (PyProof.Rows.callWith_type1 (thn (ha pos pins s σ H _ I h) λus s1 ⟨vs,H1,I1,r1,q1⟩=>?_) hs rfl))
 obtain⟨j,e,q1,q2,q⟩:=q1
 subst e
 cases r1 with
 |cons r rr=>
  cases rr
  obtain⟨t,rfl⟩:=r
  exact call_range_1 (yDP I1 (by omega) (by omega) q1 q2 (by simpa using q))
def tFor(wi:TI)(g:TG)(tb:TS):TS:=λD σ H=>wi σ H λJ H1=> ∃W:Nat->Nat->St->Hp->Prop,(∃m,W 0 m σ H1)/\ ∀i m σ H,W i m σ H->
 (J.stop i H/\D.nx σ H)\/(J.go i H/\ ∃N:St->Hp->Prop,(∀σ' H',N σ' H'-> ∃m',m'<m/\W (i+1) m' σ' H')/\ ∀x H',J.yld i H x H'->g x σ H' λσ2 H2=>tb {D with nx:=N,ct:=N,bk:=D.nx} σ2 H2)
def zJO(fp:List Addr)(h:Heap):List (Addr×Obj):=fp.filterMap λb=>(h.get? b).map λo=>(b,o)
theorem zHT{fp:List Addr}{h:Heap}{b:Addr}{o:Obj}(hb:b∈fp)(e:h.get? b=some o):(b,o)∈zJO fp h:=mem_filterMap.mpr ⟨b,hb,by rw [e];rfl⟩
theorem yBQ{fp:List Addr}{h:Heap}{p:Addr×Obj}(hp:p∈zJO fp h):p.1∈fp/\h.get? p.1=some p.2:=by
 obtain⟨b,hb,e⟩:=mem_filterMap.mp hp
 cases q:h.get? b with
 |none=>rw [q]at e;cases e
 |some o=>
  rw [q]at e
  have e':(b,o)=p:=Option.some.inj e
  subst e'
  exact⟨hb,q⟩
theorem Inv.pinned{pins:List (Addr×Obj)}{σ:St}{H:Hp}{s:Shared}{fp:List Addr}(I:Inv X pins σ H s)(hf: ∀b∈fp,zHS X pins H b)(ho: ∀b∈fp, ∃o,s.heap.get? b=some o/\ ∀v,o.data≠.cell v):Inv X (pins++zJO fp s.heap) σ H s:=
 I.pins_of λp hp=>(mem_append.mp hp).elim (λz=>I.pin p (mem_append_right _ z)) λz=>by
  obtain⟨hb,e⟩:=yBQ z
  obtain⟨f0,f1,f2,_⟩:=hf p.1 hb
  obtain⟨o,e',d⟩:=ho p.1 hb
  rw [e]at e';cases e'
  exact⟨e,f0,f1,f2,d⟩
theorem Inv.unpinned{pins pl:List (Addr×Obj)}{σ:St}{H:Hp}{s:Shared}(I:Inv X (pins++pl) σ H s):Inv X pins σ H s:=I.pins_of λp hp=>I.pin p (mem_append_right _ (mem_append_left _ hp))
theorem yNX{iter:Expr}{body:List Stmt}{wi:TI}{g:TG}{tb:TS}{pos:Pos}(hp:PassesOwn (model X.prog X.w) X.A X.env X.xe)(hc:X.calm=true)(hi:PI X tg iter wi)(hg:PG X tg g)(hb:PSs X body tb)
  (hs: ∀x,foldedSetIterable iter X.env x=pure x:=by intro _;rfl):PS X (.For tg iter body [] pos) (tFor wi g tb):=by
 intro pins s σ H D I h
 refine wpAny_For (thn (hi pins s σ H _ I h) λv s1 h1=>thn h1 λitv s2 h2=>?_) hs
 obtain⟨it,fp,tn,J,H2,e,I2,T,st2,f2,W,⟨m0,w0⟩,turn⟩:=h2
 subst e
 have stat: ∀{H':Hp},(∀b∈fp,H' b=none)-> ∀b∈fp,zHS X pins H' b:=λhn b hb=>⟨hn b hb,(f2 b hb).2⟩
 refine codeAny_forLoop_any (λn s'=> ∃i σ' H',Inv X pins σ' H' s'/\tn i s'.heap/\(∀b∈fp,H' b=none)/\W i n σ' H') ?_ m0 ⟨0,σ,H2,I2,st2,λb hb=>(f2 b hb).1,w0⟩
 rintro n s3 ⟨i,σ3,H3,I3,st3,fr3,w3⟩
 rcases turn i n σ3 H3 w3 with⟨stop,qn⟩|⟨go,N,hN,step⟩
 ·refine wpAny_passesOwn hp (thn (T.done X rfl rfl rfl hc i pins s3 σ3 H3 X.xe I3 (stat fr3) st3 stop) λr s4 ⟨hr,I4⟩=>?_)
  subst hr
  exact wpAny_execs_nil ⟨σ3,H3,I4,qn⟩
 ·refine wpAny_passesOwn hp (thn (T.item X rfl rfl rfl hc i pins s3 σ3 H3 X.xe I3 (stat fr3) st3 go) λr s4 ⟨u,hr,h4⟩=>?_)
  subst hr
  refine wpAny_passesOwn hp (thn h4 λ_ s5 ⟨x,H5,I5,r5,y5,st5,fr5⟩=>?_)
  have I5':=I5.pinned (stat fr5) (T.obj _ _ st5)
  refine wpAny_passesOwn hp (thn (hg _ s5 σ3 H5 x u _ I5' r5 (step x H5 y5)) λ_ s6 ⟨σ6,H6,I6,q6⟩=>?_)
  refine wpAny_passesOwn hp (thn (hb _ s6 σ6 H6 _ I6 q6) λf s7 q7=>?_)
  have again: ∀{σ7:St}{H7:Hp},Inv X (pins++zJO fp s5.heap) σ7 H7 s7->N σ7 H7-> ∃m,m<n/\ ∃i σ' H',Inv X pins σ' H' s7/\tn i s7.heap/\(∀b∈fp,H' b=none)/\W i m σ' H':=λ{σ7 H7} I7 n7=>by
   obtain⟨m',hm,w7⟩:=hN σ7 H7 n7
   refine⟨m',hm,i+1,σ7,H7,I7.unpinned,T.keep _ _ _ st5 λb hb o e=>(I7.pin (b,o) (mem_append_right _ (mem_append_right _ (zHT hb e)))).1,λb hb=>?_,w7⟩
   obtain⟨o,e,d⟩:=T.obj _ _ st5 b hb
   exact(I7.pin (b,o) (mem_append_right _ (mem_append_right _ (zHT hb e)))).2.1
  cases f with
  |next=>obtain⟨σ7,H7,I7,n7⟩:=q7;exact again I7 n7
  |cont=>obtain⟨σ7,H7,I7,n7⟩:=q7;exact again I7 n7
  |brk=>obtain⟨σ7,H7,I7,q7⟩:=q7;exact⟨σ7,H7,I7.unpinned,q7⟩
  |ret v=>obtain⟨x7,σ7,H7,I7,r7,q7⟩:=q7;exact⟨x7,σ7,H7,I7.unpinned,r7,q7⟩
end
abbrev R2:=V->V->Hp->VK->Prop
def OpR(X:Cx)(f:Value->Value->Sem Value)(r:R2):Prop:=
 ∀(pins:List (Addr×Obj))(s:Shared)(σ:St)(H:Hp)(x y:V)(v u:Value)(Q:VK),Inv X pins σ H s->RelV x v->RelV y u->r x y H Q->
  wpAny (model X.prog X.w) X.A (f v u) (EP X pins σ Q) X.xe s
def UnR(X:Cx)(f:Value->Sem Value)(r:V->Hp->VK->Prop):Prop:=
 ∀(pins:List (Addr×Obj))(s:Shared)(σ:St)(H:Hp)(x:V)(v:Value)(Q:VK),Inv X pins σ H s->RelV x v->r x H Q->
  wpAny (model X.prog X.w) X.A (f v) (EP X pins σ Q) X.xe s
def CallR(X:Cx)(f:Value)(r:List V->Hp->VK->Prop):Prop:=
 ∀(pins:List (Addr×Obj))(s:Shared)(σ:St)(H:Hp)(xs:List V)(us:List Value)(Q:VK),Inv X pins σ H s->Vals xs us->r xs H Q->
  wpAny (model X.prog X.w) X.A (call f us) (EP X pins σ Q) X.xe s
def TruR(X:Cx)(r:V->Hp->(Bool->Hp->Prop)->Prop):Prop:=
 ∀(pins:List (Addr×Obj))(s:Shared)(σ:St)(H:Hp)(x:V)(v:Value)(Q:Bool->Hp->Prop),Inv X pins σ H s->RelV x v->r x H Q->
  wpAny (model X.prog X.w) X.A (truthy v) (TP X pins σ Q) X.xe s
def tOp(r:R2)(ta tb:TE):TE:=λσ H Q=>ta σ H λx H1=>tb σ H1 λy H2=>r x y H2 Q
def tUn(r:V->Hp->VK->Prop)(ta:TE):TE:=λσ H Q=>ta σ H λx H1=>r x H1 Q
def rI(C:Int->Int->Prop)(g:Int->Int->V):R2:=λx y H Q=> ∃i j,x=.int i/\y=.int j/\C i j/\Q (g i j) H
def rI0(g:Int->Int->V):R2:=λx y H Q=> ∃i j,x=.int i/\y=.int j/\Q (g i j) H
def rU(g:Int->V):V->Hp->VK->Prop:=λx H Q=> ∃i,x=.int i/\Q (g i) H
section
variable{X:Cx}{a b c:Expr}{ta tb tc:TE}{pos:Pos}
theorem binT(ha:PE X a ta)(hb:PE X b tb){pins:List (Addr×Obj)}{s:Shared}{σ:St}{H:Hp}{R:V->V->Hp->Prop}(I:Inv X pins σ H s)
  (h:ta σ H λx H1=>tb σ H1 λy H2=>R x y H2) {Q:VP} {f:Value->Value->Sem Value}
  (hf: ∀v u s2 x y H2,Inv X pins σ H2 s2->RelV x v->RelV y u->R x y H2->wpAny (model X.prog X.w) X.A (f v u) Q X.xe s2):
  wpAny (model X.prog X.w) X.A (eval a X.env) (λv s₁=>wpAny (model X.prog X.w) X.A (eval b X.env) (λu s₂=>wpAny (model X.prog X.w) X.A (f v u) Q X.xe s₂) X.xe s₁) X.xe s:=by
 refine thn (ha pins s σ H _ I h) λv s1 ⟨x,H1,I1,r1,q1⟩=>?_
 refine thn (hb pins s1 σ H1 _ I1 q1) λu s2 ⟨y,H2,I2,r2,q2⟩=>?_
 exact hf v u s2 x y H2 I2 r1 r2 q2
theorem pe_op{op:Operator}{r:R2}(ho:OpR X (binaryOp op) r)(ha:PE X a ta)(hb:PE X b tb):PE X (.BinOp a op b pos) (tOp r ta tb):=by
 intro pins s σ H Q I h
 exact wpAny_BinOp (binT ha hb I h λv u s2 x y H2 I2 rx ry q=>ho pins s2 σ H2 x y v u Q I2 rx ry q)
theorem pe_un{op:UnaryOp}{r:V->Hp->VK->Prop}(ho:UnR X (unaryOp op) r)(ha:PE X a ta):PE X (.UnaryOp op a pos) (tUn r ta):=by
 intro pins s σ H Q I h
 exact UnaryOp_ (thn (ha pins s σ H _ I h) λv s1 ⟨x,H1,I1,r1,q1⟩=>ho pins s1 σ H1 x v Q I1 r1 q1)
theorem opI{f:Value->Value->Sem Value}{C:Int->Int->Prop}{g:Int->Int->Int}
  (rule: ∀(i j:Int)(t u:Tok)(s:Shared)(Q:VP)(E:VP),C i j->Q (.int (g i j) s.toks) {s with toks:=s.toks+1}->wpAny (model X.prog X.w) X.A (f (.int i t) (.int j u)) Q E s):
  OpR X f (rI C λi j=>.int (g i j)):=by
 intro pins s σ H x y v u Q I rx ry h
 obtain⟨i,j,rfl,rfl,hc,q⟩:=h
 obtain⟨t,rfl⟩:=rx
 obtain⟨t',rfl⟩:=ry
 exact rule i j t t' s _ _ hc ⟨.int (g i j),H,I.tok _,⟨_,rfl⟩,q⟩
theorem opI0{f:Value->Value->Sem Value}{g:Int->Int->Int}
  (rule: ∀(i j:Int)(t u:Tok)(s:Shared)(Q:VP)(E:VP),Q (.int (g i j) s.toks) {s with toks:=s.toks+1}->wpAny (model X.prog X.w) X.A (f (.int i t) (.int j u)) Q E s):
  OpR X f (rI0 λi j=>.int (g i j)):=by
 intro pins s σ H x y v u Q I rx ry h
 obtain⟨i,j,rfl,rfl,q⟩:=h
 obtain⟨t,rfl⟩:=rx
 obtain⟨t',rfl⟩:=ry
 exact rule i j t t' s _ _ ⟨.int (g i j),H,I.tok _,⟨_,rfl⟩,q⟩
def CMul(i j:Int):Prop:=(-(2 ^ 64)<i/\i<2 ^ 64)\/(-(2 ^ 64)<j/\j<2 ^ 64)
theorem CMul.ok{i j:Int}(h:CMul i j):IntMulOk i j:=by
 rcases h with⟨h1,h2⟩|⟨h1,h2⟩
 ·exact .of_left (intBits_le_64 h1 h2)
 ·exact .of_right (intBits_le_64 h1 h2)
theorem yNY:OpR X (binaryOp .Add) (rI0 λi j=>.int (i+j)):=opI0 λ_ _ _ _ _ _ _ q=>add_int q
theorem yNZ:OpR X (binaryOp .Sub) (rI0 λi j=>.int (i - j)):=opI0 λ_ _ _ _ _ _ _ q=>sub_int q
theorem yOA:OpR X (binaryOp .Mod) (rI (λ_ j=>0<j) λi j=>.int (i % j)):=opI λi j _ _ _ _ _ hc q=>by
 have h1:(0:Int)<j:=hc
 exact mod_int' (by omega) (by rw [Int.fmod_eq_emod_of_nonneg i (by omega)];exact q)
theorem unI{f:Value->Sem Value}{g:Int->Int}
  (rule: ∀(i:Int)(t:Tok)(s:Shared)(Q:VP)(E:VP),Q (.int (g i) s.toks) {s with toks:=s.toks+1}->wpAny (model X.prog X.w) X.A (f (.int i t)) Q E s):
  UnR X f (rU λi=>.int (g i)):=by
 intro pins s σ H x v Q I rx h
 obtain⟨i,rfl,q⟩:=h
 obtain⟨t,rfl⟩:=rx
 exact rule i t s _ _ ⟨.int (g i),H,I.tok _,⟨_,rfl⟩,q⟩
theorem yOB:UnR X (unaryOp .USub) (rU λi=>.int (-i)):=unI λ_ _ _ _ _ q=>neg_int q
end
section
variable{X:Cx}{a b c:Expr}{ta tb tc:TE}{pos:Pos}
theorem zWY{pins:List (Addr×Obj)}{σ:St}{H:Hp}{s:Shared}{Q:VK}{k k':Bool}(I:Inv X pins σ H s)(q:Q (.bl k) H)(e:k=k'):EP X pins σ Q (.bool k') s:=by
 subst e
 exact⟨.bl k,H,I,rfl,q⟩
theorem yBR:OpR X (compareOp .In) (λx y H Q=> ∃i j,x=.str i/\y=.str j/\Q (.bl (!(Builtin.Str.occurrences j i 0 j.length 1).isEmpty)) H):=by
 intro pins s σ H x y v u Q I rx ry h
 obtain⟨i,j,rfl,rfl,q⟩:=h
 obtain⟨t,rfl⟩:=rx
 obtain⟨t',rfl⟩:=ry
 exact in_str (zWY I q rfl)
theorem yOC:OpR X (compareOp .Is) (λx y H Q=>y=.non/\Q (.bl (decide (x=.non))) H):=by
 intro pins s σ H x y v u Q I rx ry h
 obtain⟨rfl,q⟩:=h
 cases ry
 refine is_none_gen (zWY I q ?_)
 cases x<;>first
  |(cases rx;rfl)
  |(obtain⟨t,rfl⟩:=rx;rfl)
theorem zRL:OpR X (compareOp .NotIn) (λx y H Q=> ∃i j,x=.str i/\y=.str j/\Q (.bl (!(!(Builtin.Str.occurrences j i 0 j.length 1).isEmpty))) H):=by
 intro pins s σ H x y v u Q I rx ry h
 obtain⟨i,j,rfl,rfl,q⟩:=h
 obtain⟨t,rfl⟩:=rx
 obtain⟨t',rfl⟩:=ry
 exact notIn_str (zWY I q rfl)
theorem OpR.or{f:Value->Value->Sem Value}{r r':R2}(h:OpR X f r)(h':OpR X f r'):OpR X f (λx y H Q=>r x y H Q\/r' x y H Q):=by
 intro pins s σ H x y v u Q I rx ry q
 rcases q with q|q
 ·exact h pins s σ H x y v u Q I rx ry q
 ·exact h' pins s σ H x y v u Q I rx ry q
theorem yDQ(b:Expr){op:CmpOp}(h:op≠.In:=by decide)(h2:op≠.NotIn:=by decide):behindInMarks op b=false:=by
 have e1:(op==CmpOp.In)=false:=by cases op<;>first |rfl|exact absurd rfl h
 have e2:(op==CmpOp.NotIn)=false:=by cases op<;>first |rfl|exact absurd rfl h2
 cases b<;>simp [behindInMarks,e1,e2]
theorem yIS{op:CmpOp}{r:R2}(ho:OpR X (compareOp op) r)(ha:PE X a ta)(hb:PE X b tb)(hm:behindInMarks op b=false):PE X (.Compare a [op] [b] pos) (tOp r ta tb):=by
 intro pins s σ H Q I h
 exact wpAny_Compare1 (binT ha hb I h λv u s2 x y H2 I2 rx ry q=>ho pins s2 σ H2 x y v u Q I2 rx ry q) hm
def tTest(t:TE):TT:=λσ H Q=>t σ H λx H'=> ∃k,x=.bl k/\Q k H'
theorem yIT{op:CmpOp}{r:R2}(ho:OpR X (compareOp op) r)(ha:PE X a ta)(hb:PE X b tb)(hm:behindInMarks op b=false):PT X (.Compare a [op] [b] pos) (tTest (tOp r ta tb)):=by
 intro pins s σ H Q I h
 refine wpAny_isTrue_Compare1 (thn (ha pins s σ H _ I h) λv s1 ⟨x,H1,I1,r1,q1⟩=>thn (hb pins s1 σ H1 _ I1 q1) λu s2 ⟨y,H2,I2,r2,q2⟩=>
  thn (ho pins s2 σ H2 x y v u _ I2 r1 r2 q2) λc s3 ⟨z,H3,I3,r3,k,e,q3⟩=>?_) hm
 subst e
 cases r3
 exact wpAny_truthy_bool ⟨H3,I3,q3⟩
def TruV(K:PySem.W.Frag)(x:V)(H:Hp)(k:Bool):Prop:=
 match x with
 |.non=>k=false
 |.bl b=>k=b
 |.int i=>k=(i !=0)
 |.str y=>y.length<=sizeLine/\k=((y.length:Int) !=0)
 |.byt y=>y.size<=sizeLine/\k=((y.size:Int) !=0)
 |.ref p=>(∃xs,SqL K H p xs/\k= !xs.isEmpty)\/(∃xs,SqT K H p xs/\k= !xs.isEmpty)\/ ∃kvs,H p=some (.dK kvs)/\k= !kvs.isEmpty
 |_=>False
theorem zWZ{κ:Type}{kvs:List (κ×V)}{vs:List (κ×Value)}(r:KV kvs vs):(!vs.isEmpty)= !kvs.isEmpty:=by
 cases r<;>rfl
theorem zMP{xs:List V}{its:List Value}(r:Vals xs its):(!its.toArray.isEmpty)= !xs.isEmpty:=by
 cases r<;>simp
theorem zHU:(sizeLine:Nat)<2 ^ 63:=by rw [sizeLine_eq];decide
theorem yOD:TruR X (λx H Q=> ∃k,TruV X.K x H k/\Q k H):=by
 intro pins s σ H x v Q I rx h
 obtain⟨k,e,q⟩:=h
 have hl:=zHU
 have hs:sizeLine=16777216:=sizeLine_eq
 cases x with
 |non=>
  cases rx
  have e':k=false:=e
  subst e'
  exact truthy_none ⟨H,I,q⟩
 |bl b=>
  cases rx
  have e':k=b:=e
  subst e'
  exact wpAny_truthy_bool ⟨H,I,q⟩
 |int i=>
  obtain⟨t,rfl⟩:=rx
  have e':k=(i !=0):=e
  subst e'
  exact PySem.P.truthy_int ⟨H,I,q⟩
 |str y=>
  obtain⟨t,rfl⟩:=rx
  obtain⟨hy,e'⟩:y.length<=sizeLine/\k=((y.length:Int) !=0):=e
  subst e'
  exact PySem.P.truthy_str (by omega) ⟨H,I.tok _,q⟩
 |byt y=>
  obtain⟨t,rfl⟩:=rx
  obtain⟨hy,e'⟩:y.size<=sizeLine/\k=((y.size:Int) !=0):=e
  subst e'
  exact PySem.W.truthy_bytes (by omega) ⟨H,I.tok _,q⟩
 |ref p=>
  cases rx
  have e':(∃xs,SqL X.K H p xs/\k= !xs.isEmpty)\/(∃xs,SqT X.K H p xs/\k= !xs.isEmpty)\/ ∃kvs,H p=some (.dK kvs)/\k= !kvs.isEmpty:=e
  rcases e' with⟨xs,hx,e'⟩|⟨xs,hx,e'⟩|⟨kvs,hx,e'⟩
  ·subst e'
   obtain⟨its,r,pl,hz⟩:=I.list hx
   have hlen:=r.length
   exact wpAny_truthy_list pl.isList (by simp only [sA0];omega) ⟨H,I.tok _,by rw [zMP r];exact q⟩
  ·subst e'
   obtain⟨its,r,pl,hz⟩:=I.tuple hx
   have hlen:=r.length
   exact truthy_tuple pl (by simp only [sA0];omega) ⟨H,I.tok _,by rw [zMP r];exact q⟩
  ·subst e'
   obtain⟨hz,hS,vs,r,m⟩:kvs.length<=sizeLine/\(p==sysModules)=false/\ ∃vs,KV kvs vs/\s.heap.DictOf (xA X.prog X.w) p vs:=I.hok p _ hx
   have hlen:kvs.length=vs.length:=Paired.length r
   exact wpAny_truthy_dict hS m (by omega) ⟨H,I.tok _,by rw [zWZ r];exact q⟩
 |_=>exact(show False from e).elim
theorem yDR(ha:PE X a ta)(he: ∀whole,isTrue a X.env whole=(do let v <-whole;standAt a.pos;holding [v] (truthy v))):
  PT X a (λσ H Q=>ta σ H λx H'=> ∃k,TruV X.K x H' k/\Q k H'):=by
 intro pins s σ H Q I h
 exact isTrue_plain (thn (ha pins s σ H _ I h) λv s1 ⟨x,H1,I1,r1,q1⟩=>yOD pins s1 σ H1 x v Q I1 r1 q1) (he _)
theorem zXA:OpR X (binaryOp .Add) (λx y H Q=> ∃i j,x=.str i/\y=.str j/\i.length+j.length<=sizeLine/\Q (.str (i++j)) H):=by
 intro pins s σ H x y v u Q I rx ry h
 obtain⟨i,j,rfl,rfl,hz,q⟩:=h
 obtain⟨t,rfl⟩:=rx
 obtain⟨t',rfl⟩:=ry
 exact add_str (λt' tk=>⟨.str (i++j),H,I.tok _,⟨_,rfl⟩,q⟩) hz
theorem vals1{x:V}{us:List Value}(r:Vals [x] us): ∃u,us=[u]/\RelV x u:=by
 cases r with
 |cons r1 r2=>cases r2;exact⟨_,rfl,r1⟩
theorem vals2{x y:V}{us:List Value}(r:Vals [x,y] us): ∃u w',us=[u,w']/\RelV x u/\RelV y w':=by
 cases r with
 |cons r1 r2=>
  cases r2 with
  |cons r3 r4=>cases r4;exact⟨_,_,rfl,r1,r3⟩
theorem zPT(hc:X.calm=true):CallR X (.builtin "min") (λxs H Q=> ∃i j,xs=[.int i,.int j]/\Q (.int (if j<i then j else i)) H):=by
 intro pins s σ H xs us Q I r h
 obtain⟨i,j,rfl,q⟩:=h
 obtain⟨u,w',rfl,⟨t,rfl⟩,⟨t',rfl⟩⟩:=vals2 r
 refine min_two_ints (I.ok.hd hc) λh' tk k=>⟨_,H,I.kept k,?_,q⟩
 by_cases hj:j<i
 ·rw [iP hj,iP hj];exact⟨_,rfl⟩
 ·rw [iN hj,iN hj];exact⟨_,rfl⟩
theorem yBS:CallR X (.type "int") (λxs H Q=>(∃i,xs=[.int i]/\Q (.int i) H)\/ ∃k,xs=[.bl k]/\Q (.int (if k then 1 else 0)) H):=by
 intro pins s σ H xs us Q I r h
 rcases h with⟨i,rfl,q⟩|⟨k,rfl,q⟩
 ·obtain⟨u,rfl,t,rfl⟩:=vals1 r
  exact call_int_int ⟨.int i,H,I,⟨_,rfl⟩,q⟩
 ·obtain⟨u,rfl,r1⟩:=vals1 r
  cases r1
  exact call_int_bool ⟨.int (if k then 1 else 0),H,I.tok _,⟨_,rfl⟩,q⟩
end
structure Cls(K:PySem.W.Frag)(C:Addr):Prop where
 pg:PySem.W.plainGet K C Str.empty=true
 hd:PySem.W.hasDictIn K C=true
 po:PySem.W.plainOver K C=true
 sa:PySem.W.findIn K (.ref C) "__setattr__"=some (some (.builtin "object.__setattr__"))
section
variable{X:Cx}{pins:List (Addr×Obj)}{σ:St}{H:Hp}{s:Shared}{A:Around}{E:VP}{Q:VP}{c:Value}{b:Bool}
inductive zIV(K:PySem.W.Frag)(H:Hp):V->Value->Prop where
 |non:zIV K H .non (.type "NoneType")
 |bl (x:Bool):zIV K H (.bl x) (.type "bool")
 |int (i:Int):zIV K H (.int i) (.type "int")
 |str (x:Str):zIV K H (.str x) (.type "str")
 |flt (x:UInt64):zIV K H (.flt x) (.type "float")
 |lst {a:Addr} {xs:List V} (e:H a=some (.lst xs)):zIV K H (.ref a) (.type "list")
 |frz {a:Addr} {o:Obj} {xs:List V} (e:H a=some (.frz o (.lst xs))):zIV K H (.ref a) (.type "list")
 |tup {a:Addr} {xs:List V} (e:H a=some (.tup xs)):zIV K H (.ref a) (.type "tuple")
 |dK {a:Addr} {kvs:List (Key×V)} (e:H a=some (.dK kvs)):zIV K H (.ref a) (.type "dict")
 |dT {a:Addr} {kvs:List (List Key×V)} (e:H a=some (.dT kvs)):zIV K H (.ref a) (.type "dict")
 |ins {a C dx:Addr} {fs:List (Str×V)} (e:H a=some (.ins C dx fs)) (cl:Cls K C) (ha:PySem.W.findIn K (.ref C) "__class__"=some (some (.builtin "object.__class__")))
   (hn:PySem.W.specialIn K (.builtin "object.__class__") "__get__"=some (some (.builtin "getset_descriptor.__get__"))) (htk:PySem.W.takesIn K (.builtin "object.__class__")=some true)
   (hm:PySem.W.mroIn K C (.type "object")=some true):zIV K H (.ref a) (.ref C)
end
structure Room(k:Nat)(A:Around):Prop where
 hd:A.handled=none
 dp:A.depth+3 * k+5<recursionLimit
 un:A.units+16 * k+200<cLine
theorem Room.mono{j k:Nat}{A:Around}(r:Room k A)(h:j<=k):Room j A:=⟨r.hd,by have:=r.dp;omega,by have:=r.un;omega⟩
theorem Room.deeper{k:Nat}{A:Around}(r:Room (k+1) A)(env:Env):Room k (A.deeper env):=
 ⟨r.hd,by have:=r.dp;show A.depth+1+3 * k+5<_;omega,by have:=r.un;show A.units+3+16 * k+200<_;omega⟩
theorem Room.depth{k:Nat}{A:Around}(r:Room k A):A.depth<recursionLimit:=by have:=r.dp;omega
theorem Room.units{k:Nat}{A:Around}(r:Room k A):A.units+64<cLine:=by have:=r.un;omega
def tNil:TA:=λ_ H Q=>Q [] H
def tCons(ta:TE)(tr:TA):TA:=λσ H Q=>ta σ H λx H1=>tr σ H1 λxs H2=>Q (x::xs) H2
section
variable{X:Cx}{e:Expr}{es:List Expr}{te:TE}{t:TA}{pos:Pos}
theorem yOE:PA X [] tNil:=λ_ _ _ _ H Q I h=>Calls.spliced_nil ⟨[],H,I,.nil,h⟩
theorem yIU(ha:PE X e te)(hr:PA X es t)(hs:starEach (e::es) X.env=(false,eval e X.env)::starEach es X.env:=by rfl):PA X (e::es) (tCons te t):=by
 intro pos pins s σ H Q I h
 rw [hs]
 show wpAny _ _ (spliced ((false,eval e X.env)::backTo pos (starEach es X.env))) _ _ s
 refine Calls.spliced_cons (thn (ha pins s σ H _ I h) λu s1 ⟨x,H1,I1,r1,q1⟩=>?_)
 exact thn (hr pos pins s1 σ H1 _ I1 q1) λus s2 ⟨xs,H2,I2,r2,q2⟩=>⟨x::xs,H2,I2,.cons r1 r2,q2⟩
def tTup(t:TA):TE:=λσ H Q=>t σ H λxs H1=>xs.length<=sizeLine/\ ∀p,H1 p=none->Q (.ref p) (upd H1 p (.tup xs))
def tLst(t:TA):TE:=λσ H Q=>t σ H λxs H1=>xs.length<=sizeLine/\ ∀p,H1 p=none->Q (.ref p) (upd H1 p (.lst xs))
theorem yOF{x1}(h:PA X es t):PE X (.Tuple es x1 pos) (tTup t):=by
 intro pins s σ H Q I hq
 refine wpAny_Tuple_spliced (thn (h pos pins s σ H _ I hq) λus s1 ⟨xs,H1,I1,r,z,q⟩=>⟨by rw [<-r.length];exact z,?_⟩)
 have hf:H1 s1.heap.objs.size=none:=I1.hok.fresh (le_refl _)
 refine⟨.ref s1.heap.objs.size,upd H1 s1.heap.objs.size (.tup xs),I1.laid (t':=s1.toks) (λb u e=>hP0 _ e) (le_refl _) ?_,rfl,q _ hf⟩
 exact⟨z,us,r,⟨_,Heap.get?_push_size _ rfl,rfl,_,rfl⟩⟩
theorem yOG(h:PA X es t):PE X (.List es pos) (tLst t):=by
 intro pins s σ H Q I hq
 refine wpAny_List_spliced (thn (h pos pins s σ H _ I hq) λus s1 ⟨xs,H1,I1,r,z,q⟩=>⟨by rw [<-r.length];exact z,?_⟩)
 have hf:H1 s1.heap.objs.size=none:=I1.hok.fresh (le_refl _)
 refine⟨.ref s1.heap.objs.size,upd H1 s1.heap.objs.size (.lst xs),I1.laid (t':=s1.toks) (λb u e=>hP0 _ e) (le_refl _) ?_,rfl,q _ hf⟩
 exact⟨z,us,0,r,Heap.get?_push_size _ rfl⟩
end
abbrev Sp:=List V->Hp->VK->XK->Prop
abbrev CXT:=List Env->Hp->Shared->XK->VP
structure Env0(P:Program)(w:World)(K:PySem.W.Frag)(mg:Str->Option Value)(base:Heap)(A:Around)(outer:List Env)(s:Shared)(H:Hp):Prop where
 frames:A.frames=some outer
 mod:Mod K mg base
 bs: ∀b o,base.get? b=some o->s.heap.get? b=some o/\H b=none
 bsz:base.objs.size<=s.heap.objs.size
 funs:s.heap.FunFrames base outer
 frf: ∀b∈frs outer,H b=none
 hok:HOk P w H s.heap
 bare:AllBare s.gens
def CE(outer:List Env)(P:Program)(w:World)(H:Hp)(s:Shared)(Q:VK)(u:Value)(s':Shared):Prop:=
 ∃v H',s'.os=s.os/\AllBare s'.gens/\Un (frs outer) [] H H' s.heap s'.heap/\HOk P w H' s'.heap/\RelV v u/\Q v H'
def CR(CX:CXT)(outer:List Env)(P:Program)(w:World)(H:Hp)(s:Shared)(Q:VK)(E:XK)(r:Result)(s':Shared):Prop:=
 match r with
 |.ok (.ret u)=>CE outer P w H s Q u s'
 |.ok _=>False
 |.error e=>CX outer H s E e s'
structure FnOk(P:Program)(w:World)(K:PySem.W.Frag)(mg:Str->Option Value)(base:Heap)(CX:CXT)(k:Nat)(f:Addr)(fd:FuncData)(ps:List Str)(sp:Sp):Prop where
 len: ∀vs H Q E,sp vs H Q E->vs.length=ps.length
 run: ∀(A:Around)(outer:List Env)(s:Shared)(H:Hp)(args:Args)(us:List Value)(vs:List V)(Q:VK)(E:XK),Room k A->Env0 P w K mg base A outer s H->BindsTo s fd args (ps.zip us)->Vals vs us->sp vs H Q E->
  codeAny (model P w) A (.call (.ref f) args) (CR CX outer P w H s Q E) s
theorem FnOk.imp{P:Program}{w:World}{K:PySem.W.Frag}{mg:Str->Option Value}{base:Heap}{CX:CXT}{k:Nat}{f:Addr}{fd:FuncData}{ps:List Str}{sp sp':Sp}(F:FnOk P w K mg base CX k f fd ps sp)
  (h: ∀vs H Q E,sp' vs H Q E->sp vs H Q E):FnOk P w K mg base CX k f fd ps sp':=
 ⟨λvs H Q E q=>F.len vs H Q E (h _ _ _ _ q),λA outer s H args us vs Q E hr he hb hv hs=>F.run A outer s H args us vs Q E hr he hb hv (h _ _ _ _ hs)⟩
section
variable{X:Cx}{pins:List (Addr×Obj)}{σ:St}{H:Hp}{s s':Shared}
theorem Inv.env0(I:Inv X pins σ H s):Env0 X.prog X.w X.K X.mg X.base X.A X.stack s H:=
 ⟨I.ok.frames,I.ok.mod,I.bs,le_trans I.ok.bsz I.sz,I.stack,I.stkFree,I.hok,I.bare⟩
theorem Inv.after{Q:VK}{u:Value}(I:Inv X pins σ H s)(h:CE X.stack X.prog X.w H s Q u s'):EP X pins σ Q u s':=by
 obtain⟨v,H',os,bare,un,hok,r,q⟩:=h
 obtain⟨hh,g,d,t,os'⟩:=s'
 obtain rfl:os'=s.os:=os
 exact⟨v,H',I.call (h':=hh) (g':=g) (d':=d) (t':=t) (ch:=[]) un hok bare (λb z=>absurd z (by simp)),r,q⟩
end
def tCall(sp:Sp)(dvs:List V)(E:XK)(t:TA):TE:=λσ H Q=>t σ H λvs H1=>sp (vs++dvs) H1 Q E
def Binds(K:PySem.W.Frag)(fd:FuncData)(ps:List Str)(ds:List Value):Prop:=
 ∀(s:Shared)(us:List Value),K.In s.heap->(us++ds).length=ps.length->BindsTo s fd ⟨us,[]⟩ (ps.zip (us++ds))
theorem Binds.all{K:PySem.W.Frag}{fd:FuncData}{ps:List Str}(h: ∀us:List Value,us.length=ps.length->bindArgs fd ⟨us,[]⟩=pure (ps.zip us)):Binds K fd ps []:=λs us _ hl=>by
 rw [aN]at hl ⊢
 exact .of_eq (h us hl)
def zXB(CX:CXT)(X:Cx)(E:XK):Prop:= ∀(pins:List (Addr×Obj))(σ:St)(H:Hp)(s:Shared)(e:Value)(s':Shared),Inv X pins σ H s->CX X.stack H s E e s'->X.xe e s'
section
variable{X:Cx}{CX:CXT}{k:Nat}{f C:Addr}{fd:FuncData}{ps:List Str}{sp:Sp}{dvs:List V}{ds:List Value}{E:XK}{x m:Str}{p pos apos:Pos}{e o:Expr}{es:List Expr}{ta:TE}{t:TA}
theorem yOH{pins:List (Addr×Obj)}{σ:St}{H:Hp}{s:Shared}{Q:VK}{us:List Value}{vs:List V}(F:FnOk X.prog X.w X.K X.mg X.base CX k f fd ps sp)(hr:Room k X.A)(hb:Binds X.K fd ps ds)(hd:Vals dvs ds)(hx:zXB CX X E)
  (I:Inv X pins σ H s) (r:Vals vs us) (h:sp (vs++dvs) H Q E):wpAny (model X.prog X.w) X.A (call (.ref f) us) (EP X pins σ Q) X.xe s:=by
 have r2:Vals (vs++dvs) (us++ds):=r.append hd
 have hl:(us++ds).length=ps.length:=by rw [<-r2.length];exact F.len _ _ _ _ h
 refine wpAny_call (codeAny_mono (F.run X.A X.stack s H ⟨us,[]⟩ (us++ds) (vs++dvs) Q E hr I.env0 (hb s us I.kIn hl) r2 h) λr s' hq=>?_)
 cases r with
 |error e=>exact hx pins σ H s e s' I hq
 |ok fl=>
  cases fl with
  |ret u=>exact I.after hq
  |next=>exact False.elim hq
  |brk=>exact False.elim hq
  |cont=>exact False.elim hq
theorem yIV(F:FnOk X.prog X.w X.K X.mg X.base CX k f fd ps sp)(hr:Room k X.A)(hg:Gl X x)(hm:X.mg x=some (.ref f))(hk:PySem.W.keepIn X.K (.ref f)=true)(hb:Binds X.K fd ps ds)(hd:Vals dvs ds)(hx:zXB CX X E)
  (ha:PA X (e::es) t) (hdb:(x==("__debug__":Str))=false:=by decide) (he:starEach (e::es) X.env=(false,eval e X.env)::starEach es X.env:=by rfl) (hpl:(backTo pos (starEach es X.env)).any (·.1)=false:=by rfl):
  PE X (.Call (.Name x p) (e::es) [] pos) (tCall sp dvs E t):=by
 intro pins s σ H Q I h
 refine wpAny_Call_Name_kw (yIM I hg hm ?_ hdb)
 refine PySem.W.callWith_K (h₀:=X.base) I.ok.mod.kin hk (thn (ha pos pins s σ H _ I h) λus s1 ⟨vs,H1,I1,r,q⟩=>⟨I1.kIn,?_⟩) he hpl
 exact yOH F hr hb hd hx I1 r q
end
structure FnScope(N P:List Str)(sc:Scope):Prop where
 kind:sc.kind=.function
 co:sc.isCoroutine=false
 gen:sc.isGenerator=false
 nd:N.Nodup
 pre:N.take P.length=P
 par: ∀x∈P,sc.names.lookup x=some .local\/sc.names.lookup x=some .cell
 nofree: ∀y∈sc.names,y.2≠.free
theorem fsK{N P:List Str}{sc:Scope}(h:N.Nodup/\N.take P.length=P/\(∀x∈P,sc.names.lookup x=some .local\/sc.names.lookup x=some .cell)/\∀y∈sc.names,y.2≠.free)(a:sc.kind=.function:=by rfl)(b:sc.isCoroutine=false:=by rfl)(c:sc.isGenerator=false:=by rfl):FnScope N P sc:=⟨a,b,c,h.1,h.2.1,h.2.2.1,h.2.2.2⟩
theorem zPU{kindOf:Str->Option NameKind}{x:Str}: ∀{binds:List (Str×Value)}{m:Str->Option Value},(∀v,(x,v)∉binds)->bindL kindOf binds m x=m x
 |[],_,_=>rfl
 |(n,v)::r,m,h=>by
  unfold bindL
  rw [zPU λw hw=>h w (mO _ hw)]
  split
  ·have:x≠n:=by rintro rfl;exact h v mF0
   simp [this]
  ·rfl
theorem zPV{kindOf:Str->Option NameKind}{x:Str}: ∀{binds:List (Str×Value)}{m:Str->Option Value},(∀v,(x,v)∉binds)->bindC kindOf binds m x=m x
 |[],_,_=>rfl
 |(n,v)::r,m,h=>by
  unfold bindC
  rw [zPV λw hw=>h w (mO _ hw)]
  split
  ·rfl
  ·have:x≠n:=by rintro rfl;exact h v mF0
   simp [this]
theorem zPW{kindOf:Str->Option NameKind}{x:Str}{v:Value}: ∀{P:List Str}{vs:List Value}{i:Nat}{m:Str->Option Value},P.Nodup->P[i]? =some x->vs[i]? =some v->kindOf x=some .local->
  bindL kindOf (P.zip vs) m x=some v
 |[],_,_,_,_,h,_,_=>by simp at h
 |_::_,[],_,_,_,_,h,_=>by simp at h
 |p::P,w::vs,0,m,nd,h1,h2,hk=>by
  simp at h1 h2;subst h1;subst h2
  show bindL kindOf ((p,w)::P.zip vs) m p=_
  unfold bindL
  rw [zPU λv hv=>(nodup_cons.mp nd).1 (of_mem_zip hv).1,iP hk]
  simp
 |p::P,w::vs,i+1,m,nd,h1,h2,hk=>by
  show bindL kindOf ((p,w)::P.zip vs) m x=_
  unfold bindL
  exact zPW (i:=i) (nodup_cons.mp nd).2 (by simpa using h1) (by simpa using h2) hk
theorem zPX{kindOf:Str->Option NameKind}{x:Str}{v:Value}: ∀{P:List Str}{vs:List Value}{i:Nat}{m:Str->Option Value},P.Nodup->P[i]? =some x->vs[i]? =some v->kindOf x≠some .local->
  bindC kindOf (P.zip vs) m x=some v
 |[],_,_,_,_,h,_,_=>by simp at h
 |_::_,[],_,_,_,_,h,_=>by simp at h
 |p::P,w::vs,0,m,nd,h1,h2,hk=>by
  simp at h1 h2;subst h1;subst h2
  show bindC kindOf ((p,w)::P.zip vs) m p=_
  unfold bindC
  rw [zPV λv hv=>(nodup_cons.mp nd).1 (of_mem_zip hv).1,iN hk]
  simp
 |p::P,w::vs,i+1,m,nd,h1,h2,hk=>by
  show bindC kindOf ((p,w)::P.zip vs) m x=_
  unfold bindC
  exact zPX (i:=i) (nodup_cons.mp nd).2 (by simpa using h1) (by simpa using h2) hk
def start(N:List Str)(vs:List V):St:=vs.map some++List.replicate (N.length - vs.length) none
def zXC(CX:CXT)(P:Program)(w:World)(K:PySem.W.Frag)(mg:Str->Option Value)(base:Heap)(N:List Str)(qual:Str)(scope:Scope)(f:Addr)(cd:Value)(A:Around)(outer:List Env)(s:Shared)(H:Hp)(E:XK):Cx where
 prog:=P
 w:=w
 K:=K
 mg:=mg
 base:=base
 A:=A.deeper (envOfC qual scope s.heap.objs.size f cd)
 N:=N
 s₀:=s
 H₀:=H
 env:=envOfC qual scope s.heap.objs.size f cd
 outer:=outer
 stack:=envOfC qual scope s.heap.objs.size f cd::outer
 ex:=[]
 calm:=true
 fn:=λ_=>true
 pn:=[]
 xe:=λe s'=>wpAny (model P w) (A.deeper (envOfC qual scope s.heap.objs.size f cd)) (leaving (envOfC qual scope s.heap.objs.size f cd) e) (λ_ s''=>CX outer H s E e s'') (λe' s''=>CX outer H s E e' s'') s'
theorem zUC{sc:Scope}{n:Nat}{x:Str}(h:sc.names.lookup x=some .cell): ∃c,(cellsFrom n sc.names []).lookup x=some c:=by
 have q:=PySem.W.cellsFrom_some sc.names n [] (.inl h)
 exact Option.isSome_iff_exists.mp q
theorem yBT{CX:CXT}{P:Program}{w:World}{K:PySem.W.Frag}{mg:Str->Option Value}{base:Heap}{N ps:List Str}{qual:Str}{scope:Scope}{f:Addr}{cd:Value}{A:Around}{outer:List Env}{s s1:Shared}{H:Hp}{E:XK}{us:List Value}{vs:List V}
  (S:FnScope N ps scope) (hd:A.handled=none) (e0:Env0 P w K mg base A outer s H) (hl:vs.length=ps.length) (r:Vals vs us)
  (x:InCallC s s.heap.objs.size (bindL (envOfC qual scope s.heap.objs.size f cd).kindOf (ps.zip us) λ_=>none) (cellsFrom (s.heap.objs.size+1) scope.names []) (bindC (envOfC qual scope s.heap.objs.size f cd).kindOf (ps.zip us) λ_=>none) s1):
  Inv (zXC CX P w K mg base N qual scope f cd A outer s H E) [] (start N vs) H s1:=by
 have hpl:ps.length<=N.length:=by have:=congrArg List.length S.pre;rw [lT]at this;omega
 obtain⟨h1,tk,rfl,hk⟩:=x.done
 have noA: ∀b:Addr,b∉(zXC CX P w K mg base N qual scope f cd A outer s H E).ex:=λb z=>absurd (show b∈([]:List Addr)from z) (by simp)
 refine⟨⟨e0.mod,S.kind,rfl,rfl,le_refl _,λy z c h1 h2=>?_,λy hy=>?_,λy c _ h=>?_,λ_=>hd,Around.frames_deeper e0.frames,.inr ⟨rfl,rfl⟩,λb z=>absurd z (noA b),e0.bs,e0.bsz,λb _ _=>noA b,λb z=>absurd z (noA b),e0.funs,e0.frf⟩,
  rfl,e0.bare,Un.kept hk,⟨_,x.toInCall.ns,λi y v h1 h2 h3=>?_⟩,λy c h=>⟨_,x.cell y c h⟩,e0.hok.fresh (le_refl _),λy c h=>?_,λp hp=>absurd (show p∈([]:List (Addr×Obj))from hp) (by simp),e0.hok.kept hk,?_⟩
 ·exact name_of_addr x.apart (PySem.mem_of_lookup h1) (PySem.mem_of_lookup h2)
 ·have hy:scope.names.lookup y=some .cell\/scope.names.lookup y=some .free:=hy
  rcases hy with hy|hy
  ·exact zUC hy
  ·exact absurd rfl (S.nofree _ (PySem.mem_of_lookup hy))
 ·exact le_of_lt (x.above y c (PySem.mem_of_lookup h))
 ·have hi:i<vs.length:=by
   unfold start at h2
   by_cases hi:i<vs.length
   ·exact hi
   ·rw [getElem?_append_right (by simpa using hi)]at h2
    rw [List.getElem?_replicate]at h2
    split at h2<;>cases h2
  have ha:vs[i]? =some v:=by
   unfold start at h2
   rw [getElem?_append_left (by simpa using hi),getElem?_map]at h2
   cases e:vs[i]? with
   |none=>rw [e]at h2;cases h2
   |some a=>rw [e]at h2;cases h2;rfl
  obtain⟨u,hu,rv⟩:=r.get ha
  have hp:ps[i]? =some y:=by
   rw [<-S.pre,getElem?_take_of_lt (by omega)];exact h1
  have ndP:ps.Nodup:=by rw [<-S.pre];exact S.nd.sublist (List.take_sublist _ _)
  refine⟨u,rv,?_⟩
  rcases S.par y (mem_of_getElem? hp)with k|k
  ·exact .inl ⟨k,zPW ndP hp hu k⟩
  ·obtain⟨c,e⟩:=zUC (n:=s.heap.objs.size+1) k
   refine .inr ⟨.inl k,c,e,?_⟩
   have q:=x.cell y c e
   rw [zPX ndP hp hu (by show scope.names.lookup y≠_;rw [k];decide)]at q
   exact q
 ·exact e0.hok.fresh (le_of_lt (x.above y c (PySem.mem_of_lookup h)))
 ·unfold start
  show _=N.length
  rw [lA,lM,length_replicate]
  omega
theorem fn_of{CX:CXT}{P:Program}{w:World}{K:PySem.W.Frag}{mg:Str->Option Value}{base:Heap}{k:Nat}{f:Addr}{name qual:Str}{params:Arguments}{body:List Stmt}{scope:Scope}{dV kV doc pm cdv ct oc:Value}{an od:Option Addr}
  {osl:Array (Option Value)} {N ps:List Str} {sp:Sp} (lk:K.lookup f=some ⟨oc,od,.func (PySem.W.fnOf name qual params body scope dV kV doc pm an cdv ct),osl⟩) (hcd:PySem.W.codeIn K cdv qual=true) (S:FnScope N ps scope)
  (len: ∀vs H Q E,sp vs H Q E->vs.length=ps.length)
  (hbody: ∀(A:Around)(outer:List Env)(s:Shared)(H:Hp)(vs:List V)(Q:VK)(E:XK),Room k (A.deeper (envOfC qual scope s.heap.objs.size f cdv))->sp vs H Q E->
   ∃t,PSs (zXC CX P w K mg base N qual scope f cdv A outer s H E) body t/\t {nx:=λ_ H'=>Q .non H',rt:=Q} (start N vs) H):
  FnOk P w K mg base CX (k+1) f (PySem.W.fnOf name qual params body scope dV kV doc pm an cdv ct) ps sp:=by
 refine⟨len,λA outer s H args us vs Q E hr e0 hb r hsp=>?_⟩
 have hl:=len _ _ _ _ hsp
 have KX:K.In s.heap:=e0.mod.kin.keeps λb o e=>(e0.bs b o e).1
 have lim:s.heap.NoLimit:=e0.mod.nolimit.keeps λb o e=>(e0.bs b o e).1
 have hkind: ∀y∈ps.zip us,scope.names.lookup y.1=some .local\/(scope.names.lookup y.1=some .cell/\((cellsFrom (s.heap.objs.size+1) scope.names []).lookup y.1).isSome=true):=λ⟨n,v⟩ hy=>by
  rcases S.par n (of_mem_zip hy).1 with q|q
  ·exact .inl q
  ·exact .inr ⟨q,PySem.W.cellsFrom_some _ _ _ (.inl q)⟩
 refine codeAny_call_function hr.depth (KX _ _ lk) rfl S.co S.gen rfl (PySem.W.codeRec_of KX hcd) (hb _ _ _ _ ?_)
 refine wpAny_newFunctionEnv_cells S.kind hkind λenv he s1 x=>?_
 subst he
 refine⟨lim.keeps x.toInCall.keep,codeAny_func ?_⟩
 obtain⟨t,ht,hq⟩:=hbody A outer s H vs Q E (hr.deeper _) hsp
 have I:Inv (zXC CX P w K mg base N qual scope f cdv A outer s H E) [] (start N vs) H s1:=yBT S hr.hd e0 hl r x
 refine wpAny_mono (ht [] s1 (start N vs) H _ I hq) (λfl s' hs=>?_) λe s' hs=>hs
 have fin: ∀{σ':St}{H':Hp}{v:V}{u:Value},Inv (zXC CX P w K mg base N qual scope f cdv A outer s H E) [] σ' H' s'->RelV v u->Q v H'->CE outer P w H s Q u s':=
  λ{σ' H' v u} J rv q=>⟨v,H',J.os,J.bare,J.base,J.hok,rv,q⟩
 cases fl with
 |ret u=>
  obtain⟨v,σ',H',J,rv,q⟩:=hs
  exact fin J rv q
 |next=>
  obtain⟨σ',H',J,q⟩:=hs
  exact fin (v:=V.non) (u:=Value.none) J rfl q
 |brk=>
  obtain⟨_,_,_,q⟩:=hs
  exact False.elim q
 |cont=>
  obtain⟨_,_,_,q⟩:=hs
  exact False.elim q
section
variable{X:Cx}{x:Str}{p pos:Pos}{e:Expr}{es:List Expr}{t:TA}{id T:String}{r:List V->Hp->VK->Prop}
def tCB(r:List V->Hp->VK->Prop)(t:TA):TE:=λσ H Q=>t σ H λvs H1=>r vs H1 Q
theorem yDS(hc:CallR X (.builtin id) r)(hg:Gl X x)(hm:X.mg x=none)(hv:bootBuiltins x=some (.builtin id))(ha:PA X (e::es) t)(hn:x≠"__name__":=by decide)(hdb:(x==("__debug__":Str))=false:=by decide)
  (he:starEach (e::es) X.env=(false,eval e X.env)::starEach es X.env:=by rfl) (hpl:(backTo pos (starEach es X.env)).any (·.1)=false:=by rfl):PE X (.Call (.Name x p) (e::es) [] pos) (tCB r t):=by
 intro pins s σ H Q I h
 refine wpAny_Call_Name_kw (zRK I hg hm hv ?_ hn hdb)
 exact PyProof.Rows.callWith_builtin1 (thn (ha pos pins s σ H _ I h) λus s1 ⟨vs,H1,I1,r1,q1⟩=>hc pins s1 σ H1 vs us Q I1 r1 q1) he hpl
theorem yBU(hc:CallR X (.type T) r)(hg:Gl X x)(hm:X.mg x=none)(hv:bootBuiltins x=some (.type T))(ha:PA X (e::es) t)(hn:x≠"__name__":=by decide)(hdb:(x==("__debug__":Str))=false:=by decide)
  (he:starEach (e::es) X.env=(false,eval e X.env)::starEach es X.env:=by rfl) (hpl:(backTo pos (starEach es X.env)).any (·.1)=false:=by rfl):PE X (.Call (.Name x p) (e::es) [] pos) (tCB r t):=by
 intro pins s σ H Q I h
 refine wpAny_Call_Name_kw (zRK I hg hm hv ?_ hn hdb)
 exact PyProof.Rows.callWith_type1 (thn (ha pos pins s σ H _ I h) λus s1 ⟨vs,H1,I1,r1,q1⟩=>hc pins s1 σ H1 vs us Q I1 r1 q1) he hpl
end
end L2
namespace HT
open PySem PyProof.Rows
section
variable{prog:Program}{w:World}{A:Around}{E:VP}{s:Shared}
theorem cat_tup{t b:Addr}{vs ws:List Value}{Q:VP}(ht:IsTup s.heap t vs.toArray)(hb:IsTup s.heap b ws.toArray)(hv:vs≠[])
  (h1:ws=[]->Q (.ref t) s) (h2:ws≠[]->Q (.ref s.heap.objs.size) {s with heap:=s.heap.push {cls:=.type "tuple",data:=.seq (vs++ws).toArray}})
  (hsz:vs.length+ws.length<=sizeLine):wpAny (model prog w) A (binaryOp .Add (.ref t) (.ref b)) Q E s:=by
 obtain⟨⟨cls,dd,data,sl⟩,ho,hc,n,hd⟩:=id ht
 obtain⟨⟨cls2,dd2,data2,sl2⟩,ho2,hc2,n2,hd2⟩:=id hb
 simp only at hc hd hc2 hd2
 subst hc hd hc2 hd2
 have e:vs.toArray++ws.toArray=(vs++ws).toArray:=by simp
 by_cases hw:ws=[]
 ·exact concat_meets ⟨_,ho,rfl⟩ ⟨_,ho2,rfl⟩ noFill_tuple_add seq_tuple_add PySem.F.slot_tuple_add PySem.F.entry_tuple_add (PySem.F.args_tuple_add_2 _ _)
   (tuple_addW1 t b vs.toArray ws.toArray n n2 dd dd2 sl sl2 (by simpa using hv) (by simp [hw])) ⟨ho,ho2,h1 hw⟩
 ·refine concat_meets ⟨_,ho,rfl⟩ ⟨_,ho2,rfl⟩ noFill_tuple_add seq_tuple_add PySem.F.slot_tuple_add PySem.F.entry_tuple_add (PySem.F.args_tuple_add_2 _ _)
   (tuple_addW2 t b vs.toArray ws.toArray n n2 dd dd2 sl sl2 (by simpa using hv) (by simpa using hw) (by rw [sA0,sA0];exact hsz)) ⟨ho,ho2,?_⟩
  rw [e]
  exact h2 hw
def sIx(n d:Nat):Option Int->Nat
 |none=>d
 |some v=>if v<0 then(v+(n:Int)).toNat else min v.toNat n
theorem sIx_nat(n d k:Nat):sIx n d (some (k:Int))=min k n:=by
 show(if(k:Int)<0 then((k:Int)+(n:Int)).toNat else min (k:Int).toNat n)=min k n
 rw [iN (by omega),toNat_natCast]
theorem sIx_le(n d:Nat)(hd:d<=n)(o:Option Int):sIx n d o<=n:=by
 cases o with
 |none=>exact hd
 |some v=>
  show(if v<0 then(v+(n:Int)).toNat else min v.toNat n)<=n
  by_cases hv:v<0
  ·rw [iP hv];omega
  ·rw [iN hv];exact Nat.min_le_right _ _
theorem zYR(v:Int)(n d:Nat):(if v<0 then max (v+(n:Int)) 0 else min v (n:Int))=((sIx n d (some v):Nat):Int):=by
 show(if v<0 then max (v+(n:Int)) 0 else min v (n:Int))=(((if v<0 then(v+(n:Int)).toNat else min v.toNat n):Nat):Int)
 by_cases hv:v<0
 ·simp only [iP hv];omega
 ·simp only [iN hv];omega
theorem zXD(lo hi:Option Int)(n:Nat):Builtin.Slice.sliceAdjust lo hi 1 (n:Int)=(((sIx n 0 lo:Nat):Int),((sIx n n hi:Nat):Int)):=by
 have h1: ¬((1:Int)<0):=by omega
 unfold Builtin.Slice.sliceAdjust
 simp only [h1,iF]
 refine Prod.ext ?_ ?_
 ·cases lo with
  |none=>rfl
  |some v=>exact zYR v n 0
 ·cases hi with
  |none=>rfl
  |some v=>exact zYR v n n
theorem zXE(i j:Nat):Builtin.Slice.slicePlaces (i:Int) (j:Int) 1=j - i:=by
 unfold Builtin.Slice.slicePlaces
 have h1:(1:Int)>0:=by omega
 simp only [h1,if_true,Int.ediv_one]
 split<;>omega
theorem zMQ{v:Value}{o:Option Int}{Q:Option Int->Shared->Prop}(p:IsPart v o)(h:Q o s):wpAny (model prog w) A (Builtin.Slice.slicePartIndex v) Q E s:=by
 cases p with
 |none=>exact slicePart_none h
 |int i t=>exact slicePart_int h
theorem sliceApplied_gen{sl:Addr}{vl vu:Value}{lo hi:Option Int}{n:Nat}{Q:Int×Int×Nat->Shared->Prop}(hs:s.heap.IsSliceOf sl vl vu .none)(pl:IsPart vl lo)(pu:IsPart vu hi)
  (h:Q (((sIx n 0 lo:Nat):Int),1,sIx n n hi - sIx n 0 lo) s):wpAny (model prog w) A (Builtin.Slice.sliceApplied (.ref sl) (pure (n:Int))) Q E s:=by
 obtain⟨os,hos,hcs,hds⟩:=id hs
 unfold Builtin.Slice.sliceApplied Builtin.Slice.sliceFields
 refine wB0 (wB0 (wpAny_field hos hds (x:=vl) rfl (wB0 (wpAny_field hos hds (x:=vu) rfl (wB0 (wpAny_field hos hds (x:=.none) rfl (wP0 ?_)))))))
 refine wB0 (slicePart_none ?_)
 show wpAny _ _ (if((1:Int)==0)=true then _ else _) _ _ s
 rw [iN (by decide)]
 refine wB0 (zMQ pl (wB0 (zMQ pu (wB0 (wP0 ?_)))))
 show wpAny _ _ (match Builtin.Slice.sliceAdjust lo hi 1 (n:Int)with |(lo,hi)=>pure (lo,(1:Int),Builtin.Slice.slicePlaces lo hi 1)) _ _ s
 rw [zXD lo hi n]
 show wpAny _ _ (pure (((sIx n 0 lo:Nat):Int),(1:Int),Builtin.Slice.slicePlaces ((sIx n 0 lo:Nat):Int) ((sIx n n hi:Nat):Int) 1)) _ _ s
 rw [zXE]
 exact wP0 h
theorem yDT(xs:Array Value)(i k:Nat):((List.range k).filterMap λ(m:Nat)=>xs[((i:Int)+(m:Int) * 1).toNat]?).toArray=((xs.toList.drop i).take k).toArray:=by
 have e:(λ(m:Nat)=>xs[((i:Int)+(m:Int) * 1).toNat]?)=λm=>xs[i+m]? :=by
  funext m
  have:((i:Int)+(m:Int) * 1).toNat=i+m:=by omega
  rw [this]
 rw [e]
 have:=pick_run xs i k
 rw [List.filterMap_map]at this
 have e2:((λx=>xs[x]?)∘λx=>i+x)=λm=>xs[i+m]? :=rfl
 rw [e2]at this
 rw [this]
theorem getItem_tuple_cut{t sl:Addr}{items:Array Value}{vl vu:Value}{lo hi:Option Int}{Q:VP}(ht:IsTup s.heap t items)(hs:s.heap.IsSliceOf sl vl vu .none)(pl:IsPart vl lo)(pu:IsPart vu hi)
  (hw: ¬(sIx items.size 0 lo=0/\sIx items.size items.size hi=items.size))
  (h:Q (.ref s.heap.objs.size) {s with heap:=s.heap.push {cls:=.type "tuple",data:=.seq ((items.toList.drop (sIx items.size 0 lo)).take (sIx items.size items.size hi - sIx items.size 0 lo)).toArray}})
  (hsz:items.size<=sizeLine):wpAny (model prog w) A (getItem (.ref t) (.ref sl)) Q E s:=by
 have htake:sizeOk (.seq ((items.toList.drop (sIx items.size 0 lo)).take (sIx items.size items.size hi - sIx items.size 0 lo)).toArray):=by
  show((items.toList.drop (sIx items.size 0 lo)).take (sIx items.size items.size hi - sIx items.size 0 lo)).toArray.size<=sizeLine
  rw [sA0,lT,length_drop,Array.length_toList]
  omega
 have hj:sIx items.size items.size hi<=items.size:=sIx_le _ _ (le_refl _) hi
 obtain⟨os,hos,hcs,hds⟩:=id hs
 have hTs:s.TypeIs (.ref sl) "slice":=⟨os,hos,hcs⟩
 unfold getItem
 try with_reducible refine wpAny_holding ?_
 first |refine wB0 (wP0 ?_)|skip
 refine wB0 (wpAny_sequenceKey ht.typeIs (by decide) ?_)
 refine wB0 (wpAny_callSpecial?_slot (name:=Str.ofString "__getitem__") ht.typeIs PyProof.Rows.slot_tuple_getitem
  (wpAny_call_entry PyProof.Rows.slot_tuple_getitem ht.typeIs entry_tuple_getitem ?_ (args_tuple_getitem _ _)))
 show wpAny _ _ (Builtin.Tuple.tupleItemsOf (.ref t) >>= _) _ _ s
 refine wB0 (tupleItemsOf_ ht ?_)
 refine wB0 (wpAny_typeOf hTs ?_)
 rw [iP (by decide)]
 refine wB0 (sliceApplied_gen hs pl pu ?_)
 have hno: ¬((((sIx items.size 0 lo:Nat):Int)==0&&(1:Int)==1&&(sIx items.size items.size hi - sIx items.size 0 lo)==items.size)=true):=by
  intro q
  rw [aE,aE]at q
  have q1:((sIx items.size 0 lo:Nat):Int)=0:=eq_of_beq q.1.1
  have q2:sIx items.size items.size hi - sIx items.size 0 lo=items.size:=eq_of_beq q.2
  exact hw ⟨by omega,by omega⟩
 show wpAny _ _ (if(((sIx items.size 0 lo:Nat):Int)==0&&(1:Int)==1&&(sIx items.size items.size hi - sIx items.size 0 lo)==items.size)=true then _ else _) _ _ s
 rw [iN hno,yDT]
 first
  |exact wB0 (m:=Builtin.Tuple.tupleExact _) (wpAny_newObj_type (wP0 ⟨_,rfl,wP0 h⟩) htake)
  |exact wB0 (m:=Builtin.Tuple.tupleExact _) (wpAny_newObj_type (wB0 (wP0 (wP0 ⟨_,rfl,wP0 h⟩))) htake)
  |exact wB0 (wB0 (m:=Builtin.Tuple.tupleExact _) (wpAny_newObj_type (wP0 (wP0 ⟨_,rfl,wP0 h⟩)) htake))
  |exact wB0 (wB0 (m:=Builtin.Tuple.tupleExact _) (wpAny_newObj_type (wP0 ⟨_,rfl,wP0 h⟩) htake))
end
end HT
namespace L2
open PySem PySem.Spec PyProof.Rows
abbrev TO:=St->Hp->(Option Int->Hp->Prop)->Prop
def PO(X:Cx)(e:Option Expr)(t:TO):Prop:=
 ∀(pins:List (Addr×Obj))(s:Shared)(σ:St)(H:Hp)(Q:Option Int->Hp->Prop),Inv X pins σ H s->t σ H Q->
  wpAny (model X.prog X.w) X.A (evalPart e X.env) (λu s'=> ∃o H',Inv X pins σ H' s'/\IsPart u o/\Q o H') X.xe s
def yIW:TO:=λ_ H Q=>Q none H
def tPart(t:TE):TO:=λσ H Q=>t σ H λx H1=> ∃i,x=.int i/\Q (some i) H1
section
variable{X:Cx}{e:Expr}{te:TE}{lo hi:Option Expr}{tl th:TO}{pos p2:Pos}
theorem yIX:PO X none yIW:=by
 intro pins s σ H Q I h
 rw [evalPart_none]
 exact wP0 ⟨none,H,I,.none,h⟩
theorem yIY(h:PE X e te):PO X (some e) (tPart te):=by
 intro pins s σ H Q I hw
 rw [evalPart_some]
 refine thn (h pins s σ H _ I hw) λu s1 ⟨x,H1,I1,r1,q1⟩=>?_
 obtain⟨i,rfl,q⟩:=q1
 obtain⟨t,rfl⟩:=r1
 exact⟨some i,H1,I1,.int i t,q⟩
def SlR(X:Cx)(r:V->Option Int->Option Int->Hp->VK->Prop):Prop:=
 ∀(pins:List (Addr×Obj))(s:Shared)(σ:St)(H:Hp)(x:V)(v vl vu:Value)(lo hi:Option Int)(sl:Addr)(Q:VK),Inv X pins σ H s->RelV x v->s.heap.IsSliceOf sl vl vu .none->IsPart vl lo->IsPart vu hi->r x lo hi H Q->
  ∃T id,typeLookup (.type T) "__getitem__"=pure (some (.builtin id))/\s.TypeIs v T/\wpAny (model X.prog X.w) X.A (getItem v (.ref sl)) (EP X pins σ Q) X.xe s
theorem SlR.or{r r':V->Option Int->Option Int->Hp->VK->Prop}(h:SlR X r)(h':SlR X r'):SlR X (λx lo hi H Q=>r x lo hi H Q\/r' x lo hi H Q):=by
 intro pins s σ H x v vl vu lo hi sl Q I rx hs pl pu q
 rcases q with q|q
 ·exact h pins s σ H x v vl vu lo hi sl Q I rx hs pl pu q
 ·exact h' pins s σ H x v vl vu lo hi sl Q I rx hs pl pu q
def tSl(r:V->Option Int->Option Int->Hp->VK->Prop)(te:TE)(tl th:TO):TE:=λσ H Q=>te σ H λx H1=>tl σ H1 λl H2=>th σ H2 λu H3=>r x l u H3 Q
theorem yDU{r:V->Option Int->Option Int->Hp->VK->Prop}(hr:SlR X r)(he:PE X e te)(hl:PO X lo tl)(hu:PO X hi th):PE X (.Subscript e (.Slice lo hi none p2) pos) (tSl r te tl th):=by
 intro pins s σ H Q I h
 refine Subscript_ (thn (he pins s σ H _ I h) λv s1 ⟨x,H1,I1,r1,q1⟩=>?_)
 refine wpAny_Slice (thn (hl pins s1 σ H1 _ I1 q1) λvl s2 ⟨l,H2,I2,pl,q2⟩=>thn (hu pins s2 σ H2 _ I2 q2) λvu s3 ⟨u,H3,I3,pu,q3⟩=>?_)
 rw [evalPart_none]
 refine wP0 ?_
 have I4:Inv X pins σ H3 {s3 with heap:=s3.heap.push {cls:=.type "slice",data:=.fields #[vl,vu,.none]}}:=I3.kept (t':=s3.toks) λb ob q=>hP0 _ q
 obtain⟨T,id,hT,ht,hg⟩:=hr pins {s3 with heap:=s3.heap.push {cls:=.type "slice",data:=.fields #[vl,vu,.none]}} σ H3 x v vl vu l u s3.heap.objs.size Q I4 r1 (Heap.IsSliceOf.new ..) pl pu q3
 show wpAny (model X.prog X.w) X.A (subscriptTail e (.Slice lo hi none p2) v (.ref s3.heap.objs.size)) (EP X pins σ Q) X.xe {s3 with heap:=s3.heap.push {cls:=.type "slice",data:=.fields #[vl,vu,.none]}}
 exact tail_any (ops:=[.ref s3.heap.objs.size,v]) ht hT hg (by with_unfolding_all rfl)
def zUD(xs:List V)(lo hi:Option Int):List V:=(xs.drop (HT.sIx xs.length 0 lo)).take (HT.sIx xs.length xs.length hi - HT.sIx xs.length 0 lo)
theorem zLA(xs:List V)(lo hi:Option Int):(zUD xs lo hi).length<=xs.length:=by
 unfold zUD
 rw [lT,length_drop]
 omega
def rSlT(K:PySem.W.Frag):V->Option Int->Option Int->Hp->VK->Prop:=λx lo hi H Q=> ∃a xs,x=.ref a/\SqT K H a xs/\
 ¬(HT.sIx xs.length 0 lo=0/\HT.sIx xs.length xs.length hi=xs.length)/\ ∀p,H p=none->Q (.ref p) (upd H p (.tup (zUD xs lo hi)))
theorem yOI:SlR X (rSlT X.K):=by
 intro pins s σ H x v vl vu lo hi sl Q I rx hs pl pu h
 obtain⟨a,xs,rfl,hx,hw,q⟩:=h
 cases rx
 obtain⟨its,r,ht,hz⟩:=I.tuple hx
 have hlen:its.toArray.size=xs.length:=by rw [sA0];exact r.length.symm
 refine⟨"tuple",_,PyProof.Rows.slot_tuple_getitem.lookup,ht.typeIs,?_⟩
 refine HT.getItem_tuple_cut ht hs pl pu (by rw [hlen];exact hw) ?_ (by rw [hlen];exact hz)
 rw [hlen]
 refine⟨.ref s.heap.objs.size,_,I.laid (t':=s.toks) (o:=.tup (zUD xs lo hi)) (λb ob q=>hP0 _ q) (le_refl _) ?_,rfl,q _ (I.hok.fresh (le_refl _))⟩
 exact⟨le_trans (zLA xs lo hi) hz,_,(r.drop (HT.sIx xs.length 0 lo)).take (HT.sIx xs.length xs.length hi - HT.sIx xs.length 0 lo),IsTup.new _ _⟩
def rCatT(K:PySem.W.Frag):R2:=λx y H Q=> ∃a b xs ys,x=.ref a/\y=.ref b/\SqT K H a xs/\SqT K H b ys/\xs≠[]/\xs.length+ys.length<=sizeLine/\
 (ys=[]->Q (.ref a) H)/\(ys≠[]-> ∀p,H p=none->Q (.ref p) (upd H p (.tup (xs++ys))))
theorem Vals.nil_iff{xs:List V}{us:List Value}(r:Vals xs us):us=[]↔xs=[]:=by
 cases r with
 |nil=>simp
 |cons _ _=>simp
theorem yIZ:OpR X (binaryOp .Add) (rCatT X.K):=by
 intro pins s σ H x y v u Q I rx ry h
 obtain⟨a,b,xs,ys,rfl,rfl,ha,hb,hx,hz,q1,q2⟩:=h
 cases rx
 cases ry
 obtain⟨its,r1,p1,_⟩:=I.tuple ha
 obtain⟨its2,r2,p2,_⟩:=I.tuple hb
 refine HT.cat_tup p1 p2 (λz=>hx (r1.nil_iff.mp z)) (λz=>⟨.ref a,H,I,rfl,q1 (r2.nil_iff.mp z)⟩) (λz=>?_) (by rw [<-r1.length, <-r2.length];exact hz)
 refine⟨.ref s.heap.objs.size,_,I.laid (t':=s.toks) (o:=.tup (xs++ys)) (λb ob q=>hP0 _ q) (le_refl _) ?_,rfl,q2 (λw=>z (r2.nil_iff.mpr w)) _ (I.hok.fresh (le_refl _))⟩
 exact⟨by rw [lA];exact hz,_,r1.append r2,IsTup.new _ _⟩
end
def ixN(n:Nat)(i:Int):Option Nat:=if 0<=i then(if i<n then some i.toNat else none)else if -(n:Int)<=i then some (i+n).toNat else none
def atI{α:Type}(xs:List α)(i:Int):Option α:=(ixN xs.length i).bind λj=>xs[j]?
theorem zYS{n:Nat}{i:Int}{j:Nat}(h:ixN n i=some j):seqIndex? i n=some j/\j<n/\ -(n:Int)<=i/\i<n:=by
 unfold ixN at h
 by_cases h0:0<=i
 ·rw [iP h0]at h
  by_cases h1:i<n
  ·rw [iP h1]at h
   have e:i.toNat=j:=Option.some.inj h
   exact⟨by rw [seqIndex_of h0 h1,e],by omega,by omega,h1⟩
  ·rw [iN h1]at h;cases h
 ·rw [iN h0]at h
  by_cases h1: -(n:Int)<=i
  ·rw [iP h1]at h
   have e:(i+n).toNat=j:=Option.some.inj h
   exact⟨by rw [seqIndex_neg (by omega) h1,e],by omega,h1,by omega⟩
  ·rw [iN h1]at h;cases h
theorem zRM{α:Type}{xs:List α}{i:Int}{v:α}(h:atI xs i=some v): ∃j,seqIndex? i xs.length=some j/\xs[j]? =some v/\j<xs.length/\ -(xs.length:Int)<=i/\i<xs.length:=by
 unfold atI at h
 cases e:ixN xs.length i with
 |none=>rw [e]at h;cases h
 |some j=>
  rw [e]at h
  obtain⟨h1,h2,h3,h4⟩:=zYS e
  exact⟨j,h1,h,h2,h3,h4⟩
theorem atI_nat{α:Type}{xs:List α}{j:Nat}{v:α}(h:xs[j]? =some v):atI xs (j:Int)=some v:=by
 have hj:j<xs.length:=(gS0.mp h).1
 have e:ixN xs.length (j:Int)=some j:=by
  unfold ixN
  rw [iP (by omega),iP (by omega)];simp
 unfold atI;rw [e];exact h
def zRN(b:Expr):Prop:= ∀o i,subscripted b false o i=operate [o,i] (getItem o i)
def IxR(X:Cx)(r:R2):Prop:=
 ∀(value slice:Expr)(pins:List (Addr×Obj))(s:Shared)(σ:St)(H:Hp)(x y:V)(v u:Value)(Q:VK),Inv X pins σ H s->RelV x v->RelV y u->r x y H Q->
  subscripted slice false v u=operate [v,u] (getItem v u)->wpAny (model X.prog X.w) X.A (subscriptTail value slice v u) (EP X pins σ Q) X.xe s
def MtR(X:Cx)(id:String)(r:V->List V->Hp->VK->Prop):Prop:=
 ∀(pins:List (Addr×Obj))(s:Shared)(σ:St)(H:Hp)(x:V)(xs:List V)(v:Value)(us:List Value)(Q:VK),Inv X pins σ H s->RelV x v->Vals xs us->r x xs H Q->
  wpAny (model X.prog X.w) X.A (call (.builtin id) (v::us)) (EP X pins σ Q) X.xe s
section
variable{X:Cx}{a b:Expr}{ta tb:TE}{pos:Pos}
theorem IxR.or{r r':R2}(h:IxR X r)(h':IxR X r'):IxR X (λx y H Q=>r x y H Q\/r' x y H Q):=by
 intro value slice pins s σ H x y v u Q I rx ry q hs
 rcases q with q|q
 ·exact h value slice pins s σ H x y v u Q I rx ry q hs
 ·exact h' value slice pins s σ H x y v u Q I rx ry q hs
theorem pe_ix{r:R2}(hr:IxR X r)(ha:PE X a ta)(hb:PE X b tb)(hs:zRN b):PE X (.Subscript a b pos) (tOp r ta tb):=by
 intro pins s σ H Q I h
 exact Subscript_ (binT ha hb I h λv u s2 x y H2 I2 rx ry q=>hr a b pins s2 σ H2 x y v u Q I2 rx ry q (hs _ _))
def rIxL(K:PySem.W.Frag):R2:=λx y H Q=> ∃p xs i v,x=.ref p/\y=.int i/\SqL K H p xs/\atI xs i=some v/\Q v H
def rIxT(K:PySem.W.Frag):R2:=λx y H Q=> ∃p xs i v,x=.ref p/\y=.int i/\SqT K H p xs/\atI xs i=some v/\Q v H
def rIxS:R2:=λx y H Q=> ∃z i c,x=.str z/\y=.int i/\z.length<=sizeLine/\atI z.cps.toList i=some c/\Q (.str ⟨#[c]⟩) H
theorem yJA:IxR X (rIxL X.K):=by
 intro value slice pins s σ H x y v u Q I rx ry h hs
 obtain⟨p,xs,i,z,rfl,rfl,hq,he,q⟩:=h
 cases rx
 obtain⟨t,rfl⟩:=ry
 obtain⟨its,r,pl,hz⟩:=I.list hq
 obtain⟨j,h1,h2,h3,h4,h5⟩:=zRM he
 obtain⟨w,ew,rw'⟩:=r.get h2
 have hl:=r.length
 have hn:=zHU
 have fin:EP X pins σ Q w s:=⟨z,H,I,rw',q⟩
 by_cases h0:0<=i
 ·have hj:i.toNat=j:=by
   rw [seqIndex_of h0 h5]at h1
   exact Option.some.inj h1
  exact item_listR pl.isList h0 (by omega) (by rw [hj];simpa using ew) fin hs
 ·have hj:(i+(its.toArray.size:Int)).toNat=j:=by
   rw [seqIndex_neg (by omega) h4]at h1
   rw [sA0, <-hl]
   exact Option.some.inj h1
  exact subscriptTail_builtinR (x:=w) pl.isList.typeIs slot_list_getitem.lookup
   (wpAny_getItem_list_neg (Q:=λr s'=>r=w/\EP X pins σ Q r s') pl.isList (by omega) (by rw [sA0]<;>omega) (by omega) (by rw [hj];simpa using ew) ⟨rfl,fin⟩) hs
theorem ix_tup:IxR X (rIxT X.K):=by
 intro value slice pins s σ H x y v u Q I rx ry h hs
 obtain⟨p,xs,i,z,rfl,rfl,hq,he,q⟩:=h
 cases rx
 obtain⟨t,rfl⟩:=ry
 obtain⟨its,r,pl,hz⟩:=I.tuple hq
 obtain⟨j,h1,h2,h3,h4,h5⟩:=zRM he
 obtain⟨w,ew,rw'⟩:=r.get h2
 have hl:=r.length
 have hn:=zHU
 have fin:EP X pins σ Q w s:=⟨z,H,I,rw',q⟩
 exact subscriptTail_builtinR (x:=w) pl.typeIs slot_tuple_getitem.lookup
  (getItem_tuple (j:=j) (Q:=λr s'=>r=w/\EP X pins σ Q r s') pl (by omega) (by omega) (by rw [sA0, <-hl];exact h1) (by simpa using ew) ⟨rfl,fin⟩) hs
theorem ix_str:IxR X rIxS:=by
 intro value slice pins s σ H x y v u Q I rx ry h hs
 obtain⟨z,i,c,rfl,rfl,hz,he,q⟩:=h
 obtain⟨t,rfl⟩:=rx
 obtain⟨t',rfl⟩:=ry
 obtain⟨j,h1,h2,h3,h4,h5⟩:=zRM he
 have hl:z.cps.toList.length=z.length:=by simp [Str.length]
 rw [hl]at h1 h4 h5
 have hn:=zHU
 exact tail_any (typeIs_str s z t) slot_str_getitem.lookup (getItem_str (c:=c) (by
  have e1:decide (i< -(2 ^ 63:Int))=false:=dF0 (by omega)
  have e2:decide (i>=2 ^ 63)=false:=dF0 (by omega)
  rw [e1,e2,Bool.or_false]) (by rw [h1];simpa using h2) ⟨.str ⟨#[c]⟩,H,I.tok _,⟨_,rfl⟩,q⟩) hs
def rIx(K:PySem.W.Frag):R2:=λx y H Q=>rIxL K x y H Q\/rIxT K x y H Q\/rIxS x y H Q
theorem yOJ:IxR X (rIx X.K):=yJA.or (ix_tup.or ix_str)
theorem zXF(its:List Value)(n j:Nat)(u:Value):Obj.mapSeq (·.setIfInBounds j u) {cls:=.type "list",data:=.seq its.toArray n}={cls:=.type "list",data:=.seq (its.set j u).toArray n}:=by
 simp [Obj.mapSeq]
theorem Inv.lst{pins:List (Addr×Obj)}{σ:St}{H:Hp}{s:Shared}{p:Addr}{xs:List V}(I:Inv X pins σ H s)(h:H p=some (.lst xs)):
  ∃(its:List Value)(n:Nat),Vals xs its/\s.heap.get? p=some {cls:=.type "list",data:=.seq its.toArray n}/\xs.length<=sizeLine:=by
 obtain⟨z,its,n,r,e⟩:=I.hok p _ h
 exact⟨its,n,r,e,z⟩
theorem Inv.lstUpd{pins:List (Addr×Obj)}{σ:St}{H:Hp}{s:Shared}{p:Addr}{xs ys:List V}{its its':List Value}{n n':Nat}{f:Obj->Obj}(I:Inv X pins σ H s)(h:H p=some (.lst xs))
  (ho:s.heap.get? p=some {cls:=.type "list",data:=.seq its.toArray n}) (hf:f {cls:=.type "list",data:=.seq its.toArray n}={cls:=.type "list",data:=.seq its'.toArray n'}) (r:Vals ys its') (hz:ys.length<=sizeLine) (t:Nat):
  Inv X pins σ (upd H p (.lst ys)) {s with heap:=s.heap.update p f,toks:=t}:=by
 have e:(s.heap.update p f).get? p=some {cls:=.type "list",data:=.seq its'.toArray n'}:=by
  rw [Heap.get?_update_self f ho (by rw [hf]<;>rfl),hf]
 refine I.write (x:=p) (e:=p) (by rw [h];trivial) (.inl rfl) (λb u hb q=>(Heap.get?_update_other _ _ (Ne.symm hb)).trans q) ⟨_,e⟩ ?_
 exact⟨hz,its',n',r,e⟩
def rSetL:V->V->V->Hp->(Hp->Prop)->Prop:=λo i v H Q=> ∃p xs k j,o=.ref p/\i=.int k/\H p=some (.lst xs)/\ixN xs.length k=some j/\Q (upd H p (.lst (xs.set j v)))
theorem set_list:PSet X rSetL:=by
 intro pins s σ H o i v ov iv u Q I ro ri rv h
 obtain⟨p,xs,k,j,rfl,rfl,hp,hj,q⟩:=h
 cases ro
 obtain⟨t,rfl⟩:=ri
 obtain⟨its,n,r,ho,hz⟩:=I.lst hp
 obtain⟨h1,h2,h3,h4⟩:=zYS hj
 have hl:=r.length
 have hn:=zHU
 have I':Inv X pins σ (upd H p (.lst (xs.set j v))) {s with heap:=s.heap.update p (Obj.mapSeq (·.setIfInBounds j u))}:=
  I.lstUpd hp ho (zXF its n j u) (r.set rv j) (by rw [length_set];exact hz) s.toks
 by_cases h0:0<=k
 ·have hk:k.toNat=j:=by
   rw [seqIndex_of h0 h4]at h1
   exact Option.some.inj h1
  exact PySem.W.ki_setAt ho h0 (by omega) (by rw [sA0, <-hl];exact h4) (by rw [hk];exact⟨_,I',q⟩)
 ·have hk:(k+(its.toArray.size:Int)).toNat=j:=by
   rw [seqIndex_neg (by omega) h3]at h1
   rw [sA0, <-hl]
   exact Option.some.inj h1
  exact PySem.W.ki_setBack ho (by omega) (by rw [sA0, <-hl];exact h3) (by omega) (by rw [hk];exact⟨_,I',q⟩)
theorem zRO(lo hi:Option Int)(n:Nat):(sliceBounds lo hi none n).1=((HT.sIx n 0 lo:Nat):Int)/\(sliceBounds lo hi none n).2.1=((HT.sIx n n hi:Nat):Int)/\(sliceBounds lo hi none n).2.2=1:=by
 refine⟨?_,?_,rfl⟩
 ·cases lo with
  |none=>simp [sliceBounds,HT.sIx]
  |some i=>
   simp only [sliceBounds,HT.sIx,Option.getD_none,show(1:Int)>0 by decide,if_true]
   by_cases h:i<0
   ·simp only [h,if_true]<;>omega
   ·simp only [h,iF]<;>omega
 ·cases hi with
  |none=>simp [sliceBounds,HT.sIx]
  |some i=>
   simp only [sliceBounds,HT.sIx,Option.getD_none,show(1:Int)>0 by decide,if_true]
   by_cases h:i<0
   ·simp only [h,if_true]<;>omega
   ·simp only [h,iF]<;>omega
theorem zPB(its:List Value)(lo hi:Option Int):slicePick its.toArray lo hi none=((its.drop (HT.sIx its.length 0 lo)).take (HT.sIx its.length its.length hi - HT.sIx its.length 0 lo)).toArray:=by
 obtain⟨h1,h2,h3⟩:=zRO lo hi its.toArray.size
 unfold slicePick
 rw [h1,h2,h3]
 simp only [sliceRange_one,pick_run,sA0]<;>rfl
def rSlL(K:PySem.W.Frag):V->Option Int->Option Int->Hp->VK->Prop:=λx lo hi H Q=> ∃a xs,x=.ref a/\SqL K H a xs/\ ∀p,H p=none->Q (.ref p) (upd H p (.lst (zUD xs lo hi)))
theorem yJB:SlR X (rSlL X.K):=by
 intro pins s σ H x v vl vu lo hi sl Q I rx hs pl pu h
 obtain⟨a,xs,rfl,hx,q⟩:=h
 cases rx
 obtain⟨its,r,ht,hz⟩:=I.list hx
 have hlen:=r.length
 refine⟨"list",_,slot_list_getitem.lookup,ht.isList.typeIs,?_⟩
 refine wpAny_getItem_list_slice ht.isList hs pl pu .none (by simp) ?_ (by rw [sA0]<;>omega)
 rw [zPB, <-hlen]
 refine⟨.ref s.heap.objs.size,_,I.laid (t':=s.toks) (o:=.lst (zUD xs lo hi)) (λb ob q=>hP0 _ q) (le_refl _) ?_,rfl,q _ (I.hok.fresh (le_refl _))⟩
 exact⟨le_trans (zLA xs lo hi) hz,_,0,(r.drop (HT.sIx xs.length 0 lo)).take (HT.sIx xs.length xs.length hi - HT.sIx xs.length 0 lo),Heap.get?_push_size _ rfl⟩
def wY:V->Bool
 |.non=>true
 |.bl _=>true
 |.int _=>true
 |.str _=>true
 |_=>false
def eqV:V->V->Bool
 |.non,.non=>true
 |.bl a,.bl b=>a==b
 |.bl a,.int b=>(if a then 1 else 0)==b
 |.int a,.bl b=>a==(if b then 1 else 0)
 |.int a,.int b=>a==b
 |.str a,.str b=>a==b
 |_,_=>false
theorem yOK{A:Around}{s:Shared}{y x:V}{u v:Value}(ry:RelV y u)(rx:RelV x v)(fy:wY y=true)(fx:wY x=true):SeqAt.EqAt A s u v (eqV y x):=by
 cases y with
 |non=>
  cases ry
  cases x with
  |non=>cases rx;exact SeqAt.EqAt.same _
  |bl b=>cases rx;exact SeqAt.EqAt.none_bool b
  |int b=>obtain⟨t,rfl⟩:=rx;exact SeqAt.EqAt.none_int b t
  |str b=>obtain⟨t,rfl⟩:=rx;exact SeqAt.EqAt.none_str b t
  |_=>exact absurd (show false=true from fx) xF0
 |bl a=>
  cases ry
  cases x with
  |non=>cases rx;exact SeqAt.EqAt.bool_none a
  |bl b=>cases rx;exact SeqAt.EqAt.bool_bool a b
  |int b=>obtain⟨t,rfl⟩:=rx;exact SeqAt.EqAt.bool_int a b t
  |str b=>obtain⟨t,rfl⟩:=rx;exact SeqAt.EqAt.bool_str a b t
  |_=>exact absurd (show false=true from fx) xF0
 |int a=>
  obtain⟨t',rfl⟩:=ry
  cases x with
  |non=>cases rx;exact SeqAt.EqAt.int_none a t'
  |bl b=>cases rx;exact SeqAt.EqAt.int_bool a t' b
  |int b=>obtain⟨t,rfl⟩:=rx;exact SeqAt.EqAt.int_int a t' b t
  |str b=>obtain⟨t,rfl⟩:=rx;exact SeqAt.EqAt.int_str a t' b t
  |_=>exact absurd (show false=true from fx) xF0
 |str a=>
  obtain⟨t',rfl⟩:=ry
  cases x with
  |non=>cases rx;exact SeqAt.EqAt.str_none a t'
  |bl b=>cases rx;exact SeqAt.EqAt.str_bool a t' b
  |int b=>obtain⟨t,rfl⟩:=rx;exact SeqAt.EqAt.str_int a t' b t
  |str b=>obtain⟨t,rfl⟩:=rx;exact SeqAt.EqAt.str_str a t' b t
  |_=>exact absurd (show false=true from fx) xF0
 |_=>exact absurd (show false=true from fy) xF0
theorem zRP:CallR X (.builtin "len") (λxs H Q=> ∃p ys,xs=[.ref p]/\(SqL X.K H p ys\/SqT X.K H p ys)/\Q (.int ys.length) H):=by
 intro pins s σ H xs us Q I r h
 obtain⟨p,ys,rfl,hq,q⟩:=h
 obtain⟨u,rfl,rx⟩:=vals1 r
 cases rx
 have hn:=zHU
 rcases hq with hq|hq
 ·obtain⟨its,r',pl,hz⟩:=I.list hq
  have hlen:=r'.length
  exact Calls.call_len_list pl.isList (by simp only [sA0]<;>omega) ⟨.int ys.length,H,I.tok _,⟨s.toks+1,by rw [sA0,hlen]⟩,q⟩
 ·obtain⟨its,r',pl,hz⟩:=I.tuple hq
  have hlen:=r'.length
  exact len_tuple pl (by simp only [sA0]<;>omega) ⟨.int ys.length,H,I.tok _,⟨s.toks+1,by rw [sA0,hlen]⟩,q⟩
theorem zRQ:CallR X (.builtin "len") (λxs H Q=> ∃z,xs=[.str z]/\z.length<=sizeLine/\Q (.int z.length) H):=by
 intro pins s σ H xs us Q I r h
 obtain⟨z,rfl,hz,q⟩:=h
 obtain⟨u,rfl,t,rfl⟩:=vals1 r
 have hn:=zHU
 exact len_str (by omega) ⟨.int z.length,H,I.tok _,⟨_,rfl⟩,q⟩
theorem CallR.or{f:Value}{r r':List V->Hp->VK->Prop}(h:CallR X f r)(h':CallR X f r'):CallR X f (λxs H Q=>r xs H Q\/r' xs H Q):=by
 intro pins s σ H xs us Q I rs q
 rcases q with q|q
 ·exact h pins s σ H xs us Q I rs q
 ·exact h' pins s σ H xs us Q I rs q
theorem wA:CallR X (.type "tuple") (λxs H Q=> ∃p ys,xs=[.ref p]/\((SqL X.K H p ys/\ ∀l,H l=none->Q (.ref l) (upd H l (.tup ys)))\/(SqT X.K H p ys/\Q (.ref p) H))):=by
 intro pins s σ H xs us Q I r h
 obtain⟨p,ys,rfl,h⟩:=h
 obtain⟨u,rfl,rx⟩:=vals1 r
 cases rx
 rcases h with⟨hq,q⟩|⟨hq,q⟩
 ·obtain⟨its,r',pl,hz⟩:=I.list hq
  have hlen:=r'.length
  refine call_tuple_list pl.isList (λh' kp=>?_) (by simp only [sA0]<;>omega)
  have I1:Inv X pins σ H {s with heap:=h'}:=I.kept (t':=s.toks) kp
  have I2:Inv X pins σ (upd H h'.objs.size (.tup ys)) {s with heap:=h'.push {cls:=.type "tuple",data:=.seq its.toArray}}:=
   I1.laid (t':=s.toks) (λb o e=>hP0 _ e) (le_refl _) (show ObjOk X.prog X.w _ _ _ (.tup ys)from⟨hz,its,r',IsTup.new _ _⟩)
  exact⟨.ref h'.objs.size,_,I2,rfl,q _ (I1.hok.fresh (le_refl _))⟩
 ·obtain⟨its,r',pl,hz⟩:=I.tuple hq
  exact call_tuple_same pl ⟨.ref p,H,I,rfl,q⟩
def tyV(K:PySem.W.Frag)(T:String)(x:V)(H:Hp):Prop:=match x with
 |.str _=>T="str"
 |.int _=>T="int"
 |.ref p=>(T="list"/\ ∃xs,SqL K H p xs)\/(T="tuple"/\ ∃o,K.lookup p=some o/\o.cls=.type "tuple"/\o.dict=none)\/
   (T="dict"/\((∃kvs,H p=some (.dK kvs))\/ ∃kvs,H p=some (.dT kvs)))\/(T="set"/\ ∃S n,H p=some (.set S n))
 |_=>False
theorem yDV{pins:List (Addr×Obj)}{σ:St}{H:Hp}{s:Shared}{T:String}{x:V}{v:Value}(I:Inv X pins σ H s)(r:RelV x v)(ty:tyV X.K T x H):
  s.TypeIs v T/\ ∀a,v=.ref a-> ∃ob,s.heap.get? a=some ob/\ob.dict=none:=by
 cases x with
 |str z=>
  obtain⟨t,rfl⟩:=r
  cases (show T="str" from ty)
  exact⟨typeIs_str s z t,λ_ e=>nomatch e⟩
 |int i=>
  obtain⟨t,rfl⟩:=r
  cases (show T="int" from ty)
  exact⟨typeIs_int s i t,λ_ e=>nomatch e⟩
 |ref p=>
  cases r
  rcases ty with⟨rfl,xs,hq⟩|⟨rfl,o,hk,hc,hd⟩|⟨rfl,hk⟩|⟨rfl,S,n,hk⟩
  ·obtain⟨its,_,pl,_⟩:=I.list hq
   refine⟨pl.isList.typeIs,λa e=>?_⟩
   cases e
   obtain⟨o,n,e,c,hd,_⟩:=pl
   exact⟨o,e,hd⟩
  ·refine⟨⟨o,I.kIn p o hk,hc⟩,λa e=>?_⟩
   cases e
   exact⟨o,I.kIn _ o hk,hd⟩
  ·have z: ∃o,s.heap.get? p=some o/\o.ExactDict:=by
    rcases hk with⟨kvs,hk⟩|⟨kvs,hk⟩
    ·obtain⟨_,_,_,_,o,_,_,e,ex,_⟩:=I.hok p _ hk
     exact⟨o,e,ex⟩
    ·obtain⟨_,_,_,_,o,_,_,e,ex,_⟩:=I.hok p _ hk
     exact⟨o,e,ex⟩
   obtain⟨o,e,ex⟩:=z
   refine⟨⟨o,e,ex.1⟩,λa e2=>?_⟩
   cases e2
   exact⟨o,e,ex.2.1⟩
  ·obtain⟨o,_,_,_,e,ex,_⟩:=I.hok p _ hk
   refine⟨⟨o,e,ex.1⟩,λa e2=>?_⟩
   cases e2
   exact⟨o,e,ex.2.1⟩
 |_=>exact False.elim ty
def tBM0(K:PySem.W.Frag)(T:String)(r:V->List V->Hp->VK->Prop)(to:TE):TE:=λσ H Q=>to σ H λx H1=>tyV K T x H1/\r x [] H1 Q
def tBM(K:PySem.W.Frag)(T:String)(r:V->List V->Hp->VK->Prop)(to:TE)(t:TA):TE:=λσ H Q=>to σ H λx H1=>tyV K T x H1/\t σ H1 λxs H2=>r x xs H2 Q
variable{o e:Expr}{es:List Expr}{to:TE}{t:TA}{name:Str}{apos cpos:Pos}{T id:String}{r:V->List V->Hp->VK->Prop}
theorem yOL(pa:PlainAttrs T)(slot:Slot T name id)(hty:typeOf (.builtin id)=pure (.type "method_descriptor"))(hm:MtR X id r)(ho:PE X o to)
  (hbase:attributeBase o name X.env (eval o X.env)=eval o X.env:=by rfl) (hline:(apos.endLine==cpos.line)=true:=by rfl):PE X (.Call (.Attribute o name apos) [] [] cpos) (tBM0 X.K T r to):=by
 intro pins s σ H Q I h
 refine wpAny_Call_method0_late hbase hline (thn (ho pins s σ H _ I h) λv s1 ⟨x,H1,I1,r1,ty,q1⟩=>?_)
 obtain⟨h1,h2⟩:=yDV I1 r1 ty
 exact⟨T,id,pa,slot,hty,h1,h2,Calls.callWith_builtin rfl (PySem.evalArgs_none (hm pins s1 σ H1 x [] v [] Q I1 r1 .nil q1))⟩
theorem pe_bm(pa:PlainAttrs T)(slot:Slot T name id)(hty:typeOf (.builtin id)=pure (.type "method_descriptor"))(hm:MtR X id r)(ho:PE X o to)(ha:PA X (e::es) t)
  (hbase:attributeBase o name X.env (eval o X.env)=eval o X.env:=by rfl)
  (hfew:((backTo cpos (starEach (e::es) X.env)).all (λx=>!x.1)&&(backToKw cpos (keywordEach [] X.env)).all (λx=>x.1.isSome)
   &&decide ((e::es).length+([]:List Keyword).length+(if([]:List Keyword).isEmpty then 0 else 1)<30))=true:=by rfl)
  (hline:(apos.endLine==cpos.line)=true:=by rfl) (hs:starEach (e::es) X.env=(false,eval e X.env)::starEach es X.env:=by rfl) (hplain:(backTo cpos (starEach es X.env)).any (·.1)=false:=by rfl):
  PE X (.Call (.Attribute o name apos) (e::es) [] cpos) (tBM X.K T r to t):=by
 intro pins s σ H Q I h
 refine wpAny_Call_method_late hbase hfew hline rfl (thn (ho pins s σ H _ I h) λv s1 ⟨x,H1,I1,r1,ty,q1⟩=>?_)
 obtain⟨h1,h2⟩:=yDV I1 r1 ty
 refine⟨T,id,pa,slot,hty,h1,h2,?_⟩
 have hA:=ha cpos pins s1 σ H1 _ I1 q1
 rw [hs]at hA ⊢
 refine Calls.callWith_builtin (by show(false || (backTo cpos (starEach es X.env)).any (·.1))=false;rw [hplain]<;>rfl) (Calls.evalArgs_plain ?_)
 exact thn hA λus s2 ⟨vs,H2,I2,r2,q2⟩=>hm pins s2 σ H2 x vs v us Q I2 r1 r2 q2
end
def MtM(X:Cx)(id:String)(r:V->List V->Hp->VK->Prop):Prop:=
 ∀(pins:List (Addr×Obj))(s:Shared)(σ:St)(H:Hp)(x:V)(xs:List V)(v:Value)(us:List Value)(Q:VK),Inv X pins σ H s->RelV x v->Vals xs us->r x xs H Q->
  wpAny (model X.prog X.w) X.A (call (.builtin id) (v::us)) (EP X pins σ Q) X.xe s
theorem Vals.one: ∀{x:V}{us:List Value},Vals [x] us-> ∃u,us=[u]/\RelV x u
 |_,_,.cons r .nil=>⟨_,rfl,r⟩
theorem Vals.zero: ∀{us:List Value},Vals [] us->us=[]
 |_,.nil=>rfl
theorem Vals.eraseIdx: ∀{xs:List V}{us:List Value}(i:Nat),Vals xs us->Vals (xs.eraseIdx i) (us.eraseIdx i)
 |_,_,_,.nil=>.nil
 |_,_,0,.cons _ t=>t
 |_,_,i+1,.cons r t=>.cons r (Vals.eraseIdx i t)
theorem Vals.reverse{xs:List V}{us:List Value}(h:Vals xs us):Vals xs.reverse us.reverse:=by
 induction h with
 |nil=>exact .nil
 |cons r t ih=>rw [reverse_cons,reverse_cons];exact Vals.append ih (.cons r .nil)
theorem Vals.rep{xs:List V}{us:List Value}(h:Vals xs us): ∀k:Nat,Vals (List.replicate k xs).flatten (List.replicate k us).flatten
 |0=>.nil
 |k+1=>by
  rw [replicate_succ,replicate_succ,flatten_cons,flatten_cons]
  exact Vals.append h (Vals.rep h k)
theorem zPY{α:Type}: ∀(l:List α)(i:Nat),(l.eraseIdx i).length<=l.length
 |[],_=>le_refl _
 |_::_,0=>le_succ _
 |_::r,i+1=>Nat.succ_le_succ (zPY r i)
theorem foldl_rep(its:List Value): ∀(k:Nat)(acc:List Value),
  List.foldl (λx1 x2=>x1++x2) acc.toArray (List.replicate k its.toArray)=(acc++(List.replicate k its).flatten).toArray
 |0,acc=>by simp
 |k+1,acc=>by
  have e:acc.toArray++its.toArray=(acc++its).toArray:=by simp
  have e2:(acc++its)++(List.replicate k its).flatten=acc++(List.replicate (k+1) its).flatten:=by
   rw [replicate_succ,flatten_cons,aA]
  rw [<-e2, <-foldl_rep its k (acc++its), <-e,replicate_succ,foldl_cons]
section
variable{X:Cx}{pins:List (Addr×Obj)}{σ:St}{H:Hp}{s:Shared}{l b:Addr}{xs ys zs:List V}
theorem Inv.lset{its its':List Value}{n:Nat}{f:Array Value->Array Value}{t':Nat}(I:Inv X pins σ H s)(hH:H l=some (.lst xs))
  (e:s.heap.get? l=some {cls:=.type "list",data:=.seq its.toArray n}) (hf:f its.toArray=its'.toArray) (hv:Vals ys its') (hz:ys.length<=sizeLine):
  Inv X pins σ (upd H l (.lst ys)) {s with heap:=s.heap.update l (Obj.mapSeq f),toks:=t'}:=by
 have q:=PySem.IsL.update e f
 rw [hf]at q
 refine I.write (x:=l) (e:=l) (by rw [hH];exact trivial) (.inl rfl) (λb' u hb hu=>(Heap.get?_update_other s.heap (Obj.mapSeq f) (Ne.symm hb)).trans hu) ⟨_,q⟩ ?_
 exact⟨hz,its',_,hv,q⟩
theorem Inv.lnew{its:List Value}{t':Nat}(I:Inv X pins σ H s)(hv:Vals ys its)(hz:ys.length<=sizeLine):
  Inv X pins σ (upd H s.heap.objs.size (.lst ys)) {s with heap:=s.heap.push {cls:=.type "list",data:=.seq its.toArray},toks:=t'}:=
 I.laid (λ_ _ q=>hP0 _ q) (le_refl _) ⟨hz,its,0,hv,Heap.get?_push_size _ rfl⟩
theorem Inv.fresh(I:Inv X pins σ H s):H s.heap.objs.size=none:=I.hok.fresh (le_refl _)
theorem Inv.lstM(I:Inv X pins σ H s)(hH:H l=some (.lst xs)):xs.length<=sizeLine/\ ∃(its:List Value)(n:Nat),Vals xs its/\xs.length=its.length/\s.heap.get? l=some {cls:=.type "list",data:=.seq its.toArray n}:=by
 obtain⟨z,its,n,r,e⟩:=I.hok l _ hH
 exact⟨z,its,n,r,r.length,e⟩
theorem zUE{n:Nat}(h:n<=sizeLine):Builtin.List.listTooLong n=false:=by
 unfold Builtin.List.listTooLong
 exact dF0 (by omega)
end
section
variable{X:Cx}
def zYT:V->List V->Hp->VK->Prop:=λx vs H Q=> ∃l xs y,x=.ref l/\vs=[y]/\H l=some (.lst xs)/\xs.length<sizeLine/\Q .non (upd H l (.lst (xs++[y])))
theorem yBV:MtM X "list.append" zYT:=by
 intro pins s σ H x vs v us Q I rx rv h
 obtain⟨l,xs,y,rfl,rfl,hH,hz,q⟩:=h
 cases rx
 obtain⟨u,rfl,ru⟩:=rv.one
 obtain⟨z,its,n,r,hl,e⟩:=I.lstM hH
 refine call_meets F.slot_list_append ⟨_,e,rfl⟩ F.entry_list_append (F.args_list_append_2 _ _) (PySem.list_append l its.toArray n u (by rw [sA0];omega)) ⟨e,?_⟩
 refine⟨.non,_,I.lset (its':=its++[u]) hH e (by simp) (r.append (.cons ru .nil)) ?_,rfl,q⟩
 rw [lA,lS]
 omega
def zYU:V->List V->Hp->VK->Prop:=λx vs H Q=> ∃l b xs zs,x=.ref l/\vs=[.ref b]/\H l=some (.lst xs)/\H b=some (.lst zs)/\xs.length+zs.length<=sizeLine/\Q .non (upd H l (.lst (xs++zs)))
theorem yBW:MtM X "list.extend" zYU:=by
 intro pins s σ H x vs v us Q I rx rv h
 obtain⟨l,b,xs,zs,rfl,rfl,hH,hB,hz,q⟩:=h
 cases rx
 obtain⟨u,rfl,ru⟩:=rv.one
 cases ru
 obtain⟨z,its,n,r,hl,e⟩:=I.lstM hH
 obtain⟨z2,its2,n2,r2,hl2,e2⟩:=I.lstM hB
 have hsz:its.toArray.size+its2.toArray.size<=sizeLine:=by rw [sA0,sA0];omega
 have hlong: ¬(!its.toArray.isEmpty&&Builtin.List.listTooLong (its.toArray.size+its2.toArray.size))=true:=by
  rw [zUE hsz,Bool.and_false]
  exact xF0
 refine call_meets F.slot_list_extend ⟨_,e,rfl⟩ F.entry_list_extend (F.args_list_extend_2 _ _)
  (AutoSeq1.list_extend_list_list_0 l its.toArray n b its2.toArray n2 hlong (by rw [sA0];omega) (by omega)) ⟨e,e2,?_⟩
 refine⟨.non,_,I.lset (its':=its++its2) hH e (by simp) (r.append r2) ?_,rfl,q⟩
 rw [lA]
 omega
def zUF:V->List V->Hp->VK->Prop:=λx vs H Q=> ∃l xs,x=.ref l/\vs=[]/\H l=some (.lst xs)/\Q .non (upd H l (.lst xs.reverse))
theorem zXG:MtM X "list.reverse" zUF:=by
 intro pins s σ H x vs v us Q I rx rv h
 obtain⟨l,xs,rfl,rfl,hH,q⟩:=h
 cases rx
 have hus:=rv.zero
 subst hus
 obtain⟨z,its,n,r,hl,e⟩:=I.lstM hH
 refine call_meets F.slot_list_reverse ⟨_,e,rfl⟩ F.entry_list_reverse (F.args_list_reverse_1 _) (AutoSeq1.list_reverse_list_0 l its.toArray n (by rw [sA0];omega)) ⟨e,?_⟩
 refine⟨.non,_,I.lset (its':=its.reverse) hH e (by simp) r.reverse ?_,rfl,q⟩
 rw [length_reverse]
 omega
def rCat:R2:=λx y H Q=> ∃l b xs zs,x=.ref l/\y=.ref b/\H l=some (.lst xs)/\H b=some (.lst zs)/\xs.length+zs.length<=sizeLine/\ ∀p,H p=none->Q (.ref p) (upd H p (.lst (xs++zs)))
theorem yOM:OpR X (binaryOp .Add) rCat:=by
 intro pins s σ H x y v u Q I rx ry h
 obtain⟨l,b,xs,zs,rfl,rfl,hH,hB,hz,q⟩:=h
 cases rx
 cases ry
 obtain⟨z,its,n,r,hl,e⟩:=I.lstM hH
 obtain⟨z2,its2,n2,r2,hl2,e2⟩:=I.lstM hB
 refine PySem.P.add_list e e2 ?_ (by rw [sA0,sA0];omega)
 have ea:its.toArray++its2.toArray=(its++its2).toArray:=by simp
 rw [ea]
 exact⟨.ref _,_,I.lnew (t':=s.toks) (r.append r2) (by rw [lA];omega),rfl,q _ I.fresh⟩
def rRep:R2:=λx y H Q=> ∃l k xs,x=.ref l/\y=.int k/\H l=some (.lst xs)/\ -(2 ^ 63)<=k/\k<2 ^ 63/\xs.length * k.toNat<=sizeLine/\
 ∀p,H p=none->Q (.ref p) (upd H p (.lst (List.replicate k.toNat xs).flatten))
theorem len_rep{α:Type}(xs:List α)(k:Nat):(List.replicate k xs).flatten.length=k * xs.length:=by
 induction k with
 |zero=>simp
 |succ k ih=>rw [replicate_succ,flatten_cons,lA,ih,Nat.succ_mul,Nat.add_comm]
theorem yON:OpR X (binaryOp .Mult) rRep:=by
 intro pins s σ H x y v u Q I rx ry h
 obtain⟨l,k,xs,rfl,rfl,hH,h1,h2,hz,q⟩:=h
 cases rx
 obtain⟨t,rfl⟩:=ry
 obtain⟨z,its,n,r,hl,e⟩:=I.lstM hH
 have hlen:its.toArray.size * k.toNat<=sizeLine:=by rw [sA0, <-hl];exact hz
 have hcap: ¬its.toArray.size * k.toNat>(2 ^ 63 - 1) / 8:=by
  have:(sizeLine:Nat)<=(2 ^ 63 - 1) / 8:=by decide
  omega
 have hfit: ¬(!Builtin.List.listFitsIndex k)=true:=by
  rw [fitsIndex_both h1 h2]
  exact xF0
 have hlong: ¬Builtin.List.listTooLong (its.toArray.size * k.toNat)=true:=by
  rw [zUE hlen]
  exact xF0
 have hnew:List.foldl (λx1 x2=>x1++x2) #[] (List.replicate (if its.toArray.isEmpty=true then 0 else k.toNat) its.toArray)=(List.replicate k.toNat its).flatten.toArray:=by
  have f0: ∀m:Nat,List.foldl (λx1 x2=>x1++x2) #[] (List.replicate m its.toArray)=(List.replicate m its).flatten.toArray:=λm=>by
   have:=foldl_rep its m []
   rw [nil_append]at this
   exact this
  rw [f0]
  cases its with
  |nil=>simp
  |cons a r'=>rw [iN (by simp)]
 refine wpAny_binaryOp_repeat_ref (T:="list") (U:="int") (by decide) ⟨_,e,rfl⟩ (λs'=>typeIs_int s' k t) noFill_list_mul F.fills_int_mul F.slot_int_rmul repeat_list F.slot_int_index.lookup
  (call_meets F.slot_int_rmul (typeIs_int s k t) F.entry_int_rmul (F.args_int_rmul_2 _ _) (int___rmul___int_list k t l its.toArray n)
   ⟨e,rfl,⟨_,e,rfl⟩,call_meets F.slot_list_mul ⟨_,e,rfl⟩ F.entry_list_mul (F.args_list_mul_2 _ _) (AutoListH.list___mul___list_int_3 l its.toArray n k t hfit hcap hlong) ⟨e,?_⟩⟩)
 rw [hnew]
 exact⟨.ref _,_,I.lnew (t':=s.toks) (r.rep k.toNat) (by rw [len_rep,Nat.mul_comm];exact hz),rfl,q _ I.fresh⟩
end
end L2
namespace Att
open PySem PySem.W PySem.Calls PyProof.Rows
theorem zLN{P:Params}{h:Heap}: ∀(ns:List Int)(vs:List Value),WellAll P h vs (ns.map WData.int)->IntsAre vs ns:=by
 intro ns
 induction ns with
 |nil=>
  intro vs w
  rw [map_nil]at w
  cases w
  exact .nil
 |cons n ns ih=>
  intro vs w
  rw [map_cons]at w
  cases w with
  |cons a b=>
   cases a
   exact .cons _ _ (ih _ b)
theorem yBX{l:OpenLaw}{n:Nat}(hn:l.most=some n){P:Params}{h:Heap}{args:List WData}{vals:List Value}
  (hpre:l.row.toRowW.claim.pre args=true) (hwl:WellAll P h vals args):
  ∃a vs ns,vals=[Value.ref a]/\args=[WData.list (ns.map WData.int)]/\h.get? a=some {cls:=.type "list",data:=.seq vs.toArray}/\IntsAre vs ns/\ns.length<=n:=by
 have hsh:WShape.hasAll [] args [.list .int]=true:=(pre_splitW hpre).1
 have hc:l.pre.holds [] {args:=args}=true:=(pre_splitW hpre).2
 obtain⟨d,r,rfl,h1,h2⟩:=hasAllW_cons hsh
 obtain rfl:=hasAllW_nil h2
 obtain⟨xs,rfl,h3⟩:=hasW_list h1
 obtain⟨ns,rfl⟩:=items_int h3
 have hlen:ns.length<=n:=by
  unfold OpenLaw.pre at hc
  have h4:(WTm.not (.lt (.lit (.int (n:Int))) (.len (.arg 0)))).holds [] {args:=[.list (ns.map .int)]}=true:=by
   have h4:=(holds_andW hc).1
   rw [hn]at h4
   exact h4
  have h5:=condW_of h4 (w_not (w_lt w_lit (w_len_list (w_arg rfl))))
  rw [lM]at h5
  refine Nat.le_of_not_lt λq=>?_
  have q':(n:Int)<((ns.length:Nat):Int):=by omega
  first
   |(rw [dT0 q']at h5;exact absurd h5 (by decide))
   |(simp at h5;omega)
 cases hwl with
 |cons w1 w2=>
  cases w2
  cases w1 with
  |list ho hall=>exact⟨_,_,ns,rfl,rfl,ho,zLN ns _ hall,hlen⟩
theorem yBY(l:OpenLaw)(args:List WData):l.row.toRowW.claim.post args (.bool true) args=true:=
 postW_of (r:=l.row.toRowW) (X:=(true==true))
  (show WShape.has [] (.bool true) .bool=true by first |rfl|decide|simp [WShape.has,WShape.arms,WShape.armsAll])
  (show(WTm.eq .res (.lit (.bool true))).value [] {args:=args,res:=some (.bool true),after:=args}=some (.bool (true==true))from w_eq_bool (w_res rfl) w_lit) rfl
theorem attach_call{l:OpenLaw}{n:Nat}{q:Program}{loose:List Str}{XP:(Str->Option Value)->Heap->Prop}{YP:World->Heap->Prop}{d:DefRec}
  (hn:l.most=some n) (hdf:d.params.defaults=[])
  (call: ∀(w:World)(s₀ s₁:Shared)(mg mb:Str->Option Value)(fa:Addr)(o:Obj)(pm cd doc:Value)(a:Addr)(vs:List Value)(ns:List Int),
   Ground q loose [] XP w s₀ mg mb s₁.heap->YP w s₁.heap->
   s₁.heap.get? fa=some o->o.data=.func (docDef d.name d.params d.body d.scope pm cd doc)->s₁.heap.CodeRec cd d.name->mg d.name=some (.ref fa)->
   s₁.heap.get? a=some {cls:=.type "list",data:=.seq vs.toArray}->IntsAre vs ns->ns.length<=n->s₁.gens=#[]->
   codeAny (model l.prog w) callerA (.call (.ref fa) ⟨[.ref a],[]⟩) (λr s'=>r=.ok (.ret (.bool true))/\OldK s₁.heap s'.heap/\s'.os=s₁.os/\AllBare s'.gens) s₁):
  WalkO q loose XP YP l.row.toRowW d [] (λf vs=>PySem.call f vs):=by
 intro w s₀ s₁ mg mb G Y fa o pm cd doc dV kV ho hd hcd hD hmg hg args vals as hpre hlay hrd hwl hlo
 obtain rfl:dV=.none:=Dflts.none hD hdf
 obtain rfl:kV=.none:=Dflts.noKw hD
 obtain⟨a,vs,ns,rfl,rfl,hobj,hints,hlen⟩:=yBX hn hpre hwl
 refine enter_call (codeAny_mono (call w s₀ s₁ mg mb fa o pm cd doc a vs ns G Y ho (fd_plain hd) hcd hmg hobj hints hlen hg) λr s' hq=>?_)
 obtain⟨rfl,h2,h3,h4⟩:=hq
 exact⟨.inl ⟨.bool true,.bool true,[],rfl,λ_=>rfl,.bool true,yBY l _,λ_=>⟨List.Pairwise.nil,λ_ hm=>(nomatch hm)⟩⟩,h2,h3,h4⟩
end Att
namespace L2
open PySem PySem.Spec PyProof.Rows
theorem zPZ: ∀{vs:List Value}{ns:List Int},IntsAre vs ns->Vals (ns.map V.int) vs
 |_,_,.nil=>.nil
 |_,_,.cons n t h=>.cons ⟨t,rfl⟩ (zPZ h)
def yDW(H:Hp):Prop:= ∀b,H b=none\/ ∃o xs,H b=some (.frz o (.lst xs))
theorem yDX{P:Program}{w:World}{K:PySem.W.Frag}{mg mb:Str->Option Value}{CX:CXT}{k:Nat}{fa a:Addr}{fd:FuncData}{x:Str}{sp:Sp}{s₁:Shared}{vs:List Value}{ns:List Int}
  (KX:K.In s₁.heap) (hns:s₁.heap.Ns mainGlobals mg) (hb:s₁.heap.Ns builtinsNs mb) (hbb: ∀x:Str,x≠"__name__"->mb x=bootBuiltins x) (hlim:s₁.heap.NoLimit) (hg:s₁.gens=#[])
  (ha:s₁.heap.get? a=some {cls:=.type "list",data:=.seq vs.toArray}) (hi:IntsAre vs ns) (hl:ns.length<=sizeLine) (hr:Room k callerA)
  (F: ∀base:Heap,K.In base->base.Ns mainGlobals mg->FnOk P w K mg base CX k fa fd [x] sp) (hbind: ∀(s:Shared)(u:Value),BindsTo s fd ⟨[u],[]⟩ [(x,u)])
  (hsp: ∀H:Hp,yDW H->SqL K H a (ns.map V.int)->sp [.ref a] H (λv _=>v=.bl true) λ_ _ _=>False)
  (hCX: ∀H e s',CX [] H s₁ (λ_ _ _=>False) e s'->False):
  codeAny (model P w) callerA (.call (.ref fa) ⟨[.ref a],[]⟩) (λr s'=>r=.ok (.ret (.bool true))/\OldK s₁.heap s'.heap/\s'.os=s₁.os/\AllBare s'.gens) s₁:=by
 have rv:=zPZ hi
 have lenV:=hi.length
 have core: ∀H:Hp,yDW H->SqL K H a (ns.map V.int)->HOk P w H s₁.heap->(∀b,H b≠none->b=a)->(H a≠none->K.lookup a=none)->
   codeAny (model P w) callerA (.call (.ref fa) ⟨[.ref a],[]⟩) (λr s'=>r=.ok (.ret (.bool true))/\OldK s₁.heap s'.heap/\s'.os=s₁.os/\AllBare s'.gens) s₁:=by
  intro H hO hS hok hA hK
  have base_of: ∀{b:Addr}{o:Obj},s₁.heap.get? b=some o->H b=none->(zRJ s₁.heap H).get? b=some o:=λe n=>yDH e n
  have noA: ∀{b:Addr}{o:Obj}{es:Array DictEntry}{ep:Nat},s₁.heap.get? b=some o->o.data=.dict es ep->H b=none:=λ{b o es ep} e d=>by
   cases q:H b with
   |none=>rfl
   |some u=>
    have e':b=a:=hA b (by rw [q];simp)
    subst e'
    rw [ha]at e;cases e
    have d':Data.seq vs.toArray _=Data.dict es ep:=d
    cases d'
  have nsK: ∀{b:Addr}{m:Str->Option Value},s₁.heap.Ns b m->(zRJ s₁.heap H).Ns b m:=λ{b m} ⟨o,es,ep,e,d,r⟩=>⟨o,es,ep,base_of e (noA e d),d,r⟩
  have hKb:K.In (zRJ s₁.heap H):=λb o e=>base_of (KX b o e) (by
   cases q:H b with
   |none=>rfl
   |some u=>
    have e':b=a:=hA b (by rw [q];simp)
    subst e'
    rw [hK (by rw [q];simp)]at e;cases e)
  have hM:Mod K mg (zRJ s₁.heap H):=⟨hKb,nsK hns,⟨mb,nsK hb,hbb⟩,let ⟨mc,h1,h2⟩:=hlim;⟨mc,nsK h1,h2⟩⟩
  have e0:Env0 P w K mg (zRJ s₁.heap H) callerA [] s₁ H:=⟨rfl,hM,λb o e=>yIK e,Nat.le_of_eq (yBO _ _),trivial,λb hb=>absurd (show b∈([]:List Addr)from hb) (by simp),hok,.of_eq hg⟩
  refine codeAny_mono ((F _ hKb (nsK hns)).run callerA [] s₁ H ⟨[.ref a],[]⟩ [.ref a] [.ref a] _ _ hr e0 (hbind s₁ (.ref a)) (.cons rfl .nil) (hsp H hO hS)) λr s' h=>?_
  cases r with
  |error e=>exact(hCX H e s' h).elim
  |ok fl=>
   cases fl with
   |next=>exact False.elim h
   |brk=>exact False.elim h
   |cont=>exact False.elim h
   |ret u=>
    obtain⟨v,H',os,bare,un,hok',r',q⟩:=h
    have q':v=.bl true:=q
    subst q'
    obtain rfl:u=Value.bool true:=r'
    refine⟨rfl,OldK.of_keep λb o e=>?_,os,bare⟩
    cases q:H b with
    |none=>exact un.keep b o e q (by intro z;exact absurd (show b∈([]:List Addr)from z) (by simp)) (by simp)
    |some u=>
     rcases hO b with z|⟨ob,xs,z⟩
     ·rw [q]at z;cases z
     ·have z2:=un.frzs b ob _ z
      obtain⟨e1,_⟩:=hok b _ z
      obtain⟨e2,_⟩:=hok' b _ z2
      rw [e]at e1;cases e1
      exact e2
 cases hk:K.lookup a with
 |some o=>
  have e:=KX a o hk
  rw [ha]at e
  cases e
  refine core (λ_=>none) (λ_=>.inl rfl) (.inr ⟨_,vs.toArray,_,hk,rfl,rfl,rfl,by rw [sA0,lenV];exact hl,by simpa using rv⟩) (λb u z=>by have z':(none:Option HO)=some u:=z;cases z') (λb z=>absurd rfl z) λz=>absurd rfl z
 |none=>
  refine core (λb=>if b=a then some (.frz {cls:=.type "list",data:=.seq vs.toArray} (.lst (ns.map V.int)))else none) (λb=>?_) (.inl (.inr ⟨{cls:=.type "list",data:=.seq vs.toArray},iP rfl⟩)) (λb u z=>?_) (λb z=>?_) λ_=>hk
  ·by_cases hb:b=a
   ·exact .inr ⟨_,_,iP hb⟩
   ·exact .inl (iN hb)
  ·by_cases hb:b=a
   ·have z':=(iP hb).symm.trans z
    cases z'
    subst hb
    exact⟨ha,by rw [lM];exact hl,vs,_,rv,ha⟩
   ·have z':=(iN hb).symm.trans z
    cases z'
  ·by_cases hb:b=a
   ·exact hb
   ·exact absurd (iN hb) z
theorem walk_of{l:PySem.W.OpenLaw}{n k:Nat}{q:Program}{loose:List Str}{XP:(Str->Option Value)->Heap->Prop}{YP:World->Heap->Prop}{d:DefRec}{K:Params->PySem.W.Frag}{CX:World->CXT}{sp:World->Sp}{x:Str}
  (hn:l.most=some n) (hn2:n<=sizeLine) (hdf:d.params.defaults=[]) (hr:Room k callerA)
  (hY: ∀(w:World)(h:Heap),YP w h->(K w.params).In h)
  (F: ∀(w:World)(mg:Str->Option Value)(fa:Addr)(h:Heap),(K w.params).In h->h.Ns mainGlobals mg->mg d.name=some (.ref fa)->
   ∃fd:FuncData,(∀(s:Shared)(u:Value),BindsTo s fd ⟨[u],[]⟩ [(x,u)])/\
    ∀base:Heap,(K w.params).In base->base.Ns mainGlobals mg->FnOk l.prog w (K w.params) mg base (CX w) k fa fd [x] (sp w))
  (hsp: ∀(w:World)(H:Hp)(a:Addr)(ns:List Int),ns.length<=n->yDW H->SqL (K w.params) H a (ns.map V.int)->sp w [.ref a] H (λv _=>v=.bl true) λ_ _ _=>False)
  (hCX: ∀(w:World)(H:Hp)(s:Shared)(e:Value)(s':Shared),CX w [] H s (λ_ _ _=>False) e s'->False):
  PySem.W.WalkO q loose XP YP l.row.toRowW d [] (λf vs=>PySem.call f vs):=by
 refine Att.attach_call hn hdf λw s₀ s₁ mg mb fa o pm cd doc a vs ns G Y ho hd hcd hmg hobj hints hlen hg=>?_
 have KX:=hY w _ Y
 obtain⟨fd,hb,hF⟩:=F w mg fa _ KX G.T.g hmg
 exact yDX KX G.T.g G.T.b G.T.builtins G.T.nolimit hg hobj hints (le_trans hlen hn2) hr hF hb (λH hO hS=>hsp w H a ns hlen hO hS) λH e s'=>hCX w H s₁ e s'
def zEK(s:Stmt):Arguments:=match s with
 |.FunctionDef _ a _ _ _ _ _ _ _ _=>a
 |_=>{posonlyargs:=[],args:=[],vararg:=none,kwonlyargs:=[],kw_defaults:=[],kwarg:=none,defaults:=[]}
def zAS(s:Stmt):List Stmt:=match s with
 |.FunctionDef _ _ b _ _ _ _ _ _ _=>b
 |_=>[]
def zH(s:Stmt):Scope:=match s with
 |.FunctionDef _ _ _ _ _ _ sc _ _ _=>sc
 |_=>{kind:=.function,names:=[],isGenerator:=false,isCoroutine:=false}
abbrev CX0:CXT:=λ_ _ _ _ _ _=>False
abbrev E0:XK:=λ_ _ _=>False
theorem pass0{X:Cx}:zXB CX0 X E0:=λ_ _ _ _ _ _ _ h=>h.elim
structure Fun(K:PySem.W.Frag)(x qual:Str)(st:Stmt)(f:Addr)(fd:FuncData):Prop where
 ex: ∃(oc:Value)(od:Option Addr)(kV doc pm:Value)(an:Option Addr)(cdv ct:Value)(osl:Array (Option Value)),
  fd=PySem.W.fnOf x qual (zEK st) (zAS st) (zH st) .none kV doc pm an cdv ct/\K.lookup f=some ⟨oc,od,.func fd,osl⟩/\PySem.W.codeIn K cdv qual=true
 kp:PySem.W.keepIn K (.ref f)=true
section
variable{P:Program}{w:World}{K:PySem.W.Frag}{mg:Str->Option Value}{base:Heap}
theorem Fun.ok{x qual:Str}{st:Stmt}{f:Addr}{fd:FuncData}{N ps:List Str}{k:Nat}{sp:Sp}(F:Fun K x qual st f fd)(S:FnScope N ps (zH st))(len: ∀vs H Q E,sp vs H Q E->vs.length=ps.length)
  (hbody: ∀(cdv:Value)(A:Around)(outer:List Env)(s:Shared)(H:Hp)(vs:List V)(Q:VK)(E:XK),Room k (A.deeper (envOfC qual (zH st) s.heap.objs.size f cdv))->sp vs H Q E->
   ∃t,PSs (zXC CX0 P w K mg base N qual (zH st) f cdv A outer s H E).nox (zAS st) t/\t {nx:=λ_ H'=>Q .non H',rt:=Q} (start N vs) H):FnOk P w K mg base CX0 (k+1) f fd ps sp:=by
 obtain⟨oc,od,kV,doc,pm,an,cdv,ct,osl,rfl,lk,hcd⟩:=F.ex
 refine fn_of lk hcd S len λA outer s H vs Q E hr hsp=>?_
 obtain⟨t,h,q⟩:=hbody cdv A outer s H vs Q E hr hsp
 exact⟨t,h.nox,q⟩
theorem Fun.binds{x qual:Str}{st:Stmt}{f:Addr}{fd:FuncData}{ps:List Str}(F:Fun K x qual st f fd)
  (h: ∀(kV doc pm:Value)(an:Option Addr)(cdv ct:Value)(us:List Value),us.length=ps.length->bindArgs (PySem.W.fnOf x qual (zEK st) (zAS st) (zH st) .none kV doc pm an cdv ct) ⟨us,[]⟩=pure (ps.zip us)):Binds K fd ps []:=by
 obtain⟨oc,od,kV,doc,pm,an,cdv,ct,osl,rfl,lk,hcd⟩:=F.ex
 exact .all (h kV doc pm an cdv ct)
theorem yOO{x qual:Str}{st:Stmt}{f:Addr}{oc:Value}{od an:Option Addr}{osl:Array (Option Value)}{kV doc pm cdv ct:Value}(l:K.lookup f=some ⟨oc,od,.func (PySem.W.fnOf x qual (zEK st) (zAS st) (zH st) .none kV doc pm an cdv ct),osl⟩)
  (c:PySem.W.codeIn K cdv qual=true) (k:PySem.W.keepIn K (.ref f)=true):Fun K x qual st f (PySem.W.fnOf x qual (zEK st) (zAS st) (zH st) .none kV doc pm an cdv ct):=⟨⟨oc,od,kV,doc,pm,an,cdv,ct,osl,rfl,l,c⟩,k⟩
end
section
variable{X:Cx}
theorem pv(i:Nat){x:Str}{pos:Pos}(hN:X.N[i]? =some x:=by rfl)(hv:Vis X.env.scope x:=by first |exact Or.inl rfl|exact Or.inr (Or.inl rfl)|exact Or.inr (Or.inr rfl))(hd:(x==("__debug__":Str))=false:=by decide)
  (hcd:(x==("__classdict__":Str))=false:=by decide):PE X (.Name x pos) (tVar i):=yNN hN hv hd hcd
end
end L2
set_option maxHeartbeats 4000000
namespace L2
open PySem PySem.Spec PyProof.Rows
def zFG(env:Env)(l:List (Str×NameKind))(cs:List (Str×Addr)):List (Str×Addr):=
 l.foldl (λc y=>if y.2==.free then(y.1,(env.cells.lookup y.1).getD 0)::c else c) cs
theorem zRR{α β:Type}{l:List α}{f:α->β->Sem (ForInStep β)}{g:β->α->β}: ∀(c:β),(∀x∈l, ∀c,f x c=pure (.yield (g c x)))->
  forIn l c f=pure (l.foldl g c):=by
 induction l with
 |nil=>intro c _;rfl
 |cons x l ih=>
  intro c h
  rw [forIn_cons,h x mF0,pure_bind]
  exact ih _ λy hy=>h y (mO _ hy)
theorem zPC{scope:Scope}{env:Env}(h: ∀y∈scope.names,y.2=.free-> ∃c,env.cells.lookup y.1=some c):closureFor scope env=pure (zFG env scope.names []):=by
 unfold closureFor zFG
 dsimp only
 rw [zRR (g:=λc y=>if y.2==.free then(y.1,(env.cells.lookup y.1).getD 0)::c else c) [] ?_]
 ·rfl
 ·intro y hy c
  obtain⟨n,k⟩:=y
  by_cases hk:k=.free
  ·subst hk
   obtain⟨a,ha⟩:=h _ hy rfl
   have ha':env.cells.lookup n=some a:=ha
   simp [cellOf,ha']
  ·have e:(k==NameKind.free)=false:=by simpa using hk
   simp [e]
theorem zLB{env:Env}: ∀(l:List (Str×NameKind))(cs:List (Str×Addr)),(∀y∈l,y.2=.free-> ∃c,env.cells.lookup y.1=some c)->(∀p∈cs,env.cells.lookup p.1=some p.2)->
  ∀p∈zFG env l cs,env.cells.lookup p.1=some p.2
 |[],_,_,h=>h
 |(n,k)::l,cs,hl,h=>by
  refine zLB l _ (λy hy=>hl y (mO _ hy)) λp hp=>?_
  by_cases hk:k=.free
  ·subst hk
   obtain⟨c,hc⟩:=hl _ mF0 rfl
   have hc':env.cells.lookup n=some c:=hc
   have hp':p∈(n,(env.cells.lookup n).getD 0)::cs:=hp
   rcases mC.mp hp' with rfl|hp
   ·show env.cells.lookup n=some ((env.cells.lookup n).getD 0)
    rw [hc'];rfl
   ·exact h p hp
  ·have hp':p∈(if(k==NameKind.free)=true then(n,(env.cells.lookup n).getD 0)::cs else cs):=hp
   rw [iN (by simpa using hk)]at hp'
   exact h p hp'
theorem zMR{env:Env}: ∀(l:List (Str×NameKind))(cs:List (Str×Addr))(p:Str×Addr),p∈cs->p∈zFG env l cs
 |[],_,_,h=>h
 |(n,k)::l,cs,p,h=>by
  refine zMR l _ p ?_
  show p∈(if(k==.free)=true then(n,(env.cells.lookup n).getD 0)::cs else cs)
  split
  ·exact mO _ h
  ·exact h
theorem zFQ{env:Env}: ∀(l:List (Str×NameKind))(cs:List (Str×Addr))(n:Str),(n,NameKind.free)∈l-> ∃c,(n,c)∈zFG env l cs
 |[],_,_,h=>nomatch h
 |(m,k)::l,cs,n,h=>by
  rcases mC.mp h with e|h
  ·have e1:n=m:=congrArg Prod.fst e
   have e2:NameKind.free=k:=congrArg Prod.snd e
   subst e1 e2
   exact⟨(env.cells.lookup n).getD 0,zMR l _ _ mF0⟩
  ·exact zFQ l _ n h
theorem jY{β:Type}: ∀{l:List (Str×β)}{n:Str},(∃c,(n,c)∈l)-> ∃c,l.lookup n=some c
 |[],_,h=>let ⟨_,z⟩:=h;nomatch z
 |(m,b)::l,n,h=>by
  by_cases e:n=m
  ·subst e
   exact⟨b,by simp [lookup_cons]⟩
  ·obtain⟨c,hc⟩:=h
   rcases mC.mp hc with z|z
   ·cases z;exact absurd rfl e
   ·obtain⟨c',h'⟩:=jY ⟨c,z⟩
    refine⟨c',?_⟩
    have e':(n==m)=false:=by simpa using e
    simp [lookup_cons,e',h']
def zXH(scope osc:Scope):List (Str×NameKind):=scope.names.map λ(n,k)=>if(k==.free&&osc.kind==.function&&osc.names.lookup n==some .cell)then(n,.cell)else(n,k)
def zLC(osc:Scope)(N:List Str)(sc:Scope)(idx:List Nat):Bool:=
 decide (sc.kind=.function)&&sc.names.all (λy=>decide (sc.names.lookup y.1=some y.2))&&
 sc.names.all (λy=>decide (y.2≠.free) || decide (osc.names.lookup y.1=some .cell) || decide (osc.names.lookup y.1=some .free))&&
 idx.all (λi=>match N[i]? with
  |some y=>(decide (osc.names.lookup y=some .cell) || decide (osc.names.lookup y=some .free))&&decide (sc.names.lookup y=some .free)
  |none=>false)
def rlS(sc osc:Scope):Scope:={sc with names:=zXH sc osc}
abbrev clC(env:Env)(sc:Scope)(C:Addr):List (Str×Addr):=cellsFrom (C+1) sc.names (zFG env sc.names [])
theorem wF: ∀(l:List (Str×NameKind))(n:Nat)(acc:List (Str×Addr)),cellsFrom n l acc=cellsFrom n l []++acc
 |[],n,acc=>rfl
 |(x,k)::l,n,acc=>by
  unfold cellsFrom
  split
  ·rw [wF l (n+1) ((x,n)::acc),wF l (n+1) [(x,n)],aA];rfl
  ·exact wF l n acc
theorem zIJ: ∀(l:List (Str×NameKind))(n:Nat){x:Str}{c:Addr},(x,c)∈cellsFrom n l []->(x,NameKind.cell)∈l/\n<=c
 |[],n,x,c,h=>nomatch h
 |(y,k)::l,n,x,c,h=>by
  unfold cellsFrom at h
  split at h
  ·rename_i hk
   rw [wF]at h
   rcases mem_append.mp h with h|h
   ·obtain⟨h1,h2⟩:=zIJ l (n+1) h
    exact⟨mO _ h1,by omega⟩
   ·have e:=mS.mp h
    cases e
    have hk':k=.cell:=by simpa using hk
    subst hk'
    exact⟨mF0,le_refl _⟩
  ·obtain⟨h1,h2⟩:=zIJ l n h
   exact⟨mO _ h1,h2⟩
theorem zHV{l:List (Str×NameKind)}{C:Nat}{x:Str}{c:Addr}(h:(x,c)∈cellsFrom (C+1) l []){n:Nat}(hC:n<=C):n<c:=Nat.lt_of_le_of_lt hC (zIJ l (C+1) h).2
theorem zGW: ∀(l:List (Str×NameKind))(n:Nat){x:Str},(x,NameKind.cell)∈l-> ∃c,(x,c)∈cellsFrom n l []
 |[],n,x,h=>nomatch h
 |(y,k)::l,n,x,h=>by
  unfold cellsFrom
  rcases mC.mp h with e|h
  ·cases e
   rw [iP (by decide),wF]
   exact⟨n,mem_append_right _ mF0⟩
  ·split
   ·obtain⟨c,hc⟩:=zGW l (n+1) h
    rw [wF]
    exact⟨c,mem_append_left _ hc⟩
   ·exact zGW l n h
theorem own_apart: ∀(l:List (Str×NameKind))(n:Nat),(cellsFrom n l []).Pairwise λx y=>x.2≠y.2
 |[],n=>List.Pairwise.nil
 |(y,k)::l,n=>by
  unfold cellsFrom
  split
  ·rw [wF]
   refine pairwise_append.mpr ⟨own_apart l (n+1),List.pairwise_singleton _ _,λa ha b hb e=>?_⟩
   rw [mS.mp hb]at e
   have:=(zIJ l (n+1) (x:=a.1) (c:=a.2) ha).2
   exact ne_of_gt this e
  ·exact own_apart l n
theorem zEL{β:Type}(x:Str): ∀(l m:List (Str×β)),(l++m).lookup x=(l.lookup x).or (m.lookup x)
 |[],m=>rfl
 |(y,b)::l,m=>by
  rw [cons_append,lookup_cons,lookup_cons]
  cases x==y with
  |true=>rfl
  |false=>exact zEL x l m
theorem zQA{β:Type}{x:Str}: ∀{l:List (Str×β)},(∀c,(x,c)∉l)->l.lookup x=none
 |[],_=>rfl
 |(y,b)::l,h=>by
  rw [lookup_cons]
  cases e:x==y with
  |true=>rw [beq_iff_eq.mp e]at h;exact absurd mF0 (h b)
  |false=>exact zQA λc hc=>h c (mO _ hc)
theorem zBB{env:Env}{sc:Scope}{C:Addr}{x:Str}{c:Addr}(e:(clC env sc C).lookup x=some c):(x,c)∈cellsFrom (C+1) sc.names []\/(zFG env sc.names []).lookup x=some c:=by
 unfold clC at e
 rw [wF,zEL]at e
 cases z:(cellsFrom (C+1) sc.names []).lookup x with
 |some c'=>rw [z]at e;cases e;exact .inl (PySem.mem_of_lookup z)
 |none=>rw [z]at e;exact .inr e
theorem yOP{env:Env}{sc:Scope}{C:Addr}{x:Str}{c:Addr}(h:(x,NameKind.cell)∈sc.names)(e:(clC env sc C).lookup x=some c):(x,c)∈cellsFrom (C+1) sc.names []:=by
 unfold clC at e
 rw [wF,zEL]at e
 obtain⟨c',h'⟩:=jY (zGW sc.names (C+1) h)
 rw [h']at e
 cases e
 exact PySem.mem_of_lookup h'
theorem yJC{env:Env}{sc:Scope}{C:Addr}{x:Str}(h:(x,NameKind.cell)∉sc.names):(clC env sc C).lookup x=(zFG env sc.names []).lookup x:=by
 unfold clC
 rw [wF,zEL,zQA λc hc=>h (zIJ _ _ hc).1]
 rfl
def zJP(σ:St)(idx:List Nat):St:=idx.map λi=>(σ[i]?).join
theorem zCO(σ:St)(idx:List Nat):(zJP σ idx).length=idx.length:=by unfold zJP;rw [lM]
def yC(X:Cx)(sc:Scope)(T:List Str)(idx:List Nat)(C:Addr)(s₂:Shared)(H1:Hp)(fp:List Addr):Cx where
 prog:=X.prog
 w:=X.w
 K:=X.K
 mg:=X.mg
 base:=X.base
 A:=X.A
 N:=T++idx.map λi=>(X.N[i]?).getD Str.empty
 s₀:=s₂
 H₀:=H1
 env:=compEnvC sc (clC X.env sc C) C X.env
 outer:=X.stack
 stack:=X.stack
 ex:=fp
 fn:=λx=>sc.names.lookup x==some .cell
 calm:=X.calm
 pn:=[]
 xe:=λ_ _=>False
def yDY(wi:TI)(g:TG)(tc:Addr->Shared->Hp->List Addr->TT)(te:Addr->Shared->Hp->List Addr->TE)(nt:Nat)(idx:List Nat):TE:=λσ H Q=>wi σ H λJ H1=> ∃W:Nat->Nat->List V->Hp->Prop,(∃m,W 0 m [] H1)/\ ∀i m ys H2,W i m ys H2->ys.length<=sizeLine/\
 ((J.stop i H2/\ ∀D,H2 D=none->Q (.ref D) (upd H2 D (.lst ys)))\/
   (J.go i H2/\ys.length<sizeLine/\ ∀x H3,J.yld i H2 x H3-> ∀τ:St,τ.length=nt->g x (τ++zJP σ idx) H3 λσ4 H4=>(∃τ',σ4=τ'++zJP σ idx/\τ'.length=nt)/\
    ∀C s₂ fp,tc C s₂ H1 fp σ4 H4 λb H5=>if b=true then te C s₂ H1 fp σ4 H5 λy H6=> ∃m',m'<m/\W (i+1) m' (ys++[y]) H6 else∃m',m'<m/\W (i+1) m' ys H5))
section
variable{prog:Program}{w:World}{A:Around}{R:Result->Shared->Prop}{s:Shared}
theorem zRS{elt target iter:Expr}{ifs:List Expr}{scope:Scope}{pos:Pos}{it acc:Value}{env:Env}(I:Nat->Shared->Prop)
  (turn: ∀n s,I n s->wpAny (model prog w) A (pyNext it) (λr s₁=>match r with
   |none=>R (.ok .next) s₁
   |some v=>wpAny (model prog w) A (letOwnedTupleGo target it v) (λ_ s₁'=>wpAny (model prog w) A (assign target env v) (λ_ s₂=>
     wpAny (model prog w) A (forIn ifs true λc r=>if r=true then do let ok <-isTrue c env (eval c env);pure (ForInStep.yield ok)else pure (ForInStep.yield r)) (λok s₃=>
      if ok=true then wpAny (model prog w) A (eval elt env) (λx s₄=>
       wpAny (model prog w) A (call (.builtin "list.append") [acc,x]) (λ_ s₅=> ∃m,m<n/\I m s₅) (λ_ _=>False) s₄) (λ_ _=>False) s₃
      else∃m,m<n/\I m s₃) (λ_ _=>False) s₂) (λ_ _=>False) s₁') (λ_ _=>False) s₁) (λ_ _=>False) s)
  (n:Nat) (h:I n s):codeAny (model prog w) A (.compLoop (.ListComp elt [⟨target,iter,ifs,0⟩] scope pos) 0 it acc env) R s:=by
 refine codeAny_loop rfl I (λn s hI=>?_) n h
 show wpAny _ A ((compTurn (.ListComp elt [⟨target,iter,ifs,0⟩] scope pos) 0 it acc env).onRaise (λx=>do noteFrame x env;theTreesLotGoes x)) _ _ s
 refine wpAny_noted ?_
 rw [compTurn_list]
 have no: ∀{E':VP}(v:Value)(s':Shared),False->E' v s':=λ_ _ z=>z.elim
 refine wB0 (wpAny_standAt (wB0 (wpAny_mono (turn n s hI) (λr s₁ h₁=>?_) (no))))
 cases r with
 |none=>exact wP0 h₁
 |some v=>
  refine wB0 (wpAny_mono h₁ (λ_ s₁' h₁'=>wB0 (wpAny_mono h₁' (λ_ s₂ h₂=>wB0 (wpAny_mono h₂ (λok s₃ h₃=>?_) no)) no)) no)
  cases ok with
  |false=>exact wP0 ⟨rfl,h₃⟩
  |true=>
   exact wB0 (wB0 (wpAny_mono h₃ (λx s₄ h₄=>wB0 (wpAny_mono h₄ (λ_ s₅ h₅=>wP0 (wP0 ⟨rfl,h₅⟩)) no)) no))
end
def yBZ(X:Cx)(ifs:List Expr)(t:TT):Prop:=
 ∀(pins:List (Addr×Obj))(s:Shared)(σ:St)(H:Hp)(Q:Bool->Hp->Prop),Inv X pins σ H s->t σ H Q->
  wpAny (model X.prog X.w) X.A (forIn ifs true λc r=>if r=true then do let ok <-isTrue c X.env (eval c X.env);pure (ForInStep.yield ok)else pure (ForInStep.yield r)) (TP X pins σ Q) X.xe s
def tNoIf:TT:=λ_ H Q=>Q true H
theorem yDZ{X:Cx}:yBZ X [] tNoIf:=λ_ _ _ H _ I h=>wpAny_tests_nil ⟨H,I,h⟩
theorem yEA{X:Cx}{c:Expr}{t:TT}(h:PT X c t):yBZ X [c] t:=λpins s σ H Q I q=>wpAny_tests_one (h pins s σ H Q I q)
structure CompF(osc:Scope)(N:List Str)(sc:Scope)(idx:List Nat):Prop where
 kind:sc.kind=.function
 uni: ∀y∈sc.names,sc.names.lookup y.1=some y.2
 frees: ∀y∈sc.names,y.2=.free->osc.names.lookup y.1=some .cell\/osc.names.lookup y.1=some .free
 cap: ∀i∈idx, ∃y,N[i]? =some y/\(osc.names.lookup y=some .cell\/osc.names.lookup y=some .free)/\sc.names.lookup y=some .free
theorem CompF.locs{osc:Scope}{N:List Str}{sc:Scope}{idx:List Nat}(F:CompF osc N sc idx): ∀y∈sc.names,y.2=.local->sc.names.lookup y.1=some .local:=λy hy e=>by rw [F.uni y hy,e]
theorem yJD{osc:Scope}{N:List Str}{sc:Scope}{idx:List Nat}(h:zLC osc N sc idx=true):CompF osc N sc idx:=by
 unfold zLC at h
 simp only [aE,all_eq_true,decide_eq_true_eq,or_eq_true]at h
 obtain⟨⟨⟨h1,h2⟩,h4⟩,h5⟩:=h
 refine⟨h1,λy hy=>h2 y hy,λy hy e=>?_,λi hi=>?_⟩
 ·rcases h4 y hy with(z|z)|z
  ·exact absurd e z
  ·exact .inl z
  ·exact .inr z
 ·have q:=h5 i hi
  cases e:N[i]? with
  |none=>rw [e]at q;cases q
  |some y=>
   rw [e]at q
   simp only [aE,decide_eq_true_eq,or_eq_true]at q
   exact⟨y,rfl,q.1,q.2⟩
theorem yEB{sc osc:Scope}{x:Str}(h:(zXH sc osc).lookup x=some .cell\/(zXH sc osc).lookup x=some .free):(x,NameKind.free)∈sc.names\/(x,NameKind.cell)∈sc.names:=by
 have key: ∀k',(k'=.cell\/k'=.free)->(x,k')∈zXH sc osc->(x,NameKind.free)∈sc.names\/(x,NameKind.cell)∈sc.names:=by
  intro k' hk' hm
  unfold zXH at hm
  obtain⟨⟨n,k⟩,hy,e⟩:=mM.mp hm
  dsimp only at e
  split at e
  ·rename_i hc
   cases e
   rw [aE,aE]at hc
   have:k=.free:=by simpa using hc.1.1
   subst this
   exact .inl hy
  ·cases e
   rcases hk' with rfl|rfl
   ·exact .inr hy
   ·exact .inl hy
 rcases h with h|h
 ·exact key _ (.inl rfl) (PySem.mem_of_lookup h)
 ·exact key _ (.inr rfl) (PySem.mem_of_lookup h)
theorem zQB{osc:Scope}{x:Str}: ∀{l:List (Str×NameKind)},l.lookup x=some .free->(l.map λ(n,k)=>if(k==NameKind.free&&osc.kind==.function&&osc.names.lookup n==some .cell)then(n,NameKind.cell)else(n,k)).lookup x=some .cell\/(l.map λ(n,k)=>if(k==NameKind.free&&osc.kind==.function&&osc.names.lookup n==some .cell)then(n,NameKind.cell)else(n,k)).lookup x=some .free
 |[],h=>by simp at h
 |(n,k)::l,h=>by
  have ih:=@zQB osc x l
  rw [lookup_cons]at h
  rw [map_cons]
  by_cases hc:(k==NameKind.free&&osc.kind==.function&&osc.names.lookup n==some .cell)=true
  ·dsimp only
   rw [iP hc,lookup_cons]
   cases hx:x==n with
   |true=>exact .inl rfl
   |false=>rw [hx]at h;exact ih h
  ·dsimp only
   rw [iN hc,lookup_cons]
   cases hx:x==n with
   |true=>rw [hx]at h;exact .inr h
   |false=>rw [hx]at h;exact ih h
section
variable{X:Cx}{pins:List (Addr×Obj)}{σ:St}{H1:Hp}{s₂:Shared}{sc:Scope}{T:List Str}{idx:List Nat}{C:Addr}{fp:List Addr}
theorem zUG(I:Inv X pins σ H1 s₂)(F:CompF X.env.scope X.N sc idx): ∀y∈sc.names,y.2=.free-> ∃c,X.env.cells.lookup y.1=some c:=
 λy hy e=>I.ok.has y.1 (F.frees y hy e)
theorem jC(I:Inv X pins σ H1 s₂)(F:CompF X.env.scope X.N sc idx){x:Str}{c:Addr}(e:(zFG X.env sc.names []).lookup x=some c):X.env.cells.lookup x=some c:=
 zLB sc.names [] (zUG I F) (λ_ z=>nomatch z) (x,c) (PySem.mem_of_lookup e)
theorem yJE(I:Inv X pins σ H1 s₂)(F:CompF X.env.scope X.N sc idx){x:Str}{c:Addr}(hx:(x,NameKind.free)∈sc.names)(e:X.env.cells.lookup x=some c):(zFG X.env sc.names []).lookup x=some c:=by
 obtain⟨c',h'⟩:=jY (zFQ (env:=X.env) sc.names [] x hx)
 rw [h']
 rw [jC I F h']at e
 exact e
theorem yCA(I:Inv X pins σ H1 s₂)(F:CompF X.env.scope X.N sc idx)(hC:s₂.heap.objs.size<=C)(hfp: ∀b∈fp,zHS X pins H1 b)(hlt: ∀b∈fp,b<s₂.heap.objs.size):(yC X sc T idx C s₂ H1 fp).Ok where
 mod:=I.ok.mod
 kind:=F.kind
 glob:=I.ok.glob
 blt:=I.ok.blt
 above:=hC
 inj:=λx y c h1 h2=>by
  have low: ∀z,(zFG X.env sc.names []).lookup z=some c->c<s₂.heap.objs.size:=λz h=>let ⟨v,q⟩:=I.cell z c (jC I F h);q.lt
  rcases zBB h1 with z1|z1<;>rcases zBB h2 with z2|z2
  ·exact PySem.name_of_addr (own_apart sc.names (C+1)) z1 z2
  ·exact absurd (low y z2) (not_lt.mpr (le_of_lt (zHV z1 hC)))
  ·exact absurd (low x z1) (not_lt.mpr (le_of_lt (zHV z2 hC)))
  ·exact I.ok.inj x y c (jC I F z1) (jC I F z2)
 has:=λx hx=>by
  have hx':(zXH sc X.env.scope).lookup x=some .cell\/(zXH sc X.env.scope).lookup x=some .free:=hx
  show∃c,(clC X.env sc C).lookup x=some c
  unfold clC
  rw [wF]
  rcases yEB hx' with z|z
  ·obtain⟨c,hc⟩:=zFQ (env:=X.env) sc.names [] x z
   exact jY ⟨c,mem_append_right _ hc⟩
  ·obtain⟨c,hc⟩:=zGW sc.names (C+1) z
   exact jY ⟨c,mem_append_left _ hc⟩
 cab:=λx c h e=>by
  have h':sc.names.lookup x=some .cell:=beq_iff_eq.mp h
  exact le_of_lt (zHV (yOP (PySem.mem_of_lookup h') e) hC)
 hd:=I.ok.hd
 frames:=I.ok.frames
 stk:=.inl rfl
 exf:=λb hb=>⟨ne_of_lt (lt_of_lt_of_le (hlt b hb) hC),λx c e=>by
  rcases zBB e with z|z
  ·exact ne_of_gt (lt_trans (hlt b hb) (zHV z hC))
  ·exact(hfp b hb).2.2.2.2.1 x c (jC I F z)⟩
 bs:=I.bs
 bsz:=le_trans I.ok.bsz I.sz
 noex:=λb o e hb=>by
  rcases (hfp b hb).2.2.2.1 with z|z
  ·exact I.ok.noex b o e z
  ·exact absurd (lt_of_lt_of_le (Heap.lt_size e) (le_trans I.ok.bsz z)) (lt_irrefl _)
 exfs:=λb hb z=>by
  rcases mC.mp (I.stkSub b z)with e|e
  ·exact(hfp b hb).2.1 e
  ·exact(hfp b hb).2.2.1 e
 funs:=I.stack
 frf:=I.stkFree
theorem zXI{s₄:Shared}{m:Str->Option Value}(I:Inv X pins σ H1 s₂)(F:CompF X.env.scope X.N sc idx)(hC:s₂.heap.objs.size<=C)(hfp: ∀b∈fp,zHS X pins H1 b)(hlt: ∀b∈fp,b<s₂.heap.objs.size)
  (kp: ∀b o,s₂.heap.get? b=some o->s₄.heap.get? b=some o) (ho:s₄.os=s₂.os) (hg:s₄.gens=s₂.gens) (hn:s₄.heap.Ns C m) (hcl: ∀x c,(x,c)∈cellsFrom (C+1) sc.names []->s₄.heap.IsCell c none):
  Inv (yC X sc T idx C s₂ H1 fp) [] (T.map (λ_=>none)++zJP σ idx) H1 s₄:=by
 have cellK: ∀c v,s₂.heap.IsCell c v->s₄.heap.IsCell c v:=λc v ⟨o,h1,h2⟩=>⟨o,kp c o h1,h2⟩
 refine⟨yCA I F hC hfp hlt,ho,by rw [hg];exact I.bare,Un.kept kp,⟨m,hn,λi x v e1 e2 e3=>?_⟩,λx c e=>?_,I.hok.fresh hC,λx c e=>?_,λp hp=>absurd (show p∈([]:List (Addr×Obj))from hp) (by simp),I.hok.kept kp,?_⟩
 ·have e1':(T++idx.map λi=>(X.N[i]?).getD Str.empty)[i]? =some x:=e1
  by_cases hi:i<T.length
  ·rw [getElem?_append_left (by simpa using hi),getElem?_map]at e2
   cases z:T[i]? with
   |none=>rw [z]at e2;cases e2
   |some y=>rw [z]at e2;cases e2
  ·rw [getElem?_append_right (by simpa using hi)]at e2
   rw [getElem?_append_right (by omega)]at e1'
   rw [lM]at e2
   unfold zJP at e2
   rw [getElem?_map]at e1' e2
   cases z:idx[i - T.length]? with
   |none=>rw [z]at e2;cases e2
   |some j=>
    rw [z]at e1' e2
    have hj:j∈idx:=mem_of_getElem? z
    obtain⟨y,hy,k1,k2⟩:=F.cap j hj
    have ex:y=x:=by
     have q:(X.N[j]?).getD Str.empty=x:=Option.some.inj e1'
     rw [hy]at q;exact q
    subst ex
    have ev:σ[j]? =some (some v):=by
     have q:(σ[j]?).join=some v:=Option.some.inj e2
     cases w':σ[j]? with
     |none=>rw [w']at q;cases q
     |some a=>rw [w']at q;have q':a=some v:=q;rw [q']
    obtain⟨m0,hn0,hl0⟩:=I.loc
    have vis:Vis X.env.scope y:=k1.elim (λz=>.inr (.inl z)) λz=>.inr (.inr z)
    obtain⟨u,r,l⟩:=hl0 j y v hy ev vis
    refine⟨u,r,?_⟩
    rcases l with⟨kl,_⟩|⟨_,c,hc,q⟩
    ·have kl':X.env.scope.names.lookup y=some .local:=kl
     rcases k1 with z|z<;>rw [z]at kl'<;>cases kl'
    ·have nc:(y,NameKind.cell)∉sc.names:=λz=>by
      have:=F.uni _ z
      rw [k2]at this
      cases this
     refine .inr ⟨zQB (osc:=X.env.scope) k2,c,?_,cellK c _ q⟩
     show(clC X.env sc C).lookup y=some c
     rw [yJC nc]
     exact yJE I F (PySem.mem_of_lookup k2) hc
 ·rcases zBB e with z|z
  ·exact⟨none,hcl x c z⟩
  ·obtain⟨v,q⟩:=I.cell x c (jC I F z)
   exact⟨v,cellK c v q⟩
 ·rcases zBB e with z|z
  ·exact I.hok.fresh (le_of_lt (zHV z hC))
  ·exact I.freeC x c (jC I F z)
 ·show(T.map (λ_=>(none:Option V))++zJP σ idx).length=(T++idx.map λi=>(X.N[i]?).getD Str.empty).length
  rw [lA,lA,lM,lM,zCO]
theorem zXJ{σ1:St}{H':Hp}{s':Shared}{h':Heap}{D:Addr}{ys:List V}{its:List Value}{n:Nat}(I:Inv X pins σ H1 s₂)(hC:s₂.heap.objs.size<=C)(hfp: ∀b∈fp,zHS X pins H1 b)
  (J:Inv (yC X sc T idx C s₂ H1 fp) [] σ1 H' s') (hs:Heap.SameBut C s'.heap h') (hD:s₂.heap.objs.size<=D) (hDC:D≠C) (eD:s'.heap.get? D=some {cls:=.type "list",data:=.seq its.toArray n}) (nD:H' D=none) (r:Vals ys its) (hz:ys.length<=sizeLine):
  Inv X pins σ (upd H' D (.lst ys)) {s' with heap:=h'}:=by
 have old: ∀b o,s₂.heap.get? b=some o->b≠C/\b≠D:=λb o e=>⟨ne_of_lt (lt_of_lt_of_le (Heap.lt_size e) hC),ne_of_lt (lt_of_lt_of_le (Heap.lt_size e) hD)⟩
 have oldH: ∀b u,H1 b=some u->b≠D:=λb u e=>ne_of_lt (lt_of_lt_of_le (I.hok.lt e) hD)
 have nC:H' C=none:=J.free
 have B:Un (frs X.stack) fp H1 H' s₂.heap s'.heap:=J.base
 have mv: ∀b o,b≠C->s'.heap.get? b=some o->h'.get? b=some o:=λb o hb e=>(hs.2 b hb).trans e
 refine I.call' (s':={s' with heap:=h'}) (ch:=fp) J.os ⟨λb o e q hb hx=>?_,λb o e q hb hx=>?_,λb o e q hx=>?_,λb o e hx=>?_,λb xs e=>?_,λb o u e=>?_,λb ps e=>?_⟩ ?_ J.bare λb hb=>⟨(hfp b hb).2.2.2.1,(hfp b hb).2.1,(hfp b hb).2.2.2.2.1,(hfp b hb).2.2.2.2.2⟩
 ·exact mv b o (old b o e).1 (B.keep b o e q hb hx)
 ·obtain⟨sl,z⟩:=B.slot b o e q hb hx
  exact⟨sl,mv b _ (old b o e).1 z⟩
 ·rw [zS (old b o e).2];exact B.free b o e q hx
 ·obtain⟨o',z⟩:=B.there b o e hx
  exact⟨o',mv b o' (old b o e).1 z⟩
 ·rw [zS (oldH b _ e)];exact B.tups b xs e
 ·rw [zS (oldH b _ e)];exact B.frzs b o u e
 ·obtain⟨more,z⟩:=B.tbls b ps e
  exact⟨more,by rw [zS (oldH b _ e)];exact z⟩
 ·intro b u e
  by_cases hb:b=D
  ·subst hb
   rw [yW]at e;cases e
   exact⟨hz,its,n,r,mv b _ hDC eD⟩
  ·rw [zS hb]at e
   refine(J.hok b u e).stay (λc v hc q=>mv c v ?_ q) (λc q=>by rw [zS (zZ q nD)];exact q) λc xs q=>by rw [zS (zZ q nD)];exact q
   rcases hc with z|z
   ·rw [z];exact zZ e nC
   ·exact zZ z nC
end
section
variable{X:Cx}
theorem zPD{M:Model}{A:Around}{E:VP}{s:Shared}{scope:Scope}{globals:Addr}{closure:List (Str×Addr)}{qual:Str}{outer:Env}{Q:Env->Shared->Prop}
  (hQ:Q (newEnv scope s.heap.objs.size globals (cellsFrom (s.heap.objs.size+1) scope.names closure) qual none .none (some outer) builtinsNs) {s with heap:=pushCells (s.heap.push {cls:=.type "dict",data:=.dict #[]}) scope.names}):
  wpAny M A (newFunctionEnv scope globals closure [] qual none .none (some outer)) Q E s:=by
 simp only [newFunctionEnv,Option.isSome_some,if_true]
 refine wB0 (wpAny_alloc ?_)
 refine wB0 (wpAny_layCells _ (λname kind cells=>by cases hkc:kind==NameKind.cell<;>simp [hkc]) _ _ _ _ ?_)
 rw [show({s with heap:=s.heap.push {cls:=.type "dict",data:=.dict #[]}}:Shared).heap.objs.size=s.heap.objs.size+1 from Heap.size_push ..]
 simp only [forIn_nil]
 exact wB0 (wP0 (wP0 hQ))
theorem zUH{elt tg iter:Expr}{ifs:List Expr}{pos:Pos}{sc:Scope}{wi:TI}{g:TG}{tc:Addr->Shared->Hp->List Addr->TT}{te:Addr->Shared->Hp->List Addr->TE}(T:List Str)(idx:List Nat)
  (hi:PI X tg iter wi) (hcalm:X.calm=true) (hB:zLC X.env.scope X.N sc idx=true)
  (hg: ∀C s₂ H1 fp,PG (yC X sc T idx C s₂ H1 fp) tg g)
  (hc: ∀C s₂ H1 fp,yBZ (yC X sc T idx C s₂ H1 fp) ifs (tc C s₂ H1 fp))
  (he: ∀C s₂ H1 fp,PE (yC X sc T idx C s₂ H1 fp) elt (te C s₂ H1 fp))
  (hs: ∀x,foldedSetIterable iter X.env x=pure x:=by intro _;rfl)
  {pins:List (Addr×Obj)} {s:Shared} {σ:St} {H:Hp} {Q:VK} {use:Option (Value->Sem Unit)} {Q':VP} (I:Inv X pins σ H s) (h:yDY wi g tc te T.length idx σ H Q)
  (fin: ∀(D C:Addr)(s4:Shared)(H':Hp)(r:_),(∀h',Heap.SameBut C s4.heap h'->Inv X pins σ H' {s4 with heap:=h'})->zHS X pins H' C->(∃m,s4.heap.Ns C m)->Q (.ref D) H'->
   compPost (model X.prog X.w) X.A X.xe use Q' (.ref D) C (.ok r) s4):
  wpAny (model X.prog X.w) X.A (comprehension (.ListComp elt [⟨tg,iter,ifs,0⟩] sc pos) sc X.env (firstIterPos [⟨tg,iter,ifs,0⟩] pos) (newList []) false (eval iter X.env) use) Q' X.xe s:=by
 have cf:=yJD hB
 refine wpAny_comprehension_free (use:=use) (cl:=zFG X.env sc.names []) rfl hs (zPC (zUG I cf)) cf.kind cf.locs ?_
 refine thn (hi pins s σ H _ I h) λv s1 h1=>thn h1 λitv s2 h2=>?_
 obtain⟨it,fp,tn,J,H2,e,I2,Tn,st2,f2,W,⟨m0,w0⟩,turn⟩:=h2
 subst e
 have hlt: ∀b∈fp,b<s2.heap.objs.size:=λb hb=>let ⟨o,e,_⟩:=Tn.obj _ _ st2 b hb;Heap.lt_size e
 refine wpAny_newObj_type (zPD ?_)
 dsimp only
 generalize hH2:s2.heap.push {cls:=.type "list",dict:=none,data:=.seq ([]:List Value).toArray}=HH
 generalize hh1:pushCells (HH.push {cls:=.type "dict",data:=.dict #[]}) sc.names=h₁
 have hns₁:h₁.Ns HH.objs.size (λ_=>none):=hh1▸(Heap.Ns.new HH (.type "dict")).keeps (pushCells_keeps _ _)
 have hC:HH.objs.size=s2.heap.objs.size+1:=by rw [<-hH2,Heap.size_push]
 have hDC:s2.heap.objs.size≠HH.objs.size:=by rw [hC];exact ne_of_lt (Nat.lt_succ_self _)
 have hCle:s2.heap.objs.size<=HH.objs.size:=by rw [hC];exact le_succ _
 have up1: ∀b o,HH.get? b=some o->h₁.get? b=some o:=λb o e=>hh1▸pushCells_keeps _ _ b o (hP0 _ e)
 have old: ∀b o,s2.heap.get? b=some o->h₁.get? b=some o:=λb o e=>up1 b o (hH2▸hP0 _ e)
 have eD0:h₁.get? s2.heap.objs.size=some {cls:=.type "list",data:=.seq ([]:List Value).toArray 0}:=up1 _ _ (hH2▸Heap.get?_push_size _ rfl)
 have hcl: ∀x c,(x,c)∈cellsFrom (HH.objs.size+1) sc.names []->h₁.IsCell c none:=λx c hm=>by
  have ok:=cellsFrom_ok sc.names (HH.push {cls:=.type "dict",data:=.dict #[]}) 0 [] ⟨λ_ _ hm=>(nomatch hm),List.Pairwise.nil⟩ (zero_le _)
  rw [Heap.size_push,hh1]at ok
  exact(ok.empty x c hm).1
 have nD0:H2 s2.heap.objs.size=none:=I2.hok.fresh (le_refl _)
 have cD: ∀x c,(clC X.env sc HH.objs.size).lookup x=some c->c≠s2.heap.objs.size:=λx c e=>by
  rcases zBB e with z|z
  ·exact ne_of_gt (zHV z hCle)
  ·obtain⟨v,q⟩:=I2.cell x c (jC I2 cf z)
   exact ne_of_lt q.lt
 have loop: ∀s4:Shared,s4={s2 with heap:=h₁}->
   codeAny (model X.prog X.w) X.A (.compLoop (.ListComp elt [⟨tg,iter,ifs,0⟩] sc pos) 0 (.ref it) (.ref s2.heap.objs.size) (compEnvC sc (clC X.env sc HH.objs.size) HH.objs.size X.env))
    (compPost (model X.prog X.w) X.A X.xe use Q' (.ref s2.heap.objs.size) HH.objs.size) s4:=by
  rintro s4 rfl
  have J0:Inv (yC X sc T idx HH.objs.size s2 H2 fp) [] (T.map (λ_=>none)++zJP σ idx) H2 {s2 with heap:=h₁}:=
   zXI I2 cf hCle f2 hlt old rfl rfl hns₁ hcl
  refine zRS (λk s'=> ∃(i:Nat)(ys:List V)(its:List Value)(n:Nat)(H':Hp)(τ:St),Inv (yC X sc T idx HH.objs.size s2 H2 fp) [] (τ++zJP σ idx) H' s'/\τ.length=T.length/\tn i s'.heap/\(∀b∈fp,H' b=none)/\
   s'.heap.get? s2.heap.objs.size=some {cls:=.type "list",data:=.seq its.toArray n}/\H' s2.heap.objs.size=none/\Vals ys its/\W i k ys H') ?_ m0
   ⟨0,[],[],0,H2,T.map (λ_=>none),J0,by rw [lM],Tn.keep _ _ _ st2 λb _ o e=>old b o e,λb hb=>(f2 b hb).1,eD0,nD0,.nil,w0⟩
  rintro k s3 ⟨i,ys,its,n,H3,τ,I3,hτ,st3,fr3,eD3,nD3,r3,w3⟩
  obtain⟨hz,alt⟩:=turn i k ys H3 w3
  have hDfs:s2.heap.objs.size∉(yC X sc T idx HH.objs.size s2 H2 fp).fs:=λz=>by
   obtain⟨_,o,ho,_⟩:=I2.stack.mem (show s2.heap.objs.size∈frs X.stack from z)
   exact absurd (Heap.lt_size ho) (lt_irrefl _)
  have pinD: ∀{H':Hp}{s':Shared},s'.heap.get? s2.heap.objs.size=some {cls:=.type "list",data:=.seq its.toArray n}->H' s2.heap.objs.size=none->
    ∀p∈[(s2.heap.objs.size,({cls:=.type "list",data:=.seq its.toArray n}:Obj))],s'.heap.get? p.1=some p.2/\H' p.1=none/\p.1≠(yC X sc T idx HH.objs.size s2 H2 fp).env.locals/\p.1∉(yC X sc T idx HH.objs.size s2 H2 fp).fs/\ ∀v,p.2.data≠.cell v:=
   λ{H' s'} e1 e2 p hp=>by
    have ep:p=(s2.heap.objs.size,{cls:=.type "list",data:=.seq its.toArray n}):=by simpa using hp
    subst ep
    exact⟨e1,e2,hDC,hDfs,λv z=>by cases z⟩
  have P3:Inv (yC X sc T idx HH.objs.size s2 H2 fp) [(s2.heap.objs.size,{cls:=.type "list",data:=.seq its.toArray n})] (τ++zJP σ idx) H3 s3:=I3.pins_of (pinD eD3 nD3)
  have stat: ∀{H':Hp},(∀b∈fp,H' b=none)-> ∀b∈fp,zHS (yC X sc T idx HH.objs.size s2 H2 fp) [(s2.heap.objs.size,{cls:=.type "list",data:=.seq its.toArray n})] H' b:=λ{H'} hn b hb=>by
   have hb2:=hlt b hb
   refine⟨hn b hb,ne_of_lt (lt_of_lt_of_le hb2 hCle),I3.ok.exfs b hb,.inl hb,λx c e=>?_,λp hp=>?_⟩
   ·rcases zBB e with z|z
    ·exact ne_of_gt (lt_trans hb2 (zHV z hCle))
    ·exact(f2 b hb).2.2.2.2.1 x c (jC I2 cf z)
   have ep:p=(s2.heap.objs.size,({cls:=.type "list",data:=.seq its.toArray n}:Obj)):=by simpa [yC]using hp
   subst ep
   exact ne_of_gt hb2
  rcases alt with⟨stop,q⟩|⟨go,hl2,step⟩
  ·refine thn (Tn.done (yC X sc T idx HH.objs.size s2 H2 fp) rfl rfl rfl hcalm i _ s3 _ H3 (λ_ _=>False) P3 (stat fr3) st3 stop) λr s4 ⟨hr,I4⟩=>?_
   subst hr
   obtain⟨m,hn,_⟩:=id I4.loc
   have eD4:=(I4.pin (s2.heap.objs.size,{cls:=.type "list",data:=.seq its.toArray n}) (by simp)).1
   exact fin _ _ s4 _ _ (λh' hs'=>zXJ I2 hCle f2 (I4.pins_of (λp hp=>nomatch hp)) hs' (le_refl _) hDC eD4 nD3 r3 hz) (I2.fpOk hCle (by rw [zS (Ne.symm hDC)];exact I4.free)) ⟨m,hn⟩ (q _ nD3)
  ·refine thn (Tn.item (yC X sc T idx HH.objs.size s2 H2 fp) rfl rfl rfl hcalm i _ s3 _ H3 (λ_ _=>False) P3 (stat fr3) st3 go) λr s4 ⟨u,hr,h4⟩=>?_
   subst hr
   refine thn h4 λ_ s5 ⟨x,H5,I5,r5,y5,st5,fr5⟩=>?_
   have I5':=I5.pinned (stat fr5) (Tn.obj _ _ st5)
   refine thn (hg HH.objs.size s2 H2 fp _ s5 _ H5 x u _ I5' r5 (step x H5 y5 τ hτ)) λ_ s6 ⟨σ6,H6,I6,⟨τ',e6,l6⟩,q6⟩=>?_
   subst e6
   refine thn (hc HH.objs.size s2 H2 fp _ s6 _ H6 _ I6 (q6 HH.objs.size s2 fp)) λok s7 ⟨H7,I7,q7⟩=>?_
   have mD:(s2.heap.objs.size,({cls:=.type "list",data:=.seq its.toArray n}:Obj))∈(yC X sc T idx HH.objs.size s2 H2 fp).pn++([(s2.heap.objs.size,{cls:=.type "list",data:=.seq its.toArray n})]++zJO fp s5.heap):=
    mem_append_right _ (mem_append_left _ (by simp))
   have mF: ∀b∈fp, ∀o,s5.heap.get? b=some o->(b,o)∈(yC X sc T idx HH.objs.size s2 H2 fp).pn++([(s2.heap.objs.size,{cls:=.type "list",data:=.seq its.toArray n})]++zJO fp s5.heap):=λb hb o e=>
    mem_append_right _ (mem_append_right _ (zHT hb e))
   cases ok with
   |false=>
    rw [iN xF0]at q7 ⊢
    obtain⟨m',hm',w7⟩:=q7
    refine⟨m',hm',i+1,ys,its,n,H7,τ',I7.pins_of (λp hp=>nomatch hp),l6,Tn.keep _ _ _ st5 λb hb o e=>(I7.pin _ (mF b hb o e)).1,λb hb=>?_,(I7.pin _ mD).1,(I7.pin _ mD).2.1,r3,w7⟩
    obtain⟨o,e,d⟩:=Tn.obj _ _ st5 b hb
    exact(I7.pin _ (mF b hb o e)).2.1
   |true=>
    rw [iP rfl]at q7 ⊢
    refine thn (he HH.objs.size s2 H2 fp _ s7 _ H7 _ I7 q7) λy s8 ⟨yv,H8,I8,r8,m',hm',w8⟩=>?_
    have eD8:=(I8.pin _ mD).1
    have nD8:=(I8.pin _ mD).2.1
    have hl:=r3.length
    have q:=PySem.IsL.update eD8 (λz=>z.push y)
    rw [show its.toArray.push y=(its++[y]).toArray by simp]at q
    refine call_meets PySem.F.slot_list_append ⟨_,eD8,rfl⟩ PySem.F.entry_list_append (PySem.F.args_list_append_2 _ _) (PySem.list_append s2.heap.objs.size its.toArray n y (by rw [sA0];omega)) ⟨eD8,?_⟩
    have I9:Inv (yC X sc T idx HH.objs.size s2 H2 fp) [] (τ'++zJP σ idx) H8 s8:=I8.pins_of (λp hp=>nomatch hp)
    have up: ∀b o,b≠s2.heap.objs.size->s8.heap.get? b=some o->(s8.heap.update s2.heap.objs.size (Obj.mapSeq λz=>z.push y)).get? b=some o:=λb o hb e=>(Heap.get?_update_other s8.heap _ (Ne.symm hb)).trans e
    refine⟨m',hm',i+1,ys++[yv],its++[y],_,H8,τ',I9.turned (t':=s8.toks) up nD8 hDC (.inr (le_refl _)) cD (λp hp=>nomatch hp),l6,?_,λb hb=>?_,q,nD8,r3.append (.cons r8 .nil),w8⟩
    ·exact Tn.keep _ _ _ st5 λb hb o e=>up b o (ne_of_lt (hlt b hb)) (I8.pin _ (mF b hb o e)).1
    ·obtain⟨o,e,d⟩:=Tn.obj _ _ st5 b hb
     exact(I8.pin _ (mF b hb o e)).2.1
 exact codeAny_compStart_list (loop _ rfl) (Tn.self X.A 0 _ _ _ (Tn.keep _ _ _ st2 λb _ o e=>old b o e) (loop _ rfl))
theorem yJF{elt tg iter:Expr}{ifs:List Expr}{pos:Pos}{sc:Scope}{wi:TI}{g:TG}{tc:Addr->Shared->Hp->List Addr->TT}{te:Addr->Shared->Hp->List Addr->TE}(T:List Str)(idx:List Nat)
  (hi:PI X tg iter wi) (hcalm:X.calm=true) (hB:zLC X.env.scope X.N sc idx=true)
  (hg: ∀C s₂ H1 fp,PG (yC X sc T idx C s₂ H1 fp) tg g)
  (hc: ∀C s₂ H1 fp,yBZ (yC X sc T idx C s₂ H1 fp) ifs (tc C s₂ H1 fp))
  (he: ∀C s₂ H1 fp,PE (yC X sc T idx C s₂ H1 fp) elt (te C s₂ H1 fp))
  (hs: ∀x,foldedSetIterable iter X.env x=pure x:=by intro _;rfl):
  PE X (.ListComp elt [⟨tg,iter,ifs,0⟩] sc pos) (yDY wi g tc te T.length idx):=by
 intro pins s σ H Q I h
 rw [eval_ListComp]
 exact zUH T idx hi hcalm hB hg hc he hs (use:=none) I h λD C s4 H' r J _ ⟨m,hn⟩ q=>⟨m,hn,λh' hs'=>⟨.ref D,H',J h' hs',rfl,q⟩⟩
end
def mkS(x:List Nat):Str:=⟨x.toArray⟩
theorem jD(x:List Nat):(mkS x).length=x.length:=by simp [mkS,Str.length]
theorem zGX(x:List Nat):(mkS x).cps.toList=x:=by simp [mkS]
theorem zLZ{x y:List Nat}(h:mkS x=mkS y):x=y:=by
 have:=congrArg (λs=>s.cps.toList) h
 simpa [mkS]using this
theorem yJG(x y:List Nat):mkS x++mkS y=mkS (x++y):=by
 show Str.append (mkS x) (mkS y)=_
 simp [Str.append,mkS]
theorem yJH(c:Nat):(⟨#[c]⟩:Str)=mkS [c]:=rfl
def gT{α:Type}(xs:List α)(lo hi:Option Int):List α:=(xs.drop (HT.sIx xs.length 0 lo)).take (HT.sIx xs.length xs.length hi - HT.sIx xs.length 0 lo)
theorem strIdx(lo hi:Option Int)(n:Nat):Builtin.Str.strSliceIndices lo hi 1 n=(List.range (HT.sIx n n hi - HT.sIx n 0 lo)).map (HT.sIx n 0 lo+·):=by
 have e1:(match lo with |none=>(if(1:Int)>0 then(0:Int)else(n:Int) - 1)|some i=>if(1:Int)>0 then max 0 (min (if i<0 then i+(n:Int)else i) (n:Int))else max (-1) (min (if i<0 then i+(n:Int)else i) ((n:Int) - 1)))=((HT.sIx n 0 lo:Nat):Int):=by
  cases lo with
  |none=>simp [HT.sIx]
  |some i=>
   simp only [HT.sIx,show(1:Int)>0 by decide,if_true]
   by_cases h:i<0
   ·simp only [h,if_true];omega
   ·simp only [h,iF];omega
 have e2:(match hi with |none=>(if(1:Int)>0 then(n:Int)else -1)|some i=>if(1:Int)>0 then max 0 (min (if i<0 then i+(n:Int)else i) (n:Int))else max (-1) (min (if i<0 then i+(n:Int)else i) ((n:Int) - 1)))=((HT.sIx n n hi:Nat):Int):=by
  cases hi with
  |none=>simp [HT.sIx]
  |some i=>
   simp only [HT.sIx,show(1:Int)>0 by decide,if_true]
   by_cases h:i<0
   ·simp only [h,if_true];omega
   ·simp only [h,iF];omega
 rw [<-sliceRange_one]
 unfold Builtin.Str.strSliceIndices
 dsimp only
 rw [<-e1, <-e2]
 cases lo<;>cases hi<;>rfl
theorem yCB(x:List Nat)(lo hi:Option Int):Txt.slice (mkS x) lo hi=mkS (gT x lo hi):=by
 unfold Txt.slice
 rw [strIdx,jD]
 have hp:((List.range (HT.sIx x.length x.length hi - HT.sIx x.length 0 lo)).map (HT.sIx x.length 0 lo+·)).filterMap ((mkS x).cps[·]?)=gT x lo hi:=by
  have:=pick_run (mkS x).cps (HT.sIx x.length 0 lo) (HT.sIx x.length x.length hi - HT.sIx x.length 0 lo)
  rw [zGX]at this
  exact this
 rw [hp]
 split
 ·rename_i hc
  rw [aE]at hc
  have hl:HT.sIx x.length x.length hi - HT.sIx x.length 0 lo=x.length:=by simpa using hc.2
  have h2:HT.sIx x.length x.length hi<=x.length:=HT.sIx_le _ _ (le_refl _) _
  have h3:HT.sIx x.length 0 lo<=x.length:=HT.sIx_le _ _ (zero_le _) _
  have e:HT.sIx x.length 0 lo=0:=by omega
  unfold gT
  rw [hl,e]
  simp
 ·rfl
section
variable{X:Cx}
def rSlS:V->Option Int->Option Int->Hp->VK->Prop:=λx lo hi H Q=> ∃cs,x=.str (mkS cs)/\cs.length<=sizeLine/\Q (.str (mkS (gT cs lo hi))) H
theorem yOQ:SlR X rSlS:=by
 intro pins s σ H x v vl vu lo hi sl Q I rx hs pl pu h
 obtain⟨cs,rfl,hz,q⟩:=h
 obtain⟨t,rfl⟩:=rx
 have hl:(Txt.slice (mkS cs) lo hi).length<=sizeLine:=le_trans (Txt.slice_le _ _ _) (by rw [jD];exact hz)
 rw [<-yCB]at q
 refine⟨"str",_,slot_str_getitem.lookup,typeIs_str _ _ _,?_⟩
 obtain⟨o,ho,hc,hd⟩:=hs
 cases pl with
 |none=>
  cases pu with
  |none=>exact wpAny_getItem_str_slice (l:=none) (u:=none) (st:=none) ⟨o,ho,hc,hd⟩ rfl (post_val_or_str ⟨hl,λt' k=>⟨.str _,H,I.tok _,⟨_,rfl⟩,q⟩⟩)
  |int j uj=>exact wpAny_getItem_str_slice (l:=none) (u:=some (j,uj)) (st:=none) ⟨o,ho,hc,hd⟩ rfl (post_val_or_str ⟨hl,λt' k=>⟨.str _,H,I.tok _,⟨_,rfl⟩,q⟩⟩)
 |int i ui=>
  cases pu with
  |none=>exact wpAny_getItem_str_slice (l:=some (i,ui)) (u:=none) (st:=none) ⟨o,ho,hc,hd⟩ rfl (post_val_or_str ⟨hl,λt' k=>⟨.str _,H,I.tok _,⟨_,rfl⟩,q⟩⟩)
  |int j uj=>exact wpAny_getItem_str_slice (l:=some (i,ui)) (u:=some (j,uj)) (st:=none) ⟨o,ho,hc,hd⟩ rfl (post_val_or_str ⟨hl,λt' k=>⟨.str _,H,I.tok _,⟨_,rfl⟩,q⟩⟩)
def zMS(cs:List Nat)(k:Int):List Nat:=(List.replicate k.toNat cs).flatten
theorem zJQ(cs:List Nat): ∀(k:Nat)(acc:List Nat),List.foldl (λx1 x2=>x1++x2) acc.toArray (List.replicate k cs.toArray)=(acc++(List.replicate k cs).flatten).toArray
 |0,acc=>by simp
 |k+1,acc=>by
  rw [replicate_succ,foldl_cons,replicate_succ,flatten_cons, <-aA, <-zJQ cs k (acc++cs)]
  simp
theorem zXK:OpR X (binaryOp .Mult) (λx y H Q=> ∃cs k,x=.str (mkS cs)/\y=.int k/\0<=k/\k<1000/\cs.length<=1000/\Q (.str (mkS (zMS cs k))) H):=by
 intro pins s σ H x y v u Q I rx ry h
 obtain⟨cs,k,rfl,rfl,h0,h1,hc,q⟩:=h
 obtain⟨t,rfl⟩:=rx
 obtain⟨t',rfl⟩:=ry
 have hs:sizeLine=16777216:=sizeLine_eq
 have hprod:cs.length * k.toNat<=1000 * 1000:=Nat.mul_le_mul hc (by omega)
 have e: ∀b,Q (.str b) H->b=mkS (zMS cs k)->True:=λ_ _ _=>trivial
 refine PySem.P.mul_str (by rw [dF0 (by omega),dF0 (by omega)];rfl) (λh2 _=>?_) (λ_ _=>?_) ?_
 ·rw [jD]
  have hk:1<=k:=by omega
  have:(1000:Int)<=(2 ^ 63 - 1) / k:=by
   rw [Int.le_ediv_iff_mul_le (by omega)]
   omega
  omega
 ·rw [jD]
  unfold PySem.Builtin.Str.tooLong
  exact dF0 (by omega)
 ·have made: ∀(z:Str),z=mkS (zMS cs k)->z.length<=sizeLine->(Made.str z).post (EP X pins σ Q) s:=λz ez hz=>⟨hz,by rw [ez];exact⟨.str _,H,I.tok _,⟨_,rfl⟩,q⟩⟩
  have hlen:(zMS cs k).length=k.toNat * cs.length:=by
   unfold zMS;rw [len_rep]
  by_cases hn:k<1
  ·rw [iP hn]
   have hk:k.toNat=0:=by omega
   refine made _ ?_ (by decide)
   unfold zMS;rw [hk];rfl
  ·rw [iN hn]
   by_cases h3:(k==1 || (mkS cs).length==0)=true
   ·rw [iP h3]
    refine⟨.str (mkS cs),H,I,⟨_,rfl⟩,?_⟩
    have:zMS cs k=cs:=by
     unfold zMS
     rw [or_eq_true]at h3
     rcases h3 with h3|h3
     ·have:k=1:=by simpa using h3
      subst this
      simp
     ·rw [jD]at h3
      have:cs=[]:=by cases cs with |nil=>rfl|cons _ _=>simp at h3
      subst this
      simp
    rw [this]at q
    exact q
   ·rw [iN h3]
    refine made _ ?_ ?_
    ·unfold zMS mkS
     have:=zJQ cs k.toNat []
     rw [nil_append]at this
     exact congrArg Str.mk this
    ·have e3:(List.foldl (λx1 x2=>x1++x2) #[] (List.replicate k.toNat (mkS cs).cps))=(zMS cs k).toArray:=by
      have:=zJQ cs k.toNat []
      rw [nil_append]at this
      exact this
     show(List.foldl (λx1 x2=>x1++x2) #[] (List.replicate k.toNat (mkS cs).cps)).size<=sizeLine
     rw [e3,sA0,hlen,Nat.mul_comm]
     omega
theorem zRT:CallR X (.builtin "all") (λxs H Q=> ∃(a:Addr)(bs:List Bool),xs=[.ref a]/\SqL X.K H a (bs.map V.bl)/\X.calm=true/\Q (.bl (bs.all id)) H):=by
 intro pins s σ H xs us Q I r h
 obtain⟨a,bs,rfl,hq,hc,q⟩:=h
 obtain⟨u,rfl,ru⟩:=vals1 r
 cases ru
 obtain⟨its,rv,pl,hz⟩:=I.list hq
 have hlen:its.length=bs.length:=by rw [<-rv.length,lM]
 refine PySem.call_all_walk (wpAny_pyIter_list pl.isList ?_)
 have hI:a≠s.heap.objs.size:=by
  obtain⟨o,ho,_⟩:=pl.isList
  exact ne_of_lt (Heap.lt_size ho)
 have I1: ∀(h':Heap)(tk:Nat),(∀b o,b∉[s.heap.objs.size]->(s.heap.push {cls:=.type "list_iterator",data:=.fields #[.ref a,.int 0 0]}).get? b=some o->h'.get? b=some o)->Inv X pins σ H {s with heap:=h',toks:=tk}:=λh' tk k=>
  I.kept λb o e=>k b o (by simpa using ne_of_lt (Heap.lt_size e)) (hP0 _ e)
 refine⟨s.heap.objs.size,[s.heap.objs.size,a],[s.heap.objs.size],its.toArray.size,_,_,λi=>bs.getD i false,rfl,PySem.Walks.list (by first |exact I.ok.hd hc|exact(show X.A.in1.handled=none from I.ok.hd hc)) _ a hI its.toArray,⟨⟨_,Heap.get?_push_size _ rfl,rfl,rfl⟩,pl.isList.at λo e=>hP0 _ e⟩,?_,λh' tk k=>?_⟩
 ·intro i v s' Q' E' hv hQ'
  have hv':its[i]? =some v:=by simpa using hv
  have hi:i<bs.length:=by rw [<-hlen];exact(gS0.mp hv').1
  have hb:(bs.map V.bl)[i]? =some (V.bl (bs.getD i false)):=by
   rw [getElem?_map,gE0 hi]
   simp [getD_eq_getElem?_getD,hi]
  obtain⟨u',hu',rv'⟩:=rv.get hb
  rw [hv']at hu'
  cases hu'
  cases rv'
  exact wpAny_truthy_bool hQ'
 ·refine⟨.bl (bs.all id),H,I1 h' tk k,?_,q⟩
  show Value.bool _=Value.bool _
  congr 1
  rw [sA0,hlen]
  have: ∀(l:List Bool),(List.range l.length).all (λi=>l.getD i false)=l.all id:=by
   intro l
   rw [Bool.eq_iff_iff,all_eq_true,all_eq_true]
   constructor
   ·intro h x hx
    obtain⟨i,hi,rfl⟩:=getElem_of_mem hx
    have:=h i (mem_range.mpr hi)
    simpa [getD_eq_getElem?_getD,hi]using this
   ·intro h i hi
    have hi':=mem_range.mp hi
    have:=h l[i] (getElem_mem hi')
    simpa [getD_eq_getElem?_getD,hi']using this
  exact this bs
def Its(x:List Nat):It:=⟨λi _=>i<x.length,λi H v H'=>H'=H/\ ∃c,x[i]? =some c/\v=.str (mkS [c]),λi _=>x.length<=i⟩
def iStr(tl:TE):TI:=λσ H R=>tl σ H λv H1=> ∃x,v=.str (mkS x)/\R (Its x) H1
theorem zUI{P:Program}{w:World}{K:PySem.W.Frag}{tg:Expr}(it:Addr)(ty:String)(x:List Nat)(t:Tok)(hty:ty="str_ascii_iterator"\/ty="str_iterator"):
  Turn P w K tg (Its x) [it] it (λi h=>h.IsStrIter it ty (mkS x) t i) where
 mem:=by simp
 obj:=λi h st b hb=>by
  have e:b=it:=by simpa using hb
  subst e
  obtain⟨o,e,c,d⟩:=st
  exact⟨o,e,λv z=>by rw [d]at z;cases z⟩
 keep:=λi h h' st k=>let ⟨o,ho,r⟩:=st;⟨o,k it (by simp) o ho,r⟩
 item:=by
  intro X hP hw hK hc i pins s σ H E I hf st hg
  subst hP hw hK
  obtain⟨f0,f1,f2,f3,f4,f5⟩:=hf it (by simp)
  have hi:i<x.length:=hg
  have hxi:(mkS x).cps[i]? =some x[i]:=by simp [mkS,hi]
  have fin: ∀(h':Heap),h'.IsStrIter it ty (mkS x) t (i+1)->Heap.SameBut it s.heap h'-> ∃u,some (Value.str ⟨#[x[i]]⟩ s.toks)=some u/\
    wpAny (model X.prog X.w) X.A (letOwnedTupleGo tg (.ref it) u) (λ_ s2=> ∃y H',Inv X pins σ H' s2/\RelV y u/\(Its x).yld i H y H'/\s2.heap.IsStrIter it ty (mkS x) t (i+1)/\ ∀b∈[it],H' b=none) E {s with heap:=h',toks:=s.toks+1}:=λh' st' sb=>by
   have I1:Inv X pins σ H {s with heap:=h',toks:=s.toks+1}:=I.turned (λb o hb e=>(sb.2 b hb).trans e) f0 f1 f3 f4 f5
   obtain⟨o,e,c,d⟩:=id st'
   refine⟨_,rfl,zYQ (s:={s with heap:=h',toks:=s.toks+1}) e c d (by rcases hty with rfl|rfl<;>decide) ⟨.str (mkS [x[i]]),H,I1,⟨_,rfl⟩,⟨rfl,x[i],by simp [hi],rfl⟩,st',λb hb=>(hf b hb).1⟩⟩
  rcases hty with rfl|rfl
  ·exact wpAny_pyNext_ascii_item st hxi λh' st' sb=>fin h' st' sb
  ·exact wpAny_pyNext_wide_item st hxi λh' st' sb=>fin h' st' sb
 done:=by
  intro X hP hw hK hc i pins s σ H E I hf st hg
  subst hP hw hK
  obtain⟨f0,f1,f2,f3,f4,f5⟩:=hf it (by simp)
  have hi:x.length<=i:=hg
  have hxi:(mkS x).cps[i]? =none:=by simp [mkS,hi]
  rcases hty with rfl|rfl
  ·exact wpAny_pyNext_ascii_end (I.ok.hd hc) st hxi λh' eb=>⟨rfl,I.turned (t':=s.toks) (λb o hb e=>eb b o hb e) f0 f1 f3 f4 f5⟩
  ·exact wpAny_pyNext_wide_end (I.ok.hd hc) st hxi λh' eb=>⟨rfl,I.turned (t':=s.toks) (λb o hb e=>eb b o hb e) f0 f1 f3 f4 f5⟩
 self:=λ_ _ _ _ _ st h=>by
  rcases hty with rfl|rfl
  ·exact wpAny_pyIter_striter_ascii st h
  ·exact wpAny_pyIter_striter_wide st h
theorem yOR{tg l:Expr}{tl:TE}(hl:PE X l tl):PI X tg l (iStr tl):=by
 intro pins s σ H R I h
 refine thn (hl pins s σ H _ I h) λv s1 ⟨x,H1,I1,r1,q1⟩=>?_
 obtain⟨cs,e,q⟩:=q1
 subst e
 obtain⟨t,rfl⟩:=r1
 have fp: ∀(o:Obj), ∀b∈[s1.heap.objs.size],zHS X pins H1 b:=λo b hb=>by
  have e:b=s1.heap.objs.size:=by simpa using hb
  subst e
  exact I1.fpOk (le_refl _) (I1.hok.fresh (le_refl _))
 cases ha:(mkS cs).cps.all (· <128)
 ·refine wpAny_pyIter_wide ha ?_
  exact⟨s1.heap.objs.size,[s1.heap.objs.size],_,_,H1,rfl,I1.kept (t':=s1.toks) λb o e=>hP0 _ e,zUI _ "str_iterator" cs t (.inr rfl),⟨_,Heap.get?_push_size _ rfl,rfl,rfl⟩,fp default,q⟩
 ·refine wpAny_pyIter_ascii ha ?_
  exact⟨s1.heap.objs.size,[s1.heap.objs.size],_,_,H1,rfl,I1.kept (t':=s1.toks) λb o e=>hP0 _ e,zUI _ "str_ascii_iterator" cs t (.inl rfl),⟨_,Heap.get?_push_size _ rfl,rfl,rfl⟩,fp default,q⟩
end
section
variable{X:Cx}
def PU(X:Cx)(e:Expr)(t:TE):Prop:= ∀(i:Nat)(x:Str)(pos' pos:Pos),X.N.Nodup->X.N[i]? =some x->Loc X.env.scope x->(X.fn x=true\/X.env.scope.names.lookup x=some .local)->
 swapsWith e (some (.Name x pos')) pos.line X.env=pure true->PS X (.Assign [.Name x pos'] e pos) (tAsg t (yDL i))
theorem yJI{elt tg iter:Expr}{ifs:List Expr}{pos:Pos}{sc:Scope}{wi:TI}{g:TG}{tc:Addr->Shared->Hp->List Addr->TT}{te:Addr->Shared->Hp->List Addr->TE}(T:List Str)(idx:List Nat)
  (hi:PI X tg iter wi) (hcalm:X.calm=true) (hB:zLC X.env.scope X.N sc idx=true)
  (hg: ∀C s₂ H1 fp,PG (yC X sc T idx C s₂ H1 fp) tg g)
  (hc: ∀C s₂ H1 fp,yBZ (yC X sc T idx C s₂ H1 fp) ifs (tc C s₂ H1 fp))
  (he: ∀C s₂ H1 fp,PE (yC X sc T idx C s₂ H1 fp) elt (te C s₂ H1 fp))
  (hs: ∀x,foldedSetIterable iter X.env x=pure x:=by intro _;rfl):
  PU X (.ListComp elt [⟨tg,iter,ifs,0⟩] sc pos) (yDY wi g tc te T.length idx):=by
 intro i x pos' spos hN hix hx hf hsw pins s σ H D I h
 rw [exec_Assign_Name_used _ _ _ _ hsw]
 refine wB0 (wpAny_standAt (wB0 ?_))
 rw [arm_evalThenUse_ListComp]
 refine wB0 (thn (zUH T idx hi hcalm hB hg hc he hs (use:=some (assign (.Name x pos') X.env)) (Q':=λ_ s'=> ∃σ' H',Inv X pins σ' H' s'/\D.nx σ' H') I h λDd C s4 H' _ J4 fo hm q=>?_) λ_ s' hq=>wP0 (wP0 hq))
 have I4:=J4 s4.heap (Heap.SameBut.refl _ _)
 refine wpAny_assign_Name (zPR I4 hN hix hx (show RelV (.ref Dd) (.ref Dd)from rfl) (λs' I' ⟨a,hs',ha⟩=>?_) hf)
 obtain⟨m,hm⟩:=hm
 have hCa:C≠a:=by
  rintro rfl
  rcases ha with ha|ha
  ·exact fo.2.1 ha
  ·exact fo.2.2.2.2.1 x _ ha rfl
 refine⟨m,hm.sameBut hs' hCa,λh' hs''=>⟨_,H',?_,q⟩⟩
 exact I'.turned (t':=s'.toks) (λb o hb e=>(hs''.2 b hb).trans e) fo.1 fo.2.1 fo.2.2.2.1 fo.2.2.2.2.1 fo.2.2.2.2.2
end
end L2
namespace L2
namespace M
open PySem PySem.Spec PyProof.Rows
theorem yOS{A:Around}{s:Shared}{y x:V}{u v:Value}(ry:RelV y u)(rx:RelV x v)(fy:wY y=true)(fx:wY x=true):SeqAt.RcAt A s u v (eqV y x):=by
 cases y with
 |non=>
  cases ry
  cases x with
  |non=>cases rx;exact SeqAt.RcAt.none_none
  |bl b=>cases rx;exact SeqAt.RcAt.none_bool b
  |int b=>obtain⟨t,rfl⟩:=rx;exact SeqAt.RcAt.none_int b t
  |str b=>obtain⟨t,rfl⟩:=rx;exact SeqAt.RcAt.none_str b t
  |_=>exact absurd (show false=true from fx) xF0
 |bl a=>
  cases ry
  cases x with
  |non=>cases rx;exact SeqAt.RcAt.bool_none a
  |bl b=>cases rx;exact SeqAt.RcAt.bool_bool a b
  |int b=>obtain⟨t,rfl⟩:=rx;exact SeqAt.RcAt.bool_int a b t
  |str b=>obtain⟨t,rfl⟩:=rx;exact SeqAt.RcAt.bool_str a b t
  |_=>exact absurd (show false=true from fx) xF0
 |int a=>
  obtain⟨t',rfl⟩:=ry
  cases x with
  |non=>cases rx;exact SeqAt.RcAt.int_none a t'
  |bl b=>cases rx;exact SeqAt.RcAt.int_bool a t' b
  |int b=>obtain⟨t,rfl⟩:=rx;exact SeqAt.RcAt.int_int a t' b t
  |str b=>obtain⟨t,rfl⟩:=rx;exact SeqAt.RcAt.int_str a t' b t
  |_=>exact absurd (show false=true from fx) xF0
 |str a=>
  obtain⟨t',rfl⟩:=ry
  cases x with
  |non=>cases rx;exact SeqAt.RcAt.str_none a t'
  |bl b=>cases rx;exact SeqAt.RcAt.str_bool a t' b
  |int b=>obtain⟨t,rfl⟩:=rx;exact SeqAt.RcAt.str_int a t' b t
  |str b=>obtain⟨t,rfl⟩:=rx;exact SeqAt.RcAt.str_str a t' b t
  |_=>exact absurd (show false=true from fx) xF0
 |_=>exact absurd (show false=true from fy) xF0
theorem yOT{A:Around}{s:Shared}{y x:V}{u v:Value}(ry:RelV y u)(rx:RelV x v)(fy:wY y=true)(fx:wY x=true):SeqAt.RcNeAt A s u v (!eqV y x):=by
 cases y with
 |non=>
  cases ry
  cases x with
  |non=>cases rx;exact SeqAt.RcNeAt.none_none
  |bl b=>cases rx;exact SeqAt.RcNeAt.none_bool b
  |int b=>obtain⟨t,rfl⟩:=rx;exact SeqAt.RcNeAt.none_int b t
  |str b=>obtain⟨t,rfl⟩:=rx;exact SeqAt.RcNeAt.none_str b t
  |_=>exact absurd (show false=true from fx) xF0
 |bl a=>
  cases ry
  cases x with
  |non=>cases rx;exact SeqAt.RcNeAt.bool_none a
  |bl b=>cases rx;exact SeqAt.RcNeAt.bool_bool a b
  |int b=>obtain⟨t,rfl⟩:=rx;exact SeqAt.RcNeAt.bool_int a b t
  |str b=>obtain⟨t,rfl⟩:=rx;exact SeqAt.RcNeAt.bool_str a b t
  |_=>exact absurd (show false=true from fx) xF0
 |int a=>
  obtain⟨t',rfl⟩:=ry
  cases x with
  |non=>cases rx;exact SeqAt.RcNeAt.int_none a t'
  |bl b=>cases rx;exact SeqAt.RcNeAt.int_bool a t' b
  |int b=>obtain⟨t,rfl⟩:=rx;exact SeqAt.RcNeAt.int_int a t' b t
  |str b=>obtain⟨t,rfl⟩:=rx;exact SeqAt.RcNeAt.int_str a t' b t
  |_=>exact absurd (show false=true from fx) xF0
 |str a=>
  obtain⟨t',rfl⟩:=ry
  cases x with
  |non=>cases rx;exact SeqAt.RcNeAt.str_none a t'
  |bl b=>cases rx;exact SeqAt.RcNeAt.str_bool a t' b
  |int b=>obtain⟨t,rfl⟩:=rx;exact SeqAt.RcNeAt.str_int a t' b t
  |str b=>obtain⟨t,rfl⟩:=rx;exact SeqAt.RcNeAt.str_str a t' b t
  |_=>exact absurd (show false=true from fx) xF0
 |_=>exact absurd (show false=true from fy) xF0
theorem eq_ll{A:Around}{s:Shared}{x:V}{v:Value}{l:Addr}{items:Array Value}(rx:RelV x v)(fx:wY x=true)(hl:s.heap.IsList l items)(hu:A.units<cLine):SeqAt.EqAt A s (.ref l) v false:=by
 cases x with
 |non=>cases rx;exact SeqAt.EqAt.list_none hl hu
 |bl b=>cases rx;exact SeqAt.EqAt.list_bool b hl hu
 |int b=>obtain⟨t,rfl⟩:=rx;exact SeqAt.EqAt.list_int b t hl hu
 |str b=>obtain⟨t,rfl⟩:=rx;exact SeqAt.EqAt.list_str b t hl hu
 |_=>exact absurd (show false=true from fx) xF0
theorem eq_lr{A:Around}{s:Shared}{x:V}{v:Value}{l:Addr}{items:Array Value}(rx:RelV x v)(fx:wY x=true)(hl:s.heap.IsList l items)(hu:A.units<cLine):SeqAt.EqAt A s v (.ref l) false:=by
 cases x with
 |non=>cases rx;exact SeqAt.EqAt.none_list hl hu
 |bl b=>cases rx;exact SeqAt.EqAt.bool_list b hl hu
 |int b=>obtain⟨t,rfl⟩:=rx;exact SeqAt.EqAt.int_list b t hl hu
 |str b=>obtain⟨t,rfl⟩:=rx;exact SeqAt.EqAt.str_list b t hl hu
 |_=>exact absurd (show false=true from fx) xF0
theorem yMN{A:Around}{s:Shared}{x:V}{v:Value}{l:Addr}{items:Array Value}(rx:RelV x v)(fx:wY x=true)(hl:s.heap.IsTuple l items)(hu:A.units<cLine):SeqAt.EqAt A s (.ref l) v false:=by
 cases x with
 |non=>cases rx;exact SeqAt.EqAt.tuple_none hl hu
 |bl b=>cases rx;exact SeqAt.EqAt.tuple_bool b hl hu
 |int b=>obtain⟨t,rfl⟩:=rx;exact SeqAt.EqAt.tuple_int b t hl hu
 |str b=>obtain⟨t,rfl⟩:=rx;exact SeqAt.EqAt.tuple_str b t hl hu
 |_=>exact absurd (show false=true from fx) xF0
theorem yMO{A:Around}{s:Shared}{x:V}{v:Value}{l:Addr}{items:Array Value}(rx:RelV x v)(fx:wY x=true)(hl:s.heap.IsTuple l items)(hu:A.units<cLine):SeqAt.EqAt A s v (.ref l) false:=by
 cases x with
 |non=>cases rx;exact SeqAt.EqAt.none_tuple hl hu
 |bl b=>cases rx;exact SeqAt.EqAt.bool_tuple b hl hu
 |int b=>obtain⟨t,rfl⟩:=rx;exact SeqAt.EqAt.int_tuple b t hl hu
 |str b=>obtain⟨t,rfl⟩:=rx;exact SeqAt.EqAt.str_tuple b t hl hu
 |_=>exact absurd (show false=true from fx) xF0
theorem rc_ll{A:Around}{s:Shared}{x:V}{v:Value}{l:Addr}{items:Array Value}(rx:RelV x v)(fx:wY x=true)(hl:s.heap.IsList l items)(hu:A.units<cLine):SeqAt.RcAt A s (.ref l) v false:=by
 cases x with
 |non=>cases rx;exact SeqAt.RcAt.list_none hl hu
 |bl b=>cases rx;exact SeqAt.RcAt.list_bool b hl hu
 |int b=>obtain⟨t,rfl⟩:=rx;exact SeqAt.RcAt.list_int b t hl hu
 |str b=>obtain⟨t,rfl⟩:=rx;exact SeqAt.RcAt.list_str b t hl hu
 |_=>exact absurd (show false=true from fx) xF0
theorem rc_lr{A:Around}{s:Shared}{x:V}{v:Value}{l:Addr}{items:Array Value}(rx:RelV x v)(fx:wY x=true)(hl:s.heap.IsList l items)(hu:A.units<cLine):SeqAt.RcAt A s v (.ref l) false:=by
 cases x with
 |non=>cases rx;exact SeqAt.RcAt.none_list hl hu
 |bl b=>cases rx;exact SeqAt.RcAt.bool_list b hl hu
 |int b=>obtain⟨t,rfl⟩:=rx;exact SeqAt.RcAt.int_list b t hl hu
 |str b=>obtain⟨t,rfl⟩:=rx;exact SeqAt.RcAt.str_list b t hl hu
 |_=>exact absurd (show false=true from fx) xF0
theorem rc_tl{A:Around}{s:Shared}{x:V}{v:Value}{l:Addr}{items:Array Value}(rx:RelV x v)(fx:wY x=true)(hl:s.heap.IsTuple l items)(hu:A.units<cLine):SeqAt.RcAt A s (.ref l) v false:=by
 cases x with
 |non=>cases rx;exact SeqAt.RcAt.tuple_none hl hu
 |bl b=>cases rx;exact SeqAt.RcAt.tuple_bool b hl hu
 |int b=>obtain⟨t,rfl⟩:=rx;exact SeqAt.RcAt.tuple_int b t hl hu
 |str b=>obtain⟨t,rfl⟩:=rx;exact SeqAt.RcAt.tuple_str b t hl hu
 |_=>exact absurd (show false=true from fx) xF0
theorem rc_tr{A:Around}{s:Shared}{x:V}{v:Value}{l:Addr}{items:Array Value}(rx:RelV x v)(fx:wY x=true)(hl:s.heap.IsTuple l items)(hu:A.units<cLine):SeqAt.RcAt A s v (.ref l) false:=by
 cases x with
 |non=>cases rx;exact SeqAt.RcAt.none_tuple hl hu
 |bl b=>cases rx;exact SeqAt.RcAt.bool_tuple b hl hu
 |int b=>obtain⟨t,rfl⟩:=rx;exact SeqAt.RcAt.int_tuple b t hl hu
 |str b=>obtain⟨t,rfl⟩:=rx;exact SeqAt.RcAt.str_tuple b t hl hu
 |_=>exact absurd (show false=true from fx) xF0
theorem rn_ll{A:Around}{s:Shared}{x:V}{v:Value}{l:Addr}{items:Array Value}(rx:RelV x v)(fx:wY x=true)(hl:s.heap.IsList l items)(hu:A.units<cLine):SeqAt.RcNeAt A s (.ref l) v true:=by
 cases x with
 |non=>cases rx;exact SeqAt.RcNeAt.list_none hl hu
 |bl b=>cases rx;exact SeqAt.RcNeAt.list_bool b hl hu
 |int b=>obtain⟨t,rfl⟩:=rx;exact SeqAt.RcNeAt.list_int b t hl hu
 |str b=>obtain⟨t,rfl⟩:=rx;exact SeqAt.RcNeAt.list_str b t hl hu
 |_=>exact absurd (show false=true from fx) xF0
theorem rn_lr{A:Around}{s:Shared}{x:V}{v:Value}{l:Addr}{items:Array Value}(rx:RelV x v)(fx:wY x=true)(hl:s.heap.IsList l items)(hu:A.units<cLine):SeqAt.RcNeAt A s v (.ref l) true:=by
 cases x with
 |non=>cases rx;exact SeqAt.RcNeAt.none_list hl hu
 |bl b=>cases rx;exact SeqAt.RcNeAt.bool_list b hl hu
 |int b=>obtain⟨t,rfl⟩:=rx;exact SeqAt.RcNeAt.int_list b t hl hu
 |str b=>obtain⟨t,rfl⟩:=rx;exact SeqAt.RcNeAt.str_list b t hl hu
 |_=>exact absurd (show false=true from fx) xF0
theorem rn_tl{A:Around}{s:Shared}{x:V}{v:Value}{l:Addr}{items:Array Value}(rx:RelV x v)(fx:wY x=true)(hl:s.heap.IsTuple l items)(hu:A.units<cLine):SeqAt.RcNeAt A s (.ref l) v true:=by
 cases x with
 |non=>cases rx;exact SeqAt.RcNeAt.tuple_none hl hu
 |bl b=>cases rx;exact SeqAt.RcNeAt.tuple_bool b hl hu
 |int b=>obtain⟨t,rfl⟩:=rx;exact SeqAt.RcNeAt.tuple_int b t hl hu
 |str b=>obtain⟨t,rfl⟩:=rx;exact SeqAt.RcNeAt.tuple_str b t hl hu
 |_=>exact absurd (show false=true from fx) xF0
theorem rn_tr{A:Around}{s:Shared}{x:V}{v:Value}{l:Addr}{items:Array Value}(rx:RelV x v)(fx:wY x=true)(hl:s.heap.IsTuple l items)(hu:A.units<cLine):SeqAt.RcNeAt A s v (.ref l) true:=by
 cases x with
 |non=>cases rx;exact SeqAt.RcNeAt.none_tuple hl hu
 |bl b=>cases rx;exact SeqAt.RcNeAt.bool_tuple b hl hu
 |int b=>obtain⟨t,rfl⟩:=rx;exact SeqAt.RcNeAt.int_tuple b t hl hu
 |str b=>obtain⟨t,rfl⟩:=rx;exact SeqAt.RcNeAt.str_tuple b t hl hu
 |_=>exact absurd (show false=true from fx) xF0
theorem yEC{y:V}(h:wY y=true):eqV y y=true:=by
 cases y<;>first |rfl|(simp [eqV];done)|exact absurd (show false=true from h) xF0
inductive NK where
 |key (k:Key)|tup (ks:List NK)
noncomputable instance:DecidableEq NK:=λ_ _=>Classical.propDecidable _
section
variable{prog:Program}{w:World}(knd:KeyKind prog w Key)
mutual
def isN(h:Heap):NK->Value->Prop
 |.key k,v=>knd.is k v=true
 |.tup ks,v=> ∃a o items n,v=.ref a/\h.get? a=some o/\o.cls=.type "tuple"/\o.data=.seq items n/\zHK h ks items.toList
def zHK(h:Heap):List NK->List Value->Prop
 |[],vs=>vs=[]
 |k::ks,vs=> ∃v r,vs=v::r/\isN h k v/\zHK h ks r
end
mutual
def zFR:NK->Int
 |.key k=>knd.hash k
 |.tup ks=>reduceHash (Builtin.Tuple.tupleHashOf (zMT ks))
def zMT:List NK->List Int
 |[]=>[]
 |k::ks=>zFR k::zMT ks
end
mutual
def zMU:NK->Nat
 |.key _=>1
 |.tup ks=>cH ks+1
def cH:List NK->Nat
 |[]=>0
 |k::ks=>zMU k+cH ks
end
mutual
def zLO:NK->Nat
 |.key _=>0
 |.tup ks=>zLD ks+1
def zLD:List NK->Nat
 |[]=>0
 |k::ks=>max (zLO k) (zLD ks)
end
variable{knd}
theorem gF{h:Heap}{k:Key}{v:Value}:isN knd h (.key k) v↔knd.is k v=true:=by unfold isN;exact Iff.rfl
theorem wU{h:Heap}{ks:List NK}{v:Value}:isN knd h (.tup ks) v↔ ∃a o items n,v=.ref a/\h.get? a=some o/\o.cls=.type "tuple"/\o.data=.seq items n/\zHK knd h ks items.toList:=by
 conv=>lhs;unfold isN
theorem kR{h:Heap}{vs:List Value}:zHK knd h [] vs↔vs=[]:=by unfold zHK;exact Iff.rfl
theorem yX{h:Heap}{k:NK}{ks:List NK}{vs:List Value}:zHK knd h (k::ks) vs↔ ∃v r,vs=v::r/\isN knd h k v/\zHK knd h ks r:=by
 conv=>lhs;unfold zHK
mutual
theorem zRU{h:Heap}: ∀{x y:NK}{v:Value},isN knd h x v->isN knd h y v->x=y
 |.key k,.key k',v,hx,hy=>by rw [knd.inj v k k' (gF.mp hx) (gF.mp hy)]
 |.key k,.tup ks,v,hx,hy=>by
  obtain⟨a,o,items,n,rfl,_⟩:=wU.mp hy
  have:=knd.byValue _ _ (gF.mp hx)
  simp [carriedByValue]at this
 |.tup ks,.key k,v,hx,hy=>by
  obtain⟨a,o,items,n,rfl,_⟩:=wU.mp hx
  have:=knd.byValue _ _ (gF.mp hy)
  simp [carriedByValue]at this
 |.tup ks,.tup ks',v,hx,hy=>by
  obtain⟨a,o,items,n,e,ho,_,hd,hi⟩:=wU.mp hx
  obtain⟨a',o',items',n',e',ho',_,hd',hi'⟩:=wU.mp hy
  rw [e]at e'
  cases e'
  obtain rfl:o=o':=Option.some.inj (ho.symm.trans ho')
  rw [hd]at hd'
  injection hd' with h1 _
  subst h1
  rw [zUJ hi hi']
theorem zUJ{h:Heap}: ∀{xs ys:List NK}{vs:List Value},zHK knd h xs vs->zHK knd h ys vs->xs=ys
 |[],[],_,_,_=>rfl
 |[],y::ys,vs,hx,hy=>by
  obtain⟨v,r,e,_⟩:=yX.mp hy
  rw [kR.mp hx]at e;cases e
 |x::xs,[],vs,hx,hy=>by
  obtain⟨v,r,e,_⟩:=yX.mp hx
  rw [kR.mp hy]at e;cases e
 |x::xs,y::ys,vs,hx,hy=>by
  obtain⟨v,r,e,h1,h2⟩:=yX.mp hx
  obtain⟨v',r',e',h1',h2'⟩:=yX.mp hy
  rw [e]at e'
  cases e'
  rw [zRU h1 h1',zUJ h2 h2']
end
mutual
theorem zUK{h h':Heap}(m: ∀a o items n,h.get? a=some o->o.data=.seq items n->h'.get? a=some o): ∀{x:NK}{v:Value},isN knd h x v->isN knd h' x v
 |.key k,v,hx=>gF.mpr (gF.mp hx)
 |.tup ks,v,hx=>by
  obtain⟨a,o,items,n,e,ho,hc,hd,hi⟩:=wU.mp hx
  exact wU.mpr ⟨a,o,items,n,e,m a o items n ho hd,hc,hd,zQC m hi⟩
theorem zQC{h h':Heap}(m: ∀a o items n,h.get? a=some o->o.data=.seq items n->h'.get? a=some o): ∀{xs:List NK}{vs:List Value},zHK knd h xs vs->zHK knd h' xs vs
 |[],vs,hx=>kR.mpr (kR.mp hx)
 |x::xs,vs,hx=>by
  obtain⟨v,r,e,h1,h2⟩:=yX.mp hx
  exact yX.mpr ⟨v,r,e,zUK m h1,zQC m h2⟩
end
theorem zMV: ∀ks:List NK,zMT knd ks=ks.map (zFR knd)
 |[]=>by unfold zMT;rfl
 |k::ks=>by unfold zMT;rw [zMV ks];rfl
theorem zHW:cH []=0:=by rw [cH]
theorem zFS(k:NK)(ks:List NK):cH (k::ks)=zMU k+cH ks:=by rw [cH]
theorem zMW(k:NK)(ks:List NK):zLD (k::ks)=max (zLO k) (zLD ks):=by rw [zLD]
theorem zDU(ks:List NK):zLO (.tup ks)=zLD ks+1:=by rw [zLO]
theorem zHN: ∀(xs ys:List NK),cH (xs++ys)=cH xs+cH ys
 |[],ys=>by rw [zHW,nil_append,zero_add]
 |x::xs,ys=>by rw [cons_append,zFS,zFS,zHN xs ys];omega
theorem zIK{s:Shared}{ks:List NK}{a:Addr}(h:isN knd s.heap (.tup ks) (.ref a)):s.TypeIs (.ref a) "tuple":=by
 obtain⟨a',o,items,n,e,ho,hc,_⟩:=wU.mp h
 cases e
 exact⟨o,ho,hc⟩
theorem zUL: ∀(n:Nat){A:Around}{E:VP}{s:Shared}{k:NK}{v:Value}{Q:Int->Shared->Prop},zLO k<=n->A.units+n<cLine->isN knd s.heap k v->Q (zFR knd k) {s with toks:=s.toks+zMU k}->wpAny (model prog w) A (pyHash v) Q E s
 |n,A,E,s,.key k,v,Q,_,_,hk,h=>knd.pyHash (gF.mp hk) (by rw [zFR,zMU]at h;exact h)
 |0,A,E,s,.tup ks,v,Q,hd,_,_,_=>by rw [zDU]at hd;omega
 |n+1,A,E,s,.tup ks,v,Q,hdep,hu,hk,h=>by
  obtain⟨a,o,items,m,rfl,ho,hc,hd,hi⟩:=wU.mp hk
  have hT:s.TypeIs (.ref a) "tuple":=⟨o,ho,hc⟩
  rw [zDU]at hdep
  have hdl: ∀k∈ks,zLO k<=n:=by
   have: ∀ks:List NK,zLD ks<=n-> ∀k∈ks,zLO k<=n:=by
    intro ks
    induction ks with
    |nil=>intro _ k hk;simp at hk
    |cons x xs ih=>
     intro hx k hk
     rw [zMW]at hx
     rcases mC.mp hk with rfl|hk
     ·omega
     ·exact ih (by omega) k hk
   exact this ks (by omega)
  rw [zFR,zMU,zMV]at h
  unfold pyHash
  first |unfold pyHashByItsType|skip
  first |refine wB0 (wpAny_cRoomFor_or (.inr (show A.units<cLine by omega)) ?_)|skip
  refine wB0 (wpAny_specialOf hT F.slot_tuple_hash.lookup ?_)
  show wpAny _ _ (if(some (Value.builtin "tuple.__hash__")==some Value.none)=true then _ else _) Q E s
  rw [iN (by rw [beq_builtin_none];exact xF0)]
  refine wB0 (wpAny_specialOf hT F.slot_tuple_hash.lookup ?_)
  show wpAny _ _ (callSpecialIfBoundUnlessNone? (.ref a) "__hash__" _ >>= _) Q E s
  refine wB0 (wpAny_callSpecialIfBoundUnlessNone?_slot hT F.slot_tuple_hash (wpAny_call_entry F.slot_tuple_hash hT F.entry_tuple_hash ?_ (F.args_tuple_hash_1 _)))
  show wpAny _ _ (Builtin.Tuple.tupleItemsOf (.ref a) >>= _) _ _ s
  refine wB0 (wpAny_tupleItemsOf ho hd ?_)
  refine wB0 ?_
  rw [<-Array.forIn_toList]
  refine wpAny_forIn_list _
   (λnL (b:Array Int) s'=> ∃done left,ks=done++left/\zHK knd s.heap left nL/\b.toList=done.map (zFR knd)/\s'={s with toks:=s.toks+cH done})
   _ ?_ ?_ _ _ ⟨[],ks,rfl,hi,rfl,by rw [zHW];rfl⟩
  ·rintro x nL b s' ⟨done,left,rfl,hl,hb,rfl⟩
   cases left with
   |nil=>rw [kR]at hl;cases hl
   |cons k ks'=>
    obtain⟨v,r,e,h1,hl'⟩:=yX.mp hl
    cases e
    refine wB0 (zUL n (hdl k (by simp)) (show A.units+1+n<cLine by omega) h1 ?_)
    have e1:cH (done++[k])=cH done+zMU k:=by rw [zHN,zFS,zHW];rfl
    first
     |exact wP0 ⟨done++[k],ks',by simp,hl',by simp [hb],by simp [add_assoc,e1]⟩
     |exact wB0 (wP0 (wP0 ⟨done++[k],ks',by simp,hl',by simp [hb],by simp [add_assoc,e1]⟩))
  ·rintro b s' ⟨done,left,rfl,hl,hb,rfl⟩
   cases left with
   |cons k ks'=>obtain⟨v,r,e,_⟩:=yX.mp hl;cases e
   |nil=>
    rw [aN]at h
    show wpAny _ _ (retInt (Builtin.Tuple.tupleHashOf b.toList)) _ _ _
    rw [hb]
    refine wpAny_ret_mkInt ?_
    show wpAny _ _ (if(decide (-(2:Int) ^ 63<=Builtin.Tuple.tupleHashOf (done.map (zFR knd)))&&decide (Builtin.Tuple.tupleHashOf (done.map (zFR knd))<2 ^ 63))=true then _ else _) Q E _
    unfold reduceHash at h
    by_cases hr:(decide (-(2:Int) ^ 63<=Builtin.Tuple.tupleHashOf (done.map (zFR knd)))&&decide (Builtin.Tuple.tupleHashOf (done.map (zFR knd))<2 ^ 63))=true
    ·rw [iP hr]
     rw [iP hr]at h
     exact wP0 (by simpa [add_assoc]using h)
    ·rw [iN hr]
     rw [iN hr]at h
     exact wB0 (wpAny_rule (wP0 (by simpa [add_assoc]using h)))
end
section
variable{prog:Program}{w:World}
abbrev mk(prog:Program)(w:World):KeyKind prog w Key:=xA prog w
theorem yJJ(a b:Key):decide (NK.key a=NK.key b)=decide (a=b):=by
 by_cases h:a=b
 ·subst h;simp
 ·rw [dF0 h,dF0 λz=>h (NK.key.inj z)]
theorem yOU(a:Key)(b:List NK):decide (NK.key a=NK.tup b)=false:=dF0 λz=>nomatch z
theorem yOV(a:Key)(b:List NK):decide (NK.tup b=NK.key a)=false:=dF0 λz=>nomatch z
theorem yOW(a b:List NK):decide (NK.tup a=NK.tup b)=decide (a=b):=by
 by_cases h:a=b
 ·subst h;simp
 ·rw [dF0 h,dF0 λz=>h (NK.tup.inj z)]
theorem zUM{k:Key}{v:Value}(h:(mk prog w).is k v=true): ∃x:V,RelV x v/\wY x=true:=by
 rcases yO (show zMN k v=true from h)with⟨i,t,rfl,rfl⟩|⟨x,t,rfl,rfl⟩
 ·exact⟨.int i,⟨t,rfl⟩,rfl⟩
 ·exact⟨.str x,⟨t,rfl⟩,rfl⟩
theorem yCC{A:Around}{E:VP}{s:Shared}{x y:List NK}{a b:Addr}{P:Fin->Shared->Prop}
  (he: ∀k1∈x, ∀k2 u v (Q:Bool->Shared->Prop),isN (mk prog w) s.heap k1 u->isN (mk prog w) s.heap k2 v->Q (decide (k1=k2)) s->wpAny (model prog w) A (eqBool u v) Q E s)
  (hx:isN (mk prog w) s.heap (.tup x) (.ref a)) (hy:isN (mk prog w) s.heap (.tup y) (.ref b)) (h:P (.done (.ret (.bool (decide (x=y))))) s):
  wpAny (model prog w) A (Builtin.«tuple.__eq__» ⟨[.ref a,.ref b],[]⟩) P E s:=by
 have hTb:=zIK hy
 obtain⟨_,oa,xs,na,e,hoa,_,hda,hia⟩:=wU.mp hx
 cases e
 obtain⟨_,ob,ys,nb,e,hob,_,hdb,hib⟩:=wU.mp hy
 cases e
 show wpAny _ _ (isInstance (.ref b) (.type "tuple") >>= _) _ _ s
 refine wB0 (wpAny_isInstance hTb isSubtype_tuple_tuple ?_)
 simp only [Bool.not_true,fT,iF]
 refine wB0 (wpAny_tupleItemsOf hoa hda ?_)
 refine wB0 (wpAny_tupleItemsOf hob hdb ?_)
 refine wB0 ?_
 refine wpAny_forIn_list _
  (λnL r s'=>r.1=none/\s'=s/\ ∃x' y' xs' ys',nL=List.zip xs' ys'/\(∀k∈x',k∈x)/\zHK (mk prog w) s.heap x' xs'/\zHK (mk prog w) s.heap y' ys'/\decide (x'=y')=decide (x=y)/\(xs'.length==ys'.length)=(xs.size==ys.size))
  _ ?_ ?_ _ _ ⟨rfl,rfl,x,y,xs.toList,ys.toList,rfl,λk hk=>hk,hia,hib,rfl,by simp⟩
 ·rintro⟨u,v⟩ nL r s' ⟨hr,rfl,x',y',xs',ys',hz,hm,hx',hy',hdec,hlen⟩
  cases x' with
  |nil=>rw [kR.mp hx']at hz;simp at hz
  |cons k1 x''=>
   cases y' with
   |nil=>rw [kR.mp hy']at hz;simp at hz
   |cons k2 y''=>
    obtain⟨u',xs'',rfl,h1,hx''⟩:=yX.mp hx'
    obtain⟨v',ys'',rfl,h2,hy''⟩:=yX.mp hy'
    simp only [zip_cons_cons,List.cons.injEq,Prod.mk.injEq]at hz
    obtain⟨⟨rfl,rfl⟩,rfl⟩:=hz
    refine wB0 (he k1 (hm k1 mF0) k2 _ _ _ h1 h2 ?_)
    by_cases hk:k1=k2
    ·subst hk
     rw [dT0 rfl]
     simp only [Bool.not_true,fT,iF]
     refine wP0 ⟨rfl,rfl,x'',y'',xs'',ys'',rfl,λk hk=>hm k (mO _ hk),hx'',hy'',?_,by simpa using hlen⟩
     rw [<-hdec]
     by_cases hxy:x''=y''
     ·simp [hxy]
     ·simp [hxy]
    ·rw [dF0 hk]
     simp only [Bool.not_false,if_true]
     have hf:decide (x=y)=false:=by rw [<-hdec];simp [hk]
     rw [hf]at h
     exact wB0 (wP0 (wP0 (wP0 h)))
 ·rintro⟨r1,r2⟩ s' ⟨hr,rfl,x',y',xs',ys',hz,hm,hx',hy',hdec,hlen⟩
  simp only at hr
  subst hr
  refine wP0 ?_
  have hfin:(xs.size==ys.size)=decide (x=y):=by
   rw [<-hdec, <-hlen]
   cases x' with
   |nil=>
    rw [kR.mp hx']
    cases y' with
    |nil=>rw [kR.mp hy'];simp
    |cons k2 y''=>obtain⟨v',ys'',rfl,h2,hy''⟩:=yX.mp hy';simp
   |cons k1 x''=>
    obtain⟨u',xs'',rfl,h1,hx''⟩:=yX.mp hx'
    cases y' with
    |nil=>rw [kR.mp hy'];simp
    |cons k2 y''=>obtain⟨v',ys'',rfl,h2,hy''⟩:=yX.mp hy';simp at hz
  show P (.done (.ret (.bool (xs.size==ys.size)))) s'
  rw [hfin];exact h
theorem zMX{n:Nat}: ∀{ks:List NK},zLD ks<=n-> ∀k∈ks,zLO k<=n
 |[],_,k,hk=>by simp at hk
 |x::xs,hx,k,hk=>by
  rw [zMW]at hx
  rcases mC.mp hk with rfl|hk
  ·omega
  ·exact zMX (by omega) k hk
theorem zUN: ∀(n:Nat){A:Around}{E:VP}{s:Shared}{x y:NK}{u v:Value}{Q:Bool->Shared->Prop},zLO x<=n->A.units+n<cLine->isN (mk prog w) s.heap x u->isN (mk prog w) s.heap y v->Q (decide (x=y)) s->wpAny (model prog w) A (eqBool u v) Q E s
 |n,A,E,s,.key a,.key b,u,v,Q,_,_,hx,hy,h=>(mk prog w).eqBool (gF.mp hx) (gF.mp hy) (by rw [yJJ]at h;exact h)
 |n,A,E,s,.key a,.tup b,u,v,Q,_,hu,hx,hy,h=>by
  obtain⟨z,rz,fz⟩:=zUM (gF.mp hx)
  obtain⟨l,o,items,m,rfl,ho,hc,hd,_⟩:=wU.mp hy
  rw [yOU]at h
  exact yMO rz fz (items:=items) ⟨o,ho,hc,m,hd⟩ (by omega) prog w E Q h
 |n,A,E,s,.tup a,.key b,u,v,Q,_,hu,hx,hy,h=>by
  obtain⟨z,rz,fz⟩:=zUM (gF.mp hy)
  obtain⟨l,o,items,m,rfl,ho,hc,hd,_⟩:=wU.mp hx
  rw [yOV]at h
  exact yMN rz fz (items:=items) ⟨o,ho,hc,m,hd⟩ (by omega) prog w E Q h
 |0,A,E,s,.tup a,.tup b,u,v,Q,hd,_,hx,hy,h=>by rw [zDU]at hd;omega
 |n+1,A,E,s,.tup x,.tup y,u,v,Q,hd,hu,hx,hy,h=>by
  obtain⟨a,_,_,_,ea,_⟩:=wU.mp hx
  obtain⟨b,_,_,_,eb,_⟩:=wU.mp hy
  subst ea eb
  rw [zDU]at hd
  rw [yOW]at h
  unfold eqBool
  try with_reducible refine wpAny_holding ?_
  show wpAny _ _ (if(Value.ref a==Value.ref b)=true then _ else _) Q E s
  by_cases hab:(Value.ref a==Value.ref b)=true
  ·rw [iP hab]
   have e:a=b:=by have:=eq_of_beq hab;injection this
   subst e
   have:x=y:=NK.tup.inj (zRU hx hy)
   subst this
   exact wB0 (wpAny_rule (wP0 (by simpa using h)))
  ·rw [iN hab]
   refine wB0 (wpAny_richCompare_same_room (op:=.Eq) (zIK hx) (zIK hy) F.slot_tuple_eq
    (wpAny_call_entry F.slot_tuple_eq (zIK hx) F.entry_tuple_eq (yCC (λk1 hk1 k2 u v Q h1 h2 h3=>zUN n (zMX (by omega) k1 hk1) (show A.units+1+n<cLine by omega) h1 h2 h3) hx hy ⟨_,rfl,(λe=>nomatch e),wpAny_truthy_bool h⟩) (F.args_tuple_eq_2 _ _)) (by omega))
theorem zYV: ∀(n m:Nat){A:Around}{E:VP}{s:Shared}{x:NK}{u:Value}{Q:Bool->Shared->Prop},zLO x<=n->n<m->isN (mk prog w) s.heap x u->Q true s->wpAny (model prog w) A (eqIsQuiet m u) Q E s
 |n,m,A,E,s,.key k,u,Q,_,_,hx,h=>by
  rw [eqIsQuiet_byValue m ((mk prog w).byValue _ _ (gF.mp hx))]
  exact wP0 h
 |0,m,A,E,s,.tup ks,u,Q,hd,_,hx,h=>by rw [zDU]at hd;omega
 |n+1,0,A,E,s,.tup ks,u,Q,hd,hm,hx,h=>by omega
 |n+1,m+1,A,E,s,.tup ks,u,Q,hdp,hm,hx,h=>by
  obtain⟨a,o,items,j,rfl,ho,hc,hd,hi⟩:=wU.mp hx
  have hT:s.TypeIs (.ref a) "tuple":=⟨o,ho,hc⟩
  rw [zDU]at hdp
  unfold eqIsQuiet
  refine wB0 (wpAny_specialOf hT F.slot_tuple_eq.lookup ?_)
  show wpAny _ _ (isInstance (.ref a) (.type "tuple") >>= _) _ _ s
  refine wB0 (wpAny_isInstance hT isSubtype_tuple_tuple ?_)
  simp only [Bool.not_true,fT,iF]
  refine wB0 (wpAny_seqItems ho hd ?_)
  refine wB0 ?_
  show wpAny _ _ (forIn items _ _) _ _ s
  rw [<-Array.forIn_toList]
  refine wpAny_forIn_list _ (λnL r s'=>r.1=none/\s'=s/\ ∃left,(∀k∈left,k∈ks)/\zHK (mk prog w) s.heap left nL) _ ?_ ?_ _ _ ⟨rfl,rfl,ks,λk hk=>hk,hi⟩
  ·rintro v nL r s' ⟨hr,rfl,left,hm',hl⟩
   cases left with
   |nil=>rw [kR]at hl;cases hl
   |cons k left=>
    obtain⟨v',r',e,h1,h2⟩:=yX.mp hl
    cases e
    refine wB0 (zYV n m (zMX (by omega) k (hm' k mF0)) (by omega) h1 ?_)
    simp only [Bool.not_true,fT,iF]
    exact wP0 ⟨rfl,rfl,left,λk hk=>hm' k (mO _ hk),h2⟩
  ·rintro⟨r1,r2⟩ s' ⟨hr,rfl,_⟩
   simp only at hr
   subst hr
   exact wP0 h
end
noncomputable def yED(prog:Program)(w:World):HeapKind prog w NK where
 is:=λh k a=>isN (mk prog w) h k (.ref a)/\zLO k<=4
 hash:=zFR (mk prog w)
 draws:=zMU
 room:=λA=>A.units+4<cLine
 inj:=λhx hy=>zRU hx.1 hy.1
 keeps:=λx ho hd hs=>⟨zUK (λa o' items n e q=>(hs.2 a λz=>by
  subst z
  rw [ho]at e;cases e
  rw [hd]at q;cases q).trans e) x.1,x.2⟩
 pyHash:=λhu hk h=>zUL 4 hk.2 hu hk.1 h
 eqBool:=λhu hx hy h=>zUN 4 hx.2 hu hx.1 hy.1 h
 quiet:=λhk h=>zYV 4 8 hk.2 (by decide) hk.1 h
def DN(P:Program)(w:World)(a:Addr)(xs:List (NK×Addr×Value)):HO:=
 .ext λh=>xs.length<=sizeLine/\(a==sysModules)=false/\ ∃o es ep,h.get? a=some o/\o.ExactDict/\o.data=.dict es ep/\es.toList=xs.map (entryOfKey (yED P w))/\(xs.map (·.1)).Nodup
end M
end L2
namespace L2
open PySem PySem.Spec PyProof.Rows
def Fly(h:Heap)(e T:Addr)(cls:Value)(d:Option Addr)(fl:Value):Prop:=
 ∃oe vs oT ts,h.get? e=some oe/\oe.cls=cls/\oe.dict=d/\oe.data=.fields vs/\vs[1]? =some (.ref T)/\T≠e/\h.get? T=some oT/\oT.data=.fields ts/\ts[3]? =some fl
structure Mvd(fs:List Addr)(e T:Addr)(h h':Heap):Prop where
 keep: ∀b o,b≠e->b≠T->b∉fs->h.get? b=some o->h'.get? b=some o
 slot: ∀b o,b≠e->b≠T->h.get? b=some o-> ∃sl,h'.get? b=some {o with slots:=sl}
 there: ∀b o,h.get? b=some o-> ∃o',h'.get? b=some o'
theorem Mvd.new{fs:List Addr}{e T T':Addr}{h h1 h2:Heap}(a:Mvd fs e T h h1)(n:h.get? T'=none)(b:Mvd fs e T' h1 h2):Mvd fs e T h h2:=by
 have ne: ∀c o,h.get? c=some o->c≠T':=λc o q z=>by rw [z,n]at q;cases q
 exact⟨λc o h1 h2 h3 q=>b.keep c o h1 (ne c o q) h3 (a.keep c o h1 h2 h3 q),λc o h1 h2 q=>by
  obtain⟨sl,e1⟩:=a.slot c o h1 h2 q
  obtain⟨sl',e2⟩:=b.slot c _ h1 (ne c o q) e1
  exact⟨sl',e2⟩,λc o q=>let ⟨o',e1⟩:=a.there c o q;b.there c o' e1⟩
def CXe(P:Program)(w:World):CXT:=λouter H s E x s'=> ∃e T C d H',x=.ref e/\s'.os=s.os/\AllBare s'.gens/\Un (frs outer) [] H H' s.heap s'.heap/\HOk P w H' s'.heap/\Fly s'.heap e T (.ref C) d .none/\
 s.heap.get? e=none/\s.heap.get? T=none/\H' e=none/\H' T=none/\E (.ref C) d H'
abbrev bmV:List Value:=[.type "ValueError",.type "Exception",.type "BaseException",.type "object"]
def qn:List Str:=["__class__","__getattribute__","__getattr__","__setattr__","place","number"]
end L2
namespace L2
namespace M
open PySem PySem.Spec PyProof.Rows
inductive MV where
 |non|bl (b:Bool)|int (i:Int)|str (x:List Nat)|tup (ds:List MV)|scr (ds:List MV)|loc (l:Nat)|typ (n:String)|obj (c:Str) (ns:List Str) (ds:List MV)
instance:Inhabited MV:=⟨.non⟩
inductive MO where
 |lst (ds:List MV)|dic (kvs:List (MV×MV))|ins (c:Str) (fs:List (Str×MV))
abbrev Sto:=List MO
def SqF(K:PySem.W.Frag)(H:Hp)(a:Addr)(xs:List V):Prop:=
 (∃o,H a=some (.frz o (.lst xs)))\/
  ∃(o:Obj)(its:Array Value)(n:Nat),K.lookup a=some o/\o.cls=.type "list"/\o.dict=none/\o.data=.seq its n/\its.size<=sizeLine/\Vals xs its.toList
theorem SqF.l{K:PySem.W.Frag}{H:Hp}{a:Addr}{xs:List V}(h:SqF K H a xs):SqL K H a xs:=by
 rcases h with⟨o,h⟩|h
 ·exact .inl (.inr ⟨o,h⟩)
 ·exact .inr h
mutual
def Den(K:PySem.W.Frag)(α:List Addr)(H:Hp):MV->V->Prop
 |.non,v=>v=.non
 |.bl b,v=>v=.bl b
 |.int i,v=>v=.int i
 |.str x,v=>v=.str (mkS x)
 |.tup ds,v=> ∃a vs,v=.ref a/\SqT K H a vs/\DenL K α H ds vs
 |.scr ds,v=> ∃a vs,v=.ref a/\SqF K H a vs/\DenL K α H ds vs
 |.loc l,v=> ∃a,v=.ref a/\α[l]? =some a
 |.typ n,v=>v=.ty n
 |.obj c ns ds,v=> ∃a C dx vs o,v=.ref a/\H a=some (.frz o (.ins C dx (ns.zip vs)))/\PySem.W.nsIn K mainGlobals c=some (some (.ref C))/\(PySem.W.clsIn K C).map (·.name)=some c/\ns.length=vs.length/\DenL K α H ds vs
def DenL(K:PySem.W.Frag)(α:List Addr)(H:Hp):List MV->List V->Prop
 |[],vs=>vs=[]
 |d::ds,vs=> ∃v r,vs=v::r/\Den K α H d v/\DenL K α H ds r
end
structure Ex0(α:List Addr)(H:Hp)(α':List Addr)(H':Hp):Prop where
 pre: ∃t,α'=α++t
 tup: ∀b xs,H b=some (.tup xs)->H' b=some (.tup xs)
 frz: ∀b o u,H b=some (.frz o u)->H' b=some (.frz o u)
structure Ext(α:List Addr)(H:Hp)(α':List Addr)(H':Hp):Prop extends Ex0 α H α' H' where
 new: ∀b∈α',b∈α\/H b=none
 keep: ∀b o,H b=some o->b∉α->H' b=some o
 has: ∀b o,H b=some o-> ∃o',H' b=some o'
section
variable{K:PySem.W.Frag}{α α' α'':List Addr}{H H' H'':Hp}
theorem Ext.refl(α:List Addr)(H:Hp):Ext α H α H:=⟨⟨⟨[],by simp⟩,λ_ _ h=>h,λ_ _ _ h=>h⟩,λb h=>.inl h,λ_ _ h _=>h,λ_ o h=>⟨o,h⟩⟩
theorem Ex0.grow(α t:List Addr)(H:Hp):Ex0 α H (α++t) H:=⟨⟨t,rfl⟩,λ_ _ h=>h,λ_ _ _ h=>h⟩
theorem Ext.free(x:Ext α H α' H'){b:Addr}(h:H' b=none):H b=none:=by
 cases e:H b with
 |none=>rfl
 |some o=>obtain⟨o',h'⟩:=x.has b o e;rw [h]at h';cases h'
theorem Ext.out(x:Ext α H α' H'){b:Addr}{o:HO}(h:H b=some o)(n:b∉α):b∉α':=λz=>by
 rcases x.new b z with z|z
 ·exact n z
 ·rw [h]at z;cases z
theorem Ext.trans(x:Ext α H α' H')(y:Ext α' H' α'' H''):Ext α H α'' H'' where
 pre:=by
  obtain⟨t,rfl⟩:=x.pre
  obtain⟨u,rfl⟩:=y.pre
  exact⟨t++u,by rw [aA]⟩
 new:=λb h=>(y.new b h).elim (x.new b) λz=>.inr (x.free z)
 keep:=λb o h n=>y.keep b o (x.keep b o h n) (x.out h n)
 has:=λb o h=>let ⟨o',h'⟩:=x.has b o h;y.has b o' h'
 tup:=λb xs h=>y.tup b xs (x.tup b xs h)
 frz:=λb o u h=>y.frz b o u (x.frz b o u h)
theorem Ex0.at(x:Ex0 α H α' H'){l:Nat}{a:Addr}(h:α[l]? =some a):α'[l]? =some a:=by
 obtain⟨t,rfl⟩:=x.pre
 rw [getElem?_append_left (gS0.mp h).1]
 exact h
theorem Ex0.sqT(x:Ex0 α H α' H'){a:Addr}{vs:List V}(q:SqT K H a vs):SqT K H' a vs:=by
 rcases q with(q|⟨o,q⟩)|q
 ·exact .inl (.inl (x.tup a vs q))
 ·exact .inl (.inr ⟨o,x.frz a o _ q⟩)
 ·exact .inr q
theorem Ex0.sqF(x:Ex0 α H α' H'){a:Addr}{vs:List V}(q:SqF K H a vs):SqF K H' a vs:=by
 rcases q with⟨o,q⟩|q
 ·exact .inl ⟨o,x.frz a o _ q⟩
 ·exact .inr q
mutual
theorem Den.ex0(x:Ex0 α H α' H'): ∀{d:MV}{v:V},Den K α H d v->Den K α' H' d v
 |.non,_,q=>by unfold Den at q ⊢; exact q
 |.bl _,_,q=>by unfold Den at q ⊢; exact q
 |.int _,_,q=>by unfold Den at q ⊢; exact q
 |.str _,_,q=>by unfold Den at q ⊢; exact q
 |.typ _,_,q=>by unfold Den at q ⊢; exact q
 |.obj c ns ds,_,q=>by
  unfold Den at q ⊢
  obtain⟨a,C,dx,vs,o,e,h,hn,hc,hl,l⟩:=q
  exact⟨a,C,dx,vs,o,e,x.frz a _ _ h,hn,hc,hl,DenL.ex0 x l⟩
 |.loc _,_,q=>by
  unfold Den at q ⊢
  obtain⟨a,e,h⟩:=q
  exact⟨a,e,x.at h⟩
 |.tup ds,_,q=>by
  unfold Den at q ⊢
  obtain⟨a,vs,e,s,l⟩:=q
  exact⟨a,vs,e,x.sqT s,DenL.ex0 x l⟩
 |.scr ds,_,q=>by
  unfold Den at q ⊢
  obtain⟨a,vs,e,s,l⟩:=q
  exact⟨a,vs,e,x.sqF s,DenL.ex0 x l⟩
theorem DenL.ex0(x:Ex0 α H α' H'): ∀{ds:List MV}{vs:List V},DenL K α H ds vs->DenL K α' H' ds vs
 |[],_,q=>by unfold DenL at q ⊢; exact q
 |d::ds,_,q=>by
  unfold DenL at q ⊢
  obtain⟨v,r,e,a,l⟩:=q
  exact⟨v,r,e,Den.ex0 x a,DenL.ex0 x l⟩
end
theorem Den.ext(x:Ext α H α' H'){d:MV}{v:V}(q:Den K α H d v):Den K α' H' d v:=q.ex0 x.toEx0
theorem DenL.ext(x:Ext α H α' H'){d:List MV}{v:List V}(q:DenL K α H d v):DenL K α' H' d v:=q.ex0 x.toEx0
theorem zIL:Den K α H .non .non:=by unfold Den;rfl
theorem gU(b:Bool):Den K α H (.bl b) (.bl b):=by unfold Den;rfl
theorem xB(i:Int):Den K α H (.int i) (.int i):=by unfold Den;rfl
theorem zAT(x:List Nat):Den K α H (.str x) (.str (mkS x)):=by unfold Den;rfl
theorem yJK(n:String):Den K α H (.typ n) (.ty n):=by unfold Den;rfl
theorem zEM{ds:List MV}{a:Addr}{vs:List V}(s:SqT K H a vs)(l:DenL K α H ds vs):Den K α H (.tup ds) (.ref a):=by unfold Den;exact⟨a,vs,rfl,s,l⟩
theorem zYW{ds:List MV}{a:Addr}{vs:List V}(s:SqF K H a vs)(l:DenL K α H ds vs):Den K α H (.scr ds) (.ref a):=by unfold Den;exact⟨a,vs,rfl,s,l⟩
theorem zGY{l:Nat}{a:Addr}(h:α[l]? =some a):Den K α H (.loc l) (.ref a):=by unfold Den;exact⟨a,rfl,h⟩
theorem zBC{v:V}(d:Den K α H .non v):v=.non:=by unfold Den at d;exact d
theorem zCP{b:Bool}{v:V}(d:Den K α H (.bl b) v):v=.bl b:=by unfold Den at d;exact d
theorem xT{i:Int}{v:V}(d:Den K α H (.int i) v):v=.int i:=by unfold Den at d;exact d
theorem wG{x:List Nat}{v:V}(d:Den K α H (.str x) v):v=.str (mkS x):=by unfold Den at d;exact d
theorem yJL{c:Str}{ns:List Str}{ds:List MV}{a C dx:Addr}{vs:List V}{o:Obj}(h:H a=some (.frz o (.ins C dx (ns.zip vs))))(hn:PySem.W.nsIn K mainGlobals c=some (some (.ref C)))(hc:(PySem.W.clsIn K C).map (·.name)=some c)(hl:ns.length=vs.length)(l:DenL K α H ds vs):Den K α H (.obj c ns ds) (.ref a):=by unfold Den;exact⟨a,C,dx,vs,o,rfl,h,hn,hc,hl,l⟩
theorem cI{c:Str}{ns:List Str}{ds:List MV}{v:V}(d:Den K α H (.obj c ns ds) v): ∃a C dx vs o,v=.ref a/\H a=some (.frz o (.ins C dx (ns.zip vs)))/\PySem.W.nsIn K mainGlobals c=some (some (.ref C))/\(PySem.W.clsIn K C).map (·.name)=some c/\ns.length=vs.length/\DenL K α H ds vs:=by unfold Den at d;exact d
theorem nM{n:String}{v:V}(d:Den K α H (.typ n) v):v=.ty n:=by unfold Den at d;exact d
theorem xI{ds:List MV}{v:V}(d:Den K α H (.tup ds) v): ∃a vs,v=.ref a/\SqT K H a vs/\DenL K α H ds vs:=by unfold Den at d;exact d
theorem cJ{ds:List MV}{v:V}(d:Den K α H (.scr ds) v): ∃a vs,v=.ref a/\SqF K H a vs/\DenL K α H ds vs:=by unfold Den at d;exact d
theorem gV{l:Nat}{v:V}(d:Den K α H (.loc l) v): ∃a,v=.ref a/\α[l]? =some a:=by unfold Den at d;exact d
theorem yK:DenL K α H [] []:=by unfold DenL;rfl
theorem yG{d:MV}{v:V}{ds:List MV}{vs:List V}(a:Den K α H d v)(l:DenL K α H ds vs):DenL K α H (d::ds) (v::vs):=by unfold DenL;exact⟨v,vs,rfl,a,l⟩
theorem DenL.uncons{d:MV}{ds:List MV}{vs:List V}(l:DenL K α H (d::ds) vs): ∃v r,vs=v::r/\Den K α H d v/\DenL K α H ds r:=by unfold DenL at l;exact l
theorem DenL.isnil{vs:List V}(l:DenL K α H [] vs):vs=[]:=by unfold DenL at l;exact l
theorem DenL.length: ∀{ds:List MV}{vs:List V},DenL K α H ds vs->vs.length=ds.length
 |[],_,q=>by rw [q.isnil];rfl
 |d::ds,_,q=>by
  obtain⟨v,r,rfl,_,l⟩:=q.uncons
  rw [lC,lC,DenL.length l]
theorem DenL.append: ∀{ds es:List MV}{vs us:List V},DenL K α H ds vs->DenL K α H es us->DenL K α H (ds++es) (vs++us)
 |[],_,_,_,q,l=>by rw [q.isnil];exact l
 |d::ds,_,_,_,q,l=>by
  obtain⟨v,r,rfl,a,l'⟩:=q.uncons
  exact yG a (DenL.append l' l)
theorem DenL.drop: ∀{ds:List MV}{vs:List V}(n:Nat),DenL K α H ds vs->DenL K α H (ds.drop n) (vs.drop n)
 |_,_,0,q=>q
 |[],_,n+1,q=>by rw [q.isnil];exact yK
 |d::ds,_,n+1,q=>by
  obtain⟨v,r,rfl,_,l⟩:=q.uncons
  exact DenL.drop n l
theorem DenL.take: ∀{ds:List MV}{vs:List V}(n:Nat),DenL K α H ds vs->DenL K α H (ds.take n) (vs.take n)
 |_,_,0,q=>yK
 |[],_,n+1,q=>by rw [q.isnil];exact yK
 |d::ds,_,n+1,q=>by
  obtain⟨v,r,rfl,a,l⟩:=q.uncons
  exact yG a (DenL.take n l)
theorem DenL.reverse: ∀{ds:List MV}{vs:List V},DenL K α H ds vs->DenL K α H ds.reverse vs.reverse
 |[],_,q=>by rw [q.isnil];exact yK
 |d::ds,_,q=>by
  obtain⟨v,r,rfl,a,l⟩:=q.uncons
  rw [reverse_cons,reverse_cons]
  exact(DenL.reverse l).append (yG a yK)
theorem DenL.set{d:MV}{v:V}(a:Den K α H d v): ∀{ds:List MV}{vs:List V}(n:Nat),DenL K α H ds vs->DenL K α H (ds.set n d) (vs.set n v)
 |[],_,_,q=>by rw [q.isnil];exact yK
 |e::ds,_,0,q=>by
  obtain⟨v',r,rfl,a',l⟩:=q.uncons
  exact yG a l
 |e::ds,_,n+1,q=>by
  obtain⟨v',r,rfl,a',l⟩:=q.uncons
  exact yG a' (DenL.set a n l)
theorem DenL.get: ∀{ds:List MV}{vs:List V}{i:Nat}{v:V},DenL K α H ds vs->vs[i]? =some v-> ∃d,ds[i]? =some d/\Den K α H d v
 |[],_,_,_,q,e=>by rw [q.isnil]at e;simp at e
 |d::ds,_,0,_,q,e=>by
  obtain⟨v,r,rfl,a,l⟩:=q.uncons
  simp at e;subst e
  exact⟨d,rfl,a⟩
 |d::ds,_,i+1,_,q,e=>by
  obtain⟨v,r,rfl,a,l⟩:=q.uncons
  obtain⟨d',h1,h2⟩:=DenL.get (i:=i) l (by simpa using e)
  exact⟨d',by simpa using h1,h2⟩
theorem DenL.at{ds:List MV}{vs:List V}{i:Nat}{d:MV}(q:DenL K α H ds vs)(e:ds[i]? =some d): ∃v,vs[i]? =some v/\Den K α H d v:=by
 have hi:i<ds.length:=(gS0.mp e).1
 have hv:i<vs.length:=by rw [q.length];exact hi
 obtain⟨d',h1,h2⟩:=q.get (gE0 hv)
 rw [e]at h1;cases h1
 exact⟨_,gE0 hv,h2⟩
theorem DenL.cut{ds:List MV}{vs:List V}(q:DenL K α H ds vs)(lo hi:Option Int):DenL K α H (gT ds lo hi) (zUD vs lo hi):=by
 unfold gT zUD
 rw [q.length]
 exact(q.drop _).take _
theorem zQD: ∀(ns:List Int),DenL K α H (ns.map MV.int) (ns.map V.int)
 |[]=>yK
 |b::bs=>yG (xB b) (zQD bs)
end
structure Gm where
 K:PySem.W.Frag
 mg:Str->Option Value
 P:Program
 w:World
abbrev _root_.L2.Cx.g(X:Cx):Gm:=⟨X.K,X.mg,X.prog,X.w⟩
inductive DenF(K:PySem.W.Frag)(α:List Addr)(H:Hp):List (Str×MV)->List (Str×V)->Prop
 |nil:DenF K α H [] []
 |cons {x:Str} {d:MV} {v:V} {fs gs}:Den K α H d v->DenF K α H fs gs->DenF K α H ((x,d)::fs) ((x,v)::gs)
theorem DenF.ex0{K:PySem.W.Frag}{α α':List Addr}{H H':Hp}(x:Ex0 α H α' H'): ∀{fs gs},DenF K α H fs gs->DenF K α' H' fs gs
 |_,_,.nil=>.nil
 |_,_,.cons a l=>.cons (a.ex0 x) (DenF.ex0 x l)
def KeyD:MV->Key->Prop
 |.int i,k=>k=.inl i
 |.str x,k=>k=.inr (mkS x)
 |_,_=>False
inductive DenK(K:PySem.W.Frag)(α:List Addr)(H:Hp):List (MV×MV)->List (Key×V)->Prop
 |nil:DenK K α H [] []
 |cons {k:MV} {k':Key} {d:MV} {v:V} {fs gs}:KeyD k k'->Den K α H d v->DenK K α H fs gs->DenK K α H ((k,d)::fs) ((k',v)::gs)
theorem DenK.ex0{K:PySem.W.Frag}{α α':List Addr}{H H':Hp}(x:Ex0 α H α' H'): ∀{fs gs},DenK K α H fs gs->DenK K α' H' fs gs
 |_,_,.nil=>.nil
 |_,_,.cons k a l=>.cons k (a.ex0 x) (DenK.ex0 x l)
mutual
def nkOf:MV->Option NK
 |.int i=>some (.key (.inl i))
 |.str x=>some (.key (.inr (mkS x)))
 |.tup ds=>(yMP ds).map .tup
 |_=>none
def yMP:List MV->Option (List NK)
 |[]=>some []
 |d::ds=>(nkOf d).bind λk=>(yMP ds).map (k::·)
end
inductive DenN(K:PySem.W.Frag)(α:List Addr)(H:Hp):List (MV×MV)->List (NK×Addr×Value)->Prop
 |nil:DenN K α H [] []
 |cons {k:MV} {nk:NK} {a:Addr} {d:MV} {v:V} {u:Value} {fs xs}:nkOf k=some nk->zLO nk<=4->Den K α H k (.ref a)->Den K α H d v->RelV v u->DenN K α H fs xs->DenN K α H ((k,d)::fs) ((nk,a,u)::xs)
theorem DenN.ex0{K:PySem.W.Frag}{α α':List Addr}{H H':Hp}(x:Ex0 α H α' H'): ∀{fs xs},DenN K α H fs xs->DenN K α' H' fs xs
 |_,_,.nil=>.nil
 |_,_,.cons k e a d r l=>.cons k e (a.ex0 x) (d.ex0 x) r (DenN.ex0 x l)
def ObD(g:Gm)(α:List Addr)(H:Hp)(a:Addr):MO->Prop
 |.lst ds=> ∃vs,H a=some (.lst vs)/\DenL g.K α H ds vs
 |.dic kvs=>(∃ks,H a=some (.dK ks)/\DenK g.K α H kvs ks)\/ ∃xs,H a=some (DN g.P g.w a xs)/\DenN g.K α H kvs xs
 |.ins c fs=> ∃C gs,g.mg c=some (.ref C)/\DenF g.K α H fs gs/\
   ∃oe,H a=some (.ext λh=>h.get? a=some oe)/\oe.cls=.ref C/\(fs=[]\/ ∃dx od,oe.dict=some dx/\H dx=some (.frz od (.xd gs))/\ ∃vs,oe.data=.fields vs)
theorem ObD.there{g:Gm}{α:List Addr}{H:Hp}{a:Addr}{o:MO}(h:ObD g α H a o): ∃ho,H a=some ho/\(∀xs,ho≠.tup xs)/\ ∀ob u,ho≠.frz ob u:=by
 cases o with
 |lst ds=>obtain⟨vs,h,_⟩:=h;exact⟨_,h,(λxs z=>by cases z),λ_ _ z=>by cases z⟩
 |dic ds=>
  rcases h with⟨vs,h,_⟩|⟨vs,h,_⟩
  ·exact⟨_,h,(λxs z=>by cases z),λ_ _ z=>by cases z⟩
  ·exact⟨_,h,(λxs z=>by cases z),λ_ _ z=>by cases z⟩
 |ins c ds=>
  obtain⟨_,_,_,_,_,h,_⟩:=h
  exact⟨_,h,(λxs z=>by cases z),λ_ _ z=>by cases z⟩
theorem ObD.move{g:Gm}{α α':List Addr}{H H':Hp}{a:Addr}{o:MO}(h:ObD g α H a o)(x:Ex0 α H α' H')(e:H' a=H a):ObD g α' H' a o:=by
 cases o with
 |lst ds=>obtain⟨vs,h,l⟩:=h;exact⟨vs,e.trans h,l.ex0 x⟩
 |dic ds=>
  rcases h with⟨vs,h,l⟩|⟨vs,h,l⟩
  ·exact .inl ⟨vs,e.trans h,l.ex0 x⟩
  ·exact .inr ⟨vs,e.trans h,l.ex0 x⟩
 |ins c ds=>
  obtain⟨C,gs,m,l,oe,h,hc,hf⟩:=h
  exact⟨C,gs,m,l.ex0 x,oe,e.trans h,hc,hf.imp id λ⟨dx,od,h1,h2,h3⟩=>⟨dx,od,h1,x.frz _ _ _ h2,h3⟩⟩
structure Wd(g:Gm)(α:List Addr)(S:Sto)(H:Hp):Prop where
 len:α.length=S.length
 nd:α.Nodup
 obj: ∀(l:Nat)(a:Addr)(o:MO),α[l]? =some a->S[l]? =some o->ObD g α H a o
section
variable{g:Gm}{α α':List Addr}{S S':Sto}{H H':Hp}
theorem Wd.at(w:Wd g α S H){l:Nat}{o:MO}(h:S[l]? =some o): ∃a,α[l]? =some a/\ObD g α H a o:=by
 have hl:l<α.length:=by rw [w.len];exact(gS0.mp h).1
 exact⟨α[l],gE0 hl,w.obj l _ o (gE0 hl) h⟩
theorem Wd.of(w:Wd g α S H){l:Nat}{a:Addr}(h:α[l]? =some a): ∃o,S[l]? =some o/\ObD g α H a o:=by
 have hl:l<S.length:=by rw [<-w.len];exact(gS0.mp h).1
 exact⟨S[l],gE0 hl,w.obj l a _ h (gE0 hl)⟩
theorem Wd.mem(w:Wd g α S H){a:Addr}(h:a∈α): ∃ho,H a=some ho/\(∀xs,ho≠.tup xs)/\ ∀ob u,ho≠.frz ob u:=by
 obtain⟨l,hl⟩:=getElem?_of_mem h
 obtain⟨o,_,q⟩:=w.of hl
 exact q.there
theorem Wd.newx(w:Wd g α S H){p:Addr}{o:HO}(hp:H p=none):Ext α H α (upd H p o) where
 pre:=⟨[],by simp⟩
 new:=λb h=>.inl h
 keep:=λb o h _=>by rw [zS (zZ h hp)];exact h
 has:=λb o h=>⟨o,by rw [zS (zZ h hp)];exact h⟩
 tup:=λb o h=>by rw [zS (zZ h hp)];exact h
 frz:=λb o u h=>by rw [zS (zZ h hp)];exact h
theorem Wd.fresh(w:Wd g α S H){p:Addr}(hp:H p=none):p∉α:=λz=>by
 obtain⟨_,h,_⟩:=w.mem z;rw [hp]at h;cases h
theorem Wd.new(w:Wd g α S H){p:Addr}{o:HO}(hp:H p=none):Wd g α S (upd H p o):=
 ⟨w.len,w.nd,λl a ob h1 h2=>(w.obj l a ob h1 h2).move (w.newx hp).toEx0 (zS λz=>w.fresh hp (by rw [<-z];exact mem_of_getElem? h1))⟩
theorem Wd.writex(w:Wd g α S H){l:Nat}{a:Addr}{o:HO}(h:α[l]? =some a):Ext α H α (upd H a o) where
 pre:=⟨[],by simp⟩
 new:=λb h=>.inl h
 keep:=λb o e n=>by rw [zS λz=>n (by rw [z];exact mem_of_getElem? h)];exact e
 has:=λb o e=>by
  by_cases z:b=a
  ·subst z;exact⟨_,yW⟩
  ·exact⟨o,by rw [zS z];exact e⟩
 tup:=λb xs e=>by
  obtain⟨ho,h1,h2,_⟩:=w.mem (mem_of_getElem? h)
  rw [zS λz=>h2 xs (by subst z;rw [e]at h1;exact(Option.some.inj h1).symm)];exact e
 frz:=λb ob u e=>by
  obtain⟨ho,h1,_,h2⟩:=w.mem (mem_of_getElem? h)
  rw [zS λz=>h2 ob u (by subst z;rw [e]at h1;exact(Option.some.inj h1).symm)];exact e
theorem Wd.ne(w:Wd g α S H){l m:Nat}{a b:Addr}(h:α[l]? =some a)(h':α[m]? =some b)(n:l≠m):a≠b:=by
 rintro rfl
 obtain⟨h1,e1⟩:=gS0.mp h
 obtain⟨h2,e2⟩:=gS0.mp h'
 exact n ((getElem_inj w.nd).mp (e1.trans e2.symm))
theorem Wd.write(w:Wd g α S H){l:Nat}{a:Addr}{o:HO}{ob:MO}(h:α[l]? =some a)(q:ObD g α (upd H a o) a ob):Wd g α (S.set l ob) (upd H a o) where
 len:=by rw [length_set];exact w.len
 nd:=w.nd
 obj:=λm b ob' h1 h2=>by
  by_cases e:l=m
  ·subst e
   rw [h]at h1
   have hl:l<S.length:=by rw [<-w.len];exact(gS0.mp h).1
   rw [getElem?_set_self hl]at h2
   rw [<-Option.some.inj h1, <-Option.some.inj h2]
   exact q
  ·rw [getElem?_set_ne e]at h2
   exact(w.obj m b ob' h1 h2).move (w.writex h).toEx0 (zS (w.ne h1 h λz=>e z.symm))
theorem Wd.enterx(w:Wd g α S H){H0:Hp}{α0:List Addr}(x:Ext α0 H0 α H){b:Addr}(h0:H0 b=none)(n:b∉α):Ext α0 H0 (α++[b]) H where
 pre:=let ⟨t,e⟩:=x.pre;⟨t++[b],by rw [e,aA]⟩
 new:=λc hc=>(mem_append.mp hc).elim (x.new c) λz=>.inr (by rw [mS.mp z];exact h0)
 keep:=x.keep
 has:=x.has
 tup:=x.tup
 frz:=x.frz
theorem Wd.enter(w:Wd g α S H){b:Addr}{ds:List MV}{vs:List V}(h:H b=some (.lst vs))(n:b∉α)(l:DenL g.K α H ds vs):Wd g (α++[b]) (S++[.lst ds]) H where
 len:=by rw [lA,lA,w.len];rfl
 nd:=nodup_append.mpr ⟨w.nd,by simp,λa ha c hc=>by rw [mS.mp hc];rintro rfl;exact n ha⟩
 obj:=λm a o h1 h2=>by
  by_cases hm:m<α.length
  ·rw [getElem?_append_left hm]at h1
   rw [getElem?_append_left (by rw [<-w.len];exact hm)]at h2
   exact(w.obj m a o h1 h2).move (Ex0.grow α [b] H) rfl
  ·have hm':m=α.length:=by
    have:=(gS0.mp h1).1
    rw [lA,lS]at this
    omega
   subst hm'
   rw [getElem?_append_right (le_refl _),sub_self]at h1
   rw [getElem?_append_right (by rw [w.len];exact le_refl _),w.len,sub_self]at h2
   cases h1;cases h2
   exact⟨vs,h,l.ex0 (Ex0.grow α [b] H)⟩
end
inductive R(β:Type) where
 |ok (b:β) (S:Sto)|exc (c:Str) (fs:List (Str×MV)) (S:Sto)|no
def R.bind{β γ:Type}:R β->(β->Sto->R γ)->R γ
 |.ok b S,k=>k b S
 |.exc c fs S,_=>.exc c fs S
 |.no,_=>.no
theorem R.bind_ok{β γ:Type}(b:β)(S:Sto)(k:β->Sto->R γ):(R.ok b S).bind k=k b S:=rfl
inductive Er where
 |val (d:MV)|new (ds:List MV)
instance:Inhabited Er:=⟨.val .non⟩
def DenX(K:PySem.W.Frag)(α:List Addr)(H:Hp):Er->V->Prop
 |.val d,v=>Den K α H d v
 |.new ds,v=> ∃b vs,v=.ref b/\H b=some (.lst vs)/\b∉α/\DenL K α H ds vs
def DenE(K:PySem.W.Frag)(H:Hp)(α':List Addr)(H':Hp)(r:Er)(v:V):Prop:=DenX K α' H' r v/\match r with |.new _=> ∀a,v=.ref a->H a=none|_=>True
section
variable{K:PySem.W.Frag}{α α':List Addr}{H H0 H':Hp}
theorem DenX.ext(x:Ext α H α' H'): ∀{r:Er}{v:V},DenX K α H r v->DenX K α' H' r v
 |.val d,_,q=>Den.ext x q
 |.new ds,_,⟨b,vs,e,h,n,l⟩=>⟨b,vs,e,x.keep b _ h n,x.out h n,l.ext x⟩
theorem DenE.val{d:MV}{v:V}(q:Den K α' H' d v):DenE K H α' H' (.val d) v:=⟨q,trivial⟩
theorem DenE.back(hf: ∀b,H b=none->H0 b=none){r:Er}{v:V}(q:DenE K H α' H' r v):DenE K H0 α' H' r v:=by
 refine⟨q.1,?_⟩
 cases r with
 |new ds=>exact λa e=>hf a (q.2 a e)
 |_=>trivial
theorem DenE.ext{α'':List Addr}{H'':Hp}(x:Ext α' H' α'' H''){r:Er}{v:V}(q:DenE K H α' H' r v):DenE K H α'' H'' r v:=⟨q.1.ext x,q.2⟩
end
section
variable{K:PySem.W.Frag}{α:List Addr}{H:Hp}{v:V}
theorem zMY(d:DenX K α H (.val .non) v):v=.non:=zBC (K:=K) (α:=α) (H:=H) d
theorem zQE{b:Bool}(d:DenX K α H (.val (.bl b)) v):v=.bl b:=zCP (K:=K) (α:=α) (H:=H) d
theorem xU{b:Int}(d:DenX K α H (.val (.int b)) v):v=.int b:=xT (K:=K) (α:=α) (H:=H) d
theorem cK{b:List Nat}(d:DenX K α H (.val (.str b)) v):v=.str (mkS b):=wG (K:=K) (α:=α) (H:=H) d
theorem yOX{b:String}(d:DenX K α H (.val (.typ b)) v):v=.ty b:=nM (K:=K) (α:=α) (H:=H) d
theorem yOY{c:Str}{ns:List Str}{ds:List MV}(d:DenX K α H (.val (.obj c ns ds)) v): ∃a C dx vs o,v=.ref a/\H a=some (.frz o (.ins C dx (ns.zip vs)))/\PySem.W.nsIn K mainGlobals c=some (some (.ref C))/\(PySem.W.clsIn K C).map (·.name)=some c/\ns.length=vs.length/\DenL K α H ds vs:=cI (K:=K) (α:=α) (H:=H) d
theorem zBD{ds:List MV}(d:DenX K α H (.val (.tup ds)) v): ∃a vs,v=.ref a/\SqT K H a vs/\DenL K α H ds vs:=xI (K:=K) (α:=α) (H:=H) d
theorem zMZ{ds:List MV}(d:DenX K α H (.val (.scr ds)) v): ∃a vs,v=.ref a/\SqF K H a vs/\DenL K α H ds vs:=cJ (K:=K) (α:=α) (H:=H) d
theorem zDG{l:Nat}(d:DenX K α H (.val (.loc l)) v): ∃a,v=.ref a/\α[l]? =some a:=gV (K:=K) (α:=α) (H:=H) d
end
def zHO:List Er->List V->List Addr
 |.new _::rs,.ref b::vs=>b::zHO rs vs
 |_::rs,_::vs=>zHO rs vs
 |_,_=>[]
inductive ArgsE(K:PySem.W.Frag)(H:Hp)(α':List Addr)(H':Hp):List Er->List V->Prop
 |nil:ArgsE K H α' H' [] []
 |cons {r v rs vs}:DenE K H α' H' r v->(∀ds b,r=.new ds->v=.ref b->b∉zHO rs vs)->ArgsE K H α' H' rs vs->ArgsE K H α' H' (r::rs) (v::vs)
theorem ArgsE.nones{K:PySem.W.Frag}{H:Hp}{α':List Addr}{H':Hp}: ∀{rs vs},ArgsE K H α' H' rs vs-> ∀b∈zHO rs vs,H b=none
 |_,_,.nil=>λb h=>by simp [zHO]at h
 |.val d::_,v::_,.cons a n l=>λb h=>ArgsE.nones l b (by simpa [zHO]using h)
 |.new ds::_,v::_,.cons a n l=>λb h=>by
  obtain⟨c,vs,rfl,_⟩:=a.1
  rcases mC.mp (show b∈c::zHO _ _ from h)with rfl|h
  ·exact a.2 _ rfl
  ·exact ArgsE.nones l b h
theorem ArgsE.back{K:PySem.W.Frag}{H H0:Hp}{α':List Addr}{H':Hp}(hf: ∀b,H b=none->H0 b=none): ∀{rs vs},ArgsE K H α' H' rs vs->ArgsE K H0 α' H' rs vs
 |_,_,.nil=>.nil
 |_,_,.cons a n l=>.cons (a.back hf) n (ArgsE.back hf l)
theorem ArgsE.length{K:PySem.W.Frag}{H:Hp}{α':List Addr}{H':Hp}: ∀{rs vs},ArgsE K H α' H' rs vs->vs.length=rs.length
 |_,_,.nil=>rfl
 |_,_,.cons _ _ l=>by rw [lC,lC,ArgsE.length l]
class Dn (β:Type) (τ:outParam Type) where
 d:Gm->Hp->List Addr->Sto->Hp->β->τ->Prop
 back: ∀{g:Gm}{H H0:Hp}{α':List Addr}{S':Sto}{H':Hp}{b:β}{u:τ},(∀b,H b=none->H0 b=none)->d g H α' S' H' b u->d g H0 α' S' H' b u
instance:Dn Er V:=⟨λg H α' _ H' r v=>DenE g.K H α' H' r v,λhf q=>q.back hf⟩
instance:Dn Bool Bool:=⟨λ_ _ _ _ _ b u=>u=b,λ_ q=>q⟩
instance:Dn (List Er) (List V):=⟨λg H α' _ H' r v=>ArgsE g.K H α' H' r v,λhf q=>q.back hf⟩
instance:Dn (Option Int) (Option Int):=⟨λ_ _ _ _ _ b u=>u=b,λ_ q=>q⟩
abbrev XW:=Str->List (Str×MV)->Sto->List Addr->Hp->Prop
abbrev W0:XW:=λ_ _ _ _ _=>False
def Post{β τ:Type}[Dn β τ](g:Gm)(W:XW)(α:List Addr)(H:Hp):R β->(τ->Hp->Prop)->Prop
 |.ok b S,Q=> ∀u α' H',Ext α H α' H'->Wd g α' S H'->Dn.d g H α' S H' b u->Q u H'
 |.exc c fs S,_=> ∀α' H',Ext α H α' H'->Wd g α' S H'->W c fs S α' H'
 |.no,_=>False
section
variable{β τ γ υ:Type}[Dn β τ][Dn γ υ]{g:Gm}{W:XW}{α α':List Addr}{H H':Hp}
theorem Post.shift(x:Ext α H α' H'): ∀{m:R β}{Q:τ->Hp->Prop},Post g W α H m Q->Post g W α' H' m Q
 |.ok b S,Q,q=>λu α2 H2 x2 w2 d2=>q u α2 H2 (x.trans x2) w2 (Dn.back (λb h=>x.free h) d2)
 |.exc c fs S,_,q=>λα2 H2 x2 w2=>q α2 H2 (x.trans x2) w2
 |.no,_,q=>q
theorem Post.bind{m:R β}{k:β->Sto->R γ}{Q:υ->Hp->Prop}{Q':τ->Hp->Prop}(q:Post g W α H (m.bind k) Q)
  (f: ∀u b S1 α1 H1,m=.ok b S1->Ext α H α1 H1->Wd g α1 S1 H1->Dn.d g H α1 S1 H1 b u->Post g W α H (k b S1) Q->Q' u H1):Post g W α H m Q':=by
 cases m with
 |ok b S=>exact λu α1 H1 x w d=>f u b S α1 H1 rfl x w d q
 |exc c fs S=>exact q
 |no=>exact q
theorem Post.here{b:β}{S:Sto}{Q:τ->Hp->Prop}{u:τ}(q:Post g W α H (.ok b S) Q)(w:Wd g α S H)(d:Dn.d g H α S H b u):Q u H:=q u α H (Ext.refl α H) w d
end
theorem Post.val{g:Gm}{W:XW}{α:List Addr}{H:Hp}{d:MV}{S:Sto}{Q:VK}{v:V}(q:Post g W α H (.ok (Er.val d) S) Q)(w:Wd g α S H)(k:Den g.K α H d v):Q v H:=q.here w (DenE.val k)
theorem Post.newl{g:Gm}{W:XW}{α:List Addr}{H:Hp}{ds:List MV}{S:Sto}{Q:VK}{vs:List V}{p:Addr}(q:Post g W α H (.ok (Er.new ds) S) Q)(w:Wd g α S H)(hp:H p=none)(l:DenL g.K α H ds vs):Q (.ref p) (upd H p (.lst vs)):=
 q (.ref p) α _ (w.newx hp) (w.new hp) ⟨⟨p,vs,rfl,yW,w.fresh hp,l.ext (w.newx hp)⟩,λa e=>by cases e;exact hp⟩
theorem Post.newt{g:Gm}{W:XW}{α:List Addr}{H:Hp}{ds:List MV}{S:Sto}{Q:VK}{vs:List V}{p:Addr}(q:Post g W α H (.ok (Er.val (.tup ds)) S) Q)(w:Wd g α S H)(hp:H p=none)(l:DenL g.K α H ds vs):Q (.ref p) (upd H p (.tup vs)):=
 q (.ref p) α _ (w.newx hp) (w.new hp) (.val (zEM (.of yW) (l.ext (w.newx hp))))
abbrev Rho:=List (Option MV)
structure Slots(K:PySem.W.Frag)(α:List Addr)(H:Hp)(ρ:Rho)(σ:St):Prop where
 len:σ.length=ρ.length
 slot: ∀(i:Nat)(d:MV),ρ[i]? =some (some d)-> ∃v,σ[i]? =some (some v)/\Den K α H d v
section
variable{K:PySem.W.Frag}{α α':List Addr}{H H':Hp}{ρ:Rho}{σ:St}
theorem Slots.ex0(q:Slots K α H ρ σ)(x:Ex0 α H α' H'):Slots K α' H' ρ σ:=⟨q.len,λi d e=>let ⟨v,h1,h2⟩:=q.slot i d e;⟨v,h1,h2.ex0 x⟩⟩
theorem Slots.ext(q:Slots K α H ρ σ)(x:Ext α H α' H'):Slots K α' H' ρ σ:=q.ex0 x.toEx0
theorem yJM{α:Type}{l:List α}{i j:Nat}{x y:α}(h:(l.set i x)[j]? =some y):(j=i/\y=x/\i<l.length)\/(j≠i/\l[j]? =some y):=by
 by_cases hj:i=j
 ·subst hj
  by_cases hl:i<l.length
  ·rw [getElem?_set_self hl]at h
   exact .inl ⟨rfl,(Option.some.inj h).symm,hl⟩
  ·rw [List.getElem?_eq_none (by rw [length_set];omega)]at h;cases h
 ·rw [getElem?_set_ne hj]at h
  exact .inr ⟨λz=>hj z.symm,h⟩
theorem Slots.set(q:Slots K α H ρ σ){i:Nat}{d:MV}{v:V}(h:Den K α H d v):Slots K α H (ρ.set i (some d)) (σ.set i (some v)):=by
 refine⟨by rw [length_set,length_set];exact q.len,λj e z=>?_⟩
 rcases yJM z with⟨rfl,e',hl⟩|⟨hj,e'⟩
 ·cases e'
  exact⟨v,by rw [getElem?_set_self (by rw [q.len];exact hl)],h⟩
 ·obtain⟨u,h1,h2⟩:=q.slot j e e'
  exact⟨u,by rw [getElem?_set_ne (Ne.symm hj)];exact h1,h2⟩
end
def Jd(X:Cx)(W:XW){β τ:Type}[Dn β τ](P:(St->Hp->(τ->Hp->Prop)->Prop)->Prop)(f:Rho->Sto->R β):Prop:=
 ∃t,P t/\ ∀α ρ S σ H Q,Wd X.g α S H->Slots X.K α H ρ σ->Post X.g W α H (f ρ S) Q->t σ H Q
abbrev PEm(X:Cx)(W:XW)(e:Expr)(f:Rho->Sto->R Er):Prop:=Jd X W (PE X e) f
abbrev PTm(X:Cx)(W:XW)(e:Expr)(f:Rho->Sto->R Bool):Prop:=Jd X W (PT X e) f
abbrev PWm(X:Cx)(W:XW)(e:Expr)(f:Rho->Sto->R Bool):Prop:=Jd X W (PW X e) f
abbrev PAm(X:Cx)(W:XW)(es:List Expr)(f:Rho->Sto->R (List Er)):Prop:=Jd X W (PA X es) f
abbrev POm(X:Cx)(W:XW)(e:Option Expr)(f:Rho->Sto->R (Option Int)):Prop:=Jd X W (PO X e) f
section
variable{X:Cx}{W:XW}{a b c e:Expr}{es:List Expr}{f g h:Rho->Sto->R Er}{tf tg:Rho->Sto->R Bool}{af:Rho->Sto->R (List Er)}{pos:Pos}
def rdSl:Option (Option MV)->Sto->R Er
 |some (some d),S=>.ok (.val d) S
 |_,_=>.no
theorem zA(i:Nat){x:Str}(hN:X.N[i]? =some x:=by rfl)(hv:Vis X.env.scope x:=by first |exact Or.inl rfl|exact Or.inr (Or.inl rfl)|exact Or.inr (Or.inr rfl))(hd:(x==("__debug__":Str))=false:=by decide)
  (hcd:(x==("__classdict__":Str))=false:=by decide):PEm X W (.Name x pos) (λρ S=>rdSl (ρ[i]?) S):=by
 refine⟨_,pv i hN hv hd hcd,λα ρ S σ H Q wd sl q=>?_⟩
 dsimp only at q
 cases z:ρ[i]? with
 |none=>rw [z]at q;exact q.elim
 |some o=>
  cases o with
  |none=>rw [z]at q;exact q.elim
  |some d=>
   rw [z]at q
   obtain⟨v,h1,h2⟩:=sl.slot i d z
   exact⟨v,h1,Post.val q wd h2⟩
theorem zC{i:Int}{j:Nat}:PEm X W (.Constant (.int i) j pos) (λ_ S=>.ok (.val (.int i)) S):=⟨_,yDI,λα ρ S σ H Q wd sl q=>Post.val q wd (xB i)⟩
theorem zFT{i:Bool}{j:Nat}:PEm X W (.Constant (.bool i) j pos) (λ_ S=>.ok (.val (.bl i)) S):=⟨_,pe_bl,λα ρ S σ H Q wd sl q=>Post.val q wd (gU i)⟩
theorem yEE{j:Nat}:PEm X W (.Constant .none j pos) (λ_ S=>.ok (.val .non) S):=⟨_,yNO,λα ρ S σ H Q wd sl q=>Post.val q wd zIL⟩
theorem zBE{x:Str}{j:Nat}(cs:List Nat)(hx:x=mkS cs:=by rfl):PEm X W (.Constant (.str x) j pos) (λ_ S=>.ok (.val (.str cs)) S):=
 ⟨_,yNP,λα ρ S σ H Q wd sl q=>Post.val q wd (by rw [hx];exact zAT cs)⟩
theorem yOZ{i:Int}{j:Nat}{p3:Pos}:PEm X W (.UnaryOp .USub (.Constant (.int i) j p3) pos) (λ_ S=>.ok (.val (.int (-i))) S):=
 ⟨_,pe_un yOB yDI,λα ρ S σ H Q wd sl q=>⟨i,rfl,Post.val q wd (xB (-i))⟩⟩
def Op2(X:Cx)(W:XW)(r:R2)(F:Er->Er->Sto->R Er):Prop:= ∀p q x y α S H Q,Wd X.g α S H->DenX X.K α H p x->DenX X.K α H q y->Post X.g W α H (F p q S) Q->r x y H Q
theorem two{r:R2}{F:Er->Er->Sto->R Er}(hF:Op2 X W r F){ta tb:TE}(fa: ∀α ρ S σ H Q,Wd X.g α S H->Slots X.K α H ρ σ->Post X.g W α H (f ρ S) Q->ta σ H Q)
  (fb: ∀α ρ S σ H Q,Wd X.g α S H->Slots X.K α H ρ σ->Post X.g W α H (g ρ S) Q->tb σ H Q) {α:List Addr} {ρ:Rho} {S:Sto} {σ:St} {H:Hp} {Q:VK} (wd:Wd X.g α S H) (sl:Slots X.K α H ρ σ)
  (q:Post X.g W α H ((f ρ S).bind λp S1=>(g ρ S1).bind λq S2=>F p q S2) Q):ta σ H λx H1=>tb σ H1 λy H2=>r x y H2 Q:=
 fa α ρ S σ H _ wd sl (q.bind λu p S1 α1 H1 e1 x1 w1 d1 q1=>fb α1 ρ S1 σ H1 _ w1 (sl.ext x1) ((q1.shift x1).bind λu2 p2 S2 α2 H2 e2 x2 w2 d2 q2=>
  hF p p2 u u2 α2 S2 H2 Q w2 (d1.1.ext x2) d2.1 (q2.shift x2)))
theorem zQF{op:Operator}{r:R2}{F:Er->Er->Sto->R Er}(ho:OpR X (binaryOp op) r)(hF:Op2 X W r F)(ha:PEm X W a f)(hb:PEm X W b g):PEm X W (.BinOp a op b pos) (λρ S=>(f ρ S).bind λp S1=>(g ρ S1).bind λq S2=>F p q S2):=by
 obtain⟨ta,ha,fa⟩:=ha
 obtain⟨tb,hb,fb⟩:=hb
 exact⟨_,pe_op ho ha hb,λα ρ S σ H Q wd sl q=>two hF fa fb wd sl q⟩
theorem zRV{op:CmpOp}{r:R2}{F:Er->Er->Sto->R Er}(ho:OpR X (compareOp op) r)(hF:Op2 X W r F)(ha:PEm X W a f)(hb:PEm X W b g)(hm:behindInMarks op b=false:=by first |exact yDQ _|with_unfolding_all rfl):
  PEm X W (.Compare a [op] [b] pos) (λρ S=>(f ρ S).bind λp S1=>(g ρ S1).bind λq S2=>F p q S2):=by
 obtain⟨ta,ha,fa⟩:=ha
 obtain⟨tb,hb,fb⟩:=hb
 exact⟨_,yIS ho ha hb hm,λα ρ S σ H Q wd sl q=>two hF fa fb wd sl q⟩
theorem pm_ix{r:R2}{F:Er->Er->Sto->R Er}(ho:IxR X r)(hF:Op2 X W r F)(ha:PEm X W a f)(hb:PEm X W b g)(hs:zRN b:=by exact λ_ _=>rfl):
  PEm X W (.Subscript a b pos) (λρ S=>(f ρ S).bind λp S1=>(g ρ S1).bind λq S2=>F p q S2):=by
 obtain⟨ta,ha,fa⟩:=ha
 obtain⟨tb,hb,fb⟩:=hb
 exact⟨_,pe_ix ho ha hb hs,λα ρ S σ H Q wd sl q=>two hF fa fb wd sl q⟩
def asB:Er->Sto->R Bool
 |.val (.bl b),S=>.ok b S
 |_,_=>.no
theorem yEF{p:Er}{S:Sto}{α:List Addr}{H:Hp}{Q:Bool->Hp->Prop}(q:Post X.g W α H (asB p S) Q): ∃k,p=.val (.bl k)/\Post X.g W α H (.ok k S) Q:=by
 unfold asB at q
 split at q
 ·exact⟨_,rfl,q⟩
 ·exact q.elim
theorem zHX{op:CmpOp}{r:R2}{F:Er->Er->Sto->R Er}(ho:OpR X (compareOp op) r)(hF:Op2 X W r F)(ha:PEm X W a f)(hb:PEm X W b g)(hm:behindInMarks op b=false:=by first |exact yDQ _|with_unfolding_all rfl):
  PTm X W (.Compare a [op] [b] pos) (λρ S=>((f ρ S).bind λp S1=>(g ρ S1).bind λq S2=>F p q S2).bind asB):=by
 obtain⟨ta,ha,fa⟩:=ha
 obtain⟨tb,hb,fb⟩:=hb
 refine⟨_,yIT ho ha hb hm,λα ρ S σ H Q wd sl q=>?_⟩
 refine two hF fa fb wd sl (Q:=λx H'=> ∃k,x=.bl k/\Q k H') (q.bind λu p S1 α1 H1 e1 x1 w1 d1 q1=>?_)
 obtain⟨k,rfl,q2⟩:=yEF (q1.shift x1)
 exact⟨k,zQE d1.1,q2.here w1 rfl⟩
def chF(F G:Er->Er->Sto->R Er)(p q:Er)(S:Sto)(k:Sto->R Er):R Er:=(F p q S).bind λz S1=>(asB z S1).bind λc S2=>if c=true then(k S2).bind λr S3=>G q r S3 else .ok (.val (.bl false)) S2
def zUO:Er->Sto->R Bool
 |.val .non,S=>.ok false S
 |.val (.bl b),S=>.ok b S
 |.val (.int i),S=>.ok (i !=0) S
 |.val (.str x),S=>if x.length<=sizeLine then .ok (!x.isEmpty) S else .no
 |.val (.tup ds),S=>.ok (!ds.isEmpty) S
 |.val (.scr ds),S=>.ok (!ds.isEmpty) S
 |.val (.loc l),S=>match S[l]? with
  |some (.lst ds)=>.ok (!ds.isEmpty) S
  |_=>.no
 |.val (.typ _),_=>.no
 |.val (.obj _ _ _),_=>.no
 |.new ds,S=>.ok (!ds.isEmpty) S
theorem zGZ{ds:List MV}{vs:List V}{K:PySem.W.Frag}{α:List Addr}{H:Hp}(l:DenL K α H ds vs):(!vs.isEmpty)= !ds.isEmpty:=by
 have:=l.length
 cases ds<;>cases vs<;>simp_all
theorem yEG{p:Er}{x:V}{S:Sto}{α:List Addr}{H:Hp}{Q:Bool->Hp->Prop}(wd:Wd X.g α S H)(d:DenX X.K α H p x)(q:Post X.g W α H (zUO p S) Q): ∃k,TruV X.K x H k/\Q k H:=by
 match p,d,q with
 |.val .non,d,q=>cases zMY d;exact⟨_,rfl,q.here wd rfl⟩
 |.val (.bl b),d,q=>cases zQE d;exact⟨_,rfl,q.here wd rfl⟩
 |.val (.int i),d,q=>cases xU d;exact⟨_,rfl,q.here wd rfl⟩
 |.val (.typ n),d,q=>exact q.elim
 |.val (.obj _ _ _),d,q=>exact q.elim
 |.val (.str z),d,q=>
  cases cK d
  have q':Post X.g W α H (if z.length<=sizeLine then R.ok (!z.isEmpty) S else R.no) Q:=q
  split at q'
  ·rename_i hz
   refine⟨_,⟨by rw [jD];exact hz,?_⟩,q'.here wd rfl⟩
   rw [jD]
   cases z with
   |nil=>rfl
   |cons c r=>
    have h0:((r.length:Int)+1)≠0:=by omega
    simp [h0]
  ·exact q'.elim
 |.val (.tup ds),d,q=>
  obtain⟨a,vs,rfl,s,l⟩:=zBD d
  exact⟨_,.inr (.inl ⟨vs,s,(zGZ l).symm⟩),q.here wd rfl⟩
 |.val (.scr ds),d,q=>
  obtain⟨a,vs,rfl,s,l⟩:=zMZ d
  exact⟨_,.inl ⟨vs,s.l,(zGZ l).symm⟩,q.here wd rfl⟩
 |.val (.loc n),d,q=>
  obtain⟨a,rfl,h⟩:=zDG d
  obtain⟨o,h1,h2⟩:=wd.of h
  have q':Post X.g W α H (match S[n]? with |some (.lst ds)=>R.ok (!ds.isEmpty) S|_=>R.no) Q:=q
  rw [h1]at q'
  cases o with
  |lst ds=>
   obtain⟨vs,h3,l⟩:=h2
   exact⟨_,.inl ⟨vs,.of h3,(zGZ l).symm⟩,q'.here wd rfl⟩
  |dic ds=>exact q'.elim
  |ins c fs=>exact q'.elim
 |.new ds,⟨a,vs,ex,s,n,l⟩,q=>subst ex;exact⟨_,.inl ⟨vs,.of s,(zGZ l).symm⟩,q.here wd rfl⟩
theorem zNA(ha:PEm X W a f)(he: ∀whole,isTrue a X.env whole=(do let v <-whole;standAt a.pos;holding [v] (truthy v)):=by intro _;rfl):PTm X W a (λρ S=>(f ρ S).bind zUO):=by
 obtain⟨ta,ha,fa⟩:=ha
 exact⟨_,yDR ha he,λα ρ S σ H Q wd sl q=>fa α ρ S σ H _ wd sl (q.bind λu p S1 α1 H1 e1 x1 w1 d1 q1=>yEG w1 d1.1 (q1.shift x1))⟩
end
section
variable{X:Cx}{W:XW}{a b c e:Expr}{es:List Expr}{f g h:Rho->Sto->R Er}{tf tg:Rho->Sto->R Bool}{af:Rho->Sto->R (List Er)}{pos:Pos}
def andF(p:Er)(S:Sto)(k:Sto->R Er):R Er:=(asB p S).bind λc S1=>if c=true then k S1 else .ok (.val (.bl false)) S1
def orF(p:Er)(S:Sto)(k:Sto->R Er):R Er:=(asB p S).bind λc S1=>if c=true then .ok (.val (.bl true)) S1 else k S1
theorem zYX(ha:PTm X W a tf):PWm X W (.BoolOp .And [a] pos) tf:=let ⟨t,h,k⟩:=ha;⟨t,yIN h,k⟩
theorem yEH(ha:PTm X W a tf)(hb:PWm X W (.BoolOp .And (b::es) pos) tg):PWm X W (.BoolOp .And (a::b::es) pos) (λρ S=>(tf ρ S).bind λk S1=>if k=true then tg ρ S1 else .ok false S1):=by
 obtain⟨ta,ha,fa⟩:=ha
 obtain⟨tb,hb,fb⟩:=hb
 refine⟨_,yNQ ha hb,λα ρ S σ H Q wd sl q=>fa α ρ S σ H _ wd sl (q.bind λu p S1 α1 H1 e1 x1 w1 d1 q1=>?_)⟩
 cases d1
 cases u with
 |true=>rw [iP rfl]at q1 ⊢; exact fb α1 ρ S1 σ H1 _ w1 (sl.ext x1) (q1.shift x1)
 |false=>rw [iN xF0]at q1 ⊢; exact(q1.shift x1).here w1 rfl
theorem yMQ(h:PWm X W a tf):PTm X W a tf:=let ⟨t,h,k⟩:=h;⟨t,h.pt,k⟩
end
section
variable{K:PySem.W.Frag}{H0:Hp}
def zP:List Er->Sto->List MV×Sto
 |[],S=>([],S)
 |.val d::rs,S=>((d::(zP rs S).1),(zP rs S).2)
 |.new xs::rs,S=>((.loc S.length::(zP rs (S++[.lst xs])).1),(zP rs (S++[.lst xs])).2)
theorem ArgsE.grow{H0:Hp}{α:List Addr}{H:Hp}{b:Addr}{rs:List Er}{vs:List V}(q:ArgsE K H0 α H rs vs)(n:b∉zHO rs vs):ArgsE K H0 (α++[b]) H rs vs:=by
 induction q with
 |nil=>exact .nil
 |@cons r v rs vs a m l ih=>
  cases r with
  |val d=>exact .cons ⟨Den.ex0 (Ex0.grow α [b] H) a.1,trivial⟩ m (ih (by simpa [zHO]using n))
  |new ds=>
   obtain⟨⟨c,us,rfl,h1,h2,h3⟩,h4⟩:=a
   have n':b∉c::zHO rs vs:=n
   refine .cons ⟨⟨c,us,rfl,h1,λz=>?_,h3.ex0 (Ex0.grow α [b] H)⟩,h4⟩ m (ih λz=>n' (mO _ z))
   rcases mem_append.mp z with z|z
   ·exact h2 z
   ·exact n' (by rw [mS.mp z];exact mF0)
theorem zFU{g:Gm}{H0:Hp}{α0:List Addr}{H:Hp}: ∀{rs:List Er}{vs:List V}{α:List Addr}{S:Sto},Wd g α S H->Ext α0 H0 α H->ArgsE g.K H0 α H rs vs->
  ∃α',Ext α0 H0 α' H/\Ex0 α H α' H/\Wd g α' (zP rs S).2 H/\DenL g.K α' H (zP rs S).1 vs
 |_,_,α,S,w,x,.nil=>⟨α,x,⟨⟨[],by simp⟩,λ_ _ h=>h,λ_ _ _ h=>h⟩,w,yK⟩
 |.val d::rs,v::vs,α,S,w,x,.cons a n l=>by
  obtain⟨α',x',y',w',l'⟩:=zFU w x l
  exact⟨α',x',y',w',yG (Den.ex0 y' a.1) l'⟩
 |.new ds::rs,v::vs,α,S,w,x,.cons a n l=>by
  obtain⟨⟨c,us,rfl,h1,h2,h3⟩,h4⟩:=a
  obtain⟨α',x',y',w',l'⟩:=zFU (w.enter h1 h2 h3) (w.enterx x (h4 c rfl) h2) (l.grow (n ds c rfl rfl))
  refine⟨α',x',⟨?_,y'.tup,y'.frz⟩,w',yG (zGY (y'.at ?_)) l'⟩
  ·obtain⟨t,e⟩:=y'.pre
   exact⟨[c]++t,by rw [e,aA]⟩
  ·rw [<-w.len,getElem?_append_right (le_refl _),sub_self];rfl
theorem zJR: ∀(rs:List Er)(S:Sto),(zP rs S).1.length=rs.length
 |[],S=>rfl
 |.val d::rs,S=>by show(d::(zP rs S).1).length=_;rw [lC,zJR rs S];rfl
 |.new ds::rs,S=>by show(_::(zP rs _).1).length=_;rw [lC,zJR rs _];rfl
end
section
variable{X:Cx}{W:XW}{a b c e:Expr}{es:List Expr}{f g h:Rho->Sto->R Er}{tf tg:Rho->Sto->R Bool}{af:Rho->Sto->R (List Er)}{pos:Pos}
theorem zE:PAm X W [] (λ_ S=>.ok [] S):=⟨_,yOE,λα ρ S σ H Q wd sl q=>q.here wd .nil⟩
theorem zB(ha:PEm X W a f)(hr:PAm X W es af)(hs:starEach (a::es) X.env=(false,eval a X.env)::starEach es X.env:=by rfl):PAm X W (a::es) (λρ S=>(f ρ S).bind λp S1=>(af ρ S1).bind λps S2=>.ok (p::ps) S2):=by
 obtain⟨ta,ha,fa⟩:=ha
 obtain⟨tr,hr,fr⟩:=hr
 refine⟨_,yIU ha hr hs,λα ρ S σ H Q wd sl q=>fa α ρ S σ H _ wd sl (q.bind λu p S1 α1 H1 e1 x1 w1 d1 q1=>fr α1 ρ S1 σ H1 _ w1 (sl.ext x1) ?_)⟩
 have q1':Post X.g W α H ((af ρ S1).bind λps S2=>.ok (p::ps) S2) Q:=q1
 cases z:af ρ S1 with
 |ok ps S2=>
  rw [z]at q1'
  intro vs α2 H2 x2 w2 d2
  refine q1' (u::vs) α2 H2 (x1.trans x2) w2 (ArgsE.cons (DenE.ext x2 d1) (λds b er eu hb=>?_) (ArgsE.back (λb h=>x1.free h) d2))
  subst er eu
  obtain⟨⟨c,us,ec,h1,_⟩,_⟩:=d1
  cases ec
  have:=ArgsE.nones d2 _ hb
  rw [h1]at this;cases this
 |exc c fs S2=>rw [z]at q1';exact λα2 H2 x2 w2=>q1' α2 H2 (x1.trans x2) w2
 |no=>rw [z]at q1';exact q1'
def zAU(rs:List Er)(S:Sto):R Er:=if rs.length<=sizeLine then .ok (.val (.tup (zP rs S).1)) (zP rs S).2 else .no
def cL(rs:List Er)(S:Sto):R Er:=if rs.length<=sizeLine then .ok (.new (zP rs S).1) (zP rs S).2 else .no
theorem kF{x1}(h:PAm X W es af):PEm X W (.Tuple es x1 pos) (λρ S=>(af ρ S).bind zAU):=by
 obtain⟨t,h,k⟩:=h
 refine⟨_,yOF h,λα ρ S σ H Q wd sl q=>k α ρ S σ H _ wd sl (q.bind λvs rs S1 α1 H1 e1 x1 w1 d1 q1=>?_)⟩
 have q1':Post X.g W α H (if rs.length<=sizeLine then R.ok (Er.val (.tup (zP rs S1).1)) (zP rs S1).2 else R.no) Q:=q1
 split at q1'
 ·rename_i hz
  obtain⟨α2,x2,y2,w2,l2⟩:=zFU w1 x1 d1
  exact⟨by rw [ArgsE.length d1];exact hz,λp hp=>(q1'.shift x2).newt w2 hp l2⟩
 ·exact q1'.elim
theorem jL(h:PAm X W es af):PEm X W (.List es pos) (λρ S=>(af ρ S).bind cL):=by
 obtain⟨t,h,k⟩:=h
 refine⟨_,yOG h,λα ρ S σ H Q wd sl q=>k α ρ S σ H _ wd sl (q.bind λvs rs S1 α1 H1 e1 x1 w1 d1 q1=>?_)⟩
 have q1':Post X.g W α H (if rs.length<=sizeLine then R.ok (Er.new (zP rs S1).1) (zP rs S1).2 else R.no) Q:=q1
 split at q1'
 ·rename_i hz
  obtain⟨α2,x2,y2,w2,l2⟩:=zFU w1 x1 d1
  exact⟨by rw [ArgsE.length d1];exact hz,λp hp=>(q1'.shift x2).newl w2 hp l2⟩
 ·exact q1'.elim
inductive ArgsX(K:PySem.W.Frag)(α:List Addr)(H:Hp):List Er->List V->Prop
 |nil:ArgsX K α H [] []
 |cons {r v rs vs}:DenX K α H r v->ArgsX K α H rs vs->ArgsX K α H (r::rs) (v::vs)
theorem ArgsE.x{K:PySem.W.Frag}{H0:Hp}{α:List Addr}{H:Hp}: ∀{rs vs},ArgsE K H0 α H rs vs->ArgsX K α H rs vs
 |_,_,.nil=>.nil
 |_,_,.cons a _ l=>.cons a.1 (ArgsE.x l)
def zDV(X:Cx)(W:XW)(r:List V->Hp->VK->Prop)(F:List Er->Sto->R Er):Prop:= ∀rs vs α S H Q,Wd X.g α S H->ArgsX X.K α H rs vs->Post X.g W α H (F rs S) Q->r vs H Q
theorem yD{id:String}{r:List V->Hp->VK->Prop}{F:List Er->Sto->R Er}{x:Str}{p:Pos}(hc:CallR X (.builtin id) r)(hF:zDV X W r F)(hg:Gl X x)(hm:X.mg x=none)(hv:bootBuiltins x=some (.builtin id))(ha:PAm X W (e::es) af)
  (hn:x≠"__name__":=by decide) (hdb:(x==("__debug__":Str))=false:=by decide)
  (he:starEach (e::es) X.env=(false,eval e X.env)::starEach es X.env:=by rfl) (hpl:(backTo pos (starEach es X.env)).any (·.1)=false:=by rfl):PEm X W (.Call (.Name x p) (e::es) [] pos) (λρ S=>(af ρ S).bind F):=by
 obtain⟨t,ha,k⟩:=ha
 exact⟨_,yDS hc hg hm hv ha hn hdb he hpl,λα ρ S σ H Q wd sl q=>k α ρ S σ H _ wd sl (q.bind λvs rs S1 α1 H1 e1 x1 w1 d1 q1=>hF rs vs α1 S1 H1 Q w1 (ArgsE.x d1) (q1.shift x1))⟩
theorem xW{T:String}{r:List V->Hp->VK->Prop}{F:List Er->Sto->R Er}{x:Str}{p:Pos}(hc:CallR X (.type T) r)(hF:zDV X W r F)(hg:Gl X x)(hm:X.mg x=none)(hv:bootBuiltins x=some (.type T))(ha:PAm X W (e::es) af)
  (hn:x≠"__name__":=by decide) (hdb:(x==("__debug__":Str))=false:=by decide)
  (he:starEach (e::es) X.env=(false,eval e X.env)::starEach es X.env:=by rfl) (hpl:(backTo pos (starEach es X.env)).any (·.1)=false:=by rfl):PEm X W (.Call (.Name x p) (e::es) [] pos) (λρ S=>(af ρ S).bind F):=by
 obtain⟨t,ha,k⟩:=ha
 exact⟨_,yBU hc hg hm hv ha hn hdb he hpl,λα ρ S σ H Q wd sl q=>k α ρ S σ H _ wd sl (q.bind λvs rs S1 α1 H1 e1 x1 w1 d1 q1=>hF rs vs α1 S1 H1 Q w1 (ArgsE.x d1) (q1.shift x1))⟩
def zUP(X:Cx)(W:XW)(r:V->List V->Hp->VK->Prop)(F:Er->List Er->Sto->R Er):Prop:= ∀p rs x vs α S H0 H Q α0,Wd X.g α S H->Ext α0 H0 α H->DenX X.K α H p x->ArgsE X.K H0 α H rs vs->Post X.g W α0 H0 (F p rs S) Q->r x vs H Q
def TyM(X:Cx)(T:String)(ty:Er->Sto->Bool):Prop:= ∀p x α S H,Wd X.g α S H->DenX X.K α H p x->ty p S=true->tyV X.K T x H
theorem zRW{T:String}{name:Str}{id:String}{r:V->List V->Hp->VK->Prop}{F:Er->List Er->Sto->R Er}{ty:Er->Sto->Bool}{apos:Pos}(pa:PlainAttrs T)(slot:Slot T name id)(hty:typeOf (.builtin id)=pure (.type "method_descriptor"))(hm:MtR X id r)(hF:zUP X W r F)(hT:TyM X T ty)
  (ho:PEm X W a f) (ha:PAm X W (e::es) af)
  (hbase:attributeBase a name X.env (eval a X.env)=eval a X.env:=by rfl)
  (hfew:((backTo pos (starEach (e::es) X.env)).all (λx=>!x.1)&&(backToKw pos (keywordEach [] X.env)).all (λx=>x.1.isSome)
   &&decide ((e::es).length+([]:List Keyword).length+(if([]:List Keyword).isEmpty then 0 else 1)<30))=true:=by rfl)
  (hline:(apos.endLine==pos.line)=true:=by rfl) (hs:starEach (e::es) X.env=(false,eval e X.env)::starEach es X.env:=by rfl) (hplain:(backTo pos (starEach es X.env)).any (·.1)=false:=by rfl):
  PEm X W (.Call (.Attribute a name apos) (e::es) [] pos) (λρ S=>(f ρ S).bind λp S1=>if ty p S1=true then(af ρ S1).bind λrs S2=>F p rs S2 else .no):=by
 obtain⟨to,ho,fo⟩:=ho
 obtain⟨t,ha,k⟩:=ha
 refine⟨_,pe_bm pa slot hty hm ho ha hbase hfew hline hs hplain,λα ρ S σ H Q wd sl q=>fo α ρ S σ H _ wd sl (q.bind λu p S1 α1 H1 e1 x1 w1 d1 q1=>?_)⟩
 split at q1
 ·rename_i hz
  exact⟨hT p u α1 S1 H1 w1 d1.1 hz,k α1 ρ S1 σ H1 _ w1 (sl.ext x1) ((q1.shift x1).bind λvs rs S2 α2 H2 e2 x2 w2 d2 q2=>hF p rs u vs α2 S2 H1 H2 Q α1 w2 x2 (d1.1.ext x2) d2 q2)⟩
 ·exact q1.elim
theorem zUQ{T:String}{name:Str}{id:String}{r:V->List V->Hp->VK->Prop}{F:Er->List Er->Sto->R Er}{ty:Er->Sto->Bool}{apos:Pos}(pa:PlainAttrs T)(slot:Slot T name id)(hty:typeOf (.builtin id)=pure (.type "method_descriptor"))(hm:MtR X id r)(hF:zUP X W r F)(hT:TyM X T ty)
  (ho:PEm X W a f) (hbase:attributeBase a name X.env (eval a X.env)=eval a X.env:=by rfl) (hline:(apos.endLine==pos.line)=true:=by rfl):
  PEm X W (.Call (.Attribute a name apos) [] [] pos) (λρ S=>(f ρ S).bind λp S1=>if ty p S1=true then F p [] S1 else .no):=by
 obtain⟨to,ho,fo⟩:=ho
 refine⟨_,yOL pa slot hty hm ho hbase hline,λα ρ S σ H Q wd sl q=>fo α ρ S σ H _ wd sl (q.bind λu p S1 α1 H1 e1 x1 w1 d1 q1=>?_)⟩
 split at q1
 ·rename_i hz
  exact⟨hT p u α1 S1 H1 w1 d1.1 hz,hF p [] u [] α1 S1 H1 H1 Q α1 w1 (Ext.refl _ _) d1.1 .nil (q1.shift x1)⟩
 ·exact q1.elim
theorem jE:POm X W none (λ_ S=>.ok none S):=⟨_,yIX,λα ρ S σ H Q wd sl q=>q.here wd rfl⟩
def asI:Er->Sto->R (Option Int)
 |.val (.int i),S=>.ok (some i) S
 |_,_=>.no
theorem jF(ha:PEm X W a f):POm X W (some a) (λρ S=>(f ρ S).bind asI):=by
 obtain⟨ta,ha,fa⟩:=ha
 refine⟨_,yIY ha,λα ρ S σ H Q wd sl q=>fa α ρ S σ H _ wd sl (q.bind λu p S1 α1 H1 e1 x1 w1 d1 q1=>?_)⟩
 unfold asI at q1
 split at q1
 ·exact⟨_,xU d1.1,(q1.shift x1).here w1 rfl⟩
 ·exact q1.elim
def Sl3(X:Cx)(W:XW)(r:V->Option Int->Option Int->Hp->VK->Prop)(F:Er->Option Int->Option Int->Sto->R Er):Prop:= ∀p lo hi x α S H Q,Wd X.g α S H->DenX X.K α H p x->Post X.g W α H (F p lo hi S) Q->r x lo hi H Q
theorem yEI{lo hi:Option Expr}{r:V->Option Int->Option Int->Hp->VK->Prop}{F:Er->Option Int->Option Int->Sto->R Er}{lf hf:Rho->Sto->R (Option Int)}{p2:Pos}(hr:SlR X r)(hF:Sl3 X W r F)(ha:PEm X W a f)(hl:POm X W lo lf)(hh:POm X W hi hf):
  PEm X W (.Subscript a (.Slice lo hi none p2) pos) (λρ S=>(f ρ S).bind λp S1=>(lf ρ S1).bind λl S2=>(hf ρ S2).bind λu S3=>F p l u S3):=by
 obtain⟨ta,ha,fa⟩:=ha
 obtain⟨tl,hl,fl⟩:=hl
 obtain⟨th,hh,fh⟩:=hh
 refine⟨_,yDU hr ha hl hh,λα ρ S σ H Q wd sl q=>fa α ρ S σ H _ wd sl (q.bind λu p S1 α1 H1 e1 x1 w1 d1 q1=>fl α1 ρ S1 σ H1 _ w1 (sl.ext x1) ((q1.shift x1).bind λu2 l S2 α2 H2 e2 x2 w2 d2 q2=>
  fh α2 ρ S2 σ H2 _ w2 ((sl.ext x1).ext x2) ((q2.shift x2).bind λu3 m S3 α3 H3 e3 x3 w3 d3 q3=>?_)))⟩
 cases d2
 cases d3
 exact hF p u2 u3 u α3 S3 H3 Q w3 ((d1.1.ext x2).ext x3) (q3.shift x3)
end
inductive Fl where
 |next (ρ:Rho)|ret (r:Er)|brk (ρ:Rho)|cont (ρ:Rho)
abbrev AX:=Rho->Sto->R Er
abbrev AY:=Rho->Sto->R Fl
abbrev AZ:=Rho->Sto->R Bool
def PostS(g:Gm)(W:XW)(α:List Addr)(H:Hp)(D:Ends):R Fl->Prop
 |.ok (.next ρ) S=> ∀σ α' H',Ext α H α' H'->Wd g α' S H'->Slots g.K α' H' ρ σ->D.nx σ H'
 |.ok (.ret r) S=> ∀v α' H',Ext α H α' H'->Wd g α' S H'->DenE g.K H α' H' r v->D.rt v H'
 |.ok (.brk ρ) S=> ∀σ α' H',Ext α H α' H'->Wd g α' S H'->Slots g.K α' H' ρ σ->D.bk σ H'
 |.ok (.cont ρ) S=> ∀σ α' H',Ext α H α' H'->Wd g α' S H'->Slots g.K α' H' ρ σ->D.ct σ H'
 |.exc c fs S=> ∀α' H',Ext α H α' H'->Wd g α' S H'->W c fs S α' H'
 |.no=>False
section
variable{g:Gm}{W:XW}{α α':List Addr}{H H':Hp}{D D':Ends}
theorem PostS.shift(x:Ext α H α' H'): ∀{m:R Fl},PostS g W α H D m->PostS g W α' H' D m
 |.ok (.next ρ) S,q=>λσ α2 H2 x2 w2 s2=>q σ α2 H2 (x.trans x2) w2 s2
 |.ok (.ret r) S,q=>λv α2 H2 x2 w2 d2=>q v α2 H2 (x.trans x2) w2 (d2.back λb h=>x.free h)
 |.ok (.brk ρ) S,q=>λσ α2 H2 x2 w2 s2=>q σ α2 H2 (x.trans x2) w2 s2
 |.ok (.cont ρ) S,q=>λσ α2 H2 x2 w2 s2=>q σ α2 H2 (x.trans x2) w2 s2
 |.exc c fs S,q=>λα2 H2 x2 w2=>q α2 H2 (x.trans x2) w2
 |.no,q=>q
theorem PostS.expr{β τ:Type}[Dn β τ]{m:R β}{k:β->Sto->R Fl}{Q':τ->Hp->Prop}(q:PostS g W α H D (m.bind k))
  (f: ∀u b S1 α1 H1,m=.ok b S1->Ext α H α1 H1->Wd g α1 S1 H1->Dn.d g H α1 S1 H1 b u->PostS g W α H D (k b S1)->Q' u H1):Post g W α H m Q':=by
 cases m with
 |ok b S=>exact λu α1 H1 x w d=>f u b S α1 H1 rfl x w d q
 |exc c fs S=>exact q
 |no=>exact q
theorem PostS.stmt{m:R Fl}{k:Fl->Sto->R Fl}(q:PostS g W α H D (m.bind k))
  (hn: ∀ρ S σ α1 H1,m=.ok (.next ρ) S->Ext α H α1 H1->Wd g α1 S H1->Slots g.K α1 H1 ρ σ->PostS g W α H D (k (.next ρ) S)->D'.nx σ H1)
  (hr: ∀r S v α1 H1,m=.ok (.ret r) S->Ext α H α1 H1->Wd g α1 S H1->DenE g.K H α1 H1 r v->PostS g W α H D (k (.ret r) S)->D'.rt v H1)
  (hb: ∀ρ S σ α1 H1,m=.ok (.brk ρ) S->Ext α H α1 H1->Wd g α1 S H1->Slots g.K α1 H1 ρ σ->PostS g W α H D (k (.brk ρ) S)->D'.bk σ H1)
  (hc: ∀ρ S σ α1 H1,m=.ok (.cont ρ) S->Ext α H α1 H1->Wd g α1 S H1->Slots g.K α1 H1 ρ σ->PostS g W α H D (k (.cont ρ) S)->D'.ct σ H1):PostS g W α H D' m:=by
 cases m with
 |ok fl S=>
  cases fl with
  |next ρ=>exact λσ α1 H1 x w s=>hn ρ S σ α1 H1 rfl x w s q
  |ret r=>exact λv α1 H1 x w d=>hr r S v α1 H1 rfl x w d q
  |brk ρ=>exact λσ α1 H1 x w s=>hb ρ S σ α1 H1 rfl x w s q
  |cont ρ=>exact λσ α1 H1 x w s=>hc ρ S σ α1 H1 rfl x w s q
 |exc c fs S=>exact q
 |no=>exact q
end
def PSm(X:Cx)(W:XW)(st:Stmt)(F:AY):Prop:=
 ∃t,PS X st t/\ ∀α ρ S σ H D,Wd X.g α S H->Slots X.K α H ρ σ->PostS X.g W α H D (F ρ S)->t D σ H
def zRX(X:Cx)(W:XW)(st:List Stmt)(F:AY):Prop:=
 ∃t,PSs X st t/\ ∀α ρ S σ H D,Wd X.g α S H->Slots X.K α H ρ σ->PostS X.g W α H D (F ρ S)->t D σ H
def zO(F G:AY):AY:=λρ S=>(F ρ S).bind λfl S1=>match fl with
 |.next ρ'=>G ρ' S1
 |.ret r=>.ok (.ret r) S1
 |.brk ρ'=>.ok (.brk ρ') S1
 |.cont ρ'=>.ok (.cont ρ') S1
section
variable{X:Cx}{W:XW}{st:Stmt}{sts as bs:List Stmt}{F G:AY}{f g:AX}{tf:AZ}{e c:Expr}{pos:Pos}
theorem xK:zRX X W [] (λρ S=>.ok (.next ρ) S):=⟨_,yIO,λα ρ S σ H D wd sl q=>q σ α H (Ext.refl α H) wd sl⟩
theorem zK(h:PSm X W st F):zRX X W [st] F:=let ⟨t,h,k⟩:=h;⟨t,yIP h,k⟩
theorem zF(h1:PSm X W st F)(h2:zRX X W sts G):zRX X W (st::sts) (zO F G):=by
 obtain⟨t,h1,k1⟩:=h1
 obtain⟨u,h2,k2⟩:=h2
 refine⟨_,yDJ h1 h2,λα ρ S σ H D wd sl q=>k1 α ρ S σ H _ wd sl (q.stmt ?_ ?_ ?_ ?_)⟩
 ·intro ρ1 S1 σ1 α1 H1 e x1 w1 s1 q1
  exact k2 α1 ρ1 S1 σ1 H1 D w1 s1 (PostS.shift x1 q1)
 ·intro r S1 v α1 H1 e x1 w1 d1 q1
  exact q1 v α1 H1 x1 w1 d1
 ·intro ρ1 S1 σ1 α1 H1 e x1 w1 s1 q1
  exact q1 σ1 α1 H1 x1 w1 s1
 ·intro ρ1 S1 σ1 α1 H1 e x1 w1 s1 q1
  exact q1 σ1 α1 H1 x1 w1 s1
theorem yH(he:PEm X W e f):PSm X W (.Return (some e) pos) (λρ S=>(f ρ S).bind λr S1=>.ok (.ret r) S1):=by
 obtain⟨t,he,k⟩:=he
 exact⟨_,yNR he,λα ρ S σ H D wd sl q=>k α ρ S σ H _ wd sl (q.expr λu r S1 α1 H1 e x1 w1 d1 q1=>q1 u α1 H1 x1 w1 d1)⟩
theorem yEJ:PSm X W st (λ_ _=>.no):=⟨_,yDK,λα ρ S σ H D wd sl q=>q.elim⟩
theorem xQ(he:PEm X W e f)(hs:swapsWith e none pos.line X.env=pure false:=by rfl):PSm X W (.Expr e pos) (λρ S=>(f ρ S).bind λ_ S1=>.ok (.next ρ) S1):=by
 obtain⟨t,he,k⟩:=he
 exact⟨_,yIQ he hs,λα ρ S σ H D wd sl q=>k α ρ S σ H _ wd sl (q.expr λu r S1 α1 H1 e x1 w1 d1 q1=>q1 σ α1 H1 x1 w1 (sl.ext x1))⟩
theorem kI(hc:PTm X W c tf)(ha:zRX X W as F)(hb:zRX X W bs G):PSm X W (.If c as bs pos) (λρ S=>(tf ρ S).bind λk S1=>if k=true then F ρ S1 else G ρ S1):=by
 obtain⟨tc,hc,kc⟩:=hc
 obtain⟨ta,ha,ka⟩:=ha
 obtain⟨tb,hb,kb⟩:=hb
 refine⟨_,ps_if hc ha hb,λα ρ S σ H D wd sl q=>kc α ρ S σ H _ wd sl (q.expr λu p S1 α1 H1 e x1 w1 d1 q1=>?_)⟩
 cases d1
 cases u with
 |true=>rw [iP rfl]at q1 ⊢; exact ka α1 ρ S1 σ H1 D w1 (sl.ext x1) (PostS.shift x1 q1)
 |false=>rw [iN xF0]at q1 ⊢; exact kb α1 ρ S1 σ H1 D w1 (sl.ext x1) (PostS.shift x1 q1)
instance:Dn Rho St:=⟨λg _ α' _ H' ρ σ=>Slots g.K α' H' ρ σ,λ_ q=>q⟩
def PGm(X:Cx)(W:XW)(tg:Expr)(gf:MV->Rho->Sto->R Rho):Prop:=
 ∃t,PG X tg t/\ ∀α ρ S σ H d v Q,Wd X.g α S H->Slots X.K α H ρ σ->Den X.K α H d v->Post X.g W α H (gf d ρ S) Q->t v σ H Q
def PGsm(X:Cx)(W:XW)(tgs:List Expr)(gf:List MV->Rho->Sto->R Rho):Prop:=
 ∃t,PGs X tgs t/\ ∀α ρ S σ H ds vs Q,Wd X.g α S H->Slots X.K α H ρ σ->DenL X.K α H ds vs->Post X.g W α H (gf ds ρ S) Q->t vs σ H Q
def gNm(i:Nat):MV->Rho->Sto->R Rho:=λd ρ S=>.ok (ρ.set i (some d)) S
theorem zV(i:Nat){x:Str}(hN:X.N.Nodup)(hi:X.N[i]? =some x:=by rfl)(hx:Loc X.env.scope x:=by first |exact Or.inl rfl|exact Or.inr rfl)(hf:X.fn x=true\/X.env.scope.names.lookup x=some .local:=by first |exact .inl rfl|exact .inr rfl|assumption):
  PGm X W (.Name x pos) (gNm i):=⟨_,zYO hN hi hx hf,λα ρ S σ H d v Q wd sl de q=>Post.here (b:=ρ.set i (some d)) q wd (sl.set de)⟩
def zBF:List MV->Rho->Sto->R Rho
 |[],ρ,S=>.ok ρ S
 |_,_,_=>.no
def yR(g1:MV->Rho->Sto->R Rho)(g2:List MV->Rho->Sto->R Rho):List MV->Rho->Sto->R Rho
 |d::ds,ρ,S=>(g1 d ρ S).bind λρ1 S1=>g2 ds ρ1 S1
 |_,_,_=>.no
theorem zHY:PGsm X W [] zBF:=⟨_,zYP,λα ρ S σ H ds vs Q wd sl de q=>by
 cases ds with
 |nil=>exact⟨de.isnil,Post.here (b:=ρ) q wd sl⟩
 |cons d ds=>exact q.elim⟩
theorem kK{es:List Expr}{g1:MV->Rho->Sto->R Rho}{g2:List MV->Rho->Sto->R Rho}(h1:PGm X W e g1)(h2:PGsm X W es g2)(hs:(assignEach (e::es) X.env).map (·.2)=assign e X.env::(assignEach es X.env).map (·.2):=by rfl):PGsm X W (e::es) (yR g1 g2):=by
 obtain⟨t1,h1,k1⟩:=h1
 obtain⟨t2,h2,k2⟩:=h2
 refine⟨_,zUB h1 h2 hs,λα ρ S σ H ds vs Q wd sl de q=>?_⟩
 cases ds with
 |nil=>exact q.elim
 |cons d ds=>
  obtain⟨v,r,rfl,a,l⟩:=de.uncons
  refine⟨v,r,rfl,k1 α ρ S σ H d v _ wd sl a (Post.bind q λu p S1 α1 H1 e x1 w1 d1 q1=>k2 α1 p S1 u H1 ds r Q w1 d1 (l.ext x1) (q1.shift x1))⟩
def gTp(n:Nat)(g2:List MV->Rho->Sto->R Rho):MV->Rho->Sto->R Rho
 |.tup ds,ρ,S=>if ds.length=n then g2 ds ρ S else .no
 |_,_,_=>.no
theorem zHZ{es:List Expr}{k n:Nat}{g2:List MV->Rho->Sto->R Rho}(hc:X.calm=true)(h:PGsm X W es g2)
  (hn:(assignEach es X.env).length=n:=by rfl) (hst:(assignEach es X.env).findIdx? (·.1)=none:=by rfl):PGm X W (.Tuple es k pos) (gTp n g2):=by
 obtain⟨t,h,k⟩:=h
 refine⟨_,yDM hc h hn hst,λα ρ S σ H d v Q wd sl de q=>?_⟩
 unfold gTp at q
 split at q
 ·split at q
  ·rename_i hl
   obtain⟨a,vs,rfl,s,l⟩:=xI de
   exact⟨a,vs,rfl,s,by rw [l.length];exact hl,k α ρ S σ H _ vs Q wd sl l q⟩
  ·exact q.elim
 ·exact q.elim
def nN(r:Er)(S:Sto):R MV:=match r with
 |.val d=>.ok d S
 |.new ds=>.ok (.loc S.length) (S++[.lst ds])
theorem zDW{g:Gm}{H0:Hp}{α0 α:List Addr}{H:Hp}{S:Sto}{r:Er}{v:V}(w:Wd g α S H)(x:Ext α0 H0 α H)(d:DenE g.K H0 α H r v):
  ∃d' S' α',nN r S=.ok d' S'/\Ext α0 H0 α' H/\Ex0 α H α' H/\Wd g α' S' H/\Den g.K α' H d' v:=by
 cases r with
 |val d'=>exact⟨d',S,α,rfl,x,⟨⟨[],by simp⟩,λ_ _ h=>h,λ_ _ _ h=>h⟩,w,d.1⟩
 |new ds=>
  obtain⟨⟨c,us,rfl,h1,h2,h3⟩,h4⟩:=d
  exact⟨.loc S.length,S++[.lst ds],α++[c],rfl,w.enterx x (h4 c rfl) h2,Ex0.grow α [c] H,w.enter h1 h2 h3,zGY (by rw [<-w.len,getElem?_append_right (le_refl _),sub_self];rfl)⟩
def zRY(ρ:Rho)(i:Nat)(r:Er)(S:Sto):R Fl:=(nN r S).bind λd S1=>.ok (.next (ρ.set i (some d))) S1
theorem zL(i:Nat){x:Str}{pos':Pos}(hN:X.N.Nodup)(he:PEm X W e f)(hi:X.N[i]? =some x:=by rfl)(hx:Loc X.env.scope x:=by first |exact Or.inl rfl|exact Or.inr rfl)
  (hs:swapsWith e (some (.Name x pos')) pos.line X.env=pure false:=by rfl) (hf:X.fn x=true\/X.env.scope.names.lookup x=some .local:=by first |exact .inl rfl|exact .inr rfl|assumption):
  PSm X W (.Assign [.Name x pos'] e pos) (λρ S=>(f ρ S).bind (zRY ρ i)):=by
 obtain⟨t,he,k⟩:=he
 refine⟨_,yNU hN hi hx he hs hf,λα ρ S σ H D wd sl q=>k α ρ S σ H _ wd sl (q.expr λu r S1 α1 H1 e x1 w1 d1 q1=>?_)⟩
 obtain⟨d',S',α',e1,x',y',w',de⟩:=zDW w1 x1 d1
 unfold zRY at q1
 rw [e1]at q1
 exact q1 _ α' H1 x' w' (((sl.ext x1).ex0 y').set de)
def asgF(gf:MV->Rho->Sto->R Rho)(ρ:Rho)(r:Er)(S:Sto):R Fl:=(nN r S).bind λd S1=>(gf d ρ S1).bind λρ' S2=>.ok (.next ρ') S2
theorem zFV{tg:Expr}{gf:MV->Rho->Sto->R Rho}(he:PEm X W e f)(hg:PGm X W tg gf)(hs:swapsWithSole [tg] e pos.line X.env=pure false:=by rfl)(hw:swappedStores [tg] e X.env=pure none:=by rfl)
  (h1:(assignEach [tg] X.env).map (·.2)=[assign tg X.env]:=by rfl):PSm X W (.Assign [tg] e pos) (λρ S=>(f ρ S).bind (asgF gf ρ)):=by
 obtain⟨t,he,k⟩:=he
 obtain⟨tg',hg,kg⟩:=hg
 refine⟨_,yNT he hg hs hw h1,λα ρ S σ H D wd sl q=>k α ρ S σ H _ wd sl (q.expr λu r S1 α1 H1 e x1 w1 d1 q1=>?_)⟩
 obtain⟨d',S',α',e1,x',y',w',de⟩:=zDW w1 x1 d1
 unfold asgF at q1
 rw [e1]at q1
 have q1:PostS X.g W α H D ((gf d' ρ S').bind λρ' S2=>.ok (.next ρ') S2):=q1
 exact kg α' ρ S' σ H1 d' u _ w' ((sl.ext x1).ex0 y') de ((PostS.shift x' q1).expr λσ2 ρ2 S2 α2 H2 e2 x2 w2 s2 q2=>q2 σ2 α2 H2 x2 w2 s2)
structure Wk where
 ds:List MV
 gs:List (Nat×List MV)
def stay(gs:List (Nat×List MV))(S:Sto):Prop:= ∀p∈gs,S[p.1]? =some (.lst p.2)
def ItM(g:Gm)(J:It)(P:List Addr->Sto->Hp->Prop)(ds:List MV):Prop:= ∀i α S H,P α S H->Wd g α S H->(i<ds.length->J.go i H/\ ∀x H',J.yld i H x H'->Ext α H α H'/\Wd g α S H'/\P α S H'/\ ∃d,ds[i]? =some d/\Den g.K α H' d x)/\(ds.length<=i->J.stop i H)
structure WkD(g:Gm)(α:List Addr)(S:Sto)(H:Hp)(k:Wk)(J:It)(P:List Addr->Sto->Hp->Prop):Prop where
 it:ItM g J P k.ds
 here:P α S H
 stays: ∀α1 S1 H1 α2 S2 H2,P α1 S1 H1->Ext α1 H1 α2 H2->Wd g α2 S2 H2->stay k.gs S2->P α2 S2 H2
 st:stay k.gs S
instance:Dn Wk It:=⟨λg _ α S H k J=> ∃P,WkD g α S H k J P,λ_ q=>q⟩
abbrev PIm(X:Cx)(W:XW)(tg iter:Expr)(f:Rho->Sto->R Wk):Prop:=Jd X W (PI X tg iter) f
variable{tg iter:Expr}
theorem zIM{a:Addr}{ds:List MV}:ItM X.g (Itl X.K a) (λα S H=> ∃vs,SqL X.K H a vs/\DenL X.K α H ds vs) ds:=by
 intro i α S H ⟨vs,s,l⟩ w
 have hl:=l.length
 refine⟨λhi=>?_,λhi=>⟨vs,s,by omega⟩⟩
 have hv:i<vs.length:=by omega
 refine⟨⟨vs,vs[i],s,gE0 hv⟩,λx H' y=>?_⟩
 obtain⟨rfl,y⟩:=y
 obtain⟨d,h1,h2⟩:=l.get (y vs s)
 exact⟨Ext.refl _ _,w,⟨vs,s,l⟩,d,h1,h2⟩
theorem zYY{a:Addr}{ds:List MV}:ItM X.g (Itt X.K a) (λα S H=> ∃vs,SqT X.K H a vs/\DenL X.K α H ds vs) ds:=by
 intro i α S H ⟨vs,s,l⟩ w
 have hl:=l.length
 refine⟨λhi=>?_,λhi=>⟨vs,s,by omega⟩⟩
 have hv:i<vs.length:=by omega
 refine⟨⟨vs,vs[i],s,gE0 hv⟩,λx H' y=>?_⟩
 obtain⟨rfl,y⟩:=y
 obtain⟨d,h1,h2⟩:=l.get (y vs s)
 exact⟨Ext.refl _ _,w,⟨vs,s,l⟩,d,h1,h2⟩
theorem yJN{x:List Nat}:ItM X.g (Its x) (λ_ _ _=>True) (x.map λc=>.str [c]):=by
 intro i α S H _ w
 refine⟨λhi=>⟨show i<x.length by simpa using hi,λv H' y=>?_⟩,λhi=>by show x.length<=i;simpa using hi⟩
 obtain⟨rfl,c,h1,h2⟩:=y
 refine⟨Ext.refl _ _,w,trivial,.str [c],by rw [getElem?_map,h1];rfl,?_⟩
 rw [h2]
 exact zAT [c]
theorem yCD{lo:Int}{n:Nat}:ItM X.g (Itr lo n) (λ_ _ _=>True) ((List.range n).map λk=>.int (lo+(k:Nat))):=by
 intro i α S H _ w
 refine⟨λhi=>⟨show i<n by simpa using hi,λv H' y=>?_⟩,λhi=>by show n<=i;simpa using hi⟩
 obtain⟨rfl,y⟩:=y
 have hi':i<n:=by simpa using hi
 refine⟨Ext.refl _ _,w,trivial,.int (lo+i),by rw [getElem?_map,List.getElem?_range hi'];rfl,?_⟩
 rw [y]
 exact xB _
def itL:Er->Sto->R Wk
 |.new ds,S=>.ok ⟨ds,[]⟩ S
 |.val (.scr ds),S=>.ok ⟨ds,[]⟩ S
 |.val (.loc l),S=>match S[l]? with
  |some (.lst ds)=>.ok ⟨ds,[(l,ds)]⟩ S
  |_=>.no
 |_,_=>.no
theorem gW{S:Sto}:stay [] S:=λp h=>by simp at h
theorem wV(he:PEm X W iter f):PIm X W tg iter (λρ S=>(f ρ S).bind itL):=by
 obtain⟨t,he,k⟩:=he
 refine⟨_,yIR he,λα ρ S σ H Rc wd sl q=>k α ρ S σ H _ wd sl (q.bind λu p S1 α1 H1 e x1 w1 d1 q1=>?_)⟩
 replace q1:=q1.shift x1
 unfold itL at q1
 split at q1
 ·rename_i S0 ds
  obtain⟨⟨b,vs,rfl,h1,h2,h3⟩,h4⟩:=d1
  refine⟨b,rfl,⟨vs,.of h1⟩,q1.here (u:=Itl X.K b) w1 ⟨λα2 S2 H2=> ∃vs,SqL X.K H2 b vs/\DenL X.K α2 H2 ds vs/\H2 b=some (.lst vs)/\b∉α2,?_,⟨vs,.of h1,h3,h1,h2⟩,?_,gW⟩⟩
  ·intro i α2 S2 H2 ⟨vs2,a1,a2,a3,a4⟩ w2
   obtain⟨i1,i2⟩:=zIM (X:=X) (a:=b) (ds:=ds) i α2 S2 H2 ⟨vs2,a1,a2⟩ w2
   refine⟨λhi=>⟨(i1 hi).1,λx H' y=>?_⟩,i2⟩
   obtain⟨j1,j2,j3,j4⟩:=(i1 hi).2 x H' y
   obtain⟨rfl,_⟩:=y
   exact⟨j1,j2,⟨vs2,a1,a2,a3,a4⟩,j4⟩
  ·intro α2 S2 H2 α3 S3 H3 ⟨vs2,a1,a2,a3,a4⟩ x w3 _
   exact⟨vs2,.of (x.keep b _ a3 a4),a2.ext x,x.keep b _ a3 a4,x.out a3 a4⟩
 ·rename_i S0 ds
  obtain⟨a,vs,rfl,s,l⟩:=zMZ d1.1
  refine⟨a,rfl,⟨vs,s.l⟩,q1.here (u:=Itl X.K a) w1 ⟨λα2 S2 H2=> ∃vs,SqL X.K H2 a vs/\DenL X.K α2 H2 ds vs/\SqF X.K H2 a vs,?_,⟨vs,s.l,l,s⟩,?_,gW⟩⟩
  ·intro i α2 S2 H2 ⟨vs2,a1,a2,a3⟩ w2
   obtain⟨i1,i2⟩:=zIM (X:=X) (a:=a) (ds:=ds) i α2 S2 H2 ⟨vs2,a1,a2⟩ w2
   refine⟨λhi=>⟨(i1 hi).1,λx H' y=>?_⟩,i2⟩
   obtain⟨j1,j2,j3,j4⟩:=(i1 hi).2 x H' y
   obtain⟨rfl,_⟩:=y
   exact⟨j1,j2,⟨vs2,a1,a2,a3⟩,j4⟩
  ·intro α2 S2 H2 α3 S3 H3 ⟨vs2,a1,a2,a3⟩ x w3 _
   exact⟨vs2,(x.sqF a3).l,a2.ext x,x.sqF a3⟩
 ·rename_i S0 n
  obtain⟨a,rfl,h⟩:=zDG d1.1
  obtain⟨o,h1,h2⟩:=w1.of h
  rw [h1]at q1
  cases o with
  |lst ds=>
   obtain⟨vs,h3,l⟩:=h2
   refine⟨a,rfl,⟨vs,.of h3⟩,Post.here (b:=(⟨ds,[(n,ds)]⟩:Wk)) q1 (u:=Itl X.K a) w1 ⟨λα2 S2 H2=> ∃vs,SqL X.K H2 a vs/\DenL X.K α2 H2 ds vs/\α2[n]? =some a,?_,⟨vs,.of h3,l,h⟩,?_,?_⟩⟩
   ·intro i α2 S2 H2 ⟨vs2,a1,a2,a3⟩ w2
    obtain⟨i1,i2⟩:=zIM (X:=X) (a:=a) (ds:=ds) i α2 S2 H2 ⟨vs2,a1,a2⟩ w2
    refine⟨λhi=>⟨(i1 hi).1,λx H' y=>?_⟩,i2⟩
    obtain⟨j1,j2,j3,j4⟩:=(i1 hi).2 x H' y
    obtain⟨rfl,_⟩:=y
    exact⟨j1,j2,⟨vs2,a1,a2,a3⟩,j4⟩
   ·intro α2 S2 H2 α3 S3 H3 ⟨vs2,a1,a2,a3⟩ x w3 hs
    have a3':=x.at a3
    have:=w3.obj n a _ a3' (hs (n,ds) (by simp))
    obtain⟨vs3,b1,b2⟩:=this
    exact⟨vs3,.of b1,b2,a3'⟩
   ·intro p hp
    have:p=(n,ds):=by simpa using hp
    subst this
    exact h1
  |dic ds=>exact q1.elim
  |ins c fs=>exact q1.elim
 ·exact q1.elim
def itT:Er->Sto->R Wk
 |.val (.tup ds),S=>.ok ⟨ds,[]⟩ S
 |_,_=>.no
theorem zJS(he:PEm X W iter f):PIm X W tg iter (λρ S=>(f ρ S).bind itT):=by
 obtain⟨t,he,k⟩:=he
 refine⟨_,yNW he,λα ρ S σ H Rc wd sl q=>k α ρ S σ H _ wd sl (q.bind λu p S1 α1 H1 e x1 w1 d1 q1=>?_)⟩
 replace q1:=q1.shift x1
 unfold itT at q1
 split at q1
 ·rename_i S0 ds
  obtain⟨a,vs,rfl,s,l⟩:=zBD d1.1
  exact⟨a,rfl,⟨vs,s⟩,q1.here (u:=Itt X.K a) w1 ⟨_,zYY,⟨vs,s,l⟩,λα2 S2 H2 α3 S3 H3 ⟨vs2,a1,a2⟩ x w3 _=>⟨vs2,x.sqT a1,a2.ext x⟩,gW⟩⟩
 ·exact q1.elim
def itS:Er->Sto->R Wk
 |.val (.str x),S=>.ok ⟨x.map λc=>.str [c],[]⟩ S
 |_,_=>.no
theorem yPA(he:PEm X W iter f):PIm X W tg iter (λρ S=>(f ρ S).bind itS):=by
 obtain⟨t,he,k⟩:=he
 refine⟨_,yOR he,λα ρ S σ H Rc wd sl q=>k α ρ S σ H _ wd sl (q.bind λu p S1 α1 H1 e x1 w1 d1 q1=>?_)⟩
 replace q1:=q1.shift x1
 unfold itS at q1
 split at q1
 ·rename_i S0 x
  exact⟨x,cK d1.1,q1.here (u:=Its x) w1 ⟨_,yJN,trivial,λ_ _ _ _ _ _ _ _ _ _=>trivial,gW⟩⟩
 ·exact q1.elim
def jK:List Er->Sto->R Wk
 |[.val (.int j)],S=>if -(2 ^ 62)<=j/\j<2 ^ 62 then .ok ⟨(List.range j.toNat).map λk=>.int (k:Nat),[]⟩ S else .no
 |_,_=>.no
variable{af:Rho->Sto->R (List Er)}{p:Pos}{a b:Expr}
theorem zYZ{K:PySem.W.Frag}{H0:Hp}{α:List Addr}{H:Hp}{r:Er}{vs:List V}(d:ArgsE K H0 α H [r] vs): ∃v,vs=[v]/\DenX K α H r v:=by
 cases d with
 |cons a n l=>cases l;exact⟨_,rfl,a.1⟩
theorem yS(hg:Gl X "range")(hm:X.mg "range"=none)(ha:PAm X W [a] af)(hs:starEach [a] X.env=[(false,eval a X.env)]:=by rfl):PIm X W tg (.Call (.Name "range" p) [a] [] pos) (λρ S=>(af ρ S).bind jK):=by
 obtain⟨t,ha,k⟩:=ha
 refine⟨_,yBP hg hm ha hs,λα ρ S σ H Rc wd sl q=>k α ρ S σ H _ wd sl (q.bind λvs rs S1 α1 H1 e x1 w1 d1 q1=>?_)⟩
 replace q1:=q1.shift x1
 unfold jK at q1
 split at q1
 ·split at q1
  ·rename_i S0 j hj
   obtain⟨v,rfl,dv⟩:=zYZ d1
   cases xU dv
   have:=yCD (X:=X) (lo:=0) (n:=j.toNat)
   simp only [Int.zero_add]at this
   exact⟨j,rfl,hj.1,hj.2,q1.here (u:=Itr 0 j.toNat) w1 ⟨_,this,trivial,λ_ _ _ _ _ _ _ _ _ _=>trivial,gW⟩⟩
  ·exact q1.elim
 ·exact q1.elim
open Classical in
noncomputable def kS(gf:MV->Rho->Sto->R Rho)(body:AY)(gs:List (Nat×List MV)):List MV->AY
 |[],ρ,S=>.ok (.next ρ) S
 |d::ds,ρ,S=>(gf d ρ S).bind λρ0 S0=>(body ρ0 S0).bind λfl S1=>match fl with
  |.next ρ'=>if stay gs S1 then kS gf body gs ds ρ' S1 else .no
  |.cont ρ'=>if stay gs S1 then kS gf body gs ds ρ' S1 else .no
  |.brk ρ'=>.ok (.next ρ') S1
  |.ret r=>.ok (.ret r) S1
open Classical in
theorem xV{itf:Rho->Sto->R Wk}{gf:MV->Rho->Sto->R Rho}(hp:PassesOwn (model X.prog X.w) X.A X.env X.xe)(hc:X.calm=true)(hi:PIm X W tg iter itf)(hg:PGm X W tg gf)(hb:zRX X W as F)
  (hs: ∀y,foldedSetIterable iter X.env y=pure y:=by intro _;rfl):PSm X W (.For tg iter as [] pos) (λρ S=>(itf ρ S).bind λk S1=>kS gf F k.gs k.ds ρ S1):=by
 obtain⟨wi,hi,ki⟩:=hi
 obtain⟨tg',hg,kg⟩:=hg
 obtain⟨tb,hb,kb⟩:=hb
 refine⟨_,yNX hp hc hi hg hb hs,λα ρ S σ H D wd sl q=>ki α ρ S σ H _ wd sl (q.expr λJ k S1 α1 H1 e x1 w1 d1 q1=>?_)⟩
 obtain⟨P,hP⟩:=d1
 have sl1:=sl.ext x1
 replace q1:=PostS.shift x1 q1
 refine⟨λn m σ2 H2=>m=k.ds.length - n/\n<=k.ds.length/\ ∃α2 ρ2 S2,Wd X.g α2 S2 H2/\Slots X.K α2 H2 ρ2 σ2/\P α2 S2 H2/\PostS X.g W α2 H2 D (kS gf F k.gs (k.ds.drop n) ρ2 S2),⟨_,rfl,zero_le _,α1,ρ,S1,w1,sl1,hP.here,by simpa using q1⟩,?_⟩
 rintro n m σ2 H2 ⟨rfl,hn,α2,ρ2,S2,w2,sl2,p2,q2⟩
 obtain⟨i1,i2⟩:=hP.it n α2 S2 H2 p2 w2
 by_cases hlt:n<k.ds.length
 ·obtain⟨go,yl⟩:=i1 hlt
  refine .inr ⟨go,λσ3 H3=> ∃α3 ρ3 S3,Wd X.g α3 S3 H3/\Slots X.K α3 H3 ρ3 σ3/\P α3 S3 H3/\PostS X.g W α3 H3 D (kS gf F k.gs (k.ds.drop (n+1)) ρ3 S3),λσ3 H3 ⟨α3,ρ3,S3,h3⟩=>⟨k.ds.length - (n+1),by omega,rfl,hlt,α3,ρ3,S3,h3⟩,λv H3 y=>?_⟩
  obtain⟨x3,w3,p3,d,hd,dv⟩:=yl v H3 y
  have hdrop:k.ds.drop n=d::k.ds.drop (n+1):=by
   rw [drop_eq_getElem_cons hlt]
   have:=gE0 hlt
   rw [hd]at this
   rw [<-Option.some.inj this]
  rw [hdrop]at q2
  unfold kS at q2
  replace q2:=PostS.shift x3 q2
  refine kg α2 ρ2 S2 σ2 H3 d v _ w3 (sl2.ext x3) dv (q2.expr λσ4 ρ4 S4 α4 H4 e4 x4 w4 s4 q4=>?_)
  have p4: ∀α5 S5 H5,Ext α4 H4 α5 H5->Wd X.g α5 S5 H5->stay k.gs S5->P α5 S5 H5:=λα5 S5 H5 x5 w5 s5=>hP.stays α2 S2 H3 α5 S5 H5 p3 (x4.trans x5) w5 s5
  refine kb α4 ρ4 S4 σ4 H4 _ w4 s4 ((PostS.shift x4 q4).stmt ?_ ?_ ?_ ?_)
  ·intro ρ5 S5 σ5 α5 H5 e5 x5 w5 s5 q5
   have q5':PostS X.g W α4 H4 D (if stay k.gs S5 then kS gf F k.gs (k.ds.drop (n+1)) ρ5 S5 else .no):=q5
   split at q5'
   ·rename_i hst
    exact⟨α5,ρ5,S5,w5,s5,p4 α5 S5 H5 x5 w5 hst,PostS.shift x5 q5'⟩
   ·exact q5'.elim
  ·intro r S5 v5 α5 H5 e5 x5 w5 d5 q5
   exact q5 v5 α5 H5 x5 w5 d5
  ·intro ρ5 S5 σ5 α5 H5 e5 x5 w5 s5 q5
   exact q5 σ5 α5 H5 x5 w5 s5
  ·intro ρ5 S5 σ5 α5 H5 e5 x5 w5 s5 q5
   have q5':PostS X.g W α4 H4 D (if stay k.gs S5 then kS gf F k.gs (k.ds.drop (n+1)) ρ5 S5 else .no):=q5
   split at q5'
   ·rename_i hst
    exact⟨α5,ρ5,S5,w5,s5,p4 α5 S5 H5 x5 w5 hst,PostS.shift x5 q5'⟩
   ·exact q5'.elim
 ·have e:n=k.ds.length:=by omega
  subst e
  refine .inl ⟨i2 (le_refl _),?_⟩
  rw [List.drop_length]at q2
  exact q2 σ2 α2 H2 (Ext.refl _ _) w2 sl2
def gN(t:AZ)(b:AY):Nat->AY
 |0,_,_=>.no
 |n+1,ρ,S=>(t ρ S).bind λk S1=>if k=true then(b ρ S1).bind λfl S2=>match fl with
   |.next ρ'=>gN t b n ρ' S2
   |.cont ρ'=>gN t b n ρ' S2
   |.brk ρ'=>.ok (.next ρ') S2
   |.ret r=>.ok (.ret r) S2
  else .ok (.next ρ) S1
theorem zUR(N:Nat)(hp:PassesOwn (model X.prog X.w) X.A X.env X.xe)(hc:PTm X W c tf)(hb:zRX X W as F):PSm X W (.While c as [] pos) (λρ S=>gN tf F N ρ S):=by
 obtain⟨tc,hc,kc⟩:=hc
 obtain⟨tb,hb,kb⟩:=hb
 refine⟨_,yDO hp hc hb,λα ρ S σ H D wd sl q=>⟨λm σ1 H1=> ∃α1 ρ1 S1,Wd X.g α1 S1 H1/\Slots X.K α1 H1 ρ1 σ1/\PostS X.g W α1 H1 D (gN tf F m ρ1 S1),⟨N,α,ρ,S,wd,sl,q⟩,?_⟩⟩
 rintro m σ1 H1 ⟨α1,ρ1,S1,w1,sl1,q1⟩
 cases m with
 |zero=>exact q1.elim
 |succ n=>
  unfold gN at q1
  refine kc α1 ρ1 S1 σ1 H1 _ w1 sl1 (q1.expr λu p S2 α2 H2 e2 x2 w2 d2 q2=>?_)
  cases d2
  replace q2:=PostS.shift x2 q2
  cases u with
  |false=>rw [iN xF0]at q2 ⊢; exact q2 σ1 α2 H2 (Ext.refl _ _) w2 (sl1.ext x2)
  |true=>
   rw [iP rfl]at q2 ⊢
   refine⟨λσ3 H3=> ∃α3 ρ3 S3,Wd X.g α3 S3 H3/\Slots X.K α3 H3 ρ3 σ3/\PostS X.g W α3 H3 D (gN tf F n ρ3 S3),λσ' H' h=>⟨n,Nat.lt_succ_self n,h⟩,kb α2 ρ1 S2 σ1 H2 _ w2 (sl1.ext x2) (q2.stmt ?_ ?_ ?_ ?_)⟩
   ·intro ρ5 S5 σ5 α5 H5 e5 x5 w5 s5 q5
    exact⟨α5,ρ5,S5,w5,s5,PostS.shift x5 q5⟩
   ·intro r S5 v5 α5 H5 e5 x5 w5 d5 q5
    exact q5 v5 α5 H5 x5 w5 d5
   ·intro ρ5 S5 σ5 α5 H5 e5 x5 w5 s5 q5
    exact q5 σ5 α5 H5 x5 w5 s5
   ·intro ρ5 S5 σ5 α5 H5 e5 x5 w5 s5 q5
    exact⟨α5,ρ5,S5,w5,s5,PostS.shift x5 q5⟩
end
def noX{β:Type}:R β->R β
 |.ok b S=>.ok b S
 |_=>.no
theorem xC{β:Type}(b:β)(S:Sto):noX (R.ok b S)=.ok b S:=rfl
theorem Post.bindY{β τ γ υ:Type}[Dn β τ][Dn γ υ]{g:Gm}{W:XW}{α α':List Addr}{H H':Hp}(x:Ext α H α' H'){m:R β}{k:β->Sto->R γ}{Q:υ->Hp->Prop}{Q':τ->Hp->Prop}(q:Post g W α H ((noX m).bind k) Q)
  (f: ∀u b S1 α1 H1,m=.ok b S1->Ext α' H' α1 H1->Wd g α1 S1 H1->Dn.d g H' α1 S1 H1 b u->Post g W α H (k b S1) Q->Q' u H1):Post g W0 α' H' m Q':=by
 cases m with
 |ok b S=>exact λu α1 H1 x w d=>f u b S α1 H1 rfl x w d q
 |exc c fs S=>exact q.elim
 |no=>exact q
theorem R.bind_assoc{β γ δ:Type}(m:R β)(k1:β->Sto->R γ)(k2:γ->Sto->R δ):(m.bind k1).bind k2=m.bind λb S=>(k1 b S).bind k2:=by cases m<;>rfl
def blk(nt:Nat)(idx:List Nat)(ρ:Rho):Rho:=List.replicate nt none++idx.map λi=>(ρ[i]?).join
open Classical in
noncomputable def yY(gf:MV->Rho->Sto->R Rho)(cf:AZ)(ef:AX)(ρb:Rho)(gs:List (Nat×List MV)):List MV->Sto->R (List MV)
 |[],S=>.ok [] S
 |d::ds,S=>(noX (gf d ρb S)).bind λρ1 S0=>(noX (cf ρ1 S0)).bind λk S1=>
  if k=true then(noX (ef ρ1 S1)).bind λr S2=>(nN r S2).bind λy S3=>if stay gs S3 then(yY gf cf ef ρb gs ds S3).bind λout S4=>.ok (y::out) S4 else .no
  else if stay gs S1 then yY gf cf ef ρb gs ds S1 else .no
theorem yCE{K:PySem.W.Frag}{α:List Addr}{H:Hp}{ρ:Rho}{σ:St}(q:Slots K α H ρ σ)(nt:Nat)(idx:List Nat)(τ:St)(hτ:τ.length=nt):Slots K α H (blk nt idx ρ) (τ++zJP σ idx):=by
 refine⟨by unfold blk;rw [lA,lA,zCO,lM,length_replicate,hτ],λi d e=>?_⟩
 unfold blk at e
 by_cases hi:i<nt
 ·rw [getElem?_append_left (by rw [length_replicate];exact hi),List.getElem?_replicate]at e
  split at e<;>cases e
 ·rw [getElem?_append_right (by rw [length_replicate];omega),length_replicate,getElem?_map]at e
  cases z:idx[i - nt]? with
  |none=>rw [z]at e;cases e
  |some k=>
   rw [z]at e
   have e2:(ρ[k]?).join=some d:=Option.some.inj e
   cases z2:ρ[k]? with
   |none=>rw [z2]at e2;cases e2
   |some o=>
    rw [z2]at e2
    have e3:o=some d:=e2
    subst e3
    obtain⟨v,h1,h2⟩:=q.slot k d z2
    refine⟨v,?_,h2⟩
    rw [getElem?_append_right (by omega),hτ]
    unfold zJP
    rw [getElem?_map,z]
    show some (σ[k]?).join=some (some v)
    rw [h1];rfl
def Keeps(nt:Nat)(σ:St)(Q:St->Hp->Prop):St->Hp->Prop:=λσ' H'=>σ'.length=σ.length->(∀j,nt<=j->σ'[j]? =σ[j]?)->Q σ' H'
def PGn(nt:Nat)(X:Cx)(W:XW)(tg:Expr)(gf:MV->Rho->Sto->R Rho):Prop:=
 ∃t,PG X tg t/\ ∀α ρ S σ H d v Q,Wd X.g α S H->Slots X.K α H ρ σ->Den X.K α H d v->Post X.g W α H (gf d ρ S) (Keeps nt σ Q)->t v σ H Q
def PGsn(nt:Nat)(X:Cx)(W:XW)(tgs:List Expr)(gf:List MV->Rho->Sto->R Rho):Prop:=
 ∃t,PGs X tgs t/\ ∀α ρ S σ H ds vs Q,Wd X.g α S H->Slots X.K α H ρ σ->DenL X.K α H ds vs->Post X.g W α H (gf ds ρ S) (Keeps nt σ Q)->t vs σ H Q
section
variable{X:Cx}{W:XW}{e:Expr}{pos:Pos}{nt:Nat}
theorem xR(i:Nat){x:Str}(hN:X.N.Nodup)(hi:X.N[i]? =some x:=by rfl)(hx:Loc X.env.scope x:=by first |exact Or.inl rfl|exact Or.inr rfl)(hf:X.fn x=true\/X.env.scope.names.lookup x=some .local:=by first |exact .inl rfl|exact .inr rfl|assumption)(hlt:i<nt:=by decide):
  PGn nt X W (.Name x pos) (gNm i):=⟨_,zYO hN hi hx hf,λα ρ S σ H d v Q wd sl de q=>Post.here (b:=ρ.set i (some d)) q wd (sl.set de) (by rw [length_set]) λj hj=>by rw [getElem?_set_ne (by omega)]⟩
theorem yPB:PGsn nt X W [] zBF:=⟨_,zYP,λα ρ S σ H ds vs Q wd sl de q=>by
 cases ds with
 |nil=>exact⟨de.isnil,Post.here (b:=ρ) q wd sl rfl λ_ _=>rfl⟩
 |cons d ds=>exact q.elim⟩
theorem Post.keeps{g:Gm}{W:XW}{α:List Addr}{H:Hp}{m:R Rho}{σ σ1:St}{Q:St->Hp->Prop}(h1:σ1.length=σ.length)(h2: ∀j,nt<=j->σ1[j]? =σ[j]?)(q:Post g W α H m (Keeps nt σ Q)):Post g W α H m (Keeps nt σ1 Q):=by
 cases m with
 |ok b S=>exact λu α1 H1 x w d k1 k2=>q u α1 H1 x w d (k1.trans h1) λj hj=>(k2 j hj).trans (h2 j hj)
 |exc c fs S=>exact q
 |no=>exact q
theorem zZA{es:List Expr}{g1:MV->Rho->Sto->R Rho}{g2:List MV->Rho->Sto->R Rho}(h1:PGn nt X W e g1)(h2:PGsn nt X W es g2)(hs:(assignEach (e::es) X.env).map (·.2)=assign e X.env::(assignEach es X.env).map (·.2):=by rfl):PGsn nt X W (e::es) (yR g1 g2):=by
 obtain⟨t1,h1,k1⟩:=h1
 obtain⟨t2,h2,k2⟩:=h2
 refine⟨_,zUB h1 h2 hs,λα ρ S σ H ds vs Q wd sl de q=>?_⟩
 cases ds with
 |nil=>exact q.elim
 |cons d ds=>
  obtain⟨v,r,rfl,a,l⟩:=de.uncons
  refine⟨v,r,rfl,k1 α ρ S σ H d v _ wd sl a (Post.bind q λu p S1 α1 H1 e x1 w1 d1 q1 k1 k2'=>k2 α1 p S1 u H1 ds r Q w1 d1 (l.ext x1) (Post.keeps k1 k2' (q1.shift x1)))⟩
theorem yPC{es:List Expr}{k n:Nat}{g2:List MV->Rho->Sto->R Rho}(hc:X.calm=true)(h:PGsn nt X W es g2)
  (hn:(assignEach es X.env).length=n:=by rfl) (hst:(assignEach es X.env).findIdx? (·.1)=none:=by rfl):PGn nt X W (.Tuple es k pos) (gTp n g2):=by
 obtain⟨t,h,k⟩:=h
 refine⟨_,yDM hc h hn hst,λα ρ S σ H d v Q wd sl de q=>?_⟩
 unfold gTp at q
 split at q
 ·split at q
  ·rename_i hl
   obtain⟨a,vs,rfl,s,l⟩:=xI de
   exact⟨a,vs,rfl,s,by rw [l.length];exact hl,k α ρ S σ H _ vs Q wd sl l q⟩
  ·exact q.elim
 ·exact q.elim
end
abbrev yEK(X:Cx)(W:XW)(ifs:List Expr)(f:AZ):Prop:=Jd X W (yBZ X ifs) f
section
variable{X:Cx}{W:XW}{iter:Expr}{c:Expr}{tf:AZ}{pos:Pos}
theorem gG:yEK X W [] (λ_ S=>.ok true S):=⟨_,yDZ,λα ρ S σ H Q wd sl q=>q.here wd rfl⟩
theorem zIN(h:PTm X W c tf):yEK X W [c] tf:=let ⟨t,h,k⟩:=h;⟨t,yEA h,k⟩
open Classical in
theorem zZB{elt tg:Expr}{ifs:List Expr}{sc:Scope}{itf:Rho->Sto->R Wk}{cf:AZ}{ef:AX}{gf:MV->Rho->Sto->R Rho}(osc:Scope)(N:List Str)(T:List Str)(idx:List Nat)
  (hi:PIm X W tg iter itf) (hcalm:X.calm=true)
  (hg: ∀C s₂ H1 fp,([]++T++idx.map λi=>(N[i]?).getD Str.empty).Nodup->PGn T.length (yC X sc T idx C s₂ H1 fp) W0 tg gf)
  (hc: ∀C s₂ H1 fp,yEK (yC X sc T idx C s₂ H1 fp) W0 ifs cf) (he: ∀C s₂ H1 fp,PEm (yC X sc T idx C s₂ H1 fp) W0 elt ef)
  (e1:X.env.scope=osc:=by rfl) (e2:X.N=N:=by rfl) (hB:zLC osc N sc idx=true:=by decide+kernel) (hN:([]++T++idx.map λi=>(N[i]?).getD Str.empty).Nodup:=by decide+kernel)
  (hs: ∀y,foldedSetIterable iter X.env y=pure y:=by intro _;rfl):
  Jd (β:=Er) (τ:=V) X W (λt=>PE X (.ListComp elt [⟨tg,iter,ifs,0⟩] sc pos) t/\PU X (.ListComp elt [⟨tg,iter,ifs,0⟩] sc pos) t) (λρ S=>(itf ρ S).bind λk S1=>if k.ds.length<1000000 then(yY gf cf ef (blk T.length idx ρ) k.gs k.ds S1).bind λout S2=>.ok (.new out) S2 else .no):=by
 obtain⟨wi,hi,ki⟩:=hi
 subst e1 e2
 have big:(1000000:Nat)<sizeLine:=by rw [sizeLine_eq];decide
 have hg': ∃t,(∀C s₂ H1 fp,PG (yC X sc T idx C s₂ H1 fp) tg t)/\ ∀α ρ S σ H d v Q,Wd X.g α S H->Slots X.K α H ρ σ->Den X.K α H d v->Post X.g W0 α H (gf d ρ S) (Keeps T.length σ Q)->t v σ H Q:=by
  refine⟨λv σ H Q=> ∃α ρ S d,Wd X.g α S H/\Slots X.K α H ρ σ/\Den X.K α H d v/\Post X.g W0 α H (gf d ρ S) (Keeps T.length σ Q),λC s₂ H1 fp pins s σ H v u Q I r ⟨α,ρ,S,d,h1,h2,h3,h4⟩=>?_,λα ρ S σ H d v Q h1 h2 h3 h4=>⟨α,ρ,S,d,h1,h2,h3,h4⟩⟩
  obtain⟨t,ht,kt⟩:=hg C s₂ H1 fp hN
  exact ht pins s σ H v u Q I r (kt α ρ S σ H d v Q h1 h2 h3 h4)
 obtain⟨tg',hg1,kg⟩:=hg'
 refine⟨_,⟨yJF T idx hi hcalm hB hg1 (λC s₂ H1 fp=>(Classical.choose_spec (hc C s₂ H1 fp)).1) (λC s₂ H1 fp=>(Classical.choose_spec (he C s₂ H1 fp)).1) hs,yJI T idx hi hcalm hB hg1 (λC s₂ H1 fp=>(Classical.choose_spec (hc C s₂ H1 fp)).1) (λC s₂ H1 fp=>(Classical.choose_spec (he C s₂ H1 fp)).1) hs⟩,λα ρ S σ H Q wd sl q=>ki α ρ S σ H _ wd sl (q.bind λJ k S1 α1 H1 e1 x1 w1 d1 q1=>?_)⟩
 obtain⟨P,hP⟩:=d1
 split at q1
 ·rename_i hlen
  refine⟨λn m ys H2=>m=k.ds.length - n/\n<=k.ds.length/\ys.length<=n/\ ∃α2 S2,Ext α H α2 H2/\Wd X.g α2 S2 H2/\P α2 S2 H2/\ ∃outs,DenL X.K α2 H2 outs ys/\Post X.g W α H ((yY gf cf ef (blk T.length idx ρ) k.gs (k.ds.drop n) S2).bind λo S'=>.ok (Er.new (outs++o)) S') Q,
   ⟨_,rfl,zero_le _,le_refl _,α1,S1,x1,w1,hP.here,[],yK,by simpa using q1⟩,?_⟩
  rintro n m ys H2 ⟨rfl,hn,hy,α2,S2,x2,w2,p2,outs,l,q2⟩
  obtain⟨i1,i2⟩:=hP.it n α2 S2 H2 p2 w2
  refine⟨by omega,?_⟩
  by_cases hlt:n<k.ds.length
  ·obtain⟨go,yl⟩:=i1 hlt
   refine .inr ⟨go,by omega,λv H3 y τ hτ=>?_⟩
   obtain⟨x3,w3,p3,d,hd,dv⟩:=yl v H3 y
   have hdrop:k.ds.drop n=d::k.ds.drop (n+1):=by
    rw [drop_eq_getElem_cons hlt]
    have:=gE0 hlt
    rw [hd]at this
    rw [<-Option.some.inj this]
   rw [hdrop]at q2
   unfold yY at q2
   have slb:=yCE (sl.ext (x2.trans x3)) T.length idx τ hτ
   refine kg α2 (blk T.length idx ρ) S2 _ H3 d v _ w3 slb dv ?_
   rw [R.bind_assoc]at q2
   refine q2.bindY (x2.trans x3) λσ4 ρ4 S4 α4 H4 e4 x4 w4 s4 q4 len4 kp4=>⟨⟨σ4.take T.length,?_,?_⟩,λC s₂ fp=>?_⟩
   ·refine List.ext_getElem? λj=>?_
    have hl4:σ4.length=T.length+idx.length:=by rw [len4,lA,zCO,hτ]
    by_cases hj:j<T.length
    ·rw [getElem?_append_left (by rw [lT];omega),getElem?_take_of_lt hj]
    ·rw [kp4 j (by omega),getElem?_append_right (by omega),getElem?_append_right (by rw [lT];omega),hτ,lT,min_eq_left (by omega)]
   ·rw [lT,len4,lA,zCO,hτ];omega
   have x34:Ext α H α4 H4:=(x2.trans x3).trans x4
   have p4: ∀α5 S5 H5,Ext α4 H4 α5 H5->Wd X.g α5 S5 H5->stay k.gs S5->P α5 S5 H5:=λα5 S5 H5 x5 w5 s5=>hP.stays α2 S2 H3 α5 S5 H5 p3 (x4.trans x5) w5 s5
   rw [R.bind_assoc]at q4
   refine(Classical.choose_spec (hc C s₂ H1 fp)).2 α4 ρ4 S4 σ4 H4 _ w4 s4 (q4.bindY x34 λb5 b5' S5 α5 H5 e5 x5 w5 d5 q5=>?_)
   cases d5
   cases b5 with
   |false=>
    rw [iN xF0]at q5 ⊢
    split at q5
    ·rename_i hst
     exact⟨k.ds.length - (n+1),by omega,rfl,hlt,by omega,α5,S5,x34.trans x5,w5,p4 α5 S5 H5 x5 w5 hst,outs,(l.ext (x3.trans x4)).ext x5,q5⟩
    ·exact q5.elim
   |true=>
    rw [iP rfl,R.bind_assoc]at q5
    rw [iP rfl]
    refine(Classical.choose_spec (he C s₂ H1 fp)).2 α5 ρ4 S5 σ4 H5 _ w5 (s4.ext x5) (q5.bindY (x34.trans x5) λy6 r6 S6 α6 H6 e6 x6 w6 d6 q6=>?_)
    obtain⟨d',S',α',e7,x7,y7,w7,de⟩:=zDW w6 x6 d6
    rw [e7]at q6
    have q6:Post X.g W α H ((if stay k.gs S' then(yY gf cf ef (blk T.length idx ρ) k.gs (k.ds.drop (n+1)) S').bind λout S4=>.ok (d'::out) S4 else .no).bind λo S'=>.ok (Er.new (outs++o)) S') Q:=q6
    split at q6
    ·rename_i hst
     refine⟨k.ds.length - (n+1),by omega,rfl,hlt,by rw [lA,lS];omega,α',S',(x34.trans x5).trans x7,w7,p4 α' S' H6 (x5.trans x7) w7 hst,outs++[d'],((l.ext (x3.trans x4)).ext (x5.trans x7)).append (yG de yK),?_⟩
     rw [R.bind_assoc]at q6
     have e8:(λ(o:List MV) (S':Sto)=>R.ok (Er.new ((outs++[d'])++o)) S')=(λ(b:List MV) S=>(R.ok (d'::b) S).bind λo S'=>.ok (Er.new (outs++o)) S'):=by
      funext o S'
      show _=R.ok (Er.new (outs++(d'::o))) S'
      rw [aA];rfl
     rw [e8]
     exact q6
    ·exact q6.elim
  ·have e:n=k.ds.length:=by omega
   subst e
   rw [List.drop_length]at q2
   have q3:Post X.g W α H (.ok (Er.new (outs++[])) S2) Q:=q2
   rw [aN]at q3
   exact .inl ⟨i2 (le_refl _),λD hD=>(q3.shift x2).newl w2 hD l⟩
 ·exact q1.elim
open Classical in
theorem gX{elt tg:Expr}{ifs:List Expr}{sc:Scope}{itf:Rho->Sto->R Wk}{cf:AZ}{ef:AX}{gf:MV->Rho->Sto->R Rho}(osc:Scope)(N:List Str)(T:List Str)(idx:List Nat)
  (hi:PIm X W tg iter itf) (hcalm:X.calm=true)
  (hg: ∀C s₂ H1 fp,([]++T++idx.map λi=>(N[i]?).getD Str.empty).Nodup->PGn T.length (yC X sc T idx C s₂ H1 fp) W0 tg gf)
  (hc: ∀C s₂ H1 fp,yEK (yC X sc T idx C s₂ H1 fp) W0 ifs cf) (he: ∀C s₂ H1 fp,PEm (yC X sc T idx C s₂ H1 fp) W0 elt ef)
  (e1:X.env.scope=osc:=by rfl) (e2:X.N=N:=by rfl) (hB:zLC osc N sc idx=true:=by decide+kernel) (hN:([]++T++idx.map λi=>(N[i]?).getD Str.empty).Nodup:=by decide+kernel)
  (hs: ∀y,foldedSetIterable iter X.env y=pure y:=by intro _;rfl):
  PEm X W (.ListComp elt [⟨tg,iter,ifs,0⟩] sc pos) (λρ S=>(itf ρ S).bind λk S1=>if k.ds.length<1000000 then(yY gf cf ef (blk T.length idx ρ) k.gs k.ds S1).bind λout S2=>.ok (.new out) S2 else .no):=let ⟨t,h,k⟩:=(zZB osc N T idx hi hcalm hg hc he e1 e2 hB hN hs);⟨t,h.1,k⟩
open Classical in
theorem zHA{x:Str}{pos' spos:Pos}(i:Nat)(hNN:X.N.Nodup){elt tg:Expr}{ifs:List Expr}{sc:Scope}{itf:Rho->Sto->R Wk}{cf:AZ}{ef:AX}{gf:MV->Rho->Sto->R Rho}(osc:Scope)(N:List Str)(T:List Str)(idx:List Nat)
  (hi:PIm X W tg iter itf) (hcalm:X.calm=true)
  (hg: ∀C s₂ H1 fp,([]++T++idx.map λi=>(N[i]?).getD Str.empty).Nodup->PGn T.length (yC X sc T idx C s₂ H1 fp) W0 tg gf)
  (hc: ∀C s₂ H1 fp,yEK (yC X sc T idx C s₂ H1 fp) W0 ifs cf) (he: ∀C s₂ H1 fp,PEm (yC X sc T idx C s₂ H1 fp) W0 elt ef)
  (e1:X.env.scope=osc:=by rfl) (e2:X.N=N:=by rfl) (hB:zLC osc N sc idx=true:=by decide+kernel) (hN:([]++T++idx.map λi=>(N[i]?).getD Str.empty).Nodup:=by decide+kernel)
  (hs: ∀y,foldedSetIterable iter X.env y=pure y:=by intro _;rfl)
  (hi2:X.N[i]? =some x:=by rfl) (hx:Loc X.env.scope x:=by first |exact Or.inl rfl|exact Or.inr rfl)
  (hsw:swapsWith (.ListComp elt [⟨tg,iter,ifs,0⟩] sc pos) (some (.Name x pos')) spos.line X.env=pure true:=by with_unfolding_all rfl) (hf:X.fn x=true\/X.env.scope.names.lookup x=some .local:=by first |exact .inl rfl|exact .inr rfl|assumption):
  PSm X W (.Assign [.Name x pos'] (.ListComp elt [⟨tg,iter,ifs,0⟩] sc pos) spos) (λρ S=>((itf ρ S).bind λk S1=>if k.ds.length<1000000 then(yY gf cf ef (blk T.length idx ρ) k.gs k.ds S1).bind λout S2=>.ok (.new out) S2 else .no).bind (zRY ρ i)):=by
 obtain⟨t,h,k⟩:=(zZB osc N T idx hi hcalm hg hc he e1 e2 hB hN hs)
 refine⟨_,h.2 i x pos' spos hNN hi2 hx hf hsw,λα ρ S σ H D wd sl q=>k α ρ S σ H _ wd sl (q.expr λu r S1 α1 H1 e x1 w1 d1 q1=>?_)⟩
 obtain⟨d',S',α',e1,x',y',w',de⟩:=zDW w1 x1 d1
 unfold zRY at q1
 rw [e1]at q1
 exact q1 _ α' H1 x' w' (((sl.ext x1).ex0 y').set de)
end
mutual
def lo(n:Nat):MV->Prop
 |.loc l=>l<n
 |.tup ds=>loL n ds
 |.scr ds=>loL n ds
 |.obj _ _ ds=>loL n ds
 |_=>True
def loL(n:Nat):List MV->Prop
 |[]=>True
 |d::ds=>lo n d/\loL n ds
end
def loO(n:Nat):MO->Prop
 |.lst ds=>loL n ds
 |.dic kvs=> ∀p∈kvs,lo n p.1/\lo n p.2
 |.ins _ fs=> ∀p∈fs,lo n p.2
section
variable{K:PySem.W.Frag}{α t:List Addr}{H:Hp}
mutual
theorem Den.back: ∀{d:MV}{v:V},Den K (α++t) H d v->lo α.length d->Den K α H d v
 |.non,_,q,_=>by cases zBC q;exact zIL
 |.bl _,_,q,_=>by cases zCP q;exact gU _
 |.int _,_,q,_=>by cases xT q;exact xB _
 |.str _,_,q,_=>by cases wG q;exact zAT _
 |.typ _,_,q,_=>by cases nM q;exact yJK _
 |.obj c ns ds,_,q,h=>by
  obtain⟨a,C,dx,vs,o,rfl,e,hn,hc,hl,l⟩:=cI q
  exact yJL e hn hc hl (DenL.back l (by unfold lo at h;exact h))
 |.loc l,_,q,h=>by
  obtain⟨a,rfl,e⟩:=gV q
  have hl:l<α.length:=by unfold lo at h;exact h
  rw [getElem?_append_left hl]at e
  exact zGY e
 |.tup ds,_,q,h=>by
  obtain⟨a,vs,rfl,s,l⟩:=xI q
  exact zEM s (DenL.back l (by unfold lo at h;exact h))
 |.scr ds,_,q,h=>by
  obtain⟨a,vs,rfl,s,l⟩:=cJ q
  exact zYW s (DenL.back l (by unfold lo at h;exact h))
theorem DenL.back: ∀{ds:List MV}{vs:List V},DenL K (α++t) H ds vs->loL α.length ds->DenL K α H ds vs
 |[],_,q,_=>by rw [q.isnil];exact yK
 |d::ds,_,q,h=>by
  obtain⟨v,r,rfl,a,l⟩:=q.uncons
  unfold loL at h
  exact yG (Den.back a h.1) (DenL.back l h.2)
end
mutual
theorem Den.lo: ∀{d:MV}{v:V},Den K α H d v->lo α.length d
 |.non,_,q=>by unfold M.lo;trivial
 |.bl _,_,q=>by unfold M.lo;trivial
 |.int _,_,q=>by unfold M.lo;trivial
 |.str _,_,q=>by unfold M.lo;trivial
 |.typ _,_,q=>by unfold M.lo;trivial
 |.obj c ns ds,_,q=>by
  obtain⟨a,C,dx,vs,o,rfl,e,hn,hc,hl,l⟩:=cI q
  unfold M.lo
  exact DenL.lo l
 |.loc l,_,q=>by
  obtain⟨a,rfl,e⟩:=gV q
  unfold M.lo
  exact(gS0.mp e).1
 |.tup ds,_,q=>by
  obtain⟨a,vs,rfl,s,l⟩:=xI q
  unfold M.lo
  exact DenL.lo l
 |.scr ds,_,q=>by
  obtain⟨a,vs,rfl,s,l⟩:=cJ q
  unfold M.lo
  exact DenL.lo l
theorem DenL.lo: ∀{ds:List MV}{vs:List V},DenL K α H ds vs->loL α.length ds
 |[],_,q=>by unfold loL;trivial
 |d::ds,_,q=>by
  obtain⟨v,r,rfl,a,l⟩:=q.uncons
  unfold loL
  exact⟨Den.lo a,DenL.lo l⟩
end
theorem DenK.back: ∀{fs gs},DenK K (α++t) H fs gs->(∀p∈fs,M.lo α.length p.1/\M.lo α.length p.2)->DenK K α H fs gs
 |_,_,.nil,_=>.nil
 |_,_,.cons k a l,h=>.cons k (a.back (h _ mF0).2) (DenK.back l λp hp=>h p (mO _ hp))
theorem KeyD.lo{n:Nat}{k:MV}{k':Key}(h:KeyD k k'):M.lo n k:=by
 unfold KeyD at h
 split at h
 ·unfold M.lo;trivial
 ·unfold M.lo;trivial
 ·exact h.elim
theorem DenK.lo: ∀{fs gs},DenK K α H fs gs-> ∀p∈fs,M.lo α.length p.1/\M.lo α.length p.2
 |_,_,.nil=>λp h=>by simp at h
 |_,_,.cons k a l=>λp h=>(mC.mp h).elim (λe=>by subst e;exact⟨k.lo,a.lo⟩) (DenK.lo l p)
theorem DenN.back: ∀{fs xs},DenN K (α++t) H fs xs->(∀p∈fs,M.lo α.length p.1/\M.lo α.length p.2)->DenN K α H fs xs
 |_,_,.nil,_=>.nil
 |_,_,.cons k e a d r l,h=>.cons k e (a.back (h _ mF0).1) (d.back (h _ mF0).2) r (DenN.back l λp hp=>h p (mO _ hp))
theorem DenN.lo: ∀{fs xs},DenN K α H fs xs-> ∀p∈fs,M.lo α.length p.1/\M.lo α.length p.2
 |_,_,.nil=>λp h=>by simp at h
 |_,_,.cons k e a d r l=>λp h=>(mC.mp h).elim (λz=>by subst z;exact⟨a.lo,d.lo⟩) (DenN.lo l p)
theorem DenF.back: ∀{fs gs},DenF K (α++t) H fs gs->(∀p∈fs,M.lo α.length p.2)->DenF K α H fs gs
 |_,_,.nil,_=>.nil
 |_,_,.cons a l,h=>.cons (a.back (h _ mF0)) (DenF.back l λp hp=>h p (mO _ hp))
theorem DenF.lo: ∀{fs gs},DenF K α H fs gs-> ∀p∈fs,M.lo α.length p.2
 |_,_,.nil=>λp h=>by simp at h
 |_,_,.cons a l=>λp h=>(mC.mp h).elim (λe=>by subst e;exact a.lo) (DenF.lo l p)
theorem ObD.back{g:Gm}{a:Addr}{o:MO}(q:ObD g (α++t) H a o)(h:loO α.length o):ObD g α H a o:=by
 cases o with
 |lst ds=>obtain⟨vs,h1,l⟩:=q;exact⟨vs,h1,l.back h⟩
 |dic ds=>
  rcases q with⟨vs,h1,l⟩|⟨vs,h1,l⟩
  ·exact .inl ⟨vs,h1,l.back h⟩
  ·exact .inr ⟨vs,h1,l.back h⟩
 |ins c fs=>obtain⟨C,gs,m,l,r⟩:=q;exact⟨C,gs,m,l.back h,r⟩
theorem ObD.lo{g:Gm}{a:Addr}{o:MO}(q:ObD g α H a o):loO α.length o:=by
 cases o with
 |lst ds=>obtain⟨vs,h1,l⟩:=q;exact l.lo
 |dic ds=>
  rcases q with⟨vs,h1,l⟩|⟨vs,h1,l⟩
  ·exact l.lo
  ·exact l.lo
 |ins c fs=>obtain⟨C,gs,m,l,r⟩:=q;exact l.lo
end
def yEL(S S2:Sto):Prop:=S.length<=S2.length/\ ∀l,l<S.length->S2[l]? =S[l]? \/ ∃o,S2[l]? =some o/\loO S.length o
open Classical in
noncomputable def dZ(S:Sto)(r:Er)(S2:Sto):R Er:=
 if yEL S S2 then match r with
  |.val (.loc l)=>if l<S.length then .ok r (S2.take S.length)else match S2[l]? with
   |some (.lst ds)=>if loL S.length ds then .ok (.new ds) (S2.take S.length)else .ok r S2
   |_=>.ok r S2
  |.val d=>if lo S.length d then .ok r (S2.take S.length)else .ok r S2
  |.new ds=>if loL S.length ds then .ok r (S2.take S.length)else .ok r S2
 else .ok r S2
theorem yJO{g:Gm}{α α1 α2 α3:List Addr}{H H1 H3:Hp}{S1 S3:Sto}{r:Er}{v:V}(x1:Ext α H α1 H1)(w1:Wd g α1 S1 H1)(h12: ∃t,α2=α1++t)(x2:Ext α H α2 H1)(x3:Ext α2 H1 α3 H3)(w3:Wd g α3 S3 H3)(d:DenE g.K H1 α3 H3 r v):
  ∃r' S' α',dZ S1 r S3=.ok r' S'/\Ext α H α' H3/\Wd g α' S' H3/\DenE g.K H α' H3 r' v:=by
 have x23:=x2.trans x3
 have dfull:DenE g.K H α3 H3 r v:=d.back λb h=>x1.free h
 unfold dZ
 by_cases hc:yEL S1 S3
 ·rw [iP hc]
  obtain⟨t,ht⟩: ∃t,α3=α1++t:=by
   obtain⟨t,e⟩:=h12
   obtain⟨u,e'⟩:=x3.pre
   exact⟨t++u,by rw [e',e,aA]⟩
  have hn:α1.length=S1.length:=w1.len
  have xc:Ext α H α1 H3:=⟨⟨x1.pre,x23.tup,x23.frz⟩,x1.new,x23.keep,x23.has⟩
  have wc:Wd g α1 (S3.take S1.length) H3:=by
   refine⟨by rw [lT,hn,min_eq_left hc.1],w1.nd,λl a o h1 h2=>?_⟩
   have hl:l<S1.length:=by rw [<-hn];exact(gS0.mp h1).1
   rw [getElem?_take_of_lt hl]at h2
   have h1':α3[l]? =some a:=by rw [ht,getElem?_append_left (by rw [hn];exact hl)];exact h1
   have q:=w3.obj l a o h1' h2
   rw [ht]at q
   refine q.back ?_
   rcases hc.2 l hl with e|⟨o',e,lo'⟩
   ·rw [e]at h2
    exact(w1.obj l a o h1 h2).lo
   ·rw [h2]at e
    cases e
    rw [hn];exact lo'
  have dlo: ∀d,lo S1.length d->Den g.K α3 H3 d v->DenE g.K H α1 H3 (.val d) v:=λd hd q=>.val ((ht▸q:Den g.K (α1++t) H3 d v).back (by rw [hn];exact hd))
  cases r with
  |new ds=>
   dsimp only
   split
   ·rename_i hl
    obtain⟨⟨b,vs,rfl,h1,h2,h3⟩,h4⟩:=dfull
    exact⟨_,_,α1,rfl,xc,wc,⟨b,vs,rfl,h1,λz=>h2 (by rw [ht];exact mem_append_left _ z),(ht▸h3:DenL g.K (α1++t) H3 ds vs).back (by rw [hn];exact hl)⟩,h4⟩
   ·exact⟨_,_,α3,rfl,x23,w3,dfull⟩
  |val mv=>
   have dd:Den g.K α3 H3 mv v:=dfull.1
   cases mv with
   |loc l=>
    dsimp only
    split
    ·rename_i hl
     exact⟨_,_,α1,rfl,xc,wc,dlo _ (by unfold lo;exact hl) dd⟩
    ·rename_i hl
     obtain⟨a,rfl,ha⟩:=gV dd
     split
     ·rename_i ds hS
      split
      ·rename_i hlo
       obtain⟨vs,h1,h2⟩:=w3.obj l a _ ha hS
       have hna:a∉α1:=λz=>by
        obtain⟨m,hm⟩:=getElem?_of_mem z
        have hml:m<α1.length:=(gS0.mp hm).1
        have hm':α3[m]? =some a:=by rw [ht,getElem?_append_left hml];exact hm
        obtain⟨u1,e1⟩:=gS0.mp hm'
        obtain⟨u2,e2⟩:=gS0.mp ha
        have:=(getElem_inj w3.nd).mp (e1.trans e2.symm)
        omega
       refine⟨_,_,α1,rfl,xc,wc,⟨a,vs,rfl,h1,hna,(ht▸h2:DenL g.K (α1++t) H3 ds vs).back (by rw [hn];exact hlo)⟩,λb e=>?_⟩
       cases e
       rcases x23.new a (mem_of_getElem? ha)with z|z
       ·obtain⟨u,eu⟩:=x1.pre
        exact absurd (by rw [eu];exact mem_append_left _ z) hna
       ·exact z
      ·exact⟨_,_,α3,rfl,x23,w3,dfull⟩
     ·exact⟨_,_,α3,rfl,x23,w3,dfull⟩
   |non=>dsimp only;split;(· rename_i hl;exact⟨_,_,α1,rfl,xc,wc,dlo _ hl dd⟩);(· exact⟨_,_,α3,rfl,x23,w3,dfull⟩)
   |bl b=>dsimp only;split;(· rename_i hl;exact⟨_,_,α1,rfl,xc,wc,dlo _ hl dd⟩);(· exact⟨_,_,α3,rfl,x23,w3,dfull⟩)
   |int b=>dsimp only;split;(· rename_i hl;exact⟨_,_,α1,rfl,xc,wc,dlo _ hl dd⟩);(· exact⟨_,_,α3,rfl,x23,w3,dfull⟩)
   |str b=>dsimp only;split;(· rename_i hl;exact⟨_,_,α1,rfl,xc,wc,dlo _ hl dd⟩);(· exact⟨_,_,α3,rfl,x23,w3,dfull⟩)
   |typ b=>dsimp only;split;(· rename_i hl;exact⟨_,_,α1,rfl,xc,wc,dlo _ hl dd⟩);(· exact⟨_,_,α3,rfl,x23,w3,dfull⟩)
   |obj b b' b''=>dsimp only;split;(· rename_i hl;exact⟨_,_,α1,rfl,xc,wc,dlo _ hl dd⟩);(· exact⟨_,_,α3,rfl,x23,w3,dfull⟩)
   |tup b=>dsimp only;split;(· rename_i hl;exact⟨_,_,α1,rfl,xc,wc,dlo _ hl dd⟩);(· exact⟨_,_,α3,rfl,x23,w3,dfull⟩)
   |scr b=>dsimp only;split;(· rename_i hl;exact⟨_,_,α1,rfl,xc,wc,dlo _ hl dd⟩);(· exact⟨_,_,α3,rfl,x23,w3,dfull⟩)
 ·rw [iN hc]
  exact⟨_,_,α3,rfl,x23,w3,dfull⟩
def spM(g:Gm)(n:Nat)(F:List MV->Sto->R Er):Sp:=λvs H Q _=> ∃α S ds,Wd g α S H/\DenL g.K α H ds vs/\ds.length=n/\Post g W0 α H (F ds S) Q
noncomputable def yA(n:Nat)(F:List MV->Sto->R Er)(rs:List Er)(S:Sto):R Er:=if rs.length=n then(noX (F (zP rs S).1 (zP rs S).2)).bind λr S2=>dZ S r S2 else .no
section
variable{X:Cx}{W:XW}{e:Expr}{es:List Expr}{af:Rho->Sto->R (List Er)}{pos:Pos}
theorem yCF{n:Nat}{F:List MV->Sto->R Er}{rs:List Er}{vs:List V}{α α1:List Addr}{H H1:Hp}{S1:Sto}{Q:VK}(x1:Ext α H α1 H1)(w1:Wd X.g α1 S1 H1)(d1:ArgsE X.K H α1 H1 rs vs)(q:Post X.g W α H (yA n F rs S1) Q):
  spM X.g n F vs H1 Q E0:=by
 unfold yA at q
 split at q
 ·rename_i hl
  obtain⟨α2,x2,y2,w2,l2⟩:=zFU w1 x1 d1
  refine⟨α2,_,_,w2,l2,by rw [zJR];exact hl,?_⟩
  cases z:F (zP rs S1).1 (zP rs S1).2 with
  |ok r S3=>
   rw [z]at q
   intro v α3 H3 x3 w3 d3
   obtain⟨r',S',α',e',x',w',d'⟩:=yJO x1 w1 y2.pre x2 x3 w3 d3
   have q:Post X.g W α H (dZ S1 r S3) Q:=q
   rw [e']at q
   exact q v α' H3 x' w' d'
  |exc c fs S3=>rw [z]at q;exact q.elim
  |no=>rw [z]at q;exact q.elim
 ·exact q.elim
theorem yJP{k n:Nat}{fa:Addr}{fd:FuncData}{ps:List Str}{F:List MV->Sto->R Er}{x:Str}{p:Pos}(G:FnOk X.prog X.w X.K X.mg X.base CX0 k fa fd ps (spM X.g n F))(hr:Room k X.A)(hg:Gl X x)(hm:X.mg x=some (.ref fa))
  (hk:PySem.W.keepIn X.K (.ref fa)=true) (hb:Binds X.K fd ps []) (ha:PAm X W (e::es) af) (hdb:(x==("__debug__":Str))=false:=by decide)
  (he:starEach (e::es) X.env=(false,eval e X.env)::starEach es X.env:=by rfl) (hpl:(backTo pos (starEach es X.env)).any (·.1)=false:=by rfl):
  PEm X W (.Call (.Name x p) (e::es) [] pos) (λρ S=>(af ρ S).bind λrs S1=>yA n F rs S1):=by
 obtain⟨t,ha,kk⟩:=ha
 refine⟨_,yIV G hr hg hm hk hb .nil pass0 ha hdb he hpl,λα ρ S σ H Q wd sl q=>kk α ρ S σ H _ wd sl (q.bind λvs rs S1 α1 H1 e1 x1 w1 d1 q1=>?_)⟩
 rw [aN]
 exact yCF x1 w1 d1 q1
end
def yI(N:List Str)(ds:List MV):Rho:=ds.map some++List.replicate (N.length - ds.length) none
def xD:R Fl->R Er
 |.ok (.next _) S=>.ok (.val .non) S
 |.ok (.ret r) S=>.ok r S
 |.exc c fs S=>.exc c fs S
 |_=>.no
theorem zUS{K:PySem.W.Frag}{α:List Addr}{N:List Str}{H:Hp}{ds:List MV}{vs:List V}(l:DenL K α H ds vs):Slots K α H (yI N ds) (start N vs):=by
 have hlen:=l.length
 refine⟨?_,λi d e=>?_⟩
 ·unfold start yI
  rw [lA,lA,lM,lM,length_replicate,length_replicate,hlen]
 ·unfold yI at e
  by_cases hi:i<ds.length
  ·rw [getElem?_append_left (by simpa using hi),getElem?_map]at e
   cases z:ds[i]? with
   |none=>rw [z]at e;cases e
   |some d'=>
    rw [z]at e
    obtain⟨v,h1,h2⟩:=l.at z
    have e':d'=d:=Option.some.inj (Option.some.inj e)
    subst e'
    refine⟨v,?_,h2⟩
    unfold start
    rw [getElem?_append_left (by rw [lM,hlen];exact hi),getElem?_map,h1];rfl
  ·rw [getElem?_append_right (by simpa using hi),List.getElem?_replicate]at e
   split at e<;>cases e
section
variable{P:Program}{w:World}{K:PySem.W.Frag}{mg:Str->Option Value}{base:Heap}
theorem okM{x qual:Str}{st:Stmt}{f:Addr}{fd:FuncData}{N ps:List Str}{k:Nat}(Fb:AY)(F:Fun K x qual st f fd)(Sc:FnScope N ps (zH st))
  (hbody: ∀(cdv:Value)(A:Around)(outer:List Env)(s:Shared)(H:Hp)(E:XK),Room k (A.deeper (envOfC qual (zH st) s.heap.objs.size f cdv))->
   zRX (zXC CX0 P w K mg base N qual (zH st) f cdv A outer s H E).nox W0 (zAS st) Fb):
  FnOk P w K mg base CX0 (k+1) f fd ps (spM ⟨K,mg,P,w⟩ ps.length λds S=>xD (Fb (yI N ds) S)):=by
 refine F.ok Sc (λvs H Q E h=>?_) (λcdv A outer s H vs Q E hr h=>?_)
 ·obtain⟨α,S,ds,_,l,hl,_⟩:=h
  rw [l.length,hl]
 ·obtain⟨α,S,ds,wd,l,hl,q⟩:=h
  obtain⟨t,ht,kk⟩:=hbody cdv A outer s H E hr
  refine⟨t,ht,kk α (yI N ds) S (start N vs) H _ wd (zUS l) ?_⟩
  dsimp only at q
  cases z:Fb (yI N ds) S with
  |ok fl S'=>
   rw [z]at q
   cases fl with
   |next ρ=>exact λσ α' H' x' w' s'=>q .non α' H' x' w' (DenE.val zIL)
   |ret r=>exact λv α' H' x' w' d'=>q v α' H' x' w' d'
   |brk ρ=>exact q.elim
   |cont ρ=>exact q.elim
  |exc c fs S'=>rw [z]at q;exact λα' H' x' w'=>q α' H' x' w'
  |no=>rw [z]at q;exact q
end
inductive Vw where
 |fl (v:V)|tp (ds:List MV)|ls (ds:List MV)
def jM(S:Sto):Er->Option (List MV)
 |.new ds=>some ds
 |.val (.scr ds)=>some ds
 |.val (.loc l)=>match S[l]? with
  |some (.lst ds)=>some ds
  |_=>none
 |_=>none
def vwE(S:Sto):Er->Option Vw
 |.val .non=>some (.fl .non)
 |.val (.bl b)=>some (.fl (.bl b))
 |.val (.int i)=>some (.fl (.int i))
 |.val (.str x)=>some (.fl (.str (mkS x)))
 |.val (.tup ds)=>some (.tp ds)
 |.val (.typ _)=>none
 |.val (.obj _ _ _)=>none
 |r=>(jM S r).map .ls
def prs(e:MV->MV->Option Bool):List MV->List MV->Option (List Bool)
 |d::ds,f::fs=>(e d f).bind λk=>(prs e ds fs).map (k::·)
 |_,_=>some []
def eqW(e:MV->MV->Option Bool):Vw->Vw->Option Bool
 |.fl x,.fl y=>some (eqV x y)
 |.tp ds,.tp es=>(prs e ds es).map λbs=>bs.all id&&ds.length==es.length
 |.ls ds,.ls es=>if ds.length=es.length then(prs e ds es).map λbs=>bs.all id else some false
 |_,_=>some false
theorem zXL(e:MV->MV->Option Bool)(ds es:List MV):eqW e (.tp ds) (.tp es)=(prs e ds es).map λbs=>bs.all id&&ds.length==es.length:=rfl
theorem zRZ(e:MV->MV->Option Bool)(ds es:List MV):eqW e (.ls ds) (.ls es)=if ds.length=es.length then(prs e ds es).map λbs=>bs.all id else some false:=rfl
def eqv(S:Sto):Nat->MV->MV->Option Bool
 |0,_,_=>none
 |n+1,a,b=>(vwE S (.val a)).bind λx=>(vwE S (.val b)).bind λy=>eqW (eqv S n) x y
def zLP(S:Sto)(n:Nat)(a b:Er):Option Bool:=(vwE S a).bind λx=>(vwE S b).bind λy=>eqW (eqv S n) x y
section
variable{X:Cx}{α:List Addr}{S:Sto}{H:Hp}
theorem zFW{K:PySem.W.Frag}{g:Gm}(hK:g.K=K)(wd:Wd g α S H){r:Er}{ds:List MV}{x:V}(e:jM S r=some ds)(d:DenX K α H r x): ∃a vs,x=.ref a/\SqL K H a vs/\DenL K α H ds vs:=by
 subst hK
 unfold jM at e
 split at e
 ·cases e
  obtain⟨b,vs,rfl,h,_,l⟩:=d
  exact⟨b,vs,rfl,.of h,l⟩
 ·cases e
  obtain⟨a,vs,rfl,s,l⟩:=zMZ d
  exact⟨a,vs,rfl,s.l,l⟩
 ·rename_i n
  obtain⟨a,rfl,h⟩:=zDG d
  split at e
  ·rename_i es hS
   cases e
   obtain⟨vs,h1,l⟩:=wd.obj n a _ h hS
   exact⟨a,vs,rfl,.of h1,l⟩
  ·cases e
 ·cases e
theorem zFH{r:Er}{x y:V}(e:vwE S r=some (.fl y))(d:DenX X.K α H r x):x=y/\wY y=true:=by
 unfold vwE at e
 split at e
 ·cases e;exact⟨zMY d,rfl⟩
 ·cases e;exact⟨zQE d,rfl⟩
 ·cases e;exact⟨xU d,rfl⟩
 ·cases e;exact⟨cK d,rfl⟩
 ·cases e
 ·cases e
 ·cases e
 ·cases z:jM S r<;>rw [z]at e<;>cases e
theorem zFI{r:Er}{x:V}{ds:List MV}(e:vwE S r=some (.tp ds))(d:DenX X.K α H r x): ∃a vs,x=.ref a/\SqT X.K H a vs/\DenL X.K α H ds vs:=by
 unfold vwE at e
 split at e
 ·cases e
 ·cases e
 ·cases e
 ·cases e
 ·cases e;exact zBD d
 ·cases e
 ·cases e
 ·cases z:jM S r<;>rw [z]at e<;>cases e
theorem zFJ(wd:Wd X.g α S H){r:Er}{x:V}{ds:List MV}(e:vwE S r=some (.ls ds))(d:DenX X.K α H r x): ∃a vs,x=.ref a/\SqL X.K H a vs/\DenL X.K α H ds vs:=by
 unfold vwE at e
 split at e
 ·cases e
 ·cases e
 ·cases e
 ·cases e
 ·cases e
 ·cases e
 ·cases e
 ·cases z:jM S r with
  |none=>rw [z]at e;cases e
  |some es=>rw [z]at e;cases e;exact zFW rfl wd z d
theorem zHB{e:MV->MV->Option Bool}: ∀{ds es:List MV}{bs:List Bool},prs e ds es=some bs->bs.length=min ds.length es.length
 |[],_,_,h=>by simp [prs]at h;subst h;simp
 |_::_,[],_,h=>by simp [prs]at h;subst h;simp
 |d::ds,f::fs,bs,h=>by
  unfold prs at h
  cases z:e d f with
  |none=>rw [z]at h;cases h
  |some k=>
   rw [z]at h
   cases z2:prs e ds fs with
   |none=>simp [z2]at h
   |some cs=>
    simp [z2]at h
    subst h
    simp [zHB z2]
theorem zSA{e:MV->MV->Option Bool}: ∀{ds es:List MV}{bs:List Bool}{j:Nat}{d f:MV},prs e ds es=some bs->ds[j]? =some d->es[j]? =some f->e d f=some (bs.getD j true)
 |[],_,_,_,_,_,h,h1,_=>by simp at h1
 |_::_,[],_,_,_,_,h,_,h2=>by simp at h2
 |d::ds,f::fs,bs,j,d',f',h,h1,h2=>by
  unfold prs at h
  cases z:e d f with
  |none=>rw [z]at h;cases h
  |some k=>
   rw [z]at h
   cases z2:prs e ds fs with
   |none=>simp [z2]at h
   |some cs=>
    simp [z2]at h
    subst h
    cases j with
    |zero=>simp at h1 h2;subst h1 h2;simpa using z
    |succ j=>simpa using zSA z2 (by simpa using h1) (by simpa using h2)
theorem range_all{bs:List Bool}{n:Nat}(h:bs.length=n):(List.range n).all (λj=>bs.getD j true)=bs.all id:=by
 subst h
 rw [Bool.eq_iff_iff,all_eq_true,all_eq_true]
 constructor
 ·intro h x hx
  obtain⟨i,hi,rfl⟩:=getElem_of_mem hx
  have:=h i (mem_range.mpr hi)
  simpa [getD_eq_getElem?_getD,hi]using this
 ·intro h i hi
  have hi':=mem_range.mp hi
  have:=h bs[i] (getElem_mem hi')
  simpa [getD_eq_getElem?_getD,hi']using this
variable{pins:List (Addr×Obj)}{σ:St}{s:Shared}
theorem zIO(I:Inv X pins σ H s){a:Addr}{xs ys:List V}(h:SqL X.K H a xs)(h':SqT X.K H a ys):False:=by
 obtain⟨_,_,pl,_⟩:=I.list h
 obtain⟨_,_,pt,_⟩:=I.tuple h'
 obtain⟨o,n,e,c,_,_⟩:=pl
 obtain⟨o',e',c',_⟩:=pt
 rw [e]at e'
 cases e'
 rw [c]at c'
 exact absurd c' (by simp)
theorem yEM(I:Inv X pins σ H s)(wd:Wd X.g α S H){e:MV->MV->Option Bool}(he: ∀d f v k,Den X.K α H d v->Den X.K α H f v->e d f=some k->k=true){a b:Er}{x:V}{p q:Vw}{k:Bool}
  (ha:vwE S a=some p) (hb:vwE S b=some q) (da:DenX X.K α H a x) (db:DenX X.K α H b x) (h:eqW e p q=some k):k=true:=by
 have hp: ∀{ds es:List MV}{vs:List V}{bs:List Bool},DenL X.K α H ds vs->DenL X.K α H es vs->prs e ds es=some bs->bs.all id=true:=by
  intro ds es vs bs l1 l2 z
  rw [all_eq_true]
  intro k hk
  obtain⟨i,hi,rfl⟩:=getElem_of_mem hk
  have hl:=zHB z
  have h1:i<ds.length:=by omega
  have h2:i<es.length:=by omega
  obtain⟨v,g1,g2⟩:=l1.at (gE0 h1)
  obtain⟨v',g3,g4⟩:=l2.at (gE0 h2)
  rw [g1]at g3;cases g3
  have:=he _ _ _ _ g2 g4 (zSA z (gE0 h1) (gE0 h2))
  simpa [getD_eq_getElem?_getD,hi]using this
 cases p with
 |fl y=>
  obtain⟨rfl,f1⟩:=zFH ha da
  cases q with
  |fl z=>obtain⟨rfl,f2⟩:=zFH hb db;cases h;exact yEC f1
  |tp ds=>obtain⟨a,vs,rfl,_⟩:=zFI hb db;exact absurd (show false=true from f1) xF0
  |ls ds=>obtain⟨a,vs,rfl,_⟩:=zFJ wd hb db;exact absurd (show false=true from f1) xF0
 |tp ds=>
  obtain⟨a1,vs,rfl,s1,l1⟩:=zFI ha da
  cases q with
  |fl z=>obtain⟨rfl,f2⟩:=zFH hb db;exact absurd (show false=true from f2) xF0
  |tp es=>
   obtain⟨a2,us,e2,s2,l2⟩:=zFI hb db
   cases e2
   cases I.tuple_inj s1 s2
   rw [zXL]at h
   cases z:prs e ds es with
   |none=>rw [z]at h;cases h
   |some bs=>
    rw [z]at h
    cases h
    show(bs.all id&&ds.length==es.length)=true
    rw [hp l1 l2 z, <-l1.length, <-l2.length];simp
  |ls es=>obtain⟨a2,us,e2,s2,l2⟩:=zFJ wd hb db;cases e2;exact(zIO I s2 s1).elim
 |ls ds=>
  obtain⟨a1,vs,rfl,s1,l1⟩:=zFJ wd ha da
  cases q with
  |fl z=>obtain⟨rfl,f2⟩:=zFH hb db;exact absurd (show false=true from f2) xF0
  |tp es=>obtain⟨a2,us,e2,s2,l2⟩:=zFI hb db;cases e2;exact(zIO I s1 s2).elim
  |ls es=>
   obtain⟨a2,us,e2,s2,l2⟩:=zFJ wd hb db
   cases e2
   cases I.list_inj s1 s2
   rw [zRZ]at h
   rw [iP (by rw [<-l1.length, <-l2.length])]at h
   cases z:prs e ds es with
   |none=>rw [z]at h;cases h
   |some bs=>rw [z]at h;cases h;exact hp l1 l2 z
theorem zNB(I:Inv X pins σ H s)(wd:Wd X.g α S H): ∀(n:Nat)(d f:MV)(v:V)(k:Bool),Den X.K α H d v->Den X.K α H f v->eqv S n d f=some k->k=true
 |0,_,_,_,_,_,_,h=>by cases h
 |n+1,d,f,v,k,h1,h2,h=>by
  unfold eqv at h
  cases za:vwE S (.val d)with
  |none=>rw [za]at h;cases h
  |some p=>
   cases zb:vwE S (.val f)with
   |none=>rw [za,zb]at h;cases h
   |some q=>
    rw [za,zb]at h
    exact yEM I wd (zNB I wd n) za zb (a:=.val d) (b:=.val f) h1 h2 h
theorem zIP{e:MV->MV->Option Bool}{A:Around}(he: ∀d f x y u v k,Den X.K α H d x->Den X.K α H f y->RelV x u->RelV y v->e d f=some k->SeqAt.EqAt A s u v k)
  {ds es:List MV} {vs us:List V} {its its2:List Value} {bs:List Bool} (l1:DenL X.K α H ds vs) (l2:DenL X.K α H es us) (r1:Vals vs its) (r2:Vals us its2) (z:prs e ds es=some bs):
  ∀j (h1:j<its.toArray.size) (h2:j<its2.toArray.size),SeqAt.EqAt A s its.toArray[j] its2.toArray[j] (bs.getD j true):=by
 intro j h1 h2
 have g1:j<vs.length:=by rw [r1.length];simpa using h1
 have g2:j<us.length:=by rw [r2.length];simpa using h2
 obtain⟨d,d1,d2⟩:=l1.get (gE0 g1)
 obtain⟨f,f1,f2⟩:=l2.get (gE0 g2)
 obtain⟨u,u1,u2⟩:=r1.get (gE0 g1)
 obtain⟨v,v1,v2⟩:=r2.get (gE0 g2)
 have e1:its.toArray[j]=u:=by
  have:its[j]? =some (its[j]'(by simpa using h1)):=gE0 _
  rw [u1]at this
  simpa using(Option.some.inj this).symm
 have e2:its2.toArray[j]=v:=by
  have:its2[j]? =some (its2[j]'(by simpa using h2)):=gE0 _
  rw [v1]at this
  simpa using(Option.some.inj this).symm
 rw [e1,e2]
 exact he d f _ _ u v _ d2 f2 u2 v2 (zSA z d1 f1)
theorem zIA(I:Inv X pins σ H s)(wd:Wd X.g α S H): ∀(n:Nat)(A:Around)(d f:MV)(x y:V)(u v:Value)(k:Bool),A.units+n<cLine->Den X.K α H d x->Den X.K α H f y->RelV x u->RelV y v->eqv S n d f=some k->SeqAt.EqAt A s u v k
 |0,_,_,_,_,_,_,_,_,_,_,_,_,_,h=>by cases h
 |n+1,A,d,f,x,y,u,v,k,hu,h1,h2,rx,ry,h=>by
  have hu0:A.units<cLine:=by omega
  have hsame:=h
  unfold eqv at h
  cases za:vwE S (.val d)with
  |none=>rw [za]at h;cases h
  |some p=>
   cases zb:vwE S (.val f)with
   |none=>rw [za,zb]at h;cases h
   |some q=>
    rw [za,zb]at h
    have h:eqW (eqv S n) p q=some k:=h
    have he:=λd f x y u v k a b c d' e=>zIA I wd n A.in1 d f x y u v k (show A.units+1+n<cLine by omega) a b c d' e
    cases p with
    |fl x'=>
     obtain⟨rfl,fx⟩:=zFH za (α:=α) (H:=H) (X:=X) h1
     cases q with
     |fl y'=>obtain⟨rfl,fy⟩:=zFH zb (α:=α) (H:=H) (X:=X) h2;cases h;exact yOK rx ry fx fy
     |tp es=>
      obtain⟨b,us,rfl,s2,l2⟩:=zFI zb (α:=α) (H:=H) (X:=X) h2
      cases ry;cases h
      obtain⟨its,_,pt,_⟩:=I.tuple s2
      exact yMO rx fx pt hu0
     |ls es=>
      obtain⟨b,us,rfl,s2,l2⟩:=zFJ wd zb h2
      cases ry;cases h
      obtain⟨its,_,pl,_⟩:=I.list s2
      exact eq_lr rx fx pl.isList hu0
    |tp ds=>
     obtain⟨a,vs,rfl,s1,l1⟩:=zFI za (α:=α) (H:=H) (X:=X) h1
     cases rx
     obtain⟨its,r1,pt,_⟩:=I.tuple s1
     cases q with
     |fl y'=>obtain⟨rfl,fy⟩:=zFH zb (α:=α) (H:=H) (X:=X) h2;cases h;exact yMN ry fy pt hu0
     |tp es=>
      obtain⟨b,us,rfl,s2,l2⟩:=zFI zb (α:=α) (H:=H) (X:=X) h2
      cases ry
      by_cases hab:a=b
      ·subst hab
       rw [zNB I wd (n+1) d f _ k h1 h2 hsame]
       exact SeqAt.EqAt.same _
      ·obtain⟨its2,r2,pt2,_⟩:=I.tuple s2
       rw [zXL]at h
       cases z:prs (eqv S n) ds es with
       |none=>rw [z]at h;cases h
       |some bs=>
        rw [z]at h
        cases h
        have:=SeqAt.RcAt.tuples pt pt2 hu0 (zIP he l1 l2 r1 r2 z)
        have hl:=zHB z
        rw [range_all (by rw [hl];simp [<-r1.length, <-r2.length,l1.length,l2.length])]at this
        have e3:(its.toArray.size==its2.toArray.size)=(ds.length==es.length):=by simp [<-r1.length, <-r2.length,l1.length,l2.length]
        rw [e3]at this
        exact SeqAt.EqAt.of_refs hab this
     |ls es=>
      obtain⟨b,us,rfl,s2,l2⟩:=zFJ wd zb h2
      cases ry;cases h
      obtain⟨its2,_,pl,_⟩:=I.list s2
      exact SeqAt.EqAt.tuple_list pt pl.isList hu0
    |ls ds=>
     obtain⟨a,vs,rfl,s1,l1⟩:=zFJ wd za h1
     cases rx
     obtain⟨its,r1,pl,_⟩:=I.list s1
     cases q with
     |fl y'=>obtain⟨rfl,fy⟩:=zFH zb (α:=α) (H:=H) (X:=X) h2;cases h;exact eq_ll ry fy pl.isList hu0
     |tp es=>
      obtain⟨b,us,rfl,s2,l2⟩:=zFI zb (α:=α) (H:=H) (X:=X) h2
      cases ry;cases h
      obtain⟨its2,_,pt,_⟩:=I.tuple s2
      exact SeqAt.EqAt.list_tuple pl.isList pt hu0
     |ls es=>
      obtain⟨b,us,rfl,s2,l2⟩:=zFJ wd zb h2
      cases ry
      by_cases hab:a=b
      ·subst hab
       rw [zNB I wd (n+1) d f _ k h1 h2 hsame]
       exact SeqAt.EqAt.same _
      ·obtain⟨its2,r2,pl2,_⟩:=I.list s2
       rw [zRZ]at h
       by_cases hl:ds.length=es.length
       ·rw [iP hl]at h
        cases z:prs (eqv S n) ds es with
        |none=>rw [z]at h;cases h
        |some bs=>
         rw [z]at h
         cases h
         have hs:its.toArray.size=its2.toArray.size:=by simp [<-r1.length, <-r2.length,l1.length,l2.length,hl]
         have:=SeqAt.RcAt.lists pl.isList pl2.isList hs hu0 (zIP he l1 l2 r1 r2 z)
         have hl':=zHB z
         rw [range_all (by rw [hl'];simp [<-r1.length,l1.length,hl])]at this
         exact SeqAt.EqAt.of_refs hab this
       ·rw [iN hl]at h
        cases h
        exact SeqAt.EqAt.of_refs hab (SeqAt.RcAt.lists_lengths pl.isList pl2.isList (by simpa [<-r1.length, <-r2.length,l1.length,l2.length]using hl) hu0)
theorem yMR{RC:Around->Shared->Value->Value->Bool->Prop}{tr:Bool->Bool}{A:Around}
  (hff: ∀x y u v,RelV x u->RelV y v->wY x=true->wY y=true->RC A s u v (tr (eqV x y)))
  (hfl: ∀x v l items,RelV x v->wY x=true->s.heap.IsList l items->A.units<cLine->RC A s v (.ref l) (tr false)/\RC A s (.ref l) v (tr false))
  (hft: ∀x v l items,RelV x v->wY x=true->s.heap.IsTuple l items->A.units<cLine->RC A s v (.ref l) (tr false)/\RC A s (.ref l) v (tr false))
  (hlt: ∀l b items items2,s.heap.IsList l items->s.heap.IsTuple b items2->A.units<cLine->RC A s (.ref l) (.ref b) (tr false)/\RC A s (.ref b) (.ref l) (tr false))
  (htt: ∀(l b:Addr)(items items2:Array Value)(e:Nat->Bool),s.heap.IsTuple l items->s.heap.IsTuple b items2->A.units<cLine->(∀j (h1:j<items.size) (h2:j<items2.size),SeqAt.EqAt A.in1 s items[j] items2[j] (e j))->RC A s (.ref l) (.ref b) (tr ((List.range (min items.size items2.size)).all e&&items.size==items2.size)))
  (hll: ∀(l b:Addr)(items items2:Array Value)(e:Nat->Bool),s.heap.IsList l items->s.heap.IsList b items2->items.size=items2.size->A.units<cLine->(∀j (h1:j<items.size) (h2:j<items2.size),SeqAt.EqAt A.in1 s items[j] items2[j] (e j))->RC A s (.ref l) (.ref b) (tr ((List.range items.size).all e)))
  (hln: ∀(l b:Addr)(items items2:Array Value),s.heap.IsList l items->s.heap.IsList b items2->(items.size !=items2.size)=true->A.units<cLine->RC A s (.ref l) (.ref b) (tr false))
  (I:Inv X pins σ H s) (wd:Wd X.g α S H) (n:Nat) {a b:Er} {x y:V} {u v:Value} {k:Bool} (hu:A.units+(n+1)<cLine) (h1:DenX X.K α H a x) (h2:DenX X.K α H b y) (rx:RelV x u) (ry:RelV y v) (h:zLP S n a b=some k):RC A s u v (tr k):=by
 have hu0:A.units<cLine:=by omega
 unfold zLP at h
 cases za:vwE S a with
 |none=>rw [za]at h;cases h
 |some p=>
  cases zb:vwE S b with
  |none=>rw [za,zb]at h;cases h
  |some q=>
   rw [za,zb]at h
   have h:eqW (eqv S n) p q=some k:=h
   have he:=λd f x y u v k a b c d' e=>zIA I wd n A.in1 d f x y u v k (show A.units+1+n<cLine by omega) a b c d' e
   cases p with
   |fl x'=>
    obtain⟨rfl,fx⟩:=zFH za h1
    cases q with
    |fl y'=>obtain⟨rfl,fy⟩:=zFH zb h2;cases h;exact hff _ _ _ _ rx ry fx fy
    |tp es=>
     obtain⟨b,us,rfl,s2,l2⟩:=zFI zb h2
     cases ry;cases h
     obtain⟨its,_,pt,_⟩:=I.tuple s2
     exact(hft _ _ _ _ rx fx pt hu0).1
    |ls es=>
     obtain⟨b,us,rfl,s2,l2⟩:=zFJ wd zb h2
     cases ry;cases h
     obtain⟨its,_,pl,_⟩:=I.list s2
     exact(hfl _ _ _ _ rx fx pl.isList hu0).1
   |tp ds=>
    obtain⟨a,vs,rfl,s1,l1⟩:=zFI za h1
    cases rx
    obtain⟨its,r1,pt,_⟩:=I.tuple s1
    cases q with
    |fl y'=>obtain⟨rfl,fy⟩:=zFH zb h2;cases h;exact(hft _ _ _ _ ry fy pt hu0).2
    |tp es=>
     obtain⟨b,us,rfl,s2,l2⟩:=zFI zb h2
     cases ry
     obtain⟨its2,r2,pt2,_⟩:=I.tuple s2
     rw [zXL]at h
     cases z:prs (eqv S n) ds es with
     |none=>rw [z]at h;cases h
     |some bs=>
      rw [z]at h
      cases h
      have:=htt _ _ _ _ _ pt pt2 hu0 (zIP he l1 l2 r1 r2 z)
      have hl:=zHB z
      rw [range_all (by rw [hl];simp [<-r1.length, <-r2.length,l1.length,l2.length])]at this
      have e3:(its.toArray.size==its2.toArray.size)=(ds.length==es.length):=by simp [<-r1.length, <-r2.length,l1.length,l2.length]
      rw [e3]at this
      exact this
    |ls es=>
     obtain⟨b,us,rfl,s2,l2⟩:=zFJ wd zb h2
     cases ry;cases h
     obtain⟨its2,_,pl,_⟩:=I.list s2
     exact(hlt _ _ _ _ pl.isList pt hu0).2
   |ls ds=>
    obtain⟨a,vs,rfl,s1,l1⟩:=zFJ wd za h1
    cases rx
    obtain⟨its,r1,pl,_⟩:=I.list s1
    cases q with
    |fl y'=>obtain⟨rfl,fy⟩:=zFH zb h2;cases h;exact(hfl _ _ _ _ ry fy pl.isList hu0).2
    |tp es=>
     obtain⟨b,us,rfl,s2,l2⟩:=zFI zb h2
     cases ry;cases h
     obtain⟨its2,_,pt,_⟩:=I.tuple s2
     exact(hlt _ _ _ _ pl.isList pt hu0).1
    |ls es=>
     obtain⟨b,us,rfl,s2,l2⟩:=zFJ wd zb h2
     cases ry
     obtain⟨its2,r2,pl2,_⟩:=I.list s2
     rw [zRZ]at h
     by_cases hl:ds.length=es.length
     ·rw [iP hl]at h
      cases z:prs (eqv S n) ds es with
      |none=>rw [z]at h;cases h
      |some bs=>
       rw [z]at h
       cases h
       have hs:its.toArray.size=its2.toArray.size:=by simp [<-r1.length, <-r2.length,l1.length,l2.length,hl]
       have:=hll _ _ _ _ _ pl.isList pl2.isList hs hu0 (zIP he l1 l2 r1 r2 z)
       have hl':=zHB z
       rw [range_all (by rw [hl'];simp [<-r1.length,l1.length,hl])]at this
       exact this
     ·rw [iN hl]at h
      cases h
      exact hln _ _ _ _ pl.isList pl2.isList (by simpa [<-r1.length, <-r2.length,l1.length,l2.length]using hl) hu0
theorem yPD(I:Inv X pins σ H s)(wd:Wd X.g α S H)(n:Nat){A:Around}{a b:Er}{x y:V}{u v:Value}{k:Bool}(hu:A.units+(n+1)<cLine)(h1:DenX X.K α H a x)(h2:DenX X.K α H b y)(rx:RelV x u)(ry:RelV y v)(h:zLP S n a b=some k):SeqAt.RcAt A s u v k:=
 yMR (RC:=SeqAt.RcAt) (tr:=id) (λ_ _ _ _ a b c d=>yOS a b c d) (λ_ _ _ _ a b c d=>⟨rc_lr a b c d,rc_ll a b c d⟩) (λ_ _ _ _ a b c d=>⟨rc_tr a b c d,rc_tl a b c d⟩)
  (λ_ _ _ _ a b c=>⟨SeqAt.RcAt.list_tuple a b c,SeqAt.RcAt.tuple_list b a c⟩) (λ_ _ _ _ _ a b c d=>SeqAt.RcAt.tuples a b c d) (λ_ _ _ _ _ a b c d e=>SeqAt.RcAt.lists a b c d e) (λ_ _ _ _ a b c d=>SeqAt.RcAt.lists_lengths a b c d)
  I wd n hu h1 h2 rx ry h
theorem yPE(I:Inv X pins σ H s)(wd:Wd X.g α S H)(n:Nat){A:Around}{a b:Er}{x y:V}{u v:Value}{k:Bool}(hu:A.units+(n+1)<cLine)(h1:DenX X.K α H a x)(h2:DenX X.K α H b y)(rx:RelV x u)(ry:RelV y v)(h:zLP S n a b=some k):SeqAt.RcNeAt A s u v (!k):=
 yMR (RC:=SeqAt.RcNeAt) (tr:=λb=>!b) (λ_ _ _ _ a b c d=>yOT a b c d) (λ_ _ _ _ a b c d=>⟨rn_lr a b c d,rn_ll a b c d⟩) (λ_ _ _ _ a b c d=>⟨rn_tr a b c d,rn_tl a b c d⟩)
  (λ_ _ _ _ a b c=>⟨SeqAt.RcNeAt.list_tuple a b c,SeqAt.RcNeAt.tuple_list b a c⟩) (λ_ _ _ _ _ a b c d=>SeqAt.RcNeAt.tuples a b c d) (λ_ _ _ _ _ a b c d e=>SeqAt.RcNeAt.lists a b c d e) (λ_ _ _ _ a b c d=>SeqAt.RcNeAt.lists_lengths a b c d)
  I wd n hu h1 h2 rx ry h
theorem zZC{α β:Type}: ∀{a c:List α}{b d:List β},a.length=b.length->c.length=d.length->a.zip b=c.zip d->a=c/\b=d
 |[],[],[],[],_,_,_=>⟨rfl,rfl⟩
 |[],_::_,[],_::_,_,_,e=>by simp at e
 |_::_,[],_::_,[],_,_,e=>by simp at e
 |x::a,y::c,z::b,w::d,h1,h2,e=>by
  simp only [zip_cons_cons,List.cons.injEq,Prod.mk.injEq]at e
  obtain⟨rfl,rfl⟩:=zZC (by simpa using h1) (by simpa using h2) e.2
  exact⟨by rw [e.1.1],by rw [e.1.2]⟩
mutual
theorem Den.inj(I:Inv X pins σ H s)(wd:Wd X.g α S H): ∀{d f:MV}{v:V},Den X.K α H d v->Den X.K α H f v->d=f
 |.non,f,v,h,h'=>by cases zBC h;cases f<;>first |rfl|(have:=zCP h';cases this;done)|(have:=xT h';cases this;done)|(have:=wG h';cases this;done)|(have:=nM h';cases this;done)|(obtain⟨_,_,e,_⟩:=xI h';cases e;done)|(obtain⟨_,_,e,_⟩:=cJ h';cases e;done)|(obtain⟨_,e,_⟩:=gV h';cases e;done)|(obtain⟨_,_,_,_,_,e,_⟩:=cI h';cases e;done)
 |.bl b,f,v,h,h'=>by cases zCP h;cases f<;>first |(have:=zCP h';cases this;rfl;done)|(have:=zBC h';cases this;done)|(have:=xT h';cases this;done)|(have:=wG h';cases this;done)|(have:=nM h';cases this;done)|(obtain⟨_,_,e,_⟩:=xI h';cases e;done)|(obtain⟨_,_,e,_⟩:=cJ h';cases e;done)|(obtain⟨_,e,_⟩:=gV h';cases e;done)|(obtain⟨_,_,_,_,_,e,_⟩:=cI h';cases e;done)
 |.int b,f,v,h,h'=>by cases xT h;cases f<;>first |(have:=xT h';cases this;rfl;done)|(have:=zBC h';cases this;done)|(have:=zCP h';cases this;done)|(have:=wG h';cases this;done)|(have:=nM h';cases this;done)|(obtain⟨_,_,e,_⟩:=xI h';cases e;done)|(obtain⟨_,_,e,_⟩:=cJ h';cases e;done)|(obtain⟨_,e,_⟩:=gV h';cases e;done)|(obtain⟨_,_,_,_,_,e,_⟩:=cI h';cases e;done)
 |.str b,f,v,h,h'=>by cases wG h;cases f<;>first |(have:=wG h';rw [zLZ (V.str.inj this)];done)|(have:=zBC h';cases this;done)|(have:=zCP h';cases this;done)|(have:=xT h';cases this;done)|(have:=nM h';cases this;done)|(obtain⟨_,_,e,_⟩:=xI h';cases e;done)|(obtain⟨_,_,e,_⟩:=cJ h';cases e;done)|(obtain⟨_,e,_⟩:=gV h';cases e;done)|(obtain⟨_,_,_,_,_,e,_⟩:=cI h';cases e;done)
 |.typ b,f,v,h,h'=>by cases nM h;cases f<;>first |(have:=nM h';cases this;rfl;done)|(have:=zBC h';cases this;done)|(have:=zCP h';cases this;done)|(have:=xT h';cases this;done)|(have:=wG h';cases this;done)|(obtain⟨_,_,e,_⟩:=xI h';cases e;done)|(obtain⟨_,_,e,_⟩:=cJ h';cases e;done)|(obtain⟨_,e,_⟩:=gV h';cases e;done)|(obtain⟨_,_,_,_,_,e,_⟩:=cI h';cases e;done)
 |.tup ds,f,v,h,h'=>by
  obtain⟨a,vs,rfl,s1,l1⟩:=xI h
  cases f with
  |tup es=>
   obtain⟨a2,us,e2,s2,l2⟩:=xI h'
   cases e2
   cases I.tuple_inj s1 s2
   rw [DenL.inj I wd l1 l2]
  |scr es=>obtain⟨a2,us,e2,s2,l2⟩:=cJ h';cases e2;exact(zIO I s2.l s1).elim
  |loc l=>
   obtain⟨a2,e2,h2⟩:=gV h'
   cases e2
   obtain⟨ho,k1,k2,k3⟩:=wd.mem (mem_of_getElem? h2)
   rcases s1 with(s1|⟨o,s1⟩)|⟨o,its,n,s1,_⟩
   ·rw [k1]at s1;exact absurd (Option.some.inj s1) (k2 _)
   ·rw [k1]at s1;exact absurd (Option.some.inj s1) (k3 _ _)
   ·have:=(I.bs a o (I.mod.kin a o s1)).2;rw [k1]at this;cases this
  |non=>cases zBC h'
  |bl b=>cases zCP h'
  |int b=>cases xT h'
  |str b=>cases wG h'
  |typ b=>cases nM h'
  |obj c ns es=>
   obtain⟨a2,C,dx,us,o2,e2,h2,_⟩:=cI h'
   cases e2
   rcases s1 with(s1|⟨o,s1⟩)|⟨o,its,n,s1,_⟩
   ·rw [h2]at s1;cases s1
   ·rw [h2]at s1;cases s1
   ·have:=(I.bs a o (I.mod.kin a o s1)).2;rw [h2]at this;cases this
 |.scr ds,f,v,h,h'=>by
  obtain⟨a,vs,rfl,s1,l1⟩:=cJ h
  cases f with
  |scr es=>
   obtain⟨a2,us,e2,s2,l2⟩:=cJ h'
   cases e2
   cases I.list_inj s1.l s2.l
   rw [DenL.inj I wd l1 l2]
  |tup es=>obtain⟨a2,us,e2,s2,l2⟩:=xI h';cases e2;exact(zIO I s1.l s2).elim
  |loc l=>
   obtain⟨a2,e2,h2⟩:=gV h'
   cases e2
   obtain⟨ho,k1,k2,k3⟩:=wd.mem (mem_of_getElem? h2)
   rcases s1 with⟨o,s1⟩|⟨o,its,n,s1,_⟩
   ·rw [k1]at s1;exact absurd (Option.some.inj s1) (k3 _ _)
   ·have:=(I.bs a o (I.mod.kin a o s1)).2;rw [k1]at this;cases this
  |non=>cases zBC h'
  |bl b=>cases zCP h'
  |int b=>cases xT h'
  |str b=>cases wG h'
  |typ b=>cases nM h'
  |obj c ns es=>
   obtain⟨a2,C,dx,us,o2,e2,h2,_⟩:=cI h'
   cases e2
   rcases s1 with⟨o,s1⟩|⟨o,its,n,s1,_⟩
   ·rw [h2]at s1;cases s1
   ·have:=(I.bs a o (I.mod.kin a o s1)).2;rw [h2]at this;cases this
 |.loc l,f,v,h,h'=>by
  obtain⟨a,rfl,h1⟩:=gV h
  obtain⟨ho,k1,k2,k3⟩:=wd.mem (mem_of_getElem? h1)
  cases f with
  |loc m=>
   obtain⟨a2,e2,h2⟩:=gV h'
   cases e2
   by_cases hlm:l=m
   ·rw [hlm]
   ·exact absurd rfl (wd.ne h1 h2 hlm)
  |tup es=>
   obtain⟨a2,us,e2,s1,l2⟩:=xI h'
   cases e2
   rcases s1 with(s1|⟨o,s1⟩)|⟨o,its,n,s1,_⟩
   ·rw [k1]at s1;exact absurd (Option.some.inj s1) (k2 _)
   ·rw [k1]at s1;exact absurd (Option.some.inj s1) (k3 _ _)
   ·have:=(I.bs a o (I.mod.kin a o s1)).2;rw [k1]at this;cases this
  |scr es=>
   obtain⟨a2,us,e2,s1,l2⟩:=cJ h'
   cases e2
   rcases s1 with⟨o,s1⟩|⟨o,its,n,s1,_⟩
   ·rw [k1]at s1;exact absurd (Option.some.inj s1) (k3 _ _)
   ·have:=(I.bs a o (I.mod.kin a o s1)).2;rw [k1]at this;cases this
  |non=>cases zBC h'
  |bl b=>cases zCP h'
  |int b=>cases xT h'
  |str b=>cases wG h'
  |typ b=>cases nM h'
  |obj c ns es=>
   obtain⟨a2,C,dx,us,o2,e2,h2,_⟩:=cI h'
   cases e2
   rw [k1]at h2;exact absurd (Option.some.inj h2) (k3 _ _)
 |.obj c ns ds,f,v,h,h'=>by
  obtain⟨a,C,dx,us,o2,rfl,h2,hn,hc,hl,l1⟩:=cI h
  cases f with
  |obj c' ns' es=>
   obtain⟨a2,C2,dx2,us2,o3,e2,h3,hn2,hc2,hl2,l2⟩:=cI h'
   cases e2
   rw [h2]at h3
   injection h3 with h3
   injection h3 with _ h3
   injection h3 with e1 e2 e3
   subst e1
   rw [hc]at hc2
   cases hc2
   obtain⟨rfl,rfl⟩:=zZC hl hl2 e3
   rw [DenL.inj I wd l1 l2]
  |tup es=>
   obtain⟨a2,us,e2,s1,l2⟩:=xI h'
   cases e2
   rcases s1 with(s1|⟨o,s1⟩)|⟨o,its,n,s1,_⟩
   ·rw [h2]at s1;cases s1
   ·rw [h2]at s1;cases s1
   ·have:=(I.bs a o (I.mod.kin a o s1)).2;rw [h2]at this;cases this
  |scr es=>
   obtain⟨a2,us,e2,s1,l2⟩:=cJ h'
   cases e2
   rcases s1 with⟨o,s1⟩|⟨o,its,n,s1,_⟩
   ·rw [h2]at s1;cases s1
   ·have:=(I.bs a o (I.mod.kin a o s1)).2;rw [h2]at this;cases this
  |loc l=>
   obtain⟨a2,e2,h1⟩:=gV h'
   cases e2
   obtain⟨ho,k1,k2,k3⟩:=wd.mem (mem_of_getElem? h1)
   rw [k1]at h2;exact absurd (Option.some.inj h2) (k3 _ _)
  |non=>cases zBC h'
  |bl b=>cases zCP h'
  |int b=>cases xT h'
  |str b=>cases wG h'
  |typ b=>cases nM h'
theorem DenL.inj(I:Inv X pins σ H s)(wd:Wd X.g α S H): ∀{ds fs:List MV}{vs:List V},DenL X.K α H ds vs->DenL X.K α H fs vs->ds=fs
 |[],fs,vs,h,h'=>by
  cases h.isnil
  cases fs with
  |nil=>rfl
  |cons f fs=>obtain⟨_,_,e,_⟩:=h'.uncons;cases e
 |d::ds,fs,vs,h,h'=>by
  obtain⟨v,r,rfl,a,l⟩:=h.uncons
  cases fs with
  |nil=>cases h'.isnil
  |cons f fs=>
   obtain⟨v',r',e,a',l'⟩:=h'.uncons
   cases e
   rw [Den.inj I wd a a',DenL.inj I wd l l']
end
end
inductive LexR(A:Around)(s:Shared):List Value->List Value->Bool->Prop
 |nn:LexR A s [] [] false
 |nc (x xs):LexR A s [] (x::xs) true
 |cn (y ys):LexR A s (y::ys) [] false
 |eq {y x ys xs k}:SeqAt.EqAt A s y x true->LexR A s ys xs k->LexR A s (y::ys) (x::xs) k
 |ne {y x ys xs k}:SeqAt.EqAt A s y x false->(∀(prog:Program)(w:World)(E Q:VP),Q (.bool k) s->wpAny (model prog w) A (richCompare .Lt y x) Q E s)->LexR A s (y::ys) (x::xs) k
section
open PySem.SeqAt
open PySem.AutoSeq1 (wpAny_loadPart')
open PySem.MeetsSeq PySem.MeetsSeq2 PySem.MeetsSeq3
theorem zXM(l b:Addr)(its its2:Array Value)(n n2:Nat)(dd dd2:Option Addr)(sl sl2:Array (Option Value))(k:Bool):
  Meets (Builtin.«tuple.__lt__» ⟨[.ref l,.ref b],[]⟩)
   (λA R s=>s.heap.get? l=some {cls:=.type "tuple",dict:=dd,data:=.seq its n,slots:=sl}/\s.heap.get? b=some {cls:=.type "tuple",dict:=dd2,data:=.seq its2 n2,slots:=sl2}/\
    LexR A.in1 s its.toList its2.toList k/\R (.ok (.ret (.bool k))) s):=
 .of_wp λprog w A R s h=>by
  obtain⟨hp,g,d,tk,os⟩:=s;obtain⟨hl,hb,hx,h⟩:=h
  have f2:=AutoSeq1.sub_tuple_tuple
  wp_walk using wpAny_loadPart' hl,wpAny_loadPart' hb,wpAny_forIn_list _ (λnL b s'=>b.1=none/\s'=⟨hp,g,d,tk,os⟩/\ ∃(vs ws:List Value),nL=vs.zip ws/\
   LexR A.in1 ⟨hp,g,d,tk,os⟩ vs ws k/\vs.length+its2.size=ws.length+its.size) _
  case turn=>
   rintro⟨y,x⟩ nL b s' ⟨hb',rfl,vs,ws,hz,hlx,hlen⟩
   cases hlx with
   |nn=>rw [zip_nil_left]at hz;cases hz
   |nc x xs=>rw [zip_nil_left]at hz;cases hz
   |cn y ys=>rw [List.zip_nil_right]at hz;cases hz
   |@eq y' x' ys xs k' he hr=>
    rw [zip_cons_cons]at hz
    injection hz with hyx hrest
    injection hyx with hy hx
    subst hy hx
    simp only [lC]at hlen
    refine wB0 (he prog w _ _ ?_)
    wp_walk
    exact⟨rfl,rfl,_,_,hrest,hr,by omega⟩
   |@ne y' x' ys xs k' he hr=>
    rw [zip_cons_cons]at hz
    injection hz with hyx hrest
    injection hyx with hy hx
    subst hy hx
    refine wB0 (he prog w _ _ ?_)
    have hri:=hr prog w
    wp_walk using hri
    exact⟨_,rfl,by simpa using h⟩
  case fin=>
   rintro⟨b1,b2⟩ s' ⟨hb',rfl,vs,ws,hz,hlx,hlen⟩
   simp only at hb'
   subst hb'
   have hv:k=decide (its.size<its2.size):=by
    cases hlx with
    |nn=>simp only [length_nil]at hlen;exact(dF0 (by omega)).symm
    |nc x xs=>simp only [length_nil,lC]at hlen;exact(dT0 (by omega)).symm
    |cn y ys=>simp only [length_nil,lC]at hlen;exact(dF0 (by omega)).symm
    |eq he hr=>rw [zip_cons_cons]at hz;cases hz
    |ne he hr=>rw [zip_cons_cons]at hz;cases hz
   rw [hv]at h
   wp_walk
   exact⟨_,rfl,by simpa [Builtin.Tuple.tupleCompareSizes]using h⟩
  case h=>
   exact⟨rfl,rfl,its.toList,its2.toList,rfl,hx,by simp;omega⟩
end
theorem yEN{A:Around}{s:Shared}{l b:Addr}{its its2:Array Value}{k:Bool}(hl:IsTup s.heap l its)(hb:IsTup s.heap b its2)(hx:LexR A.in1 s its.toList its2.toList k)(hu:A.units<cLine)(prog:Program)(w:World)(E Q:VP)(h:Q (.bool k) s):
  wpAny (model prog w) A (richCompare .Lt (.ref l) (.ref b)) Q E s:=by
 obtain⟨⟨cls,dd,data,sl⟩,ho,hc,n,hd⟩:=id hl
 obtain⟨⟨cls2,dd2,data2,sl2⟩,ho2,hc2,n2,hd2⟩:=id hb
 simp only at hc hd hc2 hd2
 subst hc hd hc2 hd2
 exact richCompare_meets_room (op:=.Lt) ⟨_,ho,rfl⟩ ⟨_,ho2,rfl⟩ PySem.F.slot_tuple_lt PySem.F.entry_tuple_lt (PySem.F.args_tuple_lt_2 _ _) (zXM l b its its2 n n2 dd dd2 sl sl2 k)
  ⟨ho,ho2,hx,show Value.bool k≠Value.notImplemented/\Q (.bool k) s from⟨(λx=>nomatch x),h⟩⟩ hu
def zXN(e l:MV->MV->Option Bool):List MV->List MV->Option Bool
 |[],[]=>some false
 |[],_::_=>some true
 |_::_,[]=>some false
 |d::ds,f::fs=>(e d f).bind λk=>if k=true then zXN e l ds fs else l d f
def ltv(S:Sto):Nat->MV->MV->Option Bool
 |0,_,_=>none
 |n+1,.int i,.int j=>some (decide (i<j))
 |n+1,.str x,.str y=>some (decide (x<y))
 |n+1,.tup ds,.tup es=>zXN (eqv S n) (ltv S n) ds es
 |_,_,_=>none
section
variable{X:Cx}{α:List Addr}{S:Sto}{H:Hp}{pins:List (Addr×Obj)}{σ:St}{s:Shared}
theorem yEO{A:Around}{e l:MV->MV->Option Bool}(he: ∀d f x y u v k,Den X.K α H d x->Den X.K α H f y->RelV x u->RelV y v->e d f=some k->SeqAt.EqAt A s u v k)
  (hl: ∀d f x y u v k,Den X.K α H d x->Den X.K α H f y->RelV x u->RelV y v->l d f=some k-> ∀(prog:Program)(w:World)(E Q:VP),Q (.bool k) s->wpAny (model prog w) A (richCompare .Lt u v) Q E s):
  ∀{ds fs:List MV}{vs us:List V}{its its2:List Value}{k:Bool},DenL X.K α H ds vs->DenL X.K α H fs us->Vals vs its->Vals us its2->zXN e l ds fs=some k->LexR A s its its2 k
 |[],[],_,_,_,_,k,l1,l2,r1,r2,h=>by
  cases l1.isnil;cases l2.isnil;cases r1;cases r2;cases h;exact .nn
 |[],f::fs,_,_,_,_,k,l1,l2,r1,r2,h=>by
  cases l1.isnil
  obtain⟨v,r,rfl,a,l⟩:=l2.uncons
  cases r1
  cases r2 with
  |cons a b=>cases h;exact .nc _ _
 |d::ds,[],_,_,_,_,k,l1,l2,r1,r2,h=>by
  cases l2.isnil
  obtain⟨v,r,rfl,a,l⟩:=l1.uncons
  cases r2
  cases r1 with
  |cons a b=>cases h;exact .cn _ _
 |d::ds,f::fs,_,_,_,_,k,l1,l2,r1,r2,h=>by
  obtain⟨v,r,rfl,a,l1'⟩:=l1.uncons
  obtain⟨v2,r3,rfl,a2,l2'⟩:=l2.uncons
  cases r1 with
  |cons b1 c1=>
   cases r2 with
   |cons b2 c2=>
    unfold zXN at h
    cases z:e d f with
    |none=>rw [z]at h;cases h
    |some kk=>
     rw [z]at h
     have h:(if kk=true then zXN e l ds fs else l d f)=some k:=h
     cases kk with
     |true=>
      rw [iP rfl]at h
      exact .eq (he d f _ _ _ _ _ a a2 b1 b2 z) (yEO he hl l1' l2' c1 c2 h)
     |false=>
      rw [iN xF0]at h
      exact .ne (he d f _ _ _ _ _ a a2 b1 b2 z) (hl d f _ _ _ _ _ a a2 b1 b2 h)
theorem zXO(I:Inv X pins σ H s)(wd:Wd X.g α S H): ∀(n:Nat)(A:Around)(d f:MV)(x y:V)(u v:Value)(k:Bool),A.units+n<cLine->Den X.K α H d x->Den X.K α H f y->RelV x u->RelV y v->ltv S n d f=some k->
  ∀(prog:Program)(w:World)(E Q:VP),Q (.bool k) s->wpAny (model prog w) A (richCompare .Lt u v) Q E s
 |0,_,_,_,_,_,_,_,_,_,_,_,_,_,h=>by cases h
 |n+1,A,d,f,x,y,u,v,k,hu,h1,h2,rx,ry,h=>by
  intro prog w E Q hq
  unfold ltv at h
  split at h
  ·cases h
  ·cases h
   cases xT h1;cases xT h2
   obtain⟨t,rfl⟩:=rx
   obtain⟨t',rfl⟩:=ry
   exact(PyProof.Rows.lt_int hq:wpAny (model prog w) A (compareOp .Lt _ _) Q E s)
  ·cases h
   cases wG h1;cases wG h2
   obtain⟨t,rfl⟩:=rx
   obtain⟨t',rfl⟩:=ry
   refine(PySem.P.lt_str ?_:wpAny (model prog w) A (compareOp .Lt _ _) Q E s)
   rw [zGX,zGX]
   exact hq
  ·rename_i n' ds es hn
   obtain⟨a,vs,rfl,s1,l1⟩:=xI h1
   obtain⟨b,us,rfl,s2,l2⟩:=xI h2
   cases rx;cases ry
   obtain⟨its,r1,pt,_⟩:=I.tuple s1
   obtain⟨its2,r2,pt2,_⟩:=I.tuple s2
   cases hn
   refine yEN pt pt2 ?_ (by omega) prog w E Q hq
   exact yEO (λd f x y u v k a b c d' e=>zIA I wd n A.in1 d f x y u v k (show A.units+1+n<cLine by omega) a b c d' e)
    (λd f x y u v k a b c d' e=>zXO I wd n A.in1 d f x y u v k (show A.units+1+n<cLine by omega) a b c d' e) l1 l2 r1 r2 h
  ·cases h
end
section
variable{X:Cx}{W:XW}{a b c e:Expr}{es:List Expr}{f g h:AX}{af:Rho->Sto->R (List Er)}{pos:Pos}
def iiF(C:Int->Int->Prop)[∀i j,Decidable (C i j)](g:Int->Int->Int):Er->Er->Sto->R Er
 |.val (.int i),.val (.int j),S=>if C i j then .ok (.val (.int (g i j))) S else .no
 |_,_,_=>.no
def ibF(g:Int->Int->Bool):Er->Er->Sto->R Er
 |.val (.int i),.val (.int j),S=>.ok (.val (.bl (g i j))) S
 |_,_,_=>.no
theorem zXP{C C':Int->Int->Prop}[∀i j,Decidable (C i j)]{g:Int->Int->Int}(h: ∀i j,C i j->C' i j):Op2 X W (rI C' λi j=>.int (g i j)) (iiF C g):=by
 intro p q x y α S H Q wd dp dq post
 unfold iiF at post
 split at post
 ·split at post
  ·rename_i hc
   exact⟨_,_,xU dp,xU dq,h _ _ hc,Post.val post wd (xB _)⟩
  ·exact post.elim
 ·exact post.elim
theorem yJQ{g:Int->Int->Int}:Op2 X W (rI0 λi j=>.int (g i j)) (iiF (λ_ _=>True) g):=by
 intro p q x y α S H Q wd dp dq post
 unfold iiF at post
 split at post
 ·rw [iP trivial]at post
  exact⟨_,_,xU dp,xU dq,Post.val post wd (xB _)⟩
 ·exact post.elim
abbrev zLQ:=iiF (λ_ _=>True) λi j=>i - j
theorem zJT(ha:PEm X W a f)(hb:PEm X W b g):PEm X W (.BinOp a .Sub b pos) (λρ S=>(f ρ S).bind λp S1=>(g ρ S1).bind λq S2=>zLQ p q S2):=zQF yNZ yJQ ha hb
def zXQ(_ j:Int):Prop:=0<j/\j.natAbs.log2<9000
instance(i j:Int):Decidable (zXQ i j):=inferInstanceAs (Decidable (_/\_))
abbrev kT:=iiF zXQ λi j=>i / j
theorem yEP:OpR X (binaryOp .FloorDiv) (rI zXQ λi j=>.int (i / j)):=opI λi j _ _ _ _ _ hc q=>by
 have e:i.fdiv j=i / j:=Int.fdiv_eq_ediv_of_nonneg i (Int.le_of_lt hc.1)
 refine floordiv_int (by have:=hc.1;omega) ?_ (.inl (PyProof.noPylong_of_log2 hc.2))
 rw [e]
 exact q
theorem yT(ha:PEm X W a f)(hb:PEm X W b g):PEm X W (.BinOp a .FloorDiv b pos) (λρ S=>(f ρ S).bind λp S1=>(g ρ S1).bind λq S2=>kT p q S2):=zQF yEP (zXP λi j h=>h) ha hb
abbrev wE:=iiF (λ_ j=>0<j) λi j=>i % j
theorem zX(ha:PEm X W a f)(hb:PEm X W b g):PEm X W (.BinOp a .Mod b pos) (λρ S=>(f ρ S).bind λp S1=>(g ρ S1).bind λq S2=>wE p q S2):=zQF yOA (zXP λi j h=>h) ha hb
def yCG(i j:Int):Prop:=0<=j/\(Builtin.Int.intBits i:Int) * j<=2 ^ 27
instance(i j:Int):Decidable (yCG i j):=inferInstanceAs (Decidable (_/\_))
abbrev zLR:=iiF yCG λi j=>i ^ j.toNat
theorem yJR:OpR X (binaryOp .Pow) (rI yCG λi j=>.int (i ^ j.toNat)):=opI λ_ _ _ _ _ _ _ hc q=>pow_int hc.1 hc.2 q
theorem zNC(ha:PEm X W a f)(hb:PEm X W b g):PEm X W (.BinOp a .Pow b pos) (λρ S=>(f ρ S).bind λp S1=>(g ρ S1).bind λq S2=>zLR p q S2):=zQF yJR (zXP λi j h=>h) ha hb
def shlC(i j:Int):Prop:=0<=j/\j<=1000000/\i.natAbs<2 ^ 64
instance(i j:Int):Decidable (shlC i j):=inferInstanceAs (Decidable (_/\_/\_))
def usubF:Er->Sto->R Er
 |.val (.int i),S=>.ok (.val (.int (-i))) S
 |_,_=>.no
def lsW(S:Sto):Er->Option (List MV)
 |.new ds=>some ds
 |.val (.loc l)=>match S[l]? with
  |some (.lst ds)=>some ds
  |_=>none
 |_=>none
theorem zSB{α:List Addr}{S:Sto}{H:Hp}(wd:Wd X.g α S H){r:Er}{ds:List MV}{x:V}(e:lsW S r=some ds)(d:DenX X.K α H r x): ∃a vs,x=.ref a/\H a=some (.lst vs)/\DenL X.K α H ds vs:=by
 unfold lsW at e
 split at e
 ·cases e
  obtain⟨b,vs,rfl,h,_,l⟩:=d
  exact⟨b,vs,rfl,h,l⟩
 ·rename_i n
  obtain⟨a,rfl,h⟩:=zDG d
  split at e
  ·rename_i es hS
   cases e
   obtain⟨vs,h1,l⟩:=wd.obj n a _ h hS
   exact⟨a,vs,rfl,h1,l⟩
  ·cases e
 ·cases e
def zZD(p q:Er)(S:Sto):R Er:=match lsW S p,lsW S q with
 |some x,some y=>if x.length+y.length<=sizeLine then .ok (.new (x++y)) S else .no
 |_,_=>.no
def wT:Er->Er->Sto->R Er
 |.val (.int i),.val (.int j),S=>.ok (.val (.int (i+j))) S
 |.val (.str x),.val (.str y),S=>if x.length+y.length<=sizeLine then .ok (.val (.str (x++y))) S else .no
 |.val (.tup x),.val (.tup y),S=>if x.length+y.length<=sizeLine then .ok (.val (.tup (x++y))) S else .no
 |p,q,S=>zZD p q S
theorem yEQ:OpR X (binaryOp .Add) (λx y H Q=> ∃a b ys,x=.ref a/\y=.ref b/\SqT X.K H a []/\SqT X.K H b ys/\Q (.ref b) H):=by
 intro pins s σ H x y v u Q I rx ry h
 obtain⟨a,b,ys,rfl,rfl,ha,hb,q⟩:=h
 cases rx
 cases ry
 obtain⟨its,r1,p1,_⟩:=I.tuple ha
 obtain⟨its2,r2,p2,_⟩:=I.tuple hb
 have e0:its=[]:=r1.nil_iff.mpr rfl
 subst e0
 obtain⟨⟨cls,dd,data,sl⟩,ho,hc,n,hd⟩:=id p1
 obtain⟨⟨cls2,dd2,data2,sl2⟩,ho2,hc2,n2,hd2⟩:=id p2
 simp only at hc hd hc2 hd2
 subst hc hd hc2 hd2
 exact concat_meets ⟨_,ho,rfl⟩ ⟨_,ho2,rfl⟩ noFill_tuple_add seq_tuple_add PySem.F.slot_tuple_add PySem.F.entry_tuple_add (PySem.F.args_tuple_add_2 _ _)
  (tuple_addW0 a b _ _ n n2 dd dd2 sl sl2 rfl) ⟨ho,ho2,⟨.ref b,H,I,rfl,q⟩⟩
theorem yL(ha:PEm X W a f)(hb:PEm X W b g):PEm X W (.BinOp a .Add b pos) (λρ S=>(f ρ S).bind λp S1=>(g ρ S1).bind λq S2=>wT p q S2):=by
 refine zQF (yNY.or (zXA.or (yOM.or (yIZ.or yEQ)))) ?_ ha hb
 intro p q x y α S H Q wd dp dq post
 unfold wT at post
 split at post
 ·exact .inl ⟨_,_,xU dp,xU dq,Post.val post wd (xB _)⟩
 ·split at post
  ·rename_i hz
   refine .inr (.inl ⟨_,_,cK dp,cK dq,by rw [jD,jD];exact hz,?_⟩)
   rw [yJG]
   exact Post.val post wd (zAT _)
  ·exact post.elim
 ·split at post
  ·rename_i xx yy hz
   obtain⟨a1,vs,rfl,s1,l1⟩:=zBD dp
   obtain⟨a2,us,rfl,s2,l2⟩:=zBD dq
   by_cases h0:vs=[]
   ·subst h0
    have e0:=l1.length
    refine .inr (.inr (.inr (.inr ⟨a1,a2,us,rfl,rfl,s1,s2,?_⟩)))
    have:xx=[]:=by cases xx with |nil=>rfl|cons _ _=>simp at e0
    subst this
    exact Post.val post wd (zEM s2 l2)
   ·refine .inr (.inr (.inr (.inl ⟨a1,a2,vs,us,rfl,rfl,s1,s2,h0,by rw [l1.length,l2.length];exact hz,λh1=>?_,λh1 p hp=>Post.newt post wd hp (l1.append l2)⟩)))
    subst h1
    have e0:=l2.length
    have:yy=[]:=by cases yy with |nil=>rfl|cons _ _=>simp at e0
    subst this
    rw [aN]at post
    exact Post.val post wd (zEM s1 l1)
  ·exact post.elim
 ·unfold zZD at post
  split at post
  ·rename_i ds1 ds2 e1 e2
   split at post
   ·rename_i hz
    obtain⟨a1,vs,rfl,h1,l1⟩:=zSB wd e1 dp
    obtain⟨a2,us,rfl,h2,l2⟩:=zSB wd e2 dq
    exact .inr (.inr (.inl ⟨a1,a2,vs,us,rfl,rfl,h1,h2,by rw [l1.length,l2.length];exact hz,λp hp=>Post.newl post wd hp (l1.append l2)⟩))
   ·exact post.elim
  ·exact post.elim
def mulC(i j:Int):Prop:=(-(2 ^ 64)<i/\i<2 ^ 64)\/(-(2 ^ 64)<j/\j<2 ^ 64)\/(i.natAbs.log2<4000/\j.natAbs.log2<4000)
theorem zZE{i:Int}(h:i.natAbs.log2<4000):Builtin.Int.intBits i<=2 ^ 20:=by
 have e:(2:Nat) ^ 20=1048576:=by decide
 unfold Builtin.Int.intBits
 split<;>omega
theorem mulC.ok{i j:Int}(h:mulC i j):IntMulOk i j:=by
 rcases h with h|h|⟨h1,h2⟩
 ·exact CMul.ok (.inl h)
 ·exact CMul.ok (.inr h)
 ·exact .of_bits (zZE h1) (zZE h2)
theorem yJS{X:Cx}:OpR X (binaryOp .Mult) (rI mulC λi j=>.int (i * j)):=opI λ_ _ _ _ _ _ _ hc q=>mul_int q hc.ok
instance(i j:Int):Decidable (mulC i j):=inferInstanceAs (Decidable (_\/_\/_))
def yMS(p:Er)(k:Int)(S:Sto):R Er:=match lsW S p with
 |some x=>if 0<=k/\k<100000/\x.length * k.toNat<=sizeLine then .ok (.new (List.replicate k.toNat x).flatten) S else .no
 |none=>.no
def zFX:Er->Er->Sto->R Er
 |.val (.int i),.val (.int j),S=>if mulC i j then .ok (.val (.int (i * j))) S else .no
 |.val (.str x),.val (.int k),S=>if 0<=k/\k<1000/\x.length<=1000 then .ok (.val (.str (zMS x k))) S else .no
 |p,.val (.int k),S=>yMS p k S
 |_,_,_=>.no
theorem DenL.rep{K:PySem.W.Frag}{α:List Addr}{H:Hp}{ds:List MV}{vs:List V}(l:DenL K α H ds vs): ∀k:Nat,DenL K α H (List.replicate k ds).flatten (List.replicate k vs).flatten
 |0=>yK
 |k+1=>by rw [replicate_succ,flatten_cons,replicate_succ,flatten_cons];exact l.append (DenL.rep l k)
theorem zBG(ha:PEm X W a f)(hb:PEm X W b g):PEm X W (.BinOp a .Mult b pos) (λρ S=>(f ρ S).bind λp S1=>(g ρ S1).bind λq S2=>zFX p q S2):=by
 refine zQF (yJS.or (zXK.or yON)) ?_ ha hb
 intro p q x y α S H Q wd dp dq post
 unfold zFX at post
 split at post
 ·split at post
  ·rename_i hc
   exact .inl ⟨_,_,xU dp,xU dq,hc,Post.val post wd (xB _)⟩
  ·exact post.elim
 ·split at post
  ·rename_i hc
   exact .inr (.inl ⟨_,_,cK dp,xU dq,hc.1,hc.2.1,hc.2.2,Post.val post wd (zAT _)⟩)
  ·exact post.elim
 ·unfold yMS at post
  split at post
  ·rename_i ds e1
   split at post
   ·rename_i hc
    obtain⟨a1,vs,rfl,h1,l1⟩:=zSB wd e1 dp
    exact .inr (.inr ⟨a1,_,vs,rfl,xU dq,h1,by omega,by omega,by rw [l1.length];exact hc.2.2,λp hp=>Post.newl post wd hp (l1.rep _)⟩)
   ·exact post.elim
  ·exact post.elim
 ·exact post.elim
def zN:Nat:=40
def eqF(p q:Er)(S:Sto):R Er:=match zLP S zN p q with
 |some k=>.ok (.val (.bl k)) S
 |none=>.no
def neF(p q:Er)(S:Sto):R Er:=match zLP S zN p q with
 |some k=>.ok (.val (.bl !k)) S
 |none=>.no
theorem yER(hu:X.A.units+64<cLine):OpR X (compareOp .Eq) (λx y H Q=> ∃α S p q k,Wd X.g α S H/\DenX X.K α H p x/\DenX X.K α H q y/\zLP S zN p q=some k/\Q (.bl k) H):=by
 intro pins s σ H x y v u Q I rx ry h
 obtain⟨α,S,p,q,k,wd,dp,dq,e,hq⟩:=h
 exact yPD I wd zN (by unfold zN;omega) dp dq rx ry e X.prog X.w _ _ ⟨.bl k,H,I,rfl,hq⟩
theorem yPF(hu:X.A.units+64<cLine):OpR X (compareOp .NotEq) (λx y H Q=> ∃α S p q k,Wd X.g α S H/\DenX X.K α H p x/\DenX X.K α H q y/\zLP S zN p q=some k/\Q (.bl (!k)) H):=by
 intro pins s σ H x y v u Q I rx ry h
 obtain⟨α,S,p,q,k,wd,dp,dq,e,hq⟩:=h
 exact yPE I wd zN (by unfold zN;omega) dp dq rx ry e X.prog X.w _ _ ⟨.bl (!k),H,I,rfl,hq⟩
theorem zZF:Op2 X W (λx y H Q=> ∃α S p q k,Wd X.g α S H/\DenX X.K α H p x/\DenX X.K α H q y/\zLP S zN p q=some k/\Q (.bl k) H) eqF:=by
 intro p q x y α S H Q wd dp dq post
 unfold eqF at post
 split at post
 ·rename_i k e
  exact⟨α,S,p,q,k,wd,dp,dq,e,Post.val post wd (gU _)⟩
 ·exact post.elim
theorem yJT:Op2 X W (λx y H Q=> ∃α S p q k,Wd X.g α S H/\DenX X.K α H p x/\DenX X.K α H q y/\zLP S zN p q=some k/\Q (.bl (!k)) H) neF:=by
 intro p q x y α S H Q wd dp dq post
 unfold neF at post
 split at post
 ·rename_i k e
  exact⟨α,S,p,q,k,wd,dp,dq,e,Post.val post wd (gU _)⟩
 ·exact post.elim
theorem yMT(hu:X.A.units+64<cLine)(ha:PEm X W a f)(hb:PEm X W b g):PEm X W (.Compare a [.Eq] [b] pos) (λρ S=>(f ρ S).bind λp S1=>(g ρ S1).bind λq S2=>eqF p q S2):=zRV (yER hu) zZF ha hb
theorem zCQ(hu:X.A.units+64<cLine)(ha:PEm X W a f)(hb:PEm X W b g):PTm X W (.Compare a [.Eq] [b] pos) (λρ S=>((f ρ S).bind λp S1=>(g ρ S1).bind λq S2=>eqF p q S2).bind asB):=zHX (yER hu) zZF ha hb
theorem zUT(hu:X.A.units+64<cLine)(ha:PEm X W a f)(hb:PEm X W b g):PTm X W (.Compare a [.NotEq] [b] pos) (λρ S=>((f ρ S).bind λp S1=>(g ρ S1).bind λq S2=>neF p q S2).bind asB):=zHX (yPF hu) yJT ha hb
def ltF:Er->Er->Sto->R Er
 |.val d,.val f,S=>match ltv S zN d f with
  |some k=>.ok (.val (.bl k)) S
  |none=>.no
 |_,_,_=>.no
theorem yPG(hu:X.A.units+64<cLine):OpR X (compareOp .Lt) (λx y H Q=> ∃α S d f k,Wd X.g α S H/\Den X.K α H d x/\Den X.K α H f y/\ltv S zN d f=some k/\Q (.bl k) H):=by
 intro pins s σ H x y v u Q I rx ry h
 obtain⟨α,S,d,f,k,wd,dp,dq,e,hq⟩:=h
 exact zXO I wd zN X.A d f x y v u k (by unfold zN;omega) dp dq rx ry e X.prog X.w _ _ ⟨.bl k,H,I,rfl,hq⟩
theorem yJU:Op2 X W (λx y H Q=> ∃α S d f k,Wd X.g α S H/\Den X.K α H d x/\Den X.K α H f y/\ltv S zN d f=some k/\Q (.bl k) H) ltF:=by
 intro p q x y α S H Q wd dp dq post
 unfold ltF at post
 split at post
 ·split at post
  ·rename_i k e
   exact⟨α,S,_,_,k,wd,dp,dq,e,Post.val post wd (gU _)⟩
  ·exact post.elim
 ·exact post.elim
theorem yMU(hu:X.A.units+64<cLine)(ha:PEm X W a f)(hb:PEm X W b g):PTm X W (.Compare a [.Lt] [b] pos) (λρ S=>((f ρ S).bind λp S1=>(g ρ S1).bind λq S2=>ltF p q S2).bind asB):=zHX (yPG hu) yJU ha hb
def yES:Er->Er->Sto->R Er
 |.val .non,.val .non,S=>.ok (.val (.bl true)) S
 |_,.val .non,S=>.ok (.val (.bl false)) S
 |_,_,_=>.no
theorem yET{α:List Addr}{H:Hp}{p:Er}{x:V}(d:DenX X.K α H p x)(n:p≠.val .non):decide (x=.non)=false:=by
 cases p with
 |new ds=>obtain⟨b,vs,rfl,_⟩:=d;rfl
 |val m=>
  cases m with
  |non=>exact absurd rfl n
  |bl b=>cases zQE d;rfl
  |int b=>cases xU d;rfl
  |str b=>cases cK d;rfl
  |typ b=>cases yOX d;rfl
  |obj b b' b''=>obtain⟨_,_,_,_,_,rfl,_⟩:=yOY d;rfl
  |tup b=>obtain⟨_,_,rfl,_⟩:=zBD d;rfl
  |scr b=>obtain⟨_,_,rfl,_⟩:=zMZ d;rfl
  |loc b=>obtain⟨_,rfl,_⟩:=zDG d;rfl
theorem yJV:Op2 X W (λx y H Q=>y=.non/\Q (.bl (decide (x=.non))) H) yES:=by
 intro p q x y α S H Q wd dp dq post
 unfold yES at post
 split at post
 ·cases zMY dp;exact⟨zMY dq,Post.val post wd (gU _)⟩
 ·rename_i p' S' hn
  rw [yET dp (λz=>by first |exact hn z|exact hn z rfl|exact hn _ z|exact hn rfl z)]
  exact⟨zMY dq,Post.val post wd (gU _)⟩
 ·exact post.elim
theorem pm_is(ha:PEm X W a f)(hb:PEm X W b g):PEm X W (.Compare a [.Is] [b] pos) (λρ S=>(f ρ S).bind λp S1=>(g ρ S1).bind λq S2=>yES p q S2):=zRV yOC yJV ha hb
def getL(ds:List MV):Er->Sto->R Er
 |.val (.int i),S=>match atI ds i with |some d=>.ok (.val d) S|none=>.no
 |_,_=>.no
def ixF:Er->Er->Sto->R Er
 |.val (.str x),.val (.int i),S=>if x.length<=sizeLine then match atI x i with |some c=>.ok (.val (.str [c])) S|none=>.no else .no
 |.val (.tup ds),q,S=>getL ds q S
 |p,q,S=>match jM S p with |some ds=>getL ds q S|none=>.no
theorem yJW{K:PySem.W.Frag}{α:List Addr}{H:Hp}{ds:List MV}{vs:List V}{i:Int}{d:MV}(l:DenL K α H ds vs)(e:atI ds i=some d): ∃v,atI vs i=some v/\Den K α H d v:=by
 unfold atI at e ⊢
 rw [l.length]
 cases z:ixN ds.length i with
 |none=>rw [z]at e;cases e
 |some j=>
  rw [z]at e
  obtain⟨v,h1,h2⟩:=l.at (show ds[j]? =some d from e)
  exact⟨v,h1,h2⟩
theorem zR(ha:PEm X W a f)(hb:PEm X W b g)(hs:zRN b:=by exact λ_ _=>rfl):PEm X W (.Subscript a b pos) (λρ S=>(f ρ S).bind λp S1=>(g ρ S1).bind λq S2=>ixF p q S2):=by
 refine pm_ix yOJ ?_ ha hb hs
 intro p q x y α S H Q wd dp dq post
 have key: ∀{ds:List MV}{vs:List V}{i:Int}{d:MV},DenL X.K α H ds vs->atI ds i=some d->Post X.g W α H (.ok (Er.val d) S) Q-> ∃v,atI vs i=some v/\Q v H:=λl e post=>by
  obtain⟨v,h1,h2⟩:=yJW l e
  exact⟨v,h1,Post.val post wd h2⟩
 unfold ixF at post
 split at post
 ·split at post
  ·rename_i hz
   split at post
   ·rename_i ch e
    refine .inr (.inr ⟨_,_,ch,cK dp,xU dq,by rw [jD];exact hz,by rw [zGX];exact e,?_⟩)
    exact Post.val post wd (zAT [ch])
   ·exact post.elim
  ·exact post.elim
 ·unfold getL at post
  split at post
  ·split at post
   ·rename_i d e
    obtain⟨a1,vs,rfl,s1,l1⟩:=zBD dp
    obtain⟨v,h1,h2⟩:=key l1 e post
    exact .inr (.inl ⟨a1,vs,_,v,rfl,xU dq,s1,h1,h2⟩)
   ·exact post.elim
  ·exact post.elim
 ·split at post
  ·rename_i ds el
   unfold getL at post
   split at post
   ·split at post
    ·rename_i d e
     obtain⟨a1,vs,rfl,s1,l1⟩:=zFW rfl wd el dp
     obtain⟨v,h1,h2⟩:=key l1 e post
     exact .inl ⟨a1,vs,_,v,rfl,xU dq,s1,h1,h2⟩
    ·exact post.elim
   ·exact post.elim
  ·exact post.elim
end
theorem zPE{prog:Program}{w:World}{A:Around}{E:VP}{s:Shared}{t sl:Addr}{its:Array Value}{vl vu:Value}{lo hi:Option Int}{Q:VP}(ht:IsTup s.heap t its)(hs:s.heap.IsSliceOf sl vl vu .none)(pl:IsPart vl lo)(pu:IsPart vu hi)
  (h0:HT.sIx its.size 0 lo=0) (h1:HT.sIx its.size its.size hi=its.size) (h:Q (.ref t) s):wpAny (model prog w) A (getItem (.ref t) (.ref sl)) Q E s:=by
 have hTs:s.TypeIs (.ref sl) "slice":=by obtain⟨os,hos,hcs,_⟩:=id hs;exact⟨os,hos,hcs⟩
 have hTt:=ht.typeIs
 unfold getItem
 try with_reducible refine wpAny_holding ?_
 first |refine wB0 (wP0 ?_)|skip
 refine wB0 (wpAny_sequenceKey hTt (by decide) ?_)
 refine wB0 (wpAny_callSpecial?_slot (name:=Str.ofString "__getitem__") hTt PyProof.Rows.slot_tuple_getitem (wpAny_call_entry PyProof.Rows.slot_tuple_getitem hTt entry_tuple_getitem ?_ (args_tuple_getitem _ _)))
 show wpAny _ _ (Builtin.Tuple.tupleItemsOf (.ref t) >>= _) _ _ s
 refine wB0 (tupleItemsOf_ ht (wB0 (wpAny_typeOf hTs ?_)))
 rw [iP (by decide)]
 refine wB0 (HT.sliceApplied_gen hs pl pu ?_)
 show wpAny _ _ (if(((HT.sIx its.size 0 lo:Nat):Int)==0&&(1:Int)==1&&(HT.sIx its.size its.size hi - HT.sIx its.size 0 lo)==its.size)=true then _ else _) _ _ s
 rw [iP (by rw [h0,h1];simp)]
 unfold Builtin.Tuple.tupleIsExact
 refine wB0 (wB0 (wpAny_typeOf hTt (wP0 ?_)))
 rw [iP (by decide)]
 refine wB0 (wpAny_rule ?_)
 first
  |exact wP0 ⟨_,rfl,wP0 h⟩
  |exact wB0 (wP0 (wP0 ⟨_,rfl,wP0 h⟩))
  |exact wB0 (wP0 ⟨_,rfl,wP0 h⟩)
section
variable{X:Cx}{W:XW}{a b c e:Expr}{es:List Expr}{f g h:AX}{af:Rho->Sto->R (List Er)}{pos:Pos}
theorem yJX:SlR X (λx lo hi H Q=> ∃a xs,x=.ref a/\SqT X.K H a xs/\HT.sIx xs.length 0 lo=0/\HT.sIx xs.length xs.length hi=xs.length/\Q (.ref a) H):=by
 intro pins s σ H x v vl vu lo hi sl Q I rx hs pl pu h
 obtain⟨a,xs,rfl,hx,h0,h1,q⟩:=h
 cases rx
 obtain⟨its,r,ht,hz⟩:=I.tuple hx
 have hlen:its.toArray.size=xs.length:=by rw [sA0];exact r.length.symm
 exact⟨"tuple",_,PyProof.Rows.slot_tuple_getitem.lookup,ht.typeIs,zPE ht hs pl pu (by rw [hlen];exact h0) (by rw [hlen];exact h1) ⟨.ref a,H,I,rfl,q⟩⟩
def zDX:Er->Option Int->Option Int->Sto->R Er
 |.val (.str x),lo,hi,S=>if x.length<=sizeLine then .ok (.val (.str (gT x lo hi))) S else .no
 |.val (.tup ds),lo,hi,S=>.ok (.val (.tup (gT ds lo hi))) S
 |p,lo,hi,S=>match jM S p with |some ds=>.ok (.new (gT ds lo hi)) S|none=>.no
theorem yCH{α:Type}{ds:List α}{lo hi:Option Int}(h0:HT.sIx ds.length 0 lo=0)(h1:HT.sIx ds.length ds.length hi=ds.length):gT ds lo hi=ds:=by
 unfold gT
 rw [h0,h1]
 simp
theorem cM{lo hi:Option Expr}{lf hf:Rho->Sto->R (Option Int)}{p2:Pos}(ha:PEm X W a f)(hl:POm X W lo lf)(hh:POm X W hi hf):PEm X W (.Subscript a (.Slice lo hi none p2) pos) (λρ S=>(f ρ S).bind λp S1=>(lf ρ S1).bind λl S2=>(hf ρ S2).bind λu S3=>zDX p l u S3):=by
 refine yEI (yOQ.or (yJB.or (yOI.or yJX))) ?_ ha hl hh
 intro p lo hi x α S H Q wd dp post
 unfold zDX at post
 split at post
 ·split at post
  ·rename_i hz
   exact .inl ⟨_,cK dp,hz,Post.val post wd (zAT _)⟩
  ·exact post.elim
 ·rename_i _ _ _ ds
  obtain⟨a1,vs,rfl,s1,l1⟩:=zBD dp
  by_cases hw:HT.sIx vs.length 0 lo=0/\HT.sIx vs.length vs.length hi=vs.length
  ·have e:gT ds lo hi=ds:=yCH (by rw [<-l1.length];exact hw.1) (by rw [<-l1.length];exact hw.2)
   rw [e]at post
   exact .inr (.inr (.inr ⟨a1,vs,rfl,s1,hw.1,hw.2,Post.val post wd (zEM s1 l1)⟩))
  ·exact .inr (.inr (.inl ⟨a1,vs,rfl,s1,hw,λp hp=>Post.newt post wd hp (l1.cut lo hi)⟩))
 ·split at post
  ·rename_i ds el
   obtain⟨a1,vs,rfl,s1,l1⟩:=zFW rfl wd el dp
   exact .inr (.inl ⟨a1,vs,rfl,s1,λp hp=>Post.newl post wd hp (l1.cut lo hi)⟩)
  ·exact post.elim
theorem DenL.pick{K:PySem.W.Frag}{α:List Addr}{H:Hp}{ds:List MV}{vs:List V}(l:DenL K α H ds vs): ∀idx:List Nat,DenL K α H (idx.filterMap (ds[·]?)) (idx.filterMap (vs[·]?))
 |[]=>yK
 |i::idx=>by
  cases z:ds[i]? with
  |none=>
   have z2:vs[i]? =none:=by rw [List.getElem?_eq_none_iff,l.length];exact List.getElem?_eq_none_iff.mp z
   rw [List.filterMap_cons_none z,List.filterMap_cons_none z2]
   exact DenL.pick l idx
  |some d=>
   obtain⟨v,h1,h2⟩:=l.at z
   rw [filterMap_cons_some z,filterMap_cons_some h1]
   exact yG h2 (DenL.pick l idx)
theorem Vals.pick{xs:List V}{us:List Value}(r:Vals xs us): ∀idx:List Nat,Vals (idx.filterMap (xs[·]?)) (idx.filterMap (us[·]?))
 |[]=>.nil
 |i::idx=>by
  cases z:xs[i]? with
  |none=>rw [List.filterMap_cons_none z,List.filterMap_cons_none (r.none_of z)];exact Vals.pick r idx
  |some d=>
   obtain⟨v,h1,h2⟩:=r.get z
   rw [filterMap_cons_some z,filterMap_cons_some h1]
   exact .cons h2 (Vals.pick r idx)
end
section
variable{X:Cx}{W:XW}{a b c e:Expr}{es:List Expr}{f g h:AX}{af:Rho->Sto->R (List Er)}{pos:Pos}
def zUU(S:Sto)(n:Nat)(d:MV):List MV->Option (List Bool)
 |[]=>some []
 |y::ys=>(eqv S n y d).bind λk=>(zUU S n d ys).map (k::·)
section
variable{α:List Addr}{S:Sto}{H:Hp}{pins:List (Addr×Obj)}{σ:St}{s:Shared}
noncomputable def zUV(X:Cx)(α:List Addr)(S:Sto)(H:Hp)(n:Nat)(d:MV)(u:Value):Bool:=open Classical in decide (∃y x,Den X.K α H y x/\RelV x u/\eqv S n y d=some true)
open Classical in
theorem yJY(I:Inv X pins σ H s)(wd:Wd X.g α S H){n:Nat}{d y:MV}{x:V}{u:Value}{k:Bool}(dy:Den X.K α H y x)(r:RelV x u)(e:eqv S n y d=some k):zUV X α S H n d u=k:=by
 unfold zUV
 cases k with
 |true=>exact dT0 ⟨y,x,dy,r,e⟩
 |false=>
  refine dF0 λ⟨y',x',dy',r',e'⟩=>?_
  have ex:=r.inj r'
  subst ex
  rw [dy.inj I wd dy']at e
  rw [e]at e'
  cases e'
theorem zIQ(I:Inv X pins σ H s)(wd:Wd X.g α S H){n:Nat}{A:Around}{d:MV}{x:V}{v:Value}(hu:A.units+n<cLine)(dd:Den X.K α H d x)(rx:RelV x v): ∀{ys:List MV}{vs:List V}{us:List Value}{bs:List Bool},DenL X.K α H ys vs->Vals vs us->zUU S n d ys=some bs->
  us.map (zUV X α S H n d)=bs/\ ∀u∈us,SeqAt.EqAt A s u v (zUV X α S H n d u)
 |[],_,_,bs,l,r,e=>by
  cases l.isnil;cases r;cases e
  exact⟨rfl,λu hu=>by cases hu⟩
 |y::ys,_,_,bs,l,r,e=>by
  obtain⟨v',r',rfl,dy,l'⟩:=l.uncons
  cases r with
  |cons r1 r2=>
   unfold zUU at e
   cases z:eqv S n y d with
   |none=>rw [z]at e;cases e
   |some k=>
    rw [z]at e
    cases z2:zUU S n d ys with
    |none=>simp [z2]at e
    |some cs=>
     simp [z2]at e
     subst e
     obtain⟨h1,h2⟩:=zIQ I wd hu dd rx l' r2 z2
     have h3:=yJY I wd dy r1 z
     refine⟨by rw [map_cons,h1,h3],λu hu'=>?_⟩
     rcases mC.mp hu' with rfl|hu'
     ·rw [h3];exact zIA I wd n A y d _ _ _ _ k hu dy dd r1 rx z
     ·exact h2 u hu'
end
theorem any_map{us:List Value}{f:Value->Bool}{bs:List Bool}(h:us.map f=bs):us.toArray.any f=bs.any id:=by
 subst h
 simp [List.any_map]
def itemsOf(S:Sto):Er->Option (List MV)
 |.val (.tup ds)=>some ds
 |r=>jM S r
theorem zND{α:List Addr}{S:Sto}{H:Hp}(wd:Wd X.g α S H){r:Er}{ds:List MV}{x:V}(e:itemsOf S r=some ds)(d:DenX X.K α H r x): ∃a vs,x=.ref a/\(SqL X.K H a vs\/SqT X.K H a vs)/\DenL X.K α H ds vs:=by
 unfold itemsOf at e
 split at e
 ·cases e
  obtain⟨a,vs,rfl,s,l⟩:=zBD d
  exact⟨a,vs,rfl,.inr s,l⟩
 ·obtain⟨a,vs,rfl,s,l⟩:=zFW rfl wd e d
  exact⟨a,vs,rfl,.inl s,l⟩
def zJU(neg:Bool)(p q:Er)(S:Sto):R Er:=match p with
 |.val d=>match itemsOf S q with
  |some ys=>match zUU S zN d ys with
   |some bs=>.ok (.val (.bl (if neg=true then !bs.any id else bs.any id))) S
   |none=>.no
  |none=>.no
 |.new _=>.no
def inF(neg:Bool):Er->Er->Sto->R Er
 |.val (.str [c]),.val (.str y),S=>.ok (.val (.bl (if neg=true then !decide (c∈y)else decide (c∈y)))) S
 |p,q,S=>zJU neg p q S
abbrev yEU(X:Cx)(neg:Bool):R2:=λx y H Q=> ∃α S d q ys bs,Wd X.g α S H/\Den X.K α H d x/\DenX X.K α H q y/\itemsOf S q=some ys/\zUU S zN d ys=some bs/\Q (.bl (if neg=true then !bs.any id else bs.any id)) H
theorem yPH(hu:X.A.units+64<cLine):OpR X (compareOp .In) (yEU X false):=by
 intro pins s σ H x y v u Q I rx ry h
 obtain⟨α,S,d,q,ys,bs,wd,dd,dq,ei,ea,hq⟩:=h
 obtain⟨a,vs,rfl,sq,l⟩:=zND wd ei dq
 cases ry
 rcases sq with sq|sq
 ·obtain⟨its,r,pl,_⟩:=I.list sq
  obtain⟨h1,h2⟩:=zIQ I wd (A:=X.A.in1) (by show X.A.units+1+zN<cLine;unfold zN;omega) dd rx l r ea
  refine SeqAt.in_listAt (zUV X α S H zN d) pl.isList (λw hw=>h2 w (by simpa using hw)) ⟨.bl _,H,I,rfl,?_⟩
  rw [any_map h1]
  exact hq
 ·obtain⟨its,r,pl,_⟩:=I.tuple sq
  obtain⟨h1,h2⟩:=zIQ I wd (A:=X.A.in1) (by show X.A.units+1+zN<cLine;unfold zN;omega) dd rx l r ea
  refine SeqAt.in_tupleAt (zUV X α S H zN d) pl (λw hw=>h2 w (by simpa using hw)) ⟨.bl _,H,I,rfl,?_⟩
  rw [any_map h1]
  exact hq
theorem yCI(hu:X.A.units+64<cLine):OpR X (compareOp .NotIn) (yEU X true):=by
 intro pins s σ H x y v u Q I rx ry h
 obtain⟨α,S,d,q,ys,bs,wd,dd,dq,ei,ea,hq⟩:=h
 obtain⟨a,vs,rfl,sq,l⟩:=zND wd ei dq
 cases ry
 rcases sq with sq|sq
 ·obtain⟨its,r,pl,_⟩:=I.list sq
  obtain⟨h1,h2⟩:=zIQ I wd (A:=X.A.in1) (by show X.A.units+1+zN<cLine;unfold zN;omega) dd rx l r ea
  refine SeqAt.notIn_listAt (zUV X α S H zN d) pl.isList (λw hw=>h2 w (by simpa using hw)) ⟨.bl _,H,I,rfl,?_⟩
  rw [any_map h1]
  exact hq
 ·obtain⟨its,r,pl,_⟩:=I.tuple sq
  obtain⟨h1,h2⟩:=zIQ I wd (A:=X.A.in1) (by show X.A.units+1+zN<cLine;unfold zN;omega) dd rx l r ea
  refine SeqAt.notIn_tupleAt (zUV X α S H zN d) pl (λw hw=>h2 w (by simpa using hw)) ⟨.bl _,H,I,rfl,?_⟩
  rw [any_map h1]
  exact hq
theorem zSC{neg:Bool}:Op2 X W (λx y H Q=>(∃i j,x=.str i/\y=.str j/\Q (.bl (if neg=true then !(!(Builtin.Str.occurrences j i 0 j.length 1).isEmpty)else !(Builtin.Str.occurrences j i 0 j.length 1).isEmpty)) H)\/yEU X neg x y H Q) (inF neg):=by
 intro p q x y α S H Q wd dp dq post
 unfold inF at post
 split at post
 ·refine .inl ⟨_,_,cK dp,cK dq,?_⟩
  rw [<-yJH,PySem.StrLaws.found_one,zGX]
  exact Post.val post wd (gU _)
 ·unfold zJU at post
  split at post
  ·rename_i d _
   split at post
   ·rename_i ys ei
    split at post
    ·rename_i bs ea
     exact .inr ⟨α,S,_,q,ys,bs,wd,dp,dq,ei,ea,Post.val post wd (gU _)⟩
    ·exact post.elim
   ·exact post.elim
  ·exact post.elim
theorem OpR.imp{f:Value->Value->Sem Value}{r r':R2}(h:OpR X f r)(i: ∀x y H Q,r' x y H Q->r x y H Q):OpR X f r':=λpins s σ H x y v u Q I rx ry q=>h pins s σ H x y v u Q I rx ry (i x y H Q q)
theorem yEV(hu:X.A.units+64<cLine):OpR X (compareOp .In) (λx y H Q=>(∃i j,x=.str i/\y=.str j/\Q (.bl (if(false:Bool)=true then !(!(Builtin.Str.occurrences j i 0 j.length 1).isEmpty)else !(Builtin.Str.occurrences j i 0 j.length 1).isEmpty)) H)\/yEU X false x y H Q):=
 OpR.imp (yBR.or (yPH hu)) λx y H Q q=>q.imp (λq=>q) λq=>q
theorem yCJ(hu:X.A.units+64<cLine):OpR X (compareOp .NotIn) (λx y H Q=>(∃i j,x=.str i/\y=.str j/\Q (.bl (if(true:Bool)=true then !(!(Builtin.Str.occurrences j i 0 j.length 1).isEmpty)else !(Builtin.Str.occurrences j i 0 j.length 1).isEmpty)) H)\/yEU X true x y H Q):=
 OpR.imp (zRL.or (yCI hu)) λx y H Q q=>q.imp (λq=>q) λq=>q
theorem pm_in(hu:X.A.units+64<cLine)(ha:PEm X W a f)(hb:PEm X W b g)(hm:behindInMarks .In b=false:=by with_unfolding_all rfl):PEm X W (.Compare a [.In] [b] pos) (λρ S=>(f ρ S).bind λp S1=>(g ρ S1).bind λq S2=>inF false p q S2):=zRV (yEV hu) zSC ha hb hm
theorem yEW(hu:X.A.units+64<cLine)(ha:PEm X W a f)(hb:PEm X W b g)(hm:behindInMarks .In b=false:=by with_unfolding_all rfl):PTm X W (.Compare a [.In] [b] pos) (λρ S=>((f ρ S).bind λp S1=>(g ρ S1).bind λq S2=>inF false p q S2).bind asB):=zHX (yEV hu) zSC ha hb hm
theorem zNE(hu:X.A.units+64<cLine)(ha:PEm X W a f)(hb:PEm X W b g)(hm:behindInMarks .NotIn b=false:=by with_unfolding_all rfl):PTm X W (.Compare a [.NotIn] [b] pos) (λρ S=>((f ρ S).bind λp S1=>(g ρ S1).bind λq S2=>inF true p q S2).bind asB):=zHX (yCJ hu) zSC ha hb hm
theorem zBH{K:PySem.W.Frag}{α:List Addr}{H:Hp}{r:Er}{vs:List V}(d:ArgsX K α H [r] vs): ∃v,vs=[v]/\DenX K α H r v:=by
 cases d with
 |cons a l=>cases l;exact⟨_,rfl,a⟩
theorem argx2{K:PySem.W.Frag}{α:List Addr}{H:Hp}{r r':Er}{vs:List V}(d:ArgsX K α H [r,r'] vs): ∃v u,vs=[v,u]/\DenX K α H r v/\DenX K α H r' u:=by
 cases d with
 |cons a l=>obtain⟨u,rfl,l'⟩:=zBH l;exact⟨_,u,rfl,a,l'⟩
def zDY:List Er->Sto->R Er
 |[.val (.str x)],S=>if x.length<=sizeLine then .ok (.val (.int x.length)) S else .no
 |[r],S=>match itemsOf S r with |some ds=>.ok (.val (.int ds.length)) S|none=>.no
 |_,_=>.no
theorem cN:zDV X W (λxs H Q=>(∃z,xs=[.str z]/\z.length<=sizeLine/\Q (.int z.length) H)\/ ∃p ys,xs=[.ref p]/\(SqL X.K H p ys\/SqT X.K H p ys)/\Q (.int ys.length) H) zDY:=by
 intro rs vs α S H Q wd d post
 unfold zDY at post
 split at post
 ·split at post
  ·rename_i hz
   obtain⟨v,rfl,dv⟩:=zBH d
   cases cK dv
   refine .inl ⟨_,rfl,by rw [jD];exact hz,?_⟩
   rw [jD]
   exact Post.val post wd (xB _)
  ·exact post.elim
 ·split at post
  ·rename_i ds e
   obtain⟨v,rfl,dv⟩:=zBH d
   obtain⟨a,us,rfl,sq,l⟩:=zND wd e dv
   refine .inr ⟨a,us,rfl,sq,?_⟩
   rw [l.length]
   exact Post.val post wd (xB _)
  ·exact post.elim
 ·exact post.elim
theorem xH:CallR X (.builtin "len") (λxs H Q=>(∃z,xs=[.str z]/\z.length<=sizeLine/\Q (.int z.length) H)\/ ∃p ys,xs=[.ref p]/\(SqL X.K H p ys\/SqT X.K H p ys)/\Q (.int ys.length) H):=zRQ.or zRP
def zDZ:List MV->Option (List Bool)
 |[]=>some []
 |.bl b::r=>(zDZ r).map (b::·)
 |_::_=>none
theorem zHC{K:PySem.W.Frag}{α:List Addr}{H:Hp}: ∀{ds:List MV}{bs:List Bool}{vs:List V},zDZ ds=some bs->DenL K α H ds vs->vs=bs.map V.bl
 |[],_,_,e,l=>by cases e;exact l.isnil
 |d::r,bs,_,e,l=>by
  cases d with
  |bl b=>
   unfold zDZ at e
   cases z:zDZ r with
   |none=>rw [z]at e;cases e
   |some cs=>
    rw [z]at e
    cases e
    obtain⟨v,us,rfl,dv,l'⟩:=l.uncons
    rw [zCP dv,zHC z l']
    rfl
  |_=>cases e
def allF:List Er->Sto->R Er
 |[r],S=>match (jM S r).bind zDZ with |some bs=>.ok (.val (.bl (bs.all id))) S|none=>.no
 |_,_=>.no
def anyF:List Er->Sto->R Er
 |[r],S=>match (jM S r).bind zDZ with |some bs=>.ok (.val (.bl (bs.any id))) S|none=>.no
 |_,_=>.no
theorem yPI(hc:X.calm=true):zDV X W (λxs H Q=> ∃(a:Addr)(bs:List Bool),xs=[.ref a]/\SqL X.K H a (bs.map V.bl)/\X.calm=true/\Q (.bl (bs.all id)) H) allF:=by
 intro rs vs α S H Q wd d post
 unfold allF at post
 split at post
 ·split at post
  ·rename_i bs e
   obtain⟨v,rfl,dv⟩:=zBH d
   cases z:jM S _ with
   |none=>rw [z]at e;cases e
   |some ds=>
    rw [z]at e
    obtain⟨a1,us,rfl,s,l⟩:=zFW rfl wd z dv
    refine⟨a1,bs,rfl,?_,hc,Post.val post wd (gU _)⟩
    rw [<-zHC e l]
    exact s
  ·exact post.elim
 ·exact post.elim
def yPJ(S:Sto):Er->Option String
 |.val .non=>some "NoneType"
 |.val (.bl _)=>some "bool"
 |.val (.int _)=>some "int"
 |.val (.str _)=>some "str"
 |.val (.tup _)=>some "tuple"
 |.val (.typ _)=>none
 |.val (.obj _ _ _)=>none
 |r=>(jM S r).map λ_=>"list"
def isiB(t T:String):Bool:=t==T || (t=="bool"&&T=="int")
def known(T:String):Bool:=T=="int" || T=="bool" || T=="str" || T=="tuple" || T=="list"
def yCK:List Er->Sto->R Er
 |[r,.val (.typ T)],S=>match yPJ S r with
  |some t=>if known T=true then .ok (.val (.bl (isiB t T))) S else .no
  |none=>.no
 |_,_=>.no
def cO:List Er->Sto->R Er
 |[.val (.tup ds)],S=>.ok (.val (.tup ds)) S
 |[r],S=>match jM S r with |some ds=>.ok (.val (.tup ds)) S|none=>.no
 |_,_=>.no
theorem zBI:zDV X W (λxs H Q=> ∃p ys,xs=[.ref p]/\((SqL X.K H p ys/\ ∀l,H l=none->Q (.ref l) (upd H l (.tup ys)))\/(SqT X.K H p ys/\Q (.ref p) H))) cO:=by
 intro rs vs α S H Q wd d post
 unfold cO at post
 split at post
 ·obtain⟨v,rfl,dv⟩:=zBH d
  obtain⟨a,us,rfl,sq,l⟩:=zBD dv
  exact⟨a,us,rfl,.inr ⟨sq,Post.val post wd (zEM sq l)⟩⟩
 ·split at post
  ·rename_i ds e
   obtain⟨v,rfl,dv⟩:=zBH d
   obtain⟨a,us,rfl,sq,l⟩:=zFW rfl wd e dv
   exact⟨a,us,rfl,.inl ⟨sq,λp hp=>Post.newt post wd hp l⟩⟩
  ·exact post.elim
 ·exact post.elim
theorem gO:bootBuiltins "len"=some (.builtin "len"):=by decide+kernel
theorem yPK:bootBuiltins "all"=some (.builtin "all"):=by decide+kernel
theorem yPL:bootBuiltins "any"=some (.builtin "any"):=by decide+kernel
theorem yPM:bootBuiltins "int"=some (.type "int"):=by decide+kernel
theorem zBJ:bootBuiltins "tuple"=some (.type "tuple"):=by decide+kernel
theorem zZG:bootBuiltins "list"=some (.type "list"):=by decide+kernel
end
def digN(n:Nat):List Nat:=(Nat.toDigits 10 n).map Char.toNat
def decL(i:Int):List Nat:=if i<0 then 45::digN i.natAbs else digN i.natAbs
section
variable{X:Cx}{W:XW}{a b c e o i:Expr}{es:List Expr}{f g h:AX}{af:Rho->Sto->R (List Er)}{pos apos:Pos}
def strF:List Er->Sto->R Er
 |[.val (.int i)],S=>if i.natAbs.log2<1920 then .ok (.val (.str (decL i))) S else .no
 |[.val (.str x)],S=>.ok (.val (.str x)) S
 |_,_=>.no
theorem zUW:CallR X (.type "int") (λxs H Q=>((∃i,xs=[.int i]/\Q (.int i) H)\/ ∃k,xs=[.bl k]/\Q (.int (if k then 1 else 0)) H)\/ ∃x n,xs=[.str x]/\PySem.intText? x=some n/\x.length<=640/\Q (.int n) H):=by
 refine yBS.or ?_
 intro pins s σ H xs us Q I r h
 obtain⟨x,n,rfl,hn,hl,q⟩:=h
 obtain⟨u,rfl,t,rfl⟩:=vals1 r
 exact PySem.W.KIN.call_text hn hl ⟨.int n,H,I.tok _,⟨_,rfl⟩,q⟩
def intF:List Er->Sto->R Er
 |[.val (.int i)],S=>.ok (.val (.int i)) S
 |[.val (.bl k)],S=>.ok (.val (.int (if k then 1 else 0))) S
 |[.val (.str x)],S=>match PySem.intText? (mkS x)with
  |some n=>if x.length<=640 then .ok (.val (.int n)) S else .no
  |none=>.no
 |_,_=>.no
theorem yPN:zDV X W (λxs H Q=>((∃i,xs=[.int i]/\Q (.int i) H)\/ ∃k,xs=[.bl k]/\Q (.int (if k then 1 else 0)) H)\/ ∃x n,xs=[.str x]/\PySem.intText? x=some n/\x.length<=640/\Q (.int n) H) intF:=by
 intro rs vs α S H Q wd d post
 unfold intF at post
 split at post
 ·obtain⟨v,rfl,dv⟩:=zBH d
  cases xU dv
  exact .inl (.inl ⟨_,rfl,Post.val post wd (xB _)⟩)
 ·obtain⟨v,rfl,dv⟩:=zBH d
  cases zQE dv
  exact .inl (.inr ⟨_,rfl,Post.val post wd (xB _)⟩)
 ·obtain⟨v,rfl,dv⟩:=zBH d
  cases cK dv
  split at post
  ·rename_i n hn
   split at post
   ·rename_i hz
    exact .inr ⟨_,n,rfl,hn,by rw [jD];exact hz,Post.val post wd (xB _)⟩
   ·exact post.elim
  ·exact post.elim
 ·exact post.elim
def wH(p:Er)(S:Sto):Bool:=(jM S p).isSome
theorem zNF:TyM X "list" wH:=by
 intro p x α S H wd d h
 unfold wH at h
 cases z:jM S p with
 |none=>rw [z]at h;cases h
 |some ds=>
  obtain⟨a,vs,rfl,s,l⟩:=zFW rfl wd z d
  exact .inl ⟨rfl,vs,s⟩
def strIdx(x y:List Nat):Option Nat:=(Builtin.Str.occurrences (mkS x) (mkS y) 0 (mkS x).length 1).head?
def sidxF:Er->List Er->Sto->R Er
 |.val (.str x),[.val (.str y)],S=>match strIdx x y with |some i=>.ok (.val (.int (i:Nat))) S|none=>.no
 |_,_,_=>.no
def zIR(p:Er)(S:Sto)(G:List MV->Option (List MV)):R Er:=match p with
 |.val (.loc l)=>match S[l]? with
  |some (.lst ds)=>match G ds with
   |some es=>.ok (.val .non) (S.set l (.lst es))
   |none=>.no
  |_=>.no
 |_=>.no
theorem zJV{α0 α:List Addr}{H0 H:Hp}{S:Sto}{p:Er}{x:V}{G:List MV->Option (List MV)}{Q:VK}(wd:Wd X.g α S H)(x0:Ext α0 H0 α H)(dp:DenX X.K α H p x)(post:Post X.g W α0 H0 (zIR p S G) Q):
  ∃a vs ds es,x=.ref a/\H a=some (.lst vs)/\DenL X.K α H ds vs/\G ds=some es/\ ∀us,DenL X.K α H es us->Q .non (upd H a (.lst us)):=by
 unfold zIR at post
 split at post
 ·rename_i l
  obtain⟨a,rfl,h⟩:=zDG dp
  obtain⟨ob,h1,h2⟩:=wd.of h
  rw [h1]at post
  cases ob with
  |lst ds=>
   obtain⟨vs,h3,l1⟩:=h2
   have post:Post X.g W α0 H0 (match G ds with |some es=>R.ok (Er.val .non) (S.set l (.lst es))|none=>R.no) Q:=post
   split at post
   ·rename_i es eg
    refine⟨a,vs,ds,es,rfl,h3,l1,eg,λus lu=>?_⟩
    have xw:=wd.writex h (o:=.lst us)
    exact(post.shift (x0.trans xw)).val (wd.write h ⟨us,yW,lu.ext xw⟩) zIL
   ·exact post.elim
  |dic _=>exact post.elim
  |ins _ _=>exact post.elim
 ·exact post.elim
def zHL:Er->List Er->Sto->R Er
 |p,[r],S=>(nN r S).bind λy S1=>zIR p S1 λds=>if ds.length<sizeLine then some (ds++[y])else none
 |_,_,_=>.no
theorem yCL:zUP X W zYT zHL:=by
 intro p rs x vs α S H0 H Q α0 wd x0 dp da post
 match rs,da,post with
 |[],_,post=>exact post.elim
 |_::_::_,_,post=>exact post.elim
 |[r],da,post=>
  cases da with
  |cons d n l=>
   cases l
   obtain⟨d',S',α',e',x',y',w',dd⟩:=zDW wd x0 d
   have post:Post X.g W α0 H0 ((nN r S).bind λy S1=>zIR p S1 λds=>if ds.length<sizeLine then some (ds++[y])else none) Q:=post
   rw [e']at post
   have dp':DenX X.K α' H p x:=by
    cases p with
    |val m=>exact Den.ex0 y' dp
    |new ds=>exact post.elim
   obtain⟨a,us,ds,es,rfl,h1,l1,eg,k⟩:=zJV w' x' dp' post
   split at eg
   ·rename_i hz
    cases eg
    exact⟨a,us,_,rfl,rfl,h1,by rw [l1.length];exact hz,k _ (l1.append (yG dd yK))⟩
   ·cases eg
theorem wI(ho:PEm X W a f)(ha:PAm X W (e::es) af)
  (hbase:attributeBase a "append" X.env (eval a X.env)=eval a X.env:=by rfl)
  (hfew:((backTo pos (starEach (e::es) X.env)).all (λx=>!x.1)&&(backToKw pos (keywordEach [] X.env)).all (λx=>x.1.isSome)
   &&decide ((e::es).length+([]:List Keyword).length+(if([]:List Keyword).isEmpty then 0 else 1)<30))=true:=by rfl)
  (hline:(apos.endLine==pos.line)=true:=by rfl) (hs:starEach (e::es) X.env=(false,eval e X.env)::starEach es X.env:=by rfl) (hplain:(backTo pos (starEach es X.env)).any (·.1)=false:=by rfl):
  PEm X W (.Call (.Attribute a "append" apos) (e::es) [] pos) (λρ S=>(f ρ S).bind λp S1=>if wH p S1=true then(af ρ S1).bind λrs S2=>zHL p rs S2 else .no):=
 zRW PySem.F.plainAttrs_list PySem.F.slot_list_append PySem.F.type_list_append yBV yCL zNF ho ha hbase hfew hline hs hplain
def clrF:Er->List Er->Sto->R Er
 |p,[],S=>zIR p S λ_=>some []
 |_,_,_=>.no
def zXR:Er->List Er->Sto->R Er
 |p,[],S=>zIR p S λds=>some ds.reverse
 |_,_,_=>.no
theorem zXS:zUP X W zUF zXR:=by
 intro p rs x vs α S H0 H Q α0 wd x0 dp da post
 match rs,da,post with
 |_::_,_,post=>exact post.elim
 |[],.nil,post=>
  have post:Post X.g W α0 H0 (zIR p S λds=>some ds.reverse) Q:=post
  obtain⟨a,us,ds,es,rfl,h1,l1,eg,k⟩:=zJV wd x0 dp post
  cases eg
  exact⟨a,us,rfl,rfl,h1,k _ l1.reverse⟩
theorem zIB(ho:PEm X W a f)(hbase:attributeBase a "reverse" X.env (eval a X.env)=eval a X.env:=by rfl)(hline:(apos.endLine==pos.line)=true:=by rfl):
  PEm X W (.Call (.Attribute a "reverse" apos) [] [] pos) (λρ S=>(f ρ S).bind λp S1=>if wH p S1=true then zXR p [] S1 else .no):=
 zUQ PySem.F.plainAttrs_list PySem.F.slot_list_reverse PySem.F.type_list_reverse zXG zXS zNF ho hbase hline
def zUX(p q:Er)(d:MV)(ρ:Rho)(S:Sto):R Rho:=match p,q with
 |.val (.loc l),.val (.int k)=>match S[l]? with
  |some (.lst ds)=>match ixN ds.length k with
   |some j=>.ok ρ (S.set l (.lst (ds.set j d)))
   |none=>.no
  |_=>.no
 |_,_=>.no
theorem yPO(ho:PEm X W o f)(hi:PEm X W i g)
  (ha: ∀v,assign (.Subscript o i pos) X.env v=(do
   let ov <-holding [v] (eval o X.env)
   let iv <-holding [v,ov] (eval i X.env)
   standAt pos
   holding [v,ov,iv] (setItem ov iv v)
   release [v,ov,iv] []):=by intro _;rfl):PGm X W (.Subscript o i pos) (λd ρ S=>(f ρ S).bind λp S1=>(g ρ S1).bind λq S2=>zUX p q d ρ S2):=by
 obtain⟨to,ho,fo⟩:=ho
 obtain⟨ti,hi,fi⟩:=hi
 refine⟨_,yDN ho hi set_list ha,λα ρ S σ H d v Q wd sl de q=>fo α ρ S σ H _ wd sl (q.bind λu p S1 α1 H1 e1 x1 w1 d1 q1=>fi α1 ρ S1 σ H1 _ w1 (sl.ext x1) ((q1.shift x1).bind λu2 p2 S2 α2 H2 e2 x2 w2 d2 q2=>?_))⟩
 replace q2:=q2.shift x2
 have d1':=DenX.ext x2 d1.1
 unfold zUX at q2
 split at q2
 ·rename_i l k
  obtain⟨a,rfl,h⟩:=zDG d1'
  cases xU d2.1
  obtain⟨ob,h1,h2⟩:=w2.of h
  rw [h1]at q2
  cases ob with
  |lst ds=>
   obtain⟨vs,h3,l1⟩:=h2
   have q2:Post X.g W α2 H2 (match ixN ds.length k with |some j=>R.ok ρ (S2.set l (.lst (ds.set j d)))|none=>R.no) Q:=q2
   split at q2
   ·rename_i j ej
    have xw:=w2.writex h (o:=.lst (vs.set j v))
    have sl2:=((sl.ext x1).ext x2).ext xw
    exact⟨a,vs,k,j,rfl,rfl,h3,by rw [l1.length];exact ej,q2 σ α2 _ xw (w2.write h ⟨_,yW,(l1.set ((de.ext x1).ext x2) j).ext xw⟩) sl2⟩
   ·exact q2.elim
  |dic _=>exact q2.elim
  |ins _ _=>exact q2.elim
 ·exact q2.elim
end
theorem _root_.L2.Inv.turnedL{X:Cx}{pins:List (Addr×Obj)}{σ:St}{H:Hp}{s:Shared}{h':Heap}{t':Nat}{fp:List Addr}(I:Inv X pins σ H s)(k: ∀b o,b∉fp->s.heap.get? b=some o->h'.get? b=some o)
  (hf: ∀b∈fp,zHS X pins H b):Inv X pins σ H {s with heap:=h',toks:=t'}:=by
 have nit: ∀b u,H b=some u->b∉fp:=λb u e z=>by rw [(hf b z).1]at e;cases e
 refine I.step (g':=s.gens) (d':=s.drawn) (ch:=fp) (λb hb=>⟨(hf b hb).2.2.2.1,(hf b hb).2.1,(hf b hb).2.2.2.2.1,(hf b hb).2.2.2.2.2⟩) (λb o _ _ hc e _=>k b o hc e) (λb o _ _ hc e _=>⟨o.slots,k b o hc e⟩) (λ_ _ _ _ n=>n)
  (λb o hc e=>⟨o,k b o hc e⟩) (λ_ _ e=>e) (λ_ _ _ e=>e) (λb ps e=>⟨#[],by rw [e];simp⟩) (λm hm=>?_) (λb u e=>?_) I.bare
 ·obtain⟨o,es,ep,ho,r⟩:=hm
  exact⟨o,es,ep,k _ o (λz=>(hf _ z).2.1 rfl) ho,r⟩
 ·refine(I.hok b u e).stay (λc v hc q=>k c v ?_ q) (λ_ q=>q) λ_ _ q=>q
  rcases hc with z|z
  ·rw [z];exact nit b u e
  ·exact nit c _ z
def IsSub(k:Bool)(h:Heap)(it l:Addr)(i:Nat):Prop:=if k=true then h.IsListIter it l i else h.IsTupleIter it l i
def zLE(k:Bool)(h:Heap)(l:Addr)(its:Array Value):Prop:=if k=true then h.IsList l its else h.IsTuple l its
def zJW(k:Bool)(l:Addr):Obj:={cls:=.type (if k=true then "list_iterator" else "tuple_iterator"),data:=.fields #[.ref l,.int 0 0]}
theorem IsSub.mk'{k:Bool}{h:Heap}{it l:Addr}(e:h.get? it=some (zJW k l)):IsSub k h it l 0:=by
 cases k with
 |true=>exact⟨_,e,rfl,rfl⟩
 |false=>exact⟨_,e,rfl,rfl⟩
theorem IsSub.there{k:Bool}{h:Heap}{it l:Addr}{i:Nat}(x:IsSub k h it l i): ∃o,h.get? it=some o/\ ∀v,o.data≠.cell v:=by
 cases k with
 |true=>obtain⟨o,e,_,d⟩:=(x:h.IsListIter it l i);exact⟨o,e,λv z=>by rw [d]at z;cases z⟩
 |false=>obtain⟨o,e,_,d⟩:=(x:h.IsTupleIter it l i);exact⟨o,e,λv z=>by rw [d]at z;cases z⟩
theorem IsSub.move{k:Bool}{h h':Heap}{it l:Addr}{i:Nat}(x:IsSub k h it l i)(f: ∀o,h.get? it=some o->h'.get? it=some o):IsSub k h' it l i:=by
 cases k with
 |true=>obtain⟨o,e,r⟩:=(x:h.IsListIter it l i);exact⟨o,f o e,r⟩
 |false=>obtain⟨o,e,r⟩:=(x:h.IsTupleIter it l i);exact⟨o,f o e,r⟩
section
variable{prog:Program}{w:World}{A:Around}{E:VP}{s:Shared}
theorem zNG{k:Bool}{l:Addr}{its:Array Value}{Q:VP}(hl:zLE k s.heap l its)(h:Q (.ref s.heap.objs.size) {s with heap:=s.heap.push (zJW k l)}):wpAny (model prog w) A (pyIter (.ref l)) Q E s:=by
 cases k with
 |true=>exact wpAny_pyIter_list hl h
 |false=>exact wpAny_pyIter_tuple hl h
theorem yEX{k:Bool}{it l:Addr}{i:Nat}{its:Array Value}{x:Value}{Q:VP}(hit:IsSub k s.heap it l i)(hl:zLE k s.heap l its)(hx:its[i]? =some x)
  (hQ: ∀h',IsSub k h' it l (i+1)->Heap.SameBut it s.heap h'->Q x {s with heap:=h'}):wpAny (model prog w) A (Builtin.SmallTypes.nextOf (.ref it)) Q E s:=by
 cases k with
 |true=>exact wpAny_nextOf_list_item hit hl hx hQ
 |false=>
  have hit':s.heap.IsTupleIter it l i:=hit
  obtain⟨o,ho,hc,hd⟩:=id hit'
  obtain⟨ol,hol,_,nl,hdl⟩:=(hl:s.heap.IsTuple l its)
  unfold Builtin.SmallTypes.nextOf
  refine wB0 (wpAny_callSpecial?_slot (name:=Str.ofString "__next__") hit'.typeIs F.slot_tuple_iterator_next (wpAny_call_entry F.slot_tuple_iterator_next hit'.typeIs F.entry_tuple_iterator_next ?_ (F.args_tuple_iterator_next_1 _)))
  show wpAny _ _ (field (.ref it) 0 >>= _) _ _ s
  refine wB0 (wpAny_field ho hd (x:=.ref l) rfl ?_)
  show wpAny _ _ (if(Value.ref l==Value.none)=true then _ else _) _ _ s
  rw [iN (show¬((Value.ref l==Value.none)=true)from xF0)]
  show wpAny _ _ (field (.ref it) 1 >>= _) _ _ s
  refine wB0 (wpAny_field ho hd (x:=.int i 0) rfl ?_)
  show wpAny _ _ (seqItems? (.ref l) >>= _) _ _ s
  refine wB0 (wpAny_seqItems hol hdl ?_)
  simp only [toNat_natCast,hx]
  refine wB0 (wpAny_setField ho hd (by simp) (wP0 ⟨x,rfl,wP0 (hQ _ ?_ (Heap.SameBut.update ..))⟩))
  exact⟨_,Heap.get?_update_self _ ho (Obj.isFreed_of_fields (Obj.data_mapFields hd _)),(Obj.cls_mapFields ..).trans hc,by rw [Obj.data_mapFields hd];simp [rawInt]⟩
theorem yJZ{k:Bool}{it l:Addr}{i:Nat}{its:Array Value}{Q:VP}(hh:A.handled=none)(hit:IsSub k s.heap it l i)(hl:zLE k s.heap l its)(hx:its[i]? =none)
  (hE: ∀h' e,Heap.ExtBut it s.heap h'->(∃o,h'.get? e=some o/\o.cls=.type "StopIteration")->E (.ref e) {s with heap:=h'}):wpAny (model prog w) A (Builtin.SmallTypes.nextOf (.ref it)) Q E s:=by
 cases k with
 |true=>exact wpAny_nextOf_list_end hh hit hl hx hE
 |false=>
  have hit':s.heap.IsTupleIter it l i:=hit
  obtain⟨o,ho,hc,hd⟩:=id hit'
  obtain⟨ol,hol,_,nl,hdl⟩:=(hl:s.heap.IsTuple l its)
  unfold Builtin.SmallTypes.nextOf
  refine wB0 (wpAny_callSpecial?_slot (name:=Str.ofString "__next__") hit'.typeIs F.slot_tuple_iterator_next (wpAny_call_entry F.slot_tuple_iterator_next hit'.typeIs F.entry_tuple_iterator_next ?_ (F.args_tuple_iterator_next_1 _)))
  show wpAny _ _ (field (.ref it) 0 >>= _) _ _ s
  refine wB0 (wpAny_field ho hd (x:=.ref l) rfl ?_)
  show wpAny _ _ (if(Value.ref l==Value.none)=true then _ else _) _ _ s
  rw [iN (show¬((Value.ref l==Value.none)=true)from xF0)]
  show wpAny _ _ (field (.ref it) 1 >>= _) _ _ s
  refine wB0 (wpAny_field ho hd (x:=.int i 0) rfl ?_)
  show wpAny _ _ (seqItems? (.ref l) >>= _) _ _ s
  refine wB0 (wpAny_seqItems hol hdl ?_)
  simp only [toNat_natCast,hx]
  refine wB0 (wpAny_rule (wB0 (wpAny_setField ho hd (by simp) ?_)))
  show wpAny _ _ (newExc (.type "StopIteration") [] >>= _) _ _ _
  refine wB0 ?_
  simp only [newExc,newTuple]
  refine wB0 (wpAny_newObj_type ?_ (by size_fits))
  refine wB0 (m:=firstArgMember _ _) (wpAny_of_eq (a:=Value.none) (by first |rfl|(simp only [firstArgMember];rfl)) ?_)
  refine wpAny_newObj_type ?_ (by size_fits)
  simp only [raiseNew]
  refine wB0 (wpAny_handled ?_)
  first |rw [show A.in1.handled=none from hh]|rw [hh]
  refine wB0 (wP0 (wpAny_throw ?_))
  exact hE _ _ (((Heap.SameBut.update ..).extBut.push _).push _) ⟨_,Heap.get?_push_size _ rfl,rfl⟩
end
def SqK(k:Bool)(K:PySem.W.Frag)(H:Hp)(a:Addr)(xs:List V):Prop:=if k=true then SqL K H a xs else SqT K H a xs
section
variable{X:Cx}{pins:List (Addr×Obj)}{σ:St}{H:Hp}{s:Shared}
theorem _root_.L2.Inv.seqK(I:Inv X pins σ H s){k:Bool}{a:Addr}{xs:List V}(h:SqK k X.K H a xs): ∃its:List Value,Vals xs its/\zLE k s.heap a its.toArray/\xs.length<=sizeLine:=by
 cases k with
 |true=>obtain⟨its,r,p,z⟩:=I.list h;exact⟨its,r,p.isList,z⟩
 |false=>obtain⟨its,r,p,z⟩:=I.tuple h;exact⟨its,r,p,z⟩
theorem _root_.L2.Inv.seqK_inj(I:Inv X pins σ H s){k:Bool}{a:Addr}{xs ys:List V}(h:SqK k X.K H a xs)(h':SqK k X.K H a ys):xs=ys:=by
 cases k with
 |true=>exact I.list_inj h h'
 |false=>exact I.tuple_inj h h'
end
structure Sr where
 k:Bool
 ds:List MV
 gs:List (Nat×List MV)
def srcOf(S:Sto):Er->Option Sr
 |.val (.tup ds)=>some ⟨false,ds,[]⟩
 |.new ds=>some ⟨true,ds,[]⟩
 |.val (.scr ds)=>some ⟨true,ds,[]⟩
 |.val (.loc l)=>match S[l]? with
  |some (.lst ds)=>some ⟨true,ds,[(l,ds)]⟩
  |_=>none
 |_=>none
structure SrcD(X:Cx)(q:Sr)(l:Addr)(P:List Addr->Sto->Hp->Prop):Prop where
 get: ∀α S H,P α S H-> ∃vs,SqK q.k X.K H l vs/\DenL X.K α H q.ds vs
 stays: ∀α1 S1 H1 α2 S2 H2,P α1 S1 H1->Ext α1 H1 α2 H2->Wd X.g α2 S2 H2->stay q.gs S2->P α2 S2 H2
 st: ∀α S H,P α S H->stay q.gs S
theorem yEY{X:Cx}{α:List Addr}{S:Sto}{H:Hp}(wd:Wd X.g α S H){r:Er}{x:V}{q:Sr}(e:srcOf S r=some q)(d:DenX X.K α H r x): ∃l P,x=.ref l/\P α S H/\SrcD X q l P:=by
 unfold srcOf at e
 split at e
 ·rename_i ds
  cases e
  obtain⟨a,vs,rfl,s,l⟩:=zBD d
  exact⟨a,λα S H=> ∃vs,SqT X.K H a vs/\DenL X.K α H ds vs,rfl,⟨vs,s,l⟩,λα S H h=>h,λα1 S1 H1 α2 S2 H2 ⟨vs,h1,h2⟩ x w _=>⟨vs,x.sqT h1,h2.ext x⟩,λ_ _ _ _=>gW⟩
 ·rename_i ds
  cases e
  obtain⟨b,vs,rfl,h,n,l⟩:=d
  exact⟨b,λα S H=> ∃vs,H b=some (.lst vs)/\b∉α/\DenL X.K α H ds vs,rfl,⟨vs,h,n,l⟩,λα S H ⟨vs,h1,_,h2⟩=>⟨vs,(SqL.of h1:SqL X.K H b vs),h2⟩,
   λα1 S1 H1 α2 S2 H2 ⟨vs,h1,h2,h3⟩ x w _=>⟨vs,x.keep b _ h1 h2,x.out h1 h2,h3.ext x⟩,λ_ _ _ _=>gW⟩
 ·rename_i ds
  cases e
  obtain⟨a,vs,rfl,s,l⟩:=zMZ d
  exact⟨a,λα S H=> ∃vs,SqF X.K H a vs/\DenL X.K α H ds vs,rfl,⟨vs,s,l⟩,λα S H ⟨vs,h1,h2⟩=>⟨vs,h1.l,h2⟩,λα1 S1 H1 α2 S2 H2 ⟨vs,h1,h2⟩ x w _=>⟨vs,x.sqF h1,h2.ext x⟩,λ_ _ _ _=>gW⟩
 ·rename_i n
  split at e
  ·rename_i ds hS
   cases e
   obtain⟨a,rfl,h⟩:=zDG d
   obtain⟨vs,h1,h2⟩:=wd.obj n a _ h hS
   refine⟨a,λα S H=> ∃vs,H a=some (.lst vs)/\DenL X.K α H ds vs/\α[n]? =some a/\S[n]? =some (.lst ds),rfl,⟨vs,h1,h2,h,hS⟩,λα S H ⟨vs,h1,h2,_⟩=>⟨vs,(SqL.of h1:SqL X.K H a vs),h2⟩,?_,?_⟩
   ·intro α1 S1 H1 α2 S2 H2 ⟨vs,a1,a2,a3,a4⟩ x w hs
    have hs':=hs (n,ds) (by simp)
    obtain⟨us,b1,b2⟩:=w.obj n a _ (x.at a3) hs'
    exact⟨us,b1,b2,x.at a3,hs'⟩
   ·intro α S H ⟨vs,_,_,_,a4⟩ p hp
    have:p=(n,ds):=by simpa using hp
    subst this
    exact a4
  ·cases e
 ·cases e
section
variable{X:Cx}{W:XW}{a b:Expr}{elts:List Expr}{kt:Nat}{pt p pos:Pos}{ta:TA}{af:Rho->Sto->R (List Er)}
theorem yKA:bootBuiltins "enumerate"=some (.type "enumerate"):=by decide+kernel
def pairs(xs ys:List MV):List MV:=List.zipWith (λx y=>.tup [x,y]) xs ys
end
structure EnSt(k:Bool)(e it l:Addr)(i:Nat)(h:Heap):Prop where
 e: ∃old,IsEnum h e it i old
 s:IsSub k h it l i
section
variable{prog:Program}{w:World}{A:Around}{E:VP}{s:Shared}{k:Bool}{e it l:Addr}{i:Nat}{its:Array Value}
theorem yKB{x old:Value}{Q:VP}(he:IsEnum s.heap e it i old)(hit:IsSub k s.heap it l i)(hl:zLE k s.heap l its)(hx:its[i]? =some x)(hne:e≠it)
  (hQ: ∀h',IsEnumOut h' e it ((i:Int)+1) x s.heap.objs.size->IsSub k h' it l (i+1)->h'.get? s.heap.objs.size=some {cls:=.type "tuple",data:=.seq #[.int i s.toks,x]}->
   (∀b o,b≠e->b≠it->s.heap.get? b=some o->h'.get? b=some o)->Q (.ref s.heap.objs.size) {s with heap:=h',toks:=s.toks+1}):
  wpAny (model prog w) A (Builtin.«enumerate.__next__» ⟨[.ref e],[]⟩) (λfin s'=> ∃v,fin=.done (.ret v)/\Q v s') E s:=by
 obtain⟨hp,g,d,tk,os⟩:=s
 show wpAny _ _ (field (.ref e) 2 >>= _) _ _ _
 refine wB0 (wpAny_field he rfl (x:=.ref it) rfl (wB0 (yEX hit hl hx λha ita hsa=>?_)))
 replace hsa:Heap.SameBut it hp ha:=hsa
 have ea:IsEnum ha e it i old:=(hsa.2 e hne).trans he
 show wpAny _ _ (field (.ref e) 3 >>= _) _ _ ⟨ha,g,d,tk,os⟩
 refine wB0 (wpAny_field ea rfl (x:=rawInt i) rfl ?_)
 show wpAny _ _ (field (.ref e) 4 >>= _) _ _ ⟨ha,g,d,tk,os⟩
 refine wB0 (wpAny_field ea rfl (x:=.none) rfl ?_)
 show wpAny _ _ (mkInt i >>= _) _ _ ⟨ha,g,d,tk,os⟩
 refine wB0 (wpAny_mkInt ?_)
 show wpAny _ _ (setField (.ref e) 3 (rawInt ((i:Int)+1)) >>= _) _ _ ⟨ha,g,d,tk+1,os⟩
 refine wB0 (wpAny_setField_rec ea (by simp) λhb eb hsb=>?_)
 replace hsb:Heap.SameBut e ha hb:=hsb
 replace eb:IsEnum hb e it ((i:Int)+1) old:=eb
 show wpAny _ _ (setField (.ref e) 4 .none >>= _) _ _ ⟨hb,g,d,tk+1,os⟩
 refine wB0 (wpAny_setField_rec eb (by simp) λhc ec hsc=>?_)
 replace hsc:Heap.SameBut e hb hc:=hsc
 replace ec:IsEnum hc e it ((i:Int)+1) old:=ec
 show wpAny _ _ (newTuple [.int i tk,x] >>= _) _ _ ⟨hc,g,d,tk+1,os⟩
 refine wB0 (wpAny_newTuple ?_)
 have hsz:hc.objs.size=hp.objs.size:=by rw [hsc.1,hsb.1,hsa.1]
 have hel:e<hp.objs.size:=Heap.lt_size he
 have ed:IsEnum (hc.push {cls:=.type "tuple",data:=.seq #[.int i tk,x]}) e it ((i:Int)+1) old:=hP0 _ ec
 have td:(hc.push {cls:=.type "tuple",data:=.seq #[.int i tk,x]}).get? hp.objs.size=some {cls:=.type "tuple",data:=.seq #[.int i tk,x]}:=by rw [<-hsz];exact Heap.get?_push_size _ rfl
 have kd: ∀b o,b≠e->b≠it->hp.get? b=some o->(hc.push {cls:=.type "tuple",data:=.seq #[.int i tk,x]}).get? b=some o:=λb o n1 n2 q=>
  hP0 _ (hsc.extBut b o n1 (hsb.extBut b o n1 (hsa.extBut b o n2 q)))
 have sd:IsSub k (hc.push {cls:=.type "tuple",data:=.seq #[.int i tk,x]}) it l (i+1):=ita.move λo q=>hP0 _ (hsc.extBut _ o (Ne.symm hne) (hsb.extBut _ o (Ne.symm hne) q))
 generalize hc.push {cls:=.type "tuple",data:=.seq #[.int i tk,x]}=hd at ed td kd sd ⊢
 show wpAny _ _ (Builtin.SmallTypes.ownedTupleIsFree (.ref e) >>= _) _ _ ⟨hd,g,d,tk+1,os⟩
 rw [hsz]
 refine wB0 ?_
 unfold Builtin.SmallTypes.ownedTupleIsFree
 refine wB0 (wpAny_field ed rfl (x:=.none) rfl (wP0 ?_))
 simp only [if_true]
 refine wB0 (wpAny_rule (wB0 (wpAny_field ed rfl (x:=old) rfl (wB0 (wpAny_setField_rec ed (by simp) λhf ef hsf=>?_)))))
 replace hsf:Heap.SameBut e hd hf:=hsf
 replace ef:IsEnum hf e it ((i:Int)+1) x:=ef
 show wpAny _ _ (Builtin.SmallTypes.ownedTupleHandOut (.ref e) (.ref hp.objs.size) >>= _) _ _ ⟨hf,g,d,tk+1,os⟩
 refine wB0 ?_
 unfold Builtin.SmallTypes.ownedTupleHandOut
 refine wB0 (wpAny_setField_rec ef (by simp) λhg' eg hsg=>?_)
 replace hsg:Heap.SameBut e hf hg':=hsg
 replace eg:IsEnumOut hg' e it ((i:Int)+1) x hp.objs.size:=eg
 refine wpAny_setField_rec eg (by simp) λhh' eh hsh=>?_
 replace hsh:Heap.SameBut e hg' hh':=hsh
 replace eh:IsEnumOut hh' e it ((i:Int)+1) x hp.objs.size:=eh
 have up: ∀b o,b≠e->hd.get? b=some o->hh'.get? b=some o:=λb o n q=>hsh.extBut b o n (hsg.extBut b o n (hsf.extBut b o n q))
 exact wB0 (wpAny_letGo (wP0 ⟨_,rfl,hQ hh' eh (sd.move λo q=>up _ o (Ne.symm hne) q) (up _ _ (ne_of_gt hel) td) λb o n1 n2 q=>up b o n1 (kd b o n1 n2 q)⟩))
theorem zXT(k:Bool)(l:Addr)(its:Array Value):
  Meets (Builtin.«enumerate.__new__» ⟨[.type "enumerate",.ref l],[]⟩) (λ_ R s=>zLE k s.heap l its/\
   R (.ok (.ret (.ref (s.heap.objs.size+1)))) {s with heap:=(s.heap.push (zJW k l)).push {cls:=.type "enumerate",data:=.fields #[.none,.bool false,.ref s.heap.objs.size,rawInt 0,.none,.none]}}):=
 .of_wp λprog w A R s h=>by
  obtain⟨hp,g,d,tk,os⟩:=s;obtain⟨hl,h⟩:=h
  have hsub:=sub_enumerate
  have hL:zLE k (Shared.heap ⟨hp,g,d,tk,os⟩) l its:=hl
  have z1: ∀(h:Heap)(o:Obj),(h.push o).objs.size=h.objs.size+1:=λh o=>Heap.size_push ..
  wp_walk
  refine wpAny_stack_any λst=>wP0 ?_
  split
  ·rename_i c _ _ _ _ _
   cases (c==Value.type "enumerate")
   ·wp_walk using zNG hL
    exact⟨_,rfl,by simp only [z1];exact h⟩
   ·wp_walk using zNG hL
    exact⟨_,rfl,by simp only [z1];exact h⟩
  ·wp_walk using zNG hL
   exact⟨_,rfl,by simp only [z1];exact h⟩
end
def zQG(K:PySem.W.Frag)(F:List MV->Sto->R Er):Sp:=λvs H Q _=> ∃ds,DenL K [] H ds vs/\ds.length=1/\ ∀g:Gm,g.K=K->Post g W0 [] H (F ds []) Q
theorem yEZ{g:Gm}{F:List MV->Sto->R Er}: ∀vs H Q E,zQG g.K F vs H Q E->spM g 1 F vs H Q E:=λvs H Q E ⟨ds,l,hl,q⟩=>⟨[],[],ds,⟨rfl,by simp,λl a o h=>by simp at h⟩,l,hl,q g rfl⟩
theorem yPP{K:PySem.W.Frag}{H:Hp}{a:Addr}{xs:List V}(hO:yDW H)(h:SqL K H a xs):SqF K H a xs:=by
 rcases h with(h|⟨o,h⟩)|h
 ·rcases hO a with z|⟨o,ys,z⟩
  ·rw [z]at h;cases h
  ·rw [z]at h;cases h
 ·exact .inl ⟨o,h⟩
 ·exact .inr h
theorem yFA{K:PySem.W.Frag}{F:List MV->Sto->R Er}{H:Hp}{a:Addr}{ns:List Int}(hO:yDW H)(hS:SqL K H a (ns.map V.int))(h: ∃S,F [.scr (ns.map MV.int)] []=.ok (.val (.bl true)) S):zQG K F [.ref a] H (λv _=>v=.bl true) λ_ _ _=>False:=by
 obtain⟨S,h⟩:=h
 refine⟨_,yG (zYW (yPP hO hS) (zQD ns)) yK,rfl,λg _=>?_⟩
 rw [h]
 exact λv α' H' x w d=>zQE d.1
theorem bok{β γ:Type}(b:β)(S:Sto)(k:β->Sto->R γ):(R.ok b S).bind k=k b S:=by
 have h:=R.bind_ok b S k
 exact Eq.trans h rfl
theorem yKC(d:MV)(S:Sto):rdSl (some (some d)) S=.ok (.val d) S:=rfl
theorem zNH{S T:Sto}:yEL S (S++T):=⟨by rw [lA];omega,λl hl=>.inl (getElem?_append_left hl)⟩
theorem zDH(n:Nat)(i:Int):lo n (.int i):=by unfold lo;trivial
theorem zJX(n:Nat)(i:List Nat):lo n (.str i):=by unfold lo;trivial
theorem yMV(n:Nat)(i:Bool):lo n (.bl i):=by unfold lo;trivial
theorem zXU(n:Nat):lo n .non:=by unfold lo;trivial
theorem nO{n:Nat}{ds:List MV}(h:loL n ds):lo n (.tup ds):=by unfold lo;exact h
theorem wK{n:Nat}: ∀{ds:List MV},(∀d∈ds,lo n d)->loL n ds
 |[],_=>by unfold loL;trivial
 |d::ds,h=>by unfold loL;exact⟨h d mF0,wK λe he=>h e (mO _ he)⟩
theorem yFB{S T:Sto}{d:MV}(h:lo S.length d)(hn: ∀l,d≠.loc l):dZ S (.val d) (S++T)=.ok (.val d) S:=by
 unfold dZ
 rw [iP zNH]
 have e:(S++T).take S.length=S:=by simp
 cases d with
 |loc l=>exact absurd rfl (hn l)
 |_=>dsimp only;rw [iP h,e]
theorem yFC{S T:Sto}{ds:List MV}(h:loL S.length ds):dZ S (.new ds) (S++T)=.ok (.new ds) S:=by
 unfold dZ
 rw [iP zNH]
 have e:(S++T).take S.length=S:=by simp
 dsimp only
 rw [iP h,e]
theorem yFD{S T:Sto}{l:Nat}{ds:List MV}(hl:S.length<=l)(hS:(S++T)[l]? =some (.lst ds))(h:loL S.length ds):dZ S (.val (.loc l)) (S++T)=.ok (.new ds) S:=by
 unfold dZ
 rw [iP zNH]
 have e:(S++T).take S.length=S:=by simp
 dsimp only
 rw [iN (by omega),hS]
 dsimp only
 rw [iP h,e]
theorem zEA{n:Nat}{F:List MV->Sto->R Er}{rs:List Er}{S T:Sto}{d:MV}(hn:rs.length=n)(hF:F (zP rs S).1 (zP rs S).2=.ok (.val d) (S++T))(h:lo S.length d)(hd: ∀l,d≠.loc l):yA n F rs S=.ok (.val d) S:=by
 unfold yA
 rw [iP hn,hF]
 exact yFB h hd
theorem jZ{n:Nat}{F:List MV->Sto->R Er}{rs:List Er}{S T:Sto}{ds:List MV}(hn:rs.length=n)(hF:F (zP rs S).1 (zP rs S).2=.ok (.new ds) (S++T))(h:loL S.length ds):yA n F rs S=.ok (.new ds) S:=by
 unfold yA
 rw [iP hn,hF]
 exact yFC h
theorem zFY{n:Nat}{F:List MV->Sto->R Er}{rs:List Er}{S T:Sto}{l:Nat}{ds:List MV}(hn:rs.length=n)(hF:F (zP rs S).1 (zP rs S).2=.ok (.val (.loc l)) (S++T))(hl:S.length<=l)(hS:(S++T)[l]? =some (.lst ds))(h:loL S.length ds):yA n F rs S=.ok (.new ds) S:=by
 unfold yA
 rw [iP hn,hF]
 exact yFD hl hS h
theorem zEB{n:Nat}{F:List MV->Sto->R Er}{rs:List Er}{S:Sto}{d:MV}(hn:rs.length=n)(hF:F (zP rs S).1 (zP rs S).2=.ok (.val d) S)(h:lo S.length d)(hd: ∀l,d≠.loc l):yA n F rs S=.ok (.val d) S:=zEA (T:=[]) hn (by rw [aN];exact hF) h hd
section
variable{S:Sto}
theorem as_bl(b:Bool)(S:Sto):asB (.val (.bl b)) S=.ok b S:=rfl
theorem as_int(i:Int)(S:Sto):asI (.val (.int i)) S=.ok (some i) S:=rfl
theorem yPQ(b:Bool)(S:Sto):zUO (.val (.bl b)) S=.ok b S:=rfl
theorem add_int(i j:Int)(S:Sto):wT (.val (.int i)) (.val (.int j)) S=.ok (.val (.int (i+j))) S:=rfl
theorem sub_int(i j:Int)(S:Sto):zLQ (.val (.int i)) (.val (.int j)) S=.ok (.val (.int (i - j))) S:=rfl
theorem add_str{x y:List Nat}(h:x.length+y.length<=sizeLine):wT (.val (.str x)) (.val (.str y)) S=.ok (.val (.str (x++y))) S:=iP h
theorem yKD{x y:List MV}(h:x.length+y.length<=sizeLine):wT (.val (.tup x)) (.val (.tup y)) S=.ok (.val (.tup (x++y))) S:=iP h
theorem yFE{p q:Er}{x y:List MV}(h1:lsW S p=some x)(h2:lsW S q=some y)(h:x.length+y.length<=sizeLine):wT p q S=.ok (.new (x++y)) S:=by
 have e:zZD p q S=.ok (.new (x++y)) S:=by
  unfold zZD
  rw [h1,h2]
  exact iP h
 unfold wT
 split
 ·cases h1
 ·cases h1
 ·cases h1
 ·exact e
theorem yPR{g:Int->Int->Bool}(i j:Int)(S:Sto):ibF g (.val (.int i)) (.val (.int j)) S=.ok (.val (.bl (g i j))) S:=rfl
theorem yKE(i j:Int):eqV (.int i) (.int j)=decide (i=j):=by
 show(i==j)=_
 by_cases h:i=j
 ·subst h;simp
 ·rw [dF0 h];simpa using h
theorem yKF(x y:List Nat):eqV (.str (mkS x)) (.str (mkS y))=decide (x=y):=by
 show(mkS x==mkS y)=_
 by_cases h:x=y
 ·subst h;simp
 ·rw [dF0 h]
  have:mkS x≠mkS y:=λz=>h (zLZ z)
  simpa using this
theorem zHD(n:Nat)(i j:Int):eqv S (n+1) (.int i) (.int j)=some (decide (i=j)):=by rw [<-yKE];rfl
theorem zZH(n:Nat)(x y:List Nat):eqv S (n+1) (.str x) (.str y)=some (decide (x=y)):=by rw [<-yKF];rfl
theorem yPS(n:Nat)(x:Int)(y:List Nat):eqv S (n+1) (.int x) (.str y)=some false:=rfl
theorem yPT(n:Nat)(x:List Nat)(y:Int):eqv S (n+1) (.str x) (.int y)=some false:=rfl
theorem yPU(n:Nat)(x y:Bool):eqv S (n+1) (.bl x) (.bl y)=some (x==y):=rfl
theorem yKG(d f:MV):eqF (.val d) (.val f) S=match eqv S (zN+1) d f with |some k=>.ok (.val (.bl k)) S|none=>.no:=rfl
theorem yKH(d f:MV):neF (.val d) (.val f) S=match eqv S (zN+1) d f with |some k=>.ok (.val (.bl !k)) S|none=>.no:=rfl
theorem yFF{d f:MV}{k:Bool}(h:eqv S (zN+1) d f=some k):eqF (.val d) (.val f) S=.ok (.val (.bl k)) S:=by rw [yKG,h]
theorem yPV{d f:MV}{k:Bool}(h:eqv S (zN+1) d f=some k):neF (.val d) (.val f) S=.ok (.val (.bl !k)) S:=by rw [yKH,h]
theorem eq_int(i j:Int)(S:Sto):eqF (.val (.int i)) (.val (.int j)) S=.ok (.val (.bl (decide (i=j)))) S:=yFF (zHD _ i j)
theorem eq_str(x y:List Nat)(S:Sto):eqF (.val (.str x)) (.val (.str y)) S=.ok (.val (.bl (decide (x=y)))) S:=yFF (zZH _ x y)
theorem ne_int(i j:Int)(S:Sto):neF (.val (.int i)) (.val (.int j)) S=.ok (.val (.bl (!decide (i=j)))) S:=yPV (zHD _ i j)
theorem lt_int(i j:Int)(S:Sto):ltF (.val (.int i)) (.val (.int j)) S=.ok (.val (.bl (decide (i<j)))) S:=rfl
theorem lt_str(i j:List Nat)(S:Sto):ltF (.val (.str i)) (.val (.str j)) S=.ok (.val (.bl (decide (i<j)))) S:=rfl
theorem zY{b:Int}(h:0<b)(h2:b<1073741824)(a:Int)(S:Sto):kT (.val (.int a)) (.val (.int b)) S=.ok (.val (.int (a / b))) S:=by
 refine iP ⟨h,?_⟩
 have h3:b.natAbs<2 ^ 30:=by omega
 have:=(Nat.log2_lt (by omega:b.natAbs≠0)).mpr h3
 omega
theorem mod_lit{b:Int}(h:0<b)(a:Int)(S:Sto):wE (.val (.int a)) (.val (.int b)) S=.ok (.val (.int (a % b))) S:=iP h
theorem zSD{b:Int}(h: -(2 ^ 64)<b/\b<2 ^ 64)(a:Int)(S:Sto):zFX (.val (.int a)) (.val (.int b)) S=.ok (.val (.int (a * b))) S:=iP (Or.inr (Or.inl h))
theorem nA{a:Int}(h: -(2 ^ 64)<a/\a<2 ^ 64)(b:Int)(S:Sto):zFX (.val (.int a)) (.val (.int b)) S=.ok (.val (.int (a * b))) S:=iP (Or.inl h)
theorem zZI{a b:Int}(h:yCG a b)(S:Sto):zLR (.val (.int a)) (.val (.int b)) S=.ok (.val (.int (a ^ b.toNat))) S:=iP h
theorem yKI(ρ:Rho)(i:Nat)(d:MV)(S:Sto):zRY ρ i (.val d) S=.ok (.next (ρ.set i (some d))) S:=rfl
theorem yKJ(ρ:Rho)(i:Nat)(ds:List MV)(S:Sto):zRY ρ i (.new ds) S=.ok (.next (ρ.set i (some (.loc S.length)))) (S++[.lst ds]):=rfl
theorem yKK(S:Sto):zP [] S=([],S):=rfl
theorem yKL(d:MV)(rs:List Er)(S:Sto):zP (.val d::rs) S=(d::(zP rs S).1,(zP rs S).2):=rfl
theorem zD{F G:AY}{ρ ρ':Rho}{S S':Sto}(h:F ρ S=.ok (.next ρ') S'):zO F G ρ S=G ρ' S':=by unfold zO;rw [h];rfl
theorem zHE{F G:AY}{ρ:Rho}{S S':Sto}{r:Er}(h:F ρ S=.ok (.ret r) S'):zO F G ρ S=.ok (.ret r) S':=by unfold zO;rw [h];rfl
theorem yP(S:Sto):stay [] S:=gW
theorem zW{gf:MV->Rho->Sto->R Rho}{b:AY}{gs:List (Nat×List MV)}{d:MV}{ds:List MV}{ρ ρ0 ρ':Rho}{S0 S':Sto}(hg:gf d ρ S=.ok ρ0 S0)(h:b ρ0 S0=.ok (.next ρ') S')(hs:stay gs S'):kS gf b gs (d::ds) ρ S=kS gf b gs ds ρ' S':=by
 conv=>lhs;unfold kS
 rw [hg,bok,h,bok]
 dsimp only
 rw [iP hs]
theorem yKM{gf:MV->Rho->Sto->R Rho}{b:AY}{gs:List (Nat×List MV)}{d:MV}{ds:List MV}{ρ ρ0:Rho}{S0 S':Sto}{r:Er}(hg:gf d ρ S=.ok ρ0 S0)(h:b ρ0 S0=.ok (.ret r) S'):kS gf b gs (d::ds) ρ S=.ok (.ret r) S':=by
 conv=>lhs;unfold kS
 rw [hg,bok,h,bok]
theorem zIC{t:AZ}{b:AY}{n:Nat}{ρ ρ':Rho}{S1 S2:Sto}(h1:t ρ S=.ok true S1)(h2:b ρ S1=.ok (.next ρ') S2):gN t b (n+1) ρ S=gN t b n ρ' S2:=by
 conv=>lhs;unfold gN
 rw [h1,bok,iP rfl,h2,bok]
theorem zQH{t:AZ}{b:AY}{n:Nat}{ρ:Rho}{S1:Sto}(h1:t ρ S=.ok false S1):gN t b (n+1) ρ S=.ok (.next ρ) S1:=by
 conv=>lhs;unfold gN
 rw [h1,bok,iN xF0]
theorem zIS{α:Type}{xs:List α}{i:Int}(h0:0<=i)(h1:i<xs.length): ∃c,atI xs i=some c:=by
 refine⟨xs[i.toNat]'(by omega),?_⟩
 unfold atI ixN
 rw [iP h0,iP h1]
 exact gE0 _
theorem zMA{α:Type}{P:α->Prop}{xs:List α}{i:Int}{e:α}(h: ∀e∈xs,P e)(z:atI xs i=some e):P e:=by
 unfold atI at z
 cases q:ixN xs.length i with
 |none=>rw [q]at z;cases z
 |some j=>rw [q]at z;exact h e (mem_of_getElem? (show xs[j]? =some e from z))
theorem ix_str{x:List Nat}{i:Int}{c:Nat}(h:x.length<=sizeLine)(hk:atI x i=some c):ixF (.val (.str x)) (.val (.int i)) S=.ok (.val (.str [c])) S:=by
 show(if x.length<=sizeLine then match atI x i with |some c=>R.ok (Er.val (.str [c])) S|none=>.no else .no)=_
 rw [iP h,hk]
theorem ix_tup{ds:List MV}{i:Int}{d:MV}(hk:atI ds i=some d):ixF (.val (.tup ds)) (.val (.int i)) S=.ok (.val d) S:=by
 show(match atI ds i with |some d=>R.ok (Er.val d) S|none=>.no)=_
 rw [hk]
theorem yFG{ds:List MV}{i:Int}{d:MV}(hk:atI ds i=some d):ixF (.new ds) (.val (.int i)) S=.ok (.val d) S:=by
 show(match atI ds i with |some d=>R.ok (Er.val d) S|none=>.no)=_
 rw [hk]
theorem gY{l:Nat}{ds:List MV}{i:Int}{d:MV}(hS:S[l]? =some (.lst ds))(hk:atI ds i=some d):ixF (.val (.loc l)) (.val (.int i)) S=.ok (.val d) S:=by
 have e:jM S (.val (.loc l))=some ds:=by unfold jM;dsimp only;rw [hS]
 show(match jM S (.val (.loc l))with |some ds=>getL ds (.val (.int i)) S|none=>.no)=_
 rw [e]
 show(match atI ds i with |some d=>R.ok (Er.val d) S|none=>.no)=_
 rw [hk]
theorem zCR{l:Nat}{ds:List MV}(hS:S[l]? =some (.lst ds)):zDY [.val (.loc l)] S=.ok (.val (.int ds.length)) S:=by
 have e:jM S (.val (.loc l))=some ds:=by unfold jM;dsimp only;rw [hS]
 have e2:itemsOf S (.val (.loc l))=some ds:=by unfold itemsOf;exact e
 show(match itemsOf S (.val (.loc l))with |some ds=>R.ok (Er.val (.int ds.length)) S|none=>.no)=_
 rw [e2]
theorem zBK{l:Nat}{ds:List MV}(hS:S[l]? =some (.lst ds)):jM S (.val (.loc l))=some ds:=by unfold jM;dsimp only;rw [hS]
theorem yKN{l:Nat}{ds:List MV}(hS:S[l]? =some (.lst ds)):lsW S (.val (.loc l))=some ds:=by unfold lsW;dsimp only;rw [hS]
theorem zIT{l:Nat}{ds:List MV}(hS:S[l]? =some (.lst ds)):itL (.val (.loc l)) S=.ok ⟨ds,[(l,ds)]⟩ S:=by unfold itL;dsimp only;rw [hS]
theorem zEC{l:Nat}{ds:List MV}(hS:S[l]? =some (.lst ds)):stay [(l,ds)] S:=λp hp=>by
 have:p=(l,ds):=by simpa using hp
 subst this;exact hS
theorem zSE{j:Int}(h: -(2 ^ 62)<=j/\j<2 ^ 62):jK [.val (.int j)] S=.ok ⟨(List.range j.toNat).map λk=>.int (k:Nat),[]⟩ S:=iP h
theorem cut_str{x:List Nat}(h:x.length<=sizeLine)(lo hi:Option Int):zDX (.val (.str x)) lo hi S=.ok (.val (.str (gT x lo hi))) S:=iP h
theorem yFH{α:Type}(x:List α)(lo hi:Option Int):(gT x lo hi).length<=x.length:=by
 unfold gT
 rw [lT,length_drop]
 omega
theorem yFI{α:Type}{x:List α}{lo hi:Option Int}{a:α}(h:a∈gT x lo hi):a∈x:=List.mem_of_mem_drop (mem_of_mem_take h)
theorem zCS{α:Type}(x:List α)(k:Int)(h0:0<=k):gT x none (some k)=x.take k.toNat:=by
 unfold gT
 have h1:HT.sIx x.length 0 none=0:=rfl
 rw [h1]
 have h2:HT.sIx x.length x.length (some k)=min k.toNat x.length:=by
  unfold HT.sIx
  simp only
  split<;>omega
 rw [h2,drop_zero,sub_zero]
 by_cases hk:k.toNat<=x.length
 ·rw [min_eq_left hk]
 ·rw [Nat.min_eq_right (by omega),List.take_length,take_of_length_le (by omega)]
theorem fits{n:Nat}(h:n<=1000000):n<=sizeLine:=by rw [sizeLine_eq];exact le_trans h (by decide)
theorem zFZ{rs:List Er}(h:rs.length<=1000000):cL rs S=.ok (.new (zP rs S).1) (zP rs S).2:=iP (fits h)
theorem zSF{rs:List Er}(h:rs.length<=1000000):zAU rs S=.ok (.val (.tup (zP rs S).1)) (zP rs S).2:=iP (fits h)
theorem lst0(S:Sto):cL [] S=.ok (.new []) S:=zFZ (by simp)
theorem lst1(a:MV)(S:Sto):cL [.val a] S=.ok (.new [a]) S:=zFZ (by simp)
theorem lst2(a b:MV)(S:Sto):cL [.val a,.val b] S=.ok (.new [a,b]) S:=zFZ (by simp)
theorem lst3(a b c:MV)(S:Sto):cL [.val a,.val b,.val c] S=.ok (.new [a,b,c]) S:=zFZ (by simp)
theorem lst6(a b c d e f:MV)(S:Sto):cL [.val a,.val b,.val c,.val d,.val e,.val f] S=.ok (.new [a,b,c,d,e,f]) S:=zFZ (by simp)
theorem tup2(a b:MV)(S:Sto):zAU [.val a,.val b] S=.ok (.val (.tup [a,b])) S:=zSF (by simp)
theorem tup3(a b c:MV)(S:Sto):zAU [.val a,.val b,.val c] S=.ok (.val (.tup [a,b,c])) S:=zSF (by simp)
theorem yPW(i:Int)(S:Sto):yCK [.val (.int i),.val (.typ "str")] S=.ok (.val (.bl false)) S:=rfl
theorem yPX(i:List Nat)(S:Sto):yCK [.val (.str i),.val (.typ "str")] S=.ok (.val (.bl true)) S:=rfl
theorem yPY(i:Int)(S:Sto):yCK [.val (.int i),.val (.typ "tuple")] S=.ok (.val (.bl false)) S:=rfl
theorem yPZ(i:List Nat)(S:Sto):yCK [.val (.str i),.val (.typ "tuple")] S=.ok (.val (.bl false)) S:=rfl
theorem yQA(i:List MV)(S:Sto):yCK [.val (.tup i),.val (.typ "tuple")] S=.ok (.val (.bl true)) S:=rfl
theorem yQB(i:Bool)(S:Sto):yCK [.val (.bl i),.val (.typ "bool")] S=.ok (.val (.bl true)) S:=rfl
theorem zNI{gf:MV->Rho->Sto->R Rho}{cf:AZ}{ef:AX}{ρb:Rho}{gs:List (Nat×List MV)}{P:MV->Prop}(hs:stay gs S):
  ∀{ds:List MV},(∀d∈ds, ∃ρ1 y,gf d ρb S=.ok ρ1 S/\cf ρ1 S=.ok true S/\ef ρ1 S=.ok (.val y) S/\P y)-> ∃out,yY gf cf ef ρb gs ds S=.ok out S/\out.length=ds.length/\ ∀o∈out,P o
 |[],_=>⟨[],rfl,rfl,λo h=>by simp at h⟩
 |d::ds,st=>by
  obtain⟨ρ1,y,h1,h2,h3,h4⟩:=st d mF0
  obtain⟨out,e,hl,hp⟩:=zNI hs (ds:=ds) λd hd=>st d (mO _ hd)
  refine⟨y::out,?_,by rw [lC,lC,hl],λo ho=>(mC.mp ho).elim (λz=>z▸h4) (hp o)⟩
  unfold yY
  rw [h1,xC,bok,h2,xC,bok,iP rfl,h3,xC,bok]
  unfold nN
  rw [bok,iP hs,e]
  rfl
def Nm(x:List Nat):Prop:=1<=x.length/\x.length<=8/\ ∀c∈x,97<=c/\c<=122
def Vl:MV->Prop
 |.int i=> -(10 ^ 30)<i/\i<10 ^ 30
 |.str x=>Nm x
 |_=>False
theorem Vl.cases{d:MV}(h:Vl d):(∃i,d=.int i/\ -(10 ^ 30)<i/\i<10 ^ 30)\/ ∃x,d=.str x/\Nm x:=by
 cases d with
 |int i=>exact .inl ⟨i,rfl,h⟩
 |str x=>exact .inr ⟨x,rfl,h⟩
 |_=>exact h.elim
end
def Ite(K:PySem.W.Frag)(k:Bool)(l:Addr):It:=
 ⟨λi H=> ∃xs x,SqK k K H l xs/\xs[i]? =some x,
   λi H v H'=> ∃p x,H p=none/\v=.ref p/\H'=upd H p (.tup [.int (i:Nat),x])/\(∀xs,SqK k K H l xs->xs[i]? =some x),
   λi H=> ∃xs,SqK k K H l xs/\xs.length<=i⟩
section
variable{prog:Program}{w:World}{A:Around}{E:VP}{s:Shared}{k:Bool}{e it l:Addr}{i:Nat}{its:Array Value}
theorem yCM(hl:zLE k s.heap l its){Q:VP}
  (h: ∀h',EnSt k (s.heap.objs.size+1) s.heap.objs.size l 0 h'->(∀c o,s.heap.get? c=some o->h'.get? c=some o)->Q (.ref (s.heap.objs.size+1)) {s with heap:=h'}):
  wpAny (model prog w) A (call (.type "enumerate") [.ref l]) Q E s:=by
 refine callType_new F.called_enumerate (by decide) (F.typeCall_enumerate_1 _) (F.newCall_enumerate_1 _) (λobj=>F.args_object_init_2 obj _) F.entry_enumerate_new (zXT k l its) ⟨hl,?_⟩
 have hz:(s.heap.push (zJW k l)).objs.size=s.heap.objs.size+1:=Heap.size_push ..
 show _/\_
 have he:IsEnum ((s.heap.push (zJW k l)).push {cls:=.type "enumerate",data:=.fields #[.none,.bool false,.ref s.heap.objs.size,rawInt 0,.none,.none]}) (s.heap.objs.size+1) s.heap.objs.size 0 .none:=by
  have:=Heap.get?_push_size (s.heap.push (zJW k l)) (o:={cls:=.type "enumerate",data:=.fields #[.none,.bool false,.ref s.heap.objs.size,rawInt 0,.none,.none]}) rfl
  rw [hz]at this;exact this
 refine⟨⟨_,he,rfl⟩,h _ ⟨⟨.none,he⟩,IsSub.mk' (hP0 _ (Heap.get?_push_size _ rfl))⟩ λb o x=>hP0 _ (hP0 _ x)⟩
end
theorem yCN{P:Program}{w:World}{K:PySem.W.Frag}{elts:List Expr}{kt:Nat}{pt:Pos}{k:Bool}{e it l:Addr}(hne:e≠it):
  Turn P w K (.Tuple elts kt pt) (Ite K k l) [e,it] e (λi h=>EnSt k e it l i h) where
 mem:=by simp
 obj:=λi h st b hb=>by
  obtain⟨⟨old,he⟩,hs⟩:=st
  have hb':b=e\/b=it:=by simpa using hb
  rcases hb' with rfl|rfl
  ·exact⟨_,he,λv q=>by cases q⟩
  ·exact hs.there
 keep:=λi h h' st kk=>by
  obtain⟨⟨old,he⟩,hs⟩:=st
  exact⟨⟨old,kk e (by simp) _ he⟩,hs.move λo q=>kk it (by simp) o q⟩
 item:=by
  intro X hP hw hK hc i pins s σ H E I hf st hg
  subst hP hw hK
  obtain⟨xs,x,q1,hx⟩:=hg
  obtain⟨its,r1,p1,_⟩:=I.seqK q1
  obtain⟨u,hu,ru⟩:=r1.get hx
  obtain⟨⟨old,he⟩,hs⟩:=st
  have hT:s.TypeIs (.ref e) "enumerate":=⟨_,he,rfl⟩
  unfold pyNext
  refine wB0 (wpAny_attempt (wpAny_callSpecial?_slot (name:=Str.ofString "__next__") hT F.slot_enumerate_next (wpAny_call_entry F.slot_enumerate_next hT F.entry_enumerate_next
   (yKB he hs p1 (x:=u) (by simpa using hu) hne λh' a1 a2 a3 a4=>wP0 ⟨_,rfl,?_⟩) (F.args_enumerate_next_1 _))))
  refine wpAny_letOwnedTupleGo_enum a1 λh2 z2 sb2=>?_
  have hpn:H s.heap.objs.size=none:=I.hok.fresh (le_refl _)
  have I0:Inv X pins σ (upd H s.heap.objs.size (.tup [.int (i:Nat),x])) {s with heap:=s.heap.push {cls:=.type "tuple",data:=.seq #[.int i s.toks,u]},toks:=s.toks+1}:=
   I.laid (t':=s.toks+1) (o:=.tup [.int (i:Nat),x]) (λb o e=>hP0 _ e) (le_refl _) ⟨by show 2<=sizeLine;decide,[.int i s.toks,u],.cons ⟨_,rfl⟩ (.cons ru .nil),⟨_,Heap.get?_push_size _ rfl,rfl,_,rfl⟩⟩
  have lt: ∀b∈[e,it],b<s.heap.objs.size:=λb hb=>by
   have hb':b=e\/b=it:=by simpa using hb
   rcases hb' with rfl|rfl
   ·exact Heap.lt_size he
   ·obtain⟨o,eo,_⟩:=hs.there;exact Heap.lt_size eo
  have fr: ∀b∈[e,it],upd H s.heap.objs.size (.tup [.int (i:Nat),x]) b=none:=λb hb=>by rw [zS (ne_of_lt (lt b hb))];exact(hf b hb).1
  have mv: ∀b o,b∉[e,it]->(s.heap.push {cls:=.type "tuple",data:=.seq #[.int i s.toks,u]}).get? b=some o->h2.get? b=some o:=λb o hb eo=>by
   simp only [mC,not_mem_nil,or_false,not_or]at hb
   refine sb2.extBut _ _ hb.1 ?_
   by_cases hbs:b=s.heap.objs.size
   ·subst hbs
    rw [Heap.get?_push_size _ rfl]at eo
    cases eo
    exact a3
   ·rw [Heap.get?_push_ne _ _ _ hbs]at eo
    exact a4 b o hb.1 hb.2 eo
  have I2:=I0.turnedL (h':=h2) (t':=s.toks+1) mv λb hb=>let ⟨_,c2,c3,c4,c5,c6⟩:=hf b hb;⟨fr b hb,c2,c3,c4,c5,c6⟩
  refine⟨.ref s.heap.objs.size,_,I2,rfl,⟨s.heap.objs.size,x,hpn,rfl,rfl,λzs hz=>?_⟩,⟨⟨u,?_⟩,?_⟩,fr⟩
  ·rw [I.seqK_inj hz q1];exact hx
  ·simpa using z2
  ·exact a2.move λo eo=>sb2.extBut _ _ (Ne.symm hne) eo
 done:=by
  intro X hP hw hK hc i pins s σ H E I hf st hg
  subst hP hw hK
  obtain⟨xs,q1,hx⟩:=hg
  obtain⟨its,r1,p1,_⟩:=I.seqK q1
  obtain⟨⟨old,he⟩,hs⟩:=st
  have hT:s.TypeIs (.ref e) "enumerate":=⟨_,he,rfl⟩
  have e1:=r1.length
  unfold pyNext
  refine wB0 (wpAny_attempt (wpAny_callSpecial?_slot (name:=Str.ofString "__next__") hT F.slot_enumerate_next (wpAny_call_entry F.slot_enumerate_next hT F.entry_enumerate_next ?_ (F.args_enumerate_next_1 _))))
  show wpAny _ _ (field (.ref e) 2 >>= _) _ _ _
  refine wB0 (wpAny_field he rfl (x:=.ref it) rfl ?_)
  refine wB0 (yJZ (I.ok.hd hc) hs p1 (by simp;omega) λh' x hk hx'=>?_)
  obtain⟨o,ho,hcl⟩:=hx'
  refine wB0 (wpAny_isInstance (T:="StopIteration") (b:=true) ⟨o,ho,hcl⟩ isSubtype_stop (wP0 ⟨rfl,?_⟩))
  refine I.turnedL (h':=h') (t':=s.toks) (λb o hb eo=>?_) hf
  simp only [mC,not_mem_nil,or_false,not_or]at hb
  exact hk b o hb.2 eo
 self:=λ_ _ _ _ _ st h=>let ⟨⟨_,he⟩,_⟩:=st;wpAny_pyIter_enum he h
def iEnum(K:PySem.W.Frag)(ta:TA):TI:=λσ H R=>ta σ H λvs H1=> ∃k l,vs=[.ref l]/\(∃xs,SqK k K H1 l xs)/\R (Ite K k l) H1
section
variable{X:Cx}{W:XW}{a:Expr}{elts:List Expr}{kt:Nat}{pt p pos:Pos}{ta:TA}{af:Rho->Sto->R (List Er)}
theorem yKO(hg:Gl X "enumerate")(hm:X.mg "enumerate"=none)(ha:PA X [a] ta)(hs:starEach [a] X.env=[(false,eval a X.env)]:=by rfl):
  PI X (.Tuple elts kt pt) (.Call (.Name "enumerate" p) [a] [] pos) (iEnum X.K ta):=by
 intro pins s σ H R I h
 refine Call_ (zRK I hg hm yKA (PyProof.Rows.callWith_type1 (thn (ha pos pins s σ H _ I h) λus s1 ⟨vs,H1,I1,r1,q1⟩=>?_) (by rw [hs];rfl) (by rfl)))
 obtain⟨k,l,rfl,⟨xs,c1⟩,q⟩:=q1
 cases r1 with
 |cons r rr=>
  cases rr
  cases r
  obtain⟨its,v1,p1,_⟩:=I1.seqK c1
  refine yCM p1 λh' st hk=>let ⟨⟨_,he⟩,_⟩:=id st;wpAny_pyIter_enum he ?_
  have I2:Inv X pins σ H1 {s1 with heap:=h'}:=I1.kept (t':=s1.toks) hk
  refine⟨_,_,_,_,H1,rfl,I2,yCN (ne_of_gt (Nat.lt_succ_self _)),st,λb hb=>?_,q⟩
  have hle:s1.heap.objs.size<=b:=by
   have hb':b=s1.heap.objs.size+1\/b=s1.heap.objs.size:=by simpa using hb
   rcases hb' with h|h<;>rw [h]<;>(first |exact le_refl _|exact Nat.le_add_right _ _)
  exact I1.fpOk hle (I1.hok.fresh hle)
def zUY(xs:List MV):List MV:=xs.zipIdx.map λp=>.tup [.int (p.2:Nat),p.1]
def itE(rs:List Er)(S:Sto):R Wk:=match rs with
 |[p]=>match srcOf S p with
  |some a=>.ok ⟨zUY a.ds,a.gs⟩ S
  |none=>.no
 |_=>.no
theorem yKP(hg:Gl X "enumerate")(hm:X.mg "enumerate"=none)(ha:PAm X W [a] af)(hs:starEach [a] X.env=[(false,eval a X.env)]:=by rfl):
  PIm X W (.Tuple elts kt pt) (.Call (.Name "enumerate" p) [a] [] pos) (λρ S=>(af ρ S).bind itE):=by
 obtain⟨t,ha,k⟩:=ha
 refine⟨_,yKO hg hm ha hs,λα ρ S σ H Rc wd sl q=>k α ρ S σ H _ wd sl (q.bind λvs rs S1 α1 H1 e x1 w1 d1 q1=>?_)⟩
 replace q1:=q1.shift x1
 unfold itE at q1
 split at q1
 ·rename_i r1
  split at q1
  ·rename_i s1 e1
   obtain⟨u,rfl,du⟩:=zYZ d1
   obtain⟨l1,P1,rfl,p1,D1⟩:=yEY w1 e1 du
   have g1:=D1.get _ _ _ p1
   have hlen:(zUY s1.ds).length=s1.ds.length:=by unfold zUY;rw [lM,List.length_zipIdx]
   refine⟨s1.k,l1,rfl,⟨_,g1.choose_spec.1⟩,q1.here (u:=Ite X.K s1.k l1) w1 ⟨λα S H=>P1 α S H,?_,p1,?_,?_⟩⟩
   ·intro i α2 S2 H2 b1 w2
    obtain⟨us,c1,c2⟩:=D1.get _ _ _ b1
    have hl:=c2.length
    refine⟨λhi=>?_,λhi=>?_⟩
    ·have hi:i<(zUY s1.ds).length:=hi
     have h1:i<us.length:=by omega
     refine⟨⟨us,us[i],c1,gE0 h1⟩,?_⟩
     rintro x H' ⟨pp,xx,hp,rfl,rfl,hx⟩
     obtain⟨d,hd,dd⟩:=c2.get (hx us c1)
     have xn:=w2.newx (o:=.tup [.int (i:Nat),xx]) hp
     have wn:=w2.new (o:=.tup [.int (i:Nat),xx]) hp
     refine⟨xn,wn,D1.stays _ _ _ _ _ _ b1 xn wn (D1.st _ _ _ b1),.tup [.int (i:Nat),d],?_,?_⟩
     ·unfold zUY;rw [getElem?_map,List.getElem?_zipIdx,hd];simp
     ·exact zEM (.of yW) (yG (xB _) (yG (dd.ext xn) yK))
    ·have hi:(zUY s1.ds).length<=i:=hi
     exact⟨us,c1,by omega⟩
   ·intro α1 S1 H1 α2 S2 H2 b1 x w hs
    exact D1.stays _ _ _ _ _ _ b1 x w hs
   ·exact D1.st _ _ _ p1
  ·exact q1.elim
 ·exact q1.elim
end
noncomputable instance:DecidableEq MV:=λ_ _=>Classical.propDecidable _
noncomputable def look(kvs:List (MV×MV))(k:MV):Option MV:=(kvs.find? λp=>decide (p.1=k)).map (·.2)
noncomputable def zNJ(kvs:List (MV×MV))(k d:MV):List (MV×MV):=if(look kvs k).isSome=true then kvs.map (λp=>if p.1=k then(p.1,d)else p)else kvs++[(k,d)]
section
variable{X:Cx}{pins:List (Addr×Obj)}{σ:St}{H:Hp}{s:Shared}{α:List Addr}
theorem zQI(p:MV×MV)(kvs:List (MV×MV))(k:MV):look (p::kvs) k=if p.1=k then some p.2 else look kvs k:=by
 unfold look
 rw [find?_cons]
 by_cases h:p.1=k
 ·rw [dT0 h,iP h];rfl
 ·rw [dF0 h,iN h]
end
section
variable{X:Cx}{W:XW}{a b o i:Expr}{f g:AX}{pos:Pos}
theorem zXV{pins:List (Addr×Obj)}{σ:St}{H:Hp}{s:Shared}(I:Inv X pins σ H s):sysModules<s.heap.objs.size:=lt_trans (by decide) ((I.mod.glob.keeps I.bk).lt)
theorem Wd.put{gg:Gm}{α:List Addr}{S:Sto}{H:Hp}{p:Addr}{ho:HO}{m:MO}(w:Wd gg α S H)(hp:H p=none)(q:ObD gg (α++[p]) (upd H p ho) p m):Ext α H (α++[p]) (upd H p ho)/\Wd gg (α++[p]) (S++[m]) (upd H p ho):=by
 have x:=w.newx (o:=ho) hp
 have nw:=w.new (o:=ho) hp
 have np:=w.fresh hp
 refine⟨⟨⟨⟨[p],rfl⟩,x.tup,x.frz⟩,λb hb=>?_,x.keep,x.has⟩,⟨?_,?_,λl c ob h1 h2=>?_⟩⟩
 ·rcases mem_append.mp hb with h|h
  ·exact .inl h
  ·rw [mS.mp h];exact .inr hp
 ·rw [lA,lA,w.len];rfl
 ·exact nodup_append.mpr ⟨w.nd,by simp,λa ha c hc=>by rw [mS.mp hc];rintro rfl;exact np ha⟩
 ·by_cases hl:l<α.length
  ·rw [getElem?_append_left hl]at h1
   rw [getElem?_append_left (by rw [<-w.len];exact hl)]at h2
   exact(nw.obj l c ob h1 h2).move (Ex0.grow α [p] _) rfl
  ·have hl':l=α.length:=by
    have:=(gS0.mp h1).1
    rw [lA,lS]at this
    omega
   subst hl'
   rw [getElem?_append_right (le_refl _),sub_self]at h1
   rw [getElem?_append_right (by rw [w.len];exact le_refl _),w.len,sub_self]at h2
   cases h1;cases h2
   exact q
def zUZ(S:Sto):R Er:=.ok (.val (.loc S.length)) (S++[.dic []])
theorem zNK:PEm X W (.Dict [] [] pos) (λ_ S=>zUZ S):=by
 refine⟨λσ H Q=> ∀p,H p=none->Q (.ref p) (upd H p (.dK [])),λpins s σ H Q I h=>?_,λα ρ S σ H Q wd sl q p hp=>?_⟩
 ·exact wpAny_Dict_empty ⟨.ref s.heap.objs.size,_,I.laid (a:=s.heap.objs.size) (o:=.dK []) (t':=s.toks) (λ_ _ q=>hP0 _ q) (le_refl _)
   ⟨zero_le _,beq_eq_false_iff_ne.mpr (Ne.symm (ne_of_lt (zXV I))),[],.nil,Heap.DictOf.new s.heap⟩,rfl,h _ (I.hok.fresh (le_refl _))⟩
 ·obtain⟨x,w'⟩:=wd.put (ho:=.dK []) (m:=.dic []) hp (.inl ⟨[],yW,.nil⟩)
  exact q (.ref p) (α++[p]) _ x w' (DenE.val (zGY (by rw [<-wd.len,getElem?_append_right (le_refl _),sub_self];rfl)))
theorem DenN.length{α:List Addr}{H:Hp}: ∀{kvs xs},DenN X.K α H kvs xs->xs.length=kvs.length
 |_,_,.nil=>rfl
 |_,_,.cons _ _ _ _ _ l=>by rw [lC,lC,DenN.length l]
end
def FsD(g:Gm)(α:List Addr)(H:Hp)(d:Option Addr)(fs:List (Str×MV)):Prop:=fs=[]\/ ∃dx gs od,d=some dx/\H dx=some (.frz od (.xd gs))/\DenF g.K α H fs gs
abbrev WE(g:Gm)(E:XK):XW:=λc fs _ α H=> ∀C d,g.mg c=some (.ref C)->FsD g α H d fs->E (.ref C) d H
def yQC:MV->Bool
 |.non=>true
 |.bl _=>true
 |.int _=>true
 |.str _=>true
 |_=>false
theorem Post.wmono{β τ:Type}[Dn β τ]{g:Gm}{W W':XW}{α:List Addr}{H:Hp}(f: ∀c fs S α' H',W c fs S α' H'->W' c fs S α' H'): ∀{m:R β}{Q:τ->Hp->Prop},Post g W α H m Q->Post g W' α H m Q
 |.ok b S,Q,q=>q
 |.exc c fs S,_,q=>λα' H' x w=>f _ _ _ _ _ (q α' H' x w)
 |.no,_,q=>q
def XCl(K:PySem.W.Frag)(C:Addr)(bm:List Value)(init:Option Value):Prop:=
 ∃nm q N bs hd sn sub ab col dd k0 k1 k2 k3 k5,K.lookup C=some (excClassObj nm q C N bs bm hd sn sub ab col dd k0 k1 k2 k3 k5 "ValueError.__new__")/\PySem.W.nsOkIn K N=true/\PySem.W.nsIn K N "__init__"=some init/\(∀n∈qn,PySem.W.nsIn K N n=some none)/\hd=true
def XEach(K:PySem.W.Frag)(mg:Str->Option Value)(M:Addr):List (Str×Addr)->Prop
 |[]=>True
 |(c,C)::r=>(mg c=some (.ref C)/\ ∃i,XCl K C (.ref M::bmV) i)/\XEach K mg M r
theorem XEach.at{K:PySem.W.Frag}{mg:Str->Option Value}{M:Addr}: ∀{cs:List (Str×Addr)},XEach K mg M cs-> ∀{c C},(c,C)∈cs->mg c=some (.ref C)/\ ∃i,XCl K C (.ref M::bmV) i
 |(c,C)::r,h,c',C',z=>by
  rcases mC.mp z with z|z
  ·cases z;exact h.1
  ·exact XEach.at h.2 z
def spX(g:Gm)(n:Nat)(F:List MV->Sto->R Er):Sp:=λvs H Q E=> ∃α S ds,Wd g α S H/\DenL g.K α H ds vs/\ds.length=n/\Post g (WE g E) α H (F ds S) Q
noncomputable def zZJ(n:Nat)(F:List MV->Sto->R Er)(rs:List Er)(S:Sto):R Er:=if rs.length=n then(match F (zP rs S).1 (zP rs S).2 with
 |.ok r S2=>dZ S r S2
 |.exc c fs S2=>if fs.all (λp=>yQC p.2)=true then(dZ S (.val .non) S2).bind λ_ S3=>.exc c fs S3 else .no
 |.no=>.no)else .no
section
variable{P:Program}{w:World}{K:PySem.W.Frag}{mg:Str->Option Value}{base:Heap}
theorem _root_.L2.FnOk.noX{k n:Nat}{f:Addr}{fd:FuncData}{ps:List Str}{g:Gm}{F:List MV->Sto->R Er}(G:FnOk P w K mg base (CXe P w) k f fd ps (spX g n F)):FnOk P w K mg base CX0 k f fd ps (spM g n F):=by
 have up: ∀{vs H Q}, ∀{E},spM g n F vs H Q E->spX g n F vs H Q E0:=λ⟨α,S,ds,h1,h2,h3,h4⟩=>⟨α,S,ds,h1,h2,h3,h4.wmono λ_ _ _ _ _ z=>z.elim⟩
 refine⟨λvs H Q E h=>G.len vs H Q E0 (up h),λA outer s H args us vs Q E hr e0 hb hv h=>codeAny_mono (G.run A outer s H args us vs Q E0 hr e0 hb hv (up h)) λr s' hq=>?_⟩
 cases r with
 |error e=>
  obtain⟨_,_,_,_,_,_,_,_,_,_,_,_,_,_,_,z⟩:=hq
  exact z
 |ok fl=>cases fl<;>exact hq
end
end M
end L2
namespace L2
open PySem PySem.Spec PyProof.Rows
structure Out(X:Cx)(pins:List (Addr×Obj))(H:Hp)(s:Shared)(b:Addr):Prop where
 s0:X.s₀.heap.get? b=none
 h:H b=none
 pin: ∀p∈X.pn++pins,p.1≠b
 fld: ∃o vs,s.heap.get? b=some o/\o.data=.fields vs
section
variable{X:Cx}{pins:List (Addr×Obj)}{σ:St}{H:Hp}{s:Shared}{e T b:Addr}{h':Heap}
theorem Out.ne(o:Out X pins H s b){c:Addr}{oc:Obj}(hc:s.heap.get? c=some oc)(nf: ∀vs,oc.data≠.fields vs):c≠b:=λz=>by
 obtain⟨ob,vs,h1,h2⟩:=o.fld
 rw [z,h1]at hc;cases hc
 exact nf vs h2
theorem Out.loc(o:Out X pins H s b)(I:Inv X pins σ H s):X.env.locals≠b:=by
 obtain⟨m,⟨oL,es,ep,h1,h2,_⟩,_⟩:=I.loc
 exact o.ne h1 λvs z=>by rw [h2]at z;cases z
end
end L2
namespace L2
namespace M
open PySem PySem.Spec PyProof.Rows
def endF(i:Nat):Fl->Sto->R Fl
 |.next ρ,S=>.ok (.next (ρ.set i none)) S
 |.ret r,S=>.ok (.ret r) S
 |.brk ρ,S=>.ok (.brk (ρ.set i none)) S
 |.cont ρ,S=>.ok (.cont (ρ.set i none)) S
def tryF(ns:List Str)(i:Nat)(kn:Er->Sto->R Fl)(Fh:AY)(ρ:Rho):R Er->R Fl
 |.ok r S=>kn r S
 |.exc c fs S=>if c∈ns then(noX (Fh (ρ.set i (some (.loc S.length))) (S++[.ins c fs]))).bind (endF i)else .no
 |.no=>.no
end M
end L2
namespace Srt
open PySem PyProof.Rows
def zAV:Bool->Keyed->Array Keyed->Nat->Nat->Nat->StateT SortSt Sem (Option Nat):=sortPriv% PySem.Builtin.gallop
def kC:Nat->StateT SortSt Sem Unit:=sortPriv% PySem.Builtin.setMinGallop
def zNL:Array Keyed->Array Keyed->StateT SortSt Sem (Array Keyed):=sortPriv% PySem.Builtin.mergeLo
def zNM:Array Keyed->Array Keyed->StateT SortSt Sem (Array Keyed):=sortPriv% PySem.Builtin.mergeHi
section
variable{M:Model}{A:Around}{E:VP}{s:Shared}{σ:Type}
theorem yKQ{x:σ}{Q:PUnit->σ->Prop}{st:σ}(h:Q ⟨⟩ x):wpS M A E s (set x:StateT σ Sem PUnit) Q st:=by
 unfold wpS;rw [StateT.run_set];exact wP0 ⟨rfl,h⟩
theorem zED{x:String}{Q:Unit->σ->Prop}{st:σ}(h:Q () st):wpS M A E s (liftM (rule x):StateT σ Sem Unit) Q st:=wpS_lift (wpAny_rule ⟨rfl,h⟩)
end
end Srt
set_option autoImplicit false
namespace Srt
variable{β:Type}{le:β->β->Prop}
structure Two(le:β->β->Prop)(T out xs ys:List β):Prop where
 hx:(out++xs).Pairwise le
 hy:(out++ys).Pairwise le
 pm:(out++(xs++ys)).Perm T
theorem Two.movexs{T out zs xs ys:List β}(h:Two le T out (zs++xs) ys)(hl: ∀z,z∈zs-> ∀y,y∈ys->le z y):Two le T (out++zs) xs ys:=by
 refine⟨by simpa only [aA]using h.hx,?_,by simpa only [aA]using h.pm⟩
 have a:=pairwise_append.mp h.hx
 have b:=pairwise_append.mp h.hy
 have c:=pairwise_append.mp a.2.1
 refine pairwise_append.mpr ⟨pairwise_append.mpr ⟨a.1,c.1,λx hx y hy=>a.2.2 x hx y (mem_append_left _ hy)⟩,b.2.1,λx hx y hy=>?_⟩
 cases mem_append.mp hx with
 |inl q=>exact b.2.2 x q y hy
 |inr q=>exact hl x q y hy
theorem Two.swap{T out xs ys:List β}(h:Two le T out xs ys):Two le T out ys xs:=
 ⟨h.hy,h.hx,(List.Perm.append_left out List.perm_append_comm).trans h.pm⟩
theorem Two.moveys{T out zs xs ys:List β}(h:Two le T out xs (zs++ys))(hl: ∀z,z∈zs-> ∀x,x∈xs->le z x):Two le T (out++zs) xs ys:=
 (h.swap.movexs hl).swap
theorem Two.fin{T out xs ys:List β}(h:Two le T out xs ys)(hl: ∀x,x∈xs-> ∀y,y∈ys->le x y):(out++xs++ys).Pairwise le/\(out++xs++ys).Perm T:=by
 have a:=pairwise_append.mp h.hx
 have b:=pairwise_append.mp h.hy
 refine⟨pairwise_append.mpr ⟨h.hx,b.2.1,λx hx y hy=>?_⟩,by rw [aA];exact h.pm⟩
 cases mem_append.mp hx with
 |inl q=>exact b.2.2 x q y hy
 |inr q=>exact hl x q y hy
structure TwoR(le:β->β->Prop)(T xs ys R:List β):Prop where
 hx:(xs++R).Pairwise le
 hy:(ys++R).Pairwise le
 pm:(xs++ys++R).Perm T
theorem TwoR.swap{T R xs ys:List β}(h:TwoR le T xs ys R):TwoR le T ys xs R:=
 ⟨h.hy,h.hx,(List.Perm.append_right R List.perm_append_comm).trans h.pm⟩
theorem TwoR.moveys{T R zs xs ys:List β}(h:TwoR le T xs (ys++zs) R)(hl: ∀x,x∈xs-> ∀z,z∈zs->le x z):TwoR le T xs ys (zs++R):=by
 refine⟨?_,by simpa only [aA]using h.hy,by simpa only [aA]using h.pm⟩
 have a:=pairwise_append.mp h.hx
 have b:=pairwise_append.mp h.hy
 have c:=pairwise_append.mp b.1
 refine pairwise_append.mpr ⟨a.1,pairwise_append.mpr ⟨c.2.1,a.2.1,λz hz y hy=>b.2.2 z (mem_append_right _ hz) y hy⟩,λx hx y hy=>?_⟩
 cases mem_append.mp hy with
 |inl q=>exact hl x hx y q
 |inr q=>exact a.2.2 x hx y q
theorem TwoR.movexs{T R zs xs ys:List β}(h:TwoR le T (xs++zs) ys R)(hl: ∀y,y∈ys-> ∀z,z∈zs->le y z):TwoR le T xs ys (zs++R):=
 (h.swap.moveys hl).swap
theorem TwoR.fin{T R xs ys:List β}(h:TwoR le T xs ys R)(hl: ∀x,x∈xs-> ∀y,y∈ys->le x y):(xs++ys++R).Pairwise le/\(xs++ys++R).Perm T:=by
 have a:=pairwise_append.mp h.hx
 have b:=pairwise_append.mp h.hy
 refine⟨pairwise_append.mpr ⟨pairwise_append.mpr ⟨a.1,b.1,hl⟩,a.2.1,λx hx y hy=>?_⟩,h.pm⟩
 cases mem_append.mp hx with
 |inl q=>exact a.2.2 x q y hy
 |inr q=>exact b.2.2 x q y hy
theorem zNN(l:List β)(i k:Nat):l.drop i=(l.drop i).take k++l.drop (i+k):=by
 rw [<-List.drop_drop,take_append_drop]
theorem zVA(l:List β)(i k:Nat)(h:i<=k):l.take k=l.take i++(l.take k).drop i:=by
 have:=take_append_drop i (l.take k)
 rw [List.take_take,min_eq_left h]at this
 exact this.symm
end Srt
set_option autoImplicit false
namespace Srt
open PySem PyProof.Rows
abbrev SM:=StateT SortSt Sem
noncomputable def bey(lf:Bool)(x:Keyed)(v:Array Keyed)(b i:Nat):SM (Option Bool):=
 elem' v (b+i) >>= λy=>if lf=true then lt' y x else lt' x y >>= λr=>pure (r.map λq=>!q)
abbrev G3:=Option (Option Nat)×Nat×Nat
noncomputable def gUp(f:Nat->SM (Option Bool))(n m h:Nat):SM G3:=
 forIn [0:n] ((none,0,1):G3) λ_ c=>
  if c.2.2>=m then pure (.done (none,c.2.1,c.2.2))else f (h+c.2.2) >>= λo=>match o with
   |some q=>if(!q)=true then pure (.done (none,c.2.1,c.2.2))else pure (.yield (none,c.2.2,2 * c.2.2+1))
   |_=>pure (.done (some none,c.2.1,c.2.2))
noncomputable def gDn(f:Nat->SM (Option Bool))(n m h:Nat):SM G3:=
 forIn [0:n] ((none,0,1):G3) λ_ c=>
  if c.2.2>=m then pure (.done (none,c.2.1,c.2.2))else f (h - c.2.2) >>= λo=>match o with
   |some q=>if q=true then pure (.done (none,c.2.1,c.2.2))else pure (.yield (none,c.2.2,2 * c.2.2+1))
   |_=>pure (.done (some none,c.2.1,c.2.2))
noncomputable def gBin(f:Nat->SM (Option Bool))(n lo hi:Nat):SM G3:=
 forIn [0:n] ((none,lo,hi):G3) λ_ c=>
  if c.2.1>=c.2.2 then pure (.done (none,c.2.1,c.2.2))else f (c.2.1+(c.2.2 - c.2.1) / 2) >>= λo=>match o with
   |some q=>if q=true then pure (.yield (none,c.2.1+(c.2.2 - c.2.1) / 2+1,c.2.2))else pure (.yield (none,c.2.1,c.2.1+(c.2.2 - c.2.1) / 2))
   |_=>pure (.done (some none,c.2.1,c.2.2))
noncomputable def gEnd(f:Nat->SM (Option Bool))(n lo hi:Nat):SM (Option Nat):=
 gBin f n lo hi >>= λc=>match c.1 with
  |some r=>pure r
  |none=>pure (some c.2.2)
noncomputable def gal(f:Nat->SM (Option Bool))(n h:Nat):SM (Option Nat):=
 f h >>= λo=>match o with
  |some q=>if q=true then gUp f n (n - h) h >>= λc=>(match c.1 with
     |some r=>pure r
     |none=>gEnd f n (h+c.2.1+1) (h+min c.2.2 (n - h)))
    else gDn f n (h+1) h >>= λc=>(match c.1 with
     |some r=>pure r
     |none=>gEnd f n (h+1 - min c.2.2 (h+1)) (h - c.2.1))
  |_=>pure none
theorem zNO(lf:Bool)(x:Keyed)(v:Array Keyed)(b n h:Nat):zAV lf x v b n h=gal (bey lf x v b) n h:=by kernel_rfl
section
variable{M:Model}{A:Around}{E:VP}{s:Shared}
def Tells(M:Model)(A:Around)(E:VP)(s:Shared)(st:SortSt)(f:Nat->SM (Option Bool))(p:Nat->Bool)(n:Nat):Prop:=
 ∀i,i<n-> ∀Q:Option Bool->SortSt->Prop,Q (some (p i)) st->wpS M A E s (f i) Q st
variable{st:SortSt}{f:Nat->SM (Option Bool)}{p:Nat->Bool}{n h:Nat}
theorem yQD{Q:G3->SortSt->Prop}(hf:Tells M A E s st f p n)(hh:h<n)(h0:p h=true)
  (hq: ∀l o,l<o->h+l<n->p (h+l)=true->(n - h<=o\/(h+o<n/\p (h+o)=false))->Q (none,l,o) st):
  wpS M A E s (gUp f n (n - h) h) Q st:=by
 unfold gUp
 refine wpS_forRange (I:=λx c st'=>st'=st/\ ∃l o,c=(none,l,o)/\x+1<=o/\l<o/\h+l<n/\p (h+l)=true) ?_ ?_ ⟨rfl,0,1,rfl,by omega,by omega,by omega,h0⟩
 ·rintro x c st' _ hx ⟨rfl,l,o,rfl,h1,h2,h3,h4⟩
  dsimp only
  by_cases hge:o>=n - h
  ·rw [iP hge];exact wpS_pure (hq l o h2 h3 h4 (.inl hge))
  ·rw [iN hge]
   refine wpS_bind (hf (h+o) (by omega) _ ?_)
   cases hp:p (h+o)with
   |false=>exact wpS_pure (hq l o h2 h3 h4 (.inr ⟨by omega,hp⟩))
   |true=>exact wpS_pure ⟨rfl,o,2 * o+1,rfl,by omega,by omega,by omega,hp⟩
 ·rintro c st' ⟨rfl,l,o,rfl,h1,h2,h3,h4⟩
  exact hq l o h2 h3 h4 (.inl (by omega))
theorem yQE{Q:G3->SortSt->Prop}(hf:Tells M A E s st f p n)(hh:h<n)(h0:p h=false)
  (hq: ∀l o,l<o->l<=h->p (h - l)=false->(h+1<=o\/(o<=h/\p (h - o)=true))->Q (none,l,o) st):
  wpS M A E s (gDn f n (h+1) h) Q st:=by
 unfold gDn
 refine wpS_forRange (I:=λx c st'=>st'=st/\ ∃l o,c=(none,l,o)/\x+1<=o/\l<o/\l<=h/\p (h - l)=false) ?_ ?_ ⟨rfl,0,1,rfl,by omega,by omega,by omega,h0⟩
 ·rintro x c st' _ hx ⟨rfl,l,o,rfl,h1,h2,h3,h4⟩
  dsimp only
  by_cases hge:o>=h+1
  ·rw [iP hge];exact wpS_pure (hq l o h2 h3 h4 (.inl hge))
  ·rw [iN hge]
   refine wpS_bind (hf (h - o) (by omega) _ ?_)
   cases hp:p (h - o)with
   |true=>exact wpS_pure (hq l o h2 h3 h4 (.inr ⟨by omega,hp⟩))
   |false=>exact wpS_pure ⟨rfl,o,2 * o+1,rfl,by omega,by omega,by omega,hp⟩
 ·rintro c st' ⟨rfl,l,o,rfl,h1,h2,h3,h4⟩
  exact hq l o h2 h3 h4 (.inl (by omega))
theorem zZK{Q:Option Nat->SortSt->Prop}{lo hi:Nat}(hf:Tells M A E s st f p n)(hm: ∀i j,i<=j->j<n->p j=true->p i=true)
  (h1:lo<=hi) (h2:hi<=n) (h3: ∀i,i<lo->p i=true) (h4: ∀i,hi<=i->i<n->p i=false)
  (hq: ∀r,r<=n->(∀i,i<r->p i=true)->(∀i,r<=i->i<n->p i=false)->Q (some r) st):
  wpS M A E s (gEnd f n lo hi) Q st:=by
 unfold gEnd gBin
 refine wpS_bind (wpS_mono (wpS_forRange (I:=λx c st'=>st'=st/\ ∃l r,c=(none,l,r)/\l<=r/\r<=n/\r - l<=n - x/\(∀i,i<l->p i=true)/\(∀i,r<=i->i<n->p i=false))
  (Q:=λc st'=>st'=st/\ ∃l r,c=(none,l,r)/\r<=n/\(∀i,i<r->p i=true)/\(∀i,r<=i->i<n->p i=false)) ?_ ?_ ⟨rfl,lo,hi,rfl,h1,h2,by omega,h3,h4⟩) ?_)
 ·rintro x c st' _ hx ⟨rfl,l,r,rfl,a1,a2,a3,a4,a5⟩
  dsimp only
  by_cases hge:l>=r
  ·rw [iP hge]
   have:l=r:=by omega
   subst this
   exact wpS_pure ⟨rfl,l,l,rfl,a2,a4,a5⟩
  ·rw [iN hge]
   refine wpS_bind (hf (l+(r - l) / 2) (by omega) _ ?_)
   cases hp:p (l+(r - l) / 2)with
   |true=>exact wpS_pure ⟨rfl,_,r,rfl,by omega,a2,by omega,λi hi=>hm i _ (by omega) (by omega) hp,a5⟩
   |false=>
    refine wpS_pure ⟨rfl,l,_,rfl,by omega,by omega,by omega,a4,λi hi1 hi2=>?_⟩
    cases hpi:p i with
    |false=>rfl
    |true=>rw [hm _ i hi1 hi2 hpi]at hp;cases hp
 ·rintro c st' ⟨rfl,l,r,rfl,a1,a2,a3,a4,a5⟩
  have:l=r:=by omega
  subst this
  exact⟨rfl,l,l,rfl,a2,a4,a5⟩
 ·rintro c st' ⟨rfl,l,r,rfl,a2,a4,a5⟩
  exact wpS_pure (hq r a2 a4 a5)
theorem yFJ{Q:Option Nat->SortSt->Prop}(hf:Tells M A E s st f p n)(hm: ∀i j,i<=j->j<n->p j=true->p i=true)(hh:h<n)
  (hq: ∀r,r<=n->(∀i,i<r->p i=true)->(∀i,r<=i->i<n->p i=false)->Q (some r) st):
  wpS M A E s (gal f n h) Q st:=by
 have hn: ∀i j,i<=j->j<n->p i=false->p j=false:=by
  intro i j h1 h2 h3
  cases hj:p j with
  |false=>rfl
  |true=>rw [hm i j h1 h2 hj]at h3;cases h3
 unfold gal
 refine wpS_bind (hf h hh _ ?_)
 cases hp:p h with
 |true=>
  refine wpS_bind (yQD hf hh hp λl o h1 h2 h3 h4=>?_)
  dsimp only
  refine zZK hf hm (by omega) (by omega) (λi hi=>hm i (h+l) (by omega) h2 h3) (λi h5 h6=>?_) hq
  rcases h4 with h4|⟨h4,h7⟩
  ·omega
  ·exact hn _ i (by omega) h6 h7
 |false=>
  refine wpS_bind (yQE hf hh hp λl o h1 h2 h3 h4=>?_)
  dsimp only
  refine zZK hf hm (by omega) (by omega) (λi hi=>?_) (λi h5 h6=>hn _ i h5 h6 h3) hq
  rcases h4 with h4|⟨h4,h7⟩
  ·omega
  ·exact hm i (h - o) (by omega) (by omega) h7
end
end Srt
set_option autoImplicit false
namespace Srt
open PySem PyProof.Rows
theorem gR{β:Type}{l:List β}{i:Nat}{z:β}(h:z∈l.drop i): ∃j,i+j<l.length/\l[i+j]? =some z:=by
 obtain⟨j,hj,e⟩:=mem_iff_getElem.mp h
 rw [length_drop]at hj
 refine⟨j,by omega,?_⟩
 rw [getElem_drop]at e
 rw [<-e,gE0 (by omega)]
theorem kU{β:Type}{l:List β}{i k:Nat}{z:β}(h:z∈(l.drop i).take k): ∃j,j<k/\i+j<l.length/\l[i+j]? =some z:=by
 obtain⟨j,hj,e⟩:=mem_iff_getElem.mp h
 rw [lT,length_drop]at hj
 refine⟨j,by omega,by omega,?_⟩
 rw [getElem_take,getElem_drop]at e
 rw [<-e,gE0 (by omega)]
theorem zGA{β:Type}{l:List β}{k:Nat}{z:β}(h:z∈l.take k): ∃j,j<k/\j<l.length/\l[j]? =some z:=by
 obtain⟨j,hj,e⟩:=mem_iff_getElem.mp h
 rw [lT]at hj
 refine⟨j,by omega,by omega,?_⟩
 rw [getElem_take]at e
 rw [<-e,gE0 (by omega)]
section
variable{M:Model}{A:Around}{E:VP}{s:Shared}
structure Cmp(M:Model)(A:Around)(E:VP)(s:Shared)(kd:SortKind)(D:Keyed->Prop)(lt:Keyed->Keyed->Bool):Prop where
 go: ∀x y,D x->D y-> ∀st:SortSt,kindOf st=kd-> ∀Q:Option Bool->SortSt->Prop,Q (some (lt x y)) st->wpS M A E s (lt' x y) Q st
 tr: ∀x y z,lt y x=false->lt z y=false->lt z x=false
 as: ∀x y,lt x y=true->lt y x=false
variable{kd:SortKind}{D:Keyed->Prop}{lt:Keyed->Keyed->Bool}
abbrev Le(lt:Keyed->Keyed->Bool)(x y:Keyed):Prop:=lt y x=false
theorem Cmp.rf(C:Cmp M A E s kd D lt)(x:Keyed):Le lt x x:=by
 show lt x x=false
 cases h:lt x x with
 |false=>rfl
 |true=>exact absurd h (by rw [C.as x x h];simp)
def SL(lt:Keyed->Keyed->Bool)(l:List Keyed)(b n:Nat):Prop:= ∀i j x y,i<=j->j<n->l[b+i]? =some x->l[b+j]? =some y->lt y x=false
theorem yM{st:SortSt}{v:Array Keyed}{i:Nat}{Q:Keyed->SortSt->Prop}{x:Keyed}(e:v.toList[i]? =some x)(h:Q x st):wpS M A E s (elem' v i) Q st:=by
 rw [elem'_eq]
 have:v[i]? =some x:=by rw [<-Array.getElem?_toList];exact e
 rw [this]
 exact wpS_pure h
theorem kL{v:Array Keyed}{i:Nat}(h:i<v.size): ∃x,v.toList[i]? =some x:=⟨v.toList[i]'(by simpa using h),gE0 _⟩
def pB(lt:Keyed->Keyed->Bool)(lf:Bool)(x:Keyed)(l:List Keyed)(b i:Nat):Bool:=(l[b+i]?).elim false λy=>if lf=true then lt y x else !lt x y
theorem tells(C:Cmp M A E s kd D lt){st:SortSt}(hk:kindOf st=kd){v:Array Keyed}(hD: ∀y,y∈v.toList->D y){x:Keyed}(hx:D x){b n:Nat}(hn:b+n<=v.size)(lf:Bool):
  Tells M A E s st (bey lf x v b) (pB lt lf x v.toList b) n:=by
 intro i hi Q hq
 obtain⟨y,hy⟩:=kL (v:=v) (i:=b+i) (by omega)
 have hDy:=hD y (mem_of_getElem? hy)
 unfold bey
 unfold pB at hq
 rw [hy]at hq
 refine wpS_bind (yM hy ?_)
 cases lf with
 |true=>exact C.go y x hDy hx st hk _ hq
 |false=>
  show wpS M A E s (lt' x y >>= λr=>pure (r.map λq=>!q)) Q st
  exact wpS_bind (C.go x y hx hDy st hk _ (wpS_pure hq))
theorem zSG(C:Cmp M A E s kd D lt){st:SortSt}(hk:kindOf st=kd){v:Array Keyed}(hD: ∀y,y∈v.toList->D y){x:Keyed}(hx:D x){b n h:Nat}(hn:b+n<=v.size)(hh:h<n)
  (hs:SL lt v.toList b n) {Q:Option Nat->SortSt->Prop}
  (hq: ∀r,r<=n->(∀i y,i<r->v.toList[b+i]? =some y->lt x y=false)->(∀i y,r<=i->i<n->v.toList[b+i]? =some y->lt x y=true)->Q (some r) st):
  wpS M A E s (zAV false x v b n h) Q st:=by
 rw [zNO]
 refine yFJ (tells C hk hD hx hn false) (λi j h1 h2 h3=>?_) hh (λr h1 h2 h3=>hq r h1 (λi y h4 h5=>?_) (λi y h4 h5 h6=>?_))
 ·obtain⟨y,hy⟩:=kL (v:=v) (i:=b+i) (by omega)
  obtain⟨z,hz⟩:=kL (v:=v) (i:=b+j) (by omega)
  unfold pB at h3 ⊢
  rw [hz]at h3;rw [hy]
  have h3':(!lt x z)=true:=h3
  show(!lt x y)=true
  have:=hs i j y z h1 h2 hy hz
  have h4:lt x z=false:=by simpa using h3'
  rw [C.tr y z x this h4];rfl
 ·have:=h2 i h4
  unfold pB at this
  rw [h5]at this
  have h':(!lt x y)=true:=this
  simpa using h'
 ·have:=h3 i h4 h5
  unfold pB at this
  rw [h6]at this
  have h':(!lt x y)=false:=this
  simpa using h'
theorem zSH(C:Cmp M A E s kd D lt){st:SortSt}(hk:kindOf st=kd){v:Array Keyed}(hD: ∀y,y∈v.toList->D y){x:Keyed}(hx:D x){b n h:Nat}(hn:b+n<=v.size)(hh:h<n)
  (hs:SL lt v.toList b n) {Q:Option Nat->SortSt->Prop}
  (hq: ∀r,r<=n->(∀i y,i<r->v.toList[b+i]? =some y->lt y x=true)->(∀i y,r<=i->i<n->v.toList[b+i]? =some y->lt y x=false)->Q (some r) st):
  wpS M A E s (zAV true x v b n h) Q st:=by
 rw [zNO]
 refine yFJ (tells C hk hD hx hn true) (λi j h1 h2 h3=>?_) hh (λr h1 h2 h3=>hq r h1 (λi y h4 h5=>?_) (λi y h4 h5 h6=>?_))
 ·obtain⟨y,hy⟩:=kL (v:=v) (i:=b+i) (by omega)
  obtain⟨z,hz⟩:=kL (v:=v) (i:=b+j) (by omega)
  unfold pB at h3 ⊢
  rw [hz]at h3;rw [hy]
  have h3':lt z x=true:=h3
  show lt y x=true
  have:=hs i j y z h1 h2 hy hz
  cases hyx:lt y x with
  |true=>rfl
  |false=>exact absurd h3' (by rw [C.tr x y z hyx this];simp)
 ·have:=h2 i h4
  unfold pB at this
  rw [h5]at this
  exact this
 ·have:=h3 i h4 h5
  unfold pB at this
  rw [h6]at this
  exact this
end
end Srt
set_option autoImplicit false
namespace Srt
open PySem PyProof.Rows
abbrev V:=Array Keyed
abbrev L5:=Option V×V×Nat×Nat×Nat
abbrev L6:=Option V×V×Nat×Nat×Nat×Nat
abbrev L7:=Option V×V×Nat×Nat×Nat×Nat×Nat
abbrev dnL(a b o:V)(i j:Nat):V:=o++a.extract i a.size++b.extract j b.size
abbrev laL(a b o:V)(i j:Nat):V:=o++b.extract j b.size++a.extract i a.size
noncomputable def one1(a b:V)(g:Nat)(c:L6):SM (ForInStep L6):=
 elem' b c.2.2.2.1 >>= λy=>elem' a c.2.2.1 >>= λx=>lt' y x >>= λr=>match r with
  |some q=>if q=true then elem' b c.2.2.2.1 >>= λy=>
     if(c.2.2.2.1+1==b.size)=true then pure (.done (some (dnL a b (c.2.1.push y) c.2.2.1 (c.2.2.2.1+1)),c.2.1.push y,c.2.2.1,c.2.2.2.1+1,0,c.2.2.2.2.2+1))
     else if c.2.2.2.2.2+1>=g then pure (.done (none,c.2.1.push y,c.2.2.1,c.2.2.2.1+1,0,c.2.2.2.2.2+1))
     else pure (.yield (none,c.2.1.push y,c.2.2.1,c.2.2.2.1+1,0,c.2.2.2.2.2+1))
    else elem' a c.2.2.1 >>= λx=>
     if(c.2.2.1+1+1==a.size)=true then pure (.done (some (laL a b (c.2.1.push x) (c.2.2.1+1) c.2.2.2.1),c.2.1.push x,c.2.2.1+1,c.2.2.2.1,c.2.2.2.2.1+1,0))
     else if c.2.2.2.2.1+1>=g then pure (.done (none,c.2.1.push x,c.2.2.1+1,c.2.2.2.1,c.2.2.2.2.1+1,0))
     else pure (.yield (none,c.2.1.push x,c.2.2.1+1,c.2.2.2.1,c.2.2.2.2.1+1,0))
  |_=>pure (.done (some (dnL a b c.2.1 c.2.2.1 c.2.2.2.1),c.2.1,c.2.2.1,c.2.2.2.1,c.2.2.2.2.1,c.2.2.2.2.2))
noncomputable def in1(a b:V)(t g:Nat)(c:L6):SM L6:=forIn [0:t] c λ_ c=>one1 a b g c
noncomputable def two4(a b o:V)(i j g p q:Nat):SM (ForInStep L7):=
 elem' a i >>= λx=>if(i+1+1==a.size)=true then pure (.done (some (laL a b (o.push x) (i+1) j),o.push x,i+1,j,g,p,q))
  else if(decide (p<7)&&decide (q<7))=true then pure (.done (none,o.push x,i+1,j,g,p,q))else pure (.yield (none,o.push x,i+1,j,g,p,q))
noncomputable def two3(a b o:V)(i j g p q:Nat):SM (ForInStep L7):=
 elem' b j >>= λy=>if(j+1==b.size)=true then pure (.done (some (dnL a b (o.push y) i (j+1)),o.push y,i,j+1,g,p,q))
  else elem' a i >>= λx=>zAV true x b (j+1) (b.size - (j+1)) 0 >>= λr=>match r with
   |some k=>if k>0 then
      if(j+1+k==b.size)=true then pure (.done (some (dnL a b (o.push y++b.extract (j+1) (j+1+k)) i (j+1+k)),o.push y++b.extract (j+1) (j+1+k),i,j+1+k,g,p,k))
      else two4 a b (o.push y++b.extract (j+1) (j+1+k)) i (j+1+k) g p k
     else two4 a b (o.push y) i (j+1) g p k
   |_=>pure (.done (some (dnL a b (o.push y) i (j+1)),o.push y,i,j+1,g,p,q))
noncomputable def two2(a b o:V)(i j g p q:Nat):SM (ForInStep L7):=
 kC g >>= λ_=>elem' b j >>= λy=>zAV false y a i (a.size - i) 0 >>= λr=>match r with
  |some k=>if k>0 then
     if(i+k+1==a.size)=true then pure (.done (some (laL a b (o++a.extract i (i+k)) (i+k) j),o++a.extract i (i+k),i+k,j,g,k,q))
     else if(i+k==a.size)=true then pure (.done (some (dnL a b (o++a.extract i (i+k)) (i+k) j),o++a.extract i (i+k),i+k,j,g,k,q))
     else two3 a b (o++a.extract i (i+k)) (i+k) j g k q
    else two3 a b o i j g k q
  |_=>pure (.done (some (dnL a b o i j),o,i,j,g,p,q))
noncomputable def in2(a b:V)(t:Nat)(c:L7):SM L7:=forIn [0:t] c λ_ c=>
 if c.2.2.2.2.1>1 then two2 a b c.2.1 c.2.2.1 c.2.2.2.1 (c.2.2.2.2.1 - 1) c.2.2.2.2.2.1 c.2.2.2.2.2.2
 else two2 a b c.2.1 c.2.2.1 c.2.2.2.1 c.2.2.2.2.1 c.2.2.2.2.2.1 c.2.2.2.2.2.2
noncomputable def outL(a b:V)(t:Nat)(c:L5):SM L5:=forIn [0:t] c λ_ c=>
 in1 a b t c.2.2.2.2 (none,c.2.1,c.2.2.1,c.2.2.2.1,0,0) >>= λd=>match d.1 with
  |some r=>pure (.done (some r,d.2.1,d.2.2.1,d.2.2.2.1,c.2.2.2.2))
  |none=>liftM (rule "list.sort.gallop") >>= λ_=>in2 a b t (none,d.2.1,d.2.2.1,d.2.2.2.1,c.2.2.2.2+1,d.2.2.2.2.1,d.2.2.2.2.2) >>= λe=>match e.1 with
   |some r=>pure (.done (some r,e.2.1,e.2.2.1,e.2.2.2.1,e.2.2.2.2.1))
   |none=>kC (e.2.2.2.2.1+1) >>= λ_=>pure (.yield (none,e.2.1,e.2.2.1,e.2.2.2.1,e.2.2.2.2.1+1))
noncomputable def mLo(a b:V):SM V:=
 liftM (rule "list.sort.merge-lo") >>= λ_=>elem' b 0 >>= λy=>if(1==b.size)=true then pure (dnL a b #[y] 0 1)
  else if(0+1==a.size)=true then pure (laL a b #[y] 0 1)
  else get >>= λst=>outL a b (a.size+b.size) (none,#[y],0,1,gallopOf st) >>= λc=>match c.1 with
   |some r=>pure r
   |none=>liftM (unsupported "internal:list.sort.merge-bound")
theorem zVB(a b:V):zNL a b=mLo a b:=by kernel_rfl
end Srt
set_option autoImplicit false
namespace Srt
open PySem PyProof.Rows
theorem zJY(v:V)(i:Nat):(v.extract i v.size).toList=v.toList.drop i:=by
 rw [Array.toList_extract,List.extract_eq_take_drop]
 exact take_of_length_le (by simp)
theorem zSI(v:V)(i k:Nat):(v.extract i (i+k)).toList=(v.toList.drop i).take k:=by
 rw [Array.toList_extract,List.extract_eq_take_drop,Nat.add_sub_cancel_left]
theorem yKR(g:Nat):kC g=modify λs=>SortSt.mk' (kindOf s) (arrOf s) (pendingOf s) g (failedOf s):=rfl
def Sg(st st':SortSt):Prop:= ∃g,st'=SortSt.mk' (kindOf st) (arrOf st) (pendingOf st) g (failedOf st)
theorem Sg.refl(st:SortSt):Sg st st:=⟨gallopOf st,rfl⟩
theorem Sg.kind{st st':SortSt}(h:Sg st st'):kindOf st'=kindOf st:=by obtain⟨g,rfl⟩:=h;rfl
section
variable{M:Model}{A:Around}{E:VP}{s:Shared}{kd:SortKind}{D:Keyed->Prop}{lt:Keyed->Keyed->Bool}{a b:V}
theorem zMB{st st':SortSt}(h:Sg st st'){g:Nat}{Q:Unit->SortSt->Prop}(hq: ∀st',Sg st st'->Q () st'):wpS M A E s (kC g) Q st':=by
 rw [yKR]
 obtain⟨g',rfl⟩:=h
 exact wpS_modify (hq _ ⟨g,rfl⟩)
abbrev TwoA(lt:Keyed->Keyed->Bool)(a b o:V)(i j:Nat):Prop:=Two (Le lt) (a.toList++b.toList) o.toList (a.toList.drop i) (b.toList.drop j)
def FinA(lt:Keyed->Keyed->Bool)(a b r:V):Prop:=r.toList.Pairwise (Le lt)/\r.toList.Perm (a.toList++b.toList)
theorem zSJ{β:Type}{l:List β}{i:Nat}{x:β}(h:l[i]? =some x):l.drop i=x::l.drop (i+1):=by
 obtain⟨hi,e⟩:=gS0.mp h
 rw [<-e];exact drop_eq_getElem_cons hi
theorem heads{β:Type}{le:β->β->Prop}(rf: ∀x,le x x){l:List β}{i:Nat}{x:β}(h:(l.drop i).Pairwise le)(e:l[i]? =some x): ∀z,z∈l.drop i->le x z:=by
 rw [zSJ e]at h ⊢
 intro z hz
 cases hz with
 |head=>exact rf x
 |tail _ hz=>exact(pairwise_cons.mp h).1 z hz
theorem TwoA.sa{o:V}{i j:Nat}(h:TwoA lt a b o i j):(a.toList.drop i).Pairwise (Le lt):=(pairwise_append.mp h.hx).2.1
theorem TwoA.sb{o:V}{i j:Nat}(h:TwoA lt a b o i j):(b.toList.drop j).Pairwise (Le lt):=(pairwise_append.mp h.hy).2.1
theorem zZL{l:List Keyed}{i n:Nat}(h:(l.drop i).Pairwise (Le lt))(rf: ∀x,Le lt x x):SL lt l i n:=by
 intro p q x y h1 h2 hx hy
 by_cases e:p=q
 ·subst e;rw [hx]at hy;cases hy;exact rf x
 ·obtain⟨b1,e1⟩:=gS0.mp hx
  obtain⟨b2,e2⟩:=gS0.mp hy
  have:=List.pairwise_iff_getElem.mp h p q (by rw [length_drop];omega) (by rw [length_drop];omega) (by omega)
  rw [getElem_drop,getElem_drop,e1,e2]at this
  exact this
theorem TwoA.pushB{o:V}{i j:Nat}{y:Keyed}(h:TwoA lt a b o i j)(e:b.toList[j]? =some y)(hl: ∀x,x∈a.toList.drop i->Le lt y x):TwoA lt a b (o.push y) i (j+1):=by
 have h':Two (Le lt) (a.toList++b.toList) o.toList (a.toList.drop i) ([y]++b.toList.drop (j+1)):=by rw [show [y]++b.toList.drop (j+1)=b.toList.drop j from(zSJ e).symm];exact h
 have:=h'.moveys λz hz x hx=>by rw [mS.mp hz];exact hl x hx
 show Two _ _ (o.push y).toList _ _
 rw [Array.toList_push];exact this
theorem TwoA.pushA{o:V}{i j:Nat}{x:Keyed}(h:TwoA lt a b o i j)(e:a.toList[i]? =some x)(hl: ∀y,y∈b.toList.drop j->Le lt x y):TwoA lt a b (o.push x) (i+1) j:=by
 have h':Two (Le lt) (a.toList++b.toList) o.toList ([x]++a.toList.drop (i+1)) (b.toList.drop j):=by rw [show [x]++a.toList.drop (i+1)=a.toList.drop i from(zSJ e).symm];exact h
 have:=h'.movexs λz hz y hy=>by rw [mS.mp hz];exact hl y hy
 show Two _ _ (o.push x).toList _ _
 rw [Array.toList_push];exact this
theorem TwoA.cutA{o:V}{i j k:Nat}(h:TwoA lt a b o i j)(hl: ∀n z,n<k->a.toList[i+n]? =some z-> ∀y,y∈b.toList.drop j->Le lt z y):TwoA lt a b (o++a.extract i (i+k)) (i+k) j:=by
 have h':Two (Le lt) (a.toList++b.toList) o.toList ((a.toList.drop i).take k++a.toList.drop (i+k)) (b.toList.drop j):=by rw [<-zNN];exact h
 have:=h'.movexs λz hz y hy=>by obtain⟨n,h1,_,h2⟩:=kU hz;exact hl n z h1 h2 y hy
 show Two _ _ (o++a.extract i (i+k)).toList _ _
 rw [Array.toList_append,zSI];exact this
theorem TwoA.cutB{o:V}{i j k:Nat}(h:TwoA lt a b o i j)(hl: ∀n z,n<k->b.toList[j+n]? =some z-> ∀x,x∈a.toList.drop i->Le lt z x):TwoA lt a b (o++b.extract j (j+k)) i (j+k):=by
 have h':Two (Le lt) (a.toList++b.toList) o.toList (a.toList.drop i) ((b.toList.drop j).take k++b.toList.drop (j+k)):=by rw [<-zNN];exact h
 have:=h'.moveys λz hz y hy=>by obtain⟨n,h1,_,h2⟩:=kU hz;exact hl n z h1 h2 y hy
 show Two _ _ (o++b.extract j (j+k)).toList _ _
 rw [Array.toList_append,zSI];exact this
theorem TwoA.dnB{o:V}{i j:Nat}(h:TwoA lt a b o i j)(hj:b.size<=j):FinA lt a b (dnL a b o i j):=by
 have e:(dnL a b o i j).toList=o.toList++a.toList.drop i++b.toList.drop j:=by rw [Array.toList_append,Array.toList_append,zJY,zJY]
 unfold FinA;rw [e]
 exact h.fin λx _ y hy=>by rw [drop_of_length_le (by simpa using hj)]at hy;cases hy
theorem TwoA.dnA{o:V}{i j:Nat}(h:TwoA lt a b o i j)(hi:a.size<=i):FinA lt a b (dnL a b o i j):=by
 have e:(dnL a b o i j).toList=o.toList++a.toList.drop i++b.toList.drop j:=by rw [Array.toList_append,Array.toList_append,zJY,zJY]
 unfold FinA;rw [e]
 exact h.fin λx hx y _=>by rw [drop_of_length_le (by simpa using hi)]at hx;cases hx
theorem TwoA.la{o:V}{i j:Nat}(h:TwoA lt a b o i j)(hi:i+1=a.size)(hz: ∀x y,a.toList[a.size - 1]? =some x->y∈b.toList->Le lt y x):FinA lt a b (laL a b o i j):=by
 have e:(laL a b o i j).toList=o.toList++b.toList.drop j++a.toList.drop i:=by rw [Array.toList_append,Array.toList_append,zJY,zJY]
 unfold FinA;rw [e]
 refine h.swap.fin λy hy x hx=>?_
 obtain⟨n,h1,h2⟩:=gR hx
 have hl:a.toList.length=a.size:=by simp
 exact hz x y (by rw [show a.size - 1=i+n by omega];exact h2) (List.mem_of_mem_drop hy)
theorem TwoA.len{o:V}{i j:Nat}(h:TwoA lt a b o i j):o.size+((a.size - i)+(b.size - j))=a.size+b.size:=by
 have:=h.pm.length_eq
 simpa [lA,length_drop]using this
def I1(lt:Keyed->Keyed->Bool)(a b o:V)(i j:Nat):Prop:=i+1<a.size/\j<b.size/\TwoA lt a b o i j
structure Set2(M:Model)(A:Around)(E:VP)(s:Shared)(kd:SortKind)(D:Keyed->Prop)(lt:Keyed->Keyed->Bool)(a b:V):Prop where
 C:Cmp M A E s kd D lt
 da: ∀x,x∈a.toList->D x
 db: ∀x,x∈b.toList->D x
 lst: ∀x y,a.toList[a.size - 1]? =some x->y∈b.toList->Le lt y x
def N6(lt:Keyed->Keyed->Bool)(a b:V)(n:Nat)(c:L6):Prop:= ∃o i j p q,c=(none,o,i,j,p,q)/\I1 lt a b o i j/\n<=o.size
def P6(lt:Keyed->Keyed->Bool)(a b:V)(n:Nat)(c:L6):Prop:=(∃r e,c=(some r,e)/\FinA lt a b r)\/N6 lt a b n c
def N7(lt:Keyed->Keyed->Bool)(a b:V)(n:Nat)(c:L7):Prop:= ∃o i j g p q,c=(none,o,i,j,g,p,q)/\I1 lt a b o i j/\n<=o.size
def P7(lt:Keyed->Keyed->Bool)(a b:V)(n:Nat)(c:L7):Prop:=(∃r e,c=(some r,e)/\FinA lt a b r)\/N7 lt a b n c
theorem yKS(Z:Set2 M A E s kd D lt a b){st:SortSt}(hk:kindOf st=kd){o:V}{i j p q g:Nat}(h:I1 lt a b o i j){Q:ForInStep L6->SortSt->Prop}
  (hd: ∀c,P6 lt a b (o.size+1) c->Q (.done c) st) (hy: ∀c,N6 lt a b (o.size+1) c->Q (.yield c) st):wpS M A E s (one1 a b g (none,o,i,j,p,q)) Q st:=by
 obtain⟨h1,h2,h3⟩:=h
 obtain⟨y,ey⟩:=kL h2
 obtain⟨x,ex⟩:=kL (v:=a) (i:=i) (by omega)
 have hb:=heads Z.C.rf h3.sb ey
 have ha:=heads Z.C.rf h3.sa ex
 unfold one1
 refine wpS_bind (yM ey (wpS_bind (yM ex (wpS_bind (Z.C.go y x (Z.db y (mem_of_getElem? ey)) (Z.da x (mem_of_getElem? ex)) st hk _ ?_)))))
 cases hlt:lt y x with
 |true=>
  have T':=h3.pushB ey λz hz=>Z.C.tr y x z (Z.C.as y x hlt) (ha z hz)
  have hs:(o.push y).size=o.size+1:=Array.size_push ..
  refine wpS_bind (yM ey ?_)
  dsimp only
  by_cases c1:j+1=b.size
  ·rw [iP (by simpa using c1)]
   exact wpS_pure (hd _ (.inl ⟨_,_,rfl,T'.dnB (by omega)⟩))
  ·rw [iN (by simpa using c1)]
   have I':I1 lt a b (o.push y) i (j+1):=⟨h1,by omega,T'⟩
   split
   ·exact wpS_pure (hd _ (.inr ⟨_,_,_,_,_,rfl,I',by omega⟩))
   ·exact wpS_pure (hy _ ⟨_,_,_,_,_,rfl,I',by omega⟩)
 |false=>
  have T':=h3.pushA ex λz hz=>Z.C.tr x y z hlt (hb z hz)
  have hs:(o.push x).size=o.size+1:=Array.size_push ..
  refine wpS_bind (yM ex ?_)
  dsimp only
  by_cases c1:i+1+1=a.size
  ·rw [iP (by simpa using c1)]
   exact wpS_pure (hd _ (.inl ⟨_,_,rfl,T'.la c1 Z.lst⟩))
  ·rw [iN (by simpa using c1)]
   have I':I1 lt a b (o.push x) (i+1) j:=⟨by omega,h2,T'⟩
   split
   ·exact wpS_pure (hd _ (.inr ⟨_,_,_,_,_,rfl,I',by omega⟩))
   ·exact wpS_pure (hy _ ⟨_,_,_,_,_,rfl,I',by omega⟩)
theorem N6.mono{n m:Nat}{c:L6}(h:N6 lt a b n c)(e:m<=n):N6 lt a b m c:=by
 obtain⟨o,i,j,p,q,h1,h2,h3⟩:=h;exact⟨o,i,j,p,q,h1,h2,by omega⟩
theorem P6.mono{n m:Nat}{c:L6}(h:P6 lt a b n c)(e:m<=n):P6 lt a b m c:=h.imp id λh=>h.mono e
theorem yQF(Z:Set2 M A E s kd D lt a b){st:SortSt}(hk:kindOf st=kd){o:V}{i j g t:Nat}(ht:1<=t)(h:I1 lt a b o i j){Q:L6->SortSt->Prop}
  (hq: ∀c,P6 lt a b (o.size+1) c->Q c st):wpS M A E s (in1 a b t g (none,o,i,j,0,0)) Q st:=by
 unfold in1
 refine wpS_forRange (I:=λx c st'=>st'=st/\N6 lt a b (o.size+x) c) ?_ ?_ ⟨rfl,o,i,j,0,0,rfl,h,by omega⟩
 ·rintro x c st' _ _ ⟨rfl,o',i',j',p',q',rfl,h',hn⟩
  refine yKS Z hk h' (λc hc=>hq c (hc.mono (by omega))) (λc hc=>⟨rfl,hc.mono (by omega)⟩)
 ·rintro c st' ⟨rfl,hN⟩
  exact hq c (.inr (hN.mono (by omega)))
theorem zZM(Z:Set2 M A E s kd D lt a b){st:SortSt}{o:V}{i j g p q:Nat}(h1:i+1<a.size)(h2:j<b.size)(h3:TwoA lt a b o i j)
  (hl: ∀x,a.toList[i]? =some x-> ∀y,y∈b.toList.drop j->Le lt x y) {n:Nat} (hn:n<=o.size) {Q:ForInStep L7->SortSt->Prop}
  (hd: ∀c,P7 lt a b n c->Q (.done c) st) (hy: ∀c,N7 lt a b n c->Q (.yield c) st):wpS M A E s (two4 a b o i j g p q) Q st:=by
 obtain⟨x,ex⟩:=kL (v:=a) (i:=i) (by omega)
 have T':=h3.pushA ex (hl x ex)
 have hs:(o.push x).size=o.size+1:=Array.size_push ..
 unfold two4
 refine wpS_bind (yM ex ?_)
 by_cases c1:i+1+1=a.size
 ·rw [iP (by simpa using c1)]
  exact wpS_pure (hd _ (.inl ⟨_,_,rfl,T'.la c1 Z.lst⟩))
 ·rw [iN (by simpa using c1)]
  have I':I1 lt a b (o.push x) (i+1) j:=⟨by omega,h2,T'⟩
  split
  ·exact wpS_pure (hd _ (.inr ⟨_,_,_,_,_,_,rfl,I',by omega⟩))
  ·exact wpS_pure (hy _ ⟨_,_,_,_,_,_,rfl,I',by omega⟩)
theorem zZN(Z:Set2 M A E s kd D lt a b){st:SortSt}(hk:kindOf st=kd){o:V}{i j g p q:Nat}(h1:i+1<a.size)(h2:j<b.size)(h3:TwoA lt a b o i j)
  (hl: ∀y,b.toList[j]? =some y-> ∀x,x∈a.toList.drop i->Le lt y x) {n:Nat} (hn:n<=o.size) {Q:ForInStep L7->SortSt->Prop}
  (hd: ∀c,P7 lt a b n c->Q (.done c) st) (hy: ∀c,N7 lt a b n c->Q (.yield c) st):wpS M A E s (two3 a b o i j g p q) Q st:=by
 obtain⟨y,ey⟩:=kL h2
 obtain⟨x,ex⟩:=kL (v:=a) (i:=i) (by omega)
 have T':=h3.pushB ey (hl y ey)
 have hs:(o.push y).size=o.size+1:=Array.size_push ..
 have ha:=heads Z.C.rf h3.sa ex
 unfold two3
 refine wpS_bind (yM ey ?_)
 by_cases c1:j+1=b.size
 ·rw [iP (by simpa using c1)]
  exact wpS_pure (hd _ (.inl ⟨_,_,rfl,T'.dnB (by omega)⟩))
 ·rw [iN (by simpa using c1)]
  refine wpS_bind (yM ex (wpS_bind (zSH Z.C hk Z.db (Z.da x (mem_of_getElem? ex)) (by omega) (by omega) (zZL T'.sb Z.C.rf) λk k1 k2 k3=>?_)))
  dsimp only
  by_cases ck:k>0
  ·rw [iP ck]
   have T2:=T'.cutB (k:=k) λm z hm hz x' hx'=>Z.C.tr z x x' (Z.C.as z x (k2 m z hm hz)) (ha x' hx')
   have hs2:(o.push y++b.extract (j+1) (j+1+k)).size>=o.size+1:=by rw [Array.size_append];omega
   by_cases c2:j+1+k=b.size
   ·rw [iP (by simpa using c2)]
    exact wpS_pure (hd _ (.inl ⟨_,_,rfl,T2.dnB (by omega)⟩))
   ·rw [iN (by simpa using c2)]
    refine zZM Z h1 (by omega) T2 (λx' hx' y' hy'=>?_) (by omega) hd hy
    rw [ex]at hx';cases hx'
    obtain⟨m,m1,m2⟩:=gR hy'
    rw [Array.length_toList]at m1
    exact k3 (k+m) y' (by omega) (by omega) (by rw [<-add_assoc];exact m2)
  ·rw [iN ck]
   refine zZM Z h1 (by omega) T' (λx' hx' y' hy'=>?_) (by omega) hd hy
   rw [ex]at hx';cases hx'
   obtain⟨m,m1,m2⟩:=gR hy'
   rw [Array.length_toList]at m1
   exact k3 m y' (by omega) (by omega) m2
theorem zZO(Z:Set2 M A E s kd D lt a b){st0 st:SortSt}(hg:Sg st0 st)(hk:kindOf st0=kd){o:V}{i j g p q:Nat}(h:I1 lt a b o i j){n:Nat}(hn:n<=o.size)
  {Q:ForInStep L7->SortSt->Prop} (hd: ∀c st,Sg st0 st->P7 lt a b n c->Q (.done c) st) (hy: ∀c st,Sg st0 st->N7 lt a b n c->Q (.yield c) st):
  wpS M A E s (two2 a b o i j g p q) Q st:=by
 obtain⟨h1,h2,h3⟩:=h
 obtain⟨y,ey⟩:=kL h2
 have hb:=heads Z.C.rf h3.sb ey
 unfold two2
 refine wpS_bind (zMB hg λst' hg'=>?_)
 have hk':kindOf st'=kd:=hg'.kind.trans hk
 refine wpS_bind (yM ey (wpS_bind (zSG Z.C hk' Z.da (Z.db y (mem_of_getElem? ey)) (by omega) (by omega) (zZL h3.sa Z.C.rf) λk k1 k2 k3=>?_)))
 dsimp only
 by_cases ck:k>0
 ·rw [iP ck]
  have T2:=h3.cutA (k:=k) λm z hm hz y' hy'=>Z.C.tr z y y' (k2 m z hm hz) (hb y' hy')
  have hs2:(o++a.extract i (i+k)).size>=o.size:=by rw [Array.size_append];omega
  by_cases c1:i+k+1=a.size
  ·rw [iP (by simpa using c1)]
   exact wpS_pure (hd _ _ hg' (.inl ⟨_,_,rfl,T2.la c1 Z.lst⟩))
  ·rw [iN (by simpa using c1)]
   by_cases c2:i+k=a.size
   ·rw [iP (by simpa using c2)]
    exact wpS_pure (hd _ _ hg' (.inl ⟨_,_,rfl,T2.dnA (by omega)⟩))
   ·rw [iN (by simpa using c2)]
    refine zZN Z hk' (by omega) h2 T2 (λy' hy' x' hx'=>?_) (by omega) (λc hc=>hd c _ hg' hc) (λc hc=>hy c _ hg' hc)
    rw [ey]at hy';cases hy'
    obtain⟨m,m1,m2⟩:=gR hx'
    rw [Array.length_toList]at m1
    exact Z.C.as _ _ (k3 (k+m) x' (by omega) (by omega) (by rw [<-add_assoc];exact m2))
 ·rw [iN ck]
  refine zZN Z hk' h1 h2 h3 (λy' hy' x' hx'=>?_) hn (λc hc=>hd c _ hg' hc) (λc hc=>hy c _ hg' hc)
  rw [ey]at hy';cases hy'
  obtain⟨m,m1,m2⟩:=gR hx'
  rw [Array.length_toList]at m1
  exact Z.C.as _ _ (k3 m x' (by omega) (by omega) m2)
theorem yQG(Z:Set2 M A E s kd D lt a b){st0 st:SortSt}(hg:Sg st0 st)(hk:kindOf st0=kd){o:V}{i j g p q t:Nat}(h:I1 lt a b o i j){n:Nat}(hn:n<=o.size)
  {Q:L7->SortSt->Prop} (hq: ∀c st,Sg st0 st->P7 lt a b n c->Q c st):wpS M A E s (in2 a b t (none,o,i,j,g,p,q)) Q st:=by
 unfold in2
 refine wpS_forRange (I:=λx c st'=>Sg st0 st'/\N7 lt a b n c) ?_ ?_ ⟨hg,o,i,j,g,p,q,rfl,h,hn⟩
 ·rintro x c st' _ _ ⟨hg',o',i',j',g',p',q',rfl,h',hn'⟩
  dsimp only
  split
  ·exact zZO Z hg' hk h' hn' (λc st hs hc=>hq c st hs hc) (λc st hs hc=>⟨hs,hc⟩)
  ·exact zZO Z hg' hk h' hn' (λc st hs hc=>hq c st hs hc) (λc st hs hc=>⟨hs,hc⟩)
 ·rintro c st' ⟨hg',hN⟩
  exact hq c st' hg' (.inr hN)
theorem yQH(Z:Set2 M A E s kd D lt a b){st:SortSt}(hk:kindOf st=kd)(sa:a.toList.Pairwise (Le lt))(sb:b.toList.Pairwise (Le lt))(na:1<=a.size)(nb:1<=b.size)
  (h0: ∀x y,a.toList[0]? =some x->b.toList[0]? =some y->Le lt y x)
  {Q:V->SortSt->Prop} (hq: ∀r st',Sg st st'->FinA lt a b r->Q r st'):wpS M A E s (zNL a b) Q st:=by
 rw [zVB]
 unfold mLo
 refine wpS_bind (zED ?_)
 obtain⟨y,ey⟩:=kL (v:=b) (i:=0) (by omega)
 obtain⟨x,ex⟩:=kL (v:=a) (i:=0) (by omega)
 have T0:TwoA lt a b #[] 0 0:=⟨by simpa using sa,by simpa using sb,by simp⟩
 have hax:=heads Z.C.rf T0.sa ex
 have T1:TwoA lt a b #[y] 0 1:=T0.pushB ey λz hz=>Z.C.tr y x z (h0 x y ex ey) (hax z hz)
 refine wpS_bind (yM ey ?_)
 by_cases c1:1=b.size
 ·rw [iP (by simpa using c1)]
  exact wpS_pure (hq _ _ (Sg.refl st) (T1.dnB (by omega)))
 ·rw [iN (by simpa using c1)]
  by_cases c2:0+1=a.size
  ·rw [iP (by simpa using c2)]
   exact wpS_pure (hq _ _ (Sg.refl st) (T1.la c2 Z.lst))
  ·rw [iN (by simpa using c2)]
   refine wpS_bind (wpS_get ?_)
   refine wpS_bind (wpS_mono (m:=outL a b (a.size+b.size) (none,#[y],0,1,gallopOf st)) (Q:=λc st'=>Sg st st'/\ ∃r e,c=(some r,e)/\FinA lt a b r) ?_ ?_)
   ·unfold outL
    refine wpS_forRange (I:=λx c st'=>Sg st st'/\ ∃o i j g,c=(none,o,i,j,g)/\I1 lt a b o i j/\x+1<=o.size) ?_ ?_ ⟨Sg.refl st,_,_,_,_,rfl,⟨by omega,by omega,T1⟩,by simp⟩
    ·rintro n c st' _ _ ⟨hg,o,i,j,g,rfl,hI,hn⟩
     dsimp only
     refine wpS_bind (yQF Z (hg.kind.trans hk) (by omega) hI λd hd=>?_)
     rcases hd with⟨r,e,rfl,hF⟩|⟨o',i',j',p',q',rfl,hI',hn'⟩
     ·exact wpS_pure ⟨hg,r,_,rfl,hF⟩
     ·dsimp only
      refine wpS_bind (zED ?_)
      refine wpS_bind (yQG Z hg hk hI' hn' λe st2 hg2 he=>?_)
      rcases he with⟨r,e,rfl,hF⟩|⟨o2,i2,j2,g2,p2,q2,rfl,hI2,hn2⟩
      ·exact wpS_pure ⟨hg2,r,_,rfl,hF⟩
      ·dsimp only
       refine wpS_bind (zMB hg2 λst3 hg3=>?_)
       exact wpS_pure ⟨hg3,o2,i2,j2,_,rfl,hI2,by omega⟩
    ·rintro c st' ⟨hg,o,i,j,g,rfl,hI,hn⟩
     have:=hI.2.2.len
     omega
   ·rintro c st' ⟨hg,r,e,rfl,hF⟩
    exact wpS_pure (hq r st' hg hF)
end
end Srt
set_option autoImplicit false
namespace Srt
open PySem PyProof.Rows
abbrev H5:=Option V×Nat×Nat×V×Nat
abbrev H6:=Option V×Nat×Nat×V×Nat×Nat
abbrev H7:=Option V×Nat×Nat×V×Nat×Nat×Nat
abbrev dnH(a b o:V)(i j:Nat):V:=a.extract 0 i++b.extract 0 j++o.reverse
abbrev fbH(a b o:V)(i j:Nat):V:=b.extract 0 j++a.extract 0 i++o.reverse
noncomputable def hone(a b:V)(g:Nat)(c:H6):SM (ForInStep H6):=
 elem' b (c.2.2.1 - 1) >>= λy=>elem' a (c.2.1 - 1) >>= λx=>lt' y x >>= λr=>match r with
  |some q=>if q=true then elem' a (c.2.1 - 1) >>= λx=>
     if(c.2.1 - 1==0)=true then pure (.done (some (dnH a b (c.2.2.2.1.push x) (c.2.1 - 1) c.2.2.1),c.2.1 - 1,c.2.2.1,c.2.2.2.1.push x,c.2.2.2.2.1+1,0))
     else if c.2.2.2.2.1+1>=g then pure (.done (none,c.2.1 - 1,c.2.2.1,c.2.2.2.1.push x,c.2.2.2.2.1+1,0))
     else pure (.yield (none,c.2.1 - 1,c.2.2.1,c.2.2.2.1.push x,c.2.2.2.2.1+1,0))
    else elem' b (c.2.2.1 - 1) >>= λy=>
     if(c.2.2.1 - 1==1)=true then pure (.done (some (fbH a b (c.2.2.2.1.push y) c.2.1 (c.2.2.1 - 1)),c.2.1,c.2.2.1 - 1,c.2.2.2.1.push y,0,c.2.2.2.2.2+1))
     else if c.2.2.2.2.2+1>=g then pure (.done (none,c.2.1,c.2.2.1 - 1,c.2.2.2.1.push y,0,c.2.2.2.2.2+1))
     else pure (.yield (none,c.2.1,c.2.2.1 - 1,c.2.2.2.1.push y,0,c.2.2.2.2.2+1))
  |_=>pure (.done (some (dnH a b c.2.2.2.1 c.2.1 c.2.2.1),c.2.1,c.2.2.1,c.2.2.2.1,c.2.2.2.2.1,c.2.2.2.2.2))
noncomputable def hin1(a b:V)(t g:Nat)(c:H6):SM H6:=forIn [0:t] c λ_ c=>hone a b g c
noncomputable def hw4(a b o:V)(i j g p q:Nat):SM (ForInStep H7):=
 elem' a (i - 1) >>= λx=>if(i - 1==0)=true then pure (.done (some (dnH a b (o.push x) (i - 1) j),i - 1,j,o.push x,g,p,q))
  else if(decide (p<7)&&decide (q<7))=true then pure (.done (none,i - 1,j,o.push x,g,p,q))else pure (.yield (none,i - 1,j,o.push x,g,p,q))
noncomputable def hw3(a b o:V)(i j g p q:Nat):SM (ForInStep H7):=
 elem' b (j - 1) >>= λy=>if(j - 1==1)=true then pure (.done (some (fbH a b (o.push y) i (j - 1)),i,j - 1,o.push y,g,p,q))
  else elem' a (i - 1) >>= λx=>zAV true x b 0 (j - 1) (j - 1 - 1) >>= λr=>match r with
   |some k=>if j - 1 - k>0 then
      if(k==1)=true then pure (.done (some (fbH a b (o.push y++(b.extract k (j - 1)).reverse) i k),i,k,o.push y++(b.extract k (j - 1)).reverse,g,p,j - 1 - k))
      else if(k==0)=true then pure (.done (some (dnH a b (o.push y++(b.extract k (j - 1)).reverse) i k),i,k,o.push y++(b.extract k (j - 1)).reverse,g,p,j - 1 - k))
      else hw4 a b (o.push y++(b.extract k (j - 1)).reverse) i k g p (j - 1 - k)
     else hw4 a b (o.push y) i (j - 1) g p (j - 1 - k)
   |_=>pure (.done (some (dnH a b (o.push y) i (j - 1)),i,j - 1,o.push y,g,p,q))
noncomputable def hw2(a b o:V)(i j g p q:Nat):SM (ForInStep H7):=
 kC g >>= λ_=>elem' b (j - 1) >>= λy=>zAV false y a 0 i (i - 1) >>= λr=>match r with
  |some k=>if i - k>0 then
     if(k==0)=true then pure (.done (some (dnH a b (o++(a.extract k i).reverse) k j),k,j,o++(a.extract k i).reverse,g,i - k,q))
     else hw3 a b (o++(a.extract k i).reverse) k j g (i - k) q
    else hw3 a b o i j g (i - k) q
  |_=>pure (.done (some (dnH a b o i j),i,j,o,g,p,q))
noncomputable def hin2(a b:V)(t:Nat)(c:H7):SM H7:=forIn [0:t] c λ_ c=>
 if c.2.2.2.2.1>1 then hw2 a b c.2.2.2.1 c.2.1 c.2.2.1 (c.2.2.2.2.1 - 1) c.2.2.2.2.2.1 c.2.2.2.2.2.2
 else hw2 a b c.2.2.2.1 c.2.1 c.2.2.1 c.2.2.2.2.1 c.2.2.2.2.2.1 c.2.2.2.2.2.2
noncomputable def outH(a b:V)(t:Nat)(c:H5):SM H5:=forIn [0:t] c λ_ c=>
 hin1 a b t c.2.2.2.2 (none,c.2.1,c.2.2.1,c.2.2.2.1,0,0) >>= λd=>match d.1 with
  |some r=>pure (.done (some r,d.2.1,d.2.2.1,d.2.2.2.1,c.2.2.2.2))
  |none=>liftM (rule "list.sort.gallop") >>= λ_=>hin2 a b t (none,d.2.1,d.2.2.1,d.2.2.2.1,c.2.2.2.2+1,d.2.2.2.2.1,d.2.2.2.2.2) >>= λe=>match e.1 with
   |some r=>pure (.done (some r,e.2.1,e.2.2.1,e.2.2.2.1,e.2.2.2.2.1))
   |none=>kC (e.2.2.2.2.1+1) >>= λ_=>pure (.yield (none,e.2.1,e.2.2.1,e.2.2.2.1,e.2.2.2.2.1+1))
noncomputable def mHi(a b:V):SM V:=
 liftM (rule "list.sort.merge-hi") >>= λ_=>elem' a (a.size - 1) >>= λx=>if(a.size - 1==0)=true then pure (dnH a b #[x] (a.size - 1) b.size)
  else if(b.size==1)=true then pure (fbH a b #[x] (a.size - 1) b.size)
  else get >>= λst=>outH a b (a.size+b.size) (none,a.size - 1,b.size,#[x],gallopOf st) >>= λc=>match c.1 with
   |some r=>pure r
   |none=>liftM (unsupported "internal:list.sort.merge-bound")
theorem zVC(a b:V):zNM a b=mHi a b:=by kernel_rfl
theorem zSK(v:V)(i:Nat):(v.extract 0 i).toList=v.toList.take i:=by
 rw [Array.toList_extract,List.extract_eq_take_drop];rfl
theorem yQI(v:V)(t i:Nat):(v.extract t i).toList=(v.toList.take i).drop t:=by
 rw [Array.toList_extract,List.extract_eq_take_drop,List.drop_take]
theorem zNP{β:Type}{l:List β}{t i:Nat}{z:β}(h:z∈(l.take i).drop t): ∃n,t<=n/\n<i/\l[n]? =some z:=by
 obtain⟨j,h1,h2⟩:=gR h
 rw [lT]at h1
 rw [getElem?_take_of_lt (by omega)]at h2
 exact⟨t+j,by omega,by omega,h2⟩
theorem zMC{β:Type}{l:List β}{i:Nat}{x:β}(h:l[i]? =some x):l.take (i+1)=l.take i++[x]:=by
 obtain⟨hi,e⟩:=gS0.mp h
 rw [<-e];exact(List.take_append_getElem hi).symm
theorem zZP{β:Type}{le:β->β->Prop}(rf: ∀x,le x x){l:List β}{i:Nat}{x:β}(h:(l.take (i+1)).Pairwise le)(e:l[i]? =some x): ∀z,z∈l.take (i+1)->le z x:=by
 rw [zMC e]at h ⊢
 intro z hz
 rcases mem_append.mp hz with q|q
 ·exact(pairwise_append.mp h).2.2 z q x (mS.mpr rfl)
 ·rw [mS.mp q];exact rf x
section
variable{M:Model}{A:Around}{E:VP}{s:Shared}{kd:SortKind}{D:Keyed->Prop}{lt:Keyed->Keyed->Bool}{a b:V}
theorem zZQ{l:List Keyed}{n:Nat}(h:(l.take n).Pairwise (Le lt))(rf: ∀x,Le lt x x):SL lt l 0 n:=by
 intro p q x y h1 h2 hx hy
 rw [zero_add]at hx hy
 by_cases e:p=q
 ·subst e;rw [hx]at hy;cases hy;exact rf x
 ·obtain⟨b1,e1⟩:=gS0.mp hx
  obtain⟨b2,e2⟩:=gS0.mp hy
  have:=List.pairwise_iff_getElem.mp h p q (by rw [lT];omega) (by rw [lT];omega) (by omega)
  rw [getElem_take,getElem_take,e1,e2]at this
  exact this
abbrev TwoH(lt:Keyed->Keyed->Bool)(a b o:V)(i j:Nat):Prop:=TwoR (Le lt) (a.toList++b.toList) (a.toList.take i) (b.toList.take j) o.toList.reverse
theorem TwoH.sa{o:V}{i j:Nat}(h:TwoH lt a b o i j):(a.toList.take i).Pairwise (Le lt):=(pairwise_append.mp h.hx).1
theorem TwoH.sb{o:V}{i j:Nat}(h:TwoH lt a b o i j):(b.toList.take j).Pairwise (Le lt):=(pairwise_append.mp h.hy).1
theorem TwoH.pushA{o:V}{i j:Nat}{x:Keyed}(h:TwoH lt a b o (i+1) j)(e:a.toList[i]? =some x)(hl: ∀y,y∈b.toList.take j->Le lt y x):TwoH lt a b (o.push x) i j:=by
 have h':TwoR (Le lt) (a.toList++b.toList) (a.toList.take i++[x]) (b.toList.take j) o.toList.reverse:=by rw [<-zMC e];exact h
 have:=h'.movexs λy hy z hz=>by rw [mS.mp hz];exact hl y hy
 show TwoR _ _ _ _ (o.push x).toList.reverse
 rw [Array.toList_push,List.reverse_append];exact this
theorem TwoH.pushB{o:V}{i j:Nat}{y:Keyed}(h:TwoH lt a b o i (j+1))(e:b.toList[j]? =some y)(hl: ∀x,x∈a.toList.take i->Le lt x y):TwoH lt a b (o.push y) i j:=by
 have h':TwoR (Le lt) (a.toList++b.toList) (a.toList.take i) (b.toList.take j++[y]) o.toList.reverse:=by rw [<-zMC e];exact h
 have:=h'.moveys λx hx z hz=>by rw [mS.mp hz];exact hl x hx
 show TwoR _ _ _ _ (o.push y).toList.reverse
 rw [Array.toList_push,List.reverse_append];exact this
theorem zZR(o v:V)(t i:Nat):(o++(v.extract t i).reverse).toList.reverse=(v.toList.take i).drop t++o.toList.reverse:=by
 rw [Array.toList_append,List.reverse_append,Array.toList_reverse,List.reverse_reverse,yQI]
theorem TwoH.cutA{o:V}{i j t:Nat}(ht:t<=i)(h:TwoH lt a b o i j)(hl: ∀n z,t<=n->n<i->a.toList[n]? =some z-> ∀y,y∈b.toList.take j->Le lt y z):TwoH lt a b (o++(a.extract t i).reverse) t j:=by
 have h':TwoR (Le lt) (a.toList++b.toList) (a.toList.take t++(a.toList.take i).drop t) (b.toList.take j) o.toList.reverse:=by rw [<-zVA _ t i ht];exact h
 have:=h'.movexs λy hy z hz=>by obtain⟨n,h1,h2,h3⟩:=zNP hz;exact hl n z h1 h2 h3 y hy
 show TwoR _ _ _ _ (o++(a.extract t i).reverse).toList.reverse
 rw [zZR];exact this
theorem TwoH.cutB{o:V}{i j t:Nat}(ht:t<=j)(h:TwoH lt a b o i j)(hl: ∀n z,t<=n->n<j->b.toList[n]? =some z-> ∀x,x∈a.toList.take i->Le lt x z):TwoH lt a b (o++(b.extract t j).reverse) i t:=by
 have h':TwoR (Le lt) (a.toList++b.toList) (a.toList.take i) (b.toList.take t++(b.toList.take j).drop t) o.toList.reverse:=by rw [<-zVA _ t j ht];exact h
 have:=h'.moveys λx hx z hz=>by obtain⟨n,h1,h2,h3⟩:=zNP hz;exact hl n z h1 h2 h3 x hx
 show TwoR _ _ _ _ (o++(b.extract t j).reverse).toList.reverse
 rw [zZR];exact this
theorem TwoH.dn{o:V}{i j:Nat}(h:TwoH lt a b o i j)(hz:i=0\/j=0):FinA lt a b (dnH a b o i j):=by
 have e:(dnH a b o i j).toList=a.toList.take i++b.toList.take j++o.toList.reverse:=by rw [Array.toList_append,Array.toList_append,zSK,zSK,Array.toList_reverse]
 unfold FinA;rw [e]
 refine h.fin λx hx y hy=>?_
 rcases hz with rfl|rfl
 ·cases hx
 ·cases hy
theorem TwoH.fb{o:V}{i:Nat}(h:TwoH lt a b o i 1)(hz: ∀x y,x∈a.toList->b.toList[0]? =some y->Le lt y x):FinA lt a b (fbH a b o i 1):=by
 have e:(fbH a b o i 1).toList=b.toList.take 1++a.toList.take i++o.toList.reverse:=by rw [Array.toList_append,Array.toList_append,zSK,zSK,Array.toList_reverse]
 unfold FinA;rw [e]
 refine h.swap.fin λy hy x hx=>?_
 obtain⟨n,h1,h2,h3⟩:=zGA hy
 exact hz x y (mem_of_mem_take hx) (by rw [show 0=n by omega];exact h3)
theorem TwoH.len{o:V}{i j:Nat}(h:TwoH lt a b o i j)(h1:i<=a.size)(h2:j<=b.size):o.size+(i+j)=a.size+b.size:=by
 have:=h.pm.length_eq
 simp only [lA,lT,length_reverse,Array.length_toList]at this
 omega
def J1(lt:Keyed->Keyed->Bool)(a b o:V)(i j:Nat):Prop:=1<=i/\i<=a.size/\2<=j/\j<=b.size/\TwoH lt a b o i j
structure Set3(M:Model)(A:Around)(E:VP)(s:Shared)(kd:SortKind)(D:Keyed->Prop)(lt:Keyed->Keyed->Bool)(a b:V):Prop extends Set2 M A E s kd D lt a b where
 fst: ∀x y,x∈a.toList->b.toList[0]? =some y->Le lt y x
def R6(lt:Keyed->Keyed->Bool)(a b:V)(n:Nat)(c:H6):Prop:= ∃i j o p q,c=(none,i,j,o,p,q)/\J1 lt a b o i j/\n<=o.size
def S6(lt:Keyed->Keyed->Bool)(a b:V)(n:Nat)(c:H6):Prop:=(∃r e,c=(some r,e)/\FinA lt a b r)\/R6 lt a b n c
def R7(lt:Keyed->Keyed->Bool)(a b:V)(n:Nat)(c:H7):Prop:= ∃i j o g p q,c=(none,i,j,o,g,p,q)/\J1 lt a b o i j/\n<=o.size
def S7(lt:Keyed->Keyed->Bool)(a b:V)(n:Nat)(c:H7):Prop:=(∃r e,c=(some r,e)/\FinA lt a b r)\/R7 lt a b n c
theorem R6.mono{n m:Nat}{c:H6}(h:R6 lt a b n c)(e:m<=n):R6 lt a b m c:=by
 obtain⟨o,i,j,p,q,h1,h2,h3⟩:=h;exact⟨o,i,j,p,q,h1,h2,by omega⟩
theorem S6.mono{n m:Nat}{c:H6}(h:S6 lt a b n c)(e:m<=n):S6 lt a b m c:=h.imp id λh=>h.mono e
theorem yKT(Z:Set3 M A E s kd D lt a b){st:SortSt}(hk:kindOf st=kd){o:V}{i j p q g:Nat}(h:J1 lt a b o i j){Q:ForInStep H6->SortSt->Prop}
  (hd: ∀c,S6 lt a b (o.size+1) c->Q (.done c) st) (hy: ∀c,R6 lt a b (o.size+1) c->Q (.yield c) st):wpS M A E s (hone a b g (none,i,j,o,p,q)) Q st:=by
 obtain⟨h1,h2,h3,h4,h5⟩:=h
 obtain⟨i,rfl⟩: ∃k,i=k+1:=⟨i - 1,by omega⟩
 obtain⟨j,rfl⟩: ∃k,j=k+1:=⟨j - 1,by omega⟩
 obtain⟨y,ey⟩:=kL (v:=b) (i:=j) (by omega)
 obtain⟨x,ex⟩:=kL (v:=a) (i:=i) (by omega)
 have hb:=zZP Z.C.rf h5.sb ey
 have ha:=zZP Z.C.rf h5.sa ex
 unfold hone
 simp only [add_sub_cancel]
 refine wpS_bind (yM ey (wpS_bind (yM ex (wpS_bind (Z.C.go y x (Z.db y (mem_of_getElem? ey)) (Z.da x (mem_of_getElem? ex)) st hk _ ?_)))))
 cases hlt:lt y x with
 |true=>
  have T':=h5.pushA ex λz hz=>Z.C.tr z y x (hb z hz) (Z.C.as y x hlt)
  have hs:(o.push x).size=o.size+1:=Array.size_push ..
  refine wpS_bind (yM ex ?_)
  by_cases c1:i=0
  ·rw [iP (by simpa using c1)]
   exact wpS_pure (hd _ (.inl ⟨_,_,rfl,T'.dn (.inl c1)⟩))
  ·rw [iN (by simpa using c1)]
   have I':J1 lt a b (o.push x) i (j+1):=⟨by omega,by omega,h3,h4,T'⟩
   split
   ·exact wpS_pure (hd _ (.inr ⟨_,_,_,_,_,rfl,I',by omega⟩))
   ·exact wpS_pure (hy _ ⟨_,_,_,_,_,rfl,I',by omega⟩)
 |false=>
  have T':=h5.pushB ey λz hz=>Z.C.tr z x y (ha z hz) hlt
  have hs:(o.push y).size=o.size+1:=Array.size_push ..
  refine wpS_bind (yM ey ?_)
  by_cases c1:j=1
  ·rw [iP (by simpa using c1)]
   subst c1
   exact wpS_pure (hd _ (.inl ⟨_,_,rfl,T'.fb Z.fst⟩))
  ·rw [iN (by simpa using c1)]
   have I':J1 lt a b (o.push y) (i+1) j:=⟨h1,h2,by omega,by omega,T'⟩
   split
   ·exact wpS_pure (hd _ (.inr ⟨_,_,_,_,_,rfl,I',by omega⟩))
   ·exact wpS_pure (hy _ ⟨_,_,_,_,_,rfl,I',by omega⟩)
theorem yKU(Z:Set3 M A E s kd D lt a b){st:SortSt}(hk:kindOf st=kd){o:V}{i j g t:Nat}(ht:1<=t)(h:J1 lt a b o i j){Q:H6->SortSt->Prop}
  (hq: ∀c,S6 lt a b (o.size+1) c->Q c st):wpS M A E s (hin1 a b t g (none,i,j,o,0,0)) Q st:=by
 unfold hin1
 refine wpS_forRange (I:=λx c st'=>st'=st/\R6 lt a b (o.size+x) c) ?_ ?_ ⟨rfl,i,j,o,0,0,rfl,h,by omega⟩
 ·rintro x c st' _ _ ⟨rfl,i',j',o',p',q',rfl,h',hn⟩
  refine yKT Z hk h' (λc hc=>hq c (hc.mono (by omega))) (λc hc=>⟨rfl,hc.mono (by omega)⟩)
 ·rintro c st' ⟨rfl,hN⟩
  exact hq c (.inr (hN.mono (by omega)))
theorem yFK(Z:Set3 M A E s kd D lt a b){st:SortSt}{o:V}{i j g p q:Nat}(h1:i+1<=a.size)(h2:2<=j)(h2':j<=b.size)(h3:TwoH lt a b o (i+1) j)
  (hl: ∀x,a.toList[i]? =some x-> ∀y,y∈b.toList.take j->Le lt y x) {n:Nat} (hn:n<=o.size) {Q:ForInStep H7->SortSt->Prop}
  (hd: ∀c,S7 lt a b n c->Q (.done c) st) (hy: ∀c,R7 lt a b n c->Q (.yield c) st):wpS M A E s (hw4 a b o (i+1) j g p q) Q st:=by
 obtain⟨x,ex⟩:=kL (v:=a) (i:=i) (by omega)
 have T':=h3.pushA ex (hl x ex)
 have hs:(o.push x).size=o.size+1:=Array.size_push ..
 unfold hw4
 simp only [add_sub_cancel]
 refine wpS_bind (yM ex ?_)
 by_cases c1:i=0
 ·rw [iP (by simpa using c1)]
  exact wpS_pure (hd _ (.inl ⟨_,_,rfl,T'.dn (.inl c1)⟩))
 ·rw [iN (by simpa using c1)]
  have I':J1 lt a b (o.push x) i j:=⟨by omega,by omega,h2,h2',T'⟩
  split
  ·exact wpS_pure (hd _ (.inr ⟨_,_,_,_,_,_,rfl,I',by omega⟩))
  ·exact wpS_pure (hy _ ⟨_,_,_,_,_,_,rfl,I',by omega⟩)
theorem yFL(Z:Set3 M A E s kd D lt a b){st:SortSt}(hk:kindOf st=kd){o:V}{i j g p q:Nat}(h1:i+1<=a.size)(h2:1<=j)(h2':j+1<=b.size)(h3:TwoH lt a b o (i+1) (j+1))
  (hl: ∀y,b.toList[j]? =some y-> ∀x,x∈a.toList.take (i+1)->Le lt x y) {n:Nat} (hn:n<=o.size) {Q:ForInStep H7->SortSt->Prop}
  (hd: ∀c,S7 lt a b n c->Q (.done c) st) (hy: ∀c,R7 lt a b n c->Q (.yield c) st):wpS M A E s (hw3 a b o (i+1) (j+1) g p q) Q st:=by
 obtain⟨y,ey⟩:=kL (v:=b) (i:=j) (by omega)
 obtain⟨x,ex⟩:=kL (v:=a) (i:=i) (by omega)
 have T':=h3.pushB ey (hl y ey)
 have hs:(o.push y).size=o.size+1:=Array.size_push ..
 have ha:=zZP Z.C.rf h3.sa ex
 unfold hw3
 simp only [add_sub_cancel]
 refine wpS_bind (yM ey ?_)
 by_cases c1:j=1
 ·rw [iP (by simpa using c1)]
  subst c1
  exact wpS_pure (hd _ (.inl ⟨_,_,rfl,T'.fb Z.fst⟩))
 ·rw [iN (by simpa using c1)]
  refine wpS_bind (yM ex (wpS_bind (zSH Z.C hk Z.db (Z.da x (mem_of_getElem? ex)) (by omega) (by omega) (zZQ T'.sb Z.C.rf) λk k1 k2 k3=>?_)))
  dsimp only
  have hle: ∀y',y'∈b.toList.take k->Le lt y' x:=by
   intro y' hy'
   obtain⟨m,m1,m2,m3⟩:=zGA hy'
   exact Z.C.as _ _ (k2 m y' m1 (by rw [zero_add];exact m3))
  by_cases ck:j - k>0
  ·rw [iP ck]
   have T2:=T'.cutB k1 λm z hm1 hm2 hz x' hx'=>Z.C.tr x' x z (ha x' hx') (k3 m z hm1 hm2 (by rw [zero_add];exact hz))
   have hs2:(o.push y++(b.extract k j).reverse).size>=o.size+1:=by rw [Array.size_append];omega
   by_cases c2:k=1
   ·rw [iP (by simpa using c2)]
    subst c2
    exact wpS_pure (hd _ (.inl ⟨_,_,rfl,T2.fb Z.fst⟩))
   ·rw [iN (by simpa using c2)]
    by_cases c3:k=0
    ·rw [iP (by simpa using c3)]
     exact wpS_pure (hd _ (.inl ⟨_,_,rfl,T2.dn (.inr c3)⟩))
    ·rw [iN (by simpa using c3)]
     refine yFK Z h1 (by omega) (by omega) T2 (λx' hx' y' hy'=>?_) (by omega) hd hy
     rw [ex]at hx';cases hx'
     exact hle y' hy'
  ·rw [iN ck]
   have hkj:k=j:=by omega
   subst hkj
   refine yFK Z h1 (by omega) (by omega) T' (λx' hx' y' hy'=>?_) (by omega) hd hy
   rw [ex]at hx';cases hx'
   exact hle y' hy'
theorem yFM(Z:Set3 M A E s kd D lt a b){st0 st:SortSt}(hg:Sg st0 st)(hk:kindOf st0=kd){o:V}{i j g p q:Nat}(h:J1 lt a b o i j){n:Nat}(hn:n<=o.size)
  {Q:ForInStep H7->SortSt->Prop} (hd: ∀c st,Sg st0 st->S7 lt a b n c->Q (.done c) st) (hy: ∀c st,Sg st0 st->R7 lt a b n c->Q (.yield c) st):
  wpS M A E s (hw2 a b o i j g p q) Q st:=by
 obtain⟨h1,h2,h3,h4,h5⟩:=h
 obtain⟨j,rfl⟩: ∃k,j=k+1:=⟨j - 1,by omega⟩
 obtain⟨y,ey⟩:=kL (v:=b) (i:=j) (by omega)
 have hb:=zZP Z.C.rf h5.sb ey
 unfold hw2
 simp only [add_sub_cancel]
 refine wpS_bind (zMB hg λst' hg'=>?_)
 have hk':kindOf st'=kd:=hg'.kind.trans hk
 refine wpS_bind (yM ey (wpS_bind (zSG Z.C hk' Z.da (Z.db y (mem_of_getElem? ey)) (by omega) (by omega) (zZQ h5.sa Z.C.rf) λk k1 k2 k3=>?_)))
 dsimp only
 have hle: ∀x',x'∈a.toList.take k->Le lt x' y:=by
  intro x' hx'
  obtain⟨m,m1,m2,m3⟩:=zGA hx'
  exact k2 m x' m1 (by rw [zero_add];exact m3)
 by_cases ck:i - k>0
 ·rw [iP ck]
  have T2:=h5.cutA k1 λm z hm1 hm2 hz y' hy'=>Z.C.tr y' y z (hb y' hy') (Z.C.as _ _ (k3 m z hm1 hm2 (by rw [zero_add];exact hz)))
  have hs2:(o++(a.extract k i).reverse).size>=o.size:=by rw [Array.size_append];omega
  by_cases c1:k=0
  ·rw [iP (by simpa using c1)]
   exact wpS_pure (hd _ _ hg' (.inl ⟨_,_,rfl,T2.dn (.inl c1)⟩))
  ·rw [iN (by simpa using c1)]
   obtain⟨k,rfl⟩: ∃m,k=m+1:=⟨k - 1,by omega⟩
   refine yFL Z hk' (by omega) (by omega) (by omega) T2 (λy' hy' x' hx'=>?_) (by omega) (λc hc=>hd c _ hg' hc) (λc hc=>hy c _ hg' hc)
   rw [ey]at hy';cases hy'
   exact hle x' hx'
 ·rw [iN ck]
  have hki:k=i:=by omega
  subst hki
  obtain⟨k,rfl⟩: ∃m,k=m+1:=⟨k - 1,by omega⟩
  refine yFL Z hk' (by omega) (by omega) (by omega) h5 (λy' hy' x' hx'=>?_) hn (λc hc=>hd c _ hg' hc) (λc hc=>hy c _ hg' hc)
  rw [ey]at hy';cases hy'
  exact hle x' hx'
theorem yKV(Z:Set3 M A E s kd D lt a b){st0 st:SortSt}(hg:Sg st0 st)(hk:kindOf st0=kd){o:V}{i j g p q t:Nat}(h:J1 lt a b o i j){n:Nat}(hn:n<=o.size)
  {Q:H7->SortSt->Prop} (hq: ∀c st,Sg st0 st->S7 lt a b n c->Q c st):wpS M A E s (hin2 a b t (none,i,j,o,g,p,q)) Q st:=by
 unfold hin2
 refine wpS_forRange (I:=λx c st'=>Sg st0 st'/\R7 lt a b n c) ?_ ?_ ⟨hg,i,j,o,g,p,q,rfl,h,hn⟩
 ·rintro x c st' _ _ ⟨hg',i',j',o',g',p',q',rfl,h',hn'⟩
  dsimp only
  split
  ·exact yFM Z hg' hk h' hn' (λc st hs hc=>hq c st hs hc) (λc st hs hc=>⟨hs,hc⟩)
  ·exact yFM Z hg' hk h' hn' (λc st hs hc=>hq c st hs hc) (λc st hs hc=>⟨hs,hc⟩)
 ·rintro c st' ⟨hg',hN⟩
  exact hq c st' hg' (.inr hN)
theorem yQJ(Z:Set3 M A E s kd D lt a b){st:SortSt}(hk:kindOf st=kd)(sa:a.toList.Pairwise (Le lt))(sb:b.toList.Pairwise (Le lt))(na:1<=a.size)(nb:1<=b.size)
  {Q:V->SortSt->Prop} (hq: ∀r st',Sg st st'->FinA lt a b r->Q r st'):wpS M A E s (zNM a b) Q st:=by
 rw [zVC]
 unfold mHi
 refine wpS_bind (zED ?_)
 obtain⟨x,ex⟩:=kL (v:=a) (i:=a.size - 1) (by omega)
 have T0:TwoH lt a b #[] (a.size - 1+1) b.size:=by
  rw [Nat.sub_add_cancel na]
  refine⟨?_,?_,?_⟩
  ·rw [take_of_length_le (by simp)];simpa using sa
  ·rw [take_of_length_le (by simp)];simpa using sb
  ·rw [take_of_length_le (by simp),take_of_length_le (by simp)];simp
 have T1:TwoH lt a b #[x] (a.size - 1) b.size:=T0.pushA ex λy hy=>Z.lst x y ex (mem_of_mem_take hy)
 refine wpS_bind (yM ex ?_)
 by_cases c1:a.size - 1=0
 ·rw [iP (by simpa using c1)]
  exact wpS_pure (hq _ _ (Sg.refl st) (T1.dn (.inl c1)))
 ·rw [iN (by simpa using c1)]
  by_cases c2:b.size=1
  ·rw [iP (by simpa using c2)]
   rw [c2]at T1 ⊢
   exact wpS_pure (hq _ _ (Sg.refl st) (T1.fb Z.fst))
  ·rw [iN (by simpa using c2)]
   refine wpS_bind (wpS_get ?_)
   refine wpS_bind (wpS_mono (m:=outH a b (a.size+b.size) (none,a.size - 1,b.size,#[x],gallopOf st)) (Q:=λc st'=>Sg st st'/\ ∃r e,c=(some r,e)/\FinA lt a b r) ?_ ?_)
   ·unfold outH
    refine wpS_forRange (I:=λx c st'=>Sg st st'/\ ∃i j o g,c=(none,i,j,o,g)/\J1 lt a b o i j/\x+1<=o.size) ?_ ?_ ⟨Sg.refl st,_,_,_,_,rfl,⟨by omega,by omega,by omega,by omega,T1⟩,by simp⟩
    ·rintro n c st' _ _ ⟨hg,i,j,o,g,rfl,hI,hn⟩
     dsimp only
     refine wpS_bind (yKU Z (hg.kind.trans hk) (by omega) hI λd hd=>?_)
     rcases hd with⟨r,e,rfl,hF⟩|⟨i',j',o',p',q',rfl,hI',hn'⟩
     ·exact wpS_pure ⟨hg,r,_,rfl,hF⟩
     ·dsimp only
      refine wpS_bind (zED ?_)
      refine wpS_bind (yKV Z hg hk hI' hn' λe st2 hg2 he=>?_)
      rcases he with⟨r,e,rfl,hF⟩|⟨i2,j2,o2,g2,p2,q2,rfl,hI2,hn2⟩
      ·exact wpS_pure ⟨hg2,r,_,rfl,hF⟩
      ·dsimp only
       refine wpS_bind (zMB hg2 λst3 hg3=>?_)
       exact wpS_pure ⟨hg3,i2,j2,o2,_,rfl,hI2,by omega⟩
    ·rintro c st' ⟨hg,i,j,o,g,rfl,hI,hn⟩
     have:=hI.2.2.2.2.len hI.2.1 hI.2.2.2.1
     omega
   ·rintro c st' ⟨hg,r,e,rfl,hF⟩
    exact wpS_pure (hq r st' hg hF)
end
end Srt
set_option autoImplicit false
namespace Srt
open PySem PyProof.Rows
abbrev C2:=Option (Option Nat)×Nat
abbrev C3:=Option (Option Nat)×Nat×Nat
noncomputable def ascL(lo a n:Nat):SM C2:=forIn [a:n] ((none,a):C2) λ_ c=>ltAt' (lo+c.2) (lo+c.2 - 1) >>= λo=>match o with
 |some q=>if q=true then pure (.done (none,c.2))else pure (.yield (none,c.2+1))
 |_=>pure (.done (some none,c.2))
noncomputable def tl3(lo m n:Nat):SM (Option Nat):=reverseSlice' lo (lo+m) >>= λ_=>ascL lo m n >>= λc=>match c.1 with
 |some r=>pure r
 |none=>pure (some c.2)
noncomputable def dscL(lo a n:Nat):SM C3:=forIn [a:n] ((none,a,0):C3) λ_ c=>ltAt' (lo+c.2.1) (lo+c.2.1 - 1) >>= λo=>match o with
 |some q=>if q=true then
    if c.2.2>0 then reverseSlice' (lo+c.2.1 - (c.2.2+1)) (lo+c.2.1) >>= λ_=>pure (.yield (none,c.2.1+1,0))else pure (.yield (none,c.2.1+1,0))
   else ltAt' (lo+c.2.1 - 1) (lo+c.2.1) >>= λo=>match o with
    |some q=>if q=true then pure (.done (none,c.2.1,c.2.2))else pure (.yield (none,c.2.1+1,c.2.2+1))
    |_=>pure (.done (some none,c.2.1,c.2.2))
 |_=>pure (.done (some none,c.2.1,c.2.2))
noncomputable def dscP(lo m n:Nat):SM (Option Nat):=liftM (rule "list.sort.descending-run") >>= λ_=>dscL lo (m+1) n >>= λc=>match c.1 with
 |some r=>pure r
 |none=>if c.2.2>0 then reverseSlice' (lo+c.2.1 - (c.2.2+1)) (lo+c.2.1) >>= λ_=>tl3 lo c.2.1 n else tl3 lo c.2.1 n
noncomputable def cntR(lo n:Nat):SM (Option Nat):=ascL lo 1 n >>= λc=>match c.1 with
 |some r=>pure r
 |none=>if(c.2==n)=true then pure (some c.2)else if c.2>1 then ltAt' lo (lo+c.2 - 1) >>= λo=>(match o with
    |some q=>if q=true then pure (some c.2)else reverseSlice' lo (lo+c.2) >>= λ_=>dscP lo c.2 n
    |_=>pure none)
   else dscP lo c.2 n
theorem zPF(lo n:Nat):countRun' lo n=cntR lo n:=by kernel_rfl
noncomputable def binI(lo k:Nat):SM (Option Bool×Nat×Nat):=forIn [0:k] ((none,0,k):Option Bool×Nat×Nat) λ_ c=>
 if c.2.1>=c.2.2 then pure (.done (none,c.2.1,c.2.2))else ltAt' (lo+k) (lo+(c.2.1+c.2.2) / 2) >>= λo=>match o with
  |some q=>if q=true then pure (.yield (none,c.2.1,(c.2.1+c.2.2) / 2))else pure (.yield (none,(c.2.1+c.2.2) / 2+1,c.2.2))
  |_=>pure (.done (some false,c.2.1,c.2.2))
noncomputable def binS(lo n ok:Nat):SM Bool:=(forIn [max ok 1:n] ((none,()):Option Bool×Unit) λk _=>binI lo k >>= λc=>match c.1 with
  |some r=>pure (.done (some r,()))
  |none=>moveDown' (lo+k) (lo+c.2.1) >>= λ_=>pure (.yield (none,()))) >>= λc=>match c.1 with
 |some r=>pure r
 |none=>pure true
theorem zLS(lo n ok:Nat):binarySort' lo n ok=binS lo n ok:=by kernel_rfl
def Kx(d:Keyed)(v:V)(i:Nat):Keyed:=(v[i]?).getD d
theorem zGB{d:Keyed}{v u:V}{i j:Nat}(h:v[i]? =u[j]?):Kx d v i=Kx d u j:=by unfold Kx;rw [h]
theorem zJZ{d:Keyed}{v:V}{i j:Nat}(hj:j<=v.size)(k:Nat):Kx d (mirror v i j ((j - i) / 2)) k=if i<=k/\k<j then Kx d v (i+j - 1 - k)else Kx d v k:=by
 have e:=getElem?_mirror_all (i:=i) hj k
 by_cases h1:i<=k/\k<j
 ·rw [iP h1]at e ⊢; exact zGB e
 ·rw [iN h1]at e ⊢; exact zGB e
theorem zQJ{d:Keyed}{v:V}{src m:Nat}(hs:src<v.size)(hm:m<=src)(k:Nat):
  Kx d (bubble v src m) k=if k=src - m then Kx d v src else if src - m<k/\k<=src then Kx d v (k - 1)else Kx d v k:=by
 have e:=getElem?_bubble hs m hm k
 by_cases h1:k=src - m
 ·rw [iP h1]at e ⊢; exact zGB e
 ·rw [iN h1]at e ⊢
  by_cases h2:src - m<k/\k<=src
  ·rw [iP h2]at e ⊢; exact zGB e
  ·rw [iN h2]at e ⊢; exact zGB e
structure SB(a₀:V)(kd:SortKind)(pd:Array (Nat×Nat×Nat))(f:V)(lo:Nat)(st:SortSt):Prop where
 pm:(arrOf st).Perm a₀
 kind:kindOf st=kd
 fl:failedOf st=none
 pd:pendingOf st=pd
 fx: ∀i,i<lo->(arrOf st)[i]? =f[i]?
section
variable{M:Model}{A:Around}{E:VP}{s:Shared}{kd:SortKind}{D:Keyed->Prop}{lt:Keyed->Keyed->Bool}{a₀ f:V}{pd:Array (Nat×Nat×Nat)}{lo:Nat}{st:SortSt}{d:Keyed}
theorem SB.size(h:SB a₀ kd pd f lo st):(arrOf st).size=a₀.size:=h.pm.size_eq
theorem SB.rev(h:SB a₀ kd pd f lo st){i j:Nat}(hi:lo<=i)(hj:j<=a₀.size):SB a₀ kd pd f lo (setArr st (mirror (arrOf st) i j ((j - i) / 2))):=
 ⟨(mirror_perm _ _ _ _).trans h.pm,h.kind,h.fl,h.pd,λk hk=>by
  show(mirror (arrOf st) i j ((j - i) / 2))[k]? =_
  rw [getElem?_mirror_all (by rw [h.size];exact hj),iN (by omega)];exact h.fx k hk⟩
theorem SB.bub(h:SB a₀ kd pd f lo st){i m:Nat}(hi:lo+m<=i)(hj:i<a₀.size):SB a₀ kd pd f lo (setArr st (bubble (arrOf st) i m)):=
 ⟨(bubble_perm _ _ _).trans h.pm,h.kind,h.fl,h.pd,λk hk=>by
  show(bubble (arrOf st) i m)[k]? =_
  rw [getElem?_bubble (by rw [h.size];exact hj) _ (by omega),iN (by omega),iN (by omega)];exact h.fx k hk⟩
theorem zIU(C:Cmp M A E s kd D lt)(h:SB a₀ kd pd f lo st)(hD: ∀x,x∈a₀.toList->D x){i j:Nat}(hi:i<a₀.size)(hj:j<a₀.size){Q:Option Bool->SortSt->Prop}
  (hq:Q (some (lt (Kx d (arrOf st) i) (Kx d (arrOf st) j))) st):wpS M A E s (ltAt' i j) Q st:=by
 obtain⟨x,ex⟩:=kL (v:=arrOf st) (i:=i) (by rw [h.size];exact hi)
 obtain⟨y,ey⟩:=kL (v:=arrOf st) (i:=j) (by rw [h.size];exact hj)
 have mx:x∈a₀.toList:=(Array.perm_iff_toList_perm.mp h.pm).mem_iff.mp (mem_of_getElem? ex)
 have my:y∈a₀.toList:=(Array.perm_iff_toList_perm.mp h.pm).mem_iff.mp (mem_of_getElem? ey)
 have e1:Kx d (arrOf st) i=x:=by unfold Kx;rw [<-Array.getElem?_toList,ex];rfl
 have e2:Kx d (arrOf st) j=y:=by unfold Kx;rw [<-Array.getElem?_toList,ey];rfl
 rw [e1,e2]at hq
 rw [ltAt'_eq]
 refine wpS_bind (wpS_get ?_)
 exact wpS_bind (yM ex (wpS_bind (yM ey (C.go x y (hD x mx) (hD y my) st h.kind _ hq))))
theorem zSL{i j:Nat}{Q:Unit->SortSt->Prop}(h:Q () (setArr st (mirror (arrOf st) i j ((j - i) / 2)))):wpS M A E s (reverseSlice' i j) Q st:=by
 rw [reverseSlice'_eq];exact wpS_modify h
def Up(lt:Keyed->Keyed->Bool)(d:Keyed)(v:V)(lo n:Nat):Prop:= ∀i j,i<=j->j<n->Le lt (Kx d v (lo+i)) (Kx d v (lo+j))
def Dn(lt:Keyed->Keyed->Bool)(d:Keyed)(v:V)(lo n:Nat):Prop:= ∀i j,i<=j->j<n->Le lt (Kx d v (lo+j)) (Kx d v (lo+i))
theorem Up.step(C:Cmp M A E s kd D lt){v:V}{x:Nat}(hs:Up lt d v lo x)(hx:1<=x)(hl:lt (Kx d v (lo+x)) (Kx d v (lo+x - 1))=false):Up lt d v lo (x+1):=by
 intro i j hij hj
 by_cases hjx:j<x
 ·exact hs i j hij hjx
 ·have hj':j=x:=by omega
  subst hj'
  by_cases hi':i=j
  ·subst hi';exact C.rf _
  ·have:=hs i (j - 1) (by omega) (by omega)
   rw [show lo+(j - 1)=lo+j - 1 by omega]at this
   exact C.tr _ _ _ this hl
theorem zZS(C:Cmp M A E s kd D lt)(hD: ∀x,x∈a₀.toList->D x)(h:SB a₀ kd pd f lo st){a n:Nat}(hn:lo+n<=a₀.size)(ha:1<=a)(han:a<=n)(hs:Up lt d (arrOf st) lo a){Q:C2->SortSt->Prop}
  (hq: ∀m,a<=m->m<=n->Up lt d (arrOf st) lo m->(m=n\/lt (Kx d (arrOf st) (lo+m)) (Kx d (arrOf st) (lo+m - 1))=true)->Q (none,m) st):wpS M A E s (ascL lo a n) Q st:=by
 unfold ascL
 refine wpS_forRange (I:=λx c st'=>st'=st/\c=(none,x)/\Up lt d (arrOf st) lo x) ?_ ?_ ⟨rfl,rfl,hs⟩
 ·rintro x c st' hax hxn ⟨rfl,rfl,hs'⟩
  dsimp only
  refine wpS_bind (zIU (d:=d) C h hD (by omega) (by omega) ?_)
  cases hl:lt (Kx d (arrOf st') (lo+x)) (Kx d (arrOf st') (lo+x - 1))with
  |true=>exact wpS_pure (hq x hax (by omega) hs' (.inr hl))
  |false=>exact wpS_pure ⟨rfl,rfl,hs'.step C (by omega) hl⟩
 ·rintro c st' ⟨rfl,rfl,hs'⟩
  rw [show max a n=n by omega]at hs' ⊢
  exact hq n han (le_refl _) hs' (.inl rfl)
theorem Up.of_mirror(h:SB a₀ kd pd f lo st){m:Nat}(hm:lo+m<=a₀.size)(hs:Dn lt d (arrOf st) lo m):Up lt d (mirror (arrOf st) lo (lo+m) ((lo+m - lo) / 2)) lo m:=by
 intro i j hij hj
 rw [zJZ (by rw [h.size];exact hm),zJZ (by rw [h.size];exact hm),iP (by omega),iP (by omega)]
 have:=hs (m - 1 - j) (m - 1 - i) (by omega) (by omega)
 rw [show lo+(m - 1 - j)=lo+(lo+m) - 1 - (lo+j) by omega,show lo+(m - 1 - i)=lo+(lo+m) - 1 - (lo+i) by omega]at this
 exact this
theorem yFN(C:Cmp M A E s kd D lt)(hD: ∀x,x∈a₀.toList->D x)(h:SB a₀ kd pd f lo st){m n:Nat}(hn:lo+n<=a₀.size)(h1:1<=m)(hm:m<=n)(hs:Dn lt d (arrOf st) lo m){Q:Option Nat->SortSt->Prop}
  (hq: ∀m st',SB a₀ kd pd f lo st'->1<=m->m<=n->Up lt d (arrOf st') lo m->Q (some m) st'):wpS M A E s (tl3 lo m n) Q st:=by
 unfold tl3
 refine wpS_bind (zSL ?_)
 have h':=h.rev (i:=lo) (j:=lo+m) (le_refl _) (by omega)
 exact wpS_bind (zZS C hD h' hn h1 hm (Up.of_mirror h (by omega) hs) λk k1 k2 k3 _=>wpS_pure (hq k _ h' (by omega) k2 k3))
def Eqs(lt:Keyed->Keyed->Bool)(d:Keyed)(v:V)(i j:Nat):Prop:= ∀k l,i<=k->k<j->i<=l->l<j->Le lt (Kx d v k) (Kx d v l)
theorem Dn.mirror(C:Cmp M A E s kd D lt)(h:SB a₀ kd pd f lo st){i j n:Nat}(hj:j<=a₀.size)(he:Eqs lt d (arrOf st) i j)(hs:Dn lt d (arrOf st) lo n):Dn lt d (mirror (arrOf st) i j ((j - i) / 2)) lo n:=by
 have key: ∀k,Le lt (Kx d (PyProof.Rows.mirror (arrOf st) i j ((j - i) / 2)) k) (Kx d (arrOf st) k)/\Le lt (Kx d (arrOf st) k) (Kx d (PyProof.Rows.mirror (arrOf st) i j ((j - i) / 2)) k):=by
  intro k
  rw [zJZ (by rw [h.size];exact hj)]
  split
  ·exact⟨he _ _ (by omega) (by omega) (by omega) (by omega),he _ _ (by omega) (by omega) (by omega) (by omega)⟩
  ·exact⟨C.rf _,C.rf _⟩
 intro p q hpq hq
 exact C.tr _ _ _ (key _).1 (C.tr _ _ _ (hs p q hpq hq) (key _).2)
theorem yKW(C:Cmp M A E s kd D lt)(hD: ∀x,x∈a₀.toList->D x)(h:SB a₀ kd pd f lo st){a n:Nat}(hn:lo+n<=a₀.size)(h1:1<=a)(han:a<=n)(hs:Dn lt d (arrOf st) lo a){Q:C3->SortSt->Prop}
  (hq: ∀m e st',SB a₀ kd pd f lo st'->a<=m->m<=n->Dn lt d (arrOf st') lo m->e+1<=m->Eqs lt d (arrOf st') (lo+m - (e+1)) (lo+m)->Q (none,m,e) st'):wpS M A E s (dscL lo a n) Q st:=by
 unfold dscL
 refine wpS_forRange (I:=λx c st'=> ∃e,c=(none,x,e)/\SB a₀ kd pd f lo st'/\Dn lt d (arrOf st') lo x/\e+1<=x/\Eqs lt d (arrOf st') (lo+x - (e+1)) (lo+x)) ?_ ?_
  ⟨0,rfl,h,hs,by omega,λk l h1 h2 h3 h4=>by rw [show k=l by omega];exact C.rf _⟩
 ·rintro x c st' hax hxn ⟨e,rfl,hB,hs',hq',he⟩
  dsimp only
  have one: ∀v:V,Eqs lt d v (lo+(x+1) - (0+1)) (lo+(x+1)):=λv k l h1 h2 h3 h4=>by rw [show k=l by omega];exact C.rf _
  refine wpS_bind (zIU (d:=d) C hB hD (by omega) (by omega) ?_)
  cases hl:lt (Kx d (arrOf st') (lo+x)) (Kx d (arrOf st') (lo+x - 1))with
  |true=>
   have nx:Dn lt d (arrOf st') lo (x+1):=by
    intro i j hij hj
    by_cases hjx:j<x
    ·exact hs' i j hij hjx
    ·have hj':j=x:=by omega
     subst hj'
     by_cases hi':i=j
     ·subst hi';exact C.rf _
     ·have:=hs' i (j - 1) (by omega) (by omega)
      rw [show lo+(j - 1)=lo+j - 1 by omega]at this
      exact C.tr _ _ _ (C.as _ _ hl) this
   dsimp only
   rw [iP rfl]
   by_cases ce:e>0
   ·rw [iP ce]
    refine wpS_bind (zSL (wpS_pure ⟨0,rfl,hB.rev (by omega) (by omega),nx.mirror C hB (by omega) he,by omega,one _⟩))
   ·rw [iN ce]
    exact wpS_pure ⟨0,rfl,hB,nx,by omega,one _⟩
  |false=>
   dsimp only
   rw [iN (by simp)]
   refine wpS_bind (zIU (d:=d) C hB hD (by omega) (by omega) ?_)
   cases hr:lt (Kx d (arrOf st') (lo+x - 1)) (Kx d (arrOf st') (lo+x))with
   |true=>exact wpS_pure (hq x e st' hB hax (by omega) hs' hq' he)
   |false=>
    refine wpS_pure ⟨e+1,rfl,hB,λi j hij hj=>?_,by omega,λk l k1 k2 k3 k4=>?_⟩
    ·by_cases hjx:j<x
     ·exact hs' i j hij hjx
     ·have hj':j=x:=by omega
      subst hj'
      by_cases hi':i=j
      ·subst hi';exact C.rf _
      ·have:=hs' i (j - 1) (by omega) (by omega)
       rw [show lo+(j - 1)=lo+j - 1 by omega]at this
       exact C.tr _ _ _ hr this
    ·by_cases ck:k=lo+x
     ·subst ck
      by_cases cl:l=lo+x
      ·subst cl;exact C.rf _
      ·exact C.tr _ _ _ hr (he _ _ (by omega) (by omega) (by omega) (by omega))
     ·by_cases cl:l=lo+x
      ·subst cl
       exact C.tr _ _ _ (he k (lo+x - 1) (by omega) (by omega) (by omega) (by omega)) hl
      ·exact he _ _ (by omega) (by omega) (by omega) (by omega)
 ·rintro c st' ⟨e,rfl,hB,hs',hq',he⟩
  rw [show max a n=n by omega]at hs' hq' he ⊢
  exact hq n e st' hB han (le_refl _) hs' hq' he
theorem zZT(C:Cmp M A E s kd D lt)(hD: ∀x,x∈a₀.toList->D x)(h:SB a₀ kd pd f lo st){m n:Nat}(hn:lo+n<=a₀.size)(hm:m+1<=n)(hs:Dn lt d (arrOf st) lo (m+1)){Q:Option Nat->SortSt->Prop}
  (hq: ∀m st',SB a₀ kd pd f lo st'->1<=m->m<=n->Up lt d (arrOf st') lo m->Q (some m) st'):wpS M A E s (dscP lo m n) Q st:=by
 unfold dscP
 refine wpS_bind (zED ?_)
 refine wpS_bind (yKW C hD h hn (by omega) hm hs λk e st' hB k1 k2 k3 k4 k5=>?_)
 dsimp only
 by_cases ce:e>0
 ·rw [iP ce]
  exact wpS_bind (zSL (yFN C hD (hB.rev (by omega) (by omega)) hn (by omega) k2 (k3.mirror C hB (by omega) k5) hq))
 ·rw [iN ce]
  exact yFN C hD hB hn (by omega) k2 k3 hq
theorem yKX(C:Cmp M A E s kd D lt)(hD: ∀x,x∈a₀.toList->D x)(h:SB a₀ kd pd f lo st){n:Nat}(hn:lo+n<=a₀.size)(h1:1<=n){Q:Option Nat->SortSt->Prop}
  (hq: ∀m st',SB a₀ kd pd f lo st'->1<=m->m<=n->Up lt d (arrOf st') lo m->Q (some m) st'):wpS M A E s (countRun' lo n) Q st:=by
 rw [zPF]
 unfold cntR
 refine wpS_bind (zZS (d:=d) C hD h hn (le_refl 1) h1 (λi j hij hj=>by rw [show i=j by omega];exact C.rf _) λm m1 m2 hs hor=>?_)
 dsimp only
 by_cases cm:m=n
 ·rw [iP (by simpa using cm)]
  exact wpS_pure (hq m st h m1 m2 hs)
 ·rw [iN (by simpa using cm)]
  have hlt:=hor.resolve_left cm
  by_cases cg:m>1
  ·rw [iP cg]
   refine wpS_bind (zIU (d:=d) C h hD (by omega) (by omega) ?_)
   cases hr:lt (Kx d (arrOf st) lo) (Kx d (arrOf st) (lo+m - 1))with
   |true=>exact wpS_pure (hq m st h m1 m2 hs)
   |false=>
    have all:Eqs lt d (arrOf st) lo (lo+m):=by
     intro k l k1 k2 k3 k4
     have a1:=hs 0 (l - lo) (by omega) (by omega)
     have a2:=hs (k - lo) (m - 1) (by omega) (by omega)
     rw [show lo+0=lo by omega,show lo+(l - lo)=l by omega]at a1
     rw [show lo+(k - lo)=k by omega,show lo+(m - 1)=lo+m - 1 by omega]at a2
     exact C.tr _ _ _ a2 (C.tr _ _ _ hr a1)
    have dn:Dn lt d (arrOf st) lo (m+1):=by
     intro i j hij hj
     by_cases hjm:j<m
     ·exact all _ _ (by omega) (by omega) (by omega) (by omega)
     ·have hj':j=m:=by omega
      subst hj'
      by_cases hi':i=j
      ·subst hi';exact C.rf _
      ·exact C.tr _ _ _ (C.as _ _ hlt) (all _ _ (by omega) (by omega) (by omega) (by omega))
    dsimp only
    rw [iN (by simp)]
    exact wpS_bind (zSL (zZT C hD (h.rev (le_refl _) (by omega)) hn (by omega) (dn.mirror C h (by omega) all) hq))
  ·rw [iN cg]
   have:m=1:=by omega
   subst this
   refine zZT C hD h hn (by omega) (λi j hij hj=>?_) hq
   by_cases hi':i=j
   ·subst hi';exact C.rf _
   ·rw [show i=0 by omega,show j=1 by omega]
    exact C.as _ _ hlt
theorem yKY(C:Cmp M A E s kd D lt)(hD: ∀x,x∈a₀.toList->D x)(h:SB a₀ kd pd f lo st){n ok:Nat}(hn:lo+n<=a₀.size)(hok:ok<=n)(hs:Up lt d (arrOf st) lo ok){Q:Bool->SortSt->Prop}
  (hq: ∀st',SB a₀ kd pd f lo st'->Up lt d (arrOf st') lo n->Q true st'):wpS M A E s (binarySort' lo n ok) Q st:=by
 rw [zLS]
 unfold binS
 refine wpS_bind (wpS_mono (wpS_forRange (I:=λk c st'=>c=(none,())/\SB a₀ kd pd f lo st'/\Up lt d (arrOf st') lo (min k n))
  (Q:=λc st'=>c=(none,())/\SB a₀ kd pd f lo st'/\Up lt d (arrOf st') lo n) ?_ ?_ ?_) ?_)
 ·rintro k c st' hak hkn ⟨rfl,hB,hs'⟩
  rw [show min k n=k by omega]at hs'
  unfold binI
  refine wpS_bind (wpS_mono (wpS_forRange (I:=λx c st''=>st''=st'/\ ∃l r,c=(none,l,r)/\l<=r/\r<=k/\r - l<=k - x/\
    (∀i,i<l->Le lt (Kx d (arrOf st') (lo+i)) (Kx d (arrOf st') (lo+k)))/\(∀i,r<=i->i<k->Le lt (Kx d (arrOf st') (lo+k)) (Kx d (arrOf st') (lo+i))))
   (Q:=λc st''=>st''=st'/\ ∃l r,c=(none,l,r)/\l<=k/\
    (∀i,i<l->Le lt (Kx d (arrOf st') (lo+i)) (Kx d (arrOf st') (lo+k)))/\(∀i,l<=i->i<k->Le lt (Kx d (arrOf st') (lo+k)) (Kx d (arrOf st') (lo+i)))) ?_ ?_ ?_) ?_)
  ·rintro x c st'' _ hxk ⟨rfl,l,r,rfl,hlr,hrk,hm,hlo,hhi⟩
   dsimp only
   by_cases hge:l>=r
   ·rw [iP hge]
    have:l=r:=by omega
    subst this
    exact wpS_pure ⟨rfl,l,l,rfl,hrk,hlo,hhi⟩
   ·rw [iN hge]
    refine wpS_bind (zIU (d:=d) C hB hD (by omega) (by omega) ?_)
    cases hl:lt (Kx d (arrOf st'') (lo+k)) (Kx d (arrOf st'') (lo+(l+r) / 2))with
    |true=>exact wpS_pure ⟨rfl,l,(l+r) / 2,rfl,by omega,by omega,by omega,hlo,λi h1 h2=>C.tr _ _ _ (C.as _ _ hl) (hs' _ _ h1 h2)⟩
    |false=>exact wpS_pure ⟨rfl,(l+r) / 2+1,r,rfl,by omega,by omega,by omega,λi h1=>C.tr _ _ _ (hs' i ((l+r) / 2) (by omega) (by omega)) hl,hhi⟩
  ·rintro c st'' ⟨rfl,l,r,rfl,hlr,hrk,hm,hlo,hhi⟩
   have:l=r:=by omega
   subst this
   exact⟨rfl,l,l,rfl,hrk,hlo,hhi⟩
  ·exact⟨rfl,0,k,rfl,by omega,by omega,by omega,λi hi=>by omega,λi h1 h2=>by omega⟩
  ·rintro c st'' ⟨rfl,l,r,rfl,hlk,hlo,hhi⟩
   dsimp only
   rw [moveDown'_eq]
   have hks:lo+k<(arrOf st'').size:=by rw [hB.size];omega
   refine wpS_bind (wpS_modify (wpS_pure ⟨rfl,?_,?_⟩))
   ·exact hB.bub (by omega) (by omega)
   ·rw [show min (k+1) n=k+1 by omega]
    intro i j hij hj
    show Le lt (Kx d (bubble (arrOf st'') (lo+k) (lo+k - (lo+l))) (lo+i)) (Kx d (bubble (arrOf st'') (lo+k) (lo+k - (lo+l))) (lo+j))
    rw [zQJ hks (by omega),zQJ hks (by omega),show lo+k - (lo+k - (lo+l))=lo+l by omega]
    have sh: ∀i,1<=i->lo+i - 1=lo+(i - 1):=λi hi=>by omega
    repeat' split
    all_goals first
     |(exfalso;omega)
     |exact C.rf _
     |exact hlo _ (by omega)
     |(rw [sh _ (by omega)];exact hhi _ (by omega) (by omega))
     |exact hhi _ (by omega) (by omega)
     |exact hs' _ _ (by omega) (by omega)
     |(rw [sh i (by omega)];exact hs' _ _ (by omega) (by omega))
     |(rw [sh j (by omega)];exact hs' _ _ (by omega) (by omega))
     |(rw [sh i (by omega),sh j (by omega)];exact hs' _ _ (by omega) (by omega))
     |(rw [sh i (by omega)];exact hlo _ (by omega))
 ·rintro c st' ⟨hc,hB,hs'⟩
  refine⟨hc,hB,?_⟩
  rwa [show min (max (max ok 1) n) n=n by omega]at hs'
 ·refine⟨rfl,h,λi j hij hj=>?_⟩
  by_cases h1:ok=0
  ·rw [show i=j by omega];exact C.rf _
  ·exact hs i j hij (by omega)
 ·rintro c st' ⟨rfl,hB,hs'⟩
  exact wpS_pure (hq st' hB hs')
end
end Srt
set_option autoImplicit false
namespace Srt
open PySem PyProof.Rows
abbrev putAll(w:V)(p:Nat)(v:V):V:=w.toList.zipIdx.foldl (λa (x,j)=>a.setIfInBounds (p+j) x) v
noncomputable def yFO(p:Nat)(w:V):SM Bool:=(modify λs=>setArr s (putAll w p (arrOf s))) >>= λ_=>get >>= λs=>pure (failedOf s).isNone
noncomputable def mAt(i:Nat):SM Bool:=get >>= λst=>match (pendingOf st)[i]?,(pendingOf st)[i+1]? with
 |some (sa,na,pw),some (sb,nb,_)=>set (setPending st (((pendingOf st).setIfInBounds i (sa,na+nb,pw)).eraseIdxIfInBounds (i+1))) >>= λ_=>
  elem' (arrOf st) sb >>= λy=>zAV false y (arrOf st) sa na 0 >>= λr=>(match r with
   |some k=>if(na - k==0)=true then pure true else elem' (arrOf st) (sa+k+(na - k) - 1) >>= λx=>zAV true x (arrOf st) sb nb (nb - 1) >>= λr=>(match r with
    |some m=>if(m==0)=true then pure true
      else if na - k<=m then zNL ((arrOf st).extract (sa+k) sb) ((arrOf st).extract sb (sb+m)) >>= λw=>yFO (sa+k) w
      else zNM ((arrOf st).extract (sa+k) sb) ((arrOf st).extract sb (sb+m)) >>= λw=>yFO (sa+k) w
    |_=>pure false)
   |_=>pure false)
 |_,_=>liftM (unsupported "internal:list.sort.pending")
theorem zVD(i:Nat):mergeAt' i=mAt i:=by kernel_rfl
theorem zLF(p:Nat): ∀(ws:List Keyed)(k:Nat)(v:V),p+k+ws.length<=v.size->
  ((ws.zipIdx k).foldl (λa (x,j)=>a.setIfInBounds (p+j) x) v).toList=v.toList.take (p+k)++ws++v.toList.drop (p+k+ws.length)
 |[],k,v,_=>by simp
 |x::t,k,v,h=>by
  rw [zipIdx_cons,foldl_cons]
  have hl:p+(k+1)+t.length<=(v.setIfInBounds (p+k) x).size:=by rw [Array.size_setIfInBounds];simp only [lC]at h;omega
  rw [zLF p t (k+1) _ hl]
  simp only [lC]at h ⊢
  have e:(v.setIfInBounds (p+k) x).toList=v.toList.set (p+k) x:=Array.toList_setIfInBounds ..
  rw [e]
  have e1:(v.toList.set (p+k) x).take (p+(k+1))=v.toList.take (p+k)++[x]:=by
   rw [show p+(k+1)=p+k+1 by omega]
   have hx:(v.toList.set (p+k) x)[p+k]? =some x:=by rw [getElem?_set_self];simp;omega
   rw [zMC hx,List.take_set_of_le (le_refl _)]
  rw [e1,List.drop_set_of_lt (by omega)]
  rw [show p+(k+1)+t.length=p+k+(t.length+1) by omega]
  simp only [aA,cons_append,nil_append]
section
variable{M:Model}{A:Around}{E:VP}{s:Shared}{kd:SortKind}{D:Keyed->Prop}{lt:Keyed->Keyed->Bool}{a₀ f:V}{pd:Array (Nat×Nat×Nat)}{lo:Nat}{st:SortSt}{d:Keyed}
theorem Up.sl{v:V}{n:Nat}(h:Up lt d v lo n):SL lt v.toList lo n:=by
 intro i j x y h1 h2 hx hy
 have e1:Kx d v (lo+i)=x:=by unfold Kx;rw [<-Array.getElem?_toList,hx];rfl
 have e2:Kx d v (lo+j)=y:=by unfold Kx;rw [<-Array.getElem?_toList,hy];rfl
 have:=h i j h1 h2
 rw [e1,e2]at this
 exact this
theorem SL.pw{l:List Keyed}{n:Nat}(h:SL lt l lo n):((l.drop lo).take n).Pairwise (Le lt):=by
 rw [List.pairwise_iff_getElem]
 intro i j hi hj hij
 rw [lT,length_drop]at hi hj
 rw [getElem_take,getElem_take,getElem_drop,getElem_drop]
 exact h i j _ _ (by omega) (by omega) (gE0 _) (gE0 _)
theorem four{β:Type}{le:β->β->Prop}{A1 A2 B1 B2 W:List β}(hA:(A1++A2).Pairwise le)(hB:(B1++B2).Pairwise le)(h1: ∀z,z∈A1-> ∀w,w∈B1++B2->le z w)(h2: ∀z,z∈A1++A2-> ∀w,w∈B2->le z w)
  (hW:W.Pairwise le) (pW:W.Perm (A2++B1)):(A1++W++B2).Pairwise le/\(A1++W++B2).Perm (A1++(A2++(B1++B2))):=by
 have a:=pairwise_append.mp hA
 have b:=pairwise_append.mp hB
 refine⟨pairwise_append.mpr ⟨pairwise_append.mpr ⟨a.1,hW,λz hz w hw=>?_⟩,b.2.1,λz hz w hw=>?_⟩,?_⟩
 ·rcases mem_append.mp (pW.mem_iff.mp hw)with q|q
  ·exact a.2.2 z hz w q
  ·exact h1 z hz w (mem_append_left _ q)
 ·rcases mem_append.mp hz with q|q
  ·exact h2 z (mem_append_left _ q) w hw
  ·rcases mem_append.mp (pW.mem_iff.mp q)with r|r
   ·exact h2 z (mem_append_right _ r) w hw
   ·exact b.2.2 z r w hw
 ·rw [<-aA A2 B1 B2, <-aA]
  exact(pW.append_left A1).append_right B2
structure Out(a₀:V)(kd:SortKind)(lt:Keyed->Keyed->Bool)(n:Nat)(st:SortSt):Prop where
 pm:(arrOf st).toList.Perm a₀.toList
 kind:kindOf st=kd
 fl:failedOf st=none
 pd: ∃w,pendingOf st=#[(0,n,w)]
 so:(arrOf st).toList.Pairwise (Le lt)
end
end Srt
set_option autoImplicit false
namespace Srt
open PySem PyProof.Rows
abbrev U2:=Option Unit×Nat
abbrev U1:=Option Unit×Unit
noncomputable def psh(lo n:Nat):SM (ForInStep U2):=(modify λs=>setPending s ((pendingOf s).push (lo,n,0))) >>= λ_=>pure (.yield (none,lo+n))
noncomputable def nxt(N lo n:Nat):SM (ForInStep U2):=get >>= λst=>match (pendingOf st).back? with
 |some (a,b,_)=>(forIn [0:N] ((none,()):U1) λ_ _=>get >>= λst=>(match (if(pendingOf st).size>1 then(pendingOf st)[(pendingOf st).size - 2]? else none)with
   |some (_,_,z)=>if z<=power' N (2 * a+b) (2 * a+b+b+n) N then pure (.done (none,()))else mergeAt' ((pendingOf st).size - 2) >>= λq=>if(!q)=true then pure (.done (some (),()))else pure (.yield (none,()))
   |_=>pure (.done (none,())))) >>= λc=>(match c.1 with
  |some r=>pure (.done (some r,lo))
  |none=>(modify λs=>setPending s ((pendingOf s).modify ((pendingOf s).size - 1) λ(u,v,_)=>(u,v,power' N (2 * a+b) (2 * a+b+b+n) N))) >>= λ_=>psh lo n)
 |_=>psh lo n
noncomputable def runs(N r:Nat):SM U2:=forIn [0:N] ((none,0):U2) λ_ c=>if c.2>=N then pure (.done (none,c.2))else countRun' c.2 (N - c.2) >>= λo=>match o with
 |some m=>if m<r then liftM (rule "list.sort.binary-insertion") >>= λ_=>binarySort' c.2 (min (N - c.2) r) m >>= λq=>if(!q)=true then pure (.done (some (),c.2))else nxt N c.2 (min (N - c.2) r)
   else nxt N c.2 m
 |_=>pure (.done (some (),c.2))
noncomputable def colp(N:Nat):SM U1:=forIn [0:N] ((none,()):U1) λ_ _=>get >>= λst=>if(pendingOf st).size<=1 then pure (.done (none,()))else
 mergeAt' (if Option.any (λx=>decide (x<((pendingOf st)[(pendingOf st).size - 2+1]?).elim 0 λx=>x.2.1)) (if(pendingOf st).size - 2>0 then Option.map (λx=>x.2.1) (pendingOf st)[(pendingOf st).size - 2 - 1]? else none)=true
  then(pendingOf st).size - 2 - 1 else(pendingOf st).size - 2) >>= λq=>if(!q)=true then pure (.done (some (),()))else pure (.yield (none,()))
noncomputable def sRun:SM Unit:=get >>= λst=>runs (arrOf st).size (minRun' (arrOf st).size (arrOf st).size 0) >>= λc=>match c.1 with
 |some r=>pure r
 |none=>colp (arrOf st).size >>= λc=>match c.1 with
  |some r=>pure r
  |none=>pure ()
theorem zPG:sortRuns'=sRun:=by kernel_rfl
section
variable{M:Model}{A:Around}{E:VP}{s:Shared}{kd:SortKind}{D:Keyed->Prop}{lt:Keyed->Keyed->Bool}{a₀ f:V}{pd:Array (Nat×Nat×Nat)}{lo:Nat}{st:SortSt}{d:Keyed}
theorem yQK{lo n:Nat}{Q:ForInStep U2->SortSt->Prop}(h:Q (.yield (none,lo+n)) (setPending st ((pendingOf st).push (lo,n,0)))):wpS M A E s (psh lo n) Q st:=
 wpS_bind (wpS_modify (wpS_pure h))
def Dun(a₀:V)(lt:Keyed->Keyed->Bool)(st:SortSt):Prop:=(arrOf st).toList.Perm a₀.toList/\failedOf st=none/\(arrOf st).toList.Pairwise (Le lt)
end
end Srt
set_option autoImplicit false
namespace Srt
open PySem PyProof.Rows
theorem zMD{β:Type}(l:List β)(p m n:Nat):(l.drop p).take (m+n)=(l.drop p).take m++(l.drop (p+m)).take n:=by rw [take_add,List.drop_drop]
theorem zVE{β:Type}(l:List β)(p k:Nat):l.take (p+k)=l.take p++(l.drop p).take k:=by rw [take_add]
theorem erS{β:Type}(A B:List β)(x y z:β):((A++x::y::B).toArray.setIfInBounds A.length z).eraseIdxIfInBounds (A.length+1)=(A++z::B).toArray:=by
 have e1:(A++x::y::B).toArray.setIfInBounds A.length z=(A++z::y::B).toArray:=by
  apply Array.toList_inj.mp
  rw [Array.toList_setIfInBounds]
  simp
 rw [e1]
 unfold Array.eraseIdxIfInBounds
 rw [dif_pos (by simp)]
 apply Array.toList_inj.mp
 rw [Array.toList_eraseIdx]
 show(A++z::y::B).eraseIdx (A.length+1)=A++z::B
 rw [List.eraseIdx_append_of_length_le (by omega)]
 rw [show A.length+1 - A.length=1 by omega]
 rfl
section
variable{M:Model}{A:Around}{E:VP}{s:Shared}{kd:SortKind}{D:Keyed->Prop}{lt:Keyed->Keyed->Bool}{a₀ f:V}{pd:Array (Nat×Nat×Nat)}{lo:Nat}{st:SortSt}{d:Keyed}
theorem yMW(rf: ∀x,Le lt x x){l:List Keyed}{p n:Nat}(h:((l.drop p).take n).Pairwise (Le lt)):SL lt l p n:=by
 intro i j x y hij hj hx hy
 rcases Nat.lt_or_ge i j with h'|h'
 ·have e1:((l.drop p).take n)[i]? =some x:=by rw [getElem?_take_of_lt (by omega),getElem?_drop];exact hx
  have e2:((l.drop p).take n)[j]? =some y:=by rw [getElem?_take_of_lt hj,getElem?_drop];exact hy
  obtain⟨i1,i2⟩:=gS0.mp e1
  obtain⟨j1,j2⟩:=gS0.mp e2
  have:=List.pairwise_iff_getElem.mp h i j i1 j1 h'
  rw [i2,j2]at this
  exact this
 ·have:i=j:=by omega
  subst this
  rw [hx]at hy
  cases hy
  exact rf x
structure OutG(a₀:V)(kd:SortKind)(lt:Keyed->Keyed->Bool)(l:List Keyed)(p n:Nat)(rs:List (Nat×Nat×Nat))(st:SortSt):Prop where
 pm:(arrOf st).toList.Perm a₀.toList
 kind:kindOf st=kd
 fl:failedOf st=none
 pd:pendingOf st=rs.toArray
 so:SL lt (arrOf st).toList p n
 ot: ∀j,j<p\/p+n<=j->(arrOf st).toList[j]? =l[j]?
theorem yFP{st:SortSt}{l l':List Keyed}{p q n:Nat}{w:V}{rs:List (Nat×Nat×Nat)}(hk:kindOf st=kd)(hf:failedOf st=none)(hp:pendingOf st=rs.toArray)
  (hl:q+w.size<=(arrOf st).size) (e:(arrOf st).toList.take q++w.toList++(arrOf st).toList.drop (q+w.size)=l') (h1:SL lt l' p n) (h2:l'.Perm a₀.toList) (h3: ∀j,j<p\/p+n<=j->l'[j]? =l[j]?)
  {Q:Bool->SortSt->Prop} (hq: ∀st',OutG a₀ kd lt l p n rs st'->Q true st'):wpS M A E s (yFO q w) Q st:=by
 have e':(putAll w q (arrOf st)).toList=l':=by
  have:=zLF q w.toList 0 (arrOf st) (by simpa using hl)
  rw [add_zero]at this
  exact this.trans (by simpa using e)
 unfold yFO
 refine wpS_bind (wpS_modify (wpS_bind (wpS_get ?_)))
 have O:OutG a₀ kd lt l p n rs (setArr st (putAll w q (arrOf st))):=⟨by show(putAll w q (arrOf st)).toList.Perm _;rw [e'];exact h2,hk,hf,hp,by show SL lt (putAll w q (arrOf st)).toList p n;rw [e'];exact h1,by show∀j,_->(putAll w q (arrOf st)).toList[j]? =_;rw [e'];exact h3⟩
 have:(failedOf (setArr st (putAll w q (arrOf st)))).isNone=true:=by rw [O.fl];rfl
 rw [this]
 exact wpS_pure (hq _ O)
theorem yKZ(C:Cmp M A E s kd D lt)(hD: ∀x,x∈a₀.toList->D x){p n1 n2 pw pw2:Nat}{Rs Ts:List (Nat×Nat×Nat)}(h1:1<=n1)(h2:1<=n2)(pm0:(arrOf st).toList.Perm a₀.toList)(hk:kindOf st=kd)(hf:failedOf st=none)
  (hp:pendingOf st=(Rs++(p,n1,pw)::(p+n1,n2,pw2)::Ts).toArray) (hz:p+n1+n2<=(arrOf st).size) (hA:SL lt (arrOf st).toList p n1) (hB:SL lt (arrOf st).toList (p+n1) n2)
  {Q:Bool->SortSt->Prop} (hq: ∀st',OutG a₀ kd lt (arrOf st).toList p (n1+n2) (Rs++(p,n1+n2,pw)::Ts) st'->Q true st'):wpS M A E s (mergeAt' Rs.length) Q st:=by
 rw [zVD]
 unfold mAt
 refine wpS_bind (wpS_get ?_)
 rw [hp]
 have e0:(Rs++(p,n1,pw)::(p+n1,n2,pw2)::Ts).toArray[Rs.length]? =some (p,n1,pw):=by simp
 have e1:(Rs++(p,n1,pw)::(p+n1,n2,pw2)::Ts).toArray[Rs.length+1]? =some (p+n1,n2,pw2):=by simp
 rw [e0,e1]
 dsimp only
 refine wpS_bind (yKQ ?_)
 rw [erS]
 generalize hst:setPending st (Rs++(p,n1+n2,pw)::Ts).toArray=st1
 have k1:kindOf st1=kd:=by rw [<-hst];exact hk
 have f1:failedOf st1=none:=by rw [<-hst];exact hf
 have p1:pendingOf st1=(Rs++(p,n1+n2,pw)::Ts).toArray:=by rw [<-hst]
 have r1:arrOf st1=arrOf st:=by rw [<-hst]
 have hDv: ∀x,x∈(arrOf st).toList->D x:=λx hx=>hD x (pm0.mem_iff.mp hx)
 generalize hv:arrOf st=v at *
 obtain⟨y,ey⟩:=kL (v:=v) (i:=p+n1) (by omega)
 obtain⟨x,ex⟩:=kL (v:=v) (i:=p+n1 - 1) (by omega)
 have hl:v.toList.length=v.size:=by simp
 have pA:=hA.pw
 have pB:=hB.pw
 have hyB: ∀w,w∈(v.toList.drop (p+n1)).take n2->Le lt y w:=λw hw=>by
  obtain⟨i,i1,_,i2⟩:=kU hw
  exact hB 0 i y w (zero_le _) i1 (by rw [add_zero];exact ey) i2
 have hxA: ∀z,z∈(v.toList.drop p).take n1->Le lt z x:=λz hz'=>by
  obtain⟨i,i1,_,i2⟩:=kU hz'
  exact hA i (n1 - 1) z x (by omega) (by omega) i2 (by rw [show p+(n1 - 1)=p+n1 - 1 by omega];exact ex)
 refine wpS_bind (yM ey (wpS_bind (zSG C k1 hDv (hDv y (mem_of_getElem? ey)) (by omega) (by omega) hA λk ka kb kc=>?_)))
 dsimp only
 have g1: ∀z,z∈(v.toList.drop p).take k-> ∀w,w∈(v.toList.drop (p+n1)).take n2->Le lt z w:=by
  intro z hz' w hw
  obtain⟨i,i1,i2,i3⟩:=kU hz'
  exact C.tr _ _ _ (kb i z i1 i3) (hyB w hw)
 have whole:((v.toList.drop p).take n1++(v.toList.drop (p+n1)).take n2).Pairwise (Le lt)->OutG a₀ kd lt v.toList p (n1+n2) (Rs++(p,n1+n2,pw)::Ts) st1:=λhp=>⟨by rw [r1];exact pm0,k1,f1,p1,by rw [r1];exact yMW C.rf (by rw [zMD];exact hp),λj _=>by rw [r1]⟩
 by_cases c1:n1 - k=0
 ·rw [iP (by simpa using c1)]
  refine wpS_pure (hq _ (whole ?_))
  have hk':k=n1:=by omega
  subst hk'
  exact pairwise_append.mpr ⟨pA,pB,g1⟩
 ·rw [iN (by simpa using c1)]
  have ex':v.toList[p+k+(n1 - k) - 1]? =some x:=by rw [show p+k+(n1 - k) - 1=p+n1 - 1 by omega];exact ex
  refine wpS_bind (yM ex' (wpS_bind (zSH C k1 hDv (hDv x (mem_of_getElem? ex)) (by omega) (by omega) hB λm ma mb mc=>?_)))
  dsimp only
  have g2: ∀z,z∈(v.toList.drop p).take n1-> ∀w,w∈(v.toList.drop (p+n1+m)).take (n2 - m)->Le lt z w:=by
   intro z hz' w hw
   obtain⟨i,i1,_,i2⟩:=kU hw
   exact C.tr _ _ _ (hxA z hz') (mc (m+i) w (by omega) (by omega) (by rw [<-add_assoc];exact i2))
  by_cases c2:m=0
  ·rw [iP (by simpa using c2)]
   refine wpS_pure (hq _ (whole ?_))
   subst c2
   exact pairwise_append.mpr ⟨pA,pB,λz hz' w hw=>g2 z hz' w (by rw [add_zero,sub_zero];exact hw)⟩
  ·rw [iN (by simpa using c2)]
   generalize ha:v.extract (p+k) (p+n1)=a
   generalize hb:v.extract (p+n1) (p+n1+m)=b
   have la:a.toList=(v.toList.drop (p+k)).take (n1 - k):=by rw [<-ha,show p+n1=p+k+(n1 - k) by omega,zSI]
   have lb:b.toList=(v.toList.drop (p+n1)).take m:=by rw [<-hb,zSI]
   have za:a.size=n1 - k:=by rw [<-Array.length_toList,la,lT,length_drop];omega
   have zb:b.size=m:=by rw [<-Array.length_toList,lb,lT,length_drop];omega
   have eA:(v.toList.drop p).take n1=(v.toList.drop p).take k++a.toList:=by rw [la, <-zMD];congr 1;omega
   have eB:(v.toList.drop (p+n1)).take n2=b.toList++(v.toList.drop (p+n1+m)).take (n2 - m):=by rw [lb, <-zMD];congr 1;omega
   have mA: ∀z,z∈a.toList-> ∃i,k<=i/\i<n1/\v.toList[p+i]? =some z:=by
    intro z hz'
    rw [la]at hz'
    obtain⟨i,i1,_,i2⟩:=kU hz'
    exact⟨k+i,by omega,by omega,by rw [<-add_assoc];exact i2⟩
   have mB: ∀z,z∈b.toList-> ∃i,i<m/\v.toList[p+n1+i]? =some z:=by
    intro z hz'
    rw [lb]at hz'
    obtain⟨i,i1,_,i2⟩:=kU hz'
    exact⟨i,i1,i2⟩
   have Z:Set3 M A E s kd D lt a b:={
    C:=C
    da:=λz hz'=>by obtain⟨i,_,_,e⟩:=mA z hz';exact hDv z (mem_of_getElem? e)
    db:=λz hz'=>by obtain⟨i,_,e⟩:=mB z hz';exact hDv z (mem_of_getElem? e)
    lst:=λx' y' hx' hy'=>by
     rw [la,getElem?_take_of_lt (by omega),getElem?_drop,show p+k+(a.size - 1)=p+n1 - 1 by omega,ex]at hx'
     cases hx'
     obtain⟨i,i1,e⟩:=mB y' hy'
     exact C.as _ _ (mb i y' i1 e)
    fst:=λx' y' hx' hy'=>by
     rw [lb,getElem?_take_of_lt (by omega),getElem?_drop,add_zero,ey]at hy'
     cases hy'
     obtain⟨i,i1,i2,e⟩:=mA x' hx'
     exact C.as _ _ (kc i x' i1 i2 e)}
   have sA:a.toList.Pairwise (Le lt):=by rw [eA]at pA;exact(pairwise_append.mp pA).2.1
   have sB:b.toList.Pairwise (Le lt):=by rw [eB]at pB;exact(pairwise_append.mp pB).1
   have fin: ∀r st2,Sg st1 st2->FinA lt a b r->wpS M A E s (yFO (p+k) r) Q st2:=by
    rintro r st2 ⟨g,rfl⟩ ⟨fa,fb⟩
    have zr:r.size=n1 - k+m:=by
     have:=fb.length_eq
     simp only [lA,Array.length_toList]at this
     omega
    have F:=four (W:=r.toList) (A1:=(v.toList.drop p).take k) (A2:=a.toList) (B1:=b.toList) (B2:=(v.toList.drop (p+n1+m)).take (n2 - m)) (by rw [<-eA];exact pA) (by rw [<-eB];exact pB)
     (λz hz' w hw=>g1 z hz' w (by rw [eB];exact hw)) (λz hz' w hw=>g2 z (by rw [eA];exact hz') w hw) fa fb
    have F2:=F.2
    rw [<-eB, <-aA, <-eA, <-zMD]at F2
    have eN:v.toList.take (p+k)++r.toList++v.toList.drop (p+n1+m)=v.toList.take p++((v.toList.drop p).take k++r.toList++(v.toList.drop (p+n1+m)).take (n2 - m))++v.toList.drop (p+n1+n2):=by
     have hd:=zNN v.toList (p+n1+m) (n2 - m)
     rw [show p+n1+m+(n2 - m)=p+n1+n2 by omega]at hd
     rw [zVE]
     conv=>lhs;rw [hd]
     simp only [aA]
    have eO:v.toList=v.toList.take p++(v.toList.drop p).take (n1+n2)++v.toList.drop (p+n1+n2):=by
     rw [<-zVE, <-add_assoc,take_append_drop]
    generalize hG:(v.toList.drop p).take k++r.toList++(v.toList.drop (p+n1+m)).take (n2 - m)=G at F F2 eN
    have lG:G.length=n1+n2:=by
     have:=F2.length_eq
     rw [lT,length_drop]at this
     omega
    have lP:(v.toList.take p).length=p:=by rw [lT];omega
    have dG:(((v.toList.take p++G++v.toList.drop (p+n1+n2)).drop p).take (n1+n2))=G:=by
     rw [aA,List.drop_append_of_le_length (by omega),drop_of_length_le (by omega),nil_append,List.take_append_of_le_length (by omega),take_of_length_le (by omega)]
    refine yFP (st:=SortSt.mk' (kindOf st1) (arrOf st1) (pendingOf st1) g (failedOf st1)) (l:=v.toList) (l':=v.toList.take p++G++v.toList.drop (p+n1+n2)) (p:=p) (n:=n1+n2) k1 f1 p1 ?_ ?_ (yMW C.rf (by rw [dG];exact F.1)) ?_ ?_ hq
    ·show p+k+r.size<=(arrOf st1).size
     rw [r1];omega
    ·show(arrOf st1).toList.take (p+k)++r.toList++(arrOf st1).toList.drop (p+k+r.size)=_
     rw [r1,zr,show p+k+(n1 - k+m)=p+n1+m by omega,eN]
    ·refine List.Perm.trans ?_ pm0
     conv=>rhs;rw [eO]
     exact(F2.append_left _).append_right _
    ·intro j hj
     rcases hj with hj|hj
     ·rw [aA,getElem?_append_left (by omega)]
      conv=>rhs;rw [eO,aA,getElem?_append_left (by omega)]
     ·rw [getElem?_append_right (by rw [lA];omega),lA,lP,lG,getElem?_drop]
      congr 1
      omega
   split
   ·exact wpS_bind (yQH Z.toSet2 k1 sA sB (by omega) (by omega) (λx' y' hx' hy'=>Z.fst x' y' (mem_of_getElem? hx') hy') fin)
   ·exact wpS_bind (yQJ Z k1 sA sB (by omega) (by omega) fin)
end
end Srt
set_option autoImplicit false
namespace Srt
open PySem PyProof.Rows
abbrev Rn:=Nat×Nat×Nat
def RunsOk(lt:Keyed->Keyed->Bool)(l:List Keyed):Nat->List Rn->Nat->Prop
 |p,[],q=>p=q
 |p,r::rs,q=>r.1=p/\1<=r.2.1/\SL lt l p r.2.1/\RunsOk lt l (p+r.2.1) rs q
section
variable{lt:Keyed->Keyed->Bool}{l l':List Keyed}
theorem SL.congr{p n:Nat}(h:SL lt l p n)(e: ∀j,p<=j->j<p+n->l'[j]? =l[j]?):SL lt l' p n:=λi j x y h1 h2 hx hy=>h i j x y h1 h2 (by rw [<-e (p+i) (by omega) (by omega)];exact hx) (by rw [<-e (p+j) (by omega) (by omega)];exact hy)
theorem RunsOk.le: ∀{rs:List Rn}{p q:Nat},RunsOk lt l p rs q->p+rs.length<=q
 |[],p,q,h=>by cases h;exact le_refl _
 |r::rs,p,q,h=>by
  have:=RunsOk.le h.2.2.2
  have:=h.2.1
  rw [lC]
  omega
theorem RunsOk.congr: ∀{rs:List Rn}{p q:Nat},RunsOk lt l p rs q->(∀j,p<=j->j<q->l'[j]? =l[j]?)->RunsOk lt l' p rs q
 |[],p,q,h,_=>h
 |r::rs,p,q,h,e=>by
  have:=RunsOk.le h.2.2.2
  exact⟨h.1,h.2.1,h.2.2.1.congr λj h1 h2=>e j h1 (by omega),RunsOk.congr h.2.2.2 λj h1 h2=>e j (by omega) h2⟩
theorem RunsOk.split: ∀{A B:List Rn}{p q:Nat},RunsOk lt l p (A++B) q-> ∃m,RunsOk lt l p A m/\RunsOk lt l m B q
 |[],B,p,q,h=>⟨p,rfl,h⟩
 |r::A,B,p,q,h=>by
  obtain⟨m,h1,h2⟩:=RunsOk.split h.2.2.2
  exact⟨m,⟨h.1,h.2.1,h.2.2.1,h1⟩,h2⟩
theorem RunsOk.join: ∀{A B:List Rn}{p m q:Nat},RunsOk lt l p A m->RunsOk lt l m B q->RunsOk lt l p (A++B) q
 |[],B,p,m,q,h,h'=>by cases h;exact h'
 |r::A,B,p,m,q,h,h'=>⟨h.1,h.2.1,h.2.2.1,RunsOk.join h.2.2.2 h'⟩
end
section
variable{M:Model}{A:Around}{E:VP}{s:Shared}{kd:SortKind}{D:Keyed->Prop}{lt:Keyed->Keyed->Bool}{a₀ f:V}{lo:Nat}{st:SortSt}{d:Keyed}
structure ST(a₀:V)(kd:SortKind)(lt:Keyed->Keyed->Bool)(rs:List Rn)(q:Nat)(st:SortSt):Prop where
 pm:(arrOf st).toList.Perm a₀.toList
 kind:kindOf st=kd
 fl:failedOf st=none
 pd:pendingOf st=rs.toArray
 ok:RunsOk lt (arrOf st).toList 0 rs q
 le:q<=a₀.size
theorem ST.size{rs:List Rn}{q:Nat}(h:ST a₀ kd lt rs q st):(arrOf st).size=a₀.size:=by
 have:=h.pm.length_eq
 simpa using this
theorem zZU(C:Cmp M A E s kd D lt)(hD: ∀x,x∈a₀.toList->D x){rs:List Rn}{q i:Nat}(h:ST a₀ kd lt rs q st)(hi:i+1<rs.length){Q:Bool->SortSt->Prop}
  (hq: ∀rs' st',ST a₀ kd lt rs' q st'->rs'.length+1=rs.length->(∀j,q<=j->(arrOf st').toList[j]? =(arrOf st).toList[j]?)->Q true st'):wpS M A E s (mergeAt' i) Q st:=by
 obtain⟨Rs,r1,r2,Ts,e,hl⟩: ∃Rs r1 r2 Ts,rs=Rs++r1::r2::Ts/\Rs.length=i:=⟨rs.take i,rs[i],rs[i+1],rs.drop (i+2),by
  rw [<-drop_eq_getElem_cons, <-drop_eq_getElem_cons,take_append_drop],by rw [lT];omega⟩
 subst e hl
 obtain⟨m,o1,o2⟩:=h.ok.split
 obtain⟨p,n1,pw⟩:=r1
 obtain⟨p2,n2,pw2⟩:=r2
 obtain⟨e1,g1,s1,e2,g2,s2,o3⟩:=o2
 dsimp only at e1 g1 s1 e2 g2 s2 o3
 subst e1 e2
 have hle:=o3.le
 have hsz:=h.size
 have hle2:=h.le
 refine yKZ C hD g1 g2 h.pm h.kind h.fl h.pd (by omega) s1 s2 λst' O=>hq (Rs++(p,n1+n2,pw)::Ts) st' ⟨O.pm,O.kind,O.fl,O.pd,?_,h.le⟩ (by simp only [lA,lC];omega) λj hj=>O.ot j (.inr (by omega))
 refine RunsOk.join (o1.congr λj h1 h2=>O.ot j (.inl h2)) ⟨rfl,by show 1<=n1+n2;omega,O.so,?_⟩
 show RunsOk lt _ (p+(n1+n2)) Ts q
 rw [<-add_assoc]
 exact o3.congr λj h1 h2=>O.ot j (.inr (by omega))
theorem zZV{rs:List Rn}{n:Nat}(h:ST a₀ kd lt rs lo st)(h1:1<=n)(hs:SL lt (arrOf st).toList lo n)(hz:lo+n<=a₀.size){Q:ForInStep U2->SortSt->Prop}(hq: ∀rs' st',ST a₀ kd lt rs' (lo+n) st'->Q (.yield (none,lo+n)) st'):wpS M A E s (psh lo n) Q st:=by
 refine yQK (hq (rs++[(lo,n,0)]) _ ⟨h.pm,h.kind,h.fl,?_,RunsOk.join h.ok ⟨rfl,h1,hs,rfl⟩,hz⟩)
 show(pendingOf st).push _=_
 rw [h.pd]
 simp
theorem yFQ(C:Cmp M A E s kd D lt)(hD: ∀x,x∈a₀.toList->D x){rs:List Rn}{n:Nat}(h:ST a₀ kd lt rs lo st)(h1:1<=n)(hs:SL lt (arrOf st).toList lo n)(hz:lo+n<=a₀.size){Q:ForInStep U2->SortSt->Prop}(hq: ∀rs' st',ST a₀ kd lt rs' (lo+n) st'->Q (.yield (none,lo+n)) st'):
  wpS M A E s (nxt a₀.size lo n) Q st:=by
 unfold nxt
 refine wpS_bind (wpS_get ?_)
 rcases List.eq_nil_or_concat rs with rfl|⟨A',⟨a,b,w⟩,rfl⟩
 ·have hb:(pendingOf st).back? =none:=by rw [h.pd];rfl
  rw [hb]
  exact zZV h h1 hs hz hq
 ·have hb:(pendingOf st).back? =some (a,b,w):=by rw [h.pd];simp
  rw [hb]
  dsimp only
  generalize power' a₀.size (2 * a+b) (2 * a+b+b+n) a₀.size=pw
  refine wpS_bind (wpS_mono (wpS_forRange (I:=λ_ c st3=>c=((none,()):U1)/\ ∃rs,rs≠[]/\ST a₀ kd lt rs lo st3/\SL lt (arrOf st3).toList lo n) (Q:=λc st3=>c=((none,()):U1)/\ ∃rs,rs≠[]/\ST a₀ kd lt rs lo st3/\SL lt (arrOf st3).toList lo n) ?_ (λ_ _ hh=>hh) ⟨rfl,_,by simp,h,hs⟩) ?_)
  ·rintro x c st3 _ _ ⟨rfl,rs,hne,hT,hsl⟩
   refine wpS_bind (wpS_get ?_)
   have hsz:(pendingOf st3).size=rs.length:=by rw [hT.pd];simp
   by_cases c1:(pendingOf st3).size>1
   ·rw [iP c1]
    cases hz':(pendingOf st3)[(pendingOf st3).size - 2]? with
    |none=>exact wpS_pure ⟨rfl,rs,hne,hT,hsl⟩
    |some r=>
     obtain⟨r1,r2,z⟩:=r
     dsimp only
     by_cases c2:z<=pw
     ·rw [iP c2]
      exact wpS_pure ⟨rfl,rs,hne,hT,hsl⟩
     ·rw [iN c2]
      refine wpS_bind (zZU C hD hT (by omega) λrs' st' hT' hlen hot=>?_)
      rw [iN (by simp)]
      exact wpS_pure ⟨rfl,rs',λe=>by rw [e,length_nil]at hlen;omega,hT',hsl.congr λj h1 _=>hot j h1⟩
   ·rw [iN c1]
    exact wpS_pure ⟨rfl,rs,hne,hT,hsl⟩
  ·rintro c st3 ⟨rfl,rs,hne,hT,hsl⟩
   dsimp only
   refine wpS_bind (wpS_modify ?_)
   rcases List.eq_nil_or_concat rs with rfl|⟨B,⟨u,v,w'⟩,rfl⟩
   ·exact absurd rfl hne
   ·rw [List.concat_eq_append]at hT
    have hmod:(pendingOf st3).modify ((pendingOf st3).size - 1) (λx=>(x.fst,x.2.fst,pw))=(B++[(u,v,pw)]).toArray:=by
     rw [hT.pd]
     apply Array.toList_inj.mp
     rw [Array.toList_modify]
     have e:(B++[(u,v,w')]).toArray.size - 1=B.length:=by simp
     rw [e]
     show(B++[(u,v,w')]).modify B.length _=B++[(u,v,pw)]
     have key: ∀(B:List Rn)(x:Rn)(f:Rn->Rn),(B++[x]).modify B.length f=B++[f x]:=by
      intro B
      induction B with
      |nil=>intro x f;rfl
      |cons b B ih=>intro x f;show b::(B++[x]).modify B.length f=_;rw [ih];rfl
     rw [key]
    refine zZV (st:=setPending st3 ((pendingOf st3).modify ((pendingOf st3).size - 1) λx=>(x.fst,x.2.fst,pw))) (rs:=B++[(u,v,pw)]) ⟨hT.pm,hT.kind,hT.fl,?_,?_,hT.le⟩ h1 hsl hz hq
    ·rw [<-hmod]
    ·obtain⟨m,o1,o2⟩:=hT.ok.split
     exact RunsOk.join o1 ⟨o2.1,o2.2.1,o2.2.2.1,o2.2.2.2⟩
theorem yFR(C:Cmp M A E s kd D lt)(hD: ∀x,x∈a₀.toList->D x)(d:Keyed){r:Nat}(h:ST a₀ kd lt [] 0 st){Q:U2->SortSt->Prop}
  (hq: ∀rs st',ST a₀ kd lt rs a₀.size st'->Q (none,a₀.size) st'):wpS M A E s (runs a₀.size r) Q st:=by
 unfold runs
 refine wpS_forRange (I:=λx c st'=> ∃lo rs,c=((none,lo):U2)/\x<=lo/\ST a₀ kd lt rs lo st') ?_ ?_ ⟨0,[],rfl,le_refl _,h⟩
 ·rintro x c st1 _ hx ⟨lo,rs,rfl,hxl,hT⟩
  dsimp only
  have hle:=hT.le
  by_cases c1:lo>=a₀.size
  ·rw [iP c1]
   have e:lo=a₀.size:=by omega
   subst e
   exact wpS_pure (hq rs st1 hT)
  ·rw [iN c1]
   have hB:SB a₀ kd rs.toArray (arrOf st1) lo st1:=⟨Array.perm_iff_toList_perm.mpr hT.pm,hT.kind,hT.fl,hT.pd,λ_ _=>rfl⟩
   have back: ∀{st2:SortSt},SB a₀ kd rs.toArray (arrOf st1) lo st2->ST a₀ kd lt rs lo st2:=λ{st2} hB2=>⟨Array.perm_iff_toList_perm.mp hB2.pm,hB2.kind,hB2.fl,hB2.pd,hT.ok.congr λj _ hj=>by rw [Array.getElem?_toList,hB2.fx j hj, <-Array.getElem?_toList],hT.le⟩
   refine wpS_bind (yKX (d:=d) C hD hB (n:=a₀.size - lo) (by omega) (by omega) λm st2 hB2 hm1 hm2 hu=>?_)
   dsimp only
   by_cases cm:m<r
   ·rw [iP cm]
    refine wpS_bind (zED ?_)
    refine wpS_bind (yKY C hD hB2 (n:=min (a₀.size - lo) r) (by omega) (by omega) hu λst3 hB3 hu3=>?_)
    rw [iN (by simp)]
    exact yFQ C hD (back hB3) (by omega) hu3.sl (by omega) λrs' st' hT'=>⟨_,rs',rfl,by omega,hT'⟩
   ·rw [iN cm]
    exact yFQ C hD (back hB2) (by omega) hu.sl (by omega) λrs' st' hT'=>⟨_,rs',rfl,by omega,hT'⟩
 ·rintro c st1 ⟨lo,rs,rfl,hxl,hT⟩
  have hle:=hT.le
  have e:lo=a₀.size:=by omega
  subst e
  exact hq rs st1 hT
theorem yFS{rs:List Rn}(h2:2<=a₀.size)(h:ST a₀ kd lt rs a₀.size st)(hl:rs.length<=1):Dun a₀ lt st:=by
 refine⟨h.pm,h.fl,?_⟩
 match rs,hl,h.ok with
 |[],_,o=>exact absurd (show 0=a₀.size from o) (by omega)
 |[r],_,o=>
  obtain⟨e1,g1,s1,o2⟩:=o
  have e2:0+r.2.1=a₀.size:=o2
  have:=s1.pw
  rwa [drop_zero,take_of_length_le (by rw [Array.length_toList,h.size];omega)]at this
theorem yFT(C:Cmp M A E s kd D lt)(hD: ∀x,x∈a₀.toList->D x)(h2:2<=a₀.size){rs:List Rn}(h:ST a₀ kd lt rs a₀.size st){Q:U1->SortSt->Prop}(hq: ∀st',Dun a₀ lt st'->Q (none,()) st'):wpS M A E s (colp a₀.size) Q st:=by
 unfold colp
 have hl0:=h.ok.le
 refine wpS_forRange (I:=λx c st'=>c=((none,()):U1)/\ ∃rs,ST a₀ kd lt rs a₀.size st'/\(rs.length<=1\/rs.length+x<=a₀.size)) ?_ ?_ ⟨rfl,rs,h,.inr (by omega)⟩
 ·rintro x c st1 _ hx ⟨rfl,rs,hT,hl⟩
  refine wpS_bind (wpS_get ?_)
  have hsz:(pendingOf st1).size=rs.length:=by rw [hT.pd];simp
  by_cases c1:(pendingOf st1).size<=1
  ·rw [iP c1]
   exact wpS_pure (hq st1 (yFS h2 hT (by omega)))
  ·rw [iN c1]
   generalize hi:(if Option.any (λx=>decide (x<((pendingOf st1)[(pendingOf st1).size - 2+1]?).elim 0 λx=>x.2.1)) (if(pendingOf st1).size - 2>0 then Option.map (λx=>x.2.1) (pendingOf st1)[(pendingOf st1).size - 2 - 1]? else none)=true
      then(pendingOf st1).size - 2 - 1 else(pendingOf st1).size - 2)=i
   have hi2:i+1<rs.length:=by
    have key: ∀(P:Prop)[Decidable P](n:Nat),2<=n->(if P then n - 2 - 1 else n - 2)+1<n:=by
     intro P _ n hn
     by_cases c:P
     ·rw [iP c];omega
     ·rw [iN c];omega
    rw [<-hi, <-hsz]
    exact key _ _ (by omega)
   refine wpS_bind (zZU C hD hT hi2 λrs' st' hT' hlen _=>?_)
   rw [iN (by simp)]
   exact wpS_pure ⟨rfl,rs',hT',by omega⟩
 ·rintro c st1 ⟨rfl,rs,hT,hl⟩
  refine hq st1 (yFS h2 hT ?_)
  rcases hl with hl|hl
  ·exact hl
  ·omega
theorem zSM(C:Cmp M A E s kd D lt)(hD: ∀x,x∈(arrOf st).toList->D x)(d:Keyed)(h2:2<=(arrOf st).size)(hk:kindOf st=kd)(hp:pendingOf st=#[])(hf:failedOf st=none)
  {Q:Unit->SortSt->Prop} (hq: ∀st',Dun (arrOf st) lt st'->Q () st'):wpS M A E s sortRuns' Q st:=by
 rw [zPG]
 unfold sRun
 refine wpS_bind (wpS_get ?_)
 refine wpS_bind (yFR C hD d ⟨List.Perm.refl _,hk,hf,hp,rfl,zero_le _⟩ λrs st1 hT=>?_)
 dsimp only
 refine wpS_bind (yFT C hD h2 hT λst2 hd=>?_)
 exact wpS_pure (hq st2 hd)
end
end Srt
set_option autoImplicit false
set_option autoImplicit false
namespace Srt
open PySem PyProof.Rows
section
variable{prog:Program}{w:World}{A:Around}{E:VP}{s:Shared}
theorem yLA{α β:Type}{f:α->Sem β}{g:α->β}{M:Model}(l:List α)(h: ∀x,x∈l->wpAny M A (f x) (λr s'=>s'=s/\r=g x) E s):wpAny M A (l.mapM f) (λr s'=>s'=s/\r=l.map g) E s:=by
 induction l with
 |nil=>rw [List.mapM_nil];exact wP0 ⟨rfl,rfl⟩
 |cons x l ih=>
  rw [List.mapM_cons]
  refine wB0 (wpAny_mono (h x mF0) (λr s' hr=>?_) λ_ _ e=>e)
  rw [hr.1,hr.2]
  refine wB0 (wpAny_mono (ih λy hy=>h y (mO _ hy)) (λr s' hr=>?_) λ_ _ e=>e)
  rw [hr.1,hr.2]
  exact wP0 ⟨rfl,rfl⟩
theorem zVF{α β:Type}{f:α->Sem β}{g:α->β}{M:Model}{l:List α}(h: ∀x,x∈l->wpAny M A (f x) (λr s'=>s'=s/\r=g x) E s):wpAny M A (l.toArray.mapM f) (λr s'=>s'=s/\r=(l.map g).toArray) E s:=by
 rw [List.mapM_toArray]
 show wpAny M A (List.toArray<$>l.mapM f) _ E s
 rw [map_eq_pure_bind]
 refine wB0 (wpAny_mono (yLA l h) (λr s' hr=>?_) λ_ _ e=>e)
 obtain⟨rfl,rfl⟩:=hr
 exact wP0 ⟨rfl,rfl⟩
def TupAt(h:Heap)(a:Addr)(its:List Value):Prop:= ∃o n,h.get? a=some o/\o.cls=.type "tuple"/\o.data=.seq its.toArray n
theorem zKA(v:Value):firstOfTuple' v=(do
  if(<-typeOf v) !=.type "tuple" then return none
  return (<-Builtin.List.listItems v)[0]?):=rfl
theorem yFU{M:Model}{a:Addr}{its:List Value}(h:TupAt s.heap a its):wpAny M A (firstOfTuple' (.ref a)) (λr s'=>s'=s/\r=its[0]?) E s:=by
 obtain⟨o,n,h1,h2,h3⟩:=h
 rw [zKA]
 refine wB0 (wpAny_typeOf (T:="tuple") ⟨o,h1,h2⟩ ?_)
 rw [iN (by simp)]
 refine wB0 (listItems_at h1 h3 ?_)
 exact wP0 ⟨rfl,by simp⟩
end
end Srt
set_option autoImplicit false
namespace Srt
open PySem PyProof.Rows
inductive LexS(A:Around)(s:Shared):List Value->List Value->Bool->Prop
 |nn:LexS A s [] [] false
 |nc (x xs):LexS A s [] (x::xs) true
 |cn (y ys):LexS A s (y::ys) [] false
 |eq {y x ys xs k}:SeqAt.EqAt A s y x true->LexS A s ys xs k->LexS A s (y::ys) (x::xs) k
 |ne {y x ys xs k}:SeqAt.EqAt A s y x false->(∀(prog:Program)(w:World)(E Q:VP),Q (.bool k) s->wpAny (model prog w) A (richCompare .Lt y x) Q E s)->LexS A s (y::ys) (x::xs) k
section
variable{prog:Program}{w:World}{A:Around}{E:VP}{s:Shared}
theorem yQL(c:Bool)(x y:Value):keyLt' (tuples' c) x y=(Builtin.List.listItems x >>= λxs=>Builtin.List.listItems y >>= λys=>
  (forIn (xs.toList.zip ys.toList).zipIdx ((none,()):Option Bool×Unit) λz _=>eqBool z.1.1 z.1.2 >>= λe=>if(!e)=true then oneLt' (c&&z.2==0) z.1.1 z.1.2 >>= λr=>pure (.done (some r,()))else pure (.yield (none,()))) >>= λr=>
  match r.1 with
  |some r=>pure r
  |none=>pure (decide (xs.size<ys.size))):=by kernel_rfl
theorem yQM(x y:Value):oneLt' false x y=richCompare .Lt x y >>= λv=>truthOfDropped v:=by rw [oneLt'_eq];rfl
theorem zXW{b:Bool}{Q:Bool->Shared->Prop}(h:Q b s):wpAny (model prog w) A (truthOfDropped (.bool b)) Q E s:=wpAny_truthy_bool h
theorem wp_lt{kd:SortKind}{x y:Keyed}{k:Bool}{st:SortSt}(hk:kindOf st=kd)(h: ∀(E:VP)(Q:Bool->Shared->Prop),Q k s->wpAny (model prog w) A (keyLt' kd x.1 y.1) Q E s){Q:Option Bool->SortSt->Prop}(hq:Q (some k) st):
  wpS (model prog w) A E s (lt' x y) Q st:=by
 rw [lt'_eq]
 refine wpS_bind (wpS_get ?_)
 rw [hk]
 refine wpS_bind (wpS_lift (wpAny_attempt (h _ _ ⟨rfl,?_⟩)))
 exact wpS_pure hq
end
end Srt
set_option autoImplicit false
set_option autoImplicit false
namespace Srt
open PySem PyProof.Rows
section
variable{prog:Program}{w:World}{A:Around}{E:VP}{s:Shared}
theorem yFV{m n:Nat}{k:Bool}(vs ws:List Value)(i:Nat)(hx:LexS A s vs ws k):1<=i->vs.length+n=ws.length+m->
   wpAny (model prog w) A (forIn ((vs.zip ws).zipIdx i) ((none,()):Option Bool×Unit) λz _=>eqBool z.1.1 z.1.2 >>= λe=>if(!e)=true then oneLt' (true&&z.2==0) z.1.1 z.1.2 >>= λr=>pure (.done (some r,()))else pure (.yield (none,())))
    (λr s'=>s'=s/\(r=(some k,())\/(r=(none,())/\k=decide (m<n)))) E s:=by
 induction hx generalizing i with
 |nn=>intro hi h;rw [zip_nil_left,zipIdx_nil,forIn_nil];exact wP0 ⟨rfl,.inr ⟨rfl,(dF0 (by simp at h;omega)).symm⟩⟩
 |nc x xs=>intro hi h;rw [zip_nil_left,zipIdx_nil,forIn_nil];exact wP0 ⟨rfl,.inr ⟨rfl,(dT0 (by simp at h;omega)).symm⟩⟩
 |cn y ys=>intro hi h;rw [List.zip_nil_right,zipIdx_nil,forIn_nil];exact wP0 ⟨rfl,.inr ⟨rfl,(dF0 (by simp at h;omega)).symm⟩⟩
 |eq he hr ih=>
  intro hi h
  rw [zip_cons_cons,zipIdx_cons,forIn_cons]
  refine wB0 (wB0 (he prog w E _ ?_))
  rw [iN (by simp)]
  exact wP0 (ih (i+1) (by omega) (by simpa using(by simp at h;omega)))
 |ne he hr=>
  intro hi h
  rw [zip_cons_cons,zipIdx_cons,forIn_cons]
  refine wB0 (wB0 (he prog w E _ ?_))
  rw [iP (by simp)]
  simp only [Bool.true_and]
  rw [show(i==0)=false by simp;omega,yQM]
  refine wB0 (wB0 (hr prog w E _ (zXW ?_)))
  exact wP0 (wP0 ⟨rfl,.inl rfl⟩)
end
end Srt
set_option autoImplicit false
namespace Srt
open PySem PyProof.Rows
section
variable{prog:Program}{w:World}{A:Around}{E:VP}{s:Shared}
theorem sort_plain{a:Addr}{vs:List Value}{n0:Nat}{P:PySem.Fin->Shared->Prop}(ho:s.heap.get? a=some (seqObj "list" vs.toArray n0))(hl:vs.length<1000000)
  (hk: ∀s2:Shared,s2={s with heap:=((s.heap.update a (Obj.mapSeq λ_=>#[])).push (seqObj "tuple" vs.toArray 0)).push (seqObj "list" #[] 0)}-> ∃(kd:SortKind)(D:Keyed->Prop)(lt:Keyed->Keyed->Bool),
   (2<=vs.length->wpAny (model prog w) A (keyKind' vs.toArray) (λk s'=>s'=s2/\k=kd) E s2/\Cmp (model prog w) A E s2 kd D lt/\ ∀p,p∈vs.zip vs->D p)/\
   ∀out:List Keyed,out.Perm (vs.zip vs)->out.Pairwise (Le lt)->P (.done (.ret .none)) {s2 with heap:=s2.heap.update a (Obj.mapSeq λ_=>(out.map (·.2)).toArray)}):
  wpAny (model prog w) A (Builtin.«list.sort» ⟨[.ref a],[]⟩) P E s:=by
 unfold Builtin.«list.sort»
 dsimp only
 rw [iN (by simp),iN (by simp)]
 rw [forIn_nil]
 refine wB0 (wP0 ?_)
 have e1:List.lookup (Str.ofString "key") ([]:List (Str×Value))=none:=rfl
 have e2:List.lookup (Str.ofString "reverse") ([]:List (Str×Value))=none:=rfl
 rw [e1,e2]
 refine wB0 (wP0 ?_)
 have ha:a<s.heap.objs.size:=Heap.lt_size ho
 refine wB0 (listItems_at ho rfl ?_)
 refine wB0 (listUpdate_at ho rfl ?_)
 obtain⟨q,hq⟩: ∃q,(s.heap.update a (Obj.mapSeq λ_=>#[])).get? a=some (seqObj "list" #[] q):=⟨_,get?_update_seq ho (λ_=>#[])⟩
 dsimp only
 refine wB0 (seqEpoch_at hq rfl ?_)
 refine wB0 (wpAny_newTuple ?_)
 refine wB0 (wpAny_newList ?_)
 refine wpAny_holding ?_
 rw [iN (by simp)]
 dsimp only
 generalize hs2:({s with heap:=((s.heap.update a (Obj.mapSeq λ_=>#[])).push (seqObj "tuple" vs.toArray 0)).push (seqObj "list" #[] 0)}:Shared)=s2
 have g1:s2.heap.get? a=some (seqObj "list" #[] q):=by rw [<-hs2];exact hP0 _ (hP0 _ hq)
 obtain⟨kd,D,lt,g4,g5⟩:=hk s2 hs2.symm
 rw [iN (by simp)]
 refine wB0 (wP0 ?_)
 rw [iN (by simp)]
 have fin: ∀st:SortSt,failedOf st=none->(arrOf st).toList.Perm (vs.zip vs)->(arrOf st).toList.Pairwise (Le lt)->
   wpAny (model prog w) A (do
    let e <-seqEpoch a
    Builtin.List.listUpdate (.ref a) λ_=>(arrOf st).map (·.2)
    if(e !=q)=true then rule "list.sort.modified" >>= λ_=>raiseErrorWords "ValueError" "list modified during sort" >>= λ(_:Unit)=>ret .none else ret .none) P E s2:=by
  intro st hf hp hs
  refine wB0 (seqEpoch_at g1 rfl ?_)
  have hlen:((arrOf st).map (·.2)).size<=sizeLine+1:=by
   rw [Array.size_map, <-Array.length_toList,hp.length_eq,length_zip]
   have:=sizeLine_eq;omega
  refine wB0 (listUpdate_at g1 rfl ?_ (hsz2:=hlen))
  rw [iN (by simp)]
  have e3:(arrOf st).map (·.2)=((arrOf st).toList.map (·.2)).toArray:=by rw [<-Array.toList_map]
  rw [e3]
  exact wP0 (g5 _ hp hs)
 by_cases h2':vs.toArray.size<2
 ·rw [iP h2',iP h2']
  refine wB0 (wP0 ?_)
  rw [StateT.run_pure]
  refine wB0 (wP0 ?_)
  rw [iN (by simp)]
  have hz:(vs.zip vs).length<=1:=by rw [length_zip];simp at h2';omega
  refine fin (SortSt.mk' general' (vs.toArray.zip vs.toArray) #[] 7 none) rfl ?_ ?_
  ·show(vs.toArray.zip vs.toArray).toList.Perm _
   simp
  ·show(vs.toArray.zip vs.toArray).toList.Pairwise _
   have:(vs.toArray.zip vs.toArray).toList=vs.zip vs:=by simp
   rw [this]
   match vs.zip vs,hz with
   |[],_=>exact .nil
   |[x],_=>exact List.pairwise_singleton _ _
   |x::y::r,h=>simp at h
 ·rw [iN h2',iN h2']
  obtain⟨k1,k2,k3⟩:=g4 (by simp at h2';omega)
  refine wB0 (wpAny_mono k1 (λk s' hk'=>?_) λ_ _ e=>e)
  obtain⟨rfl,rfl⟩:=hk'
  have za:(arrOf (SortSt.mk' k (vs.toArray.zip vs.toArray) #[] 7 none)).toList=vs.zip vs:=by
   show(vs.toArray.zip vs.toArray).toList=_
   simp
  have zs:(arrOf (SortSt.mk' k (vs.toArray.zip vs.toArray) #[] 7 none)).size=vs.length:=by
   rw [<-Array.length_toList,za,length_zip,Nat.min_self]
  refine wB0 (wpAny_mono (zSM (st:=SortSt.mk' k (vs.toArray.zip vs.toArray) #[] 7 none) k2 (λp hp=>k3 p (by rw [za]at hp;exact hp)) (.none,.none) (by rw [zs];simp at h2';omega) rfl rfl rfl
   (Q:=λ_ st'=>Dun (arrOf (SortSt.mk' k (vs.toArray.zip vs.toArray) #[] 7 none)) lt st') λst' h=>h) (λr s3 hr=>?_) λ_ _ e=>e)
  obtain⟨⟨⟩,st'⟩:=r
  obtain⟨rfl,d1,d2,d3⟩:=hr
  dsimp only
  rw [iN (by simp)]
  have F:=fin st' d2 (by rw [<-za];exact d1) d3
  have d4:failedOf st'=none:=d2
  unfold failedOf at d4
  rw [d4]
  exact F
end
end Srt
set_option autoImplicit false
namespace Srt
open PySem PyProof.Rows
section
variable{prog:Program}{w:World}{A:Around}{E:VP}{s:Shared}
theorem zVG{M:Model}{l:List Value}(hl:l≠[])(h: ∀x,x∈l-> ∃z tk,x=.int z tk):wpAny M A (oneTypeOnly' l.toArray) (λr s'=>s'=s/\r=some (.type "int")) E s:=by
 rw [oneTypeOnly'_eq]
 refine wB0 (wpAny_mono (zVF (g:=λ_=>Value.type "int") λx hx=>?_) (λr s' hr=>?_) λ_ _ e=>e)
 ·obtain⟨z,tk,rfl⟩:=h x hx
  exact wP0 ⟨rfl,rfl⟩
 ·obtain⟨rfl,rfl⟩:=hr
  match l,hl with
  |x::l,_=>
   have h0:(List.map (λ_=>Value.type "int") (x::l)).toArray[0]? =some (Value.type "int"):=by simp
   have hall:((List.map (λ_=>Value.type "int") (x::l)).toArray.all λx=>x==Value.type "int")=true:=by
    simp only [List.all_toArray,all_map,all_eq_true]
    intro _ _
    rfl
   rw [h0]
   dsimp only
   rw [hall]
   exact wP0 ⟨rfl,rfl⟩
theorem wp_kindI{M:Model}{keys:List Value}(hl:keys≠[])(h: ∀x,x∈keys-> ∃a its z tk r,x=.ref a/\TupAt s.heap a its/\its=.int z tk::r):
  wpAny M A (keyKind' keys.toArray) (λk s'=>s'=s/\k=tuples' true) E s:=by
 rw [keyKind'_eq]
 have hg: ∀x, ∃y:Option Value,x∈keys->(∃z tk,y=some (.int z tk))/\ ∀M:Model,wpAny M A (firstOfTuple' x) (λr s'=>s'=s/\r=y) E s:=by
  intro x
  by_cases hx:x∈keys
  ·obtain⟨a,its,z,tk,r,rfl,h1,rfl⟩:=h x hx
   exact⟨some (.int z tk),λ_=>⟨⟨z,tk,rfl⟩,λM=>yFU h1⟩⟩
  ·exact⟨none,λz=>absurd z hx⟩
 let g:=λx=>Classical.choose (hg x)
 have gs: ∀x,x∈keys->(∃z tk,g x=some (.int z tk))/\ ∀M:Model,wpAny M A (firstOfTuple' x) (λr s'=>s'=s/\r=g x) E s:=λx hx=>Classical.choose_spec (hg x) hx
 refine wB0 (wpAny_mono (zVF (g:=g) λx hx=>(gs x hx).2 M) (λr s' hr=>?_) λ_ _ e=>e)
 obtain⟨rfl,rfl⟩:=hr
 rw [iP (by
  simp only [List.all_toArray,all_map,all_eq_true]
  intro x hx
  obtain⟨⟨b,jts,e⟩,_⟩:=gs x hx
  show(g x).isSome=true
  rw [e];rfl)]
 refine wB0 (wpAny_rule ?_)
 have ef:(keys.map g).toArray.filterMap id=((keys.map g).filterMap id).toArray:=by simp
 rw [ef]
 refine wB0 (wpAny_mono (zVG (l:=(keys.map g).filterMap id) ?_ ?_) (λr s' hr=>?_) λ_ _ e=>e)
 ·match keys,hl,gs with
  |x::l,_,gs=>
   obtain⟨⟨b,jts,e⟩,_⟩:=gs x mF0
   rw [map_cons,e]
   simp
 ·intro x hx
  obtain⟨y,hy,e⟩:=mem_filterMap.mp hx
  obtain⟨z,hz,e'⟩:=mM.mp hy
  obtain⟨⟨b,jts,e2⟩,_⟩:=gs z hz
  have:some x=some (Value.int b jts):=by rw [<-e2,e'];exact e.symm
  cases this
  exact⟨b,jts,rfl⟩
 ·obtain⟨rfl,rfl⟩:=hr
  refine wP0 ⟨rfl,?_⟩
  have:((some (Value.type "int")).any λx=>x !=Value.type "tuple")=true:=by rfl
  rw [this]
end
end Srt
set_option autoImplicit false
namespace Srt
open PySem PyProof.Rows
section
variable{prog:Program}{w:World}{A:Around}{E:VP}{s:Shared}
theorem wp_keyLtI{l b:Addr}{x y:Int}{t u:Tok}{r r2:List Value}{e k:Bool}{Q:Bool->Shared->Prop}(hl:TupAt s.heap l (.int x t::r))(hb:TupAt s.heap b (.int y u::r2))(he:SeqAt.EqAt A s (.int x t) (.int y u) e)
  (hx:if e=true then LexS A s r r2 k else k=decide (x<y)) (hq:Q k s):
  wpAny (model prog w) A (keyLt' (tuples' true) (.ref l) (.ref b)) Q E s:=by
 obtain⟨o1,n1,a1,_,a3⟩:=hl
 obtain⟨o2,n2,b1,_,b3⟩:=hb
 rw [yQL]
 refine wB0 (listItems_at a1 a3 (wB0 (listItems_at b1 b3 ?_)))
 simp only [sA0]
 refine wB0 ?_
 rw [zip_cons_cons,zipIdx_cons,forIn_cons]
 refine wB0 (wB0 (he prog w E _ ?_))
 cases e with
 |true=>
  rw [iP rfl]at hx
  rw [iN (by simp)]
  refine wP0 ?_
  refine wpAny_mono (yFV r r2 1 hx (m:=(Value.int x t::r).length) (n:=(Value.int y u::r2).length) (le_refl _) (by simp only [lC];omega)) (λq s' h=>?_) λ_ _ e=>e
  obtain⟨rfl,rfl|⟨rfl,e⟩⟩:=h
  ·exact wP0 hq
  ·dsimp only
   rw [<-e]
   exact wP0 hq
 |false=>
  rw [iN xF0]at hx
  subst hx
  rw [iP (by simp)]
  refine wB0 (oneLt_int ?_)
  exact wP0 (wP0 (wP0 hq))
end
end Srt
namespace L2
namespace M
open PySem PySem.Spec PyProof.Rows
mutual
def zFK:MV->Bool
 |.int _=>true
 |.str _=>true
 |.tup ds=>zQK ds
 |_=>false
def zQK:List MV->Bool
 |[]=>true
 |d::ds=>zFK d&&zQK ds
end
theorem zQL{α β:Type}{g:α->β}{p m:List β}(h:p.Perm m): ∀l:List α,l.map g=p-> ∃l':List α,l'.Perm l/\l'.map g=m:=by
 induction h with
 |nil=>intro l e;exact⟨l,.refl _,e⟩
 |cons x _ ih=>
  intro l e
  cases l with
  |nil=>cases e
  |cons a l=>
   rw [map_cons]at e
   injection e with e1 e2
   obtain⟨l',p',q'⟩:=ih l e2
   exact⟨a::l',p'.cons a,by rw [map_cons,e1,q']⟩
 |swap x y t=>
  intro l e
  match l,e with
  |a::b::l,e=>
   rw [map_cons,map_cons]at e
   injection e with e1 e2
   injection e2 with e2 e3
   exact⟨b::a::l,.swap _ _ _,by rw [map_cons,map_cons,e1,e2,e3]⟩
 |trans _ _ ih1 ih2=>
  intro l e
  obtain⟨l1,p1,q1⟩:=ih1 l e
  obtain⟨l2,p2,q2⟩:=ih2 l1 q1
  exact⟨l2,p2.trans p1,q2⟩
section
variable{X:Cx}{α:List Addr}{S:Sto}{H:Hp}{pins:List (Addr×Obj)}{σ:St}{s:Shared}
mutual
theorem zZW(I:Inv X pins σ H s): ∀{d d':MV}{v:V},zFK d=true->zFK d'=true->Den X.K α H d v->Den X.K α H d' v->d=d'
 |.int i,d',v,_,h',q,q'=>by
  cases xT q
  cases d' with
  |int j=>cases xT q';rfl
  |str x=>cases wG q'
  |tup ds=>obtain⟨a,vs,e,_⟩:=xI q';cases e
  |_=>simp [zFK]at h'
 |.str x,d',v,_,h',q,q'=>by
  have e:=wG q
  cases d' with
  |int j=>rw [xT q']at e;cases e
  |str y=>rw [wG q']at e;injection e with e;rw [zLZ e]
  |tup ds=>obtain⟨a,vs,e',_⟩:=xI q';rw [e']at e;cases e
  |_=>simp [zFK]at h'
 |.tup ds,d',v,h,h',q,q'=>by
  obtain⟨a,vs,e,t,l⟩:=xI q
  cases d' with
  |int j=>rw [xT q']at e;cases e
  |str y=>rw [wG q']at e;cases e
  |tup es=>
   obtain⟨a',vs',e',t',l'⟩:=xI q'
   rw [e]at e';cases e'
   have:=I.tuple_inj t t'
   subst this
   rw [zVH I (by unfold zFK at h;exact h) (by unfold zFK at h';exact h') l l']
  |_=>simp [zFK]at h'
theorem zVH(I:Inv X pins σ H s): ∀{ds es:List MV}{vs:List V},zQK ds=true->zQK es=true->DenL X.K α H ds vs->DenL X.K α H es vs->ds=es
 |[],[],_,_,_,_,_=>rfl
 |[],e::es,_,_,_,q,q'=>by obtain⟨v,r,e,_⟩:=q'.uncons;rw [q.isnil]at e;cases e
 |d::ds,[],_,_,_,q,q'=>by obtain⟨v,r,e,_⟩:=q.uncons;rw [q'.isnil]at e;cases e
 |d::ds,e::es,_,h,h',q,q'=>by
  obtain⟨v,r,rfl,a,l⟩:=q.uncons
  obtain⟨v',r',e',a',l'⟩:=q'.uncons
  cases e'
  unfold zQK at h h'
  rw [aE]at h h'
  rw [zZW I h.1 h'.1 a a',zVH I h.2 h'.2 l l']
end
theorem lexRS{A:Around}{xs ys:List Value}{k:Bool}(h:LexR A s xs ys k):Srt.LexS A s xs ys k:=by
 induction h with
 |nn=>exact .nn
 |nc x xs=>exact .nc x xs
 |cn x xs=>exact .cn x xs
 |eq a _ ih=>exact .eq a ih
 |ne a b=>exact .ne a b
theorem zXX(I:Inv X pins σ H s){ds:List MV}{x:V}{u:Value}(d:Den X.K α H (.tup ds) x)(r:RelV x u): ∃a vs its,u=.ref a/\DenL X.K α H ds vs/\Vals vs its/\Srt.TupAt s.heap a its/\IsTup s.heap a its.toArray:=by
 obtain⟨a,vs,rfl,t,l⟩:=xI d
 cases r
 obtain⟨its,r1,pt,_⟩:=I.tuple t
 obtain⟨o,h1,h2,n,h3⟩:=id pt
 exact⟨a,vs,its,rfl,l,r1,⟨o,n,h1,h2,h3⟩,pt⟩
end
structure OrdD(S:Sto)(ks:List MV):Prop where
 any: ∀a,a∈ks-> ∀b,b∈ks-> ∃t,ltv S zN a b=some t
 tr: ∀a,a∈ks-> ∀b,b∈ks-> ∀c,c∈ks->ltv S zN b a=some false->ltv S zN c b=some false->ltv S zN c a=some false
 as: ∀a,a∈ks-> ∀b,b∈ks->ltv S zN a b=some true->ltv S zN b a=some false
section
variable{X:Cx}{α:List Addr}{S:Sto}{H:Hp}{pins:List (Addr×Obj)}{σ:St}{s:Shared}{k:Nat}{fa:Addr}{fd:FuncData}{ps:List Str}{Fd:List MV->Sto->R Er}
theorem yCO{e:Addr}{ys:List V}{its:List Value}{n:Nat}(J:Inv X pins σ H s)(f:zHS X pins H e)(h0:X.s₀.heap.objs.size<=e)(he:s.heap.get? e=some (seqObj "list" its.toArray n))(hv:Vals ys its)(hz:ys.length<=sizeLine):Inv X pins σ (upd H e (.lst ys)) s:=by
 have s0: ∀o,X.s₀.heap.get? e≠some o:=λo z=>absurd (lt_of_lt_of_le (Heap.lt_size z) h0) (lt_irrefl _)
 refine⟨J.ok,J.os,J.bare,⟨J.base.keep,J.base.slot,λb ob' q n hx=>?_,J.base.there,λb xs q=>?_,λb o' u q=>?_,λb ps q=>?_⟩,J.loc,J.cell,?_,λx c hc=>?_,λp hp=>?_,λb u q=>?_,J.len⟩
 ·rw [zS λz=>s0 ob' (by rw [<-z];exact q)]
  exact J.base.free b ob' q n hx
 ·rw [zS (zZ (J.base.tups b xs q) f.1)];exact J.base.tups b xs q
 ·rw [zS (zZ (J.base.frzs b o' u q) f.1)];exact J.base.frzs b o' u q
 ·obtain⟨mo,z⟩:=J.base.tbls b ps q
  exact⟨mo,by rw [zS (zZ z f.1)];exact z⟩
 ·rw [zS (Ne.symm f.2.1)];exact J.free
 ·rw [zS (f.2.2.2.2.1 x c hc)];exact J.freeC x c hc
 ·obtain⟨e1,n,ne,nf,dd⟩:=J.pin p hp
  exact⟨e1,by rw [zS (f.2.2.2.2.2 p hp)];exact n,ne,nf,dd⟩
 ·by_cases z:b=e
  ·subst z
   rw [yW]at q
   cases q
   exact⟨hz,its,n,hv,he⟩
  ·rw [zS z]at q
   exact(J.hok b u q).stay (λ_ _ _ r=>r) (λc r=>by rw [zS (zZ r f.1)];exact r) λc xs r=>by rw [zS (zZ r f.1)];exact r
noncomputable def zSN(K:PySem.W.Frag)(α:List Addr)(H:Hp)(kds:List MV)(u:Value):MV:=
 open Classical in if h: ∃d v,d∈kds/\Den K α H d v/\RelV v u then Classical.choose h else kds.headD .non
noncomputable def ltV(K:PySem.W.Frag)(α:List Addr)(H:Hp)(S:Sto)(kds:List MV)(p q:Keyed):Bool:=(ltv S zN (zSN K α H kds p.1) (zSN K α H kds q.1)).getD false
theorem dN{K:PySem.W.Frag}{kds:List MV}(hne:kds≠[])(u:Value):zSN K α H kds u∈kds:=by
 unfold zSN
 split
 ·rename_i h
  obtain⟨v,h1,_⟩:=Classical.choose_spec h
  exact h1
 ·match kds,hne with
  |x::l,_=>exact mF0
theorem zNQ{K:PySem.W.Frag}{kds:List MV}{u:Value}(h: ∃d v,d∈kds/\Den K α H d v/\RelV v u): ∃v,Den K α H (zSN K α H kds u) v/\RelV v u:=by
 unfold zSN
 rw [dif_pos h]
 obtain⟨v,_,h2,h3⟩:=Classical.choose_spec h
 exact⟨v,h2,h3⟩
theorem yFW(I:Inv X pins σ H s){kds:List MV}{kvs:List V}{ks:List Value}(hpu: ∀d,d∈kds->zFK d=true)(dk:DenL X.K α H kds kvs)(vk:Vals kvs ks){i:Nat}{u:Value}{a:MV}(hu:ks[i]? =some u)(ha:kds[i]? =some a):
  zSN X.K α H kds u=a:=by
 obtain⟨v,hv,da⟩:=dk.at ha
 obtain⟨u',hu',r⟩:=vk.get hv
 rw [hu]at hu';cases hu'
 have ma:a∈kds:=mem_of_getElem? ha
 have ne:kds≠[]:=λz=>by rw [z]at ma;cases ma
 obtain⟨v',d',r'⟩:=zNQ (K:=X.K) (α:=α) (H:=H) ⟨a,v,ma,da,r⟩
 rw [r'.inj r]at d'
 exact zZW I (hpu _ (dN ne u)) (hpu a ma) d' da
end
section
variable{X:Cx}{α:List Addr}{S:Sto}{H:Hp}{pins:List (Addr×Obj)}{σ:St}{s:Shared}{k:Nat}{fa:Addr}{fd:FuncData}{ps:List Str}{Fd:List MV->Sto->R Er}
theorem yCP{ks its:List Value}{N:Nat}(h1:ks.length=N)(h2:its.length=N):(List.range N).map (λi=>((ks[i]?).getD .none,(its[i]?).getD .none))=ks.zip its:=by
 apply List.ext_getElem?
 intro i
 rw [getElem?_map]
 by_cases hi:i<N
 ·have e:(ks.zip its)[i]? =some (ks[i]'(by omega),its[i]'(by omega)):=by
   rw [List.getElem?_zip_eq_some]
   exact⟨gE0 _,gE0 _⟩
  rw [List.getElem?_range hi,e]
  show some ((ks[i]?).getD .none,(its[i]?).getD .none)=_
  rw [gE0 (by omega),gE0 (by omega)]
  rfl
 ·rw [List.getElem?_eq_none (by rw [length_range];omega),List.getElem?_eq_none (by rw [length_zip];omega)]
  rfl
theorem zNR{β:Type}{l:List β}{d:β}{idx:List Nat}(h: ∀i,i∈idx->i<l.length):idx.map (λi=>(l[i]?).getD d)=idx.filterMap (l[·]?):=by
 induction idx with
 |nil=>rfl
 |cons i idx ih=>
  have hi:=h i mF0
  rw [map_cons,filterMap_cons_some (gE0 hi),ih λj hj=>h j (mO _ hj),gE0 hi]
  rfl
end
def zZX(S:Sto)(ds kds r:List MV):Prop:= ∃idx:List Nat,idx.Perm (List.range ds.length)/\idx.Pairwise (λi j=> ∀a c,kds[i]? =some a->kds[j]? =some c->ltv S zN c a=some false)/\r=idx.filterMap (ds[·]?)
open Classical in
open Classical in
section
variable{X:Cx}{W:XW}{tg iter a:Expr}{f:AX}{af:Rho->Sto->R (List Er)}{e:Expr}{es:List Expr}{pos apos:Pos}
def Itq(K:PySem.W.Frag)(k:Bool)(a:Addr):It:=if k=true then Itl K a else Itt K a
def iSeq(K:PySem.W.Frag)(tl:TE):TI:=λσ H R=>tl σ H λx H1=> ∃k a,x=.ref a/\(∃xs,SqK k K H1 a xs)/\R (Itq K k a) H1
theorem yQN{l:Expr}{tl:TE}(hl:PE X l tl):PI X tg l (iSeq X.K tl):=by
 intro pins s σ H R I h
 refine thn (hl pins s σ H _ I h) λv s1 ⟨x,H1,I1,r1,q1⟩=>?_
 obtain⟨k,a,e,⟨xs,hq⟩,q⟩:=q1
 subst e
 cases r1
 cases k with
 |true=>
  obtain⟨its,rv,p,hz⟩:=I1.list (show SqL X.K H1 a xs from hq)
  refine wpAny_pyIter_list p.isList ?_
  refine⟨s1.heap.objs.size,[s1.heap.objs.size],_,_,H1,rfl,I1.kept (t':=s1.toks) λb o e=>hP0 _ e,zPS a _,⟨_,Heap.get?_push_size _ rfl,rfl,rfl⟩,λb hb=>?_,q⟩
  have e:b=s1.heap.objs.size:=by simpa using hb
  subst e
  exact I1.fpOk (le_refl _) (I1.hok.fresh (le_refl _))
 |false=>
  obtain⟨its,rv,p,hz⟩:=I1.tuple (show SqT X.K H1 a xs from hq)
  refine wpAny_pyIter_tuple (show s1.heap.IsTuple a its.toArray from p) ?_
  refine⟨s1.heap.objs.size,[s1.heap.objs.size],_,_,H1,rfl,I1.kept (t':=s1.toks) λb o e=>hP0 _ e,zMO a _,⟨_,Heap.get?_push_size _ rfl,rfl,rfl⟩,λb hb=>?_,q⟩
  have e:b=s1.heap.objs.size:=by simpa using hb
  subst e
  exact I1.fpOk (le_refl _) (I1.hok.fresh (le_refl _))
def itQ(r:Er)(S:Sto):R Wk:=match srcOf S r with
 |some q=>.ok ⟨q.ds,q.gs⟩ S
 |none=>.no
theorem yQO(he:PEm X W iter f):PIm X W tg iter (λρ S=>(f ρ S).bind itQ):=by
 obtain⟨t,he,k⟩:=he
 refine⟨_,yQN he,λα ρ S σ H Rc wd sl q=>k α ρ S σ H _ wd sl (q.bind λu p S1 α1 H1 e x1 w1 d1 q1=>?_)⟩
 replace q1:=q1.shift x1
 unfold itQ at q1
 split at q1
 ·rename_i q e1
  obtain⟨l1,P1,rfl,p1,D1⟩:=yEY w1 e1 d1.1
  have g1:=D1.get _ _ _ p1
  refine⟨q.k,l1,rfl,⟨_,g1.choose_spec.1⟩,q1.here (u:=Itq X.K q.k l1) w1 ⟨λα S H=>P1 α S H,?_,p1,λα1 S1 H1 α2 S2 H2 b1 x w hs=>D1.stays _ _ _ _ _ _ b1 x w hs,D1.st _ _ _ p1⟩⟩
  intro i α2 S2 H2 b1 w2
  obtain⟨us,c1,c2⟩:=D1.get _ _ _ b1
  obtain⟨qk,qd,qg⟩:=q
  cases qk with
  |true=>
   obtain⟨i1,i2⟩:=zIM (X:=X) (a:=l1) (ds:=qd) i α2 S2 H2 ⟨us,c1,c2⟩ w2
   refine⟨λhi=>⟨(i1 hi).1,λx H' y=>?_⟩,i2⟩
   obtain⟨j1,j2,j3,j4⟩:=(i1 hi).2 x H' y
   obtain⟨rfl,_⟩:=y
   exact⟨j1,j2,b1,j4⟩
  |false=>
   obtain⟨i1,i2⟩:=zYY (X:=X) (a:=l1) (ds:=qd) i α2 S2 H2 ⟨us,c1,c2⟩ w2
   refine⟨λhi=>⟨(i1 hi).1,λx H' y=>?_⟩,i2⟩
   obtain⟨j1,j2,j3,j4⟩:=(i1 hi).2 x H' y
   obtain⟨rfl,_⟩:=y
   exact⟨j1,j2,b1,j4⟩
 ·exact q1.elim
theorem DenL.eraseIdx{K:PySem.W.Frag}{α:List Addr}{H:Hp}: ∀{ds:List MV}{vs:List V}(n:Nat),DenL K α H ds vs->DenL K α H (ds.eraseIdx n) (vs.eraseIdx n)
 |[],_,_,q=>by rw [q.isnil];exact yK
 |d::ds,_,0,q=>by
  obtain⟨v,r,rfl,_,l⟩:=q.uncons
  exact l
 |d::ds,_,n+1,q=>by
  obtain⟨v,r,rfl,a,l⟩:=q.uncons
  exact yG a (DenL.eraseIdx n l)
end
section
variable{X:Cx}{W:XW}{a b o i:Expr}{f g:AX}{pos:Pos}{pins:List (Addr×Obj)}{σ:St}{H:Hp}{s:Shared}{α:List Addr}
def zHM(kvs:List (Key×V))(k:Key)(v:V):List (Key×V):=if(kvs.any λkv=>decide (kv.1=k))=true then kvs.map (λkv=>if kv.1=k then(kv.1,v)else kv)else kvs++[(k,v)]
theorem zNS(kvs:List (Key×V))(k:Key)(v:V):(zHM kvs k v).length<=kvs.length+1:=by
 unfold zHM
 split
 ·rw [lM];exact le_succ _
 ·rw [lA];exact le_refl _
theorem yQP{kvs:List (Key×V)}{vs:List (Key×Value)}(r:KV kvs vs)(k:Key):(kvs.any λkv=>decide (kv.1=k))=vs.any λkv=>decide (kv.1=k):=by
 unfold KV at r
 induction r with
 |nil=>rfl
 |cons h t ih=>rw [any_cons,any_cons,ih,h.1]
theorem yLB{kvs:List (Key×V)}{vs:List (Key×Value)}(r:KV kvs vs)(k:Key){y:V}{u:Value}(ry:RelV y u):KV (kvs.map λkv=>if kv.1=k then(kv.1,y)else kv) (vs.map λkv=>if kv.1=k then(kv.1,u)else kv):=by
 unfold KV at r ⊢
 induction r with
 |nil=>exact .nil
 |@cons p q ps qs h t ih=>
  rw [map_cons,map_cons]
  refine .cons ?_ ih
  by_cases e:p.1=k
  ·rw [iP e,iP (h.1.symm.trans e)];exact⟨h.1,ry⟩
  ·rw [iN e,iN λz=>e (h.1.trans z)];exact h
theorem yLC{kvs:List (Key×V)}{vs:List (Key×Value)}(r:KV kvs vs){p:Key×V}{q:Key×Value}(h:p.1=q.1/\RelV p.2 q.2):KV (kvs++[p]) (vs++[q]):=by
 unfold KV at r ⊢
 induction r with
 |nil=>exact .cons h .nil
 |cons h' t ih=>exact .cons h' ih
theorem yFX{kvs:List (Key×V)}{vs:List (Key×Value)}(r:KV kvs vs)(k:Key){y:V}{u:Value}(ry:RelV y u):KV (zHM kvs k y) (stored vs k u):=by
 unfold zHM stored
 rw [yQP r k]
 by_cases e:(vs.any λkv=>decide (kv.1=k))=true
 ·rw [iP e,iP e];exact yLB r k ry
 ·rw [iN e,iN e];exact yLC r ⟨rfl,ry⟩
theorem zSO{k:MV}{a b:Key}(h:KeyD k a)(h':KeyD k b):a=b:=by
 cases k with
 |int i=>exact Eq.trans (show a=.inl i from h) (show b=.inl i from h').symm
 |str x=>exact Eq.trans (show a=.inr (mkS x)from h) (show b=.inr (mkS x)from h').symm
 |_=>exact False.elim h
theorem zNT{k k':MV}{a:Key}(h:KeyD k a)(h':KeyD k' a):k=k':=by
 cases k with
 |int i=>
  have e:a=.inl i:=h
  subst e
  cases k' with
  |int j=>have e':(Sum.inl i:Key)=.inl j:=h';cases e';rfl
  |str y=>have e':(Sum.inl i:Key)=.inr (mkS y):=h';cases e'
  |_=>exact False.elim h'
 |str x=>
  have e:a=.inr (mkS x):=h
  subst e
  cases k' with
  |int j=>have e':(Sum.inr (mkS x):Key)=.inl j:=h';cases e'
  |str y=>
   have e':(Sum.inr (mkS x):Key)=.inr (mkS y):=h'
   injection e' with e'
   rw [zLZ e']
  |_=>exact False.elim h'
 |_=>exact False.elim h
theorem zVI: ∀{kvs:List (MV×MV)}{ks:List (Key×V)}{k:MV}{k':Key},DenK X.K α H kvs ks->KeyD k k'->(ks.any λkv=>decide (kv.1=k'))=(look kvs k).isSome
 |_,_,k,k',.nil,hk=>rfl
 |_,_,k,k',.cons (k:=c) (k':=c') hc a l,hk=>by
  rw [zQI,any_cons]
  by_cases h:c=k
  ·subst h
   rw [iP rfl,dT0 (zSO hc hk)];rfl
  ·have hn: ¬c'=k':=λz=>h (zNT hc (z.symm▸hk))
   rw [iN h,dF0 hn,Bool.false_or]
   exact zVI l hk
theorem zNU: ∀{kvs:List (MV×MV)}{ks:List (Key×V)}{k d:MV}{k':Key}{v:V},DenK X.K α H kvs ks->KeyD k k'->Den X.K α H d v->DenK X.K α H (kvs.map λp=>if p.1=k then(p.1,d)else p) (ks.map λkv=>if kv.1=k' then(kv.1,v)else kv)
 |_,_,k,d,k',v,.nil,hk,hd=>.nil
 |_,_,k,d,k',v,.cons (k:=c) (k':=c') hc a l,hk,hd=>by
  rw [map_cons,map_cons]
  by_cases h:c=k
  ·subst h
   rw [iP rfl,iP (zSO hc hk)]
   exact .cons hc hd (zNU l hk hd)
  ·have hn: ¬c'=k':=λz=>h (zNT hc (z.symm▸hk))
   rw [iN h,iN hn]
   exact .cons hc a (zNU l hk hd)
theorem DenK.append: ∀{kvs kvs':List (MV×MV)}{xs xs':List (Key×V)},DenK X.K α H kvs xs->DenK X.K α H kvs' xs'->DenK X.K α H (kvs++kvs') (xs++xs')
 |_,_,_,_,.nil,h=>h
 |_,_,_,_,.cons hk a l,h=>.cons hk a (DenK.append l h)
theorem DenK.length: ∀{kvs:List (MV×MV)}{xs:List (Key×V)},DenK X.K α H kvs xs->xs.length=kvs.length
 |_,_,.nil=>rfl
 |_,_,.cons _ _ l=>by rw [lC,lC,DenK.length l]
theorem zVJ{kvs:List (MV×MV)}{ks:List (Key×V)}{k d:MV}{k':Key}{v:V}(l:DenK X.K α H kvs ks)(hk:KeyD k k')(hd:Den X.K α H d v):DenK X.K α H (zNJ kvs k d) (zHM ks k' v):=by
 unfold zNJ zHM
 rw [zVI l hk]
 by_cases h:(look kvs k).isSome=true
 ·rw [iP h,iP h];exact zNU l hk hd
 ·rw [iN h,iN h];exact l.append (.cons hk hd .nil)
def DK(X:Cx)(H:Hp)(d:Addr)(ks:List (Key×V)):Prop:=H d=some (.dK ks)\/(ks=[]/\H d=some (DN X.prog X.w d []))
theorem dO(I:Inv X pins σ H s){ks:List (Key×V)}{d:Addr}(h:DK X H d ks):ks.length<=sizeLine/\(d==sysModules)=false/\ ∃vs,KV ks vs/\s.heap.DictOf (xA X.prog X.w) d vs:=by
 rcases h with h|⟨rfl,h⟩
 ·exact(show ObjOk X.prog X.w H s.heap d (.dK ks)from I.hok d _ h)
 ·obtain⟨⟨hz,hs,o,es,ep,ho,hc,hd,he,hn⟩,_⟩:=(show ObjOk X.prog X.w H s.heap d (DN X.prog X.w d [])from I.hok d _ h)
  have he':es.toList=[]:=he
  refine⟨zero_le _,hs,[],.nil,o,es,ep,ho,hc,hd,λe hm=>?_,by rw [he'];exact .nil,nodup_nil⟩
  rw [<-Array.mem_toList_iff,he']at hm
  exact absurd hm (by simp)
theorem zNV:CallR X (.type "list") (λxs H Q=> ∃d ks,xs=[.ref d]/\DK X H d ks/\X.calm=true/\ ∀l,H l=none->Q (.ref l) (upd H l (.lst (ks.map λp=>kV p.1)))):=by
 intro pins s σ H xs us Q I r h
 obtain⟨d,ks,rfl,dd,hc,q⟩:=h
 obtain⟨u,rfl,rx⟩:=vals1 r
 cases rx
 obtain⟨z,hd,vs,rel,dm⟩:=dO I dd
 obtain⟨ep,hat⟩:=dm.dictAt
 have hl:ks.length=vs.length:=Paired.length rel
 refine PySem.W.kdl_call (PySem.W.kdl_dict (knd:=xA X.prog X.w) (kvs:=vs) (ep:=ep) hd) (I.ok.hd hc) hat (by omega) λh' tk acc c' hk hS hacc=>?_
 have rv:Vals (ks.map λp=>kV p.1) acc.toList:=by
  have key: ∀{ks:List (Key×V)}{vs:List (Key×Value)}{us:List Value},KV ks vs->us.length=vs.length->(∀(j:Nat)(v:Value),us[j]? =some v-> ∃(k:Key)(x:Value),vs[j]? =some (k,x)/\(xA X.prog X.w).is k v=true)->Vals (ks.map λp=>kV p.1) us:=by
   intro ks vs us kv
   unfold KV at kv
   induction kv generalizing us with
   |nil=>intro hl _;cases us with
    |nil=>exact .nil
    |cons a b=>simp at hl
   |@cons p q ps qs h t ih=>
    intro hl hv
    cases us with
    |nil=>simp at hl
    |cons a b=>
     obtain⟨k,x,e,hi⟩:=hv 0 a rfl
     simp only [List.getElem?_cons_zero,Option.some.injEq]at e
     subst e
     rw [map_cons]
     refine .cons ?_ (ih (by simpa using hl) λj v hj=>by simpa using hv (j+1) v (by simpa using hj))
     rw [h.1]
     rcases yO hi with⟨i,t,e1,e2⟩|⟨i,t,e1,e2⟩
     ·subst e2;rw [show k=.inl i from e1];exact⟨t,rfl⟩
     ·subst e2;rw [show k=.inr i from e1];exact⟨t,rfl⟩
  exact key rel (by rw [Array.length_toList];exact hacc.1) λj v e=>hacc.2 j v (by rw [<-Array.getElem?_toList];exact e)
 refine⟨.ref s.heap.objs.size,_,I.laid (t':=tk) hk (le_refl _) (show ObjOk X.prog X.w _ h' _ (.lst (ks.map λp=>kV p.1))from⟨by rw [lM];exact z,acc.toList,c',rv,?_⟩),rfl,q _ (I.hok.fresh (le_refl _))⟩
 rw [Array.toArray_toList]
 exact hS
theorem zKB: ∀{kvs:List (MV×MV)}{ks:List (Key×V)},DenK X.K α H kvs ks->DenL X.K α H (kvs.map (·.1)) (ks.map λp=>kV p.1)
 |_,_,.nil=>yK
 |_,_,.cons (k:=c) (k':=c') hc a l=>by
  refine yG ?_ (zKB l)
  cases c with
  |int i=>rw [show c'=.inl i from hc];exact xB i
  |str x=>rw [show c'=.inr (mkS x)from hc];exact zAT x
  |_=>exact False.elim hc
end
section
variable{X:Cx}{W:XW}{o e:Expr}{es:List Expr}{f:AX}{af:Rho->Sto->R (List Er)}{apos pos:Pos}{to:TE}{t:TA}{T:String}{name:Str}{id:String}{r:V->List V->Hp->VK->Prop}
def zIV(X:Cx)(T:String)(TY:V->Hp->Prop):Prop:= ∀(pins:List (Addr×Obj))(s:Shared)(σ:St)(H:Hp)(x:V)(v:Value),Inv X pins σ H s->RelV x v->TY x H->s.TypeIs v T/\ ∀a,v=.ref a-> ∃ob,s.heap.get? a=some ob/\ob.dict=none
theorem yQQ{TY:V->Hp->Prop}(hTY:zIV X T TY)(pa:PlainAttrs T)(slot:Slot T name id)(hty:typeOf (.builtin id)=pure (.type "method_descriptor"))(hm:MtR X id r)(ho:PE X o to)(ha:PA X (e::es) t)
  (hbase:attributeBase o name X.env (eval o X.env)=eval o X.env)
  (hfew:((backTo pos (starEach (e::es) X.env)).all (λx=>!x.1)&&(backToKw pos (keywordEach [] X.env)).all (λx=>x.1.isSome)
   &&decide ((e::es).length+([]:List Keyword).length+(if([]:List Keyword).isEmpty then 0 else 1)<30))=true)
  (hline:(apos.endLine==pos.line)=true) (hs:starEach (e::es) X.env=(false,eval e X.env)::starEach es X.env) (hplain:(backTo pos (starEach es X.env)).any (·.1)=false):
  PE X (.Call (.Attribute o name apos) (e::es) [] pos) (λσ H Q=>to σ H λx H1=>TY x H1/\t σ H1 λvs H2=>r x vs H2 Q):=by
 intro pins s σ H Q I h
 refine wpAny_Call_method_late hbase hfew hline rfl (thn (ho pins s σ H _ I h) λv s1 ⟨x,H1,I1,r1,ty,q1⟩=>?_)
 obtain⟨h1,h2⟩:=hTY pins s1 σ H1 x v I1 r1 ty
 refine⟨T,id,pa,slot,hty,h1,h2,?_⟩
 have hA:=ha pos pins s1 σ H1 _ I1 q1
 rw [hs]at hA ⊢
 refine Calls.callWith_builtin (by show(false || (backTo pos (starEach es X.env)).any (·.1))=false;rw [hplain]<;>rfl) (Calls.evalArgs_plain ?_)
 exact thn hA λus s2 ⟨vs,H2,I2,r2,q2⟩=>hm pins s2 σ H2 x vs v us Q I2 r1 r2 q2
end
def VAt(d:Addr)(us:List Value)(ep:Nat)(h:Heap):Prop:= ∃o es,h.get? d=some o/\o.ExactDict/\o.data=.dict es ep/\es.toList.map (·.val)=us
theorem VAt.at{d:Addr}{us:List Value}{ep:Nat}{h h':Heap}(x:VAt d us ep h)(m: ∀o,h.get? d=some o->h'.get? d=some o):VAt d us ep h':=let ⟨o,es,ho,r⟩:=x;⟨o,es,m o ho,r⟩
theorem VAt.size{d:Addr}{us:List Value}{ep:Nat}{h:Heap}(x:VAt d us ep h): ∃o es,h.get? d=some o/\o.ExactDict/\o.data=.dict es ep/\es.size=us.length/\ ∀i (hi:i<es.size),us[i]? =some es[i].val:=by
 obtain⟨o,es,ho,hc,hd,e⟩:=x
 refine⟨o,es,ho,hc,hd,by rw [<-e,lM,Array.length_toList],λi hi=>?_⟩
 rw [<-e,getElem?_map,Array.getElem?_toList,Array.getElem?_eq_getElem hi]
 rfl
end M
end L2
namespace L2
open PySem PySem.Spec PyProof.Rows
abbrev BIG:Nat:=10 ^ 100
section
variable{X:Cx}{par:Str}{i:Nat}{pins:List (Addr×Obj)}{σ:St}{H:Hp}
def tJ(i:Nat):TE:=λσ H Q=> ∃n,σ[i]? =some (some (.int n))/\n.natAbs<BIG/\ ∀y:Str,Q (.str y) H
end
namespace M
structure XIn(K:PySem.W.Frag)(M C f:Addr):Prop where
 ex: ∃nm q N bs sn sub ab col dd k0 k1 k2 k3 k5,K.lookup C=some (excClassObj nm q C N bs (.ref M::bmV) true sn sub ab col dd k0 k1 k2 k3 k5 "ValueError.__new__")/\PySem.W.nsOkIn K N=true/\PySem.W.nsIn K N "__init__"=some (some (.ref f))/\ ∀n∈qn,PySem.W.nsIn K N n=some none
 fo: ∃o,K.lookup f=some o/\o.cls=.type "function"
theorem XIn.cl{K:PySem.W.Frag}{M C f:Addr}(x:XIn K M C f):XCl K C (.ref M::bmV) (some (.ref f)):=by
 obtain⟨nm,q,N,bs,sn,sub,ab,col,dd,k0,k1,k2,k3,k5,a,b,c,d⟩:=x.ex
 exact⟨nm,q,N,bs,true,sn,sub,ab,col,dd,k0,k1,k2,k3,k5,a,b,c,d,rfl⟩
structure DefM(K:PySem.W.Frag)(mg:Str->Option Value)(x:Str)(st:Stmt):Prop where
 ex: ∃f fd,mg x=some (.ref f)/\Fun K x x st f fd
theorem def_mk{K:PySem.W.Frag}{mg:Str->Option Value}{h:Heap}{x:Str}{st:Stmt}{g:Addr}{od an:Option Addr}{sl:Array (Option Value)}{oc kV dc pm cd ct:Value}(a:PySem.W.nsIn K mainGlobals x=some (some (.ref g)))
  (l:K.lookup g=some ⟨oc,od,.func (PySem.W.fnOf x x (zEK st) (zAS st) (zH st) .none kV dc pm an cd ct),sl⟩) (c:PySem.W.codeIn K cd x=true) (k:PySem.W.keepIn K (.ref g)=true) (X:K.In h) (GG:h.Ns mainGlobals mg):DefM K mg x st:=⟨_,_,PySem.W.mg_of X GG a,yOO l c k⟩
structure Cal(P:Program)(w:World)(K:PySem.W.Frag)(mg:Str->Option Value)(base:Heap)(CX:CXT)(x:Str)(k:Nat)(ps:List Str)(sp:Sp):Prop where
 ex: ∃fa fd,FnOk P w K mg base CX k fa fd ps sp/\mg x=some (.ref fa)/\PySem.W.keepIn K (.ref fa)=true/\Binds K fd ps []
abbrev CalM(P:Program)(w:World)(K:PySem.W.Frag)(mg:Str->Option Value)(base:Heap)(x:Str)(k n:Nat)(ps:List Str)(F:List MV->Sto->R Er):Prop:=Cal P w K mg base CX0 x k ps (spM ⟨K,mg,P,w⟩ n F)
abbrev CalX(P:Program)(w:World)(K:PySem.W.Frag)(mg:Str->Option Value)(base:Heap)(x:Str)(k n:Nat)(ps:List Str)(F:List MV->Sto->R Er):Prop:=Cal P w K mg base (CXe P w) x k ps (spX ⟨K,mg,P,w⟩ n F)
section
variable{P:Program}{w:World}{K:PySem.W.Frag}{mg:Str->Option Value}{base:Heap}{x:Str}{st:Stmt}{N ps:List Str}{k n:Nat}{F:List MV->Sto->R Er}
abbrev yQR(x:Str)(st:Stmt)(ps:List Str):Prop:= ∀(kV doc pm:Value)(an:Option Addr)(cdv ct:Value)(us:List Value),us.length=ps.length->bindArgs (PySem.W.fnOf x x (zEK st) (zAS st) (zH st) .none kV doc pm an cdv ct) ⟨us,[]⟩=pure (ps.zip us)
theorem okC(D:DefM K mg x st)(hb:yQR x st ps)(h: ∀f fd,Fun K x x st f fd->FnOk P w K mg base CX0 k f fd ps (spM ⟨K,mg,P,w⟩ n F)):CalM P w K mg base x k n ps F:=
 let ⟨f,fd,m,Fu⟩:=D.ex;⟨f,fd,h f fd Fu,m,Fu.kp,Fu.binds hb⟩
theorem Cal.noX(G:CalX P w K mg base x k n ps F):CalM P w K mg base x k n ps F:=let ⟨fa,fd,G,m,kp,b⟩:=G.ex;⟨fa,fd,G.noX,m,kp,b⟩
theorem yQS{l:PySem.W.OpenLaw}{fa:Addr}{p:Str}(D:DefM K mg x st)(hfa:mg x=some (.ref fa))(hb: ∀(kV doc pm:Value)(an:Option Addr)(cdv ct:Value)(s:Shared)(v:Value),BindsTo s (PySem.W.fnOf x x (zEK st) (zAS st) (zH st) .none kV doc pm an cdv ct) ⟨[v],[]⟩ [(p,v)])
  (h: ∀base f fd,Fun K x x st f fd->FnOk l.prog w K mg base CX0 k f fd [p] (spM ⟨K,mg,l.prog,w⟩ 1 F)):
  ∃fd:FuncData,(∀(s:Shared)(v:Value),BindsTo s fd ⟨[v],[]⟩ [(p,v)])/\ ∀base:Heap,K.In base->base.Ns mainGlobals mg->FnOk l.prog w K mg base CX0 k fa fd [p] (zQG K F):=by
 obtain⟨f,fd,m,Fu⟩:=D.ex
 rw [hfa]at m
 cases m
 refine⟨fd,?_,λbase _ _=>(h base fa fd Fu).imp λvs H Q E=>yEZ (g:=⟨K,mg,l.prog,w⟩) vs H Q E⟩
 obtain⟨_,_,_,_,_,_,_,_,_,rfl,_,_⟩:=Fu.ex
 exact hb _ _ _ _ _ _
end
section
variable{X:Cx}{W:XW}{E:XK}{e:Expr}{es:List Expr}{af:Rho->Sto->R (List Er)}{k n:Nat}{ps:List Str}{F:List MV->Sto->R Er}{x:Str}{p pos:Pos}
theorem zM(G:CalM X.prog X.w X.K X.mg X.base x k n ps F)(hr:Room k X.A)(hg:Gl X x)(ha:PAm X W (e::es) af)(hdb:(x==("__debug__":Str))=false:=by decide)
  (he:starEach (e::es) X.env=(false,eval e X.env)::starEach es X.env:=by rfl) (hpl:(backTo pos (starEach es X.env)).any (·.1)=false:=by rfl):PEm X W (.Call (.Name x p) (e::es) [] pos) (λρ S=>(af ρ S).bind λrs S1=>yA n F rs S1):=
 let ⟨_,_,G,m,kp,b⟩:=G.ex;yJP G hr hg m kp b ha hdb he hpl
variable{M:Addr}{cs:List (Str×Addr)}{i j:Nat}{nm y:Str}{Fh:AY}{b0:Stmt}{suite:List Stmt}{mp hpos cpos epos pos':Pos}{ns:List Str}
end
end M
end L2
namespace L2
open PySem PySem.Spec PyProof.Rows
structure RoomH(k:Nat)(A:Around):Prop where
 dp:A.depth+3 * k+5<recursionLimit
 un:A.units+16 * k+200<cLine
theorem RoomH.depth{k:Nat}{A:Around}(r:RoomH k A):A.depth<recursionLimit:=by have:=r.dp;omega
theorem RoomH.units{k:Nat}{A:Around}(r:RoomH k A):A.units+64<cLine:=by have:=r.un;omega
structure FnOkH(P:Program)(w:World)(K:PySem.W.Frag)(mg:Str->Option Value)(base:Heap)(k:Nat)(f:Addr)(fd:FuncData)(ps:List Str)(sp:Sp):Prop where
 len: ∀vs H Q E,sp vs H Q E->vs.length=ps.length
 run: ∀(A:Around)(outer:List Env)(s:Shared)(H:Hp)(args:Args)(us:List Value)(vs:List V)(Q:VK)(E:XK),RoomH k A->Env0 P w K mg base A outer s H->BindsTo s fd args (ps.zip us)->Vals vs us->sp vs H Q E->
  codeAny (model P w) A (.call (.ref f) args) (CR CX0 outer P w H s Q E) s
namespace M
section
variable{P:Program}{w:World}{K:PySem.W.Frag}{mg:Str->Option Value}{base:Heap}{x:Str}{st:Stmt}{N ps:List Str}{k n:Nat}{F:List MV->Sto->R Er}
structure CalH(P:Program)(w:World)(K:PySem.W.Frag)(mg:Str->Option Value)(base:Heap)(x:Str)(k n:Nat)(ps:List Str)(F:List MV->Sto->R Er):Prop where
 ex: ∃fa fd,FnOkH P w K mg base k fa fd ps (spM ⟨K,mg,P,w⟩ n F)/\mg x=some (.ref fa)/\PySem.W.keepIn K (.ref fa)=true/\Binds K fd ps []
end
def maxF:List Er->Sto->R Er
 |[.val (.int i),.val (.int j)],S=>.ok (.val (.int (if j>i then j else i))) S
 |_,_=>.no
def zXY:List Er->Sto->R Er
 |[.val (.int i),.val (.int j)],S=>.ok (.val (.int (if j<i then j else i))) S
 |_,_=>.no
section
variable{X:Cx}{W:XW}
theorem yFY:zDV X W (λxs H Q=> ∃i j,xs=[.int i,.int j]/\Q (.int (if j<i then j else i)) H) zXY:=by
 intro rs vs α S H Q wd d post
 unfold zXY at post
 split at post
 ·obtain⟨v,u,rfl,dv,du⟩:=argx2 d
  cases xU dv
  cases xU du
  exact⟨_,_,rfl,Post.val post wd (xB _)⟩
 ·exact post.elim
end
theorem yFZ:bootBuiltins "min"=some (.builtin "min"):=by decide+kernel
section
variable{X:Cx}{W:XW}{o e:Expr}{es:List Expr}{f:AX}{af:Rho->Sto->R (List Er)}{apos pos:Pos}
def lit3F(kvs:List (MV×MV))(S:Sto):R Er:=.ok (.val (.loc S.length)) (S++[.dic kvs])
end
section
variable{X:Cx}{W:XW}{o e:Expr}{es:List Expr}{f:AX}{af:Rho->Sto->R (List Er)}{apos pos:Pos}
def zEE(ks:List (Key×V))(k:Key):Option V:=(ks.find? λp=>decide (p.1=k)).map (·.2)
theorem zZY: ∀{ks:List (Key×V)}{vs:List (Key×Value)}(r:KV ks vs)(k:Key),(∀v,zEE ks k=some v-> ∃u,valueAt vs k=some u/\RelV v u)/\(zEE ks k=none->valueAt vs k=none)
 |_,_,.nil,k=>⟨λv h=>(nomatch h),λ_=>rfl⟩
 |(a,x)::ks,(b,u)::vs,.cons ⟨h1,h2⟩ l,k=>by
  cases (show a=b from h1)
  have ih:=zZY l k
  unfold zEE valueAt
  by_cases c:a=k
  ·simp only [find?_cons,c,decide_true,Option.map_some]
   exact⟨λv h=>⟨u,rfl,by cases h;exact h2⟩,λh=>nomatch h⟩
  ·simp only [find?_cons,c,decide_false]
   exact ih
theorem zQM{α:List Addr}{H:Hp}: ∀{kvs:List (MV×MV)}{ks:List (Key×V)}{k:MV}{k':Key},DenK X.K α H kvs ks->KeyD k k'->(∀d,look kvs k=some d-> ∃v,zEE ks k'=some v/\Den X.K α H d v)/\(look kvs k=none->zEE ks k'=none)
 |_,_,_,_,.nil,_=>⟨λd h=>(nomatch h),λ_=>rfl⟩
 |_,_,k,k',.cons (k:=k0) (k':=k0') (d:=d0) (v:=v0) h1 h2 l,hk=>by
  have ih:=zQM l hk
  rw [zQI]
  unfold zEE
  by_cases c:k0=k
  ·subst c
   have:=zSO h1 hk
   simp only [find?_cons,this,decide_true,Option.map_some,iP rfl]
   exact⟨λd h=>⟨v0,rfl,by cases h;exact h2⟩,λh=>nomatch h⟩
  ·have hn: ¬k0'=k':=λz=>c (zNT h1 (z▸hk))
   simp only [find?_cons,hn,decide_false,iN c]
   exact ih
def TyK(X:Cx)(x:V)(H:Hp):Prop:= ∃d ks,x=.ref d/\DK X H d ks
theorem yGA:zIV X "dict" (TyK X):=by
 intro pins s σ H x v I rx ⟨d,ks,e,dd⟩
 subst e
 cases rx
 obtain⟨_,hs,vs,kv,o,es,ep,ho,hc,_⟩:=dO I dd
 exact⟨⟨o,ho,hc.1⟩,λa e=>by cases e;exact⟨o,ho,hc.2.1⟩⟩
end
noncomputable section
variable{α β:Type}
def vJ(i:Nat)(ρ:Rho)(S:Sto):R Er:=rdSl (ρ[i]?) S
def kJ(d:MV)(_:Rho)(S:Sto):R Er:=.ok (.val d) S
def bJ(f:Rho->Sto->R α)(F:α->Sto->R β)(ρ:Rho)(S:Sto):R β:=(f ρ S).bind F
def dJ(F:Er->Er->Sto->R Er)(f g:AX)(ρ:Rho)(S:Sto):R Er:=(f ρ S).bind λp S=>(g ρ S).bind λq S=>F p q S
def nJ(f:AX)(ρ:Rho)(S:Sto):R Er:=(f ρ S).bind λp S=>(asB p S).bind λk S=>.ok (.val (.bl !k)) S
def aJ(f g:AX)(ρ:Rho)(S:Sto):R Er:=(f ρ S).bind λp S=>andF p S λS=>g ρ S
def oJ(f g:AX)(ρ:Rho)(S:Sto):R Er:=(f ρ S).bind λp S=>orF p S λS=>g ρ S
def iJ(c:AZ)(f g:Rho->Sto->R α)(ρ:Rho)(S:Sto):R α:=(c ρ S).bind λk S=>if k=true then f ρ S else g ρ S
def mJ(_:Rho)(S:Sto):R (Option Int):=.ok none S
def tJ(F:Er->Option Int->Option Int->Sto->R Er)(f:AX)(g h:Rho->Sto->R (Option Int))(ρ:Rho)(S:Sto):R Er:=(f ρ S).bind λp S=>(g ρ S).bind λl S=>(h ρ S).bind λu S=>F p l u S
def lJ(k:List (MV×MV))(_:Rho)(S:Sto):R Er:=lit3F k S
def zJ(_:Rho)(S:Sto):R Er:=zUZ S
def fJ(n:Nat)(F:List MV->Sto->R Er)(a:Rho->Sto->R (List Er))(ρ:Rho)(S:Sto):R Er:=(a ρ S).bind λr S=>yA n F r S
def xJ(n:Nat)(F:List MV->Sto->R Er)(a:Rho->Sto->R (List Er))(ρ:Rho)(S:Sto):R Er:=(a ρ S).bind λr S=>zZJ n F r S
def hJ(F:List MV->Sto->R Er)(_:Rho)(S:Sto):R Er:=yA 0 F [] S
def eJ(t:Er->Sto->Bool)(F:Er->List Er->Sto->R Er)(f:AX)(a:Rho->Sto->R (List Er))(ρ:Rho)(S:Sto):R Er:=(f ρ S).bind λp S=>if t p S=true then(a ρ S).bind λr S=>F p r S else .no
def gJ(t:Er->Sto->Bool)(F:Er->List Er->Sto->R Er)(f:AX)(ρ:Rho)(S:Sto):R Er:=(f ρ S).bind λp S=>if t p S=true then F p [] S else .no
def uJ(_:Rho)(S:Sto):R Bool:=.ok true S
def pJ(i:Rho->Sto->R Wk)(g:MV->Rho->Sto->R Rho)(c:AZ)(e:AX)(n:Nat)(I:List Nat)(ρ:Rho)(S:Sto):R Er:=(i ρ S).bind λk S=>if k.ds.length<1000000 then(yY g c e (blk n I ρ) k.gs k.ds S).bind λo S=>.ok (.new o) S else .no
def jJ(F G:Er->Er->Sto->R Er)(f g h:AX)(ρ:Rho)(S:Sto):R Er:=(f ρ S).bind λp S=>(g ρ S).bind λq S=>chF F G p q S λS=>h ρ S
def qJ(f:AZ)(ρ:Rho)(S:Sto):R Bool:=(f ρ S).bind λk S=>.ok (!k) S
def rJ(f g:AZ)(ρ:Rho)(S:Sto):R Bool:=(f ρ S).bind λk S=>if k=true then g ρ S else .ok false S
def sJ(f g:AZ)(ρ:Rho)(S:Sto):R Bool:=(f ρ S).bind λk S=>if k=true then .ok true S else g ρ S
def wJ(_:Rho)(S:Sto):R (List Er):=.ok [] S
def yJ(f:AX)(g:Rho->Sto->R (List Er))(ρ:Rho)(S:Sto):R (List Er):=(f ρ S).bind λp S=>(g ρ S).bind λl S=>.ok (p::l) S
def AJ(f:AX)(ρ:Rho)(S:Sto):R Fl:=(f ρ S).bind λr S=>.ok (.ret r) S
def BJ(f:AX)(ρ:Rho)(S:Sto):R Fl:=(f ρ S).bind λ_ S=>.ok (.next ρ) S
def CJ(f:AX)(i:Nat)(ρ:Rho)(S:Sto):R Fl:=(f ρ S).bind (zRY ρ i)
def DJ(F:Er->Er->MV->Rho->Sto->R Rho)(f g:AX)(d:MV)(ρ:Rho)(S:Sto):R Rho:=(f ρ S).bind λp S=>(g ρ S).bind λq S=>F p q d ρ S
def EJ(f:AX)(g:MV->Rho->Sto->R Rho)(ρ:Rho)(S:Sto):R Fl:=(f ρ S).bind (asgF g ρ)
def FJ(i:Rho->Sto->R Wk)(g:MV->Rho->Sto->R Rho)(b:AY)(ρ:Rho)(S:Sto):R Fl:=(i ρ S).bind λk S=>kS g b k.gs k.ds ρ S
def GJ(a:Rho->Sto->R (List Er))(c:Str)(ρ:Rho)(S:Sto):R Fl:=(a ρ S).bind λr S=>if r.length<=10 then .exc c [] S else .no
def HJ(cs:List Str)(i:Nat)(h:AY)(n:Nat)(F:List MV->Sto->R Er)(a:Rho->Sto->R (List Er))(ρ:Rho)(S:Sto):R Fl:=(noX (a ρ S)).bind λr S=>tryF cs i (λ_ S=>.ok (.next ρ) S) h ρ (zZJ n F r S)
def IJ(cs:List Str)(i j:Nat)(h:AY)(n:Nat)(F:List MV->Sto->R Er)(a:Rho->Sto->R (List Er))(ρ:Rho)(S:Sto):R Fl:=(noX (a ρ S)).bind λr S=>tryF cs i (zRY ρ j) h ρ (zZJ n F r S)
def JJ(ρ:Rho)(S:Sto):R Fl:=.ok (.next ρ) S
end
section
variable{X:Cx}{W:XW}{a e:Expr}{tg:Expr}{p pos:Pos}{ta:TA}{f:AX}{af:Rho->Sto->R (List Er)}
def augF(F:Er->Er->Sto->R Er)(i:Nat)(f:AX)(ρ:Rho)(S:Sto):R Fl:=(rdSl (ρ[i]?) S).bind λp S1=>(f ρ S1).bind λq S2=>(F p q S2).bind (zRY ρ i)
theorem zEN:bootBuiltins "sorted"=some (.builtin "sorted"):=by decide+kernel
end
section
variable{X:Cx}{W:XW}{M:Addr}{cs:List (Str×Addr)}{i:Nat}{nm:Str}{Fh:AY}{b0:Stmt}{suite:List Stmt}{mp hpos cpos epos pos p:Pos}{e:Expr}{es:List Expr}{af:Rho->Sto->R (List Er)}{k n:Nat}{fa:Addr}{fd:FuncData}{ps:List Str}{F:List MV->Sto->R Er}{x:Str}{ns:List Str}
def TB(X:Cx)(W:XW)(ns:List Str)(i:Nat)(Fh:AY)(hs:List ExceptHandler)(st:Stmt)(bf:AX):Prop:=
 ∀α ρ S σ H D pins s,Wd X.g α S H->Slots X.K α H ρ σ->PostS X.g W α H D (tryF ns i (λ_ S2=>.ok (.next ρ) S2) Fh ρ (bf ρ S))->Inv X pins σ H s->
  wpAny (model X.prog X.w) X.A (exec st X.env) (λf s'=>f=Flow.next/\ ∃H',Inv X pins σ H' s'/\D.nx σ H')
   (λx s1=>wpAny (model X.prog X.w) X.A (noteFrame x X.env) (λ_ s₂=>wpAny (model X.prog X.w) X.A (setFlight x none) (λ_ s₃=>wpAny (model X.prog X.w) X.A (handleBy x X.env hs) (SP X pins D) X.xe s₃) X.xe s₂) X.xe s1) s
end
noncomputable section
def KJ(n:Nat)(F:List MV->Sto->R Er)(a:Rho->Sto->R (List Er))(ρ:Rho)(S:Sto):R Er:=(noX (a ρ S)).bind λr S=>zZJ n F r S
def LJ(c:AZ)(f g:AX)(ρ:Rho)(S:Sto):R Er:=(noX (c ρ S)).bind λk S=>if k=true then f ρ S else g ρ S
def MJ(cs:List Str)(i:Nat)(h:AY)(f:AX)(ρ:Rho)(S:Sto):R Fl:=tryF cs i (λ_ S=>.ok (.next ρ) S) h ρ (f ρ S)
end
end M
end L2
namespace L2
open PySem PySem.Spec PyProof.Rows
namespace M
section
variable{X:Cx}{W:XW}{a e:Expr}{es:List Expr}{f g:AX}{af:Rho->Sto->R (List Er)}{pos apos p p2:Pos}{fld m:Str}
noncomputable def selM(m:Str)(l:List (Str×(List MV->Sto->R Er))):Er->Option (List MV->Sto->R Er)
 |.val (.obj c ns _)=>if m∈ns then none else l.lookup c
 |_=>none
noncomputable def NJ(m:Str)(n:Nat)(l:List (Str×(List MV->Sto->R Er)))(f:AX)(af:Rho->Sto->R (List Er))(ρ:Rho)(S:Sto):R Er:=(f ρ S).bind λp S=>match selM m l p with
 |some F=>(af ρ S).bind λr S=>yA n F (p::r) S
 |none=>.no
end
def nP:List MV->Option (List (List Nat))
 |[]=>some []
 |.str x::ds=>(nP ds).map (x::·)
 |_::_=>none
theorem zZZ{K:PySem.W.Frag}{α:List Addr}{H:Hp}: ∀{ds:List MV}{zs:List (List Nat)}{vs:List V}{us:List Value},nP ds=some zs->DenL K α H ds vs->Vals vs us-> ∃l:List (Str×Tok),us=strValues l/\l.map (·.1)=zs.map mkS
 |[],zs,vs,us,e,d,r=>by
  cases e
  rw [d.isnil]at r
  cases r
  exact⟨[],rfl,rfl⟩
 |x::ds,zs,vs,us,e,d,r=>by
  obtain⟨v,r',rfl,d1,d2⟩:=d.uncons
  cases r with
  |cons a b=>
   cases x<;>first |(cases e)|skip
   rename_i i
   unfold nP at e
   cases z:nP ds with
   |none=>rw [z]at e;cases e
   |some ms=>
    rw [z]at e
    cases e
    cases wG d1
    obtain⟨t,rfl⟩:=a
    obtain⟨l,rfl,hl⟩:=zZZ z d2 b
    exact⟨(mkS i,t)::l,rfl,by rw [map_cons,hl];rfl⟩
section
variable{X:Cx}{W:XW}{a e:Expr}{es:List Expr}{pos apos:Pos}{f:AX}{af:Rho->Sto->R (List Er)}
def extF:Er->List Er->Sto->R Er
 |p,[r],S=>match lsW S r with
  |some zs=>zIR p S λds=>if ds.length+zs.length<=sizeLine then some (ds++zs)else none
  |none=>.no
 |_,_,_=>.no
theorem yCQ:zUP X W zYU extF:=by
 intro p rs x vs α S H0 H Q α0 wd x0 dp da post
 match rs,da,post with
 |[],_,post=>exact post.elim
 |_::_::_,_,post=>exact post.elim
 |[r],da,post=>
  have post:Post X.g W α0 H0 (match lsW S r with |some zs=>zIR p S λds=>if ds.length+zs.length<=sizeLine then some (ds++zs)else none|none=>.no) Q:=post
  split at post
  ·rename_i zs hz
   obtain⟨v,rfl,dv⟩:=zYZ da
   obtain⟨b,us,rfl,hb,lb⟩:=zSB wd hz dv
   obtain⟨c,ws,ds,es,rfl,h1,l1,eg,k⟩:=zJV wd x0 dp post
   split at eg
   ·rename_i hl
    cases eg
    exact⟨c,b,ws,us,rfl,rfl,h1,hb,by rw [l1.length,lb.length];exact hl,k _ (l1.append lb)⟩
   ·cases eg
  ·exact post.elim
theorem yCR(ho:PEm X W a f)(ha:PAm X W (e::es) af)
  (hbase:attributeBase a "extend" X.env (eval a X.env)=eval a X.env:=by rfl)
  (hfew:((backTo pos (starEach (e::es) X.env)).all (λx=>!x.1)&&(backToKw pos (keywordEach [] X.env)).all (λx=>x.1.isSome)
   &&decide ((e::es).length+([]:List Keyword).length+(if([]:List Keyword).isEmpty then 0 else 1)<30))=true:=by rfl)
  (hline:(apos.endLine==pos.line)=true:=by rfl) (hs:starEach (e::es) X.env=(false,eval e X.env)::starEach es X.env:=by rfl) (hplain:(backTo pos (starEach es X.env)).any (·.1)=false:=by rfl):
  PEm X W (.Call (.Attribute a "extend" apos) (e::es) [] pos) (λρ S=>(f ρ S).bind λp S1=>if wH p S1=true then(af ρ S1).bind λrs S2=>extF p rs S2 else .no):=
 zRW PySem.F.plainAttrs_list PySem.F.slot_list_extend PySem.F.type_list_extend yBW yCQ zNF ho ha hbase hfew hline hs hplain
end
section
variable{X:Cx}{W:XW}{a e:Expr}{es:List Expr}{f:AX}{af:Rho->Sto->R (List Er)}{apos pos:Pos}
theorem zQN{K:PySem.W.Frag}{α:List Addr}{H:Hp}: ∀(ps:List (List Nat)),DenL K α H (ps.map MV.str) (ps.map λp=>V.str (mkS p))
 |[]=>yK
 |p::ps=>yG (zAT p) (zQN ps)
end
section
variable{X:Cx}{α:List Addr}{S:Sto}{H:Hp}{pins:List (Addr×Obj)}{σ:St}{s:Shared}{k:Nat}{fa:Addr}{fd:FuncData}{ps:List Str}{Fd:List MV->Sto->R Er}
theorem args_sorted1(a:Value):argsOk "sorted" ⟨[a],[]⟩:=by unfold argsOk;kernel_rfl
theorem zXZ(a:Value):argsOk "list.sort" ⟨[a],[]⟩:=by unfold argsOk;kernel_rfl
end
open Classical in
theorem _root_.L2.Room.u128{k:Nat}{A:Around}(r:Room k A):A.units+128<cLine:=by have:=r.un;omega
section
variable{X:Cx}{α:List Addr}{S:Sto}{H:Hp}{pins:List (Addr×Obj)}{σ:St}{s:Shared}{k:Nat}{fa:Addr}{fd:FuncData}{ps:List Str}{Fd:List MV->Sto->R Er}
def zQO(d:MV):Prop:= ∃x r,d=.tup (.int x::r)
theorem yLD(I:Inv X pins σ H s)(wd:Wd X.g α S H){A:Around}(hu:A.units+64<cLine){d f:MV}{x y:V}{u v:Value}{k:Bool}(kd:zQO d)(kf:zQO f)(h1:Den X.K α H d x)(h2:Den X.K α H f y)(rx:RelV x u)(ry:RelV y v)
  (h:ltv S zN d f=some k) (prog:Program) (w:World) (E:VP) (Q:Bool->Shared->Prop) (hq:Q k s):wpAny (model prog w) A (keyLt' (tuples' true) u v) Q E s:=by
 obtain⟨x1,r1,rfl⟩:=kd
 obtain⟨x2,r2,rfl⟩:=kf
 obtain⟨a1,vs1,its1,rfl,l1,v1,t1,_⟩:=zXX I h1 rx
 obtain⟨a2,vs2,its2,rfl,l2,v2,t2,_⟩:=zXX I h2 ry
 obtain⟨w1,q1,rfl,d1,m1⟩:=l1.uncons
 obtain⟨w2,q2,rfl,d2,m2⟩:=l2.uncons
 cases v1 with
 |@cons _ u1 _ us1 rv1 rr1=>
  cases v2 with
  |@cons _ u2 _ us2 rv2 rr2=>
   have h':(eqv S 39 (.int x1) (.int x2)).bind (λk=>if k=true then zXN (eqv S 39) (ltv S 39) r1 r2 else ltv S 39 (.int x1) (.int x2))=some k:=h
   have he:eqv S 39 (.int x1) (.int x2)=some (decide (x1=x2)):=zHD 38 x1 x2
   have ea:=zIA I wd 39 A _ _ _ _ _ _ _ (by omega) d1 d2 rv1 rv2 he
   cases xT d1
   cases xT d2
   obtain⟨tk1,rfl⟩:=rv1
   obtain⟨tk2,rfl⟩:=rv2
   rw [he]at h'
   refine Srt.wp_keyLtI t1 t2 ea ?_ hq
   cases hd:decide (x1=x2)with
   |true=>
    rw [hd]at h'
    rw [iP rfl]
    have h'':zXN (eqv S 39) (ltv S 39) r1 r2=some k:=h'
    exact lexRS (yEO (λd f x y u v k a b c d' e=>zIA I wd 39 A d f x y u v k (by omega) a b c d' e)
     (λd f x y u v k a b c d' e=>zXO I wd 39 A d f x y u v k (by omega) a b c d' e) m1 m2 rr1 rr2 h'')
   |false=>
    rw [hd]at h'
    rw [iN xF0]
    have h'':(some (decide (x1<x2)):Option Bool)=some k:=h'
    cases h''
    rfl
theorem cmp_i(I:Inv X pins σ H s)(wd:Wd X.g α S H){A:Around}(hu:A.units+64<cLine){kds:List MV}(hne:kds≠[])(hkind: ∀d,d∈kds->zQO d)(ho:OrdD S kds){E':VP}:
  Srt.Cmp (model X.prog X.w) A E' s (tuples' true) (λp=> ∃d v,d∈kds/\Den X.K α H d v/\RelV v p.1) (ltV X.K α H S kds) where
 go x y hx hy st hk Q hq:=by
  obtain⟨v1,d1,r1⟩:=zNQ hx
  obtain⟨v2,d2,r2⟩:=zNQ hy
  obtain⟨t,ht⟩:=ho.any _ (dN (K:=X.K) (α:=α) (H:=H) hne x.1) _ (dN (K:=X.K) (α:=α) (H:=H) hne y.1)
  have e:ltV X.K α H S kds x y=t:=by unfold ltV;rw [ht];rfl
  rw [e]at hq
  exact Srt.wp_lt hk (λE Q hq=>yLD I wd hu (hkind _ (dN hne x.1)) (hkind _ (dN hne y.1)) d1 d2 r1 r2 ht X.prog X.w E Q hq) hq
 tr x y z h1 h2:=by
  unfold ltV at h1 h2 ⊢
  have mx:=dN (K:=X.K) (α:=α) (H:=H) hne x.1
  have my:=dN (K:=X.K) (α:=α) (H:=H) hne y.1
  have mz:=dN (K:=X.K) (α:=α) (H:=H) hne z.1
  obtain⟨t1,e1⟩:=ho.any _ my _ mx
  obtain⟨t2,e2⟩:=ho.any _ mz _ my
  rw [e1]at h1;rw [e2]at h2
  have h1:t1=false:=h1
  have h2:t2=false:=h2
  subst h1 h2
  rw [ho.tr _ mx _ my _ mz e1 e2];rfl
 as x y h:=by
  unfold ltV at h ⊢
  have mx:=dN (K:=X.K) (α:=α) (H:=H) hne x.1
  have my:=dN (K:=X.K) (α:=α) (H:=H) hne y.1
  obtain⟨t1,e1⟩:=ho.any _ mx _ my
  rw [e1]at h
  have h:t1=true:=h
  subst h
  rw [ho.as _ mx _ my e1];rfl
theorem yQT(I:Inv X pins σ H s){A:Around}{kds:List MV}{kvs:List V}{ks:List Value}(hne:kds≠[])(hkind: ∀d,d∈kds->zQO d)(dk:DenL X.K α H kds kvs)(vk:Vals kvs ks){E':VP}:
  wpAny (model X.prog X.w) A (keyKind' ks.toArray) (λq s'=>s'=s/\q=tuples' true) E' s:=by
 have ne:ks≠[]:=λz=>by
  have h1:=vk.length;have h2:=dk.length
  rw [z]at h1
  exact hne (List.length_eq_zero_iff.mp (by rw [<-h2,h1];rfl))
 have all: ∀u,u∈ks-> ∃d v,d∈kds/\Den X.K α H d v/\RelV v u:=by
  intro u hu
  obtain⟨i,hi⟩:=getElem?_of_mem hu
  have hl:i<kvs.length:=by rw [vk.length];exact(gS0.mp hi).1
  obtain⟨u',h1,r⟩:=vk.get (gE0 hl)
  rw [hi]at h1;cases h1
  obtain⟨d,h2,h3⟩:=dk.get (gE0 hl)
  exact⟨d,_,mem_of_getElem? h2,h3,r⟩
 refine Srt.wp_kindI ne λu hu=>?_
 obtain⟨d,v,md,dd,r⟩:=all u hu
 obtain⟨x,rr,rfl⟩:=hkind d md
 obtain⟨a,vs,its,rfl,l,vv,t,_⟩:=zXX I dd r
 obtain⟨v1,r1,rfl,d1,_⟩:=l.uncons
 cases vv with
 |@cons _ u1 _ us1 rv rr'=>
  cases xT d1
  obtain⟨tk,rfl⟩:=rv
  exact⟨a,_,_,tk,us1,rfl,t,rfl⟩
end
section
variable{X:Cx}{α:List Addr}{S:Sto}{H:Hp}{pins:List (Addr×Obj)}{σ:St}{s:Shared}{k:Nat}{fa:Addr}{fd:FuncData}{ps:List Str}{Fd:List MV->Sto->R Er}
theorem yGB(hu:X.A.units+128<cLine)(I:Inv X pins σ H s)(wd:Wd X.g α S H){l:Addr}{xs:List V}{ds:List MV}(hl:SqL X.K H l xs)(dl:DenL X.K α H ds xs)
  (hlen:ds.length<1000000) (hpu: ∀d,d∈ds->zFK d=true) (hkind: ∀d,d∈ds->zQO d) (hord:OrdD S ds) {Q:VK}
  (hQ: ∀(idx:List Nat)(p:Addr)(ys:List V),idx.Perm (List.range ds.length)->idx.Pairwise (λi j=> ∀a c,ds[i]? =some a->ds[j]? =some c->ltv S zN c a=some false)->H p=none->
   DenL X.K α H (idx.filterMap (ds[·]?)) ys->Q (.ref p) (upd H p (.lst ys))):wpAny (model X.prog X.w) X.A (call (.builtin "sorted") [.ref l]) (EP X pins σ Q) X.xe s:=by
 obtain⟨its,rv,⟨o,n0,e0,hc0,_,hd0⟩,_⟩:=I.list hl
 have isl:s.heap.IsList l its.toArray:=⟨o,e0,hc0,n0,hd0⟩
 have hil:its.length=ds.length:=by rw [<-rv.length,dl.length]
 have hln:=sizeLine_eq
 refine call_function_entry_kw kind_sorted plain_sorted entry_sorted (args_sorted1 _) ?_
 unfold Builtin.«sorted»
 refine wB0 (m:=checkCount "sorted" 1 1 _) (wP0 ?_)
 refine wB0 (collect_list isl ?_ (by omega))
 refine wB0 (wpAny_newList ?_)
 generalize hh1:(s.heap.push (seqObj "list" #[] 0)).update s.heap.objs.size (Obj.mapSeq (· ++its.toArray))=h1
 have hsz:h1.objs.size=s.heap.objs.size+1:=by rw [<-hh1,Heap.size_update,size_push']
 have k1: ∀b u,s.heap.get? b=some u->h1.get? b=some u:=λb u e=>by
  rw [<-hh1,Heap.get?_update_other _ _ (ne_of_gt (Heap.lt_size e))]
  exact hP0 _ e
 have hoL:(h1.push (seqObj "list" its.toArray 0)).get? h1.objs.size=some (seqObj "list" its.toArray 0):=Heap.get?_push_size _ rfl
 show wpAny _ _ _ _ _ {s with heap:=h1.push (seqObj "list" its.toArray 0)}
 dsimp only
 generalize hL:h1.objs.size=L at *
 have sL:s.heap.objs.size<=L:=by omega
 refine wB0 (wpAny_holding (wpAny_call_entry_kw slot_list_sort ⟨_,hoL,rfl⟩ entry_list_sort (Srt.sort_plain hoL (by omega) λs2 he2=>?_) (zXZ _)))
 dsimp only at he2
 generalize hh2:h1.push (seqObj "list" its.toArray 0)=h2 at *
 have fL:zHS X pins H L:=I.fpOk sL (I.hok.fresh sL)
 have k3: ∀b u,s.heap.get? b=some u->s2.heap.get? b=some u:=λb u e=>by
  rw [he2]
  refine hP0 _ (hP0 _ ?_)
  rw [Heap.get?_update_other _ _ (ne_of_gt (lt_of_lt_of_le (Heap.lt_size e) sL)), <-hh2]
  exact hP0 _ (k1 b u e)
 have I3:Inv X pins σ H s2:=by
  have:=I.kept (h':=s2.heap) (t':=s.toks) k3
  rw [he2]at this ⊢
  exact this
 have hu':X.A.in1.in1.units+64<cLine:=by show X.A.units+1+1+64<cLine;omega
 obtain⟨q,gL⟩: ∃q,s2.heap.get? L=some (seqObj "list" #[] q):=by
  rw [he2]
  exact⟨_,hP0 _ (hP0 _ (get?_update_seq hoL (λ_=>#[])))⟩
 refine⟨tuples' true,(λp=> ∃d v,d∈ds/\Den X.K α H d v/\RelV v p.1),ltV X.K α H S ds,λhge=>?_,λout op os=>?_⟩
 ·have ne:ds≠[]:=λz=>by rw [hil,z]at hge;exact absurd hge (by decide)
  refine⟨yQT I3 ne hkind dl rv,cmp_i I3 wd hu' ne hkind hord,λp hp=>?_⟩
  have hp1:p.1∈its:=(of_mem_zip hp).1
  obtain⟨i,hi⟩:=getElem?_of_mem hp1
  have hl':i<xs.length:=by rw [rv.length];exact(gS0.mp hi).1
  obtain⟨u',h1',r⟩:=rv.get (gE0 hl')
  rw [hi]at h1';cases h1'
  obtain⟨d,h2',h3'⟩:=dl.get (gE0 hl')
  exact⟨d,_,mem_of_getElem? h2',h3',r⟩
 ·obtain⟨idx,ip,ie⟩:=zQL op.symm (List.range ds.length) (yCP hil hil)
  have ib: ∀i,i∈idx->i<ds.length:=λi hi=>mem_range.mp (ip.mem_iff.mp hi)
  have eo:out.map (·.2)=idx.filterMap (its[·]?):=by
   rw [<-ie,map_map]
   exact zNR λi hi=>by rw [hil];exact ib i hi
  have po:idx.Pairwise (λi j=> ∀a c,ds[i]? =some a->ds[j]? =some c->ltv S zN c a=some false):=by
   rw [<-ie,pairwise_map]at os
   refine List.Pairwise.imp_of_mem (λ{i j} hi hj h a c ha hc=>?_) os
   have ui:its[i]? =some (its[i]'(by rw [hil];exact ib i hi)):=gE0 _
   have uj:its[j]? =some (its[j]'(by rw [hil];exact ib j hj)):=gE0 _
   have h':(ltv S zN (zSN X.K α H ds ((its[j]?).getD .none)) (zSN X.K α H ds ((its[i]?).getD .none))).getD false=false:=h
   rw [ui,uj]at h'
   simp only [Option.getD_some]at h'
   rw [yFW I3 hpu dl rv ui ha,yFW I3 hpu dl rv uj hc]at h'
   obtain⟨t,ht⟩:=hord.any c (mem_of_getElem? hc) a (mem_of_getElem? ha)
   rw [ht]at h'
   have h':t=false:=h'
   rw [ht,h']
  have vy:=Vals.pick rv idx
  refine⟨_,rfl,wP0 ⟨_,rfl,.ref L,upd H L (.lst (idx.filterMap (xs[·]?))),?_,rfl,hQ idx L _ ip po (I.hok.fresh sL) (dl.pick idx)⟩⟩
  obtain⟨f0,f1,f2,f3,f4,f5⟩:=fL
  have I6:Inv X pins σ H {s2 with heap:=s2.heap.update L (Obj.mapSeq λ_=>(out.map (·.2)).toArray)}:=
   I3.turned (t':=s2.toks) (λb o hb e=>(Heap.get?_update_other _ _ (Ne.symm hb)).trans e) f0 f1 f3 f4 f5
  obtain⟨n',gL2⟩: ∃n',(s2.heap.update L (Obj.mapSeq λ_=>(out.map (·.2)).toArray)).get? L=some (seqObj "list" (idx.filterMap (its[·]?)).toArray n'):=⟨_,by
   have:=get?_update_seq gL (λ_=>(out.map (·.2)).toArray)
   rw [eo]at this ⊢
   exact this⟩
  refine yCO (its:=idx.filterMap (its[·]?)) I6 ⟨f0,f1,f2,f3,f4,f5⟩ (le_trans I.sz sL) gL2 vy ?_
  ·have:=List.length_filterMap_le (xs[·]?) idx
   have h3:=ip.length_eq
   rw [length_range]at h3
   omega
end
structure SrtI(S:Sto)(ds:List MV):Prop where
 len:ds.length<1000000
 pu: ∀d,d∈ds->zFK d=true
 kind: ∀d,d∈ds->zQO d
 ord:OrdD S ds
open Classical in
noncomputable def zNW(rs:List Er)(S:Sto):R Er:=match rs with
 |[p]=>match jM S p with
  |some ds=>if h: ∃r,SrtI S ds/\ ∀r',zZX S ds ds r'->r'=r then .ok (.new (Classical.choose h)) S else .no
  |none=>.no
 |_=>.no
theorem yAA{p:Er}{S:Sto}{ds r:List MV}(e:jM S p=some ds)(ok:SrtI S ds)(u: ∀r',zZX S ds ds r'->r'=r)(ex:zZX S ds ds r):zNW [p] S=.ok (.new r) S:=by
 unfold zNW
 dsimp only
 rw [e]
 dsimp only
 have h: ∃r,SrtI S ds/\ ∀r',zZX S ds ds r'->r'=r:=⟨r,ok,u⟩
 rw [dif_pos h]
 obtain⟨_,u'⟩:=Classical.choose_spec h
 rw [<-u' r ex]
section
variable{X:Cx}{W:XW}
theorem zQP(hu:X.A.units+128<cLine):CallR X (.builtin "sorted") (λxs H Q=> ∃α S l vs ds,xs=[.ref l]/\Wd X.g α S H/\SqL X.K H l vs/\DenL X.K α H ds vs/\SrtI S ds/\
  ∀(idx:List Nat)(p:Addr)(ys:List V),idx.Perm (List.range ds.length)->idx.Pairwise (λi j=> ∀a c,ds[i]? =some a->ds[j]? =some c->ltv S zN c a=some false)->H p=none->DenL X.K α H (idx.filterMap (ds[·]?)) ys->Q (.ref p) (upd H p (.lst ys))):=by
 intro pins s σ H xs us Q I r h
 obtain⟨α,S,l,vs,ds,rfl,wd,hl,dl,ok,q⟩:=h
 obtain⟨u,rfl,rx⟩:=vals1 r
 cases rx
 exact yGB hu I wd hl dl ok.len ok.pu ok.kind ok.ord q
theorem yAB:zDV X W (λxs H Q=> ∃α S l vs ds,xs=[.ref l]/\Wd X.g α S H/\SqL X.K H l vs/\DenL X.K α H ds vs/\SrtI S ds/\
  ∀(idx:List Nat)(p:Addr)(ys:List V),idx.Perm (List.range ds.length)->idx.Pairwise (λi j=> ∀a c,ds[i]? =some a->ds[j]? =some c->ltv S zN c a=some false)->H p=none->DenL X.K α H (idx.filterMap (ds[·]?)) ys->Q (.ref p) (upd H p (.lst ys))) zNW:=by
 intro rs vs α S H Q wd d post
 unfold zNW at post
 split at post
 ·split at post
  ·rename_i ds e
   split at post
   ·rename_i h
    obtain⟨v,rfl,dv⟩:=zBH d
    obtain⟨l,us,rfl,h1,h2⟩:=zFW rfl wd e dv
    obtain⟨ok,u⟩:=Classical.choose_spec h
    refine⟨α,S,l,us,ds,rfl,wd,h1,h2,ok,λidx p ys i1 i2 hp hd=>?_⟩
    have er:=u _ ⟨idx,i1,i2,rfl⟩
    rw [er]at hd
    exact Post.newl post wd hp hd
   ·exact post.elim
  ·exact post.elim
 ·exact post.elim
end
section
variable{X:Cx}{W:XW}{a b o i e:Expr}{es:List Expr}{f g:AX}{af:Rho->Sto->R (List Er)}{apos pos:Pos}{α:List Addr}{H:Hp}{pins:List (Addr×Obj)}{σ:St}{s:Shared}
def kyOf:MV->Option Key
 |.int i=>some (.inl i)
 |.str x=>some (.inr (mkS x))
 |_=>none
theorem ky_D: ∀{k:MV}{k':Key},kyOf k=some k'->KeyD k k'
 |.int i,_,h=>by cases h;exact rfl
 |.str x,_,h=>by cases h;exact rfl
 |.non,_,h=>nomatch h
 |.bl _,_,h=>nomatch h
 |.tup _,_,h=>nomatch h
 |.scr _,_,h=>nomatch h
 |.loc _,_,h=>nomatch h
 |.typ _,_,h=>nomatch h
 |.obj _ _ _,_,h=>nomatch h
theorem yGC: ∀{k:MV}{k':Key}{v:V},kyOf k=some k'->Den X.K α H k v->v=kV k'
 |.int i,_,_,h,d=>by cases h;exact xT d
 |.str x,_,_,h,d=>by cases h;exact wG d
 |.non,_,_,h,_=>nomatch h
 |.bl _,_,_,h,_=>nomatch h
 |.tup _,_,_,h,_=>nomatch h
 |.scr _,_,_,h,_=>nomatch h
 |.loc _,_,_,h,_=>nomatch h
 |.typ _,_,_,h,_=>nomatch h
 |.obj _ _ _,_,_,h,_=>nomatch h
theorem zVK: ∀{k:Key}{u:Value},RelV (kV k) u->(xA X.prog X.w).is k u=true
 |.inl i,_,h=>by obtain⟨t,rfl⟩:=(h: ∃t,_=_);exact zTX _ _ i t
 |.inr x,_,h=>by obtain⟨t,rfl⟩:=(h: ∃t,_=_);exact zTY _ _ x t
def zIW(k:MV):Bool:=(kyOf k).isSome
theorem yMX{kvs:List (MV×MV)}{d:Addr}(ob:ObD X.g α H d (.dic kvs))(hk:kvs.all (λp=>zIW p.1)=true): ∃ks,DK X H d ks/\DenK X.K α H kvs ks:=by
 rcases ob with⟨ks,h,l⟩|⟨xs,h,l⟩
 ·exact⟨ks,.inl h,l⟩
 ·cases l with
  |nil=>exact⟨[],.inr ⟨rfl,h⟩,.nil⟩
  |@cons k nk a d v u fs xs hn e ha hd r l=>
   rw [all_cons,aE]at hk
   obtain⟨k',hk'⟩:=Option.isSome_iff_exists.mp hk.1
   have:=yGC hk' ha
   cases k'<;>cases this
noncomputable def zIX(S:Sto):Er->Option (Nat×List (MV×MV))
 |.val (.loc l)=>match S[l]? with
  |some (.dic kvs)=>if kvs.all (λp=>zIW p.1)=true then some (l,kvs)else none
  |_=>none
 |_=>none
theorem dxo{S:Sto}(wd:Wd X.g α S H){r:Er}{x:V}{l:Nat}{kvs:List (MV×MV)}(e:zIX S r=some (l,kvs))(d:DenX X.K α H r x):
  ∃c ks,x=.ref c/\α[l]? =some c/\S[l]? =some (.dic kvs)/\DK X H c ks/\DenK X.K α H kvs ks/\kvs.all (λp=>zIW p.1)=true:=by
 unfold zIX at e
 split at e
 ·rename_i n
  obtain⟨c,rfl,h⟩:=zDG d
  split at e
  ·rename_i ks hS
   split at e
   ·rename_i hk
    obtain⟨rfl,rfl⟩:=Prod.mk.inj (Option.some.inj e)
    obtain⟨xs,dd,l⟩:=yMX (wd.obj _ c _ h hS) hk
    exact⟨c,xs,rfl,h,hS,dd,l,hk⟩
   ·cases e
  ·cases e
 ·cases e
theorem zYA{ks:List (Key×V)}{d:Addr}(dd:DK X H d ks):Mut (H d):=by
 rcases dd with z|⟨_,z⟩<;>rw [z]<;>exact trivial
def rSetX(X:Cx):TSet:=λo i v H Q=> ∃(ks:List (Key×V))(d:Addr)(k:Key),o=.ref d/\i=kV k/\DK X H d ks/\ks.length<sizeLine/\Q (upd H d (.dK (zHM ks k v)))
theorem yCS:PSet X (rSetX X):=by
 intro pins s σ H o i v ov iv u Q I ro ri rv h
 obtain⟨ks,d,k,rfl,rfl,dd,hz,q⟩:=h
 cases ro
 obtain⟨z,hd,vs,rel,dm⟩:=dO I dd
 have hl:ks.length=vs.length:=Paired.length rel
 have hp:=zNS ks k v
 refine wpAny_setItem_pairs (knd:=xA X.prog X.w) (hsz:=by omega) (zVK ri) dm λh' dm' hs'=>⟨_,?_,q⟩
 have he: ∃q,h'.get? d=some q:=let ⟨q,_,_,hq,_⟩:=dm';⟨q,hq⟩
 exact I.write (t':=_) (x:=d) (e:=d) (zYA dd) (.inl rfl) (λb uo hb eo=>(hs'.2 b hb).trans eo) he ⟨by omega,hd,_,yFX rel _ rv,dm'⟩
noncomputable def zGC(p q:Er)(d:MV)(ρ:Rho)(S:Sto):R Rho:=match q with
 |.val k=>match zIX S p with
  |some (l,kvs)=>if zIW k=true/\kvs.length<1000000 then .ok ρ (S.set l (.dic (zNJ kvs k d)))else .no
  |none=>.no
 |_=>.no
theorem zME(ho:PEm X W o f)(hi:PEm X W i g)
  (ha: ∀v,assign (.Subscript o i pos) X.env v=(do
   let ov <-holding [v] (eval o X.env)
   let iv <-holding [v,ov] (eval i X.env)
   standAt pos
   holding [v,ov,iv] (setItem ov iv v)
   release [v,ov,iv] []):=by intro _;rfl):PGm X W (.Subscript o i pos) (λd ρ S=>(f ρ S).bind λp S1=>(g ρ S1).bind λq S2=>zGC p q d ρ S2):=by
 obtain⟨to,ho,fo⟩:=ho
 obtain⟨ti,hi,fi⟩:=hi
 refine⟨_,yDN ho hi yCS ha,λα ρ S σ H d v Q wd sl de q=>fo α ρ S σ H _ wd sl (q.bind λu p S1 α1 H1 e1 x1 w1 d1 q1=>fi α1 ρ S1 σ H1 _ w1 (sl.ext x1) ((q1.shift x1).bind λu2 p2 S2 α2 H2 e2 x2 w2 d2 q2=>?_))⟩
 replace q2:=q2.shift x2
 have d1':=DenX.ext x2 d1.1
 have de2:=(de.ext x1).ext x2
 unfold zGC at q2
 split at q2
 ·rename_i k
  split at q2
  ·rename_i l kvs e
   split at q2
   ·rename_i hk
    obtain⟨c,ks,rfl,hc,hS,dd,dl,hall⟩:=dxo w2 e d1'
    obtain⟨k',hk'⟩:=Option.isSome_iff_exists.mp hk.1
    refine⟨ks,c,k',rfl,yGC (X:=X) (α:=α2) (H:=H2) hk' d2.1,dd,?_,?_⟩
    ·rw [dl.length]
     exact lt_of_lt_of_le hk.2 (fits (le_refl _))
    ·have xw:=w2.writex hc (o:=.dK (zHM ks k' v))
     have sl2:=((sl.ext x1).ext x2).ext xw
     exact q2 σ α2 _ xw (w2.write hc (.inl ⟨_,yW,(zVJ (k:=k) dl (ky_D hk') de2).ex0 xw.toEx0⟩)) sl2
   ·exact q2.elim
  ·exact q2.elim
 ·exact q2.elim
theorem yGD{prog:Program}{w:World}{KK:Type}[DecidableEq KK]{knd:KeyKind prog w KK}{A:Around}{E:VP}{s:Shared}{d:Addr}{k:KK}{key:Value}{f:KK->Option Value}{Q:VP}(hkey:knd.is k key=true)(hd:(d==sysModules)=false)(hm:s.heap.MapOf knd d f)
  (h:Q (.bool !(f k).isSome) {s with toks:=s.toks+1}):wpAny (model prog w) A (compareOp .NotIn key (.ref d)) Q E s:=by
 show wpAny _ _ (do return .bool (!(<-contains (.ref d) key))) Q E s
 refine wB0 ?_
 unfold contains
 try with_reducible refine wpAny_holding ?_
 refine wB0 (wpAny_specialOf hm.typeIs slot_dict_contains.lookup ?_)
 show wpAny _ _ (if(some (Value.builtin "dict.__contains__")==some Value.none)=true then _ else _) _ E s
 rw [iN (by rw [beq_builtin_none];exact xF0)]
 refine wB0 (wpAny_callSpecialUnlessNone?_slot (name:=Str.ofString "__contains__") hm.typeIs slot_dict_contains
  (wpAny_call_entry slot_dict_contains hm.typeIs entry_dict_contains ?_ (args_dict_contains _ _)))
 show wpAny _ _ (dictGet d key >>= _) _ _ s
 refine wB0 (wpAny_dictGet_of hkey hm ?_)
 cases hf:f k with
 |some v=>
  rw [hf]at h
  show wpAny _ _ (ret (.bool true)) _ _ _
  exact wP0 ⟨_,rfl,wpAny_truthy_bool (wP0 h)⟩
 |none=>
  rw [hf]at h
  show wpAny _ _ (Builtin.Dict.pendingKey? d key >>= _) _ _ _
  exact wB0 (wpAny_pendingKey_other hd (wP0 ⟨_,rfl,wpAny_truthy_bool (wP0 h)⟩))
abbrev rInX(X:Cx)(neg:Bool):R2:=λx y H Q=> ∃(ks:List (Key×V))(d:Addr)(k:Key),x=kV k/\y=.ref d/\DK X H d ks/\
 Q (.bl (if neg=true then !(zEE ks k).isSome else(zEE ks k).isSome)) H
theorem look_same{ks:List (Key×V)}{vs:List (Key×Value)}(r:KV ks vs)(k:Key):(valueAt vs k).isSome=(zEE ks k).isSome:=by
 obtain⟨l1,l2⟩:=zZY r k
 cases h:zEE ks k with
 |none=>rw [l2 h];rfl
 |some v=>obtain⟨u,e,_⟩:=l1 v h;rw [e];rfl
theorem yGE:OpR X (compareOp .In) (rInX X false):=by
 intro pins s σ H x y v u Q I rx ry h
 obtain⟨ks,d,k,rfl,rfl,dd,q⟩:=h
 cases ry
 obtain⟨_,hs,vs,rel,dm⟩:=dO I dd
 refine wpAny_in_of (knd:=xA X.prog X.w) (zVK rx) hs dm.mapOf ?_
 rw [look_same rel k]
 exact⟨.bl (zEE ks k).isSome,H,I.kept (t':=_) (λ_ _ z=>z),rfl,q⟩
theorem yCT:OpR X (compareOp .NotIn) (rInX X true):=by
 intro pins s σ H x y v u Q I rx ry h
 obtain⟨ks,d,k,rfl,rfl,dd,q⟩:=h
 cases ry
 obtain⟨_,hs,vs,rel,dm⟩:=dO I dd
 refine yGD (knd:=xA X.prog X.w) (zVK rx) hs dm.mapOf ?_
 rw [look_same rel k]
 exact⟨.bl !(zEE ks k).isSome,H,I.kept (t':=_) (λ_ _ z=>z),rfl,q⟩
noncomputable def zKC(neg:Bool)(p q:Er)(S:Sto):R Er:=match p with
 |.val k=>match zIX S q with
  |some (_,kvs)=>if zIW k=true then .ok (.val (.bl (if neg=true then !(look kvs k).isSome else(look kvs k).isSome))) S else .no
  |none=>.no
 |_=>.no
theorem yCU{kvs:List (MV×MV)}{ks:List (Key×V)}{k:MV}{k':Key}(l:DenK X.K α H kvs ks)(hk:KeyD k k'):(zEE ks k').isSome=(look kvs k).isSome:=by
 obtain⟨g1,g2⟩:=zQM l hk
 cases h:look kvs k with
 |none=>rw [g2 h];rfl
 |some v=>obtain⟨u,e,_⟩:=g1 v h;rw [e];rfl
theorem zSP{neg:Bool}:Op2 X W (rInX X neg) (zKC neg):=by
 intro p q x y α S H Q wd dp dq post
 unfold zKC at post
 split at post
 ·rename_i k
  split at post
  ·rename_i l kvs e
   split at post
   ·rename_i hk
    obtain⟨c,ks,rfl,_,_,dd,dl,_⟩:=dxo wd e dq
    obtain⟨k',hk'⟩:=Option.isSome_iff_exists.mp hk
    refine⟨ks,c,k',yGC (X:=X) (α:=α) (H:=H) hk' dp,rfl,dd,?_⟩
    rw [yCU dl (ky_D hk')]
    exact Post.val post wd (gU _)
   ·exact post.elim
  ·exact post.elim
 ·exact post.elim
theorem yQU(ha:PEm X W a f)(hb:PEm X W b g)(hm:behindInMarks .In b=false:=by with_unfolding_all rfl):PEm X W (.Compare a [.In] [b] pos) (λρ S=>(f ρ S).bind λp S1=>(g ρ S1).bind λq S2=>zKC false p q S2):=zRV yGE zSP ha hb hm
theorem yQV(ha:PEm X W a f)(hb:PEm X W b g)(hm:behindInMarks .In b=false:=by with_unfolding_all rfl):PTm X W (.Compare a [.In] [b] pos) (λρ S=>((f ρ S).bind λp S1=>(g ρ S1).bind λq S2=>zKC false p q S2).bind asB):=zHX yGE zSP ha hb hm
theorem zQQ(ha:PEm X W a f)(hb:PEm X W b g)(hm:behindInMarks .NotIn b=false:=by with_unfolding_all rfl):PTm X W (.Compare a [.NotIn] [b] pos) (λρ S=>((f ρ S).bind λp S1=>(g ρ S1).bind λq S2=>zKC true p q S2).bind asB):=zHX yCT zSP ha hb hm
end
section
variable{X:Cx}{W:XW}{a b o i e:Expr}{es:List Expr}{f g:AX}{af:Rho->Sto->R (List Er)}{apos pos:Pos}{α:List Addr}{H:Hp}{pins:List (Addr×Obj)}{σ:St}{s:Shared}
noncomputable def delK(kvs:List (MV×MV))(k:MV):List (MV×MV):=kvs.filter λp=>!decide (p.1=k)
noncomputable def popXF(p:Er)(rs:List Er)(S:Sto):R Er:=match rs with
 |[.val k,.val y]=>match zIX S p with
  |some (l,kvs)=>if zIW k=true then(match look kvs k with |some d=>.ok (.val d) (S.set l (.dic (delK kvs k)))|none=>.ok (.val y) S)else .no
  |none=>.no
 |_=>.no
noncomputable def isDx(p:Er)(S:Sto):Bool:=(zIX S p).isSome
theorem yCV{ks:List (Key×V)}{vs:List (Key×Value)}: ∀{us:List Value},KV ks vs->us.length=vs.length->(∀(j:Nat)(v:Value),us[j]? =some v-> ∃(k:Key)(x:Value),vs[j]? =some (k,x)/\(xA X.prog X.w).is k v=true)->Vals (ks.map λp=>kV p.1) us:=by
 intro us kv
 unfold KV at kv
 induction kv generalizing us with
 |nil=>intro hl _;cases us with
  |nil=>exact .nil
  |cons a b=>simp at hl
 |@cons p q ps qs h t ih=>
  intro hl hv
  cases us with
  |nil=>simp at hl
  |cons a b=>
   obtain⟨k,x,e,hi⟩:=hv 0 a rfl
   simp only [List.getElem?_cons_zero,Option.some.injEq]at e
   subst e
   rw [map_cons]
   refine .cons ?_ (ih (by simpa using hl) λj v hj=>by simpa using hv (j+1) v (by simpa using hj))
   rw [h.1]
   rcases yO hi with⟨i,t,e1,e2⟩|⟨i,t,e1,e2⟩
   ·subst e2;rw [show k=.inl i from e1];exact⟨t,rfl⟩
   ·subst e2;rw [show k=.inr i from e1];exact⟨t,rfl⟩
end
section
variable{X:Cx}{W:XW}{α:List Addr}{H:Hp}
noncomputable def tupKF:List Er->Sto->R Er
 |[r],S=>match zIX S r with |some (_,kvs)=>.ok (.val (.tup (kvs.map (·.1)))) S|none=>.no
 |_,_=>.no
noncomputable def zGD:List Er->Sto->R Er
 |[r],S=>match zIX S r with |some (_,kvs)=>.ok (.new (kvs.map (·.1))) S|none=>.no
 |_,_=>.no
theorem zVL(hc:X.calm=true):zDV X W (λxs H Q=> ∃d ks,xs=[.ref d]/\DK X H d ks/\X.calm=true/\ ∀l,H l=none->Q (.ref l) (upd H l (.lst (ks.map λp=>kV p.1)))) zGD:=by
 intro rs vs α S H Q wd d post
 unfold zGD at post
 split at post
 ·split at post
  ·rename_i n kvs e
   obtain⟨v,rfl,dv⟩:=zBH d
   obtain⟨c,ks,rfl,h1,h2,dd,dl,_⟩:=dxo wd e dv
   exact⟨c,ks,rfl,dd,hc,λl hl=>Post.newl post wd hl (zKB dl)⟩
  ·exact post.elim
 ·exact post.elim
theorem yQW(hc:X.calm=true):zDV X W (λxs H Q=> ∃(a:Addr)(bs:List Bool),xs=[.ref a]/\SqL X.K H a (bs.map V.bl)/\X.calm=true/\Q (.bl (bs.any id)) H) anyF:=by
 intro rs vs α S H Q wd d post
 unfold anyF at post
 split at post
 ·split at post
  ·rename_i bs e
   obtain⟨v,rfl,dv⟩:=zBH d
   cases z:jM S _ with
   |none=>rw [z]at e;cases e
   |some ds=>
    rw [z]at e
    obtain⟨a1,us,rfl,s,l⟩:=zFW rfl wd z dv
    refine⟨a1,bs,rfl,?_,hc,Post.val post wd (gU _)⟩
    rw [<-zHC e l]
    exact s
  ·exact post.elim
 ·exact post.elim
end
section
variable{X:Cx}{W:XW}{a b:Expr}{f g:AX}{pos:Pos}
theorem zSQ:CallR X (.builtin "any") (λxs H Q=> ∃(a:Addr)(bs:List Bool),xs=[.ref a]/\SqL X.K H a (bs.map V.bl)/\X.calm=true/\Q (.bl (bs.any id)) H):=by
 intro pins s σ H xs us Q I r h
 obtain⟨a,bs,rfl,hq,hc,q⟩:=h
 obtain⟨u,rfl,ru⟩:=vals1 r
 cases ru
 obtain⟨its,rv,pl,hz⟩:=I.list hq
 have hlen:its.length=bs.length:=by rw [<-rv.length,lM]
 refine PySem.call_any_walk (wpAny_pyIter_list pl.isList ?_)
 have hI:a≠s.heap.objs.size:=by
  obtain⟨o,ho,_⟩:=pl.isList
  exact ne_of_lt (Heap.lt_size ho)
 have I1: ∀(h':Heap)(tk:Nat),(∀b o,b∉[s.heap.objs.size]->(s.heap.push {cls:=.type "list_iterator",data:=.fields #[.ref a,.int 0 0]}).get? b=some o->h'.get? b=some o)->Inv X pins σ H {s with heap:=h',toks:=tk}:=λh' tk k=>
  I.kept λb o e=>k b o (by simpa using ne_of_lt (Heap.lt_size e)) (hP0 _ e)
 refine⟨s.heap.objs.size,[s.heap.objs.size,a],[s.heap.objs.size],its.toArray.size,_,_,λi=>bs.getD i false,rfl,PySem.Walks.list (by first |exact I.ok.hd hc|exact(show X.A.in1.handled=none from I.ok.hd hc)) _ a hI its.toArray,⟨⟨_,Heap.get?_push_size _ rfl,rfl,rfl⟩,pl.isList.at λo e=>hP0 _ e⟩,?_,λh' tk k=>?_⟩
 ·intro i v s' Q' E' hv hQ'
  have hv':its[i]? =some v:=by simpa using hv
  have hi:i<bs.length:=by rw [<-hlen];exact(gS0.mp hv').1
  have hb:(bs.map V.bl)[i]? =some (V.bl (bs.getD i false)):=by
   rw [getElem?_map,gE0 hi]
   simp [getD_eq_getElem?_getD,hi]
  obtain⟨u',hu',rv'⟩:=rv.get hb
  rw [hv']at hu'
  cases hu'
  cases rv'
  exact wpAny_truthy_bool hQ'
 ·refine⟨.bl (bs.any id),H,I1 h' tk k,?_,q⟩
  show Value.bool _=Value.bool _
  congr 1
  rw [sA0,hlen]
  have: ∀(l:List Bool),(List.range l.length).any (λi=>l.getD i false)=l.any id:=by
   intro l
   rw [Bool.eq_iff_iff,any_eq_true,any_eq_true]
   constructor
   ·rintro⟨i,hi,h⟩
    have hi':=mem_range.mp hi
    exact⟨l[i],getElem_mem hi',by simpa [getD_eq_getElem?_getD,hi']using h⟩
   ·rintro⟨x,hx,h⟩
    obtain⟨i,hi,rfl⟩:=getElem_of_mem hx
    exact⟨i,mem_range.mpr hi,by simpa [getD_eq_getElem?_getD,hi]using h⟩
  exact this bs
def shrC(i j:Int):Prop:=0<=j
instance(i j:Int):Decidable (shrC i j):=inferInstanceAs (Decidable (_<=_))
end
end M
end L2
namespace PySem
theorem zSR:typeLookup (.type "list") "keys"=pure none:=am_miss_of_fast (by decide+kernel)
theorem getAttr?_miss_list{prog:Program}{w:World}{A:Around}{E:VP}{s:Shared}{a:Addr}{o:Obj}{xs:Array Value}{k:Nat}{name:Str}{Q:Option Value->Shared->Prop}
  (hx:s.heap.get? a=some o) (hc:o.cls=.type "list") (hdat:o.data=.seq xs k) (hd:o.dict=none) (hmiss:typeLookup (.type "list") name=pure none) (hname:(["__module__","__name__","__qualname__","__doc__","__annotations__"]:List Str).contains name=false) (hA:A.handled=none)
  (h: ∀h' tk,(∀b o,s.heap.get? b=some o->h'.get? b=some o)->Q none {s with heap:=h',toks:=tk}) (hsz:name.length+100<=sizeLine:=by size_fits):
  wpAny (model prog w) A (getAttr? (.ref a) name) Q E s:=by
 obtain⟨c,dct,dat,sl⟩:=o
 simp only at hc hdat hd
 subst hc hdat hd
 obtain⟨hp,g,d,tk,os⟩:=s
 have hT: ∀tk',(⟨hp,g,d,tk',os⟩:Shared).TypeIs (.ref a) "list":=λ_=>⟨_,hx,rfl⟩
 have f1:=sub_AttributeError
 have f3:=F.slot_list_getattribute.lookup
 have f4:=F.slot_list_getattribute.bind (.ref a)
 have f5:=am_list_getattr_none
 unfold getAttr? getAttrBy? getAttrBy
 repeat (any_goals (first |assumption|exact hT _|((with_reducible show wpAny _ _ (call (Value.builtin "list.__getattribute__") _ _) _ _ _);refine call_meets F.slot_list_getattribute (hT _) am_entry_list_getattribute (F.args_list_getattribute_2 _ _) (meets_getattribute_miss_list a xs k sl name _ hmiss hname hsz) ⟨hx,hA,λh' tk' e hx'=>?_⟩)|wp_step))
 obtain⟨t',u',he⟩:=hx'.there
 show wpAny _ _ (getattributeRaised _ _ _ _ _ _ _) _ _ _
 unfold getattributeRaised
 repeat (any_goals (first |assumption|wp_step))
 exact h _ _ hx'.keeps
namespace F
theorem entry_dict_update_loop:entryFor table "dict.update.loop"=some Builtin.«dict.update.loop»:=entryFor_of_tree (by kernel_rfl)
theorem plain_dict_update_loop:plainId "dict.update.loop"=true:=by decide+kernel
end F
open PyProof.Rows
section
variable{prog:Program}{w:World}{K:Type}[DecidableEq K]{knd:KeyKind prog w K}{A:Around}{E:VP}{s:Shared}{R:Result->Shared->Prop}
def zYB(knd:KeyKind prog w K)(h:Heap)(kv:K×Value)(v:Value):Prop:= ∃a key,v=.ref a/\IsTup h a #[key,kv.2]/\knd.is kv.1 key=true
theorem zIY{I D:Addr}{fp:List Addr}{n:Nat}{P:Nat->Value->Prop}{St:Nat->Heap->Prop}(W:Walks prog w A.in1 I fp [I] n P St)(hDf:D∉fp)(kvs:List (K×Value))(hn:kvs.length=n)(hz:n<=sizeLine){h₀:Heap}
  (hP: ∀i v,P i v-> ∃kv,kvs[i]? =some kv/\zYB knd h₀ kv v) (hI:h₀.get? I=none) (hD:h₀.get? D=none):
  ∀(k i:Nat)(j:Int)(s:Shared),n - i=k->i<=n->St i s.heap->s.heap.DictOf knd D (merged [] (kvs.take i))->(∀b o,h₀.get? b=some o->s.heap.get? b=some o)->
   (∀h' tk,(∀b o,h₀.get? b=some o->h'.get? b=some o)->h'.DictOf knd D (merged [] kvs)->R (.ok (.ret .none)) {s with heap:=h',toks:=tk})->
   codeAny (model prog w) A (.builtin "dict.update.loop" ⟨[.ref D,.ref I,rawInt j,.none],[]⟩) R s:=by
 have hDI:D≠I:=λe=>hDf (e▸W.sub _ (mS.mpr rfl))
 intro k
 induction k with
 |zero=>
  intro i j s hk hi hst hS hkeep hR
  have hin:i=n:=by omega
  subst hin
  refine codeAny_builtin F.entry_dict_update_loop ?_
  rw [Around.under_plainId F.plain_dict_update_loop _]
  show wpAny _ A.in1 (pyNext (.ref I) >>= _) _ _ s
  refine wB0 (W.done s _ _ hst λh' tk hk'=>?_)
  show wpAny _ A.in1 (Builtin.Dict.addKeywords D [] >>= λ_=>ret Value.none) _ _ _
  refine wB0 (wP0 ?_)
  rw [<-hn,List.take_length]at hS
  refine wP0 (hR h' tk (λb o e=>?_) ?_)
  ·exact hk' b o (λh=>by rw [mS.mp h,hI]at e;cases e) (hkeep b o e)
  ·obtain⟨o,es,ep,ho,nL⟩:=hS
   exact⟨o,es,ep,hk' D o (λh=>hDI (mS.mp h)) ho,nL⟩
 |succ k ih=>
  intro i j s hk hi hst hS hkeep hR
  have hlt:i<n:=by omega
  refine codeAny_builtin F.entry_dict_update_loop ?_
  rw [Around.under_plainId F.plain_dict_update_loop _]
  show wpAny _ A.in1 (pyNext (.ref I) >>= _) _ _ s
  refine wB0 (W.item i s _ _ hlt hst λv h' tk hPv hst' hk'=>?_)
  obtain⟨kv,hkv,a,key,rfl,hT,hkey⟩:=hP i v hPv
  have hkeep': ∀b o,h₀.get? b=some o->h'.get? b=some o:=λb o e=>hk' b o (λh=>by rw [mS.mp h,hI]at e;cases e) (hkeep b o e)
  have hS':h'.DictOf knd D (merged [] (kvs.take i)):=by
   obtain⟨o,es,ep,ho,nL⟩:=hS
   exact⟨o,es,ep,hk' D o (λh=>hDI (mS.mp h)) ho,nL⟩
  obtain⟨o,ho,hc,nn,hdat⟩:=hT.keeps hkeep'
  have hTI:Shared.TypeIs {s with heap:=h',toks:=tk} (.ref a) "tuple":=⟨o,ho,hc⟩
  refine wB0 (wpAny_holding ?_)
  refine wB0 (wpAny_tryCatch ?_)
  unfold Builtin.Dict.pairItems
  refine wB0 (wpAny_typeOf hTI ?_)
  rw [iP (by decide)]
  refine wB0 ?_
  show wpAny _ _ (do match (<-load a).data with |.seq xs _=>pure (some xs)|_=>pure none) _ _ _
  refine wB0 (wpAny_load ho ?_)
  rw [hdat]
  refine wP0 (wP0 ?_)
  show wpAny _ _ (holding [key,kv.2] (dictSet D key kv.2)) _ _ _
  refine wpAny_holding ?_
  have hlen:=merged_length_le [] (kvs.take i)
  have hl2:(kvs.take i).length<=n:=by rw [<-hn];exact List.length_take_le' i kvs
  refine wpAny_dictSet_pairs (s:={s with heap:=h',toks:=tk}) (hsz:=by rw [length_nil]at hlen;omega) hkey hS' λh2 hd2 hs2=>?_
  have hkeep2: ∀b o,h₀.get? b=some o->h2.get? b=some o:=λb o e=>by
   rw [hs2.2 b (λh=>by rw [h,hD]at e;cases e)];exact hkeep' b o e
  refine wP0 ⟨plainId_quiet F.plain_dict_update_loop _,ih (i+1) (j+1) _ (by omega) hlt (W.frame _ _ _ hst' λb hb o e=>?_) ?_ hkeep2 λh3 tk3 k3 d3=>hR h3 tk3 k3 d3⟩
  ·rw [hs2.2 b (λh=>hDf (h▸hb))];exact e
  ·rw [merged_take_succ _ _ _ _ hkv];exact hd2
theorem zLT{l:Addr}{its:Array Value}{o:Obj}{c:Nat}{kvs:List (K×Value)}{Q:VP}(hA:A.handled=none)(ho:s.heap.get? l=some o)(hc:o.cls=.type "list")(hd:o.dict=none)(hdat:o.data=.seq its c)(hlen:its.size=kvs.length)(hz:its.size<=sizeLine)
  (hP: ∀(i:Nat) v,its[i]? =some v-> ∃kv,kvs[i]? =some kv/\zYB knd s.heap kv v)
  (h: ∀h' tk,(∀b o,s.heap.get? b=some o->h'.get? b=some o)->h'.DictOf knd s.heap.objs.size (merged [] kvs)->Q (.ref s.heap.objs.size) {s with heap:=h',toks:=tk}):
  wpAny (model prog w) A (call (.type "dict") [.ref l]) Q E s:=by
 refine callType_codes (Q₁:=λobj s₁=>obj=.ref s.heap.objs.size/\s₁={s with heap:=s.heap.push {cls:=.type "dict",data:=.dict #[]}}) F.kt_called_dict (F.kt_typeCall_dict_1 _) F.entry_dict_init (kt_code_dict_new _ ⟨rfl,rfl⟩) ?_
 rintro obj s₁ ⟨rfl,rfl⟩
 have hnew:(s.heap.push {cls:=.type "dict",data:=.dict #[]}).DictOf knd s.heap.objs.size []:=Heap.DictOf.new s.heap
 have ho':(s.heap.push {cls:=.type "dict",data:=.dict #[]}).get? l=some o:=hP0 _ ho
 have hl0:=Heap.lt_size ho
 refine⟨hnew.typeIs,F.args_dict_init_2 _ _,?_⟩
 unfold Builtin.«dict.__init__»
 refine wB0 ?_
 unfold Builtin.Dict.selfAndRest
 refine wB0 (wpAny_notOrdered_dict hnew.typeIs ?_)
 show wpAny _ _ (pure (s.heap.objs.size,[Value.ref l])) _ _ _
 refine wP0 ?_
 show wpAny _ _ (Builtin.Dict.updateFrom "dict.__init__" s.heap.objs.size (.ref l) [] .none) _ _ _
 unfold Builtin.Dict.updateFrom
 refine wB0 (wpAny_typeOf (T:="list") ⟨o,ho',hc⟩ ?_)
 rw [iP (by decide)]
 refine wB0 (getAttr?_miss_list ho' hc hdat hd zSR (by decide+kernel) hA (λh1 tk1 k1=>?_) (by decide+kernel))
 rw [iP (show(none:Option Value).isNone=true from rfl)]
 refine wB0 (wpAny_rule ?_)
 have ho1:=k1 l o ho'
 refine wB0 (wpAny_pyIter_list (items:=its) ⟨o,ho1,hc,c,hdat⟩ ?_)
 have hI:l≠h1.objs.size:=ne_of_lt (Heap.lt_size ho1)
 have hsz:s.heap.objs.size<h1.objs.size:=by
  obtain⟨oo,_,_,hg,_⟩:=hnew
  exact Heap.lt_size (k1 _ _ hg)
 refine wP0 ⟨plainId_quiet F.plain_dict_update_loop _,zIY (knd:=knd) (h₀:=s.heap) (D:=s.heap.objs.size) (Walks.list (by first |exact hA|exact(show A.in1.in1.handled=none from hA)) h1.objs.size l hI its) ?_ kvs hlen.symm hz hP ?_ ?_ _ 0 0 _ rfl (zero_le _) ⟨⟨_,Heap.get?_push_size _ rfl,rfl,rfl⟩,⟨o,hP0 _ ho1,hc,c,hdat⟩⟩ ?_ ?_ λh' tk hk hd'=>?_⟩
 ·rw [mC,mS]
  rintro(e|e)
  ·exact ne_of_lt hsz e
  ·exact ne_of_lt hl0 e.symm
 ·cases hg:s.heap.get? h1.objs.size with
  |none=>rfl
  |some oo=>exact absurd (Heap.lt_size hg) (Nat.lt_asymm hsz)
 ·cases hg:s.heap.get? s.heap.objs.size with
  |none=>rfl
  |some oo=>exact absurd (Heap.lt_size hg) (lt_irrefl _)
 ·obtain⟨oo,es,ep,hg,nL⟩:=hnew
  exact⟨oo,es,ep,hP0 _ (k1 _ _ hg),nL⟩
 ·intro b oo e
  exact hP0 _ (k1 _ _ (hP0 _ e))
 ·exact⟨rfl,h h' tk hk hd'⟩
end
end PySem
namespace L2
namespace M
open PySem PySem.Spec PyProof.Rows
section
variable{X:Cx}{W:XW}{α:List Addr}{H:Hp}{pins:List (Addr×Obj)}{σ:St}{s:Shared}
def zQR(ps:List (Key×V)):List (Key×V):=ps.foldl (λacc p=>zHM acc p.1 p.2) []
inductive PairsV(K:PySem.W.Frag)(H:Hp):List V->List (Key×V)->Prop
 |nil:PairsV K H [] []
 |cons {a:Addr} {k:Key} {v:V} {vs ps}:SqT K H a [kV k,v]->PairsV K H vs ps->PairsV K H (.ref a::vs) ((k,v)::ps)
theorem yAC{ps:List (Key×V)}{qs:List (Key×Value)}(r:KV ps qs): ∀{as:List (Key×V)}{bs:List (Key×Value)},KV as bs->KV (ps.foldl (λacc p=>zHM acc p.1 p.2) as) (merged bs qs):=by
 unfold KV at r
 induction r with
 |nil=>intro as bs h;exact h
 |@cons p q ps qs h t ih=>
  intro as bs hb
  rw [foldl_cons]
  show KV _ (merged (stored bs q.1 q.2) qs)
  rw [h.1]
  exact ih (yFX hb _ h.2)
theorem yGF(I:Inv X pins σ H s){vs:List V}{ps:List (Key×V)}(r:PairsV X.K H vs ps): ∀{us:List Value},Vals vs us-> ∃qs:List (Key×Value),KV ps qs/\qs.length=us.length/\ ∀(i:Nat) v,us[i]? =some v-> ∃kv,qs[i]? =some kv/\zYB (xA X.prog X.w) s.heap kv v:=by
 induction r with
 |nil=>intro us h;cases h;exact⟨[],.nil,rfl,λi v h=>by simp at h⟩
 |@cons a k v vs ps hq t ih=>
  intro us h
  cases h with
  |@cons _ u _ us ru rt=>
   cases ru
   obtain⟨qs,h1,h2,h3⟩:=ih rt
   obtain⟨its,r',pl,hz⟩:=I.tuple hq
   obtain⟨u1,u2,rfl,q1,q2⟩:=vals2 r'
   refine⟨(k,u2)::qs,.cons ⟨rfl,q2⟩ h1,by rw [lC,lC,h2],λi w hw=>?_⟩
   cases i with
   |zero=>
    cases hw
    exact⟨_,rfl,a,u1,rfl,pl,zVK q1⟩
   |succ i=>exact h3 i w hw
theorem yCW(ps:List (Key×V)):(zQR ps).length<=ps.length:=by
 have: ∀(ps as:List (Key×V)),(ps.foldl (λacc p=>zHM acc p.1 p.2) as).length<=as.length+ps.length:=by
  intro ps
  induction ps with
  |nil=>intro as;exact le_refl _
  |cons p ps ih=>
   intro as
   rw [foldl_cons,lC]
   have:=ih (zHM as p.1 p.2)
   have:=zNS as p.1 p.2
   omega
 have:=this ps []
 rw [length_nil,zero_add]at this
 exact this
theorem zYC{K:PySem.W.Frag}{vs:List V}{ps:List (Key×V)}(r:PairsV K H vs ps):ps.length=vs.length:=by
 induction r with
 |nil=>rfl
 |cons _ _ ih=>rw [lC,lC,ih]
theorem zQS:CallR X (.type "dict") (λxs H Q=> ∃l vs ps,xs=[.ref l]/\SqL X.K H l vs/\PairsV X.K H vs ps/\X.calm=true/\ ∀d,H d=none->Q (.ref d) (upd H d (.dK (zQR ps)))):=by
 intro pins s σ H xs us Q I r h
 obtain⟨l,vs,ps,rfl,hq,hp,hc,q⟩:=h
 obtain⟨u,rfl,rx⟩:=vals1 r
 cases rx
 obtain⟨its,rv,⟨o,n,ho,hcl,hd,hdat⟩,hz⟩:=I.list hq
 obtain⟨qs,h1,h2,h3⟩:=yGF I hp rv
 have hl:=rv.length
 refine zLT (knd:=xA X.prog X.w) (kvs:=qs) (I.ok.hd hc) ho hcl hd hdat (by rw [sA0,h2]) (by rw [sA0];omega) (λi v e=>h3 i v (by simpa using e)) λh' tk hk hdd=>?_
 have hpl:=zYC hp
 have hf:=yCW ps
 refine⟨.ref s.heap.objs.size,_,I.laid (t':=tk) hk (le_refl _) (show ObjOk X.prog X.w _ h' _ (.dK (zQR ps))from⟨by omega,beq_eq_false_iff_ne.mpr (Ne.symm (ne_of_lt (zXV I))),_,yAC h1 .nil,hdd⟩),rfl,q _ (I.hok.fresh (le_refl _))⟩
noncomputable def zGE:List MV->Option (List (MV×MV))
 |[]=>some []
 |.tup [k,v]::r=>if zIW k=true then(zGE r).map ((k,v)::·)else none
 |_::_=>none
noncomputable def yGG(ps:List (MV×MV)):List (MV×MV):=ps.foldl (λacc p=>zNJ acc p.1 p.2) []
theorem zNX{K:PySem.W.Frag}: ∀{ds:List MV}{kvs:List (MV×MV)}{vs:List V},zGE ds=some kvs->DenL X.K α H ds vs-> ∃ps,PairsV X.K H vs ps/\DenK X.K α H kvs ps
 |[],kvs,vs,e,l=>by
  cases e
  rw [l.isnil]
  exact⟨[],.nil,.nil⟩
 |d::ds,kvs,vs,e,l=>by
  obtain⟨v,r,rfl,dv,l'⟩:=l.uncons
  unfold zGE at e
  split at e
  ·cases (by assumption:d::ds=[])
  ·rename_i k y r' hd
   obtain⟨rfl,rfl⟩:=List.cons.inj hd
   split at e
   ·rename_i hk
    cases z:zGE ds with
    |none=>rw [z]at e;cases e
    |some ms=>
     rw [z]at e
     cases e
     obtain⟨ps,p1,p2⟩:=zNX (K:=K) z l'
     obtain⟨a,us,rfl,hs,hl⟩:=xI dv
     obtain⟨v1,r1,rfl,d1,l1⟩:=hl.uncons
     obtain⟨v2,r2,rfl,d2,l2⟩:=l1.uncons
     have e2:=l2.isnil
     subst e2
     obtain⟨k',hk'⟩:=Option.isSome_iff_exists.mp hk
     have e1:=yGC (X:=X) hk' d1
     subst e1
     exact⟨(k',v2)::ps,.cons hs p1,.cons (ky_D hk') d2 p2⟩
   ·cases e
  ·cases e
theorem zKD: ∀{kvs:List (MV×MV)}{ps:List (Key×V)},DenK X.K α H kvs ps-> ∀{as:List (MV×MV)}{bs:List (Key×V)},DenK X.K α H as bs->DenK X.K α H (kvs.foldl (λacc p=>zNJ acc p.1 p.2) as) (ps.foldl (λacc p=>zHM acc p.1 p.2) bs)
 |_,_,.nil,as,bs,h=>h
 |_,_,.cons (k:=k) (k':=k') hk a l,as,bs,h=>by
  rw [foldl_cons,foldl_cons]
  exact zKD l (zVJ h hk a)
noncomputable def zVM:List Er->Sto->R Er
 |[r],S=>match (jM S r).bind zGE with |some kvs=>.ok (.val (.loc S.length)) (S++[.dic (yGG kvs)])|none=>.no
 |_,_=>.no
theorem yAD:bootBuiltins "dict"=some (.type "dict"):=by decide+kernel
theorem yAE(hc:X.calm=true):zDV X W (λxs H Q=> ∃l vs ps,xs=[.ref l]/\SqL X.K H l vs/\PairsV X.K H vs ps/\X.calm=true/\ ∀d,H d=none->Q (.ref d) (upd H d (.dK (zQR ps)))) zVM:=by
 intro rs vs α S H Q wd d post
 unfold zVM at post
 split at post
 ·split at post
  ·rename_i kvs e
   obtain⟨v,rfl,dv⟩:=zBH d
   cases z:jM S _ with
   |none=>rw [z]at e;cases e
   |some ds=>
    rw [z]at e
    obtain⟨a1,us,rfl,sq,l⟩:=zFW rfl wd z dv
    obtain⟨ps,p1,p2⟩:=zNX (X:=X) (K:=X.K) e l
    refine⟨a1,us,ps,rfl,sq,p1,hc,λp hp=>?_⟩
    have xn:=wd.newx (o:=.dK (zQR ps)) hp
    obtain⟨x,w'⟩:=wd.put (ho:=.dK (zQR ps)) (m:=.dic (yGG kvs)) hp (.inl ⟨_,yW,(zKD p2 .nil).ex0 ⟨⟨[p],rfl⟩,xn.tup,xn.frz⟩⟩)
    exact post (.ref p) (α++[p]) _ x w' (DenE.val (zGY (by rw [<-wd.len,getElem?_append_right (le_refl _),sub_self];rfl)))
  ·exact post.elim
 ·exact post.elim
end
section
variable{X:Cx}{W:XW}{a b o i e:Expr}{es:List Expr}{f g:AX}{af:Rho->Sto->R (List Er)}{apos pos:Pos}{α:List Addr}{H:Hp}{pins:List (Addr×Obj)}{σ:St}{s:Shared}
def zVN(ks ps:List (Key×V)):List (Key×V):=ps.foldl (λacc p=>zHM acc p.1 p.2) ks
theorem zQT: ∀(ps ks:List (Key×V)),(zVN ks ps).length<=ks.length+ps.length
 |[],ks=>le_refl _
 |p::ps,ks=>by
  have h1:=zQT ps (zHM ks p.1 p.2)
  have h2:=zNS ks p.1 p.2
  show(zVN (zHM ks p.1 p.2) ps).length<=_
  rw [lC]
  omega
def yMY(X:Cx):V->List V->Hp->VK->Prop:=λx vs H Q=> ∃(ks ps:List (Key×V))(d p:Addr),x=.ref d/\vs=[.ref p]/\d≠p/\DK X H d ks/\DK X H p ps/\ks.length+ps.length<2000000/\Q .non (upd H d (.dK (zVN ks ps)))
theorem yLE:MtR X "dict.update" (yMY X):=by
 intro pins s σ H x vs v us Q I rx rv h
 obtain⟨ks,ps,d,p,rfl,rfl,hne,dd,dp,hz,q⟩:=h
 obtain⟨u1,rfl,r1⟩:=vals1 rv
 cases rx
 cases r1
 have hT:s.TypeIs (.ref d) "dict":=(yGA pins s σ H (.ref d) (.ref d) I rfl ⟨d,ks,rfl,dd⟩).1
 obtain⟨z,hs,vs,kv,dm⟩:=dO I dd
 obtain⟨z2,hs2,vs2,kv2,dm2⟩:=dO I dp
 have hl:ks.length=vs.length:=Paired.length kv
 have hl2:ps.length=vs2.length:=Paired.length kv2
 have hS:=sizeLine_eq
 refine call_meetsIn PySem.F.slot_dict_update hT PySem.F.entry_dict_update (PySem.F.args_dict_update_2 _ _) (meets_dict_update (xA X.prog X.w) d p hne hs2)
  ⟨vs,vs2,dm,dm2,by rw [hS];omega,λh' hm _ hb=>?_⟩
 have he': ∃q,h'.get? d=some q:=let ⟨q,_,_,hq,_⟩:=hm;⟨q,hq⟩
 have hol:=zQT ps ks
 refine⟨.non,upd H d (.dK (zVN ks ps)),?_,rfl,q⟩
 exact I.write (t':=_) (x:=d) (e:=d) (zYA dd) (.inl rfl) (λb uo hb' eo=>(hb.2 b hb').trans eo) he' ⟨by rw [hS];omega,hs,_,yAC kv2 kv,hm⟩
noncomputable def yAF(kvs ps:List (MV×MV)):List (MV×MV):=ps.foldl (λacc p=>zNJ acc p.1 p.2) kvs
noncomputable def zQU(p:Er)(rs:List Er)(S:Sto):R Er:=match rs with
 |[r]=>match zIX S p with
  |some (l,kvs)=>match zIX S r with
   |some (m,ps)=>if l≠m/\kvs.length+ps.length<1000000 then .ok (.val .non) (S.set l (.dic (yAF kvs ps)))else .no
   |none=>.no
  |none=>.no
 |_=>.no
theorem yLF:zUP X W (yMY X) zQU:=by
 intro p rs x vs α S H0 H Q α0 wd x0 dp da post
 unfold zQU at post
 split at post
 ·rename_i r
  split at post
  ·rename_i l kvs ed
   split at post
   ·rename_i m ps er
    split at post
    ·rename_i hc
     cases da with
     |cons dv n1 l1=>
     cases l1
     obtain⟨c,ks,rfl,h1,hS,DDx,dl,_⟩:=dxo wd ed dp
     obtain⟨c2,ks2,rfl,h2,hS2,DDx2,dl2,_⟩:=dxo wd er dv.1
     have hne:c≠c2:=λz=>hc.1 (by
      subst z
      exact(List.getElem?_inj (gS0.mp h1).1 wd.nd).mp (h1.trans h2.symm))
     have e1:ks.length=kvs.length:=DenK.length dl
     have e2:ks2.length=ps.length:=DenK.length dl2
     refine⟨ks,ks2,c,c2,rfl,rfl,hne,DDx,DDx2,by omega,?_⟩
     have xw:=wd.writex h1 (o:=.dK (zVN ks ks2))
     exact(Post.shift (x0.trans xw) post).val (wd.write h1 (.inl ⟨_,yW,(zKD dl2 dl).ex0 xw.toEx0⟩)) zIL
    ·exact post.elim
   ·exact post.elim
  ·exact post.elim
 ·exact post.elim
theorem yLG(ho:PEm X W o f)(ha:PAm X W (e::es) af)
  (hbase:attributeBase o "update" X.env (eval o X.env)=eval o X.env:=by rfl)
  (hfew:((backTo pos (starEach (e::es) X.env)).all (λx=>!x.1)&&(backToKw pos (keywordEach [] X.env)).all (λx=>x.1.isSome)
   &&decide ((e::es).length+([]:List Keyword).length+(if([]:List Keyword).isEmpty then 0 else 1)<30))=true:=by rfl)
  (hline:(apos.endLine==pos.line)=true:=by rfl) (hs:starEach (e::es) X.env=(false,eval e X.env)::starEach es X.env:=by rfl) (hplain:(backTo pos (starEach es X.env)).any (·.1)=false:=by rfl):
  PEm X W (.Call (.Attribute o "update" apos) (e::es) [] pos) (λρ S=>(f ρ S).bind λp S1=>if isDx p S1=true then(af ρ S1).bind λrs S2=>zQU p rs S2 else .no):=by
 obtain⟨to,ho,fo⟩:=ho
 obtain⟨t,ha,k⟩:=ha
 refine⟨_,yQQ yGA PySem.F.plainAttrs_dict PySem.F.slot_dict_update PySem.F.type_dict_update yLE ho ha hbase hfew hline hs hplain,λα ρ S σ H Q wd sl q=>fo α ρ S σ H _ wd sl (q.bind λu p S1 α1 H1 e1 x1 w1 d1 q1=>?_)⟩
 split at q1
 ·rename_i hz
  obtain⟨⟨l,kvs⟩,hz⟩:=Option.isSome_iff_exists.mp hz
  obtain⟨c,xs,rfl,_,_,dd,_⟩:=dxo w1 hz d1.1
  exact⟨⟨c,xs,rfl,dd⟩,k α1 ρ S1 σ H1 _ w1 (sl.ext x1) ((q1.shift x1).bind λvs rs S2 α2 H2 e2 x2 w2 d2 q2=>yLF p rs _ vs α2 S2 H1 H2 Q α1 w2 x2 (d1.1.ext x2) d2 q2)⟩
 ·exact q1.elim
end
section
variable{X:Cx}{W:XW}{a b:Expr}{f g:AX}{pos:Pos}
open Classical in
noncomputable def zVO(n:Nat)(p q:Er)(S:Sto):R Er:=match p with
 |.val k=>match q with
  |.val d=>if zIW k=true/\S[n]? =some (.dic [])then .ok (.val (.loc n)) (S.set n (.dic [(k,d)]))else .no
  |_=>.no
 |_=>.no
theorem yGH(ha:PEm X W a f)(hb:PEm X W b g):PEm X W (.Dict [some a] [b] pos) (λρ S=>(f ρ (S++[.dic []])).bind λp S1=>(g ρ S1).bind λq S2=>zVO S.length p q S2):=by
 obtain⟨ta,ha,fa⟩:=ha
 obtain⟨tb,hb,fb⟩:=hb
 refine⟨λσ H Q=> ∀p,H p=none->ta σ (upd H p (.dK [])) λv H1=>tb σ H1 λu H2=> ∃k,v=kV k/\DK X H2 p []/\Q (.ref p) (upd H2 p (.dK [(k,u)])),λpins s σ H Q I h=>?_,λα ρ S σ H Q wd sl q p hp=>?_⟩
 ·have I0:=I.laid (a:=s.heap.objs.size) (o:=.dK []) (t':=s.toks) (h':=s.heap.push {cls:=.type "dict",data:=.dict #[]}) (λ_ _ q=>hP0 _ q) (le_refl _)
   ⟨zero_le _,beq_eq_false_iff_ne.mpr (Ne.symm (ne_of_lt (zXV I))),[],.nil,Heap.DictOf.new s.heap⟩
  refine wpAny_Dict_pairs (knd:=xA X.prog X.w) (pairs:=[(eval a X.env,do let x <-eval b X.env;standAt pos;pure x)]) rfl (by simp) (by simp) ?_
  refine evalPairs_cons (wpAny_mono (ha _ _ _ _ _ I0 (h _ (I.hok.fresh (le_refl _)))) (λkv s1 h1=>?_) λ_ _ e=>e)
  obtain⟨v,H1,I1,r1,t1⟩:=h1
  refine wB0 (wpAny_mono (hb _ _ _ _ _ I1 t1) (λvv s2 h2=>?_) λ_ _ e=>e)
  obtain⟨u,H2,I2,r2,k,rfl,dd,q⟩:=h2
  refine wB0 (wpAny_standAt (wP0 (evalPairs_nil ?_)))
  obtain⟨z,hs,vs,kvr,dm⟩:=dO I2 dd
  have hl:([]:List (Key×V)).length=vs.length:=Paired.length kvr
  have hv0:vs=[]:=List.length_eq_zero_iff.mp hl.symm
  subst hv0
  refine⟨[(k,vv)],⟨zVK (X:=X) r1,rfl,trivial⟩,dm,λh' dm' hs'=>⟨.ref _,_,?_,rfl,q⟩⟩
  have he: ∃q,h'.get? s.heap.objs.size=some q:=let ⟨q,_,_,hq,_⟩:=dm';⟨q,hq⟩
  exact I2.write (t':=_) (x:=s.heap.objs.size) (e:=s.heap.objs.size) (zYA dd) (.inl rfl) (λb uo hb eo=>(hs'.2 b hb).trans eo) he ⟨by rw [sizeLine_eq];simp,hs,_,.cons ⟨rfl,r2⟩ .nil,dm'⟩
 ·obtain⟨x,w'⟩:=wd.put (ho:=.dK []) (m:=.dic []) hp (.inl ⟨[],yW,.nil⟩)
  refine fa (α++[p]) ρ (S++[.dic []]) σ _ _ w' (sl.ext x) ((q.shift x).bind λv r S1 α1 H1 e1 x1 w1 d1 q1=>?_)
  refine fb α1 ρ S1 σ H1 _ w1 (sl.ext (x.trans x1)) ((q1.shift x1).bind λu r2 S2 α2 H2 e2 x2 w2 d2 q2=>?_)
  unfold zVO at q2
  split at q2
  ·rename_i k
   split at q2
   ·rename_i d
    split at q2
    ·rename_i hk
     obtain⟨k',hk'⟩:=Option.isSome_iff_exists.mp hk.1
     have dk:Den X.K α2 H2 k v:=d1.1.ext x2
     have ek:=yGC (X:=X) (α:=α2) (H:=H2) hk' dk
     subst ek
     have hα:α2[S.length]? =some p:=by
      obtain⟨t1,h1⟩:=x1.pre
      obtain⟨t2,h2⟩:=x2.pre
      rw [h2,h1,aA,aA, <-wd.len,getElem?_append_right (le_refl _),sub_self]
      rfl
     obtain⟨ks,dd,dl⟩:=yMX (w2.obj _ p _ hα hk.2) rfl
     cases dl
     refine⟨k',rfl,dd,?_⟩
     have xw:=w2.writex hα (o:=.dK [(k',u)])
     exact(Post.shift (x2.trans xw) q2).val (w2.write hα (.inl ⟨_,yW,.cons (ky_D hk') (d2.1.ext xw) .nil⟩)) (zGY (by rw [hα]))
    ·exact q2.elim
   ·exact q2.elim
  ·exact q2.elim
end
section
variable{X:Cx}{W:XW}
theorem zQV:CallR X (.builtin "len") (λxs H Q=> ∃d ks,xs=[.ref d]/\DK X H d ks/\Q (.int ks.length) H):=by
 intro pins s σ H vs us Q I rv h
 obtain⟨d,ks,rfl,dd,q⟩:=h
 obtain⟨u1,rfl,r1⟩:=vals1 rv
 cases r1
 obtain⟨z,hs,vs,kv,dm⟩:=dO I dd
 have hl:ks.length=vs.length:=Paired.length kv
 have hS:=sizeLine_eq
 refine PySem.call_len_dict hs dm (by omega) ⟨.int ks.length,H,(I.tok _).tok _,by rw [hl];exact⟨_,rfl⟩,q⟩
noncomputable def zQW:List Er->Sto->R Er
 |[r],S=>match zIX S r with
  |some (_,kvs)=>.ok (.val (.int kvs.length)) S
  |none=>.no
 |_,_=>.no
theorem yAG:zDV X W (λxs H Q=> ∃d ks,xs=[.ref d]/\DK X H d ks/\Q (.int ks.length) H) zQW:=by
 intro rs vs α S H Q wd d post
 unfold zQW at post
 split at post
 ·split at post
  ·rename_i l kvs e
   obtain⟨v,rfl,dv⟩:=zBH d
   obtain⟨c,ks,rfl,h1,hS,DDx,dl,_⟩:=dxo wd e dv
   have el:ks.length=kvs.length:=DenK.length dl
   refine⟨c,ks,rfl,DDx,?_⟩
   rw [el]
   exact Post.val post wd (xB _)
  ·exact post.elim
 ·exact post.elim
noncomputable def d1J(f g:AX)(ρ:Rho)(S:Sto):R Er:=(f ρ (S++[.dic []])).bind λp S1=>(g ρ S1).bind λq S2=>zVO S.length p q S2
theorem yCX{a b:Expr}{f g:AX}{pos:Pos}(ha:PEm X W a f)(hb:PEm X W b g):PEm X W (.Dict [some a] [b] pos) (d1J f g):=yGH ha hb
end
def zYD(x:List Nat):List (List Nat)->List (List Nat)
 |[]=>[x]
 |y::r=>if y<x then y::zYD x r else x::y::r
def nB(ns:List (List Nat)):List (List Nat):=ns.foldr zYD []
theorem zKE(x:List Nat): ∀l,(zYD x l).Perm (x::l)
 |[]=>.refl _
 |y::r=>by
  unfold zYD
  split
  ·exact((zKE x r).cons y).trans (.swap _ _ _)
  ·exact .refl _
theorem zBL: ∀ns,(nB ns).Perm ns
 |[]=>.refl _
 |x::r=>(zKE x _).trans ((zBL r).cons x)
theorem zNY(x:List Nat): ∀l:List (List Nat),l.Pairwise (λa b=> ¬b<a)->(zYD x l).Pairwise (λa b=> ¬b<a)
 |[],_=>by simp [zYD]
 |y::r,h=>by
  obtain⟨h1,h2⟩:=pairwise_cons.mp h
  unfold zYD
  split
  ·rename_i hyx
   refine pairwise_cons.mpr ⟨λz hz=>?_,zNY x r h2⟩
   rcases mC.mp ((zKE x r).mem_iff.mp hz)with rfl|hz
   ·exact List.lt_asymm hyx
   ·exact h1 z hz
  ·rename_i hyx
   refine pairwise_cons.mpr ⟨λz hz=>?_,h⟩
   rcases mC.mp hz with rfl|hz
   ·exact hyx
   ·exact not_lt.mpr (le_trans (not_lt.mp hyx) (not_lt.mp (h1 z hz)))
theorem zGF: ∀ns,(nB ns).Pairwise (λa b=> ¬b<a)
 |[]=>.nil
 |x::r=>zNY x _ (zGF r)
theorem zVP{ns ns':List (List Nat)}(hp:ns'.Perm ns)(hs:ns'.Pairwise (λa b=> ¬b<a)):ns'=nB ns:=
 List.Perm.eq_of_pairwise (λ_ _ _ _ a b=>List.le_antisymm (not_lt.mp a) (not_lt.mp b)) hs (zGF ns) (hp.trans (zBL ns).symm)
theorem zQX: ∀(l:List Str)(p:Str),risingS p l=true->(p::l).Pairwise (λa b=> ¬b.cps.toList<a.cps.toList)
 |[],p,_=>by simp
 |x::r,p,h=>by
  have h:(!ltCps x.cps.toList p.cps.toList&&risingS x r)=true:=h
  rw [aE,Bool.not_eq_true',ltCps_eq,decide_eq_false_iff_not]at h
  have ih:=zQX r x h.2
  refine pairwise_cons.mpr ⟨λz hz=>?_,ih⟩
  rcases mC.mp hz with rfl|hz
  ·exact h.1
  ·exact not_lt.mpr (le_trans (not_lt.mp h.1) (not_lt.mp ((pairwise_cons.mp ih).1 z hz)))
theorem yCY: ∀(l:List Str),sortedS l=true->l.Pairwise (λa b=> ¬b.cps.toList<a.cps.toList)
 |[],_=>.nil
 |x::r,h=>zQX r x h
theorem yQX(x:Str):mkS x.cps.toList=x:=by unfold mkS;simp
theorem zVQ{zs:List (List Nat)}{ss:List Str}(hp:ss.Perm (zs.map mkS))(hs:sortedS ss=true):ss=(nB zs).map mkS:=by
 have h1:(ss.map λx=>x.cps.toList).Perm zs:=by
  have:=hp.map λx:Str=>x.cps.toList
  rw [map_map,show((λx:Str=>x.cps.toList)∘mkS)=id from funext zGX,map_id]at this
  exact this
 have h2:(ss.map λx=>x.cps.toList).Pairwise (λa b=> ¬b<a):=pairwise_map.mpr (yCY ss hs)
 rw [<-zVP h1 h2,map_map,show(mkS∘λx:Str=>x.cps.toList)=id from funext yQX,map_id]
section
variable{prog:Program}{w:World}{A:Around}{E:VP}{s:Shared}{T:String}{r d:Addr}{n:Nat}{P:Nat->Value->Prop}{OK:Heap->Prop}
theorem zVR{Q:VP}(K:PySem.W.KdlSrc prog w "dict" r d n P OK)(hh:A.handled=none)(hok:OK s.heap)(hn:n<64){ss:List Str}(hI: ∀acc:Array Value,ItemsOf P acc n->StrsAre acc.toList ss)
  (h: ∀(h':Heap)(tk:Nat)(out:Array Value)(ss':List Str),(∀b o,s.heap.get? b=some o->h'.get? b=some o)->StrsAre out.toList ss'->ss'.Perm ss->sortedS ss'=true-> ∀(vs:List Value),Q (.ref h'.objs.size) {s with heap:=sortedHeap (h'.push (seqObj "list" vs.toArray 0)) h'.objs.size vs out,toks:=tk}):
  wpAny (model prog w) A (call (.builtin "sorted") [.ref r]) Q E s:=by
 refine Calls.call_function_entry kind_sorted plain_sorted entry_sorted (args_sorted1 _) ?_
 unfold Builtin.«sorted»
 refine wB0 (m:=checkCount "sorted" 1 1 _) (wP0 ?_)
 refine wB0 (PySem.W.kdu_collect (A:=A.in1) K hh hok (by rw [sizeLine_eq];omega) λh' tk acc hk hacc=>?_)
 have hl:acc.toList.length=n:=by rw [Array.length_toList];exact hacc.1
 refine wB0 (wpAny_newList ?_ (by rw [hl,sizeLine_eq];omega))
 have hoL:(h'.push (seqObj "list" acc.toList.toArray 0)).get? h'.objs.size=some (seqObj "list" acc.toList.toArray 0):=Heap.get?_push_size _ rfl
 show wpAny _ _ _ _ _ {s with heap:=h'.push (seqObj "list" acc.toList.toArray 0),toks:=tk}
 have hS:=hI acc hacc
 refine wB0 (wpAny_holding (wpAny_call_entry slot_list_sort ⟨_,hoL,rfl⟩ entry_list_sort (list_sort_treeK strKind_oneLt hoL hS.keysOf (λv₁ v₂ nL e=>keyKind_strs (by rw [<-e];exact hS)) (by rw [hl];exact hn) λst' hp hs=>⟨_,rfl,?_⟩) (args_list_sort _)))
 obtain⟨ss',h1,h2,h3⟩:=sorted_out_str hS hp hs
 refine wP0 ⟨_,rfl,h h' tk _ ss' hk h1 h2 h3 acc.toList⟩
end
section
variable{X:Cx}{W:XW}{α:List Addr}{H:Hp}
theorem zVS: ∀(l:List (Str×Tok)),StrsAre (strValues l) (l.map (·.1))
 |[]=>.nil
 |(x,t)::l=>.cons x t (zVS l)
theorem zQY: ∀{us:List Value}{zs:List (List Nat)},StrsAre us (zs.map mkS)->Vals (zs.map λz=>V.str (mkS z)) us
 |_,[],h=>by cases h;exact .nil
 |_,z::zs,h=>by
  cases h with
  |cons y t h=>exact .cons ⟨t,rfl⟩ (zQY h)
theorem zVT: ∀{ds:List MV}{ns:List (List Nat)},nP ds=some ns->ns.length=ds.length
 |[],ns,h=>by cases h;rfl
 |x::ds,ns,hi=>by
  cases x<;>first |(cases hi;done)|skip
  unfold nP at hi
  cases zz:nP ds with
  |none=>rw [zz]at hi;cases hi
  |some ms=>rw [zz]at hi;cases hi;rw [lC,lC,zVT zz]
theorem zNZ:CallR X (.builtin "sorted") (λxs H Q=> ∃d ks ds ns α,xs=[.ref d]/\DK X H d ks/\nP ds=some ns/\DenL X.K α H ds (ks.map λp=>kV p.1)/\ds.length<64/\X.calm=true/\ ∀p,H p=none->Q (.ref p) (upd H p (.lst ((nB ns).map λz=>V.str (mkS z))))):=by
 intro pins s σ H xs us Q I r h
 obtain⟨d,ks,ds,ns,α,rfl,dd,hi,hd',hz,hc,q⟩:=h
 obtain⟨u,rfl,rx⟩:=vals1 r
 cases rx
 obtain⟨z,hd,vs,rel,dm⟩:=dO I dd
 obtain⟨ep,hat⟩:=dm.dictAt
 have hl:ks.length=vs.length:=Paired.length rel
 have hlen:vs.length<64:=by have:=hd'.length;rw [lM]at this;omega
 refine zVR (PySem.W.kdl_dict (knd:=xA X.prog X.w) (kvs:=vs) (ep:=ep) hd) (I.ok.hd hc) hat hlen (ss:=ns.map mkS) (λacc hacc=>by
  obtain⟨l,e1,e2⟩:=zZZ hi hd' (yCV (X:=X) rel (by rw [Array.length_toList];exact hacc.1) λj v e=>hacc.2 j v (by rw [<-Array.getElem?_toList];exact e))
  rw [e1, <-e2]
  exact zVS l) λh' tk out ss' hk a1 a2 a3 us=>?_
 have en:=zVQ a2 a3
 subst en
 have I1:Inv X pins σ H {s with heap:=h',toks:=tk}:=I.kept hk
 obtain⟨e,he⟩:=sortedHeap_at (h:=h'.push (seqObj "list" us.toArray 0)) (a:=h'.objs.size) (vs:=us) (n:=0) (out:=out) (Heap.get?_push_size _ rfl)
 refine⟨.ref h'.objs.size,_,I1.laid (t':=tk) (λb o eb=>?_) (le_refl _) (show ObjOk X.prog X.w _ _ _ (.lst ((nB ns).map λz=>V.str (mkS z)))from⟨?_,out.toList,e,zQY a1,?_⟩),rfl,q _ (I1.hok.fresh (le_refl _))⟩
 ·have hb:=Heap.lt_size eb
  rw [sortedHeap_old (ne_of_lt hb) (by rw [size_push'];exact Nat.lt_succ_of_lt hb)]
  exact hP0 _ eb
 ·have e2:=(zBL ns).length_eq
  have e3:=zVT hi
  have:=sizeLine_eq
  rw [lM]
  omega
 ·rw [Array.toArray_toList]
  exact he
noncomputable def zKF(rs:List Er)(S:Sto):R Er:=match rs with
 |[p]=>match zIX S p with
  |some (_,kvs)=>if kvs.length<64 then(match nP (kvs.map (·.1))with |some ns=>.ok (.new ((nB ns).map MV.str)) S|none=>.no)else .no
  |none=>.no
 |_=>.no
theorem zVU(hc:X.calm=true):zDV X W (λxs H Q=> ∃d ks ds ns α,xs=[.ref d]/\DK X H d ks/\nP ds=some ns/\DenL X.K α H ds (ks.map λp=>kV p.1)/\ds.length<64/\X.calm=true/\ ∀p,H p=none->Q (.ref p) (upd H p (.lst ((nB ns).map λz=>V.str (mkS z))))) zKF:=by
 intro rs vs α S H Q wd d post
 unfold zKF at post
 split at post
 ·split at post
  ·rename_i n kvs e
   split at post
   ·rename_i hz
    split at post
    ·rename_i ns hi
     obtain⟨v,rfl,dv⟩:=zBH d
     obtain⟨c,ks,rfl,h1,h2,dd,dl,_⟩:=dxo wd e dv
     exact⟨c,ks,_,ns,α,rfl,dd,hi,zKB dl,by rw [lM];exact hz,hc,λp hp=>Post.newl post wd hp (zQN _)⟩
    ·exact post.elim
   ·exact post.elim
  ·exact post.elim
 ·exact post.elim
end
section
variable{X:Cx}{W:XW}{a:Expr}{f:AX}{pos apos:Pos}
def yMZ:V->List V->Hp->VK->Prop:=λx vs H Q=> ∃l xs y,x=.ref l/\vs=[]/\H l=some (.lst xs)/\xs[xs.length - 1]? =some y/\Q y (upd H l (.lst (xs.eraseIdx (xs.length - 1))))
theorem yLH:MtR X "list.pop" yMZ:=by
 intro pins s σ H x vs v us Q I rx rv h
 obtain⟨l,xs,y,rfl,rfl,hH,hy,q⟩:=h
 cases rx
 have hus:=rv.zero
 subst hus
 obtain⟨z,its,n,r,hl,e⟩:=I.lstM hH
 obtain⟨w,hw,rw'⟩:=r.get hy
 refine call_meets F.slot_list_pop ⟨_,e,rfl⟩ F.entry_list_pop (F.args_list_pop_1 _)
  (MeetsSeq.list_pop_last l its.toArray n w (by rw [sA0, <-hl, <-Array.getElem?_toList];exact hw) (by rw [sA0];omega)) ⟨e,?_⟩
 refine⟨y,_,I.lset (its':=its.eraseIdx (xs.length - 1)) hH e ?_ (r.eraseIdx (xs.length - 1)) ?_,rw',q⟩
 ·show its.toArray.eraseIdxIfInBounds (its.toArray.size - 1)=(its.eraseIdx (xs.length - 1)).toArray
  rw [List.eraseIdxIfInBounds_toArray,sA0,hl]
 ·have:=zPY xs (xs.length - 1)
  omega
def zOA(p:Er)(rs:List Er)(S:Sto):R Er:=match p,rs with
 |.val (.loc l),[]=>match S[l]? with
  |some (.lst ds)=>match ds[ds.length - 1]? with
   |some d=>.ok (.val d) (S.set l (.lst (ds.eraseIdx (ds.length - 1))))
   |none=>.no
  |_=>.no
 |_,_=>.no
theorem yLI:zUP X W yMZ zOA:=by
 intro p rs x vs α S H0 H Q α0 wd x0 dp da post
 unfold zOA at post
 split at post
 ·rename_i l
  obtain⟨a,rfl,h⟩:=zDG dp
  cases da
  obtain⟨ob,h1,h2⟩:=wd.of h
  rw [h1]at post
  cases ob with
  |lst ds=>
   obtain⟨us,h3,l1⟩:=h2
   dsimp only at post
   split at post
   ·rename_i d ed
    obtain⟨y,ey,dy⟩:=l1.at ed
    have hlen:us.length=ds.length:=l1.length
    have xw:=wd.writex h (o:=.lst (us.eraseIdx (us.length - 1)))
    refine⟨a,us,y,rfl,rfl,h3,by rw [hlen];exact ey,?_⟩
    exact(post.shift (x0.trans xw)).val (wd.write h ⟨_,yW,by rw [hlen];rw [hlen]at xw;exact(l1.eraseIdx (ds.length - 1)).ext xw⟩) (dy.ext xw)
   ·exact post.elim
  |dic _=>exact post.elim
  |ins _ _=>exact post.elim
 ·exact post.elim
theorem yLJ(ho:PEm X W a f)(hbase:attributeBase a "pop" X.env (eval a X.env)=eval a X.env:=by rfl)(hline:(apos.endLine==pos.line)=true:=by rfl):
  PEm X W (.Call (.Attribute a "pop" apos) [] [] pos) (λρ S=>(f ρ S).bind λp S1=>if wH p S1=true then zOA p [] S1 else .no):=
 zUQ PySem.F.plainAttrs_list PySem.F.slot_list_pop PySem.F.type_list_pop yLH yLI zNF ho hbase hline
end
def yCZ(b:Bool)(bs:List Bool):Nat:=bs.countP λc=>c==b
def zKG(p:Er)(rs:List Er)(S:Sto):R Er:=match rs with
 |[.val (.bl b)]=>match (jM S p).bind zDZ with
  |some bs=>.ok (.val (.int (yCZ b bs:Nat))) S
  |none=>.no
 |_=>.no
section
variable{X:Cx}{W:XW}{a e:Expr}{es:List Expr}{f:AX}{af:Rho->Sto->R (List Er)}{pos apos:Pos}
def zYE(b:Bool):Value->Bool
 |.bool c=>c==b
 |_=>false
theorem zQZ(b:Bool): ∀{bs:List Bool}{us:List Value},Vals (bs.map V.bl) us->us.countP (zYE b)=yCZ b bs/\ ∀w∈us, ∃c,w=.bool c
 |[],us,r=>by
  cases r
  exact⟨rfl,λw h=>by simp at h⟩
 |c::bs,us,r=>by
  rw [map_cons]at r
  cases r with
  |cons r1 r2=>
   have r1:_=Value.bool c:=r1
   subst r1
   obtain⟨h1,h2⟩:=zQZ b r2
   refine⟨?_,λw hw=>(mC.mp hw).elim (λe=>⟨c,e⟩) (h2 w)⟩
   unfold yCZ at h1 ⊢
   rw [List.countP_cons,List.countP_cons,h1]
   rfl
abbrev yNA(X:Cx):V->List V->Hp->VK->Prop:=λx xs H Q=> ∃α S l bs b,x=.ref l/\xs=[.bl b]/\Wd X.g α S H/\SqL X.K H l (bs.map V.bl)/\Q (.int (yCZ b bs:Nat)) H
theorem yGI(hu:X.A.units+64<cLine):MtR X "list.count" (yNA X):=by
 intro pins s σ H x xs v us Q I rx rs h
 obtain⟨α,S,l,bs,b,rfl,rfl,wd,sq,q⟩:=h
 cases rx
 obtain⟨u,rfl,ru⟩:=rs.one
 have ru':u=Value.bool b:=ru
 subst ru'
 obtain⟨its,rv,⟨o,n,e0,hc,hd0,hd⟩,hz⟩:=I.list sq
 obtain⟨cls,dct,dat,slt⟩:=o
 simp only at hc hd hd0
 subst hc hd hd0
 obtain⟨h1,h2⟩:=zQZ b rv
 have hcnt:its.toArray.toList.countP (zYE b)=yCZ b bs:=h1
 refine call_meets PySem.F.slot_list_count ⟨_,e0,rfl⟩ PySem.F.entry_list_count (PySem.F.args_list_count_2 _ _)
  (SeqAt.list_countAt l its.toArray n _ _ (.bool b) (zYE b)) ⟨e0,λw hw=>?_,?_⟩
 ·have hw':w∈its:=by simpa using hw
  obtain⟨c,rfl⟩:=h2 w hw'
  exact zIA I wd zN X.A.in1 (.bl c) (.bl b) (.bl c) (.bl b) _ _ (c==b) (by unfold zN;show X.A.units+1+40<cLine;omega) (gU c) (gU b) rfl rfl (yPU _ c b)
 ·rw [hcnt]
  exact⟨.int _,H,I.tok _,⟨_,rfl⟩,q⟩
theorem yGJ:zUP X W (yNA X) zKG:=by
 intro p rs x vs α S H0 H Q α0 wd x0 dp da post
 replace post:=post.shift x0
 unfold zKG at post
 split at post
 ·rename_i b
  split at post
  ·rename_i bs eb
   obtain⟨ds,el,eb⟩:=Option.bind_eq_some_iff.mp eb
   obtain⟨v,rfl,dv⟩:=zYZ da
   obtain⟨l,xs,rfl,sq,dl⟩:=zFW rfl wd el dp
   rw [zHC eb dl]at sq
   have dv:Den X.K α H (.bl b) v:=dv
   obtain rfl:v=.bl b:=zCP dv
   exact⟨α,S,l,bs,b,rfl,rfl,wd,sq,Post.val post wd (xB _)⟩
  ·exact post.elim
 ·exact post.elim
theorem yGK(hu:X.A.units+64<cLine)(ho:PEm X W a f)(ha:PAm X W (e::es) af)
  (hbase:attributeBase a "count" X.env (eval a X.env)=eval a X.env:=by rfl)
  (hfew:((backTo pos (starEach (e::es) X.env)).all (λx=>!x.1)&&(backToKw pos (keywordEach [] X.env)).all (λx=>x.1.isSome)
   &&decide ((e::es).length+([]:List Keyword).length+(if([]:List Keyword).isEmpty then 0 else 1)<30))=true:=by rfl)
  (hline:(apos.endLine==pos.line)=true:=by rfl) (hs:starEach (e::es) X.env=(false,eval e X.env)::starEach es X.env:=by rfl) (hplain:(backTo pos (starEach es X.env)).any (·.1)=false:=by rfl):
  PEm X W (.Call (.Attribute a "count" apos) (e::es) [] pos) (λρ S=>(f ρ S).bind λp S1=>if wH p S1=true then(af ρ S1).bind λrs S2=>zKG p rs S2 else .no):=
 zRW PySem.F.plainAttrs_list PySem.F.slot_list_count PySem.F.type_list_count (yGI hu) yGJ zNF ho ha hbase hfew hline hs hplain
end
end M
end L2
namespace L2
namespace M
namespace My
open PySem PySem.Spec PyProof.Rows
local macro_rules
 | `(tactic|simp? [$xs,*] $[$l:location]?)=>`(tactic|simp only [List.getElem?_cons_zero,List.getElem?_cons_succ,yKC,bok,as_int,as_bl,yPQ,add_int,sub_int,eq_int,yPR,lst0,lst1,lst2,lst3,lst6,tup2,tup3,yPW,yPX,yPY,yPZ,yQA,yQB,yKI,yKJ,List.set_cons_zero,List.set_cons_succ,if_true,yKL,yKK,vJ,kJ,bJ,dJ,nJ,aJ,oJ,iJ,mJ,tJ,lJ,zJ,fJ,xJ,hJ,eJ,gJ,uJ,pJ,jJ,qJ,rJ,sJ,wJ,yJ,AJ,BJ,CJ,DJ,EJ,FJ,GJ,HJ,IJ,JJ,KJ,LJ,MJ,NJ,$xs,*] $[$l:location]?)
abbrev zID:List Str:=["atoms","names","atom","term"]
abbrev zAO:List Str:=["question","seen","place","atom"]
abbrev zLG:List Str:=["tables","question","atom","key"]
abbrev zBM:List Str:=["tables","question","place","atoms","others","names","before","other"]
abbrev zCT:List Str:=["tables","question","atom"]
abbrev zDI:List Str:=["tables","question","place","learnt","unknown","reached","waiting","names","other"]
abbrev zSS:List Str:=["tables","question","pairs","a"]
abbrev yGL:List Str:=["tables","question","pairs","a","b"]
abbrev zGG:List Str:=["_law_rest","_law_letters","_law_many","_law_name","_law_k"]
abbrev gZ:List Str:=["_law_rest","_law_many","_law_words_here","_law_k","_law_word","_law_letter"]
abbrev zIZ:List Str:=["_law_cell","_law_many","_law_letters","_law_long","_law_spot","_law_words_here","_law_k","_law_word","_law_j","_law_sign"]
abbrev zJA:List Str:=["_law_cell","_law_many","_law_some","_law_rest","_law_k","_law_number"]
abbrev zHP:List Str:=["_law_cell","_law_numbers","_law_tables_here","_law_number","_law_wide"]
abbrev zDJ:List Str:=["_law_cell","_law_words_here","_law_rest","_law_many","_law_found","_law_k","_law_value","_law_number","_law_pool","_law_turn"]
abbrev nE:List Str:=["_law_number","_law_names","_law_values_here"]
abbrev zFL:List Str:=["_law_atoms","_law_some","_law_t","_law_terms","_law_term_here"]
abbrev wZ:List Str:=["_law_cells","_law_tables_here","_law_names","_law_values_here","_law_many","_law_order","_law_atoms","_law_k","_law_numbers","_law_wide","_law_some","_law_head"]
abbrev zHQ:List Str:=["_law_question_here","_law_value","_law_atoms","_law_t","_law_terms","_law_some","_law_term_here"]
abbrev dP:List Str:=["_law_question_here","_law_cell","_law_many","_law_order"]
abbrev zVV:List Str:=["_law_script","_law_words_here","_law_tables_here","_law_values_here","_law_cells","_law_question_here","_law_other","_law_order","_law_third","_law_pairs","_law_k","_law_found"]
noncomputable def zBN:AY:=(iJ (bJ (dJ eqF (dJ ixF (vJ 3) (kJ (.int 0))) (kJ (.str [118,97,114]))) asB) ((EJ (kJ (.bl true)) (DJ zGC (vJ 1) (dJ ixF (vJ 3) (kJ (.int 1)))))) (JJ))
noncomputable def zAW:AY:=(zBN)
noncomputable def zGH:AY:=(FJ (bJ (dJ ixF (vJ 2) (kJ (.int 1))) itT) (gNm 3) (zAW))
noncomputable def zEO:AY:=(zGH)
noncomputable section
abbrev AF:=AY
abbrev AE:=AX
def zEP:AF:=(CJ zJ 1)
def zEQ:AF:=(FJ (bJ (vJ 0) itQ) (gNm 2) (zEO))
def zER:AF:=(AJ (bJ (yJ (vJ 1) wJ) zGD))
def zOB:AF:=zO (zEP) (zO (zEQ) ((zER)))
def cP(ds:List MV)(S:Sto):R Er:=xD (zOB (yI zID ds) S)
noncomputable def wL:AY:=(iJ (bJ (dJ (zKC false) (dJ ixF (vJ 3) (kJ (.int 0))) (vJ 1)) asB) ((λ_ _=>R.no)) (JJ))
noncomputable def wM:AY:=(EJ (kJ (.bl true)) (DJ zGC (vJ 1) (dJ ixF (vJ 3) (kJ (.int 0)))))
noncomputable def kG:AY:=zO (wL) ((wM))
def kH:AF:=(CJ zJ 1)
def cG:AF:=(FJ (bJ (yJ (dJ ixF (vJ 0) (kJ (.int 1))) wJ) itE) (gTp 2 (yR (gNm 2) (yR (gNm 3) zBF))) (kG))
def jN:AF:=zO (kH) ((cG))
def yN(ds:List MV)(S:Sto):R Er:=xD (jN (yI zAO ds) S)
def cQ:AZ:=(bJ (dJ (inF true) (vJ 0) (dJ ixF (vJ 1) (kJ (.int 0)))) asB)
def zEF:AE:=(vJ 0)
def zBO:AF:=(AJ (pJ (bJ (fJ 1 cP (yJ (bJ (yJ (vJ 1) wJ) cL) wJ)) itL) (gNm 0) (cQ) (zEF) 1 [0]))
def zES:AF:=(zBO)
def xE(ds:List MV)(S:Sto):R Er:=xD (zES (yI ["question","atom"] ds) S)
def zDK:AF:=(CJ (dJ ixF (dJ ixF (vJ 0) (dJ ixF (vJ 2) (kJ (.int 0)))) (kJ (.int 1))) 3)
def zDL:AF:=(AJ (fJ 2 xE (yJ (vJ 1) (yJ (bJ (yJ (dJ ixF (vJ 2) (kJ (.int 0))) (yJ (tJ zDX (dJ ixF (vJ 2) (kJ (.int 1))) mJ (bJ (vJ 3) asI)) wJ)) zAU) wJ))))
def zGI:AF:=zO (zDK) ((zDL))
def gS(ds:List MV)(S:Sto):R Er:=xD (zGI (yI zLG ds) S)
def zGJ:AZ:=uJ
def zBP:AE:=(bJ (yJ (vJ 0) (yJ (kJ (.bl true)) wJ)) zAU)
def zGK:AZ:=uJ
def zBQ:AE:=(dJ (zKC false) (vJ 0) (vJ 1))
def zGL:AZ:=uJ
def zBR:AE:=(bJ (yJ (vJ 0) (yJ (kJ (.bl true)) wJ)) zAU)
noncomputable def zGM:AY:=(iJ (bJ (bJ (yJ (pJ (bJ (fJ 3 gS (yJ (vJ 0) (yJ (vJ 1) (yJ (vJ 7) wJ)))) itL) (gNm 0) (zGK) (zBQ) 1 [5]) wJ) allF) zUO) ((BJ (eJ isDx zQU (vJ 5) (yJ (bJ (yJ (pJ (bJ (fJ 2 xE (yJ (vJ 1) (yJ (vJ 7) wJ))) itL) (gNm 0) (zGL) (zBR) 1 []) wJ) zVM) wJ)))) (JJ))
noncomputable def zAX:AY:=(zGM)
noncomputable def zBS:AY:=(CJ (bJ (yJ (vJ 5) wJ) zQW) 6)
noncomputable def zGN:AY:=(FJ (bJ (vJ 4) itT) (gNm 7) (zAX))
noncomputable def zAY:AY:=zO (zBS) ((zGN))
noncomputable def dQ:AZ:=(bJ (dJ ltF (vJ 6) (bJ (yJ (vJ 5) wJ) zQW)) asB)
def zET:AF:=(CJ (dJ ixF (vJ 1) (kJ (.int 1))) 3)
def zEU:AF:=(CJ (dJ wT (tJ zDX (vJ 3) mJ (bJ (vJ 2) asI)) (tJ zDX (vJ 3) (bJ (dJ wT (vJ 2) (kJ (.int 1))) asI) mJ)) 4)
def zEV:AF:=(CJ (bJ (yJ (pJ (bJ (fJ 3 gS (yJ (vJ 0) (yJ (vJ 1) (yJ (dJ ixF (vJ 3) (vJ 2)) wJ)))) itL) (gNm 0) (zGJ) (zBP) 1 []) wJ) zVM) 5)
def zEW:AF:=(CJ (kJ (.int (-1))) 6)
def zJB:AF:=(λρ S=>gN (dQ) (zAY) 10000 ρ S)
def zJC:AF:=(AJ (vJ 5))
def zIE:AF:=zO (zET) (zO (zEU) (zO (zEV) (zO (zEW) (zO (zJB) ((zJC))))))
def cR(ds:List MV)(S:Sto):R Er:=xD (zIE (yI zBM ds) S)
def zKH:AF:=(BJ (fJ 1 yN (yJ (vJ 1) wJ)))
def zRA:AF:=(AJ (bJ (yJ (fJ 3 cR (yJ (vJ 0) (yJ (vJ 1) (yJ (vJ 2) wJ)))) wJ) zKF))
def zST:AF:=zO (zKH) ((zRA))
def zEX(ds:List MV)(S:Sto):R Er:=xD (zST (yI zCT ds) S)
def nF:AZ:=uJ
def kW:AE:=(dJ (inF false) (vJ 0) (vJ 1))
def zBT:AF:=(AJ (bJ (yJ (pJ (bJ (vJ 0) itL) (gNm 0) (nF) (kW) 1 [1]) wJ) anyF))
def cS:AF:=(zBT)
def jG(ds:List MV)(S:Sto):R Er:=xD (cS (yI ["some","others"] ds) S)
def bA:AZ:=(bJ (dJ (zKC true) (vJ 0) (vJ 1)) asB)
def zCU:AE:=(vJ 0)
def zCV:AZ:=uJ
def bB:AE:=(pJ (bJ (fJ 2 xE (yJ (vJ 1) (yJ (vJ 0) wJ))) itL) (gNm 0) (bA) (zCU) 1 [2])
noncomputable def zCW:AY:=(iJ (rJ (bJ (dJ (zKC true) (vJ 8) (vJ 5)) asB) (bJ (fJ 2 jG (yJ (vJ 7) (yJ (dJ ixF (vJ 4) (vJ 8)) wJ))) zUO)) (zO (EJ (kJ (.bl true)) (DJ zGC (vJ 5) (vJ 8))) ((BJ (eJ wH zHL (vJ 6) (yJ (vJ 8) wJ))))) (JJ))
noncomputable def gH:AY:=(zCW)
noncomputable def bC:AY:=(CJ (dJ ixF (vJ 4) (gJ wH zOA (vJ 6))) 7)
noncomputable def zCX:AY:=(FJ (bJ (yJ (bJ (yJ (vJ 4) wJ) zDY) wJ) jK) (gNm 8) (gH))
noncomputable def gI:AY:=zO (bC) ((zCX))
noncomputable def wN:AZ:=(bJ (vJ 6) zUO)
def nQ:AF:=(CJ (fJ 3 cR (yJ (vJ 0) (yJ (vJ 1) (yJ (vJ 2) wJ)))) 3)
def nR:AF:=(CJ (pJ (bJ (dJ ixF (vJ 1) (kJ (.int 1))) itT) (gNm 0) (zCV) (bB) 1 [1,3]) 4)
def nS:AF:=(CJ (d1J (vJ 2) (kJ (.bl true))) 5)
def nT:AF:=(CJ (bJ (yJ (vJ 2) wJ) cL) 6)
def zFM:AF:=(λρ S=>gN (wN) (gI) 10000 ρ S)
def zFN:AF:=(AJ (bJ (yJ (vJ 5) wJ) zGD))
def zDM:AF:=zO (nQ) (zO (nR) (zO (nS) (zO (nT) (zO (zFM) ((zFN))))))
def dR(ds:List MV)(S:Sto):R Er:=xD (zDM (yI zDI ds) S)
def zGO:AZ:=(bJ (dJ neF (vJ 0) (vJ 1)) asB)
def zGP:AE:=(bJ (yJ (vJ 1) (yJ (vJ 0) wJ)) zAU)
noncomputable def zLH:AY:=(BJ (eJ wH extF (vJ 2) (yJ (pJ (bJ (fJ 3 dR (yJ (vJ 0) (yJ (vJ 1) (yJ (vJ 3) wJ)))) itL) (gNm 0) (zGO) (zGP) 1 [3]) wJ)))
noncomputable def zHF:AY:=(zLH)
def zKI:AF:=(BJ (fJ 1 yN (yJ (vJ 1) wJ)))
def zKJ:AF:=(CJ (bJ wJ cL) 2)
def zKK:AF:=(FJ (bJ (yJ (bJ (yJ (dJ ixF (vJ 1) (kJ (.int 1))) wJ) zDY) wJ) jK) (gNm 3) (zHF))
def zRB:AF:=(AJ (bJ (yJ (vJ 2) wJ) zNW))
def zSU:AF:=zO (zKI) (zO (zKJ) (zO (zKK) ((zRB))))
def zCY(ds:List MV)(S:Sto):R Er:=xD (zSU (yI zSS ds) S)
noncomputable def zIF:AY:=(iJ (bJ (dJ (inF false) (bJ (yJ (vJ 4) (yJ (vJ 3) wJ)) zAU) (vJ 2)) asB) ((AJ (bJ (yJ (vJ 3) (yJ (vJ 4) wJ)) cL))) (JJ))
noncomputable def zJD:AY:=(zIF)
def zOC:AF:=(CJ (fJ 2 zCY (yJ (vJ 0) (yJ (vJ 1) wJ))) 2)
def zOD:AF:=(FJ (bJ (vJ 2) itL) (gTp 2 (yR (gNm 3) (yR (gNm 4) zBF))) (zJD))
def yGM:AF:=(AJ (kJ .non))
def zYF:AF:=zO (zOC) (zO (zOD) ((yGM)))
def zSV(ds:List MV)(S:Sto):R Er:=xD (zYF (yI yGL ds) S)
def cT:AF:=(iJ (bJ (dJ ltF (vJ 1) (bJ (yJ (vJ 0) wJ) zDY)) asB) ((AJ (dJ ixF (vJ 0) (vJ 1)))) (JJ))
def zKL:AF:=(AJ (kJ (.int 0)))
def zBU:AF:=zO (cT) ((zKL))
def zQ(ds:List MV)(S:Sto):R Er:=xD (zBU (yI ["_law_script","_law_k"] ds) S)
noncomputable def gP:AY:=(CJ (dJ wT (vJ 3) (dJ ixF (vJ 1) (dJ wE (vJ 0) (kJ (.int 26))))) 3)
noncomputable def gQ:AY:=(CJ (dJ kT (vJ 0) (kJ (.int 26))) 0)
noncomputable def cU:AY:=zO (gP) ((gQ))
def cV:AF:=(CJ (kJ (.str [97,98,99,100,101,102,103,104,105,106,107,108,109,110,111,112,113,114,115,116,117,118,119,120,121,122])) 1)
def cW:AF:=(CJ (dJ wT (kJ (.int 1)) (dJ wE (vJ 0) (kJ (.int 8)))) 2)
def cX:AF:=(CJ (dJ kT (vJ 0) (kJ (.int 8))) 0)
def cY:AF:=(CJ (kJ (.str [])) 3)
def cZ:AF:=(FJ (bJ (yJ (vJ 2) wJ) jK) (gNm 4) (cU))
def zEG:AF:=(AJ (bJ (yJ (vJ 3) (yJ (vJ 0) wJ)) zAU))
def zBV:AF:=zO (cV) (zO (cW) (zO (cX) (zO (cY) (zO (cZ) ((zEG))))))
def wO(ds:List MV)(S:Sto):R Er:=xD (zBV (yI zGG ds) S)
noncomputable def xL:AY:=(iJ (bJ (dJ (inF false) (vJ 4) (vJ 2)) asB) ((CJ (dJ wT (tJ zDX (vJ 4) mJ (bJ (kJ (.int 7)) asI)) (vJ 5)) 4)) (JJ))
noncomputable def yU:AY:=(xL)
noncomputable def xM:AY:=(EJ (fJ 1 wO (yJ (vJ 0) wJ)) (gTp 2 (yR (gNm 4) (yR (gNm 0) zBF))))
noncomputable def xN:AY:=(FJ (bJ (kJ (.str [97,98,99,100,101,102,103,104,105,106])) itS) (gNm 5) (yU))
noncomputable def xO:AY:=(BJ (eJ wH zHL (vJ 2) (yJ (vJ 4) wJ)))
noncomputable def wB:AY:=zO (xM) (zO (xN) ((xO)))
def wC:AF:=(CJ (bJ wJ cL) 2)
def wD:AF:=(FJ (bJ (yJ (vJ 1) wJ) jK) (gNm 3) (wB))
def hX:AF:=(AJ (vJ 2))
def wW:AF:=zO (wC) (zO (wD) ((hX)))
def xF(ds:List MV)(S:Sto):R Er:=xD (wW (yI gZ ds) S)
noncomputable def dA:AY:=(CJ (dJ wT (dJ kT (vJ 0) (dJ wT (kJ (.int 49)) (dJ zFX (kJ (.int 5)) (vJ 8)))) (dJ zFX (vJ 8) (dJ wE (dJ kT (vJ 0) (kJ (.int 49))) (kJ (.int 3))))) 9)
noncomputable def dB:AY:=(iJ (bJ (dJ eqF (vJ 8) (vJ 4)) asB) ((CJ (dJ wT (vJ 9) (dJ zFX (kJ (.int 3)) (vJ 6))) 9)) (JJ))
noncomputable def zEH:AY:=(CJ (dJ wT (vJ 7) (dJ ixF (vJ 2) (dJ wE (vJ 9) (kJ (.int 26))))) 7)
noncomputable def bD:AY:=zO (dA) (zO (dB) ((zEH)))
noncomputable def dC:AY:=(CJ (kJ (.str [])) 7)
noncomputable def dD:AY:=(FJ (bJ (yJ (vJ 3) wJ) jK) (gNm 8) (bD))
noncomputable def dE:AY:=(BJ (eJ wH zHL (vJ 5) (yJ (vJ 7) wJ)))
noncomputable def zBW:AY:=zO (dC) (zO (dD) ((dE)))
def kX:AF:=(iJ (bJ (dJ eqF (dJ wE (vJ 0) (kJ (.int 2))) (kJ (.int 0))) asB) ((AJ (fJ 2 xF (yJ (dJ kT (vJ 0) (kJ (.int 2))) (yJ (vJ 1) wJ))))) (JJ))
def zBX:AF:=(CJ (kJ (.str [97,98,99,100,101,102,103,104,105,106,107,108,109,110,111,112,113,114,115,116,117,118,119,120,121,122])) 2)
def zBY:AF:=(CJ (dJ wE (dJ zFX (dJ wE (dJ zFX (vJ 0) (kJ (.int 69621))) (kJ (.int 2147483629))) (kJ (.int 48271))) (kJ (.int 2147483647))) 0)
def zBZ:AF:=(CJ (dJ wT (kJ (.int 1)) (dJ wE (vJ 0) (kJ (.int 7)))) 3)
def zCA:AF:=(CJ (dJ wE (dJ kT (vJ 0) (kJ (.int 7))) (vJ 3)) 4)
def zCB:AF:=(CJ (bJ wJ cL) 5)
def zCC:AF:=(FJ (bJ (yJ (vJ 1) wJ) jK) (gNm 6) (zBW))
def zCD:AF:=(iJ (bJ (dJ eqF (dJ wE (dJ kT (vJ 0) (kJ (.int 49))) (kJ (.int 4))) (kJ (.int 1))) asB) ((EJ (dJ wT (dJ ixF (vJ 5) (kJ (.int 0))) (dJ ixF (vJ 2) (dJ wE (dJ kT (vJ 0) (kJ (.int 196))) (kJ (.int 26))))) (DJ zUX (vJ 5) (kJ (.int 1))))) (JJ))
def zGQ:AF:=(AJ (vJ 5))
def bE:AF:=zO (kX) (zO (zBX) (zO (zBY) (zO (zBZ) (zO (zCA) (zO (zCB) (zO (zCC) (zO (zCD) ((zGQ)))))))))
def zAZ(ds:List MV)(S:Sto):R Er:=xD (bE (yI zIZ ds) S)
noncomputable def dF:AY:=(BJ (eJ wH zHL (vJ 2) (yJ (dJ wE (vJ 3) (kJ (.int 1000000))) wJ)))
noncomputable def dH:AY:=(CJ (dJ kT (vJ 3) (kJ (.int 1000000))) 3)
noncomputable def bF:AY:=zO (dF) ((dH))
noncomputable def dI:AY:=(CJ (dJ wE (dJ wT (dJ wT (dJ zFX (vJ 5) (vJ 5)) (dJ zFX (kJ (.int 48271)) (vJ 5))) (vJ 4)) (kJ (.int 2147483647))) 5)
noncomputable def dL:AY:=(BJ (eJ wH zHL (vJ 2) (yJ (dJ kT (dJ wE (dJ zFX (vJ 5) (kJ (.int 69621))) (kJ (.int 2147483587))) (kJ (.int 16))) wJ)))
noncomputable def zCE:AY:=zO (dI) ((dL))
def zCF:AF:=(CJ (bJ wJ cL) 2)
def kY:AF:=(iJ (bJ (dJ eqF (dJ wE (vJ 0) (kJ (.int 2))) (kJ (.int 0))) asB) (zO (CJ (dJ kT (vJ 0) (kJ (.int 2))) 3) (zO (FJ (bJ (yJ (vJ 1) wJ) jK) (gNm 4) (bF)) ((AJ (vJ 2))))) (JJ))
def zCG:AF:=(CJ (dJ wT (dJ wE (vJ 0) (kJ (.int 2147483629))) (kJ (.int 1))) 5)
def zCH:AF:=(FJ (bJ (yJ (vJ 1) wJ) jK) (gNm 4) (zCE))
def zOE:AF:=(AJ (vJ 2))
def bG:AF:=zO (zCF) (zO (kY) (zO (zCG) (zO (zCH) ((zOE)))))
def yV(ds:List MV)(S:Sto):R Er:=xD (bG (yI zJA ds) S)
noncomputable def bH:AY:=(CJ (dJ wT (dJ wT (kJ (.int 1)) (dJ wE (vJ 3) (kJ (.int 3)))) (bJ (yJ (dJ eqF (dJ wE (dJ kT (vJ 3) (kJ (.int 3))) (kJ (.int 5))) (kJ (.int 0))) wJ) intF)) 4)
noncomputable def bI:AY:=(BJ (eJ wH zHL (vJ 2) (yJ (bJ (yJ (vJ 4) (yJ (bJ (yJ (vJ 4) (yJ (dJ ixF (bJ (yJ (kJ (.int 0)) (yJ (kJ (.int 1)) (yJ (kJ (.int 1)) (yJ (kJ (.int 1)) (yJ (kJ (.int 2)) (yJ (kJ (.int 4)) wJ)))))) cL) (dJ wE (dJ kT (vJ 3) (kJ (.int 15))) (kJ (.int 6)))) wJ)) zXY) wJ)) zAU) wJ)))
noncomputable def nU:AY:=zO (bH) ((bI))
def nV:AF:=(CJ (fJ 2 yV (yJ (vJ 0) (yJ (kJ (.int 5)) wJ))) 1)
def nW:AF:=(CJ (bJ wJ cL) 2)
def nX:AF:=(FJ (bJ (tJ zDX (vJ 1) mJ (bJ (dJ wT (kJ (.int 1)) (dJ wE (dJ ixF (vJ 1) (kJ (.int 4))) (kJ (.int 4)))) asI)) itL) (gNm 3) (nU))
def zFO:AF:=(AJ (bJ (yJ (vJ 2) wJ) cO))
def zDN:AF:=zO (nV) (zO (nW) (zO (nX) ((zFO))))
def dS(ds:List MV)(S:Sto):R Er:=xD (zDN (yI zHP ds) S)
noncomputable def bK:AY:=(EJ (fJ 1 wO (yJ (dJ kT (vJ 2) (kJ (.int 2))) wJ)) (gTp 2 (yR (gNm 6) (yR (gNm 2) zBF))))
noncomputable def kM:AY:=(iJ (bJ (dJ eqF (dJ wE (vJ 2) (kJ (.int 2))) (kJ (.int 1))) asB) (zO (CJ (dJ wT (dJ zLQ (dJ wE (dJ kT (vJ 2) (kJ (.int 2))) (dJ zLQ (dJ zFX (kJ (.int 2)) (dJ zLR (kJ (.int 10)) (kJ (.int 30)))) (kJ (.int 1)))) (dJ zLR (kJ (.int 10)) (kJ (.int 30)))) (kJ (.int 1))) 6) ((CJ (dJ kT (vJ 2) (dJ zLQ (dJ zFX (kJ (.int 2)) (dJ zLR (kJ (.int 10)) (kJ (.int 30)))) (kJ (.int 1)))) 2))) (JJ))
noncomputable def bL:AY:=(iJ (bJ (dJ (inF true) (vJ 6) (vJ 4)) asB) ((BJ (eJ wH zHL (vJ 4) (yJ (vJ 6) wJ)))) (JJ))
noncomputable def xX:AY:=zO (bK) (zO (kM) ((bL)))
def kN:AZ:=(bJ (dJ (inF true) (vJ 0) (vJ 1)) asB)
def bM:AE:=(vJ 0)
def kA:AF:=(iJ (bJ (dJ eqF (dJ wE (vJ 0) (kJ (.int 2))) (kJ (.int 0))) asB) (zO (CJ (dJ kT (vJ 0) (kJ (.int 2))) 2) (zO (CJ (dJ wT (kJ (.int 2)) (dJ wE (vJ 2) (kJ (.int 3)))) 3) (zO (CJ (dJ kT (vJ 2) (kJ (.int 3))) 2) (zO (CJ (bJ wJ cL) 4) (zO (FJ (bJ (yJ (vJ 3) wJ) jK) (gNm 5) (xX)) ((AJ (dJ wT (vJ 4) (tJ zDX (pJ (bJ (vJ 1) itL) (gNm 0) (kN) (bM) 1 [4]) mJ (bJ (dJ zLQ (kJ (.int 2)) (bJ (yJ (kJ (.int 2)) (yJ (bJ (yJ (vJ 4) wJ) zDY) wJ)) zXY)) asI)))))))))) (JJ))
def nY:AF:=(CJ (dJ wT (dJ zLQ (dJ wE (vJ 0) (dJ zLQ (dJ zFX (kJ (.int 2)) (dJ zLR (kJ (.int 10)) (kJ (.int 30)))) (kJ (.int 2)))) (dJ zLR (kJ (.int 10)) (kJ (.int 30)))) (kJ (.int 1))) 7)
def nZ:AF:=(CJ (bJ (yJ (vJ 7) (yJ (dJ wT (vJ 7) (kJ (.int 1))) (yJ (dJ ixF (vJ 1) (kJ (.int 0))) (yJ (dJ ixF (vJ 1) (kJ (.int 1))) wJ)))) cL) 8)
def zAA:AF:=(CJ (dJ wE (dJ kT (vJ 0) (kJ (.int 5))) (kJ (.int 4))) 9)
def zAB:AF:=(AJ (tJ zDX (dJ wT (tJ zDX (vJ 8) (bJ (vJ 9) asI) mJ) (tJ zDX (vJ 8) mJ (bJ (vJ 9) asI))) mJ (bJ (dJ wT (kJ (.int 2)) (dJ wE (vJ 0) (kJ (.int 3)))) asI)))
def gA:AF:=zO (kA) (zO (nY) (zO (nZ) (zO (zAA) ((zAB)))))
def dU(ds:List MV)(S:Sto):R Er:=xD (gA (yI zDJ ds) S)
def gB:AF:=(iJ (bJ (dJ eqF (dJ wE (vJ 0) (kJ (.int 6))) (kJ (.int 0))) asB) ((AJ (bJ (yJ (kJ (.str [105,115])) (yJ (dJ ixF (vJ 2) (dJ wE (dJ kT (vJ 0) (kJ (.int 6))) (bJ (yJ (vJ 2) wJ) zDY))) wJ)) zAU))) (JJ))
def zHR:AF:=(AJ (bJ (yJ (kJ (.str [118,97,114])) (yJ (dJ ixF (vJ 1) (dJ wE (dJ kT (vJ 0) (kJ (.int 6))) (bJ (yJ (vJ 1) wJ) zDY))) wJ)) zAU))
def nG:AF:=zO (gB) ((zHR))
def zCZ(ds:List MV)(S:Sto):R Er:=xD (nG (yI nE ds) S)
noncomputable def jO:AY:=(iJ (bJ (dJ eqF (dJ ixF (vJ 4) (kJ (.int 0))) (kJ (.str [118,97,114]))) asB) ((EJ (kJ (.bl true)) (DJ zGC (vJ 1) (dJ ixF (vJ 4) (kJ (.int 1)))))) (JJ))
noncomputable def kO:AY:=(jO)
noncomputable def zAP:AY:=(FJ (bJ (vJ 3) itT) (gNm 4) (kO))
noncomputable def bN:AY:=(zAP)
def bO:AF:=(CJ zJ 1)
def bP:AF:=(FJ (bJ (vJ 0) itL) (gTp 2 (yR (gNm 2) (yR (gNm 3) zBF))) (bN))
def zDA:AF:=(AJ (bJ (yJ (vJ 1) wJ) zKF))
def zAC:AF:=zO (bO) (zO (bP) ((zDA)))
def gK(ds:List MV)(S:Sto):R Er:=xD (zAC (yI zFL ds) S)
def zAQ:AZ:=uJ
def jP:AE:=(dJ wE (dJ wT (dJ kT (dJ ixF (vJ 1) (kJ (.int 0))) (kJ (.int 4))) (vJ 0)) (bJ (yJ (vJ 2) wJ) zDY))
def zAR:AZ:=uJ
def jQ:AE:=(fJ 3 zCZ (yJ (vJ 0) (yJ (vJ 1) (yJ (vJ 2) wJ))))
noncomputable def jR:AY:=(CJ (fJ 2 yV (yJ (dJ ixF (vJ 0) (dJ wT (kJ (.int 2)) (vJ 7))) (yJ (kJ (.int 4)) wJ))) 8)
noncomputable def jS:AY:=(CJ (dJ ixF (dJ ixF (vJ 1) (dJ ixF (vJ 5) (vJ 7))) (kJ (.int 0))) 9)
noncomputable def jT:AY:=(BJ (eJ wH zHL (vJ 6) (yJ (bJ (yJ (dJ ixF (vJ 5) (vJ 7)) (yJ (bJ (yJ (pJ (bJ (tJ zDX (vJ 8) mJ (bJ (vJ 9) asI)) itL) (gNm 0) (zAR) (jQ) 1 [2,3]) wJ) cO) wJ)) zAU) wJ)))
noncomputable def kP:AY:=zO (jR) (zO (jS) ((jT)))
def jU:AZ:=(bJ (dJ eqF (dJ wE (dJ kT (dJ ixF (vJ 1) (kJ (.int 1))) (dJ ixF (bJ (yJ (kJ (.int 1)) (yJ (kJ (.int 3)) (yJ (kJ (.int 9)) (yJ (kJ (.int 27)) wJ)))) cL) (vJ 0))) (kJ (.int 3))) (kJ (.int 1))) asB)
def jV:AE:=(dJ ixF (vJ 2) (vJ 0))
def bQ:AF:=(CJ (dJ wT (kJ (.int 1)) (dJ wE (dJ ixF (vJ 0) (kJ (.int 0))) (bJ (yJ (vJ 1) wJ) zDY))) 4)
def bR:AF:=(CJ (pJ (bJ (yJ (bJ (yJ (vJ 1) wJ) zDY) wJ) jK) (gNm 0) (zAQ) (jP) 1 [0,1]) 5)
def bS:AF:=(iJ (bJ (dJ eqF (dJ wE (dJ kT (dJ ixF (vJ 0) (kJ (.int 0))) (kJ (.int 16))) (kJ (.int 2))) (kJ (.int 1))) asB) ((BJ (gJ wH zXR (vJ 5)))) (JJ))
def bT:AF:=(CJ (bJ wJ cL) 6)
def bU:AF:=(FJ (bJ (yJ (vJ 4) wJ) jK) (gNm 7) (kP))
def bV:AF:=(CJ (fJ 1 gK (yJ (vJ 6) wJ)) 10)
def bW:AF:=(CJ (pJ (bJ (yJ (bJ (yJ (vJ 10) wJ) zDY) wJ) jK) (gNm 0) (jU) (jV) 1 [0,10]) 11)
def bX:AF:=(iJ (bJ (dJ eqF (dJ wE (dJ kT (dJ ixF (vJ 0) (kJ (.int 1))) (kJ (.int 81))) (kJ (.int 2))) (kJ (.int 1))) asB) ((BJ (gJ wH zXR (vJ 11)))) (JJ))
def bY:AF:=(AJ (bJ (yJ (bJ (yJ (tJ zDX (vJ 11) mJ (bJ (kJ (.int 2)) asI)) wJ) cO) (yJ (bJ (yJ (vJ 6) wJ) cO) wJ)) zAU))
def zAD:AF:=zO (bQ) (zO (bR) (zO (bS) (zO (bT) (zO (bU) (zO (bV) (zO (bW) (zO (bX) ((bY)))))))))
def kB(ds:List MV)(S:Sto):R Er:=xD (zAD (yI wZ ds) S)
noncomputable def zDB:AY:=(iJ (rJ (bJ (dJ eqF (dJ ixF (vJ 6) (kJ (.int 0))) (kJ (.str [118,97,114]))) asB) (bJ (dJ (inF false) (dJ ixF (vJ 6) (kJ (.int 1))) (dJ ixF (vJ 0) (kJ (.int 0)))) asB)) ((BJ (eJ wH zHL (vJ 5) (yJ (bJ (yJ (kJ (.str [105,115])) (yJ (vJ 1) wJ)) zAU) wJ)))) ((BJ (eJ wH zHL (vJ 5) (yJ (vJ 6) wJ)))))
noncomputable def gM:AY:=(zDB)
noncomputable def bZ:AY:=(CJ (bJ wJ cL) 5)
noncomputable def cA:AY:=(FJ (bJ (vJ 4) itT) (gNm 6) (gM))
noncomputable def cB:AY:=(BJ (eJ wH zHL (vJ 2) (yJ (bJ (yJ (vJ 3) (yJ (bJ (yJ (vJ 5) wJ) cO) wJ)) zAU) wJ)))
noncomputable def zAE:AY:=zO (bZ) (zO (cA) ((cB)))
def zAF:AF:=(CJ (bJ wJ cL) 2)
def zAG:AF:=(FJ (bJ (dJ ixF (vJ 0) (kJ (.int 1))) itT) (gTp 2 (yR (gNm 3) (yR (gNm 4) zBF))) (zAE))
def zFP:AF:=(AJ (bJ (yJ (bJ wJ zAU) (yJ (bJ (yJ (vJ 2) wJ) cO) wJ)) zAU))
def zDO:AF:=zO (zAF) (zO (zAG) ((zFP)))
def dW(ds:List MV)(S:Sto):R Er:=xD (zDO (yI zHQ ds) S)
def zDC:AZ:=uJ
def cC:AE:=(dJ wE (dJ wT (vJ 1) (vJ 0)) (vJ 2))
def zDD:AZ:=uJ
def cE:AE:=(dJ ixF (dJ ixF (vJ 1) (kJ (.int 1))) (vJ 0))
def zAH:AF:=(CJ (bJ (yJ (dJ ixF (vJ 0) (kJ (.int 1))) wJ) zDY) 2)
def zAI:AF:=(CJ (pJ (bJ (yJ (vJ 2) wJ) jK) (gNm 0) (zDC) (cC) 1 [1,2]) 3)
def zAJ:AF:=(iJ (bJ (dJ eqF (dJ wE (dJ kT (vJ 1) (kJ (.int 4))) (kJ (.int 2))) (kJ (.int 1))) asB) ((BJ (gJ wH zXR (vJ 3)))) (JJ))
def zAK:AF:=(AJ (bJ (yJ (vJ 3) (yJ (bJ (yJ (dJ ixF (vJ 0) (kJ (.int 0))) (yJ (bJ (yJ (pJ (bJ (vJ 3) itL) (gNm 0) (zDD) (cE) 1 [0]) wJ) cO) wJ)) zAU) wJ)) zAU))
def zDP:AF:=zO (zAH) (zO (zAI) (zO (zAJ) ((zAK))))
def kD(ds:List MV)(S:Sto):R Er:=xD (zDP (yI dP ds) S)
def zRC:AZ:=uJ
def zKM:AE:=(fJ 2 zQ (yJ (vJ 1) (yJ (dJ wT (kJ (.int 3)) (vJ 0)) wJ)))
def zRD:AZ:=uJ
def zKN:AE:=(bJ (yJ (dJ ixF (vJ 2) (vJ 0)) (yJ (dJ ixF (vJ 2) (vJ 1)) wJ)) zAU)
noncomputable def zKO:AY:=(iJ (bJ (dJ neF (fJ 3 zEX (yJ (vJ 2) (yJ (vJ 6) (yJ (dJ ixF (vJ 7) (vJ 10)) wJ)))) (fJ 3 zEX (yJ (vJ 2) (yJ (vJ 5) (yJ (dJ ixF (vJ 7) (vJ 10)) wJ))))) asB) ((AJ (kJ (.bl false)))) (JJ))
noncomputable def zRE:AY:=(iJ (bJ (dJ neF (fJ 3 zEX (yJ (vJ 2) (yJ (vJ 8) (yJ (vJ 10) wJ)))) (fJ 3 zEX (yJ (vJ 2) (yJ (vJ 5) (yJ (dJ ixF (vJ 7) (vJ 10)) wJ))))) asB) ((AJ (kJ (.bl false)))) (JJ))
noncomputable def zMF:AY:=zO (zKO) ((zRE))
def zKP:AZ:=uJ
def zHG:AE:=(dJ yES (fJ 2 zSV (yJ (vJ 1) (yJ (vJ 0) wJ))) (kJ .non))
def zSW:AF:=(CJ (fJ 2 zAZ (yJ (fJ 2 zQ (yJ (vJ 0) (yJ (kJ (.int 0)) wJ))) (yJ (kJ (.int 6)) wJ))) 1)
def zSX:AF:=(CJ (fJ 1 dS (yJ (fJ 2 zQ (yJ (vJ 0) (yJ (kJ (.int 1)) wJ))) wJ)) 2)
def zSY:AF:=(CJ (fJ 2 dU (yJ (fJ 2 zQ (yJ (vJ 0) (yJ (kJ (.int 2)) wJ))) (yJ (tJ zDX (vJ 1) (bJ (kJ (.int 4)) asI) mJ) wJ))) 3)
def zSZ:AF:=(CJ (pJ (bJ (yJ (kJ (.int 6)) wJ) jK) (gNm 0) (zRC) (zKM) 1 [0]) 4)
def zTA:AF:=(CJ (fJ 4 kB (yJ (vJ 4) (yJ (vJ 2) (yJ (tJ zDX (vJ 1) mJ (bJ (kJ (.int 4)) asI)) (yJ (vJ 3) wJ))))) 5)
def zTB:AF:=(CJ (fJ 2 dW (yJ (vJ 5) (yJ (dJ ixF (vJ 3) (dJ wE (fJ 2 zQ (yJ (vJ 0) (yJ (kJ (.int 9)) wJ))) (bJ (yJ (vJ 3) wJ) zDY))) wJ))) 6)
def zTC:AF:=(EJ (fJ 2 kD (yJ (vJ 5) (yJ (dJ kT (fJ 2 zQ (yJ (vJ 0) (yJ (kJ (.int 9)) wJ))) (kJ (.int 4))) wJ))) (gTp 2 (yR (gNm 7) (yR (gNm 8) zBF))))
def zTD:AF:=(CJ (fJ 2 zCY (yJ (vJ 2) (yJ (vJ 5) wJ))) 9)
def zTE:AF:=(iJ (bJ (dJ neF (fJ 2 zCY (yJ (vJ 2) (yJ (vJ 6) wJ))) (vJ 9)) asB) ((AJ (kJ (.bl false)))) (JJ))
def zOF:AF:=(iJ (bJ (dJ neF (bJ (yJ (pJ (bJ (fJ 2 zCY (yJ (vJ 2) (yJ (vJ 8) wJ))) itL) (gTp 2 (yR (gNm 0) (yR (gNm 1) zBF))) (zRD) (zKN) 2 [7]) wJ) zNW) (vJ 9)) asB) ((AJ (kJ (.bl false)))) (JJ))
def zOG:AF:=(FJ (bJ (yJ (bJ (yJ (vJ 7) wJ) zDY) wJ) jK) (gNm 10) (zMF))
def zOH:AF:=(CJ (pJ (bJ (bJ (yJ (vJ 5) (yJ (vJ 6) (yJ (vJ 8) wJ))) cL) itL) (gNm 0) (zKP) (zHG) 1 [2]) 11)
def zOI:AF:=(AJ (dJ eqF (eJ wH zKG (vJ 11) (yJ (dJ ixF (vJ 11) (kJ (.int 0))) wJ)) (kJ (.int 3))))
def yGN:AF:=zO (zSW) (zO (zSX) (zO (zSY) (zO (zSZ) (zO (zTA) (zO (zTB) (zO (zTC) (zO (zTD) (zO (zTE) (zO (zOF) (zO (zOG) (zO (zOH) ((zOI)))))))))))))
def zVW(ds:List MV)(S:Sto):R Er:=xD (yGN (yI zVV ds) S)
end
section
variable(K F:Nat->List (List Nat))(n:Nat)
inductive Kn(i:Nat):List Nat->Prop
 |key {x:List Nat}:x∈K i->Kn i x
 |step {x:List Nat} (j:Nat):j<n->j≠i->(∀y,y∈K j->Kn i y)->x∈F j->Kn i x
inductive Rc(i:Nat):Nat->Prop
 |self:Rc i i
 |step {x:List Nat} (j k:Nat):Rc i j->k<n->x∈F j->x∈F k-> ¬Kn K F n i x->Rc i k
end
theorem yLK{b:Int}(h:zXQ 0 b)(a:Int)(S:Sto):kT (.val (.int a)) (.val (.int b)) S=.ok (.val (.int (a / b))) S:=iP (show zXQ a b from h)
theorem dX{S:Sto}{l:Nat}{ds:List MV}{d:MV}(hS:S[l]? =some (.lst ds))(hz:ds.length<1000000):zHL (.val (.loc l)) [.val d] S=.ok (.val .non) (S.set l (.lst (ds++[d]))):=by
 show zIR (.val (.loc l)) S (λds=>if ds.length<sizeLine then some (ds++[d])else none)=_
 unfold zIR
 dsimp only
 rw [hS]
 dsimp only
 rw [iP (lt_of_lt_of_le hz (fits (le_refl _)))]
theorem xS{S:Sto}{l:Nat}{ds:List MV}(hS:S[l]? =some (.lst ds)):wH (.val (.loc l)) S=true:=by
 unfold wH
 rw [zBK hS];rfl
theorem yGO{S:Sto}{l:Nat}{ds:List MV}{k:Int}{j:Nat}{d:MV}{ρ:Rho}(hS:S[l]? =some (.lst ds))(hj:ixN ds.length k=some j):zUX (.val (.loc l)) (.val (.int k)) d ρ S=.ok ρ (S.set l (.lst (ds.set j d))):=by
 unfold zUX
 dsimp only
 rw [hS]
 dsimp only
 rw [hj]
theorem zHH{S:Sto}{l:Nat}{ds:List MV}(hS:S[l]? =some (.lst ds)):cO [.val (.loc l)] S=.ok (.val (.tup ds)) S:=by
 show(match jM S (.val (.loc l))with |some ds=>R.ok (Er.val (.tup ds)) S|none=>.no)=_
 rw [zBK hS]
theorem zJE(ds:List MV)(S:Sto):zDY [.val (.tup ds)] S=.ok (.val (.int ds.length)) S:=rfl
theorem zDE(gf:MV->Rho->Sto->R Rho)(ρ:Rho)(d:MV)(S:Sto):asgF gf ρ (.val d) S=(gf d ρ S).bind λρ' S2=>.ok (.next ρ') S2:=rfl
def tbl(p:Int×Int):MV:=.tup [.int p.1,.int p.2]
mutual
def pd:MV->Bool
 |.int _=>true
 |.str _=>true
 |.tup ds=>pdL ds
 |_=>false
def pdL:List MV->Bool
 |[]=>true
 |d::ds=>pd d&&pdL ds
end
mutual
def dpt:MV->Nat
 |.tup ds=>zTF ds+1
 |_=>0
def zTF:List MV->Nat
 |[]=>0
 |d::ds=>max (dpt d) (zTF ds)
end
theorem zKQ(ds:List MV):pd (.tup ds)=pdL ds:=by rw [pd]
theorem zMG:pdL []=true:=by rw [pdL]
theorem gC(d:MV)(ds:List MV):pdL (d::ds)=(pd d&&pdL ds):=by rw [pdL]
theorem zJF(ds:List MV):dpt (.tup ds)=zTF ds+1:=by rw [dpt]
theorem jH(d:MV)(ds:List MV):zTF (d::ds)=max (dpt d) (zTF ds):=by rw [zTF]
theorem zJG:zTF []=0:=by rw [zTF]
theorem zTG(i:Int):pd (.int i)=true:=by rw [pd]
theorem zCI(i:List Nat):pd (.str i)=true:=by rw [pd]
theorem zMH(i:Int):dpt (.int i)=0:=by simp [dpt]
theorem zEY(i:List Nat):dpt (.str i)=0:=by simp [dpt]
theorem zTH: ∀{ds:List MV},pdL ds=true-> ∀d∈ds,pd d=true
 |[],_,d,h=>by simp at h
 |e::ds,hp,d,h=>by
  rw [gC,aE]at hp
  rcases mC.mp h with rfl|h
  ·exact hp.1
  ·exact zTH hp.2 d h
theorem zVX: ∀{ds:List MV}, ∀d∈ds,dpt d<=zTF ds
 |[],d,h=>by simp at h
 |e::ds,d,h=>by
  rw [jH]
  rcases mC.mp h with rfl|h
  ·exact Nat.le_max_left _ _
  ·exact le_trans (zVX d h) (Nat.le_max_right _ _)
theorem zVY{d:MV}(h:pd d=true):(∃i,d=.int i)\/(∃x,d=.str x)\/ ∃ds,d=.tup ds/\pdL ds=true:=by
 cases d with
 |int i=>exact .inl ⟨i,rfl⟩
 |str x=>exact .inr (.inl ⟨x,rfl⟩)
 |tup ds=>exact .inr (.inr ⟨ds,rfl,by rw [<-zKQ];exact h⟩)
 |_=>rw [pd]at h<;>first |cases h|(intros;simp)
theorem dec_is{p:Prop}[Decidable p]{q:Prop}[Decidable q](h:p↔q):decide p=decide q:=by
 by_cases hq:q
 ·rw [dT0 hq,dT0 (h.mpr hq)]
 ·rw [dF0 hq,dF0 λz=>hq (h.mp z)]
theorem zOJ{e:MV->MV->Option Bool}: ∀{ds es:List MV},(∀d∈ds, ∀f∈es,e d f=some (decide (d=f)))-> ∃bs,prs e ds es=some bs/\(bs.all id&&ds.length==es.length)=decide (ds=es)
 |[],[],_=>⟨[],rfl,by simp⟩
 |[],_::_,_=>⟨[],rfl,by simp⟩
 |_::_,[],_=>⟨[],rfl,by simp⟩
 |d::ds,f::es,h=>by
  obtain⟨bs,h1,h2⟩:=zOJ (e:=e) (ds:=ds) (es:=es) λa ha b hb=>h a (mO _ ha) b (mO _ hb)
  refine⟨decide (d=f)::bs,?_,?_⟩
  ·unfold prs
   rw [h d mF0 f mF0,h1]
   rfl
  ·by_cases hd:d=f
   ·subst hd
    rw [all_cons,dT0 rfl]
    simp only [id,Bool.true_and,lC]
    rw [show(ds.length+1==es.length+1)=(ds.length==es.length) by simp,h2]
    exact dec_is (by simp)
   ·rw [all_cons,dF0 hd]
    rw [dF0 (show¬(d::ds=f::es)from λz=>hd (List.cons.inj z).1)]
    rfl
theorem zOK{S:Sto}: ∀(n:Nat){d e:MV},pd d=true->pd e=true->dpt d<n->eqv S n d e=some (decide (d=e))
 |0,d,e,_,_,h=>by omega
 |n+1,d,e,hd,he,h=>by
  rcases zVY hd with⟨i,rfl⟩|⟨x,rfl⟩|⟨ds,rfl,pds⟩<;>rcases zVY he with⟨j,rfl⟩|⟨y,rfl⟩|⟨es,rfl,pes⟩
  ·rw [zHD];exact congrArg some (dec_is (by simp))
  ·rw [yPS,dF0 (by simp)]
  ·rw [dF0 (by simp)];rfl
  ·rw [yPT,dF0 (by simp)]
  ·rw [zZH];exact congrArg some (dec_is (by simp))
  ·rw [dF0 (by simp)];rfl
  ·rw [dF0 (by simp)];rfl
  ·rw [dF0 (by simp)];rfl
  ·rw [zJF]at h
   obtain⟨bs,h1,h2⟩:=zOJ (e:=eqv S n) (ds:=ds) (es:=es) λa ha b hb=>zOK n (zTH pds a ha) (zTH pes b hb) (by have:=zVX a ha;omega)
   show((prs (eqv S n) ds es).map λbs=>bs.all id&&ds.length==es.length)=_
   rw [h1]
   show some (bs.all id&&ds.length==es.length)=_
   rw [h2]
   exact congrArg some (dec_is (by simp))
theorem zOL{S:Sto}{d:MV}(hd:pd d=true): ∀{ys:List MV},(∀y∈ys,pd y=true/\dpt y<40)->zUU S zN d ys=some (ys.map λy=>decide (y=d))
 |[],_=>rfl
 |y::ys,h=>by
  have h1:=h y mF0
  unfold zUU
  rw [zOK zN h1.1 hd (by unfold zN;exact h1.2),zOL hd λz hz=>h z (mO _ hz)]
  rfl
theorem yLL{n:Nat}{F:List MV->Sto->R Er}{rs:List Er}{S:Sto}{b:Bool}(hn:rs.length=n)(hF:F (zP rs S).1 (zP rs S).2=.ok (.val (.bl b)) S):yA n F rs S=.ok (.val (.bl b)) S:=zEB hn hF (yMV _ _) (λl=>by simp)
def SqM(S:Sto)(m:MV)(ds:List MV):Prop:=m=.tup ds\/ ∃l,m=.loc l/\S[l]? =some (.lst ds)
theorem SqM.len{S:Sto}{m:MV}{ds:List MV}(h:SqM S m ds):zDY [.val m] S=.ok (.val (.int ds.length)) S:=by
 rcases h with rfl|⟨l,rfl,hS⟩
 ·rfl
 ·exact zCR hS
theorem zVZ{n:Nat}{F:List MV->Sto->R Er}{rs:List Er}{S T:Sto}{r:Er}{ds:List MV}{as:List MV}{S2:Sto}(hn:rs.length=n)(hE:zP rs S=(as,S2))(hF:F as S2=.ok r (S++T))(hr:r=.new ds\/ ∃l,r=.val (.loc l)/\S.length<=l/\(S++T)[l]? =some (.lst ds))(h:loL S.length ds):yA n F rs S=.ok (.new ds) S:=by
 have hF':F (zP rs S).1 (zP rs S).2=.ok r (S++T):=by rw [hE];exact hF
 rcases hr with rfl|⟨l,rfl,h1,h2⟩
 ·exact jZ hn hF' h
 ·exact zFY hn hF' h1 h2 h
theorem yLM(neg:Bool)(p:Er)(l:Nat)(S:Sto):inF neg p (.val (.loc l)) S=zJU neg p (.val (.loc l)) S:=by
 unfold inF
 split
 ·rename_i h;cases h
 ·rfl
theorem zJH{S:Sto}{l:Nat}{d:MV}{ys:List MV}(neg:Bool)(hS:S[l]? =some (.lst ys))(hd:pd d=true)(h: ∀y∈ys,pd y=true/\dpt y<40):inF neg (.val d) (.val (.loc l)) S=.ok (.val (.bl (if neg=true then !decide (d∈ys)else decide (d∈ys)))) S:=by
 have e1:itemsOf S (.val (.loc l))=some ys:=by unfold itemsOf;exact zBK hS
 rw [yLM]
 unfold zJU
 dsimp only
 rw [e1]
 dsimp only
 rw [zOL hd h]
 dsimp only
 have ha:(ys.map λy=>decide (y=d)).any id=decide (d∈ys):=by
  rw [List.any_map]
  by_cases hm:d∈ys
  ·rw [dT0 hm,any_eq_true]
   exact⟨d,hm,by simp⟩
  ·rw [dF0 hm]
   rw [List.any_eq_false]
   intro y hy
   simp only [Function.comp,id,decide_eq_true_eq]
   rintro rfl
   exact hm hy
 rw [ha]
abbrev VAR:List Nat:=[118,97,114]
abbrev IS:List Nat:=[105,115]
def zOM(d:MV):Prop:=(∃x,d=.tup [.str VAR,.str x])\/ ∃v,((∃i,v=.int i)\/ ∃x,v=.str x)/\d=.tup [.str IS,v]
mutual
theorem zRF{n:Nat}: ∀{d:MV},pd d=true->lo n d
 |.int i,_=>zDH n i
 |.str x,_=>zJX n x
 |.tup ds,h=>nO (yGP (by rw [zKQ]at h;exact h))
 |.non,_=>zXU n
 |.bl b,_=>yMV n b
 |.scr ds,h=>by unfold pd at h;cases h
 |.loc l,h=>by unfold pd at h;cases h
 |.typ t,h=>by unfold pd at h;cases h
theorem yGP{n:Nat}: ∀{ds:List MV},pdL ds=true->loL n ds
 |[],_=>wK λd hd=>by simp at hd
 |d::ds,h=>by
  rw [gC,aE]at h
  unfold loL
  exact⟨zRF h.1,yGP h.2⟩
end
theorem yGQ{d:MV}(h:zOM d):pd d=true/\dpt d<=1:=by
 rcases h with⟨x,rfl⟩|⟨v,⟨i,rfl⟩|⟨x,rfl⟩,rfl⟩
 ·exact⟨by rw [zKQ,gC,gC,zMG,zCI,zCI];rfl,by rw [zJF,jH,jH,zJG,zEY,zEY];decide⟩
 ·exact⟨by rw [zKQ,gC,gC,zMG,zCI,zTG];rfl,by rw [zJF,jH,jH,zJG,zEY,zMH];decide⟩
 ·exact⟨by rw [zKQ,gC,gC,zMG,zCI,zCI];rfl,by rw [zJF,jH,jH,zJG,zEY,zEY];decide⟩
def vn:MV->Option (List Nat)
 |.tup [.str w,.str x]=>if w=VAR then some x else none
 |_=>none
theorem zYG(x:List Nat):vn (.tup [.str VAR,.str x])=some x:=by simp [vn]
theorem yAH(S:Sto):eqF (.val (.str VAR)) (.val (.str VAR)) S=.ok (.val (.bl true)) S:=by rw [eq_str,dT0 rfl]
theorem yGR(S:Sto):eqF (.val (.str IS)) (.val (.str VAR)) S=.ok (.val (.bl false)) S:=by rw [eq_str,dF0 (by decide)]
theorem zI(S:Sto)(o:MO):(S++[o])[S.length]? =some o:=by simp
theorem yZ(S:Sto)(o o':MO):(S++[o]).set S.length o'=S++[o']:=by simp
theorem zMI{fs:List (List Nat)}: ∀y∈fs.map MV.str,pd y=true/\dpt y<40:=λd hd=>by obtain⟨u,_,rfl⟩:=mM.mp hd;exact⟨zCI u,by rw [zEY];decide⟩
theorem yAI{x:List Nat}{fs:List (List Nat)}:MV.str x∈fs.map MV.str↔x∈fs:=⟨λh=>by obtain⟨u,hu,e⟩:=mM.mp h;cases e;exact hu,λh=>mM.mpr ⟨x,h,rfl⟩⟩
theorem zON(a b:MV)(S:Sto):ixF (.val (.tup [a,b])) (.val (.int 0)) S=.ok (.val a) S:=rfl
theorem zJI(a b:MV)(S:Sto):ixF (.val (.tup [a,b])) (.val (.int 1)) S=.ok (.val b) S:=rfl
theorem SqM.itQ{S:Sto}{m:MV}{ds:List MV}(h:SqM S m ds): ∃gs,(∀T,stay gs (S++T))/\ ∀T,itQ (.val m) (S++T)=.ok ⟨ds,gs⟩ (S++T):=by
 rcases h with rfl|⟨l,rfl,hS⟩
 ·exact⟨[],λT=>yP _,λT=>rfl⟩
 ·have hT: ∀T,(S++T)[l]? =some (.lst ds):=λT=>by rw [getElem?_append_left (gS0.mp hS).1];exact hS
  refine⟨[(l,ds)],λT=>zEC (hT T),λT=>?_⟩
  have e:srcOf (S++T) (.val (.loc l))=some ⟨true,ds,[(l,ds)]⟩:=by
   unfold srcOf
   dsimp only
   rw [hT T]
  unfold L2.M.itQ
  rw [e]
theorem zWA{kvs:List (MV×MV)}{k:MV}(h:(look kvs k).isSome=true):k∈kvs.map (·.1):=by
 unfold look at h
 rw [Option.isSome_map]at h
 obtain⟨p,hp⟩:=Option.isSome_iff_exists.mp h
 have h1:=List.find?_some hp
 exact mM.mpr ⟨p,List.mem_of_find?_eq_some hp,of_decide_eq_true h1⟩
theorem tup2(a b:MV)(S:Sto):zAU [.val a,.val b] S=.ok (.val (.tup [a,b])) S:=zSF (by simp)
theorem zKR(ds:List MV)(S:Sto):itT (.val (.tup ds)) S=.ok ⟨ds,[]⟩ S:=rfl
theorem lst1(a:MV)(S:Sto):cL [.val a] S=.ok (.new [a]) S:=zFZ (by simp)
noncomputable def zDQ(ks:List (List Nat))(x:List Nat):List (List Nat):=if x∈ks then ks else ks++[x]
theorem zWB(ks:List (List Nat))(x y:List Nat):y∈zDQ ks x↔y∈ks\/y=x:=by
 unfold zDQ
 split
 ·rename_i h
  exact⟨.inl,λz=>z.elim id λe=>e▸h⟩
 ·rw [mem_append,mS]
theorem yAJ{ks:List (List Nat)}(h:ks.Nodup)(x:List Nat):(zDQ ks x).Nodup:=by
 unfold zDQ
 split
 ·exact h
 ·rename_i hx
  exact nodup_append.mpr ⟨h,by simp,λa ha b hb=>by rw [mS.mp hb];rintro rfl;exact hx ha⟩
theorem zWC(ks:List (List Nat))(x:List Nat):(zDQ ks x).length<=ks.length+1:=by
 unfold zDQ
 split
 ·omega
 ·rw [lA,lS];omega
noncomputable def zAL(ks xs:List (List Nat)):List (List Nat):=xs.foldl zDQ ks
theorem nH: ∀(xs ks:List (List Nat))(y:List Nat),y∈zAL ks xs↔y∈ks\/y∈xs
 |[],ks,y=>by simp [zAL]
 |x::xs,ks,y=>by
  show y∈zAL (zDQ ks x) xs↔_
  rw [nH xs,zWB,mC,or_assoc]
theorem zTI: ∀(xs:List (List Nat)){ks:List (List Nat)},ks.Nodup->(zAL ks xs).Nodup
 |[],_,h=>h
 |x::xs,_,h=>zTI xs (yAJ h x)
theorem zEI: ∀(xs ks:List (List Nat)),(zAL ks xs).length<=ks.length+xs.length
 |[],ks=>le_refl _
 |x::xs,ks=>by
  have h1:=zEI xs (zDQ ks x)
  have h2:=zWC ks x
  show(zAL (zDQ ks x) xs).length<=_
  rw [lC]
  omega
def dT(ks:List (List Nat)):List (MV×MV):=ks.map λx=>(.str x,.bl true)
theorem zTJ(ks:List (List Nat)):(dT ks).map (·.1)=ks.map MV.str:=by
 unfold dT
 rw [map_map]
 rfl
theorem yAK(ks:List (List Nat))(x:List Nat):(look (dT ks) (.str x)).isSome=decide (x∈ks):=by
 by_cases h:x∈ks
 ·rw [dT0 h]
  unfold look
  rw [Option.isSome_map,List.find?_isSome]
  exact⟨(.str x,.bl true),mM.mpr ⟨x,h,rfl⟩,by simp⟩
 ·rw [dF0 h]
  cases z:(look (dT ks) (.str x)).isSome with
  |false=>rfl
  |true=>
   have:=zWA z
   rw [zTJ]at this
   exact absurd (yAI.mp this) h
theorem yGS(ks:List (List Nat))(x:List Nat):zNJ (dT ks) (.str x) (.bl true)=dT (zDQ ks x):=by
 unfold zNJ zDQ
 rw [yAK]
 by_cases h:x∈ks
 ·rw [iP h,iP (dT0 h)]
  unfold dT
  rw [map_map]
  refine List.map_congr_left λy _=>?_
  show(if MV.str y=MV.str x then(MV.str y,MV.bl true)else(MV.str y,MV.bl true))=_
  split<;>rfl
 ·rw [iN h,iN (by rw [dF0 h];exact xF0)]
  unfold dT
  rw [map_append]
  rfl
theorem zLI(ks:List (List Nat)):(dT ks).all (λp=>zIW p.1)=true:=by
 unfold dT
 rw [all_map,all_eq_true]
 intro x _
 rfl
theorem zGR{S:Sto}{l:Nat}{kvs:List (MV×MV)}(h:S[l]? =some (.dic kvs))(ha:kvs.all (λp=>zIW p.1)=true):zIX S (.val (.loc l))=some (l,kvs):=by
 unfold zIX
 dsimp only
 rw [h]
 dsimp only
 rw [iP ha]
theorem yAL{S:Sto}{l:Nat}{ks:List (List Nat)}(h:S[l]? =some (.dic (dT ks)))(hl:ks.length<1000000)(x:List Nat)(ρ:Rho):zGC (.val (.loc l)) (.val (.str x)) (.bl true) ρ S=.ok ρ (S.set l (.dic (dT (zDQ ks x)))):=by
 unfold zGC
 dsimp only
 rw [zGR h (zLI ks)]
 dsimp only
 rw [iP ⟨rfl,by unfold dT;rw [lM];exact hl⟩,yGS]
theorem yGT{S:Sto}{l:Nat}{ks:List (List Nat)}(h:S[l]? =some (.dic (dT ks))):zGD [.val (.loc l)] S=.ok (.new (ks.map MV.str)) S:=by
 unfold zGD
 dsimp only
 rw [zGR h (zLI ks)]
 dsimp only
 rw [zTJ]
abbrev D4(m:MV)(n:Nat)(a t:Option MV):Rho:=[some m,some (.loc n),a,t]
theorem zKS{S:Sto}{m:MV}{a:Option MV}: ∀(tms:List MV),(∀d∈tms,zOM d)-> ∀(ks:List (List Nat))(t:Option MV),ks.length+tms.length<1000->
  ∃t',kS (gNm 3) zAW [] tms (D4 m S.length a t) (S++[.dic (dT ks)])=.ok (.next (D4 m S.length a t')) (S++[.dic (dT (zAL ks (tms.filterMap vn)))])
 |[],_,ks,t,_=>⟨t,rfl⟩
 |d::tms,hT,ks,t,hl=>by
  rw [lC]at hl
  rcases hT d mF0 with⟨x,rfl⟩|⟨v,hv,rfl⟩
  ·have hal:=zWC ks x
   obtain⟨t',ih⟩:=zKS (S:=S) (m:=m) (a:=a) tms (λe he=>hT e (mO _ he)) (zDQ ks x) (some (.tup [.str VAR,.str x])) (by omega)
   refine⟨t',?_⟩
   rw [zW (show gNm 3 (.tup [.str VAR,.str x]) (D4 m S.length a t) (S++[.dic (dT ks)])=.ok (D4 m S.length a (some (.tup [.str VAR,.str x]))) (S++[.dic (dT ks)])from rfl) (ρ':=D4 m S.length a (some (.tup [.str VAR,.str x]))) (S':=S++[.dic (dT (zDQ ks x))]) ?_ (yP _)]
   ·rw [filterMap_cons,zYG]
    exact ih
   ·unfold zAW zBN
    simp? [zON,zJI,yAH,zDE,yAL (zI S (.dic (dT ks))) (show ks.length<1000000 by omega),yZ]
  ·obtain⟨t',ih⟩:=zKS (S:=S) (m:=m) (a:=a) tms (λe he=>hT e (mO _ he)) ks (some (.tup [.str IS,v])) (by omega)
   have hv0:vn (.tup [.str IS,v])=none:=by
    cases v with
    |str y=>simp [vn]
    |_=>rfl
   refine⟨t',?_⟩
   rw [zW (show gNm 3 (.tup [.str IS,v]) (D4 m S.length a t) (S++[.dic (dT ks)])=.ok (D4 m S.length a (some (.tup [.str IS,v]))) (S++[.dic (dT ks)])from rfl) (ρ':=D4 m S.length a (some (.tup [.str IS,v]))) (S':=S++[.dic (dT ks)]) ?_ (yP _)]
   ·rw [filterMap_cons,hv0]
    exact ih
   ·unfold zAW zBN
    simp? [zON,zJI,yGR,fT,iF]
noncomputable def nmL(tms:List MV):List (List Nat):=zAL [] (tms.filterMap vn)
theorem yLN{tm0:MV}{tms:List MV}(hT: ∀d∈tms,zOM d)(hl:tms.length<=100)(S:Sto):yA 1 cP [.new [.tup [tm0,.tup tms]]] S=.ok (.new ((nmL tms).map MV.str)) S:=by
 obtain⟨S1,hS1⟩: ∃S1:Sto,S1=S++[.lst [.tup [tm0,.tup tms]]]:=⟨_,rfl⟩
 have hq:S1[S.length]? =some (.lst [.tup [tm0,.tup tms]]):=by rw [hS1];exact zI _ _
 obtain⟨gs,hg,hit⟩:=(show SqM S1 (.loc S.length) [.tup [tm0,.tup tms]]from .inr ⟨_,rfl,hq⟩).itQ
 obtain⟨t',h4⟩:=zKS (S:=S1) (m:=.loc S.length) (a:=some (.tup [tm0,.tup tms])) tms hT [] none (by simp only [length_nil];omega)
 have hs:yI zID [.loc S.length]=[some (.loc S.length),none,none,none]:=rfl
 have e1:zEP [some (.loc S.length),none,none,none] S1=.ok (.next (D4 (.loc S.length) S1.length none none)) (S1++[.dic (dT [])]):=by
  unfold zEP
  simp? [zUZ]
  rfl
 have hb:zEO (D4 (.loc S.length) S1.length (some (.tup [tm0,.tup tms])) none) (S1++[.dic (dT [])])=.ok (.next (D4 (.loc S.length) S1.length (some (.tup [tm0,.tup tms])) t')) (S1++[.dic (dT (nmL tms))]):=by
  unfold zEO zGH
  simp? [zJI,zKR]
  exact h4
 have e2:zEQ (D4 (.loc S.length) S1.length none none) (S1++[.dic (dT [])])=.ok (.next (D4 (.loc S.length) S1.length (some (.tup [tm0,.tup tms])) t')) (S1++[.dic (dT (nmL tms))]):=by
  unfold zEQ
  simp? [hit]
  rw [zW (show gNm 2 (.tup [tm0,.tup tms]) (D4 (.loc S.length) S1.length none none) (S1++[.dic (dT [])])=.ok (D4 (.loc S.length) S1.length (some (.tup [tm0,.tup tms])) none) (S1++[.dic (dT [])])from rfl) hb (hg _)]
  rfl
 have e3:zER (D4 (.loc S.length) S1.length (some (.tup [tm0,.tup tms])) t') (S1++[.dic (dT (nmL tms))])=.ok (.ret (.new ((nmL tms).map MV.str))) (S1++[.dic (dT (nmL tms))]):=by
  unfold zER
  simp? [yGT (zI S1 (.dic (dT (nmL tms))))]
 refine jZ (T:=[.lst [.tup [tm0,.tup tms]],.dic (dT (nmL tms))]) rfl ?_ (wK λd hd=>by
  obtain⟨y,_,rfl⟩:=mM.mp hd
  exact zJX _ _)
 show cP [.loc S.length] (S++[.lst [.tup [tm0,.tup tms]]])=_
 rw [<-hS1]
 unfold cP zOB
 rw [hs,zD e1,zD e2,e3,hS1,aA]
 rfl
theorem zLJ{S:Sto}{gf:MV->Rho->Sto->R Rho}{cf:AZ}{ef:AX}{ρb:Rho}{gs:List (Nat×List MV)}{p:MV->Bool}(hs:stay gs S):
  ∀{ds:List MV},(∀d∈ds, ∃ρ1,gf d ρb S=.ok ρ1 S/\cf ρ1 S=.ok (p d) S/\ef ρ1 S=.ok (.val d) S)->yY gf cf ef ρb gs ds S=.ok (ds.filter p) S
 |[],_=>rfl
 |d::ds,st=>by
  obtain⟨ρ1,h1,h2,h3⟩:=st d mF0
  have e:=zLJ hs (p:=p) (ds:=ds) λd hd=>st d (mO _ hd)
  unfold yY
  cases hp:p d with
  |true=>
   rw [h1,xC,bok,h2,xC,bok,hp,iP rfl,h3,xC,bok]
   unfold nN
   rw [bok,iP hs,e,List.filter_cons_of_pos hp]
   rfl
  |false=>
   rw [h1,xC,bok,h2,xC,bok,hp,iN xF0,iP hs,e,List.filter_cons_of_neg (by rw [hp];exact xF0)]
theorem yLO(neg:Bool)(p:Er)(ds:List MV)(S:Sto):inF neg p (.val (.tup ds)) S=zJU neg p (.val (.tup ds)) S:=by
 unfold inF
 split<;>first |rfl|(rename_i h;cases h)
theorem yGU{S:Sto}{x:List Nat}{fs:List (List Nat)}(neg:Bool):inF neg (.val (.str x)) (.val (.tup (fs.map MV.str))) S=.ok (.val (.bl (if neg=true then !decide (x∈fs)else decide (x∈fs)))) S:=by
 have e1:itemsOf S (.val (.tup (fs.map MV.str)))=some (fs.map MV.str):=rfl
 rw [yLO]
 unfold zJU
 dsimp only
 rw [e1]
 dsimp only
 rw [zOL (zCI x) zMI]
 dsimp only
 have h:((fs.map MV.str).map λy=>decide (y=MV.str x)).any id=decide (x∈fs):=by
  rw [List.any_map]
  by_cases hm:x∈fs
  ·rw [dT0 hm,any_eq_true]
   exact⟨.str x,mM.mpr ⟨x,hm,rfl⟩,by simp⟩
  ·rw [dF0 hm,List.any_eq_false]
   intro y hy
   obtain⟨z,hz,rfl⟩:=mM.mp hy
   simp only [Function.comp,id,decide_eq_true_eq]
   intro e
   cases e
   exact hm hz
 rw [h]
noncomputable def fnL(hs:List (List Nat))(tms:List MV):List (List Nat):=(nmL tms).filter λx=>!decide (x∈hs)
theorem yAM{hs:List (List Nat)}{at' tm0:MV}{tms:List MV}(hT: ∀d∈tms,zOM d)(hl:tms.length<=100)(S:Sto):yA 2 xE [.val (.tup [.tup (hs.map MV.str),at']),.val (.tup [tm0,.tup tms])] S=.ok (.new ((fnL hs tms).map MV.str)) S:=by
 have hnl:(nmL tms).length<=tms.length:=by
  have h1:=zEI (tms.filterMap vn) []
  have h2:=List.length_filterMap_le vn tms
  rw [length_nil]at h1
  unfold nmL
  omega
 have hcf:=zLJ (S:=S) (gf:=gNm 0) (cf:=cQ) (ef:=zEF) (ρb:=[none,some (.tup [.tup (hs.map MV.str),at'])]) (gs:=[]) (p:=λd=>match d with |.str x=>!decide (x∈hs)|_=>false) (yP S) (ds:=(nmL tms).map MV.str) λd hd=>by
  obtain⟨y,hy,rfl⟩:=mM.mp hd
  refine⟨[some (.str y),some (.tup [.tup (hs.map MV.str),at'])],rfl,?_,rfl⟩
  unfold cQ
  simp? [zON,yGU,if_true]
 have hfm:((nmL tms).map MV.str).filter (λd=>match d with |.str x=>!decide (x∈hs)|_=>false)=(fnL hs tms).map MV.str:=by
  unfold fnL
  rw [List.filter_map]
  rfl
 rw [hfm]at hcf
 have hlt:((nmL tms).map MV.str).length<1000000:=by rw [lM];omega
 refine jZ (T:=[]) rfl ?_ (wK λd hd=>by
  obtain⟨y,_,rfl⟩:=mM.mp hd
  exact zJX _ _)
 rw [aN]
 show xD (zES [some (.tup [.tup (hs.map MV.str),at']),some (.tup [tm0,.tup tms])] S)=_
 have e1:zBO [some (.tup [.tup (hs.map MV.str),at']),some (.tup [tm0,.tup tms])] S=.ok (.ret (.new ((fnL hs tms).map MV.str))) S:=by
  unfold zBO
  simp? [lst1,yLN hT hl,show∀(ds:List MV)(S:Sto),itL (.new ds) S=.ok ⟨ds,[]⟩ S from λ_ _=>rfl,hlt,show blk 1 [0] [some (MV.tup [.tup (hs.map MV.str),at']),some (.tup [tm0,.tup tms])]=[none,some (.tup [.tup (hs.map MV.str),at'])]from rfl,hcf]
 unfold zES
 rw [e1]
 rfl
theorem zOO{hs:List (List Nat)}{tms:List MV}{x:List Nat}:x∈fnL hs tms↔x∈tms.filterMap vn/\x∉hs:=by
 unfold fnL nmL
 rw [mem_filter,nH]
 simp
theorem yAN(ds:List MV)(l h:Option Int)(S:Sto):zDX (.val (.tup ds)) l h S=.ok (.val (.tup (gT ds l h))) S:=rfl
theorem yQY{ts:List (Int×Int)}{t:Int}{p:Int×Int}{hs:List (List Nat)}{at':MV}{tms:List MV}(hd:atI (ts.map tbl) t=some (tbl p))(h0:0<=p.2)(hT: ∀d∈tms,zOM d)(hl:tms.length<=100)(S:Sto):
  yA 3 gS [.val (.tup (ts.map tbl)),.val (.tup [.tup (hs.map MV.str),at']),.val (.tup [.int t,.tup tms])] S=.ok (.new ((fnL hs (tms.take p.2.toNat)).map MV.str)) S:=by
 refine jZ (T:=[]) rfl ?_ (wK λd hd=>by
  obtain⟨y,_,rfl⟩:=mM.mp hd
  exact zJX _ _)
 rw [aN]
 show xD (zGI [some (.tup (ts.map tbl)),some (.tup [.tup (hs.map MV.str),at']),some (.tup [.int t,.tup tms]),none] S)=_
 have e1:zDK [some (.tup (ts.map tbl)),some (.tup [.tup (hs.map MV.str),at']),some (.tup [.int t,.tup tms]),none] S=.ok (.next [some (.tup (ts.map tbl)),some (.tup [.tup (hs.map MV.str),at']),some (.tup [.int t,.tup tms]),some (.int p.2)]) S:=by
  unfold zDK
  simp? [zON,ix_tup (S:=S) hd,show∀S:Sto,ixF (.val (tbl p)) (.val (.int 1)) S=.ok (.val (.int p.2)) S from λ_=>rfl]
 have hf:=yAM (hs:=hs) (at':=at') (tm0:=.int t) (tms:=tms.take p.2.toNat) (λd hd=>hT d (mem_of_mem_take hd)) (by rw [lT];omega) S
 have e2:zDL [some (.tup (ts.map tbl)),some (.tup [.tup (hs.map MV.str),at']),some (.tup [.int t,.tup tms]),some (.int p.2)] S=.ok (.ret (.new ((fnL hs (tms.take p.2.toNat)).map MV.str))) S:=by
  unfold zDL
  simp? [zON,zJI,yAN,zCS _ _ h0,tup2,hf]
 unfold zGI
 rw [zD e1,e2]
 rfl
theorem yLP{hs:List (List Nat)}{tms:List MV}{k:Nat}{x:List Nat}(h:x∈fnL hs (tms.take k)):x∈fnL hs tms:=by
 rw [zOO]at h ⊢
 refine⟨?_,h.2⟩
 obtain⟨d,hd,e⟩:=mem_filterMap.mp h.1
 exact mem_filterMap.mpr ⟨d,mem_of_mem_take hd,e⟩
theorem kE{α:Type}{f g:α->MV}{S:Sto}{gf:MV->Rho->Sto->R Rho}{cf:AZ}{ef:AX}{ρb:Rho}{gs:List (Nat×List MV)}(hs:stay gs S):
  ∀{ds:List α},(∀d∈ds, ∃ρ1,gf (f d) ρb S=.ok ρ1 S/\cf ρ1 S=.ok true S/\ef ρ1 S=.ok (.val (g d)) S)->yY gf cf ef ρb gs (ds.map f) S=.ok (ds.map g) S
 |[],_=>rfl
 |d::ds,st=>by
  obtain⟨ρ1,h1,h2,h3⟩:=st d mF0
  have e:=kE hs (f:=f) (g:=g) (ds:=ds) λd hd=>st d (mO _ hd)
  rw [map_cons]
  unfold yY
  rw [h1,xC,bok,h2,xC,bok,iP rfl,h3,xC,bok]
  unfold nN
  rw [bok,iP hs,e]
  rfl
theorem zYH{α:Type}(f:α->Bool): ∀xs:List α,zDZ (xs.map λx=>.bl (f x))=some (xs.map f)
 |[]=>rfl
 |x::xs=>by rw [map_cons,map_cons];unfold zDZ;rw [zYH f xs];rfl
theorem yAO{α:Type}(f:α->Bool)(xs:List α)(S:Sto):allF [.new (xs.map λx=>.bl (f x))] S=.ok (.val (.bl (xs.all f))) S:=by
 show(match (some (xs.map λx=>MV.bl (f x))).bind zDZ with |some bs=>R.ok (Er.val (.bl (bs.all id))) S|none=>.no)=_
 rw [show(some (xs.map λx=>MV.bl (f x))).bind zDZ=some (xs.map f)from zYH f xs]
 show R.ok (Er.val (.bl ((xs.map f).all id))) S=_
 rw [all_map]
 rfl
theorem yLQ{α:Type}(f:α->Bool)(xs:List α)(S:Sto):anyF [.new (xs.map λx=>.bl (f x))] S=.ok (.val (.bl (xs.any f))) S:=by
 show(match (some (xs.map λx=>MV.bl (f x))).bind zDZ with |some bs=>R.ok (Er.val (.bl (bs.any id))) S|none=>.no)=_
 rw [show(some (xs.map λx=>MV.bl (f x))).bind zDZ=some (xs.map f)from zYH f xs]
 show R.ok (Er.val (.bl ((xs.map f).any id))) S=_
 rw [List.any_map]
 rfl
theorem yDA{α:Type}(ds:List α)(j:Nat):gT ds none (some (j:Int))=ds.take j:=by
 unfold gT
 rw [HT.sIx_nat,show HT.sIx ds.length 0 none=0 from rfl,drop_zero,sub_zero]
 by_cases h:j<=ds.length
 ·rw [min_eq_left h]
 ·rw [Nat.min_eq_right (by omega),take_of_length_le (le_refl _),take_of_length_le (by omega)]
theorem zKT{α:Type}(ds:List α)(j:Nat):gT ds (some (j:Int)) none=ds.drop j:=by
 unfold gT
 rw [HT.sIx_nat,show HT.sIx ds.length ds.length none=ds.length from rfl]
 by_cases h:j<=ds.length
 ·rw [min_eq_left h,take_of_length_le (by rw [length_drop];exact le_refl _)]
 ·rw [Nat.min_eq_right (by omega),drop_of_length_le (le_refl _),drop_of_length_le (show ds.length<=j by omega),List.take_nil]
theorem zTK{α β:Type}(f:α->β)(xs:List α)(i:Int):atI (xs.map f) i=(atI xs i).map f:=by
 unfold atI
 rw [lM]
 cases ixN xs.length i with
 |none=>rfl
 |some j=>exact getElem?_map
theorem nI{α:Type}{xs:List α}{k:Nat}{x:α}(h:xs[k]? =some x):atI xs (k:Int)=some x:=L2.atI_nat h
abbrev prT(x:List Nat):MV:=.tup [.str x,.bl true]
theorem zWD: ∀xs:List (List Nat),zGE (xs.map prT)=some (dT xs)
 |[]=>rfl
 |x::xs=>by
  rw [map_cons]
  unfold zGE
  rw [iP (show zIW (.str x)=true from rfl),zWD xs]
  rfl
theorem zTL: ∀(xs ks:List (List Nat)),yAF (dT ks) (dT xs)=dT (zAL ks xs)
 |[],ks=>rfl
 |x::xs,ks=>by
  show yAF (zNJ (dT ks) (.str x) (.bl true)) (dT xs)=dT (zAL (zDQ ks x) xs)
  rw [yGS,zTL xs]
theorem yAP(xs:List (List Nat))(S:Sto):zVM [.new (xs.map prT)] S=.ok (.val (.loc S.length)) (S++[.dic (dT (zAL [] xs))]):=by
 show(match zGE (xs.map prT)with |some kvs=>R.ok (Er.val (.loc S.length)) (S++[MO.dic (yGG kvs)])|none=>.no)=_
 rw [zWD]
 show R.ok (Er.val (.loc S.length)) (S++[MO.dic (yAF (dT []) (dT xs))])=_
 rw [zTL]
theorem yGV{S:Sto}{l:Nat}{ks:List (List Nat)}(neg:Bool)(h:S[l]? =some (.dic (dT ks)))(x:List Nat):zKC neg (.val (.str x)) (.val (.loc l)) S=.ok (.val (.bl (if neg=true then !decide (x∈ks)else decide (x∈ks)))) S:=by
 unfold zKC
 dsimp only
 rw [zGR h (zLI ks)]
 dsimp only
 rw [iP (show zIW (.str x)=true from rfl),yAK]
theorem yAQ{S:Sto}{l:Nat}{ks:List (List Nat)}(h:S[l]? =some (.dic (dT ks))):zQW [.val (.loc l)] S=.ok (.val (.int ks.length)) S:=by
 unfold zQW
 dsimp only
 rw [zGR h (zLI ks)]
 dsimp only
 rw [show(dT ks).length=ks.length by unfold dT;rw [lM]]
theorem yLR{S:Sto}{l:Nat}{ks:List (List Nat)}(h:S[l]? =some (.dic (dT ks))):isDx (.val (.loc l)) S=true:=by
 unfold isDx
 rw [zGR h (zLI ks)]
 rfl
theorem yLS{S:Sto}{l m:Nat}{ks xs:List (List Nat)}(h:S[l]? =some (.dic (dT ks)))(h2:S[m]? =some (.dic (dT xs)))(hne:l≠m)(hl:ks.length+xs.length<1000000):zQU (.val (.loc l)) [.val (.loc m)] S=.ok (.val .non) (S.set l (.dic (dT (zAL ks xs)))):=by
 unfold zQU
 dsimp only
 rw [zGR h (zLI ks)]
 dsimp only
 rw [zGR h2 (zLI xs)]
 dsimp only
 rw [iP ⟨hne,by rw [show(dT ks).length=ks.length by unfold dT;rw [lM],show(dT xs).length=xs.length by unfold dT;rw [lM]];exact hl⟩,zTL]
def aM(a:Int×List MV):MV:=.tup [.int a.1,.tup a.2]
abbrev qM(hs:List (List Nat))(as:List (Int×List MV)):MV:=.tup [.tup (hs.map MV.str),.tup (as.map aM)]
structure AOk(ts:List (Int×Int))(a:Int×List MV):Prop where
 tb: ∃p,atI ts a.1=some p/\0<=p.2
 tm: ∀d∈a.2,zOM d
 len:a.2.length<=4
noncomputable def kyL(ts:List (Int×Int))(hs:List (List Nat))(a:Int×List MV):List (List Nat):=fnL hs (a.2.take ((atI ts a.1).getD (0,0)).2.toNat)
noncomputable abbrev frL(hs:List (List Nat))(a:Int×List MV):List (List Nat):=fnL hs a.2
theorem yGW{ts:List (Int×Int)}{hs:List (List Nat)}{d:MV}{a:Int×List MV}(h:AOk ts a)(S:Sto):yA 3 gS [.val (.tup (ts.map tbl)),.val (.tup [.tup (hs.map MV.str),d]),.val (aM a)] S=.ok (.new ((kyL ts hs a).map MV.str)) S:=by
 obtain⟨p,hp,h0⟩:=h.tb
 have e:=yQY (ts:=ts) (t:=a.1) (p:=p) (hs:=hs) (at':=d) (tms:=a.2) (by rw [zTK,hp];rfl) h0 h.tm (by have:=h.len;omega) S
 unfold kyL
 rw [hp]
 exact e
theorem yNB{ts:List (Int×Int)}{hs:List (List Nat)}{d:MV}{a:Int×List MV}(h:AOk ts a)(S:Sto):yA 2 xE [.val (.tup [.tup (hs.map MV.str),d]),.val (aM a)] S=.ok (.new ((frL hs a).map MV.str)) S:=yAM h.tm (by have:=h.len;omega) S
theorem yGX(hs:List (List Nat))(tms:List MV):(fnL hs tms).length<=tms.length:=by
 have h1:=zEI (tms.filterMap vn) []
 have h2:=List.length_filterMap_le vn tms
 have h3:=length_filter_le (λx=>!decide (x∈hs)) (nmL tms)
 rw [length_nil]at h1
 unfold fnL
 unfold nmL at h3 ⊢
 omega
theorem zKU{ts:List (Int×Int)}{hs:List (List Nat)}{a:Int×List MV}(h:AOk ts a):(frL hs a).length<=4:=le_trans (yGX hs a.2) h.len
theorem yGY{ts:List (Int×Int)}{hs:List (List Nat)}{a:Int×List MV}(h:AOk ts a):(kyL ts hs a).length<=4:=le_trans (yGX hs _) (by rw [lT];have:=h.len;omega)
theorem zDR{α:Type}[DecidableEq α]: ∀{ks U:List α},ks.Nodup->(∀x∈ks,x∈U)->ks.length<=U.length
 |[],_,_,_=>zero_le _
 |x::ks,U,hn,h=>by
  rw [nodup_cons]at hn
  have hx:=h x mF0
  have ih:=zDR (ks:=ks) (U:=U.erase x) hn.2 λy hy=>(List.mem_erase_of_ne (show y≠x from λe=>hn.1 (e▸hy))).mpr (h y (mO _ hy))
  rw [List.length_erase_of_mem hx]at ih
  have:=List.length_pos_of_mem hx
  rw [lC]
  omega
theorem zEZ(S T:Sto)(o:MO):(S++o::T)[S.length]? =some o:=by simp
theorem yAR(S T:Sto)(o o':MO):(S++o::T).set S.length o'=S++o'::T:=by simp
theorem zFA(ds:List MV)(S:Sto):itL (.new ds) S=.ok ⟨ds,[]⟩ S:=rfl
noncomputable def stK(ts:List (Int×Int))(hs ks:List (List Nat))(a:Int×List MV):List (List Nat):=if(kyL ts hs a).all (λx=>decide (x∈ks))=true then zAL ks (zAL [] (frL hs a))else ks
abbrev KA(ts:List (Int×Int))(q:MV)(i:Nat)(as oth:List MV)(l:Nat)(b:Int)(o:Option MV):Rho:=[some (.tup (ts.map tbl)),some q,some (.int i),some (.tup as),some (.tup oth),some (.loc l),some (.int b),o]
theorem yLT{ts:List (Int×Int)}{hs:List (List Nat)}{qd:MV}{i:Nat}{as oth:List MV}{b:Int}{a:Int×List MV}(h:AOk ts a)(S T:Sto){ks:List (List Nat)}(hl:ks.length<=1000):
  ∃T',zAX (KA ts (.tup [.tup (hs.map MV.str),qd]) i as oth S.length b (some (aM a))) (S++.dic (dT ks)::T)=.ok (.next (KA ts (.tup [.tup (hs.map MV.str),qd]) i as oth S.length b (some (aM a)))) (S++.dic (dT (stK ts hs ks a))::T'):=by
 obtain⟨S1,hS1⟩: ∃S1:Sto,S1=S++.dic (dT ks)::T:=⟨_,rfl⟩
 have hat:S1[S.length]? =some (.dic (dT ks)):=by rw [hS1];exact zEZ _ _ _
 have hc1:yY (gNm 0) zGK zBQ [none,some (.loc S.length)] [] ((kyL ts hs a).map MV.str) S1=.ok ((kyL ts hs a).map λx=>.bl (decide (x∈ks))) S1:=
  kE (yP _) λx _=>⟨[some (.str x),some (.loc S.length)],rfl,rfl,by
   unfold zBQ
   simp? [yGV false hat x,fT,iF]⟩
 have hk:((kyL ts hs a).map MV.str).length<1000000:=by rw [lM];have:=yGY (hs:=hs) h;omega
 have hf:((frL hs a).map MV.str).length<1000000:=by rw [lM];have:=zKU (hs:=hs) h;omega
 have hc2:yY (gNm 0) zGL zBR [none] [] ((frL hs a).map MV.str) S1=.ok ((frL hs a).map prT) S1:=
  kE (yP _) λx _=>⟨[some (.str x)],rfl,rfl,by
   unfold zBR
   simp? [tup2]⟩
 have hb1: ∀a b c d e f g h:Option MV,blk 1 [5] [a,b,c,d,e,f,g,h]=[none,f]:=λ_ _ _ _ _ _ _ _=>rfl
 have hb2: ∀a b c d e f g h:Option MV,blk 1 [] [a,b,c,d,e,f,g,h]=[none]:=λ_ _ _ _ _ _ _ _=>rfl
 unfold zAX zGM
 rw [<-hS1]
 unfold stK
 by_cases hq:(kyL ts hs a).all (λx=>decide (x∈ks))=true
 ·have hin:(S1++[.dic (dT (zAL [] (frL hs a)))])[S.length]? =some (.dic (dT ks)):=by rw [getElem?_append_left (gS0.mp hat).1];exact hat
  have hne:S.length≠S1.length:=by rw [hS1,lA,lC];omega
  have hlen:ks.length+(zAL [] (frL hs a)).length<1000000:=by
   have:=zEI (frL hs a) []
   have:=zKU (hs:=hs) h
   rw [length_nil]at *
   omega
  refine⟨T++[.dic (dT (zAL [] (frL hs a)))],?_⟩
  rw [iP hq]
  simp? [yGW h,zFA,hk,hb1,hc1,yAO,hq,yLR hat,yNB h,hf,hb2,hc2,yAP,yLS hin (zI _ _) hne hlen]
  rw [hS1,aA,cons_append,yAR]
 ·refine⟨T,?_⟩
  rw [iN hq, <-hS1]
  simp? [yGW h,zFA,hk,hb1,hc1,yAO,hq,fT,iF]
theorem yAS(ts:List (Int×Int))(hs ks:List (List Nat))(a:Int×List MV): ∃t,stK ts hs ks a=ks++t:=by
 have h1: ∀(xs ks:List (List Nat)), ∃t,zAL ks xs=ks++t:=by
  intro xs
  induction xs with
  |nil=>exact λks=>⟨[],(aN _).symm⟩
  |cons x xs ih=>
   intro ks
   obtain⟨t,e⟩:=ih (zDQ ks x)
   show∃t,zAL (zDQ ks x) xs=ks++t
   rw [e]
   unfold zDQ
   split
   ·exact⟨t,rfl⟩
   ·exact⟨x::t,by rw [aA];rfl⟩
 unfold stK
 split
 ·exact h1 _ _
 ·exact⟨[],(aN _).symm⟩
theorem zTM(ts:List (Int×Int))(hs:List (List Nat)): ∀(oth:List (Int×List MV))(ks:List (List Nat)), ∃t,oth.foldl (stK ts hs) ks=ks++t
 |[],ks=>⟨[],(aN _).symm⟩
 |a::oth,ks=>by
  obtain⟨t,e⟩:=yAS ts hs ks a
  obtain⟨u,e2⟩:=zTM ts hs oth (stK ts hs ks a)
  exact⟨t++u,by rw [foldl_cons,e2,e,aA]⟩
theorem zWE(ts:List (Int×Int))(hs:List (List Nat)): ∀(oth:List (Int×List MV))(ks:List (List Nat)),oth.foldl (stK ts hs) ks=ks-> ∀a∈oth,stK ts hs ks a=ks
 |[],_,_,a,ha=>by simp at ha
 |c::oth,ks,h,a,ha=>by
  rw [foldl_cons]at h
  obtain⟨t,e⟩:=yAS ts hs ks c
  obtain⟨u,e2⟩:=zTM ts hs oth (stK ts hs ks c)
  have e3:ks++(t++u)=ks++[]:=by rw [aN, <-aA, <-e, <-e2,h]
  have e4:t=[]:=(List.append_eq_nil_iff.mp (List.append_cancel_left e3)).1
  have e5:stK ts hs ks c=ks:=by rw [e,e4,aN]
  rcases mC.mp ha with rfl|ha
  ·exact e5
  ·rw [e5]at h
   exact zWE ts hs oth ks h a ha
theorem yQZ{ts:List (Int×Int)}{hs ks:List (List Nat)}(h:ks.Nodup)(a:Int×List MV):(stK ts hs ks a).Nodup:=by
 unfold stK
 split
 ·exact zTI _ h
 ·exact h
noncomputable def Fq(hs:List (List Nat))(as:List (Int×List MV))(j:Nat):List (List Nat):=(as[j]?).elim [] (frL hs)
noncomputable def Kq(ts:List (Int×Int))(hs:List (List Nat))(as:List (Int×List MV))(j:Nat):List (List Nat):=(as[j]?).elim [] (kyL ts hs)
theorem zOP{hs:List (List Nat)}{as:List (Int×List MV)}{j:Nat}{a:Int×List MV}(h:as[j]? =some a):Fq hs as j=frL hs a:=by unfold Fq;rw [h];rfl
theorem zRG{ts:List (Int×Int)}{hs:List (List Nat)}{as:List (Int×List MV)}{j:Nat}{a:Int×List MV}(h:as[j]? =some a):Kq ts hs as j=kyL ts hs a:=by unfold Kq;rw [h];rfl
theorem KqF(ts:List (Int×Int))(hs:List (List Nat))(as:List (Int×List MV))(j:Nat)(_:j<as.length)(y:List Nat)(h:y∈Kq ts hs as j):y∈Fq hs as j:=by
 unfold Kq at h
 unfold Fq
 cases e:as[j]? with
 |none=>rw [e]at h;simp at h
 |some a=>
  rw [e]at h
  exact yLP h
abbrev KnQ(ts:List (Int×Int))(hs:List (List Nat))(as:List (Int×List MV)):Nat->List Nat->Prop:=Kn (Kq ts hs as) (Fq hs as) as.length
theorem yRA{ts:List (Int×Int)}{hs ks:List (List Nat)}{as:List (Int×List MV)}{i j:Nat}{a:Int×List MV}(ha:as[j]? =some a)(hj:j≠i)(h: ∀x∈ks,KnQ ts hs as i x): ∀x∈stK ts hs ks a,KnQ ts hs as i x:=by
 intro x hx
 unfold stK at hx
 split at hx
 ·rename_i hq
  rw [nH,nH]at hx
  rcases hx with hx|hx|hx
  ·exact h x hx
  ·simp at hx
  ·refine .step j (gS0.mp ha).1 hj (λy hy=>?_) (by rw [zOP ha];exact hx)
   rw [zRG ha]at hy
   exact h y (of_decide_eq_true (all_eq_true.mp hq y hy))
 ·exact h x hx
theorem yGZ{ts:List (Int×Int)}{hs:List (List Nat)}{as:List (Int×List MV)}{i:Nat}: ∀(oth:List (Int×List MV)),(∀a∈oth, ∃j,as[j]? =some a/\j≠i)-> ∀(ks:List (List Nat)),ks.Nodup->(∀x∈ks,KnQ ts hs as i x)->(oth.foldl (stK ts hs) ks).Nodup/\ ∀x∈oth.foldl (stK ts hs) ks,KnQ ts hs as i x
 |[],_,ks,hn,h=>⟨hn,h⟩
 |a::oth,ho,ks,hn,h=>by
  obtain⟨j,hj,hne⟩:=ho a mF0
  rw [foldl_cons]
  exact yGZ oth (λb hb=>ho b (mO _ hb)) _ (yQZ hn a) (yRA hj hne h)
theorem yRB{ts:List (Int×Int)}{hs ks:List (List Nat)}{as oth:List (Int×List MV)}{i:Nat}{a0:Int×List MV}(hi:as[i]? =some a0)(hk: ∀x∈kyL ts hs a0,x∈ks)(ho: ∀j a,as[j]? =some a->j≠i->a∈oth)(hs': ∀a∈oth,stK ts hs ks a=ks){x:List Nat}(h:KnQ ts hs as i x):x∈ks:=by
 induction h with
 |key h=>rw [zRG hi]at h;exact hk _ h
 |@step x j hj hne hall hx ih=>
  have ha:=gE0 hj
  have e:=hs' _ (ho j _ ha hne)
  rw [zOP ha]at hx
  rw [zRG ha]at ih
  unfold stK at e
  rw [iP (all_eq_true.mpr λy hy=>dT0 (ih y hy))]at e
  rw [<-e,nH,nH]
  exact .inr (.inr hx)
noncomputable def zWF(hs:List (List Nat))(as:List (Int×List MV)):List (List Nat):=as.flatMap (frL hs)
theorem zMJ{ts:List (Int×Int)}{hs:List (List Nat)}: ∀{as:List (Int×List MV)},(∀a∈as,AOk ts a)->(zWF hs as).length<=4 * as.length
 |[],_=>le_refl _
 |a::as,h=>by
  have h1:=zMJ (hs:=hs) λb hb=>h b (mO _ hb)
  have h2:=zKU (hs:=hs) (h a mF0)
  unfold zWF at h1 ⊢
  rw [List.flatMap_cons,lA,lC]
  omega
theorem yHA{ts:List (Int×Int)}{hs:List (List Nat)}{as:List (Int×List MV)}{i:Nat}(hi:i<as.length){x:List Nat}(h:KnQ ts hs as i x):x∈zWF hs as:=by
 have e: ∀j,j<as.length->x∈Fq hs as j->x∈zWF hs as:=λj hj h=>by
  rw [zOP (gE0 hj)]at h
  exact mem_flatMap.mpr ⟨_,getElem_mem hj,h⟩
 cases h with
 |key h=>exact e i hi (KqF ts hs as i hi _ h)
 |step j hj _ _ hx=>exact e j hj hx
theorem yHB{ts:List (Int×Int)}{hs:List (List Nat)}{qd:MV}{i:Nat}{as oth:List MV}{b:Int}(S:Sto): ∀(os:List (Int×List MV)),(∀a∈os,AOk ts a)-> ∀(T:Sto)(ks:List (List Nat))(o:Option MV),ks.length+4 * os.length<=1000->
  ∃T' o',kS (gNm 7) zAX [] (os.map aM) (KA ts (.tup [.tup (hs.map MV.str),qd]) i as oth S.length b o) (S++.dic (dT ks)::T)=.ok (.next (KA ts (.tup [.tup (hs.map MV.str),qd]) i as oth S.length b o')) (S++.dic (dT (os.foldl (stK ts hs) ks))::T')
 |[],_,T,ks,o,_=>⟨T,o,rfl⟩
 |a::os,h,T,ks,o,hl=>by
  rw [lC]at hl
  have ha:=h a mF0
  obtain⟨T1,e1⟩:=yLT (hs:=hs) (qd:=qd) (i:=i) (as:=as) (oth:=oth) (b:=b) ha S T (ks:=ks) (by omega)
  have hk:(stK ts hs ks a).length<=ks.length+4:=by
   unfold stK
   split
   ·have h1:=zEI (zAL [] (frL hs a)) ks
    have h2:=zEI (frL hs a) []
    have h3:=zKU (hs:=hs) ha
    rw [length_nil]at h2
    omega
   ·omega
  obtain⟨T',o',e⟩:=yHB (hs:=hs) (qd:=qd) (i:=i) (as:=as) (oth:=oth) (b:=b) S os (λc hc=>h c (mO _ hc)) T1 (stK ts hs ks a) (some (aM a)) (by omega)
  refine⟨T',o',?_⟩
  rw [map_cons,zW (ρ0:=KA ts (.tup [.tup (hs.map MV.str),qd]) i as oth S.length b (some (aM a))) rfl e1 (yP _)]
  exact e
theorem yAT{ts:List (Int×Int)}{q:MV}{i:Nat}{as oth:List MV}{b:Int}{o:Option MV}(S T:Sto)(ks:List (List Nat)):dQ (KA ts q i as oth S.length b o) (S++.dic (dT ks)::T)=.ok (decide (b<ks.length)) (S++.dic (dT ks)::T):=by
 unfold dQ
 simp? [yAQ (zEZ S T (.dic (dT ks))),lt_int]
theorem yLU{ts:List (Int×Int)}{hs:List (List Nat)}{qd:MV}{i:Nat}{as:List MV}{b:Int}(S:Sto){os:List (Int×List MV)}(h: ∀a∈os,AOk ts a)(T:Sto)(ks:List (List Nat))(o:Option MV)(hl:ks.length+4 * os.length<=1000):
  ∃T' o',zAY (KA ts (.tup [.tup (hs.map MV.str),qd]) i as (os.map aM) S.length b o) (S++.dic (dT ks)::T)=.ok (.next (KA ts (.tup [.tup (hs.map MV.str),qd]) i as (os.map aM) S.length ks.length o')) (S++.dic (dT (os.foldl (stK ts hs) ks))::T'):=by
 obtain⟨T',o',e⟩:=yHB (hs:=hs) (qd:=qd) (i:=i) (as:=as) (oth:=os.map aM) (b:=ks.length) S os h T ks o hl
 refine⟨T',o',?_⟩
 have e1:zBS (KA ts (.tup [.tup (hs.map MV.str),qd]) i as (os.map aM) S.length b o) (S++.dic (dT ks)::T)=.ok (.next (KA ts (.tup [.tup (hs.map MV.str),qd]) i as (os.map aM) S.length ks.length o)) (S++.dic (dT ks)::T):=by
  unfold zBS
  simp? [yAQ (zEZ S T (.dic (dT ks)))]
 unfold zAY
 rw [zD e1]
 unfold zGN
 simp? [zKR]
 exact e
theorem zWG{ts:List (Int×Int)}{hs:List (List Nat)}{as os:List (Int×List MV)}{i:Nat}(hi:i<as.length)(hA: ∀a∈as,AOk ts a)(hlen:as.length<=4)(hos: ∀a∈os, ∃j,as[j]? =some a/\j≠i)(hol:os.length<=4)(S:Sto): ∀(m f:Nat),m+2<=f-> ∀(T:Sto)(ks:List (List Nat))(b:Int)(o:Option MV),ks.Nodup->(∀x∈ks,KnQ ts hs as i x)->(zWF hs as).length<=ks.length+m->b<ks.length->
  ∃T' ks' b' o' t,gN dQ zAY f (KA ts (qM hs as) i (as.map aM) (os.map aM) S.length b o) (S++.dic (dT ks)::T)=.ok (.next (KA ts (qM hs as) i (as.map aM) (os.map aM) S.length b' o')) (S++.dic (dT ks')::T')/\ks'=ks++t/\(∀x∈ks',KnQ ts hs as i x)/\(∀a∈os,stK ts hs ks' a=ks')/\ks'.Nodup
 |m,f,hf,T,ks,b,o,hn,hk,hU,hb=>by
  obtain⟨f,rfl⟩: ∃g,f=g+1:=⟨f - 1,by omega⟩
  have hA': ∀a∈os,AOk ts a:=λa ha=>by
   obtain⟨j,hj,_⟩:=hos a ha
   exact hA a (mem_of_getElem? hj)
  have hle:ks.length<=16:=by
   have h1:=zDR hn λx hx=>yHA hi (hk x hx)
   have h2:=zMJ (hs:=hs) hA
   omega
  obtain⟨T1,o1,e1⟩:=yLU (hs:=hs) (qd:=.tup (as.map aM)) (i:=i) (as:=as.map aM) (b:=b) S hA' T ks o (by omega)
  have ht:=yAT (ts:=ts) (q:=qM hs as) (i:=i) (as:=as.map aM) (oth:=os.map aM) (b:=b) (o:=o) S T ks
  rw [dT0 hb]at ht
  obtain⟨t,et⟩:=zTM ts hs os ks
  obtain⟨hn1,hk1⟩:=yGZ os hos ks hn hk
  have hlt:=congrArg List.length et
  rw [lA]at hlt
  by_cases hz:t=[]
  ·subst hz
   rw [aN]at et
   obtain⟨f,rfl⟩: ∃g,f=g+1:=⟨f - 1,by omega⟩
   have ht2:=yAT (ts:=ts) (q:=qM hs as) (i:=i) (as:=as.map aM) (oth:=os.map aM) (b:=ks.length) (o:=o1) S T1 ks
   rw [dF0 (by omega)]at ht2
   refine⟨T1,ks,ks.length,o1,[],?_,(aN _).symm,hk,zWE ts hs os ks et,hn⟩
   rw [et]at e1
   rw [zIC ht e1,zQH ht2]
  ·have htp:0<t.length:=length_pos_iff.mpr hz
   have h1:=zDR hn1 λx hx=>yHA hi (hk1 x hx)
   have hm:m - 1<m:=by omega
   obtain⟨T',ks',b',o',t',e,h2,h3,h4,h5⟩:=zWG hi hA hlen hos hol S (m - 1) f (by omega) T1 (os.foldl (stK ts hs) ks) ks.length o1 hn1 hk1 (by omega) (by omega)
   refine⟨T',ks',b',o',t++t',?_,by rw [h2,et,aA],h3,h4,h5⟩
   rw [zIC ht e1]
   exact e
 termination_by m=>m
theorem yHC{n:Nat}{F:List MV->Sto->R Er}{rs:List Er}{S T:Sto}{kvs:List (MV×MV)}(hn:rs.length=n)(hF:F (zP rs S).1 (zP rs S).2=.ok (.val (.loc S.length)) (S++.dic kvs::T)):yA n F rs S=.ok (.val (.loc S.length)) (S++.dic kvs::T):=by
 unfold yA
 rw [iP hn,hF]
 show dZ S (.val (.loc S.length)) (S++.dic kvs::T)=_
 unfold dZ
 dsimp only
 split
 ·rw [iN (lt_irrefl _),zEZ]
 ·rfl
theorem yAU{as:List (Int×List MV)}{i:Nat}{a:Int×List MV}:a∈as.take i++as.drop (i+1)↔ ∃j,as[j]? =some a/\j≠i:=by
 rw [mem_append]
 constructor
 ·rintro(h|h)
  ·obtain⟨j,hj,e⟩:=List.mem_take_iff_getElem.mp h
   exact⟨j,by rw [<-e];exact gE0 _,by omega⟩
  ·obtain⟨j,e⟩:=List.mem_iff_getElem?.mp h
   rw [getElem?_drop]at e
   exact⟨i+1+j,e,by omega⟩
 ·rintro⟨j,hj,hne⟩
  by_cases h:j<i
  ·exact .inl (mem_of_getElem? (show(as.take i)[j]? =some a by rw [getElem?_take_of_lt h];exact hj))
  ·exact .inr (mem_of_getElem? (i:=j - (i+1)) (show(as.drop (i+1))[j - (i+1)]? =some a by rw [getElem?_drop,show i+1+(j - (i+1))=j by omega];exact hj))
theorem zWH{ts:List (Int×Int)}{hs:List (List Nat)}{as:List (Int×List MV)}(hA: ∀a∈as,AOk ts a)(hlen:as.length<=4){i:Nat}(hi:i<as.length)(S:Sto):
  ∃ks T,yA 3 cR [.val (.tup (ts.map tbl)),.val (qM hs as),.val (.int i)] S=.ok (.val (.loc S.length)) (S++.dic (dT ks)::T)/\(∀x,x∈ks↔KnQ ts hs as i x)/\ks.Nodup:=by
 have ha:=gE0 hi
 have hAi:=hA _ (getElem_mem hi)
 obtain⟨a,ea⟩: ∃a,a=as[i]:=⟨_,rfl⟩
 rw [<-ea]at ha hAi
 obtain⟨os,eo⟩: ∃os,os=as.take i++as.drop (i+1):=⟨_,rfl⟩
 have hos: ∀c∈os, ∃j,as[j]? =some c/\j≠i:=λc hc=>yAU.mp (eo▸hc)
 have hol:os.length<=4:=by
  rw [eo,lA,lT,length_drop]
  omega
 have hk0: ∀x∈zAL [] (kyL ts hs a),KnQ ts hs as i x:=λx hx=>by
  rw [nH]at hx
  rcases hx with hx|hx
  ·simp at hx
  ·exact .key (by rw [zRG ha];exact hx)
 obtain⟨T',ks',b',o',t,e5,h5,h6,h7,h8⟩:=zWG (hs:=hs) hi hA hlen hos hol S 100 10000 (by omega) [] (zAL [] (kyL ts hs a)) (-1) none (zTI _ nodup_nil) hk0 (by have:=zMJ (hs:=hs) hA;omega) (by omega)
 refine⟨ks',T',?_,λx=>⟨h6 x,λh=>?_⟩,h8⟩
 ·refine yHC rfl ?_
  show xD (zIE [some (.tup (ts.map tbl)),some (qM hs as),some (.int i),none,none,none,none,none] S)=_
  have e1:zET [some (.tup (ts.map tbl)),some (qM hs as),some (.int i),none,none,none,none,none] S=.ok (.next [some (.tup (ts.map tbl)),some (qM hs as),some (.int i),some (.tup (as.map aM)),none,none,none,none]) S:=by
   unfold zET
   simp? [zJI]
  have e2:zEU [some (.tup (ts.map tbl)),some (qM hs as),some (.int i),some (.tup (as.map aM)),none,none,none,none] S=.ok (.next [some (.tup (ts.map tbl)),some (qM hs as),some (.int i),some (.tup (as.map aM)),some (.tup (os.map aM)),none,none,none]) S:=by
   have hc:((i:Int)+1)=((i+1:Nat):Int):=by omega
   have hz:((as.map aM).take i).length+((as.map aM).drop (i+1)).length<=sizeLine:=fits (by rw [lT,length_drop,lM];omega)
   unfold zEU
   simp? [yAN,yDA,hc,zKT,yKD hz]
   rw [eo,map_append,map_take,map_drop]
  have hkl:((kyL ts hs a).map MV.str).length<1000000:=by rw [lM];have:=yGY (hs:=hs) hAi;omega
  have hc2:yY (gNm 0) zGJ zBP [none] [] ((kyL ts hs a).map MV.str) S=.ok ((kyL ts hs a).map prT) S:=
   kE (yP _) λx _=>⟨[some (.str x)],rfl,rfl,by
    unfold zBP
    simp? [tup2]⟩
  have hb2: ∀a b c d e f g h:Option MV,blk 1 [] [a,b,c,d,e,f,g,h]=[none]:=λ_ _ _ _ _ _ _ _=>rfl
  have hix:ixF (.val (.tup (as.map aM))) (.val (.int i)) S=.ok (.val (aM a)) S:=ix_tup (nI (by rw [getElem?_map,ha];rfl))
  have e3:zEV [some (.tup (ts.map tbl)),some (qM hs as),some (.int i),some (.tup (as.map aM)),some (.tup (os.map aM)),none,none,none] S=.ok (.next [some (.tup (ts.map tbl)),some (qM hs as),some (.int i),some (.tup (as.map aM)),some (.tup (os.map aM)),some (.loc S.length),none,none]) (S++[.dic (dT (zAL [] (kyL ts hs a)))]):=by
   unfold zEV
   simp? [hix,yGW hAi,zFA,hkl,hb2,hc2,yAP]
  have e4:zEW [some (.tup (ts.map tbl)),some (qM hs as),some (.int i),some (.tup (as.map aM)),some (.tup (os.map aM)),some (.loc S.length),none,none] (S++[.dic (dT (zAL [] (kyL ts hs a)))])=.ok (.next (KA ts (qM hs as) i (as.map aM) (os.map aM) S.length (-1) none)) (S++[.dic (dT (zAL [] (kyL ts hs a)))]):=by
   unfold zEW
   simp? [bok]
  unfold zIE
  rw [zD e1,zD e2,zD e3,zD e4,zD (show zJB _ _=_ from e5)]
  unfold zJC
  simp? [bok]
  rfl
 ·refine yRB ha (λy hy=>?_) (λj c hc hne=>by rw [eo];exact yAU.mpr ⟨j,hc,hne⟩) h7 h
  rw [h5,mem_append,nH]
  exact .inl (.inr hy)
abbrev zG(k:Nat):MV:=.int (k:Int)
theorem zTN{j k:Nat}(h:zG j=zG k):j=k:=by
 injection h with h
 exact Int.ofNat.inj h
theorem yLV{j:Nat}{rs:List Nat}:zG j∈rs.map zG↔j∈rs:=⟨λh=>by obtain⟨k,hk,e⟩:=mM.mp h;rw [<-zTN e];exact hk,λh=>mM.mpr ⟨j,h,rfl⟩⟩
theorem zPH{n:Nat}(h:n<=1000)(S:Sto):jK [.val (.int (n:Int))] S=.ok ⟨(List.range n).map zG,[]⟩ S:=by
 rw [zSE (by omega),toNat_natCast]
theorem rng6(S:Sto):jK [.val (.int 6)] S=.ok ⟨(List.range 6).map zG,[]⟩ S:=zPH (n:=6) (by decide) S
def rD(rs:List Nat):List (MV×MV):=rs.map λj=>(zG j,.bl true)
theorem yAV(rs:List Nat):(rD rs).map (·.1)=rs.map zG:=by
 unfold rD
 rw [map_map]
 rfl
theorem yAW(rs:List Nat)(j:Nat):(look (rD rs) (zG j)).isSome=decide (j∈rs):=by
 by_cases h:j∈rs
 ·rw [dT0 h]
  unfold look
  rw [Option.isSome_map,List.find?_isSome]
  exact⟨(zG j,.bl true),mM.mpr ⟨j,h,rfl⟩,by simp⟩
 ·rw [dF0 h]
  cases z:(look (rD rs) (zG j)).isSome with
  |false=>rfl
  |true=>
   have:=zWA z
   rw [yAV]at this
   exact absurd (yLV.mp this) h
theorem yRC{rs:List Nat}{j:Nat}(h:j∉rs):zNJ (rD rs) (zG j) (.bl true)=rD (rs++[j]):=by
 unfold zNJ
 rw [yAW,iN (by rw [dF0 h];exact xF0)]
 unfold rD
 rw [map_append]
 rfl
theorem yHD(rs:List Nat):(rD rs).all (λp=>zIW p.1)=true:=by
 unfold rD
 rw [all_map,all_eq_true]
 intro x _
 rfl
theorem yHE{S:Sto}{l:Nat}{rs:List Nat}(neg:Bool)(h:S[l]? =some (.dic (rD rs)))(j:Nat):zKC neg (.val (zG j)) (.val (.loc l)) S=.ok (.val (.bl (if neg=true then !decide (j∈rs)else decide (j∈rs)))) S:=by
 unfold zKC
 dsimp only
 rw [zGR h (yHD rs)]
 dsimp only
 rw [iP (show zIW (zG j)=true from rfl),yAW]
theorem yAX{S:Sto}{l:Nat}{rs:List Nat}(h:S[l]? =some (.dic (rD rs)))(hl:rs.length<1000000){j:Nat}(hj:j∉rs)(ρ:Rho):zGC (.val (.loc l)) (.val (zG j)) (.bl true) ρ S=.ok ρ (S.set l (.dic (rD (rs++[j])))):=by
 unfold zGC
 dsimp only
 rw [zGR h (yHD rs)]
 dsimp only
 rw [iP ⟨rfl,by unfold rD;rw [lM];exact hl⟩,yRC hj]
theorem yHF{S:Sto}{l:Nat}{rs:List Nat}(h:S[l]? =some (.dic (rD rs))):zGD [.val (.loc l)] S=.ok (.new (rs.map zG)) S:=by
 unfold zGD
 dsimp only
 rw [zGR h (yHD rs)]
 dsimp only
 rw [yAV]
theorem zOQ{α:Type}{f:α->MV}{g:α->List MV}{gf:MV->Rho->Sto->R Rho}{cf:AZ}{ef:AX}{ρb:Rho}{S:Sto}: ∀(xs:List α),(∀x∈xs, ∀T, ∃ρ1,gf (f x) ρb (S++T)=.ok ρ1 (S++T)/\cf ρ1 (S++T)=.ok true (S++T)/\ef ρ1 (S++T)=.ok (.new (g x)) (S++T))->
  ∀T,yY gf cf ef ρb [] (xs.map f) (S++T)=.ok ((List.range' (S.length+T.length) xs.length).map MV.loc) (S++T++xs.map λx=>MO.lst (g x))
 |[],_,T=>by rw [map_nil,map_nil,aN];rfl
 |x::xs,h,T=>by
  obtain⟨ρ1,h1,h2,h3⟩:=h x mF0 T
  have ih:=zOQ (f:=f) (g:=g) (gf:=gf) (cf:=cf) (ef:=ef) (ρb:=ρb) (S:=S) xs (λy hy=>h y (mO _ hy)) (T++[.lst (g x)])
  rw [map_cons]
  unfold yY
  rw [h1,xC,bok,h2,xC,bok,iP rfl,h3,xC,bok]
  unfold nN
  rw [bok,iP (yP _),aA,ih,bok,lA,lA,lS,lC,range'_succ,map_cons,map_cons]
  simp only [aA,List.singleton_append,add_assoc]
noncomputable def cmB(xs ys:List (List Nat)):Bool:=xs.any λx=>decide (x∈ys)
theorem yRD{S:Sto}{l m:Nat}{xs ys:List (List Nat)}(h1:S[l]? =some (.lst (xs.map MV.str)))(h2:S[m]? =some (.lst (ys.map MV.str)))(hl:xs.length<1000000):yA 2 jG [.val (.loc l),.val (.loc m)] S=.ok (.val (.bl (cmB xs ys))) S:=by
 refine yLL rfl ?_
 show xD (cS [some (.loc l),some (.loc m)] S)=_
 have hc:yY (gNm 0) nF kW [none,some (.loc m)] [(l,xs.map MV.str)] (xs.map MV.str) S=.ok (xs.map λx=>.bl (decide (x∈ys))) S:=
  kE (zEC h1) λx _=>⟨[some (.str x),some (.loc m)],rfl,rfl,by
   unfold kW
   simp? [zJH false h2 (zCI x) zMI,fT,iF]
   rw [dec_is (yAI (x:=x) (fs:=ys))]⟩
 have hk:(xs.map MV.str).length<1000000:=by rw [lM];exact hl
 have hb: ∀a b:Option MV,blk 1 [1] [a,b]=[none,b]:=λ_ _=>rfl
 unfold cS zBT
 simp? [zIT h1,hk,hb,hc,yLQ]
 rfl
theorem zFB{α:Type}{f g:α->MV}{p:α->Bool}{S:Sto}{gf:MV->Rho->Sto->R Rho}{cf:AZ}{ef:AX}{ρb:Rho}{gs:List (Nat×List MV)}(hs:stay gs S):
  ∀{ds:List α},(∀d∈ds, ∃ρ1,gf (f d) ρb S=.ok ρ1 S/\cf ρ1 S=.ok (p d) S/\ef ρ1 S=.ok (.val (g d)) S)->yY gf cf ef ρb gs (ds.map f) S=.ok ((ds.filter p).map g) S
 |[],_=>rfl
 |d::ds,st=>by
  obtain⟨ρ1,h1,h2,h3⟩:=st d mF0
  have e:=zFB hs (f:=f) (g:=g) (p:=p) (ds:=ds) λd hd=>st d (mO _ hd)
  rw [map_cons]
  unfold yY
  cases hp:p d with
  |true=>
   rw [h1,xC,bok,h2,xC,bok,hp,iP rfl,h3,xC,bok]
   unfold nN
   rw [bok,iP hs,e,List.filter_cons_of_pos hp]
   rfl
  |false=>
   rw [h1,xC,bok,h2,xC,bok,hp,iN xF0,iP hs,e,List.filter_cons_of_neg (by rw [hp];exact xF0)]
theorem yLW(K:List Nat)(n:Nat):loL n (K.map zG):=wK λd hd=>by
 obtain⟨i,_,rfl⟩:=mM.mp hd
 exact zDH _ _
abbrev SA(ts:List (Int×Int))(q:MV)(i l0 l4 l5:Nat)(nm o:Option MV):Rho:=[some (.tup (ts.map tbl)),some q,some (zG i),some (.loc l0),some (.loc l4),some (.loc l5),some (.loc (l5+1)),nm,o]
abbrev StW(B:Sto)(rs ws:List Nat):Sto:=B++[.dic (rD rs),.lst (ws.map zG)]
structure UN(B:Sto)(l4 u0 n:Nat)(un:Nat->List (List Nat)):Prop where
 tab:B[l4]? =some (.lst ((List.range' u0 n).map MV.loc))
 row: ∀j,j<n->B[u0+j]? =some (.lst ((un j).map MV.str))
 len: ∀j,j<n->(un j).length<=4
theorem yHG(B:Sto)(rs ws:List Nat):(StW B rs ws)[B.length]? =some (.dic (rD rs)):=by simp [StW]
theorem zWI(B:Sto)(rs ws:List Nat):(StW B rs ws)[B.length+1]? =some (.lst (ws.map zG)):=by simp [StW]
theorem yRE(B:Sto)(rs ws rs':List Nat):(StW B rs ws).set B.length (.dic (rD rs'))=StW B rs' ws:=by simp [StW]
theorem yHH(B:Sto)(rs ws ws':List Nat):(StW B rs ws).set (B.length+1) (.lst (ws'.map zG))=StW B rs ws':=by simp [StW]
theorem yAY{B:Sto}{k:Nat}{o:MO}(h:B[k]? =some o)(rs ws:List Nat):(StW B rs ws)[k]? =some o:=by
 show(B++_)[k]? =_
 rw [getElem?_append_left (gS0.mp h).1]
 exact h
theorem yHI{B:Sto}{l4 u0 n:Nat}{un:Nat->List (List Nat)}(U:UN B l4 u0 n un){j:Nat}(hj:j<n)(rs ws:List Nat):ixF (.val (.loc l4)) (.val (zG j)) (StW B rs ws)=.ok (.val (.loc (u0+j))) (StW B rs ws):=
 gY (yAY U.tab rs ws) (nI (by rw [getElem?_map,List.getElem?_range' hj,Nat.one_mul];rfl))
theorem yLX{ts:List (Int×Int)}{q:MV}{i l0 l4 u0 n:Nat}{B:Sto}{un:Nat->List (List Nat)}(U:UN B l4 u0 n un){w j:Nat}(hw:w<n)(hj:j<n){rs ws:List Nat}(hr:rs.length<1000)(hws:ws.length<1000):
  gH (SA ts q i l0 l4 B.length (some (.loc (u0+w))) (some (zG j))) (StW B rs ws)=.ok (.next (SA ts q i l0 l4 B.length (some (.loc (u0+w))) (some (zG j)))) (if j∉rs/\cmB (un w) (un j)=true then StW B (rs++[j]) (ws++[j])else StW B rs ws):=by
 have hin:=yHE true (yHG B rs ws) j
 rw [iP rfl]at hin
 unfold gH zCW
 by_cases hm:j∈rs
 ·rw [dT0 hm]at hin
  rw [iN λz=>z.1 hm]
  simp? [hin,Bool.not_true,fT,iF]
 ·rw [dF0 hm]at hin
  have hc:=yRD (yAY (U.row w hw) rs ws) (yAY (U.row j hj) rs ws) (by have:=U.len w hw;omega)
  by_cases hcm:cmB (un w) (un j)=true
  ·rw [iP ⟨hm,hcm⟩]
   have e1:(EJ (kJ (.bl true)) (DJ zGC (vJ 5) (vJ 8))) (SA ts q i l0 l4 B.length (some (.loc (u0+w))) (some (zG j))) (StW B rs ws)=.ok (.next (SA ts q i l0 l4 B.length (some (.loc (u0+w))) (some (zG j)))) (StW B (rs++[j]) ws):=by
    simp? [zDE,yAX (yHG B rs ws) (show rs.length<1000000 by omega) hm,yRE]
   have e2:(BJ (eJ wH zHL (vJ 6) (yJ (vJ 8) wJ))) (SA ts q i l0 l4 B.length (some (.loc (u0+w))) (some (zG j))) (StW B (rs++[j]) ws)=.ok (.next (SA ts q i l0 l4 B.length (some (.loc (u0+w))) (some (zG j)))) (StW B (rs++[j]) (ws++[j])):=by
    simp? [xS (zWI B (rs++[j]) ws),dX (zWI B (rs++[j]) ws) (show(ws.map zG).length<1000000 by rw [lM];omega)]
    rw [show ws.map zG++[.int (j:Int)]=(ws++[j]).map zG by rw [map_append];rfl,yHH]
   simp? [hin,Bool.not_false,yHI U hj,hc,hcm]
   rw [zD e1,e2]
  ·rw [iN λz=>hcm z.2]
   simp? [hin,Bool.not_false,yHI U hj,hc,hcm,fT,iF]
theorem zYI{ts:List (Int×Int)}{q:MV}{i l0 l4 u0 n:Nat}{B:Sto}{un:Nat->List (List Nat)}(U:UN B l4 u0 n un){w:Nat}(hw:w<n): ∀(js:List Nat),(∀j∈js,j<n)-> ∀(rs ws:List Nat)(o:Option MV),rs.length+js.length<1000->ws.length+js.length<1000->
  ∃t o',kS (gNm 8) gH [] (js.map zG) (SA ts q i l0 l4 B.length (some (.loc (u0+w))) o) (StW B rs ws)=.ok (.next (SA ts q i l0 l4 B.length (some (.loc (u0+w))) o')) (StW B (rs++t) (ws++t))/\(rs.Nodup->(rs++t).Nodup)/\(∀k∈t,k<n/\cmB (un w) (un k)=true)/\ ∀k∈js,cmB (un w) (un k)=true->k∈rs++t
 |[],_,rs,ws,o,_,_=>⟨[],o,by rw [aN,aN];rfl,λh=>by rw [aN];exact h,λk hk=>by simp at hk,λk hk=>by simp at hk⟩
 |j::js,hjs,rs,ws,o,h1,h2=>by
  rw [lC]at h1 h2
  have hj:=hjs j mF0
  have hjs': ∀k∈js,k<n:=λk hk=>hjs k (mO _ hk)
  have e:=yLX (ts:=ts) (q:=q) (i:=i) (l0:=l0) U hw hj (rs:=rs) (ws:=ws) (by omega) (by omega)
  by_cases hm:j∉rs/\cmB (un w) (un j)=true
  ·rw [iP hm]at e
   obtain⟨t,o',e',h3,h4,h5⟩:=zYI (ts:=ts) (q:=q) (i:=i) (l0:=l0) U hw js hjs' (rs++[j]) (ws++[j]) (some (zG j)) (by rw [lA,lS];omega) (by rw [lA,lS];omega)
   refine⟨j::t,o',?_,λhn=>?_,λk hk=>?_,λk hk hc=>?_⟩
   ·rw [map_cons,zW (ρ0:=SA ts q i l0 l4 B.length (some (.loc (u0+w))) (some (zG j))) rfl e (yP _),e',aA,aA]
    rfl
   ·have:=h3 (nodup_append.mpr ⟨hn,by simp,λa ha b hb=>by rw [mS.mp hb];rintro rfl;exact hm.1 ha⟩)
    rw [aA]at this
    exact this
   ·rcases mC.mp hk with rfl|hk
    ·exact⟨hj,hm.2⟩
    ·exact h4 k hk
   ·rcases mC.mp hk with rfl|hk
    ·exact mem_append.mpr (.inr mF0)
    ·have:=h5 k hk hc
     rw [aA]at this
     exact this
  ·rw [iN hm]at e
   obtain⟨t,o',e',h3,h4,h5⟩:=zYI (ts:=ts) (q:=q) (i:=i) (l0:=l0) U hw js hjs' rs ws (some (zG j)) (by omega) (by omega)
   refine⟨t,o',?_,h3,h4,λk hk hc=>?_⟩
   ·rw [map_cons,zW (ρ0:=SA ts q i l0 l4 B.length (some (.loc (u0+w))) (some (zG j))) rfl e (yP _),e']
   ·rcases mC.mp hk with rfl|hk
    ·exact mem_append.mpr (.inl (Classical.byContradiction λz=>hm ⟨z,hc⟩))
    ·exact h5 k hk hc
theorem yLY{S:Sto}{l:Nat}{ds:List MV}{d:MV}(h:S[l]? =some (.lst (ds++[d]))):zOA (.val (.loc l)) [] S=.ok (.val d) (S.set l (.lst ds)):=by
 unfold zOA
 dsimp only
 rw [h]
 dsimp only
 have e1:(ds++[d])[(ds++[d]).length - 1]? =some d:=by simp
 have e2:(ds++[d]).eraseIdx ((ds++[d]).length - 1)=ds:=by
  rw [lA,lS,add_sub_cancel,List.eraseIdx_append_of_length_le (le_refl _),sub_self]
  exact aN _
 rw [e1,e2]
theorem yLZ{ts:List (Int×Int)}{q:MV}{i l0 l4 u0 n:Nat}{B:Sto}{un:Nat->List (List Nat)}(U:UN B l4 u0 n un)(hn:n<=4){w:Nat}(hw:w<n){rs ws:List Nat}(hr:rs.length<=100)(hws:ws.length<=100)(nm o:Option MV):
  ∃t o',gI (SA ts q i l0 l4 B.length nm o) (StW B rs (ws++[w]))=.ok (.next (SA ts q i l0 l4 B.length (some (.loc (u0+w))) o')) (StW B (rs++t) (ws++t))/\(rs.Nodup->(rs++t).Nodup)/\(∀k∈t,k<n/\cmB (un w) (un k)=true)/\ ∀k,k<n->cmB (un w) (un k)=true->k∈rs++t:=by
 obtain⟨t,o',e,h3,h4,h5⟩:=zYI (ts:=ts) (q:=q) (i:=i) (l0:=l0) U hw (List.range n) (λj hj=>mem_range.mp hj) rs ws o (by rw [length_range];omega) (by rw [length_range];omega)
 refine⟨t,o',?_,h3,h4,λk hk=>h5 k (mem_range.mpr hk)⟩
 have hp:zOA (.val (.loc (B.length+1))) [] (StW B rs (ws++[w]))=.ok (.val (zG w)) (StW B rs ws):=by
  rw [yLY (ds:=ws.map zG) (d:=zG w) (by rw [zWI,map_append];rfl),yHH]
 have e1:bC (SA ts q i l0 l4 B.length nm o) (StW B rs (ws++[w]))=.ok (.next (SA ts q i l0 l4 B.length (some (.loc (u0+w))) o)) (StW B rs ws):=by
  unfold bC
  simp? [xS (zWI B rs (ws++[w])),hp,yHI U hw]
 unfold gI
 rw [zD e1]
 unfold zCX
 have hl:=zCR (yAY U.tab rs ws)
 rw [lM,List.length_range']at hl
 simp? [hl,zPH (n:=n) (by omega)]
 exact e
theorem yMA{S:Sto}{l:Nat}{ds:List MV}(h:S[l]? =some (.lst ds)):zUO (.val (.loc l)) S=.ok (!ds.isEmpty) S:=by
 unfold zUO
 dsimp only
 rw [h]
theorem zWJ{ts:List (Int×Int)}{q:MV}{i l0 l4 u0 n:Nat}{B:Sto}{un:Nat->List (List Nat)}(U:UN B l4 u0 n un)(hn4:n<=4){P:Nat->Prop}(hP: ∀r k,P r->k<n->cmB (un r) (un k)=true->P k): ∀(m f:Nat),m<f-> ∀(rs ws:List Nat)(nm o:Option MV),n - rs.length+ws.length<=m->ws.length<=rs.length->rs.Nodup->(∀r∈rs,r<n/\P r)->(∀r∈ws,r∈rs)->(∀r∈rs,r∉ws-> ∀k,k<n->cmB (un r) (un k)=true->k∈rs)->
  ∃rs' nm' o',gN wN gI f (SA ts q i l0 l4 B.length nm o) (StW B rs ws)=.ok (.next (SA ts q i l0 l4 B.length nm' o')) (StW B rs' [])/\(∀r∈rs,r∈rs')/\rs'.Nodup/\(∀r∈rs',r<n/\P r)/\ ∀r∈rs', ∀k,k<n->cmB (un r) (un k)=true->k∈rs'
 |m,f,hf,rs,ws,nm,o,hm,hwl,hnd,hr,hw,hc=>by
  obtain⟨f,rfl⟩: ∃g,f=g+1:=⟨f - 1,by omega⟩
  have ht:wN (SA ts q i l0 l4 B.length nm o) (StW B rs ws)=.ok (!(ws.map zG).isEmpty) (StW B rs ws):=by
   unfold wN
   simp? [yMA (zWI B rs ws)]
  have hrl:rs.length<=n:=by
   have:=zDR hnd λx hx=>mem_range.mpr (hr x hx).1
   rw [length_range]at this
   exact this
  rcases List.eq_nil_or_concat ws with rfl|⟨ws,w,rfl⟩
  ·exact⟨rs,nm,o,zQH ht,λr h=>h,hnd,hr,λr h=>hc r h (by simp)⟩
  ·rw [List.concat_eq_append]at *
   have ht':wN (SA ts q i l0 l4 B.length nm o) (StW B rs (ws++[w]))=.ok true (StW B rs (ws++[w])):=by rw [ht];simp
   rw [lA,lS]at hm hwl
   have hww:w∈rs:=hw w (mem_append.mpr (.inr mF0))
   have hwn:=hr w hww
   obtain⟨t,o',e,h3,h4,h5⟩:=yLZ (ts:=ts) (q:=q) (i:=i) (l0:=l0) U hn4 hwn.1 (rs:=rs) (ws:=ws) (by omega) (by omega) nm o
   have hnd':=h3 hnd
   have hr': ∀r∈rs++t,r<n/\P r:=λr h=>by
    rcases mem_append.mp h with h|h
    ·exact hr r h
    ·exact⟨(h4 r h).1,hP w r hwn.2 (h4 r h).1 (h4 r h).2⟩
   have hrl':(rs++t).length<=n:=by
    have:=zDR hnd' λx hx=>mem_range.mpr (hr' x hx).1
    rw [length_range]at this
    exact this
   rw [lA]at hrl'
   have hlt:m - 1<m:=by omega
   obtain⟨rs',nm',o'',e2,g1,g2,g3,g4⟩:=zWJ (ts:=ts) (q:=q) (i:=i) (l0:=l0) U hn4 hP (m - 1) f (by omega) (rs++t) (ws++t) (some (.loc (u0+w))) o' (by rw [lA,lA];omega) (by rw [lA,lA];omega) hnd' hr' (λr h=>by
    rcases mem_append.mp h with h|h
    ·exact mem_append.mpr (.inl (hw r (mem_append.mpr (.inl h))))
    ·exact mem_append.mpr (.inr h)) (λr h hn k hk hcm=>by
    rcases mem_append.mp h with h|h
    ·by_cases e:r=w
     ·subst e
      exact h5 k hk hcm
     ·exact mem_append.mpr (.inl (hc r h (λz=>by
       rcases mem_append.mp z with z|z
       ·exact hn (mem_append.mpr (.inl z))
       ·exact e (mS.mp z)) k hk hcm))
    ·exact absurd (mem_append.mpr (.inr h)) hn)
   refine⟨rs',nm',o'',?_,λr h=>g1 r (mem_append.mpr (.inl h)),g2,g3,g4⟩
   rw [zIC ht' e]
   exact e2
 termination_by m=>m
abbrev RcQ(ts:List (Int×Int))(hs:List (List Nat))(as:List (Int×List MV)):Nat->Nat->Prop:=Rc (Kq ts hs as) (Fq hs as) as.length
noncomputable def unL(hs ks:List (List Nat))(as:List (Int×List MV))(j:Nat):List (List Nat):=(Fq hs as j).filter λx=>!decide (x∈ks)
theorem yHJ{ts:List (Int×Int)}{hs ks:List (List Nat)}{as:List (Int×List MV)}{i:Nat}(hk: ∀x,x∈ks↔KnQ ts hs as i x)(r k:Nat):cmB (unL hs ks as r) (unL hs ks as k)=true↔ ∃x,x∈Fq hs as r/\x∈Fq hs as k/\ ¬KnQ ts hs as i x:=by
 unfold cmB
 rw [any_eq_true]
 constructor
 ·rintro⟨x,h1,h2⟩
  have h2:=of_decide_eq_true h2
  unfold unL at h1 h2
  rw [mem_filter]at h1 h2
  exact⟨x,h1.1,h2.1,λz=>by have:=h1.2;rw [dT0 ((hk x).mpr z)]at this;cases this⟩
 ·rintro⟨x,h1,h2,h3⟩
  have e:(!decide (x∈ks))=true:=by rw [dF0 λz=>h3 ((hk x).mp z)];rfl
  exact⟨x,mem_filter.mpr ⟨h1,e⟩,dT0 (mem_filter.mpr ⟨h2,e⟩)⟩
theorem yNC{ts:List (Int×Int)}{hs:List (List Nat)}{as:List (Int×List MV)}{i j:Nat}(hi:i<as.length)(h:RcQ ts hs as i j):j<as.length:=by
 cases h with
 |self=>exact hi
 |step j k _ hk _ _ _=>exact hk
theorem yMB(S:Sto)(i:Nat):zVO S.length (.val (zG i)) (.val (.bl true)) (S++[.dic []])=.ok (.val (.loc S.length)) (S++[.dic (rD [i])]):=by
 unfold zVO
 dsimp only
 rw [iP ⟨rfl,zI _ _⟩,yZ]
 rfl
theorem yDB{ts:List (Int×Int)}{hs:List (List Nat)}{as:List (Int×List MV)}(hA: ∀a∈as,AOk ts a)(hlen:as.length<=4){i:Nat}(hi:i<as.length)(S:Sto):
  ∃rs:List Nat,yA 3 dR [.val (.tup (ts.map tbl)),.val (qM hs as),.val (zG i)] S=.ok (.new (rs.map zG)) S/\rs.Nodup/\ ∀j,j∈rs↔RcQ ts hs as i j:=by
 obtain⟨ks,T,e1,hk,_⟩:=zWH (hs:=hs) hA hlen hi S
 obtain⟨S1,hS1⟩: ∃S1:Sto,S1=S++.dic (dT ks)::T:=⟨_,rfl⟩
 have hat: ∀U:Sto,(S1++U)[S.length]? =some (.dic (dT ks)):=λU=>by
  rw [hS1,aA]
  exact zEZ _ _ _
 have hin: ∀a∈as, ∀U:Sto, ∃ρ1,gNm 0 (aM a) [none,some (qM hs as),some (.loc S.length)] (S1++U)=.ok ρ1 (S1++U)/\zCV ρ1 (S1++U)=.ok true (S1++U)/\bB ρ1 (S1++U)=.ok (.new (((frL hs a).filter λx=>!decide (x∈ks)).map MV.str)) (S1++U):=λa ha U=>by
  have hAa:=hA a ha
  refine⟨[some (aM a),some (qM hs as),some (.loc S.length)],rfl,rfl,?_⟩
  have hc:yY (gNm 0) bA zCU [none,some (.loc S.length)] [] ((frL hs a).map MV.str) (S1++U)=.ok (((frL hs a).filter λx=>!decide (x∈ks)).map MV.str) (S1++U):=
   zFB (yP _) λx _=>⟨[some (.str x),some (.loc S.length)],rfl,by
    unfold bA
    simp? [yGV true (hat U) x],rfl⟩
  have hl:((frL hs a).map MV.str).length<1000000:=by rw [lM];have:=zKU (hs:=hs) hAa;omega
  have hb: ∀a b c:Option MV,blk 1 [2] [a,b,c]=[none,c]:=λ_ _ _=>rfl
  unfold bB
  simp? [yNB hAa,zFA,hl,hb,hc]
 have hcl:=zOQ (f:=aM) (g:=λa=>((frL hs a).filter λx=>!decide (x∈ks)).map MV.str) as hin []
 rw [aN,length_nil,add_zero]at hcl
 obtain⟨B,hB⟩: ∃B:Sto,B=S1++(as.map λa=>MO.lst (((frL hs a).filter λx=>!decide (x∈ks)).map MV.str))++[.lst ((List.range' S1.length as.length).map MV.loc)]:=⟨_,rfl⟩
 have U:UN B (S1.length+as.length) S1.length as.length (unL hs ks as):=by
  refine⟨?_,λj hj=>?_,λj hj=>?_⟩
  ·rw [hB,getElem?_append_right (by rw [lA,lM];exact le_refl _),lA,lM,sub_self]
   rfl
  ·rw [hB,aA,getElem?_append_right (by omega),Nat.add_sub_cancel_left,getElem?_append_left (by rw [lM];exact hj),getElem?_map,gE0 hj]
   unfold unL
   rw [zOP (gE0 hj)]
   rfl
  ·unfold unL
   rw [zOP (gE0 hj)]
   have h1:=length_filter_le (λx=>!decide (x∈ks)) (frL hs as[j])
   have h2:=zKU (hs:=hs) (hA _ (getElem_mem hj))
   omega
 obtain⟨rs,nm',o',e5,g1,g2,g3,g4⟩:=zWJ (ts:=ts) (q:=qM hs as) (i:=i) (l0:=S.length) U hlen (P:=RcQ ts hs as i) (λr k hr hkl hc=>by
  obtain⟨x,h1,h2,h3⟩:=(yHJ hk r k).mp hc
  exact .step r k hr hkl h1 h2 h3) 10 10000 (by omega) [i] [i] none none (by rw [lS];omega) (le_refl _) (by simp) (λr hr=>by
  rw [mS.mp hr]
  exact⟨hi,.self⟩) (λr h=>h) (λr h hn=>absurd h hn)
 refine⟨rs,?_,g2,λj=>⟨λh=>(g3 j h).2,λh=>?_⟩⟩
 ·have hBS: ∃V,StW B rs []=S++V:=⟨_,by rw [show StW B rs []=B++[.dic (rD rs),.lst []]from rfl,hB,hS1];simp only [aA];rfl⟩
  obtain⟨V,hV⟩:=hBS
  refine jZ (T:=V) rfl ?_ (yLW _ _)
  show xD (zDM [some (.tup (ts.map tbl)),some (qM hs as),some (zG i),none,none,none,none,none,none] S)=_
  have f1:nQ [some (.tup (ts.map tbl)),some (qM hs as),some (zG i),none,none,none,none,none,none] S=.ok (.next [some (.tup (ts.map tbl)),some (qM hs as),some (zG i),some (.loc S.length),none,none,none,none,none]) S1:=by
   unfold nQ
   simp? [e1]
   rw [hS1]
  have hb: ∀a b c d e f g h i:Option MV,blk 1 [1,3] [a,b,c,d,e,f,g,h,i]=[none,b,d]:=λ_ _ _ _ _ _ _ _ _=>rfl
  have hl:(as.map aM).length<1000000:=by rw [lM];omega
  have f2:nR [some (.tup (ts.map tbl)),some (qM hs as),some (zG i),some (.loc S.length),none,none,none,none,none] S1=.ok (.next [some (.tup (ts.map tbl)),some (qM hs as),some (zG i),some (.loc S.length),some (.loc (S1.length+as.length)),none,none,none,none]) B:=by
   unfold nR
   simp? [zJI,zKR,hl,hb,hcl]
   rw [hB,lA,lM]
  have f3:nS [some (.tup (ts.map tbl)),some (qM hs as),some (zG i),some (.loc S.length),some (.loc (S1.length+as.length)),none,none,none,none] B=.ok (.next [some (.tup (ts.map tbl)),some (qM hs as),some (zG i),some (.loc S.length),some (.loc (S1.length+as.length)),some (.loc B.length),none,none,none]) (B++[.dic (rD [i])]):=by
   unfold nS
   simp? [d1J,yMB]
  have f4:nT [some (.tup (ts.map tbl)),some (qM hs as),some (zG i),some (.loc S.length),some (.loc (S1.length+as.length)),some (.loc B.length),none,none,none] (B++[.dic (rD [i])])=.ok (.next (SA ts (qM hs as) i S.length (S1.length+as.length) B.length none none)) (StW B [i] [i]):=by
   unfold nT
   simp? [lst1]
   rw [lA,aA]
   rfl
  unfold zDM
  rw [zD f1,zD f2,zD f3,zD f4,zD (show zFM _ _=_ from e5)]
  unfold zFN
  simp? [yHF (yHG B rs [])]
  rw [hV]
  rfl
 ·induction h with
  |self=>exact g1 i mF0
  |@step x j k hj hkn h1 h2 h3 ih=>exact g4 j ih k hkn ((yHJ hk j k).mpr ⟨x,h1,h2,h3⟩)
abbrev Pr:=Nat×Nat
def prM(p:Pr):MV:=.tup [zG p.1,zG p.2]
theorem yMC{p q:Pr}(h:prM p=prM q):p=q:=by
 unfold prM at h
 injection h with h
 injection h with h1 h
 injection h with h2 _
 exact Prod.ext (zTN h1) (zTN h2)
theorem yRF{p:Pr}{T:List Pr}:prM p∈T.map prM↔p∈T:=⟨λh=>by obtain⟨q,hq,e⟩:=mM.mp h;rw [<-yMC e];exact hq,λh=>mM.mpr ⟨p,h,rfl⟩⟩
theorem yAZ(T:List Pr): ∀y∈T.map prM,pd y=true/\dpt y<40:=λy hy=>by
 obtain⟨p,_,rfl⟩:=mM.mp hy
 unfold prM
 exact⟨by rw [zKQ,gC,gC,zMG,zTG,zTG];rfl,by rw [zJF,jH,jH,zJG,zMH,zMH];decide⟩
theorem pr_lo(T:List Pr)(n:Nat):loL n (T.map prM):=wK λd hd=>zRF (yAZ T d hd).1
def pLt(a b:Pr):Bool:=decide (a.1<b.1\/a.1=b.1/\a.2<b.2)
theorem zGS{α:Type}{le:α->α->Prop}: ∀{l1 l2:List α},l1.Perm l2->l1.Pairwise le->l2.Pairwise le->(∀a∈l1, ∀b∈l1,le a b->le b a->a=b)->l1=l2
 |[],l2,p,_,_,_=>p.nil_eq
 |a::l1,[],p,_,_,_=>by have:=p.length_eq;simp at this
 |a::l1,b::l2,p,h1,h2,u=>by
  have c1:=pairwise_cons.mp h1
  have c2:=pairwise_cons.mp h2
  have e:a=b:=by
   rcases mC.mp (p.mem_iff.mp (mF0 (a:=a) (l:=l1)))with e|m2
   ·exact e
   ·rcases mC.mp (p.mem_iff.mpr (mF0 (a:=b) (l:=l2)))with e|m1
    ·exact e.symm
    ·exact u a mF0 b (mO _ m1) (c1.1 b m1) (c2.1 a m2)
  subst e
  rw [zGS (p.cons_inv) c1.2 c2.2 λx hx y hy=>u x (mO _ hx) y (mO _ hy)]
theorem zOR{β:Type}(T:List β):(List.range T.length).filterMap (T[·]?)=T:=by
 induction T with
 |nil=>rfl
 |cons t T ih=>
  rw [lC,List.range_succ_eq_map,filterMap_cons,List.filterMap_map]
  show t::List.filterMap (λi=>(t::T)[i+1]?) (List.range T.length)=_
  simp only [List.getElem?_cons_succ]
  rw [ih]
theorem zOS(S:Sto)(a b:Pr):ltv S zN (prM a) (prM b)=some (pLt a b):=by
 have e:zN=38+1+1:=rfl
 rw [e]
 show((eqv S (38+1) (zG a.1) (zG b.1)).bind λz=>if z=true then((eqv S (38+1) (zG a.2) (zG b.2)).bind λz=>if z=true then some false else ltv S (38+1) (zG a.2) (zG b.2))else ltv S (38+1) (zG a.1) (zG b.1))=_
 rw [show eqv S (38+1) (zG a.1) (zG b.1)=some (decide ((a.1:Int)=b.1))from zHD 38 a.1 b.1,show eqv S (38+1) (zG a.2) (zG b.2)=some (decide ((a.2:Int)=b.2))from zHD 38 a.2 b.2]
 show(if decide ((a.1:Int)=b.1)=true then(if decide ((a.2:Int)=b.2)=true then some false else some (decide ((a.2:Int)<b.2)))else some (decide ((a.1:Int)<b.1)))=_
 unfold pLt
 split
 ·rename_i h
  have h:=of_decide_eq_true h
  split
  ·rename_i h2
   have h2:=of_decide_eq_true h2
   rw [dF0 (by omega)]
  ·exact congrArg some (dec_is (by omega))
 ·rename_i h
  have h: ¬(a.1:Int)=b.1:=λz=>h (dT0 z)
  exact congrArg some (dec_is (by omega))
theorem zLK{a b:Pr}:pLt a b=false↔ ¬(a.1<b.1\/a.1=b.1/\a.2<b.2):=by unfold pLt;exact decide_eq_false_iff_not
theorem zLL{a b:Pr}:pLt a b=true↔(a.1<b.1\/a.1=b.1/\a.2<b.2):=by unfold pLt;exact decide_eq_true_iff
theorem yBA{T R:List Pr}(pR:R.Perm T)(qR:R.Pairwise (λa b=>pLt b a=false))(hl:T.length<1000000){p:Er}{S:Sto}(hp:jM S p=some (T.map prM)):zNW [p] S=.ok (.new (R.map prM)) S:=by
 cases hT:T with
 |nil=>
  subst hT
  have e:R=[]:=pR.eq_nil
  subst e
  refine yAA hp ⟨by simp,λd hd=>by simp at hd,λd hd=>by simp at hd,⟨λa ha=>by simp at ha,λa ha=>by simp at ha,λa ha=>by simp at ha⟩⟩ (λr' h=>?_) ⟨[],by simp,.nil,rfl⟩
  obtain⟨idx,ip,_,rfl⟩:=h
  have:=ip.length_eq
  have e2:idx=[]:=List.eq_nil_of_length_eq_zero (by simpa using this)
  rw [e2];rfl
 |cons t0 T0=>
 have mem: ∀k∈T.map prM, ∃t,k=prM t:=λk hk=>by
  obtain⟨t,_,h2⟩:=mM.mp hk
  exact⟨t,h2.symm⟩
 have ok:SrtI S (T.map prM):=by
  refine⟨by rw [lM];exact hl,λd hd=>?_,λd hd=>?_,⟨λa ha b hb=>?_,λa ha b hb c hc h1 h2=>?_,λa ha b hb h1=>?_⟩⟩
  ·obtain⟨t,rfl⟩:=mem d hd
   simp [prM,zFK,zQK]
  ·obtain⟨t,rfl⟩:=mem d hd
   exact⟨_,_,rfl⟩
  ·obtain⟨t,rfl⟩:=mem a ha
   obtain⟨u,rfl⟩:=mem b hb
   exact⟨_,zOS S t u⟩
  ·obtain⟨t,rfl⟩:=mem a ha
   obtain⟨u,rfl⟩:=mem b hb
   obtain⟨v,rfl⟩:=mem c hc
   rw [zOS]at h1 h2 ⊢
   have h1:=zLK.mp (Option.some.inj h1)
   have h2:=zLK.mp (Option.some.inj h2)
   rw [zLK.mpr (by omega)]
  ·obtain⟨t,rfl⟩:=mem a ha
   obtain⟨u,rfl⟩:=mem b hb
   rw [zOS]at h1 ⊢
   have h1:=zLL.mp (Option.some.inj h1)
   rw [zLK.mpr (by omega)]
 refine yAA hp ok (λr' h=>?_) ?_
 ·obtain⟨idx,p',q',rfl⟩:=h
  rw [lM]at p'
  have e1:(idx.filterMap (T[·]?)).Perm T:=by
   have:=p'.filterMap (T[·]?)
   rwa [zOR]at this
  have e2:(idx.filterMap (T[·]?)).Pairwise (λa b=>pLt b a=false):=by
   rw [List.pairwise_filterMap]
   refine q'.imp λ{i j} h b hb c hc=>?_
   have h':=h (prM b) (prM c) (by rw [getElem?_map,hb];rfl) (by rw [getElem?_map,hc];rfl)
   rw [zOS]at h'
   exact Option.some.inj h'
  have e3:idx.filterMap ((T.map prM)[·]?)=(idx.filterMap (T[·]?)).map prM:=by
   rw [List.map_filterMap]
   congr 1
   funext i
   rw [getElem?_map]
  rw [e3,zGS (e1.trans pR.symm) e2 qR λa _ b _ h1 h2=>by
   have h1:=zLK.mp h1
   have h2:=zLK.mp h2
   exact Prod.ext (by omega) (by omega)]
 ·have g:(List.range T.length).map (λi=>(T[i]?).getD t0)=T:=by
   rw [zNR λi hi=>mem_range.mp hi,zOR]
  obtain⟨idx,ip,ie⟩:=zQL pR.symm (List.range T.length) g
  have ib: ∀i,i∈idx->i<T.length:=λi hi=>mem_range.mp (ip.mem_iff.mp hi)
  refine⟨idx,by rw [lM];exact ip,?_,?_⟩
  ·rw [<-ie,pairwise_map]at qR
   refine List.Pairwise.imp_of_mem (λ{i j} hi hj h a c ha hc=>?_) qR
   have zi:T[i]? =some (T[i]'(ib i hi)):=gE0 _
   have zj:T[j]? =some (T[j]'(ib j hj)):=gE0 _
   rw [getElem?_map,zi]at ha
   rw [getElem?_map,zj]at hc
   cases ha;cases hc
   rw [zi,zj]at h
   rw [zOS]
   exact congrArg some h
  ·have e2:idx.map (λi=>(T[i]?).getD t0)=idx.filterMap (T[·]?):=zNR ib
   rw [<-ie,e2,List.map_filterMap]
   congr 1
   funext i
   rw [getElem?_map]
theorem yMD(ds:List MV)(S:Sto):itE [.val (.tup ds)] S=.ok ⟨zUY ds,[]⟩ S:=rfl
abbrev CT(q:MV)(l:Nat)(p a:Option MV):Rho:=[some q,some (.loc l),p,a]
theorem yHK{q:MV}(S:Sto): ∀(as:List (Int×List MV))(k:Nat)(rs:List Nat)(p a:Option MV),rs.length+as.length<1000->(∀a∈as,0<=a.1)->(rs++as.map λa=>a.1.toNat).Nodup->
  ∃p' a' rs',kS (gTp 2 (yR (gNm 2) (yR (gNm 3) zBF))) kG [] (((as.map aM).zipIdx k).map λp=>.tup [.int (p.2:Nat),p.1]) (CT q S.length p a) (S++[.dic (rD rs)])=.ok (.next (CT q S.length p' a')) (S++[.dic (rD rs')])
 |[],k,rs,p,a,_,_,_=>⟨p,a,rs,rfl⟩
 |c::as,k,rs,p,a,hl,h0,hn=>by
  rw [lC]at hl
  have hc0:=h0 c mF0
  have hci:zG c.1.toNat=.int c.1:=by rw [show zG c.1.toNat=.int ((c.1.toNat:Nat):Int)from rfl,Int.toNat_of_nonneg hc0]
  rw [map_cons]at hn
  have hnot:c.1.toNat∉rs:=λz=>(nodup_append.mp hn).2.2 _ z _ mF0 rfl
  obtain⟨p',a',rs',ih⟩:=yHK (q:=q) S as (k+1) (rs++[c.1.toNat]) (some (.int (k:Nat))) (some (aM c)) (by rw [lA,lS];omega) (λb hb=>h0 b (mO _ hb)) (by rw [aA];exact hn)
  refine⟨p',a',rs',?_⟩
  have hin:=yHE false (zI S (.dic (rD rs))) c.1.toNat
  rw [dF0 hnot,iN xF0,hci]at hin
  have hst:=λρ=>yAX (zI S (.dic (rD rs))) (show rs.length<1000000 by omega) hnot ρ
  rw [hci]at hst
  have hix: ∀S:Sto,ixF (.val (aM c)) (.val (.int 0)) S=.ok (.val (.int c.1)) S:=λ_=>rfl
  have e1:wL (CT q S.length (some (.int (k:Nat))) (some (aM c))) (S++[.dic (rD rs)])=.ok (.next (CT q S.length (some (.int (k:Nat))) (some (aM c)))) (S++[.dic (rD rs)]):=by
   unfold wL
   simp? [hix,hin,fT,iF]
  have e2:wM (CT q S.length (some (.int (k:Nat))) (some (aM c))) (S++[.dic (rD rs)])=.ok (.next (CT q S.length (some (.int (k:Nat))) (some (aM c)))) (S++[.dic (rD (rs++[c.1.toNat]))]):=by
   unfold wM
   simp? [hix,zDE,hst,yZ]
  rw [map_cons,zipIdx_cons,map_cons,zW (ρ0:=CT q S.length (some (.int (k:Nat))) (some (aM c))) (S0:=S++[.dic (rD rs)]) rfl (by
   unfold kG
   rw [zD e1]
   exact e2) (yP _)]
  exact ih
theorem yBB{hs:List (List Nat)}{as:List (Int×List MV)}(hl:as.length<=4)(h0: ∀a∈as,0<=a.1)(hn:(as.map λa=>a.1.toNat).Nodup)(S:Sto):yA 1 yN [.val (qM hs as)] S=.ok (.val .non) S:=by
 obtain⟨p',a',rs',e⟩:=yHK (q:=qM hs as) S as 0 [] none none (by rw [length_nil];omega) h0 hn
 refine zEA (T:=[.dic (rD rs')]) rfl ?_ (zXU _) (λl=>by simp)
 show xD (jN [some (qM hs as),none,none,none] S)=_
 have e1:kH [some (qM hs as),none,none,none] S=.ok (.next (CT (qM hs as) S.length none none)) (S++[.dic (rD [])]):=by
  unfold kH
  simp? [zUZ]
  rfl
 unfold jN
 rw [zD e1]
 unfold cG
 simp? [zJI,yMD,zUY]
 rw [show(List.map (λp=>MV.tup [.int (p.2:Nat),p.1]) (List.map aM as).zipIdx)=(((as.map aM).zipIdx 0).map λp=>.tup [.int (p.2:Nat),p.1])from rfl,e]
 rfl
structure QOk(ts:List (Int×Int))(as:List (Int×List MV)):Prop where
 at': ∀a∈as,AOk ts a
 len:as.length<=4
 pos: ∀a∈as,0<=a.1
 nd:(as.map λa=>a.1.toNat).Nodup
 ne:1<=as.length
open Classical in
noncomputable def PR(R:Nat->Nat->Prop)(n:Nat):List Pr:=(List.range n).flatMap λa=>((List.range n).filter λb=>decide (b≠a/\R a b)).map λb=>(a,b)
open Classical in
theorem zCJ{R:Nat->Nat->Prop}{n:Nat}{p:Pr}:p∈PR R n↔p.1<n/\p.2<n/\p.2≠p.1/\R p.1 p.2:=by
 unfold PR
 rw [mem_flatMap]
 constructor
 ·rintro⟨a,ha,h⟩
  obtain⟨b,hb,rfl⟩:=mM.mp h
  rw [mem_filter]at hb
  exact⟨mem_range.mp ha,mem_range.mp hb.1,of_decide_eq_true hb.2⟩
 ·rintro⟨h1,h2,h3⟩
  exact⟨p.1,mem_range.mpr h1,mM.mpr ⟨p.2,mem_filter.mpr ⟨mem_range.mpr h2,dT0 h3⟩,rfl⟩⟩
theorem zWK(R:Nat->Nat->Prop)(n:Nat):(PR R n).Pairwise (λa b=>pLt a b=true):=by
 unfold PR
 rw [List.pairwise_flatMap]
 refine⟨λa _=>?_,?_⟩
 ·rw [pairwise_map]
  refine List.Pairwise.imp ?_ (List.Pairwise.filter _ List.pairwise_lt_range)
  intro x y h
  exact zLL.mpr (.inr ⟨rfl,h⟩)
 ·refine List.pairwise_lt_range.imp λ{a b} h x hx y hy=>?_
  obtain⟨_,_,rfl⟩:=mM.mp hx
  obtain⟨_,_,rfl⟩:=mM.mp hy
  exact zLL.mpr (.inl h)
theorem yBC(R:Nat->Nat->Prop)(n:Nat):(PR R n).Nodup:=(zWK R n).imp λ{a b} h e=>by
 subst e
 have:=zLL.mp h
 omega
theorem yME{S:Sto}{l:Nat}{ds es:List MV}(hS:S[l]? =some (.lst ds))(hz:ds.length+es.length<=1000000):extF (.val (.loc l)) [.new es] S=.ok (.val .non) (S.set l (.lst (ds++es))):=by
 show zIR (.val (.loc l)) S (λds=>if ds.length+es.length<=sizeLine then some (ds++es)else none)=_
 unfold zIR
 dsimp only
 rw [hS]
 dsimp only
 rw [iP (fits hz)]
section
variable{ts:List (Int×Int)}{hs:List (List Nat)}{as:List (Int×List MV)}
abbrev SW(ts:List (Int×Int))(q:MV)(p o:Option MV):Rho:=[some (.tup (ts.map tbl)),some q,p,o]
theorem yRG{i:Nat}{rs:List Nat}(Q:QOk ts as)(hi:i<as.length)(hn:rs.Nodup)(h: ∀j,j∈rs↔RcQ ts hs as i j):rs.length<=4:=by
 have:=zDR hn λx hx=>mem_range.mpr (yNC hi ((h x).mp hx))
 rw [length_range]at this
 have:=Q.len
 omega
theorem yHL(Q:QOk ts as)(S:Sto): ∀(m k:Nat)(T:List Pr)(o:Option MV),k+m=as.length->T.length<=4 * k->T.Nodup->(∀p,p∈T↔p.1<k/\p.2≠p.1/\RcQ ts hs as p.1 p.2)->
  ∃(T':List Pr)(o':Option MV),kS (gNm 3) zHF [] ((List.range' k m).map zG) (SW ts (qM hs as) (some (.loc S.length)) o) (S++[.lst (T.map prM)])=.ok (.next (SW ts (qM hs as) (some (.loc S.length)) o')) (S++[.lst (T'.map prM)])/\T'.length<=16/\T'.Nodup/\ ∀p,p∈T'↔p.1<as.length/\p.2≠p.1/\RcQ ts hs as p.1 p.2
 |0,k,T,o,hk,hl,hn,h=>⟨T,o,rfl,by have:=Q.len;omega,hn,by rw [<-hk];exact h⟩
 |m+1,k,T,o,hk,hl,hn,h=>by
  have hki:k<as.length:=by omega
  obtain⟨rs,e1,hrn,hrs⟩:=yDB (hs:=hs) Q.at' Q.len hki (S++[.lst (T.map prM)])
  have hrl:=yRG Q hki hrn hrs
  have hql:=Q.len
  have hc:yY (gNm 0) zGO zGP [none,some (zG k)] [] (rs.map zG) (S++[.lst (T.map prM)])=.ok (((rs.filter λb=>!decide (b=k)).map λb=>(k,b)).map prM) (S++[.lst (T.map prM)]):=by
   rw [map_map]
   exact zFB (yP _) λb _=>⟨[some (zG b),some (zG k)],rfl,by
    unfold zGO
    simp? [ne_int]
    rw [dec_is (show(b:Int)=k↔b=k by omega)],by
    unfold zGP
    simp? [tup2]
    rfl⟩
  obtain⟨N,eN⟩: ∃N:List Pr,N=(rs.filter λb=>!decide (b=k)).map λb=>(k,b):=⟨_,rfl⟩
  rw [<-eN]at hc
  have hNl:N.length<=4:=by rw [eN,lM];exact le_trans (length_filter_le _ _) hrl
  have hNm: ∀p,p∈N↔p.1=k/\p.2≠p.1/\RcQ ts hs as p.1 p.2:=λp=>by
   rw [eN,mM]
   constructor
   ·rintro⟨b,hb,rfl⟩
    rw [mem_filter,hrs]at hb
    refine⟨rfl,λe=>?_,hb.1⟩
    have h2:=hb.2
    rw [dT0 (show b=k from e)]at h2
    cases h2
   ·rintro⟨h1,h2,h3⟩
    refine⟨p.2,?_,Prod.ext h1.symm rfl⟩
    rw [mem_filter,hrs, <-h1,dF0 h2]
    exact⟨h3,rfl⟩
  have hNn:N.Nodup:=by
   rw [eN]
   unfold List.Nodup
   rw [pairwise_map]
   exact(List.Pairwise.filter _ hrn).imp λ{x y} h e=>h (congrArg Prod.snd e)
  have hl1:(rs.map zG).length<1000000:=by rw [lM];omega
  have hz:(T.map prM).length+(N.map prM).length<=1000000:=by rw [lM,lM];omega
  have hb: ∀a b c d:Option MV,blk 1 [3] [a,b,c,d]=[none,d]:=λ_ _ _ _=>rfl
  have eb:zHF (SW ts (qM hs as) (some (.loc S.length)) (some (zG k))) (S++[.lst (T.map prM)])=.ok (.next (SW ts (qM hs as) (some (.loc S.length)) (some (zG k)))) (S++[.lst ((T++N).map prM)]):=by
   unfold zHF zLH
   simp? [xS (zI S (.lst (T.map prM))),e1,zFA,hl1,hb,hc,yME (zI S (.lst (T.map prM))) hz,yZ]
   rw [map_append]
  obtain⟨T',o',e,g⟩:=yHL Q S m (k+1) (T++N) (some (zG k)) (by omega) (by rw [lA];omega) (nodup_append.mpr ⟨hn,hNn,λx hx y hy=>by
   rintro rfl
   have h1:=(h x).mp hx
   have h2:=(hNm x).mp hy
   omega⟩) (λp=>by
   rw [mem_append,h,hNm]
   constructor
   ·rintro(⟨a,b,c⟩|⟨a,b,c⟩)
    ·exact⟨by omega,b,c⟩
    ·exact⟨by omega,b,c⟩
   ·rintro⟨a,b,c⟩
    by_cases hpk:p.1=k
    ·exact .inr ⟨hpk,b,c⟩
    ·exact .inl ⟨by omega,b,c⟩)
  refine⟨T',o',?_,g⟩
  rw [range'_succ,map_cons,zW (ρ0:=(SW ts (qM hs as) (some (.loc S.length)) (some (zG k)))) rfl eb (yP _)]
  exact e
noncomputable abbrev PQ(ts:List (Int×Int))(hs:List (List Nat))(as:List (Int×List MV)):List Pr:=PR (RcQ ts hs as) as.length
theorem zJJ(Q:QOk ts as)(S:Sto):yA 2 zCY [.val (.tup (ts.map tbl)),.val (qM hs as)] S=.ok (.new ((PQ ts hs as).map prM)) S:=by
 obtain⟨T',o',e,hl,hn,hT⟩:=yHL (hs:=hs) Q S as.length 0 [] none (by omega) (le_refl _) nodup_nil (λp=>⟨λh=>by simp at h,λh=>absurd h.1 (Nat.not_lt_zero _)⟩)
 refine jZ (T:=[.lst (T'.map prM)]) rfl ?_ (pr_lo _ _)
 show xD (zSU (SW ts (qM hs as) none none) S)=_
 have e1:zKI (SW ts (qM hs as) none none) S=.ok (.next (SW ts (qM hs as) none none)) S:=by
  unfold zKI
  simp? [yBB Q.len Q.pos Q.nd]
 have e2:zKJ (SW ts (qM hs as) none none) S=.ok (.next (SW ts (qM hs as) (some (.loc S.length)) none)) (S++[.lst []]):=by
  unfold zKJ
  simp? [bok]
 have hlen:=Q.len
 have e3:zKK (SW ts (qM hs as) (some (.loc S.length)) none) (S++[.lst []])=.ok (.next (SW ts (qM hs as) (some (.loc S.length)) o')) (S++[.lst (T'.map prM)]):=by
  unfold zKK
  simp? [zJI,zJE,lM,zPH (n:=as.length) (by omega)]
  rw [List.range_eq_range']
  exact e
 have hp:(PQ ts hs as).Perm T':=(List.perm_ext_iff_of_nodup (yBC _ _) hn).mpr λp=>by
  rw [zCJ,hT]
  exact⟨λh=>⟨h.1,h.2.2⟩,λh=>⟨h.1,yNC h.1 h.2.2,h.2⟩⟩
 have hs4:=yBA hp ((zWK _ _).imp λ{a b} h=>zLK.mpr (by have:=zLL.mp h;omega)) (by omega) (zBK (zI S (.lst (T'.map prM))))
 unfold zSU
 rw [zD e1,zD e2,zD e3]
 unfold zRB
 simp? [hs4]
 rfl
noncomputable def rgP(L:List Pr):Option Pr:=L.find? λp=>decide ((p.2,p.1)∈L)
def rgE:Option Pr->Er
 |none=>.val .non
 |some p=>.new [zG p.1,zG p.2]
def rgR:Option Pr->Rho->Fl
 |none,ρ=>.next ρ
 |some p,_=>.ret (.new [zG p.1,zG p.2])
abbrev RG(ts:List (Int×Int))(q:MV)(l:Nat)(a b:Option MV):Rho:=[some (.tup (ts.map tbl)),some q,some (.loc l),a,b]
theorem yHM{q:MV}{L:List Pr}{S:Sto}{l:Nat}(hS:S[l]? =some (.lst (L.map prM))): ∀(M:List Pr)(a b:Option MV), ∃a' b',kS (gTp 2 (yR (gNm 3) (yR (gNm 4) zBF))) zJD [(l,L.map prM)] (M.map prM) (RG ts q l a b) S=.ok (rgR (M.find? λp=>decide ((p.2,p.1)∈L)) (RG ts q l a' b')) S
 |[],a,b=>⟨a,b,rfl⟩
 |p::M,a,b=>by
  have hin:=zJH false hS (yAZ [(p.2,p.1)] (prM (p.2,p.1)) mF0).1 (yAZ L)
  rw [iN xF0,dec_is (yRF (p:=(p.2,p.1)) (T:=L))]at hin
  have hin:inF false (.val (.tup [zG p.2,zG p.1])) (.val (.loc l)) S=.ok (.val (.bl (decide ((p.2,p.1)∈L)))) S:=hin
  rw [map_cons]
  by_cases hp:(p.2,p.1)∈L
  ·rw [dT0 hp]at hin
   refine⟨a,b,?_⟩
   rw [List.find?_cons_of_pos (by exact dT0 hp)]
   refine yKM (ρ0:=RG ts q l (some (zG p.1)) (some (zG p.2))) (S0:=S) rfl ?_
   unfold zJD zIF
   simp? [tup2,hin,lst2]
  ·rw [dF0 hp]at hin
   obtain⟨a',b',e⟩:=yHM (q:=q) hS M (some (zG p.1)) (some (zG p.2))
   refine⟨a',b',?_⟩
   rw [List.find?_cons_of_neg (by rw [dF0 hp];exact xF0)]
   rw [zW (ρ0:=RG ts q l (some (zG p.1)) (some (zG p.2))) (S0:=S) rfl (by
    unfold zJD zIF
    simp? [tup2,hin,fT,iF]
    rfl) (zEC hS)]
   exact e
theorem zTO(Q:QOk ts as)(S:Sto):yA 2 zSV [.val (.tup (ts.map tbl)),.val (qM hs as)] S=.ok (rgE (rgP (PQ ts hs as))) S:=by
 obtain⟨L,hL⟩: ∃L,L=PQ ts hs as:=⟨_,rfl⟩
 rw [<-hL]
 have hsw:=zJJ (hs:=hs) Q S
 rw [<-hL]at hsw
 obtain⟨a',b',e⟩:=yHM (ts:=ts) (q:=qM hs as) (L:=L) (zI S (.lst (L.map prM))) L none none
 have e1:zOC [some (.tup (ts.map tbl)),some (qM hs as),none,none,none] S=.ok (.next (RG ts (qM hs as) S.length none none)) (S++[.lst (L.map prM)]):=by
  unfold zOC
  simp? [hsw]
 have e2:zOD (RG ts (qM hs as) S.length none none) (S++[.lst (L.map prM)])=.ok (rgR (rgP L) (RG ts (qM hs as) S.length a' b')) (S++[.lst (L.map prM)]):=by
  unfold zOD
  simp? [zIT (zI S (.lst (L.map prM)))]
  exact e
 have hF: ∀_:Unit,xD (zYF [some (.tup (ts.map tbl)),some (qM hs as),none,none,none] S)=.ok (rgE (rgP L)) (S++[.lst (L.map prM)]):=λ_=>by
  unfold zYF
  rw [zD e1]
  cases hr:rgP L with
  |none=>
   rw [hr]at e2
   rw [zD e2]
   rfl
  |some p=>
   rw [hr]at e2
   rw [zHE e2]
   rfl
 have hF:=hF ()
 cases hr:rgP L with
 |none=>
  rw [hr]at hF
  exact zEA (T:=[.lst (L.map prM)]) rfl hF (zXU _) (λl=>by simp)
 |some p=>
  rw [hr]at hF
  exact jZ (T:=[.lst (L.map prM)]) rfl hF (wK λd hd=>by
   rcases mC.mp hd with rfl|hd
   ·exact zDH _ _
   ·rw [mS.mp hd]
    exact zDH _ _)
end
def abc:List Nat:=[97,98,99,100,101,102,103,104,105,106,107,108,109,110,111,112,113,114,115,116,117,118,119,120,121,122]
theorem zYJ(i:Int)(S:Sto): ∃k,ixF (.val (.str abc)) (.val (.int (i % 26))) S=.ok (.val (.str [k])) S:=by
 obtain⟨k,hk⟩:=zIS (xs:=abc) (i:=i % 26) (eN0 _ (by decide)) (by have:=eL i (show(0:Int)<26 by decide);show i % 26<26;exact this)
 exact⟨k,ix_str (show abc.length<=sizeLine by rw [sizeLine_eq];decide) hk⟩
theorem addS{x y:List Nat}(h:x.length+y.length<=1000)(S:Sto):wT (.val (.str x)) (.val (.str y)) S=.ok (.val (.str (x++y))) S:=add_str (fits (by omega))
abbrev NI(c:Int)(m:Option MV)(x:List Nat)(o:Option MV):Rho:=[some (.int c),some (.str abc),m,some (.str x),o]
theorem yHN(m:Option MV)(S:Sto): ∀(ds:List MV)(c:Int)(x:List Nat)(o:Option MV),x.length+ds.length<=900-> ∃c' x' o',kS (gNm 4) cU [] ds (NI c m x o) S=.ok (.next (NI c' m x' o')) S/\x'.length=x.length+ds.length
 |[],c,x,o,_=>⟨c,x,o,rfl,rfl⟩
 |d::ds,c,x,o,h=>by
  rw [lC]at h
  obtain⟨k,hk⟩:=zYJ c S
  have e1:gP (NI c m x (some d)) S=.ok (.next (NI c m (x++[k]) (some d))) S:=by
   unfold gP
   simp? [mod_lit (show(0:Int)<26 by decide),hk,addS (x:=x) (y:=[k]) (by rw [lS];omega)]
  have e2:gQ (NI c m (x++[k]) (some d)) S=.ok (.next (NI (c / 26) m (x++[k]) (some d))) S:=by
   unfold gQ
   simp? [zY (b:=26) (by decide) (by decide)]
  obtain⟨c',x',o',e,hl⟩:=yHN m S ds (c / 26) (x++[k]) (some d) (by rw [lA,lS];omega)
  refine⟨c',x',o',?_,by rw [hl,lA,lS,lC];omega⟩
  rw [zW (ρ0:=NI c m x (some d)) rfl (by
   unfold cU
   rw [zD e1]
   exact e2) (yP _)]
  exact e
theorem yBD(c:Int)(S:Sto): ∃x c',yA 1 wO [.val (.int c)] S=.ok (.val (.tup [.str x,.int c'])) S/\x.length<=8:=by
 have h0:=eN0 c (show(8:Int)≠0 by decide)
 have h1:=eL c (show(0:Int)<8 by decide)
 obtain⟨c',x',o',e,hl⟩:=yHN (some (.int (1+c % 8))) S ((List.range (1+c % 8).toNat).map λk=>.int (k:Nat)) (c / 8) [] none (by rw [lM,length_range,length_nil];omega)
 rw [lM,length_range,length_nil]at hl
 refine⟨x',c',?_,by omega⟩
 refine zEB rfl ?_ (nO (wK λd hd=>by
  rcases mC.mp hd with rfl|hd
  ·exact zJX _ _
  ·rw [mS.mp hd];exact zDH _ _)) (λl=>by simp)
 show xD (zBV [some (.int c),none,none,none,none] S)=_
 have e1:cV [some (.int c),none,none,none,none] S=.ok (.next [some (.int c),some (.str abc),none,none,none]) S:=by
  unfold cV
  simp? [bok]
  rfl
 have e2:cW [some (.int c),some (.str abc),none,none,none] S=.ok (.next [some (.int c),some (.str abc),some (.int (1+c % 8)),none,none]) S:=by
  unfold cW
  simp? [mod_lit (show(0:Int)<8 by decide)]
 have e3:cX [some (.int c),some (.str abc),some (.int (1+c % 8)),none,none] S=.ok (.next [some (.int (c / 8)),some (.str abc),some (.int (1+c % 8)),none,none]) S:=by
  unfold cX
  simp? [zY (b:=8) (by decide) (by decide)]
 have e4:cY [some (.int (c / 8)),some (.str abc),some (.int (1+c % 8)),none,none] S=.ok (.next (NI (c / 8) (some (.int (1+c % 8))) [] none)) S:=by
  unfold cY
  simp? [bok]
 have e5:cZ (NI (c / 8) (some (.int (1+c % 8))) [] none) S=.ok (.next (NI c' (some (.int (1+c % 8))) x' o')) S:=by
  unfold cZ
  simp? [zSE (show -(2 ^ 62)<=(1+c % 8)/\(1+c % 8)<2 ^ 62 by omega)]
  exact e
 unfold zBV
 rw [zD e1,zD e2,zD e3,zD e4,zD e5]
 unfold zEG
 simp? [tup2]
 rfl
abbrev WD(c:Int)(l:Nat)(k w o:Option MV):Rho:=[some (.int c),some (.int 6),some (.loc l),k,w,o]
abbrev Ws(ws:List (List Nat)):Prop:= ∀x∈ws,x.length<=8
theorem zYK{c:Int}{k:Option MV}{ws:List (List Nat)}(S:Sto): ∀(ds:List (List Nat))(x:List Nat)(o:Option MV),x.length<=8->(∀d∈ds,d.length=1)-> ∃x' o',kS (gNm 5) yU [] (ds.map MV.str) (WD c S.length k (some (.str x)) o) (S++[.lst (ws.map MV.str)])=.ok (.next (WD c S.length k (some (.str x')) o')) (S++[.lst (ws.map MV.str)])/\x'.length<=8
 |[],x,o,h,_=>⟨x,o,rfl,h⟩
 |d::ds,x,o,h,hd=>by
  have hd1:=hd d mF0
  have hin:=zJH false (zI S (.lst (ws.map MV.str))) (zCI x) zMI
  rw [iN xF0]at hin
  by_cases hm:MV.str x∈ws.map MV.str
  ·rw [dT0 hm]at hin
   have ht:(x.take 7).length<=7:=by rw [lT];omega
   obtain⟨x',o',e,hl⟩:=zYK (c:=c) (k:=k) (ws:=ws) S ds (x.take 7++d) (some (.str d)) (by rw [lA];omega) (λy hy=>hd y (mO _ hy))
   refine⟨x',o',?_,hl⟩
   rw [map_cons,zW (ρ0:=WD c S.length k (some (.str x)) (some (.str d))) (ρ':=WD c S.length k (some (.str (x.take 7++d))) (some (.str d))) (S':=S++[.lst (ws.map MV.str)]) rfl (by
    unfold yU xL
    simp? [hin,cut_str (fits (show x.length<=1000000 by omega)),zCS x 7 (by decide),show(7:Int).toNat=7 from rfl,addS (x:=x.take 7) (y:=d) (by omega)]) (yP _)]
   exact e
  ·rw [dF0 hm]at hin
   obtain⟨x',o',e,hl⟩:=zYK (c:=c) (k:=k) (ws:=ws) S ds x (some (.str d)) h (λy hy=>hd y (mO _ hy))
   refine⟨x',o',?_,hl⟩
   rw [map_cons,zW (ρ0:=WD c S.length k (some (.str x)) (some (.str d))) (ρ':=WD c S.length k (some (.str x)) (some (.str d))) (S':=S++[.lst (ws.map MV.str)]) rfl (by
    unfold yU xL
    simp? [hin,fT,iF]) (yP _)]
   exact e
def abj:List Nat:=[97,98,99,100,101,102,103,104,105,106]
theorem yHO(S:Sto): ∀(ds:List MV)(c:Int)(ws:List (List Nat))(k w o:Option MV),ws.length+ds.length<=100->Ws ws-> ∃c' ws' k' w' o',kS (gNm 3) wB [] ds (WD c S.length k w o) (S++[.lst (ws.map MV.str)])=.ok (.next (WD c' S.length k' w' o')) (S++[.lst (ws'.map MV.str)])/\ws'.length=ws.length+ds.length/\Ws ws'
 |[],c,ws,k,w,o,_,h=>⟨c,ws,k,w,o,rfl,rfl,h⟩
 |d::ds,c,ws,k,w,o,hl,h=>by
  rw [lC]at hl
  obtain⟨x,c1,e1,hx⟩:=yBD c (S++[.lst (ws.map MV.str)])
  have f1:xM (WD c S.length (some d) w o) (S++[.lst (ws.map MV.str)])=.ok (.next (WD c1 S.length (some d) (some (.str x)) o)) (S++[.lst (ws.map MV.str)]):=by
   unfold xM
   simp? [e1,zDE]
   rfl
  obtain⟨x',o',e2,hx'⟩:=zYK (c:=c1) (k:=some d) (ws:=ws) S (abj.map λc=>[c]) x o hx (by decide)
  have f2:xN (WD c1 S.length (some d) (some (.str x)) o) (S++[.lst (ws.map MV.str)])=.ok (.next (WD c1 S.length (some d) (some (.str x')) o')) (S++[.lst (ws.map MV.str)]):=by
   unfold xN
   simp? [bok]
   exact e2
  have f3:xO (WD c1 S.length (some d) (some (.str x')) o') (S++[.lst (ws.map MV.str)])=.ok (.next (WD c1 S.length (some d) (some (.str x')) o')) (S++[.lst ((ws++[x']).map MV.str)]):=by
   unfold xO
   simp? [xS (zI S (.lst (ws.map MV.str))),dX (zI S (.lst (ws.map MV.str))) (show(ws.map MV.str).length<1000000 by rw [lM];omega),yZ]
   rw [map_append]
   rfl
  obtain⟨c',ws',k',w',o'',e,g1,g2⟩:=yHO S ds c1 (ws++[x']) (some d) (some (.str x')) o' (by rw [lA,lS];omega) (λy hy=>by
   rcases mem_append.mp hy with hy|hy
   ·exact h y hy
   ·rw [mS.mp hy];exact hx')
  refine⟨c',ws',k',w',o'',?_,by rw [g1,lA,lS,lC];omega,g2⟩
  rw [zW (ρ0:=WD c S.length (some d) w o) rfl (by
   unfold wB
   rw [zD f1,zD f2]
   exact f3) (yP _)]
  exact e
theorem zHI(ws:List (List Nat))(n:Nat):loL n (ws.map MV.str):=wK λd hd=>by
 obtain⟨x,_,rfl⟩:=mM.mp hd
 exact zJX _ _
theorem yDC(c:Int)(S:Sto): ∃ws:List (List Nat),ws.length=6/\Ws ws/\yA 2 xF [.val (.int c),.val (.int 6)] S=.ok (.new (ws.map MV.str)) S:=by
 obtain⟨c',ws,k,w,o,e,hl,hw⟩:=yHO S ((List.range 6).map λk=>.int (k:Nat)) c [] none none none (by decide) (λx hx=>by simp at hx)
 refine⟨ws,hl,hw,?_⟩
 refine zFY (T:=[.lst (ws.map MV.str)]) rfl ?_ (le_refl _) (zI _ _) (zHI _ _)
 show xD (wW [some (.int c),some (.int 6),none,none,none,none] S)=_
 have e1:wC [some (.int c),some (.int 6),none,none,none,none] S=.ok (.next (WD c S.length none none none)) (S++[.lst []]):=by
  unfold wC
  simp? [bok]
 have e2:wD (WD c S.length none none none) (S++[.lst []])=.ok (.next (WD c' S.length k w o)) (S++[.lst (ws.map MV.str)]):=by
  unfold wD
  simp? [rng6]
  exact e
 unfold wW
 rw [zD e1,zD e2]
 unfold hX
 simp? [bok]
 rfl
abbrev WW(c:Int)(g s:Option MV)(l:Nat)(k w j z:Option MV):Rho:=[some (.int c),some (.int 6),some (.str abc),g,s,some (.loc l),k,w,j,z]
abbrev WV(c:Int)(a g s l:Option MV):Rho:=[some (.int c),some (.int 6),a,g,s,l,none,none,none,none]
theorem yMF(c g s:Int)(l k j:Nat)(hj:j<100)(x:List Nat)(hx:x.length<=100)(z:Option MV)(S:Sto): ∃a z',bD (WW c (some (.int g)) (some (.int s)) l (some (zG k)) (some (.str x)) (some (zG j)) z) S=.ok (.next (WW c (some (.int g)) (some (.int s)) l (some (zG k)) (some (.str (x++[a]))) (some (zG j)) z')) S:=by
 obtain⟨v,hv⟩: ∃v:Int,v=c / (49+5 * (j:Int))+(j:Int) * (c / 49 % 3):=⟨_,rfl⟩
 have e1:dA (WW c (some (.int g)) (some (.int s)) l (some (zG k)) (some (.str x)) (some (zG j)) z) S=.ok (.next (WW c (some (.int g)) (some (.int s)) l (some (zG k)) (some (.str x)) (some (zG j)) (some (.int v)))) S:=by
  unfold dA
  simp? [nA (a:=5) (show -(2 ^ 64)<(5:Int)/\(5:Int)<2 ^ 64 by decide),zY (b:=49+5 * (j:Int)) (by omega) (by omega),zY (b:=49) (by decide) (by decide),mod_lit (show(0:Int)<3 by decide),nA (a:=(j:Int)) (show -(2 ^ 64)<(j:Int)/\(j:Int)<2 ^ 64 by omega)]
  rw [hv]
 obtain⟨u,e2⟩: ∃u:Int,dB (WW c (some (.int g)) (some (.int s)) l (some (zG k)) (some (.str x)) (some (zG j)) (some (.int v))) S=.ok (.next (WW c (some (.int g)) (some (.int s)) l (some (zG k)) (some (.str x)) (some (zG j)) (some (.int u)))) S:=by
  unfold dB
  by_cases h:(j:Int)=s
  ·refine⟨v+3 * (k:Int),?_⟩
   simp? [h,decide_true,nA (a:=3) (show -(2 ^ 64)<(3:Int)/\(3:Int)<2 ^ 64 by decide)]
  ·refine⟨v,?_⟩
   simp? [h,decide_false,fT,iF]
 obtain⟨a,ha⟩:=zYJ u S
 refine⟨a,some (.int u),?_⟩
 unfold bD
 rw [zD e1,zD e2]
 unfold zEH
 simp? [mod_lit (show(0:Int)<26 by decide),ha,addS (x:=x) (y:=[a]) (by rw [lS];omega)]
theorem yHP(c g s:Int)(l k:Nat)(S:Sto): ∀(js:List Nat),(∀j∈js,j<100)-> ∀(x:List Nat)(j z:Option MV),x.length+js.length<=100-> ∃x' j' z',kS (gNm 8) bD [] (js.map zG) (WW c (some (.int g)) (some (.int s)) l (some (zG k)) (some (.str x)) j z) S=.ok (.next (WW c (some (.int g)) (some (.int s)) l (some (zG k)) (some (.str x')) j' z')) S/\x'.length=x.length+js.length
 |[],_,x,j,z,_=>⟨x,j,z,rfl,rfl⟩
 |i::js,hj,x,j,z,h=>by
  rw [lC]at h
  obtain⟨a,z1,e1⟩:=yMF c g s l k i (hj i mF0) x (by omega) z S
  obtain⟨x',j',z',e,hl⟩:=yHP c g s l k S js (λy hy=>hj y (mO _ hy)) (x++[a]) (some (zG i)) z1 (by rw [lA,lS];omega)
  refine⟨x',j',z',?_,by rw [hl,lA,lS,lC];omega⟩
  rw [map_cons,zW (ρ0:=WW c (some (.int g)) (some (.int s)) l (some (zG k)) (some (.str x)) (some (zG i)) z) rfl e1 (yP _)]
  exact e
theorem yHQ(c g s:Int)(hg:1<=g/\g<=7)(S:Sto): ∀(ks:List Nat)(ws:List (List Nat))(k w j z:Option MV),ws.length+ks.length<=100->(∀x∈ws,x.length<=7)-> ∃(ws':List (List Nat))(k' w' j' z':Option MV),kS (gNm 6) zBW [] (ks.map zG) (WW c (some (.int g)) (some (.int s)) S.length k w j z) (S++[.lst (ws.map MV.str)])=.ok (.next (WW c (some (.int g)) (some (.int s)) S.length k' w' j' z')) (S++[.lst (ws'.map MV.str)])/\ws'.length=ws.length+ks.length/\ ∀x∈ws',x.length<=7
 |[],ws,k,w,j,z,_,h=>⟨ws,k,w,j,z,rfl,rfl,h⟩
 |i::ks,ws,k,w,j,z,hl,h=>by
  rw [lC]at hl
  have f1:dC (WW c (some (.int g)) (some (.int s)) S.length (some (zG i)) w j z) (S++[.lst (ws.map MV.str)])=.ok (.next (WW c (some (.int g)) (some (.int s)) S.length (some (zG i)) (some (.str [])) j z)) (S++[.lst (ws.map MV.str)]):=by
   unfold dC
   simp? [bok]
  obtain⟨x,j1,z1,e2,hx⟩:=yHP c g s S.length i (S++[.lst (ws.map MV.str)]) (List.range g.toNat) (λy hy=>by have:=mem_range.mp hy;omega) [] j z (by rw [length_nil,length_range];omega)
  rw [length_nil,length_range]at hx
  have f2:dD (WW c (some (.int g)) (some (.int s)) S.length (some (zG i)) (some (.str [])) j z) (S++[.lst (ws.map MV.str)])=.ok (.next (WW c (some (.int g)) (some (.int s)) S.length (some (zG i)) (some (.str x)) j1 z1)) (S++[.lst (ws.map MV.str)]):=by
   unfold dD
   simp? [zSE (show -(2 ^ 62)<=g/\g<2 ^ 62 by omega)]
   exact e2
  have f3:dE (WW c (some (.int g)) (some (.int s)) S.length (some (zG i)) (some (.str x)) j1 z1) (S++[.lst (ws.map MV.str)])=.ok (.next (WW c (some (.int g)) (some (.int s)) S.length (some (zG i)) (some (.str x)) j1 z1)) (S++[.lst ((ws++[x]).map MV.str)]):=by
   unfold dE
   simp? [xS (zI S (.lst (ws.map MV.str))),dX (zI S (.lst (ws.map MV.str))) (show(ws.map MV.str).length<1000000 by rw [lM];omega),yZ]
   rw [map_append]
   rfl
  obtain⟨ws',k',w',j',z',e,g1,g2⟩:=yHQ c g s hg S ks (ws++[x]) (some (zG i)) (some (.str x)) j1 z1 (by rw [lA,lS];omega) (λy hy=>by
   rcases mem_append.mp hy with hy|hy
   ·exact h y hy
   ·rw [mS.mp hy];omega)
  refine⟨ws',k',w',j',z',?_,by rw [g1,lA,lS,lC];omega,g2⟩
  rw [map_cons,zW (ρ0:=WW c (some (.int g)) (some (.int s)) S.length (some (zG i)) w j z) rfl (by
   unfold zBW
   rw [zD f1,zD f2]
   exact f3) (yP _)]
  exact e
theorem yHR(c:Int)(S:Sto): ∃ws:List (List Nat),ws.length=6/\Ws ws/\yA 2 zAZ [.val (.int c),.val (.int 6)] S=.ok (.new (ws.map MV.str)) S:=by
 by_cases h2:c % 2=0
 ·obtain⟨ws,hl,hw,e⟩:=yDC (c / 2) S
  refine⟨ws,hl,hw,?_⟩
  refine jZ (T:=[]) rfl ?_ (zHI _ _)
  rw [aN]
  show xD (bE (WV c none none none none) S)=_
  have e1:kX (WV c none none none none) S=.ok (.ret (.new (ws.map MV.str))) S:=by
   unfold kX
   simp? [mod_lit (show(0:Int)<2 by decide),h2,decide_true,zY (b:=2) (by decide) (by decide),e]
  unfold bE
  rw [zHE e1]
  rfl
 ·obtain⟨d,hd⟩: ∃d:Int,d=c * 69621 % 2147483629 * 48271 % 2147483647:=⟨_,rfl⟩
  have h0:=eN0 d (show(7:Int)≠0 by decide)
  have h1:=eL d (show(0:Int)<7 by decide)
  obtain⟨g,hg⟩: ∃g:Int,g=1+d % 7:=⟨_,rfl⟩
  obtain⟨s,hs⟩: ∃s:Int,s=d / 7 % g:=⟨_,rfl⟩
  obtain⟨ws,k,w,j,z,e7,hl,hw⟩:=yHQ d g s (by omega) S (List.range 6) [] none none none none (by decide) (λx hx=>by simp at hx)
  have hl:ws.length=6:=hl
  have f1:kX (WV c none none none none) S=.ok (.next (WV c none none none none)) S:=by
   unfold kX
   simp? [mod_lit (show(0:Int)<2 by decide),h2,decide_false,fT,iF]
  have f2:zBX (WV c none none none none) S=.ok (.next (WV c (some (.str abc)) none none none)) S:=by
   unfold zBX
   simp? [bok]
   rfl
  have f3:zBY (WV c (some (.str abc)) none none none) S=.ok (.next (WV d (some (.str abc)) none none none)) S:=by
   unfold zBY
   simp? [zSD (show -(2 ^ 64)<(69621:Int)/\(69621:Int)<2 ^ 64 by decide),mod_lit (show(0:Int)<2147483629 by decide),zSD (show -(2 ^ 64)<(48271:Int)/\(48271:Int)<2 ^ 64 by decide),mod_lit (show(0:Int)<2147483647 by decide)]
   rw [hd]
  have f4:zBZ (WV d (some (.str abc)) none none none) S=.ok (.next (WV d (some (.str abc)) (some (.int g)) none none)) S:=by
   unfold zBZ
   simp? [mod_lit (show(0:Int)<7 by decide)]
   rw [hg]
  have f5:zCA (WV d (some (.str abc)) (some (.int g)) none none) S=.ok (.next (WV d (some (.str abc)) (some (.int g)) (some (.int s)) none)) S:=by
   unfold zCA
   simp? [zY (b:=7) (by decide) (by decide),mod_lit (show(0:Int)<g by omega)]
   rw [hs]
  have f6:zCB (WV d (some (.str abc)) (some (.int g)) (some (.int s)) none) S=.ok (.next (WW d (some (.int g)) (some (.int s)) S.length none none none none)) (S++[.lst []]):=by
   unfold zCB
   simp? [bok]
  have f7:zCC (WW d (some (.int g)) (some (.int s)) S.length none none none none) (S++[.lst []])=.ok (.next (WW d (some (.int g)) (some (.int s)) S.length k w j z)) (S++[.lst (ws.map MV.str)]):=by
   unfold zCC
   simp? [rng6]
   exact e7
  obtain⟨ws',e8,hl',hw'⟩: ∃ws':List (List Nat),zCD (WW d (some (.int g)) (some (.int s)) S.length k w j z) (S++[.lst (ws.map MV.str)])=.ok (.next (WW d (some (.int g)) (some (.int s)) S.length k w j z)) (S++[.lst (ws'.map MV.str)])/\ws'.length=6/\Ws ws':=by
   unfold zCD
   by_cases h4:d / 49 % 4=1
   ·obtain⟨a,ha⟩:=zYJ (d / 196) (S++[.lst (ws.map MV.str)])
    have hx:ws[0]? =some (ws[0]'(by omega)):=gE0 _
    have hx7:=hw _ (getElem_mem (show 0<ws.length by omega))
    have hix:ixF (.val (.loc S.length)) (.val (.int 0)) (S++[.lst (ws.map MV.str)])=.ok (.val (.str ws[0])) (S++[.lst (ws.map MV.str)]):=gY (zI _ _) (nI (k:=0) (by rw [getElem?_map,hx];rfl))
    refine⟨ws.set 1 (ws[0]++[a]),?_,by rw [length_set];exact hl,λy hy=>?_⟩
    ·simp? [zY (b:=49) (by decide) (by decide),mod_lit (show(0:Int)<4 by decide),h4,decide_true,hix,zY (b:=196) (by decide) (by decide),mod_lit (show(0:Int)<26 by decide),ha,addS (x:=ws[0]) (y:=[a]) (by rw [lS];omega),zDE,yGO (k:=1) (j:=1) (zI S (.lst (ws.map MV.str))) (by unfold ixN;rw [lM,hl];rfl),yZ]
     rw [List.map_set]
    ·rcases List.mem_or_eq_of_mem_set hy with hy|rfl
     ·have:=hw y hy;omega
     ·rw [lA,lS];omega
   ·refine⟨ws,?_,hl,λy hy=>by have:=hw y hy;omega⟩
    simp? [zY (b:=49) (by decide) (by decide),mod_lit (show(0:Int)<4 by decide),h4,decide_false,fT,iF]
  refine⟨ws',hl',hw',?_⟩
  refine zFY (T:=[.lst (ws'.map MV.str)]) rfl ?_ (le_refl _) (zI _ _) (zHI _ _)
  show xD (bE (WV c none none none none) S)=_
  unfold bE
  rw [zD f1,zD f2,zD f3,zD f4,zD f5,zD f6,zD f7,zD e8]
  unfold zGQ
  simp? [bok]
  rfl
theorem zHJ{S:Sto}{l:Nat}{ds:List MV}(hS:S[l]? =some (.lst ds))(a b:Option Int):zDX (.val (.loc l)) a b S=.ok (.new (gT ds a b)) S:=by
 show(match jM S (.val (.loc l))with |some ds=>R.ok (Er.new (gT ds a b)) S|none=>.no)=_
 rw [zBK hS]
theorem yBE(ds:List MV)(a b:Option Int)(S:Sto):zDX (.new ds) a b S=.ok (.new (gT ds a b)) S:=rfl
theorem yBF(ns:List Int)(n:Nat):loL n (ns.map MV.int):=wK λd hd=>by
 obtain⟨x,_,rfl⟩:=mM.mp hd
 exact zDH _ _
abbrev DW(c:Int)(m l:Nat)(r k n:Option MV):Rho:=[some (.int c),some (zG m),some (.loc l),r,k,n]
theorem yBG(c:Int)(m:Nat)(n:Option MV)(S:Sto): ∀(ks:List MV)(ns:List Int)(r:Int)(k:Option MV),ns.length+ks.length<=100-> ∃(ns':List Int)(r':Int)(k':Option MV),kS (gNm 4) bF [] ks (DW c m S.length (some (.int r)) k n) (S++[.lst (ns.map MV.int)])=.ok (.next (DW c m S.length (some (.int r')) k' n)) (S++[.lst (ns'.map MV.int)])/\ns'.length=ns.length+ks.length
 |[],ns,r,k,_=>⟨ns,r,k,rfl,rfl⟩
 |d::ks,ns,r,k,h=>by
  rw [lC]at h
  have f1:dF (DW c m S.length (some (.int r)) (some d) n) (S++[.lst (ns.map MV.int)])=.ok (.next (DW c m S.length (some (.int r)) (some d) n)) (S++[.lst ((ns++[r % 1000000]).map MV.int)]):=by
   unfold dF
   simp? [xS (zI S (.lst (ns.map MV.int))),mod_lit (show(0:Int)<1000000 by decide),dX (zI S (.lst (ns.map MV.int))) (show(ns.map MV.int).length<1000000 by rw [lM];omega),yZ]
   rw [map_append]
   rfl
  have f2:dH (DW c m S.length (some (.int r)) (some d) n) (S++[.lst ((ns++[r % 1000000]).map MV.int)])=.ok (.next (DW c m S.length (some (.int (r / 1000000))) (some d) n)) (S++[.lst ((ns++[r % 1000000]).map MV.int)]):=by
   unfold dH
   simp? [zY (b:=1000000) (by decide) (by decide)]
  obtain⟨ns',r',k',e,hl⟩:=yBG c m n S ks (ns++[r % 1000000]) (r / 1000000) (some d) (by rw [lA,lS];omega)
  refine⟨ns',r',k',?_,by rw [hl,lA,lS,lC];omega⟩
  rw [zW (ρ0:=DW c m S.length (some (.int r)) (some d) n) rfl (by
   unfold bF
   rw [zD f1]
   exact f2) (yP _)]
  exact e
theorem yBH(c:Int)(m:Nat)(r:Option MV)(S:Sto): ∀(ks:List Nat)(ns:List Int)(n:Int)(k:Option MV),ns.length+ks.length<=100->0<=n/\n<4294967296-> ∃(ns':List Int)(n':Int)(k':Option MV),kS (gNm 4) zCE [] (ks.map zG) (DW c m S.length r k (some (.int n))) (S++[.lst (ns.map MV.int)])=.ok (.next (DW c m S.length r k' (some (.int n')))) (S++[.lst (ns'.map MV.int)])/\ns'.length=ns.length+ks.length
 |[],ns,n,k,_,_=>⟨ns,n,k,rfl,rfl⟩
 |d::ks,ns,n,k,h,hn=>by
  rw [lC]at h
  obtain⟨v,hv⟩: ∃v:Int,v=(n * n+48271 * n+(d:Int)) % 2147483647:=⟨_,rfl⟩
  have hv0:0<=v/\v<4294967296:=by
   have h1:=eN0 (n * n+48271 * n+(d:Int)) (show(2147483647:Int)≠0 by decide)
   have h2:=eL (n * n+48271 * n+(d:Int)) (show(0:Int)<2147483647 by decide)
   omega
  have f1:dI (DW c m S.length r (some (zG d)) (some (.int n))) (S++[.lst (ns.map MV.int)])=.ok (.next (DW c m S.length r (some (zG d)) (some (.int v)))) (S++[.lst (ns.map MV.int)]):=by
   unfold dI
   simp? [nA (a:=n) (show -(2 ^ 64)<n/\n<2 ^ 64 by omega),nA (a:=48271) (show -(2 ^ 64)<(48271:Int)/\(48271:Int)<2 ^ 64 by decide),mod_lit (show(0:Int)<2147483647 by decide)]
   rw [hv]
  obtain⟨u,hu⟩: ∃u:Int,u=v * 69621 % 2147483587 / 16:=⟨_,rfl⟩
  have f2:dL (DW c m S.length r (some (zG d)) (some (.int v))) (S++[.lst (ns.map MV.int)])=.ok (.next (DW c m S.length r (some (zG d)) (some (.int v)))) (S++[.lst ((ns++[u]).map MV.int)]):=by
   unfold dL
   simp? [xS (zI S (.lst (ns.map MV.int))),zSD (show -(2 ^ 64)<(69621:Int)/\(69621:Int)<2 ^ 64 by decide),mod_lit (show(0:Int)<2147483587 by decide),zY (b:=16) (by decide) (by decide),dX (zI S (.lst (ns.map MV.int))) (show(ns.map MV.int).length<1000000 by rw [lM];omega),yZ]
   rw [map_append,hu]
   rfl
  obtain⟨ns',n',k',e,hl⟩:=yBH c m r S ks (ns++[u]) v (some (zG d)) (by rw [lA,lS];omega) hv0
  refine⟨ns',n',k',?_,by rw [hl,lA,lS,lC];omega⟩
  rw [map_cons,zW (ρ0:=DW c m S.length r (some (zG d)) (some (.int n))) rfl (by
   unfold zCE
   rw [zD f1]
   exact f2) (yP _)]
  exact e
theorem zWL(c:Int){m:Nat}(hm:m<=10)(S:Sto): ∃ns:List Int,ns.length=m/\yA 2 yV [.val (.int c),.val (zG m)] S=.ok (.new (ns.map MV.int)) S:=by
 have f1:zCF [some (.int c),some (zG m),none,none,none,none] S=.ok (.next (DW c m S.length none none none)) (S++[.lst []]):=by
  unfold zCF
  simp? [bok]
 by_cases h2:c % 2=0
 ·obtain⟨ns,r',k',e,hl⟩:=yBG c m none S ((List.range m).map λk=>.int (k:Nat)) [] (c / 2) none (by rw [lM,length_range,length_nil];omega)
  rw [lM,length_range,length_nil,zero_add]at hl
  refine⟨ns,hl,?_⟩
  refine zFY (T:=[.lst (ns.map MV.int)]) rfl ?_ (le_refl _) (zI _ _) (yBF _ _)
  show xD (bG [some (.int c),some (zG m),none,none,none,none] S)=_
  have e1:(CJ (dJ kT (vJ 0) (kJ (.int 2))) 3) (DW c m S.length none none none) (S++[.lst []])=.ok (.next (DW c m S.length (some (.int (c / 2))) none none)) (S++[.lst []]):=by
   simp? [zY (b:=2) (by decide) (by decide)]
  have e2:(FJ (bJ (yJ (vJ 1) wJ) jK) (gNm 4) (bF)) (DW c m S.length (some (.int (c / 2))) none none) (S++[.lst []])=.ok (.next (DW c m S.length (some (.int r')) k' none)) (S++[.lst (ns.map MV.int)]):=by
   simp? [zPH (n:=m) (by omega)]
   exact e
  have f2:kY (DW c m S.length none none none) (S++[.lst []])=.ok (.ret (.val (.loc S.length))) (S++[.lst (ns.map MV.int)]):=by
   unfold kY
   simp? [mod_lit (show(0:Int)<2 by decide),h2,decide_true]
   rw [zD e1,zD e2]
   rfl
  unfold bG
  rw [zD f1,zHE f2]
  rfl
 ·have h3:=eN0 c (show(2147483629:Int)≠0 by decide)
  have h4:=eL c (show(0:Int)<2147483629 by decide)
  obtain⟨ns,n',k',e,hl⟩:=yBH c m none S (List.range m) [] (c % 2147483629+1) none (by rw [length_range,length_nil];omega) (by omega)
  rw [length_range,length_nil,zero_add]at hl
  refine⟨ns,hl,?_⟩
  refine zFY (T:=[.lst (ns.map MV.int)]) rfl ?_ (le_refl _) (zI _ _) (yBF _ _)
  show xD (bG [some (.int c),some (zG m),none,none,none,none] S)=_
  have f2:kY (DW c m S.length none none none) (S++[.lst []])=.ok (.next (DW c m S.length none none none)) (S++[.lst []]):=by
   unfold kY
   simp? [mod_lit (show(0:Int)<2 by decide),h2,decide_false,fT,iF]
  have f3:zCG (DW c m S.length none none none) (S++[.lst []])=.ok (.next (DW c m S.length none none (some (.int (c % 2147483629+1))))) (S++[.lst []]):=by
   unfold zCG
   simp? [mod_lit (show(0:Int)<2147483629 by decide)]
  have f4:zCH (DW c m S.length none none (some (.int (c % 2147483629+1)))) (S++[.lst []])=.ok (.next (DW c m S.length none k' (some (.int n')))) (S++[.lst (ns.map MV.int)]):=by
   unfold zCH
   simp? [zPH (n:=m) (by omega)]
   exact e
  unfold bG
  rw [zD f1,zD f2,zD f3,zD f4]
  rfl
abbrev TB(c:Int)(l:Nat)(n w:Option MV):Rho:=[some (.int c),some (.loc l),some (.loc (l+1)),n,w]
theorem yHS(c:Int)(S:Sto)(o:MO): ∀(ns:List Int)(ts:List (Int×Int))(n w:Option MV),ts.length+ns.length<=100->(∀p∈ts,1<=p.1/\p.1<=4/\0<=p.2/\p.2<=p.1)-> ∃(ts':List (Int×Int))(n' w':Option MV),kS (gNm 3) nU [] (ns.map MV.int) (TB c S.length n w) (S++[o]++[.lst (ts.map tbl)])=.ok (.next (TB c S.length n' w')) (S++[o]++[.lst (ts'.map tbl)])/\ts'.length=ts.length+ns.length/\ ∀p∈ts',1<=p.1/\p.1<=4/\0<=p.2/\p.2<=p.1
 |[],ts,n,w,_,h=>⟨ts,n,w,rfl,rfl,h⟩
 |d::ns,ts,n,w,hl,h=>by
  rw [lC]at hl
  obtain⟨v,hv⟩: ∃v:Int,v=1+d % 3+(if decide (d / 3 % 5=0)=true then 1 else 0):=⟨_,rfl⟩
  have hv1:1<=v/\v<=4:=by
   have h1:=eN0 d (show(3:Int)≠0 by decide)
   have h2:=eL d (show(0:Int)<3 by decide)
   rw [hv]
   split<;>omega
  have f1:bH (TB c S.length (some (.int d)) w) (S++[o]++[.lst (ts.map tbl)])=.ok (.next (TB c S.length (some (.int d)) (some (.int v)))) (S++[o]++[.lst (ts.map tbl)]):=by
   unfold bH
   simp? [mod_lit (show(0:Int)<3 by decide),zY (b:=3) (by decide) (by decide),mod_lit (show(0:Int)<5 by decide),show∀b S,intF [.val (.bl b)] S=.ok (.val (.int (if b then 1 else 0))) S from λ_ _=>rfl]
   rw [hv]
  obtain⟨z,hz⟩:=zIS (xs:=([0,1,1,1,2,4]:List Int)) (i:=d / 15 % 6) (eN0 _ (by decide)) (by have:=eL (d / 15) (show(0:Int)<6 by decide);show d / 15 % 6<6;exact this)
  have hz0:0<=z:=zMA (P:=λz:Int=>0<=z) (by decide) hz
  have hix: ∀S:Sto,ixF (.new [.int 0,.int 1,.int 1,.int 1,.int 2,.int 4]) (.val (.int (d / 15 % 6))) S=.ok (.val (.int z)) S:=λS=>yFG (by
   have:=zTK MV.int [0,1,1,1,2,4] (d / 15 % 6)
   rw [hz]at this
   exact this)
  have hS1:S.length+1=(S++[o]).length:=by rw [lA,lS]
  obtain⟨y,hy⟩: ∃y:Int,y=if z<v then z else v:=⟨_,rfl⟩
  have hat:(S++[o]++[.lst (ts.map tbl)])[S.length+1]? =some (.lst (ts.map tbl)):=by rw [hS1];exact zI _ _
  have f2:bI (TB c S.length (some (.int d)) (some (.int v))) (S++[o]++[.lst (ts.map tbl)])=.ok (.next (TB c S.length (some (.int d)) (some (.int v)))) (S++[o]++[.lst ((ts++[(v,y)]).map tbl)]):=by
   unfold bI
   simp? [xS hat,zY (b:=15) (by decide) (by decide),mod_lit (show(0:Int)<6 by decide),hix,show∀i j S,zXY [.val (.int i),.val (.int j)] S=.ok (.val (.int (if j<i then j else i))) S from λ_ _ _=>rfl, <-hy,tup2,dX hat (show(ts.map tbl).length<1000000 by rw [lM];omega)]
   rw [hS1,yZ,map_append]
   rfl
  obtain⟨ts',n',w',e,g1,g2⟩:=yHS c S o ns (ts++[(v,y)]) (some (.int d)) (some (.int v)) (by rw [lA,lS];omega) (λp hp=>by
   rcases mem_append.mp hp with hp|hp
   ·exact h p hp
   ·rw [mS.mp hp]
    refine⟨hv1.1,hv1.2,?_⟩
    show 0<=y/\y<=v
    rw [hy]
    split<;>omega)
  refine⟨ts',n',w',?_,by rw [g1,lA,lS,lC];omega,g2⟩
  rw [map_cons,zW (ρ0:=TB c S.length (some (.int d)) w) rfl (by
   unfold nU
   rw [zD f1]
   exact f2) (yP _)]
  exact e
theorem yRH(ts:List (Int×Int))(n:Nat):lo n (.tup (ts.map tbl)):=nO (wK λd hd=>by
 obtain⟨p,_,rfl⟩:=mM.mp hd
 exact nO (wK λd hd=>by
  rcases mC.mp hd with rfl|hd
  ·exact zDH _ _
  ·rw [mS.mp hd];exact zDH _ _))
theorem yDD(c:Int)(S:Sto): ∃ts:List (Int×Int),(1<=ts.length/\ts.length<=4)/\(∀p∈ts,1<=p.1/\p.1<=4/\0<=p.2/\p.2<=p.1)/\yA 1 dS [.val (.int c)] S=.ok (.val (.tup (ts.map tbl))) S:=by
 obtain⟨ns,hn,e1⟩:=zWL c (show 5<=10 by decide) S
 obtain⟨v,hv⟩: ∃v,ns[4]? =some v:=⟨_,gE0 (show 4<ns.length by omega)⟩
 have h1:=eN0 v (show(4:Int)≠0 by decide)
 have h2:=eL v (show(0:Int)<4 by decide)
 obtain⟨ts,n',w',e,hl,hp⟩:=yHS c S (.lst (ns.map MV.int)) (ns.take (1+v % 4).toNat) [] none none (by rw [lT,length_nil];omega) (λp hp=>by simp at hp)
 rw [lT,length_nil]at hl
 refine⟨ts,by omega,hp,?_⟩
 have hS1:S.length+1=(S++[MO.lst (ns.map MV.int)]).length:=by rw [lA,lS]
 refine zEA (T:=[.lst (ns.map MV.int)]++[.lst (ts.map tbl)]) rfl ?_ (yRH _ _) (λl=>by simp)
 show xD (zDN [some (.int c),none,none,none,none] S)=_
 have f1:nV [some (.int c),none,none,none,none] S=.ok (.next [some (.int c),some (.loc S.length),none,none,none]) (S++[.lst (ns.map MV.int)]):=by
  unfold nV
  simp? [show∀S,yA 2 yV [.val (.int c),.val (.int 5)] S=yA 2 yV [.val (.int c),.val (zG 5)] S from λ_=>rfl,e1]
 have f2:nW [some (.int c),some (.loc S.length),none,none,none] (S++[.lst (ns.map MV.int)])=.ok (.next (TB c S.length none none)) (S++[.lst (ns.map MV.int)]++[.lst []]):=by
  unfold nW
  simp? [bok]
  rw [<-hS1]
 have hat:(S++[.lst (ns.map MV.int)]++[.lst []])[S.length]? =some (.lst (ns.map MV.int)):=by
  rw [getElem?_append_left (by rw [lA,lS];omega)]
  exact zI _ _
 have hix:ixF (.val (.loc S.length)) (.val (.int 4)) (S++[.lst (ns.map MV.int)]++[.lst []])=.ok (.val (.int v)) (S++[.lst (ns.map MV.int)]++[.lst []]):=gY hat (nI (k:=4) (by rw [getElem?_map,hv];rfl))
 have f3:nX (TB c S.length none none) (S++[.lst (ns.map MV.int)]++[.lst []])=.ok (.next (TB c S.length n' w')) (S++[.lst (ns.map MV.int)]++[.lst (ts.map tbl)]):=by
  unfold nX
  simp? [hix,mod_lit (show(0:Int)<4 by decide),zHJ hat,zCS _ (1+v % 4) (by omega),zFA]
  rw [<-map_take]
  exact e
 have hat2:(S++[.lst (ns.map MV.int)]++[.lst (ts.map tbl)])[S.length+1]? =some (.lst (ts.map tbl)):=by rw [hS1];exact zI _ _
 unfold zDN
 rw [zD f1,zD f2,zD f3]
 unfold zFO
 simp? [zHH hat2]
 rw [aA]
 rfl
abbrev VS(v:MV):Prop:=(∃i,v=.int i)\/ ∃x,v=.str x
theorem yBI{v:MV}(h:VS v):pd v=true/\dpt v<40:=by
 rcases h with⟨i,rfl⟩|⟨x,rfl⟩
 ·exact⟨zTG i,by rw [zMH];decide⟩
 ·exact⟨zCI x,by rw [zEY];decide⟩
theorem yND{vs:List MV}(h: ∀v∈vs,VS v)(n:Nat):loL n vs:=wK λd hd=>zRF (yBI (h d hd)).1
abbrev VV(c:Int)(l:Nat)(r m f k v n p t:Option MV):Rho:=[some (.int c),some (.loc l),r,m,f,k,v,n,p,t]
abbrev VW(c:Int)(lw:Nat)(r m:Option MV)(lf:Nat)(k v:Option MV):Rho:=[some (.int c),some (.loc lw),r,m,some (.loc lf),k,v,none,none,none]
theorem yMG(c:Int)(lw:Nat)(m:Option MV)(S:Sto){vs:List MV}(hl:vs.length<=100)(h: ∀v∈vs,VS v)(r:Int)(k v:Option MV): ∃(vs':List MV)(r':Int)(v':Option MV),xX (VW c lw (some (.int r)) m S.length k v) (S++[.lst vs])=.ok (.next (VW c lw (some (.int r')) m S.length k v')) (S++[.lst vs'])/\vs'≠[]/\vs'.length<=vs.length+1/\ ∀v∈vs',VS v:=by
 obtain⟨x,r1,e1,_⟩:=yBD (r / 2) (S++[.lst vs])
 have f1:bK (VW c lw (some (.int r)) m S.length k v) (S++[.lst vs])=.ok (.next (VW c lw (some (.int r1)) m S.length k (some (.str x)))) (S++[.lst vs]):=by
  unfold bK
  simp? [zY (b:=2) (by decide) (by decide),e1,zDE]
  rfl
 obtain⟨r2,u,f2,hu⟩: ∃(r2:Int)(u:MV),kM (VW c lw (some (.int r1)) m S.length k (some (.str x))) (S++[.lst vs])=.ok (.next (VW c lw (some (.int r2)) m S.length k (some u))) (S++[.lst vs])/\VS u:=by
  by_cases h2:r1 % 2=1
  ·have hp: ∀S:Sto,zLR (.val (.int 10)) (.val (.int 30)) S=.ok (.val (.int (10 ^ 30))) S:=λS=>zZI (by unfold yCG;decide+kernel) S
   have hd:zXQ 0 (2 * 10 ^ 30 - 1):=by unfold zXQ;decide+kernel
   refine⟨r1 / (2 * 10 ^ 30 - 1),.int (r1 / 2 % (2 * 10 ^ 30 - 1) - 10 ^ 30+1),?_,.inl ⟨_,rfl⟩⟩
   have g1:(CJ (dJ wT (dJ zLQ (dJ wE (dJ kT (vJ 2) (kJ (.int 2))) (dJ zLQ (dJ zFX (kJ (.int 2)) (dJ zLR (kJ (.int 10)) (kJ (.int 30)))) (kJ (.int 1)))) (dJ zLR (kJ (.int 10)) (kJ (.int 30)))) (kJ (.int 1))) 6) (VW c lw (some (.int r1)) m S.length k (some (.str x))) (S++[.lst vs])=.ok (.next (VW c lw (some (.int r1)) m S.length k (some (.int (r1 / 2 % (2 * 10 ^ 30 - 1) - 10 ^ 30+1))))) (S++[.lst vs]):=by
    simp? [zY (b:=2) (by decide) (by decide),hp,nA (a:=2) (show -(2 ^ 64)<(2:Int)/\(2:Int)<2 ^ 64 by decide),mod_lit (b:=2 * 10 ^ 30 - 1) (by decide)]
   have g2:(CJ (dJ kT (vJ 2) (dJ zLQ (dJ zFX (kJ (.int 2)) (dJ zLR (kJ (.int 10)) (kJ (.int 30)))) (kJ (.int 1)))) 2) (VW c lw (some (.int r1)) m S.length k (some (.int (r1 / 2 % (2 * 10 ^ 30 - 1) - 10 ^ 30+1)))) (S++[.lst vs])=.ok (.next (VW c lw (some (.int (r1 / (2 * 10 ^ 30 - 1)))) m S.length k (some (.int (r1 / 2 % (2 * 10 ^ 30 - 1) - 10 ^ 30+1))))) (S++[.lst vs]):=by
    simp? [hp,nA (a:=2) (show -(2 ^ 64)<(2:Int)/\(2:Int)<2 ^ 64 by decide),yLK hd]
   unfold kM
   simp? [mod_lit (show(0:Int)<2 by decide),h2,decide_true]
   rw [zD g1]
   exact g2
  ·refine⟨r1,.str x,?_,.inr ⟨x,rfl⟩⟩
   unfold kM
   simp? [mod_lit (show(0:Int)<2 by decide),h2,decide_false,fT,iF]
 have hin:=zJH true (zI S (.lst vs)) (yBI hu).1 λy hy=>yBI (h y hy)
 rw [iP rfl]at hin
 by_cases hm:u∈vs
 ·rw [dT0 hm]at hin
  refine⟨vs,r2,some u,?_,λz=>by rw [z]at hm;simp at hm,by omega,h⟩
  unfold xX
  rw [zD f1,zD f2]
  unfold bL
  simp? [hin,Bool.not_true,fT,iF]
 ·rw [dF0 hm]at hin
  refine⟨vs++[u],r2,some u,?_,by simp,by rw [lA,lS];exact le_refl _,λy hy=>?_⟩
  ·unfold xX
   rw [zD f1,zD f2]
   unfold bL
   simp? [hin,Bool.not_false,xS (zI S (.lst vs)),dX (zI S (.lst vs)) (show vs.length<1000000 by omega),yZ]
  ·rcases mem_append.mp hy with hy|hy
   ·exact h y hy
   ·rw [mS.mp hy];exact hu
theorem yHT(c:Int)(lw:Nat)(m:Option MV)(S:Sto): ∀(ds:List MV)(vs:List MV)(r:Int)(k v:Option MV),vs.length+ds.length<=100->(vs≠[]\/ds≠[])->(∀v∈vs,VS v)-> ∃(vs':List MV)(r':Int)(k' v':Option MV),kS (gNm 5) xX [] ds (VW c lw (some (.int r)) m S.length k v) (S++[.lst vs])=.ok (.next (VW c lw (some (.int r')) m S.length k' v')) (S++[.lst vs'])/\vs'≠[]/\vs'.length<=vs.length+ds.length/\ ∀v∈vs',VS v
 |[],vs,r,k,v,_,hne,h=>⟨vs,r,k,v,rfl,hne.resolve_right λz=>z rfl,le_refl _,h⟩
 |d::ds,vs,r,k,v,hl,_,h=>by
  rw [lC]at hl
  obtain⟨vs1,r1,v1,e1,g1,g2,g3⟩:=yMG c lw m S (by omega) h r (some d) v
  obtain⟨vs',r',k',v',e,h1,h2,h3⟩:=yHT c lw m S ds vs1 r1 (some d) v1 (by omega) (.inl g1) g3
  refine⟨vs',r',k',v',?_,h1,by rw [lC];omega,h3⟩
  rw [zW (ρ0:=VW c lw (some (.int r)) m S.length (some d) v) rfl e1 (yP _)]
  exact e
theorem yDE(c:Int){ws:List (List Nat)}(hw:ws.length=2)(S:Sto): ∃vs:List MV,vs≠[]/\vs.length<=100/\(∀v∈vs,VS v)/\yA 2 dU [.val (.int c),.new (ws.map MV.str)] S=.ok (.new vs) S:=by
 obtain⟨S1,hS1⟩: ∃S1:Sto,S1=S++[.lst (ws.map MV.str)]:=⟨_,rfl⟩
 have hwat:S1[S.length]? =some (.lst (ws.map MV.str)):=by rw [hS1];exact zI _ _
 by_cases h2:c % 2=0
 ·obtain⟨r,hr⟩: ∃r,r=c / 2:=⟨_,rfl⟩
  have h3:=eN0 r (show(3:Int)≠0 by decide)
  have h4:=eL r (show(0:Int)<3 by decide)
  obtain⟨vs,r',k',v',e,g1,g2,g3⟩:=yHT c S.length (some (.int (2+r % 3))) S1 ((List.range (2+r % 3).toNat).map λk=>.int (k:Nat)) [] (r / 3) none none (by rw [lM,length_range,length_nil];omega) (.inr (by
   intro z
   have:=congrArg List.length z
   rw [lM,length_range,length_nil]at this
   omega)) (λv hv=>by simp at hv)
  rw [lM,length_range,length_nil]at g2
  have hvat:(S1++[.lst vs])[S1.length]? =some (.lst vs):=zI _ _
  have hwat2:(S1++[.lst vs])[S.length]? =some (.lst (ws.map MV.str)):=by
   rw [getElem?_append_left (gS0.mp hwat).1]
   exact hwat
  have hc:yY (gNm 0) kN bM [none,some (.loc S1.length)] [(S.length,ws.map MV.str)] (ws.map MV.str) (S1++[.lst vs])=.ok ((ws.filter λx=>!decide (MV.str x∈vs)).map MV.str) (S1++[.lst vs]):=
   zFB (zEC hwat2) λx _=>⟨[some (.str x),some (.loc S1.length)],rfl,by
    unfold kN
    simp? [zJH true hvat (zCI x) λy hy=>yBI (g3 y hy)],rfl⟩
  obtain⟨t,ht⟩: ∃t:Int,t=2 - (if(vs.length:Int)<2 then(vs.length:Int)else 2):=⟨_,rfl⟩
  obtain⟨ys,hys⟩: ∃ys,ys=gT ((ws.filter λx=>!decide (MV.str x∈vs)).map MV.str) none (some t):=⟨_,rfl⟩
  have hym: ∀y∈ys,VS y:=λy hy=>by
   rw [hys]at hy
   obtain⟨x,_,rfl⟩:=mM.mp (yFI hy)
   exact .inr ⟨x,rfl⟩
  have hyl:ys.length<=2:=by
   rw [hys]
   refine le_trans (yFH _ _ _) ?_
   rw [lM]
   exact le_trans (length_filter_le _ _) (by omega)
  have hall: ∀v∈vs++ys,VS v:=λv hv=>(mem_append.mp hv).elim (g3 v) (hym v)
  refine⟨vs++ys,by simp [g1],by rw [lA];omega,hall,?_⟩
  refine zVZ (T:=[.lst (ws.map MV.str)]++[.lst vs]) rfl (show zP [.val (.int c),.new (ws.map MV.str)] S=([.int c,.loc S.length],S++[.lst (ws.map MV.str)])from rfl) ?_ (.inl rfl) (yND hall _)
  rw [<-hS1]
  show xD (gA (VV c S.length none none none none none none none none) S1)=_
  have q1:(CJ (dJ kT (vJ 0) (kJ (.int 2))) 2) (VV c S.length none none none none none none none none) S1=.ok (.next (VV c S.length (some (.int r)) none none none none none none none)) S1:=by
   simp? [zY (b:=2) (by decide) (by decide)]
   rw [hr]
  have q2:(CJ (dJ wT (kJ (.int 2)) (dJ wE (vJ 2) (kJ (.int 3)))) 3) (VV c S.length (some (.int r)) none none none none none none none) S1=.ok (.next (VV c S.length (some (.int r)) (some (.int (2+r % 3))) none none none none none none)) S1:=by
   simp? [mod_lit (show(0:Int)<3 by decide)]
  have q3:(CJ (dJ kT (vJ 2) (kJ (.int 3))) 2) (VV c S.length (some (.int r)) (some (.int (2+r % 3))) none none none none none none) S1=.ok (.next (VV c S.length (some (.int (r / 3))) (some (.int (2+r % 3))) none none none none none none)) S1:=by
   simp? [zY (b:=3) (by decide) (by decide)]
  have q4:(CJ (bJ wJ cL) 4) (VV c S.length (some (.int (r / 3))) (some (.int (2+r % 3))) none none none none none none) S1=.ok (.next (VW c S.length (some (.int (r / 3))) (some (.int (2+r % 3))) S1.length none none)) (S1++[.lst []]):=by
   simp? [bok]
  have q5:(FJ (bJ (yJ (vJ 3) wJ) jK) (gNm 5) (xX)) (VW c S.length (some (.int (r / 3))) (some (.int (2+r % 3))) S1.length none none) (S1++[.lst []])=.ok (.next (VW c S.length (some (.int r')) (some (.int (2+r % 3))) S1.length k' v')) (S1++[.lst vs]):=by
   simp? [zSE (show -(2 ^ 62)<=(2+r % 3)/\(2+r % 3)<2 ^ 62 by omega)]
   exact e
  have hb: ∀a b c d e f g h i j:Option MV,blk 1 [4] [a,b,c,d,e,f,g,h,i,j]=[none,e]:=λ_ _ _ _ _ _ _ _ _ _=>rfl
  have hwl:(ws.map MV.str).length<1000000:=by rw [lM];omega
  have q6:(AJ (dJ wT (vJ 4) (tJ zDX (pJ (bJ (vJ 1) itL) (gNm 0) (kN) (bM) 1 [4]) mJ (bJ (dJ zLQ (kJ (.int 2)) (bJ (yJ (kJ (.int 2)) (yJ (bJ (yJ (vJ 4) wJ) zDY) wJ)) zXY)) asI)))) (VW c S.length (some (.int r')) (some (.int (2+r % 3))) S1.length k' v') (S1++[.lst vs])=.ok (.ret (.new (vs++ys))) (S1++[.lst vs]):=by
   simp? [zIT hwat2,hwl,hb,hc,zCR hvat,show∀i j S,zXY [.val (.int i),.val (.int j)] S=.ok (.val (.int (if j<i then j else i))) S from λ_ _ _=>rfl, <-ht,yBE, <-hys,yFE (yKN hvat) (show lsW (S1++[.lst vs]) (.new ys)=some ys from rfl) (fits (show vs.length+ys.length<=1000000 by omega))]
  have f1:kA (VV c S.length none none none none none none none none) S1=.ok (.ret (.new (vs++ys))) (S1++[.lst vs]):=by
   unfold kA
   simp? [mod_lit (show(0:Int)<2 by decide),h2,decide_true]
   rw [zD q1,zD q2,zD q3,zD q4,zD q5]
   exact q6
  unfold gA
  rw [zHE f1,hS1,aA]
  rfl
 ·obtain⟨x0,x1,rfl⟩: ∃x0 x1,ws=[x0,x1]:=by
   match ws,hw with
   |[a,b],_=>exact⟨a,b,rfl⟩
  obtain⟨n,hn⟩: ∃n:Int,n=c % (2 * 10 ^ 30 - 2) - 10 ^ 30+1:=⟨_,rfl⟩
  obtain⟨pl,hpl⟩: ∃pl:List MV,pl=[.int n,.int (n+1),.str x0,.str x1]:=⟨_,rfl⟩
  obtain⟨tn,htn⟩: ∃tn:Int,tn=c / 5 % 4:=⟨_,rfl⟩
  have h3:=eN0 (c / 5) (show(4:Int)≠0 by decide)
  have h4:=eL (c / 5) (show(0:Int)<4 by decide)
  have h5:=eN0 c (show(3:Int)≠0 by decide)
  have h6:=eL c (show(0:Int)<3 by decide)
  have hpm: ∀v∈pl,VS v:=λv hv=>by
   rw [hpl]at hv
   simp only [mC,not_mem_nil,or_false]at hv
   rcases hv with rfl|rfl|rfl|rfl
   ·exact .inl ⟨_,rfl⟩
   ·exact .inl ⟨_,rfl⟩
   ·exact .inr ⟨_,rfl⟩
   ·exact .inr ⟨_,rfl⟩
  have hpl4:pl.length=4:=by rw [hpl];rfl
  obtain⟨ys,hys⟩: ∃ys:List MV,ys=(pl.drop tn.toNat++pl.take tn.toNat).take (2+c % 3).toNat:=⟨_,rfl⟩
  have hyl:ys.length=(2+c % 3).toNat:=by
   rw [hys,lT,lA,length_drop,lT,hpl4]
   omega
  have hym: ∀v∈ys,VS v:=λv hv=>by
   rw [hys]at hv
   rcases mem_append.mp (mem_of_mem_take hv)with hv|hv
   ·exact hpm v (List.mem_of_mem_drop hv)
   ·exact hpm v (mem_of_mem_take hv)
  refine⟨ys,λz=>?_,by omega,hym,?_⟩
  ·rw [z,length_nil]at hyl
   omega
  refine zVZ (T:=[.lst ([x0,x1].map MV.str)]++[.lst pl]) rfl (show zP [.val (.int c),.new ([x0,x1].map MV.str)] S=([.int c,.loc S.length],S++[.lst ([x0,x1].map MV.str)])from rfl) ?_ (.inl rfl) (yND hym _)
  rw [<-hS1]
  show xD (gA (VV c S.length none none none none none none none none) S1)=_
  have hp: ∀S:Sto,zLR (.val (.int 10)) (.val (.int 30)) S=.ok (.val (.int (10 ^ 30))) S:=λS=>zZI (by unfold yCG;decide+kernel) S
  have f1:kA (VV c S.length none none none none none none none none) S1=.ok (.next (VV c S.length none none none none none none none none)) S1:=by
   unfold kA
   simp? [mod_lit (show(0:Int)<2 by decide),h2,decide_false,fT,iF]
  have f2:nY (VV c S.length none none none none none none none none) S1=.ok (.next (VV c S.length none none none none none (some (.int n)) none none)) S1:=by
   unfold nY
   simp? [hp,nA (a:=2) (show -(2 ^ 64)<(2:Int)/\(2:Int)<2 ^ 64 by decide),mod_lit (b:=2 * 10 ^ 30 - 2) (by decide)]
   rw [hn]
  have i0:ixF (.val (.loc S.length)) (.val (.int 0)) S1=.ok (.val (.str x0)) S1:=gY hwat (nI (k:=0) rfl)
  have i1:ixF (.val (.loc S.length)) (.val (.int 1)) S1=.ok (.val (.str x1)) S1:=gY hwat (nI (k:=1) rfl)
  have f3:nZ (VV c S.length none none none none none (some (.int n)) none none) S1=.ok (.next (VV c S.length none none none none none (some (.int n)) (some (.loc S1.length)) none)) (S1++[.lst pl]):=by
   unfold nZ
   simp? [i0,i1,show∀(a b c d:MV)(S:Sto),cL [.val a,.val b,.val c,.val d] S=.ok (.new [a,b,c,d]) S from λa b c d S=>zFZ (by simp)]
   rw [hpl]
  have f4:zAA (VV c S.length none none none none none (some (.int n)) (some (.loc S1.length)) none) (S1++[.lst pl])=.ok (.next (VV c S.length none none none none none (some (.int n)) (some (.loc S1.length)) (some (.int tn)))) (S1++[.lst pl]):=by
   unfold zAA
   simp? [zY (b:=5) (by decide) (by decide),mod_lit (show(0:Int)<4 by decide)]
   rw [htn]
  have hat:(S1++[.lst pl])[S1.length]? =some (.lst pl):=zI _ _
  have ht1:(tn.toNat:Int)=tn:=by omega
  have hcd:=zKT pl tn.toNat
  rw [ht1]at hcd
  have f5:zAB (VV c S.length none none none none none (some (.int n)) (some (.loc S1.length)) (some (.int tn))) (S1++[.lst pl])=.ok (.ret (.new ys)) (S1++[.lst pl]):=by
   unfold zAB
   simp? [zHJ hat,hcd,zCS pl tn (by omega),yFE (show lsW (S1++[.lst pl]) (.new (pl.drop tn.toNat))=some (pl.drop tn.toNat)from rfl) (show lsW (S1++[.lst pl]) (.new (pl.take tn.toNat))=some (pl.take tn.toNat)from rfl) (fits (show(pl.drop tn.toNat).length+(pl.take tn.toNat).length<=1000000 by rw [length_drop,lT,hpl4];omega)),mod_lit (show(0:Int)<3 by decide),yBE,zCS _ (2+c % 3) (by omega)]
   rw [hys]
  unfold gA
  rw [zD f1,zD f2,zD f3,zD f4,f5,hS1,aA]
  rfl
def TmIn(xs:List (List Nat))(d:MV):Prop:=(∃x∈xs,d=.tup [.str VAR,.str x])\/ ∃v,VS v/\d=.tup [.str IS,v]
theorem TmIn.ok{xs:List (List Nat)}{d:MV}(h:TmIn xs d):zOM d:=by
 rcases h with⟨x,_,rfl⟩|⟨v,hv,rfl⟩
 ·exact .inl ⟨x,rfl⟩
 ·exact .inr ⟨v,hv,rfl⟩
theorem zTP{S:Sto}{l:Nat}{ds:List MV}(hS:S[l]? =some (.lst ds))(hne:ds≠[])(n:Int): ∃d∈ds,ixF (.val (.loc l)) (.val (.int (n % (ds.length:Int)))) S=.ok (.val d) S:=by
 have hp:0<ds.length:=length_pos_iff.mpr hne
 obtain⟨d,hd⟩:=zIS (xs:=ds) (i:=n % (ds.length:Int)) (eN0 _ (by omega)) (eL _ (by omega))
 exact⟨d,zMA (P:=λd=>d∈ds) (λe he=>he) hd,gY hS hd⟩
theorem yMH{S:Sto}{ln lv:Nat}{xs:List (List Nat)}{vs:List MV}(h1:S[ln]? =some (.lst (xs.map MV.str)))(hx:xs≠[])(h2:S[lv]? =some (.lst vs))(hv:vs≠[])(hvs: ∀v∈vs,VS v)(n:Int): ∃d,TmIn xs d/\yA 3 zCZ [.val (.int n),.val (.loc ln),.val (.loc lv)] S=.ok (.val d) S:=by
 have hvl:0<vs.length:=length_pos_iff.mpr hv
 have hxl:0<xs.length:=length_pos_iff.mpr hx
 by_cases h6:n % 6=0
 ·obtain⟨v,hm,hi⟩:=zTP h2 hv (n / 6)
  have hvv:=hvs v hm
  refine⟨.tup [.str IS,v],.inr ⟨v,hvv,rfl⟩,?_⟩
  refine zEB rfl ?_ (zRF (yGQ (.inr ⟨v,hvv,rfl⟩)).1) (λl=>by simp)
  show xD (nG [some (.int n),some (.loc ln),some (.loc lv)] S)=_
  have e1:gB [some (.int n),some (.loc ln),some (.loc lv)] S=.ok (.ret (.val (.tup [.str IS,v]))) S:=by
   unfold gB
   simp? [mod_lit (show(0:Int)<6 by decide),h6,decide_true,zY (b:=6) (by decide) (by decide),zCR h2,mod_lit (b:=(vs.length:Int)) (by omega),hi,tup2]
  unfold nG
  rw [zHE e1]
  rfl
 ·obtain⟨d,hm,hi⟩:=zTP h1 (by simpa using hx) (n / 6)
  obtain⟨x,hxm,rfl⟩:=mM.mp hm
  rw [lM]at hi
  refine⟨.tup [.str VAR,.str x],.inl ⟨x,hxm,rfl⟩,?_⟩
  refine zEB rfl ?_ (zRF (yGQ (.inl ⟨x,rfl⟩)).1) (λl=>by simp)
  show xD (nG [some (.int n),some (.loc ln),some (.loc lv)] S)=_
  have e1:gB [some (.int n),some (.loc ln),some (.loc lv)] S=.ok (.next [some (.int n),some (.loc ln),some (.loc lv)]) S:=by
   unfold gB
   simp? [mod_lit (show(0:Int)<6 by decide),h6,decide_false,fT,iF]
  unfold nG
  rw [zD e1]
  unfold zHR
  simp? [zY (b:=6) (by decide) (by decide),zCR h1,lM,mod_lit (b:=(xs.length:Int)) (by omega),hi,tup2]
  rfl
abbrev SG(la l:Nat)(t m d:Option MV):Rho:=[some (.loc la),some (.loc l),t,m,d]
structure Kx(xs ks:List (List Nat)):Prop where
 nd:ks.Nodup
 sub: ∀x∈ks,x∈xs
theorem Kx.len{xs ks:List (List Nat)}(h:Kx xs ks):ks.length<=xs.length:=zDR h.nd h.sub
theorem yHU{la:Nat}{t m:Option MV}{xs:List (List Nat)}(hx:xs.length<=100)(S:Sto): ∀(tms:List MV),(∀d∈tms,TmIn xs d)-> ∀(ks:List (List Nat))(o:Option MV),Kx xs ks-> ∃(ks':List (List Nat))(o':Option MV),kS (gNm 4) kO [] tms (SG la S.length t m o) (S++[.dic (dT ks)])=.ok (.next (SG la S.length t m o')) (S++[.dic (dT ks')])/\Kx xs ks'
 |[],_,ks,o,h=>⟨ks,o,rfl,h⟩
 |d::tms,hT,ks,o,h=>by
  have hT': ∀d∈tms,TmIn xs d:=λe he=>hT e (mO _ he)
  rcases hT d mF0 with⟨x,hm,rfl⟩|⟨v,hv,rfl⟩
  ·obtain⟨ks',o',e,h'⟩:=yHU (la:=la) (t:=t) (m:=m) hx S tms hT' (zDQ ks x) (some (.tup [.str VAR,.str x])) ⟨yAJ h.nd x,λy hy=>by
    rcases (zWB ks x y).mp hy with hy|rfl
    ·exact h.sub y hy
    ·exact hm⟩
   refine⟨ks',o',?_,h'⟩
   have hl:=h.len
   rw [zW (ρ0:=SG la S.length t m (some (.tup [.str VAR,.str x]))) (ρ':=SG la S.length t m (some (.tup [.str VAR,.str x]))) (S':=S++[.dic (dT (zDQ ks x))]) rfl (by
    unfold kO jO
    simp? [zON,zJI,yAH,zDE,yAL (zI S (.dic (dT ks))) (show ks.length<1000000 by omega),yZ]) (yP _)]
   exact e
  ·obtain⟨ks',o',e,h'⟩:=yHU (la:=la) (t:=t) (m:=m) hx S tms hT' ks (some (.tup [.str IS,v])) h
   refine⟨ks',o',?_,h'⟩
   rw [zW (ρ0:=SG la S.length t m (some (.tup [.str IS,v]))) (ρ':=SG la S.length t m (some (.tup [.str IS,v]))) (S':=S++[.dic (dT ks)]) rfl (by
    unfold kO jO
    simp? [zON,yGR,fT,iF]) (yP _)]
   exact e
theorem yHV{la:Nat}{xs:List (List Nat)}{all:List MV}(hx:xs.length<=100)(S:Sto)(hla:S[la]? =some (.lst all)): ∀(as:List (Int×List MV)),(∀a∈as, ∀d∈a.2,TmIn xs d)-> ∀(ks:List (List Nat))(t m o:Option MV),Kx xs ks-> ∃(ks':List (List Nat))(t' m' o':Option MV),kS (gTp 2 (yR (gNm 2) (yR (gNm 3) zBF))) bN [(la,all)] (as.map aM) (SG la S.length t m o) (S++[.dic (dT ks)])=.ok (.next (SG la S.length t' m' o')) (S++[.dic (dT ks')])/\Kx xs ks'
 |[],_,ks,t,m,o,h=>⟨ks,t,m,o,rfl,h⟩
 |a::as,hA,ks,t,m,o,h=>by
  obtain⟨ks1,o1,e1,h1⟩:=yHU (la:=la) (t:=some (.int a.1)) (m:=some (.tup a.2)) hx S a.2 (hA a mF0) ks o h
  obtain⟨ks',t',m',o',e,h'⟩:=yHV hx S hla as (λb hb=>hA b (mO _ hb)) ks1 (some (.int a.1)) (some (.tup a.2)) o1 h1
  refine⟨ks',t',m',o',?_,h'⟩
  have hst:stay [(la,all)] (S++[.dic (dT ks1)]):=zEC (by rw [getElem?_append_left (gS0.mp hla).1];exact hla)
  rw [map_cons,zW (ρ0:=SG la S.length (some (.int a.1)) (some (.tup a.2)) o) (ρ':=SG la S.length (some (.int a.1)) (some (.tup a.2)) o1) (S0:=S++[.dic (dT ks)]) (S':=S++[.dic (dT ks1)]) rfl (by
   unfold bN zAP
   simp? [zKR]
   exact e1) hst]
  exact e
theorem yBJ: ∀ks:List (List Nat),nP (ks.map MV.str)=some ks
 |[]=>rfl
 |x::ks=>by
  rw [map_cons]
  unfold nP
  rw [yBJ ks]
  rfl
theorem zWM{S:Sto}{l:Nat}{ks:List (List Nat)}(h:S[l]? =some (.dic (dT ks)))(hl:ks.length<64):zKF [.val (.loc l)] S=.ok (.new ((nB ks).map MV.str)) S:=by
 unfold zKF
 dsimp only
 rw [zGR h (zLI ks)]
 dsimp only
 rw [iP (show(dT ks).length<64 by unfold dT;rw [lM];exact hl),zTJ,yBJ]
theorem zWN{la:Nat}{xs:List (List Nat)}{as:List (Int×List MV)}(hx:xs.length<=4)(S:Sto)(hla:S[la]? =some (.lst (as.map aM)))(hA: ∀a∈as, ∀d∈a.2,TmIn xs d): ∃ys:List (List Nat),ys.length<=4/\yA 1 gK [.val (.loc la)] S=.ok (.new (ys.map MV.str)) S:=by
 obtain⟨ks,t,m,o,e,h⟩:=yHV (by omega) S hla as hA [] none none none ⟨nodup_nil,λx hx=>by simp at hx⟩
 have hl:=h.len
 refine⟨nB ks,by rw [(zBL ks).length_eq];omega,?_⟩
 refine jZ (T:=[.dic (dT ks)]) rfl ?_ (zHI _ _)
 show xD (zAC [some (.loc la),none,none,none,none] S)=_
 have f1:bO [some (.loc la),none,none,none,none] S=.ok (.next (SG la S.length none none none)) (S++[.dic (dT [])]):=by
  unfold bO
  simp? [zUZ]
  rfl
 have hla2:(S++[.dic (dT [])])[la]? =some (.lst (as.map aM)):=by rw [getElem?_append_left (gS0.mp hla).1];exact hla
 have f2:bP (SG la S.length none none none) (S++[.dic (dT [])])=.ok (.next (SG la S.length t m o)) (S++[.dic (dT ks)]):=by
  unfold bP
  simp? [zIT hla2]
  exact e
 unfold zAC
 rw [zD f1,zD f2]
 unfold zDA
 simp? [zWM (zI S (.dic (dT ks))) (show ks.length<64 by omega)]
 rfl
theorem zWO{gf:MV->Rho->Sto->R Rho}{cf:AZ}{ef:AX}{ρb:Rho}{gs:List (Nat×List MV)}{S:Sto}{P:MV->Prop}(hs:stay gs S):
  ∀{ds:List MV},(∀d∈ds, ∃ρ1 b y,gf d ρb S=.ok ρ1 S/\cf ρ1 S=.ok b S/\ef ρ1 S=.ok (.val y) S/\P y)-> ∃out,yY gf cf ef ρb gs ds S=.ok out S/\out.length<=ds.length/\ ∀o∈out,P o
 |[],_=>⟨[],rfl,le_refl _,λo h=>by simp at h⟩
 |d::ds,st=>by
  obtain⟨ρ1,b,y,h1,h2,h3,h4⟩:=st d mF0
  obtain⟨out,e,hl,hp⟩:=zWO hs (ds:=ds) λd hd=>st d (mO _ hd)
  cases b with
  |true=>
   refine⟨y::out,?_,by rw [lC,lC];omega,λo ho=>(mC.mp ho).elim (λz=>z▸h4) (hp o)⟩
   unfold yY
   rw [h1,xC,bok,h2,xC,bok,iP rfl,h3,xC,bok]
   unfold nN
   rw [bok,iP hs,e]
   rfl
  |false=>
   refine⟨out,?_,by rw [lC];omega,hp⟩
   unfold yY
   rw [h1,xC,bok,h2,xC,bok,iN xF0,iP hs,e]
theorem zTQ{S:Sto}{l:Nat}{ds:List MV}(hS:S[l]? =some (.lst ds)):zXR (.val (.loc l)) [] S=.ok (.val .non) (S.set l (.lst ds.reverse)):=by
 unfold zXR zIR
 dsimp only
 rw [hS]
theorem yHW(q:Int){n:Nat}(h1:1<=n)(h4:n<=4):((List.range n).map λk:Nat=>((q+(k:Int)) % (n:Int)).toNat).Nodup:=by
 unfold List.Nodup
 rw [pairwise_map]
 refine List.Pairwise.imp_of_mem (λ{i j} hi hj hne e=>hne ?_) (List.nodup_range (n:=n))
 have hi:=mem_range.mp hi
 have hj:=mem_range.mp hj
 have:n=1\/n=2\/n=3\/n=4:=by omega
 rcases this with rfl|rfl|rfl|rfl<;>omega
abbrev QV(lc:Nat)(ts:List (Int×Int))(ln lv:Nat)(m o a k nb w s h:Option MV):Rho:=[some (.loc lc),some (.tup (ts.map tbl)),some (.loc ln),some (.loc lv),m,o,a,k,nb,w,s,h]
abbrev QA(lc:Nat)(ts:List (Int×Int))(ln lv:Nat)(m:Option MV)(lo:Nat)(k nb w:Option MV):Rho:=QV lc ts ln lv m (some (.loc lo)) (some (.loc (lo+1))) k nb w none none
abbrev ZZ(B:Sto)(ord:List Nat)(as:List (Int×List MV))(T:Sto):Sto:=B++.lst (ord.map zG)::.lst (as.map aM)::T
theorem zz_o(B:Sto)(ord:List Nat)(as:List (Int×List MV))(T:Sto):(ZZ B ord as T)[B.length]? =some (.lst (ord.map zG)):=by simp [ZZ]
theorem zz_a(B:Sto)(ord:List Nat)(as:List (Int×List MV))(T:Sto):(ZZ B ord as T)[B.length+1]? =some (.lst (as.map aM)):=by simp [ZZ]
theorem yRI(B:Sto)(ord:List Nat)(as as':List (Int×List MV))(T:Sto):(ZZ B ord as T).set (B.length+1) (.lst (as'.map aM))=ZZ B ord as' T:=by simp [ZZ]
theorem zTR{B:Sto}{k:Nat}{o:MO}(h:B[k]? =some o)(ord:List Nat)(as:List (Int×List MV))(T:Sto):(ZZ B ord as T)[k]? =some o:=by
 show(B++_)[k]? =_
 rw [getElem?_append_left (gS0.mp h).1]
 exact h
theorem yBK(B:Sto)(ord:List Nat)(as:List (Int×List MV))(T:Sto)(o:MO):ZZ B ord as T++[o]=ZZ B ord as (T++[o]):=by simp [ZZ]
structure QB(B:Sto)(lc ln lv:Nat)(cs:List Int)(xs:List (List Nat))(vs:List MV):Prop where
 c:B[lc]? =some (.lst (cs.map MV.int))
 c6:cs.length=6
 n:B[ln]? =some (.lst (xs.map MV.str))
 n1:xs≠[]
 n4:xs.length<=4
 v:B[lv]? =some (.lst vs)
 v1:vs≠[]
 vs: ∀v∈vs,VS v
section
variable{B:Sto}{lc ln lv:Nat}{cs:List Int}{xs:List (List Nat)}{vs:List MV}{ts:List (Int×Int)}{ord:List Nat}
theorem yMI(H:QB B lc ln lv cs xs vs)(hts: ∀p∈ts,1<=p.1/\p.1<=4/\0<=p.2/\p.2<=p.1)(ho: ∀o∈ord,o<ts.length){as:List (Int×List MV)}(hl:as.length<=100)(T:Sto)(m nb w:Option MV){k:Nat}(hk:k<ord.length)(hk4:k<4):
  ∃(a:Int×List MV)(T':Sto)(nb' w':Option MV),kP (QA lc ts ln lv m B.length (some (zG k)) nb w) (ZZ B ord as T)=.ok (.next (QA lc ts ln lv m B.length (some (zG k)) nb' w')) (ZZ B ord (as++[a]) T')/\a.1=(ord[k]:Int)/\AOk ts a/\ ∀d∈a.2,TmIn xs d:=by
 obtain⟨c,hc⟩: ∃c,cs[2+k]? =some c:=⟨_,gE0 (show 2+k<cs.length by have:=H.c6;omega)⟩
 obtain⟨ns,hns,e1⟩:=zWL c (show 4<=10 by decide) (ZZ B ord as T)
 have hix:ixF (.val (.loc lc)) (.val (.int (2+(k:Int)))) (ZZ B ord as T)=.ok (.val (.int c)) (ZZ B ord as T):=gY (zTR H.c _ _ _) (by
  have:=nI (xs:=cs.map MV.int) (k:=2+k) (x:=.int c) (by rw [getElem?_map,hc];rfl)
  rw [Int.natCast_add]at this
  exact this)
 have f1:jR (QA lc ts ln lv m B.length (some (zG k)) nb w) (ZZ B ord as T)=.ok (.next (QA lc ts ln lv m B.length (some (zG k)) (some (.loc (ZZ B ord as T).length)) w)) (ZZ B ord as (T++[.lst (ns.map MV.int)])):=by
  unfold jR
  simp? [hix,show∀S,yA 2 yV [.val (.int c),.val (.int 4)] S=yA 2 yV [.val (.int c),.val (zG 4)] S from λ_=>rfl,e1]
  rw [yBK]
 obtain⟨T1,hT1⟩: ∃T1,T1=T++[.lst (ns.map MV.int)]:=⟨_,rfl⟩
 obtain⟨o,ho'⟩: ∃o,o=ord[k]:=⟨_,rfl⟩
 have hok:ord[k]? =some o:=by rw [ho'];exact gE0 hk
 have hot:=ho o (mem_of_getElem? hok)
 obtain⟨p,hp⟩: ∃p,ts[o]? =some p:=⟨_,gE0 hot⟩
 have hpp:=hts p (mem_of_getElem? hp)
 have hio: ∀U,ixF (.val (.loc B.length)) (.val (zG k)) (ZZ B ord as U)=.ok (.val (zG o)) (ZZ B ord as U):=λU=>gY (zz_o _ _ _ _) (nI (by rw [getElem?_map,hok];rfl))
 have hit: ∀S:Sto,ixF (.val (.tup (ts.map tbl))) (.val (zG o)) S=.ok (.val (tbl p)) S:=λS=>ix_tup (nI (by rw [getElem?_map,hp];rfl))
 have f2:jS (QA lc ts ln lv m B.length (some (zG k)) (some (.loc (ZZ B ord as T).length)) w) (ZZ B ord as T1)=.ok (.next (QA lc ts ln lv m B.length (some (zG k)) (some (.loc (ZZ B ord as T).length)) (some (.int p.1)))) (ZZ B ord as T1):=by
  unfold jS
  simp? [hio,hit,show∀S:Sto,ixF (.val (tbl p)) (.val (.int 0)) S=.ok (.val (.int p.1)) S from λ_=>rfl]
 have hna:(ZZ B ord as T1)[(ZZ B ord as T).length]? =some (.lst (ns.map MV.int)):=by
  rw [hT1, <-yBK]
  exact zI _ _
 obtain⟨out,hco,hol,hom⟩:=zNI (S:=ZZ B ord as T1) (gf:=gNm 0) (cf:=zAR) (ef:=jQ) (ρb:=[none,some (.loc ln),some (.loc lv)]) (gs:=[]) (P:=TmIn xs) (yP _) (ds:=(ns.map MV.int).take p.1.toNat) λd hd=>by
  obtain⟨i,_,rfl⟩:=mM.mp (mem_of_mem_take hd)
  obtain⟨t,ht,e⟩:=yMH (zTR H.n ord as T1) H.n1 (zTR H.v ord as T1) H.v1 H.vs i
  refine⟨[some (.int i),some (.loc ln),some (.loc lv)],t,rfl,rfl,?_,ht⟩
  unfold jQ
  simp? [e]
 rw [lT,lM,hns]at hol
 have hlt:((ns.map MV.int).take p.1.toNat).length<1000000:=by rw [lT,lM];omega
 have hb: ∀a b c d e f g h i j k l:Option MV,blk 1 [2,3] [a,b,c,d,e,f,g,h,i,j,k,l]=[none,c,d]:=λ_ _ _ _ _ _ _ _ _ _ _ _=>rfl
 have f3:jT (QA lc ts ln lv m B.length (some (zG k)) (some (.loc (ZZ B ord as T).length)) (some (.int p.1))) (ZZ B ord as T1)=.ok (.next (QA lc ts ln lv m B.length (some (zG k)) (some (.loc (ZZ B ord as T).length)) (some (.int p.1)))) (ZZ B ord (as++[((o:Int),out)]) T1):=by
  unfold jT
  simp? [xS (zz_a B ord as T1),hio,zHJ hna,zCS _ p.1 (show 0<=p.1 by omega),zFA,hlt,hb,hco,show∀(ds:List MV)(S:Sto),cO [.new ds] S=.ok (.val (.tup ds)) S from λ_ _=>rfl,tup2,dX (zz_a B ord as T1) (show(as.map aM).length<1000000 by rw [lM];omega)]
  rw [show as.map aM++[.tup [.int (o:Int),.tup out]]=(as++[((o:Int),out)]).map aM by rw [map_append];rfl,yRI]
 refine⟨((o:Int),out),T1,some (.loc (ZZ B ord as T).length),some (.int p.1),?_,by rw [ho'],⟨⟨p,nI hp,by omega⟩,λd hd=>(hom d hd).ok,?_⟩,hom⟩
 ·unfold kP
  rw [zD f1, <-hT1,zD f2]
  exact f3
 ·show out.length<=4
  omega
theorem yHX(H:QB B lc ln lv cs xs vs)(hts: ∀p∈ts,1<=p.1/\p.1<=4/\0<=p.2/\p.2<=p.1)(ho: ∀o∈ord,o<ts.length)(m:Option MV): ∀(n k:Nat)(as:List (Int×List MV))(T:Sto)(q nb w:Option MV),k+n<=ord.length->k+n<=4->as.length=k->(as.map λa=>a.1.toNat)=ord.take k->(∀a∈as,0<=a.1/\AOk ts a/\ ∀d∈a.2,TmIn xs d)->
  ∃(as':List (Int×List MV))(T':Sto)(q' nb' w':Option MV),kS (gNm 7) kP [] ((List.range' k n).map zG) (QA lc ts ln lv m B.length q nb w) (ZZ B ord as T)=.ok (.next (QA lc ts ln lv m B.length q' nb' w')) (ZZ B ord as' T')/\as'.length=k+n/\(as'.map λa=>a.1.toNat)=ord.take (k+n)/\ ∀a∈as',0<=a.1/\AOk ts a/\ ∀d∈a.2,TmIn xs d
 |0,k,as,T,q,nb,w,_,_,h1,h2,h3=>⟨as,T,q,nb,w,rfl,h1,h2,h3⟩
 |n+1,k,as,T,q,nb,w,hk,h4,h1,h2,h3=>by
  have hko:k<ord.length:=by omega
  obtain⟨a,T1,nb1,w1,e1,g1,g2,g3⟩:=yMI H hts ho (as:=as) (by omega) T m nb w hko (by omega)
  obtain⟨as',T',q',nb',w',e,j1,j2,j3⟩:=yHX H hts ho m n (k+1) (as++[a]) T1 (some (zG k)) nb1 w1 (by omega) (by omega) (by rw [lA,lS,h1]) (by
   rw [map_append,h2,List.take_add_one,gE0 hko,List.map_singleton,g1]
   rfl) (λb hb=>by
   rcases mem_append.mp hb with hb|hb
   ·exact h3 b hb
   ·rw [mS.mp hb]
    exact⟨by rw [g1];omega,g2,g3⟩)
  refine⟨as',T',q',nb',w',?_,by omega,by rw [j2];congr 1;omega,j3⟩
  rw [range'_succ,map_cons,zW (ρ0:=QA lc ts ln lv m B.length (some (zG k)) nb w) rfl e1 (yP _)]
  exact e
end
theorem zWP: ∀{o:List MV},(∀y∈o, ∃x:List Nat,y=.str x)-> ∃ys:List (List Nat),o=ys.map MV.str
 |[],_=>⟨[],rfl⟩
 |a::o,h=>by
  obtain⟨x,rfl⟩:=h a mF0
  obtain⟨ys,rfl⟩:=zWP λy hy=>h y (mO _ hy)
  exact⟨x::ys,rfl⟩
theorem yNE{ts:List (Int×Int)}{as:List (Int×List MV)}(h: ∀a∈as,AOk ts a)(n:Nat):loL n (as.map aM):=wK λd hd=>by
 obtain⟨a,ha,rfl⟩:=mM.mp hd
 exact nO (wK λe he=>by
  rcases mC.mp he with rfl|he
  ·exact zDH _ _
  ·rw [mS.mp he]
   exact nO (wK λt ht=>zRF (yGQ ((h a ha).tm t ht)).1))
theorem yHY{lc lv:Nat}{cs:List Int}{xs:List (List Nat)}{vs:List MV}{ts:List (Int×Int)}{S:Sto}(hc:S[lc]? =some (.lst (cs.map MV.int)))(hc6:cs.length=6)(hx1:xs≠[])(hx4:xs.length<=4)(hv:S[lv]? =some (.lst vs))(hv1:vs≠[])(hvs: ∀v∈vs,VS v)(hn1:1<=ts.length)(hn4:ts.length<=4)(hts: ∀p∈ts,1<=p.1/\p.1<=4/\0<=p.2/\p.2<=p.1):
  ∃(hs:List (List Nat))(as:List (Int×List MV)),QOk ts as/\yA 4 kB [.val (.loc lc),.val (.tup (ts.map tbl)),.new (xs.map MV.str),.val (.loc lv)] S=.ok (.val (qM hs as)) S:=by
 obtain⟨B,hB⟩: ∃B:Sto,B=S++[.lst (xs.map MV.str)]:=⟨_,rfl⟩
 have old: ∀{k o},S[k]? =some o->B[k]? =some o:=λh=>by rw [hB,getElem?_append_left (gS0.mp h).1];exact h
 have H:QB B lc S.length lv cs xs vs:=⟨old hc,hc6,by rw [hB];exact zI _ _,hx1,hx4,old hv,hv1,hvs⟩
 obtain⟨c0,h0⟩: ∃c,cs[0]? =some c:=⟨_,gE0 (show 0<cs.length by omega)⟩
 obtain⟨c1,h1⟩: ∃c,cs[1]? =some c:=⟨_,gE0 (show 1<cs.length by omega)⟩
 obtain⟨n,hn⟩: ∃n,n=ts.length:=⟨_,rfl⟩
 have i0: ∀T:Sto,ixF (.val (.loc lc)) (.val (.int 0)) (B++T)=.ok (.val (.int c0)) (B++T):=λT=>gY (by rw [getElem?_append_left (gS0.mp H.c).1];exact H.c) (nI (k:=0) (by rw [getElem?_map,h0];rfl))
 have i0':=i0 []
 rw [aN]at i0'
 have hm0:=eN0 c0 (show(n:Int)≠0 by omega)
 have hm1:=eL c0 (show(0:Int)<n by omega)
 obtain⟨m,hm⟩: ∃m:Nat,(m:Int)=1+c0 % (n:Int):=⟨(1+c0 % (n:Int)).toNat,by omega⟩
 have hmn:1<=m/\m<=n:=by omega
 have f1:bQ (QV lc ts S.length lv none none none none none none none none) B=.ok (.next (QV lc ts S.length lv (some (zG m)) none none none none none none none)) B:=by
  unfold bQ
  simp? [i0',zJE,lM, <-hn,mod_lit (b:=(n:Int)) (by omega), <-hm]
 obtain⟨ord0,ho0⟩: ∃o:List Nat,o=(List.range n).map λk:Nat=>((c0 / 4+(k:Int)) % (n:Int)).toNat:=⟨_,rfl⟩
 have hnd0:ord0.Nodup:=by rw [ho0];exact yHW (c0 / 4) (by omega) (by omega)
 have hlt0: ∀o∈ord0,o<n:=λo ho=>by
  rw [ho0]at ho
  obtain⟨k,_,rfl⟩:=mM.mp ho
  have:=eN0 (c0 / 4+(k:Int)) (show(n:Int)≠0 by omega)
  have:=eL (c0 / 4+(k:Int)) (show(0:Int)<n by omega)
  omega
 have hl0:ord0.length=n:=by rw [ho0,lM,length_range]
 have hco:yY (gNm 0) zAQ jP [none,some (.loc lc),some (.tup (ts.map tbl))] [] ((List.range n).map zG) B=.ok (ord0.map zG) B:=by
  rw [ho0,map_map]
  refine kE (yP _) λk _=>⟨[some (zG k),some (.loc lc),some (.tup (ts.map tbl))],rfl,rfl,?_⟩
  have:=eN0 (c0 / 4+(k:Int)) (show(n:Int)≠0 by omega)
  unfold jP
  simp? [i0',zY (b:=4) (by decide) (by decide),zJE,lM, <-hn,mod_lit (b:=(n:Int)) (by omega)]
  show R.ok (Er.val (.int ((c0 / 4+(k:Int)) % (n:Int)))) B=R.ok (Er.val (.int (((c0 / 4+(k:Int)) % (n:Int)).toNat:Int))) B
  rw [Int.toNat_of_nonneg this]
 have hb: ∀a b c d e f g h i j k l:Option MV,blk 1 [0,1] [a,b,c,d,e,f,g,h,i,j,k,l]=[none,a,b]:=λ_ _ _ _ _ _ _ _ _ _ _ _=>rfl
 have hrl:(List.range n).length<1000000:=by rw [length_range];omega
 have f2:bR (QV lc ts S.length lv (some (zG m)) none none none none none none none) B=.ok (.next (QV lc ts S.length lv (some (zG m)) (some (.loc B.length)) none none none none none none)) (B++[.lst (ord0.map zG)]):=by
  unfold bR
  simp? [zJE,lM, <-hn,zPH (n:=n) (by omega),hrl,hb,hco]
 obtain⟨ord,f3,hnd,hlt,hol⟩: ∃ord:List Nat,bS (QV lc ts S.length lv (some (zG m)) (some (.loc B.length)) none none none none none none) (B++[.lst (ord0.map zG)])=.ok (.next (QV lc ts S.length lv (some (zG m)) (some (.loc B.length)) none none none none none none)) (B++[.lst (ord.map zG)])/\ord.Nodup/\(∀o∈ord,o<n)/\ord.length=n:=by
  unfold bS
  by_cases h2:c0 / 16 % 2=1
  ·refine⟨ord0.reverse,?_,List.pairwise_reverse.mpr (hnd0.imp λh e=>h e.symm),λo ho=>hlt0 o (mem_reverse.mp ho),by rw [length_reverse,hl0]⟩
   simp? [i0,zY (b:=16) (by decide) (by decide),mod_lit (show(0:Int)<2 by decide),h2,decide_true,xS (zI B (.lst (ord0.map zG))),zTQ (zI B (.lst (ord0.map zG))),yZ]
   rw [List.map_reverse]
  ·refine⟨ord0,?_,hnd0,hlt0,hl0⟩
   simp? [i0,zY (b:=16) (by decide) (by decide),mod_lit (show(0:Int)<2 by decide),h2,decide_false,fT,iF]
 have f4:bT (QV lc ts S.length lv (some (zG m)) (some (.loc B.length)) none none none none none none) (B++[.lst (ord.map zG)])=.ok (.next (QA lc ts S.length lv (some (zG m)) B.length none none none)) (ZZ B ord [] []):=by
  unfold bT
  simp? [bok]
  rw [lA,lS,aA]
  rfl
 obtain⟨as,T,q,nb,w,e5,g1,g2,g3⟩:=yHX (ts:=ts) (ord:=ord) H hts (λo ho=>by rw [<-hn];exact hlt o ho) (some (zG m)) m 0 [] [] none none none (by omega) (by omega) rfl rfl (λa ha=>by simp at ha)
 rw [zero_add]at g1 g2
 have f5:bU (QA lc ts S.length lv (some (zG m)) B.length none none none) (ZZ B ord [] [])=.ok (.next (QA lc ts S.length lv (some (zG m)) B.length q nb w)) (ZZ B ord as T):=by
  unfold bU
  simp? [zPH (n:=m) (by omega)]
  rw [List.range_eq_range']
  exact e5
 have hQ:QOk ts as:=⟨λa ha=>(g3 a ha).2.1,by omega,λa ha=>(g3 a ha).1,by rw [g2];exact hnd.sublist (List.take_sublist _ _),by omega⟩
 obtain⟨ys,hyl,e6⟩:=zWN hx4 (ZZ B ord as T) (zz_a B ord as T) λa ha=>(g3 a ha).2.2
 obtain⟨Z,hZ⟩: ∃Z:Sto,Z=ZZ B ord as T:=⟨_,rfl⟩
 rw [<-hZ]at e6 f5
 have hZB: ∀{k o},B[k]? =some o->Z[k]? =some o:=λh=>by rw [hZ];exact zTR h _ _ _
 have f6:bV (QA lc ts S.length lv (some (zG m)) B.length q nb w) Z=.ok (.next (QV lc ts S.length lv (some (zG m)) (some (.loc B.length)) (some (.loc (B.length+1))) q nb w (some (.loc Z.length)) none)) (Z++[.lst (ys.map MV.str)]):=by
  unfold bV
  simp? [e6]
 have oldZ: ∀{k o}(U:Sto),Z[k]? =some o->(Z++U)[k]? =some o:=λU h=>by rw [getElem?_append_left (gS0.mp h).1];exact h
 have i1: ∀U:Sto,ixF (.val (.loc lc)) (.val (.int 1)) (Z++U)=.ok (.val (.int c1)) (Z++U):=λU=>gY (oldZ U (hZB H.c)) (nI (k:=1) (by rw [getElem?_map,h1];rfl))
 have hl4: ∀(a b c d:MV)(S:Sto),cL [.val a,.val b,.val c,.val d] S=.ok (.new [a,b,c,d]) S:=λa b c d S=>zFZ (by simp)
 obtain⟨out,hco,hol2,hom⟩:=zWO (S:=Z++[.lst (ys.map MV.str)]) (gf:=gNm 0) (cf:=jU) (ef:=jV) (ρb:=[none,some (.loc lc),some (.loc Z.length)]) (gs:=[]) (P:=λy=> ∃x:List Nat,y=.str x) (yP _) (ds:=(List.range ys.length).map zG) λd hd=>by
  obtain⟨k,hk,rfl⟩:=mM.mp hd
  have hk:=mem_range.mp hk
  obtain⟨p,hp⟩:=zIS (xs:=([1,3,9,27]:List Int)) (i:=(k:Int)) (by omega) (by show(k:Int)<4;omega)
  have hp0:0<p/\p<1073741824:=zMA (P:=λp:Int=>0<p/\p<1073741824) (by decide) hp
  have hip: ∀S:Sto,ixF (.new [.int 1,.int 3,.int 9,.int 27]) (.val (.int (k:Int))) S=.ok (.val (.int p)) S:=λS=>yFG (by
   have:=zTK MV.int [1,3,9,27] (k:Int)
   rw [hp]at this
   exact this)
  refine⟨[some (zG k),some (.loc lc),some (.loc Z.length)],decide (c1 / p % 3=1),.str ys[k],rfl,?_,?_,⟨_,rfl⟩⟩
  ·unfold jU
   simp? [i1,hl4,hip,zY hp0.1 hp0.2,mod_lit (show(0:Int)<3 by decide)]
  ·unfold jV
   simp? [gY (zI Z (.lst (ys.map MV.str))) (nI (k:=k) (x:=.str ys[k]) (by rw [getElem?_map,gE0 hk];rfl))]
 rw [lM,length_range]at hol2
 have hb2: ∀a b c d e f g h i j k l:Option MV,blk 1 [0,10] [a,b,c,d,e,f,g,h,i,j,k,l]=[none,a,k]:=λ_ _ _ _ _ _ _ _ _ _ _ _=>rfl
 have hrl2:(List.range ys.length).length<1000000:=by rw [length_range];omega
 obtain⟨Y,hY⟩: ∃Y:Sto,Y=Z++[.lst (ys.map MV.str)]:=⟨_,rfl⟩
 have f7:bW (QV lc ts S.length lv (some (zG m)) (some (.loc B.length)) (some (.loc (B.length+1))) q nb w (some (.loc Z.length)) none) Y=.ok (.next (QV lc ts S.length lv (some (zG m)) (some (.loc B.length)) (some (.loc (B.length+1))) q nb w (some (.loc Z.length)) (some (.loc Y.length)))) (Y++[.lst out]):=by
  unfold bW
  rw [hY]
  simp? [zCR (zI Z (.lst (ys.map MV.str))),lM,zPH (n:=ys.length) (by omega),hrl2,hb2,hco]
 have i1Y: ∀U:Sto,ixF (.val (.loc lc)) (.val (.int 1)) (Y++U)=.ok (.val (.int c1)) (Y++U):=λU=>by
  rw [hY,aA]
  exact i1 _
 obtain⟨out2,f8,hom2⟩: ∃out2:List MV,bX (QV lc ts S.length lv (some (zG m)) (some (.loc B.length)) (some (.loc (B.length+1))) q nb w (some (.loc Z.length)) (some (.loc Y.length))) (Y++[.lst out])=.ok (.next (QV lc ts S.length lv (some (zG m)) (some (.loc B.length)) (some (.loc (B.length+1))) q nb w (some (.loc Z.length)) (some (.loc Y.length)))) (Y++[.lst out2])/\ ∀y∈out2, ∃x:List Nat,y=.str x:=by
  unfold bX
  by_cases h2:c1 / 81 % 2=1
  ·refine⟨out.reverse,?_,λy hy=>hom y (mem_reverse.mp hy)⟩
   simp? [i1Y,zY (b:=81) (by decide) (by decide),mod_lit (show(0:Int)<2 by decide),h2,decide_true,xS (zI Y (.lst out)),zTQ (zI Y (.lst out)),yZ]
  ·refine⟨out,?_,hom⟩
   simp? [i1Y,zY (b:=81) (by decide) (by decide),mod_lit (show(0:Int)<2 by decide),h2,decide_false,fT,iF]
 obtain⟨hs,hhs⟩:=zWP (o:=out2.take 2) λy hy=>hom2 y (mem_of_mem_take hy)
 refine⟨hs,as,hQ,?_⟩
 have hya:(Y++[.lst out2])[B.length+1]? =some (.lst (as.map aM)):=by
  rw [hY,aA]
  exact oldZ _ (by rw [hZ];exact zz_a _ _ _ _)
 have f9:bY (QV lc ts S.length lv (some (zG m)) (some (.loc B.length)) (some (.loc (B.length+1))) q nb w (some (.loc Z.length)) (some (.loc Y.length))) (Y++[.lst out2])=.ok (.ret (.val (qM hs as))) (Y++[.lst out2]):=by
  unfold bY
  simp? [zHJ (zI Y (.lst out2)),zCS _ 2 (show(0:Int)<=2 by decide),show(2:Int).toNat=2 from rfl,show∀(ds:List MV)(S:Sto),cO [.new ds] S=.ok (.val (.tup ds)) S from λ_ _=>rfl,zHH hya,tup2]
  rw [hhs]
 obtain⟨V,hV⟩: ∃V:Sto,Y++[.lst out2]=S++V:=⟨_,by rw [hY,hZ,hB];simp only [ZZ,aA];rfl⟩
 have hF:kB [.loc lc,.tup (ts.map tbl),.loc S.length,.loc lv] B=.ok (.val (qM hs as)) (S++V):=by
  show xD (zAD (QV lc ts S.length lv none none none none none none none none) B)=_
  unfold zAD
  rw [zD f1,zD f2,zD f3,zD f4,zD f5,zD f6, <-hY,zD f7,zD f8,f9,hV]
  rfl
 have hE:zP [.val (.loc lc),.val (.tup (ts.map tbl)),.new (xs.map MV.str),.val (.loc lv)] S=([.loc lc,.tup (ts.map tbl),.loc S.length,.loc lv],B):=by rw [hB];rfl
 refine zEA (T:=V) rfl (by rw [hE];exact hF) (nO (wK λd hd=>?_)) (λl=>by simp)
 rcases mC.mp hd with rfl|hd
 ·exact nO (zHI _ _)
 ·rw [mS.mp hd]
  exact nO (yNE hQ.at' _)
section
variable{K F K' F':Nat->List (List Nat)}{n:Nat}{σ:Nat->Nat}
theorem yHZ(hσ: ∀j,j<n->σ j<n)(hj: ∀i j,i<n->j<n->σ i=σ j->i=j)(hK: ∀j,j<n-> ∀x,x∈K' j↔x∈K (σ j))(hF: ∀j,j<n-> ∀x,x∈F' j↔x∈F (σ j)){i:Nat}(hi:i<n){x:List Nat}(h:Kn K' F' n i x):Kn K F n (σ i) x:=by
 induction h with
 |key h=>exact .key ((hK i hi _).mp h)
 |@step x j hjn hne hall hx ih=>exact .step (σ j) (hσ j hjn) (λe=>hne (hj j i hjn hi e)) (λy hy=>ih y ((hK j hjn y).mpr hy)) ((hF j hjn x).mp hx)
theorem yIA(hσ: ∀j,j<n->σ j<n)(hF: ∀j,j<n-> ∀x,x∈F' j↔x∈F (σ j)){i j:Nat}(hi:i<n)(hkn: ∀x,Kn K F n (σ i) x->Kn K' F' n i x)(h:Rc K' F' n i j):j<n/\Rc K F n (σ i) (σ j):=by
 induction h with
 |self=>exact⟨hi,.self⟩
 |@step x j k hj hk h1 h2 h3 ih=>exact⟨hk,.step (σ j) (σ k) ih.2 (hσ k hk) ((hF j ih.1 x).mp h1) ((hF k hk x).mp h2) λz=>h3 (hkn x z)⟩
end
structure Sm(ts:List (Int×Int))(hs:List (List Nat))(as:List (Int×List MV))(hs':List (List Nat))(as':List (Int×List MV))(σ τ:Nat->Nat):Prop where
 len:as'.length=as.length
 s: ∀j,j<as.length->σ j<as.length/\τ (σ j)=j
 t: ∀j,j<as.length->τ j<as.length/\σ (τ j)=j
 k: ∀j,j<as.length-> ∀x,x∈Kq ts hs' as' j↔x∈Kq ts hs as (σ j)
 f: ∀j,j<as.length-> ∀x,x∈Fq hs' as' j↔x∈Fq hs as (σ j)
section
variable{ts:List (Int×Int)}{hs hs':List (List Nat)}{as as':List (Int×List MV)}{σ τ:Nat->Nat}
theorem Sm.kn(h:Sm ts hs as hs' as' σ τ){i:Nat}(hi:i<as.length)(x:List Nat):KnQ ts hs' as' i x↔KnQ ts hs as (σ i) x:=by
 unfold KnQ
 rw [h.len]
 constructor
 ·exact yHZ (λj hj=>(h.s j hj).1) (λi j hi hj e=>by rw [<-(h.s i hi).2, <-(h.s j hj).2,e]) h.k h.f hi
 ·intro z
  have:=yHZ (K:=Kq ts hs' as') (F:=Fq hs' as') (K':=Kq ts hs as) (F':=Fq hs as) (n:=as.length) (σ:=τ) (λj hj=>(h.t j hj).1) (λi j hi hj e=>by rw [<-(h.t i hi).2, <-(h.t j hj).2,e]) (λj hj x=>by
   have:=h.k (τ j) (h.t j hj).1 x
   rw [(h.t j hj).2]at this
   exact this.symm) (λj hj x=>by
   have:=h.f (τ j) (h.t j hj).1 x
   rw [(h.t j hj).2]at this
   exact this.symm) (h.s i hi).1 z
  rw [(h.s i hi).2]at this
  exact this
theorem Sm.rc(h:Sm ts hs as hs' as' σ τ){i j:Nat}(hi:i<as.length)(hj:j<as.length):RcQ ts hs' as' i j↔RcQ ts hs as (σ i) (σ j):=by
 unfold RcQ
 have hk:=h.kn hi
 unfold KnQ at hk
 rw [h.len]at hk ⊢
 constructor
 ·exact λz=>(yIA (λj hj=>(h.s j hj).1) h.f hi (λx z=>(hk x).mpr z) z).2
 ·intro z
  have e:=(yIA (K:=Kq ts hs' as') (F:=Fq hs' as') (K':=Kq ts hs as) (F':=Fq hs as) (n:=as.length) (σ:=τ) (λj hj=>(h.t j hj).1) (λj hj x=>by
   have:=h.f (τ j) (h.t j hj).1 x
   rw [(h.t j hj).2]at this
   exact this.symm) (h.s i hi).1 (λx z=>by
   rw [(h.s i hi).2]at z
   exact(hk x).mp z) z).2
  rw [(h.s i hi).2,(h.s j hj).2]at e
  exact e
theorem Sm.pr(h:Sm ts hs as hs' as' σ τ){a b:Nat}(ha:a<as.length)(hb:b<as.length):(a,b)∈PQ ts hs' as'↔(σ a,σ b)∈PQ ts hs as:=by
 rw [zCJ,zCJ,h.len,h.rc ha hb]
 have e:b≠a↔σ b≠σ a:=⟨λz e=>z (by rw [<-(h.s a ha).2, <-(h.s b hb).2,e]),λz e=>z (by rw [e])⟩
 exact⟨λz=>⟨(h.s a ha).1,(h.s b hb).1,e.mp z.2.2.1,z.2.2.2⟩,λz=>⟨ha,hb,e.mpr z.2.2.1,z.2.2.2⟩⟩
theorem yIB(L:List Pr):(rgP L).isNone=true↔ ∀p∈L,(p.2,p.1)∉L:=by
 unfold rgP
 rw [Option.isNone_iff_eq_none,List.find?_eq_none]
 constructor
 ·exact λh p hp z=>h p hp (dT0 z)
 ·exact λh p hp z=>h p hp (of_decide_eq_true z)
theorem Sm.rg(h:Sm ts hs as hs' as' σ τ):(rgP (PQ ts hs' as')).isNone=(rgP (PQ ts hs as)).isNone:=by
 have e:(rgP (PQ ts hs' as')).isNone=true↔(rgP (PQ ts hs as)).isNone=true:=by
  rw [yIB,yIB]
  constructor
  ·intro z p hp hq
   have g:=zCJ.mp hp
   have h1:=h.t p.1 g.1
   have h2:=h.t p.2 g.2.1
   refine z (τ p.1,τ p.2) ((h.pr h1.1 h2.1).mpr ?_) ((h.pr h2.1 h1.1).mpr ?_)
   ·rw [h1.2,h2.2];exact hp
   ·rw [h1.2,h2.2];exact hq
  ·intro z p hp hq
   have g:=zCJ.mp hp
   rw [h.len]at g
   exact z (σ p.1,σ p.2) ((h.pr g.1 g.2.1).mp hp) ((h.pr g.2.1 g.1).mp hq)
 cases h1:(rgP (PQ ts hs' as')).isNone<;>cases h2:(rgP (PQ ts hs as)).isNone<;>simp_all
theorem Sm.perm(h:Sm ts hs as hs' as' σ τ):(PQ ts hs as).Perm ((PQ ts hs' as').map λp=>(σ p.1,σ p.2)):=by
 refine(List.perm_ext_iff_of_nodup (yBC _ _) ?_).mpr λp=>?_
 ·unfold List.Nodup
  rw [pairwise_map]
  refine List.Pairwise.imp_of_mem (λ{a b} ha hb hne e=>hne ?_) (yBC _ _)
  have g1:=zCJ.mp ha
  have g2:=zCJ.mp hb
  rw [h.len]at g1 g2
  have e1:σ a.1=σ b.1:=congrArg Prod.fst e
  have e2:σ a.2=σ b.2:=congrArg Prod.snd e
  exact Prod.ext (by rw [<-(h.s _ g1.1).2, <-(h.s _ g2.1).2,e1]) (by rw [<-(h.s _ g1.2.1).2, <-(h.s _ g2.2.1).2,e2])
 ·rw [mM]
  constructor
  ·intro hp
   have g:=zCJ.mp hp
   have h1:=h.t p.1 g.1
   have h2:=h.t p.2 g.2.1
   refine⟨(τ p.1,τ p.2),(h.pr h1.1 h2.1).mpr ?_,?_⟩
   ·rw [h1.2,h2.2];exact hp
   ·exact Prod.ext h1.2 h2.2
  ·rintro⟨q,hq,rfl⟩
   have g:=zCJ.mp hq
   rw [h.len]at g
   exact(h.pr g.1 g.2.1).mp hq
theorem Sm.same(h:Sm ts hs as hs' as' id id):PQ ts hs' as'=PQ ts hs as:=by
 have p:=h.perm
 rw [show(λp:Pr=>(id p.1,id p.2))=id from rfl,map_id]at p
 exact(zGS (le:=λa b=>pLt a b=true) p (zWK _ _) (zWK _ _) λa _ b _ h1 h2=>by
  have h1:=zLL.mp h1
  have h2:=zLL.mp h2
  omega).symm
end
open Classical in
noncomputable def vlT(hs:List (List Nat))(v d:MV):MV:=if∃x∈hs,d=.tup [.str VAR,.str x]then .tup [.str IS,v]else d
noncomputable def vlA(hs:List (List Nat))(v:MV)(a:Int×List MV):Int×List MV:=(a.1,a.2.map (vlT hs v))
theorem vl_tm{hs:List (List Nat)}{v d:MV}(hv:VS v)(h:zOM d):zOM (vlT hs v d):=by
 unfold vlT
 split
 ·exact .inr ⟨v,hv,rfl⟩
 ·exact h
theorem yNF{hs:List (List Nat)}{v:MV}{tms:List MV}(hv:VS v)(hT: ∀d∈tms,zOM d)(x:List Nat):x∈fnL [] (tms.map (vlT hs v))↔x∈fnL hs tms:=by
 rw [zOO,zOO]
 have hvn: ∀d,vn (.tup [.str IS,d])=none:=λd=>by cases d<;>simp [vn]
 constructor
 ·rintro⟨h,_⟩
  obtain⟨d',hd',e⟩:=mem_filterMap.mp h
  obtain⟨d,hd,rfl⟩:=mM.mp hd'
  unfold vlT at e
  split at e
  ·rw [hvn]at e;cases e
  ·rename_i hn
   refine⟨mem_filterMap.mpr ⟨d,hd,e⟩,λhx=>hn ⟨x,hx,?_⟩⟩
   rcases hT d hd with⟨y,rfl⟩|⟨w,_,rfl⟩
   ·rw [zYG]at e
    cases e
    rfl
   ·rw [hvn]at e;cases e
 ·rintro⟨h,hx⟩
  obtain⟨d,hd,e⟩:=mem_filterMap.mp h
  refine⟨mem_filterMap.mpr ⟨vlT hs v d,mM.mpr ⟨d,hd,rfl⟩,?_⟩,by simp⟩
  unfold vlT
  rw [iN]
  ·exact e
  ·rintro⟨y,hy,rfl⟩
   rw [zYG]at e
   cases e
   exact hx hy
section
variable{ts:List (Int×Int)}{hs:List (List Nat)}{as:List (Int×List MV)}{v:MV}
theorem yNG(hv:VS v)(Q:QOk ts as):QOk ts (as.map (vlA hs v)):=by
 refine⟨λa ha=>?_,by rw [lM];exact Q.len,λa ha=>?_,?_,by rw [lM];exact Q.ne⟩
 ·obtain⟨b,hb,rfl⟩:=mM.mp ha
  have g:=Q.at' b hb
  exact⟨g.tb,λd hd=>by
   obtain⟨e,he,rfl⟩:=mM.mp hd
   exact vl_tm hv (g.tm e he),by
   show(b.2.map (vlT hs v)).length<=4
   rw [lM]
   exact g.len⟩
 ·obtain⟨b,hb,rfl⟩:=mM.mp ha
  exact Q.pos b hb
 ·rw [map_map]
  exact Q.nd
theorem vl_sm(hv:VS v)(Q:QOk ts as):Sm ts hs as [] (as.map (vlA hs v)) id id:=by
 refine⟨by rw [lM],λj hj=>⟨hj,rfl⟩,λj hj=>⟨hj,rfl⟩,λj hj x=>?_,λj hj x=>?_⟩
 ·have ha:=gE0 hj
  rw [zRG (a:=vlA hs v as[j]) (by rw [getElem?_map,ha];rfl),show Kq ts hs as (id j)=Kq ts hs as j from rfl,zRG ha]
  unfold kyL vlA
  rw [<-map_take]
  exact yNF hv (λd hd=>(Q.at' _ (getElem_mem hj)).tm d (mem_of_mem_take hd)) x
 ·have ha:=gE0 hj
  rw [zOP (a:=vlA hs v as[j]) (by rw [getElem?_map,ha];rfl),show Fq hs as (id j)=Fq hs as j from rfl,zOP ha]
  exact yNF hv (Q.at' _ (getElem_mem hj)).tm x
end
abbrev VA(q v:MV)(l:Nat)(t m s d:Option MV):Rho:=[some q,some v,some (.loc l),t,m,s,d]
section
variable{hs:List (List Nat)}{v qd:MV}{l:Nat}{t m:Option MV}
theorem yIC(hv:VS v)(W:Sto): ∀(tms:List MV),(∀d∈tms,zOM d)-> ∀(out:List MV)(o:Option MV),out.length+tms.length<=100-> ∃o',kS (gNm 6) gM [] tms (VA (.tup [.tup (hs.map MV.str),qd]) v l t m (some (.loc W.length)) o) (W++[.lst out])=.ok (.next (VA (.tup [.tup (hs.map MV.str),qd]) v l t m (some (.loc W.length)) o')) (W++[.lst (out++tms.map (vlT hs v))])
 |[],_,out,o,_=>⟨o,by rw [map_nil,aN];rfl⟩
 |d::tms,hT,out,o,hl=>by
  rw [lC]at hl
  obtain⟨o',e⟩:=yIC hv W tms (λe he=>hT e (mO _ he)) (out++[vlT hs v d]) (some d) (by rw [lA,lS];omega)
  refine⟨o',?_⟩
  have ap: ∀e:MV,zHL (.val (.loc W.length)) [.val e] (W++[.lst out])=.ok (.val .non) (W++[.lst (out++[e])]):=λe=>by
   rw [dX (zI W (.lst out)) (by omega),yZ]
  have hb:gM (VA (.tup [.tup (hs.map MV.str),qd]) v l t m (some (.loc W.length)) (some d)) (W++[.lst out])=.ok (.next (VA (.tup [.tup (hs.map MV.str),qd]) v l t m (some (.loc W.length)) (some d))) (W++[.lst (out++[vlT hs v d])]):=by
   unfold gM zDB
   rcases hT d mF0 with⟨x,rfl⟩|⟨w,hw,rfl⟩
   ·have hin:=yGU (S:=W++[.lst out]) (x:=x) (fs:=hs) false
    rw [iN xF0]at hin
    by_cases hx:x∈hs
    ·rw [dT0 hx]at hin
     rw [show vlT hs v (.tup [.str VAR,.str x])=.tup [.str IS,v]from iP ⟨x,hx,rfl⟩]
     simp? [zON,zJI,yAH,hin,xS (zI W (.lst out)),tup2,ap]
    ·rw [dF0 hx]at hin
     rw [show vlT hs v (.tup [.str VAR,.str x])=.tup [.str VAR,.str x]from iN (by rintro⟨y,hy,e⟩;cases e;exact hx hy)]
     simp? [zON,zJI,yAH,hin,fT,iF,xS (zI W (.lst out)),ap]
   ·rw [show vlT hs v (.tup [.str IS,w])=.tup [.str IS,w]from iN (by rintro⟨y,hy,e⟩;cases e)]
    simp? [zON,yGR,fT,iF,xS (zI W (.lst out)),ap]
  rw [zW (ρ0:=VA (.tup [.tup (hs.map MV.str),qd]) v l t m (some (.loc W.length)) (some d)) rfl hb (yP _),e,map_cons,aA]
  rfl
end
section
variable{ts:List (Int×Int)}{hs:List (List Nat)}{v qd:MV}
theorem yID(hv:VS v)(S:Sto): ∀(as:List (Int×List MV)),(∀a∈as,AOk ts a)-> ∀(A:List (Int×List MV))(T:Sto)(t m s d:Option MV),A.length+as.length<=100-> ∃T' t' m' s' d',kS (gTp 2 (yR (gNm 3) (yR (gNm 4) zBF))) zAE [] (as.map aM) (VA (.tup [.tup (hs.map MV.str),qd]) v S.length t m s d) (S++.lst (A.map aM)::T)=.ok (.next (VA (.tup [.tup (hs.map MV.str),qd]) v S.length t' m' s' d')) (S++.lst ((A++as.map (vlA hs v)).map aM)::T')
 |[],_,A,T,t,m,s,d,_=>⟨T,t,m,s,d,by rw [map_nil (f:=vlA hs v),aN];rfl⟩
 |a::as,hA,A,T,t,m,s,d,hl=>by
  rw [lC]at hl
  have ha:=hA a mF0
  have hal:=ha.len
  obtain⟨W,hW⟩: ∃W:Sto,W=S++.lst (A.map aM)::T:=⟨_,rfl⟩
  obtain⟨d1,e1⟩:=yIC (hs:=hs) (qd:=qd) (l:=S.length) (t:=some (.int a.1)) (m:=some (.tup a.2)) hv W a.2 ha.tm [] d (by rw [length_nil];omega)
  rw [nil_append]at e1
  have f1:bZ (VA (.tup [.tup (hs.map MV.str),qd]) v S.length (some (.int a.1)) (some (.tup a.2)) s d) W=.ok (.next (VA (.tup [.tup (hs.map MV.str),qd]) v S.length (some (.int a.1)) (some (.tup a.2)) (some (.loc W.length)) d)) (W++[.lst []]):=by
   unfold bZ
   simp? [bok]
  have f2:cA (VA (.tup [.tup (hs.map MV.str),qd]) v S.length (some (.int a.1)) (some (.tup a.2)) (some (.loc W.length)) d) (W++[.lst []])=.ok (.next (VA (.tup [.tup (hs.map MV.str),qd]) v S.length (some (.int a.1)) (some (.tup a.2)) (some (.loc W.length)) d1)) (W++[.lst (a.2.map (vlT hs v))]):=by
   unfold cA
   simp? [zKR]
   exact e1
  obtain⟨T1,hT1⟩: ∃T1:Sto,T1=T++[.lst (a.2.map (vlT hs v))]:=⟨_,rfl⟩
  have hWT:W++[.lst (a.2.map (vlT hs v))]=S++.lst (A.map aM)::T1:=by rw [hW,hT1,aA];rfl
  have hat:(W++[.lst (a.2.map (vlT hs v))])[S.length]? =some (.lst (A.map aM)):=by rw [hWT];exact zEZ _ _ _
  have f3:cB (VA (.tup [.tup (hs.map MV.str),qd]) v S.length (some (.int a.1)) (some (.tup a.2)) (some (.loc W.length)) d1) (W++[.lst (a.2.map (vlT hs v))])=.ok (.next (VA (.tup [.tup (hs.map MV.str),qd]) v S.length (some (.int a.1)) (some (.tup a.2)) (some (.loc W.length)) d1)) (S++.lst ((A++[vlA hs v a]).map aM)::T1):=by
   unfold cB
   simp? [xS hat,zHH (zI W (.lst (a.2.map (vlT hs v)))),tup2,dX hat (show(A.map aM).length<1000000 by rw [lM];omega)]
   rw [hWT,yAR,map_append]
   rfl
  obtain⟨T',t',m',s',d',e⟩:=yID hv S as (λb hb=>hA b (mO _ hb)) (A++[vlA hs v a]) T1 (some (.int a.1)) (some (.tup a.2)) (some (.loc W.length)) d1 (by rw [lA,lS];omega)
  refine⟨T',t',m',s',d',?_⟩
  rw [<-hW,map_cons,zW (ρ0:=VA (.tup [.tup (hs.map MV.str),qd]) v S.length (some (.int a.1)) (some (.tup a.2)) s d) (S0:=W) rfl (by
   unfold zAE
   rw [zD f1,zD f2]
   exact f3) (yP _),e,map_cons,aA]
  rfl
theorem yDF{as:List (Int×List MV)}(hv:VS v)(Q:QOk ts as)(S:Sto):yA 2 dW [.val (qM hs as),.val v] S=.ok (.val (qM [] (as.map (vlA hs v)))) S:=by
 have hql:=Q.len
 obtain⟨T',t',m',s',d',e⟩:=yID (hs:=hs) (qd:=.tup (as.map aM)) hv S as Q.at' [] [] none none none none (by rw [length_nil];omega)
 rw [nil_append]at e
 refine zEA (T:=.lst ((as.map (vlA hs v)).map aM)::T') rfl ?_ (nO (wK λd hd=>?_)) (λl=>by simp)
 ·show xD (zDO [some (qM hs as),some v,none,none,none,none,none] S)=_
  have f1:zAF [some (qM hs as),some v,none,none,none,none,none] S=.ok (.next (VA (qM hs as) v S.length none none none none)) (S++[.lst []]):=by
   unfold zAF
   simp? [bok]
  have f2:zAG (VA (qM hs as) v S.length none none none none) (S++[.lst []])=.ok (.next (VA (qM hs as) v S.length t' m' s' d')) (S++.lst ((as.map (vlA hs v)).map aM)::T'):=by
   unfold zAG
   simp? [zJI,zKR]
   exact e
  unfold zDO
  rw [zD f1,zD f2]
  unfold zFP
  simp? [show∀S:Sto,zAU [] S=.ok (.val (.tup [])) S from λ_=>zSF (by simp),zHH (zEZ S T' (.lst ((as.map (vlA hs v)).map aM))),tup2]
  rfl
 ·rcases mC.mp hd with rfl|hd
  ·exact nO (wK λd hd=>by simp at hd)
  ·rw [mS.mp hd]
   exact nO (yNE (yNG (hs:=hs) hv Q).at' _)
end
noncomputable def tuA(as:List (Int×List MV))(ord:List Nat):List (Int×List MV):=ord.map λk=>(as[k]?).getD (0,[])
def sgm(ord:List Nat)(k:Nat):Nat:=(ord[k]?).getD 0
open Classical in
noncomputable def tau(ord:List Nat)(j:Nat):Nat:=if h: ∃k,k<ord.length/\sgm ord k=j then Classical.choose h else 0
section
variable{ts:List (Int×Int)}{hs:List (List Nat)}{as:List (Int×List MV)}{ord:List Nat}
structure OrdOk(ord:List Nat)(n:Nat):Prop where
 nd:ord.Nodup
 lt: ∀o∈ord,o<n
 len:ord.length=n
theorem zOT{k:Nat}(hk:k<ord.length):sgm ord k=ord[k]:=by
 unfold sgm
 rw [gE0 hk]
 rfl
theorem OrdOk.all{n:Nat}(h:OrdOk ord n){j:Nat}(hj:j<n):j∈ord:=Classical.byContradiction λz=>by
 have:=zDR (ks:=j::ord) (U:=List.range n) (nodup_cons.mpr ⟨z,h.nd⟩) λx hx=>by
  rcases mC.mp hx with rfl|hx
  ·exact mem_range.mpr hj
  ·exact mem_range.mpr (h.lt x hx)
 rw [lC,length_range,h.len]at this
 omega
theorem OrdOk.inj{n:Nat}(h:OrdOk ord n){i j:Nat}(hi:i<n)(hj:j<n)(e:sgm ord i=sgm ord j):i=j:=by
 rw [zOT (by rw [h.len];exact hi),zOT (by rw [h.len];exact hj)]at e
 exact(getElem_inj h.nd).mp e
theorem OrdOk.tau{n:Nat}(h:OrdOk ord n){j:Nat}(hj:j<n):tau ord j<n/\sgm ord (tau ord j)=j:=by
 obtain⟨k,hk,e⟩:=mem_iff_getElem.mp (h.all hj)
 have hex: ∃k,k<ord.length/\sgm ord k=j:=⟨k,hk,by rw [zOT hk];exact e⟩
 unfold M.My.tau
 rw [dif_pos hex]
 have:=Classical.choose_spec hex
 exact⟨by rw [<-h.len];exact this.1,this.2⟩
theorem OrdOk.sg{n:Nat}(h:OrdOk ord n){j:Nat}(hj:j<n):sgm ord j<n/\M.My.tau ord (sgm ord j)=j:=by
 have hl:sgm ord j<n:=by
  rw [zOT (by rw [h.len];exact hj)]
  exact h.lt _ (getElem_mem _)
 exact⟨hl,h.inj (h.tau hl).1 hj (h.tau hl).2⟩
theorem yNH(h:OrdOk ord as.length){j:Nat}(hj:j<as.length):(tuA as ord)[j]? =as[sgm ord j]? :=by
 have hj':j<ord.length:=by rw [h.len];exact hj
 unfold tuA
 rw [getElem?_map,gE0 hj',zOT hj',gE0 (h.lt _ (getElem_mem hj'))]
 show some ((as[ord[j]]?).getD (0,[]))=_
 rw [gE0 (h.lt _ (getElem_mem hj'))]
 rfl
theorem tu_sm(h:OrdOk ord as.length):Sm ts hs as hs (tuA as ord) (sgm ord) (tau ord):=by
 refine⟨by unfold tuA;rw [lM,h.len],λj hj=>h.sg hj,λj hj=>h.tau hj,λj hj x=>?_,λj hj x=>?_⟩
 ·unfold Kq
  rw [yNH h hj]
 ·unfold Fq
  rw [yNH h hj]
theorem yIE(h:OrdOk ord as.length){a:Int×List MV}(ha:a∈tuA as ord):a∈as:=by
 unfold tuA at ha
 obtain⟨k,hk,rfl⟩:=mM.mp ha
 rw [gE0 (h.lt k hk)]
 exact getElem_mem _
theorem tu_ok(h:OrdOk ord as.length)(Q:QOk ts as):QOk ts (tuA as ord):=by
 have hl:(tuA as ord).length=as.length:=by unfold tuA;rw [lM,h.len]
 refine⟨λa ha=>Q.at' a (yIE h ha),by rw [hl];exact Q.len,λa ha=>Q.pos a (yIE h ha),?_,by rw [hl];exact Q.ne⟩
 unfold tuA List.Nodup
 rw [map_map,pairwise_map]
 refine List.Pairwise.imp_of_mem (λ{i j} hi hj hne e=>hne ?_) h.nd
 have hi':=h.lt i hi
 have hj':=h.lt j hj
 have e:((as[i]?).getD (0,[])).1.toNat=((as[j]?).getD (0,[])).1.toNat:=e
 rw [gE0 hi',gE0 hj']at e
 refine(getElem_inj (xs:=as.map λa=>a.1.toNat) (h₀:=by rw [lM];exact hi') (h₁:=by rw [lM];exact hj') Q.nd).mp ?_
 rw [List.getElem_map,List.getElem_map]
 exact e
abbrev TU(q:MV)(c:Int)(m o:Option MV):Rho:=[some q,some (.int c),m,o]
theorem yDG(Q:QOk ts as)(c:Int)(S:Sto): ∃ord,OrdOk ord as.length/\yA 2 kD [.val (qM hs as),.val (.int c)] S=.ok (.val (.tup [.loc S.length,qM hs (tuA as ord)])) (S++[.lst (ord.map zG)]):=by
 have hql:=Q.len
 have hqn:=Q.ne
 obtain⟨n,hn⟩: ∃n,n=as.length:=⟨_,rfl⟩
 rw [<-hn]at hql hqn ⊢
 have f1:zAH (TU (qM hs as) c none none) S=.ok (.next (TU (qM hs as) c (some (zG n)) none)) S:=by
  unfold zAH
  simp? [zJI,zJE,lM, <-hn]
 obtain⟨ord0,ho0⟩: ∃o:List Nat,o=(List.range n).map λk:Nat=>((c+(k:Int)) % (n:Int)).toNat:=⟨_,rfl⟩
 have O0:OrdOk ord0 n:=by
  refine⟨by rw [ho0];exact yHW c (by omega) (by omega),λo ho=>?_,by rw [ho0,lM,length_range]⟩
  rw [ho0]at ho
  obtain⟨k,_,rfl⟩:=mM.mp ho
  have:=eN0 (c+(k:Int)) (show(n:Int)≠0 by omega)
  have:=eL (c+(k:Int)) (show(0:Int)<n by omega)
  omega
 have hco:yY (gNm 0) zDC cC [none,some (.int c),some (zG n)] [] ((List.range n).map zG) S=.ok (ord0.map zG) S:=by
  rw [ho0,map_map]
  refine kE (yP _) λk _=>⟨[some (zG k),some (.int c),some (zG n)],rfl,rfl,?_⟩
  have:=eN0 (c+(k:Int)) (show(n:Int)≠0 by omega)
  unfold cC
  simp? [mod_lit (b:=(n:Int)) (by omega)]
  show R.ok (Er.val (.int ((c+(k:Int)) % (n:Int)))) S=R.ok (Er.val (.int (((c+(k:Int)) % (n:Int)).toNat:Int))) S
  rw [Int.toNat_of_nonneg this]
 have hb: ∀a b c d:Option MV,blk 1 [1,2] [a,b,c,d]=[none,b,c]:=λ_ _ _ _=>rfl
 have hrl:((List.range n).map zG).length<1000000:=by rw [lM,length_range];omega
 have f2:zAI (TU (qM hs as) c (some (zG n)) none) S=.ok (.next (TU (qM hs as) c (some (zG n)) (some (.loc S.length)))) (S++[.lst (ord0.map zG)]):=by
  unfold zAI
  simp? [zPH (n:=n) (by omega),hrl,hb,hco]
 obtain⟨ord,f3,O⟩: ∃ord:List Nat,zAJ (TU (qM hs as) c (some (zG n)) (some (.loc S.length))) (S++[.lst (ord0.map zG)])=.ok (.next (TU (qM hs as) c (some (zG n)) (some (.loc S.length)))) (S++[.lst (ord.map zG)])/\OrdOk ord n:=by
  unfold zAJ
  by_cases h2:c / 4 % 2=1
  ·refine⟨ord0.reverse,?_,⟨List.pairwise_reverse.mpr (O0.nd.imp λh e=>h e.symm),λo ho=>O0.lt o (mem_reverse.mp ho),by rw [length_reverse,O0.len]⟩⟩
   simp? [zY (b:=4) (by decide) (by decide),mod_lit (show(0:Int)<2 by decide),h2,decide_true,xS (zI S (.lst (ord0.map zG))),zTQ (zI S (.lst (ord0.map zG))),yZ]
   rw [List.map_reverse]
  ·refine⟨ord0,?_,O0⟩
   simp? [zY (b:=4) (by decide) (by decide),mod_lit (show(0:Int)<2 by decide),h2,decide_false,fT,iF]
 refine⟨ord,O,?_⟩
 have hco2:yY (gNm 0) zDD cE [none,some (qM hs as)] [(S.length,ord.map zG)] (ord.map zG) (S++[.lst (ord.map zG)])=.ok ((tuA as ord).map aM) (S++[.lst (ord.map zG)]):=by
  unfold tuA
  rw [map_map]
  refine kE (zEC (zI _ _)) λk hk=>⟨[some (zG k),some (qM hs as)],rfl,rfl,?_⟩
  have hkl:k<as.length:=by rw [<-hn];exact O.lt k hk
  unfold cE
  simp? [zJI,ix_tup (S:=S++[.lst (ord.map zG)]) (nI (xs:=as.map aM) (k:=k) (x:=aM as[k]) (by rw [getElem?_map,gE0 hkl];rfl))]
  show R.ok (Er.val (aM as[k])) _=R.ok (Er.val (aM ((as[k]?).getD (0,[])))) _
  rw [gE0 hkl]
  rfl
 have hb2: ∀a b c d:Option MV,blk 1 [0] [a,b,c,d]=[none,a]:=λ_ _ _ _=>rfl
 have hol:(ord.map zG).length<1000000:=by rw [lM,O.len];omega
 have f4:zAK (TU (qM hs as) c (some (zG n)) (some (.loc S.length))) (S++[.lst (ord.map zG)])=.ok (.ret (.val (.tup [.loc S.length,qM hs (tuA as ord)]))) (S++[.lst (ord.map zG)]):=by
  unfold zAK
  simp? [zON,zIT (zI S (.lst (ord.map zG))),hol,hb2,hco2,show∀(ds:List MV)(S:Sto),cO [.new ds] S=.ok (.val (.tup ds)) S from λ_ _=>rfl,tup2]
 have hF:kD [qM hs as,.int c] S=.ok (.val (.tup [.loc S.length,qM hs (tuA as ord)])) (S++[.lst (ord.map zG)]):=by
  show xD (zDP (TU (qM hs as) c none none) S)=_
  unfold zDP
  rw [zD f1,zD f2,zD f3,f4]
  rfl
 unfold yA
 rw [iP (show([Er.val (qM hs as),Er.val (.int c)]:List Er).length=2 from rfl)]
 show(noX (kD [qM hs as,.int c] S)).bind (λr S2=>dZ S r S2)=_
 rw [hF]
 show dZ S (.val (.tup [.loc S.length,qM hs (tuA as ord)])) (S++[.lst (ord.map zG)])=_
 unfold dZ
 have hnl: ¬lo S.length (.tup [.loc S.length,qM hs (tuA as ord)]):=by
  unfold lo loL lo
  exact λz=>lt_irrefl _ z.1
 dsimp only
 split
 ·first |rw [iN hnl]|rfl
 ·rfl
theorem zKV(Q:QOk ts as){i:Nat}(hi:i<as.length)(S:Sto): ∃ks:List (List Nat),ks.Nodup/\(∀x,x∈ks↔KnQ ts hs as i x)/\yA 3 zEX [.val (.tup (ts.map tbl)),.val (qM hs as),.val (zG i)] S=.ok (.new ((nB ks).map MV.str)) S:=by
 obtain⟨ks,T,e,hk,hn⟩:=zWH (hs:=hs) Q.at' Q.len hi S
 have hl:ks.length<64:=by
  have h1:=zDR hn λx hx=>yHA hi ((hk x).mp hx)
  have h2:=zMJ (hs:=hs) Q.at'
  have h3:=Q.len
  omega
 refine⟨ks,hn,hk,?_⟩
 refine jZ (T:=.dic (dT ks)::T) rfl ?_ (zHI _ _)
 show xD (zST [some (.tup (ts.map tbl)),some (qM hs as),some (zG i)] S)=_
 have f1:zKH [some (.tup (ts.map tbl)),some (qM hs as),some (zG i)] S=.ok (.next [some (.tup (ts.map tbl)),some (qM hs as),some (zG i)]) S:=by
  unfold zKH
  simp? [yBB Q.len Q.pos Q.nd]
 unfold zST
 rw [zD f1]
 unfold zRA
 simp? [e,zWM (zEZ S T (.dic (dT ks))) hl]
 rfl
theorem zRH{ks ks':List (List Nat)}(h:ks.Nodup)(h':ks'.Nodup)(e: ∀x,x∈ks↔x∈ks'):nB ks=nB ks':=
 zVP ((zBL ks).trans ((List.perm_ext_iff_of_nodup h h').mpr e)) (zGF ks)
end
theorem yMJ(ns:List Int)(k:Int)(hk:0<=k)(S:Sto): ∃c,yA 2 zQ [.val (.scr (ns.map MV.int)),.val (.int k)] S=.ok (.val (.int c)) S:=by
 have hlen:zDY [.val (.scr (ns.map MV.int))] S=.ok (.val (.int ns.length)) S:=by
  show R.ok (Er.val (.int (((ns.map MV.int).length:Nat):Int))) S=_
  rw [lM]
 have e1:cT [some (.scr (ns.map MV.int)),some (.int k)] S=if decide (k<ns.length)=true then(ixF (.val (.scr (ns.map MV.int))) (.val (.int k)) S).bind λr S1=>.ok (.ret r) S1 else .ok (.next [some (.scr (ns.map MV.int)),some (.int k)]) S:=by
  unfold cT
  simp? [hlen,lt_int]
 have fin: ∀c,zQ [.scr (ns.map MV.int),.int k] S=.ok (.val (.int c)) S-> ∃c,yA 2 zQ [.val (.scr (ns.map MV.int)),.val (.int k)] S=.ok (.val (.int c)) S:=λc h=>⟨c,zEB rfl h (zDH _ _) (λl=>by simp)⟩
 have hs:yI ["_law_script","_law_k"] [.scr (ns.map MV.int),.int k]=[some (.scr (ns.map MV.int)),some (.int k)]:=rfl
 by_cases hlt:k<ns.length
 ·obtain⟨d,hd⟩:=zIS (xs:=ns.map MV.int) (i:=k) hk (by rw [lM];exact hlt)
  obtain⟨c,rfl⟩: ∃c,d=.int c:=zMA (P:=λd=> ∃c,d=.int c) (λe he=>by obtain⟨c,_,rfl⟩:=mM.mp he;exact⟨c,rfl⟩) hd
  have hix:ixF (.val (.scr (ns.map MV.int))) (.val (.int k)) S=.ok (.val (.int c)) S:=by
   show(match atI (ns.map MV.int) k with |some d=>R.ok (Er.val d) S|none=>.no)=_
   rw [hd]
  refine fin c ?_
  rw [dT0 hlt,iP rfl,hix,bok]at e1
  unfold zQ zBU
  rw [hs,zHE e1]
  rfl
 ·refine fin 0 ?_
  rw [dF0 hlt,iN xF0]at e1
  unfold zQ zBU
  rw [hs,zD e1]
  rfl
theorem zWQ: ∀{o:List MV},(∀y∈o, ∃i:Int,y=.int i)-> ∃ys:List Int,o=ys.map MV.int
 |[],_=>⟨[],rfl⟩
 |a::o,h=>by
  obtain⟨x,rfl⟩:=h a mF0
  obtain⟨ys,rfl⟩:=zWQ λy hy=>h y (mO _ hy)
  exact⟨x::ys,rfl⟩
theorem yMK{S:Sto}{p q:Er}{ds:List MV}(hp:vwE S p=some (.ls ds))(hq:vwE S q=some (.ls ds))(hd: ∀d∈ds,pd d=true/\dpt d<40):zLP S zN p q=some true:=by
 unfold zLP
 rw [hp,hq]
 show eqW (eqv S zN) (.ls ds) (.ls ds)=some true
 obtain⟨bs,h1,h2⟩:=zOJ (e:=eqv S zN) (ds:=ds) (es:=ds) λa ha b hb=>zOK zN (hd a ha).1 (hd b hb).1 (by unfold zN;exact(hd a ha).2)
 rw [zRZ,iP rfl,h1]
 rw [dT0 rfl]at h2
 show some (bs.all id)=some true
 rw [aE]at h2
 rw [h2.1]
theorem yNI{S:Sto}{p q:Er}{ds:List MV}(hp:vwE S p=some (.ls ds))(hq:vwE S q=some (.ls ds))(hd: ∀d∈ds,pd d=true/\dpt d<40):neF p q S=.ok (.val (.bl false)) S:=by unfold neF;rw [yMK hp hq hd];rfl
abbrev LW(sc:List MV)(a b c d e f g h i j k:Option MV):Rho:=[some (.scr sc),a,b,c,d,e,f,g,h,i,j,k]
abbrev LX(sc:List MV)(ts:List (Int×Int))(q f g h i j k:Option MV):Rho:=LW sc (some (.loc 0)) (some (.tup (ts.map tbl))) (some (.loc 1)) (some (.loc 2)) q f g h i j k
abbrev LZ(sc:List MV)(ts:List (Int×Int))(q o t:MV)(i j k:Option MV):Rho:=LX sc ts (some q) (some o) (some (.loc 3)) (some t) i j k
theorem yBL(ks:List (List Nat))(S:Sto):neF (.new (ks.map MV.str)) (.new (ks.map MV.str)) S=.ok (.val (.bl false)) S:=yNI rfl rfl zMI
section
variable{sc:List MV}{ts:List (Int×Int)}{hs:List (List Nat)}{as as1 as2:List (Int×List MV)}{ord:List Nat}{S:Sto}{pp:Option MV}
theorem yML(Q:QOk ts as)(Q1:QOk ts as1)(Q2:QOk ts as2)(M1:Sm ts hs as [] as1 id id)(M2:Sm ts hs as hs as2 (sgm ord) (tau ord))(O:OrdOk ord as.length)(hO:S[3]? =some (.lst (ord.map zG))){k:Nat}(hk:k<as.length):
  zMF (LZ sc ts (qM hs as) (qM [] as1) (qM hs as2) pp (some (zG k)) none) S=.ok (.next (LZ sc ts (qM hs as) (qM [] as1) (qM hs as2) pp (some (zG k)) none)) S:=by
 have hsg:=O.sg hk
 have hko:k<ord.length:=by rw [O.len];exact hk
 have hio:ixF (.val (.loc 3)) (.val (zG k)) S=.ok (.val (zG (sgm ord k))) S:=gY hO (nI (by rw [getElem?_map,gE0 hko,zOT hko];rfl))
 obtain⟨ks,n0,m0,e0⟩:=zKV (hs:=hs) Q hsg.1 S
 obtain⟨ks1,n1,m1,e1⟩:=zKV (hs:=[]) Q1 (i:=sgm ord k) (by rw [M1.len];exact hsg.1) S
 obtain⟨ks2,n2,m2,e2⟩:=zKV (hs:=hs) Q2 (i:=k) (by rw [M2.len];exact hk) S
 have s1:nB ks1=nB ks:=zRH n1 n0 λx=>by rw [m1,m0,M1.kn hsg.1 x];exact Iff.rfl
 have s2:nB ks2=nB ks:=zRH n2 n0 λx=>by rw [m2,m0,M2.kn hk x]
 rw [s1]at e1
 rw [s2]at e2
 have f1:zKO (LZ sc ts (qM hs as) (qM [] as1) (qM hs as2) pp (some (zG k)) none) S=.ok (.next (LZ sc ts (qM hs as) (qM [] as1) (qM hs as2) pp (some (zG k)) none)) S:=by
  unfold zKO
  simp? [hio,e1,e0,yBL,fT,iF]
 unfold zMF
 rw [zD f1]
 unfold zRE
 simp? [hio,e2,e0,yBL,fT,iF]
theorem yIF(Q:QOk ts as)(Q1:QOk ts as1)(Q2:QOk ts as2)(M1:Sm ts hs as [] as1 id id)(M2:Sm ts hs as hs as2 (sgm ord) (tau ord))(O:OrdOk ord as.length)(hO:S[3]? =some (.lst (ord.map zG))): ∀(ks:List Nat),(∀k∈ks,k<as.length)-> ∀j:Option MV,
  ∃j',kS (gNm 10) zMF [] (ks.map zG) (LZ sc ts (qM hs as) (qM [] as1) (qM hs as2) pp j none) S=.ok (.next (LZ sc ts (qM hs as) (qM [] as1) (qM hs as2) pp j' none)) S
 |[],_,j=>⟨j,rfl⟩
 |k::ks,hk,j=>by
  obtain⟨j',e⟩:=yIF Q Q1 Q2 M1 M2 O hO ks (λi hi=>hk i (mO _ hi)) (some (zG k))
  refine⟨j',?_⟩
  rw [map_cons,zW (ρ0:=LZ sc ts (qM hs as) (qM [] as1) (qM hs as2) pp (some (zG k)) none) (S0:=S) rfl (yML Q Q1 Q2 M1 M2 O hO (hk k mF0)) (yP _)]
  exact e
end
theorem zYL(o:Option Pr)(S:Sto):yES (rgE o) (.val .non) S=.ok (.val (.bl o.isNone)) S:=by
 cases o<;>rfl
theorem cnt3{S:Sto}{l:Nat}{b:Bool}(h:S[l]? =some (.lst [.bl b,.bl b,.bl b])):zKG (.val (.loc l)) [.val (.bl b)] S=.ok (.val (.int 3)) S:=by
 unfold zKG
 dsimp only
 rw [zBK h]
 show R.ok (Er.val (.int (yCZ b [b,b,b]:Nat))) S=_
 cases b<;>rfl
theorem yIG(ns:List Int)(h:ns.length<=63): ∃S,zVW [.scr (ns.map MV.int)] []=.ok (.val (.bl true)) S:=by
 obtain⟨sc,hsc⟩: ∃sc,sc=ns.map MV.int:=⟨_,rfl⟩
 have cell: ∀(k:Int),0<=k-> ∀S, ∃c,yA 2 zQ [.val (.scr sc),.val (.int k)] S=.ok (.val (.int c)) S:=λk hk S=>by rw [hsc];exact yMJ ns k hk S
 rw [<-hsc]
 obtain⟨c0,hc0⟩:=cell 0 (by decide) []
 obtain⟨ws,hw6,_,hws⟩:=yHR c0 []
 obtain⟨S1,hS1⟩: ∃S1:Sto,S1=[.lst (ws.map MV.str)]:=⟨_,rfl⟩
 have f1:zSW (LW sc none none none none none none none none none none none) []=.ok (.next (LW sc (some (.loc 0)) none none none none none none none none none none)) S1:=by
  unfold zSW
  simp? [hc0,hws]
  rw [hS1]
  rfl
 obtain⟨c1,hc1⟩:=cell 1 (by decide) S1
 obtain⟨ts,⟨ht1,ht4⟩,hts,htb⟩:=yDD c1 S1
 have f2:zSX (LW sc (some (.loc 0)) none none none none none none none none none none) S1=.ok (.next (LW sc (some (.loc 0)) (some (.tup (ts.map tbl))) none none none none none none none none none)) S1:=by
  unfold zSX
  simp? [hc1,htb]
 obtain⟨c2,hc2⟩:=cell 2 (by decide) S1
 have hw0:S1[0]? =some (.lst (ws.map MV.str)):=by rw [hS1];rfl
 have hcut:gT (ws.map MV.str) (some 4) none=(ws.drop 4).map MV.str:=by
  have:=zKT (ws.map MV.str) 4
  rw [map_drop]
  exact this
 obtain⟨vs,hv1,_,hvs,hva⟩:=yDE c2 (ws:=ws.drop 4) (by rw [length_drop,hw6]) S1
 obtain⟨S2,hS2⟩: ∃S2:Sto,S2=S1++[.lst vs]:=⟨_,rfl⟩
 have f3:zSY (LW sc (some (.loc 0)) (some (.tup (ts.map tbl))) none none none none none none none none none) S1=.ok (.next (LW sc (some (.loc 0)) (some (.tup (ts.map tbl))) (some (.loc 1)) none none none none none none none none)) S2:=by
  unfold zSY
  simp? [hc2,zHJ hw0,hcut,hva]
  rw [hS2,hS1]
  rfl
 obtain⟨out,hco,hol,hom⟩:=zNI (S:=S2) (gf:=gNm 0) (cf:=zRC) (ef:=zKM) (ρb:=[none,some (.scr sc)]) (gs:=[]) (P:=λy=> ∃i:Int,y=.int i) (yP _) (ds:=(List.range 6).map zG) λd hd=>by
  obtain⟨k,hk,rfl⟩:=mM.mp hd
  obtain⟨c,hc⟩:=cell (3+(k:Int)) (by omega) S2
  refine⟨[some (zG k),some (.scr sc)],.int c,rfl,rfl,?_,⟨c,rfl⟩⟩
  unfold zKM
  simp? [hc]
 obtain⟨cs,rfl⟩:=zWQ hom
 rw [lM,lM,length_range]at hol
 obtain⟨S3,hS3⟩: ∃S3:Sto,S3=S2++[.lst (cs.map MV.int)]:=⟨_,rfl⟩
 have hb: ∀a b c d e f g h i j k l:Option MV,blk 1 [0] [a,b,c,d,e,f,g,h,i,j,k,l]=[none,a]:=λ_ _ _ _ _ _ _ _ _ _ _ _=>rfl
 have f4:zSZ (LW sc (some (.loc 0)) (some (.tup (ts.map tbl))) (some (.loc 1)) none none none none none none none none) S2=.ok (.next (LX sc ts none none none none none none none)) S3:=by
  unfold zSZ
  simp? [rng6,show((List.range 6).map zG).length<1000000 by decide,hb,hco]
  rw [hS3,hS2,hS1]
  rfl
 have hw3:S3[0]? =some (.lst (ws.map MV.str)):=by rw [hS3,hS2,hS1];rfl
 have hv3:S3[1]? =some (.lst vs):=by rw [hS3,hS2,hS1];rfl
 have hc3:S3[2]? =some (.lst (cs.map MV.int)):=by rw [hS3,hS2,hS1];rfl
 have hl3:S3.length=3:=by rw [hS3,hS2,hS1];rfl
 have hxl:(ws.take 4).length=4:=by rw [lT,hw6];rfl
 obtain⟨hs,as,Q,hq⟩:=yHY (lc:=2) (lv:=1) (xs:=ws.take 4) (ts:=ts) hc3 hol (λz=>by rw [z,length_nil]at hxl;omega) (by omega) hv3 hv1 hvs ht1 ht4 hts
 have hcut2:gT (ws.map MV.str) none (some 4)=(ws.take 4).map MV.str:=by rw [zCS _ 4 (by decide),map_take];rfl
 have f5:zTA (LX sc ts none none none none none none none) S3=.ok (.next (LX sc ts (some (qM hs as)) none none none none none none)) S3:=by
  unfold zTA
  simp? [zHJ hw3,hcut2,hq]
 obtain⟨c9,hc9⟩:=cell 9 (by decide) S3
 obtain⟨v,hvm,hvi⟩:=zTP hv3 hv1 c9
 have hv:=hvs v hvm
 have hvl:0<vs.length:=length_pos_iff.mpr hv1
 have hval:=yDF (hs:=hs) hv Q S3
 have f6:zTB (LX sc ts (some (qM hs as)) none none none none none none) S3=.ok (.next (LX sc ts (some (qM hs as)) (some (qM [] (as.map (vlA hs v)))) none none none none none)) S3:=by
  unfold zTB
  simp? [hc9,zCR hv3,mod_lit (b:=(vs.length:Int)) (by omega),hvi,hval]
 obtain⟨ord,O,htu⟩:=yDG (hs:=hs) Q (c9 / 4) S3
 have Q1:=yNG (hs:=hs) hv Q
 have M1:=vl_sm (hs:=hs) hv Q
 have Q2:=tu_ok O Q
 have M2:=tu_sm (ts:=ts) (hs:=hs) O
 obtain⟨as1,h1⟩: ∃a,a=as.map (vlA hs v):=⟨_,rfl⟩
 obtain⟨as2,h2⟩: ∃a,a=tuA as ord:=⟨_,rfl⟩
 rw [<-h1]at f6 Q1 M1
 rw [<-h2]at htu Q2 M2
 obtain⟨S4,hS4⟩: ∃S4:Sto,S4=S3++[.lst (ord.map zG)]:=⟨_,rfl⟩
 rw [<-hS4,hl3]at htu
 have hO4: ∀U:Sto,(S4++U)[3]? =some (.lst (ord.map zG)):=λU=>by rw [hS4, <-hl3,aA];exact zEZ _ _ _
 have hl4:S4.length=4:=by rw [hS4,lA,hl3];rfl
 have f7:zTC (LX sc ts (some (qM hs as)) (some (qM [] as1)) none none none none none) S3=.ok (.next (LZ sc ts (qM hs as) (qM [] as1) (qM hs as2) none none none)) S4:=by
  unfold zTC
  simp? [hc9,zY (b:=4) (by decide) (by decide),htu,zDE]
  rfl
 obtain⟨P,hP⟩: ∃P,P=PQ ts hs as:=⟨_,rfl⟩
 have hsw:=zJJ (hs:=hs) Q S4
 rw [<-hP]at hsw
 obtain⟨S5,hS5⟩: ∃S5:Sto,S5=S4++[.lst (P.map prM)]:=⟨_,rfl⟩
 have hO5:S5[3]? =some (.lst (ord.map zG)):=by rw [hS5];exact hO4 _
 have hP5:S5[4]? =some (.lst (P.map prM)):=by rw [hS5, <-hl4];exact zI _ _
 have hl5:S5.length=5:=by rw [hS5,lA,hl4];rfl
 have f8:zTD (LZ sc ts (qM hs as) (qM [] as1) (qM hs as2) none none none) S4=.ok (.next (LZ sc ts (qM hs as) (qM [] as1) (qM hs as2) (some (.loc 4)) none none)) S5:=by
  unfold zTD
  simp? [hsw]
  rw [hS5,hl4]
 have neP:neF (.new (P.map prM)) (.val (.loc 4)) S5=.ok (.val (.bl false)) S5:=yNI rfl (show(jM S5 (.val (.loc 4))).map Vw.ls=_ by rw [zBK hP5];rfl) (yAZ P)
 have hsw1:=zJJ (hs:=[]) Q1 S5
 rw [M1.same, <-hP]at hsw1
 have f9:zTE (LZ sc ts (qM hs as) (qM [] as1) (qM hs as2) (some (.loc 4)) none none) S5=.ok (.next (LZ sc ts (qM hs as) (qM [] as1) (qM hs as2) (some (.loc 4)) none none)) S5:=by
  unfold zTE
  simp? [hsw1,neP,fT,iF]
 have hsw2:=zJJ (hs:=hs) Q2 S5
 obtain⟨L,hL⟩: ∃L,L=PQ ts hs as2:=⟨_,rfl⟩
 have hperm:=M2.perm
 rw [<-hL]at hsw2 hperm
 rw [<-hP]at hperm
 have hLl:L.length<1000:=by
  have h1:=zDR (yBC (RcQ ts hs as2) as2.length) (U:=(List.range 4).flatMap λa=>(List.range 4).map λb=>(a,b)) λp hp=>by
   have:=zCJ.mp hp
   have h4:=Q2.len
   exact mem_flatMap.mpr ⟨p.1,mem_range.mpr (by omega),mM.mpr ⟨p.2,mem_range.mpr (by omega),rfl⟩⟩
  rw [hL]
  exact Nat.lt_of_le_of_lt h1 (by decide)
 have hio: ∀k,k<as.length->ixF (.val (.loc 3)) (.val (zG k)) S5=.ok (.val (zG (sgm ord k))) S5:=λk hk=>by
  have hko:k<ord.length:=by rw [O.len];exact hk
  exact gY hO5 (nI (by rw [getElem?_map,gE0 hko,zOT hko];rfl))
 have hco2:yY (gTp 2 (yR (gNm 0) (yR (gNm 1) zBF))) zRD zKN [none,none,some (.loc 3)] [] (L.map prM) S5=.ok ((L.map λp=>(sgm ord p.1,sgm ord p.2)).map prM) S5:=by
  rw [map_map]
  refine kE (yP _) λp hp=>⟨[some (zG p.1),some (zG p.2),some (.loc 3)],rfl,rfl,?_⟩
  rw [hL]at hp
  have g:=zCJ.mp hp
  rw [M2.len]at g
  unfold zKN
  simp? [hio p.1 g.1,hio p.2 g.2.1,tup2]
  rfl
 have hst:=yBA (p:=.new ((L.map λp=>(sgm ord p.1,sgm ord p.2)).map prM)) (S:=S5) hperm (by rw [hP];exact(zWK _ _).imp λ{a b} h=>zLK.mpr (by have:=zLL.mp h;omega)) (by rw [lM];omega) rfl
 have hb2: ∀a b c d e f g h i j k l:Option MV,blk 2 [7] [a,b,c,d,e,f,g,h,i,j,k,l]=[none,none,h]:=λ_ _ _ _ _ _ _ _ _ _ _ _=>rfl
 have hLm:(L.map prM).length<1000000:=by rw [lM];omega
 have f10:zOF (LZ sc ts (qM hs as) (qM [] as1) (qM hs as2) (some (.loc 4)) none none) S5=.ok (.next (LZ sc ts (qM hs as) (qM [] as1) (qM hs as2) (some (.loc 4)) none none)) S5:=by
  unfold zOF
  simp? [hsw2,zFA,hLm,hb2,hco2,hst,neP,fT,iF]
 obtain⟨j',e11⟩:=yIF (sc:=sc) (pp:=some (.loc 4)) Q Q1 Q2 M1 M2 O hO5 (List.range as.length) (λk hk=>mem_range.mp hk) none
 have hql:=Q.len
 have f11:zOG (LZ sc ts (qM hs as) (qM [] as1) (qM hs as2) (some (.loc 4)) none none) S5=.ok (.next (LZ sc ts (qM hs as) (qM [] as1) (qM hs as2) (some (.loc 4)) j' none)) S5:=by
  unfold zOG
  simp? [zCR hO5,lM,O.len,zPH (n:=as.length) (by omega)]
  exact e11
 obtain⟨b,hbb⟩: ∃b,b=(rgP P).isNone:=⟨_,rfl⟩
 have r0:=zTO (hs:=hs) Q S5
 have r1:=zTO (hs:=[]) Q1 S5
 have r2:=zTO (hs:=hs) Q2 S5
 have g1:=M1.rg
 have g2:=M2.rg
 rw [<-hP, <-hbb]at g1 g2
 rw [<-hP]at r0
 have hcf:yY (gNm 0) zKP zHG [none,some (.tup (ts.map tbl))] [] [qM hs as,qM [] as1,qM hs as2] S5=.ok [.bl b,.bl b,.bl b] S5:=by
  have:=kE (S:=S5) (gf:=gNm 0) (cf:=zKP) (ef:=zHG) (ρb:=[none,some (.tup (ts.map tbl))]) (gs:=[]) (f:=id) (g:=λ_=>MV.bl b) (yP _) (ds:=[qM hs as,qM [] as1,qM hs as2]) λd hd=>by
   refine⟨[some d,some (.tup (ts.map tbl))],rfl,rfl,?_⟩
   unfold zHG
   rcases mC.mp hd with rfl|hd
   ·simp? [r0,zYL, <-hbb]
   ·rcases mC.mp hd with rfl|hd
    ·simp? [r1,zYL,g1]
    ·rw [mS.mp hd]
     simp? [r2,zYL,g2]
  exact this
 have hb3: ∀a b c d e f g h i j k l:Option MV,blk 1 [2] [a,b,c,d,e,f,g,h,i,j,k,l]=[none,c]:=λ_ _ _ _ _ _ _ _ _ _ _ _=>rfl
 obtain⟨S6,hS6⟩: ∃S6:Sto,S6=S5++[.lst [.bl b,.bl b,.bl b]]:=⟨_,rfl⟩
 have f12:zOH (LZ sc ts (qM hs as) (qM [] as1) (qM hs as2) (some (.loc 4)) j' none) S5=.ok (.next (LZ sc ts (qM hs as) (qM [] as1) (qM hs as2) (some (.loc 4)) j' (some (.loc 5)))) S6:=by
  unfold zOH
  simp? [lst3,zFA,show([qM hs as,qM [] as1,qM hs as2]:List MV).length<1000000 from(by decide:3<1000000),hb3,hcf]
  rw [hS6,hl5]
 have hf6:S6[5]? =some (.lst [.bl b,.bl b,.bl b]):=by rw [hS6, <-hl5];exact zI _ _
 have i6:ixF (.val (.loc 5)) (.val (.int 0)) S6=.ok (.val (.bl b)) S6:=gY hf6 (nI (k:=0) rfl)
 have f13:zOI (LZ sc ts (qM hs as) (qM [] as1) (qM hs as2) (some (.loc 4)) j' (some (.loc 5))) S6=.ok (.ret (.val (.bl true))) S6:=by
  unfold zOI
  simp? [xS hf6,i6,cnt3 hf6,decide_true]
 refine⟨S6,?_⟩
 show xD (yGN (LW sc none none none none none none none none none none none) [])=_
 unfold yGN
 rw [zD f1,zD f2,zD f3,zD f4,zD f5,zD f6,zD f7,zD f8,zD f9,zD f10,zD f11,zD f12,f13]
 rfl
section
variable{P:Program}{w:World}{K:PySem.W.Frag}{mg:Str->Option Value}{base:Heap}
def top(i:Nat):Stmt:=PySem.Challenge.pw_mendsure_k63_heads_are_values.main.body.getD i (.Pass ⟨0,0,0,0⟩)
abbrev zIG:Stmt:=top 4
theorem zDF:FnScope zID ["atoms"] (zH zIG):=fsK (by decide+kernel)
theorem zWR(D:DefM K mg "names_in" zIG)(zIH:mg "list"=none):(CalM P w K mg base) "names_in" 1 1 ["atoms"] cP:=
 by have h:=okC (P:=P) (w:=w) (base:=base) D (λ_ _ _ _ _ _ us hl=>match us,hl with |[_],_=>rfl) λf fd F=>okM (k:=0) _ F zDF λcdv A outer s H E hr=>(zF (zL 1 zDF.nd zNK) (zF (xV PassesOwn.never rfl (yQO (zA 0)) (zV 2 zDF.nd) (zK (xV PassesOwn.never rfl (zJS (zR (zA 2) zC)) (zV 3 zDF.nd) (zK (kI (zCQ hr.units (zR (zA 3) zC) (zBE [118,97,114])) (zK (zFV zFT (zME (zA 1) (zR (zA 3) zC)))) xK))))) (zK (yH (xW zNV (zVL rfl) rfl zIH zZG (zB (zA 1) zE))))))
    exact h
abbrev jW:Stmt:=top 6
theorem xZ:FnScope zAO ["question"] (zH jW):=fsK (by decide+kernel)
theorem zGT(D:DefM K mg "check_tables_once" jW)(nK:mg "enumerate"=none):(CalM P w K mg base) "check_tables_once" 1 1 ["question"] yN:=
 by have h:=okC (P:=P) (w:=w) (base:=base) D (λ_ _ _ _ _ _ us hl=>match us,hl with |[_],_=>rfl) λf fd F=>okM (k:=0) _ F xZ λcdv A outer s H E hr=>(zF (zL 1 xZ.nd zNK) (zK (xV PassesOwn.never rfl (yKP rfl nK (zB (zR (zA 0) zC) zE)) (zHZ (n:=2) rfl (kK (zV 2 xZ.nd) (kK (zV 3 xZ.nd) zHY))) (zF (kI (yQV (zR (zA 3) zC) (zA 1)) (zK yEJ) xK) (zK (zFV zFT (zME (zA 1) (zR (zA 3) zC))))))))
    exact h
abbrev zBA:Stmt:=top 7
theorem zPI:FnScope ["question","atom"] ["question","atom"] (zH zBA):=fsK (by decide+kernel)
theorem zPJ(D:DefM K mg "free_names" zBA)(zYN:(CalM P w K mg base) "names_in" 1 1 ["atoms"] cP):(CalM P w K mg base) "free_names" 2 2 ["question","atom"] xE:=
 by have h:=okC (P:=P) (w:=w) (base:=base) D (λ_ _ _ _ _ _ us hl=>match us,hl with |[_,_],_=>rfl) λf fd F=>okM (k:=1) _ F zPI λcdv A outer s H E hr=>(zK (yH (gX (zH zBA) ["question","atom"] ["name"] [0] (wV (zM zYN (hr.mono (by decide)) rfl (zB (jL (zB (zA 1) zE)) zE))) rfl (λ_ _ _ _ hN=>(xR 0 hN)) (λ_ _ _ _=>(zIN (zNE hr.units (zA 0) (zR (zA 1) zC)))) (λ_ _ _ _=>(zA 0)))))
    exact h
abbrev zGU:Stmt:=top 8
theorem zJK:FnScope zLG zCT (zH zGU):=fsK (by decide+kernel)
theorem zTS(D:DefM K mg "key_names" zGU)(cF:(CalM P w K mg base) "free_names" 2 2 ["question","atom"] xE):(CalM P w K mg base) "key_names" 3 3 zCT gS:=
 by have h:=okC (P:=P) (w:=w) (base:=base) D (λ_ _ _ _ _ _ us hl=>match us,hl with |[_,_,_],_=>rfl) λf fd F=>okM (k:=2) _ F zJK λcdv A outer s H E hr=>(zF (zL 3 zJK.nd (zR (zR (zA 0) (zR (zA 2) zC)) zC)) (zK (yH (zM cF (hr.mono (by decide)) rfl (zB (zA 1) (zB (kF (zB (zR (zA 2) zC) (zB (cM (zR (zA 2) zC) jE (jF (zA 3))) zE))) zE))))))
    exact h
abbrev dM:Stmt:=top 9
theorem kZ:FnScope zBM ["tables","question","place"] (zH dM):=fsK (by decide+kernel)
theorem zWS(D:DefM K mg "known_at" dM)(zLM:(CalM P w K mg base) "key_names" 3 3 zCT gS)(zKZ:mg "dict"=none)(wS:mg "len"=none)(zWV:mg "all"=none)(cF:(CalM P w K mg base) "free_names" 2 2 ["question","atom"] xE):(CalM P w K mg base) "known_at" 4 3 ["tables","question","place"] cR:=
 by have h:=okC (P:=P) (w:=w) (base:=base) D (λ_ _ _ _ _ _ us hl=>match us,hl with |[_,_,_],_=>rfl) λf fd F=>okM (k:=3) _ F kZ λcdv A outer s H E hr=>(zF (zL 3 kZ.nd (zR (zA 1) zC)) (zF (zL 4 kZ.nd (yL (cM (zA 3) jE (jF (zA 2))) (cM (zA 3) (jF (yL (zA 2) zC)) jE))) (zF (zL 5 kZ.nd (xW zQS (yAE rfl) rfl zKZ yAD (zB (gX (zH dM) zBM ["name"] [] (wV (zM zLM (hr.mono (by decide)) rfl (zB (zA 0) (zB (zA 1) (zB (zR (zA 3) (zA 2)) zE))))) rfl (λ_ _ _ _ hN=>(xR 0 hN)) (λ_ _ _ _=>gG) (λ_ _ _ _=>(kF (zB (zA 0) (zB zFT zE))))) zE))) (zF (zL 6 kZ.nd yOZ) (zF (zUR 10000 PassesOwn.never (yMU hr.units (zA 6) (yD zQV yAG rfl wS gO (zB (zA 5) zE))) (zF (zL 6 kZ.nd (yD zQV yAG rfl wS gO (zB (zA 5) zE))) (zK (xV PassesOwn.never rfl (zJS (zA 4)) (zV 7 kZ.nd) (zK (kI (zNA (yD zRT (yPI rfl) rfl zWV yPK (zB (gX (zH dM) zBM ["name"] [5] (wV (zM zLM (hr.mono (by decide)) rfl (zB (zA 0) (zB (zA 1) (zB (zA 7) zE))))) rfl (λ_ _ _ _ hN=>(xR 0 hN)) (λ_ _ _ _=>gG) (λ_ _ _ _=>(yQU (zA 0) (zA 1)))) zE))) (zK (xQ (yLG (zA 5) (zB (xW zQS (yAE rfl) rfl zKZ yAD (zB (gX (zH dM) zBM ["name"] [] (wV (zM cF (hr.mono (by decide)) rfl (zB (zA 1) (zB (zA 7) zE)))) rfl (λ_ _ _ _ hN=>(xR 0 hN)) (λ_ _ _ _=>gG) (λ_ _ _ _=>(kF (zB (zA 0) (zB zFT zE))))) zE)) zE)))) xK)))))) (zK (yH (zA 5))))))))
    exact h
abbrev zTT:Stmt:=top 10
theorem yIH:FnScope zCT zCT (zH zTT):=fsK (by decide+kernel)
theorem yII(D:DefM K mg "known" zTT)(jX:(CalM P w K mg base) "check_tables_once" 1 1 ["question"] yN)(zII:(CalM P w K mg base) "known_at" 4 3 ["tables","question","place"] cR)(jB:mg "sorted"=none):(CalM P w K mg base) "known" 5 3 zCT zEX:=
 by have h:=okC (P:=P) (w:=w) (base:=base) D (λ_ _ _ _ _ _ us hl=>match us,hl with |[_,_,_],_=>rfl) λf fd F=>okM (k:=4) _ F yIH λcdv A outer s H E hr=>(zF (xQ (zM jX (hr.mono (by decide)) rfl (zB (zA 1) zE))) (zK (yH (yD zNZ (zVU rfl) rfl jB zEN (zB (zM zII (hr.mono (by decide)) rfl (zB (zA 0) (zB (zA 1) (zB (zA 2) zE)))) zE)))))
    exact h
abbrev jI:Stmt:=top 11
theorem zJL:FnScope ["some","others"] ["some","others"] (zH jI):=fsK (by decide+kernel)
theorem zJM(D:DefM K mg "have_in_common" jI)(zWW:mg "any"=none):(CalM P w K mg base) "have_in_common" 1 2 ["some","others"] jG:=
 by have h:=okC (P:=P) (w:=w) (base:=base) D (λ_ _ _ _ _ _ us hl=>match us,hl with |[_,_],_=>rfl) λf fd F=>okM (k:=0) _ F zJL λcdv A outer s H E hr=>(zK (yH (yD zSQ (yQW rfl) rfl zWW yPL (zB (gX (zH jI) ["some","others"] ["name"] [1] (wV (zA 0)) rfl (λ_ _ _ _ hN=>(xR 0 hN)) (λ_ _ _ _=>gG) (λ_ _ _ _=>(pm_in hr.units (zA 0) (zA 1)))) zE))))
    exact h
abbrev gD:Stmt:=top 12
theorem xP:FnScope zDI ["tables","question","place"] (zH gD):=fsK (by decide+kernel)
theorem zOU(D:DefM K mg "swayed_from" gD)(zII:(CalM P w K mg base) "known_at" 4 3 ["tables","question","place"] cR)(cF:(CalM P w K mg base) "free_names" 2 2 ["question","atom"] xE)(yB:mg "range"=none)(wS:mg "len"=none)(zKY:(CalM P w K mg base) "have_in_common" 1 2 ["some","others"] jG)(zIH:mg "list"=none):(CalM P w K mg base) "swayed_from" 5 3 ["tables","question","place"] dR:=
 by have h:=okC (P:=P) (w:=w) (base:=base) D (λ_ _ _ _ _ _ us hl=>match us,hl with |[_,_,_],_=>rfl) λf fd F=>okM (k:=4) _ F xP λcdv A outer s H E hr=>(zF (zL 3 xP.nd (zM zII (hr.mono (by decide)) rfl (zB (zA 0) (zB (zA 1) (zB (zA 2) zE))))) (zF (zHA 4 xP.nd (zH gD) zDI ["atom"] [1,3] (zJS (zR (zA 1) zC)) rfl (λ_ _ _ _ hN=>(xR 0 hN)) (λ_ _ _ _=>gG) (λ_ _ _ _=>(gX (rlS ({kind:=PySem.ScopeKind.function,names:=[(PySem.Str.ofString ".0",PySem.NameKind.local),(PySem.Str.ofString "atom",PySem.NameKind.local),(PySem.Str.ofString "free_names",PySem.NameKind.globalImplicit),(PySem.Str.ofString "learnt",PySem.NameKind.free),(PySem.Str.ofString "question",PySem.NameKind.free)],isGenerator:=false,isCoroutine:=false,more:=[]:PySem.Scope}) (zH gD)) ["atom","question","learnt"] ["name"] [2] (wV (zM cF (hr.mono (by decide)) rfl (zB (zA 1) (zB (zA 0) zE)))) rfl (λ_ _ _ _ hN=>(xR 0 hN)) (λ_ _ _ _=>(zIN (zQQ (zA 0) (zA 1)))) (λ_ _ _ _=>(zA 0))))) (zF (zL 5 xP.nd (yCX (zA 2) zFT)) (zF (zL 6 xP.nd (jL (zB (zA 2) zE))) (zF (zUR 10000 PassesOwn.never (zNA (zA 6)) (zF (zL 7 xP.nd (zR (zA 4) (yLJ (zA 6)))) (zK (xV PassesOwn.never rfl (yS rfl yB (zB (yD xH cN rfl wS gO (zB (zA 4) zE)) zE)) (zV 8 xP.nd) (zK (kI (yMQ (yEH (zQQ (zA 8) (zA 5)) (zYX (zNA (zM zKY (hr.mono (by decide)) rfl (zB (zA 7) (zB (zR (zA 4) (zA 8)) zE))))))) (zF (zFV zFT (zME (zA 5) (zA 8))) (zK (xQ (wI (zA 6) (zB (zA 8) zE))))) xK)))))) (zK (yH (xW zNV (zVL rfl) rfl zIH zZG (zB (zA 5) zE)))))))))
    exact h
abbrev zMK:Stmt:=top 13
theorem zOV:FnScope zSS ["tables","question"] (zH zMK):=fsK (by decide+kernel)
theorem yIJ(D:DefM K mg "sways" zMK)(jX:(CalM P w K mg base) "check_tables_once" 1 1 ["question"] yN)(yB:mg "range"=none)(wS:mg "len"=none)(zPQ:(CalM P w K mg base) "swayed_from" 5 3 ["tables","question","place"] dR)(jB:mg "sorted"=none):(CalM P w K mg base) "sways" 6 2 ["tables","question"] zCY:=
 by have h:=okC (P:=P) (w:=w) (base:=base) D (λ_ _ _ _ _ _ us hl=>match us,hl with |[_,_],_=>rfl) λf fd F=>okM (k:=5) _ F zOV λcdv A outer s H E hr=>(zF (xQ (zM jX (hr.mono (by decide)) rfl (zB (zA 1) zE))) (zF (zL 2 zOV.nd (jL zE)) (zF (xV PassesOwn.never rfl (yS rfl yB (zB (yD xH cN rfl wS gO (zB (zR (zA 1) zC) zE)) zE)) (zV 3 zOV.nd) (zK (xQ (yCR (zA 2) (zB (gX (zH zMK) zSS ["b"] [3] (wV (zM zPQ (hr.mono (by decide)) rfl (zB (zA 0) (zB (zA 1) (zB (zA 3) zE))))) rfl (λ_ _ _ _ hN=>(xR 0 hN)) (λ_ _ _ _=>(zIN (zUT hr.units (zA 0) (zA 1)))) (λ_ _ _ _=>(kF (zB (zA 1) (zB (zA 0) zE))))) zE))))) (zK (yH (yD (zQP hr.u128) yAB rfl jB zEN (zB (zA 2) zE)))))))
    exact h
abbrev zYM:Stmt:=top 14
theorem zML:FnScope yGL ["tables","question"] (zH zYM):=fsK (by decide+kernel)
theorem yMM(D:DefM K mg "ring" zYM)(zJN:(CalM P w K mg base) "sways" 6 2 ["tables","question"] zCY):(CalM P w K mg base) "ring" 7 2 ["tables","question"] zSV:=
 by have h:=okC (P:=P) (w:=w) (base:=base) D (λ_ _ _ _ _ _ us hl=>match us,hl with |[_,_],_=>rfl) λf fd F=>okM (k:=6) _ F zML λcdv A outer s H E hr=>(zF (zL 2 zML.nd (zM zJN (hr.mono (by decide)) rfl (zB (zA 0) (zB (zA 1) zE)))) (zF (xV PassesOwn.never rfl (wV (zA 2)) (zHZ (n:=2) rfl (kK (zV 3 zML.nd) (kK (zV 4 zML.nd) zHY))) (zK (kI (yEW hr.units (kF (zB (zA 4) (zB (zA 3) zE))) (zA 2)) (zK (yH (jL (zB (zA 3) (zB (zA 4) zE))))) xK))) (zK (yH yEE))))
    exact h
abbrev zCK:Stmt:=top 16
theorem zLU:FnScope ["_law_script","_law_k"] ["_law_script","_law_k"] (zH zCK):=fsK (by decide+kernel)
theorem zLV(D:DefM K mg "_law_cell_at" zCK)(wS:mg "len"=none):(CalM P w K mg base) "_law_cell_at" 1 2 ["_law_script","_law_k"] zQ:=
 by have h:=okC (P:=P) (w:=w) (base:=base) D (λ_ _ _ _ _ _ us hl=>match us,hl with |[_,_],_=>rfl) λf fd F=>okM (k:=0) _ F zLU λcdv A outer s H E hr=>(zF (kI (yMU hr.units (zA 1) (yD xH cN rfl wS gO (zB (zA 0) zE))) (zK (yH (zR (zA 0) (zA 1)))) xK) (zK (yH zC)))
    exact h
abbrev zCL:Stmt:=top 17
theorem yQ:FnScope zGG ["_law_rest"] (zH zCL):=fsK (by decide+kernel)
theorem zLW(D:DefM K mg "_law_name_in" zCL)(yB:mg "range"=none):(CalM P w K mg base) "_law_name_in" 1 1 ["_law_rest"] wO:=
 by have h:=okC (P:=P) (w:=w) (base:=base) D (λ_ _ _ _ _ _ us hl=>match us,hl with |[_],_=>rfl) λf fd F=>okM (k:=0) _ F yQ λcdv A outer s H E hr=>(zF (zL 1 yQ.nd (zBE [97,98,99,100,101,102,103,104,105,106,107,108,109,110,111,112,113,114,115,116,117,118,119,120,121,122])) (zF (zL 2 yQ.nd (yL zC (zX (zA 0) zC))) (zF (zL 0 yQ.nd (yT (zA 0) zC)) (zF (zL 3 yQ.nd (zBE [])) (zF (xV PassesOwn.never rfl (yS rfl yB (zB (zA 2) zE)) (zV 4 yQ.nd) (zF (zL 3 yQ.nd (yL (zA 3) (zR (zA 1) (zX (zA 0) zC)))) (zK (zL 0 yQ.nd (yT (zA 0) zC))))) (zK (yH (kF (zB (zA 3) (zB (zA 0) zE))))))))))
    exact h
abbrev wX:Stmt:=top 18
theorem zT:FnScope gZ ["_law_rest","_law_many"] (zH wX):=fsK (by decide+kernel)
theorem zEJ(D:DefM K mg "_law_words_by_digits" wX)(yB:mg "range"=none)(zCN:(CalM P w K mg base) "_law_name_in" 1 1 ["_law_rest"] wO):(CalM P w K mg base) "_law_words_by_digits" 2 2 ["_law_rest","_law_many"] xF:=
 by have h:=okC (P:=P) (w:=w) (base:=base) D (λ_ _ _ _ _ _ us hl=>match us,hl with |[_,_],_=>rfl) λf fd F=>okM (k:=1) _ F zT λcdv A outer s H E hr=>(zF (zL 2 zT.nd (jL zE)) (zF (xV PassesOwn.never rfl (yS rfl yB (zB (zA 1) zE)) (zV 3 zT.nd) (zF (zFV (zM zCN (hr.mono (by decide)) rfl (zB (zA 0) zE)) (zHZ (n:=2) rfl (kK (zV 4 zT.nd) (kK (zV 0 zT.nd) zHY)))) (zF (xV PassesOwn.never rfl (yPA (zBE [97,98,99,100,101,102,103,104,105,106])) (zV 5 zT.nd) (zK (kI (yEW hr.units (zA 4) (zA 2)) (zK (zL 4 zT.nd (yL (cM (zA 4) jE (jF zC)) (zA 5)))) xK))) (zK (xQ (wI (zA 2) (zB (zA 4) zE))))))) (zK (yH (zA 2)))))
    exact h
abbrev zFC:Stmt:=top 19
theorem yE:FnScope zIZ ["_law_cell","_law_many"] (zH zFC):=fsK (by decide+kernel)
theorem zPK(D:DefM K mg "_law_words" zFC)(zFE:(CalM P w K mg base) "_law_words_by_digits" 2 2 ["_law_rest","_law_many"] xF)(yB:mg "range"=none):(CalM P w K mg base) "_law_words" 3 2 ["_law_cell","_law_many"] zAZ:=
 by have h:=okC (P:=P) (w:=w) (base:=base) D (λ_ _ _ _ _ _ us hl=>match us,hl with |[_,_],_=>rfl) λf fd F=>okM (k:=2) _ F yE λcdv A outer s H E hr=>(zF (kI (zCQ hr.units (zX (zA 0) zC) zC) (zK (yH (zM zFE (hr.mono (by decide)) rfl (zB (yT (zA 0) zC) (zB (zA 1) zE))))) xK) (zF (zL 2 yE.nd (zBE [97,98,99,100,101,102,103,104,105,106,107,108,109,110,111,112,113,114,115,116,117,118,119,120,121,122])) (zF (zL 0 yE.nd (zX (zBG (zX (zBG (zA 0) zC) zC) zC) zC)) (zF (zL 3 yE.nd (yL zC (zX (zA 0) zC))) (zF (zL 4 yE.nd (zX (yT (zA 0) zC) (zA 3))) (zF (zL 5 yE.nd (jL zE)) (zF (xV PassesOwn.never rfl (yS rfl yB (zB (zA 1) zE)) (zV 6 yE.nd) (zF (zL 7 yE.nd (zBE [])) (zF (xV PassesOwn.never rfl (yS rfl yB (zB (zA 3) zE)) (zV 8 yE.nd) (zF (zL 9 yE.nd (yL (yT (zA 0) (yL zC (zBG zC (zA 8)))) (zBG (zA 8) (zX (yT (zA 0) zC) zC)))) (zF (kI (zCQ hr.units (zA 8) (zA 4)) (zK (zL 9 yE.nd (yL (zA 9) (zBG zC (zA 6))))) xK) (zK (zL 7 yE.nd (yL (zA 7) (zR (zA 2) (zX (zA 9) zC)))))))) (zK (xQ (wI (zA 5) (zB (zA 7) zE))))))) (zF (kI (zCQ hr.units (zX (yT (zA 0) zC) zC) zC) (zK (zFV (yL (zR (zA 5) zC) (zR (zA 2) (zX (yT (zA 0) zC) zC))) (yPO (zA 5) zC))) xK) (zK (yH (zA 5)))))))))))
    exact h
abbrev zFD:Stmt:=top 20
theorem xG:FnScope zJA ["_law_cell","_law_many"] (zH zFD):=fsK (by decide+kernel)
theorem zPL(D:DefM K mg "_law_drawn" zFD)(yB:mg "range"=none):(CalM P w K mg base) "_law_drawn" 1 2 ["_law_cell","_law_many"] yV:=
 by have h:=okC (P:=P) (w:=w) (base:=base) D (λ_ _ _ _ _ _ us hl=>match us,hl with |[_,_],_=>rfl) λf fd F=>okM (k:=0) _ F xG λcdv A outer s H E hr=>(zF (zL 2 xG.nd (jL zE)) (zF (kI (zCQ hr.units (zX (zA 0) zC) zC) (zF (zL 3 xG.nd (yT (zA 0) zC)) (zF (xV PassesOwn.never rfl (yS rfl yB (zB (zA 1) zE)) (zV 4 xG.nd) (zF (xQ (wI (zA 2) (zB (zX (zA 3) zC) zE))) (zK (zL 3 xG.nd (yT (zA 3) zC))))) (zK (yH (zA 2))))) xK) (zF (zL 5 xG.nd (yL (zX (zA 0) zC) zC)) (zF (xV PassesOwn.never rfl (yS rfl yB (zB (zA 1) zE)) (zV 4 xG.nd) (zF (zL 5 xG.nd (zX (yL (yL (zBG (zA 5) (zA 5)) (zBG zC (zA 5))) (zA 4)) zC)) (zK (xQ (wI (zA 2) (zB (yT (zX (zBG (zA 5) zC) zC) zC) zE)))))) (zK (yH (zA 2)))))))
    exact h
abbrev zDS:Stmt:=top 21
theorem jA:FnScope zHP ["_law_cell"] (zH zDS):=fsK (by decide+kernel)
theorem zOW(D:DefM K mg "_law_tables" zDS)(zFF:(CalM P w K mg base) "_law_drawn" 1 2 ["_law_cell","_law_many"] yV)(zWU:mg "int"=none)(zPA:mg "min"=none)(kQ:mg "tuple"=none):(CalM P w K mg base) "_law_tables" 2 1 ["_law_cell"] dS:=
 by have h:=okC (P:=P) (w:=w) (base:=base) D (λ_ _ _ _ _ _ us hl=>match us,hl with |[_],_=>rfl) λf fd F=>okM (k:=1) _ F jA λcdv A outer s H E hr=>(zF (zL 1 jA.nd (zM zFF (hr.mono (by decide)) rfl (zB (zA 0) (zB zC zE)))) (zF (zL 2 jA.nd (jL zE)) (zF (xV PassesOwn.never rfl (wV (cM (zA 1) jE (jF (yL zC (zX (zR (zA 1) zC) zC))))) (zV 3 jA.nd) (zF (zL 4 jA.nd (yL (yL zC (zX (zA 3) zC)) (xW zUW yPN rfl zWU yPM (zB (yMT hr.units (zX (yT (zA 3) zC) zC) zC) zE)))) (zK (xQ (wI (zA 2) (zB (kF (zB (zA 4) (zB (yD (zPT rfl) yFY rfl zPA yFZ (zB (zA 4) (zB (zR (jL (zB zC (zB zC (zB zC (zB zC (zB zC (zB zC zE))))))) (zX (yT (zA 3) zC) zC)) zE))) zE))) zE)))))) (zK (yH (xW wA zBI rfl kQ zBJ (zB (zA 2) zE)))))))
    exact h
abbrev dY:Stmt:=top 22
theorem zU:FnScope zDJ ["_law_cell","_law_words_here"] (zH dY):=fsK (by decide+kernel)
theorem zOX(D:DefM K mg "_law_values" dY)(yB:mg "range"=none)(zCN:(CalM P w K mg base) "_law_name_in" 1 1 ["_law_rest"] wO)(wS:mg "len"=none)(zPA:mg "min"=none):(CalM P w K mg base) "_law_values" 2 2 ["_law_cell","_law_words_here"] dU:=
 by have h:=okC (P:=P) (w:=w) (base:=base) D (λ_ _ _ _ _ _ us hl=>match us,hl with |[_,_],_=>rfl) λf fd F=>okM (k:=1) _ F zU λcdv A outer s H E hr=>(zF (kI (zCQ hr.units (zX (zA 0) zC) zC) (zF (zL 2 zU.nd (yT (zA 0) zC)) (zF (zL 3 zU.nd (yL zC (zX (zA 2) zC))) (zF (zL 2 zU.nd (yT (zA 2) zC)) (zF (zL 4 zU.nd (jL zE)) (zF (xV PassesOwn.never rfl (yS rfl yB (zB (zA 3) zE)) (zV 5 zU.nd) (zF (zFV (zM zCN (hr.mono (by decide)) rfl (zB (yT (zA 2) zC) zE)) (zHZ (n:=2) rfl (kK (zV 6 zU.nd) (kK (zV 2 zU.nd) zHY)))) (zF (kI (zCQ hr.units (zX (zA 2) zC) zC) (zF (zL 6 zU.nd (yL (zJT (zX (yT (zA 2) zC) (zJT (zBG zC (zNC zC zC)) zC)) (zNC zC zC)) zC)) (zK (zL 2 zU.nd (yT (zA 2) (zJT (zBG zC (zNC zC zC)) zC))))) xK) (zK (kI (zNE hr.units (zA 6) (zA 4)) (zK (xQ (wI (zA 4) (zB (zA 6) zE)))) xK))))) (zK (yH (yL (zA 4) (cM (gX (zH dY) zDJ ["_law_word"] [4] (wV (zA 1)) rfl (λ_ _ _ _ hN=>(xR 0 hN)) (λ_ _ _ _=>(zIN (zNE hr.units (zA 0) (zA 1)))) (λ_ _ _ _=>(zA 0))) jE (jF (zJT zC (yD (zPT rfl) yFY rfl zPA yFZ (zB zC (zB (yD xH cN rfl wS gO (zB (zA 4) zE)) zE)))))))))))))) xK) (zF (zL 7 zU.nd (yL (zJT (zX (zA 0) (zJT (zBG zC (zNC zC zC)) zC)) (zNC zC zC)) zC)) (zF (zL 8 zU.nd (jL (zB (zA 7) (zB (yL (zA 7) zC) (zB (zR (zA 1) zC) (zB (zR (zA 1) zC) zE)))))) (zF (zL 9 zU.nd (zX (yT (zA 0) zC) zC)) (zK (yH (cM (yL (cM (zA 8) (jF (zA 9)) jE) (cM (zA 8) jE (jF (zA 9)))) jE (jF (yL zC (zX (zA 0) zC))))))))))
    exact h
abbrev zGV:Stmt:=top 23
theorem zTU:FnScope nE nE (zH zGV):=fsK (by decide+kernel)
theorem zTV(D:DefM K mg "_law_term" zGV)(wS:mg "len"=none):(CalM P w K mg base) "_law_term" 1 3 nE zCZ:=
 by have h:=okC (P:=P) (w:=w) (base:=base) D (λ_ _ _ _ _ _ us hl=>match us,hl with |[_,_,_],_=>rfl) λf fd F=>okM (k:=0) _ F zTU λcdv A outer s H E hr=>(zF (kI (zCQ hr.units (zX (zA 0) zC) zC) (zK (yH (kF (zB (zBE [105,115]) (zB (zR (zA 2) (zX (yT (zA 0) zC) (yD xH cN rfl wS gO (zB (zA 2) zE)))) zE))))) xK) (zK (yH (kF (zB (zBE [118,97,114]) (zB (zR (zA 1) (zX (yT (zA 0) zC) (yD xH cN rfl wS gO (zB (zA 1) zE)))) zE))))))
    exact h
abbrev zAM:Stmt:=top 24
theorem wP:FnScope zFL ["_law_atoms"] (zH zAM):=fsK (by decide+kernel)
theorem zKW(D:DefM K mg "_law_standing" zAM)(jB:mg "sorted"=none):(CalM P w K mg base) "_law_standing" 1 1 ["_law_atoms"] gK:=
 by have h:=okC (P:=P) (w:=w) (base:=base) D (λ_ _ _ _ _ _ us hl=>match us,hl with |[_],_=>rfl) λf fd F=>okM (k:=0) _ F wP λcdv A outer s H E hr=>(zF (zL 1 wP.nd zNK) (zF (xV PassesOwn.never rfl (wV (zA 0)) (zHZ (n:=2) rfl (kK (zV 2 wP.nd) (kK (zV 3 wP.nd) zHY))) (zK (xV PassesOwn.never rfl (zJS (zA 3)) (zV 4 wP.nd) (zK (kI (zCQ hr.units (zR (zA 4) zC) (zBE [118,97,114])) (zK (zFV zFT (zME (zA 1) (zR (zA 4) zC)))) xK))))) (zK (yH (yD zNZ (zVU rfl) rfl jB zEN (zB (zA 1) zE))))))
    exact h
abbrev xY:Stmt:=top 25
theorem yF:FnScope wZ ["_law_cells","_law_tables_here","_law_names","_law_values_here"] (zH xY):=fsK (by decide+kernel)
theorem zKX(D:DefM K mg "_law_question" xY)(wS:mg "len"=none)(yB:mg "range"=none)(zFF:(CalM P w K mg base) "_law_drawn" 1 2 ["_law_cell","_law_many"] yV)(zWT:(CalM P w K mg base) "_law_term" 1 3 nE zCZ)(kQ:mg "tuple"=none)(zLX:(CalM P w K mg base) "_law_standing" 1 1 ["_law_atoms"] gK):(CalM P w K mg base) "_law_question" 2 4 ["_law_cells","_law_tables_here","_law_names","_law_values_here"] kB:=
 by have h:=okC (P:=P) (w:=w) (base:=base) D (λ_ _ _ _ _ _ us hl=>match us,hl with |[_,_,_,_],_=>rfl) λf fd F=>okM (k:=1) _ F yF λcdv A outer s H E hr=>(zF (zL 4 yF.nd (yL zC (zX (zR (zA 0) zC) (yD xH cN rfl wS gO (zB (zA 1) zE))))) (zF (zHA 5 yF.nd (zH xY) wZ ["_law_k"] [0,1] (yS rfl yB (zB (yD xH cN rfl wS gO (zB (zA 1) zE)) zE)) rfl (λ_ _ _ _ hN=>(xR 0 hN)) (λ_ _ _ _=>gG) (λ_ _ _ _=>(zX (yL (yT (zR (zA 1) zC) zC) (zA 0)) (yD xH cN rfl wS gO (zB (zA 2) zE))))) (zF (kI (zCQ hr.units (zX (yT (zR (zA 0) zC) zC) zC) zC) (zK (xQ (zIB (zA 5)))) xK) (zF (zL 6 yF.nd (jL zE)) (zF (xV PassesOwn.never rfl (yS rfl yB (zB (zA 4) zE)) (zV 7 yF.nd) (zF (zL 8 yF.nd (zM zFF (hr.mono (by decide)) rfl (zB (zR (zA 0) (yL zC (zA 7))) (zB zC zE)))) (zF (zL 9 yF.nd (zR (zR (zA 1) (zR (zA 5) (zA 7))) zC)) (zK (xQ (wI (zA 6) (zB (kF (zB (zR (zA 5) (zA 7)) (zB (xW wA zBI rfl kQ zBJ (zB (gX (zH xY) wZ ["_law_number"] [2,3] (wV (cM (zA 8) jE (jF (zA 9)))) rfl (λ_ _ _ _ hN=>(xR 0 hN)) (λ_ _ _ _=>gG) (λ_ _ _ _=>(zM zWT (hr.mono (by decide)) rfl (zB (zA 0) (zB (zA 1) (zB (zA 2) zE)))))) zE)) zE))) zE))))))) (zF (zL 10 yF.nd (zM zLX (hr.mono (by decide)) rfl (zB (zA 6) zE))) (zF (zHA 11 yF.nd (zH xY) wZ ["_law_k"] [0,10] (yS rfl yB (zB (yD xH cN rfl wS gO (zB (zA 10) zE)) zE)) rfl (λ_ _ _ _ hN=>(xR 0 hN)) (λ_ _ _ _=>(zIN (zCQ hr.units (zX (yT (zR (zA 1) zC) (zR (jL (zB zC (zB zC (zB zC (zB zC zE))))) (zA 0))) zC) zC))) (λ_ _ _ _=>(zR (zA 2) (zA 0)))) (zF (kI (zCQ hr.units (zX (yT (zR (zA 0) zC) zC) zC) zC) (zK (xQ (zIB (zA 11)))) xK) (zK (yH (kF (zB (xW wA zBI rfl kQ zBJ (zB (cM (zA 11) jE (jF zC)) zE)) (zB (xW wA zBI rfl kQ zBJ (zB (zA 6) zE)) zE)))))))))))))
    exact h
abbrev zDT:Stmt:=top 26
theorem wQ:FnScope zHQ ["_law_question_here","_law_value"] (zH zDT):=fsK (by decide+kernel)
theorem zOY(D:DefM K mg "_law_valued" zDT)(kQ:mg "tuple"=none):(CalM P w K mg base) "_law_valued" 1 2 ["_law_question_here","_law_value"] dW:=
 by have h:=okC (P:=P) (w:=w) (base:=base) D (λ_ _ _ _ _ _ us hl=>match us,hl with |[_,_],_=>rfl) λf fd F=>okM (k:=0) _ F wQ λcdv A outer s H E hr=>(zF (zL 2 wQ.nd (jL zE)) (zF (xV PassesOwn.never rfl (zJS (zR (zA 0) zC)) (zHZ (n:=2) rfl (kK (zV 3 wQ.nd) (kK (zV 4 wQ.nd) zHY))) (zF (zL 5 wQ.nd (jL zE)) (zF (xV PassesOwn.never rfl (zJS (zA 4)) (zV 6 wQ.nd) (zK (kI (yMQ (yEH (zCQ hr.units (zR (zA 6) zC) (zBE [118,97,114])) (zYX (yEW hr.units (zR (zA 6) zC) (zR (zA 0) zC))))) (zK (xQ (wI (zA 5) (zB (kF (zB (zBE [105,115]) (zB (zA 1) zE))) zE)))) (zK (xQ (wI (zA 5) (zB (zA 6) zE))))))) (zK (xQ (wI (zA 2) (zB (kF (zB (zA 3) (zB (xW wA zBI rfl kQ zBJ (zB (zA 5) zE)) zE))) zE))))))) (zK (yH (kF (zB (kF zE) (zB (xW wA zBI rfl kQ zBJ (zB (zA 2) zE)) zE)))))))
    exact h
abbrev gE:Stmt:=top 27
theorem zCM:FnScope dP ["_law_question_here","_law_cell"] (zH gE):=fsK (by decide+kernel)
theorem zOZ(D:DefM K mg "_law_turned" gE)(wS:mg "len"=none)(yB:mg "range"=none)(kQ:mg "tuple"=none):(CalM P w K mg base) "_law_turned" 1 2 ["_law_question_here","_law_cell"] kD:=
 by have h:=okC (P:=P) (w:=w) (base:=base) D (λ_ _ _ _ _ _ us hl=>match us,hl with |[_,_],_=>rfl) λf fd F=>okM (k:=0) _ F zCM λcdv A outer s H E hr=>(zF (zL 2 zCM.nd (yD xH cN rfl wS gO (zB (zR (zA 0) zC) zE))) (zF (zHA 3 zCM.nd (zH gE) dP ["_law_k"] [1,2] (yS rfl yB (zB (zA 2) zE)) rfl (λ_ _ _ _ hN=>(xR 0 hN)) (λ_ _ _ _=>gG) (λ_ _ _ _=>(zX (yL (zA 1) (zA 0)) (zA 2)))) (zF (kI (zCQ hr.units (zX (yT (zA 1) zC) zC) zC) (zK (xQ (zIB (zA 3)))) xK) (zK (yH (kF (zB (zA 3) (zB (kF (zB (zR (zA 0) zC) (zB (xW wA zBI rfl kQ zBJ (zB (gX (zH gE) dP ["_law_k"] [0] (wV (zA 3)) rfl (λ_ _ _ _ hN=>(xR 0 hN)) (λ_ _ _ _=>gG) (λ_ _ _ _=>(zR (zR (zA 1) zC) (zA 0)))) zE)) zE))) zE))))))))
    exact h
abbrev zRI:Stmt:=top 28
theorem zAN:FnScope zVV ["_law_script"] (zH zRI):=fsK (by decide+kernel)
theorem yRJ{f:Addr}{fd:FuncData}(F:Fun K "law" "law" zRI f fd)(zTW:(CalM P w K mg base) "_law_words" 3 2 ["_law_cell","_law_many"] zAZ)(wR:(CalM P w K mg base) "_law_cell_at" 1 2 ["_law_script","_law_k"] zQ)(zPN:(CalM P w K mg base) "_law_tables" 2 1 ["_law_cell"] dS)(zPP:(CalM P w K mg base) "_law_values" 2 2 ["_law_cell","_law_words_here"] dU)(yB:mg "range"=none)(zLY:(CalM P w K mg base) "_law_question" 2 4 ["_law_cells","_law_tables_here","_law_names","_law_values_here"] kB)(zPO:(CalM P w K mg base) "_law_valued" 1 2 ["_law_question_here","_law_value"] dW)(wS:mg "len"=none)(zPM:(CalM P w K mg base) "_law_turned" 1 2 ["_law_question_here","_law_cell"] kD)(zJN:(CalM P w K mg base) "sways" 6 2 ["tables","question"] zCY)(jB:mg "sorted"=none)(zMM:(CalM P w K mg base) "known" 5 3 zCT zEX)(yRK:(CalM P w K mg base) "ring" 7 2 ["tables","question"] zSV):FnOk P w K mg base CX0 8 f fd ["_law_script"] (spM ⟨K,mg,P,w⟩ 1 zVW):=
 by have h:=okM (P:=P) (w:=w) (mg:=mg) (base:=base) (k:=7) _ F zAN λcdv A outer s H E hr=>(zF (zL 1 zAN.nd (zM zTW (hr.mono (by decide)) rfl (zB (zM wR (hr.mono (by decide)) rfl (zB (zA 0) (zB zC zE))) (zB zC zE)))) (zF (zL 2 zAN.nd (zM zPN (hr.mono (by decide)) rfl (zB (zM wR (hr.mono (by decide)) rfl (zB (zA 0) (zB zC zE))) zE))) (zF (zL 3 zAN.nd (zM zPP (hr.mono (by decide)) rfl (zB (zM wR (hr.mono (by decide)) rfl (zB (zA 0) (zB zC zE))) (zB (cM (zA 1) (jF zC) jE) zE)))) (zF (zHA 4 zAN.nd (zH zRI) zVV ["_law_k"] [0] (yS rfl yB (zB zC zE)) rfl (λ_ _ _ _ hN=>(xR 0 hN)) (λ_ _ _ _=>gG) (λ_ _ _ _=>(zM wR (hr.mono (by decide)) rfl (zB (zA 1) (zB (yL zC (zA 0)) zE))))) (zF (zL 5 zAN.nd (zM zLY (hr.mono (by decide)) rfl (zB (zA 4) (zB (zA 2) (zB (cM (zA 1) jE (jF zC)) (zB (zA 3) zE)))))) (zF (zL 6 zAN.nd (zM zPO (hr.mono (by decide)) rfl (zB (zA 5) (zB (zR (zA 3) (zX (zM wR (hr.mono (by decide)) rfl (zB (zA 0) (zB zC zE))) (yD xH cN rfl wS gO (zB (zA 3) zE)))) zE)))) (zF (zFV (zM zPM (hr.mono (by decide)) rfl (zB (zA 5) (zB (yT (zM wR (hr.mono (by decide)) rfl (zB (zA 0) (zB zC zE))) zC) zE))) (zHZ (n:=2) rfl (kK (zV 7 zAN.nd) (kK (zV 8 zAN.nd) zHY)))) (zF (zL 9 zAN.nd (zM zJN (hr.mono (by decide)) rfl (zB (zA 2) (zB (zA 5) zE)))) (zF (kI (zUT hr.units (zM zJN (hr.mono (by decide)) rfl (zB (zA 2) (zB (zA 6) zE))) (zA 9)) (zK (yH zFT)) xK) (zF (kI (zUT hr.units (yD (zQP hr.u128) yAB rfl jB zEN (zB (gX (zH zRI) zVV ["_law_one","_law_two"] [7] (wV (zM zJN (hr.mono (by decide)) rfl (zB (zA 2) (zB (zA 8) zE)))) rfl (λ_ _ _ _ hN=>(yPC (n:=2) rfl (zZA (xR 0 hN) (zZA (xR 1 hN) yPB)))) (λ_ _ _ _=>gG) (λ_ _ _ _=>(kF (zB (zR (zA 2) (zA 0)) (zB (zR (zA 2) (zA 1)) zE))))) zE)) (zA 9)) (zK (yH zFT)) xK) (zF (xV PassesOwn.never rfl (yS rfl yB (zB (yD xH cN rfl wS gO (zB (zA 7) zE)) zE)) (zV 10 zAN.nd) (zF (kI (zUT hr.units (zM zMM (hr.mono (by decide)) rfl (zB (zA 2) (zB (zA 6) (zB (zR (zA 7) (zA 10)) zE)))) (zM zMM (hr.mono (by decide)) rfl (zB (zA 2) (zB (zA 5) (zB (zR (zA 7) (zA 10)) zE))))) (zK (yH zFT)) xK) (zK (kI (zUT hr.units (zM zMM (hr.mono (by decide)) rfl (zB (zA 2) (zB (zA 8) (zB (zA 10) zE)))) (zM zMM (hr.mono (by decide)) rfl (zB (zA 2) (zB (zA 5) (zB (zR (zA 7) (zA 10)) zE))))) (zK (yH zFT)) xK)))) (zF (zHA 11 zAN.nd (zH zRI) zVV ["_law_one"] [2] (wV (jL (zB (zA 5) (zB (zA 6) (zB (zA 8) zE))))) rfl (λ_ _ _ _ hN=>(xR 0 hN)) (λ_ _ _ _=>gG) (λ_ _ _ _=>(pm_is (zM yRK (hr.mono (by decide)) rfl (zB (zA 1) (zB (zA 0) zE))) yEE))) (zK (yH (yMT hr.units (yGK hr.units (zA 11) (zB (zR (zA 11) zC) zE)) zC)))))))))))))))
    exact h
end
theorem all_mk{l:PySem.W.OpenLaw}{w:World}{K:PySem.W.Frag}{h:Heap}{mg:Str->Option Value}{fa:Addr}(X:K.In h)(GG:h.Ns mainGlobals mg)(hfa:mg "law"=some (.ref fa))
  (D0:DefM K mg "names_in" zIG)
  (D1:DefM K mg "check_tables_once" jW)
  (D2:DefM K mg "free_names" zBA)
  (D3:DefM K mg "key_names" zGU)
  (D4:DefM K mg "known_at" dM)
  (D5:DefM K mg "known" zTT)
  (D6:DefM K mg "have_in_common" jI)
  (D7:DefM K mg "swayed_from" gD)
  (D8:DefM K mg "sways" zMK)
  (D9:DefM K mg "ring" zYM)
  (D10:DefM K mg "_law_cell_at" zCK)
  (D11:DefM K mg "_law_name_in" zCL)
  (D12:DefM K mg "_law_words_by_digits" wX)
  (D13:DefM K mg "_law_words" zFC)
  (D14:DefM K mg "_law_drawn" zFD)
  (D15:DefM K mg "_law_tables" zDS)
  (D16:DefM K mg "_law_values" dY)
  (D17:DefM K mg "_law_term" zGV)
  (D18:DefM K mg "_law_standing" zAM)
  (D19:DefM K mg "_law_question" xY)
  (D20:DefM K mg "_law_valued" zDT)
  (D21:DefM K mg "_law_turned" gE)
  (D22:DefM K mg "law" zRI)
  (zWV:PySem.W.nsIn K mainGlobals "all"=some none)
  (zWW:PySem.W.nsIn K mainGlobals "any"=some none)
  (zKZ:PySem.W.nsIn K mainGlobals "dict"=some none)
  (nK:PySem.W.nsIn K mainGlobals "enumerate"=some none)
  (zWU:PySem.W.nsIn K mainGlobals "int"=some none)
  (wS:PySem.W.nsIn K mainGlobals "len"=some none)
  (zIH:PySem.W.nsIn K mainGlobals "list"=some none)
  (zPA:PySem.W.nsIn K mainGlobals "min"=some none)
  (yB:PySem.W.nsIn K mainGlobals "range"=some none)
  (jB:PySem.W.nsIn K mainGlobals "sorted"=some none)
  (kQ:PySem.W.nsIn K mainGlobals "tuple"=some none)
  : ∃fd:FuncData,(∀(s:Shared)(v:Value),BindsTo s fd ⟨[v],[]⟩ [("_law_script",v)])/\ ∀base:Heap,K.In base->base.Ns mainGlobals mg->FnOk l.prog w K mg base CX0 8 fa fd ["_law_script"] (zQG K zVW):=by
 have Z_all:=PySem.W.mg_none_of X GG zWV
 have Z_any:=PySem.W.mg_none_of X GG zWW
 have Z_dict:=PySem.W.mg_none_of X GG zKZ
 have Z_enumerate:=PySem.W.mg_none_of X GG nK
 have Z_int:=PySem.W.mg_none_of X GG zWU
 have Z_len:=PySem.W.mg_none_of X GG wS
 have Z_list:=PySem.W.mg_none_of X GG zIH
 have Z_min:=PySem.W.mg_none_of X GG zPA
 have Z_range:=PySem.W.mg_none_of X GG yB
 have Z_sorted:=PySem.W.mg_none_of X GG jB
 have Z_tuple:=PySem.W.mg_none_of X GG kQ
 refine yQS D22 hfa (λ_ _ _ _ _ _ s v=>.of_eq rfl) λbase f fd F=>?_
 have G0:=zWR (P:=l.prog) (w:=w) (base:=base) D0 Z_list
 have G1:=zGT (P:=l.prog) (w:=w) (base:=base) D1 Z_enumerate
 have G2:=zPJ (P:=l.prog) (w:=w) (base:=base) D2 G0
 have G3:=zTS (P:=l.prog) (w:=w) (base:=base) D3 G2
 have G4:=zWS (P:=l.prog) (w:=w) (base:=base) D4 G3 Z_dict Z_len Z_all G2
 have G5:=yII (P:=l.prog) (w:=w) (base:=base) D5 G1 G4 Z_sorted
 have G6:=zJM (P:=l.prog) (w:=w) (base:=base) D6 Z_any
 have G7:=zOU (P:=l.prog) (w:=w) (base:=base) D7 G4 G2 Z_range Z_len G6 Z_list
 have G8:=yIJ (P:=l.prog) (w:=w) (base:=base) D8 G1 Z_range Z_len G7 Z_sorted
 have G9:=yMM (P:=l.prog) (w:=w) (base:=base) D9 G8
 have G10:=zLV (P:=l.prog) (w:=w) (base:=base) D10 Z_len
 have G11:=zLW (P:=l.prog) (w:=w) (base:=base) D11 Z_range
 have G12:=zEJ (P:=l.prog) (w:=w) (base:=base) D12 Z_range G11
 have G13:=zPK (P:=l.prog) (w:=w) (base:=base) D13 G12 Z_range
 have G14:=zPL (P:=l.prog) (w:=w) (base:=base) D14 Z_range
 have G15:=zOW (P:=l.prog) (w:=w) (base:=base) D15 G14 Z_int Z_min Z_tuple
 have G16:=zOX (P:=l.prog) (w:=w) (base:=base) D16 Z_range G11 Z_len Z_min
 have G17:=zTV (P:=l.prog) (w:=w) (base:=base) D17 Z_len
 have G18:=zKW (P:=l.prog) (w:=w) (base:=base) D18 Z_sorted
 have G19:=zKX (P:=l.prog) (w:=w) (base:=base) D19 Z_len Z_range G14 G17 Z_tuple G18
 have G20:=zOY (P:=l.prog) (w:=w) (base:=base) D20 Z_tuple
 have G21:=zOZ (P:=l.prog) (w:=w) (base:=base) D21 Z_len Z_range Z_tuple
 exact yRJ (P:=l.prog) (w:=w) (base:=base) F G13 G10 G15 G16 Z_range G19 G20 Z_len G21 G8 Z_sorted G5 G9
theorem walk{l:PySem.W.OpenLaw}{q:Program}{loose:List Str}{XP:(Str->Option Value)->Heap->Prop}{YP:World->Heap->Prop}{d:DefRec}{K:Params->PySem.W.Frag}(hn:l.most=some 63)(hdf:d.params.defaults=[])
  (hY: ∀(w:World)(h:Heap),YP w h->(K w.params).In h)
  (F: ∀(w:World)(mg:Str->Option Value)(fa:Addr)(h:Heap),(K w.params).In h->h.Ns mainGlobals mg->mg d.name=some (.ref fa)->
   ∃fd:FuncData,(∀(s:Shared)(u:Value),BindsTo s fd ⟨[u],[]⟩ [("_law_script",u)])/\ ∀base:Heap,(K w.params).In base->base.Ns mainGlobals mg->FnOk l.prog w (K w.params) mg base CX0 8 fa fd ["_law_script"] (zQG (K w.params) zVW)):
  PySem.W.WalkO q loose XP YP l.row.toRowW d [] (λf vs=>PySem.call f vs):=
 L2.walk_of (n:=63) (k:=8) (x:="_law_script") (CX:=λ_=>CX0) (sp:=λw=>zQG (K w.params) zVW) hn (by decide) hdf ⟨rfl,by decide,by decide⟩ hY F
  (λw H a ns hl hO hS=>yFA hO hS (yIG ns hl)) λ_ _ _ _ _ z=>z
end My
end M
end L2
noncomputable def zTw : PySem.Params → PySem.Heap := fun P => { PySem.W.boot_heap P with objs := #[] }
noncomputable def PySem.W.Fast.tw6425203906340258836 := zTw
theorem PySem.W.Fast.te6425203906340258836 : PySem.W.Fast.tw6425203906340258836 = zTw := rfl
noncomputable def PySem.W.Fast.tw4599891490519960650 := zTw
theorem PySem.W.Fast.te4599891490519960650 : PySem.W.Fast.tw4599891490519960650 = zTw := rfl
noncomputable def PySem.W.Fast.tw15601207765910717556 := zTw
theorem PySem.W.Fast.te15601207765910717556 : PySem.W.Fast.tw15601207765910717556 = zTw := rfl
noncomputable def PySem.W.Fast.tw14181790457448345753 := zTw
theorem PySem.W.Fast.te14181790457448345753 : PySem.W.Fast.tw14181790457448345753 = zTw := rfl
noncomputable def PySem.W.Fast.tw4186226884034435046 := zTw
theorem PySem.W.Fast.te4186226884034435046 : PySem.W.Fast.tw4186226884034435046 = zTw := rfl
noncomputable def PySem.W.Fast.tw12348163692991039527 := zTw
theorem PySem.W.Fast.te12348163692991039527 : PySem.W.Fast.tw12348163692991039527 = zTw := rfl
noncomputable def PySem.W.Fast.tw5607572755565803353 := zTw
theorem PySem.W.Fast.te5607572755565803353 : PySem.W.Fast.tw5607572755565803353 = zTw := rfl
noncomputable def PySem.W.Fast.tw16461008132830106042 := zTw
theorem PySem.W.Fast.te16461008132830106042 : PySem.W.Fast.tw16461008132830106042 = zTw := rfl
noncomputable def PySem.W.Fast.tw7542009940727766928 := zTw
theorem PySem.W.Fast.te7542009940727766928 : PySem.W.Fast.tw7542009940727766928 = zTw := rfl
noncomputable def PySem.W.Fast.tw10009601985803920523 := zTw
theorem PySem.W.Fast.te10009601985803920523 : PySem.W.Fast.tw10009601985803920523 = zTw := rfl
noncomputable def PySem.W.Fast.tw3753173767998357608 := zTw
theorem PySem.W.Fast.te3753173767998357608 : PySem.W.Fast.tw3753173767998357608 = zTw := rfl
open PySem PySem.W PyProof.Rows
set_option maxRecDepth 100000 in
set_option maxHeartbeats 0 in
theorem PySem.Challenge.cw_mendsure_k63_heads_are_values_holds : PySem.Challenge.rw_mendsure_k63_heads_are_values.Holds := by
  w_on; o_law; k_head; (case hw => w_witness2)
  k_fill
  refine L2.M.My.walk (l := PySem.Challenge.rw_mendsure_k63_heads_are_values) rfl rfl (fun w h Y => PySem.W.kIn_of Y) ?F
  case F =>
    intro w mg fa h KX G hmg
    refine' L2.M.My.all_mk KX G hmg ?D0 ?D1 ?D2 ?D3 ?D4 ?D5 ?D6 ?D7 ?D8 ?D9 ?D10 ?D11 ?D12 ?D13 ?D14 ?D15 ?D16 ?D17 ?D18 ?D19 ?D20 ?D21 ?D22 ?zWV ?zWW ?zKZ ?nK ?zWU ?wS ?zIH ?zPA ?yB ?jB ?kQ
    (case D0 => exact L2.M.def_mk (by k_is) (by k_is) (by k_is) (by k_is) KX G)
    (case D1 => exact L2.M.def_mk (by k_is) (by k_is) (by k_is) (by k_is) KX G)
    (case D2 => exact L2.M.def_mk (by k_is) (by k_is) (by k_is) (by k_is) KX G)
    (case D3 => exact L2.M.def_mk (by k_is) (by k_is) (by k_is) (by k_is) KX G)
    (case D4 => exact L2.M.def_mk (by k_is) (by k_is) (by k_is) (by k_is) KX G)
    (case D5 => exact L2.M.def_mk (by k_is) (by k_is) (by k_is) (by k_is) KX G)
    (case D6 => exact L2.M.def_mk (by k_is) (by k_is) (by k_is) (by k_is) KX G)
    (case D7 => exact L2.M.def_mk (by k_is) (by k_is) (by k_is) (by k_is) KX G)
    (case D8 => exact L2.M.def_mk (by k_is) (by k_is) (by k_is) (by k_is) KX G)
    (case D9 => exact L2.M.def_mk (by k_is) (by k_is) (by k_is) (by k_is) KX G)
    (case D10 => exact L2.M.def_mk (by k_is) (by k_is) (by k_is) (by k_is) KX G)
    (case D11 => exact L2.M.def_mk (by k_is) (by k_is) (by k_is) (by k_is) KX G)
    (case D12 => exact L2.M.def_mk (by k_is) (by k_is) (by k_is) (by k_is) KX G)
    (case D13 => exact L2.M.def_mk (by k_is) (by k_is) (by k_is) (by k_is) KX G)
    (case D14 => exact L2.M.def_mk (by k_is) (by k_is) (by k_is) (by k_is) KX G)
    (case D15 => exact L2.M.def_mk (by k_is) (by k_is) (by k_is) (by k_is) KX G)
    (case D16 => exact L2.M.def_mk (by k_is) (by k_is) (by k_is) (by k_is) KX G)
    (case D17 => exact L2.M.def_mk (by k_is) (by k_is) (by k_is) (by k_is) KX G)
    (case D18 => exact L2.M.def_mk (by k_is) (by k_is) (by k_is) (by k_is) KX G)
    (case D19 => exact L2.M.def_mk (by k_is) (by k_is) (by k_is) (by k_is) KX G)
    (case D20 => exact L2.M.def_mk (by k_is) (by k_is) (by k_is) (by k_is) KX G)
    (case D21 => exact L2.M.def_mk (by k_is) (by k_is) (by k_is) (by k_is) KX G)
    (case D22 => exact L2.M.def_mk (by k_is) (by k_is) (by k_is) (by k_is) KX G)
    (case zWV => k_is)
    (case zWW => k_is)
    (case zKZ => k_is)
    (case nK => k_is)
    (case zWU => k_is)
    (case wS => k_is)
    (case zIH => k_is)
    (case zPA => k_is)
    (case yB => k_is)
    (case jB => k_is)
    (case kQ => k_is)
