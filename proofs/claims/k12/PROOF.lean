import PyProof.Rows.All
import Wide.All
import OpenK.AllK
import Wide.FinOn
import Lean
import PyProof.EqAt
import PyProof.EqKinds
import PyProof.TupleCall
import PySem.Challenge.RW_mendsure_k12_held_rows
set_option Elab.async false
set_option linter.all false
set_option maxRecDepth 100000
open List (all_cons all_eq_true any_cons any_eq_false any_eq_true drop_length ext_getElem? filter_cons filter_cons_of_neg filter_cons_of_pos filter_eq_self filter_filter filter_sublist find?_cons flatten_cons foldl_cons getD_eq_getElem?_getD getElem?_append_left getElem?_append_right getElem?_eq_none getElem?_map getElem?_set_ne getElem?_set_self getElem?_take_of_lt getElem_inj getElem_mem getElem_of_mem length_drop length_filter_le length_nil length_range length_replicate length_set lookup_cons map_append map_cons map_map mem_append mem_append_left mem_append_right mem_filter mem_flatMap mem_of_getElem? mem_range nil_append nodup_append nodup_cons of_mem_zip replicate_succ set_append_left take_of_length_le zip_cons_cons)
open Bool (not_eq_true not_eq_true' or_eq_true)
open Nat (add_assoc le_of_eq le_of_lt le_refl le_succ le_trans lt_irrefl lt_of_lt_of_le lt_succ_self lt_trans min_eq_left mul_comm mul_le_mul ne_of_gt ne_of_lt not_lt sub_self zero_add zero_le)
open Int (toNat_natCast)
theorem xF0:¬(false=true):=Bool.false_ne_true

abbrev dF0:=@decide_eq_false
abbrev dT0:=@decide_eq_true
abbrev iP:=@if_pos
abbrev iN:=@if_neg
abbrev mC:=@List.mem_cons
abbrev lC:=@List.length_cons
abbrev mO:=@List.mem_cons_of_mem
abbrev lM:=@List.length_map
abbrev nM0:=@List.not_mem_nil
abbrev mS:=@List.mem_singleton
abbrev mF0:=@List.mem_cons_self
abbrev fT0:=@Bool.false_eq_true
abbrev sA:=@List.size_toArray
abbrev lS:=@List.length_singleton
abbrev eL:=@Int.emod_lt_of_pos
abbrev eN:=@Int.emod_nonneg
abbrev aE:=@Bool.and_eq_true
abbrev iF:=@if_false
abbrev aN:=@List.append_nil
abbrev lA:=@List.length_append
abbrev gS0:=@List.getElem?_eq_some_iff
abbrev gE0:=@List.getElem?_eq_getElem
abbrev wB0:=@PySem.wpAny_bind
abbrev wP0:=@PySem.wpAny_pure
abbrev hP0:=@PySem.Heap.get?_push_of_some
abbrev mM:=@List.mem_map
abbrev lT:=@List.length_take
abbrev aA:=@List.append_assoc
namespace L2
open PySem PySem.Spec PyProof.Rows
abbrev Key:=Sum Int Str
def zPJ:Key->Value->Bool
 |.inl k,v=>Value.isInt k v
 |.inr x,v=>Value.isStrOf x v
def keyH(w:World):Key->Int
 |.inl k=>hashInt k
 |.inr x=>hashStr w x
theorem xB: ∀{k:Key}{v:Value},zPJ k v=true->(∃i t,k=Sum.inl i/\v=Value.int i t)\/(∃x t,k=Sum.inr x/\v=Value.str x t)
 |.inl i,v,h=>by
  obtain⟨t,e⟩:=Value.isInt_shape (k:=i) (v:=v) h
  exact .inl ⟨i,t,rfl,e⟩
 |.inr x,v,h=>by
  obtain⟨t,e⟩:=Value.isStrOf_shape (x:=x) (v:=v) h
  exact .inr ⟨x,t,rfl,e⟩
theorem yEG(i:Int)(t:Tok):zPJ (.inl i) (.int i t)=true:=by simp [zPJ,Value.isInt]
theorem yEH(x:Str)(t:Tok):zPJ (.inr x) (.str x t)=true:=by simp [zPJ,Value.isStrOf]
theorem yPG(a b:Int):decide ((Sum.inl a:Key)=Sum.inl b)=(a==b):=by
 by_cases e:a=b
 ·subst e;simp
 ·have h: ¬(Sum.inl a:Key)=Sum.inl b:=λq=>e (Sum.inl.inj q)
  rw [dF0 h]
  exact(beq_eq_false_iff_ne.mpr e).symm
theorem yPH(a b:Str):decide ((Sum.inr a:Key)=Sum.inr b)=decide (a=b):=by
 by_cases e:a=b
 ·subst e;simp
 ·have h: ¬(Sum.inr a:Key)=Sum.inr b:=λq=>e (Sum.inr.inj q)
  rw [dF0 h,dF0 e]
theorem yPI(a:Int)(b:Str):decide ((Sum.inl a:Key)=Sum.inr b)=false:=dF0 (λq=>nomatch q)
theorem yPJ(a:Str)(b:Int):decide ((Sum.inr a:Key)=Sum.inl b)=false:=dF0 (λq=>nomatch q)
def wG(prog:Program)(w:World):PySem.KeyKind prog w Key where
 is:=zPJ
 hash:=keyH w
 inj:=λv a b ha hb=>by
  rcases xB ha with⟨i,t,rfl,rfl⟩|⟨x,t,rfl,rfl⟩
  ·rcases xB hb with⟨j,u,rfl,e⟩|⟨y,u,rfl,e⟩
   ·injection e with e1 _;rw [e1]
   ·exact nomatch e
  ·rcases xB hb with⟨j,u,rfl,e⟩|⟨y,u,rfl,e⟩
   ·exact nomatch e
   ·injection e with e1 _;rw [e1]
 byValue:=λk v h=>by
  rcases xB h with⟨i,t,rfl,rfl⟩|⟨x,t,rfl,rfl⟩<;>rfl
 pyHash:=λhv h=>by
  rcases xB hv with⟨i,t,rfl,rfl⟩|⟨x,t,rfl,rfl⟩
  ·exact wpAny_pyHash_int h
  ·exact wpAny_pyHash_str h
 eqBool:=λhu hv h=>by
  rcases xB hu with⟨i,t,rfl,rfl⟩|⟨x,t,rfl,rfl⟩
  ·rcases xB hv with⟨j,u,rfl,rfl⟩|⟨y,u,rfl,rfl⟩
   ·rw [yPG]at h;exact wpAny_eqBool_int h
   ·rw [yPI]at h;exact SeqAt.EqAt.int_str i t y u _ _ _ _ h
  ·rcases xB hv with⟨j,u,rfl,rfl⟩|⟨y,u,rfl,rfl⟩
   ·rw [yPJ]at h;exact SeqAt.EqAt.str_int x t j u _ _ _ _ h
   ·rw [yPH]at h;exact wpAny_eqBool_str h
 «strs»:=λk x t v h=>by
  rcases xB h with⟨i,u,rfl,e⟩|⟨y,u,rfl,e⟩
  ·exact nomatch e
  ·injection e with e1 _
   subst e1
   cases v<;>rfl
theorem zXA(prog:Program)(w:World)(i:Int)(t:Tok):(wG prog w).is (.inl i) (.int i t)=true:=yEG i t
theorem zXB(prog:Program)(w:World)(x:Str)(t:Tok):(wG prog w).is (.inr x) (.str x t)=true:=yEH x t
inductive V where
 |non|bl (b:Bool)|int (i:Int)|str (x:Str)|byt (b:Array UInt8)|flt (b:UInt64)|ref (a:Addr)|ty (n:String)
 deriving DecidableEq
def RelV:V->Value->Prop
 |.non,u=>u=Value.none
 |.bl b,u=>u=Value.bool b
 |.int i,u=> ∃t,u=Value.int i t
 |.str x,u=> ∃t,u=Value.str x t
 |.byt b,u=> ∃t,u=Value.bytes b t
 |.flt b,u=> ∃t,u=Value.float b t
 |.ref a,u=>u=Value.ref a
 |.ty n,u=>u=Value.type n
abbrev Vals:List V->List Value->Prop:=Paired RelV
theorem Vals.length{xs:List V}{us:List Value}(r:Vals xs us):xs.length=us.length:=Paired.length r
theorem Vals.get: ∀{xs:List V}{us:List Value}{i:Nat}{x:V},Vals xs us->xs[i]? =some x-> ∃u,us[i]? =some u/\RelV x u
 |_,_,_,_,.nil,e=>by simp at e
 |_,_,0,_,.cons r _,e=>by simp at e;subst e;exact⟨_,rfl,r⟩
 |_,_,i+1,x,.cons _ t,e=>by
  obtain⟨u,h1,h2⟩:=Vals.get (i:=i) (x:=x) t (by simpa using e)
  exact⟨u,by simpa using h1,h2⟩
theorem Vals.set{x:V}{u:Value}(r:RelV x u): ∀{xs:List V}{us:List Value}(i:Nat),Vals xs us->Vals (xs.set i x) (us.set i u)
 |_,_,_,.nil=>.nil
 |_,_,0,.cons _ t=>.cons r t
 |_,_,i+1,.cons q t=>.cons q (Vals.set r i t)
theorem Vals.append: ∀{xs ys:List V}{us ws:List Value},Vals xs us->Vals ys ws->Vals (xs++ys) (us++ws)
 |_,_,_,_,.nil,s=>s
 |_,_,_,_,.cons r t,s=>.cons r (Vals.append t s)
theorem Vals.take: ∀{xs:List V}{us:List Value}(n:Nat),Vals xs us->Vals (xs.take n) (us.take n)
 |_,_,0,_=>.nil
 |_,_,_+1,.nil=>.nil
 |_,_,n+1,.cons r t=>.cons r (Vals.take n t)
theorem Vals.drop: ∀{xs:List V}{us:List Value}(n:Nat),Vals xs us->Vals (xs.drop n) (us.drop n)
 |_,_,0,r=>r
 |_,_,_+1,.nil=>.nil
 |_,_,n+1,.cons _ t=>Vals.drop n t
def RelO:Option V->Option Value->Prop
 |some v,some u=>RelV v u
 |none,none=>True
 |_,_=>False
def KV{κ:Type}:List (κ×V)->List (κ×Value)->Prop:=Paired λ(p:κ×V) (q:κ×Value)=>p.1=q.1/\RelV p.2 q.2
def kV:Key->V
 |.inl i=>.int i
 |.inr x=>.str x
inductive HO where
 |lst (xs:List V)
 |tup (xs:List V)
 |dK (kvs:List (Key×V))|dT (kvs:List (List Key×V))
 |set (S:Int->Bool) (n:Nat)
 |ins (C dx:Addr) (fs:List (Str×V))
 |own (x:Addr)
 |xd (fs:List (Str×V))
 |met (f x:Addr)
 |rng (lo hi:Int)
 |frz (o:Obj) (u:HO)
 |tbl (ps:Array Value)
 |ext (φ:Heap->Prop)
abbrev Hp:=Addr->Option HO
def upd(H:Hp)(a:Addr)(o:HO):Hp:=λb=>if b=a then some o else H b
theorem yS{H:Hp}{a:Addr}{o:HO}:upd H a o a=some o:=by unfold upd;rw [iP rfl]
theorem yC{H:Hp}{a b:Addr}{o:HO}(h:b≠a):upd H a o b=H b:=by unfold upd;rw [iN h]
theorem yCF{H:Hp}{a:Addr}{o u:HO}:upd (upd H a o) a u=upd H a u:=by
 funext b;unfold upd;split<;>rfl
theorem yV{H:Hp}{a b:Addr}{o:HO}(h:H a=some o)(h':H b=none):a≠b:=by
 intro e;subst e;rw [h]at h';cases h'
section
variable(P:Program)(w:World)
def ObjOk(H:Hp)(h:Heap)(a:Addr):HO->Prop
 |.lst xs=>xs.length<=sizeLine/\ ∃(its:List Value)(n:Nat),Vals xs its/\h.get? a=some {cls:=.type "list",data:=.seq its.toArray n}
 |.tup xs=>xs.length<=sizeLine/\ ∃its:List Value,Vals xs its/\IsTup h a its.toArray
 |.dK kvs=>kvs.length<=sizeLine/\(a==sysModules)=false/\ ∃vs,KV kvs vs/\h.DictOf (wG P w) a vs
 |.dT kvs=>kvs.length<=sizeLine/\(a==sysModules)=false/\ ∃xs:List (List Key×Addr×Value),
   Paired (λ(p:List Key×V) (q:List Key×Addr×Value)=>p.1=q.1/\H q.2.1=some (.tup (p.1.map kV))/\RelV p.2 q.2.2) kvs xs/\
   ∃o es ep,h.get? a=some o/\o.ExactDict/\o.data=.dict es ep/\es.toList=xs.map (entryOfKey (tupleKind (wG P w)))/\(xs.map (·.1)).Nodup
 |.set S n=>h.SetOf (intKind P w) a S n
 |.ins C dx fs=>H dx=some (.own a)/\fs.length<=1000/\dx≠a/\h.get? a=some (PySem.W.instObj C dx)/\
   ∃mA,h.Ns1 dx mA/\(∀f,RelO (fs.lookup f) (mA f))/\PySem.Within mA (fs.map (·.1))
 |.own _=> ∃o,h.get? a=some o
 |.xd fs=> ∃mA,h.Ns1 a mA/\ ∀f,RelO (fs.lookup f) (mA f)
 |.rng lo hi=> ∃t u v,h.get? a=some {cls:=.type "range",data:=.fields #[.int lo t,.int hi u,.int 1 v]}
 |.frz o u=>h.get? a=some o/\ObjOk H h a u
 |.tbl ps=>h.get? a=some {cls:=.none,data:=.fields ps}
 |.met f x=>h.get? a=some (PySem.W.methodObj (.ref f) (.ref x))
 |.ext φ=>φ h/\(∃o,h.get? a=some o)/\ ∀h1 h2:Heap,φ h1->(∀o,h1.get? a=some o->h2.get? a=some o)->φ h2
def HOk(H:Hp)(h:Heap):Prop:= ∀a o,H a=some o->ObjOk P w H h a o
end
section
variable{P:Program}{w:World}{H H':Hp}{h h':Heap}{a:Addr}{o:HO}
theorem ObjOk.lt(x:ObjOk P w H h a o):a<h.objs.size:=by
 cases o with
 |lst xs=>obtain⟨_,_,_,_,e⟩:=x;exact Heap.lt_size e
 |tup xs=>obtain⟨_,_,_,p⟩:=x;exact p.lt
 |dK kvs=>obtain⟨_,_,_,_,o,_,_,e,_⟩:=x;exact Heap.lt_size e
 |dT kvs=>obtain⟨_,_,_,_,o,_,_,e,_⟩:=x;exact Heap.lt_size e
 |set S n=>obtain⟨o,_,_,_,e,_⟩:=x;exact Heap.lt_size e
 |ins C dx fs=>obtain⟨_,_,_,e,_⟩:=x;exact Heap.lt_size e
 |own y=>obtain⟨_,e⟩:=x;exact Heap.lt_size e
 |xd fs=>obtain⟨_,⟨_,_,_,e,_⟩,_⟩:=x;exact Heap.lt_size e
 |rng lo hi=>obtain⟨_,_,_,e⟩:=x;exact Heap.lt_size e
 |frz ob u=>obtain⟨e,_⟩:=x;exact Heap.lt_size e
 |tbl ps=>exact Heap.lt_size (show h.get? a=some _ from x)
 |met f y=>exact Heap.lt_size (show h.get? a=some _ from x)
 |ext φ=>obtain⟨_,⟨_,e⟩,_⟩:=x;exact Heap.lt_size e
theorem Paired.mapP{α β:Type}{F G:α->β->Prop}: ∀{l₁:List α}{l₂:List β},Paired F l₁ l₂->(∀a b,F a b->G a b)->Paired G l₁ l₂
 |_,_,.nil,_=>.nil
 |_,_,.cons r t,f=>.cons (f _ _ r) (Paired.mapP t f)
theorem ObjOk.stay(x:ObjOk P w H h a o)(k: ∀b u,(b=a\/H b=some (.own a))->h.get? b=some u->h'.get? b=some u)
  (ho: ∀b,H b=some (.own a)->H' b=some (.own a)) (ht: ∀b xs,H b=some (.tup xs)->H' b=some (.tup xs)):ObjOk P w H' h' a o:=by
 induction o with
 |lst xs=>obtain⟨z,its,n,r,e⟩:=x;exact⟨z,its,n,r,k _ _ (.inl rfl) e⟩
 |tup xs=>obtain⟨z,its,r,ob,e,c⟩:=x;exact⟨z,its,r,ob,k _ _ (.inl rfl) e,c⟩
 |dK kvs=>obtain⟨z,y,vs,r,ob,es,ep,e,c⟩:=x;exact⟨z,y,vs,r,ob,es,ep,k _ _ (.inl rfl) e,c⟩
 |dT kvs=>
  obtain⟨z,y,xs,r,ob,es,ep,e,c⟩:=x
  exact⟨z,y,xs,Paired.mapP r λp q z=>⟨z.1,ht _ _ z.2.1,z.2.2⟩,ob,es,ep,k _ _ (.inl rfl) e,c⟩
 |set S n=>obtain⟨ob,es,ep,t,e,c⟩:=x;exact⟨ob,es,ep,t,k _ _ (.inl rfl) e,c⟩
 |ins C dx fs=>
  obtain⟨d,z,ne,e,mA,⟨od,es,ep,e2,c⟩,r⟩:=x
  exact⟨ho _ d,z,ne,k _ _ (.inl rfl) e,mA,⟨od,es,ep,k _ _ (.inr d) e2,c⟩,r⟩
 |own y=>obtain⟨ob,e⟩:=x;exact⟨ob,k _ _ (.inl rfl) e⟩
 |xd fs=>obtain⟨mA,⟨od,es,ep,e,c⟩,r⟩:=x;exact⟨mA,⟨od,es,ep,k _ _ (.inl rfl) e,c⟩,r⟩
 |rng lo hi=>obtain⟨t,u,v,e⟩:=x;exact⟨t,u,v,k _ _ (.inl rfl) e⟩
 |frz ob u ih=>obtain⟨e,q⟩:=x;exact⟨k _ _ (.inl rfl) e,ih q⟩
 |tbl ps=>
  have e:h.get? a=some {cls:=.none,data:=.fields ps}:=x
  show h'.get? a=some {cls:=.none,data:=.fields ps}
  exact k a _ (.inl rfl) e
 |met f y=>
  have e:h.get? a=some (PySem.W.methodObj (.ref f) (.ref y)):=x
  show h'.get? a=some (PySem.W.methodObj (.ref f) (.ref y))
  exact k a _ (.inl rfl) e
 |ext φ=>obtain⟨p,⟨o,e⟩,st⟩:=x;exact⟨st _ _ p λo q=>k _ _ (.inl rfl) q,⟨o,k _ _ (.inl rfl) e⟩,st⟩
theorem HOk.lt(x:HOk P w H h)(e:H a=some o):a<h.objs.size:=(x a o e).lt
theorem HOk.fresh(x:HOk P w H h)(e:h.objs.size<=a):H a=none:=by
 cases q:H a with
 |none=>rfl
 |some u=>exact absurd (lt_of_lt_of_le (x.lt q) e) (lt_irrefl _)
theorem HOk.kept(x:HOk P w H h)(k: ∀b u,h.get? b=some u->h'.get? b=some u):HOk P w H h':=λa o e=>
 (x a o e).stay (λb u _ q=>k b u q) (λ_ q=>q) λ_ _ q=>q
theorem HOk.laid(x:HOk P w H h)(k: ∀b u,h.get? b=some u->h'.get? b=some u)(hp:h.objs.size<=a)(new:ObjOk P w (upd H a o) h' a o):HOk P w (upd H a o) h':=λb u e=>by
 have hn:=x.fresh hp
 by_cases hb:b=a
 ·subst hb;rw [yS]at e;cases e;exact new
 ·rw [yC hb]at e
  exact(x b u e).stay (λc v _ q=>k c v q) (λc q=>by rw [yC (yV q hn)];exact q) λc xs q=>by rw [yC (yV q hn)];exact q
end
def Rd(H:Hp)(a:Addr)(u:HO):Prop:=H a=some u\/ ∃o,H a=some (.frz o u)
theorem Rd.ok{P:Program}{w:World}{H:Hp}{h:Heap}{a:Addr}{u:HO}(r:Rd H a u)(x:HOk P w H h):ObjOk P w H h a u:=by
 rcases r with r|⟨o,r⟩
 ·exact x a u r
 ·obtain⟨_,q⟩:=x a _ r
  exact q
def Mut:Option HO->Prop
 |some (.lst _)=>True
 |some (.dK _)=>True
 |some (.dT _)=>True
 |some (.set _ _)=>True
 |some (.ins _ _ _)=>True
 |some (.ext _)=>True
 |_=>False
section
variable{P:Program}{w:World}{H:Hp}{h h':Heap}{x e:Addr}{o':HO}
theorem HOk.write(ok:HOk P w H h)(mu:Mut (H x))(he:e=x\/H e=some (.own x))(k: ∀b u,b≠e->h.get? b=some u->h'.get? b=some u)(heo: ∃u,h'.get? e=some u)
  (new:ObjOk P w (upd H x o') h' x o'):HOk P w (upd H x o') h':=λb u q=>by
 have nown: ∀c y,H c=some (.own y)->c≠x:=λc y r z=>by subst z;rw [r]at mu;exact mu
 have ntup: ∀c xs,H c=some (.tup xs)->c≠x:=λc xs r z=>by subst z;rw [r]at mu;exact mu
 by_cases hb:b=x
 ·subst hb;rw [yS]at q;cases q;exact new
 ·rw [yC hb]at q
  by_cases hbe:b=e
  ·have q':H b=some (.own x):=by
    rcases he with z|z
    ·exact absurd (hbe.trans z) hb
    ·rw [hbe];exact z
   rw [q]at q';cases q'
   obtain⟨v,hv⟩:=heo
   exact⟨v,by rw [hbe];exact hv⟩
  ·refine(ok b u q).stay (λc v hc r=>k c v ?_ r) (λc r=>by rw [yC (nown c b r)];exact r) λc xs r=>by rw [yC (ntup c xs r)];exact r
   rcases hc with rfl|hc
   ·exact hbe
   ·rintro rfl
    rcases he with z|z
    ·exact nown c b hc z
    ·rw [hc]at z;cases z;exact hb rfl
end
structure Un(fs ex:List Addr)(H H':Hp)(h h':Heap):Prop where
 keep: ∀b o,h.get? b=some o->H b=none->b∉fs->b∉ex->h'.get? b=some o
 slot: ∀b o,h.get? b=some o->H b=none->b∈fs->b∉ex-> ∃sl,h'.get? b=some {o with slots:=sl}
 free: ∀b o,h.get? b=some o->H b=none->b∉ex->H' b=none
 there: ∀b o,h.get? b=some o->b∉ex-> ∃o',h'.get? b=some o'
 tups: ∀b xs,H b=some (.tup xs)->H' b=some (.tup xs)
 frzs: ∀b o u,H b=some (.frz o u)->H' b=some (.frz o u)
 tbls: ∀b ps,H b=some (.tbl ps)-> ∃more,H' b=some (.tbl (ps++more))
section
variable{fs fs' ex ex':List Addr}{H H1 H2:Hp}{h h1 h2 h':Heap}{a x e:Addr}{o:HO}
theorem Un.any(u:Un fs ex H H1 h h1){b:Addr}{ob:Obj}(q:h.get? b=some ob)(n:H b=none)(hx:b∉ex): ∃sl,h1.get? b=some {ob with slots:=sl}:=by
 by_cases hb:b∈fs
 ·exact u.slot b ob q n hb hx
 ·exact⟨ob.slots,u.keep b ob q n hb hx⟩
theorem Un.kept(k: ∀b u,h.get? b=some u->h'.get? b=some u):Un fs ex H H h h':=
 ⟨λb ob q _ _ _=>k b ob q,λb ob q _ _ _=>⟨ob.slots,k b ob q⟩,λ_ _ _ n _=>n,λb ob q _=>⟨ob,k b ob q⟩,λ_ _ q=>q,λ_ _ _ q=>q,λ_ ps q=>⟨#[],by rw [q];simp⟩⟩
theorem Un.refl:Un fs ex H H h h:=Un.kept λ_ _ q=>q
theorem Un.laid(k: ∀b u,h.get? b=some u->h'.get? b=some u)(hp:h.objs.size<=a)(hn:H a=none):Un fs ex H (upd H a o) h h' where
 keep:=λb u q _ _ _=>k b u q
 slot:=λb u q _ _ _=>⟨u.slots,k b u q⟩
 free:=λb u q n _=>by rw [yC (ne_of_lt (lt_of_lt_of_le (Heap.lt_size q) hp))];exact n
 there:=λb u q _=>⟨u,k b u q⟩
 tups:=λb xs q=>by rw [yC (yV q hn)];exact q
 frzs:=λb u xs q=>by rw [yC (yV q hn)];exact q
 tbls:=λb ps q=>⟨#[],by rw [yC (yV q hn),q];simp⟩
theorem Un.write(mu:Mut (H x))(he:e=x\/H e=some (.own x))(k: ∀b u,b≠e->h.get? b=some u->h'.get? b=some u)(heo: ∃u,h'.get? e=some u):Un fs ex H (upd H x o) h h':=by
 have hx: ∀b,H b=none->b≠x:=λb n z=>by subst z;rw [n]at mu;exact mu
 have hb: ∀b,H b=none->b≠e:=λb n z=>by
  subst z
  rcases he with r|r
  ·exact hx b n r
  ·rw [n]at r;cases r
 have hm: ∀b u,H b=some u-> ¬Mut (some u)->b≠x:=λb u q nm z=>by subst z;rw [q]at mu;exact nm mu
 refine⟨λb u q n _ _=>k b u (hb b n) q,λb u q n _ _=>⟨u.slots,k b u (hb b n) q⟩,λb u q n _=>by rw [yC (hx b n)];exact n,λb u q _=>?_,
  λb xs q=>by rw [yC (hm b _ q λz=>z)];exact q,λb u xs q=>by rw [yC (hm b _ q λz=>z)];exact q,λb ps q=>⟨#[],by rw [yC (hm b _ q λz=>z),q];simp⟩⟩
 by_cases hbe:b=e
 ·subst hbe;exact heo
 ·exact⟨u,k b u hbe q⟩
end
def trk(h:Heap)(H:Hp):List Addr:=(List.range h.objs.size).filter λa=>(H a).isSome
def zUC(h:Heap)(H:Hp):Heap:=PySem.W.hideAll h (trk h H)
theorem yEI(h:Heap)(H:Hp):(zUC h H).objs.size=h.objs.size:=PySem.W.hideAll_size _ _
theorem yGM{h:Heap}{H:Hp}{b:Addr}{o:Obj}(e:h.get? b=some o)(n:H b=none):(zUC h H).get? b=some o:=
 PySem.W.hideAll_get _ e λhm=>by
  have q:(H b).isSome=true:=(mem_filter.mp hm).2
  rw [n]at q;simp at q
theorem yKL{h:Heap}{H:Hp}{b:Addr}{o:Obj}(e:(zUC h H).get? b=some o):h.get? b=some o/\H b=none:=by
 have e':h.get? b=some o:=PySem.W.of_hideAll (trk h H) e
 refine⟨e',?_⟩
 cases q:H b with
 |none=>rfl
 |some x=>
  have hm:b∈trk h H:=mem_filter.mpr ⟨mem_range.mpr (Heap.lt_size e'),by simp [q]⟩
  have z:(zUC h H).get? b=none:=PySem.W.hideAll_none (trk h H) hm
  rw [z]at e;cases e
def yKM(g h:Heap)(L:Addr):List (Addr×Obj):=(List.range h.objs.size).filterMap λa=>if a=L\/(g.get? a).isSome=true then none else(h.get? a).map λo=>(a,o)
def rest(g h:Heap)(L d:Addr):List (Addr×Obj):=(yKM g h L).filter λp=>decide (p.1≠d)
structure Mod(K:PySem.W.Frag)(mg:Str->Option Value)(base:Heap):Prop where
 kin:K.In base
 glob:base.Ns mainGlobals mg
 blt: ∃mb,base.Ns builtinsNs mb/\ ∀x:Str,x≠"__name__"->mb x=bootBuiltins x
 nolimit:base.NoLimit
structure Cx where
 prog:Program
 w:World
 K:PySem.W.Frag
 mg:Str->Option Value
 base:Heap
 A:Around
 N:List Str
 s₀:Shared
 H₀:Hp
 env:Env
 outer:List Env
 stack:List Env
 ex:List Addr
 fn:Str->Bool
 calm:Bool
 pn:List (Addr×Obj)
 xe:Value->Shared->Prop
def frs(l:List Env):List Addr:=l.filterMap (·.frame)
abbrev Cx.fs(X:Cx):List Addr:=frs X.outer
def Vis(sc:Scope)(x:Str):Prop:=sc.names.lookup x=some .local\/sc.names.lookup x=some .cell\/sc.names.lookup x=some .free
def Loc(sc:Scope)(x:Str):Prop:=sc.names.lookup x=some .local\/sc.names.lookup x=some .cell
def Look(env:Env)(h:Heap)(m:Str->Option Value)(x:Str)(u:Value):Prop:=
 (env.kindOf x=some .local/\m x=some u)\/((env.kindOf x=some .cell\/env.kindOf x=some .free)/\ ∃c,env.cells.lookup x=some c/\h.IsCell c (some u))
structure Cx.Ok(X:Cx):Prop where
 mod:Mod X.K X.mg X.base
 kind:X.env.scope.kind=.function
 glob:X.env.globals=mainGlobals
 blt:X.env.builtins=builtinsNs
 above:X.s₀.heap.objs.size<=X.env.locals
 inj: ∀x y c,X.env.cells.lookup x=some c->X.env.cells.lookup y=some c->x=y
 has: ∀x,(X.env.kindOf x=some .cell\/X.env.kindOf x=some .free)-> ∃c,X.env.cells.lookup x=some c
 cab: ∀x c,X.fn x=true->X.env.cells.lookup x=some c->X.s₀.heap.objs.size<=c
 hd:X.calm=true->X.A.handled=none
 frames:X.A.frames=some X.stack
 stk:X.stack=X.outer\/(X.stack=X.env::X.outer/\X.env.frame=some X.env.locals)
 exf: ∀b∈X.ex,b≠X.env.locals/\ ∀x c,X.env.cells.lookup x=some c->c≠b
 bs: ∀b o,X.base.get? b=some o->X.s₀.heap.get? b=some o/\X.H₀ b=none
 bsz:X.base.objs.size<=X.s₀.heap.objs.size
 noex: ∀b o,X.base.get? b=some o->b∉X.ex
 exfs: ∀b∈X.ex,b∉X.fs
 funs:X.s₀.heap.FunFrames X.base X.outer
 frf: ∀b∈X.fs,X.H₀ b=none
structure Inv(X:Cx)(pins:List (Addr×Obj))(σ:List (Option V))(H:Hp)(s:Shared):Prop where
 ok:X.Ok
 os:s.os=X.s₀.os
 bare:AllBare s.gens
 base:Un X.fs X.ex X.H₀ H X.s₀.heap s.heap
 loc: ∃m,s.heap.Ns X.env.locals m/\ ∀(i:Nat)(x:Str)(v:V),X.N[i]? =some x->σ[i]? =some (some v)->Vis X.env.scope x-> ∃u,RelV v u/\Look X.env s.heap m x u
 cell: ∀x c,X.env.cells.lookup x=some c-> ∃v,s.heap.IsCell c v
 free:H X.env.locals=none
 freeC: ∀x c,X.env.cells.lookup x=some c->H c=none
 pin: ∀p∈X.pn++pins,s.heap.get? p.1=some p.2/\H p.1=none/\p.1≠X.env.locals/\p.1∉X.fs/\ ∀v,p.2.data≠.cell v
 hok:HOk X.prog X.w H s.heap
 len:σ.length=X.N.length
section
variable{X:Cx}{pins:List (Addr×Obj)}{σ:List (Option V)}{H H':Hp}{s:Shared}{h':Heap}
theorem Cx.Ok.nofr(ok:X.Ok){b:Addr}{o:Obj}(e:X.base.get? b=some o):b∉X.fs:=λhb=>by
 have:=(ok.funs.mem hb).1
 rw [e]at this;cases this
theorem Inv.bs(I:Inv X pins σ H s): ∀b o,X.base.get? b=some o->s.heap.get? b=some o/\H b=none:=λb o e=>
 ⟨I.base.keep b o (I.ok.bs b o e).1 (I.ok.bs b o e).2 (I.ok.nofr e) (I.ok.noex b o e),I.base.free b o (I.ok.bs b o e).1 (I.ok.bs b o e).2 (I.ok.noex b o e)⟩
theorem Inv.bk(I:Inv X pins σ H s): ∀b o,X.base.get? b=some o->s.heap.get? b=some o:=λb o e=>(I.bs b o e).1
theorem Inv.mod(I:Inv X pins σ H s):Mod X.K X.mg X.base:=I.ok.mod
theorem Inv.kIn(I:Inv X pins σ H s):X.K.In s.heap:=I.ok.mod.kin.keeps I.bk
theorem Inv.lt(I:Inv X pins σ H s):X.env.locals<s.heap.objs.size:=let ⟨_,hn,_⟩:=I.loc;hn.lt
theorem Inv.sz(I:Inv X pins σ H s):X.s₀.heap.objs.size<=s.heap.objs.size:=le_trans I.ok.above (le_of_lt I.lt)
theorem Inv.nofs(I:Inv X pins σ H s){a:Addr}(h:s.heap.objs.size<=a):a∉X.fs:=λhb=>by
 obtain⟨_,o,ho,_⟩:=I.ok.funs.mem hb
 exact absurd (lt_of_lt_of_le (Heap.lt_size ho) (le_trans I.sz h)) (lt_irrefl _)
theorem Inv.cne(I:Inv X pins σ H s): ∀x c,X.env.cells.lookup x=some c->c≠X.env.locals:=λx c e z=>by
 obtain⟨v,o,ho,hd⟩:=I.cell x c e
 obtain⟨m,⟨o',es,ep,ho',hd',_⟩,_⟩:=I.loc
 rw [z,ho']at ho;cases ho;rw [hd']at hd;cases hd
theorem Inv.funs(I:Inv X pins σ H s):s.heap.FunFrames X.base X.outer:=by
 have all: ∀(l:List Env),(∀b∈frs l,b∈X.fs)->X.s₀.heap.FunFrames X.base l->s.heap.FunFrames X.base l:=by
  intro l
  induction l with
  |nil=>intro _ _;trivial
  |cons env r ih=>
   intro hs hl
   obtain⟨hk,⟨L,o,hf,hn,ho,hd⟩,hr⟩:=hl
   have hL:L∈X.fs:=hs L (by unfold frs;rw [List.filterMap_cons,hf];exact mF0)
   obtain⟨sl,e⟩:=I.base.slot L o ho (I.ok.frf L hL) hL λz=>I.ok.exfs L z hL
   exact⟨hk,⟨L,_,hf,hn,e,hd⟩,ih (λb hb=>hs b (by unfold frs;rw [List.filterMap_cons,hf];exact mO _ hb)) hr⟩
 exact all X.outer (λ_ hb=>hb) I.ok.funs
theorem Inv.stack(I:Inv X pins σ H s):s.heap.FunFrames X.base X.stack:=by
 rcases I.ok.stk with e|⟨e,hf⟩
 ·rw [e];exact I.funs
 ·rw [e]
  obtain⟨m,hn,_⟩:=I.loc
  refine .cons (by rw [I.ok.kind];decide) hf hn ?_ I.funs
  exact Heap.get?_none_of_le (le_trans I.ok.bsz I.ok.above)
theorem Inv.stkSub(I:Inv X pins σ H s): ∀b∈frs X.stack,b∈X.env.locals::X.fs:=λb hb=>by
 rcases I.ok.stk with e|⟨e,hf⟩
 ·rw [e]at hb;exact mO _ hb
 ·rw [e]at hb
  unfold frs at hb
  rw [List.filterMap_cons,hf]at hb
  exact hb
theorem Inv.stkFree(I:Inv X pins σ H s): ∀b∈frs X.stack,H b=none:=λb hb=>by
 rcases mC.mp (I.stkSub b hb)with e|hb
 ·rw [e];exact I.free
 ·obtain⟨_,o,ho,_⟩:=I.ok.funs.mem hb
  exact I.base.free b o ho (I.ok.frf b hb) λz=>I.ok.exfs b z hb
theorem Inv.step{g':Array GenState}{t':Nat}{d':Drawn}{ch:List Addr}(I:Inv X pins σ H s)
  (hch: ∀b∈ch,(b∈X.ex\/X.s₀.heap.objs.size<=b)/\b≠X.env.locals/\(∀x c,X.env.cells.lookup x=some c->c≠b)/\ ∀p∈X.pn++pins,p.1≠b)
  (keep: ∀b o,b≠X.env.locals->b∉X.fs->b∉ch->s.heap.get? b=some o->H b=none->h'.get? b=some o)
  (slot: ∀b o,b≠X.env.locals->b∈X.fs->b∉ch->s.heap.get? b=some o->H b=none-> ∃sl,h'.get? b=some {o with slots:=sl}) (free: ∀b o,b∉ch->s.heap.get? b=some o->H b=none->H' b=none)
  (there: ∀b o,b∉ch->s.heap.get? b=some o-> ∃o',h'.get? b=some o')
  (tups: ∀b xs,H b=some (.tup xs)->H' b=some (.tup xs)) (frzs: ∀b o u,H b=some (.frz o u)->H' b=some (.frz o u)) (tbls: ∀b ps,H b=some (.tbl ps)-> ∃more,H' b=some (.tbl (ps++more)))
  (ns: ∀m,s.heap.Ns X.env.locals m->h'.Ns X.env.locals m) (hok:HOk X.prog X.w H' h') (hg:AllBare g'):
  Inv X pins σ H' {s with heap:=h',gens:=g',drawn:=d',toks:=t'}:=by
 have neL: ∀b o,X.s₀.heap.get? b=some o->b≠X.env.locals:=λb o e=>ne_of_lt (lt_of_lt_of_le (Heap.lt_size e) I.ok.above)
 have neC: ∀b o,X.s₀.heap.get? b=some o->b∉X.ex->b∉ch:=λb o e hx hb=>by
  rcases (hch b hb).1 with z|z
  ·exact hx z
  ·exact absurd (lt_of_lt_of_le (Heap.lt_size e) z) (lt_irrefl _)
 have cellK: ∀x c,X.env.cells.lookup x=some c-> ∀v,s.heap.IsCell c v->h'.IsCell c v:=λx c e v ⟨o,ho,hd⟩=>by
  have nch:c∉ch:=λz=>(hch c z).2.2.1 x c e rfl
  by_cases hc:c∈X.fs
  ·obtain⟨sl,q⟩:=slot c o (I.cne x c e) hc nch ho (I.freeC x c e)
   exact⟨_,q,hd⟩
  ·exact⟨o,keep c o (I.cne x c e) hc nch ho (I.freeC x c e),hd⟩
 refine⟨I.ok,I.os,hg,⟨λb o e n hb hx=>?_,λb o e n hb hx=>?_,λb o e n hx=>?_,λb o e hx=>?_,λb xs e=>tups b xs (I.base.tups b xs e),λb o xs e=>frzs b o xs (I.base.frzs b o xs e),λb ps e=>?_⟩,?_,λx c e=>?_,?_,λx c e=>?_,λp hp=>?_,hok,I.len⟩
 ·exact keep b o (neL b o e) hb (neC b o e hx) (I.base.keep b o e n hb hx) (I.base.free b o e n hx)
 ·obtain⟨sl,e1⟩:=I.base.slot b o e n hb hx
  obtain⟨sl',e2⟩:=slot b _ (neL b o e) hb (neC b o e hx) e1 (I.base.free b o e n hx)
  exact⟨sl',e2⟩
 ·obtain⟨o',e1⟩:=I.base.there b o e hx
  exact free b o' (neC b o e hx) e1 (I.base.free b o e n hx)
 ·obtain⟨o',e1⟩:=I.base.there b o e hx
  exact there b o' (neC b o e hx) e1
 ·obtain⟨m1,e1⟩:=I.base.tbls b ps e
  obtain⟨m2,e2⟩:=tbls b _ e1
  exact⟨m1++m2,by rw [e2,Array.append_assoc]⟩
 ·obtain⟨m,hn,hl⟩:=I.loc
  refine⟨m,ns m hn,λi x v e1 e2 e3=>?_⟩
  obtain⟨u,r,l⟩:=hl i x v e1 e2 e3
  refine⟨u,r,?_⟩
  rcases l with l|⟨k,c,e,z⟩
  ·exact .inl l
  ·exact .inr ⟨k,c,e,cellK x c e _ z⟩
 ·obtain⟨v,z⟩:=I.cell x c e
  exact⟨v,cellK x c e v z⟩
 ·obtain⟨m,⟨o,_,_,ho,_⟩,_⟩:=I.loc
  exact free _ o (λz=>(hch _ z).2.1 rfl) ho I.free
 ·obtain⟨v,o,ho,hd⟩:=I.cell x c e
  exact free c o (λz=>(hch c z).2.2.1 x c e rfl) ho (I.freeC x c e)
 ·obtain⟨e,n,ne,nf,d⟩:=I.pin p hp
  have nch:p.1∉ch:=λz=>(hch p.1 z).2.2.2 p hp rfl
  exact⟨keep p.1 p.2 ne nf nch e n,free p.1 p.2 nch e n,ne,nf,d⟩
theorem Inv.un{t':Nat}(I:Inv X pins σ H s)(u:Un X.fs [] H H' s.heap h')(hok:HOk X.prog X.w H' h'):Inv X pins σ H' {s with heap:=h',toks:=t'}:=by
 obtain⟨m,⟨o,es,ep,ho,r⟩,_⟩:=id I.loc
 obtain⟨sl,hL⟩:=u.any ho I.free (by simp)
 exact I.step (g':=s.gens) (d':=s.drawn) (ch:=[]) (λ_ z=>nomatch z) (λb o _ hb _ e n=>u.keep b o e n hb (by simp)) (λb o _ hb _ e n=>u.slot b o e n hb (by simp)) (λb o _ e n=>u.free b o e n (by simp)) (λb o _ e=>u.there b o e (by simp)) u.tups u.frzs u.tbls (λm' hm=>by
  obtain⟨o',es',ep',ho',r'⟩:=hm
  rw [ho]at ho';cases ho'
  exact⟨_,es',ep',hL,r'⟩) hok I.bare
theorem Inv.call{g':Array GenState}{t':Nat}{d':Drawn}{ch:List Addr}(I:Inv X pins σ H s)(u:Un (frs X.stack) ch H H' s.heap h')(hok:HOk X.prog X.w H' h')(hg:AllBare g')
  (hch: ∀b∈ch,(b∈X.ex\/X.s₀.heap.objs.size<=b)/\b≠X.env.locals/\(∀x c,X.env.cells.lookup x=some c->c≠b)/\ ∀p∈X.pn++pins,p.1≠b):
  Inv X pins σ H' {s with heap:=h',gens:=g',drawn:=d',toks:=t'}:=by
 obtain⟨m,⟨o,es,ep,ho,r⟩,_⟩:=id I.loc
 obtain⟨sl,hL⟩:=u.any ho I.free λz=>(hch _ z).2.1 rfl
 exact I.step (ch:=ch) hch (λb o hL hb hc e n=>u.keep b o e n (λz=>(mC.mp (I.stkSub b z)).elim hL hb) hc) (λb o _ _ hc e n=>u.any e n hc) (λb o hc e n=>u.free b o e n hc) (λb o hc e=>u.there b o e hc) u.tups u.frzs u.tbls (λm' hm=>by
  obtain⟨o',es',ep',ho',r'⟩:=hm
  rw [ho]at ho';cases ho'
  exact⟨_,es',ep',hL,r'⟩) hok hg
theorem Inv.turned{t':Nat}{it:Addr}(I:Inv X pins σ H s)(k: ∀b o,b≠it->s.heap.get? b=some o->h'.get? b=some o)(hn:H it=none)(hL:it≠X.env.locals)
  (h1:it∈X.ex\/X.s₀.heap.objs.size<=it) (h2: ∀x c,X.env.cells.lookup x=some c->c≠it) (h3: ∀p∈X.pn++pins,p.1≠it):Inv X pins σ H {s with heap:=h',toks:=t'}:=by
 have nit: ∀b u,H b=some u->b≠it:=λb u e z=>by rw [z,hn]at e;cases e
 refine I.step (g':=s.gens) (d':=s.drawn) (ch:=[it]) (λb hb=>?_) (λb o _ _ hc e _=>k b o (λz=>hc (by simp [z])) e) (λb o _ _ hc e _=>⟨o.slots,k b o (λz=>hc (by simp [z])) e⟩) (λ_ _ _ _ n=>n)
  (λb o hc e=>⟨o,k b o (λz=>hc (by simp [z])) e⟩) (λ_ _ e=>e) (λ_ _ _ e=>e) (λb ps e=>⟨#[],by rw [e];simp⟩) (λm hm=>?_) (λb u e=>?_) I.bare
 ·have e:b=it:=by simpa using hb
  subst e
  exact⟨h1,hL,h2,h3⟩
 ·obtain⟨o,es,ep,ho,r⟩:=hm
  exact⟨o,es,ep,k _ o (Ne.symm hL) ho,r⟩
 ·refine(I.hok b u e).stay (λc v hc q=>k c v ?_ q) (λ_ q=>q) λ_ _ q=>q
  rcases hc with z|z
  ·rw [z];exact nit b u e
  ·exact nit c _ z
theorem Inv.tok(I:Inv X pins σ H s)(t:Nat):Inv X pins σ H {s with toks:=t}:=I.un (h':=s.heap) (t':=t) Un.refl I.hok
theorem Inv.kept{t':Nat}(I:Inv X pins σ H s)(k: ∀b u,s.heap.get? b=some u->h'.get? b=some u):Inv X pins σ H {s with heap:=h',toks:=t'}:=I.un (Un.kept k) (I.hok.kept k)
theorem Inv.laid{a:Addr}{o:HO}{t':Nat}(I:Inv X pins σ H s)(k: ∀b u,s.heap.get? b=some u->h'.get? b=some u)(hp:s.heap.objs.size<=a)(new:ObjOk X.prog X.w (upd H a o) h' a o):
  Inv X pins σ (upd H a o) {s with heap:=h',toks:=t'}:=I.un (Un.laid k hp (I.hok.fresh hp)) (I.hok.laid k hp new)
theorem Inv.write{x e:Addr}{o:HO}{t':Nat}(I:Inv X pins σ H s)(mu:Mut (H x))(he:e=x\/H e=some (.own x))(k: ∀b u,b≠e->s.heap.get? b=some u->h'.get? b=some u)(heo: ∃u,h'.get? e=some u)
  (new:ObjOk X.prog X.w (upd H x o) h' x o):Inv X pins σ (upd H x o) {s with heap:=h',toks:=t'}:=I.un (Un.write mu he k heo) (I.hok.write mu he k heo new)
theorem Inv.pins_of{pins':List (Addr×Obj)}(I:Inv X pins σ H s)(h: ∀p∈pins',s.heap.get? p.1=some p.2/\H p.1=none/\p.1≠X.env.locals/\p.1∉X.fs/\ ∀v,p.2.data≠.cell v):Inv X pins' σ H s:=
 ⟨I.ok,I.os,I.bare,I.base,I.loc,I.cell,I.free,I.freeC,λp hp=>(mem_append.mp hp).elim (λz=>I.pin p (mem_append_left _ z)) (h p),I.hok,I.len⟩
theorem zXC{N:List Str}(hN:N.Nodup){i j:Nat}{x:Str}(a:N[i]? =some x)(b:N[j]? =some x):i=j:=by
 obtain⟨h1,e1⟩:=gS0.mp a
 obtain⟨h2,e2⟩:=gS0.mp b
 exact(getElem_inj hN).mp (e1.trans e2.symm)
theorem zTC{M:Model}{A:Around}{E:Value->Shared->Prop}{i:Nat}{x:Str}{v:V}{u:Value}{Q:Unit->Shared->Prop}(I:Inv X pins σ H s)(hN:X.N.Nodup)(hi:X.N[i]? =some x)(hx:Loc X.env.scope x)(r:RelV v u)
  (h: ∀s',Inv X pins (σ.set i (some v)) H s'->(∃a,Heap.SameBut a s.heap s'.heap/\(a=X.env.locals\/X.env.cells.lookup x=some a))->Q () s') (hf:X.fn x=true\/X.env.scope.names.lookup x=some .local:=by first |exact .inl rfl|exact .inr rfl|assumption):wpAny M A (storeName X.env x u) Q E s:=by
 obtain⟨m,hn,hl⟩:=id I.loc
 have hcls:(X.env.scope.kind==.class || (X.env.scope.kind==.module&&X.env.locals !=X.env.globals))=false:=by rw [I.ok.kind];rfl
 have hiσ:i<σ.length:=by rw [I.len];exact(gS0.mp hi).1
 have cne:=I.cne
 have tracked: ∀{a:Addr}{h':Heap},(∃o,s.heap.get? a=some o/\H a=none)->Heap.SameBut a s.heap h'->HOk X.prog X.w H h':=λ{a h'} ha hs b ob e=>by
  obtain⟨_,_,hfree⟩:=ha
  refine(I.hok b ob e).stay (λc w' hc q=>(hs.2 c ?_).trans q) (λ_ q=>q) λ_ _ q=>q
  rintro rfl
  rcases hc with rfl|hc
  ·rw [hfree]at e;cases e
  ·rw [hfree]at hc;cases hc
 rcases hx with hk|hk
 ·refine wpAny_storeName_local hk hn (λh' hn' hs=>?_) hcls
  obtain⟨oL,_,_,hoL,_⟩:=id hn
  refine h _ ⟨I.ok,I.os,I.bare,⟨λb o e n hb hx=>?_,λb o e n hb hx=>?_,I.base.free,λb o e hx=>?_,I.base.tups,I.base.frzs,I.base.tbls⟩,⟨_,hn',λj y v' e1 e2 e3=>?_⟩,λy c e=>?_,I.free,I.freeC,λp hp=>?_,tracked ⟨oL,hoL,I.free⟩ hs,by simpa using I.len⟩ ⟨_,hs,.inl rfl⟩
  ·exact(hs.2 b (ne_of_lt (lt_of_lt_of_le (Heap.lt_size e) I.ok.above))).trans (I.base.keep b o e n hb hx)
  ·obtain⟨sl,e1⟩:=I.base.slot b o e n hb hx
   exact⟨sl,(hs.2 b (ne_of_lt (lt_of_lt_of_le (Heap.lt_size e) I.ok.above))).trans e1⟩
  ·obtain⟨o',e1⟩:=I.base.there b o e hx
   exact⟨o',(hs.2 b (ne_of_lt (lt_of_lt_of_le (Heap.lt_size e) I.ok.above))).trans e1⟩
  ·by_cases hj:j=i
   ·subst hj
    rw [hi]at e1;cases e1
    rw [getElem?_set_self hiσ]at e2
    cases e2
    exact⟨u,r,.inl ⟨hk,by simp⟩⟩
   ·rw [getElem?_set_ne (Ne.symm hj)]at e2
    obtain⟨u',r',q⟩:=hl j y v' e1 e2 e3
    refine⟨u',r',?_⟩
    rcases q with⟨k,e⟩|⟨k,c,e,z⟩
    ·refine .inl ⟨k,?_⟩
     have:y≠x:=λe=>hj (zXC hN e1 (e▸hi))
     simp [this,e]
    ·exact .inr ⟨k,c,e,z.sameBut hs (cne y c e)⟩
  ·obtain⟨w',z⟩:=I.cell y c e
   exact⟨w',z.sameBut hs (cne y c e)⟩
  ·obtain⟨e,n,ne,nf,d⟩:=I.pin p hp
   exact⟨(hs.2 p.1 ne).trans e,n,ne,nf,d⟩
 ·have hfn:X.fn x=true:=by
   rcases hf with z|z
   ·exact z
   ·rw [z]at hk;cases hk
  obtain⟨c,hc⟩:=I.ok.has x (.inl hk)
  obtain⟨w',z⟩:=I.cell x c hc
  refine wpAny_storeName_cell I.ok.kind hk hc z (λh' hc' hs=>?_)
  obtain⟨oc,hoc,hocd⟩:=id z
  refine h {s with heap:=h'} ⟨I.ok,I.os,I.bare,⟨λb o e n hb hx=>?_,λb o e n hb hx=>?_,I.base.free,λb o e hx=>?_,I.base.tups,I.base.frzs,I.base.tbls⟩,⟨m,hn.sameBut hs (Ne.symm (cne x c hc)),λj y v' e1 e2 e3=>?_⟩,λy c' e=>?_,I.free,I.freeC,λp hp=>?_,tracked ⟨oc,hoc,I.freeC x c hc⟩ hs,by simpa using I.len⟩ ⟨c,hs,.inr hc⟩
  ·exact(hs.2 b (ne_of_lt (lt_of_lt_of_le (Heap.lt_size e) (I.ok.cab x c hfn hc)))).trans (I.base.keep b o e n hb hx)
  ·obtain⟨sl,e1⟩:=I.base.slot b o e n hb hx
   exact⟨sl,(hs.2 b (ne_of_lt (lt_of_lt_of_le (Heap.lt_size e) (I.ok.cab x c hfn hc)))).trans e1⟩
  ·obtain⟨o',e1⟩:=I.base.there b o e hx
   exact⟨o',(hs.2 b (ne_of_lt (lt_of_lt_of_le (Heap.lt_size e) (I.ok.cab x c hfn hc)))).trans e1⟩
  ·by_cases hj:j=i
   ·subst hj
    rw [hi]at e1;cases e1
    rw [getElem?_set_self hiσ]at e2
    cases e2
    exact⟨u,r,.inr ⟨.inl hk,c,hc,hc'⟩⟩
   ·rw [getElem?_set_ne (Ne.symm hj)]at e2
    obtain⟨u',r',q⟩:=hl j y v' e1 e2 e3
    refine⟨u',r',?_⟩
    rcases q with q|⟨k,c',e,z'⟩
    ·exact .inl q
    ·refine .inr ⟨k,c',e,z'.sameBut hs ?_⟩
     rintro rfl
     exact hj (zXC hN e1 (I.ok.inj _ _ _ e hc▸hi))
  ·by_cases hcc:c'=c
   ·subst hcc;exact⟨_,hc'⟩
   ·obtain⟨w2,z2⟩:=I.cell y c' e
    exact⟨w2,z2.sameBut hs hcc⟩
  ·obtain⟨e,n,ne,nf,d⟩:=I.pin p hp
   refine⟨(hs.2 p.1 ?_).trans e,n,ne,nf,d⟩
   intro q
   rw [q,hoc]at e
   have q':oc=p.2:=Option.some.inj e
   exact d w' (by rw [<-q'];exact hocd)
theorem zXD{M:Model}{A:Around}{E:Value->Shared->Prop}{i:Nat}{x:Str}{v:V}{u:Value}{Q:Unit->Shared->Prop}(I:Inv X pins σ H s)(hN:X.N.Nodup)(hi:X.N[i]? =some x)(hx:Loc X.env.scope x)(r:RelV v u)
  (h: ∀s',Inv X pins (σ.set i (some v)) H s'->Q () s') (hf:X.fn x=true\/X.env.scope.names.lookup x=some .local:=by first |exact .inl rfl|exact .inr rfl|assumption):wpAny M A (storeName X.env x u) Q E s:=
 zTC I hN hi hx r (λs' I' _=>h s' I') hf
theorem Inv.call'{s':Shared}{ch:List Addr}(I:Inv X pins σ H s)(ho:s'.os=s.os)(u:Un (frs X.stack) ch H H' s.heap s'.heap)(hok:HOk X.prog X.w H' s'.heap)(hg:AllBare s'.gens)
  (hch: ∀b∈ch,(b∈X.ex\/X.s₀.heap.objs.size<=b)/\b≠X.env.locals/\(∀x c,X.env.cells.lookup x=some c->c≠b)/\ ∀p∈X.pn++pins,p.1≠b):Inv X pins σ H' s':=by
 obtain⟨h',g',d',t',o'⟩:=s'
 have e:o'=s.os:=ho
 subst e
 exact I.call (g':=g') (t':=t') (d':=d') u hok hg hch
end
abbrev XK:=Value->Option Addr->Hp->Prop
abbrev St:=List (Option V)
abbrev VK:=V->Hp->Prop
abbrev TE:=St->Hp->VK->Prop
abbrev TT:=St->Hp->(Bool->Hp->Prop)->Prop
abbrev TA:=St->Hp->(List V->Hp->Prop)->Prop
structure Ends where
 nx:St->Hp->Prop
 rt:VK
 bk:St->Hp->Prop:=λ_ _=>False
 ct:St->Hp->Prop:=λ_ _=>False
abbrev TS:=Ends->St->Hp->Prop
def EP(X:Cx)(pins:List (Addr×Obj))(σ:St)(Q:VK)(u:Value)(s':Shared):Prop:= ∃v H',Inv X pins σ H' s'/\RelV v u/\Q v H'
def TP(X:Cx)(pins:List (Addr×Obj))(σ:St)(Q:Bool->Hp->Prop)(b:Bool)(s':Shared):Prop:= ∃H',Inv X pins σ H' s'/\Q b H'
def AP(X:Cx)(pins:List (Addr×Obj))(σ:St)(Q:List V->Hp->Prop)(us:List Value)(s':Shared):Prop:= ∃vs H',Inv X pins σ H' s'/\Vals vs us/\Q vs H'
def SP(X:Cx)(pins:List (Addr×Obj))(D:Ends)(f:Flow)(s':Shared):Prop:=
 match f with
 |.next=> ∃σ' H',Inv X pins σ' H' s'/\D.nx σ' H'
 |.brk=> ∃σ' H',Inv X pins σ' H' s'/\D.bk σ' H'
 |.cont=> ∃σ' H',Inv X pins σ' H' s'/\D.ct σ' H'
 |.ret u=> ∃v σ' H',Inv X pins σ' H' s'/\RelV v u/\D.rt v H'
def PE(X:Cx)(e:Expr)(t:TE):Prop:=
 ∀(pins:List (Addr×Obj))(s:Shared)(σ:St)(H:Hp)(Q:VK),Inv X pins σ H s->t σ H Q->wpAny (model X.prog X.w) X.A (eval e X.env) (EP X pins σ Q) X.xe s
def PT(X:Cx)(e:Expr)(t:TT):Prop:=
 ∀(pins:List (Addr×Obj))(s:Shared)(σ:St)(H:Hp)(Q:Bool->Hp->Prop),Inv X pins σ H s->t σ H Q->wpAny (model X.prog X.w) X.A (isTrue e X.env (eval e X.env)) (TP X pins σ Q) X.xe s
def PW(X:Cx)(e:Expr)(t:TT):Prop:=
 ∀(whole:Sem Value)(pins:List (Addr×Obj))(s:Shared)(σ:St)(H:Hp)(Q:Bool->Hp->Prop),Inv X pins σ H s->t σ H Q->wpAny (model X.prog X.w) X.A (isTrue e X.env whole) (TP X pins σ Q) X.xe s
theorem PW.pt{X:Cx}{e:Expr}{t:TT}(h:PW X e t):PT X e t:=h _
def PA(X:Cx)(es:List Expr)(t:TA):Prop:=
 ∀(pos:Pos)(pins:List (Addr×Obj))(s:Shared)(σ:St)(H:Hp)(Q:List V->Hp->Prop),Inv X pins σ H s->t σ H Q->wpAny (model X.prog X.w) X.A (spliced (backTo pos (starEach es X.env))) (AP X pins σ Q) X.xe s
def PS(X:Cx)(st:Stmt)(t:TS):Prop:=
 ∀(pins:List (Addr×Obj))(s:Shared)(σ:St)(H:Hp)(D:Ends),Inv X pins σ H s->t D σ H->wpAny (model X.prog X.w) X.A (exec st X.env) (SP X pins D) X.xe s
def PSs(X:Cx)(st:List Stmt)(t:TS):Prop:=
 ∀(pins:List (Addr×Obj))(s:Shared)(σ:St)(H:Hp)(D:Ends),Inv X pins σ H s->t D σ H->wpAny (model X.prog X.w) X.A (execs st X.env) (SP X pins D) X.xe s
theorem thn{α:Type}{t:Sem α}{Q Q':α->Shared->Prop}{M:Model}{A:Around}{E:Value->Shared->Prop}{s:Shared}(h:wpAny M A t Q E s)(hQ: ∀a s,Q a s->Q' a s):wpAny M A t Q' E s:=wpAny_mono h hQ λ_ _ x=>x
section
variable{X:Cx}
def tVar(i:Nat):TE:=λσ H Q=> ∃v,σ[i]? =some (some v)/\Q v H
def tC(v:V):TE:=λ_ H Q=>Q v H
theorem yPK{i:Nat}{x:Str}{pos:Pos}(hN:X.N[i]? =some x)(hv:Vis X.env.scope x)(hd:(x==("__debug__":Str))=false:=by decide)(hcd:(x==("__classdict__":Str))=false:=by decide):PE X (.Name x pos) (tVar i):=by
 intro pins s σ H Q I h
 obtain⟨v,e,h⟩:=h
 obtain⟨m,hn,hl⟩:=I.loc
 obtain⟨u,r,l⟩:=hl i x v hN e hv
 have fin:EP X pins σ Q u s:=⟨v,H,I,r,h⟩
 rcases l with⟨hk,hm⟩|⟨hk,c,hc,hcell⟩
 ·exact wpAny_Name (wpAny_loadName_local I.ok.kind hk hn hm fin) hd
 ·rcases hk with hk|hk
  ·exact wpAny_Name (wpAny_loadName_cell I.ok.kind hk hc hcell fin) hd
  ·exact wpAny_Name (wpAny_loadName_free I.ok.kind hk hc hcell fin hcd) hd
theorem yGN{i j pos}:PE X (.Constant (.int i) j pos) (tC (.int i)):=λ_ _ _ H _ I h=>wpAny_Constant_int ⟨.int i,H,I.tok _,⟨_,rfl⟩,h⟩
theorem pe_bl{b j pos}:PE X (.Constant (.bool b) j pos) (tC (.bl b)):=λ_ _ _ H _ I h=>Constant_bool ⟨.bl b,H,I,rfl,h⟩
theorem yPL{j pos}:PE X (.Constant .none j pos) (tC .non):=λ_ _ _ H _ I h=>Constant_none ⟨.non,H,I,rfl,h⟩
theorem yPM{x j pos}:PE X (.Constant (.str x) j pos) (tC (.str x)):=λ_ _ _ H _ I h=>Calls.Constant_str ⟨.str x,H,I.tok _,⟨_,rfl⟩,h⟩
def Gl(X:Cx)(x:Str):Prop:=X.env.kindOf x=some .globalImplicit
theorem yCG{E:Value->Shared->Prop}{pins:List (Addr×Obj)}{s:Shared}{σ:St}{H:Hp}{x:Str}{u:Value}{pos:Pos}{Q:Value->Shared->Prop}(I:Inv X pins σ H s)(hg:Gl X x)(hm:X.mg x=some u)(h:Q u s)
  (hd:(x==("__debug__":Str))=false:=by decide):wpAny (model X.prog X.w) X.A (eval (.Name x pos) X.env) Q E s:=
 Calls.Name_function_global I.ok.kind hg (Calls.loadGlobal_global (by rw [I.ok.glob];exact I.mod.glob.keeps I.bk) hm h) hd
theorem zMB{E:Value->Shared->Prop}{pins:List (Addr×Obj)}{s:Shared}{σ:St}{H:Hp}{x:Str}{u:Value}{pos:Pos}{Q:Value->Shared->Prop}(I:Inv X pins σ H s)(hg:Gl X x)(hm:X.mg x=none)(hv:bootBuiltins x=some u)(h:Q u s)
  (hn:x≠"__name__":=by decide) (hd:(x==("__debug__":Str))=false:=by decide):wpAny (model X.prog X.w) X.A (eval (.Name x pos) X.env) Q E s:=by
 obtain⟨mb,h1,h2⟩:=I.mod.blt
 exact Calls.Name_function_global I.ok.kind hg (Calls.loadGlobal_builtin (by rw [I.ok.glob];exact I.mod.glob.keeps I.bk) hm (by rw [I.ok.blt];exact h1.keeps I.bk) ((h2 x hn).trans hv) h) hd
theorem yKN{x:Str}{v:V}{u:Value}{pos:Pos}(hg:Gl X x)(hm:X.mg x=none)(hv:bootBuiltins x=some u)(r:RelV v u)(hn:x≠"__name__":=by decide)(hd:(x==("__debug__":Str))=false:=by decide):PE X (.Name x pos) (tC v):=
 λ_ _ _ H _ I h=>zMB I hg hm hv ⟨v,H,I,r,h⟩ hn hd
variable{a b:Expr}{ta tb:TE}{pos:Pos}
variable{tA tB':TT}{rest:List Expr}
def tAnd(t u:TT):TT:=λσ H Q=>t σ H λc H1=>if c=true then u σ H1 Q else Q false H1
def tOr(t u:TT):TT:=λσ H Q=>t σ H λc H1=>if c=true then Q true H1 else u σ H1 Q
def tNot(t:TT):TT:=λσ H Q=>t σ H λc H1=>Q (!c) H1
theorem yKO(ha:PT X a tA):PW X (.BoolOp .And [a] pos) tA:=by
 intro wh pins s σ H Q I h
 refine isTrue_and (thn (ha pins s σ H Q I h) λc s1 e=>?_)
 cases c with
 |true=>exact isTrue_and_nil e
 |false=>exact e
theorem yPN(ha:PT X a tA):PW X (.BoolOp .Or [a] pos) tA:=by
 intro wh pins s σ H Q I h
 refine isTrue_or (thn (ha pins s σ H Q I h) λc s1 e=>?_)
 cases c with
 |false=>exact isTrue_or_nil e
 |true=>exact e
theorem yPO(ha:PT X a tA)(hb:PW X (.BoolOp .And (b::rest) pos) tB'):PW X (.BoolOp .And (a::b::rest) pos) (tAnd tA tB'):=by
 intro wh pins s σ H Q I h
 refine isTrue_and (thn (ha pins s σ H _ I h) λc s1 ⟨H1,I1,q1⟩=>?_)
 cases c with
 |true=>exact hb wh pins s1 σ H1 Q I1 q1
 |false=>exact⟨H1,I1,q1⟩
theorem pw_or(ha:PT X a tA)(hb:PW X (.BoolOp .Or (b::rest) pos) tB'):PW X (.BoolOp .Or (a::b::rest) pos) (tOr tA tB'):=by
 intro wh pins s σ H Q I h
 refine isTrue_or (thn (ha pins s σ H _ I h) λc s1 ⟨H1,I1,q1⟩=>?_)
 cases c with
 |true=>exact⟨H1,I1,q1⟩
 |false=>exact hb wh pins s1 σ H1 Q I1 q1
theorem yPP(ha:PT X a tA):PT X (.UnaryOp .Not a pos) (tNot tA):=by
 intro pins s σ H Q I h
 exact isTrue_not (ha pins s σ H (λc H1=>Q (!c) H1) I h)
def tAndV(ta tb:TE):TE:=λσ H Q=>ta σ H λx H1=> ∃c,x=.bl c/\if c=true then tb σ H1 Q else Q (.bl false) H1
def tNotV(ta:TE):TE:=λσ H Q=>ta σ H λx H1=> ∃c,x=.bl c/\Q (.bl (!c)) H1
theorem yPQ{op}{t:TE}(h:PE X a t):PE X (.BoolOp op [a] pos) t:=λpins s σ H Q I hw=>BoolOp_one (h pins s σ H Q I hw)
theorem yPR(ha:PE X a ta)(hb:PE X (.BoolOp .And (b::rest) pos) tb):PE X (.BoolOp .And (a::b::rest) pos) (tAndV ta tb):=by
 intro pins s σ H Q I h
 refine BoolOp_and (thn (ha pins s σ H _ I h) λv s1 ⟨x,H1,I1,r1,q1⟩=>?_)
 obtain⟨c,rfl,q1⟩:=q1
 cases r1
 refine wpAny_truthy_bool ?_
 cases c with
 |true=>exact hb pins s1 σ H1 Q I1 q1
 |false=>exact⟨.bl false,H1,I1,rfl,q1⟩
theorem yPS(ha:PE X a ta):PE X (.UnaryOp .Not a pos) (tNotV ta):=by
 intro pins s σ H Q I h
 refine UnaryOp_ (thn (ha pins s σ H _ I h) λv s1 ⟨x,H1,I1,r1,q1⟩=>?_)
 obtain⟨c,rfl,q1⟩:=q1
 cases r1
 exact not_of (wpAny_truthy_bool ⟨.bl (!c),H1,I1,rfl,q1⟩)
end
def SqL(K:PySem.W.Frag)(H:Hp)(a:Addr)(xs:List V):Prop:=
 Rd H a (.lst xs)\/
  ∃(o:Obj)(its:Array Value)(n:Nat),K.lookup a=some o/\o.cls=.type "list"/\o.dict=none/\o.data=.seq its n/\its.size<=sizeLine/\Vals xs its.toList
def SqT(K:PySem.W.Frag)(H:Hp)(a:Addr)(xs:List V):Prop:=
 Rd H a (.tup xs)\/
  ∃(o:Obj)(its:Array Value)(n:Nat),K.lookup a=some o/\o.cls=.type "tuple"/\o.data=.seq its n/\its.size<=sizeLine/\Vals xs its.toList
def absV:Value->Option V
 |.none=>some .non
 |.bool b=>some (.bl b)
 |.int i _=>some (.int i)
 |.str x _=>some (.str x)
 |.bytes b _=>some (.byt b)
 |.float b _=>some (.flt b)
 |.ref a=>some (.ref a)
 |.type n=>some (.ty n)
 |_=>none
theorem RelV.abs{x:V}{u:Value}(r:RelV x u):absV u=some x:=by
 cases x with
 |non=>cases r;rfl
 |bl _=>cases r;rfl
 |int _=>obtain⟨t,rfl⟩:=r;rfl
 |str _=>obtain⟨t,rfl⟩:=r;rfl
 |byt _=>obtain⟨t,rfl⟩:=r;rfl
 |flt _=>obtain⟨t,rfl⟩:=r;rfl
 |ref _=>cases r;rfl
 |ty _=>cases r;rfl
theorem RelV.inj{x y:V}{u:Value}(r:RelV x u)(q:RelV y u):x=y:=Option.some.inj (r.abs.symm.trans q.abs)
theorem Vals.inj: ∀{xs ys:List V}{us:List Value},Vals xs us->Vals ys us->xs=ys
 |_,_,_,.nil,.nil=>rfl
 |_,_,_,.cons r t,.cons r' t'=>by rw [r.inj r',Vals.inj t t']
section
variable{X:Cx}{pins:List (Addr×Obj)}{σ:St}{H:Hp}{s:Shared}{a:Addr}{xs ys:List V}
theorem SqL.of{K:PySem.W.Frag}(h:H a=some (.lst xs)):SqL K H a xs:=.inl (.inl h)
theorem SqT.of{K:PySem.W.Frag}(h:H a=some (.tup xs)):SqT K H a xs:=.inl (.inl h)
theorem Inv.list(I:Inv X pins σ H s)(h:SqL X.K H a xs): ∃its:List Value,Vals xs its/\PlainL s.heap a its.toArray/\xs.length<=sizeLine:=by
 rcases h with h|⟨o,its,n,hk,hc,hd,hs,hz,r⟩
 ·obtain⟨z,its,n,r,e⟩:=h.ok I.hok
  exact⟨its,r,⟨_,n,e,rfl,rfl,rfl⟩,z⟩
 ·refine⟨its.toList,r,⟨o,n,I.kIn a o hk,hc,hd,by simpa using hs⟩,?_⟩
  have e:=r.length
  simp only [Array.length_toList]at e
  omega
theorem Inv.tuple(I:Inv X pins σ H s)(h:SqT X.K H a xs): ∃its:List Value,Vals xs its/\IsTup s.heap a its.toArray/\xs.length<=sizeLine:=by
 rcases h with h|⟨o,its,n,hk,hc,hs,hz,r⟩
 ·obtain⟨z,its,r,p⟩:=h.ok I.hok
  exact⟨its,r,p,z⟩
 ·refine⟨its.toList,r,⟨o,I.kIn a o hk,hc,n,by simpa using hs⟩,?_⟩
  have e:=r.length
  simp only [Array.length_toList]at e
  omega
theorem Inv.list_inj(I:Inv X pins σ H s)(h:SqL X.K H a xs)(h':SqL X.K H a ys):xs=ys:=by
 obtain⟨its,r,⟨o,n,e,_,_,d⟩,_⟩:=I.list h
 obtain⟨its',r',⟨o',n',e',_,_,d'⟩,_⟩:=I.list h'
 rw [e]at e';cases e'
 rw [d]at d'
 injection d' with d1 _
 have:its=its':=by simpa using congrArg Array.toList d1
 subst this
 exact r.inj r'
theorem Inv.tuple_inj(I:Inv X pins σ H s)(h:SqT X.K H a xs)(h':SqT X.K H a ys):xs=ys:=by
 obtain⟨its,r,⟨o,e,_,n,d⟩,_⟩:=I.tuple h
 obtain⟨its',r',⟨o',e',_,n',d'⟩,_⟩:=I.tuple h'
 rw [e]at e';cases e'
 rw [d]at d'
 injection d' with d1 _
 have:its=its':=by simpa using congrArg Array.toList d1
 subst this
 exact r.inj r'
end
abbrev Cx.wish(X:Cx)(E:Value->Shared->Prop):Cx:={X with xe:=E}
abbrev Cx.nox(X:Cx):Cx:=X.wish λ_ _=>False
theorem Cx.Ok.wish{X:Cx}(ok:X.Ok)(E:Value->Shared->Prop):(X.wish E).Ok:=
 ⟨ok.mod,ok.kind,ok.glob,ok.blt,ok.above,ok.inj,ok.has,ok.cab,ok.hd,ok.frames,ok.stk,ok.exf,ok.bs,ok.bsz,ok.noex,ok.exfs,ok.funs,ok.frf⟩
theorem Cx.Ok.unwish{X:Cx}{E:Value->Shared->Prop}(ok:(X.wish E).Ok):X.Ok:=
 ⟨ok.mod,ok.kind,ok.glob,ok.blt,ok.above,ok.inj,ok.has,ok.cab,ok.hd,ok.frames,ok.stk,ok.exf,ok.bs,ok.bsz,ok.noex,ok.exfs,ok.funs,ok.frf⟩
section
variable{X:Cx}{pins:List (Addr×Obj)}{σ:St}{H:Hp}{s:Shared}{E:Value->Shared->Prop}
theorem Inv.wish(I:Inv X pins σ H s)(E:Value->Shared->Prop):Inv (X.wish E) pins σ H s:=⟨I.ok.wish E,I.os,I.bare,I.base,I.loc,I.cell,I.free,I.freeC,I.pin,I.hok,I.len⟩
theorem Inv.unwish(I:Inv (X.wish E) pins σ H s):Inv X pins σ H s:=⟨I.ok.unwish,I.os,I.bare,I.base,I.loc,I.cell,I.free,I.freeC,I.pin,I.hok,I.len⟩
theorem SP.unwish{D:Ends}{f:Flow}{s':Shared}(h:SP (X.wish E) pins D f s'):SP X pins D f s':=by
 cases f with
 |next=>obtain⟨σ',H',I,q⟩:=h;exact⟨σ',H',I.unwish,q⟩
 |brk=>obtain⟨σ',H',I,q⟩:=h;exact⟨σ',H',I.unwish,q⟩
 |cont=>obtain⟨σ',H',I,q⟩:=h;exact⟨σ',H',I.unwish,q⟩
 |ret u=>obtain⟨v,σ',H',I,r,q⟩:=h;exact⟨v,σ',H',I.unwish,r,q⟩
theorem PSs.nox{st:List Stmt}{t:TS}(h:PSs X.nox st t):PSs X st t:=λpins s σ H D I hw=>
 wpAny_mono (h pins s σ H D (I.wish _) hw) (λ_ _ q=>q.unwish) λ_ _ z=>False.elim z
end
section
variable{X:Cx}{st:Stmt}{rest:List Stmt}{t u:TS}{e:Expr}{te:TE}{pos:Pos}
def yOO:TS:=λD σ H=>D.nx σ H
def tSeq(t u:TS):TS:=λD σ H=>t {D with nx:=u D} σ H
theorem yKP:PSs X [] yOO:=λ_ _ σ H _ I h=>wpAny_execs_nil ⟨σ,H,I,h⟩
theorem yGO(h1:PS X st t)(h2:PSs X rest u):PSs X (st::rest) (tSeq t u):=by
 intro pins s σ H D I h
 refine wpAny_execs_cons (thn (h1 pins s σ H {D with nx:=u D} I h) λf s1 q=>?_)
 cases f with
 |next=>
  obtain⟨σ',H',I',q⟩:=q
  exact h2 pins s1 σ' H' D I' q
 |ret v=>exact q
 |brk=>exact q
 |cont=>exact q
theorem yCH(h1:PS X st t):PSs X [st] t:=by
 intro pins s σ H D I h
 refine wpAny_execs_cons (thn (h1 pins s σ H D I h) λf s1 q=>?_)
 cases f with
 |next=>exact wpAny_execs_nil q
 |ret v=>exact q
 |brk=>exact q
 |cont=>exact q
theorem yKQ:PS X (.Pass pos) yOO:=λ_ _ σ H _ I h=>wpAny_Pass ⟨σ,H,I,h⟩
theorem Inv.quiet{pins:List (Addr×Obj)}{σ:St}{H:Hp}{s:Shared}(I:Inv X pins σ H s):interactive X.env=false:=by simp [interactive,I.ok.kind]
def tDrop(te:TE):TS:=λD σ H=>te σ H λ_ H1=>D.nx σ H1
theorem yKR(he:PE X e te)(hs:swapsWith e none pos.line X.env=pure false:=by rfl):PS X (.Expr e pos) (tDrop te):=by
 intro pins s σ H D I h
 exact wpAny_Expr_any (thn (he pins s σ H _ I h) λv s1 ⟨x,H1,I1,r1,q1⟩=>⟨σ,H1,I1,q1⟩) I.quiet hs
def tRet(te:TE):TS:=λD σ H=>te σ H D.rt
theorem yPT(he:PE X e te):PS X (.Return (some e) pos) (tRet te):=by
 intro pins s σ H D I h
 exact wpAny_Return_some (thn (he pins s σ H _ I h) λv s1 ⟨x,H1,I1,r1,q1⟩=>⟨x,σ,H1,I1,r1,q1⟩)
def tIfS(c:TT)(t u:TS):TS:=λD σ H=>c σ H λb H1=>if b=true then t D σ H1 else u D σ H1
theorem ps_if{c:Expr}{a b:List Stmt}{tc:TT}(hc:PT X c tc)(ha:PSs X a t)(hb:PSs X b u):PS X (.If c a b pos) (tIfS tc t u):=by
 intro pins s σ H D I h
 refine wpAny_If (thn (hc pins s σ H _ I h) λd s1 ⟨H1,I1,q1⟩=>?_)
 cases d with
 |true=>exact ha pins s1 σ H1 D I1 q1
 |false=>exact hb pins s1 σ H1 D I1 q1
end
abbrev TG:=V->St->Hp->(St->Hp->Prop)->Prop
abbrev TGs:=List V->St->Hp->(St->Hp->Prop)->Prop
def PG(X:Cx)(target:Expr)(t:TG):Prop:=
 ∀(pins:List (Addr×Obj))(s:Shared)(σ:St)(H:Hp)(v:V)(u:Value)(Q:St->Hp->Prop),Inv X pins σ H s->RelV v u->t v σ H Q->
  wpAny (model X.prog X.w) X.A (assign target X.env u) (λ_ s'=> ∃σ' H',Inv X pins σ' H' s'/\Q σ' H') X.xe s
def PGs(X:Cx)(ts:List Expr)(t:TGs):Prop:=
 ∀(pins:List (Addr×Obj))(s:Shared)(σ:St)(H:Hp)(vs:List V)(us:List Value)(Q:St->Hp->Prop),Inv X pins σ H s->Vals vs us->t vs σ H Q->
  wpAny (model X.prog X.w) X.A (assignInOrder ((assignEach ts X.env).map (·.2)) us) (λ_ s'=> ∃σ' H',Inv X pins σ' H' s'/\Q σ' H') X.xe s
abbrev TSet:=V->V->V->Hp->(Hp->Prop)->Prop
def PSet(X:Cx)(t:TSet):Prop:=
 ∀(pins:List (Addr×Obj))(s:Shared)(σ:St)(H:Hp)(o i v:V)(ov iv u:Value)(Q:Hp->Prop),Inv X pins σ H s->RelV o ov->RelV i iv->RelV v u->t o i v H Q->
  wpAny (model X.prog X.w) X.A (setItem ov iv u) (λ_ s'=> ∃H',Inv X pins σ H' s'/\Q H') X.xe s
section
variable{X:Cx}{pos:Pos}
def yGP(i:Nat):TG:=λv σ H Q=>Q (σ.set i (some v)) H
theorem yCI{i:Nat}{x:Str}(hN:X.N.Nodup)(hi:X.N[i]? =some x)(hx:Loc X.env.scope x)(hf:X.fn x=true\/X.env.scope.names.lookup x=some .local:=by first |exact .inl rfl|exact .inr rfl|assumption):PG X (.Name x pos) (yGP i):=by
 intro pins s σ H v u Q I r h
 exact wpAny_assign_Name (zXD I hN hi hx r (λs' I'=>⟨_,H,I',h⟩) hf)
def gNil:TGs:=λvs σ H Q=>vs=[]/\Q σ H
def gCons(t:TG)(u:TGs):TGs:=λvs σ H Q=> ∃v r,vs=v::r/\t v σ H λσ' H'=>u r σ' H' Q
theorem yCJ:PGs X [] gNil:=by
 intro pins s σ H vs us Q I r h
 obtain⟨e,h⟩:=h
 subst e
 cases r
 exact assignInOrder_nil ⟨σ,H,I,h⟩
theorem zXE{e:Expr}{es:List Expr}{t:TG}{u:TGs}(h1:PG X e t)(h2:PGs X es u)
  (hs:(assignEach (e::es) X.env).map (·.2)=assign e X.env::(assignEach es X.env).map (·.2):=by rfl):PGs X (e::es) (gCons t u):=by
 intro pins s σ H vs us Q I r h
 obtain⟨v,vr,e1,h⟩:=h
 subst e1
 cases r with
 |cons r rr=>
  rw [hs]
  refine assignInOrder_cons (thn (h1 pins s σ H _ _ _ I r h) λ_ s1 ⟨σ1,H1,I1,q1⟩=>?_)
  exact h2 pins s1 σ1 H1 _ _ Q I1 rr q1
def gTup(K:PySem.W.Frag)(n:Nat)(t:TGs):TG:=λv σ H Q=> ∃a xs,v=.ref a/\SqT K H a xs/\xs.length=n/\t xs σ H Q
theorem yGQ{es:List Expr}{k:Nat}{t:TGs}{n:Nat}(hc:X.calm=true)(h:PGs X es t)
  (hn:(assignEach es X.env).length=n:=by rfl) (hst:(assignEach es X.env).findIdx? (·.1)=none:=by rfl):PG X (.Tuple es k pos) (gTup X.K n t):=by
 intro pins s σ H v u Q I r hw
 obtain⟨a,xs,e1,hq,hl,hw⟩:=hw
 subst e1
 cases r
 obtain⟨its,rv,ht,hz⟩:=I.tuple hq
 refine assign_Tuple_tuple (I.ok.hd hc) ht (by simp [hn, <-hl,rv.length]) hst λh' hx=>?_
 have I1:Inv X pins σ H {s with heap:=h'}:=I.kept (t':=s.toks) λb o e=>hx b o (ne_of_lt (Heap.lt_size e)) e
 exact h pins _ σ H xs _ Q I1 (by simpa using rv) hw
def gSub(to ti:TE)(t:TSet):TG:=λv σ H Q=>to σ H λo H1=>ti σ H1 λi H2=>t o i v H2 λH3=>Q σ H3
theorem yGR{o i:Expr}{to ti:TE}{t:TSet}(ho:PE X o to)(hi:PE X i ti)(hs:PSet X t)
  (ha: ∀v,assign (.Subscript o i pos) X.env v=(do
   let ov <-holding [v] (eval o X.env)
   let iv <-holding [v,ov] (eval i X.env)
   standAt pos
   holding [v,ov,iv] (setItem ov iv v)
   release [v,ov,iv] []):=by intro _;rfl):PG X (.Subscript o i pos) (gSub to ti t):=by
 intro pins s σ H v u Q I r h
 rw [ha]
 refine wB0 (wpAny_holding (thn (ho pins s σ H _ I h) λov s1 ⟨x,H1,I1,r1,q1⟩=>?_))
 refine wB0 (wpAny_holding (thn (hi pins s1 σ H1 _ I1 q1) λiv s2 ⟨y,H2,I2,r2,q2⟩=>?_))
 refine wB0 (wpAny_standAt (wB0 (wpAny_holding (thn (hs pins s2 σ H2 x y v ov iv u _ I2 r1 r2 r q2) λ_ s3 ⟨H3,I3,q3⟩=>?_))))
 exact wpAny_release ⟨σ,H3,I3,q3⟩
def tAsg(te:TE)(g:TG):TS:=λD σ H=>te σ H λx H1=>g x σ H1 D.nx
theorem yPU{tg e:Expr}{te:TE}{g:TG}(he:PE X e te)(hg:PG X tg g)(hs:swapsWithSole [tg] e pos.line X.env=pure false:=by rfl)(hw:swappedStores [tg] e X.env=pure none:=by rfl)
  (h1:(assignEach [tg] X.env).map (·.2)=[assign tg X.env]:=by rfl):PS X (.Assign [tg] e pos) (tAsg te g):=by
 intro pins s σ H D I h
 refine wpAny_Assign_stores (thn (he pins s σ H _ I h) λv s1 ⟨x,H1,I1,r1,q1⟩=>?_) hs hw
 rw [h1]
 exact thn (hg pins s1 σ H1 x v _ I1 r1 q1) λ_ s2 q=>q
theorem yPV{i:Nat}{x:Str}{e:Expr}{te:TE}{pos':Pos}(hN:X.N.Nodup)(hi:X.N[i]? =some x)(hx:Loc X.env.scope x)(he:PE X e te)(hs:swapsWith e (some (.Name x pos')) pos.line X.env=pure false:=by rfl)(hf:X.fn x=true\/X.env.scope.names.lookup x=some .local:=by first |exact .inl rfl|exact .inr rfl|assumption):
  PS X (.Assign [.Name x pos'] e pos) (tAsg te (yGP i)):=by
 intro pins s σ H D I h
 refine wpAny_Assign_Name (thn (he pins s σ H _ I h) λv s1 ⟨y,H1,I1,r1,q1⟩=>?_) hs
 exact zXD I1 hN hi hx r1 (λs2 I2=>⟨_,H1,I2,q1⟩) hf
end
section
variable{X:Cx}{pos:Pos}
def yPW(c:TT)(tb:TS):TS:=λD σ H=> ∃W:Nat->St->Hp->Prop,(∃m,W m σ H)/\ ∀m σ H,W m σ H->
 c σ H λb H1=>if b=true then∃N:St->Hp->Prop,(∀σ' H',N σ' H'-> ∃m',m'<m/\W m' σ' H')/\tb {D with nx:=N,ct:=N,bk:=D.nx} σ H1 else D.nx σ H1
theorem yGS{c:Expr}{body:List Stmt}{tc:TT}{tb:TS}(hp:PassesOwn (model X.prog X.w) X.A X.env X.xe)(hc:PT X c tc)(hb:PSs X body tb):PS X (.While c body [] pos) (yPW tc tb):=by
 intro pins s σ H D I h
 obtain⟨W,⟨m0,w0⟩,turn⟩:=h
 refine wpAny_While (codeAny_whileLoop (λn s'=> ∃σ' H',Inv X pins σ' H' s'/\W n σ' H') ?_ m0 ⟨σ,H,I,w0⟩)
 rintro n s1 ⟨σ1,H1,I1,w1⟩
 refine wpAny_passesOwn hp (thn (hc pins s1 σ1 H1 _ I1 (turn n σ1 H1 w1)) λb s2 ⟨H2,I2,q2⟩=>?_)
 cases b with
 |true=>
  obtain⟨N,hN,q2⟩:=q2
  rw [iP rfl]
  refine wpAny_passesOwn hp (thn (hb pins s2 σ1 H2 _ I2 q2) λf s3 q3=>?_)
  cases f with
  |next=>
   obtain⟨σ3,H3,I3,n3⟩:=q3
   obtain⟨m',hm,w3⟩:=hN σ3 H3 n3
   exact⟨m',hm,σ3,H3,I3,w3⟩
  |cont=>
   obtain⟨σ3,H3,I3,n3⟩:=q3
   obtain⟨m',hm,w3⟩:=hN σ3 H3 n3
   exact⟨m',hm,σ3,H3,I3,w3⟩
  |brk=>exact q3
  |ret v=>exact q3
 |false=>
  rw [iN xF0]
  exact wpAny_execs_nil ⟨σ1,H2,I2,q2⟩
end
structure It where
 go:Nat->Hp->Prop
 yld:Nat->Hp->V->Hp->Prop
 stop:Nat->Hp->Prop
def zOF(X:Cx)(pins:List (Addr×Obj))(H:Hp)(b:Addr):Prop:=
 H b=none/\b≠X.env.locals/\b∉X.fs/\(b∈X.ex\/X.s₀.heap.objs.size<=b)/\(∀x c,X.env.cells.lookup x=some c->c≠b)/\ ∀p∈X.pn++pins,p.1≠b
theorem Inv.fpOk{X:Cx}{pins:List (Addr×Obj)}{σ:St}{H H':Hp}{s:Shared}{b:Addr}(I:Inv X pins σ H s)(hb:s.heap.objs.size<=b)(hn:H' b=none):zOF X pins H' b:=by
 refine⟨hn,ne_of_gt (lt_of_lt_of_le I.lt hb),I.nofs hb,.inr (le_trans I.sz hb),λx c e z=>?_,λp hp z=>?_⟩
 ·obtain⟨v,q⟩:=I.cell x c e
  exact absurd (lt_of_lt_of_le q.lt (by rw [z];exact hb)) (lt_irrefl _)
 ·exact absurd (lt_of_lt_of_le (Heap.lt_size (I.pin p hp).1) (by rw [z];exact hb)) (lt_irrefl _)
structure Turn(P:Program)(w:World)(K:PySem.W.Frag)(tg:Expr)(J:It)(fp:List Addr)(it:Addr)(tn:Nat->Heap->Prop):Prop where
 mem:it∈fp
 obj: ∀i h,tn i h-> ∀b∈fp, ∃o,h.get? b=some o/\ ∀v,o.data≠.cell v
 keep: ∀i h h',tn i h->(∀b∈fp, ∀o,h.get? b=some o->h'.get? b=some o)->tn i h'
 item: ∀(X:Cx),X.prog=P->X.w=w->X.K=K->X.calm=true-> ∀(i:Nat)(pins:List (Addr×Obj))(s:Shared)(σ:St)(H:Hp)(E:Value->Shared->Prop),Inv X pins σ H s->(∀b∈fp,zOF X pins H b)->tn i s.heap->J.go i H->
  wpAny (model P w) X.A (pyNext (.ref it)) (λr s1=> ∃u,r=some u/\
   wpAny (model P w) X.A (letOwnedTupleGo tg (.ref it) u) (λ_ s2=> ∃x H',Inv X pins σ H' s2/\RelV x u/\J.yld i H x H'/\tn (i+1) s2.heap/\ ∀b∈fp,H' b=none) E s1) E s
 done: ∀(X:Cx),X.prog=P->X.w=w->X.K=K->X.calm=true-> ∀(i:Nat)(pins:List (Addr×Obj))(s:Shared)(σ:St)(H:Hp)(E:Value->Shared->Prop),Inv X pins σ H s->(∀b∈fp,zOF X pins H b)->tn i s.heap->J.stop i H->
  wpAny (model P w) X.A (pyNext (.ref it)) (λr s1=>r=none/\Inv X pins σ H s1) E s
 self: ∀(A:Around)(i:Nat)(s:Shared)(Q:Value->Shared->Prop)(E:Value->Shared->Prop),tn i s.heap->Q (.ref it) s->wpAny (model P w) A (pyIter (.ref it)) Q E s
abbrev TI:=St->Hp->(It->Hp->Prop)->Prop
def PIE(X:Cx)(pins:List (Addr×Obj))(σ:St)(tg:Expr)(R:It->Hp->Prop)(itv:Value)(s2:Shared):Prop:=
 ∃(it:Addr)(fp:List Addr)(tn:Nat->Heap->Prop)(J:It)(H':Hp),itv=.ref it/\Inv X pins σ H' s2/\Turn X.prog X.w X.K tg J fp it tn/\tn 0 s2.heap/\(∀b∈fp,zOF X pins H' b)/\R J H'
def PI(X:Cx)(tg iter:Expr)(wi:TI):Prop:=
 ∀(pins:List (Addr×Obj))(s:Shared)(σ:St)(H:Hp)(R:It->Hp->Prop),Inv X pins σ H s->wi σ H R->
  wpAny (model X.prog X.w) X.A (eval iter X.env) (λv s1=>wpAny (model X.prog X.w) X.A (pyIter v) (PIE X pins σ tg R) X.xe s1) X.xe s
theorem yGT{M:Model}{A:Around}{E:Value->Shared->Prop}{s:Shared}{tg:Expr}{it:Addr}{u:Value}{o:Obj}{n:String}{vs:Array Value}{Q:Unit->Shared->Prop}(ho:s.heap.get? it=some o)(hc:o.cls=.type n)(hd:o.data=.fields vs)
  (hn:["enumerate","zip","dict_itemiterator","dict_reverseitemiterator","odict_iterator","itertools.zip_longest","itertools.pairwise"].contains n=false) (hQ:Q () s):wpAny M A (letOwnedTupleGo tg (.ref it) u) Q E s:=by
 unfold letOwnedTupleGo
 cases tg<;>first
  |exact wP0 hQ
  |(cases u<;>first
    |exact wP0 hQ
    |(refine wB0 (wpAny_load ho ?_)
      rw [hc,hd]
      show wpAny M A (if(["enumerate","zip","dict_itemiterator","dict_reverseitemiterator","odict_iterator","itertools.zip_longest","itertools.pairwise"].contains n&&vs[0]? ==some (rawInt _))=true then _ else _) Q E s
      rw [iN (by intro h;rw [hn,Bool.false_and]at h;cases h)]
      exact wP0 hQ))
def Itl(K:PySem.W.Frag)(a:Addr):It:=
 ⟨λi H=> ∃xs x,SqL K H a xs/\xs[i]? =some x,λi H x H'=>H'=H/\ ∀xs,SqL K H a xs->xs[i]? =some x,λi H=> ∃xs,SqL K H a xs/\xs.length<=i⟩
def Itt(K:PySem.W.Frag)(a:Addr):It:=
 ⟨λi H=> ∃xs x,SqT K H a xs/\xs[i]? =some x,λi H x H'=>H'=H/\ ∀xs,SqT K H a xs->xs[i]? =some x,λi H=> ∃xs,SqT K H a xs/\xs.length<=i⟩
def Itr(lo:Int)(n:Nat):It:=⟨λi _=>i<n,λi H x H'=>H'=H/\x=.int (lo+i),λi _=>n<=i⟩
theorem zTD{P:Program}{w:World}{K:PySem.W.Frag}{tg:Expr}(a it:Addr):Turn P w K tg (Itl K a) [it] it (λi h=>h.IsListIter it a i) where
 mem:=by simp
 obj:=λi h st b hb=>by
  have e:b=it:=by simpa using hb
  subst e
  obtain⟨o,e,c,d⟩:=st
  exact⟨o,e,λv z=>by rw [d]at z;cases z⟩
 keep:=λi h h' st k=>st.at λo e=>k it (by simp) o e
 item:=by
  intro X hP hw hK hc i pins s σ H E I hf st hg
  subst hP hw hK
  obtain⟨xs,x,hq,hx⟩:=hg
  obtain⟨its,rv,p,hz⟩:=I.list hq
  obtain⟨u,hu,ru⟩:=rv.get hx
  obtain⟨f0,f1,f2,f3,f4,f5⟩:=hf it (by simp)
  refine wpAny_pyNext_list_item st p.isList (x:=u) (by simpa using hu) λh' st' sb=>?_
  have I1:Inv X pins σ H {s with heap:=h'}:=I.turned (t':=s.toks) (λb o hb e=>(sb.2 b hb).trans e) f0 f1 f3 f4 f5
  obtain⟨o,e,c,d⟩:=id st'
  exact⟨u,rfl,yGT (s:={s with heap:=h'}) e c d (by decide) ⟨x,H,I1,ru,⟨rfl,λys hy=>by rw [I.list_inj hy hq];exact hx⟩,st',λb hb=>(hf b hb).1⟩⟩
 done:=by
  intro X hP hw hK hc i pins s σ H E I hf st hg
  subst hP hw hK
  obtain⟨xs,hq,hx⟩:=hg
  obtain⟨its,rv,p,hz⟩:=I.list hq
  obtain⟨f0,f1,f2,f3,f4,f5⟩:=hf it (by simp)
  have hl:=rv.length
  exact wpAny_pyNext_list_end (I.ok.hd hc) st p.isList (by simp;omega) λh' eb=>⟨rfl,I.turned (t':=s.toks) (λb o hb e=>eb b o hb e) f0 f1 f3 f4 f5⟩
 self:=λ_ _ _ _ _ st h=>wpAny_pyIter_listiter st h
theorem zPK{P:Program}{w:World}{K:PySem.W.Frag}{tg:Expr}(a it:Addr):Turn P w K tg (Itt K a) [it] it (λi h=>h.IsTupleIter it a i) where
 mem:=by simp
 obj:=λi h st b hb=>by
  have e:b=it:=by simpa using hb
  subst e
  obtain⟨o,e,c,d⟩:=st
  exact⟨o,e,λv z=>by rw [d]at z;cases z⟩
 keep:=λi h h' st k=>st.at λo e=>k it (by simp) o e
 item:=by
  intro X hP hw hK hc i pins s σ H E I hf st hg
  subst hP hw hK
  obtain⟨xs,x,hq,hx⟩:=hg
  obtain⟨its,rv,p,hz⟩:=I.tuple hq
  obtain⟨u,hu,ru⟩:=rv.get hx
  obtain⟨f0,f1,f2,f3,f4,f5⟩:=hf it (by simp)
  refine wpAny_pyNext_tuple_item st (show s.heap.IsTuple a its.toArray from p) (x:=u) (by simpa using hu) λh' st' sb=>?_
  have I1:Inv X pins σ H {s with heap:=h'}:=I.turned (t':=s.toks) (λb o hb e=>(sb.2 b hb).trans e) f0 f1 f3 f4 f5
  obtain⟨o,e,c,d⟩:=id st'
  exact⟨u,rfl,yGT (s:={s with heap:=h'}) e c d (by decide) ⟨x,H,I1,ru,⟨rfl,λys hy=>by rw [I.tuple_inj hy hq];exact hx⟩,st',λb hb=>(hf b hb).1⟩⟩
 done:=by
  intro X hP hw hK hc i pins s σ H E I hf st hg
  subst hP hw hK
  obtain⟨xs,hq,hx⟩:=hg
  obtain⟨its,rv,p,hz⟩:=I.tuple hq
  obtain⟨f0,f1,f2,f3,f4,f5⟩:=hf it (by simp)
  have hl:=rv.length
  exact wpAny_pyNext_tuple_end (I.ok.hd hc) st (show s.heap.IsTuple a its.toArray from p) (by simp;omega) λh' eb=>⟨rfl,I.turned (t':=s.toks) (λb o hb e=>eb b o hb e) f0 f1 f3 f4 f5⟩
 self:=λ_ _ _ _ _ st h=>wpAny_pyIter_tupleiter st h
theorem yAF{P:Program}{w:World}{K:PySem.W.Frag}{tg:Expr}(it:Addr)(lo:Int)(n:Nat):Turn P w K tg (Itr lo n) [it] it (λi h=>IsRangeIter h it (lo+(i:Nat) * 1) ((n:Int) - (i:Nat)) 1) where
 mem:=by simp
 obj:=λi h st b hb=>by
  have e:b=it:=by simpa using hb
  subst e
  exact⟨_,st,λv z=>by
   have z':Data.fields _=Data.cell v:=z
   cases z'⟩
 keep:=λi h h' st k=>k it (by simp) _ st
 item:=by
  intro X hP hw hK hc i pins s σ H E I hf st hg
  subst hP hw hK
  obtain⟨f0,f1,f2,f3,f4,f5⟩:=hf it (by simp)
  have W:=Walks.range (prog:=X.prog) (w:=X.w) (I.ok.hd hc) it lo 1 n
  refine W.item i s _ _ hg st λv h' tk hv st' kk=>?_
  obtain⟨t,rfl⟩:=hv
  have I1:Inv X pins σ H {s with heap:=h',toks:=tk}:=I.turned (λb o hb e=>kk b o (by simpa using hb) e) f0 f1 f3 f4 f5
  refine⟨_,rfl,yGT (s:={s with heap:=h',toks:=tk}) (n:="range_iterator") st' rfl rfl (by decide) ⟨.int (lo+i),H,I1,⟨t,?_⟩,⟨rfl,rfl⟩,st',λb hb=>(hf b hb).1⟩⟩
  rw [Int.mul_one]
 done:=by
  intro X hP hw hK hc i pins s σ H E I hf st hg
  subst hP hw hK
  obtain⟨f0,f1,f2,f3,f4,f5⟩:=hf it (by simp)
  exact wpAny_pyNext_range_end (I.ok.hd hc) st (by have:n<=i:=hg;omega) λh' eb=>⟨rfl,I.turned (t':=s.toks) (λb o hb e=>eb b o hb e) f0 f1 f3 f4 f5⟩
 self:=λ_ _ _ _ _ st h=>wpAny_pyIter_rangeiter st h
section
variable{X:Cx}{tg:Expr}
def iList(K:PySem.W.Frag)(tl:TE):TI:=λσ H R=>tl σ H λx H1=> ∃a,x=.ref a/\(∃xs,SqL K H1 a xs)/\R (Itl K a) H1
def iTup(K:PySem.W.Frag)(tl:TE):TI:=λσ H R=>tl σ H λx H1=> ∃a,x=.ref a/\(∃xs,SqT K H1 a xs)/\R (Itt K a) H1
theorem yKS{l:Expr}{tl:TE}(hl:PE X l tl):PI X tg l (iList X.K tl):=by
 intro pins s σ H R I h
 refine thn (hl pins s σ H _ I h) λv s1 ⟨x,H1,I1,r1,q1⟩=>?_
 obtain⟨a,e,⟨xs,hq⟩,q⟩:=q1
 subst e
 cases r1
 obtain⟨its,rv,p,hz⟩:=I1.list hq
 refine wpAny_pyIter_list p.isList ?_
 refine⟨s1.heap.objs.size,[s1.heap.objs.size],_,_,H1,rfl,I1.kept (t':=s1.toks) λb o e=>hP0 _ e,zTD a _,⟨_,Heap.get?_push_size _ rfl,rfl,rfl⟩,λb hb=>?_,q⟩
 have e:b=s1.heap.objs.size:=by simpa using hb
 subst e
 exact I1.fpOk (le_refl _) (I1.hok.fresh (le_refl _))
theorem yPX{l:Expr}{tl:TE}(hl:PE X l tl):PI X tg l (iTup X.K tl):=by
 intro pins s σ H R I h
 refine thn (hl pins s σ H _ I h) λv s1 ⟨x,H1,I1,r1,q1⟩=>?_
 obtain⟨a,e,⟨xs,hq⟩,q⟩:=q1
 subst e
 cases r1
 obtain⟨its,rv,p,hz⟩:=I1.tuple hq
 refine wpAny_pyIter_tuple (show s1.heap.IsTuple a its.toArray from p) ?_
 refine⟨s1.heap.objs.size,[s1.heap.objs.size],_,_,H1,rfl,I1.kept (t':=s1.toks) λb o e=>hP0 _ e,zPK a _,⟨_,Heap.get?_push_size _ rfl,rfl,rfl⟩,λb hb=>?_,q⟩
 have e:b=s1.heap.objs.size:=by simpa using hb
 subst e
 exact I1.fpOk (le_refl _) (I1.hok.fresh (le_refl _))
theorem yGU{pins:List (Addr×Obj)}{σ:St}{H:Hp}{s:Shared}{R:It->Hp->Prop}{E:Value->Shared->Prop}{lo hi:Int}{t u v:Tok}{tk:Nat}(I:Inv X pins σ H s)(h1: -(2 ^ 62)<=lo)(h2:lo<2 ^ 62)(h3: -(2 ^ 62)<=hi)(h4:hi<2 ^ 62)
  (q:R (Itr lo (hi - lo).toNat) H):wpAny (model X.prog X.w) X.A (pyIter (.ref s.heap.objs.size)) (PIE X pins σ tg R) E {s with heap:=s.heap.push {cls:=.type "range",data:=.fields #[.int lo t,.int hi u,.int 1 v]},toks:=tk}:=by
 refine wpAny_pyIter_range (IsRange.new ..) (small_one h1 h2 h3 h4) ?_
 have I1:Inv X pins σ H {s with heap:=s.heap.push {cls:=.type "range",data:=.fields #[.int lo t,.int hi u,.int 1 v]},toks:=tk}:=I.kept λb o e=>hP0 _ e
 refine⟨(s.heap.push {cls:=.type "range",data:=.fields #[.int lo t,.int hi u,.int 1 v]}).objs.size,[(s.heap.push {cls:=.type "range",data:=.fields #[.int lo t,.int hi u,.int 1 v]}).objs.size],_,_,H,rfl,
  I1.kept (t':=tk) λb o e=>hP0 _ e,yAF _ lo (hi - lo).toNat,?_,λb hb=>?_,q⟩
 ·have e1:lo+((0:Nat):Int) * 1=lo:=by simp
  have e2:(((hi - lo).toNat:Nat):Int) - ((0:Nat):Int)=Builtin.Range.rangeSize lo hi 1:=by rw [rangeSize_one];split<;>omega
  show IsRangeIter _ _ (lo+((0:Nat):Int) * 1) ((((hi - lo).toNat:Nat):Int) - ((0:Nat):Int)) 1
  rw [e1,e2]
  exact Heap.get?_push_size _ rfl
 ·have e:b=(s.heap.push {cls:=.type "range",data:=.fields #[.int lo t,.int hi u,.int 1 v]}).objs.size:=by simpa using hb
  subst e
  exact I1.fpOk (le_refl _) (I1.hok.fresh (le_refl _))
def iRng1(ta:TA):TI:=λσ H R=>ta σ H λvs H1=> ∃j:Int,vs=[.int j]/\ -(2 ^ 62)<=j/\j<2 ^ 62/\R (Itr 0 j.toNat) H1
theorem yEJ{a:Expr}{ta:TA}{p pos:Pos}(hg:Gl X "range")(hm:X.mg "range"=none)(ha:PA X [a] ta)(hs:starEach [a] X.env=[(false,eval a X.env)]:=by rfl):PI X tg (.Call (.Name "range" p) [a] [] pos) (iRng1 ta):=by
 intro pins s σ H R I h
 refine Call_ (zMB I hg hm boot_range (PyProof.Rows.callWith_type1 (thn (ha pos pins s σ H _ I h) λus s1 ⟨vs,H1,I1,r1,q1⟩=>?_) hs rfl))
 obtain⟨j,e,q1,q2,q⟩:=q1
 subst e
 cases r1 with
 |cons r rr=>
  cases rr
  obtain⟨t,rfl⟩:=r
  exact call_range_1 (yGU I1 (by omega) (by omega) q1 q2 (by simpa using q))
def tFor(wi:TI)(g:TG)(tb:TS):TS:=λD σ H=>wi σ H λJ H1=> ∃W:Nat->Nat->St->Hp->Prop,(∃m,W 0 m σ H1)/\ ∀i m σ H,W i m σ H->
 (J.stop i H/\D.nx σ H)\/(J.go i H/\ ∃N:St->Hp->Prop,(∀σ' H',N σ' H'-> ∃m',m'<m/\W (i+1) m' σ' H')/\ ∀x H',J.yld i H x H'->g x σ H' λσ2 H2=>tb {D with nx:=N,ct:=N,bk:=D.nx} σ2 H2)
def zMC(fp:List Addr)(h:Heap):List (Addr×Obj):=fp.filterMap λb=>(h.get? b).map λo=>(b,o)
theorem zJV{fp:List Addr}{h:Heap}{b:Addr}{o:Obj}(hb:b∈fp)(e:h.get? b=some o):(b,o)∈zMC fp h:=List.mem_filterMap.mpr ⟨b,hb,by rw [e];rfl⟩
theorem yEK{fp:List Addr}{h:Heap}{p:Addr×Obj}(hp:p∈zMC fp h):p.1∈fp/\h.get? p.1=some p.2:=by
 obtain⟨b,hb,e⟩:=List.mem_filterMap.mp hp
 cases q:h.get? b with
 |none=>rw [q]at e;cases e
 |some o=>
  rw [q]at e
  have e':(b,o)=p:=Option.some.inj e
  subst e'
  exact⟨hb,q⟩
theorem Inv.pinned{pins:List (Addr×Obj)}{σ:St}{H:Hp}{s:Shared}{fp:List Addr}(I:Inv X pins σ H s)(hf: ∀b∈fp,zOF X pins H b)(ho: ∀b∈fp, ∃o,s.heap.get? b=some o/\ ∀v,o.data≠.cell v):Inv X (pins++zMC fp s.heap) σ H s:=
 I.pins_of λp hp=>(mem_append.mp hp).elim (λz=>I.pin p (mem_append_right _ z)) λz=>by
  obtain⟨hb,e⟩:=yEK z
  obtain⟨f0,f1,f2,_⟩:=hf p.1 hb
  obtain⟨o,e',d⟩:=ho p.1 hb
  rw [e]at e';cases e'
  exact⟨e,f0,f1,f2,d⟩
theorem Inv.unpinned{pins pl:List (Addr×Obj)}{σ:St}{H:Hp}{s:Shared}(I:Inv X (pins++pl) σ H s):Inv X pins σ H s:=I.pins_of λp hp=>I.pin p (mem_append_right _ (mem_append_left _ hp))
theorem yPY{iter:Expr}{body:List Stmt}{wi:TI}{g:TG}{tb:TS}{pos:Pos}(hp:PassesOwn (model X.prog X.w) X.A X.env X.xe)(hc:X.calm=true)(hi:PI X tg iter wi)(hg:PG X tg g)(hb:PSs X body tb)
  (hs: ∀x,foldedSetIterable iter X.env x=pure x:=by intro _;rfl):PS X (.For tg iter body [] pos) (tFor wi g tb):=by
 intro pins s σ H D I h
 refine wpAny_For (thn (hi pins s σ H _ I h) λv s1 h1=>thn h1 λitv s2 h2=>?_) hs
 obtain⟨it,fp,tn,J,H2,e,I2,T,st2,f2,W,⟨m0,w0⟩,turn⟩:=h2
 subst e
 have stat: ∀{H':Hp},(∀b∈fp,H' b=none)-> ∀b∈fp,zOF X pins H' b:=λhn b hb=>⟨hn b hb,(f2 b hb).2⟩
 refine codeAny_forLoop_any (λn s'=> ∃i σ' H',Inv X pins σ' H' s'/\tn i s'.heap/\(∀b∈fp,H' b=none)/\W i n σ' H') ?_ m0 ⟨0,σ,H2,I2,st2,λb hb=>(f2 b hb).1,w0⟩
 rintro n s3 ⟨i,σ3,H3,I3,st3,fr3,w3⟩
 rcases turn i n σ3 H3 w3 with⟨stop,qn⟩|⟨go,N,hN,step⟩
 ·refine wpAny_passesOwn hp (thn (T.done X rfl rfl rfl hc i pins s3 σ3 H3 X.xe I3 (stat fr3) st3 stop) λr s4 ⟨hr,I4⟩=>?_)
  subst hr
  exact wpAny_execs_nil ⟨σ3,H3,I4,qn⟩
 ·refine wpAny_passesOwn hp (thn (T.item X rfl rfl rfl hc i pins s3 σ3 H3 X.xe I3 (stat fr3) st3 go) λr s4 ⟨u,hr,h4⟩=>?_)
  subst hr
  refine wpAny_passesOwn hp (thn h4 λ_ s5 ⟨x,H5,I5,r5,y5,st5,fr5⟩=>?_)
  have I5':=I5.pinned (stat fr5) (T.obj _ _ st5)
  refine wpAny_passesOwn hp (thn (hg _ s5 σ3 H5 x u _ I5' r5 (step x H5 y5)) λ_ s6 ⟨σ6,H6,I6,q6⟩=>?_)
  refine wpAny_passesOwn hp (thn (hb _ s6 σ6 H6 _ I6 q6) λf s7 q7=>?_)
  have again: ∀{σ7:St}{H7:Hp},Inv X (pins++zMC fp s5.heap) σ7 H7 s7->N σ7 H7-> ∃m,m<n/\ ∃i σ' H',Inv X pins σ' H' s7/\tn i s7.heap/\(∀b∈fp,H' b=none)/\W i m σ' H':=λ{σ7 H7} I7 n7=>by
   obtain⟨m',hm,w7⟩:=hN σ7 H7 n7
   refine⟨m',hm,i+1,σ7,H7,I7.unpinned,T.keep _ _ _ st5 λb hb o e=>(I7.pin (b,o) (mem_append_right _ (mem_append_right _ (zJV hb e)))).1,λb hb=>?_,w7⟩
   obtain⟨o,e,d⟩:=T.obj _ _ st5 b hb
   exact(I7.pin (b,o) (mem_append_right _ (mem_append_right _ (zJV hb e)))).2.1
  cases f with
  |next=>obtain⟨σ7,H7,I7,n7⟩:=q7;exact again I7 n7
  |cont=>obtain⟨σ7,H7,I7,n7⟩:=q7;exact again I7 n7
  |brk=>obtain⟨σ7,H7,I7,q7⟩:=q7;exact⟨σ7,H7,I7.unpinned,q7⟩
  |ret v=>obtain⟨x7,σ7,H7,I7,r7,q7⟩:=q7;exact⟨x7,σ7,H7,I7.unpinned,r7,q7⟩
end
abbrev R2:=V->V->Hp->VK->Prop
def OpR(X:Cx)(f:Value->Value->Sem Value)(r:R2):Prop:=
 ∀(pins:List (Addr×Obj))(s:Shared)(σ:St)(H:Hp)(x y:V)(v u:Value)(Q:VK),Inv X pins σ H s->RelV x v->RelV y u->r x y H Q->
  wpAny (model X.prog X.w) X.A (f v u) (EP X pins σ Q) X.xe s
def UnR(X:Cx)(f:Value->Sem Value)(r:V->Hp->VK->Prop):Prop:=
 ∀(pins:List (Addr×Obj))(s:Shared)(σ:St)(H:Hp)(x:V)(v:Value)(Q:VK),Inv X pins σ H s->RelV x v->r x H Q->
  wpAny (model X.prog X.w) X.A (f v) (EP X pins σ Q) X.xe s
def CallR(X:Cx)(f:Value)(r:List V->Hp->VK->Prop):Prop:=
 ∀(pins:List (Addr×Obj))(s:Shared)(σ:St)(H:Hp)(xs:List V)(us:List Value)(Q:VK),Inv X pins σ H s->Vals xs us->r xs H Q->
  wpAny (model X.prog X.w) X.A (call f us) (EP X pins σ Q) X.xe s
def TruR(X:Cx)(r:V->Hp->(Bool->Hp->Prop)->Prop):Prop:=
 ∀(pins:List (Addr×Obj))(s:Shared)(σ:St)(H:Hp)(x:V)(v:Value)(Q:Bool->Hp->Prop),Inv X pins σ H s->RelV x v->r x H Q->
  wpAny (model X.prog X.w) X.A (truthy v) (TP X pins σ Q) X.xe s
def tOp(r:R2)(ta tb:TE):TE:=λσ H Q=>ta σ H λx H1=>tb σ H1 λy H2=>r x y H2 Q
def tUn(r:V->Hp->VK->Prop)(ta:TE):TE:=λσ H Q=>ta σ H λx H1=>r x H1 Q
def rI(C:Int->Int->Prop)(g:Int->Int->V):R2:=λx y H Q=> ∃i j,x=.int i/\y=.int j/\C i j/\Q (g i j) H
def rI0(g:Int->Int->V):R2:=λx y H Q=> ∃i j,x=.int i/\y=.int j/\Q (g i j) H
def rU(g:Int->V):V->Hp->VK->Prop:=λx H Q=> ∃i,x=.int i/\Q (g i) H
section
variable{X:Cx}{a b c:Expr}{ta tb tc:TE}{pos:Pos}
theorem binT(ha:PE X a ta)(hb:PE X b tb){pins:List (Addr×Obj)}{s:Shared}{σ:St}{H:Hp}{R:V->V->Hp->Prop}(I:Inv X pins σ H s)
  (h:ta σ H λx H1=>tb σ H1 λy H2=>R x y H2) {Q:Value->Shared->Prop} {f:Value->Value->Sem Value}
  (hf: ∀v u s2 x y H2,Inv X pins σ H2 s2->RelV x v->RelV y u->R x y H2->wpAny (model X.prog X.w) X.A (f v u) Q X.xe s2):
  wpAny (model X.prog X.w) X.A (eval a X.env) (λv s₁=>wpAny (model X.prog X.w) X.A (eval b X.env) (λu s₂=>wpAny (model X.prog X.w) X.A (f v u) Q X.xe s₂) X.xe s₁) X.xe s:=by
 refine thn (ha pins s σ H _ I h) λv s1 ⟨x,H1,I1,r1,q1⟩=>?_
 refine thn (hb pins s1 σ H1 _ I1 q1) λu s2 ⟨y,H2,I2,r2,q2⟩=>?_
 exact hf v u s2 x y H2 I2 r1 r2 q2
theorem pe_op{op:Operator}{r:R2}(ho:OpR X (binaryOp op) r)(ha:PE X a ta)(hb:PE X b tb):PE X (.BinOp a op b pos) (tOp r ta tb):=by
 intro pins s σ H Q I h
 exact wpAny_BinOp (binT ha hb I h λv u s2 x y H2 I2 rx ry q=>ho pins s2 σ H2 x y v u Q I2 rx ry q)
theorem pe_un{op:UnaryOp}{r:V->Hp->VK->Prop}(ho:UnR X (unaryOp op) r)(ha:PE X a ta):PE X (.UnaryOp op a pos) (tUn r ta):=by
 intro pins s σ H Q I h
 exact UnaryOp_ (thn (ha pins s σ H _ I h) λv s1 ⟨x,H1,I1,r1,q1⟩=>ho pins s1 σ H1 x v Q I1 r1 q1)
theorem opI{f:Value->Value->Sem Value}{C:Int->Int->Prop}{g:Int->Int->Int}
  (rule: ∀(i j:Int)(t u:Tok)(s:Shared)(Q:Value->Shared->Prop)(E:Value->Shared->Prop),C i j->Q (.int (g i j) s.toks) {s with toks:=s.toks+1}->wpAny (model X.prog X.w) X.A (f (.int i t) (.int j u)) Q E s):
  OpR X f (rI C λi j=>.int (g i j)):=by
 intro pins s σ H x y v u Q I rx ry h
 obtain⟨i,j,rfl,rfl,hc,q⟩:=h
 obtain⟨t,rfl⟩:=rx
 obtain⟨t',rfl⟩:=ry
 exact rule i j t t' s _ _ hc ⟨.int (g i j),H,I.tok _,⟨_,rfl⟩,q⟩
theorem opI0{f:Value->Value->Sem Value}{g:Int->Int->Int}
  (rule: ∀(i j:Int)(t u:Tok)(s:Shared)(Q:Value->Shared->Prop)(E:Value->Shared->Prop),Q (.int (g i j) s.toks) {s with toks:=s.toks+1}->wpAny (model X.prog X.w) X.A (f (.int i t) (.int j u)) Q E s):
  OpR X f (rI0 λi j=>.int (g i j)):=by
 intro pins s σ H x y v u Q I rx ry h
 obtain⟨i,j,rfl,rfl,q⟩:=h
 obtain⟨t,rfl⟩:=rx
 obtain⟨t',rfl⟩:=ry
 exact rule i j t t' s _ _ ⟨.int (g i j),H,I.tok _,⟨_,rfl⟩,q⟩
theorem opB0{f:Value->Value->Sem Value}{g:Int->Int->Bool}
  (rule: ∀(i j:Int)(t u:Tok)(s:Shared)(Q:Value->Shared->Prop)(E:Value->Shared->Prop),Q (.bool (g i j)) s->wpAny (model X.prog X.w) X.A (f (.int i t) (.int j u)) Q E s):
  OpR X f (rI0 λi j=>.bl (g i j)):=by
 intro pins s σ H x y v u Q I rx ry h
 obtain⟨i,j,rfl,rfl,q⟩:=h
 obtain⟨t,rfl⟩:=rx
 obtain⟨t',rfl⟩:=ry
 exact rule i j t t' s _ _ ⟨.bl (g i j),H,I,rfl,q⟩
def CPow(i j:Int):Prop:=0<=j/\j<=1000000/\i.natAbs<2 ^ 64
def CMul(i j:Int):Prop:=(-(2 ^ 64)<i/\i<2 ^ 64)\/(-(2 ^ 64)<j/\j<2 ^ 64)
theorem CMul.ok{i j:Int}(h:CMul i j):IntMulOk i j:=by
 rcases h with⟨h1,h2⟩|⟨h1,h2⟩
 ·exact .of_left (intBits_le_64 h1 h2)
 ·exact .of_right (intBits_le_64 h1 h2)
theorem yAG(k:Nat):(0:Int)<=2 ^ k:=by
 rw [two_pow_cast]
 exact Int.natCast_nonneg _
theorem yPZ:OpR X (binaryOp .Add) (rI0 λi j=>.int (i+j)):=opI0 λ_ _ _ _ _ _ _ q=>add_int q
theorem yQA:OpR X (binaryOp .Sub) (rI0 λi j=>.int (i - j)):=opI0 λ_ _ _ _ _ _ _ q=>sub_int q
theorem yQB:OpR X (binaryOp .Mod) (rI (λ_ j=>0<j) λi j=>.int (i % j)):=opI λi j _ _ _ _ _ hc q=>by
 have h1:(0:Int)<j:=hc
 exact mod_int' (by omega) (by rw [Int.fmod_eq_emod_of_nonneg i (by omega)];exact q)
theorem yQC:OpR X (binaryOp .LShift) (rI CPow λi j=>.int (i * 2 ^ j.toNat)):=opI λ_ _ _ _ _ _ _ hc q=>lshift_int_small hc.1 hc.2.1 hc.2.2 q
theorem yQD:OpR X (binaryOp .RShift) (rI (λ_ j=>0<=j) λi j=>.int (i / 2 ^ j.toNat)):=opI λi j _ _ _ _ _ hc q=>
 rshift_int hc (by rw [Int.fdiv_eq_ediv_of_nonneg i (yAG _)];exact q)
theorem unI{f:Value->Sem Value}{g:Int->Int}
  (rule: ∀(i:Int)(t:Tok)(s:Shared)(Q:Value->Shared->Prop)(E:Value->Shared->Prop),Q (.int (g i) s.toks) {s with toks:=s.toks+1}->wpAny (model X.prog X.w) X.A (f (.int i t)) Q E s):
  UnR X f (rU λi=>.int (g i)):=by
 intro pins s σ H x v Q I rx h
 obtain⟨i,rfl,q⟩:=h
 obtain⟨t,rfl⟩:=rx
 exact rule i t s _ _ ⟨.int (g i),H,I.tok _,⟨_,rfl⟩,q⟩
theorem yQE:UnR X (unaryOp .USub) (rU λi=>.int (-i)):=unI λ_ _ _ _ _ q=>neg_int q
end
section
variable{X:Cx}{a b c:Expr}{ta tb tc:TE}{pos:Pos}
theorem yQF{pins:List (Addr×Obj)}{σ:St}{H:Hp}{s:Shared}{Q:VK}{k k':Bool}(I:Inv X pins σ H s)(q:Q (.bl k) H)(e:k=k'):EP X pins σ Q (.bool k') s:=by
 subst e
 exact⟨.bl k,H,I,rfl,q⟩
theorem op_gt:OpR X (compareOp .Gt) (rI0 λi j=>.bl (decide (j<i))):=opB0 λ_ _ _ _ _ _ _ q=>gt_int q
theorem op_ge:OpR X (compareOp .GtE) (rI0 λi j=>.bl (decide (j<=i))):=opB0 λ_ _ _ _ _ _ _ q=>ge_int q
theorem zUD:OpR X (compareOp .NotIn) (λx y H Q=> ∃i j,x=.str i/\y=.str j/\Q (.bl (!(!(Builtin.Str.occurrences j i 0 j.length 1).isEmpty))) H):=by
 intro pins s σ H x y v u Q I rx ry h
 obtain⟨i,j,rfl,rfl,q⟩:=h
 obtain⟨t,rfl⟩:=rx
 obtain⟨t',rfl⟩:=ry
 exact notIn_str (yQF I q rfl)
theorem OpR.or{f:Value->Value->Sem Value}{r r':R2}(h:OpR X f r)(h':OpR X f r'):OpR X f (λx y H Q=>r x y H Q\/r' x y H Q):=by
 intro pins s σ H x y v u Q I rx ry q
 rcases q with q|q
 ·exact h pins s σ H x y v u Q I rx ry q
 ·exact h' pins s σ H x y v u Q I rx ry q
theorem yGV(b:Expr){op:CmpOp}(h:op≠.In:=by decide)(h2:op≠.NotIn:=by decide):behindInMarks op b=false:=by
 have e1:(op==CmpOp.In)=false:=by cases op<;>first |rfl|exact absurd rfl h
 have e2:(op==CmpOp.NotIn)=false:=by cases op<;>first |rfl|exact absurd rfl h2
 cases b<;>simp [behindInMarks,e1,e2]
theorem yKT{op:CmpOp}{r:R2}(ho:OpR X (compareOp op) r)(ha:PE X a ta)(hb:PE X b tb)(hm:behindInMarks op b=false):PE X (.Compare a [op] [b] pos) (tOp r ta tb):=by
 intro pins s σ H Q I h
 exact wpAny_Compare1 (binT ha hb I h λv u s2 x y H2 I2 rx ry q=>ho pins s2 σ H2 x y v u Q I2 rx ry q) hm
def tTest(t:TE):TT:=λσ H Q=>t σ H λx H'=> ∃k,x=.bl k/\Q k H'
theorem yKU{op:CmpOp}{r:R2}(ho:OpR X (compareOp op) r)(ha:PE X a ta)(hb:PE X b tb)(hm:behindInMarks op b=false):PT X (.Compare a [op] [b] pos) (tTest (tOp r ta tb)):=by
 intro pins s σ H Q I h
 refine wpAny_isTrue_Compare1 (thn (ha pins s σ H _ I h) λv s1 ⟨x,H1,I1,r1,q1⟩=>thn (hb pins s1 σ H1 _ I1 q1) λu s2 ⟨y,H2,I2,r2,q2⟩=>
  thn (ho pins s2 σ H2 x y v u _ I2 r1 r2 q2) λc s3 ⟨z,H3,I3,r3,k,e,q3⟩=>?_) hm
 subst e
 cases r3
 exact wpAny_truthy_bool ⟨H3,I3,q3⟩
def TruV(K:PySem.W.Frag)(x:V)(H:Hp)(k:Bool):Prop:=
 match x with
 |.non=>k=false
 |.bl b=>k=b
 |.int i=>k=(i !=0)
 |.str y=>y.length<=sizeLine/\k=((y.length:Int) !=0)
 |.byt y=>y.size<=sizeLine/\k=((y.size:Int) !=0)
 |.ref p=>(∃xs,SqL K H p xs/\k= !xs.isEmpty)\/(∃xs,SqT K H p xs/\k= !xs.isEmpty)\/ ∃kvs,H p=some (.dK kvs)/\k= !kvs.isEmpty
 |_=>False
theorem yAH{κ:Type}{kvs:List (κ×V)}{vs:List (κ×Value)}(r:KV kvs vs):(!vs.isEmpty)= !kvs.isEmpty:=by
 cases r<;>rfl
theorem zPL{xs:List V}{its:List Value}(r:Vals xs its):(!its.toArray.isEmpty)= !xs.isEmpty:=by
 cases r<;>simp
theorem zJW:(sizeLine:Nat)<2 ^ 63:=by rw [sizeLine_eq];decide
theorem yQG:TruR X (λx H Q=> ∃k,TruV X.K x H k/\Q k H):=by
 intro pins s σ H x v Q I rx h
 obtain⟨k,e,q⟩:=h
 have hl:=zJW
 have hs:sizeLine=16777216:=sizeLine_eq
 cases x with
 |non=>
  cases rx
  have e':k=false:=e
  subst e'
  exact truthy_none ⟨H,I,q⟩
 |bl b=>
  cases rx
  have e':k=b:=e
  subst e'
  exact wpAny_truthy_bool ⟨H,I,q⟩
 |int i=>
  obtain⟨t,rfl⟩:=rx
  have e':k=(i !=0):=e
  subst e'
  exact PySem.P.truthy_int ⟨H,I,q⟩
 |str y=>
  obtain⟨t,rfl⟩:=rx
  obtain⟨hy,e'⟩:y.length<=sizeLine/\k=((y.length:Int) !=0):=e
  subst e'
  exact PySem.P.truthy_str (by omega) ⟨H,I.tok _,q⟩
 |byt y=>
  obtain⟨t,rfl⟩:=rx
  obtain⟨hy,e'⟩:y.size<=sizeLine/\k=((y.size:Int) !=0):=e
  subst e'
  exact PySem.W.truthy_bytes (by omega) ⟨H,I.tok _,q⟩
 |ref p=>
  cases rx
  have e':(∃xs,SqL X.K H p xs/\k= !xs.isEmpty)\/(∃xs,SqT X.K H p xs/\k= !xs.isEmpty)\/ ∃kvs,H p=some (.dK kvs)/\k= !kvs.isEmpty:=e
  rcases e' with⟨xs,hx,e'⟩|⟨xs,hx,e'⟩|⟨kvs,hx,e'⟩
  ·subst e'
   obtain⟨its,r,pl,hz⟩:=I.list hx
   have hlen:=r.length
   exact wpAny_truthy_list pl.isList (by simp only [sA];omega) ⟨H,I.tok _,by rw [zPL r];exact q⟩
  ·subst e'
   obtain⟨its,r,pl,hz⟩:=I.tuple hx
   have hlen:=r.length
   exact truthy_tuple pl (by simp only [sA];omega) ⟨H,I.tok _,by rw [zPL r];exact q⟩
  ·subst e'
   obtain⟨hz,hS,vs,r,m⟩:kvs.length<=sizeLine/\(p==sysModules)=false/\ ∃vs,KV kvs vs/\s.heap.DictOf (wG X.prog X.w) p vs:=I.hok p _ hx
   have hlen:kvs.length=vs.length:=Paired.length r
   exact wpAny_truthy_dict hS m (by omega) ⟨H,I.tok _,by rw [yAH r];exact q⟩
 |_=>exact(show False from e).elim
theorem yGW(ha:PE X a ta)(he: ∀whole,isTrue a X.env whole=(do let v <-whole;standAt a.pos;holding [v] (truthy v))):
  PT X a (λσ H Q=>ta σ H λx H'=> ∃k,TruV X.K x H' k/\Q k H'):=by
 intro pins s σ H Q I h
 exact isTrue_plain (thn (ha pins s σ H _ I h) λv s1 ⟨x,H1,I1,r1,q1⟩=>yQG pins s1 σ H1 x v Q I1 r1 q1) (he _)
theorem yAI:OpR X (binaryOp .Add) (λx y H Q=> ∃i j,x=.str i/\y=.str j/\i.length+j.length<=sizeLine/\Q (.str (i++j)) H):=by
 intro pins s σ H x y v u Q I rx ry h
 obtain⟨i,j,rfl,rfl,hz,q⟩:=h
 obtain⟨t,rfl⟩:=rx
 obtain⟨t',rfl⟩:=ry
 exact add_str (λt' tk=>⟨.str (i++j),H,I.tok _,⟨_,rfl⟩,q⟩) hz
theorem vals1{x:V}{us:List Value}(r:Vals [x] us): ∃u,us=[u]/\RelV x u:=by
 cases r with
 |cons r1 r2=>cases r2;exact⟨_,rfl,r1⟩
theorem vals2{x y:V}{us:List Value}(r:Vals [x,y] us): ∃u w',us=[u,w']/\RelV x u/\RelV y w':=by
 cases r with
 |cons r1 r2=>
  cases r2 with
  |cons r3 r4=>cases r4;exact⟨_,_,rfl,r1,r3⟩
theorem yEL(hc:X.calm=true):CallR X (.builtin "min") (λxs H Q=> ∃i j,xs=[.int i,.int j]/\Q (.int (if j<i then j else i)) H):=by
 intro pins s σ H xs us Q I r h
 obtain⟨i,j,rfl,q⟩:=h
 obtain⟨u,w',rfl,⟨t,rfl⟩,⟨t',rfl⟩⟩:=vals2 r
 refine min_two_ints (I.ok.hd hc) λh' tk k=>⟨_,H,I.kept k,?_,q⟩
 by_cases hj:j<i
 ·rw [iP hj,iP hj];exact⟨_,rfl⟩
 ·rw [iN hj,iN hj];exact⟨_,rfl⟩
end
structure ObjM(h:Heap)(x dx C:Addr)(mA:Str->Option Value):Prop where
 obj:h.get? x=some (PySem.W.instObj C dx)
 ns:h.Ns1 dx mA
 ne:dx≠x
theorem yEM{h:Heap}{dx:Addr}{mA:Str->Option Value}(n:h.Ns1 dx mA): ∃od,h.get? dx=some od/\ ∀name,PySem.W.lookIn name od=some (mA name):=by
 obtain⟨o,es,ep,ho,hd,hk,_,hm⟩:=n
 refine⟨o,ho,λname=>?_⟩
 have e:=hm name
 unfold nsFind findBy at e
 rw [<-Array.find?_toList]at e
 unfold PySem.W.lookIn
 rw [hd]
 dsimp only
 split
 ·rename_i y q
  rw [q]at e
  exact congrArg some e
 ·rename_i q
  rw [q]at e
  have a:es.toList.any (·.refKey)=false:=by
   rw [any_eq_false]
   intro y hy
   obtain⟨z,t,hkey⟩:=hk y (Array.mem_toList_iff.mp hy)
   simp [DictEntry.refKey,hkey]
  have a': ¬es.toList.any (·.refKey)=true:=by rw [a];exact xF0
  rw [iN a']
  exact congrArg some e
theorem ObjM.look{h:Heap}{x dx C:Addr}{mA:Str->Option Value}(I:ObjM h x dx C mA): ∃od,PySem.W.InstAt h x (PySem.W.instObj C dx) C (some od)/\ ∀name,PySem.W.lookIn name od=some (mA name):=
 let ⟨od,ho,hl⟩:=yEM I.ns
 ⟨od,⟨I.obj,rfl,rfl,ho⟩,hl⟩
section
variable{prog:Program}{w:World}{A:Around}{E:Value->Shared->Prop}{s:Shared}{K:PySem.W.Frag}{x dx C f:Addr}{mA:Str->Option Value}{name:Str}{v:Value}
theorem yKV{expr:Bool}{Q:Value->Shared->Prop}(X:K.In s.heap)(I:ObjM s.heap x dx C mA)(hg:PySem.W.plainGet K C name=true)(hh:PySem.W.hasDictIn K C=true)
  (ha:PySem.W.findIn K (.ref C) name=some none) (hv:mA name=some v) (hv':PySem.W.handedIn v=true) (h:Q v {s with toks:=s.toks+1}):
  wpAny (model prog w) A (getAttr (.ref x) name expr) Q E s:=by
 obtain⟨od,J,hl⟩:=I.look
 exact PySem.W.get_value X J (PySem.W.plainGet_of hg).1 (PySem.W.findObj_own hh ha rfl (by rw [hl,hv])) hv' h
theorem yGX{pl:Sem Bool}{Q:Value×List Value->Shared->Prop}(X:K.In s.heap)(I:ObjM s.heap x dx C mA)(hg:PySem.W.plainGet K C name=true)
  (hf:PySem.W.findIn K (.ref C) name=some (some (.ref f))) (ht:PySem.W.isFn K (.ref f)=true) (hv:mA name=none) (h:Q (.ref f,[.ref x]) s):
  wpAny (model prog w) A (getMethod (.ref x) name pl) Q E s:=by
 obtain⟨od,J,hl⟩:=I.look
 exact PySem.W.method_fn X J (PySem.W.plainGet_of hg).1 (PySem.W.plainGet_of hg).2 hf (beq_iff_eq.mp ht) (by show(PySem.W.lookIn name od).map (·.isSome)=some false;rw [hl,hv];rfl) h
theorem yKW{ns:List Str}{Q:Unit->Shared->Prop}(X:K.In s.heap)(I:ObjM s.heap x dx C mA)
  (hs:PySem.W.findIn K (.ref C) "__setattr__"=some (some (.builtin "object.__setattr__"))) (hp:PySem.W.plainOver K C=true) (ht:PySem.W.takerIn K C name=some none) (hh:PySem.W.hasDictIn K C=true)
  (hw:PySem.Within mA ns) (hsz:ns.length<=sizeLine)
  (h: ∀h',ObjM h' x dx C (λy=>if y=name then some v else mA y)->Heap.SameBut dx s.heap h'->Q () {s with heap:=h',toks:=s.toks+2}):
  wpAny (model prog w) A (setAttr (.ref x) name v) Q E s:=by
 obtain⟨od,J,hl⟩:=I.look
 refine PySem.W.set_plain X J hs (PySem.W.osa_open (s:={s with toks:=s.toks+1}) (r:=none) X J hp ht λb=>?_)
 obtain⟨cd,hc,hd'⟩:=PySem.W.any_some hh
 have hx:s.heap.get? x=some ⟨.ref C,some dx,.plain,#[]⟩:=I.obj
 refine wB0 (wP0 (wB0 (wB0 (wpAny_loadPart hx (wB0 (PySem.W.Looks.here (s:={s with toks:=s.toks+1}) (PySem.W.looks_clsIn X hc) ?_))))))
 rw [hd']
 refine wP0 (a:=some dx) (wB0 (wP0 (wB0 ?_)))
 refine wpAny_nsSet1 (s:={s with toks:=s.toks+1}) I.ns λh' hn2 hs2=>?_
 obtain⟨oD,esD,epD,hoD,hdD,hcD⟩:=hn2.count (PySem.Within.cons name v hw)
 refine wB0 (wpAny_lookBehind hoD (by rw [hdD];exact pastItsLine_dict (le_trans hcD (by rw [lC];omega))) ?_)
 exact wP0 (h _ ⟨(hs2.2 _ (Ne.symm I.ne)).trans I.obj,hn2,I.ne⟩ hs2)
theorem yGY{R:Result->Shared->Prop}{vs:List Value}{kw:List (Str×Value)}(X:K.In s.heap)(hm:PySem.W.makesIn K C=true)
  (hi:PySem.W.findIn K (.ref C) "__init__"=some (some (.ref f))) (hf:PySem.W.typeIn K (.ref f)=some (.type "function"))
  (h:codeAny (model prog w) (A.under (.builtin "type.__call__" ⟨.ref C::vs,kw⟩)) (.call (.ref f) ⟨.ref (s.heap.objs.size+1)::vs,kw⟩) (PySem.W.InitBack (s.heap.objs.size+1) R)
   {s with heap:=(s.heap.push PySem.W.emptyDict).push (PySem.W.instObj C s.heap.objs.size)}):
  codeAny (model prog w) A (.call (.ref C) ⟨vs,kw⟩) R s:=by
 obtain⟨hh,g,d,t,os⟩:=s
 exact PySem.W.make_core (PySem.W.makes_of X hm) (PySem.W.looks_findIn X hi) (λself=>PySem.W.bind_fn X self hf) (.inl rfl) h
end
def zGU(f:Str)(v:V):List (Str×V)->List (Str×V)
 |[]=>[(f,v)]
 |(g,x)::r=>if g=f then(g,v)::r else(g,x)::zGU f v r
theorem zNM(f g:Str)(v:V): ∀fs:List (Str×V),(zGU f v fs).lookup g=if g=f then some v else fs.lookup g
 |[]=>by
  show List.lookup g [(f,v)]=_
  by_cases h:g=f
  ·have hb:(g==f)=true:=beq_iff_eq.mpr h
   simp only [List.lookup,hb,iP h]
  ·have hb:(g==f)=false:=beq_eq_false_iff_ne.mpr h
   simp only [List.lookup,hb,iN h]
 |(k,x)::r=>by
  have ih:=zNM f g v r
  rw [show zGU f v ((k,x)::r)=(if k=f then(k,v)::r else(k,x)::zGU f v r)from rfl]
  by_cases hk:k=f
  ·rw [iP hk]
   by_cases h:g=k
   ·have hb:(g==k)=true:=beq_iff_eq.mpr h
    simp only [List.lookup,hb,iP (h.trans hk)]
   ·have hb:(g==k)=false:=beq_eq_false_iff_ne.mpr h
    simp only [List.lookup,hb,iN (λe:g=f=>h (e.trans hk.symm))]
  ·rw [iN hk]
   by_cases h:g=k
   ·have hb:(g==k)=true:=beq_iff_eq.mpr h
    simp only [List.lookup,hb,iN (λe:g=f=>hk (h.symm.trans e))]
   ·have hb:(g==k)=false:=beq_eq_false_iff_ne.mpr h
    simp only [List.lookup,hb]
    exact ih
theorem zMD(f:Str)(v:V): ∀fs:List (Str×V),f∈(zGU f v fs).map (·.1)/\ ∀g,g∈fs.map (·.1)->g∈(zGU f v fs).map (·.1)
 |[]=>⟨by simp [zGU],λg h=>by simp at h⟩
 |(k,x)::r=>by
  obtain⟨i1,i2⟩:=zMD f v r
  rw [show zGU f v ((k,x)::r)=(if k=f then(k,v)::r else(k,x)::zGU f v r)from rfl]
  by_cases hk:k=f
  ·rw [iP hk]
   subst hk
   exact⟨by simp,λg h=>by simpa using h⟩
  ·rw [iN hk]
   refine⟨?_,λg h=>?_⟩
   ·rw [map_cons]
    exact mO _ i1
   ·rw [map_cons]at h ⊢
    rcases mC.mp h with e|e
    ·exact mC.mpr (.inl e)
    ·exact mO _ (i2 g e)
theorem zNN(f:Str)(v:V): ∀fs:List (Str×V),(zGU f v fs).length<=fs.length+1
 |[]=>by simp [zGU]
 |(k,x)::r=>by
  have ih:=zNN f v r
  rw [show zGU f v ((k,x)::r)=(if k=f then(k,v)::r else(k,x)::zGU f v r)from rfl]
  by_cases hk:k=f
  ·rw [iP hk,lC,lC];omega
  ·rw [iN hk,lC,lC];omega
theorem RelO.some_of{v:V}{o:Option Value}(r:RelO (some v) o): ∃u,o=some u/\RelV v u:=by
 cases o with
 |none=>exact(show False from r).elim
 |some u=>exact⟨u,rfl,r⟩
theorem RelO.none_of{o:Option Value}(r:RelO none o):o=none:=by
 cases o with
 |none=>rfl
 |some u=>exact(show False from r).elim
theorem yEN{v:V}{u:Value}(r:RelV v u):PySem.W.handedIn u=true:=by
 cases v with
 |non=>cases (show u=Value.none from r);rfl
 |bl b=>cases (show u=Value.bool b from r);rfl
 |int i=>obtain⟨t,e⟩:=(show∃t,u=Value.int i t from r);cases e;rfl
 |str x=>obtain⟨t,e⟩:=(show∃t,u=Value.str x t from r);cases e;rfl
 |byt b=>obtain⟨t,e⟩:=(show∃t,u=Value.bytes b t from r);cases e;rfl
 |flt b=>obtain⟨t,e⟩:=(show∃t,u=Value.float b t from r);cases e;rfl
 |ref a=>cases (show u=Value.ref a from r);rfl
 |ty n=>cases (show u=Value.type n from r);rfl
section
variable{P:Program}{w:World}{H H':Hp}{h h':Heap}{a C dx:Addr}{fs fs':List (Str×V)}
theorem yKX(hok:HOk P w H h)(e:H a=some (.ins C dx fs)): ∃mA,ObjM h a dx C mA/\(∀f,RelO (fs.lookup f) (mA f))/\PySem.Within mA (fs.map (·.1))/\fs.length<=1000/\H dx=some (.own a):=by
 obtain⟨d,z,ne,ob,mA,n,r,q⟩:=(show ObjOk P w H h a (.ins C dx fs)from hok a _ e)
 exact⟨mA,⟨ob,n,ne⟩,r,q,z,d⟩
end
structure Cls(K:PySem.W.Frag)(C:Addr):Prop where
 pg:PySem.W.plainGet K C Str.empty=true
 hd:PySem.W.hasDictIn K C=true
 po:PySem.W.plainOver K C=true
 sa:PySem.W.findIn K (.ref C) "__setattr__"=some (some (.builtin "object.__setattr__"))
theorem Cls.get{K:PySem.W.Frag}{C:Addr}(c:Cls K C)(f:Str):PySem.W.plainGet K C f=true:=c.pg
def NoAttr(K:PySem.W.Frag)(C:Addr)(f:Str):Prop:=PySem.W.findIn K (.ref C) f=some none
theorem NoAttr.taker{K:PySem.W.Frag}{C:Addr}{f:Str}(n:NoAttr K C f):PySem.W.takerIn K C f=some none:=by
 unfold PySem.W.takerIn
 rw [show PySem.W.findIn K (.ref C) f=some none from n]
 rfl
structure Meth(K:PySem.W.Frag)(C:Addr)(m:Str)(f:Addr):Prop where
 at_:PySem.W.findIn K (.ref C) m=some (some (.ref f))
 fn:PySem.W.isFn K (.ref f)=true
 kp:PySem.W.keepIn K (.ref f)=true
section
variable{X:Cx}{pins:List (Addr×Obj)}{σ:St}{H:Hp}{s:Shared}{a C dx:Addr}{fs:List (Str×V)}{f:Str}{v:V}{A:Around}{E:Value->Shared->Prop}
theorem yAJ{y:V}{u:Value}{Q:Unit->Shared->Prop}(I:Inv X pins σ H s)(e:H a=some (.ins C dx fs))(c:Cls X.K C)(n:NoAttr X.K C f)(hl:fs.length<1000)(ry:RelV y u)
  (h: ∀s',Inv X pins σ (upd H a (.ins C dx (zGU f y fs))) s'->Q () s'):wpAny (model X.prog X.w) A (setAttr (.ref a) f u) Q E s:=by
 obtain⟨mA,O,r,wi,_,ho⟩:=yKX I.hok e
 have hz:(fs.map (·.1)).length<=sizeLine:=by rw [lM,sizeLine_eq];omega
 refine yKW I.kIn O c.sa c.po n.taker c.hd wi hz λh' O' sb=>h _ ?_
 have hd: ∃o,h'.get? dx=some o:=let ⟨o,_,_,e',_⟩:=O'.ns;⟨o,e'⟩
 refine I.write (x:=a) (e:=dx) (by rw [e];exact True.intro) (.inr ho) (λb q hb z=>(sb.2 b hb).trans z) hd ?_
 refine⟨by rw [yC O.ne];exact ho,?_,O.ne,O'.obj,_,O'.ns,λg=>?_,λg hg=>?_⟩
 ·have:=zNN f y fs;omega
 ·show RelO ((zGU f y fs).lookup g) (if g=f then some u else mA g)
  rw [zNM]
  by_cases q:g=f
  ·rw [iP q,iP q];exact ry
  ·rw [iN q,iN q];exact r g
 ·by_cases q:g=f
  ·rw [q];exact(zMD f y fs).1
  ·refine(zMD f y fs).2 g (wi g λz=>hg ?_)
   show(if g=f then some u else mA g)=none
   rw [iN q];exact z
theorem Inv.made(I:Inv X pins σ H s):Inv X pins σ (upd (upd H s.heap.objs.size (.own (s.heap.objs.size+1))) (s.heap.objs.size+1) (.ins C s.heap.objs.size []))
  {s with heap:=(s.heap.push PySem.W.emptyDict).push (PySem.W.instObj C s.heap.objs.size)}:=by
 have e1:(s.heap.push PySem.W.emptyDict).get? s.heap.objs.size=some PySem.W.emptyDict:=Heap.get?_push_size s.heap rfl
 have e2:((s.heap.push PySem.W.emptyDict).push (PySem.W.instObj C s.heap.objs.size)).get? (s.heap.objs.size+1)=some (PySem.W.instObj C s.heap.objs.size):=by
  have:=Heap.get?_push_size (s.heap.push PySem.W.emptyDict) (o:=PySem.W.instObj C s.heap.objs.size) rfl
  rwa [Heap.size_push]at this
 have e3:(s.heap.push PySem.W.emptyDict).Ns s.heap.objs.size (λ_=>none):=⟨PySem.W.emptyDict,#[],_,e1,rfl,(λe he=>absurd he (by simp)),λ_=>rfl⟩
 have I1:=I.laid (a:=s.heap.objs.size) (o:=.own (s.heap.objs.size+1)) (h':=s.heap.push PySem.W.emptyDict) (t':=s.toks) (λb u q=>hP0 _ q) (le_refl _) ⟨_,e1⟩
 refine I1.laid (a:=s.heap.objs.size+1) (o:=.ins C s.heap.objs.size []) (t':=s.toks) (λb u q=>hP0 _ q) (le_of_eq (Heap.size_push _ _)) ?_
 have ne:s.heap.objs.size≠s.heap.objs.size+1:=ne_of_lt (lt_succ_self _)
 refine⟨by rw [yC ne,yS],zero_le _,ne,e2,λ_=>none,(Heap.Ns1.of_empty e3).at λo q=>hP0 _ q,λ_=>True.intro,λy hy=>absurd rfl hy⟩
theorem yKY{prog:Program}{w:World}{env:Env}{e:Expr}{f:Str}{pos:Pos}{s:Shared}{Q:Value->Shared->Prop}(hb:attributeBase e f env (eval e env)=eval e env)
  (h:wpAny (model prog w) A (eval e env) (λo s₁=>wpAny (model prog w) A (getAttr o f true) Q E s₁) E s):wpAny (model prog w) A (eval (.Attribute e f pos) env) Q E s:=
 Attribute_any_ h (by rw [arm_eval_Attribute,hb])
end
def sFld(K:PySem.W.Frag)(ta tv:TE)(f:Str):TS:=λD σ H=>tv σ H λy H1=>ta σ H1 λx H2=> ∃a C dx fs,x=.ref a/\H2 a=some (.ins C dx fs)/\Cls K C/\NoAttr K C f/\fs.length<1000/\
 D.nx σ (upd H2 a (.ins C dx (zGU f y fs)))
section
variable{X:Cx}{o e value:Expr}{f:Str}{pos pos' tpos:Pos}{ta tv:TE}
theorem yQH(ha:PE X o ta)(hv:PE X value tv)(hs:swapsWith value (some (.Attribute o f pos')) pos.line X.env=pure false):PS X (.Assign [.Attribute o f pos'] value pos) (sFld X.K ta tv f):=by
 intro pins s σ H D I h
 refine plainObj_wpAny_Assign_Attribute (thn (hv pins s σ H _ I h) λu s1 ⟨y,H1,I1,ry,q⟩=>thn (ha pins s1 σ H1 _ I1 q) λov s2 ⟨x,H2,I2,rx,a,C,dx,fs,ex,ea,c,n,l,q2⟩=>?_) hs
 subst ex
 obtain rfl:ov=Value.ref a:=rx
 exact yAJ I2 ea c n l ry λs3 I3=>⟨σ,_,I3,q2⟩
end
section
variable{X:Cx}{pins:List (Addr×Obj)}{σ:St}{H:Hp}{s:Shared}{A:Around}{E:Value->Shared->Prop}{Q:Value->Shared->Prop}{c:Value}{b:Bool}
inductive zLC(K:PySem.W.Frag)(H:Hp):V->Value->Prop where
 |non:zLC K H .non (.type "NoneType")
 |bl (x:Bool):zLC K H (.bl x) (.type "bool")
 |int (i:Int):zLC K H (.int i) (.type "int")
 |str (x:Str):zLC K H (.str x) (.type "str")
 |flt (x:UInt64):zLC K H (.flt x) (.type "float")
 |lst {a:Addr} {xs:List V} (e:H a=some (.lst xs)):zLC K H (.ref a) (.type "list")
 |frz {a:Addr} {o:Obj} {xs:List V} (e:H a=some (.frz o (.lst xs))):zLC K H (.ref a) (.type "list")
 |tup {a:Addr} {xs:List V} (e:H a=some (.tup xs)):zLC K H (.ref a) (.type "tuple")
 |dK {a:Addr} {kvs:List (Key×V)} (e:H a=some (.dK kvs)):zLC K H (.ref a) (.type "dict")
 |dT {a:Addr} {kvs:List (List Key×V)} (e:H a=some (.dT kvs)):zLC K H (.ref a) (.type "dict")
 |ins {a C dx:Addr} {fs:List (Str×V)} (e:H a=some (.ins C dx fs)) (cl:Cls K C) (ha:PySem.W.findIn K (.ref C) "__class__"=some (some (.builtin "object.__class__")))
   (hn:PySem.W.specialIn K (.builtin "object.__class__") "__get__"=some (some (.builtin "getset_descriptor.__get__"))) (htk:PySem.W.takesIn K (.builtin "object.__class__")=some true)
   (hm:PySem.W.mroIn K C (.type "object")=some true):zLC K H (.ref a) (.ref C)
end
structure Room(k:Nat)(A:Around):Prop where
 hd:A.handled=none
 dp:A.depth+3 * k+5<recursionLimit
 un:A.units+16 * k+200<cLine
theorem Room.mono{j k:Nat}{A:Around}(r:Room k A)(h:j<=k):Room j A:=⟨r.hd,by have:=r.dp;omega,by have:=r.un;omega⟩
theorem Room.deeper{k:Nat}{A:Around}(r:Room (k+1) A)(env:Env):Room k (A.deeper env):=
 ⟨r.hd,by have:=r.dp;show A.depth+1+3 * k+5<_;omega,by have:=r.un;show A.units+3+16 * k+200<_;omega⟩
theorem yAK{A:Around}{C:Addr}{us:List Value}{kw:List (Str×Value)}:(A.under (.builtin "type.__call__" ⟨.ref C::us,kw⟩)).depth=A.depth+1:=by
 first |rfl|simp [Around.under,Code.weight,Code.isCreation,Code.isGuard,Code.isCaller,Code.frames,Code.isFrame,guardIds]
theorem yAL{A:Around}{C:Addr}{us:List Value}{kw:List (Str×Value)}:(A.under (.builtin "type.__call__" ⟨.ref C::us,kw⟩)).units=A.units+1:=by
 first |rfl|simp [Around.under,Code.cUnits,Code.frames,Code.isFrame]
theorem Room.make{k:Nat}{A:Around}(r:Room (k+1) A)(C:Addr)(us:List Value)(kw:List (Str×Value)):Room k (A.under (.builtin "type.__call__" ⟨.ref C::us,kw⟩)):=
 ⟨r.hd,by have:=r.dp;rw [yAK];omega,by have:=r.un;rw [yAL];omega⟩
theorem Room.depth{k:Nat}{A:Around}(r:Room k A):A.depth<recursionLimit:=by have:=r.dp;omega
theorem Room.units{k:Nat}{A:Around}(r:Room k A):A.units+64<cLine:=by have:=r.un;omega
def tNil:TA:=λ_ H Q=>Q [] H
def yOP(ta:TE)(tr:TA):TA:=λσ H Q=>ta σ H λx H1=>tr σ H1 λxs H2=>Q (x::xs) H2
section
variable{X:Cx}{e:Expr}{es:List Expr}{te:TE}{t:TA}{pos:Pos}
theorem yAM:PA X [] tNil:=λ_ _ _ _ H Q I h=>Calls.spliced_nil ⟨[],H,I,.nil,h⟩
theorem zUE(ha:PE X e te)(hr:PA X es t)(hs:starEach (e::es) X.env=(false,eval e X.env)::starEach es X.env:=by rfl):PA X (e::es) (yOP te t):=by
 intro pos pins s σ H Q I h
 rw [hs]
 show wpAny _ _ (spliced ((false,eval e X.env)::backTo pos (starEach es X.env))) _ _ s
 refine Calls.spliced_cons (thn (ha pins s σ H _ I h) λu s1 ⟨x,H1,I1,r1,q1⟩=>?_)
 exact thn (hr pos pins s1 σ H1 _ I1 q1) λus s2 ⟨xs,H2,I2,r2,q2⟩=>⟨x::xs,H2,I2,.cons r1 r2,q2⟩
def tTup(t:TA):TE:=λσ H Q=>t σ H λxs H1=>xs.length<=sizeLine/\ ∀p,H1 p=none->Q (.ref p) (upd H1 p (.tup xs))
def tLst(t:TA):TE:=λσ H Q=>t σ H λxs H1=>xs.length<=sizeLine/\ ∀p,H1 p=none->Q (.ref p) (upd H1 p (.lst xs))
theorem yQI{x1}(h:PA X es t):PE X (.Tuple es x1 pos) (tTup t):=by
 intro pins s σ H Q I hq
 refine wpAny_Tuple_spliced (thn (h pos pins s σ H _ I hq) λus s1 ⟨xs,H1,I1,r,z,q⟩=>⟨by rw [<-r.length];exact z,?_⟩)
 have hf:H1 s1.heap.objs.size=none:=I1.hok.fresh (le_refl _)
 refine⟨.ref s1.heap.objs.size,upd H1 s1.heap.objs.size (.tup xs),I1.laid (t':=s1.toks) (λb u e=>hP0 _ e) (le_refl _) ?_,rfl,q _ hf⟩
 exact⟨z,us,r,⟨_,Heap.get?_push_size _ rfl,rfl,_,rfl⟩⟩
theorem yQJ(h:PA X es t):PE X (.List es pos) (tLst t):=by
 intro pins s σ H Q I hq
 refine wpAny_List_spliced (thn (h pos pins s σ H _ I hq) λus s1 ⟨xs,H1,I1,r,z,q⟩=>⟨by rw [<-r.length];exact z,?_⟩)
 have hf:H1 s1.heap.objs.size=none:=I1.hok.fresh (le_refl _)
 refine⟨.ref s1.heap.objs.size,upd H1 s1.heap.objs.size (.lst xs),I1.laid (t':=s1.toks) (λb u e=>hP0 _ e) (le_refl _) ?_,rfl,q _ hf⟩
 exact⟨z,us,0,r,Heap.get?_push_size _ rfl⟩
end
abbrev Sp:=List V->Hp->VK->XK->Prop
abbrev CXT:=List Env->Hp->Shared->XK->Value->Shared->Prop
structure Env0(P:Program)(w:World)(K:PySem.W.Frag)(mg:Str->Option Value)(base:Heap)(A:Around)(outer:List Env)(s:Shared)(H:Hp):Prop where
 frames:A.frames=some outer
 mod:Mod K mg base
 bs: ∀b o,base.get? b=some o->s.heap.get? b=some o/\H b=none
 bsz:base.objs.size<=s.heap.objs.size
 funs:s.heap.FunFrames base outer
 frf: ∀b∈frs outer,H b=none
 hok:HOk P w H s.heap
 bare:AllBare s.gens
def CE(outer:List Env)(P:Program)(w:World)(H:Hp)(s:Shared)(Q:VK)(u:Value)(s':Shared):Prop:=
 ∃v H',s'.os=s.os/\AllBare s'.gens/\Un (frs outer) [] H H' s.heap s'.heap/\HOk P w H' s'.heap/\RelV v u/\Q v H'
def CR(CX:CXT)(outer:List Env)(P:Program)(w:World)(H:Hp)(s:Shared)(Q:VK)(E:XK)(r:Result)(s':Shared):Prop:=
 match r with
 |.ok (.ret u)=>CE outer P w H s Q u s'
 |.ok _=>False
 |.error e=>CX outer H s E e s'
structure FnOk(P:Program)(w:World)(K:PySem.W.Frag)(mg:Str->Option Value)(base:Heap)(CX:CXT)(k:Nat)(f:Addr)(fd:FuncData)(ps:List Str)(sp:Sp):Prop where
 len: ∀vs H Q E,sp vs H Q E->vs.length=ps.length
 run: ∀(A:Around)(outer:List Env)(s:Shared)(H:Hp)(args:Args)(us:List Value)(vs:List V)(Q:VK)(E:XK),Room k A->Env0 P w K mg base A outer s H->BindsTo s fd args (ps.zip us)->Vals vs us->sp vs H Q E->
  codeAny (model P w) A (.call (.ref f) args) (CR CX outer P w H s Q E) s
theorem FnOk.mono{P:Program}{w:World}{K:PySem.W.Frag}{mg:Str->Option Value}{base:Heap}{CX:CXT}{j k:Nat}{f:Addr}{fd:FuncData}{ps:List Str}{sp:Sp}(F:FnOk P w K mg base CX j f fd ps sp)(h:j<=k):
  FnOk P w K mg base CX k f fd ps sp:=⟨F.len,λA outer s H args us vs Q E hr=>F.run A outer s H args us vs Q E (hr.mono h)⟩
theorem FnOk.imp{P:Program}{w:World}{K:PySem.W.Frag}{mg:Str->Option Value}{base:Heap}{CX:CXT}{k:Nat}{f:Addr}{fd:FuncData}{ps:List Str}{sp sp':Sp}(F:FnOk P w K mg base CX k f fd ps sp)
  (h: ∀vs H Q E,sp' vs H Q E->sp vs H Q E):FnOk P w K mg base CX k f fd ps sp':=
 ⟨λvs H Q E q=>F.len vs H Q E (h _ _ _ _ q),λA outer s H args us vs Q E hr he hb hv hs=>F.run A outer s H args us vs Q E hr he hb hv (h _ _ _ _ hs)⟩
theorem Env0.make{P:Program}{w:World}{K:PySem.W.Frag}{mg:Str->Option Value}{base:Heap}{A:Around}{outer:List Env}{s:Shared}{H:Hp}(e:Env0 P w K mg base A outer s H)(C:Addr)(us:List Value)(kw:List (Str×Value)):
  Env0 P w K mg base (A.under (.builtin "type.__call__" ⟨.ref C::us,kw⟩)) outer s H:=⟨by first |exact e.frames|(simpa [Around.under,Code.envs,Code.isFrame,pushEnvs]using e.frames),e.mod,e.bs,e.bsz,e.funs,e.frf,e.hok,e.bare⟩
section
variable{X:Cx}{pins:List (Addr×Obj)}{σ:St}{H:Hp}{s s':Shared}
theorem Inv.env0(I:Inv X pins σ H s):Env0 X.prog X.w X.K X.mg X.base X.A X.stack s H:=
 ⟨I.ok.frames,I.ok.mod,I.bs,le_trans I.ok.bsz I.sz,I.stack,I.stkFree,I.hok,I.bare⟩
theorem Inv.after{Q:VK}{u:Value}(I:Inv X pins σ H s)(h:CE X.stack X.prog X.w H s Q u s'):EP X pins σ Q u s':=by
 obtain⟨v,H',os,bare,un,hok,r,q⟩:=h
 obtain⟨hh,g,d,t,os'⟩:=s'
 obtain rfl:os'=s.os:=os
 exact⟨v,H',I.call (h':=hh) (g':=g) (d':=d) (t':=t) (ch:=[]) un hok bare (λb z=>absurd z (by simp)),r,q⟩
end
def tCall(sp:Sp)(dvs:List V)(E:XK)(t:TA):TE:=λσ H Q=>t σ H λvs H1=>sp (vs++dvs) H1 Q E
def yOQ(C:Addr)(sp:Sp)(dvs:List V)(E:XK)(t:TA):TE:=λσ H Q=>t σ H λvs H1=> ∀x dx,H1 x=none->H1 dx=none->dx≠x->
 sp (.ref x::(vs++dvs)) (upd (upd H1 dx (.own x)) x (.ins C dx [])) (λv H2=>v=.non/\Q (.ref x) H2) E
def Binds(K:PySem.W.Frag)(fd:FuncData)(ps:List Str)(ds:List Value):Prop:=
 ∀(s:Shared)(us:List Value),K.In s.heap->(us++ds).length=ps.length->BindsTo s fd ⟨us,[]⟩ (ps.zip (us++ds))
theorem Binds.all{K:PySem.W.Frag}{fd:FuncData}{ps:List Str}(h: ∀us:List Value,us.length=ps.length->bindArgs fd ⟨us,[]⟩=pure (ps.zip us)):Binds K fd ps []:=λs us _ hl=>by
 rw [aN]at hl ⊢
 exact .of_eq (h us hl)
def zPM(CX:CXT)(X:Cx)(E:XK):Prop:= ∀(pins:List (Addr×Obj))(σ:St)(H:Hp)(s:Shared)(e:Value)(s':Shared),Inv X pins σ H s->CX X.stack H s E e s'->X.xe e s'
section
variable{X:Cx}{CX:CXT}{k:Nat}{f C:Addr}{fd:FuncData}{ps:List Str}{sp:Sp}{dvs:List V}{ds:List Value}{E:XK}{x m:Str}{p pos apos:Pos}{e o:Expr}{es:List Expr}{ta:TE}{t:TA}
theorem yGZ{pins:List (Addr×Obj)}{σ:St}{H:Hp}{s:Shared}{Q:VK}{us:List Value}{vs:List V}(F:FnOk X.prog X.w X.K X.mg X.base CX k f fd ps sp)(hr:Room k X.A)(hb:Binds X.K fd ps ds)(hd:Vals dvs ds)(hx:zPM CX X E)
  (I:Inv X pins σ H s) (r:Vals vs us) (h:sp (vs++dvs) H Q E):wpAny (model X.prog X.w) X.A (call (.ref f) us) (EP X pins σ Q) X.xe s:=by
 have r2:Vals (vs++dvs) (us++ds):=r.append hd
 have hl:(us++ds).length=ps.length:=by rw [<-r2.length];exact F.len _ _ _ _ h
 refine wpAny_call (codeAny_mono (F.run X.A X.stack s H ⟨us,[]⟩ (us++ds) (vs++dvs) Q E hr I.env0 (hb s us I.kIn hl) r2 h) λr s' hq=>?_)
 cases r with
 |error e=>exact hx pins σ H s e s' I hq
 |ok fl=>
  cases fl with
  |ret u=>exact I.after hq
  |next=>exact False.elim hq
  |brk=>exact False.elim hq
  |cont=>exact False.elim hq
theorem yKZ(F:FnOk X.prog X.w X.K X.mg X.base CX k f fd ps sp)(hr:Room k X.A)(hg:Gl X x)(hm:X.mg x=some (.ref f))(hk:PySem.W.keepIn X.K (.ref f)=true)(hb:Binds X.K fd ps ds)(hd:Vals dvs ds)(hx:zPM CX X E)
  (ha:PA X (e::es) t) (hdb:(x==("__debug__":Str))=false:=by decide) (he:starEach (e::es) X.env=(false,eval e X.env)::starEach es X.env:=by rfl) (hpl:(backTo pos (starEach es X.env)).any (·.1)=false:=by rfl):
  PE X (.Call (.Name x p) (e::es) [] pos) (tCall sp dvs E t):=by
 intro pins s σ H Q I h
 refine wpAny_Call_Name_kw (yCG I hg hm ?_ hdb)
 refine PySem.W.callWith_K (h₀:=X.base) I.ok.mod.kin hk (thn (ha pos pins s σ H _ I h) λus s1 ⟨vs,H1,I1,r,q⟩=>⟨I1.kIn,?_⟩) he hpl
 exact yGZ F hr hb hd hx I1 r q
structure Mk(K:PySem.W.Frag)(C f:Addr):Prop where
 makes:PySem.W.makesIn K C=true
 init:PySem.W.findIn K (.ref C) "__init__"=some (some (.ref f))
 fn:PySem.W.isFn K (.ref f)=true
 kp:PySem.W.keepIn K (.ref C)=true
theorem yHA{pins:List (Addr×Obj)}{σ:St}{H:Hp}{s:Shared}{Q:VK}{us:List Value}{vs:List V}(M:Mk X.K C f)(F:FnOk X.prog X.w X.K X.mg X.base CX k f fd ps sp)(hr:Room (k+1) X.A)(hb:Binds X.K fd ps ds)(hd:Vals dvs ds)
  (hx:zPM CX X E) (I:Inv X pins σ H s) (r:Vals vs us)
  (h: ∀x dx,H x=none->H dx=none->dx≠x->sp (.ref x::(vs++dvs)) (upd (upd H dx (.own x)) x (.ins C dx [])) (λv H2=>v=.non/\Q (.ref x) H2) E):
  wpAny (model X.prog X.w) X.A (call (.ref C) us) (EP X pins σ Q) X.xe s:=by
 have hq:=h (s.heap.objs.size+1) s.heap.objs.size (I.hok.fresh (le_succ _)) (I.hok.fresh (le_refl _)) (ne_of_lt (lt_succ_self _))
 have I2:=Inv.made (C:=C) I
 have r2:Vals (V.ref (s.heap.objs.size+1)::(vs++dvs)) (Value.ref (s.heap.objs.size+1)::(us++ds)):=.cons rfl (r.append hd)
 have hl:(Value.ref (s.heap.objs.size+1)::us++ds).length=ps.length:=by
  have e:=r2.length
  rw [F.len _ _ _ _ hq]at e
  exact e.symm
 refine wpAny_call (yGY (f:=f) I.kIn M.makes M.init (beq_iff_eq.mp M.fn) (codeAny_mono (F.run _ X.stack _ _ ⟨Value.ref (s.heap.objs.size+1)::us,[]⟩ (Value.ref (s.heap.objs.size+1)::(us++ds)) _ _ E (hr.make C us [])
  (I2.env0.make C us []) (hb _ (Value.ref (s.heap.objs.size+1)::us) I2.kIn hl) r2 hq) λr s' hq'=>?_))
 cases r with
 |error e=>exact hx pins σ _ _ e s' I2 hq'
 |ok fl=>
  cases fl with
  |ret u=>
   obtain⟨v,H',I3,rv,ev,q3⟩:=I2.after hq'
   subst ev
   exact⟨rv,⟨V.ref (s.heap.objs.size+1),H',I3,rfl,q3⟩⟩
  |next=>exact False.elim hq'
  |brk=>exact False.elim hq'
  |cont=>exact False.elim hq'
theorem yLA(M:Mk X.K C f)(F:FnOk X.prog X.w X.K X.mg X.base CX k f fd ps sp)(hr:Room (k+1) X.A)(hg:Gl X x)(hm:X.mg x=some (.ref C))(hb:Binds X.K fd ps ds)(hd:Vals dvs ds)(hx:zPM CX X E)
  (ha:PA X (e::es) t) (hdb:(x==("__debug__":Str))=false:=by decide) (he:starEach (e::es) X.env=(false,eval e X.env)::starEach es X.env:=by rfl) (hpl:(backTo pos (starEach es X.env)).any (·.1)=false:=by rfl):
  PE X (.Call (.Name x p) (e::es) [] pos) (yOQ C sp dvs E t):=by
 intro pins s σ H Q I h
 refine wpAny_Call_Name_kw (yCG I hg hm ?_ hdb)
 refine PySem.W.callWith_K (h₀:=X.base) I.ok.mod.kin M.kp (thn (ha pos pins s σ H _ I h) λus s1 ⟨vs,H1,I1,r,q⟩=>⟨I1.kIn,?_⟩) he hpl
 exact yHA M F hr hb hd hx I1 r q
end
structure FnScope(N P:List Str)(sc:Scope):Prop where
 kind:sc.kind=.function
 co:sc.isCoroutine=false
 gen:sc.isGenerator=false
 nd:N.Nodup
 pre:N.take P.length=P
 par: ∀x∈P,sc.names.lookup x=some .local\/sc.names.lookup x=some .cell
 nofree: ∀y∈sc.names,y.2≠.free
theorem fsK{N P:List Str}{sc:Scope}(h:N.Nodup/\N.take P.length=P/\(∀x∈P,sc.names.lookup x=some .local\/sc.names.lookup x=some .cell)/\∀y∈sc.names,y.2≠.free)(a:sc.kind=.function:=by rfl)(b:sc.isCoroutine=false:=by rfl)(c:sc.isGenerator=false:=by rfl):FnScope N P sc:=⟨a,b,c,h.1,h.2.1,h.2.2.1,h.2.2.2⟩
theorem zTE{kindOf:Str->Option NameKind}{x:Str}: ∀{binds:List (Str×Value)}{m:Str->Option Value},(∀v,(x,v)∉binds)->bindL kindOf binds m x=m x
 |[],_,_=>rfl
 |(n,v)::r,m,h=>by
  unfold bindL
  rw [zTE λw hw=>h w (mO _ hw)]
  split
  ·have:x≠n:=by rintro rfl;exact h v mF0
   simp [this]
  ·rfl
theorem zTF{kindOf:Str->Option NameKind}{x:Str}: ∀{binds:List (Str×Value)}{m:Str->Option Value},(∀v,(x,v)∉binds)->bindC kindOf binds m x=m x
 |[],_,_=>rfl
 |(n,v)::r,m,h=>by
  unfold bindC
  rw [zTF λw hw=>h w (mO _ hw)]
  split
  ·rfl
  ·have:x≠n:=by rintro rfl;exact h v mF0
   simp [this]
theorem zTG{kindOf:Str->Option NameKind}{x:Str}{v:Value}: ∀{P:List Str}{vs:List Value}{i:Nat}{m:Str->Option Value},P.Nodup->P[i]? =some x->vs[i]? =some v->kindOf x=some .local->
  bindL kindOf (P.zip vs) m x=some v
 |[],_,_,_,_,h,_,_=>by simp at h
 |_::_,[],_,_,_,_,h,_=>by simp at h
 |p::P,w::vs,0,m,nd,h1,h2,hk=>by
  simp at h1 h2;subst h1;subst h2
  show bindL kindOf ((p,w)::P.zip vs) m p=_
  unfold bindL
  rw [zTE λv hv=>(nodup_cons.mp nd).1 (of_mem_zip hv).1,iP hk]
  simp
 |p::P,w::vs,i+1,m,nd,h1,h2,hk=>by
  show bindL kindOf ((p,w)::P.zip vs) m x=_
  unfold bindL
  exact zTG (i:=i) (nodup_cons.mp nd).2 (by simpa using h1) (by simpa using h2) hk
theorem zTH{kindOf:Str->Option NameKind}{x:Str}{v:Value}: ∀{P:List Str}{vs:List Value}{i:Nat}{m:Str->Option Value},P.Nodup->P[i]? =some x->vs[i]? =some v->kindOf x≠some .local->
  bindC kindOf (P.zip vs) m x=some v
 |[],_,_,_,_,h,_,_=>by simp at h
 |_::_,[],_,_,_,_,h,_=>by simp at h
 |p::P,w::vs,0,m,nd,h1,h2,hk=>by
  simp at h1 h2;subst h1;subst h2
  show bindC kindOf ((p,w)::P.zip vs) m p=_
  unfold bindC
  rw [zTF λv hv=>(nodup_cons.mp nd).1 (of_mem_zip hv).1,iN hk]
  simp
 |p::P,w::vs,i+1,m,nd,h1,h2,hk=>by
  show bindC kindOf ((p,w)::P.zip vs) m x=_
  unfold bindC
  exact zTH (i:=i) (nodup_cons.mp nd).2 (by simpa using h1) (by simpa using h2) hk
def start(N:List Str)(vs:List V):St:=vs.map some++List.replicate (N.length - vs.length) none
def zXF(CX:CXT)(P:Program)(w:World)(K:PySem.W.Frag)(mg:Str->Option Value)(base:Heap)(N:List Str)(qual:Str)(scope:Scope)(f:Addr)(cd:Value)(A:Around)(outer:List Env)(s:Shared)(H:Hp)(E:XK):Cx where
 prog:=P
 w:=w
 K:=K
 mg:=mg
 base:=base
 A:=A.deeper (envOfC qual scope s.heap.objs.size f cd)
 N:=N
 s₀:=s
 H₀:=H
 env:=envOfC qual scope s.heap.objs.size f cd
 outer:=outer
 stack:=envOfC qual scope s.heap.objs.size f cd::outer
 ex:=[]
 calm:=true
 fn:=λ_=>true
 pn:=[]
 xe:=λe s'=>wpAny (model P w) (A.deeper (envOfC qual scope s.heap.objs.size f cd)) (leaving (envOfC qual scope s.heap.objs.size f cd) e) (λ_ s''=>CX outer H s E e s'') (λe' s''=>CX outer H s E e' s'') s'
theorem zXG{sc:Scope}{n:Nat}{x:Str}(h:sc.names.lookup x=some .cell): ∃c,(cellsFrom n sc.names []).lookup x=some c:=by
 have q:=PySem.W.cellsFrom_some sc.names n [] (.inl h)
 exact Option.isSome_iff_exists.mp q
theorem yEO{CX:CXT}{P:Program}{w:World}{K:PySem.W.Frag}{mg:Str->Option Value}{base:Heap}{N ps:List Str}{qual:Str}{scope:Scope}{f:Addr}{cd:Value}{A:Around}{outer:List Env}{s s1:Shared}{H:Hp}{E:XK}{us:List Value}{vs:List V}
  (S:FnScope N ps scope) (hd:A.handled=none) (e0:Env0 P w K mg base A outer s H) (hl:vs.length=ps.length) (r:Vals vs us)
  (x:InCallC s s.heap.objs.size (bindL (envOfC qual scope s.heap.objs.size f cd).kindOf (ps.zip us) λ_=>none) (cellsFrom (s.heap.objs.size+1) scope.names []) (bindC (envOfC qual scope s.heap.objs.size f cd).kindOf (ps.zip us) λ_=>none) s1):
  Inv (zXF CX P w K mg base N qual scope f cd A outer s H E) [] (start N vs) H s1:=by
 have hpl:ps.length<=N.length:=by have:=congrArg List.length S.pre;rw [lT]at this;omega
 obtain⟨h1,tk,rfl,hk⟩:=x.done
 have noA: ∀b:Addr,b∉(zXF CX P w K mg base N qual scope f cd A outer s H E).ex:=λb z=>absurd (show b∈([]:List Addr)from z) (by simp)
 refine⟨⟨e0.mod,S.kind,rfl,rfl,le_refl _,λy z c h1 h2=>?_,λy hy=>?_,λy c _ h=>?_,λ_=>hd,Around.frames_deeper e0.frames,.inr ⟨rfl,rfl⟩,λb z=>absurd z (noA b),e0.bs,e0.bsz,λb _ _=>noA b,λb z=>absurd z (noA b),e0.funs,e0.frf⟩,
  rfl,e0.bare,Un.kept hk,⟨_,x.toInCall.ns,λi y v h1 h2 h3=>?_⟩,λy c h=>⟨_,x.cell y c h⟩,e0.hok.fresh (le_refl _),λy c h=>?_,λp hp=>absurd (show p∈([]:List (Addr×Obj))from hp) (by simp),e0.hok.kept hk,?_⟩
 ·exact name_of_addr x.apart (PySem.mem_of_lookup h1) (PySem.mem_of_lookup h2)
 ·have hy:scope.names.lookup y=some .cell\/scope.names.lookup y=some .free:=hy
  rcases hy with hy|hy
  ·exact zXG hy
  ·exact absurd rfl (S.nofree _ (PySem.mem_of_lookup hy))
 ·exact le_of_lt (x.above y c (PySem.mem_of_lookup h))
 ·have hi:i<vs.length:=by
   unfold start at h2
   by_cases hi:i<vs.length
   ·exact hi
   ·rw [getElem?_append_right (by simpa using hi)]at h2
    rw [List.getElem?_replicate]at h2
    split at h2<;>cases h2
  have ha:vs[i]? =some v:=by
   unfold start at h2
   rw [getElem?_append_left (by simpa using hi),getElem?_map]at h2
   cases e:vs[i]? with
   |none=>rw [e]at h2;cases h2
   |some a=>rw [e]at h2;cases h2;rfl
  obtain⟨u,hu,rv⟩:=r.get ha
  have hp:ps[i]? =some y:=by
   rw [<-S.pre,getElem?_take_of_lt (by omega)];exact h1
  have ndP:ps.Nodup:=by rw [<-S.pre];exact S.nd.sublist (List.take_sublist _ _)
  refine⟨u,rv,?_⟩
  rcases S.par y (mem_of_getElem? hp)with k|k
  ·exact .inl ⟨k,zTG ndP hp hu k⟩
  ·obtain⟨c,e⟩:=zXG (n:=s.heap.objs.size+1) k
   refine .inr ⟨.inl k,c,e,?_⟩
   have q:=x.cell y c e
   rw [zTH ndP hp hu (by show scope.names.lookup y≠_;rw [k];decide)]at q
   exact q
 ·exact e0.hok.fresh (le_of_lt (x.above y c (PySem.mem_of_lookup h)))
 ·unfold start
  show _=N.length
  rw [lA,lM,length_replicate]
  omega
theorem fn_of{CX:CXT}{P:Program}{w:World}{K:PySem.W.Frag}{mg:Str->Option Value}{base:Heap}{k:Nat}{f:Addr}{name qual:Str}{params:Arguments}{body:List Stmt}{scope:Scope}{dV kV doc pm cdv ct oc:Value}{an od:Option Addr}
  {osl:Array (Option Value)} {N ps:List Str} {sp:Sp} (lk:K.lookup f=some ⟨oc,od,.func (PySem.W.fnOf name qual params body scope dV kV doc pm an cdv ct),osl⟩) (hcd:PySem.W.codeIn K cdv qual=true) (S:FnScope N ps scope)
  (len: ∀vs H Q E,sp vs H Q E->vs.length=ps.length)
  (hbody: ∀(A:Around)(outer:List Env)(s:Shared)(H:Hp)(vs:List V)(Q:VK)(E:XK),Room k (A.deeper (envOfC qual scope s.heap.objs.size f cdv))->sp vs H Q E->
   ∃t,PSs (zXF CX P w K mg base N qual scope f cdv A outer s H E) body t/\t {nx:=λ_ H'=>Q .non H',rt:=Q} (start N vs) H):
  FnOk P w K mg base CX (k+1) f (PySem.W.fnOf name qual params body scope dV kV doc pm an cdv ct) ps sp:=by
 refine⟨len,λA outer s H args us vs Q E hr e0 hb r hsp=>?_⟩
 have hl:=len _ _ _ _ hsp
 have KX:K.In s.heap:=e0.mod.kin.keeps λb o e=>(e0.bs b o e).1
 have lim:s.heap.NoLimit:=e0.mod.nolimit.keeps λb o e=>(e0.bs b o e).1
 have hkind: ∀y∈ps.zip us,scope.names.lookup y.1=some .local\/(scope.names.lookup y.1=some .cell/\((cellsFrom (s.heap.objs.size+1) scope.names []).lookup y.1).isSome=true):=λ⟨n,v⟩ hy=>by
  rcases S.par n (of_mem_zip hy).1 with q|q
  ·exact .inl q
  ·exact .inr ⟨q,PySem.W.cellsFrom_some _ _ _ (.inl q)⟩
 refine codeAny_call_function hr.depth (KX _ _ lk) rfl S.co S.gen rfl (PySem.W.codeRec_of KX hcd) (hb _ _ _ _ ?_)
 refine wpAny_newFunctionEnv_cells S.kind hkind λenv he s1 x=>?_
 subst he
 refine⟨lim.keeps x.toInCall.keep,codeAny_func ?_⟩
 obtain⟨t,ht,hq⟩:=hbody A outer s H vs Q E (hr.deeper _) hsp
 have I:Inv (zXF CX P w K mg base N qual scope f cdv A outer s H E) [] (start N vs) H s1:=yEO S hr.hd e0 hl r x
 refine wpAny_mono (ht [] s1 (start N vs) H _ I hq) (λfl s' hs=>?_) λe s' hs=>hs
 have fin: ∀{σ':St}{H':Hp}{v:V}{u:Value},Inv (zXF CX P w K mg base N qual scope f cdv A outer s H E) [] σ' H' s'->RelV v u->Q v H'->CE outer P w H s Q u s':=
  λ{σ' H' v u} J rv q=>⟨v,H',J.os,J.bare,J.base,J.hok,rv,q⟩
 cases fl with
 |ret u=>
  obtain⟨v,σ',H',J,rv,q⟩:=hs
  exact fin J rv q
 |next=>
  obtain⟨σ',H',J,q⟩:=hs
  exact fin (v:=V.non) (u:=Value.none) J rfl q
 |brk=>
  obtain⟨_,_,_,q⟩:=hs
  exact False.elim q
 |cont=>
  obtain⟨_,_,_,q⟩:=hs
  exact False.elim q
section
variable{X:Cx}{x:Str}{p pos:Pos}{e:Expr}{es:List Expr}{t:TA}{id T:String}{r:List V->Hp->VK->Prop}
def tCB(r:List V->Hp->VK->Prop)(t:TA):TE:=λσ H Q=>t σ H λvs H1=>r vs H1 Q
theorem yHB(hc:CallR X (.builtin id) r)(hg:Gl X x)(hm:X.mg x=none)(hv:bootBuiltins x=some (.builtin id))(ha:PA X (e::es) t)(hn:x≠"__name__":=by decide)(hdb:(x==("__debug__":Str))=false:=by decide)
  (he:starEach (e::es) X.env=(false,eval e X.env)::starEach es X.env:=by rfl) (hpl:(backTo pos (starEach es X.env)).any (·.1)=false:=by rfl):PE X (.Call (.Name x p) (e::es) [] pos) (tCB r t):=by
 intro pins s σ H Q I h
 refine wpAny_Call_Name_kw (zMB I hg hm hv ?_ hn hdb)
 exact PyProof.Rows.callWith_builtin1 (thn (ha pos pins s σ H _ I h) λus s1 ⟨vs,H1,I1,r1,q1⟩=>hc pins s1 σ H1 vs us Q I1 r1 q1) he hpl
theorem zTI(hc:CallR X (.type T) r)(hg:Gl X x)(hm:X.mg x=none)(hv:bootBuiltins x=some (.type T))(ha:PA X (e::es) t)(hn:x≠"__name__":=by decide)(hdb:(x==("__debug__":Str))=false:=by decide)
  (he:starEach (e::es) X.env=(false,eval e X.env)::starEach es X.env:=by rfl) (hpl:(backTo pos (starEach es X.env)).any (·.1)=false:=by rfl):PE X (.Call (.Name x p) (e::es) [] pos) (tCB r t):=by
 intro pins s σ H Q I h
 refine wpAny_Call_Name_kw (zMB I hg hm hv ?_ hn hdb)
 exact PyProof.Rows.callWith_type1 (thn (ha pos pins s σ H _ I h) λus s1 ⟨vs,H1,I1,r1,q1⟩=>hc pins s1 σ H1 vs us Q I1 r1 q1) he hpl
end
end L2
namespace HT
open PySem PyProof.Rows
section
variable{prog:Program}{w:World}{A:Around}{E:Value->Shared->Prop}{s:Shared}
theorem cat_tup{t b:Addr}{vs ws:List Value}{Q:Value->Shared->Prop}(ht:IsTup s.heap t vs.toArray)(hb:IsTup s.heap b ws.toArray)(hv:vs≠[])
  (h1:ws=[]->Q (.ref t) s) (h2:ws≠[]->Q (.ref s.heap.objs.size) {s with heap:=s.heap.push {cls:=.type "tuple",data:=.seq (vs++ws).toArray}})
  (hsz:vs.length+ws.length<=sizeLine):wpAny (model prog w) A (binaryOp .Add (.ref t) (.ref b)) Q E s:=by
 obtain⟨⟨cls,dd,data,sl⟩,ho,hc,n,hd⟩:=id ht
 obtain⟨⟨cls2,dd2,data2,sl2⟩,ho2,hc2,n2,hd2⟩:=id hb
 simp only at hc hd hc2 hd2
 subst hc hd hc2 hd2
 have e:vs.toArray++ws.toArray=(vs++ws).toArray:=by simp
 by_cases hw:ws=[]
 ·exact concat_meets ⟨_,ho,rfl⟩ ⟨_,ho2,rfl⟩ noFill_tuple_add seq_tuple_add PySem.F.slot_tuple_add PySem.F.entry_tuple_add (PySem.F.args_tuple_add_2 _ _)
   (tuple_addW1 t b vs.toArray ws.toArray n n2 dd dd2 sl sl2 (by simpa using hv) (by simp [hw])) ⟨ho,ho2,h1 hw⟩
 ·refine concat_meets ⟨_,ho,rfl⟩ ⟨_,ho2,rfl⟩ noFill_tuple_add seq_tuple_add PySem.F.slot_tuple_add PySem.F.entry_tuple_add (PySem.F.args_tuple_add_2 _ _)
   (tuple_addW2 t b vs.toArray ws.toArray n n2 dd dd2 sl sl2 (by simpa using hv) (by simpa using hw) (by rw [sA,sA];exact hsz)) ⟨ho,ho2,?_⟩
  rw [e]
  exact h2 hw
def sIx(n d:Nat):Option Int->Nat
 |none=>d
 |some v=>if v<0 then(v+(n:Int)).toNat else min v.toNat n
theorem sIx_nat(n d k:Nat):sIx n d (some (k:Int))=min k n:=by
 show(if(k:Int)<0 then((k:Int)+(n:Int)).toNat else min (k:Int).toNat n)=min k n
 rw [iN (by omega),toNat_natCast]
theorem sIx_le(n d:Nat)(hd:d<=n)(o:Option Int):sIx n d o<=n:=by
 cases o with
 |none=>exact hd
 |some v=>
  show(if v<0 then(v+(n:Int)).toNat else min v.toNat n)<=n
  by_cases hv:v<0
  ·rw [iP hv];omega
  ·rw [iN hv];exact Nat.min_le_right _ _
theorem yCK(v:Int)(n d:Nat):(if v<0 then max (v+(n:Int)) 0 else min v (n:Int))=((sIx n d (some v):Nat):Int):=by
 show(if v<0 then max (v+(n:Int)) 0 else min v (n:Int))=(((if v<0 then(v+(n:Int)).toNat else min v.toNat n):Nat):Int)
 by_cases hv:v<0
 ·simp only [iP hv];omega
 ·simp only [iN hv];omega
theorem yAN(lo hi:Option Int)(n:Nat):Builtin.Slice.sliceAdjust lo hi 1 (n:Int)=(((sIx n 0 lo:Nat):Int),((sIx n n hi:Nat):Int)):=by
 have h1: ¬((1:Int)<0):=by omega
 unfold Builtin.Slice.sliceAdjust
 simp only [h1,iF]
 refine Prod.ext ?_ ?_
 ·cases lo with
  |none=>rfl
  |some v=>exact yCK v n 0
 ·cases hi with
  |none=>rfl
  |some v=>exact yCK v n n
theorem yAO(i j:Nat):Builtin.Slice.slicePlaces (i:Int) (j:Int) 1=j - i:=by
 unfold Builtin.Slice.slicePlaces
 have h1:(1:Int)>0:=by omega
 simp only [h1,if_true,Int.ediv_one]
 split<;>omega
theorem zPN{v:Value}{o:Option Int}{Q:Option Int->Shared->Prop}(p:IsPart v o)(h:Q o s):wpAny (model prog w) A (Builtin.Slice.slicePartIndex v) Q E s:=by
 cases p with
 |none=>exact slicePart_none h
 |int i t=>exact slicePart_int h
theorem sliceApplied_gen{sl:Addr}{vl vu:Value}{lo hi:Option Int}{n:Nat}{Q:Int×Int×Nat->Shared->Prop}(hs:s.heap.IsSliceOf sl vl vu .none)(pl:IsPart vl lo)(pu:IsPart vu hi)
  (h:Q (((sIx n 0 lo:Nat):Int),1,sIx n n hi - sIx n 0 lo) s):wpAny (model prog w) A (Builtin.Slice.sliceApplied (.ref sl) (pure (n:Int))) Q E s:=by
 obtain⟨os,hos,hcs,hds⟩:=id hs
 unfold Builtin.Slice.sliceApplied Builtin.Slice.sliceFields
 refine wB0 (wB0 (wpAny_field hos hds (x:=vl) rfl (wB0 (wpAny_field hos hds (x:=vu) rfl (wB0 (wpAny_field hos hds (x:=.none) rfl (wP0 ?_)))))))
 refine wB0 (slicePart_none ?_)
 show wpAny _ _ (if((1:Int)==0)=true then _ else _) _ _ s
 rw [iN (by decide)]
 refine wB0 (zPN pl (wB0 (zPN pu (wB0 (wP0 ?_)))))
 show wpAny _ _ (match Builtin.Slice.sliceAdjust lo hi 1 (n:Int)with |(lo,hi)=>pure (lo,(1:Int),Builtin.Slice.slicePlaces lo hi 1)) _ _ s
 rw [yAN lo hi n]
 show wpAny _ _ (pure (((sIx n 0 lo:Nat):Int),(1:Int),Builtin.Slice.slicePlaces ((sIx n 0 lo:Nat):Int) ((sIx n n hi:Nat):Int) 1)) _ _ s
 rw [yAO]
 exact wP0 h
theorem yHC(xs:Array Value)(i k:Nat):((List.range k).filterMap λ(m:Nat)=>xs[((i:Int)+(m:Int) * 1).toNat]?).toArray=((xs.toList.drop i).take k).toArray:=by
 have e:(λ(m:Nat)=>xs[((i:Int)+(m:Int) * 1).toNat]?)=λm=>xs[i+m]? :=by
  funext m
  have:((i:Int)+(m:Int) * 1).toNat=i+m:=by omega
  rw [this]
 rw [e]
 have:=pick_run xs i k
 rw [List.filterMap_map]at this
 have e2:((λx=>xs[x]?)∘λx=>i+x)=λm=>xs[i+m]? :=rfl
 rw [e2]at this
 rw [this]
theorem getItem_tuple_cut{t sl:Addr}{items:Array Value}{vl vu:Value}{lo hi:Option Int}{Q:Value->Shared->Prop}(ht:IsTup s.heap t items)(hs:s.heap.IsSliceOf sl vl vu .none)(pl:IsPart vl lo)(pu:IsPart vu hi)
  (hw: ¬(sIx items.size 0 lo=0/\sIx items.size items.size hi=items.size))
  (h:Q (.ref s.heap.objs.size) {s with heap:=s.heap.push {cls:=.type "tuple",data:=.seq ((items.toList.drop (sIx items.size 0 lo)).take (sIx items.size items.size hi - sIx items.size 0 lo)).toArray}})
  (hsz:items.size<=sizeLine):wpAny (model prog w) A (getItem (.ref t) (.ref sl)) Q E s:=by
 have htake:sizeOk (.seq ((items.toList.drop (sIx items.size 0 lo)).take (sIx items.size items.size hi - sIx items.size 0 lo)).toArray):=by
  show((items.toList.drop (sIx items.size 0 lo)).take (sIx items.size items.size hi - sIx items.size 0 lo)).toArray.size<=sizeLine
  rw [sA,lT,length_drop,Array.length_toList]
  omega
 have hj:sIx items.size items.size hi<=items.size:=sIx_le _ _ (le_refl _) hi
 obtain⟨os,hos,hcs,hds⟩:=id hs
 have hTs:s.TypeIs (.ref sl) "slice":=⟨os,hos,hcs⟩
 unfold getItem
 try with_reducible refine wpAny_holding ?_
 first |refine wB0 (wP0 ?_)|skip
 refine wB0 (wpAny_sequenceKey ht.typeIs (by decide) ?_)
 refine wB0 (wpAny_callSpecial?_slot (name:=Str.ofString "__getitem__") ht.typeIs PyProof.Rows.slot_tuple_getitem
  (wpAny_call_entry PyProof.Rows.slot_tuple_getitem ht.typeIs entry_tuple_getitem ?_ (args_tuple_getitem _ _)))
 show wpAny _ _ (Builtin.Tuple.tupleItemsOf (.ref t) >>= _) _ _ s
 refine wB0 (tupleItemsOf_ ht ?_)
 refine wB0 (wpAny_typeOf hTs ?_)
 rw [iP (by decide)]
 refine wB0 (sliceApplied_gen hs pl pu ?_)
 have hno: ¬((((sIx items.size 0 lo:Nat):Int)==0&&(1:Int)==1&&(sIx items.size items.size hi - sIx items.size 0 lo)==items.size)=true):=by
  intro q
  rw [aE,aE]at q
  have q1:((sIx items.size 0 lo:Nat):Int)=0:=eq_of_beq q.1.1
  have q2:sIx items.size items.size hi - sIx items.size 0 lo=items.size:=eq_of_beq q.2
  exact hw ⟨by omega,by omega⟩
 show wpAny _ _ (if(((sIx items.size 0 lo:Nat):Int)==0&&(1:Int)==1&&(sIx items.size items.size hi - sIx items.size 0 lo)==items.size)=true then _ else _) _ _ s
 rw [iN hno,yHC]
 first
  |exact wB0 (m:=Builtin.Tuple.tupleExact _) (wpAny_newObj_type (wP0 ⟨_,rfl,wP0 h⟩) htake)
  |exact wB0 (m:=Builtin.Tuple.tupleExact _) (wpAny_newObj_type (wB0 (wP0 (wP0 ⟨_,rfl,wP0 h⟩))) htake)
  |exact wB0 (wB0 (m:=Builtin.Tuple.tupleExact _) (wpAny_newObj_type (wP0 (wP0 ⟨_,rfl,wP0 h⟩)) htake))
  |exact wB0 (wB0 (m:=Builtin.Tuple.tupleExact _) (wpAny_newObj_type (wP0 ⟨_,rfl,wP0 h⟩) htake))
end
end HT
namespace L2
open PySem PySem.Spec PyProof.Rows
abbrev TO:=St->Hp->(Option Int->Hp->Prop)->Prop
def PO(X:Cx)(e:Option Expr)(t:TO):Prop:=
 ∀(pins:List (Addr×Obj))(s:Shared)(σ:St)(H:Hp)(Q:Option Int->Hp->Prop),Inv X pins σ H s->t σ H Q->
  wpAny (model X.prog X.w) X.A (evalPart e X.env) (λu s'=> ∃o H',Inv X pins σ H' s'/\IsPart u o/\Q o H') X.xe s
def yLB:TO:=λ_ H Q=>Q none H
def tPart(t:TE):TO:=λσ H Q=>t σ H λx H1=> ∃i,x=.int i/\Q (some i) H1
section
variable{X:Cx}{e:Expr}{te:TE}{lo hi:Option Expr}{tl th:TO}{pos p2:Pos}
theorem yLC:PO X none yLB:=by
 intro pins s σ H Q I h
 rw [evalPart_none]
 exact wP0 ⟨none,H,I,.none,h⟩
theorem yLD(h:PE X e te):PO X (some e) (tPart te):=by
 intro pins s σ H Q I hw
 rw [evalPart_some]
 refine thn (h pins s σ H _ I hw) λu s1 ⟨x,H1,I1,r1,q1⟩=>?_
 obtain⟨i,rfl,q⟩:=q1
 obtain⟨t,rfl⟩:=r1
 exact⟨some i,H1,I1,.int i t,q⟩
def SlR(X:Cx)(r:V->Option Int->Option Int->Hp->VK->Prop):Prop:=
 ∀(pins:List (Addr×Obj))(s:Shared)(σ:St)(H:Hp)(x:V)(v vl vu:Value)(lo hi:Option Int)(sl:Addr)(Q:VK),Inv X pins σ H s->RelV x v->s.heap.IsSliceOf sl vl vu .none->IsPart vl lo->IsPart vu hi->r x lo hi H Q->
  ∃T id,typeLookup (.type T) "__getitem__"=pure (some (.builtin id))/\s.TypeIs v T/\wpAny (model X.prog X.w) X.A (getItem v (.ref sl)) (EP X pins σ Q) X.xe s
theorem SlR.or{r r':V->Option Int->Option Int->Hp->VK->Prop}(h:SlR X r)(h':SlR X r'):SlR X (λx lo hi H Q=>r x lo hi H Q\/r' x lo hi H Q):=by
 intro pins s σ H x v vl vu lo hi sl Q I rx hs pl pu q
 rcases q with q|q
 ·exact h pins s σ H x v vl vu lo hi sl Q I rx hs pl pu q
 ·exact h' pins s σ H x v vl vu lo hi sl Q I rx hs pl pu q
def tSl(r:V->Option Int->Option Int->Hp->VK->Prop)(te:TE)(tl th:TO):TE:=λσ H Q=>te σ H λx H1=>tl σ H1 λl H2=>th σ H2 λu H3=>r x l u H3 Q
theorem yHD{r:V->Option Int->Option Int->Hp->VK->Prop}(hr:SlR X r)(he:PE X e te)(hl:PO X lo tl)(hu:PO X hi th):PE X (.Subscript e (.Slice lo hi none p2) pos) (tSl r te tl th):=by
 intro pins s σ H Q I h
 refine Subscript_ (thn (he pins s σ H _ I h) λv s1 ⟨x,H1,I1,r1,q1⟩=>?_)
 refine wpAny_Slice (thn (hl pins s1 σ H1 _ I1 q1) λvl s2 ⟨l,H2,I2,pl,q2⟩=>thn (hu pins s2 σ H2 _ I2 q2) λvu s3 ⟨u,H3,I3,pu,q3⟩=>?_)
 rw [evalPart_none]
 refine wP0 ?_
 have I4:Inv X pins σ H3 {s3 with heap:=s3.heap.push {cls:=.type "slice",data:=.fields #[vl,vu,.none]}}:=I3.kept (t':=s3.toks) λb ob q=>hP0 _ q
 obtain⟨T,id,hT,ht,hg⟩:=hr pins {s3 with heap:=s3.heap.push {cls:=.type "slice",data:=.fields #[vl,vu,.none]}} σ H3 x v vl vu l u s3.heap.objs.size Q I4 r1 (Heap.IsSliceOf.new ..) pl pu q3
 show wpAny (model X.prog X.w) X.A (subscriptTail e (.Slice lo hi none p2) v (.ref s3.heap.objs.size)) (EP X pins σ Q) X.xe {s3 with heap:=s3.heap.push {cls:=.type "slice",data:=.fields #[vl,vu,.none]}}
 exact tail_any (ops:=[.ref s3.heap.objs.size,v]) ht hT hg (by with_unfolding_all rfl)
def zXH(xs:List V)(lo hi:Option Int):List V:=(xs.drop (HT.sIx xs.length 0 lo)).take (HT.sIx xs.length xs.length hi - HT.sIx xs.length 0 lo)
theorem zNO(xs:List V)(lo hi:Option Int):(zXH xs lo hi).length<=xs.length:=by
 unfold zXH
 rw [lT,length_drop]
 omega
def rSlT(K:PySem.W.Frag):V->Option Int->Option Int->Hp->VK->Prop:=λx lo hi H Q=> ∃a xs,x=.ref a/\SqT K H a xs/\
 ¬(HT.sIx xs.length 0 lo=0/\HT.sIx xs.length xs.length hi=xs.length)/\ ∀p,H p=none->Q (.ref p) (upd H p (.tup (zXH xs lo hi)))
theorem yQK:SlR X (rSlT X.K):=by
 intro pins s σ H x v vl vu lo hi sl Q I rx hs pl pu h
 obtain⟨a,xs,rfl,hx,hw,q⟩:=h
 cases rx
 obtain⟨its,r,ht,hz⟩:=I.tuple hx
 have hlen:its.toArray.size=xs.length:=by rw [sA];exact r.length.symm
 refine⟨"tuple",_,PyProof.Rows.slot_tuple_getitem.lookup,ht.typeIs,?_⟩
 refine HT.getItem_tuple_cut ht hs pl pu (by rw [hlen];exact hw) ?_ (by rw [hlen];exact hz)
 rw [hlen]
 refine⟨.ref s.heap.objs.size,_,I.laid (t':=s.toks) (o:=.tup (zXH xs lo hi)) (λb ob q=>hP0 _ q) (le_refl _) ?_,rfl,q _ (I.hok.fresh (le_refl _))⟩
 exact⟨le_trans (zNO xs lo hi) hz,_,(r.drop (HT.sIx xs.length 0 lo)).take (HT.sIx xs.length xs.length hi - HT.sIx xs.length 0 lo),IsTup.new _ _⟩
def rCatT(K:PySem.W.Frag):R2:=λx y H Q=> ∃a b xs ys,x=.ref a/\y=.ref b/\SqT K H a xs/\SqT K H b ys/\xs≠[]/\xs.length+ys.length<=sizeLine/\
 (ys=[]->Q (.ref a) H)/\(ys≠[]-> ∀p,H p=none->Q (.ref p) (upd H p (.tup (xs++ys))))
theorem Vals.nil_iff{xs:List V}{us:List Value}(r:Vals xs us):us=[]↔xs=[]:=by
 cases r with
 |nil=>simp
 |cons _ _=>simp
theorem yLE:OpR X (binaryOp .Add) (rCatT X.K):=by
 intro pins s σ H x y v u Q I rx ry h
 obtain⟨a,b,xs,ys,rfl,rfl,ha,hb,hx,hz,q1,q2⟩:=h
 cases rx
 cases ry
 obtain⟨its,r1,p1,_⟩:=I.tuple ha
 obtain⟨its2,r2,p2,_⟩:=I.tuple hb
 refine HT.cat_tup p1 p2 (λz=>hx (r1.nil_iff.mp z)) (λz=>⟨.ref a,H,I,rfl,q1 (r2.nil_iff.mp z)⟩) (λz=>?_) (by rw [<-r1.length, <-r2.length];exact hz)
 refine⟨.ref s.heap.objs.size,_,I.laid (t':=s.toks) (o:=.tup (xs++ys)) (λb ob q=>hP0 _ q) (le_refl _) ?_,rfl,q2 (λw=>z (r2.nil_iff.mpr w)) _ (I.hok.fresh (le_refl _))⟩
 exact⟨by rw [lA];exact hz,_,r1.append r2,IsTup.new _ _⟩
end
def ixN(n:Nat)(i:Int):Option Nat:=if 0<=i then(if i<n then some i.toNat else none)else if -(n:Int)<=i then some (i+n).toNat else none
def atI{α:Type}(xs:List α)(i:Int):Option α:=(ixN xs.length i).bind λj=>xs[j]?
theorem yCL{n:Nat}{i:Int}{j:Nat}(h:ixN n i=some j):seqIndex? i n=some j/\j<n/\ -(n:Int)<=i/\i<n:=by
 unfold ixN at h
 by_cases h0:0<=i
 ·rw [iP h0]at h
  by_cases h1:i<n
  ·rw [iP h1]at h
   have e:i.toNat=j:=Option.some.inj h
   exact⟨by rw [seqIndex_of h0 h1,e],by omega,by omega,h1⟩
  ·rw [iN h1]at h;cases h
 ·rw [iN h0]at h
  by_cases h1: -(n:Int)<=i
  ·rw [iP h1]at h
   have e:(i+n).toNat=j:=Option.some.inj h
   exact⟨by rw [seqIndex_neg (by omega) h1,e],by omega,h1,by omega⟩
  ·rw [iN h1]at h;cases h
theorem zUF{α:Type}{xs:List α}{i:Int}{v:α}(h:atI xs i=some v): ∃j,seqIndex? i xs.length=some j/\xs[j]? =some v/\j<xs.length/\ -(xs.length:Int)<=i/\i<xs.length:=by
 unfold atI at h
 cases e:ixN xs.length i with
 |none=>rw [e]at h;cases h
 |some j=>
  rw [e]at h
  obtain⟨h1,h2,h3,h4⟩:=yCL e
  exact⟨j,h1,h,h2,h3,h4⟩
def zUG(b:Expr):Prop:= ∀o i,subscripted b false o i=operate [o,i] (getItem o i)
def IxR(X:Cx)(r:R2):Prop:=
 ∀(value slice:Expr)(pins:List (Addr×Obj))(s:Shared)(σ:St)(H:Hp)(x y:V)(v u:Value)(Q:VK),Inv X pins σ H s->RelV x v->RelV y u->r x y H Q->
  subscripted slice false v u=operate [v,u] (getItem v u)->wpAny (model X.prog X.w) X.A (subscriptTail value slice v u) (EP X pins σ Q) X.xe s
def MtR(X:Cx)(id:String)(r:V->List V->Hp->VK->Prop):Prop:=
 ∀(pins:List (Addr×Obj))(s:Shared)(σ:St)(H:Hp)(x:V)(xs:List V)(v:Value)(us:List Value)(Q:VK),Inv X pins σ H s->RelV x v->Vals xs us->r x xs H Q->
  wpAny (model X.prog X.w) X.A (call (.builtin id) (v::us)) (EP X pins σ Q) X.xe s
section
variable{X:Cx}{a b:Expr}{ta tb:TE}{pos:Pos}
theorem IxR.or{r r':R2}(h:IxR X r)(h':IxR X r'):IxR X (λx y H Q=>r x y H Q\/r' x y H Q):=by
 intro value slice pins s σ H x y v u Q I rx ry q hs
 rcases q with q|q
 ·exact h value slice pins s σ H x y v u Q I rx ry q hs
 ·exact h' value slice pins s σ H x y v u Q I rx ry q hs
theorem pe_ix{r:R2}(hr:IxR X r)(ha:PE X a ta)(hb:PE X b tb)(hs:zUG b):PE X (.Subscript a b pos) (tOp r ta tb):=by
 intro pins s σ H Q I h
 exact Subscript_ (binT ha hb I h λv u s2 x y H2 I2 rx ry q=>hr a b pins s2 σ H2 x y v u Q I2 rx ry q (hs _ _))
def rIxL(K:PySem.W.Frag):R2:=λx y H Q=> ∃p xs i v,x=.ref p/\y=.int i/\SqL K H p xs/\atI xs i=some v/\Q v H
def rIxT(K:PySem.W.Frag):R2:=λx y H Q=> ∃p xs i v,x=.ref p/\y=.int i/\SqT K H p xs/\atI xs i=some v/\Q v H
def rIxS:R2:=λx y H Q=> ∃z i c,x=.str z/\y=.int i/\z.length<=sizeLine/\atI z.cps.toList i=some c/\Q (.str ⟨#[c]⟩) H
theorem yLF:IxR X (rIxL X.K):=by
 intro value slice pins s σ H x y v u Q I rx ry h hs
 obtain⟨p,xs,i,z,rfl,rfl,hq,he,q⟩:=h
 cases rx
 obtain⟨t,rfl⟩:=ry
 obtain⟨its,r,pl,hz⟩:=I.list hq
 obtain⟨j,h1,h2,h3,h4,h5⟩:=zUF he
 obtain⟨w,ew,rw'⟩:=r.get h2
 have hl:=r.length
 have hn:=zJW
 have fin:EP X pins σ Q w s:=⟨z,H,I,rw',q⟩
 by_cases h0:0<=i
 ·have hj:i.toNat=j:=by
   rw [seqIndex_of h0 h5]at h1
   exact Option.some.inj h1
  exact item_listR pl.isList h0 (by omega) (by rw [hj];simpa using ew) fin hs
 ·have hj:(i+(its.toArray.size:Int)).toNat=j:=by
   rw [seqIndex_neg (by omega) h4]at h1
   rw [sA, <-hl]
   exact Option.some.inj h1
  exact subscriptTail_builtinR (x:=w) pl.isList.typeIs slot_list_getitem.lookup
   (wpAny_getItem_list_neg (Q:=λr s'=>r=w/\EP X pins σ Q r s') pl.isList (by omega) (by rw [sA]<;>omega) (by omega) (by rw [hj];simpa using ew) ⟨rfl,fin⟩) hs
theorem ix_tup:IxR X (rIxT X.K):=by
 intro value slice pins s σ H x y v u Q I rx ry h hs
 obtain⟨p,xs,i,z,rfl,rfl,hq,he,q⟩:=h
 cases rx
 obtain⟨t,rfl⟩:=ry
 obtain⟨its,r,pl,hz⟩:=I.tuple hq
 obtain⟨j,h1,h2,h3,h4,h5⟩:=zUF he
 obtain⟨w,ew,rw'⟩:=r.get h2
 have hl:=r.length
 have hn:=zJW
 have fin:EP X pins σ Q w s:=⟨z,H,I,rw',q⟩
 exact subscriptTail_builtinR (x:=w) pl.typeIs slot_tuple_getitem.lookup
  (getItem_tuple (j:=j) (Q:=λr s'=>r=w/\EP X pins σ Q r s') pl (by omega) (by omega) (by rw [sA, <-hl];exact h1) (by simpa using ew) ⟨rfl,fin⟩) hs
theorem ix_str:IxR X rIxS:=by
 intro value slice pins s σ H x y v u Q I rx ry h hs
 obtain⟨z,i,c,rfl,rfl,hz,he,q⟩:=h
 obtain⟨t,rfl⟩:=rx
 obtain⟨t',rfl⟩:=ry
 obtain⟨j,h1,h2,h3,h4,h5⟩:=zUF he
 have hl:z.cps.toList.length=z.length:=by simp [Str.length]
 rw [hl]at h1 h4 h5
 have hn:=zJW
 exact tail_any (typeIs_str s z t) slot_str_getitem.lookup (getItem_str (c:=c) (by
  have e1:decide (i< -(2 ^ 63:Int))=false:=dF0 (by omega)
  have e2:decide (i>=2 ^ 63)=false:=dF0 (by omega)
  rw [e1,e2,Bool.or_false]) (by rw [h1];simpa using h2) ⟨.str ⟨#[c]⟩,H,I.tok _,⟨_,rfl⟩,q⟩) hs
def rIx(K:PySem.W.Frag):R2:=λx y H Q=>rIxL K x y H Q\/rIxT K x y H Q\/rIxS x y H Q
theorem yQL:IxR X (rIx X.K):=yLF.or (ix_tup.or ix_str)
theorem yAP(its:List Value)(n j:Nat)(u:Value):Obj.mapSeq (·.setIfInBounds j u) {cls:=.type "list",data:=.seq its.toArray n}={cls:=.type "list",data:=.seq (its.set j u).toArray n}:=by
 simp [Obj.mapSeq]
theorem Inv.lst{pins:List (Addr×Obj)}{σ:St}{H:Hp}{s:Shared}{p:Addr}{xs:List V}(I:Inv X pins σ H s)(h:H p=some (.lst xs)):
  ∃(its:List Value)(n:Nat),Vals xs its/\s.heap.get? p=some {cls:=.type "list",data:=.seq its.toArray n}/\xs.length<=sizeLine:=by
 obtain⟨z,its,n,r,e⟩:=I.hok p _ h
 exact⟨its,n,r,e,z⟩
theorem Inv.lstUpd{pins:List (Addr×Obj)}{σ:St}{H:Hp}{s:Shared}{p:Addr}{xs ys:List V}{its its':List Value}{n n':Nat}{f:Obj->Obj}(I:Inv X pins σ H s)(h:H p=some (.lst xs))
  (ho:s.heap.get? p=some {cls:=.type "list",data:=.seq its.toArray n}) (hf:f {cls:=.type "list",data:=.seq its.toArray n}={cls:=.type "list",data:=.seq its'.toArray n'}) (r:Vals ys its') (hz:ys.length<=sizeLine) (t:Nat):
  Inv X pins σ (upd H p (.lst ys)) {s with heap:=s.heap.update p f,toks:=t}:=by
 have e:(s.heap.update p f).get? p=some {cls:=.type "list",data:=.seq its'.toArray n'}:=by
  rw [Heap.get?_update_self f ho (by rw [hf]<;>rfl),hf]
 refine I.write (x:=p) (e:=p) (by rw [h];trivial) (.inl rfl) (λb u hb q=>(Heap.get?_update_other _ _ (Ne.symm hb)).trans q) ⟨_,e⟩ ?_
 exact⟨hz,its',n',r,e⟩
def rSetL:V->V->V->Hp->(Hp->Prop)->Prop:=λo i v H Q=> ∃p xs k j,o=.ref p/\i=.int k/\H p=some (.lst xs)/\ixN xs.length k=some j/\Q (upd H p (.lst (xs.set j v)))
theorem set_list:PSet X rSetL:=by
 intro pins s σ H o i v ov iv u Q I ro ri rv h
 obtain⟨p,xs,k,j,rfl,rfl,hp,hj,q⟩:=h
 cases ro
 obtain⟨t,rfl⟩:=ri
 obtain⟨its,n,r,ho,hz⟩:=I.lst hp
 obtain⟨h1,h2,h3,h4⟩:=yCL hj
 have hl:=r.length
 have hn:=zJW
 have I':Inv X pins σ (upd H p (.lst (xs.set j v))) {s with heap:=s.heap.update p (Obj.mapSeq (·.setIfInBounds j u))}:=
  I.lstUpd hp ho (yAP its n j u) (r.set rv j) (by rw [length_set];exact hz) s.toks
 by_cases h0:0<=k
 ·have hk:k.toNat=j:=by
   rw [seqIndex_of h0 h4]at h1
   exact Option.some.inj h1
  exact PySem.W.ki_setAt ho h0 (by omega) (by rw [sA, <-hl];exact h4) (by rw [hk];exact⟨_,I',q⟩)
 ·have hk:(k+(its.toArray.size:Int)).toNat=j:=by
   rw [seqIndex_neg (by omega) h3]at h1
   rw [sA, <-hl]
   exact Option.some.inj h1
  exact PySem.W.ki_setBack ho (by omega) (by rw [sA, <-hl];exact h3) (by omega) (by rw [hk];exact⟨_,I',q⟩)
theorem zUH(lo hi:Option Int)(n:Nat):(sliceBounds lo hi none n).1=((HT.sIx n 0 lo:Nat):Int)/\(sliceBounds lo hi none n).2.1=((HT.sIx n n hi:Nat):Int)/\(sliceBounds lo hi none n).2.2=1:=by
 refine⟨?_,?_,rfl⟩
 ·cases lo with
  |none=>simp [sliceBounds,HT.sIx]
  |some i=>
   simp only [sliceBounds,HT.sIx,Option.getD_none,show(1:Int)>0 by decide,if_true]
   by_cases h:i<0
   ·simp only [h,if_true]<;>omega
   ·simp only [h,iF]<;>omega
 ·cases hi with
  |none=>simp [sliceBounds,HT.sIx]
  |some i=>
   simp only [sliceBounds,HT.sIx,Option.getD_none,show(1:Int)>0 by decide,if_true]
   by_cases h:i<0
   ·simp only [h,if_true]<;>omega
   ·simp only [h,iF]<;>omega
theorem zSA(its:List Value)(lo hi:Option Int):slicePick its.toArray lo hi none=((its.drop (HT.sIx its.length 0 lo)).take (HT.sIx its.length its.length hi - HT.sIx its.length 0 lo)).toArray:=by
 obtain⟨h1,h2,h3⟩:=zUH lo hi its.toArray.size
 unfold slicePick
 rw [h1,h2,h3]
 simp only [sliceRange_one,pick_run,sA]<;>rfl
def rSlL(K:PySem.W.Frag):V->Option Int->Option Int->Hp->VK->Prop:=λx lo hi H Q=> ∃a xs,x=.ref a/\SqL K H a xs/\ ∀p,H p=none->Q (.ref p) (upd H p (.lst (zXH xs lo hi)))
theorem yLG:SlR X (rSlL X.K):=by
 intro pins s σ H x v vl vu lo hi sl Q I rx hs pl pu h
 obtain⟨a,xs,rfl,hx,q⟩:=h
 cases rx
 obtain⟨its,r,ht,hz⟩:=I.list hx
 have hlen:=r.length
 refine⟨"list",_,slot_list_getitem.lookup,ht.isList.typeIs,?_⟩
 refine wpAny_getItem_list_slice ht.isList hs pl pu .none (by simp) ?_ (by rw [sA]<;>omega)
 rw [zSA, <-hlen]
 refine⟨.ref s.heap.objs.size,_,I.laid (t':=s.toks) (o:=.lst (zXH xs lo hi)) (λb ob q=>hP0 _ q) (le_refl _) ?_,rfl,q _ (I.hok.fresh (le_refl _))⟩
 exact⟨le_trans (zNO xs lo hi) hz,_,0,(r.drop (HT.sIx xs.length 0 lo)).take (HT.sIx xs.length xs.length hi - HT.sIx xs.length 0 lo),Heap.get?_push_size _ rfl⟩
def wV:V->Bool
 |.non=>true
 |.bl _=>true
 |.int _=>true
 |.str _=>true
 |_=>false
def eqV:V->V->Bool
 |.non,.non=>true
 |.bl a,.bl b=>a==b
 |.bl a,.int b=>(if a then 1 else 0)==b
 |.int a,.bl b=>a==(if b then 1 else 0)
 |.int a,.int b=>a==b
 |.str a,.str b=>a==b
 |_,_=>false
theorem yQM{A:Around}{s:Shared}{y x:V}{u v:Value}(ry:RelV y u)(rx:RelV x v)(fy:wV y=true)(fx:wV x=true):SeqAt.EqAt A s u v (eqV y x):=by
 cases y with
 |non=>
  cases ry
  cases x with
  |non=>cases rx;exact SeqAt.EqAt.same _
  |bl b=>cases rx;exact SeqAt.EqAt.none_bool b
  |int b=>obtain⟨t,rfl⟩:=rx;exact SeqAt.EqAt.none_int b t
  |str b=>obtain⟨t,rfl⟩:=rx;exact SeqAt.EqAt.none_str b t
  |_=>exact absurd (show false=true from fx) xF0
 |bl a=>
  cases ry
  cases x with
  |non=>cases rx;exact SeqAt.EqAt.bool_none a
  |bl b=>cases rx;exact SeqAt.EqAt.bool_bool a b
  |int b=>obtain⟨t,rfl⟩:=rx;exact SeqAt.EqAt.bool_int a b t
  |str b=>obtain⟨t,rfl⟩:=rx;exact SeqAt.EqAt.bool_str a b t
  |_=>exact absurd (show false=true from fx) xF0
 |int a=>
  obtain⟨t',rfl⟩:=ry
  cases x with
  |non=>cases rx;exact SeqAt.EqAt.int_none a t'
  |bl b=>cases rx;exact SeqAt.EqAt.int_bool a t' b
  |int b=>obtain⟨t,rfl⟩:=rx;exact SeqAt.EqAt.int_int a t' b t
  |str b=>obtain⟨t,rfl⟩:=rx;exact SeqAt.EqAt.int_str a t' b t
  |_=>exact absurd (show false=true from fx) xF0
 |str a=>
  obtain⟨t',rfl⟩:=ry
  cases x with
  |non=>cases rx;exact SeqAt.EqAt.str_none a t'
  |bl b=>cases rx;exact SeqAt.EqAt.str_bool a t' b
  |int b=>obtain⟨t,rfl⟩:=rx;exact SeqAt.EqAt.str_int a t' b t
  |str b=>obtain⟨t,rfl⟩:=rx;exact SeqAt.EqAt.str_str a t' b t
  |_=>exact absurd (show false=true from fx) xF0
 |_=>exact absurd (show false=true from fy) xF0
theorem zUI:CallR X (.builtin "len") (λxs H Q=> ∃p ys,xs=[.ref p]/\(SqL X.K H p ys\/SqT X.K H p ys)/\Q (.int ys.length) H):=by
 intro pins s σ H xs us Q I r h
 obtain⟨p,ys,rfl,hq,q⟩:=h
 obtain⟨u,rfl,rx⟩:=vals1 r
 cases rx
 have hn:=zJW
 rcases hq with hq|hq
 ·obtain⟨its,r',pl,hz⟩:=I.list hq
  have hlen:=r'.length
  exact Calls.call_len_list pl.isList (by simp only [sA]<;>omega) ⟨.int ys.length,H,I.tok _,⟨s.toks+1,by rw [sA,hlen]⟩,q⟩
 ·obtain⟨its,r',pl,hz⟩:=I.tuple hq
  have hlen:=r'.length
  exact len_tuple pl (by simp only [sA]<;>omega) ⟨.int ys.length,H,I.tok _,⟨s.toks+1,by rw [sA,hlen]⟩,q⟩
theorem zUJ:CallR X (.builtin "len") (λxs H Q=> ∃z,xs=[.str z]/\z.length<=sizeLine/\Q (.int z.length) H):=by
 intro pins s σ H xs us Q I r h
 obtain⟨z,rfl,hz,q⟩:=h
 obtain⟨u,rfl,t,rfl⟩:=vals1 r
 have hn:=zJW
 exact len_str (by omega) ⟨.int z.length,H,I.tok _,⟨_,rfl⟩,q⟩
theorem CallR.or{f:Value}{r r':List V->Hp->VK->Prop}(h:CallR X f r)(h':CallR X f r'):CallR X f (λxs H Q=>r xs H Q\/r' xs H Q):=by
 intro pins s σ H xs us Q I rs q
 rcases q with q|q
 ·exact h pins s σ H xs us Q I rs q
 ·exact h' pins s σ H xs us Q I rs q
theorem zUK:CallR X (.type "list") (λxs H Q=> ∃p ys,xs=[.ref p]/\(SqL X.K H p ys\/SqT X.K H p ys)/\ ∀l,H l=none->Q (.ref l) (upd H l (.lst ys))):=by
 intro pins s σ H xs us Q I r h
 obtain⟨p,ys,rfl,hq,q⟩:=h
 obtain⟨u,rfl,rx⟩:=vals1 r
 cases rx
 have fin: ∀(its:List Value),Vals ys its->ys.length<=sizeLine-> ∀(h':Heap)(c':Nat),(∀b o',s.heap.get? b=some o'->h'.get? b=some o')->
   h'.get? s.heap.objs.size=some {cls:=.type "list",dict:=none,data:=.seq its.toArray c',slots:=#[]}->EP X pins σ Q (.ref s.heap.objs.size) {s with heap:=h'}:=λits r' hz h' c' kp e=>
  ⟨.ref s.heap.objs.size,_,I.laid (t':=s.toks) kp (le_refl _) (show ObjOk X.prog X.w _ h' _ (.lst ys)from⟨hz,its,c',r',e⟩),rfl,q _ (I.hok.fresh (le_refl _))⟩
 rcases hq with hq|hq
 ·obtain⟨its,r',pl,hz⟩:=I.list hq
  have hlen:=r'.length
  obtain⟨o,ho,hc,n,hd⟩:=pl.isList
  exact call_list_seq p (.inl rfl) ho hc hd (λh' c' kp e=>fin its r' hz h' c' kp e) (by simp only [sA]<;>omega)
 ·obtain⟨its,r',pl,hz⟩:=I.tuple hq
  have hlen:=r'.length
  obtain⟨o,ho,hc,n,hd⟩:=pl
  exact call_list_seq p (.inr rfl) ho hc hd (λh' c' kp e=>fin its r' hz h' c' kp e) (by simp only [sA]<;>omega)
theorem yZ:CallR X (.type "tuple") (λxs H Q=> ∃p ys,xs=[.ref p]/\((SqL X.K H p ys/\ ∀l,H l=none->Q (.ref l) (upd H l (.tup ys)))\/(SqT X.K H p ys/\Q (.ref p) H))):=by
 intro pins s σ H xs us Q I r h
 obtain⟨p,ys,rfl,h⟩:=h
 obtain⟨u,rfl,rx⟩:=vals1 r
 cases rx
 rcases h with⟨hq,q⟩|⟨hq,q⟩
 ·obtain⟨its,r',pl,hz⟩:=I.list hq
  have hlen:=r'.length
  refine call_tuple_list pl.isList (λh' kp=>?_) (by simp only [sA]<;>omega)
  have I1:Inv X pins σ H {s with heap:=h'}:=I.kept (t':=s.toks) kp
  have I2:Inv X pins σ (upd H h'.objs.size (.tup ys)) {s with heap:=h'.push {cls:=.type "tuple",data:=.seq its.toArray}}:=
   I1.laid (t':=s.toks) (λb o e=>hP0 _ e) (le_refl _) (show ObjOk X.prog X.w _ _ _ (.tup ys)from⟨hz,its,r',IsTup.new _ _⟩)
  exact⟨.ref h'.objs.size,_,I2,rfl,q _ (I1.hok.fresh (le_refl _))⟩
 ·obtain⟨its,r',pl,hz⟩:=I.tuple hq
  exact call_tuple_same pl ⟨.ref p,H,I,rfl,q⟩
def tyV(K:PySem.W.Frag)(T:String)(x:V)(H:Hp):Prop:=match x with
 |.str _=>T="str"
 |.int _=>T="int"
 |.ref p=>(T="list"/\ ∃xs,SqL K H p xs)\/(T="tuple"/\ ∃o,K.lookup p=some o/\o.cls=.type "tuple"/\o.dict=none)\/
   (T="dict"/\((∃kvs,H p=some (.dK kvs))\/ ∃kvs,H p=some (.dT kvs)))\/(T="set"/\ ∃S n,H p=some (.set S n))
 |_=>False
theorem yQN{pins:List (Addr×Obj)}{σ:St}{H:Hp}{s:Shared}{T:String}{x:V}{v:Value}(I:Inv X pins σ H s)(r:RelV x v)(ty:tyV X.K T x H):
  s.TypeIs v T/\ ∀a,v=.ref a-> ∃ob,s.heap.get? a=some ob/\ob.dict=none:=by
 cases x with
 |str z=>
  obtain⟨t,rfl⟩:=r
  cases (show T="str" from ty)
  exact⟨typeIs_str s z t,λ_ e=>nomatch e⟩
 |int i=>
  obtain⟨t,rfl⟩:=r
  cases (show T="int" from ty)
  exact⟨typeIs_int s i t,λ_ e=>nomatch e⟩
 |ref p=>
  cases r
  rcases ty with⟨rfl,xs,hq⟩|⟨rfl,o,hk,hc,hd⟩|⟨rfl,hk⟩|⟨rfl,S,n,hk⟩
  ·obtain⟨its,_,pl,_⟩:=I.list hq
   refine⟨pl.isList.typeIs,λa e=>?_⟩
   cases e
   obtain⟨o,n,e,c,hd,_⟩:=pl
   exact⟨o,e,hd⟩
  ·refine⟨⟨o,I.kIn p o hk,hc⟩,λa e=>?_⟩
   cases e
   exact⟨o,I.kIn _ o hk,hd⟩
  ·have z: ∃o,s.heap.get? p=some o/\o.ExactDict:=by
    rcases hk with⟨kvs,hk⟩|⟨kvs,hk⟩
    ·obtain⟨_,_,_,_,o,_,_,e,ex,_⟩:=I.hok p _ hk
     exact⟨o,e,ex⟩
    ·obtain⟨_,_,_,_,o,_,_,e,ex,_⟩:=I.hok p _ hk
     exact⟨o,e,ex⟩
   obtain⟨o,e,ex⟩:=z
   refine⟨⟨o,e,ex.1⟩,λa e2=>?_⟩
   cases e2
   exact⟨o,e,ex.2.1⟩
  ·obtain⟨o,_,_,_,e,ex,_⟩:=I.hok p _ hk
   refine⟨⟨o,e,ex.1⟩,λa e2=>?_⟩
   cases e2
   exact⟨o,e,ex.2.1⟩
 |_=>exact False.elim ty
def tBM(K:PySem.W.Frag)(T:String)(r:V->List V->Hp->VK->Prop)(to:TE)(t:TA):TE:=λσ H Q=>to σ H λx H1=>tyV K T x H1/\t σ H1 λxs H2=>r x xs H2 Q
variable{o e:Expr}{es:List Expr}{to:TE}{t:TA}{name:Str}{apos cpos:Pos}{T id:String}{r:V->List V->Hp->VK->Prop}
theorem pe_bm(pa:PlainAttrs T)(slot:Slot T name id)(hty:typeOf (.builtin id)=pure (.type "method_descriptor"))(hm:MtR X id r)(ho:PE X o to)(ha:PA X (e::es) t)
  (hbase:attributeBase o name X.env (eval o X.env)=eval o X.env:=by rfl)
  (hfew:((backTo cpos (starEach (e::es) X.env)).all (λx=>!x.1)&&(backToKw cpos (keywordEach [] X.env)).all (λx=>x.1.isSome)
   &&decide ((e::es).length+([]:List Keyword).length+(if([]:List Keyword).isEmpty then 0 else 1)<30))=true:=by rfl)
  (hline:(apos.endLine==cpos.line)=true:=by rfl) (hs:starEach (e::es) X.env=(false,eval e X.env)::starEach es X.env:=by rfl) (hplain:(backTo cpos (starEach es X.env)).any (·.1)=false:=by rfl):
  PE X (.Call (.Attribute o name apos) (e::es) [] cpos) (tBM X.K T r to t):=by
 intro pins s σ H Q I h
 refine wpAny_Call_method_late hbase hfew hline rfl (thn (ho pins s σ H _ I h) λv s1 ⟨x,H1,I1,r1,ty,q1⟩=>?_)
 obtain⟨h1,h2⟩:=yQN I1 r1 ty
 refine⟨T,id,pa,slot,hty,h1,h2,?_⟩
 have hA:=ha cpos pins s1 σ H1 _ I1 q1
 rw [hs]at hA ⊢
 refine Calls.callWith_builtin (by show(false || (backTo cpos (starEach es X.env)).any (·.1))=false;rw [hplain]<;>rfl) (Calls.evalArgs_plain ?_)
 exact thn hA λus s2 ⟨vs,H2,I2,r2,q2⟩=>hm pins s2 σ H2 x vs v us Q I2 r1 r2 q2
end
def MtM(X:Cx)(id:String)(r:V->List V->Hp->VK->Prop):Prop:=
 ∀(pins:List (Addr×Obj))(s:Shared)(σ:St)(H:Hp)(x:V)(xs:List V)(v:Value)(us:List Value)(Q:VK),Inv X pins σ H s->RelV x v->Vals xs us->r x xs H Q->
  wpAny (model X.prog X.w) X.A (call (.builtin id) (v::us)) (EP X pins σ Q) X.xe s
theorem Vals.one: ∀{x:V}{us:List Value},Vals [x] us-> ∃u,us=[u]/\RelV x u
 |_,_,.cons r .nil=>⟨_,rfl,r⟩
theorem Vals.rep{xs:List V}{us:List Value}(h:Vals xs us): ∀k:Nat,Vals (List.replicate k xs).flatten (List.replicate k us).flatten
 |0=>.nil
 |k+1=>by
  rw [replicate_succ,replicate_succ,flatten_cons,flatten_cons]
  exact Vals.append h (Vals.rep h k)
theorem foldl_rep(its:List Value): ∀(k:Nat)(acc:List Value),
  List.foldl (λx1 x2=>x1++x2) acc.toArray (List.replicate k its.toArray)=(acc++(List.replicate k its).flatten).toArray
 |0,acc=>by simp
 |k+1,acc=>by
  have e:acc.toArray++its.toArray=(acc++its).toArray:=by simp
  have e2:(acc++its)++(List.replicate k its).flatten=acc++(List.replicate (k+1) its).flatten:=by
   rw [replicate_succ,flatten_cons,aA]
  rw [<-e2, <-foldl_rep its k (acc++its), <-e,replicate_succ,foldl_cons]
section
variable{X:Cx}{pins:List (Addr×Obj)}{σ:St}{H:Hp}{s:Shared}{l b:Addr}{xs ys zs:List V}
theorem Inv.lset{its its':List Value}{n:Nat}{f:Array Value->Array Value}{t':Nat}(I:Inv X pins σ H s)(hH:H l=some (.lst xs))
  (e:s.heap.get? l=some {cls:=.type "list",data:=.seq its.toArray n}) (hf:f its.toArray=its'.toArray) (hv:Vals ys its') (hz:ys.length<=sizeLine):
  Inv X pins σ (upd H l (.lst ys)) {s with heap:=s.heap.update l (Obj.mapSeq f),toks:=t'}:=by
 have q:=PySem.IsL.update e f
 rw [hf]at q
 refine I.write (x:=l) (e:=l) (by rw [hH];exact trivial) (.inl rfl) (λb' u hb hu=>(Heap.get?_update_other s.heap (Obj.mapSeq f) (Ne.symm hb)).trans hu) ⟨_,q⟩ ?_
 exact⟨hz,its',_,hv,q⟩
theorem Inv.lnew{its:List Value}{t':Nat}(I:Inv X pins σ H s)(hv:Vals ys its)(hz:ys.length<=sizeLine):
  Inv X pins σ (upd H s.heap.objs.size (.lst ys)) {s with heap:=s.heap.push {cls:=.type "list",data:=.seq its.toArray},toks:=t'}:=
 I.laid (λ_ _ q=>hP0 _ q) (le_refl _) ⟨hz,its,0,hv,Heap.get?_push_size _ rfl⟩
theorem Inv.fresh(I:Inv X pins σ H s):H s.heap.objs.size=none:=I.hok.fresh (le_refl _)
theorem Inv.lstM(I:Inv X pins σ H s)(hH:H l=some (.lst xs)):xs.length<=sizeLine/\ ∃(its:List Value)(n:Nat),Vals xs its/\xs.length=its.length/\s.heap.get? l=some {cls:=.type "list",data:=.seq its.toArray n}:=by
 obtain⟨z,its,n,r,e⟩:=I.hok l _ hH
 exact⟨z,its,n,r,r.length,e⟩
theorem yHE{n:Nat}(h:n<=sizeLine):Builtin.List.listTooLong n=false:=by
 unfold Builtin.List.listTooLong
 exact dF0 (by omega)
end
section
variable{X:Cx}
def yCM:V->List V->Hp->VK->Prop:=λx vs H Q=> ∃l xs y,x=.ref l/\vs=[y]/\H l=some (.lst xs)/\xs.length<sizeLine/\Q .non (upd H l (.lst (xs++[y])))
theorem yEP:MtM X "list.append" yCM:=by
 intro pins s σ H x vs v us Q I rx rv h
 obtain⟨l,xs,y,rfl,rfl,hH,hz,q⟩:=h
 cases rx
 obtain⟨u,rfl,ru⟩:=rv.one
 obtain⟨z,its,n,r,hl,e⟩:=I.lstM hH
 refine call_meets F.slot_list_append ⟨_,e,rfl⟩ F.entry_list_append (F.args_list_append_2 _ _) (PySem.list_append l its.toArray n u (by rw [sA];omega)) ⟨e,?_⟩
 refine⟨.non,_,I.lset (its':=its++[u]) hH e (by simp) (r.append (.cons ru .nil)) ?_,rfl,q⟩
 rw [lA,lS]
 omega
def rCat:R2:=λx y H Q=> ∃l b xs zs,x=.ref l/\y=.ref b/\H l=some (.lst xs)/\H b=some (.lst zs)/\xs.length+zs.length<=sizeLine/\ ∀p,H p=none->Q (.ref p) (upd H p (.lst (xs++zs)))
theorem yQO:OpR X (binaryOp .Add) rCat:=by
 intro pins s σ H x y v u Q I rx ry h
 obtain⟨l,b,xs,zs,rfl,rfl,hH,hB,hz,q⟩:=h
 cases rx
 cases ry
 obtain⟨z,its,n,r,hl,e⟩:=I.lstM hH
 obtain⟨z2,its2,n2,r2,hl2,e2⟩:=I.lstM hB
 refine PySem.P.add_list e e2 ?_ (by rw [sA,sA];omega)
 have ea:its.toArray++its2.toArray=(its++its2).toArray:=by simp
 rw [ea]
 exact⟨.ref _,_,I.lnew (t':=s.toks) (r.append r2) (by rw [lA];omega),rfl,q _ I.fresh⟩
def rRep:R2:=λx y H Q=> ∃l k xs,x=.ref l/\y=.int k/\H l=some (.lst xs)/\ -(2 ^ 63)<=k/\k<2 ^ 63/\xs.length * k.toNat<=sizeLine/\
 ∀p,H p=none->Q (.ref p) (upd H p (.lst (List.replicate k.toNat xs).flatten))
theorem len_rep{α:Type}(xs:List α)(k:Nat):(List.replicate k xs).flatten.length=k * xs.length:=by
 induction k with
 |zero=>simp
 |succ k ih=>rw [replicate_succ,flatten_cons,lA,ih,Nat.succ_mul,Nat.add_comm]
theorem yQP:OpR X (binaryOp .Mult) rRep:=by
 intro pins s σ H x y v u Q I rx ry h
 obtain⟨l,k,xs,rfl,rfl,hH,h1,h2,hz,q⟩:=h
 cases rx
 obtain⟨t,rfl⟩:=ry
 obtain⟨z,its,n,r,hl,e⟩:=I.lstM hH
 have hlen:its.toArray.size * k.toNat<=sizeLine:=by rw [sA, <-hl];exact hz
 have hcap: ¬its.toArray.size * k.toNat>(2 ^ 63 - 1) / 8:=by
  have:(sizeLine:Nat)<=(2 ^ 63 - 1) / 8:=by decide
  omega
 have hfit: ¬(!Builtin.List.listFitsIndex k)=true:=by
  rw [fitsIndex_both h1 h2]
  exact xF0
 have hlong: ¬Builtin.List.listTooLong (its.toArray.size * k.toNat)=true:=by
  rw [yHE hlen]
  exact xF0
 have hnew:List.foldl (λx1 x2=>x1++x2) #[] (List.replicate (if its.toArray.isEmpty=true then 0 else k.toNat) its.toArray)=(List.replicate k.toNat its).flatten.toArray:=by
  have f0: ∀m:Nat,List.foldl (λx1 x2=>x1++x2) #[] (List.replicate m its.toArray)=(List.replicate m its).flatten.toArray:=λm=>by
   have:=foldl_rep its m []
   rw [nil_append]at this
   exact this
  rw [f0]
  cases its with
  |nil=>simp
  |cons a r'=>rw [iN (by simp)]
 refine wpAny_binaryOp_repeat_ref (T:="list") (U:="int") (by decide) ⟨_,e,rfl⟩ (λs'=>typeIs_int s' k t) noFill_list_mul F.fills_int_mul F.slot_int_rmul repeat_list F.slot_int_index.lookup
  (call_meets F.slot_int_rmul (typeIs_int s k t) F.entry_int_rmul (F.args_int_rmul_2 _ _) (int___rmul___int_list k t l its.toArray n)
   ⟨e,rfl,⟨_,e,rfl⟩,call_meets F.slot_list_mul ⟨_,e,rfl⟩ F.entry_list_mul (F.args_list_mul_2 _ _) (AutoListH.list___mul___list_int_3 l its.toArray n k t hfit hcap hlong) ⟨e,?_⟩⟩)
 rw [hnew]
 exact⟨.ref _,_,I.lnew (t':=s.toks) (r.rep k.toNat) (by rw [len_rep,mul_comm];exact hz),rfl,q _ I.fresh⟩
end
end L2
namespace Att
open PySem PySem.W PySem.Calls PyProof.Rows
theorem zOG{P:Params}{h:Heap}: ∀(ns:List Int)(vs:List Value),WellAll P h vs (ns.map WData.int)->IntsAre vs ns:=by
 intro ns
 induction ns with
 |nil=>
  intro vs w
  rw [List.map_nil]at w
  cases w
  exact .nil
 |cons n ns ih=>
  intro vs w
  rw [map_cons]at w
  cases w with
  |cons a b=>
   cases a
   exact .cons _ _ (ih _ b)
theorem yEQ{l:OpenLaw}{n:Nat}(hn:l.most=some n){P:Params}{h:Heap}{args:List WData}{vals:List Value}
  (hpre:l.row.toRowW.claim.pre args=true) (hwl:WellAll P h vals args):
  ∃a vs ns,vals=[Value.ref a]/\args=[WData.list (ns.map WData.int)]/\h.get? a=some {cls:=.type "list",data:=.seq vs.toArray}/\IntsAre vs ns/\ns.length<=n:=by
 have hsh:WShape.hasAll [] args [.list .int]=true:=(pre_splitW hpre).1
 have hc:l.pre.holds [] {args:=args}=true:=(pre_splitW hpre).2
 obtain⟨d,r,rfl,h1,h2⟩:=hasAllW_cons hsh
 obtain rfl:=hasAllW_nil h2
 obtain⟨xs,rfl,h3⟩:=hasW_list h1
 obtain⟨ns,rfl⟩:=items_int h3
 have hlen:ns.length<=n:=by
  unfold OpenLaw.pre at hc
  have h4:(WTm.not (.lt (.lit (.int (n:Int))) (.len (.arg 0)))).holds [] {args:=[.list (ns.map .int)]}=true:=by
   have h4:=(holds_andW hc).1
   rw [hn]at h4
   exact h4
  have h5:=condW_of h4 (w_not (w_lt w_lit (w_len_list (w_arg rfl))))
  rw [lM]at h5
  refine Nat.le_of_not_lt λq=>?_
  have q':(n:Int)<((ns.length:Nat):Int):=by omega
  first
   |(rw [dT0 q']at h5;exact absurd h5 (by decide))
   |(simp at h5;omega)
 cases hwl with
 |cons w1 w2=>
  cases w2
  cases w1 with
  |list ho hall=>exact⟨_,_,ns,rfl,rfl,ho,zOG ns _ hall,hlen⟩
theorem yER(l:OpenLaw)(args:List WData):l.row.toRowW.claim.post args (.bool true) args=true:=
 postW_of (r:=l.row.toRowW) (X:=(true==true))
  (show WShape.has [] (.bool true) .bool=true by first |rfl|decide|simp [WShape.has,WShape.arms,WShape.armsAll])
  (show(WTm.eq .res (.lit (.bool true))).value [] {args:=args,res:=some (.bool true),after:=args}=some (.bool (true==true))from w_eq_bool (w_res rfl) w_lit) rfl
theorem attach_call{l:OpenLaw}{n:Nat}{q:Program}{loose:List Str}{XP:(Str->Option Value)->Heap->Prop}{YP:World->Heap->Prop}{d:DefRec}
  (hn:l.most=some n) (hdf:d.params.defaults=[])
  (call: ∀(w:World)(s₀ s₁:Shared)(mg mb:Str->Option Value)(fa:Addr)(o:Obj)(pm cd doc:Value)(a:Addr)(vs:List Value)(ns:List Int),
   Ground q loose [] XP w s₀ mg mb s₁.heap->YP w s₁.heap->
   s₁.heap.get? fa=some o->o.data=.func (docDef d.name d.params d.body d.scope pm cd doc)->s₁.heap.CodeRec cd d.name->mg d.name=some (.ref fa)->
   s₁.heap.get? a=some {cls:=.type "list",data:=.seq vs.toArray}->IntsAre vs ns->ns.length<=n->s₁.gens=#[]->
   codeAny (model l.prog w) callerA (.call (.ref fa) ⟨[.ref a],[]⟩) (λr s'=>r=.ok (.ret (.bool true))/\OldK s₁.heap s'.heap/\s'.os=s₁.os/\AllBare s'.gens) s₁):
  WalkO q loose XP YP l.row.toRowW d [] (λf vs=>PySem.call f vs):=by
 intro w s₀ s₁ mg mb G Y fa o pm cd doc dV kV ho hd hcd hD hmg hg args vals as hpre hlay hrd hwl hlo
 obtain rfl:dV=.none:=Dflts.none hD hdf
 obtain rfl:kV=.none:=Dflts.noKw hD
 obtain⟨a,vs,ns,rfl,rfl,hobj,hints,hlen⟩:=yEQ hn hpre hwl
 refine enter_call (codeAny_mono (call w s₀ s₁ mg mb fa o pm cd doc a vs ns G Y ho (fd_plain hd) hcd hmg hobj hints hlen hg) λr s' hq=>?_)
 obtain⟨rfl,h2,h3,h4⟩:=hq
 exact⟨.inl ⟨.bool true,.bool true,[],rfl,λ_=>rfl,.bool true,yER l _,λ_=>⟨List.Pairwise.nil,λ_ hm=>(nomatch hm)⟩⟩,h2,h3,h4⟩
end Att
namespace L2
open PySem PySem.Spec PyProof.Rows
theorem zTJ: ∀{vs:List Value}{ns:List Int},IntsAre vs ns->Vals (ns.map V.int) vs
 |_,_,.nil=>.nil
 |_,_,.cons n t h=>.cons ⟨t,rfl⟩ (zTJ h)
def yHF(H:Hp):Prop:= ∀b,H b=none\/ ∃o xs,H b=some (.frz o (.lst xs))
theorem yHG{P:Program}{w:World}{K:PySem.W.Frag}{mg mb:Str->Option Value}{CX:CXT}{k:Nat}{fa a:Addr}{fd:FuncData}{x:Str}{sp:Sp}{s₁:Shared}{vs:List Value}{ns:List Int}
  (KX:K.In s₁.heap) (hns:s₁.heap.Ns mainGlobals mg) (hb:s₁.heap.Ns builtinsNs mb) (hbb: ∀x:Str,x≠"__name__"->mb x=bootBuiltins x) (hlim:s₁.heap.NoLimit) (hg:s₁.gens=#[])
  (ha:s₁.heap.get? a=some {cls:=.type "list",data:=.seq vs.toArray}) (hi:IntsAre vs ns) (hl:ns.length<=sizeLine) (hr:Room k callerA)
  (F: ∀base:Heap,K.In base->base.Ns mainGlobals mg->FnOk P w K mg base CX k fa fd [x] sp) (hbind: ∀(s:Shared)(u:Value),BindsTo s fd ⟨[u],[]⟩ [(x,u)])
  (hsp: ∀H:Hp,yHF H->SqL K H a (ns.map V.int)->sp [.ref a] H (λv _=>v=.bl true) λ_ _ _=>False)
  (hCX: ∀H e s',CX [] H s₁ (λ_ _ _=>False) e s'->False):
  codeAny (model P w) callerA (.call (.ref fa) ⟨[.ref a],[]⟩) (λr s'=>r=.ok (.ret (.bool true))/\OldK s₁.heap s'.heap/\s'.os=s₁.os/\AllBare s'.gens) s₁:=by
 have rv:=zTJ hi
 have lenV:=hi.length
 have core: ∀H:Hp,yHF H->SqL K H a (ns.map V.int)->HOk P w H s₁.heap->(∀b,H b≠none->b=a)->(H a≠none->K.lookup a=none)->
   codeAny (model P w) callerA (.call (.ref fa) ⟨[.ref a],[]⟩) (λr s'=>r=.ok (.ret (.bool true))/\OldK s₁.heap s'.heap/\s'.os=s₁.os/\AllBare s'.gens) s₁:=by
  intro H hO hS hok hA hK
  have base_of: ∀{b:Addr}{o:Obj},s₁.heap.get? b=some o->H b=none->(zUC s₁.heap H).get? b=some o:=λe n=>yGM e n
  have noA: ∀{b:Addr}{o:Obj}{es:Array DictEntry}{ep:Nat},s₁.heap.get? b=some o->o.data=.dict es ep->H b=none:=λ{b o es ep} e d=>by
   cases q:H b with
   |none=>rfl
   |some u=>
    have e':b=a:=hA b (by rw [q];simp)
    subst e'
    rw [ha]at e;cases e
    have d':Data.seq vs.toArray _=Data.dict es ep:=d
    cases d'
  have nsK: ∀{b:Addr}{m:Str->Option Value},s₁.heap.Ns b m->(zUC s₁.heap H).Ns b m:=λ{b m} ⟨o,es,ep,e,d,r⟩=>⟨o,es,ep,base_of e (noA e d),d,r⟩
  have hKb:K.In (zUC s₁.heap H):=λb o e=>base_of (KX b o e) (by
   cases q:H b with
   |none=>rfl
   |some u=>
    have e':b=a:=hA b (by rw [q];simp)
    subst e'
    rw [hK (by rw [q];simp)]at e;cases e)
  have hM:Mod K mg (zUC s₁.heap H):=⟨hKb,nsK hns,⟨mb,nsK hb,hbb⟩,let ⟨mc,h1,h2⟩:=hlim;⟨mc,nsK h1,h2⟩⟩
  have e0:Env0 P w K mg (zUC s₁.heap H) callerA [] s₁ H:=⟨rfl,hM,λb o e=>yKL e,le_of_eq (yEI _ _),trivial,λb hb=>absurd (show b∈([]:List Addr)from hb) (by simp),hok,.of_eq hg⟩
  refine codeAny_mono ((F _ hKb (nsK hns)).run callerA [] s₁ H ⟨[.ref a],[]⟩ [.ref a] [.ref a] _ _ hr e0 (hbind s₁ (.ref a)) (.cons rfl .nil) (hsp H hO hS)) λr s' h=>?_
  cases r with
  |error e=>exact(hCX H e s' h).elim
  |ok fl=>
   cases fl with
   |next=>exact False.elim h
   |brk=>exact False.elim h
   |cont=>exact False.elim h
   |ret u=>
    obtain⟨v,H',os,bare,un,hok',r',q⟩:=h
    have q':v=.bl true:=q
    subst q'
    obtain rfl:u=Value.bool true:=r'
    refine⟨rfl,OldK.of_keep λb o e=>?_,os,bare⟩
    cases q:H b with
    |none=>exact un.keep b o e q (by intro z;exact absurd (show b∈([]:List Addr)from z) (by simp)) (by simp)
    |some u=>
     rcases hO b with z|⟨ob,xs,z⟩
     ·rw [q]at z;cases z
     ·have z2:=un.frzs b ob _ z
      obtain⟨e1,_⟩:=hok b _ z
      obtain⟨e2,_⟩:=hok' b _ z2
      rw [e]at e1;cases e1
      exact e2
 cases hk:K.lookup a with
 |some o=>
  have e:=KX a o hk
  rw [ha]at e
  cases e
  refine core (λ_=>none) (λ_=>.inl rfl) (.inr ⟨_,vs.toArray,_,hk,rfl,rfl,rfl,by rw [sA,lenV];exact hl,by simpa using rv⟩) (λb u z=>by have z':(none:Option HO)=some u:=z;cases z') (λb z=>absurd rfl z) λz=>absurd rfl z
 |none=>
  refine core (λb=>if b=a then some (.frz {cls:=.type "list",data:=.seq vs.toArray} (.lst (ns.map V.int)))else none) (λb=>?_) (.inl (.inr ⟨{cls:=.type "list",data:=.seq vs.toArray},iP rfl⟩)) (λb u z=>?_) (λb z=>?_) λ_=>hk
  ·by_cases hb:b=a
   ·exact .inr ⟨_,_,iP hb⟩
   ·exact .inl (iN hb)
  ·by_cases hb:b=a
   ·have z':=(iP hb).symm.trans z
    cases z'
    subst hb
    exact⟨ha,by rw [lM];exact hl,vs,_,rv,ha⟩
   ·have z':=(iN hb).symm.trans z
    cases z'
  ·by_cases hb:b=a
   ·exact hb
   ·exact absurd (iN hb) z
theorem walk_of{l:PySem.W.OpenLaw}{n k:Nat}{q:Program}{loose:List Str}{XP:(Str->Option Value)->Heap->Prop}{YP:World->Heap->Prop}{d:DefRec}{K:Params->PySem.W.Frag}{CX:World->CXT}{sp:World->Sp}{x:Str}
  (hn:l.most=some n) (hn2:n<=sizeLine) (hdf:d.params.defaults=[]) (hr:Room k callerA)
  (hY: ∀(w:World)(h:Heap),YP w h->(K w.params).In h)
  (F: ∀(w:World)(mg:Str->Option Value)(fa:Addr)(h:Heap),(K w.params).In h->h.Ns mainGlobals mg->mg d.name=some (.ref fa)->
   ∃fd:FuncData,(∀(s:Shared)(u:Value),BindsTo s fd ⟨[u],[]⟩ [(x,u)])/\
    ∀base:Heap,(K w.params).In base->base.Ns mainGlobals mg->FnOk l.prog w (K w.params) mg base (CX w) k fa fd [x] (sp w))
  (hsp: ∀(w:World)(H:Hp)(a:Addr)(ns:List Int),ns.length<=n->yHF H->SqL (K w.params) H a (ns.map V.int)->sp w [.ref a] H (λv _=>v=.bl true) λ_ _ _=>False)
  (hCX: ∀(w:World)(H:Hp)(s:Shared)(e:Value)(s':Shared),CX w [] H s (λ_ _ _=>False) e s'->False):
  PySem.W.WalkO q loose XP YP l.row.toRowW d [] (λf vs=>PySem.call f vs):=by
 refine Att.attach_call hn hdf λw s₀ s₁ mg mb fa o pm cd doc a vs ns G Y ho hd hcd hmg hobj hints hlen hg=>?_
 have KX:=hY w _ Y
 obtain⟨fd,hb,hF⟩:=F w mg fa _ KX G.T.g hmg
 exact yHG KX G.T.g G.T.b G.T.builtins G.T.nolimit hg hobj hints (le_trans hlen hn2) hr hF hb (λH hO hS=>hsp w H a ns hlen hO hS) λH e s'=>hCX w H s₁ e s'
def inClass(s:Stmt)(j:Nat):Stmt:=match s with
 |.ClassDef _ _ _ body _ _ _ _ _ _ _=>body.getD j (.Pass ⟨0,0,0,0⟩)
 |_=>.Pass ⟨0,0,0,0⟩
def wN(s:Stmt):Arguments:=match s with
 |.FunctionDef _ a _ _ _ _ _ _ _ _=>a
 |_=>{posonlyargs:=[],args:=[],vararg:=none,kwonlyargs:=[],kw_defaults:=[],kwarg:=none,defaults:=[]}
def xR(s:Stmt):List Stmt:=match s with
 |.FunctionDef _ _ b _ _ _ _ _ _ _=>b
 |_=>[]
def zG(s:Stmt):Scope:=match s with
 |.FunctionDef _ _ _ _ _ _ sc _ _ _=>sc
 |_=>{kind:=.function,names:=[],isGenerator:=false,isCoroutine:=false}
abbrev CX0:CXT:=λ_ _ _ _ _ _=>False
abbrev E0:XK:=λ_ _ _=>False
theorem yHH{X:Cx}:zPM CX0 X E0:=λ_ _ _ _ _ _ _ h=>h.elim
structure Fun(K:PySem.W.Frag)(x qual:Str)(st:Stmt)(f:Addr)(fd:FuncData):Prop where
 ex: ∃(oc:Value)(od:Option Addr)(kV doc pm:Value)(an:Option Addr)(cdv ct:Value)(osl:Array (Option Value)),
  fd=PySem.W.fnOf x qual (wN st) (xR st) (zG st) .none kV doc pm an cdv ct/\K.lookup f=some ⟨oc,od,.func fd,osl⟩/\PySem.W.codeIn K cdv qual=true
 kp:PySem.W.keepIn K (.ref f)=true
section
variable{P:Program}{w:World}{K:PySem.W.Frag}{mg:Str->Option Value}{base:Heap}
theorem Fun.ok{x qual:Str}{st:Stmt}{f:Addr}{fd:FuncData}{N ps:List Str}{k:Nat}{sp:Sp}(F:Fun K x qual st f fd)(S:FnScope N ps (zG st))(len: ∀vs H Q E,sp vs H Q E->vs.length=ps.length)
  (hbody: ∀(cdv:Value)(A:Around)(outer:List Env)(s:Shared)(H:Hp)(vs:List V)(Q:VK)(E:XK),Room k (A.deeper (envOfC qual (zG st) s.heap.objs.size f cdv))->sp vs H Q E->
   ∃t,PSs (zXF CX0 P w K mg base N qual (zG st) f cdv A outer s H E).nox (xR st) t/\t {nx:=λ_ H'=>Q .non H',rt:=Q} (start N vs) H):FnOk P w K mg base CX0 (k+1) f fd ps sp:=by
 obtain⟨oc,od,kV,doc,pm,an,cdv,ct,osl,rfl,lk,hcd⟩:=F.ex
 refine fn_of lk hcd S len λA outer s H vs Q E hr hsp=>?_
 obtain⟨t,h,q⟩:=hbody cdv A outer s H vs Q E hr hsp
 exact⟨t,h.nox,q⟩
theorem Fun.binds{x qual:Str}{st:Stmt}{f:Addr}{fd:FuncData}{ps:List Str}(F:Fun K x qual st f fd)
  (h: ∀(kV doc pm:Value)(an:Option Addr)(cdv ct:Value)(us:List Value),us.length=ps.length->bindArgs (PySem.W.fnOf x qual (wN st) (xR st) (zG st) .none kV doc pm an cdv ct) ⟨us,[]⟩=pure (ps.zip us)):Binds K fd ps []:=by
 obtain⟨oc,od,kV,doc,pm,an,cdv,ct,osl,rfl,lk,hcd⟩:=F.ex
 exact .all (h kV doc pm an cdv ct)
theorem zEQ{x qual:Str}{st:Stmt}{f:Addr}{oc:Value}{od an:Option Addr}{osl:Array (Option Value)}{kV doc pm cdv ct:Value}(l:K.lookup f=some ⟨oc,od,.func (PySem.W.fnOf x qual (wN st) (xR st) (zG st) .none kV doc pm an cdv ct),osl⟩)
  (c:PySem.W.codeIn K cdv qual=true) (k:PySem.W.keepIn K (.ref f)=true):Fun K x qual st f (PySem.W.fnOf x qual (wN st) (xR st) (zG st) .none kV doc pm an cdv ct):=⟨⟨oc,od,kV,doc,pm,an,cdv,ct,osl,rfl,l,c⟩,k⟩
end
section
variable{X:Cx}
theorem pv(i:Nat){x:Str}{pos:Pos}(hN:X.N[i]? =some x:=by rfl)(hv:Vis X.env.scope x:=by first |exact Or.inl rfl|exact Or.inr (Or.inl rfl)|exact Or.inr (Or.inr rfl))(hd:(x==("__debug__":Str))=false:=by decide)
  (hcd:(x==("__classdict__":Str))=false:=by decide):PE X (.Name x pos) (tVar i):=yPK hN hv hd hcd
end
end L2
set_option maxHeartbeats 4000000
namespace L2
open PySem PySem.Spec PyProof.Rows
def zGC(env:Env)(l:List (Str×NameKind))(cs:List (Str×Addr)):List (Str×Addr):=
 l.foldl (λc y=>if y.2==.free then(y.1,(env.cells.lookup y.1).getD 0)::c else c) cs
theorem zUL{α β:Type}{l:List α}{f:α->β->Sem (ForInStep β)}{g:β->α->β}: ∀(c:β),(∀x∈l, ∀c,f x c=pure (.yield (g c x)))->
  forIn l c f=pure (l.foldl g c):=by
 induction l with
 |nil=>intro c _;rfl
 |cons x l ih=>
  intro c h
  rw [List.forIn_cons,h x mF0,pure_bind]
  exact ih _ λy hy=>h y (mO _ hy)
theorem zSB{scope:Scope}{env:Env}(h: ∀y∈scope.names,y.2=.free-> ∃c,env.cells.lookup y.1=some c):closureFor scope env=pure (zGC env scope.names []):=by
 unfold closureFor zGC
 dsimp only
 rw [zUL (g:=λc y=>if y.2==.free then(y.1,(env.cells.lookup y.1).getD 0)::c else c) [] ?_]
 ·rfl
 ·intro y hy c
  obtain⟨n,k⟩:=y
  by_cases hk:k=.free
  ·subst hk
   obtain⟨a,ha⟩:=h _ hy rfl
   have ha':env.cells.lookup n=some a:=ha
   simp [cellOf,ha']
  ·have e:(k==NameKind.free)=false:=by simpa using hk
   simp [e]
theorem zNP{env:Env}: ∀(l:List (Str×NameKind))(cs:List (Str×Addr)),(∀y∈l,y.2=.free-> ∃c,env.cells.lookup y.1=some c)->(∀p∈cs,env.cells.lookup p.1=some p.2)->
  ∀p∈zGC env l cs,env.cells.lookup p.1=some p.2
 |[],_,_,h=>h
 |(n,k)::l,cs,hl,h=>by
  refine zNP l _ (λy hy=>hl y (mO _ hy)) λp hp=>?_
  by_cases hk:k=.free
  ·subst hk
   obtain⟨c,hc⟩:=hl _ mF0 rfl
   have hc':env.cells.lookup n=some c:=hc
   have hp':p∈(n,(env.cells.lookup n).getD 0)::cs:=hp
   rcases mC.mp hp' with rfl|hp
   ·show env.cells.lookup n=some ((env.cells.lookup n).getD 0)
    rw [hc'];rfl
   ·exact h p hp
  ·have hp':p∈(if(k==NameKind.free)=true then(n,(env.cells.lookup n).getD 0)::cs else cs):=hp
   rw [iN (by simpa using hk)]at hp'
   exact h p hp'
theorem zPO{env:Env}: ∀(l:List (Str×NameKind))(cs:List (Str×Addr))(p:Str×Addr),p∈cs->p∈zGC env l cs
 |[],_,_,h=>h
 |(n,k)::l,cs,p,h=>by
  refine zPO l _ p ?_
  show p∈(if(k==.free)=true then(n,(env.cells.lookup n).getD 0)::cs else cs)
  split
  ·exact mO _ h
  ·exact h
theorem zGV{env:Env}: ∀(l:List (Str×NameKind))(cs:List (Str×Addr))(n:Str),(n,NameKind.free)∈l-> ∃c,(n,c)∈zGC env l cs
 |[],_,_,h=>nomatch h
 |(m,k)::l,cs,n,h=>by
  rcases mC.mp h with e|h
  ·have e1:n=m:=congrArg Prod.fst e
   have e2:NameKind.free=k:=congrArg Prod.snd e
   subst e1 e2
   exact⟨(env.cells.lookup n).getD 0,zPO l _ _ mF0⟩
  ·exact zGV l _ n h
theorem jN{β:Type}: ∀{l:List (Str×β)}{n:Str},(∃c,(n,c)∈l)-> ∃c,l.lookup n=some c
 |[],_,h=>let ⟨_,z⟩:=h;nomatch z
 |(m,b)::l,n,h=>by
  by_cases e:n=m
  ·subst e
   exact⟨b,by simp [lookup_cons]⟩
  ·obtain⟨c,hc⟩:=h
   rcases mC.mp hc with z|z
   ·cases z;exact absurd rfl e
   ·obtain⟨c',h'⟩:=jN ⟨c,z⟩
    refine⟨c',?_⟩
    have e':(n==m)=false:=by simpa using e
    simp [lookup_cons,e',h']
def yAQ(scope osc:Scope):List (Str×NameKind):=scope.names.map λ(n,k)=>if(k==.free&&osc.kind==.function&&osc.names.lookup n==some .cell)then(n,.cell)else(n,k)
def zNQ(osc:Scope)(N:List Str)(sc:Scope)(idx:List Nat):Bool:=
 decide (sc.kind=.function)&&sc.names.all (λy=>decide (sc.names.lookup y.1=some y.2))&&
 sc.names.all (λy=>decide (y.2≠.free) || decide (osc.names.lookup y.1=some .cell) || decide (osc.names.lookup y.1=some .free))&&
 idx.all (λi=>match N[i]? with
  |some y=>(decide (osc.names.lookup y=some .cell) || decide (osc.names.lookup y=some .free))&&decide (sc.names.lookup y=some .free)
  |none=>false)
def rlS(sc osc:Scope):Scope:={sc with names:=yAQ sc osc}
abbrev clC(env:Env)(sc:Scope)(C:Addr):List (Str×Addr):=cellsFrom (C+1) sc.names (zGC env sc.names [])
theorem wH: ∀(l:List (Str×NameKind))(n:Nat)(acc:List (Str×Addr)),cellsFrom n l acc=cellsFrom n l []++acc
 |[],n,acc=>rfl
 |(x,k)::l,n,acc=>by
  unfold cellsFrom
  split
  ·rw [wH l (n+1) ((x,n)::acc),wH l (n+1) [(x,n)],aA];rfl
  ·exact wH l n acc
theorem zKP: ∀(l:List (Str×NameKind))(n:Nat){x:Str}{c:Addr},(x,c)∈cellsFrom n l []->(x,NameKind.cell)∈l/\n<=c
 |[],n,x,c,h=>nomatch h
 |(y,k)::l,n,x,c,h=>by
  unfold cellsFrom at h
  split at h
  ·rename_i hk
   rw [wH]at h
   rcases mem_append.mp h with h|h
   ·obtain⟨h1,h2⟩:=zKP l (n+1) h
    exact⟨mO _ h1,by omega⟩
   ·have e:=mS.mp h
    cases e
    have hk':k=.cell:=by simpa using hk
    subst hk'
    exact⟨mF0,le_refl _⟩
  ·obtain⟨h1,h2⟩:=zKP l n h
   exact⟨mO _ h1,h2⟩
theorem zJX{l:List (Str×NameKind)}{C:Nat}{x:Str}{c:Addr}(h:(x,c)∈cellsFrom (C+1) l []){n:Nat}(hC:n<=C):n<c:=Nat.lt_of_le_of_lt hC (zKP l (C+1) h).2
theorem zIU: ∀(l:List (Str×NameKind))(n:Nat){x:Str},(x,NameKind.cell)∈l-> ∃c,(x,c)∈cellsFrom n l []
 |[],n,x,h=>nomatch h
 |(y,k)::l,n,x,h=>by
  unfold cellsFrom
  rcases mC.mp h with e|h
  ·cases e
   rw [iP (by decide),wH]
   exact⟨n,mem_append_right _ mF0⟩
  ·split
   ·obtain⟨c,hc⟩:=zIU l (n+1) h
    rw [wH]
    exact⟨c,mem_append_left _ hc⟩
   ·exact zIU l n h
theorem own_apart: ∀(l:List (Str×NameKind))(n:Nat),(cellsFrom n l []).Pairwise λx y=>x.2≠y.2
 |[],n=>List.Pairwise.nil
 |(y,k)::l,n=>by
  unfold cellsFrom
  split
  ·rw [wH]
   refine List.pairwise_append.mpr ⟨own_apart l (n+1),List.pairwise_singleton _ _,λa ha b hb e=>?_⟩
   rw [mS.mp hb]at e
   have:=(zKP l (n+1) (x:=a.1) (c:=a.2) ha).2
   exact ne_of_gt this e
  ·exact own_apart l n
theorem zER{β:Type}(x:Str): ∀(l m:List (Str×β)),(l++m).lookup x=(l.lookup x).or (m.lookup x)
 |[],m=>rfl
 |(y,b)::l,m=>by
  rw [List.cons_append,lookup_cons,lookup_cons]
  cases x==y with
  |true=>rfl
  |false=>exact zER x l m
theorem zTK{β:Type}{x:Str}: ∀{l:List (Str×β)},(∀c,(x,c)∉l)->l.lookup x=none
 |[],_=>rfl
 |(y,b)::l,h=>by
  rw [lookup_cons]
  cases e:x==y with
  |true=>rw [beq_iff_eq.mp e]at h;exact absurd mF0 (h b)
  |false=>exact zTK λc hc=>h c (mO _ hc)
theorem zAH{env:Env}{sc:Scope}{C:Addr}{x:Str}{c:Addr}(e:(clC env sc C).lookup x=some c):(x,c)∈cellsFrom (C+1) sc.names []\/(zGC env sc.names []).lookup x=some c:=by
 unfold clC at e
 rw [wH,zER]at e
 cases z:(cellsFrom (C+1) sc.names []).lookup x with
 |some c'=>rw [z]at e;cases e;exact .inl (PySem.mem_of_lookup z)
 |none=>rw [z]at e;exact .inr e
theorem yQQ{env:Env}{sc:Scope}{C:Addr}{x:Str}{c:Addr}(h:(x,NameKind.cell)∈sc.names)(e:(clC env sc C).lookup x=some c):(x,c)∈cellsFrom (C+1) sc.names []:=by
 unfold clC at e
 rw [wH,zER]at e
 obtain⟨c',h'⟩:=jN (zIU sc.names (C+1) h)
 rw [h']at e
 cases e
 exact PySem.mem_of_lookup h'
theorem yLH{env:Env}{sc:Scope}{C:Addr}{x:Str}(h:(x,NameKind.cell)∉sc.names):(clC env sc C).lookup x=(zGC env sc.names []).lookup x:=by
 unfold clC
 rw [wH,zER,zTK λc hc=>h (zKP _ _ hc).1]
 rfl
def zME(σ:St)(idx:List Nat):St:=idx.map λi=>(σ[i]?).join
theorem zBL(σ:St)(idx:List Nat):(zME σ idx).length=idx.length:=by unfold zME;rw [lM]
def yD(X:Cx)(sc:Scope)(T:List Str)(idx:List Nat)(C:Addr)(s₂:Shared)(H1:Hp)(fp:List Addr):Cx where
 prog:=X.prog
 w:=X.w
 K:=X.K
 mg:=X.mg
 base:=X.base
 A:=X.A
 N:=T++idx.map λi=>(X.N[i]?).getD Str.empty
 s₀:=s₂
 H₀:=H1
 env:=compEnvC sc (clC X.env sc C) C X.env
 outer:=X.stack
 stack:=X.stack
 ex:=fp
 fn:=λx=>sc.names.lookup x==some .cell
 calm:=X.calm
 pn:=[]
 xe:=λ_ _=>False
def yHI(wi:TI)(g:TG)(tc:Addr->Shared->Hp->List Addr->TT)(te:Addr->Shared->Hp->List Addr->TE)(nt:Nat)(idx:List Nat):TE:=λσ H Q=>wi σ H λJ H1=> ∃W:Nat->Nat->List V->Hp->Prop,(∃m,W 0 m [] H1)/\ ∀i m ys H2,W i m ys H2->ys.length<=sizeLine/\
 ((J.stop i H2/\ ∀D,H2 D=none->Q (.ref D) (upd H2 D (.lst ys)))\/
   (J.go i H2/\ys.length<sizeLine/\ ∀x H3,J.yld i H2 x H3-> ∀τ:St,τ.length=nt->g x (τ++zME σ idx) H3 λσ4 H4=>(∃τ',σ4=τ'++zME σ idx/\τ'.length=nt)/\
    ∀C s₂ fp,tc C s₂ H1 fp σ4 H4 λb H5=>if b=true then te C s₂ H1 fp σ4 H5 λy H6=> ∃m',m'<m/\W (i+1) m' (ys++[y]) H6 else∃m',m'<m/\W (i+1) m' ys H5))
section
variable{prog:Program}{w:World}{A:Around}{R:Result->Shared->Prop}{s:Shared}
theorem zUM{elt target iter:Expr}{ifs:List Expr}{scope:Scope}{pos:Pos}{it acc:Value}{env:Env}(I:Nat->Shared->Prop)
  (turn: ∀n s,I n s->wpAny (model prog w) A (pyNext it) (λr s₁=>match r with
   |none=>R (.ok .next) s₁
   |some v=>wpAny (model prog w) A (letOwnedTupleGo target it v) (λ_ s₁'=>wpAny (model prog w) A (assign target env v) (λ_ s₂=>
     wpAny (model prog w) A (forIn ifs true λc r=>if r=true then do let ok <-isTrue c env (eval c env);pure (ForInStep.yield ok)else pure (ForInStep.yield r)) (λok s₃=>
      if ok=true then wpAny (model prog w) A (eval elt env) (λx s₄=>
       wpAny (model prog w) A (call (.builtin "list.append") [acc,x]) (λ_ s₅=> ∃m,m<n/\I m s₅) (λ_ _=>False) s₄) (λ_ _=>False) s₃
      else∃m,m<n/\I m s₃) (λ_ _=>False) s₂) (λ_ _=>False) s₁') (λ_ _=>False) s₁) (λ_ _=>False) s)
  (n:Nat) (h:I n s):codeAny (model prog w) A (.compLoop (.ListComp elt [⟨target,iter,ifs,0⟩] scope pos) 0 it acc env) R s:=by
 refine codeAny_loop rfl I (λn s hI=>?_) n h
 show wpAny _ A ((compTurn (.ListComp elt [⟨target,iter,ifs,0⟩] scope pos) 0 it acc env).onRaise (λx=>do noteFrame x env;theTreesLotGoes x)) _ _ s
 refine wpAny_noted ?_
 rw [compTurn_list]
 have no: ∀{E':Value->Shared->Prop}(v:Value)(s':Shared),False->E' v s':=λ_ _ z=>z.elim
 refine wB0 (wpAny_standAt (wB0 (wpAny_mono (turn n s hI) (λr s₁ h₁=>?_) (no))))
 cases r with
 |none=>exact wP0 h₁
 |some v=>
  refine wB0 (wpAny_mono h₁ (λ_ s₁' h₁'=>wB0 (wpAny_mono h₁' (λ_ s₂ h₂=>wB0 (wpAny_mono h₂ (λok s₃ h₃=>?_) no)) no)) no)
  cases ok with
  |false=>exact wP0 ⟨rfl,h₃⟩
  |true=>
   exact wB0 (wB0 (wpAny_mono h₃ (λx s₄ h₄=>wB0 (wpAny_mono h₄ (λ_ s₅ h₅=>wP0 (wP0 ⟨rfl,h₅⟩)) no)) no))
end
def yES(X:Cx)(ifs:List Expr)(t:TT):Prop:=
 ∀(pins:List (Addr×Obj))(s:Shared)(σ:St)(H:Hp)(Q:Bool->Hp->Prop),Inv X pins σ H s->t σ H Q->
  wpAny (model X.prog X.w) X.A (forIn ifs true λc r=>if r=true then do let ok <-isTrue c X.env (eval c X.env);pure (ForInStep.yield ok)else pure (ForInStep.yield r)) (TP X pins σ Q) X.xe s
def tNoIf:TT:=λ_ H Q=>Q true H
theorem yHJ{X:Cx}:yES X [] tNoIf:=λ_ _ _ H _ I h=>wpAny_tests_nil ⟨H,I,h⟩
theorem yHK{X:Cx}{c:Expr}{t:TT}(h:PT X c t):yES X [c] t:=λpins s σ H Q I q=>wpAny_tests_one (h pins s σ H Q I q)
structure CompF(osc:Scope)(N:List Str)(sc:Scope)(idx:List Nat):Prop where
 kind:sc.kind=.function
 uni: ∀y∈sc.names,sc.names.lookup y.1=some y.2
 frees: ∀y∈sc.names,y.2=.free->osc.names.lookup y.1=some .cell\/osc.names.lookup y.1=some .free
 cap: ∀i∈idx, ∃y,N[i]? =some y/\(osc.names.lookup y=some .cell\/osc.names.lookup y=some .free)/\sc.names.lookup y=some .free
theorem CompF.locs{osc:Scope}{N:List Str}{sc:Scope}{idx:List Nat}(F:CompF osc N sc idx): ∀y∈sc.names,y.2=.local->sc.names.lookup y.1=some .local:=λy hy e=>by rw [F.uni y hy,e]
theorem yLI{osc:Scope}{N:List Str}{sc:Scope}{idx:List Nat}(h:zNQ osc N sc idx=true):CompF osc N sc idx:=by
 unfold zNQ at h
 simp only [aE,all_eq_true,decide_eq_true_eq,or_eq_true]at h
 obtain⟨⟨⟨h1,h2⟩,h4⟩,h5⟩:=h
 refine⟨h1,λy hy=>h2 y hy,λy hy e=>?_,λi hi=>?_⟩
 ·rcases h4 y hy with(z|z)|z
  ·exact absurd e z
  ·exact .inl z
  ·exact .inr z
 ·have q:=h5 i hi
  cases e:N[i]? with
  |none=>rw [e]at q;cases q
  |some y=>
   rw [e]at q
   simp only [aE,decide_eq_true_eq,or_eq_true]at q
   exact⟨y,rfl,q.1,q.2⟩
theorem yHL{sc osc:Scope}{x:Str}(h:(yAQ sc osc).lookup x=some .cell\/(yAQ sc osc).lookup x=some .free):(x,NameKind.free)∈sc.names\/(x,NameKind.cell)∈sc.names:=by
 have key: ∀k',(k'=.cell\/k'=.free)->(x,k')∈yAQ sc osc->(x,NameKind.free)∈sc.names\/(x,NameKind.cell)∈sc.names:=by
  intro k' hk' hm
  unfold yAQ at hm
  obtain⟨⟨n,k⟩,hy,e⟩:=mM.mp hm
  dsimp only at e
  split at e
  ·rename_i hc
   cases e
   rw [aE,aE]at hc
   have:k=.free:=by simpa using hc.1.1
   subst this
   exact .inl hy
  ·cases e
   rcases hk' with rfl|rfl
   ·exact .inr hy
   ·exact .inl hy
 rcases h with h|h
 ·exact key _ (.inl rfl) (PySem.mem_of_lookup h)
 ·exact key _ (.inr rfl) (PySem.mem_of_lookup h)
theorem zTL{osc:Scope}{x:Str}: ∀{l:List (Str×NameKind)},l.lookup x=some .free->(l.map λ(n,k)=>if(k==NameKind.free&&osc.kind==.function&&osc.names.lookup n==some .cell)then(n,NameKind.cell)else(n,k)).lookup x=some .cell\/(l.map λ(n,k)=>if(k==NameKind.free&&osc.kind==.function&&osc.names.lookup n==some .cell)then(n,NameKind.cell)else(n,k)).lookup x=some .free
 |[],h=>by simp at h
 |(n,k)::l,h=>by
  have ih:=@zTL osc x l
  rw [lookup_cons]at h
  rw [map_cons]
  by_cases hc:(k==NameKind.free&&osc.kind==.function&&osc.names.lookup n==some .cell)=true
  ·dsimp only
   rw [iP hc,lookup_cons]
   cases hx:x==n with
   |true=>exact .inl rfl
   |false=>rw [hx]at h;exact ih h
  ·dsimp only
   rw [iN hc,lookup_cons]
   cases hx:x==n with
   |true=>rw [hx]at h;exact .inr h
   |false=>rw [hx]at h;exact ih h
section
variable{X:Cx}{pins:List (Addr×Obj)}{σ:St}{H1:Hp}{s₂:Shared}{sc:Scope}{T:List Str}{idx:List Nat}{C:Addr}{fp:List Addr}
theorem zXI(I:Inv X pins σ H1 s₂)(F:CompF X.env.scope X.N sc idx): ∀y∈sc.names,y.2=.free-> ∃c,X.env.cells.lookup y.1=some c:=
 λy hy e=>I.ok.has y.1 (F.frees y hy e)
theorem kY(I:Inv X pins σ H1 s₂)(F:CompF X.env.scope X.N sc idx){x:Str}{c:Addr}(e:(zGC X.env sc.names []).lookup x=some c):X.env.cells.lookup x=some c:=
 zNP sc.names [] (zXI I F) (λ_ z=>nomatch z) (x,c) (PySem.mem_of_lookup e)
theorem yLJ(I:Inv X pins σ H1 s₂)(F:CompF X.env.scope X.N sc idx){x:Str}{c:Addr}(hx:(x,NameKind.free)∈sc.names)(e:X.env.cells.lookup x=some c):(zGC X.env sc.names []).lookup x=some c:=by
 obtain⟨c',h'⟩:=jN (zGV (env:=X.env) sc.names [] x hx)
 rw [h']
 rw [kY I F h']at e
 exact e
theorem yET(I:Inv X pins σ H1 s₂)(F:CompF X.env.scope X.N sc idx)(hC:s₂.heap.objs.size<=C)(hfp: ∀b∈fp,zOF X pins H1 b)(hlt: ∀b∈fp,b<s₂.heap.objs.size):(yD X sc T idx C s₂ H1 fp).Ok where
 mod:=I.ok.mod
 kind:=F.kind
 glob:=I.ok.glob
 blt:=I.ok.blt
 above:=hC
 inj:=λx y c h1 h2=>by
  have low: ∀z,(zGC X.env sc.names []).lookup z=some c->c<s₂.heap.objs.size:=λz h=>let ⟨v,q⟩:=I.cell z c (kY I F h);q.lt
  rcases zAH h1 with z1|z1<;>rcases zAH h2 with z2|z2
  ·exact PySem.name_of_addr (own_apart sc.names (C+1)) z1 z2
  ·exact absurd (low y z2) (not_lt.mpr (le_of_lt (zJX z1 hC)))
  ·exact absurd (low x z1) (not_lt.mpr (le_of_lt (zJX z2 hC)))
  ·exact I.ok.inj x y c (kY I F z1) (kY I F z2)
 has:=λx hx=>by
  have hx':(yAQ sc X.env.scope).lookup x=some .cell\/(yAQ sc X.env.scope).lookup x=some .free:=hx
  show∃c,(clC X.env sc C).lookup x=some c
  unfold clC
  rw [wH]
  rcases yHL hx' with z|z
  ·obtain⟨c,hc⟩:=zGV (env:=X.env) sc.names [] x z
   exact jN ⟨c,mem_append_right _ hc⟩
  ·obtain⟨c,hc⟩:=zIU sc.names (C+1) z
   exact jN ⟨c,mem_append_left _ hc⟩
 cab:=λx c h e=>by
  have h':sc.names.lookup x=some .cell:=beq_iff_eq.mp h
  exact le_of_lt (zJX (yQQ (PySem.mem_of_lookup h') e) hC)
 hd:=I.ok.hd
 frames:=I.ok.frames
 stk:=.inl rfl
 exf:=λb hb=>⟨ne_of_lt (lt_of_lt_of_le (hlt b hb) hC),λx c e=>by
  rcases zAH e with z|z
  ·exact ne_of_gt (lt_trans (hlt b hb) (zJX z hC))
  ·exact(hfp b hb).2.2.2.2.1 x c (kY I F z)⟩
 bs:=I.bs
 bsz:=le_trans I.ok.bsz I.sz
 noex:=λb o e hb=>by
  rcases (hfp b hb).2.2.2.1 with z|z
  ·exact I.ok.noex b o e z
  ·exact absurd (lt_of_lt_of_le (Heap.lt_size e) (le_trans I.ok.bsz z)) (lt_irrefl _)
 exfs:=λb hb z=>by
  rcases mC.mp (I.stkSub b z)with e|e
  ·exact(hfp b hb).2.1 e
  ·exact(hfp b hb).2.2.1 e
 funs:=I.stack
 frf:=I.stkFree
theorem yAR{s₄:Shared}{m:Str->Option Value}(I:Inv X pins σ H1 s₂)(F:CompF X.env.scope X.N sc idx)(hC:s₂.heap.objs.size<=C)(hfp: ∀b∈fp,zOF X pins H1 b)(hlt: ∀b∈fp,b<s₂.heap.objs.size)
  (kp: ∀b o,s₂.heap.get? b=some o->s₄.heap.get? b=some o) (ho:s₄.os=s₂.os) (hg:s₄.gens=s₂.gens) (hn:s₄.heap.Ns C m) (hcl: ∀x c,(x,c)∈cellsFrom (C+1) sc.names []->s₄.heap.IsCell c none):
  Inv (yD X sc T idx C s₂ H1 fp) [] (T.map (λ_=>none)++zME σ idx) H1 s₄:=by
 have cellK: ∀c v,s₂.heap.IsCell c v->s₄.heap.IsCell c v:=λc v ⟨o,h1,h2⟩=>⟨o,kp c o h1,h2⟩
 refine⟨yET I F hC hfp hlt,ho,by rw [hg];exact I.bare,Un.kept kp,⟨m,hn,λi x v e1 e2 e3=>?_⟩,λx c e=>?_,I.hok.fresh hC,λx c e=>?_,λp hp=>absurd (show p∈([]:List (Addr×Obj))from hp) (by simp),I.hok.kept kp,?_⟩
 ·have e1':(T++idx.map λi=>(X.N[i]?).getD Str.empty)[i]? =some x:=e1
  by_cases hi:i<T.length
  ·rw [getElem?_append_left (by simpa using hi),getElem?_map]at e2
   cases z:T[i]? with
   |none=>rw [z]at e2;cases e2
   |some y=>rw [z]at e2;cases e2
  ·rw [getElem?_append_right (by simpa using hi)]at e2
   rw [getElem?_append_right (by omega)]at e1'
   rw [lM]at e2
   unfold zME at e2
   rw [getElem?_map]at e1' e2
   cases z:idx[i - T.length]? with
   |none=>rw [z]at e2;cases e2
   |some j=>
    rw [z]at e1' e2
    have hj:j∈idx:=mem_of_getElem? z
    obtain⟨y,hy,k1,k2⟩:=F.cap j hj
    have ex:y=x:=by
     have q:(X.N[j]?).getD Str.empty=x:=Option.some.inj e1'
     rw [hy]at q;exact q
    subst ex
    have ev:σ[j]? =some (some v):=by
     have q:(σ[j]?).join=some v:=Option.some.inj e2
     cases w':σ[j]? with
     |none=>rw [w']at q;cases q
     |some a=>rw [w']at q;have q':a=some v:=q;rw [q']
    obtain⟨m0,hn0,hl0⟩:=I.loc
    have vis:Vis X.env.scope y:=k1.elim (λz=>.inr (.inl z)) λz=>.inr (.inr z)
    obtain⟨u,r,l⟩:=hl0 j y v hy ev vis
    refine⟨u,r,?_⟩
    rcases l with⟨kl,_⟩|⟨_,c,hc,q⟩
    ·have kl':X.env.scope.names.lookup y=some .local:=kl
     rcases k1 with z|z<;>rw [z]at kl'<;>cases kl'
    ·have nc:(y,NameKind.cell)∉sc.names:=λz=>by
      have:=F.uni _ z
      rw [k2]at this
      cases this
     refine .inr ⟨zTL (osc:=X.env.scope) k2,c,?_,cellK c _ q⟩
     show(clC X.env sc C).lookup y=some c
     rw [yLH nc]
     exact yLJ I F (PySem.mem_of_lookup k2) hc
 ·rcases zAH e with z|z
  ·exact⟨none,hcl x c z⟩
  ·obtain⟨v,q⟩:=I.cell x c (kY I F z)
   exact⟨v,cellK c v q⟩
 ·rcases zAH e with z|z
  ·exact I.hok.fresh (le_of_lt (zJX z hC))
  ·exact I.freeC x c (kY I F z)
 ·show(T.map (λ_=>(none:Option V))++zME σ idx).length=(T++idx.map λi=>(X.N[i]?).getD Str.empty).length
  rw [lA,lA,lM,lM,zBL]
theorem yAS{σ1:St}{H':Hp}{s':Shared}{h':Heap}{D:Addr}{ys:List V}{its:List Value}{n:Nat}(I:Inv X pins σ H1 s₂)(hC:s₂.heap.objs.size<=C)(hfp: ∀b∈fp,zOF X pins H1 b)
  (J:Inv (yD X sc T idx C s₂ H1 fp) [] σ1 H' s') (hs:Heap.SameBut C s'.heap h') (hD:s₂.heap.objs.size<=D) (hDC:D≠C) (eD:s'.heap.get? D=some {cls:=.type "list",data:=.seq its.toArray n}) (nD:H' D=none) (r:Vals ys its) (hz:ys.length<=sizeLine):
  Inv X pins σ (upd H' D (.lst ys)) {s' with heap:=h'}:=by
 have old: ∀b o,s₂.heap.get? b=some o->b≠C/\b≠D:=λb o e=>⟨ne_of_lt (lt_of_lt_of_le (Heap.lt_size e) hC),ne_of_lt (lt_of_lt_of_le (Heap.lt_size e) hD)⟩
 have oldH: ∀b u,H1 b=some u->b≠D:=λb u e=>ne_of_lt (lt_of_lt_of_le (I.hok.lt e) hD)
 have nC:H' C=none:=J.free
 have B:Un (frs X.stack) fp H1 H' s₂.heap s'.heap:=J.base
 have mv: ∀b o,b≠C->s'.heap.get? b=some o->h'.get? b=some o:=λb o hb e=>(hs.2 b hb).trans e
 refine I.call' (s':={s' with heap:=h'}) (ch:=fp) J.os ⟨λb o e q hb hx=>?_,λb o e q hb hx=>?_,λb o e q hx=>?_,λb o e hx=>?_,λb xs e=>?_,λb o u e=>?_,λb ps e=>?_⟩ ?_ J.bare λb hb=>⟨(hfp b hb).2.2.2.1,(hfp b hb).2.1,(hfp b hb).2.2.2.2.1,(hfp b hb).2.2.2.2.2⟩
 ·exact mv b o (old b o e).1 (B.keep b o e q hb hx)
 ·obtain⟨sl,z⟩:=B.slot b o e q hb hx
  exact⟨sl,mv b _ (old b o e).1 z⟩
 ·rw [yC (old b o e).2];exact B.free b o e q hx
 ·obtain⟨o',z⟩:=B.there b o e hx
  exact⟨o',mv b o' (old b o e).1 z⟩
 ·rw [yC (oldH b _ e)];exact B.tups b xs e
 ·rw [yC (oldH b _ e)];exact B.frzs b o u e
 ·obtain⟨more,z⟩:=B.tbls b ps e
  exact⟨more,by rw [yC (oldH b _ e)];exact z⟩
 ·intro b u e
  by_cases hb:b=D
  ·subst hb
   rw [yS]at e;cases e
   exact⟨hz,its,n,r,mv b _ hDC eD⟩
  ·rw [yC hb]at e
   refine(J.hok b u e).stay (λc v hc q=>mv c v ?_ q) (λc q=>by rw [yC (yV q nD)];exact q) λc xs q=>by rw [yC (yV q nD)];exact q
   rcases hc with z|z
   ·rw [z];exact yV e nC
   ·exact yV z nC
end
section
variable{X:Cx}
theorem zSC{M:Model}{A:Around}{E:Value->Shared->Prop}{s:Shared}{scope:Scope}{globals:Addr}{closure:List (Str×Addr)}{qual:Str}{outer:Env}{Q:Env->Shared->Prop}
  (hQ:Q (newEnv scope s.heap.objs.size globals (cellsFrom (s.heap.objs.size+1) scope.names closure) qual none .none (some outer) builtinsNs) {s with heap:=pushCells (s.heap.push {cls:=.type "dict",data:=.dict #[]}) scope.names}):
  wpAny M A (newFunctionEnv scope globals closure [] qual none .none (some outer)) Q E s:=by
 simp only [newFunctionEnv,Option.isSome_some,if_true]
 refine wB0 (wpAny_alloc ?_)
 refine wB0 (wpAny_layCells _ (λname kind cells=>by cases hkc:kind==NameKind.cell<;>simp [hkc]) _ _ _ _ ?_)
 rw [show({s with heap:=s.heap.push {cls:=.type "dict",data:=.dict #[]}}:Shared).heap.objs.size=s.heap.objs.size+1 from Heap.size_push ..]
 simp only [List.forIn_nil]
 exact wB0 (wP0 (wP0 hQ))
theorem zXJ{elt tg iter:Expr}{ifs:List Expr}{pos:Pos}{sc:Scope}{wi:TI}{g:TG}{tc:Addr->Shared->Hp->List Addr->TT}{te:Addr->Shared->Hp->List Addr->TE}(T:List Str)(idx:List Nat)
  (hi:PI X tg iter wi) (hcalm:X.calm=true) (hB:zNQ X.env.scope X.N sc idx=true)
  (hg: ∀C s₂ H1 fp,PG (yD X sc T idx C s₂ H1 fp) tg g)
  (hc: ∀C s₂ H1 fp,yES (yD X sc T idx C s₂ H1 fp) ifs (tc C s₂ H1 fp))
  (he: ∀C s₂ H1 fp,PE (yD X sc T idx C s₂ H1 fp) elt (te C s₂ H1 fp))
  (hs: ∀x,foldedSetIterable iter X.env x=pure x:=by intro _;rfl)
  {pins:List (Addr×Obj)} {s:Shared} {σ:St} {H:Hp} {Q:VK} {use:Option (Value->Sem Unit)} {Q':Value->Shared->Prop} (I:Inv X pins σ H s) (h:yHI wi g tc te T.length idx σ H Q)
  (fin: ∀(D C:Addr)(s4:Shared)(H':Hp)(r:_),(∀h',Heap.SameBut C s4.heap h'->Inv X pins σ H' {s4 with heap:=h'})->zOF X pins H' C->(∃m,s4.heap.Ns C m)->Q (.ref D) H'->
   compPost (model X.prog X.w) X.A X.xe use Q' (.ref D) C (.ok r) s4):
  wpAny (model X.prog X.w) X.A (comprehension (.ListComp elt [⟨tg,iter,ifs,0⟩] sc pos) sc X.env (firstIterPos [⟨tg,iter,ifs,0⟩] pos) (newList []) false (eval iter X.env) use) Q' X.xe s:=by
 have cf:=yLI hB
 refine wpAny_comprehension_free (use:=use) (cl:=zGC X.env sc.names []) rfl hs (zSB (zXI I cf)) cf.kind cf.locs ?_
 refine thn (hi pins s σ H _ I h) λv s1 h1=>thn h1 λitv s2 h2=>?_
 obtain⟨it,fp,tn,J,H2,e,I2,Tn,st2,f2,W,⟨m0,w0⟩,turn⟩:=h2
 subst e
 have hlt: ∀b∈fp,b<s2.heap.objs.size:=λb hb=>let ⟨o,e,_⟩:=Tn.obj _ _ st2 b hb;Heap.lt_size e
 refine wpAny_newObj_type (zSC ?_)
 dsimp only
 generalize hH2:s2.heap.push {cls:=.type "list",dict:=none,data:=.seq ([]:List Value).toArray}=HH
 generalize hh1:pushCells (HH.push {cls:=.type "dict",data:=.dict #[]}) sc.names=h₁
 have hns₁:h₁.Ns HH.objs.size (λ_=>none):=hh1▸(Heap.Ns.new HH (.type "dict")).keeps (pushCells_keeps _ _)
 have hC:HH.objs.size=s2.heap.objs.size+1:=by rw [<-hH2,Heap.size_push]
 have hDC:s2.heap.objs.size≠HH.objs.size:=by rw [hC];exact ne_of_lt (lt_succ_self _)
 have hCle:s2.heap.objs.size<=HH.objs.size:=by rw [hC];exact le_succ _
 have up1: ∀b o,HH.get? b=some o->h₁.get? b=some o:=λb o e=>hh1▸pushCells_keeps _ _ b o (hP0 _ e)
 have old: ∀b o,s2.heap.get? b=some o->h₁.get? b=some o:=λb o e=>up1 b o (hH2▸hP0 _ e)
 have eD0:h₁.get? s2.heap.objs.size=some {cls:=.type "list",data:=.seq ([]:List Value).toArray 0}:=up1 _ _ (hH2▸Heap.get?_push_size _ rfl)
 have hcl: ∀x c,(x,c)∈cellsFrom (HH.objs.size+1) sc.names []->h₁.IsCell c none:=λx c hm=>by
  have ok:=cellsFrom_ok sc.names (HH.push {cls:=.type "dict",data:=.dict #[]}) 0 [] ⟨λ_ _ hm=>(nomatch hm),List.Pairwise.nil⟩ (zero_le _)
  rw [Heap.size_push,hh1]at ok
  exact(ok.empty x c hm).1
 have nD0:H2 s2.heap.objs.size=none:=I2.hok.fresh (le_refl _)
 have cD: ∀x c,(clC X.env sc HH.objs.size).lookup x=some c->c≠s2.heap.objs.size:=λx c e=>by
  rcases zAH e with z|z
  ·exact ne_of_gt (zJX z hCle)
  ·obtain⟨v,q⟩:=I2.cell x c (kY I2 cf z)
   exact ne_of_lt q.lt
 have loop: ∀s4:Shared,s4={s2 with heap:=h₁}->
   codeAny (model X.prog X.w) X.A (.compLoop (.ListComp elt [⟨tg,iter,ifs,0⟩] sc pos) 0 (.ref it) (.ref s2.heap.objs.size) (compEnvC sc (clC X.env sc HH.objs.size) HH.objs.size X.env))
    (compPost (model X.prog X.w) X.A X.xe use Q' (.ref s2.heap.objs.size) HH.objs.size) s4:=by
  rintro s4 rfl
  have J0:Inv (yD X sc T idx HH.objs.size s2 H2 fp) [] (T.map (λ_=>none)++zME σ idx) H2 {s2 with heap:=h₁}:=
   yAR I2 cf hCle f2 hlt old rfl rfl hns₁ hcl
  refine zUM (λk s'=> ∃(i:Nat)(ys:List V)(its:List Value)(n:Nat)(H':Hp)(τ:St),Inv (yD X sc T idx HH.objs.size s2 H2 fp) [] (τ++zME σ idx) H' s'/\τ.length=T.length/\tn i s'.heap/\(∀b∈fp,H' b=none)/\
   s'.heap.get? s2.heap.objs.size=some {cls:=.type "list",data:=.seq its.toArray n}/\H' s2.heap.objs.size=none/\Vals ys its/\W i k ys H') ?_ m0
   ⟨0,[],[],0,H2,T.map (λ_=>none),J0,by rw [lM],Tn.keep _ _ _ st2 λb _ o e=>old b o e,λb hb=>(f2 b hb).1,eD0,nD0,.nil,w0⟩
  rintro k s3 ⟨i,ys,its,n,H3,τ,I3,hτ,st3,fr3,eD3,nD3,r3,w3⟩
  obtain⟨hz,alt⟩:=turn i k ys H3 w3
  have hDfs:s2.heap.objs.size∉(yD X sc T idx HH.objs.size s2 H2 fp).fs:=λz=>by
   obtain⟨_,o,ho,_⟩:=I2.stack.mem (show s2.heap.objs.size∈frs X.stack from z)
   exact absurd (Heap.lt_size ho) (lt_irrefl _)
  have pinD: ∀{H':Hp}{s':Shared},s'.heap.get? s2.heap.objs.size=some {cls:=.type "list",data:=.seq its.toArray n}->H' s2.heap.objs.size=none->
    ∀p∈[(s2.heap.objs.size,({cls:=.type "list",data:=.seq its.toArray n}:Obj))],s'.heap.get? p.1=some p.2/\H' p.1=none/\p.1≠(yD X sc T idx HH.objs.size s2 H2 fp).env.locals/\p.1∉(yD X sc T idx HH.objs.size s2 H2 fp).fs/\ ∀v,p.2.data≠.cell v:=
   λ{H' s'} e1 e2 p hp=>by
    have ep:p=(s2.heap.objs.size,{cls:=.type "list",data:=.seq its.toArray n}):=by simpa using hp
    subst ep
    exact⟨e1,e2,hDC,hDfs,λv z=>by cases z⟩
  have P3:Inv (yD X sc T idx HH.objs.size s2 H2 fp) [(s2.heap.objs.size,{cls:=.type "list",data:=.seq its.toArray n})] (τ++zME σ idx) H3 s3:=I3.pins_of (pinD eD3 nD3)
  have stat: ∀{H':Hp},(∀b∈fp,H' b=none)-> ∀b∈fp,zOF (yD X sc T idx HH.objs.size s2 H2 fp) [(s2.heap.objs.size,{cls:=.type "list",data:=.seq its.toArray n})] H' b:=λ{H'} hn b hb=>by
   have hb2:=hlt b hb
   refine⟨hn b hb,ne_of_lt (lt_of_lt_of_le hb2 hCle),I3.ok.exfs b hb,.inl hb,λx c e=>?_,λp hp=>?_⟩
   ·rcases zAH e with z|z
    ·exact ne_of_gt (lt_trans hb2 (zJX z hCle))
    ·exact(f2 b hb).2.2.2.2.1 x c (kY I2 cf z)
   have ep:p=(s2.heap.objs.size,({cls:=.type "list",data:=.seq its.toArray n}:Obj)):=by simpa [yD]using hp
   subst ep
   exact ne_of_gt hb2
  rcases alt with⟨stop,q⟩|⟨go,hl2,step⟩
  ·refine thn (Tn.done (yD X sc T idx HH.objs.size s2 H2 fp) rfl rfl rfl hcalm i _ s3 _ H3 (λ_ _=>False) P3 (stat fr3) st3 stop) λr s4 ⟨hr,I4⟩=>?_
   subst hr
   obtain⟨m,hn,_⟩:=id I4.loc
   have eD4:=(I4.pin (s2.heap.objs.size,{cls:=.type "list",data:=.seq its.toArray n}) (by simp)).1
   exact fin _ _ s4 _ _ (λh' hs'=>yAS I2 hCle f2 (I4.pins_of (λp hp=>nomatch hp)) hs' (le_refl _) hDC eD4 nD3 r3 hz) (I2.fpOk hCle (by rw [yC (Ne.symm hDC)];exact I4.free)) ⟨m,hn⟩ (q _ nD3)
  ·refine thn (Tn.item (yD X sc T idx HH.objs.size s2 H2 fp) rfl rfl rfl hcalm i _ s3 _ H3 (λ_ _=>False) P3 (stat fr3) st3 go) λr s4 ⟨u,hr,h4⟩=>?_
   subst hr
   refine thn h4 λ_ s5 ⟨x,H5,I5,r5,y5,st5,fr5⟩=>?_
   have I5':=I5.pinned (stat fr5) (Tn.obj _ _ st5)
   refine thn (hg HH.objs.size s2 H2 fp _ s5 _ H5 x u _ I5' r5 (step x H5 y5 τ hτ)) λ_ s6 ⟨σ6,H6,I6,⟨τ',e6,l6⟩,q6⟩=>?_
   subst e6
   refine thn (hc HH.objs.size s2 H2 fp _ s6 _ H6 _ I6 (q6 HH.objs.size s2 fp)) λok s7 ⟨H7,I7,q7⟩=>?_
   have mD:(s2.heap.objs.size,({cls:=.type "list",data:=.seq its.toArray n}:Obj))∈(yD X sc T idx HH.objs.size s2 H2 fp).pn++([(s2.heap.objs.size,{cls:=.type "list",data:=.seq its.toArray n})]++zMC fp s5.heap):=
    mem_append_right _ (mem_append_left _ (by simp))
   have mF: ∀b∈fp, ∀o,s5.heap.get? b=some o->(b,o)∈(yD X sc T idx HH.objs.size s2 H2 fp).pn++([(s2.heap.objs.size,{cls:=.type "list",data:=.seq its.toArray n})]++zMC fp s5.heap):=λb hb o e=>
    mem_append_right _ (mem_append_right _ (zJV hb e))
   cases ok with
   |false=>
    rw [iN xF0]at q7 ⊢
    obtain⟨m',hm',w7⟩:=q7
    refine⟨m',hm',i+1,ys,its,n,H7,τ',I7.pins_of (λp hp=>nomatch hp),l6,Tn.keep _ _ _ st5 λb hb o e=>(I7.pin _ (mF b hb o e)).1,λb hb=>?_,(I7.pin _ mD).1,(I7.pin _ mD).2.1,r3,w7⟩
    obtain⟨o,e,d⟩:=Tn.obj _ _ st5 b hb
    exact(I7.pin _ (mF b hb o e)).2.1
   |true=>
    rw [iP rfl]at q7 ⊢
    refine thn (he HH.objs.size s2 H2 fp _ s7 _ H7 _ I7 q7) λy s8 ⟨yv,H8,I8,r8,m',hm',w8⟩=>?_
    have eD8:=(I8.pin _ mD).1
    have nD8:=(I8.pin _ mD).2.1
    have hl:=r3.length
    have q:=PySem.IsL.update eD8 (λz=>z.push y)
    rw [show its.toArray.push y=(its++[y]).toArray by simp]at q
    refine call_meets PySem.F.slot_list_append ⟨_,eD8,rfl⟩ PySem.F.entry_list_append (PySem.F.args_list_append_2 _ _) (PySem.list_append s2.heap.objs.size its.toArray n y (by rw [sA];omega)) ⟨eD8,?_⟩
    have I9:Inv (yD X sc T idx HH.objs.size s2 H2 fp) [] (τ'++zME σ idx) H8 s8:=I8.pins_of (λp hp=>nomatch hp)
    have up: ∀b o,b≠s2.heap.objs.size->s8.heap.get? b=some o->(s8.heap.update s2.heap.objs.size (Obj.mapSeq λz=>z.push y)).get? b=some o:=λb o hb e=>(Heap.get?_update_other s8.heap _ (Ne.symm hb)).trans e
    refine⟨m',hm',i+1,ys++[yv],its++[y],_,H8,τ',I9.turned (t':=s8.toks) up nD8 hDC (.inr (le_refl _)) cD (λp hp=>nomatch hp),l6,?_,λb hb=>?_,q,nD8,r3.append (.cons r8 .nil),w8⟩
    ·exact Tn.keep _ _ _ st5 λb hb o e=>up b o (ne_of_lt (hlt b hb)) (I8.pin _ (mF b hb o e)).1
    ·obtain⟨o,e,d⟩:=Tn.obj _ _ st5 b hb
     exact(I8.pin _ (mF b hb o e)).2.1
 exact codeAny_compStart_list (loop _ rfl) (Tn.self X.A 0 _ _ _ (Tn.keep _ _ _ st2 λb _ o e=>old b o e) (loop _ rfl))
theorem yLK{elt tg iter:Expr}{ifs:List Expr}{pos:Pos}{sc:Scope}{wi:TI}{g:TG}{tc:Addr->Shared->Hp->List Addr->TT}{te:Addr->Shared->Hp->List Addr->TE}(T:List Str)(idx:List Nat)
  (hi:PI X tg iter wi) (hcalm:X.calm=true) (hB:zNQ X.env.scope X.N sc idx=true)
  (hg: ∀C s₂ H1 fp,PG (yD X sc T idx C s₂ H1 fp) tg g)
  (hc: ∀C s₂ H1 fp,yES (yD X sc T idx C s₂ H1 fp) ifs (tc C s₂ H1 fp))
  (he: ∀C s₂ H1 fp,PE (yD X sc T idx C s₂ H1 fp) elt (te C s₂ H1 fp))
  (hs: ∀x,foldedSetIterable iter X.env x=pure x:=by intro _;rfl):
  PE X (.ListComp elt [⟨tg,iter,ifs,0⟩] sc pos) (yHI wi g tc te T.length idx):=by
 intro pins s σ H Q I h
 rw [eval_ListComp]
 exact zXJ T idx hi hcalm hB hg hc he hs (use:=none) I h λD C s4 H' r J _ ⟨m,hn⟩ q=>⟨m,hn,λh' hs'=>⟨.ref D,H',J h' hs',rfl,q⟩⟩
end
def mkS(x:List Nat):Str:=⟨x.toArray⟩
theorem kI(x:List Nat):(mkS x).length=x.length:=by simp [mkS,Str.length]
theorem zKQ(x:List Nat):(mkS x).cps.toList=x:=by simp [mkS]
theorem zUN{x y:List Nat}(h:mkS x=mkS y):x=y:=by
 have:=congrArg (λs=>s.cps.toList) h
 simpa [mkS]using this
theorem zUO(x y:List Nat):mkS x++mkS y=mkS (x++y):=by
 show Str.append (mkS x) (mkS y)=_
 simp [Str.append,mkS]
theorem yLL(c:Nat):(⟨#[c]⟩:Str)=mkS [c]:=rfl
def gS{α:Type}(xs:List α)(lo hi:Option Int):List α:=(xs.drop (HT.sIx xs.length 0 lo)).take (HT.sIx xs.length xs.length hi - HT.sIx xs.length 0 lo)
theorem strIdx(lo hi:Option Int)(n:Nat):Builtin.Str.strSliceIndices lo hi 1 n=(List.range (HT.sIx n n hi - HT.sIx n 0 lo)).map (HT.sIx n 0 lo+·):=by
 have e1:(match lo with |none=>(if(1:Int)>0 then(0:Int)else(n:Int) - 1)|some i=>if(1:Int)>0 then max 0 (min (if i<0 then i+(n:Int)else i) (n:Int))else max (-1) (min (if i<0 then i+(n:Int)else i) ((n:Int) - 1)))=((HT.sIx n 0 lo:Nat):Int):=by
  cases lo with
  |none=>simp [HT.sIx]
  |some i=>
   simp only [HT.sIx,show(1:Int)>0 by decide,if_true]
   by_cases h:i<0
   ·simp only [h,if_true];omega
   ·simp only [h,iF];omega
 have e2:(match hi with |none=>(if(1:Int)>0 then(n:Int)else -1)|some i=>if(1:Int)>0 then max 0 (min (if i<0 then i+(n:Int)else i) (n:Int))else max (-1) (min (if i<0 then i+(n:Int)else i) ((n:Int) - 1)))=((HT.sIx n n hi:Nat):Int):=by
  cases hi with
  |none=>simp [HT.sIx]
  |some i=>
   simp only [HT.sIx,show(1:Int)>0 by decide,if_true]
   by_cases h:i<0
   ·simp only [h,if_true];omega
   ·simp only [h,iF];omega
 rw [<-sliceRange_one]
 unfold Builtin.Str.strSliceIndices
 dsimp only
 rw [<-e1, <-e2]
 cases lo<;>cases hi<;>rfl
theorem yEU(x:List Nat)(lo hi:Option Int):Txt.slice (mkS x) lo hi=mkS (gS x lo hi):=by
 unfold Txt.slice
 rw [strIdx,kI]
 have hp:((List.range (HT.sIx x.length x.length hi - HT.sIx x.length 0 lo)).map (HT.sIx x.length 0 lo+·)).filterMap ((mkS x).cps[·]?)=gS x lo hi:=by
  have:=pick_run (mkS x).cps (HT.sIx x.length 0 lo) (HT.sIx x.length x.length hi - HT.sIx x.length 0 lo)
  rw [zKQ]at this
  exact this
 rw [hp]
 split
 ·rename_i hc
  rw [aE]at hc
  have hl:HT.sIx x.length x.length hi - HT.sIx x.length 0 lo=x.length:=by simpa using hc.2
  have h2:HT.sIx x.length x.length hi<=x.length:=HT.sIx_le _ _ (le_refl _) _
  have h3:HT.sIx x.length 0 lo<=x.length:=HT.sIx_le _ _ (zero_le _) _
  have e:HT.sIx x.length 0 lo=0:=by omega
  unfold gS
  rw [hl,e]
  simp
 ·rfl
section
variable{X:Cx}
def rSlS:V->Option Int->Option Int->Hp->VK->Prop:=λx lo hi H Q=> ∃cs,x=.str (mkS cs)/\cs.length<=sizeLine/\Q (.str (mkS (gS cs lo hi))) H
theorem yQR:SlR X rSlS:=by
 intro pins s σ H x v vl vu lo hi sl Q I rx hs pl pu h
 obtain⟨cs,rfl,hz,q⟩:=h
 obtain⟨t,rfl⟩:=rx
 have hl:(Txt.slice (mkS cs) lo hi).length<=sizeLine:=le_trans (Txt.slice_le _ _ _) (by rw [kI];exact hz)
 rw [<-yEU]at q
 refine⟨"str",_,slot_str_getitem.lookup,typeIs_str _ _ _,?_⟩
 obtain⟨o,ho,hc,hd⟩:=hs
 cases pl with
 |none=>
  cases pu with
  |none=>exact wpAny_getItem_str_slice (l:=none) (u:=none) (st:=none) ⟨o,ho,hc,hd⟩ rfl (post_val_or_str ⟨hl,λt' k=>⟨.str _,H,I.tok _,⟨_,rfl⟩,q⟩⟩)
  |int j uj=>exact wpAny_getItem_str_slice (l:=none) (u:=some (j,uj)) (st:=none) ⟨o,ho,hc,hd⟩ rfl (post_val_or_str ⟨hl,λt' k=>⟨.str _,H,I.tok _,⟨_,rfl⟩,q⟩⟩)
 |int i ui=>
  cases pu with
  |none=>exact wpAny_getItem_str_slice (l:=some (i,ui)) (u:=none) (st:=none) ⟨o,ho,hc,hd⟩ rfl (post_val_or_str ⟨hl,λt' k=>⟨.str _,H,I.tok _,⟨_,rfl⟩,q⟩⟩)
  |int j uj=>exact wpAny_getItem_str_slice (l:=some (i,ui)) (u:=some (j,uj)) (st:=none) ⟨o,ho,hc,hd⟩ rfl (post_val_or_str ⟨hl,λt' k=>⟨.str _,H,I.tok _,⟨_,rfl⟩,q⟩⟩)
def zPP(cs:List Nat)(k:Int):List Nat:=(List.replicate k.toNat cs).flatten
theorem zMF(cs:List Nat): ∀(k:Nat)(acc:List Nat),List.foldl (λx1 x2=>x1++x2) acc.toArray (List.replicate k cs.toArray)=(acc++(List.replicate k cs).flatten).toArray
 |0,acc=>by simp
 |k+1,acc=>by
  rw [replicate_succ,foldl_cons,replicate_succ,flatten_cons, <-aA, <-zMF cs k (acc++cs)]
  simp
theorem yAT:OpR X (binaryOp .Mult) (λx y H Q=> ∃cs k,x=.str (mkS cs)/\y=.int k/\0<=k/\k<1000/\cs.length<=1000/\Q (.str (mkS (zPP cs k))) H):=by
 intro pins s σ H x y v u Q I rx ry h
 obtain⟨cs,k,rfl,rfl,h0,h1,hc,q⟩:=h
 obtain⟨t,rfl⟩:=rx
 obtain⟨t',rfl⟩:=ry
 have hs:sizeLine=16777216:=sizeLine_eq
 have hprod:cs.length * k.toNat<=1000 * 1000:=mul_le_mul hc (by omega)
 have e: ∀b,Q (.str b) H->b=mkS (zPP cs k)->True:=λ_ _ _=>trivial
 refine PySem.P.mul_str (by rw [dF0 (by omega),dF0 (by omega)];rfl) (λh2 _=>?_) (λ_ _=>?_) ?_
 ·rw [kI]
  have hk:1<=k:=by omega
  have:(1000:Int)<=(2 ^ 63 - 1) / k:=by
   rw [Int.le_ediv_iff_mul_le (by omega)]
   omega
  omega
 ·rw [kI]
  unfold PySem.Builtin.Str.tooLong
  exact dF0 (by omega)
 ·have made: ∀(z:Str),z=mkS (zPP cs k)->z.length<=sizeLine->(Made.str z).post (EP X pins σ Q) s:=λz ez hz=>⟨hz,by rw [ez];exact⟨.str _,H,I.tok _,⟨_,rfl⟩,q⟩⟩
  have hlen:(zPP cs k).length=k.toNat * cs.length:=by
   unfold zPP;rw [len_rep]
  by_cases hn:k<1
  ·rw [iP hn]
   have hk:k.toNat=0:=by omega
   refine made _ ?_ (by decide)
   unfold zPP;rw [hk];rfl
  ·rw [iN hn]
   by_cases h3:(k==1 || (mkS cs).length==0)=true
   ·rw [iP h3]
    refine⟨.str (mkS cs),H,I,⟨_,rfl⟩,?_⟩
    have:zPP cs k=cs:=by
     unfold zPP
     rw [or_eq_true]at h3
     rcases h3 with h3|h3
     ·have:k=1:=by simpa using h3
      subst this
      simp
     ·rw [kI]at h3
      have:cs=[]:=by cases cs with |nil=>rfl|cons _ _=>simp at h3
      subst this
      simp
    rw [this]at q
    exact q
   ·rw [iN h3]
    refine made _ ?_ ?_
    ·unfold zPP mkS
     have:=zMF cs k.toNat []
     rw [nil_append]at this
     exact congrArg Str.mk this
    ·have e3:(List.foldl (λx1 x2=>x1++x2) #[] (List.replicate k.toNat (mkS cs).cps))=(zPP cs k).toArray:=by
      have:=zMF cs k.toNat []
      rw [nil_append]at this
      exact this
     show(List.foldl (λx1 x2=>x1++x2) #[] (List.replicate k.toNat (mkS cs).cps)).size<=sizeLine
     rw [e3,sA,hlen,mul_comm]
     omega
theorem zUP:CallR X (.builtin "all") (λxs H Q=> ∃(a:Addr)(bs:List Bool),xs=[.ref a]/\SqL X.K H a (bs.map V.bl)/\X.calm=true/\Q (.bl (bs.all id)) H):=by
 intro pins s σ H xs us Q I r h
 obtain⟨a,bs,rfl,hq,hc,q⟩:=h
 obtain⟨u,rfl,ru⟩:=vals1 r
 cases ru
 obtain⟨its,rv,pl,hz⟩:=I.list hq
 have hlen:its.length=bs.length:=by rw [<-rv.length,lM]
 refine PySem.call_all_walk (wpAny_pyIter_list pl.isList ?_)
 have hI:a≠s.heap.objs.size:=by
  obtain⟨o,ho,_⟩:=pl.isList
  exact ne_of_lt (Heap.lt_size ho)
 have I1: ∀(h':Heap)(tk:Nat),(∀b o,b∉[s.heap.objs.size]->(s.heap.push {cls:=.type "list_iterator",data:=.fields #[.ref a,.int 0 0]}).get? b=some o->h'.get? b=some o)->Inv X pins σ H {s with heap:=h',toks:=tk}:=λh' tk k=>
  I.kept λb o e=>k b o (by simpa using ne_of_lt (Heap.lt_size e)) (hP0 _ e)
 refine⟨s.heap.objs.size,[s.heap.objs.size,a],[s.heap.objs.size],its.toArray.size,_,_,λi=>bs.getD i false,rfl,PySem.Walks.list (by first |exact I.ok.hd hc|exact(show X.A.in1.handled=none from I.ok.hd hc)) _ a hI its.toArray,⟨⟨_,Heap.get?_push_size _ rfl,rfl,rfl⟩,pl.isList.at λo e=>hP0 _ e⟩,?_,λh' tk k=>?_⟩
 ·intro i v s' Q' E' hv hQ'
  have hv':its[i]? =some v:=by simpa using hv
  have hi:i<bs.length:=by rw [<-hlen];exact(gS0.mp hv').1
  have hb:(bs.map V.bl)[i]? =some (V.bl (bs.getD i false)):=by
   rw [getElem?_map,gE0 hi]
   simp [getD_eq_getElem?_getD,hi]
  obtain⟨u',hu',rv'⟩:=rv.get hb
  rw [hv']at hu'
  cases hu'
  cases rv'
  exact wpAny_truthy_bool hQ'
 ·refine⟨.bl (bs.all id),H,I1 h' tk k,?_,q⟩
  show Value.bool _=Value.bool _
  congr 1
  rw [sA,hlen]
  have: ∀(l:List Bool),(List.range l.length).all (λi=>l.getD i false)=l.all id:=by
   intro l
   rw [Bool.eq_iff_iff,all_eq_true,all_eq_true]
   constructor
   ·intro h x hx
    obtain⟨i,hi,rfl⟩:=getElem_of_mem hx
    have:=h i (mem_range.mpr hi)
    simpa [getD_eq_getElem?_getD,hi]using this
   ·intro h i hi
    have hi':=mem_range.mp hi
    have:=h l[i] (getElem_mem hi')
    simpa [getD_eq_getElem?_getD,hi']using this
  exact this bs
end
section
variable{X:Cx}
def PU(X:Cx)(e:Expr)(t:TE):Prop:= ∀(i:Nat)(x:Str)(pos' pos:Pos),X.N.Nodup->X.N[i]? =some x->Loc X.env.scope x->(X.fn x=true\/X.env.scope.names.lookup x=some .local)->
 swapsWith e (some (.Name x pos')) pos.line X.env=pure true->PS X (.Assign [.Name x pos'] e pos) (tAsg t (yGP i))
theorem yLM{elt tg iter:Expr}{ifs:List Expr}{pos:Pos}{sc:Scope}{wi:TI}{g:TG}{tc:Addr->Shared->Hp->List Addr->TT}{te:Addr->Shared->Hp->List Addr->TE}(T:List Str)(idx:List Nat)
  (hi:PI X tg iter wi) (hcalm:X.calm=true) (hB:zNQ X.env.scope X.N sc idx=true)
  (hg: ∀C s₂ H1 fp,PG (yD X sc T idx C s₂ H1 fp) tg g)
  (hc: ∀C s₂ H1 fp,yES (yD X sc T idx C s₂ H1 fp) ifs (tc C s₂ H1 fp))
  (he: ∀C s₂ H1 fp,PE (yD X sc T idx C s₂ H1 fp) elt (te C s₂ H1 fp))
  (hs: ∀x,foldedSetIterable iter X.env x=pure x:=by intro _;rfl):
  PU X (.ListComp elt [⟨tg,iter,ifs,0⟩] sc pos) (yHI wi g tc te T.length idx):=by
 intro i x pos' spos hN hix hx hf hsw pins s σ H D I h
 rw [exec_Assign_Name_used _ _ _ _ hsw]
 refine wB0 (wpAny_standAt (wB0 ?_))
 rw [arm_evalThenUse_ListComp]
 refine wB0 (thn (zXJ T idx hi hcalm hB hg hc he hs (use:=some (assign (.Name x pos') X.env)) (Q':=λ_ s'=> ∃σ' H',Inv X pins σ' H' s'/\D.nx σ' H') I h λDd C s4 H' _ J4 fo hm q=>?_) λ_ s' hq=>wP0 (wP0 hq))
 have I4:=J4 s4.heap (Heap.SameBut.refl _ _)
 refine wpAny_assign_Name (zTC I4 hN hix hx (show RelV (.ref Dd) (.ref Dd)from rfl) (λs' I' ⟨a,hs',ha⟩=>?_) hf)
 obtain⟨m,hm⟩:=hm
 have hCa:C≠a:=by
  rintro rfl
  rcases ha with ha|ha
  ·exact fo.2.1 ha
  ·exact fo.2.2.2.2.1 x _ ha rfl
 refine⟨m,hm.sameBut hs' hCa,λh' hs''=>⟨_,H',?_,q⟩⟩
 exact I'.turned (t':=s'.toks) (λb o hb e=>(hs''.2 b hb).trans e) fo.1 fo.2.1 fo.2.2.2.1 fo.2.2.2.2.1 fo.2.2.2.2.2
end
end L2
namespace L2
namespace M
open PySem PySem.Spec PyProof.Rows
theorem yQS{A:Around}{s:Shared}{y x:V}{u v:Value}(ry:RelV y u)(rx:RelV x v)(fy:wV y=true)(fx:wV x=true):SeqAt.RcAt A s u v (eqV y x):=by
 cases y with
 |non=>
  cases ry
  cases x with
  |non=>cases rx;exact SeqAt.RcAt.none_none
  |bl b=>cases rx;exact SeqAt.RcAt.none_bool b
  |int b=>obtain⟨t,rfl⟩:=rx;exact SeqAt.RcAt.none_int b t
  |str b=>obtain⟨t,rfl⟩:=rx;exact SeqAt.RcAt.none_str b t
  |_=>exact absurd (show false=true from fx) xF0
 |bl a=>
  cases ry
  cases x with
  |non=>cases rx;exact SeqAt.RcAt.bool_none a
  |bl b=>cases rx;exact SeqAt.RcAt.bool_bool a b
  |int b=>obtain⟨t,rfl⟩:=rx;exact SeqAt.RcAt.bool_int a b t
  |str b=>obtain⟨t,rfl⟩:=rx;exact SeqAt.RcAt.bool_str a b t
  |_=>exact absurd (show false=true from fx) xF0
 |int a=>
  obtain⟨t',rfl⟩:=ry
  cases x with
  |non=>cases rx;exact SeqAt.RcAt.int_none a t'
  |bl b=>cases rx;exact SeqAt.RcAt.int_bool a t' b
  |int b=>obtain⟨t,rfl⟩:=rx;exact SeqAt.RcAt.int_int a t' b t
  |str b=>obtain⟨t,rfl⟩:=rx;exact SeqAt.RcAt.int_str a t' b t
  |_=>exact absurd (show false=true from fx) xF0
 |str a=>
  obtain⟨t',rfl⟩:=ry
  cases x with
  |non=>cases rx;exact SeqAt.RcAt.str_none a t'
  |bl b=>cases rx;exact SeqAt.RcAt.str_bool a t' b
  |int b=>obtain⟨t,rfl⟩:=rx;exact SeqAt.RcAt.str_int a t' b t
  |str b=>obtain⟨t,rfl⟩:=rx;exact SeqAt.RcAt.str_str a t' b t
  |_=>exact absurd (show false=true from fx) xF0
 |_=>exact absurd (show false=true from fy) xF0
theorem yQT{A:Around}{s:Shared}{y x:V}{u v:Value}(ry:RelV y u)(rx:RelV x v)(fy:wV y=true)(fx:wV x=true):SeqAt.RcNeAt A s u v (!eqV y x):=by
 cases y with
 |non=>
  cases ry
  cases x with
  |non=>cases rx;exact SeqAt.RcNeAt.none_none
  |bl b=>cases rx;exact SeqAt.RcNeAt.none_bool b
  |int b=>obtain⟨t,rfl⟩:=rx;exact SeqAt.RcNeAt.none_int b t
  |str b=>obtain⟨t,rfl⟩:=rx;exact SeqAt.RcNeAt.none_str b t
  |_=>exact absurd (show false=true from fx) xF0
 |bl a=>
  cases ry
  cases x with
  |non=>cases rx;exact SeqAt.RcNeAt.bool_none a
  |bl b=>cases rx;exact SeqAt.RcNeAt.bool_bool a b
  |int b=>obtain⟨t,rfl⟩:=rx;exact SeqAt.RcNeAt.bool_int a b t
  |str b=>obtain⟨t,rfl⟩:=rx;exact SeqAt.RcNeAt.bool_str a b t
  |_=>exact absurd (show false=true from fx) xF0
 |int a=>
  obtain⟨t',rfl⟩:=ry
  cases x with
  |non=>cases rx;exact SeqAt.RcNeAt.int_none a t'
  |bl b=>cases rx;exact SeqAt.RcNeAt.int_bool a t' b
  |int b=>obtain⟨t,rfl⟩:=rx;exact SeqAt.RcNeAt.int_int a t' b t
  |str b=>obtain⟨t,rfl⟩:=rx;exact SeqAt.RcNeAt.int_str a t' b t
  |_=>exact absurd (show false=true from fx) xF0
 |str a=>
  obtain⟨t',rfl⟩:=ry
  cases x with
  |non=>cases rx;exact SeqAt.RcNeAt.str_none a t'
  |bl b=>cases rx;exact SeqAt.RcNeAt.str_bool a t' b
  |int b=>obtain⟨t,rfl⟩:=rx;exact SeqAt.RcNeAt.str_int a t' b t
  |str b=>obtain⟨t,rfl⟩:=rx;exact SeqAt.RcNeAt.str_str a t' b t
  |_=>exact absurd (show false=true from fx) xF0
 |_=>exact absurd (show false=true from fy) xF0
theorem eq_ll{A:Around}{s:Shared}{x:V}{v:Value}{l:Addr}{items:Array Value}(rx:RelV x v)(fx:wV x=true)(hl:s.heap.IsList l items)(hu:A.units<cLine):SeqAt.EqAt A s (.ref l) v false:=by
 cases x with
 |non=>cases rx;exact SeqAt.EqAt.list_none hl hu
 |bl b=>cases rx;exact SeqAt.EqAt.list_bool b hl hu
 |int b=>obtain⟨t,rfl⟩:=rx;exact SeqAt.EqAt.list_int b t hl hu
 |str b=>obtain⟨t,rfl⟩:=rx;exact SeqAt.EqAt.list_str b t hl hu
 |_=>exact absurd (show false=true from fx) xF0
theorem eq_lr{A:Around}{s:Shared}{x:V}{v:Value}{l:Addr}{items:Array Value}(rx:RelV x v)(fx:wV x=true)(hl:s.heap.IsList l items)(hu:A.units<cLine):SeqAt.EqAt A s v (.ref l) false:=by
 cases x with
 |non=>cases rx;exact SeqAt.EqAt.none_list hl hu
 |bl b=>cases rx;exact SeqAt.EqAt.bool_list b hl hu
 |int b=>obtain⟨t,rfl⟩:=rx;exact SeqAt.EqAt.int_list b t hl hu
 |str b=>obtain⟨t,rfl⟩:=rx;exact SeqAt.EqAt.str_list b t hl hu
 |_=>exact absurd (show false=true from fx) xF0
theorem yOR{A:Around}{s:Shared}{x:V}{v:Value}{l:Addr}{items:Array Value}(rx:RelV x v)(fx:wV x=true)(hl:s.heap.IsTuple l items)(hu:A.units<cLine):SeqAt.EqAt A s (.ref l) v false:=by
 cases x with
 |non=>cases rx;exact SeqAt.EqAt.tuple_none hl hu
 |bl b=>cases rx;exact SeqAt.EqAt.tuple_bool b hl hu
 |int b=>obtain⟨t,rfl⟩:=rx;exact SeqAt.EqAt.tuple_int b t hl hu
 |str b=>obtain⟨t,rfl⟩:=rx;exact SeqAt.EqAt.tuple_str b t hl hu
 |_=>exact absurd (show false=true from fx) xF0
theorem yOS{A:Around}{s:Shared}{x:V}{v:Value}{l:Addr}{items:Array Value}(rx:RelV x v)(fx:wV x=true)(hl:s.heap.IsTuple l items)(hu:A.units<cLine):SeqAt.EqAt A s v (.ref l) false:=by
 cases x with
 |non=>cases rx;exact SeqAt.EqAt.none_tuple hl hu
 |bl b=>cases rx;exact SeqAt.EqAt.bool_tuple b hl hu
 |int b=>obtain⟨t,rfl⟩:=rx;exact SeqAt.EqAt.int_tuple b t hl hu
 |str b=>obtain⟨t,rfl⟩:=rx;exact SeqAt.EqAt.str_tuple b t hl hu
 |_=>exact absurd (show false=true from fx) xF0
theorem rc_ll{A:Around}{s:Shared}{x:V}{v:Value}{l:Addr}{items:Array Value}(rx:RelV x v)(fx:wV x=true)(hl:s.heap.IsList l items)(hu:A.units<cLine):SeqAt.RcAt A s (.ref l) v false:=by
 cases x with
 |non=>cases rx;exact SeqAt.RcAt.list_none hl hu
 |bl b=>cases rx;exact SeqAt.RcAt.list_bool b hl hu
 |int b=>obtain⟨t,rfl⟩:=rx;exact SeqAt.RcAt.list_int b t hl hu
 |str b=>obtain⟨t,rfl⟩:=rx;exact SeqAt.RcAt.list_str b t hl hu
 |_=>exact absurd (show false=true from fx) xF0
theorem rc_lr{A:Around}{s:Shared}{x:V}{v:Value}{l:Addr}{items:Array Value}(rx:RelV x v)(fx:wV x=true)(hl:s.heap.IsList l items)(hu:A.units<cLine):SeqAt.RcAt A s v (.ref l) false:=by
 cases x with
 |non=>cases rx;exact SeqAt.RcAt.none_list hl hu
 |bl b=>cases rx;exact SeqAt.RcAt.bool_list b hl hu
 |int b=>obtain⟨t,rfl⟩:=rx;exact SeqAt.RcAt.int_list b t hl hu
 |str b=>obtain⟨t,rfl⟩:=rx;exact SeqAt.RcAt.str_list b t hl hu
 |_=>exact absurd (show false=true from fx) xF0
theorem rc_tl{A:Around}{s:Shared}{x:V}{v:Value}{l:Addr}{items:Array Value}(rx:RelV x v)(fx:wV x=true)(hl:s.heap.IsTuple l items)(hu:A.units<cLine):SeqAt.RcAt A s (.ref l) v false:=by
 cases x with
 |non=>cases rx;exact SeqAt.RcAt.tuple_none hl hu
 |bl b=>cases rx;exact SeqAt.RcAt.tuple_bool b hl hu
 |int b=>obtain⟨t,rfl⟩:=rx;exact SeqAt.RcAt.tuple_int b t hl hu
 |str b=>obtain⟨t,rfl⟩:=rx;exact SeqAt.RcAt.tuple_str b t hl hu
 |_=>exact absurd (show false=true from fx) xF0
theorem rc_tr{A:Around}{s:Shared}{x:V}{v:Value}{l:Addr}{items:Array Value}(rx:RelV x v)(fx:wV x=true)(hl:s.heap.IsTuple l items)(hu:A.units<cLine):SeqAt.RcAt A s v (.ref l) false:=by
 cases x with
 |non=>cases rx;exact SeqAt.RcAt.none_tuple hl hu
 |bl b=>cases rx;exact SeqAt.RcAt.bool_tuple b hl hu
 |int b=>obtain⟨t,rfl⟩:=rx;exact SeqAt.RcAt.int_tuple b t hl hu
 |str b=>obtain⟨t,rfl⟩:=rx;exact SeqAt.RcAt.str_tuple b t hl hu
 |_=>exact absurd (show false=true from fx) xF0
theorem rn_ll{A:Around}{s:Shared}{x:V}{v:Value}{l:Addr}{items:Array Value}(rx:RelV x v)(fx:wV x=true)(hl:s.heap.IsList l items)(hu:A.units<cLine):SeqAt.RcNeAt A s (.ref l) v true:=by
 cases x with
 |non=>cases rx;exact SeqAt.RcNeAt.list_none hl hu
 |bl b=>cases rx;exact SeqAt.RcNeAt.list_bool b hl hu
 |int b=>obtain⟨t,rfl⟩:=rx;exact SeqAt.RcNeAt.list_int b t hl hu
 |str b=>obtain⟨t,rfl⟩:=rx;exact SeqAt.RcNeAt.list_str b t hl hu
 |_=>exact absurd (show false=true from fx) xF0
theorem rn_lr{A:Around}{s:Shared}{x:V}{v:Value}{l:Addr}{items:Array Value}(rx:RelV x v)(fx:wV x=true)(hl:s.heap.IsList l items)(hu:A.units<cLine):SeqAt.RcNeAt A s v (.ref l) true:=by
 cases x with
 |non=>cases rx;exact SeqAt.RcNeAt.none_list hl hu
 |bl b=>cases rx;exact SeqAt.RcNeAt.bool_list b hl hu
 |int b=>obtain⟨t,rfl⟩:=rx;exact SeqAt.RcNeAt.int_list b t hl hu
 |str b=>obtain⟨t,rfl⟩:=rx;exact SeqAt.RcNeAt.str_list b t hl hu
 |_=>exact absurd (show false=true from fx) xF0
theorem rn_tl{A:Around}{s:Shared}{x:V}{v:Value}{l:Addr}{items:Array Value}(rx:RelV x v)(fx:wV x=true)(hl:s.heap.IsTuple l items)(hu:A.units<cLine):SeqAt.RcNeAt A s (.ref l) v true:=by
 cases x with
 |non=>cases rx;exact SeqAt.RcNeAt.tuple_none hl hu
 |bl b=>cases rx;exact SeqAt.RcNeAt.tuple_bool b hl hu
 |int b=>obtain⟨t,rfl⟩:=rx;exact SeqAt.RcNeAt.tuple_int b t hl hu
 |str b=>obtain⟨t,rfl⟩:=rx;exact SeqAt.RcNeAt.tuple_str b t hl hu
 |_=>exact absurd (show false=true from fx) xF0
theorem rn_tr{A:Around}{s:Shared}{x:V}{v:Value}{l:Addr}{items:Array Value}(rx:RelV x v)(fx:wV x=true)(hl:s.heap.IsTuple l items)(hu:A.units<cLine):SeqAt.RcNeAt A s v (.ref l) true:=by
 cases x with
 |non=>cases rx;exact SeqAt.RcNeAt.none_tuple hl hu
 |bl b=>cases rx;exact SeqAt.RcNeAt.bool_tuple b hl hu
 |int b=>obtain⟨t,rfl⟩:=rx;exact SeqAt.RcNeAt.int_tuple b t hl hu
 |str b=>obtain⟨t,rfl⟩:=rx;exact SeqAt.RcNeAt.str_tuple b t hl hu
 |_=>exact absurd (show false=true from fx) xF0
theorem yHM{y:V}(h:wV y=true):eqV y y=true:=by
 cases y<;>first |rfl|(simp [eqV];done)|exact absurd (show false=true from h) xF0
inductive NK where
 |key (k:Key)|tup (ks:List NK)
noncomputable instance:DecidableEq NK:=λ_ _=>Classical.propDecidable _
section
variable{prog:Program}{w:World}(knd:KeyKind prog w Key)
mutual
def isN(h:Heap):NK->Value->Prop
 |.key k,v=>knd.is k v=true
 |.tup ks,v=> ∃a o items n,v=.ref a/\h.get? a=some o/\o.cls=.type "tuple"/\o.data=.seq items n/\zJI h ks items.toList
def zJI(h:Heap):List NK->List Value->Prop
 |[],vs=>vs=[]
 |k::ks,vs=> ∃v r,vs=v::r/\isN h k v/\zJI h ks r
end
mutual
def zGW:NK->Int
 |.key k=>knd.hash k
 |.tup ks=>reduceHash (Builtin.Tuple.tupleHashOf (zPQ ks))
def zPQ:List NK->List Int
 |[]=>[]
 |k::ks=>zGW k::zPQ ks
end
mutual
def zPR:NK->Nat
 |.key _=>1
 |.tup ks=>bZ ks+1
def bZ:List NK->Nat
 |[]=>0
 |k::ks=>zPR k+bZ ks
end
mutual
def zOH:NK->Nat
 |.key _=>0
 |.tup ks=>zNR ks+1
def zNR:List NK->Nat
 |[]=>0
 |k::ks=>max (zOH k) (zNR ks)
end
variable{knd}
theorem hX{h:Heap}{k:Key}{v:Value}:isN knd h (.key k) v↔knd.is k v=true:=by unfold isN;exact Iff.rfl
theorem wO{h:Heap}{ks:List NK}{v:Value}:isN knd h (.tup ks) v↔ ∃a o items n,v=.ref a/\h.get? a=some o/\o.cls=.type "tuple"/\o.data=.seq items n/\zJI knd h ks items.toList:=by
 conv=>lhs;unfold isN
theorem kO{h:Heap}{vs:List Value}:zJI knd h [] vs↔vs=[]:=by unfold zJI;exact Iff.rfl
theorem xD{h:Heap}{k:NK}{ks:List NK}{vs:List Value}:zJI knd h (k::ks) vs↔ ∃v r,vs=v::r/\isN knd h k v/\zJI knd h ks r:=by
 conv=>lhs;unfold zJI
mutual
theorem zUQ{h:Heap}: ∀{x y:NK}{v:Value},isN knd h x v->isN knd h y v->x=y
 |.key k,.key k',v,hx,hy=>by rw [knd.inj v k k' (hX.mp hx) (hX.mp hy)]
 |.key k,.tup ks,v,hx,hy=>by
  obtain⟨a,o,items,n,rfl,_⟩:=wO.mp hy
  have:=knd.byValue _ _ (hX.mp hx)
  simp [carriedByValue]at this
 |.tup ks,.key k,v,hx,hy=>by
  obtain⟨a,o,items,n,rfl,_⟩:=wO.mp hx
  have:=knd.byValue _ _ (hX.mp hy)
  simp [carriedByValue]at this
 |.tup ks,.tup ks',v,hx,hy=>by
  obtain⟨a,o,items,n,e,ho,_,hd,hi⟩:=wO.mp hx
  obtain⟨a',o',items',n',e',ho',_,hd',hi'⟩:=wO.mp hy
  rw [e]at e'
  cases e'
  obtain rfl:o=o':=Option.some.inj (ho.symm.trans ho')
  rw [hd]at hd'
  injection hd' with h1 _
  subst h1
  rw [zXK hi hi']
theorem zXK{h:Heap}: ∀{xs ys:List NK}{vs:List Value},zJI knd h xs vs->zJI knd h ys vs->xs=ys
 |[],[],_,_,_=>rfl
 |[],y::ys,vs,hx,hy=>by
  obtain⟨v,r,e,_⟩:=xD.mp hy
  rw [kO.mp hx]at e;cases e
 |x::xs,[],vs,hx,hy=>by
  obtain⟨v,r,e,_⟩:=xD.mp hx
  rw [kO.mp hy]at e;cases e
 |x::xs,y::ys,vs,hx,hy=>by
  obtain⟨v,r,e,h1,h2⟩:=xD.mp hx
  obtain⟨v',r',e',h1',h2'⟩:=xD.mp hy
  rw [e]at e'
  cases e'
  rw [zUQ h1 h1',zXK h2 h2']
end
mutual
theorem zXL{h h':Heap}(m: ∀a o items n,h.get? a=some o->o.data=.seq items n->h'.get? a=some o): ∀{x:NK}{v:Value},isN knd h x v->isN knd h' x v
 |.key k,v,hx=>hX.mpr (hX.mp hx)
 |.tup ks,v,hx=>by
  obtain⟨a,o,items,n,e,ho,hc,hd,hi⟩:=wO.mp hx
  exact wO.mpr ⟨a,o,items,n,e,m a o items n ho hd,hc,hd,zTM m hi⟩
theorem zTM{h h':Heap}(m: ∀a o items n,h.get? a=some o->o.data=.seq items n->h'.get? a=some o): ∀{xs:List NK}{vs:List Value},zJI knd h xs vs->zJI knd h' xs vs
 |[],vs,hx=>kO.mpr (kO.mp hx)
 |x::xs,vs,hx=>by
  obtain⟨v,r,e,h1,h2⟩:=xD.mp hx
  exact xD.mpr ⟨v,r,e,zXL m h1,zTM m h2⟩
end
theorem zPS: ∀ks:List NK,zPQ knd ks=ks.map (zGW knd)
 |[]=>by unfold zPQ;rfl
 |k::ks=>by unfold zPQ;rw [zPS ks];rfl
theorem zJY:bZ []=0:=by rw [bZ]
theorem zGX(k:NK)(ks:List NK):bZ (k::ks)=zPR k+bZ ks:=by rw [bZ]
theorem zPT(k:NK)(ks:List NK):zNR (k::ks)=max (zOH k) (zNR ks):=by rw [zNR]
theorem zED(ks:List NK):zOH (.tup ks)=zNR ks+1:=by rw [zOH]
theorem zJM: ∀(xs ys:List NK),bZ (xs++ys)=bZ xs+bZ ys
 |[],ys=>by rw [zJY,nil_append,zero_add]
 |x::xs,ys=>by rw [List.cons_append,zGX,zGX,zJM xs ys];omega
theorem zKR{s:Shared}{ks:List NK}{a:Addr}(h:isN knd s.heap (.tup ks) (.ref a)):s.TypeIs (.ref a) "tuple":=by
 obtain⟨a',o,items,n,e,ho,hc,_⟩:=wO.mp h
 cases e
 exact⟨o,ho,hc⟩
theorem zXM: ∀(n:Nat){A:Around}{E:Value->Shared->Prop}{s:Shared}{k:NK}{v:Value}{Q:Int->Shared->Prop},zOH k<=n->A.units+n<cLine->isN knd s.heap k v->Q (zGW knd k) {s with toks:=s.toks+zPR k}->wpAny (model prog w) A (pyHash v) Q E s
 |n,A,E,s,.key k,v,Q,_,_,hk,h=>knd.pyHash (hX.mp hk) (by rw [zGW,zPR]at h;exact h)
 |0,A,E,s,.tup ks,v,Q,hd,_,_,_=>by rw [zED]at hd;omega
 |n+1,A,E,s,.tup ks,v,Q,hdep,hu,hk,h=>by
  obtain⟨a,o,items,m,rfl,ho,hc,hd,hi⟩:=wO.mp hk
  have hT:s.TypeIs (.ref a) "tuple":=⟨o,ho,hc⟩
  rw [zED]at hdep
  have hdl: ∀k∈ks,zOH k<=n:=by
   have: ∀ks:List NK,zNR ks<=n-> ∀k∈ks,zOH k<=n:=by
    intro ks
    induction ks with
    |nil=>intro _ k hk;simp at hk
    |cons x xs ih=>
     intro hx k hk
     rw [zPT]at hx
     rcases mC.mp hk with rfl|hk
     ·omega
     ·exact ih (by omega) k hk
   exact this ks (by omega)
  rw [zGW,zPR,zPS]at h
  unfold pyHash
  first |unfold pyHashByItsType|skip
  first |refine wB0 (wpAny_cRoomFor_or (.inr (show A.units<cLine by omega)) ?_)|skip
  refine wB0 (wpAny_specialOf hT F.slot_tuple_hash.lookup ?_)
  show wpAny _ _ (if(some (Value.builtin "tuple.__hash__")==some Value.none)=true then _ else _) Q E s
  rw [iN (by rw [beq_builtin_none];exact xF0)]
  refine wB0 (wpAny_specialOf hT F.slot_tuple_hash.lookup ?_)
  show wpAny _ _ (callSpecialIfBoundUnlessNone? (.ref a) "__hash__" _ >>= _) Q E s
  refine wB0 (wpAny_callSpecialIfBoundUnlessNone?_slot hT F.slot_tuple_hash (wpAny_call_entry F.slot_tuple_hash hT F.entry_tuple_hash ?_ (F.args_tuple_hash_1 _)))
  show wpAny _ _ (Builtin.Tuple.tupleItemsOf (.ref a) >>= _) _ _ s
  refine wB0 (wpAny_tupleItemsOf ho hd ?_)
  refine wB0 ?_
  rw [<-Array.forIn_toList]
  refine wpAny_forIn_list _
   (λrest (b:Array Int) s'=> ∃done left,ks=done++left/\zJI knd s.heap left rest/\b.toList=done.map (zGW knd)/\s'={s with toks:=s.toks+bZ done})
   _ ?_ ?_ _ _ ⟨[],ks,rfl,hi,rfl,by rw [zJY];rfl⟩
  ·rintro x rest b s' ⟨done,left,rfl,hl,hb,rfl⟩
   cases left with
   |nil=>rw [kO]at hl;cases hl
   |cons k ks'=>
    obtain⟨v,r,e,h1,hl'⟩:=xD.mp hl
    cases e
    refine wB0 (zXM n (hdl k (by simp)) (show A.units+1+n<cLine by omega) h1 ?_)
    have e1:bZ (done++[k])=bZ done+zPR k:=by rw [zJM,zGX,zJY];rfl
    first
     |exact wP0 ⟨done++[k],ks',by simp,hl',by simp [hb],by simp [add_assoc,e1]⟩
     |exact wB0 (wP0 (wP0 ⟨done++[k],ks',by simp,hl',by simp [hb],by simp [add_assoc,e1]⟩))
  ·rintro b s' ⟨done,left,rfl,hl,hb,rfl⟩
   cases left with
   |cons k ks'=>obtain⟨v,r,e,_⟩:=xD.mp hl;cases e
   |nil=>
    rw [aN]at h
    show wpAny _ _ (retInt (Builtin.Tuple.tupleHashOf b.toList)) _ _ _
    rw [hb]
    refine wpAny_ret_mkInt ?_
    show wpAny _ _ (if(decide (-(2:Int) ^ 63<=Builtin.Tuple.tupleHashOf (done.map (zGW knd)))&&decide (Builtin.Tuple.tupleHashOf (done.map (zGW knd))<2 ^ 63))=true then _ else _) Q E _
    unfold reduceHash at h
    by_cases hr:(decide (-(2:Int) ^ 63<=Builtin.Tuple.tupleHashOf (done.map (zGW knd)))&&decide (Builtin.Tuple.tupleHashOf (done.map (zGW knd))<2 ^ 63))=true
    ·rw [iP hr]
     rw [iP hr]at h
     exact wP0 (by simpa [add_assoc]using h)
    ·rw [iN hr]
     rw [iN hr]at h
     exact wB0 (wpAny_rule (wP0 (by simpa [add_assoc]using h)))
end
section
variable{prog:Program}{w:World}
abbrev mk(prog:Program)(w:World):KeyKind prog w Key:=wG prog w
theorem yLN(a b:Key):decide (NK.key a=NK.key b)=decide (a=b):=by
 by_cases h:a=b
 ·subst h;simp
 ·rw [dF0 h,dF0 λz=>h (NK.key.inj z)]
theorem yQU(a:Key)(b:List NK):decide (NK.key a=NK.tup b)=false:=dF0 λz=>nomatch z
theorem yQV(a:Key)(b:List NK):decide (NK.tup b=NK.key a)=false:=dF0 λz=>nomatch z
theorem yQW(a b:List NK):decide (NK.tup a=NK.tup b)=decide (a=b):=by
 by_cases h:a=b
 ·subst h;simp
 ·rw [dF0 h,dF0 λz=>h (NK.tup.inj z)]
theorem zXN{k:Key}{v:Value}(h:(mk prog w).is k v=true): ∃x:V,RelV x v/\wV x=true:=by
 rcases xB (show zPJ k v=true from h)with⟨i,t,rfl,rfl⟩|⟨x,t,rfl,rfl⟩
 ·exact⟨.int i,⟨t,rfl⟩,rfl⟩
 ·exact⟨.str x,⟨t,rfl⟩,rfl⟩
theorem yEV{A:Around}{E:Value->Shared->Prop}{s:Shared}{x y:List NK}{a b:Addr}{P:Fin->Shared->Prop}
  (he: ∀k1∈x, ∀k2 u v (Q:Bool->Shared->Prop),isN (mk prog w) s.heap k1 u->isN (mk prog w) s.heap k2 v->Q (decide (k1=k2)) s->wpAny (model prog w) A (eqBool u v) Q E s)
  (hx:isN (mk prog w) s.heap (.tup x) (.ref a)) (hy:isN (mk prog w) s.heap (.tup y) (.ref b)) (h:P (.done (.ret (.bool (decide (x=y))))) s):
  wpAny (model prog w) A (Builtin.«tuple.__eq__» ⟨[.ref a,.ref b],[]⟩) P E s:=by
 have hTb:=zKR hy
 obtain⟨_,oa,xs,na,e,hoa,_,hda,hia⟩:=wO.mp hx
 cases e
 obtain⟨_,ob,ys,nb,e,hob,_,hdb,hib⟩:=wO.mp hy
 cases e
 show wpAny _ _ (isInstance (.ref b) (.type "tuple") >>= _) _ _ s
 refine wB0 (wpAny_isInstance hTb isSubtype_tuple_tuple ?_)
 simp only [Bool.not_true,fT0,iF]
 refine wB0 (wpAny_tupleItemsOf hoa hda ?_)
 refine wB0 (wpAny_tupleItemsOf hob hdb ?_)
 refine wB0 ?_
 refine wpAny_forIn_list _
  (λrest r s'=>r.1=none/\s'=s/\ ∃x' y' xs' ys',rest=List.zip xs' ys'/\(∀k∈x',k∈x)/\zJI (mk prog w) s.heap x' xs'/\zJI (mk prog w) s.heap y' ys'/\decide (x'=y')=decide (x=y)/\(xs'.length==ys'.length)=(xs.size==ys.size))
  _ ?_ ?_ _ _ ⟨rfl,rfl,x,y,xs.toList,ys.toList,rfl,λk hk=>hk,hia,hib,rfl,by simp⟩
 ·rintro⟨u,v⟩ rest r s' ⟨hr,rfl,x',y',xs',ys',hz,hm,hx',hy',hdec,hlen⟩
  cases x' with
  |nil=>rw [kO.mp hx']at hz;simp at hz
  |cons k1 x''=>
   cases y' with
   |nil=>rw [kO.mp hy']at hz;simp at hz
   |cons k2 y''=>
    obtain⟨u',xs'',rfl,h1,hx''⟩:=xD.mp hx'
    obtain⟨v',ys'',rfl,h2,hy''⟩:=xD.mp hy'
    simp only [zip_cons_cons,List.cons.injEq,Prod.mk.injEq]at hz
    obtain⟨⟨rfl,rfl⟩,rfl⟩:=hz
    refine wB0 (he k1 (hm k1 mF0) k2 _ _ _ h1 h2 ?_)
    by_cases hk:k1=k2
    ·subst hk
     rw [dT0 rfl]
     simp only [Bool.not_true,fT0,iF]
     refine wP0 ⟨rfl,rfl,x'',y'',xs'',ys'',rfl,λk hk=>hm k (mO _ hk),hx'',hy'',?_,by simpa using hlen⟩
     rw [<-hdec]
     by_cases hxy:x''=y''
     ·simp [hxy]
     ·simp [hxy]
    ·rw [dF0 hk]
     simp only [Bool.not_false,if_true]
     have hf:decide (x=y)=false:=by rw [<-hdec];simp [hk]
     rw [hf]at h
     exact wB0 (wP0 (wP0 (wP0 h)))
 ·rintro⟨r1,r2⟩ s' ⟨hr,rfl,x',y',xs',ys',hz,hm,hx',hy',hdec,hlen⟩
  simp only at hr
  subst hr
  refine wP0 ?_
  have hfin:(xs.size==ys.size)=decide (x=y):=by
   rw [<-hdec, <-hlen]
   cases x' with
   |nil=>
    rw [kO.mp hx']
    cases y' with
    |nil=>rw [kO.mp hy'];simp
    |cons k2 y''=>obtain⟨v',ys'',rfl,h2,hy''⟩:=xD.mp hy';simp
   |cons k1 x''=>
    obtain⟨u',xs'',rfl,h1,hx''⟩:=xD.mp hx'
    cases y' with
    |nil=>rw [kO.mp hy'];simp
    |cons k2 y''=>obtain⟨v',ys'',rfl,h2,hy''⟩:=xD.mp hy';simp at hz
  show P (.done (.ret (.bool (xs.size==ys.size)))) s'
  rw [hfin];exact h
theorem zPU{n:Nat}: ∀{ks:List NK},zNR ks<=n-> ∀k∈ks,zOH k<=n
 |[],_,k,hk=>by simp at hk
 |x::xs,hx,k,hk=>by
  rw [zPT]at hx
  rcases mC.mp hk with rfl|hk
  ·omega
  ·exact zPU (by omega) k hk
theorem zXO: ∀(n:Nat){A:Around}{E:Value->Shared->Prop}{s:Shared}{x y:NK}{u v:Value}{Q:Bool->Shared->Prop},zOH x<=n->A.units+n<cLine->isN (mk prog w) s.heap x u->isN (mk prog w) s.heap y v->Q (decide (x=y)) s->wpAny (model prog w) A (eqBool u v) Q E s
 |n,A,E,s,.key a,.key b,u,v,Q,_,_,hx,hy,h=>(mk prog w).eqBool (hX.mp hx) (hX.mp hy) (by rw [yLN]at h;exact h)
 |n,A,E,s,.key a,.tup b,u,v,Q,_,hu,hx,hy,h=>by
  obtain⟨z,rz,fz⟩:=zXN (hX.mp hx)
  obtain⟨l,o,items,m,rfl,ho,hc,hd,_⟩:=wO.mp hy
  rw [yQU]at h
  exact yOS rz fz (items:=items) ⟨o,ho,hc,m,hd⟩ (by omega) prog w E Q h
 |n,A,E,s,.tup a,.key b,u,v,Q,_,hu,hx,hy,h=>by
  obtain⟨z,rz,fz⟩:=zXN (hX.mp hy)
  obtain⟨l,o,items,m,rfl,ho,hc,hd,_⟩:=wO.mp hx
  rw [yQV]at h
  exact yOR rz fz (items:=items) ⟨o,ho,hc,m,hd⟩ (by omega) prog w E Q h
 |0,A,E,s,.tup a,.tup b,u,v,Q,hd,_,hx,hy,h=>by rw [zED]at hd;omega
 |n+1,A,E,s,.tup x,.tup y,u,v,Q,hd,hu,hx,hy,h=>by
  obtain⟨a,_,_,_,ea,_⟩:=wO.mp hx
  obtain⟨b,_,_,_,eb,_⟩:=wO.mp hy
  subst ea eb
  rw [zED]at hd
  rw [yQW]at h
  unfold eqBool
  try with_reducible refine wpAny_holding ?_
  show wpAny _ _ (if(Value.ref a==Value.ref b)=true then _ else _) Q E s
  by_cases hab:(Value.ref a==Value.ref b)=true
  ·rw [iP hab]
   have e:a=b:=by have:=eq_of_beq hab;injection this
   subst e
   have:x=y:=NK.tup.inj (zUQ hx hy)
   subst this
   exact wB0 (wpAny_rule (wP0 (by simpa using h)))
  ·rw [iN hab]
   refine wB0 (wpAny_richCompare_same_room (op:=.Eq) (zKR hx) (zKR hy) F.slot_tuple_eq
    (wpAny_call_entry F.slot_tuple_eq (zKR hx) F.entry_tuple_eq (yEV (λk1 hk1 k2 u v Q h1 h2 h3=>zXO n (zPU (by omega) k1 hk1) (show A.units+1+n<cLine by omega) h1 h2 h3) hx hy ⟨_,rfl,(λe=>nomatch e),wpAny_truthy_bool h⟩) (F.args_tuple_eq_2 _ _)) (by omega))
theorem yCN: ∀(n m:Nat){A:Around}{E:Value->Shared->Prop}{s:Shared}{x:NK}{u:Value}{Q:Bool->Shared->Prop},zOH x<=n->n<m->isN (mk prog w) s.heap x u->Q true s->wpAny (model prog w) A (eqIsQuiet m u) Q E s
 |n,m,A,E,s,.key k,u,Q,_,_,hx,h=>by
  rw [eqIsQuiet_byValue m ((mk prog w).byValue _ _ (hX.mp hx))]
  exact wP0 h
 |0,m,A,E,s,.tup ks,u,Q,hd,_,hx,h=>by rw [zED]at hd;omega
 |n+1,0,A,E,s,.tup ks,u,Q,hd,hm,hx,h=>by omega
 |n+1,m+1,A,E,s,.tup ks,u,Q,hdp,hm,hx,h=>by
  obtain⟨a,o,items,j,rfl,ho,hc,hd,hi⟩:=wO.mp hx
  have hT:s.TypeIs (.ref a) "tuple":=⟨o,ho,hc⟩
  rw [zED]at hdp
  unfold eqIsQuiet
  refine wB0 (wpAny_specialOf hT F.slot_tuple_eq.lookup ?_)
  show wpAny _ _ (isInstance (.ref a) (.type "tuple") >>= _) _ _ s
  refine wB0 (wpAny_isInstance hT isSubtype_tuple_tuple ?_)
  simp only [Bool.not_true,fT0,iF]
  refine wB0 (wpAny_seqItems ho hd ?_)
  refine wB0 ?_
  show wpAny _ _ (forIn items _ _) _ _ s
  rw [<-Array.forIn_toList]
  refine wpAny_forIn_list _ (λrest r s'=>r.1=none/\s'=s/\ ∃left,(∀k∈left,k∈ks)/\zJI (mk prog w) s.heap left rest) _ ?_ ?_ _ _ ⟨rfl,rfl,ks,λk hk=>hk,hi⟩
  ·rintro v rest r s' ⟨hr,rfl,left,hm',hl⟩
   cases left with
   |nil=>rw [kO]at hl;cases hl
   |cons k left=>
    obtain⟨v',r',e,h1,h2⟩:=xD.mp hl
    cases e
    refine wB0 (yCN n m (zPU (by omega) k (hm' k mF0)) (by omega) h1 ?_)
    simp only [Bool.not_true,fT0,iF]
    exact wP0 ⟨rfl,rfl,left,λk hk=>hm' k (mO _ hk),h2⟩
  ·rintro⟨r1,r2⟩ s' ⟨hr,rfl,_⟩
   simp only at hr
   subst hr
   exact wP0 h
end
noncomputable def yHN(prog:Program)(w:World):HeapKind prog w NK where
 is:=λh k a=>isN (mk prog w) h k (.ref a)/\zOH k<=4
 hash:=zGW (mk prog w)
 draws:=zPR
 room:=λA=>A.units+4<cLine
 inj:=λhx hy=>zUQ hx.1 hy.1
 keeps:=λx ho hd hs=>⟨zXL (λa o' items n e q=>(hs.2 a λz=>by
  subst z
  rw [ho]at e;cases e
  rw [hd]at q;cases q).trans e) x.1,x.2⟩
 pyHash:=λhu hk h=>zXM 4 hk.2 hu hk.1 h
 eqBool:=λhu hx hy h=>zXO 4 hx.2 hu hx.1 hy.1 h
 quiet:=λhk h=>yCN 4 8 hk.2 (by decide) hk.1 h
def DN(P:Program)(w:World)(a:Addr)(xs:List (NK×Addr×Value)):HO:=
 .ext λh=>xs.length<=sizeLine/\(a==sysModules)=false/\ ∃o es ep,h.get? a=some o/\o.ExactDict/\o.data=.dict es ep/\es.toList=xs.map (entryOfKey (yHN P w))/\(xs.map (·.1)).Nodup
end M
end L2
namespace L2
open PySem PySem.Spec PyProof.Rows
def Fly(h:Heap)(e T:Addr)(cls:Value)(d:Option Addr)(fl:Value):Prop:=
 ∃oe vs oT ts,h.get? e=some oe/\oe.cls=cls/\oe.dict=d/\oe.data=.fields vs/\vs[1]? =some (.ref T)/\T≠e/\h.get? T=some oT/\oT.data=.fields ts/\ts[3]? =some fl
structure Mvd(fs:List Addr)(e T:Addr)(h h':Heap):Prop where
 keep: ∀b o,b≠e->b≠T->b∉fs->h.get? b=some o->h'.get? b=some o
 slot: ∀b o,b≠e->b≠T->h.get? b=some o-> ∃sl,h'.get? b=some {o with slots:=sl}
 there: ∀b o,h.get? b=some o-> ∃o',h'.get? b=some o'
theorem Mvd.new{fs:List Addr}{e T T':Addr}{h h1 h2:Heap}(a:Mvd fs e T h h1)(n:h.get? T'=none)(b:Mvd fs e T' h1 h2):Mvd fs e T h h2:=by
 have ne: ∀c o,h.get? c=some o->c≠T':=λc o q z=>by rw [z,n]at q;cases q
 exact⟨λc o h1 h2 h3 q=>b.keep c o h1 (ne c o q) h3 (a.keep c o h1 h2 h3 q),λc o h1 h2 q=>by
  obtain⟨sl,e1⟩:=a.slot c o h1 h2 q
  obtain⟨sl',e2⟩:=b.slot c _ h1 (ne c o q) e1
  exact⟨sl',e2⟩,λc o q=>let ⟨o',e1⟩:=a.there c o q;b.there c o' e1⟩
def CXe(P:Program)(w:World):CXT:=λouter H s E x s'=> ∃e T C d H',x=.ref e/\s'.os=s.os/\AllBare s'.gens/\Un (frs outer) [] H H' s.heap s'.heap/\HOk P w H' s'.heap/\Fly s'.heap e T (.ref C) d .none/\
 s.heap.get? e=none/\s.heap.get? T=none/\H' e=none/\H' T=none/\E (.ref C) d H'
abbrev bmV:List Value:=[.type "ValueError",.type "Exception",.type "BaseException",.type "object"]
def qn:List Str:=["__class__","__getattribute__","__getattr__","__setattr__","place","number"]
end L2
namespace L2
namespace M
open PySem PySem.Spec PyProof.Rows
inductive MV where
 |non|bl (b:Bool)|int (i:Int)|str (x:List Nat)|tup (ds:List MV)|scr (ds:List MV)|loc (l:Nat)|typ (n:String)|obj (c:Str) (ns:List Str) (ds:List MV)
instance:Inhabited MV:=⟨.non⟩
inductive MO where
 |lst (ds:List MV)|dic (kvs:List (MV×MV))|ins (c:Str) (fs:List (Str×MV))
abbrev Sto:=List MO
def SqF(K:PySem.W.Frag)(H:Hp)(a:Addr)(xs:List V):Prop:=
 (∃o,H a=some (.frz o (.lst xs)))\/
  ∃(o:Obj)(its:Array Value)(n:Nat),K.lookup a=some o/\o.cls=.type "list"/\o.dict=none/\o.data=.seq its n/\its.size<=sizeLine/\Vals xs its.toList
theorem SqF.l{K:PySem.W.Frag}{H:Hp}{a:Addr}{xs:List V}(h:SqF K H a xs):SqL K H a xs:=by
 rcases h with⟨o,h⟩|h
 ·exact .inl (.inr ⟨o,h⟩)
 ·exact .inr h
mutual
def Den(K:PySem.W.Frag)(α:List Addr)(H:Hp):MV->V->Prop
 |.non,v=>v=.non
 |.bl b,v=>v=.bl b
 |.int i,v=>v=.int i
 |.str x,v=>v=.str (mkS x)
 |.tup ds,v=> ∃a vs,v=.ref a/\SqT K H a vs/\DenL K α H ds vs
 |.scr ds,v=> ∃a vs,v=.ref a/\SqF K H a vs/\DenL K α H ds vs
 |.loc l,v=> ∃a,v=.ref a/\α[l]? =some a
 |.typ n,v=>v=.ty n
 |.obj c ns ds,v=> ∃a C dx vs o,v=.ref a/\H a=some (.frz o (.ins C dx (ns.zip vs)))/\PySem.W.nsIn K mainGlobals c=some (some (.ref C))/\(PySem.W.clsIn K C).map (·.name)=some c/\ns.length=vs.length/\DenL K α H ds vs
def DenL(K:PySem.W.Frag)(α:List Addr)(H:Hp):List MV->List V->Prop
 |[],vs=>vs=[]
 |d::ds,vs=> ∃v r,vs=v::r/\Den K α H d v/\DenL K α H ds r
end
structure Ex0(α:List Addr)(H:Hp)(α':List Addr)(H':Hp):Prop where
 pre: ∃t,α'=α++t
 tup: ∀b xs,H b=some (.tup xs)->H' b=some (.tup xs)
 frz: ∀b o u,H b=some (.frz o u)->H' b=some (.frz o u)
structure Ext(α:List Addr)(H:Hp)(α':List Addr)(H':Hp):Prop extends Ex0 α H α' H' where
 new: ∀b∈α',b∈α\/H b=none
 keep: ∀b o,H b=some o->b∉α->H' b=some o
 has: ∀b o,H b=some o-> ∃o',H' b=some o'
section
variable{K:PySem.W.Frag}{α α' α'':List Addr}{H H' H'':Hp}
theorem Ext.refl(α:List Addr)(H:Hp):Ext α H α H:=⟨⟨⟨[],by simp⟩,λ_ _ h=>h,λ_ _ _ h=>h⟩,λb h=>.inl h,λ_ _ h _=>h,λ_ o h=>⟨o,h⟩⟩
theorem Ex0.grow(α t:List Addr)(H:Hp):Ex0 α H (α++t) H:=⟨⟨t,rfl⟩,λ_ _ h=>h,λ_ _ _ h=>h⟩
theorem Ext.free(x:Ext α H α' H'){b:Addr}(h:H' b=none):H b=none:=by
 cases e:H b with
 |none=>rfl
 |some o=>obtain⟨o',h'⟩:=x.has b o e;rw [h]at h';cases h'
theorem Ext.out(x:Ext α H α' H'){b:Addr}{o:HO}(h:H b=some o)(n:b∉α):b∉α':=λz=>by
 rcases x.new b z with z|z
 ·exact n z
 ·rw [h]at z;cases z
theorem Ext.trans(x:Ext α H α' H')(y:Ext α' H' α'' H''):Ext α H α'' H'' where
 pre:=by
  obtain⟨t,rfl⟩:=x.pre
  obtain⟨u,rfl⟩:=y.pre
  exact⟨t++u,by rw [aA]⟩
 new:=λb h=>(y.new b h).elim (x.new b) λz=>.inr (x.free z)
 keep:=λb o h n=>y.keep b o (x.keep b o h n) (x.out h n)
 has:=λb o h=>let ⟨o',h'⟩:=x.has b o h;y.has b o' h'
 tup:=λb xs h=>y.tup b xs (x.tup b xs h)
 frz:=λb o u h=>y.frz b o u (x.frz b o u h)
theorem Ex0.at(x:Ex0 α H α' H'){l:Nat}{a:Addr}(h:α[l]? =some a):α'[l]? =some a:=by
 obtain⟨t,rfl⟩:=x.pre
 rw [getElem?_append_left (gS0.mp h).1]
 exact h
theorem Ex0.sqT(x:Ex0 α H α' H'){a:Addr}{vs:List V}(q:SqT K H a vs):SqT K H' a vs:=by
 rcases q with(q|⟨o,q⟩)|q
 ·exact .inl (.inl (x.tup a vs q))
 ·exact .inl (.inr ⟨o,x.frz a o _ q⟩)
 ·exact .inr q
theorem Ex0.sqF(x:Ex0 α H α' H'){a:Addr}{vs:List V}(q:SqF K H a vs):SqF K H' a vs:=by
 rcases q with⟨o,q⟩|q
 ·exact .inl ⟨o,x.frz a o _ q⟩
 ·exact .inr q
mutual
theorem Den.ex0(x:Ex0 α H α' H'): ∀{d:MV}{v:V},Den K α H d v->Den K α' H' d v
 |.non,_,q=>by unfold Den at q ⊢; exact q
 |.bl _,_,q=>by unfold Den at q ⊢; exact q
 |.int _,_,q=>by unfold Den at q ⊢; exact q
 |.str _,_,q=>by unfold Den at q ⊢; exact q
 |.typ _,_,q=>by unfold Den at q ⊢; exact q
 |.obj c ns ds,_,q=>by
  unfold Den at q ⊢
  obtain⟨a,C,dx,vs,o,e,h,hn,hc,hl,l⟩:=q
  exact⟨a,C,dx,vs,o,e,x.frz a _ _ h,hn,hc,hl,DenL.ex0 x l⟩
 |.loc _,_,q=>by
  unfold Den at q ⊢
  obtain⟨a,e,h⟩:=q
  exact⟨a,e,x.at h⟩
 |.tup ds,_,q=>by
  unfold Den at q ⊢
  obtain⟨a,vs,e,s,l⟩:=q
  exact⟨a,vs,e,x.sqT s,DenL.ex0 x l⟩
 |.scr ds,_,q=>by
  unfold Den at q ⊢
  obtain⟨a,vs,e,s,l⟩:=q
  exact⟨a,vs,e,x.sqF s,DenL.ex0 x l⟩
theorem DenL.ex0(x:Ex0 α H α' H'): ∀{ds:List MV}{vs:List V},DenL K α H ds vs->DenL K α' H' ds vs
 |[],_,q=>by unfold DenL at q ⊢; exact q
 |d::ds,_,q=>by
  unfold DenL at q ⊢
  obtain⟨v,r,e,a,l⟩:=q
  exact⟨v,r,e,Den.ex0 x a,DenL.ex0 x l⟩
end
theorem Den.ext(x:Ext α H α' H'){d:MV}{v:V}(q:Den K α H d v):Den K α' H' d v:=q.ex0 x.toEx0
theorem DenL.ext(x:Ext α H α' H'){d:List MV}{v:List V}(q:DenL K α H d v):DenL K α' H' d v:=q.ex0 x.toEx0
theorem zOV:Den K α H .non .non:=by unfold Den;rfl
theorem gT(b:Bool):Den K α H (.bl b) (.bl b):=by unfold Den;rfl
theorem kK(i:Int):Den K α H (.int i) (.int i):=by unfold Den;rfl
theorem zBM(x:List Nat):Den K α H (.str x) (.str (mkS x)):=by unfold Den;rfl
theorem yCO(n:String):Den K α H (.typ n) (.ty n):=by unfold Den;rfl
theorem zES{ds:List MV}{a:Addr}{vs:List V}(s:SqT K H a vs)(l:DenL K α H ds vs):Den K α H (.tup ds) (.ref a):=by unfold Den;exact⟨a,vs,rfl,s,l⟩
theorem yCP{ds:List MV}{a:Addr}{vs:List V}(s:SqF K H a vs)(l:DenL K α H ds vs):Den K α H (.scr ds) (.ref a):=by unfold Den;exact⟨a,vs,rfl,s,l⟩
theorem zKS{l:Nat}{a:Addr}(h:α[l]? =some a):Den K α H (.loc l) (.ref a):=by unfold Den;exact⟨a,rfl,h⟩
theorem zAI{v:V}(d:Den K α H .non v):v=.non:=by unfold Den at d;exact d
theorem zEE{b:Bool}{v:V}(d:Den K α H (.bl b) v):v=.bl b:=by unfold Den at d;exact d
theorem jK{i:Int}{v:V}(d:Den K α H (.int i) v):v=.int i:=by unfold Den at d;exact d
theorem jL{x:List Nat}{v:V}(d:Den K α H (.str x) v):v=.str (mkS x):=by unfold Den at d;exact d
theorem yCQ{c:Str}{ns:List Str}{ds:List MV}{a C dx:Addr}{vs:List V}{o:Obj}(h:H a=some (.frz o (.ins C dx (ns.zip vs))))(hn:PySem.W.nsIn K mainGlobals c=some (some (.ref C)))(hc:(PySem.W.clsIn K C).map (·.name)=some c)(hl:ns.length=vs.length)(l:DenL K α H ds vs):Den K α H (.obj c ns ds) (.ref a):=by unfold Den;exact⟨a,C,dx,vs,o,rfl,h,hn,hc,hl,l⟩
theorem cA{c:Str}{ns:List Str}{ds:List MV}{v:V}(d:Den K α H (.obj c ns ds) v): ∃a C dx vs o,v=.ref a/\H a=some (.frz o (.ins C dx (ns.zip vs)))/\PySem.W.nsIn K mainGlobals c=some (some (.ref C))/\(PySem.W.clsIn K C).map (·.name)=some c/\ns.length=vs.length/\DenL K α H ds vs:=by unfold Den at d;exact d
theorem dU{n:String}{v:V}(d:Den K α H (.typ n) v):v=.ty n:=by unfold Den at d;exact d
theorem kH{ds:List MV}{v:V}(d:Den K α H (.tup ds) v): ∃a vs,v=.ref a/\SqT K H a vs/\DenL K α H ds vs:=by unfold Den at d;exact d
theorem cB{ds:List MV}{v:V}(d:Den K α H (.scr ds) v): ∃a vs,v=.ref a/\SqF K H a vs/\DenL K α H ds vs:=by unfold Den at d;exact d
theorem gU{l:Nat}{v:V}(d:Den K α H (.loc l) v): ∃a,v=.ref a/\α[l]? =some a:=by unfold Den at d;exact d
theorem xN:DenL K α H [] []:=by unfold DenL;rfl
theorem yW{d:MV}{v:V}{ds:List MV}{vs:List V}(a:Den K α H d v)(l:DenL K α H ds vs):DenL K α H (d::ds) (v::vs):=by unfold DenL;exact⟨v,vs,rfl,a,l⟩
theorem DenL.uncons{d:MV}{ds:List MV}{vs:List V}(l:DenL K α H (d::ds) vs): ∃v r,vs=v::r/\Den K α H d v/\DenL K α H ds r:=by unfold DenL at l;exact l
theorem DenL.isnil{vs:List V}(l:DenL K α H [] vs):vs=[]:=by unfold DenL at l;exact l
theorem DenL.length: ∀{ds:List MV}{vs:List V},DenL K α H ds vs->vs.length=ds.length
 |[],_,q=>by rw [q.isnil];rfl
 |d::ds,_,q=>by
  obtain⟨v,r,rfl,_,l⟩:=q.uncons
  rw [lC,lC,DenL.length l]
theorem DenL.append: ∀{ds es:List MV}{vs us:List V},DenL K α H ds vs->DenL K α H es us->DenL K α H (ds++es) (vs++us)
 |[],_,_,_,q,l=>by rw [q.isnil];exact l
 |d::ds,_,_,_,q,l=>by
  obtain⟨v,r,rfl,a,l'⟩:=q.uncons
  exact yW a (DenL.append l' l)
theorem DenL.drop: ∀{ds:List MV}{vs:List V}(n:Nat),DenL K α H ds vs->DenL K α H (ds.drop n) (vs.drop n)
 |_,_,0,q=>q
 |[],_,n+1,q=>by rw [q.isnil];exact xN
 |d::ds,_,n+1,q=>by
  obtain⟨v,r,rfl,_,l⟩:=q.uncons
  exact DenL.drop n l
theorem DenL.take: ∀{ds:List MV}{vs:List V}(n:Nat),DenL K α H ds vs->DenL K α H (ds.take n) (vs.take n)
 |_,_,0,q=>xN
 |[],_,n+1,q=>by rw [q.isnil];exact xN
 |d::ds,_,n+1,q=>by
  obtain⟨v,r,rfl,a,l⟩:=q.uncons
  exact yW a (DenL.take n l)
theorem DenL.set{d:MV}{v:V}(a:Den K α H d v): ∀{ds:List MV}{vs:List V}(n:Nat),DenL K α H ds vs->DenL K α H (ds.set n d) (vs.set n v)
 |[],_,_,q=>by rw [q.isnil];exact xN
 |e::ds,_,0,q=>by
  obtain⟨v',r,rfl,a',l⟩:=q.uncons
  exact yW a l
 |e::ds,_,n+1,q=>by
  obtain⟨v',r,rfl,a',l⟩:=q.uncons
  exact yW a' (DenL.set a n l)
theorem DenL.get: ∀{ds:List MV}{vs:List V}{i:Nat}{v:V},DenL K α H ds vs->vs[i]? =some v-> ∃d,ds[i]? =some d/\Den K α H d v
 |[],_,_,_,q,e=>by rw [q.isnil]at e;simp at e
 |d::ds,_,0,_,q,e=>by
  obtain⟨v,r,rfl,a,l⟩:=q.uncons
  simp at e;subst e
  exact⟨d,rfl,a⟩
 |d::ds,_,i+1,_,q,e=>by
  obtain⟨v,r,rfl,a,l⟩:=q.uncons
  obtain⟨d',h1,h2⟩:=DenL.get (i:=i) l (by simpa using e)
  exact⟨d',by simpa using h1,h2⟩
theorem DenL.at{ds:List MV}{vs:List V}{i:Nat}{d:MV}(q:DenL K α H ds vs)(e:ds[i]? =some d): ∃v,vs[i]? =some v/\Den K α H d v:=by
 have hi:i<ds.length:=(gS0.mp e).1
 have hv:i<vs.length:=by rw [q.length];exact hi
 obtain⟨d',h1,h2⟩:=q.get (gE0 hv)
 rw [e]at h1;cases h1
 exact⟨_,gE0 hv,h2⟩
theorem DenL.cut{ds:List MV}{vs:List V}(q:DenL K α H ds vs)(lo hi:Option Int):DenL K α H (gS ds lo hi) (zXH vs lo hi):=by
 unfold gS zXH
 rw [q.length]
 exact(q.drop _).take _
theorem zIV: ∀(ns:List Int),DenL K α H (ns.map MV.int) (ns.map V.int)
 |[]=>xN
 |b::bs=>yW (kK b) (zIV bs)
end
structure Gm where
 K:PySem.W.Frag
 mg:Str->Option Value
 P:Program
 w:World
abbrev _root_.L2.Cx.g(X:Cx):Gm:=⟨X.K,X.mg,X.prog,X.w⟩
inductive DenF(K:PySem.W.Frag)(α:List Addr)(H:Hp):List (Str×MV)->List (Str×V)->Prop
 |nil:DenF K α H [] []
 |cons {x:Str} {d:MV} {v:V} {fs gs}:Den K α H d v->DenF K α H fs gs->DenF K α H ((x,d)::fs) ((x,v)::gs)
theorem DenF.ex0{K:PySem.W.Frag}{α α':List Addr}{H H':Hp}(x:Ex0 α H α' H'): ∀{fs gs},DenF K α H fs gs->DenF K α' H' fs gs
 |_,_,.nil=>.nil
 |_,_,.cons a l=>.cons (a.ex0 x) (DenF.ex0 x l)
def KeyD:MV->Key->Prop
 |.int i,k=>k=.inl i
 |.str x,k=>k=.inr (mkS x)
 |_,_=>False
inductive DenK(K:PySem.W.Frag)(α:List Addr)(H:Hp):List (MV×MV)->List (Key×V)->Prop
 |nil:DenK K α H [] []
 |cons {k:MV} {k':Key} {d:MV} {v:V} {fs gs}:KeyD k k'->Den K α H d v->DenK K α H fs gs->DenK K α H ((k,d)::fs) ((k',v)::gs)
theorem DenK.ex0{K:PySem.W.Frag}{α α':List Addr}{H H':Hp}(x:Ex0 α H α' H'): ∀{fs gs},DenK K α H fs gs->DenK K α' H' fs gs
 |_,_,.nil=>.nil
 |_,_,.cons k a l=>.cons k (a.ex0 x) (DenK.ex0 x l)
mutual
def nkOf:MV->Option NK
 |.int i=>some (.key (.inl i))
 |.str x=>some (.key (.inr (mkS x)))
 |.tup ds=>(yOT ds).map .tup
 |_=>none
def yOT:List MV->Option (List NK)
 |[]=>some []
 |d::ds=>(nkOf d).bind λk=>(yOT ds).map (k::·)
end
inductive DenN(K:PySem.W.Frag)(α:List Addr)(H:Hp):List (MV×MV)->List (NK×Addr×Value)->Prop
 |nil:DenN K α H [] []
 |cons {k:MV} {nk:NK} {a:Addr} {d:MV} {v:V} {u:Value} {fs xs}:nkOf k=some nk->zOH nk<=4->Den K α H k (.ref a)->Den K α H d v->RelV v u->DenN K α H fs xs->DenN K α H ((k,d)::fs) ((nk,a,u)::xs)
theorem DenN.ex0{K:PySem.W.Frag}{α α':List Addr}{H H':Hp}(x:Ex0 α H α' H'): ∀{fs xs},DenN K α H fs xs->DenN K α' H' fs xs
 |_,_,.nil=>.nil
 |_,_,.cons k e a d r l=>.cons k e (a.ex0 x) (d.ex0 x) r (DenN.ex0 x l)
def ObD(g:Gm)(α:List Addr)(H:Hp)(a:Addr):MO->Prop
 |.lst ds=> ∃vs,H a=some (.lst vs)/\DenL g.K α H ds vs
 |.dic kvs=>(∃ks,H a=some (.dK ks)/\DenK g.K α H kvs ks)\/ ∃xs,H a=some (DN g.P g.w a xs)/\DenN g.K α H kvs xs
 |.ins c fs=> ∃C gs,g.mg c=some (.ref C)/\DenF g.K α H fs gs/\
   ∃oe,H a=some (.ext λh=>h.get? a=some oe)/\oe.cls=.ref C/\(fs=[]\/ ∃dx od,oe.dict=some dx/\H dx=some (.frz od (.xd gs))/\ ∃vs,oe.data=.fields vs)
theorem ObD.there{g:Gm}{α:List Addr}{H:Hp}{a:Addr}{o:MO}(h:ObD g α H a o): ∃ho,H a=some ho/\(∀xs,ho≠.tup xs)/\ ∀ob u,ho≠.frz ob u:=by
 cases o with
 |lst ds=>obtain⟨vs,h,_⟩:=h;exact⟨_,h,(λxs z=>by cases z),λ_ _ z=>by cases z⟩
 |dic ds=>
  rcases h with⟨vs,h,_⟩|⟨vs,h,_⟩
  ·exact⟨_,h,(λxs z=>by cases z),λ_ _ z=>by cases z⟩
  ·exact⟨_,h,(λxs z=>by cases z),λ_ _ z=>by cases z⟩
 |ins c ds=>
  obtain⟨_,_,_,_,_,h,_⟩:=h
  exact⟨_,h,(λxs z=>by cases z),λ_ _ z=>by cases z⟩
theorem ObD.move{g:Gm}{α α':List Addr}{H H':Hp}{a:Addr}{o:MO}(h:ObD g α H a o)(x:Ex0 α H α' H')(e:H' a=H a):ObD g α' H' a o:=by
 cases o with
 |lst ds=>obtain⟨vs,h,l⟩:=h;exact⟨vs,e.trans h,l.ex0 x⟩
 |dic ds=>
  rcases h with⟨vs,h,l⟩|⟨vs,h,l⟩
  ·exact .inl ⟨vs,e.trans h,l.ex0 x⟩
  ·exact .inr ⟨vs,e.trans h,l.ex0 x⟩
 |ins c ds=>
  obtain⟨C,gs,m,l,oe,h,hc,hf⟩:=h
  exact⟨C,gs,m,l.ex0 x,oe,e.trans h,hc,hf.imp id λ⟨dx,od,h1,h2,h3⟩=>⟨dx,od,h1,x.frz _ _ _ h2,h3⟩⟩
structure Wd(g:Gm)(α:List Addr)(S:Sto)(H:Hp):Prop where
 len:α.length=S.length
 nd:α.Nodup
 obj: ∀(l:Nat)(a:Addr)(o:MO),α[l]? =some a->S[l]? =some o->ObD g α H a o
section
variable{g:Gm}{α α':List Addr}{S S':Sto}{H H':Hp}
theorem Wd.at(w:Wd g α S H){l:Nat}{o:MO}(h:S[l]? =some o): ∃a,α[l]? =some a/\ObD g α H a o:=by
 have hl:l<α.length:=by rw [w.len];exact(gS0.mp h).1
 exact⟨α[l],gE0 hl,w.obj l _ o (gE0 hl) h⟩
theorem Wd.of(w:Wd g α S H){l:Nat}{a:Addr}(h:α[l]? =some a): ∃o,S[l]? =some o/\ObD g α H a o:=by
 have hl:l<S.length:=by rw [<-w.len];exact(gS0.mp h).1
 exact⟨S[l],gE0 hl,w.obj l a _ h (gE0 hl)⟩
theorem Wd.mem(w:Wd g α S H){a:Addr}(h:a∈α): ∃ho,H a=some ho/\(∀xs,ho≠.tup xs)/\ ∀ob u,ho≠.frz ob u:=by
 obtain⟨l,hl⟩:=List.getElem?_of_mem h
 obtain⟨o,_,q⟩:=w.of hl
 exact q.there
theorem Wd.newx(w:Wd g α S H){p:Addr}{o:HO}(hp:H p=none):Ext α H α (upd H p o) where
 pre:=⟨[],by simp⟩
 new:=λb h=>.inl h
 keep:=λb o h _=>by rw [yC (yV h hp)];exact h
 has:=λb o h=>⟨o,by rw [yC (yV h hp)];exact h⟩
 tup:=λb o h=>by rw [yC (yV h hp)];exact h
 frz:=λb o u h=>by rw [yC (yV h hp)];exact h
theorem Wd.fresh(w:Wd g α S H){p:Addr}(hp:H p=none):p∉α:=λz=>by
 obtain⟨_,h,_⟩:=w.mem z;rw [hp]at h;cases h
theorem Wd.new(w:Wd g α S H){p:Addr}{o:HO}(hp:H p=none):Wd g α S (upd H p o):=
 ⟨w.len,w.nd,λl a ob h1 h2=>(w.obj l a ob h1 h2).move (w.newx hp).toEx0 (yC λz=>w.fresh hp (by rw [<-z];exact mem_of_getElem? h1))⟩
theorem Wd.writex(w:Wd g α S H){l:Nat}{a:Addr}{o:HO}(h:α[l]? =some a):Ext α H α (upd H a o) where
 pre:=⟨[],by simp⟩
 new:=λb h=>.inl h
 keep:=λb o e n=>by rw [yC λz=>n (by rw [z];exact mem_of_getElem? h)];exact e
 has:=λb o e=>by
  by_cases z:b=a
  ·subst z;exact⟨_,yS⟩
  ·exact⟨o,by rw [yC z];exact e⟩
 tup:=λb xs e=>by
  obtain⟨ho,h1,h2,_⟩:=w.mem (mem_of_getElem? h)
  rw [yC λz=>h2 xs (by subst z;rw [e]at h1;exact(Option.some.inj h1).symm)];exact e
 frz:=λb ob u e=>by
  obtain⟨ho,h1,_,h2⟩:=w.mem (mem_of_getElem? h)
  rw [yC λz=>h2 ob u (by subst z;rw [e]at h1;exact(Option.some.inj h1).symm)];exact e
theorem Wd.ne(w:Wd g α S H){l m:Nat}{a b:Addr}(h:α[l]? =some a)(h':α[m]? =some b)(n:l≠m):a≠b:=by
 rintro rfl
 obtain⟨h1,e1⟩:=gS0.mp h
 obtain⟨h2,e2⟩:=gS0.mp h'
 exact n ((getElem_inj w.nd).mp (e1.trans e2.symm))
theorem Wd.write(w:Wd g α S H){l:Nat}{a:Addr}{o:HO}{ob:MO}(h:α[l]? =some a)(q:ObD g α (upd H a o) a ob):Wd g α (S.set l ob) (upd H a o) where
 len:=by rw [length_set];exact w.len
 nd:=w.nd
 obj:=λm b ob' h1 h2=>by
  by_cases e:l=m
  ·subst e
   rw [h]at h1
   have hl:l<S.length:=by rw [<-w.len];exact(gS0.mp h).1
   rw [getElem?_set_self hl]at h2
   rw [<-Option.some.inj h1, <-Option.some.inj h2]
   exact q
  ·rw [getElem?_set_ne e]at h2
   exact(w.obj m b ob' h1 h2).move (w.writex h).toEx0 (yC (w.ne h1 h λz=>e z.symm))
theorem Wd.enterx(w:Wd g α S H){H0:Hp}{α0:List Addr}(x:Ext α0 H0 α H){b:Addr}(h0:H0 b=none)(n:b∉α):Ext α0 H0 (α++[b]) H where
 pre:=let ⟨t,e⟩:=x.pre;⟨t++[b],by rw [e,aA]⟩
 new:=λc hc=>(mem_append.mp hc).elim (x.new c) λz=>.inr (by rw [mS.mp z];exact h0)
 keep:=x.keep
 has:=x.has
 tup:=x.tup
 frz:=x.frz
theorem Wd.enter(w:Wd g α S H){b:Addr}{ds:List MV}{vs:List V}(h:H b=some (.lst vs))(n:b∉α)(l:DenL g.K α H ds vs):Wd g (α++[b]) (S++[.lst ds]) H where
 len:=by rw [lA,lA,w.len];rfl
 nd:=nodup_append.mpr ⟨w.nd,by simp,λa ha c hc=>by rw [mS.mp hc];rintro rfl;exact n ha⟩
 obj:=λm a o h1 h2=>by
  by_cases hm:m<α.length
  ·rw [getElem?_append_left hm]at h1
   rw [getElem?_append_left (by rw [<-w.len];exact hm)]at h2
   exact(w.obj m a o h1 h2).move (Ex0.grow α [b] H) rfl
  ·have hm':m=α.length:=by
    have:=(gS0.mp h1).1
    rw [lA,lS]at this
    omega
   subst hm'
   rw [getElem?_append_right (le_refl _),sub_self]at h1
   rw [getElem?_append_right (by rw [w.len];exact le_refl _),w.len,sub_self]at h2
   cases h1;cases h2
   exact⟨vs,h,l.ex0 (Ex0.grow α [b] H)⟩
end
inductive R(β:Type) where
 |ok (b:β) (S:Sto)|exc (c:Str) (fs:List (Str×MV)) (S:Sto)|no
def R.bind{β γ:Type}:R β->(β->Sto->R γ)->R γ
 |.ok b S,k=>k b S
 |.exc c fs S,_=>.exc c fs S
 |.no,_=>.no
theorem R.bind_ok{β γ:Type}(b:β)(S:Sto)(k:β->Sto->R γ):(R.ok b S).bind k=k b S:=rfl
inductive Er where
 |val (d:MV)|new (ds:List MV)
instance:Inhabited Er:=⟨.val .non⟩
def DenX(K:PySem.W.Frag)(α:List Addr)(H:Hp):Er->V->Prop
 |.val d,v=>Den K α H d v
 |.new ds,v=> ∃b vs,v=.ref b/\H b=some (.lst vs)/\b∉α/\DenL K α H ds vs
def DenE(K:PySem.W.Frag)(H:Hp)(α':List Addr)(H':Hp)(r:Er)(v:V):Prop:=DenX K α' H' r v/\match r with |.new _=> ∀a,v=.ref a->H a=none|_=>True
section
variable{K:PySem.W.Frag}{α α':List Addr}{H H0 H':Hp}
theorem DenX.ext(x:Ext α H α' H'): ∀{r:Er}{v:V},DenX K α H r v->DenX K α' H' r v
 |.val d,_,q=>Den.ext x q
 |.new ds,_,⟨b,vs,e,h,n,l⟩=>⟨b,vs,e,x.keep b _ h n,x.out h n,l.ext x⟩
theorem DenE.val{d:MV}{v:V}(q:Den K α' H' d v):DenE K H α' H' (.val d) v:=⟨q,trivial⟩
theorem DenE.back(hf: ∀b,H b=none->H0 b=none){r:Er}{v:V}(q:DenE K H α' H' r v):DenE K H0 α' H' r v:=by
 refine⟨q.1,?_⟩
 cases r with
 |new ds=>exact λa e=>hf a (q.2 a e)
 |_=>trivial
theorem DenE.ext{α'':List Addr}{H'':Hp}(x:Ext α' H' α'' H''){r:Er}{v:V}(q:DenE K H α' H' r v):DenE K H α'' H'' r v:=⟨q.1.ext x,q.2⟩
end
section
variable{K:PySem.W.Frag}{α:List Addr}{H:Hp}{v:V}
theorem yAU(d:DenX K α H (.val .non) v):v=.non:=zAI (K:=K) (α:=α) (H:=H) d
theorem zPV{b:Bool}(d:DenX K α H (.val (.bl b)) v):v=.bl b:=zEE (K:=K) (α:=α) (H:=H) d
theorem xF{b:Int}(d:DenX K α H (.val (.int b)) v):v=.int b:=jK (K:=K) (α:=α) (H:=H) d
theorem cC{b:List Nat}(d:DenX K α H (.val (.str b)) v):v=.str (mkS b):=jL (K:=K) (α:=α) (H:=H) d
theorem yQX{b:String}(d:DenX K α H (.val (.typ b)) v):v=.ty b:=dU (K:=K) (α:=α) (H:=H) d
theorem yHO{c:Str}{ns:List Str}{ds:List MV}(d:DenX K α H (.val (.obj c ns ds)) v): ∃a C dx vs o,v=.ref a/\H a=some (.frz o (.ins C dx (ns.zip vs)))/\PySem.W.nsIn K mainGlobals c=some (some (.ref C))/\(PySem.W.clsIn K C).map (·.name)=some c/\ns.length=vs.length/\DenL K α H ds vs:=cA (K:=K) (α:=α) (H:=H) d
theorem zAJ{ds:List MV}(d:DenX K α H (.val (.tup ds)) v): ∃a vs,v=.ref a/\SqT K H a vs/\DenL K α H ds vs:=kH (K:=K) (α:=α) (H:=H) d
theorem zUR{ds:List MV}(d:DenX K α H (.val (.scr ds)) v): ∃a vs,v=.ref a/\SqF K H a vs/\DenL K α H ds vs:=cB (K:=K) (α:=α) (H:=H) d
theorem zGY{l:Nat}(d:DenX K α H (.val (.loc l)) v): ∃a,v=.ref a/\α[l]? =some a:=gU (K:=K) (α:=α) (H:=H) d
end
def zJN:List Er->List V->List Addr
 |.new _::rs,.ref b::vs=>b::zJN rs vs
 |_::rs,_::vs=>zJN rs vs
 |_,_=>[]
inductive ArgsE(K:PySem.W.Frag)(H:Hp)(α':List Addr)(H':Hp):List Er->List V->Prop
 |nil:ArgsE K H α' H' [] []
 |cons {r v rs vs}:DenE K H α' H' r v->(∀ds b,r=.new ds->v=.ref b->b∉zJN rs vs)->ArgsE K H α' H' rs vs->ArgsE K H α' H' (r::rs) (v::vs)
theorem ArgsE.nones{K:PySem.W.Frag}{H:Hp}{α':List Addr}{H':Hp}: ∀{rs vs},ArgsE K H α' H' rs vs-> ∀b∈zJN rs vs,H b=none
 |_,_,.nil=>λb h=>by simp [zJN]at h
 |.val d::_,v::_,.cons a n l=>λb h=>ArgsE.nones l b (by simpa [zJN]using h)
 |.new ds::_,v::_,.cons a n l=>λb h=>by
  obtain⟨c,vs,rfl,_⟩:=a.1
  rcases mC.mp (show b∈c::zJN _ _ from h)with rfl|h
  ·exact a.2 _ rfl
  ·exact ArgsE.nones l b h
theorem ArgsE.back{K:PySem.W.Frag}{H H0:Hp}{α':List Addr}{H':Hp}(hf: ∀b,H b=none->H0 b=none): ∀{rs vs},ArgsE K H α' H' rs vs->ArgsE K H0 α' H' rs vs
 |_,_,.nil=>.nil
 |_,_,.cons a n l=>.cons (a.back hf) n (ArgsE.back hf l)
theorem ArgsE.length{K:PySem.W.Frag}{H:Hp}{α':List Addr}{H':Hp}: ∀{rs vs},ArgsE K H α' H' rs vs->vs.length=rs.length
 |_,_,.nil=>rfl
 |_,_,.cons _ _ l=>by rw [lC,lC,ArgsE.length l]
class Dn (β:Type) (τ:outParam Type) where
 d:Gm->Hp->List Addr->Sto->Hp->β->τ->Prop
 back: ∀{g:Gm}{H H0:Hp}{α':List Addr}{S':Sto}{H':Hp}{b:β}{u:τ},(∀b,H b=none->H0 b=none)->d g H α' S' H' b u->d g H0 α' S' H' b u
instance:Dn Er V:=⟨λg H α' _ H' r v=>DenE g.K H α' H' r v,λhf q=>q.back hf⟩
instance:Dn Bool Bool:=⟨λ_ _ _ _ _ b u=>u=b,λ_ q=>q⟩
instance:Dn (List Er) (List V):=⟨λg H α' _ H' r v=>ArgsE g.K H α' H' r v,λhf q=>q.back hf⟩
instance:Dn (Option Int) (Option Int):=⟨λ_ _ _ _ _ b u=>u=b,λ_ q=>q⟩
abbrev XW:=Str->List (Str×MV)->Sto->List Addr->Hp->Prop
abbrev W0:XW:=λ_ _ _ _ _=>False
def Post{β τ:Type}[Dn β τ](g:Gm)(W:XW)(α:List Addr)(H:Hp):R β->(τ->Hp->Prop)->Prop
 |.ok b S,Q=> ∀u α' H',Ext α H α' H'->Wd g α' S H'->Dn.d g H α' S H' b u->Q u H'
 |.exc c fs S,_=> ∀α' H',Ext α H α' H'->Wd g α' S H'->W c fs S α' H'
 |.no,_=>False
section
variable{β τ γ υ:Type}[Dn β τ][Dn γ υ]{g:Gm}{W:XW}{α α':List Addr}{H H':Hp}
theorem Post.shift(x:Ext α H α' H'): ∀{m:R β}{Q:τ->Hp->Prop},Post g W α H m Q->Post g W α' H' m Q
 |.ok b S,Q,q=>λu α2 H2 x2 w2 d2=>q u α2 H2 (x.trans x2) w2 (Dn.back (λb h=>x.free h) d2)
 |.exc c fs S,_,q=>λα2 H2 x2 w2=>q α2 H2 (x.trans x2) w2
 |.no,_,q=>q
theorem Post.bind{m:R β}{k:β->Sto->R γ}{Q:υ->Hp->Prop}{Q':τ->Hp->Prop}(q:Post g W α H (m.bind k) Q)
  (f: ∀u b S1 α1 H1,m=.ok b S1->Ext α H α1 H1->Wd g α1 S1 H1->Dn.d g H α1 S1 H1 b u->Post g W α H (k b S1) Q->Q' u H1):Post g W α H m Q':=by
 cases m with
 |ok b S=>exact λu α1 H1 x w d=>f u b S α1 H1 rfl x w d q
 |exc c fs S=>exact q
 |no=>exact q
theorem Post.here{b:β}{S:Sto}{Q:τ->Hp->Prop}{u:τ}(q:Post g W α H (.ok b S) Q)(w:Wd g α S H)(d:Dn.d g H α S H b u):Q u H:=q u α H (Ext.refl α H) w d
end
theorem Post.val{g:Gm}{W:XW}{α:List Addr}{H:Hp}{d:MV}{S:Sto}{Q:VK}{v:V}(q:Post g W α H (.ok (Er.val d) S) Q)(w:Wd g α S H)(k:Den g.K α H d v):Q v H:=q.here w (DenE.val k)
theorem Post.newl{g:Gm}{W:XW}{α:List Addr}{H:Hp}{ds:List MV}{S:Sto}{Q:VK}{vs:List V}{p:Addr}(q:Post g W α H (.ok (Er.new ds) S) Q)(w:Wd g α S H)(hp:H p=none)(l:DenL g.K α H ds vs):Q (.ref p) (upd H p (.lst vs)):=
 q (.ref p) α _ (w.newx hp) (w.new hp) ⟨⟨p,vs,rfl,yS,w.fresh hp,l.ext (w.newx hp)⟩,λa e=>by cases e;exact hp⟩
theorem Post.newt{g:Gm}{W:XW}{α:List Addr}{H:Hp}{ds:List MV}{S:Sto}{Q:VK}{vs:List V}{p:Addr}(q:Post g W α H (.ok (Er.val (.tup ds)) S) Q)(w:Wd g α S H)(hp:H p=none)(l:DenL g.K α H ds vs):Q (.ref p) (upd H p (.tup vs)):=
 q (.ref p) α _ (w.newx hp) (w.new hp) (.val (zES (.of yS) (l.ext (w.newx hp))))
abbrev Rho:=List (Option MV)
structure Slots(K:PySem.W.Frag)(α:List Addr)(H:Hp)(ρ:Rho)(σ:St):Prop where
 len:σ.length=ρ.length
 slot: ∀(i:Nat)(d:MV),ρ[i]? =some (some d)-> ∃v,σ[i]? =some (some v)/\Den K α H d v
section
variable{K:PySem.W.Frag}{α α':List Addr}{H H':Hp}{ρ:Rho}{σ:St}
theorem Slots.ex0(q:Slots K α H ρ σ)(x:Ex0 α H α' H'):Slots K α' H' ρ σ:=⟨q.len,λi d e=>let ⟨v,h1,h2⟩:=q.slot i d e;⟨v,h1,h2.ex0 x⟩⟩
theorem Slots.ext(q:Slots K α H ρ σ)(x:Ext α H α' H'):Slots K α' H' ρ σ:=q.ex0 x.toEx0
theorem yLO{α:Type}{l:List α}{i j:Nat}{x y:α}(h:(l.set i x)[j]? =some y):(j=i/\y=x/\i<l.length)\/(j≠i/\l[j]? =some y):=by
 by_cases hj:i=j
 ·subst hj
  by_cases hl:i<l.length
  ·rw [getElem?_set_self hl]at h
   exact .inl ⟨rfl,(Option.some.inj h).symm,hl⟩
  ·rw [getElem?_eq_none (by rw [length_set];omega)]at h;cases h
 ·rw [getElem?_set_ne hj]at h
  exact .inr ⟨λz=>hj z.symm,h⟩
theorem Slots.set(q:Slots K α H ρ σ){i:Nat}{d:MV}{v:V}(h:Den K α H d v):Slots K α H (ρ.set i (some d)) (σ.set i (some v)):=by
 refine⟨by rw [length_set,length_set];exact q.len,λj e z=>?_⟩
 rcases yLO z with⟨rfl,e',hl⟩|⟨hj,e'⟩
 ·cases e'
  exact⟨v,by rw [getElem?_set_self (by rw [q.len];exact hl)],h⟩
 ·obtain⟨u,h1,h2⟩:=q.slot j e e'
  exact⟨u,by rw [getElem?_set_ne (Ne.symm hj)];exact h1,h2⟩
end
def Jd(X:Cx)(W:XW){β τ:Type}[Dn β τ](P:(St->Hp->(τ->Hp->Prop)->Prop)->Prop)(f:Rho->Sto->R β):Prop:=
 ∃t,P t/\ ∀α ρ S σ H Q,Wd X.g α S H->Slots X.K α H ρ σ->Post X.g W α H (f ρ S) Q->t σ H Q
abbrev PEm(X:Cx)(W:XW)(e:Expr)(f:Rho->Sto->R Er):Prop:=Jd X W (PE X e) f
abbrev PTm(X:Cx)(W:XW)(e:Expr)(f:Rho->Sto->R Bool):Prop:=Jd X W (PT X e) f
abbrev PWm(X:Cx)(W:XW)(e:Expr)(f:Rho->Sto->R Bool):Prop:=Jd X W (PW X e) f
abbrev PAm(X:Cx)(W:XW)(es:List Expr)(f:Rho->Sto->R (List Er)):Prop:=Jd X W (PA X es) f
abbrev POm(X:Cx)(W:XW)(e:Option Expr)(f:Rho->Sto->R (Option Int)):Prop:=Jd X W (PO X e) f
section
variable{X:Cx}{W:XW}{a b c e:Expr}{es:List Expr}{f g h:Rho->Sto->R Er}{tf tg:Rho->Sto->R Bool}{af:Rho->Sto->R (List Er)}{pos:Pos}
def rdSl:Option (Option MV)->Sto->R Er
 |some (some d),S=>.ok (.val d) S
 |_,_=>.no
theorem zB(i:Nat){x:Str}(hN:X.N[i]? =some x:=by rfl)(hv:Vis X.env.scope x:=by first |exact Or.inl rfl|exact Or.inr (Or.inl rfl)|exact Or.inr (Or.inr rfl))(hd:(x==("__debug__":Str))=false:=by decide)
  (hcd:(x==("__classdict__":Str))=false:=by decide):PEm X W (.Name x pos) (λρ S=>rdSl (ρ[i]?) S):=by
 refine⟨_,pv i hN hv hd hcd,λα ρ S σ H Q wd sl q=>?_⟩
 dsimp only at q
 cases z:ρ[i]? with
 |none=>rw [z]at q;exact q.elim
 |some o=>
  cases o with
  |none=>rw [z]at q;exact q.elim
  |some d=>
   rw [z]at q
   obtain⟨v,h1,h2⟩:=sl.slot i d z
   exact⟨v,h1,Post.val q wd h2⟩
theorem zE{i:Int}{j:Nat}:PEm X W (.Constant (.int i) j pos) (λ_ S=>.ok (.val (.int i)) S):=⟨_,yGN,λα ρ S σ H Q wd sl q=>Post.val q wd (kK i)⟩
theorem gV{i:Bool}{j:Nat}:PEm X W (.Constant (.bool i) j pos) (λ_ S=>.ok (.val (.bl i)) S):=⟨_,pe_bl,λα ρ S σ H Q wd sl q=>Post.val q wd (gT i)⟩
theorem yQY{j:Nat}:PEm X W (.Constant .none j pos) (λ_ S=>.ok (.val .non) S):=⟨_,yPL,λα ρ S σ H Q wd sl q=>Post.val q wd zOV⟩
theorem xS{x:Str}{j:Nat}(cs:List Nat)(hx:x=mkS cs:=by rfl):PEm X W (.Constant (.str x) j pos) (λ_ S=>.ok (.val (.str cs)) S):=
 ⟨_,yPM,λα ρ S σ H Q wd sl q=>Post.val q wd (by rw [hx];exact zBM cs)⟩
theorem zTN{x:Str}{T:String}(hg:Gl X x)(hm:X.mg x=none)(hv:bootBuiltins x=some (.type T))(hn:x≠"__name__":=by decide)(hd:(x==("__debug__":Str))=false:=by decide):PEm X W (.Name x pos) (λ_ S=>.ok (.val (.typ T)) S):=
 ⟨_,yKN (v:=.ty T) hg hm hv rfl hn hd,λα ρ S σ H Q wd sl q=>Post.val q wd (yCO T)⟩
theorem zPW{i:Int}{j:Nat}{p3:Pos}:PEm X W (.UnaryOp .USub (.Constant (.int i) j p3) pos) (λ_ S=>.ok (.val (.int (-i))) S):=
 ⟨_,pe_un yQE yGN,λα ρ S σ H Q wd sl q=>⟨i,rfl,Post.val q wd (kK (-i))⟩⟩
def Op2(X:Cx)(W:XW)(r:R2)(F:Er->Er->Sto->R Er):Prop:= ∀p q x y α S H Q,Wd X.g α S H->DenX X.K α H p x->DenX X.K α H q y->Post X.g W α H (F p q S) Q->r x y H Q
theorem two{r:R2}{F:Er->Er->Sto->R Er}(hF:Op2 X W r F){ta tb:TE}(fa: ∀α ρ S σ H Q,Wd X.g α S H->Slots X.K α H ρ σ->Post X.g W α H (f ρ S) Q->ta σ H Q)
  (fb: ∀α ρ S σ H Q,Wd X.g α S H->Slots X.K α H ρ σ->Post X.g W α H (g ρ S) Q->tb σ H Q) {α:List Addr} {ρ:Rho} {S:Sto} {σ:St} {H:Hp} {Q:VK} (wd:Wd X.g α S H) (sl:Slots X.K α H ρ σ)
  (q:Post X.g W α H ((f ρ S).bind λp S1=>(g ρ S1).bind λq S2=>F p q S2) Q):ta σ H λx H1=>tb σ H1 λy H2=>r x y H2 Q:=
 fa α ρ S σ H _ wd sl (q.bind λu p S1 α1 H1 e1 x1 w1 d1 q1=>fb α1 ρ S1 σ H1 _ w1 (sl.ext x1) ((q1.shift x1).bind λu2 p2 S2 α2 H2 e2 x2 w2 d2 q2=>
  hF p p2 u u2 α2 S2 H2 Q w2 (d1.1.ext x2) d2.1 (q2.shift x2)))
theorem zNS{op:Operator}{r:R2}{F:Er->Er->Sto->R Er}(ho:OpR X (binaryOp op) r)(hF:Op2 X W r F)(ha:PEm X W a f)(hb:PEm X W b g):PEm X W (.BinOp a op b pos) (λρ S=>(f ρ S).bind λp S1=>(g ρ S1).bind λq S2=>F p q S2):=by
 obtain⟨ta,ha,fa⟩:=ha
 obtain⟨tb,hb,fb⟩:=hb
 exact⟨_,pe_op ho ha hb,λα ρ S σ H Q wd sl q=>two hF fa fb wd sl q⟩
theorem yAV{op:CmpOp}{r:R2}{F:Er->Er->Sto->R Er}(ho:OpR X (compareOp op) r)(hF:Op2 X W r F)(ha:PEm X W a f)(hb:PEm X W b g)(hm:behindInMarks op b=false:=by first |exact yGV _|with_unfolding_all rfl):
  PEm X W (.Compare a [op] [b] pos) (λρ S=>(f ρ S).bind λp S1=>(g ρ S1).bind λq S2=>F p q S2):=by
 obtain⟨ta,ha,fa⟩:=ha
 obtain⟨tb,hb,fb⟩:=hb
 exact⟨_,yKT ho ha hb hm,λα ρ S σ H Q wd sl q=>two hF fa fb wd sl q⟩
theorem pm_ix{r:R2}{F:Er->Er->Sto->R Er}(ho:IxR X r)(hF:Op2 X W r F)(ha:PEm X W a f)(hb:PEm X W b g)(hs:zUG b:=by exact λ_ _=>rfl):
  PEm X W (.Subscript a b pos) (λρ S=>(f ρ S).bind λp S1=>(g ρ S1).bind λq S2=>F p q S2):=by
 obtain⟨ta,ha,fa⟩:=ha
 obtain⟨tb,hb,fb⟩:=hb
 exact⟨_,pe_ix ho ha hb hs,λα ρ S σ H Q wd sl q=>two hF fa fb wd sl q⟩
def asB:Er->Sto->R Bool
 |.val (.bl b),S=>.ok b S
 |_,_=>.no
theorem yHP{p:Er}{S:Sto}{α:List Addr}{H:Hp}{Q:Bool->Hp->Prop}(q:Post X.g W α H (asB p S) Q): ∃k,p=.val (.bl k)/\Post X.g W α H (.ok k S) Q:=by
 unfold asB at q
 split at q
 ·exact⟨_,rfl,q⟩
 ·exact q.elim
theorem zXP{β τ:Type}[Dn β τ]{p:Er}{S:Sto}{α:List Addr}{H:Hp}{k:Bool->Sto->R β}{Q:τ->Hp->Prop}(q:Post X.g W α H ((asB p S).bind k) Q): ∃c,p=.val (.bl c)/\Post X.g W α H (k c S) Q:=by
 unfold asB at q
 split at q
 ·exact⟨_,rfl,q⟩
 ·exact q.elim
theorem zGZ{op:CmpOp}{r:R2}{F:Er->Er->Sto->R Er}(ho:OpR X (compareOp op) r)(hF:Op2 X W r F)(ha:PEm X W a f)(hb:PEm X W b g)(hm:behindInMarks op b=false:=by first |exact yGV _|with_unfolding_all rfl):
  PTm X W (.Compare a [op] [b] pos) (λρ S=>((f ρ S).bind λp S1=>(g ρ S1).bind λq S2=>F p q S2).bind asB):=by
 obtain⟨ta,ha,fa⟩:=ha
 obtain⟨tb,hb,fb⟩:=hb
 refine⟨_,yKU ho ha hb hm,λα ρ S σ H Q wd sl q=>?_⟩
 refine two hF fa fb wd sl (Q:=λx H'=> ∃k,x=.bl k/\Q k H') (q.bind λu p S1 α1 H1 e1 x1 w1 d1 q1=>?_)
 obtain⟨k,rfl,q2⟩:=yHP (q1.shift x1)
 exact⟨k,zPV d1.1,q2.here w1 rfl⟩
def chF(F G:Er->Er->Sto->R Er)(p q:Er)(S:Sto)(k:Sto->R Er):R Er:=(F p q S).bind λz S1=>(asB z S1).bind λc S2=>if c=true then(k S2).bind λr S3=>G q r S3 else .ok (.val (.bl false)) S2
def zET:Er->Sto->R Bool
 |.val .non,S=>.ok false S
 |.val (.bl b),S=>.ok b S
 |.val (.int i),S=>.ok (i !=0) S
 |.val (.str x),S=>if x.length<=sizeLine then .ok (!x.isEmpty) S else .no
 |.val (.tup ds),S=>.ok (!ds.isEmpty) S
 |.val (.scr ds),S=>.ok (!ds.isEmpty) S
 |.val (.loc l),S=>match S[l]? with
  |some (.lst ds)=>.ok (!ds.isEmpty) S
  |_=>.no
 |.val (.typ _),_=>.no
 |.val (.obj _ _ _),_=>.no
 |.new ds,S=>.ok (!ds.isEmpty) S
theorem zIW{ds:List MV}{vs:List V}{K:PySem.W.Frag}{α:List Addr}{H:Hp}(l:DenL K α H ds vs):(!vs.isEmpty)= !ds.isEmpty:=by
 have:=l.length
 cases ds<;>cases vs<;>simp_all
theorem yHQ{p:Er}{x:V}{S:Sto}{α:List Addr}{H:Hp}{Q:Bool->Hp->Prop}(wd:Wd X.g α S H)(d:DenX X.K α H p x)(q:Post X.g W α H (zET p S) Q): ∃k,TruV X.K x H k/\Q k H:=by
 match p,d,q with
 |.val .non,d,q=>cases yAU d;exact⟨_,rfl,q.here wd rfl⟩
 |.val (.bl b),d,q=>cases zPV d;exact⟨_,rfl,q.here wd rfl⟩
 |.val (.int i),d,q=>cases xF d;exact⟨_,rfl,q.here wd rfl⟩
 |.val (.typ n),d,q=>exact q.elim
 |.val (.obj _ _ _),d,q=>exact q.elim
 |.val (.str z),d,q=>
  cases cC d
  have q':Post X.g W α H (if z.length<=sizeLine then R.ok (!z.isEmpty) S else R.no) Q:=q
  split at q'
  ·rename_i hz
   refine⟨_,⟨by rw [kI];exact hz,?_⟩,q'.here wd rfl⟩
   rw [kI]
   cases z with
   |nil=>rfl
   |cons c r=>
    have h0:((r.length:Int)+1)≠0:=by omega
    simp [h0]
  ·exact q'.elim
 |.val (.tup ds),d,q=>
  obtain⟨a,vs,rfl,s,l⟩:=zAJ d
  exact⟨_,.inr (.inl ⟨vs,s,(zIW l).symm⟩),q.here wd rfl⟩
 |.val (.scr ds),d,q=>
  obtain⟨a,vs,rfl,s,l⟩:=zUR d
  exact⟨_,.inl ⟨vs,s.l,(zIW l).symm⟩,q.here wd rfl⟩
 |.val (.loc n),d,q=>
  obtain⟨a,rfl,h⟩:=zGY d
  obtain⟨o,h1,h2⟩:=wd.of h
  have q':Post X.g W α H (match S[n]? with |some (.lst ds)=>R.ok (!ds.isEmpty) S|_=>R.no) Q:=q
  rw [h1]at q'
  cases o with
  |lst ds=>
   obtain⟨vs,h3,l⟩:=h2
   exact⟨_,.inl ⟨vs,.of h3,(zIW l).symm⟩,q'.here wd rfl⟩
  |dic ds=>exact q'.elim
  |ins c fs=>exact q'.elim
 |.new ds,⟨a,vs,ex,s,n,l⟩,q=>subst ex;exact⟨_,.inl ⟨vs,.of s,(zIW l).symm⟩,q.here wd rfl⟩
theorem xW(ha:PEm X W a f)(he: ∀whole,isTrue a X.env whole=(do let v <-whole;standAt a.pos;holding [v] (truthy v)):=by intro _;rfl):PTm X W a (λρ S=>(f ρ S).bind zET):=by
 obtain⟨ta,ha,fa⟩:=ha
 exact⟨_,yGW ha he,λα ρ S σ H Q wd sl q=>fa α ρ S σ H _ wd sl (q.bind λu p S1 α1 H1 e1 x1 w1 d1 q1=>yHQ w1 d1.1 (q1.shift x1))⟩
end
section
variable{X:Cx}{W:XW}{a b c e:Expr}{es:List Expr}{f g h:Rho->Sto->R Er}{tf tg:Rho->Sto->R Bool}{af:Rho->Sto->R (List Er)}{pos:Pos}
def zSD(p:Er)(S:Sto)(k:Sto->R Er):R Er:=(asB p S).bind λc S1=>if c=true then k S1 else .ok (.val (.bl false)) S1
def orF(p:Er)(S:Sto)(k:Sto->R Er):R Er:=(asB p S).bind λc S1=>if c=true then .ok (.val (.bl true)) S1 else k S1
theorem zUS{op}(ha:PEm X W a f):PEm X W (.BoolOp op [a] pos) f:=let ⟨t,h,k⟩:=ha;⟨t,yPQ h,k⟩
theorem zMG(ha:PEm X W a f)(hb:PEm X W (.BoolOp .And (b::es) pos) g):PEm X W (.BoolOp .And (a::b::es) pos) (λρ S=>(f ρ S).bind λp S1=>zSD p S1 λS2=>g ρ S2):=by
 obtain⟨ta,ha,fa⟩:=ha
 obtain⟨tb,hb,fb⟩:=hb
 refine⟨_,yPR ha hb,λα ρ S σ H Q wd sl q=>fa α ρ S σ H _ wd sl (q.bind λu p S1 α1 H1 e1 x1 w1 d1 q1=>?_)⟩
 obtain⟨k,rfl,q2⟩:=zXP (q1.shift x1)
 refine⟨k,zPV d1.1,?_⟩
 cases k with
 |true=>rw [iP rfl]at q2 ⊢; exact fb α1 ρ S1 σ H1 _ w1 (sl.ext x1) q2
 |false=>rw [iN xF0]at q2 ⊢; exact Post.val q2 w1 (gT false)
theorem yQZ(ha:PEm X W a f):PEm X W (.UnaryOp .Not a pos) (λρ S=>(f ρ S).bind λp S1=>(asB p S1).bind λk S2=>.ok (.val (.bl !k)) S2):=by
 obtain⟨ta,ha,fa⟩:=ha
 refine⟨_,yPS ha,λα ρ S σ H Q wd sl q=>fa α ρ S σ H _ wd sl (q.bind λu p S1 α1 H1 e1 x1 w1 d1 q1=>?_)⟩
 obtain⟨k,rfl,q2⟩:=zXP (q1.shift x1)
 exact⟨k,zPV d1.1,Post.val q2 w1 (gT _)⟩
theorem zBN(ha:PTm X W a tf):PWm X W (.BoolOp .And [a] pos) tf:=let ⟨t,h,k⟩:=ha;⟨t,yKO h,k⟩
theorem zJZ(ha:PTm X W a tf):PWm X W (.BoolOp .Or [a] pos) tf:=let ⟨t,h,k⟩:=ha;⟨t,yPN h,k⟩
theorem zHA(ha:PTm X W a tf)(hb:PWm X W (.BoolOp .And (b::es) pos) tg):PWm X W (.BoolOp .And (a::b::es) pos) (λρ S=>(tf ρ S).bind λk S1=>if k=true then tg ρ S1 else .ok false S1):=by
 obtain⟨ta,ha,fa⟩:=ha
 obtain⟨tb,hb,fb⟩:=hb
 refine⟨_,yPO ha hb,λα ρ S σ H Q wd sl q=>fa α ρ S σ H _ wd sl (q.bind λu p S1 α1 H1 e1 x1 w1 d1 q1=>?_)⟩
 cases d1
 cases u with
 |true=>rw [iP rfl]at q1 ⊢; exact fb α1 ρ S1 σ H1 _ w1 (sl.ext x1) (q1.shift x1)
 |false=>rw [iN xF0]at q1 ⊢; exact(q1.shift x1).here w1 rfl
theorem zKT(ha:PTm X W a tf)(hb:PWm X W (.BoolOp .Or (b::es) pos) tg):PWm X W (.BoolOp .Or (a::b::es) pos) (λρ S=>(tf ρ S).bind λk S1=>if k=true then .ok true S1 else tg ρ S1):=by
 obtain⟨ta,ha,fa⟩:=ha
 obtain⟨tb,hb,fb⟩:=hb
 refine⟨_,pw_or ha hb,λα ρ S σ H Q wd sl q=>fa α ρ S σ H _ wd sl (q.bind λu p S1 α1 H1 e1 x1 w1 d1 q1=>?_)⟩
 cases d1
 cases u with
 |true=>rw [iP rfl]at q1 ⊢; exact(q1.shift x1).here w1 rfl
 |false=>rw [iN xF0]at q1 ⊢; exact fb α1 ρ S1 σ H1 _ w1 (sl.ext x1) (q1.shift x1)
theorem zAK(h:PWm X W a tf):PTm X W a tf:=let ⟨t,h,k⟩:=h;⟨t,h.pt,k⟩
theorem zPX(ha:PTm X W a tf):PTm X W (.UnaryOp .Not a pos) (λρ S=>(tf ρ S).bind λk S1=>.ok (!k) S1):=by
 obtain⟨ta,ha,fa⟩:=ha
 refine⟨_,yPP ha,λα ρ S σ H Q wd sl q=>fa α ρ S σ H _ wd sl (q.bind λu p S1 α1 H1 e1 x1 w1 d1 q1=>?_)⟩
 cases d1
 exact(q1.shift x1).here w1 rfl
end
section
variable{K:PySem.W.Frag}{H0:Hp}
def zV:List Er->Sto->List MV×Sto
 |[],S=>([],S)
 |.val d::rs,S=>((d::(zV rs S).1),(zV rs S).2)
 |.new xs::rs,S=>((.loc S.length::(zV rs (S++[.lst xs])).1),(zV rs (S++[.lst xs])).2)
theorem ArgsE.grow{H0:Hp}{α:List Addr}{H:Hp}{b:Addr}{rs:List Er}{vs:List V}(q:ArgsE K H0 α H rs vs)(n:b∉zJN rs vs):ArgsE K H0 (α++[b]) H rs vs:=by
 induction q with
 |nil=>exact .nil
 |@cons r v rs vs a m l ih=>
  cases r with
  |val d=>exact .cons ⟨Den.ex0 (Ex0.grow α [b] H) a.1,trivial⟩ m (ih (by simpa [zJN]using n))
  |new ds=>
   obtain⟨⟨c,us,rfl,h1,h2,h3⟩,h4⟩:=a
   have n':b∉c::zJN rs vs:=n
   refine .cons ⟨⟨c,us,rfl,h1,λz=>?_,h3.ex0 (Ex0.grow α [b] H)⟩,h4⟩ m (ih λz=>n' (mO _ z))
   rcases mem_append.mp z with z|z
   ·exact h2 z
   ·exact n' (by rw [mS.mp z];exact mF0)
theorem zHB{g:Gm}{H0:Hp}{α0:List Addr}{H:Hp}: ∀{rs:List Er}{vs:List V}{α:List Addr}{S:Sto},Wd g α S H->Ext α0 H0 α H->ArgsE g.K H0 α H rs vs->
  ∃α',Ext α0 H0 α' H/\Ex0 α H α' H/\Wd g α' (zV rs S).2 H/\DenL g.K α' H (zV rs S).1 vs
 |_,_,α,S,w,x,.nil=>⟨α,x,⟨⟨[],by simp⟩,λ_ _ h=>h,λ_ _ _ h=>h⟩,w,xN⟩
 |.val d::rs,v::vs,α,S,w,x,.cons a n l=>by
  obtain⟨α',x',y',w',l'⟩:=zHB w x l
  exact⟨α',x',y',w',yW (Den.ex0 y' a.1) l'⟩
 |.new ds::rs,v::vs,α,S,w,x,.cons a n l=>by
  obtain⟨⟨c,us,rfl,h1,h2,h3⟩,h4⟩:=a
  obtain⟨α',x',y',w',l'⟩:=zHB (w.enter h1 h2 h3) (w.enterx x (h4 c rfl) h2) (l.grow (n ds c rfl rfl))
  refine⟨α',x',⟨?_,y'.tup,y'.frz⟩,w',yW (zKS (y'.at ?_)) l'⟩
  ·obtain⟨t,e⟩:=y'.pre
   exact⟨[c]++t,by rw [e,aA]⟩
  ·rw [<-w.len,getElem?_append_right (le_refl _),sub_self];rfl
theorem zMH: ∀(rs:List Er)(S:Sto),(zV rs S).1.length=rs.length
 |[],S=>rfl
 |.val d::rs,S=>by show(d::(zV rs S).1).length=_;rw [lC,zMH rs S];rfl
 |.new ds::rs,S=>by show(_::(zV rs _).1).length=_;rw [lC,zMH rs _];rfl
end
section
variable{X:Cx}{W:XW}{a b c e:Expr}{es:List Expr}{f g h:Rho->Sto->R Er}{tf tg:Rho->Sto->R Bool}{af:Rho->Sto->R (List Er)}{pos:Pos}
theorem zD:PAm X W [] (λ_ S=>.ok [] S):=⟨_,yAM,λα ρ S σ H Q wd sl q=>q.here wd .nil⟩
theorem zA(ha:PEm X W a f)(hr:PAm X W es af)(hs:starEach (a::es) X.env=(false,eval a X.env)::starEach es X.env:=by rfl):PAm X W (a::es) (λρ S=>(f ρ S).bind λp S1=>(af ρ S1).bind λps S2=>.ok (p::ps) S2):=by
 obtain⟨ta,ha,fa⟩:=ha
 obtain⟨tr,hr,fr⟩:=hr
 refine⟨_,zUE ha hr hs,λα ρ S σ H Q wd sl q=>fa α ρ S σ H _ wd sl (q.bind λu p S1 α1 H1 e1 x1 w1 d1 q1=>fr α1 ρ S1 σ H1 _ w1 (sl.ext x1) ?_)⟩
 have q1':Post X.g W α H ((af ρ S1).bind λps S2=>.ok (p::ps) S2) Q:=q1
 cases z:af ρ S1 with
 |ok ps S2=>
  rw [z]at q1'
  intro vs α2 H2 x2 w2 d2
  refine q1' (u::vs) α2 H2 (x1.trans x2) w2 (ArgsE.cons (DenE.ext x2 d1) (λds b er eu hb=>?_) (ArgsE.back (λb h=>x1.free h) d2))
  subst er eu
  obtain⟨⟨c,us,ec,h1,_⟩,_⟩:=d1
  cases ec
  have:=ArgsE.nones d2 _ hb
  rw [h1]at this;cases this
 |exc c fs S2=>rw [z]at q1';exact λα2 H2 x2 w2=>q1' α2 H2 (x1.trans x2) w2
 |no=>rw [z]at q1';exact q1'
def nX(rs:List Er)(S:Sto):R Er:=if rs.length<=sizeLine then .ok (.val (.tup (zV rs S).1)) (zV rs S).2 else .no
def gW(rs:List Er)(S:Sto):R Er:=if rs.length<=sizeLine then .ok (.new (zV rs S).1) (zV rs S).2 else .no
theorem gX{x1}(h:PAm X W es af):PEm X W (.Tuple es x1 pos) (λρ S=>(af ρ S).bind nX):=by
 obtain⟨t,h,k⟩:=h
 refine⟨_,yQI h,λα ρ S σ H Q wd sl q=>k α ρ S σ H _ wd sl (q.bind λvs rs S1 α1 H1 e1 x1 w1 d1 q1=>?_)⟩
 have q1':Post X.g W α H (if rs.length<=sizeLine then R.ok (Er.val (.tup (zV rs S1).1)) (zV rs S1).2 else R.no) Q:=q1
 split at q1'
 ·rename_i hz
  obtain⟨α2,x2,y2,w2,l2⟩:=zHB w1 x1 d1
  exact⟨by rw [ArgsE.length d1];exact hz,λp hp=>(q1'.shift x2).newt w2 hp l2⟩
 ·exact q1'.elim
theorem wP(h:PAm X W es af):PEm X W (.List es pos) (λρ S=>(af ρ S).bind gW):=by
 obtain⟨t,h,k⟩:=h
 refine⟨_,yQJ h,λα ρ S σ H Q wd sl q=>k α ρ S σ H _ wd sl (q.bind λvs rs S1 α1 H1 e1 x1 w1 d1 q1=>?_)⟩
 have q1':Post X.g W α H (if rs.length<=sizeLine then R.ok (Er.new (zV rs S1).1) (zV rs S1).2 else R.no) Q:=q1
 split at q1'
 ·rename_i hz
  obtain⟨α2,x2,y2,w2,l2⟩:=zHB w1 x1 d1
  exact⟨by rw [ArgsE.length d1];exact hz,λp hp=>(q1'.shift x2).newl w2 hp l2⟩
 ·exact q1'.elim
inductive ArgsX(K:PySem.W.Frag)(α:List Addr)(H:Hp):List Er->List V->Prop
 |nil:ArgsX K α H [] []
 |cons {r v rs vs}:DenX K α H r v->ArgsX K α H rs vs->ArgsX K α H (r::rs) (v::vs)
theorem ArgsE.x{K:PySem.W.Frag}{H0:Hp}{α:List Addr}{H:Hp}: ∀{rs vs},ArgsE K H0 α H rs vs->ArgsX K α H rs vs
 |_,_,.nil=>.nil
 |_,_,.cons a _ l=>.cons a.1 (ArgsE.x l)
def zGD(X:Cx)(W:XW)(r:List V->Hp->VK->Prop)(F:List Er->Sto->R Er):Prop:= ∀rs vs α S H Q,Wd X.g α S H->ArgsX X.K α H rs vs->Post X.g W α H (F rs S) Q->r vs H Q
theorem yE{id:String}{r:List V->Hp->VK->Prop}{F:List Er->Sto->R Er}{x:Str}{p:Pos}(hc:CallR X (.builtin id) r)(hF:zGD X W r F)(hg:Gl X x)(hm:X.mg x=none)(hv:bootBuiltins x=some (.builtin id))(ha:PAm X W (e::es) af)
  (hn:x≠"__name__":=by decide) (hdb:(x==("__debug__":Str))=false:=by decide)
  (he:starEach (e::es) X.env=(false,eval e X.env)::starEach es X.env:=by rfl) (hpl:(backTo pos (starEach es X.env)).any (·.1)=false:=by rfl):PEm X W (.Call (.Name x p) (e::es) [] pos) (λρ S=>(af ρ S).bind F):=by
 obtain⟨t,ha,k⟩:=ha
 exact⟨_,yHB hc hg hm hv ha hn hdb he hpl,λα ρ S σ H Q wd sl q=>k α ρ S σ H _ wd sl (q.bind λvs rs S1 α1 H1 e1 x1 w1 d1 q1=>hF rs vs α1 S1 H1 Q w1 (ArgsE.x d1) (q1.shift x1))⟩
theorem xT{T:String}{r:List V->Hp->VK->Prop}{F:List Er->Sto->R Er}{x:Str}{p:Pos}(hc:CallR X (.type T) r)(hF:zGD X W r F)(hg:Gl X x)(hm:X.mg x=none)(hv:bootBuiltins x=some (.type T))(ha:PAm X W (e::es) af)
  (hn:x≠"__name__":=by decide) (hdb:(x==("__debug__":Str))=false:=by decide)
  (he:starEach (e::es) X.env=(false,eval e X.env)::starEach es X.env:=by rfl) (hpl:(backTo pos (starEach es X.env)).any (·.1)=false:=by rfl):PEm X W (.Call (.Name x p) (e::es) [] pos) (λρ S=>(af ρ S).bind F):=by
 obtain⟨t,ha,k⟩:=ha
 exact⟨_,zTI hc hg hm hv ha hn hdb he hpl,λα ρ S σ H Q wd sl q=>k α ρ S σ H _ wd sl (q.bind λvs rs S1 α1 H1 e1 x1 w1 d1 q1=>hF rs vs α1 S1 H1 Q w1 (ArgsE.x d1) (q1.shift x1))⟩
def MtdM(X:Cx)(W:XW)(r:V->List V->Hp->VK->Prop)(F:Er->List Er->Sto->R Er):Prop:= ∀p rs x vs α S H0 H Q α0,Wd X.g α S H->Ext α0 H0 α H->DenX X.K α H p x->ArgsE X.K H0 α H rs vs->Post X.g W α0 H0 (F p rs S) Q->r x vs H Q
def TyM(X:Cx)(T:String)(ty:Er->Sto->Bool):Prop:= ∀p x α S H,Wd X.g α S H->DenX X.K α H p x->ty p S=true->tyV X.K T x H
theorem yCR{T:String}{name:Str}{id:String}{r:V->List V->Hp->VK->Prop}{F:Er->List Er->Sto->R Er}{ty:Er->Sto->Bool}{apos:Pos}(pa:PlainAttrs T)(slot:Slot T name id)(hty:typeOf (.builtin id)=pure (.type "method_descriptor"))(hm:MtR X id r)(hF:MtdM X W r F)(hT:TyM X T ty)
  (ho:PEm X W a f) (ha:PAm X W (e::es) af)
  (hbase:attributeBase a name X.env (eval a X.env)=eval a X.env:=by rfl)
  (hfew:((backTo pos (starEach (e::es) X.env)).all (λx=>!x.1)&&(backToKw pos (keywordEach [] X.env)).all (λx=>x.1.isSome)
   &&decide ((e::es).length+([]:List Keyword).length+(if([]:List Keyword).isEmpty then 0 else 1)<30))=true:=by rfl)
  (hline:(apos.endLine==pos.line)=true:=by rfl) (hs:starEach (e::es) X.env=(false,eval e X.env)::starEach es X.env:=by rfl) (hplain:(backTo pos (starEach es X.env)).any (·.1)=false:=by rfl):
  PEm X W (.Call (.Attribute a name apos) (e::es) [] pos) (λρ S=>(f ρ S).bind λp S1=>if ty p S1=true then(af ρ S1).bind λrs S2=>F p rs S2 else .no):=by
 obtain⟨to,ho,fo⟩:=ho
 obtain⟨t,ha,k⟩:=ha
 refine⟨_,pe_bm pa slot hty hm ho ha hbase hfew hline hs hplain,λα ρ S σ H Q wd sl q=>fo α ρ S σ H _ wd sl (q.bind λu p S1 α1 H1 e1 x1 w1 d1 q1=>?_)⟩
 split at q1
 ·rename_i hz
  exact⟨hT p u α1 S1 H1 w1 d1.1 hz,k α1 ρ S1 σ H1 _ w1 (sl.ext x1) ((q1.shift x1).bind λvs rs S2 α2 H2 e2 x2 w2 d2 q2=>hF p rs u vs α2 S2 H1 H2 Q α1 w2 x2 (d1.1.ext x2) d2 q2)⟩
 ·exact q1.elim
theorem zKU:POm X W none (λ_ S=>.ok none S):=⟨_,yLC,λα ρ S σ H Q wd sl q=>q.here wd rfl⟩
def asI:Er->Sto->R (Option Int)
 |.val (.int i),S=>.ok (some i) S
 |_,_=>.no
theorem zKV(ha:PEm X W a f):POm X W (some a) (λρ S=>(f ρ S).bind asI):=by
 obtain⟨ta,ha,fa⟩:=ha
 refine⟨_,yLD ha,λα ρ S σ H Q wd sl q=>fa α ρ S σ H _ wd sl (q.bind λu p S1 α1 H1 e1 x1 w1 d1 q1=>?_)⟩
 unfold asI at q1
 split at q1
 ·exact⟨_,xF d1.1,(q1.shift x1).here w1 rfl⟩
 ·exact q1.elim
def Sl3(X:Cx)(W:XW)(r:V->Option Int->Option Int->Hp->VK->Prop)(F:Er->Option Int->Option Int->Sto->R Er):Prop:= ∀p lo hi x α S H Q,Wd X.g α S H->DenX X.K α H p x->Post X.g W α H (F p lo hi S) Q->r x lo hi H Q
theorem yHR{lo hi:Option Expr}{r:V->Option Int->Option Int->Hp->VK->Prop}{F:Er->Option Int->Option Int->Sto->R Er}{lf hf:Rho->Sto->R (Option Int)}{p2:Pos}(hr:SlR X r)(hF:Sl3 X W r F)(ha:PEm X W a f)(hl:POm X W lo lf)(hh:POm X W hi hf):
  PEm X W (.Subscript a (.Slice lo hi none p2) pos) (λρ S=>(f ρ S).bind λp S1=>(lf ρ S1).bind λl S2=>(hf ρ S2).bind λu S3=>F p l u S3):=by
 obtain⟨ta,ha,fa⟩:=ha
 obtain⟨tl,hl,fl⟩:=hl
 obtain⟨th,hh,fh⟩:=hh
 refine⟨_,yHD hr ha hl hh,λα ρ S σ H Q wd sl q=>fa α ρ S σ H _ wd sl (q.bind λu p S1 α1 H1 e1 x1 w1 d1 q1=>fl α1 ρ S1 σ H1 _ w1 (sl.ext x1) ((q1.shift x1).bind λu2 l S2 α2 H2 e2 x2 w2 d2 q2=>
  fh α2 ρ S2 σ H2 _ w2 ((sl.ext x1).ext x2) ((q2.shift x2).bind λu3 m S3 α3 H3 e3 x3 w3 d3 q3=>?_)))⟩
 cases d2
 cases d3
 exact hF p u2 u3 u α3 S3 H3 Q w3 ((d1.1.ext x2).ext x3) (q3.shift x3)
end
inductive Fl where
 |next (ρ:Rho)|ret (r:Er)|brk (ρ:Rho)|cont (ρ:Rho)
def PostS(g:Gm)(W:XW)(α:List Addr)(H:Hp)(D:Ends):R Fl->Prop
 |.ok (.next ρ) S=> ∀σ α' H',Ext α H α' H'->Wd g α' S H'->Slots g.K α' H' ρ σ->D.nx σ H'
 |.ok (.ret r) S=> ∀v α' H',Ext α H α' H'->Wd g α' S H'->DenE g.K H α' H' r v->D.rt v H'
 |.ok (.brk ρ) S=> ∀σ α' H',Ext α H α' H'->Wd g α' S H'->Slots g.K α' H' ρ σ->D.bk σ H'
 |.ok (.cont ρ) S=> ∀σ α' H',Ext α H α' H'->Wd g α' S H'->Slots g.K α' H' ρ σ->D.ct σ H'
 |.exc c fs S=> ∀α' H',Ext α H α' H'->Wd g α' S H'->W c fs S α' H'
 |.no=>False
section
variable{g:Gm}{W:XW}{α α':List Addr}{H H':Hp}{D D':Ends}
theorem PostS.shift(x:Ext α H α' H'): ∀{m:R Fl},PostS g W α H D m->PostS g W α' H' D m
 |.ok (.next ρ) S,q=>λσ α2 H2 x2 w2 s2=>q σ α2 H2 (x.trans x2) w2 s2
 |.ok (.ret r) S,q=>λv α2 H2 x2 w2 d2=>q v α2 H2 (x.trans x2) w2 (d2.back λb h=>x.free h)
 |.ok (.brk ρ) S,q=>λσ α2 H2 x2 w2 s2=>q σ α2 H2 (x.trans x2) w2 s2
 |.ok (.cont ρ) S,q=>λσ α2 H2 x2 w2 s2=>q σ α2 H2 (x.trans x2) w2 s2
 |.exc c fs S,q=>λα2 H2 x2 w2=>q α2 H2 (x.trans x2) w2
 |.no,q=>q
theorem PostS.expr{β τ:Type}[Dn β τ]{m:R β}{k:β->Sto->R Fl}{Q':τ->Hp->Prop}(q:PostS g W α H D (m.bind k))
  (f: ∀u b S1 α1 H1,m=.ok b S1->Ext α H α1 H1->Wd g α1 S1 H1->Dn.d g H α1 S1 H1 b u->PostS g W α H D (k b S1)->Q' u H1):Post g W α H m Q':=by
 cases m with
 |ok b S=>exact λu α1 H1 x w d=>f u b S α1 H1 rfl x w d q
 |exc c fs S=>exact q
 |no=>exact q
theorem PostS.stmt{m:R Fl}{k:Fl->Sto->R Fl}(q:PostS g W α H D (m.bind k))
  (hn: ∀ρ S σ α1 H1,m=.ok (.next ρ) S->Ext α H α1 H1->Wd g α1 S H1->Slots g.K α1 H1 ρ σ->PostS g W α H D (k (.next ρ) S)->D'.nx σ H1)
  (hr: ∀r S v α1 H1,m=.ok (.ret r) S->Ext α H α1 H1->Wd g α1 S H1->DenE g.K H α1 H1 r v->PostS g W α H D (k (.ret r) S)->D'.rt v H1)
  (hb: ∀ρ S σ α1 H1,m=.ok (.brk ρ) S->Ext α H α1 H1->Wd g α1 S H1->Slots g.K α1 H1 ρ σ->PostS g W α H D (k (.brk ρ) S)->D'.bk σ H1)
  (hc: ∀ρ S σ α1 H1,m=.ok (.cont ρ) S->Ext α H α1 H1->Wd g α1 S H1->Slots g.K α1 H1 ρ σ->PostS g W α H D (k (.cont ρ) S)->D'.ct σ H1):PostS g W α H D' m:=by
 cases m with
 |ok fl S=>
  cases fl with
  |next ρ=>exact λσ α1 H1 x w s=>hn ρ S σ α1 H1 rfl x w s q
  |ret r=>exact λv α1 H1 x w d=>hr r S v α1 H1 rfl x w d q
  |brk ρ=>exact λσ α1 H1 x w s=>hb ρ S σ α1 H1 rfl x w s q
  |cont ρ=>exact λσ α1 H1 x w s=>hc ρ S σ α1 H1 rfl x w s q
 |exc c fs S=>exact q
 |no=>exact q
end
def PSm(X:Cx)(W:XW)(st:Stmt)(F:Rho->Sto->R Fl):Prop:=
 ∃t,PS X st t/\ ∀α ρ S σ H D,Wd X.g α S H->Slots X.K α H ρ σ->PostS X.g W α H D (F ρ S)->t D σ H
def zUT(X:Cx)(W:XW)(st:List Stmt)(F:Rho->Sto->R Fl):Prop:=
 ∃t,PSs X st t/\ ∀α ρ S σ H D,Wd X.g α S H->Slots X.K α H ρ σ->PostS X.g W α H D (F ρ S)->t D σ H
def zW(F G:Rho->Sto->R Fl):Rho->Sto->R Fl:=λρ S=>(F ρ S).bind λfl S1=>match fl with
 |.next ρ'=>G ρ' S1
 |.ret r=>.ok (.ret r) S1
 |.brk ρ'=>.ok (.brk ρ') S1
 |.cont ρ'=>.ok (.cont ρ') S1
section
variable{X:Cx}{W:XW}{st:Stmt}{sts as bs:List Stmt}{F G:Rho->Sto->R Fl}{f g:Rho->Sto->R Er}{tf:Rho->Sto->R Bool}{e c:Expr}{pos:Pos}
theorem yQ:zUT X W [] (λρ S=>.ok (.next ρ) S):=⟨_,yKP,λα ρ S σ H D wd sl q=>q σ α H (Ext.refl α H) wd sl⟩
theorem zN(h:PSm X W st F):zUT X W [st] F:=let ⟨t,h,k⟩:=h;⟨t,yCH h,k⟩
theorem zI(h1:PSm X W st F)(h2:zUT X W sts G):zUT X W (st::sts) (zW F G):=by
 obtain⟨t,h1,k1⟩:=h1
 obtain⟨u,h2,k2⟩:=h2
 refine⟨_,yGO h1 h2,λα ρ S σ H D wd sl q=>k1 α ρ S σ H _ wd sl (q.stmt ?_ ?_ ?_ ?_)⟩
 ·intro ρ1 S1 σ1 α1 H1 e x1 w1 s1 q1
  exact k2 α1 ρ1 S1 σ1 H1 D w1 s1 (PostS.shift x1 q1)
 ·intro r S1 v α1 H1 e x1 w1 d1 q1
  exact q1 v α1 H1 x1 w1 d1
 ·intro ρ1 S1 σ1 α1 H1 e x1 w1 s1 q1
  exact q1 σ1 α1 H1 x1 w1 s1
 ·intro ρ1 S1 σ1 α1 H1 e x1 w1 s1 q1
  exact q1 σ1 α1 H1 x1 w1 s1
theorem zS(he:PEm X W e f):PSm X W (.Return (some e) pos) (λρ S=>(f ρ S).bind λr S1=>.ok (.ret r) S1):=by
 obtain⟨t,he,k⟩:=he
 exact⟨_,yPT he,λα ρ S σ H D wd sl q=>k α ρ S σ H _ wd sl (q.expr λu r S1 α1 H1 e x1 w1 d1 q1=>q1 u α1 H1 x1 w1 d1)⟩
theorem yLP:PSm X W (.Pass pos) (λρ S=>.ok (.next ρ) S):=⟨_,yKQ,λα ρ S σ H D wd sl q=>q σ α H (Ext.refl α H) wd sl⟩
theorem cY(he:PEm X W e f)(hs:swapsWith e none pos.line X.env=pure false:=by rfl):PSm X W (.Expr e pos) (λρ S=>(f ρ S).bind λ_ S1=>.ok (.next ρ) S1):=by
 obtain⟨t,he,k⟩:=he
 exact⟨_,yKR he hs,λα ρ S σ H D wd sl q=>k α ρ S σ H _ wd sl (q.expr λu r S1 α1 H1 e x1 w1 d1 q1=>q1 σ α1 H1 x1 w1 (sl.ext x1))⟩
theorem wF(hc:PTm X W c tf)(ha:zUT X W as F)(hb:zUT X W bs G):PSm X W (.If c as bs pos) (λρ S=>(tf ρ S).bind λk S1=>if k=true then F ρ S1 else G ρ S1):=by
 obtain⟨tc,hc,kc⟩:=hc
 obtain⟨ta,ha,ka⟩:=ha
 obtain⟨tb,hb,kb⟩:=hb
 refine⟨_,ps_if hc ha hb,λα ρ S σ H D wd sl q=>kc α ρ S σ H _ wd sl (q.expr λu p S1 α1 H1 e x1 w1 d1 q1=>?_)⟩
 cases d1
 cases u with
 |true=>rw [iP rfl]at q1 ⊢; exact ka α1 ρ S1 σ H1 D w1 (sl.ext x1) (PostS.shift x1 q1)
 |false=>rw [iN xF0]at q1 ⊢; exact kb α1 ρ S1 σ H1 D w1 (sl.ext x1) (PostS.shift x1 q1)
instance:Dn Rho St:=⟨λg _ α' _ H' ρ σ=>Slots g.K α' H' ρ σ,λ_ q=>q⟩
def PGm(X:Cx)(W:XW)(tg:Expr)(gf:MV->Rho->Sto->R Rho):Prop:=
 ∃t,PG X tg t/\ ∀α ρ S σ H d v Q,Wd X.g α S H->Slots X.K α H ρ σ->Den X.K α H d v->Post X.g W α H (gf d ρ S) Q->t v σ H Q
def PGsm(X:Cx)(W:XW)(tgs:List Expr)(gf:List MV->Rho->Sto->R Rho):Prop:=
 ∃t,PGs X tgs t/\ ∀α ρ S σ H ds vs Q,Wd X.g α S H->Slots X.K α H ρ σ->DenL X.K α H ds vs->Post X.g W α H (gf ds ρ S) Q->t vs σ H Q
def gNm(i:Nat):MV->Rho->Sto->R Rho:=λd ρ S=>.ok (ρ.set i (some d)) S
theorem xE(i:Nat){x:Str}(hN:X.N.Nodup)(hi:X.N[i]? =some x:=by rfl)(hx:Loc X.env.scope x:=by first |exact Or.inl rfl|exact Or.inr rfl)(hf:X.fn x=true\/X.env.scope.names.lookup x=some .local:=by first |exact .inl rfl|exact .inr rfl|assumption):
  PGm X W (.Name x pos) (gNm i):=⟨_,yCI hN hi hx hf,λα ρ S σ H d v Q wd sl de q=>Post.here (b:=ρ.set i (some d)) q wd (sl.set de)⟩
def zBO:List MV->Rho->Sto->R Rho
 |[],ρ,S=>.ok ρ S
 |_,_,_=>.no
def yM(g1:MV->Rho->Sto->R Rho)(g2:List MV->Rho->Sto->R Rho):List MV->Rho->Sto->R Rho
 |d::ds,ρ,S=>(g1 d ρ S).bind λρ1 S1=>g2 ds ρ1 S1
 |_,_,_=>.no
theorem yHS:PGsm X W [] zBO:=⟨_,yCJ,λα ρ S σ H ds vs Q wd sl de q=>by
 cases ds with
 |nil=>exact⟨de.isnil,Post.here (b:=ρ) q wd sl⟩
 |cons d ds=>exact q.elim⟩
theorem zKW{es:List Expr}{g1:MV->Rho->Sto->R Rho}{g2:List MV->Rho->Sto->R Rho}(h1:PGm X W e g1)(h2:PGsm X W es g2)(hs:(assignEach (e::es) X.env).map (·.2)=assign e X.env::(assignEach es X.env).map (·.2):=by rfl):PGsm X W (e::es) (yM g1 g2):=by
 obtain⟨t1,h1,k1⟩:=h1
 obtain⟨t2,h2,k2⟩:=h2
 refine⟨_,zXE h1 h2 hs,λα ρ S σ H ds vs Q wd sl de q=>?_⟩
 cases ds with
 |nil=>exact q.elim
 |cons d ds=>
  obtain⟨v,r,rfl,a,l⟩:=de.uncons
  refine⟨v,r,rfl,k1 α ρ S σ H d v _ wd sl a (Post.bind q λu p S1 α1 H1 e x1 w1 d1 q1=>k2 α1 p S1 u H1 ds r Q w1 d1 (l.ext x1) (q1.shift x1))⟩
def gTp(n:Nat)(g2:List MV->Rho->Sto->R Rho):MV->Rho->Sto->R Rho
 |.tup ds,ρ,S=>if ds.length=n then g2 ds ρ S else .no
 |_,_,_=>.no
theorem yHT{es:List Expr}{k n:Nat}{g2:List MV->Rho->Sto->R Rho}(hc:X.calm=true)(h:PGsm X W es g2)
  (hn:(assignEach es X.env).length=n:=by rfl) (hst:(assignEach es X.env).findIdx? (·.1)=none:=by rfl):PGm X W (.Tuple es k pos) (gTp n g2):=by
 obtain⟨t,h,k⟩:=h
 refine⟨_,yGQ hc h hn hst,λα ρ S σ H d v Q wd sl de q=>?_⟩
 unfold gTp at q
 split at q
 ·split at q
  ·rename_i hl
   obtain⟨a,vs,rfl,s,l⟩:=kH de
   exact⟨a,vs,rfl,s,by rw [l.length];exact hl,k α ρ S σ H _ vs Q wd sl l q⟩
  ·exact q.elim
 ·exact q.elim
def cE(r:Er)(S:Sto):R MV:=match r with
 |.val d=>.ok d S
 |.new ds=>.ok (.loc S.length) (S++[.lst ds])
theorem zEF{g:Gm}{H0:Hp}{α0 α:List Addr}{H:Hp}{S:Sto}{r:Er}{v:V}(w:Wd g α S H)(x:Ext α0 H0 α H)(d:DenE g.K H0 α H r v):
  ∃d' S' α',cE r S=.ok d' S'/\Ext α0 H0 α' H/\Ex0 α H α' H/\Wd g α' S' H/\Den g.K α' H d' v:=by
 cases r with
 |val d'=>exact⟨d',S,α,rfl,x,⟨⟨[],by simp⟩,λ_ _ h=>h,λ_ _ _ h=>h⟩,w,d.1⟩
 |new ds=>
  obtain⟨⟨c,us,rfl,h1,h2,h3⟩,h4⟩:=d
  exact⟨.loc S.length,S++[.lst ds],α++[c],rfl,w.enterx x (h4 c rfl) h2,Ex0.grow α [c] H,w.enter h1 h2 h3,zKS (by rw [<-w.len,getElem?_append_right (le_refl _),sub_self];rfl)⟩
def zUU(ρ:Rho)(i:Nat)(r:Er)(S:Sto):R Fl:=(cE r S).bind λd S1=>.ok (.next (ρ.set i (some d))) S1
theorem zU(i:Nat){x:Str}{pos':Pos}(hN:X.N.Nodup)(he:PEm X W e f)(hi:X.N[i]? =some x:=by rfl)(hx:Loc X.env.scope x:=by first |exact Or.inl rfl|exact Or.inr rfl)
  (hs:swapsWith e (some (.Name x pos')) pos.line X.env=pure false:=by rfl) (hf:X.fn x=true\/X.env.scope.names.lookup x=some .local:=by first |exact .inl rfl|exact .inr rfl|assumption):
  PSm X W (.Assign [.Name x pos'] e pos) (λρ S=>(f ρ S).bind (zUU ρ i)):=by
 obtain⟨t,he,k⟩:=he
 refine⟨_,yPV hN hi hx he hs hf,λα ρ S σ H D wd sl q=>k α ρ S σ H _ wd sl (q.expr λu r S1 α1 H1 e x1 w1 d1 q1=>?_)⟩
 obtain⟨d',S',α',e1,x',y',w',de⟩:=zEF w1 x1 d1
 unfold zUU at q1
 rw [e1]at q1
 exact q1 _ α' H1 x' w' (((sl.ext x1).ex0 y').set de)
def asgF(gf:MV->Rho->Sto->R Rho)(ρ:Rho)(r:Er)(S:Sto):R Fl:=(cE r S).bind λd S1=>(gf d ρ S1).bind λρ' S2=>.ok (.next ρ') S2
theorem yHU{tg:Expr}{gf:MV->Rho->Sto->R Rho}(he:PEm X W e f)(hg:PGm X W tg gf)(hs:swapsWithSole [tg] e pos.line X.env=pure false:=by rfl)(hw:swappedStores [tg] e X.env=pure none:=by rfl)
  (h1:(assignEach [tg] X.env).map (·.2)=[assign tg X.env]:=by rfl):PSm X W (.Assign [tg] e pos) (λρ S=>(f ρ S).bind (asgF gf ρ)):=by
 obtain⟨t,he,k⟩:=he
 obtain⟨tg',hg,kg⟩:=hg
 refine⟨_,yPU he hg hs hw h1,λα ρ S σ H D wd sl q=>k α ρ S σ H _ wd sl (q.expr λu r S1 α1 H1 e x1 w1 d1 q1=>?_)⟩
 obtain⟨d',S',α',e1,x',y',w',de⟩:=zEF w1 x1 d1
 unfold asgF at q1
 rw [e1]at q1
 have q1:PostS X.g W α H D ((gf d' ρ S').bind λρ' S2=>.ok (.next ρ') S2):=q1
 exact kg α' ρ S' σ H1 d' u _ w' ((sl.ext x1).ex0 y') de ((PostS.shift x' q1).expr λσ2 ρ2 S2 α2 H2 e2 x2 w2 s2 q2=>q2 σ2 α2 H2 x2 w2 s2)
structure Wk where
 ds:List MV
 gs:List (Nat×List MV)
def stay(gs:List (Nat×List MV))(S:Sto):Prop:= ∀p∈gs,S[p.1]? =some (.lst p.2)
def ItM(g:Gm)(J:It)(P:List Addr->Sto->Hp->Prop)(ds:List MV):Prop:= ∀i α S H,P α S H->Wd g α S H->(i<ds.length->J.go i H/\ ∀x H',J.yld i H x H'->Ext α H α H'/\Wd g α S H'/\P α S H'/\ ∃d,ds[i]? =some d/\Den g.K α H' d x)/\(ds.length<=i->J.stop i H)
structure WkD(g:Gm)(α:List Addr)(S:Sto)(H:Hp)(k:Wk)(J:It)(P:List Addr->Sto->Hp->Prop):Prop where
 it:ItM g J P k.ds
 here:P α S H
 stays: ∀α1 S1 H1 α2 S2 H2,P α1 S1 H1->Ext α1 H1 α2 H2->Wd g α2 S2 H2->stay k.gs S2->P α2 S2 H2
 st:stay k.gs S
instance:Dn Wk It:=⟨λg _ α S H k J=> ∃P,WkD g α S H k J P,λ_ q=>q⟩
abbrev PIm(X:Cx)(W:XW)(tg iter:Expr)(f:Rho->Sto->R Wk):Prop:=Jd X W (PI X tg iter) f
variable{tg iter:Expr}
theorem zKX{a:Addr}{ds:List MV}:ItM X.g (Itl X.K a) (λα S H=> ∃vs,SqL X.K H a vs/\DenL X.K α H ds vs) ds:=by
 intro i α S H ⟨vs,s,l⟩ w
 have hl:=l.length
 refine⟨λhi=>?_,λhi=>⟨vs,s,by omega⟩⟩
 have hv:i<vs.length:=by omega
 refine⟨⟨vs,vs[i],s,gE0 hv⟩,λx H' y=>?_⟩
 obtain⟨rfl,y⟩:=y
 obtain⟨d,h1,h2⟩:=l.get (y vs s)
 exact⟨Ext.refl _ _,w,⟨vs,s,l⟩,d,h1,h2⟩
theorem yCS{a:Addr}{ds:List MV}:ItM X.g (Itt X.K a) (λα S H=> ∃vs,SqT X.K H a vs/\DenL X.K α H ds vs) ds:=by
 intro i α S H ⟨vs,s,l⟩ w
 have hl:=l.length
 refine⟨λhi=>?_,λhi=>⟨vs,s,by omega⟩⟩
 have hv:i<vs.length:=by omega
 refine⟨⟨vs,vs[i],s,gE0 hv⟩,λx H' y=>?_⟩
 obtain⟨rfl,y⟩:=y
 obtain⟨d,h1,h2⟩:=l.get (y vs s)
 exact⟨Ext.refl _ _,w,⟨vs,s,l⟩,d,h1,h2⟩
theorem yEW{lo:Int}{n:Nat}:ItM X.g (Itr lo n) (λ_ _ _=>True) ((List.range n).map λk=>.int (lo+(k:Nat))):=by
 intro i α S H _ w
 refine⟨λhi=>⟨show i<n by simpa using hi,λv H' y=>?_⟩,λhi=>by show n<=i;simpa using hi⟩
 obtain⟨rfl,y⟩:=y
 have hi':i<n:=by simpa using hi
 refine⟨Ext.refl _ _,w,trivial,.int (lo+i),by rw [getElem?_map,List.getElem?_range hi'];rfl,?_⟩
 rw [y]
 exact kK _
def itL:Er->Sto->R Wk
 |.new ds,S=>.ok ⟨ds,[]⟩ S
 |.val (.scr ds),S=>.ok ⟨ds,[]⟩ S
 |.val (.loc l),S=>match S[l]? with
  |some (.lst ds)=>.ok ⟨ds,[(l,ds)]⟩ S
  |_=>.no
 |_,_=>.no
theorem dH{S:Sto}:stay [] S:=λp h=>by simp at h
theorem kZ(he:PEm X W iter f):PIm X W tg iter (λρ S=>(f ρ S).bind itL):=by
 obtain⟨t,he,k⟩:=he
 refine⟨_,yKS he,λα ρ S σ H Rc wd sl q=>k α ρ S σ H _ wd sl (q.bind λu p S1 α1 H1 e x1 w1 d1 q1=>?_)⟩
 replace q1:=q1.shift x1
 unfold itL at q1
 split at q1
 ·rename_i S0 ds
  obtain⟨⟨b,vs,rfl,h1,h2,h3⟩,h4⟩:=d1
  refine⟨b,rfl,⟨vs,.of h1⟩,q1.here (u:=Itl X.K b) w1 ⟨λα2 S2 H2=> ∃vs,SqL X.K H2 b vs/\DenL X.K α2 H2 ds vs/\H2 b=some (.lst vs)/\b∉α2,?_,⟨vs,.of h1,h3,h1,h2⟩,?_,dH⟩⟩
  ·intro i α2 S2 H2 ⟨vs2,a1,a2,a3,a4⟩ w2
   obtain⟨i1,i2⟩:=zKX (X:=X) (a:=b) (ds:=ds) i α2 S2 H2 ⟨vs2,a1,a2⟩ w2
   refine⟨λhi=>⟨(i1 hi).1,λx H' y=>?_⟩,i2⟩
   obtain⟨j1,j2,j3,j4⟩:=(i1 hi).2 x H' y
   obtain⟨rfl,_⟩:=y
   exact⟨j1,j2,⟨vs2,a1,a2,a3,a4⟩,j4⟩
  ·intro α2 S2 H2 α3 S3 H3 ⟨vs2,a1,a2,a3,a4⟩ x w3 _
   exact⟨vs2,.of (x.keep b _ a3 a4),a2.ext x,x.keep b _ a3 a4,x.out a3 a4⟩
 ·rename_i S0 ds
  obtain⟨a,vs,rfl,s,l⟩:=zUR d1.1
  refine⟨a,rfl,⟨vs,s.l⟩,q1.here (u:=Itl X.K a) w1 ⟨λα2 S2 H2=> ∃vs,SqL X.K H2 a vs/\DenL X.K α2 H2 ds vs/\SqF X.K H2 a vs,?_,⟨vs,s.l,l,s⟩,?_,dH⟩⟩
  ·intro i α2 S2 H2 ⟨vs2,a1,a2,a3⟩ w2
   obtain⟨i1,i2⟩:=zKX (X:=X) (a:=a) (ds:=ds) i α2 S2 H2 ⟨vs2,a1,a2⟩ w2
   refine⟨λhi=>⟨(i1 hi).1,λx H' y=>?_⟩,i2⟩
   obtain⟨j1,j2,j3,j4⟩:=(i1 hi).2 x H' y
   obtain⟨rfl,_⟩:=y
   exact⟨j1,j2,⟨vs2,a1,a2,a3⟩,j4⟩
  ·intro α2 S2 H2 α3 S3 H3 ⟨vs2,a1,a2,a3⟩ x w3 _
   exact⟨vs2,(x.sqF a3).l,a2.ext x,x.sqF a3⟩
 ·rename_i S0 n
  obtain⟨a,rfl,h⟩:=zGY d1.1
  obtain⟨o,h1,h2⟩:=w1.of h
  rw [h1]at q1
  cases o with
  |lst ds=>
   obtain⟨vs,h3,l⟩:=h2
   refine⟨a,rfl,⟨vs,.of h3⟩,Post.here (b:=(⟨ds,[(n,ds)]⟩:Wk)) q1 (u:=Itl X.K a) w1 ⟨λα2 S2 H2=> ∃vs,SqL X.K H2 a vs/\DenL X.K α2 H2 ds vs/\α2[n]? =some a,?_,⟨vs,.of h3,l,h⟩,?_,?_⟩⟩
   ·intro i α2 S2 H2 ⟨vs2,a1,a2,a3⟩ w2
    obtain⟨i1,i2⟩:=zKX (X:=X) (a:=a) (ds:=ds) i α2 S2 H2 ⟨vs2,a1,a2⟩ w2
    refine⟨λhi=>⟨(i1 hi).1,λx H' y=>?_⟩,i2⟩
    obtain⟨j1,j2,j3,j4⟩:=(i1 hi).2 x H' y
    obtain⟨rfl,_⟩:=y
    exact⟨j1,j2,⟨vs2,a1,a2,a3⟩,j4⟩
   ·intro α2 S2 H2 α3 S3 H3 ⟨vs2,a1,a2,a3⟩ x w3 hs
    have a3':=x.at a3
    have:=w3.obj n a _ a3' (hs (n,ds) (by simp))
    obtain⟨vs3,b1,b2⟩:=this
    exact⟨vs3,.of b1,b2,a3'⟩
   ·intro p hp
    have:p=(n,ds):=by simpa using hp
    subst this
    exact h1
  |dic ds=>exact q1.elim
  |ins c fs=>exact q1.elim
 ·exact q1.elim
def itT:Er->Sto->R Wk
 |.val (.tup ds),S=>.ok ⟨ds,[]⟩ S
 |_,_=>.no
theorem zEU(he:PEm X W iter f):PIm X W tg iter (λρ S=>(f ρ S).bind itT):=by
 obtain⟨t,he,k⟩:=he
 refine⟨_,yPX he,λα ρ S σ H Rc wd sl q=>k α ρ S σ H _ wd sl (q.bind λu p S1 α1 H1 e x1 w1 d1 q1=>?_)⟩
 replace q1:=q1.shift x1
 unfold itT at q1
 split at q1
 ·rename_i S0 ds
  obtain⟨a,vs,rfl,s,l⟩:=zAJ d1.1
  exact⟨a,rfl,⟨vs,s⟩,q1.here (u:=Itt X.K a) w1 ⟨_,yCS,⟨vs,s,l⟩,λα2 S2 H2 α3 S3 H3 ⟨vs2,a1,a2⟩ x w3 _=>⟨vs2,x.sqT a1,a2.ext x⟩,dH⟩⟩
 ·exact q1.elim
def zAL:List Er->Sto->R Wk
 |[.val (.int j)],S=>if -(2 ^ 62)<=j/\j<2 ^ 62 then .ok ⟨(List.range j.toNat).map λk=>.int (k:Nat),[]⟩ S else .no
 |_,_=>.no
variable{af:Rho->Sto->R (List Er)}{p:Pos}{a b:Expr}
theorem yCT{K:PySem.W.Frag}{H0:Hp}{α:List Addr}{H:Hp}{r:Er}{vs:List V}(d:ArgsE K H0 α H [r] vs): ∃v,vs=[v]/\DenX K α H r v:=by
 cases d with
 |cons a n l=>cases l;exact⟨_,rfl,a.1⟩
theorem xU(hg:Gl X "range")(hm:X.mg "range"=none)(ha:PAm X W [a] af)(hs:starEach [a] X.env=[(false,eval a X.env)]:=by rfl):PIm X W tg (.Call (.Name "range" p) [a] [] pos) (λρ S=>(af ρ S).bind zAL):=by
 obtain⟨t,ha,k⟩:=ha
 refine⟨_,yEJ hg hm ha hs,λα ρ S σ H Rc wd sl q=>k α ρ S σ H _ wd sl (q.bind λvs rs S1 α1 H1 e x1 w1 d1 q1=>?_)⟩
 replace q1:=q1.shift x1
 unfold zAL at q1
 split at q1
 ·split at q1
  ·rename_i S0 j hj
   obtain⟨v,rfl,dv⟩:=yCT d1
   cases xF dv
   have:=yEW (X:=X) (lo:=0) (n:=j.toNat)
   simp only [Int.zero_add]at this
   exact⟨j,rfl,hj.1,hj.2,q1.here (u:=Itr 0 j.toNat) w1 ⟨_,this,trivial,λ_ _ _ _ _ _ _ _ _ _=>trivial,dH⟩⟩
  ·exact q1.elim
 ·exact q1.elim
open Classical in
noncomputable def cF(gf:MV->Rho->Sto->R Rho)(body:Rho->Sto->R Fl)(gs:List (Nat×List MV)):List MV->Rho->Sto->R Fl
 |[],ρ,S=>.ok (.next ρ) S
 |d::ds,ρ,S=>(gf d ρ S).bind λρ0 S0=>(body ρ0 S0).bind λfl S1=>match fl with
  |.next ρ'=>if stay gs S1 then cF gf body gs ds ρ' S1 else .no
  |.cont ρ'=>if stay gs S1 then cF gf body gs ds ρ' S1 else .no
  |.brk ρ'=>.ok (.next ρ') S1
  |.ret r=>.ok (.ret r) S1
open Classical in
theorem kP{itf:Rho->Sto->R Wk}{gf:MV->Rho->Sto->R Rho}(hp:PassesOwn (model X.prog X.w) X.A X.env X.xe)(hc:X.calm=true)(hi:PIm X W tg iter itf)(hg:PGm X W tg gf)(hb:zUT X W as F)
  (hs: ∀y,foldedSetIterable iter X.env y=pure y:=by intro _;rfl):PSm X W (.For tg iter as [] pos) (λρ S=>(itf ρ S).bind λk S1=>cF gf F k.gs k.ds ρ S1):=by
 obtain⟨wi,hi,ki⟩:=hi
 obtain⟨tg',hg,kg⟩:=hg
 obtain⟨tb,hb,kb⟩:=hb
 refine⟨_,yPY hp hc hi hg hb hs,λα ρ S σ H D wd sl q=>ki α ρ S σ H _ wd sl (q.expr λJ k S1 α1 H1 e x1 w1 d1 q1=>?_)⟩
 obtain⟨P,hP⟩:=d1
 have sl1:=sl.ext x1
 replace q1:=PostS.shift x1 q1
 refine⟨λn m σ2 H2=>m=k.ds.length - n/\n<=k.ds.length/\ ∃α2 ρ2 S2,Wd X.g α2 S2 H2/\Slots X.K α2 H2 ρ2 σ2/\P α2 S2 H2/\PostS X.g W α2 H2 D (cF gf F k.gs (k.ds.drop n) ρ2 S2),⟨_,rfl,zero_le _,α1,ρ,S1,w1,sl1,hP.here,by simpa using q1⟩,?_⟩
 rintro n m σ2 H2 ⟨rfl,hn,α2,ρ2,S2,w2,sl2,p2,q2⟩
 obtain⟨i1,i2⟩:=hP.it n α2 S2 H2 p2 w2
 by_cases hlt:n<k.ds.length
 ·obtain⟨go,yl⟩:=i1 hlt
  refine .inr ⟨go,λσ3 H3=> ∃α3 ρ3 S3,Wd X.g α3 S3 H3/\Slots X.K α3 H3 ρ3 σ3/\P α3 S3 H3/\PostS X.g W α3 H3 D (cF gf F k.gs (k.ds.drop (n+1)) ρ3 S3),λσ3 H3 ⟨α3,ρ3,S3,h3⟩=>⟨k.ds.length - (n+1),by omega,rfl,hlt,α3,ρ3,S3,h3⟩,λv H3 y=>?_⟩
  obtain⟨x3,w3,p3,d,hd,dv⟩:=yl v H3 y
  have hdrop:k.ds.drop n=d::k.ds.drop (n+1):=by
   rw [List.drop_eq_getElem_cons hlt]
   have:=gE0 hlt
   rw [hd]at this
   rw [<-Option.some.inj this]
  rw [hdrop]at q2
  unfold cF at q2
  replace q2:=PostS.shift x3 q2
  refine kg α2 ρ2 S2 σ2 H3 d v _ w3 (sl2.ext x3) dv (q2.expr λσ4 ρ4 S4 α4 H4 e4 x4 w4 s4 q4=>?_)
  have p4: ∀α5 S5 H5,Ext α4 H4 α5 H5->Wd X.g α5 S5 H5->stay k.gs S5->P α5 S5 H5:=λα5 S5 H5 x5 w5 s5=>hP.stays α2 S2 H3 α5 S5 H5 p3 (x4.trans x5) w5 s5
  refine kb α4 ρ4 S4 σ4 H4 _ w4 s4 ((PostS.shift x4 q4).stmt ?_ ?_ ?_ ?_)
  ·intro ρ5 S5 σ5 α5 H5 e5 x5 w5 s5 q5
   have q5':PostS X.g W α4 H4 D (if stay k.gs S5 then cF gf F k.gs (k.ds.drop (n+1)) ρ5 S5 else .no):=q5
   split at q5'
   ·rename_i hst
    exact⟨α5,ρ5,S5,w5,s5,p4 α5 S5 H5 x5 w5 hst,PostS.shift x5 q5'⟩
   ·exact q5'.elim
  ·intro r S5 v5 α5 H5 e5 x5 w5 d5 q5
   exact q5 v5 α5 H5 x5 w5 d5
  ·intro ρ5 S5 σ5 α5 H5 e5 x5 w5 s5 q5
   exact q5 σ5 α5 H5 x5 w5 s5
  ·intro ρ5 S5 σ5 α5 H5 e5 x5 w5 s5 q5
   have q5':PostS X.g W α4 H4 D (if stay k.gs S5 then cF gf F k.gs (k.ds.drop (n+1)) ρ5 S5 else .no):=q5
   split at q5'
   ·rename_i hst
    exact⟨α5,ρ5,S5,w5,s5,p4 α5 S5 H5 x5 w5 hst,PostS.shift x5 q5'⟩
   ·exact q5'.elim
 ·have e:n=k.ds.length:=by omega
  subst e
  refine .inl ⟨i2 (le_refl _),?_⟩
  rw [drop_length]at q2
  exact q2 σ2 α2 H2 (Ext.refl _ _) w2 sl2
def gY(t:Rho->Sto->R Bool)(b:Rho->Sto->R Fl):Nat->Rho->Sto->R Fl
 |0,_,_=>.no
 |n+1,ρ,S=>(t ρ S).bind λk S1=>if k=true then(b ρ S1).bind λfl S2=>match fl with
   |.next ρ'=>gY t b n ρ' S2
   |.cont ρ'=>gY t b n ρ' S2
   |.brk ρ'=>.ok (.next ρ') S2
   |.ret r=>.ok (.ret r) S2
  else .ok (.next ρ) S1
theorem zXQ(N:Nat)(hp:PassesOwn (model X.prog X.w) X.A X.env X.xe)(hc:PTm X W c tf)(hb:zUT X W as F):PSm X W (.While c as [] pos) (λρ S=>gY tf F N ρ S):=by
 obtain⟨tc,hc,kc⟩:=hc
 obtain⟨tb,hb,kb⟩:=hb
 refine⟨_,yGS hp hc hb,λα ρ S σ H D wd sl q=>⟨λm σ1 H1=> ∃α1 ρ1 S1,Wd X.g α1 S1 H1/\Slots X.K α1 H1 ρ1 σ1/\PostS X.g W α1 H1 D (gY tf F m ρ1 S1),⟨N,α,ρ,S,wd,sl,q⟩,?_⟩⟩
 rintro m σ1 H1 ⟨α1,ρ1,S1,w1,sl1,q1⟩
 cases m with
 |zero=>exact q1.elim
 |succ n=>
  unfold gY at q1
  refine kc α1 ρ1 S1 σ1 H1 _ w1 sl1 (q1.expr λu p S2 α2 H2 e2 x2 w2 d2 q2=>?_)
  cases d2
  replace q2:=PostS.shift x2 q2
  cases u with
  |false=>rw [iN xF0]at q2 ⊢; exact q2 σ1 α2 H2 (Ext.refl _ _) w2 (sl1.ext x2)
  |true=>
   rw [iP rfl]at q2 ⊢
   refine⟨λσ3 H3=> ∃α3 ρ3 S3,Wd X.g α3 S3 H3/\Slots X.K α3 H3 ρ3 σ3/\PostS X.g W α3 H3 D (gY tf F n ρ3 S3),λσ' H' h=>⟨n,lt_succ_self n,h⟩,kb α2 ρ1 S2 σ1 H2 _ w2 (sl1.ext x2) (q2.stmt ?_ ?_ ?_ ?_)⟩
   ·intro ρ5 S5 σ5 α5 H5 e5 x5 w5 s5 q5
    exact⟨α5,ρ5,S5,w5,s5,PostS.shift x5 q5⟩
   ·intro r S5 v5 α5 H5 e5 x5 w5 d5 q5
    exact q5 v5 α5 H5 x5 w5 d5
   ·intro ρ5 S5 σ5 α5 H5 e5 x5 w5 s5 q5
    exact q5 σ5 α5 H5 x5 w5 s5
   ·intro ρ5 S5 σ5 α5 H5 e5 x5 w5 s5 q5
    exact⟨α5,ρ5,S5,w5,s5,PostS.shift x5 q5⟩
end
def noX{β:Type}:R β->R β
 |.ok b S=>.ok b S
 |_=>.no
theorem yG{β:Type}(b:β)(S:Sto):noX (R.ok b S)=.ok b S:=rfl
theorem Post.bindY{β τ γ υ:Type}[Dn β τ][Dn γ υ]{g:Gm}{W:XW}{α α':List Addr}{H H':Hp}(x:Ext α H α' H'){m:R β}{k:β->Sto->R γ}{Q:υ->Hp->Prop}{Q':τ->Hp->Prop}(q:Post g W α H ((noX m).bind k) Q)
  (f: ∀u b S1 α1 H1,m=.ok b S1->Ext α' H' α1 H1->Wd g α1 S1 H1->Dn.d g H' α1 S1 H1 b u->Post g W α H (k b S1) Q->Q' u H1):Post g W0 α' H' m Q':=by
 cases m with
 |ok b S=>exact λu α1 H1 x w d=>f u b S α1 H1 rfl x w d q
 |exc c fs S=>exact q.elim
 |no=>exact q
theorem R.bind_assoc{β γ δ:Type}(m:R β)(k1:β->Sto->R γ)(k2:γ->Sto->R δ):(m.bind k1).bind k2=m.bind λb S=>(k1 b S).bind k2:=by cases m<;>rfl
def blk(nt:Nat)(idx:List Nat)(ρ:Rho):Rho:=List.replicate nt none++idx.map λi=>(ρ[i]?).join
open Classical in
noncomputable def yT(gf:MV->Rho->Sto->R Rho)(cf:Rho->Sto->R Bool)(ef:Rho->Sto->R Er)(ρb:Rho)(gs:List (Nat×List MV)):List MV->Sto->R (List MV)
 |[],S=>.ok [] S
 |d::ds,S=>(noX (gf d ρb S)).bind λρ1 S0=>(noX (cf ρ1 S0)).bind λk S1=>
  if k=true then(noX (ef ρ1 S1)).bind λr S2=>(cE r S2).bind λy S3=>if stay gs S3 then(yT gf cf ef ρb gs ds S3).bind λout S4=>.ok (y::out) S4 else .no
  else if stay gs S1 then yT gf cf ef ρb gs ds S1 else .no
theorem yEX{K:PySem.W.Frag}{α:List Addr}{H:Hp}{ρ:Rho}{σ:St}(q:Slots K α H ρ σ)(nt:Nat)(idx:List Nat)(τ:St)(hτ:τ.length=nt):Slots K α H (blk nt idx ρ) (τ++zME σ idx):=by
 refine⟨by unfold blk;rw [lA,lA,zBL,lM,length_replicate,hτ],λi d e=>?_⟩
 unfold blk at e
 by_cases hi:i<nt
 ·rw [getElem?_append_left (by rw [length_replicate];exact hi),List.getElem?_replicate]at e
  split at e<;>cases e
 ·rw [getElem?_append_right (by rw [length_replicate];omega),length_replicate,getElem?_map]at e
  cases z:idx[i - nt]? with
  |none=>rw [z]at e;cases e
  |some k=>
   rw [z]at e
   have e2:(ρ[k]?).join=some d:=Option.some.inj e
   cases z2:ρ[k]? with
   |none=>rw [z2]at e2;cases e2
   |some o=>
    rw [z2]at e2
    have e3:o=some d:=e2
    subst e3
    obtain⟨v,h1,h2⟩:=q.slot k d z2
    refine⟨v,?_,h2⟩
    rw [getElem?_append_right (by omega),hτ]
    unfold zME
    rw [getElem?_map,z]
    show some (σ[k]?).join=some (some v)
    rw [h1];rfl
def Keeps(nt:Nat)(σ:St)(Q:St->Hp->Prop):St->Hp->Prop:=λσ' H'=>σ'.length=σ.length->(∀j,nt<=j->σ'[j]? =σ[j]?)->Q σ' H'
def PGn(nt:Nat)(X:Cx)(W:XW)(tg:Expr)(gf:MV->Rho->Sto->R Rho):Prop:=
 ∃t,PG X tg t/\ ∀α ρ S σ H d v Q,Wd X.g α S H->Slots X.K α H ρ σ->Den X.K α H d v->Post X.g W α H (gf d ρ S) (Keeps nt σ Q)->t v σ H Q
def PGsn(nt:Nat)(X:Cx)(W:XW)(tgs:List Expr)(gf:List MV->Rho->Sto->R Rho):Prop:=
 ∃t,PGs X tgs t/\ ∀α ρ S σ H ds vs Q,Wd X.g α S H->Slots X.K α H ρ σ->DenL X.K α H ds vs->Post X.g W α H (gf ds ρ S) (Keeps nt σ Q)->t vs σ H Q
section
variable{X:Cx}{W:XW}{e:Expr}{pos:Pos}{nt:Nat}
theorem yN(i:Nat){x:Str}(hN:X.N.Nodup)(hi:X.N[i]? =some x:=by rfl)(hx:Loc X.env.scope x:=by first |exact Or.inl rfl|exact Or.inr rfl)(hf:X.fn x=true\/X.env.scope.names.lookup x=some .local:=by first |exact .inl rfl|exact .inr rfl|assumption)(hlt:i<nt:=by decide):
  PGn nt X W (.Name x pos) (gNm i):=⟨_,yCI hN hi hx hf,λα ρ S σ H d v Q wd sl de q=>Post.here (b:=ρ.set i (some d)) q wd (sl.set de) (by rw [length_set]) λj hj=>by rw [getElem?_set_ne (by omega)]⟩
theorem yHV:PGsn nt X W [] zBO:=⟨_,yCJ,λα ρ S σ H ds vs Q wd sl de q=>by
 cases ds with
 |nil=>exact⟨de.isnil,Post.here (b:=ρ) q wd sl rfl λ_ _=>rfl⟩
 |cons d ds=>exact q.elim⟩
theorem Post.keeps{g:Gm}{W:XW}{α:List Addr}{H:Hp}{m:R Rho}{σ σ1:St}{Q:St->Hp->Prop}(h1:σ1.length=σ.length)(h2: ∀j,nt<=j->σ1[j]? =σ[j]?)(q:Post g W α H m (Keeps nt σ Q)):Post g W α H m (Keeps nt σ1 Q):=by
 cases m with
 |ok b S=>exact λu α1 H1 x w d k1 k2=>q u α1 H1 x w d (k1.trans h1) λj hj=>(k2 j hj).trans (h2 j hj)
 |exc c fs S=>exact q
 |no=>exact q
theorem zOW{es:List Expr}{g1:MV->Rho->Sto->R Rho}{g2:List MV->Rho->Sto->R Rho}(h1:PGn nt X W e g1)(h2:PGsn nt X W es g2)(hs:(assignEach (e::es) X.env).map (·.2)=assign e X.env::(assignEach es X.env).map (·.2):=by rfl):PGsn nt X W (e::es) (yM g1 g2):=by
 obtain⟨t1,h1,k1⟩:=h1
 obtain⟨t2,h2,k2⟩:=h2
 refine⟨_,zXE h1 h2 hs,λα ρ S σ H ds vs Q wd sl de q=>?_⟩
 cases ds with
 |nil=>exact q.elim
 |cons d ds=>
  obtain⟨v,r,rfl,a,l⟩:=de.uncons
  refine⟨v,r,rfl,k1 α ρ S σ H d v _ wd sl a (Post.bind q λu p S1 α1 H1 e x1 w1 d1 q1 k1 k2'=>k2 α1 p S1 u H1 ds r Q w1 d1 (l.ext x1) (Post.keeps k1 k2' (q1.shift x1)))⟩
theorem yHW{es:List Expr}{k n:Nat}{g2:List MV->Rho->Sto->R Rho}(hc:X.calm=true)(h:PGsn nt X W es g2)
  (hn:(assignEach es X.env).length=n:=by rfl) (hst:(assignEach es X.env).findIdx? (·.1)=none:=by rfl):PGn nt X W (.Tuple es k pos) (gTp n g2):=by
 obtain⟨t,h,k⟩:=h
 refine⟨_,yGQ hc h hn hst,λα ρ S σ H d v Q wd sl de q=>?_⟩
 unfold gTp at q
 split at q
 ·split at q
  ·rename_i hl
   obtain⟨a,vs,rfl,s,l⟩:=kH de
   exact⟨a,vs,rfl,s,by rw [l.length];exact hl,k α ρ S σ H _ vs Q wd sl l q⟩
  ·exact q.elim
 ·exact q.elim
end
abbrev yHX(X:Cx)(W:XW)(ifs:List Expr)(f:Rho->Sto->R Bool):Prop:=Jd X W (yES X ifs) f
section
variable{X:Cx}{W:XW}{iter:Expr}{c:Expr}{tf:Rho->Sto->R Bool}{pos:Pos}
theorem jA:yHX X W [] (λ_ S=>.ok true S):=⟨_,yHJ,λα ρ S σ H Q wd sl q=>q.here wd rfl⟩
theorem zBP(h:PTm X W c tf):yHX X W [c] tf:=let ⟨t,h,k⟩:=h;⟨t,yHK h,k⟩
open Classical in
theorem yCU{elt tg:Expr}{ifs:List Expr}{sc:Scope}{itf:Rho->Sto->R Wk}{cf:Rho->Sto->R Bool}{ef:Rho->Sto->R Er}{gf:MV->Rho->Sto->R Rho}(osc:Scope)(N:List Str)(T:List Str)(idx:List Nat)
  (hi:PIm X W tg iter itf) (hcalm:X.calm=true)
  (hg: ∀C s₂ H1 fp,([]++T++idx.map λi=>(N[i]?).getD Str.empty).Nodup->PGn T.length (yD X sc T idx C s₂ H1 fp) W0 tg gf)
  (hc: ∀C s₂ H1 fp,yHX (yD X sc T idx C s₂ H1 fp) W0 ifs cf) (he: ∀C s₂ H1 fp,PEm (yD X sc T idx C s₂ H1 fp) W0 elt ef)
  (e1:X.env.scope=osc:=by rfl) (e2:X.N=N:=by rfl) (hB:zNQ osc N sc idx=true:=by decide+kernel) (hN:([]++T++idx.map λi=>(N[i]?).getD Str.empty).Nodup:=by decide+kernel)
  (hs: ∀y,foldedSetIterable iter X.env y=pure y:=by intro _;rfl):
  Jd (β:=Er) (τ:=V) X W (λt=>PE X (.ListComp elt [⟨tg,iter,ifs,0⟩] sc pos) t/\PU X (.ListComp elt [⟨tg,iter,ifs,0⟩] sc pos) t) (λρ S=>(itf ρ S).bind λk S1=>if k.ds.length<1000000 then(yT gf cf ef (blk T.length idx ρ) k.gs k.ds S1).bind λout S2=>.ok (.new out) S2 else .no):=by
 obtain⟨wi,hi,ki⟩:=hi
 subst e1 e2
 have big:(1000000:Nat)<sizeLine:=by rw [sizeLine_eq];decide
 have hg': ∃t,(∀C s₂ H1 fp,PG (yD X sc T idx C s₂ H1 fp) tg t)/\ ∀α ρ S σ H d v Q,Wd X.g α S H->Slots X.K α H ρ σ->Den X.K α H d v->Post X.g W0 α H (gf d ρ S) (Keeps T.length σ Q)->t v σ H Q:=by
  refine⟨λv σ H Q=> ∃α ρ S d,Wd X.g α S H/\Slots X.K α H ρ σ/\Den X.K α H d v/\Post X.g W0 α H (gf d ρ S) (Keeps T.length σ Q),λC s₂ H1 fp pins s σ H v u Q I r ⟨α,ρ,S,d,h1,h2,h3,h4⟩=>?_,λα ρ S σ H d v Q h1 h2 h3 h4=>⟨α,ρ,S,d,h1,h2,h3,h4⟩⟩
  obtain⟨t,ht,kt⟩:=hg C s₂ H1 fp hN
  exact ht pins s σ H v u Q I r (kt α ρ S σ H d v Q h1 h2 h3 h4)
 obtain⟨tg',hg1,kg⟩:=hg'
 refine⟨_,⟨yLK T idx hi hcalm hB hg1 (λC s₂ H1 fp=>(Classical.choose_spec (hc C s₂ H1 fp)).1) (λC s₂ H1 fp=>(Classical.choose_spec (he C s₂ H1 fp)).1) hs,yLM T idx hi hcalm hB hg1 (λC s₂ H1 fp=>(Classical.choose_spec (hc C s₂ H1 fp)).1) (λC s₂ H1 fp=>(Classical.choose_spec (he C s₂ H1 fp)).1) hs⟩,λα ρ S σ H Q wd sl q=>ki α ρ S σ H _ wd sl (q.bind λJ k S1 α1 H1 e1 x1 w1 d1 q1=>?_)⟩
 obtain⟨P,hP⟩:=d1
 split at q1
 ·rename_i hlen
  refine⟨λn m ys H2=>m=k.ds.length - n/\n<=k.ds.length/\ys.length<=n/\ ∃α2 S2,Ext α H α2 H2/\Wd X.g α2 S2 H2/\P α2 S2 H2/\ ∃outs,DenL X.K α2 H2 outs ys/\Post X.g W α H ((yT gf cf ef (blk T.length idx ρ) k.gs (k.ds.drop n) S2).bind λo S'=>.ok (Er.new (outs++o)) S') Q,
   ⟨_,rfl,zero_le _,le_refl _,α1,S1,x1,w1,hP.here,[],xN,by simpa using q1⟩,?_⟩
  rintro n m ys H2 ⟨rfl,hn,hy,α2,S2,x2,w2,p2,outs,l,q2⟩
  obtain⟨i1,i2⟩:=hP.it n α2 S2 H2 p2 w2
  refine⟨by omega,?_⟩
  by_cases hlt:n<k.ds.length
  ·obtain⟨go,yl⟩:=i1 hlt
   refine .inr ⟨go,by omega,λv H3 y τ hτ=>?_⟩
   obtain⟨x3,w3,p3,d,hd,dv⟩:=yl v H3 y
   have hdrop:k.ds.drop n=d::k.ds.drop (n+1):=by
    rw [List.drop_eq_getElem_cons hlt]
    have:=gE0 hlt
    rw [hd]at this
    rw [<-Option.some.inj this]
   rw [hdrop]at q2
   unfold yT at q2
   have slb:=yEX (sl.ext (x2.trans x3)) T.length idx τ hτ
   refine kg α2 (blk T.length idx ρ) S2 _ H3 d v _ w3 slb dv ?_
   rw [R.bind_assoc]at q2
   refine q2.bindY (x2.trans x3) λσ4 ρ4 S4 α4 H4 e4 x4 w4 s4 q4 len4 kp4=>⟨⟨σ4.take T.length,?_,?_⟩,λC s₂ fp=>?_⟩
   ·refine ext_getElem? λj=>?_
    have hl4:σ4.length=T.length+idx.length:=by rw [len4,lA,zBL,hτ]
    by_cases hj:j<T.length
    ·rw [getElem?_append_left (by rw [lT];omega),getElem?_take_of_lt hj]
    ·rw [kp4 j (by omega),getElem?_append_right (by omega),getElem?_append_right (by rw [lT];omega),hτ,lT,min_eq_left (by omega)]
   ·rw [lT,len4,lA,zBL,hτ];omega
   have x34:Ext α H α4 H4:=(x2.trans x3).trans x4
   have p4: ∀α5 S5 H5,Ext α4 H4 α5 H5->Wd X.g α5 S5 H5->stay k.gs S5->P α5 S5 H5:=λα5 S5 H5 x5 w5 s5=>hP.stays α2 S2 H3 α5 S5 H5 p3 (x4.trans x5) w5 s5
   rw [R.bind_assoc]at q4
   refine(Classical.choose_spec (hc C s₂ H1 fp)).2 α4 ρ4 S4 σ4 H4 _ w4 s4 (q4.bindY x34 λb5 b5' S5 α5 H5 e5 x5 w5 d5 q5=>?_)
   cases d5
   cases b5 with
   |false=>
    rw [iN xF0]at q5 ⊢
    split at q5
    ·rename_i hst
     exact⟨k.ds.length - (n+1),by omega,rfl,hlt,by omega,α5,S5,x34.trans x5,w5,p4 α5 S5 H5 x5 w5 hst,outs,(l.ext (x3.trans x4)).ext x5,q5⟩
    ·exact q5.elim
   |true=>
    rw [iP rfl,R.bind_assoc]at q5
    rw [iP rfl]
    refine(Classical.choose_spec (he C s₂ H1 fp)).2 α5 ρ4 S5 σ4 H5 _ w5 (s4.ext x5) (q5.bindY (x34.trans x5) λy6 r6 S6 α6 H6 e6 x6 w6 d6 q6=>?_)
    obtain⟨d',S',α',e7,x7,y7,w7,de⟩:=zEF w6 x6 d6
    rw [e7]at q6
    have q6:Post X.g W α H ((if stay k.gs S' then(yT gf cf ef (blk T.length idx ρ) k.gs (k.ds.drop (n+1)) S').bind λout S4=>.ok (d'::out) S4 else .no).bind λo S'=>.ok (Er.new (outs++o)) S') Q:=q6
    split at q6
    ·rename_i hst
     refine⟨k.ds.length - (n+1),by omega,rfl,hlt,by rw [lA,lS];omega,α',S',(x34.trans x5).trans x7,w7,p4 α' S' H6 (x5.trans x7) w7 hst,outs++[d'],((l.ext (x3.trans x4)).ext (x5.trans x7)).append (yW de xN),?_⟩
     rw [R.bind_assoc]at q6
     have e8:(λ(o:List MV) (S':Sto)=>R.ok (Er.new ((outs++[d'])++o)) S')=(λ(b:List MV) S=>(R.ok (d'::b) S).bind λo S'=>.ok (Er.new (outs++o)) S'):=by
      funext o S'
      show _=R.ok (Er.new (outs++(d'::o))) S'
      rw [aA];rfl
     rw [e8]
     exact q6
    ·exact q6.elim
  ·have e:n=k.ds.length:=by omega
   subst e
   rw [drop_length]at q2
   have q3:Post X.g W α H (.ok (Er.new (outs++[])) S2) Q:=q2
   rw [aN]at q3
   exact .inl ⟨i2 (le_refl _),λD hD=>(q3.shift x2).newl w2 hD l⟩
 ·exact q1.elim
open Classical in
theorem xX{elt tg:Expr}{ifs:List Expr}{sc:Scope}{itf:Rho->Sto->R Wk}{cf:Rho->Sto->R Bool}{ef:Rho->Sto->R Er}{gf:MV->Rho->Sto->R Rho}(osc:Scope)(N:List Str)(T:List Str)(idx:List Nat)
  (hi:PIm X W tg iter itf) (hcalm:X.calm=true)
  (hg: ∀C s₂ H1 fp,([]++T++idx.map λi=>(N[i]?).getD Str.empty).Nodup->PGn T.length (yD X sc T idx C s₂ H1 fp) W0 tg gf)
  (hc: ∀C s₂ H1 fp,yHX (yD X sc T idx C s₂ H1 fp) W0 ifs cf) (he: ∀C s₂ H1 fp,PEm (yD X sc T idx C s₂ H1 fp) W0 elt ef)
  (e1:X.env.scope=osc:=by rfl) (e2:X.N=N:=by rfl) (hB:zNQ osc N sc idx=true:=by decide+kernel) (hN:([]++T++idx.map λi=>(N[i]?).getD Str.empty).Nodup:=by decide+kernel)
  (hs: ∀y,foldedSetIterable iter X.env y=pure y:=by intro _;rfl):
  PEm X W (.ListComp elt [⟨tg,iter,ifs,0⟩] sc pos) (λρ S=>(itf ρ S).bind λk S1=>if k.ds.length<1000000 then(yT gf cf ef (blk T.length idx ρ) k.gs k.ds S1).bind λout S2=>.ok (.new out) S2 else .no):=let ⟨t,h,k⟩:=(yCU osc N T idx hi hcalm hg hc he e1 e2 hB hN hs);⟨t,h.1,k⟩
open Classical in
theorem zOX{x:Str}{pos' spos:Pos}(i:Nat)(hNN:X.N.Nodup){elt tg:Expr}{ifs:List Expr}{sc:Scope}{itf:Rho->Sto->R Wk}{cf:Rho->Sto->R Bool}{ef:Rho->Sto->R Er}{gf:MV->Rho->Sto->R Rho}(osc:Scope)(N:List Str)(T:List Str)(idx:List Nat)
  (hi:PIm X W tg iter itf) (hcalm:X.calm=true)
  (hg: ∀C s₂ H1 fp,([]++T++idx.map λi=>(N[i]?).getD Str.empty).Nodup->PGn T.length (yD X sc T idx C s₂ H1 fp) W0 tg gf)
  (hc: ∀C s₂ H1 fp,yHX (yD X sc T idx C s₂ H1 fp) W0 ifs cf) (he: ∀C s₂ H1 fp,PEm (yD X sc T idx C s₂ H1 fp) W0 elt ef)
  (e1:X.env.scope=osc:=by rfl) (e2:X.N=N:=by rfl) (hB:zNQ osc N sc idx=true:=by decide+kernel) (hN:([]++T++idx.map λi=>(N[i]?).getD Str.empty).Nodup:=by decide+kernel)
  (hs: ∀y,foldedSetIterable iter X.env y=pure y:=by intro _;rfl)
  (hi2:X.N[i]? =some x:=by rfl) (hx:Loc X.env.scope x:=by first |exact Or.inl rfl|exact Or.inr rfl)
  (hsw:swapsWith (.ListComp elt [⟨tg,iter,ifs,0⟩] sc pos) (some (.Name x pos')) spos.line X.env=pure true:=by with_unfolding_all rfl) (hf:X.fn x=true\/X.env.scope.names.lookup x=some .local:=by first |exact .inl rfl|exact .inr rfl|assumption):
  PSm X W (.Assign [.Name x pos'] (.ListComp elt [⟨tg,iter,ifs,0⟩] sc pos) spos) (λρ S=>((itf ρ S).bind λk S1=>if k.ds.length<1000000 then(yT gf cf ef (blk T.length idx ρ) k.gs k.ds S1).bind λout S2=>.ok (.new out) S2 else .no).bind (zUU ρ i)):=by
 obtain⟨t,h,k⟩:=(yCU osc N T idx hi hcalm hg hc he e1 e2 hB hN hs)
 refine⟨_,h.2 i x pos' spos hNN hi2 hx hf hsw,λα ρ S σ H D wd sl q=>k α ρ S σ H _ wd sl (q.expr λu r S1 α1 H1 e x1 w1 d1 q1=>?_)⟩
 obtain⟨d',S',α',e1,x',y',w',de⟩:=zEF w1 x1 d1
 unfold zUU at q1
 rw [e1]at q1
 exact q1 _ α' H1 x' w' (((sl.ext x1).ex0 y').set de)
end
mutual
def lo(n:Nat):MV->Prop
 |.loc l=>l<n
 |.tup ds=>loL n ds
 |.scr ds=>loL n ds
 |.obj _ _ ds=>loL n ds
 |_=>True
def loL(n:Nat):List MV->Prop
 |[]=>True
 |d::ds=>lo n d/\loL n ds
end
def loO(n:Nat):MO->Prop
 |.lst ds=>loL n ds
 |.dic kvs=> ∀p∈kvs,lo n p.1/\lo n p.2
 |.ins _ fs=> ∀p∈fs,lo n p.2
section
variable{K:PySem.W.Frag}{α t:List Addr}{H:Hp}
mutual
theorem Den.back: ∀{d:MV}{v:V},Den K (α++t) H d v->lo α.length d->Den K α H d v
 |.non,_,q,_=>by cases zAI q;exact zOV
 |.bl _,_,q,_=>by cases zEE q;exact gT _
 |.int _,_,q,_=>by cases jK q;exact kK _
 |.str _,_,q,_=>by cases jL q;exact zBM _
 |.typ _,_,q,_=>by cases dU q;exact yCO _
 |.obj c ns ds,_,q,h=>by
  obtain⟨a,C,dx,vs,o,rfl,e,hn,hc,hl,l⟩:=cA q
  exact yCQ e hn hc hl (DenL.back l (by unfold lo at h;exact h))
 |.loc l,_,q,h=>by
  obtain⟨a,rfl,e⟩:=gU q
  have hl:l<α.length:=by unfold lo at h;exact h
  rw [getElem?_append_left hl]at e
  exact zKS e
 |.tup ds,_,q,h=>by
  obtain⟨a,vs,rfl,s,l⟩:=kH q
  exact zES s (DenL.back l (by unfold lo at h;exact h))
 |.scr ds,_,q,h=>by
  obtain⟨a,vs,rfl,s,l⟩:=cB q
  exact yCP s (DenL.back l (by unfold lo at h;exact h))
theorem DenL.back: ∀{ds:List MV}{vs:List V},DenL K (α++t) H ds vs->loL α.length ds->DenL K α H ds vs
 |[],_,q,_=>by rw [q.isnil];exact xN
 |d::ds,_,q,h=>by
  obtain⟨v,r,rfl,a,l⟩:=q.uncons
  unfold loL at h
  exact yW (Den.back a h.1) (DenL.back l h.2)
end
mutual
theorem Den.lo: ∀{d:MV}{v:V},Den K α H d v->lo α.length d
 |.non,_,q=>by unfold M.lo;trivial
 |.bl _,_,q=>by unfold M.lo;trivial
 |.int _,_,q=>by unfold M.lo;trivial
 |.str _,_,q=>by unfold M.lo;trivial
 |.typ _,_,q=>by unfold M.lo;trivial
 |.obj c ns ds,_,q=>by
  obtain⟨a,C,dx,vs,o,rfl,e,hn,hc,hl,l⟩:=cA q
  unfold M.lo
  exact DenL.lo l
 |.loc l,_,q=>by
  obtain⟨a,rfl,e⟩:=gU q
  unfold M.lo
  exact(gS0.mp e).1
 |.tup ds,_,q=>by
  obtain⟨a,vs,rfl,s,l⟩:=kH q
  unfold M.lo
  exact DenL.lo l
 |.scr ds,_,q=>by
  obtain⟨a,vs,rfl,s,l⟩:=cB q
  unfold M.lo
  exact DenL.lo l
theorem DenL.lo: ∀{ds:List MV}{vs:List V},DenL K α H ds vs->loL α.length ds
 |[],_,q=>by unfold loL;trivial
 |d::ds,_,q=>by
  obtain⟨v,r,rfl,a,l⟩:=q.uncons
  unfold loL
  exact⟨Den.lo a,DenL.lo l⟩
end
theorem DenK.back: ∀{fs gs},DenK K (α++t) H fs gs->(∀p∈fs,M.lo α.length p.1/\M.lo α.length p.2)->DenK K α H fs gs
 |_,_,.nil,_=>.nil
 |_,_,.cons k a l,h=>.cons k (a.back (h _ mF0).2) (DenK.back l λp hp=>h p (mO _ hp))
theorem KeyD.lo{n:Nat}{k:MV}{k':Key}(h:KeyD k k'):M.lo n k:=by
 unfold KeyD at h
 split at h
 ·unfold M.lo;trivial
 ·unfold M.lo;trivial
 ·exact h.elim
theorem DenK.lo: ∀{fs gs},DenK K α H fs gs-> ∀p∈fs,M.lo α.length p.1/\M.lo α.length p.2
 |_,_,.nil=>λp h=>by simp at h
 |_,_,.cons k a l=>λp h=>(mC.mp h).elim (λe=>by subst e;exact⟨k.lo,a.lo⟩) (DenK.lo l p)
theorem DenN.back: ∀{fs xs},DenN K (α++t) H fs xs->(∀p∈fs,M.lo α.length p.1/\M.lo α.length p.2)->DenN K α H fs xs
 |_,_,.nil,_=>.nil
 |_,_,.cons k e a d r l,h=>.cons k e (a.back (h _ mF0).1) (d.back (h _ mF0).2) r (DenN.back l λp hp=>h p (mO _ hp))
theorem DenN.lo: ∀{fs xs},DenN K α H fs xs-> ∀p∈fs,M.lo α.length p.1/\M.lo α.length p.2
 |_,_,.nil=>λp h=>by simp at h
 |_,_,.cons k e a d r l=>λp h=>(mC.mp h).elim (λz=>by subst z;exact⟨a.lo,d.lo⟩) (DenN.lo l p)
theorem DenF.back: ∀{fs gs},DenF K (α++t) H fs gs->(∀p∈fs,M.lo α.length p.2)->DenF K α H fs gs
 |_,_,.nil,_=>.nil
 |_,_,.cons a l,h=>.cons (a.back (h _ mF0)) (DenF.back l λp hp=>h p (mO _ hp))
theorem DenF.lo: ∀{fs gs},DenF K α H fs gs-> ∀p∈fs,M.lo α.length p.2
 |_,_,.nil=>λp h=>by simp at h
 |_,_,.cons a l=>λp h=>(mC.mp h).elim (λe=>by subst e;exact a.lo) (DenF.lo l p)
theorem ObD.back{g:Gm}{a:Addr}{o:MO}(q:ObD g (α++t) H a o)(h:loO α.length o):ObD g α H a o:=by
 cases o with
 |lst ds=>obtain⟨vs,h1,l⟩:=q;exact⟨vs,h1,l.back h⟩
 |dic ds=>
  rcases q with⟨vs,h1,l⟩|⟨vs,h1,l⟩
  ·exact .inl ⟨vs,h1,l.back h⟩
  ·exact .inr ⟨vs,h1,l.back h⟩
 |ins c fs=>obtain⟨C,gs,m,l,r⟩:=q;exact⟨C,gs,m,l.back h,r⟩
theorem ObD.lo{g:Gm}{a:Addr}{o:MO}(q:ObD g α H a o):loO α.length o:=by
 cases o with
 |lst ds=>obtain⟨vs,h1,l⟩:=q;exact l.lo
 |dic ds=>
  rcases q with⟨vs,h1,l⟩|⟨vs,h1,l⟩
  ·exact l.lo
  ·exact l.lo
 |ins c fs=>obtain⟨C,gs,m,l,r⟩:=q;exact l.lo
end
def zNT(S S2:Sto):Prop:=S.length<=S2.length/\ ∀l,l<S.length->S2[l]? =S[l]? \/ ∃o,S2[l]? =some o/\loO S.length o
open Classical in
noncomputable def bX(S:Sto)(r:Er)(S2:Sto):R Er:=
 if zNT S S2 then match r with
  |.val (.loc l)=>if l<S.length then .ok r (S2.take S.length)else match S2[l]? with
   |some (.lst ds)=>if loL S.length ds then .ok (.new ds) (S2.take S.length)else .ok r S2
   |_=>.ok r S2
  |.val d=>if lo S.length d then .ok r (S2.take S.length)else .ok r S2
  |.new ds=>if loL S.length ds then .ok r (S2.take S.length)else .ok r S2
 else .ok r S2
theorem yLQ{g:Gm}{α α1 α2 α3:List Addr}{H H1 H3:Hp}{S1 S3:Sto}{r:Er}{v:V}(x1:Ext α H α1 H1)(w1:Wd g α1 S1 H1)(h12: ∃t,α2=α1++t)(x2:Ext α H α2 H1)(x3:Ext α2 H1 α3 H3)(w3:Wd g α3 S3 H3)(d:DenE g.K H1 α3 H3 r v):
  ∃r' S' α',bX S1 r S3=.ok r' S'/\Ext α H α' H3/\Wd g α' S' H3/\DenE g.K H α' H3 r' v:=by
 have x23:=x2.trans x3
 have dfull:DenE g.K H α3 H3 r v:=d.back λb h=>x1.free h
 unfold bX
 by_cases hc:zNT S1 S3
 ·rw [iP hc]
  obtain⟨t,ht⟩: ∃t,α3=α1++t:=by
   obtain⟨t,e⟩:=h12
   obtain⟨u,e'⟩:=x3.pre
   exact⟨t++u,by rw [e',e,aA]⟩
  have hn:α1.length=S1.length:=w1.len
  have xc:Ext α H α1 H3:=⟨⟨x1.pre,x23.tup,x23.frz⟩,x1.new,x23.keep,x23.has⟩
  have wc:Wd g α1 (S3.take S1.length) H3:=by
   refine⟨by rw [lT,hn,min_eq_left hc.1],w1.nd,λl a o h1 h2=>?_⟩
   have hl:l<S1.length:=by rw [<-hn];exact(gS0.mp h1).1
   rw [getElem?_take_of_lt hl]at h2
   have h1':α3[l]? =some a:=by rw [ht,getElem?_append_left (by rw [hn];exact hl)];exact h1
   have q:=w3.obj l a o h1' h2
   rw [ht]at q
   refine q.back ?_
   rcases hc.2 l hl with e|⟨o',e,lo'⟩
   ·rw [e]at h2
    exact(w1.obj l a o h1 h2).lo
   ·rw [h2]at e
    cases e
    rw [hn];exact lo'
  have dlo: ∀d,lo S1.length d->Den g.K α3 H3 d v->DenE g.K H α1 H3 (.val d) v:=λd hd q=>.val ((ht▸q:Den g.K (α1++t) H3 d v).back (by rw [hn];exact hd))
  cases r with
  |new ds=>
   dsimp only
   split
   ·rename_i hl
    obtain⟨⟨b,vs,rfl,h1,h2,h3⟩,h4⟩:=dfull
    exact⟨_,_,α1,rfl,xc,wc,⟨b,vs,rfl,h1,λz=>h2 (by rw [ht];exact mem_append_left _ z),(ht▸h3:DenL g.K (α1++t) H3 ds vs).back (by rw [hn];exact hl)⟩,h4⟩
   ·exact⟨_,_,α3,rfl,x23,w3,dfull⟩
  |val mv=>
   have dd:Den g.K α3 H3 mv v:=dfull.1
   cases mv with
   |loc l=>
    dsimp only
    split
    ·rename_i hl
     exact⟨_,_,α1,rfl,xc,wc,dlo _ (by unfold lo;exact hl) dd⟩
    ·rename_i hl
     obtain⟨a,rfl,ha⟩:=gU dd
     split
     ·rename_i ds hS
      split
      ·rename_i hlo
       obtain⟨vs,h1,h2⟩:=w3.obj l a _ ha hS
       have hna:a∉α1:=λz=>by
        obtain⟨m,hm⟩:=List.getElem?_of_mem z
        have hml:m<α1.length:=(gS0.mp hm).1
        have hm':α3[m]? =some a:=by rw [ht,getElem?_append_left hml];exact hm
        obtain⟨u1,e1⟩:=gS0.mp hm'
        obtain⟨u2,e2⟩:=gS0.mp ha
        have:=(getElem_inj w3.nd).mp (e1.trans e2.symm)
        omega
       refine⟨_,_,α1,rfl,xc,wc,⟨a,vs,rfl,h1,hna,(ht▸h2:DenL g.K (α1++t) H3 ds vs).back (by rw [hn];exact hlo)⟩,λb e=>?_⟩
       cases e
       rcases x23.new a (mem_of_getElem? ha)with z|z
       ·obtain⟨u,eu⟩:=x1.pre
        exact absurd (by rw [eu];exact mem_append_left _ z) hna
       ·exact z
      ·exact⟨_,_,α3,rfl,x23,w3,dfull⟩
     ·exact⟨_,_,α3,rfl,x23,w3,dfull⟩
   |non=>dsimp only;split;(· rename_i hl;exact⟨_,_,α1,rfl,xc,wc,dlo _ hl dd⟩);(· exact⟨_,_,α3,rfl,x23,w3,dfull⟩)
   |bl b=>dsimp only;split;(· rename_i hl;exact⟨_,_,α1,rfl,xc,wc,dlo _ hl dd⟩);(· exact⟨_,_,α3,rfl,x23,w3,dfull⟩)
   |int b=>dsimp only;split;(· rename_i hl;exact⟨_,_,α1,rfl,xc,wc,dlo _ hl dd⟩);(· exact⟨_,_,α3,rfl,x23,w3,dfull⟩)
   |str b=>dsimp only;split;(· rename_i hl;exact⟨_,_,α1,rfl,xc,wc,dlo _ hl dd⟩);(· exact⟨_,_,α3,rfl,x23,w3,dfull⟩)
   |typ b=>dsimp only;split;(· rename_i hl;exact⟨_,_,α1,rfl,xc,wc,dlo _ hl dd⟩);(· exact⟨_,_,α3,rfl,x23,w3,dfull⟩)
   |obj b b' b''=>dsimp only;split;(· rename_i hl;exact⟨_,_,α1,rfl,xc,wc,dlo _ hl dd⟩);(· exact⟨_,_,α3,rfl,x23,w3,dfull⟩)
   |tup b=>dsimp only;split;(· rename_i hl;exact⟨_,_,α1,rfl,xc,wc,dlo _ hl dd⟩);(· exact⟨_,_,α3,rfl,x23,w3,dfull⟩)
   |scr b=>dsimp only;split;(· rename_i hl;exact⟨_,_,α1,rfl,xc,wc,dlo _ hl dd⟩);(· exact⟨_,_,α3,rfl,x23,w3,dfull⟩)
 ·rw [iN hc]
  exact⟨_,_,α3,rfl,x23,w3,dfull⟩
def spM(g:Gm)(n:Nat)(F:List MV->Sto->R Er):Sp:=λvs H Q _=> ∃α S ds,Wd g α S H/\DenL g.K α H ds vs/\ds.length=n/\Post g W0 α H (F ds S) Q
noncomputable def zT(n:Nat)(F:List MV->Sto->R Er)(rs:List Er)(S:Sto):R Er:=if rs.length=n then(noX (F (zV rs S).1 (zV rs S).2)).bind λr S2=>bX S r S2 else .no
section
variable{X:Cx}{W:XW}{e:Expr}{es:List Expr}{af:Rho->Sto->R (List Er)}{pos:Pos}
theorem zTO{n:Nat}{F:List MV->Sto->R Er}{rs:List Er}{vs:List V}{α α1:List Addr}{H H1:Hp}{S1:Sto}{Q:VK}(x1:Ext α H α1 H1)(w1:Wd X.g α1 S1 H1)(d1:ArgsE X.K H α1 H1 rs vs)(q:Post X.g W α H (zT n F rs S1) Q):
  spM X.g n F vs H1 Q E0:=by
 unfold zT at q
 split at q
 ·rename_i hl
  obtain⟨α2,x2,y2,w2,l2⟩:=zHB w1 x1 d1
  refine⟨α2,_,_,w2,l2,by rw [zMH];exact hl,?_⟩
  cases z:F (zV rs S1).1 (zV rs S1).2 with
  |ok r S3=>
   rw [z]at q
   intro v α3 H3 x3 w3 d3
   obtain⟨r',S',α',e',x',w',d'⟩:=yLQ x1 w1 y2.pre x2 x3 w3 d3
   have q:Post X.g W α H (bX S1 r S3) Q:=q
   rw [e']at q
   exact q v α' H3 x' w' d'
  |exc c fs S3=>rw [z]at q;exact q.elim
  |no=>rw [z]at q;exact q.elim
 ·exact q.elim
theorem yLR{k n:Nat}{fa:Addr}{fd:FuncData}{ps:List Str}{F:List MV->Sto->R Er}{x:Str}{p:Pos}(G:FnOk X.prog X.w X.K X.mg X.base CX0 k fa fd ps (spM X.g n F))(hr:Room k X.A)(hg:Gl X x)(hm:X.mg x=some (.ref fa))
  (hk:PySem.W.keepIn X.K (.ref fa)=true) (hb:Binds X.K fd ps []) (ha:PAm X W (e::es) af) (hdb:(x==("__debug__":Str))=false:=by decide)
  (he:starEach (e::es) X.env=(false,eval e X.env)::starEach es X.env:=by rfl) (hpl:(backTo pos (starEach es X.env)).any (·.1)=false:=by rfl):
  PEm X W (.Call (.Name x p) (e::es) [] pos) (λρ S=>(af ρ S).bind λrs S1=>zT n F rs S1):=by
 obtain⟨t,ha,kk⟩:=ha
 refine⟨_,yKZ G hr hg hm hk hb .nil yHH ha hdb he hpl,λα ρ S σ H Q wd sl q=>kk α ρ S σ H _ wd sl (q.bind λvs rs S1 α1 H1 e1 x1 w1 d1 q1=>?_)⟩
 rw [aN]
 exact zTO x1 w1 d1 q1
end
def zR(N:List Str)(ds:List MV):Rho:=ds.map some++List.replicate (N.length - ds.length) none
def yH:R Fl->R Er
 |.ok (.next _) S=>.ok (.val .non) S
 |.ok (.ret r) S=>.ok r S
 |.exc c fs S=>.exc c fs S
 |_=>.no
theorem zXR{K:PySem.W.Frag}{α:List Addr}{N:List Str}{H:Hp}{ds:List MV}{vs:List V}(l:DenL K α H ds vs):Slots K α H (zR N ds) (start N vs):=by
 have hlen:=l.length
 refine⟨?_,λi d e=>?_⟩
 ·unfold start zR
  rw [lA,lA,lM,lM,length_replicate,length_replicate,hlen]
 ·unfold zR at e
  by_cases hi:i<ds.length
  ·rw [getElem?_append_left (by simpa using hi),getElem?_map]at e
   cases z:ds[i]? with
   |none=>rw [z]at e;cases e
   |some d'=>
    rw [z]at e
    obtain⟨v,h1,h2⟩:=l.at z
    have e':d'=d:=Option.some.inj (Option.some.inj e)
    subst e'
    refine⟨v,?_,h2⟩
    unfold start
    rw [getElem?_append_left (by rw [lM,hlen];exact hi),getElem?_map,h1];rfl
  ·rw [getElem?_append_right (by simpa using hi),List.getElem?_replicate]at e
   split at e<;>cases e
section
variable{P:Program}{w:World}{K:PySem.W.Frag}{mg:Str->Option Value}{base:Heap}
theorem okM{x qual:Str}{st:Stmt}{f:Addr}{fd:FuncData}{N ps:List Str}{k:Nat}(Fb:Rho->Sto->R Fl)(F:Fun K x qual st f fd)(Sc:FnScope N ps (zG st))
  (hbody: ∀(cdv:Value)(A:Around)(outer:List Env)(s:Shared)(H:Hp)(E:XK),Room k (A.deeper (envOfC qual (zG st) s.heap.objs.size f cdv))->
   zUT (zXF CX0 P w K mg base N qual (zG st) f cdv A outer s H E).nox W0 (xR st) Fb):
  FnOk P w K mg base CX0 (k+1) f fd ps (spM ⟨K,mg,P,w⟩ ps.length λds S=>yH (Fb (zR N ds) S)):=by
 refine F.ok Sc (λvs H Q E h=>?_) (λcdv A outer s H vs Q E hr h=>?_)
 ·obtain⟨α,S,ds,_,l,hl,_⟩:=h
  rw [l.length,hl]
 ·obtain⟨α,S,ds,wd,l,hl,q⟩:=h
  obtain⟨t,ht,kk⟩:=hbody cdv A outer s H E hr
  refine⟨t,ht,kk α (zR N ds) S (start N vs) H _ wd (zXR l) ?_⟩
  dsimp only at q
  cases z:Fb (zR N ds) S with
  |ok fl S'=>
   rw [z]at q
   cases fl with
   |next ρ=>exact λσ α' H' x' w' s'=>q .non α' H' x' w' (DenE.val zOV)
   |ret r=>exact λv α' H' x' w' d'=>q v α' H' x' w' d'
   |brk ρ=>exact q.elim
   |cont ρ=>exact q.elim
  |exc c fs S'=>rw [z]at q;exact λα' H' x' w'=>q α' H' x' w'
  |no=>rw [z]at q;exact q
end
inductive Vw where
 |fl (v:V)|tp (ds:List MV)|ls (ds:List MV)
def jB(S:Sto):Er->Option (List MV)
 |.new ds=>some ds
 |.val (.scr ds)=>some ds
 |.val (.loc l)=>match S[l]? with
  |some (.lst ds)=>some ds
  |_=>none
 |_=>none
def vwE(S:Sto):Er->Option Vw
 |.val .non=>some (.fl .non)
 |.val (.bl b)=>some (.fl (.bl b))
 |.val (.int i)=>some (.fl (.int i))
 |.val (.str x)=>some (.fl (.str (mkS x)))
 |.val (.tup ds)=>some (.tp ds)
 |.val (.typ _)=>none
 |.val (.obj _ _ _)=>none
 |r=>(jB S r).map .ls
def prs(e:MV->MV->Option Bool):List MV->List MV->Option (List Bool)
 |d::ds,f::fs=>(e d f).bind λk=>(prs e ds fs).map (k::·)
 |_,_=>some []
def eqW(e:MV->MV->Option Bool):Vw->Vw->Option Bool
 |.fl x,.fl y=>some (eqV x y)
 |.tp ds,.tp es=>(prs e ds es).map λbs=>bs.all id&&ds.length==es.length
 |.ls ds,.ls es=>if ds.length=es.length then(prs e ds es).map λbs=>bs.all id else some false
 |_,_=>some false
theorem yAW(e:MV->MV->Option Bool)(ds es:List MV):eqW e (.tp ds) (.tp es)=(prs e ds es).map λbs=>bs.all id&&ds.length==es.length:=rfl
theorem zUV(e:MV->MV->Option Bool)(ds es:List MV):eqW e (.ls ds) (.ls es)=if ds.length=es.length then(prs e ds es).map λbs=>bs.all id else some false:=rfl
def eqv(S:Sto):Nat->MV->MV->Option Bool
 |0,_,_=>none
 |n+1,a,b=>(vwE S (.val a)).bind λx=>(vwE S (.val b)).bind λy=>eqW (eqv S n) x y
def zMI(S:Sto)(n:Nat)(a b:Er):Option Bool:=(vwE S a).bind λx=>(vwE S b).bind λy=>eqW (eqv S n) x y
section
variable{X:Cx}{α:List Addr}{S:Sto}{H:Hp}
theorem zHC{K:PySem.W.Frag}{g:Gm}(hK:g.K=K)(wd:Wd g α S H){r:Er}{ds:List MV}{x:V}(e:jB S r=some ds)(d:DenX K α H r x): ∃a vs,x=.ref a/\SqL K H a vs/\DenL K α H ds vs:=by
 subst hK
 unfold jB at e
 split at e
 ·cases e
  obtain⟨b,vs,rfl,h,_,l⟩:=d
  exact⟨b,vs,rfl,.of h,l⟩
 ·cases e
  obtain⟨a,vs,rfl,s,l⟩:=zUR d
  exact⟨a,vs,rfl,s.l,l⟩
 ·rename_i n
  obtain⟨a,rfl,h⟩:=zGY d
  split at e
  ·rename_i es hS
   cases e
   obtain⟨vs,h1,l⟩:=wd.obj n a _ h hS
   exact⟨a,vs,rfl,.of h1,l⟩
  ·cases e
 ·cases e
theorem zGE{r:Er}{x y:V}(e:vwE S r=some (.fl y))(d:DenX X.K α H r x):x=y/\wV y=true:=by
 unfold vwE at e
 split at e
 ·cases e;exact⟨yAU d,rfl⟩
 ·cases e;exact⟨zPV d,rfl⟩
 ·cases e;exact⟨xF d,rfl⟩
 ·cases e;exact⟨cC d,rfl⟩
 ·cases e
 ·cases e
 ·cases e
 ·cases z:jB S r<;>rw [z]at e<;>cases e
theorem zGF{r:Er}{x:V}{ds:List MV}(e:vwE S r=some (.tp ds))(d:DenX X.K α H r x): ∃a vs,x=.ref a/\SqT X.K H a vs/\DenL X.K α H ds vs:=by
 unfold vwE at e
 split at e
 ·cases e
 ·cases e
 ·cases e
 ·cases e
 ·cases e;exact zAJ d
 ·cases e
 ·cases e
 ·cases z:jB S r<;>rw [z]at e<;>cases e
theorem zGG(wd:Wd X.g α S H){r:Er}{x:V}{ds:List MV}(e:vwE S r=some (.ls ds))(d:DenX X.K α H r x): ∃a vs,x=.ref a/\SqL X.K H a vs/\DenL X.K α H ds vs:=by
 unfold vwE at e
 split at e
 ·cases e
 ·cases e
 ·cases e
 ·cases e
 ·cases e
 ·cases e
 ·cases e
 ·cases z:jB S r with
  |none=>rw [z]at e;cases e
  |some es=>rw [z]at e;cases e;exact zHC rfl wd z d
theorem zIX{e:MV->MV->Option Bool}: ∀{ds es:List MV}{bs:List Bool},prs e ds es=some bs->bs.length=min ds.length es.length
 |[],_,_,h=>by simp [prs]at h;subst h;simp
 |_::_,[],_,h=>by simp [prs]at h;subst h;simp
 |d::ds,f::fs,bs,h=>by
  unfold prs at h
  cases z:e d f with
  |none=>rw [z]at h;cases h
  |some k=>
   rw [z]at h
   cases z2:prs e ds fs with
   |none=>simp [z2]at h
   |some cs=>
    simp [z2]at h
    subst h
    simp [zIX z2]
theorem zUW{e:MV->MV->Option Bool}: ∀{ds es:List MV}{bs:List Bool}{j:Nat}{d f:MV},prs e ds es=some bs->ds[j]? =some d->es[j]? =some f->e d f=some (bs.getD j true)
 |[],_,_,_,_,_,h,h1,_=>by simp at h1
 |_::_,[],_,_,_,_,h,_,h2=>by simp at h2
 |d::ds,f::fs,bs,j,d',f',h,h1,h2=>by
  unfold prs at h
  cases z:e d f with
  |none=>rw [z]at h;cases h
  |some k=>
   rw [z]at h
   cases z2:prs e ds fs with
   |none=>simp [z2]at h
   |some cs=>
    simp [z2]at h
    subst h
    cases j with
    |zero=>simp at h1 h2;subst h1 h2;simpa using z
    |succ j=>simpa using zUW z2 (by simpa using h1) (by simpa using h2)
theorem range_all{bs:List Bool}{n:Nat}(h:bs.length=n):(List.range n).all (λj=>bs.getD j true)=bs.all id:=by
 subst h
 rw [Bool.eq_iff_iff,all_eq_true,all_eq_true]
 constructor
 ·intro h x hx
  obtain⟨i,hi,rfl⟩:=getElem_of_mem hx
  have:=h i (mem_range.mpr hi)
  simpa [getD_eq_getElem?_getD,hi]using this
 ·intro h i hi
  have hi':=mem_range.mp hi
  have:=h bs[i] (getElem_mem hi')
  simpa [getD_eq_getElem?_getD,hi']using this
variable{pins:List (Addr×Obj)}{σ:St}{s:Shared}
theorem zKY(I:Inv X pins σ H s){a:Addr}{xs ys:List V}(h:SqL X.K H a xs)(h':SqT X.K H a ys):False:=by
 obtain⟨_,_,pl,_⟩:=I.list h
 obtain⟨_,_,pt,_⟩:=I.tuple h'
 obtain⟨o,n,e,c,_,_⟩:=pl
 obtain⟨o',e',c',_⟩:=pt
 rw [e]at e'
 cases e'
 rw [c]at c'
 exact absurd c' (by simp)
theorem yHY(I:Inv X pins σ H s)(wd:Wd X.g α S H){e:MV->MV->Option Bool}(he: ∀d f v k,Den X.K α H d v->Den X.K α H f v->e d f=some k->k=true){a b:Er}{x:V}{p q:Vw}{k:Bool}
  (ha:vwE S a=some p) (hb:vwE S b=some q) (da:DenX X.K α H a x) (db:DenX X.K α H b x) (h:eqW e p q=some k):k=true:=by
 have hp: ∀{ds es:List MV}{vs:List V}{bs:List Bool},DenL X.K α H ds vs->DenL X.K α H es vs->prs e ds es=some bs->bs.all id=true:=by
  intro ds es vs bs l1 l2 z
  rw [all_eq_true]
  intro k hk
  obtain⟨i,hi,rfl⟩:=getElem_of_mem hk
  have hl:=zIX z
  have h1:i<ds.length:=by omega
  have h2:i<es.length:=by omega
  obtain⟨v,g1,g2⟩:=l1.at (gE0 h1)
  obtain⟨v',g3,g4⟩:=l2.at (gE0 h2)
  rw [g1]at g3;cases g3
  have:=he _ _ _ _ g2 g4 (zUW z (gE0 h1) (gE0 h2))
  simpa [getD_eq_getElem?_getD,hi]using this
 cases p with
 |fl y=>
  obtain⟨rfl,f1⟩:=zGE ha da
  cases q with
  |fl z=>obtain⟨rfl,f2⟩:=zGE hb db;cases h;exact yHM f1
  |tp ds=>obtain⟨a,vs,rfl,_⟩:=zGF hb db;exact absurd (show false=true from f1) xF0
  |ls ds=>obtain⟨a,vs,rfl,_⟩:=zGG wd hb db;exact absurd (show false=true from f1) xF0
 |tp ds=>
  obtain⟨a1,vs,rfl,s1,l1⟩:=zGF ha da
  cases q with
  |fl z=>obtain⟨rfl,f2⟩:=zGE hb db;exact absurd (show false=true from f2) xF0
  |tp es=>
   obtain⟨a2,us,e2,s2,l2⟩:=zGF hb db
   cases e2
   cases I.tuple_inj s1 s2
   rw [yAW]at h
   cases z:prs e ds es with
   |none=>rw [z]at h;cases h
   |some bs=>
    rw [z]at h
    cases h
    show(bs.all id&&ds.length==es.length)=true
    rw [hp l1 l2 z, <-l1.length, <-l2.length];simp
  |ls es=>obtain⟨a2,us,e2,s2,l2⟩:=zGG wd hb db;cases e2;exact(zKY I s2 s1).elim
 |ls ds=>
  obtain⟨a1,vs,rfl,s1,l1⟩:=zGG wd ha da
  cases q with
  |fl z=>obtain⟨rfl,f2⟩:=zGE hb db;exact absurd (show false=true from f2) xF0
  |tp es=>obtain⟨a2,us,e2,s2,l2⟩:=zGF hb db;cases e2;exact(zKY I s1 s2).elim
  |ls es=>
   obtain⟨a2,us,e2,s2,l2⟩:=zGG wd hb db
   cases e2
   cases I.list_inj s1 s2
   rw [zUV]at h
   rw [iP (by rw [<-l1.length, <-l2.length])]at h
   cases z:prs e ds es with
   |none=>rw [z]at h;cases h
   |some bs=>rw [z]at h;cases h;exact hp l1 l2 z
theorem zPY(I:Inv X pins σ H s)(wd:Wd X.g α S H): ∀(n:Nat)(d f:MV)(v:V)(k:Bool),Den X.K α H d v->Den X.K α H f v->eqv S n d f=some k->k=true
 |0,_,_,_,_,_,_,h=>by cases h
 |n+1,d,f,v,k,h1,h2,h=>by
  unfold eqv at h
  cases za:vwE S (.val d)with
  |none=>rw [za]at h;cases h
  |some p=>
   cases zb:vwE S (.val f)with
   |none=>rw [za,zb]at h;cases h
   |some q=>
    rw [za,zb]at h
    exact yHY I wd (zPY I wd n) za zb (a:=.val d) (b:=.val f) h1 h2 h
theorem zKZ{e:MV->MV->Option Bool}{A:Around}(he: ∀d f x y u v k,Den X.K α H d x->Den X.K α H f y->RelV x u->RelV y v->e d f=some k->SeqAt.EqAt A s u v k)
  {ds es:List MV} {vs us:List V} {its its2:List Value} {bs:List Bool} (l1:DenL X.K α H ds vs) (l2:DenL X.K α H es us) (r1:Vals vs its) (r2:Vals us its2) (z:prs e ds es=some bs):
  ∀j (h1:j<its.toArray.size) (h2:j<its2.toArray.size),SeqAt.EqAt A s its.toArray[j] its2.toArray[j] (bs.getD j true):=by
 intro j h1 h2
 have g1:j<vs.length:=by rw [r1.length];simpa using h1
 have g2:j<us.length:=by rw [r2.length];simpa using h2
 obtain⟨d,d1,d2⟩:=l1.get (gE0 g1)
 obtain⟨f,f1,f2⟩:=l2.get (gE0 g2)
 obtain⟨u,u1,u2⟩:=r1.get (gE0 g1)
 obtain⟨v,v1,v2⟩:=r2.get (gE0 g2)
 have e1:its.toArray[j]=u:=by
  have:its[j]? =some (its[j]'(by simpa using h1)):=gE0 _
  rw [u1]at this
  simpa using(Option.some.inj this).symm
 have e2:its2.toArray[j]=v:=by
  have:its2[j]? =some (its2[j]'(by simpa using h2)):=gE0 _
  rw [v1]at this
  simpa using(Option.some.inj this).symm
 rw [e1,e2]
 exact he d f _ _ u v _ d2 f2 u2 v2 (zUW z d1 f1)
theorem zUX(I:Inv X pins σ H s)(wd:Wd X.g α S H): ∀(n:Nat)(A:Around)(d f:MV)(x y:V)(u v:Value)(k:Bool),A.units+n<cLine->Den X.K α H d x->Den X.K α H f y->RelV x u->RelV y v->eqv S n d f=some k->SeqAt.EqAt A s u v k
 |0,_,_,_,_,_,_,_,_,_,_,_,_,_,h=>by cases h
 |n+1,A,d,f,x,y,u,v,k,hu,h1,h2,rx,ry,h=>by
  have hu0:A.units<cLine:=by omega
  have hsame:=h
  unfold eqv at h
  cases za:vwE S (.val d)with
  |none=>rw [za]at h;cases h
  |some p=>
   cases zb:vwE S (.val f)with
   |none=>rw [za,zb]at h;cases h
   |some q=>
    rw [za,zb]at h
    have h:eqW (eqv S n) p q=some k:=h
    have he:=λd f x y u v k a b c d' e=>zUX I wd n A.in1 d f x y u v k (show A.units+1+n<cLine by omega) a b c d' e
    cases p with
    |fl x'=>
     obtain⟨rfl,fx⟩:=zGE za (α:=α) (H:=H) (X:=X) h1
     cases q with
     |fl y'=>obtain⟨rfl,fy⟩:=zGE zb (α:=α) (H:=H) (X:=X) h2;cases h;exact yQM rx ry fx fy
     |tp es=>
      obtain⟨b,us,rfl,s2,l2⟩:=zGF zb (α:=α) (H:=H) (X:=X) h2
      cases ry;cases h
      obtain⟨its,_,pt,_⟩:=I.tuple s2
      exact yOS rx fx pt hu0
     |ls es=>
      obtain⟨b,us,rfl,s2,l2⟩:=zGG wd zb h2
      cases ry;cases h
      obtain⟨its,_,pl,_⟩:=I.list s2
      exact eq_lr rx fx pl.isList hu0
    |tp ds=>
     obtain⟨a,vs,rfl,s1,l1⟩:=zGF za (α:=α) (H:=H) (X:=X) h1
     cases rx
     obtain⟨its,r1,pt,_⟩:=I.tuple s1
     cases q with
     |fl y'=>obtain⟨rfl,fy⟩:=zGE zb (α:=α) (H:=H) (X:=X) h2;cases h;exact yOR ry fy pt hu0
     |tp es=>
      obtain⟨b,us,rfl,s2,l2⟩:=zGF zb (α:=α) (H:=H) (X:=X) h2
      cases ry
      by_cases hab:a=b
      ·subst hab
       rw [zPY I wd (n+1) d f _ k h1 h2 hsame]
       exact SeqAt.EqAt.same _
      ·obtain⟨its2,r2,pt2,_⟩:=I.tuple s2
       rw [yAW]at h
       cases z:prs (eqv S n) ds es with
       |none=>rw [z]at h;cases h
       |some bs=>
        rw [z]at h
        cases h
        have:=SeqAt.RcAt.tuples pt pt2 hu0 (zKZ he l1 l2 r1 r2 z)
        have hl:=zIX z
        rw [range_all (by rw [hl];simp [<-r1.length, <-r2.length,l1.length,l2.length])]at this
        have e3:(its.toArray.size==its2.toArray.size)=(ds.length==es.length):=by simp [<-r1.length, <-r2.length,l1.length,l2.length]
        rw [e3]at this
        exact SeqAt.EqAt.of_refs hab this
     |ls es=>
      obtain⟨b,us,rfl,s2,l2⟩:=zGG wd zb h2
      cases ry;cases h
      obtain⟨its2,_,pl,_⟩:=I.list s2
      exact SeqAt.EqAt.tuple_list pt pl.isList hu0
    |ls ds=>
     obtain⟨a,vs,rfl,s1,l1⟩:=zGG wd za h1
     cases rx
     obtain⟨its,r1,pl,_⟩:=I.list s1
     cases q with
     |fl y'=>obtain⟨rfl,fy⟩:=zGE zb (α:=α) (H:=H) (X:=X) h2;cases h;exact eq_ll ry fy pl.isList hu0
     |tp es=>
      obtain⟨b,us,rfl,s2,l2⟩:=zGF zb (α:=α) (H:=H) (X:=X) h2
      cases ry;cases h
      obtain⟨its2,_,pt,_⟩:=I.tuple s2
      exact SeqAt.EqAt.list_tuple pl.isList pt hu0
     |ls es=>
      obtain⟨b,us,rfl,s2,l2⟩:=zGG wd zb h2
      cases ry
      by_cases hab:a=b
      ·subst hab
       rw [zPY I wd (n+1) d f _ k h1 h2 hsame]
       exact SeqAt.EqAt.same _
      ·obtain⟨its2,r2,pl2,_⟩:=I.list s2
       rw [zUV]at h
       by_cases hl:ds.length=es.length
       ·rw [iP hl]at h
        cases z:prs (eqv S n) ds es with
        |none=>rw [z]at h;cases h
        |some bs=>
         rw [z]at h
         cases h
         have hs:its.toArray.size=its2.toArray.size:=by simp [<-r1.length, <-r2.length,l1.length,l2.length,hl]
         have:=SeqAt.RcAt.lists pl.isList pl2.isList hs hu0 (zKZ he l1 l2 r1 r2 z)
         have hl':=zIX z
         rw [range_all (by rw [hl'];simp [<-r1.length,l1.length,hl])]at this
         exact SeqAt.EqAt.of_refs hab this
       ·rw [iN hl]at h
        cases h
        exact SeqAt.EqAt.of_refs hab (SeqAt.RcAt.lists_lengths pl.isList pl2.isList (by simpa [<-r1.length, <-r2.length,l1.length,l2.length]using hl) hu0)
theorem yOU{RC:Around->Shared->Value->Value->Bool->Prop}{tr:Bool->Bool}{A:Around}
  (hff: ∀x y u v,RelV x u->RelV y v->wV x=true->wV y=true->RC A s u v (tr (eqV x y)))
  (hfl: ∀x v l items,RelV x v->wV x=true->s.heap.IsList l items->A.units<cLine->RC A s v (.ref l) (tr false)/\RC A s (.ref l) v (tr false))
  (hft: ∀x v l items,RelV x v->wV x=true->s.heap.IsTuple l items->A.units<cLine->RC A s v (.ref l) (tr false)/\RC A s (.ref l) v (tr false))
  (hlt: ∀l b items items2,s.heap.IsList l items->s.heap.IsTuple b items2->A.units<cLine->RC A s (.ref l) (.ref b) (tr false)/\RC A s (.ref b) (.ref l) (tr false))
  (htt: ∀(l b:Addr)(items items2:Array Value)(e:Nat->Bool),s.heap.IsTuple l items->s.heap.IsTuple b items2->A.units<cLine->(∀j (h1:j<items.size) (h2:j<items2.size),SeqAt.EqAt A.in1 s items[j] items2[j] (e j))->RC A s (.ref l) (.ref b) (tr ((List.range (min items.size items2.size)).all e&&items.size==items2.size)))
  (hll: ∀(l b:Addr)(items items2:Array Value)(e:Nat->Bool),s.heap.IsList l items->s.heap.IsList b items2->items.size=items2.size->A.units<cLine->(∀j (h1:j<items.size) (h2:j<items2.size),SeqAt.EqAt A.in1 s items[j] items2[j] (e j))->RC A s (.ref l) (.ref b) (tr ((List.range items.size).all e)))
  (hln: ∀(l b:Addr)(items items2:Array Value),s.heap.IsList l items->s.heap.IsList b items2->(items.size !=items2.size)=true->A.units<cLine->RC A s (.ref l) (.ref b) (tr false))
  (I:Inv X pins σ H s) (wd:Wd X.g α S H) (n:Nat) {a b:Er} {x y:V} {u v:Value} {k:Bool} (hu:A.units+(n+1)<cLine) (h1:DenX X.K α H a x) (h2:DenX X.K α H b y) (rx:RelV x u) (ry:RelV y v) (h:zMI S n a b=some k):RC A s u v (tr k):=by
 have hu0:A.units<cLine:=by omega
 unfold zMI at h
 cases za:vwE S a with
 |none=>rw [za]at h;cases h
 |some p=>
  cases zb:vwE S b with
  |none=>rw [za,zb]at h;cases h
  |some q=>
   rw [za,zb]at h
   have h:eqW (eqv S n) p q=some k:=h
   have he:=λd f x y u v k a b c d' e=>zUX I wd n A.in1 d f x y u v k (show A.units+1+n<cLine by omega) a b c d' e
   cases p with
   |fl x'=>
    obtain⟨rfl,fx⟩:=zGE za h1
    cases q with
    |fl y'=>obtain⟨rfl,fy⟩:=zGE zb h2;cases h;exact hff _ _ _ _ rx ry fx fy
    |tp es=>
     obtain⟨b,us,rfl,s2,l2⟩:=zGF zb h2
     cases ry;cases h
     obtain⟨its,_,pt,_⟩:=I.tuple s2
     exact(hft _ _ _ _ rx fx pt hu0).1
    |ls es=>
     obtain⟨b,us,rfl,s2,l2⟩:=zGG wd zb h2
     cases ry;cases h
     obtain⟨its,_,pl,_⟩:=I.list s2
     exact(hfl _ _ _ _ rx fx pl.isList hu0).1
   |tp ds=>
    obtain⟨a,vs,rfl,s1,l1⟩:=zGF za h1
    cases rx
    obtain⟨its,r1,pt,_⟩:=I.tuple s1
    cases q with
    |fl y'=>obtain⟨rfl,fy⟩:=zGE zb h2;cases h;exact(hft _ _ _ _ ry fy pt hu0).2
    |tp es=>
     obtain⟨b,us,rfl,s2,l2⟩:=zGF zb h2
     cases ry
     obtain⟨its2,r2,pt2,_⟩:=I.tuple s2
     rw [yAW]at h
     cases z:prs (eqv S n) ds es with
     |none=>rw [z]at h;cases h
     |some bs=>
      rw [z]at h
      cases h
      have:=htt _ _ _ _ _ pt pt2 hu0 (zKZ he l1 l2 r1 r2 z)
      have hl:=zIX z
      rw [range_all (by rw [hl];simp [<-r1.length, <-r2.length,l1.length,l2.length])]at this
      have e3:(its.toArray.size==its2.toArray.size)=(ds.length==es.length):=by simp [<-r1.length, <-r2.length,l1.length,l2.length]
      rw [e3]at this
      exact this
    |ls es=>
     obtain⟨b,us,rfl,s2,l2⟩:=zGG wd zb h2
     cases ry;cases h
     obtain⟨its2,_,pl,_⟩:=I.list s2
     exact(hlt _ _ _ _ pl.isList pt hu0).2
   |ls ds=>
    obtain⟨a,vs,rfl,s1,l1⟩:=zGG wd za h1
    cases rx
    obtain⟨its,r1,pl,_⟩:=I.list s1
    cases q with
    |fl y'=>obtain⟨rfl,fy⟩:=zGE zb h2;cases h;exact(hfl _ _ _ _ ry fy pl.isList hu0).2
    |tp es=>
     obtain⟨b,us,rfl,s2,l2⟩:=zGF zb h2
     cases ry;cases h
     obtain⟨its2,_,pt,_⟩:=I.tuple s2
     exact(hlt _ _ _ _ pl.isList pt hu0).1
    |ls es=>
     obtain⟨b,us,rfl,s2,l2⟩:=zGG wd zb h2
     cases ry
     obtain⟨its2,r2,pl2,_⟩:=I.list s2
     rw [zUV]at h
     by_cases hl:ds.length=es.length
     ·rw [iP hl]at h
      cases z:prs (eqv S n) ds es with
      |none=>rw [z]at h;cases h
      |some bs=>
       rw [z]at h
       cases h
       have hs:its.toArray.size=its2.toArray.size:=by simp [<-r1.length, <-r2.length,l1.length,l2.length,hl]
       have:=hll _ _ _ _ _ pl.isList pl2.isList hs hu0 (zKZ he l1 l2 r1 r2 z)
       have hl':=zIX z
       rw [range_all (by rw [hl'];simp [<-r1.length,l1.length,hl])]at this
       exact this
     ·rw [iN hl]at h
      cases h
      exact hln _ _ _ _ pl.isList pl2.isList (by simpa [<-r1.length, <-r2.length,l1.length,l2.length]using hl) hu0
theorem yRA(I:Inv X pins σ H s)(wd:Wd X.g α S H)(n:Nat){A:Around}{a b:Er}{x y:V}{u v:Value}{k:Bool}(hu:A.units+(n+1)<cLine)(h1:DenX X.K α H a x)(h2:DenX X.K α H b y)(rx:RelV x u)(ry:RelV y v)(h:zMI S n a b=some k):SeqAt.RcAt A s u v k:=
 yOU (RC:=SeqAt.RcAt) (tr:=id) (λ_ _ _ _ a b c d=>yQS a b c d) (λ_ _ _ _ a b c d=>⟨rc_lr a b c d,rc_ll a b c d⟩) (λ_ _ _ _ a b c d=>⟨rc_tr a b c d,rc_tl a b c d⟩)
  (λ_ _ _ _ a b c=>⟨SeqAt.RcAt.list_tuple a b c,SeqAt.RcAt.tuple_list b a c⟩) (λ_ _ _ _ _ a b c d=>SeqAt.RcAt.tuples a b c d) (λ_ _ _ _ _ a b c d e=>SeqAt.RcAt.lists a b c d e) (λ_ _ _ _ a b c d=>SeqAt.RcAt.lists_lengths a b c d)
  I wd n hu h1 h2 rx ry h
theorem yRB(I:Inv X pins σ H s)(wd:Wd X.g α S H)(n:Nat){A:Around}{a b:Er}{x y:V}{u v:Value}{k:Bool}(hu:A.units+(n+1)<cLine)(h1:DenX X.K α H a x)(h2:DenX X.K α H b y)(rx:RelV x u)(ry:RelV y v)(h:zMI S n a b=some k):SeqAt.RcNeAt A s u v (!k):=
 yOU (RC:=SeqAt.RcNeAt) (tr:=λb=>!b) (λ_ _ _ _ a b c d=>yQT a b c d) (λ_ _ _ _ a b c d=>⟨rn_lr a b c d,rn_ll a b c d⟩) (λ_ _ _ _ a b c d=>⟨rn_tr a b c d,rn_tl a b c d⟩)
  (λ_ _ _ _ a b c=>⟨SeqAt.RcNeAt.list_tuple a b c,SeqAt.RcNeAt.tuple_list b a c⟩) (λ_ _ _ _ _ a b c d=>SeqAt.RcNeAt.tuples a b c d) (λ_ _ _ _ _ a b c d e=>SeqAt.RcNeAt.lists a b c d e) (λ_ _ _ _ a b c d=>SeqAt.RcNeAt.lists_lengths a b c d)
  I wd n hu h1 h2 rx ry h
theorem yCV{α β:Type}: ∀{a c:List α}{b d:List β},a.length=b.length->c.length=d.length->a.zip b=c.zip d->a=c/\b=d
 |[],[],[],[],_,_,_=>⟨rfl,rfl⟩
 |[],_::_,[],_::_,_,_,e=>by simp at e
 |_::_,[],_::_,[],_,_,e=>by simp at e
 |x::a,y::c,z::b,w::d,h1,h2,e=>by
  simp only [zip_cons_cons,List.cons.injEq,Prod.mk.injEq]at e
  obtain⟨rfl,rfl⟩:=yCV (by simpa using h1) (by simpa using h2) e.2
  exact⟨by rw [e.1.1],by rw [e.1.2]⟩
mutual
theorem Den.inj(I:Inv X pins σ H s)(wd:Wd X.g α S H): ∀{d f:MV}{v:V},Den X.K α H d v->Den X.K α H f v->d=f
 |.non,f,v,h,h'=>by cases zAI h;cases f<;>first |rfl|(have:=zEE h';cases this;done)|(have:=jK h';cases this;done)|(have:=jL h';cases this;done)|(have:=dU h';cases this;done)|(obtain⟨_,_,e,_⟩:=kH h';cases e;done)|(obtain⟨_,_,e,_⟩:=cB h';cases e;done)|(obtain⟨_,e,_⟩:=gU h';cases e;done)|(obtain⟨_,_,_,_,_,e,_⟩:=cA h';cases e;done)
 |.bl b,f,v,h,h'=>by cases zEE h;cases f<;>first |(have:=zEE h';cases this;rfl;done)|(have:=zAI h';cases this;done)|(have:=jK h';cases this;done)|(have:=jL h';cases this;done)|(have:=dU h';cases this;done)|(obtain⟨_,_,e,_⟩:=kH h';cases e;done)|(obtain⟨_,_,e,_⟩:=cB h';cases e;done)|(obtain⟨_,e,_⟩:=gU h';cases e;done)|(obtain⟨_,_,_,_,_,e,_⟩:=cA h';cases e;done)
 |.int b,f,v,h,h'=>by cases jK h;cases f<;>first |(have:=jK h';cases this;rfl;done)|(have:=zAI h';cases this;done)|(have:=zEE h';cases this;done)|(have:=jL h';cases this;done)|(have:=dU h';cases this;done)|(obtain⟨_,_,e,_⟩:=kH h';cases e;done)|(obtain⟨_,_,e,_⟩:=cB h';cases e;done)|(obtain⟨_,e,_⟩:=gU h';cases e;done)|(obtain⟨_,_,_,_,_,e,_⟩:=cA h';cases e;done)
 |.str b,f,v,h,h'=>by cases jL h;cases f<;>first |(have:=jL h';rw [zUN (V.str.inj this)];done)|(have:=zAI h';cases this;done)|(have:=zEE h';cases this;done)|(have:=jK h';cases this;done)|(have:=dU h';cases this;done)|(obtain⟨_,_,e,_⟩:=kH h';cases e;done)|(obtain⟨_,_,e,_⟩:=cB h';cases e;done)|(obtain⟨_,e,_⟩:=gU h';cases e;done)|(obtain⟨_,_,_,_,_,e,_⟩:=cA h';cases e;done)
 |.typ b,f,v,h,h'=>by cases dU h;cases f<;>first |(have:=dU h';cases this;rfl;done)|(have:=zAI h';cases this;done)|(have:=zEE h';cases this;done)|(have:=jK h';cases this;done)|(have:=jL h';cases this;done)|(obtain⟨_,_,e,_⟩:=kH h';cases e;done)|(obtain⟨_,_,e,_⟩:=cB h';cases e;done)|(obtain⟨_,e,_⟩:=gU h';cases e;done)|(obtain⟨_,_,_,_,_,e,_⟩:=cA h';cases e;done)
 |.tup ds,f,v,h,h'=>by
  obtain⟨a,vs,rfl,s1,l1⟩:=kH h
  cases f with
  |tup es=>
   obtain⟨a2,us,e2,s2,l2⟩:=kH h'
   cases e2
   cases I.tuple_inj s1 s2
   rw [DenL.inj I wd l1 l2]
  |scr es=>obtain⟨a2,us,e2,s2,l2⟩:=cB h';cases e2;exact(zKY I s2.l s1).elim
  |loc l=>
   obtain⟨a2,e2,h2⟩:=gU h'
   cases e2
   obtain⟨ho,k1,k2,k3⟩:=wd.mem (mem_of_getElem? h2)
   rcases s1 with(s1|⟨o,s1⟩)|⟨o,its,n,s1,_⟩
   ·rw [k1]at s1;exact absurd (Option.some.inj s1) (k2 _)
   ·rw [k1]at s1;exact absurd (Option.some.inj s1) (k3 _ _)
   ·have:=(I.bs a o (I.mod.kin a o s1)).2;rw [k1]at this;cases this
  |non=>cases zAI h'
  |bl b=>cases zEE h'
  |int b=>cases jK h'
  |str b=>cases jL h'
  |typ b=>cases dU h'
  |obj c ns es=>
   obtain⟨a2,C,dx,us,o2,e2,h2,_⟩:=cA h'
   cases e2
   rcases s1 with(s1|⟨o,s1⟩)|⟨o,its,n,s1,_⟩
   ·rw [h2]at s1;cases s1
   ·rw [h2]at s1;cases s1
   ·have:=(I.bs a o (I.mod.kin a o s1)).2;rw [h2]at this;cases this
 |.scr ds,f,v,h,h'=>by
  obtain⟨a,vs,rfl,s1,l1⟩:=cB h
  cases f with
  |scr es=>
   obtain⟨a2,us,e2,s2,l2⟩:=cB h'
   cases e2
   cases I.list_inj s1.l s2.l
   rw [DenL.inj I wd l1 l2]
  |tup es=>obtain⟨a2,us,e2,s2,l2⟩:=kH h';cases e2;exact(zKY I s1.l s2).elim
  |loc l=>
   obtain⟨a2,e2,h2⟩:=gU h'
   cases e2
   obtain⟨ho,k1,k2,k3⟩:=wd.mem (mem_of_getElem? h2)
   rcases s1 with⟨o,s1⟩|⟨o,its,n,s1,_⟩
   ·rw [k1]at s1;exact absurd (Option.some.inj s1) (k3 _ _)
   ·have:=(I.bs a o (I.mod.kin a o s1)).2;rw [k1]at this;cases this
  |non=>cases zAI h'
  |bl b=>cases zEE h'
  |int b=>cases jK h'
  |str b=>cases jL h'
  |typ b=>cases dU h'
  |obj c ns es=>
   obtain⟨a2,C,dx,us,o2,e2,h2,_⟩:=cA h'
   cases e2
   rcases s1 with⟨o,s1⟩|⟨o,its,n,s1,_⟩
   ·rw [h2]at s1;cases s1
   ·have:=(I.bs a o (I.mod.kin a o s1)).2;rw [h2]at this;cases this
 |.loc l,f,v,h,h'=>by
  obtain⟨a,rfl,h1⟩:=gU h
  obtain⟨ho,k1,k2,k3⟩:=wd.mem (mem_of_getElem? h1)
  cases f with
  |loc m=>
   obtain⟨a2,e2,h2⟩:=gU h'
   cases e2
   by_cases hlm:l=m
   ·rw [hlm]
   ·exact absurd rfl (wd.ne h1 h2 hlm)
  |tup es=>
   obtain⟨a2,us,e2,s1,l2⟩:=kH h'
   cases e2
   rcases s1 with(s1|⟨o,s1⟩)|⟨o,its,n,s1,_⟩
   ·rw [k1]at s1;exact absurd (Option.some.inj s1) (k2 _)
   ·rw [k1]at s1;exact absurd (Option.some.inj s1) (k3 _ _)
   ·have:=(I.bs a o (I.mod.kin a o s1)).2;rw [k1]at this;cases this
  |scr es=>
   obtain⟨a2,us,e2,s1,l2⟩:=cB h'
   cases e2
   rcases s1 with⟨o,s1⟩|⟨o,its,n,s1,_⟩
   ·rw [k1]at s1;exact absurd (Option.some.inj s1) (k3 _ _)
   ·have:=(I.bs a o (I.mod.kin a o s1)).2;rw [k1]at this;cases this
  |non=>cases zAI h'
  |bl b=>cases zEE h'
  |int b=>cases jK h'
  |str b=>cases jL h'
  |typ b=>cases dU h'
  |obj c ns es=>
   obtain⟨a2,C,dx,us,o2,e2,h2,_⟩:=cA h'
   cases e2
   rw [k1]at h2;exact absurd (Option.some.inj h2) (k3 _ _)
 |.obj c ns ds,f,v,h,h'=>by
  obtain⟨a,C,dx,us,o2,rfl,h2,hn,hc,hl,l1⟩:=cA h
  cases f with
  |obj c' ns' es=>
   obtain⟨a2,C2,dx2,us2,o3,e2,h3,hn2,hc2,hl2,l2⟩:=cA h'
   cases e2
   rw [h2]at h3
   injection h3 with h3
   injection h3 with _ h3
   injection h3 with e1 e2 e3
   subst e1
   rw [hc]at hc2
   cases hc2
   obtain⟨rfl,rfl⟩:=yCV hl hl2 e3
   rw [DenL.inj I wd l1 l2]
  |tup es=>
   obtain⟨a2,us,e2,s1,l2⟩:=kH h'
   cases e2
   rcases s1 with(s1|⟨o,s1⟩)|⟨o,its,n,s1,_⟩
   ·rw [h2]at s1;cases s1
   ·rw [h2]at s1;cases s1
   ·have:=(I.bs a o (I.mod.kin a o s1)).2;rw [h2]at this;cases this
  |scr es=>
   obtain⟨a2,us,e2,s1,l2⟩:=cB h'
   cases e2
   rcases s1 with⟨o,s1⟩|⟨o,its,n,s1,_⟩
   ·rw [h2]at s1;cases s1
   ·have:=(I.bs a o (I.mod.kin a o s1)).2;rw [h2]at this;cases this
  |loc l=>
   obtain⟨a2,e2,h1⟩:=gU h'
   cases e2
   obtain⟨ho,k1,k2,k3⟩:=wd.mem (mem_of_getElem? h1)
   rw [k1]at h2;exact absurd (Option.some.inj h2) (k3 _ _)
  |non=>cases zAI h'
  |bl b=>cases zEE h'
  |int b=>cases jK h'
  |str b=>cases jL h'
  |typ b=>cases dU h'
theorem DenL.inj(I:Inv X pins σ H s)(wd:Wd X.g α S H): ∀{ds fs:List MV}{vs:List V},DenL X.K α H ds vs->DenL X.K α H fs vs->ds=fs
 |[],fs,vs,h,h'=>by
  cases h.isnil
  cases fs with
  |nil=>rfl
  |cons f fs=>obtain⟨_,_,e,_⟩:=h'.uncons;cases e
 |d::ds,fs,vs,h,h'=>by
  obtain⟨v,r,rfl,a,l⟩:=h.uncons
  cases fs with
  |nil=>cases h'.isnil
  |cons f fs=>
   obtain⟨v',r',e,a',l'⟩:=h'.uncons
   cases e
   rw [Den.inj I wd a a',DenL.inj I wd l l']
end
end
inductive LexR(A:Around)(s:Shared):List Value->List Value->Bool->Prop
 |nn:LexR A s [] [] false
 |nc (x xs):LexR A s [] (x::xs) true
 |cn (y ys):LexR A s (y::ys) [] false
 |eq {y x ys xs k}:SeqAt.EqAt A s y x true->LexR A s ys xs k->LexR A s (y::ys) (x::xs) k
 |ne {y x ys xs k}:SeqAt.EqAt A s y x false->(∀(prog:Program)(w:World)(E Q:Value->Shared->Prop),Q (.bool k) s->wpAny (model prog w) A (richCompare .Lt y x) Q E s)->LexR A s (y::ys) (x::xs) k
section
open PySem.SeqAt
open PySem.AutoSeq1 (wpAny_loadPart')
open PySem.MeetsSeq PySem.MeetsSeq2 PySem.MeetsSeq3
theorem yAX(l b:Addr)(its its2:Array Value)(n n2:Nat)(dd dd2:Option Addr)(sl sl2:Array (Option Value))(k:Bool):
  Meets (Builtin.«tuple.__lt__» ⟨[.ref l,.ref b],[]⟩)
   (λA R s=>s.heap.get? l=some {cls:=.type "tuple",dict:=dd,data:=.seq its n,slots:=sl}/\s.heap.get? b=some {cls:=.type "tuple",dict:=dd2,data:=.seq its2 n2,slots:=sl2}/\
    LexR A.in1 s its.toList its2.toList k/\R (.ok (.ret (.bool k))) s):=
 .of_wp λprog w A R s h=>by
  obtain⟨hp,g,d,tk,os⟩:=s;obtain⟨hl,hb,hx,h⟩:=h
  have f2:=AutoSeq1.sub_tuple_tuple
  wp_walk using wpAny_loadPart' hl,wpAny_loadPart' hb,wpAny_forIn_list _ (λrest b s'=>b.1=none/\s'=⟨hp,g,d,tk,os⟩/\ ∃(vs ws:List Value),rest=vs.zip ws/\
   LexR A.in1 ⟨hp,g,d,tk,os⟩ vs ws k/\vs.length+its2.size=ws.length+its.size) _
  case turn=>
   rintro⟨y,x⟩ rest b s' ⟨hb',rfl,vs,ws,hz,hlx,hlen⟩
   cases hlx with
   |nn=>rw [List.zip_nil_left]at hz;cases hz
   |nc x xs=>rw [List.zip_nil_left]at hz;cases hz
   |cn y ys=>rw [List.zip_nil_right]at hz;cases hz
   |@eq y' x' ys xs k' he hr=>
    rw [zip_cons_cons]at hz
    injection hz with hyx hrest
    injection hyx with hy hx
    subst hy hx
    simp only [lC]at hlen
    refine wB0 (he prog w _ _ ?_)
    wp_walk
    exact⟨rfl,rfl,_,_,hrest,hr,by omega⟩
   |@ne y' x' ys xs k' he hr=>
    rw [zip_cons_cons]at hz
    injection hz with hyx hrest
    injection hyx with hy hx
    subst hy hx
    refine wB0 (he prog w _ _ ?_)
    have hri:=hr prog w
    wp_walk using hri
    exact⟨_,rfl,by simpa using h⟩
  case fin=>
   rintro⟨b1,b2⟩ s' ⟨hb',rfl,vs,ws,hz,hlx,hlen⟩
   simp only at hb'
   subst hb'
   have hv:k=decide (its.size<its2.size):=by
    cases hlx with
    |nn=>simp only [length_nil]at hlen;exact(dF0 (by omega)).symm
    |nc x xs=>simp only [length_nil,lC]at hlen;exact(dT0 (by omega)).symm
    |cn y ys=>simp only [length_nil,lC]at hlen;exact(dF0 (by omega)).symm
    |eq he hr=>rw [zip_cons_cons]at hz;cases hz
    |ne he hr=>rw [zip_cons_cons]at hz;cases hz
   rw [hv]at h
   wp_walk
   exact⟨_,rfl,by simpa [Builtin.Tuple.tupleCompareSizes]using h⟩
  case h=>
   exact⟨rfl,rfl,its.toList,its2.toList,rfl,hx,by simp;omega⟩
end
theorem yHZ{A:Around}{s:Shared}{l b:Addr}{its its2:Array Value}{k:Bool}(hl:IsTup s.heap l its)(hb:IsTup s.heap b its2)(hx:LexR A.in1 s its.toList its2.toList k)(hu:A.units<cLine)(prog:Program)(w:World)(E Q:Value->Shared->Prop)(h:Q (.bool k) s):
  wpAny (model prog w) A (richCompare .Lt (.ref l) (.ref b)) Q E s:=by
 obtain⟨⟨cls,dd,data,sl⟩,ho,hc,n,hd⟩:=id hl
 obtain⟨⟨cls2,dd2,data2,sl2⟩,ho2,hc2,n2,hd2⟩:=id hb
 simp only at hc hd hc2 hd2
 subst hc hd hc2 hd2
 exact richCompare_meets_room (op:=.Lt) ⟨_,ho,rfl⟩ ⟨_,ho2,rfl⟩ PySem.F.slot_tuple_lt PySem.F.entry_tuple_lt (PySem.F.args_tuple_lt_2 _ _) (yAX l b its its2 n n2 dd dd2 sl sl2 k)
  ⟨ho,ho2,hx,show Value.bool k≠Value.notImplemented/\Q (.bool k) s from⟨(λx=>nomatch x),h⟩⟩ hu
def yIA(e l:MV->MV->Option Bool):List MV->List MV->Option Bool
 |[],[]=>some false
 |[],_::_=>some true
 |_::_,[]=>some false
 |d::ds,f::fs=>(e d f).bind λk=>if k=true then yIA e l ds fs else l d f
def ltv(S:Sto):Nat->MV->MV->Option Bool
 |0,_,_=>none
 |n+1,.int i,.int j=>some (decide (i<j))
 |n+1,.str x,.str y=>some (decide (x<y))
 |n+1,.tup ds,.tup es=>yIA (eqv S n) (ltv S n) ds es
 |_,_,_=>none
section
variable{X:Cx}{α:List Addr}{S:Sto}{H:Hp}{pins:List (Addr×Obj)}{σ:St}{s:Shared}
theorem yOV{A:Around}{e l:MV->MV->Option Bool}(he: ∀d f x y u v k,Den X.K α H d x->Den X.K α H f y->RelV x u->RelV y v->e d f=some k->SeqAt.EqAt A s u v k)
  (hl: ∀d f x y u v k,Den X.K α H d x->Den X.K α H f y->RelV x u->RelV y v->l d f=some k-> ∀(prog:Program)(w:World)(E Q:Value->Shared->Prop),Q (.bool k) s->wpAny (model prog w) A (richCompare .Lt u v) Q E s):
  ∀{ds fs:List MV}{vs us:List V}{its its2:List Value}{k:Bool},DenL X.K α H ds vs->DenL X.K α H fs us->Vals vs its->Vals us its2->yIA e l ds fs=some k->LexR A s its its2 k
 |[],[],_,_,_,_,k,l1,l2,r1,r2,h=>by
  cases l1.isnil;cases l2.isnil;cases r1;cases r2;cases h;exact .nn
 |[],f::fs,_,_,_,_,k,l1,l2,r1,r2,h=>by
  cases l1.isnil
  obtain⟨v,r,rfl,a,l⟩:=l2.uncons
  cases r1
  cases r2 with
  |cons a b=>cases h;exact .nc _ _
 |d::ds,[],_,_,_,_,k,l1,l2,r1,r2,h=>by
  cases l2.isnil
  obtain⟨v,r,rfl,a,l⟩:=l1.uncons
  cases r2
  cases r1 with
  |cons a b=>cases h;exact .cn _ _
 |d::ds,f::fs,_,_,_,_,k,l1,l2,r1,r2,h=>by
  obtain⟨v,r,rfl,a,l1'⟩:=l1.uncons
  obtain⟨v2,r3,rfl,a2,l2'⟩:=l2.uncons
  cases r1 with
  |cons b1 c1=>
   cases r2 with
   |cons b2 c2=>
    unfold yIA at h
    cases z:e d f with
    |none=>rw [z]at h;cases h
    |some kk=>
     rw [z]at h
     have h:(if kk=true then yIA e l ds fs else l d f)=some k:=h
     cases kk with
     |true=>
      rw [iP rfl]at h
      exact .eq (he d f _ _ _ _ _ a a2 b1 b2 z) (yOV he hl l1' l2' c1 c2 h)
     |false=>
      rw [iN xF0]at h
      exact .ne (he d f _ _ _ _ _ a a2 b1 b2 z) (hl d f _ _ _ _ _ a a2 b1 b2 h)
theorem yIB(I:Inv X pins σ H s)(wd:Wd X.g α S H): ∀(n:Nat)(A:Around)(d f:MV)(x y:V)(u v:Value)(k:Bool),A.units+n<cLine->Den X.K α H d x->Den X.K α H f y->RelV x u->RelV y v->ltv S n d f=some k->
  ∀(prog:Program)(w:World)(E Q:Value->Shared->Prop),Q (.bool k) s->wpAny (model prog w) A (richCompare .Lt u v) Q E s
 |0,_,_,_,_,_,_,_,_,_,_,_,_,_,h=>by cases h
 |n+1,A,d,f,x,y,u,v,k,hu,h1,h2,rx,ry,h=>by
  intro prog w E Q hq
  unfold ltv at h
  split at h
  ·cases h
  ·cases h
   cases jK h1;cases jK h2
   obtain⟨t,rfl⟩:=rx
   obtain⟨t',rfl⟩:=ry
   exact(PyProof.Rows.lt_int hq:wpAny (model prog w) A (compareOp .Lt _ _) Q E s)
  ·cases h
   cases jL h1;cases jL h2
   obtain⟨t,rfl⟩:=rx
   obtain⟨t',rfl⟩:=ry
   refine(PySem.P.lt_str ?_:wpAny (model prog w) A (compareOp .Lt _ _) Q E s)
   rw [zKQ,zKQ]
   exact hq
  ·rename_i n' ds es hn
   obtain⟨a,vs,rfl,s1,l1⟩:=kH h1
   obtain⟨b,us,rfl,s2,l2⟩:=kH h2
   cases rx;cases ry
   obtain⟨its,r1,pt,_⟩:=I.tuple s1
   obtain⟨its2,r2,pt2,_⟩:=I.tuple s2
   cases hn
   refine yHZ pt pt2 ?_ (by omega) prog w E Q hq
   exact yOV (λd f x y u v k a b c d' e=>zUX I wd n A.in1 d f x y u v k (show A.units+1+n<cLine by omega) a b c d' e)
    (λd f x y u v k a b c d' e=>yIB I wd n A.in1 d f x y u v k (show A.units+1+n<cLine by omega) a b c d' e) l1 l2 r1 r2 h
  ·cases h
end
section
variable{X:Cx}{W:XW}{a b c e:Expr}{es:List Expr}{f g h:Rho->Sto->R Er}{af:Rho->Sto->R (List Er)}{pos:Pos}
def iiF(C:Int->Int->Prop)[∀i j,Decidable (C i j)](g:Int->Int->Int):Er->Er->Sto->R Er
 |.val (.int i),.val (.int j),S=>if C i j then .ok (.val (.int (g i j))) S else .no
 |_,_,_=>.no
def ibF(g:Int->Int->Bool):Er->Er->Sto->R Er
 |.val (.int i),.val (.int j),S=>.ok (.val (.bl (g i j))) S
 |_,_,_=>.no
theorem zPZ{C C':Int->Int->Prop}[∀i j,Decidable (C i j)]{g:Int->Int->Int}(h: ∀i j,C i j->C' i j):Op2 X W (rI C' λi j=>.int (g i j)) (iiF C g):=by
 intro p q x y α S H Q wd dp dq post
 unfold iiF at post
 split at post
 ·split at post
  ·rename_i hc
   exact⟨_,_,xF dp,xF dq,h _ _ hc,Post.val post wd (kK _)⟩
  ·exact post.elim
 ·exact post.elim
theorem yLS{g:Int->Int->Int}:Op2 X W (rI0 λi j=>.int (g i j)) (iiF (λ_ _=>True) g):=by
 intro p q x y α S H Q wd dp dq post
 unfold iiF at post
 split at post
 ·rw [iP trivial]at post
  exact⟨_,_,xF dp,xF dq,Post.val post wd (kK _)⟩
 ·exact post.elim
theorem yIC{g:Int->Int->Bool}:Op2 X W (rI0 λi j=>.bl (g i j)) (ibF g):=by
 intro p q x y α S H Q wd dp dq post
 unfold ibF at post
 split at post
 ·exact⟨_,_,xF dp,xF dq,Post.val post wd (gT _)⟩
 ·exact post.elim
abbrev yID:=iiF (λ_ _=>True) λi j=>i - j
theorem yAY(ha:PEm X W a f)(hb:PEm X W b g):PEm X W (.BinOp a .Sub b pos) (λρ S=>(f ρ S).bind λp S1=>(g ρ S1).bind λq S2=>yID p q S2):=zNS yQA yLS ha hb
def yEY(_ j:Int):Prop:=0<j/\j.natAbs.log2<9000
instance(i j:Int):Decidable (yEY i j):=inferInstanceAs (Decidable (_/\_))
abbrev zXS:=iiF yEY λi j=>i / j
theorem yIE:OpR X (binaryOp .FloorDiv) (rI yEY λi j=>.int (i / j)):=opI λi j _ _ _ _ _ hc q=>by
 have e:i.fdiv j=i / j:=Int.fdiv_eq_ediv_of_nonneg i (Int.le_of_lt hc.1)
 refine floordiv_int (by have:=hc.1;omega) ?_ (.inl (PyProof.noPylong_of_log2 hc.2))
 rw [e]
 exact q
theorem yAZ(ha:PEm X W a f)(hb:PEm X W b g):PEm X W (.BinOp a .FloorDiv b pos) (λρ S=>(f ρ S).bind λp S1=>(g ρ S1).bind λq S2=>zXS p q S2):=zNS yIE (zPZ λi j h=>h) ha hb
abbrev zQA:=iiF (λ_ j=>0<j) λi j=>i % j
theorem zEV(ha:PEm X W a f)(hb:PEm X W b g):PEm X W (.BinOp a .Mod b pos) (λρ S=>(f ρ S).bind λp S1=>(g ρ S1).bind λq S2=>zQA p q S2):=zNS yQB (zPZ λi j h=>h) ha hb
def powC(i j:Int):Prop:=0<=j/\(Builtin.Int.intBits i:Int) * j<=2 ^ 27
instance(i j:Int):Decidable (powC i j):=inferInstanceAs (Decidable (_/\_))
abbrev powF:=iiF powC λi j=>i ^ j.toNat
theorem yLT:OpR X (binaryOp .Pow) (rI powC λi j=>.int (i ^ j.toNat)):=opI λ_ _ _ _ _ _ _ hc q=>pow_int hc.1 hc.2 q
theorem yIF(ha:PEm X W a f)(hb:PEm X W b g):PEm X W (.BinOp a .Pow b pos) (λρ S=>(f ρ S).bind λp S1=>(g ρ S1).bind λq S2=>powF p q S2):=zNS yLT (zPZ λi j h=>h) ha hb
def shlC(i j:Int):Prop:=0<=j/\j<=1000000/\i.natAbs<2 ^ 64
instance(i j:Int):Decidable (shlC i j):=inferInstanceAs (Decidable (_/\_/\_))
abbrev shlF:=iiF shlC λi j=>i * 2 ^ j.toNat
theorem yRC(ha:PEm X W a f)(hb:PEm X W b g):PEm X W (.BinOp a .LShift b pos) (λρ S=>(f ρ S).bind λp S1=>(g ρ S1).bind λq S2=>shlF p q S2):=zNS yQC (zPZ λi j h=>h) ha hb
def usubF:Er->Sto->R Er
 |.val (.int i),S=>.ok (.val (.int (-i))) S
 |_,_=>.no
def lsW(S:Sto):Er->Option (List MV)
 |.new ds=>some ds
 |.val (.loc l)=>match S[l]? with
  |some (.lst ds)=>some ds
  |_=>none
 |_=>none
theorem yBA{α:List Addr}{S:Sto}{H:Hp}(wd:Wd X.g α S H){r:Er}{ds:List MV}{x:V}(e:lsW S r=some ds)(d:DenX X.K α H r x): ∃a vs,x=.ref a/\H a=some (.lst vs)/\DenL X.K α H ds vs:=by
 unfold lsW at e
 split at e
 ·cases e
  obtain⟨b,vs,rfl,h,_,l⟩:=d
  exact⟨b,vs,rfl,h,l⟩
 ·rename_i n
  obtain⟨a,rfl,h⟩:=zGY d
  split at e
  ·rename_i es hS
   cases e
   obtain⟨vs,h1,l⟩:=wd.obj n a _ h hS
   exact⟨a,vs,rfl,h1,l⟩
  ·cases e
 ·cases e
def yOW(p q:Er)(S:Sto):R Er:=match lsW S p,lsW S q with
 |some x,some y=>if x.length+y.length<=sizeLine then .ok (.new (x++y)) S else .no
 |_,_=>.no
def jM:Er->Er->Sto->R Er
 |.val (.int i),.val (.int j),S=>.ok (.val (.int (i+j))) S
 |.val (.str x),.val (.str y),S=>if x.length+y.length<=sizeLine then .ok (.val (.str (x++y))) S else .no
 |.val (.tup x),.val (.tup y),S=>if x.length+y.length<=sizeLine then .ok (.val (.tup (x++y))) S else .no
 |p,q,S=>yOW p q S
theorem yIG:OpR X (binaryOp .Add) (λx y H Q=> ∃a b ys,x=.ref a/\y=.ref b/\SqT X.K H a []/\SqT X.K H b ys/\Q (.ref b) H):=by
 intro pins s σ H x y v u Q I rx ry h
 obtain⟨a,b,ys,rfl,rfl,ha,hb,q⟩:=h
 cases rx
 cases ry
 obtain⟨its,r1,p1,_⟩:=I.tuple ha
 obtain⟨its2,r2,p2,_⟩:=I.tuple hb
 have e0:its=[]:=r1.nil_iff.mpr rfl
 subst e0
 obtain⟨⟨cls,dd,data,sl⟩,ho,hc,n,hd⟩:=id p1
 obtain⟨⟨cls2,dd2,data2,sl2⟩,ho2,hc2,n2,hd2⟩:=id p2
 simp only at hc hd hc2 hd2
 subst hc hd hc2 hd2
 exact concat_meets ⟨_,ho,rfl⟩ ⟨_,ho2,rfl⟩ noFill_tuple_add seq_tuple_add PySem.F.slot_tuple_add PySem.F.entry_tuple_add (PySem.F.args_tuple_add_2 _ _)
  (tuple_addW0 a b _ _ n n2 dd dd2 sl sl2 rfl) ⟨ho,ho2,⟨.ref b,H,I,rfl,q⟩⟩
theorem yX(ha:PEm X W a f)(hb:PEm X W b g):PEm X W (.BinOp a .Add b pos) (λρ S=>(f ρ S).bind λp S1=>(g ρ S1).bind λq S2=>jM p q S2):=by
 refine zNS (yPZ.or (yAI.or (yQO.or (yLE.or yIG)))) ?_ ha hb
 intro p q x y α S H Q wd dp dq post
 unfold jM at post
 split at post
 ·exact .inl ⟨_,_,xF dp,xF dq,Post.val post wd (kK _)⟩
 ·split at post
  ·rename_i hz
   refine .inr (.inl ⟨_,_,cC dp,cC dq,by rw [kI,kI];exact hz,?_⟩)
   rw [zUO]
   exact Post.val post wd (zBM _)
  ·exact post.elim
 ·split at post
  ·rename_i xx yy hz
   obtain⟨a1,vs,rfl,s1,l1⟩:=zAJ dp
   obtain⟨a2,us,rfl,s2,l2⟩:=zAJ dq
   by_cases h0:vs=[]
   ·subst h0
    have e0:=l1.length
    refine .inr (.inr (.inr (.inr ⟨a1,a2,us,rfl,rfl,s1,s2,?_⟩)))
    have:xx=[]:=by cases xx with |nil=>rfl|cons _ _=>simp at e0
    subst this
    exact Post.val post wd (zES s2 l2)
   ·refine .inr (.inr (.inr (.inl ⟨a1,a2,vs,us,rfl,rfl,s1,s2,h0,by rw [l1.length,l2.length];exact hz,λh1=>?_,λh1 p hp=>Post.newt post wd hp (l1.append l2)⟩)))
    subst h1
    have e0:=l2.length
    have:yy=[]:=by cases yy with |nil=>rfl|cons _ _=>simp at e0
    subst this
    rw [aN]at post
    exact Post.val post wd (zES s1 l1)
  ·exact post.elim
 ·unfold yOW at post
  split at post
  ·rename_i ds1 ds2 e1 e2
   split at post
   ·rename_i hz
    obtain⟨a1,vs,rfl,h1,l1⟩:=yBA wd e1 dp
    obtain⟨a2,us,rfl,h2,l2⟩:=yBA wd e2 dq
    exact .inr (.inr (.inl ⟨a1,a2,vs,us,rfl,rfl,h1,h2,by rw [l1.length,l2.length];exact hz,λp hp=>Post.newl post wd hp (l1.append l2)⟩))
   ·exact post.elim
  ·exact post.elim
def mulC(i j:Int):Prop:=(-(2 ^ 64)<i/\i<2 ^ 64)\/(-(2 ^ 64)<j/\j<2 ^ 64)\/(i.natAbs.log2<4000/\j.natAbs.log2<4000)
theorem bits_of{i:Int}(h:i.natAbs.log2<4000):Builtin.Int.intBits i<=2 ^ 20:=by
 have e:(2:Nat) ^ 20=1048576:=by decide
 unfold Builtin.Int.intBits
 split<;>omega
theorem mulC.ok{i j:Int}(h:mulC i j):IntMulOk i j:=by
 rcases h with h|h|⟨h1,h2⟩
 ·exact CMul.ok (.inl h)
 ·exact CMul.ok (.inr h)
 ·exact .of_bits (bits_of h1) (bits_of h2)
theorem yLU{X:Cx}:OpR X (binaryOp .Mult) (rI mulC λi j=>.int (i * j)):=opI λ_ _ _ _ _ _ _ hc q=>mul_int q hc.ok
instance(i j:Int):Decidable (mulC i j):=inferInstanceAs (Decidable (_\/_\/_))
def yOX(p:Er)(k:Int)(S:Sto):R Er:=match lsW S p with
 |some x=>if 0<=k/\k<100000/\x.length * k.toNat<=sizeLine then .ok (.new (List.replicate k.toNat x).flatten) S else .no
 |none=>.no
def zHD:Er->Er->Sto->R Er
 |.val (.int i),.val (.int j),S=>if mulC i j then .ok (.val (.int (i * j))) S else .no
 |.val (.str x),.val (.int k),S=>if 0<=k/\k<1000/\x.length<=1000 then .ok (.val (.str (zPP x k))) S else .no
 |p,.val (.int k),S=>yOX p k S
 |_,_,_=>.no
theorem DenL.rep{K:PySem.W.Frag}{α:List Addr}{H:Hp}{ds:List MV}{vs:List V}(l:DenL K α H ds vs): ∀k:Nat,DenL K α H (List.replicate k ds).flatten (List.replicate k vs).flatten
 |0=>xN
 |k+1=>by rw [replicate_succ,flatten_cons,replicate_succ,flatten_cons];exact l.append (DenL.rep l k)
theorem dW(ha:PEm X W a f)(hb:PEm X W b g):PEm X W (.BinOp a .Mult b pos) (λρ S=>(f ρ S).bind λp S1=>(g ρ S1).bind λq S2=>zHD p q S2):=by
 refine zNS (yLU.or (yAT.or yQP)) ?_ ha hb
 intro p q x y α S H Q wd dp dq post
 unfold zHD at post
 split at post
 ·split at post
  ·rename_i hc
   exact .inl ⟨_,_,xF dp,xF dq,hc,Post.val post wd (kK _)⟩
  ·exact post.elim
 ·split at post
  ·rename_i hc
   exact .inr (.inl ⟨_,_,cC dp,xF dq,hc.1,hc.2.1,hc.2.2,Post.val post wd (zBM _)⟩)
  ·exact post.elim
 ·unfold yOX at post
  split at post
  ·rename_i ds e1
   split at post
   ·rename_i hc
    obtain⟨a1,vs,rfl,h1,l1⟩:=yBA wd e1 dp
    exact .inr (.inr ⟨a1,_,vs,rfl,xF dq,h1,by omega,by omega,by rw [l1.length];exact hc.2.2,λp hp=>Post.newl post wd hp (l1.rep _)⟩)
   ·exact post.elim
  ·exact post.elim
 ·exact post.elim
def zZ:Nat:=40
def eqF(p q:Er)(S:Sto):R Er:=match zMI S zZ p q with
 |some k=>.ok (.val (.bl k)) S
 |none=>.no
def neF(p q:Er)(S:Sto):R Er:=match zMI S zZ p q with
 |some k=>.ok (.val (.bl !k)) S
 |none=>.no
theorem yIH(hu:X.A.units+64<cLine):OpR X (compareOp .Eq) (λx y H Q=> ∃α S p q k,Wd X.g α S H/\DenX X.K α H p x/\DenX X.K α H q y/\zMI S zZ p q=some k/\Q (.bl k) H):=by
 intro pins s σ H x y v u Q I rx ry h
 obtain⟨α,S,p,q,k,wd,dp,dq,e,hq⟩:=h
 exact yRA I wd zZ (by unfold zZ;omega) dp dq rx ry e X.prog X.w _ _ ⟨.bl k,H,I,rfl,hq⟩
theorem yII(hu:X.A.units+64<cLine):OpR X (compareOp .NotEq) (λx y H Q=> ∃α S p q k,Wd X.g α S H/\DenX X.K α H p x/\DenX X.K α H q y/\zMI S zZ p q=some k/\Q (.bl (!k)) H):=by
 intro pins s σ H x y v u Q I rx ry h
 obtain⟨α,S,p,q,k,wd,dp,dq,e,hq⟩:=h
 exact yRB I wd zZ (by unfold zZ;omega) dp dq rx ry e X.prog X.w _ _ ⟨.bl (!k),H,I,rfl,hq⟩
theorem yCW:Op2 X W (λx y H Q=> ∃α S p q k,Wd X.g α S H/\DenX X.K α H p x/\DenX X.K α H q y/\zMI S zZ p q=some k/\Q (.bl k) H) eqF:=by
 intro p q x y α S H Q wd dp dq post
 unfold eqF at post
 split at post
 ·rename_i k e
  exact⟨α,S,p,q,k,wd,dp,dq,e,Post.val post wd (gT _)⟩
 ·exact post.elim
theorem yCX:Op2 X W (λx y H Q=> ∃α S p q k,Wd X.g α S H/\DenX X.K α H p x/\DenX X.K α H q y/\zMI S zZ p q=some k/\Q (.bl (!k)) H) neF:=by
 intro p q x y α S H Q wd dp dq post
 unfold neF at post
 split at post
 ·rename_i k e
  exact⟨α,S,p,q,k,wd,dp,dq,e,Post.val post wd (gT _)⟩
 ·exact post.elim
theorem zXT(hu:X.A.units+64<cLine)(ha:PEm X W a f)(hb:PEm X W b g):PEm X W (.Compare a [.Eq] [b] pos) (λρ S=>(f ρ S).bind λp S1=>(g ρ S1).bind λq S2=>eqF p q S2):=yAV (yIH hu) yCW ha hb
theorem wW(hu:X.A.units+64<cLine)(ha:PEm X W a f)(hb:PEm X W b g):PTm X W (.Compare a [.Eq] [b] pos) (λρ S=>((f ρ S).bind λp S1=>(g ρ S1).bind λq S2=>eqF p q S2).bind asB):=zGZ (yIH hu) yCW ha hb
theorem pm_ne(hu:X.A.units+64<cLine)(ha:PEm X W a f)(hb:PEm X W b g):PEm X W (.Compare a [.NotEq] [b] pos) (λρ S=>(f ρ S).bind λp S1=>(g ρ S1).bind λq S2=>neF p q S2):=yAV (yII hu) yCX ha hb
theorem zQB(hu:X.A.units+64<cLine)(ha:PEm X W a f)(hb:PEm X W b g):PTm X W (.Compare a [.NotEq] [b] pos) (λρ S=>((f ρ S).bind λp S1=>(g ρ S1).bind λq S2=>neF p q S2).bind asB):=zGZ (yII hu) yCX ha hb
def ltF:Er->Er->Sto->R Er
 |.val d,.val f,S=>match ltv S zZ d f with
  |some k=>.ok (.val (.bl k)) S
  |none=>.no
 |_,_,_=>.no
theorem yIJ(hu:X.A.units+64<cLine):OpR X (compareOp .Lt) (λx y H Q=> ∃α S d f k,Wd X.g α S H/\Den X.K α H d x/\Den X.K α H f y/\ltv S zZ d f=some k/\Q (.bl k) H):=by
 intro pins s σ H x y v u Q I rx ry h
 obtain⟨α,S,d,f,k,wd,dp,dq,e,hq⟩:=h
 exact yIB I wd zZ X.A d f x y v u k (by unfold zZ;omega) dp dq rx ry e X.prog X.w _ _ ⟨.bl k,H,I,rfl,hq⟩
theorem yCY:Op2 X W (λx y H Q=> ∃α S d f k,Wd X.g α S H/\Den X.K α H d x/\Den X.K α H f y/\ltv S zZ d f=some k/\Q (.bl k) H) ltF:=by
 intro p q x y α S H Q wd dp dq post
 unfold ltF at post
 split at post
 ·split at post
  ·rename_i k e
   exact⟨α,S,_,_,k,wd,dp,dq,e,Post.val post wd (gT _)⟩
  ·exact post.elim
 ·exact post.elim
theorem pm_lt(hu:X.A.units+64<cLine)(ha:PEm X W a f)(hb:PEm X W b g):PEm X W (.Compare a [.Lt] [b] pos) (λρ S=>(f ρ S).bind λp S1=>(g ρ S1).bind λq S2=>ltF p q S2):=yAV (yIJ hu) yCY ha hb
theorem yOY(hu:X.A.units+64<cLine)(ha:PEm X W a f)(hb:PEm X W b g):PTm X W (.Compare a [.Lt] [b] pos) (λρ S=>((f ρ S).bind λp S1=>(g ρ S1).bind λq S2=>ltF p q S2).bind asB):=zGZ (yIJ hu) yCY ha hb
abbrev gtF:=ibF λi j=>decide (j<i)
abbrev geF:=ibF λi j=>decide (j<=i)
theorem tm_gt(ha:PEm X W a f)(hb:PEm X W b g):PTm X W (.Compare a [.Gt] [b] pos) (λρ S=>((f ρ S).bind λp S1=>(g ρ S1).bind λq S2=>gtF p q S2).bind asB):=zGZ op_gt yIC ha hb
theorem tm_ge(ha:PEm X W a f)(hb:PEm X W b g):PTm X W (.Compare a [.GtE] [b] pos) (λρ S=>((f ρ S).bind λp S1=>(g ρ S1).bind λq S2=>geF p q S2).bind asB):=zGZ op_ge yIC ha hb
def getL(ds:List MV):Er->Sto->R Er
 |.val (.int i),S=>match atI ds i with |some d=>.ok (.val d) S|none=>.no
 |_,_=>.no
def ixF:Er->Er->Sto->R Er
 |.val (.str x),.val (.int i),S=>if x.length<=sizeLine then match atI x i with |some c=>.ok (.val (.str [c])) S|none=>.no else .no
 |.val (.tup ds),q,S=>getL ds q S
 |p,q,S=>match jB S p with |some ds=>getL ds q S|none=>.no
theorem yLV{K:PySem.W.Frag}{α:List Addr}{H:Hp}{ds:List MV}{vs:List V}{i:Int}{d:MV}(l:DenL K α H ds vs)(e:atI ds i=some d): ∃v,atI vs i=some v/\Den K α H d v:=by
 unfold atI at e ⊢
 rw [l.length]
 cases z:ixN ds.length i with
 |none=>rw [z]at e;cases e
 |some j=>
  rw [z]at e
  obtain⟨v,h1,h2⟩:=l.at (show ds[j]? =some d from e)
  exact⟨v,h1,h2⟩
theorem zQ(ha:PEm X W a f)(hb:PEm X W b g)(hs:zUG b:=by exact λ_ _=>rfl):PEm X W (.Subscript a b pos) (λρ S=>(f ρ S).bind λp S1=>(g ρ S1).bind λq S2=>ixF p q S2):=by
 refine pm_ix yQL ?_ ha hb hs
 intro p q x y α S H Q wd dp dq post
 have key: ∀{ds:List MV}{vs:List V}{i:Int}{d:MV},DenL X.K α H ds vs->atI ds i=some d->Post X.g W α H (.ok (Er.val d) S) Q-> ∃v,atI vs i=some v/\Q v H:=λl e post=>by
  obtain⟨v,h1,h2⟩:=yLV l e
  exact⟨v,h1,Post.val post wd h2⟩
 unfold ixF at post
 split at post
 ·split at post
  ·rename_i hz
   split at post
   ·rename_i ch e
    refine .inr (.inr ⟨_,_,ch,cC dp,xF dq,by rw [kI];exact hz,by rw [zKQ];exact e,?_⟩)
    exact Post.val post wd (zBM [ch])
   ·exact post.elim
  ·exact post.elim
 ·unfold getL at post
  split at post
  ·split at post
   ·rename_i d e
    obtain⟨a1,vs,rfl,s1,l1⟩:=zAJ dp
    obtain⟨v,h1,h2⟩:=key l1 e post
    exact .inr (.inl ⟨a1,vs,_,v,rfl,xF dq,s1,h1,h2⟩)
   ·exact post.elim
  ·exact post.elim
 ·split at post
  ·rename_i ds el
   unfold getL at post
   split at post
   ·split at post
    ·rename_i d e
     obtain⟨a1,vs,rfl,s1,l1⟩:=zHC rfl wd el dp
     obtain⟨v,h1,h2⟩:=key l1 e post
     exact .inl ⟨a1,vs,_,v,rfl,xF dq,s1,h1,h2⟩
    ·exact post.elim
   ·exact post.elim
  ·exact post.elim
end
theorem zSE{prog:Program}{w:World}{A:Around}{E:Value->Shared->Prop}{s:Shared}{t sl:Addr}{its:Array Value}{vl vu:Value}{lo hi:Option Int}{Q:Value->Shared->Prop}(ht:IsTup s.heap t its)(hs:s.heap.IsSliceOf sl vl vu .none)(pl:IsPart vl lo)(pu:IsPart vu hi)
  (h0:HT.sIx its.size 0 lo=0) (h1:HT.sIx its.size its.size hi=its.size) (h:Q (.ref t) s):wpAny (model prog w) A (getItem (.ref t) (.ref sl)) Q E s:=by
 have hTs:s.TypeIs (.ref sl) "slice":=by obtain⟨os,hos,hcs,_⟩:=id hs;exact⟨os,hos,hcs⟩
 have hTt:=ht.typeIs
 unfold getItem
 try with_reducible refine wpAny_holding ?_
 first |refine wB0 (wP0 ?_)|skip
 refine wB0 (wpAny_sequenceKey hTt (by decide) ?_)
 refine wB0 (wpAny_callSpecial?_slot (name:=Str.ofString "__getitem__") hTt PyProof.Rows.slot_tuple_getitem (wpAny_call_entry PyProof.Rows.slot_tuple_getitem hTt entry_tuple_getitem ?_ (args_tuple_getitem _ _)))
 show wpAny _ _ (Builtin.Tuple.tupleItemsOf (.ref t) >>= _) _ _ s
 refine wB0 (tupleItemsOf_ ht (wB0 (wpAny_typeOf hTs ?_)))
 rw [iP (by decide)]
 refine wB0 (HT.sliceApplied_gen hs pl pu ?_)
 show wpAny _ _ (if(((HT.sIx its.size 0 lo:Nat):Int)==0&&(1:Int)==1&&(HT.sIx its.size its.size hi - HT.sIx its.size 0 lo)==its.size)=true then _ else _) _ _ s
 rw [iP (by rw [h0,h1];simp)]
 unfold Builtin.Tuple.tupleIsExact
 refine wB0 (wB0 (wpAny_typeOf hTt (wP0 ?_)))
 rw [iP (by decide)]
 refine wB0 (wpAny_rule ?_)
 first
  |exact wP0 ⟨_,rfl,wP0 h⟩
  |exact wB0 (wP0 (wP0 ⟨_,rfl,wP0 h⟩))
  |exact wB0 (wP0 ⟨_,rfl,wP0 h⟩)
section
variable{X:Cx}{W:XW}{a b c e:Expr}{es:List Expr}{f g h:Rho->Sto->R Er}{af:Rho->Sto->R (List Er)}{pos:Pos}
theorem yLW:SlR X (λx lo hi H Q=> ∃a xs,x=.ref a/\SqT X.K H a xs/\HT.sIx xs.length 0 lo=0/\HT.sIx xs.length xs.length hi=xs.length/\Q (.ref a) H):=by
 intro pins s σ H x v vl vu lo hi sl Q I rx hs pl pu h
 obtain⟨a,xs,rfl,hx,h0,h1,q⟩:=h
 cases rx
 obtain⟨its,r,ht,hz⟩:=I.tuple hx
 have hlen:its.toArray.size=xs.length:=by rw [sA];exact r.length.symm
 exact⟨"tuple",_,PyProof.Rows.slot_tuple_getitem.lookup,ht.typeIs,zSE ht hs pl pu (by rw [hlen];exact h0) (by rw [hlen];exact h1) ⟨.ref a,H,I,rfl,q⟩⟩
def zSF:Er->Option Int->Option Int->Sto->R Er
 |.val (.str x),lo,hi,S=>if x.length<=sizeLine then .ok (.val (.str (gS x lo hi))) S else .no
 |.val (.tup ds),lo,hi,S=>.ok (.val (.tup (gS ds lo hi))) S
 |p,lo,hi,S=>match jB S p with |some ds=>.ok (.new (gS ds lo hi)) S|none=>.no
theorem yEZ{α:Type}{ds:List α}{lo hi:Option Int}(h0:HT.sIx ds.length 0 lo=0)(h1:HT.sIx ds.length ds.length hi=ds.length):gS ds lo hi=ds:=by
 unfold gS
 rw [h0,h1]
 simp
theorem zQC{lo hi:Option Expr}{lf hf:Rho->Sto->R (Option Int)}{p2:Pos}(ha:PEm X W a f)(hl:POm X W lo lf)(hh:POm X W hi hf):PEm X W (.Subscript a (.Slice lo hi none p2) pos) (λρ S=>(f ρ S).bind λp S1=>(lf ρ S1).bind λl S2=>(hf ρ S2).bind λu S3=>zSF p l u S3):=by
 refine yHR (yQR.or (yLG.or (yQK.or yLW))) ?_ ha hl hh
 intro p lo hi x α S H Q wd dp post
 unfold zSF at post
 split at post
 ·split at post
  ·rename_i hz
   exact .inl ⟨_,cC dp,hz,Post.val post wd (zBM _)⟩
  ·exact post.elim
 ·rename_i _ _ _ ds
  obtain⟨a1,vs,rfl,s1,l1⟩:=zAJ dp
  by_cases hw:HT.sIx vs.length 0 lo=0/\HT.sIx vs.length vs.length hi=vs.length
  ·have e:gS ds lo hi=ds:=yEZ (by rw [<-l1.length];exact hw.1) (by rw [<-l1.length];exact hw.2)
   rw [e]at post
   exact .inr (.inr (.inr ⟨a1,vs,rfl,s1,hw.1,hw.2,Post.val post wd (zES s1 l1)⟩))
  ·exact .inr (.inr (.inl ⟨a1,vs,rfl,s1,hw,λp hp=>Post.newt post wd hp (l1.cut lo hi)⟩))
 ·split at post
  ·rename_i ds el
   obtain⟨a1,vs,rfl,s1,l1⟩:=zHC rfl wd el dp
   exact .inr (.inl ⟨a1,vs,rfl,s1,λp hp=>Post.newl post wd hp (l1.cut lo hi)⟩)
  ·exact post.elim
end
section
variable{X:Cx}{W:XW}{a b c e:Expr}{es:List Expr}{f g h:Rho->Sto->R Er}{af:Rho->Sto->R (List Er)}{pos:Pos}
def zXU(S:Sto)(n:Nat)(d:MV):List MV->Option (List Bool)
 |[]=>some []
 |y::ys=>(eqv S n y d).bind λk=>(zXU S n d ys).map (k::·)
section
variable{α:List Addr}{S:Sto}{H:Hp}{pins:List (Addr×Obj)}{σ:St}{s:Shared}
noncomputable def yFA(X:Cx)(α:List Addr)(S:Sto)(H:Hp)(n:Nat)(d:MV)(u:Value):Bool:=open Classical in decide (∃y x,Den X.K α H y x/\RelV x u/\eqv S n y d=some true)
open Classical in
theorem yLX(I:Inv X pins σ H s)(wd:Wd X.g α S H){n:Nat}{d y:MV}{x:V}{u:Value}{k:Bool}(dy:Den X.K α H y x)(r:RelV x u)(e:eqv S n y d=some k):yFA X α S H n d u=k:=by
 unfold yFA
 cases k with
 |true=>exact dT0 ⟨y,x,dy,r,e⟩
 |false=>
  refine dF0 λ⟨y',x',dy',r',e'⟩=>?_
  have ex:=r.inj r'
  subst ex
  rw [dy.inj I wd dy']at e
  rw [e]at e'
  cases e'
theorem zUY(I:Inv X pins σ H s)(wd:Wd X.g α S H){n:Nat}{A:Around}{d:MV}{x:V}{v:Value}(hu:A.units+n<cLine)(dd:Den X.K α H d x)(rx:RelV x v): ∀{ys:List MV}{vs:List V}{us:List Value}{bs:List Bool},DenL X.K α H ys vs->Vals vs us->zXU S n d ys=some bs->
  us.map (yFA X α S H n d)=bs/\ ∀u∈us,SeqAt.EqAt A s u v (yFA X α S H n d u)
 |[],_,_,bs,l,r,e=>by
  cases l.isnil;cases r;cases e
  exact⟨rfl,λu hu=>by cases hu⟩
 |y::ys,_,_,bs,l,r,e=>by
  obtain⟨v',r',rfl,dy,l'⟩:=l.uncons
  cases r with
  |cons r1 r2=>
   unfold zXU at e
   cases z:eqv S n y d with
   |none=>rw [z]at e;cases e
   |some k=>
    rw [z]at e
    cases z2:zXU S n d ys with
    |none=>simp [z2]at e
    |some cs=>
     simp [z2]at e
     subst e
     obtain⟨h1,h2⟩:=zUY I wd hu dd rx l' r2 z2
     have h3:=yLX I wd dy r1 z
     refine⟨by rw [map_cons,h1,h3],λu hu'=>?_⟩
     rcases mC.mp hu' with rfl|hu'
     ·rw [h3];exact zUX I wd n A y d _ _ _ _ k hu dy dd r1 rx z
     ·exact h2 u hu'
end
theorem any_map{us:List Value}{f:Value->Bool}{bs:List Bool}(h:us.map f=bs):us.toArray.any f=bs.any id:=by
 subst h
 simp [List.any_map]
def itemsOf(S:Sto):Er->Option (List MV)
 |.val (.tup ds)=>some ds
 |r=>jB S r
theorem zQD{α:List Addr}{S:Sto}{H:Hp}(wd:Wd X.g α S H){r:Er}{ds:List MV}{x:V}(e:itemsOf S r=some ds)(d:DenX X.K α H r x): ∃a vs,x=.ref a/\(SqL X.K H a vs\/SqT X.K H a vs)/\DenL X.K α H ds vs:=by
 unfold itemsOf at e
 split at e
 ·cases e
  obtain⟨a,vs,rfl,s,l⟩:=zAJ d
  exact⟨a,vs,rfl,.inr s,l⟩
 ·obtain⟨a,vs,rfl,s,l⟩:=zHC rfl wd e d
  exact⟨a,vs,rfl,.inl s,l⟩
def zMJ(neg:Bool)(p q:Er)(S:Sto):R Er:=match p with
 |.val d=>match itemsOf S q with
  |some ys=>match zXU S zZ d ys with
   |some bs=>.ok (.val (.bl (if neg=true then !bs.any id else bs.any id))) S
   |none=>.no
  |none=>.no
 |.new _=>.no
def inF(neg:Bool):Er->Er->Sto->R Er
 |.val (.str [c]),.val (.str y),S=>.ok (.val (.bl (if neg=true then !decide (c∈y)else decide (c∈y)))) S
 |p,q,S=>zMJ neg p q S
abbrev rInM(X:Cx)(neg:Bool):R2:=λx y H Q=> ∃α S d q ys bs,Wd X.g α S H/\Den X.K α H d x/\DenX X.K α H q y/\itemsOf S q=some ys/\zXU S zZ d ys=some bs/\Q (.bl (if neg=true then !bs.any id else bs.any id)) H
theorem yFB(hu:X.A.units+64<cLine):OpR X (compareOp .NotIn) (rInM X true):=by
 intro pins s σ H x y v u Q I rx ry h
 obtain⟨α,S,d,q,ys,bs,wd,dd,dq,ei,ea,hq⟩:=h
 obtain⟨a,vs,rfl,sq,l⟩:=zQD wd ei dq
 cases ry
 rcases sq with sq|sq
 ·obtain⟨its,r,pl,_⟩:=I.list sq
  obtain⟨h1,h2⟩:=zUY I wd (A:=X.A.in1) (by show X.A.units+1+zZ<cLine;unfold zZ;omega) dd rx l r ea
  refine SeqAt.notIn_listAt (yFA X α S H zZ d) pl.isList (λw hw=>h2 w (by simpa using hw)) ⟨.bl _,H,I,rfl,?_⟩
  rw [any_map h1]
  exact hq
 ·obtain⟨its,r,pl,_⟩:=I.tuple sq
  obtain⟨h1,h2⟩:=zUY I wd (A:=X.A.in1) (by show X.A.units+1+zZ<cLine;unfold zZ;omega) dd rx l r ea
  refine SeqAt.notIn_tupleAt (yFA X α S H zZ d) pl (λw hw=>h2 w (by simpa using hw)) ⟨.bl _,H,I,rfl,?_⟩
  rw [any_map h1]
  exact hq
theorem yLY{neg:Bool}:Op2 X W (λx y H Q=>(∃i j,x=.str i/\y=.str j/\Q (.bl (if neg=true then !(!(Builtin.Str.occurrences j i 0 j.length 1).isEmpty)else !(Builtin.Str.occurrences j i 0 j.length 1).isEmpty)) H)\/rInM X neg x y H Q) (inF neg):=by
 intro p q x y α S H Q wd dp dq post
 unfold inF at post
 split at post
 ·refine .inl ⟨_,_,cC dp,cC dq,?_⟩
  rw [<-yLL,PySem.StrLaws.found_one,zKQ]
  exact Post.val post wd (gT _)
 ·unfold zMJ at post
  split at post
  ·rename_i d _
   split at post
   ·rename_i ys ei
    split at post
    ·rename_i bs ea
     exact .inr ⟨α,S,_,q,ys,bs,wd,dp,dq,ei,ea,Post.val post wd (gT _)⟩
    ·exact post.elim
   ·exact post.elim
  ·exact post.elim
theorem OpR.imp{f:Value->Value->Sem Value}{r r':R2}(h:OpR X f r)(i: ∀x y H Q,r' x y H Q->r x y H Q):OpR X f r':=λpins s σ H x y v u Q I rx ry q=>h pins s σ H x y v u Q I rx ry (i x y H Q q)
theorem yFC(hu:X.A.units+64<cLine):OpR X (compareOp .NotIn) (λx y H Q=>(∃i j,x=.str i/\y=.str j/\Q (.bl (if(true:Bool)=true then !(!(Builtin.Str.occurrences j i 0 j.length 1).isEmpty)else !(Builtin.Str.occurrences j i 0 j.length 1).isEmpty)) H)\/rInM X true x y H Q):=
 OpR.imp (zUD.or (yFB hu)) λx y H Q q=>q.imp (λq=>q) λq=>q
theorem zXV(hu:X.A.units+64<cLine)(ha:PEm X W a f)(hb:PEm X W b g)(hm:behindInMarks .NotIn b=false:=by with_unfolding_all rfl):PTm X W (.Compare a [.NotIn] [b] pos) (λρ S=>((f ρ S).bind λp S1=>(g ρ S1).bind λq S2=>inF true p q S2).bind asB):=zGZ (yFC hu) yLY ha hb hm
theorem zHE{K:PySem.W.Frag}{α:List Addr}{H:Hp}{r:Er}{vs:List V}(d:ArgsX K α H [r] vs): ∃v,vs=[v]/\DenX K α H r v:=by
 cases d with
 |cons a l=>cases l;exact⟨_,rfl,a⟩
theorem yOZ{K:PySem.W.Frag}{α:List Addr}{H:Hp}{r r':Er}{vs:List V}(d:ArgsX K α H [r,r'] vs): ∃v u,vs=[v,u]/\DenX K α H r v/\DenX K α H r' u:=by
 cases d with
 |cons a l=>obtain⟨u,rfl,l'⟩:=zHE l;exact⟨_,u,rfl,a,l'⟩
def dX:List Er->Sto->R Er
 |[.val (.str x)],S=>if x.length<=sizeLine then .ok (.val (.int x.length)) S else .no
 |[r],S=>match itemsOf S r with |some ds=>.ok (.val (.int ds.length)) S|none=>.no
 |_,_=>.no
theorem cG:zGD X W (λxs H Q=>(∃z,xs=[.str z]/\z.length<=sizeLine/\Q (.int z.length) H)\/ ∃p ys,xs=[.ref p]/\(SqL X.K H p ys\/SqT X.K H p ys)/\Q (.int ys.length) H) dX:=by
 intro rs vs α S H Q wd d post
 unfold dX at post
 split at post
 ·split at post
  ·rename_i hz
   obtain⟨v,rfl,dv⟩:=zHE d
   cases cC dv
   refine .inl ⟨_,rfl,by rw [kI];exact hz,?_⟩
   rw [kI]
   exact Post.val post wd (kK _)
  ·exact post.elim
 ·split at post
  ·rename_i ds e
   obtain⟨v,rfl,dv⟩:=zHE d
   obtain⟨a,us,rfl,sq,l⟩:=zQD wd e dv
   refine .inr ⟨a,us,rfl,sq,?_⟩
   rw [l.length]
   exact Post.val post wd (kK _)
  ·exact post.elim
 ·exact post.elim
theorem xL:CallR X (.builtin "len") (λxs H Q=>(∃z,xs=[.str z]/\z.length<=sizeLine/\Q (.int z.length) H)\/ ∃p ys,xs=[.ref p]/\(SqL X.K H p ys\/SqT X.K H p ys)/\Q (.int ys.length) H):=zUJ.or zUI
def zBQ:List MV->Option (List Bool)
 |[]=>some []
 |.bl b::r=>(zBQ r).map (b::·)
 |_::_=>none
theorem zMK{K:PySem.W.Frag}{α:List Addr}{H:Hp}: ∀{ds:List MV}{bs:List Bool}{vs:List V},zBQ ds=some bs->DenL K α H ds vs->vs=bs.map V.bl
 |[],_,_,e,l=>by cases e;exact l.isnil
 |d::r,bs,_,e,l=>by
  cases d with
  |bl b=>
   unfold zBQ at e
   cases z:zBQ r with
   |none=>rw [z]at e;cases e
   |some cs=>
    rw [z]at e
    cases e
    obtain⟨v,us,rfl,dv,l'⟩:=l.uncons
    rw [zEE dv,zMK z l']
    rfl
  |_=>cases e
def allF:List Er->Sto->R Er
 |[r],S=>match (jB S r).bind zBQ with |some bs=>.ok (.val (.bl (bs.all id))) S|none=>.no
 |_,_=>.no
def anyF:List Er->Sto->R Er
 |[r],S=>match (jB S r).bind zBQ with |some bs=>.ok (.val (.bl (bs.any id))) S|none=>.no
 |_,_=>.no
theorem yRD(hc:X.calm=true):zGD X W (λxs H Q=> ∃(a:Addr)(bs:List Bool),xs=[.ref a]/\SqL X.K H a (bs.map V.bl)/\X.calm=true/\Q (.bl (bs.all id)) H) allF:=by
 intro rs vs α S H Q wd d post
 unfold allF at post
 split at post
 ·split at post
  ·rename_i bs e
   obtain⟨v,rfl,dv⟩:=zHE d
   cases z:jB S _ with
   |none=>rw [z]at e;cases e
   |some ds=>
    rw [z]at e
    obtain⟨a1,us,rfl,s,l⟩:=zHC rfl wd z dv
    refine⟨a1,bs,rfl,?_,hc,Post.val post wd (gT _)⟩
    rw [<-zMK e l]
    exact s
  ·exact post.elim
 ·exact post.elim
def zUZ(S:Sto):Er->Option String
 |.val .non=>some "NoneType"
 |.val (.bl _)=>some "bool"
 |.val (.int _)=>some "int"
 |.val (.str _)=>some "str"
 |.val (.tup _)=>some "tuple"
 |.val (.typ _)=>none
 |.val (.obj _ _ _)=>none
 |r=>(jB S r).map λ_=>"list"
def yIK(t T:String):Bool:=t==T || (t=="bool"&&T=="int")
def known(T:String):Bool:=T=="int" || T=="bool" || T=="str" || T=="tuple" || T=="list"
def zGS:List Er->Sto->R Er
 |[r,.val (.typ T)],S=>match zUZ S r with
  |some t=>if known T=true then .ok (.val (.bl (yIK t T))) S else .no
  |none=>.no
 |_,_=>.no
theorem zAE(K:PySem.W.Frag){t T:String}(ht:t="NoneType"\/t="bool"\/t="int"\/t="str"\/t="tuple"\/t="list")(hT:known T=true):PySem.W.kitOne K (.type t) (.type T)=some (yIK t T):=by
 have hT':T="int"\/T="bool"\/T="str"\/T="tuple"\/T="list":=by
  unfold known at hT
  simp only [or_eq_true,beq_iff_eq]at hT
  rcases hT with(((h|h)|h)|h)|h
  ·exact .inl h
  ·exact .inr (.inl h)
  ·exact .inr (.inr (.inl h))
  ·exact .inr (.inr (.inr (.inl h)))
  ·exact .inr (.inr (.inr (.inr h)))
 rcases ht with rfl|rfl|rfl|rfl|rfl|rfl<;>rcases hT' with rfl|rfl|rfl|rfl|rfl<;>kernel_rfl
theorem zEG:CallR X (.builtin "isinstance") (λxs H Q=> ∃α S r x t T,xs=[x,.ty T]/\Wd X.g α S H/\DenX X.K α H r x/\zUZ S r=some t/\known T=true/\Q (.bl (yIK t T)) H):=by
 intro pins s σ H xs us Q I rr h
 obtain⟨α,S,r,x,t,T,rfl,wd,d,et,hk,q⟩:=h
 obtain⟨u,w',rfl,rx,rT⟩:=vals2 rr
 cases rT
 have fin: ∀tk,EP X pins σ Q (.bool (yIK t T)) {s with toks:=tk}:=λtk=>⟨.bl _,H,I.tok _,rfl,q⟩
 unfold zUZ at et
 split at et
 ·cases et
  cases yAU d
  cases rx
  exact PySem.W.kia_one PySem.W.kitx_none I.kIn True.intro (zAE X.K (.inl rfl) hk) (λz=>nomatch z) fin
 ·cases et
  cases zPV d
  cases rx
  exact PySem.W.kia_one PySem.W.kitx_bool I.kIn True.intro (zAE X.K (.inr (.inl rfl)) hk) (λz=>nomatch z) fin
 ·cases et
  cases xF d
  obtain⟨t,rfl⟩:=rx
  exact PySem.W.kia_one PySem.W.kitx_int I.kIn True.intro (zAE X.K (.inr (.inr (.inl rfl))) hk) (λz=>nomatch z) fin
 ·cases et
  cases cC d
  obtain⟨t,rfl⟩:=rx
  exact PySem.W.kia_one PySem.W.kitx_str I.kIn True.intro (zAE X.K (.inr (.inr (.inr (.inl rfl)))) hk) (λz=>nomatch z) fin
 ·cases et
  obtain⟨a,vs,rfl,sq,l⟩:=zAJ d
  cases rx
  obtain⟨its,r1,p1,_⟩:=I.tuple sq
  obtain⟨o,h1,h2,_⟩:=p1
  exact PySem.W.kia_one PySem.W.kitx_tuple I.kIn ⟨o,h1,h2⟩ (zAE X.K (.inr (.inr (.inr (.inr (.inl rfl))))) hk) (λz=>nomatch z) fin
 ·cases et
 ·cases et
 ·cases z:jB S r with
  |none=>rw [z]at et;cases et
  |some ds=>
   rw [z]at et
   cases et
   obtain⟨a,vs,rfl,sq,l⟩:=zHC rfl wd z d
   cases rx
   obtain⟨its,r1,p1,_⟩:=I.list sq
   obtain⟨o,h1,h2,_⟩:=p1.isList
   exact PySem.W.kia_one PySem.W.kitx_list I.kIn ⟨o,h1,h2⟩ (zAE X.K (.inr (.inr (.inr (.inr (.inr rfl))))) hk) (λz=>nomatch z) fin
theorem zML:zGD X W (λxs H Q=> ∃α S r x t T,xs=[x,.ty T]/\Wd X.g α S H/\DenX X.K α H r x/\zUZ S r=some t/\known T=true/\Q (.bl (yIK t T)) H) zGS:=by
 intro rs vs α S H Q wd d post
 unfold zGS at post
 split at post
 ·split at post
  ·rename_i t et
   split at post
   ·rename_i hk
    obtain⟨v,u,rfl,d1,d2⟩:=yOZ d
    cases yQX d2
    exact⟨α,S,_,v,t,_,rfl,wd,d1,et,hk,Post.val post wd (gT _)⟩
   ·exact post.elim
  ·exact post.elim
 ·exact post.elim
def gZ:List Er->Sto->R Er
 |[.val (.tup ds)],S=>.ok (.val (.tup ds)) S
 |[r],S=>match jB S r with |some ds=>.ok (.val (.tup ds)) S|none=>.no
 |_,_=>.no
theorem bA:zGD X W (λxs H Q=> ∃p ys,xs=[.ref p]/\((SqL X.K H p ys/\ ∀l,H l=none->Q (.ref l) (upd H l (.tup ys)))\/(SqT X.K H p ys/\Q (.ref p) H))) gZ:=by
 intro rs vs α S H Q wd d post
 unfold gZ at post
 split at post
 ·obtain⟨v,rfl,dv⟩:=zHE d
  obtain⟨a,us,rfl,sq,l⟩:=zAJ dv
  exact⟨a,us,rfl,.inr ⟨sq,Post.val post wd (zES sq l)⟩⟩
 ·split at post
  ·rename_i ds e
   obtain⟨v,rfl,dv⟩:=zHE d
   obtain⟨a,us,rfl,sq,l⟩:=zHC rfl wd e dv
   exact⟨a,us,rfl,.inl ⟨sq,λp hp=>Post.newt post wd hp l⟩⟩
  ·exact post.elim
 ·exact post.elim
def yIL:List Er->Sto->R Er
 |[r],S=>match itemsOf S r with |some ds=>.ok (.new ds) S|none=>.no
 |_,_=>.no
theorem yLZ:zGD X W (λxs H Q=> ∃p ys,xs=[.ref p]/\(SqL X.K H p ys\/SqT X.K H p ys)/\ ∀l,H l=none->Q (.ref l) (upd H l (.lst ys))) yIL:=by
 intro rs vs α S H Q wd d post
 unfold yIL at post
 split at post
 ·split at post
  ·rename_i ds e
   obtain⟨v,rfl,dv⟩:=zHE d
   obtain⟨a,us,rfl,sq,l⟩:=zQD wd e dv
   exact⟨a,us,rfl,sq,λp hp=>Post.newl post wd hp l⟩
  ·exact post.elim
 ·exact post.elim
theorem cH:bootBuiltins "len"=some (.builtin "len"):=by decide+kernel
theorem yRE:bootBuiltins "all"=some (.builtin "all"):=by decide+kernel
theorem yRF:bootBuiltins "any"=some (.builtin "any"):=by decide+kernel
theorem kC:bootBuiltins "isinstance"=some (.builtin "isinstance"):=by decide+kernel
theorem yRG:bootBuiltins "int"=some (.type "int"):=by decide+kernel
theorem yMA:bootBuiltins "bool"=some (.type "bool"):=by decide+kernel
theorem yBB:bootBuiltins "str"=some (.type "str"):=by decide+kernel
theorem wX:bootBuiltins "tuple"=some (.type "tuple"):=by decide+kernel
theorem yMB:bootBuiltins "list"=some (.type "list"):=by decide+kernel
end
def digN(n:Nat):List Nat:=(Nat.toDigits 10 n).map Char.toNat
def decL(i:Int):List Nat:=if i<0 then 45::digN i.natAbs else digN i.natAbs
section
variable{X:Cx}{W:XW}{a b c e o i:Expr}{es:List Expr}{f g h:Rho->Sto->R Er}{af:Rho->Sto->R (List Er)}{pos apos:Pos}
def strF:List Er->Sto->R Er
 |[.val (.int i)],S=>if i.natAbs.log2<1920 then .ok (.val (.str (decL i))) S else .no
 |[.val (.str x)],S=>.ok (.val (.str x)) S
 |_,_=>.no
def zQE:Er->Sto->Bool
 |.val (.str _),_=>true
 |_,_=>false
theorem ty_str:TyM X "str" zQE:=by
 intro p x α S H wd d h
 unfold zQE at h
 split at h
 ·cases cC d;rfl
 ·cases h
def zHF(p:Er)(S:Sto):Bool:=(jB S p).isSome
theorem yRH:TyM X "list" zHF:=by
 intro p x α S H wd d h
 unfold zHF at h
 cases z:jB S p with
 |none=>rw [z]at h;cases h
 |some ds=>
  obtain⟨a,vs,rfl,s,l⟩:=zHC rfl wd z d
  exact .inl ⟨rfl,vs,s⟩
def strIdx(x y:List Nat):Option Nat:=(Builtin.Str.occurrences (mkS x) (mkS y) 0 (mkS x).length 1).head?
def sidxF:Er->List Er->Sto->R Er
 |.val (.str x),[.val (.str y)],S=>match strIdx x y with |some i=>.ok (.val (.int (i:Nat))) S|none=>.no
 |_,_,_=>.no
def yFD(p:Er)(S:Sto)(G:List MV->Option (List MV)):R Er:=match p with
 |.val (.loc l)=>match S[l]? with
  |some (.lst ds)=>match G ds with
   |some es=>.ok (.val .non) (S.set l (.lst es))
   |none=>.no
  |_=>.no
 |_=>.no
theorem yFE{α0 α:List Addr}{H0 H:Hp}{S:Sto}{p:Er}{x:V}{G:List MV->Option (List MV)}{Q:VK}(wd:Wd X.g α S H)(x0:Ext α0 H0 α H)(dp:DenX X.K α H p x)(post:Post X.g W α0 H0 (yFD p S G) Q):
  ∃a vs ds es,x=.ref a/\H a=some (.lst vs)/\DenL X.K α H ds vs/\G ds=some es/\ ∀us,DenL X.K α H es us->Q .non (upd H a (.lst us)):=by
 unfold yFD at post
 split at post
 ·rename_i l
  obtain⟨a,rfl,h⟩:=zGY dp
  obtain⟨ob,h1,h2⟩:=wd.of h
  rw [h1]at post
  cases ob with
  |lst ds=>
   obtain⟨vs,h3,l1⟩:=h2
   have post:Post X.g W α0 H0 (match G ds with |some es=>R.ok (Er.val .non) (S.set l (.lst es))|none=>R.no) Q:=post
   split at post
   ·rename_i es eg
    refine⟨a,vs,ds,es,rfl,h3,l1,eg,λus lu=>?_⟩
    have xw:=wd.writex h (o:=.lst us)
    exact(post.shift (x0.trans xw)).val (wd.write h ⟨us,yS,lu.ext xw⟩) zOV
   ·exact post.elim
  |dic _=>exact post.elim
  |ins _ _=>exact post.elim
 ·exact post.elim
def zVA:Er->List Er->Sto->R Er
 |p,[r],S=>(cE r S).bind λy S1=>yFD p S1 λds=>if ds.length<sizeLine then some (ds++[y])else none
 |_,_,_=>.no
theorem yFF:MtdM X W yCM zVA:=by
 intro p rs x vs α S H0 H Q α0 wd x0 dp da post
 match rs,da,post with
 |[],_,post=>exact post.elim
 |_::_::_,_,post=>exact post.elim
 |[r],da,post=>
  cases da with
  |cons d n l=>
   cases l
   obtain⟨d',S',α',e',x',y',w',dd⟩:=zEF wd x0 d
   have post:Post X.g W α0 H0 ((cE r S).bind λy S1=>yFD p S1 λds=>if ds.length<sizeLine then some (ds++[y])else none) Q:=post
   rw [e']at post
   have dp':DenX X.K α' H p x:=by
    cases p with
    |val m=>exact Den.ex0 y' dp
    |new ds=>exact post.elim
   obtain⟨a,us,ds,es,rfl,h1,l1,eg,k⟩:=yFE w' x' dp' post
   split at eg
   ·rename_i hz
    cases eg
    exact⟨a,us,_,rfl,rfl,h1,by rw [l1.length];exact hz,k _ (l1.append (yW dd xN))⟩
   ·cases eg
theorem zAF(ho:PEm X W a f)(ha:PAm X W (e::es) af)
  (hbase:attributeBase a "append" X.env (eval a X.env)=eval a X.env:=by rfl)
  (hfew:((backTo pos (starEach (e::es) X.env)).all (λx=>!x.1)&&(backToKw pos (keywordEach [] X.env)).all (λx=>x.1.isSome)
   &&decide ((e::es).length+([]:List Keyword).length+(if([]:List Keyword).isEmpty then 0 else 1)<30))=true:=by rfl)
  (hline:(apos.endLine==pos.line)=true:=by rfl) (hs:starEach (e::es) X.env=(false,eval e X.env)::starEach es X.env:=by rfl) (hplain:(backTo pos (starEach es X.env)).any (·.1)=false:=by rfl):
  PEm X W (.Call (.Attribute a "append" apos) (e::es) [] pos) (λρ S=>(f ρ S).bind λp S1=>if zHF p S1=true then(af ρ S1).bind λrs S2=>zVA p rs S2 else .no):=
 yCR PySem.F.plainAttrs_list PySem.F.slot_list_append PySem.F.type_list_append yEP yFF yRH ho ha hbase hfew hline hs hplain
def zXW(p q:Er)(d:MV)(ρ:Rho)(S:Sto):R Rho:=match p,q with
 |.val (.loc l),.val (.int k)=>match S[l]? with
  |some (.lst ds)=>match ixN ds.length k with
   |some j=>.ok ρ (S.set l (.lst (ds.set j d)))
   |none=>.no
  |_=>.no
 |_,_=>.no
theorem yRI(ho:PEm X W o f)(hi:PEm X W i g)
  (ha: ∀v,assign (.Subscript o i pos) X.env v=(do
   let ov <-holding [v] (eval o X.env)
   let iv <-holding [v,ov] (eval i X.env)
   standAt pos
   holding [v,ov,iv] (setItem ov iv v)
   release [v,ov,iv] []):=by intro _;rfl):PGm X W (.Subscript o i pos) (λd ρ S=>(f ρ S).bind λp S1=>(g ρ S1).bind λq S2=>zXW p q d ρ S2):=by
 obtain⟨to,ho,fo⟩:=ho
 obtain⟨ti,hi,fi⟩:=hi
 refine⟨_,yGR ho hi set_list ha,λα ρ S σ H d v Q wd sl de q=>fo α ρ S σ H _ wd sl (q.bind λu p S1 α1 H1 e1 x1 w1 d1 q1=>fi α1 ρ S1 σ H1 _ w1 (sl.ext x1) ((q1.shift x1).bind λu2 p2 S2 α2 H2 e2 x2 w2 d2 q2=>?_))⟩
 replace q2:=q2.shift x2
 have d1':=DenX.ext x2 d1.1
 unfold zXW at q2
 split at q2
 ·rename_i l k
  obtain⟨a,rfl,h⟩:=zGY d1'
  cases xF d2.1
  obtain⟨ob,h1,h2⟩:=w2.of h
  rw [h1]at q2
  cases ob with
  |lst ds=>
   obtain⟨vs,h3,l1⟩:=h2
   have q2:Post X.g W α2 H2 (match ixN ds.length k with |some j=>R.ok ρ (S2.set l (.lst (ds.set j d)))|none=>R.no) Q:=q2
   split at q2
   ·rename_i j ej
    have xw:=w2.writex h (o:=.lst (vs.set j v))
    have sl2:=((sl.ext x1).ext x2).ext xw
    exact⟨a,vs,k,j,rfl,rfl,h3,by rw [l1.length];exact ej,q2 σ α2 _ xw (w2.write h ⟨_,yS,(l1.set ((de.ext x1).ext x2) j).ext xw⟩) sl2⟩
   ·exact q2.elim
  |dic _=>exact q2.elim
  |ins _ _=>exact q2.elim
 ·exact q2.elim
end
theorem _root_.L2.Inv.turnedL{X:Cx}{pins:List (Addr×Obj)}{σ:St}{H:Hp}{s:Shared}{h':Heap}{t':Nat}{fp:List Addr}(I:Inv X pins σ H s)(k: ∀b o,b∉fp->s.heap.get? b=some o->h'.get? b=some o)
  (hf: ∀b∈fp,zOF X pins H b):Inv X pins σ H {s with heap:=h',toks:=t'}:=by
 have nit: ∀b u,H b=some u->b∉fp:=λb u e z=>by rw [(hf b z).1]at e;cases e
 refine I.step (g':=s.gens) (d':=s.drawn) (ch:=fp) (λb hb=>⟨(hf b hb).2.2.2.1,(hf b hb).2.1,(hf b hb).2.2.2.2.1,(hf b hb).2.2.2.2.2⟩) (λb o _ _ hc e _=>k b o hc e) (λb o _ _ hc e _=>⟨o.slots,k b o hc e⟩) (λ_ _ _ _ n=>n)
  (λb o hc e=>⟨o,k b o hc e⟩) (λ_ _ e=>e) (λ_ _ _ e=>e) (λb ps e=>⟨#[],by rw [e];simp⟩) (λm hm=>?_) (λb u e=>?_) I.bare
 ·obtain⟨o,es,ep,ho,r⟩:=hm
  exact⟨o,es,ep,k _ o (λz=>(hf _ z).2.1 rfl) ho,r⟩
 ·refine(I.hok b u e).stay (λc v hc q=>k c v ?_ q) (λ_ q=>q) λ_ _ q=>q
  rcases hc with z|z
  ·rw [z];exact nit b u e
  ·exact nit c _ z
def IsSub(k:Bool)(h:Heap)(it l:Addr)(i:Nat):Prop:=if k=true then h.IsListIter it l i else h.IsTupleIter it l i
def zNU(k:Bool)(h:Heap)(l:Addr)(its:Array Value):Prop:=if k=true then h.IsList l its else h.IsTuple l its
def zMM(k:Bool)(l:Addr):Obj:={cls:=.type (if k=true then "list_iterator" else "tuple_iterator"),data:=.fields #[.ref l,.int 0 0]}
theorem IsSub.mk'{k:Bool}{h:Heap}{it l:Addr}(e:h.get? it=some (zMM k l)):IsSub k h it l 0:=by
 cases k with
 |true=>exact⟨_,e,rfl,rfl⟩
 |false=>exact⟨_,e,rfl,rfl⟩
theorem IsSub.there{k:Bool}{h:Heap}{it l:Addr}{i:Nat}(x:IsSub k h it l i): ∃o,h.get? it=some o/\ ∀v,o.data≠.cell v:=by
 cases k with
 |true=>obtain⟨o,e,_,d⟩:=(x:h.IsListIter it l i);exact⟨o,e,λv z=>by rw [d]at z;cases z⟩
 |false=>obtain⟨o,e,_,d⟩:=(x:h.IsTupleIter it l i);exact⟨o,e,λv z=>by rw [d]at z;cases z⟩
theorem IsSub.move{k:Bool}{h h':Heap}{it l:Addr}{i:Nat}(x:IsSub k h it l i)(f: ∀o,h.get? it=some o->h'.get? it=some o):IsSub k h' it l i:=by
 cases k with
 |true=>obtain⟨o,e,r⟩:=(x:h.IsListIter it l i);exact⟨o,f o e,r⟩
 |false=>obtain⟨o,e,r⟩:=(x:h.IsTupleIter it l i);exact⟨o,f o e,r⟩
section
variable{prog:Program}{w:World}{A:Around}{E:Value->Shared->Prop}{s:Shared}
theorem zQF{k:Bool}{l:Addr}{its:Array Value}{Q:Value->Shared->Prop}(hl:zNU k s.heap l its)(h:Q (.ref s.heap.objs.size) {s with heap:=s.heap.push (zMM k l)}):wpAny (model prog w) A (pyIter (.ref l)) Q E s:=by
 cases k with
 |true=>exact wpAny_pyIter_list hl h
 |false=>exact wpAny_pyIter_tuple hl h
theorem yIM{k:Bool}{it l:Addr}{i:Nat}{its:Array Value}{x:Value}{Q:Value->Shared->Prop}(hit:IsSub k s.heap it l i)(hl:zNU k s.heap l its)(hx:its[i]? =some x)
  (hQ: ∀h',IsSub k h' it l (i+1)->Heap.SameBut it s.heap h'->Q x {s with heap:=h'}):wpAny (model prog w) A (Builtin.SmallTypes.nextOf (.ref it)) Q E s:=by
 cases k with
 |true=>exact wpAny_nextOf_list_item hit hl hx hQ
 |false=>
  have hit':s.heap.IsTupleIter it l i:=hit
  obtain⟨o,ho,hc,hd⟩:=id hit'
  obtain⟨ol,hol,_,nl,hdl⟩:=(hl:s.heap.IsTuple l its)
  unfold Builtin.SmallTypes.nextOf
  refine wB0 (wpAny_callSpecial?_slot (name:=Str.ofString "__next__") hit'.typeIs F.slot_tuple_iterator_next (wpAny_call_entry F.slot_tuple_iterator_next hit'.typeIs F.entry_tuple_iterator_next ?_ (F.args_tuple_iterator_next_1 _)))
  show wpAny _ _ (field (.ref it) 0 >>= _) _ _ s
  refine wB0 (wpAny_field ho hd (x:=.ref l) rfl ?_)
  show wpAny _ _ (if(Value.ref l==Value.none)=true then _ else _) _ _ s
  rw [iN (show¬((Value.ref l==Value.none)=true)from xF0)]
  show wpAny _ _ (field (.ref it) 1 >>= _) _ _ s
  refine wB0 (wpAny_field ho hd (x:=.int i 0) rfl ?_)
  show wpAny _ _ (seqItems? (.ref l) >>= _) _ _ s
  refine wB0 (wpAny_seqItems hol hdl ?_)
  simp only [toNat_natCast,hx]
  refine wB0 (wpAny_setField ho hd (by simp) (wP0 ⟨x,rfl,wP0 (hQ _ ?_ (Heap.SameBut.update ..))⟩))
  exact⟨_,Heap.get?_update_self _ ho (Obj.isFreed_of_fields (Obj.data_mapFields hd _)),(Obj.cls_mapFields ..).trans hc,by rw [Obj.data_mapFields hd];simp [rawInt]⟩
theorem yMC{k:Bool}{it l:Addr}{i:Nat}{its:Array Value}{Q:Value->Shared->Prop}(hh:A.handled=none)(hit:IsSub k s.heap it l i)(hl:zNU k s.heap l its)(hx:its[i]? =none)
  (hE: ∀h' e,Heap.ExtBut it s.heap h'->(∃o,h'.get? e=some o/\o.cls=.type "StopIteration")->E (.ref e) {s with heap:=h'}):wpAny (model prog w) A (Builtin.SmallTypes.nextOf (.ref it)) Q E s:=by
 cases k with
 |true=>exact wpAny_nextOf_list_end hh hit hl hx hE
 |false=>
  have hit':s.heap.IsTupleIter it l i:=hit
  obtain⟨o,ho,hc,hd⟩:=id hit'
  obtain⟨ol,hol,_,nl,hdl⟩:=(hl:s.heap.IsTuple l its)
  unfold Builtin.SmallTypes.nextOf
  refine wB0 (wpAny_callSpecial?_slot (name:=Str.ofString "__next__") hit'.typeIs F.slot_tuple_iterator_next (wpAny_call_entry F.slot_tuple_iterator_next hit'.typeIs F.entry_tuple_iterator_next ?_ (F.args_tuple_iterator_next_1 _)))
  show wpAny _ _ (field (.ref it) 0 >>= _) _ _ s
  refine wB0 (wpAny_field ho hd (x:=.ref l) rfl ?_)
  show wpAny _ _ (if(Value.ref l==Value.none)=true then _ else _) _ _ s
  rw [iN (show¬((Value.ref l==Value.none)=true)from xF0)]
  show wpAny _ _ (field (.ref it) 1 >>= _) _ _ s
  refine wB0 (wpAny_field ho hd (x:=.int i 0) rfl ?_)
  show wpAny _ _ (seqItems? (.ref l) >>= _) _ _ s
  refine wB0 (wpAny_seqItems hol hdl ?_)
  simp only [toNat_natCast,hx]
  refine wB0 (wpAny_rule (wB0 (wpAny_setField ho hd (by simp) ?_)))
  show wpAny _ _ (newExc (.type "StopIteration") [] >>= _) _ _ _
  refine wB0 ?_
  simp only [newExc,newTuple]
  refine wB0 (wpAny_newObj_type ?_ (by size_fits))
  refine wB0 (m:=firstArgMember _ _) (wpAny_of_eq (a:=Value.none) (by first |rfl|(simp only [firstArgMember];rfl)) ?_)
  refine wpAny_newObj_type ?_ (by size_fits)
  simp only [raiseNew]
  refine wB0 (wpAny_handled ?_)
  first |rw [show A.in1.handled=none from hh]|rw [hh]
  refine wB0 (wP0 (wpAny_throw ?_))
  exact hE _ _ (((Heap.SameBut.update ..).extBut.push _).push _) ⟨_,Heap.get?_push_size _ rfl,rfl⟩
end
def SqK(k:Bool)(K:PySem.W.Frag)(H:Hp)(a:Addr)(xs:List V):Prop:=if k=true then SqL K H a xs else SqT K H a xs
section
variable{X:Cx}{pins:List (Addr×Obj)}{σ:St}{H:Hp}{s:Shared}
theorem _root_.L2.Inv.seqK(I:Inv X pins σ H s){k:Bool}{a:Addr}{xs:List V}(h:SqK k X.K H a xs): ∃its:List Value,Vals xs its/\zNU k s.heap a its.toArray/\xs.length<=sizeLine:=by
 cases k with
 |true=>obtain⟨its,r,p,z⟩:=I.list h;exact⟨its,r,p.isList,z⟩
 |false=>obtain⟨its,r,p,z⟩:=I.tuple h;exact⟨its,r,p,z⟩
theorem _root_.L2.Inv.seqK_inj(I:Inv X pins σ H s){k:Bool}{a:Addr}{xs ys:List V}(h:SqK k X.K H a xs)(h':SqK k X.K H a ys):xs=ys:=by
 cases k with
 |true=>exact I.list_inj h h'
 |false=>exact I.tuple_inj h h'
end
structure Sr where
 k:Bool
 ds:List MV
 gs:List (Nat×List MV)
def srcOf(S:Sto):Er->Option Sr
 |.val (.tup ds)=>some ⟨false,ds,[]⟩
 |.new ds=>some ⟨true,ds,[]⟩
 |.val (.scr ds)=>some ⟨true,ds,[]⟩
 |.val (.loc l)=>match S[l]? with
  |some (.lst ds)=>some ⟨true,ds,[(l,ds)]⟩
  |_=>none
 |_=>none
structure SrcD(X:Cx)(q:Sr)(l:Addr)(P:List Addr->Sto->Hp->Prop):Prop where
 get: ∀α S H,P α S H-> ∃vs,SqK q.k X.K H l vs/\DenL X.K α H q.ds vs
 stays: ∀α1 S1 H1 α2 S2 H2,P α1 S1 H1->Ext α1 H1 α2 H2->Wd X.g α2 S2 H2->stay q.gs S2->P α2 S2 H2
 st: ∀α S H,P α S H->stay q.gs S
theorem yIN{X:Cx}{α:List Addr}{S:Sto}{H:Hp}(wd:Wd X.g α S H){r:Er}{x:V}{q:Sr}(e:srcOf S r=some q)(d:DenX X.K α H r x): ∃l P,x=.ref l/\P α S H/\SrcD X q l P:=by
 unfold srcOf at e
 split at e
 ·rename_i ds
  cases e
  obtain⟨a,vs,rfl,s,l⟩:=zAJ d
  exact⟨a,λα S H=> ∃vs,SqT X.K H a vs/\DenL X.K α H ds vs,rfl,⟨vs,s,l⟩,λα S H h=>h,λα1 S1 H1 α2 S2 H2 ⟨vs,h1,h2⟩ x w _=>⟨vs,x.sqT h1,h2.ext x⟩,λ_ _ _ _=>dH⟩
 ·rename_i ds
  cases e
  obtain⟨b,vs,rfl,h,n,l⟩:=d
  exact⟨b,λα S H=> ∃vs,H b=some (.lst vs)/\b∉α/\DenL X.K α H ds vs,rfl,⟨vs,h,n,l⟩,λα S H ⟨vs,h1,_,h2⟩=>⟨vs,(SqL.of h1:SqL X.K H b vs),h2⟩,
   λα1 S1 H1 α2 S2 H2 ⟨vs,h1,h2,h3⟩ x w _=>⟨vs,x.keep b _ h1 h2,x.out h1 h2,h3.ext x⟩,λ_ _ _ _=>dH⟩
 ·rename_i ds
  cases e
  obtain⟨a,vs,rfl,s,l⟩:=zUR d
  exact⟨a,λα S H=> ∃vs,SqF X.K H a vs/\DenL X.K α H ds vs,rfl,⟨vs,s,l⟩,λα S H ⟨vs,h1,h2⟩=>⟨vs,h1.l,h2⟩,λα1 S1 H1 α2 S2 H2 ⟨vs,h1,h2⟩ x w _=>⟨vs,x.sqF h1,h2.ext x⟩,λ_ _ _ _=>dH⟩
 ·rename_i n
  split at e
  ·rename_i ds hS
   cases e
   obtain⟨a,rfl,h⟩:=zGY d
   obtain⟨vs,h1,h2⟩:=wd.obj n a _ h hS
   refine⟨a,λα S H=> ∃vs,H a=some (.lst vs)/\DenL X.K α H ds vs/\α[n]? =some a/\S[n]? =some (.lst ds),rfl,⟨vs,h1,h2,h,hS⟩,λα S H ⟨vs,h1,h2,_⟩=>⟨vs,(SqL.of h1:SqL X.K H a vs),h2⟩,?_,?_⟩
   ·intro α1 S1 H1 α2 S2 H2 ⟨vs,a1,a2,a3,a4⟩ x w hs
    have hs':=hs (n,ds) (by simp)
    obtain⟨us,b1,b2⟩:=w.obj n a _ (x.at a3) hs'
    exact⟨us,b1,b2,x.at a3,hs'⟩
   ·intro α S H ⟨vs,_,_,_,a4⟩ p hp
    have:p=(n,ds):=by simpa using hp
    subst this
    exact a4
  ·cases e
 ·cases e
section
variable{X:Cx}{W:XW}{a b:Expr}{elts:List Expr}{kt:Nat}{pt p pos:Pos}{ta:TA}{af:Rho->Sto->R (List Er)}
theorem yMD:bootBuiltins "enumerate"=some (.type "enumerate"):=by decide+kernel
end
structure EnSt(k:Bool)(e it l:Addr)(i:Nat)(h:Heap):Prop where
 e: ∃old,IsEnum h e it i old
 s:IsSub k h it l i
section
variable{prog:Program}{w:World}{A:Around}{E:Value->Shared->Prop}{s:Shared}{k:Bool}{e it l:Addr}{i:Nat}{its:Array Value}
theorem yME{x old:Value}{Q:Value->Shared->Prop}(he:IsEnum s.heap e it i old)(hit:IsSub k s.heap it l i)(hl:zNU k s.heap l its)(hx:its[i]? =some x)(hne:e≠it)
  (hQ: ∀h',IsEnumOut h' e it ((i:Int)+1) x s.heap.objs.size->IsSub k h' it l (i+1)->h'.get? s.heap.objs.size=some {cls:=.type "tuple",data:=.seq #[.int i s.toks,x]}->
   (∀b o,b≠e->b≠it->s.heap.get? b=some o->h'.get? b=some o)->Q (.ref s.heap.objs.size) {s with heap:=h',toks:=s.toks+1}):
  wpAny (model prog w) A (Builtin.«enumerate.__next__» ⟨[.ref e],[]⟩) (λfin s'=> ∃v,fin=.done (.ret v)/\Q v s') E s:=by
 obtain⟨hp,g,d,tk,os⟩:=s
 show wpAny _ _ (field (.ref e) 2 >>= _) _ _ _
 refine wB0 (wpAny_field he rfl (x:=.ref it) rfl (wB0 (yIM hit hl hx λha ita hsa=>?_)))
 replace hsa:Heap.SameBut it hp ha:=hsa
 have ea:IsEnum ha e it i old:=(hsa.2 e hne).trans he
 show wpAny _ _ (field (.ref e) 3 >>= _) _ _ ⟨ha,g,d,tk,os⟩
 refine wB0 (wpAny_field ea rfl (x:=rawInt i) rfl ?_)
 show wpAny _ _ (field (.ref e) 4 >>= _) _ _ ⟨ha,g,d,tk,os⟩
 refine wB0 (wpAny_field ea rfl (x:=.none) rfl ?_)
 show wpAny _ _ (mkInt i >>= _) _ _ ⟨ha,g,d,tk,os⟩
 refine wB0 (wpAny_mkInt ?_)
 show wpAny _ _ (setField (.ref e) 3 (rawInt ((i:Int)+1)) >>= _) _ _ ⟨ha,g,d,tk+1,os⟩
 refine wB0 (wpAny_setField_rec ea (by simp) λhb eb hsb=>?_)
 replace hsb:Heap.SameBut e ha hb:=hsb
 replace eb:IsEnum hb e it ((i:Int)+1) old:=eb
 show wpAny _ _ (setField (.ref e) 4 .none >>= _) _ _ ⟨hb,g,d,tk+1,os⟩
 refine wB0 (wpAny_setField_rec eb (by simp) λhc ec hsc=>?_)
 replace hsc:Heap.SameBut e hb hc:=hsc
 replace ec:IsEnum hc e it ((i:Int)+1) old:=ec
 show wpAny _ _ (newTuple [.int i tk,x] >>= _) _ _ ⟨hc,g,d,tk+1,os⟩
 refine wB0 (wpAny_newTuple ?_)
 have hsz:hc.objs.size=hp.objs.size:=by rw [hsc.1,hsb.1,hsa.1]
 have hel:e<hp.objs.size:=Heap.lt_size he
 have ed:IsEnum (hc.push {cls:=.type "tuple",data:=.seq #[.int i tk,x]}) e it ((i:Int)+1) old:=hP0 _ ec
 have td:(hc.push {cls:=.type "tuple",data:=.seq #[.int i tk,x]}).get? hp.objs.size=some {cls:=.type "tuple",data:=.seq #[.int i tk,x]}:=by rw [<-hsz];exact Heap.get?_push_size _ rfl
 have kd: ∀b o,b≠e->b≠it->hp.get? b=some o->(hc.push {cls:=.type "tuple",data:=.seq #[.int i tk,x]}).get? b=some o:=λb o n1 n2 q=>
  hP0 _ (hsc.extBut b o n1 (hsb.extBut b o n1 (hsa.extBut b o n2 q)))
 have sd:IsSub k (hc.push {cls:=.type "tuple",data:=.seq #[.int i tk,x]}) it l (i+1):=ita.move λo q=>hP0 _ (hsc.extBut _ o (Ne.symm hne) (hsb.extBut _ o (Ne.symm hne) q))
 generalize hc.push {cls:=.type "tuple",data:=.seq #[.int i tk,x]}=hd at ed td kd sd ⊢
 show wpAny _ _ (Builtin.SmallTypes.ownedTupleIsFree (.ref e) >>= _) _ _ ⟨hd,g,d,tk+1,os⟩
 rw [hsz]
 refine wB0 ?_
 unfold Builtin.SmallTypes.ownedTupleIsFree
 refine wB0 (wpAny_field ed rfl (x:=.none) rfl (wP0 ?_))
 simp only [if_true]
 refine wB0 (wpAny_rule (wB0 (wpAny_field ed rfl (x:=old) rfl (wB0 (wpAny_setField_rec ed (by simp) λhf ef hsf=>?_)))))
 replace hsf:Heap.SameBut e hd hf:=hsf
 replace ef:IsEnum hf e it ((i:Int)+1) x:=ef
 show wpAny _ _ (Builtin.SmallTypes.ownedTupleHandOut (.ref e) (.ref hp.objs.size) >>= _) _ _ ⟨hf,g,d,tk+1,os⟩
 refine wB0 ?_
 unfold Builtin.SmallTypes.ownedTupleHandOut
 refine wB0 (wpAny_setField_rec ef (by simp) λhg' eg hsg=>?_)
 replace hsg:Heap.SameBut e hf hg':=hsg
 replace eg:IsEnumOut hg' e it ((i:Int)+1) x hp.objs.size:=eg
 refine wpAny_setField_rec eg (by simp) λhh' eh hsh=>?_
 replace hsh:Heap.SameBut e hg' hh':=hsh
 replace eh:IsEnumOut hh' e it ((i:Int)+1) x hp.objs.size:=eh
 have up: ∀b o,b≠e->hd.get? b=some o->hh'.get? b=some o:=λb o n q=>hsh.extBut b o n (hsg.extBut b o n (hsf.extBut b o n q))
 exact wB0 (wpAny_letGo (wP0 ⟨_,rfl,hQ hh' eh (sd.move λo q=>up _ o (Ne.symm hne) q) (up _ _ (ne_of_gt hel) td) λb o n1 n2 q=>up b o n1 (kd b o n1 n2 q)⟩))
theorem yBC(k:Bool)(l:Addr)(its:Array Value):
  Meets (Builtin.«enumerate.__new__» ⟨[.type "enumerate",.ref l],[]⟩) (λ_ R s=>zNU k s.heap l its/\
   R (.ok (.ret (.ref (s.heap.objs.size+1)))) {s with heap:=(s.heap.push (zMM k l)).push {cls:=.type "enumerate",data:=.fields #[.none,.bool false,.ref s.heap.objs.size,rawInt 0,.none,.none]}}):=
 .of_wp λprog w A R s h=>by
  obtain⟨hp,g,d,tk,os⟩:=s;obtain⟨hl,h⟩:=h
  have hsub:=sub_enumerate
  have hL:zNU k (Shared.heap ⟨hp,g,d,tk,os⟩) l its:=hl
  have z1: ∀(h:Heap)(o:Obj),(h.push o).objs.size=h.objs.size+1:=λh o=>Heap.size_push ..
  wp_walk
  refine wpAny_stack_any λst=>wP0 ?_
  split
  ·rename_i c _ _ _ _ _
   cases (c==Value.type "enumerate")
   ·wp_walk using zQF hL
    exact⟨_,rfl,by simp only [z1];exact h⟩
   ·wp_walk using zQF hL
    exact⟨_,rfl,by simp only [z1];exact h⟩
  ·wp_walk using zQF hL
   exact⟨_,rfl,by simp only [z1];exact h⟩
end
def zTP(K:PySem.W.Frag)(F:List MV->Sto->R Er):Sp:=λvs H Q _=> ∃ds,DenL K [] H ds vs/\ds.length=1/\ ∀g:Gm,g.K=K->Post g W0 [] H (F ds []) Q
theorem yIO{g:Gm}{F:List MV->Sto->R Er}: ∀vs H Q E,zTP g.K F vs H Q E->spM g 1 F vs H Q E:=λvs H Q E ⟨ds,l,hl,q⟩=>⟨[],[],ds,⟨rfl,by simp,λl a o h=>by simp at h⟩,l,hl,q g rfl⟩
theorem yRJ{K:PySem.W.Frag}{H:Hp}{a:Addr}{xs:List V}(hO:yHF H)(h:SqL K H a xs):SqF K H a xs:=by
 rcases h with(h|⟨o,h⟩)|h
 ·rcases hO a with z|⟨o,ys,z⟩
  ·rw [z]at h;cases h
  ·rw [z]at h;cases h
 ·exact .inl ⟨o,h⟩
 ·exact .inr h
theorem yIP{K:PySem.W.Frag}{F:List MV->Sto->R Er}{H:Hp}{a:Addr}{ns:List Int}(hO:yHF H)(hS:SqL K H a (ns.map V.int))(h: ∃S,F [.scr (ns.map MV.int)] []=.ok (.val (.bl true)) S):zTP K F [.ref a] H (λv _=>v=.bl true) λ_ _ _=>False:=by
 obtain⟨S,h⟩:=h
 refine⟨_,yW (yCP (yRJ hO hS) (zIV ns)) xN,rfl,λg _=>?_⟩
 rw [h]
 exact λv α' H' x w d=>zPV d.1
theorem bok{β γ:Type}(b:β)(S:Sto)(k:β->Sto->R γ):(R.ok b S).bind k=k b S:=by
 have h:=R.bind_ok b S k
 exact Eq.trans h rfl
theorem yMF(d:MV)(S:Sto):rdSl (some (some d)) S=.ok (.val d) S:=rfl
theorem zQG{S T:Sto}:zNT S (S++T):=⟨by rw [lA];omega,λl hl=>.inl (getElem?_append_left hl)⟩
theorem wQ(n:Nat)(i:Int):lo n (.int i):=by unfold lo;trivial
theorem zHG(n:Nat)(i:List Nat):lo n (.str i):=by unfold lo;trivial
theorem yPA(n:Nat)(i:Bool):lo n (.bl i):=by unfold lo;trivial
theorem wE{n:Nat}{ds:List MV}(h:loL n ds):lo n (.tup ds):=by unfold lo;exact h
theorem yO{n:Nat}: ∀{ds:List MV},(∀d∈ds,lo n d)->loL n ds
 |[],_=>by unfold loL;trivial
 |d::ds,h=>by unfold loL;exact⟨h d mF0,yO λe he=>h e (mO _ he)⟩
theorem yIQ{S T:Sto}{d:MV}(h:lo S.length d)(hn: ∀l,d≠.loc l):bX S (.val d) (S++T)=.ok (.val d) S:=by
 unfold bX
 rw [iP zQG]
 have e:(S++T).take S.length=S:=by simp
 cases d with
 |loc l=>exact absurd rfl (hn l)
 |_=>dsimp only;rw [iP h,e]
theorem yIR{S T:Sto}{ds:List MV}(h:loL S.length ds):bX S (.new ds) (S++T)=.ok (.new ds) S:=by
 unfold bX
 rw [iP zQG]
 have e:(S++T).take S.length=S:=by simp
 dsimp only
 rw [iP h,e]
theorem yIS{S T:Sto}{l:Nat}{ds:List MV}(hl:S.length<=l)(hS:(S++T)[l]? =some (.lst ds))(h:loL S.length ds):bX S (.val (.loc l)) (S++T)=.ok (.new ds) S:=by
 unfold bX
 rw [iP zQG]
 have e:(S++T).take S.length=S:=by simp
 dsimp only
 rw [iN (by omega),hS]
 dsimp only
 rw [iP h,e]
theorem wY{n:Nat}{F:List MV->Sto->R Er}{rs:List Er}{S T:Sto}{d:MV}(hn:rs.length=n)(hF:F (zV rs S).1 (zV rs S).2=.ok (.val d) (S++T))(h:lo S.length d)(hd: ∀l,d≠.loc l):zT n F rs S=.ok (.val d) S:=by
 unfold zT
 rw [iP hn,hF]
 exact yIQ h hd
theorem zHH{n:Nat}{F:List MV->Sto->R Er}{rs:List Er}{S T:Sto}{ds:List MV}(hn:rs.length=n)(hF:F (zV rs S).1 (zV rs S).2=.ok (.new ds) (S++T))(h:loL S.length ds):zT n F rs S=.ok (.new ds) S:=by
 unfold zT
 rw [iP hn,hF]
 exact yIR h
theorem yIT{n:Nat}{F:List MV->Sto->R Er}{rs:List Er}{S T:Sto}{l:Nat}{ds:List MV}(hn:rs.length=n)(hF:F (zV rs S).1 (zV rs S).2=.ok (.val (.loc l)) (S++T))(hl:S.length<=l)(hS:(S++T)[l]? =some (.lst ds))(h:loL S.length ds):zT n F rs S=.ok (.new ds) S:=by
 unfold zT
 rw [iP hn,hF]
 exact yIS hl hS h
theorem zAG{n:Nat}{F:List MV->Sto->R Er}{rs:List Er}{S:Sto}{d:MV}(hn:rs.length=n)(hF:F (zV rs S).1 (zV rs S).2=.ok (.val d) S)(h:lo S.length d)(hd: ∀l,d≠.loc l):zT n F rs S=.ok (.val d) S:=wY (T:=[]) hn (by rw [aN];exact hF) h hd
theorem zXX{gf:MV->Rho->Sto->R Rho}{body:Rho->Sto->R Fl}{gs:List (Nat×List MV)}{L:List MV}(I:Nat->Rho->Sto->Prop)
  (st: ∀i d,L[i]? =some d-> ∀ρ S,I i ρ S-> ∃ρ' S',((gf d ρ S).bind λρ0 S0=>body ρ0 S0)=.ok (.next ρ') S'/\stay gs S'/\I (i+1) ρ' S'):
  ∀(n i:Nat){ρ:Rho}{S:Sto},n+i=L.length->I i ρ S-> ∃ρ' S',cF gf body gs (L.drop i) ρ S=.ok (.next ρ') S'/\I L.length ρ' S'
 |0,i,ρ,S,hn,h=>by
  have e:i=L.length:=by omega
  subst e
  rw [drop_length]
  exact⟨ρ,S,rfl,h⟩
 |n+1,i,ρ,S,hn,h=>by
  have hi:i<L.length:=by omega
  obtain⟨ρ1,S1,e,hs,h1⟩:=st i L[i] (gE0 hi) ρ S h
  obtain⟨ρ2,S2,e2,h2⟩:=zXX I st n (i+1) (by omega) h1
  refine⟨ρ2,S2,?_,h2⟩
  rw [List.drop_eq_getElem_cons hi]
  unfold cF
  cases z:gf L[i] ρ S with
  |ok ρ0 S0=>
   rw [z]at e
   have e:body ρ0 S0=.ok (.next ρ1) S1:=e
   rw [bok]
   show(body ρ0 S0).bind _=_
   rw [e,bok]
   dsimp only
   rw [iP hs]
   exact e2
  |exc c fs S0=>rw [z]at e;cases e
  |no=>rw [z]at e;cases e
theorem zKA{gf:MV->Rho->Sto->R Rho}{body:Rho->Sto->R Fl}{gs:List (Nat×List MV)}{L:List MV}(I:Nat->Rho->Sto->Prop)
  (st: ∀i d,L[i]? =some d-> ∀ρ S,I i ρ S-> ∃ρ' S',((gf d ρ S).bind λρ0 S0=>body ρ0 S0)=.ok (.next ρ') S'/\stay gs S'/\I (i+1) ρ' S') {ρ:Rho} {S:Sto} (h:I 0 ρ S):
  ∃ρ' S',cF gf body gs L ρ S=.ok (.next ρ') S'/\I L.length ρ' S':=zXX I st L.length 0 (by omega) h
section
variable{S:Sto}
theorem as_bl(b:Bool)(S:Sto):asB (.val (.bl b)) S=.ok b S:=rfl
theorem as_int(i:Int)(S:Sto):asI (.val (.int i)) S=.ok (some i) S:=rfl
theorem yRK(b:Bool)(S:Sto):zET (.val (.bl b)) S=.ok b S:=rfl
theorem add_int(i j:Int)(S:Sto):jM (.val (.int i)) (.val (.int j)) S=.ok (.val (.int (i+j))) S:=rfl
theorem sub_int(i j:Int)(S:Sto):yID (.val (.int i)) (.val (.int j)) S=.ok (.val (.int (i - j))) S:=rfl
theorem add_str{x y:List Nat}(h:x.length+y.length<=sizeLine):jM (.val (.str x)) (.val (.str y)) S=.ok (.val (.str (x++y))) S:=iP h
theorem yRL{g:Int->Int->Bool}(i j:Int)(S:Sto):ibF g (.val (.int i)) (.val (.int j)) S=.ok (.val (.bl (g i j))) S:=rfl
theorem yMG(i j:Int):eqV (.int i) (.int j)=decide (i=j):=by
 show(i==j)=_
 by_cases h:i=j
 ·subst h;simp
 ·rw [dF0 h];simpa using h
theorem yMH(x y:List Nat):eqV (.str (mkS x)) (.str (mkS y))=decide (x=y):=by
 show(mkS x==mkS y)=_
 by_cases h:x=y
 ·subst h;simp
 ·rw [dF0 h]
  have:mkS x≠mkS y:=λz=>h (zUN z)
  simpa using this
theorem zVB(n:Nat)(i j:Int):eqv S (n+1) (.int i) (.int j)=some (decide (i=j)):=by rw [<-yMG];rfl
theorem zLA(n:Nat)(x y:List Nat):eqv S (n+1) (.str x) (.str y)=some (decide (x=y)):=by rw [<-yMH];rfl
theorem yRM(n:Nat)(x:Int)(y:List Nat):eqv S (n+1) (.int x) (.str y)=some false:=rfl
theorem yRN(n:Nat)(x:List Nat)(y:Int):eqv S (n+1) (.str x) (.int y)=some false:=rfl
theorem yMI(d f:MV):eqF (.val d) (.val f) S=match eqv S (zZ+1) d f with |some k=>.ok (.val (.bl k)) S|none=>.no:=rfl
theorem yMJ(d f:MV):neF (.val d) (.val f) S=match eqv S (zZ+1) d f with |some k=>.ok (.val (.bl !k)) S|none=>.no:=rfl
theorem yBD{d f:MV}{k:Bool}(h:eqv S (zZ+1) d f=some k):eqF (.val d) (.val f) S=.ok (.val (.bl k)) S:=by rw [yMI,h]
theorem zMN{d f:MV}{k:Bool}(h:eqv S (zZ+1) d f=some k):neF (.val d) (.val f) S=.ok (.val (.bl !k)) S:=by rw [yMJ,h]
theorem eq_int(i j:Int)(S:Sto):eqF (.val (.int i)) (.val (.int j)) S=.ok (.val (.bl (decide (i=j)))) S:=yBD (zVB _ i j)
theorem ne_int(i j:Int)(S:Sto):neF (.val (.int i)) (.val (.int j)) S=.ok (.val (.bl (!decide (i=j)))) S:=zMN (zVB _ i j)
theorem lt_int(i j:Int)(S:Sto):ltF (.val (.int i)) (.val (.int j)) S=.ok (.val (.bl (decide (i<j)))) S:=rfl
theorem lt_str(i j:List Nat)(S:Sto):ltF (.val (.str i)) (.val (.str j)) S=.ok (.val (.bl (decide (i<j)))) S:=rfl
theorem zOY{b:Int}(h:0<b)(h2:b<1073741824)(a:Int)(S:Sto):zXS (.val (.int a)) (.val (.int b)) S=.ok (.val (.int (a / b))) S:=by
 refine iP ⟨h,?_⟩
 have h3:b.natAbs<2 ^ 30:=by omega
 have:=(Nat.log2_lt (by omega:b.natAbs≠0)).mpr h3
 omega
theorem mod_lit{b:Int}(h:0<b)(a:Int)(S:Sto):zQA (.val (.int a)) (.val (.int b)) S=.ok (.val (.int (a % b))) S:=iP h
theorem yCZ{b:Int}(h: -(2 ^ 64)<b/\b<2 ^ 64)(a:Int)(S:Sto):zHD (.val (.int a)) (.val (.int b)) S=.ok (.val (.int (a * b))) S:=iP (Or.inr (Or.inl h))
theorem zQH{a:Int}(h: -(2 ^ 64)<a/\a<2 ^ 64)(b:Int)(S:Sto):zHD (.val (.int a)) (.val (.int b)) S=.ok (.val (.int (a * b))) S:=iP (Or.inl h)
theorem yMK(ρ:Rho)(i:Nat)(d:MV)(S:Sto):zUU ρ i (.val d) S=.ok (.next (ρ.set i (some d))) S:=rfl
theorem yML(ρ:Rho)(i:Nat)(ds:List MV)(S:Sto):zUU ρ i (.new ds) S=.ok (.next (ρ.set i (some (.loc S.length)))) (S++[.lst ds]):=rfl
theorem yMM(S:Sto):zV [] S=([],S):=rfl
theorem yMN(d:MV)(rs:List Er)(S:Sto):zV (.val d::rs) S=(d::(zV rs S).1,(zV rs S).2):=rfl
theorem zC{F G:Rho->Sto->R Fl}{ρ ρ':Rho}{S S':Sto}(h:F ρ S=.ok (.next ρ') S'):zW F G ρ S=G ρ' S':=by unfold zW;rw [h];rfl
theorem yR{F G:Rho->Sto->R Fl}{ρ:Rho}{S S':Sto}{r:Er}(h:F ρ S=.ok (.ret r) S'):zW F G ρ S=.ok (.ret r) S':=by unfold zW;rw [h];rfl
theorem kL(S:Sto):stay [] S:=dH
theorem dI{gf:MV->Rho->Sto->R Rho}{b:Rho->Sto->R Fl}{gs:List (Nat×List MV)}{d:MV}{ds:List MV}{ρ ρ0 ρ':Rho}{S0 S':Sto}(hg:gf d ρ S=.ok ρ0 S0)(h:b ρ0 S0=.ok (.next ρ') S')(hs:stay gs S'):cF gf b gs (d::ds) ρ S=cF gf b gs ds ρ' S':=by
 conv=>lhs;unfold cF
 rw [hg,bok,h,bok]
 dsimp only
 rw [iP hs]
theorem zVC{gf:MV->Rho->Sto->R Rho}{b:Rho->Sto->R Fl}{gs:List (Nat×List MV)}{d:MV}{ds:List MV}{ρ ρ0:Rho}{S0 S':Sto}{r:Er}(hg:gf d ρ S=.ok ρ0 S0)(h:b ρ0 S0=.ok (.ret r) S'):cF gf b gs (d::ds) ρ S=.ok (.ret r) S':=by
 conv=>lhs;unfold cF
 rw [hg,bok,h,bok]
theorem yBE{t:Rho->Sto->R Bool}{b:Rho->Sto->R Fl}{n:Nat}{ρ ρ':Rho}{S1 S2:Sto}(h1:t ρ S=.ok true S1)(h2:b ρ S1=.ok (.next ρ') S2):gY t b (n+1) ρ S=gY t b n ρ' S2:=by
 conv=>lhs;unfold gY
 rw [h1,bok,iP rfl,h2,bok]
theorem yFG{t:Rho->Sto->R Bool}{b:Rho->Sto->R Fl}{n:Nat}{ρ:Rho}{S1:Sto}(h1:t ρ S=.ok false S1):gY t b (n+1) ρ S=.ok (.next ρ) S1:=by
 conv=>lhs;unfold gY
 rw [h1,bok,iN xF0]
theorem cZ{α:Type}{xs:List α}{i:Int}(h0:0<=i)(h1:i<xs.length): ∃c,atI xs i=some c:=by
 refine⟨xs[i.toNat]'(by omega),?_⟩
 unfold atI ixN
 rw [iP h0,iP h1]
 exact gE0 _
theorem yMO{α:Type}{xs:List α}{i:Int}(h0: -(xs.length:Int)<=i)(h1:i<xs.length): ∃c,atI xs i=some c:=by
 by_cases h:0<=i
 ·exact cZ h h1
 ·refine⟨xs[(i+xs.length).toNat]'(by omega),?_⟩
  unfold atI ixN
  rw [iN h,iP h0]
  exact gE0 _
theorem dA{α:Type}{P:α->Prop}{xs:List α}{i:Int}{e:α}(h: ∀e∈xs,P e)(z:atI xs i=some e):P e:=by
 unfold atI at z
 cases q:ixN xs.length i with
 |none=>rw [q]at z;cases z
 |some j=>rw [q]at z;exact h e (mem_of_getElem? (show xs[j]? =some e from z))
theorem ix_str{x:List Nat}{i:Int}{c:Nat}(h:x.length<=sizeLine)(hk:atI x i=some c):ixF (.val (.str x)) (.val (.int i)) S=.ok (.val (.str [c])) S:=by
 show(if x.length<=sizeLine then match atI x i with |some c=>R.ok (Er.val (.str [c])) S|none=>.no else .no)=_
 rw [iP h,hk]
theorem ix_tup{ds:List MV}{i:Int}{d:MV}(hk:atI ds i=some d):ixF (.val (.tup ds)) (.val (.int i)) S=.ok (.val d) S:=by
 show(match atI ds i with |some d=>R.ok (Er.val d) S|none=>.no)=_
 rw [hk]
theorem zQI{ds:List MV}{i:Int}{d:MV}(hk:atI ds i=some d):ixF (.new ds) (.val (.int i)) S=.ok (.val d) S:=by
 show(match atI ds i with |some d=>R.ok (Er.val d) S|none=>.no)=_
 rw [hk]
theorem zHI{l:Nat}{ds:List MV}{i:Int}{d:MV}(hS:S[l]? =some (.lst ds))(hk:atI ds i=some d):ixF (.val (.loc l)) (.val (.int i)) S=.ok (.val d) S:=by
 have e:jB S (.val (.loc l))=some ds:=by unfold jB;dsimp only;rw [hS]
 show(match jB S (.val (.loc l))with |some ds=>getL ds (.val (.int i)) S|none=>.no)=_
 rw [e]
 show(match atI ds i with |some d=>R.ok (Er.val d) S|none=>.no)=_
 rw [hk]
theorem yDA{l:Nat}{ds:List MV}(hS:S[l]? =some (.lst ds)):dX [.val (.loc l)] S=.ok (.val (.int ds.length)) S:=by
 have e:jB S (.val (.loc l))=some ds:=by unfold jB;dsimp only;rw [hS]
 have e2:itemsOf S (.val (.loc l))=some ds:=by unfold itemsOf;exact e
 show(match itemsOf S (.val (.loc l))with |some ds=>R.ok (Er.val (.int ds.length)) S|none=>.no)=_
 rw [e2]
theorem zEH{l:Nat}{ds:List MV}(hS:S[l]? =some (.lst ds)):jB S (.val (.loc l))=some ds:=by unfold jB;dsimp only;rw [hS]
theorem jC{l:Nat}{ds:List MV}(hS:S[l]? =some (.lst ds)):itL (.val (.loc l)) S=.ok ⟨ds,[(l,ds)]⟩ S:=by unfold itL;dsimp only;rw [hS]
theorem wZ{l:Nat}{ds:List MV}(hS:S[l]? =some (.lst ds)):stay [(l,ds)] S:=λp hp=>by
 have:p=(l,ds):=by simpa using hp
 subst this;exact hS
theorem dY{j:Int}(h: -(2 ^ 62)<=j/\j<2 ^ 62):zAL [.val (.int j)] S=.ok ⟨(List.range j.toNat).map λk=>.int (k:Nat),[]⟩ S:=iP h
theorem cut_str{x:List Nat}(h:x.length<=sizeLine)(lo hi:Option Int):zSF (.val (.str x)) lo hi S=.ok (.val (.str (gS x lo hi))) S:=iP h
theorem yIU{α:Type}(x:List α)(lo hi:Option Int):(gS x lo hi).length<=x.length:=by
 unfold gS
 rw [lT,length_drop]
 omega
theorem zXY{α β:Type}(f:α->β)(x:List α)(lo hi:Option Int):gS (x.map f) lo hi=(gS x lo hi).map f:=by
 unfold gS
 rw [lM,List.map_take,List.map_drop]
theorem fits{n:Nat}(h:n<=1000000):n<=sizeLine:=by rw [sizeLine_eq];exact le_trans h (by decide)
theorem zHJ{rs:List Er}(h:rs.length<=1000000):gW rs S=.ok (.new (zV rs S).1) (zV rs S).2:=iP (fits h)
theorem zHK{rs:List Er}(h:rs.length<=1000000):nX rs S=.ok (.val (.tup (zV rs S).1)) (zV rs S).2:=iP (fits h)
theorem yBF(S:Sto):gW [] S=.ok (.new []) S:=zHJ (by simp)
theorem lst1(a:MV)(S:Sto):gW [.val a] S=.ok (.new [a]) S:=zHJ (by simp)
theorem lst2(a b:MV)(S:Sto):gW [.val a,.val b] S=.ok (.new [a,b]) S:=zHJ (by simp)
theorem lst3(a b c:MV)(S:Sto):gW [.val a,.val b,.val c] S=.ok (.new [a,b,c]) S:=zHJ (by simp)
theorem lst6(a b c d e f:MV)(S:Sto):gW [.val a,.val b,.val c,.val d,.val e,.val f] S=.ok (.new [a,b,c,d,e,f]) S:=zHJ (by simp)
theorem tup2(a b:MV)(S:Sto):nX [.val a,.val b] S=.ok (.val (.tup [a,b])) S:=zHK (by simp)
theorem tup3(a b c:MV)(S:Sto):nX [.val a,.val b,.val c] S=.ok (.val (.tup [a,b,c])) S:=zHK (by simp)
theorem yRO(i:Int)(S:Sto):zGS [.val (.int i),.val (.typ "str")] S=.ok (.val (.bl false)) S:=rfl
theorem yRP(i:List Nat)(S:Sto):zGS [.val (.str i),.val (.typ "str")] S=.ok (.val (.bl true)) S:=rfl
theorem yRQ(i:Int)(S:Sto):zGS [.val (.int i),.val (.typ "tuple")] S=.ok (.val (.bl false)) S:=rfl
theorem yRR(i:List Nat)(S:Sto):zGS [.val (.str i),.val (.typ "tuple")] S=.ok (.val (.bl false)) S:=rfl
theorem yRS(i:List MV)(S:Sto):zGS [.val (.tup i),.val (.typ "tuple")] S=.ok (.val (.bl true)) S:=rfl
theorem yRT(i:Bool)(S:Sto):zGS [.val (.bl i),.val (.typ "bool")] S=.ok (.val (.bl true)) S:=rfl
theorem zXZ{gf:MV->Rho->Sto->R Rho}{cf:Rho->Sto->R Bool}{ef:Rho->Sto->R Er}{ρb:Rho}{gs:List (Nat×List MV)}{P:MV->Prop}(hs:stay gs S):
  ∀{ds:List MV},(∀d∈ds, ∃ρ1 y,gf d ρb S=.ok ρ1 S/\cf ρ1 S=.ok true S/\ef ρ1 S=.ok (.val y) S/\P y)-> ∃out,yT gf cf ef ρb gs ds S=.ok out S/\out.length=ds.length/\ ∀o∈out,P o
 |[],_=>⟨[],rfl,rfl,λo h=>by simp at h⟩
 |d::ds,st=>by
  obtain⟨ρ1,y,h1,h2,h3,h4⟩:=st d mF0
  obtain⟨out,e,hl,hp⟩:=zXZ hs (ds:=ds) λd hd=>st d (mO _ hd)
  refine⟨y::out,?_,by rw [lC,lC,hl],λo ho=>(mC.mp ho).elim (λz=>z▸h4) (hp o)⟩
  unfold yT
  rw [h1,yG,bok,h2,yG,bok,iP rfl,h3,yG,bok]
  unfold cE
  rw [bok,iP hs,e]
  rfl
def Nm(x:List Nat):Prop:=1<=x.length/\x.length<=8/\ ∀c∈x,97<=c/\c<=122
def Vl:MV->Prop
 |.int i=> -(10 ^ 30)<i/\i<10 ^ 30
 |.str x=>Nm x
 |_=>False
theorem Vl.cases{d:MV}(h:Vl d):(∃i,d=.int i/\ -(10 ^ 30)<i/\i<10 ^ 30)\/ ∃x,d=.str x/\Nm x:=by
 cases d with
 |int i=>exact .inl ⟨i,rfl,h⟩
 |str x=>exact .inr ⟨x,rfl,h⟩
 |_=>exact h.elim
theorem Vl.lo{d:MV}(h:Vl d)(n:Nat):lo n d:=by
 rcases h.cases with⟨i,rfl,_⟩|⟨x,rfl,_⟩
 ·exact wQ n i
 ·exact zHG n x
end
def Ite(K:PySem.W.Frag)(k:Bool)(l:Addr):It:=
 ⟨λi H=> ∃xs x,SqK k K H l xs/\xs[i]? =some x,
   λi H v H'=> ∃p x,H p=none/\v=.ref p/\H'=upd H p (.tup [.int (i:Nat),x])/\(∀xs,SqK k K H l xs->xs[i]? =some x),
   λi H=> ∃xs,SqK k K H l xs/\xs.length<=i⟩
section
variable{prog:Program}{w:World}{A:Around}{E:Value->Shared->Prop}{s:Shared}{k:Bool}{e it l:Addr}{i:Nat}{its:Array Value}
theorem yFH(hl:zNU k s.heap l its){Q:Value->Shared->Prop}
  (h: ∀h',EnSt k (s.heap.objs.size+1) s.heap.objs.size l 0 h'->(∀c o,s.heap.get? c=some o->h'.get? c=some o)->Q (.ref (s.heap.objs.size+1)) {s with heap:=h'}):
  wpAny (model prog w) A (call (.type "enumerate") [.ref l]) Q E s:=by
 refine callType_new F.called_enumerate (by decide) (F.typeCall_enumerate_1 _) (F.newCall_enumerate_1 _) (λobj=>F.args_object_init_2 obj _) F.entry_enumerate_new (yBC k l its) ⟨hl,?_⟩
 have hz:(s.heap.push (zMM k l)).objs.size=s.heap.objs.size+1:=Heap.size_push ..
 show _/\_
 have he:IsEnum ((s.heap.push (zMM k l)).push {cls:=.type "enumerate",data:=.fields #[.none,.bool false,.ref s.heap.objs.size,rawInt 0,.none,.none]}) (s.heap.objs.size+1) s.heap.objs.size 0 .none:=by
  have:=Heap.get?_push_size (s.heap.push (zMM k l)) (o:={cls:=.type "enumerate",data:=.fields #[.none,.bool false,.ref s.heap.objs.size,rawInt 0,.none,.none]}) rfl
  rw [hz]at this;exact this
 refine⟨⟨_,he,rfl⟩,h _ ⟨⟨.none,he⟩,IsSub.mk' (hP0 _ (Heap.get?_push_size _ rfl))⟩ λb o x=>hP0 _ (hP0 _ x)⟩
end
theorem yFI{P:Program}{w:World}{K:PySem.W.Frag}{elts:List Expr}{kt:Nat}{pt:Pos}{k:Bool}{e it l:Addr}(hne:e≠it):
  Turn P w K (.Tuple elts kt pt) (Ite K k l) [e,it] e (λi h=>EnSt k e it l i h) where
 mem:=by simp
 obj:=λi h st b hb=>by
  obtain⟨⟨old,he⟩,hs⟩:=st
  have hb':b=e\/b=it:=by simpa using hb
  rcases hb' with rfl|rfl
  ·exact⟨_,he,λv q=>by cases q⟩
  ·exact hs.there
 keep:=λi h h' st kk=>by
  obtain⟨⟨old,he⟩,hs⟩:=st
  exact⟨⟨old,kk e (by simp) _ he⟩,hs.move λo q=>kk it (by simp) o q⟩
 item:=by
  intro X hP hw hK hc i pins s σ H E I hf st hg
  subst hP hw hK
  obtain⟨xs,x,q1,hx⟩:=hg
  obtain⟨its,r1,p1,_⟩:=I.seqK q1
  obtain⟨u,hu,ru⟩:=r1.get hx
  obtain⟨⟨old,he⟩,hs⟩:=st
  have hT:s.TypeIs (.ref e) "enumerate":=⟨_,he,rfl⟩
  unfold pyNext
  refine wB0 (wpAny_attempt (wpAny_callSpecial?_slot (name:=Str.ofString "__next__") hT F.slot_enumerate_next (wpAny_call_entry F.slot_enumerate_next hT F.entry_enumerate_next
   (yME he hs p1 (x:=u) (by simpa using hu) hne λh' a1 a2 a3 a4=>wP0 ⟨_,rfl,?_⟩) (F.args_enumerate_next_1 _))))
  refine wpAny_letOwnedTupleGo_enum a1 λh2 z2 sb2=>?_
  have hpn:H s.heap.objs.size=none:=I.hok.fresh (le_refl _)
  have I0:Inv X pins σ (upd H s.heap.objs.size (.tup [.int (i:Nat),x])) {s with heap:=s.heap.push {cls:=.type "tuple",data:=.seq #[.int i s.toks,u]},toks:=s.toks+1}:=
   I.laid (t':=s.toks+1) (o:=.tup [.int (i:Nat),x]) (λb o e=>hP0 _ e) (le_refl _) ⟨by show 2<=sizeLine;decide,[.int i s.toks,u],.cons ⟨_,rfl⟩ (.cons ru .nil),⟨_,Heap.get?_push_size _ rfl,rfl,_,rfl⟩⟩
  have lt: ∀b∈[e,it],b<s.heap.objs.size:=λb hb=>by
   have hb':b=e\/b=it:=by simpa using hb
   rcases hb' with rfl|rfl
   ·exact Heap.lt_size he
   ·obtain⟨o,eo,_⟩:=hs.there;exact Heap.lt_size eo
  have fr: ∀b∈[e,it],upd H s.heap.objs.size (.tup [.int (i:Nat),x]) b=none:=λb hb=>by rw [yC (ne_of_lt (lt b hb))];exact(hf b hb).1
  have mv: ∀b o,b∉[e,it]->(s.heap.push {cls:=.type "tuple",data:=.seq #[.int i s.toks,u]}).get? b=some o->h2.get? b=some o:=λb o hb eo=>by
   simp only [mC,nM0,or_false,not_or]at hb
   refine sb2.extBut _ _ hb.1 ?_
   by_cases hbs:b=s.heap.objs.size
   ·subst hbs
    rw [Heap.get?_push_size _ rfl]at eo
    cases eo
    exact a3
   ·rw [Heap.get?_push_ne _ _ _ hbs]at eo
    exact a4 b o hb.1 hb.2 eo
  have I2:=I0.turnedL (h':=h2) (t':=s.toks+1) mv λb hb=>let ⟨_,c2,c3,c4,c5,c6⟩:=hf b hb;⟨fr b hb,c2,c3,c4,c5,c6⟩
  refine⟨.ref s.heap.objs.size,_,I2,rfl,⟨s.heap.objs.size,x,hpn,rfl,rfl,λzs hz=>?_⟩,⟨⟨u,?_⟩,?_⟩,fr⟩
  ·rw [I.seqK_inj hz q1];exact hx
  ·simpa using z2
  ·exact a2.move λo eo=>sb2.extBut _ _ (Ne.symm hne) eo
 done:=by
  intro X hP hw hK hc i pins s σ H E I hf st hg
  subst hP hw hK
  obtain⟨xs,q1,hx⟩:=hg
  obtain⟨its,r1,p1,_⟩:=I.seqK q1
  obtain⟨⟨old,he⟩,hs⟩:=st
  have hT:s.TypeIs (.ref e) "enumerate":=⟨_,he,rfl⟩
  have e1:=r1.length
  unfold pyNext
  refine wB0 (wpAny_attempt (wpAny_callSpecial?_slot (name:=Str.ofString "__next__") hT F.slot_enumerate_next (wpAny_call_entry F.slot_enumerate_next hT F.entry_enumerate_next ?_ (F.args_enumerate_next_1 _))))
  show wpAny _ _ (field (.ref e) 2 >>= _) _ _ _
  refine wB0 (wpAny_field he rfl (x:=.ref it) rfl ?_)
  refine wB0 (yMC (I.ok.hd hc) hs p1 (by simp;omega) λh' x hk hx'=>?_)
  obtain⟨o,ho,hcl⟩:=hx'
  refine wB0 (wpAny_isInstance (T:="StopIteration") (b:=true) ⟨o,ho,hcl⟩ isSubtype_stop (wP0 ⟨rfl,?_⟩))
  refine I.turnedL (h':=h') (t':=s.toks) (λb o hb eo=>?_) hf
  simp only [mC,nM0,or_false,not_or]at hb
  exact hk b o hb.2 eo
 self:=λ_ _ _ _ _ st h=>let ⟨⟨_,he⟩,_⟩:=st;wpAny_pyIter_enum he h
def iEnum(K:PySem.W.Frag)(ta:TA):TI:=λσ H R=>ta σ H λvs H1=> ∃k l,vs=[.ref l]/\(∃xs,SqK k K H1 l xs)/\R (Ite K k l) H1
section
variable{X:Cx}{W:XW}{a:Expr}{elts:List Expr}{kt:Nat}{pt p pos:Pos}{ta:TA}{af:Rho->Sto->R (List Er)}
theorem yMP(hg:Gl X "enumerate")(hm:X.mg "enumerate"=none)(ha:PA X [a] ta)(hs:starEach [a] X.env=[(false,eval a X.env)]:=by rfl):
  PI X (.Tuple elts kt pt) (.Call (.Name "enumerate" p) [a] [] pos) (iEnum X.K ta):=by
 intro pins s σ H R I h
 refine Call_ (zMB I hg hm yMD (PyProof.Rows.callWith_type1 (thn (ha pos pins s σ H _ I h) λus s1 ⟨vs,H1,I1,r1,q1⟩=>?_) (by rw [hs];rfl) (by rfl)))
 obtain⟨k,l,rfl,⟨xs,c1⟩,q⟩:=q1
 cases r1 with
 |cons r rr=>
  cases rr
  cases r
  obtain⟨its,v1,p1,_⟩:=I1.seqK c1
  refine yFH p1 λh' st hk=>let ⟨⟨_,he⟩,_⟩:=id st;wpAny_pyIter_enum he ?_
  have I2:Inv X pins σ H1 {s1 with heap:=h'}:=I1.kept (t':=s1.toks) hk
  refine⟨_,_,_,_,H1,rfl,I2,yFI (ne_of_gt (lt_succ_self _)),st,λb hb=>?_,q⟩
  have hle:s1.heap.objs.size<=b:=by
   have hb':b=s1.heap.objs.size+1\/b=s1.heap.objs.size:=by simpa using hb
   rcases hb' with h|h<;>rw [h]<;>(first |exact le_refl _|exact Nat.le_add_right _ _)
  exact I1.fpOk hle (I1.hok.fresh hle)
def zVD(xs:List MV):List MV:=xs.zipIdx.map λp=>.tup [.int (p.2:Nat),p.1]
def itE(rs:List Er)(S:Sto):R Wk:=match rs with
 |[p]=>match srcOf S p with
  |some a=>.ok ⟨zVD a.ds,a.gs⟩ S
  |none=>.no
 |_=>.no
theorem yDB(hg:Gl X "enumerate")(hm:X.mg "enumerate"=none)(ha:PAm X W [a] af)(hs:starEach [a] X.env=[(false,eval a X.env)]:=by rfl):
  PIm X W (.Tuple elts kt pt) (.Call (.Name "enumerate" p) [a] [] pos) (λρ S=>(af ρ S).bind itE):=by
 obtain⟨t,ha,k⟩:=ha
 refine⟨_,yMP hg hm ha hs,λα ρ S σ H Rc wd sl q=>k α ρ S σ H _ wd sl (q.bind λvs rs S1 α1 H1 e x1 w1 d1 q1=>?_)⟩
 replace q1:=q1.shift x1
 unfold itE at q1
 split at q1
 ·rename_i r1
  split at q1
  ·rename_i s1 e1
   obtain⟨u,rfl,du⟩:=yCT d1
   obtain⟨l1,P1,rfl,p1,D1⟩:=yIN w1 e1 du
   have g1:=D1.get _ _ _ p1
   have hlen:(zVD s1.ds).length=s1.ds.length:=by unfold zVD;rw [lM,List.length_zipIdx]
   refine⟨s1.k,l1,rfl,⟨_,g1.choose_spec.1⟩,q1.here (u:=Ite X.K s1.k l1) w1 ⟨λα S H=>P1 α S H,?_,p1,?_,?_⟩⟩
   ·intro i α2 S2 H2 b1 w2
    obtain⟨us,c1,c2⟩:=D1.get _ _ _ b1
    have hl:=c2.length
    refine⟨λhi=>?_,λhi=>?_⟩
    ·have hi:i<(zVD s1.ds).length:=hi
     have h1:i<us.length:=by omega
     refine⟨⟨us,us[i],c1,gE0 h1⟩,?_⟩
     rintro x H' ⟨pp,xx,hp,rfl,rfl,hx⟩
     obtain⟨d,hd,dd⟩:=c2.get (hx us c1)
     have xn:=w2.newx (o:=.tup [.int (i:Nat),xx]) hp
     have wn:=w2.new (o:=.tup [.int (i:Nat),xx]) hp
     refine⟨xn,wn,D1.stays _ _ _ _ _ _ b1 xn wn (D1.st _ _ _ b1),.tup [.int (i:Nat),d],?_,?_⟩
     ·unfold zVD;rw [getElem?_map,List.getElem?_zipIdx,hd];simp
     ·exact zES (.of yS) (yW (kK _) (yW (dd.ext xn) xN))
    ·have hi:(zVD s1.ds).length<=i:=hi
     exact⟨us,c1,by omega⟩
   ·intro α1 S1 H1 α2 S2 H2 b1 x w hs
    exact D1.stays _ _ _ _ _ _ b1 x w hs
   ·exact D1.st _ _ _ p1
  ·exact q1.elim
 ·exact q1.elim
end
noncomputable instance:DecidableEq MV:=λ_ _=>Classical.propDecidable _
noncomputable def look(kvs:List (MV×MV))(k:MV):Option MV:=(kvs.find? λp=>decide (p.1=k)).map (·.2)
noncomputable def putK(kvs:List (MV×MV))(k d:MV):List (MV×MV):=if(look kvs k).isSome=true then kvs.map (λp=>if p.1=k then(p.1,d)else p)else kvs++[(k,d)]
section
variable{X:Cx}{pins:List (Addr×Obj)}{σ:St}{H:Hp}{s:Shared}{α:List Addr}
theorem zMO(p:MV×MV)(kvs:List (MV×MV))(k:MV):look (p::kvs) k=if p.1=k then some p.2 else look kvs k:=by
 unfold look
 rw [find?_cons]
 by_cases h:p.1=k
 ·rw [dT0 h,iP h];rfl
 ·rw [dF0 h,iN h]
end
section
variable{X:Cx}{W:XW}{a b o i:Expr}{f g:Rho->Sto->R Er}{pos:Pos}
theorem yIV{pins:List (Addr×Obj)}{σ:St}{H:Hp}{s:Shared}(I:Inv X pins σ H s):sysModules<s.heap.objs.size:=lt_trans (by decide) ((I.mod.glob.keeps I.bk).lt)
theorem Wd.put{gg:Gm}{α:List Addr}{S:Sto}{H:Hp}{p:Addr}{ho:HO}{m:MO}(w:Wd gg α S H)(hp:H p=none)(q:ObD gg (α++[p]) (upd H p ho) p m):Ext α H (α++[p]) (upd H p ho)/\Wd gg (α++[p]) (S++[m]) (upd H p ho):=by
 have x:=w.newx (o:=ho) hp
 have nw:=w.new (o:=ho) hp
 have np:=w.fresh hp
 refine⟨⟨⟨⟨[p],rfl⟩,x.tup,x.frz⟩,λb hb=>?_,x.keep,x.has⟩,⟨?_,?_,λl c ob h1 h2=>?_⟩⟩
 ·rcases mem_append.mp hb with h|h
  ·exact .inl h
  ·rw [mS.mp h];exact .inr hp
 ·rw [lA,lA,w.len];rfl
 ·exact nodup_append.mpr ⟨w.nd,by simp,λa ha c hc=>by rw [mS.mp hc];rintro rfl;exact np ha⟩
 ·by_cases hl:l<α.length
  ·rw [getElem?_append_left hl]at h1
   rw [getElem?_append_left (by rw [<-w.len];exact hl)]at h2
   exact(nw.obj l c ob h1 h2).move (Ex0.grow α [p] _) rfl
  ·have hl':l=α.length:=by
    have:=(gS0.mp h1).1
    rw [lA,lS]at this
    omega
   subst hl'
   rw [getElem?_append_right (le_refl _),sub_self]at h1
   rw [getElem?_append_right (by rw [w.len];exact le_refl _),w.len,sub_self]at h2
   cases h1;cases h2
   exact q
def yPB(S:Sto):R Er:=.ok (.val (.loc S.length)) (S++[.dic []])
theorem yIW:PEm X W (.Dict [] [] pos) (λ_ S=>yPB S):=by
 refine⟨λσ H Q=> ∀p,H p=none->Q (.ref p) (upd H p (.dK [])),λpins s σ H Q I h=>?_,λα ρ S σ H Q wd sl q p hp=>?_⟩
 ·exact wpAny_Dict_empty ⟨.ref s.heap.objs.size,_,I.laid (a:=s.heap.objs.size) (o:=.dK []) (t':=s.toks) (λ_ _ q=>hP0 _ q) (le_refl _)
   ⟨zero_le _,beq_eq_false_iff_ne.mpr (Ne.symm (ne_of_lt (yIV I))),[],.nil,Heap.DictOf.new s.heap⟩,rfl,h _ (I.hok.fresh (le_refl _))⟩
 ·obtain⟨x,w'⟩:=wd.put (ho:=.dK []) (m:=.dic []) hp (.inl ⟨[],yS,.nil⟩)
  exact q (.ref p) (α++[p]) _ x w' (DenE.val (zKS (by rw [<-wd.len,getElem?_append_right (le_refl _),sub_self];rfl)))
theorem DenN.length{α:List Addr}{H:Hp}: ∀{kvs xs},DenN X.K α H kvs xs->xs.length=kvs.length
 |_,_,.nil=>rfl
 |_,_,.cons _ _ _ _ _ l=>by rw [lC,lC,DenN.length l]
end
def FsD(g:Gm)(α:List Addr)(H:Hp)(d:Option Addr)(fs:List (Str×MV)):Prop:=fs=[]\/ ∃dx gs od,d=some dx/\H dx=some (.frz od (.xd gs))/\DenF g.K α H fs gs
abbrev WE(g:Gm)(E:XK):XW:=λc fs _ α H=> ∀C d,g.mg c=some (.ref C)->FsD g α H d fs->E (.ref C) d H
def yRU:MV->Bool
 |.non=>true
 |.bl _=>true
 |.int _=>true
 |.str _=>true
 |_=>false
theorem Post.wmono{β τ:Type}[Dn β τ]{g:Gm}{W W':XW}{α:List Addr}{H:Hp}(f: ∀c fs S α' H',W c fs S α' H'->W' c fs S α' H'): ∀{m:R β}{Q:τ->Hp->Prop},Post g W α H m Q->Post g W' α H m Q
 |.ok b S,Q,q=>q
 |.exc c fs S,_,q=>λα' H' x w=>f _ _ _ _ _ (q α' H' x w)
 |.no,_,q=>q
def XCl(K:PySem.W.Frag)(C:Addr)(bm:List Value)(init:Option Value):Prop:=
 ∃nm q N bs hd sn sub ab col dd k0 k1 k2 k3 k5,K.lookup C=some (excClassObj nm q C N bs bm hd sn sub ab col dd k0 k1 k2 k3 k5 "ValueError.__new__")/\PySem.W.nsOkIn K N=true/\PySem.W.nsIn K N "__init__"=some init/\(∀n∈qn,PySem.W.nsIn K N n=some none)/\hd=true
def XEach(K:PySem.W.Frag)(mg:Str->Option Value)(M:Addr):List (Str×Addr)->Prop
 |[]=>True
 |(c,C)::r=>(mg c=some (.ref C)/\ ∃i,XCl K C (.ref M::bmV) i)/\XEach K mg M r
theorem XEach.at{K:PySem.W.Frag}{mg:Str->Option Value}{M:Addr}: ∀{cs:List (Str×Addr)},XEach K mg M cs-> ∀{c C},(c,C)∈cs->mg c=some (.ref C)/\ ∃i,XCl K C (.ref M::bmV) i
 |(c,C)::r,h,c',C',z=>by
  rcases mC.mp z with z|z
  ·cases z;exact h.1
  ·exact XEach.at h.2 z
def spX(g:Gm)(n:Nat)(F:List MV->Sto->R Er):Sp:=λvs H Q E=> ∃α S ds,Wd g α S H/\DenL g.K α H ds vs/\ds.length=n/\Post g (WE g E) α H (F ds S) Q
noncomputable def yDC(n:Nat)(F:List MV->Sto->R Er)(rs:List Er)(S:Sto):R Er:=if rs.length=n then(match F (zV rs S).1 (zV rs S).2 with
 |.ok r S2=>bX S r S2
 |.exc c fs S2=>if fs.all (λp=>yRU p.2)=true then(bX S (.val .non) S2).bind λ_ S3=>.exc c fs S3 else .no
 |.no=>.no)else .no
section
variable{P:Program}{w:World}{K:PySem.W.Frag}{mg:Str->Option Value}{base:Heap}
theorem _root_.L2.FnOk.noX{k n:Nat}{f:Addr}{fd:FuncData}{ps:List Str}{g:Gm}{F:List MV->Sto->R Er}(G:FnOk P w K mg base (CXe P w) k f fd ps (spX g n F)):FnOk P w K mg base CX0 k f fd ps (spM g n F):=by
 have up: ∀{vs H Q}, ∀{E},spM g n F vs H Q E->spX g n F vs H Q E0:=λ⟨α,S,ds,h1,h2,h3,h4⟩=>⟨α,S,ds,h1,h2,h3,h4.wmono λ_ _ _ _ _ z=>z.elim⟩
 refine⟨λvs H Q E h=>G.len vs H Q E0 (up h),λA outer s H args us vs Q E hr e0 hb hv h=>codeAny_mono (G.run A outer s H args us vs Q E0 hr e0 hb hv (up h)) λr s' hq=>?_⟩
 cases r with
 |error e=>
  obtain⟨_,_,_,_,_,_,_,_,_,_,_,_,_,_,_,z⟩:=hq
  exact z
 |ok fl=>cases fl<;>exact hq
end
end M
end L2
namespace L2
open PySem PySem.Spec PyProof.Rows
structure Out(X:Cx)(pins:List (Addr×Obj))(H:Hp)(s:Shared)(b:Addr):Prop where
 s0:X.s₀.heap.get? b=none
 h:H b=none
 pin: ∀p∈X.pn++pins,p.1≠b
 fld: ∃o vs,s.heap.get? b=some o/\o.data=.fields vs
section
variable{X:Cx}{pins:List (Addr×Obj)}{σ:St}{H:Hp}{s:Shared}{e T b:Addr}{h':Heap}
theorem Out.ne(o:Out X pins H s b){c:Addr}{oc:Obj}(hc:s.heap.get? c=some oc)(nf: ∀vs,oc.data≠.fields vs):c≠b:=λz=>by
 obtain⟨ob,vs,h1,h2⟩:=o.fld
 rw [z,h1]at hc;cases hc
 exact nf vs h2
theorem Out.loc(o:Out X pins H s b)(I:Inv X pins σ H s):X.env.locals≠b:=by
 obtain⟨m,⟨oL,es,ep,h1,h2,_⟩,_⟩:=I.loc
 exact o.ne h1 λvs z=>by rw [h2]at z;cases z
end
end L2
namespace L2
namespace M
open PySem PySem.Spec PyProof.Rows
def endF(i:Nat):Fl->Sto->R Fl
 |.next ρ,S=>.ok (.next (ρ.set i none)) S
 |.ret r,S=>.ok (.ret r) S
 |.brk ρ,S=>.ok (.brk (ρ.set i none)) S
 |.cont ρ,S=>.ok (.cont (ρ.set i none)) S
def tryF(ns:List Str)(i:Nat)(kn:Er->Sto->R Fl)(Fh:Rho->Sto->R Fl)(ρ:Rho):R Er->R Fl
 |.ok r S=>kn r S
 |.exc c fs S=>if c∈ns then(noX (Fh (ρ.set i (some (.loc S.length))) (S++[.ins c fs]))).bind (endF i)else .no
 |.no=>.no
section
variable{X:Cx}{W:XW}{tg iter a:Expr}{f:Rho->Sto->R Er}{af:Rho->Sto->R (List Er)}{e:Expr}{es:List Expr}{pos apos:Pos}
def Itq(K:PySem.W.Frag)(k:Bool)(a:Addr):It:=if k=true then Itl K a else Itt K a
def iSeq(K:PySem.W.Frag)(tl:TE):TI:=λσ H R=>tl σ H λx H1=> ∃k a,x=.ref a/\(∃xs,SqK k K H1 a xs)/\R (Itq K k a) H1
theorem yRV{l:Expr}{tl:TE}(hl:PE X l tl):PI X tg l (iSeq X.K tl):=by
 intro pins s σ H R I h
 refine thn (hl pins s σ H _ I h) λv s1 ⟨x,H1,I1,r1,q1⟩=>?_
 obtain⟨k,a,e,⟨xs,hq⟩,q⟩:=q1
 subst e
 cases r1
 cases k with
 |true=>
  obtain⟨its,rv,p,hz⟩:=I1.list (show SqL X.K H1 a xs from hq)
  refine wpAny_pyIter_list p.isList ?_
  refine⟨s1.heap.objs.size,[s1.heap.objs.size],_,_,H1,rfl,I1.kept (t':=s1.toks) λb o e=>hP0 _ e,zTD a _,⟨_,Heap.get?_push_size _ rfl,rfl,rfl⟩,λb hb=>?_,q⟩
  have e:b=s1.heap.objs.size:=by simpa using hb
  subst e
  exact I1.fpOk (le_refl _) (I1.hok.fresh (le_refl _))
 |false=>
  obtain⟨its,rv,p,hz⟩:=I1.tuple (show SqT X.K H1 a xs from hq)
  refine wpAny_pyIter_tuple (show s1.heap.IsTuple a its.toArray from p) ?_
  refine⟨s1.heap.objs.size,[s1.heap.objs.size],_,_,H1,rfl,I1.kept (t':=s1.toks) λb o e=>hP0 _ e,zPK a _,⟨_,Heap.get?_push_size _ rfl,rfl,rfl⟩,λb hb=>?_,q⟩
  have e:b=s1.heap.objs.size:=by simpa using hb
  subst e
  exact I1.fpOk (le_refl _) (I1.hok.fresh (le_refl _))
def itQ(r:Er)(S:Sto):R Wk:=match srcOf S r with
 |some q=>.ok ⟨q.ds,q.gs⟩ S
 |none=>.no
theorem yIX(he:PEm X W iter f):PIm X W tg iter (λρ S=>(f ρ S).bind itQ):=by
 obtain⟨t,he,k⟩:=he
 refine⟨_,yRV he,λα ρ S σ H Rc wd sl q=>k α ρ S σ H _ wd sl (q.bind λu p S1 α1 H1 e x1 w1 d1 q1=>?_)⟩
 replace q1:=q1.shift x1
 unfold itQ at q1
 split at q1
 ·rename_i q e1
  obtain⟨l1,P1,rfl,p1,D1⟩:=yIN w1 e1 d1.1
  have g1:=D1.get _ _ _ p1
  refine⟨q.k,l1,rfl,⟨_,g1.choose_spec.1⟩,q1.here (u:=Itq X.K q.k l1) w1 ⟨λα S H=>P1 α S H,?_,p1,λα1 S1 H1 α2 S2 H2 b1 x w hs=>D1.stays _ _ _ _ _ _ b1 x w hs,D1.st _ _ _ p1⟩⟩
  intro i α2 S2 H2 b1 w2
  obtain⟨us,c1,c2⟩:=D1.get _ _ _ b1
  obtain⟨qk,qd,qg⟩:=q
  cases qk with
  |true=>
   obtain⟨i1,i2⟩:=zKX (X:=X) (a:=l1) (ds:=qd) i α2 S2 H2 ⟨us,c1,c2⟩ w2
   refine⟨λhi=>⟨(i1 hi).1,λx H' y=>?_⟩,i2⟩
   obtain⟨j1,j2,j3,j4⟩:=(i1 hi).2 x H' y
   obtain⟨rfl,_⟩:=y
   exact⟨j1,j2,b1,j4⟩
  |false=>
   obtain⟨i1,i2⟩:=yCS (X:=X) (a:=l1) (ds:=qd) i α2 S2 H2 ⟨us,c1,c2⟩ w2
   refine⟨λhi=>⟨(i1 hi).1,λx H' y=>?_⟩,i2⟩
   obtain⟨j1,j2,j3,j4⟩:=(i1 hi).2 x H' y
   obtain⟨rfl,_⟩:=y
   exact⟨j1,j2,b1,j4⟩
 ·exact q1.elim
end
section
variable{X:Cx}{W:XW}{a b o i:Expr}{f g:Rho->Sto->R Er}{pos:Pos}{pins:List (Addr×Obj)}{σ:St}{H:Hp}{s:Shared}{α:List Addr}
def zMP(kvs:List (Key×V))(k:Key)(v:V):List (Key×V):=if(kvs.any λkv=>decide (kv.1=k))=true then kvs.map (λkv=>if kv.1=k then(kv.1,v)else kv)else kvs++[(k,v)]
theorem zYA(kvs:List (Key×V))(k:Key)(v:V):(zMP kvs k v).length<=kvs.length+1:=by
 unfold zMP
 split
 ·rw [lM];exact le_succ _
 ·rw [lA];exact le_refl _
theorem yRW{kvs:List (Key×V)}{vs:List (Key×Value)}(r:KV kvs vs)(k:Key):(kvs.any λkv=>decide (kv.1=k))=vs.any λkv=>decide (kv.1=k):=by
 unfold KV at r
 induction r with
 |nil=>rfl
 |cons h t ih=>rw [any_cons,any_cons,ih,h.1]
theorem yMQ{kvs:List (Key×V)}{vs:List (Key×Value)}(r:KV kvs vs)(k:Key){y:V}{u:Value}(ry:RelV y u):KV (kvs.map λkv=>if kv.1=k then(kv.1,y)else kv) (vs.map λkv=>if kv.1=k then(kv.1,u)else kv):=by
 unfold KV at r ⊢
 induction r with
 |nil=>exact .nil
 |@cons p q ps qs h t ih=>
  rw [map_cons,map_cons]
  refine .cons ?_ ih
  by_cases e:p.1=k
  ·rw [iP e,iP (h.1.symm.trans e)];exact⟨h.1,ry⟩
  ·rw [iN e,iN λz=>e (h.1.trans z)];exact h
theorem yMR{kvs:List (Key×V)}{vs:List (Key×Value)}(r:KV kvs vs){p:Key×V}{q:Key×Value}(h:p.1=q.1/\RelV p.2 q.2):KV (kvs++[p]) (vs++[q]):=by
 unfold KV at r ⊢
 induction r with
 |nil=>exact .cons h .nil
 |cons h' t ih=>exact .cons h' ih
theorem yIY{kvs:List (Key×V)}{vs:List (Key×Value)}(r:KV kvs vs)(k:Key){y:V}{u:Value}(ry:RelV y u):KV (zMP kvs k y) (stored vs k u):=by
 unfold zMP stored
 rw [yRW r k]
 by_cases e:(vs.any λkv=>decide (kv.1=k))=true
 ·rw [iP e,iP e];exact yMQ r k ry
 ·rw [iN e,iN e];exact yMR r ⟨rfl,ry⟩
theorem zOZ{k:MV}{a b:Key}(h:KeyD k a)(h':KeyD k b):a=b:=by
 cases k with
 |int i=>exact Eq.trans (show a=.inl i from h) (show b=.inl i from h').symm
 |str x=>exact Eq.trans (show a=.inr (mkS x)from h) (show b=.inr (mkS x)from h').symm
 |_=>exact False.elim h
theorem zLB{k k':MV}{a:Key}(h:KeyD k a)(h':KeyD k' a):k=k':=by
 cases k with
 |int i=>
  have e:a=.inl i:=h
  subst e
  cases k' with
  |int j=>have e':(Sum.inl i:Key)=.inl j:=h';cases e';rfl
  |str y=>have e':(Sum.inl i:Key)=.inr (mkS y):=h';cases e'
  |_=>exact False.elim h'
 |str x=>
  have e:a=.inr (mkS x):=h
  subst e
  cases k' with
  |int j=>have e':(Sum.inr (mkS x):Key)=.inl j:=h';cases e'
  |str y=>
   have e':(Sum.inr (mkS x):Key)=.inr (mkS y):=h'
   injection e' with e'
   rw [zUN e']
  |_=>exact False.elim h'
 |_=>exact False.elim h
theorem zYB: ∀{kvs:List (MV×MV)}{ks:List (Key×V)}{k:MV}{k':Key},DenK X.K α H kvs ks->KeyD k k'->(ks.any λkv=>decide (kv.1=k'))=(look kvs k).isSome
 |_,_,k,k',.nil,hk=>rfl
 |_,_,k,k',.cons (k:=c) (k':=c') hc a l,hk=>by
  rw [zMO,any_cons]
  by_cases h:c=k
  ·subst h
   rw [iP rfl,dT0 (zOZ hc hk)];rfl
  ·have hn: ¬c'=k':=λz=>h (zLB hc (z.symm▸hk))
   rw [iN h,dF0 hn,Bool.false_or]
   exact zYB l hk
theorem zQJ: ∀{kvs:List (MV×MV)}{ks:List (Key×V)}{k d:MV}{k':Key}{v:V},DenK X.K α H kvs ks->KeyD k k'->Den X.K α H d v->DenK X.K α H (kvs.map λp=>if p.1=k then(p.1,d)else p) (ks.map λkv=>if kv.1=k' then(kv.1,v)else kv)
 |_,_,k,d,k',v,.nil,hk,hd=>.nil
 |_,_,k,d,k',v,.cons (k:=c) (k':=c') hc a l,hk,hd=>by
  rw [map_cons,map_cons]
  by_cases h:c=k
  ·subst h
   rw [iP rfl,iP (zOZ hc hk)]
   exact .cons hc hd (zQJ l hk hd)
  ·have hn: ¬c'=k':=λz=>h (zLB hc (z.symm▸hk))
   rw [iN h,iN hn]
   exact .cons hc a (zQJ l hk hd)
theorem DenK.append: ∀{kvs kvs':List (MV×MV)}{xs xs':List (Key×V)},DenK X.K α H kvs xs->DenK X.K α H kvs' xs'->DenK X.K α H (kvs++kvs') (xs++xs')
 |_,_,_,_,.nil,h=>h
 |_,_,_,_,.cons hk a l,h=>.cons hk a (DenK.append l h)
theorem DenK.length: ∀{kvs:List (MV×MV)}{xs:List (Key×V)},DenK X.K α H kvs xs->xs.length=kvs.length
 |_,_,.nil=>rfl
 |_,_,.cons _ _ l=>by rw [lC,lC,DenK.length l]
theorem zYC{kvs:List (MV×MV)}{ks:List (Key×V)}{k d:MV}{k':Key}{v:V}(l:DenK X.K α H kvs ks)(hk:KeyD k k')(hd:Den X.K α H d v):DenK X.K α H (putK kvs k d) (zMP ks k' v):=by
 unfold putK zMP
 rw [zYB l hk]
 by_cases h:(look kvs k).isSome=true
 ·rw [iP h,iP h];exact zQJ l hk hd
 ·rw [iN h,iN h];exact l.append (.cons hk hd .nil)
def DK(X:Cx)(H:Hp)(d:Addr)(ks:List (Key×V)):Prop:=H d=some (.dK ks)\/(ks=[]/\H d=some (DN X.prog X.w d []))
theorem zEW(I:Inv X pins σ H s){ks:List (Key×V)}{d:Addr}(h:DK X H d ks):ks.length<=sizeLine/\(d==sysModules)=false/\ ∃vs,KV ks vs/\s.heap.DictOf (wG X.prog X.w) d vs:=by
 rcases h with h|⟨rfl,h⟩
 ·exact(show ObjOk X.prog X.w H s.heap d (.dK ks)from I.hok d _ h)
 ·obtain⟨⟨hz,hs,o,es,ep,ho,hc,hd,he,hn⟩,_⟩:=(show ObjOk X.prog X.w H s.heap d (DN X.prog X.w d [])from I.hok d _ h)
  have he':es.toList=[]:=he
  refine⟨zero_le _,hs,[],.nil,o,es,ep,ho,hc,hd,λe hm=>?_,by rw [he'];exact .nil,List.nodup_nil⟩
  rw [<-Array.mem_toList_iff,he']at hm
  exact absurd hm (by simp)
theorem zMQ: ∀{kvs:List (MV×MV)}{ks:List (Key×V)},DenK X.K α H kvs ks->DenL X.K α H (kvs.map (·.1)) (ks.map λp=>kV p.1)
 |_,_,.nil=>xN
 |_,_,.cons (k:=c) (k':=c') hc a l=>by
  refine yW ?_ (zMQ l)
  cases c with
  |int i=>rw [show c'=.inl i from hc];exact kK i
  |str x=>rw [show c'=.inr (mkS x)from hc];exact zBM x
  |_=>exact False.elim hc
end
section
variable{X:Cx}{W:XW}{o e:Expr}{es:List Expr}{f:Rho->Sto->R Er}{af:Rho->Sto->R (List Er)}{apos pos:Pos}{to:TE}{t:TA}{T:String}{name:Str}{id:String}{r:V->List V->Hp->VK->Prop}
def zLC(X:Cx)(T:String)(TY:V->Hp->Prop):Prop:= ∀(pins:List (Addr×Obj))(s:Shared)(σ:St)(H:Hp)(x:V)(v:Value),Inv X pins σ H s->RelV x v->TY x H->s.TypeIs v T/\ ∀a,v=.ref a-> ∃ob,s.heap.get? a=some ob/\ob.dict=none
theorem yRX{TY:V->Hp->Prop}(hTY:zLC X T TY)(pa:PlainAttrs T)(slot:Slot T name id)(hty:typeOf (.builtin id)=pure (.type "method_descriptor"))(hm:MtR X id r)(ho:PE X o to)(ha:PA X (e::es) t)
  (hbase:attributeBase o name X.env (eval o X.env)=eval o X.env)
  (hfew:((backTo pos (starEach (e::es) X.env)).all (λx=>!x.1)&&(backToKw pos (keywordEach [] X.env)).all (λx=>x.1.isSome)
   &&decide ((e::es).length+([]:List Keyword).length+(if([]:List Keyword).isEmpty then 0 else 1)<30))=true)
  (hline:(apos.endLine==pos.line)=true) (hs:starEach (e::es) X.env=(false,eval e X.env)::starEach es X.env) (hplain:(backTo pos (starEach es X.env)).any (·.1)=false):
  PE X (.Call (.Attribute o name apos) (e::es) [] pos) (λσ H Q=>to σ H λx H1=>TY x H1/\t σ H1 λvs H2=>r x vs H2 Q):=by
 intro pins s σ H Q I h
 refine wpAny_Call_method_late hbase hfew hline rfl (thn (ho pins s σ H _ I h) λv s1 ⟨x,H1,I1,r1,ty,q1⟩=>?_)
 obtain⟨h1,h2⟩:=hTY pins s1 σ H1 x v I1 r1 ty
 refine⟨T,id,pa,slot,hty,h1,h2,?_⟩
 have hA:=ha pos pins s1 σ H1 _ I1 q1
 rw [hs]at hA ⊢
 refine Calls.callWith_builtin (by show(false || (backTo pos (starEach es X.env)).any (·.1))=false;rw [hplain]<;>rfl) (Calls.evalArgs_plain ?_)
 exact thn hA λus s2 ⟨vs,H2,I2,r2,q2⟩=>hm pins s2 σ H2 x vs v us Q I2 r1 r2 q2
end
def VAt(d:Addr)(us:List Value)(ep:Nat)(h:Heap):Prop:= ∃o es,h.get? d=some o/\o.ExactDict/\o.data=.dict es ep/\es.toList.map (·.val)=us
theorem VAt.at{d:Addr}{us:List Value}{ep:Nat}{h h':Heap}(x:VAt d us ep h)(m: ∀o,h.get? d=some o->h'.get? d=some o):VAt d us ep h':=let ⟨o,es,ho,r⟩:=x;⟨o,es,m o ho,r⟩
theorem VAt.size{d:Addr}{us:List Value}{ep:Nat}{h:Heap}(x:VAt d us ep h): ∃o es,h.get? d=some o/\o.ExactDict/\o.data=.dict es ep/\es.size=us.length/\ ∀i (hi:i<es.size),us[i]? =some es[i].val:=by
 obtain⟨o,es,ho,hc,hd,e⟩:=x
 refine⟨o,es,ho,hc,hd,by rw [<-e,lM,Array.length_toList],λi hi=>?_⟩
 rw [<-e,getElem?_map,Array.getElem?_toList,Array.getElem?_eq_getElem hi]
 rfl
end M
end L2
namespace L2
open PySem PySem.Spec PyProof.Rows
abbrev BIG:Nat:=10 ^ 100
section
variable{X:Cx}{par:Str}{i:Nat}{pins:List (Addr×Obj)}{σ:St}{H:Hp}
def tJ(i:Nat):TE:=λσ H Q=> ∃n,σ[i]? =some (some (.int n))/\n.natAbs<BIG/\ ∀y:Str,Q (.str y) H
end
namespace M
structure XIn(K:PySem.W.Frag)(M C f:Addr):Prop where
 ex: ∃nm q N bs sn sub ab col dd k0 k1 k2 k3 k5,K.lookup C=some (excClassObj nm q C N bs (.ref M::bmV) true sn sub ab col dd k0 k1 k2 k3 k5 "ValueError.__new__")/\PySem.W.nsOkIn K N=true/\PySem.W.nsIn K N "__init__"=some (some (.ref f))/\ ∀n∈qn,PySem.W.nsIn K N n=some none
 fo: ∃o,K.lookup f=some o/\o.cls=.type "function"
theorem XIn.cl{K:PySem.W.Frag}{M C f:Addr}(x:XIn K M C f):XCl K C (.ref M::bmV) (some (.ref f)):=by
 obtain⟨nm,q,N,bs,sn,sub,ab,col,dd,k0,k1,k2,k3,k5,a,b,c,d⟩:=x.ex
 exact⟨nm,q,N,bs,true,sn,sub,ab,col,dd,k0,k1,k2,k3,k5,a,b,c,d,rfl⟩
structure DefM(K:PySem.W.Frag)(mg:Str->Option Value)(x:Str)(st:Stmt):Prop where
 ex: ∃f fd,mg x=some (.ref f)/\Fun K x x st f fd
theorem def_mk{K:PySem.W.Frag}{mg:Str->Option Value}{h:Heap}{x:Str}{st:Stmt}{g:Addr}{od an:Option Addr}{sl:Array (Option Value)}{oc kV dc pm cd ct:Value}(a:PySem.W.nsIn K mainGlobals x=some (some (.ref g)))
  (l:K.lookup g=some ⟨oc,od,.func (PySem.W.fnOf x x (wN st) (xR st) (zG st) .none kV dc pm an cd ct),sl⟩) (c:PySem.W.codeIn K cd x=true) (k:PySem.W.keepIn K (.ref g)=true) (X:K.In h) (GG:h.Ns mainGlobals mg):DefM K mg x st:=⟨_,_,PySem.W.mg_of X GG a,zEQ l c k⟩
structure Cal(P:Program)(w:World)(K:PySem.W.Frag)(mg:Str->Option Value)(base:Heap)(CX:CXT)(x:Str)(k:Nat)(ps:List Str)(sp:Sp):Prop where
 ex: ∃fa fd,FnOk P w K mg base CX k fa fd ps sp/\mg x=some (.ref fa)/\PySem.W.keepIn K (.ref fa)=true/\Binds K fd ps []
abbrev CalM(P:Program)(w:World)(K:PySem.W.Frag)(mg:Str->Option Value)(base:Heap)(x:Str)(k n:Nat)(ps:List Str)(F:List MV->Sto->R Er):Prop:=Cal P w K mg base CX0 x k ps (spM ⟨K,mg,P,w⟩ n F)
abbrev CalX(P:Program)(w:World)(K:PySem.W.Frag)(mg:Str->Option Value)(base:Heap)(x:Str)(k n:Nat)(ps:List Str)(F:List MV->Sto->R Er):Prop:=Cal P w K mg base (CXe P w) x k ps (spX ⟨K,mg,P,w⟩ n F)
section
variable{P:Program}{w:World}{K:PySem.W.Frag}{mg:Str->Option Value}{base:Heap}{x:Str}{st:Stmt}{N ps:List Str}{k n:Nat}{F:List MV->Sto->R Er}
abbrev yRY(x:Str)(st:Stmt)(ps:List Str):Prop:= ∀(kV doc pm:Value)(an:Option Addr)(cdv ct:Value)(us:List Value),us.length=ps.length->bindArgs (PySem.W.fnOf x x (wN st) (xR st) (zG st) .none kV doc pm an cdv ct) ⟨us,[]⟩=pure (ps.zip us)
theorem okC(D:DefM K mg x st)(hb:yRY x st ps)(h: ∀f fd,Fun K x x st f fd->FnOk P w K mg base CX0 k f fd ps (spM ⟨K,mg,P,w⟩ n F)):CalM P w K mg base x k n ps F:=
 let ⟨f,fd,m,Fu⟩:=D.ex;⟨f,fd,h f fd Fu,m,Fu.kp,Fu.binds hb⟩
theorem Cal.noX(G:CalX P w K mg base x k n ps F):CalM P w K mg base x k n ps F:=let ⟨fa,fd,G,m,kp,b⟩:=G.ex;⟨fa,fd,G.noX,m,kp,b⟩
theorem yRZ{l:PySem.W.OpenLaw}{fa:Addr}{p:Str}(D:DefM K mg x st)(hfa:mg x=some (.ref fa))(hb: ∀(kV doc pm:Value)(an:Option Addr)(cdv ct:Value)(s:Shared)(v:Value),BindsTo s (PySem.W.fnOf x x (wN st) (xR st) (zG st) .none kV doc pm an cdv ct) ⟨[v],[]⟩ [(p,v)])
  (h: ∀base f fd,Fun K x x st f fd->FnOk l.prog w K mg base CX0 k f fd [p] (spM ⟨K,mg,l.prog,w⟩ 1 F)):
  ∃fd:FuncData,(∀(s:Shared)(v:Value),BindsTo s fd ⟨[v],[]⟩ [(p,v)])/\ ∀base:Heap,K.In base->base.Ns mainGlobals mg->FnOk l.prog w K mg base CX0 k fa fd [p] (zTP K F):=by
 obtain⟨f,fd,m,Fu⟩:=D.ex
 rw [hfa]at m
 cases m
 refine⟨fd,?_,λbase _ _=>(h base fa fd Fu).imp λvs H Q E=>yIO (g:=⟨K,mg,l.prog,w⟩) vs H Q E⟩
 obtain⟨_,_,_,_,_,_,_,_,_,rfl,_,_⟩:=Fu.ex
 exact hb _ _ _ _ _ _
end
section
variable{X:Cx}{W:XW}{E:XK}{e:Expr}{es:List Expr}{af:Rho->Sto->R (List Er)}{k n:Nat}{ps:List Str}{F:List MV->Sto->R Er}{x:Str}{p pos:Pos}
theorem zH(G:CalM X.prog X.w X.K X.mg X.base x k n ps F)(hr:Room k X.A)(hg:Gl X x)(ha:PAm X W (e::es) af)(hdb:(x==("__debug__":Str))=false:=by decide)
  (he:starEach (e::es) X.env=(false,eval e X.env)::starEach es X.env:=by rfl) (hpl:(backTo pos (starEach es X.env)).any (·.1)=false:=by rfl):PEm X W (.Call (.Name x p) (e::es) [] pos) (λρ S=>(af ρ S).bind λrs S1=>zT n F rs S1):=
 let ⟨_,_,G,m,kp,b⟩:=G.ex;yLR G hr hg m kp b ha hdb he hpl
variable{M:Addr}{cs:List (Str×Addr)}{i j:Nat}{nm y:Str}{Fh:Rho->Sto->R Fl}{b0:Stmt}{suite:List Stmt}{mp hpos cpos epos pos':Pos}{ns:List Str}
end
end M
end L2
namespace L2
open PySem PySem.Spec PyProof.Rows
structure RoomH(k:Nat)(A:Around):Prop where
 dp:A.depth+3 * k+5<recursionLimit
 un:A.units+16 * k+200<cLine
theorem RoomH.depth{k:Nat}{A:Around}(r:RoomH k A):A.depth<recursionLimit:=by have:=r.dp;omega
theorem RoomH.units{k:Nat}{A:Around}(r:RoomH k A):A.units+64<cLine:=by have:=r.un;omega
structure FnOkH(P:Program)(w:World)(K:PySem.W.Frag)(mg:Str->Option Value)(base:Heap)(k:Nat)(f:Addr)(fd:FuncData)(ps:List Str)(sp:Sp):Prop where
 len: ∀vs H Q E,sp vs H Q E->vs.length=ps.length
 run: ∀(A:Around)(outer:List Env)(s:Shared)(H:Hp)(args:Args)(us:List Value)(vs:List V)(Q:VK)(E:XK),RoomH k A->Env0 P w K mg base A outer s H->BindsTo s fd args (ps.zip us)->Vals vs us->sp vs H Q E->
  codeAny (model P w) A (.call (.ref f) args) (CR CX0 outer P w H s Q E) s
namespace M
section
variable{P:Program}{w:World}{K:PySem.W.Frag}{mg:Str->Option Value}{base:Heap}{x:Str}{st:Stmt}{N ps:List Str}{k n:Nat}{F:List MV->Sto->R Er}
structure CalH(P:Program)(w:World)(K:PySem.W.Frag)(mg:Str->Option Value)(base:Heap)(x:Str)(k n:Nat)(ps:List Str)(F:List MV->Sto->R Er):Prop where
 ex: ∃fa fd,FnOkH P w K mg base k fa fd ps (spM ⟨K,mg,P,w⟩ n F)/\mg x=some (.ref fa)/\PySem.W.keepIn K (.ref fa)=true/\Binds K fd ps []
end
def maxF:List Er->Sto->R Er
 |[.val (.int i),.val (.int j)],S=>.ok (.val (.int (if j>i then j else i))) S
 |_,_=>.no
def minF:List Er->Sto->R Er
 |[.val (.int i),.val (.int j)],S=>.ok (.val (.int (if j<i then j else i))) S
 |_,_=>.no
section
variable{X:Cx}{W:XW}
theorem ySA:zGD X W (λxs H Q=> ∃i j,xs=[.int i,.int j]/\Q (.int (if j<i then j else i)) H) minF:=by
 intro rs vs α S H Q wd d post
 unfold minF at post
 split at post
 ·obtain⟨v,u,rfl,dv,du⟩:=yOZ d
  cases xF dv
  cases xF du
  exact⟨_,_,rfl,Post.val post wd (kK _)⟩
 ·exact post.elim
end
theorem ySB:bootBuiltins "min"=some (.builtin "min"):=by decide+kernel
section
variable{X:Cx}{W:XW}{o e:Expr}{es:List Expr}{f:Rho->Sto->R Er}{af:Rho->Sto->R (List Er)}{apos pos:Pos}
def lit3F(kvs:List (MV×MV))(S:Sto):R Er:=.ok (.val (.loc S.length)) (S++[.dic kvs])
end
section
variable{X:Cx}{W:XW}{o e:Expr}{es:List Expr}{f:Rho->Sto->R Er}{af:Rho->Sto->R (List Er)}{apos pos:Pos}
def nW(ks:List (Key×V))(k:Key):Option V:=(ks.find? λp=>decide (p.1=k)).map (·.2)
theorem zVE: ∀{ks:List (Key×V)}{vs:List (Key×Value)}(r:KV ks vs)(k:Key),(∀v,nW ks k=some v-> ∃u,valueAt vs k=some u/\RelV v u)/\(nW ks k=none->valueAt vs k=none)
 |_,_,.nil,k=>⟨λv h=>(nomatch h),λ_=>rfl⟩
 |(a,x)::ks,(b,u)::vs,.cons ⟨h1,h2⟩ l,k=>by
  cases (show a=b from h1)
  have ih:=zVE l k
  unfold nW valueAt
  by_cases c:a=k
  ·simp only [find?_cons,c,decide_true,Option.map_some]
   exact⟨λv h=>⟨u,rfl,by cases h;exact h2⟩,λh=>nomatch h⟩
  ·simp only [find?_cons,c,decide_false]
   exact ih
theorem zMR{α:List Addr}{H:Hp}: ∀{kvs:List (MV×MV)}{ks:List (Key×V)}{k:MV}{k':Key},DenK X.K α H kvs ks->KeyD k k'->(∀d,look kvs k=some d-> ∃v,nW ks k'=some v/\Den X.K α H d v)/\(look kvs k=none->nW ks k'=none)
 |_,_,_,_,.nil,_=>⟨λd h=>(nomatch h),λ_=>rfl⟩
 |_,_,k,k',.cons (k:=k0) (k':=k0') (d:=d0) (v:=v0) h1 h2 l,hk=>by
  have ih:=zMR l hk
  rw [zMO]
  unfold nW
  by_cases c:k0=k
  ·subst c
   have:=zOZ h1 hk
   simp only [find?_cons,this,decide_true,Option.map_some,iP rfl]
   exact⟨λd h=>⟨v0,rfl,by cases h;exact h2⟩,λh=>nomatch h⟩
  ·have hn: ¬k0'=k':=λz=>c (zLB h1 (z▸hk))
   simp only [find?_cons,hn,decide_false,iN c]
   exact ih
def TyK(X:Cx)(x:V)(H:Hp):Prop:= ∃d ks,x=.ref d/\DK X H d ks
theorem yIZ:zLC X "dict" (TyK X):=by
 intro pins s σ H x v I rx ⟨d,ks,e,dd⟩
 subst e
 cases rx
 obtain⟨_,hs,vs,kv,o,es,ep,ho,hc,_⟩:=zEW I dd
 exact⟨⟨o,ho,hc.1⟩,λa e=>by cases e;exact⟨o,ho,hc.2.1⟩⟩
end
noncomputable section
variable{α β:Type}
def vJ(i:Nat)(ρ:Rho)(S:Sto):R Er:=rdSl (ρ[i]?) S
def kJ(d:MV)(_:Rho)(S:Sto):R Er:=.ok (.val d) S
def bJ(f:Rho->Sto->R α)(F:α->Sto->R β)(ρ:Rho)(S:Sto):R β:=(f ρ S).bind F
def dJ(F:Er->Er->Sto->R Er)(f g:Rho->Sto->R Er)(ρ:Rho)(S:Sto):R Er:=(f ρ S).bind λp S=>(g ρ S).bind λq S=>F p q S
def nJ(f:Rho->Sto->R Er)(ρ:Rho)(S:Sto):R Er:=(f ρ S).bind λp S=>(asB p S).bind λk S=>.ok (.val (.bl !k)) S
def aJ(f g:Rho->Sto->R Er)(ρ:Rho)(S:Sto):R Er:=(f ρ S).bind λp S=>zSD p S λS=>g ρ S
def oJ(f g:Rho->Sto->R Er)(ρ:Rho)(S:Sto):R Er:=(f ρ S).bind λp S=>orF p S λS=>g ρ S
def iJ(c:Rho->Sto->R Bool)(f g:Rho->Sto->R α)(ρ:Rho)(S:Sto):R α:=(c ρ S).bind λk S=>if k=true then f ρ S else g ρ S
def mJ(_:Rho)(S:Sto):R (Option Int):=.ok none S
def tJ(F:Er->Option Int->Option Int->Sto->R Er)(f:Rho->Sto->R Er)(g h:Rho->Sto->R (Option Int))(ρ:Rho)(S:Sto):R Er:=(f ρ S).bind λp S=>(g ρ S).bind λl S=>(h ρ S).bind λu S=>F p l u S
def lJ(k:List (MV×MV))(_:Rho)(S:Sto):R Er:=lit3F k S
def zJ(_:Rho)(S:Sto):R Er:=yPB S
def fJ(n:Nat)(F:List MV->Sto->R Er)(a:Rho->Sto->R (List Er))(ρ:Rho)(S:Sto):R Er:=(a ρ S).bind λr S=>zT n F r S
def xJ(n:Nat)(F:List MV->Sto->R Er)(a:Rho->Sto->R (List Er))(ρ:Rho)(S:Sto):R Er:=(a ρ S).bind λr S=>yDC n F r S
def hJ(F:List MV->Sto->R Er)(_:Rho)(S:Sto):R Er:=zT 0 F [] S
def eJ(t:Er->Sto->Bool)(F:Er->List Er->Sto->R Er)(f:Rho->Sto->R Er)(a:Rho->Sto->R (List Er))(ρ:Rho)(S:Sto):R Er:=(f ρ S).bind λp S=>if t p S=true then(a ρ S).bind λr S=>F p r S else .no
def gJ(t:Er->Sto->Bool)(F:Er->List Er->Sto->R Er)(f:Rho->Sto->R Er)(ρ:Rho)(S:Sto):R Er:=(f ρ S).bind λp S=>if t p S=true then F p [] S else .no
def uJ(_:Rho)(S:Sto):R Bool:=.ok true S
def pJ(i:Rho->Sto->R Wk)(g:MV->Rho->Sto->R Rho)(c:Rho->Sto->R Bool)(e:Rho->Sto->R Er)(n:Nat)(I:List Nat)(ρ:Rho)(S:Sto):R Er:=(i ρ S).bind λk S=>if k.ds.length<1000000 then(yT g c e (blk n I ρ) k.gs k.ds S).bind λo S=>.ok (.new o) S else .no
def jJ(F G:Er->Er->Sto->R Er)(f g h:Rho->Sto->R Er)(ρ:Rho)(S:Sto):R Er:=(f ρ S).bind λp S=>(g ρ S).bind λq S=>chF F G p q S λS=>h ρ S
def qJ(f:Rho->Sto->R Bool)(ρ:Rho)(S:Sto):R Bool:=(f ρ S).bind λk S=>.ok (!k) S
def rJ(f g:Rho->Sto->R Bool)(ρ:Rho)(S:Sto):R Bool:=(f ρ S).bind λk S=>if k=true then g ρ S else .ok false S
def sJ(f g:Rho->Sto->R Bool)(ρ:Rho)(S:Sto):R Bool:=(f ρ S).bind λk S=>if k=true then .ok true S else g ρ S
def wJ(_:Rho)(S:Sto):R (List Er):=.ok [] S
def yJ(f:Rho->Sto->R Er)(g:Rho->Sto->R (List Er))(ρ:Rho)(S:Sto):R (List Er):=(f ρ S).bind λp S=>(g ρ S).bind λl S=>.ok (p::l) S
def AJ(f:Rho->Sto->R Er)(ρ:Rho)(S:Sto):R Fl:=(f ρ S).bind λr S=>.ok (.ret r) S
def BJ(f:Rho->Sto->R Er)(ρ:Rho)(S:Sto):R Fl:=(f ρ S).bind λ_ S=>.ok (.next ρ) S
def CJ(f:Rho->Sto->R Er)(i:Nat)(ρ:Rho)(S:Sto):R Fl:=(f ρ S).bind (zUU ρ i)
def DJ(F:Er->Er->MV->Rho->Sto->R Rho)(f g:Rho->Sto->R Er)(d:MV)(ρ:Rho)(S:Sto):R Rho:=(f ρ S).bind λp S=>(g ρ S).bind λq S=>F p q d ρ S
def EJ(f:Rho->Sto->R Er)(g:MV->Rho->Sto->R Rho)(ρ:Rho)(S:Sto):R Fl:=(f ρ S).bind (asgF g ρ)
def FJ(i:Rho->Sto->R Wk)(g:MV->Rho->Sto->R Rho)(b:Rho->Sto->R Fl)(ρ:Rho)(S:Sto):R Fl:=(i ρ S).bind λk S=>cF g b k.gs k.ds ρ S
def GJ(a:Rho->Sto->R (List Er))(c:Str)(ρ:Rho)(S:Sto):R Fl:=(a ρ S).bind λr S=>if r.length<=10 then .exc c [] S else .no
def HJ(cs:List Str)(i:Nat)(h:Rho->Sto->R Fl)(n:Nat)(F:List MV->Sto->R Er)(a:Rho->Sto->R (List Er))(ρ:Rho)(S:Sto):R Fl:=(noX (a ρ S)).bind λr S=>tryF cs i (λ_ S=>.ok (.next ρ) S) h ρ (yDC n F r S)
def IJ(cs:List Str)(i j:Nat)(h:Rho->Sto->R Fl)(n:Nat)(F:List MV->Sto->R Er)(a:Rho->Sto->R (List Er))(ρ:Rho)(S:Sto):R Fl:=(noX (a ρ S)).bind λr S=>tryF cs i (zUU ρ j) h ρ (yDC n F r S)
def JJ(ρ:Rho)(S:Sto):R Fl:=.ok (.next ρ) S
end
section
variable{X:Cx}{W:XW}{a e:Expr}{tg:Expr}{p pos:Pos}{ta:TA}{f:Rho->Sto->R Er}{af:Rho->Sto->R (List Er)}
def augF(F:Er->Er->Sto->R Er)(i:Nat)(f:Rho->Sto->R Er)(ρ:Rho)(S:Sto):R Fl:=(rdSl (ρ[i]?) S).bind λp S1=>(f ρ S1).bind λq S2=>(F p q S2).bind (zUU ρ i)
def intsOf:List MV->Option (List Int)
 |[]=>some []
 |.int i::ds=>(intsOf ds).map (i::·)
 |_::_=>none
theorem yDD{K:PySem.W.Frag}{α:List Addr}{H:Hp}: ∀{ds:List MV}{ns:List Int}{vs:List V}{us:List Value},intsOf ds=some ns->DenL K α H ds vs->Vals vs us->IntsAre us ns
 |[],ns,vs,us,e,d,r=>by
  cases e
  rw [d.isnil]at r
  cases r
  exact .nil
 |x::ds,ns,vs,us,e,d,r=>by
  obtain⟨v,r',rfl,d1,d2⟩:=d.uncons
  cases r with
  |cons a b=>
   cases x<;>first |(cases e)|skip
   rename_i i
   unfold intsOf at e
   cases z:intsOf ds with
   |none=>rw [z]at e;cases e
   |some ms=>
    rw [z]at e
    cases e
    cases jK d1
    obtain⟨t,rfl⟩:=a
    exact .cons _ _ (yDD z d2 b)
theorem zMS: ∀{us:List Value}{ns:List Int},IntsAre us ns->Vals (ns.map V.int) us
 |_,_,.nil=>.nil
 |_,_,.cons n t h=>.cons ⟨t,rfl⟩ (zMS h)
theorem yBG:bootBuiltins "sorted"=some (.builtin "sorted"):=by decide+kernel
end
noncomputable section
def KJ(n:Nat)(F:List MV->Sto->R Er)(a:Rho->Sto->R (List Er))(ρ:Rho)(S:Sto):R Er:=(noX (a ρ S)).bind λr S=>yDC n F r S
def LJ(c:Rho->Sto->R Bool)(f g:Rho->Sto->R Er)(ρ:Rho)(S:Sto):R Er:=(noX (c ρ S)).bind λk S=>if k=true then f ρ S else g ρ S
def MJ(cs:List Str)(i:Nat)(h:Rho->Sto->R Fl)(f:Rho->Sto->R Er)(ρ:Rho)(S:Sto):R Fl:=tryF cs i (λ_ S=>.ok (.next ρ) S) h ρ (f ρ S)
end
section
variable{X:Cx}{W:XW}{a:Expr}{af:Rho->Sto->R (List Er)}{ta:TA}{pos pos2 p2 p3:Pos}
def yFJ(r:Addr)(j:Int):HO:=.ext λh=> ∃t u v,IsRange h r 0 j 1 t u v
theorem ySC(hg:Gl X "range")(hm:X.mg "range"=none)(ha:PA X [a] ta)(hs:starEach [a] X.env=[(false,eval a X.env)]:=by rfl):
  PE X (.Call (.Name "range" p3) [a] [] pos2) (λσ H Q=>ta σ H λvs H1=> ∃j:Int,vs=[.int j]/\ ∀r,H1 r=none->Q (.ref r) (upd H1 r (yFJ r j))):=by
 intro pins s σ H Q I h
 refine Call_ (zMB I hg hm boot_range (PyProof.Rows.callWith_type1 (thn (ha pos2 pins s σ H _ I h) λus s1 ⟨vs,H1,I1,r1,q1⟩=>?_) hs rfl))
 obtain⟨j,rfl,q⟩:=q1
 obtain⟨u,rfl,t,rfl⟩:=vals1 r1
 refine call_range_1 ?_
 have hlt:H1 s1.heap.objs.size=none:=I1.hok.fresh (le_refl _)
 refine⟨.ref s1.heap.objs.size,_,I1.laid (o:=yFJ s1.heap.objs.size j) (t':=s1.toks+1+1) (λb o e=>hP0 _ e) (le_refl _) ⟨⟨_,_,_,IsRange.new ..⟩,⟨_,Heap.get?_push_size _ rfl⟩,?_⟩,rfl,q _ hlt⟩
 rintro h1 h2 ⟨t,u,v,hr⟩ mv
 exact⟨t,u,v,mv _ hr⟩
theorem zSG{prog:Program}{w:World}{A:Around}{E:Value->Shared->Prop}{s:Shared}{Q:List Value->Shared->Prop}{r:Addr}{a b c:Int}{t u v:Tok}{n:Nat}(hh:A.handled=none)(hr:IsRange s.heap r a b c t u v)(hsmall:Builtin.Range.small a b c=true)
  (hn:Builtin.Range.rangeSize a b c=n) (hlen:n<=2 ^ 24) (hQ: ∀h' tk acc',(∀b o,s.heap.get? b=some o->h'.get? b=some o)->ItemsOf (λi v=> ∃t,v=.int (a+i * c) t) acc' n->Q acc'.toList {s with heap:=h',toks:=tk}):
  wpAny (model prog w) A (collect (.ref r)) Q E s:=by
 unfold collect
 refine wB0 (wpAny_runValue (codeAny_builtin F.entry_proto_collect ?_))
 rw [Around.under_plainId F.plain_proto_collect _]
 show wpAny _ A.in1 (newList [] >>= λl=>again (.builtin "list.__iadd__" ⟨[l,.ref r],[]⟩)) _ _ s
 refine wB0 (wpAny_newObj_type ?_)
 refine wP0 ⟨plainId_quiet F.plain_list_iadd _,codeAny_builtin F.entry_list_iadd ?_⟩
 rw [Around.under_plainId F.plain_list_iadd _]
 show wpAny _ A.in1 (Builtin.List.listExtendWith (.ref s.heap.objs.size) (.ref r) (.ref s.heap.objs.size)) _ _ _
 have hS:(s.heap.push {cls:=.type "list",data:=.seq ([]:List Value).toArray}).get? s.heap.objs.size=some {cls:=.type "list",data:=.seq #[] 0}:=Heap.get?_push_size _ rfl
 have fin': ∀h' tk acc' c',(∀b o,b≠s.heap.objs.size->(s.heap.push {cls:=.type "list",data:=.seq ([]:List Value).toArray}).get? b=some o->h'.get? b=some o)->h'.get? s.heap.objs.size=some {cls:=.type "list",dict:=none,data:=.seq acc' c',slots:=#[]}->ItemsOf (λi v=> ∃t,v=.int (a+i * c) t) acc' n->
   wpAny (model prog w) A (match Value.ref s.heap.objs.size with
   |Value.ref a=>do
    match (<-load a).data with
     |Data.seq xs _=>pure xs.toList
     |_=>unsupported "internal:collect"
   |_=>unsupported "internal:collect") Q E {s with heap:=h',toks:=tk}:=by
  intro h' tk acc' c' hk hS' hacc
  show wpAny _ A (load s.heap.objs.size >>= _) _ _ _
  refine wB0 (wpAny_load hS' ?_)
  refine wP0 ?_
  exact hQ h' tk acc' (λb o e=>hk b o (ne_of_lt (Heap.lt_size e)) (hP0 _ e)) hacc
 refine wpAny_mono (wpAny_extend_range (A:=A) (s:={s with heap:=s.heap.push {cls:=.type "list",data:=.seq ([]:List Value).toArray}}) (R:=λres s'=>res=.ok (.ret (.ref s.heap.objs.size))/\ ∃h' tk acc' c',s'={s with heap:=h',toks:=tk}/\(∀b o,b≠s.heap.objs.size->(s.heap.push {cls:=.type "list",data:=.seq ([]:List Value).toArray}).get? b=some o->h'.get? b=some o)/\h'.get? s.heap.objs.size=some {cls:=.type "list",dict:=none,data:=.seq acc' c',slots:=#[]}/\ItemsOf (λi v=> ∃t,v=.int (a+i * c) t) acc' n)
  hh (hP0 _ hr) hsmall hn hlen s.heap.objs.size (.ref s.heap.objs.size) 0 hS λh' tk acc' c' a1 a2 a3=>⟨rfl,h',tk,acc',c',rfl,a1,a2,a3⟩) (λfin s' h=>?_) (λe s' h=>?_)
 ·cases fin with
  |done f=>
   obtain⟨e,h',tk,acc',c',rfl,a1,a2,a3⟩:=h
   cases e
   exact fin' h' tk acc' c' a1 a2 a3
  |again c'=>exact⟨h.1,codeAny_mono h.2 λr s'' hr=>by obtain⟨rfl,h',tk,acc',c',rfl,a1,a2,a3⟩:=hr;exact fin' h' tk acc' c' a1 a2 a3⟩
 ·exact absurd h.1 (by simp)
end
section
variable{prog:Program}{w:World}{A:Around}{E:Value->Shared->Prop}{s:Shared}{r:Addr}{a b c:Int}{t u v:Tok}{n:Nat}
theorem zYD{Q₁:Value->Shared->Prop}(hh:A.handled=none)(hr:IsRange s.heap r a b c t u v)(hsmall:Builtin.Range.small a b c=true)(hn:Builtin.Range.rangeSize a b c=n)(hlen:n<=2 ^ 24)
  (h: ∀(h':Heap)(tk:Nat)(acc':Array Value),(∀b o,s.heap.get? b=some o->h'.get? b=some o)->ItemsOf (λi v=> ∃t,v=.int (a+i * c) t) acc' n->Q₁ (.ref h'.objs.size) {s with heap:=h'.push {cls:=.type "tuple",data:=.seq acc'},toks:=tk}):
  codeAny (model prog w) A (.call (.builtin "tuple.__new__") ⟨[.type "tuple",.ref r],[]⟩) (wants Q₁ E) s:=by
 refine codeAny_of_tree ?_
 show wpAny _ A.in1 (do checkBuiltinCall "tuple.__new__" ⟨[.type "tuple",.ref r],[]⟩;again (.builtin "tuple.__new__" ⟨[.type "tuple",.ref r],[]⟩)) _ _ s
 refine wB0 (wpAny_of_eq (F.newCall_tuple_1 _) (wP0 ⟨plainId_quiet F.plain_tuple_new _,codeAny_builtin F.entry_tuple_new ?_⟩))
 rw [Around.under_plainId F.plain_tuple_new _]
 have hsub:=sub_tuple_self
 have hinit:=init_tuple_lookup
 have hmh:=madeHere_tuple
 have hTI:s.TypeIs (.ref r) "range":=⟨_,hr,rfl⟩
 wp_walk using wpAny_typeOf hTI,zSG (A:=A.in1) hh hr hsmall hn hlen
 intro h' tk acc hk hacc
 show wpAny _ _ (Builtin.Tuple.tupleExact acc.toList.toArray >>= λv=>ret v) _ _ _
 unfold Builtin.Tuple.tupleExact
 refine wB0 (wpAny_newObj_type ?_ (by show acc.toList.toArray.size<=sizeLine;simp only [Array.toArray_toList];rw [hacc.1,sizeLine_eq];omega))
 refine wP0 ?_
 have e:acc.toList.toArray=acc:=by simp
 rw [e]
 exact h h' tk acc hk hacc
theorem zMT{Q:Value->Shared->Prop}(hh:A.handled=none)(hr:IsRange s.heap r a b c t u v)(hsmall:Builtin.Range.small a b c=true)(hn:Builtin.Range.rangeSize a b c=n)(hlen:n<=2 ^ 24)
  (hQ: ∀(h':Heap)(tk:Nat)(acc':Array Value),(∀b o,s.heap.get? b=some o->h'.get? b=some o)->ItemsOf (λi v=> ∃t,v=.int (a+i * c) t) acc' n->Q (.ref h'.objs.size) {s with heap:=h'.push {cls:=.type "tuple",data:=.seq acc'},toks:=tk}):
  wpAny (model prog w) A (call (.type "tuple") [.ref r]) Q E s:=by
 refine callType_codes (Q₁:=λobj s₁=>s₁.TypeIs obj "tuple"/\Q obj s₁) F.called_tuple (F.typeCall_tuple_1 _) F.entry_object_init
  (zYD (A:=A.in1) hh hr hsmall hn hlen λh' tk acc hk hacc=>⟨⟨_,Heap.get?_push_size _ rfl,rfl⟩,hQ h' tk acc hk hacc⟩) λobj s₁ h₁=>?_
 exact⟨h₁.1,F.args_object_init_2 obj _,object_init_meets F.called_tuple.init.lookup F.called_tuple.made (by decide) prog w A.in1 _ s₁ ⟨h₁.1,rfl,h₁.2⟩⟩
end
section
variable{X:Cx}{W:XW}{a:Expr}{af:Rho->Sto->R (List Er)}{ta:TA}{pos pos2 p2 p3:Pos}
abbrev zYE(j:Int):List Int:=(List.range j.toNat).map Int.ofNat
theorem yBH{acc:Array Value}{j:Int}(h:ItemsOf (λi v=> ∃t,v=Value.int (0+i * 1) t) acc j.toNat):Vals ((zYE j).map V.int) acc.toList:=by
 obtain⟨h1,h2⟩:=h
 refine ?_
 have key: ∀(l:List Value)(k:Nat),(∀i v,l[i]? =some v-> ∃t,v=Value.int ((k+i:Nat):Int) t)->Vals (((List.range' k l.length).map Int.ofNat).map V.int) l:=by
  intro l
  induction l with
  |nil=>intro k _;exact .nil
  |cons x l ih=>
   intro k hh
   obtain⟨t,rfl⟩:=hh 0 x rfl
   rw [lC,List.range'_succ]
   refine .cons ⟨t,rfl⟩ (ih (k+1) λi v hv=>?_)
   obtain⟨t',e⟩:=hh (i+1) v hv
   exact⟨t',by rw [e,show k+(i+1)=k+1+i by omega]⟩
 have:=key acc.toList 0 λi v hv=>by
  obtain⟨t,e⟩:=h2 i v (by rw [<-Array.getElem?_toList];exact hv)
  refine⟨t,e.trans ?_⟩
  congr 1
  omega
 rw [Array.length_toList,h1, <-List.range_eq_range']at this
 exact this
theorem yJA{j:Int}:Builtin.Range.rangeSize 0 j 1=j.toNat:=by rw [rangeSize_one];split<;>omega
theorem yFK:CallR X (.type "tuple") (λxs H Q=> ∃r j,xs=[.ref r]/\H r=some (yFJ r j)/\ -1000000<=j/\j<=1000000/\X.calm=true/\ ∀p,H p=none->Q (.ref p) (upd H p (.tup ((zYE j).map V.int)))):=by
 intro pins s σ H xs us Q I r h
 obtain⟨r1,j,rfl,hr,j0,j1,hc,q⟩:=h
 obtain⟨_,rfl,rx⟩:=vals1 r
 cases rx
 obtain⟨⟨t,u,v,hR⟩,_⟩:=(show ObjOk X.prog X.w H s.heap r1 (yFJ r1 j)from I.hok r1 _ hr)
 refine zMT (I.ok.hd hc) hR (small_one (by decide) (by decide) (by omega) (by omega)) yJA (by omega) λh' tk acc hk hacc=>?_
 have I1:Inv X pins σ H {s with heap:=h',toks:=tk}:=I.kept hk
 have I2:Inv X pins σ (upd H h'.objs.size (.tup ((zYE j).map V.int))) {s with heap:=h'.push {cls:=.type "tuple",data:=.seq acc},toks:=tk}:=
  I1.laid (t':=tk) (λb o e=>hP0 _ e) (le_refl _) (show ObjOk X.prog X.w _ _ _ (.tup ((zYE j).map V.int))from⟨?_,acc.toList,yBH hacc,?_⟩)
 ·exact⟨.ref h'.objs.size,_,I2,rfl,q _ (I1.hok.fresh (le_refl _))⟩
 ·rw [lM,lM,length_range,sizeLine_eq]
  omega
 ·have:=IsTup.new h' acc
  simpa using this
def yDE(rs:List Er)(S:Sto):R Er:=match rs with
 |[.val (.int j)]=>if -1000000<=j/\j<=1000000 then .ok (.val (.tup ((zYE j).map MV.int))) S else .no
 |_=>.no
theorem yMS(hc:X.calm=true)(hg:Gl X "tuple")(hm:X.mg "tuple"=none)(hgr:Gl X "range")(hmr:X.mg "range"=none)(ha:PAm X W [a] af)(hs:starEach [a] X.env=[(false,eval a X.env)]:=by rfl)
  (he1:starEach [.Call (.Name "range" p3) [a] [] pos2] X.env=(false,eval (.Call (.Name "range" p3) [a] [] pos2) X.env)::starEach [] X.env:=by rfl) (hpl1:(backTo pos (starEach [] X.env)).any (·.1)=false:=by rfl):
  PEm X W (.Call (.Name "tuple" p2) [.Call (.Name "range" p3) [a] [] pos2] [] pos) (λρ S=>(af ρ S).bind yDE):=by
 obtain⟨t,ha,k⟩:=ha
 refine⟨_,zTI yFK hg hm wX (zUE (ySC hgr hmr ha hs) yAM he1) (by decide) (by decide) he1 hpl1,λα ρ S σ H Q wd sl q=>k α ρ S σ H _ wd sl (q.bind λvs rs S1 α1 H1 e1 x1 w1 d1 q1=>?_)⟩
 replace q1:=q1.shift x1
 unfold yDE at q1
 split at q1
 ·split at q1
  ·rename_i j hj
   obtain⟨u,rfl,du⟩:=yCT d1
   cases xF du
   refine⟨j,rfl,λv hv=>?_⟩
   have xn:=w1.newx (o:=yFJ v j) hv
   have wn:=w1.new (o:=yFJ v j) hv
   exact⟨v,j,rfl,yS,hj.1,hj.2,hc,λp hp=>(q1.shift xn).newt wn hp (zIV _)⟩
  ·exact q1.elim
 ·exact q1.elim
end
end M
end L2
namespace L2
open PySem PySem.Spec PyProof.Rows
section
variable{X:Cx}{pins:List (Addr×Obj)}{σ:St}{H:Hp}{s:Shared}{a C dx:Addr}{fs:List (Str×V)}{f:Str}{v:V}{A:Around}{E:Value->Shared->Prop}{o:Obj}
theorem yDF(I:Inv X pins σ H s)(e:H a=some (.frz o (.ins C dx fs))): ∃mA,ObjM s.heap a dx C mA/\ ∀f,RelO (fs.lookup f) (mA f):=by
 obtain⟨_,d,z,ne,ob,mA,n,r,q⟩:=(show ObjOk X.prog X.w H s.heap a (.frz o (.ins C dx fs))from I.hok a _ e)
 exact⟨mA,⟨ob,n,ne⟩,r⟩
theorem zYF{b:Bool}{Q:Value->Shared->Prop}(I:Inv X pins σ H s)(e:H a=some (.frz o (.ins C dx fs)))(c:Cls X.K C)(n:NoAttr X.K C f)(l:fs.lookup f=some v)
  (h: ∀u s',Inv X pins σ H s'->RelV v u->Q u s'):wpAny (model X.prog X.w) A (getAttr (.ref a) f b) Q E s:=by
 obtain⟨mA,O,r⟩:=yDF I e
 obtain⟨u,hu,ru⟩:=RelO.some_of (v:=v) (o:=mA f) (by rw [<-l];exact r f)
 exact yKV I.kIn O (c.get f) c.hd n hu (yEN ru) (h u _ (I.tok _) ru)
theorem zYG{m:Str}{g:Addr}{pl:Sem Bool}{Q:Value×List Value->Shared->Prop}(I:Inv X pins σ H s)(e:H a=some (.frz o (.ins C dx fs)))(c:Cls X.K C)(k:Meth X.K C m g)(l:fs.lookup m=none)
  (h:Q (.ref g,[.ref a]) s):wpAny (model X.prog X.w) A (getMethod (.ref a) m pl) Q E s:=by
 obtain⟨mA,O,r⟩:=yDF I e
 have hn:mA m=none:=RelO.none_of (by rw [<-l];exact r m)
 exact yGX I.kIn O (c.get m) k.at_ k.fn hn h
theorem Inv.freeze(I:Inv X pins σ H s)(e:H a=some (.ins C dx fs)):Inv X pins σ (upd H a (.frz (PySem.W.instObj C dx) (.ins C dx fs))) s:=by
 obtain⟨d,z,ne,ob,mA,n,r,q⟩:=(show ObjOk X.prog X.w H s.heap a (.ins C dx fs)from I.hok a _ e)
 exact I.write (x:=a) (e:=a) (h':=s.heap) (t':=s.toks) (o:=.frz (PySem.W.instObj C dx) (.ins C dx fs)) (by rw [e];exact True.intro) (.inl rfl) (λ_ _ _ q=>q) ⟨_,ob⟩ ⟨ob,by rw [yC ne];exact d,z,ne,ob,mA,n,r,q⟩
end
namespace M
structure OC(K:PySem.W.Frag)(c:Str)(C:Addr):Prop where
 ns:PySem.W.nsIn K mainGlobals c=some (some (.ref C))
 nm:(PySem.W.clsIn K C).map (·.name)=some c
 cl:Cls K C
theorem OC.eq{K:PySem.W.Frag}{c:Str}{C C':Addr}(o:OC K c C)(h:PySem.W.nsIn K mainGlobals c=some (some (.ref C'))):C'=C:=by
 have:=o.ns
 rw [h]at this
 cases this
 rfl
section
variable{X:Cx}{W:XW}{a e:Expr}{es:List Expr}{f g:Rho->Sto->R Er}{af:Rho->Sto->R (List Er)}{pos apos p p2:Pos}{fld m:Str}
def zJO(cs:List Str)(fld:Str):Er->Sto->R Er
 |.val (.obj c ns ds),S=>if c∈cs then(match (ns.zip ds).lookup fld with |some d=>.ok (.val d) S|none=>.no)else .no
 |_,_=>.no
theorem zQK{K:PySem.W.Frag}{α:List Addr}{H:Hp}{fld:Str}{d:MV}: ∀{ns:List Str}{ds:List MV}{vs:List V},DenL K α H ds vs->(ns.zip ds).lookup fld=some d-> ∃v,(ns.zip vs).lookup fld=some v/\Den K α H d v
 |[],_,_,_,h=>by simp at h
 |n::ns,[],_,_,h=>by simp at h
 |n::ns,x::ds,vs,l,h=>by
  obtain⟨v,r,rfl,a,l'⟩:=l.uncons
  rw [zip_cons_cons,lookup_cons]at h
  rw [zip_cons_cons]
  by_cases e:fld==n
  ·rw [e]at h
   cases h
   exact⟨v,by rw [lookup_cons,e],a⟩
  ·have e:(fld==n)=false:=by simpa using e
   rw [e]at h
   obtain⟨w,h1,h2⟩:=zQK l' h
   exact⟨w,by rw [lookup_cons,e];exact h1,h2⟩
theorem zIY{cs:List Str}(T: ∀c∈cs, ∃C,OC X.K c C/\NoAttr X.K C fld)(he:PEm X W e f)(hb:attributeBase e fld X.env (eval e X.env)=eval e X.env:=by rfl):PEm X W (.Attribute e fld pos) (λρ S=>(f ρ S).bind (zJO cs fld)):=by
 obtain⟨t,he,k⟩:=he
 refine⟨λσ H Q=>t σ H λx H1=> ∃a o C dx fs v,x=.ref a/\H1 a=some (.frz o (.ins C dx fs))/\Cls X.K C/\NoAttr X.K C fld/\fs.lookup fld=some v/\Q v H1,λpins s σ H Q I h=>?_,λα ρ S σ H Q wd sl q=>k α ρ S σ H _ wd sl (q.bind λu r S1 α1 H1 e1 x1 w1 d1 q1=>?_)⟩
 ·refine yKY hb (thn (he pins s σ H _ I h) λu s1 ⟨x,H1,I1,rx,a,o,C,dx,fs,v,ex,ea,c,n,l,q⟩=>?_)
  subst ex
  obtain rfl:u=Value.ref a:=rx
  exact zYF I1 ea c n l λu' s2 I2 ru=>⟨v,H1,I2,ru,q⟩
 ·replace q1:=q1.shift x1
  unfold zJO at q1
  split at q1
  ·rename_i c ns ds
   split at q1
   ·rename_i hc
    split at q1
    ·rename_i d hd
     obtain⟨a,C,dx,vs,o,rfl,h1,h2,h3,h4,h5⟩:=yHO d1.1
     obtain⟨C',oc,na⟩:=T c hc
     cases oc.eq h2
     obtain⟨v,l1,l2⟩:=zQK h5 hd
     exact⟨a,o,C,dx,_,v,rfl,h1,oc.cl,na,l1,Post.val q1 w1 l2⟩
    ·exact q1.elim
   ·exact q1.elim
  ·exact q1.elim
def spO(K:PySem.W.Frag)(fld:Str):Sp:=λvs H Q _=> ∃x C dx fs v,vs=[.ref x,v]/\H x=some (.ins C dx fs)/\Cls K C/\NoAttr K C fld/\fs.length<1000/\Q .non (upd H x (.ins C dx (zGU fld v fs)))
def yFL(c fld:Str):Er->Sto->R Er
 |.val d,S=>.ok (.val (.obj c [fld] [d])) S
 |_,_=>.no
theorem yMT{C fi:Addr}{fd:FuncData}{par x:Str}{k:Nat}(oc:OC X.K x C)(na:NoAttr X.K C fld)(Mk':Mk X.K C fi)(F:FnOk X.prog X.w X.K X.mg X.base CX0 k fi fd ["self",par] (spO X.K fld))(hb:Binds X.K fd ["self",par] [])(hr:Room (k+1) X.A)(hg:Gl X x)(hm:X.mg x=some (.ref C))(he:PEm X W e f)(hdb:(x==("__debug__":Str))=false:=by decide)
  (hs:starEach [e] X.env=(false,eval e X.env)::starEach [] X.env:=by rfl) (hpl:(backTo pos (starEach [] X.env)).any (·.1)=false:=by rfl):PEm X W (.Call (.Name x p) [e] [] pos) (λρ S=>(f ρ S).bind (yFL x fld)):=by
 obtain⟨t,he,kk⟩:=he
 refine⟨λσ H Q=>yOQ C (spO X.K fld) [] E0 (yOP t tNil) σ H λy H2=> ∃x dx v,y=.ref x/\H2 x=some (.ins C dx [(fld,v)])/\Q (.ref x) (upd H2 x (.frz (PySem.W.instObj C dx) (.ins C dx [(fld,v)]))),λpins s σ H Q I h=>?_,λα ρ S σ H Q wd sl q=>kk α ρ S σ H _ wd sl (q.bind λu r S1 α1 H1 e1 x1 w1 d1 q1=>?_)⟩
 ·refine thn (yLA Mk' F hr hg hm hb .nil yHH (zUE he yAM hs) hdb hs hpl pins s σ H _ I h) λu s' ⟨y,H2,I2,ry,x,dx,v,ex,e,q⟩=>?_
  subst ex
  exact⟨.ref x,_,I2.freeze e,ry,q⟩
 ·replace q1:=q1.shift x1
  unfold yFL at q1
  split at q1
  ·rename_i d
   intro y dx hy hdx hne
   refine⟨y,C,dx,[],u,rfl,yS,oc.cl,na,by decide,rfl,y,dx,u,rfl,yS,?_⟩
   rw [yCF,yCF]
   have xa:=w1.newx (o:=.own y) hdx
   have wa:=w1.new (o:=.own y) hdx
   have hy':(upd H1 dx (.own y)) y=none:=by rw [yC (Ne.symm hne)];exact hy
   have xb:=wa.newx (o:=.frz (PySem.W.instObj C dx) (.ins C dx [(fld,u)])) hy'
   have wb:=wa.new (o:=.frz (PySem.W.instObj C dx) (.ins C dx [(fld,u)])) hy'
   exact Post.val (q1.shift (xa.trans xb)) wb (yCQ (ns:=[fld]) (vs:=[u]) yS oc.ns oc.nm rfl (yW ((d1.1.ext xa).ext xb) xN))
  ·exact q1.elim
noncomputable def yBI(m:Str)(l:List (Str×(List MV->Sto->R Er))):Er->Option (List MV->Sto->R Er)
 |.val (.obj c ns _)=>if m∈ns then none else l.lookup c
 |_=>none
noncomputable def NJ(m:Str)(n:Nat)(l:List (Str×(List MV->Sto->R Er)))(f:Rho->Sto->R Er)(af:Rho->Sto->R (List Er))(ρ:Rho)(S:Sto):R Er:=(f ρ S).bind λp S=>match yBI m l p with
 |some F=>(af ρ S).bind λr S=>zT n F (p::r) S
 |none=>.no
theorem lookup_mem{β:Type}{c:Str}{b:β}: ∀{l:List (Str×β)},l.lookup c=some b->(c,b)∈l
 |[],h=>by simp at h
 |(d,x)::l,h=>by
  rw [lookup_cons]at h
  by_cases e:c==d
  ·rw [e]at h
   cases h
   have:c=d:=by simpa using e
   rw [this]
   exact mF0
  ·have e:(c==d)=false:=by simpa using e
   rw [e]at h
   exact mO _ (lookup_mem h)
theorem zQL{β:Type}{m:Str}: ∀{ns:List Str}{vs:List β},m∉ns->(ns.zip vs).lookup m=none
 |[],_,_=>by simp
 |n::ns,[],_=>by simp
 |n::ns,v::vs,h=>by
  rw [zip_cons_cons,lookup_cons]
  have e:(m==n)=false:=by
   have:m≠n:=λz=>h (by rw [z];exact mF0)
   simpa using this
  rw [e]
  exact zQL λz=>h (mO _ z)
def MtOk(X:Cx)(m:Str)(k n:Nat)(c:Str)(F:List MV->Sto->R Er):Prop:= ∃C fa fd ps,OC X.K c C/\Meth X.K C m fa/\FnOk X.prog X.w X.K X.mg X.base CX0 k fa fd ps (spM X.g n F)/\Binds X.K fd ps []
theorem zQM{o:Expr}{pl:Sem Bool}{k n:Nat}{l:List (Str×(List MV->Sto->R Er))}(T: ∀q∈l,MtOk X m k n q.1 q.2)(hr:Room k X.A)(he:PEm X W o f)(ha:PAm X W (e::es) af)
  (hst:starEach (e::es) X.env=(false,eval e X.env)::starEach es X.env:=by rfl) (hpl:(backTo pos (starEach es X.env)).any (·.1)=false:=by rfl)
  (ht:eval (.Call (.Attribute o m apos) (e::es) [] pos) X.env=(do
   let ov <-eval o X.env
   standAt apos.atName
   let (f,first) <-holding [ov] (getMethod ov m pl)
   callWith pos f first (backTo pos (starEach (e::es) X.env)) (backToKw pos (keywordEach [] X.env))):=by rfl):
  PEm X W (.Call (.Attribute o m apos) (e::es) [] pos) (NJ m n l f af):=by
 obtain⟨to,he,ko⟩:=he
 obtain⟨ta,ha,ka⟩:=ha
 refine⟨λσ H Q=>to σ H λx H1=> ∃a ob C dx fs g fd ps sp,x=.ref a/\H1 a=some (.frz ob (.ins C dx fs))/\Cls X.K C/\Meth X.K C m g/\fs.lookup m=none/\FnOk X.prog X.w X.K X.mg X.base CX0 k g fd ps sp/\Binds X.K fd ps []/\ta σ H1 λvs H2=>sp (x::vs) H2 Q E0,λpins s σ H Q I h=>?_,λα ρ S σ H Q wd sl q=>ko α ρ S σ H _ wd sl (Post.bind q λu r S1 α1 H1 e1 x1 w1 d1 q1=>?_)⟩
 ·refine PySem.W.methodCall_KW (pl:=pl) (thn (he pins s σ H _ I h) λu s1 ⟨x,H1,I1,rx,a,ob,C,dx,fs,g,fd,ps,sp,ex,ea,c,hm,l,F,hb,q⟩=>?_) ht
  subst ex
  obtain rfl:u=Value.ref a:=rx
  refine zYG I1 ea c hm l ?_
  refine PySem.W.callWith_K (first:=[.ref a]) (h₀:=X.base) I.ok.mod.kin hm.kp (thn (ha pos pins s1 σ H1 _ I1 q) λus s2 ⟨vs,H2,I2,r,q2⟩=>⟨I2.kIn,?_⟩) hst hpl
  exact yGZ (us:=.ref a::us) (vs:=.ref a::vs) F hr hb .nil yHH I2 (.cons rfl r) (by rw [aN];exact q2)
 ·unfold yBI at q1
  cases r with
  |new ds=>exact q1.elim
  |val d=>
   cases d with
   |obj c ns ds=>
    dsimp only at q1
    by_cases hmn:m∈ns
    ·rw [iP hmn]at q1;exact q1.elim
    ·rw [iN hmn]at q1
     cases z:l.lookup c with
     |none=>rw [z]at q1;exact q1.elim
     |some F=>
      rw [z]at q1
      dsimp only at q1
      obtain⟨a,C,dx,vs,ob,rfl,h1,h2,h3,h4,h5⟩:=yHO d1.1
      obtain⟨C',g,fd,ps,oc,hm,hF,hb⟩:=T (c,F) (lookup_mem z)
      cases oc.eq h2
      refine⟨a,ob,C,dx,_,g,fd,ps,_,rfl,h1,oc.cl,hm,zQL hmn,hF,hb,ka α1 ρ S1 σ H1 _ w1 (sl.ext x1) ?_⟩
      refine(Post.shift x1 q1).bind λus rs S2 α2 H2 e2 x2 w2 d2 q2=>?_
      exact zTO x2 w2 (ArgsE.cons (DenE.val (d1.1.ext x2)) (λds b er=>by cases er) d2) q2
   |_=>exact q1.elim
structure OI(K:PySem.W.Frag)(C:Addr):Prop where
 ha:PySem.W.findIn K (.ref C) "__class__"=some (some (.builtin "object.__class__"))
 hn:PySem.W.specialIn K (.builtin "object.__class__") "__get__"=some (some (.builtin "getset_descriptor.__get__"))
 htk:PySem.W.takesIn K (.builtin "object.__class__")=some true
 hm:PySem.W.mroIn K C (.type "object")=some true
end
def zBR(y:List Nat):List (List Nat)->List Nat
 |[]=>[]
 |[x]=>x
 |x::r=>x++y++zBR y r
theorem zYH(y:List Nat): ∀zs:List (List Nat),Str.join (mkS y) (zs.map mkS)=mkS (zBR y zs)
 |[]=>rfl
 |[x]=>rfl
 |x::z::r=>by
  show mkS x++mkS y++Str.join (mkS y) ((z::r).map mkS)=mkS (x++y++zBR y (z::r))
  rw [zYH y (z::r),zUO,zUO]
theorem yDG{y:Str}: ∀(l:List Str)(n k:Nat),(∀z∈l,z.length+y.length<=500)->l.length<=k->l.foldl (λa z=>a+z.length+y.length) n<=n+500 * k
 |[],n,k,_,_=>Nat.le_add_right _ _
 |z::l,n,0,_,h=>by simp at h
 |z::l,n,k+1,hz,h=>by
  rw [foldl_cons]
  have h1:=yDG l (n+z.length+y.length) k (λw hw=>hz w (mO _ hw)) (by simpa using h)
  have h2:=hz z mF0
  omega
theorem joinOk_of{y:List Nat}{zs:List (List Nat)}(h0:y.length<=100)(h1:zs.length<=1000)(h2: ∀z∈zs,z.length<=400):JoinOk (mkS y) (zs.map mkS)=true:=by
 unfold JoinOk
 rw [not_eq_true']
 unfold Builtin.Str.tooLong
 rw [List.foldl_toArray,decide_eq_false_iff_not]
 have:=yDG (y:=mkS y) (zs.map mkS) 0 1000 (λz hz=>by
  obtain⟨w,hw,rfl⟩:=mM.mp hz
  have:=h2 w hw
  rw [kI,kI]
  omega) (by rw [lM];exact h1)
 rw [sizeLine_eq]
 omega
def zEX:List MV->Option (List (List Nat))
 |[]=>some []
 |.str x::ds=>(zEX ds).map (x::·)
 |_::_=>none
theorem yDH{K:PySem.W.Frag}{α:List Addr}{H:Hp}: ∀{ds:List MV}{zs:List (List Nat)}{vs:List V}{us:List Value},zEX ds=some zs->DenL K α H ds vs->Vals vs us-> ∃l:List (Str×Tok),us=strValues l/\l.map (·.1)=zs.map mkS
 |[],zs,vs,us,e,d,r=>by
  cases e
  rw [d.isnil]at r
  cases r
  exact⟨[],rfl,rfl⟩
 |x::ds,zs,vs,us,e,d,r=>by
  obtain⟨v,r',rfl,d1,d2⟩:=d.uncons
  cases r with
  |cons a b=>
   cases x<;>first |(cases e)|skip
   rename_i i
   unfold zEX at e
   cases z:zEX ds with
   |none=>rw [z]at e;cases e
   |some ms=>
    rw [z]at e
    cases e
    cases jL d1
    obtain⟨t,rfl⟩:=a
    obtain⟨l,rfl,hl⟩:=yDH z d2 b
    exact⟨(mkS i,t)::l,rfl,by rw [map_cons,hl];rfl⟩
section
variable{X:Cx}{W:XW}{a e:Expr}{es:List Expr}{f:Rho->Sto->R Er}{af:Rho->Sto->R (List Er)}{apos pos:Pos}
theorem yMU:MtR X "str.join" (λx xs H Q=> ∃y l vs ds zs α,x=.str (mkS y)/\xs=[.ref l]/\SqL X.K H l vs/\zEX ds=some zs/\DenL X.K α H ds vs/\(y.length<=100/\zs.length<=1000/\ ∀z∈zs,z.length<=400)/\Q (.str (mkS (zBR y zs))) H):=by
 intro pins s σ H x xs v us Q I rx rs h
 obtain⟨y,l,vs,ds,zs,α,rfl,rfl,hl,hz,hd,hc,q⟩:=h
 obtain⟨t,rfl⟩:=rx
 obtain⟨u,rfl,r1⟩:=vals1 rs
 cases r1
 obtain⟨its,rv,p,_⟩:=I.list hl
 obtain⟨ps,rfl,hp⟩:=yDH hz hd rv
 refine PySem.SC.join p.isList hp (joinOk_of hc.1 hc.2.1 hc.2.2) λt' k=>⟨.str (mkS (zBR y zs)),H,I.tok _,⟨t',?_⟩,q⟩
 show Value.str (Builtin.Str.glued (mkS y) (zs.map mkS)) t'=_
 rw [StrLaws.glued_eq_join,zYH]
open Classical in
noncomputable def zTQ:Er->List Er->Sto->R Er
 |.val (.str y),[r],S=>match jB S r with
  |some ds=>match zEX ds with
   |some zs=>if y.length<=100/\zs.length<=1000/\ ∀z∈zs,z.length<=400 then .ok (.val (.str (zBR y zs))) S else .no
   |none=>.no
  |none=>.no
 |_,_,_=>.no
theorem yMV:MtdM X W (λx xs H Q=> ∃y l vs ds zs α,x=.str (mkS y)/\xs=[.ref l]/\SqL X.K H l vs/\zEX ds=some zs/\DenL X.K α H ds vs/\(y.length<=100/\zs.length<=1000/\ ∀z∈zs,z.length<=400)/\Q (.str (mkS (zBR y zs))) H) zTQ:=by
 intro p rs x vs α S H0 H Q α0 wd x0 dp da post
 replace post:=post.shift x0
 unfold zTQ at post
 split at post
 ·split at post
  ·rename_i ds e
   split at post
   ·rename_i zs hz
    split at post
    ·rename_i hc
     obtain⟨v,rfl,dv⟩:=yCT da
     obtain⟨l,us,rfl,h1,h2⟩:=zHC rfl wd e dv
     exact⟨_,l,us,ds,zs,α,cC dp,rfl,h1,hz,h2,hc,Post.val post wd (zBM _)⟩
    ·exact post.elim
   ·exact post.elim
  ·exact post.elim
 ·exact post.elim
theorem yMW(ho:PEm X W a f)(ha:PAm X W (e::es) af)
  (hbase:attributeBase a "join" X.env (eval a X.env)=eval a X.env:=by rfl)
  (hfew:((backTo pos (starEach (e::es) X.env)).all (λx=>!x.1)&&(backToKw pos (keywordEach [] X.env)).all (λx=>x.1.isSome)
   &&decide ((e::es).length+([]:List Keyword).length+(if([]:List Keyword).isEmpty then 0 else 1)<30))=true:=by rfl)
  (hline:(apos.endLine==pos.line)=true:=by rfl) (hs:starEach (e::es) X.env=(false,eval e X.env)::starEach es X.env:=by rfl) (hplain:(backTo pos (starEach es X.env)).any (·.1)=false:=by rfl):
  PEm X W (.Call (.Attribute a "join" apos) (e::es) [] pos) (λρ S=>(f ρ S).bind λp S1=>if zQE p S1=true then(af ρ S1).bind λrs S2=>zTQ p rs S2 else .no):=
 yCR PySem.F.plainAttrs_str PySem.F.slot_str_join PySem.F.type_str_join yMU yMV ty_str ho ha hbase hfew hline hs hplain
end
section
variable(P:Program)(w:World)(K:PySem.W.Frag)(mg:Str->Option Value)(base:Heap)
def MkB(x fld:Str):Prop:= ∃C fi fd par,OC K x C/\NoAttr K C fld/\Mk K C fi/\FnOk P w K mg base CX0 1 fi fd ["self",par] (spO K fld)/\Binds K fd ["self",par] []/\mg x=some (.ref C)
def MtB(m:Str)(k n:Nat)(l:List (Str×(List MV->Sto->R Er))):Prop:= ∀q∈l, ∃C fa fd ps,OC K q.1 C/\Meth K C m fa/\FnOk P w K mg base CX0 k fa fd ps (spM ⟨K,mg,P,w⟩ n q.2)/\Binds K fd ps []
def FlB(cs:List Str)(fld:Str):Prop:= ∀c∈cs, ∃C,OC K c C/\NoAttr K C fld
end
section
variable{X:Cx}{W:XW}{a e o:Expr}{es:List Expr}{f:Rho->Sto->R Er}{af:Rho->Sto->R (List Er)}{pos apos p p2:Pos}{fld m x:Str}
theorem zQN(B:MkB X.prog X.w X.K X.mg X.base x fld)(hr:Room 2 X.A)(hg:Gl X x)(he:PEm X W e f)(hdb:(x==("__debug__":Str))=false:=by decide)
  (hs:starEach [e] X.env=(false,eval e X.env)::starEach [] X.env:=by rfl) (hpl:(backTo pos (starEach [] X.env)).any (·.1)=false:=by rfl):PEm X W (.Call (.Name x p) [e] [] pos) (λρ S=>(f ρ S).bind (yFL x fld)):=by
 obtain⟨C,fi,fd,par,oc,na,mk,F,hb,hm⟩:=B
 exact yMT oc na mk F hb hr hg hm he hdb hs hpl
theorem yMX{P:Program}{w:World}{K:PySem.W.Frag}{mg:Str->Option Value}{base:Heap}{qual:Str}{st:Stmt}{f:Addr}{fd:FuncData}{par:Str}(F:Fun K "__init__" qual st f fd)(Sc:FnScope ["self",par] ["self",par] (zG st))
  (hbody: ∀(cdv:Value)(A:Around)(outer:List Env)(s:Shared)(H:Hp)(E:XK),PSs (zXF CX0 P w K mg base ["self",par] qual (zG st) f cdv A outer s H E).nox (xR st) (sFld K (λσ H Q=> ∃v,σ[0]? =some (some v)/\Q v H) (λσ H Q=> ∃v,σ[1]? =some (some v)/\Q v H) fld)):
  FnOk P w K mg base CX0 1 f fd ["self",par] (spO K fld):=by
 refine F.ok (k:=0) Sc (λvs H Q E h=>?_) λcdv A outer s H vs Q E hr h=>?_
 ·obtain⟨_,_,_,_,_,rfl,_⟩:=h;rfl
 ·obtain⟨x,C,dx,fs,v,rfl,h1,h2,h3,h4,q⟩:=h
  exact⟨_,hbody cdv A outer s H E,v,rfl,.ref x,rfl,x,C,dx,fs,rfl,h1,h2,h3,h4,q⟩
end
theorem nm_of{K:PySem.W.Frag}{C:Addr}{cd:ClassData}{c:Str}(e:PySem.W.clsIn K C=some cd)(h:cd.name=c):(PySem.W.clsIn K C).map (·.name)=some c:=by rw [e];exact congrArg some h
section
variable{X:Cx}{W:XW}{a b o i e:Expr}{es:List Expr}{f g:Rho->Sto->R Er}{af:Rho->Sto->R (List Er)}{apos pos:Pos}{α:List Addr}{H:Hp}{pins:List (Addr×Obj)}{σ:St}{s:Shared}
def kyOf:MV->Option Key
 |.int i=>some (.inl i)
 |.str x=>some (.inr (mkS x))
 |_=>none
theorem ky_D: ∀{k:MV}{k':Key},kyOf k=some k'->KeyD k k'
 |.int i,_,h=>by cases h;exact rfl
 |.str x,_,h=>by cases h;exact rfl
 |.non,_,h=>nomatch h
 |.bl _,_,h=>nomatch h
 |.tup _,_,h=>nomatch h
 |.scr _,_,h=>nomatch h
 |.loc _,_,h=>nomatch h
 |.typ _,_,h=>nomatch h
 |.obj _ _ _,_,h=>nomatch h
theorem yJB: ∀{k:MV}{k':Key}{v:V},kyOf k=some k'->Den X.K α H k v->v=kV k'
 |.int i,_,_,h,d=>by cases h;exact jK d
 |.str x,_,_,h,d=>by cases h;exact jL d
 |.non,_,_,h,_=>nomatch h
 |.bl _,_,_,h,_=>nomatch h
 |.tup _,_,_,h,_=>nomatch h
 |.scr _,_,_,h,_=>nomatch h
 |.loc _,_,_,h,_=>nomatch h
 |.typ _,_,_,h,_=>nomatch h
 |.obj _ _ _,_,_,h,_=>nomatch h
theorem zYI: ∀{k:Key}{u:Value},RelV (kV k) u->(wG X.prog X.w).is k u=true
 |.inl i,_,h=>by obtain⟨t,rfl⟩:=(h: ∃t,_=_);exact zXA _ _ i t
 |.inr x,_,h=>by obtain⟨t,rfl⟩:=(h: ∃t,_=_);exact zXB _ _ x t
theorem yMY: ∀{k:Key}{u:Value},RelV (kV k) u->(keyPart u).isSome=true
 |.inl i,_,h=>by obtain⟨t,rfl⟩:=(h: ∃t,_=_);rfl
 |.inr x,_,h=>by obtain⟨t,rfl⟩:=(h: ∃t,_=_);rfl
def zOI(k:MV):Bool:=(kyOf k).isSome
theorem dx_of{kvs:List (MV×MV)}{d:Addr}(ob:ObD X.g α H d (.dic kvs))(hk:kvs.all (λp=>zOI p.1)=true): ∃ks,DK X H d ks/\DenK X.K α H kvs ks:=by
 rcases ob with⟨ks,h,l⟩|⟨xs,h,l⟩
 ·exact⟨ks,.inl h,l⟩
 ·cases l with
  |nil=>exact⟨[],.inr ⟨rfl,h⟩,.nil⟩
  |@cons k nk a d v u fs xs hn e ha hd r l=>
   rw [all_cons,aE]at hk
   obtain⟨k',hk'⟩:=Option.isSome_iff_exists.mp hk.1
   have:=yJB hk' ha
   cases k'<;>cases this
noncomputable def zSH(S:Sto):Er->Option (Nat×List (MV×MV))
 |.val (.loc l)=>match S[l]? with
  |some (.dic kvs)=>if kvs.all (λp=>zOI p.1)=true then some (l,kvs)else none
  |_=>none
 |_=>none
theorem dxo{S:Sto}(wd:Wd X.g α S H){r:Er}{x:V}{l:Nat}{kvs:List (MV×MV)}(e:zSH S r=some (l,kvs))(d:DenX X.K α H r x):
  ∃c ks,x=.ref c/\α[l]? =some c/\S[l]? =some (.dic kvs)/\DK X H c ks/\DenK X.K α H kvs ks/\kvs.all (λp=>zOI p.1)=true:=by
 unfold zSH at e
 split at e
 ·rename_i n
  obtain⟨c,rfl,h⟩:=zGY d
  split at e
  ·rename_i ks hS
   split at e
   ·rename_i hk
    obtain⟨rfl,rfl⟩:=Prod.mk.inj (Option.some.inj e)
    obtain⟨xs,dd,l⟩:=dx_of (wd.obj _ c _ h hS) hk
    exact⟨c,xs,rfl,h,hS,dd,l,hk⟩
   ·cases e
  ·cases e
 ·cases e
theorem yJC{ks:List (Key×V)}{d:Addr}(dd:DK X H d ks):Mut (H d):=by
 rcases dd with z|⟨_,z⟩<;>rw [z]<;>exact trivial
def rSetX(X:Cx):TSet:=λo i v H Q=> ∃(ks:List (Key×V))(d:Addr)(k:Key),o=.ref d/\i=kV k/\DK X H d ks/\ks.length<sizeLine/\Q (upd H d (.dK (zMP ks k v)))
theorem yFM:PSet X (rSetX X):=by
 intro pins s σ H o i v ov iv u Q I ro ri rv h
 obtain⟨ks,d,k,rfl,rfl,dd,hz,q⟩:=h
 cases ro
 obtain⟨z,hd,vs,rel,dm⟩:=zEW I dd
 have hl:ks.length=vs.length:=Paired.length rel
 have hp:=zYA ks k v
 refine wpAny_setItem_pairs (knd:=wG X.prog X.w) (hsz:=by omega) (zYI ri) dm λh' dm' hs'=>⟨_,?_,q⟩
 have he: ∃q,h'.get? d=some q:=let ⟨q,_,_,hq,_⟩:=dm';⟨q,hq⟩
 exact I.write (t':=_) (x:=d) (e:=d) (yJC dd) (.inl rfl) (λb uo hb eo=>(hs'.2 b hb).trans eo) he ⟨by omega,hd,_,yIY rel _ rv,dm'⟩
noncomputable def zYJ(p q:Er)(d:MV)(ρ:Rho)(S:Sto):R Rho:=match q with
 |.val k=>match zSH S p with
  |some (l,kvs)=>if zOI k=true/\kvs.length<1000000 then .ok ρ (S.set l (.dic (putK kvs k d)))else .no
  |none=>.no
 |_=>.no
theorem yMZ(ho:PEm X W o f)(hi:PEm X W i g)
  (ha: ∀v,assign (.Subscript o i pos) X.env v=(do
   let ov <-holding [v] (eval o X.env)
   let iv <-holding [v,ov] (eval i X.env)
   standAt pos
   holding [v,ov,iv] (setItem ov iv v)
   release [v,ov,iv] []):=by intro _;rfl):PGm X W (.Subscript o i pos) (λd ρ S=>(f ρ S).bind λp S1=>(g ρ S1).bind λq S2=>zYJ p q d ρ S2):=by
 obtain⟨to,ho,fo⟩:=ho
 obtain⟨ti,hi,fi⟩:=hi
 refine⟨_,yGR ho hi yFM ha,λα ρ S σ H d v Q wd sl de q=>fo α ρ S σ H _ wd sl (q.bind λu p S1 α1 H1 e1 x1 w1 d1 q1=>fi α1 ρ S1 σ H1 _ w1 (sl.ext x1) ((q1.shift x1).bind λu2 p2 S2 α2 H2 e2 x2 w2 d2 q2=>?_))⟩
 replace q2:=q2.shift x2
 have d1':=DenX.ext x2 d1.1
 have de2:=(de.ext x1).ext x2
 unfold zYJ at q2
 split at q2
 ·rename_i k
  split at q2
  ·rename_i l kvs e
   split at q2
   ·rename_i hk
    obtain⟨c,ks,rfl,hc,hS,dd,dl,hall⟩:=dxo w2 e d1'
    obtain⟨k',hk'⟩:=Option.isSome_iff_exists.mp hk.1
    refine⟨ks,c,k',rfl,yJB (X:=X) (α:=α2) (H:=H2) hk' d2.1,dd,?_,?_⟩
    ·rw [dl.length]
     exact lt_of_lt_of_le hk.2 (fits (le_refl _))
    ·have xw:=w2.writex hc (o:=.dK (zMP ks k' v))
     have sl2:=((sl.ext x1).ext x2).ext xw
     exact q2 σ α2 _ xw (w2.write hc (.inl ⟨_,yS,(zYC (k:=k) dl (ky_D hk') de2).ex0 xw.toEx0⟩)) sl2
   ·exact q2.elim
  ·exact q2.elim
 ·exact q2.elim
theorem yJD{prog:Program}{w:World}{KK:Type}[DecidableEq KK]{knd:KeyKind prog w KK}{A:Around}{E:Value->Shared->Prop}{s:Shared}{d:Addr}{k:KK}{key:Value}{f:KK->Option Value}{Q:Value->Shared->Prop}(hkey:knd.is k key=true)(hd:(d==sysModules)=false)(hm:s.heap.MapOf knd d f)
  (h:Q (.bool !(f k).isSome) {s with toks:=s.toks+1}):wpAny (model prog w) A (compareOp .NotIn key (.ref d)) Q E s:=by
 show wpAny _ _ (do return .bool (!(<-contains (.ref d) key))) Q E s
 refine wB0 ?_
 unfold contains
 try with_reducible refine wpAny_holding ?_
 refine wB0 (wpAny_specialOf hm.typeIs slot_dict_contains.lookup ?_)
 show wpAny _ _ (if(some (Value.builtin "dict.__contains__")==some Value.none)=true then _ else _) _ E s
 rw [iN (by rw [beq_builtin_none];exact xF0)]
 refine wB0 (wpAny_callSpecialUnlessNone?_slot (name:=Str.ofString "__contains__") hm.typeIs slot_dict_contains
  (wpAny_call_entry slot_dict_contains hm.typeIs entry_dict_contains ?_ (args_dict_contains _ _)))
 show wpAny _ _ (dictGet d key >>= _) _ _ s
 refine wB0 (wpAny_dictGet_of hkey hm ?_)
 cases hf:f k with
 |some v=>
  rw [hf]at h
  show wpAny _ _ (ret (.bool true)) _ _ _
  exact wP0 ⟨_,rfl,wpAny_truthy_bool (wP0 h)⟩
 |none=>
  rw [hf]at h
  show wpAny _ _ (Builtin.Dict.pendingKey? d key >>= _) _ _ _
  exact wB0 (wpAny_pendingKey_other hd (wP0 ⟨_,rfl,wpAny_truthy_bool (wP0 h)⟩))
abbrev rInX(X:Cx)(neg:Bool):R2:=λx y H Q=> ∃(ks:List (Key×V))(d:Addr)(k:Key),x=kV k/\y=.ref d/\DK X H d ks/\
 Q (.bl (if neg=true then !(nW ks k).isSome else(nW ks k).isSome)) H
theorem look_same{ks:List (Key×V)}{vs:List (Key×Value)}(r:KV ks vs)(k:Key):(valueAt vs k).isSome=(nW ks k).isSome:=by
 obtain⟨l1,l2⟩:=zVE r k
 cases h:nW ks k with
 |none=>rw [l2 h];rfl
 |some v=>obtain⟨u,e,_⟩:=l1 v h;rw [e];rfl
theorem ySD:OpR X (compareOp .In) (rInX X false):=by
 intro pins s σ H x y v u Q I rx ry h
 obtain⟨ks,d,k,rfl,rfl,dd,q⟩:=h
 cases ry
 obtain⟨_,hs,vs,rel,dm⟩:=zEW I dd
 refine wpAny_in_of (knd:=wG X.prog X.w) (zYI rx) hs dm.mapOf ?_
 rw [look_same rel k]
 exact⟨.bl (nW ks k).isSome,H,I.kept (t':=_) (λ_ _ z=>z),rfl,q⟩
theorem yFN:OpR X (compareOp .NotIn) (rInX X true):=by
 intro pins s σ H x y v u Q I rx ry h
 obtain⟨ks,d,k,rfl,rfl,dd,q⟩:=h
 cases ry
 obtain⟨_,hs,vs,rel,dm⟩:=zEW I dd
 refine yJD (knd:=wG X.prog X.w) (zYI rx) hs dm.mapOf ?_
 rw [look_same rel k]
 exact⟨.bl !(nW ks k).isSome,H,I.kept (t':=_) (λ_ _ z=>z),rfl,q⟩
noncomputable def zVF(neg:Bool)(p q:Er)(S:Sto):R Er:=match p with
 |.val k=>match zSH S q with
  |some (_,kvs)=>if zOI k=true then .ok (.val (.bl (if neg=true then !(look kvs k).isSome else(look kvs k).isSome))) S else .no
  |none=>.no
 |_=>.no
theorem yFO{kvs:List (MV×MV)}{ks:List (Key×V)}{k:MV}{k':Key}(l:DenK X.K α H kvs ks)(hk:KeyD k k'):(nW ks k').isSome=(look kvs k).isSome:=by
 obtain⟨g1,g2⟩:=zMR l hk
 cases h:look kvs k with
 |none=>rw [g2 h];rfl
 |some v=>obtain⟨u,e,_⟩:=g1 v h;rw [e];rfl
theorem yDI{neg:Bool}:Op2 X W (rInX X neg) (zVF neg):=by
 intro p q x y α S H Q wd dp dq post
 unfold zVF at post
 split at post
 ·rename_i k
  split at post
  ·rename_i l kvs e
   split at post
   ·rename_i hk
    obtain⟨c,ks,rfl,_,_,dd,dl,_⟩:=dxo wd e dq
    obtain⟨k',hk'⟩:=Option.isSome_iff_exists.mp hk
    refine⟨ks,c,k',yJB (X:=X) (α:=α) (H:=H) hk' dp,rfl,dd,?_⟩
    rw [yFO dl (ky_D hk')]
    exact Post.val post wd (gT _)
   ·exact post.elim
  ·exact post.elim
 ·exact post.elim
theorem yJE(ha:PEm X W a f)(hb:PEm X W b g)(hm:behindInMarks .In b=false:=by with_unfolding_all rfl):PTm X W (.Compare a [.In] [b] pos) (λρ S=>((f ρ S).bind λp S1=>(g ρ S1).bind λq S2=>zVF false p q S2).bind asB):=zGZ ySD yDI ha hb hm
theorem yFP(ha:PEm X W a f)(hb:PEm X W b g)(hm:behindInMarks .NotIn b=false:=by with_unfolding_all rfl):PTm X W (.Compare a [.NotIn] [b] pos) (λρ S=>((f ρ S).bind λp S1=>(g ρ S1).bind λq S2=>zVF true p q S2).bind asB):=zGZ yFN yDI ha hb hm
end
section
variable{X:Cx}{W:XW}{a b o i e:Expr}{es:List Expr}{f g:Rho->Sto->R Er}{af:Rho->Sto->R (List Er)}{apos pos:Pos}{α:List Addr}{H:Hp}{pins:List (Addr×Obj)}{σ:St}{s:Shared}
def zQO(ks:List (Key×V))(k:Key):List (Key×V):=ks.filter λkv=>decide (kv.1≠k)
theorem yFQ(ks:List (Key×V))(k:Key):(zQO ks k).length<=ks.length:=length_filter_le _ _
theorem yDJ: ∀{ks:List (Key×V)}{vs:List (Key×Value)},KV ks vs-> ∀(k:Key),KV (zQO ks k) (without vs k)
 |_,_,.nil,k=>.nil
 |(a,x)::ks,(b,u)::vs,.cons ⟨h1,h2⟩ l,k=>by
  cases (show a=b from h1)
  have ih:=yDJ l k
  unfold zQO without at ih ⊢
  by_cases c:a=k
  ·simp only [filter_cons,c,ne_eq,not_true_eq_false,decide_false,fT0,iF];exact ih
  ·simp only [filter_cons,c,ne_eq,not_false_eq_true,decide_true,if_true];exact .cons ⟨rfl,h2⟩ ih
noncomputable def yJF(kvs:List (MV×MV))(k:MV):List (MV×MV):=kvs.filter λp=>!decide (p.1=k)
theorem zTR: ∀{kvs:List (MV×MV)}{ks:List (Key×V)}{k:MV}{k':Key},DenK X.K α H kvs ks->KeyD k k'->DenK X.K α H (yJF kvs k) (zQO ks k')
 |_,_,_,_,.nil,_=>.nil
 |_,_,k,k',.cons (k:=k0) (k':=k0') (d:=d0) (v:=v0) h1 h2 l,hk=>by
  have ih:=zTR l hk
  unfold yJF zQO at ih ⊢
  by_cases c:k0=k
  ·subst c
   have e:=zOZ h1 hk
   simp only [filter_cons,e,decide_true,Bool.not_true,ne_eq,not_true_eq_false,decide_false,fT0,iF]
   exact ih
  ·have hn: ¬k0'=k':=λz=>c (zLB h1 (z▸hk))
   simp only [filter_cons,c,hn,decide_false,Bool.not_false,ne_eq,not_false_eq_true,decide_true,if_true]
   exact .cons h1 h2 ih
def yPC(X:Cx):V->List V->Hp->VK->Prop:=λx vs H Q=> ∃(ks:List (Key×V))(d:Addr)(k:Key)(y:V),x=.ref d/\vs=[kV k,y]/\DK X H d ks/\
 (∀v,nW ks k=some v->Q v (upd H d (.dK (zQO ks k))))/\(nW ks k=none->Q y H)
theorem yNA:MtR X "dict.pop" (yPC X):=by
 intro pins s σ H x vs v us Q I rx rv h
 obtain⟨ks,d,k,y,rfl,rfl,dd,q1,q2⟩:=h
 obtain⟨u1,u2,rfl,r1,r2⟩:=vals2 rv
 cases rx
 have hT:s.TypeIs (.ref d) "dict":=(yIZ pins s σ H (.ref d) (.ref d) I rfl ⟨d,ks,rfl,dd⟩).1
 obtain⟨z,hs,vs,kv,dm⟩:=zEW I dd
 have hl:ks.length=vs.length:=Paired.length kv
 obtain⟨l1,l2⟩:=zVE kv k
 have hkey:=zYI (X:=X) r1
 have hpart:=yMY r1
 refine wpAny_call_entry PySem.F.slot_dict_pop hT PySem.F.entry_dict_pop ?_ (PySem.F.args_dict_pop_3 _ _ _)
 unfold Builtin.«dict.pop»
 refine wB0 ?_
 unfold Builtin.Dict.keyAndDefault
 refine wB0 (wpAny_notOrdered_dict dm.typeIs ?_)
 show wpAny _ _ (pure (d,u1,some u2)) _ _ s
 refine wP0 ?_
 simp only [hpart,if_true]
 refine wB0 (wP0 ?_)
 simp only [fT0,iF]
 cases hv:nW ks k with
 |some v=>
  obtain⟨u,e,ru⟩:=l1 v hv
  refine wB0 (wpAny_takeOut_pairs (hsz:=by omega) hkey dm (λhn=>by rw [hn]at e;exact nomatch e) λen _ he h' hm' hs'=>?_)
  have hev:en.val=u:=by rw [e]at he;injection he with he;exact he.symm
  simp only [Option.isNone_some,fT0,iF]
  refine wB0 (wpAny_letGo (wP0 ⟨en.val,rfl,v,_,?_,by rw [hev];exact ru,q1 v hv⟩))
  have he': ∃q,h'.get? d=some q:=let ⟨q,_,_,hq,_⟩:=hm';⟨q,hq⟩
  exact I.write (t':=_) (x:=d) (e:=d) (yJC dd) (.inl rfl) (λb uo hb eo=>(hs'.2 b hb).trans eo) he' ⟨by have:=yFQ ks k;omega,hs,_,yDJ kv k,hm'⟩
 |none=>
  have e:=l2 hv
  refine wB0 (wpAny_takeOut_pairs_none hkey dm e ?_)
  simp only [Option.isNone_none,if_true]
  refine wB0 (wpAny_missedRemoval_other hs ?_)
  exact wB0 (wpAny_rule (wP0 ⟨u2,rfl,y,H,I.tok _,r2,q2 hv⟩))
noncomputable def zTS(p:Er)(rs:List Er)(S:Sto):R Er:=match rs with
 |[.val k,.val y]=>match zSH S p with
  |some (l,kvs)=>if zOI k=true then(match look kvs k with |some d=>.ok (.val d) (S.set l (.dic (yJF kvs k)))|none=>.ok (.val y) S)else .no
  |none=>.no
 |_=>.no
theorem yNB:MtdM X W (yPC X) zTS:=by
 intro p rs x vs α S H0 H Q α0 wd x0 dp da post
 unfold zTS at post
 split at post
 ·rename_i k y
  cases da with
  |cons dk n1 l1=>
   cases l1 with
   |cons dy n2 l2=>
    cases l2
    split at post
    ·rename_i l kvs ed
     split at post
     ·rename_i hky
      obtain⟨c,ks,rfl,hc,hS,DDx,dl,_⟩:=dxo wd ed dp
      obtain⟨k',hk'⟩:=Option.isSome_iff_exists.mp hky
      have hk:=ky_D hk'
      obtain⟨g1,g2⟩:=zMR dl hk
      have ek:=yJB (X:=X) (α:=α) (H:=H) hk' dk.1
      subst ek
      refine⟨ks,c,k',_,rfl,rfl,DDx,λv hv=>?_,λhv=>?_⟩
      ·cases hl:look kvs k with
       |some d=>
        obtain⟨v',e1,e2⟩:=g1 d hl
        rw [e1]at hv;cases hv
        rw [hl]at post
        have xw:=wd.writex hc (o:=.dK (zQO ks k'))
        exact(Post.shift (x0.trans xw) post).val (wd.write hc (.inl ⟨_,yS,(zTR dl hk).ex0 xw.toEx0⟩)) (e2.ext xw)
       |none=>rw [g2 hl]at hv;cases hv
      ·cases hl:look kvs k with
       |some d=>obtain⟨v',e1,e2⟩:=g1 d hl;rw [e1]at hv;cases hv
       |none=>
        rw [hl]at post
        exact(Post.shift x0 post).val wd dy.1
     ·exact post.elim
    ·exact post.elim
 ·exact post.elim
noncomputable def isDx(p:Er)(S:Sto):Bool:=(zSH S p).isSome
theorem yNC(ho:PEm X W o f)(ha:PAm X W (e::es) af)
  (hbase:attributeBase o "pop" X.env (eval o X.env)=eval o X.env:=by rfl)
  (hfew:((backTo pos (starEach (e::es) X.env)).all (λx=>!x.1)&&(backToKw pos (keywordEach [] X.env)).all (λx=>x.1.isSome)
   &&decide ((e::es).length+([]:List Keyword).length+(if([]:List Keyword).isEmpty then 0 else 1)<30))=true:=by rfl)
  (hline:(apos.endLine==pos.line)=true:=by rfl) (hs:starEach (e::es) X.env=(false,eval e X.env)::starEach es X.env:=by rfl) (hplain:(backTo pos (starEach es X.env)).any (·.1)=false:=by rfl):
  PEm X W (.Call (.Attribute o "pop" apos) (e::es) [] pos) (λρ S=>(f ρ S).bind λp S1=>if isDx p S1=true then(af ρ S1).bind λrs S2=>zTS p rs S2 else .no):=by
 obtain⟨to,ho,fo⟩:=ho
 obtain⟨t,ha,k⟩:=ha
 refine⟨_,yRX yIZ PySem.F.plainAttrs_dict PySem.F.slot_dict_pop PySem.F.type_dict_pop yNA ho ha hbase hfew hline hs hplain,λα ρ S σ H Q wd sl q=>fo α ρ S σ H _ wd sl (q.bind λu p S1 α1 H1 e1 x1 w1 d1 q1=>?_)⟩
 split at q1
 ·rename_i hz
  obtain⟨⟨l,kvs⟩,hz⟩:=Option.isSome_iff_exists.mp hz
  obtain⟨c,xs,rfl,_,_,dd,_⟩:=dxo w1 hz d1.1
  exact⟨⟨c,xs,rfl,dd⟩,k α1 ρ S1 σ H1 _ w1 (sl.ext x1) ((q1.shift x1).bind λvs rs S2 α2 H2 e2 x2 w2 d2 q2=>yNB p rs _ vs α2 S2 H1 H2 Q α1 w2 x2 (d1.1.ext x2) d2 q2)⟩
 ·exact q1.elim
theorem zTT{ks:List (Key×V)}{vs:List (Key×Value)}: ∀{us:List Value},KV ks vs->us.length=vs.length->(∀(j:Nat)(v:Value),us[j]? =some v-> ∃(k:Key)(x:Value),vs[j]? =some (k,x)/\(wG X.prog X.w).is k v=true)->Vals (ks.map λp=>kV p.1) us:=by
 intro us kv
 unfold KV at kv
 induction kv generalizing us with
 |nil=>intro hl _;cases us with
  |nil=>exact .nil
  |cons a b=>simp at hl
 |@cons p q ps qs h t ih=>
  intro hl hv
  cases us with
  |nil=>simp at hl
  |cons a b=>
   obtain⟨k,x,e,hi⟩:=hv 0 a rfl
   simp only [List.getElem?_cons_zero,Option.some.injEq]at e
   subst e
   rw [map_cons]
   refine .cons ?_ (ih (by simpa using hl) λj v hj=>by simpa using hv (j+1) v (by simpa using hj))
   rw [h.1]
   rcases xB hi with⟨i,t,e1,e2⟩|⟨i,t,e1,e2⟩
   ·subst e2;rw [show k=.inl i from e1];exact⟨t,rfl⟩
   ·subst e2;rw [show k=.inr i from e1];exact⟨t,rfl⟩
end
section
variable{prog:Program}{w:World}{A:Around}{E:Value->Shared->Prop}{s:Shared}{T:String}{r d:Addr}{n:Nat}{P:Nat->Value->Prop}{OK:Heap->Prop}
theorem yFR{Q₁:Value->Shared->Prop}(K:PySem.W.KdlSrc prog w "dict" r d n P OK)(hh:A.handled=none)(hok:OK s.heap)(hn:n<=sizeLine)
  (h: ∀(h':Heap)(tk:Nat)(acc':Array Value),(∀b o,s.heap.get? b=some o->h'.get? b=some o)->ItemsOf P acc' n->Q₁ (.ref h'.objs.size) {s with heap:=h'.push {cls:=.type "tuple",data:=.seq acc'},toks:=tk}):
  codeAny (model prog w) A (.call (.builtin "tuple.__new__") ⟨[.type "tuple",.ref r],[]⟩) (wants Q₁ E) s:=by
 refine codeAny_of_tree ?_
 show wpAny _ A.in1 (do checkBuiltinCall "tuple.__new__" ⟨[.type "tuple",.ref r],[]⟩;again (.builtin "tuple.__new__" ⟨[.type "tuple",.ref r],[]⟩)) _ _ s
 refine wB0 (wpAny_of_eq (F.newCall_tuple_1 _) (wP0 ⟨plainId_quiet F.plain_tuple_new _,codeAny_builtin F.entry_tuple_new ?_⟩))
 rw [Around.under_plainId F.plain_tuple_new _]
 have hsub:=sub_tuple_self
 have hinit:=init_tuple_lookup
 have hmh:=madeHere_tuple
 have hTI:s.TypeIs (.ref r) "dict":=K.type s hok
 wp_walk using wpAny_typeOf hTI,PySem.W.kdu_collect (A:=A.in1) K hh hok hn
 intro h' tk acc hk hacc
 show wpAny _ _ (Builtin.Tuple.tupleExact acc.toList.toArray >>= λv=>ret v) _ _ _
 unfold Builtin.Tuple.tupleExact
 refine wB0 (wpAny_newObj_type ?_ (by show acc.toList.toArray.size<=sizeLine;simp only [Array.toArray_toList];rw [hacc.1];exact hn))
 refine wP0 ?_
 have e:acc.toList.toArray=acc:=by simp
 rw [e]
 exact h h' tk acc hk hacc
theorem zQP{Q:Value->Shared->Prop}(K:PySem.W.KdlSrc prog w "dict" r d n P OK)(hh:A.handled=none)(hok:OK s.heap)(hn:n<=sizeLine)
  (hQ: ∀(h':Heap)(tk:Nat)(acc':Array Value),(∀b o,s.heap.get? b=some o->h'.get? b=some o)->ItemsOf P acc' n->Q (.ref h'.objs.size) {s with heap:=h'.push {cls:=.type "tuple",data:=.seq acc'},toks:=tk}):
  wpAny (model prog w) A (call (.type "tuple") [.ref r]) Q E s:=by
 refine callType_codes (Q₁:=λobj s₁=>s₁.TypeIs obj "tuple"/\Q obj s₁) F.called_tuple (F.typeCall_tuple_1 _) F.entry_object_init
  (yFR (A:=A.in1) K hh hok hn λh' tk acc hk hacc=>⟨⟨_,Heap.get?_push_size _ rfl,rfl⟩,hQ h' tk acc hk hacc⟩) λobj s₁ h₁=>?_
 exact⟨h₁.1,F.args_object_init_2 obj _,object_init_meets F.called_tuple.init.lookup F.called_tuple.made (by decide) prog w A.in1 _ s₁ ⟨h₁.1,rfl,h₁.2⟩⟩
theorem yBJ{Q:Value->Shared->Prop}(K:PySem.W.KdlSrc prog w "dict" r d n P OK)(hh:A.handled=none)(hok:OK s.heap)(hn:n<64){ns:List Int}(hI: ∀acc:Array Value,ItemsOf P acc n->IntsAre acc.toList ns)
  (h: ∀(h':Heap)(tk:Nat)(out:Array Value)(ns':List Int),(∀b o,s.heap.get? b=some o->h'.get? b=some o)->IntsAre out.toList ns'->ns'.Perm ns->ns'.Pairwise (· <=·)-> ∀(vs:List Value),Q (.ref h'.objs.size) {s with heap:=sortedHeap (h'.push (seqObj "list" vs.toArray 0)) h'.objs.size vs out,toks:=tk}):
  wpAny (model prog w) A (call (.builtin "sorted") [.ref r]) Q E s:=by
 refine Calls.call_function_entry kind_sorted plain_sorted entry_sorted (args_sorted1 _) ?_
 unfold Builtin.«sorted»
 refine wB0 (m:=checkCount "sorted" 1 1 _) (wP0 ?_)
 refine wB0 (PySem.W.kdu_collect (A:=A.in1) K hh hok (by rw [sizeLine_eq];omega) λh' tk acc hk hacc=>?_)
 have hl:acc.toList.length=n:=by rw [Array.length_toList];exact hacc.1
 refine wB0 (wpAny_newList ?_ (by rw [hl,sizeLine_eq];omega))
 have hoL:(h'.push (seqObj "list" acc.toList.toArray 0)).get? h'.objs.size=some (seqObj "list" acc.toList.toArray 0):=Heap.get?_push_size _ rfl
 show wpAny _ _ _ _ _ {s with heap:=h'.push (seqObj "list" acc.toList.toArray 0),toks:=tk}
 refine wB0 (wpAny_holding (wpAny_call_entry slot_list_sort ⟨_,hoL,rfl⟩ entry_list_sort (list_sort_tree hoL (hI acc hacc) (by rw [hl];exact hn) λout ns' a1 a2 a3=>⟨_,rfl,?_⟩) (args_list_sort _)))
 refine wP0 ⟨_,rfl,h h' tk out ns' hk a1 a2 a3 acc.toList⟩
end
section
variable{X:Cx}{W:XW}{α:List Addr}{H:Hp}
theorem yFS:CallR X (.type "tuple") (λxs H Q=> ∃d ks,xs=[.ref d]/\DK X H d ks/\X.calm=true/\ ∀l,H l=none->Q (.ref l) (upd H l (.tup (ks.map λp=>kV p.1)))):=by
 intro pins s σ H xs us Q I r h
 obtain⟨d,ks,rfl,dd,hc,q⟩:=h
 obtain⟨u,rfl,rx⟩:=vals1 r
 cases rx
 obtain⟨z,hd,vs,rel,dm⟩:=zEW I dd
 obtain⟨ep,hat⟩:=dm.dictAt
 have hl:ks.length=vs.length:=Paired.length rel
 refine zQP (PySem.W.kdl_dict (knd:=wG X.prog X.w) (kvs:=vs) (ep:=ep) hd) (I.ok.hd hc) hat (by omega) λh' tk acc hk hacc=>?_
 have rv:Vals (ks.map λp=>kV p.1) acc.toList:=zTT (X:=X) rel (by rw [Array.length_toList];exact hacc.1) λj v e=>hacc.2 j v (by rw [<-Array.getElem?_toList];exact e)
 have I1:Inv X pins σ H {s with heap:=h',toks:=tk}:=I.kept hk
 have I2:Inv X pins σ (upd H h'.objs.size (.tup (ks.map λp=>kV p.1))) {s with heap:=h'.push {cls:=.type "tuple",data:=.seq acc},toks:=tk}:=
  I1.laid (t':=tk) (λb o e=>hP0 _ e) (le_refl _) (show ObjOk X.prog X.w _ _ _ (.tup (ks.map λp=>kV p.1))from⟨by rw [lM];exact z,acc.toList,rv,by have:=IsTup.new h' acc;simpa using this⟩)
 exact⟨.ref h'.objs.size,_,I2,rfl,q _ (I1.hok.fresh (le_refl _))⟩
noncomputable def zYK:List Er->Sto->R Er
 |[r],S=>match zSH S r with |some (_,kvs)=>.ok (.val (.tup (kvs.map (·.1)))) S|none=>.no
 |_,_=>.no
theorem yND(hc:X.calm=true):zGD X W (λxs H Q=> ∃d ks,xs=[.ref d]/\DK X H d ks/\X.calm=true/\ ∀l,H l=none->Q (.ref l) (upd H l (.tup (ks.map λp=>kV p.1)))) zYK:=by
 intro rs vs α S H Q wd d post
 unfold zYK at post
 split at post
 ·split at post
  ·rename_i n kvs e
   obtain⟨v,rfl,dv⟩:=zHE d
   obtain⟨c,ks,rfl,h1,h2,dd,dl,_⟩:=dxo wd e dv
   exact⟨c,ks,rfl,dd,hc,λl hl=>Post.newt post wd hl (zMQ dl)⟩
  ·exact post.elim
 ·exact post.elim
theorem zYL: ∀{ds:List MV}{ns:List Int},intsOf ds=some ns->ns.length=ds.length
 |[],ns,h=>by cases h;rfl
 |x::ds,ns,hi=>by
  cases x<;>first |(cases hi;done)|skip
  unfold intsOf at hi
  cases zz:intsOf ds with
  |none=>rw [zz]at hi;cases hi
  |some ms=>rw [zz]at hi;cases hi;rw [lC,lC,zYL zz]
theorem yFT:CallR X (.builtin "sorted") (λxs H Q=> ∃d ks ds ns α,xs=[.ref d]/\DK X H d ks/\intsOf ds=some ns/\DenL X.K α H ds (ks.map λp=>kV p.1)/\ds.length<64/\X.calm=true/\ ∀p,H p=none->Q (.ref p) (upd H p (.lst ((PySem.W.sortI ns).map V.int)))):=by
 intro pins s σ H xs us Q I r h
 obtain⟨d,ks,ds,ns,α,rfl,dd,hi,hd',hz,hc,q⟩:=h
 obtain⟨u,rfl,rx⟩:=vals1 r
 cases rx
 obtain⟨z,hd,vs,rel,dm⟩:=zEW I dd
 obtain⟨ep,hat⟩:=dm.dictAt
 have hl:ks.length=vs.length:=Paired.length rel
 have hlen:vs.length<64:=by have:=hd'.length;rw [lM]at this;omega
 refine yBJ (PySem.W.kdl_dict (knd:=wG X.prog X.w) (kvs:=vs) (ep:=ep) hd) (I.ok.hd hc) hat hlen (ns:=ns) (λacc hacc=>yDD hi hd' (zTT (X:=X) rel (by rw [Array.length_toList];exact hacc.1) λj v e=>hacc.2 j v (by rw [<-Array.getElem?_toList];exact e))) λh' tk out ns' hk a1 a2 a3 us=>?_
 have en:=PySem.W.eq_sortI a2 a3
 subst en
 have I1:Inv X pins σ H {s with heap:=h',toks:=tk}:=I.kept hk
 obtain⟨e,he⟩:=sortedHeap_at (h:=h'.push (seqObj "list" us.toArray 0)) (a:=h'.objs.size) (vs:=us) (n:=0) (out:=out) (Heap.get?_push_size _ rfl)
 refine⟨.ref h'.objs.size,_,I1.laid (t':=tk) (λb o eb=>?_) (le_refl _) (show ObjOk X.prog X.w _ _ _ (.lst ((PySem.W.sortI ns).map V.int))from⟨?_,out.toList,e,zMS a1,?_⟩),rfl,q _ (I1.hok.fresh (le_refl _))⟩
 ·have hb:=Heap.lt_size eb
  rw [sortedHeap_old (ne_of_lt hb) (by rw [size_push'];exact Nat.lt_succ_of_lt hb)]
  exact hP0 _ eb
 ·have e1:=(zMS a1).length
  have e2:=a2.length_eq
  have e3:=zYL hi
  have:=sizeLine_eq
  rw [lM]
  omega
 ·rw [Array.toArray_toList]
  exact he
noncomputable def zYM(rs:List Er)(S:Sto):R Er:=match rs with
 |[p]=>match zSH S p with
  |some (_,kvs)=>if kvs.length<64 then(match intsOf (kvs.map (·.1))with |some ns=>.ok (.new ((PySem.W.sortI ns).map MV.int)) S|none=>.no)else .no
  |none=>.no
 |_=>.no
theorem yNE(hc:X.calm=true):zGD X W (λxs H Q=> ∃d ks ds ns α,xs=[.ref d]/\DK X H d ks/\intsOf ds=some ns/\DenL X.K α H ds (ks.map λp=>kV p.1)/\ds.length<64/\X.calm=true/\ ∀p,H p=none->Q (.ref p) (upd H p (.lst ((PySem.W.sortI ns).map V.int)))) zYM:=by
 intro rs vs α S H Q wd d post
 unfold zYM at post
 split at post
 ·split at post
  ·rename_i n kvs e
   split at post
   ·rename_i hz
    split at post
    ·rename_i ns hi
     obtain⟨v,rfl,dv⟩:=zHE d
     obtain⟨c,ks,rfl,h1,h2,dd,dl,_⟩:=dxo wd e dv
     exact⟨c,ks,_,ns,α,rfl,dd,hi,zMQ dl,by rw [lM];exact hz,hc,λp hp=>Post.newl post wd hp (zIV _)⟩
    ·exact post.elim
   ·exact post.elim
  ·exact post.elim
 ·exact post.elim
theorem ySE(hc:X.calm=true):zGD X W (λxs H Q=> ∃(a:Addr)(bs:List Bool),xs=[.ref a]/\SqL X.K H a (bs.map V.bl)/\X.calm=true/\Q (.bl (bs.any id)) H) anyF:=by
 intro rs vs α S H Q wd d post
 unfold anyF at post
 split at post
 ·split at post
  ·rename_i bs e
   obtain⟨v,rfl,dv⟩:=zHE d
   cases z:jB S _ with
   |none=>rw [z]at e;cases e
   |some ds=>
    rw [z]at e
    obtain⟨a1,us,rfl,s,l⟩:=zHC rfl wd z dv
    refine⟨a1,bs,rfl,?_,hc,Post.val post wd (gT _)⟩
    rw [<-zMK e l]
    exact s
  ·exact post.elim
 ·exact post.elim
end
section
variable{X:Cx}{W:XW}{a b:Expr}{f g:Rho->Sto->R Er}{pos:Pos}
theorem zVG:CallR X (.builtin "any") (λxs H Q=> ∃(a:Addr)(bs:List Bool),xs=[.ref a]/\SqL X.K H a (bs.map V.bl)/\X.calm=true/\Q (.bl (bs.any id)) H):=by
 intro pins s σ H xs us Q I r h
 obtain⟨a,bs,rfl,hq,hc,q⟩:=h
 obtain⟨u,rfl,ru⟩:=vals1 r
 cases ru
 obtain⟨its,rv,pl,hz⟩:=I.list hq
 have hlen:its.length=bs.length:=by rw [<-rv.length,lM]
 refine PySem.call_any_walk (wpAny_pyIter_list pl.isList ?_)
 have hI:a≠s.heap.objs.size:=by
  obtain⟨o,ho,_⟩:=pl.isList
  exact ne_of_lt (Heap.lt_size ho)
 have I1: ∀(h':Heap)(tk:Nat),(∀b o,b∉[s.heap.objs.size]->(s.heap.push {cls:=.type "list_iterator",data:=.fields #[.ref a,.int 0 0]}).get? b=some o->h'.get? b=some o)->Inv X pins σ H {s with heap:=h',toks:=tk}:=λh' tk k=>
  I.kept λb o e=>k b o (by simpa using ne_of_lt (Heap.lt_size e)) (hP0 _ e)
 refine⟨s.heap.objs.size,[s.heap.objs.size,a],[s.heap.objs.size],its.toArray.size,_,_,λi=>bs.getD i false,rfl,PySem.Walks.list (by first |exact I.ok.hd hc|exact(show X.A.in1.handled=none from I.ok.hd hc)) _ a hI its.toArray,⟨⟨_,Heap.get?_push_size _ rfl,rfl,rfl⟩,pl.isList.at λo e=>hP0 _ e⟩,?_,λh' tk k=>?_⟩
 ·intro i v s' Q' E' hv hQ'
  have hv':its[i]? =some v:=by simpa using hv
  have hi:i<bs.length:=by rw [<-hlen];exact(gS0.mp hv').1
  have hb:(bs.map V.bl)[i]? =some (V.bl (bs.getD i false)):=by
   rw [getElem?_map,gE0 hi]
   simp [getD_eq_getElem?_getD,hi]
  obtain⟨u',hu',rv'⟩:=rv.get hb
  rw [hv']at hu'
  cases hu'
  cases rv'
  exact wpAny_truthy_bool hQ'
 ·refine⟨.bl (bs.any id),H,I1 h' tk k,?_,q⟩
  show Value.bool _=Value.bool _
  congr 1
  rw [sA,hlen]
  have: ∀(l:List Bool),(List.range l.length).any (λi=>l.getD i false)=l.any id:=by
   intro l
   rw [Bool.eq_iff_iff,any_eq_true,any_eq_true]
   constructor
   ·rintro⟨i,hi,h⟩
    have hi':=mem_range.mp hi
    exact⟨l[i],getElem_mem hi',by simpa [getD_eq_getElem?_getD,hi']using h⟩
   ·rintro⟨x,hx,h⟩
    obtain⟨i,hi,rfl⟩:=getElem_of_mem hx
    exact⟨i,mem_range.mpr hi,by simpa [getD_eq_getElem?_getD,hi]using h⟩
  exact this bs
def shrC(i j:Int):Prop:=0<=j
instance(i j:Int):Decidable (shrC i j):=inferInstanceAs (Decidable (_<=_))
abbrev shrF:=iiF shrC λi j=>i / 2 ^ j.toNat
theorem ySF(ha:PEm X W a f)(hb:PEm X W b g):PEm X W (.BinOp a .RShift b pos) (λρ S=>(f ρ S).bind λp S1=>(g ρ S1).bind λq S2=>shrF p q S2):=zNS yQD (zPZ λi j h=>h) ha hb
end
end M
end L2
namespace PySem
theorem zVH:typeLookup (.type "list") "keys"=pure none:=am_miss_of_fast (by decide+kernel)
theorem getAttr?_miss_list{prog:Program}{w:World}{A:Around}{E:Value->Shared->Prop}{s:Shared}{a:Addr}{o:Obj}{xs:Array Value}{k:Nat}{name:Str}{Q:Option Value->Shared->Prop}
  (hx:s.heap.get? a=some o) (hc:o.cls=.type "list") (hdat:o.data=.seq xs k) (hd:o.dict=none) (hmiss:typeLookup (.type "list") name=pure none) (hname:(["__module__","__name__","__qualname__","__doc__","__annotations__"]:List Str).contains name=false) (hA:A.handled=none)
  (h: ∀h' tk,(∀b o,s.heap.get? b=some o->h'.get? b=some o)->Q none {s with heap:=h',toks:=tk}) (hsz:name.length+100<=sizeLine:=by size_fits):
  wpAny (model prog w) A (getAttr? (.ref a) name) Q E s:=by
 obtain⟨c,dct,dat,sl⟩:=o
 simp only at hc hdat hd
 subst hc hdat hd
 obtain⟨hp,g,d,tk,os⟩:=s
 have hT: ∀tk',(⟨hp,g,d,tk',os⟩:Shared).TypeIs (.ref a) "list":=λ_=>⟨_,hx,rfl⟩
 have f1:=sub_AttributeError
 have f3:=F.slot_list_getattribute.lookup
 have f4:=F.slot_list_getattribute.bind (.ref a)
 have f5:=am_list_getattr_none
 unfold getAttr? getAttrBy? getAttrBy
 repeat (any_goals (first |assumption|exact hT _|((with_reducible show wpAny _ _ (call (Value.builtin "list.__getattribute__") _ _) _ _ _);refine call_meets F.slot_list_getattribute (hT _) am_entry_list_getattribute (F.args_list_getattribute_2 _ _) (meets_getattribute_miss_list a xs k sl name _ hmiss hname hsz) ⟨hx,hA,λh' tk' e hx'=>?_⟩)|wp_step))
 obtain⟨t',u',he⟩:=hx'.there
 show wpAny _ _ (getattributeRaised _ _ _ _ _ _ _) _ _ _
 unfold getattributeRaised
 repeat (any_goals (first |assumption|wp_step))
 exact h _ _ hx'.keeps
namespace F
theorem entry_dict_update_loop:entryFor table "dict.update.loop"=some Builtin.«dict.update.loop»:=entryFor_of_tree (by kernel_rfl)
theorem plain_dict_update_loop:plainId "dict.update.loop"=true:=by decide+kernel
end F
open PyProof.Rows
section
variable{prog:Program}{w:World}{K:Type}[DecidableEq K]{knd:KeyKind prog w K}{A:Around}{E:Value->Shared->Prop}{s:Shared}{R:Result->Shared->Prop}
def yBK(knd:KeyKind prog w K)(h:Heap)(kv:K×Value)(v:Value):Prop:= ∃a key,v=.ref a/\IsTup h a #[key,kv.2]/\knd.is kv.1 key=true
theorem zLD{I D:Addr}{fp:List Addr}{n:Nat}{P:Nat->Value->Prop}{St:Nat->Heap->Prop}(W:Walks prog w A.in1 I fp [I] n P St)(hDf:D∉fp)(kvs:List (K×Value))(hn:kvs.length=n)(hz:n<=sizeLine){h₀:Heap}
  (hP: ∀i v,P i v-> ∃kv,kvs[i]? =some kv/\yBK knd h₀ kv v) (hI:h₀.get? I=none) (hD:h₀.get? D=none):
  ∀(k i:Nat)(j:Int)(s:Shared),n - i=k->i<=n->St i s.heap->s.heap.DictOf knd D (merged [] (kvs.take i))->(∀b o,h₀.get? b=some o->s.heap.get? b=some o)->
   (∀h' tk,(∀b o,h₀.get? b=some o->h'.get? b=some o)->h'.DictOf knd D (merged [] kvs)->R (.ok (.ret .none)) {s with heap:=h',toks:=tk})->
   codeAny (model prog w) A (.builtin "dict.update.loop" ⟨[.ref D,.ref I,rawInt j,.none],[]⟩) R s:=by
 have hDI:D≠I:=λe=>hDf (e▸W.sub _ (mS.mpr rfl))
 intro k
 induction k with
 |zero=>
  intro i j s hk hi hst hS hkeep hR
  have hin:i=n:=by omega
  subst hin
  refine codeAny_builtin F.entry_dict_update_loop ?_
  rw [Around.under_plainId F.plain_dict_update_loop _]
  show wpAny _ A.in1 (pyNext (.ref I) >>= _) _ _ s
  refine wB0 (W.done s _ _ hst λh' tk hk'=>?_)
  show wpAny _ A.in1 (Builtin.Dict.addKeywords D [] >>= λ_=>ret Value.none) _ _ _
  refine wB0 (wP0 ?_)
  rw [<-hn,List.take_length]at hS
  refine wP0 (hR h' tk (λb o e=>?_) ?_)
  ·exact hk' b o (λh=>by rw [mS.mp h,hI]at e;cases e) (hkeep b o e)
  ·obtain⟨o,es,ep,ho,rest⟩:=hS
   exact⟨o,es,ep,hk' D o (λh=>hDI (mS.mp h)) ho,rest⟩
 |succ k ih=>
  intro i j s hk hi hst hS hkeep hR
  have hlt:i<n:=by omega
  refine codeAny_builtin F.entry_dict_update_loop ?_
  rw [Around.under_plainId F.plain_dict_update_loop _]
  show wpAny _ A.in1 (pyNext (.ref I) >>= _) _ _ s
  refine wB0 (W.item i s _ _ hlt hst λv h' tk hPv hst' hk'=>?_)
  obtain⟨kv,hkv,a,key,rfl,hT,hkey⟩:=hP i v hPv
  have hkeep': ∀b o,h₀.get? b=some o->h'.get? b=some o:=λb o e=>hk' b o (λh=>by rw [mS.mp h,hI]at e;cases e) (hkeep b o e)
  have hS':h'.DictOf knd D (merged [] (kvs.take i)):=by
   obtain⟨o,es,ep,ho,rest⟩:=hS
   exact⟨o,es,ep,hk' D o (λh=>hDI (mS.mp h)) ho,rest⟩
  obtain⟨o,ho,hc,nn,hdat⟩:=hT.keeps hkeep'
  have hTI:Shared.TypeIs {s with heap:=h',toks:=tk} (.ref a) "tuple":=⟨o,ho,hc⟩
  refine wB0 (wpAny_holding ?_)
  refine wB0 (wpAny_tryCatch ?_)
  unfold Builtin.Dict.pairItems
  refine wB0 (wpAny_typeOf hTI ?_)
  rw [iP (by decide)]
  refine wB0 ?_
  show wpAny _ _ (do match (<-load a).data with |.seq xs _=>pure (some xs)|_=>pure none) _ _ _
  refine wB0 (wpAny_load ho ?_)
  rw [hdat]
  refine wP0 (wP0 ?_)
  show wpAny _ _ (holding [key,kv.2] (dictSet D key kv.2)) _ _ _
  refine wpAny_holding ?_
  have hlen:=merged_length_le [] (kvs.take i)
  have hl2:(kvs.take i).length<=n:=by rw [<-hn];exact List.length_take_le' i kvs
  refine wpAny_dictSet_pairs (s:={s with heap:=h',toks:=tk}) (hsz:=by rw [length_nil]at hlen;omega) hkey hS' λh2 hd2 hs2=>?_
  have hkeep2: ∀b o,h₀.get? b=some o->h2.get? b=some o:=λb o e=>by
   rw [hs2.2 b (λh=>by rw [h,hD]at e;cases e)];exact hkeep' b o e
  refine wP0 ⟨plainId_quiet F.plain_dict_update_loop _,ih (i+1) (j+1) _ (by omega) hlt (W.frame _ _ _ hst' λb hb o e=>?_) ?_ hkeep2 λh3 tk3 k3 d3=>hR h3 tk3 k3 d3⟩
  ·rw [hs2.2 b (λh=>hDf (h▸hb))];exact e
  ·rw [merged_take_succ _ _ _ _ hkv];exact hd2
theorem zOJ{l:Addr}{its:Array Value}{o:Obj}{c:Nat}{kvs:List (K×Value)}{Q:Value->Shared->Prop}(hA:A.handled=none)(ho:s.heap.get? l=some o)(hc:o.cls=.type "list")(hd:o.dict=none)(hdat:o.data=.seq its c)(hlen:its.size=kvs.length)(hz:its.size<=sizeLine)
  (hP: ∀(i:Nat) v,its[i]? =some v-> ∃kv,kvs[i]? =some kv/\yBK knd s.heap kv v)
  (h: ∀h' tk,(∀b o,s.heap.get? b=some o->h'.get? b=some o)->h'.DictOf knd s.heap.objs.size (merged [] kvs)->Q (.ref s.heap.objs.size) {s with heap:=h',toks:=tk}):
  wpAny (model prog w) A (call (.type "dict") [.ref l]) Q E s:=by
 refine callType_codes (Q₁:=λobj s₁=>obj=.ref s.heap.objs.size/\s₁={s with heap:=s.heap.push {cls:=.type "dict",data:=.dict #[]}}) F.kt_called_dict (F.kt_typeCall_dict_1 _) F.entry_dict_init (kt_code_dict_new _ ⟨rfl,rfl⟩) ?_
 rintro obj s₁ ⟨rfl,rfl⟩
 have hnew:(s.heap.push {cls:=.type "dict",data:=.dict #[]}).DictOf knd s.heap.objs.size []:=Heap.DictOf.new s.heap
 have ho':(s.heap.push {cls:=.type "dict",data:=.dict #[]}).get? l=some o:=hP0 _ ho
 have hl0:=Heap.lt_size ho
 refine⟨hnew.typeIs,F.args_dict_init_2 _ _,?_⟩
 unfold Builtin.«dict.__init__»
 refine wB0 ?_
 unfold Builtin.Dict.selfAndRest
 refine wB0 (wpAny_notOrdered_dict hnew.typeIs ?_)
 show wpAny _ _ (pure (s.heap.objs.size,[Value.ref l])) _ _ _
 refine wP0 ?_
 show wpAny _ _ (Builtin.Dict.updateFrom "dict.__init__" s.heap.objs.size (.ref l) [] .none) _ _ _
 unfold Builtin.Dict.updateFrom
 refine wB0 (wpAny_typeOf (T:="list") ⟨o,ho',hc⟩ ?_)
 rw [iP (by decide)]
 refine wB0 (getAttr?_miss_list ho' hc hdat hd zVH (by decide+kernel) hA (λh1 tk1 k1=>?_) (by decide+kernel))
 rw [iP (show(none:Option Value).isNone=true from rfl)]
 refine wB0 (wpAny_rule ?_)
 have ho1:=k1 l o ho'
 refine wB0 (wpAny_pyIter_list (items:=its) ⟨o,ho1,hc,c,hdat⟩ ?_)
 have hI:l≠h1.objs.size:=ne_of_lt (Heap.lt_size ho1)
 have hsz:s.heap.objs.size<h1.objs.size:=by
  obtain⟨oo,_,_,hg,_⟩:=hnew
  exact Heap.lt_size (k1 _ _ hg)
 refine wP0 ⟨plainId_quiet F.plain_dict_update_loop _,zLD (knd:=knd) (h₀:=s.heap) (D:=s.heap.objs.size) (Walks.list (by first |exact hA|exact(show A.in1.in1.handled=none from hA)) h1.objs.size l hI its) ?_ kvs hlen.symm hz hP ?_ ?_ _ 0 0 _ rfl (zero_le _) ⟨⟨_,Heap.get?_push_size _ rfl,rfl,rfl⟩,⟨o,hP0 _ ho1,hc,c,hdat⟩⟩ ?_ ?_ λh' tk hk hd'=>?_⟩
 ·rw [mC,mS]
  rintro(e|e)
  ·exact ne_of_lt hsz e
  ·exact ne_of_lt hl0 e.symm
 ·cases hg:s.heap.get? h1.objs.size with
  |none=>rfl
  |some oo=>exact absurd (Heap.lt_size hg) (Nat.lt_asymm hsz)
 ·cases hg:s.heap.get? s.heap.objs.size with
  |none=>rfl
  |some oo=>exact absurd (Heap.lt_size hg) (lt_irrefl _)
 ·obtain⟨oo,es,ep,hg,rest⟩:=hnew
  exact⟨oo,es,ep,hP0 _ (k1 _ _ hg),rest⟩
 ·intro b oo e
  exact hP0 _ (k1 _ _ (hP0 _ e))
 ·exact⟨rfl,h h' tk hk hd'⟩
end
end PySem
namespace L2
namespace M
open PySem PySem.Spec PyProof.Rows
section
variable{X:Cx}{W:XW}{α:List Addr}{H:Hp}{pins:List (Addr×Obj)}{σ:St}{s:Shared}
def zTU(ps:List (Key×V)):List (Key×V):=ps.foldl (λacc p=>zMP acc p.1 p.2) []
inductive PairsV(K:PySem.W.Frag)(H:Hp):List V->List (Key×V)->Prop
 |nil:PairsV K H [] []
 |cons {a:Addr} {k:Key} {v:V} {vs ps}:SqT K H a [kV k,v]->PairsV K H vs ps->PairsV K H (.ref a::vs) ((k,v)::ps)
theorem yNF{ps:List (Key×V)}{qs:List (Key×Value)}(r:KV ps qs): ∀{as:List (Key×V)}{bs:List (Key×Value)},KV as bs->KV (ps.foldl (λacc p=>zMP acc p.1 p.2) as) (merged bs qs):=by
 unfold KV at r
 induction r with
 |nil=>intro as bs h;exact h
 |@cons p q ps qs h t ih=>
  intro as bs hb
  rw [foldl_cons]
  show KV _ (merged (stored bs q.1 q.2) qs)
  rw [h.1]
  exact ih (yIY hb _ h.2)
theorem yJG(I:Inv X pins σ H s){vs:List V}{ps:List (Key×V)}(r:PairsV X.K H vs ps): ∀{us:List Value},Vals vs us-> ∃qs:List (Key×Value),KV ps qs/\qs.length=us.length/\ ∀(i:Nat) v,us[i]? =some v-> ∃kv,qs[i]? =some kv/\yBK (wG X.prog X.w) s.heap kv v:=by
 induction r with
 |nil=>intro us h;cases h;exact⟨[],.nil,rfl,λi v h=>by simp at h⟩
 |@cons a k v vs ps hq t ih=>
  intro us h
  cases h with
  |@cons _ u _ us ru rt=>
   cases ru
   obtain⟨qs,h1,h2,h3⟩:=ih rt
   obtain⟨its,r',pl,hz⟩:=I.tuple hq
   obtain⟨u1,u2,rfl,q1,q2⟩:=vals2 r'
   refine⟨(k,u2)::qs,.cons ⟨rfl,q2⟩ h1,by rw [lC,lC,h2],λi w hw=>?_⟩
   cases i with
   |zero=>
    cases hw
    exact⟨_,rfl,a,u1,rfl,pl,zYI q1⟩
   |succ i=>exact h3 i w hw
theorem yFU(ps:List (Key×V)):(zTU ps).length<=ps.length:=by
 have: ∀(ps as:List (Key×V)),(ps.foldl (λacc p=>zMP acc p.1 p.2) as).length<=as.length+ps.length:=by
  intro ps
  induction ps with
  |nil=>intro as;exact le_refl _
  |cons p ps ih=>
   intro as
   rw [foldl_cons,lC]
   have:=ih (zMP as p.1 p.2)
   have:=zYA as p.1 p.2
   omega
 have:=this ps []
 rw [length_nil,zero_add]at this
 exact this
theorem yBL{K:PySem.W.Frag}{vs:List V}{ps:List (Key×V)}(r:PairsV K H vs ps):ps.length=vs.length:=by
 induction r with
 |nil=>rfl
 |cons _ _ ih=>rw [lC,lC,ih]
theorem yFV:CallR X (.type "dict") (λxs H Q=> ∃l vs ps,xs=[.ref l]/\SqL X.K H l vs/\PairsV X.K H vs ps/\X.calm=true/\ ∀d,H d=none->Q (.ref d) (upd H d (.dK (zTU ps)))):=by
 intro pins s σ H xs us Q I r h
 obtain⟨l,vs,ps,rfl,hq,hp,hc,q⟩:=h
 obtain⟨u,rfl,rx⟩:=vals1 r
 cases rx
 obtain⟨its,rv,⟨o,n,ho,hcl,hd,hdat⟩,hz⟩:=I.list hq
 obtain⟨qs,h1,h2,h3⟩:=yJG I hp rv
 have hl:=rv.length
 refine zOJ (knd:=wG X.prog X.w) (kvs:=qs) (I.ok.hd hc) ho hcl hd hdat (by rw [sA,h2]) (by rw [sA];omega) (λi v e=>h3 i v (by simpa using e)) λh' tk hk hdd=>?_
 have hpl:=yBL hp
 have hf:=yFU ps
 refine⟨.ref s.heap.objs.size,_,I.laid (t':=tk) hk (le_refl _) (show ObjOk X.prog X.w _ h' _ (.dK (zTU ps))from⟨by omega,beq_eq_false_iff_ne.mpr (Ne.symm (ne_of_lt (yIV I))),_,yNF h1 .nil,hdd⟩),rfl,q _ (I.hok.fresh (le_refl _))⟩
noncomputable def zEY:List MV->Option (List (MV×MV))
 |[]=>some []
 |.tup [k,v]::r=>if zOI k=true then(zEY r).map ((k,v)::·)else none
 |_::_=>none
noncomputable def zYN(ps:List (MV×MV)):List (MV×MV):=ps.foldl (λacc p=>putK acc p.1 p.2) []
theorem zQQ{K:PySem.W.Frag}: ∀{ds:List MV}{kvs:List (MV×MV)}{vs:List V},zEY ds=some kvs->DenL X.K α H ds vs-> ∃ps,PairsV X.K H vs ps/\DenK X.K α H kvs ps
 |[],kvs,vs,e,l=>by
  cases e
  rw [l.isnil]
  exact⟨[],.nil,.nil⟩
 |d::ds,kvs,vs,e,l=>by
  obtain⟨v,r,rfl,dv,l'⟩:=l.uncons
  unfold zEY at e
  split at e
  ·cases (by assumption:d::ds=[])
  ·rename_i k y r' hd
   obtain⟨rfl,rfl⟩:=List.cons.inj hd
   split at e
   ·rename_i hk
    cases z:zEY ds with
    |none=>rw [z]at e;cases e
    |some ms=>
     rw [z]at e
     cases e
     obtain⟨ps,p1,p2⟩:=zQQ (K:=K) z l'
     obtain⟨a,us,rfl,hs,hl⟩:=kH dv
     obtain⟨v1,r1,rfl,d1,l1⟩:=hl.uncons
     obtain⟨v2,r2,rfl,d2,l2⟩:=l1.uncons
     have e2:=l2.isnil
     subst e2
     obtain⟨k',hk'⟩:=Option.isSome_iff_exists.mp hk
     have e1:=yJB (X:=X) hk' d1
     subst e1
     exact⟨(k',v2)::ps,.cons hs p1,.cons (ky_D hk') d2 p2⟩
   ·cases e
  ·cases e
theorem zTV: ∀{kvs:List (MV×MV)}{ps:List (Key×V)},DenK X.K α H kvs ps-> ∀{as:List (MV×MV)}{bs:List (Key×V)},DenK X.K α H as bs->DenK X.K α H (kvs.foldl (λacc p=>putK acc p.1 p.2) as) (ps.foldl (λacc p=>zMP acc p.1 p.2) bs)
 |_,_,.nil,as,bs,h=>h
 |_,_,.cons (k:=k) (k':=k') hk a l,as,bs,h=>by
  rw [foldl_cons,foldl_cons]
  exact zTV l (zYC h hk a)
noncomputable def yDK:List Er->Sto->R Er
 |[r],S=>match (jB S r).bind zEY with |some kvs=>.ok (.val (.loc S.length)) (S++[.dic (zYN kvs)])|none=>.no
 |_,_=>.no
theorem yNG:bootBuiltins "dict"=some (.type "dict"):=by decide+kernel
theorem yNH(hc:X.calm=true):zGD X W (λxs H Q=> ∃l vs ps,xs=[.ref l]/\SqL X.K H l vs/\PairsV X.K H vs ps/\X.calm=true/\ ∀d,H d=none->Q (.ref d) (upd H d (.dK (zTU ps)))) yDK:=by
 intro rs vs α S H Q wd d post
 unfold yDK at post
 split at post
 ·split at post
  ·rename_i kvs e
   obtain⟨v,rfl,dv⟩:=zHE d
   cases z:jB S _ with
   |none=>rw [z]at e;cases e
   |some ds=>
    rw [z]at e
    obtain⟨a1,us,rfl,sq,l⟩:=zHC rfl wd z dv
    obtain⟨ps,p1,p2⟩:=zQQ (X:=X) (K:=X.K) e l
    refine⟨a1,us,ps,rfl,sq,p1,hc,λp hp=>?_⟩
    have xn:=wd.newx (o:=.dK (zTU ps)) hp
    obtain⟨x,w'⟩:=wd.put (ho:=.dK (zTU ps)) (m:=.dic (zYN kvs)) hp (.inl ⟨_,yS,(zTV p2 .nil).ex0 ⟨⟨[p],rfl⟩,xn.tup,xn.frz⟩⟩)
    exact post (.ref p) (α++[p]) _ x w' (DenE.val (zKS (by rw [<-wd.len,getElem?_append_right (le_refl _),sub_self];rfl)))
  ·exact post.elim
 ·exact post.elim
end
end M
end L2
namespace L2
namespace M
namespace My
open PySem PySem.Spec PyProof.Rows
local macro_rules
 | `(tactic|simp? [$xs,*] $[$l:location]?)=>`(tactic|simp only [List.getElem?_cons_zero,List.getElem?_cons_succ,yMF,bok,as_int,as_bl,yRK,add_int,sub_int,eq_int,yRL,yBF,lst1,lst2,lst3,lst6,tup2,tup3,yRO,yRP,yRQ,yRR,yRS,yRT,yMK,yML,List.set_cons_zero,List.set_cons_succ,if_true,yMN,yMM,vJ,kJ,bJ,dJ,nJ,aJ,oJ,iJ,mJ,tJ,lJ,zJ,fJ,xJ,hJ,eJ,gJ,uJ,pJ,jJ,qJ,rJ,sJ,wJ,yJ,AJ,BJ,CJ,DJ,EJ,FJ,GJ,HJ,IJ,JJ,KJ,LJ,MJ,NJ,$xs,*] $[$l:location]?)
abbrev zTW:List Str:=["looked_at","test","left","right"]
abbrev zNV:List Str:=["self","row","rows","asked","other"]
abbrev zMU:List Str:=["book","ties","rule","i","row"]
abbrev zLE:List Str:=["kept","some","number"]
abbrev zCG:List Str:=["ties","rows","kept","untied","i"]
abbrev yBM:List Str:=["book","rows","rules","allowed"]
abbrev zKB:List Str:=["_law_cell","_law_k","_law_number"]
abbrev zBS:List Str:=["_law_well_here","_law_many","_law_found"]
abbrev zHL:List Str:=["_law_cell","_law_k","_law_found","_law_j"]
abbrev dL:List Str:=["_law_well_here","_law_pool_here","_law_letters","_law_names","_law_word_here","_law_way","_law_at"]
abbrev zHM:List Str:=["_law_cell","_law_well_here","_law_pool_here","_law_k","_law_way","_law_value_here"]
abbrev zCH:List Str:=["_law_cell","_law_well_here","_law_tables_here","_law_k","_law_wide","_law_key"]
abbrev zEZ:List Str:=["_law_cell","_law_tables_here","_law_pool_here","_law_well_here","_law_t"]
abbrev zHN:List Str:=["_law_cells","_law_tables_here","_law_pool_here","_law_most","_law_rows_here","_law_cell","_law_row_here"]
abbrev zHO:List Str:=["_law_well_here","_law_there","_law_tables_here","_law_pool_here","_law_k"]
abbrev zFA:List Str:=["_law_well_here","_law_there","_law_tables_here","_law_pool_here","_law_tests_here","_law_k","_law_left","_law_right"]
abbrev dM:List Str:=["_law_cell","_law_tables_here","_law_pool_here","_law_well_here","_law_way","_law_t","_law_u","_law_many","_law_columns","_law_others"]
abbrev zBT:List Str:=["_law_script","_law_most","_law_room","_law_pool_here","_law_tables_here","_law_many","_law_rules","_law_cells","_law_k"]
abbrev bB:List Str:=["_law_side_here","_law_rows_here"]
abbrev zNW:List Str:=["_law_tests_here","_law_rows_here","_law_left","_law_word_here","_law_right","_law_one","_law_other"]
abbrev jO:List Str:=["_law_rule_here","_law_row_here"]
abbrev bC:List Str:=["_law_rule_here","_law_row_here","_law_rows_here","_law_due"]
abbrev zCI:List Str:=["_law_book_here","_law_some","_law_rows_here","_law_i","_law_rule_here"]
abbrev nY:List Str:=["_law_book_here","_law_some","_law_there","_law_bits","_law_part","_law_i"]
abbrev yJH:List Str:=["_law_script","_law_book_here","_law_whole","_law_some","_law_due","_law_found"]
abbrev OCS:List Str:=["Rule","Never","Apart","Tie"]
noncomputable def zYO:Rho->Sto->R Fl:=JJ
noncomputable def yFW:Rho->Sto->R Fl:=(zYO)
noncomputable def yBN:Rho->Sto->R Bool:=(bJ (kJ (.bl true)) zET)
noncomputable section
abbrev AF:=Rho->Sto->R Fl
abbrev AE:=Rho->Sto->R Er
def yFX:AF:=(λρ S=>gY (yBN) (yFW) 10000 ρ S)
def yNI:AF:=(yFX)
def zFB(ds:List MV)(S:Sto):R Er:=yH (yNI (zR ["k"] ds) S)
def zFC:AF:=(AJ (aJ (bJ (yJ (vJ 0) (yJ (kJ (.typ "int")) wJ)) zGS) (nJ (bJ (yJ (vJ 0) (yJ (kJ (.typ "bool")) wJ)) zGS))))
def zAM:AF:=(zFC)
def zAN(ds:List MV)(S:Sto):R Er:=yH (zAM (zR ["thing"] ds) S)
def kQ:AF:=(iJ (bJ (dJ eqF (dJ ixF (vJ 0) (kJ (.int 0))) (kJ (.str [105,115]))) asB) ((AJ (dJ ixF (vJ 0) (kJ (.int 1))))) (JJ))
def zAO:AF:=(AJ (dJ ixF (dJ ixF (dJ ixF (vJ 1) (dJ ixF (vJ 0) (kJ (.int 1)))) (kJ (.int 1))) (dJ ixF (vJ 0) (kJ (.int 2)))))
def zFD:AF:=zW (kQ) ((zAO))
def bD(ds:List MV)(S:Sto):R Er:=yH (zFD (zR ["side","looked_at"] ds) S)
def zHP:AF:=(CJ (fJ 2 bD (yJ (dJ ixF (vJ 1) (kJ (.int 0))) (yJ (vJ 0) wJ))) 2)
def zHQ:AF:=(CJ (fJ 2 bD (yJ (dJ ixF (vJ 1) (kJ (.int 2))) (yJ (vJ 0) wJ))) 3)
def zHR:AF:=(iJ (bJ (dJ eqF (dJ ixF (vJ 1) (kJ (.int 1))) (kJ (.str [115,97,109,101]))) asB) ((AJ (dJ eqF (vJ 2) (vJ 3)))) (JJ))
def zHS:AF:=(iJ (bJ (dJ eqF (dJ ixF (vJ 1) (kJ (.int 1))) (kJ (.str [117,110,108,105,107,101]))) asB) ((AJ (dJ neF (vJ 2) (vJ 3)))) (JJ))
def zHT:AF:=(AJ (aJ (fJ 1 zAN (yJ (vJ 2) wJ)) (aJ (fJ 1 zAN (yJ (vJ 3) wJ)) (dJ ltF (vJ 2) (vJ 3)))))
def zMV:AF:=zW (zHP) (zW (zHQ) (zW (zHR) (zW (zHS) ((zHT)))))
def zIZ(ds:List MV)(S:Sto):R Er:=yH (zMV (zR zTW ds) S)
def zBU:Rho->Sto->R Bool:=uJ
def bE:AE:=(fJ 2 zIZ (yJ (vJ 1) (yJ (vJ 0) wJ)))
def zGH:AF:=(AJ (bJ (yJ (pJ (bJ (vJ 1) itT) (gNm 0) (zBU) (bE) 1 [0]) wJ) allF))
def zCJ:AF:=(zGH)
def jP(ds:List MV)(S:Sto):R Er:=yH (zCJ (zR ["looked_at","tests"] ds) S)
def zHU:Rho->Sto->R Bool:=uJ
def zAP:AE:=(dJ ixF (dJ ixF (vJ 1) (kJ (.int 1))) (vJ 0))
def zLF:AF:=(AJ (pJ (bJ (vJ 1) itT) (gNm 0) (zHU) (zAP) 1 [0]))
def zKC:AF:=(zLF)
def zAQ(ds:List MV)(S:Sto):R Er:=yH (zKC (zR ["row","columns"] ds) S)
def zSI:AF:=(AJ (kJ (.bl false)))
def xH:AF:=(zSI)
def gM(ds:List MV)(S:Sto):R Er:=yH (xH (zR ["self","row"] ds) S)
def zJJ:AF:=(BJ (fJ 1 zFB (yJ (kJ (.int 0)) wJ)))
def yP:AF:=(zJJ)
def zLG(ds:List MV)(S:Sto):R Er:=yH (yP (zR ["self","row","other"] ds) S)
def zQR:AF:=(AJ (kJ (.bl false)))
def xA:AF:=(zQR)
def jD(ds:List MV)(S:Sto):R Er:=yH (xA (zR ["self","row","rows"] ds) S)
def zHV:AF:=(AJ (aJ (dJ eqF (dJ ixF (vJ 1) (kJ (.int 0))) (dJ ixF (bJ (vJ 0) (zJO OCS "parts")) (kJ (.int 1)))) (fJ 2 jP (yJ (bJ (yJ (vJ 1) wJ) gW) (yJ (dJ ixF (bJ (vJ 0) (zJO OCS "parts")) (kJ (.int 2))) wJ)))))
def xY:AF:=(zHV)
def zFE(ds:List MV)(S:Sto):R Er:=yH (xY (zR ["self","row"] ds) S)
def zEI:AF:=(BJ (fJ 1 zFB (yJ (kJ (.int 1)) wJ)))
def yU:AF:=(zEI)
def zGT(ds:List MV)(S:Sto):R Er:=yH (yU (zR ["self","row","other"] ds) S)
def zHW:AF:=(BJ (fJ 1 zFB (yJ (kJ (.int 2)) wJ)))
def xO:AF:=(zHW)
def zKD(ds:List MV)(S:Sto):R Er:=yH (xO (zR ["self","row","other"] ds) S)
noncomputable def zGI:Rho->Sto->R Fl:=(iJ (rJ (bJ (dJ eqF (dJ ixF (vJ 4) (kJ (.int 0))) (dJ ixF (bJ (vJ 0) (zJO OCS "parts")) (kJ (.int 3)))) asB) (bJ (dJ eqF (fJ 2 zAQ (yJ (vJ 4) (yJ (dJ ixF (bJ (vJ 0) (zJO OCS "parts")) (kJ (.int 4))) wJ))) (vJ 3)) asB)) ((AJ (kJ (.bl false)))) (JJ))
noncomputable def dB:Rho->Sto->R Fl:=(zGI)
def jQ:AF:=(iJ (bJ (dJ neF (dJ ixF (vJ 1) (kJ (.int 0))) (dJ ixF (bJ (vJ 0) (zJO OCS "parts")) (kJ (.int 1)))) asB) ((AJ (kJ (.bl false)))) (JJ))
def zCK:AF:=(CJ (fJ 2 zAQ (yJ (vJ 1) (yJ (dJ ixF (bJ (vJ 0) (zJO OCS "parts")) (kJ (.int 2))) wJ))) 3)
def zCL:AF:=(FJ (bJ (vJ 2) itL) (gNm 4) (dB))
def zSJ:AF:=(AJ (kJ (.bl true)))
def xI:AF:=zW (jQ) (zW (zCK) (zW (zCL) ((zSJ))))
def zBV(ds:List MV)(S:Sto):R Er:=yH (xI (zR zNV ds) S)
def kR:AF:=(iJ (bJ (dJ eqF (dJ ixF (vJ 0) (kJ (.int 0))) (kJ (.str [110,101,118,101,114]))) asB) ((AJ (bJ (vJ 0) (yFL "Never" "parts")))) (JJ))
def dN:AF:=(iJ (bJ (dJ eqF (dJ ixF (vJ 0) (kJ (.int 0))) (kJ (.str [97,112,97,114,116]))) asB) ((AJ (bJ (vJ 0) (yFL "Apart" "parts")))) (JJ))
def zYP:AF:=(AJ (bJ (vJ 0) (yFL "Tie" "parts")))
def zEJ:AF:=zW (kR) (zW (dN) ((zYP)))
def zJA(ds:List MV)(S:Sto):R Er:=yH (zEJ (zR ["parts"] ds) S)
def zHX:Rho->Sto->R Bool:=uJ
def zAR:AE:=(fJ 1 zJA (yJ (vJ 0) wJ))
def zFF:AF:=(AJ (pJ (bJ (dJ ixF (vJ 0) (kJ (.int 1))) itT) (gNm 0) (zHX) (zAR) 1 []))
def zKE:AF:=(zFF)
def cI(ds:List MV)(S:Sto):R Er:=yH (zKE (zR ["book"] ds) S)
noncomputable def dO:List (Str×(List MV->Sto->R Er)):=[("Rule",jD),("Never",jD),("Apart",jD),("Tie",zBV)]
def zCM:Rho->Sto->R Bool:=(qJ (bJ (NJ "lacks" 3 dO (vJ 2) (yJ (vJ 3) (yJ (bJ (yJ (vJ 1) wJ) gW) wJ))) zET))
def zJP:AE:=(vJ 0)
noncomputable def zCN:Rho->Sto->R Fl:=(iJ (bJ (NJ "lacks" 3 dO (vJ 2) (yJ (vJ 4) (yJ (bJ wJ gW) wJ))) zET) ((BJ (eJ zHF zVA (vJ 1) (yJ (bJ (yJ (vJ 3) (yJ (pJ (bJ (yJ (dJ ixF (vJ 0) (kJ (.int 2))) wJ) itE) (gTp 2 (yM (gNm 0) (yM (gNm 1) zBO))) (zCM) (zJP) 2 [2,4]) wJ)) nX) wJ)))) (JJ))
noncomputable def gN:Rho->Sto->R Fl:=(zCN)
noncomputable def zJQ:Rho->Sto->R Fl:=(FJ (bJ (yJ (dJ ixF (vJ 0) (kJ (.int 2))) wJ) itE) (gTp 2 (yM (gNm 3) (yM (gNm 4) zBO))) (gN))
noncomputable def zHY:Rho->Sto->R Fl:=(zJQ)
def zHZ:AF:=(CJ (bJ wJ gW) 1)
def zIA:AF:=(FJ (bJ (fJ 1 cI (yJ (vJ 0) wJ)) itL) (gNm 2) (zHY))
def zIB:AF:=(AJ (vJ 1))
def zMW:AF:=zW (zHZ) (zW (zIA) ((zIB)))
def cJ(ds:List MV)(S:Sto):R Er:=yH (zMW (zR zMU ds) S)
noncomputable def cK:Rho->Sto->R Fl:=(iJ (bJ (dJ (zVF false) (vJ 2) (vJ 0)) asB) ((AJ (kJ (.bl true)))) (JJ))
noncomputable def bF:Rho->Sto->R Fl:=(cK)
def kS:AF:=(FJ (bJ (vJ 1) itL) (gNm 2) (bF))
def zQS:AF:=(AJ (kJ (.bl false)))
def zFG:AF:=zW (kS) ((zQS))
def nZ(ds:List MV)(S:Sto):R Er:=yH (zFG (zR zLE ds) S)
def wR:Rho->Sto->R Bool:=(rJ (bJ (dJ (zVF false) (vJ 0) (vJ 2)) asB) (qJ (bJ (fJ 2 nZ (yJ (vJ 2) (yJ (vJ 1) wJ))) zET)))
def gH:AE:=(vJ 0)
def cL:AF:=(AJ (pJ (bJ (vJ 0) itL) (gTp 2 (yM (gNm 0) (yM (gNm 1) zBO))) (wR) (gH) 2 [1]))
def zAS:AF:=(cL)
def kT(ds:List MV)(S:Sto):R Er:=yH (zAS (zR ["ties","kept"] ds) S)
def zBW:Rho->Sto->R Bool:=uJ
def bG:AE:=(bJ (yJ (vJ 0) (yJ (kJ (.bl true)) wJ)) nX)
noncomputable def zBX:Rho->Sto->R Fl:=(BJ (eJ isDx zTS (vJ 2) (yJ (vJ 4) (yJ (kJ .non) wJ))))
noncomputable def hZ:Rho->Sto->R Fl:=(zBX)
noncomputable def bH:Rho->Sto->R Fl:=(FJ (bJ (vJ 3) itL) (gNm 4) (hZ))
noncomputable def bI:Rho->Sto->R Fl:=(CJ (fJ 2 kT (yJ (vJ 0) (yJ (vJ 2) wJ))) 3)
noncomputable def gA:Rho->Sto->R Fl:=zW (bH) ((bI))
noncomputable def jE:Rho->Sto->R Bool:=(bJ (vJ 3) zET)
def dZ:AF:=(CJ (bJ (yJ (pJ (bJ (vJ 1) itL) (gNm 0) (zBW) (bG) 1 []) wJ) yDK) 2)
def nA:AF:=(CJ (fJ 2 kT (yJ (vJ 0) (yJ (vJ 2) wJ))) 3)
def zGJ:AF:=(λρ S=>gY (jE) (gA) 10000 ρ S)
def nB:AF:=(AJ (bJ (yJ (vJ 2) wJ) zYK))
def zCO:AF:=zW (dZ) (zW (nA) (zW (zGJ) ((nB))))
def kD(ds:List MV)(S:Sto):R Er:=yH (zCO (zR zCG ds) S)
noncomputable def zBY:List (Str×(List MV->Sto->R Er)):=[("Rule",gM),("Never",zFE),("Apart",gM),("Tie",gM)]
def zQT:Rho->Sto->R Bool:=uJ
def zKF:AE:=(NJ "bars" 2 zBY (vJ 0) (yJ (dJ ixF (dJ ixF (vJ 2) (kJ (.int 2))) (vJ 1)) wJ))
def zKG:Rho->Sto->R Bool:=(qJ (bJ (bJ (yJ (pJ (bJ (vJ 2) itL) (gNm 0) (zQT) (zKF) 1 [0,1]) wJ) anyF) zET))
def zQU:AE:=(vJ 0)
def zQV:AF:=(CJ (fJ 1 cI (yJ (vJ 0) wJ)) 2)
def zQW:AF:=(CJ (pJ (bJ (vJ 1) itT) (gNm 0) (zKG) (zQU) 1 [0,2]) 3)
def zQX:AF:=(AJ (fJ 2 kD (yJ (fJ 1 cJ (yJ (vJ 0) wJ)) (yJ (vJ 3) wJ))))
def yBO:AF:=zW (zQV) (zW (zQW) ((zQX)))
def zQY(ds:List MV)(S:Sto):R Er:=yH (yBO (zR yBM ds) S)
def cM:AF:=(iJ (bJ (dJ ltF (vJ 1) (bJ (yJ (vJ 0) wJ) dX)) asB) ((AJ (dJ ixF (vJ 0) (vJ 1)))) (JJ))
def zMX:AF:=(AJ (kJ (.int 0)))
def zAT:AF:=zW (cM) ((zMX))
def zX(ds:List MV)(S:Sto):R Er:=yH (zAT (zR ["_law_script","_law_k"] ds) S)
def zFH:AF:=(CJ (dJ zQA (dJ jM (dJ jM (dJ jM (dJ zQA (vJ 0) (kJ (.int 2147483647))) (dJ zHD (dJ zHD (kJ (.int 7919)) (vJ 1)) (vJ 1))) (dJ zHD (kJ (.int 101)) (vJ 1))) (kJ (.int 11))) (kJ (.int 2147483647))) 2)
def zFI:AF:=(CJ (dJ zQA (dJ jM (dJ jM (dJ zHD (vJ 2) (vJ 2)) (dJ zHD (kJ (.int 48271)) (vJ 2))) (kJ (.int 13))) (kJ (.int 2147483647))) 2)
def zFJ:AF:=(AJ (dJ zQA (dJ jM (dJ jM (dJ zHD (vJ 2) (vJ 2)) (dJ zHD (kJ (.int 69621)) (vJ 2))) (kJ (.int 7))) (kJ (.int 2147483629))))
def zQZ:AF:=zW (zFH) (zW (zFI) ((zFJ)))
def xP(ds:List MV)(S:Sto):R Er:=yH (zQZ (zR zKB ds) S)
def jR:AF:=(CJ (dJ zQA (dJ ixF (vJ 0) (kJ (.int 0))) (vJ 1)) 2)
def jS:AF:=(EJ (dJ zXS (dJ ixF (vJ 0) (kJ (.int 0))) (vJ 1)) (DJ zXW (vJ 0) (kJ (.int 0))))
def zSK:AF:=(AJ (vJ 2))
def zIC:AF:=zW (jR) (zW (jS) ((zSK)))
def zK(ds:List MV)(S:Sto):R Er:=yH (zIC (zR zBS ds) S)
noncomputable def zGK:Rho->Sto->R Fl:=(CJ (dJ jM (dJ zHD (vJ 2) (kJ (.int 2147483629))) (fJ 2 xP (yJ (dJ zXS (vJ 0) (kJ (.int 2))) (yJ (dJ jM (dJ jM (kJ (.int 100)) (dJ zHD (kJ (.int 6)) (vJ 1))) (vJ 3)) wJ)))) 2)
noncomputable def zCP:Rho->Sto->R Fl:=(zGK)
def zCQ:AF:=(iJ (bJ (dJ eqF (dJ zQA (vJ 0) (kJ (.int 2))) (kJ (.int 0))) asB) ((AJ (bJ (yJ (dJ zXS (vJ 0) (kJ (.int 2))) wJ) gW))) (JJ))
def zJR:AF:=(CJ (kJ (.int 0)) 2)
def zCR:AF:=(FJ (bJ (yJ (kJ (.int 6)) wJ) zAL) (gNm 3) (zCP))
def zCS:AF:=(AJ (bJ (yJ (vJ 2) wJ) gW))
def zID:AF:=zW (zCQ) (zW (zJR) (zW (zCR) ((zCS))))
def yB(ds:List MV)(S:Sto):R Er:=yH (zID (zR zHL ds) S)
def nE:Rho->Sto->R Bool:=(bJ (bJ (yJ (vJ 0) (yJ (kJ (.typ "str")) wJ)) zGS) zET)
def zGL:AE:=(vJ 0)
def zGM:Rho->Sto->R Bool:=uJ
def nF:AE:=(dJ ixF (vJ 2) (fJ 2 zK (yJ (vJ 1) (yJ (kJ (.int 26)) wJ))))
def zJS:AF:=(CJ (kJ (.str [97,98,99,100,101,102,103,104,105,106,107,108,109,110,111,112,113,114,115,116,117,118,119,120,121,122])) 2)
def zCT:AF:=(CJ (pJ (bJ (vJ 1) itL) (gNm 0) (nE) (zGL) 1 []) 3)
def zCU:AF:=(CJ (eJ zQE zTQ (kJ (.str [])) (yJ (pJ (bJ (yJ (dJ jM (kJ (.int 1)) (fJ 2 zK (yJ (vJ 0) (yJ (kJ (.int 8)) wJ)))) wJ) zAL) (gNm 0) (zGM) (nF) 1 [0,2]) wJ)) 4)
def zCV:AF:=(CJ (fJ 2 zK (yJ (vJ 0) (yJ (kJ (.int 3)) wJ))) 5)
def zCW:AF:=(iJ (sJ (bJ (dJ eqF (vJ 5) (kJ (.int 0))) asB) (bJ (dJ eqF (vJ 3) (bJ wJ gW)) asB)) ((AJ (vJ 4))) (JJ))
def zCX:AF:=(iJ (bJ (dJ eqF (vJ 5) (kJ (.int 1))) asB) ((AJ (tJ zSF (dJ jM (dJ ixF (vJ 3) (kJ (.int (-1)))) (vJ 4)) mJ (bJ (bJ (yJ (kJ (.int 8)) (yJ (dJ jM (bJ (yJ (dJ ixF (vJ 3) (kJ (.int (-1)))) wJ) dX) (kJ (.int 1))) wJ)) minF) asI)))) (JJ))
def zCY:AF:=(CJ (fJ 2 zK (yJ (vJ 0) (yJ (bJ (yJ (dJ ixF (vJ 3) (kJ (.int (-1)))) wJ) dX) wJ))) 6)
def zCZ:AF:=(AJ (dJ jM (dJ jM (tJ zSF (dJ ixF (vJ 3) (kJ (.int (-1)))) mJ (bJ (vJ 6) asI)) (dJ ixF (vJ 4) (kJ (.int 0)))) (tJ zSF (dJ ixF (vJ 3) (kJ (.int (-1)))) (bJ (dJ jM (vJ 6) (kJ (.int 1))) asI) mJ)))
def dP:AF:=zW (zJS) (zW (zCT) (zW (zCU) (zW (zCV) (zW (zCW) (zW (zCX) (zW (zCY) ((zCZ))))))))
def kU(ds:List MV)(S:Sto):R Er:=yH (dP (zR dL ds) S)
noncomputable def nG:Rho->Sto->R Fl:=(CJ (fJ 2 zK (yJ (vJ 1) (yJ (kJ (.int 4)) wJ))) 4)
noncomputable def nH:Rho->Sto->R Fl:=(CJ (dJ yID (fJ 2 zK (yJ (vJ 1) (yJ (kJ (.int 9)) wJ))) (kJ (.int 4))) 5)
noncomputable def gB:Rho->Sto->R Fl:=(iJ (bJ (dJ eqF (vJ 4) (kJ (.int 0))) asB) ((CJ (dJ jM (dJ yID (fJ 2 zK (yJ (vJ 1) (yJ (dJ yID (dJ zHD (kJ (.int 2)) (dJ powF (kJ (.int 10)) (kJ (.int 30)))) (kJ (.int 1))) wJ))) (dJ powF (kJ (.int 10)) (kJ (.int 30)))) (kJ (.int 1))) 5)) (JJ))
noncomputable def gC:Rho->Sto->R Fl:=(iJ (sJ (bJ (dJ eqF (vJ 4) (kJ (.int 1))) asB) (bJ (dJ eqF (vJ 4) (kJ (.int 2))) asB)) ((CJ (fJ 2 kU (yJ (vJ 1) (yJ (vJ 2) wJ))) 5)) (JJ))
noncomputable def nI:Rho->Sto->R Fl:=(iJ (bJ (dJ (inF true) (vJ 5) (vJ 2)) asB) ((BJ (eJ zHF zVA (vJ 2) (yJ (vJ 5) wJ)))) (JJ))
noncomputable def jT:Rho->Sto->R Fl:=zW (nG) (zW (nH) (zW (gB) (zW (gC) ((nI)))))
def zDA:AF:=(CJ (fJ 2 yB (yJ (vJ 0) (yJ (kJ (.int 1)) wJ))) 1)
def zDB:AF:=(CJ (bJ wJ gW) 2)
def zDC:AF:=(FJ (bJ (yJ (dJ jM (kJ (.int 2)) (fJ 2 zK (yJ (vJ 1) (yJ (kJ (.int 3)) wJ)))) wJ) zAL) (gNm 3) (jT))
def zDD:AF:=(AJ (vJ 2))
def zNX:AF:=zW (zDA) (zW (zDB) (zW (zDC) ((zDD))))
def gO(ds:List MV)(S:Sto):R Er:=yH (zNX (zR zHM ds) S)
noncomputable def bK:Rho->Sto->R Fl:=(CJ (dJ jM (kJ (.int 1)) (fJ 2 zK (yJ (vJ 1) (yJ (kJ (.int 4)) wJ)))) 4)
noncomputable def bL:Rho->Sto->R Fl:=(CJ (dJ ixF (bJ (yJ (kJ (.int 0)) (yJ (kJ (.int 1)) (yJ (kJ (.int 1)) (yJ (vJ 4) (yJ (fJ 2 zK (yJ (vJ 1) (yJ (dJ jM (vJ 4) (kJ (.int 1))) wJ))) wJ))))) gW) (fJ 2 zK (yJ (vJ 1) (yJ (kJ (.int 5)) wJ)))) 5)
noncomputable def bM:Rho->Sto->R Fl:=(BJ (eJ zHF zVA (vJ 2) (yJ (bJ (yJ (vJ 4) (yJ (vJ 5) wJ)) nX) wJ)))
noncomputable def gD:Rho->Sto->R Fl:=zW (bK) (zW (bL) ((bM)))
def nK:AF:=(CJ (fJ 2 yB (yJ (vJ 0) (yJ (kJ (.int 2)) wJ))) 1)
def nL:AF:=(CJ (bJ wJ gW) 2)
def nM:AF:=(FJ (bJ (yJ (dJ jM (kJ (.int 1)) (fJ 2 zK (yJ (vJ 1) (yJ (kJ (.int 4)) wJ)))) wJ) zAL) (gNm 3) (gD))
def nN:AF:=(AJ (bJ (yJ (vJ 2) wJ) gZ))
def zJT:AF:=zW (nK) (zW (nL) (zW (nM) ((nN))))
def kE(ds:List MV)(S:Sto):R Er:=yH (zJT (zR zCH ds) S)
def zIE:Rho->Sto->R Bool:=uJ
def zAU:AE:=(dJ ixF (vJ 1) (fJ 2 zK (yJ (vJ 2) (yJ (bJ (yJ (vJ 1) wJ) dX) wJ))))
def zFK:AF:=(CJ (fJ 2 yB (yJ (vJ 0) (yJ (kJ (.int 3)) wJ))) 3)
def zFL:AF:=(CJ (fJ 2 zK (yJ (vJ 3) (yJ (bJ (yJ (vJ 1) wJ) dX) wJ))) 4)
def zFM:AF:=(AJ (bJ (yJ (vJ 4) (yJ (bJ (yJ (pJ (bJ (yJ (dJ ixF (dJ ixF (vJ 1) (vJ 4)) (kJ (.int 0))) wJ) zAL) (gNm 0) (zIE) (zAU) 1 [2,3]) wJ) gZ) wJ)) nX))
def zRA:AF:=zW (zFK) (zW (zFL) ((zFM)))
def cN(ds:List MV)(S:Sto):R Er:=yH (zRA (zR zEZ ds) S)
noncomputable def nO:Rho->Sto->R Fl:=(CJ (fJ 3 cN (yJ (vJ 5) (yJ (vJ 1) (yJ (vJ 2) wJ)))) 6)
noncomputable def xV:Rho->Sto->R Fl:=(iJ (rJ (bJ (dJ (inF true) (vJ 6) (vJ 4)) asB) (bJ (dJ ltF (bJ (yJ (vJ 4) wJ) dX) (vJ 3)) asB)) ((BJ (eJ zHF zVA (vJ 4) (yJ (vJ 6) wJ)))) (JJ))
noncomputable def kF:Rho->Sto->R Fl:=zW (nO) ((xV))
def zDE:AF:=(CJ (bJ wJ gW) 4)
def zDF:AF:=(FJ (bJ (vJ 0) itL) (gNm 5) (kF))
def zDG:AF:=(AJ (bJ (yJ (vJ 4) wJ) gZ))
def zNY:AF:=zW (zDE) (zW (zDF) ((zDG)))
def gP(ds:List MV)(S:Sto):R Er:=yH (zNY (zR zHN ds) S)
def jU:AF:=(iJ (bJ (dJ eqF (fJ 2 zK (yJ (vJ 0) (yJ (kJ (.int 3)) wJ))) (kJ (.int 0))) asB) ((AJ (bJ (yJ (kJ (.str [105,115])) (yJ (dJ ixF (vJ 3) (fJ 2 zK (yJ (vJ 0) (yJ (bJ (yJ (vJ 3) wJ) dX) wJ)))) wJ)) nX))) (JJ))
def zDH:AF:=(CJ (fJ 2 zK (yJ (vJ 0) (yJ (bJ (yJ (vJ 1) wJ) dX) wJ))) 4)
def zDI:AF:=(AJ (bJ (yJ (kJ (.str [99,101,108,108])) (yJ (vJ 4) (yJ (fJ 2 zK (yJ (vJ 0) (yJ (dJ ixF (dJ ixF (vJ 2) (dJ ixF (vJ 1) (vJ 4))) (kJ (.int 0))) wJ))) wJ))) nX))
def zIF:AF:=zW (jU) (zW (zDH) ((zDI)))
def xZ(ds:List MV)(S:Sto):R Er:=yH (zIF (zR zHO ds) S)
noncomputable def cO:Rho->Sto->R Fl:=(CJ (fJ 4 xZ (yJ (vJ 0) (yJ (vJ 1) (yJ (vJ 2) (yJ (vJ 3) wJ))))) 6)
noncomputable def cP:Rho->Sto->R Fl:=(CJ (fJ 4 xZ (yJ (vJ 0) (yJ (vJ 1) (yJ (vJ 2) (yJ (vJ 3) wJ))))) 7)
noncomputable def cQ:Rho->Sto->R Fl:=(BJ (eJ zHF zVA (vJ 4) (yJ (bJ (yJ (vJ 6) (yJ (dJ ixF (bJ (yJ (kJ (.str [115,97,109,101])) (yJ (kJ (.str [117,110,108,105,107,101])) (yJ (kJ (.str [108,101,115,115])) (yJ (kJ (.str [115,97,109,101])) wJ)))) gW) (fJ 2 zK (yJ (vJ 0) (yJ (kJ (.int 4)) wJ)))) (yJ (vJ 7) wJ))) nX) wJ)))
noncomputable def bN:Rho->Sto->R Fl:=zW (cO) (zW (cP) ((cQ)))
def zAV:AF:=(CJ (bJ wJ gW) 4)
def zAW:AF:=(FJ (bJ (yJ (dJ ixF (bJ (yJ (kJ (.int 1)) (yJ (kJ (.int 1)) (yJ (kJ (.int 2)) (yJ (kJ (.int 3)) wJ)))) gW) (fJ 2 zK (yJ (vJ 0) (yJ (kJ (.int 4)) wJ)))) wJ) zAL) (gNm 5) (bN))
def zAX:AF:=(AJ (bJ (yJ (vJ 4) wJ) gZ))
def zLH:AF:=zW (zAV) (zW (zAW) ((zAX)))
def xG(ds:List MV)(S:Sto):R Er:=yH (zLH (zR zFA ds) S)
def zGN:Rho->Sto->R Bool:=uJ
def gE:AE:=(fJ 2 zK (yJ (vJ 2) (yJ (dJ ixF (dJ ixF (vJ 1) (vJ 3)) (kJ (.int 0))) wJ)))
def zGO:Rho->Sto->R Bool:=uJ
def gF:AE:=(fJ 2 zK (yJ (vJ 2) (yJ (dJ ixF (dJ ixF (vJ 1) (vJ 3)) (kJ (.int 0))) wJ)))
def zDJ:AF:=(CJ (fJ 2 yB (yJ (vJ 0) (yJ (kJ (.int 4)) wJ))) 3)
def zDK:AF:=(CJ (fJ 2 zK (yJ (vJ 3) (yJ (kJ (.int 3)) wJ))) 4)
def zDL:AF:=(CJ (fJ 2 zK (yJ (vJ 3) (yJ (bJ (yJ (vJ 1) wJ) dX) wJ))) 5)
def zDM:AF:=(CJ (fJ 2 zK (yJ (vJ 3) (yJ (bJ (yJ (vJ 1) wJ) dX) wJ))) 6)
def jV:AF:=(iJ (bJ (dJ eqF (vJ 4) (kJ (.int 0))) asB) ((AJ (bJ (yJ (kJ (.str [110,101,118,101,114])) (yJ (vJ 5) (yJ (fJ 4 xG (yJ (vJ 3) (yJ (bJ (yJ (vJ 5) wJ) nX) (yJ (vJ 1) (yJ (vJ 2) wJ))))) wJ))) nX))) (JJ))
def jW:AF:=(iJ (bJ (dJ eqF (vJ 4) (kJ (.int 1))) asB) ((AJ (bJ (yJ (kJ (.str [97,112,97,114,116])) (yJ (vJ 5) (yJ (vJ 6) (yJ (fJ 4 xG (yJ (vJ 3) (yJ (bJ (yJ (vJ 5) (yJ (vJ 6) wJ)) nX) (yJ (vJ 1) (yJ (vJ 2) wJ))))) wJ)))) nX))) (JJ))
def zDN:AF:=(CJ (dJ ixF (bJ (yJ (kJ (.int 1)) (yJ (kJ (.int 2)) (yJ (kJ (.int 1)) (yJ (kJ (.int 3)) (yJ (kJ (.int 1)) wJ))))) gW) (fJ 2 zK (yJ (vJ 3) (yJ (kJ (.int 5)) wJ)))) 7)
def zDO:AF:=(CJ (bJ (yJ (pJ (bJ (yJ (vJ 7) wJ) zAL) (gNm 0) (zGN) (gE) 1 [1,3,5]) wJ) gZ) 8)
def zDP:AF:=(CJ (bJ (yJ (pJ (bJ (yJ (vJ 7) wJ) zAL) (gNm 0) (zGO) (gF) 1 [1,3,6]) wJ) gZ) 9)
def zAY:AF:=(AJ (bJ (yJ (kJ (.str [116,105,101])) (yJ (vJ 5) (yJ (vJ 8) (yJ (vJ 6) (yJ (vJ 9) wJ))))) nX))
def zBZ:AF:=zW (zDJ) (zW (zDK) (zW (zDL) (zW (zDM) (zW (jV) (zW (jW) (zW (zDN) (zW (zDO) (zW (zDP) ((zAY))))))))))
def wA(ds:List MV)(S:Sto):R Er:=yH (zBZ (zR dM ds) S)
def zGP:Rho->Sto->R Bool:=uJ
def nP:AE:=(fJ 3 wA (yJ (fJ 2 zX (yJ (vJ 1) (yJ (dJ jM (kJ (.int 3)) (vJ 0)) wJ))) (yJ (vJ 3) (yJ (vJ 2) wJ))))
noncomputable def zGQ:Rho->Sto->R Fl:=(BJ (eJ zHF zVA (vJ 7) (yJ (dJ jM (kJ (.int 1)) (dJ zHD (kJ (.int 2)) (fJ 2 xP (yJ (fJ 2 zX (yJ (vJ 0) (yJ (kJ (.int 2)) wJ))) (yJ (dJ jM (kJ (.int 30)) (vJ 8)) wJ))))) wJ)))
noncomputable def zDQ:Rho->Sto->R Fl:=(zGQ)
def zDR:AF:=(CJ (fJ 1 gO (yJ (fJ 2 zX (yJ (vJ 0) (yJ (kJ (.int 0)) wJ))) wJ)) 3)
def zDS:AF:=(CJ (fJ 1 kE (yJ (fJ 2 zX (yJ (vJ 0) (yJ (kJ (.int 1)) wJ))) wJ)) 4)
def zDT:AF:=(CJ (fJ 2 zK (yJ (fJ 2 yB (yJ (fJ 2 zX (yJ (vJ 0) (yJ (kJ (.int 2)) wJ))) (yJ (kJ (.int 5)) wJ))) (yJ (dJ ixF (bJ (yJ (kJ (.int 2)) (yJ (kJ (.int 3)) (yJ (kJ (.int 5)) (yJ (kJ (.int 7)) wJ)))) gW) (vJ 2)) wJ))) 5)
def zDU:AF:=(CJ (bJ (yJ (pJ (bJ (yJ (vJ 5) wJ) zAL) (gNm 0) (zGP) (nP) 1 [0,3,4]) wJ) gZ) 6)
def zDV:AF:=(CJ (bJ (yJ (tJ zSF (vJ 0) (bJ (dJ jM (kJ (.int 3)) (vJ 5)) asI) mJ) wJ) yIL) 7)
def zDW:AF:=(FJ (bJ (yJ (dJ zQA (fJ 2 xP (yJ (fJ 2 zX (yJ (vJ 0) (yJ (kJ (.int 2)) wJ))) (yJ (kJ (.int 6)) wJ))) (dJ jM (vJ 1) (kJ (.int 1)))) wJ) zAL) (gNm 8) (zDQ))
def zDX:AF:=(AJ (bJ (yJ (vJ 4) (yJ (vJ 6) (yJ (fJ 4 gP (yJ (tJ zSF (vJ 7) mJ (bJ (dJ zHD (kJ (.int 2)) (vJ 1)) asI)) (yJ (vJ 4) (yJ (vJ 3) (yJ (vJ 1) wJ))))) wJ))) nX))
def zNZ:AF:=zW (zDR) (zW (zDS) (zW (zDT) (zW (zDU) (zW (zDV) (zW (zDW) ((zDX)))))))
def gQ(ds:List MV)(S:Sto):R Er:=yH (zNZ (zR zBT ds) S)
def kW:AF:=(iJ (bJ (dJ eqF (dJ ixF (vJ 0) (kJ (.int 0))) (kJ (.str [105,115]))) asB) ((AJ (dJ ixF (vJ 0) (kJ (.int 1))))) (JJ))
def zAZ:AF:=(AJ (dJ ixF (dJ ixF (dJ ixF (vJ 1) (dJ ixF (vJ 0) (kJ (.int 1)))) (kJ (.int 1))) (dJ ixF (vJ 0) (kJ (.int 2)))))
def zFN:AF:=zW (kW) ((zAZ))
def bO(ds:List MV)(S:Sto):R Er:=yH (zFN (zR bB ds) S)
noncomputable def nQ:Rho->Sto->R Fl:=(CJ (fJ 2 bO (yJ (vJ 2) (yJ (vJ 1) wJ))) 5)
noncomputable def nR:Rho->Sto->R Fl:=(CJ (fJ 2 bO (yJ (vJ 4) (yJ (vJ 1) wJ))) 6)
noncomputable def nS:Rho->Sto->R Fl:=(iJ (sJ (rJ (bJ (dJ eqF (vJ 3) (kJ (.str [115,97,109,101]))) asB) (bJ (dJ neF (vJ 5) (vJ 6)) asB)) (rJ (bJ (dJ eqF (vJ 3) (kJ (.str [117,110,108,105,107,101]))) asB) (bJ (dJ eqF (vJ 5) (vJ 6)) asB))) ((AJ (kJ (.bl false)))) (JJ))
noncomputable def nT:Rho->Sto->R Fl:=(iJ (rJ (bJ (dJ eqF (vJ 3) (kJ (.str [108,101,115,115]))) asB) (sJ (bJ (bJ (yJ (vJ 5) (yJ (kJ (.typ "str")) wJ)) zGS) zET) (sJ (bJ (bJ (yJ (vJ 6) (yJ (kJ (.typ "str")) wJ)) zGS) zET) (bJ (dJ geF (vJ 5) (vJ 6)) asB)))) ((AJ (kJ (.bl false)))) (JJ))
noncomputable def dC:Rho->Sto->R Fl:=zW (nQ) (zW (nR) (zW (nS) ((nT))))
def zDY:AF:=(FJ (bJ (vJ 0) itT) (gTp 3 (yM (gNm 2) (yM (gNm 3) (yM (gNm 4) zBO)))) (dC))
def zSL:AF:=(AJ (kJ (.bl true)))
def zIG:AF:=zW (zDY) ((zSL))
def dQ(ds:List MV)(S:Sto):R Er:=yH (zIG (zR zNW ds) S)
def nU:AF:=(AJ (aJ (dJ eqF (dJ ixF (vJ 0) (kJ (.int 0))) (kJ (.str [110,101,118,101,114]))) (aJ (dJ eqF (dJ ixF (vJ 1) (kJ (.int 0))) (dJ ixF (vJ 0) (kJ (.int 1)))) (fJ 2 dQ (yJ (dJ ixF (vJ 0) (kJ (.int 2))) (yJ (bJ (yJ (vJ 1) wJ) nX) wJ))))))
def jX:AF:=(nU)
def kG(ds:List MV)(S:Sto):R Er:=yH (jX (zR jO ds) S)
def zBA:Rho->Sto->R Bool:=uJ
def gI:AE:=(dJ ixF (dJ ixF (vJ 1) (kJ (.int 1))) (vJ 0))
def zBB:Rho->Sto->R Bool:=uJ
def gK:AE:=(dJ ixF (dJ ixF (vJ 1) (kJ (.int 1))) (vJ 0))
def gL:Rho->Sto->R Bool:=(rJ (bJ (dJ eqF (dJ ixF (vJ 0) (kJ (.int 0))) (dJ ixF (vJ 1) (kJ (.int 3)))) asB) (bJ (dJ eqF (pJ (bJ (dJ ixF (vJ 1) (kJ (.int 4))) itT) (gNm 0) (zBB) (gK) 1 [0]) (vJ 2)) asB))
def zBC:AE:=(vJ 0)
def yY:AF:=(iJ (sJ (bJ (dJ neF (dJ ixF (vJ 0) (kJ (.int 0))) (kJ (.str [116,105,101]))) asB) (bJ (dJ neF (dJ ixF (vJ 1) (kJ (.int 0))) (dJ ixF (vJ 0) (kJ (.int 1)))) asB)) ((AJ (kJ (.bl false)))) (JJ))
def cR:AF:=(CJ (pJ (bJ (dJ ixF (vJ 0) (kJ (.int 2))) itT) (gNm 0) (zBA) (gI) 1 [1]) 3)
def cS:AF:=(AJ (dJ eqF (pJ (bJ (vJ 2) itL) (gNm 0) (gL) (zBC) 1 [0,3]) (bJ wJ gW)))
def xQ:AF:=zW (yY) (zW (cR) ((cS)))
def bP(ds:List MV)(S:Sto):R Er:=yH (xQ (zR bC ds) S)
def zCA:Rho->Sto->R Bool:=uJ
def bQ:AE:=(dJ ixF (dJ ixF (vJ 1) (kJ (.int 2))) (vJ 0))
noncomputable def bR:Rho->Sto->R Fl:=(iJ (sJ (bJ (fJ 2 kG (yJ (vJ 4) (yJ (dJ ixF (dJ ixF (vJ 0) (kJ (.int 2))) (vJ 3)) wJ))) zET) (bJ (fJ 3 bP (yJ (vJ 4) (yJ (dJ ixF (dJ ixF (vJ 0) (kJ (.int 2))) (vJ 3)) (yJ (vJ 2) wJ)))) zET)) ((AJ (kJ (.bl false)))) (JJ))
noncomputable def kA:Rho->Sto->R Fl:=(bR)
noncomputable def bS:Rho->Sto->R Fl:=(FJ (bJ (dJ ixF (vJ 0) (kJ (.int 1))) itT) (gNm 4) (kA))
noncomputable def gG:Rho->Sto->R Fl:=(bS)
def nV:AF:=(CJ (pJ (bJ (vJ 1) itQ) (gNm 0) (zCA) (bQ) 1 [0]) 2)
def kB:AF:=(FJ (bJ (vJ 1) itQ) (gNm 3) (gG))
def zOK:AF:=(AJ (kJ (.bl true)))
def zDZ:AF:=zW (nV) (zW (kB) ((zOK)))
def xK(ds:List MV)(S:Sto):R Er:=yH (zDZ (zR zCI ds) S)
def jF:Rho->Sto->R Bool:=(bJ (dJ eqF (dJ zQA (dJ shrF (vJ 2) (vJ 0)) (kJ (.int 2))) (kJ (.int 1))) asB)
def jG:AE:=(dJ ixF (vJ 1) (vJ 0))
def cT:Rho->Sto->R Bool:=(bJ (dJ (zVF true) (vJ 0) (vJ 1)) asB)
def zEK:AE:=(vJ 0)
noncomputable def zEL:Rho->Sto->R Fl:=(EJ (kJ (.bl true)) (DJ zYJ (vJ 2) (vJ 5)))
noncomputable def bT:Rho->Sto->R Fl:=(zEL)
noncomputable def cU:Rho->Sto->R Fl:=(CJ (pJ (bJ (yJ (bJ (yJ (vJ 1) wJ) dX) wJ) zAL) (gNm 0) (jF) (jG) 1 [1,3]) 4)
noncomputable def xM:Rho->Sto->R Fl:=(iJ (rJ (bJ (dJ neF (pJ (bJ (vJ 4) itL) (gNm 0) (cT) (zEK) 1 [2]) (bJ wJ gW)) asB) (bJ (fJ 2 xK (yJ (vJ 0) (yJ (vJ 4) wJ))) zET)) ((FJ (bJ (vJ 4) itL) (gNm 5) (bT))) (JJ))
noncomputable def wI:Rho->Sto->R Fl:=zW (cU) ((xM))
def zBD:AF:=(CJ zJ 2)
def zBE:AF:=(FJ (bJ (yJ (dJ shlF (kJ (.int 1)) (bJ (yJ (vJ 1) wJ) dX)) wJ) zAL) (gNm 3) (wI))
def zBF:AF:=(AJ (bJ (yJ (bJ (yJ (vJ 2) wJ) zYM) wJ) gZ))
def zFO:AF:=zW (zBD) (zW (zBE) ((zBF)))
def zAA(ds:List MV)(S:Sto):R Er:=yH (zFO (zR nY ds) S)
def zJB:Rho->Sto->R Bool:=(bJ (dJ gtF (dJ zQA (fJ 2 xP (yJ (fJ 2 zX (yJ (vJ 1) (yJ (kJ (.int 1)) wJ))) (yJ (dJ jM (vJ 0) (kJ (.int 3))) wJ))) (kJ (.int 4))) (kJ (.int 0))) asB)
def zTX:AE:=(vJ 0)
noncomputable def zMY:Rho->Sto->R Fl:=(CJ (fJ 2 zAA (yJ (vJ 1) (yJ (vJ 3) wJ))) 4)
noncomputable def zMZ:Rho->Sto->R Fl:=(CJ (fJ 2 zQY (yJ (vJ 1) (yJ (vJ 3) wJ))) 5)
noncomputable def zNA:Rho->Sto->R Fl:=(iJ (sJ (qJ (bJ (bJ (yJ (vJ 5) (yJ (kJ (.typ "tuple")) wJ)) zGS) zET)) (sJ (bJ (dJ neF (vJ 5) (vJ 4)) asB) (qJ (bJ (fJ 2 xK (yJ (vJ 1) (yJ (vJ 5) wJ))) zET)))) ((AJ (kJ (.bl false)))) (JJ))
noncomputable def zNB:Rho->Sto->R Fl:=(iJ (bJ (dJ neF (fJ 2 zQY (yJ (vJ 1) (yJ (vJ 5) wJ))) (vJ 4)) asB) ((AJ (kJ (.bl false)))) (JJ))
noncomputable def zVI:Rho->Sto->R Fl:=zW (zMY) (zW (zMZ) (zW (zNA) ((zNB))))
def zVJ:AF:=(CJ (fJ 3 gQ (yJ (vJ 0) (yJ (kJ (.int 8)) (yJ (kJ (.int 2)) wJ)))) 1)
def zVK:AF:=(CJ (bJ (yJ (bJ (yJ (dJ ixF (vJ 1) (kJ (.int 2))) wJ) dX) wJ) yDE) 2)
def zVL:AF:=(FJ (bJ (bJ (yJ (vJ 2) (yJ (bJ (yJ (pJ (bJ (vJ 2) itT) (gNm 0) (zJB) (zTX) 1 [0]) wJ) gZ) wJ)) gW) itL) (gNm 3) (zVI))
def yNJ:AF:=(AJ (kJ (.bl true)))
def yJI:AF:=zW (zVJ) (zW (zVK) (zW (zVL) ((yNJ))))
def zYQ(ds:List MV)(S:Sto):R Er:=yH (yJI (zR yJH ds) S)
end
theorem zJC{S:Sto}{l:Nat}{ds:List MV}{d:MV}(hS:S[l]? =some (.lst ds))(hz:ds.length<1000000):zVA (.val (.loc l)) [.val d] S=.ok (.val .non) (S.set l (.lst (ds++[d]))):=by
 show yFD (.val (.loc l)) S (λds=>if ds.length<sizeLine then some (ds++[d])else none)=_
 unfold yFD
 dsimp only
 rw [hS]
 dsimp only
 rw [iP (lt_of_lt_of_le hz (fits (le_refl _)))]
theorem zJD{S:Sto}{l:Nat}{ds:List MV}(hS:S[l]? =some (.lst ds)):zHF (.val (.loc l)) S=true:=by
 unfold zHF
 rw [zEH hS];rfl
theorem zYR{S:Sto}{l:Nat}{ds:List MV}{k:Int}{j:Nat}{d:MV}{ρ:Rho}(hS:S[l]? =some (.lst ds))(hj:ixN ds.length k=some j):zXW (.val (.loc l)) (.val (.int k)) d ρ S=.ok ρ (S.set l (.lst (ds.set j d))):=by
 unfold zXW
 dsimp only
 rw [hS]
 dsimp only
 rw [hj]
theorem get_set{S:Sto}{l:Nat}{o o':MO}(h:S[l]? =some o):(S.set l o')[l]? =some o':=getElem?_set_self (gS0.mp h).1
theorem wS{S:Sto}{l m:Nat}{o':MO}(h:l≠m):(S.set l o')[m]? =S[m]? :=getElem?_set_ne h
theorem zNC{S:Sto}{l:Nat}{ds:List MV}(hS:S[l]? =some (.lst ds)):gZ [.val (.loc l)] S=.ok (.val (.tup ds)) S:=by
 show(match jB S (.val (.loc l))with |some ds=>R.ok (Er.val (.tup ds)) S|none=>.no)=_
 rw [zEH hS]
theorem zJE(ds:List MV)(S:Sto):dX [.val (.tup ds)] S=.ok (.val (.int ds.length)) S:=rfl
theorem zVM(gf:MV->Rho->Sto->R Rho)(ρ:Rho)(d:MV)(S:Sto):asgF gf ρ (.val d) S=(gf d ρ S).bind λρ' S2=>.ok (.next ρ') S2:=rfl
theorem zRB{n:Nat}{F:List MV->Sto->R Er}{rs:List Er}{S:Sto}{d:MV}{l:Nat}{x:Int}(hn:rs.length=n)(hF:F (zV rs S).1 (zV rs S).2=.ok (.val d) (S.set l (.lst [.int x])))(h:lo S.length d)(hd: ∀l,d≠.loc l):zT n F rs S=.ok (.val d) (S.set l (.lst [.int x])):=by
 unfold zT
 rw [iP hn,hF,yG,bok]
 have hc:zNT S (S.set l (.lst [.int x])):=by
  refine⟨by rw [length_set];exact le_refl _,λm hm=>?_⟩
  by_cases e:l=m
  ·subst e
   exact .inr ⟨_,getElem?_set_self hm,yO λe he=>by rw [mS.mp he];exact wQ _ _⟩
  ·exact .inl (getElem?_set_ne e)
 unfold bX
 rw [iP hc]
 have e:(S.set l (.lst [.int x])).take S.length=S.set l (.lst [.int x]):=by rw [take_of_length_le (by rw [length_set];exact le_refl _)]
 cases d with
 |loc m=>exact absurd rfl (hd m)
 |_=>dsimp only;rw [iP h,e]
theorem pp30(S:Sto):powF (.val (.int 10)) (.val (.int 30)) S=.ok (.val (.int (10 ^ 30))) S:=rfl
theorem yNK{b:Int}(h:yEY 0 b)(a:Int)(S:Sto):zXS (.val (.int a)) (.val (.int b)) S=.ok (.val (.int (a / b))) S:=iP (show yEY a b from h)
theorem zVN{a:Int}(h:0<=a/\a<4294967296)(b:Int)(S:Sto):zHD (.val (.int b)) (.val (.int a)) S=.ok (.val (.int (b * a))) S:=
 yCZ ⟨Int.lt_of_lt_of_le (by decide) h.1,Int.lt_trans h.2 (by decide)⟩ b S
theorem zYS{S:Sto}{l:Nat}{x n:Int}(hS:S[l]? =some (.lst [.int x]))(h0:0<n)(hd: ∀(a:Int)(S:Sto),zXS (.val (.int a)) (.val (.int n)) S=.ok (.val (.int (a / n))) S):zT 2 zK [.val (.loc l),.val (.int n)] S=.ok (.val (.int (x % n))) (S.set l (.lst [.int (x / n)])):=by
 have hs:zR zBS [.loc l,.int n]=[some (.loc l),some (.int n),none]:=rfl
 have ha:atI [MV.int x] 0=some (.int x):=rfl
 have e1:jR [some (.loc l),some (.int n),none] S=.ok (.next [some (.loc l),some (.int n),some (.int (x % n))]) S:=by
  unfold jR
  simp? [zHI hS ha,mod_lit h0]
 have e2:jS [some (.loc l),some (.int n),some (.int (x % n))] S=.ok (.next [some (.loc l),some (.int n),some (.int (x % n))]) (S.set l (.lst [.int (x / n)])):=by
  unfold jS
  simp? [zHI hS ha,hd,zVM,zYR hS (show ixN [MV.int x].length 0=some 0 from rfl)]
 refine zRB rfl ?_ (wQ _ _) (λl=>by simp)
 show zK [.loc l,.int n] S=_
 unfold zK zIC
 rw [hs,zC e1,zC e2]
 rfl
theorem zCB{S:Sto}{l:Nat}{x n:Int}(hS:S[l]? =some (.lst [.int x]))(h0:0<n)(h1:n<1073741824):zT 2 zK [.val (.loc l),.val (.int n)] S=.ok (.val (.int (x % n))) (S.set l (.lst [.int (x / n)])):=zYS hS h0 (zOY h0 h1)
theorem zVO(c k:Int)(hk:0<=k/\k<100000)(S:Sto): ∃n,0<=n/\zT 2 xP [.val (.int c),.val (.int k)] S=.ok (.val (.int n)) S:=by
 have hs:zR zKB [.int c,.int k]=[some (.int c),some (.int k),none]:=rfl
 have hk':0<=k/\k<4294967296:=⟨hk.1,by omega⟩
 have e1:zFH [some (.int c),some (.int k),none] S=.ok (.next [some (.int c),some (.int k),some (.int ((c % 2147483647+7919 * k * k+101 * k+11) % 2147483647))]) S:=by
  unfold zFH
  simp? [mod_lit (show(0:Int)<2147483647 by decide),zVN hk']
 have h0:0<=(c % 2147483647+7919 * k * k+101 * k+11) % 2147483647:=eN _ (by decide)
 have h1:(c % 2147483647+7919 * k * k+101 * k+11) % 2147483647<2147483647:=eL _ (by decide)
 generalize (c % 2147483647+7919 * k * k+101 * k+11) % 2147483647=m at h0 h1 e1
 have e2:zFI [some (.int c),some (.int k),some (.int m)] S=.ok (.next [some (.int c),some (.int k),some (.int ((m * m+48271 * m+13) % 2147483647))]) S:=by
  unfold zFI
  simp? [mod_lit (show(0:Int)<2147483647 by decide),zVN (a:=m) ⟨h0,by omega⟩]
 have h2:0<=(m * m+48271 * m+13) % 2147483647:=eN _ (by decide)
 have h3:(m * m+48271 * m+13) % 2147483647<2147483647:=eL _ (by decide)
 generalize (m * m+48271 * m+13) % 2147483647=p at h2 h3 e2
 have e3:zFJ [some (.int c),some (.int k),some (.int p)] S=.ok (.ret (.val (.int ((p * p+69621 * p+7) % 2147483629)))) S:=by
  unfold zFJ
  simp? [mod_lit (show(0:Int)<2147483629 by decide),zVN (a:=p) ⟨h2,by omega⟩]
 refine⟨(p * p+69621 * p+7) % 2147483629,eN _ (by decide),zAG rfl ?_ (wQ _ _) (λl=>by simp)⟩
 show xP [.int c,.int k] S=_
 unfold xP zQZ
 rw [hs,zC e1,zC e2,e3]
 rfl
theorem zLI(c k:Int)(hk:0<=k/\k<100)(S:Sto): ∃t,zT 2 yB [.val (.int c),.val (.int k)] S=.ok (.new [.int t]) S:=by
 have hs:zR zHL [.int c,.int k]=[some (.int c),some (.int k),none,none]:=rfl
 have e1:zCQ [some (.int c),some (.int k),none,none] S=if decide (c % 2=0)=true then .ok (.ret (.new [.int (c / 2)])) S else .ok (.next [some (.int c),some (.int k),none,none]) S:=by
  unfold zCQ
  simp? [mod_lit (show(0:Int)<2 by decide),zOY (b:=2) (by decide) (by decide)]
 have fin: ∀t,yB [.int c,.int k] S=.ok (.new [.int t]) S-> ∃t,zT 2 yB [.val (.int c),.val (.int k)] S=.ok (.new [.int t]) S:=λt h=>⟨t,zHH (T:=[]) rfl (by rw [aN];exact h) (yO λe he=>by rw [mS.mp he];exact wQ _ _)⟩
 cases hb:decide (c % 2=0)with
 |true=>
  rw [hb,iP rfl]at e1
  refine fin (c / 2) ?_
  unfold yB zID
  rw [hs,yR e1]
  rfl
 |false=>
  rw [hb,iN xF0]at e1
  have e2:zJR [some (.int c),some (.int k),none,none] S=.ok (.next [some (.int c),some (.int k),some (.int 0),none]) S:=rfl
  obtain⟨ρ',S',e,t,j',hρ,hS'⟩:=zKA (L:=(List.range 6).map λk=>MV.int (k:Nat)) (gf:=gNm 3) (body:=zCP) (gs:=[]) (S:=S) (ρ:=[some (.int c),some (.int k),some (.int 0),none])
   (λi ρ S'=> ∃(t:Int)(j':Option MV),ρ=[some (.int c),some (.int k),some (.int t),j']/\S'=S) (λi d hi ρ S1 ⟨t,j',hρ,hS1⟩=>by
    subst hρ hS1
    obtain⟨j,hj,rfl⟩:=mM.mp (mem_of_getElem? hi)
    rw [mem_range]at hj
    obtain⟨n,_,hn⟩:=zVO (c / 2) (100+6 * k+(j:Nat)) ⟨by omega,by omega⟩ S1
    refine⟨[some (.int c),some (.int k),some (.int (t * 2147483629+n)),some (.int (j:Nat))],S1,?_,kL _,_,_,rfl,rfl⟩
    rw [show gNm 3 (.int (j:Nat)) [some (.int c),some (.int k),some (.int t),j'] S1=.ok [some (.int c),some (.int k),some (.int t),some (.int (j:Nat))] S1 from rfl,bok]
    unfold zCP zGK
    simp? [yCZ (show -(2 ^ 64)<(2147483629:Int)/\(2147483629:Int)<2 ^ 64 by decide),zOY (b:=2) (by decide) (by decide),zVN (a:=k) ⟨hk.1,by omega⟩,hn]) ⟨_,_,rfl,rfl⟩
  subst hρ hS'
  have e3:zCR [some (.int c),some (.int k),some (.int 0),none] S'=.ok (.next [some (.int c),some (.int k),some (.int t),j']) S':=by
   unfold zCR
   simp? [dY (S:=S') (j:=6) (by decide)]
   exact e
  have e4:zCS [some (.int c),some (.int k),some (.int t),j'] S'=.ok (.ret (.new [.int t])) S':=by
   unfold zCS
   simp? [bok]
  refine fin t ?_
  unfold yB zID
  rw [hs,zC e1,zC e2,zC e3,e4]
  rfl
mutual
def pd:MV->Bool
 |.int _=>true
 |.str _=>true
 |.tup ds=>pdL ds
 |_=>false
def pdL:List MV->Bool
 |[]=>true
 |d::ds=>pd d&&pdL ds
end
mutual
def dpt:MV->Nat
 |.tup ds=>zOL ds+1
 |_=>0
def zOL:List MV->Nat
 |[]=>0
 |d::ds=>max (dpt d) (zOL ds)
end
theorem zVP(ds:List MV):pd (.tup ds)=pdL ds:=by rw [pd]
theorem yDL:pdL []=true:=by rw [pdL]
theorem zLJ(d:MV)(ds:List MV):pdL (d::ds)=(pd d&&pdL ds):=by rw [pdL]
theorem zPA(ds:List MV):dpt (.tup ds)=zOL ds+1:=by rw [dpt]
theorem zJF(d:MV)(ds:List MV):zOL (d::ds)=max (dpt d) (zOL ds):=by rw [zOL]
theorem zYT:zOL []=0:=by rw [zOL]
theorem yBP(i:Int):pd (.int i)=true:=by rw [pd]
theorem ySG(i:List Nat):pd (.str i)=true:=by rw [pd]
theorem zVQ(i:Int):dpt (.int i)=0:=by simp [dpt]
theorem yNL(i:List Nat):dpt (.str i)=0:=by simp [dpt]
theorem zVR: ∀{ds:List MV},(∀d∈ds,pd d=true)->pdL ds=true
 |[],_=>yDL
 |d::ds,h=>by rw [zLJ,h d mF0,zVR λe he=>h e (mO _ he)];rfl
theorem zVS: ∀{ds:List MV},pdL ds=true-> ∀d∈ds,pd d=true
 |[],_,d,h=>by simp at h
 |e::ds,hp,d,h=>by
  rw [zLJ,aE]at hp
  rcases mC.mp h with rfl|h
  ·exact hp.1
  ·exact zVS hp.2 d h
theorem zVT: ∀{ds:List MV}{n:Nat},(∀d∈ds,dpt d<=n)->zOL ds<=n
 |[],n,_=>by rw [zYT];exact zero_le _
 |d::ds,n,h=>by
  rw [zJF]
  have h1:=h d mF0
  have h2:=zVT λe he=>h e (mO _ he)
  omega
theorem zYU: ∀{ds:List MV}, ∀d∈ds,dpt d<=zOL ds
 |[],d,h=>by simp at h
 |e::ds,d,h=>by
  rw [zJF]
  rcases mC.mp h with rfl|h
  ·exact Nat.le_max_left _ _
  ·exact le_trans (zYU d h) (Nat.le_max_right _ _)
theorem zYV{d:MV}(h:pd d=true):(∃i,d=.int i)\/(∃x,d=.str x)\/ ∃ds,d=.tup ds/\pdL ds=true:=by
 cases d with
 |int i=>exact .inl ⟨i,rfl⟩
 |str x=>exact .inr (.inl ⟨x,rfl⟩)
 |tup ds=>exact .inr (.inr ⟨ds,rfl,by rw [<-zVP];exact h⟩)
 |_=>rw [pd]at h<;>first |cases h|(intros;simp)
theorem dec_is{p:Prop}[Decidable p]{q:Prop}[Decidable q](h:p↔q):decide p=decide q:=by
 by_cases hq:q
 ·rw [dT0 hq,dT0 (h.mpr hq)]
 ·rw [dF0 hq,dF0 λz=>hq (h.mp z)]
theorem zRC{e:MV->MV->Option Bool}: ∀{ds es:List MV},(∀d∈ds, ∀f∈es,e d f=some (decide (d=f)))-> ∃bs,prs e ds es=some bs/\(bs.all id&&ds.length==es.length)=decide (ds=es)
 |[],[],_=>⟨[],rfl,by simp⟩
 |[],_::_,_=>⟨[],rfl,by simp⟩
 |_::_,[],_=>⟨[],rfl,by simp⟩
 |d::ds,f::es,h=>by
  obtain⟨bs,h1,h2⟩:=zRC (e:=e) (ds:=ds) (es:=es) λa ha b hb=>h a (mO _ ha) b (mO _ hb)
  refine⟨decide (d=f)::bs,?_,?_⟩
  ·unfold prs
   rw [h d mF0 f mF0,h1]
   rfl
  ·by_cases hd:d=f
   ·subst hd
    rw [all_cons,dT0 rfl]
    simp only [id,Bool.true_and,lC]
    rw [show(ds.length+1==es.length+1)=(ds.length==es.length) by simp,h2]
    exact dec_is (by simp)
   ·rw [all_cons,dF0 hd]
    rw [dF0 (show¬(d::ds=f::es)from λz=>hd (List.cons.inj z).1)]
    rfl
theorem zEM{S:Sto}: ∀(n:Nat){d e:MV},pd d=true->pd e=true->dpt d<n->eqv S n d e=some (decide (d=e))
 |0,d,e,_,_,h=>by omega
 |n+1,d,e,hd,he,h=>by
  rcases zYV hd with⟨i,rfl⟩|⟨x,rfl⟩|⟨ds,rfl,pds⟩<;>rcases zYV he with⟨j,rfl⟩|⟨y,rfl⟩|⟨es,rfl,pes⟩
  ·rw [zVB];exact congrArg some (dec_is (by simp))
  ·rw [yRM,dF0 (by simp)]
  ·rw [dF0 (by simp)];rfl
  ·rw [yRN,dF0 (by simp)]
  ·rw [zLA];exact congrArg some (dec_is (by simp))
  ·rw [dF0 (by simp)];rfl
  ·rw [dF0 (by simp)];rfl
  ·rw [dF0 (by simp)];rfl
  ·rw [zPA]at h
   obtain⟨bs,h1,h2⟩:=zRC (e:=eqv S n) (ds:=ds) (es:=es) λa ha b hb=>zEM n (zVS pds a ha) (zVS pes b hb) (by have:=zYU a ha;omega)
   show((prs (eqv S n) ds es).map λbs=>bs.all id&&ds.length==es.length)=_
   rw [h1]
   show some (bs.all id&&ds.length==es.length)=_
   rw [h2]
   exact congrArg some (dec_is (by simp))
theorem yNM{S:Sto}{d e:MV}(hd:pd d=true)(he:pd e=true)(h:dpt d<40):eqF (.val d) (.val e) S=.ok (.val (.bl (decide (d=e)))) S:=yBD (zEM (zZ+1) hd he (by unfold zZ;omega))
theorem zRD{S:Sto}{d:MV}(hd:pd d=true): ∀{ys:List MV},(∀y∈ys,pd y=true/\dpt y<40)->zXU S zZ d ys=some (ys.map λy=>decide (y=d))
 |[],_=>rfl
 |y::ys,h=>by
  have h1:=h y mF0
  unfold zXU
  rw [zEM zZ h1.1 hd (by unfold zZ;exact h1.2),zRD hd λz hz=>h z (mO _ hz)]
  rfl
theorem yBQ{S:Sto}{l:Nat}{d:MV}{ys:List MV}(hS:S[l]? =some (.lst ys))(hd:pd d=true)(hs: ∀x,d≠.str x)(h: ∀y∈ys,pd y=true/\dpt y<40):inF true (.val d) (.val (.loc l)) S=.ok (.val (.bl (!decide (d∈ys)))) S:=by
 have e1:itemsOf S (.val (.loc l))=some ys:=by unfold itemsOf;exact zEH hS
 have e2:zMJ true (.val d) (.val (.loc l)) S=.ok (.val (.bl (!decide (d∈ys)))) S:=by
  unfold zMJ
  dsimp only
  rw [e1]
  dsimp only
  rw [zRD hd h]
  dsimp only
  rw [iP rfl]
  congr 4
  rw [List.any_map]
  by_cases hm:d∈ys
  ·rw [dT0 hm,any_eq_true]
   exact⟨d,hm,by simp⟩
  ·rw [dF0 hm]
   rw [any_eq_false]
   intro y hy
   simp only [Function.comp,id,decide_eq_true_eq]
   rintro rfl
   exact hm hy
 cases d with
 |str x=>exact absurd rfl (hs x)
 |_=>exact e2
theorem yFY{n:Nat}{F:List MV->Sto->R Er}{rs:List Er}{S T:Sto}{d:MV}{l:Nat}{x:Int}(hn:rs.length=n)(hF:F (zV rs S).1 (zV rs S).2=.ok (.val d) (S.set l (.lst [.int x])++T))(h:lo S.length d)(hd: ∀l,d≠.loc l):zT n F rs S=.ok (.val d) (S.set l (.lst [.int x])):=by
 unfold zT
 rw [iP hn,hF,yG,bok]
 have hL:(S.set l (.lst [.int x])).length=S.length:=length_set
 have hc:zNT S (S.set l (.lst [.int x])++T):=by
  refine⟨by rw [lA,hL];omega,λm hm=>?_⟩
  rw [getElem?_append_left (by rw [hL];exact hm)]
  by_cases e:l=m
  ·subst e
   exact .inr ⟨_,getElem?_set_self hm,yO λe he=>by rw [mS.mp he];exact wQ _ _⟩
  ·exact .inl (getElem?_set_ne e)
 unfold bX
 rw [iP hc]
 have e:(S.set l (.lst [.int x])++T).take S.length=S.set l (.lst [.int x]):=by rw [<-hL];simp
 cases d with
 |loc m=>exact absurd rfl (hd m)
 |_=>dsimp only;rw [iP h,e]
theorem zPB{gf:MV->Rho->Sto->R Rho}{cf:Rho->Sto->R Bool}{ef:Rho->Sto->R Er}{ρb:Rho}{gs:List (Nat×List MV)}{P:MV->Prop}{I:Sto->Prop}:
  ∀{ds:List MV}{S:Sto},(∀d∈ds, ∀S,I S-> ∃ρ1 y S',gf d ρb S=.ok ρ1 S/\cf ρ1 S=.ok true S/\ef ρ1 S=.ok (.val y) S'/\P y/\I S'/\stay gs S')->I S-> ∃out S',yT gf cf ef ρb gs ds S=.ok out S'/\I S'/\out.length=ds.length/\ ∀o∈out,P o
 |[],S,_,h=>⟨[],S,rfl,h,rfl,λo h=>by simp at h⟩
 |d::ds,S,st,h=>by
  obtain⟨ρ1,y,S1,h1,h2,h3,h4,h5,h6⟩:=st d mF0 S h
  obtain⟨out,S2,e,i2,hl,hp⟩:=zPB (ds:=ds) (S:=S1) (λd hd=>st d (mO _ hd)) h5
  refine⟨y::out,S2,?_,i2,by rw [lC,lC,hl],λo ho=>(mC.mp ho).elim (λz=>z▸h4) (hp o)⟩
  unfold yT
  rw [h1,yG,bok,h2,yG,bok,iP rfl,h3,yG,bok]
  unfold cE
  rw [bok,iP h6,e]
  rfl
abbrev SN(S:Sto)(x:Int):Sto:=S++[MO.lst [.int x]]
theorem yDM(S:Sto)(x:Int):(SN S x)[S.length]? =some (.lst [.int x]):=by simp
theorem zVU(S:Sto)(x y:Int):List.set (SN S x) S.length (MO.lst [.int y])=SN S y:=by simp
theorem zFP(S:Sto)(x:Int){n:Int}(h0:0<n)(h1:n<1073741824):zT 2 zK [.val (.loc S.length),.val (.int n)] (SN S x)=.ok (.val (.int (x % n))) (SN S (x / n)):=by
 have:=zCB (n:=n) (yDM S x) h0 h1
 rw [zVU]at this
 exact this
theorem zEN(x:Int){n:Nat}(h:0<n): ∃t:Nat,x % (n:Int)=t/\t<n:=by
 have h0:0<=x % (n:Int):=eN _ (by omega)
 have h1:x % (n:Int)<n:=eL _ (by omega)
 obtain⟨t,ht⟩:=Int.eq_ofNat_of_zero_le h0
 exact⟨t,ht,by omega⟩
theorem zLK{S:Sto}{gf:MV->Rho->Sto->R Rho}{cf:Rho->Sto->R Bool}{ef:Rho->Sto->R Er}{ρb:Rho}{gs:List (Nat×List MV)}{p:MV->Bool}(hs:stay gs S):
  ∀{ds:List MV},(∀d∈ds, ∃ρ1,gf d ρb S=.ok ρ1 S/\cf ρ1 S=.ok (p d) S/\ef ρ1 S=.ok (.val d) S)->yT gf cf ef ρb gs ds S=.ok (ds.filter p) S
 |[],_=>rfl
 |d::ds,st=>by
  obtain⟨ρ1,h1,h2,h3⟩:=st d mF0
  have e:=zLK hs (p:=p) (ds:=ds) λd hd=>st d (mO _ hd)
  unfold yT
  cases hp:p d with
  |true=>
   rw [h1,yG,bok,h2,yG,bok,hp,iP rfl,h3,yG,bok]
   unfold cE
   rw [bok,iP hs,e,filter_cons_of_pos hp]
   rfl
  |false=>
   rw [h1,yG,bok,h2,yG,bok,hp,iN xF0,iP hs,e,filter_cons_of_neg (by rw [hp];exact xF0)]
theorem yNN(neg:Bool)(p:Er)(l:Nat)(S:Sto):inF neg p (.val (.loc l)) S=zMJ neg p (.val (.loc l)) S:=by
 unfold inF
 split
 ·rename_i h;cases h
 ·rfl
theorem yNO{S:Sto}{l:Nat}{d:MV}{ys:List MV}(neg:Bool)(hS:S[l]? =some (.lst ys))(hd:pd d=true)(h: ∀y∈ys,pd y=true/\dpt y<40):inF neg (.val d) (.val (.loc l)) S=.ok (.val (.bl (if neg=true then !decide (d∈ys)else decide (d∈ys)))) S:=by
 have e1:itemsOf S (.val (.loc l))=some ys:=by unfold itemsOf;exact zEH hS
 rw [yNN]
 unfold zMJ
 dsimp only
 rw [e1]
 dsimp only
 rw [zRD hd h]
 dsimp only
 have ha:(ys.map λy=>decide (y=d)).any id=decide (d∈ys):=by
  rw [List.any_map]
  by_cases hm:d∈ys
  ·rw [dT0 hm,any_eq_true]
   exact⟨d,hm,by simp⟩
  ·rw [dF0 hm]
   rw [any_eq_false]
   intro y hy
   simp only [Function.comp,id,decide_eq_true_eq]
   rintro rfl
   exact hm hy
 rw [ha]
theorem yBR{S:Sto}{l:Nat}{ds:List MV}(h:S[l]? =some (.lst ds)):eqF (.val (.loc l)) (.new []) S=.ok (.val (.bl ds.isEmpty)) S:=by
 have hv:vwE S (.val (.loc l))=some (.ls ds):=by
  show(jB S (.val (.loc l))).map Vw.ls=_
  rw [zEH h];rfl
 unfold eqF zMI
 rw [hv]
 cases ds<;>rfl
theorem zND{α:Type}(ds:List α)(j:Nat):gS ds none (some (j:Int))=ds.take j:=by
 unfold gS
 rw [HT.sIx_nat,show HT.sIx ds.length 0 none=0 from rfl,List.drop_zero,Nat.sub_zero]
 by_cases h:j<=ds.length
 ·rw [min_eq_left h]
 ·rw [Nat.min_eq_right (by omega),take_of_length_le (le_refl _),take_of_length_le (by omega)]
theorem yFZ{α:Type}(ds:List α)(j:Nat):gS ds (some (j:Int)) none=ds.drop j:=by
 unfold gS
 rw [HT.sIx_nat,show HT.sIx ds.length ds.length none=ds.length from rfl]
 by_cases h:j<=ds.length
 ·rw [min_eq_left h,take_of_length_le (by rw [length_drop];exact le_refl _)]
 ·rw [Nat.min_eq_right (by omega),List.drop_of_length_le (le_refl _),List.drop_of_length_le (show ds.length<=j by omega),List.take_nil]
abbrev Wl(S:Sto)(l:Nat)(x:Int):Sto:=S.set l (.lst [.int x])
theorem yBS{S:Sto}{l:Nat}(h:l<S.length)(x:Int):(Wl S l x)[l]? =some (.lst [.int x]):=getElem?_set_self h
theorem yJJ{S:Sto}{l m:Nat}(h:l≠m)(x:Int):(Wl S l x)[m]? =S[m]? :=getElem?_set_ne h
theorem yJK(S:Sto)(l:Nat)(x y:Int):(Wl S l x).set l (.lst [.int y])=Wl S l y:=List.set_set ..
theorem zFQ(S:Sto)(l:Nat)(x:Int):(Wl S l x).length=S.length:=length_set ..
theorem yDN(S:Sto)(x:Int):S++[.lst [.int x]]=Wl (S++[.lst []]) S.length x:=by simp [Wl]
theorem zNE{S:Sto}{l:Nat}(h:l<S.length)(x:Int)(T:Sto):Wl S l x++T=Wl (S++T) l x:=by
 unfold Wl
 rw [set_append_left _ _ h]
theorem yJL{S:Sto}{l:Nat}(h:l<S.length)(x:Int)(o o':MO):(Wl (S++[o]) l x).set S.length o'=Wl (S++[o']) l x:=by
 unfold Wl
 rw [set_append_left _ _ h,set_append_left _ _ h]
 rw [List.set_append_right _ _ (by rw [length_set];exact le_refl _),length_set,sub_self]
 rfl
theorem zPC{S:Sto}{l:Nat}(h:l<S.length)(x:Int)(o:MO):(Wl (S++[o]) l x)[S.length]? =some o:=by
 rw [yJJ (ne_of_lt h)];simp
theorem ySH{S:Sto}{l:Nat}(x:Int)(T:Sto):zNT S (Wl S l x++T):=by
 refine⟨by rw [lA,zFQ];exact Nat.le_add_right _ _,λm hm=>?_⟩
 rw [getElem?_append_left (by rw [zFQ];exact hm)]
 by_cases e:l=m
 ·subst e
  exact .inr ⟨_,yBS hm x,yO λe he=>by rw [mS.mp he];exact wQ _ _⟩
 ·exact .inl (yJJ e x)
theorem yNP{S:Sto}{l:Nat}(y x:Int)(T:Sto):zNT (Wl S l y) (Wl S l x++T):=by
 have:=ySH (S:=Wl S l y) (l:=l) x T
 rw [show Wl (Wl S l y) l x=Wl S l x from yJK S l y x]at this
 exact this
theorem yNQ(S:Sto)(l:Nat)(x:Int)(T:Sto){n:Nat}(h:n=S.length):(Wl S l x++T).take n=Wl S l x:=by
 rw [h,List.take_append_of_le_length (by rw [zFQ];exact le_refl _),take_of_length_le (by rw [zFQ];exact le_refl _)]
theorem yNR{n:Nat}{F:List MV->Sto->R Er}{rs:List Er}{S T:Sto}{l:Nat}{x y:Int}{d:MV}(hn:rs.length=n)(hF:F (zV rs (Wl S l x)).1 (zV rs (Wl S l x)).2=.ok (.val d) (Wl S l y++T))(h:lo S.length d)(hd: ∀l,d≠.loc l):zT n F rs (Wl S l x)=.ok (.val d) (Wl S l y):=by
 unfold zT
 rw [iP hn,hF,yG,bok]
 unfold bX
 rw [iP (yNP x y T)]
 have e:=yNQ S l y T (n:=(Wl S l x).length) (zFQ S l x)
 have h':lo (Wl S l x).length d:=by rw [zFQ];exact h
 cases d with
 |loc m=>exact absurd rfl (hd m)
 |_=>dsimp only;rw [iP h',e]
theorem yJM{n:Nat}{F:List MV->Sto->R Er}{rs:List Er}{S T:Sto}{r:Er}{ds:List MV}{as:List MV}{S2:Sto}(hn:rs.length=n)(hE:zV rs S=(as,S2))(hF:F as S2=.ok r (S++T))(hr:r=.new ds\/ ∃l,r=.val (.loc l)/\S.length<=l/\(S++T)[l]? =some (.lst ds))(h:loL S.length ds):zT n F rs S=.ok (.new ds) S:=by
 have hF':F (zV rs S).1 (zV rs S).2=.ok r (S++T):=by rw [hE];exact hF
 rcases hr with rfl|⟨l,rfl,h1,h2⟩
 ·exact zHH hn hF' h
 ·exact yIT hn hF' h1 h2 h
theorem zIH{S:Sto}{l:Nat}{x n:Int}(hl:l<S.length)(h0:0<n)(h1:n<1073741824):zT 2 zK [.val (.loc l),.val (.int n)] (Wl S l x)=.ok (.val (.int (x % n))) (Wl S l (x / n)):=by
 have:=zCB (n:=n) (yBS hl x) h0 h1
 rw [yJK]at this
 exact this
def abc:List Nat:=[97,98,99,100,101,102,103,104,105,106,107,108,109,110,111,112,113,114,115,116,117,118,119,120,121,122]
theorem zCC{d:MV}(h:Vl d):pd d=true/\dpt d=0:=by
 rcases h.cases with⟨i,rfl,_⟩|⟨x,rfl,_⟩
 ·exact⟨yBP i,zVQ i⟩
 ·exact⟨ySG x,yNL x⟩
theorem len_str{x:List Nat}(h:x.length<=1000)(S:Sto):dX [.val (.str x)] S=.ok (.val (.int x.length)) S:=iP (fits (by omega))
theorem adds{x y:List Nat}(h:x.length+y.length<=1000)(S:Sto):jM (.val (.str x)) (.val (.str y)) S=.ok (.val (.str (x++y))) S:=add_str (fits (by omega))
theorem ySI(x:List Nat)(S:Sto):zQE (.val (.str x)) S=true:=rfl
theorem zRE(x:List Nat)(r:List (List Nat)):zBR [] (x::r)=x++zBR [] r:=by
 cases r with
 |nil=>show x=x++[];rw [aN]
 |cons y r=>show x++[]++zBR [] (y::r)=_;rw [aN]
theorem yDO: ∀{ds:List MV},(∀d∈ds, ∃c,d=MV.str [c]/\97<=c/\c<=122)-> ∃zs,zEX ds=some zs/\zs.length=ds.length/\(∀z∈zs,z.length=1)/\(zBR [] zs).length=ds.length/\ ∀c∈zBR [] zs,97<=c/\c<=122
 |[],_=>⟨[],rfl,rfl,by simp,rfl,by intro c hc;simp [zBR]at hc⟩
 |d::ds,h=>by
  obtain⟨c,rfl,hc⟩:=h d mF0
  obtain⟨zs,h1,h2,h3,h4,h5⟩:=yDO (ds:=ds) λe he=>h e (mO _ he)
  refine⟨[c]::zs,?_,by rw [lC,lC,h2],λz hz=>?_,by rw [zRE,lA,h4];simp [Nat.add_comm],λe he=>?_⟩
  ·unfold zEX;rw [h1];rfl
  ·rcases mC.mp hz with rfl|hz
   ·rfl
   ·exact h3 z hz
  ·rw [zRE]at he
   rcases mem_append.mp he with he|he
   ·rw [mS.mp he];exact hc
   ·exact h5 e he
theorem yNS{ds:List MV}(h: ∀d∈ds, ∃c,d=MV.str [c]/\97<=c/\c<=122)(hl:ds.length<=8)(S:Sto): ∃w:List Nat,w.length=ds.length/\(∀c∈w,97<=c/\c<=122)/\zTQ (.val (.str [])) [.new ds] S=.ok (.val (.str w)) S:=by
 obtain⟨zs,h1,h2,h3,h4,h5⟩:=yDO h
 refine⟨zBR [] zs,h4,h5,?_⟩
 unfold zTQ
 dsimp only
 rw [show jB S (.new ds)=some ds from rfl]
 dsimp only
 rw [h1]
 dsimp only
 rw [iP ⟨by show 0<=100;decide,by omega,λz hz=>by rw [h3 z hz];decide⟩]
def isSt:MV->Bool
 |.str _=>true
 |_=>false
abbrev W7(l lp:Nat)(x2 x3 x4 x5 x6:Option MV):Rho:=[some (.loc l),some (.loc lp),x2,x3,x4,x5,x6]
theorem yNT{S:Sto}{l lp:Nat}{x:Int}{vs:List MV}(hl:l<S.length)(hne:l≠lp)(hV: ∀d∈vs,Vl d)(hvl:vs.length<1000)(hP:S[lp]? =some (.lst vs)):
  ∃y x',Nm y/\zT 2 kU [.val (.loc l),.val (.loc lp)] (Wl S l x)=.ok (.val (.str y)) (Wl S l x'):=by
 have hs:zR dL [.loc l,.loc lp]=W7 l lp none none none none none:=rfl
 have hP':(Wl S l x)[lp]? =some (.lst vs):=by rw [yJJ hne];exact hP
 have e1:zJS (W7 l lp none none none none none) (Wl S l x)=.ok (.next (W7 l lp (some (.str abc)) none none none none)) (Wl S l x):=rfl
 have hc:yT (gNm 0) nE zGL [none] [(lp,vs)] vs (Wl S l x)=.ok (vs.filter isSt) (Wl S l x):=zLK (wZ hP') λd hd=>⟨[some d],rfl,by
  unfold nE
  rcases (hV d hd).cases with⟨i,rfl,_⟩|⟨y,rfl,_⟩<;>(simp? [bok];rfl),rfl⟩
 have hN: ∀d∈vs.filter isSt, ∃q,d=.str q/\Nm q:=λd hd=>by
  have hm:=mem_filter.mp hd
  rcases (hV d hm.1).cases with⟨i,rfl,_⟩|⟨y,rfl,hy⟩
  ·have:=hm.2;cases this
  ·exact⟨y,rfl,hy⟩
 generalize vs.filter isSt=ns at hN hc
 have hl2:l<(S++[MO.lst ns]).length:=by rw [lA];omega
 have e2:zCT (W7 l lp (some (.str abc)) none none none none) (Wl S l x)=.ok (.next (W7 l lp (some (.str abc)) (some (.loc S.length)) none none none)) (Wl (S++[.lst ns]) l x):=by
  unfold zCT
  simp? [jC hP',show(vs.length<1000000)=True from eq_true (by omega),show blk 1 [] (W7 l lp (some (.str abc)) none none none none)=[none]from rfl,hc,zFQ,zNE hl]
 have hnm: ∀z,(Wl (S++[MO.lst ns]) l z)[S.length]? =some (.lst ns):=λz=>zPC hl z _
 have hm0:0<=x % 8:=eN _ (by decide)
 have hm1:x % 8<8:=eL _ (by decide)
 obtain⟨out,S',e,⟨z1,rfl⟩,hol,hop⟩:=zPB (gf:=gNm 0) (cf:=zGM) (ef:=nF) (ρb:=[none,some (.loc l),some (.str abc)]) (gs:=[]) (P:=λy=> ∃c,y=MV.str [c]/\97<=c/\c<=122) (I:=λS'=> ∃z,S'=Wl (S++[.lst ns]) l z) (ds:=(List.range (1+x % 8).toNat).map λk=>MV.int (k:Nat)) (S:=Wl (S++[.lst ns]) l (x / 8)) (λd hd S1 ⟨z,hz⟩=>by
  subst hz
  obtain⟨k,hk⟩:=cZ (xs:=abc) (i:=z % 26) (eN _ (by decide)) (by have:=eL z (show(0:Int)<26 by decide);show z % 26<26;exact this)
  refine⟨[some d,some (.loc l),some (.str abc)],.str [k],Wl (S++[.lst ns]) l (z / 26),rfl,rfl,?_,⟨k,rfl,dA (P:=λk=>97<=k/\k<=122) (by decide) hk⟩,⟨_,rfl⟩,kL _⟩
  unfold nF
  simp? [zIH hl2 (show(0:Int)<26 by decide) (by decide),ix_str (show abc.length<=sizeLine by rw [sizeLine_eq];decide) hk]) ⟨_,rfl⟩
 rw [lM,length_range]at hol
 obtain⟨w,hw1,hw2,hw3⟩:=yNS hop (by omega) (Wl (S++[.lst ns]) l z1)
 have hwn:Nm w:=⟨by omega,by omega,hw2⟩
 have e3:zCU (W7 l lp (some (.str abc)) (some (.loc S.length)) none none none) (Wl (S++[.lst ns]) l x)=.ok (.next (W7 l lp (some (.str abc)) (some (.loc S.length)) (some (.str w)) none none)) (Wl (S++[.lst ns]) l z1):=by
  unfold zCU
  simp? [ySI,zIH hl2 (show(0:Int)<8 by decide) (by decide),dY (S:=Wl (S++[.lst ns]) l (x / 8)) (j:=1+x % 8) (by omega),show(((List.range (1+x % 8).toNat).map λk=>MV.int (k:Nat)).length<1000000)=True from eq_true (by rw [lM,length_range];omega),show blk 1 [0,2] (W7 l lp (some (.str abc)) (some (.loc S.length)) none none none)=[none,some (.loc l),some (.str abc)]from rfl,e,hw3]
 have e4:zCV (W7 l lp (some (.str abc)) (some (.loc S.length)) (some (.str w)) none none) (Wl (S++[.lst ns]) l z1)=.ok (.next (W7 l lp (some (.str abc)) (some (.loc S.length)) (some (.str w)) (some (.int (z1 % 3))) none)) (Wl (S++[.lst ns]) l (z1 / 3)):=by
  unfold zCV
  simp? [zIH hl2 (show(0:Int)<3 by decide) (by decide)]
 have e5:zCW (W7 l lp (some (.str abc)) (some (.loc S.length)) (some (.str w)) (some (.int (z1 % 3))) none) (Wl (S++[.lst ns]) l (z1 / 3))=if(decide (z1 % 3=0) || ns.isEmpty)=true then .ok (.ret (.val (.str w))) (Wl (S++[.lst ns]) l (z1 / 3))else .ok (.next (W7 l lp (some (.str abc)) (some (.loc S.length)) (some (.str w)) (some (.int (z1 % 3))) none)) (Wl (S++[.lst ns]) l (z1 / 3)):=by
  unfold zCW
  cases hb:decide (z1 % 3=0)<;>cases hn:ns.isEmpty<;>(simp? [hb,yBR (hnm _),hn];rfl)
 have fin: ∀y z,Nm y->dP (W7 l lp none none none none none) (Wl S l x)=.ok (.ret (.val (.str y))) (Wl (S++[.lst ns]) l z)-> ∃y x',Nm y/\zT 2 kU [.val (.loc l),.val (.loc lp)] (Wl S l x)=.ok (.val (.str y)) (Wl S l x'):=λy z hy h=>by
  refine⟨y,z,hy,yNR (T:=[.lst ns]) rfl ?_ (zHG _ _) (λl=>by simp)⟩
  show kU [.loc l,.loc lp] (Wl S l x)=_
  unfold kU
  rw [hs,h,zNE hl]
  rfl
 cases hb:(decide (z1 % 3=0) || ns.isEmpty)with
 |true=>
  rw [hb,iP rfl]at e5
  refine fin w (z1 / 3) hwn ?_
  unfold dP
  rw [zC e1,zC e2,zC e3,zC e4,yR e5]
 |false=>
  rw [hb,iN xF0]at e5
  have hne0:ns≠[]:=λz=>by rw [z]at hb;simp at hb
  obtain⟨d,hd⟩:=yMO (xs:=ns) (i:= -1) (by have:=List.length_pos_iff.mpr hne0;omega) (by omega)
  obtain⟨q,rfl,hq⟩:=dA (P:=λd=> ∃q,d=MV.str q/\Nm q) hN hd
  have q1:=hq.1
  have q2:=hq.2.1
  have w1:=hwn.1
  have w2:=hwn.2.1
  have ixl: ∀z,ixF (.val (.loc S.length)) (.val (.int (-1))) (Wl (S++[MO.lst ns]) l z)=.ok (.val (.str q)) (Wl (S++[MO.lst ns]) l z):=λz=>zHI (hnm z) hd
  have lq: ∀S,dX [.val (.str q)] S=.ok (.val (.int q.length)) S:=len_str (by omega)
  have hmin: ∀S,minF [.val (.int 8),.val (.int ((q.length:Int)+1))] S=.ok (.val (.int (min 8 (q.length+1):Nat))) S:=λS=>by
   show R.ok (Er.val (.int (if(q.length:Int)+1<8 then(q.length:Int)+1 else 8))) S=_
   congr 3
   split<;>omega
  have e6:zCX (W7 l lp (some (.str abc)) (some (.loc S.length)) (some (.str w)) (some (.int (z1 % 3))) none) (Wl (S++[.lst ns]) l (z1 / 3))=if decide (z1 % 3=1)=true then .ok (.ret (.val (.str ((q++w).take (min 8 (q.length+1)))))) (Wl (S++[.lst ns]) l (z1 / 3))else .ok (.next (W7 l lp (some (.str abc)) (some (.loc S.length)) (some (.str w)) (some (.int (z1 % 3))) none)) (Wl (S++[.lst ns]) l (z1 / 3)):=by
   unfold zCX
   simp? [ixl,adds (x:=q) (y:=w) (by omega),lq,hmin,cut_str (S:=Wl (S++[MO.lst ns]) l (z1 / 3)) (fits (show(q++w).length<=1000000 by rw [lA];omega)),zND]
  cases h1:decide (z1 % 3=1)with
  |true=>
   rw [h1,iP rfl]at e6
   refine fin ((q++w).take (min 8 (q.length+1))) (z1 / 3) ⟨?_,?_,λc hc=>?_⟩ ?_
   ·rw [lT,lA];omega
   ·rw [lT];omega
   ·rcases mem_append.mp (List.mem_of_mem_take hc)with h|h
    ·exact hq.2.2 c h
    ·exact hw2 c h
   ·unfold dP
    rw [zC e1,zC e2,zC e3,zC e4,zC e5,yR e6]
  |false=>
   rw [h1,iN xF0]at e6
   obtain⟨t,ht,htl⟩:=zEN (z1 / 3) (n:=q.length) (by omega)
   have e7:zCY (W7 l lp (some (.str abc)) (some (.loc S.length)) (some (.str w)) (some (.int (z1 % 3))) none) (Wl (S++[.lst ns]) l (z1 / 3))=.ok (.next (W7 l lp (some (.str abc)) (some (.loc S.length)) (some (.str w)) (some (.int (z1 % 3))) (some (.int (t:Nat))))) (Wl (S++[.lst ns]) l (z1 / 3 / (q.length:Int))):=by
    unfold zCY
    simp? [ixl,lq,zIH (x:=z1 / 3) hl2 (show(0:Int)<(q.length:Int) by omega) (by omega),ht]
   obtain⟨c,hc⟩:=cZ (xs:=w) (i:=0) (by decide) (by omega)
   have e8:zCZ (W7 l lp (some (.str abc)) (some (.loc S.length)) (some (.str w)) (some (.int (z1 % 3))) (some (.int (t:Nat)))) (Wl (S++[.lst ns]) l (z1 / 3 / (q.length:Int)))=.ok (.ret (.val (.str (q.take t++[c]++q.drop (t+1))))) (Wl (S++[.lst ns]) l (z1 / 3 / (q.length:Int))):=by
    have c2:gS q (some ((t:Int)+1)) none=q.drop (t+1):=yFZ q (t+1)
    unfold zCZ
    simp? [ixl,cut_str (S:=Wl (S++[MO.lst ns]) l (z1 / 3 / (q.length:Int))) (fits (show q.length<=1000000 by omega)),zND,c2,ix_str (S:=Wl (S++[MO.lst ns]) l (z1 / 3 / (q.length:Int))) (fits (show w.length<=1000000 by omega)) hc,adds (x:=q.take t) (y:=[c]) (by rw [lT,lS];omega),adds (x:=q.take t++[c]) (y:=q.drop (t+1)) (by rw [lA,lT,length_drop,lS];omega)]
   refine fin (q.take t++[c]++q.drop (t+1)) (z1 / 3 / (q.length:Int)) ⟨?_,?_,λa ha=>?_⟩ ?_
   ·simp only [lA,lS];omega
   ·simp only [lA,lS,lT,length_drop];omega
   ·rcases mem_append.mp ha with h|h
    ·rcases mem_append.mp h with h|h
     ·exact hq.2.2 a (List.mem_of_mem_take h)
     ·rw [mS.mp h];exact dA (P:=λk=>97<=k/\k<=122) hw2 hc
    ·exact hq.2.2 a (List.mem_of_mem_drop h)
   ·unfold dP
    rw [zC e1,zC e2,zC e3,zC e4,zC e5,zC e6,zC e7,e8]
theorem ySJ(S:Sto)(a b:MO):(S++[a,b])[S.length+1]? =some b:=by
 rw [getElem?_append_right (by omega),show S.length+1 - S.length=1 by omega]
 rfl
theorem ySK{S:Sto}{l:Nat}{x n:Int}(hl:l<S.length)(h0:0<n)(hd: ∀(a:Int)(S:Sto),zXS (.val (.int a)) (.val (.int n)) S=.ok (.val (.int (a / n))) S):zT 2 zK [.val (.loc l),.val (.int n)] (Wl S l x)=.ok (.val (.int (x % n))) (Wl S l (x / n)):=by
 have:=zYS (n:=n) (yBS hl x) h0 hd
 rw [yJK]at this
 exact this
abbrev PP(c:MV)(l m:Nat)(k w v:Option MV):Rho:=[some c,some (.loc l),some (.loc m),k,w,v]
section
variable{S:Sto}{l m:Nat}{x:Int}{vs:List MV}{k w v:Option MV}{c:MV}
theorem po3{n v:Int}(hl:l<S.length)(hv:Vl (.int v)): ∃v' z,Vl (.int v')/\gB (PP c l m k (some (.int n)) (some (.int v))) (Wl S l x)=.ok (.next (PP c l m k (some (.int n)) (some (.int v')))) (Wl S l z):=by
 have h0:0<=x % (2 * 10 ^ 30 - 1):=eN _ (by decide)
 have h1:x % (2 * 10 ^ 30 - 1)<2 * 10 ^ 30 - 1:=eL _ (by decide)
 have e:gB (PP c l m k (some (.int n)) (some (.int v))) (Wl S l x)=if decide (n=0)=true then .ok (.next (PP c l m k (some (.int n)) (some (.int (x % (2 * 10 ^ 30 - 1) - 10 ^ 30+1))))) (Wl S l (x / (2 * 10 ^ 30 - 1)))else .ok (.next (PP c l m k (some (.int n)) (some (.int v)))) (Wl S l x):=by
  unfold gB
  simp? [pp30,zQH (show -(2 ^ 64)<(2:Int)/\(2:Int)<2 ^ 64 by decide),ySK (x:=x) hl (show(0:Int)<2 * 10 ^ 30 - 1 by decide) (yNK (show yEY 0 (2 * 10 ^ 30 - 1) by decide+kernel))]
 by_cases h:n=0
 ·rw [dT0 h,iP rfl]at e
  exact⟨_,_,⟨by omega,by omega⟩,e⟩
 ·rw [dF0 h,iN xF0]at e
  exact⟨v,x,hv,e⟩
theorem po4{n:Int}{v:MV}(hl:l<S.length)(hne:l≠m)(hV: ∀d∈vs,Vl d)(hvl:vs.length<1000)(hP:S[m]? =some (.lst vs))(hv:Vl v): ∃v' z,Vl v'/\gC (PP c l m k (some (.int n)) (some v)) (Wl S l x)=.ok (.next (PP c l m k (some (.int n)) (some v'))) (Wl S l z):=by
 obtain⟨y,z,hy,hc⟩:=yNT (S:=S) (l:=l) (x:=x) hl hne hV hvl hP
 have e:gC (PP c l m k (some (.int n)) (some v)) (Wl S l x)=if(decide (n=1) || decide (n=2))=true then .ok (.next (PP c l m k (some (.int n)) (some (.str y)))) (Wl S l z)else .ok (.next (PP c l m k (some (.int n)) (some v))) (Wl S l x):=by
  unfold gC
  cases h1:decide (n=1)<;>cases h2:decide (n=2)<;>(simp? [h1,h2,hc,fT0,iF];try rfl)
 cases h:(decide (n=1) || decide (n=2))with
 |true=>
  rw [h,iP rfl]at e
  exact⟨_,_,show Vl (.str y)from hy,e⟩
 |false=>
  rw [h,iN xF0]at e
  exact⟨v,x,hv,e⟩
theorem yGA(hl:l<S.length)(hV: ∀d∈vs,Vl d)(hn:vs.length<100): ∃vs' w' v' z,(∀d∈vs',Vl d)/\vs'.length<=vs.length+1/\1<=vs'.length/\jT (PP c l S.length k w v) (Wl (S++[.lst vs]) l x)=.ok (.next (PP c l S.length k w' v')) (Wl (S++[.lst vs']) l z):=by
 have hl2:l<(S++[MO.lst vs]).length:=by rw [lA];omega
 have hv0:Vl (.int (x / 4 % 9 - 4)):=by
  have h0:0<=x / 4 % 9:=eN _ (by decide)
  have h1:x / 4 % 9<9:=eL _ (by decide)
  exact⟨by omega,by omega⟩
 have e1:nG (PP c l S.length k w v) (Wl (S++[.lst vs]) l x)=.ok (.next (PP c l S.length k (some (.int (x % 4))) v)) (Wl (S++[.lst vs]) l (x / 4)):=by
  unfold nG
  simp? [zIH hl2 (show(0:Int)<4 by decide) (by decide)]
 have e2:nH (PP c l S.length k (some (.int (x % 4))) v) (Wl (S++[.lst vs]) l (x / 4))=.ok (.next (PP c l S.length k (some (.int (x % 4))) (some (.int (x / 4 % 9 - 4))))) (Wl (S++[.lst vs]) l (x / 4 / 9)):=by
  unfold nH
  simp? [zIH hl2 (show(0:Int)<9 by decide) (by decide)]
 obtain⟨v3,z3,hv3,e3⟩:=po3 (c:=c) (m:=S.length) (k:=k) (n:=x % 4) (x:=x / 4 / 9) hl2 hv0
 obtain⟨v4,z4,hv4,e4⟩:=po4 (c:=c) (m:=S.length) (k:=k) (n:=x % 4) (x:=z3) (vs:=vs) hl2 (ne_of_lt hl) hV (by omega) (by simp) hv3
 have hS:(Wl (S++[.lst vs]) l z4)[S.length]? =some (.lst vs):=zPC hl z4 _
 have e5:nI (PP c l S.length k (some (.int (x % 4))) (some v4)) (Wl (S++[.lst vs]) l z4)=if(!decide (v4∈vs))=true then .ok (.next (PP c l S.length k (some (.int (x % 4))) (some v4))) (Wl (S++[.lst (vs++[v4])]) l z4)else .ok (.next (PP c l S.length k (some (.int (x % 4))) (some v4))) (Wl (S++[.lst vs]) l z4):=by
  unfold nI
  simp? [yNO true hS (zCC hv4).1 λy hy=>⟨(zCC (hV y hy)).1,by rw [(zCC (hV y hy)).2];decide⟩,zJD hS,zJC hS (show vs.length<1000000 by omega),yJL hl]
 by_cases h:v4∈vs
 ·rw [dT0 h,Bool.not_true,iN xF0]at e5
  refine⟨vs,some (.int (x % 4)),some v4,z4,hV,le_succ _,List.length_pos_of_mem h,?_⟩
  unfold jT
  rw [zC e1,zC e2,zC e3,zC e4,e5]
 ·rw [dF0 h,Bool.not_false,iP rfl]at e5
  refine⟨vs++[v4],some (.int (x % 4)),some v4,z4,λd hd=>?_,by rw [lA];exact le_refl _,by rw [lA];exact Nat.le_add_left _ _,?_⟩
  ·rcases mem_append.mp hd with hd|hd
   ·exact hV d hd
   ·rw [mS.mp hd];exact hv4
  ·unfold jT
   rw [zC e1,zC e2,zC e3,zC e4,e5]
end
def VOk(vs:List MV):Prop:=1<=vs.length/\vs.length<=4/\ ∀d∈vs,Vl d
theorem yNU(q:Int)(S:Sto): ∃vs,VOk vs/\zT 1 gO [.val (.int q)] S=.ok (.new vs) S:=by
 obtain⟨t,hw⟩:=zLI q 1 ⟨by decide,by decide⟩ S
 have hlS:S.length<(S++[MO.lst []]).length:=by rw [lA];exact lt_succ_self _
 have hm0:0<=t % 3:=eN _ (by decide)
 have hm1:t % 3<3:=eL _ (by decide)
 have hs:zR zHM [.int q]=[some (.int q),none,none,none,none,none]:=rfl
 have e1:zDA [some (.int q),none,none,none,none,none] S=.ok (.next [some (.int q),some (.loc S.length),none,none,none,none]) (Wl (S++[.lst []]) S.length t):=by
  unfold zDA
  simp? [hw]
  rw [yDN]
 have e2:zDB [some (.int q),some (.loc S.length),none,none,none,none] (Wl (S++[.lst []]) S.length t)=.ok (.next (PP (.int q) S.length (S.length+1) none none none)) (Wl (S++[.lst []]++[.lst []]) S.length t):=by
  unfold zDB
  simp? [zFQ,zNE hlS]
  rw [lA]
  rfl
 have hlen:((List.range (2+t % 3).toNat).map λk=>MV.int (k:Nat)).length=(2+t % 3).toNat:=by rw [lM,length_range]
 obtain⟨ρ',S',e,vs,z,k',w',v',hρ,hS',hV,h1,h2⟩:=zKA (L:=(List.range (2+t % 3).toNat).map λk=>MV.int (k:Nat)) (gf:=gNm 3) (body:=jT) (gs:=[]) (S:=Wl (S++[.lst []]++[.lst []]) S.length (t / 3)) (ρ:=PP (.int q) S.length (S.length+1) none none none)
  (λi ρ S'=> ∃(vs:List MV)(z:Int)(k' w' v':Option MV),ρ=PP (.int q) S.length (S.length+1) k' w' v'/\S'=Wl (S++[.lst []]++[.lst vs]) S.length z/\(∀d∈vs,Vl d)/\vs.length<=i/\(i=0\/1<=vs.length)) (λi d hi ρ S1 ⟨vs,z,k',w',v',hρ,hS1,hV,h1,h2⟩=>by
   subst hρ hS1
   have hil:i<5:=by have:=(gS0.mp hi).1;omega
   obtain⟨vs',w2,v2,z2,hV',h1',h2',hb⟩:=yGA (c:=.int q) (S:=S++[.lst []]) (l:=S.length) (x:=z) (vs:=vs) (k:=some d) (w:=w') (v:=v') hlS hV (by omega)
   rw [lA]at hb
   refine⟨PP (.int q) S.length (S.length+1) (some d) w2 v2,_,?_,kL _,vs',z2,some d,w2,v2,rfl,rfl,hV',by omega,.inr h2'⟩
   rw [show gNm 3 d (PP (.int q) S.length (S.length+1) k' w' v') (Wl (S++[.lst []]++[.lst vs]) S.length z)=.ok (PP (.int q) S.length (S.length+1) (some d) w' v') (Wl (S++[.lst []]++[.lst vs]) S.length z)from rfl,bok]
   exact hb) ⟨[],t / 3,none,none,none,rfl,rfl,by simp,le_refl _,.inl rfl⟩
 subst hρ hS'
 rw [hlen]at h1 h2
 have hl3:S.length<(S++[MO.lst []]++[MO.lst []]).length:=by simp only [lA,lC,length_nil];omega
 have e3:zDC (PP (.int q) S.length (S.length+1) none none none) (Wl (S++[.lst []]++[.lst []]) S.length t)=.ok (.next (PP (.int q) S.length (S.length+1) k' w' v')) (Wl (S++[.lst []]++[.lst vs]) S.length z):=by
  unfold zDC
  simp? [zIH hl3 (show(0:Int)<3 by decide) (by decide),dY (S:=Wl (S++[.lst []]++[.lst []]) S.length (t / 3)) (j:=2+t % 3) (by omega)]
  exact e
 have e4:zDD (PP (.int q) S.length (S.length+1) k' w' v') (Wl (S++[.lst []]++[.lst vs]) S.length z)=.ok (.ret (.val (.loc (S.length+1)))) (Wl (S++[.lst []]++[.lst vs]) S.length z):=by
  unfold zDD
  simp? [bok]
 have hF:gO [.int q] S=.ok (.val (.loc (S.length+1))) (S++[.lst [.int z],.lst vs]):=by
  unfold gO zNX
  rw [hs,zC e1,zC e2,zC e3,e4]
  show R.ok _ _=_
  congr 1
  rw [<-zNE hlS, <-yDN,aA]
  rfl
 refine⟨vs,⟨by omega,by omega,hV⟩,yJM rfl (show zV [.val (.int q)] S=([.int q],S)from rfl) hF (.inr ⟨_,rfl,le_succ _,?_⟩) (yO λd hd=>(hV d hd).lo _)⟩
 exact ySJ S _ _
def tbl(p:Int×Int):MV:=.tup [.int p.1,.int p.2]
def TOk(ts:List (Int×Int)):Prop:=1<=ts.length/\ts.length<=4/\ ∀p∈ts,1<=p.1/\p.1<=4/\0<=p.2/\p.2<=p.1
theorem lst5(a b c d e:MV)(S:Sto):gW [.val a,.val b,.val c,.val d,.val e] S=.ok (.new [a,b,c,d,e]) S:=zHJ (by simp)
abbrev T6(c:MV)(l m:Nat)(k w y:Option MV):Rho:=[some c,some (.loc l),some (.loc m),k,w,y]
theorem yJN{S:Sto}{l:Nat}{x:Int}{c:MV}{k w y:Option MV}{ts:List (Int×Int)}(hl:l<S.length)(hn:ts.length<1000):
  ∃p w' y' z,(1<=p.1/\p.1<=4/\0<=p.2/\p.2<=p.1)/\gD (T6 c l S.length k w y) (Wl (S++[.lst (ts.map tbl)]) l x)=.ok (.next (T6 c l S.length k w' y')) (Wl (S++[.lst ((ts++[p]).map tbl)]) l z):=by
 have hl2:l<(S++[MO.lst (ts.map tbl)]).length:=by rw [lA];omega
 have h0:0<=x % 4:=eN _ (by decide)
 have h1:x % 4<4:=eL _ (by decide)
 have hp:(0:Int)<1+x % 4+1:=by omega
 have h2:0<=x / 4 % (1+x % 4+1):=eN _ (by omega)
 have h3:x / 4 % (1+x % 4+1)<1+x % 4+1:=eL _ hp
 have e1:bK (T6 c l S.length k w y) (Wl (S++[.lst (ts.map tbl)]) l x)=.ok (.next (T6 c l S.length k (some (.int (1+x % 4))) y)) (Wl (S++[.lst (ts.map tbl)]) l (x / 4)):=by
  unfold bK
  simp? [zIH hl2 (show(0:Int)<4 by decide) (by decide)]
 have hS: ∀z,(Wl (S++[.lst (ts.map tbl)]) l z)[S.length]? =some (.lst (ts.map tbl)):=λz=>zPC hl z _
 obtain⟨d,hd⟩:=cZ (xs:=[MV.int 0,.int 1,.int 1,.int (1+x % 4),.int (x / 4 % (1+x % 4+1))]) (i:=x / 4 / (1+x % 4+1) % 5) (eN _ (by decide)) (eL _ (by decide))
 obtain⟨key,rfl,hk⟩: ∃key,d=.int key/\0<=key/\key<=1+x % 4:=dA (P:=λd=> ∃key,d=MV.int key/\0<=key/\key<=1+x % 4) (λe he=>by
  simp only [mC,nM0,or_false]at he
  rcases he with rfl|rfl|rfl|rfl|rfl<;>exact⟨_,rfl,by omega,by omega⟩) hd
 have e2:bL (T6 c l S.length k (some (.int (1+x % 4))) y) (Wl (S++[.lst (ts.map tbl)]) l (x / 4))=.ok (.next (T6 c l S.length k (some (.int (1+x % 4))) (some (.int key)))) (Wl (S++[.lst (ts.map tbl)]) l (x / 4 / (1+x % 4+1) / 5)):=by
  unfold bL
  simp? [zIH (x:=x / 4) hl2 hp (by omega),lst5,zIH (x:=x / 4 / (1+x % 4+1)) hl2 (show(0:Int)<5 by decide) (by decide),zQI (S:=Wl (S++[.lst (ts.map tbl)]) l (x / 4 / (1+x % 4+1) / 5)) hd]
 have e3:bM (T6 c l S.length k (some (.int (1+x % 4))) (some (.int key))) (Wl (S++[.lst (ts.map tbl)]) l (x / 4 / (1+x % 4+1) / 5))=.ok (.next (T6 c l S.length k (some (.int (1+x % 4))) (some (.int key)))) (Wl (S++[.lst ((ts++[(1+x % 4,key)]).map tbl)]) l (x / 4 / (1+x % 4+1) / 5)):=by
  unfold bM
  simp? [zJD (hS (x / 4 / (1+x % 4+1) / 5)),zJC (hS (x / 4 / (1+x % 4+1) / 5)) (show(ts.map tbl).length<1000000 by rw [lM];omega),yJL hl]
  rw [map_append]
  rfl
 refine⟨(1+x % 4,key),some (.int (1+x % 4)),some (.int key),x / 4 / (1+x % 4+1) / 5,⟨by show 1<=1+x % 4;omega,by show 1+x % 4<=4;omega,hk.1,hk.2⟩,?_⟩
 unfold gD
 rw [zC e1,zC e2,e3]
theorem yJO{ts:List (Int×Int)}(n:Nat):lo n (.tup (ts.map tbl)):=wE (yO λd hd=>by
 obtain⟨p,_,rfl⟩:=mM.mp hd
 exact wE (yO λe he=>by simp at he;rcases he with rfl|rfl<;>exact wQ _ _))
theorem yGB(q:Int)(S:Sto): ∃ts,TOk ts/\zT 1 kE [.val (.int q)] S=.ok (.val (.tup (ts.map tbl))) S:=by
 obtain⟨t,hw⟩:=zLI q 2 ⟨by decide,by decide⟩ S
 have hlS:S.length<(S++[MO.lst []]).length:=by rw [lA];exact lt_succ_self _
 have hm0:0<=t % 4:=eN _ (by decide)
 have hm1:t % 4<4:=eL _ (by decide)
 have hs:zR zCH [.int q]=[some (.int q),none,none,none,none,none]:=rfl
 have e1:nK [some (.int q),none,none,none,none,none] S=.ok (.next [some (.int q),some (.loc S.length),none,none,none,none]) (Wl (S++[.lst []]) S.length t):=by
  unfold nK
  simp? [hw]
  rw [yDN]
 have e2:nL [some (.int q),some (.loc S.length),none,none,none,none] (Wl (S++[.lst []]) S.length t)=.ok (.next (T6 (.int q) S.length (S.length+1) none none none)) (Wl (S++[.lst []]++[.lst []]) S.length t):=by
  unfold nL
  simp? [zFQ,zNE hlS]
  rw [lA]
  rfl
 have hlen:((List.range (1+t % 4).toNat).map λk=>MV.int (k:Nat)).length=(1+t % 4).toNat:=by rw [lM,length_range]
 obtain⟨ρ',S',e,ts,z,k',w',y',hρ,hS',hT,h1⟩:=zKA (L:=(List.range (1+t % 4).toNat).map λk=>MV.int (k:Nat)) (gf:=gNm 3) (body:=gD) (gs:=[]) (S:=Wl (S++[.lst []]++[.lst []]) S.length (t / 4)) (ρ:=T6 (.int q) S.length (S.length+1) none none none)
  (λi ρ S'=> ∃(ts:List (Int×Int))(z:Int)(k' w' y':Option MV),ρ=T6 (.int q) S.length (S.length+1) k' w' y'/\S'=Wl (S++[.lst []]++[.lst (ts.map tbl)]) S.length z/\(∀p∈ts,1<=p.1/\p.1<=4/\0<=p.2/\p.2<=p.1)/\ts.length=i) (λi d hi ρ S1 ⟨ts,z,k',w',y',hρ,hS1,hT,h1⟩=>by
   subst hρ hS1
   have hil:i<5:=by have:=(gS0.mp hi).1;omega
   obtain⟨p,w2,y2,z2,hp,hb⟩:=yJN (S:=S++[.lst []]) (l:=S.length) (x:=z) (c:=.int q) (ts:=ts) (k:=some d) (w:=w') (y:=y') hlS (by omega)
   rw [lA]at hb
   refine⟨T6 (.int q) S.length (S.length+1) (some d) w2 y2,_,?_,kL _,ts++[p],z2,some d,w2,y2,rfl,rfl,λq hq=>?_,by rw [lA,h1];rfl⟩
   ·rw [show gNm 3 d (T6 (.int q) S.length (S.length+1) k' w' y') (Wl (S++[.lst []]++[.lst (ts.map tbl)]) S.length z)=.ok (T6 (.int q) S.length (S.length+1) (some d) w' y') (Wl (S++[.lst []]++[.lst (ts.map tbl)]) S.length z)from rfl,bok]
    exact hb
   ·rcases mem_append.mp hq with h|h
    ·exact hT q h
    ·rw [mS.mp h];exact hp) ⟨[],t / 4,none,none,none,rfl,rfl,by simp,rfl⟩
 subst hρ hS'
 rw [hlen]at h1
 have hl3:S.length<(S++[MO.lst []]++[MO.lst []]).length:=by simp only [lA,lC,length_nil];omega
 have e3:nM (T6 (.int q) S.length (S.length+1) none none none) (Wl (S++[.lst []]++[.lst []]) S.length t)=.ok (.next (T6 (.int q) S.length (S.length+1) k' w' y')) (Wl (S++[.lst []]++[.lst (ts.map tbl)]) S.length z):=by
  unfold nM
  simp? [zIH hl3 (show(0:Int)<4 by decide) (by decide),dY (S:=Wl (S++[.lst []]++[.lst []]) S.length (t / 4)) (j:=1+t % 4) (by omega)]
  exact e
 have hat:(Wl (S++[.lst []]++[.lst (ts.map tbl)]) S.length z)[S.length+1]? =some (.lst (ts.map tbl)):=by
  have:=zPC (S:=S++[MO.lst []]) (l:=S.length) hlS z (.lst (ts.map tbl))
  rw [lA]at this
  exact this
 have e4:nN (T6 (.int q) S.length (S.length+1) k' w' y') (Wl (S++[.lst []]++[.lst (ts.map tbl)]) S.length z)=.ok (.ret (.val (.tup (ts.map tbl)))) (Wl (S++[.lst []]++[.lst (ts.map tbl)]) S.length z):=by
  unfold nN
  simp? [zNC hat]
 refine⟨ts,⟨by omega,by omega,hT⟩,wY (T:=[.lst [.int z],.lst (ts.map tbl)]) rfl ?_ (yJO _) (λl=>by simp)⟩
 show kE [.int q] S=_
 unfold kE zJT
 rw [hs,zC e1,zC e2,zC e3,e4]
 show R.ok _ _=_
 congr 1
 rw [<-zNE hlS, <-yDN,aA]
 rfl
def zL(r:Nat×List MV):MV:=.tup [.int r.1,.tup r.2]
def ROk(ts:List (Int×Int))(r:Nat×List MV):Prop:= ∃p,ts[r.1]? =some p/\(r.2.length:Int)=p.1/\ ∀d∈r.2,Vl d
theorem yJP{ts:List (Int×Int)}{r:Nat×List MV}(h:ROk ts r):pd (zL r)=true/\dpt (zL r)<=2:=by
 obtain⟨p,_,_,hv⟩:=h
 have h1:pdL r.2=true:=zVR λd hd=>(zCC (hv d hd)).1
 have h2:zOL r.2<=0:=zVT λd hd=>by rw [(zCC (hv d hd)).2];exact le_refl _
 unfold zL
 refine⟨by rw [zVP,zLJ,zLJ,yDL,yBP,zVP,h1];rfl,?_⟩
 rw [zPA,zJF,zJF,zYT,zVQ,zPA]
 omega
theorem yJQ{r q:Nat×List MV}(h:zL r=zL q):r=q:=by
 unfold zL at h
 injection h with h
 injection h with h1 h2
 injection h2 with h2 _
 injection h1 with h1
 injection h2 with h2
 exact Prod.ext (by omega) h2
theorem yBT{ts:List (Int×Int)}{r:Nat×List MV}(h:ROk ts r)(n:Nat):lo n (zL r):=by
 obtain⟨p,_,_,hv⟩:=h
 refine wE (yO λd hd=>?_)
 simp only [mC,nM0,or_false]at hd
 rcases hd with rfl|rfl
 ·exact wQ _ _
 ·exact wE (yO λe he=>(hv e he).lo n)
theorem yJR{ts:List (Int×Int)}{t:Nat}{p:Int×Int}(h:ts[t]? =some p):atI (ts.map tbl) (t:Int)=some (tbl p):=by
 have hl:t<ts.length:=(gS0.mp h).1
 unfold atI ixN
 rw [iP (by omega),iP (by rw [lM];omega)]
 show(ts.map tbl)[(t:Int).toNat]? =_
 rw [toNat_natCast,getElem?_map,h]
 rfl
def SqM(S:Sto)(m:MV)(ds:List MV):Prop:=m=.tup ds\/ ∃l,m=.loc l/\S[l]? =some (.lst ds)
theorem SqM.ix{S:Sto}{m:MV}{ds:List MV}{i:Int}{d:MV}(h:SqM S m ds)(hk:atI ds i=some d):ixF (.val m) (.val (.int i)) S=.ok (.val d) S:=by
 rcases h with rfl|⟨l,rfl,hS⟩
 ·exact ix_tup hk
 ·exact zHI hS hk
theorem SqM.len{S:Sto}{m:MV}{ds:List MV}(h:SqM S m ds):dX [.val m] S=.ok (.val (.int ds.length)) S:=by
 rcases h with rfl|⟨l,rfl,hS⟩
 ·rfl
 ·exact yDA hS
def wid(ts:List (Int×Int))(t:Nat):Int:=((ts[t]?).map (·.1)).getD 0
theorem zII{ts:List (Int×Int)}{t:Nat}{p:Int×Int}(h:ts[t]? =some p):wid ts t=p.1:=by unfold wid;rw [h];rfl
theorem yBU{ts:List (Int×Int)}(hT:TOk ts){t:Nat}(h:t<ts.length):1<=wid ts t/\wid ts t<=4:=by
 have:=hT.2.2 ts[t] (getElem_mem h)
 rw [zII (gE0 h)]
 exact⟨this.1,this.2.1⟩
theorem zVV{ts:List (Int×Int)}{t:Nat}(ht:t<ts.length)(S:Sto): ∃e,ixF (.val (.tup (ts.map tbl))) (.val (.int (t:Nat))) S=.ok (.val e) S/\ixF (.val e) (.val (.int 0)) S=.ok (.val (.int (wid ts t))) S:=by
 have hgt:ts[t]? =some ts[t]:=gE0 ht
 exact⟨tbl ts[t],ix_tup (yJR hgt),by rw [zII hgt];rfl⟩
theorem ySL{ts:List (Int×Int)}(hT:TOk ts)(c:Int){lp:Nat}{vs:List MV}{S:Sto}(hV:VOk vs)(hP:S[lp]? =some (.lst vs)):
  ∃r,ROk ts r/\zT 3 cN [.val (.int c),.val (.tup (ts.map tbl)),.val (.loc lp)] S=.ok (.val (zL r)) S:=by
 obtain⟨n,hn⟩:=zLI c 3 ⟨by decide,by decide⟩ S
 have hlp:lp<S.length:=(gS0.mp hP).1
 have hPn: ∀x,(SN S x)[lp]? =some (.lst vs):=λx=>by rw [getElem?_append_left hlp];exact hP
 have hp:0<ts.length:=hT.1
 have hl4:=hT.2.1
 have hv1:=hV.1
 have hv4:=hV.2.1
 have hlen: ∀S,dX [.val (.tup (ts.map tbl))] S=.ok (.val (.int ts.length)) S:=λS=>by rw [zJE,lM]
 have hs:zR zEZ [.int c,.tup (ts.map tbl),.loc lp]=[some (.int c),some (.tup (ts.map tbl)),some (.loc lp),none,none]:=rfl
 have e1:zFK [some (.int c),some (.tup (ts.map tbl)),some (.loc lp),none,none] S=.ok (.next [some (.int c),some (.tup (ts.map tbl)),some (.loc lp),some (.loc S.length),none]) (SN S n):=by
  unfold zFK
  simp? [hn]
 obtain⟨t,ht,htl⟩:=zEN n hp
 have e2:zFL [some (.int c),some (.tup (ts.map tbl)),some (.loc lp),some (.loc S.length),none] (SN S n)=.ok (.next [some (.int c),some (.tup (ts.map tbl)),some (.loc lp),some (.loc S.length),some (.int (t:Nat))]) (SN S (n / ts.length)):=by
  unfold zFL
  simp? [hlen,zFP S n (n:=(ts.length:Int)) (by omega) (by omega)]
  rw [ht]
 have hw:=yBU hT htl
 obtain⟨out,S',e,⟨x',rfl⟩,hol,hop⟩:=zPB (gf:=gNm 0) (cf:=zIE) (ef:=zAU) (ρb:=[none,some (.loc lp),some (.loc S.length)]) (gs:=[]) (P:=Vl) (I:=λS'=> ∃y,S'=SN S y) (ds:=(List.range (wid ts t).toNat).map λk=>MV.int (k:Nat)) (S:=SN S (n / ts.length)) (λd hd S1 ⟨y,hy⟩=>by
  subst hy
  obtain⟨v,hv⟩:=cZ (xs:=vs) (i:=y % (vs.length:Int)) (eN _ (by omega)) (eL _ (by omega))
  refine⟨[some d,some (.loc lp),some (.loc S.length)],v,SN S (y / (vs.length:Int)),rfl,rfl,?_,dA hV.2.2 hv,⟨_,rfl⟩,kL _⟩
  unfold zAU
  simp? [SqM.len (S:=SN S y) (.inr ⟨lp,rfl,hPn y⟩),zFP S y (n:=(vs.length:Int)) (by omega) (by omega),zHI (hPn _) hv]) ⟨_,rfl⟩
 rw [lM,length_range]at hol
 have e3:zFM [some (.int c),some (.tup (ts.map tbl)),some (.loc lp),some (.loc S.length),some (.int (t:Nat))] (SN S (n / ts.length))=.ok (.ret (.val (zL (t,out)))) (SN S x'):=by
  obtain⟨e',i1,i2⟩:=zVV htl (SN S (n / ts.length))
  unfold zFM
  simp? [i1,i2,dY (S:=SN S (n / ts.length)) (j:=wid ts t) (by omega),show(((List.range (wid ts t).toNat).map λk=>MV.int (k:Nat)).length<1000000)=True from eq_true (by rw [lM,length_range];omega),show blk 1 [2,3] [some (.int c),some (.tup (ts.map tbl)),some (.loc lp),some (.loc S.length),some (.int (t:Nat))]=[none,some (.loc lp),some (.loc S.length)]from rfl,e,show gZ [.new out] (SN S x')=.ok (.val (.tup out)) (SN S x')from rfl]
  rfl
 have hr:ROk ts (t,out):=⟨ts[t],gE0 htl,by
  have:=zII (gE0 htl)
  show(out.length:Int)=_
  omega,hop⟩
 refine⟨(t,out),hr,wY (T:=[.lst [.int x']]) rfl ?_ (yBT hr _) (λl=>by unfold zL;simp)⟩
 show cN [.int c,.tup (ts.map tbl),.loc lp] S=_
 unfold cN zRA
 rw [hs,zC e1,zC e2,e3]
 rfl
abbrev R7(lc:Nat)(tb:MV)(lp:Nat)(w:Int)(lr:Nat)(x5 x6:Option MV):Rho:=[some (.loc lc),some tb,some (.loc lp),some (.int w),some (.loc lr),x5,x6]
theorem yGC{ts:List (Int×Int)}(hT:TOk ts){c w:Int}{lc lp lr:Nat}{vs:List MV}{S:Sto}{x6:Option MV}{rs:List (Nat×List MV)}(hV:VOk vs)(hP:S[lp]? =some (.lst vs))(hS:S[lr]? =some (.lst (rs.map zL)))
  (hR: ∀r∈rs,ROk ts r) (hn:rs.Nodup) (hl:rs.length<1000): ∃(x6':Option MV)(rs':List (Nat×List MV)),kF (R7 lc (.tup (ts.map tbl)) lp w lr (some (.int c)) x6) S=.ok (.next (R7 lc (.tup (ts.map tbl)) lp w lr (some (.int c)) x6')) (S.set lr (.lst (rs'.map zL)))/\(∀r∈rs',ROk ts r)/\rs'.Nodup/\rs'.length<=rs.length+1:=by
 obtain⟨r,hr,hcall⟩:=ySL hT c hV hP
 have e1:nO (R7 lc (.tup (ts.map tbl)) lp w lr (some (.int c)) x6) S=.ok (.next (R7 lc (.tup (ts.map tbl)) lp w lr (some (.int c)) (some (zL r)))) S:=by
  unfold nO
  simp? [hcall]
 have hin:inF true (.val (zL r)) (.val (.loc lr)) S=.ok (.val (.bl (!decide (zL r∈rs.map zL)))) S:=yBQ hS (yJP hr).1 (λx=>by unfold zL;simp) λy hy=>by
  obtain⟨q,hq,rfl⟩:=mM.mp hy
  have:=yJP (hR q hq)
  exact⟨this.1,by omega⟩
 have hlen:dX [.val (.loc lr)] S=.ok (.val (.int (rs.map zL).length)) S:=SqM.len (.inr ⟨lr,rfl,hS⟩)
 have hmem:zL r∈rs.map zL↔r∈rs:=⟨λh=>by obtain⟨q,hq,e⟩:=mM.mp h;rw [<-yJQ e];exact hq,λh=>List.mem_map_of_mem h⟩
 have same:xV (R7 lc (.tup (ts.map tbl)) lp w lr (some (.int c)) (some (zL r))) S=.ok (.next (R7 lc (.tup (ts.map tbl)) lp w lr (some (.int c)) (some (zL r)))) S-> ∃(x6':Option MV)(rs':List (Nat×List MV)),kF (R7 lc (.tup (ts.map tbl)) lp w lr (some (.int c)) x6) S=.ok (.next (R7 lc (.tup (ts.map tbl)) lp w lr (some (.int c)) x6')) (S.set lr (.lst (rs'.map zL)))/\(∀r∈rs',ROk ts r)/\rs'.Nodup/\rs'.length<=rs.length+1:=λe2=>by
  refine⟨some (zL r),rs,?_,hR,hn,le_succ _⟩
  unfold kF
  rw [zC e1,e2]
  have hset:S.set lr (.lst (rs.map zL))=S:=by
   refine ext_getElem? λj=>?_
   by_cases e:lr=j
   ·subst e;rw [get_set hS,hS]
   ·rw [wS e]
  rw [hset]
 by_cases hm:r∈rs
 ·refine same ?_
  unfold xV
  simp? [hin,dT0 (hmem.mpr hm)]
  rfl
 ·by_cases hw:((rs.map zL).length:Int)<w
  ·have e2:xV (R7 lc (.tup (ts.map tbl)) lp w lr (some (.int c)) (some (zL r))) S=.ok (.next (R7 lc (.tup (ts.map tbl)) lp w lr (some (.int c)) (some (zL r)))) (S.set lr (.lst ((rs++[r]).map zL))):=by
    unfold xV
    simp? [hin,dF0 (λz=>hm (hmem.mp z)),hlen,lt_int,dT0 hw,Bool.not_false,zJD hS,zJC hS (show(rs.map zL).length<1000000 by rw [lM];omega)]
    rw [map_append]
    rfl
   refine⟨some (zL r),rs++[r],?_,?_,?_,?_⟩
   ·unfold kF
    rw [zC e1,e2]
   ·intro q hq
    rw [mem_append,mS]at hq
    rcases hq with hq|rfl
    ·exact hR q hq
    ·exact hr
   ·exact nodup_append.mpr ⟨hn,by simp,λa ha c hc=>by rw [mS.mp hc];rintro rfl;exact hm ha⟩
   ·rw [lA];exact le_refl _
  ·refine same ?_
   unfold xV
   simp? [hin,dF0 (λz=>hm (hmem.mp z)),hlen,lt_int,dF0 hw,Bool.not_false]
   rfl
theorem yNV{ts:List (Int×Int)}(hT:TOk ts)(is:List Int)(hil:is.length<=60){w:Int}{lp:Nat}{vs:List MV}{S:Sto}(hV:VOk vs)(hP:S[lp]? =some (.lst vs)):
  ∃rs:List (Nat×List MV),(∀r∈rs,ROk ts r)/\rs.Nodup/\rs.length<=is.length/\zT 4 gP [.new (is.map MV.int),.val (.tup (ts.map tbl)),.val (.loc lp),.val (.int w)] S=.ok (.val (.tup (rs.map zL))) S:=by
 have hlp:lp<S.length:=(gS0.mp hP).1
 have hs:zR zHN [.loc S.length,.tup (ts.map tbl),.loc lp,.int w]=[some (.loc S.length),some (.tup (ts.map tbl)),some (.loc lp),some (.int w),none,none,none]:=rfl
 have e1:zDE [some (.loc S.length),some (.tup (ts.map tbl)),some (.loc lp),some (.int w),none,none,none] (S++[.lst (is.map MV.int)])=.ok (.next (R7 S.length (.tup (ts.map tbl)) lp w (S.length+1) none none)) (S++[.lst (is.map MV.int)]++[.lst []]):=by
  unfold zDE
  simp? [bok]
  rw [lA]
  rfl
 obtain⟨ρ',S',e,x5,x6,rs,hρ,hS',hR,hN,hl⟩:=zKA (L:=is.map MV.int) (gf:=gNm 5) (body:=kF) (gs:=[(S.length,is.map MV.int)]) (S:=S++[.lst (is.map MV.int)]++[.lst []]) (ρ:=R7 S.length (.tup (ts.map tbl)) lp w (S.length+1) none none)
  (λi ρ S'=> ∃(x5 x6:Option MV)(rs:List (Nat×List MV)),ρ=R7 S.length (.tup (ts.map tbl)) lp w (S.length+1) x5 x6/\S'=S++[.lst (is.map MV.int)]++[.lst (rs.map zL)]/\(∀r∈rs,ROk ts r)/\rs.Nodup/\rs.length<=i) (λi d hi ρ S1 ⟨x5,x6,rs,hρ,hS1,hR,hN,hl⟩=>by
   subst hρ hS1
   obtain⟨c,_,rfl⟩:=mM.mp (mem_of_getElem? hi)
   have hil':i<is.length:=by have:=(gS0.mp hi).1;rw [lM]at this;exact this
   obtain⟨x6',rs',hb,hR',hN',hl'⟩:=yGC hT (c:=c) (w:=w) (lc:=S.length) (lp:=lp) (lr:=S.length+1) (S:=S++[.lst (is.map MV.int)]++[.lst (rs.map zL)]) (x6:=x6) (rs:=rs) hV (by rw [aA,getElem?_append_left hlp];exact hP) (by simp) hR hN (by omega)
   refine⟨R7 S.length (.tup (ts.map tbl)) lp w (S.length+1) (some (.int c)) x6',S++[.lst (is.map MV.int)]++[.lst (rs'.map zL)],?_,wZ (by simp),some (.int c),x6',rs',rfl,rfl,hR',hN',by omega⟩
   rw [show gNm 5 (.int c) (R7 S.length (.tup (ts.map tbl)) lp w (S.length+1) x5 x6) (S++[.lst (is.map MV.int)]++[.lst (rs.map zL)])=.ok (R7 S.length (.tup (ts.map tbl)) lp w (S.length+1) (some (.int c)) x6) (S++[.lst (is.map MV.int)]++[.lst (rs.map zL)])from rfl,bok,hb]
   have hset:List.set (S++[MO.lst (is.map MV.int)]++[MO.lst (rs.map zL)]) (S.length+1) (MO.lst (rs'.map zL))=S++[MO.lst (is.map MV.int)]++[MO.lst (rs'.map zL)]:=by simp
   rw [hset])
  ⟨none,none,[],rfl,rfl,λr hr=>by simp at hr,by simp,zero_le _⟩
 subst hρ hS'
 rw [lM]at hl
 have e2:zDF (R7 S.length (.tup (ts.map tbl)) lp w (S.length+1) none none) (S++[.lst (is.map MV.int)]++[.lst []])=.ok (.next (R7 S.length (.tup (ts.map tbl)) lp w (S.length+1) x5 x6)) (S++[.lst (is.map MV.int)]++[.lst (rs.map zL)]):=by
  unfold zDF
  simp? [jC (S:=S++[.lst (is.map MV.int)]++[.lst []]) (l:=S.length) (ds:=is.map MV.int) (by simp)]
  exact e
 have e3:zDG (R7 S.length (.tup (ts.map tbl)) lp w (S.length+1) x5 x6) (S++[.lst (is.map MV.int)]++[.lst (rs.map zL)])=.ok (.ret (.val (.tup (rs.map zL)))) (S++[.lst (is.map MV.int)]++[.lst (rs.map zL)]):=by
  unfold zDG
  simp? [zNC (S:=S++[.lst (is.map MV.int)]++[.lst (rs.map zL)]) (l:=S.length+1) (ds:=rs.map zL) (by simp)]
 refine⟨rs,hR,hN,hl,wY (T:=[.lst (is.map MV.int),.lst (rs.map zL)]) rfl ?_ (wE (yO λd hd=>?_)) (λl=>by simp)⟩
 ·show gP [.loc S.length,.tup (ts.map tbl),.loc lp,.int w] (S++[.lst (is.map MV.int)])=_
  unfold gP zNY
  rw [hs,zC e1,zC e2,e3]
  rw [aA]
  rfl
 ·obtain⟨r,hr,rfl⟩:=mM.mp hd
  exact yBT (hR r hr) _
theorem lst4(a b c d:MV)(S:Sto):gW [.val a,.val b,.val c,.val d] S=.ok (.new [a,b,c,d]) S:=zHJ (by simp)
inductive Side where
 |isv (v:MV)|cell (k j:Nat)
def sIs:List Nat:=[105,115]
def yJS:List Nat:=[99,101,108,108]
def zY:Side->MV
 |.isv v=>.tup [.str sIs,v]
 |.cell k j=>.tup [.str yJS,.int k,.int j]
def zVW(ws:List Int):Side->Prop
 |.isv v=>Vl v
 |.cell k j=> ∃w,ws[k]? =some w/\(j:Int)<w
def zF(t:Nat):MV:=.int (t:Nat)
def ThOk(ts:List (Int×Int))(th:List Nat):Prop:=1<=th.length/\th.length<=2/\ ∀t∈th,t<ts.length
theorem ySM{th:List Nat}{k t:Nat}(h:th[k]? =some t):atI (th.map zF) (k:Int)=some (zF t):=by
 have hl:k<th.length:=(gS0.mp h).1
 unfold atI ixN
 rw [iP (by omega),iP (by rw [lM];omega)]
 show(th.map zF)[(k:Int).toNat]? =_
 rw [toNat_natCast,getElem?_map,h]
 rfl
theorem zPD{ws:List Int}{sd:Side}(h:zVW ws sd)(n:Nat):lo n (zY sd):=by
 cases sd with
 |isv v=>exact wE (yO λe he=>by simp at he;rcases he with rfl|rfl;(exact zHG _ _);exact Vl.lo h n)
 |cell k j=>exact wE (yO λe he=>by simp at he;rcases he with rfl|rfl|rfl<;>first |exact zHG _ _|exact wQ _ _)
theorem zRF(sd:Side)(l:Nat):zY sd≠.loc l:=by cases sd<;>(intro h;cases h)
abbrev D5(l:Nat)(th tb:MV)(lp:Nat)(x4:Option MV):Rho:=[some (.loc l),some th,some tb,some (.loc lp),x4]
theorem yDP{ts:List (Int×Int)}(hT:TOk ts){th:List Nat}(hth:ThOk ts th){l lp:Nat}{x:Int}{vs:List MV}{S:Sto}(hne:l≠lp)(hV:VOk vs)(hP:S[lp]? =some (.lst vs))(hS:S[l]? =some (.lst [.int x])):
  ∃sd x',zVW (th.map (wid ts)) sd/\zT 4 xZ [.val (.loc l),.val (.tup (th.map zF)),.val (.tup (ts.map tbl)),.val (.loc lp)] S=.ok (.val (zY sd)) (S.set l (.lst [.int x'])):=by
 have hs:zR zHO [.loc l,.tup (th.map zF),.tup (ts.map tbl),.loc lp]=D5 l (.tup (th.map zF)) (.tup (ts.map tbl)) lp none:=rfl
 have t1:=zCB (n:=3) hS (by decide) (by decide)
 have hS1:=get_set (o':=.lst [.int (x / 3)]) hS
 have hP1:(S.set l (.lst [.int (x / 3)]))[lp]? =some (.lst vs):=by rw [wS hne];exact hP
 cases hb:decide (x % 3=0)with
 |true=>
  have t2:=zCB (n:=(vs.length:Int)) hS1 (by have:=hV.1;omega) (by have:=hV.2.1;omega)
  rw [List.set_set]at t2
  have hP2:(S.set l (.lst [.int (x / 3 / (vs.length:Int))]))[lp]? =some (.lst vs):=by rw [wS hne];exact hP
  obtain⟨v,hvv⟩:=cZ (xs:=vs) (i:=x / 3 % (vs.length:Int)) (eN _ (by have:=hV.1;omega)) (eL _ (by have:=hV.1;omega))
  have vV:=dA hV.2.2 hvv
  refine⟨.isv v,x / 3 / (vs.length:Int),vV,zRB rfl ?_ (zPD (ws:=[]) (sd:=.isv v) vV _) (zRF _)⟩
  have e1:jU (D5 l (.tup (th.map zF)) (.tup (ts.map tbl)) lp none) S=.ok (.ret (.val (zY (.isv v)))) (S.set l (.lst [.int (x / 3 / (vs.length:Int))])):=by
   unfold jU
   simp? [t1,hb,yDA hP1,t2,zHI hP2 hvv]
   rfl
  show xZ [.loc l,.tup (th.map zF),.tup (ts.map tbl),.loc lp] S=_
  unfold xZ zIF
  rw [hs,yR e1]
  rfl
 |false=>
  have e1:jU (D5 l (.tup (th.map zF)) (.tup (ts.map tbl)) lp none) S=.ok (.next (D5 l (.tup (th.map zF)) (.tup (ts.map tbl)) lp none)) (S.set l (.lst [.int (x / 3)])):=by
   unfold jU
   simp? [t1,hb]
   rfl
  have hp:(0:Int)<(th.length:Int):=by have:=hth.1;omega
  have hlen: ∀S,dX [.val (.tup (th.map zF))] S=.ok (.val (.int th.length)) S:=λS=>by rw [zJE,lM]
  have t2:=zCB (n:=(th.length:Int)) hS1 hp (by have:=hth.2.1;omega)
  rw [List.set_set]at t2
  have h0:0<=x / 3 % (th.length:Int):=eN _ (by omega)
  have h1:x / 3 % (th.length:Int)<th.length:=eL _ hp
  obtain⟨k,hk⟩:=Int.eq_ofNat_of_zero_le h0
  have hkl:k<th.length:=by omega
  have e2:zDH (D5 l (.tup (th.map zF)) (.tup (ts.map tbl)) lp none) (S.set l (.lst [.int (x / 3)]))=.ok (.next (D5 l (.tup (th.map zF)) (.tup (ts.map tbl)) lp (some (.int (k:Nat))))) (S.set l (.lst [.int (x / 3 / th.length)])):=by
   unfold zDH
   simp? [hlen,t2]
   rw [hk]
  have hgk:th[k]? =some th[k]:=gE0 hkl
  have htl:=hth.2.2 th[k] (getElem_mem hkl)
  generalize th[k]=t at hgk htl
  have hgt:ts[t]? =some ts[t]:=gE0 htl
  have hwd:=yBU hT htl
  rw [zII hgt]at hwd
  have hS2:=get_set (o':=.lst [.int (x / 3 / th.length)]) hS
  have t3:=zCB (n:=ts[t].1) hS2 (by omega) (by omega)
  rw [List.set_set]at t3
  have g0:0<=x / 3 / th.length % ts[t].1:=eN _ (by omega)
  have g1:x / 3 / th.length % ts[t].1<ts[t].1:=eL _ (by omega)
  obtain⟨j,hj⟩:=Int.eq_ofNat_of_zero_le g0
  have hOk:zVW (th.map (wid ts)) (.cell k j):=⟨ts[t].1,by rw [getElem?_map,hgk];show some (wid ts t)=_;rw [zII hgt],by omega⟩
  refine⟨.cell k j,x / 3 / th.length / ts[t].1,hOk,zRB rfl ?_ (zPD hOk _) (zRF _)⟩
  have e3:zDI (D5 l (.tup (th.map zF)) (.tup (ts.map tbl)) lp (some (.int (k:Nat)))) (S.set l (.lst [.int (x / 3 / th.length)]))=.ok (.ret (.val (zY (.cell k j)))) (S.set l (.lst [.int (x / 3 / th.length / ts[t].1)])):=by
   unfold zDI
   simp? [ix_tup (S:=S.set l (.lst [.int (x / 3 / th.length)])) (show atI (th.map zF) (k:Int)=some (.int t)from ySM hgk),ix_tup (S:=S.set l (.lst [.int (x / 3 / th.length)])) (yJR hgt)]
   rw [show ixF (.val (tbl ts[t])) (.val (.int 0)) (S.set l (.lst [.int (x / 3 / th.length)]))=.ok (.val (.int ts[t].1)) (S.set l (.lst [.int (x / 3 / th.length)]))from rfl]
   simp? [t3]
   rw [hj]
   rfl
  show xZ [.loc l,.tup (th.map zF),.tup (ts.map tbl),.loc lp] S=_
  unfold xZ zIF
  rw [hs,zC e1,zC e2,e3]
  rfl
structure Test where
 l:Side
 w:List Nat
 r:Side
def zVX:List (List Nat):=[[115,97,109,101],[117,110,108,105,107,101],[108,101,115,115]]
def testM(t:Test):MV:=.tup [zY t.l,.str t.w,zY t.r]
def zRG(ws:List Int)(t:Test):Prop:=zVW ws t.l/\t.w∈zVX/\zVW ws t.r
theorem zVY{ws:List Int}{t:Test}(h:zRG ws t)(n:Nat):lo n (testM t):=wE (yO λe he=>by
 simp only [mC,nM0,or_false]at he
 rcases he with rfl|rfl|rfl
 ·exact zPD h.1 n
 ·exact zHG _ _
 ·exact zPD h.2.2 n)
abbrev T8(l:Nat)(th tb:MV)(lp lt:Nat)(x5 x6 x7:Option MV):Rho:=[some (.loc l),some th,some tb,some (.loc lp),some (.loc lt),x5,x6,x7]
theorem yGD{ts:List (Int×Int)}(hT:TOk ts){th:List Nat}(hth:ThOk ts th){l lp lt:Nat}{x:Int}{vs:List MV}{S:Sto}{x5 x6 x7:Option MV}{qs:List Test}(hne:l≠lp)(hlt:l≠lt)(hV:VOk vs)(hP:S[lp]? =some (.lst vs))(hS:S[l]? =some (.lst [.int x]))
  (hQ:S[lt]? =some (.lst (qs.map testM))) (hql:qs.length<1000): ∃(q:Test)(x':Int)(y6 y7:Option MV),zRG (th.map (wid ts)) q/\bN (T8 l (.tup (th.map zF)) (.tup (ts.map tbl)) lp lt x5 x6 x7) S=.ok (.next (T8 l (.tup (th.map zF)) (.tup (ts.map tbl)) lp lt x5 y6 y7)) ((S.set l (.lst [.int x'])).set lt (.lst ((qs++[q]).map testM))):=by
 obtain⟨sa,xa,oka,ca⟩:=yDP hT hth hne hV hP hS
 have hS1:=get_set (o':=.lst [.int xa]) hS
 have hP1:(S.set l (.lst [.int xa]))[lp]? =some (.lst vs):=by rw [wS hne];exact hP
 have e1:cO (T8 l (.tup (th.map zF)) (.tup (ts.map tbl)) lp lt x5 x6 x7) S=.ok (.next (T8 l (.tup (th.map zF)) (.tup (ts.map tbl)) lp lt x5 (some (zY sa)) x7)) (S.set l (.lst [.int xa])):=by
  unfold cO
  simp? [ca]
 obtain⟨sb,xb,okb,cb⟩:=yDP hT hth hne hV hP1 hS1
 rw [List.set_set]at cb
 have hS2:=get_set (o':=.lst [.int xb]) hS
 have e2:cP (T8 l (.tup (th.map zF)) (.tup (ts.map tbl)) lp lt x5 (some (zY sa)) x7) (S.set l (.lst [.int xa]))=.ok (.next (T8 l (.tup (th.map zF)) (.tup (ts.map tbl)) lp lt x5 (some (zY sa)) (some (zY sb)))) (S.set l (.lst [.int xb])):=by
  unfold cP
  simp? [cb]
 have t1:=zCB (n:=4) hS2 (by decide) (by decide)
 rw [List.set_set]at t1
 obtain⟨d,hd⟩:=cZ (xs:=[MV.str [115,97,109,101],MV.str [117,110,108,105,107,101],MV.str [108,101,115,115],MV.str [115,97,109,101]]) (i:=xb % 4) (eN _ (by decide)) (eL _ (by decide))
 obtain⟨w,rfl,hw⟩: ∃w,d=.str w/\w∈zVX:=dA (P:=λd=> ∃w,d=MV.str w/\w∈zVX) (λe he=>by
  simp only [mC,nM0,or_false]at he
  rcases he with rfl|rfl|rfl|rfl<;>exact⟨_,rfl,by decide⟩) hd
 have hQ2:(S.set l (.lst [.int xb]))[lt]? =some (.lst (qs.map testM)):=by rw [wS hlt];exact hQ
 have hQ3:(S.set l (.lst [.int (xb / 4)]))[lt]? =some (.lst (qs.map testM)):=by rw [wS hlt];exact hQ
 have e3:cQ (T8 l (.tup (th.map zF)) (.tup (ts.map tbl)) lp lt x5 (some (zY sa)) (some (zY sb))) (S.set l (.lst [.int xb]))=.ok (.next (T8 l (.tup (th.map zF)) (.tup (ts.map tbl)) lp lt x5 (some (zY sa)) (some (zY sb)))) ((S.set l (.lst [.int (xb / 4)])).set lt (.lst ((qs++[Test.mk sa w sb]).map testM))):=by
  unfold cQ
  simp? [zJD hQ2,lst4,t1,zQI hd,zJC hQ3 (show(qs.map testM).length<1000000 by rw [lM];omega)]
  rw [map_append]
  rfl
 refine⟨⟨sa,w,sb⟩,xb / 4,some (zY sa),some (zY sb),⟨oka,hw,okb⟩,?_⟩
 unfold bN
 rw [zC e1,zC e2,e3]
theorem zYW{ts:List (Int×Int)}(hT:TOk ts){th:List Nat}(hth:ThOk ts th){l lp:Nat}{x:Int}{vs:List MV}{S:Sto}(hne:l≠lp)(hV:VOk vs)(hP:S[lp]? =some (.lst vs))(hS:S[l]? =some (.lst [.int x])):
  ∃(qs:List Test)(x':Int),1<=qs.length/\qs.length<=3/\(∀q∈qs,zRG (th.map (wid ts)) q)/\zT 4 xG [.val (.loc l),.val (.tup (th.map zF)),.val (.tup (ts.map tbl)),.val (.loc lp)] S=.ok (.val (.tup (qs.map testM))) (S.set l (.lst [.int x'])):=by
 have hl:l<S.length:=(gS0.mp hS).1
 have hlp:lp<S.length:=(gS0.mp hP).1
 have hs:zR zFA [.loc l,.tup (th.map zF),.tup (ts.map tbl),.loc lp]=[some (.loc l),some (.tup (th.map zF)),some (.tup (ts.map tbl)),some (.loc lp),none,none,none,none]:=rfl
 have e1:zAV [some (.loc l),some (.tup (th.map zF)),some (.tup (ts.map tbl)),some (.loc lp),none,none,none,none] S=.ok (.next (T8 l (.tup (th.map zF)) (.tup (ts.map tbl)) lp S.length none none none)) (S++[.lst []]):=by
  unfold zAV
  simp? [bok]
 have hSa:(S++[MO.lst []])[l]? =some (.lst [.int x]):=by rw [getElem?_append_left hl];exact hS
 have t1:=zCB (n:=4) hSa (by decide) (by decide)
 have hset: ∀(y:Int)(zs:List Test),List.set (S++[MO.lst (zs.map testM)]) l (MO.lst [.int y])=S.set l (.lst [.int y])++[.lst (zs.map testM)]:=λy zs=>set_append_left _ _ hl
 rw [show S++[MO.lst []]=S++[MO.lst (([]:List Test).map testM)]from rfl,hset]at t1
 obtain⟨m,hm⟩:=cZ (xs:=[MV.int 1,MV.int 1,MV.int 2,MV.int 3]) (i:=x % 4) (eN _ (by decide)) (by have:=eL x (show(0:Int)<4 by decide);show x % 4<4;exact this)
 obtain⟨mi,rfl,m1,m3⟩: ∃v,m=.int v/\1<=v/\v<=3:=dA (P:=λe=> ∃v,e=.int v/\(1:Int)<=v/\v<=3) (by
  intro e he;simp only [mC,nM0,or_false]at he
  rcases he with rfl|rfl|rfl|rfl<;>exact⟨_,rfl,by decide,by decide⟩) hm
 have hlen:((List.range mi.toNat).map λk=>MV.int (k:Nat)).length=mi.toNat:=by rw [lM,length_range]
 obtain⟨ρ',S',e,x5,x6,x7,x',qs,hρ,hS',hql,hqk⟩:=zKA (L:=(List.range mi.toNat).map λk=>MV.int (k:Nat)) (gf:=gNm 5) (body:=bN) (gs:=[]) (S:=S.set l (.lst [.int (x / 4)])++[.lst (([]:List Test).map testM)]) (ρ:=T8 l (.tup (th.map zF)) (.tup (ts.map tbl)) lp S.length none none none)
  (λi ρ S'=> ∃(x5 x6 x7:Option MV)(x':Int)(qs:List Test),ρ=T8 l (.tup (th.map zF)) (.tup (ts.map tbl)) lp S.length x5 x6 x7/\S'=S.set l (.lst [.int x'])++[.lst (qs.map testM)]/\qs.length=i/\ ∀q∈qs,zRG (th.map (wid ts)) q) (λi d hi ρ S1 ⟨x5,x6,x7,x',qs,hρ,hS1,hql,hqk⟩=>by
   subst hρ hS1
   have hil:i<4:=by have:=(gS0.mp hi).1;omega
   have hLs:(S.set l (.lst [.int x'])).length=S.length:=length_set
   have a1:(S.set l (.lst [.int x'])++[MO.lst (qs.map testM)])[lp]? =some (.lst vs):=by rw [getElem?_append_left (by rw [hLs];exact hlp),wS hne];exact hP
   have a2:(S.set l (.lst [.int x'])++[MO.lst (qs.map testM)])[l]? =some (.lst [.int x']):=by rw [getElem?_append_left (by rw [hLs];exact hl)];exact get_set hS
   have a3:(S.set l (.lst [.int x'])++[MO.lst (qs.map testM)])[S.length]? =some (.lst (qs.map testM)):=by rw [<-hLs];simp
   obtain⟨q,x'',y6,y7,hq,hb⟩:=yGD hT hth (x5:=some d) (x6:=x6) (x7:=x7) (lt:=S.length) (qs:=qs) hne (by omega) hV a1 a2 a3 (by omega)
   have hfin:List.set (List.set (S.set l (.lst [.int x'])++[MO.lst (qs.map testM)]) l (MO.lst [.int x''])) S.length (MO.lst ((qs++[q]).map testM))=S.set l (.lst [.int x''])++[.lst ((qs++[q]).map testM)]:=by
    rw [set_append_left _ _ (by rw [hLs];exact hl),List.set_set]
    have hL2:(S.set l (.lst [.int x''])).length=S.length:=length_set
    rw [<-hL2]
    simp
   rw [hfin]at hb
   refine⟨T8 l (.tup (th.map zF)) (.tup (ts.map tbl)) lp S.length (some d) y6 y7,_,?_,kL _,some d,y6,y7,x'',qs++[q],rfl,rfl,by rw [lA,hql];rfl,?_⟩
   ·rw [show gNm 5 d (T8 l (.tup (th.map zF)) (.tup (ts.map tbl)) lp S.length x5 x6 x7) (S.set l (.lst [.int x'])++[MO.lst (qs.map testM)])=.ok (T8 l (.tup (th.map zF)) (.tup (ts.map tbl)) lp S.length (some d) x6 x7) (S.set l (.lst [.int x'])++[MO.lst (qs.map testM)])from rfl,bok,hb]
   ·intro z hz
    rw [mem_append,mS]at hz
    rcases hz with hz|rfl
    ·exact hqk z hz
    ·exact hq) ⟨none,none,none,x / 4,[],rfl,rfl,rfl,λp hp=>by simp at hp⟩
 subst hρ hS'
 rw [hlen]at hql
 have e2:zAW (T8 l (.tup (th.map zF)) (.tup (ts.map tbl)) lp S.length none none none) (S++[MO.lst []])=.ok (.next (T8 l (.tup (th.map zF)) (.tup (ts.map tbl)) lp S.length x5 x6 x7)) (S.set l (.lst [.int x'])++[.lst (qs.map testM)]):=by
  unfold zAW
  rw [show S++[MO.lst []]=S++[MO.lst (([]:List Test).map testM)]from rfl]
  simp? [lst4,t1,zQI hm]
  rw [dY (by omega),bok]
  exact e
 have hLs:(S.set l (.lst [.int x'])).length=S.length:=length_set
 have e3:zAX (T8 l (.tup (th.map zF)) (.tup (ts.map tbl)) lp S.length x5 x6 x7) (S.set l (.lst [.int x'])++[.lst (qs.map testM)])=.ok (.ret (.val (.tup (qs.map testM)))) (S.set l (.lst [.int x'])++[.lst (qs.map testM)]):=by
  unfold zAX
  simp? [zNC (S:=S.set l (.lst [.int x'])++[.lst (qs.map testM)]) (l:=S.length) (ds:=qs.map testM) (by rw [<-hLs];simp)]
 refine⟨qs,x',by omega,by omega,hqk,yFY (T:=[.lst (qs.map testM)]) rfl ?_ (wE (yO λd hd=>?_)) (λl=>by simp)⟩
 ·show xG [.loc l,.tup (th.map zF),.tup (ts.map tbl),.loc lp] S=_
  unfold xG zLH
  rw [hs,zC e1,zC e2,e3]
  rfl
 ·obtain⟨q,hq,rfl⟩:=mM.mp hd
  exact zVY (hqk q hq) _
inductive Rule where
 |never (t:Nat) (qs:List Test)|apart (t u:Nat) (qs:List Test)|tie (t:Nat) (cs:List Nat) (u:Nat) (ds:List Nat)
def zNF:List Nat:=[110,101,118,101,114]
def zNG:List Nat:=[97,112,97,114,116]
def zYX:List Nat:=[116,105,101]
def zP:Rule->MV
 |.never t qs=>.tup [.str zNF,.int (t:Nat),.tup (qs.map testM)]
 |.apart t u qs=>.tup [.str zNG,.int (t:Nat),.int (u:Nat),.tup (qs.map testM)]
 |.tie t cs u ds=>.tup [.str zYX,.int (t:Nat),.tup (cs.map zF),.int (u:Nat),.tup (ds.map zF)]
def cV(ts:List (Int×Int)):Rule->Prop
 |.never t qs=>t<ts.length/\1<=qs.length/\qs.length<=3/\ ∀q∈qs,zRG [wid ts t] q
 |.apart t u qs=>t<ts.length/\u<ts.length/\1<=qs.length/\qs.length<=3/\ ∀q∈qs,zRG [wid ts t,wid ts u] q
 |.tie t cs u ds=>t<ts.length/\u<ts.length/\1<=cs.length/\cs.length<=3/\ds.length=cs.length/\(∀c∈cs,(c:Int)<wid ts t)/\ ∀d∈ds,(d:Int)<wid ts u
theorem zPE{ts:List (Int×Int)}{r:Rule}(h:cV ts r)(n:Nat):lo n (zP r):=by
 have nm: ∀(cs:List Nat),lo n (.tup (cs.map zF)):=λcs=>wE (yO λe he=>by
  obtain⟨c,_,rfl⟩:=mM.mp he
  exact wQ _ _)
 cases r with
 |never t qs=>
  refine wE (yO λe he=>?_)
  simp only [mC,nM0,or_false]at he
  rcases he with rfl|rfl|rfl
  ·exact zHG _ _
  ·exact wQ _ _
  ·exact wE (yO λe he=>by obtain⟨q,hq,rfl⟩:=mM.mp he;exact zVY (h.2.2.2 q hq) n)
 |apart t u qs=>
  refine wE (yO λe he=>?_)
  simp only [mC,nM0,or_false]at he
  rcases he with rfl|rfl|rfl|rfl
  ·exact zHG _ _
  ·exact wQ _ _
  ·exact wQ _ _
  ·exact wE (yO λe he=>by obtain⟨q,hq,rfl⟩:=mM.mp he;exact zVY (h.2.2.2.2 q hq) n)
 |tie t cs u ds=>
  refine wE (yO λe he=>?_)
  simp only [mC,nM0,or_false]at he
  rcases he with rfl|rfl|rfl|rfl|rfl
  ·exact zHG _ _
  ·exact wQ _ _
  ·exact nm cs
  ·exact wQ _ _
  ·exact nm ds
theorem yBV(r:Rule)(l:Nat):zP r≠.loc l:=by cases r<;>(intro h;cases h)
abbrev U9(c:MV)(tb:MV)(lp l:Nat)(k t u:Option MV)(x7 x8 x9:Option MV):Rho:=[some c,some tb,some (.loc lp),some (.loc l),k,t,u,x7,x8,x9]
theorem tup1(a:MV)(S:Sto):nX [.val a] S=.ok (.val (.tup [a])) S:=zHK (by simp)
theorem tup4(a b c d:MV)(S:Sto):nX [.val a,.val b,.val c,.val d] S=.ok (.val (.tup [a,b,c,d])) S:=zHK (by simp)
theorem tup5(a b c d e:MV)(S:Sto):nX [.val a,.val b,.val c,.val d,.val e] S=.ok (.val (.tup [a,b,c,d,e])) S:=zHK (by simp)
theorem yDQ{ts:List (Int×Int)}(hT:TOk ts){t:Nat}(ht:t<ts.length){ef:Rho->Sto->R Er}{ρb:Rho}{S:Sto}{x:Int}{mi:Int}
  (hef: ∀(d:MV)(y:Int),ef (ρb.set 0 (some d)) (SN S y)=zT 2 zK [.val (.loc S.length),.val (.int (wid ts t))] (SN S y)): ∃(cs:List Nat)(x':Int),yT (gNm 0) (λρ S=>(R.ok true S)) ef ρb [] ((List.range mi.toNat).map λk=>MV.int (k:Nat)) (SN S x)=.ok (cs.map zF) (SN S x')/\cs.length=mi.toNat/\ ∀c∈cs,(c:Int)<wid ts t:=by
 have hw:=yBU hT ht
 obtain⟨out,S',e,⟨x',rfl⟩,hl,hp⟩:=zPB (gf:=gNm 0) (cf:=λρ S=>(R.ok true S)) (ef:=ef) (ρb:=ρb) (gs:=[]) (P:=λy=> ∃c:Nat,y=zF c/\(c:Int)<wid ts t) (I:=λS'=> ∃y,S'=SN S y) (ds:=(List.range mi.toNat).map λk=>MV.int (k:Nat)) (S:=SN S x) (λd hd S1 ⟨y,hy⟩=>by
  subst hy
  have h0:0<=y % wid ts t:=eN _ (by omega)
  have h1:y % wid ts t<wid ts t:=eL _ (by omega)
  obtain⟨c,hc⟩:=Int.eq_ofNat_of_zero_le h0
  refine⟨ρb.set 0 (some d),.int (y % wid ts t),SN S (y / wid ts t),rfl,rfl,?_,⟨c,by rw [hc];rfl,by omega⟩,⟨_,rfl⟩,kL _⟩
  rw [hef,zFP S y (by omega) (by omega)]) ⟨x,rfl⟩
 have: ∀(o:List MV),(∀y∈o, ∃c:Nat,y=zF c/\(c:Int)<wid ts t)-> ∃cs:List Nat,o=cs.map zF/\ ∀c∈cs,(c:Int)<wid ts t:=by
  intro o
  induction o with
  |nil=>exact λ_=>⟨[],rfl,λc hc=>by simp at hc⟩
  |cons a o ih=>
   intro h
   obtain⟨c,rfl,hc⟩:=h a mF0
   obtain⟨cs,rfl,hcs⟩:=ih λy hy=>h y (mO _ hy)
   exact⟨c::cs,rfl,λd hd=>(mC.mp hd).elim (λe=>e▸hc) (hcs d)⟩
 obtain⟨cs,rfl,hcs⟩:=this out hp
 exact⟨cs,x',e,by rw [lM,lM,length_range]at hl;exact hl,hcs⟩
theorem yNW{ts:List (Int×Int)}(hT:TOk ts)(c:Int){lp:Nat}{vs:List MV}{S:Sto}(hV:VOk vs)(hP:S[lp]? =some (.lst vs)):
  ∃r,cV ts r/\zT 3 wA [.val (.int c),.val (.tup (ts.map tbl)),.val (.loc lp)] S=.ok (.val (zP r)) S:=by
 obtain⟨n,hn⟩:=zLI c 4 ⟨by decide,by decide⟩ S
 have hlp:lp<S.length:=(gS0.mp hP).1
 have hne:S.length≠lp:=by omega
 have hPn: ∀x,(SN S x)[lp]? =some (.lst vs):=λx=>by rw [getElem?_append_left hlp];exact hP
 have hp:0<ts.length:=hT.1
 have hl4:=hT.2.1
 have hlen: ∀S,dX [.val (.tup (ts.map tbl))] S=.ok (.val (.int ts.length)) S:=λS=>by rw [zJE,lM]
 have fin: ∀(r:Rule)(x:Int),cV ts r->wA [.int c,.tup (ts.map tbl),.loc lp] S=.ok (.val (zP r)) (SN S x)-> ∃r,cV ts r/\zT 3 wA [.val (.int c),.val (.tup (ts.map tbl)),.val (.loc lp)] S=.ok (.val (zP r)) S:=
  λr x hr h=>⟨r,hr,wY (T:=[.lst [.int x]]) rfl h (zPE hr _) (yBV r)⟩
 have hs:zR dM [.int c,.tup (ts.map tbl),.loc lp]=[some (.int c),some (.tup (ts.map tbl)),some (.loc lp),none,none,none,none,none,none,none]:=rfl
 have e1:zDJ [some (.int c),some (.tup (ts.map tbl)),some (.loc lp),none,none,none,none,none,none,none] S=.ok (.next (U9 (.int c) (.tup (ts.map tbl)) lp S.length none none none none none none)) (SN S n):=by
  unfold zDJ
  simp? [hn]
 have e2:zDK (U9 (.int c) (.tup (ts.map tbl)) lp S.length none none none none none none) (SN S n)=.ok (.next (U9 (.int c) (.tup (ts.map tbl)) lp S.length (some (.int (n % 3))) none none none none none)) (SN S (n / 3)):=by
  unfold zDK
  simp? [zFP S n (n:=3) (by decide) (by decide)]
 obtain⟨t,ht,htl⟩:=zEN (n / 3) hp
 have e3:zDL (U9 (.int c) (.tup (ts.map tbl)) lp S.length (some (.int (n % 3))) none none none none none) (SN S (n / 3))=.ok (.next (U9 (.int c) (.tup (ts.map tbl)) lp S.length (some (.int (n % 3))) (some (.int (t:Nat))) none none none none)) (SN S (n / 3 / ts.length)):=by
  unfold zDL
  simp? [hlen,zFP S (n / 3) (n:=(ts.length:Int)) (by omega) (by omega)]
  rw [ht]
 obtain⟨u,hu,hul⟩:=zEN (n / 3 / ts.length) hp
 have e4:zDM (U9 (.int c) (.tup (ts.map tbl)) lp S.length (some (.int (n % 3))) (some (.int (t:Nat))) none none none none) (SN S (n / 3 / ts.length))=.ok (.next (U9 (.int c) (.tup (ts.map tbl)) lp S.length (some (.int (n % 3))) (some (.int (t:Nat))) (some (.int (u:Nat))) none none none)) (SN S (n / 3 / ts.length / ts.length)):=by
  unfold zDM
  simp? [hlen,zFP S (n / 3 / ts.length) (n:=(ts.length:Int)) (by omega) (by omega)]
  rw [hu]
 generalize n / 3 / ts.length / ts.length=x4 at e4
 cases hb:decide (n % 3=0)with
 |true=>
  obtain⟨qs,x',q1,q2,q3,hc⟩:=zYW hT (th:=[t]) ⟨by simp,by simp,λz hz=>by rw [mS.mp hz];exact htl⟩ hne hV (hPn x4) (yDM S x4)
  rw [zVU]at hc
  have e5:jV (U9 (.int c) (.tup (ts.map tbl)) lp S.length (some (.int (n % 3))) (some (.int (t:Nat))) (some (.int (u:Nat))) none none none) (SN S x4)=.ok (.ret (.val (zP (.never t qs)))) (SN S x'):=by
   unfold jV
   have hc':zT 4 xG [.val (.loc S.length),.val (.tup [.int (t:Nat)]),.val (.tup (ts.map tbl)),.val (.loc lp)] (SN S x4)=.ok (.val (.tup (qs.map testM))) (SN S x'):=hc
   simp? [hb,tup1,hc']
   rfl
  refine fin (.never t qs) x' ⟨htl,q1,q2,q3⟩ ?_
  unfold wA zBZ
  rw [hs,zC e1,zC e2,zC e3,zC e4,yR e5]
  rfl
 |false=>
  have e5:jV (U9 (.int c) (.tup (ts.map tbl)) lp S.length (some (.int (n % 3))) (some (.int (t:Nat))) (some (.int (u:Nat))) none none none) (SN S x4)=.ok (.next (U9 (.int c) (.tup (ts.map tbl)) lp S.length (some (.int (n % 3))) (some (.int (t:Nat))) (some (.int (u:Nat))) none none none)) (SN S x4):=by
   unfold jV
   simp? [hb]
   rfl
  cases hb2:decide (n % 3=1)with
  |true=>
   obtain⟨qs,x',q1,q2,q3,hc⟩:=zYW hT (th:=[t,u]) ⟨by simp,by simp,λz hz=>by simp at hz;rcases hz with rfl|rfl;(exact htl);exact hul⟩ hne hV (hPn x4) (yDM S x4)
   rw [zVU]at hc
   have e6:jW (U9 (.int c) (.tup (ts.map tbl)) lp S.length (some (.int (n % 3))) (some (.int (t:Nat))) (some (.int (u:Nat))) none none none) (SN S x4)=.ok (.ret (.val (zP (.apart t u qs)))) (SN S x'):=by
    unfold jW
    have hc':zT 4 xG [.val (.loc S.length),.val (.tup [.int (t:Nat),.int (u:Nat)]),.val (.tup (ts.map tbl)),.val (.loc lp)] (SN S x4)=.ok (.val (.tup (qs.map testM))) (SN S x'):=hc
    simp? [hb2,tup4,hc']
    rfl
   refine fin (.apart t u qs) x' ⟨htl,hul,q1,q2,q3⟩ ?_
   unfold wA zBZ
   rw [hs,zC e1,zC e2,zC e3,zC e4,zC e5,yR e6]
   rfl
  |false=>
   have e6:jW (U9 (.int c) (.tup (ts.map tbl)) lp S.length (some (.int (n % 3))) (some (.int (t:Nat))) (some (.int (u:Nat))) none none none) (SN S x4)=.ok (.next (U9 (.int c) (.tup (ts.map tbl)) lp S.length (some (.int (n % 3))) (some (.int (t:Nat))) (some (.int (u:Nat))) none none none)) (SN S x4):=by
    unfold jW
    simp? [hb2]
    rfl
   obtain⟨m,hm⟩:=cZ (xs:=[MV.int 1,MV.int 2,MV.int 1,MV.int 3,MV.int 1]) (i:=x4 % 5) (eN _ (by decide)) (by have:=eL x4 (show(0:Int)<5 by decide);show x4 % 5<5;exact this)
   obtain⟨mi,rfl,m1,m3⟩: ∃v,m=.int v/\1<=v/\v<=3:=dA (P:=λe=> ∃v,e=.int v/\(1:Int)<=v/\v<=3) (by
    intro e he;simp only [mC,nM0,or_false]at he
    rcases he with rfl|rfl|rfl|rfl|rfl<;>exact⟨_,rfl,by decide,by decide⟩) hm
   have e7:zDN (U9 (.int c) (.tup (ts.map tbl)) lp S.length (some (.int (n % 3))) (some (.int (t:Nat))) (some (.int (u:Nat))) none none none) (SN S x4)=.ok (.next (U9 (.int c) (.tup (ts.map tbl)) lp S.length (some (.int (n % 3))) (some (.int (t:Nat))) (some (.int (u:Nat))) (some (.int mi)) none none)) (SN S (x4 / 5)):=by
    unfold zDN
    simp? [lst5,zFP S x4 (n:=5) (by decide) (by decide),zQI hm]
   obtain⟨cs,x8,hcs,hcl,hcw⟩:=yDQ hT htl (ef:=gE) (ρb:=[none,some (.tup (ts.map tbl)),some (.loc S.length),some (.int (t:Nat))]) (S:=S) (x:=x4 / 5) (mi:=mi) (λd y=>by
    obtain⟨e,i1,i2⟩:=zVV htl (SN S y)
    show gE [some d,some (.tup (ts.map tbl)),some (.loc S.length),some (.int (t:Nat))] (SN S y)=_
    unfold gE
    simp? [i1,i2])
   have hll:((List.range mi.toNat).map λk=>MV.int (k:Nat)).length<1000000:=by rw [lM,length_range];omega
   have e8:zDO (U9 (.int c) (.tup (ts.map tbl)) lp S.length (some (.int (n % 3))) (some (.int (t:Nat))) (some (.int (u:Nat))) (some (.int mi)) none none) (SN S (x4 / 5))=.ok (.next (U9 (.int c) (.tup (ts.map tbl)) lp S.length (some (.int (n % 3))) (some (.int (t:Nat))) (some (.int (u:Nat))) (some (.int mi)) (some (.tup (cs.map zF))) none)) (SN S x8):=by
    unfold zDO
    simp? [dY (S:=SN S (x4 / 5)) (show -(2 ^ 62)<=mi/\mi<2 ^ 62 by omega)]
    rw [iP hll]
    rw [show blk 1 [1,3,5] (U9 (.int c) (.tup (ts.map tbl)) lp S.length (some (.int (n % 3))) (some (.int (t:Nat))) (some (.int (u:Nat))) (some (.int mi)) none none)=[none,some (.tup (ts.map tbl)),some (.loc S.length),some (.int (t:Nat))]from rfl]
    rw [show zGN=(λρ S=>(R.ok true S))from rfl,hcs]
    rfl
   obtain⟨ds,x9,hds,hdl,hdw⟩:=yDQ hT hul (ef:=gF) (ρb:=[none,some (.tup (ts.map tbl)),some (.loc S.length),some (.int (u:Nat))]) (S:=S) (x:=x8) (mi:=mi) (λd y=>by
    obtain⟨e,i1,i2⟩:=zVV hul (SN S y)
    show gF [some d,some (.tup (ts.map tbl)),some (.loc S.length),some (.int (u:Nat))] (SN S y)=_
    unfold gF
    simp? [i1,i2])
   have e9:zDP (U9 (.int c) (.tup (ts.map tbl)) lp S.length (some (.int (n % 3))) (some (.int (t:Nat))) (some (.int (u:Nat))) (some (.int mi)) (some (.tup (cs.map zF))) none) (SN S x8)=.ok (.next (U9 (.int c) (.tup (ts.map tbl)) lp S.length (some (.int (n % 3))) (some (.int (t:Nat))) (some (.int (u:Nat))) (some (.int mi)) (some (.tup (cs.map zF))) (some (.tup (ds.map zF))))) (SN S x9):=by
    unfold zDP
    simp? [dY (S:=SN S x8) (show -(2 ^ 62)<=mi/\mi<2 ^ 62 by omega)]
    rw [iP hll]
    rw [show blk 1 [1,3,6] (U9 (.int c) (.tup (ts.map tbl)) lp S.length (some (.int (n % 3))) (some (.int (t:Nat))) (some (.int (u:Nat))) (some (.int mi)) (some (.tup (cs.map zF))) none)=[none,some (.tup (ts.map tbl)),some (.loc S.length),some (.int (u:Nat))]from rfl]
    rw [show zGO=(λρ S=>(R.ok true S))from rfl,hds]
    rfl
   have e10:zAY (U9 (.int c) (.tup (ts.map tbl)) lp S.length (some (.int (n % 3))) (some (.int (t:Nat))) (some (.int (u:Nat))) (some (.int mi)) (some (.tup (cs.map zF))) (some (.tup (ds.map zF)))) (SN S x9)=.ok (.ret (.val (zP (.tie t cs u ds)))) (SN S x9):=by
    unfold zAY
    simp? [tup5]
    rfl
   refine fin (.tie t cs u ds) x9 ⟨htl,hul,by omega,by omega,by omega,hcw,hdw⟩ ?_
   unfold wA zBZ
   rw [hs,zC e1,zC e2,zC e3,zC e4,zC e5,zC e6,zC e7,zC e8,zC e9,e10]
   rfl
def kM(rs:List (Nat×List MV)):Side->MV
 |.isv v=>v
 |.cell k j=>((rs[k]?).bind λr=>r.2[j]?).getD .non
def zSM(ws:List Int)(rs:List (Nat×List MV)):Prop:= ∀(k:Nat)(w:Int),ws[k]? =some w-> ∃r:Nat×List MV,rs[k]? =some r/\(r.2.length:Int)=w/\ ∀d∈r.2,Vl d
theorem zAB{α:Type}{xs:List α}{k:Nat}{x:α}(h:xs[k]? =some x):atI xs (k:Int)=some x:=by
 have hl:k<xs.length:=(gS0.mp h).1
 unfold atI ixN
 rw [iP (by omega),iP (by omega)]
 show xs[(k:Int).toNat]? =_
 rw [toNat_natCast,h]
theorem zVZ{ws:List Int}{rs:List (Nat×List MV)}(hR:zSM ws rs){k j:Nat}(h:zVW ws (.cell k j)): ∃(r:Nat×List MV)(v:MV),rs[k]? =some r/\r.2[j]? =some v/\Vl v/\kM rs (.cell k j)=v:=by
 obtain⟨w,h1,h2⟩:=h
 obtain⟨r,h3,h4,h5⟩:=hR k w h1
 have hj:j<r.2.length:=by omega
 refine⟨r,r.2[j],h3,gE0 hj,h5 _ (getElem_mem hj),?_⟩
 show((rs[k]?).bind λr=>r.2[j]?).getD .non=_
 rw [h3]
 show(r.2[j]?).getD .non=_
 rw [gE0 hj]
 rfl
theorem zEO{ws:List Int}{rs:List (Nat×List MV)}(hR:zSM ws rs){sd:Side}(h:zVW ws sd):Vl (kM rs sd):=by
 cases sd with
 |isv v=>exact h
 |cell k j=>obtain⟨r,v,_,_,h3,h4⟩:=zVZ hR h;rw [h4];exact h3
theorem zYY{d:MV}(h:Vl d)(l:Nat):d≠.loc l:=by
 rcases h.cases with⟨i,rfl,_⟩|⟨x,rfl,_⟩<;>simp
theorem est(x y:List Nat)(S:Sto):eqF (.val (.str x)) (.val (.str y)) S=.ok (.val (.bl (decide (x=y)))) S:=yBD (zLA _ x y)
theorem eqV{a b:MV}(ha:Vl a)(hb:Vl b)(S:Sto):eqF (.val a) (.val b) S=.ok (.val (.bl (decide (a=b)))) S:=yNM (zCC ha).1 (zCC hb).1 (by rw [(zCC ha).2];decide)
theorem neV{a b:MV}(ha:Vl a)(hb:Vl b)(S:Sto):neF (.val a) (.val b) S=.ok (.val (.bl (!decide (a=b)))) S:=zMN (zEM (zZ+1) (zCC ha).1 (zCC hb).1 (by rw [(zCC ha).2];exact Nat.succ_pos _))
theorem zLL{ws:List Int}{rs:List (Nat×List MV)}(hR:zSM ws rs){sd:Side}(h:zVW ws sd){m:MV}{S:Sto}(hm:SqM S m (rs.map zL)):zT 2 bD [.val (zY sd),.val m] S=.ok (.val (kM rs sd)) S:=by
 have hv:=zEO hR h
 refine zAG rfl ?_ (hv.lo _) (zYY hv)
 show yH (zFD [some (zY sd),some m] S)=_
 unfold zFD
 cases sd with
 |isv v=>
  have e1:kQ [some (zY (.isv v)),some m] S=.ok (.ret (.val v)) S:=by
   unfold kQ
   simp? [ix_tup (S:=S) (ds:=[.str sIs,v]) (i:=0) rfl,ix_tup (S:=S) (ds:=[.str sIs,v]) (i:=1) rfl,est]
   rfl
  rw [yR e1]
  rfl
 |cell k j=>
  obtain⟨r,v,h1,h2,h3,h4⟩:=zVZ hR h
  have e1:kQ [some (zY (.cell k j)),some m] S=.ok (.next [some (zY (.cell k j)),some m]) S:=by
   unfold kQ
   simp? [ix_tup (S:=S) (ds:=[.str yJS,.int k,.int j]) (i:=0) rfl,est]
   rfl
  have hk:atI (rs.map zL) (k:Int)=some (zL r):=zAB (by rw [getElem?_map,h1];rfl)
  have e2:zAO [some (zY (.cell k j)),some m] S=.ok (.ret (.val v)) S:=by
   unfold zAO
   simp? [show ixF (.val (zY (.cell k j))) (.val (.int 1)) S=.ok (.val (.int (k:Nat))) S from ix_tup rfl,show ixF (.val (zY (.cell k j))) (.val (.int 2)) S=.ok (.val (.int (j:Nat))) S from ix_tup rfl,hm.ix hk,show ixF (.val (zL r)) (.val (.int 1)) S=.ok (.val (.tup r.2)) S from ix_tup rfl,ix_tup (S:=S) (zAB h2)]
  rw [zC e1,e2,h4]
  rfl
theorem zLM{ws:List Int}{rs:List (Nat×List MV)}(hR:zSM ws rs){sd:Side}(h:zVW ws sd){m:MV}{S:Sto}(hm:SqM S m (rs.map zL)):zT 2 bO [.val (zY sd),.val m] S=.ok (.val (kM rs sd)) S:=by
 have hv:=zEO hR h
 refine zAG rfl ?_ (hv.lo _) (zYY hv)
 show yH (zFN [some (zY sd),some m] S)=_
 unfold zFN
 cases sd with
 |isv v=>
  have e1:kW [some (zY (.isv v)),some m] S=.ok (.ret (.val v)) S:=by
   unfold kW
   simp? [ix_tup (S:=S) (ds:=[.str sIs,v]) (i:=0) rfl,ix_tup (S:=S) (ds:=[.str sIs,v]) (i:=1) rfl,est]
   rfl
  rw [yR e1]
  rfl
 |cell k j=>
  obtain⟨r,v,h1,h2,h3,h4⟩:=zVZ hR h
  have e1:kW [some (zY (.cell k j)),some m] S=.ok (.next [some (zY (.cell k j)),some m]) S:=by
   unfold kW
   simp? [ix_tup (S:=S) (ds:=[.str yJS,.int k,.int j]) (i:=0) rfl,est]
   rfl
  have hk:atI (rs.map zL) (k:Int)=some (zL r):=zAB (by rw [getElem?_map,h1];rfl)
  have e2:zAZ [some (zY (.cell k j)),some m] S=.ok (.ret (.val v)) S:=by
   unfold zAZ
   simp? [show ixF (.val (zY (.cell k j))) (.val (.int 1)) S=.ok (.val (.int (k:Nat))) S from ix_tup rfl,show ixF (.val (zY (.cell k j))) (.val (.int 2)) S=.ok (.val (.int (j:Nat))) S from ix_tup rfl,hm.ix hk,show ixF (.val (zL r)) (.val (.int 1)) S=.ok (.val (.tup r.2)) S from ix_tup rfl,ix_tup (S:=S) (zAB h2)]
  rw [zC e1,e2,h4]
  rfl
def ltV:MV->MV->Bool
 |.int i,.int j=>decide (i<j)
 |_,_=>false
def zTY:List Nat:=[115,97,109,101]
def zLN:List Nat:=[117,110,108,105,107,101]
noncomputable def zBG(rs:List (Nat×List MV))(q:Test):Bool:=if q.w=zTY then decide (kM rs q.l=kM rs q.r)else if q.w=zLN then !decide (kM rs q.l=kM rs q.r)else ltV (kM rs q.l) (kM rs q.r)
theorem ySN(i:Int)(S:Sto):zGS [.val (.int i),.val (.typ "int")] S=.ok (.val (.bl true)) S:=rfl
theorem ySO(i:Int)(S:Sto):zGS [.val (.int i),.val (.typ "bool")] S=.ok (.val (.bl false)) S:=rfl
theorem ySP(i:List Nat)(S:Sto):zGS [.val (.str i),.val (.typ "int")] S=.ok (.val (.bl false)) S:=rfl
theorem zPF{n:Nat}{F:List MV->Sto->R Er}{rs:List Er}{S T:Sto}{b:Bool}(hn:rs.length=n)(hF:F (zV rs S).1 (zV rs S).2=.ok (.val (.bl b)) (S++T)):zT n F rs S=.ok (.val (.bl b)) S:=wY hn hF (yPA _ _) (λl=>by simp)
theorem jY{n:Nat}{F:List MV->Sto->R Er}{rs:List Er}{S:Sto}{b:Bool}(hn:rs.length=n)(hF:F (zV rs S).1 (zV rs S).2=.ok (.val (.bl b)) S):zT n F rs S=.ok (.val (.bl b)) S:=zAG hn hF (yPA _ _) (λl=>by simp)
theorem yDR{d:MV}(h:Vl d)(S:Sto):zT 1 zAN [.val d] S=.ok (.val (.bl (match d with |.int _=>true|_=>false))) S:=jY rfl (by
 rcases h.cases with⟨i,rfl,_⟩|⟨x,rfl,_⟩
 ·show yH (zAM [some (.int i)] S)=_
  unfold zAM zFC
  simp? [ySN,ySO,zSD]
  rfl
 ·show yH (zAM [some (.str x)] S)=_
  unfold zAM zFC
  simp? [ySP,zSD]
  rfl)
theorem yGE{ws:List Int}{rs:List (Nat×List MV)}(hR:zSM ws rs){q:Test}(h:zRG ws q){m:MV}{S:Sto}(hm:SqM S m (rs.map zL)):zT 2 zIZ [.val m,.val (testM q)] S=.ok (.val (.bl (zBG rs q))) S:=jY rfl (by
 have ha:=zEO hR h.1
 have hb:=zEO hR h.2.2
 have t0: ∀S,ixF (.val (testM q)) (.val (.int 0)) S=.ok (.val (zY q.l)) S:=λS=>ix_tup rfl
 have t1: ∀S,ixF (.val (testM q)) (.val (.int 1)) S=.ok (.val (.str q.w)) S:=λS=>ix_tup rfl
 have t2: ∀S,ixF (.val (testM q)) (.val (.int 2)) S=.ok (.val (zY q.r)) S:=λS=>ix_tup rfl
 show yH (zMV [some m,some (testM q),none,none] S)=_
 have e1:zHP [some m,some (testM q),none,none] S=.ok (.next [some m,some (testM q),some (kM rs q.l),none]) S:=by
  unfold zHP
  simp? [t0,zLL hR h.1 hm]
 have e2:zHQ [some m,some (testM q),some (kM rs q.l),none] S=.ok (.next [some m,some (testM q),some (kM rs q.l),some (kM rs q.r)]) S:=by
  unfold zHQ
  simp? [t2,zLL hR h.2.2 hm]
 unfold zBG
 generalize kM rs q.l=a at ha e1 e2
 generalize kM rs q.r=b at hb e2
 have e3:zHR [some m,some (testM q),some a,some b] S=if decide (q.w=zTY)=true then .ok (.ret (.val (.bl (decide (a=b))))) S else .ok (.next [some m,some (testM q),some a,some b]) S:=by
  unfold zHR
  simp? [t1,est,eqV ha hb]
  rfl
 have e4:zHS [some m,some (testM q),some a,some b] S=if decide (q.w=zLN)=true then .ok (.ret (.val (.bl (!decide (a=b))))) S else .ok (.next [some m,some (testM q),some a,some b]) S:=by
  unfold zHS
  simp? [t1,est,neV ha hb]
  rfl
 have e5:zHT [some m,some (testM q),some a,some b] S=.ok (.ret (.val (.bl (ltV a b)))) S:=by
  unfold zHT
  rcases ha.cases with⟨i,rfl,_⟩|⟨x,rfl,_⟩<;>rcases hb.cases with⟨j,rfl,_⟩|⟨y,rfl,_⟩<;>(simp? [yDR ha,yDR hb,zSD,lt_int];rfl)
 unfold zMV
 rw [zC e1,zC e2]
 by_cases h1:q.w=zTY
 ·rw [dT0 h1,iP rfl]at e3
  rw [yR e3,iP h1]
  rfl
 ·rw [dF0 h1,iN xF0]at e3
  rw [zC e3,iN h1]
  by_cases h2:q.w=zLN
  ·rw [dT0 h2,iP rfl]at e4
   rw [yR e4,iP h2]
   rfl
  ·rw [dF0 h2,iN xF0]at e4
   rw [zC e4,iN h2,e5]
   rfl)
theorem cW{α:Type}{f g:α->MV}{S:Sto}{gf:MV->Rho->Sto->R Rho}{cf:Rho->Sto->R Bool}{ef:Rho->Sto->R Er}{ρb:Rho}{gs:List (Nat×List MV)}(hs:stay gs S):
  ∀{ds:List α},(∀d∈ds, ∃ρ1,gf (f d) ρb S=.ok ρ1 S/\cf ρ1 S=.ok true S/\ef ρ1 S=.ok (.val (g d)) S)->yT gf cf ef ρb gs (ds.map f) S=.ok (ds.map g) S
 |[],_=>rfl
 |d::ds,st=>by
  obtain⟨ρ1,h1,h2,h3⟩:=st d mF0
  have e:=cW hs (f:=f) (g:=g) (ds:=ds) λd hd=>st d (mO _ hd)
  rw [map_cons]
  unfold yT
  rw [h1,yG,bok,h2,yG,bok,iP rfl,h3,yG,bok]
  unfold cE
  rw [bok,iP hs,e]
  rfl
theorem yNX{α:Type}(f:α->Bool)(xs:List α)(S:Sto):allF [.new (xs.map λx=>.bl (f x))] S=.ok (.val (.bl (xs.all f))) S:=by
 have h: ∀xs:List α,zBQ (xs.map λx=>.bl (f x))=some (xs.map f):=by
  intro xs
  induction xs with
  |nil=>rfl
  |cons x xs ih=>rw [map_cons,map_cons];unfold zBQ;rw [ih];rfl
 show(match (some (xs.map λx=>MV.bl (f x))).bind zBQ with |some bs=>R.ok (Er.val (.bl (bs.all id))) S|none=>.no)=_
 rw [show(some (xs.map λx=>MV.bl (f x))).bind zBQ=some (xs.map f)from h xs]
 show R.ok (Er.val (.bl ((xs.map f).all id))) S=_
 rw [List.all_map]
 rfl
theorem dD(ds:List MV)(S:Sto):itT (.val (.tup ds)) S=.ok ⟨ds,[]⟩ S:=rfl
theorem c_all{ws:List Int}{rs:List (Nat×List MV)}(hR:zSM ws rs){qs:List Test}(hl:qs.length<=3)(h: ∀q∈qs,zRG ws q)(S:Sto):zT 2 jP [.new (rs.map zL),.val (.tup (qs.map testM))] S=.ok (.val (.bl (qs.all (zBG rs)))) S:=zPF (T:=[.lst (rs.map zL)]) rfl (by
 show yH (zCJ [some (.loc S.length),some (.tup (qs.map testM))] (S++[.lst (rs.map zL)]))=_
 have hm:SqM (S++[.lst (rs.map zL)]) (.loc S.length) (rs.map zL):=.inr ⟨_,rfl,by simp⟩
 have hc:yT (gNm 0) zBU bE [none,some (.loc S.length)] [] (qs.map testM) (S++[.lst (rs.map zL)])=.ok (qs.map λq=>.bl (zBG rs q)) (S++[.lst (rs.map zL)]):=cW (kL _) λq hq=>⟨[some (testM q),some (.loc S.length)],rfl,rfl,by
  unfold bE
  simp? [yGE hR (h q hq) hm]⟩
 unfold zCJ zGH
 simp? [dD,show((qs.map testM).length<1000000)=True from eq_true (by rw [lM];omega),show blk 1 [0] [some (.loc S.length),some (.tup (qs.map testM))]=[none,some (.loc S.length)]from rfl,hc,yNX]
 rfl)
theorem ge_int(i j:Int)(S:Sto):geF (.val (.int i)) (.val (.int j)) S=.ok (.val (.bl (decide (j<=i)))) S:=rfl
abbrev H7(ts rw:MV)(a b c d e:Option MV):Rho:=[some ts,some rw,a,b,c,d,e]
theorem yGF{ws:List Int}{rs:List (Nat×List MV)}(hR:zSM ws rs){q:Test}(h:zRG ws q){ts m:MV}{S:Sto}(hm:SqM S m (rs.map zL)){d e:Option MV}: ∃d' e',dC (H7 ts m (some (zY q.l)) (some (.str q.w)) (some (zY q.r)) d e) S=if zBG rs q=true then .ok (.next (H7 ts m (some (zY q.l)) (some (.str q.w)) (some (zY q.r)) d' e')) S else .ok (.ret (.val (.bl false))) S:=by
 have ha:=zEO hR h.1
 have hb:=zEO hR h.2.2
 have e1:nQ (H7 ts m (some (zY q.l)) (some (.str q.w)) (some (zY q.r)) d e) S=.ok (.next (H7 ts m (some (zY q.l)) (some (.str q.w)) (some (zY q.r)) (some (kM rs q.l)) e)) S:=by
  unfold nQ
  simp? [zLM hR h.1 hm]
 have e2:nR (H7 ts m (some (zY q.l)) (some (.str q.w)) (some (zY q.r)) (some (kM rs q.l)) e) S=.ok (.next (H7 ts m (some (zY q.l)) (some (.str q.w)) (some (zY q.r)) (some (kM rs q.l)) (some (kM rs q.r)))) S:=by
  unfold nR
  simp? [zLM hR h.2.2 hm]
 refine⟨some (kM rs q.l),some (kM rs q.r),?_⟩
 unfold dC
 rw [zC e1,zC e2]
 unfold zBG
 generalize kM rs q.l=a at ha
 generalize kM rs q.r=b at hb
 have hw:=h.2.1
 generalize q.w=w at hw
 simp only [zVX,mC,nM0,or_false]at hw
 have e3:nS (H7 ts m (some (zY q.l)) (some (.str w)) (some (zY q.r)) (some a) (some b)) S=if((decide (w=[115,97,109,101])&& !decide (a=b)) || (decide (w=[117,110,108,105,107,101])&&decide (a=b)))=true then .ok (.ret (.val (.bl false))) S else .ok (.next (H7 ts m (some (zY q.l)) (some (.str w)) (some (zY q.r)) (some a) (some b))) S:=by
  unfold nS
  simp? [est,neV ha hb,eqV ha hb]
  cases decide (w=[115,97,109,101])<;>cases decide (w=[117,110,108,105,107,101])<;>cases decide (a=b)<;>rfl
 have e4:nT (H7 ts m (some (zY q.l)) (some (.str w)) (some (zY q.r)) (some a) (some b)) S=if(decide (w=[108,101,115,115])&& !ltV a b)=true then .ok (.ret (.val (.bl false))) S else .ok (.next (H7 ts m (some (zY q.l)) (some (.str w)) (some (zY q.r)) (some a) (some b))) S:=by
  unfold nT
  cases hd:decide (w=[108,101,115,115])with
  |false=>simp? [est,hd];rfl
  |true=>
   rcases ha.cases with⟨i,rfl,_⟩|⟨x,rfl,_⟩<;>rcases hb.cases with⟨j,rfl,_⟩|⟨y,rfl,_⟩
   ·simp? [est,hd,ge_int,fT0,iF]
    by_cases z:i<j
    ·rw [dF0 (show¬j<=i by omega),show ltV (.int i) (.int j)=true from dT0 z];rfl
    ·rw [dT0 (show j<=i by omega),show ltV (.int i) (.int j)=false from dF0 z];rfl
   all_goals (simp? [est,hd,fT0,iF];rfl)
 rcases hw with rfl|rfl|rfl
 ·rw [iP (show [115,97,109,101]=zTY from rfl)]
  cases hd:decide (a=b)with
  |true=>
   rw [hd]at e3
   rw [zC e3,e4];rfl
  |false=>
   rw [hd]at e3
   rw [yR e3];rfl
 ·rw [iN (show¬[117,110,108,105,107,101]=zTY by decide),iP (show [117,110,108,105,107,101]=zLN from rfl)]
  cases hd:decide (a=b)with
  |false=>
   rw [hd]at e3
   rw [zC e3,e4];rfl
  |true=>
   rw [hd]at e3
   rw [yR e3];rfl
 ·rw [iN (show¬[108,101,115,115]=zTY by decide),iN (show¬[108,101,115,115]=zLN by decide)]
  rw [zC e3,e4]
  cases ltV a b<;>rfl
theorem zTZ{ws:List Int}{rs:List (Nat×List MV)}(hR:zSM ws rs){ts m:MV}{S:Sto}(hm:SqM S m (rs.map zL)): ∀(qs:List Test)(a b c d e:Option MV),(∀q∈qs,zRG ws q)-> ∃ρ,cF (gTp 3 (yM (gNm 2) (yM (gNm 3) (yM (gNm 4) zBO)))) dC [] (qs.map testM) (H7 ts m a b c d e) S=if qs.all (zBG rs)=true then .ok (.next ρ) S else .ok (.ret (.val (.bl false))) S
 |[],a,b,c,d,e,_=>⟨_,rfl⟩
 |q::qs,a,b,c,d,e,h=>by
  obtain⟨d',e',ht⟩:=yGF hR (h q mF0) (ts:=ts) hm (d:=d) (e:=e)
  have hg:gTp 3 (yM (gNm 2) (yM (gNm 3) (yM (gNm 4) zBO))) (testM q) (H7 ts m a b c d e) S=.ok (H7 ts m (some (zY q.l)) (some (.str q.w)) (some (zY q.r)) d e) S:=rfl
  cases hq:zBG rs q with
  |true=>
   rw [hq,iP rfl]at ht
   obtain⟨ρ,hl⟩:=zTZ hR hm (ts:=ts) qs (some (zY q.l)) (some (.str q.w)) (some (zY q.r)) d' e' λz hz=>h z (mO _ hz)
   refine⟨ρ,?_⟩
   rw [map_cons,dI hg ht (kL S),hl,all_cons,hq,Bool.true_and]
  |false=>
   rw [hq,iN xF0]at ht
   refine⟨H7 ts m a b c d e,?_⟩
   rw [map_cons,zVC hg ht,all_cons,hq,Bool.false_and,iN xF0]
theorem ySQ{ws:List Int}{rs:List (Nat×List MV)}(hR:zSM ws rs){qs:List Test}(h: ∀q∈qs,zRG ws q)(S:Sto):zT 2 dQ [.val (.tup (qs.map testM)),.val (.tup (rs.map zL))] S=.ok (.val (.bl (qs.all (zBG rs)))) S:=jY rfl (by
 obtain⟨ρ,hl⟩:=zTZ hR (S:=S) (ts:=.tup (qs.map testM)) (m:=.tup (rs.map zL)) (.inl rfl) qs none none none none none h
 show yH (zIG (H7 (.tup (qs.map testM)) (.tup (rs.map zL)) none none none none none) S)=_
 have e1:zDY (H7 (.tup (qs.map testM)) (.tup (rs.map zL)) none none none none none) S=if qs.all (zBG rs)=true then .ok (.next ρ) S else .ok (.ret (.val (.bl false))) S:=by
  unfold zDY
  simp? [dD]
  exact hl
 unfold zIG
 cases hq:qs.all (zBG rs)with
 |true=>rw [hq,iP rfl]at e1;rw [zC e1];rfl
 |false=>rw [hq,iN xF0]at e1;rw [yR e1];rfl)
theorem rs1{ts:List (Int×Int)}{a:Nat×List MV}(h:ROk ts a){t:Nat}(e:a.1=t):zSM [wid ts t] [a]:=λk w hk=>by
 obtain⟨p,h1,h2,h3⟩:=h
 match k,hk with
 |0,hk=>
  cases hk
  subst e
  exact⟨a,rfl,by rw [zII h1];exact h2,h3⟩
abbrev ob(c:Str)(d:MV):MV:=.obj c ["parts"] [d]
theorem zOM(a:Nat×List MV)(S:Sto):ixF (.val (zL a)) (.val (.int 0)) S=.ok (.val (.int (a.1:Nat))) S:=ix_tup rfl
theorem row1(a:Nat×List MV)(S:Sto):ixF (.val (zL a)) (.val (.int 1)) S=.ok (.val (.tup a.2)) S:=ix_tup rfl
theorem fN(d:MV)(S:Sto):zJO OCS "parts" (.val (ob "Never" d)) S=.ok (.val d) S:=rfl
theorem fT(d:MV)(S:Sto):zJO OCS "parts" (.val (ob "Tie" d)) S=.ok (.val d) S:=rfl
abbrev Both(m:Str)(n:Nat)(tM:List (Str×(List MV->Sto->R Er)))(G:List MV->Sto->R Er)(d rl:MV)(xs:List Er)(b:Bool)(S:Sto):Prop:=
 ∃F,yBI m tM (.val d)=some F/\zT n F (.val d::xs) S=.ok (.val (.bl b)) S/\zT n G (.val rl::xs) S=.ok (.val (.bl b)) S
theorem yBW{ts:List (Int×Int)}{t:Nat}{qs:List Test}(h:cV ts (.never t qs)){a:Nat×List MV}(ha:ROk ts a)(S:Sto):Both "bars" 2 zBY kG (ob "Never" (zP (.never t qs))) (zP (.never t qs)) [.val (zL a)] (decide ((a.1:Int)=t)&&qs.all (zBG [a])) S:=by
 have r0: ∀S,ixF (.val (zP (.never t qs))) (.val (.int 0)) S=.ok (.val (.str zNF)) S:=λS=>ix_tup rfl
 have r1: ∀S,ixF (.val (zP (.never t qs))) (.val (.int 1)) S=.ok (.val (.int (t:Nat))) S:=λS=>ix_tup rfl
 have r2: ∀S,ixF (.val (zP (.never t qs))) (.val (.int 2)) S=.ok (.val (.tup (qs.map testM))) S:=λS=>ix_tup rfl
 refine⟨zFE,rfl,jY rfl ?_,jY rfl ?_⟩
 ·show yH (xY [some (ob "Never" (zP (.never t qs))),some (zL a)] S)=_
  unfold xY zHV
  cases hd:decide ((a.1:Int)=t)with
  |false=>simp? [zOM,fN,r1,hd,zSD];rfl
  |true=>
   have e:a.1=t:=by have:=of_decide_eq_true hd;omega
   have hc:zT 2 jP [.new [zL a],.val (.tup (qs.map testM))] S=.ok (.val (.bl (qs.all (zBG [a])))) S:=c_all (rs:=[a]) (rs1 ha e) h.2.2.1 h.2.2.2 S
   simp? [zOM,fN,r1,hd,zSD,r2,hc]
   rfl
 ·show yH (jX [some (zP (.never t qs)),some (zL a)] S)=_
  unfold jX nU
  cases hd:decide ((a.1:Int)=t)with
  |false=>simp? [zOM,r0,r1,est,hd,zSD];rfl
  |true=>
   have e:a.1=t:=by have:=of_decide_eq_true hd;omega
   have hc:zT 2 dQ [.val (.tup (qs.map testM)),.val (.tup [zL a])] S=.ok (.val (.bl (qs.all (zBG [a])))) S:=ySQ (rs:=[a]) (rs1 ha e) h.2.2.2 S
   simp? [zOM,r0,r1,r2,est,hd,zSD,tup1,hc]
   rfl
theorem yDS{x:List Nat}{more:List MV}{c:Str}(hs:yBI "bars" zBY (.val (ob c (.tup (.str x::more))))=some gM){rl:MV}(hrl: ∃y ms,rl=.tup (.str y::ms)/\y≠zNF)(a:MV)(S:Sto):Both "bars" 2 zBY kG (ob c (.tup (.str x::more))) rl [.val a] false S:=by
 obtain⟨y,ms,rfl,hy⟩:=hrl
 refine⟨gM,hs,jY rfl rfl,jY rfl ?_⟩
 show yH (jX [some (.tup (.str y::ms)),some a] S)=_
 unfold jX nU
 simp? [ix_tup (S:=S) (ds:=.str y::ms) (i:=0) (d:=.str y) (zAB (k:=0) rfl),est,show decide (y=[110,101,118,101,114])=false from dF0 hy,zSD]
 rfl
theorem zYZ{S:Sto}{l:Nat}{xs ys:List MV}(hS:S[l]? =some (.lst ys))(hx: ∀d∈xs,Vl d)(hy: ∀d∈ys,Vl d):eqF (.new xs) (.val (.loc l)) S=.ok (.val (.bl (decide (xs=ys)))) S:=by
 have hv:vwE S (.val (.loc l))=some (.ls ys):=by
  show(jB S (.val (.loc l))).map Vw.ls=_
  rw [zEH hS];rfl
 have e:zMI S zZ (.new xs) (.val (.loc l))=some (decide (xs=ys)):=by
  unfold zMI
  rw [hv,show vwE S (.new xs)=some (.ls xs)from rfl]
  show eqW (eqv S zZ) (.ls xs) (.ls ys)=_
  obtain⟨bs,h1,h2⟩:=zRC (e:=eqv S zZ) (ds:=xs) (es:=ys) λa ha b hb=>zEM zZ (zCC (hx a ha)).1 (zCC (hy b hb)).1 (by rw [(zCC (hx a ha)).2];decide)
  rw [zUV]
  by_cases hl:xs.length=ys.length
  ·rw [iP hl,h1]
   show some (bs.all id)=_
   rw [<-h2,hl]
   simp
  ·rw [iN hl,dF0 λz=>hl (by rw [z])]
 unfold eqF
 rw [e]
def yA(a:Nat×List MV)(cs:List Nat):List MV:=cs.map λc=>(a.2[c]?).getD .non
theorem yDT{a:Nat×List MV}(hv: ∀d∈a.2,Vl d){c:Nat}(h:c<a.2.length):atI a.2 (c:Int)=some ((a.2[c]?).getD .non)/\Vl ((a.2[c]?).getD .non):=by
 have e:=gE0 h
 rw [e]
 exact⟨zAB e,hv _ (getElem_mem h)⟩
theorem zLO{a:Nat×List MV}(hv: ∀d∈a.2,Vl d){cs:List Nat}(h: ∀c∈cs,c<a.2.length): ∀d∈yA a cs,Vl d:=λd hd=>by
 obtain⟨c,hc,rfl⟩:=mM.mp hd
 exact(yDT hv (h c hc)).2
theorem zKH{a:Nat×List MV}(hv: ∀d∈a.2,Vl d){cs:List Nat}(h: ∀c∈cs,c<a.2.length)(S:Sto){cf:Rho->Sto->R Bool}{ef:Rho->Sto->R Er}(hcf:cf=λ_ S=>.ok true S)(hef: ∀(c:Nat),ef [some (zF c),some (zL a)] S=ixF (.val (.tup a.2)) (.val (zF c)) S):yT (gNm 0) cf ef [none,some (zL a)] [] (cs.map zF) S=.ok (yA a cs) S:=cW (kL S) λc hc=>⟨[some (zF c),some (zL a)],rfl,by rw [hcf],by rw [hef];exact ix_tup (yDT hv (h c hc)).1⟩
theorem yDU{a:Nat×List MV}(hv: ∀d∈a.2,Vl d){cs:List Nat}(hl:cs.length<=3)(h: ∀c∈cs,c<a.2.length)(S:Sto):zT 2 zAQ [.val (zL a),.val (.tup (cs.map zF))] S=.ok (.new (yA a cs)) S:=zHH (T:=[]) rfl (by
 show yH (zKC [some (zL a),some (.tup (cs.map zF))] S)=_
 have hc:=zKH hv h S (cf:=zHU) (ef:=zAP) rfl λc=>by
  unfold zAP
  simp? [row1]
 unfold zKC zLF
 simp? [dD,show((cs.map zF).length<1000000)=True from eq_true (by rw [lM];omega),show blk 1 [0] [some (zL a),some (.tup (cs.map zF))]=[none,some (zL a)]from rfl,hc]
 rw [aN]
 rfl) (yO λd hd=>(zLO hv h d hd).lo _)
theorem zBH{α:Type}{f:α->MV}{p:α->Bool}{S:Sto}{gf:MV->Rho->Sto->R Rho}{cf:Rho->Sto->R Bool}{ef:Rho->Sto->R Er}{ρb:Rho}{gs:List (Nat×List MV)}(hs:stay gs S):
  ∀{ds:List α},(∀d∈ds, ∃ρ1,gf (f d) ρb S=.ok ρ1 S/\cf ρ1 S=.ok (p d) S/\ef ρ1 S=.ok (.val (f d)) S)->yT gf cf ef ρb gs (ds.map f) S=.ok ((ds.filter p).map f) S
 |[],_=>rfl
 |d::ds,st=>by
  obtain⟨ρ1,h1,h2,h3⟩:=st d mF0
  have e:=zBH hs (f:=f) (p:=p) (ds:=ds) λd hd=>st d (mO _ hd)
  rw [map_cons]
  unfold yT
  cases hp:p d with
  |true=>
   rw [h1,yG,bok,h2,yG,bok,hp,iP rfl,h3,yG,bok]
   unfold cE
   rw [bok,iP hs,e,filter_cons_of_pos hp]
   rfl
  |false=>
   rw [h1,yG,bok,h2,yG,bok,hp,iN xF0,iP hs,e,filter_cons_of_neg (by rw [hp];exact xF0)]
theorem yNY(ds:List MV)(S:Sto):eqF (.new ds) (.new []) S=.ok (.val (.bl ds.isEmpty)) S:=by
 cases ds<;>rfl
section
variable{ts:List (Int×Int)}{t u:Nat}{cs ds:List Nat}
theorem zRH(h:cV ts (.tie t cs u ds)){a:Nat×List MV}(ha:ROk ts a):(a.1=t-> ∀c∈cs,c<a.2.length)/\(a.1=u-> ∀c∈ds,c<a.2.length):=by
 obtain⟨p,h1,h2,_⟩:=ha
 refine⟨λe c hc=>?_,λe c hc=>?_⟩
 ·have:=h.2.2.2.2.2.1 c hc
  rw [<-e,zII h1]at this
  omega
 ·have:=h.2.2.2.2.2.2 c hc
  rw [<-e,zII h1]at this
  omega
noncomputable def mtc(u:Nat)(ds:List Nat)(due:List MV)(o:Nat×List MV):Bool:=decide ((o.1:Int)=u)&&decide (yA o ds=due)
abbrev LkB(d rl a:MV)(l1 l2:Nat)(b:Bool)(S:Sto):Prop:=
 ∃F,yBI "lacks" dO (.val d)=some F/\(∃T,F [d,a,.loc l1] S=.ok (.val (.bl b)) (S++T))/\zT 3 bP [.val rl,.val a,.val (.loc l2)] S=.ok (.val (.bl b)) S
abbrev K5(d a:MV)(l:Nat)(x y:Option MV):Rho:=[some d,some a,some (.loc l),x,y]
theorem yGG(h:cV ts (.tie t cs u ds)){a:Nat×List MV}(ha:ROk ts a){os:List (Nat×List MV)}(ho: ∀o∈os,ROk ts o)(hol:os.length<1000){l1 l2:Nat}{S:Sto}(hS1:S[l1]? =some (.lst (os.map zL)))(hS2:S[l2]? =some (.lst (os.map zL))):
  LkB (ob "Tie" (zP (.tie t cs u ds))) (zP (.tie t cs u ds)) (zL a) l1 l2 (decide ((a.1:Int)=t)&& !os.any (mtc u ds (yA a cs))) S:=by
 have r0: ∀S,ixF (.val (zP (.tie t cs u ds))) (.val (.int 0)) S=.ok (.val (.str zYX)) S:=λS=>ix_tup rfl
 have r1: ∀S,ixF (.val (zP (.tie t cs u ds))) (.val (.int 1)) S=.ok (.val (.int (t:Nat))) S:=λS=>ix_tup rfl
 have r2: ∀S,ixF (.val (zP (.tie t cs u ds))) (.val (.int 2)) S=.ok (.val (.tup (cs.map zF))) S:=λS=>ix_tup rfl
 have r3: ∀S,ixF (.val (zP (.tie t cs u ds))) (.val (.int 3)) S=.ok (.val (.int (u:Nat))) S:=λS=>ix_tup rfl
 have r4: ∀S,ixF (.val (zP (.tie t cs u ds))) (.val (.int 4)) S=.ok (.val (.tup (ds.map zF))) S:=λS=>ix_tup rfl
 have hv: ∀{o:Nat×List MV},ROk ts o-> ∀d∈o.2,Vl d:=λ⟨_,_,_,z⟩=>z
 have hcl:cs.length<=3:=h.2.2.2.1
 have hdl:ds.length<=3:=by have:=h.2.2.2.2.1;omega
 have hl1:l1<S.length:=(gS0.mp hS1).1
 have hl2:l2<S.length:=(gS0.mp hS2).1
 cases hd:decide ((a.1:Int)=t)with
 |false=>
  rw [Bool.false_and]
  refine⟨zBV,rfl,⟨[],?_⟩,jY rfl ?_⟩
  ·rw [aN]
   show yH (xI (K5 (ob "Tie" (zP (.tie t cs u ds))) (zL a) l1 none none) S)=_
   have e1:jQ (K5 (ob "Tie" (zP (.tie t cs u ds))) (zL a) l1 none none) S=.ok (.ret (.val (.bl false))) S:=by
    unfold jQ
    simp? [zOM,fT,r1,ne_int,hd]
    rfl
   unfold xI
   rw [yR e1]
   rfl
  ·show yH (xQ [some (zP (.tie t cs u ds)),some (zL a),some (.loc l2),none] S)=_
   have e1:yY [some (zP (.tie t cs u ds)),some (zL a),some (.loc l2),none] S=.ok (.ret (.val (.bl false))) S:=by
    unfold yY
    simp? [r0,r1,zOM,zMN (S:=S) (zLA _ zYX [116,105,101]),ne_int,hd]
    rfl
   unfold xQ
   rw [yR e1]
   rfl
 |true=>
  have ea:a.1=t:=by have:=of_decide_eq_true hd;omega
  have hca:=(zRH h ha).1 ea
  have hdue:=zLO (hv ha) hca
  have g1:(S++[MO.lst (yA a cs)])[l1]? =some (.lst (os.map zL)):=by rw [getElem?_append_left hl1];exact hS1
  have g2:(S++[MO.lst (yA a cs)])[l2]? =some (.lst (os.map zL)):=by rw [getElem?_append_left hl2];exact hS2
  have gd:(S++[MO.lst (yA a cs)])[S.length]? =some (.lst (yA a cs)):=by simp
  rw [Bool.true_and]
  refine⟨zBV,rfl,⟨[.lst (yA a cs)],?_⟩,zPF (T:=[.lst (yA a cs)]) rfl ?_⟩
  ·show yH (xI (K5 (ob "Tie" (zP (.tie t cs u ds))) (zL a) l1 none none) S)=_
   have e1:jQ (K5 (ob "Tie" (zP (.tie t cs u ds))) (zL a) l1 none none) S=.ok (.next (K5 (ob "Tie" (zP (.tie t cs u ds))) (zL a) l1 none none)) S:=by
    unfold jQ
    simp? [zOM,fT,r1,ne_int,hd]
    rfl
   have e2:zCK (K5 (ob "Tie" (zP (.tie t cs u ds))) (zL a) l1 none none) S=.ok (.next (K5 (ob "Tie" (zP (.tie t cs u ds))) (zL a) l1 (some (.loc S.length)) none)) (S++[.lst (yA a cs)]):=by
    unfold zCK
    simp? [fT,r2,yDU (hv ha) hcl hca]
   have turn: ∀{o:Nat×List MV},ROk ts o->dB (K5 (ob "Tie" (zP (.tie t cs u ds))) (zL a) l1 (some (.loc S.length)) (some (zL o))) (S++[.lst (yA a cs)])=if mtc u ds (yA a cs) o=true then .ok (.ret (.val (.bl false))) (S++[.lst (yA a cs)])else .ok (.next (K5 (ob "Tie" (zP (.tie t cs u ds))) (zL a) l1 (some (.loc S.length)) (some (zL o)))) (S++[.lst (yA a cs)]):=λ{o} hr=>by
    unfold dB zGI mtc
    cases h1:decide ((o.1:Int)=u)with
    |false=>simp? [zOM,fT,r3,h1];rfl
    |true=>
     have eo:o.1=u:=by have:=of_decide_eq_true h1;omega
     have hco:=(zRH h hr).2 eo
     simp? [zOM,fT,r3,h1,r4,yDU (hv hr) hdl hco,zYZ gd (zLO (hv hr) hco) hdue]
     cases decide (yA o ds=yA a cs)<;>rfl
   have loop: ∀(l:List (Nat×List MV))(y:Option MV),(∀o∈l,ROk ts o)-> ∃ρ,cF (gNm 4) dB [(l1,os.map zL)] (l.map zL) (K5 (ob "Tie" (zP (.tie t cs u ds))) (zL a) l1 (some (.loc S.length)) y) (S++[.lst (yA a cs)])=if l.any (mtc u ds (yA a cs))=true then .ok (.ret (.val (.bl false))) (S++[.lst (yA a cs)])else .ok (.next ρ) (S++[.lst (yA a cs)]):=by
    intro l
    induction l with
    |nil=>exact λy _=>⟨_,rfl⟩
    |cons o l ih=>
     intro y hl
     have ht:=turn (hl o mF0)
     cases ho':mtc u ds (yA a cs) o with
     |true=>
      rw [ho',iP rfl]at ht
      refine⟨[],?_⟩
      rw [map_cons,zVC rfl ht,any_cons,ho',Bool.true_or,iP rfl]
     |false=>
      rw [ho',iN xF0]at ht
      obtain⟨ρ,hρ⟩:=ih (some (zL o)) λz hz=>hl z (mO _ hz)
      refine⟨ρ,?_⟩
      rw [map_cons,dI rfl ht (wZ g1),hρ,any_cons,ho',Bool.false_or]
   obtain⟨ρ,hl⟩:=loop os none ho
   have e3:zCL (K5 (ob "Tie" (zP (.tie t cs u ds))) (zL a) l1 (some (.loc S.length)) none) (S++[.lst (yA a cs)])=if os.any (mtc u ds (yA a cs))=true then .ok (.ret (.val (.bl false))) (S++[.lst (yA a cs)])else .ok (.next ρ) (S++[.lst (yA a cs)]):=by
    unfold zCL
    simp? [jC g1]
    exact hl
   unfold xI
   rw [zC e1,zC e2]
   cases hx:os.any (mtc u ds (yA a cs))with
   |true=>rw [hx,iP rfl]at e3;rw [yR e3];rfl
   |false=>rw [hx,iN xF0]at e3;rw [zC e3];rfl
  ·show yH (xQ [some (zP (.tie t cs u ds)),some (zL a),some (.loc l2),none] S)=_
   have e1:yY [some (zP (.tie t cs u ds)),some (zL a),some (.loc l2),none] S=.ok (.next [some (zP (.tie t cs u ds)),some (zL a),some (.loc l2),none]) S:=by
    unfold yY
    simp? [r0,r1,zOM,zMN (S:=S) (zLA _ zYX [116,105,101]),ne_int,hd]
    rfl
   have hc1:=zKH (hv ha) hca S (cf:=zBA) (ef:=gI) rfl λc=>by
    unfold gI
    simp? [row1]
   have e2:cR [some (zP (.tie t cs u ds)),some (zL a),some (.loc l2),none] S=.ok (.next [some (zP (.tie t cs u ds)),some (zL a),some (.loc l2),some (.loc S.length)]) (S++[.lst (yA a cs)]):=by
    unfold cR
    simp? [r2,dD,show((cs.map zF).length<1000000)=True from eq_true (by rw [lM];omega),show blk 1 [1] [some (zP (.tie t cs u ds)),some (zL a),some (.loc l2),none]=[none,some (zL a)]from rfl,hc1]
   have hc3:yT (gNm 0) gL zBC [none,some (zP (.tie t cs u ds)),some (.loc S.length)] [(l2,os.map zL)] (os.map zL) (S++[.lst (yA a cs)])=.ok ((os.filter (mtc u ds (yA a cs))).map zL) (S++[.lst (yA a cs)]):=zBH (wZ g2) λo hm=>⟨[some (zL o),some (zP (.tie t cs u ds)),some (.loc S.length)],rfl,by
    unfold gL mtc
    have hr:=ho o hm
    cases h1:decide ((o.1:Int)=u)with
    |false=>simp? [zOM,r3,h1];rfl
    |true=>
     have eo:o.1=u:=by have:=of_decide_eq_true h1;omega
     have hco:=(zRH h hr).2 eo
     have hc2:=zKH (hv hr) hco (S++[.lst (yA a cs)]) (cf:=zBB) (ef:=gK) rfl λc=>by
      unfold gK
      simp? [row1]
     simp? [zOM,r3,h1,r4,dD,show((ds.map zF).length<1000000)=True from eq_true (by rw [lM];omega),show blk 1 [0] [some (zL o),some (zP (.tie t cs u ds)),some (.loc S.length)]=[none,some (zL o)]from rfl,hc2,zYZ gd (zLO (hv hr) hco) hdue]
     cases decide (yA o ds=yA a cs)<;>rfl,rfl⟩
   have he: ∀(l:List (Nat×List MV))(p:(Nat×List MV)->Bool),((l.filter p).map zL).isEmpty= !l.any p:=λl p=>by
    induction l with
    |nil=>rfl
    |cons o l ih=>
     cases hp:p o with
     |true=>rw [filter_cons_of_pos hp,any_cons,hp];rfl
     |false=>rw [filter_cons_of_neg (by rw [hp];exact xF0),any_cons,hp,Bool.false_or];exact ih
   have e3:cS [some (zP (.tie t cs u ds)),some (zL a),some (.loc l2),some (.loc S.length)] (S++[.lst (yA a cs)])=.ok (.ret (.val (.bl (!os.any (mtc u ds (yA a cs)))))) (S++[.lst (yA a cs)]):=by
    unfold cS
    simp? [jC g2,show((os.map zL).length<1000000)=True from eq_true (by rw [lM];omega),show blk 1 [0,3] [some (zP (.tie t cs u ds)),some (zL a),some (.loc l2),some (.loc S.length)]=[none,some (zP (.tie t cs u ds)),some (.loc S.length)]from rfl,hc3,yNY,he]
   unfold xQ
   rw [zC e1,zC e2,e3]
   rfl
end
theorem zZA{x:List Nat}{more:List MV}{c:Str}(hs:yBI "lacks" dO (.val (ob c (.tup (.str x::more))))=some jD){rl:MV}(hrl: ∃y ms,rl=.tup (.str y::ms)/\y≠zYX)(a:MV)(l1 l2:Nat)(S:Sto):
  LkB (ob c (.tup (.str x::more))) rl a l1 l2 false S:=by
 obtain⟨y,ms,rfl,hy⟩:=hrl
 refine⟨jD,hs,⟨[],by rw [aN];rfl⟩,jY rfl ?_⟩
 show yH (xQ [some (.tup (.str y::ms)),some a,some (.loc l2),none] S)=_
 have e1:yY [some (.tup (.str y::ms)),some a,some (.loc l2),none] S=.ok (.ret (.val (.bl false))) S:=by
  unfold yY
  simp? [ix_tup (S:=S) (ds:=.str y::ms) (i:=0) (d:=.str y) (zAB (k:=0) rfl),zMN (S:=S) (zLA _ y [116,105,101]),show decide (y=[116,105,101])=false from dF0 hy]
  rfl
 unfold xQ
 rw [yR e1]
 rfl
theorem zFR(ns:List Int)(k:Int)(hk:0<=k)(S:Sto): ∃c,zT 2 zX [.val (.scr (ns.map MV.int)),.val (.int k)] S=.ok (.val (.int c)) S:=by
 have hlen:dX [.val (.scr (ns.map MV.int))] S=.ok (.val (.int ns.length)) S:=by
  show R.ok (Er.val (.int (((ns.map MV.int).length:Nat):Int))) S=_
  rw [lM]
 have e1:cM [some (.scr (ns.map MV.int)),some (.int k)] S=if decide (k<ns.length)=true then(ixF (.val (.scr (ns.map MV.int))) (.val (.int k)) S).bind λr S1=>.ok (.ret r) S1 else .ok (.next [some (.scr (ns.map MV.int)),some (.int k)]) S:=by
  unfold cM
  simp? [hlen,lt_int]
 have fin: ∀c,zX [.scr (ns.map MV.int),.int k] S=.ok (.val (.int c)) S-> ∃c,zT 2 zX [.val (.scr (ns.map MV.int)),.val (.int k)] S=.ok (.val (.int c)) S:=λc h=>⟨c,zAG rfl h (wQ _ _) (λl=>by simp)⟩
 have hs:zR ["_law_script","_law_k"] [.scr (ns.map MV.int),.int k]=[some (.scr (ns.map MV.int)),some (.int k)]:=rfl
 by_cases hlt:k<ns.length
 ·obtain⟨d,hd⟩:=cZ (xs:=ns.map MV.int) (i:=k) hk (by rw [lM];exact hlt)
  obtain⟨c,rfl⟩: ∃c,d=.int c:=dA (P:=λd=> ∃c,d=.int c) (λe he=>by obtain⟨c,_,rfl⟩:=mM.mp he;exact⟨c,rfl⟩) hd
  have hix:ixF (.val (.scr (ns.map MV.int))) (.val (.int k)) S=.ok (.val (.int c)) S:=by
   show(match atI (ns.map MV.int) k with |some d=>R.ok (Er.val d) S|none=>.no)=_
   rw [hd]
  refine fin c ?_
  rw [dT0 hlt,iP rfl,hix,bok]at e1
  unfold zX zAT
  rw [hs,yR e1]
  rfl
 ·refine fin 0 ?_
  rw [dF0 hlt,iN xF0]at e1
  unfold zX zAT
  rw [hs,zC e1]
  rfl
def clsN:Rule->Str
 |.never _ _=>"Never"
 |.apart _ _ _=>"Apart"
 |.tie _ _ _ _=>"Tie"
theorem yPD{c:Str}{d:MV}{n:Nat}(h:lo n d):lo n (ob c d):=by
 unfold ob lo
 exact yO λe he=>by rw [mS.mp he];exact h
theorem made{ts:List (Int×Int)}{r:Rule}(h:cV ts r)(S:Sto):zT 1 zJA [.val (zP r)] S=.ok (.val (ob (clsN r) (zP r))) S:=by
 refine zAG rfl ?_ (yPD (zPE h _)) (λl=>by simp)
 ·show yH (zEJ [some (zP r)] S)=_
  cases r with
  |never t qs=>
   have r0: ∀S,ixF (.val (zP (.never t qs))) (.val (.int 0)) S=.ok (.val (.str zNF)) S:=λS=>ix_tup rfl
   have e1:kR [some (zP (.never t qs))] S=.ok (.ret (.val (ob "Never" (zP (.never t qs))))) S:=by unfold kR;simp? [r0,est];rfl
   unfold zEJ;rw [yR e1];rfl
  |apart t u qs=>
   have r0: ∀S,ixF (.val (zP (.apart t u qs))) (.val (.int 0)) S=.ok (.val (.str zNG)) S:=λS=>ix_tup rfl
   have e1:kR [some (zP (.apart t u qs))] S=.ok (.next [some (zP (.apart t u qs))]) S:=by unfold kR;simp? [r0,est];rfl
   have e2:dN [some (zP (.apart t u qs))] S=.ok (.ret (.val (ob "Apart" (zP (.apart t u qs))))) S:=by unfold dN;simp? [r0,est];rfl
   unfold zEJ;rw [zC e1,yR e2];rfl
  |tie t cs u ds=>
   have r0: ∀S,ixF (.val (zP (.tie t cs u ds))) (.val (.int 0)) S=.ok (.val (.str zYX)) S:=λS=>ix_tup rfl
   have e1:kR [some (zP (.tie t cs u ds))] S=.ok (.next [some (zP (.tie t cs u ds))]) S:=by unfold kR;simp? [r0,est];rfl
   have e2:dN [some (zP (.tie t cs u ds))] S=.ok (.next [some (zP (.tie t cs u ds))]) S:=by unfold dN;simp? [r0,est];rfl
   unfold zEJ;rw [zC e1,zC e2];rfl
abbrev Row:=Nat×List MV
noncomputable def zEP:Rule->Row->Bool
 |.never t qs,a=>decide ((a.1:Int)=t)&&qs.all (zBG [a])
 |_,_=>false
def yDV:Rule->Row->Bool
 |.tie t _ _ _,a=>decide ((a.1:Int)=t)
 |_,_=>false
noncomputable def yPE:Rule->Row->Row->Bool
 |.tie _ cs u ds,a,o=>mtc u ds (yA a cs) o
 |_,_,_=>false
noncomputable def wT(r:Rule)(a:Row)(os:List Row):Bool:=yDV r a&& !os.any (yPE r a)
abbrev obR(r:Rule):MV:=ob (clsN r) (zP r)
theorem yDW{ts:List (Int×Int)}{r:Rule}(h:cV ts r){a:Row}(ha:ROk ts a)(S:Sto):Both "bars" 2 zBY kG (obR r) (zP r) [.val (zL a)] (zEP r a) S:=by
 cases r with
 |never t qs=>exact yBW h ha S
 |apart t u qs=>exact yDS (x:=zNG) rfl ⟨zNG,_,rfl,by decide⟩ (zL a) S
 |tie t cs u ds=>exact yDS (x:=zYX) rfl ⟨zYX,_,rfl,by decide⟩ (zL a) S
theorem zZB{ts:List (Int×Int)}{r:Rule}(h:cV ts r){a:Row}(ha:ROk ts a){os:List Row}(ho: ∀o∈os,ROk ts o)(hol:os.length<1000){l1 l2:Nat}{S:Sto}(hS1:S[l1]? =some (.lst (os.map zL)))(hS2:S[l2]? =some (.lst (os.map zL))):
  LkB (obR r) (zP r) (zL a) l1 l2 (wT r a os) S:=by
 cases r with
 |never t qs=>exact zZA (x:=zNF) rfl ⟨zNF,_,rfl,by decide⟩ (zL a) l1 l2 S
 |apart t u qs=>exact zZA (x:=zNG) rfl ⟨zNG,_,rfl,by decide⟩ (zL a) l1 l2 S
 |tie t cs u ds=>exact yGG h ha ho hol hS1 hS2
abbrev kd(K:List Nat):List (MV×MV):=K.map λi=>(zF i,MV.bl true)
theorem zWA(k:Nat)(K:List Nat):kd (k::K)=(zF k,.bl true)::kd K:=rfl
theorem ySR(A B:List Nat):kd (A++B)=kd A++kd B:=map_append
theorem kd_len(K:List Nat):(kd K).length=K.length:=lM _
theorem yDX(K:List Nat):(kd K).map (·.1)=K.map zF:=by
 show(K.map λi=>(zF i,MV.bl true)).map (·.1)=_
 rw [map_map];rfl
theorem ky(i:Nat):zOI (zF i)=true:=rfl
theorem yDY{a b:Nat}(h:zF a=zF b):a=b:=by
 unfold zF at h
 injection h with h
 omega
theorem ySS(K:List Nat):(kd K).all (λp=>zOI p.1)=true:=by
 rw [all_eq_true]
 intro p hp
 obtain⟨i,_,rfl⟩:=mM.mp hp
 rfl
theorem zUA{S:Sto}{l:Nat}{K:List Nat}(h:S[l]? =some (.dic (kd K))):zSH S (.val (.loc l))=some (l,kd K):=by
 unfold zSH
 dsimp only
 rw [h]
 exact iP (ySS K)
theorem zWB: ∀(K:List Nat)(i:Nat),look (kd K) (zF i)=if i∈K then some (.bl true)else none
 |[],i=>by rw [iN (by simp)];rfl
 |k::K,i=>by
  rw [zWA,zMO]
  dsimp only
  by_cases h:k=i
  ·subst h;rw [iP rfl,iP (by simp)]
  ·rw [iN (λz=>h (yDY z)),zWB K i]
   by_cases h2:i∈K
   ·rw [iP h2,iP (mO _ h2)]
   ·rw [iN h2,iN (λz=>(mC.mp z).elim (λe=>h e.symm) h2)]
theorem zZC(K:List Nat)(i:Nat):(look (kd K) (zF i)).isSome=decide (i∈K):=by
 rw [zWB]
 by_cases h:i∈K
 ·rw [iP h,dT0 h];rfl
 ·rw [iN h,dF0 h];rfl
theorem zZD{S:Sto}{l:Nat}{K:List Nat}(h:S[l]? =some (.dic (kd K)))(neg:Bool)(i:Nat):zVF neg (.val (zF i)) (.val (.loc l)) S=.ok (.val (.bl (if neg=true then !decide (i∈K)else decide (i∈K)))) S:=by
 unfold zVF
 dsimp only
 rw [zUA h]
 show(if zOI (zF i)=true then _ else _)=_
 rw [iP (ky i),zZC]
theorem yJT(K:List Nat)(i:Nat):putK (kd K) (zF i) (.bl true)=kd (if i∈K then K else K++[i]):=by
 unfold putK
 rw [zZC]
 by_cases h:i∈K
 ·rw [dT0 h,iP rfl,iP h]
  show((K.map λi=>(zF i,MV.bl true)).map _)=_
  rw [map_map]
  refine List.map_congr_left λk _=>?_
  show(if zF k=zF i then(zF k,MV.bl true)else(zF k,MV.bl true))=_
  split<;>rfl
 ·rw [dF0 h,iN xF0,iN h,ySR]
  rfl
theorem yST{S:Sto}{l:Nat}{K:List Nat}(h:S[l]? =some (.dic (kd K)))(hl:K.length<1000000)(i:Nat)(ρ:Rho):zYJ (.val (.loc l)) (.val (zF i)) (.bl true) ρ S=.ok ρ (S.set l (.dic (kd (if i∈K then K else K++[i])))):=by
 unfold zYJ
 dsimp only
 rw [zUA h]
 show(if zOI (zF i)=true/\(kd K).length<1000000 then _ else _)=_
 rw [iP ⟨ky i,by rw [kd_len];exact hl⟩,yJT]
theorem ySU(K:List Nat)(i:Nat):yJF (kd K) (zF i)=kd (K.filter λk=>!decide (k=i)):=by
 unfold yJF
 show((K.map λi=>(zF i,MV.bl true)).filter _)=_
 rw [List.filter_map]
 congr 1
 refine List.filter_congr λk _=>?_
 show(!decide (zF k=zF i))=_
 by_cases h:k=i
 ·subst h;rw [dT0 rfl,dT0 rfl]
 ·rw [dF0 h,dF0 λz=>h (yDY z)]
theorem set_same{S:Sto}{l:Nat}{o:MO}(h:S[l]? =some o):S.set l o=S:=by
 obtain⟨hl,rfl⟩:=gS0.mp h
 exact List.set_getElem_self hl
theorem ySV{S:Sto}{l:Nat}{K:List Nat}(h:S[l]? =some (.dic (kd K)))(i:Nat): ∃d,zTS (.val (.loc l)) [.val (zF i),.val .non] S=.ok (.val d) (S.set l (.dic (kd (K.filter λk=>!decide (k=i))))):=by
 unfold zTS
 dsimp only
 rw [zUA h]
 show∃d,(if zOI (zF i)=true then _ else _)=_
 rw [iP (ky i),zWB,ySU]
 by_cases hi:i∈K
 ·rw [iP hi];exact⟨_,rfl⟩
 ·rw [iN hi]
  have e:(K.filter λk=>!decide (k=i))=K:=filter_eq_self.mpr λk hk=>by
   rw [dF0 (show¬k=i from λz=>hi (z▸hk))];rfl
  rw [e,set_same h]
  exact⟨_,rfl⟩
theorem yNZ{S:Sto}{l:Nat}{K:List Nat}(h:S[l]? =some (.dic (kd K))):isDx (.val (.loc l)) S=true:=by
 unfold isDx
 rw [zUA h];rfl
theorem zZE: ∀(K:List Nat),zEY (K.map λi=>.tup [zF i,.bl true])=some (kd K)
 |[]=>rfl
 |k::K=>by
  rw [map_cons,zWA]
  unfold zEY
  rw [iP (ky k),zZE K]
  rfl
theorem yDZ: ∀(K A:List Nat),(A++K).Nodup->(kd K).foldl (λacc p=>putK acc p.1 p.2) (kd A)=kd (A++K)
 |[],A,_=>by rw [aN];rfl
 |k::K,A,h=>by
  rw [zWA,foldl_cons]
  show(kd K).foldl _ (putK (kd A) (zF k) (.bl true))=_
  have hk:k∉A:=λhm=>by
   have:=(nodup_append.mp h).2.2 k hm k mF0
   exact this rfl
  rw [yJT,iN hk,yDZ K (A++[k]) (by rw [aA];exact h),aA]
  rfl
theorem ySW{K:List Nat}(h:K.Nodup)(S:Sto):yDK [.new (K.map λi=>.tup [zF i,.bl true])] S=.ok (.val (.loc S.length)) (S++[.dic (kd K)]):=by
 show(match (jB S (.new (K.map λi=>.tup [zF i,.bl true]))).bind zEY with |some kvs=>R.ok (Er.val (.loc S.length)) (S++[MO.dic (zYN kvs)])|none=>.no)=_
 rw [show(jB S (.new (K.map λi=>.tup [zF i,.bl true]))).bind zEY=some (kd K)from zZE K]
 show R.ok (Er.val (.loc S.length)) (S++[MO.dic (zYN (kd K))])=_
 unfold zYN
 rw [show((kd K).foldl (λacc p=>putK acc p.1 p.2) [])=kd ([]++K)from yDZ K [] (by simpa using h)]
 rfl
theorem ySX{S:Sto}{l:Nat}{K:List Nat}(h:S[l]? =some (.dic (kd K))):zYK [.val (.loc l)] S=.ok (.val (.tup (K.map zF))) S:=by
 unfold zYK
 dsimp only
 rw [zUA h]
 show R.ok (Er.val (.tup ((kd K).map (·.1)))) S=_
 rw [yDX]
theorem zZF: ∀(K:List Nat),intsOf (K.map zF)=some (K.map Int.ofNat)
 |[]=>rfl
 |k::K=>by
  rw [map_cons]
  show(intsOf (K.map zF)).map _=_
  rw [zZF K]
  rfl
theorem ySY{S:Sto}{l:Nat}{K L:List Nat}(h:S[l]? =some (.dic (kd K)))(hl:K.length<64)(hp:L.Perm K)(hs:L.Pairwise (· <=·)):zYM [.val (.loc l)] S=.ok (.new (L.map zF)) S:=by
 unfold zYM
 dsimp only
 rw [zUA h]
 dsimp only
 rw [iP (by rw [kd_len];exact hl),yDX,zZF]
 have e:L.map Int.ofNat=PySem.W.sortI (K.map Int.ofNat):=PySem.W.eq_sortI (hp.map _) (List.pairwise_map.mpr (hs.imp λ{a b} hab=>Int.ofNat_le.mpr hab))
 show R.ok (Er.new ((PySem.W.sortI (K.map Int.ofNat)).map MV.int)) S=_
 rw [<-e,map_map]
 rfl
theorem yJU(S:Sto)(x:Int){n:Int}(h0:0<n)(h1:n<1073741824):zT 2 zK [.new [.int x],.val (.int n)] S=.ok (.val (.int (x % n))) S:=by
 have hS:(SN S x)[S.length]? =some (.lst [.int x]):=yDM S x
 have hs:zR zBS [.loc S.length,.int n]=[some (.loc S.length),some (.int n),none]:=rfl
 have ha:atI [MV.int x] 0=some (.int x):=rfl
 have e1:jR [some (.loc S.length),some (.int n),none] (SN S x)=.ok (.next [some (.loc S.length),some (.int n),some (.int (x % n))]) (SN S x):=by
  unfold jR
  simp? [zHI hS ha,mod_lit h0]
 have e2:jS [some (.loc S.length),some (.int n),some (.int (x % n))] (SN S x)=.ok (.next [some (.loc S.length),some (.int n),some (.int (x % n))]) (SN S (x / n)):=by
  unfold jS
  simp? [zHI hS ha,zOY h0 h1,zVM,zYR hS (show ixN [MV.int x].length 0=some 0 from rfl)]
  rw [zVU]
 refine wY (T:=[.lst [.int (x / n)]]) rfl ?_ (wQ _ _) (λl=>by simp)
 show zK [.loc S.length,.int n] (SN S x)=_
 unfold zK zIC
 rw [hs,zC e1,zC e2]
 rfl
def zM(ts:List (Int×Int))(rls:List Rule)(rs:List Row):MV:=.tup [.tup (ts.map tbl),.tup (rls.map zP),.tup (rs.map zL)]
theorem zLP: ∀{ts:List (Int×Int)}{o:List MV},(∀d∈o, ∃r,cV ts r/\d=zP r)-> ∃rls:List Rule,o=rls.map zP/\ ∀r∈rls,cV ts r
 |ts,[],_=>⟨[],rfl,λr h=>by simp at h⟩
 |ts,d::o,h=>by
  obtain⟨r,hr,rfl⟩:=h d mF0
  obtain⟨rls,rfl,hl⟩:=zLP (o:=o) λe he=>h e (mO _ he)
  exact⟨r::rls,rfl,λq hq=>(mC.mp hq).elim (λe=>e▸hr) (hl q)⟩
theorem yOA{ts:List (Int×Int)}{rs:List Row}(h: ∀r∈rs,ROk ts r)(n:Nat):lo n (.tup (rs.map zL)):=wE (yO λd hd=>by
 obtain⟨r,hr,rfl⟩:=mM.mp hd
 exact yBT (h r hr) _)
theorem yJV{ts:List (Int×Int)}{rls:List Rule}(h: ∀r∈rls,cV ts r)(n:Nat):lo n (.tup (rls.map zP)):=wE (yO λd hd=>by
 obtain⟨r,hr,rfl⟩:=mM.mp hd
 exact zPE (h r hr) _)
theorem yOB{ts:List (Int×Int)}{rls:List Rule}{rs:List Row}(h1: ∀r∈rls,cV ts r)(h2: ∀r∈rs,ROk ts r)(n:Nat):lo n (zM ts rls rs):=wE (yO λd hd=>by
 simp only [mC,nM0,or_false]at hd
 rcases hd with rfl|rfl|rfl
 ·exact yJO n
 ·exact yJV h1 n
 ·exact yOA h2 n)
theorem zNH(ds:List MV)(S:Sto):gZ [.new ds] S=.ok (.val (.tup ds)) S:=rfl
abbrev N9(q:MV)(x3 x4 x5 x6 x7 x8:Option MV):Rho:=[some q,some (.int 8),some (.int 2),x3,x4,x5,x6,x7,x8]
theorem tup3(a b c:MV)(S:Sto):nX [.val a,.val b,.val c] S=.ok (.val (.tup [a,b,c])) S:=zHK (by simp)
theorem yOC(ns:List Int)(h:ns.length<=63): ∃ts rls rs,TOk ts/\(∀r∈rls,cV ts r)/\(∀r∈rs,ROk ts r)/\rs.length<=16/\rls.length<=4/\
  zT 3 gQ [.val (.scr (ns.map MV.int)),.val (.int 8),.val (.int 2)] []=.ok (.val (zM ts rls rs)) []:=by
 have hs:zR zBT [.scr (ns.map MV.int),.int 8,.int 2]=N9 (.scr (ns.map MV.int)) none none none none none none:=rfl
 obtain⟨c0,h0⟩:=zFR ns 0 (by decide) []
 obtain⟨vs,hV,hp⟩:=yNU c0 []
 have e1:zDR (N9 (.scr (ns.map MV.int)) none none none none none none) []=.ok (.next (N9 (.scr (ns.map MV.int)) (some (.loc 0)) none none none none none)) [.lst vs]:=by
  unfold zDR
  simp? [h0,hp]
  rfl
 obtain⟨c1,h1⟩:=zFR ns 1 (by decide) [.lst vs]
 obtain⟨ts,hT,ht⟩:=yGB c1 [.lst vs]
 have e2:zDS (N9 (.scr (ns.map MV.int)) (some (.loc 0)) none none none none none) [.lst vs]=.ok (.next (N9 (.scr (ns.map MV.int)) (some (.loc 0)) (some (.tup (ts.map tbl))) none none none none)) [.lst vs]:=by
  unfold zDS
  simp? [h1,ht]
 obtain⟨c2,h2⟩:=zFR ns 2 (by decide) [.lst vs]
 obtain⟨t,hw⟩:=zLI c2 5 ⟨by decide,by decide⟩ [.lst vs]
 obtain⟨m,hm,hm5⟩:=zEN t (n:=5) (by decide)
 have htk:=yJU [.lst vs] t (n:=5) (by decide) (by decide)
 rw [show((5:Nat):Int)=5 from rfl]at hm
 rw [hm]at htk
 have e3:zDT (N9 (.scr (ns.map MV.int)) (some (.loc 0)) (some (.tup (ts.map tbl))) none none none none) [.lst vs]=.ok (.next (N9 (.scr (ns.map MV.int)) (some (.loc 0)) (some (.tup (ts.map tbl))) (some (.int (m:Nat))) none none none)) [.lst vs]:=by
  unfold zDT
  simp? [h2,hw,lst4,zQI (S:=[.lst vs]) (ds:=[.int 2,.int 3,.int 5,.int 7]) (i:=2) (d:=.int 5) rfl,htk]
 obtain⟨out,q1,q2,q3⟩:=zXZ (gf:=gNm 0) (cf:=zGP) (ef:=nP) (ρb:=[none,some (.scr (ns.map MV.int)),some (.loc 0),some (.tup (ts.map tbl))]) (gs:=[]) (S:=[.lst vs]) (P:=λy=> ∃r,cV ts r/\y=zP r) (kL _) (ds:=(List.range m).map λk=>MV.int (k:Nat)) (λd hd=>by
  obtain⟨k,hk,rfl⟩:=mM.mp hd
  obtain⟨c,hc⟩:=zFR ns (3+(k:Nat)) (by omega) [.lst vs]
  obtain⟨r,hr,hrc⟩:=yNW hT c (lp:=0) (S:=[.lst vs]) hV rfl
  refine⟨[some (.int (k:Nat)),some (.scr (ns.map MV.int)),some (.loc 0),some (.tup (ts.map tbl))],zP r,rfl,rfl,?_,r,hr,rfl⟩
  unfold nP
  simp? [hc,hrc])
 obtain⟨rls,rfl,hRl⟩:=zLP q3
 rw [lM,lM,length_range]at q2
 have e4:zDU (N9 (.scr (ns.map MV.int)) (some (.loc 0)) (some (.tup (ts.map tbl))) (some (.int (m:Nat))) none none none) [.lst vs]=.ok (.next (N9 (.scr (ns.map MV.int)) (some (.loc 0)) (some (.tup (ts.map tbl))) (some (.int (m:Nat))) (some (.tup (rls.map zP))) none none)) [.lst vs]:=by
  unfold zDU
  simp? [dY (S:=[.lst vs]) (j:=(m:Nat)) ⟨by omega,by omega⟩,show(((List.range m).map λk=>MV.int (k:Nat)).length<1000000)=True from eq_true (by rw [lM,length_range];omega),show blk 1 [0,3,4] (N9 (.scr (ns.map MV.int)) (some (.loc 0)) (some (.tup (ts.map tbl))) (some (.int (m:Nat))) none none none)=[none,some (.scr (ns.map MV.int)),some (.loc 0),some (.tup (ts.map tbl))]from rfl,show((m:Nat):Int).toNat=m from rfl,q1,zNH]
 have cs: ∀(a b:Option Int)(S:Sto),zSF (.val (.scr (ns.map MV.int))) a b S=.ok (.new ((gS ns a b).map MV.int)) S:=λa b S=>by rw [<-zXY];rfl
 have cl: ∀(a b:Option Int),(gS ns a b).length<=63:=λa b=>le_trans (yIU ns a b) h
 have e5:zDV (N9 (.scr (ns.map MV.int)) (some (.loc 0)) (some (.tup (ts.map tbl))) (some (.int (m:Nat))) (some (.tup (rls.map zP))) none none) [.lst vs]=.ok (.next (N9 (.scr (ns.map MV.int)) (some (.loc 0)) (some (.tup (ts.map tbl))) (some (.int (m:Nat))) (some (.tup (rls.map zP))) (some (.loc 1)) none)) [.lst vs,.lst ((gS ns (some (3+(m:Nat))) none).map MV.int)]:=by
  unfold zDV
  simp? [cs]
  rfl
 generalize hcc:gS ns (some (3+(m:Nat))) none=cc at e5
 have hccl:cc.length<=63:=by rw [<-hcc];exact cl _ _
 obtain⟨d2,h2'⟩:=zFR ns 2 (by decide) [.lst vs,.lst (cc.map MV.int)]
 obtain⟨n6,hn6,hm6⟩:=zVO d2 6 ⟨by decide,by decide⟩ [.lst vs,.lst (cc.map MV.int)]
 obtain⟨j,hj,hj9⟩:=zEN n6 (n:=9) (by decide)
 rw [show((9:Nat):Int)=9 from rfl]at hj
 obtain⟨ρ',S',e6',x8,is,hρ,hS',hil⟩:=zKA (L:=(List.range j).map λk=>MV.int (k:Nat)) (gf:=gNm 8) (body:=zDQ) (gs:=[]) (S:=[.lst vs,.lst (cc.map MV.int)]) (ρ:=N9 (.scr (ns.map MV.int)) (some (.loc 0)) (some (.tup (ts.map tbl))) (some (.int (m:Nat))) (some (.tup (rls.map zP))) (some (.loc 1)) none)
  (λi ρ S'=> ∃(x8:Option MV)(is:List Int),ρ=N9 (.scr (ns.map MV.int)) (some (.loc 0)) (some (.tup (ts.map tbl))) (some (.int (m:Nat))) (some (.tup (rls.map zP))) (some (.loc 1)) x8/\S'=[.lst vs,.lst (is.map MV.int)]/\is.length<=63+i) (λi d hi ρ S1 ⟨x8,is,hρ,hS1,hl⟩=>by
   subst hρ hS1
   obtain⟨k,hk,rfl⟩:=mM.mp (mem_of_getElem? hi)
   rw [mem_range]at hk
   have hi9:i<j:=by have:=(gS0.mp hi).1;rw [lM,length_range]at this;exact this
   obtain⟨c,hc⟩:=zFR ns 2 (by decide) [.lst vs,.lst (is.map MV.int)]
   obtain⟨y,_,hy⟩:=zVO c (30+(k:Nat)) ⟨by omega,by omega⟩ [.lst vs,.lst (is.map MV.int)]
   refine⟨_,_,?_,kL _,some (.int (k:Nat)),is++[1+2 * y],rfl,rfl,by rw [lA,lS];omega⟩
   rw [show gNm 8 (.int (k:Nat)) (N9 (.scr (ns.map MV.int)) (some (.loc 0)) (some (.tup (ts.map tbl))) (some (.int (m:Nat))) (some (.tup (rls.map zP))) (some (.loc 1)) x8) [.lst vs,.lst (is.map MV.int)]=.ok (N9 (.scr (ns.map MV.int)) (some (.loc 0)) (some (.tup (ts.map tbl))) (some (.int (m:Nat))) (some (.tup (rls.map zP))) (some (.loc 1)) (some (.int (k:Nat)))) [.lst vs,.lst (is.map MV.int)]from rfl,bok]
   unfold zDQ zGQ
   simp? [hc,hy,zQH (show -(2 ^ 64)<(2:Int)/\(2:Int)<2 ^ 64 by decide),zJD (S:=[.lst vs,.lst (is.map MV.int)]) (l:=1) (ds:=is.map MV.int) rfl,zJC (S:=[.lst vs,.lst (is.map MV.int)]) (l:=1) (ds:=is.map MV.int) rfl (by rw [lM];omega)]
   rw [map_append]
   rfl) ⟨none,cc,rfl,rfl,by omega⟩
 subst hρ hS'
 have e6:zDW (N9 (.scr (ns.map MV.int)) (some (.loc 0)) (some (.tup (ts.map tbl))) (some (.int (m:Nat))) (some (.tup (rls.map zP))) (some (.loc 1)) none) [.lst vs,.lst (cc.map MV.int)]=.ok (.next (N9 (.scr (ns.map MV.int)) (some (.loc 0)) (some (.tup (ts.map tbl))) (some (.int (m:Nat))) (some (.tup (rls.map zP))) (some (.loc 1)) x8)) [.lst vs,.lst (is.map MV.int)]:=by
  unfold zDW
  simp? [h2',hm6,mod_lit (show(0:Int)<8+1 by decide),show n6 % (8+1:Int)=(j:Nat)from hj,dY (S:=[.lst vs,.lst (cc.map MV.int)]) (j:=(j:Nat)) ⟨by omega,by omega⟩,show((j:Nat):Int).toNat=j from rfl]
  exact e6'
 have hcut:gS is none (some 16)=is.take 16:=zND is 16
 obtain⟨rs,hR,_,hrl,hr⟩:=yNV hT (gS is none (some 16)) (by rw [hcut,lT];omega) (w:=8) (lp:=0) (S:=[.lst vs,.lst (is.map MV.int)]) hV rfl
 have e7:zDX (N9 (.scr (ns.map MV.int)) (some (.loc 0)) (some (.tup (ts.map tbl))) (some (.int (m:Nat))) (some (.tup (rls.map zP))) (some (.loc 1)) x8) [.lst vs,.lst (is.map MV.int)]=.ok (.ret (.val (zM ts rls rs))) [.lst vs,.lst (is.map MV.int)]:=by
  rw [<-zXY]at hr
  unfold zDX
  simp? [zQH (show -(2 ^ 64)<(2:Int)/\(2:Int)<2 ^ 64 by decide),show zSF (.val (.loc 1)) none (some (2 * 8:Int)) [.lst vs,.lst (is.map MV.int)]=.ok (.new (gS (is.map MV.int) none (some 16))) [.lst vs,.lst (is.map MV.int)]from rfl,hr,tup3]
  rfl
 refine⟨ts,rls,rs,hT,hRl,hR,?_,by omega,wY (T:=[.lst vs,.lst (is.map MV.int)]) rfl ?_ (yOB hRl hR _) (λl=>by simp [zM])⟩
 ·refine le_trans hrl ?_
  rw [hcut,lT];omega
 ·show gQ [.scr (ns.map MV.int),.int 8,.int 2] []=_
  unfold gQ zNZ
  rw [hs,zC e1,zC e2,zC e3,zC e4,zC e5,zC e6,e7]
  rfl
theorem SqM.itQ{S:Sto}{m:MV}{ds:List MV}(h:SqM S m ds): ∃gs,(∀T,stay gs (S++T))/\ ∀T,itQ (.val m) (S++T)=.ok ⟨ds,gs⟩ (S++T):=by
 rcases h with rfl|⟨l,rfl,hS⟩
 ·exact⟨[],λT=>kL _,λT=>rfl⟩
 ·have hT: ∀T,(S++T)[l]? =some (.lst ds):=λT=>by rw [getElem?_append_left (gS0.mp hS).1];exact hS
  refine⟨[(l,ds)],λT=>wZ (hT T),λT=>?_⟩
  have e:srcOf (S++T) (.val (.loc l))=some ⟨true,ds,[(l,ds)]⟩:=by
   unfold srcOf
   dsimp only
   rw [hT T]
  unfold L2.M.itQ
  rw [e]
theorem zLQ{α:Type}{f:α->MV}{p:α->Bool}{gf:MV->Rho->Sto->R Rho}{body:Rho->Sto->R Fl}{gs:List (Nat×List MV)}{S:Sto}{r:Er}(I:Rho->Prop)(hs:stay gs S):
  ∀{ds:List α},(∀d∈ds, ∀ρ,I ρ-> ∃ρ0,gf (f d) ρ S=.ok ρ0 S/\(p d=true->body ρ0 S=.ok (.ret r) S)/\(p d=false-> ∃ρ',I ρ'/\body ρ0 S=.ok (.next ρ') S))-> ∀ρ,I ρ->
   (ds.any p=true->cF gf body gs (ds.map f) ρ S=.ok (.ret r) S)/\(ds.any p=false-> ∃ρ',I ρ'/\cF gf body gs (ds.map f) ρ S=.ok (.next ρ') S)
 |[],_,ρ,h=>⟨(λz=>nomatch z),λ_=>⟨ρ,h,rfl⟩⟩
 |d::ds,st,ρ,h=>by
  obtain⟨ρ0,g,y,n⟩:=st d mF0 ρ h
  rw [any_cons,map_cons]
  cases hp:p d with
  |true=>exact⟨λ_=>zVC g (y hp),λz=>nomatch z⟩
  |false=>
   obtain⟨ρ',h',b⟩:=n hp
   rw [Bool.false_or,dI g b hs]
   exact zLQ I hs (λd hd=>st d (mO _ hd)) ρ' h'
section
variable{ts:List (Int×Int)}{rls:List Rule}{rs:List Row}
def atR(rs:List Row)(i:Nat):Row:=(rs[i]?).getD (0,[])
theorem zJG{i:Nat}(h:i<rs.length):atR rs i∈rs:=by
 unfold atR
 rw [gE0 h]
 exact getElem_mem h
theorem zRI{i:Nat}(h:i<rs.length)(S:Sto):ixF (.val (.tup (rs.map zL))) (.val (zF i)) S=.ok (.val (zL (atR rs i))) S:=ix_tup (zAB (by
 unfold atR
 rw [getElem?_map,gE0 h];rfl))
theorem book1(S:Sto):ixF (.val (zM ts rls rs)) (.val (.int 1)) S=.ok (.val (.tup (rls.map zP))) S:=ix_tup rfl
theorem zOA(S:Sto):ixF (.val (zM ts rls rs)) (.val (.int 2)) S=.ok (.val (.tup (rs.map zL))) S:=ix_tup rfl
noncomputable def zON(rls:List Rule)(rs:List Row)(part:List Nat):Bool:=part.any λi=>rls.any λr=>zEP r (atR rs i) || wT r (atR rs i) (part.map (atR rs))
abbrev V5(b m:MV)(l:Nat)(x y:Option MV):Rho:=[some b,some m,some (.loc l),x,y]
theorem zZG(hRl: ∀r∈rls,cV ts r)(hR: ∀r∈rs,ROk ts r){part:List Nat}(hp: ∀i∈part,i<rs.length)(hl:part.length<=100){m:MV}{S:Sto}(hm:SqM S m (part.map zF)):
  zT 2 xK [.val (zM ts rls rs),.val m] S=.ok (.val (.bl !zON rls rs part)) S:=by
 obtain⟨gs,hg,hit⟩:=hm.itQ
 have hg0:stay gs S:=by have:=hg [];rwa [aN]at this
 have hit0:itQ (.val m) S=.ok ⟨part.map zF,gs⟩ S:=by have:=hit [];rwa [aN]at this
 refine zPF (T:=[.lst ((part.map (atR rs)).map zL)]) rfl ?_
 show yH (zDZ [some (zM ts rls rs),some m,none,none,none] S)=_
 have hc:yT (gNm 0) zCA bQ [none,some (zM ts rls rs)] gs (part.map zF) S=.ok (part.map λi=>zL (atR rs i)) S:=cW hg0 λi hi=>⟨[some (zF i),some (zM ts rls rs)],rfl,rfl,by
  unfold bQ
  simp? [zOA,zRI (hp i hi)]⟩
 have e1:nV [some (zM ts rls rs),some m,none,none,none] S=.ok (.next (V5 (zM ts rls rs) m S.length none none)) (S++[.lst ((part.map (atR rs)).map zL)]):=by
  unfold nV
  simp? [hit0,show((part.map zF).length<1000000)=True from eq_true (by rw [lM];omega),show blk 1 [0] [some (zM ts rls rs),some m,none,none,none]=[none,some (zM ts rls rs)]from rfl,hc]
  rw [map_map]
  rfl
 have gd:(S++[MO.lst ((part.map (atR rs)).map zL)])[S.length]? =some (.lst ((part.map (atR rs)).map zL)):=by simp
 have ho: ∀o∈part.map (atR rs),ROk ts o:=λo h=>by
  obtain⟨i,hi,rfl⟩:=mM.mp h
  exact hR _ (zJG (hp i hi))
 have inner: ∀{i:Nat},i<rs.length-> ∀ρ,(∃y,ρ=V5 (zM ts rls rs) m S.length (some (zF i)) y)->
   ((rls.any λr=>zEP r (atR rs i) || wT r (atR rs i) (part.map (atR rs)))=true->cF (gNm 4) kA [] (rls.map zP) ρ (S++[.lst ((part.map (atR rs)).map zL)])=.ok (.ret (.val (.bl false))) (S++[.lst ((part.map (atR rs)).map zL)]))/\
   ((rls.any λr=>zEP r (atR rs i) || wT r (atR rs i) (part.map (atR rs)))=false-> ∃ρ',(∃y,ρ'=V5 (zM ts rls rs) m S.length (some (zF i)) y)/\cF (gNm 4) kA [] (rls.map zP) ρ (S++[.lst ((part.map (atR rs)).map zL)])=.ok (.next ρ') (S++[.lst ((part.map (atR rs)).map zL)])):=λ{i} hi=>by
  refine zLQ (λρ=> ∃y,ρ=V5 (zM ts rls rs) m S.length (some (zF i)) y) (kL _) λr hr ρ ⟨y,hρ⟩=>?_
  subst hρ
  have ha:ROk ts (atR rs i):=hR _ (zJG hi)
  obtain⟨_,_,_,b1⟩:=yDW (hRl r hr) ha (S++[.lst ((part.map (atR rs)).map zL)])
  obtain⟨_,_,_,b2⟩:=zZB (hRl r hr) ha ho (by rw [lM];omega) gd gd
  refine⟨V5 (zM ts rls rs) m S.length (some (zF i)) (some (zP r)),rfl,λh=>?_,λh=>⟨V5 (zM ts rls rs) m S.length (some (zF i)) (some (zP r)),⟨some (zP r),rfl⟩,?_⟩⟩
  ·unfold kA bR
   cases h1:zEP r (atR rs i)with
   |true=>rw [h1]at b1;simp? [zOA,zRI hi,b1]
   |false=>
    rw [h1,Bool.false_or]at h
    rw [h1]at b1
    rw [h]at b2
    simp? [zOA,zRI hi,b1,b2];rfl
  ·rw [Bool.or_eq_false_iff]at h
   rw [h.1]at b1
   rw [h.2]at b2
   unfold kA bR
   simp? [zOA,zRI hi,b1,b2];rfl
 obtain⟨o1,o2⟩:=zLQ (f:=zF) (p:=λi=>rls.any λr=>zEP r (atR rs i) || wT r (atR rs i) (part.map (atR rs))) (gf:=gNm 3) (body:=gG) (gs:=gs) (S:=S++[.lst ((part.map (atR rs)).map zL)]) (r:=.val (.bl false)) (λρ=> ∃x y,ρ=V5 (zM ts rls rs) m S.length x y) (hg _) (ds:=part) (λi hi ρ ⟨x,y,hρ⟩=>by
  subst hρ
  obtain⟨p1,p2⟩:=inner (hp i hi) (V5 (zM ts rls rs) m S.length (some (zF i)) y) ⟨y,rfl⟩
  refine⟨V5 (zM ts rls rs) m S.length (some (zF i)) y,rfl,λh=>?_,λh=>?_⟩
  ·unfold gG bS
   simp? [book1,dD]
   exact p1 h
  ·obtain⟨ρ',⟨y',rfl⟩,e⟩:=p2 h
   refine⟨V5 (zM ts rls rs) m S.length (some (zF i)) y',⟨_,_,rfl⟩,?_⟩
   unfold gG bS
   simp? [book1,dD]
   exact e) (V5 (zM ts rls rs) m S.length none none) ⟨_,_,rfl⟩
 unfold zDZ
 rw [zC e1]
 unfold zON
 cases hb:part.any λi=>rls.any λr=>zEP r (atR rs i) || wT r (atR rs i) (part.map (atR rs))with
 |true=>
  have e2:kB (V5 (zM ts rls rs) m S.length none none) (S++[.lst ((part.map (atR rs)).map zL)])=.ok (.ret (.val (.bl false))) (S++[.lst ((part.map (atR rs)).map zL)]):=by
   unfold kB
   simp? [hit]
   exact o1 hb
  rw [yR e2]
  rfl
 |false=>
  obtain⟨ρ',_,o2⟩:=o2 hb
  have e2:kB (V5 (zM ts rls rs) m S.length none none) (S++[.lst ((part.map (atR rs)).map zL)])=.ok (.next ρ') (S++[.lst ((part.map (atR rs)).map zL)]):=by
   unfold kB
   simp? [hit]
   exact o2
  rw [zC e2]
  rfl
end
theorem yOD{S S':Sto}(h: ∀(m:Nat)(o:MO),S[m]? =some o->S'[m]? =some o):S.length<=S'.length:=by
 by_cases z:S.length=0
 ·omega
 ·have hl:S.length - 1<S.length:=by omega
  have:=(gS0.mp (h _ _ (gE0 hl))).1
  omega
theorem yOE{S S':Sto}(h: ∀(m:Nat)(o:MO),S[m]? =some o->S'[m]? =some o):zNT S S':=⟨yOD h,λl hl=>.inl (by rw [h l _ (gE0 hl),gE0 hl])⟩
theorem yJW{S S':Sto}(h: ∀(m:Nat)(o:MO),S[m]? =some o->S'[m]? =some o): ∀(m:Nat)(o:MO),S[m]? =some o->(S'.take S.length)[m]? =some o:=λm o hm=>by
 rw [getElem?_take_of_lt (gS0.mp hm).1]
 exact h m o hm
abbrev Old(S S':Sto):Prop:= ∀(m:Nat)(o:MO),S[m]? =some o->S'[m]? =some o
theorem Old.app(S T:Sto):Old S (S++T):=λm o h=>by rw [getElem?_append_left (gS0.mp h).1];exact h
theorem Old.set{S S':Sto}(h:Old S S'){l:Nat}(hl:S.length<=l)(o:MO):Old S (S'.set l o):=λm u hm=>by
 have:=(gS0.mp hm).1
 rw [getElem?_set_ne (by omega)]
 exact h m u hm
theorem Old.trans{S S' S'':Sto}(h:Old S S')(h':Old S' S''):Old S S'':=λm o e=>h' m o (h m o e)
theorem Old.is{S S':Sto}(h:Old S S'): ∃T,S'=S++T:=by
 refine⟨S'.drop S.length,?_⟩
 have e:S'.take S.length=S:=by
  apply ext_getElem?
  intro m
  by_cases hm:m<S.length
  ·rw [getElem?_take_of_lt hm,h m _ (gE0 hm),gE0 hm]
  ·rw [getElem?_eq_none (by rw [lT];omega),getElem?_eq_none (by omega)]
 conv=>lhs;rw [<-List.take_append_drop S.length S',e]
inductive TsAt(S:Sto):List MV->List (Nat×List Nat)->Prop
 |nil:TsAt S [] []
 |cons {p i:Nat} {srv:List Nat} {ms:List MV} {tk:List (Nat×List Nat)}:S[p]? =some (.lst (srv.map zF))->srv.length<=100->TsAt S ms tk->TsAt S (.tup [zF i,.loc p]::ms) ((i,srv)::tk)
theorem TsAt.mono{S S':Sto}{ms:List MV}{tk:List (Nat×List Nat)}(h:TsAt S ms tk)(o: ∀(m:Nat)(ds:List MV),S[m]? =some (.lst ds)->(∃i,MV.tup [i,.loc m]∈ms)->S'[m]? =some (.lst ds)):TsAt S' ms tk:=by
 induction h with
 |nil=>exact .nil
 |@cons p i srv ms tk h1 h2 _ ih=>exact .cons (o _ _ h1 ⟨zF i,mF0⟩) h2 (ih λm ds e ⟨j,hj⟩=>o m ds e ⟨j,mO _ hj⟩)
theorem TsAt.snoc{S:Sto}{ms:List MV}{tk:List (Nat×List Nat)}(h:TsAt S ms tk){p i:Nat}{srv:List Nat}(hp:S[p]? =some (.lst (srv.map zF)))(hl:srv.length<=100):TsAt S (ms++[.tup [zF i,.loc p]]) (tk++[(i,srv)]):=by
 induction h with
 |nil=>exact .cons hp hl .nil
 |cons h1 h2 _ ih=>exact .cons h1 h2 ih
theorem TsAt.length{S:Sto}{ms:List MV}{tk:List (Nat×List Nat)}(h:TsAt S ms tk):ms.length=tk.length:=by
 induction h with
 |nil=>rfl
 |cons _ _ _ ih=>rw [lC,lC,ih]
theorem TsAt.shape{S:Sto}{ms:List MV}{tk:List (Nat×List Nat)}(h:TsAt S ms tk): ∀d∈ms, ∃i p,d=.tup [zF i,.loc p]:=by
 induction h with
 |nil=>intro d hd;cases hd
 |@cons p i srv ms tk h1 h2 _ ih=>intro d hd;rcases mC.mp hd with e|e;(· exact⟨i,p,e⟩);(· exact ih d e)
theorem zRJ{α β:Type}{f:α->MV}{gf:MV->Rho->Sto->R Rho}{body:Rho->Sto->R Fl}{gs:List (Nat×List MV)}(J:Nat->β->Rho->Sto->Prop)(step:β->α->β):
  ∀{ds:List α}(k:Nat),(∀j d,ds[j]? =some d-> ∀b ρ S,J (k+j) b ρ S-> ∃ρ' S',((gf (f d) ρ S).bind λρ0 S0=>body ρ0 S0)=.ok (.next ρ') S'/\stay gs S'/\J (k+j+1) (step b d) ρ' S')-> ∀b ρ S,J k b ρ S->
   ∃ρ' S',cF gf body gs (ds.map f) ρ S=.ok (.next ρ') S'/\J (k+ds.length) (ds.foldl step b) ρ' S'
 |[],k,_,b,ρ,S,h=>⟨ρ,S,rfl,h⟩
 |d::ds,k,st,b,ρ,S,h=>by
  obtain⟨ρ1,S1,e1,s1,j1⟩:=st 0 d rfl b ρ S h
  obtain⟨ρ2,S2,e2,j2⟩:=zRJ J step (ds:=ds) (k+1) (λj d' hd b ρ S hj=>by
   have:=st (j+1) d' hd b ρ S (by rw [show k+(j+1)=k+1+j by omega];exact hj)
   rw [show k+(j+1)=k+1+j by omega]at this
   exact this) (step b d) ρ1 S1 j1
  refine⟨ρ2,S2,?_,by rw [lC,foldl_cons,show k+(ds.length+1)=k+1+ds.length by omega];exact j2⟩
  rw [map_cons]
  cases z:gf (f d) ρ S with
  |ok ρ0 S0=>
   rw [z,bok]at e1
   rw [dI z e1 s1,e2]
  |exc c fs S0=>rw [z]at e1;cases e1
  |no=>rw [z]at e1;cases e1
section
variable{ts:List (Int×Int)}{rls:List Rule}{rs:List Row}
theorem ySZ(h: ∀r∈rls,cV ts r)(n:Nat):loL n (rls.map obR):=yO λd hd=>by
 obtain⟨r,hr,rfl⟩:=mM.mp hd
 exact yPD (zPE (h r hr) _)
theorem yEA(h: ∀r∈rls,cV ts r)(hl:rls.length<=100)(S:Sto):zT 1 cI [.val (zM ts rls rs)] S=.ok (.new (rls.map obR)) S:=zHH (T:=[]) rfl (by
 show yH (zKE [some (zM ts rls rs)] S)=_
 have hc:yT (gNm 0) zHX zAR [none] [] (rls.map zP) S=.ok (rls.map obR) S:=cW (kL _) λr hr=>⟨[some (zP r)],rfl,rfl,by
  unfold zAR
  simp? [made (h r hr)]⟩
 have e1:zFF [some (zM ts rls rs)] S=.ok (.ret (.new (rls.map obR))) S:=by
  unfold zFF
  simp? [book1,dD,show((rls.map zP).length<1000000)=True from eq_true (by rw [lM];omega),show blk 1 [] [some (zM ts rls rs)]=[none]from rfl,hc]
 unfold zKE
 rw [e1,aN]
 rfl) (ySZ h _)
theorem yGH:zVD (rs.map zL)=(List.range rs.length).map λi=>.tup [zF i,zL (atR rs i)]:=by
 unfold zVD
 apply ext_getElem?
 intro m
 by_cases hm:m<rs.length
 ·simp only [getElem?_map,List.getElem?_zipIdx,List.getElem?_range hm,Option.map_some,gE0 hm,zero_add]
  unfold atR
  rw [gE0 hm]
  rfl
 ·rw [getElem?_eq_none (by rw [lM,List.length_zipIdx,lM];omega),getElem?_eq_none (by rw [lM,length_range];omega)]
theorem yJX(hRl: ∀r∈rls,cV ts r){r:Rule}(hr:r∈rls){a:Row}(ha:ROk ts a){os:List Row}(ho: ∀o∈os,ROk ts o)(hl:os.length<1000)(S:Sto):
  ∃F,yBI "lacks" dO (.val (obR r))=some F/\zT 3 F [.val (obR r),.val (zL a),.new (os.map zL)] S=.ok (.val (.bl (wT r a os))) S:=by
 have g:(S++[MO.lst (os.map zL)])[S.length]? =some (.lst (os.map zL)):=by simp
 obtain⟨F,h1,⟨T,h2⟩,_⟩:=zZB (hRl r hr) ha ho hl g g
 exact⟨F,h1,zPF (T:=[.lst (os.map zL)]++T) rfl (by
  show F [obR r,zL a,.loc S.length] (S++[.lst (os.map zL)])=_
  rw [h2,aA])⟩
noncomputable def zOO(rs:List Row)(r:Rule)(i:Nat):List Nat:=(List.range rs.length).filter λj=>!wT r (atR rs i) [atR rs j]
noncomputable def zRK(rs:List Row)(r:Rule)(i:Nat):List (Nat×List Nat):=if wT r (atR rs i) []=true then [(i,zOO rs r i)]else []
end
theorem zKI{α:Type}{f g:α->MV}{p:α->Bool}{S:Sto}{gf:MV->Rho->Sto->R Rho}{cf:Rho->Sto->R Bool}{ef:Rho->Sto->R Er}{ρb:Rho}{gs:List (Nat×List MV)}(hs:stay gs S):
  ∀{ds:List α},(∀d∈ds, ∃ρ1,gf (f d) ρb S=.ok ρ1 S/\cf ρ1 S=.ok (p d) S/\ef ρ1 S=.ok (.val (g d)) S)->yT gf cf ef ρb gs (ds.map f) S=.ok ((ds.filter p).map g) S
 |[],_=>rfl
 |d::ds,st=>by
  obtain⟨ρ1,h1,h2,h3⟩:=st d mF0
  have e:=zKI hs (f:=f) (g:=g) (p:=p) (ds:=ds) λd hd=>st d (mO _ hd)
  rw [map_cons]
  unfold yT
  cases hp:p d with
  |true=>
   rw [h1,yG,bok,h2,yG,bok,hp,iP rfl,h3,yG,bok]
   unfold cE
   rw [bok,iP hs,e,filter_cons_of_pos hp]
   rfl
  |false=>
   rw [h1,yG,bok,h2,yG,bok,hp,iN xF0,iP hs,e,filter_cons_of_neg (by rw [hp];exact xF0)]
section
variable{ts:List (Int×Int)}{rls:List Rule}{rs:List Row}
structure TI(S0:Sto)(tk:List (Nat×List Nat))(c:Nat)(S':Sto):Prop where
 ex: ∃ms,S'[S0.length]? =some (.lst ms)/\TsAt S' ms tk/\ ∀p i,MV.tup [i,.loc p]∈ms->S0.length<p
 old:Old S0 S'
 len:tk.length<=c
abbrev T5(b:MV)(l:Nat)(x y z:Option MV):Rho:=[some b,some (.loc l),x,y,z]
theorem zZH(S:Sto):itE [.val (.tup (rs.map zL))] S=.ok ⟨(List.range rs.length).map λi=>.tup [zF i,zL (atR rs i)],[]⟩ S:=by
 show R.ok (⟨zVD (rs.map zL),[]⟩:Wk) S=_
 rw [yGH]
theorem yJY(hRl: ∀r∈rls,cV ts r)(hR: ∀r∈rs,ROk ts r){r:Rule}(hr:r∈rls){i:Nat}(hi:i<rs.length)(S:Sto):
  yT (gTp 2 (yM (gNm 0) (yM (gNm 1) zBO))) zCM zJP [none,none,some (obR r),some (zL (atR rs i))] [] ((List.range rs.length).map λi=>.tup [zF i,zL (atR rs i)]) S=.ok ((zOO rs r i).map zF) S:=
 zKI (kL _) λj hj=>by
  rw [mem_range]at hj
  obtain⟨F,h1,h2⟩:=yJX hRl hr (hR _ (zJG hi)) (os:=[atR rs j]) (λo h=>by rw [mS.mp h];exact hR _ (zJG hj)) (show 1<1000 by decide) S
  refine⟨[some (zF j),some (zL (atR rs j)),some (obR r),some (zL (atR rs i))],rfl,?_,rfl⟩
  have h2':zT 3 F [.val (obR r),.val (zL (atR rs i)),.new [zL (atR rs j)]] S=.ok (.val (.bl (wT r (atR rs i) [atR rs j]))) S:=h2
  unfold zCM
  simp? [lst1,h1,h2']
theorem yJZ(hRl: ∀r∈rls,cV ts r)(hR: ∀r∈rs,ROk ts r)(hn:rs.length<=100){r:Rule}(hr:r∈rls){i:Nat}(hi:i<rs.length){S0 S:Sto}{tk:List (Nat×List Nat)}{c:Nat}(hc:c<100000)(h:TI S0 tk c S):
  ∃S',gN (T5 (zM ts rls rs) S0.length (some (obR r)) (some (zF i)) (some (zL (atR rs i)))) S=.ok (.next (T5 (zM ts rls rs) S0.length (some (obR r)) (some (zF i)) (some (zL (atR rs i))))) S'/\TI S0 (tk++zRK rs r i) (c+1) S':=by
 obtain⟨F,h1,h2⟩:=yJX hRl hr (hR _ (zJG hi)) (os:=[]) (λo h=>by cases h) (by decide) S
 have h2':zT 3 F [.val (obR r),.val (zL (atR rs i)),.new []] S=.ok (.val (.bl (wT r (atR rs i) []))) S:=h2
 unfold zRK
 cases hb:wT r (atR rs i) []with
 |false=>
  rw [hb]at h2'
  refine⟨S,?_,by rw [iN xF0,aN];exact⟨h.ex,h.old,by have:=h.len;omega⟩⟩
  unfold gN zCN
  simp? [yBF,h1,h2']
  rfl
 |true=>
  rw [hb]at h2'
  rw [iP rfl]
  obtain⟨ms,g1,g2,g3⟩:=h.ex
  have hl0:S0.length<S.length:=(gS0.mp g1).1
  have hsl:(zOO rs r i).length<=100:=le_trans (length_filter_le _ _) (by rw [length_range];exact hn)
  have g1':(S++[MO.lst ((zOO rs r i).map zF)])[S0.length]? =some (.lst ms):=by rw [getElem?_append_left hl0];exact g1
  refine⟨(S++[MO.lst ((zOO rs r i).map zF)]).set S0.length (.lst (ms++[.tup [zF i,.loc S.length]])),?_,?_⟩
  ·unfold gN zCN
   simp? [yBF,h1,h2',zJD g1,zOA,zZH,show(((List.range rs.length).map λi=>MV.tup [zF i,zL (atR rs i)]).length<1000000)=True from eq_true (by rw [lM,length_range];omega),show blk 2 [2,4] (T5 (zM ts rls rs) S0.length (some (obR r)) (some (zF i)) (some (zL (atR rs i))))=[none,none,some (obR r),some (zL (atR rs i))]from rfl,yJY hRl hR hr hi]
   rw [show nX [.val (zF i),.new ((zOO rs r i).map zF)] S=.ok (.val (.tup [zF i,.loc S.length])) (S++[.lst ((zOO rs r i).map zF)])from zHK (by simp)]
   simp? [zJC g1' (by rw [g2.length];have:=h.len;omega)]
  ·have o1:Old S (S++[MO.lst ((zOO rs r i).map zF)]):=Old.app _ _
   refine⟨⟨ms++[.tup [zF i,.loc S.length]],getElem?_set_self (by rw [lA];omega),?_,λp j hm=>?_⟩,(h.old.trans o1).set (le_refl _) _,by rw [lA,lS];have:=h.len;omega⟩
   ·refine TsAt.snoc (g2.mono λm ds e ⟨j,hj⟩=>?_) ?_ hsl
    ·rw [getElem?_set_ne (by have:=g3 m j hj;omega)]
     exact o1 m _ e
    ·rw [getElem?_set_ne (by omega)]
     simp
   ·rcases mem_append.mp hm with hm|hm
    ·exact g3 p j hm
    ·have:=mS.mp hm
     injection this with this
     injection this with _ this
     injection this with this _
     injection this with this
     omega
end
section
variable{ts:List (Int×Int)}{rls:List Rule}{rs:List Row}
noncomputable def zCD(rls:List Rule)(rs:List Row):List (Nat×List Nat):=rls.foldl (λb r=>(List.range rs.length).foldl (λb i=>b++zRK rs r i) b) []
def yPF(S:Sto)(r:Er)(tk:List (Nat×List Nat)):Prop:=(r=.new []/\tk=[])\/ ∃l ms,r=.val (.loc l)/\S[l]? =some (.lst ms)/\TsAt S ms tk
theorem yTA(hRl: ∀r∈rls,cV ts r)(hR: ∀r∈rs,ROk ts r)(hn:rs.length<=100)(hrl:rls.length<=100)(S:Sto):
  ∃r S',zT 1 cJ [.val (zM ts rls rs)] S=.ok r S'/\Old S S'/\yPF S' r (zCD rls rs)/\(zCD rls rs).length<=100000:=by
 have e1:zHZ [some (zM ts rls rs),none,none,none,none] S=.ok (.next (T5 (zM ts rls rs) S.length none none none)) (S++[.lst []]):=by
  unfold zHZ
  simp? [yBF]
 have inner: ∀{r:Rule},r∈rls-> ∀(c:Nat),c<=50000-> ∀(b:List (Nat×List Nat))(ρ:Rho)(S1:Sto),(∃y z,ρ=T5 (zM ts rls rs) S.length (some (obR r)) y z)/\TI S b c S1->
   ∃ρ' S',cF (gTp 2 (yM (gNm 3) (yM (gNm 4) zBO))) gN [] ((List.range rs.length).map λi=>MV.tup [zF i,zL (atR rs i)]) ρ S1=.ok (.next ρ') S'/\(∃y z,ρ'=T5 (zM ts rls rs) S.length (some (obR r)) y z)/\TI S ((List.range rs.length).foldl (λb i=>b++zRK rs r i) b) (c+rs.length) S':=λ{r} hr c hc b ρ S1 h=>by
  have:=zRJ (f:=λi=>MV.tup [zF i,zL (atR rs i)]) (gf:=gTp 2 (yM (gNm 3) (yM (gNm 4) zBO))) (body:=gN) (gs:=[]) (λk b ρ S1=>(∃y z,ρ=T5 (zM ts rls rs) S.length (some (obR r)) y z)/\TI S b k S1) (λb i=>b++zRK rs r i) (ds:=List.range rs.length) c (λj i hj b ρ S1 ⟨⟨y,z,hρ⟩,hT⟩=>by
   subst hρ
   obtain⟨hj1,hj2⟩:=gS0.mp hj
   rw [length_range]at hj1
   rw [List.getElem_range]at hj2
   subst hj2
   obtain⟨S',t1,t2⟩:=yJZ hRl hR hn hr hj1 (by omega) hT
   refine⟨T5 (zM ts rls rs) S.length (some (obR r)) (some (zF j)) (some (zL (atR rs j))),S',?_,kL _,⟨_,_,rfl⟩,t2⟩
   rw [show gTp 2 (yM (gNm 3) (yM (gNm 4) zBO)) (.tup [zF j,zL (atR rs j)]) (T5 (zM ts rls rs) S.length (some (obR r)) y z) S1=.ok (T5 (zM ts rls rs) S.length (some (obR r)) (some (zF j)) (some (zL (atR rs j)))) S1 from rfl,bok]
   exact t1) b ρ S1 h
  obtain⟨ρ',S',f1,f2,f3⟩:=this
  rw [length_range]at f3
  exact⟨ρ',S',f1,f2,f3⟩
 obtain⟨ρ',S',f1,⟨x,y,z,hρ⟩,f3⟩:=zRJ (f:=obR) (gf:=gNm 2) (body:=zHY) (gs:=[]) (λk b ρ S1=>(∃x y z,ρ=T5 (zM ts rls rs) S.length x y z)/\TI S b (k * rs.length) S1) (λb r=>(List.range rs.length).foldl (λb i=>b++zRK rs r i) b) (ds:=rls) 0 (λj r hj b ρ S1 ⟨⟨x,y,z,hρ⟩,hT⟩=>by
  subst hρ
  have hr:r∈rls:=mem_of_getElem? hj
  have hj1:=(gS0.mp hj).1
  have hb:(0+j) * rs.length<=50000:=le_trans (mul_le_mul (show 0+j<=100 by omega) hn) (by decide)
  obtain⟨ρ',S',f1,⟨y',z',rfl⟩,f3⟩:=inner hr ((0+j) * rs.length) hb b (T5 (zM ts rls rs) S.length (some (obR r)) y z) S1 ⟨⟨_,_,rfl⟩,hT⟩
  refine⟨T5 (zM ts rls rs) S.length (some (obR r)) y' z',S',?_,kL _,⟨_,_,_,rfl⟩,by rw [show(0+j+1) * rs.length=(0+j) * rs.length+rs.length by rw [Nat.add_mul,Nat.one_mul]];exact f3⟩
  rw [show gNm 2 (obR r) (T5 (zM ts rls rs) S.length x y z) S1=.ok (T5 (zM ts rls rs) S.length (some (obR r)) y z) S1 from rfl,bok]
  unfold zHY zJQ
  simp? [zOA,zZH]
  exact f1) [] (T5 (zM ts rls rs) S.length none none none) (S++[.lst []]) ⟨⟨_,_,_,rfl⟩,⟨⟨[],by simp,.nil,λp i h=>by cases h⟩,Old.app _ _,zero_le _⟩⟩
 subst hρ
 have e2:zIA (T5 (zM ts rls rs) S.length none none none) (S++[.lst []])=.ok (.next (T5 (zM ts rls rs) S.length x y z)) S':=by
  unfold zIA
  simp? [yEA hRl hrl,show∀ds S,itL (.new ds) S=.ok ⟨ds,[]⟩ S from λ_ _=>rfl]
  exact f1
 have e3:zIB (T5 (zM ts rls rs) S.length x y z) S'=.ok (.ret (.val (.loc S.length))) S':=by
  unfold zIB
  simp? [bok]
 have hF:cJ [zM ts rls rs] S=.ok (.val (.loc S.length)) S':=by
  show yH (zMW [some (zM ts rls rs),none,none,none,none] S)=_
  unfold zMW
  rw [zC e1,zC e2,e3]
  rfl
 have hlen:(zCD rls rs).length<=100000:=le_trans f3.len (le_trans (mul_le_mul (show 0+rls.length<=100 by omega) hn) (by decide))
 obtain⟨ms,g1,g2,g3⟩:=f3.ex
 have hcall:zT 1 cJ [.val (zM ts rls rs)] S=bX S (.val (.loc S.length)) S':=by
  unfold zT
  rw [iP (show [Er.val (zM ts rls rs)].length=1 from rfl)]
  show((noX (cJ [zM ts rls rs] S)).bind λr S2=>bX S r S2)=_
  rw [hF,yG,bok]
 rw [hcall]
 unfold bX
 rw [iP (yOE f3.old)]
 dsimp only
 rw [iN (lt_irrefl _),g1]
 dsimp only
 by_cases hm:ms=[]
 ·subst hm
  refine⟨.new [],S'.take S.length,by rw [iP (yO λd hd=>by cases hd)],yJW f3.old,.inl ⟨rfl,?_⟩,hlen⟩
  have:=g2.length
  exact List.eq_nil_of_length_eq_zero this.symm
 ·refine⟨.val (.loc S.length),S',by
   rw [iN]
   intro hlo
   cases ms with
   |nil=>exact hm rfl
   |cons d r=>
    obtain⟨i,p,rfl⟩:=g2.shape d mF0
    have hp:=g3 p _ mF0
    unfold loL at hlo
    have h1:=hlo.1
    unfold lo at h1
    unfold loL at h1
    have h2:=h1.2
    unfold loL at h2
    have h3:=h2.1
    unfold lo at h3
    omega,f3.old,.inr ⟨S.length,ms,rfl,g1,g2⟩,hlen⟩
end
noncomputable def unT(tk:List (Nat×List Nat))(K:List Nat):List Nat:=(tk.filter λt=>decide (t.1∈K)&& !t.2.any λj=>decide (j∈K)).map (·.1)
theorem c_has{S:Sto}{lk p:Nat}{K srv:List Nat}(hk:S[lk]? =some (.dic (kd K)))(hp:S[p]? =some (.lst (srv.map zF))):zT 2 nZ [.val (.loc lk),.val (.loc p)] S=.ok (.val (.bl (srv.any λj=>decide (j∈K)))) S:=by
 refine jY rfl ?_
 show yH (zFG [some (.loc lk),some (.loc p),none] S)=_
 obtain⟨o1,o2⟩:=zLQ (f:=zF) (p:=λj=>decide (j∈K)) (gf:=gNm 2) (body:=bF) (gs:=[(p,srv.map zF)]) (S:=S) (r:=.val (.bl true)) (λρ=> ∃y,ρ=[some (.loc lk),some (.loc p),y]) (wZ hp) (ds:=srv) (λj _ ρ ⟨y,hρ⟩=>by
  subst hρ
  refine⟨[some (.loc lk),some (.loc p),some (zF j)],rfl,λh=>?_,λh=>⟨[some (.loc lk),some (.loc p),some (zF j)],⟨_,rfl⟩,?_⟩⟩
  ·unfold bF cK
   simp? [zZD hk,h]
   rfl
  ·unfold bF cK
   simp? [zZD hk,h]
   rfl) [some (.loc lk),some (.loc p),none] ⟨_,rfl⟩
 unfold zFG
 cases hb:srv.any λj=>decide (j∈K)with
 |true=>
  have e1:kS [some (.loc lk),some (.loc p),none] S=.ok (.ret (.val (.bl true))) S:=by
   unfold kS
   simp? [jC hp]
   exact o1 hb
  rw [yR e1]
  rfl
 |false=>
  obtain⟨ρ',_,o2⟩:=o2 hb
  have e1:kS [some (.loc lk),some (.loc p),none] S=.ok (.next ρ') S:=by
   unfold kS
   simp? [jC hp]
   exact o2
  rw [zC e1]
  rfl
theorem yOF{S:Sto}{lk:Nat}{K:List Nat}(hk:S[lk]? =some (.dic (kd K))){gs:List (Nat×List MV)}(hs:stay gs S){ms:List MV}{tk:List (Nat×List Nat)}(h:TsAt S ms tk):
  yT (gTp 2 (yM (gNm 0) (yM (gNm 1) zBO))) wR gH [none,none,some (.loc lk)] gs ms S=.ok ((unT tk K).map zF) S:=by
 induction h with
 |nil=>rfl
 |@cons p i srv ms tk h1 h2 _ ih=>
  have hg:gTp 2 (yM (gNm 0) (yM (gNm 1) zBO)) (.tup [zF i,.loc p]) [none,none,some (.loc lk)] S=.ok [some (zF i),some (.loc p),some (.loc lk)] S:=rfl
  have hc:wR [some (zF i),some (.loc p),some (.loc lk)] S=.ok (decide (i∈K)&& !srv.any λj=>decide (j∈K)) S:=by
   unfold wR
   cases hi:decide (i∈K)with
   |false=>simp? [zZD hk,hi];rfl
   |true=>
    simp? [zZD hk,hi,c_has hk h1]
    rfl
  unfold unT at ih ⊢
  unfold yT
  cases hb:(decide (i∈K)&& !srv.any λj=>decide (j∈K))with
  |true=>
   rw [hg,yG,bok,hc,yG,bok,hb,iP rfl,show gH [some (zF i),some (.loc p),some (.loc lk)] S=.ok (.val (zF i)) S from rfl,yG,bok]
   unfold cE
   rw [bok,iP hs,ih,filter_cons_of_pos (by exact hb)]
   rfl
  |false=>
   rw [hg,yG,bok,hc,yG,bok,hb,iN xF0,iP hs,ih,filter_cons_of_neg (by rw [hb];exact xF0)]
theorem zPG(K:List Nat)(n:Nat):loL n (K.map zF):=yO λd hd=>by
 obtain⟨i,_,rfl⟩:=mM.mp hd
 exact wQ _ _
theorem zZI{S:Sto}{lt lk:Nat}{K:List Nat}{ms:List MV}{tk:List (Nat×List Nat)}(hk:S[lk]? =some (.dic (kd K)))(ht:S[lt]? =some (.lst ms))(h:TsAt S ms tk)(hl:tk.length<=100000):zT 2 kT [.val (.loc lt),.val (.loc lk)] S=.ok (.new ((unT tk K).map zF)) S:=zHH (T:=[]) rfl (by
 show yH (zAS [some (.loc lt),some (.loc lk)] S)=_
 have e1:cL [some (.loc lt),some (.loc lk)] S=.ok (.ret (.new ((unT tk K).map zF))) S:=by
  unfold cL
  simp? [jC ht,show(ms.length<1000000)=True from eq_true (by rw [h.length];omega),show blk 2 [1] [some (.loc lt),some (.loc lk)]=[none,none,some (.loc lk)]from rfl,yOF hk (wZ ht) h]
 unfold zAS
 rw [e1,aN]
 rfl) (zPG _ _)
theorem zWC{tk:List (Nat×List Nat)}{K:List Nat}{i:Nat}:i∈unT tk K↔i∈K/\ ∃srv,(i,srv)∈tk/\ ∀j∈srv,j∉K:=by
 unfold unT
 rw [mM]
 constructor
 ·rintro⟨⟨k,srv⟩,ht,rfl⟩
  rw [mem_filter,aE,decide_eq_true_eq,not_eq_true',any_eq_false]at ht
  exact⟨ht.2.1,srv,ht.1,λj hj=>by have:=ht.2.2 j hj;rwa [decide_eq_true_eq]at this⟩
 ·rintro⟨hi,srv,ht,hs⟩
  refine⟨(i,srv),?_,rfl⟩
  rw [mem_filter,aE,decide_eq_true_eq,not_eq_true',any_eq_false]
  exact⟨ht,hi,λj hj=>by rw [decide_eq_true_eq];exact hs j hj⟩
abbrev W5(a b:MV)(lk:Nat)(u x:Option MV):Rho:=[some a,some b,some (.loc lk),u,x]
theorem pops{a b:MV}{lk lu:Nat}{U:List Nat}(hne:lk≠lu): ∀(us:List Nat)(K:List Nat)(S:Sto)(x:Option MV),S[lk]? =some (.dic (kd K))->S[lu]? =some (.lst (U.map zF))->
  ∃x',cF (gNm 4) hZ [(lu,U.map zF)] (us.map zF) (W5 a b lk (some (.loc lu)) x) S=.ok (.next (W5 a b lk (some (.loc lu)) x')) (S.set lk (.dic (kd (K.filter λk=>!decide (k∈us)))))
 |[],K,S,x,hk,hu=>by
  refine⟨x,?_⟩
  have e:(K.filter λk=>!decide (k∈([]:List Nat)))=K:=filter_eq_self.mpr λk _=>by simp
  rw [e,set_same hk]
  rfl
 |u::us,K,S,x,hk,hu=>by
  obtain⟨d,hd⟩:=ySV hk u
  have hb:hZ (W5 a b lk (some (.loc lu)) (some (zF u))) S=.ok (.next (W5 a b lk (some (.loc lu)) (some (zF u)))) (S.set lk (.dic (kd (K.filter λk=>!decide (k=u))))):=by
   unfold hZ zBX
   simp? [yNZ hk,hd]
  have hk':(S.set lk (.dic (kd (K.filter λk=>!decide (k=u)))))[lk]? =some (.dic (kd (K.filter λk=>!decide (k=u)))):=get_set hk
  have hu':(S.set lk (.dic (kd (K.filter λk=>!decide (k=u)))))[lu]? =some (.lst (U.map zF)):=by rw [wS hne];exact hu
  obtain⟨x',h'⟩:=pops hne us (K.filter λk=>!decide (k=u)) _ (some (zF u)) hk' hu'
  refine⟨x',?_⟩
  rw [map_cons,dI (ρ0:=W5 a b lk (some (.loc lu)) (some (zF u))) rfl hb (wZ hu'),h',List.set_set,filter_filter]
  congr 5
  funext k
  by_cases h1:k=u
  ·subst h1;simp
  ·by_cases h2:k∈us<;>simp [h1,h2]
def zIJ(tk:List (Nat×List Nat))(A K:List Nat):Prop:=(∃p,K=A.filter p)/\unT tk K=[]/\ ∀P:Nat->Prop,(∀i,P i->i∈A)->(∀t∈tk,P t.1-> ∃j∈t.2,P j)-> ∀i,P i->i∈K
theorem yOG{S:Sto}{l:Nat}{ds:List MV}(h:S[l]? =some (.lst ds)):zET (.val (.loc l)) S=.ok (!ds.isEmpty) S:=by
 unfold zET
 dsimp only
 rw [h]
theorem yGI{tk:List (Nat×List Nat)}{S3:Sto}{lt:Nat}{b:MV}{ms:List MV}(ht:S3[lt]? =some (.lst ms))(hT:TsAt S3 ms tk)(hl:tk.length<=100000):
  ∀(n:Nat)(K:List Nat)(S:Sto)(lu:Nat)(x:Option MV),K.length<n->Old S3 S->S[S3.length]? =some (.dic (kd K))->S3.length<lu->S[lu]? =some (.lst ((unT tk K).map zF))->
   ∃K' u' x' S',gY jE gA n (W5 (.loc lt) b S3.length (some (.loc lu)) x) S=.ok (.next (W5 (.loc lt) b S3.length u' x')) S'/\Old S3 S'/\S'[S3.length]? =some (.dic (kd K'))/\zIJ tk K K':=by
 intro n
 induction n with
 |zero=>intro K S lu x h;omega
 |succ n ih=>
  intro K S lu x hn hO hk hlu hu
  have hW:jE (W5 (.loc lt) b S3.length (some (.loc lu)) x) S=.ok (!((unT tk K).map zF).isEmpty) S:=by
   unfold jE
   simp? [yOG hu]
  cases hU:unT tk K with
  |nil=>
   rw [hU]at hW
   refine⟨K,some (.loc lu),x,S,yFG hW,hO,hk,⟨λ_=>true,(filter_eq_self.mpr λ_ _=>rfl).symm⟩,hU,λP h1 _ i hi=>h1 i hi⟩
  |cons u us=>
   rw [hU]at hW
   obtain⟨x',hp⟩:=pops (a:=.loc lt) (b:=b) (U:=unT tk K) (show S3.length≠lu by omega) (unT tk K) K S x hk hu
   have hk1:(S.set S3.length (.dic (kd (K.filter λk=>!decide (k∈unT tk K)))))[S3.length]? =some (.dic (kd (K.filter λk=>!decide (k∈unT tk K)))):=get_set hk
   have hO1:Old S3 (S.set S3.length (.dic (kd (K.filter λk=>!decide (k∈unT tk K))))):=hO.set (le_refl _) _
   generalize hK1:(K.filter λk=>!decide (k∈unT tk K))=K1 at hp hk1 hO1
   generalize hS1:S.set S3.length (.dic (kd K1))=S1 at hp hk1 hO1
   have ht1:=hO1 _ _ ht
   have hT1:TsAt S1 ms tk:=hT.mono λm ds e _=>hO1 m _ e
   have b1:bH (W5 (.loc lt) b S3.length (some (.loc lu)) x) S=.ok (.next (W5 (.loc lt) b S3.length (some (.loc lu)) x')) S1:=by
    unfold bH
    simp? [jC hu]
    exact hp
   have b2:bI (W5 (.loc lt) b S3.length (some (.loc lu)) x') S1=.ok (.next (W5 (.loc lt) b S3.length (some (.loc S1.length)) x')) (S1++[.lst ((unT tk K1).map zF)]):=by
    unfold bI
    simp? [zZI hk1 ht1 hT1 hl]
   have hB:gA (W5 (.loc lt) b S3.length (some (.loc lu)) x) S=.ok (.next (W5 (.loc lt) b S3.length (some (.loc S1.length)) x')) (S1++[.lst ((unT tk K1).map zF)]):=by
    unfold gA
    rw [zC b1,b2]
   have hlk1:S3.length<S1.length:=(gS0.mp hk1).1
   have hmu: ∀i∈unT tk K,i∈K:=λi hi=>(zWC.mp hi).1
   have hlen:K1.length<K.length:=by
    rw [<-hK1]
    have huK:u∈K:=hmu u (by rw [hU];exact mF0)
    have huU:u∈unT tk K:=by rw [hU];exact mF0
    refine Nat.lt_of_le_of_ne (length_filter_le _ _) λe=>?_
    have:=List.length_filter_eq_length_iff.mp e u huK
    rw [dT0 huU]at this
    cases this
   obtain⟨K',u',x'',S',w1,w2,w3,⟨p,hpK⟩,w5,w6⟩:=ih K1 (S1++[.lst ((unT tk K1).map zF)]) S1.length x' (by omega) (hO1.trans (Old.app _ _)) (Old.app _ _ _ _ hk1) hlk1 (by simp)
   refine⟨K',u',x'',S',?_,w2,w3,⟨λk=>(!decide (k∈unT tk K))&&p k,?_⟩,w5,λP h1 h2 i hi=>w6 P (λj hj=>?_) h2 i hi⟩
   ·rw [yBE hW hB]
    exact w1
   ·rw [hpK, <-hK1,filter_filter]
    congr 1
    funext k
    exact Bool.and_comm _ _
   ·rw [<-hK1,mem_filter]
    refine⟨h1 j hj,?_⟩
    rw [not_eq_true',decide_eq_false_iff_not]
    intro hm
    obtain⟨_,srv,ht,hs⟩:=zWC.mp hm
    obtain⟨q,hq,hPq⟩:=h2 (j,srv) ht hj
    exact hs q hq (h1 q hPq)
theorem zZJ{tk:List (Nat×List Nat)}{S3:Sto}{lt la:Nat}{ms:List MV}{A:List Nat}(ht:S3[lt]? =some (.lst ms))(hT:TsAt S3 ms tk)(hl:tk.length<=100000)(ha:S3[la]? =some (.lst (A.map zF)))(hn:A.Nodup)(hal:A.length<=100):
  ∃K T,kD [.loc lt,.loc la] S3=.ok (.val (.tup (K.map zF))) (S3++T)/\zIJ tk A K:=by
 have hc:yT (gNm 0) zBW bG [none] [(la,A.map zF)] (A.map zF) S3=.ok (A.map λi=>.tup [zF i,.bl true]) S3:=cW (wZ ha) λi _=>⟨[some (zF i)],rfl,rfl,by
  unfold bG
  simp? [show∀a b S,nX [.val a,.val b] S=.ok (.val (.tup [a,b])) S from λa b S=>zHK (by simp)]⟩
 have e1:dZ [some (.loc lt),some (.loc la),none,none,none] S3=.ok (.next (W5 (.loc lt) (.loc la) S3.length none none)) (S3++[.dic (kd A)]):=by
  unfold dZ
  simp? [jC ha,show((A.map zF).length<1000000)=True from eq_true (by rw [lM];omega),show blk 1 [] [some (.loc lt),some (.loc la),none,none,none]=[none]from rfl,hc,ySW hn]
 have hO:Old S3 (S3++[.dic (kd A)]):=Old.app _ _
 have hk:(S3++[MO.dic (kd A)])[S3.length]? =some (.dic (kd A)):=by simp
 have e2:nA (W5 (.loc lt) (.loc la) S3.length none none) (S3++[.dic (kd A)])=.ok (.next (W5 (.loc lt) (.loc la) S3.length (some (.loc (S3++[MO.dic (kd A)]).length)) none)) (S3++[.dic (kd A)]++[.lst ((unT tk A).map zF)]):=by
  unfold nA
  simp? [zZI hk (hO _ _ ht) (hT.mono λm ds e _=>hO m _ e) hl]
 obtain⟨K,u',x',S',w1,w2,w3,w4⟩:=yGI (b:=.loc la) ht hT hl 10000 A (S3++[.dic (kd A)]++[.lst ((unT tk A).map zF)]) (S3++[MO.dic (kd A)]).length none (by omega) (hO.trans (Old.app _ _)) (Old.app _ _ _ _ hk) (by rw [lA];exact lt_succ_self _) (by simp)
 obtain⟨T,rfl⟩:=w2.is
 refine⟨K,T,?_,w4⟩
 show yH (zCO [some (.loc lt),some (.loc la),none,none,none] S3)=_
 have e4:nB (W5 (.loc lt) (.loc la) S3.length u' x') (S3++T)=.ok (.ret (.val (.tup (K.map zF)))) (S3++T):=by
  unfold nB
  simp? [ySX w3]
 unfold zCO
 rw [zC e1,zC e2,zC (show zGJ _ _=_ from w1),e4]
 rfl
theorem yTB{tk:List (Nat×List Nat)}{S:Sto}{r:Er}{la:Nat}{A:List Nat}(hr:yPF S r tk)(hl:tk.length<=100000)(ha:S[la]? =some (.lst (A.map zF)))(hn:A.Nodup)(hal:A.length<=100):
  ∃K,zT 2 kD [r,.val (.loc la)] S=.ok (.val (.tup (K.map zF))) S/\zIJ tk A K:=by
 have hlo: ∀K:List Nat,lo S.length (.tup (K.map zF)):=λK=>wE (zPG K _)
 rcases hr with⟨rfl,rfl⟩|⟨l,ms,rfl,g1,g2⟩
 ·obtain⟨K,T,h1,h2⟩:=zZJ (S3:=S++[.lst []]) (lt:=S.length) (la:=la) (A:=A) (ms:=[]) (by simp) .nil (zero_le _) (Old.app _ _ _ _ ha) hn hal
  refine⟨K,wY (T:=[.lst []]++T) rfl ?_ (hlo K) (λl=>by simp),h2⟩
  show kD [.loc S.length,.loc la] (S++[.lst []])=_
  rw [h1,aA]
 ·obtain⟨K,T,h1,h2⟩:=zZJ g1 g2 hl ha hn hal
  exact⟨K,wY (T:=T) rfl h1 (hlo K) (λl=>by simp),h2⟩
theorem yOH{α:Type}(f:α->Bool)(xs:List α)(S:Sto):anyF [.new (xs.map λx=>.bl (f x))] S=.ok (.val (.bl (xs.any f))) S:=by
 have h: ∀xs:List α,zBQ (xs.map λx=>.bl (f x))=some (xs.map f):=by
  intro xs
  induction xs with
  |nil=>rfl
  |cons x xs ih=>rw [map_cons,map_cons];unfold zBQ;rw [ih];rfl
 show(match (some (xs.map λx=>MV.bl (f x))).bind zBQ with |some bs=>R.ok (Er.val (.bl (bs.any id))) S|none=>.no)=_
 rw [show(some (xs.map λx=>MV.bl (f x))).bind zBQ=some (xs.map f)from h xs]
 show R.ok (Er.val (.bl ((xs.map f).any id))) S=_
 rw [List.any_map]
 rfl
section
variable{ts:List (Int×Int)}{rls:List Rule}{rs:List Row}
noncomputable def wK(rls:List Rule)(rs:List Row)(some:List Nat):List Nat:=some.filter λi=>!rls.any λr=>zEP r (atR rs i)
abbrev U4(b m:MV)(x y:Option MV):Rho:=[some b,some m,x,y]
theorem yKA(hRl: ∀r∈rls,cV ts r)(hR: ∀r∈rs,ROk ts r)(hn:rs.length<=100)(hrl:rls.length<=100){sm:List Nat}(hs: ∀i∈sm,i<rs.length)(hd:sm.Nodup)(hl:sm.length<=100)(S:Sto):
  ∃K,zT 2 zQY [.val (zM ts rls rs),.val (.tup (sm.map zF))] S=.ok (.val (.tup (K.map zF))) S/\zIJ (zCD rls rs) (wK rls rs sm) K:=by
 have e1:zQV (U4 (zM ts rls rs) (.tup (sm.map zF)) none none) S=.ok (.next (U4 (zM ts rls rs) (.tup (sm.map zF)) (some (.loc S.length)) none)) (S++[.lst (rls.map obR)]):=by
  unfold zQV
  simp? [yEA hRl hrl]
 have gr:(S++[MO.lst (rls.map obR)])[S.length]? =some (.lst (rls.map obR)):=by simp
 have inner: ∀{i:Nat},i<rs.length->yT (gNm 0) zQT zKF [none,some (zF i),some (zM ts rls rs)] [(S.length,rls.map obR)] (rls.map obR) (S++[.lst (rls.map obR)])=.ok (rls.map λr=>.bl (zEP r (atR rs i))) (S++[.lst (rls.map obR)]):=λ{i} hi=>
  cW (wZ gr) λr hr=>by
   obtain⟨F,h1,h2,_⟩:=yDW (hRl r hr) (hR _ (zJG hi)) (S++[.lst (rls.map obR)])
   refine⟨[some (obR r),some (zF i),some (zM ts rls rs)],rfl,rfl,?_⟩
   unfold zKF
   simp? [zOA,zRI hi,h1,h2]
 have outer:yT (gNm 0) zKG zQU [none,some (zM ts rls rs),some (.loc S.length)] [] (sm.map zF) (S++[.lst (rls.map obR)])=.ok ((wK rls rs sm).map zF) (S++[.lst (rls.map obR)]):=zBH (kL _) λi hi=>by
  refine⟨[some (zF i),some (zM ts rls rs),some (.loc S.length)],rfl,?_,rfl⟩
  unfold zKG
  simp? [jC gr,show((rls.map obR).length<1000000)=True from eq_true (by rw [lM];omega),show blk 1 [0,1] [some (zF i),some (zM ts rls rs),some (.loc S.length)]=[none,some (zF i),some (zM ts rls rs)]from rfl,inner (hs i hi),yOH]
 have e2:zQW (U4 (zM ts rls rs) (.tup (sm.map zF)) (some (.loc S.length)) none) (S++[.lst (rls.map obR)])=.ok (.next (U4 (zM ts rls rs) (.tup (sm.map zF)) (some (.loc S.length)) (some (.loc (S++[MO.lst (rls.map obR)]).length)))) (S++[.lst (rls.map obR)]++[.lst ((wK rls rs sm).map zF)]):=by
  unfold zQW
  simp? [dD,show((sm.map zF).length<1000000)=True from eq_true (by rw [lM];omega),show blk 1 [0,2] (U4 (zM ts rls rs) (.tup (sm.map zF)) (some (.loc S.length)) none)=[none,some (zM ts rls rs),some (.loc S.length)]from rfl,outer]
 generalize hS2:S++[.lst (rls.map obR)]++[.lst ((wK rls rs sm).map zF)]=S2 at e2
 have hO:Old S S2:=by rw [<-hS2,aA];exact Old.app _ _
 have ga:S2[(S++[MO.lst (rls.map obR)]).length]? =some (.lst ((wK rls rs sm).map zF)):=by rw [<-hS2];simp
 obtain⟨r,S3,t1,t2,t3,t4⟩:=yTA hRl hR hn hrl S2
 obtain⟨K,k1,k2⟩:=yTB t3 t4 (t2 _ _ ga) (hd.sublist filter_sublist) (le_trans (length_filter_le _ _) hl)
 obtain⟨T,hT⟩:=(hO.trans t2).is
 have e3:zQX (U4 (zM ts rls rs) (.tup (sm.map zF)) (some (.loc S.length)) (some (.loc (S++[MO.lst (rls.map obR)]).length))) S2=.ok (.ret (.val (.tup (K.map zF)))) S3:=by
  unfold zQX
  simp? [t1,k1]
 refine⟨K,wY (T:=T) rfl ?_ (wE (zPG K _)) (λl=>by simp),k2⟩
 show yH (yBO (U4 (zM ts rls rs) (.tup (sm.map zF)) none none) S)=_
 unfold yBO
 rw [zC e1,zC e2,e3,hT]
 rfl
theorem yEB{t:Nat×List Nat}:t∈zCD rls rs↔ ∃r∈rls, ∃i,i<rs.length/\wT r (atR rs i) []=true/\t=(i,zOO rs r i):=by
 have f1: ∀{α β:Type}(g:α->List β)(l:List α)(b:List β),l.foldl (λb i=>b++g i) b=b++l.flatMap g:=by
  intro α β g l
  induction l with
  |nil=>intro b;simp
  |cons x l ih=>intro b;rw [foldl_cons,ih,List.flatMap_cons,aA]
 have e:zCD rls rs=rls.flatMap λr=>(List.range rs.length).flatMap (zRK rs r):=by
  unfold zCD
  rw [show(λ(b:List (Nat×List Nat)) r=>(List.range rs.length).foldl (λb i=>b++zRK rs r i) b)=λb r=>b++(List.range rs.length).flatMap (zRK rs r)from funext λb=>funext λr=>f1 _ _ _,f1]
  rfl
 rw [e,mem_flatMap]
 constructor
 ·rintro⟨r,hr,h⟩
  obtain⟨i,hi,h⟩:=mem_flatMap.mp h
  rw [mem_range]at hi
  unfold zRK at h
  split at h
  ·rename_i hb
   exact⟨r,hr,i,hi,hb,mS.mp h⟩
  ·cases h
 ·rintro⟨r,hr,i,hi,hb,rfl⟩
  refine⟨r,hr,mem_flatMap.mpr ⟨i,mem_range.mpr hi,?_⟩⟩
  unfold zRK
  rw [iP hb]
  exact mS.mpr rfl
theorem yKB(r:Rule)(a:Row):wT r a []=yDV r a:=by unfold wT;simp
theorem yEC{r:Rule}{i j:Nat}(h:yDV r (atR rs i)=true):j∈zOO rs r i↔j<rs.length/\yPE r (atR rs i) (atR rs j)=true:=by
 unfold zOO wT
 rw [mem_filter,mem_range,h]
 simp
theorem zLR{part:List Nat}(hp: ∀i∈part,i<rs.length):zON rls rs part=false↔(∀i∈part,(rls.any λr=>zEP r (atR rs i))=false)/\ ∀t∈zCD rls rs,t.1∈part-> ∃j∈t.2,j∈part:=by
 unfold zON
 rw [any_eq_false]
 constructor
 ·intro h
  have h': ∀i∈part, ∀r∈rls,zEP r (atR rs i)=false/\wT r (atR rs i) (part.map (atR rs))=false:=λi hi r hr=>by
   have:=h i hi
   rw [not_eq_true,any_eq_false]at this
   have:=this r hr
   rw [not_eq_true,Bool.or_eq_false_iff]at this
   exact this
  refine⟨λi hi=>any_eq_false.mpr λr hr=>by rw [(h' i hi r hr).1];exact xF0,λt ht hti=>?_⟩
  obtain⟨r,hr,i,hi,hb,rfl⟩:=yEB.mp ht
  rw [yKB]at hb
  have hl:=(h' i hti r hr).2
  unfold wT at hl
  rw [hb,Bool.true_and,Bool.not_eq_false',List.any_map,any_eq_true]at hl
  obtain⟨j,hj,hs⟩:=hl
  exact⟨j,(yEC hb).mpr ⟨hp j hj,hs⟩,hj⟩
 ·rintro⟨h1,h2⟩ i hi
  rw [not_eq_true,any_eq_false]
  intro r hr
  rw [not_eq_true,Bool.or_eq_false_iff]
  refine⟨by have:=any_eq_false.mp (h1 i hi) r hr;rwa [not_eq_true]at this,?_⟩
  unfold wT
  cases hb:yDV r (atR rs i)with
  |false=>rfl
  |true=>
   rw [Bool.true_and,Bool.not_eq_false',List.any_map,any_eq_true]
   obtain⟨j,hj,hjp⟩:=h2 (i,zOO rs r i) (yEB.mpr ⟨r,hr,i,hp i hi,by rw [yKB];exact hb,rfl⟩) hi
   exact⟨j,hjp,((yEC hb).mp hj).2⟩
end
theorem bits_of: ∀(m:Nat)(q:Nat->Bool), ∃c,c<2 ^ m/\ ∀k,k<m->(decide (c / 2 ^ k % 2=1)=q k)
 |0,q=>⟨0,by decide,λk h=>by omega⟩
 |m+1,q=>by
  obtain⟨c,hc,h⟩:=bits_of m λk=>q (k+1)
  refine⟨2 * c+(if q 0=true then 1 else 0),by rw [Nat.pow_succ];split<;>omega,λk hk=>?_⟩
  cases k with
  |zero=>
   rw [Nat.pow_zero,Nat.div_one]
   cases hq:q 0 with
   |true=>rw [iP rfl,dT0 (by omega)]
   |false=>rw [iN xF0,dF0 (by omega)]
  |succ k=>
   have e:(2 * c+(if q 0=true then 1 else 0)) / 2 ^ (k+1)=c / 2 ^ k:=by
    have e2:(2 * c+(if q 0=true then 1 else 0)) / 2=c:=by split<;>omega
    rw [Nat.pow_succ,mul_comm (2 ^ k) 2, <-Nat.div_div_eq_div_mul,e2]
   rw [e]
   exact h k (by omega)
def zWD(sm:List Nat)(k:Nat):Nat:=(sm[k]?).getD 0
def yK(sm:List Nat)(c:Nat):List Nat:=((List.range sm.length).filter λk=>decide (c / 2 ^ k % 2=1)).map (zWD sm)
theorem yKC(sm:List Nat):(List.range sm.length).map (zWD sm)=sm:=by
 apply ext_getElem?
 intro m
 by_cases hm:m<sm.length
 ·rw [getElem?_map,List.getElem?_range hm,gE0 hm]
  unfold zWD
  rw [Option.map_some,gE0 hm]
  rfl
 ·rw [getElem?_eq_none (by rw [lM,length_range];omega),getElem?_eq_none (by omega)]
theorem zLS(sm:List Nat)(c:Nat): ∀i∈yK sm c,i∈sm:=λi hi=>by
 unfold yK at hi
 obtain⟨k,hk,rfl⟩:=mM.mp hi
 have:=(mem_filter.mp hk).1
 have h2:=mM.mpr ⟨k,this,(rfl:zWD sm k=zWD sm k)⟩
 rw [yKC]at h2
 exact h2
theorem yKD(sm:List Nat)(c:Nat):(yK sm c).length<=sm.length:=by
 unfold yK
 rw [lM]
 exact le_trans (length_filter_le _ _) (by rw [length_range];exact le_refl _)
theorem part_of(sm:List Nat)(q:Nat->Bool): ∃c,c<2 ^ sm.length/\yK sm c=sm.filter q:=by
 obtain⟨c,hc,h⟩:=bits_of sm.length λk=>q (zWD sm k)
 refine⟨c,hc,?_⟩
 unfold yK
 conv=>rhs;rw [<-yKC sm]
 rw [List.filter_map]
 congr 1
 exact List.filter_congr λk hk=>h k (mem_range.mp hk)
def zOP(J us:List Nat):List Nat:=us.foldl (λJ i=>if i∈J then J else J++[i]) J
theorem zNI(J us:List Nat)(u:Nat):zOP J (u::us)=zOP (if u∈J then J else J++[u]) us:=rfl
theorem zZK: ∀{us J:List Nat}{i:Nat},i∈zOP J us↔i∈J\/i∈us
 |[],J,i=>by unfold zOP;simp
 |u::us,J,i=>by
  rw [zNI,zZK,mC]
  by_cases h:u∈J
  ·rw [iP h]
   constructor
   ·rintro(h'|h')
    ·exact .inl h'
    ·exact .inr (.inr h')
   ·rintro(h'|h'|h')
    ·exact .inl h'
    ·exact .inl (h'▸h)
    ·exact .inr h'
  ·rw [iN h,mem_append,mS,or_assoc]
theorem zRL: ∀{us J:List Nat},J.Nodup->(zOP J us).Nodup
 |[],J,h=>h
 |u::us,J,h=>by
  rw [zNI]
  refine zRL ?_
  by_cases hu:u∈J
  ·rw [iP hu];exact h
  ·rw [iN hu]
   exact nodup_append.mpr ⟨h,by simp,λa ha b hb=>by rw [mS.mp hb];rintro rfl;exact hu ha⟩
theorem zZL: ∀(us J:List Nat),(zOP J us).length<=J.length+us.length
 |[],J=>le_refl _
 |u::us,J=>by
  rw [zNI]
  have:=zZL us (if u∈J then J else J++[u])
  have h2:(if u∈J then J else J++[u]).length<=J.length+1:=by split<;>simp
  rw [lC]
  omega
theorem sub_len: ∀{J A:List Nat},J.Nodup->(∀i∈J,i∈A)->J.length<=A.length
 |[],A,_,_=>zero_le _
 |j::J,A,hn,h=>by
  rw [nodup_cons]at hn
  have hj:j∈A:=h j mF0
  have:=sub_len (A:=A.erase j) hn.2 λi hi=>(List.mem_erase_of_ne (show i≠j from λe=>hn.1 (e▸hi))).mpr (h i (mO _ hi))
  rw [List.length_erase_of_mem hj]at this
  have:=List.length_pos_of_mem hj
  rw [lC]
  omega
abbrev X6(b m:MV)(lk:Nat)(x y z:Option MV):Rho:=[some b,some m,some (.loc lk),x,y,z]
theorem puts{b m:MV}{x:Option MV}{lk lp:Nat}{U:List Nat}(hne:lk≠lp): ∀(us:List Nat)(J:List Nat)(S:Sto)(z:Option MV),J.length+us.length<1000000->S[lk]? =some (.dic (kd J))->S[lp]? =some (.lst (U.map zF))->
  ∃z',cF (gNm 5) bT [(lp,U.map zF)] (us.map zF) (X6 b m lk x (some (.loc lp)) z) S=.ok (.next (X6 b m lk x (some (.loc lp)) z')) (S.set lk (.dic (kd (zOP J us))))
 |[],J,S,z,_,hk,hu=>by
  refine⟨z,?_⟩
  rw [show zOP J []=J from rfl,set_same hk]
  rfl
 |u::us,J,S,z,hl,hk,hu=>by
  rw [lC]at hl
  have hb:bT (X6 b m lk x (some (.loc lp)) (some (zF u))) S=.ok (.next (X6 b m lk x (some (.loc lp)) (some (zF u)))) (S.set lk (.dic (kd (if u∈J then J else J++[u])))):=by
   unfold bT zEL
   simp? [zVM,yST hk (by omega)]
  have hk':(S.set lk (.dic (kd (if u∈J then J else J++[u]))))[lk]? =some (.dic (kd (if u∈J then J else J++[u]))):=get_set hk
  have hu':(S.set lk (.dic (kd (if u∈J then J else J++[u]))))[lp]? =some (.lst (U.map zF)):=by rw [wS hne];exact hu
  obtain⟨z',h'⟩:=puts hne us (if u∈J then J else J++[u]) _ (some (zF u)) (by have:=zZL [u] J;rw [show zOP J [u]=(if u∈J then J else J++[u])from rfl,lS]at this;omega) hk' hu'
  refine⟨z',?_⟩
  rw [map_cons,dI (ρ0:=X6 b m lk x (some (.loc lp)) (some (zF u))) rfl hb (wZ hu'),h',List.set_set]
  rfl
theorem zWE(ds:List MV)(S:Sto):neF (.new ds) (.new []) S=.ok (.val (.bl !ds.isEmpty)) S:=by
 cases ds<;>rfl
section
variable{ts:List (Int×Int)}{rls:List Rule}{rs:List Row}
theorem yOI(c k:Nat)(S:Sto):shrF (.val (.int (c:Nat))) (.val (.int (k:Nat))) S=.ok (.val (.int ((c / 2 ^ k:Nat):Int))) S:=by
 show(if shrC (c:Int) (k:Int)then R.ok (Er.val (.int ((c:Int) / 2 ^ ((k:Nat):Int).toNat))) S else .no)=_
 rw [iP (show shrC (c:Int) (k:Int)from Int.natCast_nonneg k),toNat_natCast,Int.natCast_ediv,Int.natCast_pow]
 rfl
theorem sm_at{sm:List Nat}{k:Nat}(h:k<sm.length)(S:Sto):ixF (.val (.tup (sm.map zF))) (.val (.int (k:Nat))) S=.ok (.val (zF (zWD sm k))) S:=ix_tup (zAB (by
 unfold zWD
 rw [getElem?_map,gE0 h];rfl))
theorem yOJ(hRl: ∀r∈rls,cV ts r)(hR: ∀r∈rs,ROk ts r){sm:List Nat}(hs: ∀i∈sm,i<rs.length)(hl:sm.length<=16){S S':Sto}(hO:Old S S'){J:List Nat}(hk:S'[S.length]? =some (.dic (kd J)))(hn:J.Nodup)(hJ: ∀i∈J,i∈sm)(c:Nat)(y z:Option MV):
  ∃y' z' J' S'',wI (X6 (zM ts rls rs) (.tup (sm.map zF)) S.length (some (.int (c:Nat))) y z) S'=.ok (.next (X6 (zM ts rls rs) (.tup (sm.map zF)) S.length (some (.int (c:Nat))) y' z')) S''/\Old S S''/\S''[S.length]? =some (.dic (kd J'))/\J'.Nodup/\ ∀i,i∈J'↔i∈J\/(zON rls rs (yK sm c)=false/\i∈yK sm c):=by
 have hlk:S.length<S'.length:=(gS0.mp hk).1
 have hc:yT (gNm 0) jF jG [none,some (.tup (sm.map zF)),some (.int (c:Nat))] [] ((List.range sm.length).map λk=>MV.int (k:Nat)) S'=.ok ((yK sm c).map zF) S':=by
  have:=zKI (f:=λk:Nat=>MV.int (k:Nat)) (g:=λk=>zF (zWD sm k)) (p:=λk=>decide (c / 2 ^ k % 2=1)) (gf:=gNm 0) (cf:=jF) (ef:=jG) (ρb:=[none,some (.tup (sm.map zF)),some (.int (c:Nat))]) (gs:=[]) (S:=S') (kL _) (ds:=List.range sm.length) λk hkk=>by
   rw [mem_range]at hkk
   refine⟨[some (.int (k:Nat)),some (.tup (sm.map zF)),some (.int (c:Nat))],rfl,?_,?_⟩
   ·unfold jF
    simp? [yOI,mod_lit (show(0:Int)<2 by decide)]
    congr 1
    exact dec_is (by omega)
   ·unfold jG
    simp? [sm_at hkk]
  rw [this]
  unfold yK
  rw [map_map]
  rfl
 have hp: ∀i∈yK sm c,i<rs.length:=λi hi=>hs i (zLS sm c i hi)
 have hpl:(yK sm c).length<=16:=le_trans (yKD sm c) hl
 have b1:cU (X6 (zM ts rls rs) (.tup (sm.map zF)) S.length (some (.int (c:Nat))) y z) S'=.ok (.next (X6 (zM ts rls rs) (.tup (sm.map zF)) S.length (some (.int (c:Nat))) (some (.loc S'.length)) z)) (S'++[.lst ((yK sm c).map zF)]):=by
  unfold cU
  simp? [zJE,show((sm.map zF).length:Int)=((sm.length:Nat):Int) by rw [lM],dY (S:=S') (j:=(sm.length:Nat)) ⟨by omega,by omega⟩,show((sm.length:Nat):Int).toNat=sm.length from rfl,show(((List.range sm.length).map λk=>MV.int (k:Nat)).length<1000000)=True from eq_true (by rw [lM,length_range];omega),show blk 1 [1,3] (X6 (zM ts rls rs) (.tup (sm.map zF)) S.length (some (.int (c:Nat))) y z)=[none,some (.tup (sm.map zF)),some (.int (c:Nat))]from rfl,hc]
 have hk1:(S'++[MO.lst ((yK sm c).map zF)])[S.length]? =some (.dic (kd J)):=Old.app _ _ _ _ hk
 have gp:(S'++[MO.lst ((yK sm c).map zF)])[S'.length]? =some (.lst ((yK sm c).map zF)):=by simp
 have hO1:Old S (S'++[MO.lst ((yK sm c).map zF)]):=hO.trans (Old.app _ _)
 generalize hS1:S'++[MO.lst ((yK sm c).map zF)]=S1 at b1 hk1 gp hO1
 have hc3:yT (gNm 0) cT zEK [none,some (.loc S.length)] [(S'.length,(yK sm c).map zF)] ((yK sm c).map zF) S1=.ok (((yK sm c).filter λi=>!decide (i∈J)).map zF) S1:=zBH (wZ gp) λi _=>⟨[some (zF i),some (.loc S.length)],rfl,by
  unfold cT
  simp? [zZD hk1],rfl⟩
 have hst:zT 2 xK [.val (zM ts rls rs),.val (.loc S'.length)] S1=.ok (.val (.bl !zON rls rs (yK sm c))) S1:=zZG hRl hR hp (by omega) (.inr ⟨_,rfl,gp⟩)
 have facts: ∀(b:Bool),(((yK sm c).filter λi=>!decide (i∈J)).map zF).isEmpty=b->(b=true-> ∀i∈yK sm c,i∈J):=λb hb ht i hi=>by
  subst ht
  rw [List.isEmpty_iff,List.map_eq_nil_iff,List.filter_eq_nil_iff]at hb
  have:=hb i hi
  rw [not_eq_true',decide_eq_false_iff_not,Classical.not_not]at this
  exact this
 have skip:xM (X6 (zM ts rls rs) (.tup (sm.map zF)) S.length (some (.int (c:Nat))) (some (.loc S'.length)) z) S1=.ok (.next (X6 (zM ts rls rs) (.tup (sm.map zF)) S.length (some (.int (c:Nat))) (some (.loc S'.length)) z)) S1->(∀i,i∈J↔i∈J\/(zON rls rs (yK sm c)=false/\i∈yK sm c))->
   ∃y' z' J' S'',wI (X6 (zM ts rls rs) (.tup (sm.map zF)) S.length (some (.int (c:Nat))) y z) S'=.ok (.next (X6 (zM ts rls rs) (.tup (sm.map zF)) S.length (some (.int (c:Nat))) y' z')) S''/\Old S S''/\S''[S.length]? =some (.dic (kd J'))/\J'.Nodup/\ ∀i,i∈J'↔i∈J\/(zON rls rs (yK sm c)=false/\i∈yK sm c):=λb2 hi=>by
  refine⟨some (.loc S'.length),z,J,S1,?_,hO1,hk1,hn,hi⟩
  unfold wI
  rw [zC b1,b2]
 cases hE:(((yK sm c).filter λi=>!decide (i∈J)).map zF).isEmpty with
 |true=>
  have hin:=facts true hE rfl
  refine skip ?_ λi=>⟨.inl,λh=>h.elim id λh=>hin i h.2⟩
  unfold xM
  simp? [jC gp,show(((yK sm c).map zF).length<1000000)=True from eq_true (by rw [lM];omega),show blk 1 [2] (X6 (zM ts rls rs) (.tup (sm.map zF)) S.length (some (.int (c:Nat))) (some (.loc S'.length)) z)=[none,some (.loc S.length)]from rfl,hc3,yBF,zWE,hE]
  rfl
 |false=>
  cases hB:zON rls rs (yK sm c)with
  |true=>
   rw [hB]at hst
   rw [hB]at skip
   refine skip ?_ λi=>⟨.inl,λh=>h.elim id λh=>by cases h.1⟩
   unfold xM
   simp? [jC gp,show(((yK sm c).map zF).length<1000000)=True from eq_true (by rw [lM];omega),show blk 1 [2] (X6 (zM ts rls rs) (.tup (sm.map zF)) S.length (some (.int (c:Nat))) (some (.loc S'.length)) z)=[none,some (.loc S.length)]from rfl,hc3,yBF,zWE,hE,hst]
   rfl
  |false=>
   rw [hB]at hst
   have hJl:J.length<=16:=le_trans (sub_len hn hJ) hl
   obtain⟨z',hz⟩:=puts (b:=zM ts rls rs) (m:=.tup (sm.map zF)) (x:=some (.int (c:Nat))) (U:=yK sm c) (show S.length≠S'.length by omega) (yK sm c) J S1 z (by omega) hk1 gp
   refine⟨some (.loc S'.length),z',zOP J (yK sm c),S1.set S.length (.dic (kd (zOP J (yK sm c)))),?_,hO1.set (le_refl _) _,get_set hk1,zRL hn,λi=>by rw [zZK];exact⟨λh=>h.elim .inl λh=>.inr ⟨rfl,h⟩,λh=>h.elim .inl λh=>.inr h.2⟩⟩
   have b2:xM (X6 (zM ts rls rs) (.tup (sm.map zF)) S.length (some (.int (c:Nat))) (some (.loc S'.length)) z) S1=.ok (.next (X6 (zM ts rls rs) (.tup (sm.map zF)) S.length (some (.int (c:Nat))) (some (.loc S'.length)) z')) (S1.set S.length (.dic (kd (zOP J (yK sm c))))):=by
    unfold xM
    simp? [jC gp,show(((yK sm c).map zF).length<1000000)=True from eq_true (by rw [lM];omega),show blk 1 [2] (X6 (zM ts rls rs) (.tup (sm.map zF)) S.length (some (.int (c:Nat))) (some (.loc S'.length)) z)=[none,some (.loc S.length)]from rfl,hc3,yBF,zWE,hE,hst,Bool.not_false,Bool.not_true,iP]
    exact hz
   unfold wI
   rw [zC b1,b2]
theorem yOK(hRl: ∀r∈rls,cV ts r)(hR: ∀r∈rs,ROk ts r){sm:List Nat}(hs: ∀i∈sm,i<rs.length)(hl:sm.length<=16)(hsd:sm.Pairwise (· <·)){K:List Nat}(hK:zIJ (zCD rls rs) (wK rls rs sm) K)(S:Sto):
  zT 2 zAA [.val (zM ts rls rs),.val (.tup (sm.map zF))] S=.ok (.val (.tup (K.map zF))) S:=by
 have e1:zBD [some (zM ts rls rs),some (.tup (sm.map zF)),none,none,none,none] S=.ok (.next (X6 (zM ts rls rs) (.tup (sm.map zF)) S.length none none none)) (S++[.dic (kd [])]):=by
  unfold zBD
  simp? [bok]
  rfl
 obtain⟨N,hN⟩: ∃N,N=2 ^ sm.length:=⟨_,rfl⟩
 obtain⟨ρ',S',f,x,y,z,J,hρ,hO,hk,hn,hJ⟩:=zKA (L:=(List.range N).map λk=>MV.int (k:Nat)) (gf:=gNm 3) (body:=wI) (gs:=[]) (S:=S++[.dic (kd [])]) (ρ:=X6 (zM ts rls rs) (.tup (sm.map zF)) S.length none none none)
  (λb ρ S'=> ∃x y z J,ρ=X6 (zM ts rls rs) (.tup (sm.map zF)) S.length x y z/\Old S S'/\S'[S.length]? =some (.dic (kd J))/\J.Nodup/\ ∀i,i∈J↔ ∃c,c<b/\zON rls rs (yK sm c)=false/\i∈yK sm c) (λb d hd ρ S1 ⟨x,y,z,J,hρ,hO,hk,hn,hJ⟩=>by
   subst hρ
   obtain⟨hb1,hb2⟩:=gS0.mp hd
   rw [lM,length_range]at hb1
   rw [List.getElem_map,List.getElem_range]at hb2
   subst hb2
   obtain⟨y',z',J',S'',t1,t2,t3,t4,t5⟩:=yOJ hRl hR hs hl hO hk hn (λi hi=>by obtain⟨c,_,_,h⟩:=(hJ i).mp hi;exact zLS sm c i h) b y z
   refine⟨X6 (zM ts rls rs) (.tup (sm.map zF)) S.length (some (.int (b:Nat))) y' z',S'',?_,kL _,_,_,_,J',rfl,t2,t3,t4,λi=>?_⟩
   ·rw [show gNm 3 (.int (b:Nat)) (X6 (zM ts rls rs) (.tup (sm.map zF)) S.length x y z) S1=.ok (X6 (zM ts rls rs) (.tup (sm.map zF)) S.length (some (.int (b:Nat))) y z) S1 from rfl,bok]
    exact t1
   ·rw [t5 i,hJ i]
    constructor
    ·rintro(⟨c,h1,h2⟩|h)
     ·exact⟨c,by omega,h2⟩
     ·exact⟨b,by omega,h⟩
    ·rintro⟨c,h1,h2⟩
     by_cases e:c=b
     ·subst e;exact .inr h2
     ·exact .inl ⟨c,by omega,h2⟩) ⟨none,none,none,[],rfl,Old.app _ _,by simp,by simp,λi=>⟨(λh=>nomatch h),λ⟨c,h,_⟩=>by omega⟩⟩
 subst hρ
 rw [lM,length_range]at hJ
 have h16:N<=65536:=hN▸le_trans (Nat.pow_le_pow_right (by decide) hl) (by decide)
 have e2:zBE (X6 (zM ts rls rs) (.tup (sm.map zF)) S.length none none none) (S++[.dic (kd [])])=.ok (.next (X6 (zM ts rls rs) (.tup (sm.map zF)) S.length x y z)) S':=by
  have hsh: ∀T,shlF (.val (.int 1)) (.val (.int (sm.length:Nat))) T=.ok (.val (.int (N:Nat))) T:=λT=>by
   show(if shlC 1 (sm.length:Int)then R.ok (Er.val (.int ((1:Int) * 2 ^ ((sm.length:Nat):Int).toNat))) T else .no)=_
   rw [iP ⟨Int.natCast_nonneg _,by omega,by decide⟩,toNat_natCast,Int.one_mul,hN,Int.natCast_pow]
   rfl
  unfold zBE
  simp? [zJE,show((sm.map zF).length:Int)=((sm.length:Nat):Int) by rw [lM],hsh,dY (S:=S++[.dic (kd [])]) (j:=(N:Nat)) ⟨by omega,by omega⟩,show((N:Nat):Int).toNat=N from rfl]
  exact f
 obtain⟨⟨p,hpK⟩,hcl,hgr⟩:=hK
 have hq:K=sm.filter λi=>p i&& !rls.any λr=>zEP r (atR rs i):=by rw [hpK];unfold wK;rw [filter_filter]
 have hKsm: ∀i∈K,i∈sm:=λi hi=>by rw [hq]at hi;exact(mem_filter.mp hi).1
 have hKs: ∀i∈K,i<rs.length:=λi hi=>hs i (hKsm i hi)
 have hKd:K.Pairwise (· <·):=by rw [hq];exact hsd.sublist filter_sublist
 have hKg:zON rls rs K=false:=(zLR hKs).mpr ⟨λi hi=>by
  rw [hpK]at hi
  have:=(mem_filter.mp hi).1
  have:=(mem_filter.mp this).2
  rwa [not_eq_true']at this,λt ht hti=>Classical.byContradiction λhno=>by
  have:t.1∈unT (zCD rls rs) K:=zWC.mpr ⟨hti,t.2,ht,λj hj hjK=>hno ⟨j,hj,hjK⟩⟩
  rw [hcl]at this
  cases this⟩
 have hiff: ∀i,i∈K↔i∈J:=λi=>by
  rw [hJ i]
  constructor
  ·intro hi
   rw [hN]
   obtain⟨c,hc,hpc⟩:=part_of sm λi=>p i&& !rls.any λr=>zEP r (atR rs i)
   rw [<-hq]at hpc
   exact⟨c,hc,by rw [hpc];exact hKg,by rw [hpc];exact hi⟩
  ·rintro⟨c,hc,hg,hi⟩
   have hps: ∀i∈yK sm c,i<rs.length:=λi hi=>hs i (zLS sm c i hi)
   obtain⟨g1,g2⟩:=(zLR hps).mp hg
   refine hgr (λi=>i∈yK sm c) (λj hj=>?_) (λt ht hti=>g2 t ht hti) i hi
   unfold wK
   rw [mem_filter,g1 j hj]
   exact⟨zLS sm c j hj,rfl⟩
 have hKn:K.Nodup:=hKd.imp λh=>ne_of_lt h
 have hJl:J.length<64:=by
  have:=sub_len hn (A:=sm) λi hi=>hKsm i ((hiff i).mpr hi)
  omega
 have e3:zBF (X6 (zM ts rls rs) (.tup (sm.map zF)) S.length x y z) S'=.ok (.ret (.val (.tup (K.map zF)))) S':=by
  unfold zBF
  simp? [ySY hk hJl ((List.perm_ext_iff_of_nodup hKn hn).mpr hiff) (hKd.imp λh=>le_of_lt h),zNH]
 obtain⟨T,rfl⟩:=hO.is
 refine wY (T:=T) rfl ?_ (wE (zPG K _)) (λl=>by simp)
 show yH (zFO [some (zM ts rls rs),some (.tup (sm.map zF)),none,none,none,none] S)=_
 unfold zFO
 rw [zC e1,zC e2,e3]
 rfl
end
section
variable{ts:List (Int×Int)}{rls:List Rule}{rs:List Row}
theorem yOL(K:List Nat):pd (.tup (K.map zF))=true/\dpt (.tup (K.map zF))<=1:=by
 have h1:pdL (K.map zF)=true:=zVR λd hd=>by obtain⟨i,_,rfl⟩:=mM.mp hd;exact yBP _
 have h2:zOL (K.map zF)<=0:=zVT λd hd=>by obtain⟨i,_,rfl⟩:=mM.mp hd;exact le_of_eq (zVQ _)
 exact⟨by rw [zVP];exact h1,by rw [zPA];omega⟩
theorem yED(K:List Nat)(S:Sto):neF (.val (.tup (K.map zF))) (.val (.tup (K.map zF))) S=.ok (.val (.bl false)) S:=by
 have h:=yOL K
 have:=zMN (S:=S) (zEM (S:=S) (zZ+1) h.1 h.1 (by unfold zZ;omega))
 rw [dT0 rfl]at this
 exact this
theorem zUB{sm K:List Nat}(hs: ∀i∈sm,i<rs.length)(hK:zIJ (zCD rls rs) (wK rls rs sm) K):(∀i∈K,i∈sm)/\zON rls rs K=false:=by
 obtain⟨⟨p,hpK⟩,hcl,_⟩:=hK
 have hKa: ∀i∈K,i∈wK rls rs sm:=λi hi=>by rw [hpK]at hi;exact(mem_filter.mp hi).1
 have hKsm: ∀i∈K,i∈sm:=λi hi=>(mem_filter.mp (hKa i hi)).1
 refine⟨hKsm,(zLR λi hi=>hs i (hKsm i hi)).mpr ⟨λi hi=>?_,λt ht hti=>Classical.byContradiction λhno=>?_⟩⟩
 ·have:=(mem_filter.mp (hKa i hi)).2
  rwa [not_eq_true']at this
 ·have:t.1∈unT (zCD rls rs) K:=zWC.mpr ⟨hti,t.2,ht,λj hj hjK=>hno ⟨j,hj,hjK⟩⟩
  rw [hcl]at this
  cases this
theorem yBX{sm K K2:List Nat}(hs: ∀i∈sm,i<rs.length)(hK:zIJ (zCD rls rs) (wK rls rs sm) K)(h2:zIJ (zCD rls rs) (wK rls rs K) K2):K2=K:=by
 obtain⟨hKsm,hg⟩:=zUB hs hK
 obtain⟨g1,g2⟩:=(zLR λi hi=>hs i (hKsm i hi)).mp hg
 obtain⟨⟨p,hp⟩,_,hgr⟩:=h2
 have ha:wK rls rs K=K:=filter_eq_self.mpr λi hi=>by rw [g1 i hi];rfl
 rw [ha]at hp hgr
 have hall: ∀i∈K,i∈K2:=λi hi=>hgr (λi=>i∈K) (λ_ h=>h) (λt ht hti=>g2 t ht hti) i hi
 rw [hp]
 refine filter_eq_self.mpr λi hi=>?_
 have:=hall i hi
 rw [hp]at this
 exact(mem_filter.mp this).2
abbrev Y6(q b w:MV)(x y z:Option MV):Rho:=[some q,some b,some w,x,y,z]
theorem zZM(hRl: ∀r∈rls,cV ts r)(hR: ∀r∈rs,ROk ts r)(hn:rs.length<=16)(hrl:rls.length<=4){sm:List Nat}(hs: ∀i∈sm,i<rs.length)(hl:sm.length<=16)(hsd:sm.Pairwise (· <·)){q w:MV}{y z:Option MV}(S:Sto):
  ∃y' z',zVI (Y6 q (zM ts rls rs) w (some (.tup (sm.map zF))) y z) S=.ok (.next (Y6 q (zM ts rls rs) w (some (.tup (sm.map zF))) y' z')) S:=by
 have hnd:sm.Nodup:=hsd.imp λh=>ne_of_lt h
 obtain⟨K,k1,k2⟩:=yKA hRl hR (by omega) (by omega) hs hnd (by omega) S
 have hu:=yOK hRl hR hs hl hsd k2 S
 obtain⟨hKsm,hg⟩:=zUB hs k2
 have hKs: ∀i∈K,i<rs.length:=λi hi=>hs i (hKsm i hi)
 have hKd:K.Pairwise (· <·):=by
  obtain⟨⟨p,hpK⟩,_,_⟩:=k2
  rw [hpK]
  exact(hsd.sublist filter_sublist).sublist filter_sublist
 have hKn:K.Nodup:=hKd.imp λh=>ne_of_lt h
 have hKl:K.length<=16:=le_trans (sub_len hKn hKsm) hl
 obtain⟨K2,h1,h2⟩:=yKA hRl hR (by omega) (by omega) hKs hKn (by omega) S
 have e:=yBX hs k2 h2
 subst e
 have hst:zT 2 xK [.val (zM ts rls rs),.val (.tup (K2.map zF))] S=.ok (.val (.bl true)) S:=by
  have:=zZG hRl hR hKs (by omega) (m:=.tup (K2.map zF)) (S:=S) (.inl rfl)
  rw [hg]at this
  exact this
 refine⟨some (.tup (K2.map zF)),some (.tup (K2.map zF)),?_⟩
 have b1:zMY (Y6 q (zM ts rls rs) w (some (.tup (sm.map zF))) y z) S=.ok (.next (Y6 q (zM ts rls rs) w (some (.tup (sm.map zF))) (some (.tup (K2.map zF))) z)) S:=by
  unfold zMY
  simp? [hu]
 have b2:zMZ (Y6 q (zM ts rls rs) w (some (.tup (sm.map zF))) (some (.tup (K2.map zF))) z) S=.ok (.next (Y6 q (zM ts rls rs) w (some (.tup (sm.map zF))) (some (.tup (K2.map zF))) (some (.tup (K2.map zF))))) S:=by
  unfold zMZ
  simp? [k1]
 have b3:zNA (Y6 q (zM ts rls rs) w (some (.tup (sm.map zF))) (some (.tup (K2.map zF))) (some (.tup (K2.map zF)))) S=.ok (.next (Y6 q (zM ts rls rs) w (some (.tup (sm.map zF))) (some (.tup (K2.map zF))) (some (.tup (K2.map zF))))) S:=by
  unfold zNA
  simp? [show zGS [.val (.tup (K2.map zF)),.val (.typ "tuple")] S=.ok (.val (.bl true)) S from rfl,yED,hst]
  rfl
 have b4:zNB (Y6 q (zM ts rls rs) w (some (.tup (sm.map zF))) (some (.tup (K2.map zF))) (some (.tup (K2.map zF)))) S=.ok (.next (Y6 q (zM ts rls rs) w (some (.tup (sm.map zF))) (some (.tup (K2.map zF))) (some (.tup (K2.map zF))))) S:=by
  unfold zNB
  simp? [h1,yED]
  rfl
 unfold zVI
 rw [zC b1,zC b2,zC b3,b4]
end
theorem yOM(n:Nat):(zYE (n:Int)).map MV.int=(List.range n).map zF:=by
 unfold zYE
 rw [toNat_natCast,map_map]
 rfl
theorem yKE(ns:List Int)(h:ns.length<=63): ∃S,zYQ [.scr (ns.map MV.int)] []=.ok (.val (.bl true)) S:=by
 obtain⟨ts,rls,rs,hT,hRl,hR,hn,hrl,hb⟩:=yOC ns h
 have e1:zVJ [some (.scr (ns.map MV.int)),none,none,none,none,none] []=.ok (.next [some (.scr (ns.map MV.int)),some (zM ts rls rs),none,none,none,none]) []:=by
  unfold zVJ
  simp? [hb]
 have e2:zVK [some (.scr (ns.map MV.int)),some (zM ts rls rs),none,none,none,none] []=.ok (.next (Y6 (.scr (ns.map MV.int)) (zM ts rls rs) (.tup ((List.range rs.length).map zF)) none none none)) []:=by
  have ht:yDE [.val (.int ((rs.map zL).length:Nat))] []=.ok (.val (.tup ((List.range rs.length).map zF))) []:=by
   show(if -1000000<=(((rs.map zL).length:Nat):Int)/\(((rs.map zL).length:Nat):Int)<=1000000 then R.ok (Er.val (.tup ((zYE (((rs.map zL).length:Nat):Int)).map MV.int))) []else .no)=_
   rw [yOM,lM,iP ⟨by omega,by omega⟩]
  unfold zVK
  simp? [zOA,zJE,ht]
 have hcond: ∀i:Nat, ∃b,i<rs.length->zJB [some (zF i),some (.scr (ns.map MV.int))] []=.ok b []:=λi=>by
  by_cases hi:i<rs.length
  ·obtain⟨c,hc⟩:=zFR ns 1 (by decide) []
   obtain⟨n,_,hm⟩:=zVO c ((i:Nat)+3) ⟨by omega,by omega⟩ []
   refine⟨decide (0<n % 4),λ_=>?_⟩
   unfold zJB
   simp? [hc,show∀S,jM (.val (zF i)) (.val (.int 3)) S=.ok (.val (.int ((i:Nat)+3))) S from λ_=>rfl,hm,mod_lit (show(0:Int)<4 by decide)]
  ·exact⟨true,λh=>absurd h hi⟩
 obtain⟨p,hp⟩:=Classical.axiomOfChoice hcond
 have hc:yT (gNm 0) zJB zTX [none,some (.scr (ns.map MV.int))] [] ((List.range rs.length).map zF) []=.ok (((List.range rs.length).filter p).map zF) []:=zBH (kL _) λi hi=>⟨[some (zF i),some (.scr (ns.map MV.int))],rfl,hp i (mem_range.mp hi),rfl⟩
 have hr0: ∀i∈List.range rs.length,i<rs.length:=λi hi=>mem_range.mp hi
 have hrd:(List.range rs.length).Pairwise (· <·):=List.pairwise_lt_range
 obtain⟨y1,z1,t1⟩:=zZM hRl hR hn hrl (sm:=List.range rs.length) hr0 (by rw [length_range];exact hn) hrd (q:=.scr (ns.map MV.int)) (w:=.tup ((List.range rs.length).map zF)) (y:=none) (z:=none) []
 obtain⟨y2,z2,t2⟩:=zZM hRl hR hn hrl (sm:=(List.range rs.length).filter p) (λi hi=>hr0 i (mem_filter.mp hi).1) (le_trans (length_filter_le _ _) (by rw [length_range];exact hn)) (hrd.sublist filter_sublist) (q:=.scr (ns.map MV.int)) (w:=.tup ((List.range rs.length).map zF)) (y:=y1) (z:=z1) []
 have e3:zVL (Y6 (.scr (ns.map MV.int)) (zM ts rls rs) (.tup ((List.range rs.length).map zF)) none none none) []=.ok (.next (Y6 (.scr (ns.map MV.int)) (zM ts rls rs) (.tup ((List.range rs.length).map zF)) (some (.tup (((List.range rs.length).filter p).map zF))) y2 z2)) []:=by
  unfold zVL
  simp? [dD,show(((List.range rs.length).map zF).length<1000000)=True from eq_true (by rw [lM,length_range];omega),show blk 1 [0] (Y6 (.scr (ns.map MV.int)) (zM ts rls rs) (.tup ((List.range rs.length).map zF)) none none none)=[none,some (.scr (ns.map MV.int))]from rfl,hc,zNH,show∀a b S,gW [.val a,.val b] S=.ok (.new [a,b]) S from λa b S=>zHJ (by simp),show∀ds S,itL (.new ds) S=.ok ⟨ds,[]⟩ S from λ_ _=>rfl]
  rw [dI (ρ0:=Y6 (.scr (ns.map MV.int)) (zM ts rls rs) (.tup ((List.range rs.length).map zF)) (some (.tup ((List.range rs.length).map zF))) none none) rfl t1 (kL _),dI (ρ0:=Y6 (.scr (ns.map MV.int)) (zM ts rls rs) (.tup ((List.range rs.length).map zF)) (some (.tup (((List.range rs.length).filter p).map zF))) y1 z1) rfl t2 (kL _)]
  rfl
 refine⟨[],?_⟩
 show yH (yJI [some (.scr (ns.map MV.int)),none,none,none,none,none] [])=_
 unfold yJI
 rw [zC e1,zC e2,zC e3]
 rfl
section
variable{P:Program}{w:World}{K:PySem.W.Frag}{mg:Str->Option Value}{base:Heap}
def top(i:Nat):Stmt:=PySem.Challenge.pw_mendsure_k12_held_rows.main.body.getD i (.Pass ⟨0,0,0,0⟩)
theorem yKF:FnScope ["self","parts"] ["self","parts"] (zG (inClass (top 8) 0)):=fsK (by decide+kernel)
abbrev zWF:Stmt:=top 0
theorem yKG:FnScope ["k"] ["k"] (zG zWF):=fsK (by decide+kernel)
theorem yKH(D:DefM K mg "_wall" zWF):(CalM P w K mg base) "_wall" 1 1 ["k"] zFB:=
 by have h:=okC (P:=P) (w:=w) (base:=base) D (λ_ _ _ _ _ _ us hl=>match us,hl with |[_],_=>rfl) λf fd F=>okM (k:=0) _ F yKG λcdv A outer s H E hr=>(zN (zXQ 10000 PassesOwn.never (xW gV) (zN yLP)))
    exact h
abbrev zKJ:Stmt:=top 2
theorem zZN:FnScope ["thing"] ["thing"] (zG zKJ):=fsK (by decide+kernel)
theorem zZO(D:DefM K mg "is_whole" zKJ)(zZY:mg "int"=none)(yF:mg "isinstance"=none)(zRV:mg "bool"=none):(CalM P w K mg base) "is_whole" 1 1 ["thing"] zAN:=
 by have h:=okC (P:=P) (w:=w) (base:=base) D (λ_ _ _ _ _ _ us hl=>match us,hl with |[_],_=>rfl) λf fd F=>okM (k:=0) _ F zZN λcdv A outer s H E hr=>(zN (zS (zMG (yE zEG zML rfl yF kC (zA (zB 0) (zA (zTN rfl zZY yRG) zD))) (zUS (yQZ (yE zEG zML rfl yF kC (zA (zB 0) (zA (zTN rfl zRV yMA) zD))))))))
    exact h
abbrev zFS:Stmt:=top 4
theorem zSN:FnScope ["side","looked_at"] ["side","looked_at"] (zG zFS):=fsK (by decide+kernel)
theorem zSO(D:DefM K mg "side_value" zFS):(CalM P w K mg base) "side_value" 1 2 ["side","looked_at"] bD:=
 by have h:=okC (P:=P) (w:=w) (base:=base) D (λ_ _ _ _ _ _ us hl=>match us,hl with |[_,_],_=>rfl) λf fd F=>okM (k:=0) _ F zSN λcdv A outer s H E hr=>(zI (wF (wW hr.units (zQ (zB 0) zE) (xS [105,115])) (zN (zS (zQ (zB 0) zE))) yQ) (zN (zS (zQ (zQ (zQ (zB 1) (zQ (zB 0) zE)) zE) (zQ (zB 0) zE)))))
    exact h
abbrev zNJ:Stmt:=top 5
theorem zKK:FnScope zTW ["looked_at","test"] (zG zNJ):=fsK (by decide+kernel)
theorem yBY(D:DefM K mg "fulfils" zNJ)(zMA:(CalM P w K mg base) "side_value" 1 2 ["side","looked_at"] bD)(zRZ:(CalM P w K mg base) "is_whole" 1 1 ["thing"] zAN):(CalM P w K mg base) "fulfils" 2 2 ["looked_at","test"] zIZ:=
 by have h:=okC (P:=P) (w:=w) (base:=base) D (λ_ _ _ _ _ _ us hl=>match us,hl with |[_,_],_=>rfl) λf fd F=>okM (k:=1) _ F zKK λcdv A outer s H E hr=>(zI (zU 2 zKK.nd (zH zMA (hr.mono (by decide)) rfl (zA (zQ (zB 1) zE) (zA (zB 0) zD)))) (zI (zU 3 zKK.nd (zH zMA (hr.mono (by decide)) rfl (zA (zQ (zB 1) zE) (zA (zB 0) zD)))) (zI (wF (wW hr.units (zQ (zB 1) zE) (xS [115,97,109,101])) (zN (zS (zXT hr.units (zB 2) (zB 3)))) yQ) (zI (wF (wW hr.units (zQ (zB 1) zE) (xS [117,110,108,105,107,101])) (zN (zS (pm_ne hr.units (zB 2) (zB 3)))) yQ) (zN (zS (zMG (zH zRZ (hr.mono (by decide)) rfl (zA (zB 2) zD)) (zMG (zH zRZ (hr.mono (by decide)) rfl (zA (zB 3) zD)) (zUS (pm_lt hr.units (zB 2) (zB 3)))))))))))
    exact h
abbrev dE:Stmt:=top 6
theorem zRM:FnScope ["looked_at","tests"] ["looked_at","tests"] (zG dE):=fsK (by decide+kernel)
theorem zRN(D:DefM K mg "fulfils_all" dE)(yGK:(CalM P w K mg base) "fulfils" 2 2 ["looked_at","test"] zIZ)(yAA:mg "all"=none):(CalM P w K mg base) "fulfils_all" 3 2 ["looked_at","tests"] jP:=
 by have h:=okC (P:=P) (w:=w) (base:=base) D (λ_ _ _ _ _ _ us hl=>match us,hl with |[_,_],_=>rfl) λf fd F=>okM (k:=2) _ F zRM λcdv A outer s H E hr=>(zN (zS (yE zUP (yRD rfl) rfl yAA yRE (zA (xX (zG dE) ["looked_at","tests"] ["test"] [0] (zEU (zB 1)) rfl (λ_ _ _ _ hN=>(yN 0 hN)) (λ_ _ _ _=>jA) (λ_ _ _ _=>(zH yGK (hr.mono (by decide)) rfl (zA (zB 1) (zA (zB 0) zD))))) zD))))
    exact h
abbrev zFT:Stmt:=top 7
theorem zZP:FnScope ["row","columns"] ["row","columns"] (zG zFT):=fsK (by decide+kernel)
theorem zZQ(D:DefM K mg "cells_in" zFT):(CalM P w K mg base) "cells_in" 1 2 ["row","columns"] zAQ:=
 by have h:=okC (P:=P) (w:=w) (base:=base) D (λ_ _ _ _ _ _ us hl=>match us,hl with |[_,_],_=>rfl) λf fd F=>okM (k:=0) _ F zZP λcdv A outer s H E hr=>(zN (zS (xX (zG zFT) ["row","columns"] ["column"] [0] (zEU (zB 1)) rfl (λ_ _ _ _ hN=>(yN 0 hN)) (λ_ _ _ _=>jA) (λ_ _ _ _=>(zQ (zQ (zB 1) zE) (zB 0))))))
    exact h
abbrev zOB:Stmt:=inClass (top 8) 1
theorem zWG:FnScope ["self","row"] ["self","row"] (zG zOB):=fsK (by decide+kernel)
theorem zWH{f:Addr}{fd:FuncData}(F:Fun K "bars" "Rule.bars" zOB f fd):FnOk P w K mg base CX0 1 f fd ["self","row"] (spM ⟨K,mg,P,w⟩ 2 gM):=
 by have h:=okM (P:=P) (w:=w) (mg:=mg) (base:=base) (k:=0) _ F zWG λcdv A outer s H E hr=>(zN (zS gV))
    exact h
abbrev zCE:Stmt:=inClass (top 8) 2
theorem zKL:FnScope ["self","row","other"] ["self","row","other"] (zG zCE):=fsK (by decide+kernel)
theorem zKM{f:Addr}{fd:FuncData}(F:Fun K "parts_them" "Rule.parts_them" zCE f fd)(zLZ:(CalM P w K mg base) "_wall" 1 1 ["k"] zFB):FnOk P w K mg base CX0 2 f fd ["self","row","other"] (spM ⟨K,mg,P,w⟩ 3 zLG):=
 by have h:=okM (P:=P) (w:=w) (mg:=mg) (base:=base) (k:=1) _ F zKL λcdv A outer s H E hr=>(zN (cY (zH zLZ (hr.mono (by decide)) rfl (zA zE zD))))
    exact h
abbrev zLT:Stmt:=inClass (top 8) 3
theorem zSP:FnScope ["self","row","rows"] ["self","row","rows"] (zG zLT):=fsK (by decide+kernel)
theorem zSQ{f:Addr}{fd:FuncData}(F:Fun K "lacks" "Rule.lacks" zLT f fd):FnOk P w K mg base CX0 1 f fd ["self","row","rows"] (spM ⟨K,mg,P,w⟩ 3 jD):=
 by have h:=okM (P:=P) (w:=w) (mg:=mg) (base:=base) (k:=0) _ F zSP λcdv A outer s H E hr=>(zN (zS gV))
    exact h
abbrev zLU:Stmt:=inClass (top 9) 0
theorem zSR:FnScope ["self","row"] ["self","row"] (zG zLU):=fsK (by decide+kernel)
theorem zSS{f:Addr}{fd:FuncData}(F:Fun K "bars" "Never.bars" zLU f fd)(fl_parts:FlB K OCS "parts")(zSZ:(CalM P w K mg base) "fulfils_all" 3 2 ["looked_at","tests"] jP):FnOk P w K mg base CX0 4 f fd ["self","row"] (spM ⟨K,mg,P,w⟩ 2 zFE):=
 by have h:=okM (P:=P) (w:=w) (mg:=mg) (base:=base) (k:=3) _ F zSR λcdv A outer s H E hr=>(zN (zS (zMG (zXT hr.units (zQ (zB 1) zE) (zQ (zIY fl_parts (zB 0)) zE)) (zUS (zH zSZ (hr.mono (by decide)) rfl (zA (wP (zA (zB 1) zD)) (zA (zQ (zIY fl_parts (zB 0)) zE) zD)))))))
    exact h
abbrev bY:Stmt:=inClass (top 10) 0
theorem zFU:FnScope ["self","row","other"] ["self","row","other"] (zG bY):=fsK (by decide+kernel)
theorem zFV{f:Addr}{fd:FuncData}(F:Fun K "parts_in_turn" "Apart.parts_in_turn" bY f fd)(zLZ:(CalM P w K mg base) "_wall" 1 1 ["k"] zFB):FnOk P w K mg base CX0 2 f fd ["self","row","other"] (spM ⟨K,mg,P,w⟩ 3 zGT):=
 by have h:=okM (P:=P) (w:=w) (mg:=mg) (base:=base) (k:=1) _ F zFU λcdv A outer s H E hr=>(zN (cY (zH zLZ (hr.mono (by decide)) rfl (zA zE zD))))
    exact h
abbrev zBI:Stmt:=inClass (top 10) 1
theorem zJK:FnScope ["self","row","other"] ["self","row","other"] (zG zBI):=fsK (by decide+kernel)
theorem zJL{f:Addr}{fd:FuncData}(F:Fun K "parts_them" "Apart.parts_them" zBI f fd)(zLZ:(CalM P w K mg base) "_wall" 1 1 ["k"] zFB):FnOk P w K mg base CX0 2 f fd ["self","row","other"] (spM ⟨K,mg,P,w⟩ 3 zKD):=
 by have h:=okM (P:=P) (w:=w) (mg:=mg) (base:=base) (k:=1) _ F zJK λcdv A outer s H E hr=>(zN (cY (zH zLZ (hr.mono (by decide)) rfl (zA zE zD))))
    exact h
abbrev zOC:Stmt:=inClass (top 11) 0
theorem zFW:FnScope zNV ["self","row","rows"] (zG zOC):=fsK (by decide+kernel)
theorem zWI{f:Addr}{fd:FuncData}(F:Fun K "lacks" "Tie.lacks" zOC f fd)(fl_parts:FlB K OCS "parts")(zRW:(CalM P w K mg base) "cells_in" 1 2 ["row","columns"] zAQ):FnOk P w K mg base CX0 2 f fd ["self","row","rows"] (spM ⟨K,mg,P,w⟩ 3 zBV):=
 by have h:=okM (P:=P) (w:=w) (mg:=mg) (base:=base) (k:=1) _ F zFW λcdv A outer s H E hr=>(zI (wF (zQB hr.units (zQ (zB 1) zE) (zQ (zIY fl_parts (zB 0)) zE)) (zN (zS gV)) yQ) (zI (zU 3 zFW.nd (zH zRW (hr.mono (by decide)) rfl (zA (zB 1) (zA (zQ (zIY fl_parts (zB 0)) zE) zD)))) (zI (kP PassesOwn.never rfl (kZ (zB 2)) (xE 4 zFW.nd) (zN (wF (zAK (zHA (wW hr.units (zQ (zB 4) zE) (zQ (zIY fl_parts (zB 0)) zE)) (zBN (wW hr.units (zH zRW (hr.mono (by decide)) rfl (zA (zB 4) (zA (zQ (zIY fl_parts (zB 0)) zE) zD))) (zB 3))))) (zN (zS gV)) yQ))) (zN (zS gV)))))
    exact h
abbrev zNK:Stmt:=top 12
theorem yBZ:FnScope ["parts"] ["parts"] (zG zNK):=fsK (by decide+kernel)
theorem yCA(D:DefM K mg "rule_of" zNK)(mkb_Never:MkB P w K mg base "Never" "parts")(mkb_Apart:MkB P w K mg base "Apart" "parts")(mkb_Tie:MkB P w K mg base "Tie" "parts"):(CalM P w K mg base) "rule_of" 3 1 ["parts"] zJA:=
 by have h:=okC (P:=P) (w:=w) (base:=base) D (λ_ _ _ _ _ _ us hl=>match us,hl with |[_],_=>rfl) λf fd F=>okM (k:=2) _ F yBZ λcdv A outer s H E hr=>(zI (wF (wW hr.units (zQ (zB 0) zE) (xS [110,101,118,101,114])) (zN (zS (zQN mkb_Never (hr.mono (by decide)) rfl (zB 0)))) yQ) (zI (wF (wW hr.units (zQ (zB 0) zE) (xS [97,112,97,114,116])) (zN (zS (zQN mkb_Apart (hr.mono (by decide)) rfl (zB 0)))) yQ) (zN (zS (zQN mkb_Tie (hr.mono (by decide)) rfl (zB 0))))))
    exact h
abbrev zFX:Stmt:=top 14
theorem zZR:FnScope ["book"] ["book"] (zG zFX):=fsK (by decide+kernel)
theorem zZS(D:DefM K mg "rules_of" zFX)(yGL:(CalM P w K mg base) "rule_of" 3 1 ["parts"] zJA):(CalM P w K mg base) "rules_of" 4 1 ["book"] cI:=
 by have h:=okC (P:=P) (w:=w) (base:=base) D (λ_ _ _ _ _ _ us hl=>match us,hl with |[_],_=>rfl) λf fd F=>okM (k:=3) _ F zZR λcdv A outer s H E hr=>(zN (zS (xX (zG zFX) ["book"] ["parts"] [] (zEU (zQ (zB 0) zE)) rfl (λ_ _ _ _ hN=>(yN 0 hN)) (λ_ _ _ _=>jA) (λ_ _ _ _=>(zH yGL (hr.mono (by decide)) rfl (zA (zB 0) zD))))))
    exact h
abbrev zJH:Stmt:=top 15
theorem zBJ:FnScope zMU ["book"] (zG zJH):=fsK (by decide+kernel)
theorem yCB(D:DefM K mg "ties_of" zJH)(zKO:(CalM P w K mg base) "rules_of" 4 1 ["book"] cI)(gR:mg "enumerate"=none)(T_lacks:MtB P w K mg base "lacks" 2 3 dO):(CalM P w K mg base) "ties_of" 5 1 ["book"] cJ:=
 by have h:=okC (P:=P) (w:=w) (base:=base) D (λ_ _ _ _ _ _ us hl=>match us,hl with |[_],_=>rfl) λf fd F=>okM (k:=4) _ F zBJ λcdv A outer s H E hr=>(zI (zU 1 zBJ.nd (wP zD)) (zI (kP PassesOwn.never rfl (kZ (zH zKO (hr.mono (by decide)) rfl (zA (zB 0) zD))) (xE 2 zBJ.nd) (zN (kP PassesOwn.never rfl (yDB rfl gR (zA (zQ (zB 0) zE) zD)) (yHT (n:=2) rfl (zKW (xE 3 zBJ.nd) (zKW (xE 4 zBJ.nd) yHS))) (zN (wF (xW (zQM T_lacks (hr.mono (by decide)) (zB 2) (zA (zB 4) (zA (wP zD) zD)))) (zN (cY (zAF (zB 1) (zA (gX (zA (zB 3) (zA (xX (zG zJH) zMU ["j","other"] [2,4] (yDB rfl gR (zA (zQ (zB 0) zE) zD)) rfl (λ_ _ _ _ hN=>(yHW (n:=2) rfl (zOW (yN 0 hN) (zOW (yN 1 hN) yHV)))) (λ_ _ _ _=>(zBP (zPX (xW (zQM T_lacks (hr.mono (by decide)) (zB 2) (zA (zB 3) (zA (wP (zA (zB 1) zD)) zD))))))) (λ_ _ _ _=>(zB 0))) zD))) zD)))) yQ))))) (zN (zS (zB 1)))))
    exact h
abbrev zFY:Stmt:=top 16
theorem zJU:FnScope zLE ["kept","some"] (zG zFY):=fsK (by decide+kernel)
theorem zST(D:DefM K mg "has_one_of" zFY):(CalM P w K mg base) "has_one_of" 1 2 ["kept","some"] nZ:=
 by have h:=okC (P:=P) (w:=w) (base:=base) D (λ_ _ _ _ _ _ us hl=>match us,hl with |[_,_],_=>rfl) λf fd F=>okM (k:=0) _ F zJU λcdv A outer s H E hr=>(zI (kP PassesOwn.never rfl (kZ (zB 1)) (xE 2 zJU.nd) (zN (wF (yJE (zB 2) (zB 0)) (zN (zS gV)) yQ))) (zN (zS gV)))
    exact h
abbrev bU:Stmt:=top 17
theorem zOQ:FnScope ["ties","kept"] ["ties","kept"] (zG bU):=fsK (by decide+kernel)
theorem zOR(D:DefM K mg "untied_among" bU)(zWY:(CalM P w K mg base) "has_one_of" 1 2 ["kept","some"] nZ):(CalM P w K mg base) "untied_among" 2 2 ["ties","kept"] kT:=
 by have h:=okC (P:=P) (w:=w) (base:=base) D (λ_ _ _ _ _ _ us hl=>match us,hl with |[_,_],_=>rfl) λf fd F=>okM (k:=1) _ F zOQ λcdv A outer s H E hr=>(zN (zS (xX (zG bU) ["ties","kept"] ["i","servers"] [1] (kZ (zB 0)) rfl (λ_ _ _ _ hN=>(yHW (n:=2) rfl (zOW (yN 0 hN) (zOW (yN 1 hN) yHV)))) (λ_ _ _ _=>(zBP (zAK (zHA (yJE (zB 0) (zB 2)) (zBN (zPX (xW (zH zWY (hr.mono (by decide)) rfl (zA (zB 2) (zA (zB 1) zD)))))))))) (λ_ _ _ _=>(zB 0)))))
    exact h
abbrev dF:Stmt:=top 18
theorem kX:FnScope zCG ["ties","rows"] (zG dF):=fsK (by decide+kernel)
theorem zRO(D:DefM K mg "tied_within" dF)(zRU:mg "dict"=none)(zIS:(CalM P w K mg base) "untied_among" 2 2 ["ties","kept"] kT)(yL:mg "tuple"=none):(CalM P w K mg base) "tied_within" 3 2 ["ties","rows"] kD:=
 by have h:=okC (P:=P) (w:=w) (base:=base) D (λ_ _ _ _ _ _ us hl=>match us,hl with |[_,_],_=>rfl) λf fd F=>okM (k:=2) _ F kX λcdv A outer s H E hr=>(zI (zU 2 kX.nd (xT yFV (yNH rfl) rfl zRU yNG (zA (xX (zG dF) zCG ["i"] [] (kZ (zB 1)) rfl (λ_ _ _ _ hN=>(yN 0 hN)) (λ_ _ _ _=>jA) (λ_ _ _ _=>(gX (zA (zB 0) (zA gV zD))))) zD))) (zI (zU 3 kX.nd (zH zIS (hr.mono (by decide)) rfl (zA (zB 0) (zA (zB 2) zD)))) (zI (zXQ 10000 PassesOwn.never (xW (zB 3)) (zI (kP PassesOwn.never rfl (kZ (zB 3)) (xE 4 kX.nd) (zN (cY (yNC (zB 2) (zA (zB 4) (zA yQY zD)))))) (zN (zU 3 kX.nd (zH zIS (hr.mono (by decide)) rfl (zA (zB 0) (zA (zB 2) zD))))))) (zN (zS (xT yFS (yND rfl) rfl yL wX (zA (zB 2) zD)))))))
    exact h
abbrev zRP:Stmt:=top 19
theorem zWJ:FnScope yBM ["book","rows"] (zG zRP):=fsK (by decide+kernel)
theorem yON(D:DefM K mg "held" zRP)(zKO:(CalM P w K mg base) "rules_of" 4 1 ["book"] cI)(T_bars:MtB P w K mg base "bars" 4 2 zBY)(yAD:mg "any"=none)(zTB:(CalM P w K mg base) "tied_within" 3 2 ["ties","rows"] kD)(yGJ:(CalM P w K mg base) "ties_of" 5 1 ["book"] cJ):(CalM P w K mg base) "held" 6 2 ["book","rows"] zQY:=
 by have h:=okC (P:=P) (w:=w) (base:=base) D (λ_ _ _ _ _ _ us hl=>match us,hl with |[_,_],_=>rfl) λf fd F=>okM (k:=5) _ F zWJ λcdv A outer s H E hr=>(zI (zU 2 zWJ.nd (zH zKO (hr.mono (by decide)) rfl (zA (zB 0) zD))) (zI (zOX 3 zWJ.nd (zG zRP) yBM ["i"] [0,2] (zEU (zB 1)) rfl (λ_ _ _ _ hN=>(yN 0 hN)) (λ_ _ _ _=>(zBP (zPX (xW (yE zVG (ySE rfl) rfl yAD yRF (zA (xX (rlS ({kind:=PySem.ScopeKind.function,names:=[(PySem.Str.ofString ".0",PySem.NameKind.local),(PySem.Str.ofString "i",PySem.NameKind.cell),(PySem.Str.ofString "any",PySem.NameKind.globalImplicit),(PySem.Str.ofString "book",PySem.NameKind.free),(PySem.Str.ofString "rules",PySem.NameKind.free)],isGenerator:=false,isCoroutine:=false,more:=[]:PySem.Scope}) (zG zRP)) ["i","book","rules"] ["rule"] [0,1] (kZ (zB 2)) rfl (λ_ _ _ _ hN=>(yN 0 hN)) (λ_ _ _ _=>jA) (λ_ _ _ _=>(zQM T_bars (hr.mono (by decide)) (zB 0) (zA (zQ (zQ (zB 2) zE) (zB 1)) zD)))) zD)))))) (λ_ _ _ _=>(zB 0))) (zN (zS (zH zTB (hr.mono (by decide)) rfl (zA (zH yGJ (hr.mono (by decide)) rfl (zA (zB 0) zD)) (zA (zB 3) zD)))))))
    exact h
abbrev zBK:Stmt:=top 21
theorem zOS:FnScope ["_law_script","_law_k"] ["_law_script","_law_k"] (zG zBK):=fsK (by decide+kernel)
theorem zOT(D:DefM K mg "_law_cell_at" zBK)(kN:mg "len"=none):(CalM P w K mg base) "_law_cell_at" 1 2 ["_law_script","_law_k"] zX:=
 by have h:=okC (P:=P) (w:=w) (base:=base) D (λ_ _ _ _ _ _ us hl=>match us,hl with |[_,_],_=>rfl) λf fd F=>okM (k:=0) _ F zOS λcdv A outer s H E hr=>(zI (wF (yOY hr.units (zB 1) (yE xL cG rfl kN cH (zA (zB 0) zD))) (zN (zS (zQ (zB 0) (zB 1)))) yQ) (zN (zS zE)))
    exact h
abbrev zKN:Stmt:=top 22
theorem zIK:FnScope zKB ["_law_cell","_law_k"] (zG zKN):=fsK (by decide+kernel)
theorem zZT(D:DefM K mg "_law_mix" zKN):(CalM P w K mg base) "_law_mix" 1 2 ["_law_cell","_law_k"] xP:=
 by have h:=okC (P:=P) (w:=w) (base:=base) D (λ_ _ _ _ _ _ us hl=>match us,hl with |[_,_],_=>rfl) λf fd F=>okM (k:=0) _ F zIK λcdv A outer s H E hr=>(zI (zU 2 zIK.nd (zEV (yX (yX (yX (zEV (zB 0) zE) (dW (dW zE (zB 1)) (zB 1))) (dW zE (zB 1))) zE) zE)) (zI (zU 2 zIK.nd (zEV (yX (yX (dW (zB 2) (zB 2)) (dW zE (zB 2))) zE) zE)) (zN (zS (zEV (yX (yX (dW (zB 2) (zB 2)) (dW zE (zB 2))) zE) zE)))))
    exact h
abbrev zIL:Stmt:=top 23
theorem zLV:FnScope zBS ["_law_well_here","_law_many"] (zG zIL):=fsK (by decide+kernel)
theorem zWK(D:DefM K mg "_law_take" zIL):(CalM P w K mg base) "_law_take" 1 2 ["_law_well_here","_law_many"] zK:=
 by have h:=okC (P:=P) (w:=w) (base:=base) D (λ_ _ _ _ _ _ us hl=>match us,hl with |[_,_],_=>rfl) λf fd F=>okM (k:=0) _ F zLV λcdv A outer s H E hr=>(zI (zU 2 zLV.nd (zEV (zQ (zB 0) zE) (zB 1))) (zI (yHU (yAZ (zQ (zB 0) zE) (zB 1)) (yRI (zB 0) zE)) (zN (zS (zB 2)))))
    exact h
abbrev zIM:Stmt:=top 24
theorem zAC:FnScope zHL ["_law_cell","_law_k"] (zG zIM):=fsK (by decide+kernel)
theorem zWL(D:DefM K mg "_law_well" zIM)(yI:mg "range"=none)(cX:(CalM P w K mg base) "_law_mix" 1 2 ["_law_cell","_law_k"] xP):(CalM P w K mg base) "_law_well" 2 2 ["_law_cell","_law_k"] yB:=
 by have h:=okC (P:=P) (w:=w) (base:=base) D (λ_ _ _ _ _ _ us hl=>match us,hl with |[_,_],_=>rfl) λf fd F=>okM (k:=1) _ F zAC λcdv A outer s H E hr=>(zI (wF (wW hr.units (zEV (zB 0) zE) zE) (zN (zS (wP (zA (yAZ (zB 0) zE) zD)))) yQ) (zI (zU 2 zAC.nd zE) (zI (kP PassesOwn.never rfl (xU rfl yI (zA zE zD)) (xE 3 zAC.nd) (zN (zU 2 zAC.nd (yX (dW (zB 2) zE) (zH cX (hr.mono (by decide)) rfl (zA (yAZ (zB 0) zE) (zA (yX (yX zE (dW zE (zB 1))) (zB 3)) zD))))))) (zN (zS (wP (zA (zB 2) zD)))))))
    exact h
abbrev dR:Stmt:=top 25
theorem jH:FnScope dL ["_law_well_here","_law_pool_here"] (zG dR):=fsK (by decide+kernel)
theorem zWM(D:DefM K mg "_law_word" dR)(zOD:mg "str"=none)(yF:mg "isinstance"=none)(yI:mg "range"=none)(zO:(CalM P w K mg base) "_law_take" 1 2 ["_law_well_here","_law_many"] zK)(kN:mg "len"=none)(yAE:mg "min"=none):(CalM P w K mg base) "_law_word" 2 2 ["_law_well_here","_law_pool_here"] kU:=
 by have h:=okC (P:=P) (w:=w) (base:=base) D (λ_ _ _ _ _ _ us hl=>match us,hl with |[_,_],_=>rfl) λf fd F=>okM (k:=1) _ F jH λcdv A outer s H E hr=>(zI (zU 2 jH.nd (xS [97,98,99,100,101,102,103,104,105,106,107,108,109,110,111,112,113,114,115,116,117,118,119,120,121,122])) (zI (zOX 3 jH.nd (zG dR) dL ["_law_value_here"] [] (kZ (zB 1)) rfl (λ_ _ _ _ hN=>(yN 0 hN)) (λ_ _ _ _=>(zBP (xW (yE zEG zML rfl yF kC (zA (zB 0) (zA (zTN rfl zOD yBB) zD)))))) (λ_ _ _ _=>(zB 0))) (zI (zU 4 jH.nd (yMW (xS []) (zA (xX (zG dR) dL ["_law_k"] [0,2] (xU rfl yI (zA (yX zE (zH zO (hr.mono (by decide)) rfl (zA (zB 0) (zA zE zD)))) zD)) rfl (λ_ _ _ _ hN=>(yN 0 hN)) (λ_ _ _ _=>jA) (λ_ _ _ _=>(zQ (zB 2) (zH zO (hr.mono (by decide)) rfl (zA (zB 1) (zA zE zD)))))) zD))) (zI (zU 5 jH.nd (zH zO (hr.mono (by decide)) rfl (zA (zB 0) (zA zE zD)))) (zI (wF (zAK (zKT (wW hr.units (zB 5) zE) (zJZ (wW hr.units (zB 3) (wP zD))))) (zN (zS (zB 4))) yQ) (zI (wF (wW hr.units (zB 5) zE) (zN (zS (zQC (yX (zQ (zB 3) zPW) (zB 4)) zKU (zKV (yE (yEL rfl) ySA rfl yAE ySB (zA zE (zA (yX (yE xL cG rfl kN cH (zA (zQ (zB 3) zPW) zD)) zE) zD))))))) yQ) (zI (zU 6 jH.nd (zH zO (hr.mono (by decide)) rfl (zA (zB 0) (zA (yE xL cG rfl kN cH (zA (zQ (zB 3) zPW) zD)) zD)))) (zN (zS (yX (yX (zQC (zQ (zB 3) zPW) zKU (zKV (zB 6))) (zQ (zB 4) zE)) (zQC (zQ (zB 3) zPW) (zKV (yX (zB 6) zE)) zKU)))))))))))
    exact h
abbrev zIN:Stmt:=top 26
theorem wB:FnScope zHM ["_law_cell"] (zG zIN):=fsK (by decide+kernel)
theorem zWN(D:DefM K mg "_law_pool" zIN)(wD:(CalM P w K mg base) "_law_well" 2 2 ["_law_cell","_law_k"] yB)(yI:mg "range"=none)(zO:(CalM P w K mg base) "_law_take" 1 2 ["_law_well_here","_law_many"] zK)(zZV:(CalM P w K mg base) "_law_word" 2 2 ["_law_well_here","_law_pool_here"] kU):(CalM P w K mg base) "_law_pool" 3 1 ["_law_cell"] gO:=
 by have h:=okC (P:=P) (w:=w) (base:=base) D (λ_ _ _ _ _ _ us hl=>match us,hl with |[_],_=>rfl) λf fd F=>okM (k:=2) _ F wB λcdv A outer s H E hr=>(zI (zU 1 wB.nd (zH wD (hr.mono (by decide)) rfl (zA (zB 0) (zA zE zD)))) (zI (zU 2 wB.nd (wP zD)) (zI (kP PassesOwn.never rfl (xU rfl yI (zA (yX zE (zH zO (hr.mono (by decide)) rfl (zA (zB 1) (zA zE zD)))) zD)) (xE 3 wB.nd) (zI (zU 4 wB.nd (zH zO (hr.mono (by decide)) rfl (zA (zB 1) (zA zE zD)))) (zI (zU 5 wB.nd (yAY (zH zO (hr.mono (by decide)) rfl (zA (zB 1) (zA zE zD))) zE)) (zI (wF (wW hr.units (zB 4) zE) (zN (zU 5 wB.nd (yX (yAY (zH zO (hr.mono (by decide)) rfl (zA (zB 1) (zA (yAY (dW zE (yIF zE zE)) zE) zD))) (yIF zE zE)) zE))) yQ) (zI (wF (zAK (zKT (wW hr.units (zB 4) zE) (zJZ (wW hr.units (zB 4) zE)))) (zN (zU 5 wB.nd (zH zZV (hr.mono (by decide)) rfl (zA (zB 1) (zA (zB 2) zD))))) yQ) (zN (wF (zXV hr.units (zB 5) (zB 2)) (zN (cY (zAF (zB 2) (zA (zB 5) zD)))) yQ))))))) (zN (zS (zB 2))))))
    exact h
abbrev zEA:Stmt:=top 27
theorem wL:FnScope zCH ["_law_cell"] (zG zEA):=fsK (by decide+kernel)
theorem zRQ(D:DefM K mg "_law_tables" zEA)(wD:(CalM P w K mg base) "_law_well" 2 2 ["_law_cell","_law_k"] yB)(yI:mg "range"=none)(zO:(CalM P w K mg base) "_law_take" 1 2 ["_law_well_here","_law_many"] zK)(yL:mg "tuple"=none):(CalM P w K mg base) "_law_tables" 3 1 ["_law_cell"] kE:=
 by have h:=okC (P:=P) (w:=w) (base:=base) D (λ_ _ _ _ _ _ us hl=>match us,hl with |[_],_=>rfl) λf fd F=>okM (k:=2) _ F wL λcdv A outer s H E hr=>(zI (zU 1 wL.nd (zH wD (hr.mono (by decide)) rfl (zA (zB 0) (zA zE zD)))) (zI (zU 2 wL.nd (wP zD)) (zI (kP PassesOwn.never rfl (xU rfl yI (zA (yX zE (zH zO (hr.mono (by decide)) rfl (zA (zB 1) (zA zE zD)))) zD)) (xE 3 wL.nd) (zI (zU 4 wL.nd (yX zE (zH zO (hr.mono (by decide)) rfl (zA (zB 1) (zA zE zD))))) (zI (zU 5 wL.nd (zQ (wP (zA zE (zA zE (zA zE (zA (zB 4) (zA (zH zO (hr.mono (by decide)) rfl (zA (zB 1) (zA (yX (zB 4) zE) zD))) zD)))))) (zH zO (hr.mono (by decide)) rfl (zA (zB 1) (zA zE zD))))) (zN (cY (zAF (zB 2) (zA (gX (zA (zB 4) (zA (zB 5) zD))) zD))))))) (zN (zS (xT yZ bA rfl yL wX (zA (zB 2) zD)))))))
    exact h
abbrev zFZ:Stmt:=top 28
theorem zIO:FnScope zEZ ["_law_cell","_law_tables_here","_law_pool_here"] (zG zFZ):=fsK (by decide+kernel)
theorem zZU(D:DefM K mg "_law_row" zFZ)(wD:(CalM P w K mg base) "_law_well" 2 2 ["_law_cell","_law_k"] yB)(zO:(CalM P w K mg base) "_law_take" 1 2 ["_law_well_here","_law_many"] zK)(kN:mg "len"=none)(yI:mg "range"=none)(yL:mg "tuple"=none):(CalM P w K mg base) "_law_row" 3 3 ["_law_cell","_law_tables_here","_law_pool_here"] cN:=
 by have h:=okC (P:=P) (w:=w) (base:=base) D (λ_ _ _ _ _ _ us hl=>match us,hl with |[_,_,_],_=>rfl) λf fd F=>okM (k:=2) _ F zIO λcdv A outer s H E hr=>(zI (zU 3 zIO.nd (zH wD (hr.mono (by decide)) rfl (zA (zB 0) (zA zE zD)))) (zI (zU 4 zIO.nd (zH zO (hr.mono (by decide)) rfl (zA (zB 3) (zA (yE xL cG rfl kN cH (zA (zB 1) zD)) zD)))) (zN (zS (gX (zA (zB 4) (zA (xT yZ bA rfl yL wX (zA (xX (zG zFZ) zEZ ["_law_k"] [2,3] (xU rfl yI (zA (zQ (zQ (zB 1) (zB 4)) zE) zD)) rfl (λ_ _ _ _ hN=>(yN 0 hN)) (λ_ _ _ _=>jA) (λ_ _ _ _=>(zQ (zB 1) (zH zO (hr.mono (by decide)) rfl (zA (zB 2) (zA (yE xL cG rfl kN cH (zA (zB 1) zD)) zD)))))) zD)) zD)))))))
    exact h
abbrev zIP:Stmt:=top 29
theorem zAD:FnScope zHN ["_law_cells","_law_tables_here","_law_pool_here","_law_most"] (zG zIP):=fsK (by decide+kernel)
theorem zWO(D:DefM K mg "_law_rows" zIP)(yCD:(CalM P w K mg base) "_law_row" 3 3 ["_law_cell","_law_tables_here","_law_pool_here"] cN)(kN:mg "len"=none)(yL:mg "tuple"=none):(CalM P w K mg base) "_law_rows" 4 4 ["_law_cells","_law_tables_here","_law_pool_here","_law_most"] gP:=
 by have h:=okC (P:=P) (w:=w) (base:=base) D (λ_ _ _ _ _ _ us hl=>match us,hl with |[_,_,_,_],_=>rfl) λf fd F=>okM (k:=3) _ F zAD λcdv A outer s H E hr=>(zI (zU 4 zAD.nd (wP zD)) (zI (kP PassesOwn.never rfl (kZ (zB 0)) (xE 5 zAD.nd) (zI (zU 6 zAD.nd (zH yCD (hr.mono (by decide)) rfl (zA (zB 5) (zA (zB 1) (zA (zB 2) zD))))) (zN (wF (zAK (zHA (zXV hr.units (zB 6) (zB 4)) (zBN (yOY hr.units (yE xL cG rfl kN cH (zA (zB 4) zD)) (zB 3))))) (zN (cY (zAF (zB 4) (zA (zB 6) zD)))) yQ)))) (zN (zS (xT yZ bA rfl yL wX (zA (zB 4) zD))))))
    exact h
abbrev zIQ:Stmt:=top 30
theorem zLW:FnScope zHO ["_law_well_here","_law_there","_law_tables_here","_law_pool_here"] (zG zIQ):=fsK (by decide+kernel)
theorem zWP(D:DefM K mg "_law_side" zIQ)(zO:(CalM P w K mg base) "_law_take" 1 2 ["_law_well_here","_law_many"] zK)(kN:mg "len"=none):(CalM P w K mg base) "_law_side" 2 4 ["_law_well_here","_law_there","_law_tables_here","_law_pool_here"] xZ:=
 by have h:=okC (P:=P) (w:=w) (base:=base) D (λ_ _ _ _ _ _ us hl=>match us,hl with |[_,_,_,_],_=>rfl) λf fd F=>okM (k:=1) _ F zLW λcdv A outer s H E hr=>(zI (wF (wW hr.units (zH zO (hr.mono (by decide)) rfl (zA (zB 0) (zA zE zD))) zE) (zN (zS (gX (zA (xS [105,115]) (zA (zQ (zB 3) (zH zO (hr.mono (by decide)) rfl (zA (zB 0) (zA (yE xL cG rfl kN cH (zA (zB 3) zD)) zD)))) zD))))) yQ) (zI (zU 4 zLW.nd (zH zO (hr.mono (by decide)) rfl (zA (zB 0) (zA (yE xL cG rfl kN cH (zA (zB 1) zD)) zD)))) (zN (zS (gX (zA (xS [99,101,108,108]) (zA (zB 4) (zA (zH zO (hr.mono (by decide)) rfl (zA (zB 0) (zA (zQ (zQ (zB 2) (zQ (zB 1) (zB 4))) zE) zD))) zD))))))))
    exact h
abbrev zGA:Stmt:=top 31
theorem jZ:FnScope zFA ["_law_well_here","_law_there","_law_tables_here","_law_pool_here"] (zG zGA):=fsK (by decide+kernel)
theorem zSU(D:DefM K mg "_law_tests" zGA)(yI:mg "range"=none)(zO:(CalM P w K mg base) "_law_take" 1 2 ["_law_well_here","_law_many"] zK)(zOE:(CalM P w K mg base) "_law_side" 2 4 ["_law_well_here","_law_there","_law_tables_here","_law_pool_here"] xZ)(yL:mg "tuple"=none):(CalM P w K mg base) "_law_tests" 3 4 ["_law_well_here","_law_there","_law_tables_here","_law_pool_here"] xG:=
 by have h:=okC (P:=P) (w:=w) (base:=base) D (λ_ _ _ _ _ _ us hl=>match us,hl with |[_,_,_,_],_=>rfl) λf fd F=>okM (k:=2) _ F jZ λcdv A outer s H E hr=>(zI (zU 4 jZ.nd (wP zD)) (zI (kP PassesOwn.never rfl (xU rfl yI (zA (zQ (wP (zA zE (zA zE (zA zE (zA zE zD))))) (zH zO (hr.mono (by decide)) rfl (zA (zB 0) (zA zE zD)))) zD)) (xE 5 jZ.nd) (zI (zU 6 jZ.nd (zH zOE (hr.mono (by decide)) rfl (zA (zB 0) (zA (zB 1) (zA (zB 2) (zA (zB 3) zD)))))) (zI (zU 7 jZ.nd (zH zOE (hr.mono (by decide)) rfl (zA (zB 0) (zA (zB 1) (zA (zB 2) (zA (zB 3) zD)))))) (zN (cY (zAF (zB 4) (zA (gX (zA (zB 6) (zA (zQ (wP (zA (xS [115,97,109,101]) (zA (xS [117,110,108,105,107,101]) (zA (xS [108,101,115,115]) (zA (xS [115,97,109,101]) zD))))) (zH zO (hr.mono (by decide)) rfl (zA (zB 0) (zA zE zD)))) (zA (zB 7) zD)))) zD))))))) (zN (zS (xT yZ bA rfl yL wX (zA (zB 4) zD))))))
    exact h
abbrev dS:Stmt:=top 32
theorem wC:FnScope dM ["_law_cell","_law_tables_here","_law_pool_here"] (zG dS):=fsK (by decide+kernel)
theorem zWQ(D:DefM K mg "_law_rule" dS)(wD:(CalM P w K mg base) "_law_well" 2 2 ["_law_cell","_law_k"] yB)(zO:(CalM P w K mg base) "_law_take" 1 2 ["_law_well_here","_law_many"] zK)(kN:mg "len"=none)(zLY:(CalM P w K mg base) "_law_tests" 3 4 ["_law_well_here","_law_there","_law_tables_here","_law_pool_here"] xG)(yI:mg "range"=none)(yL:mg "tuple"=none):(CalM P w K mg base) "_law_rule" 4 3 ["_law_cell","_law_tables_here","_law_pool_here"] wA:=
 by have h:=okC (P:=P) (w:=w) (base:=base) D (λ_ _ _ _ _ _ us hl=>match us,hl with |[_,_,_],_=>rfl) λf fd F=>okM (k:=3) _ F wC λcdv A outer s H E hr=>(zI (zU 3 wC.nd (zH wD (hr.mono (by decide)) rfl (zA (zB 0) (zA zE zD)))) (zI (zU 4 wC.nd (zH zO (hr.mono (by decide)) rfl (zA (zB 3) (zA zE zD)))) (zI (zU 5 wC.nd (zH zO (hr.mono (by decide)) rfl (zA (zB 3) (zA (yE xL cG rfl kN cH (zA (zB 1) zD)) zD)))) (zI (zU 6 wC.nd (zH zO (hr.mono (by decide)) rfl (zA (zB 3) (zA (yE xL cG rfl kN cH (zA (zB 1) zD)) zD)))) (zI (wF (wW hr.units (zB 4) zE) (zN (zS (gX (zA (xS [110,101,118,101,114]) (zA (zB 5) (zA (zH zLY (hr.mono (by decide)) rfl (zA (zB 3) (zA (gX (zA (zB 5) zD)) (zA (zB 1) (zA (zB 2) zD))))) zD)))))) yQ) (zI (wF (wW hr.units (zB 4) zE) (zN (zS (gX (zA (xS [97,112,97,114,116]) (zA (zB 5) (zA (zB 6) (zA (zH zLY (hr.mono (by decide)) rfl (zA (zB 3) (zA (gX (zA (zB 5) (zA (zB 6) zD))) (zA (zB 1) (zA (zB 2) zD))))) zD))))))) yQ) (zI (zU 7 wC.nd (zQ (wP (zA zE (zA zE (zA zE (zA zE (zA zE zD)))))) (zH zO (hr.mono (by decide)) rfl (zA (zB 3) (zA zE zD))))) (zI (zU 8 wC.nd (xT yZ bA rfl yL wX (zA (xX (zG dS) dM ["_law_k"] [1,3,5] (xU rfl yI (zA (zB 7) zD)) rfl (λ_ _ _ _ hN=>(yN 0 hN)) (λ_ _ _ _=>jA) (λ_ _ _ _=>(zH zO (hr.mono (by decide)) rfl (zA (zB 2) (zA (zQ (zQ (zB 1) (zB 3)) zE) zD))))) zD))) (zI (zU 9 wC.nd (xT yZ bA rfl yL wX (zA (xX (zG dS) dM ["_law_k"] [1,3,6] (xU rfl yI (zA (zB 7) zD)) rfl (λ_ _ _ _ hN=>(yN 0 hN)) (λ_ _ _ _=>jA) (λ_ _ _ _=>(zH zO (hr.mono (by decide)) rfl (zA (zB 2) (zA (zQ (zQ (zB 1) (zB 3)) zE) zD))))) zD))) (zN (zS (gX (zA (xS [116,105,101]) (zA (zB 5) (zA (zB 8) (zA (zB 6) (zA (zB 9) zD)))))))))))))))))
    exact h
abbrev zCF:Stmt:=top 33
theorem wU:FnScope zBT ["_law_script","_law_most","_law_room"] (zG zCF):=fsK (by decide+kernel)
theorem zWR(D:DefM K mg "_law_book" zCF)(zZX:(CalM P w K mg base) "_law_pool" 3 1 ["_law_cell"] gO)(xC:(CalM P w K mg base) "_law_cell_at" 1 2 ["_law_script","_law_k"] zX)(zTA:(CalM P w K mg base) "_law_tables" 3 1 ["_law_cell"] kE)(zO:(CalM P w K mg base) "_law_take" 1 2 ["_law_well_here","_law_many"] zK)(wD:(CalM P w K mg base) "_law_well" 2 2 ["_law_cell","_law_k"] yB)(yI:mg "range"=none)(zZZ:(CalM P w K mg base) "_law_rule" 4 3 ["_law_cell","_law_tables_here","_law_pool_here"] wA)(yL:mg "tuple"=none)(zRX:mg "list"=none)(cX:(CalM P w K mg base) "_law_mix" 1 2 ["_law_cell","_law_k"] xP)(yAB:(CalM P w K mg base) "_law_rows" 4 4 ["_law_cells","_law_tables_here","_law_pool_here","_law_most"] gP):(CalM P w K mg base) "_law_book" 5 3 ["_law_script","_law_most","_law_room"] gQ:=
 by have h:=okC (P:=P) (w:=w) (base:=base) D (λ_ _ _ _ _ _ us hl=>match us,hl with |[_,_,_],_=>rfl) λf fd F=>okM (k:=4) _ F wU λcdv A outer s H E hr=>(zI (zU 3 wU.nd (zH zZX (hr.mono (by decide)) rfl (zA (zH xC (hr.mono (by decide)) rfl (zA (zB 0) (zA zE zD))) zD))) (zI (zU 4 wU.nd (zH zTA (hr.mono (by decide)) rfl (zA (zH xC (hr.mono (by decide)) rfl (zA (zB 0) (zA zE zD))) zD))) (zI (zU 5 wU.nd (zH zO (hr.mono (by decide)) rfl (zA (zH wD (hr.mono (by decide)) rfl (zA (zH xC (hr.mono (by decide)) rfl (zA (zB 0) (zA zE zD))) (zA zE zD))) (zA (zQ (wP (zA zE (zA zE (zA zE (zA zE zD))))) (zB 2)) zD)))) (zI (zU 6 wU.nd (xT yZ bA rfl yL wX (zA (xX (zG zCF) zBT ["_law_k"] [0,3,4] (xU rfl yI (zA (zB 5) zD)) rfl (λ_ _ _ _ hN=>(yN 0 hN)) (λ_ _ _ _=>jA) (λ_ _ _ _=>(zH zZZ (hr.mono (by decide)) rfl (zA (zH xC (hr.mono (by decide)) rfl (zA (zB 1) (zA (yX zE (zB 0)) zD))) (zA (zB 3) (zA (zB 2) zD)))))) zD))) (zI (zU 7 wU.nd (xT zUK yLZ rfl zRX yMB (zA (zQC (zB 0) (zKV (yX zE (zB 5))) zKU) zD))) (zI (kP PassesOwn.never rfl (xU rfl yI (zA (zEV (zH cX (hr.mono (by decide)) rfl (zA (zH xC (hr.mono (by decide)) rfl (zA (zB 0) (zA zE zD))) (zA zE zD))) (yX (zB 1) zE)) zD)) (xE 8 wU.nd) (zN (cY (zAF (zB 7) (zA (yX zE (dW zE (zH cX (hr.mono (by decide)) rfl (zA (zH xC (hr.mono (by decide)) rfl (zA (zB 0) (zA zE zD))) (zA (yX zE (zB 8)) zD))))) zD))))) (zN (zS (gX (zA (zB 4) (zA (zB 6) (zA (zH yAB (hr.mono (by decide)) rfl (zA (zQC (zB 7) zKU (zKV (dW zE (zB 1)))) (zA (zB 4) (zA (zB 3) (zA (zB 1) zD))))) zD))))))))))))
    exact h
abbrev zGB:Stmt:=top 34
theorem zSV:FnScope bB bB (zG zGB):=fsK (by decide+kernel)
theorem zSW(D:DefM K mg "_law_value" zGB):(CalM P w K mg base) "_law_value" 1 2 bB bO:=
 by have h:=okC (P:=P) (w:=w) (base:=base) D (λ_ _ _ _ _ _ us hl=>match us,hl with |[_,_],_=>rfl) λf fd F=>okM (k:=0) _ F zSV λcdv A outer s H E hr=>(zI (wF (wW hr.units (zQ (zB 0) zE) (xS [105,115])) (zN (zS (zQ (zB 0) zE))) yQ) (zN (zS (zQ (zQ (zQ (zB 1) (zQ (zB 0) zE)) zE) (zQ (zB 0) zE)))))
    exact h
abbrev zIR:Stmt:=top 35
theorem jI:FnScope zNW ["_law_tests_here","_law_rows_here"] (zG zIR):=fsK (by decide+kernel)
theorem zWS(D:DefM K mg "_law_hold" zIR)(zLX:(CalM P w K mg base) "_law_value" 1 2 bB bO)(zOD:mg "str"=none)(yF:mg "isinstance"=none):(CalM P w K mg base) "_law_hold" 2 2 ["_law_tests_here","_law_rows_here"] dQ:=
 by have h:=okC (P:=P) (w:=w) (base:=base) D (λ_ _ _ _ _ _ us hl=>match us,hl with |[_,_],_=>rfl) λf fd F=>okM (k:=1) _ F jI λcdv A outer s H E hr=>(zI (kP PassesOwn.never rfl (zEU (zB 0)) (yHT (n:=3) rfl (zKW (xE 2 jI.nd) (zKW (xE 3 jI.nd) (zKW (xE 4 jI.nd) yHS)))) (zI (zU 5 jI.nd (zH zLX (hr.mono (by decide)) rfl (zA (zB 2) (zA (zB 1) zD)))) (zI (zU 6 jI.nd (zH zLX (hr.mono (by decide)) rfl (zA (zB 4) (zA (zB 1) zD)))) (zI (wF (zAK (zKT (zAK (zHA (wW hr.units (zB 3) (xS [115,97,109,101])) (zBN (zQB hr.units (zB 5) (zB 6))))) (zJZ (zAK (zHA (wW hr.units (zB 3) (xS [117,110,108,105,107,101])) (zBN (wW hr.units (zB 5) (zB 6)))))))) (zN (zS gV)) yQ) (zN (wF (zAK (zHA (wW hr.units (zB 3) (xS [108,101,115,115])) (zBN (zAK (zKT (xW (yE zEG zML rfl yF kC (zA (zB 5) (zA (zTN rfl zOD yBB) zD)))) (zKT (xW (yE zEG zML rfl yF kC (zA (zB 6) (zA (zTN rfl zOD yBB) zD)))) (zJZ (tm_ge (zB 5) (zB 6))))))))) (zN (zS gV)) yQ)))))) (zN (zS gV)))
    exact h
abbrev zEB:Stmt:=top 36
theorem zRR:FnScope jO jO (zG zEB):=fsK (by decide+kernel)
theorem zRS(D:DefM K mg "_law_barred" zEB)(yAC:(CalM P w K mg base) "_law_hold" 2 2 ["_law_tests_here","_law_rows_here"] dQ):(CalM P w K mg base) "_law_barred" 3 2 jO kG:=
 by have h:=okC (P:=P) (w:=w) (base:=base) D (λ_ _ _ _ _ _ us hl=>match us,hl with |[_,_],_=>rfl) λf fd F=>okM (k:=2) _ F zRR λcdv A outer s H E hr=>(zN (zS (zMG (zXT hr.units (zQ (zB 0) zE) (xS [110,101,118,101,114])) (zMG (zXT hr.units (zQ (zB 1) zE) (zQ (zB 0) zE)) (zUS (zH yAC (hr.mono (by decide)) rfl (zA (zQ (zB 0) zE) (zA (gX (zA (zB 1) zD)) zD))))))))
    exact h
abbrev wM:Stmt:=top 37
theorem zGR:FnScope bC ["_law_rule_here","_law_row_here","_law_rows_here"] (zG wM):=fsK (by decide+kernel)
theorem zOU(D:DefM K mg "_law_lacking" wM):(CalM P w K mg base) "_law_lacking" 1 3 ["_law_rule_here","_law_row_here","_law_rows_here"] bP:=
 by have h:=okC (P:=P) (w:=w) (base:=base) D (λ_ _ _ _ _ _ us hl=>match us,hl with |[_,_,_],_=>rfl) λf fd F=>okM (k:=0) _ F zGR λcdv A outer s H E hr=>(zI (wF (zAK (zKT (zQB hr.units (zQ (zB 0) zE) (xS [116,105,101])) (zJZ (zQB hr.units (zQ (zB 1) zE) (zQ (zB 0) zE))))) (zN (zS gV)) yQ) (zI (zU 3 zGR.nd (xX (zG wM) bC ["_law_c"] [1] (zEU (zQ (zB 0) zE)) rfl (λ_ _ _ _ hN=>(yN 0 hN)) (λ_ _ _ _=>jA) (λ_ _ _ _=>(zQ (zQ (zB 1) zE) (zB 0))))) (zN (zS (zXT hr.units (xX (zG wM) bC ["_law_other"] [0,3] (kZ (zB 2)) rfl (λ_ _ _ _ hN=>(yN 0 hN)) (λ_ _ _ _=>(zBP (zAK (zHA (wW hr.units (zQ (zB 0) zE) (zQ (zB 1) zE)) (zBN (wW hr.units (xX (rlS ({kind:=PySem.ScopeKind.function,names:=[(PySem.Str.ofString ".0",PySem.NameKind.local),(PySem.Str.ofString "_law_other",PySem.NameKind.cell),(PySem.Str.ofString "_law_due",PySem.NameKind.free),(PySem.Str.ofString "_law_rule_here",PySem.NameKind.free)],isGenerator:=false,isCoroutine:=false,more:=[]:PySem.Scope}) (zG wM)) ["_law_other","_law_rule_here","_law_due"] ["_law_c"] [0] (zEU (zQ (zB 1) zE)) rfl (λ_ _ _ _ hN=>(yN 0 hN)) (λ_ _ _ _=>jA) (λ_ _ _ _=>(zQ (zQ (zB 1) zE) (zB 0)))) (zB 2))))))) (λ_ _ _ _=>(zB 0))) (wP zD))))))
    exact h
abbrev dG:Stmt:=top 38
theorem bV:FnScope zCI ["_law_book_here","_law_some"] (zG dG):=fsK (by decide+kernel)
theorem zRT(D:DefM K mg "_law_stands" dG)(zSY:(CalM P w K mg base) "_law_barred" 3 2 jO kG)(zRY:(CalM P w K mg base) "_law_lacking" 1 3 ["_law_rule_here","_law_row_here","_law_rows_here"] bP):(CalM P w K mg base) "_law_stands" 4 2 ["_law_book_here","_law_some"] xK:=
 by have h:=okC (P:=P) (w:=w) (base:=base) D (λ_ _ _ _ _ _ us hl=>match us,hl with |[_,_],_=>rfl) λf fd F=>okM (k:=3) _ F bV λcdv A outer s H E hr=>(zI (zOX 2 bV.nd (zG dG) zCI ["_law_i"] [0] (yIX (zB 1)) rfl (λ_ _ _ _ hN=>(yN 0 hN)) (λ_ _ _ _=>jA) (λ_ _ _ _=>(zQ (zQ (zB 1) zE) (zB 0)))) (zI (kP PassesOwn.never rfl (yIX (zB 1)) (xE 3 bV.nd) (zN (kP PassesOwn.never rfl (zEU (zQ (zB 0) zE)) (xE 4 bV.nd) (zN (wF (zAK (zKT (xW (zH zSY (hr.mono (by decide)) rfl (zA (zB 4) (zA (zQ (zQ (zB 0) zE) (zB 3)) zD)))) (zJZ (xW (zH zRY (hr.mono (by decide)) rfl (zA (zB 4) (zA (zQ (zQ (zB 0) zE) (zB 3)) (zA (zB 2) zD)))))))) (zN (zS gV)) yQ))))) (zN (zS gV))))
    exact h
abbrev bW:Stmt:=top 39
theorem hG:FnScope nY ["_law_book_here","_law_some"] (zG bW):=fsK (by decide+kernel)
theorem zSX(D:DefM K mg "_law_union" bW)(yI:mg "range"=none)(kN:mg "len"=none)(zEC:(CalM P w K mg base) "_law_stands" 4 2 ["_law_book_here","_law_some"] xK)(zIT:mg "sorted"=none)(yL:mg "tuple"=none):(CalM P w K mg base) "_law_union" 5 2 ["_law_book_here","_law_some"] zAA:=
 by have h:=okC (P:=P) (w:=w) (base:=base) D (λ_ _ _ _ _ _ us hl=>match us,hl with |[_,_],_=>rfl) λf fd F=>okM (k:=4) _ F hG λcdv A outer s H E hr=>(zI (zU 2 hG.nd yIW) (zI (kP PassesOwn.never rfl (xU rfl yI (zA (yRC zE (yE xL cG rfl kN cH (zA (zB 1) zD))) zD)) (xE 3 hG.nd) (zI (zOX 4 hG.nd (zG bW) nY ["_law_k"] [1,3] (xU rfl yI (zA (yE xL cG rfl kN cH (zA (zB 1) zD)) zD)) rfl (λ_ _ _ _ hN=>(yN 0 hN)) (λ_ _ _ _=>(zBP (wW hr.units (zEV (ySF (zB 2) (zB 0)) zE) zE))) (λ_ _ _ _=>(zQ (zB 1) (zB 0)))) (zN (wF (zAK (zHA (zQB hr.units (xX (zG bW) nY ["_law_i"] [2] (kZ (zB 4)) rfl (λ_ _ _ _ hN=>(yN 0 hN)) (λ_ _ _ _=>(zBP (yFP (zB 0) (zB 1)))) (λ_ _ _ _=>(zB 0))) (wP zD)) (zBN (xW (zH zEC (hr.mono (by decide)) rfl (zA (zB 0) (zA (zB 4) zD))))))) (zN (kP PassesOwn.never rfl (kZ (zB 4)) (xE 5 hG.nd) (zN (yHU gV (yMZ (zB 2) (zB 5)))))) yQ)))) (zN (zS (xT yZ bA rfl yL wX (zA (yE yFT (yNE rfl) rfl zIT yBG (zA (zB 2) zD)) zD))))))
    exact h
abbrev yEE:Stmt:=top 40
theorem zNL:FnScope yJH ["_law_script"] (zG yEE):=fsK (by decide+kernel)
theorem yTC{f:Addr}{fd:FuncData}(F:Fun K "law" "law" yEE f fd)(zZW:(CalM P w K mg base) "_law_book" 5 3 ["_law_script","_law_most","_law_room"] gQ)(kN:mg "len"=none)(yL:mg "tuple"=none)(yI:mg "range"=none)(cX:(CalM P w K mg base) "_law_mix" 1 2 ["_law_cell","_law_k"] xP)(xC:(CalM P w K mg base) "_law_cell_at" 1 2 ["_law_script","_law_k"] zX)(zWV:(CalM P w K mg base) "_law_union" 5 2 ["_law_book_here","_law_some"] zAA)(yKI:(CalM P w K mg base) "held" 6 2 ["book","rows"] zQY)(yF:mg "isinstance"=none)(zEC:(CalM P w K mg base) "_law_stands" 4 2 ["_law_book_here","_law_some"] xK):FnOk P w K mg base CX0 7 f fd ["_law_script"] (spM ⟨K,mg,P,w⟩ 1 zYQ):=
 by have h:=okM (P:=P) (w:=w) (mg:=mg) (base:=base) (k:=6) _ F zNL λcdv A outer s H E hr=>(zI (zU 1 zNL.nd (zH zZW (hr.mono (by decide)) rfl (zA (zB 0) (zA zE (zA zE zD))))) (zI (zU 2 zNL.nd (yMS rfl rfl yL rfl yI (zA (yE xL cG rfl kN cH (zA (zQ (zB 1) zE) zD)) zD))) (zI (kP PassesOwn.never rfl (kZ (wP (zA (zB 2) (zA (xT yZ bA rfl yL wX (zA (xX (zG yEE) yJH ["_law_i"] [0] (zEU (zB 2)) rfl (λ_ _ _ _ hN=>(yN 0 hN)) (λ_ _ _ _=>(zBP (tm_gt (zEV (zH cX (hr.mono (by decide)) rfl (zA (zH xC (hr.mono (by decide)) rfl (zA (zB 1) (zA zE zD))) (zA (yX (zB 0) zE) zD))) zE) zE))) (λ_ _ _ _=>(zB 0))) zD)) zD)))) (xE 3 zNL.nd) (zI (zU 4 zNL.nd (zH zWV (hr.mono (by decide)) rfl (zA (zB 1) (zA (zB 3) zD)))) (zI (zU 5 zNL.nd (zH yKI (hr.mono (by decide)) rfl (zA (zB 1) (zA (zB 3) zD)))) (zI (wF (zAK (zKT (zPX (xW (yE zEG zML rfl yF kC (zA (zB 5) (zA (zTN rfl yL wX) zD))))) (zKT (zQB hr.units (zB 5) (zB 4)) (zJZ (zPX (xW (zH zEC (hr.mono (by decide)) rfl (zA (zB 1) (zA (zB 5) zD))))))))) (zN (zS gV)) yQ) (zN (wF (zQB hr.units (zH yKI (hr.mono (by decide)) rfl (zA (zB 1) (zA (zB 5) zD))) (zB 4)) (zN (zS gV)) yQ)))))) (zN (zS gV)))))
    exact h
end
theorem all_mk{l:PySem.W.OpenLaw}{w:World}{K:PySem.W.Frag}{h:Heap}{mg:Str->Option Value}{fa:Addr}(X:K.In h)(GG:h.Ns mainGlobals mg)(hfa:mg "law"=some (.ref fa))
  (D0:DefM K mg "_wall" zWF)
  (D1:DefM K mg "is_whole" zKJ)
  (D2:DefM K mg "side_value" zFS)
  (D3:DefM K mg "fulfils" zNJ)
  (D4:DefM K mg "fulfils_all" dE)
  (D5:DefM K mg "cells_in" zFT)
  (D13:DefM K mg "rule_of" zNK)
  (D14:DefM K mg "rules_of" zFX)
  (D15:DefM K mg "ties_of" zJH)
  (D16:DefM K mg "has_one_of" zFY)
  (D17:DefM K mg "untied_among" bU)
  (D18:DefM K mg "tied_within" dF)
  (D19:DefM K mg "held" zRP)
  (D20:DefM K mg "_law_cell_at" zBK)
  (D21:DefM K mg "_law_mix" zKN)
  (D22:DefM K mg "_law_take" zIL)
  (D23:DefM K mg "_law_well" zIM)
  (D24:DefM K mg "_law_word" dR)
  (D25:DefM K mg "_law_pool" zIN)
  (D26:DefM K mg "_law_tables" zEA)
  (D27:DefM K mg "_law_row" zFZ)
  (D28:DefM K mg "_law_rows" zIP)
  (D29:DefM K mg "_law_side" zIQ)
  (D30:DefM K mg "_law_tests" zGA)
  (D31:DefM K mg "_law_rule" dS)
  (D32:DefM K mg "_law_book" zCF)
  (D33:DefM K mg "_law_value" zGB)
  (D34:DefM K mg "_law_hold" zIR)
  (D35:DefM K mg "_law_barred" zEB)
  (D36:DefM K mg "_law_lacking" wM)
  (D37:DefM K mg "_law_stands" dG)
  (D38:DefM K mg "_law_union" bW)
  (D39:DefM K mg "law" yEE)
  {C_Rule:Addr} (n_Rule:PySem.W.nsIn K mainGlobals "Rule"=some (some (.ref C_Rule)))
  {C_Never:Addr} (n_Never:PySem.W.nsIn K mainGlobals "Never"=some (some (.ref C_Never)))
  {C_Apart:Addr} (n_Apart:PySem.W.nsIn K mainGlobals "Apart"=some (some (.ref C_Apart)))
  {C_Tie:Addr} (n_Tie:PySem.W.nsIn K mainGlobals "Tie"=some (some (.ref C_Tie)))
  (o_Rule:(PySem.W.clsIn K C_Rule).map (·.name)=some "Rule") (yCC:Cls K C_Rule) (zWZ:NoAttr K C_Rule "parts") (i_Rule:OI K C_Rule)
  (o_Never:(PySem.W.clsIn K C_Never).map (·.name)=some "Never") (zWW:Cls K C_Never) (zPI:NoAttr K C_Never "parts") (i_Never:OI K C_Never)
  (o_Apart:(PySem.W.clsIn K C_Apart).map (·.name)=some "Apart") (zWX:Cls K C_Apart) (zPH:NoAttr K C_Apart "parts") (i_Apart:OI K C_Apart)
  (o_Tie:(PySem.W.clsIn K C_Tie).map (·.name)=some "Tie") (yKJ:Cls K C_Tie) (yEF:NoAttr K C_Tie "parts") (i_Tie:OI K C_Tie)
  {F_Rule___init__:Addr} {odF_Rule___init__ anF_Rule___init__:Option Addr} {slF_Rule___init__:Array (Option Value)} {ocF_Rule___init__ kVF_Rule___init__ dcF_Rule___init__ pmF_Rule___init__ cdF_Rule___init__ ctF_Rule___init__:Value}
  (yCE:Mk K C_Rule F_Rule___init__)
  (zWT:Mk K C_Never F_Rule___init__)
  (zWU:Mk K C_Apart F_Rule___init__)
  (yKK:Mk K C_Tie F_Rule___init__)
  (lF_Rule___init__:K.lookup F_Rule___init__=some ⟨ocF_Rule___init__,odF_Rule___init__,.func (PySem.W.fnOf "__init__" "Rule.__init__" (wN (inClass (top 8) 0)) (xR (inClass (top 8) 0)) (zG (inClass (top 8) 0)) .none kVF_Rule___init__ dcF_Rule___init__ pmF_Rule___init__ anF_Rule___init__ cdF_Rule___init__ ctF_Rule___init__),slF_Rule___init__⟩) (cF_Rule___init__:PySem.W.codeIn K cdF_Rule___init__ "Rule.__init__"=true) (kF_Rule___init__:PySem.W.keepIn K (.ref F_Rule___init__)=true)
  {xH:Addr} {odF_Rule_bars anF_Rule_bars:Option Addr} {slF_Rule_bars:Array (Option Value)} {ocF_Rule_bars kVF_Rule_bars dcF_Rule_bars pmF_Rule_bars cdF_Rule_bars ctF_Rule_bars:Value}
  (h_Rule_bars:Meth K C_Rule "bars" xH)
  (h_Apart_bars:Meth K C_Apart "bars" xH)
  (h_Tie_bars:Meth K C_Tie "bars" xH)
  (lF_Rule_bars:K.lookup xH=some ⟨ocF_Rule_bars,odF_Rule_bars,.func (PySem.W.fnOf "bars" "Rule.bars" (wN (inClass (top 8) 1)) (xR (inClass (top 8) 1)) (zG (inClass (top 8) 1)) .none kVF_Rule_bars dcF_Rule_bars pmF_Rule_bars anF_Rule_bars cdF_Rule_bars ctF_Rule_bars),slF_Rule_bars⟩) (cF_Rule_bars:PySem.W.codeIn K cdF_Rule_bars "Rule.bars"=true) (kF_Rule_bars:PySem.W.keepIn K (.ref xH)=true)
  {yP:Addr} {odF_Rule_parts_them anF_Rule_parts_them:Option Addr} {slF_Rule_parts_them:Array (Option Value)} {ocF_Rule_parts_them kVF_Rule_parts_them dcF_Rule_parts_them pmF_Rule_parts_them cdF_Rule_parts_them ctF_Rule_parts_them:Value}
  (h_Rule_parts_them:Meth K C_Rule "parts_them" yP)
  (h_Never_parts_them:Meth K C_Never "parts_them" yP)
  (h_Tie_parts_them:Meth K C_Tie "parts_them" yP)
  (lF_Rule_parts_them:K.lookup yP=some ⟨ocF_Rule_parts_them,odF_Rule_parts_them,.func (PySem.W.fnOf "parts_them" "Rule.parts_them" (wN (inClass (top 8) 2)) (xR (inClass (top 8) 2)) (zG (inClass (top 8) 2)) .none kVF_Rule_parts_them dcF_Rule_parts_them pmF_Rule_parts_them anF_Rule_parts_them cdF_Rule_parts_them ctF_Rule_parts_them),slF_Rule_parts_them⟩) (cF_Rule_parts_them:PySem.W.codeIn K cdF_Rule_parts_them "Rule.parts_them"=true) (kF_Rule_parts_them:PySem.W.keepIn K (.ref yP)=true)
  {xA:Addr} {odF_Rule_lacks anF_Rule_lacks:Option Addr} {slF_Rule_lacks:Array (Option Value)} {ocF_Rule_lacks kVF_Rule_lacks dcF_Rule_lacks pmF_Rule_lacks cdF_Rule_lacks ctF_Rule_lacks:Value}
  (h_Rule_lacks:Meth K C_Rule "lacks" xA)
  (h_Never_lacks:Meth K C_Never "lacks" xA)
  (h_Apart_lacks:Meth K C_Apart "lacks" xA)
  (lF_Rule_lacks:K.lookup xA=some ⟨ocF_Rule_lacks,odF_Rule_lacks,.func (PySem.W.fnOf "lacks" "Rule.lacks" (wN (inClass (top 8) 3)) (xR (inClass (top 8) 3)) (zG (inClass (top 8) 3)) .none kVF_Rule_lacks dcF_Rule_lacks pmF_Rule_lacks anF_Rule_lacks cdF_Rule_lacks ctF_Rule_lacks),slF_Rule_lacks⟩) (cF_Rule_lacks:PySem.W.codeIn K cdF_Rule_lacks "Rule.lacks"=true) (kF_Rule_lacks:PySem.W.keepIn K (.ref xA)=true)
  {xY:Addr} {odF_Never_bars anF_Never_bars:Option Addr} {slF_Never_bars:Array (Option Value)} {ocF_Never_bars kVF_Never_bars dcF_Never_bars pmF_Never_bars cdF_Never_bars ctF_Never_bars:Value}
  (h_Never_bars:Meth K C_Never "bars" xY)
  (lF_Never_bars:K.lookup xY=some ⟨ocF_Never_bars,odF_Never_bars,.func (PySem.W.fnOf "bars" "Never.bars" (wN (inClass (top 9) 0)) (xR (inClass (top 9) 0)) (zG (inClass (top 9) 0)) .none kVF_Never_bars dcF_Never_bars pmF_Never_bars anF_Never_bars cdF_Never_bars ctF_Never_bars),slF_Never_bars⟩) (cF_Never_bars:PySem.W.codeIn K cdF_Never_bars "Never.bars"=true) (kF_Never_bars:PySem.W.keepIn K (.ref xY)=true)
  {yU:Addr} {odF_Apart_parts_in_turn anF_Apart_parts_in_turn:Option Addr} {slF_Apart_parts_in_turn:Array (Option Value)} {ocF_Apart_parts_in_turn kVF_Apart_parts_in_turn dcF_Apart_parts_in_turn pmF_Apart_parts_in_turn cdF_Apart_parts_in_turn ctF_Apart_parts_in_turn:Value}
  (h_Apart_parts_in_turn:Meth K C_Apart "parts_in_turn" yU)
  (lF_Apart_parts_in_turn:K.lookup yU=some ⟨ocF_Apart_parts_in_turn,odF_Apart_parts_in_turn,.func (PySem.W.fnOf "parts_in_turn" "Apart.parts_in_turn" (wN (inClass (top 10) 0)) (xR (inClass (top 10) 0)) (zG (inClass (top 10) 0)) .none kVF_Apart_parts_in_turn dcF_Apart_parts_in_turn pmF_Apart_parts_in_turn anF_Apart_parts_in_turn cdF_Apart_parts_in_turn ctF_Apart_parts_in_turn),slF_Apart_parts_in_turn⟩) (cF_Apart_parts_in_turn:PySem.W.codeIn K cdF_Apart_parts_in_turn "Apart.parts_in_turn"=true) (kF_Apart_parts_in_turn:PySem.W.keepIn K (.ref yU)=true)
  {xO:Addr} {odF_Apart_parts_them anF_Apart_parts_them:Option Addr} {slF_Apart_parts_them:Array (Option Value)} {ocF_Apart_parts_them kVF_Apart_parts_them dcF_Apart_parts_them pmF_Apart_parts_them cdF_Apart_parts_them ctF_Apart_parts_them:Value}
  (h_Apart_parts_them:Meth K C_Apart "parts_them" xO)
  (lF_Apart_parts_them:K.lookup xO=some ⟨ocF_Apart_parts_them,odF_Apart_parts_them,.func (PySem.W.fnOf "parts_them" "Apart.parts_them" (wN (inClass (top 10) 1)) (xR (inClass (top 10) 1)) (zG (inClass (top 10) 1)) .none kVF_Apart_parts_them dcF_Apart_parts_them pmF_Apart_parts_them anF_Apart_parts_them cdF_Apart_parts_them ctF_Apart_parts_them),slF_Apart_parts_them⟩) (cF_Apart_parts_them:PySem.W.codeIn K cdF_Apart_parts_them "Apart.parts_them"=true) (kF_Apart_parts_them:PySem.W.keepIn K (.ref xO)=true)
  {xI:Addr} {odF_Tie_lacks anF_Tie_lacks:Option Addr} {slF_Tie_lacks:Array (Option Value)} {ocF_Tie_lacks kVF_Tie_lacks dcF_Tie_lacks pmF_Tie_lacks cdF_Tie_lacks ctF_Tie_lacks:Value}
  (h_Tie_lacks:Meth K C_Tie "lacks" xI)
  (lF_Tie_lacks:K.lookup xI=some ⟨ocF_Tie_lacks,odF_Tie_lacks,.func (PySem.W.fnOf "lacks" "Tie.lacks" (wN (inClass (top 11) 0)) (xR (inClass (top 11) 0)) (zG (inClass (top 11) 0)) .none kVF_Tie_lacks dcF_Tie_lacks pmF_Tie_lacks anF_Tie_lacks cdF_Tie_lacks ctF_Tie_lacks),slF_Tie_lacks⟩) (cF_Tie_lacks:PySem.W.codeIn K cdF_Tie_lacks "Tie.lacks"=true) (kF_Tie_lacks:PySem.W.keepIn K (.ref xI)=true)
  (yAA:PySem.W.nsIn K mainGlobals "all"=some none)
  (yAD:PySem.W.nsIn K mainGlobals "any"=some none)
  (zRV:PySem.W.nsIn K mainGlobals "bool"=some none)
  (zRU:PySem.W.nsIn K mainGlobals "dict"=some none)
  (gR:PySem.W.nsIn K mainGlobals "enumerate"=some none)
  (zZY:PySem.W.nsIn K mainGlobals "int"=some none)
  (yF:PySem.W.nsIn K mainGlobals "isinstance"=some none)
  (kN:PySem.W.nsIn K mainGlobals "len"=some none)
  (zRX:PySem.W.nsIn K mainGlobals "list"=some none)
  (yAE:PySem.W.nsIn K mainGlobals "min"=some none)
  (yI:PySem.W.nsIn K mainGlobals "range"=some none)
  (zIT:PySem.W.nsIn K mainGlobals "sorted"=some none)
  (zOD:PySem.W.nsIn K mainGlobals "str"=some none)
  (yL:PySem.W.nsIn K mainGlobals "tuple"=some none)
  : ∃fd:FuncData,(∀(s:Shared)(v:Value),BindsTo s fd ⟨[v],[]⟩ [("_law_script",v)])/\ ∀base:Heap,K.In base->base.Ns mainGlobals mg->FnOk l.prog w K mg base CX0 7 fa fd ["_law_script"] (zTP K zYQ):=by
 have Z_all:=PySem.W.mg_none_of X GG yAA
 have Z_any:=PySem.W.mg_none_of X GG yAD
 have Z_bool:=PySem.W.mg_none_of X GG zRV
 have Z_dict:=PySem.W.mg_none_of X GG zRU
 have Z_enumerate:=PySem.W.mg_none_of X GG gR
 have Z_int:=PySem.W.mg_none_of X GG zZY
 have Z_isinstance:=PySem.W.mg_none_of X GG yF
 have Z_len:=PySem.W.mg_none_of X GG kN
 have Z_list:=PySem.W.mg_none_of X GG zRX
 have Z_min:=PySem.W.mg_none_of X GG yAE
 have Z_range:=PySem.W.mg_none_of X GG yI
 have Z_sorted:=PySem.W.mg_none_of X GG zIT
 have Z_str:=PySem.W.mg_none_of X GG zOD
 have Z_tuple:=PySem.W.mg_none_of X GG yL
 have FF_Rule___init__:=zEQ (st:=inClass (top 8) 0) lF_Rule___init__ cF_Rule___init__ kF_Rule___init__
 have bF_Rule___init__:=FF_Rule___init__.binds (ps:=["self","parts"]) λ_ _ _ _ _ _ us hl=>match us,hl with |[_,_],_=>rfl
 have FF_Rule_bars:=zEQ (st:=inClass (top 8) 1) lF_Rule_bars cF_Rule_bars kF_Rule_bars
 have bF_Rule_bars:=FF_Rule_bars.binds (ps:=["self","row"]) λ_ _ _ _ _ _ us hl=>match us,hl with |[_,_],_=>rfl
 have FF_Rule_parts_them:=zEQ (st:=inClass (top 8) 2) lF_Rule_parts_them cF_Rule_parts_them kF_Rule_parts_them
 have bF_Rule_parts_them:=FF_Rule_parts_them.binds (ps:=["self","row","other"]) λ_ _ _ _ _ _ us hl=>match us,hl with |[_,_,_],_=>rfl
 have FF_Rule_lacks:=zEQ (st:=inClass (top 8) 3) lF_Rule_lacks cF_Rule_lacks kF_Rule_lacks
 have bF_Rule_lacks:=FF_Rule_lacks.binds (ps:=["self","row","rows"]) λ_ _ _ _ _ _ us hl=>match us,hl with |[_,_,_],_=>rfl
 have FF_Never_bars:=zEQ (st:=inClass (top 9) 0) lF_Never_bars cF_Never_bars kF_Never_bars
 have bF_Never_bars:=FF_Never_bars.binds (ps:=["self","row"]) λ_ _ _ _ _ _ us hl=>match us,hl with |[_,_],_=>rfl
 have FF_Apart_parts_in_turn:=zEQ (st:=inClass (top 10) 0) lF_Apart_parts_in_turn cF_Apart_parts_in_turn kF_Apart_parts_in_turn
 have bF_Apart_parts_in_turn:=FF_Apart_parts_in_turn.binds (ps:=["self","row","other"]) λ_ _ _ _ _ _ us hl=>match us,hl with |[_,_,_],_=>rfl
 have FF_Apart_parts_them:=zEQ (st:=inClass (top 10) 1) lF_Apart_parts_them cF_Apart_parts_them kF_Apart_parts_them
 have bF_Apart_parts_them:=FF_Apart_parts_them.binds (ps:=["self","row","other"]) λ_ _ _ _ _ _ us hl=>match us,hl with |[_,_,_],_=>rfl
 have FF_Tie_lacks:=zEQ (st:=inClass (top 11) 0) lF_Tie_lacks cF_Tie_lacks kF_Tie_lacks
 have bF_Tie_lacks:=FF_Tie_lacks.binds (ps:=["self","row","rows"]) λ_ _ _ _ _ _ us hl=>match us,hl with |[_,_,_],_=>rfl
 have OC_Rule:OC K "Rule" C_Rule:=⟨n_Rule,o_Rule,yCC⟩
 have OC_Never:OC K "Never" C_Never:=⟨n_Never,o_Never,zWW⟩
 have OC_Apart:OC K "Apart" C_Apart:=⟨n_Apart,o_Apart,zWX⟩
 have OC_Tie:OC K "Tie" C_Tie:=⟨n_Tie,o_Tie,yKJ⟩
 have fl_parts:FlB K OCS "parts":=λc hc=>by
  simp only [OCS,mC,nM0,or_false]at hc
  rcases hc with rfl|rfl|rfl|rfl
  ·exact⟨C_Rule,OC_Rule,zWZ⟩
  ·exact⟨C_Never,OC_Never,zPI⟩
  ·exact⟨C_Apart,OC_Apart,zPH⟩
  ·exact⟨C_Tie,OC_Tie,yEF⟩
 refine yRZ D39 hfa (λ_ _ _ _ _ _ s v=>.of_eq rfl) λbase f fd F=>?_
 have GI_Rule:FnOk l.prog w K mg base CX0 1 F_Rule___init__ _ ["self","parts"] (spO K "parts"):=yMX FF_Rule___init__ yKF λcdv A outer s H E=>yCH (yQH (pv 0) (pv 1) rfl)
 have mkb_Rule:MkB l.prog w K mg base "Rule" "parts":=⟨C_Rule,F_Rule___init__,_,"parts",OC_Rule,zWZ,yCE,GI_Rule,bF_Rule___init__,PySem.W.mg_of X GG n_Rule⟩
 have mkb_Never:MkB l.prog w K mg base "Never" "parts":=⟨C_Never,F_Rule___init__,_,"parts",OC_Never,zPI,zWT,GI_Rule,bF_Rule___init__,PySem.W.mg_of X GG n_Never⟩
 have mkb_Apart:MkB l.prog w K mg base "Apart" "parts":=⟨C_Apart,F_Rule___init__,_,"parts",OC_Apart,zPH,zWU,GI_Rule,bF_Rule___init__,PySem.W.mg_of X GG n_Apart⟩
 have mkb_Tie:MkB l.prog w K mg base "Tie" "parts":=⟨C_Tie,F_Rule___init__,_,"parts",OC_Tie,yEF,yKK,GI_Rule,bF_Rule___init__,PySem.W.mg_of X GG n_Tie⟩
 have G0:=yKH (P:=l.prog) (w:=w) (base:=base) D0
 have G1:=zZO (P:=l.prog) (w:=w) (base:=base) D1 Z_int Z_isinstance Z_bool
 have G2:=zSO (P:=l.prog) (w:=w) (base:=base) D2
 have G3:=yBY (P:=l.prog) (w:=w) (base:=base) D3 G2 G1
 have G4:=zRN (P:=l.prog) (w:=w) (base:=base) D4 G3 Z_all
 have G5:=zZQ (P:=l.prog) (w:=w) (base:=base) D5
 have GM_Rule_bars:=zWH (P:=l.prog) (w:=w) (mg:=mg) (base:=base) FF_Rule_bars
 have GM_Rule_parts_them:=zKM (P:=l.prog) (w:=w) (mg:=mg) (base:=base) FF_Rule_parts_them G0
 have GM_Rule_lacks:=zSQ (P:=l.prog) (w:=w) (mg:=mg) (base:=base) FF_Rule_lacks
 have GM_Never_bars:=zSS (P:=l.prog) (w:=w) (mg:=mg) (base:=base) FF_Never_bars fl_parts G4
 have GM_Apart_parts_in_turn:=zFV (P:=l.prog) (w:=w) (mg:=mg) (base:=base) FF_Apart_parts_in_turn G0
 have GM_Apart_parts_them:=zJL (P:=l.prog) (w:=w) (mg:=mg) (base:=base) FF_Apart_parts_them G0
 have GM_Tie_lacks:=zWI (P:=l.prog) (w:=w) (mg:=mg) (base:=base) FF_Tie_lacks fl_parts G5
 have G13:=yCA (P:=l.prog) (w:=w) (base:=base) D13 mkb_Never mkb_Apart mkb_Tie
 have G14:=zZS (P:=l.prog) (w:=w) (base:=base) D14 G13
 have T_lacks:MtB l.prog w K mg base "lacks" 2 3 dO:=λq hq=>by
  simp only [dO,mC,nM0,or_false]at hq
  rcases hq with rfl|rfl|rfl|rfl
  ·exact⟨C_Rule,xA,_,_,OC_Rule,h_Rule_lacks,GM_Rule_lacks.mono (by decide),bF_Rule_lacks⟩
  ·exact⟨C_Never,xA,_,_,OC_Never,h_Never_lacks,GM_Rule_lacks.mono (by decide),bF_Rule_lacks⟩
  ·exact⟨C_Apart,xA,_,_,OC_Apart,h_Apart_lacks,GM_Rule_lacks.mono (by decide),bF_Rule_lacks⟩
  ·exact⟨C_Tie,xI,_,_,OC_Tie,h_Tie_lacks,GM_Tie_lacks.mono (by decide),bF_Tie_lacks⟩
 have G15:=yCB (P:=l.prog) (w:=w) (base:=base) D15 G14 Z_enumerate T_lacks
 have G16:=zST (P:=l.prog) (w:=w) (base:=base) D16
 have G17:=zOR (P:=l.prog) (w:=w) (base:=base) D17 G16
 have G18:=zRO (P:=l.prog) (w:=w) (base:=base) D18 Z_dict G17 Z_tuple
 have T_bars:MtB l.prog w K mg base "bars" 4 2 zBY:=λq hq=>by
  simp only [zBY,mC,nM0,or_false]at hq
  rcases hq with rfl|rfl|rfl|rfl
  ·exact⟨C_Rule,xH,_,_,OC_Rule,h_Rule_bars,GM_Rule_bars.mono (by decide),bF_Rule_bars⟩
  ·exact⟨C_Never,xY,_,_,OC_Never,h_Never_bars,GM_Never_bars.mono (by decide),bF_Never_bars⟩
  ·exact⟨C_Apart,xH,_,_,OC_Apart,h_Apart_bars,GM_Rule_bars.mono (by decide),bF_Rule_bars⟩
  ·exact⟨C_Tie,xH,_,_,OC_Tie,h_Tie_bars,GM_Rule_bars.mono (by decide),bF_Rule_bars⟩
 have G19:=yON (P:=l.prog) (w:=w) (base:=base) D19 G14 T_bars Z_any G18 G15
 have G20:=zOT (P:=l.prog) (w:=w) (base:=base) D20 Z_len
 have G21:=zZT (P:=l.prog) (w:=w) (base:=base) D21
 have G22:=zWK (P:=l.prog) (w:=w) (base:=base) D22
 have G23:=zWL (P:=l.prog) (w:=w) (base:=base) D23 Z_range G21
 have G24:=zWM (P:=l.prog) (w:=w) (base:=base) D24 Z_str Z_isinstance Z_range G22 Z_len Z_min
 have G25:=zWN (P:=l.prog) (w:=w) (base:=base) D25 G23 Z_range G22 G24
 have G26:=zRQ (P:=l.prog) (w:=w) (base:=base) D26 G23 Z_range G22 Z_tuple
 have G27:=zZU (P:=l.prog) (w:=w) (base:=base) D27 G23 G22 Z_len Z_range Z_tuple
 have G28:=zWO (P:=l.prog) (w:=w) (base:=base) D28 G27 Z_len Z_tuple
 have G29:=zWP (P:=l.prog) (w:=w) (base:=base) D29 G22 Z_len
 have G30:=zSU (P:=l.prog) (w:=w) (base:=base) D30 Z_range G22 G29 Z_tuple
 have G31:=zWQ (P:=l.prog) (w:=w) (base:=base) D31 G23 G22 Z_len G30 Z_range Z_tuple
 have G32:=zWR (P:=l.prog) (w:=w) (base:=base) D32 G25 G20 G26 G22 G23 Z_range G31 Z_tuple Z_list G21 G28
 have G33:=zSW (P:=l.prog) (w:=w) (base:=base) D33
 have G34:=zWS (P:=l.prog) (w:=w) (base:=base) D34 G33 Z_str Z_isinstance
 have G35:=zRS (P:=l.prog) (w:=w) (base:=base) D35 G34
 have G36:=zOU (P:=l.prog) (w:=w) (base:=base) D36
 have G37:=zRT (P:=l.prog) (w:=w) (base:=base) D37 G35 G36
 have G38:=zSX (P:=l.prog) (w:=w) (base:=base) D38 Z_range Z_len G37 Z_sorted Z_tuple
 exact yTC (P:=l.prog) (w:=w) (base:=base) F G32 Z_len Z_tuple Z_range G21 G20 G38 G19 Z_isinstance G37
theorem walk{l:PySem.W.OpenLaw}{q:Program}{loose:List Str}{XP:(Str->Option Value)->Heap->Prop}{YP:World->Heap->Prop}{d:DefRec}{K:Params->PySem.W.Frag}(hn:l.most=some 63)(hdf:d.params.defaults=[])
  (hY: ∀(w:World)(h:Heap),YP w h->(K w.params).In h)
  (F: ∀(w:World)(mg:Str->Option Value)(fa:Addr)(h:Heap),(K w.params).In h->h.Ns mainGlobals mg->mg d.name=some (.ref fa)->
   ∃fd:FuncData,(∀(s:Shared)(u:Value),BindsTo s fd ⟨[u],[]⟩ [("_law_script",u)])/\ ∀base:Heap,(K w.params).In base->base.Ns mainGlobals mg->FnOk l.prog w (K w.params) mg base CX0 7 fa fd ["_law_script"] (zTP (K w.params) zYQ)):
  PySem.W.WalkO q loose XP YP l.row.toRowW d [] (λf vs=>PySem.call f vs):=
 L2.walk_of (n:=63) (k:=7) (x:="_law_script") (CX:=λ_=>CX0) (sp:=λw=>zTP (K w.params) zYQ) hn (by decide) hdf ⟨rfl,by decide,by decide⟩ hY F
  (λw H a ns hl hO hS=>yIP hO hS (yKE ns hl)) λ_ _ _ _ _ z=>z
end My
end M
end L2
noncomputable def zTw : PySem.Params → PySem.Heap := fun P => { PySem.W.boot_heap P with objs := #[] }
noncomputable def PySem.W.Fast.tw568005439265546332 := zTw
theorem PySem.W.Fast.te568005439265546332 : PySem.W.Fast.tw568005439265546332 = zTw := rfl
noncomputable def PySem.W.Fast.tw10095431741425030218 := zTw
theorem PySem.W.Fast.te10095431741425030218 : PySem.W.Fast.tw10095431741425030218 = zTw := rfl
noncomputable def PySem.W.Fast.tw16895133984500834234 := zTw
theorem PySem.W.Fast.te16895133984500834234 : PySem.W.Fast.tw16895133984500834234 = zTw := rfl
noncomputable def PySem.W.Fast.tw16175424332467229542 := zTw
theorem PySem.W.Fast.te16175424332467229542 : PySem.W.Fast.tw16175424332467229542 = zTw := rfl
noncomputable def PySem.W.Fast.tw9754762368624766863 := zTw
theorem PySem.W.Fast.te9754762368624766863 : PySem.W.Fast.tw9754762368624766863 = zTw := rfl
noncomputable def PySem.W.Fast.tw15916112363315432329 := zTw
theorem PySem.W.Fast.te15916112363315432329 : PySem.W.Fast.tw15916112363315432329 = zTw := rfl
noncomputable def PySem.W.Fast.tw755161501367355731 := zTw
theorem PySem.W.Fast.te755161501367355731 : PySem.W.Fast.tw755161501367355731 = zTw := rfl
noncomputable def PySem.W.Fast.tw5914554315550128326 := zTw
theorem PySem.W.Fast.te5914554315550128326 : PySem.W.Fast.tw5914554315550128326 = zTw := rfl
noncomputable def PySem.W.Fast.tw9866192174078645983 := zTw
theorem PySem.W.Fast.te9866192174078645983 : PySem.W.Fast.tw9866192174078645983 = zTw := rfl
noncomputable def PySem.W.Fast.tw16079936054807774609 := zTw
theorem PySem.W.Fast.te16079936054807774609 : PySem.W.Fast.tw16079936054807774609 = zTw := rfl
noncomputable def PySem.W.Fast.tw14607620207178014993 := zTw
theorem PySem.W.Fast.te14607620207178014993 : PySem.W.Fast.tw14607620207178014993 = zTw := rfl
noncomputable def PySem.W.Fast.tw2908597215035361762 := zTw
theorem PySem.W.Fast.te2908597215035361762 : PySem.W.Fast.tw2908597215035361762 = zTw := rfl
open PySem PySem.W PyProof.Rows
set_option maxRecDepth 100000 in
set_option maxHeartbeats 0 in
theorem PySem.Challenge.cw_mendsure_k12_held_rows_holds : PySem.Challenge.rw_mendsure_k12_held_rows.Holds := by
  w_on; o_law; k_head; (case hw => w_witness2)
  k_fill
  refine L2.M.My.walk (l := PySem.Challenge.rw_mendsure_k12_held_rows) rfl rfl (fun w h Y => PySem.W.kIn_of Y) ?F
  case F =>
    intro w mg fa h KX G hmg
    refine' L2.M.My.all_mk KX G hmg ?D0 ?D1 ?D2 ?D3 ?D4 ?D5 ?D13 ?D14 ?D15 ?D16 ?D17 ?D18 ?D19 ?D20 ?D21 ?D22 ?D23 ?D24 ?D25 ?D26 ?D27 ?D28 ?D29 ?D30 ?D31 ?D32 ?D33 ?D34 ?D35 ?D36 ?D37 ?D38 ?D39 ?n_Rule ?n_Never ?n_Apart ?n_Tie ?o_Rule ?yCC ?zWZ ?i_Rule ?o_Never ?zWW ?zPI ?i_Never ?o_Apart ?zWX ?zPH ?i_Apart ?o_Tie ?yKJ ?yEF ?i_Tie ?yCE ?zWT ?zWU ?yKK ?lF_Rule___init__ ?cF_Rule___init__ ?kF_Rule___init__ ?h_Rule_bars ?h_Apart_bars ?h_Tie_bars ?lF_Rule_bars ?cF_Rule_bars ?kF_Rule_bars ?h_Rule_parts_them ?h_Never_parts_them ?h_Tie_parts_them ?lF_Rule_parts_them ?cF_Rule_parts_them ?kF_Rule_parts_them ?h_Rule_lacks ?h_Never_lacks ?h_Apart_lacks ?lF_Rule_lacks ?cF_Rule_lacks ?kF_Rule_lacks ?h_Never_bars ?lF_Never_bars ?cF_Never_bars ?kF_Never_bars ?h_Apart_parts_in_turn ?lF_Apart_parts_in_turn ?cF_Apart_parts_in_turn ?kF_Apart_parts_in_turn ?h_Apart_parts_them ?lF_Apart_parts_them ?cF_Apart_parts_them ?kF_Apart_parts_them ?h_Tie_lacks ?lF_Tie_lacks ?cF_Tie_lacks ?kF_Tie_lacks ?yAA ?yAD ?zRV ?zRU ?gR ?zZY ?yF ?kN ?zRX ?yAE ?yI ?zIT ?zOD ?yL
    (case D0 => exact L2.M.def_mk (by k_is) (by k_is) (by k_is) (by k_is) KX G)
    (case D1 => exact L2.M.def_mk (by k_is) (by k_is) (by k_is) (by k_is) KX G)
    (case D2 => exact L2.M.def_mk (by k_is) (by k_is) (by k_is) (by k_is) KX G)
    (case D3 => exact L2.M.def_mk (by k_is) (by k_is) (by k_is) (by k_is) KX G)
    (case D4 => exact L2.M.def_mk (by k_is) (by k_is) (by k_is) (by k_is) KX G)
    (case D5 => exact L2.M.def_mk (by k_is) (by k_is) (by k_is) (by k_is) KX G)
    (case D13 => exact L2.M.def_mk (by k_is) (by k_is) (by k_is) (by k_is) KX G)
    (case D14 => exact L2.M.def_mk (by k_is) (by k_is) (by k_is) (by k_is) KX G)
    (case D15 => exact L2.M.def_mk (by k_is) (by k_is) (by k_is) (by k_is) KX G)
    (case D16 => exact L2.M.def_mk (by k_is) (by k_is) (by k_is) (by k_is) KX G)
    (case D17 => exact L2.M.def_mk (by k_is) (by k_is) (by k_is) (by k_is) KX G)
    (case D18 => exact L2.M.def_mk (by k_is) (by k_is) (by k_is) (by k_is) KX G)
    (case D19 => exact L2.M.def_mk (by k_is) (by k_is) (by k_is) (by k_is) KX G)
    (case D20 => exact L2.M.def_mk (by k_is) (by k_is) (by k_is) (by k_is) KX G)
    (case D21 => exact L2.M.def_mk (by k_is) (by k_is) (by k_is) (by k_is) KX G)
    (case D22 => exact L2.M.def_mk (by k_is) (by k_is) (by k_is) (by k_is) KX G)
    (case D23 => exact L2.M.def_mk (by k_is) (by k_is) (by k_is) (by k_is) KX G)
    (case D24 => exact L2.M.def_mk (by k_is) (by k_is) (by k_is) (by k_is) KX G)
    (case D25 => exact L2.M.def_mk (by k_is) (by k_is) (by k_is) (by k_is) KX G)
    (case D26 => exact L2.M.def_mk (by k_is) (by k_is) (by k_is) (by k_is) KX G)
    (case D27 => exact L2.M.def_mk (by k_is) (by k_is) (by k_is) (by k_is) KX G)
    (case D28 => exact L2.M.def_mk (by k_is) (by k_is) (by k_is) (by k_is) KX G)
    (case D29 => exact L2.M.def_mk (by k_is) (by k_is) (by k_is) (by k_is) KX G)
    (case D30 => exact L2.M.def_mk (by k_is) (by k_is) (by k_is) (by k_is) KX G)
    (case D31 => exact L2.M.def_mk (by k_is) (by k_is) (by k_is) (by k_is) KX G)
    (case D32 => exact L2.M.def_mk (by k_is) (by k_is) (by k_is) (by k_is) KX G)
    (case D33 => exact L2.M.def_mk (by k_is) (by k_is) (by k_is) (by k_is) KX G)
    (case D34 => exact L2.M.def_mk (by k_is) (by k_is) (by k_is) (by k_is) KX G)
    (case D35 => exact L2.M.def_mk (by k_is) (by k_is) (by k_is) (by k_is) KX G)
    (case D36 => exact L2.M.def_mk (by k_is) (by k_is) (by k_is) (by k_is) KX G)
    (case D37 => exact L2.M.def_mk (by k_is) (by k_is) (by k_is) (by k_is) KX G)
    (case D38 => exact L2.M.def_mk (by k_is) (by k_is) (by k_is) (by k_is) KX G)
    (case D39 => exact L2.M.def_mk (by k_is) (by k_is) (by k_is) (by k_is) KX G)
    (case n_Rule => k_is)
    (case n_Never => k_is)
    (case n_Apart => k_is)
    (case n_Tie => k_is)
    (case o_Rule => exact L2.M.nm_of (by k_is) (by rfl))
    (case yCC => exact ⟨by k_is, by k_is, by k_is, by k_is⟩)
    (case zWZ => show PySem.W.findIn _ _ _ = _; k_is)
    (case i_Rule => exact ⟨by k_is, by k_is, by k_is, by k_is⟩)
    (case o_Never => exact L2.M.nm_of (by k_is) (by rfl))
    (case zWW => exact ⟨by k_is, by k_is, by k_is, by k_is⟩)
    (case zPI => show PySem.W.findIn _ _ _ = _; k_is)
    (case i_Never => exact ⟨by k_is, by k_is, by k_is, by k_is⟩)
    (case o_Apart => exact L2.M.nm_of (by k_is) (by rfl))
    (case zWX => exact ⟨by k_is, by k_is, by k_is, by k_is⟩)
    (case zPH => show PySem.W.findIn _ _ _ = _; k_is)
    (case i_Apart => exact ⟨by k_is, by k_is, by k_is, by k_is⟩)
    (case o_Tie => exact L2.M.nm_of (by k_is) (by rfl))
    (case yKJ => exact ⟨by k_is, by k_is, by k_is, by k_is⟩)
    (case yEF => show PySem.W.findIn _ _ _ = _; k_is)
    (case i_Tie => exact ⟨by k_is, by k_is, by k_is, by k_is⟩)
    (case yCE => exact ⟨by k_is, by k_is, by k_is, by k_is⟩)
    (case zWT => exact ⟨by k_is, by k_is, by k_is, by k_is⟩)
    (case zWU => exact ⟨by k_is, by k_is, by k_is, by k_is⟩)
    (case yKK => exact ⟨by k_is, by k_is, by k_is, by k_is⟩)
    (case lF_Rule___init__ => k_is)
    (case cF_Rule___init__ => k_is)
    (case kF_Rule___init__ => k_is)
    (case h_Rule_bars => exact ⟨by k_is, by k_is, by k_is⟩)
    (case h_Apart_bars => exact ⟨by k_is, by k_is, by k_is⟩)
    (case h_Tie_bars => exact ⟨by k_is, by k_is, by k_is⟩)
    (case lF_Rule_bars => k_is)
    (case cF_Rule_bars => k_is)
    (case kF_Rule_bars => k_is)
    (case h_Rule_parts_them => exact ⟨by k_is, by k_is, by k_is⟩)
    (case h_Never_parts_them => exact ⟨by k_is, by k_is, by k_is⟩)
    (case h_Tie_parts_them => exact ⟨by k_is, by k_is, by k_is⟩)
    (case lF_Rule_parts_them => k_is)
    (case cF_Rule_parts_them => k_is)
    (case kF_Rule_parts_them => k_is)
    (case h_Rule_lacks => exact ⟨by k_is, by k_is, by k_is⟩)
    (case h_Never_lacks => exact ⟨by k_is, by k_is, by k_is⟩)
    (case h_Apart_lacks => exact ⟨by k_is, by k_is, by k_is⟩)
    (case lF_Rule_lacks => k_is)
    (case cF_Rule_lacks => k_is)
    (case kF_Rule_lacks => k_is)
    (case h_Never_bars => exact ⟨by k_is, by k_is, by k_is⟩)
    (case lF_Never_bars => k_is)
    (case cF_Never_bars => k_is)
    (case kF_Never_bars => k_is)
    (case h_Apart_parts_in_turn => exact ⟨by k_is, by k_is, by k_is⟩)
    (case lF_Apart_parts_in_turn => k_is)
    (case cF_Apart_parts_in_turn => k_is)
    (case kF_Apart_parts_in_turn => k_is)
    (case h_Apart_parts_them => exact ⟨by k_is, by k_is, by k_is⟩)
    (case lF_Apart_parts_them => k_is)
    (case cF_Apart_parts_them => k_is)
    (case kF_Apart_parts_them => k_is)
    (case h_Tie_lacks => exact ⟨by k_is, by k_is, by k_is⟩)
    (case lF_Tie_lacks => k_is)
    (case cF_Tie_lacks => k_is)
    (case kF_Tie_lacks => k_is)
    (case yAA => k_is)
    (case yAD => k_is)
    (case zRV => k_is)
    (case zRU => k_is)
    (case gR => k_is)
    (case zZY => k_is)
    (case yF => k_is)
    (case kN => k_is)
    (case zRX => k_is)
    (case yAE => k_is)
    (case yI => k_is)
    (case zIT => k_is)
    (case zOD => k_is)
    (case yL => k_is)
