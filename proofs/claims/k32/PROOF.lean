import PyProof.Rows.All
import Wide.All
import OpenK.AllK
import Wide.FinOn
import Lean
import PyProof.EqAt
import PyProof.EqKinds
import PyProof.TupleCall
import PySem.Challenge.RW_mendsure_k32_all_answers
set_option Elab.async false
set_option linter.all false
set_option hygiene false
set_option compiler.extract_closed false
set_option maxRecDepth 100000
noncomputable section
open List (all_map all_toArray cons_lt_cons_iff drop_zero ext_getElem? filterMap_cons filterMap_cons_some filterMap_map find?_cons flatMap_cons flatten_cons forIn_cons forIn_nil forIn_toArray getElem?_append_left getElem?_append_right getElem?_cons_succ getElem?_eq_none getElem?_map getElem?_of_mem getElem?_set_ne getElem?_set_self getElem_inj getElem_mem length_filterMap_le length_range length_zip lookup_cons map_congr_left mem_append_left mem_filterMap mem_flatMap mem_map_of_mem mem_of_getElem? mem_range nodup_append nodup_cons nodup_nil of_mem_zip pairwise_map replicate_succ reverse_cons set_append_left set_append_right set_cons_succ take_length take_of_length_le zipIdx_cons zipIdx_nil zip_cons_cons zip_nil_left)
open Nat (add_assoc le_of_eq le_of_lt le_succ lt_irrefl lt_of_le_of_lt lt_trans min_eq_left min_eq_right mul_le_mul sub_self zero_le)
def q9{n:Nat}:n<=n:=Nat.le_refl n
def xF0:¬(false=true):=Bool.false_ne_true

abbrev dF0:=@decide_eq_false
abbrev dT0:=@decide_eq_true
abbrev iP:=@if_pos
abbrev iN:=@if_neg
abbrev mC:=@List.mem_cons
abbrev lC:=@List.length_cons
abbrev mO:=@List.mem_cons_of_mem
abbrev lM:=@List.length_map
abbrev nM:=@List.not_mem_nil
abbrev mS:=@List.mem_singleton
abbrev mF0:=@List.mem_cons_self
abbrev fT:=@Bool.false_eq_true
abbrev sA:=@List.size_toArray
abbrev lS:=@List.length_singleton
abbrev eL:=@Int.emod_lt_of_pos
abbrev eN:=@Int.emod_nonneg
abbrev aE:=@Bool.and_eq_true
abbrev iF:=@if_false
abbrev aN:=@List.append_nil
abbrev lA:=@List.length_append
abbrev gS:=@List.getElem?_eq_some_iff
abbrev gE:=@List.getElem?_eq_getElem
abbrev wB:=@PySem.wpAny_bind
abbrev wP:=@PySem.wpAny_pure
abbrev hP0:=@PySem.Heap.get?_push_of_some
abbrev mM:=@List.mem_map
abbrev lT:=@List.length_take
abbrev aA:=@List.append_assoc
abbrev VP:=PySem.Value->PySem.Shared->Prop
abbrev Yj:=PySem.W.Frag
abbrev Yi:=List PySem.Expr
abbrev Yh:=Option Int
abbrev Yg:=List Bool
abbrev Ye:=List (PySem.Addr×PySem.Obj)
abbrev Yc:=PySem.Str->Option PySem.Value
abbrev Yb:=List PySem.Str
abbrev Ya:=List PySem.Addr
abbrev Xk:=Array PySem.Value
abbrev Xj:=List PySem.Value
abbrev Xi:=List Int
abbrev Tk:=List (Int×Int)
abbrev Db:=List Nat
abbrev Ch:=List (List Nat)
local macro_rules
 |`(#[0])=>`(by omega)
namespace L2
open PySem PySem.Spec PyProof.Rows
abbrev Key:=Sum Int Str
def mI:Key->Value->Bool
 |.inl k,v=>Value.isInt k v
 |.inr x,v=>Value.isStrOf x v
def Sv(w:World):Key->Int
 |.inl k=>hashInt k
 |.inr x=>hashStr w x
def yC: ∀{k:Key}{v:Value},mI k v=true->(∃i t,k=Sum.inl i/\v=Value.int i t)\/(∃x t,k=Sum.inr x/\v=Value.str x t)
 |.inl i,v,h=>by obtain⟨t,e⟩:=Value.isInt_shape (k:=i) (v:=v) h;exact .inl ⟨i,t,rfl,e⟩
 |.inr x,v,h=>by obtain⟨t,e⟩:=Value.isStrOf_shape (x:=x) (v:=v) h;exact .inr ⟨x,t,rfl,e⟩
def UR(i:Int)(t:Tok):mI (.inl i) (.int i t)=true:=by simp[mI,Value.isInt]
def US(x:Str)(t:Tok):mI (.inr x) (.str x t)=true:=by simp[mI,Value.isStrOf]
def Lh(a b:Int):decide ((Sum.inl a:Key)=Sum.inl b)=(a==b):=by
 by_cases e:a=b
 .subst e;simp
 .have h: ¬(Sum.inl a:Key)=Sum.inl b:=λq=>e (Sum.inl.inj q);rw[dF0 h];exact(beq_eq_false_iff_ne.mpr e).symm
def Li(a b:Str):decide ((Sum.inr a:Key)=Sum.inr b)=decide (a=b):=by
 by_cases e:a=b
 .subst e;simp
 .have h: ¬(Sum.inr a:Key)=Sum.inr b:=λq=>e (Sum.inr.inj q);rw[dF0 h,dF0 e]
def Lj(a:Int)(b:Str):decide ((Sum.inl a:Key)=Sum.inr b)=false:=dF0 (λq=>nomatch q)
def Lk(a:Str)(b:Int):decide ((Sum.inr a:Key)=Sum.inl b)=false:=dF0 (λq=>nomatch q)
def yP(prog:Program)(w:World):PySem.KeyKind prog w Key where
 is:=mI
 hash:=Sv w
 inj:=λv a b ha hb=>by
  rcases yC ha with⟨i,t,rfl,rfl⟩|⟨x,t,rfl,rfl⟩
  .rcases yC hb with⟨j,u,rfl,e⟩|⟨y,u,rfl,e⟩
   .injection e with e1 _;rw[e1]
   .exact nomatch e
  .rcases yC hb with⟨j,u,rfl,e⟩|⟨y,u,rfl,e⟩
   .exact nomatch e
   .injection e with e1 _;rw[e1]
 byValue:=λk v h=>by rcases yC h with⟨i,t,rfl,rfl⟩|⟨x,t,rfl,rfl⟩<;>rfl
 pyHash:=λhv h=>by
  rcases yC hv with⟨i,t,rfl,rfl⟩|⟨x,t,rfl,rfl⟩
  .exact wpAny_pyHash_int h
  .exact wpAny_pyHash_str h
 eqBool:=λhu hv h=>by
  rcases yC hu with⟨i,t,rfl,rfl⟩|⟨x,t,rfl,rfl⟩
  .rcases yC hv with⟨j,u,rfl,rfl⟩|⟨y,u,rfl,rfl⟩
   .rw[Lh]at h;exact wpAny_eqBool_int h
   .rw[Lj]at h;exact SeqAt.EqAt.int_str i t y u _ _ _ _ h
  .rcases yC hv with⟨j,u,rfl,rfl⟩|⟨y,u,rfl,rfl⟩
   .rw[Lk]at h;exact SeqAt.EqAt.str_int x t j u _ _ _ _ h
   .rw[Li]at h;exact wpAny_eqBool_str h
 «strs»:=λk x t v h=>by
  rcases yC h with⟨i,u,rfl,e⟩|⟨y,u,rfl,e⟩
  .exact nomatch e
  .injection e with e1 _
   subst e1;cases v<;>rfl
def AB(prog:Program)(w:World)(i:Int)(t:Tok):(yP prog w).is (.inl i) (.int i t)=true:=UR i t
def pR(prog:Program)(w:World)(x:Str)(t:Tok):(yP prog w).is (.inr x) (.str x t)=true:=US x t
inductive V where
 |non|bl (b:Bool)|int (i:Int)|str (x:Str)|byt (b:Array UInt8)|flt (b:UInt64)|ref (a:Addr)|ty (n:String)
 deriving DecidableEq
def RelV:V->Value->Prop
 |.non,u=>u=Value.none
 |.bl b,u=>u=Value.bool b
 |.int i,u=> ∃t,u=Value.int i t
 |.str x,u=> ∃t,u=Value.str x t
 |.byt b,u=> ∃t,u=Value.bytes b t
 |.flt b,u=> ∃t,u=Value.float b t
 |.ref a,u=>u=Value.ref a
 |.ty n,u=>u=Value.type n
abbrev Vals:List V->List Value->Prop:=Paired RelV
def Vals.length{xs:List V}{us:Xj}(r:Vals xs us):xs.length=us.length:=Paired.length r
theorem Vals.get: ∀{xs:List V}{us:Xj}{i:Nat}{x:V},Vals xs us->xs[i]? =some x-> ∃u,us[i]? =some u/\RelV x u
 |_,_,_,_,.nil,e=>by simp at e
 |_,_,0,_,.cons r _,e=>by simp at e;subst e;exact⟨_,rfl,r⟩
 |_,_,i+1,x,.cons _ t,e=>by obtain⟨u,h1,h2⟩:=Vals.get (i:=i) (x:=x) t (by simpa using e);exact⟨u,by simpa using h1,h2⟩
theorem Vals.set{x:V}{u:Value}(r:RelV x u): ∀{xs:List V}{us:Xj}(i:Nat),Vals xs us->Vals (xs.set i x) (us.set i u)
 |_,_,_,.nil=>.nil
 |_,_,0,.cons _ t=>.cons r t
 |_,_,i+1,.cons q t=>.cons q (Vals.set r i t)
theorem Vals.append: ∀{xs ys:List V}{us ws:Xj},Vals xs us->Vals ys ws->Vals (xs++ys) (us++ws)
 |_,_,_,_,.nil,s=>s
 |_,_,_,_,.cons r t,s=>.cons r (Vals.append t s)
theorem Vals.take: ∀{xs:List V}{us:Xj}(n:Nat),Vals xs us->Vals (xs.take n) (us.take n)
 |_,_,0,_=>.nil
 |_,_,_+1,.nil=>.nil
 |_,_,n+1,.cons r t=>.cons r (Vals.take n t)
theorem Vals.drop: ∀{xs:List V}{us:Xj}(n:Nat),Vals xs us->Vals (xs.drop n) (us.drop n)
 |_,_,0,r=>r
 |_,_,_+1,.nil=>.nil
 |_,_,n+1,.cons _ t=>Vals.drop n t
def Vals.none_of: ∀{xs:List V}{us:Xj}{i:Nat},Vals xs us->xs[i]? =none->us[i]? =none:=λ{xs us i} r e=>by have h1:=r.length;have h2:xs.length<=i:=List.getElem?_eq_none_iff.mp e;exact List.getElem?_eq_none_iff.mpr #[0]
def Sw:Option V->Option Value->Prop
 |some v,some u=>RelV v u
 |none,none=>True
 |_,_=>False
def KV{κ:Type}:List (κ×V)->List (κ×Value)->Prop:=Paired λ(p:κ×V) (q:κ×Value)=>p.1=q.1/\RelV p.2 q.2
def kV:Key->V
 |.inl i=>.int i
 |.inr x=>.str x
inductive HO where
 |lst (xs:List V)
 |tup (xs:List V)
 |dK (kvs:List (Key×V))|dT (kvs:List (List Key×V))
 |set (S:Int->Bool) (n:Nat)
 |ins (C dx:Addr) (fs:List (Str×V))
 |own (x:Addr)
 |xd (fs:List (Str×V))
 |met (f x:Addr)
 |rng (lo hi:Int)
 |frz (o:Obj) (u:HO)
 |tbl (ps:Xk)
 |ext (φ:Heap->Prop)
abbrev Hp:=Addr->Option HO
def xH(H:Hp)(a:Addr)(o:HO):Hp:=λb=>if b=a then some o else H b
def zS{H:Hp}{a:Addr}{o:HO}:xH H a o a=some o:=by unfold xH;rw[iP rfl]
def zH{H:Hp}{a b:Addr}{o:HO}(h:b≠a):xH H a o b=H b:=by unfold xH;rw[iN h]
def zP{H:Hp}{a b:Addr}{o:HO}(h:H a=some o)(h':H b=none):a≠b:=by intro e;subst e;rw[h]at h';cases h'
section
variable(P:Program)(w:World)
def ObjOk(H:Hp)(h:Heap)(a:Addr):HO->Prop
 |.lst xs=>xs.length<=sizeLine/\ ∃(its:Xj)(n:Nat),Vals xs its/\h.get? a=some {cls:=.type "list",data:=.seq its.toArray n}
 |.tup xs=>xs.length<=sizeLine/\ ∃its:List Value,Vals xs its/\IsTup h a its.toArray
 |.dK kvs=>kvs.length<=sizeLine/\(a==sysModules)=false/\ ∃vs,KV kvs vs/\h.DictOf (yP P w) a vs
 |.dT kvs=>kvs.length<=sizeLine/\(a==sysModules)=false/\ ∃xs:List (List Key×Addr×Value),
   Paired (λ(p:List Key×V) (q:List Key×Addr×Value)=>p.1=q.1/\H q.2.1=some (.tup (p.1.map kV))/\RelV p.2 q.2.2) kvs xs/\
   ∃o es ep,h.get? a=some o/\o.ExactDict/\o.data=.dict es ep/\es.toList=xs.map (entryOfKey (tupleKind (yP P w)))/\(xs.map (·.1)).Nodup
 |.set S n=>h.SetOf (intKind P w) a S n
 |.ins C dx fs=>H dx=some (.own a)/\fs.length<=1000/\dx≠a/\h.get? a=some (PySem.W.instObj C dx)/\
   ∃mA,h.Ns1 dx mA/\(∀f,Sw (fs.lookup f) (mA f))/\PySem.Within mA (fs.map (·.1))
 |.own _=> ∃o,h.get? a=some o
 |.xd fs=> ∃mA,h.Ns1 a mA/\ ∀f,Sw (fs.lookup f) (mA f)
 |.rng lo hi=> ∃t u v,h.get? a=some {cls:=.type "range",data:=.fields #[.int lo t,.int hi u,.int 1 v]}
 |.frz o u=>h.get? a=some o/\ObjOk H h a u
 |.tbl ps=>h.get? a=some {cls:=.none,data:=.fields ps}
 |.met f x=>h.get? a=some (PySem.W.methodObj (.ref f) (.ref x))
 |.ext φ=>φ h/\(∃o,h.get? a=some o)/\ ∀h1 h2:Heap,φ h1->(∀o,h1.get? a=some o->h2.get? a=some o)->φ h2
def HOk(H:Hp)(h:Heap):Prop:= ∀a o,H a=some o->ObjOk P w H h a o
end
section
variable{P:Program}{w:World}{H H':Hp}{h h':Heap}{a:Addr}{o:HO}
def ObjOk.lt(x:ObjOk P w H h a o):a<h.objs.size:=by
 cases o with
 |lst xs=>obtain⟨_,_,_,_,e⟩:=x;exact Heap.lt_size e
 |tup xs=>obtain⟨_,_,_,p⟩:=x;exact p.lt
 |dK kvs=>obtain⟨_,_,_,_,o,_,_,e,_⟩:=x;exact Heap.lt_size e
 |dT kvs=>obtain⟨_,_,_,_,o,_,_,e,_⟩:=x;exact Heap.lt_size e
 |set S n=>obtain⟨o,_,_,_,e,_⟩:=x;exact Heap.lt_size e
 |ins C dx fs=>obtain⟨_,_,_,e,_⟩:=x;exact Heap.lt_size e
 |own y=>obtain⟨_,e⟩:=x;exact Heap.lt_size e
 |xd fs=>obtain⟨_,⟨_,_,_,e,_⟩,_⟩:=x;exact Heap.lt_size e
 |rng lo hi=>obtain⟨_,_,_,e⟩:=x;exact Heap.lt_size e
 |frz ob u=>obtain⟨e,_⟩:=x;exact Heap.lt_size e
 |tbl ps=>exact Heap.lt_size (show h.get? a=some _ from x)
 |met f y=>exact Heap.lt_size (show h.get? a=some _ from x)
 |ext φ=>obtain⟨_,⟨_,e⟩,_⟩:=x;exact Heap.lt_size e
theorem Paired.mapP{α β:Type}{F G:α->β->Prop}: ∀{l₁:List α}{l₂:List β},Paired F l₁ l₂->(∀a b,F a b->G a b)->Paired G l₁ l₂
 |_,_,.nil,_=>.nil
 |_,_,.cons r t,f=>.cons (f _ _ r) (Paired.mapP t f)
def ObjOk.stay(x:ObjOk P w H h a o)(k: ∀b u,(b=a\/H b=some (.own a))->h.get? b=some u->h'.get? b=some u)
  (ho: ∀b,H b=some (.own a)->H' b=some (.own a)) (ht: ∀b xs,H b=some (.tup xs)->H' b=some (.tup xs)):ObjOk P w H' h' a o:=by
 induction o with
 |lst xs=>obtain⟨z,its,n,r,e⟩:=x;exact⟨z,its,n,r,k _ _ (.inl rfl) e⟩
 |tup xs=>obtain⟨z,its,r,ob,e,c⟩:=x;exact⟨z,its,r,ob,k _ _ (.inl rfl) e,c⟩
 |dK kvs=>obtain⟨z,y,vs,r,ob,es,ep,e,c⟩:=x;exact⟨z,y,vs,r,ob,es,ep,k _ _ (.inl rfl) e,c⟩
 |dT kvs=>
  obtain⟨z,y,xs,r,ob,es,ep,e,c⟩:=x;exact⟨z,y,xs,Paired.mapP r λp q z=>⟨z.1,ht _ _ z.2.1,z.2.2⟩,ob,es,ep,k _ _ (.inl rfl) e,c⟩
 |set S n=>obtain⟨ob,es,ep,t,e,c⟩:=x;exact⟨ob,es,ep,t,k _ _ (.inl rfl) e,c⟩
 |ins C dx fs=>
  obtain⟨d,z,ne,e,mA,⟨od,es,ep,e2,c⟩,r⟩:=x;exact⟨ho _ d,z,ne,k _ _ (.inl rfl) e,mA,⟨od,es,ep,k _ _ (.inr d) e2,c⟩,r⟩
 |own y=>obtain⟨ob,e⟩:=x;exact⟨ob,k _ _ (.inl rfl) e⟩
 |xd fs=>obtain⟨mA,⟨od,es,ep,e,c⟩,r⟩:=x;exact⟨mA,⟨od,es,ep,k _ _ (.inl rfl) e,c⟩,r⟩
 |rng lo hi=>obtain⟨t,u,v,e⟩:=x;exact⟨t,u,v,k _ _ (.inl rfl) e⟩
 |frz ob u ih=>obtain⟨e,q⟩:=x;exact⟨k _ _ (.inl rfl) e,ih q⟩
 |tbl ps=>
  have e:h.get? a=some {cls:=.none,data:=.fields ps}:=x;show h'.get? a=some {cls:=.none,data:=.fields ps};exact k a _ (.inl rfl) e
 |met f y=>
  have e:h.get? a=some (PySem.W.methodObj (.ref f) (.ref y)):=x;show h'.get? a=some (PySem.W.methodObj (.ref f) (.ref y));exact k a _ (.inl rfl) e
 |ext φ=>obtain⟨p,⟨o,e⟩,st⟩:=x;exact⟨st _ _ p λo q=>k _ _ (.inl rfl) q,⟨o,k _ _ (.inl rfl) e⟩,st⟩
def HOk.lt(x:HOk P w H h)(e:H a=some o):a<h.objs.size:=(x a o e).lt
def HOk.fresh(x:HOk P w H h)(e:h.objs.size<=a):H a=none:=by
 cases q:H a with
 |none=>rfl
 |some u=>exact absurd (Nat.lt_of_lt_of_le (x.lt q) e) (lt_irrefl _)
def HOk.kept(x:HOk P w H h)(k: ∀b u,h.get? b=some u->h'.get? b=some u):HOk P w H h':=λa o e=>
 (x a o e).stay (λb u _ q=>k b u q) (λ_ q=>q) λ_ _ q=>q
def HOk.laid(x:HOk P w H h)(k: ∀b u,h.get? b=some u->h'.get? b=some u)(hp:h.objs.size<=a)(new:ObjOk P w (xH H a o) h' a o):HOk P w (xH H a o) h':=λb u e=>by
 have hn:=x.fresh hp;by_cases hb:b=a
 .subst hb;rw[zS]at e;cases e;exact new
 .rw[zH hb]at e;exact(x b u e).stay (λc v _ q=>k c v q) (λc q=>by rw[zH (zP q hn)];exact q) λc xs q=>by rw[zH (zP q hn)];exact q
end
def Rd(H:Hp)(a:Addr)(u:HO):Prop:=H a=some u\/ ∃o,H a=some (.frz o u)
def Rd.ok{P:Program}{w:World}{H:Hp}{h:Heap}{a:Addr}{u:HO}(r:Rd H a u)(x:HOk P w H h):ObjOk P w H h a u:=by
 rcases r with r|⟨o,r⟩
 .exact x a u r
 .obtain⟨_,q⟩:=x a _ r;exact q
def Ll:Option HO->Prop
 |some (.lst _)=>True
 |some (.dK _)=>True
 |some (.dT _)=>True
 |some (.set _ _)=>True
 |some (.ins _ _ _)=>True
 |some (.ext _)=>True
 |_=>False
section
variable{P:Program}{w:World}{H:Hp}{h h':Heap}{x e:Addr}{o':HO}
theorem HOk.write(ok:HOk P w H h)(mu:Ll (H x))(he:e=x\/H e=some (.own x))(k: ∀b u,b≠e->h.get? b=some u->h'.get? b=some u)(heo: ∃u,h'.get? e=some u)
  (new:ObjOk P w (xH H x o') h' x o'):HOk P w (xH H x o') h':=λb u q=>by
 have nown: ∀c y,H c=some (.own y)->c≠x:=λc y r z=>by subst z;rw[r]at mu;exact mu
 have ntup: ∀c xs,H c=some (.tup xs)->c≠x:=λc xs r z=>by subst z;rw[r]at mu;exact mu
 by_cases hb:b=x
 .subst hb;rw[zS]at q;cases q;exact new
 .rw[zH hb]at q;by_cases hbe:b=e
  .have q':H b=some (.own x):=by
    rcases he with z|z
    .exact absurd (hbe.trans z) hb
    .rw[hbe];exact z
   rw[q]at q';cases q';obtain⟨v,hv⟩:=heo;exact⟨v,by rw[hbe];exact hv⟩
  .refine(ok b u q).stay (λc v hc r=>k c v ?_ r) (λc r=>by rw[zH (nown c b r)];exact r) λc xs r=>by rw[zH (ntup c xs r)];exact r
   rcases hc with rfl|hc
   .exact hbe
   .rintro rfl;rcases he with z|z
    .exact nown c b hc z
    .rw[hc]at z;cases z;exact hb rfl
end
structure Un(fs ex:Ya)(H H':Hp)(h h':Heap):Prop where
 keep: ∀b o,h.get? b=some o->H b=none->b∉fs->b∉ex->h'.get? b=some o
 slot: ∀b o,h.get? b=some o->H b=none->b∈fs->b∉ex-> ∃sl,h'.get? b=some {o with slots:=sl}
 free: ∀b o,h.get? b=some o->H b=none->b∉ex->H' b=none
 there: ∀b o,h.get? b=some o->b∉ex-> ∃o',h'.get? b=some o'
 tups: ∀b xs,H b=some (.tup xs)->H' b=some (.tup xs)
 frzs: ∀b o u,H b=some (.frz o u)->H' b=some (.frz o u)
 tbls: ∀b ps,H b=some (.tbl ps)-> ∃more,H' b=some (.tbl (ps++more))
section
variable{fs ex:Ya}{H H1:Hp}{h h1 h':Heap}{a x e:Addr}{o:HO}
def Un.any(u:Un fs ex H H1 h h1){b:Addr}{ob:Obj}(q:h.get? b=some ob)(n:H b=none)(hx:b∉ex): ∃sl,h1.get? b=some {ob with slots:=sl}:=by
 by_cases hb:b∈fs
 .exact u.slot b ob q n hb hx
 .exact⟨ob.slots,u.keep b ob q n hb hx⟩
def Un.kept(k: ∀b u,h.get? b=some u->h'.get? b=some u):Un fs ex H H h h':=
 ⟨λb ob q _ _ _=>k b ob q,λb ob q _ _ _=>⟨ob.slots,k b ob q⟩,λ_ _ _ n _=>n,λb ob q _=>⟨ob,k b ob q⟩,λ_ _ q=>q,λ_ _ _ q=>q,λ_ ps q=>⟨#[],by rw[q];simp⟩⟩
def Un.refl:Un fs ex H H h h:=Un.kept λ_ _ q=>q
def Un.laid(k: ∀b u,h.get? b=some u->h'.get? b=some u)(hp:h.objs.size<=a)(hn:H a=none):Un fs ex H (xH H a o) h h' where
 keep:=λb u q _ _ _=>k b u q
 slot:=λb u q _ _ _=>⟨u.slots,k b u q⟩
 free:=λb u q n _=>by rw[zH (Nat.ne_of_lt (Nat.lt_of_lt_of_le (Heap.lt_size q) hp))];exact n
 there:=λb u q _=>⟨u,k b u q⟩
 tups:=λb xs q=>by rw[zH (zP q hn)];exact q
 frzs:=λb u xs q=>by rw[zH (zP q hn)];exact q
 tbls:=λb ps q=>⟨#[],by rw[zH (zP q hn),q];simp⟩
def Un.write(mu:Ll (H x))(he:e=x\/H e=some (.own x))(k: ∀b u,b≠e->h.get? b=some u->h'.get? b=some u)(heo: ∃u,h'.get? e=some u):Un fs ex H (xH H x o) h h':=by
 have hx: ∀b,H b=none->b≠x:=λb n z=>by subst z;rw[n]at mu;exact mu
 have hb: ∀b,H b=none->b≠e:=λb n z=>by
  subst z;rcases he with r|r
  .exact hx b n r
  .rw[n]at r;cases r
 have hm: ∀b u,H b=some u-> ¬Ll (some u)->b≠x:=λb u q nm z=>by subst z;rw[q]at mu;exact nm mu
 refine⟨λb u q n _ _=>k b u (hb b n) q,λb u q n _ _=>⟨u.slots,k b u (hb b n) q⟩,λb u q n _=>by rw[zH (hx b n)];exact n,λb u q _=>?_,
  λb xs q=>by rw[zH (hm b _ q λz=>z)];exact q,λb u xs q=>by rw[zH (hm b _ q λz=>z)];exact q,λb ps q=>⟨#[],by rw[zH (hm b _ q λz=>z),q];simp⟩⟩
 by_cases hbe:b=e
 .subst hbe;exact heo
 .exact⟨u,k b u hbe q⟩
end
def Wy(h:Heap)(H:Hp):List Addr:=(List.range h.objs.size).filter λa=>(H a).isSome
def II(h:Heap)(H:Hp):Heap:=PySem.W.hideAll h (Wy h H)
def UT(h:Heap)(H:Hp):(II h H).objs.size=h.objs.size:=PySem.W.hideAll_size _ _
def XN{h:Heap}{H:Hp}{b:Addr}{o:Obj}(e:h.get? b=some o)(n:H b=none):(II h H).get? b=some o:=
 PySem.W.hideAll_get _ e λhm=>by have q:(H b).isSome=true:=(List.mem_filter.mp hm).2;rw[n]at q;simp at q
def Dp{h:Heap}{H:Hp}{b:Addr}{o:Obj}(e:(II h H).get? b=some o):h.get? b=some o/\H b=none:=by
 have e':h.get? b=some o:=PySem.W.of_hideAll (Wy h H) e;refine⟨e',?_⟩
 cases q:H b with
 |none=>rfl
 |some x=>
  have hm:b∈Wy h H:=List.mem_filter.mpr ⟨mem_range.mpr (Heap.lt_size e'),by simp[q]⟩;have z:(II h H).get? b=none:=PySem.W.hideAll_none (Wy h H) hm;rw[z]at e;cases e
def Dq(g h:Heap)(L:Addr):List (Addr×Obj):=(List.range h.objs.size).filterMap λa=>if a=L\/(g.get? a).isSome=true then none else(h.get? a).map λo=>(a,o)
def rest(g h:Heap)(L d:Addr):List (Addr×Obj):=(Dq g h L).filter λp=>decide (p.1≠d)
structure Mod(K:Yj)(mg:Yc)(base:Heap):Prop where
 kin:K.In base
 glob:base.Ns mainGlobals mg
 blt: ∃mb,base.Ns builtinsNs mb/\ ∀x:Str,x≠"__name__"->mb x=bootBuiltins x
 nolimit:base.NoLimit
structure Cx where
 prog:Program
 w:World
 K:PySem.W.Frag
 mg:Str->Option Value
 base:Heap
 A:Around
 N:List Str
 s₀:Shared
 H₀:Hp
 env:Env
 outer:List Env
 stack:List Env
 ex:List Addr
 fn:Str->Bool
 calm:Bool
 pn:List (Addr×Obj)
 xe:VP
def RT(l:List Env):List Addr:=l.filterMap (·.frame)
abbrev Cx.fs(X:Cx):List Addr:=RT X.outer
def Sx(sc:Scope)(x:Str):Prop:=sc.names.lookup x=some .local\/sc.names.lookup x=some .cell\/sc.names.lookup x=some .free
def Loc(sc:Scope)(x:Str):Prop:=sc.names.lookup x=some .local\/sc.names.lookup x=some .cell
def Look(env:Env)(h:Heap)(m:Yc)(x:Str)(u:Value):Prop:=
 (env.kindOf x=some .local/\m x=some u)\/((env.kindOf x=some .cell\/env.kindOf x=some .free)/\ ∃c,env.cells.lookup x=some c/\h.IsCell c (some u))
structure Cx.Ok(X:Cx):Prop where
 mod:Mod X.K X.mg X.base
 kind:X.env.scope.kind=.function
 glob:X.env.globals=mainGlobals
 blt:X.env.builtins=builtinsNs
 above:X.s₀.heap.objs.size<=X.env.locals
 inj: ∀x y c,X.env.cells.lookup x=some c->X.env.cells.lookup y=some c->x=y
 has: ∀x,(X.env.kindOf x=some .cell\/X.env.kindOf x=some .free)-> ∃c,X.env.cells.lookup x=some c
 cab: ∀x c,X.fn x=true->X.env.cells.lookup x=some c->X.s₀.heap.objs.size<=c
 hd:X.calm=true->X.A.handled=none
 frames:X.A.frames=some X.stack
 stk:X.stack=X.outer\/(X.stack=X.env::X.outer/\X.env.frame=some X.env.locals)
 exf: ∀b∈X.ex,b≠X.env.locals/\ ∀x c,X.env.cells.lookup x=some c->c≠b
 bs: ∀b o,X.base.get? b=some o->X.s₀.heap.get? b=some o/\X.H₀ b=none
 bsz:X.base.objs.size<=X.s₀.heap.objs.size
 noex: ∀b o,X.base.get? b=some o->b∉X.ex
 exfs: ∀b∈X.ex,b∉X.fs
 funs:X.s₀.heap.FunFrames X.base X.outer
 frf: ∀b∈X.fs,X.H₀ b=none
structure Inv(X:Cx)(pins:Ye)(σ:List (Option V))(H:Hp)(s:Shared):Prop where
 ok:X.Ok
 os:s.os=X.s₀.os
 bare:AllBare s.gens
 base:Un X.fs X.ex X.H₀ H X.s₀.heap s.heap
 loc: ∃m,s.heap.Ns X.env.locals m/\ ∀(i:Nat)(x:Str)(v:V),X.N[i]? =some x->σ[i]? =some (some v)->Sx X.env.scope x-> ∃u,RelV v u/\Look X.env s.heap m x u
 cell: ∀x c,X.env.cells.lookup x=some c-> ∃v,s.heap.IsCell c v
 free:H X.env.locals=none
 freeC: ∀x c,X.env.cells.lookup x=some c->H c=none
 pin: ∀p∈X.pn++pins,s.heap.get? p.1=some p.2/\H p.1=none/\p.1≠X.env.locals/\p.1∉X.fs/\ ∀v,p.2.data≠.cell v
 hok:HOk X.prog X.w H s.heap
 len:σ.length=X.N.length
section
variable{X:Cx}{pins:Ye}{σ:List (Option V)}{H H':Hp}{s:Shared}{h':Heap}
def Cx.Ok.nofr(ok:X.Ok){b:Addr}{o:Obj}(e:X.base.get? b=some o):b∉X.fs:=λhb=>by have:=(ok.funs.mem hb).1;rw[e]at this;cases this
def Inv.bs(I:Inv X pins σ H s): ∀b o,X.base.get? b=some o->s.heap.get? b=some o/\H b=none:=λb o e=>
 ⟨I.base.keep b o (I.ok.bs b o e).1 (I.ok.bs b o e).2 (I.ok.nofr e) (I.ok.noex b o e),I.base.free b o (I.ok.bs b o e).1 (I.ok.bs b o e).2 (I.ok.noex b o e)⟩
def Inv.bk(I:Inv X pins σ H s): ∀b o,X.base.get? b=some o->s.heap.get? b=some o:=λb o e=>(I.bs b o e).1
def Inv.mod(I:Inv X pins σ H s):Mod X.K X.mg X.base:=I.ok.mod
def Inv.kIn(I:Inv X pins σ H s):X.K.In s.heap:=I.ok.mod.kin.keeps I.bk
def Inv.lt(I:Inv X pins σ H s):X.env.locals<s.heap.objs.size:=let ⟨_,hn,_⟩:=I.loc;hn.lt
def Inv.sz(I:Inv X pins σ H s):X.s₀.heap.objs.size<=s.heap.objs.size:=Nat.le_trans I.ok.above (le_of_lt I.lt)
def Inv.nofs(I:Inv X pins σ H s){a:Addr}(h:s.heap.objs.size<=a):a∉X.fs:=λhb=>by obtain⟨_,o,ho,_⟩:=I.ok.funs.mem hb;exact absurd (Nat.lt_of_lt_of_le (Heap.lt_size ho) (Nat.le_trans I.sz h)) (lt_irrefl _)
def Inv.cne(I:Inv X pins σ H s): ∀x c,X.env.cells.lookup x=some c->c≠X.env.locals:=λx c e z=>by obtain⟨v,o,ho,hd⟩:=I.cell x c e;obtain⟨m,⟨o',es,ep,ho',hd',_⟩,_⟩:=I.loc;rw[z,ho']at ho;cases ho;rw[hd']at hd;cases hd
def Inv.funs(I:Inv X pins σ H s):s.heap.FunFrames X.base X.outer:=by
 have all: ∀(l:List Env),(∀b∈RT l,b∈X.fs)->X.s₀.heap.FunFrames X.base l->s.heap.FunFrames X.base l:=by
  intro l
  induction l with
  |nil=>intro _ _;trivial
  |cons env r ih=>
   intro hs hl;obtain⟨hk,⟨L,o,hf,hn,ho,hd⟩,hr⟩:=hl;have hL:L∈X.fs:=hs L (by unfold RT;rw[filterMap_cons,hf];exact mF0);obtain⟨sl,e⟩:=I.base.slot L o ho (I.ok.frf L hL) hL λz=>I.ok.exfs L z hL;exact⟨hk,⟨L,_,hf,hn,e,hd⟩,ih (λb hb=>hs b (by unfold RT;rw[filterMap_cons,hf];exact mO _ hb)) hr⟩
 exact all X.outer (λ_ hb=>hb) I.ok.funs
def Inv.stack(I:Inv X pins σ H s):s.heap.FunFrames X.base X.stack:=by
 rcases I.ok.stk with e|⟨e,hf⟩
 .rw[e];exact I.funs
 .rw[e];obtain⟨m,hn,_⟩:=I.loc;refine .cons (by rw[I.ok.kind];decide) hf hn ?_ I.funs;exact Heap.get?_none_of_le (Nat.le_trans I.ok.bsz I.ok.above)
def Inv.stkSub(I:Inv X pins σ H s): ∀b∈RT X.stack,b∈X.env.locals::X.fs:=λb hb=>by
 rcases I.ok.stk with e|⟨e,hf⟩
 .rw[e]at hb;exact mO _ hb
 .rw[e]at hb;unfold RT at hb;rw[filterMap_cons,hf]at hb;exact hb
def Inv.stkFree(I:Inv X pins σ H s): ∀b∈RT X.stack,H b=none:=λb hb=>by
 rcases mC.mp (I.stkSub b hb)with e|hb
 .rw[e];exact I.free
 .obtain⟨_,o,ho,_⟩:=I.ok.funs.mem hb;exact I.base.free b o ho (I.ok.frf b hb) λz=>I.ok.exfs b z hb
def Inv.step{g':Array GenState}{t':Nat}{d':Drawn}{ch:Ya}(I:Inv X pins σ H s)
  (hch: ∀b∈ch,(b∈X.ex\/X.s₀.heap.objs.size<=b)/\b≠X.env.locals/\(∀x c,X.env.cells.lookup x=some c->c≠b)/\ ∀p∈X.pn++pins,p.1≠b)
  (keep: ∀b o,b≠X.env.locals->b∉X.fs->b∉ch->s.heap.get? b=some o->H b=none->h'.get? b=some o)
  (slot: ∀b o,b≠X.env.locals->b∈X.fs->b∉ch->s.heap.get? b=some o->H b=none-> ∃sl,h'.get? b=some {o with slots:=sl}) (free: ∀b o,b∉ch->s.heap.get? b=some o->H b=none->H' b=none)
  (there: ∀b o,b∉ch->s.heap.get? b=some o-> ∃o',h'.get? b=some o')
  (tups: ∀b xs,H b=some (.tup xs)->H' b=some (.tup xs)) (frzs: ∀b o u,H b=some (.frz o u)->H' b=some (.frz o u)) (tbls: ∀b ps,H b=some (.tbl ps)-> ∃more,H' b=some (.tbl (ps++more)))
  (ns: ∀m,s.heap.Ns X.env.locals m->h'.Ns X.env.locals m) (hok:HOk X.prog X.w H' h') (hg:AllBare g'):
  Inv X pins σ H' {s with heap:=h',gens:=g',drawn:=d',toks:=t'}:=by
 have neL: ∀b o,X.s₀.heap.get? b=some o->b≠X.env.locals:=λb o e=>Nat.ne_of_lt (Nat.lt_of_lt_of_le (Heap.lt_size e) I.ok.above)
 have neC: ∀b o,X.s₀.heap.get? b=some o->b∉X.ex->b∉ch:=λb o e hx hb=>by
  rcases (hch b hb).1 with z|z
  .exact hx z
  .exact absurd (Nat.lt_of_lt_of_le (Heap.lt_size e) z) (lt_irrefl _)
 have cellK: ∀x c,X.env.cells.lookup x=some c-> ∀v,s.heap.IsCell c v->h'.IsCell c v:=λx c e v ⟨o,ho,hd⟩=>by
  have nch:c∉ch:=λz=>(hch c z).2.2.1 x c e rfl;by_cases hc:c∈X.fs
  .obtain⟨sl,q⟩:=slot c o (I.cne x c e) hc nch ho (I.freeC x c e);exact⟨_,q,hd⟩
  .exact⟨o,keep c o (I.cne x c e) hc nch ho (I.freeC x c e),hd⟩
 refine⟨I.ok,I.os,hg,⟨λb o e n hb hx=>?_,λb o e n hb hx=>?_,λb o e n hx=>?_,λb o e hx=>?_,λb xs e=>tups b xs (I.base.tups b xs e),λb o xs e=>frzs b o xs (I.base.frzs b o xs e),λb ps e=>?_⟩,?_,λx c e=>?_,?_,λx c e=>?_,λp hp=>?_,hok,I.len⟩
 .exact keep b o (neL b o e) hb (neC b o e hx) (I.base.keep b o e n hb hx) (I.base.free b o e n hx)
 .obtain⟨sl,e1⟩:=I.base.slot b o e n hb hx;obtain⟨sl',e2⟩:=slot b _ (neL b o e) hb (neC b o e hx) e1 (I.base.free b o e n hx);exact⟨sl',e2⟩
 .obtain⟨o',e1⟩:=I.base.there b o e hx;exact free b o' (neC b o e hx) e1 (I.base.free b o e n hx)
 .obtain⟨o',e1⟩:=I.base.there b o e hx;exact there b o' (neC b o e hx) e1
 .obtain⟨m1,e1⟩:=I.base.tbls b ps e;obtain⟨m2,e2⟩:=tbls b _ e1;exact⟨m1++m2,by rw[e2,Array.append_assoc]⟩
 .obtain⟨m,hn,hl⟩:=I.loc;refine⟨m,ns m hn,λi x v e1 e2 e3=>?_⟩;obtain⟨u,r,l⟩:=hl i x v e1 e2 e3;refine⟨u,r,?_⟩;rcases l with l|⟨k,c,e,z⟩
  .exact .inl l
  .exact .inr ⟨k,c,e,cellK x c e _ z⟩
 .obtain⟨v,z⟩:=I.cell x c e;exact⟨v,cellK x c e v z⟩
 .obtain⟨m,⟨o,_,_,ho,_⟩,_⟩:=I.loc;exact free _ o (λz=>(hch _ z).2.1 rfl) ho I.free
 .obtain⟨v,o,ho,hd⟩:=I.cell x c e;exact free c o (λz=>(hch c z).2.2.1 x c e rfl) ho (I.freeC x c e)
 .obtain⟨e,n,ne,nf,d⟩:=I.pin p hp;have nch:p.1∉ch:=λz=>(hch p.1 z).2.2.2 p hp rfl;exact⟨keep p.1 p.2 ne nf nch e n,free p.1 p.2 nch e n,ne,nf,d⟩
def Inv.un{t':Nat}(I:Inv X pins σ H s)(u:Un X.fs [] H H' s.heap h')(hok:HOk X.prog X.w H' h'):Inv X pins σ H' {s with heap:=h',toks:=t'}:=by obtain⟨m,⟨o,es,ep,ho,r⟩,_⟩:=id I.loc;obtain⟨sl,hL⟩:=u.any ho I.free (by simp);exact I.step (g':=s.gens) (d':=s.drawn) (ch:=[]) (λ_ z=>nomatch z) (λb o _ hb _ e n=>u.keep b o e n hb (by simp)) (λb o _ hb _ e n=>u.slot b o e n hb (by simp)) (λb o _ e n=>u.free b o e n (by simp)) (λb o _ e=>u.there b o e (by simp)) u.tups u.frzs u.tbls (λm' hm=>by obtain⟨o',es',ep',ho',r'⟩:=hm;rw[ho]at ho';cases ho';exact⟨_,es',ep',hL,r'⟩) hok I.bare
def Inv.call{g':Array GenState}{t':Nat}{d':Drawn}{ch:Ya}(I:Inv X pins σ H s)(u:Un (RT X.stack) ch H H' s.heap h')(hok:HOk X.prog X.w H' h')(hg:AllBare g')
  (hch: ∀b∈ch,(b∈X.ex\/X.s₀.heap.objs.size<=b)/\b≠X.env.locals/\(∀x c,X.env.cells.lookup x=some c->c≠b)/\ ∀p∈X.pn++pins,p.1≠b):
  Inv X pins σ H' {s with heap:=h',gens:=g',drawn:=d',toks:=t'}:=by
 obtain⟨m,⟨o,es,ep,ho,r⟩,_⟩:=id I.loc;obtain⟨sl,hL⟩:=u.any ho I.free λz=>(hch _ z).2.1 rfl;exact I.step (ch:=ch) hch (λb o hL hb hc e n=>u.keep b o e n (λz=>(mC.mp (I.stkSub b z)).elim hL hb) hc) (λb o _ _ hc e n=>u.any e n hc) (λb o hc e n=>u.free b o e n hc) (λb o hc e=>u.there b o e hc) u.tups u.frzs u.tbls (λm' hm=>by obtain⟨o',es',ep',ho',r'⟩:=hm;rw[ho]at ho';cases ho';exact⟨_,es',ep',hL,r'⟩) hok hg
def Inv.turned{t':Nat}{it:Addr}(I:Inv X pins σ H s)(k: ∀b o,b≠it->s.heap.get? b=some o->h'.get? b=some o)(hn:H it=none)(hL:it≠X.env.locals)
  (h1:it∈X.ex\/X.s₀.heap.objs.size<=it) (h2: ∀x c,X.env.cells.lookup x=some c->c≠it) (h3: ∀p∈X.pn++pins,p.1≠it):Inv X pins σ H {s with heap:=h',toks:=t'}:=by
 have nit: ∀b u,H b=some u->b≠it:=λb u e z=>by rw[z,hn]at e;cases e
 refine I.step (g':=s.gens) (d':=s.drawn) (ch:=[it]) (λb hb=>?_) (λb o _ _ hc e _=>k b o (λz=>hc (by simp[z])) e) (λb o _ _ hc e _=>⟨o.slots,k b o (λz=>hc (by simp[z])) e⟩) (λ_ _ _ _ n=>n)
  (λb o hc e=>⟨o,k b o (λz=>hc (by simp[z])) e⟩) (λ_ _ e=>e) (λ_ _ _ e=>e) (λb ps e=>⟨#[],by rw[e];simp⟩) (λm hm=>?_) (λb u e=>?_) I.bare
 .have e:b=it:=by simpa using hb
  subst e;exact⟨h1,hL,h2,h3⟩
 .obtain⟨o,es,ep,ho,r⟩:=hm;exact⟨o,es,ep,k _ o (Ne.symm hL) ho,r⟩
 .refine(I.hok b u e).stay (λc v hc q=>k c v ?_ q) (λ_ q=>q) λ_ _ q=>q;rcases hc with z|z
  .rw[z];exact nit b u e
  .exact nit c _ z
def Inv.tok(I:Inv X pins σ H s)(t:Nat):Inv X pins σ H {s with toks:=t}:=I.un (h':=s.heap) (t':=t) Un.refl I.hok
def Inv.kept{t':Nat}(I:Inv X pins σ H s)(k: ∀b u,s.heap.get? b=some u->h'.get? b=some u):Inv X pins σ H {s with heap:=h',toks:=t'}:=I.un (Un.kept k) (I.hok.kept k)
def Inv.laid{a:Addr}{o:HO}{t':Nat}(I:Inv X pins σ H s)(k: ∀b u,s.heap.get? b=some u->h'.get? b=some u)(hp:s.heap.objs.size<=a)(new:ObjOk X.prog X.w (xH H a o) h' a o):
  Inv X pins σ (xH H a o) {s with heap:=h',toks:=t'}:=I.un (Un.laid k hp (I.hok.fresh hp)) (I.hok.laid k hp new)
def Inv.write{x e:Addr}{o:HO}{t':Nat}(I:Inv X pins σ H s)(mu:Ll (H x))(he:e=x\/H e=some (.own x))(k: ∀b u,b≠e->s.heap.get? b=some u->h'.get? b=some u)(heo: ∃u,h'.get? e=some u)
  (new:ObjOk X.prog X.w (xH H x o) h' x o):Inv X pins σ (xH H x o) {s with heap:=h',toks:=t'}:=I.un (Un.write mu he k heo) (I.hok.write mu he k heo new)
def Inv.pins_of{pins':Ye}(I:Inv X pins σ H s)(h: ∀p∈pins',s.heap.get? p.1=some p.2/\H p.1=none/\p.1≠X.env.locals/\p.1∉X.fs/\ ∀v,p.2.data≠.cell v):Inv X pins' σ H s:=
 ⟨I.ok,I.os,I.bare,I.base,I.loc,I.cell,I.free,I.freeC,λp hp=>(List.mem_append.mp hp).elim (λz=>I.pin p (mem_append_left _ z)) (h p),I.hok,I.len⟩
def LZ{N:Yb}(hN:N.Nodup){i j:Nat}{x:Str}(a:N[i]? =some x)(b:N[j]? =some x):i=j:=by obtain⟨h1,e1⟩:=gS.mp a;obtain⟨h2,e2⟩:=gS.mp b;exact(getElem_inj hN).mp (e1.trans e2.symm)
abbrev Q2(X:Cx)(x:Str):Prop:=X.fn x=true\/X.env.scope.names.lookup x=some .local
def GH{M:Model}{A:Around}{E:VP}{i:Nat}{x:Str}{v:V}{u:Value}{Q:Unit->Shared->Prop}(I:Inv X pins σ H s)(hN:X.N.Nodup)(hi:X.N[i]? =some x)(hx:Loc X.env.scope x)(r:RelV v u)
  (h: ∀s',Inv X pins (σ.set i (some v)) H s'->(∃a,Heap.SameBut a s.heap s'.heap/\(a=X.env.locals\/X.env.cells.lookup x=some a))->Q () s') (hf:Q2 X x:=by first |exact .inl rfl|exact .inr rfl|assumption):wpAny M A (storeName X.env x u) Q E s:=by
 obtain⟨m,hn,hl⟩:=id I.loc;have hcls:(X.env.scope.kind==.class || (X.env.scope.kind==.module&&X.env.locals !=X.env.globals))=false:=by rw[I.ok.kind];rfl
 have hiσ:i<σ.length:=by rw[I.len];exact(gS.mp hi).1
 have cne:=I.cne
 have tracked: ∀{a:Addr}{h':Heap},(∃o,s.heap.get? a=some o/\H a=none)->Heap.SameBut a s.heap h'->HOk X.prog X.w H h':=λ{a h'} ha hs b ob e=>by
  obtain⟨_,_,hfree⟩:=ha;refine(I.hok b ob e).stay (λc w' hc q=>(hs.2 c ?_).trans q) (λ_ q=>q) λ_ _ q=>q;rintro rfl;rcases hc with rfl|hc
  .rw[hfree]at e;cases e
  .rw[hfree]at hc;cases hc
 rcases hx with hk|hk
 .refine wpAny_storeName_local hk hn (λh' hn' hs=>?_) hcls;obtain⟨oL,_,_,hoL,_⟩:=id hn;refine h _ ⟨I.ok,I.os,I.bare,⟨λb o e n hb hx=>?_,λb o e n hb hx=>?_,I.base.free,λb o e hx=>?_,I.base.tups,I.base.frzs,I.base.tbls⟩,⟨_,hn',λj y v' e1 e2 e3=>?_⟩,λy c e=>?_,I.free,I.freeC,λp hp=>?_,tracked ⟨oL,hoL,I.free⟩ hs,by simpa using I.len⟩ ⟨_,hs,.inl rfl⟩
  .exact(hs.2 b (Nat.ne_of_lt (Nat.lt_of_lt_of_le (Heap.lt_size e) I.ok.above))).trans (I.base.keep b o e n hb hx)
  .obtain⟨sl,e1⟩:=I.base.slot b o e n hb hx;exact⟨sl,(hs.2 b (Nat.ne_of_lt (Nat.lt_of_lt_of_le (Heap.lt_size e) I.ok.above))).trans e1⟩
  .obtain⟨o',e1⟩:=I.base.there b o e hx;exact⟨o',(hs.2 b (Nat.ne_of_lt (Nat.lt_of_lt_of_le (Heap.lt_size e) I.ok.above))).trans e1⟩
  .by_cases hj:j=i
   .subst hj;rw[hi]at e1;cases e1;rw[getElem?_set_self hiσ]at e2;cases e2;exact⟨u,r,.inl ⟨hk,by simp⟩⟩
   .rw[getElem?_set_ne (Ne.symm hj)]at e2;obtain⟨u',r',q⟩:=hl j y v' e1 e2 e3;refine⟨u',r',?_⟩;rcases q with⟨k,e⟩|⟨k,c,e,z⟩
    .refine .inl ⟨k,?_⟩;have:y≠x:=λe=>hj (LZ hN e1 (e▸hi));simp[this,e]
    .exact .inr ⟨k,c,e,z.sameBut hs (cne y c e)⟩
  .obtain⟨w',z⟩:=I.cell y c e;exact⟨w',z.sameBut hs (cne y c e)⟩
  .obtain⟨e,n,ne,nf,d⟩:=I.pin p hp;exact⟨(hs.2 p.1 ne).trans e,n,ne,nf,d⟩
 .have hfn:X.fn x=true:=by
   rcases hf with z|z
   .exact z
   .rw[z]at hk;cases hk
  obtain⟨c,hc⟩:=I.ok.has x (.inl hk);obtain⟨w',z⟩:=I.cell x c hc;refine wpAny_storeName_cell I.ok.kind hk hc z (λh' hc' hs=>?_);obtain⟨oc,hoc,hocd⟩:=id z;refine h {s with heap:=h'} ⟨I.ok,I.os,I.bare,⟨λb o e n hb hx=>?_,λb o e n hb hx=>?_,I.base.free,λb o e hx=>?_,I.base.tups,I.base.frzs,I.base.tbls⟩,⟨m,hn.sameBut hs (Ne.symm (cne x c hc)),λj y v' e1 e2 e3=>?_⟩,λy c' e=>?_,I.free,I.freeC,λp hp=>?_,tracked ⟨oc,hoc,I.freeC x c hc⟩ hs,by simpa using I.len⟩ ⟨c,hs,.inr hc⟩
  .exact(hs.2 b (Nat.ne_of_lt (Nat.lt_of_lt_of_le (Heap.lt_size e) (I.ok.cab x c hfn hc)))).trans (I.base.keep b o e n hb hx)
  .obtain⟨sl,e1⟩:=I.base.slot b o e n hb hx;exact⟨sl,(hs.2 b (Nat.ne_of_lt (Nat.lt_of_lt_of_le (Heap.lt_size e) (I.ok.cab x c hfn hc)))).trans e1⟩
  .obtain⟨o',e1⟩:=I.base.there b o e hx;exact⟨o',(hs.2 b (Nat.ne_of_lt (Nat.lt_of_lt_of_le (Heap.lt_size e) (I.ok.cab x c hfn hc)))).trans e1⟩
  .by_cases hj:j=i
   .subst hj;rw[hi]at e1;cases e1;rw[getElem?_set_self hiσ]at e2;cases e2;exact⟨u,r,.inr ⟨.inl hk,c,hc,hc'⟩⟩
   .rw[getElem?_set_ne (Ne.symm hj)]at e2;obtain⟨u',r',q⟩:=hl j y v' e1 e2 e3;refine⟨u',r',?_⟩;rcases q with q|⟨k,c',e,z'⟩
    .exact .inl q
    .refine .inr ⟨k,c',e,z'.sameBut hs ?_⟩;rintro rfl;exact hj (LZ hN e1 (I.ok.inj _ _ _ e hc▸hi))
  .by_cases hcc:c'=c
   .subst hcc;exact⟨_,hc'⟩
   .obtain⟨w2,z2⟩:=I.cell y c' e;exact⟨w2,z2.sameBut hs hcc⟩
  .obtain⟨e,n,ne,nf,d⟩:=I.pin p hp;refine⟨(hs.2 p.1 ?_).trans e,n,ne,nf,d⟩;intro q;rw[q,hoc]at e;have q':oc=p.2:=Option.some.inj e;exact d w' (by rw[<-q'];exact hocd)
def MA{M:Model}{A:Around}{E:VP}{i:Nat}{x:Str}{v:V}{u:Value}{Q:Unit->Shared->Prop}(I:Inv X pins σ H s)(hN:X.N.Nodup)(hi:X.N[i]? =some x)(hx:Loc X.env.scope x)(r:RelV v u)
  (h: ∀s',Inv X pins (σ.set i (some v)) H s'->Q () s') (hf:Q2 X x:=by first |exact .inl rfl|exact .inr rfl|assumption):wpAny M A (storeName X.env x u) Q E s:=
 GH I hN hi hx r (λs' I' _=>h s' I') hf
def Inv.call'{s':Shared}{ch:Ya}(I:Inv X pins σ H s)(ho:s'.os=s.os)(u:Un (RT X.stack) ch H H' s.heap s'.heap)(hok:HOk X.prog X.w H' s'.heap)(hg:AllBare s'.gens)
  (hch: ∀b∈ch,(b∈X.ex\/X.s₀.heap.objs.size<=b)/\b≠X.env.locals/\(∀x c,X.env.cells.lookup x=some c->c≠b)/\ ∀p∈X.pn++pins,p.1≠b):Inv X pins σ H' s':=by
 obtain⟨h',g',d',t',o'⟩:=s';have e:o'=s.os:=ho;subst e;exact I.call (g':=g') (t':=t') (d':=d') u hok hg hch
end
abbrev XK:=Value->Option Addr->Hp->Prop
abbrev St:=List (Option V)
abbrev VK:=V->Hp->Prop
abbrev TE:=St->Hp->VK->Prop
abbrev TT:=St->Hp->(Bool->Hp->Prop)->Prop
abbrev TA:=St->Hp->(List V->Hp->Prop)->Prop
structure Ends where
 nx:St->Hp->Prop
 rt:VK
 bk:St->Hp->Prop:=λ_ _=>False
 ct:St->Hp->Prop:=λ_ _=>False
abbrev TS:=Ends->St->Hp->Prop
def EP(X:Cx)(pins:Ye)(σ:St)(Q:VK)(u:Value)(s':Shared):Prop:= ∃v H',Inv X pins σ H' s'/\RelV v u/\Q v H'
def TP(X:Cx)(pins:Ye)(σ:St)(Q:Bool->Hp->Prop)(b:Bool)(s':Shared):Prop:= ∃H',Inv X pins σ H' s'/\Q b H'
def AP(X:Cx)(pins:Ye)(σ:St)(Q:List V->Hp->Prop)(us:Xj)(s':Shared):Prop:= ∃vs H',Inv X pins σ H' s'/\Vals vs us/\Q vs H'
def SP(X:Cx)(pins:Ye)(D:Ends)(f:Flow)(s':Shared):Prop:=
 match f with
 |.next=> ∃σ' H',Inv X pins σ' H' s'/\D.nx σ' H'
 |.brk=> ∃σ' H',Inv X pins σ' H' s'/\D.bk σ' H'
 |.cont=> ∃σ' H',Inv X pins σ' H' s'/\D.ct σ' H'
 |.ret u=> ∃v σ' H',Inv X pins σ' H' s'/\RelV v u/\D.rt v H'
def PE(X:Cx)(e:Expr)(t:TE):Prop:=
 ∀(pins:Ye)(s:Shared)(σ:St)(H:Hp)(Q:VK),Inv X pins σ H s->t σ H Q->wpAny (model X.prog X.w) X.A (eval e X.env) (EP X pins σ Q) X.xe s
def PT(X:Cx)(e:Expr)(t:TT):Prop:=
 ∀(pins:Ye)(s:Shared)(σ:St)(H:Hp)(Q:Bool->Hp->Prop),Inv X pins σ H s->t σ H Q->wpAny (model X.prog X.w) X.A (isTrue e X.env (eval e X.env)) (TP X pins σ Q) X.xe s
def PW(X:Cx)(e:Expr)(t:TT):Prop:=
 ∀(whole:Sem Value)(pins:Ye)(s:Shared)(σ:St)(H:Hp)(Q:Bool->Hp->Prop),Inv X pins σ H s->t σ H Q->wpAny (model X.prog X.w) X.A (isTrue e X.env whole) (TP X pins σ Q) X.xe s
def PW.pt{X:Cx}{e:Expr}{t:TT}(h:PW X e t):PT X e t:=h _
def PA(X:Cx)(es:Yi)(t:TA):Prop:=
 ∀(pos:Pos)(pins:Ye)(s:Shared)(σ:St)(H:Hp)(Q:List V->Hp->Prop),Inv X pins σ H s->t σ H Q->wpAny (model X.prog X.w) X.A (spliced (backTo pos (starEach es X.env))) (AP X pins σ Q) X.xe s
def PS(X:Cx)(st:Stmt)(t:TS):Prop:=
 ∀(pins:Ye)(s:Shared)(σ:St)(H:Hp)(D:Ends),Inv X pins σ H s->t D σ H->wpAny (model X.prog X.w) X.A (exec st X.env) (SP X pins D) X.xe s
def PSs(X:Cx)(st:List Stmt)(t:TS):Prop:=
 ∀(pins:Ye)(s:Shared)(σ:St)(H:Hp)(D:Ends),Inv X pins σ H s->t D σ H->wpAny (model X.prog X.w) X.A (execs st X.env) (SP X pins D) X.xe s
def kG{α:Type}{t:Sem α}{Q Q':α->Shared->Prop}{M:Model}{A:Around}{E:VP}{s:Shared}(h:wpAny M A t Q E s)(hQ: ∀a s,Q a s->Q' a s):wpAny M A t Q' E s:=wpAny_mono h hQ λ_ _ x=>x
section
variable{X:Cx}
def Sy(i:Nat):TE:=λσ H Q=> ∃v,σ[i]? =some (some v)/\Q v H
def tC(v:V):TE:=λ_ H Q=>Q v H
def Lm{i:Nat}{x:Str}{pos:Pos}(hN:X.N[i]? =some x)(hv:Sx X.env.scope x)(hd:(x==("__debug__":Str))=false:=by decide)(hcd:(x==("__classdict__":Str))=false:=by decide):PE X (.Name x pos) (Sy i):=by
 intro pins s σ H Q I h;obtain⟨v,e,h⟩:=h;obtain⟨m,hn,hl⟩:=I.loc;obtain⟨u,r,l⟩:=hl i x v hN e hv;have fin:EP X pins σ Q u s:=⟨v,H,I,r,h⟩
 rcases l with⟨hk,hm⟩|⟨hk,c,hc,hcell⟩
 .exact wpAny_Name (wpAny_loadName_local I.ok.kind hk hn hm fin) hd
 .rcases hk with hk|hk
  .exact wpAny_Name (wpAny_loadName_cell I.ok.kind hk hc hcell fin) hd
  .exact wpAny_Name (wpAny_loadName_free I.ok.kind hk hc hcell fin hcd) hd
def PJ{i j pos}:PE X (.Constant (.int i) j pos) (tC (.int i)):=λ_ _ _ H _ I h=>wpAny_Constant_int ⟨.int i,H,I.tok _,⟨_,rfl⟩,h⟩
def Sz{b j pos}:PE X (.Constant (.bool b) j pos) (tC (.bl b)):=λ_ _ _ H _ I h=>Constant_bool ⟨.bl b,H,I,rfl,h⟩
def Ln{j pos}:PE X (.Constant .none j pos) (tC .non):=λ_ _ _ H _ I h=>Constant_none ⟨.non,H,I,rfl,h⟩
def Lo{x j pos}:PE X (.Constant (.str x) j pos) (tC (.str x)):=λ_ _ _ H _ I h=>Calls.Constant_str ⟨.str x,H,I.tok _,⟨_,rfl⟩,h⟩
def Gl(X:Cx)(x:Str):Prop:=X.env.kindOf x=some .globalImplicit
def IK{E:VP}{pins:Ye}{s:Shared}{σ:St}{H:Hp}{x:Str}{u:Value}{pos:Pos}{Q:VP}(I:Inv X pins σ H s)(hg:Gl X x)(hm:X.mg x=some u)(h:Q u s)
  (hd:(x==("__debug__":Str))=false:=by decide):wpAny (model X.prog X.w) X.A (eval (.Name x pos) X.env) Q E s:=
 Calls.Name_function_global I.ok.kind hg (Calls.loadGlobal_global (by rw[I.ok.glob];exact I.mod.glob.keeps I.bk) hm h) hd
def oA{E:VP}{pins:Ye}{s:Shared}{σ:St}{H:Hp}{x:Str}{u:Value}{pos:Pos}{Q:VP}(I:Inv X pins σ H s)(hg:Gl X x)(hm:X.mg x=none)(hv:bootBuiltins x=some u)(h:Q u s)
  (hn:x≠"__name__":=by decide) (hd:(x==("__debug__":Str))=false:=by decide):wpAny (model X.prog X.w) X.A (eval (.Name x pos) X.env) Q E s:=by
 obtain⟨mb,h1,h2⟩:=I.mod.blt;exact Calls.Name_function_global I.ok.kind hg (Calls.loadGlobal_builtin (by rw[I.ok.glob];exact I.mod.glob.keeps I.bk) hm (by rw[I.ok.blt];exact h1.keeps I.bk) ((h2 x hn).trans hv) h) hd
def Dr{x:Str}{v:V}{u:Value}{pos:Pos}(hg:Gl X x)(hm:X.mg x=some u)(r:RelV v u)(hd:(x==("__debug__":Str))=false:=by decide):PE X (.Name x pos) (tC v):=
 λ_ _ _ H _ I h=>IK I hg hm ⟨v,H,I,r,h⟩ hd
def Dt{x:Str}{v:V}{u:Value}{pos:Pos}(hg:Gl X x)(hm:X.mg x=none)(hv:bootBuiltins x=some u)(r:RelV v u)(hn:x≠"__name__":=by decide)(hd:(x==("__debug__":Str))=false:=by decide):PE X (.Name x pos) (tC v):=
 λ_ _ _ H _ I h=>oA I hg hm hv ⟨v,H,I,r,h⟩ hn hd
variable{a b:Expr}{ta tb:TE}{pos:Pos}
variable{tA tB':TT}{rest:Yi}
def tAnd(t u:TT):TT:=λσ H Q=>t σ H λc H1=>if c=true then u σ H1 Q else Q false H1
def tOr(t u:TT):TT:=λσ H Q=>t σ H λc H1=>if c=true then Q true H1 else u σ H1 Q
def tNot(t:TT):TT:=λσ H Q=>t σ H λc H1=>Q (!c) H1
def Du(ha:PT X a tA):PW X (.BoolOp .And [a] pos) tA:=by
 intro wh pins s σ H Q I h;refine isTrue_and (kG (ha pins s σ H Q I h) λc s1 e=>?_)
 cases c with
 |true=>exact isTrue_and_nil e
 |false=>exact e
def Lp(ha:PT X a tA):PW X (.BoolOp .Or [a] pos) tA:=by
 intro wh pins s σ H Q I h;refine isTrue_or (kG (ha pins s σ H Q I h) λc s1 e=>?_)
 cases c with
 |false=>exact isTrue_or_nil e
 |true=>exact e
def Lq(ha:PT X a tA)(hb:PW X (.BoolOp .And (b::rest) pos) tB'):PW X (.BoolOp .And (a::b::rest) pos) (tAnd tA tB'):=by
 intro wh pins s σ H Q I h;refine isTrue_and (kG (ha pins s σ H _ I h) λc s1 ⟨H1,I1,q1⟩=>?_)
 cases c with
 |true=>exact hb wh pins s1 σ H1 Q I1 q1
 |false=>exact⟨H1,I1,q1⟩
def Ta(ha:PT X a tA)(hb:PW X (.BoolOp .Or (b::rest) pos) tB'):PW X (.BoolOp .Or (a::b::rest) pos) (tOr tA tB'):=by
 intro wh pins s σ H Q I h;refine isTrue_or (kG (ha pins s σ H _ I h) λc s1 ⟨H1,I1,q1⟩=>?_)
 cases c with
 |true=>exact⟨H1,I1,q1⟩
 |false=>exact hb wh pins s1 σ H1 Q I1 q1
def Lr(ha:PT X a tA):PT X (.UnaryOp .Not a pos) (tNot tA):=by intro pins s σ H Q I h;exact isTrue_not (ha pins s σ H (λc H1=>Q (!c) H1) I h)
def Tb(ta tb:TE):TE:=λσ H Q=>ta σ H λx H1=> ∃c,x=.bl c/\if c=true then tb σ H1 Q else Q (.bl false) H1
def Lu{op}{t:TE}(h:PE X a t):PE X (.BoolOp op [a] pos) t:=λpins s σ H Q I hw=>BoolOp_one (h pins s σ H Q I hw)
def Lv(ha:PE X a ta)(hb:PE X (.BoolOp .And (b::rest) pos) tb):PE X (.BoolOp .And (a::b::rest) pos) (Tb ta tb):=by
 intro pins s σ H Q I h;refine BoolOp_and (kG (ha pins s σ H _ I h) λv s1 ⟨x,H1,I1,r1,q1⟩=>?_);obtain⟨c,rfl,q1⟩:=q1;cases r1;refine wpAny_truthy_bool ?_
 cases c with
 |true=>exact hb pins s1 σ H1 Q I1 q1
 |false=>exact⟨.bl false,H1,I1,rfl,q1⟩
def tIf(t:TT)(ta tb:TE):TE:=λσ H Q=>t σ H λc H1=>if c=true then ta σ H1 Q else tb σ H1 Q
def XO{c:Expr}(hc:PT X c tA)(ha:PE X a ta)(hb:PE X b tb):PE X (.IfExp c a b pos) (tIf tA ta tb):=by
 intro pins s σ H Q I h;refine wpAny_IfExp (kG (hc pins s σ H _ I h) λd s1 ⟨H1,I1,q1⟩=>?_)
 cases d with
 |true=>exact ha pins s1 σ H1 Q I1 q1
 |false=>exact hb pins s1 σ H1 Q I1 q1
end
def SqL(K:Yj)(H:Hp)(a:Addr)(xs:List V):Prop:=
 Rd H a (.lst xs)\/
  ∃(o:Obj)(its:Xk)(n:Nat),K.lookup a=some o/\o.cls=.type "list"/\o.dict=none/\o.data=.seq its n/\its.size<=sizeLine/\Vals xs its.toList
def SqT(K:Yj)(H:Hp)(a:Addr)(xs:List V):Prop:=
 Rd H a (.tup xs)\/
  ∃(o:Obj)(its:Xk)(n:Nat),K.lookup a=some o/\o.cls=.type "tuple"/\o.data=.seq its n/\its.size<=sizeLine/\Vals xs its.toList
def absV:Value->Option V
 |.none=>some .non
 |.bool b=>some (.bl b)
 |.int i _=>some (.int i)
 |.str x _=>some (.str x)
 |.bytes b _=>some (.byt b)
 |.float b _=>some (.flt b)
 |.ref a=>some (.ref a)
 |.type n=>some (.ty n)
 |_=>none
theorem RelV.abs{x:V}{u:Value}(r:RelV x u):absV u=some x:=by
 cases x with
 |non=>cases r;rfl
 |bl _=>cases r;rfl
 |int _=>obtain⟨t,rfl⟩:=r;rfl
 |str _=>obtain⟨t,rfl⟩:=r;rfl
 |byt _=>obtain⟨t,rfl⟩:=r;rfl
 |flt _=>obtain⟨t,rfl⟩:=r;rfl
 |ref _=>cases r;rfl
 |ty _=>cases r;rfl
def RelV.inj{x y:V}{u:Value}(r:RelV x u)(q:RelV y u):x=y:=Option.some.inj (r.abs.symm.trans q.abs)
theorem Vals.inj: ∀{xs ys:List V}{us:Xj},Vals xs us->Vals ys us->xs=ys
 |_,_,_,.nil,.nil=>rfl
 |_,_,_,.cons r t,.cons r' t'=>by rw[r.inj r',Vals.inj t t']
section
variable{X:Cx}{pins:Ye}{σ:St}{H:Hp}{s:Shared}{a:Addr}{xs ys:List V}
def SqL.of{K:Yj}(h:H a=some (.lst xs)):SqL K H a xs:=.inl (.inl h)
def SqT.of{K:Yj}(h:H a=some (.tup xs)):SqT K H a xs:=.inl (.inl h)
def Inv.list(I:Inv X pins σ H s)(h:SqL X.K H a xs): ∃its:List Value,Vals xs its/\PlainL s.heap a its.toArray/\xs.length<=sizeLine:=by
 rcases h with h|⟨o,its,n,hk,hc,hd,hs,hz,r⟩
 .obtain⟨z,its,n,r,e⟩:=h.ok I.hok;exact⟨its,r,⟨_,n,e,rfl,rfl,rfl⟩,z⟩
 .refine⟨its.toList,r,⟨o,n,I.kIn a o hk,hc,hd,by simpa using hs⟩,?_⟩;have e:=r.length;simp only[Array.length_toList]at e;omega
def Inv.tuple(I:Inv X pins σ H s)(h:SqT X.K H a xs): ∃its:List Value,Vals xs its/\IsTup s.heap a its.toArray/\xs.length<=sizeLine:=by
 rcases h with h|⟨o,its,n,hk,hc,hs,hz,r⟩
 .obtain⟨z,its,r,p⟩:=h.ok I.hok;exact⟨its,r,p,z⟩
 .refine⟨its.toList,r,⟨o,I.kIn a o hk,hc,n,by simpa using hs⟩,?_⟩;have e:=r.length;simp only[Array.length_toList]at e;omega
def Inv.list_inj(I:Inv X pins σ H s)(h:SqL X.K H a xs)(h':SqL X.K H a ys):xs=ys:=by
 obtain⟨its,r,⟨o,n,e,_,_,d⟩,_⟩:=I.list h;obtain⟨its',r',⟨o',n',e',_,_,d'⟩,_⟩:=I.list h';rw[e]at e';cases e';rw[d]at d';injection d' with d1 _
 have:its=its':=by simpa using congrArg Array.toList d1
 subst this;exact r.inj r'
def Inv.tuple_inj(I:Inv X pins σ H s)(h:SqT X.K H a xs)(h':SqT X.K H a ys):xs=ys:=by
 obtain⟨its,r,⟨o,e,_,n,d⟩,_⟩:=I.tuple h;obtain⟨its',r',⟨o',e',_,n',d'⟩,_⟩:=I.tuple h';rw[e]at e';cases e';rw[d]at d';injection d' with d1 _
 have:its=its':=by simpa using congrArg Array.toList d1
 subst this;exact r.inj r'
end
abbrev Cx.wish(X:Cx)(E:VP):Cx:={X with xe:=E}
abbrev Cx.nox(X:Cx):Cx:=X.wish λ_ _=>False
def Cx.Ok.wish{X:Cx}(ok:X.Ok)(E:VP):(X.wish E).Ok:=
 ⟨ok.mod,ok.kind,ok.glob,ok.blt,ok.above,ok.inj,ok.has,ok.cab,ok.hd,ok.frames,ok.stk,ok.exf,ok.bs,ok.bsz,ok.noex,ok.exfs,ok.funs,ok.frf⟩
def Cx.Ok.unwish{X:Cx}{E:VP}(ok:(X.wish E).Ok):X.Ok:=
 ⟨ok.mod,ok.kind,ok.glob,ok.blt,ok.above,ok.inj,ok.has,ok.cab,ok.hd,ok.frames,ok.stk,ok.exf,ok.bs,ok.bsz,ok.noex,ok.exfs,ok.funs,ok.frf⟩
section
variable{X:Cx}{pins:Ye}{σ:St}{H:Hp}{s:Shared}{E:VP}
def Inv.wish(I:Inv X pins σ H s)(E:VP):Inv (X.wish E) pins σ H s:=⟨I.ok.wish E,I.os,I.bare,I.base,I.loc,I.cell,I.free,I.freeC,I.pin,I.hok,I.len⟩
def Inv.unwish(I:Inv (X.wish E) pins σ H s):Inv X pins σ H s:=⟨I.ok.unwish,I.os,I.bare,I.base,I.loc,I.cell,I.free,I.freeC,I.pin,I.hok,I.len⟩
def SP.unwish{D:Ends}{f:Flow}{s':Shared}(h:SP (X.wish E) pins D f s'):SP X pins D f s':=by
 cases f with
 |next=>obtain⟨σ',H',I,q⟩:=h;exact⟨σ',H',I.unwish,q⟩
 |brk=>obtain⟨σ',H',I,q⟩:=h;exact⟨σ',H',I.unwish,q⟩
 |cont=>obtain⟨σ',H',I,q⟩:=h;exact⟨σ',H',I.unwish,q⟩
 |ret u=>obtain⟨v,σ',H',I,r,q⟩:=h;exact⟨v,σ',H',I.unwish,r,q⟩
def PSs.nox{st:List Stmt}{t:TS}(h:PSs X.nox st t):PSs X st t:=λpins s σ H D I hw=>
 wpAny_mono (h pins s σ H D (I.wish _) hw) (λ_ _ q=>q.unwish) λ_ _ z=>False.elim z
end
section
variable{X:Cx}{st:Stmt}{rest:List Stmt}{t u:TS}{e:Expr}{te:TE}{pos:Pos}
def Tc:TS:=λD σ H=>D.nx σ H
def tSeq(t u:TS):TS:=λD σ H=>t {D with nx:=u D} σ H
def Dv:PSs X [] Tc:=λ_ _ σ H _ I h=>wpAny_execs_nil ⟨σ,H,I,h⟩
def XQ(h1:PS X st t)(h2:PSs X rest u):PSs X (st::rest) (tSeq t u):=by
 intro pins s σ H D I h;refine wpAny_execs_cons (kG (h1 pins s σ H {D with nx:=u D} I h) λf s1 q=>?_)
 cases f with
 |next=>
  obtain⟨σ',H',I',q⟩:=q;exact h2 pins s1 σ' H' D I' q
 |ret v=>exact q
 |brk=>exact q
 |cont=>exact q
def Dw(h1:PS X st t):PSs X [st] t:=by
 intro pins s σ H D I h;refine wpAny_execs_cons (kG (h1 pins s σ H D I h) λf s1 q=>?_)
 cases f with
 |next=>exact wpAny_execs_nil q
 |ret v=>exact q
 |brk=>exact q
 |cont=>exact q
def Inv.quiet{pins:Ye}{σ:St}{H:Hp}{s:Shared}(I:Inv X pins σ H s):interactive X.env=false:=by simp[interactive,I.ok.kind]
def Td(te:TE):TS:=λD σ H=>te σ H λ_ H1=>D.nx σ H1
def Dx(he:PE X e te)(hs:swapsWith e none pos.line X.env=pure false:=by rfl):PS X (.Expr e pos) (Td te):=by intro pins s σ H D I h;exact wpAny_Expr_any (kG (he pins s σ H _ I h) λv s1 ⟨x,H1,I1,r1,q1⟩=>⟨σ,H1,I1,q1⟩) I.quiet hs
def tRet(te:TE):TS:=λD σ H=>te σ H D.rt
def Lw(he:PE X e te):PS X (.Return (some e) pos) (tRet te):=by intro pins s σ H D I h;exact wpAny_Return_some (kG (he pins s σ H _ I h) λv s1 ⟨x,H1,I1,r1,q1⟩=>⟨x,σ,H1,I1,r1,q1⟩)
def tIfS(c:TT)(t u:TS):TS:=λD σ H=>c σ H λb H1=>if b=true then t D σ H1 else u D σ H1
def Te{c:Expr}{a b:List Stmt}{tc:TT}(hc:PT X c tc)(ha:PSs X a t)(hb:PSs X b u):PS X (.If c a b pos) (tIfS tc t u):=by
 intro pins s σ H D I h;refine wpAny_If (kG (hc pins s σ H _ I h) λd s1 ⟨H1,I1,q1⟩=>?_)
 cases d with
 |true=>exact ha pins s1 σ H1 D I1 q1
 |false=>exact hb pins s1 σ H1 D I1 q1
end
abbrev TG:=V->St->Hp->(St->Hp->Prop)->Prop
abbrev Lx:=List V->St->Hp->(St->Hp->Prop)->Prop
def PG(X:Cx)(target:Expr)(t:TG):Prop:=
 ∀(pins:Ye)(s:Shared)(σ:St)(H:Hp)(v:V)(u:Value)(Q:St->Hp->Prop),Inv X pins σ H s->RelV v u->t v σ H Q->
  wpAny (model X.prog X.w) X.A (assign target X.env u) (λ_ s'=> ∃σ' H',Inv X pins σ' H' s'/\Q σ' H') X.xe s
def Sk(X:Cx)(ts:Yi)(t:Lx):Prop:=
 ∀(pins:Ye)(s:Shared)(σ:St)(H:Hp)(vs:List V)(us:Xj)(Q:St->Hp->Prop),Inv X pins σ H s->Vals vs us->t vs σ H Q->
  wpAny (model X.prog X.w) X.A (assignInOrder ((assignEach ts X.env).map (·.2)) us) (λ_ s'=> ∃σ' H',Inv X pins σ' H' s'/\Q σ' H') X.xe s
abbrev TSet:=V->V->V->Hp->(Hp->Prop)->Prop
def Dy(X:Cx)(t:TSet):Prop:=
 ∀(pins:Ye)(s:Shared)(σ:St)(H:Hp)(o i v:V)(ov iv u:Value)(Q:Hp->Prop),Inv X pins σ H s->RelV o ov->RelV i iv->RelV v u->t o i v H Q->
  wpAny (model X.prog X.w) X.A (setItem ov iv u) (λ_ s'=> ∃H',Inv X pins σ H' s'/\Q H') X.xe s
section
variable{X:Cx}{pos:Pos}
def XR(i:Nat):TG:=λv σ H Q=>Q (σ.set i (some v)) H
def RU{i:Nat}{x:Str}(hN:X.N.Nodup)(hi:X.N[i]? =some x)(hx:Loc X.env.scope x)(hf:Q2 X x:=by first |exact .inl rfl|exact .inr rfl|assumption):PG X (.Name x pos) (XR i):=by intro pins s σ H v u Q I r h;exact wpAny_assign_Name (MA I hN hi hx r (λs' I'=>⟨_,H,I',h⟩) hf)
def gNil:Lx:=λvs σ H Q=>vs=[]/\Q σ H
def Tf(t:TG)(u:Lx):Lx:=λvs σ H Q=> ∃v r,vs=v::r/\t v σ H λσ' H'=>u r σ' H' Q
def RV:Sk X [] gNil:=by intro pins s σ H vs us Q I r h;obtain⟨e,h⟩:=h;subst e;cases r;exact assignInOrder_nil ⟨σ,H,I,h⟩
def MB{e:Expr}{es:Yi}{t:TG}{u:Lx}(h1:PG X e t)(h2:Sk X es u)
  (hs:(assignEach (e::es) X.env).map (·.2)=assign e X.env::(assignEach es X.env).map (·.2):=by rfl):Sk X (e::es) (Tf t u):=by
 intro pins s σ H vs us Q I r h;obtain⟨v,vr,e1,h⟩:=h;subst e1
 cases r with
 |cons r rr=>
  rw[hs];refine assignInOrder_cons (kG (h1 pins s σ H _ _ _ I r h) λ_ s1 ⟨σ1,H1,I1,q1⟩=>?_);exact h2 pins s1 σ1 H1 _ _ Q I1 rr q1
def gTup(K:Yj)(n:Nat)(t:Lx):TG:=λv σ H Q=> ∃a xs,v=.ref a/\SqT K H a xs/\xs.length=n/\t xs σ H Q
def XS{es:Yi}{k:Nat}{t:Lx}{n:Nat}(hc:X.calm=true)(h:Sk X es t)
  (hn:(assignEach es X.env).length=n:=by rfl) (hst:(assignEach es X.env).findIdx? (·.1)=none:=by rfl):PG X (.Tuple es k pos) (gTup X.K n t):=by
 intro pins s σ H v u Q I r hw;obtain⟨a,xs,e1,hq,hl,hw⟩:=hw;subst e1;cases r;obtain⟨its,rv,ht,hz⟩:=I.tuple hq;refine assign_Tuple_tuple (I.ok.hd hc) ht (by simp[hn, <-hl,rv.length]) hst λh' hx=>?_;have I1:Inv X pins σ H {s with heap:=h'}:=I.kept (t':=s.toks) λb o e=>hx b o (Nat.ne_of_lt (Heap.lt_size e)) e;exact h pins _ σ H xs _ Q I1 (by simpa using rv) hw
def gSub(to ti:TE)(t:TSet):TG:=λv σ H Q=>to σ H λo H1=>ti σ H1 λi H2=>t o i v H2 λH3=>Q σ H3
def PK{o i:Expr}{to ti:TE}{t:TSet}(ho:PE X o to)(hi:PE X i ti)(hs:Dy X t)
  (ha: ∀v,assign (.Subscript o i pos) X.env v=(do
   let ov <-holding [v] (eval o X.env);let iv <-holding [v,ov] (eval i X.env)
   standAt pos
   holding [v,ov,iv] (setItem ov iv v)
   release [v,ov,iv] []):=by intro _;rfl):PG X (.Subscript o i pos) (gSub to ti t):=by
 intro pins s σ H v u Q I r h;rw[ha];refine wB (wpAny_holding (kG (ho pins s σ H _ I h) λov s1 ⟨x,H1,I1,r1,q1⟩=>?_));refine wB (wpAny_holding (kG (hi pins s1 σ H1 _ I1 q1) λiv s2 ⟨y,H2,I2,r2,q2⟩=>?_));refine wB (wpAny_standAt (wB (wpAny_holding (kG (hs pins s2 σ H2 x y v ov iv u _ I2 r1 r2 r q2) λ_ s3 ⟨H3,I3,q3⟩=>?_))));exact wpAny_release ⟨σ,H3,I3,q3⟩
def Ly(te:TE)(g:TG):TS:=λD σ H=>te σ H λx H1=>g x σ H1 D.nx
def Lz{tg e:Expr}{te:TE}{g:TG}(he:PE X e te)(hg:PG X tg g)(hs:swapsWithSole [tg] e pos.line X.env=pure false:=by rfl)(hw:swappedStores [tg] e X.env=pure none:=by rfl)
  (h1:(assignEach [tg] X.env).map (·.2)=[assign tg X.env]:=by rfl):PS X (.Assign [tg] e pos) (Ly te g):=by
 intro pins s σ H D I h;refine wpAny_Assign_stores (kG (he pins s σ H _ I h) λv s1 ⟨x,H1,I1,r1,q1⟩=>?_) hs hw;rw[h1];exact kG (hg pins s1 σ H1 x v _ I1 r1 q1) λ_ s2 q=>q
def Ma{i:Nat}{x:Str}{e:Expr}{te:TE}{pos':Pos}(hN:X.N.Nodup)(hi:X.N[i]? =some x)(hx:Loc X.env.scope x)(he:PE X e te)(hs:swapsWith e (some (.Name x pos')) pos.line X.env=pure false:=by rfl)(hf:Q2 X x:=by first |exact .inl rfl|exact .inr rfl|assumption):
  PS X (.Assign [.Name x pos'] e pos) (Ly te (XR i)):=by
 intro pins s σ H D I h;refine wpAny_Assign_Name (kG (he pins s σ H _ I h) λv s1 ⟨y,H1,I1,r1,q1⟩=>?_) hs;exact MA I1 hN hi hx r1 (λs2 I2=>⟨_,H1,I2,q1⟩) hf
end
structure It where
 go:Nat->Hp->Prop
 yld:Nat->Hp->V->Hp->Prop
 stop:Nat->Hp->Prop
def pN(X:Cx)(pins:Ye)(H:Hp)(b:Addr):Prop:=
 H b=none/\b≠X.env.locals/\b∉X.fs/\(b∈X.ex\/X.s₀.heap.objs.size<=b)/\(∀x c,X.env.cells.lookup x=some c->c≠b)/\ ∀p∈X.pn++pins,p.1≠b
def Inv.fpOk{X:Cx}{pins:Ye}{σ:St}{H H':Hp}{s:Shared}{b:Addr}(I:Inv X pins σ H s)(hb:s.heap.objs.size<=b)(hn:H' b=none):pN X pins H' b:=by
 refine⟨hn,Nat.ne_of_gt (Nat.lt_of_lt_of_le I.lt hb),I.nofs hb,.inr (Nat.le_trans I.sz hb),λx c e z=>?_,λp hp z=>?_⟩
 .obtain⟨v,q⟩:=I.cell x c e;exact absurd (Nat.lt_of_lt_of_le q.lt (by rw[z];exact hb)) (lt_irrefl _)
 .exact absurd (Nat.lt_of_lt_of_le (Heap.lt_size (I.pin p hp).1) (by rw[z];exact hb)) (lt_irrefl _)
abbrev Mb(X:Cx):Prop:=X.calm=true
structure TurnC(C:Cx->Prop)(P:Program)(w:World)(K:Yj)(tg:Expr)(J:It)(fp:Ya)(it:Addr)(tn:Nat->Heap->Prop):Prop where
 mem:it∈fp
 obj: ∀i h,tn i h-> ∀b∈fp, ∃o,h.get? b=some o/\ ∀v,o.data≠.cell v
 keep: ∀i h h',tn i h->(∀b∈fp, ∀o,h.get? b=some o->h'.get? b=some o)->tn i h'
 item: ∀(X:Cx),X.prog=P->X.w=w->X.K=K->C X-> ∀(i:Nat)(pins:Ye)(s:Shared)(σ:St)(H:Hp)(E:VP),Inv X pins σ H s->(∀b∈fp,pN X pins H b)->tn i s.heap->J.go i H->
  wpAny (model P w) X.A (pyNext (.ref it)) (λr s1=> ∃u,r=some u/\
   wpAny (model P w) X.A (letOwnedTupleGo tg (.ref it) u) (λ_ s2=> ∃x H',Inv X pins σ H' s2/\RelV x u/\J.yld i H x H'/\tn (i+1) s2.heap/\ ∀b∈fp,H' b=none) E s1) E s
 done: ∀(X:Cx),X.prog=P->X.w=w->X.K=K->C X-> ∀(i:Nat)(pins:Ye)(s:Shared)(σ:St)(H:Hp)(E:VP),Inv X pins σ H s->(∀b∈fp,pN X pins H b)->tn i s.heap->J.stop i H->
  wpAny (model P w) X.A (pyNext (.ref it)) (λr s1=>r=none/\Inv X pins σ H s1) E s
 self: ∀(A:Around)(i:Nat)(s:Shared)(Q:VP)(E:VP),tn i s.heap->Q (.ref it) s->wpAny (model P w) A (pyIter (.ref it)) Q E s
abbrev Turn:=TurnC Mb
abbrev TI:=St->Hp->(It->Hp->Prop)->Prop
def Tg(C:Cx->Prop)(X:Cx)(pins:Ye)(σ:St)(tg:Expr)(R:It->Hp->Prop)(itv:Value)(s2:Shared):Prop:=
 ∃(it:Addr)(fp:Ya)(tn:Nat->Heap->Prop)(J:It)(H':Hp),itv=.ref it/\Inv X pins σ H' s2/\TurnC C X.prog X.w X.K tg J fp it tn/\tn 0 s2.heap/\(∀b∈fp,pN X pins H' b)/\R J H'
abbrev PIE:=Tg Mb
def Th(C:Cx->Prop)(X:Cx)(tg iter:Expr)(wi:TI):Prop:=
 ∀(pins:Ye)(s:Shared)(σ:St)(H:Hp)(R:It->Hp->Prop),Inv X pins σ H s->wi σ H R->
  wpAny (model X.prog X.w) X.A (eval iter X.env) (λv s1=>wpAny (model X.prog X.w) X.A (pyIter v) (Tg C X pins σ tg R) X.xe s1) X.xe s
abbrev PI:=Th Mb
def XT{M:Model}{A:Around}{E:VP}{s:Shared}{tg:Expr}{it:Addr}{u:Value}{o:Obj}{n:String}{vs:Xk}{Q:Unit->Shared->Prop}(ho:s.heap.get? it=some o)(hc:o.cls=.type n)(hd:o.data=.fields vs)
  (hn:["enumerate","zip","dict_itemiterator","dict_reverseitemiterator","odict_iterator","itertools.zip_longest","itertools.pairwise"].contains n=false) (hQ:Q () s):wpAny M A (letOwnedTupleGo tg (.ref it) u) Q E s:=by
 unfold letOwnedTupleGo
 cases tg<;>first
  |exact wP hQ
  |(cases u<;>first
    |exact wP hQ
    |(refine wB (wpAny_load ho ?_)
      rw[hc,hd];show wpAny M A (if(["enumerate","zip","dict_itemiterator","dict_reverseitemiterator","odict_iterator","itertools.zip_longest","itertools.pairwise"].contains n&&vs[0]? ==some (rawInt _))=true then _ else _) Q E s;rw[iN (by intro h;rw[hn,Bool.false_and]at h;cases h)];exact wP hQ))
def Mc(K:Yj)(a:Addr):It:=
 ⟨λi H=> ∃xs x,SqL K H a xs/\xs[i]? =some x,λi H x H'=>H'=H/\ ∀xs,SqL K H a xs->xs[i]? =some x,λi H=> ∃xs,SqL K H a xs/\xs.length<=i⟩
def Ti(K:Yj)(a:Addr):It:=
 ⟨λi H=> ∃xs x,SqT K H a xs/\xs[i]? =some x,λi H x H'=>H'=H/\ ∀xs,SqT K H a xs->xs[i]? =some x,λi H=> ∃xs,SqT K H a xs/\xs.length<=i⟩
def Tj(lo:Int)(n:Nat):It:=⟨λi _=>i<n,λi H x H'=>H'=H/\x=.int (lo+i),λi _=>n<=i⟩
def GI{P:Program}{w:World}{K:Yj}{tg:Expr}(a it:Addr):Turn P w K tg (Mc K a) [it] it (λi h=>h.IsListIter it a i) where
 mem:=by simp
 obj:=λi h st b hb=>by
  have e:b=it:=by simpa using hb
  subst e;obtain⟨o,e,c,d⟩:=st;exact⟨o,e,λv z=>by rw[d]at z;cases z⟩
 keep:=λi h h' st k=>st.at λo e=>k it (by simp) o e
 item:=by intro X hP hw hK hc i pins s σ H E I hf st hg;subst hP hw hK;obtain⟨xs,x,hq,hx⟩:=hg;obtain⟨its,rv,p,hz⟩:=I.list hq;obtain⟨u,hu,ru⟩:=rv.get hx;obtain⟨f0,f1,f2,f3,f4,f5⟩:=hf it (by simp);refine wpAny_pyNext_list_item st p.isList (x:=u) (by simpa using hu) λh' st' sb=>?_;have I1:Inv X pins σ H {s with heap:=h'}:=I.turned (t':=s.toks) (λb o hb e=>(sb.2 b hb).trans e) f0 f1 f3 f4 f5;obtain⟨o,e,c,d⟩:=id st';exact⟨u,rfl,XT (s:={s with heap:=h'}) e c d (by decide) ⟨x,H,I1,ru,⟨rfl,λys hy=>by rw[I.list_inj hy hq];exact hx⟩,st',λb hb=>(hf b hb).1⟩⟩
 done:=by intro X hP hw hK hc i pins s σ H E I hf st hg;subst hP hw hK;obtain⟨xs,hq,hx⟩:=hg;obtain⟨its,rv,p,hz⟩:=I.list hq;obtain⟨f0,f1,f2,f3,f4,f5⟩:=hf it (by simp);have hl:=rv.length;exact wpAny_pyNext_list_end (I.ok.hd hc) st p.isList (by simp;omega) λh' eb=>⟨rfl,I.turned (t':=s.toks) (λb o hb e=>eb b o hb e) f0 f1 f3 f4 f5⟩
 self:=λ_ _ _ _ _ st h=>wpAny_pyIter_listiter st h
def CV{P:Program}{w:World}{K:Yj}{tg:Expr}(a it:Addr):Turn P w K tg (Ti K a) [it] it (λi h=>h.IsTupleIter it a i) where
 mem:=by simp
 obj:=λi h st b hb=>by
  have e:b=it:=by simpa using hb
  subst e;obtain⟨o,e,c,d⟩:=st;exact⟨o,e,λv z=>by rw[d]at z;cases z⟩
 keep:=λi h h' st k=>st.at λo e=>k it (by simp) o e
 item:=by intro X hP hw hK hc i pins s σ H E I hf st hg;subst hP hw hK;obtain⟨xs,x,hq,hx⟩:=hg;obtain⟨its,rv,p,hz⟩:=I.tuple hq;obtain⟨u,hu,ru⟩:=rv.get hx;obtain⟨f0,f1,f2,f3,f4,f5⟩:=hf it (by simp);refine wpAny_pyNext_tuple_item st (show s.heap.IsTuple a its.toArray from p) (x:=u) (by simpa using hu) λh' st' sb=>?_;have I1:Inv X pins σ H {s with heap:=h'}:=I.turned (t':=s.toks) (λb o hb e=>(sb.2 b hb).trans e) f0 f1 f3 f4 f5;obtain⟨o,e,c,d⟩:=id st';exact⟨u,rfl,XT (s:={s with heap:=h'}) e c d (by decide) ⟨x,H,I1,ru,⟨rfl,λys hy=>by rw[I.tuple_inj hy hq];exact hx⟩,st',λb hb=>(hf b hb).1⟩⟩
 done:=by intro X hP hw hK hc i pins s σ H E I hf st hg;subst hP hw hK;obtain⟨xs,hq,hx⟩:=hg;obtain⟨its,rv,p,hz⟩:=I.tuple hq;obtain⟨f0,f1,f2,f3,f4,f5⟩:=hf it (by simp);have hl:=rv.length;exact wpAny_pyNext_tuple_end (I.ok.hd hc) st (show s.heap.IsTuple a its.toArray from p) (by simp;omega) λh' eb=>⟨rfl,I.turned (t':=s.toks) (λb o hb e=>eb b o hb e) f0 f1 f3 f4 f5⟩
 self:=λ_ _ _ _ _ st h=>wpAny_pyIter_tupleiter st h
def PL{P:Program}{w:World}{K:Yj}{tg:Expr}(it:Addr)(lo:Int)(n:Nat):Turn P w K tg (Tj lo n) [it] it (λi h=>IsRangeIter h it (lo+(i:Nat) * 1) ((n:Int) - (i:Nat)) 1) where
 mem:=by simp
 obj:=λi h st b hb=>by
  have e:b=it:=by simpa using hb
  subst e;exact⟨_,st,λv z=>by have z':Data.fields _=Data.cell v:=z;cases z'⟩
 keep:=λi h h' st k=>k it (by simp) _ st
 item:=by intro X hP hw hK hc i pins s σ H E I hf st hg;subst hP hw hK;obtain⟨f0,f1,f2,f3,f4,f5⟩:=hf it (by simp);have W:=Walks.range (prog:=X.prog) (w:=X.w) (I.ok.hd hc) it lo 1 n;refine W.item i s _ _ hg st λv h' tk hv st' kk=>?_;obtain⟨t,rfl⟩:=hv;have I1:Inv X pins σ H {s with heap:=h',toks:=tk}:=I.turned (λb o hb e=>kk b o (by simpa using hb) e) f0 f1 f3 f4 f5;refine⟨_,rfl,XT (s:={s with heap:=h',toks:=tk}) (n:="range_iterator") st' rfl rfl (by decide) ⟨.int (lo+i),H,I1,⟨t,?_⟩,⟨rfl,rfl⟩,st',λb hb=>(hf b hb).1⟩⟩;rw[Int.mul_one]
 done:=by intro X hP hw hK hc i pins s σ H E I hf st hg;subst hP hw hK;obtain⟨f0,f1,f2,f3,f4,f5⟩:=hf it (by simp);exact wpAny_pyNext_range_end (I.ok.hd hc) st (by have:n<=i:=hg;omega) λh' eb=>⟨rfl,I.turned (t':=s.toks) (λb o hb e=>eb b o hb e) f0 f1 f3 f4 f5⟩
 self:=λ_ _ _ _ _ st h=>wpAny_pyIter_rangeiter st h
section
variable{X:Cx}{tg:Expr}
def Tl(K:Yj)(tl:TE):TI:=λσ H R=>tl σ H λx H1=> ∃a,x=.ref a/\(∃xs,SqL K H1 a xs)/\R (Mc K a) H1
def iTup(K:Yj)(tl:TE):TI:=λσ H R=>tl σ H λx H1=> ∃a,x=.ref a/\(∃xs,SqT K H1 a xs)/\R (Ti K a) H1
def Dz{l:Expr}{tl:TE}(hl:PE X l tl):PI X tg l (Tl X.K tl):=by
 intro pins s σ H R I h;refine kG (hl pins s σ H _ I h) λv s1 ⟨x,H1,I1,r1,q1⟩=>?_;obtain⟨a,e,⟨xs,hq⟩,q⟩:=q1;subst e;cases r1;obtain⟨its,rv,p,hz⟩:=I1.list hq;refine wpAny_pyIter_list p.isList ?_;refine⟨s1.heap.objs.size,[s1.heap.objs.size],_,_,H1,rfl,I1.kept (t':=s1.toks) λb o e=>hP0 _ e,GI a _,⟨_,Heap.get?_push_size _ rfl,rfl,rfl⟩,λb hb=>?_,q⟩;have e:b=s1.heap.objs.size:=by simpa using hb
 subst e;exact I1.fpOk q9 (I1.hok.fresh q9)
def Md{l:Expr}{tl:TE}(hl:PE X l tl):PI X tg l (iTup X.K tl):=by
 intro pins s σ H R I h;refine kG (hl pins s σ H _ I h) λv s1 ⟨x,H1,I1,r1,q1⟩=>?_;obtain⟨a,e,⟨xs,hq⟩,q⟩:=q1;subst e;cases r1;obtain⟨its,rv,p,hz⟩:=I1.tuple hq;refine wpAny_pyIter_tuple (show s1.heap.IsTuple a its.toArray from p) ?_;refine⟨s1.heap.objs.size,[s1.heap.objs.size],_,_,H1,rfl,I1.kept (t':=s1.toks) λb o e=>hP0 _ e,CV a _,⟨_,Heap.get?_push_size _ rfl,rfl,rfl⟩,λb hb=>?_,q⟩;have e:b=s1.heap.objs.size:=by simpa using hb
 subst e;exact I1.fpOk q9 (I1.hok.fresh q9)
def XU{pins:Ye}{σ:St}{H:Hp}{s:Shared}{R:It->Hp->Prop}{E:VP}{lo hi:Int}{t u v:Tok}{tk:Nat}(I:Inv X pins σ H s)(h1: -(2 ^ 62)<=lo)(h2:lo<2 ^ 62)(h3: -(2 ^ 62)<=hi)(h4:hi<2 ^ 62)
  (q:R (Tj lo (hi - lo).toNat) H):wpAny (model X.prog X.w) X.A (pyIter (.ref s.heap.objs.size)) (PIE X pins σ tg R) E {s with heap:=s.heap.push {cls:=.type "range",data:=.fields #[.int lo t,.int hi u,.int 1 v]},toks:=tk}:=by
 refine wpAny_pyIter_range (IsRange.new ..) (small_one h1 h2 h3 h4) ?_;have I1:Inv X pins σ H {s with heap:=s.heap.push {cls:=.type "range",data:=.fields #[.int lo t,.int hi u,.int 1 v]},toks:=tk}:=I.kept λb o e=>hP0 _ e
 refine⟨(s.heap.push {cls:=.type "range",data:=.fields #[.int lo t,.int hi u,.int 1 v]}).objs.size,[(s.heap.push {cls:=.type "range",data:=.fields #[.int lo t,.int hi u,.int 1 v]}).objs.size],_,_,H,rfl,
  I1.kept (t':=tk) λb o e=>hP0 _ e,PL _ lo (hi - lo).toNat,?_,λb hb=>?_,q⟩
 .have e1:lo+((0:Nat):Int) * 1=lo:=by simp
  have e2:(((hi - lo).toNat:Nat):Int) - ((0:Nat):Int)=Builtin.Range.rangeSize lo hi 1:=by rw[rangeSize_one];split<;>omega
  show IsRangeIter _ _ (lo+((0:Nat):Int) * 1) ((((hi - lo).toNat:Nat):Int) - ((0:Nat):Int)) 1;rw[e1,e2];exact Heap.get?_push_size _ rfl
 .have e:b=(s.heap.push {cls:=.type "range",data:=.fields #[.int lo t,.int hi u,.int 1 v]}).objs.size:=by simpa using hb
  subst e;exact I1.fpOk q9 (I1.hok.fresh q9)
def To(ta:TA):TI:=λσ H R=>ta σ H λvs H1=> ∃j:Int,vs=[.int j]/\ -(2 ^ 62)<=j/\j<2 ^ 62/\R (Tj 0 j.toNat) H1
def UU{a:Expr}{ta:TA}{p pos:Pos}(hg:Gl X "range")(hm:X.mg "range"=none)(ha:PA X [a] ta)(hs:starEach [a] X.env=[(false,eval a X.env)]:=by rfl):PI X tg (.Call (.Name "range" p) [a] [] pos) (To ta):=by
 intro pins s σ H R I h;refine Call_ (oA I hg hm boot_range (PyProof.Rows.callWith_type1 (kG (ha pos pins s σ H _ I h) λus s1 ⟨vs,H1,I1,r1,q1⟩=>?_) hs rfl));obtain⟨j,e,q1,q2,q⟩:=q1;subst e
 cases r1 with
 |cons r rr=>
  cases rr;obtain⟨t,rfl⟩:=r;exact call_range_1 (XU I1 #[0] #[0] q1 q2 (by simpa using q))
def tFor(wi:TI)(g:TG)(tb:TS):TS:=λD σ H=>wi σ H λJ H1=> ∃W:Nat->Nat->St->Hp->Prop,(∃m,W 0 m σ H1)/\ ∀i m σ H,W i m σ H->
 (J.stop i H/\D.nx σ H)\/(J.go i H/\ ∃N:St->Hp->Prop,(∀σ' H',N σ' H'-> ∃m',m'<m/\W (i+1) m' σ' H')/\ ∀x H',J.yld i H x H'->g x σ H' λσ2 H2=>tb {D with nx:=N,ct:=N,bk:=D.nx} σ2 H2)
def pS(fp:Ya)(h:Heap):List (Addr×Obj):=fp.filterMap λb=>(h.get? b).map λo=>(b,o)
def sH{fp:Ya}{h:Heap}{b:Addr}{o:Obj}(hb:b∈fp)(e:h.get? b=some o):(b,o)∈pS fp h:=mem_filterMap.mpr ⟨b,hb,by rw[e];rfl⟩
def UV{fp:Ya}{h:Heap}{p:Addr×Obj}(hp:p∈pS fp h):p.1∈fp/\h.get? p.1=some p.2:=by
 obtain⟨b,hb,e⟩:=mem_filterMap.mp hp
 cases q:h.get? b with
 |none=>rw[q]at e;cases e
 |some o=>
  rw[q]at e;have e':(b,o)=p:=Option.some.inj e;subst e';exact⟨hb,q⟩
def Inv.pinned{pins:Ye}{σ:St}{H:Hp}{s:Shared}{fp:Ya}(I:Inv X pins σ H s)(hf: ∀b∈fp,pN X pins H b)(ho: ∀b∈fp, ∃o,s.heap.get? b=some o/\ ∀v,o.data≠.cell v):Inv X (pins++pS fp s.heap) σ H s:=
 I.pins_of λp hp=>(List.mem_append.mp hp).elim (λz=>I.pin p (List.mem_append_right _ z)) λz=>by obtain⟨hb,e⟩:=UV z;obtain⟨f0,f1,f2,_⟩:=hf p.1 hb;obtain⟨o,e',d⟩:=ho p.1 hb;rw[e]at e';cases e';exact⟨e,f0,f1,f2,d⟩
def Inv.unpinned{pins pl:Ye}{σ:St}{H:Hp}{s:Shared}(I:Inv X (pins++pl) σ H s):Inv X pins σ H s:=I.pins_of λp hp=>I.pin p (List.mem_append_right _ (mem_append_left _ hp))
def Me{iter:Expr}{body:List Stmt}{wi:TI}{g:TG}{tb:TS}{pos:Pos}(hp:PassesOwn (model X.prog X.w) X.A X.env X.xe)(hc:X.calm=true)(hi:PI X tg iter wi)(hg:PG X tg g)(hb:PSs X body tb)
  (hs: ∀x,foldedSetIterable iter X.env x=pure x:=by intro _;rfl):PS X (.For tg iter body [] pos) (tFor wi g tb):=by
 intro pins s σ H D I h;refine wpAny_For (kG (hi pins s σ H _ I h) λv s1 h1=>kG h1 λitv s2 h2=>?_) hs;obtain⟨it,fp,tn,J,H2,e,I2,T,st2,f2,W,⟨m0,w0⟩,turn⟩:=h2;subst e;have stat: ∀{H':Hp},(∀b∈fp,H' b=none)-> ∀b∈fp,pN X pins H' b:=λhn b hb=>⟨hn b hb,(f2 b hb).2⟩
 refine codeAny_forLoop_any (λn s'=> ∃i σ' H',Inv X pins σ' H' s'/\tn i s'.heap/\(∀b∈fp,H' b=none)/\W i n σ' H') ?_ m0 ⟨0,σ,H2,I2,st2,λb hb=>(f2 b hb).1,w0⟩;rintro n s3 ⟨i,σ3,H3,I3,st3,fr3,w3⟩;rcases turn i n σ3 H3 w3 with⟨stop,qn⟩|⟨go,N,hN,step⟩
 .refine wpAny_passesOwn hp (kG (T.done X rfl rfl rfl hc i pins s3 σ3 H3 X.xe I3 (stat fr3) st3 stop) λr s4 ⟨hr,I4⟩=>?_);subst hr;exact wpAny_execs_nil ⟨σ3,H3,I4,qn⟩
 .refine wpAny_passesOwn hp (kG (T.item X rfl rfl rfl hc i pins s3 σ3 H3 X.xe I3 (stat fr3) st3 go) λr s4 ⟨u,hr,h4⟩=>?_);subst hr;refine wpAny_passesOwn hp (kG h4 λ_ s5 ⟨x,H5,I5,r5,y5,st5,fr5⟩=>?_);have I5':=I5.pinned (stat fr5) (T.obj _ _ st5);refine wpAny_passesOwn hp (kG (hg _ s5 σ3 H5 x u _ I5' r5 (step x H5 y5)) λ_ s6 ⟨σ6,H6,I6,q6⟩=>?_);refine wpAny_passesOwn hp (kG (hb _ s6 σ6 H6 _ I6 q6) λf s7 q7=>?_);have again: ∀{σ7:St}{H7:Hp},Inv X (pins++pS fp s5.heap) σ7 H7 s7->N σ7 H7-> ∃m,m<n/\ ∃i σ' H',Inv X pins σ' H' s7/\tn i s7.heap/\(∀b∈fp,H' b=none)/\W i m σ' H':=λ{σ7 H7} I7 n7=>by obtain⟨m',hm,w7⟩:=hN σ7 H7 n7;refine⟨m',hm,i+1,σ7,H7,I7.unpinned,T.keep _ _ _ st5 λb hb o e=>(I7.pin (b,o) (List.mem_append_right _ (List.mem_append_right _ (sH hb e)))).1,λb hb=>?_,w7⟩;obtain⟨o,e,d⟩:=T.obj _ _ st5 b hb;exact(I7.pin (b,o) (List.mem_append_right _ (List.mem_append_right _ (sH hb e)))).2.1
  cases f with
  |next=>obtain⟨σ7,H7,I7,n7⟩:=q7;exact again I7 n7
  |cont=>obtain⟨σ7,H7,I7,n7⟩:=q7;exact again I7 n7
  |brk=>obtain⟨σ7,H7,I7,q7⟩:=q7;exact⟨σ7,H7,I7.unpinned,q7⟩
  |ret v=>obtain⟨x7,σ7,H7,I7,r7,q7⟩:=q7;exact⟨x7,σ7,H7,I7.unpinned,r7,q7⟩
end
abbrev R2:=V->V->Hp->VK->Prop
def OpR(X:Cx)(f:Value->Value->Sem Value)(r:R2):Prop:=
 ∀(pins:Ye)(s:Shared)(σ:St)(H:Hp)(x y:V)(v u:Value)(Q:VK),Inv X pins σ H s->RelV x v->RelV y u->r x y H Q->
  wpAny (model X.prog X.w) X.A (f v u) (EP X pins σ Q) X.xe s
def UnR(X:Cx)(f:Value->Sem Value)(r:V->Hp->VK->Prop):Prop:=
 ∀(pins:Ye)(s:Shared)(σ:St)(H:Hp)(x:V)(v:Value)(Q:VK),Inv X pins σ H s->RelV x v->r x H Q->
  wpAny (model X.prog X.w) X.A (f v) (EP X pins σ Q) X.xe s
def CallR(X:Cx)(f:Value)(r:List V->Hp->VK->Prop):Prop:=
 ∀(pins:Ye)(s:Shared)(σ:St)(H:Hp)(xs:List V)(us:Xj)(Q:VK),Inv X pins σ H s->Vals xs us->r xs H Q->
  wpAny (model X.prog X.w) X.A (call f us) (EP X pins σ Q) X.xe s
def TruR(X:Cx)(r:V->Hp->(Bool->Hp->Prop)->Prop):Prop:=
 ∀(pins:Ye)(s:Shared)(σ:St)(H:Hp)(x:V)(v:Value)(Q:Bool->Hp->Prop),Inv X pins σ H s->RelV x v->r x H Q->
  wpAny (model X.prog X.w) X.A (truthy v) (TP X pins σ Q) X.xe s
def tOp(r:R2)(ta tb:TE):TE:=λσ H Q=>ta σ H λx H1=>tb σ H1 λy H2=>r x y H2 Q
def tUn(r:V->Hp->VK->Prop)(ta:TE):TE:=λσ H Q=>ta σ H λx H1=>r x H1 Q
def rI(C:Int->Int->Prop)(g:Int->Int->V):R2:=λx y H Q=> ∃i j,x=.int i/\y=.int j/\C i j/\Q (g i j) H
def Ea(g:Int->Int->V):R2:=λx y H Q=> ∃i j,x=.int i/\y=.int j/\Q (g i j) H
def rU(g:Int->V):V->Hp->VK->Prop:=λx H Q=> ∃i,x=.int i/\Q (g i) H
section
variable{X:Cx}{a b:Expr}{ta tb:TE}{pos:Pos}
def Tp(ha:PE X a ta)(hb:PE X b tb){pins:Ye}{s:Shared}{σ:St}{H:Hp}{R:V->V->Hp->Prop}(I:Inv X pins σ H s)
  (h:ta σ H λx H1=>tb σ H1 λy H2=>R x y H2) {Q:VP} {f:Value->Value->Sem Value}
  (hf: ∀v u s2 x y H2,Inv X pins σ H2 s2->RelV x v->RelV y u->R x y H2->wpAny (model X.prog X.w) X.A (f v u) Q X.xe s2):
  wpAny (model X.prog X.w) X.A (eval a X.env) (λv s₁=>wpAny (model X.prog X.w) X.A (eval b X.env) (λu s₂=>wpAny (model X.prog X.w) X.A (f v u) Q X.xe s₂) X.xe s₁) X.xe s:=by
 refine kG (ha pins s σ H _ I h) λv s1 ⟨x,H1,I1,r1,q1⟩=>?_;refine kG (hb pins s1 σ H1 _ I1 q1) λu s2 ⟨y,H2,I2,r2,q2⟩=>?_;exact hf v u s2 x y H2 I2 r1 r2 q2
def Tq{op:Operator}{r:R2}(ho:OpR X (binaryOp op) r)(ha:PE X a ta)(hb:PE X b tb):PE X (.BinOp a op b pos) (tOp r ta tb):=by intro pins s σ H Q I h;exact wpAny_BinOp (Tp ha hb I h λv u s2 x y H2 I2 rx ry q=>ho pins s2 σ H2 x y v u Q I2 rx ry q)
def Ki{op:UnaryOp}{r:V->Hp->VK->Prop}(ho:UnR X (unaryOp op) r)(ha:PE X a ta):PE X (.UnaryOp op a pos) (tUn r ta):=by intro pins s σ H Q I h;exact UnaryOp_ (kG (ha pins s σ H _ I h) λv s1 ⟨x,H1,I1,r1,q1⟩=>ho pins s1 σ H1 x v Q I1 r1 q1)
def Wz{f:Value->Value->Sem Value}{C:Int->Int->Prop}{g:Int->Int->Int}
  (rule: ∀(i j:Int)(t u:Tok)(s:Shared)(Q:VP)(E:VP),C i j->Q (.int (g i j) s.toks) {s with toks:=s.toks+1}->wpAny (model X.prog X.w) X.A (f (.int i t) (.int j u)) Q E s):
  OpR X f (rI C λi j=>.int (g i j)):=by
 intro pins s σ H x y v u Q I rx ry h;obtain⟨i,j,rfl,rfl,hc,q⟩:=h;obtain⟨t,rfl⟩:=rx;obtain⟨t',rfl⟩:=ry;exact rule i j t t' s _ _ hc ⟨.int (g i j),H,I.tok _,⟨_,rfl⟩,q⟩
def Eb{f:Value->Value->Sem Value}{g:Int->Int->Int}
  (rule: ∀(i j:Int)(t u:Tok)(s:Shared)(Q:VP)(E:VP),Q (.int (g i j) s.toks) {s with toks:=s.toks+1}->wpAny (model X.prog X.w) X.A (f (.int i t) (.int j u)) Q E s):
  OpR X f (Ea λi j=>.int (g i j)):=by
 intro pins s σ H x y v u Q I rx ry h;obtain⟨i,j,rfl,rfl,q⟩:=h;obtain⟨t,rfl⟩:=rx;obtain⟨t',rfl⟩:=ry;exact rule i j t t' s _ _ ⟨.int (g i j),H,I.tok _,⟨_,rfl⟩,q⟩
def opB0{f:Value->Value->Sem Value}{g:Int->Int->Bool}
  (rule: ∀(i j:Int)(t u:Tok)(s:Shared)(Q:VP)(E:VP),Q (.bool (g i j)) s->wpAny (model X.prog X.w) X.A (f (.int i t) (.int j u)) Q E s):
  OpR X f (Ea λi j=>.bl (g i j)):=by
 intro pins s σ H x y v u Q I rx ry h;obtain⟨i,j,rfl,rfl,q⟩:=h;obtain⟨t,rfl⟩:=rx;obtain⟨t',rfl⟩:=ry;exact rule i j t t' s _ _ ⟨.bl (g i j),H,I,rfl,q⟩
def CMul(i j:Int):Prop:=(-(2 ^ 64)<i/\i<2 ^ 64)\/(-(2 ^ 64)<j/\j<2 ^ 64)
def CMul.ok{i j:Int}(h:CMul i j):IntMulOk i j:=by
 rcases h with⟨h1,h2⟩|⟨h1,h2⟩
 .exact .of_left (intBits_le_64 h1 h2)
 .exact .of_right (intBits_le_64 h1 h2)
def Mf:OpR X (binaryOp .Add) (Ea λi j=>.int (i+j)):=Eb λ_ _ _ _ _ _ _ q=>add_int q
def Mg:OpR X (binaryOp .Sub) (Ea λi j=>.int (i - j)):=Eb λ_ _ _ _ _ _ _ q=>sub_int q
def Mh:OpR X (binaryOp .Mod) (rI (λ_ j=>0<j) λi j=>.int (i % j)):=Wz λi j _ _ _ _ _ hc q=>by have h1:(0:Int)<j:=hc;exact mod_int' #[0] (by rw[Int.fmod_eq_emod_of_nonneg i #[0]];exact q)
def Mi:OpR X (binaryOp .BitAnd) (Ea λi j=>.int (Builtin.bitAnd i j)):=Eb λ_ _ _ _ _ _ _ q=>and_int q
def Tr:OpR X (binaryOp .BitOr) (Ea λi j=>.int (Builtin.bitOr i j)):=Eb λ_ _ _ _ _ _ _ q=>or_int q
def unI{f:Value->Sem Value}{g:Int->Int}
  (rule: ∀(i:Int)(t:Tok)(s:Shared)(Q:VP)(E:VP),Q (.int (g i) s.toks) {s with toks:=s.toks+1}->wpAny (model X.prog X.w) X.A (f (.int i t)) Q E s):
  UnR X f (rU λi=>.int (g i)):=by
 intro pins s σ H x v Q I rx h;obtain⟨i,rfl,q⟩:=h;obtain⟨t,rfl⟩:=rx;exact rule i t s _ _ ⟨.int (g i),H,I.tok _,⟨_,rfl⟩,q⟩
def XX:UnR X (unaryOp .USub) (rU λi=>.int (-i)):=unI λ_ _ _ _ _ q=>neg_int q
end
section
variable{X:Cx}{a b:Expr}{ta tb:TE}{pos:Pos}
def PM{pins:Ye}{σ:St}{H:Hp}{s:Shared}{Q:VK}{k k':Bool}(I:Inv X pins σ H s)(q:Q (.bl k) H)(e:k=k'):EP X pins σ Q (.bool k') s:=by subst e;exact⟨.bl k,H,I,rfl,q⟩
def Ts:OpR X (compareOp .Gt) (Ea λi j=>.bl (decide (j<i))):=opB0 λ_ _ _ _ _ _ _ q=>gt_int q
def UW:OpR X (compareOp .In) (λx y H Q=> ∃i j,x=.str i/\y=.str j/\Q (.bl (!(Builtin.Str.occurrences j i 0 j.length 1).isEmpty)) H):=by intro pins s σ H x y v u Q I rx ry h;obtain⟨i,j,rfl,rfl,q⟩:=h;obtain⟨t,rfl⟩:=rx;obtain⟨t',rfl⟩:=ry;exact in_str (PM I q rfl)
def Ec:OpR X (compareOp .IsNot) (λx y H Q=>y=.non/\Q (.bl (!decide (x=.non))) H):=by
 intro pins s σ H x y v u Q I rx ry h;obtain⟨rfl,q⟩:=h;cases ry;refine isnot_none_gen (PM I q ?_)
 cases x<;>first
  |(cases rx;rfl)
  |(obtain⟨t,rfl⟩:=rx;rfl)
def IL:OpR X (compareOp .NotIn) (λx y H Q=> ∃i j,x=.str i/\y=.str j/\Q (.bl (!(!(Builtin.Str.occurrences j i 0 j.length 1).isEmpty))) H):=by intro pins s σ H x y v u Q I rx ry h;obtain⟨i,j,rfl,rfl,q⟩:=h;obtain⟨t,rfl⟩:=rx;obtain⟨t',rfl⟩:=ry;exact notIn_str (PM I q rfl)
def OpR.or{f:Value->Value->Sem Value}{r r':R2}(h:OpR X f r)(h':OpR X f r'):OpR X f (λx y H Q=>r x y H Q\/r' x y H Q):=by
 intro pins s σ H x y v u Q I rx ry q;rcases q with q|q
 .exact h pins s σ H x y v u Q I rx ry q
 .exact h' pins s σ H x y v u Q I rx ry q
def Mj(b:Expr){op:CmpOp}(h:op≠.In:=by decide)(h2:op≠.NotIn:=by decide):behindInMarks op b=false:=by
 have e1:(op==CmpOp.In)=false:=by cases op<;>first |rfl|exact absurd rfl h
 have e2:(op==CmpOp.NotIn)=false:=by cases op<;>first |rfl|exact absurd rfl h2
 cases b<;>simp[behindInMarks,e1,e2]
def Tt(t:TE):TT:=λσ H Q=>t σ H λx H'=> ∃k,x=.bl k/\Q k H'
def Ed{op:CmpOp}{r:R2}(ho:OpR X (compareOp op) r)(ha:PE X a ta)(hb:PE X b tb)(hm:behindInMarks op b=false):PT X (.Compare a [op] [b] pos) (Tt (tOp r ta tb)):=by
 intro pins s σ H Q I h
 refine wpAny_isTrue_Compare1 (kG (ha pins s σ H _ I h) λv s1 ⟨x,H1,I1,r1,q1⟩=>kG (hb pins s1 σ H1 _ I1 q1) λu s2 ⟨y,H2,I2,r2,q2⟩=>
  kG (ho pins s2 σ H2 x y v u _ I2 r1 r2 q2) λc s3 ⟨z,H3,I3,r3,k,e,q3⟩=>?_) hm
 subst e;cases r3;exact wpAny_truthy_bool ⟨H3,I3,q3⟩
def Mk(K:Yj)(x:V)(H:Hp)(k:Bool):Prop:=
 match x with
 |.non=>k=false
 |.bl b=>k=b
 |.int i=>k=(i !=0)
 |.str y=>y.length<=sizeLine/\k=((y.length:Int) !=0)
 |.byt y=>y.size<=sizeLine/\k=((y.size:Int) !=0)
 |.ref p=>(∃xs,SqL K H p xs/\k= !xs.isEmpty)\/(∃xs,SqT K H p xs/\k= !xs.isEmpty)\/ ∃kvs,H p=some (.dK kvs)/\k= !kvs.isEmpty
 |_=>False
theorem PN{κ:Type}{kvs:List (κ×V)}{vs:List (κ×Value)}(r:KV kvs vs):(!vs.isEmpty)= !kvs.isEmpty:=by cases r<;>rfl
def CW{xs:List V}{its:Xj}(r:Vals xs its):(!its.toArray.isEmpty)= !xs.isEmpty:=by cases r<;>simp
def sI:(sizeLine:Nat)<2 ^ 63:=by rw[sizeLine_eq];decide
def Ml:TruR X (λx H Q=> ∃k,Mk X.K x H k/\Q k H):=by
 intro pins s σ H x v Q I rx h;obtain⟨k,e,q⟩:=h;have hl:=sI;have hs:sizeLine=16777216:=sizeLine_eq
 cases x with
 |non=>
  cases rx;have e':k=false:=e;subst e';exact truthy_none ⟨H,I,q⟩
 |bl b=>
  cases rx;have e':k=b:=e;subst e';exact wpAny_truthy_bool ⟨H,I,q⟩
 |int i=>
  obtain⟨t,rfl⟩:=rx;have e':k=(i !=0):=e;subst e';exact PySem.P.truthy_int ⟨H,I,q⟩
 |str y=>
  obtain⟨t,rfl⟩:=rx;obtain⟨hy,e'⟩:y.length<=sizeLine/\k=((y.length:Int) !=0):=e;subst e';exact PySem.P.truthy_str #[0] ⟨H,I.tok _,q⟩
 |byt y=>
  obtain⟨t,rfl⟩:=rx;obtain⟨hy,e'⟩:y.size<=sizeLine/\k=((y.size:Int) !=0):=e;subst e';exact PySem.W.truthy_bytes #[0] ⟨H,I.tok _,q⟩
 |ref p=>
  cases rx;have e':(∃xs,SqL X.K H p xs/\k= !xs.isEmpty)\/(∃xs,SqT X.K H p xs/\k= !xs.isEmpty)\/ ∃kvs,H p=some (.dK kvs)/\k= !kvs.isEmpty:=e;rcases e' with⟨xs,hx,e'⟩|⟨xs,hx,e'⟩|⟨kvs,hx,e'⟩
  .subst e';obtain⟨its,r,pl,hz⟩:=I.list hx;have hlen:=r.length;exact wpAny_truthy_list pl.isList (by simp only[sA];omega) ⟨H,I.tok _,by rw[CW r];exact q⟩
  .subst e';obtain⟨its,r,pl,hz⟩:=I.tuple hx;have hlen:=r.length;exact truthy_tuple pl (by simp only[sA];omega) ⟨H,I.tok _,by rw[CW r];exact q⟩
  .subst e';obtain⟨hz,hS,vs,r,m⟩:kvs.length<=sizeLine/\(p==sysModules)=false/\ ∃vs,KV kvs vs/\s.heap.DictOf (yP X.prog X.w) p vs:=I.hok p _ hx;have hlen:kvs.length=vs.length:=Paired.length r;exact wpAny_truthy_dict hS m #[0] ⟨H,I.tok _,by rw[PN r];exact q⟩
 |_=>exact(show False from e).elim
def XY(ha:PE X a ta)(he: ∀whole,isTrue a X.env whole=(do let v <-whole;standAt a.pos;holding [v] (truthy v))):
  PT X a (λσ H Q=>ta σ H λx H'=> ∃k,Mk X.K x H' k/\Q k H'):=by
 intro pins s σ H Q I h;exact isTrue_plain (kG (ha pins s σ H _ I h) λv s1 ⟨x,H1,I1,r1,q1⟩=>Ml pins s1 σ H1 x v Q I1 r1 q1) (he _)
def PQ:OpR X (binaryOp .Add) (λx y H Q=> ∃i j,x=.str i/\y=.str j/\i.length+j.length<=sizeLine/\Q (.str (i++j)) H):=by intro pins s σ H x y v u Q I rx ry h;obtain⟨i,j,rfl,rfl,hz,q⟩:=h;obtain⟨t,rfl⟩:=rx;obtain⟨t',rfl⟩:=ry;exact add_str (λt' tk=>⟨.str (i++j),H,I.tok _,⟨_,rfl⟩,q⟩) hz
def vals1{x:V}{us:Xj}(r:Vals [x] us): ∃u,us=[u]/\RelV x u:=by
 cases r with
 |cons r1 r2=>cases r2;exact⟨_,rfl,r1⟩
def vals2{x y:V}{us:Xj}(r:Vals [x,y] us): ∃u w',us=[u,w']/\RelV x u/\RelV y w':=by
 cases r with
 |cons r1 r2=>
  cases r2 with
  |cons r3 r4=>cases r4;exact⟨_,_,rfl,r1,r3⟩
end
structure Cls(K:Yj)(C:Addr):Prop where
 pg:PySem.W.plainGet K C Str.empty=true
 hd:PySem.W.hasDictIn K C=true
 po:PySem.W.plainOver K C=true
 sa:PySem.W.findIn K (.ref C) "__setattr__"=some (some (.builtin "object.__setattr__"))
section
variable{H:Hp}
inductive rK(K:Yj)(H:Hp):V->Value->Prop where
 |non:rK K H .non (.type "NoneType")
 |bl (x:Bool):rK K H (.bl x) (.type "bool")
 |int (i:Int):rK K H (.int i) (.type "int")
 |str (x:Str):rK K H (.str x) (.type "str")
 |flt (x:UInt64):rK K H (.flt x) (.type "float")
 |lst {a:Addr} {xs:List V} (e:H a=some (.lst xs)):rK K H (.ref a) (.type "list")
 |frz {a:Addr} {o:Obj} {xs:List V} (e:H a=some (.frz o (.lst xs))):rK K H (.ref a) (.type "list")
 |tup {a:Addr} {xs:List V} (e:H a=some (.tup xs)):rK K H (.ref a) (.type "tuple")
 |dK {a:Addr} {kvs:List (Key×V)} (e:H a=some (.dK kvs)):rK K H (.ref a) (.type "dict")
 |dT {a:Addr} {kvs:List (List Key×V)} (e:H a=some (.dT kvs)):rK K H (.ref a) (.type "dict")
 |ins {a C dx:Addr} {fs:List (Str×V)} (e:H a=some (.ins C dx fs)) (cl:Cls K C) (ha:PySem.W.findIn K (.ref C) "__class__"=some (some (.builtin "object.__class__")))
   (hn:PySem.W.specialIn K (.builtin "object.__class__") "__get__"=some (some (.builtin "getset_descriptor.__get__"))) (htk:PySem.W.takesIn K (.builtin "object.__class__")=some true)
   (hm:PySem.W.mroIn K C (.type "object")=some true):rK K H (.ref a) (.ref C)
end
structure Room(k:Nat)(A:Around):Prop where
 hd:A.handled=none
 dp:A.depth+3 * k+5<recursionLimit
 un:A.units+16 * k+200<cLine
def Room.mono{j k:Nat}{A:Around}(r:Room k A)(h:j<=k):Room j A:=⟨r.hd,by have:=r.dp;omega,by have:=r.un;omega⟩
def Room.deeper{k:Nat}{A:Around}(r:Room (k+1) A)(env:Env):Room k (A.deeper env):=
 ⟨r.hd,by have:=r.dp;show A.depth+1+3 * k+5<_;omega,by have:=r.un;show A.units+3+16 * k+200<_;omega⟩
def Room.in1{k:Nat}{A:Around}(r:Room (k+1) A):Room k A.in1:=
 ⟨r.hd,by have:=r.dp;show A.depth+3 * k+5<_;omega,by have:=r.un;show A.units+1+16 * k+200<_;omega⟩
def Room.depth{k:Nat}{A:Around}(r:Room k A):A.depth<recursionLimit:=by have:=r.dp;omega
def Room.units{k:Nat}{A:Around}(r:Room k A):A.units+64<cLine:=by have:=r.un;omega
def tNil:TA:=λ_ H Q=>Q [] H
def Tu(ta:TE)(tr:TA):TA:=λσ H Q=>ta σ H λx H1=>tr σ H1 λxs H2=>Q (x::xs) H2
section
variable{X:Cx}{e:Expr}{es:Yi}{te:TE}{t:TA}{pos:Pos}
def Mm:PA X [] tNil:=λ_ _ _ _ H Q I h=>Calls.spliced_nil ⟨[],H,I,.nil,h⟩
abbrev Q0(X:Cx)(e:Expr)(es:List Expr):Prop:=starEach (e::es) X.env=(false,eval e X.env)::starEach es X.env
def Ee(ha:PE X e te)(hr:PA X es t)(hs:Q0 X e es:=by rfl):PA X (e::es) (Tu te t):=by intro pos pins s σ H Q I h;rw[hs];show wpAny _ _ (spliced ((false,eval e X.env)::backTo pos (starEach es X.env))) _ _ s;refine Calls.spliced_cons (kG (ha pins s σ H _ I h) λu s1 ⟨x,H1,I1,r1,q1⟩=>?_);exact kG (hr pos pins s1 σ H1 _ I1 q1) λus s2 ⟨xs,H2,I2,r2,q2⟩=>⟨x::xs,H2,I2,.cons r1 r2,q2⟩
def tTup(t:TA):TE:=λσ H Q=>t σ H λxs H1=>xs.length<=sizeLine/\ ∀p,H1 p=none->Q (.ref p) (xH H1 p (.tup xs))
def tLst(t:TA):TE:=λσ H Q=>t σ H λxs H1=>xs.length<=sizeLine/\ ∀p,H1 p=none->Q (.ref p) (xH H1 p (.lst xs))
def Mn{x1}(h:PA X es t):PE X (.Tuple es x1 pos) (tTup t):=by intro pins s σ H Q I hq;refine wpAny_Tuple_spliced (kG (h pos pins s σ H _ I hq) λus s1 ⟨xs,H1,I1,r,z,q⟩=>⟨by rw[<-r.length];exact z,?_⟩);have hf:H1 s1.heap.objs.size=none:=I1.hok.fresh q9;refine⟨.ref s1.heap.objs.size,xH H1 s1.heap.objs.size (.tup xs),I1.laid (t':=s1.toks) (λb u e=>hP0 _ e) q9 ?_,rfl,q _ hf⟩;exact⟨z,us,r,⟨_,Heap.get?_push_size _ rfl,rfl,_,rfl⟩⟩
def Mo(h:PA X es t):PE X (.List es pos) (tLst t):=by intro pins s σ H Q I hq;refine wpAny_List_spliced (kG (h pos pins s σ H _ I hq) λus s1 ⟨xs,H1,I1,r,z,q⟩=>⟨by rw[<-r.length];exact z,?_⟩);have hf:H1 s1.heap.objs.size=none:=I1.hok.fresh q9;refine⟨.ref s1.heap.objs.size,xH H1 s1.heap.objs.size (.lst xs),I1.laid (t':=s1.toks) (λb u e=>hP0 _ e) q9 ?_,rfl,q _ hf⟩;exact⟨z,us,0,r,Heap.get?_push_size _ rfl⟩
end
abbrev Sp:=List V->Hp->VK->XK->Prop
abbrev UX:=List Env->Hp->Shared->XK->VP
structure Env0(P:Program)(w:World)(K:Yj)(mg:Yc)(base:Heap)(A:Around)(outer:List Env)(s:Shared)(H:Hp):Prop where
 frames:A.frames=some outer
 mod:Mod K mg base
 bs: ∀b o,base.get? b=some o->s.heap.get? b=some o/\H b=none
 bsz:base.objs.size<=s.heap.objs.size
 funs:s.heap.FunFrames base outer
 frf: ∀b∈RT outer,H b=none
 hok:HOk P w H s.heap
 bare:AllBare s.gens
def CE(outer:List Env)(P:Program)(w:World)(H:Hp)(s:Shared)(Q:VK)(u:Value)(s':Shared):Prop:=
 ∃v H',s'.os=s.os/\AllBare s'.gens/\Un (RT outer) [] H H' s.heap s'.heap/\HOk P w H' s'.heap/\RelV v u/\Q v H'
def CR(CX:UX)(outer:List Env)(P:Program)(w:World)(H:Hp)(s:Shared)(Q:VK)(E:XK)(r:Result)(s':Shared):Prop:=
 match r with
 |.ok (.ret u)=>CE outer P w H s Q u s'
 |.ok _=>False
 |.error e=>CX outer H s E e s'
structure FnOk(P:Program)(w:World)(K:Yj)(mg:Yc)(base:Heap)(CX:UX)(k:Nat)(f:Addr)(fd:FuncData)(ps:Yb)(sp:Sp):Prop where
 len: ∀vs H Q E,sp vs H Q E->vs.length=ps.length
 run: ∀(A:Around)(outer:List Env)(s:Shared)(H:Hp)(args:Args)(us:Xj)(vs:List V)(Q:VK)(E:XK),Room k A->Env0 P w K mg base A outer s H->BindsTo s fd args (ps.zip us)->Vals vs us->sp vs H Q E->
  codeAny (model P w) A (.call (.ref f) args) (CR CX outer P w H s Q E) s
def FnOk.imp{P:Program}{w:World}{K:Yj}{mg:Yc}{base:Heap}{CX:UX}{k:Nat}{f:Addr}{fd:FuncData}{ps:Yb}{sp sp':Sp}(F:FnOk P w K mg base CX k f fd ps sp)
  (h: ∀vs H Q E,sp' vs H Q E->sp vs H Q E):FnOk P w K mg base CX k f fd ps sp':=
 ⟨λvs H Q E q=>F.len vs H Q E (h _ _ _ _ q),λA outer s H args us vs Q E hr he hb hv hs=>F.run A outer s H args us vs Q E hr he hb hv (h _ _ _ _ hs)⟩
def Env0.in1{P:Program}{w:World}{K:Yj}{mg:Yc}{base:Heap}{A:Around}{outer:List Env}{s:Shared}{H:Hp}(e:Env0 P w K mg base A outer s H):
  Env0 P w K mg base A.in1 outer s H:=⟨e.frames,e.mod,e.bs,e.bsz,e.funs,e.frf,e.hok,e.bare⟩
section
variable{X:Cx}{pins:Ye}{σ:St}{H:Hp}{s s':Shared}
def Inv.env0(I:Inv X pins σ H s):Env0 X.prog X.w X.K X.mg X.base X.A X.stack s H:=
 ⟨I.ok.frames,I.ok.mod,I.bs,Nat.le_trans I.ok.bsz I.sz,I.stack,I.stkFree,I.hok,I.bare⟩
def Inv.after{Q:VK}{u:Value}(I:Inv X pins σ H s)(h:CE X.stack X.prog X.w H s Q u s'):EP X pins σ Q u s':=by obtain⟨v,H',os,bare,un,hok,r,q⟩:=h;obtain⟨hh,g,d,t,os'⟩:=s';obtain rfl:os'=s.os:=os;exact⟨v,H',I.call (h':=hh) (g':=g) (d':=d) (t':=t) (ch:=[]) un hok bare (λb z=>absurd z (by simp)),r,q⟩
end
def Tv(sp:Sp)(dvs:List V)(E:XK)(t:TA):TE:=λσ H Q=>t σ H λvs H1=>sp (vs++dvs) H1 Q E
def Binds(K:Yj)(fd:FuncData)(ps:Yb)(ds:Xj):Prop:=
 ∀(s:Shared)(us:Xj),K.In s.heap->(us++ds).length=ps.length->BindsTo s fd ⟨us,[]⟩ (ps.zip (us++ds))
def Binds.all{K:Yj}{fd:FuncData}{ps:Yb}(h: ∀us:List Value,us.length=ps.length->bindArgs fd ⟨us,[]⟩=pure (ps.zip us)):Binds K fd ps []:=λs us _ hl=>by rw[aN]at hl ⊢;exact .of_eq (h us hl)
def PR(CX:UX)(X:Cx)(E:XK):Prop:= ∀(pins:Ye)(σ:St)(H:Hp)(s:Shared)(e:Value)(s':Shared),Inv X pins σ H s->CX X.stack H s E e s'->X.xe e s'
section
variable{X:Cx}{CX:UX}{k:Nat}{f:Addr}{fd:FuncData}{ps:Yb}{sp:Sp}{dvs:List V}{ds:Xj}{E:XK}{x:Str}{p pos:Pos}{e:Expr}{es:Yi}{t:TA}
def Mp{pins:Ye}{σ:St}{H:Hp}{s:Shared}{Q:VK}{us:Xj}{vs:List V}(F:FnOk X.prog X.w X.K X.mg X.base CX k f fd ps sp)(hr:Room k X.A)(hb:Binds X.K fd ps ds)(hd:Vals dvs ds)(hx:PR CX X E)
  (I:Inv X pins σ H s) (r:Vals vs us) (h:sp (vs++dvs) H Q E):wpAny (model X.prog X.w) X.A (call (.ref f) us) (EP X pins σ Q) X.xe s:=by
 have r2:Vals (vs++dvs) (us++ds):=r.append hd;have hl:(us++ds).length=ps.length:=by rw[<-r2.length];exact F.len _ _ _ _ h
 refine wpAny_call (codeAny_mono (F.run X.A X.stack s H ⟨us,[]⟩ (us++ds) (vs++dvs) Q E hr I.env0 (hb s us I.kIn hl) r2 h) λr s' hq=>?_)
 cases r with
 |error e=>exact hx pins σ H s e s' I hq
 |ok fl=>
  cases fl with
  |ret u=>exact I.after hq
  |next=>exact False.elim hq
  |brk=>exact False.elim hq
  |cont=>exact False.elim hq
abbrev Q1(X:Cx)(p:Pos)(es:List Expr):Prop:=(backTo p (starEach es X.env)).any (·.1)=false
def Ef(F:FnOk X.prog X.w X.K X.mg X.base CX k f fd ps sp)(hr:Room k X.A)(hg:Gl X x)(hm:X.mg x=some (.ref f))(hk:PySem.W.keepIn X.K (.ref f)=true)(hb:Binds X.K fd ps ds)(hd:Vals dvs ds)(hx:PR CX X E)
  (ha:PA X (e::es) t) (hdb:(x==("__debug__":Str))=false:=by decide) (he:Q0 X e es:=by rfl) (hpl:Q1 X pos es:=by rfl):
  PE X (.Call (.Name x p) (e::es) [] pos) (Tv sp dvs E t):=by
 intro pins s σ H Q I h;refine wpAny_Call_Name_kw (IK I hg hm ?_ hdb);refine PySem.W.callWith_K (h₀:=X.base) I.ok.mod.kin hk (kG (ha pos pins s σ H _ I h) λus s1 ⟨vs,H1,I1,r,q⟩=>⟨I1.kIn,?_⟩) he hpl;exact Mp F hr hb hd hx I1 r q
end
structure FnScope(N P:Yb)(sc:Scope):Prop where
 kind:sc.kind=.function
 co:sc.isCoroutine=false
 gen:sc.isGenerator=false
 nd:N.Nodup
 pre:N.take P.length=P
 par: ∀x∈P,sc.names.lookup x=some .local\/sc.names.lookup x=some .cell
 nofree: ∀y∈sc.names,y.2≠.free
theorem GK{kindOf:Str->Option NameKind}{x:Str}: ∀{binds:List (Str×Value)}{m:Yc},(∀v,(x,v)∉binds)->bindL kindOf binds m x=m x
 |[],_,_=>rfl
 |(n,v)::r,m,h=>by
  unfold bindL;rw[GK λw hw=>h w (mO _ hw)];split
  .have:x≠n:=by rintro rfl;exact h v mF0
   simp[this]
  .rfl
theorem GL{kindOf:Str->Option NameKind}{x:Str}: ∀{binds:List (Str×Value)}{m:Yc},(∀v,(x,v)∉binds)->bindC kindOf binds m x=m x
 |[],_,_=>rfl
 |(n,v)::r,m,h=>by
  unfold bindC;rw[GL λw hw=>h w (mO _ hw)];split
  .rfl
  .have:x≠n:=by rintro rfl;exact h v mF0
   simp[this]
theorem GM{kindOf:Str->Option NameKind}{x:Str}{v:Value}: ∀{P:Yb}{vs:Xj}{i:Nat}{m:Yc},P.Nodup->P[i]? =some x->vs[i]? =some v->kindOf x=some .local->
  bindL kindOf (P.zip vs) m x=some v
 |[],_,_,_,_,h,_,_=>by simp at h
 |_::_,[],_,_,_,_,h,_=>by simp at h
 |p::P,w::vs,0,m,nd,h1,h2,hk=>by simp at h1 h2;subst h1;subst h2;show bindL kindOf ((p,w)::P.zip vs) m p=_;unfold bindL;rw[GK λv hv=>(nodup_cons.mp nd).1 (of_mem_zip hv).1,iP hk];simp
 |p::P,w::vs,i+1,m,nd,h1,h2,hk=>by show bindL kindOf ((p,w)::P.zip vs) m x=_;unfold bindL;exact GM (i:=i) (nodup_cons.mp nd).2 (by simpa using h1) (by simpa using h2) hk
theorem GN{kindOf:Str->Option NameKind}{x:Str}{v:Value}: ∀{P:Yb}{vs:Xj}{i:Nat}{m:Yc},P.Nodup->P[i]? =some x->vs[i]? =some v->kindOf x≠some .local->
  bindC kindOf (P.zip vs) m x=some v
 |[],_,_,_,_,h,_,_=>by simp at h
 |_::_,[],_,_,_,_,h,_=>by simp at h
 |p::P,w::vs,0,m,nd,h1,h2,hk=>by simp at h1 h2;subst h1;subst h2;show bindC kindOf ((p,w)::P.zip vs) m p=_;unfold bindC;rw[GL λv hv=>(nodup_cons.mp nd).1 (of_mem_zip hv).1,iN hk];simp
 |p::P,w::vs,i+1,m,nd,h1,h2,hk=>by show bindC kindOf ((p,w)::P.zip vs) m x=_;unfold bindC;exact GN (i:=i) (nodup_cons.mp nd).2 (by simpa using h1) (by simpa using h2) hk
def start(N:Yb)(vs:List V):St:=vs.map some++List.replicate (N.length - vs.length) none
def IM(CX:UX)(P:Program)(w:World)(K:Yj)(mg:Yc)(base:Heap)(N:Yb)(qual:Str)(scope:Scope)(f:Addr)(cd:Value)(A:Around)(outer:List Env)(s:Shared)(H:Hp)(E:XK):Cx where
 prog:=P
 w:=w
 K:=K
 mg:=mg
 base:=base
 A:=A.deeper (envOfC qual scope s.heap.objs.size f cd)
 N:=N
 s₀:=s
 H₀:=H
 env:=envOfC qual scope s.heap.objs.size f cd
 outer:=outer
 stack:=envOfC qual scope s.heap.objs.size f cd::outer
 ex:=[]
 calm:=true
 fn:=λ_=>true
 pn:=[]
 xe:=λe s'=>wpAny (model P w) (A.deeper (envOfC qual scope s.heap.objs.size f cd)) (leaving (envOfC qual scope s.heap.objs.size f cd) e) (λ_ s''=>CX outer H s E e s'') (λe' s''=>CX outer H s E e' s'') s'
def MD{sc:Scope}{n:Nat}{x:Str}(h:sc.names.lookup x=some .cell): ∃c,(cellsFrom n sc.names []).lookup x=some c:=by have q:=PySem.W.cellsFrom_some sc.names n [] (.inl h);exact Option.isSome_iff_exists.mp q
def UY{CX:UX}{P:Program}{w:World}{K:Yj}{mg:Yc}{base:Heap}{N ps:Yb}{qual:Str}{scope:Scope}{f:Addr}{cd:Value}{A:Around}{outer:List Env}{s s1:Shared}{H:Hp}{E:XK}{us:Xj}{vs:List V}
  (S:FnScope N ps scope) (hd:A.handled=none) (e0:Env0 P w K mg base A outer s H) (hl:vs.length=ps.length) (r:Vals vs us)
  (x:InCallC s s.heap.objs.size (bindL (envOfC qual scope s.heap.objs.size f cd).kindOf (ps.zip us) λ_=>none) (cellsFrom (s.heap.objs.size+1) scope.names []) (bindC (envOfC qual scope s.heap.objs.size f cd).kindOf (ps.zip us) λ_=>none) s1):
  Inv (IM CX P w K mg base N qual scope f cd A outer s H E) [] (start N vs) H s1:=by
 have hpl:ps.length<=N.length:=by have:=congrArg List.length S.pre;rw[lT]at this;omega
 obtain⟨h1,tk,rfl,hk⟩:=x.done;have noA: ∀b:Addr,b∉(IM CX P w K mg base N qual scope f cd A outer s H E).ex:=λb z=>absurd (show b∈([]:Ya)from z) (by simp)
 refine⟨⟨e0.mod,S.kind,rfl,rfl,Nat.le_refl _,λy z c h1 h2=>?_,λy hy=>?_,λy c _ h=>?_,λ_=>hd,Around.frames_deeper e0.frames,.inr ⟨rfl,rfl⟩,λb z=>absurd z (noA b),e0.bs,e0.bsz,λb _ _=>noA b,λb z=>absurd z (noA b),e0.funs,e0.frf⟩,
  rfl,e0.bare,Un.kept hk,⟨_,x.toInCall.ns,λi y v h1 h2 h3=>?_⟩,λy c h=>⟨_,x.cell y c h⟩,e0.hok.fresh q9,λy c h=>?_,λp hp=>absurd (show p∈([]:Ye)from hp) (by simp),e0.hok.kept hk,?_⟩
 .exact name_of_addr x.apart (PySem.mem_of_lookup h1) (PySem.mem_of_lookup h2)
 .have hy:scope.names.lookup y=some .cell\/scope.names.lookup y=some .free:=hy;rcases hy with hy|hy
  .exact MD hy
  .exact absurd rfl (S.nofree _ (PySem.mem_of_lookup hy))
 .exact le_of_lt (x.above y c (PySem.mem_of_lookup h))
 .have hi:i<vs.length:=by
   unfold start at h2;by_cases hi:i<vs.length
   .exact hi
   .rw[getElem?_append_right (by simpa using hi)]at h2;rw[List.getElem?_replicate]at h2;split at h2<;>cases h2
  have ha:vs[i]? =some v:=by
   unfold start at h2;rw[getElem?_append_left (by simpa using hi),getElem?_map]at h2
   cases e:vs[i]? with
   |none=>rw[e]at h2;cases h2
   |some a=>rw[e]at h2;cases h2;rfl
  obtain⟨u,hu,rv⟩:=r.get ha;have hp:ps[i]? =some y:=by rw[<-S.pre,List.getElem?_take_of_lt #[0]];exact h1
  have ndP:ps.Nodup:=by rw[<-S.pre];exact S.nd.sublist (List.take_sublist _ _)
  refine⟨u,rv,?_⟩;rcases S.par y (mem_of_getElem? hp)with k|k
  .exact .inl ⟨k,GM ndP hp hu k⟩
  .obtain⟨c,e⟩:=MD (n:=s.heap.objs.size+1) k;refine .inr ⟨.inl k,c,e,?_⟩;have q:=x.cell y c e;rw[GN ndP hp hu (by show scope.names.lookup y≠_;rw[k];decide)]at q;exact q
 .exact e0.hok.fresh (le_of_lt (x.above y c (PySem.mem_of_lookup h)))
 .unfold start;show _=N.length;rw[lA,lM,List.length_replicate];omega
def Tw{CX:UX}{P:Program}{w:World}{K:Yj}{mg:Yc}{base:Heap}{k:Nat}{f:Addr}{name qual:Str}{params:Arguments}{body:List Stmt}{scope:Scope}{dV kV doc pm cdv ct oc:Value}{an od:Option Addr}
  {osl:Array (Option Value)} {N ps:Yb} {sp:Sp} (lk:K.lookup f=some ⟨oc,od,.func (PySem.W.fnOf name qual params body scope dV kV doc pm an cdv ct),osl⟩) (hcd:PySem.W.codeIn K cdv qual=true) (S:FnScope N ps scope)
  (len: ∀vs H Q E,sp vs H Q E->vs.length=ps.length)
  (hbody: ∀(A:Around)(outer:List Env)(s:Shared)(H:Hp)(vs:List V)(Q:VK)(E:XK),Room k (A.deeper (envOfC qual scope s.heap.objs.size f cdv))->sp vs H Q E->
   ∃t,PSs (IM CX P w K mg base N qual scope f cdv A outer s H E) body t/\t {nx:=λ_ H'=>Q .non H',rt:=Q} (start N vs) H):
  FnOk P w K mg base CX (k+1) f (PySem.W.fnOf name qual params body scope dV kV doc pm an cdv ct) ps sp:=by
 refine⟨len,λA outer s H args us vs Q E hr e0 hb r hsp=>?_⟩;have hl:=len _ _ _ _ hsp;have KX:K.In s.heap:=e0.mod.kin.keeps λb o e=>(e0.bs b o e).1;have lim:s.heap.NoLimit:=e0.mod.nolimit.keeps λb o e=>(e0.bs b o e).1
 have hkind: ∀y∈ps.zip us,scope.names.lookup y.1=some .local\/(scope.names.lookup y.1=some .cell/\((cellsFrom (s.heap.objs.size+1) scope.names []).lookup y.1).isSome=true):=λ⟨n,v⟩ hy=>by
  rcases S.par n (of_mem_zip hy).1 with q|q
  .exact .inl q
  .exact .inr ⟨q,PySem.W.cellsFrom_some _ _ _ (.inl q)⟩
 refine codeAny_call_function hr.depth (KX _ _ lk) rfl S.co S.gen rfl (PySem.W.codeRec_of KX hcd) (hb _ _ _ _ ?_);refine wpAny_newFunctionEnv_cells S.kind hkind λenv he s1 x=>?_;subst he;refine⟨lim.keeps x.toInCall.keep,codeAny_func ?_⟩;obtain⟨t,ht,hq⟩:=hbody A outer s H vs Q E (hr.deeper _) hsp;have I:Inv (IM CX P w K mg base N qual scope f cdv A outer s H E) [] (start N vs) H s1:=UY S hr.hd e0 hl r x;refine wpAny_mono (ht [] s1 (start N vs) H _ I hq) (λfl s' hs=>?_) λe s' hs=>hs
 have fin: ∀{σ':St}{H':Hp}{v:V}{u:Value},Inv (IM CX P w K mg base N qual scope f cdv A outer s H E) [] σ' H' s'->RelV v u->Q v H'->CE outer P w H s Q u s':=
  λ{σ' H' v u} J rv q=>⟨v,H',J.os,J.bare,J.base,J.hok,rv,q⟩
 cases fl with
 |ret u=>
  obtain⟨v,σ',H',J,rv,q⟩:=hs;exact fin J rv q
 |next=>
  obtain⟨σ',H',J,q⟩:=hs;exact fin (v:=V.non) (u:=Value.none) J rfl q
 |brk=>
  obtain⟨_,_,_,q⟩:=hs;exact False.elim q
 |cont=>
  obtain⟨_,_,_,q⟩:=hs;exact False.elim q
section
variable{X:Cx}{x:Str}{p pos:Pos}{e:Expr}{es:Yi}{t:TA}{id T:String}{r:List V->Hp->VK->Prop}
def tCB(r:List V->Hp->VK->Prop)(t:TA):TE:=λσ H Q=>t σ H λvs H1=>r vs H1 Q
def XZ(hc:CallR X (.builtin id) r)(hg:Gl X x)(hm:X.mg x=none)(hv:bootBuiltins x=some (.builtin id))(ha:PA X (e::es) t)(hn:x≠"__name__":=by decide)(hdb:(x==("__debug__":Str))=false:=by decide)
  (he:Q0 X e es:=by rfl) (hpl:Q1 X pos es:=by rfl):PE X (.Call (.Name x p) (e::es) [] pos) (tCB r t):=by
 intro pins s σ H Q I h;refine wpAny_Call_Name_kw (oA I hg hm hv ?_ hn hdb);exact PyProof.Rows.callWith_builtin1 (kG (ha pos pins s σ H _ I h) λus s1 ⟨vs,H1,I1,r1,q1⟩=>hc pins s1 σ H1 vs us Q I1 r1 q1) he hpl
def UZ(hc:CallR X (.type T) r)(hg:Gl X x)(hm:X.mg x=none)(hv:bootBuiltins x=some (.type T))(ha:PA X (e::es) t)(hn:x≠"__name__":=by decide)(hdb:(x==("__debug__":Str))=false:=by decide)
  (he:Q0 X e es:=by rfl) (hpl:Q1 X pos es:=by rfl):PE X (.Call (.Name x p) (e::es) [] pos) (tCB r t):=by
 intro pins s σ H Q I h;refine wpAny_Call_Name_kw (oA I hg hm hv ?_ hn hdb);exact PyProof.Rows.callWith_type1 (kG (ha pos pins s σ H _ I h) λus s1 ⟨vs,H1,I1,r1,q1⟩=>hc pins s1 σ H1 vs us Q I1 r1 q1) he hpl
end
end L2
namespace HT
open PySem PyProof.Rows
section
variable{prog:Program}{w:World}{A:Around}{E:VP}{s:Shared}
def cat_tup{t b:Addr}{vs ws:Xj}{Q:VP}(ht:IsTup s.heap t vs.toArray)(hb:IsTup s.heap b ws.toArray)(hv:vs≠[])
  (h1:ws=[]->Q (.ref t) s) (h2:ws≠[]->Q (.ref s.heap.objs.size) {s with heap:=s.heap.push {cls:=.type "tuple",data:=.seq (vs++ws).toArray}})
  (hsz:vs.length+ws.length<=sizeLine):wpAny (model prog w) A (binaryOp .Add (.ref t) (.ref b)) Q E s:=by
 obtain⟨⟨cls,dd,data,sl⟩,ho,hc,n,hd⟩:=id ht;obtain⟨⟨cls2,dd2,data2,sl2⟩,ho2,hc2,n2,hd2⟩:=id hb;simp only at hc hd hc2 hd2;subst hc hd hc2 hd2;have e:vs.toArray++ws.toArray=(vs++ws).toArray:=by simp
 by_cases hw:ws=[]
 .exact concat_meets ⟨_,ho,rfl⟩ ⟨_,ho2,rfl⟩ noFill_tuple_add seq_tuple_add PySem.F.slot_tuple_add PySem.F.entry_tuple_add (PySem.F.args_tuple_add_2 _ _)
   (tuple_addW1 t b vs.toArray ws.toArray n n2 dd dd2 sl sl2 (by simpa using hv) (by simp[hw])) ⟨ho,ho2,h1 hw⟩
 .refine concat_meets ⟨_,ho,rfl⟩ ⟨_,ho2,rfl⟩ noFill_tuple_add seq_tuple_add PySem.F.slot_tuple_add PySem.F.entry_tuple_add (PySem.F.args_tuple_add_2 _ _)
   (tuple_addW2 t b vs.toArray ws.toArray n n2 dd dd2 sl sl2 (by simpa using hv) (by simpa using hw) (by rw[sA,sA];exact hsz)) ⟨ho,ho2,?_⟩
  rw[e];exact h2 hw
def sIx(n d:Nat):Option Int->Nat
 |none=>d
 |some v=>if v<0 then(v+(n:Int)).toNat else min v.toNat n
def sIx_nat(n d k:Nat):sIx n d (some (k:Int))=min k n:=by show(if(k:Int)<0 then((k:Int)+(n:Int)).toNat else min (k:Int).toNat n)=min k n;rw[iN #[0],Int.toNat_natCast]
def sIx_le(n d:Nat)(hd:d<=n)(o:Yh):sIx n d o<=n:=by
 cases o with
 |none=>exact hd
 |some v=>
  show(if v<0 then(v+(n:Int)).toNat else min v.toNat n)<=n;by_cases hv:v<0
  .rw[iP hv];omega
  .rw[iN hv];exact Nat.min_le_right _ _
def RW(v:Int)(n d:Nat):(if v<0 then max (v+(n:Int)) 0 else min v (n:Int))=((sIx n d (some v):Nat):Int):=by
 show(if v<0 then max (v+(n:Int)) 0 else min v (n:Int))=(((if v<0 then(v+(n:Int)).toNat else min v.toNat n):Nat):Int)
 by_cases hv:v<0
 .simp only[iP hv];omega
 .simp only[iN hv];omega
def PV(lo hi:Yh)(n:Nat):Builtin.Slice.sliceAdjust lo hi 1 (n:Int)=(((sIx n 0 lo:Nat):Int),((sIx n n hi:Nat):Int)):=by
 have h1: ¬((1:Int)<0):=by omega
 unfold Builtin.Slice.sliceAdjust;simp only[h1,iF];refine Prod.ext ?_ ?_
 .cases lo with
  |none=>rfl
  |some v=>exact RW v n 0
 .cases hi with
  |none=>rfl
  |some v=>exact RW v n n
def PX(i j:Nat):Builtin.Slice.slicePlaces (i:Int) (j:Int) 1=j - i:=by
 unfold Builtin.Slice.slicePlaces;have h1:(1:Int)>0:=by omega
 simp only[h1,if_true,Int.ediv_one];split<;>omega
def CY{v:Value}{o:Yh}{Q:Option Int->Shared->Prop}(p:IsPart v o)(h:Q o s):wpAny (model prog w) A (Builtin.Slice.slicePartIndex v) Q E s:=by
 cases p with
 |none=>exact slicePart_none h
 |int i t=>exact slicePart_int h
def sliceApplied_gen{sl:Addr}{vl vu:Value}{lo hi:Yh}{n:Nat}{Q:Int×Int×Nat->Shared->Prop}(hs:s.heap.IsSliceOf sl vl vu .none)(pl:IsPart vl lo)(pu:IsPart vu hi)
  (h:Q (((sIx n 0 lo:Nat):Int),1,sIx n n hi - sIx n 0 lo) s):wpAny (model prog w) A (Builtin.Slice.sliceApplied (.ref sl) (pure (n:Int))) Q E s:=by
 obtain⟨os,hos,hcs,hds⟩:=id hs;unfold Builtin.Slice.sliceApplied Builtin.Slice.sliceFields;refine wB (wB (wpAny_field hos hds (x:=vl) rfl (wB (wpAny_field hos hds (x:=vu) rfl (wB (wpAny_field hos hds (x:=.none) rfl (wP ?_)))))));refine wB (slicePart_none ?_);show wpAny _ _ (if((1:Int)==0)=true then _ else _) _ _ s;rw[iN (by decide)];refine wB (CY pl (wB (CY pu (wB (wP ?_)))));show wpAny _ _ (match Builtin.Slice.sliceAdjust lo hi 1 (n:Int)with |(lo,hi)=>pure (lo,(1:Int),Builtin.Slice.slicePlaces lo hi 1)) _ _ s;rw[PV lo hi n];show wpAny _ _ (pure (((sIx n 0 lo:Nat):Int),(1:Int),Builtin.Slice.slicePlaces ((sIx n 0 lo:Nat):Int) ((sIx n n hi:Nat):Int) 1)) _ _ s;rw[PX];exact wP h
def YA(xs:Xk)(i k:Nat):((List.range k).filterMap λ(m:Nat)=>xs[((i:Int)+(m:Int) * 1).toNat]?).toArray=((xs.toList.drop i).take k).toArray:=by
 have e:(λ(m:Nat)=>xs[((i:Int)+(m:Int) * 1).toNat]?)=λm=>xs[i+m]? :=by
  funext m;have:((i:Int)+(m:Int) * 1).toNat=i+m:=by omega
  rw[this]
 rw[e];have:=pick_run xs i k;rw[filterMap_map]at this;have e2:((λx=>xs[x]?)∘λx=>i+x)=λm=>xs[i+m]? :=rfl;rw[e2]at this;rw[this]
def getItem_tuple_cut{t sl:Addr}{items:Xk}{vl vu:Value}{lo hi:Yh}{Q:VP}(ht:IsTup s.heap t items)(hs:s.heap.IsSliceOf sl vl vu .none)(pl:IsPart vl lo)(pu:IsPart vu hi)
  (hw: ¬(sIx items.size 0 lo=0/\sIx items.size items.size hi=items.size))
  (h:Q (.ref s.heap.objs.size) {s with heap:=s.heap.push {cls:=.type "tuple",data:=.seq ((items.toList.drop (sIx items.size 0 lo)).take (sIx items.size items.size hi - sIx items.size 0 lo)).toArray}})
  (hsz:items.size<=sizeLine):wpAny (model prog w) A (getItem (.ref t) (.ref sl)) Q E s:=by
 have htake:sizeOk (.seq ((items.toList.drop (sIx items.size 0 lo)).take (sIx items.size items.size hi - sIx items.size 0 lo)).toArray):=by show((items.toList.drop (sIx items.size 0 lo)).take (sIx items.size items.size hi - sIx items.size 0 lo)).toArray.size<=sizeLine;rw[sA,lT,List.length_drop,Array.length_toList];omega
 have hj:sIx items.size items.size hi<=items.size:=sIx_le _ _ q9 hi;obtain⟨os,hos,hcs,hds⟩:=id hs;have hTs:s.TypeIs (.ref sl) "slice":=⟨os,hos,hcs⟩
 unfold getItem
 try with_reducible refine wpAny_holding ?_
 first |refine wB (wP ?_)|skip
 refine wB (wpAny_sequenceKey ht.typeIs (by decide) ?_)
 refine wB (wpAny_callSpecial?_slot (name:=Str.ofString "__getitem__") ht.typeIs PyProof.Rows.slot_tuple_getitem
  (wpAny_call_entry PyProof.Rows.slot_tuple_getitem ht.typeIs entry_tuple_getitem ?_ (args_tuple_getitem _ _)))
 show wpAny _ _ (Builtin.Tuple.tupleItemsOf (.ref t) >>= _) _ _ s;refine wB (tupleItemsOf_ ht ?_);refine wB (wpAny_typeOf hTs ?_);rw[iP (by decide)];refine wB (sliceApplied_gen hs pl pu ?_);have hno: ¬((((sIx items.size 0 lo:Nat):Int)==0&&(1:Int)==1&&(sIx items.size items.size hi - sIx items.size 0 lo)==items.size)=true):=by intro q;rw[aE,aE]at q;have q1:((sIx items.size 0 lo:Nat):Int)=0:=eq_of_beq q.1.1;have q2:sIx items.size items.size hi - sIx items.size 0 lo=items.size:=eq_of_beq q.2;exact hw ⟨by omega,by omega⟩
 show wpAny _ _ (if(((sIx items.size 0 lo:Nat):Int)==0&&(1:Int)==1&&(sIx items.size items.size hi - sIx items.size 0 lo)==items.size)=true then _ else _) _ _ s;rw[iN hno,YA]
 first
  |exact wB (m:=Builtin.Tuple.tupleExact _) (wpAny_newObj_type (wP ⟨_,rfl,wP h⟩) htake)
  |exact wB (m:=Builtin.Tuple.tupleExact _) (wpAny_newObj_type (wB (wP (wP ⟨_,rfl,wP h⟩))) htake)
  |exact wB (wB (m:=Builtin.Tuple.tupleExact _) (wpAny_newObj_type (wP (wP ⟨_,rfl,wP h⟩)) htake))
  |exact wB (wB (m:=Builtin.Tuple.tupleExact _) (wpAny_newObj_type (wP ⟨_,rfl,wP h⟩) htake))
end
end HT
namespace L2
open PySem PySem.Spec PyProof.Rows
abbrev TO:=St->Hp->(Option Int->Hp->Prop)->Prop
def PO(X:Cx)(e:Option Expr)(t:TO):Prop:=
 ∀(pins:Ye)(s:Shared)(σ:St)(H:Hp)(Q:Option Int->Hp->Prop),Inv X pins σ H s->t σ H Q->
  wpAny (model X.prog X.w) X.A (evalPart e X.env) (λu s'=> ∃o H',Inv X pins σ H' s'/\IsPart u o/\Q o H') X.xe s
def Eg:TO:=λ_ H Q=>Q none H
def Tx(t:TE):TO:=λσ H Q=>t σ H λx H1=> ∃i,x=.int i/\Q (some i) H1
section
variable{X:Cx}{e:Expr}{te:TE}{lo hi:Option Expr}{tl th:TO}{pos p2:Pos}
def Eh:PO X none Eg:=by intro pins s σ H Q I h;rw[evalPart_none];exact wP ⟨none,H,I,.none,h⟩
def Ei(h:PE X e te):PO X (some e) (Tx te):=by intro pins s σ H Q I hw;rw[evalPart_some];refine kG (h pins s σ H _ I hw) λu s1 ⟨x,H1,I1,r1,q1⟩=>?_;obtain⟨i,rfl,q⟩:=q1;obtain⟨t,rfl⟩:=r1;exact⟨some i,H1,I1,.int i t,q⟩
def SlR(X:Cx)(r:V->Option Int->Option Int->Hp->VK->Prop):Prop:=
 ∀(pins:Ye)(s:Shared)(σ:St)(H:Hp)(x:V)(v vl vu:Value)(lo hi:Yh)(sl:Addr)(Q:VK),Inv X pins σ H s->RelV x v->s.heap.IsSliceOf sl vl vu .none->IsPart vl lo->IsPart vu hi->r x lo hi H Q->
  ∃T id,typeLookup (.type T) "__getitem__"=pure (some (.builtin id))/\s.TypeIs v T/\wpAny (model X.prog X.w) X.A (getItem v (.ref sl)) (EP X pins σ Q) X.xe s
def SlR.or{r r':V->Option Int->Option Int->Hp->VK->Prop}(h:SlR X r)(h':SlR X r'):SlR X (λx lo hi H Q=>r x lo hi H Q\/r' x lo hi H Q):=by
 intro pins s σ H x v vl vu lo hi sl Q I rx hs pl pu q;rcases q with q|q
 .exact h pins s σ H x v vl vu lo hi sl Q I rx hs pl pu q
 .exact h' pins s σ H x v vl vu lo hi sl Q I rx hs pl pu q
def tSl(r:V->Option Int->Option Int->Hp->VK->Prop)(te:TE)(tl th:TO):TE:=λσ H Q=>te σ H λx H1=>tl σ H1 λl H2=>th σ H2 λu H3=>r x l u H3 Q
def YB{r:V->Option Int->Option Int->Hp->VK->Prop}(hr:SlR X r)(he:PE X e te)(hl:PO X lo tl)(hu:PO X hi th):PE X (.Subscript e (.Slice lo hi none p2) pos) (tSl r te tl th):=by intro pins s σ H Q I h;refine Subscript_ (kG (he pins s σ H _ I h) λv s1 ⟨x,H1,I1,r1,q1⟩=>?_);refine wpAny_Slice (kG (hl pins s1 σ H1 _ I1 q1) λvl s2 ⟨l,H2,I2,pl,q2⟩=>kG (hu pins s2 σ H2 _ I2 q2) λvu s3 ⟨u,H3,I3,pu,q3⟩=>?_);rw[evalPart_none];refine wP ?_;have I4:Inv X pins σ H3 {s3 with heap:=s3.heap.push {cls:=.type "slice",data:=.fields #[vl,vu,.none]}}:=I3.kept (t':=s3.toks) λb ob q=>hP0 _ q;obtain⟨T,id,hT,ht,hg⟩:=hr pins {s3 with heap:=s3.heap.push {cls:=.type "slice",data:=.fields #[vl,vu,.none]}} σ H3 x v vl vu l u s3.heap.objs.size Q I4 r1 (Heap.IsSliceOf.new ..) pl pu q3;show wpAny (model X.prog X.w) X.A (subscriptTail e (.Slice lo hi none p2) v (.ref s3.heap.objs.size)) (EP X pins σ Q) X.xe {s3 with heap:=s3.heap.push {cls:=.type "slice",data:=.fields #[vl,vu,.none]}};exact tail_any (ops:=[.ref s3.heap.objs.size,v]) ht hT hg (by with_unfolding_all rfl)
def ME(xs:List V)(lo hi:Yh):List V:=(xs.drop (HT.sIx xs.length 0 lo)).take (HT.sIx xs.length xs.length hi - HT.sIx xs.length 0 lo)
def AC(xs:List V)(lo hi:Yh):(ME xs lo hi).length<=xs.length:=by unfold ME;rw[lT,List.length_drop];omega
def rSlT(K:Yj):V->Option Int->Option Int->Hp->VK->Prop:=λx lo hi H Q=> ∃a xs,x=.ref a/\SqT K H a xs/\
 ¬(HT.sIx xs.length 0 lo=0/\HT.sIx xs.length xs.length hi=xs.length)/\ ∀p,H p=none->Q (.ref p) (xH H p (.tup (ME xs lo hi)))
def Mq:SlR X (rSlT X.K):=by
 intro pins s σ H x v vl vu lo hi sl Q I rx hs pl pu h;obtain⟨a,xs,rfl,hx,hw,q⟩:=h;cases rx;obtain⟨its,r,ht,hz⟩:=I.tuple hx;have hlen:its.toArray.size=xs.length:=by rw[sA];exact r.length.symm
 refine⟨"tuple",_,PyProof.Rows.slot_tuple_getitem.lookup,ht.typeIs,?_⟩;refine HT.getItem_tuple_cut ht hs pl pu (by rw[hlen];exact hw) ?_ (by rw[hlen];exact hz);rw[hlen];refine⟨.ref s.heap.objs.size,_,I.laid (t':=s.toks) (o:=.tup (ME xs lo hi)) (λb ob q=>hP0 _ q) q9 ?_,rfl,q _ (I.hok.fresh q9)⟩;exact⟨Nat.le_trans (AC xs lo hi) hz,_,(r.drop (HT.sIx xs.length 0 lo)).take (HT.sIx xs.length xs.length hi - HT.sIx xs.length 0 lo),IsTup.new _ _⟩
def Ua(K:Yj):R2:=λx y H Q=> ∃a b xs ys,x=.ref a/\y=.ref b/\SqT K H a xs/\SqT K H b ys/\xs≠[]/\xs.length+ys.length<=sizeLine/\
 (ys=[]->Q (.ref a) H)/\(ys≠[]-> ∀p,H p=none->Q (.ref p) (xH H p (.tup (xs++ys))))
def Vals.nil_iff{xs:List V}{us:Xj}(r:Vals xs us):us=[]↔xs=[]:=by
 cases r with
 |nil=>simp
 |cons _ _=>simp
def Ej:OpR X (binaryOp .Add) (Ua X.K):=by intro pins s σ H x y v u Q I rx ry h;obtain⟨a,b,xs,ys,rfl,rfl,ha,hb,hx,hz,q1,q2⟩:=h;cases rx;cases ry;obtain⟨its,r1,p1,_⟩:=I.tuple ha;obtain⟨its2,r2,p2,_⟩:=I.tuple hb;refine HT.cat_tup p1 p2 (λz=>hx (r1.nil_iff.mp z)) (λz=>⟨.ref a,H,I,rfl,q1 (r2.nil_iff.mp z)⟩) (λz=>?_) (by rw[<-r1.length, <-r2.length];exact hz);refine⟨.ref s.heap.objs.size,_,I.laid (t':=s.toks) (o:=.tup (xs++ys)) (λb ob q=>hP0 _ q) q9 ?_,rfl,q2 (λw=>z (r2.nil_iff.mpr w)) _ (I.hok.fresh q9)⟩;exact⟨by rw[lA];exact hz,_,r1.append r2,IsTup.new _ _⟩
end
def IO(n:Nat)(i:Int):Option Nat:=if 0<=i then(if i<n then some i.toNat else none)else if -(n:Int)<=i then some (i+n).toNat else none
def tD{α:Type}(xs:List α)(i:Int):Option α:=(IO xs.length i).bind λj=>xs[j]?
def IP{n:Nat}{i:Int}{j:Nat}(h:IO n i=some j):seqIndex? i n=some j/\j<n/\ -(n:Int)<=i/\i<n:=by
 unfold IO at h;by_cases h0:0<=i
 .rw[iP h0]at h;by_cases h1:i<n
  .rw[iP h1]at h;have e:i.toNat=j:=Option.some.inj h;exact⟨by rw[seqIndex_of h0 h1,e],by omega,by omega,h1⟩
  .rw[iN h1]at h;cases h
 .rw[iN h0]at h;by_cases h1: -(n:Int)<=i
  .rw[iP h1]at h;have e:(i+n).toNat=j:=Option.some.inj h;exact⟨by rw[seqIndex_neg #[0] h1,e],by omega,h1,by omega⟩
  .rw[iN h1]at h;cases h
def IQ{α:Type}{xs:List α}{i:Int}{v:α}(h:tD xs i=some v): ∃j,seqIndex? i xs.length=some j/\xs[j]? =some v/\j<xs.length/\ -(xs.length:Int)<=i/\i<xs.length:=by
 unfold tD at h
 cases e:IO xs.length i with
 |none=>rw[e]at h;cases h
 |some j=>
  rw[e]at h;obtain⟨h1,h2,h3,h4⟩:=IP e;exact⟨j,h1,h,h2,h3,h4⟩
def atI_nat{α:Type}{xs:List α}{j:Nat}{v:α}(h:xs[j]? =some v):tD xs (j:Int)=some v:=by
 have hj:j<xs.length:=(gS.mp h).1;have e:IO xs.length (j:Int)=some j:=by unfold IO;rw[iP #[0],iP #[0]];simp
 unfold tD;rw[e];exact h
def BU(b:Expr):Prop:= ∀o i,subscripted b false o i=operate [o,i] (getItem o i)
def IxR(X:Cx)(r:R2):Prop:=
 ∀(value slice:Expr)(pins:Ye)(s:Shared)(σ:St)(H:Hp)(x y:V)(v u:Value)(Q:VK),Inv X pins σ H s->RelV x v->RelV y u->r x y H Q->
  subscripted slice false v u=operate [v,u] (getItem v u)->wpAny (model X.prog X.w) X.A (subscriptTail value slice v u) (EP X pins σ Q) X.xe s
def YC(X:Cx)(id:String)(r:V->List V->Hp->VK->Prop):Prop:=
 ∀(pins:Ye)(s:Shared)(σ:St)(H:Hp)(x:V)(xs:List V)(v:Value)(us:Xj)(Q:VK),Inv X pins σ H s->RelV x v->Vals xs us->r x xs H Q->
  wpAny (model X.prog X.w) X.A (call (.builtin id) (v::us)) (EP X pins σ Q) X.xe s
section
variable{X:Cx}{a b:Expr}{ta tb:TE}{pos:Pos}
def IxR.or{r r':R2}(h:IxR X r)(h':IxR X r'):IxR X (λx y H Q=>r x y H Q\/r' x y H Q):=by
 intro value slice pins s σ H x y v u Q I rx ry q hs;rcases q with q|q
 .exact h value slice pins s σ H x y v u Q I rx ry q hs
 .exact h' value slice pins s σ H x y v u Q I rx ry q hs
def Ub{r:R2}(hr:IxR X r)(ha:PE X a ta)(hb:PE X b tb)(hs:BU b):PE X (.Subscript a b pos) (tOp r ta tb):=by intro pins s σ H Q I h;exact Subscript_ (Tp ha hb I h λv u s2 x y H2 I2 rx ry q=>hr a b pins s2 σ H2 x y v u Q I2 rx ry q (hs _ _))
def Uc(K:Yj):R2:=λx y H Q=> ∃p xs i v,x=.ref p/\y=.int i/\SqL K H p xs/\tD xs i=some v/\Q v H
def Ud(K:Yj):R2:=λx y H Q=> ∃p xs i v,x=.ref p/\y=.int i/\SqT K H p xs/\tD xs i=some v/\Q v H
def Ue:R2:=λx y H Q=> ∃z i c,x=.str z/\y=.int i/\z.length<=sizeLine/\tD z.cps.toList i=some c/\Q (.str ⟨#[c]⟩) H
def Ek:IxR X (Uc X.K):=by
 intro value slice pins s σ H x y v u Q I rx ry h hs;obtain⟨p,xs,i,z,rfl,rfl,hq,he,q⟩:=h;cases rx;obtain⟨t,rfl⟩:=ry;obtain⟨its,r,pl,hz⟩:=I.list hq;obtain⟨j,h1,h2,h3,h4,h5⟩:=IQ he;obtain⟨w,ew,rw'⟩:=r.get h2;have hl:=r.length;have hn:=sI;have fin:EP X pins σ Q w s:=⟨z,H,I,rw',q⟩
 by_cases h0:0<=i
 .have hj:i.toNat=j:=by rw[seqIndex_of h0 h5]at h1;exact Option.some.inj h1
  exact item_listR pl.isList h0 #[0] (by rw[hj];simpa using ew) fin hs
 .have hj:(i+(its.toArray.size:Int)).toNat=j:=by rw[seqIndex_neg #[0] h4]at h1;rw[sA, <-hl];exact Option.some.inj h1
  exact subscriptTail_builtinR (x:=w) pl.isList.typeIs slot_list_getitem.lookup
   (wpAny_getItem_list_neg (Q:=λr s'=>r=w/\EP X pins σ Q r s') pl.isList #[0] (by rw[sA]<;>omega) #[0] (by rw[hj];simpa using ew) ⟨rfl,fin⟩) hs
def Mr:IxR X (Ud X.K):=by
 intro value slice pins s σ H x y v u Q I rx ry h hs;obtain⟨p,xs,i,z,rfl,rfl,hq,he,q⟩:=h;cases rx;obtain⟨t,rfl⟩:=ry;obtain⟨its,r,pl,hz⟩:=I.tuple hq;obtain⟨j,h1,h2,h3,h4,h5⟩:=IQ he;obtain⟨w,ew,rw'⟩:=r.get h2;have hl:=r.length;have hn:=sI;have fin:EP X pins σ Q w s:=⟨z,H,I,rw',q⟩
 exact subscriptTail_builtinR (x:=w) pl.typeIs slot_tuple_getitem.lookup
  (getItem_tuple (j:=j) (Q:=λr s'=>r=w/\EP X pins σ Q r s') pl #[0] #[0] (by rw[sA, <-hl];exact h1) (by simpa using ew) ⟨rfl,fin⟩) hs
def ix_str:IxR X Ue:=by
 intro value slice pins s σ H x y v u Q I rx ry h hs;obtain⟨z,i,c,rfl,rfl,hz,he,q⟩:=h;obtain⟨t,rfl⟩:=rx;obtain⟨t',rfl⟩:=ry;obtain⟨j,h1,h2,h3,h4,h5⟩:=IQ he;have hl:z.cps.toList.length=z.length:=by simp[Str.length]
 rw[hl]at h1 h4 h5;have hn:=sI;exact tail_any (typeIs_str s z t) slot_str_getitem.lookup (getItem_str (c:=c) (by have e1:decide (i< -(2 ^ 63:Int))=false:=dF0 #[0];have e2:decide (i>=2 ^ 63)=false:=dF0 #[0];rw[e1,e2,Bool.or_false]) (by rw[h1];simpa using h2) ⟨.str ⟨#[c]⟩,H,I.tok _,⟨_,rfl⟩,q⟩) hs
def rIx(K:Yj):R2:=λx y H Q=>Uc K x y H Q\/Ud K x y H Q\/Ue x y H Q
def Mu:IxR X (rIx X.K):=Ek.or (Mr.or ix_str)
def PY(its:Xj)(n j:Nat)(u:Value):Obj.mapSeq (·.setIfInBounds j u) {cls:=.type "list",data:=.seq its.toArray n}={cls:=.type "list",data:=.seq (its.set j u).toArray n}:=by simp[Obj.mapSeq]
def Inv.lst{pins:Ye}{σ:St}{H:Hp}{s:Shared}{p:Addr}{xs:List V}(I:Inv X pins σ H s)(h:H p=some (.lst xs)):
  ∃(its:Xj)(n:Nat),Vals xs its/\s.heap.get? p=some {cls:=.type "list",data:=.seq its.toArray n}/\xs.length<=sizeLine:=by
 obtain⟨z,its,n,r,e⟩:=I.hok p _ h;exact⟨its,n,r,e,z⟩
def Inv.lstUpd{pins:Ye}{σ:St}{H:Hp}{s:Shared}{p:Addr}{xs ys:List V}{its its':Xj}{n n':Nat}{f:Obj->Obj}(I:Inv X pins σ H s)(h:H p=some (.lst xs))
  (ho:s.heap.get? p=some {cls:=.type "list",data:=.seq its.toArray n}) (hf:f {cls:=.type "list",data:=.seq its.toArray n}={cls:=.type "list",data:=.seq its'.toArray n'}) (r:Vals ys its') (hz:ys.length<=sizeLine) (t:Nat):
  Inv X pins σ (xH H p (.lst ys)) {s with heap:=s.heap.update p f,toks:=t}:=by
 have e:(s.heap.update p f).get? p=some {cls:=.type "list",data:=.seq its'.toArray n'}:=by rw[Heap.get?_update_self f ho (by rw[hf]<;>rfl),hf]
 refine I.write (x:=p) (e:=p) (by rw[h];trivial) (.inl rfl) (λb u hb q=>(Heap.get?_update_other _ _ (Ne.symm hb)).trans q) ⟨_,e⟩ ?_;exact⟨hz,its',n',r,e⟩
def Ug:V->V->V->Hp->(Hp->Prop)->Prop:=λo i v H Q=> ∃p xs k j,o=.ref p/\i=.int k/\H p=some (.lst xs)/\IO xs.length k=some j/\Q (xH H p (.lst (xs.set j v)))
def set_list:Dy X Ug:=by
 intro pins s σ H o i v ov iv u Q I ro ri rv h;obtain⟨p,xs,k,j,rfl,rfl,hp,hj,q⟩:=h;cases ro;obtain⟨t,rfl⟩:=ri;obtain⟨its,n,r,ho,hz⟩:=I.lst hp;obtain⟨h1,h2,h3,h4⟩:=IP hj;have hl:=r.length;have hn:=sI
 have I':Inv X pins σ (xH H p (.lst (xs.set j v))) {s with heap:=s.heap.update p (Obj.mapSeq (·.setIfInBounds j u))}:=
  I.lstUpd hp ho (PY its n j u) (r.set rv j) (by rw[List.length_set];exact hz) s.toks
 by_cases h0:0<=k
 .have hk:k.toNat=j:=by rw[seqIndex_of h0 h4]at h1;exact Option.some.inj h1
  exact PySem.W.ki_setAt ho h0 #[0] (by rw[sA, <-hl];exact h4) (by rw[hk];exact⟨_,I',q⟩)
 .have hk:(k+(its.toArray.size:Int)).toNat=j:=by rw[seqIndex_neg #[0] h3]at h1;rw[sA, <-hl];exact Option.some.inj h1
  exact PySem.W.ki_setBack ho #[0] (by rw[sA, <-hl];exact h3) #[0] (by rw[hk];exact⟨_,I',q⟩)
def IR(lo hi:Yh)(n:Nat):(sliceBounds lo hi none n).1=((HT.sIx n 0 lo:Nat):Int)/\(sliceBounds lo hi none n).2.1=((HT.sIx n n hi:Nat):Int)/\(sliceBounds lo hi none n).2.2=1:=by
 refine⟨?_,?_,rfl⟩
 .cases lo with
  |none=>simp[sliceBounds,HT.sIx]
  |some i=>
   simp only[sliceBounds,HT.sIx,Option.getD_none,show(1:Int)>0 by decide,if_true];by_cases h:i<0
   .simp only[h,if_true]<;>omega
   .simp only[h,iF]<;>omega
 .cases hi with
  |none=>simp[sliceBounds,HT.sIx]
  |some i=>
   simp only[sliceBounds,HT.sIx,Option.getD_none,show(1:Int)>0 by decide,if_true];by_cases h:i<0
   .simp only[h,if_true]<;>omega
   .simp only[h,iF]<;>omega
theorem FL(its:Xj)(lo hi:Yh):slicePick its.toArray lo hi none=((its.drop (HT.sIx its.length 0 lo)).take (HT.sIx its.length its.length hi - HT.sIx its.length 0 lo)).toArray:=by obtain⟨h1,h2,h3⟩:=IR lo hi its.toArray.size;unfold slicePick;rw[h1,h2,h3];simp only[sliceRange_one,pick_run,sA]<;>rfl
def rSlL(K:Yj):V->Option Int->Option Int->Hp->VK->Prop:=λx lo hi H Q=> ∃a xs,x=.ref a/\SqL K H a xs/\ ∀p,H p=none->Q (.ref p) (xH H p (.lst (ME xs lo hi)))
def El:SlR X (rSlL X.K):=by intro pins s σ H x v vl vu lo hi sl Q I rx hs pl pu h;obtain⟨a,xs,rfl,hx,q⟩:=h;cases rx;obtain⟨its,r,ht,hz⟩:=I.list hx;have hlen:=r.length;refine⟨"list",_,slot_list_getitem.lookup,ht.isList.typeIs,?_⟩;refine wpAny_getItem_list_slice ht.isList hs pl pu .none (by simp) ?_ (by rw[sA]<;>omega);rw[FL, <-hlen];refine⟨.ref s.heap.objs.size,_,I.laid (t':=s.toks) (o:=.lst (ME xs lo hi)) (λb ob q=>hP0 _ q) q9 ?_,rfl,q _ (I.hok.fresh q9)⟩;exact⟨Nat.le_trans (AC xs lo hi) hz,_,0,(r.drop (HT.sIx xs.length 0 lo)).take (HT.sIx xs.length xs.length hi - HT.sIx xs.length 0 lo),Heap.get?_push_size _ rfl⟩
def mK:V->Bool
 |.non=>true
 |.bl _=>true
 |.int _=>true
 |.str _=>true
 |_=>false
def Em:V->V->Bool
 |.non,.non=>true
 |.bl a,.bl b=>a==b
 |.bl a,.int b=>(if a then 1 else 0)==b
 |.int a,.bl b=>a==(if b then 1 else 0)
 |.int a,.int b=>a==b
 |.str a,.str b=>a==b
 |_,_=>false
def Mv{A:Around}{s:Shared}{y x:V}{u v:Value}(ry:RelV y u)(rx:RelV x v)(fy:mK y=true)(fx:mK x=true):SeqAt.EqAt A s u v (Em y x):=by
 cases y with
 |non=>
  cases ry
  cases x with
  |non=>cases rx;exact SeqAt.EqAt.same _
  |bl b=>cases rx;exact SeqAt.EqAt.none_bool b
  |int b=>obtain⟨t,rfl⟩:=rx;exact SeqAt.EqAt.none_int b t
  |str b=>obtain⟨t,rfl⟩:=rx;exact SeqAt.EqAt.none_str b t
  |_=>exact absurd (show false=true from fx) xF0
 |bl a=>
  cases ry
  cases x with
  |non=>cases rx;exact SeqAt.EqAt.bool_none a
  |bl b=>cases rx;exact SeqAt.EqAt.bool_bool a b
  |int b=>obtain⟨t,rfl⟩:=rx;exact SeqAt.EqAt.bool_int a b t
  |str b=>obtain⟨t,rfl⟩:=rx;exact SeqAt.EqAt.bool_str a b t
  |_=>exact absurd (show false=true from fx) xF0
 |int a=>
  obtain⟨t',rfl⟩:=ry
  cases x with
  |non=>cases rx;exact SeqAt.EqAt.int_none a t'
  |bl b=>cases rx;exact SeqAt.EqAt.int_bool a t' b
  |int b=>obtain⟨t,rfl⟩:=rx;exact SeqAt.EqAt.int_int a t' b t
  |str b=>obtain⟨t,rfl⟩:=rx;exact SeqAt.EqAt.int_str a t' b t
  |_=>exact absurd (show false=true from fx) xF0
 |str a=>
  obtain⟨t',rfl⟩:=ry
  cases x with
  |non=>cases rx;exact SeqAt.EqAt.str_none a t'
  |bl b=>cases rx;exact SeqAt.EqAt.str_bool a t' b
  |int b=>obtain⟨t,rfl⟩:=rx;exact SeqAt.EqAt.str_int a t' b t
  |str b=>obtain⟨t,rfl⟩:=rx;exact SeqAt.EqAt.str_str a t' b t
  |_=>exact absurd (show false=true from fx) xF0
 |_=>exact absurd (show false=true from fy) xF0
def IT:CallR X (.builtin "len") (λxs H Q=> ∃p ys,xs=[.ref p]/\(SqL X.K H p ys\/SqT X.K H p ys)/\Q (.int ys.length) H):=by
 intro pins s σ H xs us Q I r h;obtain⟨p,ys,rfl,hq,q⟩:=h;obtain⟨u,rfl,rx⟩:=vals1 r;cases rx;have hn:=sI;rcases hq with hq|hq
 .obtain⟨its,r',pl,hz⟩:=I.list hq;have hlen:=r'.length;exact Calls.call_len_list pl.isList (by simp only[sA]<;>omega) ⟨.int ys.length,H,I.tok _,⟨s.toks+1,by rw[sA,hlen]⟩,q⟩
 .obtain⟨its,r',pl,hz⟩:=I.tuple hq;have hlen:=r'.length;exact len_tuple pl (by simp only[sA]<;>omega) ⟨.int ys.length,H,I.tok _,⟨s.toks+1,by rw[sA,hlen]⟩,q⟩
def IU:CallR X (.builtin "len") (λxs H Q=> ∃z,xs=[.str z]/\z.length<=sizeLine/\Q (.int z.length) H):=by intro pins s σ H xs us Q I r h;obtain⟨z,rfl,hz,q⟩:=h;obtain⟨u,rfl,t,rfl⟩:=vals1 r;have hn:=sI;exact len_str #[0] ⟨.int z.length,H,I.tok _,⟨_,rfl⟩,q⟩
def CallR.or{f:Value}{r r':List V->Hp->VK->Prop}(h:CallR X f r)(h':CallR X f r'):CallR X f (λxs H Q=>r xs H Q\/r' xs H Q):=by
 intro pins s σ H xs us Q I rs q;rcases q with q|q
 .exact h pins s σ H xs us Q I rs q
 .exact h' pins s σ H xs us Q I rs q
def IV:CallR X (.type "list") (λxs H Q=> ∃p ys,xs=[.ref p]/\(SqL X.K H p ys\/SqT X.K H p ys)/\ ∀l,H l=none->Q (.ref l) (xH H l (.lst ys))):=by
 intro pins s σ H xs us Q I r h;obtain⟨p,ys,rfl,hq,q⟩:=h;obtain⟨u,rfl,rx⟩:=vals1 r;cases rx
 have fin: ∀(its:Xj),Vals ys its->ys.length<=sizeLine-> ∀(h':Heap)(c':Nat),(∀b o',s.heap.get? b=some o'->h'.get? b=some o')->
   h'.get? s.heap.objs.size=some {cls:=.type "list",dict:=none,data:=.seq its.toArray c',slots:=#[]}->EP X pins σ Q (.ref s.heap.objs.size) {s with heap:=h'}:=λits r' hz h' c' kp e=>
  ⟨.ref s.heap.objs.size,_,I.laid (t':=s.toks) kp q9 (show ObjOk X.prog X.w _ h' _ (.lst ys)from⟨hz,its,c',r',e⟩),rfl,q _ (I.hok.fresh q9)⟩
 rcases hq with hq|hq
 .obtain⟨its,r',pl,hz⟩:=I.list hq;have hlen:=r'.length;obtain⟨o,ho,hc,n,hd⟩:=pl.isList;exact call_list_seq p (.inl rfl) ho hc hd (λh' c' kp e=>fin its r' hz h' c' kp e) (by simp only[sA]<;>omega)
 .obtain⟨its,r',pl,hz⟩:=I.tuple hq;have hlen:=r'.length;obtain⟨o,ho,hc,n,hd⟩:=pl;exact call_list_seq p (.inr rfl) ho hc hd (λh' c' kp e=>fin its r' hz h' c' kp e) (by simp only[sA]<;>omega)
def FM:CallR X (.type "tuple") (λxs H Q=> ∃p ys,xs=[.ref p]/\((SqL X.K H p ys/\ ∀l,H l=none->Q (.ref l) (xH H l (.tup ys)))\/(SqT X.K H p ys/\Q (.ref p) H))):=by
 intro pins s σ H xs us Q I r h;obtain⟨p,ys,rfl,h⟩:=h;obtain⟨u,rfl,rx⟩:=vals1 r;cases rx;rcases h with⟨hq,q⟩|⟨hq,q⟩
 .obtain⟨its,r',pl,hz⟩:=I.list hq;have hlen:=r'.length;refine call_tuple_list pl.isList (λh' kp=>?_) (by simp only[sA]<;>omega);have I1:Inv X pins σ H {s with heap:=h'}:=I.kept (t':=s.toks) kp
  have I2:Inv X pins σ (xH H h'.objs.size (.tup ys)) {s with heap:=h'.push {cls:=.type "tuple",data:=.seq its.toArray}}:=
   I1.laid (t':=s.toks) (λb o e=>hP0 _ e) q9 (show ObjOk X.prog X.w _ _ _ (.tup ys)from⟨hz,its,r',IsTup.new _ _⟩)
  exact⟨.ref h'.objs.size,_,I2,rfl,q _ (I1.hok.fresh q9)⟩
 .obtain⟨its,r',pl,hz⟩:=I.tuple hq;exact call_tuple_same pl ⟨.ref p,H,I,rfl,q⟩
def Xa(K:Yj)(T:String)(x:V)(H:Hp):Prop:=match x with
 |.str _=>T="str"
 |.int _=>T="int"
 |.ref p=>(T="list"/\ ∃xs,SqL K H p xs)\/(T="tuple"/\ ∃o,K.lookup p=some o/\o.cls=.type "tuple"/\o.dict=none)\/
   (T="dict"/\((∃kvs,H p=some (.dK kvs))\/ ∃kvs,H p=some (.dT kvs)))\/(T="set"/\ ∃S n,H p=some (.set S n))
 |_=>False
def YD{pins:Ye}{σ:St}{H:Hp}{s:Shared}{T:String}{x:V}{v:Value}(I:Inv X pins σ H s)(r:RelV x v)(ty:Xa X.K T x H):
  s.TypeIs v T/\ ∀a,v=.ref a-> ∃ob,s.heap.get? a=some ob/\ob.dict=none:=by
 cases x with
 |str z=>
  obtain⟨t,rfl⟩:=r;cases (show T="str" from ty);exact⟨typeIs_str s z t,λ_ e=>nomatch e⟩
 |int i=>
  obtain⟨t,rfl⟩:=r;cases (show T="int" from ty);exact⟨typeIs_int s i t,λ_ e=>nomatch e⟩
 |ref p=>
  cases r;rcases ty with⟨rfl,xs,hq⟩|⟨rfl,o,hk,hc,hd⟩|⟨rfl,hk⟩|⟨rfl,S,n,hk⟩
  .obtain⟨its,_,pl,_⟩:=I.list hq;refine⟨pl.isList.typeIs,λa e=>?_⟩;cases e;obtain⟨o,n,e,c,hd,_⟩:=pl;exact⟨o,e,hd⟩
  .refine⟨⟨o,I.kIn p o hk,hc⟩,λa e=>?_⟩;cases e;exact⟨o,I.kIn _ o hk,hd⟩
  .have z: ∃o,s.heap.get? p=some o/\o.ExactDict:=by
    rcases hk with⟨kvs,hk⟩|⟨kvs,hk⟩
    .obtain⟨_,_,_,_,o,_,_,e,ex,_⟩:=I.hok p _ hk;exact⟨o,e,ex⟩
    .obtain⟨_,_,_,_,o,_,_,e,ex,_⟩:=I.hok p _ hk;exact⟨o,e,ex⟩
   obtain⟨o,e,ex⟩:=z;refine⟨⟨o,e,ex.1⟩,λa e2=>?_⟩;cases e2;exact⟨o,e,ex.2.1⟩
  .obtain⟨o,_,_,_,e,ex,_⟩:=I.hok p _ hk;refine⟨⟨o,e,ex.1⟩,λa e2=>?_⟩;cases e2;exact⟨o,e,ex.2.1⟩
 |_=>exact False.elim ty
def tBM0(K:Yj)(T:String)(r:V->List V->Hp->VK->Prop)(to:TE):TE:=λσ H Q=>to σ H λx H1=>Xa K T x H1/\r x [] H1 Q
def tBM(K:Yj)(T:String)(r:V->List V->Hp->VK->Prop)(to:TE)(t:TA):TE:=λσ H Q=>to σ H λx H1=>Xa K T x H1/\t σ H1 λxs H2=>r x xs H2 Q
variable{o e:Expr}{es:Yi}{to:TE}{t:TA}{name:Str}{apos cpos:Pos}{T id:String}{r:V->List V->Hp->VK->Prop}
def Mw(pa:PlainAttrs T)(slot:Slot T name id)(hty:typeOf (.builtin id)=pure (.type "method_descriptor"))(hm:YC X id r)(ho:PE X o to)
  (hbase:attributeBase o name X.env (eval o X.env)=eval o X.env:=by rfl) (hline:(apos.endLine==cpos.line)=true:=by rfl):PE X (.Call (.Attribute o name apos) [] [] cpos) (tBM0 X.K T r to):=by
 intro pins s σ H Q I h;refine wpAny_Call_method0_late hbase hline (kG (ho pins s σ H _ I h) λv s1 ⟨x,H1,I1,r1,ty,q1⟩=>?_);obtain⟨h1,h2⟩:=YD I1 r1 ty;exact⟨T,id,pa,slot,hty,h1,h2,Calls.callWith_builtin rfl (PySem.evalArgs_none (hm pins s1 σ H1 x [] v [] Q I1 r1 .nil q1))⟩
def Uh(pa:PlainAttrs T)(slot:Slot T name id)(hty:typeOf (.builtin id)=pure (.type "method_descriptor"))(hm:YC X id r)(ho:PE X o to)(ha:PA X (e::es) t)
  (hbase:attributeBase o name X.env (eval o X.env)=eval o X.env:=by rfl)
  (hfew:((backTo cpos (starEach (e::es) X.env)).all (λx=>!x.1)&&(backToKw cpos (keywordEach [] X.env)).all (λx=>x.1.isSome)
   &&decide ((e::es).length+([]:List Keyword).length+(if([]:List Keyword).isEmpty then 0 else 1)<30))=true:=by rfl)
  (hline:(apos.endLine==cpos.line)=true:=by rfl) (hs:Q0 X e es:=by rfl) (hplain:(backTo cpos (starEach es X.env)).any (·.1)=false:=by rfl):
  PE X (.Call (.Attribute o name apos) (e::es) [] cpos) (tBM X.K T r to t):=by
 intro pins s σ H Q I h;refine wpAny_Call_method_late hbase hfew hline rfl (kG (ho pins s σ H _ I h) λv s1 ⟨x,H1,I1,r1,ty,q1⟩=>?_);obtain⟨h1,h2⟩:=YD I1 r1 ty;refine⟨T,id,pa,slot,hty,h1,h2,?_⟩;have hA:=ha cpos pins s1 σ H1 _ I1 q1;rw[hs]at hA ⊢;refine Calls.callWith_builtin (by show(false || (backTo cpos (starEach es X.env)).any (·.1))=false;rw[hplain]<;>rfl) (Calls.evalArgs_plain ?_);exact kG hA λus s2 ⟨vs,H2,I2,r2,q2⟩=>hm pins s2 σ H2 x vs v us Q I2 r1 r2 q2
end
def MtM(X:Cx)(id:String)(r:V->List V->Hp->VK->Prop):Prop:=
 ∀(pins:Ye)(s:Shared)(σ:St)(H:Hp)(x:V)(xs:List V)(v:Value)(us:Xj)(Q:VK),Inv X pins σ H s->RelV x v->Vals xs us->r x xs H Q->
  wpAny (model X.prog X.w) X.A (call (.builtin id) (v::us)) (EP X pins σ Q) X.xe s
def Vals.one: ∀{x:V}{us:Xj},Vals [x] us-> ∃u,us=[u]/\RelV x u
 |_,_,.cons r .nil=>⟨_,rfl,r⟩
theorem Vals.zero: ∀{us:Xj},Vals [] us->us=[]
 |_,.nil=>rfl
theorem Vals.eraseIdx: ∀{xs:List V}{us:Xj}(i:Nat),Vals xs us->Vals (xs.eraseIdx i) (us.eraseIdx i)
 |_,_,_,.nil=>.nil
 |_,_,0,.cons _ t=>t
 |_,_,i+1,.cons r t=>.cons r (Vals.eraseIdx i t)
def Vals.reverse{xs:List V}{us:Xj}(h:Vals xs us):Vals xs.reverse us.reverse:=by
 induction h with
 |nil=>exact .nil
 |cons r t ih=>rw[reverse_cons,reverse_cons];exact Vals.append ih (.cons r .nil)
theorem Vals.rep{xs:List V}{us:Xj}(h:Vals xs us): ∀k:Nat,Vals (List.replicate k xs).flatten (List.replicate k us).flatten
 |0=>.nil
 |k+1=>by rw[replicate_succ,replicate_succ,flatten_cons,flatten_cons];exact Vals.append h (Vals.rep h k)
theorem GO{α:Type}: ∀(l:List α)(i:Nat),(l.eraseIdx i).length<=l.length
 |[],_=>Nat.le_refl _
 |_::_,0=>le_succ _
 |_::r,i+1=>Nat.succ_le_succ (GO r i)
theorem foldl_rep(its:Xj): ∀(k:Nat)(acc:Xj),
  List.foldl (λx1 x2=>x1++x2) acc.toArray (List.replicate k its.toArray)=(acc++(List.replicate k its).flatten).toArray
 |0,acc=>by simp
 |k+1,acc=>by
  have e:acc.toArray++its.toArray=(acc++its).toArray:=by simp
  have e2:(acc++its)++(List.replicate k its).flatten=acc++(List.replicate (k+1) its).flatten:=by rw[replicate_succ,flatten_cons,aA]
  rw[<-e2, <-foldl_rep its k (acc++its), <-e,replicate_succ,List.foldl_cons]
section
variable{X:Cx}{pins:Ye}{σ:St}{H:Hp}{s:Shared}{l:Addr}{xs ys:List V}
def Inv.lset{its its':Xj}{n:Nat}{f:Array Value->Array Value}{t':Nat}(I:Inv X pins σ H s)(hH:H l=some (.lst xs))
  (e:s.heap.get? l=some {cls:=.type "list",data:=.seq its.toArray n}) (hf:f its.toArray=its'.toArray) (hv:Vals ys its') (hz:ys.length<=sizeLine):
  Inv X pins σ (xH H l (.lst ys)) {s with heap:=s.heap.update l (Obj.mapSeq f),toks:=t'}:=by
 have q:=PySem.IsL.update e f;rw[hf]at q;refine I.write (x:=l) (e:=l) (by rw[hH];exact trivial) (.inl rfl) (λb' u hb hu=>(Heap.get?_update_other s.heap (Obj.mapSeq f) (Ne.symm hb)).trans hu) ⟨_,q⟩ ?_;exact⟨hz,its',_,hv,q⟩
def Inv.lnew{its:Xj}{t':Nat}(I:Inv X pins σ H s)(hv:Vals ys its)(hz:ys.length<=sizeLine):
  Inv X pins σ (xH H s.heap.objs.size (.lst ys)) {s with heap:=s.heap.push {cls:=.type "list",data:=.seq its.toArray},toks:=t'}:=
 I.laid (λ_ _ q=>hP0 _ q) q9 ⟨hz,its,0,hv,Heap.get?_push_size _ rfl⟩
def Inv.fresh(I:Inv X pins σ H s):H s.heap.objs.size=none:=I.hok.fresh q9
def Inv.lstM(I:Inv X pins σ H s)(hH:H l=some (.lst xs)):xs.length<=sizeLine/\ ∃(its:Xj)(n:Nat),Vals xs its/\xs.length=its.length/\s.heap.get? l=some {cls:=.type "list",data:=.seq its.toArray n}:=by obtain⟨z,its,n,r,e⟩:=I.hok l _ hH;exact⟨z,its,n,r,r.length,e⟩
def YE{n:Nat}(h:n<=sizeLine):Builtin.List.listTooLong n=false:=by unfold Builtin.List.listTooLong;exact dF0 #[0]
end
section
variable{X:Cx}
def RX:V->List V->Hp->VK->Prop:=λx vs H Q=> ∃l xs y,x=.ref l/\vs=[y]/\H l=some (.lst xs)/\xs.length<sizeLine/\Q .non (xH H l (.lst (xs++[y])))
def VA:MtM X "list.append" RX:=by intro pins s σ H x vs v us Q I rx rv h;obtain⟨l,xs,y,rfl,rfl,hH,hz,q⟩:=h;cases rx;obtain⟨u,rfl,ru⟩:=rv.one;obtain⟨z,its,n,r,hl,e⟩:=I.lstM hH;refine call_meets F.slot_list_append ⟨_,e,rfl⟩ F.entry_list_append (F.args_list_append_2 _ _) (PySem.list_append l its.toArray n u (by rw[sA];omega)) ⟨e,?_⟩;refine⟨.non,_,I.lset (its':=its++[u]) hH e (by simp) (r.append (.cons ru .nil)) ?_,rfl,q⟩;rw[lA,lS];omega
def YF:V->List V->Hp->VK->Prop:=λx vs H Q=> ∃l xs i k y,x=.ref l/\vs=[.int i]/\H l=some (.lst xs)/\ -(2 ^ 63)<=i/\i<2 ^ 63/\seqIndex? i xs.length=some k/\xs[k]? =some y/\Q y (xH H l (.lst (xs.eraseIdx k)))
def YG:MtM X "list.pop" YF:=by
 intro pins s σ H x vs v us Q I rx rv h;obtain⟨l,xs,i,k,y,rfl,rfl,hH,h1,h2,hk,hy,q⟩:=h;cases rx;obtain⟨u,rfl,ru⟩:=rv.one;obtain⟨t,rfl⟩:=ru;obtain⟨z,its,n,r,hl,e⟩:=I.lstM hH;obtain⟨w,hw,rw'⟩:=r.get hy
 refine call_meets F.slot_list_pop ⟨_,e,rfl⟩ F.entry_list_pop (F.args_list_pop_2 _ _)
  (MeetsSeq.list_pop_at l its.toArray n i t k w (fitsIndex_both h1 h2) (by rw[sA, <-hl];exact hk) (by rw[<-Array.getElem?_toList];exact hw) (by rw[sA];omega)) ⟨e,?_⟩
 refine⟨y,_,I.lset (its':=its.eraseIdx k) hH e ?_ (r.eraseIdx k) ?_,rw',q⟩
 .show its.toArray.eraseIdxIfInBounds k=(its.eraseIdx k).toArray;rw[List.eraseIdxIfInBounds_toArray]
 .have:=GO xs k;omega
def MF:V->List V->Hp->VK->Prop:=λx vs H Q=> ∃l xs,x=.ref l/\vs=[]/\H l=some (.lst xs)/\Q .non (xH H l (.lst xs.reverse))
def PZ:MtM X "list.reverse" MF:=by intro pins s σ H x vs v us Q I rx rv h;obtain⟨l,xs,rfl,rfl,hH,q⟩:=h;cases rx;have hus:=rv.zero;subst hus;obtain⟨z,its,n,r,hl,e⟩:=I.lstM hH;refine call_meets F.slot_list_reverse ⟨_,e,rfl⟩ F.entry_list_reverse (F.args_list_reverse_1 _) (AutoSeq1.list_reverse_list_0 l its.toArray n (by rw[sA];omega)) ⟨e,?_⟩;refine⟨.non,_,I.lset (its':=its.reverse) hH e (by simp) r.reverse ?_,rfl,q⟩;rw[List.length_reverse];omega
def rCat:R2:=λx y H Q=> ∃l b xs zs,x=.ref l/\y=.ref b/\H l=some (.lst xs)/\H b=some (.lst zs)/\xs.length+zs.length<=sizeLine/\ ∀p,H p=none->Q (.ref p) (xH H p (.lst (xs++zs)))
def Mx:OpR X (binaryOp .Add) rCat:=by
 intro pins s σ H x y v u Q I rx ry h;obtain⟨l,b,xs,zs,rfl,rfl,hH,hB,hz,q⟩:=h;cases rx;cases ry;obtain⟨z,its,n,r,hl,e⟩:=I.lstM hH;obtain⟨z2,its2,n2,r2,hl2,e2⟩:=I.lstM hB;refine PySem.P.add_list e e2 ?_ (by rw[sA,sA];omega);have ea:its.toArray++its2.toArray=(its++its2).toArray:=by simp
 rw[ea];exact⟨.ref _,_,I.lnew (t':=s.toks) (r.append r2) (by rw[lA];omega),rfl,q _ I.fresh⟩
def rRep:R2:=λx y H Q=> ∃l k xs,x=.ref l/\y=.int k/\H l=some (.lst xs)/\ -(2 ^ 63)<=k/\k<2 ^ 63/\xs.length * k.toNat<=sizeLine/\
 ∀p,H p=none->Q (.ref p) (xH H p (.lst (List.replicate k.toNat xs).flatten))
def len_rep{α:Type}(xs:List α)(k:Nat):(List.replicate k xs).flatten.length=k * xs.length:=by
 induction k with
 |zero=>simp
 |succ k ih=>rw[replicate_succ,flatten_cons,lA,ih,Nat.succ_mul,Nat.add_comm]
def Mz:OpR X (binaryOp .Mult) rRep:=by
 intro pins s σ H x y v u Q I rx ry h;obtain⟨l,k,xs,rfl,rfl,hH,h1,h2,hz,q⟩:=h;cases rx;obtain⟨t,rfl⟩:=ry;obtain⟨z,its,n,r,hl,e⟩:=I.lstM hH;have hlen:its.toArray.size * k.toNat<=sizeLine:=by rw[sA, <-hl];exact hz
 have hcap: ¬its.toArray.size * k.toNat>(2 ^ 63 - 1) / 8:=by
  have:(sizeLine:Nat)<=(2 ^ 63 - 1) / 8:=by decide
  omega
 have hfit: ¬(!Builtin.List.listFitsIndex k)=true:=by rw[fitsIndex_both h1 h2];exact xF0
 have hlong: ¬Builtin.List.listTooLong (its.toArray.size * k.toNat)=true:=by rw[YE hlen];exact xF0
 have hnew:List.foldl (λx1 x2=>x1++x2) #[] (List.replicate (if its.toArray.isEmpty=true then 0 else k.toNat) its.toArray)=(List.replicate k.toNat its).flatten.toArray:=by
  have f0: ∀m:Nat,List.foldl (λx1 x2=>x1++x2) #[] (List.replicate m its.toArray)=(List.replicate m its).flatten.toArray:=λm=>by have:=foldl_rep its m [];rw[List.nil_append]at this;exact this
  rw[f0]
  cases its with
  |nil=>simp
  |cons a r'=>rw[iN (by simp)]
 refine wpAny_binaryOp_repeat_ref (T:="list") (U:="int") (by decide) ⟨_,e,rfl⟩ (λs'=>typeIs_int s' k t) noFill_list_mul F.fills_int_mul F.slot_int_rmul repeat_list F.slot_int_index.lookup
  (call_meets F.slot_int_rmul (typeIs_int s k t) F.entry_int_rmul (F.args_int_rmul_2 _ _) (int___rmul___int_list k t l its.toArray n)
   ⟨e,rfl,⟨_,e,rfl⟩,call_meets F.slot_list_mul ⟨_,e,rfl⟩ F.entry_list_mul (F.args_list_mul_2 _ _) (AutoListH.list___mul___list_int_3 l its.toArray n k t hfit hcap hlong) ⟨e,?_⟩⟩)
 rw[hnew];exact⟨.ref _,_,I.lnew (t':=s.toks) (r.rep k.toNat) (by rw[len_rep,Nat.mul_comm];exact hz),rfl,q _ I.fresh⟩
end
end L2
namespace Att
open PySem PySem.W PySem.Calls PyProof.Rows
def BK{P:Params}{h:Heap}: ∀(ns:Xi)(vs:Xj),WellAll P h vs (ns.map WData.int)->IntsAre vs ns:=by
 intro ns
 induction ns with
 |nil=>
  intro vs w;rw[List.map_nil]at w;cases w;exact .nil
 |cons n ns ih=>
  intro vs w;rw[List.map_cons]at w
  cases w with
  |cons a b=>
   cases a;exact .cons _ _ (ih _ b)
def VB{l:OpenLaw}{n:Nat}(hn:l.most=some n){P:Params}{h:Heap}{args:List WData}{vals:Xj}
  (hpre:l.row.toRowW.claim.pre args=true) (hwl:WellAll P h vals args):
  ∃a vs ns,vals=[Value.ref a]/\args=[WData.list (ns.map WData.int)]/\h.get? a=some {cls:=.type "list",data:=.seq vs.toArray}/\IntsAre vs ns/\ns.length<=n:=by
 have hsh:WShape.hasAll [] args [.list .int]=true:=(pre_splitW hpre).1;have hc:l.pre.holds [] {args:=args}=true:=(pre_splitW hpre).2;obtain⟨d,r,rfl,h1,h2⟩:=hasAllW_cons hsh;obtain rfl:=hasAllW_nil h2;obtain⟨xs,rfl,h3⟩:=hasW_list h1;obtain⟨ns,rfl⟩:=items_int h3
 have hlen:ns.length<=n:=by
  unfold OpenLaw.pre at hc;have h4:(WTm.not (.lt (.lit (.int (n:Int))) (.len (.arg 0)))).holds [] {args:=[.list (ns.map .int)]}=true:=by have h4:=(holds_andW hc).1;rw[hn]at h4;exact h4
  have h5:=condW_of h4 (w_not (w_lt w_lit (w_len_list (w_arg rfl))));rw[lM]at h5;refine Nat.le_of_not_lt λq=>?_;have q':(n:Int)<((ns.length:Nat):Int):=by omega
  first
   |(rw[dT0 q']at h5;exact absurd h5 (by decide))
   |(simp at h5;omega)
 cases hwl with
 |cons w1 w2=>
  cases w2
  cases w1 with
  |list ho hall=>exact⟨_,_,ns,rfl,rfl,ho,BK ns _ hall,hlen⟩
theorem VC(l:OpenLaw)(args:List WData):l.row.toRowW.claim.post args (.bool true) args=true:=
 postW_of (r:=l.row.toRowW) (X:=(true==true))
  (show WShape.has [] (.bool true) .bool=true by first |rfl|decide|simp[WShape.has,WShape.arms,WShape.armsAll])
  (show(WTm.eq .res (.lit (.bool true))).value [] {args:=args,res:=some (.bool true),after:=args}=some (.bool (true==true))from w_eq_bool (w_res rfl) w_lit) rfl
def attach_call{l:OpenLaw}{n:Nat}{q:Program}{loose:Yb}{XP:(Str->Option Value)->Heap->Prop}{YP:World->Heap->Prop}{d:DefRec}
  (hn:l.most=some n) (hdf:d.params.defaults=[])
  (call: ∀(w:World)(s₀ s₁:Shared)(mg mb:Yc)(fa:Addr)(o:Obj)(pm cd doc:Value)(a:Addr)(vs:Xj)(ns:Xi),
   Ground q loose [] XP w s₀ mg mb s₁.heap->YP w s₁.heap->
   s₁.heap.get? fa=some o->o.data=.func (docDef d.name d.params d.body d.scope pm cd doc)->s₁.heap.CodeRec cd d.name->mg d.name=some (.ref fa)->
   s₁.heap.get? a=some {cls:=.type "list",data:=.seq vs.toArray}->IntsAre vs ns->ns.length<=n->s₁.gens=#[]->
   codeAny (model l.prog w) callerA (.call (.ref fa) ⟨[.ref a],[]⟩) (λr s'=>r=.ok (.ret (.bool true))/\OldK s₁.heap s'.heap/\s'.os=s₁.os/\AllBare s'.gens) s₁):
  WalkO q loose XP YP l.row.toRowW d [] (λf vs=>PySem.call f vs):=by
 intro w s₀ s₁ mg mb G Y fa o pm cd doc dV kV ho hd hcd hD hmg hg args vals as hpre hlay hrd hwl hlo;obtain rfl:dV=.none:=Dflts.none hD hdf;obtain rfl:kV=.none:=Dflts.noKw hD;obtain⟨a,vs,ns,rfl,rfl,hobj,hints,hlen⟩:=VB hn hpre hwl;refine enter_call (codeAny_mono (call w s₀ s₁ mg mb fa o pm cd doc a vs ns G Y ho (fd_plain hd) hcd hmg hobj hints hlen hg) λr s' hq=>?_);obtain⟨rfl,h2,h3,h4⟩:=hq;exact⟨.inl ⟨.bool true,.bool true,[],rfl,λ_=>rfl,.bool true,VC l _,λ_=>⟨List.Pairwise.nil,λ_ hm=>(nomatch hm)⟩⟩,h2,h3,h4⟩
end Att
namespace L2
open PySem PySem.Spec PyProof.Rows
theorem GP: ∀{vs:Xj}{ns:Xi},IntsAre vs ns->Vals (ns.map V.int) vs
 |_,_,.nil=>.nil
 |_,_,.cons n t h=>.cons ⟨t,rfl⟩ (GP h)
def YH(H:Hp):Prop:= ∀b,H b=none\/ ∃o xs,H b=some (.frz o (.lst xs))
def YI{P:Program}{w:World}{K:Yj}{mg mb:Yc}{CX:UX}{k:Nat}{fa a:Addr}{fd:FuncData}{x:Str}{sp:Sp}{s₁:Shared}{vs:Xj}{ns:Xi}
  (KX:K.In s₁.heap) (hns:s₁.heap.Ns mainGlobals mg) (hb:s₁.heap.Ns builtinsNs mb) (hbb: ∀x:Str,x≠"__name__"->mb x=bootBuiltins x) (hlim:s₁.heap.NoLimit) (hg:s₁.gens=#[])
  (ha:s₁.heap.get? a=some {cls:=.type "list",data:=.seq vs.toArray}) (hi:IntsAre vs ns) (hl:ns.length<=sizeLine) (hr:Room k callerA)
  (F: ∀base:Heap,K.In base->base.Ns mainGlobals mg->FnOk P w K mg base CX k fa fd [x] sp) (hbind: ∀(s:Shared)(u:Value),BindsTo s fd ⟨[u],[]⟩ [(x,u)])
  (hsp: ∀H:Hp,YH H->SqL K H a (ns.map V.int)->sp [.ref a] H (λv _=>v=.bl true) λ_ _ _=>False)
  (hCX: ∀H e s',CX [] H s₁ (λ_ _ _=>False) e s'->False):
  codeAny (model P w) callerA (.call (.ref fa) ⟨[.ref a],[]⟩) (λr s'=>r=.ok (.ret (.bool true))/\OldK s₁.heap s'.heap/\s'.os=s₁.os/\AllBare s'.gens) s₁:=by
 have rv:=GP hi;have lenV:=hi.length
 have core: ∀H:Hp,YH H->SqL K H a (ns.map V.int)->HOk P w H s₁.heap->(∀b,H b≠none->b=a)->(H a≠none->K.lookup a=none)->
   codeAny (model P w) callerA (.call (.ref fa) ⟨[.ref a],[]⟩) (λr s'=>r=.ok (.ret (.bool true))/\OldK s₁.heap s'.heap/\s'.os=s₁.os/\AllBare s'.gens) s₁:=by
  intro H hO hS hok hA hK;have base_of: ∀{b:Addr}{o:Obj},s₁.heap.get? b=some o->H b=none->(II s₁.heap H).get? b=some o:=λe n=>XN e n
  have noA: ∀{b:Addr}{o:Obj}{es:Array DictEntry}{ep:Nat},s₁.heap.get? b=some o->o.data=.dict es ep->H b=none:=λ{b o es ep} e d=>by
   cases q:H b with
   |none=>rfl
   |some u=>
    have e':b=a:=hA b (by rw[q];simp);subst e';rw[ha]at e;cases e;have d':Data.seq vs.toArray _=Data.dict es ep:=d;cases d'
  have nsK: ∀{b:Addr}{m:Yc},s₁.heap.Ns b m->(II s₁.heap H).Ns b m:=λ{b m} ⟨o,es,ep,e,d,r⟩=>⟨o,es,ep,base_of e (noA e d),d,r⟩
  have hKb:K.In (II s₁.heap H):=λb o e=>base_of (KX b o e) (by
   cases q:H b with
   |none=>rfl
   |some u=>
    have e':b=a:=hA b (by rw[q];simp);subst e';rw[hK (by rw[q];simp)]at e;cases e)
  have hM:Mod K mg (II s₁.heap H):=⟨hKb,nsK hns,⟨mb,nsK hb,hbb⟩,let ⟨mc,h1,h2⟩:=hlim;⟨mc,nsK h1,h2⟩⟩
  have e0:Env0 P w K mg (II s₁.heap H) callerA [] s₁ H:=⟨rfl,hM,λb o e=>Dp e,le_of_eq (UT _ _),trivial,λb hb=>absurd (show b∈([]:Ya)from hb) (by simp),hok,.of_eq hg⟩
  refine codeAny_mono ((F _ hKb (nsK hns)).run callerA [] s₁ H ⟨[.ref a],[]⟩ [.ref a] [.ref a] _ _ hr e0 (hbind s₁ (.ref a)) (.cons rfl .nil) (hsp H hO hS)) λr s' h=>?_
  cases r with
  |error e=>exact(hCX H e s' h).elim
  |ok fl=>
   cases fl with
   |next=>exact False.elim h
   |brk=>exact False.elim h
   |cont=>exact False.elim h
   |ret u=>
    obtain⟨v,H',os,bare,un,hok',r',q⟩:=h;have q':v=.bl true:=q;subst q';obtain rfl:u=Value.bool true:=r';refine⟨rfl,OldK.of_keep λb o e=>?_,os,bare⟩
    cases q:H b with
    |none=>exact un.keep b o e q (by intro z;exact absurd (show b∈([]:Ya)from z) (by simp)) (by simp)
    |some u=>
     rcases hO b with z|⟨ob,xs,z⟩
     .rw[q]at z;cases z
     .have z2:=un.frzs b ob _ z;obtain⟨e1,_⟩:=hok b _ z;obtain⟨e2,_⟩:=hok' b _ z2;rw[e]at e1;cases e1;exact e2
 cases hk:K.lookup a with
 |some o=>
  have e:=KX a o hk;rw[ha]at e;cases e;refine core (λ_=>none) (λ_=>.inl rfl) (.inr ⟨_,vs.toArray,_,hk,rfl,rfl,rfl,by rw[sA,lenV];exact hl,by simpa using rv⟩) (λb u z=>by have z':(none:Option HO)=some u:=z;cases z') (λb z=>absurd rfl z) λz=>absurd rfl z
 |none=>
  refine core (λb=>if b=a then some (.frz {cls:=.type "list",data:=.seq vs.toArray} (.lst (ns.map V.int)))else none) (λb=>?_) (.inl (.inr ⟨{cls:=.type "list",data:=.seq vs.toArray},iP rfl⟩)) (λb u z=>?_) (λb z=>?_) λ_=>hk
  .by_cases hb:b=a
   .exact .inr ⟨_,_,iP hb⟩
   .exact .inl (iN hb)
  .by_cases hb:b=a
   .have z':=(iP hb).symm.trans z;cases z';subst hb;exact⟨ha,by rw[lM];exact hl,vs,_,rv,ha⟩
   .have z':=(iN hb).symm.trans z;cases z'
  .by_cases hb:b=a
   .exact hb
   .exact absurd (iN hb) z
def walk_of{l:PySem.W.OpenLaw}{n k:Nat}{q:Program}{loose:Yb}{XP:(Str->Option Value)->Heap->Prop}{YP:World->Heap->Prop}{d:DefRec}{K:Params->PySem.W.Frag}{CX:World->UX}{sp:World->Sp}{x:Str}
  (hn:l.most=some n) (hn2:n<=sizeLine) (hdf:d.params.defaults=[]) (hr:Room k callerA)
  (hY: ∀(w:World)(h:Heap),YP w h->(K w.params).In h)
  (F: ∀(w:World)(mg:Yc)(fa:Addr)(h:Heap),(K w.params).In h->h.Ns mainGlobals mg->mg d.name=some (.ref fa)->
   ∃fd:FuncData,(∀(s:Shared)(u:Value),BindsTo s fd ⟨[u],[]⟩ [(x,u)])/\
    ∀base:Heap,(K w.params).In base->base.Ns mainGlobals mg->FnOk l.prog w (K w.params) mg base (CX w) k fa fd [x] (sp w))
  (hsp: ∀(w:World)(H:Hp)(a:Addr)(ns:Xi),ns.length<=n->YH H->SqL (K w.params) H a (ns.map V.int)->sp w [.ref a] H (λv _=>v=.bl true) λ_ _ _=>False)
  (hCX: ∀(w:World)(H:Hp)(s:Shared)(e:Value)(s':Shared),CX w [] H s (λ_ _ _=>False) e s'->False):
  PySem.W.WalkO q loose XP YP l.row.toRowW d [] (λf vs=>PySem.call f vs):=by
 refine Att.attach_call hn hdf λw s₀ s₁ mg mb fa o pm cd doc a vs ns G Y ho hd hcd hmg hobj hints hlen hg=>?_;have KX:=hY w _ Y;obtain⟨fd,hb,hF⟩:=F w mg fa _ KX G.T.g hmg;exact YI KX G.T.g G.T.b G.T.builtins G.T.nolimit hg hobj hints (Nat.le_trans hlen hn2) hr hF hb (λH hO hS=>hsp w H a ns hlen hO hS) λH e s'=>hCX w H s₁ e s'
def oB(s:Stmt):Arguments:=match s with
 |.FunctionDef _ a _ _ _ _ _ _ _ _=>a
 |_=>{posonlyargs:=[],args:=[],vararg:=none,kwonlyargs:=[],kw_defaults:=[],kwarg:=none,defaults:=[]}
def bK(s:Stmt):List Stmt:=match s with
 |.FunctionDef _ _ b _ _ _ _ _ _ _=>b
 |_=>[]
def zN(s:Stmt):Scope:=match s with
 |.FunctionDef _ _ _ _ _ _ sc _ _ _=>sc
 |_=>{kind:=.function,names:=[],isGenerator:=false,isCoroutine:=false}
abbrev CZ:UX:=λ_ _ _ _ _ _=>False
abbrev E0:XK:=λ_ _ _=>False
def Ui{X:Cx}:PR CZ X E0:=λ_ _ _ _ _ _ _ h=>h.elim
structure Fun(K:Yj)(x qual:Str)(st:Stmt)(f:Addr)(fd:FuncData):Prop where
 ex: ∃(oc:Value)(od:Option Addr)(kV doc pm:Value)(an:Option Addr)(cdv ct:Value)(osl:Array (Option Value)),
  fd=PySem.W.fnOf x qual (oB st) (bK st) (zN st) .none kV doc pm an cdv ct/\K.lookup f=some ⟨oc,od,.func fd,osl⟩/\PySem.W.codeIn K cdv qual=true
 kp:PySem.W.keepIn K (.ref f)=true
section
variable{P:Program}{w:World}{K:Yj}{mg:Yc}{base:Heap}
def Fun.ok{x qual:Str}{st:Stmt}{f:Addr}{fd:FuncData}{N ps:Yb}{k:Nat}{sp:Sp}(F:Fun K x qual st f fd)(S:FnScope N ps (zN st))(len: ∀vs H Q E,sp vs H Q E->vs.length=ps.length)
  (hbody: ∀(cdv:Value)(A:Around)(outer:List Env)(s:Shared)(H:Hp)(vs:List V)(Q:VK)(E:XK),Room k (A.deeper (envOfC qual (zN st) s.heap.objs.size f cdv))->sp vs H Q E->
   ∃t,PSs (IM CZ P w K mg base N qual (zN st) f cdv A outer s H E).nox (bK st) t/\t {nx:=λ_ H'=>Q .non H',rt:=Q} (start N vs) H):FnOk P w K mg base CZ (k+1) f fd ps sp:=by
 obtain⟨oc,od,kV,doc,pm,an,cdv,ct,osl,rfl,lk,hcd⟩:=F.ex;refine Tw lk hcd S len λA outer s H vs Q E hr hsp=>?_;obtain⟨t,h,q⟩:=hbody cdv A outer s H vs Q E hr hsp;exact⟨t,h.nox,q⟩
def Fun.binds{x qual:Str}{st:Stmt}{f:Addr}{fd:FuncData}{ps:Yb}(F:Fun K x qual st f fd)
  (h: ∀(kV doc pm:Value)(an:Option Addr)(cdv ct:Value)(us:Xj),us.length=ps.length->bindArgs (PySem.W.fnOf x qual (oB st) (bK st) (zN st) .none kV doc pm an cdv ct) ⟨us,[]⟩=pure (ps.zip us)):Binds K fd ps []:=by
 obtain⟨oc,od,kV,doc,pm,an,cdv,ct,osl,rfl,lk,hcd⟩:=F.ex;exact .all (h kV doc pm an cdv ct)
def Na{x qual:Str}{st:Stmt}{f:Addr}{oc:Value}{od an:Option Addr}{osl:Array (Option Value)}{kV doc pm cdv ct:Value}(l:K.lookup f=some ⟨oc,od,.func (PySem.W.fnOf x qual (oB st) (bK st) (zN st) .none kV doc pm an cdv ct),osl⟩)
  (c:PySem.W.codeIn K cdv qual=true) (k:PySem.W.keepIn K (.ref f)=true):Fun K x qual st f (PySem.W.fnOf x qual (oB st) (bK st) (zN st) .none kV doc pm an cdv ct):=⟨⟨oc,od,kV,doc,pm,an,cdv,ct,osl,rfl,l,c⟩,k⟩
end
section
variable{X:Cx}
def pv(i:Nat){x:Str}{pos:Pos}(hN:X.N[i]? =some x:=by rfl)(hv:Sx X.env.scope x:=by first |exact Or.inl rfl|exact Or.inr (Or.inl rfl)|exact Or.inr (Or.inr rfl))(hd:(x==("__debug__":Str))=false:=by decide)
  (hcd:(x==("__classdict__":Str))=false:=by decide):PE X (.Name x pos) (Sy i):=Lm hN hv hd hcd
end
end L2
set_option maxHeartbeats 4000000
namespace L2
open PySem PySem.Spec PyProof.Rows
def pD(env:Env)(l:List (Str×NameKind))(cs:List (Str×Addr)):List (Str×Addr):=
 l.foldl (λc y=>if y.2==.free then(y.1,(env.cells.lookup y.1).getD 0)::c else c) cs
def IW{α β:Type}{l:List α}{f:α->β->Sem (ForInStep β)}{g:β->α->β}: ∀(c:β),(∀x∈l, ∀c,f x c=pure (.yield (g c x)))->
  forIn l c f=pure (l.foldl g c):=by
 induction l with
 |nil=>intro c _;rfl
 |cons x l ih=>
  intro c h;rw[forIn_cons,h x mF0,pure_bind];exact ih _ λy hy=>h y (mO _ hy)
def FN{scope:Scope}{env:Env}(h: ∀y∈scope.names,y.2=.free-> ∃c,env.cells.lookup y.1=some c):closureFor scope env=pure (pD env scope.names []):=by
 unfold closureFor pD;dsimp only;rw[IW (g:=λc y=>if y.2==.free then(y.1,(env.cells.lookup y.1).getD 0)::c else c) [] ?_]
 .rfl
 .intro y hy c;obtain⟨n,k⟩:=y;by_cases hk:k=.free
  .subst hk;obtain⟨a,ha⟩:=h _ hy rfl;have ha':env.cells.lookup n=some a:=ha;simp[cellOf,ha']
  .have e:(k==NameKind.free)=false:=by simpa using hk
   simp[e]
theorem AD{env:Env}: ∀(l:List (Str×NameKind))(cs:List (Str×Addr)),(∀y∈l,y.2=.free-> ∃c,env.cells.lookup y.1=some c)->(∀p∈cs,env.cells.lookup p.1=some p.2)->
  ∀p∈pD env l cs,env.cells.lookup p.1=some p.2
 |[],_,_,h=>h
 |(n,k)::l,cs,hl,h=>by
  refine AD l _ (λy hy=>hl y (mO _ hy)) λp hp=>?_;by_cases hk:k=.free
  .subst hk;obtain⟨c,hc⟩:=hl _ mF0 rfl;have hc':env.cells.lookup n=some c:=hc;have hp':p∈(n,(env.cells.lookup n).getD 0)::cs:=hp;rcases mC.mp hp' with rfl|hp
   .show env.cells.lookup n=some ((env.cells.lookup n).getD 0);rw[hc'];rfl
   .exact h p hp
  .have hp':p∈(if(k==NameKind.free)=true then(n,(env.cells.lookup n).getD 0)::cs else cs):=hp;rw[iN (by simpa using hk)]at hp';exact h p hp'
theorem DA{env:Env}: ∀(l:List (Str×NameKind))(cs:List (Str×Addr))(p:Str×Addr),p∈cs->p∈pD env l cs
 |[],_,_,h=>h
 |(n,k)::l,cs,p,h=>by
  refine DA l _ p ?_;show p∈(if(k==.free)=true then(n,(env.cells.lookup n).getD 0)::cs else cs);split
  .exact mO _ h
  .exact h
theorem pT{env:Env}: ∀(l:List (Str×NameKind))(cs:List (Str×Addr))(n:Str),(n,NameKind.free)∈l-> ∃c,(n,c)∈pD env l cs
 |[],_,_,h=>nomatch h
 |(m,k)::l,cs,n,h=>by
  rcases mC.mp h with e|h
  .have e1:n=m:=congrArg Prod.fst e;have e2:NameKind.free=k:=congrArg Prod.snd e;subst e1 e2;exact⟨(env.cells.lookup n).getD 0,DA l _ _ mF0⟩
  .exact pT l _ n h
theorem jV{β:Type}: ∀{l:List (Str×β)}{n:Str},(∃c,(n,c)∈l)-> ∃c,l.lookup n=some c
 |[],_,h=>let ⟨_,z⟩:=h;nomatch z
 |(m,b)::l,n,h=>by
  by_cases e:n=m
  .subst e;exact⟨b,by simp[lookup_cons]⟩
  .obtain⟨c,hc⟩:=h;rcases mC.mp hc with z|z
   .cases z;exact absurd rfl e
   .obtain⟨c',h'⟩:=jV ⟨c,z⟩;refine⟨c',?_⟩;have e':(n==m)=false:=by simpa using e
    simp[lookup_cons,e',h']
def VD(scope osc:Scope):List (Str×NameKind):=scope.names.map λ(n,k)=>if(k==.free&&osc.kind==.function&&osc.names.lookup n==some .cell)then(n,.cell)else(n,k)
def rN(osc:Scope)(N:Yb)(sc:Scope)(idx:Db):Bool:=
 decide (sc.kind=.function)&&sc.names.all (λy=>decide (sc.names.lookup y.1=some y.2))&&
 sc.names.all (λy=>decide (y.2≠.free) || decide (osc.names.lookup y.1=some .cell) || decide (osc.names.lookup y.1=some .free))&&
 idx.all (λi=>match N[i]? with
  |some y=>(decide (osc.names.lookup y=some .cell) || decide (osc.names.lookup y=some .free))&&decide (sc.names.lookup y=some .free)
  |none=>false)
abbrev XI(env:Env)(sc:Scope)(C:Addr):List (Str×Addr):=cellsFrom (C+1) sc.names (pD env sc.names [])
theorem xL: ∀(l:List (Str×NameKind))(n:Nat)(acc:List (Str×Addr)),cellsFrom n l acc=cellsFrom n l []++acc
 |[],n,acc=>rfl
 |(x,k)::l,n,acc=>by
  unfold cellsFrom;split
  .rw[xL l (n+1) ((x,n)::acc),xL l (n+1) [(x,n)],aA];rfl
  .exact xL l n acc
theorem tF: ∀(l:List (Str×NameKind))(n:Nat){x:Str}{c:Addr},(x,c)∈cellsFrom n l []->(x,NameKind.cell)∈l/\n<=c
 |[],n,x,c,h=>nomatch h
 |(y,k)::l,n,x,c,h=>by
  unfold cellsFrom at h;split at h
  .rename_i hk;rw[xL]at h;rcases List.mem_append.mp h with h|h
   .obtain⟨h1,h2⟩:=tF l (n+1) h;exact⟨mO _ h1,by omega⟩
   .have e:=mS.mp h;cases e;have hk':k=.cell:=by simpa using hk
    subst hk';exact⟨mF0,Nat.le_refl _⟩
  .obtain⟨h1,h2⟩:=tF l n h;exact⟨mO _ h1,h2⟩
def sM{l:List (Str×NameKind)}{C:Nat}{x:Str}{c:Addr}(h:(x,c)∈cellsFrom (C+1) l []){n:Nat}(hC:n<=C):n<c:=lt_of_le_of_lt hC (tF l (C+1) h).2
theorem qS: ∀(l:List (Str×NameKind))(n:Nat){x:Str},(x,NameKind.cell)∈l-> ∃c,(x,c)∈cellsFrom n l []
 |[],n,x,h=>nomatch h
 |(y,k)::l,n,x,h=>by
  unfold cellsFrom;rcases mC.mp h with e|h
  .cases e;rw[iP (by decide),xL];exact⟨n,List.mem_append_right _ mF0⟩
  .split
   .obtain⟨c,hc⟩:=qS l (n+1) h;rw[xL];exact⟨c,mem_append_left _ hc⟩
   .exact qS l n h
theorem own_apart: ∀(l:List (Str×NameKind))(n:Nat),(cellsFrom n l []).Pairwise λx y=>x.2≠y.2
 |[],n=>List.Pairwise.nil
 |(y,k)::l,n=>by
  unfold cellsFrom;split
  .rw[xL];refine List.pairwise_append.mpr ⟨own_apart l (n+1),List.pairwise_singleton _ _,λa ha b hb e=>?_⟩;rw[mS.mp hb]at e;have:=(tF l (n+1) (x:=a.1) (c:=a.2) ha).2;exact Nat.ne_of_gt this e
  .exact own_apart l n
theorem oC{β:Type}(x:Str): ∀(l m:List (Str×β)),(l++m).lookup x=(l.lookup x).or (m.lookup x)
 |[],m=>rfl
 |(y,b)::l,m=>by
  rw[List.cons_append,lookup_cons,lookup_cons]
  cases x==y with
  |true=>rfl
  |false=>exact oC x l m
theorem GQ{β:Type}{x:Str}: ∀{l:List (Str×β)},(∀c,(x,c)∉l)->l.lookup x=none
 |[],_=>rfl
 |(y,b)::l,h=>by
  rw[lookup_cons]
  cases e:x==y with
  |true=>rw[beq_iff_eq.mp e]at h;exact absurd mF0 (h b)
  |false=>exact GQ λc hc=>h c (mO _ hc)
def fA{env:Env}{sc:Scope}{C:Addr}{x:Str}{c:Addr}(e:(XI env sc C).lookup x=some c):(x,c)∈cellsFrom (C+1) sc.names []\/(pD env sc.names []).lookup x=some c:=by
 unfold XI at e;rw[xL,oC]at e
 cases z:(cellsFrom (C+1) sc.names []).lookup x with
 |some c'=>rw[z]at e;cases e;exact .inl (PySem.mem_of_lookup z)
 |none=>rw[z]at e;exact .inr e
def Nb{env:Env}{sc:Scope}{C:Addr}{x:Str}{c:Addr}(h:(x,NameKind.cell)∈sc.names)(e:(XI env sc C).lookup x=some c):(x,c)∈cellsFrom (C+1) sc.names []:=by unfold XI at e;rw[xL,oC]at e;obtain⟨c',h'⟩:=jV (qS sc.names (C+1) h);rw[h']at e;cases e;exact PySem.mem_of_lookup h'
theorem En{env:Env}{sc:Scope}{C:Addr}{x:Str}(h:(x,NameKind.cell)∉sc.names):(XI env sc C).lookup x=(pD env sc.names []).lookup x:=by unfold XI;rw[xL,oC,GQ λc hc=>h (tF _ _ hc).1];rfl
def vA(σ:St)(idx:Db):St:=idx.map λi=>(σ[i]?).join
def iM(σ:St)(idx:Db):(vA σ idx).length=idx.length:=by unfold vA;rw[lM]
def zL(X:Cx)(sc:Scope)(T:Yb)(idx:Db)(C:Addr)(s₂:Shared)(H1:Hp)(fp:Ya):Cx where
 prog:=X.prog
 w:=X.w
 K:=X.K
 mg:=X.mg
 base:=X.base
 A:=X.A
 N:=T++idx.map λi=>(X.N[i]?).getD Str.empty
 s₀:=s₂
 H₀:=H1
 env:=compEnvC sc (XI X.env sc C) C X.env
 outer:=X.stack
 stack:=X.stack
 ex:=fp
 fn:=λx=>sc.names.lookup x==some .cell
 calm:=X.calm
 pn:=[]
 xe:=λ_ _=>False
def YJ(wi:TI)(g:TG)(tc:Addr->Shared->Hp->List Addr->TT)(te:Addr->Shared->Hp->List Addr->TE)(nt:Nat)(idx:Db):TE:=λσ H Q=>wi σ H λJ H1=> ∃W:Nat->Nat->List V->Hp->Prop,(∃m,W 0 m [] H1)/\ ∀i m ys H2,W i m ys H2->ys.length<=sizeLine/\
 ((J.stop i H2/\ ∀D,H2 D=none->Q (.ref D) (xH H2 D (.lst ys)))\/
   (J.go i H2/\ys.length<sizeLine/\ ∀x H3,J.yld i H2 x H3-> ∀τ:St,τ.length=nt->g x (τ++vA σ idx) H3 λσ4 H4=>(∃τ',σ4=τ'++vA σ idx/\τ'.length=nt)/\
    ∀C s₂ fp,tc C s₂ H1 fp σ4 H4 λb H5=>if b=true then te C s₂ H1 fp σ4 H5 λy H6=> ∃m',m'<m/\W (i+1) m' (ys++[y]) H6 else∃m',m'<m/\W (i+1) m' ys H5))
section
variable{prog:Program}{w:World}{A:Around}{R:Result->Shared->Prop}{s:Shared}
def IX{elt target iter:Expr}{ifs:Yi}{scope:Scope}{pos:Pos}{it acc:Value}{env:Env}(I:Nat->Shared->Prop)
  (turn: ∀n s,I n s->wpAny (model prog w) A (pyNext it) (λr s₁=>match r with
   |none=>R (.ok .next) s₁
   |some v=>wpAny (model prog w) A (letOwnedTupleGo target it v) (λ_ s₁'=>wpAny (model prog w) A (assign target env v) (λ_ s₂=>
     wpAny (model prog w) A (forIn ifs true λc r=>if r=true then do let ok <-isTrue c env (eval c env);pure (ForInStep.yield ok)else pure (ForInStep.yield r)) (λok s₃=>
      if ok=true then wpAny (model prog w) A (eval elt env) (λx s₄=>
       wpAny (model prog w) A (call (.builtin "list.append") [acc,x]) (λ_ s₅=> ∃m,m<n/\I m s₅) (λ_ _=>False) s₄) (λ_ _=>False) s₃
      else∃m,m<n/\I m s₃) (λ_ _=>False) s₂) (λ_ _=>False) s₁') (λ_ _=>False) s₁) (λ_ _=>False) s)
  (n:Nat) (h:I n s):codeAny (model prog w) A (.compLoop (.ListComp elt [⟨target,iter,ifs,0⟩] scope pos) 0 it acc env) R s:=by
 refine codeAny_loop rfl I (λn s hI=>?_) n h;show wpAny _ A ((compTurn (.ListComp elt [⟨target,iter,ifs,0⟩] scope pos) 0 it acc env).onRaise (λx=>do noteFrame x env;theTreesLotGoes x)) _ _ s;refine wpAny_noted ?_;rw[compTurn_list];have no: ∀{E':VP}(v:Value)(s':Shared),False->E' v s':=λ_ _ z=>z.elim;refine wB (wpAny_standAt (wB (wpAny_mono (turn n s hI) (λr s₁ h₁=>?_) (no))))
 cases r with
 |none=>exact wP h₁
 |some v=>
  refine wB (wpAny_mono h₁ (λ_ s₁' h₁'=>wB (wpAny_mono h₁' (λ_ s₂ h₂=>wB (wpAny_mono h₂ (λok s₃ h₃=>?_) no)) no)) no)
  cases ok with
  |false=>exact wP ⟨rfl,h₃⟩
  |true=>
   exact wB (wB (wpAny_mono h₃ (λx s₄ h₄=>wB (wpAny_mono h₄ (λ_ s₅ h₅=>wP (wP ⟨rfl,h₅⟩)) no)) no))
end
def VE(X:Cx)(ifs:Yi)(t:TT):Prop:=
 ∀(pins:Ye)(s:Shared)(σ:St)(H:Hp)(Q:Bool->Hp->Prop),Inv X pins σ H s->t σ H Q->
  wpAny (model X.prog X.w) X.A (forIn ifs true λc r=>if r=true then do let ok <-isTrue c X.env (eval c X.env);pure (ForInStep.yield ok)else pure (ForInStep.yield r)) (TP X pins σ Q) X.xe s
def Uj:TT:=λ_ H Q=>Q true H
def YK{X:Cx}:VE X [] Uj:=λ_ _ _ H _ I h=>wpAny_tests_nil ⟨H,I,h⟩
def YL{X:Cx}{c:Expr}{t:TT}(h:PT X c t):VE X [c] t:=λpins s σ H Q I q=>wpAny_tests_one (h pins s σ H Q I q)
structure CompF(osc:Scope)(N:Yb)(sc:Scope)(idx:Db):Prop where
 kind:sc.kind=.function
 uni: ∀y∈sc.names,sc.names.lookup y.1=some y.2
 frees: ∀y∈sc.names,y.2=.free->osc.names.lookup y.1=some .cell\/osc.names.lookup y.1=some .free
 cap: ∀i∈idx, ∃y,N[i]? =some y/\(osc.names.lookup y=some .cell\/osc.names.lookup y=some .free)/\sc.names.lookup y=some .free
def CompF.locs{osc:Scope}{N:Yb}{sc:Scope}{idx:Db}(F:CompF osc N sc idx): ∀y∈sc.names,y.2=.local->sc.names.lookup y.1=some .local:=λy hy e=>by rw[F.uni y hy,e]
def Eo{osc:Scope}{N:Yb}{sc:Scope}{idx:Db}(h:rN osc N sc idx=true):CompF osc N sc idx:=by
 unfold rN at h;simp only[aE,List.all_eq_true,decide_eq_true_eq,Bool.or_eq_true]at h;obtain⟨⟨⟨h1,h2⟩,h4⟩,h5⟩:=h;refine⟨h1,λy hy=>h2 y hy,λy hy e=>?_,λi hi=>?_⟩
 .rcases h4 y hy with(z|z)|z
  .exact absurd e z
  .exact .inl z
  .exact .inr z
 .have q:=h5 i hi
  cases e:N[i]? with
  |none=>rw[e]at q;cases q
  |some y=>
   rw[e]at q;simp only[aE,decide_eq_true_eq,Bool.or_eq_true]at q;exact⟨y,rfl,q.1,q.2⟩
def YM{sc osc:Scope}{x:Str}(h:(VD sc osc).lookup x=some .cell\/(VD sc osc).lookup x=some .free):(x,NameKind.free)∈sc.names\/(x,NameKind.cell)∈sc.names:=by
 have key: ∀k',(k'=.cell\/k'=.free)->(x,k')∈VD sc osc->(x,NameKind.free)∈sc.names\/(x,NameKind.cell)∈sc.names:=by
  intro k' hk' hm;unfold VD at hm;obtain⟨⟨n,k⟩,hy,e⟩:=mM.mp hm;dsimp only at e;split at e
  .rename_i hc;cases e;rw[aE,aE]at hc;have:k=.free:=by simpa using hc.1.1
   subst this;exact .inl hy
  .cases e;rcases hk' with rfl|rfl
   .exact .inr hy
   .exact .inl hy
 rcases h with h|h
 .exact key _ (.inl rfl) (PySem.mem_of_lookup h)
 .exact key _ (.inr rfl) (PySem.mem_of_lookup h)
theorem GR{osc:Scope}{x:Str}: ∀{l:List (Str×NameKind)},l.lookup x=some .free->(l.map λ(n,k)=>if(k==NameKind.free&&osc.kind==.function&&osc.names.lookup n==some .cell)then(n,NameKind.cell)else(n,k)).lookup x=some .cell\/(l.map λ(n,k)=>if(k==NameKind.free&&osc.kind==.function&&osc.names.lookup n==some .cell)then(n,NameKind.cell)else(n,k)).lookup x=some .free
 |[],h=>by simp at h
 |(n,k)::l,h=>by
  have ih:=@GR osc x l;rw[lookup_cons]at h;rw[List.map_cons];by_cases hc:(k==NameKind.free&&osc.kind==.function&&osc.names.lookup n==some .cell)=true
  .dsimp only;rw[iP hc,lookup_cons]
   cases hx:x==n with
   |true=>exact .inl rfl
   |false=>rw[hx]at h;exact ih h
  .dsimp only;rw[iN hc,lookup_cons]
   cases hx:x==n with
   |true=>rw[hx]at h;exact .inr h
   |false=>rw[hx]at h;exact ih h
section
variable{X:Cx}{pins:Ye}{σ:St}{H1:Hp}{s₂:Shared}{sc:Scope}{T:Yb}{idx:Db}{C:Addr}{fp:Ya}
def MG(I:Inv X pins σ H1 s₂)(F:CompF X.env.scope X.N sc idx): ∀y∈sc.names,y.2=.free-> ∃c,X.env.cells.lookup y.1=some c:=
 λy hy e=>I.ok.has y.1 (F.frees y hy e)
def jB(I:Inv X pins σ H1 s₂)(F:CompF X.env.scope X.N sc idx){x:Str}{c:Addr}(e:(pD X.env sc.names []).lookup x=some c):X.env.cells.lookup x=some c:=
 AD sc.names [] (MG I F) (λ_ z=>nomatch z) (x,c) (PySem.mem_of_lookup e)
def Ep(I:Inv X pins σ H1 s₂)(F:CompF X.env.scope X.N sc idx){x:Str}{c:Addr}(hx:(x,NameKind.free)∈sc.names)(e:X.env.cells.lookup x=some c):(pD X.env sc.names []).lookup x=some c:=by obtain⟨c',h'⟩:=jV (pT (env:=X.env) sc.names [] x hx);rw[h'];rw[jB I F h']at e;exact e
def VF(I:Inv X pins σ H1 s₂)(F:CompF X.env.scope X.N sc idx)(hC:s₂.heap.objs.size<=C)(hfp: ∀b∈fp,pN X pins H1 b)(hlt: ∀b∈fp,b<s₂.heap.objs.size):(zL X sc T idx C s₂ H1 fp).Ok where
 mod:=I.ok.mod
 kind:=F.kind
 glob:=I.ok.glob
 blt:=I.ok.blt
 above:=hC
 inj:=λx y c h1 h2=>by
  have low: ∀z,(pD X.env sc.names []).lookup z=some c->c<s₂.heap.objs.size:=λz h=>let ⟨v,q⟩:=I.cell z c (jB I F h);q.lt;rcases fA h1 with z1|z1<;>rcases fA h2 with z2|z2
  .exact PySem.name_of_addr (own_apart sc.names (C+1)) z1 z2
  .exact absurd (low y z2) (Nat.not_lt.mpr (le_of_lt (sM z1 hC)))
  .exact absurd (low x z1) (Nat.not_lt.mpr (le_of_lt (sM z2 hC)))
  .exact I.ok.inj x y c (jB I F z1) (jB I F z2)
 has:=λx hx=>by
  have hx':(VD sc X.env.scope).lookup x=some .cell\/(VD sc X.env.scope).lookup x=some .free:=hx;show∃c,(XI X.env sc C).lookup x=some c;unfold XI;rw[xL];rcases YM hx' with z|z
  .obtain⟨c,hc⟩:=pT (env:=X.env) sc.names [] x z;exact jV ⟨c,List.mem_append_right _ hc⟩
  .obtain⟨c,hc⟩:=qS sc.names (C+1) z;exact jV ⟨c,mem_append_left _ hc⟩
 cab:=λx c h e=>by have h':sc.names.lookup x=some .cell:=beq_iff_eq.mp h;exact le_of_lt (sM (Nb (PySem.mem_of_lookup h') e) hC)
 hd:=I.ok.hd
 frames:=I.ok.frames
 stk:=.inl rfl
 exf:=λb hb=>⟨Nat.ne_of_lt (Nat.lt_of_lt_of_le (hlt b hb) hC),λx c e=>by
  rcases fA e with z|z
  .exact Nat.ne_of_gt (lt_trans (hlt b hb) (sM z hC))
  .exact(hfp b hb).2.2.2.2.1 x c (jB I F z)⟩
 bs:=I.bs
 bsz:=Nat.le_trans I.ok.bsz I.sz
 noex:=λb o e hb=>by
  rcases (hfp b hb).2.2.2.1 with z|z
  .exact I.ok.noex b o e z
  .exact absurd (Nat.lt_of_lt_of_le (Heap.lt_size e) (Nat.le_trans I.ok.bsz z)) (lt_irrefl _)
 exfs:=λb hb z=>by
  rcases mC.mp (I.stkSub b z)with e|e
  .exact(hfp b hb).2.1 e
  .exact(hfp b hb).2.2.1 e
 funs:=I.stack
 frf:=I.stkFree
def QA{s₄:Shared}{m:Yc}(I:Inv X pins σ H1 s₂)(F:CompF X.env.scope X.N sc idx)(hC:s₂.heap.objs.size<=C)(hfp: ∀b∈fp,pN X pins H1 b)(hlt: ∀b∈fp,b<s₂.heap.objs.size)
  (kp: ∀b o,s₂.heap.get? b=some o->s₄.heap.get? b=some o) (ho:s₄.os=s₂.os) (hg:s₄.gens=s₂.gens) (hn:s₄.heap.Ns C m) (hcl: ∀x c,(x,c)∈cellsFrom (C+1) sc.names []->s₄.heap.IsCell c none):
  Inv (zL X sc T idx C s₂ H1 fp) [] (T.map (λ_=>none)++vA σ idx) H1 s₄:=by
 have cellK: ∀c v,s₂.heap.IsCell c v->s₄.heap.IsCell c v:=λc v ⟨o,h1,h2⟩=>⟨o,kp c o h1,h2⟩
 refine⟨VF I F hC hfp hlt,ho,by rw[hg];exact I.bare,Un.kept kp,⟨m,hn,λi x v e1 e2 e3=>?_⟩,λx c e=>?_,I.hok.fresh hC,λx c e=>?_,λp hp=>absurd (show p∈([]:Ye)from hp) (by simp),I.hok.kept kp,?_⟩
 .have e1':(T++idx.map λi=>(X.N[i]?).getD Str.empty)[i]? =some x:=e1;by_cases hi:i<T.length
  .rw[getElem?_append_left (by simpa using hi),getElem?_map]at e2
   cases z:T[i]? with
   |none=>rw[z]at e2;cases e2
   |some y=>rw[z]at e2;cases e2
  .rw[getElem?_append_right (by simpa using hi)]at e2;rw[getElem?_append_right #[0]]at e1';rw[lM]at e2;unfold vA at e2;rw[getElem?_map]at e1' e2
   cases z:idx[i - T.length]? with
   |none=>rw[z]at e2;cases e2
   |some j=>
    rw[z]at e1' e2;have hj:j∈idx:=mem_of_getElem? z;obtain⟨y,hy,k1,k2⟩:=F.cap j hj;have ex:y=x:=by have q:(X.N[j]?).getD Str.empty=x:=Option.some.inj e1';rw[hy]at q;exact q
    subst ex
    have ev:σ[j]? =some (some v):=by
     have q:(σ[j]?).join=some v:=Option.some.inj e2
     cases w':σ[j]? with
     |none=>rw[w']at q;cases q
     |some a=>rw[w']at q;have q':a=some v:=q;rw[q']
    obtain⟨m0,hn0,hl0⟩:=I.loc;have vis:Sx X.env.scope y:=k1.elim (λz=>.inr (.inl z)) λz=>.inr (.inr z);obtain⟨u,r,l⟩:=hl0 j y v hy ev vis;refine⟨u,r,?_⟩;rcases l with⟨kl,_⟩|⟨_,c,hc,q⟩
    .have kl':X.env.scope.names.lookup y=some .local:=kl;rcases k1 with z|z<;>rw[z]at kl'<;>cases kl'
    .have nc:(y,NameKind.cell)∉sc.names:=λz=>by have:=F.uni _ z;rw[k2]at this;cases this
     refine .inr ⟨GR (osc:=X.env.scope) k2,c,?_,cellK c _ q⟩;show(XI X.env sc C).lookup y=some c;rw[En nc];exact Ep I F (PySem.mem_of_lookup k2) hc
 .rcases fA e with z|z
  .exact⟨none,hcl x c z⟩
  .obtain⟨v,q⟩:=I.cell x c (jB I F z);exact⟨v,cellK c v q⟩
 .rcases fA e with z|z
  .exact I.hok.fresh (le_of_lt (sM z hC))
  .exact I.freeC x c (jB I F z)
 .show(T.map (λ_=>(none:Option V))++vA σ idx).length=(T++idx.map λi=>(X.N[i]?).getD Str.empty).length;rw[lA,lA,lM,lM,iM]
def QB{σ1:St}{H':Hp}{s':Shared}{h':Heap}{D:Addr}{ys:List V}{its:Xj}{n:Nat}(I:Inv X pins σ H1 s₂)(hC:s₂.heap.objs.size<=C)(hfp: ∀b∈fp,pN X pins H1 b)
  (J:Inv (zL X sc T idx C s₂ H1 fp) [] σ1 H' s') (hs:Heap.SameBut C s'.heap h') (hD:s₂.heap.objs.size<=D) (hDC:D≠C) (eD:s'.heap.get? D=some {cls:=.type "list",data:=.seq its.toArray n}) (nD:H' D=none) (r:Vals ys its) (hz:ys.length<=sizeLine):
  Inv X pins σ (xH H' D (.lst ys)) {s' with heap:=h'}:=by
 have old: ∀b o,s₂.heap.get? b=some o->b≠C/\b≠D:=λb o e=>⟨Nat.ne_of_lt (Nat.lt_of_lt_of_le (Heap.lt_size e) hC),Nat.ne_of_lt (Nat.lt_of_lt_of_le (Heap.lt_size e) hD)⟩
 have oldH: ∀b u,H1 b=some u->b≠D:=λb u e=>Nat.ne_of_lt (Nat.lt_of_lt_of_le (I.hok.lt e) hD);have nC:H' C=none:=J.free;have B:Un (RT X.stack) fp H1 H' s₂.heap s'.heap:=J.base;have mv: ∀b o,b≠C->s'.heap.get? b=some o->h'.get? b=some o:=λb o hb e=>(hs.2 b hb).trans e;refine I.call' (s':={s' with heap:=h'}) (ch:=fp) J.os ⟨λb o e q hb hx=>?_,λb o e q hb hx=>?_,λb o e q hx=>?_,λb o e hx=>?_,λb xs e=>?_,λb o u e=>?_,λb ps e=>?_⟩ ?_ J.bare λb hb=>⟨(hfp b hb).2.2.2.1,(hfp b hb).2.1,(hfp b hb).2.2.2.2.1,(hfp b hb).2.2.2.2.2⟩
 .exact mv b o (old b o e).1 (B.keep b o e q hb hx)
 .obtain⟨sl,z⟩:=B.slot b o e q hb hx;exact⟨sl,mv b _ (old b o e).1 z⟩
 .rw[zH (old b o e).2];exact B.free b o e q hx
 .obtain⟨o',z⟩:=B.there b o e hx;exact⟨o',mv b o' (old b o e).1 z⟩
 .rw[zH (oldH b _ e)];exact B.tups b xs e
 .rw[zH (oldH b _ e)];exact B.frzs b o u e
 .obtain⟨more,z⟩:=B.tbls b ps e;exact⟨more,by rw[zH (oldH b _ e)];exact z⟩
 .intro b u e;by_cases hb:b=D
  .subst hb;rw[zS]at e;cases e;exact⟨hz,its,n,r,mv b _ hDC eD⟩
  .rw[zH hb]at e;refine(J.hok b u e).stay (λc v hc q=>mv c v ?_ q) (λc q=>by rw[zH (zP q nD)];exact q) λc xs q=>by rw[zH (zP q nD)];exact q
   rcases hc with z|z
   .rw[z];exact zP e nC
   .exact zP z nC
end
section
variable{X:Cx}
def FO{M:Model}{A:Around}{E:VP}{s:Shared}{scope:Scope}{globals:Addr}{closure:List (Str×Addr)}{qual:Str}{outer:Env}{Q:Env->Shared->Prop}
  (hQ:Q (newEnv scope s.heap.objs.size globals (cellsFrom (s.heap.objs.size+1) scope.names closure) qual none .none (some outer) builtinsNs) {s with heap:=pushCells (s.heap.push {cls:=.type "dict",data:=.dict #[]}) scope.names}):
  wpAny M A (newFunctionEnv scope globals closure [] qual none .none (some outer)) Q E s:=by
 simp only[newFunctionEnv,Option.isSome_some,if_true];refine wB (wpAny_alloc ?_);refine wB (wpAny_layCells _ (λname kind cells=>by cases hkc:kind==NameKind.cell<;>simp[hkc]) _ _ _ _ ?_);rw[show({s with heap:=s.heap.push {cls:=.type "dict",data:=.dict #[]}}:Shared).heap.objs.size=s.heap.objs.size+1 from Heap.size_push ..];simp only[forIn_nil];exact wB (wP (wP hQ))
def MH{C:Cx->Prop}{elt tg iter:Expr}{ifs:Yi}{pos:Pos}{sc:Scope}{wi:TI}{g:TG}{tc:Addr->Shared->Hp->List Addr->TT}{te:Addr->Shared->Hp->List Addr->TE}(T:Yb)(idx:Db)
  (hi:Th C X tg iter wi) (hCx: ∀c s₂ H2 fp pins σ,Inv X pins σ H2 s₂->C (zL X sc T idx c s₂ H2 fp)) (hB:rN X.env.scope X.N sc idx=true)
  (hg: ∀C s₂ H1 fp,PG (zL X sc T idx C s₂ H1 fp) tg g)
  (hc: ∀C s₂ H1 fp,VE (zL X sc T idx C s₂ H1 fp) ifs (tc C s₂ H1 fp))
  (he: ∀C s₂ H1 fp,PE (zL X sc T idx C s₂ H1 fp) elt (te C s₂ H1 fp))
  (hs: ∀x,foldedSetIterable iter X.env x=pure x:=by intro _;rfl)
  {pins:Ye} {s:Shared} {σ:St} {H:Hp} {Q:VK} {use:Option (Value->Sem Unit)} {Q':VP} (I:Inv X pins σ H s) (h:YJ wi g tc te T.length idx σ H Q)
  (fin: ∀(D C:Addr)(s4:Shared)(H':Hp)(r:_),(∀h',Heap.SameBut C s4.heap h'->Inv X pins σ H' {s4 with heap:=h'})->pN X pins H' C->(∃m,s4.heap.Ns C m)->Q (.ref D) H'->
   compPost (model X.prog X.w) X.A X.xe use Q' (.ref D) C (.ok r) s4):
  wpAny (model X.prog X.w) X.A (comprehension (.ListComp elt [⟨tg,iter,ifs,0⟩] sc pos) sc X.env (firstIterPos [⟨tg,iter,ifs,0⟩] pos) (newList []) false (eval iter X.env) use) Q' X.xe s:=by
 have cf:=Eo hB;refine wpAny_comprehension_free (use:=use) (cl:=pD X.env sc.names []) rfl hs (FN (MG I cf)) cf.kind cf.locs ?_;refine kG (hi pins s σ H _ I h) λv s1 h1=>kG h1 λitv s2 h2=>?_;obtain⟨it,fp,tn,J,H2,e,I2,Tn,st2,f2,W,⟨m0,w0⟩,turn⟩:=h2;subst e;have hlt: ∀b∈fp,b<s2.heap.objs.size:=λb hb=>let ⟨o,e,_⟩:=Tn.obj _ _ st2 b hb;Heap.lt_size e;refine wpAny_newObj_type (FO ?_);dsimp only;generalize hH2:s2.heap.push {cls:=.type "list",dict:=none,data:=.seq ([]:Xj).toArray}=HH;generalize hh1:pushCells (HH.push {cls:=.type "dict",data:=.dict #[]}) sc.names=h₁;have hns₁:h₁.Ns HH.objs.size (λ_=>none):=hh1▸(Heap.Ns.new HH (.type "dict")).keeps (pushCells_keeps _ _);have hC:HH.objs.size=s2.heap.objs.size+1:=by rw[<-hH2,Heap.size_push]
 have hDC:s2.heap.objs.size≠HH.objs.size:=by rw[hC];exact Nat.ne_of_lt (Nat.lt_succ_self _)
 have hCle:s2.heap.objs.size<=HH.objs.size:=by rw[hC];exact le_succ _
 have up1: ∀b o,HH.get? b=some o->h₁.get? b=some o:=λb o e=>hh1▸pushCells_keeps _ _ b o (hP0 _ e);have old: ∀b o,s2.heap.get? b=some o->h₁.get? b=some o:=λb o e=>up1 b o (hH2▸hP0 _ e);have eD0:h₁.get? s2.heap.objs.size=some {cls:=.type "list",data:=.seq ([]:Xj).toArray 0}:=up1 _ _ (hH2▸Heap.get?_push_size _ rfl);have hcl: ∀x c,(x,c)∈cellsFrom (HH.objs.size+1) sc.names []->h₁.IsCell c none:=λx c hm=>by have ok:=cellsFrom_ok sc.names (HH.push {cls:=.type "dict",data:=.dict #[]}) 0 [] ⟨λ_ _ hm=>(nomatch hm),List.Pairwise.nil⟩ (zero_le _);rw[Heap.size_push,hh1]at ok;exact(ok.empty x c hm).1
 have nD0:H2 s2.heap.objs.size=none:=I2.hok.fresh q9
 have cD: ∀x c,(XI X.env sc HH.objs.size).lookup x=some c->c≠s2.heap.objs.size:=λx c e=>by
  rcases fA e with z|z
  .exact Nat.ne_of_gt (sM z hCle)
  .obtain⟨v,q⟩:=I2.cell x c (jB I2 cf z);exact Nat.ne_of_lt q.lt
 have loop: ∀s4:Shared,s4={s2 with heap:=h₁}->
   codeAny (model X.prog X.w) X.A (.compLoop (.ListComp elt [⟨tg,iter,ifs,0⟩] sc pos) 0 (.ref it) (.ref s2.heap.objs.size) (compEnvC sc (XI X.env sc HH.objs.size) HH.objs.size X.env))
    (compPost (model X.prog X.w) X.A X.xe use Q' (.ref s2.heap.objs.size) HH.objs.size) s4:=by
  rintro s4 rfl
  have J0:Inv (zL X sc T idx HH.objs.size s2 H2 fp) [] (T.map (λ_=>none)++vA σ idx) H2 {s2 with heap:=h₁}:=
   QA I2 cf hCle f2 hlt old rfl rfl hns₁ hcl
  refine IX (λk s'=> ∃(i:Nat)(ys:List V)(its:Xj)(n:Nat)(H':Hp)(τ:St),Inv (zL X sc T idx HH.objs.size s2 H2 fp) [] (τ++vA σ idx) H' s'/\τ.length=T.length/\tn i s'.heap/\(∀b∈fp,H' b=none)/\
   s'.heap.get? s2.heap.objs.size=some {cls:=.type "list",data:=.seq its.toArray n}/\H' s2.heap.objs.size=none/\Vals ys its/\W i k ys H') ?_ m0
   ⟨0,[],[],0,H2,T.map (λ_=>none),J0,by rw[lM],Tn.keep _ _ _ st2 λb _ o e=>old b o e,λb hb=>(f2 b hb).1,eD0,nD0,.nil,w0⟩
  rintro k s3 ⟨i,ys,its,n,H3,τ,I3,hτ,st3,fr3,eD3,nD3,r3,w3⟩;obtain⟨hz,alt⟩:=turn i k ys H3 w3;have hDfs:s2.heap.objs.size∉(zL X sc T idx HH.objs.size s2 H2 fp).fs:=λz=>by obtain⟨_,o,ho,_⟩:=I2.stack.mem (show s2.heap.objs.size∈RT X.stack from z);exact absurd (Heap.lt_size ho) (lt_irrefl _)
  have pinD: ∀{H':Hp}{s':Shared},s'.heap.get? s2.heap.objs.size=some {cls:=.type "list",data:=.seq its.toArray n}->H' s2.heap.objs.size=none->
    ∀p∈[(s2.heap.objs.size,({cls:=.type "list",data:=.seq its.toArray n}:Obj))],s'.heap.get? p.1=some p.2/\H' p.1=none/\p.1≠(zL X sc T idx HH.objs.size s2 H2 fp).env.locals/\p.1∉(zL X sc T idx HH.objs.size s2 H2 fp).fs/\ ∀v,p.2.data≠.cell v:=
   λ{H' s'} e1 e2 p hp=>by
    have ep:p=(s2.heap.objs.size,{cls:=.type "list",data:=.seq its.toArray n}):=by simpa using hp
    subst ep;exact⟨e1,e2,hDC,hDfs,λv z=>by cases z⟩
  have P3:Inv (zL X sc T idx HH.objs.size s2 H2 fp) [(s2.heap.objs.size,{cls:=.type "list",data:=.seq its.toArray n})] (τ++vA σ idx) H3 s3:=I3.pins_of (pinD eD3 nD3)
  have stat: ∀{H':Hp},(∀b∈fp,H' b=none)-> ∀b∈fp,pN (zL X sc T idx HH.objs.size s2 H2 fp) [(s2.heap.objs.size,{cls:=.type "list",data:=.seq its.toArray n})] H' b:=λ{H'} hn b hb=>by
   have hb2:=hlt b hb;refine⟨hn b hb,Nat.ne_of_lt (Nat.lt_of_lt_of_le hb2 hCle),I3.ok.exfs b hb,.inl hb,λx c e=>?_,λp hp=>?_⟩
   .rcases fA e with z|z
    .exact Nat.ne_of_gt (lt_trans hb2 (sM z hCle))
    .exact(f2 b hb).2.2.2.2.1 x c (jB I2 cf z)
   have ep:p=(s2.heap.objs.size,({cls:=.type "list",data:=.seq its.toArray n}:Obj)):=by simpa [zL]using hp
   subst ep;exact Nat.ne_of_gt hb2
  rcases alt with⟨stop,q⟩|⟨go,hl2,step⟩
  .refine kG (Tn.done (zL X sc T idx HH.objs.size s2 H2 fp) rfl rfl rfl (hCx _ _ _ _ _ _ I2) i _ s3 _ H3 (λ_ _=>False) P3 (stat fr3) st3 stop) λr s4 ⟨hr,I4⟩=>?_;subst hr;obtain⟨m,hn,_⟩:=id I4.loc;have eD4:=(I4.pin (s2.heap.objs.size,{cls:=.type "list",data:=.seq its.toArray n}) (by simp)).1;exact fin _ _ s4 _ _ (λh' hs'=>QB I2 hCle f2 (I4.pins_of (λp hp=>nomatch hp)) hs' q9 hDC eD4 nD3 r3 hz) (I2.fpOk hCle (by rw[zH (Ne.symm hDC)];exact I4.free)) ⟨m,hn⟩ (q _ nD3)
  .refine kG (Tn.item (zL X sc T idx HH.objs.size s2 H2 fp) rfl rfl rfl (hCx _ _ _ _ _ _ I2) i _ s3 _ H3 (λ_ _=>False) P3 (stat fr3) st3 go) λr s4 ⟨u,hr,h4⟩=>?_;subst hr;refine kG h4 λ_ s5 ⟨x,H5,I5,r5,y5,st5,fr5⟩=>?_;have I5':=I5.pinned (stat fr5) (Tn.obj _ _ st5);refine kG (hg HH.objs.size s2 H2 fp _ s5 _ H5 x u _ I5' r5 (step x H5 y5 τ hτ)) λ_ s6 ⟨σ6,H6,I6,⟨τ',e6,l6⟩,q6⟩=>?_;subst e6;refine kG (hc HH.objs.size s2 H2 fp _ s6 _ H6 _ I6 (q6 HH.objs.size s2 fp)) λok s7 ⟨H7,I7,q7⟩=>?_
   have mD:(s2.heap.objs.size,({cls:=.type "list",data:=.seq its.toArray n}:Obj))∈(zL X sc T idx HH.objs.size s2 H2 fp).pn++([(s2.heap.objs.size,{cls:=.type "list",data:=.seq its.toArray n})]++pS fp s5.heap):=
    List.mem_append_right _ (mem_append_left _ (by simp))
   have mF: ∀b∈fp, ∀o,s5.heap.get? b=some o->(b,o)∈(zL X sc T idx HH.objs.size s2 H2 fp).pn++([(s2.heap.objs.size,{cls:=.type "list",data:=.seq its.toArray n})]++pS fp s5.heap):=λb hb o e=>
    List.mem_append_right _ (List.mem_append_right _ (sH hb e))
   cases ok with
   |false=>
    rw[iN xF0]at q7 ⊢;obtain⟨m',hm',w7⟩:=q7;refine⟨m',hm',i+1,ys,its,n,H7,τ',I7.pins_of (λp hp=>nomatch hp),l6,Tn.keep _ _ _ st5 λb hb o e=>(I7.pin _ (mF b hb o e)).1,λb hb=>?_,(I7.pin _ mD).1,(I7.pin _ mD).2.1,r3,w7⟩;obtain⟨o,e,d⟩:=Tn.obj _ _ st5 b hb;exact(I7.pin _ (mF b hb o e)).2.1
   |true=>
    rw[iP rfl]at q7 ⊢;refine kG (he HH.objs.size s2 H2 fp _ s7 _ H7 _ I7 q7) λy s8 ⟨yv,H8,I8,r8,m',hm',w8⟩=>?_;have eD8:=(I8.pin _ mD).1;have nD8:=(I8.pin _ mD).2.1;have hl:=r3.length;have q:=PySem.IsL.update eD8 (λz=>z.push y);rw[show its.toArray.push y=(its++[y]).toArray by simp]at q;refine call_meets PySem.F.slot_list_append ⟨_,eD8,rfl⟩ PySem.F.entry_list_append (PySem.F.args_list_append_2 _ _) (PySem.list_append s2.heap.objs.size its.toArray n y (by rw[sA];omega)) ⟨eD8,?_⟩;have I9:Inv (zL X sc T idx HH.objs.size s2 H2 fp) [] (τ'++vA σ idx) H8 s8:=I8.pins_of (λp hp=>nomatch hp);have up: ∀b o,b≠s2.heap.objs.size->s8.heap.get? b=some o->(s8.heap.update s2.heap.objs.size (Obj.mapSeq λz=>z.push y)).get? b=some o:=λb o hb e=>(Heap.get?_update_other s8.heap _ (Ne.symm hb)).trans e;refine⟨m',hm',i+1,ys++[yv],its++[y],_,H8,τ',I9.turned (t':=s8.toks) up nD8 hDC (.inr q9) cD (λp hp=>nomatch hp),l6,?_,λb hb=>?_,q,nD8,r3.append (.cons r8 .nil),w8⟩
    .exact Tn.keep _ _ _ st5 λb hb o e=>up b o (Nat.ne_of_lt (hlt b hb)) (I8.pin _ (mF b hb o e)).1
    .obtain⟨o,e,d⟩:=Tn.obj _ _ st5 b hb;exact(I8.pin _ (mF b hb o e)).2.1
 exact codeAny_compStart_list (loop _ rfl) (Tn.self X.A 0 _ _ _ (Tn.keep _ _ _ st2 λb _ o e=>old b o e) (loop _ rfl))
def Et{C:Cx->Prop}{elt tg iter:Expr}{ifs:Yi}{pos:Pos}{sc:Scope}{wi:TI}{g:TG}{tc:Addr->Shared->Hp->List Addr->TT}{te:Addr->Shared->Hp->List Addr->TE}(T:Yb)(idx:Db)
  (hi:Th C X tg iter wi) (hCx: ∀c s₂ H2 fp pins σ,Inv X pins σ H2 s₂->C (zL X sc T idx c s₂ H2 fp)) (hB:rN X.env.scope X.N sc idx=true)
  (hg: ∀C s₂ H1 fp,PG (zL X sc T idx C s₂ H1 fp) tg g)
  (hc: ∀C s₂ H1 fp,VE (zL X sc T idx C s₂ H1 fp) ifs (tc C s₂ H1 fp))
  (he: ∀C s₂ H1 fp,PE (zL X sc T idx C s₂ H1 fp) elt (te C s₂ H1 fp))
  (hs: ∀x,foldedSetIterable iter X.env x=pure x:=by intro _;rfl):
  PE X (.ListComp elt [⟨tg,iter,ifs,0⟩] sc pos) (YJ wi g tc te T.length idx):=by
 intro pins s σ H Q I h;rw[eval_ListComp];exact MH T idx hi hCx hB hg hc he hs (use:=none) I h λD C s4 H' r J _ ⟨m,hn⟩ q=>⟨m,hn,λh' hs'=>⟨.ref D,H',J h' hs',rfl,q⟩⟩
end
def bL(x:Db):Str:=⟨x.toArray⟩
def gG(x:Db):(bL x).length=x.length:=by simp[bL,Str.length]
def tG(x:Db):(bL x).cps.toList=x:=by simp[bL]
def tH{x y:Db}(h:bL x=bL y):x=y:=by have:=congrArg (λs=>s.cps.toList) h;simpa [bL]using this
def Eu(x y:Db):bL x++bL y=bL (x++y):=by show Str.append (bL x) (bL y)=_;simp[Str.append,bL]
theorem Ew(c:Nat):(⟨#[c]⟩:Str)=bL [c]:=rfl
def aQ{α:Type}(xs:List α)(lo hi:Yh):List α:=(xs.drop (HT.sIx xs.length 0 lo)).take (HT.sIx xs.length xs.length hi - HT.sIx xs.length 0 lo)
theorem strIdx(lo hi:Yh)(n:Nat):Builtin.Str.strSliceIndices lo hi 1 n=(List.range (HT.sIx n n hi - HT.sIx n 0 lo)).map (HT.sIx n 0 lo+·):=by
 have e1:(match lo with |none=>(if(1:Int)>0 then(0:Int)else(n:Int) - 1)|some i=>if(1:Int)>0 then max 0 (min (if i<0 then i+(n:Int)else i) (n:Int))else max (-1) (min (if i<0 then i+(n:Int)else i) ((n:Int) - 1)))=((HT.sIx n 0 lo:Nat):Int):=by
  cases lo with
  |none=>simp[HT.sIx]
  |some i=>
   simp only[HT.sIx,show(1:Int)>0 by decide,if_true];by_cases h:i<0
   .simp only[h,if_true];omega
   .simp only[h,iF];omega
 have e2:(match hi with |none=>(if(1:Int)>0 then(n:Int)else -1)|some i=>if(1:Int)>0 then max 0 (min (if i<0 then i+(n:Int)else i) (n:Int))else max (-1) (min (if i<0 then i+(n:Int)else i) ((n:Int) - 1)))=((HT.sIx n n hi:Nat):Int):=by
  cases hi with
  |none=>simp[HT.sIx]
  |some i=>
   simp only[HT.sIx,show(1:Int)>0 by decide,if_true];by_cases h:i<0
   .simp only[h,if_true];omega
   .simp only[h,iF];omega
 rw[<-sliceRange_one];unfold Builtin.Str.strSliceIndices;dsimp only;rw[<-e1, <-e2];cases lo<;>cases hi<;>rfl
theorem VG(x:Db)(lo hi:Yh):Txt.slice (bL x) lo hi=bL (aQ x lo hi):=by
 unfold Txt.slice;rw[strIdx,gG];have hp:((List.range (HT.sIx x.length x.length hi - HT.sIx x.length 0 lo)).map (HT.sIx x.length 0 lo+·)).filterMap ((bL x).cps[·]?)=aQ x lo hi:=by have:=pick_run (bL x).cps (HT.sIx x.length 0 lo) (HT.sIx x.length x.length hi - HT.sIx x.length 0 lo);rw[tG]at this;exact this
 rw[hp];split
 .rename_i hc;rw[aE]at hc;have hl:HT.sIx x.length x.length hi - HT.sIx x.length 0 lo=x.length:=by simpa using hc.2
  have h2:HT.sIx x.length x.length hi<=x.length:=HT.sIx_le _ _ q9 _;have h3:HT.sIx x.length 0 lo<=x.length:=HT.sIx_le _ _ (zero_le _) _;have e:HT.sIx x.length 0 lo=0:=by omega
  unfold aQ;rw[hl,e];simp
 .rfl
section
variable{X:Cx}
def rSlS:V->Option Int->Option Int->Hp->VK->Prop:=λx lo hi H Q=> ∃cs,x=.str (bL cs)/\cs.length<=sizeLine/\Q (.str (bL (aQ cs lo hi))) H
def Nc:SlR X rSlS:=by
 intro pins s σ H x v vl vu lo hi sl Q I rx hs pl pu h;obtain⟨cs,rfl,hz,q⟩:=h;obtain⟨t,rfl⟩:=rx;have hl:(Txt.slice (bL cs) lo hi).length<=sizeLine:=Nat.le_trans (Txt.slice_le _ _ _) (by rw[gG];exact hz);rw[<-VG]at q;refine⟨"str",_,slot_str_getitem.lookup,typeIs_str _ _ _,?_⟩;obtain⟨o,ho,hc,hd⟩:=hs
 cases pl with
 |none=>
  cases pu with
  |none=>exact wpAny_getItem_str_slice (l:=none) (u:=none) (st:=none) ⟨o,ho,hc,hd⟩ rfl (post_val_or_str ⟨hl,λt' k=>⟨.str _,H,I.tok _,⟨_,rfl⟩,q⟩⟩)
  |int j uj=>exact wpAny_getItem_str_slice (l:=none) (u:=some (j,uj)) (st:=none) ⟨o,ho,hc,hd⟩ rfl (post_val_or_str ⟨hl,λt' k=>⟨.str _,H,I.tok _,⟨_,rfl⟩,q⟩⟩)
 |int i ui=>
  cases pu with
  |none=>exact wpAny_getItem_str_slice (l:=some (i,ui)) (u:=none) (st:=none) ⟨o,ho,hc,hd⟩ rfl (post_val_or_str ⟨hl,λt' k=>⟨.str _,H,I.tok _,⟨_,rfl⟩,q⟩⟩)
  |int j uj=>exact wpAny_getItem_str_slice (l:=some (i,ui)) (u:=some (j,uj)) (st:=none) ⟨o,ho,hc,hd⟩ rfl (post_val_or_str ⟨hl,λt' k=>⟨.str _,H,I.tok _,⟨_,rfl⟩,q⟩⟩)
def DB(cs:Db)(k:Int):List Nat:=(List.replicate k.toNat cs).flatten
theorem vB(cs:Db): ∀(k:Nat)(acc:Db),List.foldl (λx1 x2=>x1++x2) acc.toArray (List.replicate k cs.toArray)=(acc++(List.replicate k cs).flatten).toArray
 |0,acc=>by simp
 |k+1,acc=>by rw[replicate_succ,List.foldl_cons,replicate_succ,flatten_cons, <-aA, <-vB cs k (acc++cs)];simp
def QD:OpR X (binaryOp .Mult) (λx y H Q=> ∃cs k,x=.str (bL cs)/\y=.int k/\0<=k/\k<1000/\cs.length<=1000/\Q (.str (bL (DB cs k))) H):=by
 intro pins s σ H x y v u Q I rx ry h;obtain⟨cs,k,rfl,rfl,h0,h1,hc,q⟩:=h;obtain⟨t,rfl⟩:=rx;obtain⟨t',rfl⟩:=ry;have hs:sizeLine=16777216:=sizeLine_eq;have hprod:cs.length * k.toNat<=1000 * 1000:=mul_le_mul hc #[0];have e: ∀b,Q (.str b) H->b=bL (DB cs k)->True:=λ_ _ _=>trivial;refine PySem.P.mul_str (by rw[dF0 #[0],dF0 #[0]];rfl) (λh2 _=>?_) (λ_ _=>?_) ?_
 .rw[gG];have hk:1<=k:=by omega
  have:(1000:Int)<=(2 ^ 63 - 1) / k:=by rw[Int.le_ediv_iff_mul_le #[0]];omega
  omega
 .rw[gG];unfold PySem.Builtin.Str.tooLong;exact dF0 #[0]
 .have made: ∀(z:Str),z=bL (DB cs k)->z.length<=sizeLine->(Made.str z).post (EP X pins σ Q) s:=λz ez hz=>⟨hz,by rw[ez];exact⟨.str _,H,I.tok _,⟨_,rfl⟩,q⟩⟩
  have hlen:(DB cs k).length=k.toNat * cs.length:=by unfold DB;rw[len_rep]
  by_cases hn:k<1
  .rw[iP hn];have hk:k.toNat=0:=by omega
   refine made _ ?_ (by decide);unfold DB;rw[hk];rfl
  .rw[iN hn];by_cases h3:(k==1 || (bL cs).length==0)=true
   .rw[iP h3];refine⟨.str (bL cs),H,I,⟨_,rfl⟩,?_⟩
    have:DB cs k=cs:=by
     unfold DB;rw[Bool.or_eq_true]at h3;rcases h3 with h3|h3
     .have:k=1:=by simpa using h3
      subst this;simp
     .rw[gG]at h3;have:cs=[]:=by cases cs with |nil=>rfl|cons _ _=>simp at h3
      subst this;simp
    rw[this]at q;exact q
   .rw[iN h3];refine made _ ?_ ?_
    .unfold DB bL;have:=vB cs k.toNat [];rw[List.nil_append]at this;exact congrArg Str.mk this
    .have e3:(List.foldl (λx1 x2=>x1++x2) #[] (List.replicate k.toNat (bL cs).cps))=(DB cs k).toArray:=by have:=vB cs k.toNat [];rw[List.nil_append]at this;exact this
     show(List.foldl (λx1 x2=>x1++x2) #[] (List.replicate k.toNat (bL cs).cps)).size<=sizeLine;rw[e3,sA,hlen,Nat.mul_comm];omega
end
section
variable{X:Cx}
def PU(X:Cx)(e:Expr)(t:TE):Prop:= ∀(i:Nat)(x:Str)(pos' pos:Pos),X.N.Nodup->X.N[i]? =some x->Loc X.env.scope x->(X.fn x=true\/X.env.scope.names.lookup x=some .local)->
 swapsWith e (some (.Name x pos')) pos.line X.env=pure true->PS X (.Assign [.Name x pos'] e pos) (Ly t (XR i))
def Ex{C:Cx->Prop}{elt tg iter:Expr}{ifs:Yi}{pos:Pos}{sc:Scope}{wi:TI}{g:TG}{tc:Addr->Shared->Hp->List Addr->TT}{te:Addr->Shared->Hp->List Addr->TE}(T:Yb)(idx:Db)
  (hi:Th C X tg iter wi) (hCx: ∀c s₂ H2 fp pins σ,Inv X pins σ H2 s₂->C (zL X sc T idx c s₂ H2 fp)) (hB:rN X.env.scope X.N sc idx=true)
  (hg: ∀C s₂ H1 fp,PG (zL X sc T idx C s₂ H1 fp) tg g)
  (hc: ∀C s₂ H1 fp,VE (zL X sc T idx C s₂ H1 fp) ifs (tc C s₂ H1 fp))
  (he: ∀C s₂ H1 fp,PE (zL X sc T idx C s₂ H1 fp) elt (te C s₂ H1 fp))
  (hs: ∀x,foldedSetIterable iter X.env x=pure x:=by intro _;rfl):
  PU X (.ListComp elt [⟨tg,iter,ifs,0⟩] sc pos) (YJ wi g tc te T.length idx):=by
 intro i x pos' spos hN hix hx hf hsw pins s σ H D I h;rw[exec_Assign_Name_used _ _ _ _ hsw];refine wB (wpAny_standAt (wB ?_));rw[arm_evalThenUse_ListComp];refine wB (kG (MH T idx hi hCx hB hg hc he hs (use:=some (assign (.Name x pos') X.env)) (Q':=λ_ s'=> ∃σ' H',Inv X pins σ' H' s'/\D.nx σ' H') I h λDd C s4 H' _ J4 fo hm q=>?_) λ_ s' hq=>wP (wP hq));have I4:=J4 s4.heap (Heap.SameBut.refl _ _);refine wpAny_assign_Name (GH I4 hN hix hx (show RelV (.ref Dd) (.ref Dd)from rfl) (λs' I' ⟨a,hs',ha⟩=>?_) hf);obtain⟨m,hm⟩:=hm
 have hCa:C≠a:=by
  rintro rfl;rcases ha with ha|ha
  .exact fo.2.1 ha
  .exact fo.2.2.2.2.1 x _ ha rfl
 refine⟨m,hm.sameBut hs' hCa,λh' hs''=>⟨_,H',?_,q⟩⟩;exact I'.turned (t':=s'.toks) (λb o hb e=>(hs''.2 b hb).trans e) fo.1 fo.2.1 fo.2.2.2.1 fo.2.2.2.2.1 fo.2.2.2.2.2
end
end L2
namespace L2
namespace M
open PySem PySem.Spec PyProof.Rows
def YN{A:Around}{s:Shared}{y x:V}{u v:Value}(ry:RelV y u)(rx:RelV x v)(fy:mK y=true)(fx:mK x=true):SeqAt.RcAt A s u v (Em y x)/\SeqAt.RcNeAt A s u v (!Em y x):=by
 cases y with
 |non=>
  cases ry
  cases x with
  |non=>cases rx;exact⟨.none_none,.none_none⟩
  |bl b=>cases rx;exact⟨.none_bool b,.none_bool b⟩
  |int b=>obtain⟨t,rfl⟩:=rx;exact⟨.none_int b t,.none_int b t⟩
  |str b=>obtain⟨t,rfl⟩:=rx;exact⟨.none_str b t,.none_str b t⟩
  |_=>cases fx
 |bl a=>
  cases ry
  cases x with
  |non=>cases rx;exact⟨.bool_none a,.bool_none a⟩
  |bl b=>cases rx;exact⟨.bool_bool a b,.bool_bool a b⟩
  |int b=>obtain⟨t,rfl⟩:=rx;exact⟨.bool_int a b t,.bool_int a b t⟩
  |str b=>obtain⟨t,rfl⟩:=rx;exact⟨.bool_str a b t,.bool_str a b t⟩
  |_=>cases fx
 |int a=>
  obtain⟨t',rfl⟩:=ry
  cases x with
  |non=>cases rx;exact⟨.int_none a t',.int_none a t'⟩
  |bl b=>cases rx;exact⟨.int_bool a t' b,.int_bool a t' b⟩
  |int b=>obtain⟨t,rfl⟩:=rx;exact⟨.int_int a t' b t,.int_int a t' b t⟩
  |str b=>obtain⟨t,rfl⟩:=rx;exact⟨.int_str a t' b t,.int_str a t' b t⟩
  |_=>cases fx
 |str a=>
  obtain⟨t',rfl⟩:=ry
  cases x with
  |non=>cases rx;exact⟨.str_none a t',.str_none a t'⟩
  |bl b=>cases rx;exact⟨.str_bool a t' b,.str_bool a t' b⟩
  |int b=>obtain⟨t,rfl⟩:=rx;exact⟨.str_int a t' b t,.str_int a t' b t⟩
  |str b=>obtain⟨t,rfl⟩:=rx;exact⟨.str_str a t' b t,.str_str a t' b t⟩
  |_=>cases fx
 |_=>cases fy
abbrev Six(A:Around)(s:Shared)(u v:Value):Prop:=SeqAt.EqAt A s u v false/\SeqAt.EqAt A s v u false/\SeqAt.RcAt A s u v false/\SeqAt.RcAt A s v u false/\SeqAt.RcNeAt A s u v true/\SeqAt.RcNeAt A s v u true
def GS{A:Around}{s:Shared}{x:V}{v:Value}{l:Addr}{items:Xk}(rx:RelV x v)(fx:mK x=true)(hl:s.heap.IsList l items)(hu:A.units<cLine):Six A s (.ref l) v:=by
 cases x with
 |non=>cases rx;exact⟨.list_none hl hu,.none_list hl hu,.list_none hl hu,.none_list hl hu,.list_none hl hu,.none_list hl hu⟩
 |bl b=>cases rx;exact⟨.list_bool b hl hu,.bool_list b hl hu,.list_bool b hl hu,.bool_list b hl hu,.list_bool b hl hu,.bool_list b hl hu⟩
 |int b=>obtain⟨t,rfl⟩:=rx;exact⟨.list_int b t hl hu,.int_list b t hl hu,.list_int b t hl hu,.int_list b t hl hu,.list_int b t hl hu,.int_list b t hl hu⟩
 |str b=>obtain⟨t,rfl⟩:=rx;exact⟨.list_str b t hl hu,.str_list b t hl hu,.list_str b t hl hu,.str_list b t hl hu,.list_str b t hl hu,.str_list b t hl hu⟩
 |_=>cases fx
def AG{A:Around}{s:Shared}{x:V}{v:Value}{l:Addr}{items:Xk}(rx:RelV x v)(fx:mK x=true)(hl:s.heap.IsTuple l items)(hu:A.units<cLine):Six A s (.ref l) v:=by
 cases x with
 |non=>cases rx;exact⟨.tuple_none hl hu,.none_tuple hl hu,.tuple_none hl hu,.none_tuple hl hu,.tuple_none hl hu,.none_tuple hl hu⟩
 |bl b=>cases rx;exact⟨.tuple_bool b hl hu,.bool_tuple b hl hu,.tuple_bool b hl hu,.bool_tuple b hl hu,.tuple_bool b hl hu,.bool_tuple b hl hu⟩
 |int b=>obtain⟨t,rfl⟩:=rx;exact⟨.tuple_int b t hl hu,.int_tuple b t hl hu,.tuple_int b t hl hu,.int_tuple b t hl hu,.tuple_int b t hl hu,.int_tuple b t hl hu⟩
 |str b=>obtain⟨t,rfl⟩:=rx;exact⟨.tuple_str b t hl hu,.str_tuple b t hl hu,.tuple_str b t hl hu,.str_tuple b t hl hu,.tuple_str b t hl hu,.str_tuple b t hl hu⟩
 |_=>cases fx
def YO{y:V}(h:mK y=true):Em y y=true:=by cases y<;>first |rfl|(simp[Em];done)|exact absurd (show false=true from h) xF0
abbrev K3:=Option Key
inductive NK where
 |key (k:K3)|tup (ks:List NK)
instance:DecidableEq NK:=λ_ _=>Classical.propDecidable _
section
variable{prog:Program}{w:World}(knd:KeyKind prog w K3)
mutual
def FP(h:Heap):NK->Value->Prop
 |.key k,v=>knd.is k v=true
 |.tup ks,v=> ∃a o items n,v=.ref a/\h.get? a=some o/\o.cls=.type "tuple"/\o.data=.seq items n/\pU h ks items.toList
def pU(h:Heap):List NK->List Value->Prop
 |[],vs=>vs=[]
 |k::ks,vs=> ∃v r,vs=v::r/\FP h k v/\pU h ks r
end
mutual
def pV:NK->Int
 |.key k=>knd.hash k
 |.tup ks=>reduceHash (Builtin.Tuple.tupleHashOf (DC ks))
def DC:List NK->List Int
 |[]=>[]
 |k::ks=>pV k::DC ks
end
mutual
def DE:NK->Nat
 |.key _=>1
 |.tup ks=>cO ks+1
def cO:List NK->Nat
 |[]=>0
 |k::ks=>DE k+cO ks
end
mutual
def fB:NK->Nat
 |.key _=>0
 |.tup ks=>rO ks+1
def rO:List NK->Nat
 |[]=>0
 |k::ks=>max (fB k) (rO ks)
end
variable{knd}
theorem xX{h:Heap}{k:K3}{v:Value}:FP knd h (.key k) v↔knd.is k v=true:=by unfold FP;exact Iff.rfl
def xI{h:Heap}{ks:List NK}{v:Value}:FP knd h (.tup ks) v↔ ∃a o items n,v=.ref a/\h.get? a=some o/\o.cls=.type "tuple"/\o.data=.seq items n/\pU knd h ks items.toList:=by
 conv=>lhs;unfold FP
theorem wN{h:Heap}{vs:Xj}:pU knd h [] vs↔vs=[]:=by unfold pU;exact Iff.rfl
def yG{h:Heap}{k:NK}{ks:List NK}{vs:Xj}:pU knd h (k::ks) vs↔ ∃v r,vs=v::r/\FP knd h k v/\pU knd h ks r:=by
 conv=>lhs;unfold pU
mutual
theorem IY{h:Heap}: ∀{x y:NK}{v:Value},FP knd h x v->FP knd h y v->x=y
 |.key k,.key k',v,hx,hy=>by rw[knd.inj v k k' (xX.mp hx) (xX.mp hy)]
 |.key k,.tup ks,v,hx,hy=>by obtain⟨a,o,items,n,rfl,_⟩:=xI.mp hy;have:=knd.byValue _ _ (xX.mp hx);simp[carriedByValue]at this
 |.tup ks,.key k,v,hx,hy=>by obtain⟨a,o,items,n,rfl,_⟩:=xI.mp hx;have:=knd.byValue _ _ (xX.mp hy);simp[carriedByValue]at this
 |.tup ks,.tup ks',v,hx,hy=>by
  obtain⟨a,o,items,n,e,ho,_,hd,hi⟩:=xI.mp hx;obtain⟨a',o',items',n',e',ho',_,hd',hi'⟩:=xI.mp hy;rw[e]at e';cases e';obtain rfl:o=o':=Option.some.inj (ho.symm.trans ho');rw[hd]at hd';injection hd' with h1 _
  subst h1;rw[MK hi hi']
theorem MK{h:Heap}: ∀{xs ys:List NK}{vs:Xj},pU knd h xs vs->pU knd h ys vs->xs=ys
 |[],[],_,_,_=>rfl
 |[],y::ys,vs,hx,hy=>by obtain⟨v,r,e,_⟩:=yG.mp hy;rw[wN.mp hx]at e;cases e
 |x::xs,[],vs,hx,hy=>by obtain⟨v,r,e,_⟩:=yG.mp hx;rw[wN.mp hy]at e;cases e
 |x::xs,y::ys,vs,hx,hy=>by obtain⟨v,r,e,h1,h2⟩:=yG.mp hx;obtain⟨v',r',e',h1',h2'⟩:=yG.mp hy;rw[e]at e';cases e';rw[IY h1 h1',MK h2 h2']
end
mutual
theorem DF{h h':Heap}(m: ∀a o items n,h.get? a=some o->o.data=.seq items n->h'.get? a=some o): ∀{x:NK}{v:Value},FP knd h x v->FP knd h' x v
 |.key k,v,hx=>xX.mpr (xX.mp hx)
 |.tup ks,v,hx=>by obtain⟨a,o,items,n,e,ho,hc,hd,hi⟩:=xI.mp hx;exact xI.mpr ⟨a,o,items,n,e,m a o items n ho hd,hc,hd,GT m hi⟩
theorem GT{h h':Heap}(m: ∀a o items n,h.get? a=some o->o.data=.seq items n->h'.get? a=some o): ∀{xs:List NK}{vs:Xj},pU knd h xs vs->pU knd h' xs vs
 |[],vs,hx=>wN.mpr (wN.mp hx)
 |x::xs,vs,hx=>by obtain⟨v,r,e,h1,h2⟩:=yG.mp hx;exact yG.mpr ⟨v,r,e,DF m h1,GT m h2⟩
end
theorem DG: ∀ks:List NK,DC knd ks=ks.map (pV knd)
 |[]=>by unfold DC;rfl
 |k::ks=>by unfold DC;rw[DG ks];rfl
def sN:cO []=0:=by rw[cO]
def pW(k:NK)(ks:List NK):cO (k::ks)=DE k+cO ks:=by rw[cO]
def sO(k:NK)(ks:List NK):rO (k::ks)=max (fB k) (rO ks):=by rw[rO]
def fC(ks:List NK):fB (.tup ks)=rO ks+1:=by rw[fB]
theorem rP: ∀(xs ys:List NK),cO (xs++ys)=cO xs+cO ys
 |[],ys=>by rw[sN,List.nil_append,Nat.zero_add]
 |x::xs,ys=>by rw[List.cons_append,pW,pW,rP xs ys];omega
def tI{s:Shared}{ks:List NK}{a:Addr}(h:FP knd s.heap (.tup ks) (.ref a)):s.TypeIs (.ref a) "tuple":=by obtain⟨a',o,items,n,e,ho,hc,_⟩:=xI.mp h;cases e;exact⟨o,ho,hc⟩
theorem ML: ∀(n:Nat){A:Around}{E:VP}{s:Shared}{k:NK}{v:Value}{Q:Int->Shared->Prop},fB k<=n->A.units+n<cLine->FP knd s.heap k v->Q (pV knd k) {s with toks:=s.toks+DE k}->wpAny (model prog w) A (pyHash v) Q E s
 |n,A,E,s,.key k,v,Q,_,_,hk,h=>knd.pyHash (xX.mp hk) (by rw[pV,DE]at h;exact h)
 |0,A,E,s,.tup ks,v,Q,hd,_,_,_=>by rw[fC]at hd;omega
 |n+1,A,E,s,.tup ks,v,Q,hdep,hu,hk,h=>by
  obtain⟨a,o,items,m,rfl,ho,hc,hd,hi⟩:=xI.mp hk;have hT:s.TypeIs (.ref a) "tuple":=⟨o,ho,hc⟩
  rw[fC]at hdep
  have hdl: ∀k∈ks,fB k<=n:=by
   have: ∀ks:List NK,rO ks<=n-> ∀k∈ks,fB k<=n:=by
    intro ks
    induction ks with
    |nil=>intro _ k hk;simp at hk
    |cons x xs ih=>
     intro hx k hk;rw[sO]at hx;rcases mC.mp hk with rfl|hk
     .omega
     .exact ih #[0] k hk
   exact this ks #[0]
  rw[pV,DE,DG]at h;unfold pyHash
  first |unfold pyHashByItsType|skip
  first |refine wB (wpAny_cRoomFor_or (.inr (show A.units<cLine by omega)) ?_)|skip
  refine wB (wpAny_specialOf hT F.slot_tuple_hash.lookup ?_);show wpAny _ _ (if(some (Value.builtin "tuple.__hash__")==some Value.none)=true then _ else _) Q E s;rw[iN (by rw[beq_builtin_none];exact xF0)];refine wB (wpAny_specialOf hT F.slot_tuple_hash.lookup ?_);show wpAny _ _ (callSpecialIfBoundUnlessNone? (.ref a) "__hash__" _ >>= _) Q E s;refine wB (wpAny_callSpecialIfBoundUnlessNone?_slot hT F.slot_tuple_hash (wpAny_call_entry F.slot_tuple_hash hT F.entry_tuple_hash ?_ (F.args_tuple_hash_1 _)));show wpAny _ _ (Builtin.Tuple.tupleItemsOf (.ref a) >>= _) _ _ s;refine wB (wpAny_tupleItemsOf ho hd ?_);refine wB ?_;rw[<-Array.forIn_toList]
  refine wpAny_forIn_list _
   (λrest (b:Array Int) s'=> ∃done left,ks=done++left/\pU knd s.heap left rest/\b.toList=done.map (pV knd)/\s'={s with toks:=s.toks+cO done})
   _ ?_ ?_ _ _ ⟨[],ks,rfl,hi,rfl,by rw[sN];rfl⟩
  .rintro x rest b s' ⟨done,left,rfl,hl,hb,rfl⟩
   cases left with
   |nil=>rw[wN]at hl;cases hl
   |cons k ks'=>
    obtain⟨v,r,e,h1,hl'⟩:=yG.mp hl;cases e;refine wB (ML n (hdl k (by simp)) (show A.units+1+n<cLine by omega) h1 ?_);have e1:cO (done++[k])=cO done+DE k:=by rw[rP,pW,sN];rfl
    first
     |exact wP ⟨done++[k],ks',by simp,hl',by simp[hb],by simp[add_assoc,e1]⟩
     |exact wB (wP (wP ⟨done++[k],ks',by simp,hl',by simp[hb],by simp[add_assoc,e1]⟩))
  .rintro b s' ⟨done,left,rfl,hl,hb,rfl⟩
   cases left with
   |cons k ks'=>obtain⟨v,r,e,_⟩:=yG.mp hl;cases e
   |nil=>
    rw[aN]at h;show wpAny _ _ (retInt (Builtin.Tuple.tupleHashOf b.toList)) _ _ _;rw[hb];refine wpAny_ret_mkInt ?_;show wpAny _ _ (if(decide (-(2:Int) ^ 63<=Builtin.Tuple.tupleHashOf (done.map (pV knd)))&&decide (Builtin.Tuple.tupleHashOf (done.map (pV knd))<2 ^ 63))=true then _ else _) Q E _;unfold reduceHash at h;by_cases hr:(decide (-(2:Int) ^ 63<=Builtin.Tuple.tupleHashOf (done.map (pV knd)))&&decide (Builtin.Tuple.tupleHashOf (done.map (pV knd))<2 ^ 63))=true
    .rw[iP hr];rw[iP hr]at h;exact wP (by simpa [add_assoc]using h)
    .rw[iN hr];rw[iN hr]at h;exact wB (wpAny_rule (wP (by simpa [add_assoc]using h)))
end
section
variable{prog:Program}{w:World}
def VH{A:Around}{E:VP}{s:Shared}{Q:Int->Shared->Prop}(h:Q 0xFCA86420 {s with toks:=s.toks+1}):wpAny (model prog w) A (pyHash .none) Q E s:=by
 unfold pyHash;have hv:[Value.none].any Value.onHeap=false:=rfl;refine wB ?_;rw[cRoomFor,iN (by rw[hv];exact xF0)];refine wP ?_;refine wB (wpAny_specialOf (typeIs_none s) F.slot_NoneType_hash.lookup ?_);show wpAny _ _ (if(some (Value.builtin "NoneType.__hash__")==some Value.none)=true then _ else _) Q E s;rw[iN (by rw[beq_builtin_none];exact xF0)];refine wB (wpAny_specialOf (typeIs_none s) F.slot_NoneType_hash.lookup ?_);show wpAny _ _ (callSpecialIfBoundUnlessNone? .none "__hash__" _ >>= _) Q E s
 refine wB (wpAny_callSpecialIfBoundUnlessNone?_slot (typeIs_none s) F.slot_NoneType_hash
  (wpAny_call_entry F.slot_NoneType_hash (typeIs_none s) F.entry_NoneType_hash
   (show wpAny _ _ (do ret (<-mkInt 0xFCA86420)) _ _ s from wpAny_ret_mkInt ?_) (F.args_NoneType_hash_1 _)))
 show wpAny _ _ (if(decide (-(2:Int) ^ 63<=0xFCA86420)&&decide ((0xFCA86420:Int)<2 ^ 63))=true then _ else _) Q E _;rw[iP (by decide)];exact wP h
def Nd:K3->Value->Bool
 |some k,v=>mI k v
 |none,v=>v==.none
def mL: ∀{k:K3}{v:Value},Nd k v=true->(∃i t,k=some (.inl i)/\v=Value.int i t)\/(∃x t,k=some (.inr x)/\v=Value.str x t)\/(k=none/\v=.none)
 |some k,v,h=>by
  rcases yC (k:=k) (v:=v) h with⟨i,t,rfl,e⟩|⟨x,t,rfl,e⟩
  .exact .inl ⟨i,t,rfl,e⟩
  .exact .inr (.inl ⟨x,t,rfl,e⟩)
 |none,v,h=>.inr (.inr ⟨rfl,eq_of_beq h⟩)
def mk(prog:Program)(w:World):KeyKind prog w K3 where
 is:=Nd
 hash:=λ|some k=>Sv w k|none=>0xFCA86420
 inj:=λv a b ha hb=>by rcases mL ha with⟨i,t,rfl,rfl⟩|⟨x,t,rfl,rfl⟩|⟨rfl,rfl⟩<;>rcases mL hb with⟨j,u,rfl,e⟩|⟨y,u,rfl,e⟩|⟨rfl,e⟩<;>first |(injection e with e1 _;rw[e1];done)|rfl|exact nomatch e
 byValue:=λk v h=>by rcases mL h with⟨i,t,rfl,rfl⟩|⟨x,t,rfl,rfl⟩|⟨rfl,rfl⟩<;>rfl
 pyHash:=λhv h=>by
  rcases mL hv with⟨i,t,rfl,rfl⟩|⟨x,t,rfl,rfl⟩|⟨rfl,rfl⟩
  .exact wpAny_pyHash_int h
  .exact wpAny_pyHash_str h
  .exact VH h
 eqBool:=λ{A} {E} {s} {a} {b} {u} {v} {Q} hu hv h=>by
  cases a with
  |some a=>
   cases b with
   |some b=>exact(yP prog w).eqBool hu hv (by rw[show decide (some a=some b)=decide (a=b)from by simp]at h;exact h)
   |none=>
    cases eq_of_beq hv;rw[show decide (some a=none)=false from dF0 λz=>nomatch z]at h;rcases yC (show mI a u=true from hu)with⟨i,t,rfl,rfl⟩|⟨x,t,rfl,rfl⟩
    .exact SeqAt.EqAt.int_none i t _ _ _ _ h
    .exact SeqAt.EqAt.str_none x t _ _ _ _ h
  |none=>
   cases eq_of_beq hu
   cases b with
   |some b=>
    rw[show decide (none=some b)=false from dF0 λz=>nomatch z]at h;rcases yC (show mI b v=true from hv)with⟨i,t,rfl,rfl⟩|⟨x,t,rfl,rfl⟩
    .exact SeqAt.EqAt.none_int i t _ _ _ _ h
    .exact SeqAt.EqAt.none_str x t _ _ _ _ h
   |none=>
    cases eq_of_beq hv;rw[show decide ((none:K3)=none)=true from dT0 rfl]at h;exact SeqAt.EqAt.same _ _ _ _ _ h
 «strs»:=λk x t v h=>by
  rcases mL h with⟨i,u,rfl,e⟩|⟨y,u,rfl,e⟩|⟨rfl,e⟩
  .exact nomatch e
  .injection e with e1 _
   subst e1;cases v<;>rfl
  .exact nomatch e
def Ey(a b:K3):decide (NK.key a=NK.key b)=decide (a=b):=by
 by_cases h:a=b
 .subst h;simp
 .rw[dF0 h,dF0 λz=>h (NK.key.inj z)]
def Nf(a:K3)(b:List NK):decide (NK.key a=NK.tup b)=false:=dF0 λz=>nomatch z
def Ng(a:K3)(b:List NK):decide (NK.tup b=NK.key a)=false:=dF0 λz=>nomatch z
def Nh(a b:List NK):decide (NK.tup a=NK.tup b)=decide (a=b):=by
 by_cases h:a=b
 .subst h;simp
 .rw[dF0 h,dF0 λz=>h (NK.tup.inj z)]
def MM{k:K3}{v:Value}(h:(mk prog w).is k v=true): ∃x:V,RelV x v/\mK x=true:=by
 rcases mL (show Nd k v=true from h)with⟨i,t,rfl,rfl⟩|⟨x,t,rfl,rfl⟩|⟨rfl,rfl⟩
 .exact⟨.int i,⟨t,rfl⟩,rfl⟩
 .exact⟨.str x,⟨t,rfl⟩,rfl⟩
 .exact⟨.non,rfl,rfl⟩
def VI{A:Around}{E:VP}{s:Shared}{x y:List NK}{a b:Addr}{P:Fin->Shared->Prop}
  (he: ∀k1∈x, ∀k2 u v (Q:Bool->Shared->Prop),FP (mk prog w) s.heap k1 u->FP (mk prog w) s.heap k2 v->Q (decide (k1=k2)) s->wpAny (model prog w) A (eqBool u v) Q E s)
  (hx:FP (mk prog w) s.heap (.tup x) (.ref a)) (hy:FP (mk prog w) s.heap (.tup y) (.ref b)) (h:P (.done (.ret (.bool (decide (x=y))))) s):
  wpAny (model prog w) A (Builtin.«tuple.__eq__» ⟨[.ref a,.ref b],[]⟩) P E s:=by
 have hTb:=tI hy;obtain⟨_,oa,xs,na,e,hoa,_,hda,hia⟩:=xI.mp hx;cases e;obtain⟨_,ob,ys,nb,e,hob,_,hdb,hib⟩:=xI.mp hy;cases e;show wpAny _ _ (isInstance (.ref b) (.type "tuple") >>= _) _ _ s;refine wB (wpAny_isInstance hTb isSubtype_tuple_tuple ?_);simp only[Bool.not_true,fT,iF];refine wB (wpAny_tupleItemsOf hoa hda ?_);refine wB (wpAny_tupleItemsOf hob hdb ?_);refine wB ?_
 refine wpAny_forIn_list _
  (λrest r s'=>r.1=none/\s'=s/\ ∃x' y' xs' ys',rest=List.zip xs' ys'/\(∀k∈x',k∈x)/\pU (mk prog w) s.heap x' xs'/\pU (mk prog w) s.heap y' ys'/\decide (x'=y')=decide (x=y)/\(xs'.length==ys'.length)=(xs.size==ys.size))
  _ ?_ ?_ _ _ ⟨rfl,rfl,x,y,xs.toList,ys.toList,rfl,λk hk=>hk,hia,hib,rfl,by simp⟩
 .rintro⟨u,v⟩ rest r s' ⟨hr,rfl,x',y',xs',ys',hz,hm,hx',hy',hdec,hlen⟩
  cases x' with
  |nil=>rw[wN.mp hx']at hz;simp at hz
  |cons k1 x''=>
   cases y' with
   |nil=>rw[wN.mp hy']at hz;simp at hz
   |cons k2 y''=>
    obtain⟨u',xs'',rfl,h1,hx''⟩:=yG.mp hx';obtain⟨v',ys'',rfl,h2,hy''⟩:=yG.mp hy';simp only[zip_cons_cons,List.cons.injEq,Prod.mk.injEq]at hz;obtain⟨⟨rfl,rfl⟩,rfl⟩:=hz;refine wB (he k1 (hm k1 mF0) k2 _ _ _ h1 h2 ?_);by_cases hk:k1=k2
    .subst hk;rw[dT0 rfl];simp only[Bool.not_true,fT,iF];refine wP ⟨rfl,rfl,x'',y'',xs'',ys'',rfl,λk hk=>hm k (mO _ hk),hx'',hy'',?_,by simpa using hlen⟩;rw[<-hdec];by_cases hxy:x''=y''
     .simp[hxy]
     .simp[hxy]
    .rw[dF0 hk];simp only[Bool.not_false,if_true];have hf:decide (x=y)=false:=by rw[<-hdec];simp[hk]
     rw[hf]at h;exact wB (wP (wP (wP h)))
 .rintro⟨r1,r2⟩ s' ⟨hr,rfl,x',y',xs',ys',hz,hm,hx',hy',hdec,hlen⟩;simp only at hr;subst hr;refine wP ?_
  have hfin:(xs.size==ys.size)=decide (x=y):=by
   rw[<-hdec, <-hlen]
   cases x' with
   |nil=>
    rw[wN.mp hx']
    cases y' with
    |nil=>rw[wN.mp hy'];simp
    |cons k2 y''=>obtain⟨v',ys'',rfl,h2,hy''⟩:=yG.mp hy';simp
   |cons k1 x''=>
    obtain⟨u',xs'',rfl,h1,hx''⟩:=yG.mp hx'
    cases y' with
    |nil=>rw[wN.mp hy'];simp
    |cons k2 y''=>obtain⟨v',ys'',rfl,h2,hy''⟩:=yG.mp hy';simp at hz
  show P (.done (.ret (.bool (xs.size==ys.size)))) s';rw[hfin];exact h
theorem DH{n:Nat}: ∀{ks:List NK},rO ks<=n-> ∀k∈ks,fB k<=n
 |[],_,k,hk=>by simp at hk
 |x::xs,hx,k,hk=>by
  rw[sO]at hx;rcases mC.mp hk with rfl|hk
  .omega
  .exact DH #[0] k hk
theorem MN: ∀(n:Nat){A:Around}{E:VP}{s:Shared}{x y:NK}{u v:Value}{Q:Bool->Shared->Prop},fB x<=n->A.units+n<cLine->FP (mk prog w) s.heap x u->FP (mk prog w) s.heap y v->Q (decide (x=y)) s->wpAny (model prog w) A (eqBool u v) Q E s
 |n,A,E,s,.key a,.key b,u,v,Q,_,_,hx,hy,h=>(mk prog w).eqBool (xX.mp hx) (xX.mp hy) (by rw[Ey]at h;exact h)
 |n,A,E,s,.key a,.tup b,u,v,Q,_,hu,hx,hy,h=>by obtain⟨z,rz,fz⟩:=MM (xX.mp hx);obtain⟨l,o,items,m,rfl,ho,hc,hd,_⟩:=xI.mp hy;rw[Nf]at h;exact(AG rz fz (items:=items) ⟨o,ho,hc,m,hd⟩ #[0]).2.1 prog w E Q h
 |n,A,E,s,.tup a,.key b,u,v,Q,_,hu,hx,hy,h=>by obtain⟨z,rz,fz⟩:=MM (xX.mp hy);obtain⟨l,o,items,m,rfl,ho,hc,hd,_⟩:=xI.mp hx;rw[Ng]at h;exact(AG rz fz (items:=items) ⟨o,ho,hc,m,hd⟩ #[0]).1 prog w E Q h
 |0,A,E,s,.tup a,.tup b,u,v,Q,hd,_,hx,hy,h=>by rw[fC]at hd;omega
 |n+1,A,E,s,.tup x,.tup y,u,v,Q,hd,hu,hx,hy,h=>by
  obtain⟨a,_,_,_,ea,_⟩:=xI.mp hx;obtain⟨b,_,_,_,eb,_⟩:=xI.mp hy;subst ea eb;rw[fC]at hd;rw[Nh]at h;unfold eqBool
  try with_reducible refine wpAny_holding ?_
  show wpAny _ _ (if(Value.ref a==Value.ref b)=true then _ else _) Q E s;by_cases hab:(Value.ref a==Value.ref b)=true
  .rw[iP hab];have e:a=b:=by have:=eq_of_beq hab;injection this
   subst e;have:x=y:=NK.tup.inj (IY hx hy);subst this;exact wB (wpAny_rule (wP (by simpa using h)))
  .rw[iN hab]
   refine wB (wpAny_richCompare_same_room (op:=.Eq) (tI hx) (tI hy) F.slot_tuple_eq
    (wpAny_call_entry F.slot_tuple_eq (tI hx) F.entry_tuple_eq (VI (λk1 hk1 k2 u v Q h1 h2 h3=>MN n (DH #[0] k1 hk1) (show A.units+1+n<cLine by omega) h1 h2 h3) hx hy ⟨_,rfl,(λe=>nomatch e),wpAny_truthy_bool h⟩) (F.args_tuple_eq_2 _ _)) #[0])
theorem RY: ∀(n m:Nat){A:Around}{E:VP}{s:Shared}{x:NK}{u:Value}{Q:Bool->Shared->Prop},fB x<=n->n<m->FP (mk prog w) s.heap x u->Q true s->wpAny (model prog w) A (eqIsQuiet m u) Q E s
 |n,m,A,E,s,.key k,u,Q,_,_,hx,h=>by rw[eqIsQuiet_byValue m ((mk prog w).byValue _ _ (xX.mp hx))];exact wP h
 |0,m,A,E,s,.tup ks,u,Q,hd,_,hx,h=>by rw[fC]at hd;omega
 |n+1,0,A,E,s,.tup ks,u,Q,hd,hm,hx,h=>by omega
 |n+1,m+1,A,E,s,.tup ks,u,Q,hdp,hm,hx,h=>by
  obtain⟨a,o,items,j,rfl,ho,hc,hd,hi⟩:=xI.mp hx;have hT:s.TypeIs (.ref a) "tuple":=⟨o,ho,hc⟩
  rw[fC]at hdp;unfold eqIsQuiet;refine wB (wpAny_specialOf hT F.slot_tuple_eq.lookup ?_);show wpAny _ _ (isInstance (.ref a) (.type "tuple") >>= _) _ _ s;refine wB (wpAny_isInstance hT isSubtype_tuple_tuple ?_);simp only[Bool.not_true,fT,iF];refine wB (wpAny_seqItems ho hd ?_);refine wB ?_;show wpAny _ _ (forIn items _ _) _ _ s;rw[<-Array.forIn_toList];refine wpAny_forIn_list _ (λrest r s'=>r.1=none/\s'=s/\ ∃left,(∀k∈left,k∈ks)/\pU (mk prog w) s.heap left rest) _ ?_ ?_ _ _ ⟨rfl,rfl,ks,λk hk=>hk,hi⟩
  .rintro v rest r s' ⟨hr,rfl,left,hm',hl⟩
   cases left with
   |nil=>rw[wN]at hl;cases hl
   |cons k left=>
    obtain⟨v',r',e,h1,h2⟩:=yG.mp hl;cases e;refine wB (RY n m (DH #[0] k (hm' k mF0)) #[0] h1 ?_);simp only[Bool.not_true,fT,iF];exact wP ⟨rfl,rfl,left,λk hk=>hm' k (mO _ hk),h2⟩
  .rintro⟨r1,r2⟩ s' ⟨hr,rfl,_⟩;simp only at hr;subst hr;exact wP h
end
def zU(prog:Program)(w:World):HeapKind prog w NK where
 is:=λh k a=>FP (mk prog w) h k (.ref a)/\fB k<=4
 hash:=pV (mk prog w)
 draws:=DE
 room:=λA=>A.units+4<cLine
 inj:=λhx hy=>IY hx.1 hy.1
 keeps:=λx ho hd hs=>⟨DF (λa o' items n e q=>(hs.2 a λz=>by subst z;rw[ho]at e;cases e;rw[hd]at q;cases q).trans e) x.1,x.2⟩
 pyHash:=λhu hk h=>ML 4 hk.2 hu hk.1 h
 eqBool:=λhu hx hy h=>MN 4 hx.2 hu hx.1 hy.1 h
 quiet:=λhk h=>RY 4 8 hk.2 (by decide) hk.1 h
def DN(P:Program)(w:World)(a:Addr)(xs:List (NK×Addr×Value)):HO:=
 .ext λh=>xs.length<=sizeLine/\(a==sysModules)=false/\ ∃o es ep,h.get? a=some o/\o.ExactDict/\o.data=.dict es ep/\es.toList=xs.map (entryOfKey (zU P w))/\(xs.map (·.1)).Nodup
end M
end L2
namespace L2
open PySem PySem.Spec PyProof.Rows
def Fly(h:Heap)(e T:Addr)(cls:Value)(d:Option Addr)(fl:Value):Prop:=
 ∃oe vs oT ts,h.get? e=some oe/\oe.cls=cls/\oe.dict=d/\oe.data=.fields vs/\vs[1]? =some (.ref T)/\T≠e/\h.get? T=some oT/\oT.data=.fields ts/\ts[3]? =some fl/\vs[2]? =some .none
structure Mvd(fs:Ya)(e T:Addr)(h h':Heap):Prop where
 keep: ∀b o,b≠e->b≠T->b∉fs->h.get? b=some o->h'.get? b=some o
 slot: ∀b o,b≠e->b≠T->h.get? b=some o-> ∃sl,h'.get? b=some {o with slots:=sl}
 there: ∀b o,h.get? b=some o-> ∃o',h'.get? b=some o'
def Mvd.new{fs:Ya}{e T T':Addr}{h h1 h2:Heap}(a:Mvd fs e T h h1)(n:h.get? T'=none)(b:Mvd fs e T' h1 h2):Mvd fs e T h h2:=by
 have ne: ∀c o,h.get? c=some o->c≠T':=λc o q z=>by rw[z,n]at q;cases q
 exact⟨λc o h1 h2 h3 q=>b.keep c o h1 (ne c o q) h3 (a.keep c o h1 h2 h3 q),λc o h1 h2 q=>by obtain⟨sl,e1⟩:=a.slot c o h1 h2 q;obtain⟨sl',e2⟩:=b.slot c _ h1 (ne c o q) e1;exact⟨sl',e2⟩,λc o q=>let ⟨o',e1⟩:=a.there c o q;b.there c o' e1⟩
def CXe(P:Program)(w:World):UX:=λouter H s E x s'=> ∃e T C d H',x=.ref e/\s'.os=s.os/\AllBare s'.gens/\Un (RT outer) [] H H' s.heap s'.heap/\HOk P w H' s'.heap/\Fly s'.heap e T (.ref C) d .none/\
 s.heap.get? e=none/\s.heap.get? T=none/\H' e=none/\H' T=none/\E (.ref C) d H'
abbrev Xb:List Value:=[.type "ValueError",.type "Exception",.type "BaseException",.type "object"]
def qn:List Str:=["__class__","__getattribute__","__getattr__","__setattr__","place","number"]
end L2
namespace L2
namespace M
open PySem PySem.Spec PyProof.Rows
inductive MV where
 |non|bl (b:Bool)|int (i:Int)|str (x:Db)|tup (ds:List MV)|scr (ds:List MV)|loc (l:Nat)|typ (n:String)|obj (c:Str) (ns:Yb) (ds:List MV)
abbrev Za:=List MV
abbrev Zb:=Option MV
abbrev Zd:=List (Nat×List MV)
abbrev Ze:=List (MV×MV)
abbrev Zg:=List (List MV)
instance:Inhabited MV:=⟨.non⟩
inductive MO where
 |lst (ds:Za)|dic (kvs:Ze)|ins (c:Str) (fs:List (Str×MV))|rcd (c:Str) (fs:List (Str×MV))|fdc (kvs:Ze)
abbrev Sto:=List MO
def SqF(K:Yj)(H:Hp)(a:Addr)(xs:List V):Prop:=
 (∃o,H a=some (.frz o (.lst xs)))\/
  ∃(o:Obj)(its:Xk)(n:Nat),K.lookup a=some o/\o.cls=.type "list"/\o.dict=none/\o.data=.seq its n/\its.size<=sizeLine/\Vals xs its.toList
def SqF.l{K:Yj}{H:Hp}{a:Addr}{xs:List V}(h:SqF K H a xs):SqL K H a xs:=by
 rcases h with⟨o,h⟩|h
 .exact .inl (.inr ⟨o,h⟩)
 .exact .inr h
mutual
def Den(K:Yj)(α:Ya)(H:Hp):MV->V->Prop
 |.non,v=>v=.non
 |.bl b,v=>v=.bl b
 |.int i,v=>v=.int i
 |.str x,v=>v=.str (bL x)
 |.tup ds,v=> ∃a vs,v=.ref a/\SqT K H a vs/\DenL K α H ds vs
 |.scr ds,v=> ∃a vs,v=.ref a/\SqF K H a vs/\DenL K α H ds vs
 |.loc l,v=> ∃a,v=.ref a/\α[l]? =some a
 |.typ n,v=>v=.ty n
 |.obj c ns ds,v=> ∃a C dx vs o,v=.ref a/\H a=some (.frz o (.ins C dx (ns.zip vs)))/\PySem.W.nsIn K mainGlobals c=some (some (.ref C))/\(PySem.W.clsIn K C).map (·.name)=some c/\ns.length=vs.length/\DenL K α H ds vs
def DenL(K:Yj)(α:Ya)(H:Hp):List MV->List V->Prop
 |[],vs=>vs=[]
 |d::ds,vs=> ∃v r,vs=v::r/\Den K α H d v/\DenL K α H ds r
end
structure Ex0(α:Ya)(H:Hp)(α':Ya)(H':Hp):Prop where
 pre: ∃t,α'=α++t
 tup: ∀b xs,H b=some (.tup xs)->H' b=some (.tup xs)
 frz: ∀b o u,H b=some (.frz o u)->H' b=some (.frz o u)
structure Ext(α:Ya)(H:Hp)(α':Ya)(H':Hp):Prop extends Ex0 α H α' H' where
 new: ∀b∈α',b∈α\/H b=none
 keep: ∀b o,H b=some o->b∉α->H' b=some o
 has: ∀b o,H b=some o-> ∃o',H' b=some o'
section
variable{K:Yj}{α α' α'':Ya}{H H' H'':Hp}
def Ext.refl(α:Ya)(H:Hp):Ext α H α H:=⟨⟨⟨[],by simp⟩,λ_ _ h=>h,λ_ _ _ h=>h⟩,λb h=>.inl h,λ_ _ h _=>h,λ_ o h=>⟨o,h⟩⟩
def Ex0.grow(α t:Ya)(H:Hp):Ex0 α H (α++t) H:=⟨⟨t,rfl⟩,λ_ _ h=>h,λ_ _ _ h=>h⟩
def Ext.free(x:Ext α H α' H'){b:Addr}(h:H' b=none):H b=none:=by
 cases e:H b with
 |none=>rfl
 |some o=>obtain⟨o',h'⟩:=x.has b o e;rw[h]at h';cases h'
def Ext.out(x:Ext α H α' H'){b:Addr}{o:HO}(h:H b=some o)(n:b∉α):b∉α':=λz=>by
 rcases x.new b z with z|z
 .exact n z
 .rw[h]at z;cases z
def Ext.trans(x:Ext α H α' H')(y:Ext α' H' α'' H''):Ext α H α'' H'' where
 pre:=by obtain⟨t,rfl⟩:=x.pre;obtain⟨u,rfl⟩:=y.pre;exact⟨t++u,by rw[aA]⟩
 new:=λb h=>(y.new b h).elim (x.new b) λz=>.inr (x.free z)
 keep:=λb o h n=>y.keep b o (x.keep b o h n) (x.out h n)
 has:=λb o h=>let ⟨o',h'⟩:=x.has b o h;y.has b o' h'
 tup:=λb xs h=>y.tup b xs (x.tup b xs h)
 frz:=λb o u h=>y.frz b o u (x.frz b o u h)
def Ex0.at(x:Ex0 α H α' H'){l:Nat}{a:Addr}(h:α[l]? =some a):α'[l]? =some a:=by obtain⟨t,rfl⟩:=x.pre;rw[getElem?_append_left (gS.mp h).1];exact h
def Ex0.sqT(x:Ex0 α H α' H'){a:Addr}{vs:List V}(q:SqT K H a vs):SqT K H' a vs:=by
 rcases q with(q|⟨o,q⟩)|q
 .exact .inl (.inl (x.tup a vs q))
 .exact .inl (.inr ⟨o,x.frz a o _ q⟩)
 .exact .inr q
def Ex0.sqF(x:Ex0 α H α' H'){a:Addr}{vs:List V}(q:SqF K H a vs):SqF K H' a vs:=by
 rcases q with⟨o,q⟩|q
 .exact .inl ⟨o,x.frz a o _ q⟩
 .exact .inr q
mutual
theorem Den.ex0(x:Ex0 α H α' H'): ∀{d:MV}{v:V},Den K α H d v->Den K α' H' d v
 |.non,_,q=>by unfold Den at q ⊢; exact q
 |.bl _,_,q=>by unfold Den at q ⊢; exact q
 |.int _,_,q=>by unfold Den at q ⊢; exact q
 |.str _,_,q=>by unfold Den at q ⊢; exact q
 |.typ _,_,q=>by unfold Den at q ⊢; exact q
 |.obj c ns ds,_,q=>by unfold Den at q ⊢;obtain⟨a,C,dx,vs,o,e,h,hn,hc,hl,l⟩:=q;exact⟨a,C,dx,vs,o,e,x.frz a _ _ h,hn,hc,hl,DenL.ex0 x l⟩
 |.loc _,_,q=>by unfold Den at q ⊢;obtain⟨a,e,h⟩:=q;exact⟨a,e,x.at h⟩
 |.tup ds,_,q=>by unfold Den at q ⊢;obtain⟨a,vs,e,s,l⟩:=q;exact⟨a,vs,e,x.sqT s,DenL.ex0 x l⟩
 |.scr ds,_,q=>by unfold Den at q ⊢;obtain⟨a,vs,e,s,l⟩:=q;exact⟨a,vs,e,x.sqF s,DenL.ex0 x l⟩
theorem DenL.ex0(x:Ex0 α H α' H'): ∀{ds:Za}{vs:List V},DenL K α H ds vs->DenL K α' H' ds vs
 |[],_,q=>by unfold DenL at q ⊢; exact q
 |d::ds,_,q=>by unfold DenL at q ⊢;obtain⟨v,r,e,a,l⟩:=q;exact⟨v,r,e,Den.ex0 x a,DenL.ex0 x l⟩
end
def Den.ext(x:Ext α H α' H'){d:MV}{v:V}(q:Den K α H d v):Den K α' H' d v:=q.ex0 x.toEx0
def DenL.ext(x:Ext α H α' H'){d:Za}{v:List V}(q:DenL K α H d v):DenL K α' H' d v:=q.ex0 x.toEx0
theorem tK:Den K α H .non .non:=by unfold Den;rfl
theorem nP(b:Bool):Den K α H (.bl b) (.bl b):=by unfold Den;rfl
theorem wX(i:Int):Den K α H (.int i) (.int i):=by unfold Den;rfl
theorem oD(x:Db):Den K α H (.str x) (.str (bL x)):=by unfold Den;rfl
theorem RZ(n:String):Den K α H (.typ n) (.ty n):=by unfold Den;rfl
def aR{ds:Za}{a:Addr}{vs:List V}(s:SqT K H a vs)(l:DenL K α H ds vs):Den K α H (.tup ds) (.ref a):=by unfold Den;exact⟨a,vs,rfl,s,l⟩
def SC{ds:Za}{a:Addr}{vs:List V}(s:SqF K H a vs)(l:DenL K α H ds vs):Den K α H (.scr ds) (.ref a):=by unfold Den;exact⟨a,vs,rfl,s,l⟩
def oE{l:Nat}{a:Addr}(h:α[l]? =some a):Den K α H (.loc l) (.ref a):=by unfold Den;exact⟨a,rfl,h⟩
def nQ{v:V}(d:Den K α H .non v):v=.non:=by unfold Den at d;exact d
def pE{b:Bool}{v:V}(d:Den K α H (.bl b) v):v=.bl b:=by unfold Den at d;exact d
def xM{i:Int}{v:V}(d:Den K α H (.int i) v):v=.int i:=by unfold Den at d;exact d
def xN{x:Db}{v:V}(d:Den K α H (.str x) v):v=.str (bL x):=by unfold Den at d;exact d
def Ez{c:Str}{ns:Yb}{ds:Za}{a C dx:Addr}{vs:List V}{o:Obj}(h:H a=some (.frz o (.ins C dx (ns.zip vs))))(hn:PySem.W.nsIn K mainGlobals c=some (some (.ref C)))(hc:(PySem.W.clsIn K C).map (·.name)=some c)(hl:ns.length=vs.length)(l:DenL K α H ds vs):Den K α H (.obj c ns ds) (.ref a):=by unfold Den;exact⟨a,C,dx,vs,o,rfl,h,hn,hc,hl,l⟩
def cP{c:Str}{ns:Yb}{ds:Za}{v:V}(d:Den K α H (.obj c ns ds) v): ∃a C dx vs o,v=.ref a/\H a=some (.frz o (.ins C dx (ns.zip vs)))/\PySem.W.nsIn K mainGlobals c=some (some (.ref C))/\(PySem.W.clsIn K C).map (·.name)=some c/\ns.length=vs.length/\DenL K α H ds vs:=by unfold Den at d;exact d
def nR{n:String}{v:V}(d:Den K α H (.typ n) v):v=.ty n:=by unfold Den at d;exact d
def yN{ds:Za}{v:V}(d:Den K α H (.tup ds) v): ∃a vs,v=.ref a/\SqT K H a vs/\DenL K α H ds vs:=by unfold Den at d;exact d
def cQ{ds:Za}{v:V}(d:Den K α H (.scr ds) v): ∃a vs,v=.ref a/\SqF K H a vs/\DenL K α H ds vs:=by unfold Den at d;exact d
def bM{l:Nat}{v:V}(d:Den K α H (.loc l) v): ∃a,v=.ref a/\α[l]? =some a:=by unfold Den at d;exact d
theorem zW:DenL K α H [] []:=by unfold DenL;rfl
def zM{d:MV}{v:V}{ds:Za}{vs:List V}(a:Den K α H d v)(l:DenL K α H ds vs):DenL K α H (d::ds) (v::vs):=by unfold DenL;exact⟨v,vs,rfl,a,l⟩
def DenL.uncons{d:MV}{ds:Za}{vs:List V}(l:DenL K α H (d::ds) vs): ∃v r,vs=v::r/\Den K α H d v/\DenL K α H ds r:=by unfold DenL at l;exact l
def DenL.isnil{vs:List V}(l:DenL K α H [] vs):vs=[]:=by unfold DenL at l;exact l
theorem DenL.length: ∀{ds:Za}{vs:List V},DenL K α H ds vs->vs.length=ds.length
 |[],_,q=>by rw[q.isnil];rfl
 |d::ds,_,q=>by obtain⟨v,r,rfl,_,l⟩:=q.uncons;rw[lC,lC,DenL.length l]
theorem DenL.append: ∀{ds es:Za}{vs us:List V},DenL K α H ds vs->DenL K α H es us->DenL K α H (ds++es) (vs++us)
 |[],_,_,_,q,l=>by rw[q.isnil];exact l
 |d::ds,_,_,_,q,l=>by obtain⟨v,r,rfl,a,l'⟩:=q.uncons;exact zM a (DenL.append l' l)
theorem DenL.drop: ∀{ds:Za}{vs:List V}(n:Nat),DenL K α H ds vs->DenL K α H (ds.drop n) (vs.drop n)
 |_,_,0,q=>q
 |[],_,n+1,q=>by rw[q.isnil];exact zW
 |d::ds,_,n+1,q=>by obtain⟨v,r,rfl,_,l⟩:=q.uncons;exact DenL.drop n l
theorem DenL.take: ∀{ds:Za}{vs:List V}(n:Nat),DenL K α H ds vs->DenL K α H (ds.take n) (vs.take n)
 |_,_,0,q=>zW
 |[],_,n+1,q=>by rw[q.isnil];exact zW
 |d::ds,_,n+1,q=>by obtain⟨v,r,rfl,a,l⟩:=q.uncons;exact zM a (DenL.take n l)
theorem DenL.reverse: ∀{ds:Za}{vs:List V},DenL K α H ds vs->DenL K α H ds.reverse vs.reverse
 |[],_,q=>by rw[q.isnil];exact zW
 |d::ds,_,q=>by obtain⟨v,r,rfl,a,l⟩:=q.uncons;rw[reverse_cons,reverse_cons];exact(DenL.reverse l).append (zM a zW)
theorem DenL.set{d:MV}{v:V}(a:Den K α H d v): ∀{ds:Za}{vs:List V}(n:Nat),DenL K α H ds vs->DenL K α H (ds.set n d) (vs.set n v)
 |[],_,_,q=>by rw[q.isnil];exact zW
 |e::ds,_,0,q=>by obtain⟨v',r,rfl,a',l⟩:=q.uncons;exact zM a l
 |e::ds,_,n+1,q=>by obtain⟨v',r,rfl,a',l⟩:=q.uncons;exact zM a' (DenL.set a n l)
theorem DenL.get: ∀{ds:Za}{vs:List V}{i:Nat}{v:V},DenL K α H ds vs->vs[i]? =some v-> ∃d,ds[i]? =some d/\Den K α H d v
 |[],_,_,_,q,e=>by rw[q.isnil]at e;simp at e
 |d::ds,_,0,_,q,e=>by obtain⟨v,r,rfl,a,l⟩:=q.uncons;simp at e;subst e;exact⟨d,rfl,a⟩
 |d::ds,_,i+1,_,q,e=>by obtain⟨v,r,rfl,a,l⟩:=q.uncons;obtain⟨d',h1,h2⟩:=DenL.get (i:=i) l (by simpa using e);exact⟨d',by simpa using h1,h2⟩
def DenL.at{ds:Za}{vs:List V}{i:Nat}{d:MV}(q:DenL K α H ds vs)(e:ds[i]? =some d): ∃v,vs[i]? =some v/\Den K α H d v:=by
 have hi:i<ds.length:=(gS.mp e).1;have hv:i<vs.length:=by rw[q.length];exact hi
 obtain⟨d',h1,h2⟩:=q.get (gE hv);rw[e]at h1;cases h1;exact⟨_,gE hv,h2⟩
def DenL.cut{ds:Za}{vs:List V}(q:DenL K α H ds vs)(lo hi:Yh):DenL K α H (aQ ds lo hi) (ME vs lo hi):=by unfold aQ ME;rw[q.length];exact(q.drop _).take _
theorem GU: ∀(ns:Xi),DenL K α H (ns.map MV.int) (ns.map V.int)
 |[]=>zW
 |b::bs=>zM (wX b) (GU bs)
end
structure Gm where
 K:PySem.W.Frag
 mg:Str->Option Value
 P:Program
 w:World
abbrev _root_.L2.Cx.g(X:Cx):Gm:=⟨X.K,X.mg,X.prog,X.w⟩
inductive DenF(K:Yj)(α:Ya)(H:Hp):List (Str×MV)->List (Str×V)->Prop
 |nil:DenF K α H [] []
 |cons {x:Str} {d:MV} {v:V} {fs gs}:Den K α H d v->DenF K α H fs gs->DenF K α H ((x,d)::fs) ((x,v)::gs)
theorem DenF.ex0{K:Yj}{α α':Ya}{H H':Hp}(x:Ex0 α H α' H'): ∀{fs gs},DenF K α H fs gs->DenF K α' H' fs gs
 |_,_,.nil=>.nil
 |_,_,.cons a l=>.cons (a.ex0 x) (DenF.ex0 x l)
def KeyD:MV->Key->Prop
 |.int i,k=>k=.inl i
 |.str x,k=>k=.inr (bL x)
 |_,_=>False
inductive DenK(K:Yj)(α:Ya)(H:Hp):List (MV×MV)->List (Key×V)->Prop
 |nil:DenK K α H [] []
 |cons {k:MV} {k':Key} {d:MV} {v:V} {fs gs}:KeyD k k'->Den K α H d v->DenK K α H fs gs->DenK K α H ((k,d)::fs) ((k',v)::gs)
theorem DenK.ex0{K:Yj}{α α':Ya}{H H':Hp}(x:Ex0 α H α' H'): ∀{fs gs},DenK K α H fs gs->DenK K α' H' fs gs
 |_,_,.nil=>.nil
 |_,_,.cons k a l=>.cons k (a.ex0 x) (DenK.ex0 x l)
mutual
def xC:MV->Option NK
 |.non=>some (.key none)
 |.int i=>some (.key (some (.inl i)))
 |.str x=>some (.key (some (.inr (bL x))))
 |.tup ds=>(jP ds).map .tup
 |_=>none
def jP:List MV->Option (List NK)
 |[]=>some []
 |d::ds=>(xC d).bind λk=>(jP ds).map (k::·)
end
inductive DenN(K:Yj)(α:Ya)(H:Hp):List (MV×MV)->List (NK×Addr×Value)->Prop
 |nil:DenN K α H [] []
 |cons {k:MV} {nk:NK} {a:Addr} {d:MV} {v:V} {u:Value} {fs xs}:xC k=some nk->fB nk<=4->Den K α H k (.ref a)->Den K α H d v->RelV v u->DenN K α H fs xs->DenN K α H ((k,d)::fs) ((nk,a,u)::xs)
theorem DenN.ex0{K:Yj}{α α':Ya}{H H':Hp}(x:Ex0 α H α' H'): ∀{fs xs},DenN K α H fs xs->DenN K α' H' fs xs
 |_,_,.nil=>.nil
 |_,_,.cons k e a d r l=>.cons k e (a.ex0 x) (d.ex0 x) r (DenN.ex0 x l)
def ObD(g:Gm)(α:Ya)(H:Hp)(a:Addr):MO->Prop
 |.lst ds=> ∃vs,H a=some (.lst vs)/\DenL g.K α H ds vs
 |.dic kvs=>(∃ks,H a=some (.dK ks)/\DenK g.K α H kvs ks)\/ ∃xs,H a=some (DN g.P g.w a xs)/\DenN g.K α H kvs xs
 |.ins c fs=> ∃C gs,g.mg c=some (.ref C)/\DenF g.K α H fs gs/\
   ∃oe,H a=some (.frz oe (.ext λh=>h.get? a=some oe))/\oe.cls=.ref C/\(fs=[]\/ ∃dx od,oe.dict=some dx/\H dx=some (.frz od (.xd gs))/\ ∃vs,oe.data=.fields vs)
 |.rcd c fs=> ∃C dx gs,PySem.W.nsIn g.K mainGlobals c=some (some (.ref C))/\H a=some (.ins C dx gs)/\DenF g.K α H fs gs
 |.fdc kvs=> ∃oe xs,H a=some (.frz oe (DN g.P g.w a xs))/\DenN g.K α H kvs xs
def ObD.there{g:Gm}{α:Ya}{H:Hp}{a:Addr}{o:MO}(h:ObD g α H a o): ∃ho,H a=some ho/\(∀xs,ho≠.tup xs)/\ ∀ob u,ho=.frz ob u-> ∃φ,u=.ext φ:=by
 cases o with
 |lst ds=>obtain⟨vs,h,_⟩:=h;exact⟨_,h,(λxs z=>by cases z),λ_ _ z=>by cases z⟩
 |dic ds=>
  rcases h with⟨vs,h,_⟩|⟨vs,h,_⟩
  .exact⟨_,h,(λxs z=>by cases z),λ_ _ z=>by cases z⟩
  .exact⟨_,h,(λxs z=>by cases z),λ_ _ z=>by cases z⟩
 |ins c ds=>
  obtain⟨_,_,_,_,_,h,_⟩:=h;exact⟨_,h,(λxs z=>by cases z),λ_ _ z=>by cases z;exact⟨_,rfl⟩⟩
 |rcd c ds=>obtain⟨_,_,_,_,h,_⟩:=h;exact⟨_,h,(λxs z=>by cases z),λ_ _ z=>by cases z⟩
 |fdc kvs=>obtain⟨_,_,h,_⟩:=h;exact⟨_,h,(λxs z=>by cases z),λ_ _ z=>by cases z;exact⟨_,rfl⟩⟩
def ObD.move{g:Gm}{α α':Ya}{H H':Hp}{a:Addr}{o:MO}(h:ObD g α H a o)(x:Ex0 α H α' H')(e:H' a=H a):ObD g α' H' a o:=by
 cases o with
 |lst ds=>obtain⟨vs,h,l⟩:=h;exact⟨vs,e.trans h,l.ex0 x⟩
 |dic ds=>
  rcases h with⟨vs,h,l⟩|⟨vs,h,l⟩
  .exact .inl ⟨vs,e.trans h,l.ex0 x⟩
  .exact .inr ⟨vs,e.trans h,l.ex0 x⟩
 |ins c ds=>
  obtain⟨C,gs,m,l,oe,h,hc,hf⟩:=h;exact⟨C,gs,m,l.ex0 x,oe,e.trans h,hc,hf.imp id λ⟨dx,od,h1,h2,h3⟩=>⟨dx,od,h1,x.frz _ _ _ h2,h3⟩⟩
 |rcd c ds=>obtain⟨C,dx,gs,m,h,l⟩:=h;exact⟨C,dx,gs,m,e.trans h,l.ex0 x⟩
 |fdc kvs=>obtain⟨oe,xs,h,l⟩:=h;exact⟨oe,xs,e.trans h,l.ex0 x⟩
structure Wd(g:Gm)(α:Ya)(S:Sto)(H:Hp):Prop where
 len:α.length=S.length
 nd:α.Nodup
 obj: ∀(l:Nat)(a:Addr)(o:MO),α[l]? =some a->S[l]? =some o->ObD g α H a o
section
variable{g:Gm}{α:Ya}{S:Sto}{H:Hp}
def Wd.at(w:Wd g α S H){l:Nat}{o:MO}(h:S[l]? =some o): ∃a,α[l]? =some a/\ObD g α H a o:=by
 have hl:l<α.length:=by rw[w.len];exact(gS.mp h).1
 exact⟨α[l],gE hl,w.obj l _ o (gE hl) h⟩
def Wd.of(w:Wd g α S H){l:Nat}{a:Addr}(h:α[l]? =some a): ∃o,S[l]? =some o/\ObD g α H a o:=by
 have hl:l<S.length:=by rw[<-w.len];exact(gS.mp h).1
 exact⟨S[l],gE hl,w.obj l a _ h (gE hl)⟩
def Wd.mem(w:Wd g α S H){a:Addr}(h:a∈α): ∃ho,H a=some ho/\(∀xs,ho≠.tup xs)/\ ∀ob u,ho=.frz ob u-> ∃φ,u=.ext φ:=by obtain⟨l,hl⟩:=getElem?_of_mem h;obtain⟨o,_,q⟩:=w.of hl;exact q.there
def Wd.newx(w:Wd g α S H){p:Addr}{o:HO}(hp:H p=none):Ext α H α (xH H p o) where
 pre:=⟨[],by simp⟩
 new:=λb h=>.inl h
 keep:=λb o h _=>by rw[zH (zP h hp)];exact h
 has:=λb o h=>⟨o,by rw[zH (zP h hp)];exact h⟩
 tup:=λb o h=>by rw[zH (zP h hp)];exact h
 frz:=λb o u h=>by rw[zH (zP h hp)];exact h
def Wd.fresh(w:Wd g α S H){p:Addr}(hp:H p=none):p∉α:=λz=>by obtain⟨_,h,_⟩:=w.mem z;rw[hp]at h;cases h
def Wd.new(w:Wd g α S H){p:Addr}{o:HO}(hp:H p=none):Wd g α S (xH H p o):=
 ⟨w.len,w.nd,λl a ob h1 h2=>(w.obj l a ob h1 h2).move (w.newx hp).toEx0 (zH λz=>w.fresh hp (by rw[<-z];exact mem_of_getElem? h1))⟩
def Di{ho:HO}{a:Addr}(h:H a=some ho)(n: ∀ob u,ho≠.frz ob u:=by intro _ _ z;cases z): ∀ob u,H a≠some (.frz ob u):=λob u z=>n ob u (Option.some.inj (h.symm.trans z))
def Wd.writex(w:Wd g α S H){l:Nat}{a:Addr}{o:HO}(h:α[l]? =some a)(nf: ∀ob u,H a≠some (.frz ob u)):Ext α H α (xH H a o) where
 pre:=⟨[],by simp⟩
 new:=λb h=>.inl h
 keep:=λb o e n=>by rw[zH λz=>n (by rw[z];exact mem_of_getElem? h)];exact e
 has:=λb o e=>by
  by_cases z:b=a
  .subst z;exact⟨_,zS⟩
  .exact⟨o,by rw[zH z];exact e⟩
 tup:=λb xs e=>by obtain⟨ho,h1,h2,_⟩:=w.mem (mem_of_getElem? h);rw[zH λz=>h2 xs (by subst z;rw[e]at h1;exact(Option.some.inj h1).symm)];exact e
 frz:=λb ob u e=>by rw[zH λz=>nf ob u (by rw[<-z];exact e)];exact e
def Wd.ne(w:Wd g α S H){l m:Nat}{a b:Addr}(h:α[l]? =some a)(h':α[m]? =some b)(n:l≠m):a≠b:=by rintro rfl;obtain⟨h1,e1⟩:=gS.mp h;obtain⟨h2,e2⟩:=gS.mp h';exact n ((getElem_inj w.nd).mp (e1.trans e2.symm))
def Wd.write(w:Wd g α S H){l:Nat}{a:Addr}{o:HO}{ob:MO}(h:α[l]? =some a)(nf: ∀ob u,H a≠some (.frz ob u))(q:ObD g α (xH H a o) a ob):Wd g α (S.set l ob) (xH H a o) where
 len:=by rw[List.length_set];exact w.len
 nd:=w.nd
 obj:=λm b ob' h1 h2=>by
  by_cases e:l=m
  .subst e;rw[h]at h1;have hl:l<S.length:=by rw[<-w.len];exact(gS.mp h).1
   rw[getElem?_set_self hl]at h2;rw[<-Option.some.inj h1, <-Option.some.inj h2];exact q
  .rw[getElem?_set_ne e]at h2;exact(w.obj m b ob' h1 h2).move (w.writex h nf).toEx0 (zH (w.ne h1 h λz=>e z.symm))
def Wd.enterx(w:Wd g α S H){H0:Hp}{α0:Ya}(x:Ext α0 H0 α H){b:Addr}(h0:H0 b=none)(n:b∉α):Ext α0 H0 (α++[b]) H where
 pre:=let ⟨t,e⟩:=x.pre;⟨t++[b],by rw[e,aA]⟩
 new:=λc hc=>(List.mem_append.mp hc).elim (x.new c) λz=>.inr (by rw[mS.mp z];exact h0)
 keep:=x.keep
 has:=x.has
 tup:=x.tup
 frz:=x.frz
def Wd.enter(w:Wd g α S H){b:Addr}{ds:Za}{vs:List V}(h:H b=some (.lst vs))(n:b∉α)(l:DenL g.K α H ds vs):Wd g (α++[b]) (S++[.lst ds]) H where
 len:=by rw[lA,lA,w.len];rfl
 nd:=nodup_append.mpr ⟨w.nd,by simp,λa ha c hc=>by rw[mS.mp hc];rintro rfl;exact n ha⟩
 obj:=λm a o h1 h2=>by
  by_cases hm:m<α.length
  .rw[getElem?_append_left hm]at h1;rw[getElem?_append_left (by rw[<-w.len];exact hm)]at h2;exact(w.obj m a o h1 h2).move (Ex0.grow α [b] H) rfl
  .have hm':m=α.length:=by have:=(gS.mp h1).1;rw[lA,lS]at this;omega
   subst hm';rw[getElem?_append_right q9,sub_self]at h1;rw[getElem?_append_right (by rw[w.len];exact Nat.le_refl _),w.len,sub_self]at h2;cases h1;cases h2;exact⟨vs,h,l.ex0 (Ex0.grow α [b] H)⟩
end
inductive R(β:Type) where
 |ok (b:β) (S:Sto)|exc (c:Str) (fs:List (Str×MV)) (S:Sto)|no
def R.bind{β γ:Type}:R β->(β->Sto->R γ)->R γ
 |.ok b S,k=>k b S
 |.exc c fs S,_=>.exc c fs S
 |.no,_=>.no
theorem R.bind_ok{β γ:Type}(b:β)(S:Sto)(k:β->Sto->R γ):(R.ok b S).bind k=k b S:=rfl
inductive Er where
 |val (d:MV)|new (ds:Za)
instance:Inhabited Er:=⟨.val .non⟩
def DenX(K:Yj)(α:Ya)(H:Hp):Er->V->Prop
 |.val d,v=>Den K α H d v
 |.new ds,v=> ∃b vs,v=.ref b/\H b=some (.lst vs)/\b∉α/\DenL K α H ds vs
def DenE(K:Yj)(H:Hp)(α':Ya)(H':Hp)(r:Er)(v:V):Prop:=DenX K α' H' r v/\match r with |.new _=> ∀a,v=.ref a->H a=none|_=>True
section
variable{K:Yj}{α α':Ya}{H H0 H':Hp}
def DenX.ext(x:Ext α H α' H'): ∀{r:Er}{v:V},DenX K α H r v->DenX K α' H' r v
 |.val d,_,q=>Den.ext x q
 |.new ds,_,⟨b,vs,e,h,n,l⟩=>⟨b,vs,e,x.keep b _ h n,x.out h n,l.ext x⟩
def DenE.val{d:MV}{v:V}(q:Den K α' H' d v):DenE K H α' H' (.val d) v:=⟨q,trivial⟩
def DenE.back(hf: ∀b,H b=none->H0 b=none){r:Er}{v:V}(q:DenE K H α' H' r v):DenE K H0 α' H' r v:=by
 refine⟨q.1,?_⟩
 cases r with
 |new ds=>exact λa e=>hf a (q.2 a e)
 |_=>trivial
def DenE.ext{α'':Ya}{H'':Hp}(x:Ext α' H' α'' H''){r:Er}{v:V}(q:DenE K H α' H' r v):DenE K H α'' H'' r v:=⟨q.1.ext x,q.2⟩
end
section
variable{K:Yj}{α:Ya}{H:Hp}{v:V}
def vC(d:DenX K α H (.val .non) v):v=.non:=nQ (K:=K) (α:=α) (H:=H) d
def DI{b:Bool}(d:DenX K α H (.val (.bl b)) v):v=.bl b:=pE (K:=K) (α:=α) (H:=H) d
def yS{b:Int}(d:DenX K α H (.val (.int b)) v):v=.int b:=xM (K:=K) (α:=α) (H:=H) d
def nS{b:Db}(d:DenX K α H (.val (.str b)) v):v=.str (bL b):=xN (K:=K) (α:=α) (H:=H) d
def YQ{b:String}(d:DenX K α H (.val (.typ b)) v):v=.ty b:=nR (K:=K) (α:=α) (H:=H) d
def Ni{c:Str}{ns:Yb}{ds:Za}(d:DenX K α H (.val (.obj c ns ds)) v): ∃a C dx vs o,v=.ref a/\H a=some (.frz o (.ins C dx (ns.zip vs)))/\PySem.W.nsIn K mainGlobals c=some (some (.ref C))/\(PySem.W.clsIn K C).map (·.name)=some c/\ns.length=vs.length/\DenL K α H ds vs:=cP (K:=K) (α:=α) (H:=H) d
def nT{ds:Za}(d:DenX K α H (.val (.tup ds)) v): ∃a vs,v=.ref a/\SqT K H a vs/\DenL K α H ds vs:=yN (K:=K) (α:=α) (H:=H) d
def DL{ds:Za}(d:DenX K α H (.val (.scr ds)) v): ∃a vs,v=.ref a/\SqF K H a vs/\DenL K α H ds vs:=cQ (K:=K) (α:=α) (H:=H) d
def fE{l:Nat}(d:DenX K α H (.val (.loc l)) v): ∃a,v=.ref a/\α[l]? =some a:=bM (K:=K) (α:=α) (H:=H) d
end
def rQ:List Er->List V->List Addr
 |.new _::rs,.ref b::vs=>b::rQ rs vs
 |_::rs,_::vs=>rQ rs vs
 |_,_=>[]
inductive ArgsE(K:Yj)(H:Hp)(α':Ya)(H':Hp):List Er->List V->Prop
 |nil:ArgsE K H α' H' [] []
 |cons {r v rs vs}:DenE K H α' H' r v->(∀ds b,r=.new ds->v=.ref b->b∉rQ rs vs)->ArgsE K H α' H' rs vs->ArgsE K H α' H' (r::rs) (v::vs)
theorem ArgsE.nones{K:Yj}{H:Hp}{α':Ya}{H':Hp}: ∀{rs vs},ArgsE K H α' H' rs vs-> ∀b∈rQ rs vs,H b=none
 |_,_,.nil=>λb h=>by simp[rQ]at h
 |.val d::_,v::_,.cons a n l=>λb h=>ArgsE.nones l b (by simpa [rQ]using h)
 |.new ds::_,v::_,.cons a n l=>λb h=>by
  obtain⟨c,vs,rfl,_⟩:=a.1;rcases mC.mp (show b∈c::rQ _ _ from h)with rfl|h
  .exact a.2 _ rfl
  .exact ArgsE.nones l b h
theorem ArgsE.back{K:Yj}{H H0:Hp}{α':Ya}{H':Hp}(hf: ∀b,H b=none->H0 b=none): ∀{rs vs},ArgsE K H α' H' rs vs->ArgsE K H0 α' H' rs vs
 |_,_,.nil=>.nil
 |_,_,.cons a n l=>.cons (a.back hf) n (ArgsE.back hf l)
theorem ArgsE.length{K:Yj}{H:Hp}{α':Ya}{H':Hp}: ∀{rs vs},ArgsE K H α' H' rs vs->vs.length=rs.length
 |_,_,.nil=>rfl
 |_,_,.cons _ _ l=>by rw[lC,lC,ArgsE.length l]
class Dn (β:Type) (τ:outParam Type) where
 d:Gm->Hp->List Addr->Sto->Hp->β->τ->Prop
 back: ∀{g:Gm}{H H0:Hp}{α':Ya}{S':Sto}{H':Hp}{b:β}{u:τ},(∀b,H b=none->H0 b=none)->d g H α' S' H' b u->d g H0 α' S' H' b u
instance:Dn Er V:=⟨λg H α' _ H' r v=>DenE g.K H α' H' r v,λhf q=>q.back hf⟩
instance:Dn Bool Bool:=⟨λ_ _ _ _ _ b u=>u=b,λ_ q=>q⟩
instance:Dn (List Er) (List V):=⟨λg H α' _ H' r v=>ArgsE g.K H α' H' r v,λhf q=>q.back hf⟩
instance:Dn (Option Int) (Option Int):=⟨λ_ _ _ _ _ b u=>u=b,λ_ q=>q⟩
abbrev XW:=Str->List (Str×MV)->Sto->List Addr->Hp->Prop
abbrev W0:XW:=λ_ _ _ _ _=>False
def Post{β τ:Type}[Dn β τ](g:Gm)(W:XW)(α:Ya)(H:Hp):R β->(τ->Hp->Prop)->Prop
 |.ok b S,Q=> ∀u α' H',Ext α H α' H'->Wd g α' S H'->Dn.d g H α' S H' b u->Q u H'
 |.exc c fs S,_=> ∀α' H',Ext α H α' H'->Wd g α' S H'->W c fs S α' H'
 |.no,_=>False
section
variable{β τ γ υ:Type}[Dn β τ][Dn γ υ]{g:Gm}{W:XW}{α α':Ya}{H H':Hp}
def Post.shift(x:Ext α H α' H'): ∀{m:R β}{Q:τ->Hp->Prop},Post g W α H m Q->Post g W α' H' m Q
 |.ok b S,Q,q=>λu α2 H2 x2 w2 d2=>q u α2 H2 (x.trans x2) w2 (Dn.back (λb h=>x.free h) d2)
 |.exc c fs S,_,q=>λα2 H2 x2 w2=>q α2 H2 (x.trans x2) w2
 |.no,_,q=>q
def Post.bind{m:R β}{k:β->Sto->R γ}{Q:υ->Hp->Prop}{Q':τ->Hp->Prop}(q:Post g W α H (m.bind k) Q)
  (f: ∀u b S1 α1 H1,m=.ok b S1->Ext α H α1 H1->Wd g α1 S1 H1->Dn.d g H α1 S1 H1 b u->Post g W α H (k b S1) Q->Q' u H1):Post g W α H m Q':=by
 cases m with
 |ok b S=>exact λu α1 H1 x w d=>f u b S α1 H1 rfl x w d q
 |exc c fs S=>exact q
 |no=>exact q
def Post.here{b:β}{S:Sto}{Q:τ->Hp->Prop}{u:τ}(q:Post g W α H (.ok b S) Q)(w:Wd g α S H)(d:Dn.d g H α S H b u):Q u H:=q u α H (Ext.refl α H) w d
end
def Post.val{g:Gm}{W:XW}{α:Ya}{H:Hp}{d:MV}{S:Sto}{Q:VK}{v:V}(q:Post g W α H (.ok (Er.val d) S) Q)(w:Wd g α S H)(k:Den g.K α H d v):Q v H:=q.here w (DenE.val k)
def Post.newl{g:Gm}{W:XW}{α:Ya}{H:Hp}{ds:Za}{S:Sto}{Q:VK}{vs:List V}{p:Addr}(q:Post g W α H (.ok (Er.new ds) S) Q)(w:Wd g α S H)(hp:H p=none)(l:DenL g.K α H ds vs):Q (.ref p) (xH H p (.lst vs)):=
 q (.ref p) α _ (w.newx hp) (w.new hp) ⟨⟨p,vs,rfl,zS,w.fresh hp,l.ext (w.newx hp)⟩,λa e=>by cases e;exact hp⟩
def Post.newt{g:Gm}{W:XW}{α:Ya}{H:Hp}{ds:Za}{S:Sto}{Q:VK}{vs:List V}{p:Addr}(q:Post g W α H (.ok (Er.val (.tup ds)) S) Q)(w:Wd g α S H)(hp:H p=none)(l:DenL g.K α H ds vs):Q (.ref p) (xH H p (.tup vs)):=
 q (.ref p) α _ (w.newx hp) (w.new hp) (.val (aR (.of zS) (l.ext (w.newx hp))))
abbrev Rho:=List (Option MV)
structure Slots(K:Yj)(α:Ya)(H:Hp)(ρ:Rho)(σ:St):Prop where
 len:σ.length=ρ.length
 slot: ∀(i:Nat)(d:MV),ρ[i]? =some (some d)-> ∃v,σ[i]? =some (some v)/\Den K α H d v
section
variable{K:Yj}{α α':Ya}{H H':Hp}{ρ:Rho}{σ:St}
def Slots.ex0(q:Slots K α H ρ σ)(x:Ex0 α H α' H'):Slots K α' H' ρ σ:=⟨q.len,λi d e=>let ⟨v,h1,h2⟩:=q.slot i d e;⟨v,h1,h2.ex0 x⟩⟩
def Slots.ext(q:Slots K α H ρ σ)(x:Ext α H α' H'):Slots K α' H' ρ σ:=q.ex0 x.toEx0
def Fa{α:Type}{l:List α}{i j:Nat}{x y:α}(h:(l.set i x)[j]? =some y):(j=i/\y=x/\i<l.length)\/(j≠i/\l[j]? =some y):=by
 by_cases hj:i=j
 .subst hj;by_cases hl:i<l.length
  .rw[getElem?_set_self hl]at h;exact .inl ⟨rfl,(Option.some.inj h).symm,hl⟩
  .rw[getElem?_eq_none (by rw[List.length_set];omega)]at h;cases h
 .rw[getElem?_set_ne hj]at h;exact .inr ⟨λz=>hj z.symm,h⟩
def Slots.set(q:Slots K α H ρ σ){i:Nat}{d:MV}{v:V}(h:Den K α H d v):Slots K α H (ρ.set i (some d)) (σ.set i (some v)):=by
 refine⟨by rw[List.length_set,List.length_set];exact q.len,λj e z=>?_⟩;rcases Fa z with⟨rfl,e',hl⟩|⟨hj,e'⟩
 .cases e';exact⟨v,by rw[getElem?_set_self (by rw[q.len];exact hl)],h⟩
 .obtain⟨u,h1,h2⟩:=q.slot j e e';exact⟨u,by rw[getElem?_set_ne (Ne.symm hj)];exact h1,h2⟩
end
def Jd(X:Cx)(W:XW){β τ:Type}[Dn β τ](P:(St->Hp->(τ->Hp->Prop)->Prop)->Prop)(f:Rho->Sto->R β):Prop:=
 ∃t,P t/\ ∀α ρ S σ H Q,Wd X.g α S H->Slots X.K α H ρ σ->Post X.g W α H (f ρ S) Q->t σ H Q
abbrev zO(X:Cx)(W:XW)(e:Expr)(f:Rho->Sto->R Er):Prop:=Jd X W (PE X e) f
abbrev tE(X:Cx)(W:XW)(e:Expr)(f:Rho->Sto->R Bool):Prop:=Jd X W (PT X e) f
abbrev Kj(X:Cx)(W:XW)(e:Expr)(f:Rho->Sto->R Bool):Prop:=Jd X W (PW X e) f
abbrev DM(X:Cx)(W:XW)(es:Yi)(f:Rho->Sto->R (List Er)):Prop:=Jd X W (PA X es) f
abbrev Fc(X:Cx)(W:XW)(e:Option Expr)(f:Rho->Sto->R (Option Int)):Prop:=Jd X W (PO X e) f
section
variable{X:Cx}{W:XW}{a b c:Expr}{f g h:Rho->Sto->R Er}{pos:Pos}
def Fe:Option (Option MV)->Sto->R Er
 |some (some d),S=>.ok (.val d) S
 |_,_=>.no
def Nj(i:Nat){x:Str}(hN:X.N[i]? =some x:=by rfl)(hv:Sx X.env.scope x:=by first |exact Or.inl rfl|exact Or.inr (Or.inl rfl)|exact Or.inr (Or.inr rfl))(hd:(x==("__debug__":Str))=false:=by decide)
  (hcd:(x==("__classdict__":Str))=false:=by decide):zO X W (.Name x pos) (λρ S=>Fe (ρ[i]?) S):=by
 refine⟨_,pv i hN hv hd hcd,λα ρ S σ H Q wd sl q=>?_⟩;dsimp only at q
 cases z:ρ[i]? with
 |none=>rw[z]at q;exact q.elim
 |some o=>
  cases o with
  |none=>rw[z]at q;exact q.elim
  |some d=>
   rw[z]at q;obtain⟨v,h1,h2⟩:=sl.slot i d z;exact⟨v,h1,Post.val q wd h2⟩
def Nk{i:Int}{j:Nat}:zO X W (.Constant (.int i) j pos) (λ_ S=>.ok (.val (.int i)) S):=⟨_,PJ,λα ρ S σ H Q wd sl q=>Post.val q wd (wX i)⟩
def Uk{i:Bool}{j:Nat}:zO X W (.Constant (.bool i) j pos) (λ_ S=>.ok (.val (.bl i)) S):=⟨_,Sz,λα ρ S σ H Q wd sl q=>Post.val q wd (nP i)⟩
def Nl{j:Nat}:zO X W (.Constant .none j pos) (λ_ S=>.ok (.val .non) S):=⟨_,Ln,λα ρ S σ H Q wd sl q=>Post.val q wd tK⟩
def Nn{x:Str}{j:Nat}(cs:Db)(hx:x=bL cs:=by rfl):zO X W (.Constant (.str x) j pos) (λ_ S=>.ok (.val (.str cs)) S):=
 ⟨_,Lo,λα ρ S σ H Q wd sl q=>Post.val q wd (by rw[hx];exact oD cs)⟩
def Ff{x:Str}{i:Int}{t:Tok}(hg:Gl X x)(hm:X.mg x=some (.int i t))(hd:(x==("__debug__":Str))=false:=by decide):zO X W (.Name x pos) (λ_ S=>.ok (.val (.int i)) S):=
 ⟨_,Dr (v:=.int i) hg hm ⟨t,rfl⟩ hd,λα ρ S σ H Q wd sl q=>Post.val q wd (wX i)⟩
def SD{x:Str}{T:String}(hg:Gl X x)(hm:X.mg x=none)(hv:bootBuiltins x=some (.type T))(hn:x≠"__name__":=by decide)(hd:(x==("__debug__":Str))=false:=by decide):zO X W (.Name x pos) (λ_ S=>.ok (.val (.typ T)) S):=
 ⟨_,Dt (v:=.ty T) hg hm hv rfl hn hd,λα ρ S σ H Q wd sl q=>Post.val q wd (RZ T)⟩
def Np{i:Int}{j:Nat}{p3:Pos}:zO X W (.UnaryOp .USub (.Constant (.int i) j p3) pos) (λ_ S=>.ok (.val (.int (-i))) S):=
 ⟨_,Ki XX PJ,λα ρ S σ H Q wd sl q=>⟨i,rfl,Post.val q wd (wX (-i))⟩⟩
def VJ(X:Cx)(W:XW)(r:R2)(F:Er->Er->Sto->R Er):Prop:= ∀p q x y α S H Q,Wd X.g α S H->DenX X.K α H p x->DenX X.K α H q y->Post X.g W α H (F p q S) Q->r x y H Q
def two{r:R2}{F:Er->Er->Sto->R Er}(hF:VJ X W r F){ta tb:TE}(fa: ∀α ρ S σ H Q,Wd X.g α S H->Slots X.K α H ρ σ->Post X.g W α H (f ρ S) Q->ta σ H Q)
  (fb: ∀α ρ S σ H Q,Wd X.g α S H->Slots X.K α H ρ σ->Post X.g W α H (g ρ S) Q->tb σ H Q) {α:Ya} {ρ:Rho} {S:Sto} {σ:St} {H:Hp} {Q:VK} (wd:Wd X.g α S H) (sl:Slots X.K α H ρ σ)
  (q:Post X.g W α H ((f ρ S).bind λp S1=>(g ρ S1).bind λq S2=>F p q S2) Q):ta σ H λx H1=>tb σ H1 λy H2=>r x y H2 Q:=
 fa α ρ S σ H _ wd sl (q.bind λu p S1 α1 H1 e1 x1 w1 d1 q1=>fb α1 ρ S1 σ H1 _ w1 (sl.ext x1) ((q1.shift x1).bind λu2 p2 S2 α2 H2 e2 x2 w2 d2 q2=>
  hF p p2 u u2 α2 S2 H2 Q w2 (d1.1.ext x2) d2.1 (q2.shift x2)))
def AH{op:Operator}{r:R2}{F:Er->Er->Sto->R Er}(ho:OpR X (binaryOp op) r)(hF:VJ X W r F)(ha:zO X W a f)(hb:zO X W b g):zO X W (.BinOp a op b pos) (λρ S=>(f ρ S).bind λp S1=>(g ρ S1).bind λq S2=>F p q S2):=by obtain⟨ta,ha,fa⟩:=ha;obtain⟨tb,hb,fb⟩:=hb;exact⟨_,Tq ho ha hb,λα ρ S σ H Q wd sl q=>two hF fa fb wd sl q⟩
def Kk{r:R2}{F:Er->Er->Sto->R Er}(ho:IxR X r)(hF:VJ X W r F)(ha:zO X W a f)(hb:zO X W b g)(hs:BU b:=by exact λ_ _=>rfl):
  zO X W (.Subscript a b pos) (λρ S=>(f ρ S).bind λp S1=>(g ρ S1).bind λq S2=>F p q S2):=by
 obtain⟨ta,ha,fa⟩:=ha;obtain⟨tb,hb,fb⟩:=hb;exact⟨_,Ub ho ha hb hs,λα ρ S σ H Q wd sl q=>two hF fa fb wd sl q⟩
def fF:Er->Sto->R Bool
 |.val (.bl b),S=>.ok b S
 |_,_=>.no
def YR{p:Er}{S:Sto}{α:Ya}{H:Hp}{Q:Bool->Hp->Prop}(q:Post X.g W α H (fF p S) Q): ∃k,p=.val (.bl k)/\Post X.g W α H (.ok k S) Q:=by
 unfold fF at q;split at q
 .exact⟨_,rfl,q⟩
 .exact q.elim
def YS{β τ:Type}[Dn β τ]{p:Er}{S:Sto}{α:Ya}{H:Hp}{k:Bool->Sto->R β}{Q:τ->Hp->Prop}(q:Post X.g W α H ((fF p S).bind k) Q): ∃c,p=.val (.bl c)/\Post X.g W α H (k c S) Q:=by
 unfold fF at q;split at q
 .exact⟨_,rfl,q⟩
 .exact q.elim
def sP{op:CmpOp}{r:R2}{F:Er->Er->Sto->R Er}(ho:OpR X (compareOp op) r)(hF:VJ X W r F)(ha:zO X W a f)(hb:zO X W b g)(hm:behindInMarks op b=false:=by first |exact Mj _|with_unfolding_all rfl):
  tE X W (.Compare a [op] [b] pos) (λρ S=>((f ρ S).bind λp S1=>(g ρ S1).bind λq S2=>F p q S2).bind fF):=by
 obtain⟨ta,ha,fa⟩:=ha;obtain⟨tb,hb,fb⟩:=hb;refine⟨_,Ed ho ha hb hm,λα ρ S σ H Q wd sl q=>?_⟩;refine two hF fa fb wd sl (Q:=λx H'=> ∃k,x=.bl k/\Q k H') (q.bind λu p S1 α1 H1 e1 x1 w1 d1 q1=>?_);obtain⟨k,rfl,q2⟩:=YR (q1.shift x1);exact⟨k,DI d1.1,q2.here w1 rfl⟩
def chF(F G:Er->Er->Sto->R Er)(p q:Er)(S:Sto)(k:Sto->R Er):R Er:=(F p q S).bind λz S1=>(fF z S1).bind λc S2=>if c=true then(k S2).bind λr S3=>G q r S3 else .ok (.val (.bl false)) S2
def rG:Er->Sto->R Bool
 |.val .non,S=>.ok false S
 |.val (.bl b),S=>.ok b S
 |.val (.int i),S=>.ok (i !=0) S
 |.val (.str x),S=>if x.length<=sizeLine then .ok (!x.isEmpty) S else .no
 |.val (.tup ds),S=>.ok (!ds.isEmpty) S
 |.val (.scr ds),S=>.ok (!ds.isEmpty) S
 |.val (.loc l),S=>match S[l]? with
  |some (.lst ds)=>.ok (!ds.isEmpty) S
  |_=>.no
 |.val (.typ _),_=>.no
 |.val (.obj _ _ _),_=>.no
 |.new ds,S=>.ok (!ds.isEmpty) S
def qT{ds:Za}{vs:List V}{K:Yj}{α:Ya}{H:Hp}(l:DenL K α H ds vs):(!vs.isEmpty)= !ds.isEmpty:=by have:=l.length;cases ds<;>cases vs<;>simp_all
def YT{p:Er}{x:V}{S:Sto}{α:Ya}{H:Hp}{Q:Bool->Hp->Prop}(wd:Wd X.g α S H)(d:DenX X.K α H p x)(q:Post X.g W α H (rG p S) Q): ∃k,Mk X.K x H k/\Q k H:=by
 match p,d,q with
 |.val .non,d,q=>cases vC d;exact⟨_,rfl,q.here wd rfl⟩
 |.val (.bl b),d,q=>cases DI d;exact⟨_,rfl,q.here wd rfl⟩
 |.val (.int i),d,q=>cases yS d;exact⟨_,rfl,q.here wd rfl⟩
 |.val (.typ n),d,q=>exact q.elim
 |.val (.obj _ _ _),d,q=>exact q.elim
 |.val (.str z),d,q=>
  cases nS d;have q':Post X.g W α H (if z.length<=sizeLine then R.ok (!z.isEmpty) S else R.no) Q:=q;split at q'
  .rename_i hz;refine⟨_,⟨by rw[gG];exact hz,?_⟩,q'.here wd rfl⟩;rw[gG]
   cases z with
   |nil=>rfl
   |cons c r=>
    have h0:((r.length:Int)+1)≠0:=by omega
    simp[h0]
  .exact q'.elim
 |.val (.tup ds),d,q=>
  obtain⟨a,vs,rfl,s,l⟩:=nT d;exact⟨_,.inr (.inl ⟨vs,s,(qT l).symm⟩),q.here wd rfl⟩
 |.val (.scr ds),d,q=>
  obtain⟨a,vs,rfl,s,l⟩:=DL d;exact⟨_,.inl ⟨vs,s.l,(qT l).symm⟩,q.here wd rfl⟩
 |.val (.loc n),d,q=>
  obtain⟨a,rfl,h⟩:=fE d;obtain⟨o,h1,h2⟩:=wd.of h;have q':Post X.g W α H (match S[n]? with |some (.lst ds)=>R.ok (!ds.isEmpty) S|_=>R.no) Q:=q;rw[h1]at q'
  cases o with
  |lst ds=>
   obtain⟨vs,h3,l⟩:=h2;exact⟨_,.inl ⟨vs,.of h3,(qT l).symm⟩,q'.here wd rfl⟩
  |dic ds=>exact q'.elim
  |ins c fs=>exact q'.elim
  |rcd c fs=>exact q'.elim
  |fdc _=>exact q'.elim
 |.new ds,⟨a,vs,ex,s,n,l⟩,q=>subst ex;exact⟨_,.inl ⟨vs,.of s,(qT l).symm⟩,q.here wd rfl⟩
def YU(ha:zO X W a f)(he: ∀whole,isTrue a X.env whole=(do let v <-whole;standAt a.pos;holding [v] (truthy v)):=by intro _;rfl):tE X W a (λρ S=>(f ρ S).bind rG):=by obtain⟨ta,ha,fa⟩:=ha;exact⟨_,XY ha he,λα ρ S σ H Q wd sl q=>fa α ρ S σ H _ wd sl (q.bind λu p S1 α1 H1 e1 x1 w1 d1 q1=>YT w1 d1.1 (q1.shift x1))⟩
end
section
variable{X:Cx}{W:XW}{a b c:Expr}{es:Yi}{f g h:Rho->Sto->R Er}{tf tg:Rho->Sto->R Bool}{pos:Pos}
def Nq(p:Er)(S:Sto)(k:Sto->R Er):R Er:=(fF p S).bind λc S1=>if c=true then k S1 else .ok (.val (.bl false)) S1
def orF(p:Er)(S:Sto)(k:Sto->R Er):R Er:=(fF p S).bind λc S1=>if c=true then .ok (.val (.bl true)) S1 else k S1
def Nr{op}(ha:zO X W a f):zO X W (.BoolOp op [a] pos) f:=let ⟨t,h,k⟩:=ha;⟨t,Lu h,k⟩
def Nt(ha:zO X W a f)(hb:zO X W (.BoolOp .And (b::es) pos) g):zO X W (.BoolOp .And (a::b::es) pos) (λρ S=>(f ρ S).bind λp S1=>Nq p S1 λS2=>g ρ S2):=by
 obtain⟨ta,ha,fa⟩:=ha;obtain⟨tb,hb,fb⟩:=hb;refine⟨_,Lv ha hb,λα ρ S σ H Q wd sl q=>fa α ρ S σ H _ wd sl (q.bind λu p S1 α1 H1 e1 x1 w1 d1 q1=>?_)⟩;obtain⟨k,rfl,q2⟩:=YS (q1.shift x1);refine⟨k,DI d1.1,?_⟩
 cases k with
 |true=>rw[iP rfl]at q2 ⊢; exact fb α1 ρ S1 σ H1 _ w1 (sl.ext x1) q2
 |false=>rw[iN xF0]at q2 ⊢; exact Post.val q2 w1 (nP false)
def Ul(hc:tE X W c tf)(ha:zO X W a f)(hb:zO X W b g):zO X W (.IfExp c a b pos) (λρ S=>(tf ρ S).bind λk S1=>if k=true then f ρ S1 else g ρ S1):=by
 obtain⟨tc,hc,fc⟩:=hc;obtain⟨ta,ha,fa⟩:=ha;obtain⟨tb,hb,fb⟩:=hb;refine⟨_,XO hc ha hb,λα ρ S σ H Q wd sl q=>fc α ρ S σ H _ wd sl (q.bind λu p S1 α1 H1 e1 x1 w1 d1 q1=>?_)⟩;cases d1
 cases u with
 |true=>rw[iP rfl]at q1 ⊢; exact fa α1 ρ S1 σ H1 _ w1 (sl.ext x1) (q1.shift x1)
 |false=>rw[iN xF0]at q1 ⊢; exact fb α1 ρ S1 σ H1 _ w1 (sl.ext x1) (q1.shift x1)
def Fg(ha:tE X W a tf):Kj X W (.BoolOp .And [a] pos) tf:=let ⟨t,h,k⟩:=ha;⟨t,Du h,k⟩
def Nu(ha:tE X W a tf):Kj X W (.BoolOp .Or [a] pos) tf:=let ⟨t,h,k⟩:=ha;⟨t,Lp h,k⟩
theorem Nv(ha:tE X W a tf)(hb:Kj X W (.BoolOp .And (b::es) pos) tg):Kj X W (.BoolOp .And (a::b::es) pos) (λρ S=>(tf ρ S).bind λk S1=>if k=true then tg ρ S1 else .ok false S1):=by
 obtain⟨ta,ha,fa⟩:=ha;obtain⟨tb,hb,fb⟩:=hb;refine⟨_,Lq ha hb,λα ρ S σ H Q wd sl q=>fa α ρ S σ H _ wd sl (q.bind λu p S1 α1 H1 e1 x1 w1 d1 q1=>?_)⟩;cases d1
 cases u with
 |true=>rw[iP rfl]at q1 ⊢; exact fb α1 ρ S1 σ H1 _ w1 (sl.ext x1) (q1.shift x1)
 |false=>rw[iN xF0]at q1 ⊢; exact(q1.shift x1).here w1 rfl
def Um(ha:tE X W a tf)(hb:Kj X W (.BoolOp .Or (b::es) pos) tg):Kj X W (.BoolOp .Or (a::b::es) pos) (λρ S=>(tf ρ S).bind λk S1=>if k=true then .ok true S1 else tg ρ S1):=by
 obtain⟨ta,ha,fa⟩:=ha;obtain⟨tb,hb,fb⟩:=hb;refine⟨_,Ta ha hb,λα ρ S σ H Q wd sl q=>fa α ρ S σ H _ wd sl (q.bind λu p S1 α1 H1 e1 x1 w1 d1 q1=>?_)⟩;cases d1
 cases u with
 |true=>rw[iP rfl]at q1 ⊢; exact(q1.shift x1).here w1 rfl
 |false=>rw[iN xF0]at q1 ⊢; exact fb α1 ρ S1 σ H1 _ w1 (sl.ext x1) (q1.shift x1)
def Uo(h:Kj X W a tf):tE X W a tf:=let ⟨t,h,k⟩:=h;⟨t,h.pt,k⟩
theorem Nx(ha:tE X W a tf):tE X W (.UnaryOp .Not a pos) (λρ S=>(tf ρ S).bind λk S1=>.ok (!k) S1):=by obtain⟨ta,ha,fa⟩:=ha;refine⟨_,Lr ha,λα ρ S σ H Q wd sl q=>fa α ρ S σ H _ wd sl (q.bind λu p S1 α1 H1 e1 x1 w1 d1 q1=>?_)⟩;cases d1;exact(q1.shift x1).here w1 rfl
end
section
variable{K:Yj}{H0:Hp}
def zD:List Er->Sto->List MV×Sto
 |[],S=>([],S)
 |.val d::rs,S=>((d::(zD rs S).1),(zD rs S).2)
 |.new xs::rs,S=>((.loc S.length::(zD rs (S++[.lst xs])).1),(zD rs (S++[.lst xs])).2)
def ArgsE.grow{H0:Hp}{α:Ya}{H:Hp}{b:Addr}{rs:List Er}{vs:List V}(q:ArgsE K H0 α H rs vs)(n:b∉rQ rs vs):ArgsE K H0 (α++[b]) H rs vs:=by
 induction q with
 |nil=>exact .nil
 |@cons r v rs vs a m l ih=>
  cases r with
  |val d=>exact .cons ⟨Den.ex0 (Ex0.grow α [b] H) a.1,trivial⟩ m (ih (by simpa [rQ]using n))
  |new ds=>
   obtain⟨⟨c,us,rfl,h1,h2,h3⟩,h4⟩:=a;have n':b∉c::rQ rs vs:=n;refine .cons ⟨⟨c,us,rfl,h1,λz=>?_,h3.ex0 (Ex0.grow α [b] H)⟩,h4⟩ m (ih λz=>n' (mO _ z));rcases List.mem_append.mp z with z|z
   .exact h2 z
   .exact n' (by rw[mS.mp z];exact mF0)
theorem pX{g:Gm}{H0:Hp}{α0:Ya}{H:Hp}: ∀{rs:List Er}{vs:List V}{α:Ya}{S:Sto},Wd g α S H->Ext α0 H0 α H->ArgsE g.K H0 α H rs vs->
  ∃α',Ext α0 H0 α' H/\Ex0 α H α' H/\Wd g α' (zD rs S).2 H/\DenL g.K α' H (zD rs S).1 vs
 |_,_,α,S,w,x,.nil=>⟨α,x,⟨⟨[],by simp⟩,λ_ _ h=>h,λ_ _ _ h=>h⟩,w,zW⟩
 |.val d::rs,v::vs,α,S,w,x,.cons a n l=>by obtain⟨α',x',y',w',l'⟩:=pX w x l;exact⟨α',x',y',w',zM (Den.ex0 y' a.1) l'⟩
 |.new ds::rs,v::vs,α,S,w,x,.cons a n l=>by
  obtain⟨⟨c,us,rfl,h1,h2,h3⟩,h4⟩:=a;obtain⟨α',x',y',w',l'⟩:=pX (w.enter h1 h2 h3) (w.enterx x (h4 c rfl) h2) (l.grow (n ds c rfl rfl));refine⟨α',x',⟨?_,y'.tup,y'.frz⟩,w',zM (oE (y'.at ?_)) l'⟩
  .obtain⟨t,e⟩:=y'.pre;exact⟨[c]++t,by rw[e,aA]⟩
  .rw[<-w.len,getElem?_append_right q9,sub_self];rfl
theorem vD: ∀(rs:List Er)(S:Sto),(zD rs S).1.length=rs.length
 |[],S=>rfl
 |.val d::rs,S=>by show(d::(zD rs S).1).length=_;rw[lC,vD rs S];rfl
 |.new ds::rs,S=>by show(_::(zD rs _).1).length=_;rw[lC,vD rs _];rfl
end
section
variable{X:Cx}{W:XW}{a b c e:Expr}{es:Yi}{f g h:Rho->Sto->R Er}{af:Rho->Sto->R (List Er)}{pos:Pos}
def Ny:DM X W [] (λ_ S=>.ok [] S):=⟨_,Mm,λα ρ S σ H Q wd sl q=>q.here wd .nil⟩
def Fi(ha:zO X W a f)(hr:DM X W es af)(hs:Q0 X a es:=by rfl):DM X W (a::es) (λρ S=>(f ρ S).bind λp S1=>(af ρ S1).bind λps S2=>.ok (p::ps) S2):=by
 obtain⟨ta,ha,fa⟩:=ha;obtain⟨tr,hr,fr⟩:=hr;refine⟨_,Ee ha hr hs,λα ρ S σ H Q wd sl q=>fa α ρ S σ H _ wd sl (q.bind λu p S1 α1 H1 e1 x1 w1 d1 q1=>fr α1 ρ S1 σ H1 _ w1 (sl.ext x1) ?_)⟩;have q1':Post X.g W α H ((af ρ S1).bind λps S2=>.ok (p::ps) S2) Q:=q1
 cases z:af ρ S1 with
 |ok ps S2=>
  rw[z]at q1';intro vs α2 H2 x2 w2 d2;refine q1' (u::vs) α2 H2 (x1.trans x2) w2 (ArgsE.cons (DenE.ext x2 d1) (λds b er eu hb=>?_) (ArgsE.back (λb h=>x1.free h) d2));subst er eu;obtain⟨⟨c,us,ec,h1,_⟩,_⟩:=d1;cases ec;have:=ArgsE.nones d2 _ hb;rw[h1]at this;cases this
 |exc c fs S2=>rw[z]at q1';exact λα2 H2 x2 w2=>q1' α2 H2 (x1.trans x2) w2
 |no=>rw[z]at q1';exact q1'
def nU(rs:List Er)(S:Sto):R Er:=if rs.length<=sizeLine then .ok (.val (.tup (zD rs S).1)) (zD rs S).2 else .no
def jW(rs:List Er)(S:Sto):R Er:=if rs.length<=sizeLine then .ok (.new (zD rs S).1) (zD rs S).2 else .no
def Nz{x1}(h:DM X W es af):zO X W (.Tuple es x1 pos) (λρ S=>(af ρ S).bind nU):=by
 obtain⟨t,h,k⟩:=h;refine⟨_,Mn h,λα ρ S σ H Q wd sl q=>k α ρ S σ H _ wd sl (q.bind λvs rs S1 α1 H1 e1 x1 w1 d1 q1=>?_)⟩;have q1':Post X.g W α H (if rs.length<=sizeLine then R.ok (Er.val (.tup (zD rs S1).1)) (zD rs S1).2 else R.no) Q:=q1;split at q1'
 .rename_i hz;obtain⟨α2,x2,y2,w2,l2⟩:=pX w1 x1 d1;exact⟨by rw[ArgsE.length d1];exact hz,λp hp=>(q1'.shift x2).newt w2 hp l2⟩
 .exact q1'.elim
def Oa(h:DM X W es af):zO X W (.List es pos) (λρ S=>(af ρ S).bind jW):=by
 obtain⟨t,h,k⟩:=h;refine⟨_,Mo h,λα ρ S σ H Q wd sl q=>k α ρ S σ H _ wd sl (q.bind λvs rs S1 α1 H1 e1 x1 w1 d1 q1=>?_)⟩;have q1':Post X.g W α H (if rs.length<=sizeLine then R.ok (Er.new (zD rs S1).1) (zD rs S1).2 else R.no) Q:=q1;split at q1'
 .rename_i hz;obtain⟨α2,x2,y2,w2,l2⟩:=pX w1 x1 d1;exact⟨by rw[ArgsE.length d1];exact hz,λp hp=>(q1'.shift x2).newl w2 hp l2⟩
 .exact q1'.elim
inductive ArgsX(K:Yj)(α:Ya)(H:Hp):List Er->List V->Prop
 |nil:ArgsX K α H [] []
 |cons {r v rs vs}:DenX K α H r v->ArgsX K α H rs vs->ArgsX K α H (r::rs) (v::vs)
theorem ArgsE.x{K:Yj}{H0:Hp}{α:Ya}{H:Hp}: ∀{rs vs},ArgsE K H0 α H rs vs->ArgsX K α H rs vs
 |_,_,.nil=>.nil
 |_,_,.cons a _ l=>.cons a.1 (ArgsE.x l)
def rR(X:Cx)(W:XW)(r:List V->Hp->VK->Prop)(F:List Er->Sto->R Er):Prop:= ∀rs vs α S H Q,Wd X.g α S H->ArgsX X.K α H rs vs->Post X.g W α H (F rs S) Q->r vs H Q
def MP{id:String}{r:List V->Hp->VK->Prop}{F:List Er->Sto->R Er}{x:Str}{p:Pos}(hc:CallR X (.builtin id) r)(hF:rR X W r F)(hg:Gl X x)(hm:X.mg x=none)(hv:bootBuiltins x=some (.builtin id))(ha:DM X W (e::es) af)
  (hn:x≠"__name__":=by decide) (hdb:(x==("__debug__":Str))=false:=by decide)
  (he:Q0 X e es:=by rfl) (hpl:Q1 X pos es:=by rfl):zO X W (.Call (.Name x p) (e::es) [] pos) (λρ S=>(af ρ S).bind F):=by
 obtain⟨t,ha,k⟩:=ha;exact⟨_,XZ hc hg hm hv ha hn hdb he hpl,λα ρ S σ H Q wd sl q=>k α ρ S σ H _ wd sl (q.bind λvs rs S1 α1 H1 e1 x1 w1 d1 q1=>hF rs vs α1 S1 H1 Q w1 (ArgsE.x d1) (q1.shift x1))⟩
def eU{T:String}{r:List V->Hp->VK->Prop}{F:List Er->Sto->R Er}{x:Str}{p:Pos}(hc:CallR X (.type T) r)(hF:rR X W r F)(hg:Gl X x)(hm:X.mg x=none)(hv:bootBuiltins x=some (.type T))(ha:DM X W (e::es) af)
  (hn:x≠"__name__":=by decide) (hdb:(x==("__debug__":Str))=false:=by decide)
  (he:Q0 X e es:=by rfl) (hpl:Q1 X pos es:=by rfl):zO X W (.Call (.Name x p) (e::es) [] pos) (λρ S=>(af ρ S).bind F):=by
 obtain⟨t,ha,k⟩:=ha;exact⟨_,UZ hc hg hm hv ha hn hdb he hpl,λα ρ S σ H Q wd sl q=>k α ρ S σ H _ wd sl (q.bind λvs rs S1 α1 H1 e1 x1 w1 d1 q1=>hF rs vs α1 S1 H1 Q w1 (ArgsE.x d1) (q1.shift x1))⟩
def IZ(X:Cx)(W:XW)(r:V->List V->Hp->VK->Prop)(F:Er->List Er->Sto->R Er):Prop:= ∀p rs x vs α S H0 H Q α0,Wd X.g α S H->Ext α0 H0 α H->DenX X.K α H p x->ArgsE X.K H0 α H rs vs->Post X.g W α0 H0 (F p rs S) Q->r x vs H Q
def TyM(X:Cx)(T:String)(ty:Er->Sto->Bool):Prop:= ∀p x α S H,Wd X.g α S H->DenX X.K α H p x->ty p S=true->Xa X.K T x H
def SE{T:String}{name:Str}{id:String}{r:V->List V->Hp->VK->Prop}{F:Er->List Er->Sto->R Er}{ty:Er->Sto->Bool}{apos:Pos}(pa:PlainAttrs T)(slot:Slot T name id)(hty:typeOf (.builtin id)=pure (.type "method_descriptor"))(hm:YC X id r)(hF:IZ X W r F)(hT:TyM X T ty)
  (ho:zO X W a f) (ha:DM X W (e::es) af)
  (hbase:attributeBase a name X.env (eval a X.env)=eval a X.env:=by rfl)
  (hfew:((backTo pos (starEach (e::es) X.env)).all (λx=>!x.1)&&(backToKw pos (keywordEach [] X.env)).all (λx=>x.1.isSome)
   &&decide ((e::es).length+([]:List Keyword).length+(if([]:List Keyword).isEmpty then 0 else 1)<30))=true:=by rfl)
  (hline:(apos.endLine==pos.line)=true:=by rfl) (hs:Q0 X e es:=by rfl) (hplain:Q1 X pos es:=by rfl):
  zO X W (.Call (.Attribute a name apos) (e::es) [] pos) (λρ S=>(f ρ S).bind λp S1=>if ty p S1=true then(af ρ S1).bind λrs S2=>F p rs S2 else .no):=by
 obtain⟨to,ho,fo⟩:=ho;obtain⟨t,ha,k⟩:=ha;refine⟨_,Uh pa slot hty hm ho ha hbase hfew hline hs hplain,λα ρ S σ H Q wd sl q=>fo α ρ S σ H _ wd sl (q.bind λu p S1 α1 H1 e1 x1 w1 d1 q1=>?_)⟩;split at q1
 .rename_i hz;exact⟨hT p u α1 S1 H1 w1 d1.1 hz,k α1 ρ S1 σ H1 _ w1 (sl.ext x1) ((q1.shift x1).bind λvs rs S2 α2 H2 e2 x2 w2 d2 q2=>hF p rs u vs α2 S2 H1 H2 Q α1 w2 x2 (d1.1.ext x2) d2 q2)⟩
 .exact q1.elim
def YV{T:String}{name:Str}{id:String}{r:V->List V->Hp->VK->Prop}{F:Er->List Er->Sto->R Er}{ty:Er->Sto->Bool}{apos:Pos}(pa:PlainAttrs T)(slot:Slot T name id)(hty:typeOf (.builtin id)=pure (.type "method_descriptor"))(hm:YC X id r)(hF:IZ X W r F)(hT:TyM X T ty)
  (ho:zO X W a f) (hbase:attributeBase a name X.env (eval a X.env)=eval a X.env:=by rfl) (hline:(apos.endLine==pos.line)=true:=by rfl):
  zO X W (.Call (.Attribute a name apos) [] [] pos) (λρ S=>(f ρ S).bind λp S1=>if ty p S1=true then F p [] S1 else .no):=by
 obtain⟨to,ho,fo⟩:=ho;refine⟨_,Mw pa slot hty hm ho hbase hline,λα ρ S σ H Q wd sl q=>fo α ρ S σ H _ wd sl (q.bind λu p S1 α1 H1 e1 x1 w1 d1 q1=>?_)⟩;split at q1
 .rename_i hz;exact⟨hT p u α1 S1 H1 w1 d1.1 hz,hF p [] u [] α1 S1 H1 H1 Q α1 w1 (Ext.refl _ _) d1.1 .nil (q1.shift x1)⟩
 .exact q1.elim
def Fj:Fc X W none (λ_ S=>.ok none S):=⟨_,Eh,λα ρ S σ H Q wd sl q=>q.here wd rfl⟩
def Ob:Er->Sto->R (Option Int)
 |.val (.int i),S=>.ok (some i) S
 |_,_=>.no
def Fk(ha:zO X W a f):Fc X W (some a) (λρ S=>(f ρ S).bind Ob):=by
 obtain⟨ta,ha,fa⟩:=ha;refine⟨_,Ei ha,λα ρ S σ H Q wd sl q=>fa α ρ S σ H _ wd sl (q.bind λu p S1 α1 H1 e1 x1 w1 d1 q1=>?_)⟩;unfold Ob at q1;split at q1
 .exact⟨_,yS d1.1,(q1.shift x1).here w1 rfl⟩
 .exact q1.elim
def Sl3(X:Cx)(W:XW)(r:V->Option Int->Option Int->Hp->VK->Prop)(F:Er->Option Int->Option Int->Sto->R Er):Prop:= ∀p lo hi x α S H Q,Wd X.g α S H->DenX X.K α H p x->Post X.g W α H (F p lo hi S) Q->r x lo hi H Q
def YW{lo hi:Option Expr}{r:V->Option Int->Option Int->Hp->VK->Prop}{F:Er->Option Int->Option Int->Sto->R Er}{lf hf:Rho->Sto->R (Option Int)}{p2:Pos}(hr:SlR X r)(hF:Sl3 X W r F)(ha:zO X W a f)(hl:Fc X W lo lf)(hh:Fc X W hi hf):
  zO X W (.Subscript a (.Slice lo hi none p2) pos) (λρ S=>(f ρ S).bind λp S1=>(lf ρ S1).bind λl S2=>(hf ρ S2).bind λu S3=>F p l u S3):=by
 obtain⟨ta,ha,fa⟩:=ha;obtain⟨tl,hl,fl⟩:=hl;obtain⟨th,hh,fh⟩:=hh
 refine⟨_,YB hr ha hl hh,λα ρ S σ H Q wd sl q=>fa α ρ S σ H _ wd sl (q.bind λu p S1 α1 H1 e1 x1 w1 d1 q1=>fl α1 ρ S1 σ H1 _ w1 (sl.ext x1) ((q1.shift x1).bind λu2 l S2 α2 H2 e2 x2 w2 d2 q2=>
  fh α2 ρ S2 σ H2 _ w2 ((sl.ext x1).ext x2) ((q2.shift x2).bind λu3 m S3 α3 H3 e3 x3 w3 d3 q3=>?_)))⟩
 cases d2;cases d3;exact hF p u2 u3 u α3 S3 H3 Q w3 ((d1.1.ext x2).ext x3) (q3.shift x3)
end
inductive Fl where
 |next (ρ:Rho)|ret (r:Er)|brk (ρ:Rho)|cont (ρ:Rho)
abbrev AX:=Rho->Sto->R Er
abbrev AY:=Rho->Sto->R Fl
abbrev AZ:=Rho->Sto->R Bool
def PostS(g:Gm)(W:XW)(α:Ya)(H:Hp)(D:Ends):R Fl->Prop
 |.ok (.next ρ) S=> ∀σ α' H',Ext α H α' H'->Wd g α' S H'->Slots g.K α' H' ρ σ->D.nx σ H'
 |.ok (.ret r) S=> ∀v α' H',Ext α H α' H'->Wd g α' S H'->DenE g.K H α' H' r v->D.rt v H'
 |.ok (.brk ρ) S=> ∀σ α' H',Ext α H α' H'->Wd g α' S H'->Slots g.K α' H' ρ σ->D.bk σ H'
 |.ok (.cont ρ) S=> ∀σ α' H',Ext α H α' H'->Wd g α' S H'->Slots g.K α' H' ρ σ->D.ct σ H'
 |.exc c fs S=> ∀α' H',Ext α H α' H'->Wd g α' S H'->W c fs S α' H'
 |.no=>False
section
variable{g:Gm}{W:XW}{α α':Ya}{H H':Hp}{D D':Ends}
def PostS.shift(x:Ext α H α' H'): ∀{m:R Fl},PostS g W α H D m->PostS g W α' H' D m
 |.ok (.next ρ) S,q=>λσ α2 H2 x2 w2 s2=>q σ α2 H2 (x.trans x2) w2 s2
 |.ok (.ret r) S,q=>λv α2 H2 x2 w2 d2=>q v α2 H2 (x.trans x2) w2 (d2.back λb h=>x.free h)
 |.ok (.brk ρ) S,q=>λσ α2 H2 x2 w2 s2=>q σ α2 H2 (x.trans x2) w2 s2
 |.ok (.cont ρ) S,q=>λσ α2 H2 x2 w2 s2=>q σ α2 H2 (x.trans x2) w2 s2
 |.exc c fs S,q=>λα2 H2 x2 w2=>q α2 H2 (x.trans x2) w2
 |.no,q=>q
def PostS.expr{β τ:Type}[Dn β τ]{m:R β}{k:β->Sto->R Fl}{Q':τ->Hp->Prop}(q:PostS g W α H D (m.bind k))
  (f: ∀u b S1 α1 H1,m=.ok b S1->Ext α H α1 H1->Wd g α1 S1 H1->Dn.d g H α1 S1 H1 b u->PostS g W α H D (k b S1)->Q' u H1):Post g W α H m Q':=by
 cases m with
 |ok b S=>exact λu α1 H1 x w d=>f u b S α1 H1 rfl x w d q
 |exc c fs S=>exact q
 |no=>exact q
def PostS.stmt{m:R Fl}{k:Fl->Sto->R Fl}(q:PostS g W α H D (m.bind k))
  (hn: ∀ρ S σ α1 H1,m=.ok (.next ρ) S->Ext α H α1 H1->Wd g α1 S H1->Slots g.K α1 H1 ρ σ->PostS g W α H D (k (.next ρ) S)->D'.nx σ H1)
  (hr: ∀r S v α1 H1,m=.ok (.ret r) S->Ext α H α1 H1->Wd g α1 S H1->DenE g.K H α1 H1 r v->PostS g W α H D (k (.ret r) S)->D'.rt v H1)
  (hb: ∀ρ S σ α1 H1,m=.ok (.brk ρ) S->Ext α H α1 H1->Wd g α1 S H1->Slots g.K α1 H1 ρ σ->PostS g W α H D (k (.brk ρ) S)->D'.bk σ H1)
  (hc: ∀ρ S σ α1 H1,m=.ok (.cont ρ) S->Ext α H α1 H1->Wd g α1 S H1->Slots g.K α1 H1 ρ σ->PostS g W α H D (k (.cont ρ) S)->D'.ct σ H1):PostS g W α H D' m:=by
 cases m with
 |ok fl S=>
  cases fl with
  |next ρ=>exact λσ α1 H1 x w s=>hn ρ S σ α1 H1 rfl x w s q
  |ret r=>exact λv α1 H1 x w d=>hr r S v α1 H1 rfl x w d q
  |brk ρ=>exact λσ α1 H1 x w s=>hb ρ S σ α1 H1 rfl x w s q
  |cont ρ=>exact λσ α1 H1 x w s=>hc ρ S σ α1 H1 rfl x w s q
 |exc c fs S=>exact q
 |no=>exact q
end
def MQ(X:Cx)(W:XW)(st:Stmt)(F:AY):Prop:=
 ∃t,PS X st t/\ ∀α ρ S σ H D,Wd X.g α S H->Slots X.K α H ρ σ->PostS X.g W α H D (F ρ S)->t D σ H
def vE(X:Cx)(W:XW)(st:List Stmt)(F:AY):Prop:=
 ∃t,PSs X st t/\ ∀α ρ S σ H D,Wd X.g α S H->Slots X.K α H ρ σ->PostS X.g W α H D (F ρ S)->t D σ H
def zI(F G:AY):AY:=λρ S=>(F ρ S).bind λfl S1=>match fl with
 |.next ρ'=>G ρ' S1
 |.ret r=>.ok (.ret r) S1
 |.brk ρ'=>.ok (.brk ρ') S1
 |.cont ρ'=>.ok (.cont ρ') S1
section
variable{X:Cx}{W:XW}{st:Stmt}{sts as bs:List Stmt}{F G:AY}{f g:AX}{tf:AZ}{e c:Expr}{pos:Pos}
def Oc:vE X W [] (λρ S=>.ok (.next ρ) S):=⟨_,Dv,λα ρ S σ H D wd sl q=>q σ α H (Ext.refl α H) wd sl⟩
def QE(h:MQ X W st F):vE X W [st] F:=let ⟨t,h,k⟩:=h;⟨t,Dw h,k⟩
def JA(h1:MQ X W st F)(h2:vE X W sts G):vE X W (st::sts) (zI F G):=by
 obtain⟨t,h1,k1⟩:=h1;obtain⟨u,h2,k2⟩:=h2;refine⟨_,XQ h1 h2,λα ρ S σ H D wd sl q=>k1 α ρ S σ H _ wd sl (q.stmt ?_ ?_ ?_ ?_)⟩
 .intro ρ1 S1 σ1 α1 H1 e x1 w1 s1 q1;exact k2 α1 ρ1 S1 σ1 H1 D w1 s1 (PostS.shift x1 q1)
 .intro r S1 v α1 H1 e x1 w1 d1 q1;exact q1 v α1 H1 x1 w1 d1
 .intro ρ1 S1 σ1 α1 H1 e x1 w1 s1 q1;exact q1 σ1 α1 H1 x1 w1 s1
 .intro ρ1 S1 σ1 α1 H1 e x1 w1 s1 q1;exact q1 σ1 α1 H1 x1 w1 s1
def Od(he:zO X W e f):MQ X W (.Return (some e) pos) (λρ S=>(f ρ S).bind λr S1=>.ok (.ret r) S1):=by obtain⟨t,he,k⟩:=he;exact⟨_,Lw he,λα ρ S σ H D wd sl q=>k α ρ S σ H _ wd sl (q.expr λu r S1 α1 H1 e x1 w1 d1 q1=>q1 u α1 H1 x1 w1 d1)⟩
def Fm(he:zO X W e f)(hs:swapsWith e none pos.line X.env=pure false:=by rfl):MQ X W (.Expr e pos) (λρ S=>(f ρ S).bind λ_ S1=>.ok (.next ρ) S1):=by obtain⟨t,he,k⟩:=he;exact⟨_,Dx he hs,λα ρ S σ H D wd sl q=>k α ρ S σ H _ wd sl (q.expr λu r S1 α1 H1 e x1 w1 d1 q1=>q1 σ α1 H1 x1 w1 (sl.ext x1))⟩
def Uq(hc:tE X W c tf)(ha:vE X W as F)(hb:vE X W bs G):MQ X W (.If c as bs pos) (λρ S=>(tf ρ S).bind λk S1=>if k=true then F ρ S1 else G ρ S1):=by
 obtain⟨tc,hc,kc⟩:=hc;obtain⟨ta,ha,ka⟩:=ha;obtain⟨tb,hb,kb⟩:=hb;refine⟨_,Te hc ha hb,λα ρ S σ H D wd sl q=>kc α ρ S σ H _ wd sl (q.expr λu p S1 α1 H1 e x1 w1 d1 q1=>?_)⟩;cases d1
 cases u with
 |true=>rw[iP rfl]at q1 ⊢; exact ka α1 ρ S1 σ H1 D w1 (sl.ext x1) (PostS.shift x1 q1)
 |false=>rw[iN xF0]at q1 ⊢; exact kb α1 ρ S1 σ H1 D w1 (sl.ext x1) (PostS.shift x1 q1)
instance:Dn Rho St:=⟨λg _ α' _ H' ρ σ=>Slots g.K α' H' ρ σ,λ_ q=>q⟩
def VL(X:Cx)(W:XW)(tg:Expr)(gf:MV->Rho->Sto->R Rho):Prop:=
 ∃t,PG X tg t/\ ∀α ρ S σ H d v Q,Wd X.g α S H->Slots X.K α H ρ σ->Den X.K α H d v->Post X.g W α H (gf d ρ S) Q->t v σ H Q
def YX(X:Cx)(W:XW)(tgs:Yi)(gf:List MV->Rho->Sto->R Rho):Prop:=
 ∃t,Sk X tgs t/\ ∀α ρ S σ H ds vs Q,Wd X.g α S H->Slots X.K α H ρ σ->DenL X.K α H ds vs->Post X.g W α H (gf ds ρ S) Q->t vs σ H Q
def zV(i:Nat):MV->Rho->Sto->R Rho:=λd ρ S=>.ok (ρ.set i (some d)) S
def Fn(i:Nat){x:Str}(hN:X.N.Nodup)(hi:X.N[i]? =some x:=by rfl)(hx:Loc X.env.scope x:=by first |exact Or.inl rfl|exact Or.inr rfl)(hf:Q2 X x:=by first |exact .inl rfl|exact .inr rfl|assumption):
  VL X W (.Name x pos) (zV i):=⟨_,RU hN hi hx hf,λα ρ S σ H d v Q wd sl de q=>Post.here (b:=ρ.set i (some d)) q wd (sl.set de)⟩
def zZ:List MV->Rho->Sto->R Rho
 |[],ρ,S=>.ok ρ S
 |_,_,_=>.no
def zA(g1:MV->Rho->Sto->R Rho)(g2:List MV->Rho->Sto->R Rho):List MV->Rho->Sto->R Rho
 |d::ds,ρ,S=>(g1 d ρ S).bind λρ1 S1=>g2 ds ρ1 S1
 |_,_,_=>.no
def Oe:YX X W [] zZ:=⟨_,RV,λα ρ S σ H ds vs Q wd sl de q=>by
 cases ds with
 |nil=>exact⟨de.isnil,Post.here (b:=ρ) q wd sl⟩
 |cons d ds=>exact q.elim⟩
def Fo{es:Yi}{g1:MV->Rho->Sto->R Rho}{g2:List MV->Rho->Sto->R Rho}(h1:VL X W e g1)(h2:YX X W es g2)(hs:(assignEach (e::es) X.env).map (·.2)=assign e X.env::(assignEach es X.env).map (·.2):=by rfl):YX X W (e::es) (zA g1 g2):=by
 obtain⟨t1,h1,k1⟩:=h1;obtain⟨t2,h2,k2⟩:=h2;refine⟨_,MB h1 h2 hs,λα ρ S σ H ds vs Q wd sl de q=>?_⟩
 cases ds with
 |nil=>exact q.elim
 |cons d ds=>
  obtain⟨v,r,rfl,a,l⟩:=de.uncons;refine⟨v,r,rfl,k1 α ρ S σ H d v _ wd sl a (Post.bind q λu p S1 α1 H1 e x1 w1 d1 q1=>k2 α1 p S1 u H1 ds r Q w1 d1 (l.ext x1) (q1.shift x1))⟩
def fG(n:Nat)(g2:List MV->Rho->Sto->R Rho):MV->Rho->Sto->R Rho
 |.tup ds,ρ,S=>if ds.length=n then g2 ds ρ S else .no
 |_,_,_=>.no
def Of{es:Yi}{k n:Nat}{g2:List MV->Rho->Sto->R Rho}(hc:X.calm=true)(h:YX X W es g2)
  (hn:(assignEach es X.env).length=n:=by rfl) (hst:(assignEach es X.env).findIdx? (·.1)=none:=by rfl):VL X W (.Tuple es k pos) (fG n g2):=by
 obtain⟨t,h,k⟩:=h;refine⟨_,XS hc h hn hst,λα ρ S σ H d v Q wd sl de q=>?_⟩;unfold fG at q;split at q
 .split at q
  .rename_i hl;obtain⟨a,vs,rfl,s,l⟩:=yN de;exact⟨a,vs,rfl,s,by rw[l.length];exact hl,k α ρ S σ H _ vs Q wd sl l q⟩
  .exact q.elim
 .exact q.elim
def wV(r:Er)(S:Sto):R MV:=match r with
 |.val d=>.ok d S
 |.new ds=>.ok (.loc S.length) (S++[.lst ds])
def cR{g:Gm}{H0:Hp}{α0 α:Ya}{H:Hp}{S:Sto}{r:Er}{v:V}(w:Wd g α S H)(x:Ext α0 H0 α H)(d:DenE g.K H0 α H r v):
  ∃d' S' α',wV r S=.ok d' S'/\Ext α0 H0 α' H/\Ex0 α H α' H/\Wd g α' S' H/\Den g.K α' H d' v:=by
 cases r with
 |val d'=>exact⟨d',S,α,rfl,x,⟨⟨[],by simp⟩,λ_ _ h=>h,λ_ _ _ h=>h⟩,w,d.1⟩
 |new ds=>
  obtain⟨⟨c,us,rfl,h1,h2,h3⟩,h4⟩:=d;exact⟨.loc S.length,S++[.lst ds],α++[c],rfl,w.enterx x (h4 c rfl) h2,Ex0.grow α [c] H,w.enter h1 h2 h3,oE (by rw[<-w.len,getElem?_append_right q9,sub_self];rfl)⟩
def FQ(ρ:Rho)(i:Nat)(r:Er)(S:Sto):R Fl:=(wV r S).bind λd S1=>.ok (.next (ρ.set i (some d))) S1
def Og(i:Nat){x:Str}{pos':Pos}(hN:X.N.Nodup)(he:zO X W e f)(hi:X.N[i]? =some x:=by rfl)(hx:Loc X.env.scope x:=by first |exact Or.inl rfl|exact Or.inr rfl)
  (hs:swapsWith e (some (.Name x pos')) pos.line X.env=pure false:=by rfl) (hf:Q2 X x:=by first |exact .inl rfl|exact .inr rfl|assumption):
  MQ X W (.Assign [.Name x pos'] e pos) (λρ S=>(f ρ S).bind (FQ ρ i)):=by
 obtain⟨t,he,k⟩:=he;refine⟨_,Ma hN hi hx he hs hf,λα ρ S σ H D wd sl q=>k α ρ S σ H _ wd sl (q.expr λu r S1 α1 H1 e x1 w1 d1 q1=>?_)⟩;obtain⟨d',S',α',e1,x',y',w',de⟩:=cR w1 x1 d1;unfold FQ at q1;rw[e1]at q1;exact q1 _ α' H1 x' w' (((sl.ext x1).ex0 y').set de)
def Fp(gf:MV->Rho->Sto->R Rho)(ρ:Rho)(r:Er)(S:Sto):R Fl:=(wV r S).bind λd S1=>(gf d ρ S1).bind λρ' S2=>.ok (.next ρ') S2
def Oh{tg:Expr}{gf:MV->Rho->Sto->R Rho}(he:zO X W e f)(hg:VL X W tg gf)(hs:swapsWithSole [tg] e pos.line X.env=pure false:=by rfl)(hw:swappedStores [tg] e X.env=pure none:=by rfl)
  (h1:(assignEach [tg] X.env).map (·.2)=[assign tg X.env]:=by rfl):MQ X W (.Assign [tg] e pos) (λρ S=>(f ρ S).bind (Fp gf ρ)):=by
 obtain⟨t,he,k⟩:=he;obtain⟨tg',hg,kg⟩:=hg;refine⟨_,Lz he hg hs hw h1,λα ρ S σ H D wd sl q=>k α ρ S σ H _ wd sl (q.expr λu r S1 α1 H1 e x1 w1 d1 q1=>?_)⟩;obtain⟨d',S',α',e1,x',y',w',de⟩:=cR w1 x1 d1;unfold Fp at q1;rw[e1]at q1;have q1:PostS X.g W α H D ((gf d' ρ S').bind λρ' S2=>.ok (.next ρ') S2):=q1;exact kg α' ρ S' σ H1 d' u _ w' ((sl.ext x1).ex0 y') de ((PostS.shift x' q1).expr λσ2 ρ2 S2 α2 H2 e2 x2 w2 s2 q2=>q2 σ2 α2 H2 x2 w2 s2)
structure Wk where
 ds:List MV
 gs:List (Nat×List MV)
def stay(gs:Zd)(S:Sto):Prop:= ∀p∈gs,S[p.1]? =some (.lst p.2)
def Xc(g:Gm)(J:It)(P:List Addr->Sto->Hp->Prop)(ds:Za):Prop:= ∀i α S H,P α S H->Wd g α S H->(i<ds.length->J.go i H/\ ∀x H',J.yld i H x H'->Ext α H α H'/\Wd g α S H'/\P α S H'/\ ∃d,ds[i]? =some d/\Den g.K α H' d x)/\(ds.length<=i->J.stop i H)
structure WkD(g:Gm)(α:Ya)(S:Sto)(H:Hp)(k:Wk)(J:It)(P:List Addr->Sto->Hp->Prop):Prop where
 it:Xc g J P k.ds
 here:P α S H
 stays: ∀α1 S1 H1 α2 S2 H2,P α1 S1 H1->Ext α1 H1 α2 H2->Wd g α2 S2 H2->stay k.gs S2->P α2 S2 H2
 st:stay k.gs S
instance:Dn Wk It:=⟨λg _ α S H k J=> ∃P,WkD g α S H k J P,λ_ q=>q⟩
abbrev GV(X:Cx)(W:XW)(tg iter:Expr)(f:Rho->Sto->R Wk):Prop:=Jd X W (PI X tg iter) f
variable{tg iter:Expr}
def tL{a:Addr}{ds:Za}:Xc X.g (Mc X.K a) (λα S H=> ∃vs,SqL X.K H a vs/\DenL X.K α H ds vs) ds:=by
 intro i α S H ⟨vs,s,l⟩ w;have hl:=l.length;refine⟨λhi=>?_,λhi=>⟨vs,s,by omega⟩⟩;have hv:i<vs.length:=by omega
 refine⟨⟨vs,vs[i],s,gE hv⟩,λx H' y=>?_⟩;obtain⟨rfl,y⟩:=y;obtain⟨d,h1,h2⟩:=l.get (y vs s);exact⟨Ext.refl _ _,w,⟨vs,s,l⟩,d,h1,h2⟩
def SF{a:Addr}{ds:Za}:Xc X.g (Ti X.K a) (λα S H=> ∃vs,SqT X.K H a vs/\DenL X.K α H ds vs) ds:=by
 intro i α S H ⟨vs,s,l⟩ w;have hl:=l.length;refine⟨λhi=>?_,λhi=>⟨vs,s,by omega⟩⟩;have hv:i<vs.length:=by omega
 refine⟨⟨vs,vs[i],s,gE hv⟩,λx H' y=>?_⟩;obtain⟨rfl,y⟩:=y;obtain⟨d,h1,h2⟩:=l.get (y vs s);exact⟨Ext.refl _ _,w,⟨vs,s,l⟩,d,h1,h2⟩
def VM{lo:Int}{n:Nat}:Xc X.g (Tj lo n) (λ_ _ _=>True) ((List.range n).map λk=>.int (lo+(k:Nat))):=by
 intro i α S H _ w;refine⟨λhi=>⟨show i<n by simpa using hi,λv H' y=>?_⟩,λhi=>by show n<=i;simpa using hi⟩;obtain⟨rfl,y⟩:=y;have hi':i<n:=by simpa using hi
 refine⟨Ext.refl _ _,w,trivial,.int (lo+i),by rw[getElem?_map,List.getElem?_range hi'];rfl,?_⟩;rw[y];exact wX _
def AI:Er->Sto->R Wk
 |.new ds,S=>.ok ⟨ds,[]⟩ S
 |.val (.scr ds),S=>.ok ⟨ds,[]⟩ S
 |.val (.loc l),S=>match S[l]? with
  |some (.lst ds)=>.ok ⟨ds,[(l,ds)]⟩ S
  |_=>.no
 |_,_=>.no
def bN{S:Sto}:stay [] S:=λp h=>by simp at h
def Fq(he:zO X W iter f):GV X W tg iter (λρ S=>(f ρ S).bind AI):=by
 obtain⟨t,he,k⟩:=he;refine⟨_,Dz he,λα ρ S σ H Rc wd sl q=>k α ρ S σ H _ wd sl (q.bind λu p S1 α1 H1 e x1 w1 d1 q1=>?_)⟩
 replace q1:=q1.shift x1
 unfold AI at q1;split at q1
 .rename_i S0 ds;obtain⟨⟨b,vs,rfl,h1,h2,h3⟩,h4⟩:=d1;refine⟨b,rfl,⟨vs,.of h1⟩,q1.here (u:=Mc X.K b) w1 ⟨λα2 S2 H2=> ∃vs,SqL X.K H2 b vs/\DenL X.K α2 H2 ds vs/\H2 b=some (.lst vs)/\b∉α2,?_,⟨vs,.of h1,h3,h1,h2⟩,?_,bN⟩⟩
  .intro i α2 S2 H2 ⟨vs2,a1,a2,a3,a4⟩ w2;obtain⟨i1,i2⟩:=tL (X:=X) (a:=b) (ds:=ds) i α2 S2 H2 ⟨vs2,a1,a2⟩ w2;refine⟨λhi=>⟨(i1 hi).1,λx H' y=>?_⟩,i2⟩;obtain⟨j1,j2,j3,j4⟩:=(i1 hi).2 x H' y;obtain⟨rfl,_⟩:=y;exact⟨j1,j2,⟨vs2,a1,a2,a3,a4⟩,j4⟩
  .intro α2 S2 H2 α3 S3 H3 ⟨vs2,a1,a2,a3,a4⟩ x w3 _;exact⟨vs2,.of (x.keep b _ a3 a4),a2.ext x,x.keep b _ a3 a4,x.out a3 a4⟩
 .rename_i S0 ds;obtain⟨a,vs,rfl,s,l⟩:=DL d1.1;refine⟨a,rfl,⟨vs,s.l⟩,q1.here (u:=Mc X.K a) w1 ⟨λα2 S2 H2=> ∃vs,SqL X.K H2 a vs/\DenL X.K α2 H2 ds vs/\SqF X.K H2 a vs,?_,⟨vs,s.l,l,s⟩,?_,bN⟩⟩
  .intro i α2 S2 H2 ⟨vs2,a1,a2,a3⟩ w2;obtain⟨i1,i2⟩:=tL (X:=X) (a:=a) (ds:=ds) i α2 S2 H2 ⟨vs2,a1,a2⟩ w2;refine⟨λhi=>⟨(i1 hi).1,λx H' y=>?_⟩,i2⟩;obtain⟨j1,j2,j3,j4⟩:=(i1 hi).2 x H' y;obtain⟨rfl,_⟩:=y;exact⟨j1,j2,⟨vs2,a1,a2,a3⟩,j4⟩
  .intro α2 S2 H2 α3 S3 H3 ⟨vs2,a1,a2,a3⟩ x w3 _;exact⟨vs2,(x.sqF a3).l,a2.ext x,x.sqF a3⟩
 .rename_i S0 n;obtain⟨a,rfl,h⟩:=fE d1.1;obtain⟨o,h1,h2⟩:=w1.of h;rw[h1]at q1
  cases o with
  |lst ds=>
   obtain⟨vs,h3,l⟩:=h2;refine⟨a,rfl,⟨vs,.of h3⟩,Post.here (b:=(⟨ds,[(n,ds)]⟩:Wk)) q1 (u:=Mc X.K a) w1 ⟨λα2 S2 H2=> ∃vs,SqL X.K H2 a vs/\DenL X.K α2 H2 ds vs/\α2[n]? =some a,?_,⟨vs,.of h3,l,h⟩,?_,?_⟩⟩
   .intro i α2 S2 H2 ⟨vs2,a1,a2,a3⟩ w2;obtain⟨i1,i2⟩:=tL (X:=X) (a:=a) (ds:=ds) i α2 S2 H2 ⟨vs2,a1,a2⟩ w2;refine⟨λhi=>⟨(i1 hi).1,λx H' y=>?_⟩,i2⟩;obtain⟨j1,j2,j3,j4⟩:=(i1 hi).2 x H' y;obtain⟨rfl,_⟩:=y;exact⟨j1,j2,⟨vs2,a1,a2,a3⟩,j4⟩
   .intro α2 S2 H2 α3 S3 H3 ⟨vs2,a1,a2,a3⟩ x w3 hs;have a3':=x.at a3;have:=w3.obj n a _ a3' (hs (n,ds) (by simp));obtain⟨vs3,b1,b2⟩:=this;exact⟨vs3,.of b1,b2,a3'⟩
   .intro p hp;have:p=(n,ds):=by simpa using hp
    subst this;exact h1
  |dic ds=>exact q1.elim
  |ins c fs=>exact q1.elim
  |rcd c fs=>exact q1.elim
  |fdc _=>exact q1.elim
 .exact q1.elim
def XJ:Er->Sto->R Wk
 |.val (.tup ds),S=>.ok ⟨ds,[]⟩ S
 |_,_=>.no
def Oi(he:zO X W iter f):GV X W tg iter (λρ S=>(f ρ S).bind XJ):=by
 obtain⟨t,he,k⟩:=he;refine⟨_,Md he,λα ρ S σ H Rc wd sl q=>k α ρ S σ H _ wd sl (q.bind λu p S1 α1 H1 e x1 w1 d1 q1=>?_)⟩
 replace q1:=q1.shift x1
 unfold XJ at q1;split at q1
 .rename_i S0 ds;obtain⟨a,vs,rfl,s,l⟩:=nT d1.1;exact⟨a,rfl,⟨vs,s⟩,q1.here (u:=Ti X.K a) w1 ⟨_,SF,⟨vs,s,l⟩,λα2 S2 H2 α3 S3 H3 ⟨vs2,a1,a2⟩ x w3 _=>⟨vs2,x.sqT a1,a2.ext x⟩,bN⟩⟩
 .exact q1.elim
def iO:List Er->Sto->R Wk
 |[.val (.int j)],S=>if -(2 ^ 62)<=j/\j<2 ^ 62 then .ok ⟨(List.range j.toNat).map λk=>.int (k:Nat),[]⟩ S else .no
 |_,_=>.no
variable{af:Rho->Sto->R (List Er)}{p:Pos}{a:Expr}
def MS{K:Yj}{H0:Hp}{α:Ya}{H:Hp}{r:Er}{vs:List V}(d:ArgsE K H0 α H [r] vs): ∃v,vs=[v]/\DenX K α H r v:=by
 cases d with
 |cons a n l=>cases l;exact⟨_,rfl,a.1⟩
def Kl{K:Yj}{H0:Hp}{α:Ya}{H:Hp}{r r':Er}{vs:List V}(d:ArgsE K H0 α H [r,r'] vs): ∃v u,vs=[v,u]/\DenX K α H r v/\DenX K α H r' u:=by
 cases d with
 |cons a n l=>obtain⟨u,rfl,l'⟩:=MS l;exact⟨_,u,rfl,a.1,l'⟩
def VN(hg:Gl X "range")(hm:X.mg "range"=none)(ha:DM X W [a] af)(hs:starEach [a] X.env=[(false,eval a X.env)]:=by rfl):GV X W tg (.Call (.Name "range" p) [a] [] pos) (λρ S=>(af ρ S).bind iO):=by
 obtain⟨t,ha,k⟩:=ha;refine⟨_,UU hg hm ha hs,λα ρ S σ H Rc wd sl q=>k α ρ S σ H _ wd sl (q.bind λvs rs S1 α1 H1 e x1 w1 d1 q1=>?_)⟩
 replace q1:=q1.shift x1
 unfold iO at q1;split at q1
 .split at q1
  .rename_i S0 j hj;obtain⟨v,rfl,dv⟩:=MS d1;cases yS dv;have:=VM (X:=X) (lo:=0) (n:=j.toNat);simp only[Int.zero_add]at this;exact⟨j,rfl,hj.1,hj.2,q1.here (u:=Tj 0 j.toNat) w1 ⟨_,this,trivial,λ_ _ _ _ _ _ _ _ _ _=>trivial,bN⟩⟩
  .exact q1.elim
 .exact q1.elim
open Classical in
def xG(gf:MV->Rho->Sto->R Rho)(body:AY)(gs:Zd):List MV->AY
 |[],ρ,S=>.ok (.next ρ) S
 |d::ds,ρ,S=>(gf d ρ S).bind λρ0 S0=>(body ρ0 S0).bind λfl S1=>match fl with
  |.next ρ'=>if stay gs S1 then xG gf body gs ds ρ' S1 else .no
  |.cont ρ'=>if stay gs S1 then xG gf body gs ds ρ' S1 else .no
  |.brk ρ'=>.ok (.next ρ') S1
  |.ret r=>.ok (.ret r) S1
open Classical in
def Oj{itf:Rho->Sto->R Wk}{gf:MV->Rho->Sto->R Rho}(hp:PassesOwn (model X.prog X.w) X.A X.env X.xe)(hc:X.calm=true)(hi:GV X W tg iter itf)(hg:VL X W tg gf)(hb:vE X W as F)
  (hs: ∀y,foldedSetIterable iter X.env y=pure y:=by intro _;rfl):MQ X W (.For tg iter as [] pos) (λρ S=>(itf ρ S).bind λk S1=>xG gf F k.gs k.ds ρ S1):=by
 obtain⟨wi,hi,ki⟩:=hi;obtain⟨tg',hg,kg⟩:=hg;obtain⟨tb,hb,kb⟩:=hb;refine⟨_,Me hp hc hi hg hb hs,λα ρ S σ H D wd sl q=>ki α ρ S σ H _ wd sl (q.expr λJ k S1 α1 H1 e x1 w1 d1 q1=>?_)⟩;obtain⟨P,hP⟩:=d1;have sl1:=sl.ext x1
 replace q1:=PostS.shift x1 q1
 refine⟨λn m σ2 H2=>m=k.ds.length - n/\n<=k.ds.length/\ ∃α2 ρ2 S2,Wd X.g α2 S2 H2/\Slots X.K α2 H2 ρ2 σ2/\P α2 S2 H2/\PostS X.g W α2 H2 D (xG gf F k.gs (k.ds.drop n) ρ2 S2),⟨_,rfl,zero_le _,α1,ρ,S1,w1,sl1,hP.here,by simpa using q1⟩,?_⟩;rintro n m σ2 H2 ⟨rfl,hn,α2,ρ2,S2,w2,sl2,p2,q2⟩;obtain⟨i1,i2⟩:=hP.it n α2 S2 H2 p2 w2;by_cases hlt:n<k.ds.length
 .obtain⟨go,yl⟩:=i1 hlt;refine .inr ⟨go,λσ3 H3=> ∃α3 ρ3 S3,Wd X.g α3 S3 H3/\Slots X.K α3 H3 ρ3 σ3/\P α3 S3 H3/\PostS X.g W α3 H3 D (xG gf F k.gs (k.ds.drop (n+1)) ρ3 S3),λσ3 H3 ⟨α3,ρ3,S3,h3⟩=>⟨k.ds.length - (n+1),by omega,rfl,hlt,α3,ρ3,S3,h3⟩,λv H3 y=>?_⟩;obtain⟨x3,w3,p3,d,hd,dv⟩:=yl v H3 y;have hdrop:k.ds.drop n=d::k.ds.drop (n+1):=by rw[List.drop_eq_getElem_cons hlt];have:=gE hlt;rw[hd]at this;rw[<-Option.some.inj this]
  rw[hdrop]at q2;unfold xG at q2
  replace q2:=PostS.shift x3 q2
  refine kg α2 ρ2 S2 σ2 H3 d v _ w3 (sl2.ext x3) dv (q2.expr λσ4 ρ4 S4 α4 H4 e4 x4 w4 s4 q4=>?_);have p4: ∀α5 S5 H5,Ext α4 H4 α5 H5->Wd X.g α5 S5 H5->stay k.gs S5->P α5 S5 H5:=λα5 S5 H5 x5 w5 s5=>hP.stays α2 S2 H3 α5 S5 H5 p3 (x4.trans x5) w5 s5;refine kb α4 ρ4 S4 σ4 H4 _ w4 s4 ((PostS.shift x4 q4).stmt ?_ ?_ ?_ ?_)
  .intro ρ5 S5 σ5 α5 H5 e5 x5 w5 s5 q5;have q5':PostS X.g W α4 H4 D (if stay k.gs S5 then xG gf F k.gs (k.ds.drop (n+1)) ρ5 S5 else .no):=q5;split at q5'
   .rename_i hst;exact⟨α5,ρ5,S5,w5,s5,p4 α5 S5 H5 x5 w5 hst,PostS.shift x5 q5'⟩
   .exact q5'.elim
  .intro r S5 v5 α5 H5 e5 x5 w5 d5 q5;exact q5 v5 α5 H5 x5 w5 d5
  .intro ρ5 S5 σ5 α5 H5 e5 x5 w5 s5 q5;exact q5 σ5 α5 H5 x5 w5 s5
  .intro ρ5 S5 σ5 α5 H5 e5 x5 w5 s5 q5;have q5':PostS X.g W α4 H4 D (if stay k.gs S5 then xG gf F k.gs (k.ds.drop (n+1)) ρ5 S5 else .no):=q5;split at q5'
   .rename_i hst;exact⟨α5,ρ5,S5,w5,s5,p4 α5 S5 H5 x5 w5 hst,PostS.shift x5 q5'⟩
   .exact q5'.elim
 .have e:n=k.ds.length:=by omega
  subst e;refine .inl ⟨i2 q9,?_⟩;rw[List.drop_length]at q2;exact q2 σ2 α2 H2 (Ext.refl _ _) w2 sl2
end
def noX{β:Type}:R β->R β
 |.ok b S=>.ok b S
 |_=>.no
theorem yQ{β:Type}(b:β)(S:Sto):noX (R.ok b S)=.ok b S:=rfl
def Post.bindY{β τ γ υ:Type}[Dn β τ][Dn γ υ]{g:Gm}{W:XW}{α α':Ya}{H H':Hp}(x:Ext α H α' H'){m:R β}{k:β->Sto->R γ}{Q:υ->Hp->Prop}{Q':τ->Hp->Prop}(q:Post g W α H ((noX m).bind k) Q)
  (f: ∀u b S1 α1 H1,m=.ok b S1->Ext α' H' α1 H1->Wd g α1 S1 H1->Dn.d g H' α1 S1 H1 b u->Post g W α H (k b S1) Q->Q' u H1):Post g W0 α' H' m Q':=by
 cases m with
 |ok b S=>exact λu α1 H1 x w d=>f u b S α1 H1 rfl x w d q
 |exc c fs S=>exact q.elim
 |no=>exact q
theorem R.bind_assoc{β γ δ:Type}(m:R β)(k1:β->Sto->R γ)(k2:γ->Sto->R δ):(m.bind k1).bind k2=m.bind λb S=>(k1 b S).bind k2:=by cases m<;>rfl
def uW(nt:Nat)(idx:Db)(ρ:Rho):Rho:=List.replicate nt none++idx.map λi=>(ρ[i]?).join
open Classical in
def yF(gf:MV->Rho->Sto->R Rho)(cf:AZ)(ef:AX)(ρb:Rho)(gs:Zd):List MV->Sto->R (List MV)
 |[],S=>.ok [] S
 |d::ds,S=>(noX (gf d ρb S)).bind λρ1 S0=>(noX (cf ρ1 S0)).bind λk S1=>
  if k=true then(noX (ef ρ1 S1)).bind λr S2=>(wV r S2).bind λy S3=>if stay gs S3 then(yF gf cf ef ρb gs ds S3).bind λout S4=>.ok (y::out) S4 else .no
  else if stay gs S1 then yF gf cf ef ρb gs ds S1 else .no
theorem VO{K:Yj}{α:Ya}{H:Hp}{ρ:Rho}{σ:St}(q:Slots K α H ρ σ)(nt:Nat)(idx:Db)(τ:St)(hτ:τ.length=nt):Slots K α H (uW nt idx ρ) (τ++vA σ idx):=by
 refine⟨by unfold uW;rw[lA,lA,iM,lM,List.length_replicate,hτ],λi d e=>?_⟩;unfold uW at e;by_cases hi:i<nt
 .rw[getElem?_append_left (by rw[List.length_replicate];exact hi),List.getElem?_replicate]at e;split at e<;>cases e
 .rw[getElem?_append_right (by rw[List.length_replicate];omega),List.length_replicate,getElem?_map]at e
  cases z:idx[i - nt]? with
  |none=>rw[z]at e;cases e
  |some k=>
   rw[z]at e;have e2:(ρ[k]?).join=some d:=Option.some.inj e
   cases z2:ρ[k]? with
   |none=>rw[z2]at e2;cases e2
   |some o=>
    rw[z2]at e2;have e3:o=some d:=e2;subst e3;obtain⟨v,h1,h2⟩:=q.slot k d z2;refine⟨v,?_,h2⟩;rw[getElem?_append_right #[0],hτ];unfold vA;rw[getElem?_map,z];show some (σ[k]?).join=some (some v);rw[h1];rfl
def Keeps(nt:Nat)(σ:St)(Q:St->Hp->Prop):St->Hp->Prop:=λσ' H'=>σ'.length=σ.length->(∀j,nt<=j->σ'[j]? =σ[j]?)->Q σ' H'
def Dj(nt:Nat)(X:Cx)(W:XW)(tg:Expr)(gf:MV->Rho->Sto->R Rho):Prop:=
 ∃t,PG X tg t/\ ∀α ρ S σ H d v Q,Wd X.g α S H->Slots X.K α H ρ σ->Den X.K α H d v->Post X.g W α H (gf d ρ S) (Keeps nt σ Q)->t v σ H Q
def YY(nt:Nat)(X:Cx)(W:XW)(tgs:Yi)(gf:List MV->Rho->Sto->R Rho):Prop:=
 ∃t,Sk X tgs t/\ ∀α ρ S σ H ds vs Q,Wd X.g α S H->Slots X.K α H ρ σ->DenL X.K α H ds vs->Post X.g W α H (gf ds ρ S) (Keeps nt σ Q)->t vs σ H Q
section
variable{X:Cx}{W:XW}{e:Expr}{pos:Pos}{nt:Nat}
def Fs(i:Nat){x:Str}(hN:X.N.Nodup)(hi:X.N[i]? =some x:=by rfl)(hx:Loc X.env.scope x:=by first |exact Or.inl rfl|exact Or.inr rfl)(hf:Q2 X x:=by first |exact .inl rfl|exact .inr rfl|assumption)(hlt:i<nt:=by decide):
  Dj nt X W (.Name x pos) (zV i):=⟨_,RU hN hi hx hf,λα ρ S σ H d v Q wd sl de q=>Post.here (b:=ρ.set i (some d)) q wd (sl.set de) (by rw[List.length_set]) λj hj=>by rw[getElem?_set_ne #[0]]⟩
def Ol:YY nt X W [] zZ:=⟨_,RV,λα ρ S σ H ds vs Q wd sl de q=>by
 cases ds with
 |nil=>exact⟨de.isnil,Post.here (b:=ρ) q wd sl rfl λ_ _=>rfl⟩
 |cons d ds=>exact q.elim⟩
def Post.keeps{g:Gm}{W:XW}{α:Ya}{H:Hp}{m:R Rho}{σ σ1:St}{Q:St->Hp->Prop}(h1:σ1.length=σ.length)(h2: ∀j,nt<=j->σ1[j]? =σ[j]?)(q:Post g W α H m (Keeps nt σ Q)):Post g W α H m (Keeps nt σ1 Q):=by
 cases m with
 |ok b S=>exact λu α1 H1 x w d k1 k2=>q u α1 H1 x w d (k1.trans h1) λj hj=>(k2 j hj).trans (h2 j hj)
 |exc c fs S=>exact q
 |no=>exact q
def Ft{es:Yi}{g1:MV->Rho->Sto->R Rho}{g2:List MV->Rho->Sto->R Rho}(h1:Dj nt X W e g1)(h2:YY nt X W es g2)(hs:(assignEach (e::es) X.env).map (·.2)=assign e X.env::(assignEach es X.env).map (·.2):=by rfl):YY nt X W (e::es) (zA g1 g2):=by
 obtain⟨t1,h1,k1⟩:=h1;obtain⟨t2,h2,k2⟩:=h2;refine⟨_,MB h1 h2 hs,λα ρ S σ H ds vs Q wd sl de q=>?_⟩
 cases ds with
 |nil=>exact q.elim
 |cons d ds=>
  obtain⟨v,r,rfl,a,l⟩:=de.uncons;refine⟨v,r,rfl,k1 α ρ S σ H d v _ wd sl a (Post.bind q λu p S1 α1 H1 e x1 w1 d1 q1 k1 k2'=>k2 α1 p S1 u H1 ds r Q w1 d1 (l.ext x1) (Post.keeps k1 k2' (q1.shift x1)))⟩
def Om{es:Yi}{k n:Nat}{g2:List MV->Rho->Sto->R Rho}(hc:X.calm=true)(h:YY nt X W es g2)
  (hn:(assignEach es X.env).length=n:=by rfl) (hst:(assignEach es X.env).findIdx? (·.1)=none:=by rfl):Dj nt X W (.Tuple es k pos) (fG n g2):=by
 obtain⟨t,h,k⟩:=h;refine⟨_,XS hc h hn hst,λα ρ S σ H d v Q wd sl de q=>?_⟩;unfold fG at q;split at q
 .split at q
  .rename_i hl;obtain⟨a,vs,rfl,s,l⟩:=yN de;exact⟨a,vs,rfl,s,by rw[l.length];exact hl,k α ρ S σ H _ vs Q wd sl l q⟩
  .exact q.elim
 .exact q.elim
end
abbrev MT(X:Cx)(W:XW)(ifs:Yi)(f:AZ):Prop:=Jd X W (VE X ifs) f
section
variable{X:Cx}{W:XW}{iter:Expr}{c:Expr}{tf:AZ}{pos:Pos}
def Fv:MT X W [] (λ_ S=>.ok true S):=⟨_,YK,λα ρ S σ H Q wd sl q=>q.here wd rfl⟩
def Fw(h:tE X W c tf):MT X W [c] tf:=let ⟨t,h,k⟩:=h;⟨t,YL h,k⟩
open Classical in
def SH{C:Cx->Prop}{elt tg:Expr}{ifs:Yi}{sc:Scope}{itf:Rho->Sto->R Wk}{cf:AZ}{ef:AX}{gf:MV->Rho->Sto->R Rho}(osc:Scope)(N:Yb)(T:Yb)(idx:Db)
  (hi:Jd X W (Th C X tg iter) itf) (hCx: ∀c s₂ H2 fp pins σ,Inv X pins σ H2 s₂->C (zL X sc T idx c s₂ H2 fp))
  (hg: ∀C s₂ H1 fp,([]++T++idx.map λi=>(N[i]?).getD Str.empty).Nodup->Dj T.length (zL X sc T idx C s₂ H1 fp) W0 tg gf)
  (hc: ∀C s₂ H1 fp,MT (zL X sc T idx C s₂ H1 fp) W0 ifs cf) (he: ∀C s₂ H1 fp,zO (zL X sc T idx C s₂ H1 fp) W0 elt ef)
  (e1:X.env.scope=osc:=by rfl) (e2:X.N=N:=by rfl) (hB:rN osc N sc idx=true:=by decide+kernel) (hN:([]++T++idx.map λi=>(N[i]?).getD Str.empty).Nodup:=by decide+kernel)
  (hs: ∀y,foldedSetIterable iter X.env y=pure y:=by intro _;rfl):
  Jd (β:=Er) (τ:=V) X W (λt=>PE X (.ListComp elt [⟨tg,iter,ifs,0⟩] sc pos) t/\PU X (.ListComp elt [⟨tg,iter,ifs,0⟩] sc pos) t) (λρ S=>(itf ρ S).bind λk S1=>if k.ds.length<1000000 then(yF gf cf ef (uW T.length idx ρ) k.gs k.ds S1).bind λout S2=>.ok (.new out) S2 else .no):=by
 obtain⟨wi,hi,ki⟩:=hi;subst e1 e2;have big:(1000000:Nat)<sizeLine:=by rw[sizeLine_eq];decide
 have hg': ∃t,(∀C s₂ H1 fp,PG (zL X sc T idx C s₂ H1 fp) tg t)/\ ∀α ρ S σ H d v Q,Wd X.g α S H->Slots X.K α H ρ σ->Den X.K α H d v->Post X.g W0 α H (gf d ρ S) (Keeps T.length σ Q)->t v σ H Q:=by refine⟨λv σ H Q=> ∃α ρ S d,Wd X.g α S H/\Slots X.K α H ρ σ/\Den X.K α H d v/\Post X.g W0 α H (gf d ρ S) (Keeps T.length σ Q),λC s₂ H1 fp pins s σ H v u Q I r ⟨α,ρ,S,d,h1,h2,h3,h4⟩=>?_,λα ρ S σ H d v Q h1 h2 h3 h4=>⟨α,ρ,S,d,h1,h2,h3,h4⟩⟩;obtain⟨t,ht,kt⟩:=hg C s₂ H1 fp hN;exact ht pins s σ H v u Q I r (kt α ρ S σ H d v Q h1 h2 h3 h4)
 obtain⟨tg',hg1,kg⟩:=hg';refine⟨_,⟨Et T idx hi hCx hB hg1 (λC s₂ H1 fp=>(Classical.choose_spec (hc C s₂ H1 fp)).1) (λC s₂ H1 fp=>(Classical.choose_spec (he C s₂ H1 fp)).1) hs,Ex T idx hi hCx hB hg1 (λC s₂ H1 fp=>(Classical.choose_spec (hc C s₂ H1 fp)).1) (λC s₂ H1 fp=>(Classical.choose_spec (he C s₂ H1 fp)).1) hs⟩,λα ρ S σ H Q wd sl q=>ki α ρ S σ H _ wd sl (q.bind λJ k S1 α1 H1 e1 x1 w1 d1 q1=>?_)⟩;obtain⟨P,hP⟩:=d1;split at q1
 .rename_i hlen
  refine⟨λn m ys H2=>m=k.ds.length - n/\n<=k.ds.length/\ys.length<=n/\ ∃α2 S2,Ext α H α2 H2/\Wd X.g α2 S2 H2/\P α2 S2 H2/\ ∃outs,DenL X.K α2 H2 outs ys/\Post X.g W α H ((yF gf cf ef (uW T.length idx ρ) k.gs (k.ds.drop n) S2).bind λo S'=>.ok (Er.new (outs++o)) S') Q,
   ⟨_,rfl,zero_le _,Nat.le_refl _,α1,S1,x1,w1,hP.here,[],zW,by simpa using q1⟩,?_⟩
  rintro n m ys H2 ⟨rfl,hn,hy,α2,S2,x2,w2,p2,outs,l,q2⟩;obtain⟨i1,i2⟩:=hP.it n α2 S2 H2 p2 w2;refine⟨by omega,?_⟩;by_cases hlt:n<k.ds.length
  .obtain⟨go,yl⟩:=i1 hlt;refine .inr ⟨go,by omega,λv H3 y τ hτ=>?_⟩;obtain⟨x3,w3,p3,d,hd,dv⟩:=yl v H3 y;have hdrop:k.ds.drop n=d::k.ds.drop (n+1):=by rw[List.drop_eq_getElem_cons hlt];have:=gE hlt;rw[hd]at this;rw[<-Option.some.inj this]
   rw[hdrop]at q2;unfold yF at q2;have slb:=VO (sl.ext (x2.trans x3)) T.length idx τ hτ;refine kg α2 (uW T.length idx ρ) S2 _ H3 d v _ w3 slb dv ?_;rw[R.bind_assoc]at q2;refine q2.bindY (x2.trans x3) λσ4 ρ4 S4 α4 H4 e4 x4 w4 s4 q4 len4 kp4=>⟨⟨σ4.take T.length,?_,?_⟩,λC s₂ fp=>?_⟩
   .refine ext_getElem? λj=>?_;have hl4:σ4.length=T.length+idx.length:=by rw[len4,lA,iM,hτ]
    by_cases hj:j<T.length
    .rw[getElem?_append_left (by rw[lT];omega),List.getElem?_take_of_lt hj]
    .rw[kp4 j #[0],getElem?_append_right #[0],getElem?_append_right (by rw[lT];omega),hτ,lT,min_eq_left #[0]]
   .rw[lT,len4,lA,iM,hτ];omega
   have x34:Ext α H α4 H4:=(x2.trans x3).trans x4;have p4: ∀α5 S5 H5,Ext α4 H4 α5 H5->Wd X.g α5 S5 H5->stay k.gs S5->P α5 S5 H5:=λα5 S5 H5 x5 w5 s5=>hP.stays α2 S2 H3 α5 S5 H5 p3 (x4.trans x5) w5 s5;rw[R.bind_assoc]at q4;refine(Classical.choose_spec (hc C s₂ H1 fp)).2 α4 ρ4 S4 σ4 H4 _ w4 s4 (q4.bindY x34 λb5 b5' S5 α5 H5 e5 x5 w5 d5 q5=>?_);cases d5
   cases b5 with
   |false=>
    rw[iN xF0]at q5 ⊢;split at q5
    .rename_i hst;exact⟨k.ds.length - (n+1),by omega,rfl,hlt,by omega,α5,S5,x34.trans x5,w5,p4 α5 S5 H5 x5 w5 hst,outs,(l.ext (x3.trans x4)).ext x5,q5⟩
    .exact q5.elim
   |true=>
    rw[iP rfl,R.bind_assoc]at q5;rw[iP rfl];refine(Classical.choose_spec (he C s₂ H1 fp)).2 α5 ρ4 S5 σ4 H5 _ w5 (s4.ext x5) (q5.bindY (x34.trans x5) λy6 r6 S6 α6 H6 e6 x6 w6 d6 q6=>?_);obtain⟨d',S',α',e7,x7,y7,w7,de⟩:=cR w6 x6 d6;rw[e7]at q6;have q6:Post X.g W α H ((if stay k.gs S' then(yF gf cf ef (uW T.length idx ρ) k.gs (k.ds.drop (n+1)) S').bind λout S4=>.ok (d'::out) S4 else .no).bind λo S'=>.ok (Er.new (outs++o)) S') Q:=q6;split at q6
    .rename_i hst;refine⟨k.ds.length - (n+1),by omega,rfl,hlt,by rw[lA,lS];omega,α',S',(x34.trans x5).trans x7,w7,p4 α' S' H6 (x5.trans x7) w7 hst,outs++[d'],((l.ext (x3.trans x4)).ext (x5.trans x7)).append (zM de zW),?_⟩;rw[R.bind_assoc]at q6;have e8:(λ(o:Za) (S':Sto)=>R.ok (Er.new ((outs++[d'])++o)) S')=(λ(b:Za) S=>(R.ok (d'::b) S).bind λo S'=>.ok (Er.new (outs++o)) S'):=by funext o S';show _=R.ok (Er.new (outs++(d'::o))) S';rw[aA];rfl
     rw[e8];exact q6
    .exact q6.elim
  .have e:n=k.ds.length:=by omega
   subst e;rw[List.drop_length]at q2;have q3:Post X.g W α H (.ok (Er.new (outs++[])) S2) Q:=q2;rw[aN]at q3;exact .inl ⟨i2 q9,λD hD=>(q3.shift x2).newl w2 hD l⟩
 .exact q1.elim
open Classical in
def Fx{elt tg:Expr}{ifs:Yi}{sc:Scope}{itf:Rho->Sto->R Wk}{cf:AZ}{ef:AX}{gf:MV->Rho->Sto->R Rho}(osc:Scope)(N:Yb)(T:Yb)(idx:Db)
  (hi:GV X W tg iter itf) (hcalm:X.calm=true)
  (hg: ∀C s₂ H1 fp,([]++T++idx.map λi=>(N[i]?).getD Str.empty).Nodup->Dj T.length (zL X sc T idx C s₂ H1 fp) W0 tg gf)
  (hc: ∀C s₂ H1 fp,MT (zL X sc T idx C s₂ H1 fp) W0 ifs cf) (he: ∀C s₂ H1 fp,zO (zL X sc T idx C s₂ H1 fp) W0 elt ef)
  (e1:X.env.scope=osc:=by rfl) (e2:X.N=N:=by rfl) (hB:rN osc N sc idx=true:=by decide+kernel) (hN:([]++T++idx.map λi=>(N[i]?).getD Str.empty).Nodup:=by decide+kernel)
  (hs: ∀y,foldedSetIterable iter X.env y=pure y:=by intro _;rfl):
  zO X W (.ListComp elt [⟨tg,iter,ifs,0⟩] sc pos) (λρ S=>(itf ρ S).bind λk S1=>if k.ds.length<1000000 then(yF gf cf ef (uW T.length idx ρ) k.gs k.ds S1).bind λout S2=>.ok (.new out) S2 else .no):=let ⟨t,h,k⟩:=(SH osc N T idx hi (λ_ _ _ _ _ _ _=>hcalm) hg hc he e1 e2 hB hN hs);⟨t,h.1,k⟩
open Classical in
def Fy{x:Str}{pos' spos:Pos}(i:Nat)(hNN:X.N.Nodup){elt tg:Expr}{ifs:Yi}{sc:Scope}{itf:Rho->Sto->R Wk}{cf:AZ}{ef:AX}{gf:MV->Rho->Sto->R Rho}(osc:Scope)(N:Yb)(T:Yb)(idx:Db)
  (hi:GV X W tg iter itf) (hcalm:X.calm=true)
  (hg: ∀C s₂ H1 fp,([]++T++idx.map λi=>(N[i]?).getD Str.empty).Nodup->Dj T.length (zL X sc T idx C s₂ H1 fp) W0 tg gf)
  (hc: ∀C s₂ H1 fp,MT (zL X sc T idx C s₂ H1 fp) W0 ifs cf) (he: ∀C s₂ H1 fp,zO (zL X sc T idx C s₂ H1 fp) W0 elt ef)
  (e1:X.env.scope=osc:=by rfl) (e2:X.N=N:=by rfl) (hB:rN osc N sc idx=true:=by decide+kernel) (hN:([]++T++idx.map λi=>(N[i]?).getD Str.empty).Nodup:=by decide+kernel)
  (hs: ∀y,foldedSetIterable iter X.env y=pure y:=by intro _;rfl)
  (hi2:X.N[i]? =some x:=by rfl) (hx:Loc X.env.scope x:=by first |exact Or.inl rfl|exact Or.inr rfl)
  (hsw:swapsWith (.ListComp elt [⟨tg,iter,ifs,0⟩] sc pos) (some (.Name x pos')) spos.line X.env=pure true:=by with_unfolding_all rfl) (hf:Q2 X x:=by first |exact .inl rfl|exact .inr rfl|assumption):
  MQ X W (.Assign [.Name x pos'] (.ListComp elt [⟨tg,iter,ifs,0⟩] sc pos) spos) (λρ S=>((itf ρ S).bind λk S1=>if k.ds.length<1000000 then(yF gf cf ef (uW T.length idx ρ) k.gs k.ds S1).bind λout S2=>.ok (.new out) S2 else .no).bind (FQ ρ i)):=by
 obtain⟨t,h,k⟩:=(SH osc N T idx hi (λ_ _ _ _ _ _ _=>hcalm) hg hc he e1 e2 hB hN hs)
 refine⟨_,h.2 i x pos' spos hNN hi2 hx hf hsw,λα ρ S σ H D wd sl q=>k α ρ S σ H _ wd sl (q.expr λu r S1 α1 H1 e x1 w1 d1 q1=>?_)⟩;obtain⟨d',S',α',e1,x',y',w',de⟩:=cR w1 x1 d1;unfold FQ at q1;rw[e1]at q1;exact q1 _ α' H1 x' w' (((sl.ext x1).ex0 y').set de)
end
mutual
def lo(n:Nat):MV->Prop
 |.loc l=>l<n
 |.tup ds=>qU n ds
 |.scr ds=>qU n ds
 |.obj _ _ ds=>qU n ds
 |_=>True
def qU(n:Nat):List MV->Prop
 |[]=>True
 |d::ds=>lo n d/\qU n ds
end
def loO(n:Nat):MO->Prop
 |.lst ds=>qU n ds
 |.dic kvs=> ∀p∈kvs,lo n p.1/\lo n p.2
 |.ins _ fs=> ∀p∈fs,lo n p.2
 |.rcd _ fs=> ∀p∈fs,lo n p.2
 |.fdc kvs=> ∀p∈kvs,lo n p.1/\lo n p.2
section
variable{K:Yj}{α t:Ya}{H:Hp}
mutual
theorem Den.back: ∀{d:MV}{v:V},Den K (α++t) H d v->lo α.length d->Den K α H d v
 |.non,_,q,_=>by cases nQ q;exact tK
 |.bl _,_,q,_=>by cases pE q;exact nP _
 |.int _,_,q,_=>by cases xM q;exact wX _
 |.str _,_,q,_=>by cases xN q;exact oD _
 |.typ _,_,q,_=>by cases nR q;exact RZ _
 |.obj c ns ds,_,q,h=>by obtain⟨a,C,dx,vs,o,rfl,e,hn,hc,hl,l⟩:=cP q;exact Ez e hn hc hl (DenL.back l (by unfold lo at h;exact h))
 |.loc l,_,q,h=>by
  obtain⟨a,rfl,e⟩:=bM q;have hl:l<α.length:=by unfold lo at h;exact h
  rw[getElem?_append_left hl]at e;exact oE e
 |.tup ds,_,q,h=>by obtain⟨a,vs,rfl,s,l⟩:=yN q;exact aR s (DenL.back l (by unfold lo at h;exact h))
 |.scr ds,_,q,h=>by obtain⟨a,vs,rfl,s,l⟩:=cQ q;exact SC s (DenL.back l (by unfold lo at h;exact h))
theorem DenL.back: ∀{ds:Za}{vs:List V},DenL K (α++t) H ds vs->qU α.length ds->DenL K α H ds vs
 |[],_,q,_=>by rw[q.isnil];exact zW
 |d::ds,_,q,h=>by obtain⟨v,r,rfl,a,l⟩:=q.uncons;unfold qU at h;exact zM (Den.back a h.1) (DenL.back l h.2)
end
mutual
theorem Den.lo: ∀{d:MV}{v:V},Den K α H d v->lo α.length d
 |.non,_,q=>by unfold M.lo;trivial
 |.bl _,_,q=>by unfold M.lo;trivial
 |.int _,_,q=>by unfold M.lo;trivial
 |.str _,_,q=>by unfold M.lo;trivial
 |.typ _,_,q=>by unfold M.lo;trivial
 |.obj c ns ds,_,q=>by obtain⟨a,C,dx,vs,o,rfl,e,hn,hc,hl,l⟩:=cP q;unfold M.lo;exact DenL.lo l
 |.loc l,_,q=>by obtain⟨a,rfl,e⟩:=bM q;unfold M.lo;exact(gS.mp e).1
 |.tup ds,_,q=>by obtain⟨a,vs,rfl,s,l⟩:=yN q;unfold M.lo;exact DenL.lo l
 |.scr ds,_,q=>by obtain⟨a,vs,rfl,s,l⟩:=cQ q;unfold M.lo;exact DenL.lo l
theorem DenL.lo: ∀{ds:Za}{vs:List V},DenL K α H ds vs->qU α.length ds
 |[],_,q=>by unfold qU;trivial
 |d::ds,_,q=>by obtain⟨v,r,rfl,a,l⟩:=q.uncons;unfold qU;exact⟨Den.lo a,DenL.lo l⟩
end
theorem DenK.back: ∀{fs gs},DenK K (α++t) H fs gs->(∀p∈fs,M.lo α.length p.1/\M.lo α.length p.2)->DenK K α H fs gs
 |_,_,.nil,_=>.nil
 |_,_,.cons k a l,h=>.cons k (a.back (h _ mF0).2) (DenK.back l λp hp=>h p (mO _ hp))
def KeyD.lo{n:Nat}{k:MV}{k':Key}(h:KeyD k k'):M.lo n k:=by
 unfold KeyD at h;split at h
 .unfold M.lo;trivial
 .unfold M.lo;trivial
 .exact h.elim
theorem DenK.lo: ∀{fs gs},DenK K α H fs gs-> ∀p∈fs,M.lo α.length p.1/\M.lo α.length p.2
 |_,_,.nil=>λp h=>by simp at h
 |_,_,.cons k a l=>λp h=>(mC.mp h).elim (λe=>by subst e;exact⟨k.lo,a.lo⟩) (DenK.lo l p)
theorem DenN.back: ∀{fs xs},DenN K (α++t) H fs xs->(∀p∈fs,M.lo α.length p.1/\M.lo α.length p.2)->DenN K α H fs xs
 |_,_,.nil,_=>.nil
 |_,_,.cons k e a d r l,h=>.cons k e (a.back (h _ mF0).1) (d.back (h _ mF0).2) r (DenN.back l λp hp=>h p (mO _ hp))
theorem DenN.lo: ∀{fs xs},DenN K α H fs xs-> ∀p∈fs,M.lo α.length p.1/\M.lo α.length p.2
 |_,_,.nil=>λp h=>by simp at h
 |_,_,.cons k e a d r l=>λp h=>(mC.mp h).elim (λz=>by subst z;exact⟨a.lo,d.lo⟩) (DenN.lo l p)
theorem DenF.back: ∀{fs gs},DenF K (α++t) H fs gs->(∀p∈fs,M.lo α.length p.2)->DenF K α H fs gs
 |_,_,.nil,_=>.nil
 |_,_,.cons a l,h=>.cons (a.back (h _ mF0)) (DenF.back l λp hp=>h p (mO _ hp))
theorem DenF.lo: ∀{fs gs},DenF K α H fs gs-> ∀p∈fs,M.lo α.length p.2
 |_,_,.nil=>λp h=>by simp at h
 |_,_,.cons a l=>λp h=>(mC.mp h).elim (λe=>by subst e;exact a.lo) (DenF.lo l p)
def ObD.back{g:Gm}{a:Addr}{o:MO}(q:ObD g (α++t) H a o)(h:loO α.length o):ObD g α H a o:=by
 cases o with
 |lst ds=>obtain⟨vs,h1,l⟩:=q;exact⟨vs,h1,l.back h⟩
 |dic ds=>
  rcases q with⟨vs,h1,l⟩|⟨vs,h1,l⟩
  .exact .inl ⟨vs,h1,l.back h⟩
  .exact .inr ⟨vs,h1,l.back h⟩
 |ins c fs=>obtain⟨C,gs,m,l,r⟩:=q;exact⟨C,gs,m,l.back h,r⟩
 |rcd c fs=>obtain⟨C,dx,gs,m,h1,l⟩:=q;exact⟨C,dx,gs,m,h1,l.back h⟩
 |fdc kvs=>obtain⟨oe,xs,h1,l⟩:=q;exact⟨oe,xs,h1,l.back h⟩
def ObD.lo{g:Gm}{a:Addr}{o:MO}(q:ObD g α H a o):loO α.length o:=by
 cases o with
 |lst ds=>obtain⟨vs,h1,l⟩:=q;exact l.lo
 |dic ds=>
  rcases q with⟨vs,h1,l⟩|⟨vs,h1,l⟩
  .exact l.lo
  .exact l.lo
 |ins c fs=>obtain⟨C,gs,m,l,r⟩:=q;exact l.lo
 |rcd c fs=>obtain⟨C,dx,gs,m,h1,l⟩:=q;exact l.lo
 |fdc kvs=>obtain⟨oe,xs,h1,l⟩:=q;exact l.lo
end
def MU(S S2:Sto):Prop:=S.length<=S2.length/\ ∀l,l<S.length->S2[l]? =S[l]? \/ ∃o,S2[l]? =some o/\loO S.length o
open Classical in
def jQ(S:Sto)(r:Er)(S2:Sto):R Er:=
 if MU S S2 then match r with
  |.val (.loc l)=>if l<S.length then .ok r (S2.take S.length)else match S2[l]? with
   |some (.lst ds)=>if qU S.length ds then .ok (.new ds) (S2.take S.length)else .ok r S2
   |_=>.ok r S2
  |.val d=>if lo S.length d then .ok r (S2.take S.length)else .ok r S2
  |.new ds=>if qU S.length ds then .ok r (S2.take S.length)else .ok r S2
 else .ok r S2
def Fz{g:Gm}{α α1 α2 α3:Ya}{H H1 H3:Hp}{S1 S3:Sto}{r:Er}{v:V}(x1:Ext α H α1 H1)(w1:Wd g α1 S1 H1)(h12: ∃t,α2=α1++t)(x2:Ext α H α2 H1)(x3:Ext α2 H1 α3 H3)(w3:Wd g α3 S3 H3)(d:DenE g.K H1 α3 H3 r v):
  ∃r' S' α',jQ S1 r S3=.ok r' S'/\Ext α H α' H3/\Wd g α' S' H3/\DenE g.K H α' H3 r' v:=by
 have x23:=x2.trans x3;have dfull:DenE g.K H α3 H3 r v:=d.back λb h=>x1.free h;unfold jQ;by_cases hc:MU S1 S3
 .rw[iP hc];obtain⟨t,ht⟩: ∃t,α3=α1++t:=by obtain⟨t,e⟩:=h12;obtain⟨u,e'⟩:=x3.pre;exact⟨t++u,by rw[e',e,aA]⟩
  have hn:α1.length=S1.length:=w1.len;have xc:Ext α H α1 H3:=⟨⟨x1.pre,x23.tup,x23.frz⟩,x1.new,x23.keep,x23.has⟩
  have wc:Wd g α1 (S3.take S1.length) H3:=by
   refine⟨by rw[lT,hn,min_eq_left hc.1],w1.nd,λl a o h1 h2=>?_⟩;have hl:l<S1.length:=by rw[<-hn];exact(gS.mp h1).1
   rw[List.getElem?_take_of_lt hl]at h2;have h1':α3[l]? =some a:=by rw[ht,getElem?_append_left (by rw[hn];exact hl)];exact h1
   have q:=w3.obj l a o h1' h2;rw[ht]at q;refine q.back ?_;rcases hc.2 l hl with e|⟨o',e,lo'⟩
   .rw[e]at h2;exact(w1.obj l a o h1 h2).lo
   .rw[h2]at e;cases e;rw[hn];exact lo'
  have dlo: ∀d,lo S1.length d->Den g.K α3 H3 d v->DenE g.K H α1 H3 (.val d) v:=λd hd q=>.val ((ht▸q:Den g.K (α1++t) H3 d v).back (by rw[hn];exact hd))
  cases r with
  |new ds=>
   dsimp only;split
   .rename_i hl;obtain⟨⟨b,vs,rfl,h1,h2,h3⟩,h4⟩:=dfull;exact⟨_,_,α1,rfl,xc,wc,⟨b,vs,rfl,h1,λz=>h2 (by rw[ht];exact mem_append_left _ z),(ht▸h3:DenL g.K (α1++t) H3 ds vs).back (by rw[hn];exact hl)⟩,h4⟩
   .exact⟨_,_,α3,rfl,x23,w3,dfull⟩
  |val mv=>
   have dd:Den g.K α3 H3 mv v:=dfull.1
   cases mv with
   |loc l=>
    dsimp only;split
    .rename_i hl;exact⟨_,_,α1,rfl,xc,wc,dlo _ (by unfold lo;exact hl) dd⟩
    .rename_i hl;obtain⟨a,rfl,ha⟩:=bM dd;split
     .rename_i ds hS;split
      .rename_i hlo;obtain⟨vs,h1,h2⟩:=w3.obj l a _ ha hS
       have hna:a∉α1:=λz=>by
        obtain⟨m,hm⟩:=getElem?_of_mem z;have hml:m<α1.length:=(gS.mp hm).1;have hm':α3[m]? =some a:=by rw[ht,getElem?_append_left hml];exact hm
        obtain⟨u1,e1⟩:=gS.mp hm';obtain⟨u2,e2⟩:=gS.mp ha;have:=(getElem_inj w3.nd).mp (e1.trans e2.symm);omega
       refine⟨_,_,α1,rfl,xc,wc,⟨a,vs,rfl,h1,hna,(ht▸h2:DenL g.K (α1++t) H3 ds vs).back (by rw[hn];exact hlo)⟩,λb e=>?_⟩;cases e;rcases x23.new a (mem_of_getElem? ha)with z|z
       .obtain⟨u,eu⟩:=x1.pre;exact absurd (by rw[eu];exact mem_append_left _ z) hna
       .exact z
      .exact⟨_,_,α3,rfl,x23,w3,dfull⟩
     .exact⟨_,_,α3,rfl,x23,w3,dfull⟩
   |non=>dsimp only;split;(· rename_i hl;exact⟨_,_,α1,rfl,xc,wc,dlo _ hl dd⟩);(· exact⟨_,_,α3,rfl,x23,w3,dfull⟩)
   |bl b=>dsimp only;split;(· rename_i hl;exact⟨_,_,α1,rfl,xc,wc,dlo _ hl dd⟩);(· exact⟨_,_,α3,rfl,x23,w3,dfull⟩)
   |int b=>dsimp only;split;(· rename_i hl;exact⟨_,_,α1,rfl,xc,wc,dlo _ hl dd⟩);(· exact⟨_,_,α3,rfl,x23,w3,dfull⟩)
   |str b=>dsimp only;split;(· rename_i hl;exact⟨_,_,α1,rfl,xc,wc,dlo _ hl dd⟩);(· exact⟨_,_,α3,rfl,x23,w3,dfull⟩)
   |typ b=>dsimp only;split;(· rename_i hl;exact⟨_,_,α1,rfl,xc,wc,dlo _ hl dd⟩);(· exact⟨_,_,α3,rfl,x23,w3,dfull⟩)
   |obj b b' b''=>dsimp only;split;(· rename_i hl;exact⟨_,_,α1,rfl,xc,wc,dlo _ hl dd⟩);(· exact⟨_,_,α3,rfl,x23,w3,dfull⟩)
   |tup b=>dsimp only;split;(· rename_i hl;exact⟨_,_,α1,rfl,xc,wc,dlo _ hl dd⟩);(· exact⟨_,_,α3,rfl,x23,w3,dfull⟩)
   |scr b=>dsimp only;split;(· rename_i hl;exact⟨_,_,α1,rfl,xc,wc,dlo _ hl dd⟩);(· exact⟨_,_,α3,rfl,x23,w3,dfull⟩)
 .rw[iN hc];exact⟨_,_,α3,rfl,x23,w3,dfull⟩
def QF(g:Gm)(n:Nat)(F:List MV->Sto->R Er):Sp:=λvs H Q _=> ∃α S ds,Wd g α S H/\DenL g.K α H ds vs/\ds.length=n/\Post g W0 α H (F ds S) Q
def zF(n:Nat)(F:List MV->Sto->R Er)(rs:List Er)(S:Sto):R Er:=if rs.length=n then(noX (F (zD rs S).1 (zD rs S).2)).bind λr S2=>jQ S r S2 else .no
section
variable{X:Cx}{W:XW}{e:Expr}{es:Yi}{af:Rho->Sto->R (List Er)}{pos:Pos}
def GW{n:Nat}{F:List MV->Sto->R Er}{rs:List Er}{vs:List V}{α α1:Ya}{H H1:Hp}{S1:Sto}{Q:VK}(x1:Ext α H α1 H1)(w1:Wd X.g α1 S1 H1)(d1:ArgsE X.K H α1 H1 rs vs)(q:Post X.g W α H (zF n F rs S1) Q):
  QF X.g n F vs H1 Q E0:=by
 unfold zF at q;split at q
 .rename_i hl;obtain⟨α2,x2,y2,w2,l2⟩:=pX w1 x1 d1;refine⟨α2,_,_,w2,l2,by rw[vD];exact hl,?_⟩
  cases z:F (zD rs S1).1 (zD rs S1).2 with
  |ok r S3=>
   rw[z]at q;intro v α3 H3 x3 w3 d3;obtain⟨r',S',α',e',x',w',d'⟩:=Fz x1 w1 y2.pre x2 x3 w3 d3;have q:Post X.g W α H (jQ S1 r S3) Q:=q;rw[e']at q;exact q v α' H3 x' w' d'
  |exc c fs S3=>rw[z]at q;exact q.elim
  |no=>rw[z]at q;exact q.elim
 .exact q.elim
def Ga{k n:Nat}{fa:Addr}{fd:FuncData}{ps:Yb}{F:List MV->Sto->R Er}{x:Str}{p:Pos}(G:FnOk X.prog X.w X.K X.mg X.base CZ k fa fd ps (QF X.g n F))(hr:Room k X.A)(hg:Gl X x)(hm:X.mg x=some (.ref fa))
  (hk:PySem.W.keepIn X.K (.ref fa)=true) (hb:Binds X.K fd ps []) (ha:DM X W (e::es) af) (hdb:(x==("__debug__":Str))=false:=by decide)
  (he:Q0 X e es:=by rfl) (hpl:Q1 X pos es:=by rfl):
  zO X W (.Call (.Name x p) (e::es) [] pos) (λρ S=>(af ρ S).bind λrs S1=>zF n F rs S1):=by
 obtain⟨t,ha,kk⟩:=ha;refine⟨_,Ef G hr hg hm hk hb .nil Ui ha hdb he hpl,λα ρ S σ H Q wd sl q=>kk α ρ S σ H _ wd sl (q.bind λvs rs S1 α1 H1 e1 x1 w1 d1 q1=>?_)⟩;rw[aN];exact GW x1 w1 d1 q1
end
def zR(N:Yb)(ds:Za):Rho:=ds.map some++List.replicate (N.length - ds.length) none
def yB:R Fl->R Er
 |.ok (.next _) S=>.ok (.val .non) S
 |.ok (.ret r) S=>.ok r S
 |.exc c fs S=>.exc c fs S
 |_=>.no
def MW{K:Yj}{α:Ya}{N:Yb}{H:Hp}{ds:Za}{vs:List V}(l:DenL K α H ds vs):Slots K α H (zR N ds) (start N vs):=by
 have hlen:=l.length;refine⟨?_,λi d e=>?_⟩
 .unfold start zR;rw[lA,lA,lM,lM,List.length_replicate,List.length_replicate,hlen]
 .unfold zR at e;by_cases hi:i<ds.length
  .rw[getElem?_append_left (by simpa using hi),getElem?_map]at e
   cases z:ds[i]? with
   |none=>rw[z]at e;cases e
   |some d'=>
    rw[z]at e;obtain⟨v,h1,h2⟩:=l.at z;have e':d'=d:=Option.some.inj (Option.some.inj e);subst e';refine⟨v,?_,h2⟩;unfold start;rw[getElem?_append_left (by rw[lM,hlen];exact hi),getElem?_map,h1];rfl
  .rw[getElem?_append_right (by simpa using hi),List.getElem?_replicate]at e;split at e<;>cases e
section
variable{P:Program}{w:World}{K:Yj}{mg:Yc}{base:Heap}
def okM{x qual:Str}{st:Stmt}{f:Addr}{fd:FuncData}{N ps:Yb}{k:Nat}(Fb:AY)(F:Fun K x qual st f fd)(Sc:FnScope N ps (zN st))
  (hbody: ∀(cdv:Value)(A:Around)(outer:List Env)(s:Shared)(H:Hp)(E:XK),Room k (A.deeper (envOfC qual (zN st) s.heap.objs.size f cdv))->
   vE (IM CZ P w K mg base N qual (zN st) f cdv A outer s H E).nox W0 (bK st) Fb):
  FnOk P w K mg base CZ (k+1) f fd ps (QF ⟨K,mg,P,w⟩ ps.length λds S=>yB (Fb (zR N ds) S)):=by
 refine F.ok Sc (λvs H Q E h=>?_) (λcdv A outer s H vs Q E hr h=>?_)
 .obtain⟨α,S,ds,_,l,hl,_⟩:=h;rw[l.length,hl]
 .obtain⟨α,S,ds,wd,l,hl,q⟩:=h;obtain⟨t,ht,kk⟩:=hbody cdv A outer s H E hr;refine⟨t,ht,kk α (zR N ds) S (start N vs) H _ wd (MW l) ?_⟩;dsimp only at q
  cases z:Fb (zR N ds) S with
  |ok fl S'=>
   rw[z]at q
   cases fl with
   |next ρ=>exact λσ α' H' x' w' s'=>q .non α' H' x' w' (DenE.val tK)
   |ret r=>exact λv α' H' x' w' d'=>q v α' H' x' w' d'
   |brk ρ=>exact q.elim
   |cont ρ=>exact q.elim
  |exc c fs S'=>rw[z]at q;exact λα' H' x' w'=>q α' H' x' w'
  |no=>rw[z]at q;exact q
end
inductive Vw where
 |fl (v:V)|tp (ds:Za)|ls (ds:Za)
def kH(S:Sto):Er->Option (List MV)
 |.new ds=>some ds
 |.val (.scr ds)=>some ds
 |.val (.loc l)=>match S[l]? with
  |some (.lst ds)=>some ds
  |_=>none
 |_=>none
def GX(S:Sto):Er->Option Vw
 |.val .non=>some (.fl .non)
 |.val (.bl b)=>some (.fl (.bl b))
 |.val (.int i)=>some (.fl (.int i))
 |.val (.str x)=>some (.fl (.str (bL x)))
 |.val (.tup ds)=>some (.tp ds)
 |.val (.typ _)=>none
 |.val (.obj _ _ _)=>none
 |r=>(kH S r).map .ls
def BL(e:MV->MV->Option Bool):List MV->List MV->Option (List Bool)
 |d::ds,f::fs=>(e d f).bind λk=>(BL e ds fs).map (k::·)
 |_,_=>some []
def On(e:MV->MV->Option Bool):Vw->Vw->Option Bool
 |.fl x,.fl y=>some (Em x y)
 |.tp ds,.tp es=>(BL e ds es).map λbs=>bs.all id&&ds.length==es.length
 |.ls ds,.ls es=>if ds.length=es.length then(BL e ds es).map λbs=>bs.all id else some false
 |_,_=>some false
theorem QG(e:MV->MV->Option Bool)(ds es:Za):On e (.tp ds) (.tp es)=(BL e ds es).map λbs=>bs.all id&&ds.length==es.length:=rfl
theorem QH(e:MV->MV->Option Bool)(ds es:Za):On e (.ls ds) (.ls es)=if ds.length=es.length then(BL e ds es).map λbs=>bs.all id else some false:=rfl
def eqv(S:Sto):Nat->MV->MV->Option Bool
 |0,_,_=>none
 |n+1,a,b=>(GX S (.val a)).bind λx=>(GX S (.val b)).bind λy=>On (eqv S n) x y
def DO(S:Sto)(n:Nat)(a b:Er):Option Bool:=(GX S a).bind λx=>(GX S b).bind λy=>On (eqv S n) x y
section
variable{X:Cx}{α:Ya}{S:Sto}{H:Hp}
def rS{K:Yj}{g:Gm}(hK:g.K=K)(wd:Wd g α S H){r:Er}{ds:Za}{x:V}(e:kH S r=some ds)(d:DenX K α H r x): ∃a vs,x=.ref a/\SqL K H a vs/\DenL K α H ds vs:=by
 subst hK;unfold kH at e;split at e
 .cases e;obtain⟨b,vs,rfl,h,_,l⟩:=d;exact⟨b,vs,rfl,.of h,l⟩
 .cases e;obtain⟨a,vs,rfl,s,l⟩:=DL d;exact⟨a,vs,rfl,s.l,l⟩
 .rename_i n;obtain⟨a,rfl,h⟩:=fE d;split at e
  .rename_i es hS;cases e;obtain⟨vs,h1,l⟩:=wd.obj n a _ h hS;exact⟨a,vs,rfl,.of h1,l⟩
  .cases e
 .cases e
def pF{r:Er}{x y:V}(e:GX S r=some (.fl y))(d:DenX X.K α H r x):x=y/\mK y=true:=by
 unfold GX at e;split at e
 .cases e;exact⟨vC d,rfl⟩
 .cases e;exact⟨DI d,rfl⟩
 .cases e;exact⟨yS d,rfl⟩
 .cases e;exact⟨nS d,rfl⟩
 .cases e
 .cases e
 .cases e
 .cases z:kH S r<;>rw[z]at e<;>cases e
def pG{r:Er}{x:V}{ds:Za}(e:GX S r=some (.tp ds))(d:DenX X.K α H r x): ∃a vs,x=.ref a/\SqT X.K H a vs/\DenL X.K α H ds vs:=by
 unfold GX at e;split at e
 .cases e
 .cases e
 .cases e
 .cases e
 .cases e;exact nT d
 .cases e
 .cases e
 .cases z:kH S r<;>rw[z]at e<;>cases e
def pH(wd:Wd X.g α S H){r:Er}{x:V}{ds:Za}(e:GX S r=some (.ls ds))(d:DenX X.K α H r x): ∃a vs,x=.ref a/\SqL X.K H a vs/\DenL X.K α H ds vs:=by
 unfold GX at e;split at e
 .cases e
 .cases e
 .cases e
 .cases e
 .cases e
 .cases e
 .cases e
 .cases z:kH S r with
  |none=>rw[z]at e;cases e
  |some es=>rw[z]at e;cases e;exact rS rfl wd z d
theorem qV{e:MV->MV->Option Bool}: ∀{ds es:Za}{bs:Yg},BL e ds es=some bs->bs.length=min ds.length es.length
 |[],_,_,h=>by simp[BL]at h;subst h;simp
 |_::_,[],_,h=>by simp[BL]at h;subst h;simp
 |d::ds,f::fs,bs,h=>by
  unfold BL at h
  cases z:e d f with
  |none=>rw[z]at h;cases h
  |some k=>
   rw[z]at h
   cases z2:BL e ds fs with
   |none=>simp[z2]at h
   |some cs=>
    simp[z2]at h;subst h;simp[qV z2]
theorem JB{e:MV->MV->Option Bool}: ∀{ds es:Za}{bs:Yg}{j:Nat}{d f:MV},BL e ds es=some bs->ds[j]? =some d->es[j]? =some f->e d f=some (bs.getD j true)
 |[],_,_,_,_,_,h,h1,_=>by simp at h1
 |_::_,[],_,_,_,_,h,_,h2=>by simp at h2
 |d::ds,f::fs,bs,j,d',f',h,h1,h2=>by
  unfold BL at h
  cases z:e d f with
  |none=>rw[z]at h;cases h
  |some k=>
   rw[z]at h
   cases z2:BL e ds fs with
   |none=>simp[z2]at h
   |some cs=>
    simp[z2]at h;subst h
    cases j with
    |zero=>simp at h1 h2;subst h1 h2;simpa using z
    |succ j=>simpa using JB z2 (by simpa using h1) (by simpa using h2)
def range_all{bs:Yg}{n:Nat}(h:bs.length=n):(List.range n).all (λj=>bs.getD j true)=bs.all id:=by
 subst h;rw[Bool.eq_iff_iff,List.all_eq_true,List.all_eq_true];constructor
 .intro h x hx;obtain⟨i,hi,rfl⟩:=List.getElem_of_mem hx;have:=h i (mem_range.mpr hi);simpa [List.getD_eq_getElem?_getD,hi]using this
 .intro h i hi;have hi':=mem_range.mp hi;have:=h bs[i] (getElem_mem hi');simpa [List.getD_eq_getElem?_getD,hi']using this
variable{pins:Ye}{σ:St}{s:Shared}
def tM(I:Inv X pins σ H s){a:Addr}{xs ys:List V}(h:SqL X.K H a xs)(h':SqT X.K H a ys):False:=by obtain⟨_,_,pl,_⟩:=I.list h;obtain⟨_,_,pt,_⟩:=I.tuple h';obtain⟨o,n,e,c,_,_⟩:=pl;obtain⟨o',e',c',_⟩:=pt;rw[e]at e';cases e';rw[c]at c';exact absurd c' (by simp)
def YZ(I:Inv X pins σ H s)(wd:Wd X.g α S H){e:MV->MV->Option Bool}(he: ∀d f v k,Den X.K α H d v->Den X.K α H f v->e d f=some k->k=true){a b:Er}{x:V}{p q:Vw}{k:Bool}
  (ha:GX S a=some p) (hb:GX S b=some q) (da:DenX X.K α H a x) (db:DenX X.K α H b x) (h:On e p q=some k):k=true:=by
 have hp: ∀{ds es:Za}{vs:List V}{bs:Yg},DenL X.K α H ds vs->DenL X.K α H es vs->BL e ds es=some bs->bs.all id=true:=by
  intro ds es vs bs l1 l2 z;rw[List.all_eq_true];intro k hk;obtain⟨i,hi,rfl⟩:=List.getElem_of_mem hk;have hl:=qV z;have h1:i<ds.length:=by omega
  have h2:i<es.length:=by omega
  obtain⟨v,g1,g2⟩:=l1.at (gE h1);obtain⟨v',g3,g4⟩:=l2.at (gE h2);rw[g1]at g3;cases g3;have:=he _ _ _ _ g2 g4 (JB z (gE h1) (gE h2));simpa [List.getD_eq_getElem?_getD,hi]using this
 cases p with
 |fl y=>
  obtain⟨rfl,f1⟩:=pF ha da
  cases q with
  |fl z=>obtain⟨rfl,f2⟩:=pF hb db;cases h;exact YO f1
  |tp ds=>obtain⟨a,vs,rfl,_⟩:=pG hb db;exact absurd (show false=true from f1) xF0
  |ls ds=>obtain⟨a,vs,rfl,_⟩:=pH wd hb db;exact absurd (show false=true from f1) xF0
 |tp ds=>
  obtain⟨a1,vs,rfl,s1,l1⟩:=pG ha da
  cases q with
  |fl z=>obtain⟨rfl,f2⟩:=pF hb db;exact absurd (show false=true from f2) xF0
  |tp es=>
   obtain⟨a2,us,e2,s2,l2⟩:=pG hb db;cases e2;cases I.tuple_inj s1 s2;rw[QG]at h
   cases z:BL e ds es with
   |none=>rw[z]at h;cases h
   |some bs=>
    rw[z]at h;cases h;show(bs.all id&&ds.length==es.length)=true;rw[hp l1 l2 z, <-l1.length, <-l2.length];simp
  |ls es=>obtain⟨a2,us,e2,s2,l2⟩:=pH wd hb db;cases e2;exact(tM I s2 s1).elim
 |ls ds=>
  obtain⟨a1,vs,rfl,s1,l1⟩:=pH wd ha da
  cases q with
  |fl z=>obtain⟨rfl,f2⟩:=pF hb db;exact absurd (show false=true from f2) xF0
  |tp es=>obtain⟨a2,us,e2,s2,l2⟩:=pG hb db;cases e2;exact(tM I s1 s2).elim
  |ls es=>
   obtain⟨a2,us,e2,s2,l2⟩:=pH wd hb db;cases e2;cases I.list_inj s1 s2;rw[QH]at h;rw[iP (by rw[<-l1.length, <-l2.length])]at h
   cases z:BL e ds es with
   |none=>rw[z]at h;cases h
   |some bs=>rw[z]at h;cases h;exact hp l1 l2 z
theorem DP(I:Inv X pins σ H s)(wd:Wd X.g α S H): ∀(n:Nat)(d f:MV)(v:V)(k:Bool),Den X.K α H d v->Den X.K α H f v->eqv S n d f=some k->k=true
 |0,_,_,_,_,_,_,h=>by cases h
 |n+1,d,f,v,k,h1,h2,h=>by
  unfold eqv at h
  cases za:GX S (.val d)with
  |none=>rw[za]at h;cases h
  |some p=>
   cases zb:GX S (.val f)with
   |none=>rw[za,zb]at h;cases h
   |some q=>
    rw[za,zb]at h;exact YZ I wd (DP I wd n) za zb (a:=.val d) (b:=.val f) h1 h2 h
def tN{e:MV->MV->Option Bool}{A:Around}(he: ∀d f x y u v k,Den X.K α H d x->Den X.K α H f y->RelV x u->RelV y v->e d f=some k->SeqAt.EqAt A s u v k)
  {ds es:Za} {vs us:List V} {its its2:Xj} {bs:Yg} (l1:DenL X.K α H ds vs) (l2:DenL X.K α H es us) (r1:Vals vs its) (r2:Vals us its2) (z:BL e ds es=some bs):
  ∀j (h1:j<its.toArray.size) (h2:j<its2.toArray.size),SeqAt.EqAt A s its.toArray[j] its2.toArray[j] (bs.getD j true):=by
 intro j h1 h2;have g1:j<vs.length:=by rw[r1.length];simpa using h1
 have g2:j<us.length:=by rw[r2.length];simpa using h2
 obtain⟨d,d1,d2⟩:=l1.get (gE g1);obtain⟨f,f1,f2⟩:=l2.get (gE g2);obtain⟨u,u1,u2⟩:=r1.get (gE g1);obtain⟨v,v1,v2⟩:=r2.get (gE g2);have e1:its.toArray[j]=u:=by have:its[j]? =some (its[j]'(by simpa using h1)):=gE _;rw[u1]at this;simpa using(Option.some.inj this).symm
 have e2:its2.toArray[j]=v:=by have:its2[j]? =some (its2[j]'(by simpa using h2)):=gE _;rw[v1]at this;simpa using(Option.some.inj this).symm
 rw[e1,e2];exact he d f _ _ u v _ d2 f2 u2 v2 (JB z d1 f1)
theorem vF(I:Inv X pins σ H s)(wd:Wd X.g α S H): ∀(n:Nat)(A:Around)(d f:MV)(x y:V)(u v:Value)(k:Bool),A.units+n<cLine->Den X.K α H d x->Den X.K α H f y->RelV x u->RelV y v->eqv S n d f=some k->SeqAt.EqAt A s u v k
 |0,_,_,_,_,_,_,_,_,_,_,_,_,_,h=>by cases h
 |n+1,A,d,f,x,y,u,v,k,hu,h1,h2,rx,ry,h=>by
  have hu0:A.units<cLine:=by omega
  have hsame:=h;unfold eqv at h
  cases za:GX S (.val d)with
  |none=>rw[za]at h;cases h
  |some p=>
   cases zb:GX S (.val f)with
   |none=>rw[za,zb]at h;cases h
   |some q=>
    rw[za,zb]at h;have h:On (eqv S n) p q=some k:=h;have he:=λd f x y u v k a b c d' e=>vF I wd n A.in1 d f x y u v k (show A.units+1+n<cLine by omega) a b c d' e
    cases p with
    |fl x'=>
     obtain⟨rfl,fx⟩:=pF za (α:=α) (H:=H) (X:=X) h1
     cases q with
     |fl y'=>obtain⟨rfl,fy⟩:=pF zb (α:=α) (H:=H) (X:=X) h2;cases h;exact Mv rx ry fx fy
     |tp es=>
      obtain⟨b,us,rfl,s2,l2⟩:=pG zb (α:=α) (H:=H) (X:=X) h2;cases ry;cases h;obtain⟨its,_,pt,_⟩:=I.tuple s2;exact(AG rx fx pt hu0).2.1
     |ls es=>
      obtain⟨b,us,rfl,s2,l2⟩:=pH wd zb h2;cases ry;cases h;obtain⟨its,_,pl,_⟩:=I.list s2;exact(GS rx fx pl.isList hu0).2.1
    |tp ds=>
     obtain⟨a,vs,rfl,s1,l1⟩:=pG za (α:=α) (H:=H) (X:=X) h1;cases rx;obtain⟨its,r1,pt,_⟩:=I.tuple s1
     cases q with
     |fl y'=>obtain⟨rfl,fy⟩:=pF zb (α:=α) (H:=H) (X:=X) h2;cases h;exact(AG ry fy pt hu0).1
     |tp es=>
      obtain⟨b,us,rfl,s2,l2⟩:=pG zb (α:=α) (H:=H) (X:=X) h2;cases ry;by_cases hab:a=b
      .subst hab;rw[DP I wd (n+1) d f _ k h1 h2 hsame];exact SeqAt.EqAt.same _
      .obtain⟨its2,r2,pt2,_⟩:=I.tuple s2;rw[QG]at h
       cases z:BL (eqv S n) ds es with
       |none=>rw[z]at h;cases h
       |some bs=>
        rw[z]at h;cases h;have:=SeqAt.RcAt.tuples pt pt2 hu0 (tN he l1 l2 r1 r2 z);have hl:=qV z;rw[range_all (by rw[hl];simp[<-r1.length, <-r2.length,l1.length,l2.length])]at this;have e3:(its.toArray.size==its2.toArray.size)=(ds.length==es.length):=by simp[<-r1.length, <-r2.length,l1.length,l2.length]
        rw[e3]at this;exact SeqAt.EqAt.of_refs hab this
     |ls es=>
      obtain⟨b,us,rfl,s2,l2⟩:=pH wd zb h2;cases ry;cases h;obtain⟨its2,_,pl,_⟩:=I.list s2;exact SeqAt.EqAt.tuple_list pt pl.isList hu0
    |ls ds=>
     obtain⟨a,vs,rfl,s1,l1⟩:=pH wd za h1;cases rx;obtain⟨its,r1,pl,_⟩:=I.list s1
     cases q with
     |fl y'=>obtain⟨rfl,fy⟩:=pF zb (α:=α) (H:=H) (X:=X) h2;cases h;exact(GS ry fy pl.isList hu0).1
     |tp es=>
      obtain⟨b,us,rfl,s2,l2⟩:=pG zb (α:=α) (H:=H) (X:=X) h2;cases ry;cases h;obtain⟨its2,_,pt,_⟩:=I.tuple s2;exact SeqAt.EqAt.list_tuple pl.isList pt hu0
     |ls es=>
      obtain⟨b,us,rfl,s2,l2⟩:=pH wd zb h2;cases ry;by_cases hab:a=b
      .subst hab;rw[DP I wd (n+1) d f _ k h1 h2 hsame];exact SeqAt.EqAt.same _
      .obtain⟨its2,r2,pl2,_⟩:=I.list s2;rw[QH]at h;by_cases hl:ds.length=es.length
       .rw[iP hl]at h
        cases z:BL (eqv S n) ds es with
        |none=>rw[z]at h;cases h
        |some bs=>
         rw[z]at h;cases h;have hs:its.toArray.size=its2.toArray.size:=by simp[<-r1.length, <-r2.length,l1.length,l2.length,hl]
         have:=SeqAt.RcAt.lists pl.isList pl2.isList hs hu0 (tN he l1 l2 r1 r2 z);have hl':=qV z;rw[range_all (by rw[hl'];simp[<-r1.length,l1.length,hl])]at this;exact SeqAt.EqAt.of_refs hab this
       .rw[iN hl]at h;cases h;exact SeqAt.EqAt.of_refs hab (SeqAt.RcAt.lists_lengths pl.isList pl2.isList (by simpa [<-r1.length, <-r2.length,l1.length,l2.length]using hl) hu0)
def Km{RC:Around->Shared->Value->Value->Bool->Prop}{tr:Bool->Bool}{A:Around}
  (hff: ∀x y u v,RelV x u->RelV y v->mK x=true->mK y=true->RC A s u v (tr (Em x y)))
  (hfl: ∀x v l items,RelV x v->mK x=true->s.heap.IsList l items->A.units<cLine->RC A s v (.ref l) (tr false)/\RC A s (.ref l) v (tr false))
  (hft: ∀x v l items,RelV x v->mK x=true->s.heap.IsTuple l items->A.units<cLine->RC A s v (.ref l) (tr false)/\RC A s (.ref l) v (tr false))
  (hlt: ∀l b items items2,s.heap.IsList l items->s.heap.IsTuple b items2->A.units<cLine->RC A s (.ref l) (.ref b) (tr false)/\RC A s (.ref b) (.ref l) (tr false))
  (htt: ∀(l b:Addr)(items items2:Xk)(e:Nat->Bool),s.heap.IsTuple l items->s.heap.IsTuple b items2->A.units<cLine->(∀j (h1:j<items.size) (h2:j<items2.size),SeqAt.EqAt A.in1 s items[j] items2[j] (e j))->RC A s (.ref l) (.ref b) (tr ((List.range (min items.size items2.size)).all e&&items.size==items2.size)))
  (hll: ∀(l b:Addr)(items items2:Xk)(e:Nat->Bool),s.heap.IsList l items->s.heap.IsList b items2->items.size=items2.size->A.units<cLine->(∀j (h1:j<items.size) (h2:j<items2.size),SeqAt.EqAt A.in1 s items[j] items2[j] (e j))->RC A s (.ref l) (.ref b) (tr ((List.range items.size).all e)))
  (hln: ∀(l b:Addr)(items items2:Xk),s.heap.IsList l items->s.heap.IsList b items2->(items.size !=items2.size)=true->A.units<cLine->RC A s (.ref l) (.ref b) (tr false))
  (I:Inv X pins σ H s) (wd:Wd X.g α S H) (n:Nat) {a b:Er} {x y:V} {u v:Value} {k:Bool} (hu:A.units+(n+1)<cLine) (h1:DenX X.K α H a x) (h2:DenX X.K α H b y) (rx:RelV x u) (ry:RelV y v) (h:DO S n a b=some k):RC A s u v (tr k):=by
 have hu0:A.units<cLine:=by omega
 unfold DO at h
 cases za:GX S a with
 |none=>rw[za]at h;cases h
 |some p=>
  cases zb:GX S b with
  |none=>rw[za,zb]at h;cases h
  |some q=>
   rw[za,zb]at h;have h:On (eqv S n) p q=some k:=h;have he:=λd f x y u v k a b c d' e=>vF I wd n A.in1 d f x y u v k (show A.units+1+n<cLine by omega) a b c d' e
   cases p with
   |fl x'=>
    obtain⟨rfl,fx⟩:=pF za h1
    cases q with
    |fl y'=>obtain⟨rfl,fy⟩:=pF zb h2;cases h;exact hff _ _ _ _ rx ry fx fy
    |tp es=>
     obtain⟨b,us,rfl,s2,l2⟩:=pG zb h2;cases ry;cases h;obtain⟨its,_,pt,_⟩:=I.tuple s2;exact(hft _ _ _ _ rx fx pt hu0).1
    |ls es=>
     obtain⟨b,us,rfl,s2,l2⟩:=pH wd zb h2;cases ry;cases h;obtain⟨its,_,pl,_⟩:=I.list s2;exact(hfl _ _ _ _ rx fx pl.isList hu0).1
   |tp ds=>
    obtain⟨a,vs,rfl,s1,l1⟩:=pG za h1;cases rx;obtain⟨its,r1,pt,_⟩:=I.tuple s1
    cases q with
    |fl y'=>obtain⟨rfl,fy⟩:=pF zb h2;cases h;exact(hft _ _ _ _ ry fy pt hu0).2
    |tp es=>
     obtain⟨b,us,rfl,s2,l2⟩:=pG zb h2;cases ry;obtain⟨its2,r2,pt2,_⟩:=I.tuple s2;rw[QG]at h
     cases z:BL (eqv S n) ds es with
     |none=>rw[z]at h;cases h
     |some bs=>
      rw[z]at h;cases h;have:=htt _ _ _ _ _ pt pt2 hu0 (tN he l1 l2 r1 r2 z);have hl:=qV z;rw[range_all (by rw[hl];simp[<-r1.length, <-r2.length,l1.length,l2.length])]at this;have e3:(its.toArray.size==its2.toArray.size)=(ds.length==es.length):=by simp[<-r1.length, <-r2.length,l1.length,l2.length]
      rw[e3]at this;exact this
    |ls es=>
     obtain⟨b,us,rfl,s2,l2⟩:=pH wd zb h2;cases ry;cases h;obtain⟨its2,_,pl,_⟩:=I.list s2;exact(hlt _ _ _ _ pl.isList pt hu0).2
   |ls ds=>
    obtain⟨a,vs,rfl,s1,l1⟩:=pH wd za h1;cases rx;obtain⟨its,r1,pl,_⟩:=I.list s1
    cases q with
    |fl y'=>obtain⟨rfl,fy⟩:=pF zb h2;cases h;exact(hfl _ _ _ _ ry fy pl.isList hu0).2
    |tp es=>
     obtain⟨b,us,rfl,s2,l2⟩:=pG zb h2;cases ry;cases h;obtain⟨its2,_,pt,_⟩:=I.tuple s2;exact(hlt _ _ _ _ pl.isList pt hu0).1
    |ls es=>
     obtain⟨b,us,rfl,s2,l2⟩:=pH wd zb h2;cases ry;obtain⟨its2,r2,pl2,_⟩:=I.list s2;rw[QH]at h;by_cases hl:ds.length=es.length
     .rw[iP hl]at h
      cases z:BL (eqv S n) ds es with
      |none=>rw[z]at h;cases h
      |some bs=>
       rw[z]at h;cases h;have hs:its.toArray.size=its2.toArray.size:=by simp[<-r1.length, <-r2.length,l1.length,l2.length,hl]
       have:=hll _ _ _ _ _ pl.isList pl2.isList hs hu0 (tN he l1 l2 r1 r2 z);have hl':=qV z;rw[range_all (by rw[hl'];simp[<-r1.length,l1.length,hl])]at this;exact this
     .rw[iN hl]at h;cases h;exact hln _ _ _ _ pl.isList pl2.isList (by simpa [<-r1.length, <-r2.length,l1.length,l2.length]using hl) hu0
def Oo(I:Inv X pins σ H s)(wd:Wd X.g α S H)(n:Nat){A:Around}{a b:Er}{x y:V}{u v:Value}{k:Bool}(hu:A.units+(n+1)<cLine)(h1:DenX X.K α H a x)(h2:DenX X.K α H b y)(rx:RelV x u)(ry:RelV y v)(h:DO S n a b=some k):SeqAt.RcAt A s u v k:=
 Km (RC:=SeqAt.RcAt) (tr:=id) (λ_ _ _ _ a b c d=>(YN a b c d).1) (λ_ _ _ _ a b c d=>⟨(GS a b c d).2.2.2.1,(GS a b c d).2.2.1⟩) (λ_ _ _ _ a b c d=>⟨(AG a b c d).2.2.2.1,(AG a b c d).2.2.1⟩)
  (λ_ _ _ _ a b c=>⟨SeqAt.RcAt.list_tuple a b c,SeqAt.RcAt.tuple_list b a c⟩) (λ_ _ _ _ _ a b c d=>SeqAt.RcAt.tuples a b c d) (λ_ _ _ _ _ a b c d e=>SeqAt.RcAt.lists a b c d e) (λ_ _ _ _ a b c d=>SeqAt.RcAt.lists_lengths a b c d)
  I wd n hu h1 h2 rx ry h
def Oq(I:Inv X pins σ H s)(wd:Wd X.g α S H)(n:Nat){A:Around}{a b:Er}{x y:V}{u v:Value}{k:Bool}(hu:A.units+(n+1)<cLine)(h1:DenX X.K α H a x)(h2:DenX X.K α H b y)(rx:RelV x u)(ry:RelV y v)(h:DO S n a b=some k):SeqAt.RcNeAt A s u v (!k):=
 Km (RC:=SeqAt.RcNeAt) (tr:=λb=>!b) (λ_ _ _ _ a b c d=>(YN a b c d).2) (λ_ _ _ _ a b c d=>⟨(GS a b c d).2.2.2.2.2,(GS a b c d).2.2.2.2.1⟩) (λ_ _ _ _ a b c d=>⟨(AG a b c d).2.2.2.2.2,(AG a b c d).2.2.2.2.1⟩)
  (λ_ _ _ _ a b c=>⟨SeqAt.RcNeAt.list_tuple a b c,SeqAt.RcNeAt.tuple_list b a c⟩) (λ_ _ _ _ _ a b c d=>SeqAt.RcNeAt.tuples a b c d) (λ_ _ _ _ _ a b c d e=>SeqAt.RcNeAt.lists a b c d e) (λ_ _ _ _ a b c d=>SeqAt.RcNeAt.lists_lengths a b c d)
  I wd n hu h1 h2 rx ry h
theorem SI{α β:Type}: ∀{a c:List α}{b d:List β},a.length=b.length->c.length=d.length->a.zip b=c.zip d->a=c/\b=d
 |[],[],[],[],_,_,_=>⟨rfl,rfl⟩
 |[],_::_,[],_::_,_,_,e=>by simp at e
 |_::_,[],_::_,[],_,_,e=>by simp at e
 |x::a,y::c,z::b,w::d,h1,h2,e=>by simp only[zip_cons_cons,List.cons.injEq,Prod.mk.injEq]at e;obtain⟨rfl,rfl⟩:=SI (by simpa using h1) (by simpa using h2) e.2;exact⟨by rw[e.1.1],by rw[e.1.2]⟩
mutual
theorem Den.inj(I:Inv X pins σ H s)(wd:Wd X.g α S H): ∀{d f:MV}{v:V},Den X.K α H d v->Den X.K α H f v->d=f
 |.non,f,v,h,h'=>by cases nQ h;cases f<;>first |rfl|(have:=pE h';cases this;done)|(have:=xM h';cases this;done)|(have:=xN h';cases this;done)|(have:=nR h';cases this;done)|(obtain⟨_,_,e,_⟩:=yN h';cases e;done)|(obtain⟨_,_,e,_⟩:=cQ h';cases e;done)|(obtain⟨_,e,_⟩:=bM h';cases e;done)|(obtain⟨_,_,_,_,_,e,_⟩:=cP h';cases e;done)
 |.bl b,f,v,h,h'=>by cases pE h;cases f<;>first |(have:=pE h';cases this;rfl;done)|(have:=nQ h';cases this;done)|(have:=xM h';cases this;done)|(have:=xN h';cases this;done)|(have:=nR h';cases this;done)|(obtain⟨_,_,e,_⟩:=yN h';cases e;done)|(obtain⟨_,_,e,_⟩:=cQ h';cases e;done)|(obtain⟨_,e,_⟩:=bM h';cases e;done)|(obtain⟨_,_,_,_,_,e,_⟩:=cP h';cases e;done)
 |.int b,f,v,h,h'=>by cases xM h;cases f<;>first |(have:=xM h';cases this;rfl;done)|(have:=nQ h';cases this;done)|(have:=pE h';cases this;done)|(have:=xN h';cases this;done)|(have:=nR h';cases this;done)|(obtain⟨_,_,e,_⟩:=yN h';cases e;done)|(obtain⟨_,_,e,_⟩:=cQ h';cases e;done)|(obtain⟨_,e,_⟩:=bM h';cases e;done)|(obtain⟨_,_,_,_,_,e,_⟩:=cP h';cases e;done)
 |.str b,f,v,h,h'=>by cases xN h;cases f<;>first |(have:=xN h';rw[tH (V.str.inj this)];done)|(have:=nQ h';cases this;done)|(have:=pE h';cases this;done)|(have:=xM h';cases this;done)|(have:=nR h';cases this;done)|(obtain⟨_,_,e,_⟩:=yN h';cases e;done)|(obtain⟨_,_,e,_⟩:=cQ h';cases e;done)|(obtain⟨_,e,_⟩:=bM h';cases e;done)|(obtain⟨_,_,_,_,_,e,_⟩:=cP h';cases e;done)
 |.typ b,f,v,h,h'=>by cases nR h;cases f<;>first |(have:=nR h';cases this;rfl;done)|(have:=nQ h';cases this;done)|(have:=pE h';cases this;done)|(have:=xM h';cases this;done)|(have:=xN h';cases this;done)|(obtain⟨_,_,e,_⟩:=yN h';cases e;done)|(obtain⟨_,_,e,_⟩:=cQ h';cases e;done)|(obtain⟨_,e,_⟩:=bM h';cases e;done)|(obtain⟨_,_,_,_,_,e,_⟩:=cP h';cases e;done)
 |.tup ds,f,v,h,h'=>by
  obtain⟨a,vs,rfl,s1,l1⟩:=yN h
  cases f with
  |tup es=>
   obtain⟨a2,us,e2,s2,l2⟩:=yN h';cases e2;cases I.tuple_inj s1 s2;rw[DenL.inj I wd l1 l2]
  |scr es=>obtain⟨a2,us,e2,s2,l2⟩:=cQ h';cases e2;exact(tM I s2.l s1).elim
  |loc l=>
   obtain⟨a2,e2,h2⟩:=bM h';cases e2;obtain⟨ho,k1,k2,k3⟩:=wd.mem (mem_of_getElem? h2);rcases s1 with(s1|⟨o,s1⟩)|⟨o,its,n,s1,_⟩
   .rw[k1]at s1;exact absurd (Option.some.inj s1) (k2 _)
   .rw[k1]at s1;exact(let ⟨_,z⟩:=k3 _ _ (Option.some.inj s1);by cases z)
   .have:=(I.bs a o (I.mod.kin a o s1)).2;rw[k1]at this;cases this
  |non=>cases nQ h'
  |bl b=>cases pE h'
  |int b=>cases xM h'
  |str b=>cases xN h'
  |typ b=>cases nR h'
  |obj c ns es=>
   obtain⟨a2,C,dx,us,o2,e2,h2,_⟩:=cP h';cases e2;rcases s1 with(s1|⟨o,s1⟩)|⟨o,its,n,s1,_⟩
   .rw[h2]at s1;cases s1
   .rw[h2]at s1;cases s1
   .have:=(I.bs a o (I.mod.kin a o s1)).2;rw[h2]at this;cases this
 |.scr ds,f,v,h,h'=>by
  obtain⟨a,vs,rfl,s1,l1⟩:=cQ h
  cases f with
  |scr es=>
   obtain⟨a2,us,e2,s2,l2⟩:=cQ h';cases e2;cases I.list_inj s1.l s2.l;rw[DenL.inj I wd l1 l2]
  |tup es=>obtain⟨a2,us,e2,s2,l2⟩:=yN h';cases e2;exact(tM I s1.l s2).elim
  |loc l=>
   obtain⟨a2,e2,h2⟩:=bM h';cases e2;obtain⟨ho,k1,k2,k3⟩:=wd.mem (mem_of_getElem? h2);rcases s1 with⟨o,s1⟩|⟨o,its,n,s1,_⟩
   .rw[k1]at s1;exact(let ⟨_,z⟩:=k3 _ _ (Option.some.inj s1);by cases z)
   .have:=(I.bs a o (I.mod.kin a o s1)).2;rw[k1]at this;cases this
  |non=>cases nQ h'
  |bl b=>cases pE h'
  |int b=>cases xM h'
  |str b=>cases xN h'
  |typ b=>cases nR h'
  |obj c ns es=>
   obtain⟨a2,C,dx,us,o2,e2,h2,_⟩:=cP h';cases e2;rcases s1 with⟨o,s1⟩|⟨o,its,n,s1,_⟩
   .rw[h2]at s1;cases s1
   .have:=(I.bs a o (I.mod.kin a o s1)).2;rw[h2]at this;cases this
 |.loc l,f,v,h,h'=>by
  obtain⟨a,rfl,h1⟩:=bM h;obtain⟨ho,k1,k2,k3⟩:=wd.mem (mem_of_getElem? h1)
  cases f with
  |loc m=>
   obtain⟨a2,e2,h2⟩:=bM h';cases e2;by_cases hlm:l=m
   .rw[hlm]
   .exact absurd rfl (wd.ne h1 h2 hlm)
  |tup es=>
   obtain⟨a2,us,e2,s1,l2⟩:=yN h';cases e2;rcases s1 with(s1|⟨o,s1⟩)|⟨o,its,n,s1,_⟩
   .rw[k1]at s1;exact absurd (Option.some.inj s1) (k2 _)
   .rw[k1]at s1;exact(let ⟨_,z⟩:=k3 _ _ (Option.some.inj s1);by cases z)
   .have:=(I.bs a o (I.mod.kin a o s1)).2;rw[k1]at this;cases this
  |scr es=>
   obtain⟨a2,us,e2,s1,l2⟩:=cQ h';cases e2;rcases s1 with⟨o,s1⟩|⟨o,its,n,s1,_⟩
   .rw[k1]at s1;exact(let ⟨_,z⟩:=k3 _ _ (Option.some.inj s1);by cases z)
   .have:=(I.bs a o (I.mod.kin a o s1)).2;rw[k1]at this;cases this
  |non=>cases nQ h'
  |bl b=>cases pE h'
  |int b=>cases xM h'
  |str b=>cases xN h'
  |typ b=>cases nR h'
  |obj c ns es=>
   obtain⟨a2,C,dx,us,o2,e2,h2,_⟩:=cP h';cases e2;rw[k1]at h2;exact(let ⟨_,z⟩:=k3 _ _ (Option.some.inj h2);by cases z)
 |.obj c ns ds,f,v,h,h'=>by
  obtain⟨a,C,dx,us,o2,rfl,h2,hn,hc,hl,l1⟩:=cP h
  cases f with
  |obj c' ns' es=>
   obtain⟨a2,C2,dx2,us2,o3,e2,h3,hn2,hc2,hl2,l2⟩:=cP h';cases e2;rw[h2]at h3;injection h3 with h3
   injection h3 with _ h3
   injection h3 with e1 e2 e3
   subst e1;rw[hc]at hc2;cases hc2;obtain⟨rfl,rfl⟩:=SI hl hl2 e3;rw[DenL.inj I wd l1 l2]
  |tup es=>
   obtain⟨a2,us,e2,s1,l2⟩:=yN h';cases e2;rcases s1 with(s1|⟨o,s1⟩)|⟨o,its,n,s1,_⟩
   .rw[h2]at s1;cases s1
   .rw[h2]at s1;cases s1
   .have:=(I.bs a o (I.mod.kin a o s1)).2;rw[h2]at this;cases this
  |scr es=>
   obtain⟨a2,us,e2,s1,l2⟩:=cQ h';cases e2;rcases s1 with⟨o,s1⟩|⟨o,its,n,s1,_⟩
   .rw[h2]at s1;cases s1
   .have:=(I.bs a o (I.mod.kin a o s1)).2;rw[h2]at this;cases this
  |loc l=>
   obtain⟨a2,e2,h1⟩:=bM h';cases e2;obtain⟨ho,k1,k2,k3⟩:=wd.mem (mem_of_getElem? h1);rw[k1]at h2;exact(let ⟨_,z⟩:=k3 _ _ (Option.some.inj h2);by cases z)
  |non=>cases nQ h'
  |bl b=>cases pE h'
  |int b=>cases xM h'
  |str b=>cases xN h'
  |typ b=>cases nR h'
theorem DenL.inj(I:Inv X pins σ H s)(wd:Wd X.g α S H): ∀{ds fs:Za}{vs:List V},DenL X.K α H ds vs->DenL X.K α H fs vs->ds=fs
 |[],fs,vs,h,h'=>by
  cases h.isnil
  cases fs with
  |nil=>rfl
  |cons f fs=>obtain⟨_,_,e,_⟩:=h'.uncons;cases e
 |d::ds,fs,vs,h,h'=>by
  obtain⟨v,r,rfl,a,l⟩:=h.uncons
  cases fs with
  |nil=>cases h'.isnil
  |cons f fs=>
   obtain⟨v',r',e,a',l'⟩:=h'.uncons;cases e;rw[Den.inj I wd a a',DenL.inj I wd l l']
end
end
inductive LexR(A:Around)(s:Shared):List Value->List Value->Bool->Prop
 |nn:LexR A s [] [] false
 |nc (x xs):LexR A s [] (x::xs) true
 |cn (y ys):LexR A s (y::ys) [] false
 |eq {y x ys xs k}:SeqAt.EqAt A s y x true->LexR A s ys xs k->LexR A s (y::ys) (x::xs) k
 |ne {y x ys xs k}:SeqAt.EqAt A s y x false->(∀(prog:Program)(w:World)(E Q:VP),Q (.bool k) s->wpAny (model prog w) A (richCompare .Lt y x) Q E s)->LexR A s (y::ys) (x::xs) k
section
open PySem.SeqAt
open PySem.AutoSeq1 (wpAny_loadPart')
open PySem.MeetsSeq PySem.MeetsSeq2 PySem.MeetsSeq3
def DQ(l b:Addr)(its its2:Xk)(n n2:Nat)(dd dd2:Option Addr)(sl sl2:Array (Option Value))(k:Bool):
  Meets (Builtin.«tuple.__lt__» ⟨[.ref l,.ref b],[]⟩)
   (λA R s=>s.heap.get? l=some {cls:=.type "tuple",dict:=dd,data:=.seq its n,slots:=sl}/\s.heap.get? b=some {cls:=.type "tuple",dict:=dd2,data:=.seq its2 n2,slots:=sl2}/\
    LexR A.in1 s its.toList its2.toList k/\R (.ok (.ret (.bool k))) s):=
 .of_wp λprog w A R s h=>by
  obtain⟨hp,g,d,tk,os⟩:=s;obtain⟨hl,hb,hx,h⟩:=h;have f2:=AutoSeq1.sub_tuple_tuple
  wp_walk using wpAny_loadPart' hl,wpAny_loadPart' hb,wpAny_forIn_list _ (λrest b s'=>b.1=none/\s'=⟨hp,g,d,tk,os⟩/\ ∃(vs ws:Xj),rest=vs.zip ws/\
   LexR A.in1 ⟨hp,g,d,tk,os⟩ vs ws k/\vs.length+its2.size=ws.length+its.size) _
  case turn=>
   rintro⟨y,x⟩ rest b s' ⟨hb',rfl,vs,ws,hz,hlx,hlen⟩
   cases hlx with
   |nn=>rw[zip_nil_left]at hz;cases hz
   |nc x xs=>rw[zip_nil_left]at hz;cases hz
   |cn y ys=>rw[List.zip_nil_right]at hz;cases hz
   |@eq y' x' ys xs k' he hr=>
    rw[zip_cons_cons]at hz;injection hz with hyx hrest
    injection hyx with hy hx
    subst hy hx;simp only[lC]at hlen;refine wB (he prog w _ _ ?_)
    wp_walk
    exact⟨rfl,rfl,_,_,hrest,hr,by omega⟩
   |@ne y' x' ys xs k' he hr=>
    rw[zip_cons_cons]at hz;injection hz with hyx hrest
    injection hyx with hy hx
    subst hy hx;refine wB (he prog w _ _ ?_);have hri:=hr prog w
    wp_walk using hri
    exact⟨_,rfl,by simpa using h⟩
  case fin=>
   rintro⟨b1,b2⟩ s' ⟨hb',rfl,vs,ws,hz,hlx,hlen⟩;simp only at hb';subst hb'
   have hv:k=decide (its.size<its2.size):=by
    cases hlx with
    |nn=>simp only[List.length_nil]at hlen;exact(dF0 #[0]).symm
    |nc x xs=>simp only[List.length_nil,lC]at hlen;exact(dT0 #[0]).symm
    |cn y ys=>simp only[List.length_nil,lC]at hlen;exact(dF0 #[0]).symm
    |eq he hr=>rw[zip_cons_cons]at hz;cases hz
    |ne he hr=>rw[zip_cons_cons]at hz;cases hz
   rw[hv]at h
   wp_walk
   exact⟨_,rfl,by simpa [Builtin.Tuple.tupleCompareSizes]using h⟩
  case h=>
   exact⟨rfl,rfl,its.toList,its2.toList,rfl,hx,by simp;omega⟩
end
def ZA{A:Around}{s:Shared}{l b:Addr}{its its2:Xk}{k:Bool}(hl:IsTup s.heap l its)(hb:IsTup s.heap b its2)(hx:LexR A.in1 s its.toList its2.toList k)(hu:A.units<cLine)(prog:Program)(w:World)(E Q:VP)(h:Q (.bool k) s):
  wpAny (model prog w) A (richCompare .Lt (.ref l) (.ref b)) Q E s:=by
 obtain⟨⟨cls,dd,data,sl⟩,ho,hc,n,hd⟩:=id hl;obtain⟨⟨cls2,dd2,data2,sl2⟩,ho2,hc2,n2,hd2⟩:=id hb;simp only at hc hd hc2 hd2;subst hc hd hc2 hd2
 exact richCompare_meets_room (op:=.Lt) ⟨_,ho,rfl⟩ ⟨_,ho2,rfl⟩ PySem.F.slot_tuple_lt PySem.F.entry_tuple_lt (PySem.F.args_tuple_lt_2 _ _) (DQ l b its its2 n n2 dd dd2 sl sl2 k)
  ⟨ho,ho2,hx,show Value.bool k≠Value.notImplemented/\Q (.bool k) s from⟨(λx=>nomatch x),h⟩⟩ hu
def tO(e l:MV->MV->Option Bool):List MV->List MV->Option Bool
 |[],[]=>some false
 |[],_::_=>some true
 |_::_,[]=>some false
 |d::ds,f::fs=>(e d f).bind λk=>if k=true then tO e l ds fs else l d f
def uX(S:Sto):Nat->MV->MV->Option Bool
 |0,_,_=>none
 |n+1,.int i,.int j=>some (decide (i<j))
 |n+1,.str x,.str y=>some (decide (x<y))
 |n+1,.tup ds,.tup es=>tO (eqv S n) (uX S n) ds es
 |_,_,_=>none
section
variable{X:Cx}{α:Ya}{S:Sto}{H:Hp}{pins:Ye}{σ:St}{s:Shared}
theorem SJ{A:Around}{e l:MV->MV->Option Bool}(he: ∀d f x y u v k,Den X.K α H d x->Den X.K α H f y->RelV x u->RelV y v->e d f=some k->SeqAt.EqAt A s u v k)
  (hl: ∀d f x y u v k,Den X.K α H d x->Den X.K α H f y->RelV x u->RelV y v->l d f=some k-> ∀(prog:Program)(w:World)(E Q:VP),Q (.bool k) s->wpAny (model prog w) A (richCompare .Lt u v) Q E s):
  ∀{ds fs:Za}{vs us:List V}{its its2:Xj}{k:Bool},DenL X.K α H ds vs->DenL X.K α H fs us->Vals vs its->Vals us its2->tO e l ds fs=some k->LexR A s its its2 k
 |[],[],_,_,_,_,k,l1,l2,r1,r2,h=>by cases l1.isnil;cases l2.isnil;cases r1;cases r2;cases h;exact .nn
 |[],f::fs,_,_,_,_,k,l1,l2,r1,r2,h=>by
  cases l1.isnil;obtain⟨v,r,rfl,a,l⟩:=l2.uncons;cases r1
  cases r2 with
  |cons a b=>cases h;exact .nc _ _
 |d::ds,[],_,_,_,_,k,l1,l2,r1,r2,h=>by
  cases l2.isnil;obtain⟨v,r,rfl,a,l⟩:=l1.uncons;cases r2
  cases r1 with
  |cons a b=>cases h;exact .cn _ _
 |d::ds,f::fs,_,_,_,_,k,l1,l2,r1,r2,h=>by
  obtain⟨v,r,rfl,a,l1'⟩:=l1.uncons;obtain⟨v2,r3,rfl,a2,l2'⟩:=l2.uncons
  cases r1 with
  |cons b1 c1=>
   cases r2 with
   |cons b2 c2=>
    unfold tO at h
    cases z:e d f with
    |none=>rw[z]at h;cases h
    |some kk=>
     rw[z]at h;have h:(if kk=true then tO e l ds fs else l d f)=some k:=h
     cases kk with
     |true=>
      rw[iP rfl]at h;exact .eq (he d f _ _ _ _ _ a a2 b1 b2 z) (SJ he hl l1' l2' c1 c2 h)
     |false=>
      rw[iN xF0]at h;exact .ne (he d f _ _ _ _ _ a a2 b1 b2 z) (hl d f _ _ _ _ _ a a2 b1 b2 h)
theorem JC(I:Inv X pins σ H s)(wd:Wd X.g α S H): ∀(n:Nat)(A:Around)(d f:MV)(x y:V)(u v:Value)(k:Bool),A.units+n<cLine->Den X.K α H d x->Den X.K α H f y->RelV x u->RelV y v->uX S n d f=some k->
  ∀(prog:Program)(w:World)(E Q:VP),Q (.bool k) s->wpAny (model prog w) A (richCompare .Lt u v) Q E s
 |0,_,_,_,_,_,_,_,_,_,_,_,_,_,h=>by cases h
 |n+1,A,d,f,x,y,u,v,k,hu,h1,h2,rx,ry,h=>by
  intro prog w E Q hq;unfold uX at h;split at h
  .cases h
  .cases h;cases xM h1;cases xM h2;obtain⟨t,rfl⟩:=rx;obtain⟨t',rfl⟩:=ry;exact(PyProof.Rows.lt_int hq:wpAny (model prog w) A (compareOp .Lt _ _) Q E s)
  .cases h;cases xN h1;cases xN h2;obtain⟨t,rfl⟩:=rx;obtain⟨t',rfl⟩:=ry;refine(PySem.P.lt_str ?_:wpAny (model prog w) A (compareOp .Lt _ _) Q E s);rw[tG,tG];exact hq
  .rename_i n' ds es hn;obtain⟨a,vs,rfl,s1,l1⟩:=yN h1;obtain⟨b,us,rfl,s2,l2⟩:=yN h2;cases rx;cases ry;obtain⟨its,r1,pt,_⟩:=I.tuple s1;obtain⟨its2,r2,pt2,_⟩:=I.tuple s2;cases hn;refine ZA pt pt2 ?_ #[0] prog w E Q hq
   exact SJ (λd f x y u v k a b c d' e=>vF I wd n A.in1 d f x y u v k (show A.units+1+n<cLine by omega) a b c d' e)
    (λd f x y u v k a b c d' e=>JC I wd n A.in1 d f x y u v k (show A.units+1+n<cLine by omega) a b c d' e) l1 l2 r1 r2 h
  .cases h
end
section
variable{X:Cx}{W:XW}{a b c e:Expr}{es:Yi}{f g h:AX}{pos:Pos}
def Dk(C:Int->Int->Prop)[∀i j,Decidable (C i j)](g:Int->Int->Int):Er->Er->Sto->R Er
 |.val (.int i),.val (.int j),S=>if C i j then .ok (.val (.int (g i j))) S else .no
 |_,_,_=>.no
def Xd(g:Int->Int->Bool):Er->Er->Sto->R Er
 |.val (.int i),.val (.int j),S=>.ok (.val (.bl (g i j))) S
 |_,_,_=>.no
def QI{C C':Int->Int->Prop}[∀i j,Decidable (C i j)]{g:Int->Int->Int}(h: ∀i j,C i j->C' i j):VJ X W (rI C' λi j=>.int (g i j)) (Dk C g):=by
 intro p q x y α S H Q wd dp dq post;unfold Dk at post;split at post
 .split at post
  .rename_i hc;exact⟨_,_,yS dp,yS dq,h _ _ hc,Post.val post wd (wX _)⟩
  .exact post.elim
 .exact post.elim
def JD{g:Int->Int->Int}:VJ X W (Ea λi j=>.int (g i j)) (Dk (λ_ _=>True) g):=by
 intro p q x y α S H Q wd dp dq post;unfold Dk at post;split at post
 .rw[iP trivial]at post;exact⟨_,_,yS dp,yS dq,Post.val post wd (wX _)⟩
 .exact post.elim
def Os{g:Int->Int->Bool}:VJ X W (Ea λi j=>.bl (g i j)) (Xd g):=by
 intro p q x y α S H Q wd dp dq post;unfold Xd at post;split at post
 .exact⟨_,_,yS dp,yS dq,Post.val post wd (nP _)⟩
 .exact post.elim
abbrev ZC:=Dk (λ_ _=>True) λi j=>i - j
def Ot(ha:zO X W a f)(hb:zO X W b g):zO X W (.BinOp a .Sub b pos) (λρ S=>(f ρ S).bind λp S1=>(g ρ S1).bind λq S2=>ZC p q S2):=AH Mg JD ha hb
def VR(_ j:Int):Prop:=0<j/\j.natAbs.log2<9000
instance(i j:Int):Decidable (VR i j):=inferInstanceAs (Decidable (_/\_))
abbrev VT:=Dk VR λi j=>i / j
def ZD:OpR X (binaryOp .FloorDiv) (rI VR λi j=>.int (i / j)):=Wz λi j _ _ _ _ _ hc q=>by have e:i.fdiv j=i / j:=Int.fdiv_eq_ediv_of_nonneg i (Int.le_of_lt hc.1);refine floordiv_int (by have:=hc.1;omega) ?_ (.inl (PyProof.noPylong_of_log2 hc.2));rw[e];exact q
def Ou(ha:zO X W a f)(hb:zO X W b g):zO X W (.BinOp a .FloorDiv b pos) (λρ S=>(f ρ S).bind λp S1=>(g ρ S1).bind λq S2=>VT p q S2):=AH ZD (QI λi j h=>h) ha hb
abbrev MX:=Dk (λ_ j=>0<j) λi j=>i % j
def Ov(ha:zO X W a f)(hb:zO X W b g):zO X W (.BinOp a .Mod b pos) (λρ S=>(f ρ S).bind λp S1=>(g ρ S1).bind λq S2=>MX p q S2):=AH Mh (QI λi j h=>h) ha hb
def Ow(i j:Int):Prop:=0<=j/\(Builtin.Int.intBits i:Int) * j<=2 ^ 27
instance(i j:Int):Decidable (Ow i j):=inferInstanceAs (Decidable (_/\_))
abbrev Gb:=Dk Ow λi j=>i ^ j.toNat
def Gc:OpR X (binaryOp .Pow) (rI Ow λi j=>.int (i ^ j.toNat)):=Wz λ_ _ _ _ _ _ _ hc q=>pow_int hc.1 hc.2 q
def Ox(ha:zO X W a f)(hb:zO X W b g):zO X W (.BinOp a .Pow b pos) (λρ S=>(f ρ S).bind λp S1=>(g ρ S1).bind λq S2=>Gb p q S2):=AH Gc (QI λi j h=>h) ha hb
def shlC(i j:Int):Prop:=0<=j/\j<=1000000/\i.natAbs<2 ^ 64
instance(i j:Int):Decidable (shlC i j):=inferInstanceAs (Decidable (_/\_/\_))
def usubF:Er->Sto->R Er
 |.val (.int i),S=>.ok (.val (.int (-i))) S
 |_,_=>.no
def Gd(S:Sto):Er->Option (List MV)
 |.new ds=>some ds
 |.val (.loc l)=>match S[l]? with
  |some (.lst ds)=>some ds
  |_=>none
 |_=>none
def QJ{α:Ya}{S:Sto}{H:Hp}(wd:Wd X.g α S H){r:Er}{ds:Za}{x:V}(e:Gd S r=some ds)(d:DenX X.K α H r x): ∃a vs,x=.ref a/\H a=some (.lst vs)/\DenL X.K α H ds vs:=by
 unfold Gd at e;split at e
 .cases e;obtain⟨b,vs,rfl,h,_,l⟩:=d;exact⟨b,vs,rfl,h,l⟩
 .rename_i n;obtain⟨a,rfl,h⟩:=fE d;split at e
  .rename_i es hS;cases e;obtain⟨vs,h1,l⟩:=wd.obj n a _ h hS;exact⟨a,vs,rfl,h1,l⟩
  .cases e
 .cases e
def SK(p q:Er)(S:Sto):R Er:=match Gd S p,Gd S q with
 |some x,some y=>if x.length+y.length<=sizeLine then .ok (.new (x++y)) S else .no
 |_,_=>.no
def jR:Er->Er->Sto->R Er
 |.val (.int i),.val (.int j),S=>.ok (.val (.int (i+j))) S
 |.val (.str x),.val (.str y),S=>if x.length+y.length<=sizeLine then .ok (.val (.str (x++y))) S else .no
 |.val (.tup x),.val (.tup y),S=>if x.length+y.length<=sizeLine then .ok (.val (.tup (x++y))) S else .no
 |p,q,S=>SK p q S
def ZE:OpR X (binaryOp .Add) (λx y H Q=> ∃a b ys,x=.ref a/\y=.ref b/\SqT X.K H a []/\SqT X.K H b ys/\Q (.ref b) H):=by
 intro pins s σ H x y v u Q I rx ry h;obtain⟨a,b,ys,rfl,rfl,ha,hb,q⟩:=h;cases rx;cases ry;obtain⟨its,r1,p1,_⟩:=I.tuple ha;obtain⟨its2,r2,p2,_⟩:=I.tuple hb;have e0:its=[]:=r1.nil_iff.mpr rfl;subst e0;obtain⟨⟨cls,dd,data,sl⟩,ho,hc,n,hd⟩:=id p1;obtain⟨⟨cls2,dd2,data2,sl2⟩,ho2,hc2,n2,hd2⟩:=id p2;simp only at hc hd hc2 hd2;subst hc hd hc2 hd2
 exact concat_meets ⟨_,ho,rfl⟩ ⟨_,ho2,rfl⟩ noFill_tuple_add seq_tuple_add PySem.F.slot_tuple_add PySem.F.entry_tuple_add (PySem.F.args_tuple_add_2 _ _)
  (tuple_addW0 a b _ _ n n2 dd dd2 sl sl2 rfl) ⟨ho,ho2,⟨.ref b,H,I,rfl,q⟩⟩
def Oy(ha:zO X W a f)(hb:zO X W b g):zO X W (.BinOp a .Add b pos) (λρ S=>(f ρ S).bind λp S1=>(g ρ S1).bind λq S2=>jR p q S2):=by
 refine AH (Mf.or (PQ.or (Mx.or (Ej.or ZE)))) ?_ ha hb;intro p q x y α S H Q wd dp dq post;unfold jR at post;split at post
 .exact .inl ⟨_,_,yS dp,yS dq,Post.val post wd (wX _)⟩
 .split at post
  .rename_i hz;refine .inr (.inl ⟨_,_,nS dp,nS dq,by rw[gG,gG];exact hz,?_⟩);rw[Eu];exact Post.val post wd (oD _)
  .exact post.elim
 .split at post
  .rename_i xx yy hz;obtain⟨a1,vs,rfl,s1,l1⟩:=nT dp;obtain⟨a2,us,rfl,s2,l2⟩:=nT dq;by_cases h0:vs=[]
   .subst h0;have e0:=l1.length;refine .inr (.inr (.inr (.inr ⟨a1,a2,us,rfl,rfl,s1,s2,?_⟩)));have:xx=[]:=by cases xx with |nil=>rfl|cons _ _=>simp at e0
    subst this;exact Post.val post wd (aR s2 l2)
   .refine .inr (.inr (.inr (.inl ⟨a1,a2,vs,us,rfl,rfl,s1,s2,h0,by rw[l1.length,l2.length];exact hz,λh1=>?_,λh1 p hp=>Post.newt post wd hp (l1.append l2)⟩)));subst h1;have e0:=l2.length;have:yy=[]:=by cases yy with |nil=>rfl|cons _ _=>simp at e0
    subst this;rw[aN]at post;exact Post.val post wd (aR s1 l1)
  .exact post.elim
 .unfold SK at post;split at post
  .rename_i ds1 ds2 e1 e2;split at post
   .rename_i hz;obtain⟨a1,vs,rfl,h1,l1⟩:=QJ wd e1 dp;obtain⟨a2,us,rfl,h2,l2⟩:=QJ wd e2 dq;exact .inr (.inr (.inl ⟨a1,a2,vs,us,rfl,rfl,h1,h2,by rw[l1.length,l2.length];exact hz,λp hp=>Post.newl post wd hp (l1.append l2)⟩))
   .exact post.elim
  .exact post.elim
def mulC(i j:Int):Prop:=(-(2 ^ 64)<i/\i<2 ^ 64)\/(-(2 ^ 64)<j/\j<2 ^ 64)\/(i.natAbs.log2<4000/\j.natAbs.log2<4000)
def SN{i:Int}(h:i.natAbs.log2<4000):Builtin.Int.intBits i<=2 ^ 20:=by
 have e:(2:Nat) ^ 20=1048576:=by decide
 unfold Builtin.Int.intBits;split<;>omega
def mulC.ok{i j:Int}(h:mulC i j):IntMulOk i j:=by
 rcases h with h|h|⟨h1,h2⟩
 .exact CMul.ok (.inl h)
 .exact CMul.ok (.inr h)
 .exact .of_bits (SN h1) (SN h2)
def Ge{X:Cx}:OpR X (binaryOp .Mult) (rI mulC λi j=>.int (i * j)):=Wz λ_ _ _ _ _ _ _ hc q=>mul_int q hc.ok
instance(i j:Int):Decidable (mulC i j):=inferInstanceAs (Decidable (_\/_\/_))
def Kn(p:Er)(k:Int)(S:Sto):R Er:=match Gd S p with
 |some x=>if 0<=k/\k<100000/\x.length * k.toNat<=sizeLine then .ok (.new (List.replicate k.toNat x).flatten) S else .no
 |none=>.no
def vG:Er->Er->Sto->R Er
 |.val (.int i),.val (.int j),S=>if mulC i j then .ok (.val (.int (i * j))) S else .no
 |.val (.str x),.val (.int k),S=>if 0<=k/\k<1000/\x.length<=1000 then .ok (.val (.str (DB x k))) S else .no
 |p,.val (.int k),S=>Kn p k S
 |_,_,_=>.no
theorem DenL.rep{K:Yj}{α:Ya}{H:Hp}{ds:Za}{vs:List V}(l:DenL K α H ds vs): ∀k:Nat,DenL K α H (List.replicate k ds).flatten (List.replicate k vs).flatten
 |0=>zW
 |k+1=>by rw[replicate_succ,flatten_cons,replicate_succ,flatten_cons];exact l.append (DenL.rep l k)
def Oz(ha:zO X W a f)(hb:zO X W b g):zO X W (.BinOp a .Mult b pos) (λρ S=>(f ρ S).bind λp S1=>(g ρ S1).bind λq S2=>vG p q S2):=by
 refine AH (Ge.or (QD.or Mz)) ?_ ha hb;intro p q x y α S H Q wd dp dq post;unfold vG at post;split at post
 .split at post
  .rename_i hc;exact .inl ⟨_,_,yS dp,yS dq,hc,Post.val post wd (wX _)⟩
  .exact post.elim
 .split at post
  .rename_i hc;exact .inr (.inl ⟨_,_,nS dp,yS dq,hc.1,hc.2.1,hc.2.2,Post.val post wd (oD _)⟩)
  .exact post.elim
 .unfold Kn at post;split at post
  .rename_i ds e1;split at post
   .rename_i hc;obtain⟨a1,vs,rfl,h1,l1⟩:=QJ wd e1 dp;exact .inr (.inr ⟨a1,_,vs,rfl,yS dq,h1,by omega,by omega,by rw[l1.length];exact hc.2.2,λp hp=>Post.newl post wd hp (l1.rep _)⟩)
   .exact post.elim
  .exact post.elim
 .exact post.elim
def zG:Nat:=40
def LX(p q:Er)(S:Sto):R Er:=match DO S zG p q with
 |some k=>.ok (.val (.bl k)) S
 |none=>.no
def QK(p q:Er)(S:Sto):R Er:=match DO S zG p q with
 |some k=>.ok (.val (.bl !k)) S
 |none=>.no
def Pa(hu:X.A.units+64<cLine):OpR X (compareOp .Eq) (λx y H Q=> ∃α S p q k,Wd X.g α S H/\DenX X.K α H p x/\DenX X.K α H q y/\DO S zG p q=some k/\Q (.bl k) H):=by intro pins s σ H x y v u Q I rx ry h;obtain⟨α,S,p,q,k,wd,dp,dq,e,hq⟩:=h;exact Oo I wd zG (by unfold zG;omega) dp dq rx ry e X.prog X.w _ _ ⟨.bl k,H,I,rfl,hq⟩
def Pb(hu:X.A.units+64<cLine):OpR X (compareOp .NotEq) (λx y H Q=> ∃α S p q k,Wd X.g α S H/\DenX X.K α H p x/\DenX X.K α H q y/\DO S zG p q=some k/\Q (.bl (!k)) H):=by intro pins s σ H x y v u Q I rx ry h;obtain⟨α,S,p,q,k,wd,dp,dq,e,hq⟩:=h;exact Oq I wd zG (by unfold zG;omega) dp dq rx ry e X.prog X.w _ _ ⟨.bl (!k),H,I,rfl,hq⟩
def Gf:VJ X W (λx y H Q=> ∃α S p q k,Wd X.g α S H/\DenX X.K α H p x/\DenX X.K α H q y/\DO S zG p q=some k/\Q (.bl k) H) LX:=by
 intro p q x y α S H Q wd dp dq post;unfold LX at post;split at post
 .rename_i k e;exact⟨α,S,p,q,k,wd,dp,dq,e,Post.val post wd (nP _)⟩
 .exact post.elim
def Gg:VJ X W (λx y H Q=> ∃α S p q k,Wd X.g α S H/\DenX X.K α H p x/\DenX X.K α H q y/\DO S zG p q=some k/\Q (.bl (!k)) H) QK:=by
 intro p q x y α S H Q wd dp dq post;unfold QK at post;split at post
 .rename_i k e;exact⟨α,S,p,q,k,wd,dp,dq,e,Post.val post wd (nP _)⟩
 .exact post.elim
def Ur(hu:X.A.units+64<cLine)(ha:zO X W a f)(hb:zO X W b g):tE X W (.Compare a [.Eq] [b] pos) (λρ S=>((f ρ S).bind λp S1=>(g ρ S1).bind λq S2=>LX p q S2).bind fF):=sP (Pa hu) Gf ha hb
def Us(hu:X.A.units+64<cLine)(ha:zO X W a f)(hb:zO X W b g):tE X W (.Compare a [.NotEq] [b] pos) (λρ S=>((f ρ S).bind λp S1=>(g ρ S1).bind λq S2=>QK p q S2).bind fF):=sP (Pb hu) Gg ha hb
def Pf:Er->Er->Sto->R Er
 |.val d,.val f,S=>match uX S zG d f with
  |some k=>.ok (.val (.bl k)) S
  |none=>.no
 |_,_,_=>.no
def Pg(hu:X.A.units+64<cLine):OpR X (compareOp .Lt) (λx y H Q=> ∃α S d f k,Wd X.g α S H/\Den X.K α H d x/\Den X.K α H f y/\uX S zG d f=some k/\Q (.bl k) H):=by intro pins s σ H x y v u Q I rx ry h;obtain⟨α,S,d,f,k,wd,dp,dq,e,hq⟩:=h;exact JC I wd zG X.A d f x y v u k (by unfold zG;omega) dp dq rx ry e X.prog X.w _ _ ⟨.bl k,H,I,rfl,hq⟩
def Gh:VJ X W (λx y H Q=> ∃α S d f k,Wd X.g α S H/\Den X.K α H d x/\Den X.K α H f y/\uX S zG d f=some k/\Q (.bl k) H) Pf:=by
 intro p q x y α S H Q wd dp dq post;unfold Pf at post;split at post
 .split at post
  .rename_i k e;exact⟨α,S,_,_,k,wd,dp,dq,e,Post.val post wd (nP _)⟩
  .exact post.elim
 .exact post.elim
def Ut(hu:X.A.units+64<cLine)(ha:zO X W a f)(hb:zO X W b g):tE X W (.Compare a [.Lt] [b] pos) (λρ S=>((f ρ S).bind λp S1=>(g ρ S1).bind λq S2=>Pf p q S2).bind fF):=sP (Pg hu) Gh ha hb
abbrev gtF:=Xd λi j=>decide (j<i)
def Uu(ha:zO X W a f)(hb:zO X W b g):tE X W (.Compare a [.Gt] [b] pos) (λρ S=>((f ρ S).bind λp S1=>(g ρ S1).bind λq S2=>gtF p q S2).bind fF):=sP Ts Os ha hb
def isNF:Er->Er->Sto->R Er
 |.val .non,.val .non,S=>.ok (.val (.bl true)) S
 |_,.val .non,S=>.ok (.val (.bl false)) S
 |_,_,_=>.no
def GY:Er->Er->Sto->R Er
 |.val .non,.val .non,S=>.ok (.val (.bl false)) S
 |_,.val .non,S=>.ok (.val (.bl true)) S
 |_,_,_=>.no
theorem ZF{α:Ya}{H:Hp}{p:Er}{x:V}(d:DenX X.K α H p x)(n:p≠.val .non):decide (x=.non)=false:=by
 cases p with
 |new ds=>obtain⟨b,vs,rfl,_⟩:=d;rfl
 |val m=>
  cases m with
  |non=>exact absurd rfl n
  |bl b=>cases DI d;rfl
  |int b=>cases yS d;rfl
  |str b=>cases nS d;rfl
  |typ b=>cases YQ d;rfl
  |obj b b' b''=>obtain⟨_,_,_,_,_,rfl,_⟩:=Ni d;rfl
  |tup b=>obtain⟨_,_,rfl,_⟩:=nT d;rfl
  |scr b=>obtain⟨_,_,rfl,_⟩:=DL d;rfl
  |loc b=>obtain⟨_,rfl,_⟩:=fE d;rfl
def ZG:VJ X W (λx y H Q=>y=.non/\Q (.bl (!decide (x=.non))) H) GY:=by
 intro p q x y α S H Q wd dp dq post;unfold GY at post;split at post
 .cases vC dp;exact⟨vC dq,Post.val post wd (nP _)⟩
 .rename_i p' S' hn;rw[ZF dp (λz=>by first |exact hn z|exact hn z rfl|exact hn _ z|exact hn rfl z)];exact⟨vC dq,Post.val post wd (nP _)⟩
 .exact post.elim
def ZH(ha:zO X W a f)(hb:zO X W b g):tE X W (.Compare a [.IsNot] [b] pos) (λρ S=>((f ρ S).bind λp S1=>(g ρ S1).bind λq S2=>GY p q S2).bind fF):=sP Ec ZG ha hb
def getL(ds:Za):Er->Sto->R Er
 |.val (.int i),S=>match tD ds i with |some d=>.ok (.val d) S|none=>.no
 |_,_=>.no
def lO:Er->Er->Sto->R Er
 |.val (.str x),.val (.int i),S=>if x.length<=sizeLine then match tD x i with |some c=>.ok (.val (.str [c])) S|none=>.no else .no
 |.val (.tup ds),q,S=>getL ds q S
 |p,q,S=>match kH S p with |some ds=>getL ds q S|none=>.no
def Gi{K:Yj}{α:Ya}{H:Hp}{ds:Za}{vs:List V}{i:Int}{d:MV}(l:DenL K α H ds vs)(e:tD ds i=some d): ∃v,tD vs i=some v/\Den K α H d v:=by
 unfold tD at e ⊢;rw[l.length]
 cases z:IO ds.length i with
 |none=>rw[z]at e;cases e
 |some j=>
  rw[z]at e;obtain⟨v,h1,h2⟩:=l.at (show ds[j]? =some d from e);exact⟨v,h1,h2⟩
def Uv(ha:zO X W a f)(hb:zO X W b g)(hs:BU b:=by exact λ_ _=>rfl):zO X W (.Subscript a b pos) (λρ S=>(f ρ S).bind λp S1=>(g ρ S1).bind λq S2=>lO p q S2):=by
 refine Kk Mu ?_ ha hb hs;intro p q x y α S H Q wd dp dq post;have key: ∀{ds:Za}{vs:List V}{i:Int}{d:MV},DenL X.K α H ds vs->tD ds i=some d->Post X.g W α H (.ok (Er.val d) S) Q-> ∃v,tD vs i=some v/\Q v H:=λl e post=>by obtain⟨v,h1,h2⟩:=Gi l e;exact⟨v,h1,Post.val post wd h2⟩
 unfold lO at post;split at post
 .split at post
  .rename_i hz;split at post
   .rename_i ch e;refine .inr (.inr ⟨_,_,ch,nS dp,yS dq,by rw[gG];exact hz,by rw[tG];exact e,?_⟩);exact Post.val post wd (oD [ch])
   .exact post.elim
  .exact post.elim
 .unfold getL at post;split at post
  .split at post
   .rename_i d e;obtain⟨a1,vs,rfl,s1,l1⟩:=nT dp;obtain⟨v,h1,h2⟩:=key l1 e post;exact .inr (.inl ⟨a1,vs,_,v,rfl,yS dq,s1,h1,h2⟩)
   .exact post.elim
  .exact post.elim
 .split at post
  .rename_i ds el;unfold getL at post;split at post
   .split at post
    .rename_i d e;obtain⟨a1,vs,rfl,s1,l1⟩:=rS rfl wd el dp;obtain⟨v,h1,h2⟩:=key l1 e post;exact .inl ⟨a1,vs,_,v,rfl,yS dq,s1,h1,h2⟩
    .exact post.elim
   .exact post.elim
  .exact post.elim
end
def FR{prog:Program}{w:World}{A:Around}{E:VP}{s:Shared}{t sl:Addr}{its:Xk}{vl vu:Value}{lo hi:Yh}{Q:VP}(ht:IsTup s.heap t its)(hs:s.heap.IsSliceOf sl vl vu .none)(pl:IsPart vl lo)(pu:IsPart vu hi)
  (h0:HT.sIx its.size 0 lo=0) (h1:HT.sIx its.size its.size hi=its.size) (h:Q (.ref t) s):wpAny (model prog w) A (getItem (.ref t) (.ref sl)) Q E s:=by
 have hTs:s.TypeIs (.ref sl) "slice":=by obtain⟨os,hos,hcs,_⟩:=id hs;exact⟨os,hos,hcs⟩
 have hTt:=ht.typeIs;unfold getItem
 try with_reducible refine wpAny_holding ?_
 first |refine wB (wP ?_)|skip
 refine wB (wpAny_sequenceKey hTt (by decide) ?_);refine wB (wpAny_callSpecial?_slot (name:=Str.ofString "__getitem__") hTt PyProof.Rows.slot_tuple_getitem (wpAny_call_entry PyProof.Rows.slot_tuple_getitem hTt entry_tuple_getitem ?_ (args_tuple_getitem _ _)));show wpAny _ _ (Builtin.Tuple.tupleItemsOf (.ref t) >>= _) _ _ s;refine wB (tupleItemsOf_ ht (wB (wpAny_typeOf hTs ?_)));rw[iP (by decide)];refine wB (HT.sliceApplied_gen hs pl pu ?_);show wpAny _ _ (if(((HT.sIx its.size 0 lo:Nat):Int)==0&&(1:Int)==1&&(HT.sIx its.size its.size hi - HT.sIx its.size 0 lo)==its.size)=true then _ else _) _ _ s;rw[iP (by rw[h0,h1];simp)];unfold Builtin.Tuple.tupleIsExact;refine wB (wB (wpAny_typeOf hTt (wP ?_)));rw[iP (by decide)];refine wB (wpAny_rule ?_)
 first
  |exact wP ⟨_,rfl,wP h⟩
  |exact wB (wP (wP ⟨_,rfl,wP h⟩))
  |exact wB (wP ⟨_,rfl,wP h⟩)
section
variable{X:Cx}{W:XW}{a e:Expr}{f h:AX}{pos:Pos}
def Gj:SlR X (λx lo hi H Q=> ∃a xs,x=.ref a/\SqT X.K H a xs/\HT.sIx xs.length 0 lo=0/\HT.sIx xs.length xs.length hi=xs.length/\Q (.ref a) H):=by
 intro pins s σ H x v vl vu lo hi sl Q I rx hs pl pu h;obtain⟨a,xs,rfl,hx,h0,h1,q⟩:=h;cases rx;obtain⟨its,r,ht,hz⟩:=I.tuple hx;have hlen:its.toArray.size=xs.length:=by rw[sA];exact r.length.symm
 exact⟨"tuple",_,PyProof.Rows.slot_tuple_getitem.lookup,ht.typeIs,FR ht hs pl pu (by rw[hlen];exact h0) (by rw[hlen];exact h1) ⟨.ref a,H,I,rfl,q⟩⟩
def BM:Er->Option Int->Option Int->Sto->R Er
 |.val (.str x),lo,hi,S=>if x.length<=sizeLine then .ok (.val (.str (aQ x lo hi))) S else .no
 |.val (.tup ds),lo,hi,S=>.ok (.val (.tup (aQ ds lo hi))) S
 |p,lo,hi,S=>match kH S p with |some ds=>.ok (.new (aQ ds lo hi)) S|none=>.no
def VU{α:Type}{ds:List α}{lo hi:Yh}(h0:HT.sIx ds.length 0 lo=0)(h1:HT.sIx ds.length ds.length hi=ds.length):aQ ds lo hi=ds:=by unfold aQ;rw[h0,h1];simp
def Ph{lo hi:Option Expr}{lf hf:Rho->Sto->R (Option Int)}{p2:Pos}(ha:zO X W a f)(hl:Fc X W lo lf)(hh:Fc X W hi hf):zO X W (.Subscript a (.Slice lo hi none p2) pos) (λρ S=>(f ρ S).bind λp S1=>(lf ρ S1).bind λl S2=>(hf ρ S2).bind λu S3=>BM p l u S3):=by
 refine YW (Nc.or (El.or (Mq.or Gj))) ?_ ha hl hh;intro p lo hi x α S H Q wd dp post;unfold BM at post;split at post
 .split at post
  .rename_i hz;exact .inl ⟨_,nS dp,hz,Post.val post wd (oD _)⟩
  .exact post.elim
 .rename_i _ _ _ ds;obtain⟨a1,vs,rfl,s1,l1⟩:=nT dp;by_cases hw:HT.sIx vs.length 0 lo=0/\HT.sIx vs.length vs.length hi=vs.length
  .have e:aQ ds lo hi=ds:=VU (by rw[<-l1.length];exact hw.1) (by rw[<-l1.length];exact hw.2);rw[e]at post;exact .inr (.inr (.inr ⟨a1,vs,rfl,s1,hw.1,hw.2,Post.val post wd (aR s1 l1)⟩))
  .exact .inr (.inr (.inl ⟨a1,vs,rfl,s1,hw,λp hp=>Post.newt post wd hp (l1.cut lo hi)⟩))
 .split at post
  .rename_i ds el;obtain⟨a1,vs,rfl,s1,l1⟩:=rS rfl wd el dp;exact .inr (.inl ⟨a1,vs,rfl,s1,λp hp=>Post.newl post wd hp (l1.cut lo hi)⟩)
  .exact post.elim
def mN{α:Type}(ds:List α)(lo hi st:Yh):List α:=(sliceRange (sliceBounds lo hi st ds.length).1 (sliceBounds lo hi st ds.length).2.1 (sliceBounds lo hi st ds.length).2.2).filterMap (ds[·]?)
theorem DenL.pick{K:Yj}{α:Ya}{H:Hp}{ds:Za}{vs:List V}(l:DenL K α H ds vs): ∀idx:List Nat,DenL K α H (idx.filterMap (ds[·]?)) (idx.filterMap (vs[·]?))
 |[]=>zW
 |i::idx=>by
  cases z:ds[i]? with
  |none=>
   have z2:vs[i]? =none:=by rw[List.getElem?_eq_none_iff,l.length];exact List.getElem?_eq_none_iff.mp z
   rw[List.filterMap_cons_none z,List.filterMap_cons_none z2];exact DenL.pick l idx
  |some d=>
   obtain⟨v,h1,h2⟩:=l.at z;rw[filterMap_cons_some z,filterMap_cons_some h1];exact zM h2 (DenL.pick l idx)
theorem Vals.pick{xs:List V}{us:Xj}(r:Vals xs us): ∀idx:List Nat,Vals (idx.filterMap (xs[·]?)) (idx.filterMap (us[·]?))
 |[]=>.nil
 |i::idx=>by
  cases z:xs[i]? with
  |none=>rw[List.filterMap_cons_none z,List.filterMap_cons_none (r.none_of z)];exact Vals.pick r idx
  |some d=>
   obtain⟨v,h1,h2⟩:=r.get z;rw[filterMap_cons_some z,filterMap_cons_some h1];exact .cons h2 (Vals.pick r idx)
def DR(st:Int)(p:Er)(lo hi:Yh)(S:Sto):R Er:=match kH S p with
 |some ds=>if(mN ds lo hi (some st)).length<=sizeLine then .ok (.new (mN ds lo hi (some st))) S else .no
 |none=>.no
def Gk{st:Int}{lo hi:Option Expr}{lf hf:Rho->Sto->R (Option Int)}{p2:Pos}{ste:Expr}(h0:st≠0)(ha:zO X W a f)(hl:Fc X W lo lf)(hh:Fc X W hi hf)
  (hst: ∀pins s σ H (Q:VK),Inv X pins σ H s->Q (.int st) H->wpAny (model X.prog X.w) X.A (eval ste X.env) (EP X pins σ Q) X.xe s):
  zO X W (.Subscript a (.Slice lo hi (some ste) p2) pos) (λρ S=>(f ρ S).bind λp S1=>(lf ρ S1).bind λl S2=>(hf ρ S2).bind λu S3=>DR st p l u S3):=by
 obtain⟨ta,ha,fa⟩:=ha;obtain⟨tl,hl,fl⟩:=hl;obtain⟨th,hh,fh⟩:=hh
 refine⟨λσ H Q=>ta σ H λx H1=>tl σ H1 λl H2=>th σ H2 λu H3=> ∃a xs,x=.ref a/\SqL X.K H3 a xs/\(mN xs l u (some st)).length<=sizeLine/\ ∀p,H3 p=none->Q (.ref p) (xH H3 p (.lst (mN xs l u (some st)))),?_,λα ρ S σ H Q wd sl q=>fa α ρ S σ H _ wd sl (q.bind λu p S1 α1 H1 e1 x1 w1 d1 q1=>fl α1 ρ S1 σ H1 _ w1 (sl.ext x1) ((q1.shift x1).bind λu2 l S2 α2 H2 e2 x2 w2 d2 q2=>
  fh α2 ρ S2 σ H2 _ w2 ((sl.ext x1).ext x2) ((q2.shift x2).bind λu3 m S3 α3 H3 e3 x3 w3 d3 q3=>?_)))⟩
 .intro pins s σ H Q I h;refine Subscript_ (kG (ha pins s σ H _ I h) λv s1 ⟨x,H1,I1,r1,q1⟩=>?_);refine wpAny_Slice (kG (hl pins s1 σ H1 _ I1 q1) λvl s2 ⟨l,H2,I2,pl,q2⟩=>kG (hh pins s2 σ H2 _ I2 q2) λvu s3 ⟨u,H3,I3,pu,q3⟩=>?_);rw[evalPart_some];refine kG (hst pins s3 σ H3 (λw' H'=>w'=.int st/\H'=H3) I3 ⟨rfl,rfl⟩) λvs s4 ⟨y,H4,I4,r4,ey,eH⟩=>?_;subst ey eH;obtain⟨t4,rfl⟩:=r4;obtain⟨a,xs,rfl,sq,hz2,q⟩:=q3;cases r1;have I5:Inv X pins σ H4 {s4 with heap:=s4.heap.push {cls:=.type "slice",data:=.fields #[vl,vu,.int st t4]}}:=I4.kept (t':=s4.toks) λb ob q=>hP0 _ q;obtain⟨its,r,ht,hz⟩:=I5.list sq;have hlen:=r.length;refine tail_any (ops:=[.ref a,.ref s4.heap.objs.size]) (T:="list") ht.isList.typeIs slot_list_getitem.lookup ?_ (by with_unfolding_all rfl);refine wpAny_getItem_list_slice ht.isList (Heap.IsSliceOf.new ..) pl pu (.int st t4) (by intro z;exact h0 (Option.some.inj z)) ?_ (by rw[sA];omega);have ep:slicePick its.toArray l u (some st)=(mN its l u (some st)).toArray:=by unfold slicePick mN;simp
  rw[ep];have el:xs.length=its.length:=hlen;refine⟨.ref _,_,I5.laid (t':=s4.toks) (o:=.lst (mN xs l u (some st))) (λb ob q=>hP0 _ q) q9 ?_,rfl,q _ (I5.hok.fresh q9)⟩;refine⟨hz2,_,0,?_,Heap.get?_push_size _ rfl⟩;unfold mN;rw[el];exact Vals.pick r _
 .cases d2;cases d3
  replace q3:=q3.shift x3
  unfold DR at q3;split at q3
  .rename_i ds el;split at q3
   .rename_i hz;obtain⟨a1,vs,e5,s1,l1⟩:=rS rfl w3 el ((d1.1.ext x2).ext x3);have lp:DenL X.K α3 H3 (mN ds u2 u3 (some st)) (mN vs u2 u3 (some st)):=by unfold mN;rw[<-l1.length];exact l1.pick _
    exact⟨a1,vs,e5,s1,by rw[lp.length];exact hz,λp hp=>Post.newl q3 w3 hp lp⟩
   .exact q3.elim
  .exact q3.elim
def ZI{i:Int}{j:Nat}{p3:Pos}: ∀pins s σ H (Q:VK),Inv X pins σ H s->Q (.int (-i)) H->wpAny (model X.prog X.w) X.A (eval (.UnaryOp .USub (.Constant (.int i) j p3) pos) X.env) (EP X pins σ Q) X.xe s:=λpins s σ H Q I h=>Ki XX PJ pins s σ H Q I ⟨i,rfl,h⟩
end
section
variable{X:Cx}{W:XW}{a b c e:Expr}{f g h:AX}{pos:Pos}
def MY(S:Sto)(n:Nat)(d:MV):List MV->Option (List Bool)
 |[]=>some []
 |y::ys=>(eqv S n y d).bind λk=>(MY S n d ys).map (k::·)
section
variable{α:Ya}{S:Sto}{H:Hp}{pins:Ye}{σ:St}{s:Shared}
def MZ(X:Cx)(α:Ya)(S:Sto)(H:Hp)(n:Nat)(d:MV)(u:Value):Bool:=open Classical in decide (∃y x,Den X.K α H y x/\RelV x u/\eqv S n y d=some true)
open Classical in
def Gn(I:Inv X pins σ H s)(wd:Wd X.g α S H){n:Nat}{d y:MV}{x:V}{u:Value}{k:Bool}(dy:Den X.K α H y x)(r:RelV x u)(e:eqv S n y d=some k):MZ X α S H n d u=k:=by
 unfold MZ
 cases k with
 |true=>exact dT0 ⟨y,x,dy,r,e⟩
 |false=>
  refine dF0 λ⟨y',x',dy',r',e'⟩=>?_;have ex:=r.inj r';subst ex;rw[dy.inj I wd dy']at e;rw[e]at e';cases e'
theorem tP(I:Inv X pins σ H s)(wd:Wd X.g α S H){n:Nat}{A:Around}{d:MV}{x:V}{v:Value}(hu:A.units+n<cLine)(dd:Den X.K α H d x)(rx:RelV x v): ∀{ys:Za}{vs:List V}{us:Xj}{bs:Yg},DenL X.K α H ys vs->Vals vs us->MY S n d ys=some bs->
  us.map (MZ X α S H n d)=bs/\ ∀u∈us,SeqAt.EqAt A s u v (MZ X α S H n d u)
 |[],_,_,bs,l,r,e=>by cases l.isnil;cases r;cases e;exact⟨rfl,λu hu=>by cases hu⟩
 |y::ys,_,_,bs,l,r,e=>by
  obtain⟨v',r',rfl,dy,l'⟩:=l.uncons
  cases r with
  |cons r1 r2=>
   unfold MY at e
   cases z:eqv S n y d with
   |none=>rw[z]at e;cases e
   |some k=>
    rw[z]at e
    cases z2:MY S n d ys with
    |none=>simp[z2]at e
    |some cs=>
     simp[z2]at e;subst e;obtain⟨h1,h2⟩:=tP I wd hu dd rx l' r2 z2;have h3:=Gn I wd dy r1 z;refine⟨by rw[List.map_cons,h1,h3],λu hu'=>?_⟩;rcases mC.mp hu' with rfl|hu'
     .rw[h3];exact vF I wd n A y d _ _ _ _ k hu dy dd r1 rx z
     .exact h2 u hu'
end
theorem any_map{us:Xj}{f:Value->Bool}{bs:Yg}(h:us.map f=bs):us.toArray.any f=bs.any id:=by subst h;simp[List.any_map]
def itemsOf(S:Sto):Er->Option (List MV)
 |.val (.tup ds)=>some ds
 |r=>kH S r
def tQ{α:Ya}{S:Sto}{H:Hp}(wd:Wd X.g α S H){r:Er}{ds:Za}{x:V}(e:itemsOf S r=some ds)(d:DenX X.K α H r x): ∃a vs,x=.ref a/\(SqL X.K H a vs\/SqT X.K H a vs)/\DenL X.K α H ds vs:=by
 unfold itemsOf at e;split at e
 .cases e;obtain⟨a,vs,rfl,s,l⟩:=nT d;exact⟨a,vs,rfl,.inr s,l⟩
 .obtain⟨a,vs,rfl,s,l⟩:=rS rfl wd e d;exact⟨a,vs,rfl,.inl s,l⟩
def JE(neg:Bool)(p q:Er)(S:Sto):R Er:=match p with
 |.val d=>match itemsOf S q with
  |some ys=>match MY S zG d ys with
   |some bs=>.ok (.val (.bl (if neg=true then !bs.any id else bs.any id))) S
   |none=>.no
  |none=>.no
 |.new _=>.no
def FG(neg:Bool):Er->Er->Sto->R Er
 |.val (.str [c]),.val (.str y),S=>.ok (.val (.bl (if neg=true then !decide (c∈y)else decide (c∈y)))) S
 |p,q,S=>JE neg p q S
abbrev ZJ(X:Cx)(neg:Bool):R2:=λx y H Q=> ∃α S d q ys bs,Wd X.g α S H/\Den X.K α H d x/\DenX X.K α H q y/\itemsOf S q=some ys/\MY S zG d ys=some bs/\Q (.bl (if neg=true then !bs.any id else bs.any id)) H
def Pi(hu:X.A.units+64<cLine):OpR X (compareOp .In) (ZJ X false):=by
 intro pins s σ H x y v u Q I rx ry h;obtain⟨α,S,d,q,ys,bs,wd,dd,dq,ei,ea,hq⟩:=h;obtain⟨a,vs,rfl,sq,l⟩:=tQ wd ei dq;cases ry;rcases sq with sq|sq
 .obtain⟨its,r,pl,_⟩:=I.list sq;obtain⟨h1,h2⟩:=tP I wd (A:=X.A.in1) (by show X.A.units+1+zG<cLine;unfold zG;omega) dd rx l r ea;refine SeqAt.in_listAt (MZ X α S H zG d) pl.isList (λw hw=>h2 w (by simpa using hw)) ⟨.bl _,H,I,rfl,?_⟩;rw[any_map h1];exact hq
 .obtain⟨its,r,pl,_⟩:=I.tuple sq;obtain⟨h1,h2⟩:=tP I wd (A:=X.A.in1) (by show X.A.units+1+zG<cLine;unfold zG;omega) dd rx l r ea;refine SeqAt.in_tupleAt (MZ X α S H zG d) pl (λw hw=>h2 w (by simpa using hw)) ⟨.bl _,H,I,rfl,?_⟩;rw[any_map h1];exact hq
def VV(hu:X.A.units+64<cLine):OpR X (compareOp .NotIn) (ZJ X true):=by
 intro pins s σ H x y v u Q I rx ry h;obtain⟨α,S,d,q,ys,bs,wd,dd,dq,ei,ea,hq⟩:=h;obtain⟨a,vs,rfl,sq,l⟩:=tQ wd ei dq;cases ry;rcases sq with sq|sq
 .obtain⟨its,r,pl,_⟩:=I.list sq;obtain⟨h1,h2⟩:=tP I wd (A:=X.A.in1) (by show X.A.units+1+zG<cLine;unfold zG;omega) dd rx l r ea;refine SeqAt.notIn_listAt (MZ X α S H zG d) pl.isList (λw hw=>h2 w (by simpa using hw)) ⟨.bl _,H,I,rfl,?_⟩;rw[any_map h1];exact hq
 .obtain⟨its,r,pl,_⟩:=I.tuple sq;obtain⟨h1,h2⟩:=tP I wd (A:=X.A.in1) (by show X.A.units+1+zG<cLine;unfold zG;omega) dd rx l r ea;refine SeqAt.notIn_tupleAt (MZ X α S H zG d) pl (λw hw=>h2 w (by simpa using hw)) ⟨.bl _,H,I,rfl,?_⟩;rw[any_map h1];exact hq
def SO{neg:Bool}:VJ X W (λx y H Q=>(∃i j,x=.str i/\y=.str j/\Q (.bl (if neg=true then !(!(Builtin.Str.occurrences j i 0 j.length 1).isEmpty)else !(Builtin.Str.occurrences j i 0 j.length 1).isEmpty)) H)\/ZJ X neg x y H Q) (FG neg):=by
 intro p q x y α S H Q wd dp dq post;unfold FG at post;split at post
 .refine .inl ⟨_,_,nS dp,nS dq,?_⟩;rw[<-Ew,PySem.StrLaws.found_one,tG];exact Post.val post wd (nP _)
 .unfold JE at post;split at post
  .rename_i d _;split at post
   .rename_i ys ei;split at post
    .rename_i bs ea;exact .inr ⟨α,S,_,q,ys,bs,wd,dp,dq,ei,ea,Post.val post wd (nP _)⟩
    .exact post.elim
   .exact post.elim
  .exact post.elim
def OpR.imp{f:Value->Value->Sem Value}{r r':R2}(h:OpR X f r)(i: ∀x y H Q,r' x y H Q->r x y H Q):OpR X f r':=λpins s σ H x y v u Q I rx ry q=>h pins s σ H x y v u Q I rx ry (i x y H Q q)
def Pj(hu:X.A.units+64<cLine):OpR X (compareOp .In) (λx y H Q=>(∃i j,x=.str i/\y=.str j/\Q (.bl (if(false:Bool)=true then !(!(Builtin.Str.occurrences j i 0 j.length 1).isEmpty)else !(Builtin.Str.occurrences j i 0 j.length 1).isEmpty)) H)\/ZJ X false x y H Q):=
 OpR.imp (UW.or (Pi hu)) λx y H Q q=>q.imp (λq=>q) λq=>q
def VW(hu:X.A.units+64<cLine):OpR X (compareOp .NotIn) (λx y H Q=>(∃i j,x=.str i/\y=.str j/\Q (.bl (if(true:Bool)=true then !(!(Builtin.Str.occurrences j i 0 j.length 1).isEmpty)else !(Builtin.Str.occurrences j i 0 j.length 1).isEmpty)) H)\/ZJ X true x y H Q):=
 OpR.imp (IL.or (VV hu)) λx y H Q q=>q.imp (λq=>q) λq=>q
def Uw(hu:X.A.units+64<cLine)(ha:zO X W a f)(hb:zO X W b g)(hm:behindInMarks .In b=false:=by with_unfolding_all rfl):tE X W (.Compare a [.In] [b] pos) (λρ S=>((f ρ S).bind λp S1=>(g ρ S1).bind λq S2=>FG false p q S2).bind fF):=sP (Pj hu) SO ha hb hm
def ZK(hu:X.A.units+64<cLine)(ha:zO X W a f)(hb:zO X W b g)(hm:behindInMarks .NotIn b=false:=by with_unfolding_all rfl):tE X W (.Compare a [.NotIn] [b] pos) (λρ S=>((f ρ S).bind λp S1=>(g ρ S1).bind λq S2=>FG true p q S2).bind fF):=sP (VW hu) SO ha hb hm
def rV{K:Yj}{α:Ya}{H:Hp}{r:Er}{vs:List V}(d:ArgsX K α H [r] vs): ∃v,vs=[v]/\DenX K α H r v:=by
 cases d with
 |cons a l=>cases l;exact⟨_,rfl,a⟩
def Ux{K:Yj}{α:Ya}{H:Hp}{r r':Er}{vs:List V}(d:ArgsX K α H [r,r'] vs): ∃v u,vs=[v,u]/\DenX K α H r v/\DenX K α H r' u:=by
 cases d with
 |cons a l=>obtain⟨u,rfl,l'⟩:=rV l;exact⟨_,u,rfl,a,l'⟩
def pO:List Er->Sto->R Er
 |[.val (.str x)],S=>if x.length<=sizeLine then .ok (.val (.int x.length)) S else .no
 |[r],S=>match itemsOf S r with |some ds=>.ok (.val (.int ds.length)) S|none=>.no
 |_,_=>.no
def Pk:rR X W (λxs H Q=>(∃z,xs=[.str z]/\z.length<=sizeLine/\Q (.int z.length) H)\/ ∃p ys,xs=[.ref p]/\(SqL X.K H p ys\/SqT X.K H p ys)/\Q (.int ys.length) H) pO:=by
 intro rs vs α S H Q wd d post;unfold pO at post;split at post
 .split at post
  .rename_i hz;obtain⟨v,rfl,dv⟩:=rV d;cases nS dv;refine .inl ⟨_,rfl,by rw[gG];exact hz,?_⟩;rw[gG];exact Post.val post wd (wX _)
  .exact post.elim
 .split at post
  .rename_i ds e;obtain⟨v,rfl,dv⟩:=rV d;obtain⟨a,us,rfl,sq,l⟩:=tQ wd e dv;refine .inr ⟨a,us,rfl,sq,?_⟩;rw[l.length];exact Post.val post wd (wX _)
  .exact post.elim
 .exact post.elim
def VX:CallR X (.builtin "len") (λxs H Q=>(∃z,xs=[.str z]/\z.length<=sizeLine/\Q (.int z.length) H)\/ ∃p ys,xs=[.ref p]/\(SqL X.K H p ys\/SqT X.K H p ys)/\Q (.int ys.length) H):=IU.or IT
def Ko:List MV->Option (List Bool)
 |[]=>some []
 |.bl b::r=>(Ko r).map (b::·)
 |_::_=>none
def allF:List Er->Sto->R Er
 |[r],S=>match (kH S r).bind Ko with |some bs=>.ok (.val (.bl (bs.all id))) S|none=>.no
 |_,_=>.no
def DS(S:Sto):Er->Option String
 |.val .non=>some "NoneType"
 |.val (.bl _)=>some "bool"
 |.val (.int _)=>some "int"
 |.val (.str _)=>some "str"
 |.val (.tup _)=>some "tuple"
 |.val (.typ _)=>none
 |.val (.obj _ _ _)=>none
 |r=>(kH S r).map λ_=>"list"
def ZL(t T:String):Bool:=t==T || (t=="bool"&&T=="int")
def known(T:String):Bool:=T=="int" || T=="bool" || T=="str" || T=="tuple" || T=="list"
def rH:List Er->Sto->R Er
 |[r,.val (.typ T)],S=>match DS S r with
  |some t=>if known T=true then .ok (.val (.bl (ZL t T))) S else .no
  |none=>.no
 |_,_=>.no
theorem eV(K:Yj){t T:String}(ht:t="NoneType"\/t="bool"\/t="int"\/t="str"\/t="tuple"\/t="list")(hT:known T=true):PySem.W.kitOne K (.type t) (.type T)=some (ZL t T):=by
 have hT':T="int"\/T="bool"\/T="str"\/T="tuple"\/T="list":=by
  unfold known at hT;simp only[Bool.or_eq_true,beq_iff_eq]at hT;rcases hT with(((h|h)|h)|h)|h
  .exact .inl h
  .exact .inr (.inl h)
  .exact .inr (.inr (.inl h))
  .exact .inr (.inr (.inr (.inl h)))
  .exact .inr (.inr (.inr (.inr h)))
 rcases ht with rfl|rfl|rfl|rfl|rfl|rfl<;>rcases hT' with rfl|rfl|rfl|rfl|rfl<;>kernel_rfl
def ZM:CallR X (.builtin "isinstance") (λxs H Q=> ∃α S r x t T,xs=[x,.ty T]/\Wd X.g α S H/\DenX X.K α H r x/\DS S r=some t/\known T=true/\Q (.bl (ZL t T)) H):=by
 intro pins s σ H xs us Q I rr h;obtain⟨α,S,r,x,t,T,rfl,wd,d,et,hk,q⟩:=h;obtain⟨u,w',rfl,rx,rT⟩:=vals2 rr;cases rT;have fin: ∀tk,EP X pins σ Q (.bool (ZL t T)) {s with toks:=tk}:=λtk=>⟨.bl _,H,I.tok _,rfl,q⟩
 unfold DS at et;split at et
 .cases et;cases vC d;cases rx;exact PySem.W.kia_one PySem.W.kitx_none I.kIn True.intro (eV X.K (.inl rfl) hk) (λz=>nomatch z) fin
 .cases et;cases DI d;cases rx;exact PySem.W.kia_one PySem.W.kitx_bool I.kIn True.intro (eV X.K (.inr (.inl rfl)) hk) (λz=>nomatch z) fin
 .cases et;cases yS d;obtain⟨t,rfl⟩:=rx;exact PySem.W.kia_one PySem.W.kitx_int I.kIn True.intro (eV X.K (.inr (.inr (.inl rfl))) hk) (λz=>nomatch z) fin
 .cases et;cases nS d;obtain⟨t,rfl⟩:=rx;exact PySem.W.kia_one PySem.W.kitx_str I.kIn True.intro (eV X.K (.inr (.inr (.inr (.inl rfl)))) hk) (λz=>nomatch z) fin
 .cases et;obtain⟨a,vs,rfl,sq,l⟩:=nT d;cases rx;obtain⟨its,r1,p1,_⟩:=I.tuple sq;obtain⟨o,h1,h2,_⟩:=p1;exact PySem.W.kia_one PySem.W.kitx_tuple I.kIn ⟨o,h1,h2⟩ (eV X.K (.inr (.inr (.inr (.inr (.inl rfl))))) hk) (λz=>nomatch z) fin
 .cases et
 .cases et
 .cases z:kH S r with
  |none=>rw[z]at et;cases et
  |some ds=>
   rw[z]at et;cases et;obtain⟨a,vs,rfl,sq,l⟩:=rS rfl wd z d;cases rx;obtain⟨its,r1,p1,_⟩:=I.list sq;obtain⟨o,h1,h2,_⟩:=p1.isList;exact PySem.W.kia_one PySem.W.kitx_list I.kIn ⟨o,h1,h2⟩ (eV X.K (.inr (.inr (.inr (.inr (.inr rfl))))) hk) (λz=>nomatch z) fin
def Pl:rR X W (λxs H Q=> ∃α S r x t T,xs=[x,.ty T]/\Wd X.g α S H/\DenX X.K α H r x/\DS S r=some t/\known T=true/\Q (.bl (ZL t T)) H) rH:=by
 intro rs vs α S H Q wd d post;unfold rH at post;split at post
 .split at post
  .rename_i t et;split at post
   .rename_i hk;obtain⟨v,u,rfl,d1,d2⟩:=Ux d;cases YQ d2;exact⟨α,S,_,v,t,_,rfl,wd,d1,et,hk,Post.val post wd (nP _)⟩
   .exact post.elim
  .exact post.elim
 .exact post.elim
def nV:List Er->Sto->R Er
 |[.val (.tup ds)],S=>.ok (.val (.tup ds)) S
 |[r],S=>match kH S r with |some ds=>.ok (.val (.tup ds)) S|none=>.no
 |_,_=>.no
def ZN:rR X W (λxs H Q=> ∃p ys,xs=[.ref p]/\((SqL X.K H p ys/\ ∀l,H l=none->Q (.ref l) (xH H l (.tup ys)))\/(SqT X.K H p ys/\Q (.ref p) H))) nV:=by
 intro rs vs α S H Q wd d post;unfold nV at post;split at post
 .obtain⟨v,rfl,dv⟩:=rV d;obtain⟨a,us,rfl,sq,l⟩:=nT dv;exact⟨a,us,rfl,.inr ⟨sq,Post.val post wd (aR sq l)⟩⟩
 .split at post
  .rename_i ds e;obtain⟨v,rfl,dv⟩:=rV d;obtain⟨a,us,rfl,sq,l⟩:=rS rfl wd e dv;exact⟨a,us,rfl,.inl ⟨sq,λp hp=>Post.newt post wd hp l⟩⟩
  .exact post.elim
 .exact post.elim
def DT:List Er->Sto->R Er
 |[r],S=>match itemsOf S r with |some ds=>.ok (.new ds) S|none=>.no
 |_,_=>.no
def Gp:rR X W (λxs H Q=> ∃p ys,xs=[.ref p]/\(SqL X.K H p ys\/SqT X.K H p ys)/\ ∀l,H l=none->Q (.ref l) (xH H l (.lst ys))) DT:=by
 intro rs vs α S H Q wd d post;unfold DT at post;split at post
 .split at post
  .rename_i ds e;obtain⟨v,rfl,dv⟩:=rV d;obtain⟨a,us,rfl,sq,l⟩:=tQ wd e dv;exact⟨a,us,rfl,sq,λp hp=>Post.newl post wd hp l⟩
  .exact post.elim
 .exact post.elim
def Pm:bootBuiltins "len"=some (.builtin "len"):=by decide+kernel
def FS:bootBuiltins "isinstance"=some (.builtin "isinstance"):=by decide+kernel
def Gq:bootBuiltins "bool"=some (.type "bool"):=by decide+kernel
def Pn:bootBuiltins "str"=some (.type "str"):=by decide+kernel
def NA:bootBuiltins "tuple"=some (.type "tuple"):=by decide+kernel
def BV:bootBuiltins "list"=some (.type "list"):=by decide+kernel
end
def Uy(n:Nat):List Nat:=(Nat.toDigits 10 n).map Char.toNat
def decL(i:Int):List Nat:=if i<0 then 45::Uy i.natAbs else Uy i.natAbs
section
variable{X:Cx}{W:XW}{a e o i:Expr}{es:Yi}{f g h:AX}{af:Rho->Sto->R (List Er)}{pos apos:Pos}
def strF:List Er->Sto->R Er
 |[.val (.int i)],S=>if i.natAbs.log2<1920 then .ok (.val (.str (decL i))) S else .no
 |[.val (.str x)],S=>.ok (.val (.str x)) S
 |_,_=>.no
def wY(p:Er)(S:Sto):Bool:=(kH S p).isSome
def QL:TyM X "list" wY:=by
 intro p x α S H wd d h;unfold wY at h
 cases z:kH S p with
 |none=>rw[z]at h;cases h
 |some ds=>
  obtain⟨a,vs,rfl,s,l⟩:=rS rfl wd z d;exact .inl ⟨rfl,vs,s⟩
def strIdx(x y:Db):Option Nat:=(Builtin.Str.occurrences (bL x) (bL y) 0 (bL x).length 1).head?
def sidxF:Er->List Er->Sto->R Er
 |.val (.str x),[.val (.str y)],S=>match strIdx x y with |some i=>.ok (.val (.int (i:Nat))) S|none=>.no
 |_,_,_=>.no
def FU(p:Er)(S:Sto)(G:List MV->Option (List MV)):R Er:=match p with
 |.val (.loc l)=>match S[l]? with
  |some (.lst ds)=>match G ds with
   |some es=>.ok (.val .non) (S.set l (.lst es))
   |none=>.no
  |_=>.no
 |_=>.no
def GZ{α0 α:Ya}{H0 H:Hp}{S:Sto}{p:Er}{x:V}{G:List MV->Option (List MV)}{Q:VK}(wd:Wd X.g α S H)(x0:Ext α0 H0 α H)(dp:DenX X.K α H p x)(post:Post X.g W α0 H0 (FU p S G) Q):
  ∃a vs ds es,x=.ref a/\H a=some (.lst vs)/\DenL X.K α H ds vs/\G ds=some es/\ ∀us,DenL X.K α H es us->Q .non (xH H a (.lst us)):=by
 unfold FU at post;split at post
 .rename_i l;obtain⟨a,rfl,h⟩:=fE dp;obtain⟨ob,h1,h2⟩:=wd.of h;rw[h1]at post
  cases ob with
  |lst ds=>
   obtain⟨vs,h3,l1⟩:=h2;have post:Post X.g W α0 H0 (match G ds with |some es=>R.ok (Er.val .non) (S.set l (.lst es))|none=>R.no) Q:=post;split at post
   .rename_i es eg;refine⟨a,vs,ds,es,rfl,h3,l1,eg,λus lu=>?_⟩;have xw:=wd.writex h (Di h3) (o:=.lst us);exact(post.shift (x0.trans xw)).val (wd.write h (Di h3) ⟨us,zS,lu.ext xw⟩) tK
   .exact post.elim
  |dic _=>exact post.elim
  |ins _ _=>exact post.elim
  |rcd _ _=>exact post.elim
  |fdc _=>exact post.elim
 .exact post.elim
def mP:Er->List Er->Sto->R Er
 |p,[r],S=>(wV r S).bind λy S1=>FU p S1 λds=>if ds.length<sizeLine then some (ds++[y])else none
 |_,_,_=>.no
def VY:IZ X W RX mP:=by
 intro p rs x vs α S H0 H Q α0 wd x0 dp da post
 match rs,da,post with
 |[],_,post=>exact post.elim
 |_::_::_,_,post=>exact post.elim
 |[r],da,post=>
  cases da with
  |cons d n l=>
   cases l;obtain⟨d',S',α',e',x',y',w',dd⟩:=cR wd x0 d;have post:Post X.g W α0 H0 ((wV r S).bind λy S1=>FU p S1 λds=>if ds.length<sizeLine then some (ds++[y])else none) Q:=post;rw[e']at post
   have dp':DenX X.K α' H p x:=by
    cases p with
    |val m=>exact Den.ex0 y' dp
    |new ds=>exact post.elim
   obtain⟨a,us,ds,es,rfl,h1,l1,eg,k⟩:=GZ w' x' dp' post;split at eg
   .rename_i hz;cases eg;exact⟨a,us,_,rfl,rfl,h1,by rw[l1.length];exact hz,k _ (l1.append (zM dd zW))⟩
   .cases eg
def VZ(ho:zO X W a f)(ha:DM X W (e::es) af)
  (hbase:attributeBase a "append" X.env (eval a X.env)=eval a X.env:=by rfl)
  (hfew:((backTo pos (starEach (e::es) X.env)).all (λx=>!x.1)&&(backToKw pos (keywordEach [] X.env)).all (λx=>x.1.isSome)
   &&decide ((e::es).length+([]:List Keyword).length+(if([]:List Keyword).isEmpty then 0 else 1)<30))=true:=by rfl)
  (hline:(apos.endLine==pos.line)=true:=by rfl) (hs:Q0 X e es:=by rfl) (hplain:Q1 X pos es:=by rfl):
  zO X W (.Call (.Attribute a "append" apos) (e::es) [] pos) (λρ S=>(f ρ S).bind λp S1=>if wY p S1=true then(af ρ S1).bind λrs S2=>mP p rs S2 else .no):=
 SE PySem.F.plainAttrs_list PySem.F.slot_list_append PySem.F.type_list_append VA VY QL ho ha hbase hfew hline hs hplain
def clrF:Er->List Er->Sto->R Er
 |p,[],S=>FU p S λ_=>some []
 |_,_,_=>.no
def ZO:Er->List Er->Sto->R Er
 |p,[],S=>FU p S λds=>some ds.reverse
 |_,_,_=>.no
def QM:IZ X W MF ZO:=by
 intro p rs x vs α S H0 H Q α0 wd x0 dp da post
 match rs,da,post with
 |_::_,_,post=>exact post.elim
 |[],.nil,post=>
  have post:Post X.g W α0 H0 (FU p S λds=>some ds.reverse) Q:=post;obtain⟨a,us,ds,es,rfl,h1,l1,eg,k⟩:=GZ wd x0 dp post;cases eg;exact⟨a,us,rfl,rfl,h1,k _ l1.reverse⟩
def QN(ho:zO X W a f)(hbase:attributeBase a "reverse" X.env (eval a X.env)=eval a X.env:=by rfl)(hline:(apos.endLine==pos.line)=true:=by rfl):
  zO X W (.Call (.Attribute a "reverse" apos) [] [] pos) (λρ S=>(f ρ S).bind λp S1=>if wY p S1=true then ZO p [] S1 else .no):=
 YV PySem.F.plainAttrs_list PySem.F.slot_list_reverse PySem.F.type_list_reverse PZ QM QL ho hbase hline
def HA(p q:Er)(d:MV)(ρ:Rho)(S:Sto):R Rho:=match p,q with
 |.val (.loc l),.val (.int k)=>match S[l]? with
  |some (.lst ds)=>match IO ds.length k with
   |some j=>.ok ρ (S.set l (.lst (ds.set j d)))
   |none=>.no
  |_=>.no
 |_,_=>.no
def Po(ho:zO X W o f)(hi:zO X W i g)
  (ha: ∀v,assign (.Subscript o i pos) X.env v=(do
   let ov <-holding [v] (eval o X.env);let iv <-holding [v,ov] (eval i X.env)
   standAt pos
   holding [v,ov,iv] (setItem ov iv v)
   release [v,ov,iv] []):=by intro _;rfl):VL X W (.Subscript o i pos) (λd ρ S=>(f ρ S).bind λp S1=>(g ρ S1).bind λq S2=>HA p q d ρ S2):=by
 obtain⟨to,ho,fo⟩:=ho;obtain⟨ti,hi,fi⟩:=hi;refine⟨_,PK ho hi set_list ha,λα ρ S σ H d v Q wd sl de q=>fo α ρ S σ H _ wd sl (q.bind λu p S1 α1 H1 e1 x1 w1 d1 q1=>fi α1 ρ S1 σ H1 _ w1 (sl.ext x1) ((q1.shift x1).bind λu2 p2 S2 α2 H2 e2 x2 w2 d2 q2=>?_))⟩
 replace q2:=q2.shift x2
 have d1':=DenX.ext x2 d1.1;unfold HA at q2;split at q2
 .rename_i l k;obtain⟨a,rfl,h⟩:=fE d1';cases yS d2.1;obtain⟨ob,h1,h2⟩:=w2.of h;rw[h1]at q2
  cases ob with
  |lst ds=>
   obtain⟨vs,h3,l1⟩:=h2;have q2:Post X.g W α2 H2 (match IO ds.length k with |some j=>R.ok ρ (S2.set l (.lst (ds.set j d)))|none=>R.no) Q:=q2;split at q2
   .rename_i j ej;have xw:=w2.writex h (Di h3) (o:=.lst (vs.set j v));have sl2:=((sl.ext x1).ext x2).ext xw;exact⟨a,vs,k,j,rfl,rfl,h3,by rw[l1.length];exact ej,q2 σ α2 _ xw (w2.write h (Di h3) ⟨_,zS,(l1.set ((de.ext x1).ext x2) j).ext xw⟩) sl2⟩
   .exact q2.elim
  |dic _=>exact q2.elim
  |ins _ _=>exact q2.elim
  |rcd _ _=>exact q2.elim
  |fdc _=>exact q2.elim
 .exact q2.elim
end
def _root_.L2.Inv.turnedL{X:Cx}{pins:Ye}{σ:St}{H:Hp}{s:Shared}{h':Heap}{t':Nat}{fp:Ya}(I:Inv X pins σ H s)(k: ∀b o,b∉fp->s.heap.get? b=some o->h'.get? b=some o)
  (hf: ∀b∈fp,pN X pins H b):Inv X pins σ H {s with heap:=h',toks:=t'}:=by
 have nit: ∀b u,H b=some u->b∉fp:=λb u e z=>by rw[(hf b z).1]at e;cases e
 refine I.step (g':=s.gens) (d':=s.drawn) (ch:=fp) (λb hb=>⟨(hf b hb).2.2.2.1,(hf b hb).2.1,(hf b hb).2.2.2.2.1,(hf b hb).2.2.2.2.2⟩) (λb o _ _ hc e _=>k b o hc e) (λb o _ _ hc e _=>⟨o.slots,k b o hc e⟩) (λ_ _ _ _ n=>n)
  (λb o hc e=>⟨o,k b o hc e⟩) (λ_ _ e=>e) (λ_ _ _ e=>e) (λb ps e=>⟨#[],by rw[e];simp⟩) (λm hm=>?_) (λb u e=>?_) I.bare
 .obtain⟨o,es,ep,ho,r⟩:=hm;exact⟨o,es,ep,k _ o (λz=>(hf _ z).2.1 rfl) ho,r⟩
 .refine(I.hok b u e).stay (λc v hc q=>k c v ?_ q) (λ_ q=>q) λ_ _ q=>q;rcases hc with z|z
  .rw[z];exact nit b u e
  .exact nit c _ z
def IsSub(k:Bool)(h:Heap)(it l:Addr)(i:Nat):Prop:=if k=true then h.IsListIter it l i else h.IsTupleIter it l i
def IsSeq(k:Bool)(h:Heap)(l:Addr)(its:Xk):Prop:=if k=true then h.IsList l its else h.IsTuple l its
def oF(k:Bool)(l:Addr):Obj:={cls:=.type (if k=true then "list_iterator" else "tuple_iterator"),data:=.fields #[.ref l,.int 0 0]}
def IsSub.mk'{k:Bool}{h:Heap}{it l:Addr}(e:h.get? it=some (oF k l)):IsSub k h it l 0:=by
 cases k with
 |true=>exact⟨_,e,rfl,rfl⟩
 |false=>exact⟨_,e,rfl,rfl⟩
def IsSub.there{k:Bool}{h:Heap}{it l:Addr}{i:Nat}(x:IsSub k h it l i): ∃o,h.get? it=some o/\ ∀v,o.data≠.cell v:=by
 cases k with
 |true=>obtain⟨o,e,_,d⟩:=(x:h.IsListIter it l i);exact⟨o,e,λv z=>by rw[d]at z;cases z⟩
 |false=>obtain⟨o,e,_,d⟩:=(x:h.IsTupleIter it l i);exact⟨o,e,λv z=>by rw[d]at z;cases z⟩
def IsSub.move{k:Bool}{h h':Heap}{it l:Addr}{i:Nat}(x:IsSub k h it l i)(f: ∀o,h.get? it=some o->h'.get? it=some o):IsSub k h' it l i:=by
 cases k with
 |true=>obtain⟨o,e,r⟩:=(x:h.IsListIter it l i);exact⟨o,f o e,r⟩
 |false=>obtain⟨o,e,r⟩:=(x:h.IsTupleIter it l i);exact⟨o,f o e,r⟩
def IsSeq.move{k:Bool}{h h':Heap}{l:Addr}{its:Xk}(x:IsSeq k h l its)(f: ∀o,h.get? l=some o->h'.get? l=some o):IsSeq k h' l its:=by
 cases k with
 |true=>obtain⟨o,e,r⟩:=(x:h.IsList l its);exact⟨o,f o e,r⟩
 |false=>obtain⟨o,e,r⟩:=(x:h.IsTuple l its);exact⟨o,f o e,r⟩
section
variable{prog:Program}{w:World}{A:Around}{E:VP}{s:Shared}
def pY{k:Bool}{l:Addr}{its:Xk}{Q:VP}(hl:IsSeq k s.heap l its)(h:Q (.ref s.heap.objs.size) {s with heap:=s.heap.push (oF k l)}):wpAny (model prog w) A (pyIter (.ref l)) Q E s:=by
 cases k with
 |true=>exact wpAny_pyIter_list hl h
 |false=>exact wpAny_pyIter_tuple hl h
def fH{k:Bool}{it l:Addr}{i:Nat}{its:Xk}{x:Value}{Q:VP}(hit:IsSub k s.heap it l i)(hl:IsSeq k s.heap l its)(hx:its[i]? =some x)
  (hQ: ∀h',IsSub k h' it l (i+1)->Heap.SameBut it s.heap h'->Q x {s with heap:=h'}):wpAny (model prog w) A (Builtin.SmallTypes.nextOf (.ref it)) Q E s:=by
 cases k with
 |true=>exact wpAny_nextOf_list_item hit hl hx hQ
 |false=>
  have hit':s.heap.IsTupleIter it l i:=hit;obtain⟨o,ho,hc,hd⟩:=id hit';obtain⟨ol,hol,_,nl,hdl⟩:=(hl:s.heap.IsTuple l its)
  unfold Builtin.SmallTypes.nextOf;refine wB (wpAny_callSpecial?_slot (name:=Str.ofString "__next__") hit'.typeIs F.slot_tuple_iterator_next (wpAny_call_entry F.slot_tuple_iterator_next hit'.typeIs F.entry_tuple_iterator_next ?_ (F.args_tuple_iterator_next_1 _)));show wpAny _ _ (field (.ref it) 0 >>= _) _ _ s;refine wB (wpAny_field ho hd (x:=.ref l) rfl ?_);show wpAny _ _ (if(Value.ref l==Value.none)=true then _ else _) _ _ s;rw[iN (show¬((Value.ref l==Value.none)=true)from xF0)];show wpAny _ _ (field (.ref it) 1 >>= _) _ _ s;refine wB (wpAny_field ho hd (x:=.int i 0) rfl ?_);show wpAny _ _ (seqItems? (.ref l) >>= _) _ _ s;refine wB (wpAny_seqItems hol hdl ?_);simp only[Int.toNat_natCast,hx];refine wB (wpAny_setField ho hd (by simp) (wP ⟨x,rfl,wP (hQ _ ?_ (Heap.SameBut.update ..))⟩));exact⟨_,Heap.get?_update_self _ ho (Obj.isFreed_of_fields (Obj.data_mapFields hd _)),(Obj.cls_mapFields ..).trans hc,by rw[Obj.data_mapFields hd];simp[rawInt]⟩
def tR{k:Bool}{it l:Addr}{i:Nat}{its:Xk}{Q:VP}(hh:A.handled=none)(hit:IsSub k s.heap it l i)(hl:IsSeq k s.heap l its)(hx:its[i]? =none)
  (hE: ∀h' e,Heap.ExtBut it s.heap h'->(∃o,h'.get? e=some o/\o.cls=.type "StopIteration")->E (.ref e) {s with heap:=h'}):wpAny (model prog w) A (Builtin.SmallTypes.nextOf (.ref it)) Q E s:=by
 cases k with
 |true=>exact wpAny_nextOf_list_end hh hit hl hx hE
 |false=>
  have hit':s.heap.IsTupleIter it l i:=hit;obtain⟨o,ho,hc,hd⟩:=id hit';obtain⟨ol,hol,_,nl,hdl⟩:=(hl:s.heap.IsTuple l its)
  unfold Builtin.SmallTypes.nextOf;refine wB (wpAny_callSpecial?_slot (name:=Str.ofString "__next__") hit'.typeIs F.slot_tuple_iterator_next (wpAny_call_entry F.slot_tuple_iterator_next hit'.typeIs F.entry_tuple_iterator_next ?_ (F.args_tuple_iterator_next_1 _)));show wpAny _ _ (field (.ref it) 0 >>= _) _ _ s;refine wB (wpAny_field ho hd (x:=.ref l) rfl ?_);show wpAny _ _ (if(Value.ref l==Value.none)=true then _ else _) _ _ s;rw[iN (show¬((Value.ref l==Value.none)=true)from xF0)];show wpAny _ _ (field (.ref it) 1 >>= _) _ _ s;refine wB (wpAny_field ho hd (x:=.int i 0) rfl ?_);show wpAny _ _ (seqItems? (.ref l) >>= _) _ _ s;refine wB (wpAny_seqItems hol hdl ?_);simp only[Int.toNat_natCast,hx];refine wB (wpAny_rule (wB (wpAny_setField ho hd (by simp) ?_)));show wpAny _ _ (newExc (.type "StopIteration") [] >>= _) _ _ _;refine wB ?_;simp only[newExc,newTuple];refine wB (wpAny_newObj_type ?_ (by size_fits));refine wB (m:=firstArgMember _ _) (wpAny_of_eq (a:=Value.none) (by first |rfl|(simp only[firstArgMember];rfl)) ?_);refine wpAny_newObj_type ?_ (by size_fits);simp only[raiseNew];refine wB (wpAny_handled ?_)
  first |rw[show A.in1.handled=none from hh]|rw[hh]
  refine wB (wP (wpAny_throw ?_));exact hE _ _ (((Heap.SameBut.update ..).extBut.push _).push _) ⟨_,Heap.get?_push_size _ rfl,rfl⟩
end
structure ZipSt(k1 k2:Bool)(z TI TO i1 i2 l1 l2:Addr)(i:Nat)(h:Heap):Prop where
 z:IsZip h z TI TO .none
 ti:IsPair h TI (.ref i1) (.ref i2)
 to: ∃a b,IsPair h TO a b
 s1:IsSub k1 h i1 l1 i
 s2:IsSub k2 h i2 l2 i
structure Apart5(z TI TO i1 i2:Addr):Prop where
 TIz:TI≠z
 TOz:TO≠z
 i1z:i1≠z
 i2z:i2≠z
 TITO:TI≠TO
 TIi1:TI≠i1
 TIi2:TI≠i2
 TOi1:TO≠i1
 TOi2:TO≠i2
 i12:i1≠i2
section
variable{prog:Program}{w:World}{A:Around}{E:VP}{s:Shared}{k1 k2:Bool}{z TI TO i1 i2 l1 l2:Addr}{i:Nat}{xs ys:Xk}
def Off(l z TO i1 i2:Addr):Prop:=l≠z/\l≠TO/\l≠i1/\l≠i2
def NB{x y:Value}{Q:VP}(D:Apart5 z TI TO i1 i2)(o1:Off l1 z TO i1 i2)(o2:Off l2 z TO i1 i2)(st:ZipSt k1 k2 z TI TO i1 i2 l1 l2 i s.heap)(hl1:IsSeq k1 s.heap l1 xs)(hl2:IsSeq k2 s.heap l2 ys)(hx:xs[i]? =some x)(hy:ys[i]? =some y)
  (hQ: ∀h',IsZip h' z TI TO (rawInt s.heap.objs.size)->IsPair h' TO x y->IsSub k1 h' i1 l1 (i+1)->IsSub k2 h' i2 l2 (i+1)->IsPair h' s.heap.objs.size x y->
   (∀c o,c≠z->c≠TO->c≠i1->c≠i2->s.heap.get? c=some o->h'.get? c=some o)->Q (.ref s.heap.objs.size) {s with heap:=h'}):
  wpAny (model prog w) A (Builtin.«zip.__next__» ⟨[.ref z],[]⟩) (λfin s'=> ∃v,fin=.done (.ret v)/\Q v s') E s:=by
 obtain⟨hz,hTI,⟨a,b,hTO⟩,h1,h2⟩:=st;show wpAny _ _ (field (.ref z) 2 >>= _) _ _ _;refine wB (wpAny_field hz rfl (x:=.bool false) rfl ?_);show wpAny _ _ (field (.ref z) 3 >>= _) _ _ _;refine wB (wpAny_field hz rfl (x:=.ref TI) rfl (wB (wpAny_seqItems hTI rfl ?_)));show wpAny _ _ (Builtin.SmallTypes.ownedTupleIsFree (.ref z) >>= _) _ _ _;refine wB ?_;unfold Builtin.SmallTypes.ownedTupleIsFree;refine wB (wpAny_field hz rfl (x:=.none) rfl (wP ?_));simp only[if_true];refine wB (wpAny_rule (wB (wpAny_field hz rfl (x:=.ref TO) rfl (wB (wpAny_setField_rec hz (by simp) λha hza hsa=>?_)))))
 replace hza:IsZip ha z TI TO .ellipsis:=hza
 refine wB ?_;simp only[zipIdx_cons,zipIdx_nil,forIn_cons,forIn_nil];refine wB (wB (wpAny_onRaise ?_));show wpAny _ _ (Builtin.SmallTypes.nextOf (.ref i1) >>= _) _ _ _;refine wB (fH (h1.move λo e=>hsa.extBut _ _ D.i1z e) (hl1.move λo e=>hsa.extBut _ _ o1.1 e) hx λhb h1b hsb=>wP ?_);have tob:IsPair hb TO a b:=hsb.extBut _ _ D.TOi1 (hsa.extBut _ _ D.TOz hTO);refine wB (wpAny_seqItems tob rfl (wB (wpAny_updateSeq_pair tob λhc toc hsc=>wB (wpAny_letGo (wP ?_)))))
 replace toc:IsPair hc TO x b:=toc
 refine wB (wB (wpAny_onRaise ?_));show wpAny _ _ (Builtin.SmallTypes.nextOf (.ref i2) >>= _) _ _ _;have mv: ∀c o,c≠z->c≠TO->c≠i1->s.heap.get? c=some o->hc.get? c=some o:=λc o n1 n2 n3 e=>hsc.extBut _ _ n2 (hsb.extBut _ _ n3 (hsa.extBut _ _ n1 e));refine wB (fH (h2.move λo e=>mv _ o D.i2z D.TOi2.symm D.i12.symm e) (hl2.move λo e=>mv _ o o2.1 o2.2.1 o2.2.2.1 e) hy λhd h2d hsd=>wP ?_);have tod:IsPair hd TO x b:=hsd.extBut _ _ D.TOi2 toc;refine wB (wpAny_seqItems tod rfl (wB (wpAny_updateSeq_pair tod λhe toe hse=>wB (wpAny_letGo (wP (wP ?_))))))
 replace toe:IsPair he TO x y:=toe
 refine wB (wpAny_seqItems toe rfl (wB (wpAny_newTuple ?_)));have hsz:he.objs.size=s.heap.objs.size:=by rw[hse.1,hsd.1,hsc.1,hsb.1,hsa.1]
 have ze:IsZip he z TI TO .ellipsis:=hse.extBut _ _ D.TOz.symm (hsd.extBut _ _ D.i2z.symm (hsc.extBut _ _ D.TOz.symm (hsb.extBut _ _ D.i1z.symm hza)));have mve: ∀c o,c≠z->c≠TO->c≠i1->c≠i2->s.heap.get? c=some o->he.get? c=some o:=λc o n1 n2 n3 n4 e=>hse.extBut _ _ n2 (hsd.extBut _ _ n4 (mv c o n1 n2 n3 e));have s1e:IsSub k1 he i1 l1 (i+1):=h1b.move λo e=>hse.extBut _ _ D.TOi1.symm (hsd.extBut _ _ D.i12 (hsc.extBut _ _ D.TOi1.symm e));have s2e:IsSub k2 he i2 l2 (i+1):=h2d.move λo e=>hse.extBut _ _ D.TOi2.symm e;have hzlt:z<he.objs.size:=Heap.lt_size ze;show wpAny _ _ (Builtin.SmallTypes.ownedTupleHandOut (.ref z) (.ref he.objs.size) >>= _) _ _ _;refine wB ?_;unfold Builtin.SmallTypes.ownedTupleHandOut;have zf:IsZip (he.push {cls:=.type "tuple",data:=.seq #[x,y]}) z TI TO .ellipsis:=hP0 _ ze;refine wB (wpAny_setField_rec zf (by simp) λhg' zg hsg=>?_)
 replace zg:IsZip hg' z TI TO (rawInt he.objs.size):=zg
 refine wpAny_setField_rec zg (by simp) λhh' zh hsh=>?_
 replace zh:IsZip hh' z TI TO (rawInt he.objs.size):=zh
 have up: ∀c o,c≠z->he.get? c=some o->hh'.get? c=some o:=λc o c1 e=>hsh.extBut _ _ c1 (hsg.extBut _ _ c1 (hP0 _ e));have tT:IsPair hh' he.objs.size x y:=hsh.extBut _ _ (Nat.ne_of_gt hzlt) (hsg.extBut _ _ (Nat.ne_of_gt hzlt) (Heap.get?_push_size _ rfl));rw[hsz]at zh tT;refine wP ⟨_,rfl,?_⟩;show Q (.ref he.objs.size) _;rw[hsz];exact hQ hh' zh (up _ _ D.TOz toe) (s1e.move λo e=>up _ o D.i1z e) (s2e.move λo e=>up _ o D.i2z e) tT λc o c1 c2 c3 c4 e=>up c o c1 (mve c o c1 c2 c3 c4 e)
def SQ{Q:Fin->Shared->Prop}(hh:A.handled=none)(D:Apart5 z TI TO i1 i2)(o1:Off l1 z TO i1 i2)(o2:Off l2 z TO i1 i2)(st:ZipSt k1 k2 z TI TO i1 i2 l1 l2 i s.heap)(hl1:IsSeq k1 s.heap l1 xs)(hl2:IsSeq k2 s.heap l2 ys)(hend:xs[i]? =none\/ys[i]? =none)
  (hE: ∀h' e,(∀c o,c≠z->c≠TO->c≠i1->c≠i2->s.heap.get? c=some o->h'.get? c=some o)->(∃o,h'.get? e=some o/\o.cls=.type "StopIteration")->E (.ref e) {s with heap:=h'}):
  wpAny (model prog w) A (Builtin.«zip.__next__» ⟨[.ref z],[]⟩) Q E s:=by
 obtain⟨hz,hTI,⟨a,b,hTO⟩,h1,h2⟩:=st;show wpAny _ _ (field (.ref z) 2 >>= _) _ _ _;refine wB (wpAny_field hz rfl (x:=.bool false) rfl ?_);show wpAny _ _ (field (.ref z) 3 >>= _) _ _ _;refine wB (wpAny_field hz rfl (x:=.ref TI) rfl (wB (wpAny_seqItems hTI rfl ?_)));show wpAny _ _ (Builtin.SmallTypes.ownedTupleIsFree (.ref z) >>= _) _ _ _;refine wB ?_;unfold Builtin.SmallTypes.ownedTupleIsFree;refine wB (wpAny_field hz rfl (x:=.none) rfl (wP ?_));simp only[if_true];refine wB (wpAny_rule (wB (wpAny_field hz rfl (x:=.ref TO) rfl (wB (wpAny_setField_rec hz (by simp) λha hza hsa=>?_)))))
 replace hza:IsZip ha z TI TO .ellipsis:=hza
 refine wB ?_;simp only[zipIdx_cons,zipIdx_nil,forIn_cons,forIn_nil];refine wB (wB (wpAny_onRaise ?_));show wpAny _ _ (Builtin.SmallTypes.nextOf (.ref i1) >>= _) _ _ _
 cases hx:xs[i]? with
 |none=>
  refine wB (tR hh (h1.move λo e=>hsa.extBut _ _ D.i1z e) (hl1.move λo e=>hsa.extBut _ _ o1.1 e) hx λhb e hsb he=>?_);obtain⟨oe,hoe,hce⟩:=he;have hzb:IsZip hb z TI TO .ellipsis:=hsb _ _ D.i1z.symm hza;have hez:e≠z:=λq=>by subst q;rw[hzb]at hoe;cases hoe;simp at hce
  exact wpAny_setField_rec hzb (by simp) λhc _ hsc=>hE hc e (λc o c1 _ c3 _ q=>hsc.extBut _ _ c1 (hsb _ _ c3 (hsa.extBut _ _ c1 q))) ⟨oe,hsc.extBut _ _ hez hoe,hce⟩
 |some x=>
  have hy:ys[i]? =none:=by rcases hend with h|h;(rw[hx]at h;cases h);exact h
  refine wB (fH (h1.move λo e=>hsa.extBut _ _ D.i1z e) (hl1.move λo e=>hsa.extBut _ _ o1.1 e) hx λhb h1b hsb=>wP ?_);have tob:IsPair hb TO a b:=hsb.extBut _ _ D.TOi1 (hsa.extBut _ _ D.TOz hTO);refine wB (wpAny_seqItems tob rfl (wB (wpAny_updateSeq_pair tob λhc toc hsc=>wB (wpAny_letGo (wP ?_)))));refine wB (wB (wpAny_onRaise ?_));show wpAny _ _ (Builtin.SmallTypes.nextOf (.ref i2) >>= _) _ _ _;have mv: ∀c o,c≠z->c≠TO->c≠i1->s.heap.get? c=some o->hc.get? c=some o:=λc o n1 n2 n3 e=>hsc.extBut _ _ n2 (hsb.extBut _ _ n3 (hsa.extBut _ _ n1 e));refine wB (tR hh (h2.move λo e=>mv _ o D.i2z D.TOi2.symm D.i12.symm e) (hl2.move λo e=>mv _ o o2.1 o2.2.1 o2.2.2.1 e) hy λhd e hsd he=>?_);obtain⟨oe,hoe,hce⟩:=he;have hzd:IsZip hd z TI TO .ellipsis:=hsd _ _ D.i2z.symm (hsc.extBut _ _ D.TOz.symm (hsb.extBut _ _ D.i1z.symm hza));have hez:e≠z:=λq=>by subst q;rw[hzd]at hoe;cases hoe;simp at hce
  exact wpAny_setField_rec hzd (by simp) λhg' _ hsg=>hE hg' e (λc o c1 c2 c3 c4 q=>hsg.extBut _ _ c1 (hsd _ _ c4 (mv c o c1 c2 c3 q))) ⟨oe,hsg.extBut _ _ hez hoe,hce⟩
def QO(k1 k2:Bool)(l1 l2:Addr)(xs ys:Xk):
  Meets (Builtin.«zip.__new__» ⟨[.type "zip",.ref l1,.ref l2],[]⟩) (λ_ R s=>IsSeq k1 s.heap l1 xs/\IsSeq k2 s.heap l2 ys/\
   R (.ok (.ret (.ref (s.heap.objs.size+4)))) {s with heap:=((((s.heap.push (oF k1 l1)).push (oF k2 l2)).push {cls:=.type "tuple",data:=.seq #[.ref s.heap.objs.size,.ref (s.heap.objs.size+1)]}).push {cls:=.type "tuple",data:=.seq #[.none,.none]}).push {cls:=.type "zip",data:=.fields #[.none,.bool false,.bool false,.ref (s.heap.objs.size+2),.ref (s.heap.objs.size+3)]}}):=
 .of_wp λprog w A R s h=>by
  obtain⟨hp,g,d,tk,os⟩:=s;obtain⟨hl1,hl2,h⟩:=h;have hsub:=sub_zip;have hL1:IsSeq k1 (Shared.heap ⟨hp,g,d,tk,os⟩) l1 xs:=hl1;have hL2:IsSeq k2 (Shared.heap ⟨hp.push (oF k1 l1),g,d,tk,os⟩) l2 ys:=hl2.move λo e=>hP0 _ e;have z1: ∀(h:Heap)(o:Obj),(h.push o).objs.size=h.objs.size+1:=λh o=>Heap.size_push ..;simp only[z1]at h ⊢
  wp_walk using pY hL1,pY hL2
  exact⟨_,rfl,by simp only[z1];exact h⟩
def NC(hl1:IsSeq k1 s.heap l1 xs)(hl2:IsSeq k2 s.heap l2 ys){Q:VP}
  (h: ∀h',ZipSt k1 k2 (s.heap.objs.size+4) (s.heap.objs.size+2) (s.heap.objs.size+3) s.heap.objs.size (s.heap.objs.size+1) l1 l2 0 h'->(∀c o,s.heap.get? c=some o->h'.get? c=some o)->Q (.ref (s.heap.objs.size+4)) {s with heap:=h'}):
  wpAny (model prog w) A (call (.type "zip") [.ref l1,.ref l2]) Q E s:=by
 refine callType_new F.called_zip (by decide) (F.typeCall_zip_2 _ _) (F.newCall_zip_2 _ _) (λobj=>F.args_object_init_3 obj _ _) F.entry_zip_new (QO k1 k2 l1 l2 xs ys) ⟨hl1,hl2,?_⟩;have z1: ∀(h:Heap)(o:Obj),(h.push o).objs.size=h.objs.size+1:=λh o=>Heap.size_push ..;have pg: ∀(h:Heap)(o:Obj)(n:Nat),o.isFreed=false->h.objs.size=n->(h.push o).get? n=some o:=λh o n hf e=>by subst e;exact Heap.get?_push_size _ hf
 have up: ∀(h:Heap)(o u:Obj)(n:Nat),h.get? n=some u->(h.push o).get? n=some u:=λh o u n e=>hP0 _ e;refine⟨⟨_,pg _ _ _ rfl (by simp only[z1]),rfl⟩,h _ ⟨pg _ _ _ rfl (by simp only[z1]),up _ _ _ _ (up _ _ _ _ (pg _ _ _ rfl (by simp only[z1]))),⟨.none,.none,up _ _ _ _ (pg _ _ _ rfl (by simp only[z1]))⟩,?_,?_⟩ λc o e=>up _ _ _ _ (up _ _ _ _ (up _ _ _ _ (up _ _ _ _ (up _ _ _ _ e))))⟩
 .exact IsSub.mk' (up _ _ _ _ (up _ _ _ _ (up _ _ _ _ (up _ _ _ _ (pg _ _ _ rfl rfl)))))
 .exact IsSub.mk' (up _ _ _ _ (up _ _ _ _ (up _ _ _ _ (pg _ _ _ rfl (by simp only[z1])))))
end
def apart_new(n:Nat):Apart5 (n+4) (n+2) (n+3) n (n+1):=by constructor<;>(show(_:Nat)≠_;omega)
def FH(k:Bool)(K:Yj)(H:Hp)(a:Addr)(xs:List V):Prop:=if k=true then SqL K H a xs else SqT K H a xs
def Itz(K:Yj)(k1 k2:Bool)(l1 l2:Addr):It:=
 ⟨λi H=> ∃xs ys x y,FH k1 K H l1 xs/\FH k2 K H l2 ys/\xs[i]? =some x/\ys[i]? =some y,
   λi H v H'=> ∃p x y,H p=none/\v=.ref p/\H'=xH H p (.tup [x,y])/\(∀xs,FH k1 K H l1 xs->xs[i]? =some x)/\ ∀ys,FH k2 K H l2 ys->ys[i]? =some y,
   λi H=> ∃xs ys,FH k1 K H l1 xs/\FH k2 K H l2 ys/\(xs.length<=i\/ys.length<=i)⟩
section
variable{X:Cx}{pins:Ye}{σ:St}{H:Hp}{s:Shared}
def _root_.L2.Inv.seqK(I:Inv X pins σ H s){k:Bool}{a:Addr}{xs:List V}(h:FH k X.K H a xs): ∃its:List Value,Vals xs its/\IsSeq k s.heap a its.toArray/\xs.length<=sizeLine:=by
 cases k with
 |true=>obtain⟨its,r,p,z⟩:=I.list h;exact⟨its,r,p.isList,z⟩
 |false=>obtain⟨its,r,p,z⟩:=I.tuple h;exact⟨its,r,p,z⟩
def _root_.L2.Inv.seqK_inj(I:Inv X pins σ H s){k:Bool}{a:Addr}{xs ys:List V}(h:FH k X.K H a xs)(h':FH k X.K H a ys):xs=ys:=by
 cases k with
 |true=>exact I.list_inj h h'
 |false=>exact I.tuple_inj h h'
def iQ(I:Inv X pins σ H s){k:Bool}{l b:Addr}{xs:List V}(h:FH k X.K H l xs)(hb:pN X pins H b):l≠b:=by
 rintro rfl
 have kk: ∀o,X.K.lookup l=some o->False:=λo e=>by
  have e1:=I.mod.kin l o e;rcases hb.2.2.2.1 with z|z
  .exact I.ok.noex l o e1 z
  .exact absurd (Nat.lt_of_lt_of_le (Heap.lt_size e1) (Nat.le_trans I.ok.bsz z)) (lt_irrefl _)
 cases k with
 |true=>
  rcases (h:SqL X.K H l xs)with(h|⟨o,h⟩)|⟨o,its,n,h,_⟩
  .rw[hb.1]at h;cases h
  .rw[hb.1]at h;cases h
  .exact kk o h
 |false=>
  rcases (h:SqT X.K H l xs)with(h|⟨o,h⟩)|⟨o,its,n,h,_⟩
  .rw[hb.1]at h;cases h
  .rw[hb.1]at h;cases h
  .exact kk o h
end
def ZP{P:Program}{w:World}{K:Yj}{elts:Yi}{kt:Nat}{pt:Pos}{k1 k2:Bool}{z TI TO i1 i2 l1 l2:Addr}(D:Apart5 z TI TO i1 i2):
  Turn P w K (.Tuple elts kt pt) (Itz K k1 k2 l1 l2) [z,TI,TO,i1,i2] z (λi h=>ZipSt k1 k2 z TI TO i1 i2 l1 l2 i h) where
 mem:=by simp
 obj:=λi h st b hb=>by
  obtain⟨hz,hTI,⟨a,b',hTO⟩,h1,h2⟩:=st;have hb':b=z\/b=TI\/b=TO\/b=i1\/b=i2:=by simpa using hb
  rcases hb' with rfl|rfl|rfl|rfl|rfl
  .exact⟨_,hz,λv q=>by cases q⟩
  .exact⟨_,hTI,λv q=>by cases q⟩
  .exact⟨_,hTO,λv q=>by cases q⟩
  .exact h1.there
  .exact h2.there
 keep:=λi h h' st k=>by obtain⟨hz,hTI,⟨a,b',hTO⟩,h1,h2⟩:=st;exact⟨k z (by simp) _ hz,k TI (by simp) _ hTI,⟨a,b',k TO (by simp) _ hTO⟩,h1.move λo e=>k i1 (by simp) o e,h2.move λo e=>k i2 (by simp) o e⟩
 item:=by
  intro X hP hw hK hc i pins s σ H E I hf st hg;subst hP hw hK;obtain⟨xs,ys,x,y,q1,q2,hx,hy⟩:=hg;obtain⟨its,r1,p1,_⟩:=I.seqK q1;obtain⟨its2,r2,p2,_⟩:=I.seqK q2;obtain⟨u,hu,ru⟩:=r1.get hx;obtain⟨v,hv,rv⟩:=r2.get hy;have off: ∀{k:Bool}{l:Addr}{xs:List V},FH k X.K H l xs->Off l z TO i1 i2:=λq=>⟨iQ I q (hf z (by simp)),iQ I q (hf TO (by simp)),iQ I q (hf i1 (by simp)),iQ I q (hf i2 (by simp))⟩
  have hT:s.TypeIs (.ref z) "zip":=⟨_,st.z,rfl⟩
  unfold pyNext
  refine wB (wpAny_attempt (wpAny_callSpecial?_slot (name:=Str.ofString "__next__") hT F.slot_zip_next (wpAny_call_entry F.slot_zip_next hT F.entry_zip_next
   (NB D (off q1) (off q2) st p1 p2 (x:=u) (y:=v) (by simpa using hu) (by simpa using hv) λh' a1 a2 a3 a4 a5 a6=>wP ⟨_,rfl,?_⟩) (F.args_zip_next_1 _))))
  refine wpAny_letOwnedTupleGo_zip a1 λh2 z2 sb2=>?_;have hpn:H s.heap.objs.size=none:=I.hok.fresh q9
  have I0:Inv X pins σ (xH H s.heap.objs.size (.tup [x,y])) {s with heap:=s.heap.push {cls:=.type "tuple",data:=.seq #[u,v]}}:=
   I.laid (t':=s.toks) (o:=.tup [x,y]) (λb o e=>hP0 _ e) q9 ⟨by show 2<=sizeLine;decide,[u,v],.cons ru (.cons rv .nil),⟨_,Heap.get?_push_size _ rfl,rfl,_,rfl⟩⟩
  have lt: ∀b∈[z,TI,TO,i1,i2],b<s.heap.objs.size:=λb hb=>by
   have: ∃o,s.heap.get? b=some o:=by
    obtain⟨hz,hTI,⟨a,b',hTO⟩,g1,g2⟩:=st;have hb':b=z\/b=TI\/b=TO\/b=i1\/b=i2:=by simpa using hb
    rcases hb' with rfl|rfl|rfl|rfl|rfl
    .exact⟨_,hz⟩
    .exact⟨_,hTI⟩
    .exact⟨_,hTO⟩
    .obtain⟨o,e,_⟩:=g1.there;exact⟨o,e⟩
    .obtain⟨o,e,_⟩:=g2.there;exact⟨o,e⟩
   obtain⟨o,e⟩:=this;exact Heap.lt_size e
  have fr: ∀b∈[z,TI,TO,i1,i2],xH H s.heap.objs.size (.tup [x,y]) b=none:=λb hb=>by rw[zH (Nat.ne_of_lt (lt b hb))];exact(hf b hb).1
  have zne:s.heap.objs.size≠z:=Nat.ne_of_gt (lt z (by simp))
  have mv: ∀b o,b∉[z,TI,TO,i1,i2]->(s.heap.push {cls:=.type "tuple",data:=.seq #[u,v]}).get? b=some o->h2.get? b=some o:=λb o hb e=>by
   simp only[mC,nM,or_false,not_or]at hb;refine sb2.extBut _ _ hb.1 ?_;by_cases hbs:b=s.heap.objs.size
   .subst hbs;rw[Heap.get?_push_size _ rfl]at e;cases e;exact a5
   .rw[Heap.get?_push_ne _ _ _ hbs]at e;exact a6 b o hb.1 hb.2.2.1 hb.2.2.2.1 hb.2.2.2.2 e
  have I2:=I0.turnedL (h':=h2) (t':=s.toks) mv λb hb=>let ⟨_,c2,c3,c4,c5,c6⟩:=hf b hb;⟨fr b hb,c2,c3,c4,c5,c6⟩;refine⟨.ref s.heap.objs.size,_,I2,rfl,⟨s.heap.objs.size,x,y,hpn,rfl,rfl,λzs hz=>?_,λzs hz=>?_⟩,⟨z2,?_,⟨u,v,?_⟩,?_,?_⟩,fr⟩
  .rw[I.seqK_inj hz q1];exact hx
  .rw[I.seqK_inj hz q2];exact hy
  .exact sb2.extBut _ _ D.TIz (a6 TI _ D.TIz D.TITO D.TIi1 D.TIi2 st.ti)
  .exact sb2.extBut _ _ D.TOz a2
  .exact a3.move λo e=>sb2.extBut _ _ D.i1z e
  .exact a4.move λo e=>sb2.extBut _ _ D.i2z e
 done:=by
  intro X hP hw hK hc i pins s σ H E I hf st hg;subst hP hw hK;obtain⟨xs,ys,q1,q2,hx⟩:=hg;obtain⟨its,r1,p1,_⟩:=I.seqK q1;obtain⟨its2,r2,p2,_⟩:=I.seqK q2;have off: ∀{k:Bool}{l:Addr}{xs:List V},FH k X.K H l xs->Off l z TO i1 i2:=λq=>⟨iQ I q (hf z (by simp)),iQ I q (hf TO (by simp)),iQ I q (hf i1 (by simp)),iQ I q (hf i2 (by simp))⟩
  have hT:s.TypeIs (.ref z) "zip":=⟨_,st.z,rfl⟩
  have e1:=r1.length;have e2:=r2.length;unfold pyNext
  refine wB (wpAny_attempt (wpAny_callSpecial?_slot (name:=Str.ofString "__next__") hT F.slot_zip_next (wpAny_call_entry F.slot_zip_next hT F.entry_zip_next
   (SQ (I.ok.hd hc) D (off q1) (off q2) st p1 p2 (by rcases hx with h|h;(exact .inl (by simp;omega));exact .inr (by simp;omega)) λh' e hk he=>?_) (F.args_zip_next_1 _))))
  obtain⟨o,ho,hcl⟩:=he;refine wB (wpAny_isInstance (T:="StopIteration") (b:=true) ⟨o,ho,hcl⟩ isSubtype_stop (wP ⟨rfl,?_⟩));refine I.turnedL (h':=h') (t':=s.toks) (λb o hb e=>?_) hf;simp only[mC,nM,or_false,not_or]at hb;exact hk b o hb.1 hb.2.2.1 hb.2.2.2.1 hb.2.2.2.2 e
 self:=λ_ _ _ _ _ st h=>wpAny_pyIter_zip st.z h
structure Sr where
 k:Bool
 ds:List MV
 gs:List (Nat×List MV)
def srcOf(S:Sto):Er->Option Sr
 |.val (.tup ds)=>some ⟨false,ds,[]⟩
 |.new ds=>some ⟨true,ds,[]⟩
 |.val (.scr ds)=>some ⟨true,ds,[]⟩
 |.val (.loc l)=>match S[l]? with
  |some (.lst ds)=>some ⟨true,ds,[(l,ds)]⟩
  |_=>none
 |_=>none
structure SrcD(X:Cx)(q:Sr)(l:Addr)(P:List Addr->Sto->Hp->Prop):Prop where
 get: ∀α S H,P α S H-> ∃vs,FH q.k X.K H l vs/\DenL X.K α H q.ds vs
 stays: ∀α1 S1 H1 α2 S2 H2,P α1 S1 H1->Ext α1 H1 α2 H2->Wd X.g α2 S2 H2->stay q.gs S2->P α2 S2 H2
 st: ∀α S H,P α S H->stay q.gs S
def vH{X:Cx}{α:Ya}{S:Sto}{H:Hp}(wd:Wd X.g α S H){r:Er}{x:V}{q:Sr}(e:srcOf S r=some q)(d:DenX X.K α H r x): ∃l P,x=.ref l/\P α S H/\SrcD X q l P:=by
 unfold srcOf at e;split at e
 .rename_i ds;cases e;obtain⟨a,vs,rfl,s,l⟩:=nT d;exact⟨a,λα S H=> ∃vs,SqT X.K H a vs/\DenL X.K α H ds vs,rfl,⟨vs,s,l⟩,λα S H h=>h,λα1 S1 H1 α2 S2 H2 ⟨vs,h1,h2⟩ x w _=>⟨vs,x.sqT h1,h2.ext x⟩,λ_ _ _ _=>bN⟩
 .rename_i ds;cases e;obtain⟨b,vs,rfl,h,n,l⟩:=d
  exact⟨b,λα S H=> ∃vs,H b=some (.lst vs)/\b∉α/\DenL X.K α H ds vs,rfl,⟨vs,h,n,l⟩,λα S H ⟨vs,h1,_,h2⟩=>⟨vs,(SqL.of h1:SqL X.K H b vs),h2⟩,
   λα1 S1 H1 α2 S2 H2 ⟨vs,h1,h2,h3⟩ x w _=>⟨vs,x.keep b _ h1 h2,x.out h1 h2,h3.ext x⟩,λ_ _ _ _=>bN⟩
 .rename_i ds;cases e;obtain⟨a,vs,rfl,s,l⟩:=DL d;exact⟨a,λα S H=> ∃vs,SqF X.K H a vs/\DenL X.K α H ds vs,rfl,⟨vs,s,l⟩,λα S H ⟨vs,h1,h2⟩=>⟨vs,h1.l,h2⟩,λα1 S1 H1 α2 S2 H2 ⟨vs,h1,h2⟩ x w _=>⟨vs,x.sqF h1,h2.ext x⟩,λ_ _ _ _=>bN⟩
 .rename_i n;split at e
  .rename_i ds hS;cases e;obtain⟨a,rfl,h⟩:=fE d;obtain⟨vs,h1,h2⟩:=wd.obj n a _ h hS;refine⟨a,λα S H=> ∃vs,H a=some (.lst vs)/\DenL X.K α H ds vs/\α[n]? =some a/\S[n]? =some (.lst ds),rfl,⟨vs,h1,h2,h,hS⟩,λα S H ⟨vs,h1,h2,_⟩=>⟨vs,(SqL.of h1:SqL X.K H a vs),h2⟩,?_,?_⟩
   .intro α1 S1 H1 α2 S2 H2 ⟨vs,a1,a2,a3,a4⟩ x w hs;have hs':=hs (n,ds) (by simp);obtain⟨us,b1,b2⟩:=w.obj n a _ (x.at a3) hs';exact⟨us,b1,b2,x.at a3,hs'⟩
   .intro α S H ⟨vs,_,_,_,a4⟩ p hp;have:p=(n,ds):=by simpa using hp
    subst this;exact a4
  .cases e
 .cases e
def iZip(K:Yj)(ta:TA):TI:=λσ H R=>ta σ H λvs H1=> ∃k1 k2 l1 l2,vs=[.ref l1,.ref l2]/\(∃xs,FH k1 K H1 l1 xs)/\(∃ys,FH k2 K H1 l2 ys)/\R (Itz K k1 k2 l1 l2) H1
section
variable{X:Cx}{W:XW}{a b:Expr}{elts:Yi}{kt:Nat}{pt p pos:Pos}{ta:TA}{af:Rho->Sto->R (List Er)}
def ZQ:bootBuiltins "zip"=some (.type "zip"):=by decide+kernel
def Gr:bootBuiltins "enumerate"=some (.type "enumerate"):=by decide+kernel
def Pp(hg:Gl X "zip")(hm:X.mg "zip"=none)(ha:PA X [a,b] ta)(hs:starEach [a,b] X.env=[(false,eval a X.env),(false,eval b X.env)]:=by rfl)(hs2:starEach [b] X.env=[(false,eval b X.env)]:=by rfl):
  PI X (.Tuple elts kt pt) (.Call (.Name "zip" p) [a,b] [] pos) (iZip X.K ta):=by
 intro pins s σ H R I h;refine Call_ (oA I hg hm ZQ (PyProof.Rows.callWith_type1 (kG (ha pos pins s σ H _ I h) λus s1 ⟨vs,H1,I1,r1,q1⟩=>?_) (by rw[hs,hs2]) (by rw[hs2];rfl)));obtain⟨k1,k2,l1,l2,rfl,⟨xs,c1⟩,⟨ys,c2⟩,q⟩:=q1
 cases r1 with
 |cons r rr=>
  cases rr with
  |cons r' rr=>
   cases rr;cases r;cases r';obtain⟨its,v1,p1,_⟩:=I1.seqK c1;obtain⟨its2,v2,p2,_⟩:=I1.seqK c2;refine NC p1 p2 λh' st hk=>wpAny_pyIter_zip st.z ?_;have I2:Inv X pins σ H1 {s1 with heap:=h'}:=I1.kept (t':=s1.toks) hk;refine⟨_,_,_,_,H1,rfl,I2,ZP (apart_new _),st,λb hb=>?_,q⟩
   have hle:s1.heap.objs.size<=b:=by
    have hb':b=s1.heap.objs.size+4\/b=s1.heap.objs.size+2\/b=s1.heap.objs.size+3\/b=s1.heap.objs.size\/b=s1.heap.objs.size+1:=by simpa using hb
    rcases hb' with h|h|h|h|h<;>rw[h]<;>(first |exact Nat.le_refl _|exact Nat.le_add_right _ _)
   exact I1.fpOk hle (I1.hok.fresh hle)
def pairs(xs ys:Za):List MV:=List.zipWith (λx y=>.tup [x,y]) xs ys
def ZR(rs:List Er)(S:Sto):R Wk:=match rs with
 |[p,q]=>match srcOf S p with
  |some a=>match srcOf S q with
   |some b=>.ok ⟨pairs a.ds b.ds,a.gs++b.gs⟩ S
   |none=>.no
  |none=>.no
 |_=>.no
def Pq(hg:Gl X "zip")(hm:X.mg "zip"=none)(ha:DM X W [a,b] af)(hs:starEach [a,b] X.env=[(false,eval a X.env),(false,eval b X.env)]:=by rfl)(hs2:starEach [b] X.env=[(false,eval b X.env)]:=by rfl):
  GV X W (.Tuple elts kt pt) (.Call (.Name "zip" p) [a,b] [] pos) (λρ S=>(af ρ S).bind ZR):=by
 obtain⟨t,ha,k⟩:=ha;refine⟨_,Pp hg hm ha hs hs2,λα ρ S σ H Rc wd sl q=>k α ρ S σ H _ wd sl (q.bind λvs rs S1 α1 H1 e x1 w1 d1 q1=>?_)⟩
 replace q1:=q1.shift x1
 unfold ZR at q1;split at q1
 .rename_i r1 r2;split at q1
  .rename_i s1 e1;split at q1
   .rename_i s2 e2;obtain⟨u,v,rfl,du,dv⟩:=Kl d1;obtain⟨l1,P1,rfl,p1,D1⟩:=vH w1 e1 du;obtain⟨l2,P2,rfl,p2,D2⟩:=vH w1 e2 dv;have g1:=D1.get _ _ _ p1;have g2:=D2.get _ _ _ p2;refine⟨s1.k,s2.k,l1,l2,rfl,⟨_,g1.choose_spec.1⟩,⟨_,g2.choose_spec.1⟩,q1.here (u:=Itz X.K s1.k s2.k l1 l2) w1 ⟨λα S H=>P1 α S H/\P2 α S H,?_,⟨p1,p2⟩,?_,?_⟩⟩
    .intro i α2 S2 H2 ⟨b1,b2⟩ w2;obtain⟨us,c1,c2⟩:=D1.get _ _ _ b1;obtain⟨ws,c3,c4⟩:=D2.get _ _ _ b2;have hl:(pairs s1.ds s2.ds).length=min us.length ws.length:=by unfold pairs;rw[List.length_zipWith,c2.length,c4.length]
     refine⟨λhi=>?_,λhi=>?_⟩
     .have hi:i<(pairs s1.ds s2.ds).length:=hi;have h1:i<us.length:=by omega
      have h2:i<ws.length:=by omega
      refine⟨⟨us,ws,us[i],ws[i],c1,c3,gE h1,gE h2⟩,?_⟩;rintro x H' ⟨pp,xx,yy,hp,rfl,rfl,hx,hy⟩;obtain⟨d,hd,dd⟩:=c2.get (hx us c1);obtain⟨f,hf,df⟩:=c4.get (hy ws c3);have xn:=w2.newx (o:=.tup [xx,yy]) hp;have wn:=w2.new (o:=.tup [xx,yy]) hp;refine⟨xn,wn,⟨D1.stays _ _ _ _ _ _ b1 xn wn (D1.st _ _ _ b1),D2.stays _ _ _ _ _ _ b2 xn wn (D2.st _ _ _ b2)⟩,.tup [d,f],?_,?_⟩
      .unfold pairs;rw[List.getElem?_zipWith,hd,hf]
      .exact aR (.of zS) (zM (dd.ext xn) (zM (df.ext xn) zW))
     .have hi:(pairs s1.ds s2.ds).length<=i:=hi;refine⟨us,ws,c1,c3,?_⟩;by_cases h1:us.length<=i
      .exact .inl h1
      .exact .inr #[0]
    .intro α1 S1 H1 α2 S2 H2 ⟨b1,b2⟩ x w hs;exact⟨D1.stays _ _ _ _ _ _ b1 x w λp hp=>hs p (mem_append_left _ hp),D2.stays _ _ _ _ _ _ b2 x w λp hp=>hs p (List.mem_append_right _ hp)⟩
    .intro p hp;rcases List.mem_append.mp hp with h|h
     .exact D1.st _ _ _ p1 p h
     .exact D2.st _ _ _ p2 p h
   .exact q1.elim
  .exact q1.elim
 .exact q1.elim
end
structure EnSt(k:Bool)(e it l:Addr)(i:Nat)(h:Heap):Prop where
 e: ∃old,IsEnum h e it i old
 s:IsSub k h it l i
section
variable{prog:Program}{w:World}{A:Around}{E:VP}{s:Shared}{k:Bool}{e it l:Addr}{i:Nat}{its:Xk}
def Gu{x old:Value}{Q:VP}(he:IsEnum s.heap e it i old)(hit:IsSub k s.heap it l i)(hl:IsSeq k s.heap l its)(hx:its[i]? =some x)(hne:e≠it)
  (hQ: ∀h',IsEnumOut h' e it ((i:Int)+1) x s.heap.objs.size->IsSub k h' it l (i+1)->h'.get? s.heap.objs.size=some {cls:=.type "tuple",data:=.seq #[.int i s.toks,x]}->
   (∀b o,b≠e->b≠it->s.heap.get? b=some o->h'.get? b=some o)->Q (.ref s.heap.objs.size) {s with heap:=h',toks:=s.toks+1}):
  wpAny (model prog w) A (Builtin.«enumerate.__next__» ⟨[.ref e],[]⟩) (λfin s'=> ∃v,fin=.done (.ret v)/\Q v s') E s:=by
 obtain⟨hp,g,d,tk,os⟩:=s;show wpAny _ _ (field (.ref e) 2 >>= _) _ _ _;refine wB (wpAny_field he rfl (x:=.ref it) rfl (wB (fH hit hl hx λha ita hsa=>?_)))
 replace hsa:Heap.SameBut it hp ha:=hsa
 have ea:IsEnum ha e it i old:=(hsa.2 e hne).trans he;show wpAny _ _ (field (.ref e) 3 >>= _) _ _ ⟨ha,g,d,tk,os⟩;refine wB (wpAny_field ea rfl (x:=rawInt i) rfl ?_);show wpAny _ _ (field (.ref e) 4 >>= _) _ _ ⟨ha,g,d,tk,os⟩;refine wB (wpAny_field ea rfl (x:=.none) rfl ?_);show wpAny _ _ (mkInt i >>= _) _ _ ⟨ha,g,d,tk,os⟩;refine wB (wpAny_mkInt ?_);show wpAny _ _ (setField (.ref e) 3 (rawInt ((i:Int)+1)) >>= _) _ _ ⟨ha,g,d,tk+1,os⟩;refine wB (wpAny_setField_rec ea (by simp) λhb eb hsb=>?_)
 replace hsb:Heap.SameBut e ha hb:=hsb
 replace eb:IsEnum hb e it ((i:Int)+1) old:=eb
 show wpAny _ _ (setField (.ref e) 4 .none >>= _) _ _ ⟨hb,g,d,tk+1,os⟩;refine wB (wpAny_setField_rec eb (by simp) λhc ec hsc=>?_)
 replace hsc:Heap.SameBut e hb hc:=hsc
 replace ec:IsEnum hc e it ((i:Int)+1) old:=ec
 show wpAny _ _ (newTuple [.int i tk,x] >>= _) _ _ ⟨hc,g,d,tk+1,os⟩;refine wB (wpAny_newTuple ?_);have hsz:hc.objs.size=hp.objs.size:=by rw[hsc.1,hsb.1,hsa.1]
 have hel:e<hp.objs.size:=Heap.lt_size he;have ed:IsEnum (hc.push {cls:=.type "tuple",data:=.seq #[.int i tk,x]}) e it ((i:Int)+1) old:=hP0 _ ec;have td:(hc.push {cls:=.type "tuple",data:=.seq #[.int i tk,x]}).get? hp.objs.size=some {cls:=.type "tuple",data:=.seq #[.int i tk,x]}:=by rw[<-hsz];exact Heap.get?_push_size _ rfl
 have kd: ∀b o,b≠e->b≠it->hp.get? b=some o->(hc.push {cls:=.type "tuple",data:=.seq #[.int i tk,x]}).get? b=some o:=λb o n1 n2 q=>
  hP0 _ (hsc.extBut b o n1 (hsb.extBut b o n1 (hsa.extBut b o n2 q)))
 have sd:IsSub k (hc.push {cls:=.type "tuple",data:=.seq #[.int i tk,x]}) it l (i+1):=ita.move λo q=>hP0 _ (hsc.extBut _ o (Ne.symm hne) (hsb.extBut _ o (Ne.symm hne) q));generalize hc.push {cls:=.type "tuple",data:=.seq #[.int i tk,x]}=hd at ed td kd sd ⊢;show wpAny _ _ (Builtin.SmallTypes.ownedTupleIsFree (.ref e) >>= _) _ _ ⟨hd,g,d,tk+1,os⟩;rw[hsz];refine wB ?_;unfold Builtin.SmallTypes.ownedTupleIsFree;refine wB (wpAny_field ed rfl (x:=.none) rfl (wP ?_));simp only[if_true];refine wB (wpAny_rule (wB (wpAny_field ed rfl (x:=old) rfl (wB (wpAny_setField_rec ed (by simp) λhf ef hsf=>?_)))))
 replace hsf:Heap.SameBut e hd hf:=hsf
 replace ef:IsEnum hf e it ((i:Int)+1) x:=ef
 show wpAny _ _ (Builtin.SmallTypes.ownedTupleHandOut (.ref e) (.ref hp.objs.size) >>= _) _ _ ⟨hf,g,d,tk+1,os⟩;refine wB ?_;unfold Builtin.SmallTypes.ownedTupleHandOut;refine wB (wpAny_setField_rec ef (by simp) λhg' eg hsg=>?_)
 replace hsg:Heap.SameBut e hf hg':=hsg
 replace eg:IsEnumOut hg' e it ((i:Int)+1) x hp.objs.size:=eg
 refine wpAny_setField_rec eg (by simp) λhh' eh hsh=>?_
 replace hsh:Heap.SameBut e hg' hh':=hsh
 replace eh:IsEnumOut hh' e it ((i:Int)+1) x hp.objs.size:=eh
 have up: ∀b o,b≠e->hd.get? b=some o->hh'.get? b=some o:=λb o n q=>hsh.extBut b o n (hsg.extBut b o n (hsf.extBut b o n q));exact wB (wpAny_letGo (wP ⟨_,rfl,hQ hh' eh (sd.move λo q=>up _ o (Ne.symm hne) q) (up _ _ (Nat.ne_of_gt hel) td) λb o n1 n2 q=>up b o n1 (kd b o n1 n2 q)⟩))
def QP(k:Bool)(l:Addr)(its:Xk):
  Meets (Builtin.«enumerate.__new__» ⟨[.type "enumerate",.ref l],[]⟩) (λ_ R s=>IsSeq k s.heap l its/\
   R (.ok (.ret (.ref (s.heap.objs.size+1)))) {s with heap:=(s.heap.push (oF k l)).push {cls:=.type "enumerate",data:=.fields #[.none,.bool false,.ref s.heap.objs.size,rawInt 0,.none,.none]}}):=
 .of_wp λprog w A R s h=>by
  obtain⟨hp,g,d,tk,os⟩:=s;obtain⟨hl,h⟩:=h;have hsub:=sub_enumerate;have hL:IsSeq k (Shared.heap ⟨hp,g,d,tk,os⟩) l its:=hl;have z1: ∀(h:Heap)(o:Obj),(h.push o).objs.size=h.objs.size+1:=λh o=>Heap.size_push ..
  wp_walk
  refine wpAny_stack_any λst=>wP ?_;split
  .rename_i c _ _ _ _ _;cases (c==Value.type "enumerate")
   .wp_walk using pY hL
    exact⟨_,rfl,by simp only[z1];exact h⟩
   .wp_walk using pY hL
    exact⟨_,rfl,by simp only[z1];exact h⟩
  .wp_walk using pY hL
   exact⟨_,rfl,by simp only[z1];exact h⟩
end
def HB(K:Yj)(F:List MV->Sto->R Er):Sp:=λvs H Q _=> ∃ds,DenL K [] H ds vs/\ds.length=1/\ ∀g:Gm,g.K=K->Post g W0 [] H (F ds []) Q
def ZS{g:Gm}{F:List MV->Sto->R Er}: ∀vs H Q E,HB g.K F vs H Q E->QF g 1 F vs H Q E:=λvs H Q E ⟨ds,l,hl,q⟩=>⟨[],[],ds,⟨rfl,by simp,λl a o h=>by simp at h⟩,l,hl,q g rfl⟩
def Pr{K:Yj}{H:Hp}{a:Addr}{xs:List V}(hO:YH H)(h:SqL K H a xs):SqF K H a xs:=by
 rcases h with(h|⟨o,h⟩)|h
 .rcases hO a with z|⟨o,ys,z⟩
  .rw[z]at h;cases h
  .rw[z]at h;cases h
 .exact .inl ⟨o,h⟩
 .exact .inr h
def ZT{K:Yj}{F:List MV->Sto->R Er}{H:Hp}{a:Addr}{ns:Xi}(hO:YH H)(hS:SqL K H a (ns.map V.int))(h: ∃S,F [.scr (ns.map MV.int)] []=.ok (.val (.bl true)) S):HB K F [.ref a] H (λv _=>v=.bl true) λ_ _ _=>False:=by obtain⟨S,h⟩:=h;refine⟨_,zM (SC (Pr hO hS) (GU ns)) zW,rfl,λg _=>?_⟩;rw[h];exact λv α' H' x w d=>DI d.1
theorem jS{β γ:Type}(b:β)(S:Sto)(k:β->Sto->R γ):(R.ok b S).bind k=k b S:=by have h:=R.bind_ok b S k;exact Eq.trans h rfl
theorem Gv(d:MV)(S:Sto):Fe (some (some d)) S=.ok (.val d) S:=rfl
def pZ{S T:Sto}:MU S (S++T):=⟨by rw[lA];omega,λl hl=>.inl (getElem?_append_left hl)⟩
def vI(n:Nat)(i:Int):lo n (.int i):=by unfold lo;trivial
def QQ(n:Nat)(i:Db):lo n (.str i):=by unfold lo;trivial
def ZU(n:Nat)(i:Bool):lo n (.bl i):=by unfold lo;trivial
def ZV(n:Nat):lo n .non:=by unfold lo;trivial
def QR{n:Nat}{ds:Za}(h:qU n ds):lo n (.tup ds):=by unfold lo;exact h
theorem cS{n:Nat}: ∀{ds:Za},(∀d∈ds,lo n d)->qU n ds
 |[],_=>by unfold qU;trivial
 |d::ds,h=>by unfold qU;exact⟨h d mF0,cS λe he=>h e (mO _ he)⟩
def ZW{S T:Sto}{d:MV}(h:lo S.length d)(hn: ∀l,d≠.loc l):jQ S (.val d) (S++T)=.ok (.val d) S:=by
 unfold jQ;rw[iP pZ];have e:(S++T).take S.length=S:=by simp
 cases d with
 |loc l=>exact absurd rfl (hn l)
 |_=>dsimp only;rw[iP h,e]
def ZX{S T:Sto}{ds:Za}(h:qU S.length ds):jQ S (.new ds) (S++T)=.ok (.new ds) S:=by
 unfold jQ;rw[iP pZ];have e:(S++T).take S.length=S:=by simp
 dsimp only;rw[iP h,e]
def ZY{S T:Sto}{l:Nat}{ds:Za}(hl:S.length<=l)(hS:(S++T)[l]? =some (.lst ds))(h:qU S.length ds):jQ S (.val (.loc l)) (S++T)=.ok (.new ds) S:=by
 unfold jQ;rw[iP pZ];have e:(S++T).take S.length=S:=by simp
 dsimp only;rw[iN #[0],hS];dsimp only;rw[iP h,e]
def DU{n:Nat}{F:List MV->Sto->R Er}{rs:List Er}{S T:Sto}{d:MV}(hn:rs.length=n)(hF:F (zD rs S).1 (zD rs S).2=.ok (.val d) (S++T))(h:lo S.length d)(hd: ∀l,d≠.loc l):zF n F rs S=.ok (.val d) S:=by unfold zF;rw[iP hn,hF];exact ZW h hd
def tS{n:Nat}{F:List MV->Sto->R Er}{rs:List Er}{S T:Sto}{ds:Za}(hn:rs.length=n)(hF:F (zD rs S).1 (zD rs S).2=.ok (.new ds) (S++T))(h:qU S.length ds):zF n F rs S=.ok (.new ds) S:=by unfold zF;rw[iP hn,hF];exact ZX h
def DV{n:Nat}{F:List MV->Sto->R Er}{rs:List Er}{S T:Sto}{l:Nat}{ds:Za}(hn:rs.length=n)(hF:F (zD rs S).1 (zD rs S).2=.ok (.val (.loc l)) (S++T))(hl:S.length<=l)(hS:(S++T)[l]? =some (.lst ds))(h:qU S.length ds):zF n F rs S=.ok (.new ds) S:=by unfold zF;rw[iP hn,hF];exact ZY hl hS h
def eW{n:Nat}{F:List MV->Sto->R Er}{rs:List Er}{S:Sto}{d:MV}(hn:rs.length=n)(hF:F (zD rs S).1 (zD rs S).2=.ok (.val d) S)(h:lo S.length d)(hd: ∀l,d≠.loc l):zF n F rs S=.ok (.val d) S:=DU (T:=[]) hn (by rw[aN];exact hF) h hd
section
variable{S:Sto}
theorem Uz(b:Bool)(S:Sto):fF (.val (.bl b)) S=.ok b S:=rfl
theorem as_int(i:Int)(S:Sto):Ob (.val (.int i)) S=.ok (some i) S:=rfl
theorem Ps(b:Bool)(S:Sto):rG (.val (.bl b)) S=.ok b S:=rfl
theorem add_int(i j:Int)(S:Sto):jR (.val (.int i)) (.val (.int j)) S=.ok (.val (.int (i+j))) S:=rfl
theorem sub_int(i j:Int)(S:Sto):ZC (.val (.int i)) (.val (.int j)) S=.ok (.val (.int (i - j))) S:=rfl
def add_str{x y:Db}(h:x.length+y.length<=sizeLine):jR (.val (.str x)) (.val (.str y)) S=.ok (.val (.str (x++y))) S:=iP h
def JF{p q:Er}{x y:Za}(h1:Gd S p=some x)(h2:Gd S q=some y)(h:x.length+y.length<=sizeLine):jR p q S=.ok (.new (x++y)) S:=by
 have e:SK p q S=.ok (.new (x++y)) S:=by unfold SK;rw[h1,h2];exact iP h
 unfold jR;split
 .cases h1
 .cases h1
 .cases h1
 .exact e
theorem Pt{g:Int->Int->Bool}(i j:Int)(S:Sto):Xd g (.val (.int i)) (.val (.int j)) S=.ok (.val (.bl (g i j))) S:=rfl
def Gw(i j:Int):Em (.int i) (.int j)=decide (i=j):=by
 show(i==j)=_;by_cases h:i=j
 .subst h;simp
 .rw[dF0 h];simpa using h
def Gx(x y:Db):Em (.str (bL x)) (.str (bL y))=decide (x=y):=by
 show(bL x==bL y)=_;by_cases h:x=y
 .subst h;simp
 .rw[dF0 h];have:bL x≠bL y:=λz=>h (tH z);simpa using this
theorem BW(n:Nat)(i j:Int):eqv S (n+1) (.int i) (.int j)=some (decide (i=j)):=by rw[<-Gw];rfl
theorem JG(n:Nat)(x y:Db):eqv S (n+1) (.str x) (.str y)=some (decide (x=y)):=by rw[<-Gx];rfl
theorem Pu(n:Nat)(x:Int)(y:Db):eqv S (n+1) (.int x) (.str y)=some false:=rfl
theorem Pw(n:Nat)(x:Db)(y:Int):eqv S (n+1) (.str x) (.int y)=some false:=rfl
theorem Gy(d f:MV):LX (.val d) (.val f) S=match eqv S (zG+1) d f with |some k=>.ok (.val (.bl k)) S|none=>.no:=rfl
theorem Gz(d f:MV):QK (.val d) (.val f) S=match eqv S (zG+1) d f with |some k=>.ok (.val (.bl !k)) S|none=>.no:=rfl
def ZZ{d f:MV}{k:Bool}(h:eqv S (zG+1) d f=some k):LX (.val d) (.val f) S=.ok (.val (.bl k)) S:=by rw[Gy,h]
def QS{d f:MV}{k:Bool}(h:eqv S (zG+1) d f=some k):QK (.val d) (.val f) S=.ok (.val (.bl !k)) S:=by rw[Gz,h]
def eq_int(i j:Int)(S:Sto):LX (.val (.int i)) (.val (.int j)) S=.ok (.val (.bl (decide (i=j)))) S:=ZZ (BW _ i j)
def eq_str(x y:Db)(S:Sto):LX (.val (.str x)) (.val (.str y)) S=.ok (.val (.bl (decide (x=y)))) S:=ZZ (JG _ x y)
theorem lt_int(i j:Int)(S:Sto):Pf (.val (.int i)) (.val (.int j)) S=.ok (.val (.bl (decide (i<j)))) S:=rfl
theorem lt_str(i j:Db)(S:Sto):Pf (.val (.str i)) (.val (.str j)) S=.ok (.val (.bl (decide (i<j)))) S:=rfl
def SR{b:Int}(h:0<b)(h2:b<1073741824)(a:Int)(S:Sto):VT (.val (.int a)) (.val (.int b)) S=.ok (.val (.int (a / b))) S:=by
 refine iP ⟨h,?_⟩;have h3:b.natAbs<2 ^ 30:=by omega
 have:=(Nat.log2_lt (by omega:b.natAbs≠0)).mpr h3;omega
def mod_lit{b:Int}(h:0<b)(a:Int)(S:Sto):MX (.val (.int a)) (.val (.int b)) S=.ok (.val (.int (a % b))) S:=iP h
def CA{b:Int}(h: -(2 ^ 64)<b/\b<2 ^ 64)(a:Int)(S:Sto):vG (.val (.int a)) (.val (.int b)) S=.ok (.val (.int (a * b))) S:=iP (Or.inr (Or.inl h))
def ND{a:Int}(h: -(2 ^ 64)<a/\a<2 ^ 64)(b:Int)(S:Sto):vG (.val (.int a)) (.val (.int b)) S=.ok (.val (.int (a * b))) S:=iP (Or.inl h)
theorem Ha(ρ:Rho)(i:Nat)(d:MV)(S:Sto):FQ ρ i (.val d) S=.ok (.next (ρ.set i (some d))) S:=rfl
theorem Hb(ρ:Rho)(i:Nat)(ds:Za)(S:Sto):FQ ρ i (.new ds) S=.ok (.next (ρ.set i (some (.loc S.length)))) (S++[.lst ds]):=rfl
theorem Hc(S:Sto):zD [] S=([],S):=rfl
theorem Hd(d:MV)(rs:List Er)(S:Sto):zD (.val d::rs) S=(d::(zD rs S).1,(zD rs S).2):=rfl
theorem zC{F G:AY}{ρ ρ':Rho}{S S':Sto}(h:F ρ S=.ok (.next ρ') S'):zI F G ρ S=G ρ' S':=by unfold zI;rw[h];rfl
theorem oG{F G:AY}{ρ:Rho}{S S':Sto}{r:Er}(h:F ρ S=.ok (.ret r) S'):zI F G ρ S=.ok (.ret r) S':=by unfold zI;rw[h];rfl
def bO(S:Sto):stay [] S:=bN
def zX{gf:MV->Rho->Sto->R Rho}{b:AY}{gs:Zd}{d:MV}{ds:Za}{ρ ρ0 ρ':Rho}{S0 S':Sto}(hg:gf d ρ S=.ok ρ0 S0)(h:b ρ0 S0=.ok (.next ρ') S')(hs:stay gs S'):xG gf b gs (d::ds) ρ S=xG gf b gs ds ρ' S':=by
 conv=>lhs;unfold xG
 rw[hg,jS,h,jS];dsimp only;rw[iP hs]
def SS{gf:MV->Rho->Sto->R Rho}{b:AY}{gs:Zd}{d:MV}{ds:Za}{ρ ρ0:Rho}{S0 S':Sto}{r:Er}(hg:gf d ρ S=.ok ρ0 S0)(h:b ρ0 S0=.ok (.ret r) S'):xG gf b gs (d::ds) ρ S=.ok (.ret r) S':=by
 conv=>lhs;unfold xG
 rw[hg,jS,h,jS]
def JH{α:Type}{xs:List α}{i:Int}(h0:0<=i)(h1:i<xs.length): ∃c,tD xs i=some c:=by refine⟨xs[i.toNat]'#[0],?_⟩;unfold tD IO;rw[iP h0,iP h1];exact gE _
def SU{α:Type}{P:α->Prop}{xs:List α}{i:Int}{e:α}(h: ∀e∈xs,P e)(z:tD xs i=some e):P e:=by
 unfold tD at z
 cases q:IO xs.length i with
 |none=>rw[q]at z;cases z
 |some j=>rw[q]at z;exact h e (mem_of_getElem? (show xs[j]? =some e from z))
def ix_str{x:Db}{i:Int}{c:Nat}(h:x.length<=sizeLine)(hk:tD x i=some c):lO (.val (.str x)) (.val (.int i)) S=.ok (.val (.str [c])) S:=by show(if x.length<=sizeLine then match tD x i with |some c=>R.ok (Er.val (.str [c])) S|none=>.no else .no)=_;rw[iP h,hk]
def Px{ds:Za}{i:Int}{d:MV}(hk:tD ds i=some d):lO (.new ds) (.val (.int i)) S=.ok (.val d) S:=by show(match tD ds i with |some d=>R.ok (Er.val d) S|none=>.no)=_;rw[hk]
def DW{l:Nat}{ds:Za}{i:Int}{d:MV}(hS:S[l]? =some (.lst ds))(hk:tD ds i=some d):lO (.val (.loc l)) (.val (.int i)) S=.ok (.val d) S:=by
 have e:kH S (.val (.loc l))=some ds:=by unfold kH;dsimp only;rw[hS]
 show(match kH S (.val (.loc l))with |some ds=>getL ds (.val (.int i)) S|none=>.no)=_;rw[e];show(match tD ds i with |some d=>R.ok (Er.val d) S|none=>.no)=_;rw[hk]
def xY{l:Nat}{ds:Za}(hS:S[l]? =some (.lst ds)):pO [.val (.loc l)] S=.ok (.val (.int ds.length)) S:=by
 have e:kH S (.val (.loc l))=some ds:=by unfold kH;dsimp only;rw[hS]
 have e2:itemsOf S (.val (.loc l))=some ds:=by unfold itemsOf;exact e
 show(match itemsOf S (.val (.loc l))with |some ds=>R.ok (Er.val (.int ds.length)) S|none=>.no)=_;rw[e2]
def nF{l:Nat}{ds:Za}(hS:S[l]? =some (.lst ds)):kH S (.val (.loc l))=some ds:=by unfold kH;dsimp only;rw[hS]
def JK{l:Nat}{ds:Za}(hS:S[l]? =some (.lst ds)):Gd S (.val (.loc l))=some ds:=by unfold Gd;dsimp only;rw[hS]
def xZ{l:Nat}{ds:Za}(hS:S[l]? =some (.lst ds)):AI (.val (.loc l)) S=.ok ⟨ds,[(l,ds)]⟩ S:=by unfold AI;dsimp only;rw[hS]
def yT{l:Nat}{ds:Za}(hS:S[l]? =some (.lst ds)):stay [(l,ds)] S:=λp hp=>by
 have:p=(l,ds):=by simpa using hp
 subst this;exact hS
def vK{j:Int}(h: -(2 ^ 62)<=j/\j<2 ^ 62):iO [.val (.int j)] S=.ok ⟨(List.range j.toNat).map λk=>.int (k:Nat),[]⟩ S:=iP h
def cut_str{x:Db}(h:x.length<=sizeLine)(lo hi:Yh):BM (.val (.str x)) lo hi S=.ok (.val (.str (aQ x lo hi))) S:=iP h
def He{α:Type}(x:List α)(k:Int)(h0:0<=k):aQ x none (some k)=x.take k.toNat:=by
 unfold aQ;have h1:HT.sIx x.length 0 none=0:=rfl;rw[h1];have h2:HT.sIx x.length x.length (some k)=min k.toNat x.length:=by unfold HT.sIx;simp only;split<;>omega
 rw[h2,drop_zero,Nat.sub_zero];by_cases hk:k.toNat<=x.length
 .rw[min_eq_left hk]
 .rw[min_eq_right #[0],take_length,take_of_length_le #[0]]
def fits{n:Nat}(h:n<=1000000):n<=sizeLine:=by rw[sizeLine_eq];exact Nat.le_trans h (by decide)
def vL{rs:List Er}(h:rs.length<=1000000):jW rs S=.ok (.new (zD rs S).1) (zD rs S).2:=iP (fits h)
def JL{rs:List Er}(h:rs.length<=1000000):nU rs S=.ok (.val (.tup (zD rs S).1)) (zD rs S).2:=iP (fits h)
def lst0(S:Sto):jW [] S=.ok (.new []) S:=vL (by simp)
def lst1(a:MV)(S:Sto):jW [.val a] S=.ok (.new [a]) S:=vL (by simp)
def lst2(a b:MV)(S:Sto):jW [.val a,.val b] S=.ok (.new [a,b]) S:=vL (by simp)
def lst3(a b c:MV)(S:Sto):jW [.val a,.val b,.val c] S=.ok (.new [a,b,c]) S:=vL (by simp)
def lst6(a b c d e f:MV)(S:Sto):jW [.val a,.val b,.val c,.val d,.val e,.val f] S=.ok (.new [a,b,c,d,e,f]) S:=vL (by simp)
def tup2(a b:MV)(S:Sto):nU [.val a,.val b] S=.ok (.val (.tup [a,b])) S:=JL (by simp)
def tup3(a b c:MV)(S:Sto):nU [.val a,.val b,.val c] S=.ok (.val (.tup [a,b,c])) S:=JL (by simp)
theorem Py(i:Int)(S:Sto):rH [.val (.int i),.val (.typ "str")] S=.ok (.val (.bl false)) S:=rfl
theorem Pz(i:Db)(S:Sto):rH [.val (.str i),.val (.typ "str")] S=.ok (.val (.bl true)) S:=rfl
theorem Qa(i:Int)(S:Sto):rH [.val (.int i),.val (.typ "tuple")] S=.ok (.val (.bl false)) S:=rfl
theorem Qb(i:Db)(S:Sto):rH [.val (.str i),.val (.typ "tuple")] S=.ok (.val (.bl false)) S:=rfl
theorem Qc(i:Za)(S:Sto):rH [.val (.tup i),.val (.typ "tuple")] S=.ok (.val (.bl true)) S:=rfl
theorem Qd(i:Bool)(S:Sto):rH [.val (.bl i),.val (.typ "bool")] S=.ok (.val (.bl true)) S:=rfl
theorem DX{gf:MV->Rho->Sto->R Rho}{cf:AZ}{ef:AX}{ρb:Rho}{gs:Zd}{F:MV->MV}(hs:stay gs S):
  ∀{ds:Za},(∀d∈ds, ∃ρ1,gf d ρb S=.ok ρ1 S/\cf ρ1 S=.ok true S/\ef ρ1 S=.ok (.val (F d)) S)->yF gf cf ef ρb gs ds S=.ok (ds.map F) S
 |[],_=>rfl
 |d::ds,st=>by obtain⟨ρ1,h1,h2,h3⟩:=st d mF0;have e:=DX hs (ds:=ds) λd hd=>st d (mO _ hd);unfold yF;rw[h1,yQ,jS,h2,yQ,jS,iP rfl,h3,yQ,jS];unfold wV;rw[jS,iP hs,e];rfl
def Nm(x:Db):Prop:=1<=x.length/\x.length<=8/\ ∀c∈x,97<=c/\c<=122
def Vl:MV->Prop
 |.int i=> -(10 ^ 30)<i/\i<10 ^ 30
 |.str x=>Nm x
 |_=>False
def Vl.cases{d:MV}(h:Vl d):(∃i,d=.int i/\ -(10 ^ 30)<i/\i<10 ^ 30)\/ ∃x,d=.str x/\Nm x:=by
 cases d with
 |int i=>exact .inl ⟨i,rfl,h⟩
 |str x=>exact .inr ⟨x,rfl,h⟩
 |_=>exact h.elim
end
def Ite(K:Yj)(k:Bool)(l:Addr):It:=
 ⟨λi H=> ∃xs x,FH k K H l xs/\xs[i]? =some x,
   λi H v H'=> ∃p x,H p=none/\v=.ref p/\H'=xH H p (.tup [.int (i:Nat),x])/\(∀xs,FH k K H l xs->xs[i]? =some x),
   λi H=> ∃xs,FH k K H l xs/\xs.length<=i⟩
section
variable{prog:Program}{w:World}{A:Around}{E:VP}{s:Shared}{k:Bool}{l:Addr}{its:Xk}
def WA(hl:IsSeq k s.heap l its){Q:VP}
  (h: ∀h',EnSt k (s.heap.objs.size+1) s.heap.objs.size l 0 h'->(∀c o,s.heap.get? c=some o->h'.get? c=some o)->Q (.ref (s.heap.objs.size+1)) {s with heap:=h'}):
  wpAny (model prog w) A (call (.type "enumerate") [.ref l]) Q E s:=by
 refine callType_new F.called_enumerate (by decide) (F.typeCall_enumerate_1 _) (F.newCall_enumerate_1 _) (λobj=>F.args_object_init_2 obj _) F.entry_enumerate_new (QP k l its) ⟨hl,?_⟩;have hz:(s.heap.push (oF k l)).objs.size=s.heap.objs.size+1:=Heap.size_push ..;show _/\_;have he:IsEnum ((s.heap.push (oF k l)).push {cls:=.type "enumerate",data:=.fields #[.none,.bool false,.ref s.heap.objs.size,rawInt 0,.none,.none]}) (s.heap.objs.size+1) s.heap.objs.size 0 .none:=by have:=Heap.get?_push_size (s.heap.push (oF k l)) (o:={cls:=.type "enumerate",data:=.fields #[.none,.bool false,.ref s.heap.objs.size,rawInt 0,.none,.none]}) rfl;rw[hz]at this;exact this
 refine⟨⟨_,he,rfl⟩,h _ ⟨⟨.none,he⟩,IsSub.mk' (hP0 _ (Heap.get?_push_size _ rfl))⟩ λb o x=>hP0 _ (hP0 _ x)⟩
end
def WB{P:Program}{w:World}{K:Yj}{elts:Yi}{kt:Nat}{pt:Pos}{k:Bool}{e it l:Addr}(hne:e≠it):
  Turn P w K (.Tuple elts kt pt) (Ite K k l) [e,it] e (λi h=>EnSt k e it l i h) where
 mem:=by simp
 obj:=λi h st b hb=>by
  obtain⟨⟨old,he⟩,hs⟩:=st;have hb':b=e\/b=it:=by simpa using hb
  rcases hb' with rfl|rfl
  .exact⟨_,he,λv q=>by cases q⟩
  .exact hs.there
 keep:=λi h h' st kk=>by obtain⟨⟨old,he⟩,hs⟩:=st;exact⟨⟨old,kk e (by simp) _ he⟩,hs.move λo q=>kk it (by simp) o q⟩
 item:=by
  intro X hP hw hK hc i pins s σ H E I hf st hg;subst hP hw hK;obtain⟨xs,x,q1,hx⟩:=hg;obtain⟨its,r1,p1,_⟩:=I.seqK q1;obtain⟨u,hu,ru⟩:=r1.get hx;obtain⟨⟨old,he⟩,hs⟩:=st;have hT:s.TypeIs (.ref e) "enumerate":=⟨_,he,rfl⟩
  unfold pyNext
  refine wB (wpAny_attempt (wpAny_callSpecial?_slot (name:=Str.ofString "__next__") hT F.slot_enumerate_next (wpAny_call_entry F.slot_enumerate_next hT F.entry_enumerate_next
   (Gu he hs p1 (x:=u) (by simpa using hu) hne λh' a1 a2 a3 a4=>wP ⟨_,rfl,?_⟩) (F.args_enumerate_next_1 _))))
  refine wpAny_letOwnedTupleGo_enum a1 λh2 z2 sb2=>?_;have hpn:H s.heap.objs.size=none:=I.hok.fresh q9
  have I0:Inv X pins σ (xH H s.heap.objs.size (.tup [.int (i:Nat),x])) {s with heap:=s.heap.push {cls:=.type "tuple",data:=.seq #[.int i s.toks,u]},toks:=s.toks+1}:=
   I.laid (t':=s.toks+1) (o:=.tup [.int (i:Nat),x]) (λb o e=>hP0 _ e) q9 ⟨by show 2<=sizeLine;decide,[.int i s.toks,u],.cons ⟨_,rfl⟩ (.cons ru .nil),⟨_,Heap.get?_push_size _ rfl,rfl,_,rfl⟩⟩
  have lt: ∀b∈[e,it],b<s.heap.objs.size:=λb hb=>by
   have hb':b=e\/b=it:=by simpa using hb
   rcases hb' with rfl|rfl
   .exact Heap.lt_size he
   .obtain⟨o,eo,_⟩:=hs.there;exact Heap.lt_size eo
  have fr: ∀b∈[e,it],xH H s.heap.objs.size (.tup [.int (i:Nat),x]) b=none:=λb hb=>by rw[zH (Nat.ne_of_lt (lt b hb))];exact(hf b hb).1
  have mv: ∀b o,b∉[e,it]->(s.heap.push {cls:=.type "tuple",data:=.seq #[.int i s.toks,u]}).get? b=some o->h2.get? b=some o:=λb o hb eo=>by
   simp only[mC,nM,or_false,not_or]at hb;refine sb2.extBut _ _ hb.1 ?_;by_cases hbs:b=s.heap.objs.size
   .subst hbs;rw[Heap.get?_push_size _ rfl]at eo;cases eo;exact a3
   .rw[Heap.get?_push_ne _ _ _ hbs]at eo;exact a4 b o hb.1 hb.2 eo
  have I2:=I0.turnedL (h':=h2) (t':=s.toks+1) mv λb hb=>let ⟨_,c2,c3,c4,c5,c6⟩:=hf b hb;⟨fr b hb,c2,c3,c4,c5,c6⟩;refine⟨.ref s.heap.objs.size,_,I2,rfl,⟨s.heap.objs.size,x,hpn,rfl,rfl,λzs hz=>?_⟩,⟨⟨u,?_⟩,?_⟩,fr⟩
  .rw[I.seqK_inj hz q1];exact hx
  .simpa using z2
  .exact a2.move λo eo=>sb2.extBut _ _ (Ne.symm hne) eo
 done:=by
  intro X hP hw hK hc i pins s σ H E I hf st hg;subst hP hw hK;obtain⟨xs,q1,hx⟩:=hg;obtain⟨its,r1,p1,_⟩:=I.seqK q1;obtain⟨⟨old,he⟩,hs⟩:=st;have hT:s.TypeIs (.ref e) "enumerate":=⟨_,he,rfl⟩
  have e1:=r1.length;unfold pyNext;refine wB (wpAny_attempt (wpAny_callSpecial?_slot (name:=Str.ofString "__next__") hT F.slot_enumerate_next (wpAny_call_entry F.slot_enumerate_next hT F.entry_enumerate_next ?_ (F.args_enumerate_next_1 _))));show wpAny _ _ (field (.ref e) 2 >>= _) _ _ _;refine wB (wpAny_field he rfl (x:=.ref it) rfl ?_);refine wB (tR (I.ok.hd hc) hs p1 (by simp;omega) λh' x hk hx'=>?_);obtain⟨o,ho,hcl⟩:=hx';refine wB (wpAny_isInstance (T:="StopIteration") (b:=true) ⟨o,ho,hcl⟩ isSubtype_stop (wP ⟨rfl,?_⟩));refine I.turnedL (h':=h') (t':=s.toks) (λb o hb eo=>?_) hf;simp only[mC,nM,or_false,not_or]at hb;exact hk b o hb.2 eo
 self:=λ_ _ _ _ _ st h=>let ⟨⟨_,he⟩,_⟩:=st;wpAny_pyIter_enum he h
def Va(K:Yj)(ta:TA):TI:=λσ H R=>ta σ H λvs H1=> ∃k l,vs=[.ref l]/\(∃xs,FH k K H1 l xs)/\R (Ite K k l) H1
section
variable{X:Cx}{W:XW}{a:Expr}{elts:Yi}{kt:Nat}{pt p pos:Pos}{ta:TA}{af:Rho->Sto->R (List Er)}
def Hf(hg:Gl X "enumerate")(hm:X.mg "enumerate"=none)(ha:PA X [a] ta)(hs:starEach [a] X.env=[(false,eval a X.env)]:=by rfl):
  PI X (.Tuple elts kt pt) (.Call (.Name "enumerate" p) [a] [] pos) (Va X.K ta):=by
 intro pins s σ H R I h;refine Call_ (oA I hg hm Gr (PyProof.Rows.callWith_type1 (kG (ha pos pins s σ H _ I h) λus s1 ⟨vs,H1,I1,r1,q1⟩=>?_) (by rw[hs];rfl) (by rfl)));obtain⟨k,l,rfl,⟨xs,c1⟩,q⟩:=q1
 cases r1 with
 |cons r rr=>
  cases rr;cases r;obtain⟨its,v1,p1,_⟩:=I1.seqK c1;refine WA p1 λh' st hk=>let ⟨⟨_,he⟩,_⟩:=id st;wpAny_pyIter_enum he ?_;have I2:Inv X pins σ H1 {s1 with heap:=h'}:=I1.kept (t':=s1.toks) hk;refine⟨_,_,_,_,H1,rfl,I2,WB (Nat.ne_of_gt (Nat.lt_succ_self _)),st,λb hb=>?_,q⟩
  have hle:s1.heap.objs.size<=b:=by
   have hb':b=s1.heap.objs.size+1\/b=s1.heap.objs.size:=by simpa using hb
   rcases hb' with h|h<;>rw[h]<;>(first |exact Nat.le_refl _|exact Nat.le_add_right _ _)
  exact I1.fpOk hle (I1.hok.fresh hle)
def QT(xs:Za):List MV:=xs.zipIdx.map λp=>.tup [.int (p.2:Nat),p.1]
def Vb(rs:List Er)(S:Sto):R Wk:=match rs with
 |[p]=>match srcOf S p with
  |some a=>.ok ⟨QT a.ds,a.gs⟩ S
  |none=>.no
 |_=>.no
def Hg(hg:Gl X "enumerate")(hm:X.mg "enumerate"=none)(ha:DM X W [a] af)(hs:starEach [a] X.env=[(false,eval a X.env)]:=by rfl):
  GV X W (.Tuple elts kt pt) (.Call (.Name "enumerate" p) [a] [] pos) (λρ S=>(af ρ S).bind Vb):=by
 obtain⟨t,ha,k⟩:=ha;refine⟨_,Hf hg hm ha hs,λα ρ S σ H Rc wd sl q=>k α ρ S σ H _ wd sl (q.bind λvs rs S1 α1 H1 e x1 w1 d1 q1=>?_)⟩
 replace q1:=q1.shift x1
 unfold Vb at q1;split at q1
 .rename_i r1;split at q1
  .rename_i s1 e1;obtain⟨u,rfl,du⟩:=MS d1;obtain⟨l1,P1,rfl,p1,D1⟩:=vH w1 e1 du;have g1:=D1.get _ _ _ p1;have hlen:(QT s1.ds).length=s1.ds.length:=by unfold QT;rw[lM,List.length_zipIdx]
   refine⟨s1.k,l1,rfl,⟨_,g1.choose_spec.1⟩,q1.here (u:=Ite X.K s1.k l1) w1 ⟨λα S H=>P1 α S H,?_,p1,?_,?_⟩⟩
   .intro i α2 S2 H2 b1 w2;obtain⟨us,c1,c2⟩:=D1.get _ _ _ b1;have hl:=c2.length;refine⟨λhi=>?_,λhi=>?_⟩
    .have hi:i<(QT s1.ds).length:=hi;have h1:i<us.length:=by omega
     refine⟨⟨us,us[i],c1,gE h1⟩,?_⟩;rintro x H' ⟨pp,xx,hp,rfl,rfl,hx⟩;obtain⟨d,hd,dd⟩:=c2.get (hx us c1);have xn:=w2.newx (o:=.tup [.int (i:Nat),xx]) hp;have wn:=w2.new (o:=.tup [.int (i:Nat),xx]) hp;refine⟨xn,wn,D1.stays _ _ _ _ _ _ b1 xn wn (D1.st _ _ _ b1),.tup [.int (i:Nat),d],?_,?_⟩
     .unfold QT;rw[getElem?_map,List.getElem?_zipIdx,hd];simp
     .exact aR (.of zS) (zM (wX _) (zM (dd.ext xn) zW))
    .have hi:(QT s1.ds).length<=i:=hi;exact⟨us,c1,by omega⟩
   .intro α1 S1 H1 α2 S2 H2 b1 x w hs;exact D1.stays _ _ _ _ _ _ b1 x w hs
   .exact D1.st _ _ _ p1
  .exact q1.elim
 .exact q1.elim
end
instance:DecidableEq MV:=λ_ _=>Classical.propDecidable _
def look(kvs:Ze)(k:MV):Option MV:=(kvs.find? λp=>decide (p.1=k)).map (·.2)
def putK(kvs:Ze)(k d:MV):List (MV×MV):=if(look kvs k).isSome=true then kvs.map (λp=>if p.1=k then(p.1,d)else p)else kvs++[(k,d)]
def sQ:MV->Bool
 |.tup _=>true
 |_=>false
theorem NF:xC .non=some (.key none):=by unfold xC;rfl
theorem fI(i:Int):xC (.int i)=some (.key (some (.inl i))):=by unfold xC;rfl
theorem fM(x:Db):xC (.str x)=some (.key (some (.inr (bL x)))):=by unfold xC;rfl
def fN(ds:Za):xC (.tup ds)=(jP ds).map .tup:=by
 conv=>lhs;unfold xC
theorem qW:jP []=some []:=by unfold jP;rfl
def fO(d:MV)(ds:Za):jP (d::ds)=(xC d).bind λk=>(jP ds).map (k::·):=by
 conv=>lhs;unfold jP
mutual
theorem tU: ∀{d e:MV}{k:NK},xC d=some k->xC e=some k->d=e
 |.int i,e,k,hd,he=>by
  rw[fI]at hd;cases hd
  cases e with
  |int j=>rw[fI]at he;cases he;rfl
  |str x=>rw[fM]at he;cases he
  |tup ds=>rw[fN]at he;cases z:jP ds<;>rw[z]at he<;>cases he
  |_=>unfold xC at he;cases he
 |.str x,e,k,hd,he=>by
  rw[fM]at hd;cases hd
  cases e with
  |int j=>rw[fI]at he;cases he
  |str y=>
   rw[fM]at he;have he:=Option.some.inj he;injection he with he
   injection he with he
   injection he with he
   rw[tH he]
  |tup ds=>rw[fN]at he;cases z:jP ds<;>rw[z]at he<;>cases he
  |_=>unfold xC at he;cases he
 |.tup ds,e,k,hd,he=>by
  rw[fN]at hd
  cases z:jP ds with
  |none=>rw[z]at hd;cases hd
  |some ks=>
   rw[z]at hd;cases hd
   cases e with
   |int j=>rw[fI]at he;cases he
   |str y=>rw[fM]at he;cases he
   |tup es=>
    rw[fN]at he
    cases z2:jP es with
    |none=>rw[z2]at he;cases he
    |some ks'=>rw[z2]at he;cases he;rw[HC z z2]
   |_=>unfold xC at he;cases he
 |.non,e,k,hd,he=>by
  rw[NF]at hd;cases hd
  cases e with
  |non=>rfl
  |int j=>rw[fI]at he;cases he
  |str x=>rw[fM]at he;cases he
  |tup ds=>rw[fN]at he;cases z:jP ds<;>rw[z]at he<;>cases he
  |_=>unfold xC at he;cases he
 |.bl _,e,k,hd,he=>by unfold xC at hd;cases hd
 |.scr _,e,k,hd,he=>by unfold xC at hd;cases hd
 |.loc _,e,k,hd,he=>by unfold xC at hd;cases hd
 |.typ _,e,k,hd,he=>by unfold xC at hd;cases hd
 |.obj _ _ _,e,k,hd,he=>by unfold xC at hd;cases hd
theorem HC: ∀{ds es:Za}{ks:List NK},jP ds=some ks->jP es=some ks->ds=es
 |[],es,ks,hd,he=>by
  rw[qW]at hd;cases hd
  cases es with
  |nil=>rfl
  |cons e es=>
   rw[fO]at he;cases z:xC e<;>rw[z]at he
   .cases he
   .cases z2:jP es<;>rw[z2]at he<;>cases he
 |d::ds,es,ks,hd,he=>by
  rw[fO]at hd
  cases z:xC d with
  |none=>rw[z]at hd;cases hd
  |some k=>
   rw[z]at hd
   cases z2:jP ds with
   |none=>rw[z2]at hd;cases hd
   |some ks2=>
    rw[z2]at hd
    cases es with
    |nil=>rw[qW]at he;cases he;cases hd
    |cons e es=>
     rw[fO]at he
     cases z3:xC e with
     |none=>rw[z3]at he;cases he
     |some k'=>
      rw[z3]at he
      cases z4:jP es with
      |none=>rw[z4]at he;cases he
      |some ks4=>
       rw[z4]at he;cases hd;cases he;rw[tU z z3,HC z2 z4]
end
section
variable{X:Cx}{pins:Ye}{σ:St}{H:Hp}{s:Shared}{α:Ya}
mutual
theorem vM(I:Inv X pins σ H s): ∀{d:MV}{k:NK}{x:V}{u:Value},xC d=some k->Den X.K α H d x->RelV x u->FP (mk X.prog X.w) s.heap k u
 |.int i,k,x,u,hk,hd,r=>by rw[fI]at hk;cases hk;cases xM hd;obtain⟨t,rfl⟩:=r;exact xX.mpr (by show mI (.inl i) (.int i t)=true;simp[mI,Value.isInt])
 |.str y,k,x,u,hk,hd,r=>by rw[fM]at hk;cases hk;cases xN hd;obtain⟨t,rfl⟩:=r;exact xX.mpr (by show mI (.inr (bL y)) (.str (bL y) t)=true;simp[mI,Value.isStrOf])
 |.tup ds,k,x,u,hk,hd,r=>by
  rw[fN]at hk
  cases z:jP ds with
  |none=>rw[z]at hk;cases hk
  |some ks=>
   rw[z]at hk;cases hk;obtain⟨a,vs,rfl,sq,l⟩:=yN hd;cases r;obtain⟨its,rv,pt,_⟩:=I.tuple sq;obtain⟨o,ho,hc,n,hdat⟩:=pt;exact xI.mpr ⟨a,o,its.toArray,n,rfl,ho,hc,hdat,by simpa using SV I z l rv⟩
 |.non,k,x,u,hk,hd,r=>by rw[NF]at hk;cases hk;cases nQ hd;cases r;exact xX.mpr rfl
 |.bl _,k,x,u,hk,hd,r=>by unfold xC at hk;cases hk
 |.scr _,k,x,u,hk,hd,r=>by unfold xC at hk;cases hk
 |.loc _,k,x,u,hk,hd,r=>by unfold xC at hk;cases hk
 |.typ _,k,x,u,hk,hd,r=>by unfold xC at hk;cases hk
 |.obj _ _ _,k,x,u,hk,hd,r=>by unfold xC at hk;cases hk
theorem SV(I:Inv X pins σ H s): ∀{ds:Za}{ks:List NK}{xs:List V}{us:Xj},jP ds=some ks->DenL X.K α H ds xs->Vals xs us->pU (mk X.prog X.w) s.heap ks us
 |[],ks,xs,us,hk,hd,r=>by rw[qW]at hk;cases hk;cases hd.isnil;cases r;exact wN.mpr rfl
 |d::ds,ks,xs,us,hk,hd,r=>by
  rw[fO]at hk;obtain⟨v,vs,rfl,a,l⟩:=hd.uncons
  cases r with
  |cons r1 r2=>
   cases z:xC d with
   |none=>rw[z]at hk;cases hk
   |some k=>
    rw[z]at hk
    cases z2:jP ds with
    |none=>rw[z2]at hk;cases hk
    |some ks2=>
     rw[z2]at hk;cases hk;exact yG.mpr ⟨_,_,rfl,vM I z a r1,SV I z2 l r2⟩
end
def DD(X:Cx)(H:Hp)(d:Addr)(xs:List (NK×Addr×Value)):Prop:=H d=some (DN X.prog X.w d xs)\/(xs=[]/\H d=some (.dK []))
def DD.nf{d:Addr}{xs:List (NK×Addr×Value)}(h:DD X H d xs): ∀ob u,H d≠some (.frz ob u):=h.elim (λz=>Di z) λz=>by first |exact Di z.2|exact z.elim
def Vc{S:Sto}{kvs:Ze}{d:Addr}(ob:ObD X.g α H d (.dic kvs))(hk:kvs.all (λp=>sQ p.1)=true): ∃xs,DD X H d xs/\DenN X.K α H kvs xs:=by
 rcases ob with⟨ks,h,l⟩|⟨xs,h,l⟩
 .cases l with
  |nil=>exact⟨[],.inr ⟨rfl,h⟩,.nil⟩
  |@cons k k' dd v fs gs hkd a l=>
   rw[List.all_cons,aE]at hk
   cases k with
   |tup ds=>exact absurd hkd (by unfold KeyD;exact λz=>z)
   |_=>exact absurd hk.1 xF0
 .exact⟨xs,.inl h,l⟩
theorem JM(I:Inv X pins σ H s): ∀{kvs:Ze}{xs:List (NK×Addr×Value)},DenN X.K α H kvs xs-> ∀x∈xs,(zU X.prog X.w).is s.heap x.1 x.2.1
 |_,_,.nil=>λx hx=>by simp at hx
 |_,_,.cons k e a d r l=>λx hx=>by
  rcases mC.mp hx with rfl|hx
  .exact⟨vM I k a rfl,e⟩
  .exact JM I l x hx
def qX(I:Inv X pins σ H s){kvs:Ze}{xs:List (NK×Addr×Value)}{d:Addr}(h:DD X H d xs)(l:DenN X.K α H kvs xs):s.heap.DictOfH (zU X.prog X.w) d xs/\xs.length<=sizeLine/\(d==sysModules)=false:=by
 rcases h with h|⟨rfl,h⟩
 .obtain⟨⟨hz,hs,o,es,ep,ho,hc,hd,he,hn⟩,_⟩:=(show ObjOk X.prog X.w H s.heap d (DN X.prog X.w d xs)from I.hok d _ h)
  exact⟨⟨o,es,ep,ho,hc,hd,he,JM I l,hn⟩,hz,hs⟩
 .obtain⟨_,hs,vs,kv,o,es,ep,ho,hc,hd,_,hp,_⟩:=(show ObjOk X.prog X.w H s.heap d (.dK [])from I.hok d _ h)
  cases kv;have he:es.toList=[]:=by cases hes:es.toList with |nil=>rfl|cons a b=>rw[hes]at hp;cases hp
  exact⟨⟨o,es,ep,ho,hc,hd,by rw[he];rfl,λx hx=>by simp at hx,nodup_nil⟩,zero_le _,hs⟩
def yY(p:MV×MV)(kvs:Ze)(k:MV):look (p::kvs) k=if p.1=k then some p.2 else look kvs k:=by
 unfold look;rw[find?_cons];by_cases h:p.1=k
 .rw[dT0 h,iP h];rfl
 .rw[dF0 h,iN h]
def sR(x:NK×Addr×Value)(xs:List (NK×Addr×Value))(k:NK):atKey (x::xs) k=if x.1=k then some x.2 else atKey xs k:=by
 unfold atKey;rw[find?_cons];by_cases h:x.1=k
 .rw[dT0 h,iP h];rfl
 .rw[dF0 h,iN h]
theorem CB: ∀{kvs:Ze}{xs:List (NK×Addr×Value)}{k:MV}{nk:NK},DenN X.K α H kvs xs->xC k=some nk->(atKey xs nk).isSome=(look kvs k).isSome
 |_,_,k,nk,.nil,hk=>rfl
 |_,_,k,nk,.cons (k:=k') (nk:=nk') hk' e a d r l,hk=>by
  rw[yY,sR];by_cases h:k'=k
  .subst h;have:nk'=nk:=by rw[hk]at hk';exact(Option.some.inj hk').symm
   rw[iP this,iP rfl];rfl
  .have:nk'≠nk:=λz=>h (tU hk' (by rw[hk,z]));rw[iN this,iN h];exact CB l hk
theorem JN: ∀{kvs:Ze}{xs:List (NK×Addr×Value)}{k d:MV}{nk:NK}{v:V}{u:Value},DenN X.K α H kvs xs->xC k=some nk->Den X.K α H d v->RelV v u->DenN X.K α H (kvs.map λp=>if p.1=k then(p.1,d)else p) (xs.map (putAt nk u))
 |_,_,k,d,nk,v,u,.nil,hk,hd,r=>.nil
 |_,_,k,d,nk,v,u,.cons (k:=k') (nk:=nk') hk' e a dd rr l,hk,hd,r=>by
  rw[List.map_cons,List.map_cons];unfold putAt;by_cases h:k'=k
  .have hn:nk'=nk:=by subst h;rw[hk]at hk';exact(Option.some.inj hk').symm
   rw[iP h,iP hn];exact .cons hk' e a hd r (JN l hk hd r)
  .have hn:nk'≠nk:=λz=>h (tU hk' (by rw[hk,z]));rw[iN h,iN hn];exact .cons hk' e a dd rr (JN l hk hd r)
theorem DenN.append: ∀{kvs kvs':Ze}{xs xs':List (NK×Addr×Value)},DenN X.K α H kvs xs->DenN X.K α H kvs' xs'->DenN X.K α H (kvs++kvs') (xs++xs')
 |_,_,_,_,.nil,h=>h
 |_,_,_,_,.cons hk e a d r l,h=>.cons hk e a d r (DenN.append l h)
def JO{kvs:Ze}{xs:List (NK×Addr×Value)}{k d:MV}{nk:NK}{a:Addr}{v:V}{u:Value}(l:DenN X.K α H kvs xs)(hk:xC k=some nk)(e:fB nk<=4)(ha:Den X.K α H k (.ref a))(hd:Den X.K α H d v)(r:RelV v u):DenN X.K α H (putK kvs k d) (storedH xs nk a u):=by
 unfold putK;have hl:=CB l hk;by_cases h:(look kvs k).isSome=true
 .rw[iP h];rw[h]at hl;obtain⟨p,hp⟩:=Option.isSome_iff_exists.mp hl;rw[storedH_old hp];exact JN l hk hd r
 .rw[iN h]
  have hn:atKey xs nk=none:=by
   cases z:atKey xs nk with
   |none=>rfl
   |some p=>rw[z]at hl;exact absurd hl.symm h
  rw[storedH_new hn];exact l.append (.cons hk e ha hd r .nil)
end
section
variable{X:Cx}{W:XW}{a b o i:Expr}{f g:AX}{pos:Pos}
def JP{pins:Ye}{σ:St}{H:Hp}{s:Shared}(I:Inv X pins σ H s):sysModules<s.heap.objs.size:=lt_trans (by decide) ((I.mod.glob.keeps I.bk).lt)
def Wd.put{gg:Gm}{α:Ya}{S:Sto}{H:Hp}{p:Addr}{ho:HO}{m:MO}(w:Wd gg α S H)(hp:H p=none)(q:ObD gg (α++[p]) (xH H p ho) p m):Ext α H (α++[p]) (xH H p ho)/\Wd gg (α++[p]) (S++[m]) (xH H p ho):=by
 have x:=w.newx (o:=ho) hp;have nw:=w.new (o:=ho) hp;have np:=w.fresh hp;refine⟨⟨⟨⟨[p],rfl⟩,x.tup,x.frz⟩,λb hb=>?_,x.keep,x.has⟩,⟨?_,?_,λl c ob h1 h2=>?_⟩⟩
 .rcases List.mem_append.mp hb with h|h
  .exact .inl h
  .rw[mS.mp h];exact .inr hp
 .rw[lA,lA,w.len];rfl
 .exact nodup_append.mpr ⟨w.nd,by simp,λa ha c hc=>by rw[mS.mp hc];rintro rfl;exact np ha⟩
 .by_cases hl:l<α.length
  .rw[getElem?_append_left hl]at h1;rw[getElem?_append_left (by rw[<-w.len];exact hl)]at h2;exact(nw.obj l c ob h1 h2).move (Ex0.grow α [p] _) rfl
  .have hl':l=α.length:=by have:=(gS.mp h1).1;rw[lA,lS]at this;omega
   subst hl';rw[getElem?_append_right q9,sub_self]at h1;rw[getElem?_append_right (by rw[w.len];exact Nat.le_refl _),w.len,sub_self]at h2;cases h1;cases h2;exact q
def AK(S:Sto):R Er:=.ok (.val (.loc S.length)) (S++[.dic []])
def Aa:zO X W (.Dict [] [] pos) (λ_ S=>AK S):=by
 refine⟨λσ H Q=> ∀p,H p=none->Q (.ref p) (xH H p (.dK [])),λpins s σ H Q I h=>?_,λα ρ S σ H Q wd sl q p hp=>?_⟩
 .exact wpAny_Dict_empty ⟨.ref s.heap.objs.size,_,I.laid (a:=s.heap.objs.size) (o:=.dK []) (t':=s.toks) (λ_ _ q=>hP0 _ q) q9
   ⟨zero_le _,beq_eq_false_iff_ne.mpr (Ne.symm (Nat.ne_of_lt (JP I))),[],.nil,Heap.DictOf.new s.heap⟩,rfl,h _ (I.hok.fresh q9)⟩
 .obtain⟨x,w'⟩:=wd.put (ho:=.dK []) (m:=.dic []) hp (.inl ⟨[],zS,.nil⟩);exact q (.ref p) (α++[p]) _ x w' (DenE.val (oE (by rw[<-wd.len,getElem?_append_right q9,sub_self];rfl)))
def bP(S:Sto):Er->Option (Nat×List (MV×MV))
 |.val (.loc l)=>match S[l]? with
  |some (.dic kvs)=>if kvs.all (λp=>sQ p.1)=true then some (l,kvs)else none
  |_=>none
 |_=>none
def keyOk(k:MV):Bool:=sQ k&&(match xC k with |some nk=>decide (fB nk<=4)|none=>false)
def tV{k:MV}(h:keyOk k=true): ∃nk,xC k=some nk/\fB nk<=4/\sQ k=true:=by
 unfold keyOk at h;rw[aE]at h
 cases z:xC k with
 |none=>rw[z]at h;exact absurd h.2 xF0
 |some nk=>rw[z]at h;exact⟨nk,rfl,of_decide_eq_true h.2,h.1⟩
def sS{α:Ya}{S:Sto}{H:Hp}(wd:Wd X.g α S H){r:Er}{x:V}{l:Nat}{kvs:Ze}(e:bP S r=some (l,kvs))(d:DenX X.K α H r x):
  ∃c xs,x=.ref c/\α[l]? =some c/\S[l]? =some (.dic kvs)/\DD X H c xs/\DenN X.K α H kvs xs:=by
 unfold bP at e;split at e
 .rename_i n;obtain⟨c,rfl,h⟩:=fE d;split at e
  .rename_i ks hS;split at e
   .rename_i hk;obtain⟨rfl,rfl⟩:=Prod.mk.inj (Option.some.inj e);obtain⟨xs,dd,l⟩:=Vc (S:=S) (wd.obj _ c _ h hS) hk;exact⟨c,xs,rfl,h,hS,dd,l⟩
   .cases e
  .cases e
 .cases e
def inDF(neg:Bool)(p q:Er)(S:Sto):R Er:=match p with
 |.val k=>match bP S q with
  |some (_,kvs)=>if keyOk k=true then .ok (.val (.bl (if neg=true then !(look kvs k).isSome else(look kvs k).isSome))) S else .no
  |none=>.no
 |_=>.no
def CC{α:Ya}{H:Hp}{k:MV}{x:V}(h:sQ k=true)(d:Den X.K α H k x): ∃a,x=.ref a:=by
 cases k with
 |tup ds=>obtain⟨a,_,rfl,_⟩:=yN d;exact⟨a,rfl⟩
 |_=>exact absurd h xF0
def Vd(X:Cx):TSet:=λo i v H Q=> ∃(α:Ya)(kvs:Ze)(xs:List (NK×Addr×Value))(a d:Addr)(k:MV)(nk:NK),o=.ref d/\i=.ref a/\DD X H d xs/\DenN X.K α H kvs xs/\xC k=some nk/\fB nk<=4/\Den X.K α H k (.ref a)/\xs.length<sizeLine/\
 ∀u,RelV v u->Q (xH H d (DN X.prog X.w d (storedH xs nk a u)))
def sT{xs:List (NK×Addr×Value)}{k:NK}{a:Addr}{u:Value}:(storedH xs k a u).length<=xs.length+1:=by
 cases h:atKey xs k with
 |none=>rw[storedH_new h,lA];exact Nat.le_refl _
 |some p=>rw[storedH_old h,lM];exact le_succ _
def WC(hu:X.A.units+64<cLine):Dy X (Vd X):=by
 intro pins s σ H o i v ov iv u Q I ro ri rv h;obtain⟨α,kvs,xs,a,d,k,nk,rfl,rfl,dd,l,hk,e,ha,hz,q⟩:=h;cases ro;cases ri;obtain⟨hm,hz',hs⟩:=qX I dd l;refine wpAny_setItem_heap (knd:=zU X.prog X.w) (show X.A.units+1+4<cLine by omega) ⟨vM I hk ha rfl,e⟩ hm (λh' hm' hs'=>⟨_,?_,q u rv⟩) hz';have mu:Ll (H d):=by rcases dd with z|⟨_,z⟩<;>rw[z]<;>exact trivial
 obtain⟨ob,es,ep,ho,hc,hd,he,_,hn⟩:=hm';refine I.write (t':=_) (x:=d) (e:=d) mu (.inl rfl) (λb uo hb eo=>(hs'.2 b hb).trans eo) ⟨ob,ho⟩ ?_;refine⟨⟨by have:=sT (xs:=xs) (k:=nk) (a:=a) (u:=u);omega,hs,ob,es,ep,ho,hc,hd,he,hn⟩,⟨ob,ho⟩,?_⟩;rintro h1 h2 ⟨z1,z2,o',es',ep',ho',r⟩ mv;exact⟨z1,z2,o',es',ep',mv o' ho',r⟩
def HD(p q:Er)(d:MV)(ρ:Rho)(S:Sto):R Rho:=match q with
 |.val k=>match bP S p with
  |some (l,kvs)=>if keyOk k=true/\kvs.length<1000000 then .ok ρ (S.set l (.dic (putK kvs k d)))else .no
  |none=>.no
 |_=>.no
theorem DenN.length{α:Ya}{H:Hp}: ∀{kvs xs},DenN X.K α H kvs xs->xs.length=kvs.length
 |_,_,.nil=>rfl
 |_,_,.cons _ _ _ _ _ l=>by rw[lC,lC,DenN.length l]
def Hh(hu:X.A.units+64<cLine)(ho:zO X W o f)(hi:zO X W i g)
  (ha: ∀v,assign (.Subscript o i pos) X.env v=(do
   let ov <-holding [v] (eval o X.env);let iv <-holding [v,ov] (eval i X.env)
   standAt pos
   holding [v,ov,iv] (setItem ov iv v)
   release [v,ov,iv] []):=by intro _;rfl):VL X W (.Subscript o i pos) (λd ρ S=>(f ρ S).bind λp S1=>(g ρ S1).bind λq S2=>HD p q d ρ S2):=by
 obtain⟨to,ho,fo⟩:=ho;obtain⟨ti,hi,fi⟩:=hi;refine⟨_,PK ho hi (WC hu) ha,λα ρ S σ H d v Q wd sl de q=>fo α ρ S σ H _ wd sl (q.bind λu p S1 α1 H1 e1 x1 w1 d1 q1=>fi α1 ρ S1 σ H1 _ w1 (sl.ext x1) ((q1.shift x1).bind λu2 p2 S2 α2 H2 e2 x2 w2 d2 q2=>?_))⟩
 replace q2:=q2.shift x2
 have d1':=DenX.ext x2 d1.1;have de2:=(de.ext x1).ext x2;unfold HD at q2;split at q2
 .rename_i k;split at q2
  .rename_i l kvs e;split at q2
   .rename_i hk;obtain⟨nk,h1,h2,h3⟩:=tV hk.1;obtain⟨c,xs,rfl,hc,hS,dd,dl⟩:=sS w2 e d1';obtain⟨a',rfl⟩:=CC (X:=X) (α:=α2) (H:=H2) h3 d2.1;refine⟨α2,kvs,xs,a',c,k,nk,rfl,rfl,dd,dl,h1,h2,d2.1,?_,λu ru=>?_⟩
    .rw[dl.length];exact Nat.lt_of_lt_of_le hk.2 (fits q9)
    .have xw:=w2.writex hc dd.nf (o:=DN X.prog X.w c (storedH xs nk a' u));have sl2:=((sl.ext x1).ext x2).ext xw;exact q2 σ α2 _ xw (w2.write hc dd.nf (.inr ⟨_,zS,(JO dl h1 h2 d2.1 de2 ru).ex0 xw.toEx0⟩)) sl2
   .exact q2.elim
  .exact q2.elim
 .exact q2.elim
end
def FsD(g:Gm)(α:Ya)(H:Hp)(d:Option Addr)(fs:List (Str×MV)):Prop:=fs=[]\/ ∃dx gs od,d=some dx/\H dx=some (.frz od (.xd gs))/\DenF g.K α H fs gs
abbrev WE(g:Gm)(E:XK):XW:=λc fs _ α H=> ∀C d,g.mg c=some (.ref C)->FsD g α H d fs->E (.ref C) d H
def Qe:MV->Bool
 |.non=>true
 |.bl _=>true
 |.int _=>true
 |.str _=>true
 |_=>false
def Post.wmono{β τ:Type}[Dn β τ]{g:Gm}{W W':XW}{α:Ya}{H:Hp}(f: ∀c fs S α' H',W c fs S α' H'->W' c fs S α' H'): ∀{m:R β}{Q:τ->Hp->Prop},Post g W α H m Q->Post g W' α H m Q
 |.ok b S,Q,q=>q
 |.exc c fs S,_,q=>λα' H' x w=>f _ _ _ _ _ (q α' H' x w)
 |.no,_,q=>q
def XCl(K:Yj)(C:Addr)(bm:Xj)(init:Option Value):Prop:=
 ∃nm q N bs hd sn sub ab col dd k0 k1 k2 k3 k5,K.lookup C=some (excClassObj nm q C N bs bm hd sn sub ab col dd k0 k1 k2 k3 k5 "ValueError.__new__")/\PySem.W.nsOkIn K N=true/\PySem.W.nsIn K N "__init__"=some init/\(∀n∈qn,PySem.W.nsIn K N n=some none)/\hd=true
def XEach(K:Yj)(mg:Yc)(M:Addr):List (Str×Addr)->Prop
 |[]=>True
 |(c,C)::r=>(mg c=some (.ref C)/\ ∃i,XCl K C (.ref M::Xb) i)/\XEach K mg M r
theorem XEach.at{K:Yj}{mg:Yc}{M:Addr}: ∀{cs:List (Str×Addr)},XEach K mg M cs-> ∀{c C},(c,C)∈cs->mg c=some (.ref C)/\ ∃i,XCl K C (.ref M::Xb) i
 |(c,C)::r,h,c',C',z=>by
  rcases mC.mp z with z|z
  .cases z;exact h.1
  .exact XEach.at h.2 z
def spX(g:Gm)(n:Nat)(F:List MV->Sto->R Er):Sp:=λvs H Q E=> ∃α S ds,Wd g α S H/\DenL g.K α H ds vs/\ds.length=n/\Post g (WE g E) α H (F ds S) Q
def SW(n:Nat)(F:List MV->Sto->R Er)(rs:List Er)(S:Sto):R Er:=if rs.length=n then(match F (zD rs S).1 (zD rs S).2 with
 |.ok r S2=>jQ S r S2
 |.exc c fs S2=>if fs.all (λp=>Qe p.2)=true then(jQ S (.val .non) S2).bind λ_ S3=>.exc c fs S3 else .no
 |.no=>.no)else .no
section
variable{P:Program}{w:World}{K:Yj}{mg:Yc}{base:Heap}
def _root_.L2.FnOk.noX{k n:Nat}{f:Addr}{fd:FuncData}{ps:Yb}{g:Gm}{F:List MV->Sto->R Er}(G:FnOk P w K mg base (CXe P w) k f fd ps (spX g n F)):FnOk P w K mg base CZ k f fd ps (QF g n F):=by
 have up: ∀{vs H Q}, ∀{E},QF g n F vs H Q E->spX g n F vs H Q E0:=λ⟨α,S,ds,h1,h2,h3,h4⟩=>⟨α,S,ds,h1,h2,h3,h4.wmono λ_ _ _ _ _ z=>z.elim⟩
 refine⟨λvs H Q E h=>G.len vs H Q E0 (up h),λA outer s H args us vs Q E hr e0 hb hv h=>codeAny_mono (G.run A outer s H args us vs Q E0 hr e0 hb hv (up h)) λr s' hq=>?_⟩
 cases r with
 |error e=>
  obtain⟨_,_,_,_,_,_,_,_,_,_,_,_,_,_,_,z⟩:=hq;exact z
 |ok fl=>cases fl<;>exact hq
end
end M
end L2
namespace L2
open PySem PySem.Spec PyProof.Rows
structure Out(X:Cx)(pins:Ye)(H:Hp)(s:Shared)(b:Addr):Prop where
 s0:X.s₀.heap.get? b=none
 h:H b=none
 pin: ∀p∈X.pn++pins,p.1≠b
 fld: ∃o vs,s.heap.get? b=some o/\o.data=.fields vs
section
variable{X:Cx}{pins:Ye}{σ:St}{H:Hp}{s:Shared}{e b:Addr}
def Out.ne(o:Out X pins H s b){c:Addr}{oc:Obj}(hc:s.heap.get? c=some oc)(nf: ∀vs,oc.data≠.fields vs):c≠b:=λz=>by obtain⟨ob,vs,h1,h2⟩:=o.fld;rw[z,h1]at hc;cases hc;exact nf vs h2
def Out.loc(o:Out X pins H s b)(I:Inv X pins σ H s):X.env.locals≠b:=by obtain⟨m,⟨oL,es,ep,h1,h2,_⟩,_⟩:=I.loc;exact o.ne h1 λvs z=>by rw[h2]at z;cases z
def HdA(A:Around)(H:Hp):Prop:= ∃e ob u,A.handled=some (.ref e)/\H e=some (.frz ob u)/\ ∃vs,ob.data=.fields vs/\vs[2]? =some .none
end
end L2
namespace L2
namespace M
open PySem PySem.Spec PyProof.Rows
def endF(i:Nat):Fl->Sto->R Fl
 |.next ρ,S=>.ok (.next (ρ.set i none)) S
 |.ret r,S=>.ok (.ret r) S
 |.brk ρ,S=>.ok (.brk (ρ.set i none)) S
 |.cont ρ,S=>.ok (.cont (ρ.set i none)) S
def Qf(ns:Yb)(i:Nat)(kn:Er->Sto->R Fl)(Fh:AY)(ρ:Rho):R Er->R Fl
 |.ok r S=>kn r S
 |.exc c fs S=>if c∈ns then(noX (Fh (ρ.set i (some (.loc S.length))) (S++[.ins c fs]))).bind (endF i)else .no
 |.no=>.no
end M
end L2
namespace Srt
open PySem PyProof.Rows
section
variable{M:Model}{A:Around}{E:VP}{s:Shared}{σ:Type}
def NG{x:String}{Q:Unit->σ->Prop}{st:σ}(h:Q () st):wpS M A E s (liftM (rule x):StateT σ Sem Unit) Q st:=wpS_lift (wpAny_rule ⟨rfl,h⟩)
end
end Srt
set_option autoImplicit false
namespace Srt
variable{β:Type}{le:β->β->Prop}
structure Two(le:β->β->Prop)(T out xs ys:List β):Prop where
 hx:(out++xs).Pairwise le
 hy:(out++ys).Pairwise le
 pm:(out++(xs++ys)).Perm T
structure TwoR(le:β->β->Prop)(T xs ys R:List β):Prop where
 hx:(xs++R).Pairwise le
 hy:(ys++R).Pairwise le
 pm:(xs++ys++R).Perm T
end Srt
set_option autoImplicit false
namespace Srt
open PySem PyProof.Rows
abbrev SM:=StateT SortSt Sem
abbrev G3:=Option (Option Nat)×Nat×Nat
end Srt
set_option autoImplicit false
namespace Srt
open PySem PyProof.Rows
section
variable{M:Model}{A:Around}{E:VP}{s:Shared}
structure Cmp(M:Model)(A:Around)(E:VP)(s:Shared)(kd:SortKind)(D:Keyed->Prop)(lt:Keyed->Keyed->Bool):Prop where
 go: ∀x y,D x->D y-> ∀st:SortSt,kindOf st=kd-> ∀Q:Option Bool->SortSt->Prop,Q (some (lt x y)) st->wpS M A E s (lt' x y) Q st
 tr: ∀x y z,lt y x=false->lt z y=false->lt z x=false
 as: ∀x y,lt x y=true->lt y x=false
variable{kd:SortKind}{D:Keyed->Prop}{lt:Keyed->Keyed->Bool}
abbrev Le(lt:Keyed->Keyed->Bool)(x y:Keyed):Prop:=lt y x=false
def Cmp.rf(C:Cmp M A E s kd D lt)(x:Keyed):Le lt x x:=by
 show lt x x=false
 cases h:lt x x with
 |false=>rfl
 |true=>exact absurd h (by rw[C.as x x h];simp)
def SL(lt:Keyed->Keyed->Bool)(l:List Keyed)(b n:Nat):Prop:= ∀i j x y,i<=j->j<n->l[b+i]? =some x->l[b+j]? =some y->lt y x=false
def SX{st:SortSt}{v:Array Keyed}{i:Nat}{Q:Keyed->SortSt->Prop}{x:Keyed}(e:v.toList[i]? =some x)(h:Q x st):wpS M A E s (elem' v i) Q st:=by
 rw[elem'_eq];have:v[i]? =some x:=by rw[<-Array.getElem?_toList];exact e
 rw[this];exact wpS_pure h
def Kp{v:Array Keyed}{i:Nat}(h:i<v.size): ∃x,v.toList[i]? =some x:=⟨v.toList[i]'(by simpa using h),gE _⟩
end
end Srt
set_option autoImplicit false
namespace Srt
open PySem PyProof.Rows
abbrev V:=Array Keyed
abbrev L6:=Option V×V×Nat×Nat×Nat×Nat
abbrev dnL(a b o:V)(i j:Nat):V:=o++a.extract i a.size++b.extract j b.size
abbrev laL(a b o:V)(i j:Nat):V:=o++b.extract j b.size++a.extract i a.size
def one1(a b:V)(g:Nat)(c:L6):SM (ForInStep L6):=
 elem' b c.2.2.2.1 >>= λy=>elem' a c.2.2.1 >>= λx=>lt' y x >>= λr=>match r with
  |some q=>if q=true then elem' b c.2.2.2.1 >>= λy=>
     if(c.2.2.2.1+1==b.size)=true then pure (.done (some (dnL a b (c.2.1.push y) c.2.2.1 (c.2.2.2.1+1)),c.2.1.push y,c.2.2.1,c.2.2.2.1+1,0,c.2.2.2.2.2+1))
     else if c.2.2.2.2.2+1>=g then pure (.done (none,c.2.1.push y,c.2.2.1,c.2.2.2.1+1,0,c.2.2.2.2.2+1))
     else pure (.yield (none,c.2.1.push y,c.2.2.1,c.2.2.2.1+1,0,c.2.2.2.2.2+1))
    else elem' a c.2.2.1 >>= λx=>
     if(c.2.2.1+1+1==a.size)=true then pure (.done (some (laL a b (c.2.1.push x) (c.2.2.1+1) c.2.2.2.1),c.2.1.push x,c.2.2.1+1,c.2.2.2.1,c.2.2.2.2.1+1,0))
     else if c.2.2.2.2.1+1>=g then pure (.done (none,c.2.1.push x,c.2.2.1+1,c.2.2.2.1,c.2.2.2.2.1+1,0))
     else pure (.yield (none,c.2.1.push x,c.2.2.1+1,c.2.2.2.1,c.2.2.2.2.1+1,0))
  |_=>pure (.done (some (dnL a b c.2.1 c.2.2.1 c.2.2.2.1),c.2.1,c.2.2.1,c.2.2.2.1,c.2.2.2.2.1,c.2.2.2.2.2))
def in1(a b:V)(t g:Nat)(c:L6):SM L6:=forIn [0:t] c λ_ c=>one1 a b g c
end Srt
set_option autoImplicit false
namespace Srt
open PySem PyProof.Rows
def Sg(st st':SortSt):Prop:= ∃g,st'=SortSt.mk' (kindOf st) (arrOf st) (pendingOf st) g (failedOf st)
theorem Sg.kind{st st':SortSt}(h:Sg st st'):kindOf st'=kindOf st:=by obtain⟨g,rfl⟩:=h;rfl
section
variable{lt:Keyed->Keyed->Bool}{a b:V}
abbrev TwoA(lt:Keyed->Keyed->Bool)(a b o:V)(i j:Nat):Prop:=Two (Le lt) (a.toList++b.toList) o.toList (a.toList.drop i) (b.toList.drop j)
def FinA(lt:Keyed->Keyed->Bool)(a b r:V):Prop:=r.toList.Pairwise (Le lt)/\r.toList.Perm (a.toList++b.toList)
def TwoA.sa{o:V}{i j:Nat}(h:TwoA lt a b o i j):(a.toList.drop i).Pairwise (Le lt):=(List.pairwise_append.mp h.hx).2.1
def TwoA.len{o:V}{i j:Nat}(h:TwoA lt a b o i j):o.size+((a.size - i)+(b.size - j))=a.size+b.size:=by have:=h.pm.length_eq;simpa [lA,List.length_drop]using this
def I1(lt:Keyed->Keyed->Bool)(a b o:V)(i j:Nat):Prop:=i+1<a.size/\j<b.size/\TwoA lt a b o i j
def N6(lt:Keyed->Keyed->Bool)(a b:V)(n:Nat)(c:L6):Prop:= ∃o i j p q,c=(none,o,i,j,p,q)/\I1 lt a b o i j/\n<=o.size
end
end Srt
set_option autoImplicit false
namespace Srt
open PySem PyProof.Rows
abbrev H5:=Option V×Nat×Nat×V×Nat
abbrev H6:=Option V×Nat×Nat×V×Nat×Nat
abbrev H7:=Option V×Nat×Nat×V×Nat×Nat×Nat
section
variable{lt:Keyed->Keyed->Bool}{a b:V}
abbrev TwoH(lt:Keyed->Keyed->Bool)(a b o:V)(i j:Nat):Prop:=TwoR (Le lt) (a.toList++b.toList) (a.toList.take i) (b.toList.take j) o.toList.reverse
def TwoH.sa{o:V}{i j:Nat}(h:TwoH lt a b o i j):(a.toList.take i).Pairwise (Le lt):=(List.pairwise_append.mp h.hx).1
def TwoH.len{o:V}{i j:Nat}(h:TwoH lt a b o i j)(h1:i<=a.size)(h2:j<=b.size):o.size+(i+j)=a.size+b.size:=by have:=h.pm.length_eq;simp only[lA,lT,List.length_reverse,Array.length_toList]at this;omega
def J1(lt:Keyed->Keyed->Bool)(a b o:V)(i j:Nat):Prop:=1<=i/\i<=a.size/\2<=j/\j<=b.size/\TwoH lt a b o i j
def R6(lt:Keyed->Keyed->Bool)(a b:V)(n:Nat)(c:H6):Prop:= ∃i j o p q,c=(none,i,j,o,p,q)/\J1 lt a b o i j/\n<=o.size
def S6(lt:Keyed->Keyed->Bool)(a b:V)(n:Nat)(c:H6):Prop:=(∃r e,c=(some r,e)/\FinA lt a b r)\/R6 lt a b n c
end
end Srt
set_option autoImplicit false
namespace Srt
open PySem PyProof.Rows
abbrev C2:=Option (Option Nat)×Nat
abbrev C3:=Option (Option Nat)×Nat×Nat
def Hi(lo a n:Nat):SM C2:=forIn [a:n] ((none,a):C2) λ_ c=>ltAt' (lo+c.2) (lo+c.2 - 1) >>= λo=>match o with
 |some q=>if q=true then pure (.done (none,c.2))else pure (.yield (none,c.2+1))
 |_=>pure (.done (some none,c.2))
def Xe(lo m n:Nat):SM (Option Nat):=reverseSlice' lo (lo+m) >>= λ_=>Hi lo m n >>= λc=>match c.1 with
 |some r=>pure r
 |none=>pure (some c.2)
def Qg(lo a n:Nat):SM C3:=forIn [a:n] ((none,a,0):C3) λ_ c=>ltAt' (lo+c.2.1) (lo+c.2.1 - 1) >>= λo=>match o with
 |some q=>if q=true then
    if c.2.2>0 then reverseSlice' (lo+c.2.1 - (c.2.2+1)) (lo+c.2.1) >>= λ_=>pure (.yield (none,c.2.1+1,0))else pure (.yield (none,c.2.1+1,0))
   else ltAt' (lo+c.2.1 - 1) (lo+c.2.1) >>= λo=>match o with
    |some q=>if q=true then pure (.done (none,c.2.1,c.2.2))else pure (.yield (none,c.2.1+1,c.2.2+1))
    |_=>pure (.done (some none,c.2.1,c.2.2))
 |_=>pure (.done (some none,c.2.1,c.2.2))
def Hj(lo m n:Nat):SM (Option Nat):=liftM (rule "list.sort.descending-run") >>= λ_=>Qg lo (m+1) n >>= λc=>match c.1 with
 |some r=>pure r
 |none=>if c.2.2>0 then reverseSlice' (lo+c.2.1 - (c.2.2+1)) (lo+c.2.1) >>= λ_=>Xe lo c.2.1 n else Xe lo c.2.1 n
def Ve(lo n:Nat):SM (Option Nat):=Hi lo 1 n >>= λc=>match c.1 with
 |some r=>pure r
 |none=>if(c.2==n)=true then pure (some c.2)else if c.2>1 then ltAt' lo (lo+c.2 - 1) >>= λo=>(match o with
    |some q=>if q=true then pure (some c.2)else reverseSlice' lo (lo+c.2) >>= λ_=>Hj lo c.2 n
    |_=>pure none)
   else Hj lo c.2 n
theorem FV(lo n:Nat):countRun' lo n=Ve lo n:=by kernel_rfl
def binI(lo k:Nat):SM (Option Bool×Nat×Nat):=forIn [0:k] ((none,0,k):Option Bool×Nat×Nat) λ_ c=>
 if c.2.1>=c.2.2 then pure (.done (none,c.2.1,c.2.2))else ltAt' (lo+k) (lo+(c.2.1+c.2.2) / 2) >>= λo=>match o with
  |some q=>if q=true then pure (.yield (none,c.2.1,(c.2.1+c.2.2) / 2))else pure (.yield (none,(c.2.1+c.2.2) / 2+1,c.2.2))
  |_=>pure (.done (some false,c.2.1,c.2.2))
def Vf(lo n ok:Nat):SM Bool:=(forIn [max ok 1:n] ((none,()):Option Bool×Unit) λk _=>binI lo k >>= λc=>match c.1 with
  |some r=>pure (.done (some r,()))
  |none=>moveDown' (lo+k) (lo+c.2.1) >>= λ_=>pure (.yield (none,()))) >>= λc=>match c.1 with
 |some r=>pure r
 |none=>pure true
theorem BN(lo n ok:Nat):binarySort' lo n ok=Vf lo n ok:=by kernel_rfl
def Kx(d:Keyed)(v:V)(i:Nat):Keyed:=(v[i]?).getD d
def qA{d:Keyed}{v u:V}{i j:Nat}(h:v[i]? =u[j]?):Kx d v i=Kx d u j:=by unfold Kx;rw[h]
def vN{d:Keyed}{v:V}{i j:Nat}(hj:j<=v.size)(k:Nat):Kx d (mirror v i j ((j - i) / 2)) k=if i<=k/\k<j then Kx d v (i+j - 1 - k)else Kx d v k:=by
 have e:=getElem?_mirror_all (i:=i) hj k;by_cases h1:i<=k/\k<j
 .rw[iP h1]at e ⊢; exact qA e
 .rw[iN h1]at e ⊢; exact qA e
def HE{d:Keyed}{v:V}{src m:Nat}(hs:src<v.size)(hm:m<=src)(k:Nat):
  Kx d (bubble v src m) k=if k=src - m then Kx d v src else if src - m<k/\k<=src then Kx d v (k - 1)else Kx d v k:=by
 have e:=getElem?_bubble hs m hm k;by_cases h1:k=src - m
 .rw[iP h1]at e ⊢; exact qA e
 .rw[iN h1]at e ⊢;by_cases h2:src - m<k/\k<=src
  .rw[iP h2]at e ⊢; exact qA e
  .rw[iN h2]at e ⊢; exact qA e
structure SB(a₀:V)(kd:SortKind)(pd:Array (Nat×Nat×Nat))(f:V)(lo:Nat)(st:SortSt):Prop where
 pm:(arrOf st).Perm a₀
 kind:kindOf st=kd
 fl:failedOf st=none
 pd:pendingOf st=pd
 fx: ∀i,i<lo->(arrOf st)[i]? =f[i]?
section
variable{M:Model}{A:Around}{E:VP}{s:Shared}{kd:SortKind}{D:Keyed->Prop}{lt:Keyed->Keyed->Bool}{a₀ f:V}{pd:Array (Nat×Nat×Nat)}{lo:Nat}{st:SortSt}{d:Keyed}
def SB.size(h:SB a₀ kd pd f lo st):(arrOf st).size=a₀.size:=h.pm.size_eq
def SB.rev(h:SB a₀ kd pd f lo st){i j:Nat}(hi:lo<=i)(hj:j<=a₀.size):SB a₀ kd pd f lo (setArr st (mirror (arrOf st) i j ((j - i) / 2))):=
 ⟨(mirror_perm _ _ _ _).trans h.pm,h.kind,h.fl,h.pd,λk hk=>by show(mirror (arrOf st) i j ((j - i) / 2))[k]? =_;rw[getElem?_mirror_all (by rw[h.size];exact hj),iN #[0]];exact h.fx k hk⟩
def SB.bub(h:SB a₀ kd pd f lo st){i m:Nat}(hi:lo+m<=i)(hj:i<a₀.size):SB a₀ kd pd f lo (setArr st (bubble (arrOf st) i m)):=
 ⟨(bubble_perm _ _ _).trans h.pm,h.kind,h.fl,h.pd,λk hk=>by show(bubble (arrOf st) i m)[k]? =_;rw[getElem?_bubble (by rw[h.size];exact hj) _ #[0],iN #[0],iN #[0]];exact h.fx k hk⟩
def tW(C:Cmp M A E s kd D lt)(h:SB a₀ kd pd f lo st)(hD: ∀x,x∈a₀.toList->D x){i j:Nat}(hi:i<a₀.size)(hj:j<a₀.size){Q:Option Bool->SortSt->Prop}
  (hq:Q (some (lt (Kx d (arrOf st) i) (Kx d (arrOf st) j))) st):wpS M A E s (ltAt' i j) Q st:=by
 obtain⟨x,ex⟩:=Kp (v:=arrOf st) (i:=i) (by rw[h.size];exact hi);obtain⟨y,ey⟩:=Kp (v:=arrOf st) (i:=j) (by rw[h.size];exact hj);have mx:x∈a₀.toList:=(Array.perm_iff_toList_perm.mp h.pm).mem_iff.mp (mem_of_getElem? ex);have my:y∈a₀.toList:=(Array.perm_iff_toList_perm.mp h.pm).mem_iff.mp (mem_of_getElem? ey);have e1:Kx d (arrOf st) i=x:=by unfold Kx;rw[<-Array.getElem?_toList,ex];rfl
 have e2:Kx d (arrOf st) j=y:=by unfold Kx;rw[<-Array.getElem?_toList,ey];rfl
 rw[e1,e2]at hq;rw[ltAt'_eq];refine wpS_bind (wpS_get ?_);exact wpS_bind (SX ex (wpS_bind (SX ey (C.go x y (hD x mx) (hD y my) st h.kind _ hq))))
def JQ{i j:Nat}{Q:Unit->SortSt->Prop}(h:Q () (setArr st (mirror (arrOf st) i j ((j - i) / 2)))):wpS M A E s (reverseSlice' i j) Q st:=by rw[reverseSlice'_eq];exact wpS_modify h
def Up(lt:Keyed->Keyed->Bool)(d:Keyed)(v:V)(lo n:Nat):Prop:= ∀i j,i<=j->j<n->Le lt (Kx d v (lo+i)) (Kx d v (lo+j))
def Dn(lt:Keyed->Keyed->Bool)(d:Keyed)(v:V)(lo n:Nat):Prop:= ∀i j,i<=j->j<n->Le lt (Kx d v (lo+j)) (Kx d v (lo+i))
def Up.step(C:Cmp M A E s kd D lt){v:V}{x:Nat}(hs:Up lt d v lo x)(hx:1<=x)(hl:lt (Kx d v (lo+x)) (Kx d v (lo+x - 1))=false):Up lt d v lo (x+1):=by
 intro i j hij hj;by_cases hjx:j<x
 .exact hs i j hij hjx
 .have hj':j=x:=by omega
  subst hj';by_cases hi':i=j
  .subst hi';exact C.rf _
  .have:=hs i (j - 1) #[0] #[0];rw[show lo+(j - 1)=lo+j - 1 by omega]at this;exact C.tr _ _ _ this hl
def SY(C:Cmp M A E s kd D lt)(hD: ∀x,x∈a₀.toList->D x)(h:SB a₀ kd pd f lo st){a n:Nat}(hn:lo+n<=a₀.size)(ha:1<=a)(han:a<=n)(hs:Up lt d (arrOf st) lo a){Q:C2->SortSt->Prop}
  (hq: ∀m,a<=m->m<=n->Up lt d (arrOf st) lo m->(m=n\/lt (Kx d (arrOf st) (lo+m)) (Kx d (arrOf st) (lo+m - 1))=true)->Q (none,m) st):wpS M A E s (Hi lo a n) Q st:=by
 unfold Hi;refine wpS_forRange (I:=λx c st'=>st'=st/\c=(none,x)/\Up lt d (arrOf st) lo x) ?_ ?_ ⟨rfl,rfl,hs⟩
 .rintro x c st' hax hxn ⟨rfl,rfl,hs'⟩;dsimp only;refine wpS_bind (tW (d:=d) C h hD #[0] #[0] ?_)
  cases hl:lt (Kx d (arrOf st') (lo+x)) (Kx d (arrOf st') (lo+x - 1))with
  |true=>exact wpS_pure (hq x hax #[0] hs' (.inr hl))
  |false=>exact wpS_pure ⟨rfl,rfl,hs'.step C #[0] hl⟩
 .rintro c st' ⟨rfl,rfl,hs'⟩;rw[show max a n=n by omega]at hs' ⊢;exact hq n han q9 hs' (.inl rfl)
def Up.of_mirror(h:SB a₀ kd pd f lo st){m:Nat}(hm:lo+m<=a₀.size)(hs:Dn lt d (arrOf st) lo m):Up lt d (mirror (arrOf st) lo (lo+m) ((lo+m - lo) / 2)) lo m:=by intro i j hij hj;rw[vN (by rw[h.size];exact hm),vN (by rw[h.size];exact hm),iP #[0],iP #[0]];have:=hs (m - 1 - j) (m - 1 - i) #[0] #[0];rw[show lo+(m - 1 - j)=lo+(lo+m) - 1 - (lo+j) by omega,show lo+(m - 1 - i)=lo+(lo+m) - 1 - (lo+i) by omega]at this;exact this
def Ab(C:Cmp M A E s kd D lt)(hD: ∀x,x∈a₀.toList->D x)(h:SB a₀ kd pd f lo st){m n:Nat}(hn:lo+n<=a₀.size)(h1:1<=m)(hm:m<=n)(hs:Dn lt d (arrOf st) lo m){Q:Option Nat->SortSt->Prop}
  (hq: ∀m st',SB a₀ kd pd f lo st'->1<=m->m<=n->Up lt d (arrOf st') lo m->Q (some m) st'):wpS M A E s (Xe lo m n) Q st:=by
 unfold Xe;refine wpS_bind (JQ ?_);have h':=h.rev (i:=lo) (j:=lo+m) q9 #[0];exact wpS_bind (SY C hD h' hn h1 hm (Up.of_mirror h #[0] hs) λk k1 k2 k3 _=>wpS_pure (hq k _ h' #[0] k2 k3))
def Vg(lt:Keyed->Keyed->Bool)(d:Keyed)(v:V)(i j:Nat):Prop:= ∀k l,i<=k->k<j->i<=l->l<j->Le lt (Kx d v k) (Kx d v l)
def Dn.mirror(C:Cmp M A E s kd D lt)(h:SB a₀ kd pd f lo st){i j n:Nat}(hj:j<=a₀.size)(he:Vg lt d (arrOf st) i j)(hs:Dn lt d (arrOf st) lo n):Dn lt d (mirror (arrOf st) i j ((j - i) / 2)) lo n:=by
 have key: ∀k,Le lt (Kx d (PyProof.Rows.mirror (arrOf st) i j ((j - i) / 2)) k) (Kx d (arrOf st) k)/\Le lt (Kx d (arrOf st) k) (Kx d (PyProof.Rows.mirror (arrOf st) i j ((j - i) / 2)) k):=by
  intro k;rw[vN (by rw[h.size];exact hj)];split
  .exact⟨he _ _ #[0] #[0] #[0] #[0],he _ _ #[0] #[0] #[0] #[0]⟩
  .exact⟨C.rf _,C.rf _⟩
 intro p q hpq hq;exact C.tr _ _ _ (key _).1 (C.tr _ _ _ (hs p q hpq hq) (key _).2)
def Hk(C:Cmp M A E s kd D lt)(hD: ∀x,x∈a₀.toList->D x)(h:SB a₀ kd pd f lo st){a n:Nat}(hn:lo+n<=a₀.size)(h1:1<=a)(han:a<=n)(hs:Dn lt d (arrOf st) lo a){Q:C3->SortSt->Prop}
  (hq: ∀m e st',SB a₀ kd pd f lo st'->a<=m->m<=n->Dn lt d (arrOf st') lo m->e+1<=m->Vg lt d (arrOf st') (lo+m - (e+1)) (lo+m)->Q (none,m,e) st'):wpS M A E s (Qg lo a n) Q st:=by
 unfold Qg
 refine wpS_forRange (I:=λx c st'=> ∃e,c=(none,x,e)/\SB a₀ kd pd f lo st'/\Dn lt d (arrOf st') lo x/\e+1<=x/\Vg lt d (arrOf st') (lo+x - (e+1)) (lo+x)) ?_ ?_
  ⟨0,rfl,h,hs,by omega,λk l h1 h2 h3 h4=>by rw[show k=l by omega];exact C.rf _⟩
 .rintro x c st' hax hxn ⟨e,rfl,hB,hs',hq',he⟩;dsimp only;have one: ∀v:V,Vg lt d v (lo+(x+1) - (0+1)) (lo+(x+1)):=λv k l h1 h2 h3 h4=>by rw[show k=l by omega];exact C.rf _
  refine wpS_bind (tW (d:=d) C hB hD #[0] #[0] ?_)
  cases hl:lt (Kx d (arrOf st') (lo+x)) (Kx d (arrOf st') (lo+x - 1))with
  |true=>
   have nx:Dn lt d (arrOf st') lo (x+1):=by
    intro i j hij hj;by_cases hjx:j<x
    .exact hs' i j hij hjx
    .have hj':j=x:=by omega
     subst hj';by_cases hi':i=j
     .subst hi';exact C.rf _
     .have:=hs' i (j - 1) #[0] #[0];rw[show lo+(j - 1)=lo+j - 1 by omega]at this;exact C.tr _ _ _ (C.as _ _ hl) this
   dsimp only;rw[iP rfl];by_cases ce:e>0
   .rw[iP ce];refine wpS_bind (JQ (wpS_pure ⟨0,rfl,hB.rev #[0] #[0],nx.mirror C hB #[0] he,by omega,one _⟩))
   .rw[iN ce];exact wpS_pure ⟨0,rfl,hB,nx,by omega,one _⟩
  |false=>
   dsimp only;rw[iN (by simp)];refine wpS_bind (tW (d:=d) C hB hD #[0] #[0] ?_)
   cases hr:lt (Kx d (arrOf st') (lo+x - 1)) (Kx d (arrOf st') (lo+x))with
   |true=>exact wpS_pure (hq x e st' hB hax #[0] hs' hq' he)
   |false=>
    refine wpS_pure ⟨e+1,rfl,hB,λi j hij hj=>?_,by omega,λk l k1 k2 k3 k4=>?_⟩
    .by_cases hjx:j<x
     .exact hs' i j hij hjx
     .have hj':j=x:=by omega
      subst hj';by_cases hi':i=j
      .subst hi';exact C.rf _
      .have:=hs' i (j - 1) #[0] #[0];rw[show lo+(j - 1)=lo+j - 1 by omega]at this;exact C.tr _ _ _ hr this
    .by_cases ck:k=lo+x
     .subst ck;by_cases cl:l=lo+x
      .subst cl;exact C.rf _
      .exact C.tr _ _ _ hr (he _ _ #[0] #[0] #[0] #[0])
     .by_cases cl:l=lo+x
      .subst cl;exact C.tr _ _ _ (he k (lo+x - 1) #[0] #[0] #[0] #[0]) hl
      .exact he _ _ #[0] #[0] #[0] #[0]
 .rintro c st' ⟨e,rfl,hB,hs',hq',he⟩;rw[show max a n=n by omega]at hs' hq' he ⊢;exact hq n e st' hB han q9 hs' hq' he
def SZ(C:Cmp M A E s kd D lt)(hD: ∀x,x∈a₀.toList->D x)(h:SB a₀ kd pd f lo st){m n:Nat}(hn:lo+n<=a₀.size)(hm:m+1<=n)(hs:Dn lt d (arrOf st) lo (m+1)){Q:Option Nat->SortSt->Prop}
  (hq: ∀m st',SB a₀ kd pd f lo st'->1<=m->m<=n->Up lt d (arrOf st') lo m->Q (some m) st'):wpS M A E s (Hj lo m n) Q st:=by
 unfold Hj;refine wpS_bind (NG ?_);refine wpS_bind (Hk C hD h hn #[0] hm hs λk e st' hB k1 k2 k3 k4 k5=>?_);dsimp only;by_cases ce:e>0
 .rw[iP ce];exact wpS_bind (JQ (Ab C hD (hB.rev #[0] #[0]) hn #[0] k2 (k3.mirror C hB #[0] k5) hq))
 .rw[iN ce];exact Ab C hD hB hn #[0] k2 k3 hq
def Hl(C:Cmp M A E s kd D lt)(hD: ∀x,x∈a₀.toList->D x)(h:SB a₀ kd pd f lo st){n:Nat}(hn:lo+n<=a₀.size)(h1:1<=n){Q:Option Nat->SortSt->Prop}
  (hq: ∀m st',SB a₀ kd pd f lo st'->1<=m->m<=n->Up lt d (arrOf st') lo m->Q (some m) st'):wpS M A E s (countRun' lo n) Q st:=by
 rw[FV];unfold Ve;refine wpS_bind (SY (d:=d) C hD h hn (Nat.le_refl 1) h1 (λi j hij hj=>by rw[show i=j by omega];exact C.rf _) λm m1 m2 hs hor=>?_);dsimp only;by_cases cm:m=n
 .rw[iP (by simpa using cm)];exact wpS_pure (hq m st h m1 m2 hs)
 .rw[iN (by simpa using cm)];have hlt:=hor.resolve_left cm;by_cases cg:m>1
  .rw[iP cg];refine wpS_bind (tW (d:=d) C h hD #[0] #[0] ?_)
   cases hr:lt (Kx d (arrOf st) lo) (Kx d (arrOf st) (lo+m - 1))with
   |true=>exact wpS_pure (hq m st h m1 m2 hs)
   |false=>
    have all:Vg lt d (arrOf st) lo (lo+m):=by intro k l k1 k2 k3 k4;have a1:=hs 0 (l - lo) #[0] #[0];have a2:=hs (k - lo) (m - 1) #[0] #[0];rw[show lo+0=lo by omega,show lo+(l - lo)=l by omega]at a1;rw[show lo+(k - lo)=k by omega,show lo+(m - 1)=lo+m - 1 by omega]at a2;exact C.tr _ _ _ a2 (C.tr _ _ _ hr a1)
    have dn:Dn lt d (arrOf st) lo (m+1):=by
     intro i j hij hj;by_cases hjm:j<m
     .exact all _ _ #[0] #[0] #[0] #[0]
     .have hj':j=m:=by omega
      subst hj';by_cases hi':i=j
      .subst hi';exact C.rf _
      .exact C.tr _ _ _ (C.as _ _ hlt) (all _ _ #[0] #[0] #[0] #[0])
    dsimp only;rw[iN (by simp)];exact wpS_bind (JQ (SZ C hD (h.rev q9 #[0]) hn #[0] (dn.mirror C h #[0] all) hq))
  .rw[iN cg];have:m=1:=by omega
   subst this;refine SZ C hD h hn #[0] (λi j hij hj=>?_) hq;by_cases hi':i=j
   .subst hi';exact C.rf _
   .rw[show i=0 by omega,show j=1 by omega];exact C.as _ _ hlt
def Hm(C:Cmp M A E s kd D lt)(hD: ∀x,x∈a₀.toList->D x)(h:SB a₀ kd pd f lo st){n ok:Nat}(hn:lo+n<=a₀.size)(hok:ok<=n)(hs:Up lt d (arrOf st) lo ok){Q:Bool->SortSt->Prop}
  (hq: ∀st',SB a₀ kd pd f lo st'->Up lt d (arrOf st') lo n->Q true st'):wpS M A E s (binarySort' lo n ok) Q st:=by
 rw[BN];unfold Vf
 refine wpS_bind (wpS_mono (wpS_forRange (I:=λk c st'=>c=(none,())/\SB a₀ kd pd f lo st'/\Up lt d (arrOf st') lo (min k n))
  (Q:=λc st'=>c=(none,())/\SB a₀ kd pd f lo st'/\Up lt d (arrOf st') lo n) ?_ ?_ ?_) ?_)
 .rintro k c st' hak hkn ⟨rfl,hB,hs'⟩;rw[show min k n=k by omega]at hs';unfold binI
  refine wpS_bind (wpS_mono (wpS_forRange (I:=λx c st''=>st''=st'/\ ∃l r,c=(none,l,r)/\l<=r/\r<=k/\r - l<=k - x/\
    (∀i,i<l->Le lt (Kx d (arrOf st') (lo+i)) (Kx d (arrOf st') (lo+k)))/\(∀i,r<=i->i<k->Le lt (Kx d (arrOf st') (lo+k)) (Kx d (arrOf st') (lo+i))))
   (Q:=λc st''=>st''=st'/\ ∃l r,c=(none,l,r)/\l<=k/\
    (∀i,i<l->Le lt (Kx d (arrOf st') (lo+i)) (Kx d (arrOf st') (lo+k)))/\(∀i,l<=i->i<k->Le lt (Kx d (arrOf st') (lo+k)) (Kx d (arrOf st') (lo+i)))) ?_ ?_ ?_) ?_)
  .rintro x c st'' _ hxk ⟨rfl,l,r,rfl,hlr,hrk,hm,hlo,hhi⟩;dsimp only;by_cases hge:l>=r
   .rw[iP hge];have:l=r:=by omega
    subst this;exact wpS_pure ⟨rfl,l,l,rfl,hrk,hlo,hhi⟩
   .rw[iN hge];refine wpS_bind (tW (d:=d) C hB hD #[0] #[0] ?_)
    cases hl:lt (Kx d (arrOf st'') (lo+k)) (Kx d (arrOf st'') (lo+(l+r) / 2))with
    |true=>exact wpS_pure ⟨rfl,l,(l+r) / 2,rfl,by omega,by omega,by omega,hlo,λi h1 h2=>C.tr _ _ _ (C.as _ _ hl) (hs' _ _ h1 h2)⟩
    |false=>exact wpS_pure ⟨rfl,(l+r) / 2+1,r,rfl,by omega,by omega,by omega,λi h1=>C.tr _ _ _ (hs' i ((l+r) / 2) #[0] #[0]) hl,hhi⟩
  .rintro c st'' ⟨rfl,l,r,rfl,hlr,hrk,hm,hlo,hhi⟩;have:l=r:=by omega
   subst this;exact⟨rfl,l,l,rfl,hrk,hlo,hhi⟩
  .exact⟨rfl,0,k,rfl,by omega,by omega,by omega,λi hi=>by omega,λi h1 h2=>by omega⟩
  .rintro c st'' ⟨rfl,l,r,rfl,hlk,hlo,hhi⟩;dsimp only;rw[moveDown'_eq];have hks:lo+k<(arrOf st'').size:=by rw[hB.size];omega
   refine wpS_bind (wpS_modify (wpS_pure ⟨rfl,?_,?_⟩))
   .exact hB.bub #[0] #[0]
   .rw[show min (k+1) n=k+1 by omega];intro i j hij hj;show Le lt (Kx d (bubble (arrOf st'') (lo+k) (lo+k - (lo+l))) (lo+i)) (Kx d (bubble (arrOf st'') (lo+k) (lo+k - (lo+l))) (lo+j));rw[HE hks #[0],HE hks #[0],show lo+k - (lo+k - (lo+l))=lo+l by omega];have sh: ∀i,1<=i->lo+i - 1=lo+(i - 1):=λi hi=>by omega
    repeat' split
    all_goals first
     |(exfalso;omega)
     |exact C.rf _
     |exact hlo _ #[0]
     |(rw[sh _ #[0]];exact hhi _ #[0] #[0])
     |exact hhi _ #[0] #[0]
     |exact hs' _ _ #[0] #[0]
     |(rw[sh i #[0]];exact hs' _ _ #[0] #[0])
     |(rw[sh j #[0]];exact hs' _ _ #[0] #[0])
     |(rw[sh i #[0],sh j #[0]];exact hs' _ _ #[0] #[0])
     |(rw[sh i #[0]];exact hlo _ #[0])
 .rintro c st' ⟨hc,hB,hs'⟩;refine⟨hc,hB,?_⟩;rwa [show min (max (max ok 1) n) n=n by omega]at hs'
 .refine⟨rfl,h,λi j hij hj=>?_⟩;by_cases h1:ok=0
  .rw[show i=j by omega];exact C.rf _
  .exact hs i j hij #[0]
 .rintro c st' ⟨rfl,hB,hs'⟩;exact wpS_pure (hq st' hB hs')
end
end Srt
set_option autoImplicit false
namespace Srt
open PySem PyProof.Rows
section
variable{kd:SortKind}{lt:Keyed->Keyed->Bool}{a₀:V}{pd:Array (Nat×Nat×Nat)}{lo:Nat}{st:SortSt}{d:Keyed}
def Up.sl{v:V}{n:Nat}(h:Up lt d v lo n):SL lt v.toList lo n:=by
 intro i j x y h1 h2 hx hy;have e1:Kx d v (lo+i)=x:=by unfold Kx;rw[<-Array.getElem?_toList,hx];rfl
 have e2:Kx d v (lo+j)=y:=by unfold Kx;rw[<-Array.getElem?_toList,hy];rfl
 have:=h i j h1 h2;rw[e1,e2]at this;exact this
def SL.pw{l:List Keyed}{n:Nat}(h:SL lt l lo n):((l.drop lo).take n).Pairwise (Le lt):=by rw[List.pairwise_iff_getElem];intro i j hi hj hij;rw[lT,List.length_drop]at hi hj;rw[List.getElem_take,List.getElem_take,List.getElem_drop,List.getElem_drop];exact h i j _ _ #[0] #[0] (gE _) (gE _)
structure Out(a₀:V)(kd:SortKind)(lt:Keyed->Keyed->Bool)(n:Nat)(st:SortSt):Prop where
 pm:(arrOf st).toList.Perm a₀.toList
 kind:kindOf st=kd
 fl:failedOf st=none
 pd: ∃w,pendingOf st=#[(0,n,w)]
 so:(arrOf st).toList.Pairwise (Le lt)
end
end Srt
set_option autoImplicit false
namespace Srt
open PySem PyProof.Rows
abbrev U2:=Option Unit×Nat
abbrev U1:=Option Unit×Unit
def psh(lo n:Nat):SM (ForInStep U2):=(modify λs=>setPending s ((pendingOf s).push (lo,n,0))) >>= λ_=>pure (.yield (none,lo+n))
def Xf(N lo n:Nat):SM (ForInStep U2):=get >>= λst=>match (pendingOf st).back? with
 |some (a,b,_)=>(forIn [0:N] ((none,()):U1) λ_ _=>get >>= λst=>(match (if(pendingOf st).size>1 then(pendingOf st)[(pendingOf st).size - 2]? else none)with
   |some (_,_,z)=>if z<=power' N (2 * a+b) (2 * a+b+b+n) N then pure (.done (none,()))else mergeAt' ((pendingOf st).size - 2) >>= λq=>if(!q)=true then pure (.done (some (),()))else pure (.yield (none,()))
   |_=>pure (.done (none,())))) >>= λc=>(match c.1 with
  |some r=>pure (.done (some r,lo))
  |none=>(modify λs=>setPending s ((pendingOf s).modify ((pendingOf s).size - 1) λ(u,v,_)=>(u,v,power' N (2 * a+b) (2 * a+b+b+n) N))) >>= λ_=>psh lo n)
 |_=>psh lo n
def runs(N r:Nat):SM U2:=forIn [0:N] ((none,0):U2) λ_ c=>if c.2>=N then pure (.done (none,c.2))else countRun' c.2 (N - c.2) >>= λo=>match o with
 |some m=>if m<r then liftM (rule "list.sort.binary-insertion") >>= λ_=>binarySort' c.2 (min (N - c.2) r) m >>= λq=>if(!q)=true then pure (.done (some (),c.2))else Xf N c.2 (min (N - c.2) r)
   else Xf N c.2 m
 |_=>pure (.done (some (),c.2))
def Qh(N:Nat):SM U1:=forIn [0:N] ((none,()):U1) λ_ _=>get >>= λst=>if(pendingOf st).size<=1 then pure (.done (none,()))else
 mergeAt' (if Option.any (λx=>decide (x<((pendingOf st)[(pendingOf st).size - 2+1]?).elim 0 λx=>x.2.1)) (if(pendingOf st).size - 2>0 then Option.map (λx=>x.2.1) (pendingOf st)[(pendingOf st).size - 2 - 1]? else none)=true
  then(pendingOf st).size - 2 - 1 else(pendingOf st).size - 2) >>= λq=>if(!q)=true then pure (.done (some (),()))else pure (.yield (none,()))
def Vh:SM Unit:=get >>= λst=>runs (arrOf st).size (minRun' (arrOf st).size (arrOf st).size 0) >>= λc=>match c.1 with
 |some r=>pure r
 |none=>Qh (arrOf st).size >>= λc=>match c.1 with
  |some r=>pure r
  |none=>pure ()
theorem FW:sortRuns'=Vh:=by kernel_rfl
section
variable{M:Model}{A:Around}{E:VP}{s:Shared}{kd:SortKind}{lt:Keyed->Keyed->Bool}{a₀ f:V}{pd:Array (Nat×Nat×Nat)}{lo:Nat}{st:SortSt}
def SB.free{pd':Array (Nat×Nat×Nat)}(h:SB a₀ kd pd f lo st)(g:V):SB a₀ kd pd' g 0 (setPending st pd'):=⟨h.pm,h.kind,h.fl,rfl,λ_ hi=>by omega⟩
def Qi{lo n:Nat}{Q:ForInStep U2->SortSt->Prop}(h:Q (.yield (none,lo+n)) (setPending st ((pendingOf st).push (lo,n,0)))):wpS M A E s (psh lo n) Q st:=
 wpS_bind (wpS_modify (wpS_pure h))
def Xg(a₀:V)(lt:Keyed->Keyed->Bool)(st:SortSt):Prop:=(arrOf st).toList.Perm a₀.toList/\failedOf st=none/\(arrOf st).toList.Pairwise (Le lt)
end
end Srt
set_option autoImplicit false
namespace Srt
open PySem PyProof.Rows
section
variable{M:Model}{A:Around}{E:VP}{s:Shared}{kd:SortKind}{D:Keyed->Prop}{lt:Keyed->Keyed->Bool}{a₀:V}{pd:Array (Nat×Nat×Nat)}{st:SortSt}{d:Keyed}
def Ac{N:Nat}(h2:2<=N)(h:N<64):minRun' N N 0=N:=by
 obtain⟨g,rfl⟩: ∃g,N=g+1:=⟨N - 1,by omega⟩
 rw[minRun'_succ,iP h]
def Xh(a₀:V)(kd:SortKind)(lt:Keyed->Keyed->Bool)(st:SortSt):Prop:=SB a₀ kd #[(0,a₀.size,0)] a₀ 0 st/\SL lt (arrOf st).toList 0 a₀.size
def Ad(C:Cmp M A E s kd D lt)(hD: ∀x,x∈a₀.toList->D x)(d:Keyed)(h2:2<=a₀.size)(h:SB a₀ kd #[] a₀ 0 st){Q:U2->SortSt->Prop}
  (hq: ∀st',Xh a₀ kd lt st'->Q (none,a₀.size) st'):wpS M A E s (runs a₀.size a₀.size) Q st:=by
 unfold runs;refine wpS_forRange (I:=λx c st'=>(x=0/\c=(none,0)/\SB a₀ kd #[] a₀ 0 st')\/(1<=x/\c=(none,a₀.size)/\Xh a₀ kd lt st')) ?_ ?_ (.inl ⟨rfl,rfl,h⟩)
 .rintro x c st' _ hx (⟨rfl,rfl,hB⟩|⟨hx1,rfl,hC⟩)
  .dsimp only;rw[iN #[0]]
   have go: ∀st2,SB a₀ kd #[] a₀ 0 st2->Up lt d (arrOf st2) 0 a₀.size-> ∀R:ForInStep U2->SortSt->Prop,(∀st',Xh a₀ kd lt st'->R (.yield (none,a₀.size)) st')->wpS M A E s (Xf a₀.size 0 a₀.size) R st2:=by
    intro st2 hB2 hu R hR;unfold Xf;refine wpS_bind (wpS_get ?_);have hb:(pendingOf st2).back? =none:=by rw[hB2.pd];rfl
    rw[hb];dsimp only;refine Qi ?_;have e:(pendingOf st2).push (0,a₀.size,0)=#[(0,a₀.size,0)]:=by rw[hB2.pd];rfl
    rw[e,Nat.zero_add];exact hR _ ⟨hB2.free a₀,hu.sl⟩
   refine wpS_bind (Hl (d:=d) C hD hB #[0] #[0] λm st2 hB2 hm1 hm2 hu=>?_);dsimp only;by_cases cm:m<a₀.size
   .rw[iP cm];refine wpS_bind (NG ?_);rw[Nat.sub_zero,Nat.min_self];refine wpS_bind (Hm C hD hB2 #[0] #[0] hu λst3 hB3 hu3=>?_);rw[iN (by simp)];exact go st3 hB3 hu3 _ λ_ q=>.inr ⟨by omega,rfl,q⟩
   .rw[iN cm];obtain rfl:m=a₀.size:=by omega
    exact go st2 hB2 hu _ λ_ q=>.inr ⟨by omega,rfl,q⟩
  .dsimp only;rw[iP q9];exact wpS_pure (hq st' hC)
 .rintro c st' (⟨hx,_⟩|⟨_,rfl,hC⟩)
  .omega
  .exact hq st' hC
def Ae(h2:2<=a₀.size)(h:Xh a₀ kd lt st){Q:U1->SortSt->Prop}(hq: ∀st',Xg a₀ lt st'->Q (none,()) st'):wpS M A E s (Qh a₀.size) Q st:=by
 have hd:Xg a₀ lt st:=⟨Array.perm_iff_toList_perm.mp h.1.pm,h.1.fl,by have:=h.2.pw;rwa [drop_zero,take_of_length_le (by rw[Array.length_toList,h.1.size];omega)]at this⟩
 unfold Qh;refine wpS_forRange (I:=λ_ c st'=>c=(none,())/\st'=st) ?_ ?_ ⟨rfl,rfl⟩
 .rintro x c st' _ _ ⟨rfl,rfl⟩;refine wpS_bind (wpS_get ?_);rw[iP (by rw[h.1.pd];simp)];exact wpS_pure (hq _ hd)
 .rintro c st' ⟨rfl,rfl⟩;exact hq _ hd
def JR(C:Cmp M A E s kd D lt)(hD: ∀x,x∈(arrOf st).toList->D x)(d:Keyed)(h2:2<=(arrOf st).size)(h64:(arrOf st).size<64)(hk:kindOf st=kd)(hp:pendingOf st=#[])(hf:failedOf st=none)
  {Q:Unit->SortSt->Prop} (hq: ∀st',Xg (arrOf st) lt st'->Q () st'):wpS M A E s sortRuns' Q st:=by
 rw[FW];unfold Vh;refine wpS_bind (wpS_get ?_);rw[Ac h2 h64];refine wpS_bind (Ad C hD d h2 ⟨Array.Perm.refl _,hk,hf,hp,λ_ hi=>by omega⟩ λst1 hC=>?_);dsimp only;refine wpS_bind (Ae h2 hC λst2 hd=>?_);exact wpS_pure (hq st2 hd)
end
end Srt
set_option autoImplicit false
set_option autoImplicit false
namespace Srt
open PySem PyProof.Rows
abbrev Rn:=Nat×Nat×Nat
def RunsOk(lt:Keyed->Keyed->Bool)(l:List Keyed):Nat->List Rn->Nat->Prop
 |p,[],q=>p=q
 |p,r::rs,q=>r.1=p/\1<=r.2.1/\SL lt l p r.2.1/\RunsOk lt l (p+r.2.1) rs q
section
variable{lt:Keyed->Keyed->Bool}{l:List Keyed}
theorem RunsOk.le: ∀{rs:List Rn}{p q:Nat},RunsOk lt l p rs q->p+rs.length<=q
 |[],p,q,h=>by cases h;exact Nat.le_refl _
 |r::rs,p,q,h=>by have:=RunsOk.le h.2.2.2;have:=h.2.1;rw[lC];omega
end
section
variable{kd:SortKind}{lt:Keyed->Keyed->Bool}{a₀:V}{st:SortSt}
structure ST(a₀:V)(kd:SortKind)(lt:Keyed->Keyed->Bool)(rs:List Rn)(q:Nat)(st:SortSt):Prop where
 pm:(arrOf st).toList.Perm a₀.toList
 kind:kindOf st=kd
 fl:failedOf st=none
 pd:pendingOf st=rs.toArray
 ok:RunsOk lt (arrOf st).toList 0 rs q
 le:q<=a₀.size
def ST.size{rs:List Rn}{q:Nat}(h:ST a₀ kd lt rs q st):(arrOf st).size=a₀.size:=by have:=h.pm.length_eq;simpa using this
end
end Srt
set_option autoImplicit false
namespace Srt
open PySem PyProof.Rows
def kStep(a f:Addr)(its:Xk)(ks x:Value):Sem (ForInStep PUnit):=(call (.ref f) [x]).attempt >>= λr=>match r with
 |.ok k=>Builtin.List.listUpdate ks (λv=>v.push k) >>= λ_=>pure (.yield ⟨⟩)
 |.error e=>do
  rule "list.sort.key-raised"
  let m <-Builtin.List.listItems ks
  Builtin.List.listUpdate ks λ_=>#[]
  letGo m.toList.reverse [e]
  Builtin.List.listUpdate (.ref a) λ_=>its
  let _:PUnit <-throw e
  pure (.yield ⟨⟩)
section
variable{prog:Program}{w:World}{A:Around}{E:VP}
structure Kd(prog:Program)(w:World)(A:Around)(E:VP)(a KS:Addr)(e1:Nat)(vs:Xj)(P:PySem.Fin->Shared->Prop)(s2:Shared):Prop where
 go: ∃(keys:Xj)(n:Nat)(kd:SortKind)(D:Keyed->Prop)(lt:Keyed->Keyed->Bool),s2.heap.get? a=some (seqObj "list" #[] e1)/\s2.heap.get? KS=some (seqObj "list" keys.toArray n)/\keys.length=vs.length/\
  (2<=vs.length->wpAny (model prog w) A (keyKind' keys.toArray) (λk s'=>s'=s2/\k=kd) E s2/\Cmp (model prog w) A E s2 kd D lt/\ ∀p,p∈keys.zip vs->D p)/\
  ∀out:List Keyed,out.Perm (keys.zip vs)->out.Pairwise (Le lt)->P (.done (.ret .none)) {s2 with heap:=(s2.heap.update KS (Obj.mapSeq λ_=>#[])).update a (Obj.mapSeq λ_=>(out.map (·.2)).toArray)}
end
end Srt
set_option autoImplicit false
namespace Srt
open PySem PyProof.Rows
section
variable{prog:Program}{w:World}{A:Around}{E:VP}{s:Shared}
def sort_keyedS{a f:Addr}{vs:Xj}{n0:Nat}{P:PySem.Fin->Shared->Prop}(ho:s.heap.get? a=some (seqObj "list" vs.toArray n0))(hl:vs.length<64)
  (hk: ∀e1,(s.heap.update a (Obj.mapSeq λ_=>#[])).get? a=some (seqObj "list" #[] e1)->wpAny (model prog w) A (forIn vs PUnit.unit λx _=>kStep a f vs.toArray (.ref (s.heap.objs.size+1)) x)
   (λ_ s2=>a≠s.heap.objs.size+1->Kd prog w A E a (s.heap.objs.size+1) e1 vs P s2) E {s with heap:=((s.heap.update a (Obj.mapSeq λ_=>#[])).push (seqObj "tuple" vs.toArray 0)).push (seqObj "list" #[] 0)}):
  wpAny (model prog w) A (Builtin.«list.sort» ⟨[.ref a],[("key",.ref f)]⟩) P E s:=by
 unfold Builtin.«list.sort»;dsimp only;rw[iN (by simp),iN (by simp)];have e1:List.lookup (Str.ofString "key") [(Str.ofString "key",Value.ref f)]=some (.ref f):=by simp[List.lookup]
 have e2:List.lookup (Str.ofString "reverse") [(Str.ofString "key",Value.ref f)]=none:=by
  have:(Str.ofString "reverse"==Str.ofString "key")=false:=by decide+kernel
  simp[List.lookup,this]
 rw[forIn_cons,e1,e2];refine wB (wB ?_);dsimp only;rw[iN (by simp)];refine wP ?_;dsimp only;rw[forIn_nil];refine wP ?_;refine wB (wP ?_);have ha:a<s.heap.objs.size:=Heap.lt_size ho;refine wB (listItems_at ho rfl ?_);refine wB (listUpdate_at ho rfl ?_);obtain⟨q,hq⟩: ∃q,(s.heap.update a (Obj.mapSeq λ_=>#[])).get? a=some (seqObj "list" #[] q):=⟨_,get?_update_seq ho (λ_=>#[])⟩
 dsimp only;refine wB (seqEpoch_at hq rfl ?_);refine wB (wpAny_newTuple ?_);refine wB (wpAny_newList ?_);refine wpAny_holding ?_;rw[iP (by rfl)];refine wB (wpAny_rule ?_);have hsz:((s.heap.update a (Obj.mapSeq λ_=>#[])).push (seqObj "tuple" vs.toArray 0)).objs.size=s.heap.objs.size+1:=by rw[size_push',Heap.size_update]
 dsimp only;rw[hsz,forIn_toArray];refine wB (wpAny_mono (hk q hq) (λu s2 h2=>?_) λ_ _ e=>e);obtain⟨keys,n,kd,D,lt,g1,g2,g3,g4,g5⟩:=(h2 (Nat.ne_of_lt (Nat.lt_succ_of_lt ha))).go;have hne:a≠s.heap.objs.size+1:=Nat.ne_of_lt (Nat.lt_succ_of_lt ha);rw[iP (by rfl)];refine wB (listItems_at g2 rfl ?_);rw[iN (by simp)]
 have fin: ∀st:SortSt,failedOf st=none->(arrOf st).toList.Perm (keys.zip vs)->(arrOf st).toList.Pairwise (Le lt)->
   wpAny (model prog w) A (do
    Builtin.List.listUpdate (.ref (s.heap.objs.size+1)) λ_=>#[]
    letGo ((arrOf st).map (·.1)).toList (failedOf st).toList
    let e <-seqEpoch a
    Builtin.List.listUpdate (.ref a) λ_=>(arrOf st).map (·.2)
    if(e !=q)=true then rule "list.sort.modified" >>= λ_=>raiseErrorWords "ValueError" "list modified during sort" >>= λ(_:Unit)=>ret .none else ret .none) P E s2:=by
  intro st hf hp hs;refine wB (listUpdate_at g2 rfl ?_ (by rw[sA,g3];have:=sizeLine_eq;omega));refine wB (wpAny_letGo ?_);have g1':(s2.heap.update (s.heap.objs.size+1) (Obj.mapSeq λ_=>#[])).get? a=some (seqObj "list" #[] q):=by rw[Heap.get?_update_other _ _ (Ne.symm hne)];exact g1
  refine wB (seqEpoch_at g1' rfl ?_);have hlen:((arrOf st).map (·.2)).size<=sizeLine+1:=by rw[Array.size_map, <-Array.length_toList,hp.length_eq,length_zip,g3];have:=sizeLine_eq;omega
  refine wB (listUpdate_at g1' rfl ?_ (hsz2:=hlen));rw[iN (by simp)];have e3:(arrOf st).map (·.2)=((arrOf st).toList.map (·.2)).toArray:=by rw[<-Array.toList_map]
  rw[e3];exact wP (g5 _ hp hs)
 by_cases h2':vs.toArray.size<2
 .rw[iP h2',iP h2'];refine wB (wP ?_);rw[StateT.run_pure];refine wB (wP ?_);rw[iP (by rfl)];have hz:(keys.zip vs).length<=1:=by rw[length_zip,g3];simp at h2';omega
  refine fin (SortSt.mk' general' (keys.toArray.zip vs.toArray) #[] 7 none) rfl ?_ ?_
  .show(keys.toArray.zip vs.toArray).toList.Perm _;simp
  .show(keys.toArray.zip vs.toArray).toList.Pairwise _;have:(keys.toArray.zip vs.toArray).toList=keys.zip vs:=by simp
   rw[this]
   match keys.zip vs,hz with
   |[],_=>exact .nil
   |[x],_=>exact List.pairwise_singleton _ _
   |x::y::r,h=>simp at h
 .rw[iN h2',iN h2'];obtain⟨k1,k2,k3⟩:=g4 (by simp at h2';omega);refine wB (wpAny_mono k1 (λk s' hk'=>?_) λ_ _ e=>e);obtain⟨rfl,rfl⟩:=hk';have za:(arrOf (SortSt.mk' k (keys.toArray.zip vs.toArray) #[] 7 none)).toList=keys.zip vs:=by show(keys.toArray.zip vs.toArray).toList=_;simp
  have zs:(arrOf (SortSt.mk' k (keys.toArray.zip vs.toArray) #[] 7 none)).size=vs.length:=by rw[<-Array.length_toList,za,length_zip,g3,Nat.min_self]
  refine wB (wpAny_mono (JR (st:=SortSt.mk' k (keys.toArray.zip vs.toArray) #[] 7 none) k2 (λp hp=>k3 p (by rw[za]at hp;exact hp)) (.none,.none) (by rw[zs];simp at h2';omega) (by rw[zs];exact hl) rfl rfl rfl
   (Q:=λ_ st'=>Xg (arrOf (SortSt.mk' k (keys.toArray.zip vs.toArray) #[] 7 none)) lt st') λst' h=>h) (λr s3 hr=>?_) λ_ _ e=>e)
  obtain⟨⟨⟩,st'⟩:=r;obtain⟨rfl,d1,d2,d3⟩:=hr;dsimp only;rw[iP (by rfl)];have F:=fin st' d2 (by rw[<-za];exact d1) d3;have d4:failedOf st'=none:=d2;unfold failedOf at d4;simp only[failedOf]at F;rw[d4]at F ⊢;exact F
end
end Srt
set_option autoImplicit false
namespace Srt
open PySem PyProof.Rows
section
variable{A:Around}{E:VP}{s:Shared}
def Hn{α β:Type}{f:α->Sem β}{g:α->β}{M:Model}(l:List α)(h: ∀x,x∈l->wpAny M A (f x) (λr s'=>s'=s/\r=g x) E s):wpAny M A (l.mapM f) (λr s'=>s'=s/\r=l.map g) E s:=by
 induction l with
 |nil=>rw[List.mapM_nil];exact wP ⟨rfl,rfl⟩
 |cons x l ih=>
  rw[List.mapM_cons];refine wB (wpAny_mono (h x mF0) (λr s' hr=>?_) λ_ _ e=>e);rw[hr.1,hr.2];refine wB (wpAny_mono (ih λy hy=>h y (mO _ hy)) (λr s' hr=>?_) λ_ _ e=>e);rw[hr.1,hr.2];exact wP ⟨rfl,rfl⟩
def wp_mapMA{α β:Type}{f:α->Sem β}{g:α->β}{M:Model}{l:List α}(h: ∀x,x∈l->wpAny M A (f x) (λr s'=>s'=s/\r=g x) E s):wpAny M A (l.toArray.mapM f) (λr s'=>s'=s/\r=(l.map g).toArray) E s:=by rw[List.mapM_toArray];show wpAny M A (List.toArray<$>l.mapM f) _ E s;rw[map_eq_pure_bind];refine wB (wpAny_mono (Hn l h) (λr s' hr=>?_) λ_ _ e=>e);obtain⟨rfl,rfl⟩:=hr;exact wP ⟨rfl,rfl⟩
def TupAt(h:Heap)(a:Addr)(its:Xj):Prop:= ∃o n,h.get? a=some o/\o.cls=.type "tuple"/\o.data=.seq its.toArray n
theorem firstOfTuple'_eq(v:Value):firstOfTuple' v=(do
  if(<-typeOf v) !=.type "tuple" then return none
  return (<-Builtin.List.listItems v)[0]?):=rfl
def NH{M:Model}{a:Addr}{its:Xj}(h:TupAt s.heap a its):wpAny M A (firstOfTuple' (.ref a)) (λr s'=>s'=s/\r=its[0]?) E s:=by obtain⟨o,n,h1,h2,h3⟩:=h;rw[firstOfTuple'_eq];refine wB (wpAny_typeOf (T:="tuple") ⟨o,h1,h2⟩ ?_);rw[iN (by simp)];refine wB (listItems_at h1 h3 ?_);exact wP ⟨rfl,by simp⟩
def DY{M:Model}{l:Xj}(hl:l≠[])(h: ∀x,x∈l-> ∃a its,x=.ref a/\TupAt s.heap a its):wpAny M A (oneTypeOnly' l.toArray) (λr s'=>s'=s/\r=some (.type "tuple")) E s:=by
 rw[oneTypeOnly'_eq];refine wB (wpAny_mono (wp_mapMA (g:=λ_=>Value.type "tuple") λx hx=>?_) (λr s' hr=>?_) λ_ _ e=>e)
 .obtain⟨a,its,rfl,o,n,h1,h2,h3⟩:=h x hx;exact wpAny_typeOf (T:="tuple") ⟨o,h1,h2⟩ ⟨rfl,rfl⟩
 .obtain⟨rfl,rfl⟩:=hr
  match l,hl with
  |x::l,_=>
   have h0:(List.map (λ_=>Value.type "tuple") (x::l)).toArray[0]? =some (Value.type "tuple"):=by simp
   have hall:((List.map (λ_=>Value.type "tuple") (x::l)).toArray.all λx=>x==Value.type "tuple")=true:=by simp only[all_toArray,all_map,List.all_eq_true];intro _ _;rfl
   rw[h0];dsimp only;rw[hall];exact wP ⟨rfl,rfl⟩
def wp_kindT{M:Model}{keys:Xj}(hl:keys≠[])(h: ∀x,x∈keys-> ∃a its b r jts,x=.ref a/\TupAt s.heap a its/\its=.ref b::r/\TupAt s.heap b jts):
  wpAny M A (keyKind' keys.toArray) (λk s'=>s'=s/\k=tuples' false) E s:=by
 rw[keyKind'_eq]
 have hg: ∀x, ∃y:Option Value,x∈keys->(∃b jts,y=some (.ref b)/\TupAt s.heap b jts)/\ ∀M:Model,wpAny M A (firstOfTuple' x) (λr s'=>s'=s/\r=y) E s:=by
  intro x;by_cases hx:x∈keys
  .obtain⟨a,its,b,r,jts,rfl,h1,rfl,h2⟩:=h x hx;exact⟨some (.ref b),λ_=>⟨⟨b,jts,rfl,h2⟩,λM=>NH h1⟩⟩
  .exact⟨none,λz=>absurd z hx⟩
 let g:=λx=>Classical.choose (hg x);have gs: ∀x,x∈keys->(∃b jts,g x=some (.ref b)/\TupAt s.heap b jts)/\ ∀M:Model,wpAny M A (firstOfTuple' x) (λr s'=>s'=s/\r=g x) E s:=λx hx=>Classical.choose_spec (hg x) hx;refine wB (wpAny_mono (wp_mapMA (g:=g) λx hx=>(gs x hx).2 M) (λr s' hr=>?_) λ_ _ e=>e);obtain⟨rfl,rfl⟩:=hr;rw[iP (by simp only[all_toArray,all_map,List.all_eq_true];intro x hx;obtain⟨⟨b,jts,e,_⟩,_⟩:=gs x hx;show(g x).isSome=true;rw[e];rfl)];refine wB (wpAny_rule ?_);have ef:(keys.map g).toArray.filterMap id=((keys.map g).filterMap id).toArray:=by simp
 rw[ef];refine wB (wpAny_mono (DY (l:=(keys.map g).filterMap id) ?_ ?_) (λr s' hr=>?_) λ_ _ e=>e)
 .match keys,hl,gs with
  |x::l,_,gs=>
   obtain⟨⟨b,jts,e,_⟩,_⟩:=gs x mF0;rw[List.map_cons,e];simp
 .intro x hx;obtain⟨y,hy,e⟩:=mem_filterMap.mp hx;obtain⟨z,hz,e'⟩:=mM.mp hy;obtain⟨⟨b,jts,e2,t⟩,_⟩:=gs z hz;have:some x=some (Value.ref b):=by rw[<-e2,e'];exact e.symm
  cases this;exact⟨b,jts,rfl,t⟩
 .obtain⟨rfl,rfl⟩:=hr;refine wP ⟨rfl,?_⟩;have:((some (Value.type "tuple")).any λx=>x !=Value.type "tuple")=false:=by rfl
  rw[this]
def wp_kindE{M:Model}{keys:Xj}(hl:keys≠[])(h: ∀x,x∈keys-> ∃a,x=.ref a/\TupAt s.heap a []):
  wpAny M A (keyKind' keys.toArray) (λk s'=>s'=s/\k=oneType') E s:=by
 rw[keyKind'_eq];refine wB (wpAny_mono (wp_mapMA (g:=λ_=>(none:Option Value)) λx hx=>?_) (λr s' hr=>?_) λ_ _ e=>e)
 .obtain⟨a,rfl,t⟩:=h x hx;exact NH t
 .obtain⟨rfl,rfl⟩:=hr
  match keys,hl,h with
  |x::l,hl,h=>
   rw[iN (by simp),iN (by simp)];refine wB (wpAny_mono (DY hl λx hx=>let ⟨a,e,t⟩:=h x hx;⟨a,[],e,t⟩) (λr s' hr=>?_) λ_ _ e=>e);obtain⟨rfl,rfl⟩:=hr;exact wP ⟨rfl,rfl⟩
end
end Srt
set_option autoImplicit false
namespace Srt
open PySem PyProof.Rows
inductive LexS(A:Around)(s:Shared):List Value->List Value->Bool->Prop
 |nn:LexS A s [] [] false
 |nc (x xs):LexS A s [] (x::xs) true
 |cn (y ys):LexS A s (y::ys) [] false
 |eq {y x ys xs k}:SeqAt.EqAt A s y x true->LexS A s ys xs k->LexS A s (y::ys) (x::xs) k
 |ne {y x ys xs k}:SeqAt.EqAt A s y x false->(∀(prog:Program)(w:World)(E Q:VP),Q (.bool k) s->wpAny (model prog w) A (richCompare .Lt y x) Q E s)->LexS A s (y::ys) (x::xs) k
section
variable{prog:Program}{w:World}{A:Around}{E:VP}{s:Shared}
theorem Qj(c:Bool)(x y:Value):keyLt' (tuples' c) x y=(Builtin.List.listItems x >>= λxs=>Builtin.List.listItems y >>= λys=>
  (forIn (xs.toList.zip ys.toList).zipIdx ((none,()):Option Bool×Unit) λz _=>eqBool z.1.1 z.1.2 >>= λe=>if(!e)=true then oneLt' (c&&z.2==0) z.1.1 z.1.2 >>= λr=>pure (.done (some r,()))else pure (.yield (none,()))) >>= λr=>
  match r.1 with
  |some r=>pure r
  |none=>pure (decide (xs.size<ys.size))):=by kernel_rfl
theorem Qk(x y:Value):oneLt' false x y=richCompare .Lt x y >>= λv=>truthOfDropped v:=by rw[oneLt'_eq];rfl
def QU{b:Bool}{Q:Bool->Shared->Prop}(h:Q b s):wpAny (model prog w) A (truthOfDropped (.bool b)) Q E s:=wpAny_truthy_bool h
def Ho{m n:Nat}{k:Bool}(vs ws:Xj)(i:Nat)(hx:LexS A s vs ws k):vs.length+n=ws.length+m->
   wpAny (model prog w) A (forIn ((vs.zip ws).zipIdx i) ((none,()):Option Bool×Unit) λz _=>eqBool z.1.1 z.1.2 >>= λe=>if(!e)=true then oneLt' (false&&z.2==0) z.1.1 z.1.2 >>= λr=>pure (.done (some r,()))else pure (.yield (none,())))
    (λr s'=>s'=s/\(r=(some k,())\/(r=(none,())/\k=decide (m<n)))) E s:=by
 induction hx generalizing i with
 |nn=>intro h;rw[zip_nil_left,zipIdx_nil,forIn_nil];exact wP ⟨rfl,.inr ⟨rfl,(dF0 (by simp at h;omega)).symm⟩⟩
 |nc x xs=>intro h;rw[zip_nil_left,zipIdx_nil,forIn_nil];exact wP ⟨rfl,.inr ⟨rfl,(dT0 (by simp at h;omega)).symm⟩⟩
 |cn y ys=>intro h;rw[List.zip_nil_right,zipIdx_nil,forIn_nil];exact wP ⟨rfl,.inr ⟨rfl,(dF0 (by simp at h;omega)).symm⟩⟩
 |eq he hr ih=>
  intro h;rw[zip_cons_cons,zipIdx_cons,forIn_cons];refine wB (wB (he prog w E _ ?_));rw[iN (by simp)];exact wP (ih (i+1) (by simpa using(by simp at h;omega)))
 |ne he hr=>
  intro h;rw[zip_cons_cons,zipIdx_cons,forIn_cons];refine wB (wB (he prog w E _ ?_));rw[iP (by simp)];simp only[Bool.false_and];rw[Qk];refine wB (wB (hr prog w E _ (QU ?_)));exact wP (wP ⟨rfl,.inl rfl⟩)
def wp_keyLtT{l b:Addr}{its its2:Xj}{k:Bool}{Q:Bool->Shared->Prop}(hl:TupAt s.heap l its)(hb:TupAt s.heap b its2)(hx:LexS A s its its2 k)(hq:Q k s):
  wpAny (model prog w) A (keyLt' (tuples' false) (.ref l) (.ref b)) Q E s:=by
 obtain⟨o1,n1,a1,_,a3⟩:=hl;obtain⟨o2,n2,b1,_,b3⟩:=hb;rw[Qj];refine wB (listItems_at a1 a3 (wB (listItems_at b1 b3 ?_)));simp only[sA];refine wB (wpAny_mono (Ho its its2 0 hx (m:=its.length) (n:=its2.length) #[0]) (λr s' h=>?_) λ_ _ e=>e);obtain⟨rfl,rfl|⟨rfl,e⟩⟩:=h
 .exact wP hq
 .dsimp only;rw[<-e];exact wP hq
def wp_lt{kd:SortKind}{x y:Keyed}{k:Bool}{st:SortSt}(hk:kindOf st=kd)(h: ∀(E:VP)(Q:Bool->Shared->Prop),Q k s->wpAny (model prog w) A (keyLt' kd x.1 y.1) Q E s){Q:Option Bool->SortSt->Prop}(hq:Q (some k) st):
  wpS (model prog w) A E s (lt' x y) Q st:=by
 rw[lt'_eq];refine wpS_bind (wpS_get ?_);rw[hk];refine wpS_bind (wpS_lift (wpAny_attempt (h _ _ ⟨rfl,?_⟩)));exact wpS_pure hq
end
end Srt
set_option autoImplicit false
set_option autoImplicit false
set_option autoImplicit false
set_option autoImplicit false
set_option autoImplicit false
set_option autoImplicit false
namespace L2
namespace M
open PySem PySem.Spec PyProof.Rows
mutual
def bQ:MV->Bool
 |.int _=>true
 |.str _=>true
 |.tup ds=>tX ds
 |_=>false
def tX:List MV->Bool
 |[]=>true
 |d::ds=>bQ d&&tX ds
end
def HF{α β:Type}{g:α->β}{p m:List β}(h:p.Perm m): ∀l:List α,l.map g=p-> ∃l':List α,l'.Perm l/\l'.map g=m:=by
 induction h with
 |nil=>intro l e;exact⟨l,.refl _,e⟩
 |cons x _ ih=>
  intro l e
  cases l with
  |nil=>cases e
  |cons a l=>
   rw[List.map_cons]at e;injection e with e1 e2
   obtain⟨l',p',q'⟩:=ih l e2;exact⟨a::l',p'.cons a,by rw[List.map_cons,e1,q']⟩
 |swap x y t=>
  intro l e
  match l,e with
  |a::b::l,e=>
   rw[List.map_cons,List.map_cons]at e;injection e with e1 e2
   injection e2 with e2 e3
   exact⟨b::a::l,.swap _ _ _,by rw[List.map_cons,List.map_cons,e1,e2,e3]⟩
 |trans _ _ ih1 ih2=>
  intro l e;obtain⟨l1,p1,q1⟩:=ih1 l e;obtain⟨l2,p2,q2⟩:=ih2 l1 q1;exact⟨l2,p2.trans p1,q2⟩
section
variable{X:Cx}{α:Ya}{S:Sto}{H:Hp}{pins:Ye}{σ:St}{s:Shared}
mutual
theorem TB(I:Inv X pins σ H s): ∀{d d':MV}{v:V},bQ d=true->bQ d'=true->Den X.K α H d v->Den X.K α H d' v->d=d'
 |.int i,d',v,_,h',q,q'=>by
  cases xM q
  cases d' with
  |int j=>cases xM q';rfl
  |str x=>cases xN q'
  |tup ds=>obtain⟨a,vs,e,_⟩:=yN q';cases e
  |_=>simp[bQ]at h'
 |.str x,d',v,_,h',q,q'=>by
  have e:=xN q
  cases d' with
  |int j=>rw[xM q']at e;cases e
  |str y=>rw[xN q']at e;injection e with e;rw[tH e]
  |tup ds=>obtain⟨a,vs,e',_⟩:=yN q';rw[e']at e;cases e
  |_=>simp[bQ]at h'
 |.tup ds,d',v,h,h',q,q'=>by
  obtain⟨a,vs,e,t,l⟩:=yN q
  cases d' with
  |int j=>rw[xM q']at e;cases e
  |str y=>rw[xN q']at e;cases e
  |tup es=>
   obtain⟨a',vs',e',t',l'⟩:=yN q';rw[e]at e';cases e';have:=I.tuple_inj t t';subst this;rw[DZ I (by unfold bQ at h;exact h) (by unfold bQ at h';exact h') l l']
  |_=>simp[bQ]at h'
theorem DZ(I:Inv X pins σ H s): ∀{ds es:Za}{vs:List V},tX ds=true->tX es=true->DenL X.K α H ds vs->DenL X.K α H es vs->ds=es
 |[],[],_,_,_,_,_=>rfl
 |[],e::es,_,_,_,q,q'=>by obtain⟨v,r,e,_⟩:=q'.uncons;rw[q.isnil]at e;cases e
 |d::ds,[],_,_,_,q,q'=>by obtain⟨v,r,e,_⟩:=q.uncons;rw[q'.isnil]at e;cases e
 |d::ds,e::es,_,h,h',q,q'=>by obtain⟨v,r,rfl,a,l⟩:=q.uncons;obtain⟨v',r',e',a',l'⟩:=q'.uncons;cases e';unfold tX at h h';rw[aE]at h h';rw[TB I h.1 h'.1 a a',DZ I h.2 h'.2 l l']
end
def Vi{A:Around}{xs ys:Xj}{k:Bool}(h:LexR A s xs ys k):Srt.LexS A s xs ys k:=by
 induction h with
 |nn=>exact .nn
 |nc x xs=>exact .nc x xs
 |cn x xs=>exact .cn x xs
 |eq a _ ih=>exact .eq a ih
 |ne a b=>exact .ne a b
inductive KindD:Bool->MV->Prop
 |t (es r):KindD true (.tup (.tup es::r))
 |e:KindD false (.tup [])
abbrev Af(b:Bool):SortKind:=if b=true then tuples' false else oneType'
def sU(I:Inv X pins σ H s){ds:Za}{x:V}{u:Value}(d:Den X.K α H (.tup ds) x)(r:RelV x u): ∃a vs its,u=.ref a/\DenL X.K α H ds vs/\Vals vs its/\Srt.TupAt s.heap a its/\IsTup s.heap a its.toArray:=by obtain⟨a,vs,rfl,t,l⟩:=yN d;cases r;obtain⟨its,r1,pt,_⟩:=I.tuple t;obtain⟨o,h1,h2,n,h3⟩:=id pt;exact⟨a,vs,its,rfl,l,r1,⟨o,n,h1,h2,h3⟩,pt⟩
def Hq(I:Inv X pins σ H s)(wd:Wd X.g α S H){A:Around}(hu:A.units+64<cLine){b:Bool}{d f:MV}{x y:V}{u v:Value}{k:Bool}(kd:KindD b d)(kf:KindD b f)(h1:Den X.K α H d x)(h2:Den X.K α H f y)(rx:RelV x u)(ry:RelV y v)
  (h:uX S zG d f=some k) (prog:Program) (w:World) (E:VP) (Q:Bool->Shared->Prop) (hq:Q k s):wpAny (model prog w) A (keyLt' (Af b) u v) Q E s:=by
 cases kd with
 |t es r=>
  cases kf with
  |t es' r'=>
   obtain⟨a1,vs1,its1,rfl,l1,v1,t1,_⟩:=sU I h1 rx;obtain⟨a2,vs2,its2,rfl,l2,v2,t2,_⟩:=sU I h2 ry;have h':tO (eqv S 39) (uX S 39) (.tup es::r) (.tup es'::r')=some k:=h
   refine Srt.wp_keyLtT t1 t2 (Vi (SJ (λd f x y u v k a b c d' e=>vF I wd 39 A d f x y u v k #[0] a b c d' e)
    (λd f x y u v k a b c d' e=>JC I wd 39 A d f x y u v k #[0] a b c d' e) l1 l2 v1 v2 h')) hq
 |e=>
  cases kf;obtain⟨a1,vs1,its1,rfl,l1,v1,t1,p1⟩:=sU I h1 rx;obtain⟨a2,vs2,its2,rfl,l2,v2,t2,p2⟩:=sU I h2 ry;cases l1.isnil;cases l2.isnil;cases v1;cases v2;have hk:k=false:=by have h':(some false:Option Bool)=some k:=h;cases h';rfl
  subst hk;show wpAny (model prog w) A (keyLt' oneType' _ _) Q E s;rw[keyLt'_oneType,oneLt'_eq];simp only[if_true];obtain⟨⟨cls,dd,data,sl⟩,ho,hc,n,hd⟩:=id p1;obtain⟨⟨cls2,dd2,data2,sl2⟩,ho2,hc2,n2,hd2⟩:=id p2;simp only at hc hd hc2 hd2;subst hc hd hc2 hd2;refine wB (wpAny_cRoomFor #[0] ?_);refine wB (wpAny_callSpecialIfBound?_slot ⟨_,ho,rfl⟩ PySem.F.slot_tuple_lt (call_meets PySem.F.slot_tuple_lt ⟨_,ho,rfl⟩ PySem.F.entry_tuple_lt (PySem.F.args_tuple_lt_2 _ _) (DQ a1 a2 _ _ n n2 dd dd2 sl sl2 false) ⟨ho,ho2,.nn,?_⟩));exact wpAny_truthy_bool hq
end
structure OrdD(S:Sto)(ks:Za):Prop where
 any: ∀a,a∈ks-> ∀b,b∈ks-> ∃t,uX S zG a b=some t
 tr: ∀a,a∈ks-> ∀b,b∈ks-> ∀c,c∈ks->uX S zG b a=some false->uX S zG c b=some false->uX S zG c a=some false
 as: ∀a,a∈ks-> ∀b,b∈ks->uX S zG a b=some true->uX S zG b a=some false
theorem JS(a f:Value):argsOk "sorted" ⟨[a],[("key",f)]⟩:=by unfold argsOk;kernel_rfl
theorem QV(a f:Value):argsOk "list.sort" ⟨[a],[("key",f)]⟩:=by unfold argsOk;kernel_rfl
section
variable{X:Cx}{α:Ya}{S:Sto}{H:Hp}{pins:Ye}{σ:St}{s:Shared}{k:Nat}{fa:Addr}{fd:FuncData}{ps:Yb}
def Hr{sp:Sp}{Q:VK}{us:Xj}{vs:List V}{E':VP}(F:FnOk X.prog X.w X.K X.mg X.base CZ k fa fd ps sp)(hr:Room (k+2) X.A)(hb:Binds X.K fd ps [])
  (I:Inv X pins σ H s) (r:Vals vs us) (h:sp vs H Q E0):wpAny (model X.prog X.w) X.A.in1.in1 (call (.ref fa) us) (EP X pins σ Q) E' s:=by
 have hl:(us++[]).length=ps.length:=by rw[aN, <-r.length];exact F.len _ _ _ _ h
 have b:=hb s us I.kIn hl;rw[aN]at b;refine wpAny_call (codeAny_mono (F.run X.A.in1.in1 X.stack s H ⟨us,[]⟩ us vs Q E0 hr.in1.in1 I.env0.in1.in1 b r h) λr s' hq=>?_)
 cases r with
 |error e=>exact False.elim hq
 |ok fl=>
  cases fl with
  |ret u=>exact I.after hq
  |next=>exact False.elim hq
  |brk=>exact False.elim hq
  |cont=>exact False.elim hq
def Ql{g:Gm}{α α':Ya}{S:Sto}{H H':Hp}(w:Wd g α S H)(x:Ext α H α' H')(w':Wd g α' S H'):α'=α:=by obtain⟨t,e⟩:=x.pre;have h1:=w.len;have h2:=w'.len;rw[e,lA]at h2;have:t=[]:=List.length_eq_zero_iff.mp #[0];rw[e,this,aN]
end
section
variable{X:Cx}{α:Ya}{H:Hp}{pins:Ye}{σ:St}{s:Shared}{ps:Yb}
def WD{e:Addr}{ys:List V}{its:Xj}{n:Nat}(J:Inv X pins σ H s)(f:pN X pins H e)(h0:X.s₀.heap.objs.size<=e)(he:s.heap.get? e=some (seqObj "list" its.toArray n))(hv:Vals ys its)(hz:ys.length<=sizeLine):Inv X pins σ (xH H e (.lst ys)) s:=by
 have s0: ∀o,X.s₀.heap.get? e≠some o:=λo z=>absurd (Nat.lt_of_lt_of_le (Heap.lt_size z) h0) (lt_irrefl _);refine⟨J.ok,J.os,J.bare,⟨J.base.keep,J.base.slot,λb ob' q n hx=>?_,J.base.there,λb xs q=>?_,λb o' u q=>?_,λb ps q=>?_⟩,J.loc,J.cell,?_,λx c hc=>?_,λp hp=>?_,λb u q=>?_,J.len⟩
 .rw[zH λz=>s0 ob' (by rw[<-z];exact q)];exact J.base.free b ob' q n hx
 .rw[zH (zP (J.base.tups b xs q) f.1)];exact J.base.tups b xs q
 .rw[zH (zP (J.base.frzs b o' u q) f.1)];exact J.base.frzs b o' u q
 .obtain⟨mo,z⟩:=J.base.tbls b ps q;exact⟨mo,by rw[zH (zP z f.1)];exact z⟩
 .rw[zH (Ne.symm f.2.1)];exact J.free
 .rw[zH (f.2.2.2.2.1 x c hc)];exact J.freeC x c hc
 .obtain⟨e1,n,ne,nf,dd⟩:=J.pin p hp;exact⟨e1,by rw[zH (f.2.2.2.2.2 p hp)];exact n,ne,nf,dd⟩
 .by_cases z:b=e
  .subst z;rw[zS]at q;cases q;exact⟨hz,its,n,hv,he⟩
  .rw[zH z]at q;exact(J.hok b u q).stay (λ_ _ _ r=>r) (λc r=>by rw[zH (zP r f.1)];exact r) λc xs r=>by rw[zH (zP r f.1)];exact r
def Qm(I:Inv X pins σ H s){A:Around}{kds:Za}{kvs:List V}{ks:Xj}(hne:kds≠[]){b:Bool}(hkind: ∀d,d∈kds->KindD b d)(dk:DenL X.K α H kds kvs)(vk:Vals kvs ks){E':VP}:
  wpAny (model X.prog X.w) A (keyKind' ks.toArray) (λq s'=>s'=s/\q=Af b) E' s:=by
 have ne:ks≠[]:=λz=>by have h1:=vk.length;have h2:=dk.length;rw[z]at h1;exact hne (List.length_eq_zero_iff.mp (by rw[<-h2,h1];rfl))
 have all: ∀u,u∈ks-> ∃d v,d∈kds/\Den X.K α H d v/\RelV v u:=by
  intro u hu;obtain⟨i,hi⟩:=getElem?_of_mem hu;have hl:i<kvs.length:=by rw[vk.length];exact(gS.mp hi).1
  obtain⟨u',h1,r⟩:=vk.get (gE hl);rw[hi]at h1;cases h1;obtain⟨d,h2,h3⟩:=dk.get (gE hl);exact⟨d,_,mem_of_getElem? h2,h3,r⟩
 cases b with
 |true=>
  refine Srt.wp_kindT ne λu hu=>?_;obtain⟨d,v,md,dd,r⟩:=all u hu
  cases hkind d md with
  |t es rr=>
   obtain⟨a,vs,its,rfl,l,vv,t,_⟩:=sU I dd r;obtain⟨v1,r1,rfl,d1,_⟩:=l.uncons
   cases vv with
   |@cons _ u1 _ us1 rv rr'=>
    obtain⟨a2,_,its2,rfl,_,_,t2,_⟩:=sU I d1 rv;exact⟨a,_,a2,us1,its2,rfl,t,rfl,t2⟩
 |false=>
  refine Srt.wp_kindE ne λu hu=>?_;obtain⟨d,v,md,dd,r⟩:=all u hu;cases hkind d md;obtain⟨a,vs,its,rfl,l,vv,t,_⟩:=sU I dd r;cases l.isnil;cases vv;exact⟨a,rfl,t⟩
end
theorem WF{ks its:Xj}{N:Nat}(h1:ks.length=N)(h2:its.length=N):(List.range N).map (λi=>((ks[i]?).getD .none,(its[i]?).getD .none))=ks.zip its:=by
 apply ext_getElem?;intro i;rw[getElem?_map];by_cases hi:i<N
 .have e:(ks.zip its)[i]? =some (ks[i]'#[0],its[i]'#[0]):=by rw[List.getElem?_zip_eq_some];exact⟨gE _,gE _⟩
  rw[List.getElem?_range hi,e];show some ((ks[i]?).getD .none,(its[i]?).getD .none)=_;rw[gE #[0],gE #[0]];rfl
 .rw[getElem?_eq_none (by rw[length_range];omega),getElem?_eq_none (by rw[length_zip];omega)];rfl
theorem EA{β:Type}{l:List β}{d:β}{idx:Db}(h: ∀i,i∈idx->i<l.length):idx.map (λi=>(l[i]?).getD d)=idx.filterMap (l[·]?):=by
 induction idx with
 |nil=>rfl
 |cons i idx ih=>
  have hi:=h i mF0;rw[List.map_cons,filterMap_cons_some (gE hi),ih λj hj=>h j (mO _ hj),gE hi];rfl
def TC(S:Sto)(ds kds r:Za):Prop:= ∃idx:List Nat,idx.Perm (List.range ds.length)/\idx.Pairwise (λi j=> ∀a c,kds[i]? =some a->kds[j]? =some c->uX S zG c a=some false)/\r=idx.filterMap (ds[·]?)
open Classical in
open Classical in
def WG:bootBuiltins "sorted"=some (.builtin "sorted"):=by decide+kernel
section
variable{X:Cx}{W:XW}{tg iter a:Expr}{f:AX}{af:Rho->Sto->R (List Er)}{e:Expr}{es:Yi}{pos apos:Pos}
def Itq(K:Yj)(k:Bool)(a:Addr):It:=if k=true then Mc K a else Ti K a
def iSeq(K:Yj)(tl:TE):TI:=λσ H R=>tl σ H λx H1=> ∃k a,x=.ref a/\(∃xs,FH k K H1 a xs)/\R (Itq K k a) H1
def Qn{l:Expr}{tl:TE}(hl:PE X l tl):PI X tg l (iSeq X.K tl):=by
 intro pins s σ H R I h;refine kG (hl pins s σ H _ I h) λv s1 ⟨x,H1,I1,r1,q1⟩=>?_;obtain⟨k,a,e,⟨xs,hq⟩,q⟩:=q1;subst e;cases r1
 cases k with
 |true=>
  obtain⟨its,rv,p,hz⟩:=I1.list (show SqL X.K H1 a xs from hq);refine wpAny_pyIter_list p.isList ?_;refine⟨s1.heap.objs.size,[s1.heap.objs.size],_,_,H1,rfl,I1.kept (t':=s1.toks) λb o e=>hP0 _ e,GI a _,⟨_,Heap.get?_push_size _ rfl,rfl,rfl⟩,λb hb=>?_,q⟩;have e:b=s1.heap.objs.size:=by simpa using hb
  subst e;exact I1.fpOk q9 (I1.hok.fresh q9)
 |false=>
  obtain⟨its,rv,p,hz⟩:=I1.tuple (show SqT X.K H1 a xs from hq);refine wpAny_pyIter_tuple (show s1.heap.IsTuple a its.toArray from p) ?_;refine⟨s1.heap.objs.size,[s1.heap.objs.size],_,_,H1,rfl,I1.kept (t':=s1.toks) λb o e=>hP0 _ e,CV a _,⟨_,Heap.get?_push_size _ rfl,rfl,rfl⟩,λb hb=>?_,q⟩;have e:b=s1.heap.objs.size:=by simpa using hb
  subst e;exact I1.fpOk q9 (I1.hok.fresh q9)
def itQ(r:Er)(S:Sto):R Wk:=match srcOf S r with
 |some q=>.ok ⟨q.ds,q.gs⟩ S
 |none=>.no
def Qo(he:zO X W iter f):GV X W tg iter (λρ S=>(f ρ S).bind itQ):=by
 obtain⟨t,he,k⟩:=he;refine⟨_,Qn he,λα ρ S σ H Rc wd sl q=>k α ρ S σ H _ wd sl (q.bind λu p S1 α1 H1 e x1 w1 d1 q1=>?_)⟩
 replace q1:=q1.shift x1
 unfold itQ at q1;split at q1
 .rename_i q e1;obtain⟨l1,P1,rfl,p1,D1⟩:=vH w1 e1 d1.1;have g1:=D1.get _ _ _ p1;refine⟨q.k,l1,rfl,⟨_,g1.choose_spec.1⟩,q1.here (u:=Itq X.K q.k l1) w1 ⟨λα S H=>P1 α S H,?_,p1,λα1 S1 H1 α2 S2 H2 b1 x w hs=>D1.stays _ _ _ _ _ _ b1 x w hs,D1.st _ _ _ p1⟩⟩;intro i α2 S2 H2 b1 w2;obtain⟨us,c1,c2⟩:=D1.get _ _ _ b1;obtain⟨qk,qd,qg⟩:=q
  cases qk with
  |true=>
   obtain⟨i1,i2⟩:=tL (X:=X) (a:=l1) (ds:=qd) i α2 S2 H2 ⟨us,c1,c2⟩ w2;refine⟨λhi=>⟨(i1 hi).1,λx H' y=>?_⟩,i2⟩;obtain⟨j1,j2,j3,j4⟩:=(i1 hi).2 x H' y;obtain⟨rfl,_⟩:=y;exact⟨j1,j2,b1,j4⟩
  |false=>
   obtain⟨i1,i2⟩:=SF (X:=X) (a:=l1) (ds:=qd) i α2 S2 H2 ⟨us,c1,c2⟩ w2;refine⟨λhi=>⟨(i1 hi).1,λx H' y=>?_⟩,i2⟩;obtain⟨j1,j2,j3,j4⟩:=(i1 hi).2 x H' y;obtain⟨rfl,_⟩:=y;exact⟨j1,j2,b1,j4⟩
 .exact q1.elim
theorem DenL.eraseIdx{K:Yj}{α:Ya}{H:Hp}: ∀{ds:Za}{vs:List V}(n:Nat),DenL K α H ds vs->DenL K α H (ds.eraseIdx n) (vs.eraseIdx n)
 |[],_,_,q=>by rw[q.isnil];exact zW
 |d::ds,_,0,q=>by obtain⟨v,r,rfl,_,l⟩:=q.uncons;exact l
 |d::ds,_,n+1,q=>by obtain⟨v,r,rfl,a,l⟩:=q.uncons;exact zM a (DenL.eraseIdx n l)
def WH(p:Er)(rs:List Er)(S:Sto):R Er:=match p,rs with
 |.val (.loc l),[.val (.int i)]=>match S[l]? with
  |some (.lst ds)=>if -(2 ^ 63)<=i/\i<2 ^ 63 then match IO ds.length i with
   |some j=>match ds[j]? with
    |some d=>.ok (.val d) (S.set l (.lst (ds.eraseIdx j)))
    |none=>.no
   |none=>.no
   else .no
  |_=>.no
 |_,_=>.no
def Qp:IZ X W YF WH:=by
 intro p rs x vs α S H0 H Q α0 wd x0 dp da post;unfold WH at post;split at post
 .rename_i l i;obtain⟨a,rfl,h⟩:=fE dp;obtain⟨v,rfl,dv⟩:=MS da;cases yS dv;obtain⟨ob,h1,h2⟩:=wd.of h;rw[h1]at post
  cases ob with
  |lst ds=>
   obtain⟨us,h3,l1⟩:=h2;dsimp only at post;split at post
   .rename_i hb;split at post
    .rename_i j ej;split at post
     .rename_i d ed;obtain⟨y,ey,dy⟩:=l1.at ed;have xw:=wd.writex h (Di h3) (o:=.lst (us.eraseIdx j));refine⟨a,us,i,j,y,rfl,rfl,h3,hb.1,hb.2,by rw[l1.length];exact(IP ej).1,ey,?_⟩;exact(post.shift (x0.trans xw)).val (wd.write h (Di h3) ⟨_,zS,(l1.eraseIdx j).ext xw⟩) (dy.ext xw)
     .exact post.elim
    .exact post.elim
   .exact post.elim
  |dic _=>exact post.elim
  |ins _ _=>exact post.elim
  |rcd _ _=>exact post.elim
  |fdc _=>exact post.elim
 .exact post.elim
def Qq(ho:zO X W a f)(ha:DM X W (e::es) af)
  (hbase:attributeBase a "pop" X.env (eval a X.env)=eval a X.env:=by rfl)
  (hfew:((backTo pos (starEach (e::es) X.env)).all (λx=>!x.1)&&(backToKw pos (keywordEach [] X.env)).all (λx=>x.1.isSome)
   &&decide ((e::es).length+([]:List Keyword).length+(if([]:List Keyword).isEmpty then 0 else 1)<30))=true:=by rfl)
  (hline:(apos.endLine==pos.line)=true:=by rfl) (hs:Q0 X e es:=by rfl) (hplain:Q1 X pos es:=by rfl):
  zO X W (.Call (.Attribute a "pop" apos) (e::es) [] pos) (λρ S=>(f ρ S).bind λp S1=>if wY p S1=true then(af ρ S1).bind λrs S2=>WH p rs S2 else .no):=
 SE PySem.F.plainAttrs_list PySem.F.slot_list_pop PySem.F.type_list_pop YG Qp QL ho ha hbase hfew hline hs hplain
end
section
variable{X:Cx}{W:XW}{a b o i:Expr}{pins:Ye}{σ:St}{H:Hp}{s:Shared}{α:Ya}
def pP(kvs:List (Key×V))(k:Key)(v:V):List (Key×V):=if(kvs.any λkv=>decide (kv.1=k))=true then kvs.map (λkv=>if kv.1=k then(kv.1,v)else kv)else kvs++[(k,v)]
def tY(kvs:List (Key×V))(k:Key)(v:V):(pP kvs k v).length<=kvs.length+1:=by
 unfold pP;split
 .rw[lM];exact le_succ _
 .rw[lA];exact Nat.le_refl _
def Qr{kvs:List (Key×V)}{vs:List (Key×Value)}(r:KV kvs vs)(k:Key):(kvs.any λkv=>decide (kv.1=k))=vs.any λkv=>decide (kv.1=k):=by
 unfold KV at r
 induction r with
 |nil=>rfl
 |cons h t ih=>rw[List.any_cons,List.any_cons,ih,h.1]
def Hs{kvs:List (Key×V)}{vs:List (Key×Value)}(r:KV kvs vs)(k:Key){y:V}{u:Value}(ry:RelV y u):KV (kvs.map λkv=>if kv.1=k then(kv.1,y)else kv) (vs.map λkv=>if kv.1=k then(kv.1,u)else kv):=by
 unfold KV at r ⊢
 induction r with
 |nil=>exact .nil
 |@cons p q ps qs h t ih=>
  rw[List.map_cons,List.map_cons];refine .cons ?_ ih;by_cases e:p.1=k
  .rw[iP e,iP (h.1.symm.trans e)];exact⟨h.1,ry⟩
  .rw[iN e,iN λz=>e (h.1.trans z)];exact h
def Ht{kvs:List (Key×V)}{vs:List (Key×Value)}(r:KV kvs vs){p:Key×V}{q:Key×Value}(h:p.1=q.1/\RelV p.2 q.2):KV (kvs++[p]) (vs++[q]):=by
 unfold KV at r ⊢
 induction r with
 |nil=>exact .cons h .nil
 |cons h' t ih=>exact .cons h' ih
def QW{kvs:List (Key×V)}{vs:List (Key×Value)}(r:KV kvs vs)(k:Key){y:V}{u:Value}(ry:RelV y u):KV (pP kvs k y) (stored vs k u):=by
 unfold pP stored;rw[Qr r k];by_cases e:(vs.any λkv=>decide (kv.1=k))=true
 .rw[iP e,iP e];exact Hs r k ry
 .rw[iN e,iN e];exact Ht r ⟨rfl,ry⟩
def JT{k:MV}{a b:Key}(h:KeyD k a)(h':KeyD k b):a=b:=by
 cases k with
 |int i=>exact Eq.trans (show a=.inl i from h) (show b=.inl i from h').symm
 |str x=>exact Eq.trans (show a=.inr (bL x)from h) (show b=.inr (bL x)from h').symm
 |_=>exact False.elim h
def EB{k k':MV}{a:Key}(h:KeyD k a)(h':KeyD k' a):k=k':=by
 cases k with
 |int i=>
  have e:a=.inl i:=h;subst e
  cases k' with
  |int j=>have e':(Sum.inl i:Key)=.inl j:=h';cases e';rfl
  |str y=>have e':(Sum.inl i:Key)=.inr (bL y):=h';cases e'
  |_=>exact False.elim h'
 |str x=>
  have e:a=.inr (bL x):=h;subst e
  cases k' with
  |int j=>have e':(Sum.inr (bL x):Key)=.inl j:=h';cases e'
  |str y=>
   have e':(Sum.inr (bL x):Key)=.inr (bL y):=h';injection e' with e'
   rw[tH e']
  |_=>exact False.elim h'
 |_=>exact False.elim h
theorem NI: ∀{kvs:Ze}{ks:List (Key×V)}{k:MV}{k':Key},DenK X.K α H kvs ks->KeyD k k'->(ks.any λkv=>decide (kv.1=k'))=(look kvs k).isSome
 |_,_,k,k',.nil,hk=>rfl
 |_,_,k,k',.cons (k:=c) (k':=c') hc a l,hk=>by
  rw[yY,List.any_cons];by_cases h:c=k
  .subst h;rw[iP rfl,dT0 (JT hc hk)];rfl
  .have hn: ¬c'=k':=λz=>h (EB hc (z.symm▸hk));rw[iN h,dF0 hn,Bool.false_or];exact NI l hk
theorem EC: ∀{kvs:Ze}{ks:List (Key×V)}{k d:MV}{k':Key}{v:V},DenK X.K α H kvs ks->KeyD k k'->Den X.K α H d v->DenK X.K α H (kvs.map λp=>if p.1=k then(p.1,d)else p) (ks.map λkv=>if kv.1=k' then(kv.1,v)else kv)
 |_,_,k,d,k',v,.nil,hk,hd=>.nil
 |_,_,k,d,k',v,.cons (k:=c) (k':=c') hc a l,hk,hd=>by
  rw[List.map_cons,List.map_cons];by_cases h:c=k
  .subst h;rw[iP rfl,iP (JT hc hk)];exact .cons hc hd (EC l hk hd)
  .have hn: ¬c'=k':=λz=>h (EB hc (z.symm▸hk));rw[iN h,iN hn];exact .cons hc a (EC l hk hd)
theorem DenK.append: ∀{kvs kvs':Ze}{xs xs':List (Key×V)},DenK X.K α H kvs xs->DenK X.K α H kvs' xs'->DenK X.K α H (kvs++kvs') (xs++xs')
 |_,_,_,_,.nil,h=>h
 |_,_,_,_,.cons hk a l,h=>.cons hk a (DenK.append l h)
theorem DenK.length: ∀{kvs:Ze}{xs:List (Key×V)},DenK X.K α H kvs xs->xs.length=kvs.length
 |_,_,.nil=>rfl
 |_,_,.cons _ _ l=>by rw[lC,lC,DenK.length l]
def ED{kvs:Ze}{ks:List (Key×V)}{k d:MV}{k':Key}{v:V}(l:DenK X.K α H kvs ks)(hk:KeyD k k')(hd:Den X.K α H d v):DenK X.K α H (putK kvs k d) (pP ks k' v):=by
 unfold putK pP;rw[NI l hk];by_cases h:(look kvs k).isSome=true
 .rw[iP h,iP h];exact EC l hk hd
 .rw[iN h,iN h];exact l.append (.cons hk hd .nil)
def DK(X:Cx)(H:Hp)(d:Addr)(ks:List (Key×V)):Prop:=H d=some (.dK ks)\/(ks=[]/\H d=some (DN X.prog X.w d []))
def DK.nf{d:Addr}{ks:List (Key×V)}(h:DK X H d ks): ∀ob u,H d≠some (.frz ob u):=h.elim (λz=>Di z) λz=>by first |exact Di z.2|exact z.elim
def iR(I:Inv X pins σ H s){ks:List (Key×V)}{d:Addr}(h:DK X H d ks):ks.length<=sizeLine/\(d==sysModules)=false/\ ∃vs,KV ks vs/\s.heap.DictOf (yP X.prog X.w) d vs:=by
 rcases h with h|⟨rfl,h⟩
 .exact(show ObjOk X.prog X.w H s.heap d (.dK ks)from I.hok d _ h)
 .obtain⟨⟨hz,hs,o,es,ep,ho,hc,hd,he,hn⟩,_⟩:=(show ObjOk X.prog X.w H s.heap d (DN X.prog X.w d [])from I.hok d _ h)
  have he':es.toList=[]:=he;refine⟨zero_le _,hs,[],.nil,o,es,ep,ho,hc,hd,λe hm=>?_,by rw[he'];exact .nil,nodup_nil⟩;rw[<-Array.mem_toList_iff,he']at hm;exact absurd hm (by simp)
def QX:CallR X (.type "list") (λxs H Q=> ∃d ks,xs=[.ref d]/\DK X H d ks/\X.calm=true/\ ∀l,H l=none->Q (.ref l) (xH H l (.lst (ks.map λp=>kV p.1)))):=by
 intro pins s σ H xs us Q I r h;obtain⟨d,ks,rfl,dd,hc,q⟩:=h;obtain⟨u,rfl,rx⟩:=vals1 r;cases rx;obtain⟨z,hd,vs,rel,dm⟩:=iR I dd;obtain⟨ep,hat⟩:=dm.dictAt;have hl:ks.length=vs.length:=Paired.length rel;refine PySem.W.kdl_call (PySem.W.kdl_dict (knd:=yP X.prog X.w) (kvs:=vs) (ep:=ep) hd) (I.ok.hd hc) hat #[0] λh' tk acc c' hk hS hacc=>?_
 have rv:Vals (ks.map λp=>kV p.1) acc.toList:=by
  have key: ∀{ks:List (Key×V)}{vs:List (Key×Value)}{us:Xj},KV ks vs->us.length=vs.length->(∀(j:Nat)(v:Value),us[j]? =some v-> ∃(k:Key)(x:Value),vs[j]? =some (k,x)/\(yP X.prog X.w).is k v=true)->Vals (ks.map λp=>kV p.1) us:=by
   intro ks vs us kv;unfold KV at kv
   induction kv generalizing us with
   |nil=>intro hl _;cases us with
    |nil=>exact .nil
    |cons a b=>simp at hl
   |@cons p q ps qs h t ih=>
    intro hl hv
    cases us with
    |nil=>simp at hl
    |cons a b=>
     obtain⟨k,x,e,hi⟩:=hv 0 a rfl;simp only[List.getElem?_cons_zero,Option.some.injEq]at e;subst e;rw[List.map_cons];refine .cons ?_ (ih (by simpa using hl) λj v hj=>by simpa using hv (j+1) v (by simpa using hj));rw[h.1];rcases yC hi with⟨i,t,e1,e2⟩|⟨i,t,e1,e2⟩
     .subst e2;rw[show k=.inl i from e1];exact⟨t,rfl⟩
     .subst e2;rw[show k=.inr i from e1];exact⟨t,rfl⟩
  exact key rel (by rw[Array.length_toList];exact hacc.1) λj v e=>hacc.2 j v (by rw[<-Array.getElem?_toList];exact e)
 refine⟨.ref s.heap.objs.size,_,I.laid (t':=tk) hk q9 (show ObjOk X.prog X.w _ h' _ (.lst (ks.map λp=>kV p.1))from⟨by rw[lM];exact z,acc.toList,c',rv,?_⟩),rfl,q _ (I.hok.fresh q9)⟩;rw[Array.toArray_toList];exact hS
theorem HG: ∀{kvs:Ze}{ks:List (Key×V)},DenK X.K α H kvs ks->DenL X.K α H (kvs.map (·.1)) (ks.map λp=>kV p.1)
 |_,_,.nil=>zW
 |_,_,.cons (k:=c) (k':=c') hc a l=>by
  refine zM ?_ (HG l)
  cases c with
  |int i=>rw[show c'=.inl i from hc];exact wX i
  |str x=>rw[show c'=.inr (bL x)from hc];exact oD x
  |_=>exact False.elim hc
end
def StrAt(val:Nat->Key)(i:Nat)(v:Value):Prop:=(∃x t,val i=.inr x/\v=.str x t)\/ ∃x t,val i=.inl x/\v=.int x t
def StrAt.is{P:Program}{w:World}{val:Nat->Key}{i:Nat}{v:Value}(h:StrAt val i v):(yP P w).is (val i) v=true/\v.scannable=true:=by
 rcases h with⟨x,t,e,rfl⟩|⟨x,t,e,rfl⟩<;>rw[e]
 .exact⟨pR P w x t,rfl⟩
 .exact⟨AB P w x t,rfl⟩
section
variable{X:Cx}{o e:Expr}{es:Yi}{apos pos:Pos}{to:TE}{t:TA}{T:String}{name:Str}{id:String}{r:V->List V->Hp->VK->Prop}
def rK(X:Cx)(T:String)(TY:V->Hp->Prop):Prop:= ∀(pins:Ye)(s:Shared)(σ:St)(H:Hp)(x:V)(v:Value),Inv X pins σ H s->RelV x v->TY x H->s.TypeIs v T/\ ∀a,v=.ref a-> ∃ob,s.heap.get? a=some ob/\ob.dict=none
def JU{TY:V->Hp->Prop}(hTY:rK X T TY)(pa:PlainAttrs T)(slot:Slot T name id)(hty:typeOf (.builtin id)=pure (.type "method_descriptor"))(hm:YC X id r)(ho:PE X o to)(ha:PA X (e::es) t)
  (hbase:attributeBase o name X.env (eval o X.env)=eval o X.env)
  (hfew:((backTo pos (starEach (e::es) X.env)).all (λx=>!x.1)&&(backToKw pos (keywordEach [] X.env)).all (λx=>x.1.isSome)
   &&decide ((e::es).length+([]:List Keyword).length+(if([]:List Keyword).isEmpty then 0 else 1)<30))=true)
  (hline:(apos.endLine==pos.line)=true) (hs:starEach (e::es) X.env=(false,eval e X.env)::starEach es X.env) (hplain:(backTo pos (starEach es X.env)).any (·.1)=false):
  PE X (.Call (.Attribute o name apos) (e::es) [] pos) (λσ H Q=>to σ H λx H1=>TY x H1/\t σ H1 λvs H2=>r x vs H2 Q):=by
 intro pins s σ H Q I h;refine wpAny_Call_method_late hbase hfew hline rfl (kG (ho pins s σ H _ I h) λv s1 ⟨x,H1,I1,r1,ty,q1⟩=>?_);obtain⟨h1,h2⟩:=hTY pins s1 σ H1 x v I1 r1 ty;refine⟨T,id,pa,slot,hty,h1,h2,?_⟩;have hA:=ha pos pins s1 σ H1 _ I1 q1;rw[hs]at hA ⊢;refine Calls.callWith_builtin (by show(false || (backTo pos (starEach es X.env)).any (·.1))=false;rw[hplain]<;>rfl) (Calls.evalArgs_plain ?_);exact kG hA λus s2 ⟨vs,H2,I2,r2,q2⟩=>hm pins s2 σ H2 x vs v us Q I2 r1 r2 q2
def TyD(X:Cx)(x:V)(H:Hp):Prop:= ∃d xs,x=.ref d/\DD X H d xs
def vO:rK X "dict" (TyD X):=by
 intro pins s σ H x v I rx ⟨d,xs,e,dd⟩;subst e;cases rx;rcases dd with h|⟨rfl,h⟩
 .obtain⟨⟨hz,hs,o,es,ep,ho,hc,_⟩,_⟩:=(show ObjOk X.prog X.w H s.heap d (DN X.prog X.w d xs)from I.hok d _ h)
  exact⟨⟨o,ho,hc.1⟩,λa e=>by cases e;exact⟨o,ho,hc.2.1⟩⟩
 .obtain⟨_,hs,vs,kv,o,es,ep,ho,hc,_⟩:=(show ObjOk X.prog X.w H s.heap d (.dK [])from I.hok d _ h)
  exact⟨⟨o,ho,hc.1⟩,λa e=>by cases e;exact⟨o,ho,hc.2.1⟩⟩
end
section
variable{P:Program}{w:World}{KK:Type}[DecidableEq KK]{knd:HeapKind P w KK}{A:Around}{E:VP}{s:Shared}{d a:Addr}{k:KK}{xs:List (KK×Addr×Value)}
def WI{v:Value}{Q:VP}(hu:knd.room A)(hkey:knd.is s.heap k a)(hm:s.heap.DictOfH knd d xs)
  (h1: ∀p,atKey xs k=some p->Q p.2 {s with toks:=s.toks+knd.draws k})
  (h2:atKey xs k=none-> ∀h',h'.DictOfH knd d (storedH xs k a v)->Heap.SameBut d s.heap h'->Q v {s with heap:=h',toks:=s.toks+knd.draws k}) (hsz:xs.length<=sizeLine):
  wpAny (model P w) A (dictSetDefault d (.ref a) v) Q E s:=by
 obtain⟨o,es,ep,ho,hc,hd,he,his,hn⟩:=hm;unfold dictSetDefault
 try with_reducible refine wpAny_holding ?_
 refine wB (knd.pyHash hu hkey ?_);refine wB (wpAny_dictFind_heap (s:={s with toks:=s.toks+knd.draws k}) hu hkey ho hd he his hn ?_ ?_)
 .intro hno;have hnone:=atKey_none_of_get hno;have hst:=storedH_new (v:=v) (a:=a) hnone
  refine wB (wpAny_rule (wB (wpAny_updateDictKeys (hz:=by have e:=size_of_entries he;omega) (s:={s with toks:=s.toks+knd.draws k}) ho hd (wP (h2 hnone _ ⟨_,_,ep+1,Heap.get?_update_self _ ho (Obj.isFreed_of_dict (Obj.data_mapDictKeys hd _)),
   hc.mapDictKeys _,Obj.data_mapDictKeys hd _,?_,?_,?_⟩ (Heap.SameBut.update ..))))))
  .rw[hst];simp[he,entryOfKey]
  .rw[hst];intro x hx;rcases List.mem_append.mp hx with hx|hx
   .exact knd.keeps (his x hx) ho hd (Heap.SameBut.update ..)
   .rw[mS.mp hx];exact knd.keeps hkey ho hd (Heap.SameBut.update ..)
  .rw[hst,List.map_append,nodup_append];refine⟨hn,by simp,λx hx y hy=>?_⟩;rw[mS.mp hy];rintro rfl;exact not_mem_keys_of_get hno hx
 .intro j p hj;refine wB (wpAny_dictEntries (s:={s with toks:=s.toks+knd.draws k}) ho hd ?_);rw[entry_at he j,hj];exact wB (wpAny_rule (wP (h1 _ (atKey_of_get hn hj))))
end
section
variable{X:Cx}{W:XW}{o e:Expr}{es:Yi}{f:AX}{af:Rho->Sto->R (List Er)}{apos pos:Pos}
theorem JV{α:Ya}{H:Hp}: ∀{kvs:Ze}{xs:List (NK×Addr×Value)}{k dd:MV}{nk:NK},DenN X.K α H kvs xs->xC k=some nk->look kvs k=some dd-> ∃a u v,atKey xs nk=some (a,u)/\Den X.K α H dd v/\RelV v u
 |_,_,k,dd,nk,.nil,hk,h=>by cases h
 |_,_,k,dd,nk,.cons (k:=k') (nk:=nk') (a:=a) (d:=d') (v:=v) (u:=u) hk' e ha hd r l,hk,h=>by
  rw[yY]at h;by_cases c:k'=k
  .subst c;have:nk'=nk:=by rw[hk]at hk';exact(Option.some.inj hk').symm
   rw[iP rfl]at h;cases h;exact⟨a,u,v,by rw[sR,iP this],hd,r⟩
  .have hn:nk'≠nk:=λz=>c (tU hk' (by rw[hk,z]));rw[iN c]at h;obtain⟨a2,u2,v2,h1,h2,h3⟩:=JV l hk h;exact⟨a2,u2,v2,by rw[sR,iN hn];exact h1,h2,h3⟩
def rSD(X:Cx):V->List V->Hp->VK->Prop:=λx vs H Q=> ∃(α:Ya)(kvs:Ze)(xs:List (NK×Addr×Value))(a d:Addr)(k:MV)(nk:NK)(y:V),x=.ref d/\vs=[.ref a,y]/\DD X H d xs/\DenN X.K α H kvs xs/\xC k=some nk/\fB nk<=4/\Den X.K α H k (.ref a)/\xs.length<sizeLine/\
 (∀dd v,look kvs k=some dd->Den X.K α H dd v->Q v H)/\(look kvs k=none-> ∀u,RelV y u->Q y (xH H d (DN X.prog X.w d (storedH xs nk a u))))
def Vj(hu:X.A.units+64<cLine):YC X "dict.setdefault" (rSD X):=by
 intro pins s σ H x vs v us Q I rx rv h;obtain⟨α,kvs,xs,a,d,k,nk,y,rfl,rfl,dd,l,hk,e,ha,hz,q1,q2⟩:=h;obtain⟨u1,u2,rfl,r1,r2⟩:=vals2 rv;cases rx;cases r1;obtain⟨hm,hz',hs⟩:=qX I dd l;have hT:s.TypeIs (.ref d) "dict":=(vO pins s σ H (.ref d) (.ref d) I rfl ⟨d,xs,rfl,dd⟩).1;have hl:=CB l hk;refine wpAny_call_entry PySem.F.slot_dict_setdefault hT PySem.F.entry_dict_setdefault ?_ (PySem.F.args_dict_setdefault_3 _ _ _);unfold Builtin.«dict.setdefault»;refine wB ?_;unfold Builtin.Dict.keyAndDefault;refine wB (wpAny_notOrdered_dict hT ?_);show wpAny _ _ (pure (d,Value.ref a,some u2)) _ _ s;refine wP ?_;show wpAny _ _ (if(d==sysModules)=true then _ else(dictSetDefault d (.ref a) u2 >>= _)) _ _ s;rw[iN (by rw[hs];exact xF0)];refine wB (WI (knd:=zU X.prog X.w) (show X.A.units+1+4<cLine by omega) ⟨vM I hk ha rfl,e⟩ hm (λp hp=>?_) (λhn h' hm' hs'=>?_) hz')
 .rw[hp]at hl;obtain⟨d',hd'⟩:=Option.isSome_iff_exists.mp (show(look kvs k).isSome=true from hl.symm);obtain⟨a2,u3,v3,g1,g2,g3⟩:=JV l hk hd';rw[hp]at g1;cases g1;exact wP ⟨_,rfl,v3,H,I.kept (t':=_) (λ_ _ z=>z),g3,q1 d' v3 hd' g2⟩
 .rw[hn]at hl
  have hln:look kvs k=none:=by
   cases z:look kvs k with
   |none=>rfl
   |some _=>rw[z]at hl;cases hl
  have mu:Ll (H d):=by rcases dd with z|⟨_,z⟩<;>rw[z]<;>exact trivial
  obtain⟨ob,es,ep,ho,hc,hd,he,_,hnd⟩:=hm';refine wP ⟨_,rfl,y,_,I.write (t':=_) (x:=d) (e:=d) (o:=DN X.prog X.w d (storedH xs nk a u2)) mu (.inl rfl) (λb uo hb eo=>(hs'.2 b hb).trans eo) ⟨ob,ho⟩ ?_,r2,q2 hln u2 r2⟩;refine⟨⟨by have:=sT (xs:=xs) (k:=nk) (a:=a) (u:=u2);omega,hs,ob,es,ep,ho,hc,hd,he,hnd⟩,⟨ob,ho⟩,?_⟩;rintro h1 h2 ⟨z1,z2,o',es',ep',ho',r⟩ mv;exact⟨z1,z2,o',es',ep',mv o' ho',r⟩
def Vk(p:Er)(k y:MV)(S1:Sto):R Er:=match bP S1 p with
 |some (l,kvs)=>if keyOk k=true/\kvs.length<1000000 then match look kvs k with
  |some d=>.ok (.val d) S1
  |none=>.ok (.val y) (S1.set l (.dic (putK kvs k y)))
  else .no
 |none=>.no
def Sl(p:Er)(rs:List Er)(S:Sto):R Er:=match rs with
 |[.val k,r]=>(wV r S).bind λy S1=>Vk p k y S1
 |_=>.no
def qB(p:Er)(S:Sto):Bool:=(bP S p).isSome
def Vm:IZ X W (rSD X) Sl:=by
 intro p rs x vs α S H0 H Q α0 wd x0 dp da post
 match rs,da,post with
 |[],_,post=>exact post.elim
 |[.val _],_,post=>exact post.elim
 |.new _::_,_,post=>exact post.elim
 |.val _::_::_::_,_,post=>exact post.elim
 |[.val k,r],da,post=>
  cases da with
  |cons dk n1 l1=>
   cases l1 with
   |cons d n2 l2=>
    cases l2;obtain⟨d',S',α',e',x',y',w',dd⟩:=cR wd x0 d;have post:Post X.g W α0 H0 ((wV r S).bind λy S1=>Vk p k y S1) Q:=post;rw[e']at post;have post:Post X.g W α0 H0 (Vk p k d' S') Q:=post;unfold Vk at post;split at post
    .rename_i l kvs ed;split at post
     .rename_i hk
      have dp':DenX X.K α' H p x:=by
       cases p with
       |val m=>exact Den.ex0 y' dp
       |new ds=>cases ed
      obtain⟨nk,h1,h2,h3⟩:=tV hk.1;obtain⟨c,xs,rfl,hc,hS,DDx,dl⟩:=sS w' ed dp';have dk':Den X.K α' H k _:=Den.ex0 y' dk.1;obtain⟨a',rfl⟩:=CC (X:=X) (α:=α') (H:=H) h3 dk';refine⟨α',kvs,xs,a',c,k,nk,_,rfl,rfl,DDx,dl,h1,h2,dk',?_,λd2 v2 e2 g2=>?_,λe2 u ru=>?_⟩
      .rw[dl.length];exact Nat.lt_of_lt_of_le hk.2 (fits q9)
      .rw[e2]at post;exact(Post.shift x' post).val w' g2
      .rw[e2]at post;have xw:=w'.writex hc DDx.nf (o:=DN X.prog X.w c (storedH xs nk a' u));exact(Post.shift (x'.trans xw) post).val (w'.write hc DDx.nf (.inr ⟨_,zS,(JO dl h1 h2 dk' dd ru).ex0 xw.toEx0⟩)) (dd.ext xw)
     .exact post.elim
    .exact post.elim
def Vn(hu:X.A.units+64<cLine)(ho:zO X W o f)(ha:DM X W (e::es) af)
  (hbase:attributeBase o "setdefault" X.env (eval o X.env)=eval o X.env:=by rfl)
  (hfew:((backTo pos (starEach (e::es) X.env)).all (λx=>!x.1)&&(backToKw pos (keywordEach [] X.env)).all (λx=>x.1.isSome)
   &&decide ((e::es).length+([]:List Keyword).length+(if([]:List Keyword).isEmpty then 0 else 1)<30))=true:=by rfl)
  (hline:(apos.endLine==pos.line)=true:=by rfl) (hs:Q0 X e es:=by rfl) (hplain:Q1 X pos es:=by rfl):
  zO X W (.Call (.Attribute o "setdefault" apos) (e::es) [] pos) (λρ S=>(f ρ S).bind λp S1=>if qB p S1=true then(af ρ S1).bind λrs S2=>Sl p rs S2 else .no):=by
 obtain⟨to,ho,fo⟩:=ho;obtain⟨t,ha,k⟩:=ha;refine⟨_,JU vO PySem.F.plainAttrs_dict PySem.F.slot_dict_setdefault PySem.F.type_dict_setdefault (Vj hu) ho ha hbase hfew hline hs hplain,λα ρ S σ H Q wd sl q=>fo α ρ S σ H _ wd sl (q.bind λu p S1 α1 H1 e1 x1 w1 d1 q1=>?_)⟩;split at q1
 .rename_i hz;obtain⟨⟨l,kvs⟩,hz⟩:=Option.isSome_iff_exists.mp hz;obtain⟨c,xs,rfl,_,_,dd,_⟩:=sS w1 hz d1.1;exact⟨⟨c,xs,rfl,dd⟩,k α1 ρ S1 σ H1 _ w1 (sl.ext x1) ((q1.shift x1).bind λvs rs S2 α2 H2 e2 x2 w2 d2 q2=>Vm p rs _ vs α2 S2 H1 H2 Q α1 w2 x2 (d1.1.ext x2) d2 q2)⟩
 .exact q1.elim
end
def VAt(d:Addr)(us:Xj)(ep:Nat)(h:Heap):Prop:= ∃o es,h.get? d=some o/\o.ExactDict/\o.data=.dict es ep/\es.toList.map (·.val)=us
def VAt.at{d:Addr}{us:Xj}{ep:Nat}{h h':Heap}(x:VAt d us ep h)(m: ∀o,h.get? d=some o->h'.get? d=some o):VAt d us ep h':=let ⟨o,es,ho,r⟩:=x;⟨o,es,m o ho,r⟩
theorem VAt.size{d:Addr}{us:Xj}{ep:Nat}{h:Heap}(x:VAt d us ep h): ∃o es,h.get? d=some o/\o.ExactDict/\o.data=.dict es ep/\es.size=us.length/\ ∀i (hi:i<es.size),us[i]? =some es[i].val:=by obtain⟨o,es,ho,hc,hd,e⟩:=x;refine⟨o,es,ho,hc,hd,by rw[<-e,lM,Array.length_toList],λi hi=>?_⟩;rw[<-e,getElem?_map,Array.getElem?_toList,Array.getElem?_eq_getElem hi];rfl
section
variable{X:Cx}{o:Expr}{apos pos:Pos}{to:TE}{T:String}{name:Str}{id:String}{r:V->List V->Hp->VK->Prop}
def Hu{TY:V->Hp->Prop}(hTY:rK X T TY)(pa:PlainAttrs T)(slot:Slot T name id)(hty:typeOf (.builtin id)=pure (.type "method_descriptor"))(hm:YC X id r)(ho:PE X o to)
  (hbase:attributeBase o name X.env (eval o X.env)=eval o X.env) (hline:(apos.endLine==pos.line)=true):PE X (.Call (.Attribute o name apos) [] [] pos) (λσ H Q=>to σ H λx H1=>TY x H1/\r x [] H1 Q):=by
 intro pins s σ H Q I h;refine wpAny_Call_method0_late hbase hline (kG (ho pins s σ H _ I h) λv s1 ⟨x,H1,I1,r1,ty,q1⟩=>?_);obtain⟨h1,h2⟩:=hTY pins s1 σ H1 x v I1 r1 ty;exact⟨T,id,pa,slot,hty,h1,h2,Calls.callWith_builtin rfl (PySem.evalArgs_none (hm pins s1 σ H1 x [] v [] Q I1 r1 .nil q1))⟩
theorem TD{α:Ya}{H:Hp}: ∀{kvs:Ze}{xs:List (NK×Addr×Value)},DenN X.K α H kvs xs-> ∃ys,DenL X.K α H (kvs.map (·.2)) ys/\Vals ys (xs.map (·.2.2))
 |_,_,.nil=>⟨[],zW,.nil⟩
 |_,_,.cons hk e a d r l=>by obtain⟨ys,h1,h2⟩:=TD l;exact⟨_::ys,zM d h1,.cons r h2⟩
end
end M
end L2
namespace L2
open PySem PySem.Spec PyProof.Rows
open Builtin Builtin.ObjectAttr
section
variable{h:Heap}{x:Addr}{o:Obj}{v:Value}{name:Str}
def SetAt(h h':Heap)(x:Addr)(o:Obj)(name:Str)(v:Value)(dx:Addr):Prop:=
 h.get? dx=none/\dx≠x/\h'.get? x=some {cls:=o.cls,dict:=some dx,data:=o.data,slots:=o.slots}/\h'.Ns1 dx (λy=>if y=name then some v else none)/\ ∀b ob,b≠x->h.get? b=some ob->h'.get? b=some ob
end
abbrev BIG:Nat:=10 ^ 100
section
variable{i:Nat}{σ:St}{H:Hp}
def tJ(i:Nat):TE:=λσ H Q=> ∃n,σ[i]? =some (some (.int n))/\n.natAbs<BIG/\ ∀y:Str,Q (.str y) H
end
namespace M
structure XIn(K:Yj)(M C f:Addr):Prop where
 ex: ∃nm q N bs sn sub ab col dd k0 k1 k2 k3 k5,K.lookup C=some (excClassObj nm q C N bs (.ref M::Xb) true sn sub ab col dd k0 k1 k2 k3 k5 "ValueError.__new__")/\PySem.W.nsOkIn K N=true/\PySem.W.nsIn K N "__init__"=some (some (.ref f))/\ ∀n∈qn,PySem.W.nsIn K N n=some none
 fo: ∃o,K.lookup f=some o/\o.cls=.type "function"
def XIn.cl{K:Yj}{M C f:Addr}(x:XIn K M C f):XCl K C (.ref M::Xb) (some (.ref f)):=by obtain⟨nm,q,N,bs,sn,sub,ab,col,dd,k0,k1,k2,k3,k5,a,b,c,d⟩:=x.ex;exact⟨nm,q,N,bs,true,sn,sub,ab,col,dd,k0,k1,k2,k3,k5,a,b,c,d,rfl⟩
structure DefM(K:Yj)(mg:Yc)(x:Str)(st:Stmt):Prop where
 ex: ∃f fd,mg x=some (.ref f)/\Fun K x x st f fd
def def_mk{K:Yj}{mg:Yc}{h:Heap}{x:Str}{st:Stmt}{g:Addr}{od an:Option Addr}{sl:Array (Option Value)}{oc kV dc pm cd ct:Value}(a:PySem.W.nsIn K mainGlobals x=some (some (.ref g)))
  (l:K.lookup g=some ⟨oc,od,.func (PySem.W.fnOf x x (oB st) (bK st) (zN st) .none kV dc pm an cd ct),sl⟩) (c:PySem.W.codeIn K cd x=true) (k:PySem.W.keepIn K (.ref g)=true) (X:K.In h) (GG:h.Ns mainGlobals mg):DefM K mg x st:=⟨_,_,PySem.W.mg_of X GG a,Na l c k⟩
structure Cal(P:Program)(w:World)(K:Yj)(mg:Yc)(base:Heap)(CX:UX)(x:Str)(k:Nat)(ps:Yb)(sp:Sp):Prop where
 ex: ∃fa fd,FnOk P w K mg base CX k fa fd ps sp/\mg x=some (.ref fa)/\PySem.W.keepIn K (.ref fa)=true/\Binds K fd ps []
abbrev WJ(P:Program)(w:World)(K:Yj)(mg:Yc)(base:Heap)(x:Str)(k n:Nat)(ps:Yb)(F:List MV->Sto->R Er):Prop:=Cal P w K mg base CZ x k ps (QF ⟨K,mg,P,w⟩ n F)
abbrev Vo(P:Program)(w:World)(K:Yj)(mg:Yc)(base:Heap)(x:Str)(k n:Nat)(ps:Yb)(F:List MV->Sto->R Er):Prop:=Cal P w K mg base (CXe P w) x k ps (spX ⟨K,mg,P,w⟩ n F)
section
variable{P:Program}{w:World}{K:Yj}{mg:Yc}{base:Heap}{x:Str}{st:Stmt}{ps:Yb}{k n:Nat}{F:List MV->Sto->R Er}
abbrev Ag(x:Str)(st:Stmt)(ps:Yb):Prop:= ∀(kV doc pm:Value)(an:Option Addr)(cdv ct:Value)(us:Xj),us.length=ps.length->bindArgs (PySem.W.fnOf x x (oB st) (bK st) (zN st) .none kV doc pm an cdv ct) ⟨us,[]⟩=pure (ps.zip us)
def okC(D:DefM K mg x st)(hb:Ag x st ps)(h: ∀f fd,Fun K x x st f fd->FnOk P w K mg base CZ k f fd ps (QF ⟨K,mg,P,w⟩ n F)):WJ P w K mg base x k n ps F:=
 let ⟨f,fd,m,Fu⟩:=D.ex;⟨f,fd,h f fd Fu,m,Fu.kp,Fu.binds hb⟩
def Cal.noX(G:Vo P w K mg base x k n ps F):WJ P w K mg base x k n ps F:=let ⟨fa,fd,G,m,kp,b⟩:=G.ex;⟨fa,fd,G.noX,m,kp,b⟩
def Qs{l:PySem.W.OpenLaw}{fa:Addr}{p:Str}(D:DefM K mg x st)(hfa:mg x=some (.ref fa))(hb: ∀(kV doc pm:Value)(an:Option Addr)(cdv ct:Value)(s:Shared)(v:Value),BindsTo s (PySem.W.fnOf x x (oB st) (bK st) (zN st) .none kV doc pm an cdv ct) ⟨[v],[]⟩ [(p,v)])
  (h: ∀base f fd,Fun K x x st f fd->FnOk l.prog w K mg base CZ k f fd [p] (QF ⟨K,mg,l.prog,w⟩ 1 F)):
  ∃fd:FuncData,(∀(s:Shared)(v:Value),BindsTo s fd ⟨[v],[]⟩ [(p,v)])/\ ∀base:Heap,K.In base->base.Ns mainGlobals mg->FnOk l.prog w K mg base CZ k fa fd [p] (HB K F):=by
 obtain⟨f,fd,m,Fu⟩:=D.ex;rw[hfa]at m;cases m;refine⟨fd,?_,λbase _ _=>(h base fa fd Fu).imp λvs H Q E=>ZS (g:=⟨K,mg,l.prog,w⟩) vs H Q E⟩;obtain⟨_,_,_,_,_,_,_,_,_,rfl,_,_⟩:=Fu.ex;exact hb _ _ _ _ _ _
end
section
variable{X:Cx}{W:XW}{e:Expr}{es:Yi}{af:Rho->Sto->R (List Er)}{k n:Nat}{ps:Yb}{F:List MV->Sto->R Er}{x:Str}{p pos:Pos}
def Ah(G:WJ X.prog X.w X.K X.mg X.base x k n ps F)(hr:Room k X.A)(hg:Gl X x)(ha:DM X W (e::es) af)(hdb:(x==("__debug__":Str))=false:=by decide)
  (he:Q0 X e es:=by rfl) (hpl:Q1 X pos es:=by rfl):zO X W (.Call (.Name x p) (e::es) [] pos) (λρ S=>(af ρ S).bind λrs S1=>zF n F rs S1):=
 let ⟨_,_,G,m,kp,b⟩:=G.ex;Ga G hr hg m kp b ha hdb he hpl
end
end M
end L2
namespace L2
open PySem PySem.Spec PyProof.Rows
structure RoomH(k:Nat)(A:Around):Prop where
 dp:A.depth+3 * k+5<recursionLimit
 un:A.units+16 * k+200<cLine
def RoomH.depth{k:Nat}{A:Around}(r:RoomH k A):A.depth<recursionLimit:=by have:=r.dp;omega
def RoomH.units{k:Nat}{A:Around}(r:RoomH k A):A.units+64<cLine:=by have:=r.un;omega
structure FnOkH(P:Program)(w:World)(K:Yj)(mg:Yc)(base:Heap)(k:Nat)(f:Addr)(fd:FuncData)(ps:Yb)(sp:Sp):Prop where
 len: ∀vs H Q E,sp vs H Q E->vs.length=ps.length
 run: ∀(A:Around)(outer:List Env)(s:Shared)(H:Hp)(args:Args)(us:Xj)(vs:List V)(Q:VK)(E:XK),RoomH k A->HdA A H->Env0 P w K mg base A outer s H->BindsTo s fd args (ps.zip us)->Vals vs us->sp vs H Q E->
  codeAny (model P w) A (.call (.ref f) args) (CR CZ outer P w H s Q E) s
namespace M
section
variable{P:Program}{w:World}{K:Yj}{mg:Yc}{base:Heap}{x:Str}{ps:Yb}{k n:Nat}{F:List MV->Sto->R Er}
structure CalH(P:Program)(w:World)(K:Yj)(mg:Yc)(base:Heap)(x:Str)(k n:Nat)(ps:Yb)(F:List MV->Sto->R Er):Prop where
 ex: ∃fa fd,FnOkH P w K mg base k fa fd ps (QF ⟨K,mg,P,w⟩ n F)/\mg x=some (.ref fa)/\PySem.W.keepIn K (.ref fa)=true/\Binds K fd ps []
end
def Vq(kvs:Ze)(S:Sto):R Er:=.ok (.val (.loc S.length)) (S++[.dic kvs])
section
variable{X:Cx}{o e:Expr}{es:Yi}
def qC(ks:List (Key×V))(k:Key):Option V:=(ks.find? λp=>decide (p.1=k)).map (·.2)
theorem JW: ∀{ks:List (Key×V)}{vs:List (Key×Value)}(r:KV ks vs)(k:Key),(∀v,qC ks k=some v-> ∃u,valueAt vs k=some u/\RelV v u)/\(qC ks k=none->valueAt vs k=none)
 |_,_,.nil,k=>⟨λv h=>(nomatch h),λ_=>rfl⟩
 |(a,x)::ks,(b,u)::vs,.cons ⟨h1,h2⟩ l,k=>by
  cases (show a=b from h1);have ih:=JW l k;unfold qC valueAt;by_cases c:a=k
  .simp only[find?_cons,c,decide_true,Option.map_some];exact⟨λv h=>⟨u,rfl,by cases h;exact h2⟩,λh=>nomatch h⟩
  .simp only[find?_cons,c,decide_false];exact ih
theorem vP{α:Ya}{H:Hp}: ∀{kvs:Ze}{ks:List (Key×V)}{k:MV}{k':Key},DenK X.K α H kvs ks->KeyD k k'->(∀d,look kvs k=some d-> ∃v,qC ks k'=some v/\Den X.K α H d v)/\(look kvs k=none->qC ks k'=none)
 |_,_,_,_,.nil,_=>⟨λd h=>(nomatch h),λ_=>rfl⟩
 |_,_,k,k',.cons (k:=k0) (k':=k0') (d:=d0) (v:=v0) h1 h2 l,hk=>by
  have ih:=vP l hk;rw[yY];unfold qC;by_cases c:k0=k
  .subst c;have:=JT h1 hk;simp only[find?_cons,this,decide_true,Option.map_some,iP rfl];exact⟨λd h=>⟨v0,rfl,by cases h;exact h2⟩,λh=>nomatch h⟩
  .have hn: ¬k0'=k':=λz=>c (EB h1 (z▸hk));simp only[find?_cons,hn,decide_false,iN c];exact ih
def TyK(X:Cx)(x:V)(H:Hp):Prop:= ∃d ks,x=.ref d/\DK X H d ks
def JX:rK X "dict" (TyK X):=by intro pins s σ H x v I rx ⟨d,ks,e,dd⟩;subst e;cases rx;obtain⟨_,hs,vs,kv,o,es,ep,ho,hc,_⟩:=iR I dd;exact⟨⟨o,ho,hc.1⟩,λa e=>by cases e;exact⟨o,ho,hc.2.1⟩⟩
end
section
variable{α β:Type}
def vJ(i:Nat)(ρ:Rho)(S:Sto):R Er:=Fe (ρ[i]?) S
def kJ(d:MV)(_:Rho)(S:Sto):R Er:=.ok (.val d) S
def bJ(f:Rho->Sto->R α)(F:α->Sto->R β)(ρ:Rho)(S:Sto):R β:=(f ρ S).bind F
def dJ(F:Er->Er->Sto->R Er)(f g:AX)(ρ:Rho)(S:Sto):R Er:=(f ρ S).bind λp S=>(g ρ S).bind λq S=>F p q S
def nJ(f:AX)(ρ:Rho)(S:Sto):R Er:=(f ρ S).bind λp S=>(fF p S).bind λk S=>.ok (.val (.bl !k)) S
def aJ(f g:AX)(ρ:Rho)(S:Sto):R Er:=(f ρ S).bind λp S=>Nq p S λS=>g ρ S
def oJ(f g:AX)(ρ:Rho)(S:Sto):R Er:=(f ρ S).bind λp S=>orF p S λS=>g ρ S
def iJ(c:AZ)(f g:Rho->Sto->R α)(ρ:Rho)(S:Sto):R α:=(c ρ S).bind λk S=>if k=true then f ρ S else g ρ S
def mJ(_:Rho)(S:Sto):R (Option Int):=.ok none S
def tJ(F:Er->Option Int->Option Int->Sto->R Er)(f:AX)(g h:Rho->Sto->R (Option Int))(ρ:Rho)(S:Sto):R Er:=(f ρ S).bind λp S=>(g ρ S).bind λl S=>(h ρ S).bind λu S=>F p l u S
def lJ(k:Ze)(_:Rho)(S:Sto):R Er:=Vq k S
def zJ(_:Rho)(S:Sto):R Er:=AK S
def fJ(n:Nat)(F:List MV->Sto->R Er)(a:Rho->Sto->R (List Er))(ρ:Rho)(S:Sto):R Er:=(a ρ S).bind λr S=>zF n F r S
def xJ(n:Nat)(F:List MV->Sto->R Er)(a:Rho->Sto->R (List Er))(ρ:Rho)(S:Sto):R Er:=(a ρ S).bind λr S=>SW n F r S
def hJ(F:List MV->Sto->R Er)(_:Rho)(S:Sto):R Er:=zF 0 F [] S
def eJ(t:Er->Sto->Bool)(F:Er->List Er->Sto->R Er)(f:AX)(a:Rho->Sto->R (List Er))(ρ:Rho)(S:Sto):R Er:=(f ρ S).bind λp S=>if t p S=true then(a ρ S).bind λr S=>F p r S else .no
def gJ(t:Er->Sto->Bool)(F:Er->List Er->Sto->R Er)(f:AX)(ρ:Rho)(S:Sto):R Er:=(f ρ S).bind λp S=>if t p S=true then F p [] S else .no
def uJ(_:Rho)(S:Sto):R Bool:=.ok true S
def pJ(i:Rho->Sto->R Wk)(g:MV->Rho->Sto->R Rho)(c:AZ)(e:AX)(n:Nat)(I:Db)(ρ:Rho)(S:Sto):R Er:=(i ρ S).bind λk S=>if k.ds.length<1000000 then(yF g c e (uW n I ρ) k.gs k.ds S).bind λo S=>.ok (.new o) S else .no
def jJ(F G:Er->Er->Sto->R Er)(f g h:AX)(ρ:Rho)(S:Sto):R Er:=(f ρ S).bind λp S=>(g ρ S).bind λq S=>chF F G p q S λS=>h ρ S
def qJ(f:AZ)(ρ:Rho)(S:Sto):R Bool:=(f ρ S).bind λk S=>.ok (!k) S
def rJ(f g:AZ)(ρ:Rho)(S:Sto):R Bool:=(f ρ S).bind λk S=>if k=true then g ρ S else .ok false S
def sJ(f g:AZ)(ρ:Rho)(S:Sto):R Bool:=(f ρ S).bind λk S=>if k=true then .ok true S else g ρ S
def wJ(_:Rho)(S:Sto):R (List Er):=.ok [] S
def yJ(f:AX)(g:Rho->Sto->R (List Er))(ρ:Rho)(S:Sto):R (List Er):=(f ρ S).bind λp S=>(g ρ S).bind λl S=>.ok (p::l) S
def AJ(f:AX)(ρ:Rho)(S:Sto):R Fl:=(f ρ S).bind λr S=>.ok (.ret r) S
def BJ(f:AX)(ρ:Rho)(S:Sto):R Fl:=(f ρ S).bind λ_ S=>.ok (.next ρ) S
def CJ(f:AX)(i:Nat)(ρ:Rho)(S:Sto):R Fl:=(f ρ S).bind (FQ ρ i)
def DJ(F:Er->Er->MV->Rho->Sto->R Rho)(f g:AX)(d:MV)(ρ:Rho)(S:Sto):R Rho:=(f ρ S).bind λp S=>(g ρ S).bind λq S=>F p q d ρ S
def EJ(f:AX)(g:MV->Rho->Sto->R Rho)(ρ:Rho)(S:Sto):R Fl:=(f ρ S).bind (Fp g ρ)
def FJ(i:Rho->Sto->R Wk)(g:MV->Rho->Sto->R Rho)(b:AY)(ρ:Rho)(S:Sto):R Fl:=(i ρ S).bind λk S=>xG g b k.gs k.ds ρ S
def GJ(a:Rho->Sto->R (List Er))(c:Str)(ρ:Rho)(S:Sto):R Fl:=(a ρ S).bind λr S=>if r.length<=10 then .exc c [] S else .no
def HJ(cs:Yb)(i:Nat)(h:AY)(n:Nat)(F:List MV->Sto->R Er)(a:Rho->Sto->R (List Er))(ρ:Rho)(S:Sto):R Fl:=(noX (a ρ S)).bind λr S=>Qf cs i (λ_ S=>.ok (.next ρ) S) h ρ (SW n F r S)
def IJ(cs:Yb)(i j:Nat)(h:AY)(n:Nat)(F:List MV->Sto->R Er)(a:Rho->Sto->R (List Er))(ρ:Rho)(S:Sto):R Fl:=(noX (a ρ S)).bind λr S=>Qf cs i (FQ ρ j) h ρ (SW n F r S)
def JJ(ρ:Rho)(S:Sto):R Fl:=.ok (.next ρ) S
end
section
variable{p:Pos}{f:AX}
def augF(F:Er->Er->Sto->R Er)(i:Nat)(f:AX)(ρ:Rho)(S:Sto):R Fl:=(Fe (ρ[i]?) S).bind λp S1=>(f ρ S1).bind λq S2=>(F p q S2).bind (FQ ρ i)
end
def KJ(n:Nat)(F:List MV->Sto->R Er)(a:Rho->Sto->R (List Er))(ρ:Rho)(S:Sto):R Er:=(noX (a ρ S)).bind λr S=>SW n F r S
def LJ(c:AZ)(f g:AX)(ρ:Rho)(S:Sto):R Er:=(noX (c ρ S)).bind λk S=>if k=true then f ρ S else g ρ S
def MJ(cs:Yb)(i:Nat)(h:AY)(f:AX)(ρ:Rho)(S:Sto):R Fl:=Qf cs i (λ_ S=>.ok (.next ρ) S) h ρ (f ρ S)
end M
end L2
namespace L2
open PySem PySem.Spec PyProof.Rows
namespace M
section
variable{f:AX}{af:Rho->Sto->R (List Er)}{p:Pos}{m:Str}
def selM(m:Str)(l:List (Str×(List MV->Sto->R Er))):Er->Option (List MV->Sto->R Er)
 |.val (.obj c ns _)=>if m∈ns then none else l.lookup c
 |_=>none
def NJ(m:Str)(n:Nat)(l:List (Str×(List MV->Sto->R Er)))(f:AX)(af:Rho->Sto->R (List Er))(ρ:Rho)(S:Sto):R Er:=(f ρ S).bind λp S=>match selM m l p with
 |some F=>(af ρ S).bind λr S=>zF n F (p::r) S
 |none=>.no
end
section
variable{X:Cx}{W:XW}{a b o i e:Expr}{f g:AX}{pos:Pos}{α:Ya}{H:Hp}{pins:Ye}{σ:St}{s:Shared}
def Qt:MV->Option Key
 |.int i=>some (.inl i)
 |.str x=>some (.inr (bL x))
 |_=>none
def Ai: ∀{k:MV}{k':Key},Qt k=some k'->KeyD k k'
 |.int i,_,h=>by cases h;exact rfl
 |.str x,_,h=>by cases h;exact rfl
 |.non,_,h=>nomatch h
 |.bl _,_,h=>nomatch h
 |.tup _,_,h=>nomatch h
 |.scr _,_,h=>nomatch h
 |.loc _,_,h=>nomatch h
 |.typ _,_,h=>nomatch h
 |.obj _ _ _,_,h=>nomatch h
def Aj: ∀{k:MV}{k':Key}{v:V},Qt k=some k'->Den X.K α H k v->v=kV k'
 |.int i,_,_,h,d=>by cases h;exact xM d
 |.str x,_,_,h,d=>by cases h;exact xN d
 |.non,_,_,h,_=>nomatch h
 |.bl _,_,_,h,_=>nomatch h
 |.tup _,_,_,h,_=>nomatch h
 |.scr _,_,_,h,_=>nomatch h
 |.loc _,_,_,h,_=>nomatch h
 |.typ _,_,_,h,_=>nomatch h
 |.obj _ _ _,_,_,h,_=>nomatch h
def TF: ∀{k:Key}{u:Value},RelV (kV k) u->(yP X.prog X.w).is k u=true
 |.inl i,_,h=>by obtain⟨t,rfl⟩:=(h: ∃t,_=_);exact AB _ _ i t
 |.inr x,_,h=>by obtain⟨t,rfl⟩:=(h: ∃t,_=_);exact pR _ _ x t
def sV(k:MV):Bool:=(Qt k).isSome
def Vr{kvs:Ze}{d:Addr}(ob:ObD X.g α H d (.dic kvs))(hk:kvs.all (λp=>sV p.1)=true): ∃ks,DK X H d ks/\DenK X.K α H kvs ks:=by
 rcases ob with⟨ks,h,l⟩|⟨xs,h,l⟩
 .exact⟨ks,.inl h,l⟩
 .cases l with
  |nil=>exact⟨[],.inr ⟨rfl,h⟩,.nil⟩
  |@cons k nk a d v u fs xs hn e ha hd r l=>
   rw[List.all_cons,aE]at hk;obtain⟨k',hk'⟩:=Option.isSome_iff_exists.mp hk.1;have:=Aj hk' ha;cases k'<;>cases this
def sW(S:Sto):Er->Option (Nat×List (MV×MV))
 |.val (.loc l)=>match S[l]? with
  |some (.dic kvs)=>if kvs.all (λp=>sV p.1)=true then some (l,kvs)else none
  |_=>none
 |_=>none
def Hv{S:Sto}(wd:Wd X.g α S H){r:Er}{x:V}{l:Nat}{kvs:Ze}(e:sW S r=some (l,kvs))(d:DenX X.K α H r x):
  ∃c ks,x=.ref c/\α[l]? =some c/\S[l]? =some (.dic kvs)/\DK X H c ks/\DenK X.K α H kvs ks/\kvs.all (λp=>sV p.1)=true:=by
 unfold sW at e;split at e
 .rename_i n;obtain⟨c,rfl,h⟩:=fE d;split at e
  .rename_i ks hS;split at e
   .rename_i hk;obtain⟨rfl,rfl⟩:=Prod.mk.inj (Option.some.inj e);obtain⟨xs,dd,l⟩:=Vr (wd.obj _ c _ h hS) hk;exact⟨c,xs,rfl,h,hS,dd,l,hk⟩
   .cases e
  .cases e
 .cases e
def QY{ks:List (Key×V)}{d:Addr}(dd:DK X H d ks):Ll (H d):=by rcases dd with z|⟨_,z⟩<;>rw[z]<;>exact trivial
def Vs(X:Cx):TSet:=λo i v H Q=> ∃(ks:List (Key×V))(d:Addr)(k:Key),o=.ref d/\i=kV k/\DK X H d ks/\ks.length<sizeLine/\Q (xH H d (.dK (pP ks k v)))
def WK:Dy X (Vs X):=by
 intro pins s σ H o i v ov iv u Q I ro ri rv h;obtain⟨ks,d,k,rfl,rfl,dd,hz,q⟩:=h;cases ro;obtain⟨z,hd,vs,rel,dm⟩:=iR I dd;have hl:ks.length=vs.length:=Paired.length rel;have hp:=tY ks k v;refine wpAny_setItem_pairs (knd:=yP X.prog X.w) (hsz:=by omega) (TF ri) dm λh' dm' hs'=>⟨_,?_,q⟩
 have he: ∃q,h'.get? d=some q:=let ⟨q,_,_,hq,_⟩:=dm';⟨q,hq⟩;exact I.write (t':=_) (x:=d) (e:=d) (QY dd) (.inl rfl) (λb uo hb eo=>(hs'.2 b hb).trans eo) he ⟨by omega,hd,_,QW rel _ rv,dm'⟩
def tZ(p q:Er)(d:MV)(ρ:Rho)(S:Sto):R Rho:=match q with
 |.val k=>match sW S p with
  |some (l,kvs)=>if sV k=true/\kvs.length<1000000 then .ok ρ (S.set l (.dic (putK kvs k d)))else .no
  |none=>.no
 |_=>.no
def Hw(ho:zO X W o f)(hi:zO X W i g)
  (ha: ∀v,assign (.Subscript o i pos) X.env v=(do
   let ov <-holding [v] (eval o X.env);let iv <-holding [v,ov] (eval i X.env)
   standAt pos
   holding [v,ov,iv] (setItem ov iv v)
   release [v,ov,iv] []):=by intro _;rfl):VL X W (.Subscript o i pos) (λd ρ S=>(f ρ S).bind λp S1=>(g ρ S1).bind λq S2=>tZ p q d ρ S2):=by
 obtain⟨to,ho,fo⟩:=ho;obtain⟨ti,hi,fi⟩:=hi;refine⟨_,PK ho hi WK ha,λα ρ S σ H d v Q wd sl de q=>fo α ρ S σ H _ wd sl (q.bind λu p S1 α1 H1 e1 x1 w1 d1 q1=>fi α1 ρ S1 σ H1 _ w1 (sl.ext x1) ((q1.shift x1).bind λu2 p2 S2 α2 H2 e2 x2 w2 d2 q2=>?_))⟩
 replace q2:=q2.shift x2
 have d1':=DenX.ext x2 d1.1;have de2:=(de.ext x1).ext x2;unfold tZ at q2;split at q2
 .rename_i k;split at q2
  .rename_i l kvs e;split at q2
   .rename_i hk;obtain⟨c,ks,rfl,hc,hS,dd,dl,hall⟩:=Hv w2 e d1';obtain⟨k',hk'⟩:=Option.isSome_iff_exists.mp hk.1;refine⟨ks,c,k',rfl,Aj (X:=X) (α:=α2) (H:=H2) hk' d2.1,dd,?_,?_⟩
    .rw[dl.length];exact Nat.lt_of_lt_of_le hk.2 (fits q9)
    .have xw:=w2.writex hc dd.nf (o:=.dK (pP ks k' v));have sl2:=((sl.ext x1).ext x2).ext xw;exact q2 σ α2 _ xw (w2.write hc dd.nf (.inl ⟨_,zS,(ED (k:=k) dl (Ai hk') de2).ex0 xw.toEx0⟩)) sl2
   .exact q2.elim
  .exact q2.elim
 .exact q2.elim
end
def delK(kvs:Ze)(k:MV):List (MV×MV):=kvs.filter λp=>!decide (p.1=k)
def popXF(p:Er)(rs:List Er)(S:Sto):R Er:=match rs with
 |[.val k,.val y]=>match sW S p with
  |some (l,kvs)=>if sV k=true then(match look kvs k with |some d=>.ok (.val d) (S.set l (.dic (delK kvs k)))|none=>.ok (.val y) S)else .no
  |none=>.no
 |_=>.no
def QZ(p:Er)(S:Sto):Bool:=(sW S p).isSome
section
variable{X:Cx}{W:XW}{α:Ya}{H:Hp}
def tupKF:List Er->Sto->R Er
 |[r],S=>match sW S r with |some (_,kvs)=>.ok (.val (.tup (kvs.map (·.1)))) S|none=>.no
 |_,_=>.no
def vQ:List Er->Sto->R Er
 |[r],S=>match sW S r with |some (_,kvs)=>.ok (.new (kvs.map (·.1))) S|none=>.no
 |_,_=>.no
def Ak(hc:X.calm=true):rR X W (λxs H Q=> ∃d ks,xs=[.ref d]/\DK X H d ks/\X.calm=true/\ ∀l,H l=none->Q (.ref l) (xH H l (.lst (ks.map λp=>kV p.1)))) vQ:=by
 intro rs vs α S H Q wd d post;unfold vQ at post;split at post
 .split at post
  .rename_i n kvs e;obtain⟨v,rfl,dv⟩:=rV d;obtain⟨c,ks,rfl,h1,h2,dd,dl,_⟩:=Hv wd e dv;exact⟨c,ks,rfl,dd,hc,λl hl=>Post.newl post wd hl (HG dl)⟩
  .exact post.elim
 .exact post.elim
end
def shrC(i j:Int):Prop:=0<=j
instance(i j:Int):Decidable (shrC i j):=inferInstanceAs (Decidable (_<=_))
end M
end L2
namespace PySem
def JY:typeLookup (.type "list") "keys"=pure none:=am_miss_of_fast (by decide+kernel)
def getAttr?_miss_list{prog:Program}{w:World}{A:Around}{E:VP}{s:Shared}{a:Addr}{o:Obj}{xs:Xk}{k:Nat}{name:Str}{Q:Option Value->Shared->Prop}
  (hx:s.heap.get? a=some o) (hc:o.cls=.type "list") (hdat:o.data=.seq xs k) (hd:o.dict=none) (hmiss:typeLookup (.type "list") name=pure none) (hname:(["__module__","__name__","__qualname__","__doc__","__annotations__"]:Yb).contains name=false) (hA:A.handled=none)
  (h: ∀h' tk,(∀b o,s.heap.get? b=some o->h'.get? b=some o)->Q none {s with heap:=h',toks:=tk}) (hsz:name.length+100<=sizeLine:=by size_fits):
  wpAny (model prog w) A (getAttr? (.ref a) name) Q E s:=by
 obtain⟨c,dct,dat,sl⟩:=o;simp only at hc hdat hd;subst hc hdat hd;obtain⟨hp,g,d,tk,os⟩:=s;have hT: ∀tk',(⟨hp,g,d,tk',os⟩:Shared).TypeIs (.ref a) "list":=λ_=>⟨_,hx,rfl⟩
 have f1:=sub_AttributeError;have f3:=F.slot_list_getattribute.lookup;have f4:=F.slot_list_getattribute.bind (.ref a);have f5:=am_list_getattr_none;unfold getAttr? getAttrBy? getAttrBy
 repeat (any_goals (first |assumption|exact hT _|((with_reducible show wpAny _ _ (call (Value.builtin "list.__getattribute__") _ _) _ _ _);refine call_meets F.slot_list_getattribute (hT _) am_entry_list_getattribute (F.args_list_getattribute_2 _ _) (meets_getattribute_miss_list a xs k sl name _ hmiss hname hsz) ⟨hx,hA,λh' tk' e hx'=>?_⟩)|wp_step))
 obtain⟨t',u',he⟩:=hx'.there;show wpAny _ _ (getattributeRaised _ _ _ _ _ _ _) _ _ _;unfold getattributeRaised
 repeat (any_goals (first |assumption|wp_step))
 exact h _ _ hx'.keeps
namespace F
def entry_dict_update_loop:entryFor table "dict.update.loop"=some Builtin.«dict.update.loop»:=entryFor_of_tree (by kernel_rfl)
def plain_dict_update_loop:plainId "dict.update.loop"=true:=by decide+kernel
end F
open PyProof.Rows
end PySem
namespace L2
namespace M
open PySem PySem.Spec PyProof.Rows
section
variable{X:Cx}{α:Ya}{H:Hp}
def NL(ps:List (Key×V)):List (Key×V):=ps.foldl (λacc p=>pP acc p.1 p.2) []
def TH{ps:List (Key×V)}{qs:List (Key×Value)}(r:KV ps qs): ∀{as:List (Key×V)}{bs:List (Key×Value)},KV as bs->KV (ps.foldl (λacc p=>pP acc p.1 p.2) as) (merged bs qs):=by
 unfold KV at r
 induction r with
 |nil=>intro as bs h;exact h
 |@cons p q ps qs h t ih=>
  intro as bs hb;rw[List.foldl_cons];show KV _ (merged (stored bs q.1 q.2) qs);rw[h.1];exact ih (QW hb _ h.2)
def WL(ps:List (Key×V)):(NL ps).length<=ps.length:=by
 have: ∀(ps as:List (Key×V)),(ps.foldl (λacc p=>pP acc p.1 p.2) as).length<=as.length+ps.length:=by
  intro ps
  induction ps with
  |nil=>intro as;exact Nat.le_refl _
  |cons p ps ih=>
   intro as;rw[List.foldl_cons,lC];have:=ih (pP as p.1 p.2);have:=tY as p.1 p.2;omega
 have:=this ps [];rw[List.length_nil,Nat.zero_add]at this;exact this
def NN(ps:Ze):List (MV×MV):=ps.foldl (λacc p=>putK acc p.1 p.2) []
theorem vR: ∀{kvs:Ze}{ps:List (Key×V)},DenK X.K α H kvs ps-> ∀{as:Ze}{bs:List (Key×V)},DenK X.K α H as bs->DenK X.K α H (kvs.foldl (λacc p=>putK acc p.1 p.2) as) (ps.foldl (λacc p=>pP acc p.1 p.2) bs)
 |_,_,.nil,as,bs,h=>h
 |_,_,.cons (k:=k) (k':=k') hk a l,as,bs,h=>by rw[List.foldl_cons,List.foldl_cons];exact vR l (ED h hk a)
def JZ:bootBuiltins "dict"=some (.type "dict"):=by decide+kernel
end
section
variable{X:Cx}{W:XW}{b o e:Expr}{es:Yi}{f:AX}{af:Rho->Sto->R (List Er)}{apos pos:Pos}{α:Ya}{H:Hp}{pins:Ye}{σ:St}{s:Shared}
def NO(ks ps:List (Key×V)):List (Key×V):=ps.foldl (λacc p=>pP acc p.1 p.2) ks
theorem HI: ∀(ps ks:List (Key×V)),(NO ks ps).length<=ks.length+ps.length
 |[],ks=>Nat.le_refl _
 |p::ps,ks=>by have h1:=HI ps (pP ks p.1 p.2);have h2:=tY ks p.1 p.2;show(NO (pP ks p.1 p.2) ps).length<=_;rw[lC];omega
def Kq(X:Cx):V->List V->Hp->VK->Prop:=λx vs H Q=> ∃(ks ps:List (Key×V))(d p:Addr),x=.ref d/\vs=[.ref p]/\d≠p/\DK X H d ks/\DK X H p ps/\ks.length+ps.length<2000000/\Q .non (xH H d (.dK (NO ks ps)))
def Hx:YC X "dict.update" (Kq X):=by
 intro pins s σ H x vs v us Q I rx rv h;obtain⟨ks,ps,d,p,rfl,rfl,hne,dd,dp,hz,q⟩:=h;obtain⟨u1,rfl,r1⟩:=vals1 rv;cases rx;cases r1;have hT:s.TypeIs (.ref d) "dict":=(JX pins s σ H (.ref d) (.ref d) I rfl ⟨d,ks,rfl,dd⟩).1;obtain⟨z,hs,vs,kv,dm⟩:=iR I dd;obtain⟨z2,hs2,vs2,kv2,dm2⟩:=iR I dp;have hl:ks.length=vs.length:=Paired.length kv;have hl2:ps.length=vs2.length:=Paired.length kv2;have hS:=sizeLine_eq
 refine call_meetsIn PySem.F.slot_dict_update hT PySem.F.entry_dict_update (PySem.F.args_dict_update_2 _ _) (meets_dict_update (yP X.prog X.w) d p hne hs2)
  ⟨vs,vs2,dm,dm2,by rw[hS];omega,λh' hm _ hb=>?_⟩
 have he': ∃q,h'.get? d=some q:=let ⟨q,_,_,hq,_⟩:=hm;⟨q,hq⟩;have hol:=HI ps ks;refine⟨.non,xH H d (.dK (NO ks ps)),?_,rfl,q⟩;exact I.write (t':=_) (x:=d) (e:=d) (QY dd) (.inl rfl) (λb uo hb' eo=>(hb.2 b hb').trans eo) he' ⟨by rw[hS];omega,hs,_,TH kv2 kv,hm⟩
def xV(kvs ps:Ze):List (MV×MV):=ps.foldl (λacc p=>putK acc p.1 p.2) kvs
def EE(p:Er)(rs:List Er)(S:Sto):R Er:=match rs with
 |[r]=>match sW S p with
  |some (l,kvs)=>match sW S r with
   |some (m,ps)=>if l≠m/\kvs.length+ps.length<1000000 then .ok (.val .non) (S.set l (.dic (xV kvs ps)))else .no
   |none=>.no
  |none=>.no
 |_=>.no
def Hy:IZ X W (Kq X) EE:=by
 intro p rs x vs α S H0 H Q α0 wd x0 dp da post;unfold EE at post;split at post
 .rename_i r;split at post
  .rename_i l kvs ed;split at post
   .rename_i m ps er;split at post
    .rename_i hc
     cases da with
     |cons dv n1 l1=>
     cases l1;obtain⟨c,ks,rfl,h1,hS,DDx,dl,_⟩:=Hv wd ed dp;obtain⟨c2,ks2,rfl,h2,hS2,DDx2,dl2,_⟩:=Hv wd er dv.1;have hne:c≠c2:=λz=>hc.1 (by subst z;exact(List.getElem?_inj (gS.mp h1).1 wd.nd).mp (h1.trans h2.symm));have e1:ks.length=kvs.length:=DenK.length dl;have e2:ks2.length=ps.length:=DenK.length dl2;refine⟨ks,ks2,c,c2,rfl,rfl,hne,DDx,DDx2,by omega,?_⟩;have xw:=wd.writex h1 DDx.nf (o:=.dK (NO ks ks2));exact(Post.shift (x0.trans xw) post).val (wd.write h1 DDx.nf (.inl ⟨_,zS,(vR dl2 dl).ex0 xw.toEx0⟩)) tK
    .exact post.elim
   .exact post.elim
  .exact post.elim
 .exact post.elim
def Hz(ho:zO X W o f)(ha:DM X W (e::es) af)
  (hbase:attributeBase o "update" X.env (eval o X.env)=eval o X.env:=by rfl)
  (hfew:((backTo pos (starEach (e::es) X.env)).all (λx=>!x.1)&&(backToKw pos (keywordEach [] X.env)).all (λx=>x.1.isSome)
   &&decide ((e::es).length+([]:List Keyword).length+(if([]:List Keyword).isEmpty then 0 else 1)<30))=true:=by rfl)
  (hline:(apos.endLine==pos.line)=true:=by rfl) (hs:Q0 X e es:=by rfl) (hplain:Q1 X pos es:=by rfl):
  zO X W (.Call (.Attribute o "update" apos) (e::es) [] pos) (λρ S=>(f ρ S).bind λp S1=>if QZ p S1=true then(af ρ S1).bind λrs S2=>EE p rs S2 else .no):=by
 obtain⟨to,ho,fo⟩:=ho;obtain⟨t,ha,k⟩:=ha;refine⟨_,JU JX PySem.F.plainAttrs_dict PySem.F.slot_dict_update PySem.F.type_dict_update Hx ho ha hbase hfew hline hs hplain,λα ρ S σ H Q wd sl q=>fo α ρ S σ H _ wd sl (q.bind λu p S1 α1 H1 e1 x1 w1 d1 q1=>?_)⟩;split at q1
 .rename_i hz;obtain⟨⟨l,kvs⟩,hz⟩:=Option.isSome_iff_exists.mp hz;obtain⟨c,xs,rfl,_,_,dd,_⟩:=Hv w1 hz d1.1;exact⟨⟨c,xs,rfl,dd⟩,k α1 ρ S1 σ H1 _ w1 (sl.ext x1) ((q1.shift x1).bind λvs rs S2 α2 H2 e2 x2 w2 d2 q2=>Hy p rs _ vs α2 S2 H1 H2 Q α1 w2 x2 (d1.1.ext x2) d2 q2)⟩
 .exact q1.elim
end
section
variable{prog:Program}{w:World}{K:Type}[DecidableEq K]{knd:KeyKind prog w K}
def TSet(knd:KeyKind prog w K)(h:Heap)(a:Addr)(S:K->Bool)(n:Nat)(b:Bool):Prop:=
 ∃o es ep t,h.get? a=some o/\o.ExactSet/\o.data=.set es ep t/\ElemsOf knd es.toList/\(∀k,S k=true↔ ∃e∈es.toList,knd.is k e.2=true)
  /\es.size<scanBound/\t.fits es.size=true/\es.size=n/\t.led=b/\(es.size=0\/t.plain=false)/\(es.toList.map (·.2)).Pairwise (λx y=> ∀k,knd.is k x=true-> ¬knd.is k y=true)
end
def StrT(val:Nat->Key)(i:Nat)(v:Value):Prop:= ∃x t,val i=.inr x/\v=.str x t
def StrT.is{P:Program}{w:World}{val:Nat->Key}{i:Nat}{v:Value}(h:StrT val i v):(yP P w).is (val i) v=true/\v.scannable=true/\plainKind v=false:=by obtain⟨x,t,e,rfl⟩:=h;rw[e];exact⟨pR P w x t,rfl,rfl⟩
def SetAt(h:Heap)(D:Addr)(es:Array (Int×Value))(ep:Nat)(t:SetTable):Prop:= ∃o,h.get? D=some o/\o.ExactSet/\o.data=.set es ep t/\t.fits es.size=true
def SetAt.keep{h h':Heap}{D:Addr}{es:Array (Int×Value)}{ep:Nat}{t:SetTable}(x:SetAt h D es ep t)(m: ∀o,h.get? D=some o->h'.get? D=some o):SetAt h' D es ep t:=by obtain⟨o,ho,r⟩:=x;exact⟨o,m o ho,r⟩
section
variable{X:Cx}{W:XW}
def Al:CallR X (.type "dict") (λxs H Q=> ∃d ks,xs=[.ref d]/\DK X H d ks/\ ∀p,H p=none->Q (.ref p) (xH H p (.dK ks))):=by intro pins s σ H xs us Q I r h;obtain⟨d,ks,rfl,dk,q⟩:=h;obtain⟨u,rfl,rx⟩:=vals1 r;cases rx;obtain⟨hz,hs,vs,kv,hd⟩:=iR I dk;have hl:ks.length=vs.length:=Paired.length kv;refine kt_call_dict (knd:=yP X.prog X.w) (more:=vs) hs hd #[0] λh' hdd hsb=>?_;have hk: ∀b o,s.heap.get? b=some o->h'.get? b=some o:=λb o e=>(hsb.2 b (Nat.ne_of_lt (Heap.lt_size e))).trans (hP0 _ e);refine⟨.ref s.heap.objs.size,_,I.laid (t':=s.toks) hk q9 (show ObjOk X.prog X.w _ h' _ (.dK ks)from⟨hz,beq_eq_false_iff_ne.mpr (Ne.symm (Nat.ne_of_lt (JP I))),_,kv,hdd⟩),rfl,q _ (I.hok.fresh q9)⟩
def NP:List Er->Sto->R Er
 |[r],S=>match sW S r with |some (_,kvs)=>.ok (.val (.loc S.length)) (S++[.dic kvs])|none=>.no
 |_,_=>.no
def Qu:rR X W (λxs H Q=> ∃d ks,xs=[.ref d]/\DK X H d ks/\ ∀p,H p=none->Q (.ref p) (xH H p (.dK ks))) NP:=by
 intro rs vs α S H Q wd d post;unfold NP at post;split at post
 .split at post
  .rename_i l kvs e;obtain⟨v,rfl,dv⟩:=rV d;obtain⟨c,ks,rfl,hc,hS,dk,dl,_⟩:=Hv wd e dv;refine⟨c,ks,rfl,dk,λp hp=>?_⟩;have xn:=wd.newx (o:=.dK ks) hp;obtain⟨x,w'⟩:=wd.put (ho:=.dK ks) (m:=.dic kvs) hp (.inl ⟨_,zS,dl.ex0 ⟨⟨[p],rfl⟩,xn.tup,xn.frz⟩⟩);exact post (.ref p) (α++[p]) _ x w' (DenE.val (oE (by rw[<-wd.len,getElem?_append_right q9,sub_self];rfl)))
  .exact post.elim
 .exact post.elim
end
section
variable{X:Cx}{W:XW}{o e:Expr}{es:Yi}{f:AX}{af:Rho->Sto->R (List Er)}{apos pos:Pos}
def rSX(X:Cx):V->List V->Hp->VK->Prop:=λx vs H Q=> ∃(ks:List (Key×V))(d:Addr)(k:Key)(y:V),x=.ref d/\vs=[kV k,y]/\DK X H d ks/\ks.length<sizeLine/\(∀v,qC ks k=some v->Q v H)/\(qC ks k=none->Q y (xH H d (.dK (pP ks k y))))
def Qv:YC X "dict.setdefault" (rSX X):=by
 intro pins s σ H x vs v us Q I rx rv h;obtain⟨ks,d,k,y,rfl,rfl,dd,hz,q1,q2⟩:=h;obtain⟨u1,u2,rfl,r1,r2⟩:=vals2 rv;cases rx;have hT:s.TypeIs (.ref d) "dict":=(JX pins s σ H (.ref d) (.ref d) I rfl ⟨d,ks,rfl,dd⟩).1;obtain⟨_,hs,ws,kv,dm⟩:=iR I dd;have hl:ks.length=ws.length:=Paired.length kv;obtain⟨l1,l2⟩:=JW kv k;have hp:=tY ks k y;refine wpAny_call_entry PySem.F.slot_dict_setdefault hT PySem.F.entry_dict_setdefault ?_ (PySem.F.args_dict_setdefault_3 _ _ _);unfold Builtin.«dict.setdefault»;refine wB ?_;unfold Builtin.Dict.keyAndDefault;refine wB (wpAny_notOrdered_dict hT ?_);show wpAny _ _ (pure (d,u1,some u2)) _ _ s;refine wP ?_;show wpAny _ _ (if(d==sysModules)=true then _ else(dictSetDefault d u1 u2 >>= _)) _ _ s;rw[iN (by rw[hs];exact xF0)];refine wB (kt_dictSetDefault_pairs (knd:=yP X.prog X.w) (TF (X:=X) r1) dm (λu hu=>?_) (λhn h' dm' hs'=>?_) #[0])
 .cases hv:qC ks k with
  |some v=>
   obtain⟨u',e,ru⟩:=l1 v hv;rw[hu]at e;cases e;exact wP ⟨u,rfl,v,H,I.tok _,ru,q1 v hv⟩
  |none=>rw[l2 hv]at hu;cases hu
 .cases hv:qC ks k with
  |some v=>
   obtain⟨u',e,_⟩:=l1 v hv;rw[hn]at e;cases e
  |none=>
   have he: ∃q,h'.get? d=some q:=let ⟨q,_,_,hq,_⟩:=dm';⟨q,hq⟩;exact wP ⟨u2,rfl,y,_,I.write (t':=_) (x:=d) (e:=d) (o:=.dK (pP ks k y)) (QY dd) (.inl rfl) (λb uo hb eo=>(hs'.2 b hb).trans eo) he ⟨by omega,hs,_,QW kv _ r2,dm'⟩,r2,q2 hv⟩
def NQ(p:Er)(k y:MV)(S1:Sto):R Er:=match sW S1 p with
 |some (l,kvs)=>if sV k=true/\kvs.length<1000000 then(match look kvs k with
  |some d=>.ok (.val d) S1
  |none=>.ok (.val y) (S1.set l (.dic (putK kvs k y))))else .no
 |none=>.no
def Am(p:Er)(rs:List Er)(S:Sto):R Er:=match rs with
 |[.val k,r]=>(wV r S).bind λy S1=>NQ p k y S1
 |_=>.no
def Qw:IZ X W (rSX X) Am:=by
 intro p rs x vs α S H0 H Q α0 wd x0 dp da post
 match rs,da,post with
 |[],_,post=>exact post.elim
 |[.val _],_,post=>exact post.elim
 |.new _::_,_,post=>exact post.elim
 |.val _::_::_::_,_,post=>exact post.elim
 |[.val k,r],da,post=>
  cases da with
  |cons dk n1 l1=>
   cases l1 with
   |cons d n2 l2=>
    cases l2;obtain⟨d',S',α',e',x',y',w',dd⟩:=cR wd x0 d;have post:Post X.g W α0 H0 ((wV r S).bind λy S1=>NQ p k y S1) Q:=post;rw[e']at post;have post:Post X.g W α0 H0 (NQ p k d' S') Q:=post;unfold NQ at post;split at post
    .rename_i l kvs ed;split at post
     .rename_i hk
      have dp':DenX X.K α' H p x:=by
       cases p with
       |val m=>exact Den.ex0 y' dp
       |new ds=>cases ed
      obtain⟨c,ks,rfl,hc,hS,DDx,dl,_⟩:=Hv w' ed dp';obtain⟨k',hk'⟩:=Option.isSome_iff_exists.mp hk.1;obtain⟨g1,g2⟩:=vP dl (Ai hk');have ek:=Aj (X:=X) (α:=α') (H:=H) hk' (Den.ex0 y' dk.1);subst ek;refine⟨ks,c,k',_,rfl,rfl,DDx,?_,λv hv=>?_,λhv=>?_⟩
      .rw[dl.length];exact Nat.lt_of_lt_of_le hk.2 (fits q9)
      .cases hl:look kvs k with
       |some d2=>
        obtain⟨v',e1,e2⟩:=g1 d2 hl;rw[e1]at hv;cases hv;rw[hl]at post;exact(Post.shift x' post).val w' e2
       |none=>rw[g2 hl]at hv;cases hv
      .cases hl:look kvs k with
       |some d2=>obtain⟨v',e1,e2⟩:=g1 d2 hl;rw[e1]at hv;cases hv
       |none=>
        rw[hl]at post;exact(Post.shift (x'.trans (w'.writex hc DDx.nf)) post).val (w'.write hc DDx.nf (.inl ⟨_,zS,(ED dl (Ai hk') dd).ex0 (w'.writex hc DDx.nf).toEx0⟩)) (dd.ext (w'.writex hc DDx.nf))
     .exact post.elim
    .exact post.elim
def Qx(ho:zO X W o f)(ha:DM X W (e::es) af)
  (hbase:attributeBase o "setdefault" X.env (eval o X.env)=eval o X.env:=by rfl)
  (hfew:((backTo pos (starEach (e::es) X.env)).all (λx=>!x.1)&&(backToKw pos (keywordEach [] X.env)).all (λx=>x.1.isSome)
   &&decide ((e::es).length+([]:List Keyword).length+(if([]:List Keyword).isEmpty then 0 else 1)<30))=true:=by rfl)
  (hline:(apos.endLine==pos.line)=true:=by rfl) (hs:Q0 X e es:=by rfl) (hplain:Q1 X pos es:=by rfl):
  zO X W (.Call (.Attribute o "setdefault" apos) (e::es) [] pos) (λρ S=>(f ρ S).bind λp S1=>if QZ p S1=true then(af ρ S1).bind λrs S2=>Am p rs S2 else .no):=by
 obtain⟨to,ho,fo⟩:=ho;obtain⟨t,ha,k⟩:=ha;refine⟨_,JU JX PySem.F.plainAttrs_dict PySem.F.slot_dict_setdefault PySem.F.type_dict_setdefault Qv ho ha hbase hfew hline hs hplain,λα ρ S σ H Q wd sl q=>fo α ρ S σ H _ wd sl (q.bind λu p S1 α1 H1 e1 x1 w1 d1 q1=>?_)⟩;split at q1
 .rename_i hz;obtain⟨⟨l,kvs⟩,hz⟩:=Option.isSome_iff_exists.mp hz;obtain⟨c,xs,rfl,_,_,dd,_⟩:=Hv w1 hz d1.1;exact⟨⟨c,xs,rfl,dd⟩,k α1 ρ S1 σ H1 _ w1 (sl.ext x1) ((q1.shift x1).bind λvs rs S2 α2 H2 e2 x2 w2 d2 q2=>Qw p rs _ vs α2 S2 H1 H2 Q α1 w2 x2 (d1.1.ext x2) d2 q2)⟩
 .exact q1.elim
end
section
variable{X:Cx}{W:XW}{a b:Expr}{f g:AX}{pos:Pos}
abbrev AM:=Dk (λ_ _=>True) λi j=>Builtin.bitAnd i j
abbrev Qy:=Dk (λ_ _=>True) λi j=>Builtin.bitOr i j
def Ia(ha:zO X W a f)(hb:zO X W b g):zO X W (.BinOp a .BitAnd b pos) (λρ S=>(f ρ S).bind λp S1=>(g ρ S1).bind λq S2=>AM p q S2):=AH Mi JD ha hb
def Qz(ha:zO X W a f)(hb:zO X W b g):zO X W (.BinOp a .BitOr b pos) (λρ S=>(f ρ S).bind λp S1=>(g ρ S1).bind λq S2=>Qy p q S2):=AH Tr JD ha hb
end
section
variable{P:Program}{w:World}{KK:Type}[DecidableEq KK]{knd:HeapKind P w KK}{A:Around}{E:VP}{s:Shared}{d a:Addr}{k:KK}{xs:List (KK×Addr×Value)}
def WM{Q:Option Value->Shared->Prop}(hu:knd.room A)(hkey:knd.is s.heap k a)(hm:s.heap.DictOfH knd d xs)(h:Q ((atKey xs k).map (·.2)) {s with toks:=s.toks+knd.draws k}):wpAny (model P w) A (dictGet d (.ref a)) Q E s:=by
 obtain⟨o,es,ep,ho,hc,hd,he,his,hn⟩:=hm;unfold dictGet
 try with_reducible refine wpAny_holding ?_
 refine wB (knd.pyHash hu hkey ?_);refine wB (wpAny_dictFind_heap (s:={s with toks:=s.toks+knd.draws k}) hu hkey ho hd he his hn ?_ ?_)
 .intro hno;rw[atKey_none_of_get hno]at h;exact wP h
 .intro j p hj;refine wB (wpAny_dictEntries (s:={s with toks:=s.toks+knd.draws k}) ho hd ?_);rw[entry_at he j,hj];rw[atKey_of_get hn hj]at h;exact wP h
end
section
variable{X:Cx}{W:XW}{o e:Expr}{es:Yi}{f:AX}{af:Rho->Sto->R (List Er)}{apos pos:Pos}
def rGD(X:Cx):V->List V->Hp->VK->Prop:=λx vs H Q=> ∃(α:Ya)(kvs:Ze)(xs:List (NK×Addr×Value))(a d:Addr)(k:MV)(nk:NK)(y:V),x=.ref d/\vs=[.ref a,y]/\DD X H d xs/\DenN X.K α H kvs xs/\xC k=some nk/\fB nk<=4/\Den X.K α H k (.ref a)/\
 (∀dd v,look kvs k=some dd->Den X.K α H dd v->Q v H)/\(look kvs k=none->Q y H)
def Vt(hu:X.A.units+64<cLine):YC X "dict.get" (rGD X):=by
 intro pins s σ H x vs v us Q I rx rv h;obtain⟨α,kvs,xs,a,d,k,nk,y,rfl,rfl,dd,l,hk,e,ha,q1,q2⟩:=h;obtain⟨u1,u2,rfl,r1,r2⟩:=vals2 rv;cases rx;cases r1;obtain⟨hm,hz',hs⟩:=qX I dd l;have hT:s.TypeIs (.ref d) "dict":=(vO pins s σ H (.ref d) (.ref d) I rfl ⟨d,xs,rfl,dd⟩).1;have hl:=CB l hk;refine wpAny_call_entry PySem.F.slot_dict_get hT PySem.F.entry_dict_get ?_ (PySem.F.args_dict_get_3 _ _ _);show wpAny _ _ (dictGet d (.ref a) >>= _) _ _ s;refine wB (WM (knd:=zU X.prog X.w) (show X.A.units+1+4<cLine by omega) ⟨vM I hk ha rfl,e⟩ hm ?_)
 cases hp:atKey xs nk with
 |some p=>
  rw[hp]at hl;obtain⟨d',hd'⟩:=Option.isSome_iff_exists.mp (show(look kvs k).isSome=true from hl.symm);obtain⟨a2,u3,v3,g1,g2,g3⟩:=JV l hk hd';rw[hp]at g1;cases g1;exact wP ⟨_,rfl,v3,H,I.kept (t':=_) (λ_ _ z=>z),g3,q1 d' v3 hd' g2⟩
 |none=>
  rw[hp]at hl
  have hln:look kvs k=none:=by
   cases z:look kvs k with
   |none=>rfl
   |some _=>rw[z]at hl;cases hl
  show wpAny _ _ (Builtin.Dict.missed d (.ref a) >>= _) _ _ _;exact wB (wpAny_missed_other hs (wP ⟨u2,rfl,y,H,I.kept (t':=_) (λ_ _ z=>z),r2,q2 hln⟩))
def uA(p:Er)(rs:List Er)(S:Sto):R Er:=match rs with
 |[.val k,r]=>match bP S p with
  |some (_,kvs)=>if keyOk k=true then(match look kvs k with
   |some d=>.ok (.val d) S
   |none=>.ok r S)else .no
  |none=>.no
 |_=>.no
def Vu:IZ X W (rGD X) uA:=by
 intro p rs x vs α S H0 H Q α0 wd x0 dp da post;unfold uA at post;split at post
 .rename_i k r
  cases da with
  |cons dk n1 l1=>
   cases l1 with
   |cons dy n2 l2=>
    cases l2;split at post
    .rename_i l kvs ed;split at post
     .rename_i hk;obtain⟨nk,h1,h2,h3⟩:=tV hk;obtain⟨c,xs,rfl,hc,hS,DDx,dl⟩:=sS wd ed dp;obtain⟨a',rfl⟩:=CC (X:=X) (α:=α) (H:=H) h3 dk.1;refine⟨α,kvs,xs,a',c,k,nk,_,rfl,rfl,DDx,dl,h1,h2,dk.1,λd2 v2 e2 g2=>?_,λe2=>?_⟩
      .rw[e2]at post;exact(Post.shift x0 post).val wd g2
      .rw[e2]at post;exact post _ α H x0 wd dy
     .exact post.elim
    .exact post.elim
 .exact post.elim
def Vv(hu:X.A.units+64<cLine)(ho:zO X W o f)(ha:DM X W (e::es) af)
  (hbase:attributeBase o "get" X.env (eval o X.env)=eval o X.env:=by rfl)
  (hfew:((backTo pos (starEach (e::es) X.env)).all (λx=>!x.1)&&(backToKw pos (keywordEach [] X.env)).all (λx=>x.1.isSome)
   &&decide ((e::es).length+([]:List Keyword).length+(if([]:List Keyword).isEmpty then 0 else 1)<30))=true:=by rfl)
  (hline:(apos.endLine==pos.line)=true:=by rfl) (hs:Q0 X e es:=by rfl) (hplain:Q1 X pos es:=by rfl):
  zO X W (.Call (.Attribute o "get" apos) (e::es) [] pos) (λρ S=>(f ρ S).bind λp S1=>if qB p S1=true then(af ρ S1).bind λrs S2=>uA p rs S2 else .no):=by
 obtain⟨to,ho,fo⟩:=ho;obtain⟨t,ha,k⟩:=ha;refine⟨_,JU vO PySem.F.plainAttrs_dict PySem.F.slot_dict_get PySem.F.type_dict_get (Vt hu) ho ha hbase hfew hline hs hplain,λα ρ S σ H Q wd sl q=>fo α ρ S σ H _ wd sl (q.bind λu p S1 α1 H1 e1 x1 w1 d1 q1=>?_)⟩;split at q1
 .rename_i hz;obtain⟨⟨l,kvs⟩,hz⟩:=Option.isSome_iff_exists.mp hz;obtain⟨c,xs,rfl,_,_,dd,_⟩:=sS w1 hz d1.1;exact⟨⟨c,xs,rfl,dd⟩,k α1 ρ S1 σ H1 _ w1 (sl.ext x1) ((q1.shift x1).bind λvs rs S2 α2 H2 e2 x2 w2 d2 q2=>Vu p rs _ vs α2 S2 H1 H2 Q α1 w2 x2 (d1.1.ext x2) d2 q2)⟩
 .exact q1.elim
end
section
variable{P:Program}{w:World}{A:Around}{E:VP}{s:Shared}{R:Result->Shared->Prop}
def vS{h h':Heap}{k:NK}{a:Addr}(x:(zU P w).is h k a)(m: ∀b o,h.get? b=some o->h'.get? b=some o):(zU P w).is h' k a:=⟨DF (λb o _ _ e _=>m b o e) x.1,x.2⟩
def An(P:Program)(w:World)(h:Heap)(x:NK×Addr×Value)(v:Value):Prop:= ∃t,v=.ref t/\IsTup h t #[.ref x.2.1,x.2.2]/\(zU P w).is h x.1 x.2.1
def rW(xs:List (NK×Addr×Value)):List (NK×Addr×Value):=xs.foldl (λacc x=>storedH acc x.1 x.2.1 x.2.2) []
def HK(xs:List (NK×Addr×Value)):(rW xs).length<=xs.length:=by
 have: ∀(xs acc:List (NK×Addr×Value)),(xs.foldl (λacc x=>storedH acc x.1 x.2.1 x.2.2) acc).length<=acc.length+xs.length:=by
  intro xs
  induction xs with
  |nil=>intro acc;exact Nat.le_refl _
  |cons x xs ih=>
   intro acc;rw[List.foldl_cons,lC];have:=ih (storedH acc x.1 x.2.1 x.2.2);have:=sT (xs:=acc) (k:=x.1) (a:=x.2.1) (u:=x.2.2);omega
 have:=this xs [];rw[List.length_nil,Nat.zero_add]at this;exact this
theorem RA(xs:List (NK×Addr×Value))(i:Nat)(x:NK×Addr×Value)(h:xs[i]? =some x):rW (xs.take (i+1))=storedH (rW (xs.take i)) x.1 x.2.1 x.2.2:=by unfold rW;rw[List.take_add_one,h,List.foldl_append];rfl
def WN{p:NK->Addr->Prop}{xs:List (NK×Addr×Value)}{k:NK}{a:Addr}{u:Value}(h: ∀x∈xs,p x.1 x.2.1)(hk:p k a): ∀x∈storedH xs k a u,p x.1 x.2.1:=by
 intro x hx
 cases z:atKey xs k with
 |none=>
  rw[storedH_new z]at hx;rcases List.mem_append.mp hx with hx|hx
  .exact h x hx
  .rw[mS.mp hx];exact hk
 |some q=>
  rw[storedH_old z]at hx;obtain⟨y,hy,rfl⟩:=mM.mp hx;unfold putAt;split
  .exact h y hy
  .exact h y hy
def NS{p:NK->Addr->Prop}{xs:List (NK×Addr×Value)}(h: ∀x∈xs,p x.1 x.2.1): ∀x∈rW xs,p x.1 x.2.1:=by
 have: ∀(xs acc:List (NK×Addr×Value)),(∀x∈xs,p x.1 x.2.1)->(∀x∈acc,p x.1 x.2.1)-> ∀x∈xs.foldl (λacc x=>storedH acc x.1 x.2.1 x.2.2) acc,p x.1 x.2.1:=by
  intro xs
  induction xs with
  |nil=>intro acc _ ha;exact ha
  |cons y ys ih=>
   intro acc hx ha;rw[List.foldl_cons];exact ih _ (λx hz=>hx x (mO _ hz)) (WN ha (hx y mF0))
 exact this xs [] h λx hx=>by simp at hx
def HL{h h':Heap}{D:Addr}{xs:List (NK×Addr×Value)}(hm:h.DictOfH (zU P w) D xs)(hD: ∀o,h.get? D=some o->h'.get? D=some o)(his: ∀x∈xs,(zU P w).is h' x.1 x.2.1):h'.DictOfH (zU P w) D xs:=
 let ⟨o,es,ep,ho,r1,r2,r3,_,r5⟩:=hm;⟨o,es,ep,hD o ho,r1,r2,r3,his,r5⟩
def RB{I D:Addr}{fp:Ya}{n:Nat}{Pv:Nat->Value->Prop}{St:Nat->Heap->Prop}(W:Walks P w A.in1 I fp [I] n Pv St)(hDf:D∉fp)(kvs:List (NK×Addr×Value))(hn:kvs.length=n)(hz:n<=sizeLine)(hroom:(zU P w).room A.in1){h₀:Heap}
  (hP: ∀i v,Pv i v-> ∃kv,kvs[i]? =some kv/\An P w h₀ kv v) (hK: ∀x∈kvs,(zU P w).is h₀ x.1 x.2.1) (hI:h₀.get? I=none) (hD:h₀.get? D=none):
  ∀(k i:Nat)(j:Int)(s:Shared),n - i=k->i<=n->St i s.heap->s.heap.DictOfH (zU P w) D (rW (kvs.take i))->(∀b o,h₀.get? b=some o->s.heap.get? b=some o)->
   (∀h' tk,(∀b o,h₀.get? b=some o->h'.get? b=some o)->h'.DictOfH (zU P w) D (rW kvs)->R (.ok (.ret .none)) {s with heap:=h',toks:=tk})->
   codeAny (model P w) A (.builtin "dict.update.loop" ⟨[.ref D,.ref I,rawInt j,.none],[]⟩) R s:=by
 have hDI:D≠I:=λe=>hDf (e▸W.sub _ (mS.mpr rfl));intro k
 induction k with
 |zero=>
  intro i j s hk hi hst hS hkeep hR;have hin:i=n:=by omega
  subst hin;refine codeAny_builtin F.entry_dict_update_loop ?_;rw[Around.under_plainId F.plain_dict_update_loop _];show wpAny _ A.in1 (pyNext (.ref I) >>= _) _ _ s;refine wB (W.done s _ _ hst λh' tk hk'=>?_);show wpAny _ A.in1 (Builtin.Dict.addKeywords D [] >>= λ_=>ret Value.none) _ _ _;refine wB (wP ?_);rw[<-hn,take_length]at hS;refine wP (hR h' tk (λb o e=>?_) ?_)
  .exact hk' b o (λh=>by rw[mS.mp h,hI]at e;cases e) (hkeep b o e)
  .exact HL hS (λo e=>hk' D o (λh=>hDI (mS.mp h)) e) λx hx=>vS (NS hK x hx) λb o e=>hk' b o (λh=>by rw[mS.mp h,hI]at e;cases e) (hkeep b o e)
 |succ k ih=>
  intro i j s hk hi hst hS hkeep hR;have hlt:i<n:=by omega
  refine codeAny_builtin F.entry_dict_update_loop ?_;rw[Around.under_plainId F.plain_dict_update_loop _];show wpAny _ A.in1 (pyNext (.ref I) >>= _) _ _ s;refine wB (W.item i s _ _ hlt hst λv h' tk hPv hst' hk'=>?_);obtain⟨kv,hkv,a,rfl,hT,hkey⟩:=hP i v hPv;have hkeep': ∀b o,h₀.get? b=some o->h'.get? b=some o:=λb o e=>hk' b o (λh=>by rw[mS.mp h,hI]at e;cases e) (hkeep b o e);have hKt: ∀(m:Nat), ∀x∈kvs.take m,(zU P w).is h₀ x.1 x.2.1:=λm x hx=>hK x (List.mem_of_mem_take hx);have hS':h'.DictOfH (zU P w) D (rW (kvs.take i)):=HL hS (λo e=>hk' D o (λh=>hDI (mS.mp h)) e) λx hx=>vS (NS (hKt i) x hx) hkeep';obtain⟨o,ho,hc,nn,hdat⟩:=hT.keeps hkeep';have hTI:Shared.TypeIs {s with heap:=h',toks:=tk} (.ref a) "tuple":=⟨o,ho,hc⟩
  refine wB (wpAny_holding ?_);refine wB (wpAny_tryCatch ?_);unfold Builtin.Dict.pairItems;refine wB (wpAny_typeOf hTI ?_);rw[iP (by decide)];refine wB ?_;show wpAny _ _ (do match (<-load a).data with |.seq xs _=>pure (some xs)|_=>pure none) _ _ _;refine wB (wpAny_load ho ?_);rw[hdat];refine wP (wP ?_);show wpAny _ _ (holding [.ref kv.2.1,kv.2.2] (dictSet D (.ref kv.2.1) kv.2.2)) _ _ _;refine wpAny_holding ?_;have hlen:=HK (kvs.take i);have hl2:(kvs.take i).length<=n:=by rw[<-hn];exact List.length_take_le' i kvs
  refine wpAny_dictSet_heap (knd:=zU P w) (s:={s with heap:=h',toks:=tk}) (hsz:=by omega) hroom (vS hkey hkeep') hS' λh2 hd2 hs2=>?_;have hkeep2: ∀b o,h₀.get? b=some o->h2.get? b=some o:=λb o e=>by rw[hs2.2 b (λh=>by rw[h,hD]at e;cases e)];exact hkeep' b o e
  refine wP ⟨plainId_quiet F.plain_dict_update_loop _,ih (i+1) (j+1) _ #[0] hlt (W.frame _ _ _ hst' λb hb o e=>?_) ?_ hkeep2 λh3 tk3 k3 d3=>hR h3 tk3 k3 d3⟩
  .rw[hs2.2 b (λh=>hDf (h▸hb))];exact e
  .rw[RA _ _ _ hkv];exact hd2
def vT{l:Addr}{its:Xk}{o:Obj}{c:Nat}{kvs:List (NK×Addr×Value)}{Q:VP}(hu:A.units+64<cLine)(hA:A.handled=none)(ho:s.heap.get? l=some o)(hc:o.cls=.type "list")(hd:o.dict=none)(hdat:o.data=.seq its c)(hlen:its.size=kvs.length)(hz:its.size<=sizeLine)
  (hP: ∀(i:Nat) v,its[i]? =some v-> ∃kv,kvs[i]? =some kv/\An P w s.heap kv v) (hK: ∀x∈kvs,(zU P w).is s.heap x.1 x.2.1)
  (h: ∀h' tk,(∀b o,s.heap.get? b=some o->h'.get? b=some o)->h'.DictOfH (zU P w) s.heap.objs.size (rW kvs)->Q (.ref s.heap.objs.size) {s with heap:=h',toks:=tk}):
  wpAny (model P w) A (call (.type "dict") [.ref l]) Q E s:=by
 refine callType_codes (Q₁:=λobj s₁=>obj=.ref s.heap.objs.size/\s₁={s with heap:=s.heap.push {cls:=.type "dict",data:=.dict #[]}}) F.kt_called_dict (F.kt_typeCall_dict_1 _) F.entry_dict_init (kt_code_dict_new _ ⟨rfl,rfl⟩) ?_;rintro obj s₁ ⟨rfl,rfl⟩;have hnew:(s.heap.push {cls:=.type "dict",data:=.dict #[]}).DictOfH (zU P w) s.heap.objs.size []:=Heap.DictOfH.new s.heap;have ho':(s.heap.push {cls:=.type "dict",data:=.dict #[]}).get? l=some o:=hP0 _ ho;have hl0:=Heap.lt_size ho;refine⟨hnew.typeIs,F.args_dict_init_2 _ _,?_⟩;unfold Builtin.«dict.__init__»;refine wB ?_;unfold Builtin.Dict.selfAndRest;refine wB (wpAny_notOrdered_dict hnew.typeIs ?_);show wpAny _ _ (pure (s.heap.objs.size,[Value.ref l])) _ _ _;refine wP ?_;show wpAny _ _ (Builtin.Dict.updateFrom "dict.__init__" s.heap.objs.size (.ref l) [] .none) _ _ _;unfold Builtin.Dict.updateFrom;refine wB (wpAny_typeOf (T:="list") ⟨o,ho',hc⟩ ?_);rw[iP (by decide)];refine wB (getAttr?_miss_list ho' hc hdat hd JY (by decide+kernel) hA (λh1 tk1 k1=>?_) (by decide+kernel));rw[iP (show(none:Option Value).isNone=true from rfl)];refine wB (wpAny_rule ?_);have ho1:=k1 l o ho';refine wB (wpAny_pyIter_list (items:=its) ⟨o,ho1,hc,c,hdat⟩ ?_);have hI:l≠h1.objs.size:=Nat.ne_of_lt (Heap.lt_size ho1);have hsz:s.heap.objs.size<h1.objs.size:=by obtain⟨oo,_,_,hg,_⟩:=hnew;exact Heap.lt_size (k1 _ _ hg)
 refine wP ⟨plainId_quiet F.plain_dict_update_loop _,RB (P:=P) (w:=w) (h₀:=s.heap) (D:=s.heap.objs.size) (Walks.list (by first |exact hA|exact(show A.in1.in1.handled=none from hA)) h1.objs.size l hI its) ?_ kvs hlen.symm hz (by show _+4<cLine;first |(show A.units+1+1+4<cLine;omega)|(show A.units+1+4<cLine;omega)|(show A.units+4<cLine;omega)) hP hK ?_ ?_ _ 0 0 _ rfl (zero_le _) ⟨⟨_,Heap.get?_push_size _ rfl,rfl,rfl⟩,⟨o,hP0 _ ho1,hc,c,hdat⟩⟩ ?_ ?_ λh' tk hk hd'=>?_⟩
 .rw[mC,mS];rintro(e|e)
  .exact Nat.ne_of_lt hsz e
  .exact Nat.ne_of_lt hl0 e.symm
 .cases hg:s.heap.get? h1.objs.size with
  |none=>rfl
  |some oo=>exact absurd (Heap.lt_size hg) (Nat.lt_asymm hsz)
 .cases hg:s.heap.get? s.heap.objs.size with
  |none=>rfl
  |some oo=>exact absurd (Heap.lt_size hg) (lt_irrefl _)
 .obtain⟨oo,es,ep,hg,r1,r2,r3,_,r5⟩:=hnew;exact⟨oo,es,ep,hP0 _ (k1 _ _ hg),r1,r2,r3,λx hx=>(by cases hx),r5⟩
 .intro b oo e;exact hP0 _ (k1 _ _ (hP0 _ e))
 .exact⟨rfl,h h' tk hk hd'⟩
end
section
variable{X:Cx}{W:XW}{α:Ya}{H:Hp}{pins:Ye}{σ:St}{s:Shared}
def fP:List MV->Option (List (MV×MV))
 |[]=>some []
 |.tup [k,v]::r=>if keyOk k=true then(fP r).map ((k,v)::·)else none
 |_::_=>none
def NT(ps:Ze):List (MV×MV):=ps.foldl (λacc p=>putK acc p.1 p.2) []
theorem HM(I:Inv X pins σ H s): ∀{ds:Za}{kvs:Ze}{vs:List V}{us:Xj},fP ds=some kvs->DenL X.K α H ds vs->Vals vs us->
  ∃xs,DenN X.K α H kvs xs/\xs.length=us.length/\ ∀(i:Nat) v,us[i]? =some v-> ∃x,xs[i]? =some x/\An X.prog X.w s.heap x v
 |[],kvs,vs,us,e,l,r=>by cases e;have:=l.isnil;subst this;cases r;exact⟨[],.nil,rfl,λi v h=>by simp at h⟩
 |d::ds,kvs,vs,us,e,l,r=>by
  obtain⟨v,vr,rfl,dv,l'⟩:=l.uncons;unfold fP at e;split at e
  .cases (by assumption:d::ds=[])
  .rename_i k y r' hd;obtain⟨rfl,rfl⟩:=List.cons.inj hd;split at e
   .rename_i hk
    cases z:fP ds with
    |none=>rw[z]at e;cases e
    |some ms=>
     rw[z]at e;cases e
     cases r with
     |@cons _ u _ us ru rt=>
      obtain⟨xs,h1,h2,h3⟩:=HM I z l' rt;obtain⟨t,ws,rfl,hs,hl⟩:=yN dv;obtain⟨v1,r1,rfl,d1,l1⟩:=hl.uncons;obtain⟨v2,r2,rfl,d2,l2⟩:=l1.uncons;have e2:=l2.isnil;subst e2;cases ru;obtain⟨nk,g1,g2,g3⟩:=tV hk;obtain⟨a,rfl⟩:=CC (X:=X) g3 d1;obtain⟨its,rr,pl,hz⟩:=I.tuple hs;obtain⟨u1,u2,rfl,q1,q2⟩:=vals2 rr;cases q1;refine⟨(nk,a,u2)::xs,.cons g1 g2 d1 d2 q2 h1,by rw[lC,lC,h2],λi w hw=>?_⟩
      cases i with
      |zero=>
       cases hw;exact⟨_,rfl,t,rfl,pl,vM I g1 d1 rfl,g2⟩
      |succ i=>exact h3 i w hw
   .cases e
  .cases e
theorem HN: ∀{kvs:Ze}{xs:List (NK×Addr×Value)},DenN X.K α H kvs xs-> ∀{as:Ze}{bs:List (NK×Addr×Value)},DenN X.K α H as bs->DenN X.K α H (kvs.foldl (λacc p=>putK acc p.1 p.2) as) (xs.foldl (λacc x=>storedH acc x.1 x.2.1 x.2.2) bs)
 |_,_,.nil,as,bs,h=>h
 |_,_,.cons hk e ha hd r l,as,bs,h=>by rw[List.foldl_cons,List.foldl_cons];exact HN l (JO h hk e ha hd r)
def WO(hu:X.A.units+64<cLine):CallR X (.type "dict") (λxs H Q=> ∃α l vs ds kvs,xs=[.ref l]/\SqL X.K H l vs/\DenL X.K α H ds vs/\fP ds=some kvs/\X.calm=true/\ ∀p ys,H p=none->DenN X.K α H (NT kvs) ys->Q (.ref p) (xH H p (DN X.prog X.w p ys))):=by intro pins s σ H xs us Q I r h;obtain⟨α,l,vs,ds,kvs,rfl,hq,dl,hp,hc,q⟩:=h;obtain⟨u,rfl,rx⟩:=vals1 r;cases rx;obtain⟨its,rv,⟨o,n,ho,hcl,hd,hdat⟩,hz⟩:=I.list hq;obtain⟨xs,h1,h2,h3⟩:=HM I hp dl rv;have hl:=rv.length;refine vT (P:=X.prog) (w:=X.w) (kvs:=xs) hu (I.ok.hd hc) ho hcl hd hdat (by rw[sA,h2]) (by rw[sA];omega) (λi v e=>h3 i v (by simpa using e)) (JM I h1) λh' tk hk hdd=>?_;have hm:=HK xs;obtain⟨ob,es,ep,hob,hx,hdt,he,_,hn⟩:=hdd;refine⟨.ref s.heap.objs.size,_,I.laid (t':=tk) (o:=DN X.prog X.w s.heap.objs.size (rW xs)) hk q9 ?_,rfl,q _ _ (I.hok.fresh q9) (HN h1 .nil)⟩;refine⟨⟨by omega,beq_eq_false_iff_ne.mpr (Ne.symm (Nat.ne_of_lt (JP I))),ob,es,ep,hob,hx,hdt,he,hn⟩,⟨ob,hob⟩,?_⟩;rintro h1 h2 ⟨z1,z2,o',es',ep',ho',r⟩ mv;exact⟨z1,z2,o',es',ep',mv o' ho',r⟩
def HP:List Er->Sto->R Er
 |[r],S=>match (kH S r).bind fP with |some kvs=>.ok (.val (.loc S.length)) (S++[.dic (NT kvs)])|none=>.no
 |_,_=>.no
def Ib(hc:X.calm=true):rR X W (λxs H Q=> ∃α l vs ds kvs,xs=[.ref l]/\SqL X.K H l vs/\DenL X.K α H ds vs/\fP ds=some kvs/\X.calm=true/\ ∀p ys,H p=none->DenN X.K α H (NT kvs) ys->Q (.ref p) (xH H p (DN X.prog X.w p ys))) HP:=by
 intro rs vs α S H Q wd d post;unfold HP at post;split at post
 .split at post
  .rename_i kvs e;obtain⟨v,rfl,dv⟩:=rV d
   cases z:kH S _ with
   |none=>rw[z]at e;cases e
   |some ds=>
    rw[z]at e;obtain⟨a1,us,rfl,sq,l⟩:=rS rfl wd z dv;refine⟨α,a1,us,ds,kvs,rfl,sq,l,e,hc,λp ys hp dn=>?_⟩;have xn:=wd.newx (o:=DN X.prog X.w p ys) hp;obtain⟨x,w'⟩:=wd.put (ho:=DN X.prog X.w p ys) (m:=.dic (NT kvs)) hp (.inr ⟨_,zS,dn.ex0 ⟨⟨[p],rfl⟩,xn.tup,xn.frz⟩⟩);exact post (.ref p) (α++[p]) _ x w' (DenE.val (oE (by rw[<-wd.len,getElem?_append_right q9,sub_self];rfl)))
  .exact post.elim
 .exact post.elim
end
theorem DenF.len{K:Yj}{α:Ya}{H:Hp}: ∀{fs gs},DenF K α H fs gs->gs.length=fs.length
 |_,_,.nil=>rfl
 |_,_,.cons b l=>by rw[lC,lC,DenF.len l]
section
variable{X:Cx}{W:XW}{a b:Expr}{f g:AX}{pos:Pos}
def Vx(X:Cx):R2:=λx y H Q=> ∃(ks:List (Key×V))(d:Addr)(k:Key)(v:V),x=.ref d/\y=kV k/\DK X H d ks/\qC ks k=some v/\Q v H
def Ao:IxR X (Vx X):=by intro value slice pins s σ H x y u v Q I rx ry h hs';obtain⟨ks,d,k,v',rfl,rfl,dd,hv,q⟩:=h;cases rx;obtain⟨_,hs,ws,kv,dm⟩:=iR I dd;obtain⟨w1,e1,r1⟩:=(JW kv k).1 v' hv;exact subscriptTail_builtinR (x:=w1) dm.typeIs slot_dict_getitem.lookup (wpAny_getItem_of (knd:=yP X.prog X.w) (Q:=λr s'=>r=w1/\EP X pins σ Q r s') (TF (X:=X) ry) dm.mapOf e1 ⟨rfl,v',H,I.tok _,r1,q⟩) hs'
def KA(p q:Er)(S:Sto):R Er:=match sW S p,q with
 |some (_,kvs),.val k=>if sV k=true then(match look kvs k with |some d=>.ok (.val d) S|none=>.no)else .no
 |_,_=>.no
def Ic:VJ X W (Vx X) KA:=by
 intro p q x y α S H Q wd dp dq post;unfold KA at post;split at post
 .rename_i l kvs k ed;obtain⟨c,ks,rfl,hc,hS,DDx,dl,_⟩:=Hv wd ed dp;split at post
  .rename_i hky;obtain⟨k',hk'⟩:=Option.isSome_iff_exists.mp hky;have ek:=Aj (X:=X) (α:=α) (H:=H) hk' dq;subst ek;split at post
   .rename_i d hl;obtain⟨v',e1,e2⟩:=(vP dl (Ai hk')).1 d hl;exact⟨ks,c,k',v',rfl,rfl,DDx,e1,Post.val post wd e2⟩
   .exact post.elim
  .exact post.elim
 .exact post.elim
def Ra(ha:zO X W a f)(hb:zO X W b g)(hs:BU b:=by exact λ_ _=>rfl):zO X W (.Subscript a b pos) (λρ S=>(f ρ S).bind λp S1=>(g ρ S1).bind λq S2=>KA p q S2):=Kk Ao Ic ha hb hs
end
section
variable{P:Program}{w:World}{A:Around}{E:VP}{s:Shared}{d v it:Addr}{ep i:Nat}{od:Obj}{es:Array DictEntry}{ok ov:Value}
def Ap{Q:VP}(hv:s.heap.IsItemsView v d)(ho:s.heap.get? d=some od)(hdat:od.data=.dict es ep)
  (hQ:Q (.ref s.heap.objs.size) {s with heap:=s.heap.push {cls:=.type "dict_itemiterator",data:=.fields #[.none,.bool false,.ref d,.int 0 0,.int es.size 0,.int ep 0,.none,.none]}}):wpAny (model P w) A (pyIter (.ref v)) Q E s:=by
 obtain⟨ov,hov,hcv,hdv⟩:=id hv;refine wpAny_pyIter_slot hv.typeIs PySem.F.slot_dict_items_iter (wpAny_call_entry PySem.F.slot_dict_items_iter hv.typeIs PySem.F.entry_dict_items_iter ?_ (PySem.F.args_dict_items_iter_1 _));unfold Builtin.«dict_items.__iter__»;refine wB (wP (wB ?_));unfold Builtin.Dict_items.dictOf;refine wB (wpAny_field hov hdv (x:=.ref d) rfl (wP (wB ?_)));unfold Builtin.Dict_items.newIterator;refine wB (wpAny_dictEntries ho hdat (wB (wpAny_dictEpoch ho hdat ?_)));have hown:Builtin.Dict_items.ownsTuple "dict_itemiterator"=true:=by decide
 simp only[hown,if_true]
 refine wpAny_newObj_type (wP ⟨_,rfl,"dict_itemiterator",_,⟨_,Heap.get?_push_size _ rfl,rfl⟩,PySem.F.slot_dict_itemiterator_next.lookup,?_⟩)
  (by simp only[sizeOk,Builtin.Dict_items.ownedTupleFields,sA,lA,lC,List.length_nil,sizeLine_eq];omega)
 simpa [rawInt,Builtin.Dict_items.ownedTupleFields]using hQ
def Id{Q:Option Value->Shared->Prop}(hit:IsItemIter s.heap it d i es.size ep ok ov)(hod:s.heap.get? d=some od)(hdd:od.data=.dict es ep)(hlt':i<es.size)
  (hQ: ∀h',IsItemIterOut h' it d (i+1) es.size ep es[i].key es[i].val s.heap.objs.size->
   h'.get? s.heap.objs.size=some {cls:=.type "tuple",data:=.seq #[es[i].key,es[i].val]}->h'.objs.size=s.heap.objs.size+1->
   (∀b o,b≠it->s.heap.get? b=some o->h'.get? b=some o)->Q (some (.ref s.heap.objs.size)) {s with heap:=h'}):
  wpAny (model P w) A (pyNext (.ref it)) Q E s:=by
 obtain⟨hp,g,dr,tk,os⟩:=s;have hT:Shared.TypeIs ⟨hp,g,dr,tk,os⟩ (.ref it) "dict_itemiterator":=⟨_,hit,rfl⟩
 unfold pyNext
 refine wB (wpAny_attempt (wpAny_callSpecial?_slot (name:=Str.ofString "__next__") hT PySem.F.slot_dict_itemiterator_next
  (wpAny_call_entry PySem.F.slot_dict_itemiterator_next hT PySem.F.entry_dict_itemiterator_next ?_ (PySem.F.args_dict_itemiterator_next_1 _))))
 refine wB (wP ?_);refine wB ?_;refine wB ?_
 first |refine wB (wpAny_typeNameOfWhole_itemiter hT (wP ?_))|refine wB (wpAny_typeNameOf_itemiter hT (wP ?_))
 refine wB (wpAny_fieldsOf hit rfl ?_);have hown:Builtin.Dict_items.ownsTuple "dict_itemiterator"=true:=by decide
 simp only[hown,if_true];show wpAny _ _ (if(Value.ref d==Value.none)=true then _ else _) _ _ _;rw[iN (show¬((Value.ref d==Value.none)=true)from xF0)];refine wB (wP ?_);refine wB (wpAny_dictEntries hod hdd ?_);rw[iN (by simp)];refine wB (wP ?_);refine wB (wpAny_dictEpoch hod hdd ?_);rw[iN (by simp)];refine wP ?_;simp only[show¬((i:Int)<0)from by omega,iF,Int.toNat_natCast,Array.getElem?_eq_getElem hlt'];refine wB ?_
 first |refine wB (wpAny_typeNameOfWhole_itemiter hT (wP ?_))|refine wB (wpAny_typeNameOf_itemiter hT (wP ?_))
 refine wB (wpAny_isOneOf_itemiter hT ?_);show wpAny _ _ (setField (.ref it) 3 (rawInt ((i:Int)+1)) >>= _) _ _ ⟨hp,g,dr,tk,os⟩;refine wB (wpAny_setField_rec hit (by simp) λh₁ he₁ hs₁=>?_)
 replace hs₁:Heap.SameBut it hp h₁:=hs₁
 replace he₁:IsItemIter h₁ it d (i+1) es.size ep ok ov:=by
  have e:((i+1:Nat):Int)=(i:Int)+1:=by omega
  unfold IsItemIter;rw[e];simpa [rawInt]using he₁
 have hT₁:Shared.TypeIs ⟨h₁,g,dr,tk,os⟩ (.ref it) "dict_itemiterator":=⟨_,he₁,rfl⟩
 refine wB (wpAny_holding ?_);refine wB (wpAny_isOneOf_itemiter hT₁ ?_);refine wB (wpAny_isOneOf_itemiter hT₁ ?_);show wpAny _ _ (Builtin.Dict_items.pairFromOwner (.ref it) 6 es[i].key es[i].val) _ _ ⟨h₁,g,dr,tk,os⟩;unfold Builtin.Dict_items.pairFromOwner;refine wB (wpAny_newTuple ?_);have he₂:IsItemIter (h₁.push {cls:=.type "tuple",data:=.seq #[es[i].key,es[i].val]}) it d (i+1) es.size ep ok ov:=hP0 _ he₁;generalize hh₂:h₁.push {cls:=.type "tuple",data:=.seq #[es[i].key,es[i].val]}=h₂ at he₂;have hz₁:h₁.objs.size=hp.objs.size:=hs₁.1;have hil:it<hp.objs.size:=Heap.lt_size hit;have ht₂:h₂.get? hp.objs.size=some {cls:=.type "tuple",data:=.seq #[es[i].key,es[i].val]}:=by rw[<-hh₂, <-hz₁];exact Heap.get?_push_size _ rfl
 have hz₂:h₂.objs.size=hp.objs.size+1:=by rw[<-hh₂,Heap.size_push,hz₁]
 have hk₂: ∀b o,b≠it->hp.get? b=some o->h₂.get? b=some o:=λb o hb e=>by rw[<-hh₂];exact hP0 _ (hs₁.extBut b o hb e)
 show wpAny _ _ (Builtin.Dict_items.ownedTupleIsFree (.ref it) >>= _) _ _ ⟨h₂,g,dr,tk,os⟩;rw[hz₁];clear hh₂ he₁ hs₁ hT₁ hz₁ h₁;refine wB ?_;unfold Builtin.Dict_items.ownedTupleIsFree;refine wB (wpAny_field he₂ rfl (x:=.none) rfl (wP ?_));simp only[if_true];refine wB (wpAny_field he₂ rfl (x:=ok) rfl ?_);refine wB (wpAny_field he₂ rfl (x:=ov) rfl ?_);refine wB (wpAny_setField_rec he₂ (by simp) λh₃ he₃ hs₃=>?_)
 replace hs₃:Heap.SameBut it h₂ h₃:=hs₃
 replace he₃:IsItemIter h₃ it d (i+1) es.size ep es[i].key ov:=he₃
 refine wB (wpAny_setField_rec he₃ (by simp) λh₄ he₄ hs₄=>?_)
 replace hs₄:Heap.SameBut it h₃ h₄:=hs₄
 replace he₄:IsItemIter h₄ it d (i+1) es.size ep es[i].key es[i].val:=he₄
 refine wB (wpAny_setField_rec he₄ (by simp) λh₅ he₅ hs₅=>?_)
 replace hs₅:Heap.SameBut it h₄ h₅:=hs₅
 replace he₅:IsItemIterOut h₅ it d (i+1) es.size ep es[i].key es[i].val hp.objs.size:=he₅
 refine wB (wpAny_setField_rec he₅ (by simp) λh₆ he₆ hs₆=>?_)
 replace hs₆:Heap.SameBut it h₅ h₆:=hs₆
 replace he₆:IsItemIterOut h₆ it d (i+1) es.size ep es[i].key es[i].val hp.objs.size:=he₆
 refine wB (wpAny_letGo (wP (wP ⟨_,rfl,wP (hQ h₆ he₆ ?_ ?_ ?_)⟩)))
 .exact hs₆.extBut _ _ (Nat.ne_of_gt hil) (hs₅.extBut _ _ (Nat.ne_of_gt hil) (hs₄.extBut _ _ (Nat.ne_of_gt hil) (hs₃.extBut _ _ (Nat.ne_of_gt hil) ht₂)))
 .show h₆.objs.size=hp.objs.size+1;rw[hs₆.1,hs₅.1,hs₄.1,hs₃.1,hz₂]
 .exact λb o hb e=>hs₆.extBut b o hb (hs₅.extBut b o hb (hs₄.extBut b o hb (hs₃.extBut b o hb (hk₂ b o hb e))))
def Ie{Q:Option Value->Shared->Prop}(hh:A.handled=none)(hit:IsItemIter s.heap it d i es.size ep ok ov)(hod:s.heap.get? d=some od)(hdd:od.data=.dict es ep)(hge:es.size<=i)
  (hQ: ∀h',Heap.ExtBut it s.heap h'->Q none {s with heap:=h'}):wpAny (model P w) A (pyNext (.ref it)) Q E s:=by
 have hT:s.TypeIs (.ref it) "dict_itemiterator":=⟨_,hit,rfl⟩
 unfold pyNext
 refine wB (wpAny_attempt (wpAny_callSpecial?_slot (name:=Str.ofString "__next__") hT PySem.F.slot_dict_itemiterator_next
  (wpAny_call_entry PySem.F.slot_dict_itemiterator_next hT PySem.F.entry_dict_itemiterator_next ?_ (PySem.F.args_dict_itemiterator_next_1 _))))
 refine wB (wP ?_);refine wB ?_;refine wB ?_
 first |refine wB (wpAny_typeNameOfWhole_itemiter hT (wP ?_))|refine wB (wpAny_typeNameOf_itemiter hT (wP ?_))
 refine wB (wpAny_fieldsOf hit rfl ?_);have hown:Builtin.Dict_items.ownsTuple "dict_itemiterator"=true:=by decide
 simp only[hown,if_true];show wpAny _ _ (if(Value.ref d==Value.none)=true then _ else _) _ _ s;rw[iN (show¬((Value.ref d==Value.none)=true)from xF0)];refine wB (wP ?_);refine wB (wpAny_dictEntries hod hdd ?_);rw[iN (by simp)];refine wB (wP ?_);refine wB (wpAny_dictEpoch hod hdd ?_);rw[iN (by simp)];refine wP ?_;simp only[show¬((i:Int)<0)from by omega,iF,Int.toNat_natCast,Array.getElem?_eq_none hge];refine wB ?_
 first |refine wB (wpAny_typeNameOfWhole_itemiter hT (wP ?_))|refine wB (wpAny_typeNameOf_itemiter hT (wP ?_))
 show wpAny _ _ (setField (.ref it) 2 .none >>= _) _ _ s;refine wB (wpAny_setField hit rfl (by simp) ?_);show wpAny _ _ (newExc (.type "StopIteration") [] >>= _) _ _ _;refine wB ?_;simp only[newExc,newTuple];refine wB (wpAny_newObj_type ?_ (by size_fits));refine wB (m:=firstArgMember _ _) (wpAny_of_eq (a:=Value.none) (by first |rfl|(simp only[firstArgMember];rfl)) ?_);refine wpAny_newObj_type ?_ (by size_fits);simp only[raiseNew];refine wB (wpAny_handled ?_);rw[show A.in1.handled=none from hh];refine wB (wP (wpAny_throw ?_));refine wB (wpAny_isInstance (T:="StopIteration") (b:=true) ⟨_,Heap.get?_push_size _ rfl,rfl⟩ isSubtype_stop ?_);exact wP (hQ _ (((Heap.SameBut.update ..).extBut.push _).push _))
end
section
variable{P:Program}{w:World}{A:Around}{E:VP}{s:Shared}
def NU:entryFor table "dict_itemiterator.__iter__"=some Builtin.«dict_keyiterator.__iter__»:=
 entryFor_alias (id':="dict_keyiterator.__iter__") (by kernel_rfl) rfl (by decide+kernel) (by kernel_rfl)
def FX{it:Addr}{Q:VP}(hT:s.TypeIs (.ref it) "dict_itemiterator")(h:Q (.ref it) s):wpAny (model P w) A (pyIter (.ref it)) Q E s:=by refine wpAny_pyIter_slot hT PySem.F.slot_dict_itemiterator_iter (wpAny_call_entry PySem.F.slot_dict_itemiterator_iter hT NU ?_ (PySem.F.args_dict_itemiterator_iter_1 _));show wpAny _ _ (ret (.ref it)) _ _ s;exact wP ⟨_,rfl,"dict_itemiterator",_,hT,PySem.F.slot_dict_itemiterator_next.lookup,h⟩
end
def Iti(P:Program)(w:World)(d:Addr)(o:Obj)(xs:List (NK×Addr×Value))(vs:List V):It:=
 ⟨λi H=>H d=some (.frz o (DN P w d xs))/\i<xs.length,
   λi H v H'=> ∃p x y,H p=none/\v=.ref p/\xs[i]? =some x/\vs[i]? =some y/\H'=xH H p (.tup [.ref x.2.1,y]),
   λi H=>H d=some (.frz o (DN P w d xs))/\xs.length<=i⟩
def RD{P:Program}{w:World}{K:Yj}{elts:Yi}{kt:Nat}{pt:Pos}{d it:Addr}{o:Obj}{es:Array DictEntry}{ep:Nat}{xs:List (NK×Addr×Value)}{vs:List V}(hdat:o.data=.dict es ep)(hes:es.toList=xs.map (entryOfKey (zU P w)))(hvs:Vals vs (xs.map (·.2.2))):
  Turn P w K (.Tuple elts kt pt) (Iti P w d o xs vs) [it] it (λi h=> ∃ok ov,IsItemIter h it d i es.size ep ok ov) where
 mem:=by simp
 obj:=λi h ⟨ok,ov,st⟩ b hb=>by cases mS.mp hb;exact⟨_,st,λv q=>by cases q⟩
 keep:=λi h h' ⟨ok,ov,st⟩ k=>⟨ok,ov,k it (by simp) _ st⟩
 item:=by
  intro X hP hw hK hc i pins s σ H E I hf st hg;subst hP hw hK;obtain⟨hd,hi⟩:=hg;obtain⟨ok,ov,hit⟩:=st;obtain⟨hod,_⟩:=(show ObjOk X.prog X.w H s.heap d (.frz o (DN X.prog X.w d xs))from I.hok d _ hd)
  have hsz:es.size=xs.length:=by rw[<-Array.length_toList,hes,lM]
  have hlt:i<es.size:=by omega
  obtain⟨x,hx⟩: ∃x,xs[i]? =some x:=⟨_,gE hi⟩
  have he:es[i]=entryOfKey (zU X.prog X.w) x:=by have:=congrArg (·[i]?) hes;simp only[Array.getElem?_toList,getElem?_map,hx,Array.getElem?_eq_getElem hlt,Option.map_some]at this;exact Option.some.inj this
  have hl:=hvs.length;rw[lM]at hl;obtain⟨y,hy⟩: ∃y,vs[i]? =some y:=⟨_,gE #[0]⟩
  obtain⟨u,hu,ru⟩:=hvs.get hy;rw[getElem?_map,hx]at hu;cases hu;refine Id hit hod hdat hlt λh' a1 a2 a3 a4=>⟨_,rfl,?_⟩
  refine wpAny_letOwnedTupleGo_items a1 λh2 z2 sb2=>?_
  replace a2:h'.get? s.heap.objs.size=some {cls:=.type "tuple",data:=.seq #[.ref x.2.1,x.2.2]}:=by rw[a2,he];rfl
  have hpn:H s.heap.objs.size=none:=I.hok.fresh q9
  have I0:Inv X pins σ (xH H s.heap.objs.size (.tup [.ref x.2.1,y])) {s with heap:=s.heap.push {cls:=.type "tuple",data:=.seq #[.ref x.2.1,x.2.2]}}:=
   I.laid (t':=s.toks) (o:=.tup [.ref x.2.1,y]) (λb o e=>hP0 _ e) q9 ⟨by show 2<=sizeLine;decide,[.ref x.2.1,x.2.2],.cons rfl (.cons ru .nil),⟨_,Heap.get?_push_size _ rfl,rfl,_,rfl⟩⟩
  have lt:it<s.heap.objs.size:=Heap.lt_size hit;have fr: ∀b∈[it],xH H s.heap.objs.size (.tup [.ref x.2.1,y]) b=none:=λb hb=>by cases mS.mp hb;rw[zH (Nat.ne_of_lt lt)];exact(hf it hb).1
  have mv: ∀b o,b∉[it]->(s.heap.push {cls:=.type "tuple",data:=.seq #[.ref x.2.1,x.2.2]}).get? b=some o->h2.get? b=some o:=λb o hb e=>by
   rw[mS]at hb;refine sb2.extBut _ _ hb ?_;by_cases hbs:b=s.heap.objs.size
   .subst hbs;rw[Heap.get?_push_size _ rfl]at e;cases e;exact a2
   .rw[Heap.get?_push_ne _ _ _ hbs]at e;exact a4 b o hb e
  have I2:=I0.turnedL (h':=h2) (t':=s.toks) mv λb hb=>let ⟨_,c2,c3,c4,c5,c6⟩:=hf b hb;⟨fr b hb,c2,c3,c4,c5,c6⟩;exact⟨.ref s.heap.objs.size,_,I2,rfl,⟨s.heap.objs.size,x,y,hpn,rfl,hx,hy,rfl⟩,⟨_,_,z2⟩,fr⟩
 done:=by
  intro X hP hw hK hc i pins s σ H E I hf st hg;subst hP hw hK;obtain⟨hd,hi⟩:=hg;obtain⟨ok,ov,hit⟩:=st;obtain⟨hod,_⟩:=(show ObjOk X.prog X.w H s.heap d (.frz o (DN X.prog X.w d xs))from I.hok d _ hd)
  have hsz:es.size=xs.length:=by rw[<-Array.length_toList,hes,lM]
  refine Ie (I.ok.hd hc) hit hod hdat #[0] λh' he=>⟨rfl,?_⟩
  exact I.turnedL (h':=h') (t':=s.toks) (λb o hb e=>he b o (λz=>hb (by rw[z];simp)) e) hf
 self:=λ_ _ _ _ _ ⟨_,_,st⟩ h=>FX ⟨_,st,rfl⟩ h
section
variable{X:Cx}{W:XW}{pins:Ye}{σ:St}{H:Hp}{s:Shared}{α:Ya}{o:Expr}{f:AX}{apos pos pt:Pos}{to:TE}{elts:Yi}{kt:Nat}
def _root_.L2.Inv.freezeD{d:Addr}{ob:Obj}{kvs:Ze}{xs:List (NK×Addr×Value)}(I:Inv X pins σ H s)(dd:DD X H d xs)(dn:DenN X.K α H kvs xs)(ho:s.heap.get? d=some ob):Inv X pins σ (xH H d (.frz ob (DN X.prog X.w d xs))) s:=by
 obtain⟨⟨o',es,ep,ho',hc,hd,he,hk,hn⟩,hz,hs⟩:=qX I dd dn;have ntup: ∀zs,H d≠some (.tup zs):=λzs e=>by rcases dd with h|⟨_,h⟩<;>(rw[h]at e;cases e)
 have nown: ∀b,H d≠some (.own b):=λb e=>by rcases dd with h|⟨_,h⟩<;>(rw[h]at e;cases e)
 have ntbl: ∀b,H d≠some (.tbl b):=λb e=>by rcases dd with h|⟨_,h⟩<;>(rw[h]at e;cases e)
 have nnon:H d≠none:=λe=>by rcases dd with h|⟨_,h⟩<;>(rw[h]at e;cases e)
 have ne: ∀{b:Addr}{v:HO},H b=some v->H d≠some v->b≠d:=λe n z=>n (z▸e);refine I.step (g':=s.gens) (d':=s.drawn) (t':=s.toks) (ch:=[]) (λ_ z=>nomatch z) (λb o _ _ _ e _=>e) (λb o _ _ _ e _=>⟨o.slots,e⟩) (λb o _ e n=>?_) (λb o _ e=>⟨o,e⟩) (λb zs e=>?_) (λb o u e=>?_) (λb ps e=>?_) (λ_ z=>z) (λb u e=>?_) I.bare
 .rw[zH (show b≠d from λz=>nnon (by rw[<-z];exact n))];exact n
 .rw[zH (ne e (ntup zs))];exact e
 .rw[zH (ne e (dd.nf o u))];exact e
 .exact⟨#[],by rw[zH (ne e (ntbl ps)),e];simp⟩
 .by_cases hb:b=d
  .subst hb;rw[zS]at e;cases e;refine⟨ho,⟨hz,hs,o',es,ep,ho',hc,hd,he,hn⟩,⟨_,ho'⟩,?_⟩;rintro h1 h2 ⟨z1,z2,o1,es1,ep1,g1,r⟩ mv;exact⟨z1,z2,o1,es1,ep1,mv _ g1,r⟩
  .rw[zH hb]at e;exact(I.hok b u e).stay (λ_ _ _ r=>r) (λc r=>by rw[zH (ne r (nown b))];exact r) λc zs r=>by rw[zH (ne r (ntup zs))];exact r
def AN(l d:Addr):HO:=.ext λh=>h.IsItemsView l d
def Aq:YC X "dict.items" (λx vs H Q=> ∃d xs,x=.ref d/\vs=[]/\DD X H d xs/\ ∀l,H l=none->Q (.ref l) (xH H l (AN l d))):=by
 intro pins s σ H x vs v us Q I rx rv h;obtain⟨d,xs,rfl,rfl,dd,q⟩:=h;cases rx;have:=rv.zero;subst this;have hT:s.TypeIs (.ref d) "dict":=(vO pins s σ H (.ref d) (.ref d) I rfl ⟨d,xs,rfl,dd⟩).1
 have hs:(d==sysModules)=false:=by
  rcases dd with h|⟨rfl,h⟩
  .obtain⟨⟨hz,hs,_⟩,_⟩:=(show ObjOk X.prog X.w H s.heap d (DN X.prog X.w d xs)from I.hok d _ h)
   exact hs
  .obtain⟨_,hs,_⟩:=(show ObjOk X.prog X.w H s.heap d (.dK [])from I.hok d _ h)
   exact hs
 refine wpAny_call_entry PySem.F.slot_dict_items hT PySem.F.entry_dict_items ?_ (PySem.F.args_dict_items_1 _);refine wB ?_;unfold Builtin.Dict.noArgs;refine wB (wpAny_notOrdered_dict hT ?_);show wpAny _ _ (pure d) _ _ s;refine wP ?_;show wpAny _ _ (Builtin.Dict.showsAll d >>= _) _ _ s;unfold Builtin.Dict.showsAll;rw[iN (by rw[hs];exact xF0)];refine wB (wP ?_);refine wB (wpAny_newObj_type (wP ⟨_,rfl,.ref s.heap.objs.size,_,I.laid (o:=AN s.heap.objs.size d) (t':=s.toks) (λb o e=>hP0 _ e) q9 ⟨⟨_,Heap.get?_push_size _ rfl,rfl,rfl⟩,⟨_,Heap.get?_push_size _ rfl⟩,?_⟩,rfl,q _ (I.hok.fresh q9)⟩));rintro h1 h2 ⟨o,ho,r⟩ mv;exact⟨o,mv o ho,r⟩
def qIts(X:Cx)(R:It->Hp->Prop)(x:V)(H:Hp):Prop:= ∃l d xs vs α kvs,x=.ref l/\H l=some (AN l d)/\DD X H d xs/\DenN X.K α H kvs xs/\Vals vs (xs.map (·.2.2))/\ ∀o,R (Iti X.prog X.w d o xs vs) (xH H d (.frz o (DN X.prog X.w d xs)))
def iIts(X:Cx)(to:TE):TI:=λσ H R=>to σ H λx H1=>TyD X x H1/\ ∃d xs,x=.ref d/\([]:List V)=[]/\DD X H1 d xs/\ ∀l,H1 l=none->qIts X R (.ref l) (xH H1 l (AN l d))
def Ar(ho:PE X o to)(hbase:attributeBase o "items" X.env (eval o X.env)=eval o X.env:=by rfl)(hline:(apos.endLine==pos.line)=true:=by rfl):
  PI X (.Tuple elts kt pt) (.Call (.Attribute o "items" apos) [] [] pos) (iIts X to):=by
 intro pins s σ H R I h;refine kG (Hu vO PySem.F.plainAttrs_dict PySem.F.slot_dict_items PySem.F.type_dict_items Aq ho hbase hline pins s σ H _ I h) λv s1 ⟨x,H1,I1,r1,q1⟩=>?_;obtain⟨l,d,xs,vs,α,kvs,rfl,hl,dd,dn,hv,q⟩:=q1;cases r1;obtain⟨hview,_⟩:=(show ObjOk X.prog X.w H1 s1.heap l (AN l d)from I1.hok l _ hl)
 obtain⟨⟨od,es,ep,hod,hc,hd,he,hk,hn⟩,hz,hs⟩:=qX I1 dd dn;refine Ap hview hod hd ?_;have hp: ∀b o,s1.heap.get? b=some o->(s1.heap.push {cls:=.type "dict_itemiterator",data:=.fields #[.none,.bool false,.ref d,.int 0 0,.int es.size 0,.int ep 0,.none,.none]}).get? b=some o:=λb o e=>hP0 _ e;have I2:=(I1.kept (t':=s1.toks) hp).freezeD dd dn (hp d od hod);refine⟨s1.heap.objs.size,[s1.heap.objs.size],_,_,_,rfl,I2,RD hd he hv,⟨_,_,Heap.get?_push_size _ rfl⟩,λb hb=>?_,q od⟩;cases mS.mp hb;have nd:s1.heap.objs.size≠d:=Nat.ne_of_gt (Heap.lt_size hod);obtain⟨_,c2,c3,c4,c5,c6⟩:=I1.fpOk q9 (I1.hok.fresh (Nat.le_refl s1.heap.objs.size));exact⟨by rw[zH nd];exact I1.hok.fresh q9,c2,c3,c4,c5,c6⟩
def WP(p:Er)(S:Sto):R Wk:=match bP S p with
 |some (l,kvs)=>.ok ⟨kvs.map λkv=>.tup [kv.1,kv.2],[]⟩ (S.set l (.fdc kvs))
 |none=>.no
theorem DenN.at'{α:Ya}{H:Hp}{K:Yj}: ∀{kvs:Ze}{xs:List (NK×Addr×Value)}{i:Nat}{kv:MV×MV},DenN K α H kvs xs->kvs[i]? =some kv-> ∃x,xs[i]? =some x/\Den K α H kv.1 (.ref x.2.1)
 |_,_,0,_,.cons hk e a d r l,h=>by cases h;exact⟨_,rfl,a⟩
 |_,_,i+1,_,.cons hk e a d r l,h=>DenN.at' (i:=i) l h
def As(ho:zO X W o f)(hbase:attributeBase o "items" X.env (eval o X.env)=eval o X.env:=by rfl)(hline:(apos.endLine==pos.line)=true:=by rfl):
  GV X W (.Tuple elts kt pt) (.Call (.Attribute o "items" apos) [] [] pos) (λρ S=>(f ρ S).bind WP):=by
 obtain⟨t,ho,k⟩:=ho;refine⟨_,Ar ho hbase hline,λα ρ S σ H Rc wd sl q=>k α ρ S σ H _ wd sl (q.bind λu p S1 α1 H1 e1 x1 w1 d1 q1=>?_)⟩
 replace q1:=q1.shift x1
 unfold WP at q1;split at q1
 .rename_i l kvs ed;obtain⟨c,xs,rfl,hα,hS,dd,dl⟩:=sS w1 ed d1.1;obtain⟨vs,hv1,hv2⟩:=TD dl;refine⟨⟨c,xs,rfl,dd⟩,c,xs,rfl,rfl,dd,λv hv=>?_⟩;have xn:=w1.newx (o:=AN v c) hv;have wn:=w1.new (o:=AN v c) hv
  have dd2:DD X (xH H1 v (AN v c)) c xs:=by
   rcases dd with h|⟨e,h⟩
   .exact .inl (by rw[zH (zP h hv)];exact h)
   .exact .inr ⟨e,by rw[zH (zP h hv)];exact h⟩
  refine⟨v,c,xs,vs,α1,kvs,rfl,zS,dd2,dl.ex0 xn.toEx0,hv2,λob=>?_⟩;have xw:=wn.writex hα dd2.nf (o:=.frz ob (DN X.prog X.w c xs));have dl2:=(dl.ex0 xn.toEx0).ex0 xw.toEx0;have wf:=wn.write hα dd2.nf (o:=.frz ob (DN X.prog X.w c xs)) (ob:=.fdc kvs) ⟨ob,xs,zS,dl2⟩;refine((q1.shift xn).shift xw).here (u:=Iti X.prog X.w c ob xs vs) wf ⟨λ(α:Ya) (S:Sto) (H:Hp)=>H c=some (.frz ob (DN X.prog X.w c xs))/\DenN X.K α H kvs xs/\DenL X.K α H (kvs.map Prod.snd) vs,?_,⟨zS,dl2,(hv1.ext xn).ext xw⟩,λα1 S1 H1 α2 S2 H2 ⟨b1,b2,b3⟩ x w _=>⟨x.frz _ _ _ b1,b2.ex0 x.toEx0,DenL.ext x b3⟩,bN⟩;intro i α2 S2 H2 ⟨b1,b2,b3⟩ w2;have hlen:=b2.length;refine⟨λhi=>?_,λhi=>⟨b1,by rw[lM]at hi;omega⟩⟩;rw[lM]at hi;refine⟨⟨b1,by omega⟩,?_⟩;rintro _ _ ⟨p,x,y,hp,rfl,hx,hy,rfl⟩;obtain⟨kv,hkv⟩: ∃kv,kvs[i]? =some kv:=⟨_,gE hi⟩
  obtain⟨x',hx',dk⟩:=b2.at' hkv;rw[hx]at hx';cases hx';obtain⟨y',hy',dy⟩:=b3.at (show(kvs.map Prod.snd)[i]? =some kv.2 by rw[getElem?_map,hkv];rfl);rw[hy]at hy';cases hy';have x3:=w2.newx (o:=.tup [.ref x.2.1,y]) hp;refine⟨x3,w2.new hp,⟨x3.frz _ _ _ b1,b2.ex0 x3.toEx0,b3.ext x3⟩,.tup [kv.1,kv.2],by rw[getElem?_map,hkv];rfl,?_⟩;exact aR (.of zS) (zM (dk.ext x3) (zM (dy.ext x3) zW))
 .exact q1.elim
end
end M
end L2
namespace PySem
def NV:typeLookup (.type "zip") "keys"=pure none:=am_miss_of_fast (by decide+kernel)
theorem rL:typeLookup (.type "zip") "__getattr__"=pure none:=by rw[typeLookup_type,builtinLookup_eq_fast];kernel_rfl
def iL:entryFor table "zip.__getattribute__"=some Builtin.«object.__getattribute__»:=
 entryFor_alias (id':="object.__getattribute__") (by kernel_rfl) (by decide+kernel) (by decide+kernel) (by kernel_rfl)
def aS(a:Addr)(xs:Xk)(sl:Array (Option Value))(name:Str)(u:Tok)(hmiss:typeLookup (.type "zip") name=pure none)(hname:(["__module__","__name__","__qualname__","__doc__","__annotations__"]:Yb).contains name=false)(hsz:name.length+100<=sizeLine:=by size_fits):
  Meets (Builtin.«object.__getattribute__» ⟨[.ref a,.str name u],[]⟩) (λA R s=>s.heap.get? a=some {cls:=.type "zip",dict:=none,data:=.fields xs,slots:=sl}/\raisesAttr (.ref a) name A R s):=
 Meets.of_wp λprog w A R s hs=>by
  obtain⟨hp,g,d,tk,os⟩:=s;obtain⟨hx,hs⟩:=hs;have hT:(⟨hp,g,d,tk,os⟩:Shared).TypeIs (.ref a) "zip":=⟨_,hx,rfl⟩
  unfold Builtin.«object.__getattribute__»
  repeat (any_goals (first |assumption|wp_step))
  simp only[hname,fT,iF]
  repeat (any_goals (first |assumption|wp_step))
  exact wpAny_raiseAttrError hs.1 hs.2 (attrMsg_fits (by decide+kernel) hsz)
def getAttr?_miss_zip{prog:Program}{w:World}{A:Around}{E:VP}{s:Shared}{a:Addr}{xs:Xk}{sl:Array (Option Value)}{name:Str}{Q:Option Value->Shared->Prop}
  (hx:s.heap.get? a=some {cls:=.type "zip",dict:=none,data:=.fields xs,slots:=sl}) (hmiss:typeLookup (.type "zip") name=pure none) (hname:(["__module__","__name__","__qualname__","__doc__","__annotations__"]:Yb).contains name=false) (hA:A.handled=none)
  (h: ∀h' tk,(∀b o,s.heap.get? b=some o->h'.get? b=some o)->Q none {s with heap:=h',toks:=tk}) (hsz:name.length+100<=sizeLine:=by size_fits):
  wpAny (model prog w) A (getAttr? (.ref a) name) Q E s:=by
 obtain⟨hp,g,d,tk,os⟩:=s;have hT: ∀tk',(⟨hp,g,d,tk',os⟩:Shared).TypeIs (.ref a) "zip":=λ_=>⟨_,hx,rfl⟩
 have f1:=sub_AttributeError;have f3:=F.slot_zip_getattribute.lookup;have f4:=F.slot_zip_getattribute.bind (.ref a);have f5:=rL;unfold getAttr? getAttrBy? getAttrBy
 repeat (any_goals (first |assumption|exact hT _|((with_reducible show wpAny _ _ (call (Value.builtin "zip.__getattribute__") _ _) _ _ _);refine call_meets F.slot_zip_getattribute (hT _) iL (F.args_zip_getattribute_2 _ _) (aS a xs sl name _ hmiss hname hsz) ⟨hx,hA,λh' tk' e hx'=>?_⟩)|wp_step))
 obtain⟨t',u',he⟩:=hx'.there;show wpAny _ _ (getattributeRaised _ _ _ _ _ _ _) _ _ _;unfold getattributeRaised
 repeat (any_goals (first |assumption|wp_step))
 exact h _ _ hx'.keeps
def NW{M:Model}{A:Around}{E:VP}{s:Shared}{a:Addr}{Q:Option Obj->Shared->Prop}(h:Q (s.heap.get? a) s):wpAny M A (loadIfAlive a) Q E s:=λ_ _ _=>h
end PySem
namespace L2
namespace M
open PySem PySem.Spec PyProof.Rows
def Ig(f0 f1:Value)(TI TO:Addr):Obj:={cls:=.type "zip",dict:=none,data:=.fields #[f0,f1,.bool false,.ref TI,.ref TO],slots:=#[]}
structure ZipSt2(k1 k2:Bool)(z TI TO i1 i2 l1 l2:Addr)(i:Nat)(h:Heap):Prop where
 z: ∃T b,h.get? z=some (Ig (rawInt (T:Nat)) (.bool b) TI TO)/\T≠z/\T≠i1/\T≠i2/\ ∃o,h.get? T=some o
 ti:IsPair h TI (.ref i1) (.ref i2)
 s1:IsSub k1 h i1 l1 i
 s2:IsSub k2 h i2 l2 i
section
variable{prog:Program}{w:World}{A:Around}{E:VP}{s:Shared}{k1 k2:Bool}{z TI TO i1 i2 l1 l2:Addr}{i:Nat}{xs ys:Xk}
def NY{T:Addr}{b:Bool}{Q:Bool->Shared->Prop}(hz:s.heap.get? z=some (Ig (rawInt (T:Nat)) (.bool b) TI TO)){o:Obj}(hT:s.heap.get? T=some o)
  (hQ: ∀h',h'.get? z=some (Ig (rawInt (T:Nat)) (.bool true) TI TO)->Heap.SameBut z s.heap h'->Q false {s with heap:=h'}):
  wpAny (model prog w) A (Builtin.SmallTypes.ownedTupleIsFree (.ref z)) Q E s:=by
 unfold Builtin.SmallTypes.ownedTupleIsFree;refine wB (wpAny_field hz rfl (x:=rawInt (T:Nat)) rfl ?_);show wpAny _ _ (loadIfAlive T >>= _) _ _ _;refine wB (NW ?_);rw[hT];show wpAny _ _ (field (.ref z) 1 >>= _) _ _ _;refine wB (wpAny_field hz rfl (x:=.bool b) rfl ?_)
 cases b with
 |true=>
  refine wP (hQ s.heap hz ?_);exact⟨rfl,λ_ _=>rfl⟩
 |false=>
  show wpAny _ _ (setField (.ref z) 1 (.bool true) >>= _) _ _ _;exact wB (wpAny_setField_rec hz (by simp) λh' hz' hs'=>wP (hQ h' hz' hs'))
theorem WQ{x y:Value}{Q:VP}(D:Apart5 z TI TO i1 i2)(o1:Off l1 z TO i1 i2)(o2:Off l2 z TO i1 i2)(st:ZipSt2 k1 k2 z TI TO i1 i2 l1 l2 i s.heap)(hl1:IsSeq k1 s.heap l1 xs)(hl2:IsSeq k2 s.heap l2 ys)(hx:xs[i]? =some x)(hy:ys[i]? =some y)
  (hQ: ∀h',ZipSt2 k1 k2 z TI TO i1 i2 l1 l2 (i+1) h'->IsPair h' s.heap.objs.size x y->
   (∀c o,c≠z->c≠i1->c≠i2->s.heap.get? c=some o->h'.get? c=some o)->Q (.ref s.heap.objs.size) {s with heap:=h'}):
  wpAny (model prog w) A (Builtin.«zip.__next__» ⟨[.ref z],[]⟩) (λfin s'=> ∃v,fin=.done (.ret v)/\Q v s') E s:=by
 obtain⟨⟨T,b,hz,Tz,T1,T2,oT,hT⟩,hTI,h1,h2⟩:=st;show wpAny _ _ (field (.ref z) 2 >>= _) _ _ _;refine wB (wpAny_field hz rfl (x:=.bool false) rfl ?_);show wpAny _ _ (field (.ref z) 3 >>= _) _ _ _;refine wB (wpAny_field hz rfl (x:=.ref TI) rfl (wB (wpAny_seqItems hTI rfl ?_)));show wpAny _ _ (Builtin.SmallTypes.ownedTupleIsFree (.ref z) >>= _) _ _ _;refine wB (NY hz hT λha hza hsa=>?_);rw[iN xF0];simp only[forIn_toArray,forIn_cons,forIn_nil];refine wB (wB (wB (wpAny_holding ?_)));show wpAny _ _ (Builtin.SmallTypes.nextOf (.ref i1) >>= _) _ _ _;refine wB (fH (h1.move λo e=>hsa.extBut _ _ D.i1z e) (hl1.move λo e=>hsa.extBut _ _ o1.1 e) hx λhb h1b hsb=>wP ?_);refine wP ?_;refine wB (wB (wpAny_holding ?_));show wpAny _ _ (Builtin.SmallTypes.nextOf (.ref i2) >>= _) _ _ _;have mv: ∀c o,c≠z->c≠i1->s.heap.get? c=some o->hb.get? c=some o:=λc o n1 n3 e=>hsb.extBut _ _ n3 (hsa.extBut _ _ n1 e);refine wB (fH (h2.move λo e=>mv _ o D.i2z D.i12.symm e) (hl2.move λo e=>mv _ o o2.1 o2.2.2.1 e) hy λhd h2d hsd=>wP ?_);refine wP (wP ?_);have mve: ∀c o,c≠z->c≠i1->c≠i2->s.heap.get? c=some o->hd.get? c=some o:=λc o n1 n3 n4 e=>hsd.extBut _ _ n4 (mv c o n1 n3 e);have hsz:hd.objs.size=s.heap.objs.size:=by rw[hsd.1,hsb.1,hsa.1]
 refine wB (wpAny_newTuple (hsz:=by show 2<=sizeLine;decide) ?_);refine wP ⟨_,rfl,?_⟩;show Q (.ref hd.objs.size) _;have hzd:hd.get? z=some (Ig (rawInt (T:Nat)) (.bool true) TI TO):=hsd.extBut _ _ D.i2z.symm (hsb.extBut _ _ D.i1z.symm hza)
 have key: ∀{n:Nat},n=s.heap.objs.size->hd.objs.size=n->Q (.ref n) {s with heap:=hd.push {cls:=.type "tuple",data:=.seq #[x,y]}}:=λ{n} e1 e2=>by
  subst e1;refine hQ _ ⟨⟨T,true,hP0 _ hzd,Tz,T1,T2,oT,hP0 _ (mve T oT Tz T1 T2 hT)⟩,hP0 _ (mve TI _ D.TIz D.TIi1 D.TIi2 hTI),?_,?_⟩ ?_ λc o c1 c3 c4 e=>hP0 _ (mve c o c1 c3 c4 e)
  .exact h1b.move λo e=>hP0 _ (hsd.extBut _ _ D.i12 e)
  .exact h2d.move λo e=>hP0 _ e
  .rw[<-e2];exact Heap.get?_push_size _ rfl
 exact key hsz rfl
def Au{Q:Fin->Shared->Prop}(hh:A.handled=none)(D:Apart5 z TI TO i1 i2)(o1:Off l1 z TO i1 i2)(o2:Off l2 z TO i1 i2)(st:ZipSt2 k1 k2 z TI TO i1 i2 l1 l2 i s.heap)(hl1:IsSeq k1 s.heap l1 xs)(hl2:IsSeq k2 s.heap l2 ys)(hend:xs[i]? =none\/ys[i]? =none)
  (hE: ∀h' e,(∀c o,c≠z->c≠i1->c≠i2->s.heap.get? c=some o->h'.get? c=some o)->(∃o,h'.get? e=some o/\o.cls=.type "StopIteration")->E (.ref e) {s with heap:=h'}):
  wpAny (model prog w) A (Builtin.«zip.__next__» ⟨[.ref z],[]⟩) Q E s:=by
 obtain⟨⟨T,b,hz,Tz,T1,T2,oT,hT⟩,hTI,h1,h2⟩:=st;show wpAny _ _ (field (.ref z) 2 >>= _) _ _ _;refine wB (wpAny_field hz rfl (x:=.bool false) rfl ?_);show wpAny _ _ (field (.ref z) 3 >>= _) _ _ _;refine wB (wpAny_field hz rfl (x:=.ref TI) rfl (wB (wpAny_seqItems hTI rfl ?_)));show wpAny _ _ (Builtin.SmallTypes.ownedTupleIsFree (.ref z) >>= _) _ _ _;refine wB (NY hz hT λha hza hsa=>?_);rw[iN xF0];simp only[forIn_toArray,forIn_cons,forIn_nil];refine wB (wB (wB (wpAny_holding ?_)));show wpAny _ _ (Builtin.SmallTypes.nextOf (.ref i1) >>= _) _ _ _
 cases hx:xs[i]? with
 |none=>
  exact wB (tR hh (h1.move λo e=>hsa.extBut _ _ D.i1z e) (hl1.move λo e=>hsa.extBut _ _ o1.1 e) hx λhb e hsb he=>hE hb e (λc o c1 c3 _ q=>hsb _ _ c3 (hsa.extBut _ _ c1 q)) he)
 |some x=>
  have hy:ys[i]? =none:=by rcases hend with h|h;(rw[hx]at h;cases h);exact h
  refine wB (fH (h1.move λo e=>hsa.extBut _ _ D.i1z e) (hl1.move λo e=>hsa.extBut _ _ o1.1 e) hx λhb h1b hsb=>wP ?_);refine wP ?_;refine wB (wB (wpAny_holding ?_));show wpAny _ _ (Builtin.SmallTypes.nextOf (.ref i2) >>= _) _ _ _;have mv: ∀c o,c≠z->c≠i1->s.heap.get? c=some o->hb.get? c=some o:=λc o n1 n3 e=>hsb.extBut _ _ n3 (hsa.extBut _ _ n1 e);exact wB (tR hh (h2.move λo e=>mv _ o D.i2z D.i12.symm e) (hl2.move λo e=>mv _ o o2.1 o2.2.2.1 e) hy λhd e hsd he=>hE hd e (λc o c1 c3 c4 q=>hsd _ _ c4 (mv c o c1 c3 q)) he)
end
def ZSt(k1 k2:Bool)(z TI TO i1 i2 l1 l2:Addr)(i:Nat)(h:Heap):Prop:=ZipSt k1 k2 z TI TO i1 i2 l1 l2 i h\/ZipSt2 k1 k2 z TI TO i1 i2 l1 l2 i h
section
variable{prog:Program}{w:World}{A:Around}{E:VP}{s:Shared}{k1 k2:Bool}{z TI TO i1 i2 l1 l2:Addr}{i:Nat}{xs ys:Xk}
def Ih{x y:Value}{Q:Option Value->Shared->Prop}(D:Apart5 z TI TO i1 i2)(o1:Off l1 z TO i1 i2)(o2:Off l2 z TO i1 i2)(st:ZSt k1 k2 z TI TO i1 i2 l1 l2 i s.heap)(hl1:IsSeq k1 s.heap l1 xs)(hl2:IsSeq k2 s.heap l2 ys)(hx:xs[i]? =some x)(hy:ys[i]? =some y)
  (hQ: ∀h',ZSt k1 k2 z TI TO i1 i2 l1 l2 (i+1) h'->IsPair h' s.heap.objs.size x y->(∀c o,c≠z->c≠TO->c≠i1->c≠i2->s.heap.get? c=some o->h'.get? c=some o)->Q (some (.ref s.heap.objs.size)) {s with heap:=h'}):
  wpAny (model prog w) A (pyNext (.ref z)) Q E s:=by
 rcases st with st|st
 .have hT:s.TypeIs (.ref z) "zip":=⟨_,st.z,rfl⟩
  have hz:z<s.heap.objs.size:=Heap.lt_size st.z;obtain⟨p1,g1,_⟩:=st.s1.there;obtain⟨p2,g2,_⟩:=st.s2.there;unfold pyNext
  refine wB (wpAny_attempt (wpAny_callSpecial?_slot (name:=Str.ofString "__next__") hT F.slot_zip_next (wpAny_call_entry F.slot_zip_next hT F.entry_zip_next
   (NB D o1 o2 st hl1 hl2 hx hy λh' a1 a2 a3 a4 a5 a6=>wP (hQ h' (.inr ⟨⟨s.heap.objs.size,false,a1,Nat.ne_of_gt hz,Nat.ne_of_gt (Heap.lt_size g1),Nat.ne_of_gt (Heap.lt_size g2),_,a5⟩,a6 TI _ D.TIz D.TITO D.TIi1 D.TIi2 st.ti,a3,a4⟩) a5 a6)) (F.args_zip_next_1 _))))
 .obtain⟨T,b,hz,_⟩:=st.z;have hT:s.TypeIs (.ref z) "zip":=⟨_,hz,rfl⟩
  unfold pyNext
  refine wB (wpAny_attempt (wpAny_callSpecial?_slot (name:=Str.ofString "__next__") hT F.slot_zip_next (wpAny_call_entry F.slot_zip_next hT F.entry_zip_next
   (WQ D o1 o2 st hl1 hl2 hx hy λh' a1 a2 a3=>wP (hQ h' (.inr a1) a2 λc o c1 _ c3 c4 e=>a3 c o c1 c3 c4 e)) (F.args_zip_next_1 _))))
def Rb{Q:Option Value->Shared->Prop}(hh:A.handled=none)(D:Apart5 z TI TO i1 i2)(o1:Off l1 z TO i1 i2)(o2:Off l2 z TO i1 i2)(st:ZSt k1 k2 z TI TO i1 i2 l1 l2 i s.heap)(hl1:IsSeq k1 s.heap l1 xs)(hl2:IsSeq k2 s.heap l2 ys)(hend:xs[i]? =none\/ys[i]? =none)
  (hQ: ∀h',(∀c o,c≠z->c≠TO->c≠i1->c≠i2->s.heap.get? c=some o->h'.get? c=some o)->Q none {s with heap:=h'}):
  wpAny (model prog w) A (pyNext (.ref z)) Q E s:=by
 rcases st with st|st
 .have hT:s.TypeIs (.ref z) "zip":=⟨_,st.z,rfl⟩
  unfold pyNext
  refine wB (wpAny_attempt (wpAny_callSpecial?_slot (name:=Str.ofString "__next__") hT F.slot_zip_next (wpAny_call_entry F.slot_zip_next hT F.entry_zip_next
   (SQ hh D o1 o2 st hl1 hl2 hend λh' e hk he=>?_) (F.args_zip_next_1 _))))
  obtain⟨o,ho,hcl⟩:=he;exact wB (wpAny_isInstance (T:="StopIteration") (b:=true) ⟨o,ho,hcl⟩ isSubtype_stop (wP (hQ h' hk)))
 .obtain⟨T,b,hz,_⟩:=st.z;have hT:s.TypeIs (.ref z) "zip":=⟨_,hz,rfl⟩
  unfold pyNext
  refine wB (wpAny_attempt (wpAny_callSpecial?_slot (name:=Str.ofString "__next__") hT F.slot_zip_next (wpAny_call_entry F.slot_zip_next hT F.entry_zip_next
   (Au hh D o1 o2 st hl1 hl2 hend λh' e hk he=>?_) (F.args_zip_next_1 _))))
  obtain⟨o,ho,hcl⟩:=he;exact wB (wpAny_isInstance (T:="StopIteration") (b:=true) ⟨o,ho,hcl⟩ isSubtype_stop (wP (hQ h' λc o c1 _ c3 c4 e=>hk c o c1 c3 c4 e)))
def ZSt.frame{h h':Heap}{d:Addr}(st:ZSt k1 k2 z TI TO i1 i2 l1 l2 i h)(hd:d≠z/\d≠TI/\d≠TO/\d≠i1/\d≠i2)(k: ∀b o,b≠d->h.get? b=some o->h'.get? b=some o)(hD: ∃o,h'.get? d=some o):ZSt k1 k2 z TI TO i1 i2 l1 l2 i h':=by
 obtain⟨n1,n2,n3,n4,n5⟩:=hd;rcases st with⟨hz,hTI,⟨a,b,hTO⟩,h1,h2⟩|⟨⟨T,b,hz,Tz,T1,T2,oT,hT⟩,hTI,h1,h2⟩
 .exact .inl ⟨k _ _ n1.symm hz,k _ _ n2.symm hTI,⟨a,b,k _ _ n3.symm hTO⟩,h1.move λo e=>k _ o n4.symm e,h2.move λo e=>k _ o n5.symm e⟩
 .refine .inr ⟨⟨T,b,k _ _ n1.symm hz,Tz,T1,T2,?_⟩,k _ _ n2.symm hTI,h1.move λo e=>k _ o n4.symm e,h2.move λo e=>k _ o n5.symm e⟩;by_cases e:T=d
  .rw[e];exact hD
  .exact⟨oT,k _ _ e hT⟩
end
section
variable{prog:Program}{w:World}{K:Type}[DecidableEq K]{knd:KeyKind prog w K}{A:Around}{E:VP}{s:Shared}{R:Result->Shared->Prop}{k1 k2:Bool}{z TI TO i1 i2 l1 l2 D:Addr}{xs ys:Xk}
def Ii(hh:A.in1.handled=none)(P:Apart5 z TI TO i1 i2)(o1:Off l1 z TO i1 i2)(o2:Off l2 z TO i1 i2)(hd:D≠z/\D≠TI/\D≠TO/\D≠i1/\D≠i2){h₀:Heap}(hl1:IsSeq k1 h₀ l1 xs)(hl2:IsSeq k2 h₀ l2 ys)(kvs:List (K×Value))(hz:kvs.length<=sizeLine)
  (hkv: ∀(i:Nat)(kv:K×Value),kvs[i]? =some kv-> ∃x,xs[i]? =some x/\ys[i]? =some kv.2/\knd.is kv.1 x=true) (hend:xs[kvs.length]? =none\/ys[kvs.length]? =none)
  (fz:h₀.get? z=none) (fTO:h₀.get? TO=none) (f1:h₀.get? i1=none) (f2:h₀.get? i2=none) (fD:h₀.get? D=none):
  ∀(k i:Nat)(j:Int)(s:Shared),kvs.length - i=k->i<=kvs.length->ZSt k1 k2 z TI TO i1 i2 l1 l2 i s.heap->s.heap.DictOf knd D (merged [] (kvs.take i))->(∀b o,h₀.get? b=some o->s.heap.get? b=some o)->
   (∀h' tk,(∀b o,h₀.get? b=some o->h'.get? b=some o)->h'.DictOf knd D (merged [] kvs)->R (.ok (.ret .none)) {s with heap:=h',toks:=tk})->
   codeAny (model prog w) A (.builtin "dict.update.loop" ⟨[.ref D,.ref z,rawInt j,.none],[]⟩) R s:=by
 have nn: ∀{b c:Addr}{o:Obj},h₀.get? b=some o->h₀.get? c=none->b≠c:=λe n q=>by rw[q,n]at e;cases e
 have old: ∀{h h':Heap},(∀b o,h₀.get? b=some o->h.get? b=some o)->(∀c o,c≠z->c≠TO->c≠i1->c≠i2->h.get? c=some o->h'.get? c=some o)-> ∀b o,h₀.get? b=some o->h'.get? b=some o:=λa c b o e=>c b o (nn e fz) (nn e fTO) (nn e f1) (nn e f2) (a b o e);obtain⟨d1,d2,d3,d4,d5⟩:=hd;have dk: ∀{h h':Heap}{m:List (K×Value)},h.DictOf knd D m->(∀c o,c≠z->c≠TO->c≠i1->c≠i2->h.get? c=some o->h'.get? c=some o)->h'.DictOf knd D m:=λ⟨o,es,ep,ho,r⟩ c=>⟨o,es,ep,c D o d1 d3 d4 d5 ho,r⟩
 intro k
 induction k with
 |zero=>
  intro i j s hk hi hst hS hkeep hR;have hin:i=kvs.length:=by omega
  subst hin;refine codeAny_builtin PySem.F.entry_dict_update_loop ?_;rw[Around.under_plainId PySem.F.plain_dict_update_loop _];show wpAny _ A.in1 (pyNext (.ref z) >>= _) _ _ s;refine wB (Rb hh P o1 o2 hst (hl1.move λo e=>hkeep _ o e) (hl2.move λo e=>hkeep _ o e) hend λh' hk'=>?_);show wpAny _ A.in1 (Builtin.Dict.addKeywords D [] >>= λ_=>ret Value.none) _ _ _;refine wB (wP ?_);rw[take_length]at hS;exact wP (hR h' s.toks (old hkeep hk') (dk hS hk'))
 |succ k ih=>
  intro i j s hk hi hst hS hkeep hR;have hlt:i<kvs.length:=by omega
  obtain⟨kv,hkv'⟩: ∃kv,kvs[i]? =some kv:=⟨_,gE hlt⟩
  obtain⟨x,hx,hy,hkey⟩:=hkv i kv hkv';refine codeAny_builtin PySem.F.entry_dict_update_loop ?_;rw[Around.under_plainId PySem.F.plain_dict_update_loop _];show wpAny _ A.in1 (pyNext (.ref z) >>= _) _ _ s;refine wB (Ih P o1 o2 hst (hl1.move λo e=>hkeep _ o e) (hl2.move λo e=>hkeep _ o e) hx hy λh' hst' hpr hk'=>?_);have hkeep':=old hkeep hk';have hS':=dk hS hk';have hTI:Shared.TypeIs {s with heap:=h'} (.ref s.heap.objs.size) "tuple":=⟨_,hpr,rfl⟩
  refine wB (wpAny_holding ?_);refine wB (wpAny_tryCatch ?_);unfold Builtin.Dict.pairItems;refine wB (wpAny_typeOf hTI ?_);rw[iP (by decide)];refine wB ?_;show wpAny _ _ (do match (<-load s.heap.objs.size).data with |.seq xs _=>pure (some xs)|_=>pure none) _ _ _;refine wB (wpAny_load hpr ?_);refine wP (wP ?_);show wpAny _ _ (holding [x,kv.2] (dictSet D x kv.2)) _ _ _;refine wpAny_holding ?_;have hlen:=merged_length_le [] (kvs.take i);have hl2':(kvs.take i).length<=kvs.length:=List.length_take_le' i kvs;refine wpAny_dictSet_pairs (s:={s with heap:=h'}) (hsz:=by rw[List.length_nil]at hlen;omega) hkey hS' λh2 hd2 hs2=>?_;have hkeep2: ∀b o,h₀.get? b=some o->h2.get? b=some o:=λb o e=>by rw[hs2.2 b (nn e fD)];exact hkeep' b o e
  refine wP ⟨plainId_quiet PySem.F.plain_dict_update_loop _,ih (i+1) (j+1) _ #[0] hlt (hst'.frame ⟨d1,d2,d3,d4,d5⟩ (λb o hb e=>by rw[hs2.2 b hb];exact e) ?_) ?_ hkeep2 λh3 tk3 k3 d3=>hR h3 tk3 k3 d3⟩
  .obtain⟨o,_,_,ho,_⟩:=id hd2;exact⟨o,ho⟩
  .rw[merged_take_succ _ _ _ _ hkv'];exact hd2
def FY{kvs:List (K×Value)}{Q:VP}(hA:A.handled=none)(P:Apart5 z TI TO i1 i2)(o1:Off l1 z TO i1 i2)(o2:Off l2 z TO i1 i2)(st:ZipSt k1 k2 z TI TO i1 i2 l1 l2 0 s.heap){h₀:Heap}(hold: ∀b o,h₀.get? b=some o->s.heap.get? b=some o)
  (hl1:IsSeq k1 h₀ l1 xs) (hl2:IsSeq k2 h₀ l2 ys) (hz:kvs.length<=sizeLine) (hkv: ∀(i:Nat)(kv:K×Value),kvs[i]? =some kv-> ∃x,xs[i]? =some x/\ys[i]? =some kv.2/\knd.is kv.1 x=true) (hend:xs[kvs.length]? =none\/ys[kvs.length]? =none)
  (fz:h₀.get? z=none) (fTO:h₀.get? TO=none) (f1:h₀.get? i1=none) (f2:h₀.get? i2=none)
  (h: ∀h' tk,(∀b o,h₀.get? b=some o->h'.get? b=some o)->h'.DictOf knd s.heap.objs.size (merged [] kvs)->Q (.ref s.heap.objs.size) {s with heap:=h',toks:=tk}):
  wpAny (model prog w) A (call (.type "dict") [.ref z]) Q E s:=by
 refine callType_codes (Q₁:=λobj s₁=>obj=.ref s.heap.objs.size/\s₁={s with heap:=s.heap.push {cls:=.type "dict",data:=.dict #[]}}) PySem.F.kt_called_dict (PySem.F.kt_typeCall_dict_1 _) PySem.F.entry_dict_init (kt_code_dict_new _ ⟨rfl,rfl⟩) ?_;rintro obj s₁ ⟨rfl,rfl⟩;have hnew:(s.heap.push {cls:=.type "dict",data:=.dict #[]}).DictOf knd s.heap.objs.size []:=Heap.DictOf.new s.heap;have up: ∀b o,s.heap.get? b=some o->(s.heap.push {cls:=.type "dict",data:=.dict #[]}).get? b=some o:=λb o e=>hP0 _ e;refine⟨hnew.typeIs,PySem.F.args_dict_init_2 _ _,?_⟩;unfold Builtin.«dict.__init__»;refine wB ?_;unfold Builtin.Dict.selfAndRest;refine wB (wpAny_notOrdered_dict hnew.typeIs ?_);show wpAny _ _ (pure (s.heap.objs.size,[Value.ref z])) _ _ _;refine wP ?_;show wpAny _ _ (Builtin.Dict.updateFrom "dict.__init__" s.heap.objs.size (.ref z) [] .none) _ _ _;unfold Builtin.Dict.updateFrom;refine wB (wpAny_typeOf (T:="zip") ⟨_,up _ _ st.z,rfl⟩ ?_);rw[iP (by decide)];refine wB (getAttr?_miss_zip (up _ _ st.z) NV (by decide+kernel) hA (λh1 tk1 k1=>?_) (by decide+kernel));rw[iP (show(none:Option Value).isNone=true from rfl)];refine wB (wpAny_rule ?_);obtain⟨hzz,hTI,⟨a,b,hTO⟩,s1,s2⟩:=st;have mv: ∀b o,s.heap.get? b=some o->h1.get? b=some o:=λb o e=>k1 b o (up b o e);refine wB (wpAny_pyIter_zip (mv _ _ hzz) ?_);have ne: ∀{b:Addr}{o:Obj},s.heap.get? b=some o->s.heap.objs.size≠b:=λe=>Nat.ne_of_gt (Heap.lt_size e);obtain⟨p1,g1,_⟩:=s1.there;obtain⟨p2,g2,_⟩:=s2.there;refine wP ⟨plainId_quiet PySem.F.plain_dict_update_loop _,Ii (knd:=knd) (h₀:=h₀) (D:=s.heap.objs.size) (by first |exact hA|exact(show A.in1.in1.handled=none from hA)) P o1 o2 ⟨ne hzz,ne hTI,ne hTO,ne g1,ne g2⟩ hl1 hl2 kvs hz hkv hend fz fTO f1 f2 ?_ _ 0 0 _ rfl (zero_le _) (.inl ⟨mv _ _ hzz,mv _ _ hTI,⟨a,b,mv _ _ hTO⟩,s1.move λo e=>mv _ o e,s2.move λo e=>mv _ o e⟩) ?_ (λb o e=>mv b o (hold b o e)) λh' tk hk hd'=>⟨rfl,h h' tk hk hd'⟩⟩
 .cases hg:h₀.get? s.heap.objs.size with
  |none=>rfl
  |some oo=>exact absurd (Heap.lt_size (hold _ _ hg)) (lt_irrefl _)
 .obtain⟨oo,es,ep,hg,rest⟩:=hnew;exact⟨oo,es,ep,k1 _ _ hg,rest⟩
end
section
variable{X:Cx}{W:XW}{α:Ya}{H:Hp}{a b:Expr}{p1 p2 pos pos2:Pos}{ta:TA}{af:Rho->Sto->R (List Er)}
def tDZ(X:Cx)(ta:TA):TE:=λσ H Q=>ta σ H λvs H1=> ∃(k1 k2:Bool)(l1 l2:Addr)(us ws:List V)(ks:List Key),vs=[.ref l1,.ref l2]/\FH k1 X.K H1 l1 us/\FH k2 X.K H1 l2 ws/\us=ks.map kV/\X.calm=true/\ ∀d,H1 d=none->Q (.ref d) (xH H1 d (.dK (NL (ks.zip ws))))
theorem Av(X:Cx): ∀{ks:List Key}{is js:Xj}{ws:List V},Vals (ks.map kV) is->Vals ws js->KV (ks.zip ws) (ks.zip js)/\ ∀(i:Nat)(kv:Key×Value),(ks.zip js)[i]? =some kv-> ∃x,is[i]? =some x/\js[i]? =some kv.2/\(yP X.prog X.w).is kv.1 x=true
 |[],_,_,_,_,_=>⟨.nil,λi kv h=>by simp at h⟩
 |k::ks,_,_,_,.cons r t,.nil=>⟨.nil,λi kv h=>by simp at h⟩
 |k::ks,_,_,_,.cons r t,.cons r' t'=>by
  obtain⟨h1,h2⟩:=Av X (ks:=ks) t t';refine⟨.cons ⟨rfl,r'⟩ h1,λi kv h=>?_⟩
  cases i with
  |zero=>cases h;exact⟨_,rfl,rfl,TF r⟩
  |succ i=>exact h2 i kv h
def Ij(hg:Gl X "dict")(hm:X.mg "dict"=none)(hg2:Gl X "zip")(hm2:X.mg "zip"=none)(ha:PA X [a,b] ta)(hs:starEach [a,b] X.env=[(false,eval a X.env),(false,eval b X.env)]:=by rfl)(hs2:starEach [b] X.env=[(false,eval b X.env)]:=by rfl)
  (hz:starEach [.Call (.Name "zip" p2) [a,b] [] pos2] X.env=[(false,eval (.Call (.Name "zip" p2) [a,b] [] pos2) X.env)]:=by rfl):
  PE X (.Call (.Name "dict" p1) [.Call (.Name "zip" p2) [a,b] [] pos2] [] pos) (tDZ X ta):=by
 intro pins s σ H Q I h;refine Call_ (oA I hg hm JZ (PyProof.Rows.callWith_type1 ?_ (by rw[hz];rfl) (by rfl)));rw[hz];show wpAny _ _ (spliced ((false,eval (.Call (.Name "zip" p2) [a,b] [] pos2) X.env)::[])) _ _ s;refine Calls.spliced_cons ?_;refine Call_ (oA I hg2 hm2 ZQ (PyProof.Rows.callWith_type1 (kG (ha pos2 pins s σ H _ I h) λus s1 ⟨vs,H1,I1,r1,q1⟩=>?_) (by rw[hs,hs2]) (by rw[hs2];rfl)));obtain⟨k1,k2,l1,l2,us',ws,ks,rfl,c1,c2,rfl,hc,q⟩:=q1
 cases r1 with
 |cons r rr=>
  cases rr with
  |cons r' rr=>
   cases rr;cases r;cases r';obtain⟨its,v1,p1,z1⟩:=I1.seqK c1;obtain⟨its2,v2,p2,z2⟩:=I1.seqK c2;refine NC p1 p2 λh' st hold=>Calls.spliced_nil ?_;obtain⟨e1,e2⟩:=Av X v1 v2;have n1:=v1.length;have n2:=v2.length;rw[lM]at n1
   have lt: ∀{k:Bool}{l:Addr}{zs:Xk},IsSeq k s1.heap l zs->l<s1.heap.objs.size:=λ{k} {l} {zs} p=>by
    cases k with
    |true=>obtain⟨o,e,_⟩:=(p:s1.heap.IsList l zs);exact Heap.lt_size e
    |false=>obtain⟨o,e,_⟩:=(p:s1.heap.IsTuple l zs);exact Heap.lt_size e
   have off: ∀{l:Addr},l<s1.heap.objs.size->Off l (s1.heap.objs.size+4) (s1.heap.objs.size+3) s1.heap.objs.size (s1.heap.objs.size+1):=λ{l} h=>by exact⟨Nat.ne_of_lt (Nat.lt_of_lt_of_le h (Nat.le_add_right _ _)),Nat.ne_of_lt (Nat.lt_of_lt_of_le h (Nat.le_add_right _ _)),Nat.ne_of_lt h,Nat.ne_of_lt (Nat.lt_of_lt_of_le h (Nat.le_add_right _ _))⟩
   have fr: ∀n,s1.heap.objs.size<=n->s1.heap.get? n=none:=λn hn=>by
    cases hg:s1.heap.get? n with
    |none=>rfl
    |some oo=>exact absurd (Heap.lt_size hg) (Nat.not_lt.mpr hn)
   have hgrow:s1.heap.objs.size<=h'.objs.size:=by have:=Heap.lt_size st.z;have h4:s1.heap.objs.size+4<h'.objs.size:=this;omega
   refine FY (knd:=yP X.prog X.w) (kvs:=ks.zip its2) (s:={s1 with heap:=h'}) (I1.ok.hd hc) (apart_new _) (off (lt p1)) (off (lt p2)) st hold p1 p2 (by rw[length_zip];omega) (λi kv hi=>?_) ?_ (fr _ (Nat.le_add_right _ _)) (fr _ (Nat.le_add_right _ _)) (fr _ q9) (fr _ (Nat.le_add_right _ _)) λh2 tk hk2 hdd=>?_
   .obtain⟨x,g1,g2,g3⟩:=e2 i kv hi;exact⟨x,by simpa using g1,by simpa using g2,g3⟩
   .rw[length_zip];by_cases hle:ks.length<=its2.length
    .left;rw[min_eq_left hle,n1];simp
    .right;rw[min_eq_right #[0]];simp
   .have hf:=WL (ks.zip ws);rw[length_zip]at hf;refine⟨.ref h'.objs.size,_,I1.laid (t':=tk) hk2 hgrow (show ObjOk X.prog X.w _ h2 _ (.dK (NL (ks.zip ws)))from⟨by omega,beq_eq_false_iff_ne.mpr (Ne.symm (Nat.ne_of_lt (Nat.lt_of_lt_of_le (JP I1) hgrow))),_,TH e1 .nil,hdd⟩),rfl,q _ (I1.hok.fresh hgrow)⟩
def Sm:List Er->Sto->R Er
 |[p,q],S=>match srcOf S p with
  |some a=>match srcOf S q with
   |some b=>if a.ds.all sV=true then .ok (.val (.loc S.length)) (S++[.dic (NN (a.ds.zip b.ds))])else .no
   |none=>.no
  |none=>.no
 |_,_=>.no
theorem NZ: ∀{ds:Za}{us:List V},ds.all sV=true->DenL X.K α H ds us-> ∃ks:List Key,us=ks.map kV/\ ∀{es:Za}{ws:List V},DenL X.K α H es ws->DenK X.K α H (ds.zip es) (ks.zip ws)
 |[],us,_,l=>⟨[],by rw[l.isnil];rfl,λ_=>.nil⟩
 |d::ds,us,h,l=>by
  obtain⟨v,r,rfl,dv,l'⟩:=l.uncons;rw[List.all_cons,aE]at h;obtain⟨k',hk'⟩:=Option.isSome_iff_exists.mp h.1;obtain⟨ks,rfl,f⟩:=NZ h.2 l';refine⟨k'::ks,by rw[Aj (X:=X) hk' dv];rfl,λ{es} {ws} le=>?_⟩
  cases es with
  |nil=>rw[le.isnil];exact .nil
  |cons e es=>
   obtain⟨v2,r2,rfl,d2,l2⟩:=le.uncons;exact .cons (Ai hk') d2 (f l2)
def Ik(hc:X.calm=true)(hg:Gl X "dict")(hm:X.mg "dict"=none)(hg2:Gl X "zip")(hm2:X.mg "zip"=none)(ha:DM X W [a,b] af)(hs:starEach [a,b] X.env=[(false,eval a X.env),(false,eval b X.env)]:=by rfl)(hs2:starEach [b] X.env=[(false,eval b X.env)]:=by rfl)
  (hz:starEach [.Call (.Name "zip" p2) [a,b] [] pos2] X.env=[(false,eval (.Call (.Name "zip" p2) [a,b] [] pos2) X.env)]:=by rfl):
  zO X W (.Call (.Name "dict" p1) [.Call (.Name "zip" p2) [a,b] [] pos2] [] pos) (λρ S=>(af ρ S).bind Sm):=by
 obtain⟨t,ha,k⟩:=ha;refine⟨_,Ij hg hm hg2 hm2 ha hs hs2 hz,λα ρ S σ H Q wd sl q=>k α ρ S σ H _ wd sl (q.bind λvs rs S1 α1 H1 e x1 w1 d1 q1=>?_)⟩
 replace q1:=q1.shift x1
 unfold Sm at q1;split at q1
 .rename_i r1 r2;split at q1
  .rename_i s1 e1;split at q1
   .rename_i s2 e2;split at q1
    .rename_i hk;obtain⟨u,v,rfl,du,dv⟩:=Kl d1;obtain⟨l1,P1,rfl,p1,D1⟩:=vH w1 e1 du;obtain⟨l2,P2,rfl,p2,D2⟩:=vH w1 e2 dv;obtain⟨us,g1,g2⟩:=D1.get _ _ _ p1;obtain⟨ws,g3,g4⟩:=D2.get _ _ _ p2;obtain⟨ks,rfl,f⟩:=NZ hk g2;have dk:=f g4;refine⟨s1.k,s2.k,l1,l2,_,ws,ks,rfl,g1,g3,rfl,hc,λp hp=>?_⟩;have xn:=w1.newx (o:=.dK (NL (ks.zip ws))) hp;obtain⟨x,w'⟩:=w1.put (ho:=.dK (NL (ks.zip ws))) (m:=.dic (NN (s1.ds.zip s2.ds))) hp (.inl ⟨_,zS,(vR dk .nil).ex0 ⟨⟨[p],rfl⟩,xn.tup,xn.frz⟩⟩);exact q1 (.ref p) (α1++[p]) _ x w' (DenE.val (oE (by rw[<-w1.len,getElem?_append_right q9,sub_self];rfl)))
    .exact q1.elim
   .exact q1.elim
  .exact q1.elim
 .exact q1.elim
end
section
open PySem.SeqAt
open PySem.AutoSeq1 (wpAny_loadPart')
open PySem.MeetsSeq PySem.MeetsSeq2 PySem.MeetsSeq3
def WR(l b:Addr)(items items2:Xk)(n n2:Nat)(dd dd2:Option Addr)(sl sl2:Array (Option Value))(kk:Bool)(k:Nat):
  ∀i:Nat,items.size - i=k->i<=items.size->i<=items2.size->Meets (Builtin.«list.__eq__.loop» ⟨[.ref l,.ref b,rawInt i,rawInt 0],[]⟩)
   (λA R s=>s.heap.get? l=some {cls:=.type "list",dict:=dd,data:=.seq items n,slots:=sl}/\s.heap.get? b=some {cls:=.type "list",dict:=dd2,data:=.seq items2 n2,slots:=sl2}/\
    LexR A.in1 s (items.toList.drop i) (items2.toList.drop i) kk/\R (.ok (.ret (.bool kk))) s):=by
 induction k with
 |zero=>
  intro i hk h1 h2 prog w A R s h;obtain⟨hp,g,d,tk,os⟩:=s;obtain⟨hl,hb,hx,h⟩:=h
  wp_walk using wpAny_loadPart' hl,wpAny_loadPart' hb
  have hi1:items[((i:Nat):Int).toNat]? =none:=by simp;omega
  have hd:items.toList.drop i=[]:=by simp;omega
  rw[hd]at hx
  have hv:kk=decide (items.size<items2.size):=by
   generalize e2:items2.toList.drop i=zs at hx;have hlen:=congrArg List.length e2;rw[List.length_drop,Array.length_toList]at hlen
   cases hx with
   |nn=>simp only[List.length_nil]at hlen;exact(dF0 #[0]).symm
   |nc x xs=>simp only[lC]at hlen;exact(dT0 #[0]).symm
  rw[hv]at h;rw[hi1]
  cases hi2:items2[((i:Nat):Int).toNat]? with
  |none=>
   wp_walk using wpAny_loadPart' hl,wpAny_loadPart' hb
   exact h
  |some y=>
   wp_walk using wpAny_loadPart' hl,wpAny_loadPart' hb
   exact h
 |succ k ih=>
  intro i hk h1 h2 prog w A R s h;obtain⟨hp,g,d,tk,os⟩:=s;obtain⟨hl,hb,hx,h⟩:=h
  wp_walk using wpAny_loadPart' hl,wpAny_loadPart' hb
  have hlt:i<items.size:=by omega
  have hi1:items[((i:Nat):Int).toNat]? =some items[i]:=by simp[hlt]
  have hd:items.toList.drop i=items[i]::items.toList.drop (i+1):=by rw[List.drop_eq_getElem_cons (by simpa using hlt)];simp
  have hc:((i:Int)+1)=((i+1:Nat):Int):=by push_cast;rfl
  rw[hd]at hx;by_cases hlt2:i<items2.size
  .have hi2:items2[((i:Nat):Int).toNat]? =some items2[i]:=by simp[hlt2]
   have hd2:items2.toList.drop i=items2[i]::items2.toList.drop (i+1):=by rw[List.drop_eq_getElem_cons (by simpa using hlt2)];simp
   rw[hd2]at hx;rw[hi1,hi2]
   cases hx with
   |eq he hr=>
    refine wB (he prog w _ _ ?_)
    wp_walk
    rw[hc];exact⟨plainId_quiet plain_eq_loop _,codeAny_builtin entry_eq_loop (by rw[Around.under_plainId plain_eq_loop _];exact ih (i+1) #[0] #[0] #[0] prog w A R _ ⟨hl,hb,hr,h⟩)⟩
   |ne he hr=>
    refine wB (he prog w _ _ ?_);have hri:=hr prog w
    wp_walk using wpAny_loadPart' hl,wpAny_loadPart' hb
    rw[hi1,hi2]
    wp_walk using hri
    exact h
  .have hi2:items2[((i:Nat):Int).toNat]? =none:=by simp;omega
   have hd2:items2.toList.drop i=[]:=by simp;omega
   rw[hd2]at hx;cases hx;have hv:decide (items.size<items2.size)=false:=dF0 #[0];rw[<-hv]at h;rw[hi1,hi2]
   wp_walk using wpAny_loadPart' hl,wpAny_loadPart' hb
   exact h
def WS(l b:Addr)(items items2:Xk)(n n2:Nat)(dd dd2:Option Addr)(sl sl2:Array (Option Value))(kk:Bool):
  Meets (Builtin.«list.__lt__» ⟨[.ref l,.ref b],[]⟩)
   (λA R s=>s.heap.get? l=some {cls:=.type "list",dict:=dd,data:=.seq items n,slots:=sl}/\s.heap.get? b=some {cls:=.type "list",dict:=dd2,data:=.seq items2 n2,slots:=sl2}/\
    LexR A.in1 s items.toList items2.toList kk/\R (.ok (.ret (.bool kk))) s):=by
 intro prog w A R s h;obtain⟨hp,g,d,tk,os⟩:=s;obtain⟨hl,hb,hx,h⟩:=h;have f3:=AutoSeq1.sub_list_list
 wp_walk using wpAny_loadPart' hl,wpAny_loadPart' hb
 exact⟨plainId_quiet plain_eq_loop _,codeAny_builtin entry_eq_loop (by rw[Around.under_plainId plain_eq_loop _];exact WR l b items items2 n n2 dd dd2 sl sl2 kk _ 0 rfl (zero_le _) (zero_le _) prog w A R _ ⟨hl,hb,by simpa using hx,h⟩)⟩
end
def LstAt(h:Heap)(a:Addr)(its:Xj):Prop:= ∃o n,h.get? a=some o/\o.cls=.type "list"/\o.data=.seq its.toArray n
section
variable{A:Around}{E:VP}{s:Shared}
def Aw{M:Model}{keys:Xj}(hl:keys≠[])(h: ∀x,x∈keys-> ∃a its,x=.ref a/\LstAt s.heap a its):
  wpAny M A (keyKind' keys.toArray) (λk s'=>s'=s/\k=oneType') E s:=by
 rw[keyKind'_eq];refine wB (wpAny_mono (Srt.wp_mapMA (g:=λ_=>(none:Option Value)) λx hx=>?_) (λr s' hr=>?_) λ_ _ e=>e)
 .obtain⟨a,its,rfl,o,n,h1,h2,h3⟩:=h x hx;rw[Srt.firstOfTuple'_eq];refine wB (wpAny_typeOf (T:="list") ⟨o,h1,h2⟩ ?_);rw[iP (by decide)];exact wP ⟨rfl,rfl⟩
 .obtain⟨rfl,rfl⟩:=hr
  match keys,hl,h with
  |x::l,hl,h=>
   rw[iN (by simp),iN (by simp)];rw[oneTypeOnly'_eq];refine wB (wB (wpAny_mono (Srt.wp_mapMA (g:=λ_=>Value.type "list") λx hx=>?_) (λr s' hr=>?_) λ_ _ e=>e))
   .obtain⟨a,its,rfl,o,n,h1,h2,h3⟩:=h x hx;exact wpAny_typeOf (T:="list") ⟨o,h1,h2⟩ ⟨rfl,rfl⟩
   .obtain⟨rfl,rfl⟩:=hr;have h0:(List.map (λ_=>Value.type "list") (x::l)).toArray[0]? =some (Value.type "list"):=by simp
    have hall:((List.map (λ_=>Value.type "list") (x::l)).toArray.all λx=>x==Value.type "list")=true:=by simp only[all_toArray,all_map,List.all_eq_true];intro _ _;rfl
    rw[h0];dsimp only;rw[hall];exact wP (wP ⟨rfl,rfl⟩)
def WT{prog:Program}{w:World}{l b:Addr}{its its2:Xj}{k:Bool}{Q:Bool->Shared->Prop}(hu:A.units+2<cLine)(hl:LstAt s.heap l its)(hb:LstAt s.heap b its2)(hx:LexR A.in1 s its its2 k)(hq:Q k s):
  wpAny (model prog w) A (keyLt' oneType' (.ref l) (.ref b)) Q E s:=by
 obtain⟨⟨cls,dd,data,sl⟩,n,ho,hc,hd⟩:=hl;obtain⟨⟨cls2,dd2,data2,sl2⟩,n2,ho2,hc2,hd2⟩:=hb;simp only at hc hd hc2 hd2;subst hc hd hc2 hd2;rw[keyLt'_oneType,oneLt'_eq];simp only[if_true];refine wB (wpAny_cRoomFor #[0] ?_);refine wB (wpAny_callSpecialIfBound?_slot ⟨_,ho,rfl⟩ PySem.F.slot_list_lt (call_meets PySem.F.slot_list_lt ⟨_,ho,rfl⟩ PySem.F.entry_list_lt (PySem.F.args_list_lt_2 _ _) (WS l b _ _ n n2 dd dd2 sl sl2 k) ⟨ho,ho2,hx,?_⟩));exact wpAny_truthy_bool hq
end
def KX(l:Bool)(K:Yj)(α:Ya)(H:Hp)(d:MV)(v:V):Prop:=if l=true then∃es a vs,d=.tup es/\v=.ref a/\H a=some (.lst vs)/\a∉α/\DenL K α H es vs else Den K α H d v
inductive KXL(l:Bool)(K:Yj)(α:Ya)(H:Hp):List MV->List V->Prop
 |nil:KXL l K α H [] []
 |cons {d v ds vs}:KX l K α H d v->KXL l K α H ds vs->KXL l K α H (d::ds) (v::vs)
def WU(l:Bool)(d:MV):Er:=if l=true then(match d with |.tup es=>.new es|d=>.val d)else .val d
def Dl(l b:Bool)(d:MV):Prop:=if l=true then∃es,d=.tup es else KindD b d
abbrev TJ(l b:Bool):SortKind:=if l=true then oneType' else Af b
section
variable{l:Bool}{K:Yj}{α:Ya}{H H':Hp}
def KX.ext(x:Ext α H α H'){d:MV}{v:V}(h:KX l K α H d v):KX l K α H' d v:=by
 cases l with
 |true=>obtain⟨es,a,vs,e1,e2,h,n,l⟩:=h;exact⟨es,a,vs,e1,e2,x.keep a _ h n,n,DenL.ext x l⟩
 |false=>exact Den.ext x h
theorem KXL.ext(x:Ext α H α H'): ∀{ds:Za}{vs:List V},KXL l K α H ds vs->KXL l K α H' ds vs
 |_,_,.nil=>.nil
 |_,_,.cons h t=>.cons (h.ext x) (KXL.ext x t)
theorem KXL.length: ∀{ds:Za}{vs:List V},KXL l K α H ds vs->vs.length=ds.length
 |_,_,.nil=>rfl
 |_,_,.cons h t=>by rw[lC,lC,KXL.length t]
theorem KXL.append: ∀{ds es:Za}{vs us:List V},KXL l K α H ds vs->KXL l K α H es us->KXL l K α H (ds++es) (vs++us)
 |_,_,_,_,.nil,h=>h
 |_,_,_,_,.cons a t,h=>.cons a (KXL.append t h)
theorem KXL.at: ∀{ds:Za}{vs:List V}{i:Nat}{d:MV},KXL l K α H ds vs->ds[i]? =some d-> ∃v,vs[i]? =some v/\KX l K α H d v
 |_,_,0,_,.cons h t,e=>by cases e;exact⟨_,rfl,h⟩
 |_,_,i+1,_,.cons h t,e=>KXL.at (i:=i) t e
theorem KXL.get: ∀{ds:Za}{vs:List V}{i:Nat}{v:V},KXL l K α H ds vs->vs[i]? =some v-> ∃d,ds[i]? =some d/\KX l K α H d v
 |_,_,0,_,.cons h t,e=>by cases e;exact⟨_,rfl,h⟩
 |_,_,i+1,_,.cons h t,e=>KXL.get (i:=i) t e
def KXL.den: ∀{ds:Za}{vs:List V},KXL false K α H ds vs->DenL K α H ds vs
 |_,_,.nil=>zW
 |_,_,.cons h t=>zM h t.den
def Re{b:Bool}{d:MV}{u:V}(k:Dl l b d)(h:DenX K α H (WU l d) u):KX l K α H d u:=by
 cases l with
 |true=>obtain⟨es,rfl⟩:=k;obtain⟨b,vs,e,h,n,l⟩:=h;exact⟨es,b,vs,rfl,e,h,n,l⟩
 |false=>exact h
end
section
variable{X:Cx}{l b:Bool}{α:Ya}{S:Sto}{H:Hp}{pins:Ye}{σ:St}{s:Shared}{k:Nat}{fa:Addr}{fd:FuncData}{ps:Yb}{Fd:List MV->Sto->R Er}
structure LpX(l:Bool)(X:Cx)(pins:Ye)(σ:St)(α:Ya)(S:Sto)(H:Hp)(L KS:Addr)(e1:Nat)(kds:Za)(m:Nat)(s':Shared):Prop where
 go: ∃(H':Hp)(ks:Xj)(n:Nat)(kvs:List V),Inv X pins σ H' s'/\Ext α H α H'/\Wd X.g α S H'/\s'.heap.get? L=some (seqObj "list" #[] e1)/\s'.heap.get? KS=some (seqObj "list" ks.toArray n)/\H' L=none/\H' KS=none/\
  Vals kvs ks/\KXL l X.K α H' (kds.take m) kvs
def Ax(F:FnOk X.prog X.w X.K X.mg X.base CZ k fa fd ps (QF X.g 1 Fd))(hr:Room (k+2) X.A)(hb:Binds X.K fd ps []){L KS:Addr}{e1:Nat}{ds kds:Za}{xs:List V}{its:Xj}(hne:L≠KS)
  (fL: ∀H',H' L=none->pN X pins H' L) (fK: ∀H',H' KS=none->pN X pins H' KS) (dl:DenL X.K α H ds xs) (rv:Vals xs its) (hlen:ds.length<64) (hkl:kds.length=ds.length)
  (hk: ∀(m:Nat) d kd,ds[m]? =some d->kds[m]? =some kd->zF 1 Fd [.val d] S=.ok (WU l kd) S) (hkind: ∀d,d∈kds->Dl l b d) {m:Nat} {x:Value} (hx:its[m]? =some x) {A':Xk} {E':VP} {P:ForInStep PUnit->Shared->Prop}
  (h:LpX l X pins σ α S H L KS e1 kds m s) (hp: ∀s',LpX l X pins σ α S H L KS e1 kds (m+1) s'->P (.yield ⟨⟩) s'):wpAny (model X.prog X.w) X.A.in1.in1 (Srt.kStep L fa A' (.ref KS) x) P E' s:=by
 obtain⟨H',ks,n,kvs,I,xt,wd,gL,gK,nL,nK,vk,dk⟩:=h.go;have hm:m<xs.length:=by rw[rv.length];exact(gS.mp hx).1
 obtain⟨xv,hxv⟩: ∃xv,xs[m]? =some xv:=⟨xs[m],gE hm⟩
 obtain⟨x',hx',rx⟩:=rv.get hxv;rw[hx]at hx';cases hx';obtain⟨d,hd,dd⟩:=dl.get hxv;obtain⟨kd,hkd⟩: ∃kd,kds[m]? =some kd:=⟨kds[m]'(by rw[hkl, <-dl.length];exact hm),gE _⟩
 have hc:=hk m d kd hd hkd
 have I2:=I.pinned (fp:=[L,KS]) (λb hb=>by
  rcases mC.mp hb with rfl|hb
  .exact fL _ nL
  .rw[mS.mp hb];exact fK _ nK) (λb hb=>by
  rcases mC.mp hb with rfl|hb
  .exact⟨_,gL,λv z=>by cases z⟩
  .rw[mS.mp hb];exact⟨_,gK,λv z=>by cases z⟩)
 have pl:pS [L,KS] s.heap=[(L,seqObj "list" #[] e1),(KS,seqObj "list" ks.toArray n)]:=by unfold pS;simp[gL,gK]
 rw[pl]at I2;unfold Srt.kStep;refine wB (wpAny_attempt (wpAny_mono (Hr (Q:=λu H2=> ∃α2,Ext α H' α2 H2/\Wd X.g α2 S H2/\KX l X.K α2 H2 kd u) F hr hb I2 (us:=[x]) (vs:=[xv]) (.cons rx .nil) ?_) (λu s2 h2=>?_) λ_ _ e=>e))
 .refine GW (W:=W0) (Ext.refl α H') wd (rs:=[.val d]) (.cons (DenE.val (dd.ext xt)) (λds b e=>by cases e) .nil) ?_;rw[hc];exact λu α2 H2 x2 w2 d2=>⟨α2,x2,w2,Re (hkind kd (mem_of_getElem? hkd)) d2.1⟩
 .obtain⟨v,H2,I3,rv2,α2,x2,w2,d2⟩:=h2;have hα:=Ql wd x2 w2;subst hα;have pL:=I3.pin (L,seqObj "list" #[] e1) (by simp);have pK:=I3.pin (KS,seqObj "list" ks.toArray n) (by simp);have I4:=I3.unpinned;dsimp only;have kl:ks.length<64:=by rw[<-vk.length,dk.length,lT];omega
  refine wB (listUpdate_at pK.1 rfl ?_ (by rw[sA];have:=sizeLine_eq;omega) (by rw[Array.size_push,sA];have:=sizeLine_eq;omega));obtain⟨n',gK'⟩: ∃n',(s2.heap.update KS (Obj.mapSeq λv=>v.push u)).get? KS=some (seqObj "list" (ks++[u]).toArray n'):=⟨_,by have:=get?_update_seq pK.1 (λv=>v.push u);rw[List.push_toArray]at this;exact this⟩
  refine wP (hp _ ⟨H2,ks++[u],n',kvs++[v],?_,xt.trans x2,w2,?_,gK',pL.2.1,pK.2.1,vk.append (.cons rv2 .nil),?_⟩)
  .obtain⟨f0,f1,f2,f3,f4,f5⟩:=fK H2 pK.2.1;exact I4.turned (t':=s2.toks) (λb o hb e=>(Heap.get?_update_other _ _ (Ne.symm hb)).trans e) f0 f1 f3 f4 f5
  .exact(Heap.get?_update_other _ _ (Ne.symm hne)).trans pL.1
  .rw[List.take_succ,hkd];exact(KXL.ext x2 dk).append (.cons d2 .nil)
def Ay{es:Za}(h:bQ (.tup es)=true):tX es=true:=by unfold bQ at h;exact h
def Rf(I:Inv X pins σ H s){d d':MV}{v:V}(p:bQ d=true)(p':bQ d'=true)(h:KX l X.K α H d v)(h':KX l X.K α H d' v):d=d':=by
 cases l with
 |true=>
  obtain⟨es,a,vs,rfl,rfl,h1,_,l1⟩:=h;obtain⟨es',a',vs',rfl,e,h2,_,l2⟩:=h';cases e;rw[h1]at h2;cases h2;rw[DZ I (Ay p) (Ay p') l1 l2]
 |false=>exact TB I p p' h h'
def RE(I:Inv X pins σ H s){a:Addr}{vs:List V}(h:H a=some (.lst vs)): ∃its,Vals vs its/\LstAt s.heap a its:=by obtain⟨its,r,⟨o,n,ho,hcl,hd,hdat⟩,z⟩:=I.list (.of h:SqL X.K H a vs);exact⟨its,r,o,n,ho,hcl,hdat⟩
def Il(I:Inv X pins σ H s)(wd:Wd X.g α S H){A:Around}(hu:A.units+64<cLine){d f:MV}{x y:V}{u v:Value}{k:Bool}(kd:Dl l b d)(kf:Dl l b f)(h1:KX l X.K α H d x)(h2:KX l X.K α H f y)(rx:RelV x u)(ry:RelV y v)
  (h:uX S zG d f=some k) (prog:Program) (w:World) (E:VP) (Q:Bool->Shared->Prop) (hq:Q k s):wpAny (model prog w) A (keyLt' (TJ l b) u v) Q E s:=by
 cases l with
 |false=>exact Hq I wd hu kd kf h1 h2 rx ry h prog w E Q hq
 |true=>
  obtain⟨es,a,vs,rfl,rfl,g1,_,l1⟩:=h1;obtain⟨es',a',vs',rfl,rfl,g2,_,l2⟩:=h2;cases rx;cases ry;obtain⟨its,v1,t1⟩:=RE I g1;obtain⟨its2,v2,t2⟩:=RE I g2;have h':tO (eqv S 39) (uX S 39) es es'=some k:=h;have hu1:A.in1.units+39<cLine:=by show A.units+1+39<cLine;omega
  exact WT #[0] t1 t2 (SJ (λd f x y u v k a b c d' e=>vF I wd 39 A.in1 d f x y u v k hu1 a b c d' e) (λd f x y u v k a b c d' e=>JC I wd 39 A.in1 d f x y u v k hu1 a b c d' e) l1 l2 v1 v2 h') hq
def KB(l:Bool)(K:Yj)(α:Ya)(H:Hp)(kds:Za)(u:Value):MV:=
 open Classical in if h: ∃d v,d∈kds/\KX l K α H d v/\RelV v u then Classical.choose h else kds.headD .non
def Sn(l:Bool)(K:Yj)(α:Ya)(H:Hp)(S:Sto)(kds:Za)(p q:Keyed):Bool:=(uX S zG (KB l K α H kds p.1) (KB l K α H kds q.1)).getD false
def jX{K:Yj}{kds:Za}(hne:kds≠[])(u:Value):KB l K α H kds u∈kds:=by
 unfold KB;split
 .rename_i h;obtain⟨v,h1,_⟩:=Classical.choose_spec h;exact h1
 .match kds,hne with
  |x::l,_=>exact mF0
def vU{K:Yj}{kds:Za}{u:Value}(h: ∃d v,d∈kds/\KX l K α H d v/\RelV v u): ∃v,KX l K α H (KB l K α H kds u) v/\RelV v u:=by unfold KB;rw[dif_pos h];obtain⟨v,_,h2,h3⟩:=Classical.choose_spec h;exact⟨v,h2,h3⟩
def TL(I:Inv X pins σ H s){kds:Za}{kvs:List V}{ks:Xj}(hpu: ∀d,d∈kds->bQ d=true)(dk:KXL l X.K α H kds kvs)(vk:Vals kvs ks){i:Nat}{u:Value}{a:MV}(hu:ks[i]? =some u)(ha:kds[i]? =some a):
  KB l X.K α H kds u=a:=by
 obtain⟨v,hv,da⟩:=dk.at ha;obtain⟨u',hu',r⟩:=vk.get hv;rw[hu]at hu';cases hu';have ma:a∈kds:=mem_of_getElem? ha;have ne:kds≠[]:=λz=>by rw[z]at ma;cases ma
 obtain⟨v',d',r'⟩:=vU (K:=X.K) (α:=α) (H:=H) ⟨a,v,ma,da,r⟩;rw[r'.inj r]at d';exact Rf I (hpu _ (jX ne u)) (hpu a ma) d' da
theorem Vy(I:Inv X pins σ H s)(wd:Wd X.g α S H){A:Around}(hu:A.units+64<cLine){kds:Za}(hne:kds≠[])(hkind: ∀d,d∈kds->Dl l b d)(ho:OrdD S kds){E':VP}:
  Srt.Cmp (model X.prog X.w) A E' s (TJ l b) (λp=> ∃d v,d∈kds/\KX l X.K α H d v/\RelV v p.1) (Sn l X.K α H S kds) where
 go x y hx hy st hk Q hq:=by
  obtain⟨v1,d1,r1⟩:=vU hx;obtain⟨v2,d2,r2⟩:=vU hy;obtain⟨t,ht⟩:=ho.any _ (jX (l:=l) (K:=X.K) (α:=α) (H:=H) hne x.1) _ (jX (l:=l) (K:=X.K) (α:=α) (H:=H) hne y.1);have e:Sn l X.K α H S kds x y=t:=by unfold Sn;rw[ht];rfl
  rw[e]at hq;exact Srt.wp_lt hk (λE Q hq=>Il I wd hu (hkind _ (jX hne x.1)) (hkind _ (jX hne y.1)) d1 d2 r1 r2 ht X.prog X.w E Q hq) hq
 tr x y z h1 h2:=by unfold Sn at h1 h2 ⊢;have mx:=jX (l:=l) (K:=X.K) (α:=α) (H:=H) hne x.1;have my:=jX (l:=l) (K:=X.K) (α:=α) (H:=H) hne y.1;have mz:=jX (l:=l) (K:=X.K) (α:=α) (H:=H) hne z.1;obtain⟨t1,e1⟩:=ho.any _ my _ mx;obtain⟨t2,e2⟩:=ho.any _ mz _ my;rw[e1]at h1;rw[e2]at h2;have h1:t1=false:=h1;have h2:t2=false:=h2;subst h1 h2;rw[ho.tr _ mx _ my _ mz e1 e2];rfl
 as x y h:=by unfold Sn at h ⊢;have mx:=jX (l:=l) (K:=X.K) (α:=α) (H:=H) hne x.1;have my:=jX (l:=l) (K:=X.K) (α:=α) (H:=H) hne y.1;obtain⟨t1,e1⟩:=ho.any _ mx _ my;rw[e1]at h;have h:t1=true:=h;subst h;rw[ho.as _ mx _ my e1];rfl
def Rg(I:Inv X pins σ H s){A:Around}{kds:Za}{kvs:List V}{ks:Xj}(hne:kds≠[])(hkind: ∀d,d∈kds->Dl l b d)(dk:KXL l X.K α H kds kvs)(vk:Vals kvs ks){E':VP}:
  wpAny (model X.prog X.w) A (keyKind' ks.toArray) (λq s'=>s'=s/\q=TJ l b) E' s:=by
 cases l with
 |false=>exact Qm I hne hkind dk.den vk
 |true=>
  have ne:ks≠[]:=λz=>by have h1:=vk.length;have h2:=dk.length;rw[z]at h1;exact hne (List.length_eq_zero_iff.mp (by rw[<-h2,h1];rfl))
  refine Aw ne λu hu=>?_;obtain⟨i,hi⟩:=getElem?_of_mem hu;have hl:i<kvs.length:=by rw[vk.length];exact(gS.mp hi).1
  obtain⟨u',h1,r⟩:=vk.get (gE hl);rw[hi]at h1;cases h1;obtain⟨d,h2,es,a,vs,rfl,e,h3,_,_⟩:=dk.get (gE hl);rw[e]at r;cases r;obtain⟨its,_,t⟩:=RE I h3;exact⟨a,its,rfl,t⟩
def Az(F:FnOk X.prog X.w X.K X.mg X.base CZ k fa fd ps (QF X.g 1 Fd))(hr:Room (k+2) X.A)(hb:Binds X.K fd ps [])(I:Inv X pins σ H s)(wd:Wd X.g α S H){la:Addr}{xs:List V}{ds kds:Za}(hl:SqL X.K H la xs)(dl:DenL X.K α H ds xs)
  (hlen:ds.length<64) (hkl:kds.length=ds.length) (hk: ∀(m:Nat) d kd,ds[m]? =some d->kds[m]? =some kd->zF 1 Fd [.val d] S=.ok (WU l kd) S) (hpu: ∀d,d∈kds->bQ d=true) (hkind: ∀d,d∈kds->Dl l b d) (hord:OrdD S kds) {Q:VK}
  (hQ: ∀(idx:Db)(H':Hp)(p:Addr)(ys:List V),idx.Perm (List.range ds.length)->idx.Pairwise (λi j=> ∀a c,kds[i]? =some a->kds[j]? =some c->uX S zG c a=some false)->Ext α H α H'->Wd X.g α S H'->H' p=none->H p=none->
   DenL X.K α H' (idx.filterMap (ds[·]?)) ys->Q (.ref p) (xH H' p (.lst ys))):wpAny (model X.prog X.w) X.A (call (.builtin "sorted") [.ref la] [("key",.ref fa)]) (EP X pins σ Q) X.xe s:=by
 obtain⟨its,rv,⟨o,n0,e0,hc0,_,hd0⟩,_⟩:=I.list hl;have isl:s.heap.IsList la its.toArray:=⟨o,e0,hc0,n0,hd0⟩
 have hil:its.length=ds.length:=by rw[<-rv.length,dl.length]
 have hln:=sizeLine_eq;refine call_function_entry_kw kind_sorted plain_sorted entry_sorted (JS _ _) ?_;unfold Builtin.«sorted»;refine wB (m:=checkCount "sorted" 1 1 _) (wP ?_);refine wB (collect_list isl ?_ #[0]);refine wB (wpAny_newList ?_);generalize hh1:(s.heap.push (seqObj "list" #[] 0)).update s.heap.objs.size (Obj.mapSeq (· ++its.toArray))=h1;have hsz:h1.objs.size=s.heap.objs.size+1:=by rw[<-hh1,Heap.size_update,size_push']
 have k1: ∀b u,s.heap.get? b=some u->h1.get? b=some u:=λb u e=>by rw[<-hh1,Heap.get?_update_other _ _ (Nat.ne_of_gt (Heap.lt_size e))];exact hP0 _ e
 have hoL:(h1.push (seqObj "list" its.toArray 0)).get? h1.objs.size=some (seqObj "list" its.toArray 0):=Heap.get?_push_size _ rfl;show wpAny _ _ _ _ _ {s with heap:=h1.push (seqObj "list" its.toArray 0)};dsimp only;generalize hL:h1.objs.size=L at *;have sL:s.heap.objs.size<=L:=by omega
 refine wB (wpAny_holding (wpAny_call_entry_kw slot_list_sort ⟨_,hoL,rfl⟩ entry_list_sort (Srt.sort_keyedS hoL #[0] λe1 he1=>?_) (QV _ _)));dsimp only at he1 ⊢;generalize hh2:h1.push (seqObj "list" its.toArray 0)=h2 at *;have sz2:h2.objs.size=L+1:=by rw[<-hh2,size_push',hL]
 generalize hKS:h2.objs.size+1=KS;have sK:s.heap.objs.size<=KS:=by omega
 have hne:L≠KS:=by omega
 have fL: ∀H',H' L=none->pN X pins H' L:=λH' hn=>I.fpOk sL hn;have fK: ∀H',H' KS=none->pN X pins H' KS:=λH' hn=>I.fpOk sK hn;have k3: ∀b u,s.heap.get? b=some u->(((h2.update L (Obj.mapSeq λ_=>#[])).push (seqObj "tuple" its.toArray 0)).push (seqObj "list" #[] 0)).get? b=some u:=λb u e=>by refine hP0 _ (hP0 _ ?_);rw[Heap.get?_update_other _ _ (Nat.ne_of_gt (Nat.lt_of_lt_of_le (Heap.lt_size e) sL)), <-hh2];exact hP0 _ (k1 b u e)
 have I3:Inv X pins σ H {s with heap:=((h2.update L (Obj.mapSeq λ_=>#[])).push (seqObj "tuple" its.toArray 0)).push (seqObj "list" #[] 0)}:=I.kept (t':=s.toks) k3
 have base:LpX l X pins σ α S H L KS e1 kds 0 {s with heap:=((h2.update L (Obj.mapSeq λ_=>#[])).push (seqObj "tuple" its.toArray 0)).push (seqObj "list" #[] 0)}:=by
  refine⟨H,[],0,[],I3,Ext.refl α H,wd,hP0 _ (hP0 _ he1),?_,I.hok.fresh sL,I.hok.fresh sK,.nil,by rw[List.take_zero];exact .nil⟩;rw[<-hKS];have e:h2.objs.size+1=((h2.update L (Obj.mapSeq λ_=>#[])).push (seqObj "tuple" its.toArray 0)).objs.size:=by rw[size_push',Heap.size_update]
  rw[e];exact Heap.get?_push_size _ rfl
 refine wpAny_mono (wpAny_forIn_list (α:=Value) (β:=PUnit) _ (λrest _ s'=> ∃m,rest=its.drop m/\LpX l X pins σ α S H L KS e1 kds m s') (λ_ s'=>LpX l X pins σ α S H L KS e1 kds its.length s') ?_ ?_ its PUnit.unit ⟨0,rfl,base⟩) (λ_ s2 hlp hne'=>?_) λ_ _ e=>e
 .rintro x rest _ s' ⟨m,e,hlp⟩;have hx:its[m]? =some x:=by have:=congrArg (·[0]?) e;simp only[List.getElem?_cons_zero,List.getElem?_drop,Nat.add_zero]at this;exact this.symm
  refine Ax F hr hb hne fL fK dl rv hlen hkl hk hkind hx hlp λs'' h''=>⟨m+1,?_,h''⟩
  have:=congrArg List.tail e;rw[List.tail_cons,List.tail_drop]at this;exact this
 .rintro _ s' ⟨m,e,hlp⟩;have hm:its.length<=m:=List.drop_eq_nil_iff.mp e.symm;obtain⟨H',ks,n,kvs,a1,a2,a3,a4,a5,a6,a7,a8,a9⟩:=hlp.go;exact⟨H',ks,n,kvs,a1,a2,a3,a4,a5,a6,a7,a8,by rw[take_of_length_le #[0]]at a9 ⊢; exact a9⟩
 .obtain⟨H',ks,n,kvs,I',xt,wd',gL,gK,nL,nK,vk,dk⟩:=hlp.go;rw[take_of_length_le #[0]]at dk;have hksl:ks.length=ds.length:=by rw[<-vk.length,dk.length,hkl]
  have hu:X.A.in1.in1.units+64<cLine:=by have:=hr.un;show X.A.units+1+1+64<cLine;omega
  refine⟨ks,n,TJ l b,(λp=> ∃d v,d∈kds/\KX l X.K α H' d v/\RelV v p.1),Sn l X.K α H' S kds,gL,gK,by omega,λhge=>?_,λout op os=>?_⟩
  .have ne:kds≠[]:=λz=>by rw[z]at hkl;simp at hkl;omega
   refine⟨Rg I' ne hkind dk vk,Vy I' wd' hu ne hkind hord,λp hp=>?_⟩;have hp1:p.1∈ks:=(of_mem_zip hp).1;obtain⟨i,hi⟩:=getElem?_of_mem hp1;have hl':i<kvs.length:=by rw[vk.length];exact(gS.mp hi).1
   obtain⟨u',h1',r⟩:=vk.get (gE hl');rw[hi]at h1';cases h1';obtain⟨d,h2',h3'⟩:=dk.get (gE hl');exact⟨d,_,mem_of_getElem? h2',h3',r⟩
  .obtain⟨idx,ip,ie⟩:=HF op.symm (List.range ds.length) (WF hksl hil);have ib: ∀i,i∈idx->i<ds.length:=λi hi=>mem_range.mp (ip.mem_iff.mp hi);have eo:out.map (·.2)=idx.filterMap (its[·]?):=by rw[<-ie,List.map_map];exact EA λi hi=>by rw[hil];exact ib i hi
   have po:idx.Pairwise (λi j=> ∀a c,kds[i]? =some a->kds[j]? =some c->uX S zG c a=some false):=by rw[<-ie,pairwise_map]at os;refine List.Pairwise.imp_of_mem (λ{i j} hi hj h a c ha hc=>?_) os;have ui:ks[i]? =some (ks[i]'(by rw[hksl];exact ib i hi)):=gE _;have uj:ks[j]? =some (ks[j]'(by rw[hksl];exact ib j hj)):=gE _;have h':(uX S zG (KB l X.K α H' kds ((ks[j]?).getD .none)) (KB l X.K α H' kds ((ks[i]?).getD .none))).getD false=false:=h;rw[ui,uj]at h';simp only[Option.getD_some]at h';rw[TL I' hpu dk vk ui ha,TL I' hpu dk vk uj hc]at h';obtain⟨t,ht⟩:=hord.any c (mem_of_getElem? hc) a (mem_of_getElem? ha);rw[ht]at h';have h':t=false:=h';rw[ht,h']
   have vy:=Vals.pick rv idx;refine⟨_,rfl,wP ⟨_,rfl,.ref L,xH H' L (.lst (idx.filterMap (xs[·]?))),?_,rfl,hQ idx H' L _ ip po xt wd' nL (I.hok.fresh sL) ((dl.ext xt).pick idx)⟩⟩;have I5:Inv X pins σ H' {s2 with heap:=s2.heap.update KS (Obj.mapSeq λ_=>#[])}:=by obtain⟨f0,f1,f2,f3,f4,f5⟩:=fK H' nK;exact I'.turned (t':=s2.toks) (λb o hb e=>(Heap.get?_update_other _ _ (Ne.symm hb)).trans e) f0 f1 f3 f4 f5
   have gL':(s2.heap.update KS (Obj.mapSeq λ_=>#[])).get? L=some (seqObj "list" #[] e1):=(Heap.get?_update_other _ _ (Ne.symm hne)).trans gL;obtain⟨f0,f1,f2,f3,f4,f5⟩:=fL H' nL
   have I6:Inv X pins σ H' {s2 with heap:=(s2.heap.update KS (Obj.mapSeq λ_=>#[])).update L (Obj.mapSeq λ_=>(out.map (·.2)).toArray)}:=
    I5.turned (t':=s2.toks) (λb o hb e=>(Heap.get?_update_other _ _ (Ne.symm hb)).trans e) f0 f1 f3 f4 f5
   obtain⟨n',gL2⟩: ∃n',((s2.heap.update KS (Obj.mapSeq λ_=>#[])).update L (Obj.mapSeq λ_=>(out.map (·.2)).toArray)).get? L=some (seqObj "list" (idx.filterMap (its[·]?)).toArray n'):=⟨_,by have:=get?_update_seq gL' (λ_=>(out.map (·.2)).toArray);rw[eo]at this ⊢;exact this⟩
   refine WD (its:=idx.filterMap (its[·]?)) I6 (fL H' nL) (Nat.le_trans I.sz sL) gL2 vy ?_
   .have:=length_filterMap_le (xs[·]?) idx;have h3:=ip.length_eq;rw[length_range]at h3;omega
end
structure SrtOkX(l:Bool)(Fd:List MV->Sto->R Er)(S:Sto)(ds kds:Za)(b:Bool):Prop where
 len:ds.length<64
 kl:kds.length=ds.length
 call: ∀(m:Nat) d kd,ds[m]? =some d->kds[m]? =some kd->zF 1 Fd [.val d] S=.ok (WU l kd) S
 pu: ∀d,d∈kds->bQ d=true
 kind: ∀d,d∈kds->Dl l b d
 ord:OrdD S kds
open Classical in
def AO(l:Bool)(Fd:List MV->Sto->R Er)(rs:List Er)(S:Sto):R Er:=match rs with
 |[p]=>match kH S p with
  |some ds=>if h: ∃r, ∃kds b,SrtOkX l Fd S ds kds b/\ ∀r',TC S ds kds r'->r'=r then .ok (.new (Classical.choose h)) S else .no
  |none=>.no
 |_=>.no
def Im{l:Bool}{Fd:List MV->Sto->R Er}{p:Er}{S:Sto}{ds kds r:Za}{b:Bool}(e:kH S p=some ds)(ok:SrtOkX l Fd S ds kds b)(u: ∀r',TC S ds kds r'->r'=r)(ex:TC S ds kds r)(fn: ∀kds' b',SrtOkX l Fd S ds kds' b'->kds'=kds):
  AO l Fd [p] S=.ok (.new r) S:=by
 unfold AO;dsimp only;rw[e];dsimp only;have h: ∃r, ∃kds b,SrtOkX l Fd S ds kds b/\ ∀r',TC S ds kds r'->r'=r:=⟨r,kds,b,ok,u⟩
 rw[dif_pos h];obtain⟨kds',b',ok',u'⟩:=Classical.choose_spec h;rw[fn kds' b' ok']at u';rw[<-u' r ex]
section
variable{X:Cx}{W:XW}{a:Expr}{af:Rho->Sto->R (List Er)}{pos:Pos}
def RF(l:Bool){k:Nat}{fa:Addr}{fd:FuncData}{ps:Yb}{Fd:List MV->Sto->R Er}{x:Str}{p kp kq:Pos}(F:FnOk X.prog X.w X.K X.mg X.base CZ k fa fd ps (QF X.g 1 Fd))(hr:Room (k+2) X.A)(hg:Gl X "sorted")(hm:X.mg "sorted"=none)
  (hgk:Gl X x) (hmk:X.mg x=some (.ref fa)) (hb:Binds X.K fd ps []) (ha:DM X W [a] af) (hd:(x==("__debug__":Str))=false:=by decide)
  (he:backTo pos (starEach [a] X.env)=(false,eval a X.env)::backTo pos (starEach [] X.env):=by rfl) (hpl:(backTo pos (starEach [a] X.env)).any (·.1)=false:=by rfl):
  zO X W (.Call (.Name "sorted" p) [a] [⟨some "key",.Name x kp,kq⟩] pos) (λρ S=>(af ρ S).bind λrs S1=>AO l Fd rs S1):=by
 obtain⟨t,ha,kk⟩:=ha
 refine⟨λσ H Q=>t σ H λvs H1=> ∃α S la xs ds kds b,vs=[.ref la]/\Wd X.g α S H1/\SqL X.K H1 la xs/\DenL X.K α H1 ds xs/\SrtOkX l Fd S ds kds b/\
   ∀(idx:Db)(H':Hp)(p:Addr)(ys:List V),idx.Perm (List.range ds.length)->idx.Pairwise (λi j=> ∀a c,kds[i]? =some a->kds[j]? =some c->uX S zG c a=some false)->Ext α H1 α H'->Wd X.g α S H'->H' p=none->H1 p=none->
   DenL X.K α H' (idx.filterMap (ds[·]?)) ys->Q (.ref p) (xH H' p (.lst ys)),?_,λα ρ S σ H Q wd sl q=>kk α ρ S σ H _ wd sl (q.bind λvs rs S1 α1 H1 e1 x1 w1 d1 q1=>?_)⟩
 .intro pins s σ H Q I h;refine wpAny_Call_Name_kw (oA I hg hm WG ?_);refine callWith_kw (kG (ha pos pins s σ H _ I h) λus s1 ⟨vs,H1,I1,r1,q1⟩=>?_) he hpl;obtain⟨α,S,la,xs,ds,kds,b,rfl,wd,hl,dl,ok,hq⟩:=q1;obtain⟨u,rfl,ru⟩:=r1.one;cases ru;refine kws_cons (IK I1 hgk hmk (kws_nil ?_) hd);exact Az F hr hb I1 wd hl dl ok.len ok.kl ok.call ok.pu ok.kind ok.ord hq
 .replace q1:=q1.shift x1
  unfold AO at q1;split at q1
  .rename_i p0;split at q1
   .rename_i ds el;split at q1
    .rename_i h;obtain⟨v,rfl,dv⟩:=MS d1;obtain⟨la,xs,rfl,sq,dl⟩:=rS rfl w1 el dv;obtain⟨kds,b,ok,u⟩:=Classical.choose_spec h;refine⟨α1,S1,la,xs,ds,kds,b,rfl,w1,sq,dl,ok,λidx H' pp ys i1 i2 i3 i4 i5 i6 i7=>?_⟩;have er:=u _ ⟨idx,i1,i2,rfl⟩;rw[er]at i7;exact(q1.shift i3).newl i4 i5 i7
    .exact q1.elim
   .exact q1.elim
  .exact q1.elim
def AQ(l:Bool){k:Nat}{ps:Yb}{Fd:List MV->Sto->R Er}{x:Str}{p kp kq:Pos}(G:WJ X.prog X.w X.K X.mg X.base x k 1 ps Fd)(hr:Room (k+2) X.A)(hg:Gl X "sorted")(hm:X.mg "sorted"=none)
  (hgk:Gl X x) (ha:DM X W [a] af) (hd:(x==("__debug__":Str))=false:=by decide)
  (he:backTo pos (starEach [a] X.env)=(false,eval a X.env)::backTo pos (starEach [] X.env):=by rfl) (hpl:(backTo pos (starEach [a] X.env)).any (·.1)=false:=by rfl):
  zO X W (.Call (.Name "sorted" p) [a] [⟨some "key",.Name x kp,kq⟩] pos) (λρ S=>(af ρ S).bind λrs S1=>AO l Fd rs S1):=
 let ⟨_,_,F,m,_,b⟩:=G.ex;RF l F hr hg hm hgk m b ha hd he hpl
end
def KAt(d:Addr)(us:Xj)(ep:Nat)(h:Heap):Prop:= ∃o es,h.get? d=some o/\o.ExactDict/\o.data=.dict es ep/\es.toList.map (·.key)=us
def KAt.at{d:Addr}{us:Xj}{ep:Nat}{h h':Heap}(x:KAt d us ep h)(m: ∀o,h.get? d=some o->h'.get? d=some o):KAt d us ep h':=let ⟨o,es,ho,r⟩:=x;⟨o,es,m o ho,r⟩
theorem KAt.size{d:Addr}{us:Xj}{ep:Nat}{h:Heap}(x:KAt d us ep h): ∃o es,h.get? d=some o/\o.ExactDict/\o.data=.dict es ep/\es.size=us.length/\ ∀i (hi:i<es.size),us[i]? =some es[i].key:=by obtain⟨o,es,ho,hc,hd,e⟩:=x;refine⟨o,es,ho,hc,hd,by rw[<-e,lM,Array.length_toList],λi hi=>?_⟩;rw[<-e,getElem?_map,Array.getElem?_toList,Array.getElem?_eq_getElem hi];rfl
section
variable{P:Program}{w:World}{A:Around}{E:VP}{s:Shared}{d it:Addr}{us:Xj}{ep i:Nat}
def WV{Q:VP}(hs:(d==sysModules)=false)(hm:KAt d us ep s.heap)
  (hQ:Q (.ref s.heap.objs.size) {s with heap:=s.heap.push {cls:=.type "dict_keyiterator",data:=.fields #[.ref d,.int 0 0,.int us.length 0,.int ep 0]}}):wpAny (model P w) A (pyIter (.ref d)) Q E s:=by
 obtain⟨o,es,ho,hc,hdat,hsz,_⟩:=hm.size;have hT:s.TypeIs (.ref d) "dict":=⟨o,ho,hc.1⟩
 refine wpAny_pyIter_slot hT PySem.F.slot_dict_iter (wpAny_call_entry PySem.F.slot_dict_iter hT PySem.F.entry_dict_iter ?_ (PySem.F.args_dict_iter_1 _));unfold Builtin.«dict.__iter__»;refine wB ?_;unfold Builtin.Dict.dictSlotNone;refine wB (wpAny_notOrdered_dict hT ?_);show wpAny _ _ (pure (Value.ref d)) _ _ s;refine wP ?_;show wpAny _ _ (Builtin.Dict.showsAll d >>= _) _ _ s;unfold Builtin.Dict.showsAll;rw[iN (by rw[hs];exact xF0)];refine wB (wP ?_);refine wB (wpAny_dictEntries ho hdat ?_);refine wB (wpAny_dictEpoch ho hdat ?_);refine wB (wpAny_newObj_type (wP ⟨_,rfl,"dict_keyiterator",_,⟨_,Heap.get?_push_size _ rfl,rfl⟩,PySem.F.slot_dict_keyiterator_next.lookup,?_⟩));simpa [rawInt,hsz]using hQ
def Ba{x:Value}{Q:Option Value->Shared->Prop}(hit:s.heap.IsKeyIter it d i us.length ep)(hm:KAt d us ep s.heap)(hx:us[i]? =some x)
  (hQ: ∀h',h'.IsKeyIter it d (i+1) us.length ep->Heap.SameBut it s.heap h'->Q (some x) {s with heap:=h'}):wpAny (model P w) A (pyNext (.ref it)) Q E s:=by
 obtain⟨o,ho,hc,hd⟩:=id hit;obtain⟨od,es,hod,hcd,hdd,hsz,hval⟩:=hm.size;have hlt:i<us.length:=(gS.mp hx).1;have hlt':i<es.size:=by rw[hsz];exact hlt
 have hv:es[i].key=x:=by have:=hval i hlt';rw[hx]at this;exact(Option.some.inj this).symm
 unfold pyNext;refine wB (wpAny_attempt (wpAny_callSpecial?_slot (name:=Str.ofString "__next__") hit.typeIs PySem.F.slot_dict_keyiterator_next (wpAny_call_entry PySem.F.slot_dict_keyiterator_next hit.typeIs PySem.F.entry_dict_keyiterator_next ?_ (PySem.F.args_dict_keyiterator_next_1 _))));refine wB (wP (wB (wB ?_)))
 first |refine wB (wpAny_typeNameOfWhole_keyiter hit.typeIs (wP ?_))|refine wB (wpAny_typeNameOf_keyiter hit.typeIs (wP ?_))
 refine wB (wpAny_fieldsOf ho hd ?_);have hown:Builtin.Dict_items.ownsTuple "dict_keyiterator"=false:=by decide
 simp only[hown,fT,iF];show wpAny _ _ (if(Value.ref d==Value.none)=true then _ else _) _ _ s;rw[iN (show¬((Value.ref d==Value.none)=true)from xF0)];refine wB (wP (wB (wpAny_dictEntries hod hdd ?_)));rw[iN (by rw[hsz];simp)];refine wB (wP (wB (wpAny_dictEpoch hod hdd ?_)));rw[iN (by simp)];refine wP ?_;simp only[show¬((i:Int)<0)from by omega,iF,Int.toNat_natCast,Array.getElem?_eq_getElem hlt'];refine wB ?_
 first |refine wB (wpAny_typeNameOfWhole_keyiter hit.typeIs (wP ?_))|refine wB (wpAny_typeNameOf_keyiter hit.typeIs (wP ?_))
 refine wB (wpAny_isOneOf_keyiter hit.typeIs ?_);show wpAny _ _ (setField (.ref it) 1 (rawInt ((i:Int)+1)) >>= _) _ _ s;refine wB (wpAny_setField ho hd (by simp) ?_)
 have hit':(s.heap.update it (Obj.mapFields (·.setIfInBounds 1 (rawInt ((i:Int)+1))))).IsKeyIter it d (i+1) us.length ep:=
  ⟨_,Heap.get?_update_self _ ho (Obj.isFreed_of_fields (Obj.data_mapFields hd _)),(Obj.cls_mapFields ..).trans hc,by rw[Obj.data_mapFields hd];simp[rawInt]⟩
 refine wB (wpAny_holding ?_);refine wB (wpAny_isOneOf_keyiter (s:={s with heap:=s.heap.update it (Obj.mapFields (·.setIfInBounds 1 (rawInt ((i:Int)+1))))}) hit'.typeIs ?_);show wpAny _ _ (pure es[i].key) _ _ _;exact wP (wP ⟨_,rfl,wP (hv▸hQ _ hit' (Heap.SameBut.update ..))⟩)
def Bb{Q:Option Value->Shared->Prop}(hh:A.handled=none)(hit:s.heap.IsKeyIter it d i us.length ep)(hm:KAt d us ep s.heap)(hx:us.length<=i)
  (hQ: ∀h',Heap.ExtBut it s.heap h'->Q none {s with heap:=h'}):wpAny (model P w) A (pyNext (.ref it)) Q E s:=by
 obtain⟨o,ho,hc,hd⟩:=id hit;obtain⟨od,es,hod,hcd,hdd,hsz,hval⟩:=hm.size;have hge:es.size<=i:=by rw[hsz];exact hx
 unfold pyNext;refine wB (wpAny_attempt (wpAny_callSpecial?_slot (name:=Str.ofString "__next__") hit.typeIs PySem.F.slot_dict_keyiterator_next (wpAny_call_entry PySem.F.slot_dict_keyiterator_next hit.typeIs PySem.F.entry_dict_keyiterator_next ?_ (PySem.F.args_dict_keyiterator_next_1 _))));refine wB (wP (wB (wB ?_)))
 first |refine wB (wpAny_typeNameOfWhole_keyiter hit.typeIs (wP ?_))|refine wB (wpAny_typeNameOf_keyiter hit.typeIs (wP ?_))
 refine wB (wpAny_fieldsOf ho hd ?_);have hown:Builtin.Dict_items.ownsTuple "dict_keyiterator"=false:=by decide
 simp only[hown,fT,iF];show wpAny _ _ (if(Value.ref d==Value.none)=true then _ else _) _ _ s;rw[iN (show¬((Value.ref d==Value.none)=true)from xF0)];refine wB (wP (wB (wpAny_dictEntries hod hdd ?_)));rw[iN (by rw[hsz];simp)];refine wB (wP (wB (wpAny_dictEpoch hod hdd ?_)));rw[iN (by simp)];refine wP ?_;simp only[show¬((i:Int)<0)from by omega,iF,Int.toNat_natCast,Array.getElem?_eq_none hge];refine wB ?_
 first |refine wB (wpAny_typeNameOfWhole_keyiter hit.typeIs (wP ?_))|refine wB (wpAny_typeNameOf_keyiter hit.typeIs (wP ?_))
 show wpAny _ _ (setField (.ref it) 0 .none >>= _) _ _ s;refine wB (wpAny_setField ho hd (by simp) ?_);show wpAny _ _ (newExc (.type "StopIteration") [] >>= _) _ _ _;refine wB ?_;simp only[newExc,newTuple];refine wB (wpAny_newObj_type ?_ (by size_fits));refine wB (m:=firstArgMember _ _) (wpAny_of_eq (a:=Value.none) (by first |rfl|(simp only[firstArgMember];rfl)) ?_);refine wpAny_newObj_type ?_ (by size_fits);simp only[raiseNew];refine wB (wpAny_handled ?_);rw[show A.in1.handled=none from hh];refine wB (wP (wpAny_throw ?_));refine wB (wpAny_isInstance (T:="StopIteration") (b:=true) ⟨_,Heap.get?_push_size _ rfl,rfl⟩ isSubtype_stop ?_);exact wP (hQ _ (((Heap.SameBut.update ..).extBut.push _).push _))
def WW(hh:A.handled=none)(I:Addr)(hne:d≠I)(us:Xj)(ep:Nat):Walks P w A I [I,d] [I] us.length (λi x=>us[i]? =some x) (λi h=>h.IsKeyIter I d i us.length ep/\KAt d us ep h) where
 sub:=λb hb=>by simp at hb;simp[hb]
 frame:=λ_ _ _ st hk=>⟨st.1.at λo e=>hk I (by simp) o e,st.2.at λo e=>hk d (by simp) o e⟩
 item:=λi s Q E hi st hQ=>by have hx:us[i]? =some us[i]:=gE hi;refine Ba st.1 st.2 hx λh' hit' hs'=>?_;exact hQ _ h' s.toks hx ⟨hit',st.2.at λo e=>hs'.extBut d o hne e⟩ λb o hb e=>hs'.extBut b o (λh=>hb (by simp[h])) e
 done:=λs Q E st hQ=>Bb hh st.1 st.2 q9 λh' he'=>hQ h' s.toks λb o hb e=>he' b o (λh=>hb (by simp[h])) e
 self:=λ_ _ _ _ st hQ=>wpAny_pyIter_keyiter st.1 hQ
def Bc(us:Xj)(ep:Nat):PySem.W.KdlSrc P w "dict" d d us.length (λi x=>us[i]? =some x) (λh=>(d==sysModules)=false/\KAt d us ep h) where
 type:=λ_ hm=>let ⟨o,_,ho,hc,_⟩:=hm.2;⟨o,ho,hc.1⟩
 there:=λ_ hm=>⟨let ⟨_,_,ho,_⟩:=hm.2;Heap.lt_size ho,let ⟨_,_,ho,_⟩:=hm.2;Heap.lt_size ho⟩
 keep:=λ_ _ hm hk=>⟨hm.1,hm.2.at λo e=>hk d (.inl rfl) o e⟩
 notList:=by decide
 notTuple:=by decide
 hint:=λ_ _ _ _ hm hq=>PySem.W.kdl_hint_dict (let ⟨o,_,ho,hc,_⟩:=hm.2;⟨o,ho,hc.1⟩) hq
 iter:=λ_ _ hh hm=>⟨_,_,(λ_ _ hq=>WV hm.1 hm.2 hq),WW hh _ (Nat.ne_of_lt (let ⟨_,_,ho,_⟩:=hm.2;Heap.lt_size ho)) us ep,⟨⟨_,Heap.get?_push_size _ rfl,rfl,rfl⟩,hm.2.at λo e=>hP0 _ e⟩⟩
end
section
variable{X:Cx}{W:XW}
theorem OA{K:Yj}{α:Ya}{H:Hp}: ∀{kvs:Ze}{xs:List (NK×Addr×Value)},DenN K α H kvs xs->DenL K α H (kvs.map (·.1)) (xs.map λx=>V.ref x.2.1)
 |_,_,.nil=>zW
 |_,_,.cons hk e a d r l=>zM a (OA l)
theorem OB: ∀(xs:List (NK×Addr×Value)),Vals (xs.map λx=>V.ref x.2.1) (xs.map λx=>Value.ref x.2.1)
 |[]=>.nil
 |x::xs=>.cons rfl (OB xs)
def RG:CallR X (.type "list") (λxs H Q=> ∃d zs α kvs,xs=[.ref d]/\DD X H d zs/\DenN X.K α H kvs zs/\X.calm=true/\ ∀p,H p=none->Q (.ref p) (xH H p (.lst (zs.map λx=>V.ref x.2.1)))):=by
 intro pins s σ H xs us Q I r h;obtain⟨d,zs,α,kvs,rfl,dd,dn,hc,q⟩:=h;obtain⟨u,rfl,rx⟩:=vals1 r;cases rx;obtain⟨⟨o,es,ep,ho,hcc,hd,he,_,_⟩,hz,hs⟩:=qX I dd dn;have va:KAt d (zs.map λx=>Value.ref x.2.1) ep s.heap:=⟨o,es,ho,hcc,hd,by rw[he,List.map_map];rfl⟩
 refine PySem.W.kdl_call (Bc (P:=X.prog) (w:=X.w) (d:=d) (zs.map λx=>Value.ref x.2.1) ep) (I.ok.hd hc) ⟨hs,va⟩ (by rw[lM];exact hz) λh' tk acc c' hk hS hacc=>?_
 have ea:acc.toList=zs.map λx=>Value.ref x.2.1:=by
  refine ext_getElem? λj=>?_;by_cases hj:j<acc.size
  .have h3:acc[j]? =some acc[j]:=Array.getElem?_eq_getElem hj;rw[Array.getElem?_toList,h3];exact(hacc.2 j _ h3).symm
  .have h3:(zs.map λx=>Value.ref x.2.1).length<=j:=by have:=hacc.1;omega
   rw[Array.getElem?_toList,Array.getElem?_eq_none #[0],getElem?_eq_none h3]
 refine⟨.ref s.heap.objs.size,_,I.laid (t':=tk) hk q9 (show ObjOk X.prog X.w _ h' _ (.lst (zs.map λx=>V.ref x.2.1))from⟨by rw[lM];exact hz,acc.toList,c',by rw[ea];exact OB zs,?_⟩),rfl,q _ (I.hok.fresh q9)⟩;rw[Array.toArray_toList];exact hS
def vV:List Er->Sto->R Er
 |[r],S=>match bP S r with |some (_,kvs)=>.ok (.new (kvs.map (·.1))) S|none=>.no
 |_,_=>.no
def Bd(hc:X.calm=true):rR X W (λxs H Q=> ∃d zs α kvs,xs=[.ref d]/\DD X H d zs/\DenN X.K α H kvs zs/\X.calm=true/\ ∀p,H p=none->Q (.ref p) (xH H p (.lst (zs.map λx=>V.ref x.2.1)))) vV:=by
 intro rs vs α S H Q wd d post;unfold vV at post;split at post
 .split at post
  .rename_i n kvs e;obtain⟨v,rfl,dv⟩:=rV d;obtain⟨c,xs,rfl,hα,hS,dd,dl⟩:=sS wd e dv;exact⟨c,xs,α,kvs,rfl,dd,dl,hc,λp hp=>post.newl wd hp (OA dl)⟩
  .exact post.elim
 .exact post.elim
end
mutual
def OC:Expr->List Str
 |.Name x _=>[x]
 |.Tuple es _ _=>Vz es
 |_=>[]
def Vz:List Expr->List Str
 |[]=>[]
 |e::es=>OC e++Vz es
end
section
variable{X:Cx}{W:XW}{iter:Expr}{pos:Pos}
abbrev gnN(T:Yb)(N:Yb)(idx:Db):List Str:=[]++T++idx.map λi=>(N[i]?).getD Str.empty
def Be{elt tg:Expr}{ifs:Yi}{sc osc:Scope}{N ps:Yb}{idx:Db}{itf:Rho->Sto->R Wk}{cf:AZ}{ef:AX}{gf:MV->Rho->Sto->R Rho}(S0:FnScope N ps osc)
  (hi:GV X W tg iter itf) (hg: ∀C s₂ H1 fp,(gnN (OC tg) N idx).Nodup->Dj (OC tg).length (zL X sc (OC tg) idx C s₂ H1 fp) W0 tg gf)
  (hc: ∀C s₂ H1 fp,MT (zL X sc (OC tg) idx C s₂ H1 fp) W0 ifs cf) (he: ∀C s₂ H1 fp,zO (zL X sc (OC tg) idx C s₂ H1 fp) W0 elt ef)
  (hcalm:X.calm=true:=by rfl) (e1:X.env.scope=osc:=by rfl) (e2:X.N=N:=by rfl) (hB:rN osc N sc idx=true:=by decide+kernel) (hN:(gnN (OC tg) N idx).Nodup:=by decide+kernel)
  (hs: ∀y,foldedSetIterable iter X.env y=pure y:=by intro _;rfl):
  zO X W (.ListComp elt [⟨tg,iter,ifs,0⟩] sc pos) (λρ S=>(itf ρ S).bind λk S1=>if k.ds.length<1000000 then(yF gf cf ef (uW (OC tg).length idx ρ) k.gs k.ds S1).bind λout S2=>.ok (.new out) S2 else .no):=Fx osc N (OC tg) idx hi hcalm hg hc he e1 e2 hB hN hs
def Bf{x:Str}{pos' spos:Pos}{i:Nat}{elt tg:Expr}{ifs:Yi}{sc osc:Scope}{N ps:Yb}{idx:Db}{itf:Rho->Sto->R Wk}{cf:AZ}{ef:AX}{gf:MV->Rho->Sto->R Rho}(S0:FnScope N ps osc)
  (hi:GV X W tg iter itf) (hg: ∀C s₂ H1 fp,(gnN (OC tg) N idx).Nodup->Dj (OC tg).length (zL X sc (OC tg) idx C s₂ H1 fp) W0 tg gf)
  (hc: ∀C s₂ H1 fp,MT (zL X sc (OC tg) idx C s₂ H1 fp) W0 ifs cf) (he: ∀C s₂ H1 fp,zO (zL X sc (OC tg) idx C s₂ H1 fp) W0 elt ef)
  (hcalm:X.calm=true:=by rfl) (e1:X.env.scope=osc:=by rfl) (e2:X.N=N:=by rfl) (hB:rN osc N sc idx=true:=by decide+kernel) (hN:(gnN (OC tg) N idx).Nodup:=by decide+kernel)
  (hs: ∀y,foldedSetIterable iter X.env y=pure y:=by intro _;rfl)
  (hi2:X.N[i]? =some x:=by rfl) (hx:Loc X.env.scope x:=by first |exact Or.inl rfl|exact Or.inr rfl)
  (hsw:swapsWith (.ListComp elt [⟨tg,iter,ifs,0⟩] sc pos) (some (.Name x pos')) spos.line X.env=pure true:=by with_unfolding_all rfl) (hf:Q2 X x:=by first |exact .inl rfl|exact .inr rfl|assumption):
  MQ X W (.Assign [.Name x pos'] (.ListComp elt [⟨tg,iter,ifs,0⟩] sc pos) spos) (λρ S=>((itf ρ S).bind λk S1=>if k.ds.length<1000000 then(yF gf cf ef (uW (OC tg).length idx ρ) k.gs k.ds S1).bind λout S2=>.ok (.new out) S2 else .no).bind (FQ ρ i)):=Fy i (by rw[e2];exact S0.nd) osc N (OC tg) idx hi hcalm hg hc he e1 e2 hB hN hs hi2 hx hsw hf
end
section
variable{P:Program}{w:World}{K:Yj}{mg:Yc}{base:Heap}{x qual:Str}{st:Stmt}{ps N:Yb}{k:Nat}
abbrev ScK(N ps:Yb)(sc:Scope):Prop:=N.Nodup/\N.take ps.length=ps/\(∀x∈ps,sc.names.lookup x=some .local\/sc.names.lookup x=some .cell)/\ ∀y∈sc.names,y.2≠.free
def okL{f:Addr}{fd:FuncData}(Fb:AY)(F:Fun K x qual st f fd)
  (h: ∀(cdv:Value)(A:Around)(outer:List Env)(s:Shared)(H:Hp)(E:XK),N.Nodup->FnScope N ps (zN st)->Room k (A.deeper (envOfC qual (zN st) s.heap.objs.size f cdv))->vE (IM CZ P w K mg base N qual (zN st) f cdv A outer s H E).nox W0 (bK st) Fb)
  (h4:ScK N ps (zN st):=by decide+kernel) (a:(zN st).kind=.function:=by rfl) (b:(zN st).isCoroutine=false:=by rfl) (c:(zN st).isGenerator=false:=by rfl):
  FnOk P w K mg base CZ (k+1) f fd ps (QF ⟨K,mg,P,w⟩ ps.length λds S=>yB (Fb (zR N ds) S)):=
 have Sc:FnScope N ps (zN st):=⟨a,b,c,h4.1,h4.2.1,h4.2.2.1,h4.2.2.2⟩
 okM Fb F Sc λcdv A outer s H E hr=>h cdv A outer s H E Sc.nd Sc hr
def Rh:Nat->(List Value->Prop)->Prop
 |0,p=>p []
 |n+1,p=> ∀a,Rh n λl=>p (a::l)
theorem Wa: ∀(us:Xj){p:List Value->Prop},Rh us.length p->p us
 |[],_,h=>h
 |a::l,_,h=>Wa l (h a)
def forN{n:Nat}{p:List Value->Prop}(h:Rh n p)(us:Xj)(e:us.length=n):p us:=Wa us (e▸h)
def okA(Fb:AY)(D:DefM K mg x st)
  (h: ∀(f:Addr)(cdv:Value)(A:Around)(outer:List Env)(s:Shared)(H:Hp)(E:XK),N.Nodup->FnScope N ps (zN st)->Room k (A.deeper (envOfC x (zN st) s.heap.objs.size f cdv))->vE (IM CZ P w K mg base N x (zN st) f cdv A outer s H E).nox W0 (bK st) Fb)
  (hb:Ag x st ps:=by exact λ_ _ _ _ _ _=>forN (by(repeat intro _);rfl))
  (h4:ScK N ps (zN st):=by decide+kernel) (a:(zN st).kind=.function:=by rfl) (b:(zN st).isCoroutine=false:=by rfl) (c:(zN st).isGenerator=false:=by rfl):
  WJ P w K mg base x (k+1) ps.length ps λds S=>yB (Fb (zR N ds) S):=
 okC D hb λf _ F=>okL Fb F (h f) h4 a b c
end
end M
end L2
namespace L2
namespace M
namespace My
open PySem PySem.Spec PyProof.Rows
local macro_rules
 | `(tactic|simp? [$xs,*] $[$l:location]?)=>`(tactic|simp only[List.getElem?_cons_zero,getElem?_cons_succ,Gv,jS,as_int,Uz,Ps,add_int,sub_int,eq_int,Pt,lst0,lst1,lst2,lst3,lst6,tup2,tup3,Py,Pz,Qa,Qb,Qc,Qd,Ha,Hb,List.set_cons_zero,set_cons_succ,if_true,Hd,Hc,vJ,kJ,bJ,dJ,nJ,aJ,oJ,iJ,mJ,tJ,lJ,zJ,fJ,xJ,hJ,eJ,gJ,uJ,pJ,jJ,qJ,rJ,sJ,wJ,yJ,AJ,BJ,CJ,DJ,EJ,FJ,GJ,HJ,IJ,JJ,KJ,LJ,MJ,NJ,$xs,*] $[$l:location]?)
local macro_rules
 |`(#[$x])=>`(some (.loc $x))
 |`(#[$x,0])=>`(some (.int $x))
 |`(#[$x,1])=>`(.val (.loc $x))
 |`(#[$x,2])=>`(some (.lst $x))
 |`(#[$x,3])=>`(some (.tup $x))
 |`(#[$x,4])=>`(some (.str $x))
 |`(#[$x,5])=>`(.val (.int $x))
 |`(#[$x,6])=>`(.val (.tup $x))
 |`(#[$x,7])=>`(some (.dic $x))
 |`(#[$x,8])=>`(($x).map MV.str)
 |`(#[])=>`(by omega)
 |`(#[$x,$s,0])=>`(.ok (.next $x) $s)
 |`(#[$x,$s,1])=>`(.ok (.val $x) $s)
 |`(#[$x,$s,2])=>`(.ok (.new $x) $s)
abbrev AR:List Str:=["_law_well","_law_many","_law_digit"]
abbrev qD:List Str:=["_law_well","_law_names_here","_law_pool_here"]
abbrev AF:=AY
abbrev AE:=AX
def xO:AF:=(iJ (bJ (bJ (yJ (vJ 0) (yJ (kJ (.typ "str")) wJ)) rH) rG) ((AJ (bJ (yJ (kJ (.int 1)) (yJ (kJ (.int 0)) (yJ (vJ 0) wJ))) nU))) (JJ))
def fQ:AF:=(AJ (bJ (yJ (kJ (.int 0)) (yJ (vJ 0) (yJ (kJ (.str [])) wJ))) nU))
def jC:AF:=zI (xO) ((fQ))
def aT(ds:Za)(S:Sto):R Er:=yB (jC (zR ["value"] ds) S)
def cT:AZ:=uJ
def jD:AE:=(fJ 1 aT (yJ (vJ 0) wJ))
def fR:AF:=(AJ (bJ (yJ (pJ (bJ (vJ 0) XJ) (zV 0) (cT) (jD) 1 []) wJ) nV))
def aU:AF:=(fR)
def aV(ds:Za)(S:Sto):R Er:=yB (aU (zR ["values"] ds) S)
def fS:AY:=(iJ (sJ (qJ (bJ (vJ 1) rG)) (bJ (dJ QK (dJ lO (vJ 1) (kJ (.int (-1)))) (vJ 2)) fF)) ((BJ (eJ wY mP (vJ 1) (yJ (vJ 2) wJ)))) (JJ))
def aW:AY:=(fS)
def aX:AF:=(CJ (bJ wJ jW) 1)
def aY:AF:=(FJ (bJ (bJ (yJ (vJ 0) wJ) (AO false aV)) AI) (zV 2) (aW))
def oH:AF:=(AJ (vJ 1))
def oI:AF:=zI (aX) (zI (aY) ((oH)))
def oK(ds:Za)(S:Sto):R Er:=yB (oI (zR ["some","ordered","values"] ds) S)
def bR:AY:=(iJ (bJ (dJ LX (dJ lO (vJ 3) (kJ (.int 0))) (kJ (.str [118,97,114]))) fF) ((EJ (kJ (.bl true)) (DJ tZ (vJ 1) (dJ lO (vJ 3) (kJ (.int 1)))))) (JJ))
def bS:AY:=(bR)
def fU:AY:=(FJ (bJ (dJ lO (vJ 2) (kJ (.int 1))) XJ) (zV 3) (bS))
def bT:AY:=(fU)
def aZ:AF:=(CJ zJ 1)
def eA:AF:=(FJ (bJ (vJ 0) itQ) (zV 2) (bT))
def eB:AF:=(AJ (bJ (yJ (vJ 1) wJ) vQ))
def oM:AF:=zI (aZ) (zI (eA) ((eB)))
def wA(ds:Za)(S:Sto):R Er:=yB (oM (zR ["atoms","names","atom","term"] ds) S)
def yR:AY:=(CJ (iJ (bJ (dJ LX (dJ lO (vJ 3) (kJ (.int 0))) (kJ (.str [118,97,114]))) fF) (eJ QZ Am (vJ 2) (yJ (dJ lO (vJ 3) (kJ (.int 1))) (yJ (vJ 4) wJ))) (dJ lO (vJ 3) (kJ (.int 1)))) 5)
def dP:AY:=(iJ (bJ (dJ QK (vJ 5) (vJ 4)) fF) ((AJ (kJ .non))) (JJ))
def xW:AY:=zI (yR) ((dP))
def iS:AF:=(CJ zJ 2)
def iT:AF:=(FJ (bJ (yJ (vJ 0) (yJ (vJ 1) wJ)) ZR) (fG 2 (zA (zV 3) (zA (zV 4) zZ))) (xW))
def AS:AF:=(AJ (vJ 2))
def eX:AF:=zI (iS) (zI (iT) ((AS)))
def eY(ds:Za)(S:Sto):R Er:=yB (eX (zR ["terms","cells","values","term","cell","expected"] ds) S)
def jY:AZ:=(bJ (dJ LX (dJ lO (vJ 0) (kJ (.int 0))) (dJ lO (vJ 2) (kJ (.int 0)))) fF)
def xD:AE:=(bJ (yJ (fJ 2 eY (yJ (dJ lO (vJ 2) (kJ (.int 1))) (yJ (dJ lO (vJ 0) (kJ (.int 1))) wJ))) (yJ (vJ 1) wJ)) nU)
def xE:AZ:=(bJ (dJ GY (vJ 0) (kJ .non)) fF)
def jZ:AE:=(bJ (yJ (vJ 0) (yJ (vJ 1) wJ)) nU)
def iU:AF:=(CJ (pJ (bJ (yJ (vJ 0) (yJ (vJ 1) wJ)) ZR) (fG 2 (zA (zV 0) (zA (zV 1) zZ))) (jY) (xD) 2 [2]) 3)
def iV:AF:=(AJ (pJ (bJ (vJ 3) AI) (fG 2 (zA (zV 0) (zA (zV 1) zZ))) (xE) (jZ) 2 []))
def qY:AF:=zI (iU) ((iV))
def mQ(ds:Za)(S:Sto):R Er:=yB (qY (zR ["rows","marks","atom","fits"] ds) S)
def nW:AZ:=uJ
def gH:AE:=(dJ KA (vJ 1) (vJ 0))
def lP:AF:=(AJ (bJ (yJ (pJ (bJ (vJ 1) itQ) (zV 0) (nW) (gH) 1 [0]) wJ) nV))
def iW:AF:=(lP)
def yE(ds:Za)(S:Sto):R Er:=yB (iW (zR ["values","names"] ds) S)
def qZ:AY:=(CJ (fJ 2 yE (yJ (vJ 3) (yJ (vJ 1) wJ))) 5)
def rA:AY:=(EJ (dJ Qy (eJ qB uA (vJ 2) (yJ (vJ 5) (yJ (kJ (.int 0)) wJ))) (vJ 4)) (DJ HD (vJ 2) (vJ 5)))
def CD:AY:=zI (qZ) ((rA))
def vW:AZ:=uJ
def mR:AE:=(bJ (yJ (bJ (yJ (vJ 2) (yJ (vJ 0) wJ)) Sm) (yJ (vJ 1) wJ)) nU)
def CF:AF:=(CJ zJ 2)
def CG:AF:=(FJ (bJ (vJ 0) AI) (fG 2 (zA (zV 3) (zA (zV 4) zZ))) (CD))
def CK:AF:=(AJ (pJ (bJ (vJ 2) WP) (fG 2 (zA (zV 0) (zA (zV 1) zZ))) (vW) (mR) 2 [1]))
def TN:AF:=zI (CF) (zI (CG) ((CK)))
def EF(ds:Za)(S:Sto):R Er:=yB (TN (zR ["fits","names","told","values","mark","some"] ds) S)
def oN:AY:=(BJ (eJ wY mP (eJ qB Sl (vJ 3) (yJ (fJ 2 yE (yJ (vJ 4) (yJ (vJ 2) wJ))) (yJ (bJ wJ jW) wJ))) (yJ (bJ (yJ (vJ 4) (yJ (vJ 5) wJ)) nU) wJ)))
def fV:AY:=(oN)
def oO:AY:=(iJ (bJ (dJ AM (vJ 8) (vJ 5)) rG) (zI (CJ (bJ (yJ (vJ 7) wJ) NP) 9) (zI (BJ (eJ QZ EE (vJ 9) (yJ (vJ 4) wJ))) ((BJ (eJ wY mP (vJ 6) (yJ (bJ (yJ (vJ 9) (yJ (dJ AM (vJ 8) (vJ 5)) wJ)) nU) wJ)))))) (JJ))
def fW:AY:=(oO)
def oP:AY:=(FJ (bJ (eJ qB uA (vJ 3) (yJ (fJ 2 yE (yJ (vJ 7) (yJ (vJ 2) wJ))) (yJ (bJ wJ jW) wJ))) AI) (fG 2 (zA (zV 4) (zA (zV 5) zZ))) (fW))
def fX:AY:=(oP)
def oQ:AF:=(CJ zJ 3)
def oR:AF:=(FJ (bJ (vJ 1) AI) (fG 2 (zA (zV 4) (zA (zV 5) zZ))) (fV))
def oS:AF:=(CJ (bJ wJ jW) 6)
def oU:AF:=(FJ (bJ (vJ 0) AI) (fG 2 (zA (zV 7) (zA (zV 8) zZ))) (fX))
def EG:AF:=(AJ (vJ 6))
def uB:AF:=zI (oQ) (zI (oR) (zI (oS) (zI (oU) ((EG)))))
def qE(ds:Za)(S:Sto):R Er:=yB (uB (zR ["fits","others","shared","by_shared","more","other","together","values","mark","both"] ds) S)
def kI:AZ:=(bJ (dJ (FG false) (vJ 0) (vJ 1)) fF)
def nG:AE:=(vJ 0)
def kL:AZ:=(sJ (bJ (dJ (FG false) (vJ 0) (vJ 1)) fF) (bJ (dJ (FG false) (vJ 0) (vJ 2)) fF))
def nH:AE:=(vJ 0)
def kM:AZ:=(bJ (dJ (FG true) (vJ 0) (vJ 1)) fF)
def nI:AE:=(vJ 0)
def kN:AZ:=(bJ (dJ (FG false) (vJ 0) (vJ 1)) fF)
def nN:AE:=(vJ 0)
def kO:AY:=(CJ (fJ 1 wA (yJ (bJ (yJ (vJ 8) wJ) jW) wJ)) 9)
def kP:AY:=(CJ (pJ (bJ (vJ 9) AI) (zV 0) (kI) (nG) 1 [5]) 10)
def kQ:AY:=(CJ (dJ jR (bJ (yJ (vJ 3) wJ) DT) (fJ 1 wA (yJ (tJ BM (vJ 4) (bJ (dJ jR (vJ 7) (kJ (.int 1))) Ob) mJ) wJ))) 11)
def kR:AY:=(CJ (fJ 2 EF (yJ (fJ 3 mQ (yJ (vJ 0) (yJ (vJ 1) (yJ (vJ 8) wJ)))) (yJ (pJ (bJ (vJ 9) AI) (zV 0) (kL) (nH) 1 [10,11]) wJ))) 12)
def kS:AY:=(CJ (pJ (bJ (vJ 9) AI) (zV 0) (kM) (nI) 1 [10]) 13)
def kT:AY:=(CJ (pJ (bJ (dJ jR (vJ 5) (vJ 13)) AI) (zV 0) (kN) (nN) 1 [11]) 5)
def kU:AY:=(CJ (fJ 2 EF (yJ (fJ 3 qE (yJ (vJ 6) (yJ (vJ 12) (yJ (vJ 10) wJ)))) (yJ (vJ 5) wJ))) 6)
def yU:AY:=zI (kO) (zI (kP) (zI (kQ) (zI (kR) (zI (kS) (zI (kT) ((kU)))))))
def xA:AZ:=uJ
def yI:AE:=(bJ (yJ (fJ 2 yE (yJ (vJ 0) (yJ (vJ 2) wJ))) (yJ (vJ 1) wJ)) nU)
def gW:AF:=(CJ (dJ lO (vJ 2) (kJ (.int 0))) 3)
def gX:AF:=(CJ (dJ lO (vJ 2) (kJ (.int 1))) 4)
def wC:AF:=(CJ (bJ wJ jW) 5)
def wD:AF:=(CJ (bJ (yJ (bJ (yJ zJ (yJ (kJ (.int (-1))) wJ)) nU) wJ) jW) 6)
def wF:AF:=(FJ (bJ (yJ (vJ 4) wJ) Vb) (fG 2 (zA (zV 7) (zA (zV 8) zZ))) (yU))
def gY:AF:=(AJ (bJ (yJ (pJ (bJ (vJ 6) AI) (fG 2 (zA (zV 0) (zA (zV 1) zZ))) (xA) (yI) 2 [3]) wJ) HP))
def jE:AF:=zI (gW) (zI (gX) (zI (wC) (zI (wD) (zI (wF) ((gY))))))
def xP(ds:Za)(S:Sto):R Er:=yB (jE (zR ["rows","marks","question","head","atoms","known","fits","place","atom","own","shared","asked","others","new"] ds) S)
def lQ:AZ:=uJ
def lR:AE:=(kJ (.int 1))
def qF:AF:=(AJ (fJ 1 oK (yJ (bJ (yJ (fJ 3 xP (yJ (vJ 0) (yJ (pJ (bJ (vJ 0) AI) (zV 0) (lQ) (lR) 1 []) (yJ (vJ 1) wJ)))) wJ) vV) wJ)))
def rB:AF:=(qF)
def yZ(ds:Za)(S:Sto):R Er:=yB (rB (zR ["rows","question"] ds) S)
def jF:AF:=(iJ (bJ (dJ Pf (vJ 1) (bJ (yJ (vJ 0) wJ) pO)) fF) ((AJ (dJ lO (vJ 0) (vJ 1)))) (JJ))
def mT:AF:=(AJ (kJ (.int 0)))
def bU:AF:=zI (jF) ((mT))
def zQ(ds:Za)(S:Sto):R Er:=yB (bU (zR ["_law_script","_law_k"] ds) S)
def bV:AY:=(CJ (dJ MX (dJ jR (dJ jR (dJ vG (vJ 2) (kJ (.int 48271))) (dJ vG (kJ (.int 7919)) (vJ 4))) (kJ (.int 11))) (kJ (.int 2147483647))) 2)
def bW:AY:=(CJ (dJ MX (dJ vG (vJ 2) (vJ 2)) (kJ (.int 2147483629))) 5)
def bX:AY:=(CJ (dJ jR (dJ vG (vJ 3) (kJ (.int 2147483587))) (dJ MX (dJ vG (vJ 5) (kJ (.int 69621))) (kJ (.int 2147483587)))) 3)
def gI:AY:=zI (bV) (zI (bW) ((bX)))
def gM:AF:=(CJ (dJ VT (vJ 0) (kJ (.int 2))) 1)
def gN:AF:=(iJ (bJ (dJ LX (dJ MX (vJ 0) (kJ (.int 2))) (kJ (.int 0))) fF) ((AJ (bJ (yJ (vJ 1) wJ) jW))) (JJ))
def nY:AF:=(CJ (dJ MX (vJ 1) (kJ (.int 2147483647))) 2)
def pI:AF:=(CJ (kJ (.int 0)) 3)
def nZ:AF:=(FJ (bJ (yJ (kJ (.int 16)) wJ) iO) (zV 4) (gI))
def aB:AF:=(AJ (bJ (yJ (vJ 3) wJ) jW))
def dQ:AF:=zI (gM) (zI (gN) (zI (nY) (zI (pI) (zI (nZ) ((aB))))))
def yA(ds:Za)(S:Sto):R Er:=yB (dQ (zR ["_law_cell","_law_rest","_law_number","_law_total","_law_k","_law_other"] ds) S)
def dR:AF:=(CJ (dJ MX (dJ lO (vJ 0) (kJ (.int 0))) (vJ 1)) 2)
def dS:AF:=(EJ (dJ VT (dJ lO (vJ 0) (kJ (.int 0))) (vJ 1)) (DJ HA (vJ 0) (kJ (.int 0))))
def rX:AF:=(AJ (vJ 2))
def qG:AF:=zI (dR) (zI (dS) ((rX)))
def zB(ds:Za)(S:Sto):R Er:=yB (qG (zR AR ds) S)
def aC:AY:=(CJ (dJ jR (vJ 2) (dJ lO (vJ 1) (fJ 2 zB (yJ (vJ 0) (yJ (kJ (.int 26)) wJ))))) 2)
def dU:AY:=(aC)
def rY:AF:=(CJ (kJ (.str [97,98,99,100,101,102,103,104,105,106,107,108,109,110,111,112,113,114,115,116,117,118,119,120,121,122])) 1)
def rZ:AF:=(CJ (kJ (.str [])) 2)
def lU:AF:=(FJ (bJ (yJ (dJ jR (kJ (.int 1)) (fJ 2 zB (yJ (vJ 0) (yJ (kJ (.int 8)) wJ)))) wJ) iO) (zV 3) (dU))
def sB:AF:=(AJ (vJ 2))
def qH:AF:=zI (rY) (zI (rZ) (zI (lU) ((sB))))
def kW(ds:Za)(S:Sto):R Er:=yB (qH (zR ["_law_well","_law_letters","_law_word_here","_law_k"] ds) S)
def aD:AY:=(CJ (fJ 2 zB (yJ (vJ 0) (yJ (kJ (.int 4)) wJ))) 4)
def aF:AY:=(CJ (dJ ZC (fJ 2 zB (yJ (vJ 0) (yJ (kJ (.int 9)) wJ))) (kJ (.int 4))) 5)
def gO:AY:=(iJ (bJ (dJ LX (vJ 4) (kJ (.int 1))) fF) ((CJ (dJ jR (dJ ZC (fJ 2 zB (yJ (vJ 0) (yJ (dJ ZC (dJ vG (kJ (.int 2)) (dJ Gb (kJ (.int 10)) (kJ (.int 30)))) (kJ (.int 1))) wJ))) (dJ Gb (kJ (.int 10)) (kJ (.int 30)))) (kJ (.int 1))) 5)) (JJ))
def gP:AY:=(iJ (bJ (dJ gtF (vJ 4) (kJ (.int 1))) fF) ((CJ (fJ 1 kW (yJ (vJ 0) wJ)) 5)) (JJ))
def gQ:AY:=(iJ (bJ (dJ (FG true) (vJ 5) (vJ 2)) fF) ((BJ (eJ wY mP (vJ 2) (yJ (vJ 5) wJ)))) (JJ))
def hX:AY:=zI (aD) (zI (aF) (zI (gO) (zI (gP) ((gQ)))))
def lV:AF:=(CJ (bJ wJ jW) 2)
def lW:AF:=(FJ (bJ (yJ (vJ 1) wJ) iO) (zV 3) (hX))
def lX:AF:=(AJ (vJ 2))
def iY:AF:=zI (lV) (zI (lW) ((lX)))
def iZ(ds:Za)(S:Sto):R Er:=yB (iY (zR ["_law_well","_law_many","_law_pool_here","_law_k","_law_way","_law_value"] ds) S)
def bY:AY:=(CJ (dJ jR (kJ (.int 1)) (fJ 2 zB (yJ (vJ 0) (yJ (kJ (.int 4)) wJ)))) 3)
def bZ:AY:=(BJ (eJ wY mP (vJ 1) (yJ (bJ (yJ (vJ 3) (yJ (fJ 2 zB (yJ (vJ 0) (yJ (dJ jR (vJ 3) (kJ (.int 1))) wJ))) wJ)) nU) wJ)))
def wO:AY:=zI (bY) ((bZ))
def aG:AF:=(CJ (bJ wJ jW) 1)
def aH:AF:=(FJ (bJ (yJ (dJ jR (kJ (.int 1)) (fJ 2 zB (yJ (vJ 0) (yJ (kJ (.int 4)) wJ)))) wJ) iO) (zV 2) (wO))
def aI:AF:=(AJ (vJ 1))
def dW:AF:=zI (aG) (zI (aH) ((aI)))
def dX(ds:Za)(S:Sto):R Er:=yB (dW (zR ["_law_well","_law_tables_here","_law_k","_law_wide"] ds) S)
def fY:AZ:=uJ
def cA:AE:=(dJ lO (vJ 2) (fJ 2 zB (yJ (vJ 1) (yJ (bJ (yJ (vJ 2) wJ) pO) wJ))))
def eC:AF:=(CJ (fJ 2 zB (yJ (vJ 0) (yJ (bJ (yJ (vJ 1) wJ) pO) wJ))) 3)
def eE:AF:=(AJ (bJ (yJ (vJ 3) (yJ (bJ (yJ (pJ (bJ (yJ (dJ lO (dJ lO (vJ 1) (vJ 3)) (kJ (.int 0))) wJ) iO) (zV 0) (fY) (cA) 1 [0,2]) wJ) nV) wJ)) nU))
def oV:AF:=zI (eC) ((eE))
def oW(ds:Za)(S:Sto):R Er:=yB (oV (zR ["_law_well","_law_tables_here","_law_pool_here","_law_t"] ds) S)
def gR:AZ:=uJ
def wQ:AE:=(fJ 1 yA (yJ (vJ 0) wJ))
def gT:AY:=(CJ (fJ 3 oW (yJ (vJ 8) (yJ (vJ 2) (yJ (vJ 3) wJ)))) 9)
def wR:AY:=(iJ (rJ (bJ (dJ (FG true) (vJ 9) (vJ 7)) fF) (bJ (dJ Pf (bJ (yJ (vJ 7) wJ) pO) (vJ 4)) fF)) ((BJ (eJ wY mP (vJ 7) (yJ (vJ 9) wJ)))) (JJ))
def xF:AY:=zI (gT) ((wR))
def dY:AF:=(CJ (fJ 1 yA (yJ (vJ 1) wJ)) 5)
def dZ:AF:=(CJ (fJ 2 zB (yJ (vJ 5) (yJ (kJ (.int 20)) wJ))) 6)
def nA:AF:=(CJ (bJ wJ jW) 7)
def nB:AF:=(FJ (bJ (dJ jR (pJ (bJ (vJ 0) AI) (zV 0) (gR) (wQ) 1 []) (dJ vG (bJ (yJ (vJ 5) wJ) jW) (vJ 6))) AI) (zV 8) (xF))
def sC:AF:=(AJ (vJ 7))
def lB:AF:=zI (dY) (zI (dZ) (zI (nA) (zI (nB) ((sC)))))
def lD(ds:Za)(S:Sto):R Er:=yB (lB (zR ["_law_cells","_law_extra","_law_tables_here","_law_pool_here","_law_most","_law_more","_law_many","_law_rows_here","_law_well","_law_row_here"] ds) S)
def wU:AF:=(iJ (bJ (dJ LX (fJ 2 zB (yJ (vJ 0) (yJ (kJ (.int 4)) wJ))) (kJ (.int 0))) fF) ((AJ (bJ (yJ (kJ (.str [105,115])) (yJ (dJ lO (vJ 2) (fJ 2 zB (yJ (vJ 0) (yJ (bJ (yJ (vJ 2) wJ) pO) wJ)))) wJ)) nU))) (JJ))
def nE:AF:=(AJ (bJ (yJ (kJ (.str [118,97,114])) (yJ (dJ lO (vJ 1) (fJ 2 zB (yJ (vJ 0) (yJ (bJ (yJ (vJ 1) wJ) pO) wJ)))) wJ)) nU))
def bH:AF:=zI (wU) ((nE))
def lE(ds:Za)(S:Sto):R Er:=yB (bH (zR qD ds) S)
def cU:AZ:=uJ
def jG:AE:=(fJ 3 lE (yJ (vJ 1) (yJ (vJ 2) (yJ (vJ 3) wJ))))
def cV:AY:=(CJ (fJ 2 zB (yJ (vJ 0) (yJ (bJ (yJ (vJ 1) wJ) pO) wJ))) 7)
def cW:AY:=(BJ (eJ wY mP (vJ 5) (yJ (bJ (yJ (vJ 7) (yJ (bJ (yJ (pJ (bJ (yJ (dJ lO (dJ lO (vJ 1) (vJ 7)) (kJ (.int 0))) wJ) iO) (zV 0) (cU) (jG) 1 [0,2,3]) wJ) nV) wJ)) nU) wJ)))
def kX:AY:=zI (cV) ((cW))
def fZ:AF:=(CJ (bJ wJ jW) 5)
def iA:AF:=(FJ (bJ (yJ (vJ 4) wJ) iO) (zV 6) (kX))
def iB:AF:=(AJ (vJ 5))
def eF:AF:=zI (fZ) (zI (iA) ((iB)))
def eI(ds:Za)(S:Sto):R Er:=yB (eF (zR ["_law_well","_law_tables_here","_law_names_here","_law_pool_here","_law_many","_law_atoms_here","_law_k","_law_t"] ds) S)
def xK:AY:=(iJ (rJ (bJ (dJ LX (vJ 4) (kJ (.str [118,97,114]))) fF) (bJ (dJ (FG true) (vJ 5) (vJ 1)) fF)) ((BJ (eJ wY mP (vJ 1) (yJ (vJ 5) wJ)))) (JJ))
def yD:AY:=(xK)
def jT:AY:=(FJ (bJ (vJ 3) XJ) (fG 2 (zA (zV 4) (zA (zV 5) zZ))) (yD))
def wZ:AY:=(jT)
def kC:AF:=(CJ (bJ wJ jW) 1)
def kD:AF:=(FJ (bJ (vJ 0) itQ) (fG 2 (zA (zV 2) (zA (zV 3) zZ))) (wZ))
def kE:AF:=(AJ (vJ 1))
def gU:AF:=zI (kC) (zI (kD) ((kE)))
def yO(ds:Za)(S:Sto):R Er:=yB (gU (zR ["_law_atoms_here","_law_found","_law_t","_law_terms","_law_word_here","_law_name"] ds) S)
def aK:AY:=(iJ (bJ (dJ QK (vJ 3) (bJ wJ jW)) fF) ((BJ (eJ wY mP (vJ 4) (yJ (eJ wY WH (vJ 3) (yJ (fJ 2 zB (yJ (vJ 0) (yJ (bJ (yJ (vJ 3) wJ) pO) wJ))) wJ)) wJ)))) (JJ))
def gA:AY:=(aK)
def lY:AF:=(CJ (fJ 1 yO (yJ (vJ 1) wJ)) 3)
def lZ:AF:=(CJ (bJ wJ jW) 4)
def mB:AF:=(FJ (bJ (yJ (fJ 2 zB (yJ (vJ 0) (yJ (dJ jR (vJ 2) (kJ (.int 1))) wJ))) wJ) iO) (zV 5) (gA))
def mE:AF:=(AJ (vJ 4))
def lF:AF:=zI (lY) (zI (lZ) (zI (mB) ((mE))))
def nO(ds:Za)(S:Sto):R Er:=yB (lF (zR ["_law_well","_law_atoms_here","_law_most","_law_there","_law_head_here","_law_k"] ds) S)
def cX:AY:=(CJ (fJ 1 kW (yJ (vJ 0) wJ)) 4)
def jH:AY:=(iJ (bJ (dJ (FG false) (vJ 4) (vJ 2)) fF) ((CJ (dJ lO (bJ (yJ (dJ jR (kJ (.str [98])) (vJ 1)) (yJ (dJ jR (dJ jR (kJ (.str [98])) (vJ 1)) (kJ (.str [97]))) wJ)) jW) (vJ 3)) 4)) (JJ))
def cY:AY:=(BJ (eJ wY mP (vJ 2) (yJ (vJ 4) wJ)))
def kY:AY:=zI (cX) (zI (jH) ((cY)))
def cB:AF:=(CJ (tJ BM (fJ 1 kW (yJ (vJ 0) wJ)) mJ (bJ (kJ (.int 6)) Ob)) 1)
def cC:AF:=(iJ (bJ (dJ LX (fJ 2 zB (yJ (vJ 0) (yJ (kJ (.int 2)) wJ))) (kJ (.int 0))) fF) ((AJ (bJ (yJ (vJ 1) (yJ (dJ jR (vJ 1) (kJ (.str [97]))) (yJ (dJ jR (kJ (.str [98])) (vJ 1)) wJ))) jW))) (JJ))
def iC:AF:=(CJ (bJ (yJ (vJ 1) wJ) jW) 2)
def iD:AF:=(FJ (bJ (yJ (kJ (.int 2)) wJ) iO) (zV 3) (kY))
def iE:AF:=(AJ (vJ 2))
def uC:AF:=zI (cB) (zI (cC) (zI (iC) (zI (iD) ((iE)))))
def eK(ds:Za)(S:Sto):R Er:=yB (uC (zR ["_law_well","_law_base","_law_names_here","_law_k","_law_name"] ds) S)
def cZ:AY:=(iJ (bJ (bJ (yJ (vJ 2) (yJ (kJ (.typ "str")) wJ)) rH) rG) ((BJ (eJ wY mP (vJ 1) (yJ (bJ (yJ (kJ (.int 1)) (yJ (kJ (.int 0)) (yJ (vJ 2) wJ))) nU) wJ)))) ((BJ (eJ wY mP (vJ 1) (yJ (bJ (yJ (kJ (.int 0)) (yJ (vJ 2) (yJ (kJ (.str [])) wJ))) nU) wJ)))))
def cE:AY:=(cZ)
def cF:AF:=(CJ (bJ wJ jW) 1)
def cG:AF:=(FJ (bJ (vJ 0) XJ) (zV 2) (cE))
def iG:AF:=(AJ (vJ 1))
def eM:AF:=zI (cF) (zI (cG) ((iG)))
def cH(ds:Za)(S:Sto):R Er:=yB (eM (zR ["_law_cells","_law_marks","_law_value"] ds) S)
def dA:AZ:=uJ
def xQ:AE:=(iJ (bJ (dJ LX (vJ 0) (kJ (.str [118,97,114]))) fF) (dJ KA (vJ 2) (vJ 1)) (vJ 1))
def jI:AY:=(CJ (bJ (yJ (pJ (bJ (vJ 4) XJ) (fG 2 (zA (zV 0) (zA (zV 1) zZ))) (dA) (xQ) 2 [2]) wJ) nV) 5)
def jK:AY:=(iJ (bJ (dJ (FG true) (bJ (yJ (vJ 3) (yJ (vJ 5) wJ)) nU) (vJ 0)) fF) ((AJ (kJ (.bl false)))) (JJ))
def xR:AY:=zI (jI) ((jK))
def xS:AF:=(FJ (bJ (vJ 1) XJ) (fG 2 (zA (zV 3) (zA (zV 4) zZ))) (xR))
def qI:AF:=(AJ (kJ (.bl true)))
def eO:AF:=zI (xS) ((qI))
def eP(ds:Za)(S:Sto):R Er:=yB (eO (zR ["_law_rows_here","_law_atoms_here","_law_values","_law_t","_law_terms","_law_cells"] ds) S)
def gZ:AY:=(CJ (bJ (yJ (vJ 5) wJ) NP) 7)
def bA:AY:=(EJ (vJ 6) (DJ tZ (vJ 7) (vJ 3)))
def bB:AY:=(BJ (eJ wY mP (vJ 4) (yJ (vJ 7) wJ)))
def jL:AY:=zI (gZ) (zI (bA) ((bB)))
def bC:AY:=(FJ (bJ (vJ 0) AI) (zV 6) (jL))
def xT:AY:=(bC)
def wG:AY:=(CJ (bJ wJ jW) 4)
def wH:AY:=(FJ (bJ (vJ 2) AI) (zV 5) (xT))
def bD:AY:=(CJ (vJ 4) 2)
def jM:AY:=zI (wG) (zI (wH) ((bD)))
def jN:AF:=(CJ (bJ (yJ zJ wJ) jW) 2)
def jO:AF:=(FJ (bJ (vJ 1) AI) (zV 3) (jM))
def dB:AF:=(AJ (vJ 2))
def cI:AF:=zI (jN) (zI (jO) ((dB)))
def kZ(ds:Za)(S:Sto):R Er:=yB (cI (zR ["_law_pool_here","_law_names_here","_law_found","_law_name","_law_more","_law_values","_law_value","_law_wider"] ds) S)
def bE:AZ:=uJ
def wI:AE:=(dJ KA (vJ 1) (vJ 0))
def wK:AY:=(CJ (bJ (yJ (pJ (bJ (vJ 3) XJ) (zV 0) (bE) (wI) 1 [7]) wJ) nV) 8)
def bF:AY:=(iJ (rJ (bJ (dJ (FG true) (vJ 8) (vJ 6)) fF) (bJ (fJ 3 eP (yJ (vJ 0) (yJ (vJ 4) (yJ (vJ 7) wJ)))) rG)) ((BJ (eJ wY mP (vJ 6) (yJ (vJ 8) wJ)))) (JJ))
def xU:AY:=zI (wK) ((bF))
def dC:AF:=(EJ (vJ 1) (fG 2 (zA (zV 3) (zA (zV 4) zZ))))
def dD:AF:=(CJ (fJ 1 yO (yJ (vJ 4) wJ)) 5)
def dE:AF:=(CJ (bJ wJ jW) 6)
def dF:AF:=(FJ (bJ (fJ 2 kZ (yJ (vJ 2) (yJ (vJ 5) wJ))) AI) (zV 7) (xU))
def dG:AF:=(AJ (bJ (yJ (vJ 6) wJ) (AO true cH)))
def cJ:AF:=zI (dC) (zI (dD) (zI (dE) (zI (dF) ((dG)))))
def jA(ds:Za)(S:Sto):R Er:=yB (cJ (zR ["_law_rows_here","_law_question","_law_pool_here","_law_head_here","_law_atoms_here","_law_names_here","_law_found","_law_values","_law_answer"] ds) S)
def aL:AY:=(iJ (bJ (bJ (yJ (vJ 4) (yJ (kJ (.typ "bool")) wJ)) rH) rG) ((AJ (kJ (.bl false)))) (JJ))
def gB:AY:=(aL)
def aM:AY:=(iJ (sJ (qJ (bJ (bJ (yJ (vJ 2) (yJ (kJ (.typ "tuple")) wJ)) rH) rG)) (bJ (dJ QK (vJ 2) (vJ 3)) fF)) ((AJ (kJ (.bl false)))) (JJ))
def aO:AY:=(FJ (bJ (vJ 2) XJ) (zV 4) (gB))
def gC:AY:=zI (aM) ((aO))
def mG:AF:=(iJ (sJ (qJ (bJ (bJ (yJ (vJ 0) (yJ (kJ (.typ "list")) wJ)) rH) rG)) (bJ (dJ QK (bJ (yJ (vJ 0) wJ) pO) (bJ (yJ (vJ 1) wJ) pO)) fF)) ((AJ (kJ (.bl false)))) (JJ))
def mH:AF:=(FJ (bJ (yJ (vJ 0) (yJ (vJ 1) wJ)) ZR) (fG 2 (zA (zV 2) (zA (zV 3) zZ))) (gC))
def sD:AF:=(AJ (kJ (.bl true)))
def lG:AF:=zI (mG) (zI (mH) ((sD)))
def yK(ds:Za)(S:Sto):R Er:=yB (lG (zR ["_law_told","_law_due","_law_one","_law_other","_law_value"] ds) S)
def KC:AF:=(CJ (fJ 1 dX (yJ (fJ 1 yA (yJ (fJ 2 zQ (yJ (vJ 0) (yJ (kJ (.int 0)) wJ))) wJ)) wJ)) 1)
def KD:AF:=(CJ (fJ 1 yA (yJ (fJ 2 zQ (yJ (vJ 0) (yJ (kJ (.int 1)) wJ))) wJ)) 2)
def KE:AF:=(CJ (fJ 2 iZ (yJ (vJ 2) (yJ (dJ jR (kJ (.int 2)) (fJ 2 zB (yJ (vJ 2) (yJ (kJ (.int 3)) wJ)))) wJ))) 3)
def KF:AF:=(CJ (fJ 1 eK (yJ (fJ 1 yA (yJ (fJ 2 zQ (yJ (vJ 0) (yJ (kJ (.int 2)) wJ))) wJ)) wJ)) 4)
def KG:AF:=(CJ (fJ 1 yA (yJ (fJ 2 zQ (yJ (vJ 0) (yJ (kJ (.int 3)) wJ))) wJ)) 2)
def KH:AF:=(CJ (fJ 5 eI (yJ (vJ 2) (yJ (vJ 1) (yJ (vJ 4) (yJ (vJ 3) (yJ (dJ jR (kJ (.int 1)) (fJ 2 zB (yJ (vJ 2) (yJ (kJ (.int 3)) wJ)))) wJ)))))) 5)
def KI:AF:=(CJ (bJ (yJ (bJ (yJ (fJ 3 nO (yJ (fJ 1 yA (yJ (fJ 2 zQ (yJ (vJ 0) (yJ (kJ (.int 5)) wJ))) wJ)) (yJ (vJ 5) (yJ (kJ (.int 2)) wJ)))) wJ) nV) (yJ (bJ (yJ (vJ 5) wJ) nV) wJ)) nU) 6)
def KL:AF:=(CJ (fJ 5 lD (yJ (tJ BM (vJ 0) (bJ (kJ (.int 6)) Ob) mJ) (yJ (fJ 2 zQ (yJ (vJ 0) (yJ (kJ (.int 4)) wJ))) (yJ (vJ 1) (yJ (vJ 3) (yJ (kJ (.int 40)) wJ)))))) 7)
def KM:AF:=(CJ (fJ 3 jA (yJ (vJ 7) (yJ (vJ 6) (yJ (vJ 3) wJ)))) 8)
def EH:AF:=(CJ (bJ (yJ (vJ 7) wJ) DT) 9)
def EI:AF:=(CJ (fJ 2 yZ (yJ (vJ 9) (yJ (vJ 6) wJ))) 10)
def EK:AF:=(iJ (sJ (qJ (bJ (fJ 2 yK (yJ (vJ 10) (yJ (vJ 8) wJ))) rG)) (bJ (dJ QK (vJ 9) (vJ 7)) fF)) ((AJ (kJ (.bl false)))) (JJ))
def EL:AF:=(BJ (eJ wY mP (vJ 10) (yJ (bJ wJ nU) wJ)))
def EM:AF:=(BJ (gJ wY ZO (vJ 10)))
def EN:AF:=(iJ (qJ (bJ (fJ 2 yK (yJ (fJ 2 yZ (yJ (dJ jR (vJ 7) (tJ BM (vJ 7) mJ (bJ (kJ (.int 3)) Ob))) (yJ (vJ 6) wJ))) (yJ (vJ 8) wJ))) rG)) ((AJ (kJ (.bl false)))) (JJ))
def EO:AF:=(AJ (aJ (fJ 2 yK (yJ (fJ 2 yZ (yJ (vJ 9) (yJ (vJ 6) wJ))) (yJ (vJ 8) wJ))) (fJ 2 yK (yJ (fJ 2 yZ (yJ (tJ (DR (-1)) (vJ 7) mJ mJ) (yJ (vJ 6) wJ))) (yJ (vJ 8) wJ)))))
def TQ:AF:=zI (KC) (zI (KD) (zI (KE) (zI (KF) (zI (KG) (zI (KH) (zI (KI) (zI (KL) (zI (KM) (zI (EH) (zI (EI) (zI (EK) (zI (EL) (zI (EM) (zI (EN) ((EO))))))))))))))))
def OE(ds:Za)(S:Sto):R Er:=yB (TQ (zR ["_law_script","_law_tables_here","_law_well","_law_pool_here","_law_names_here","_law_atoms_here","_law_question","_law_rows_here","_law_due","_law_handed","_law_told"] ds) S)
def Io{b:Int}(h:VR 0 b)(a:Int)(S:Sto):VT #[a,5] #[b,5] S=.ok #[a / b,5] S:=iP (show VR a b from h)
def wL{S:Sto}{l:Nat}{ds:Za}{d:MV}(hS:S[l]? =#[ds,2])(hz:ds.length<1000000):mP #[l,1] [.val d] S=#[.non,S.set l (.lst (ds++[d])),1]:=by show FU #[l,1] S (λds=>if ds.length<sizeLine then some (ds++[d])else none)=_;unfold FU;dsimp only;rw[hS];dsimp only;rw[iP (Nat.lt_of_lt_of_le hz (fits q9))]
theorem yV{S:Sto}{l:Nat}{ds:Za}(hS:S[l]? =#[ds,2]):wY #[l,1] S=true:=by unfold wY;rw[nF hS];rfl
def Bg{S:Sto}{l:Nat}{ds:Za}{k:Int}{j:Nat}{d:MV}{ρ:Rho}(hS:S[l]? =#[ds,2])(hj:IO ds.length k=some j):HA #[l,1] #[k,5] d ρ S=.ok ρ (S.set l (.lst (ds.set j d))):=by unfold HA;dsimp only;rw[hS];dsimp only;rw[hj]
def get_set{S:Sto}{l:Nat}{o o':MO}(h:S[l]? =some o):(S.set l o')[l]? =some o':=getElem?_set_self (gS.mp h).1
def sX{S:Sto}{l m:Nat}{o':MO}(h:l≠m):(S.set l o')[m]? =S[m]? :=getElem?_set_ne h
def WX{S:Sto}{l:Nat}{ds:Za}(hS:S[l]? =#[ds,2]):nV [#[l,1]] S=.ok #[ds,6] S:=by show(match kH S #[l,1]with |some ds=>R.ok (Er.val (.tup ds)) S|none=>.no)=_;rw[nF hS]
theorem CL(gf:MV->Rho->Sto->R Rho)(ρ:Rho)(d:MV)(S:Sto):Fp gf ρ (.val d) S=(gf d ρ S).bind λρ' S2=>#[ρ',S2,0]:=rfl
def tbl(p:Int×Int):MV:=.tup [.int p.1,.int p.2]
def Ip(ts:Tk):Prop:=1<=ts.length/\ts.length<=4/\ ∀p∈ts,1<=p.1/\p.1<=4/\0<=p.2/\p.2<=p.1
mutual
def pd:MV->Bool
 |.int _=>true
 |.str _=>true
 |.tup ds=>LY ds
 |_=>false
def LY:List MV->Bool
 |[]=>true
 |d::ds=>pd d&&LY ds
end
mutual
def uY:MV->Nat
 |.tup ds=>rM ds+1
 |_=>0
def rM:List MV->Nat
 |[]=>0
 |d::ds=>max (uY d) (rM ds)
end
def jU(ds:Za):pd (.tup ds)=LY ds:=by rw[pd]
def lH:LY []=true:=by rw[LY]
def yL(d:MV)(ds:Za):LY (d::ds)=(pd d&&LY ds):=by rw[LY]
def gV(ds:Za):uY (.tup ds)=rM ds+1:=by rw[uY]
def yH(d:MV)(ds:Za):rM (d::ds)=max (uY d) (rM ds):=by rw[rM]
def iH:rM []=0:=by rw[rM]
def vX(i:Int):pd (.int i)=true:=by rw[pd]
def iI(i:Db):pd (.str i)=true:=by rw[pd]
def oX(i:Int):uY (.int i)=0:=by simp[uY]
def eQ(i:Db):uY (.str i)=0:=by simp[uY]
theorem lI: ∀{ds:Za},(∀d∈ds,pd d=true)->LY ds=true
 |[],_=>lH
 |d::ds,h=>by rw[yL,h d mF0,lI λe he=>h e (mO _ he)];rfl
theorem KN: ∀{ds:Za},LY ds=true-> ∀d∈ds,pd d=true
 |[],_,d,h=>by simp at h
 |e::ds,hp,d,h=>by
  rw[yL,aE]at hp;rcases mC.mp h with rfl|h
  .exact hp.1
  .exact KN hp.2 d h
theorem uD: ∀{ds:Za}{n:Nat},(∀d∈ds,uY d<=n)->rM ds<=n
 |[],n,_=>by rw[iH];exact zero_le _
 |d::ds,n,h=>by rw[yH];have h1:=h d mF0;have h2:=uD λe he=>h e (mO _ he);omega
theorem OG: ∀{ds:Za}, ∀d∈ds,uY d<=rM ds
 |[],d,h=>by simp at h
 |e::ds,d,h=>by
  rw[yH];rcases mC.mp h with rfl|h
  .exact Nat.le_max_left _ _
  .exact Nat.le_trans (OG d h) (Nat.le_max_right _ _)
def OH{d:MV}(h:pd d=true):(∃i,d=.int i)\/(∃x,d=.str x)\/ ∃ds,d=.tup ds/\LY ds=true:=by
 cases d with
 |int i=>exact .inl ⟨i,rfl⟩
 |str x=>exact .inr (.inl ⟨x,rfl⟩)
 |tup ds=>exact .inr (.inr ⟨ds,rfl,by rw[<-jU];exact h⟩)
 |_=>rw[pd]at h<;>first |cases h|(intros;simp)
def dec_is{p:Prop}[Decidable p]{q:Prop}[Decidable q](h:p↔q):decide p=decide q:=by
 by_cases hq:q
 .rw[dT0 hq,dT0 (h.mpr hq)]
 .rw[dF0 hq,dF0 λz=>hq (h.mp z)]
theorem EQ{e:MV->MV->Option Bool}: ∀{ds es:Za},(∀d∈ds, ∀f∈es,e d f=some (decide (d=f)))-> ∃bs,BL e ds es=some bs/\(bs.all id&&ds.length==es.length)=decide (ds=es)
 |[],[],_=>⟨[],rfl,by simp⟩
 |[],_::_,_=>⟨[],rfl,by simp⟩
 |_::_,[],_=>⟨[],rfl,by simp⟩
 |d::ds,f::es,h=>by
  obtain⟨bs,h1,h2⟩:=EQ (e:=e) (ds:=ds) (es:=es) λa ha b hb=>h a (mO _ ha) b (mO _ hb);refine⟨decide (d=f)::bs,?_,?_⟩
  .unfold BL;rw[h d mF0 f mF0,h1];rfl
  .by_cases hd:d=f
   .subst hd;rw[List.all_cons,dT0 rfl];simp only[id,Bool.true_and,lC];rw[show(ds.length+1==es.length+1)=(ds.length==es.length) by simp,h2];exact dec_is (by simp)
   .rw[List.all_cons,dF0 hd];rw[dF0 (show¬(d::ds=f::es)from λz=>hd (List.cons.inj z).1)];rfl
theorem qK{S:Sto}: ∀(n:Nat){d e:MV},pd d=true->pd e=true->uY d<n->eqv S n d e=some (decide (d=e))
 |0,d,e,_,_,h=>by omega
 |n+1,d,e,hd,he,h=>by
  rcases OH hd with⟨i,rfl⟩|⟨x,rfl⟩|⟨ds,rfl,pds⟩<;>rcases OH he with⟨j,rfl⟩|⟨y,rfl⟩|⟨es,rfl,pes⟩
  .rw[BW];exact congrArg some (dec_is (by simp))
  .rw[Pu,dF0 (by simp)]
  .rw[dF0 (by simp)];rfl
  .rw[Pw,dF0 (by simp)]
  .rw[JG];exact congrArg some (dec_is (by simp))
  .rw[dF0 (by simp)];rfl
  .rw[dF0 (by simp)];rfl
  .rw[dF0 (by simp)];rfl
  .rw[gV]at h;obtain⟨bs,h1,h2⟩:=EQ (e:=eqv S n) (ds:=ds) (es:=es) λa ha b hb=>qK n (KN pds a ha) (KN pes b hb) (by have:=OG a ha;omega);show((BL (eqv S n) ds es).map λbs=>bs.all id&&ds.length==es.length)=_;rw[h1];show some (bs.all id&&ds.length==es.length)=_;rw[h2];exact congrArg some (dec_is (by simp))
theorem OI{S:Sto}{d:MV}(hd:pd d=true): ∀{ys:Za},(∀y∈ys,pd y=true/\uY y<40)->MY S zG d ys=some (ys.map λy=>decide (y=d))
 |[],_=>rfl
 |y::ys,h=>by have h1:=h y mF0;unfold MY;rw[qK zG h1.1 hd (by unfold zG;exact h1.2),OI hd λz hz=>h z (mO _ hz)];rfl
def TR{n:Nat}{F:List MV->Sto->R Er}{rs:List Er}{S:Sto}{b:Bool}(hn:rs.length=n)(hF:F (zD rs S).1 (zD rs S).2=#[.bl b,S,1]):zF n F rs S=#[.bl b,S,1]:=eW hn hF (ZU _ _) (λl=>by simp)
def SqM(S:Sto)(m:MV)(ds:Za):Prop:=m=.tup ds\/ ∃l,m=.loc l/\S[l]? =#[ds,2]
def SqM.len{S:Sto}{m:MV}{ds:Za}(h:SqM S m ds):pO [.val m] S=.ok #[ds.length,5] S:=by
 rcases h with rfl|⟨l,rfl,hS⟩
 .rfl
 .exact xY hS
def SqM.app{S T:Sto}{m:MV}{ds:Za}(h:SqM S m ds):SqM (S++T) m ds:=by
 rcases h with h|⟨l,h,hS⟩
 .exact .inl h
 .exact .inr ⟨l,h,by rw[getElem?_append_left (gS.mp hS).1];exact hS⟩
def cK{n:Nat}{F:List MV->Sto->R Er}{rs:List Er}{S T:Sto}{r:Er}{ds:Za}{as:Za}{S2:Sto}(hn:rs.length=n)(hE:zD rs S=(as,S2))(hF:F as S2=.ok r (S++T))(hr:r=.new ds\/ ∃l,r=#[l,1]/\S.length<=l/\(S++T)[l]? =#[ds,2])(h:qU S.length ds):zF n F rs S=#[ds,S,2]:=by
 have hF':F (zD rs S).1 (zD rs S).2=.ok r (S++T):=by rw[hE];exact hF
 rcases hr with rfl|⟨l,rfl,h1,h2⟩
 .exact tS hn hF' h
 .exact DV hn hF' h1 h2 h
theorem Iq(neg:Bool)(p:Er)(l:Nat)(S:Sto):FG neg p #[l,1] S=JE neg p #[l,1] S:=by
 unfold FG;split
 .rename_i h;cases h
 .rfl
def lK{S:Sto}{l:Nat}{d:MV}{ys:Za}(neg:Bool)(hS:S[l]? =#[ys,2])(hd:pd d=true)(h: ∀y∈ys,pd y=true/\uY y<40):FG neg (.val d) #[l,1] S=#[.bl (if neg=true then !decide (d∈ys)else decide (d∈ys)),S,1]:=by
 have e1:itemsOf S #[l,1]=some ys:=by unfold itemsOf;exact nF hS
 rw[Iq];unfold JE;dsimp only;rw[e1];dsimp only;rw[OI hd h];dsimp only
 have ha:(ys.map λy=>decide (y=d)).any id=decide (d∈ys):=by
  rw[List.any_map];by_cases hm:d∈ys
  .rw[dT0 hm,List.any_eq_true];exact⟨d,hm,by simp⟩
  .rw[dF0 hm];rw[List.any_eq_false];intro y hy;simp only[Function.comp,id,decide_eq_true_eq];rintro rfl;exact hm hy
 rw[ha]
theorem gt_int(i j:Int)(S:Sto):gtF #[i,5] #[j,5] S=#[.bl (decide (j<i)),S,1]:=rfl
abbrev BO:List Nat:=[118,97,114]
abbrev IS:List Nat:=[105,115]
def cL(d:MV):Prop:=(∃x,d=.tup [.str BO,.str x])\/ ∃v,((∃i,v=.int i)\/ ∃x,v=.str x)/\d=.tup [.str IS,v]
mutual
theorem mU{n:Nat}: ∀{d:MV},pd d=true->lo n d
 |.int i,_=>vI n i
 |.str x,_=>QQ n x
 |.tup ds,h=>QR (KO (by rw[jU]at h;exact h))
 |.non,_=>ZV n
 |.bl b,_=>ZU n b
 |.scr ds,h=>by unfold pd at h;cases h
 |.loc l,h=>by unfold pd at h;cases h
 |.typ t,h=>by unfold pd at h;cases h
theorem KO{n:Nat}: ∀{ds:Za},LY ds=true->qU n ds
 |[],_=>cS λd hd=>by simp at hd
 |d::ds,h=>by rw[yL,aE]at h;unfold qU;exact⟨mU h.1,KO h.2⟩
end
def TU{d:MV}(h:cL d):pd d=true/\uY d<=1:=by
 rcases h with⟨x,rfl⟩|⟨v,⟨i,rfl⟩|⟨x,rfl⟩,rfl⟩
 .exact⟨by rw[jU,yL,yL,lH,iI,iI];rfl,by rw[gV,yH,yH,iH,eQ,eQ];decide⟩
 .exact⟨by rw[jU,yL,yL,lH,iI,vX];rfl,by rw[gV,yH,yH,iH,eQ,oX];decide⟩
 .exact⟨by rw[jU,yL,yL,lH,iI,iI];rfl,by rw[gV,yH,yH,iH,eQ,eQ];decide⟩
def vn:MV->Option (List Nat)
 |.tup [.str w,.str x]=>if w=BO then some x else none
 |_=>none
def sY(x:Db):vn (.tup [.str BO,.str x])=some x:=by simp[vn]
def HQ(S:Sto):LX (.val (.str BO)) (.val (.str BO)) S=#[.bl true,S,1]:=by rw[eq_str,dT0 rfl]
def TV(S:Sto):LX (.val (.str IS)) (.val (.str BO)) S=#[.bl false,S,1]:=by rw[eq_str,dF0 (by decide)]
def zT(S:Sto)(o:MO):(S++[o])[S.length]? =some o:=by simp
def gD(S:Sto)(o o':MO):(S++[o]).set S.length o'=S++[o']:=by simp
def CN{fs:Ch}: ∀y∈fs.map MV.str,pd y=true/\uY y<40:=λd hd=>by obtain⟨u,_,rfl⟩:=mM.mp hd;exact⟨iI u,by rw[eQ];decide⟩
def CO{x:Db}{fs:Ch}:MV.str x∈fs.map MV.str↔x∈fs:=⟨λh=>by obtain⟨u,hu,e⟩:=mM.mp h;cases e;exact hu,λh=>mM.mpr ⟨x,h,rfl⟩⟩
theorem Bi(a b:MV)(S:Sto):lO #[[a,b],6] #[0,5] S=#[a,S,1]:=rfl
theorem Bj(a b:MV)(S:Sto):lO #[[a,b],6] #[1,5] S=#[b,S,1]:=rfl
def SqM.itQ{S:Sto}{m:MV}{ds:Za}(h:SqM S m ds): ∃gs,(∀T,stay gs (S++T))/\ ∀T,itQ (.val m) (S++T)=.ok ⟨ds,gs⟩ (S++T):=by
 rcases h with rfl|⟨l,rfl,hS⟩
 .exact⟨[],λT=>bO _,λT=>rfl⟩
 .have hT: ∀T,(S++T)[l]? =#[ds,2]:=λT=>by rw[getElem?_append_left (gS.mp hS).1];exact hS
  refine⟨[(l,ds)],λT=>yT (hT T),λT=>?_⟩;have e:srcOf (S++T) #[l,1]=some ⟨true,ds,[(l,ds)]⟩:=by unfold srcOf;dsimp only;rw[hT T]
  unfold L2.M.itQ;rw[e]
def OJ{kvs:Ze}{k:MV}(h:(look kvs k).isSome=true):k∈kvs.map (·.1):=by unfold look at h;rw[Option.isSome_map]at h;obtain⟨p,hp⟩:=Option.isSome_iff_exists.mp h;have h1:=List.find?_some hp;exact mM.mpr ⟨p,List.mem_of_find?_eq_some hp,of_decide_eq_true h1⟩
def tup2(a b:MV)(S:Sto):nU [.val a,.val b] S=.ok #[[a,b],6] S:=JL (by simp)
theorem oY(ds:Za)(S:Sto):XJ #[ds,6] S=.ok ⟨ds,[]⟩ S:=rfl
def lst1(a:MV)(S:Sto):jW [.val a] S=#[[a],S,2]:=vL (by simp)
def pQ(ks:Ch)(x:Db):List (List Nat):=if x∈ks then ks else ks++[x]
def Bk(ks:Ch)(x y:Db):y∈pQ ks x↔y∈ks\/y=x:=by
 unfold pQ;split
 .rename_i h;exact⟨.inl,λz=>z.elim id λe=>e▸h⟩
 .rw[List.mem_append,mS]
def Ir{ks:Ch}(h:ks.Nodup)(x:Db):(pQ ks x).Nodup:=by
 unfold pQ;split
 .exact h
 .rename_i hx;exact nodup_append.mpr ⟨h,by simp,λa ha b hb=>by rw[mS.mp hb];rintro rfl;exact hx ha⟩
def ER(ks:Ch)(x:Db):(pQ ks x).length<=ks.length+1:=by
 unfold pQ;split
 .omega
 .rw[lA,lS];omega
def yX(ks xs:Ch):List (List Nat):=xs.foldl pQ ks
theorem mV: ∀(xs ks:Ch)(y:Db),y∈yX ks xs↔y∈ks\/y∈xs
 |[],ks,y=>by simp[yX]
 |x::xs,ks,y=>by show y∈yX (pQ ks x) xs↔_;rw[mV xs,Bk,mC,or_assoc]
theorem CP: ∀(xs:Ch){ks:Ch},ks.Nodup->(yX ks xs).Nodup
 |[],_,h=>h
 |x::xs,_,h=>CP xs (Ir h x)
theorem qL: ∀(xs ks:Ch),(yX ks xs).length<=ks.length+xs.length
 |[],ks=>Nat.le_refl _
 |x::xs,ks=>by have h1:=qL xs (pQ ks x);have h2:=ER ks x;show(yX (pQ ks x) xs).length<=_;rw[lC];omega
def dT(ks:Ch):List (MV×MV):=ks.map λx=>(.str x,.bl true)
theorem TX(ks:Ch):(dT ks).map (·.1)=ks.map MV.str:=by unfold dT;rw[List.map_map];rfl
def Iu(ks:Ch)(x:Db):(look (dT ks) (.str x)).isSome=decide (x∈ks):=by
 by_cases h:x∈ks
 .rw[dT0 h];unfold look;rw[Option.isSome_map,List.find?_isSome];exact⟨(.str x,.bl true),mM.mpr ⟨x,h,rfl⟩,by simp⟩
 .rw[dF0 h]
  cases z:(look (dT ks) (.str x)).isSome with
  |false=>rfl
  |true=>
   have:=OJ z;rw[TX]at this;exact absurd (CO.mp this) h
theorem Ri(ks:Ch)(x:Db):putK (dT ks) (.str x) (.bl true)=dT (pQ ks x):=by
 unfold putK pQ;rw[Iu];by_cases h:x∈ks
 .rw[iP h,iP (dT0 h)];unfold dT;rw[List.map_map];refine map_congr_left λy _=>?_;show(if MV.str y=MV.str x then(MV.str y,MV.bl true)else(MV.str y,MV.bl true))=_;split<;>rfl
 .rw[iN h,iN (by rw[dF0 h];exact xF0)];unfold dT;rw[List.map_append];rfl
theorem Kr(ks:Ch):(dT ks).all (λp=>sV p.1)=true:=by unfold dT;rw[all_map,List.all_eq_true];intro x _;rfl
def Bl{S:Sto}{l:Nat}{kvs:Ze}(h:S[l]? =#[kvs,7])(ha:kvs.all (λp=>sV p.1)=true):sW S #[l,1]=some (l,kvs):=by unfold sW;dsimp only;rw[h];dsimp only;rw[iP ha]
def Iv{S:Sto}{l:Nat}{ks:Ch}(h:S[l]? =#[dT ks,7])(hl:ks.length<1000000)(x:Db)(ρ:Rho):tZ #[l,1] (.val (.str x)) (.bl true) ρ S=.ok ρ (S.set l (.dic (dT (pQ ks x)))):=by unfold tZ;dsimp only;rw[Bl h (Kr ks)];dsimp only;rw[iP ⟨rfl,by unfold dT;rw[lM];exact hl⟩,Ri]
def Bm{S:Sto}{l:Nat}{ks:Ch}(h:S[l]? =#[dT ks,7]):vQ [#[l,1]] S=#[ks.map MV.str,S,2]:=by unfold vQ;dsimp only;rw[Bl h (Kr ks)];dsimp only;rw[TX]
theorem mW{α:Type}{f g:α->MV}{S:Sto}{gf:MV->Rho->Sto->R Rho}{cf:AZ}{ef:AX}{ρb:Rho}{gs:Zd}(hs:stay gs S):
  ∀{ds:List α},(∀d∈ds, ∃ρ1,gf (f d) ρb S=.ok ρ1 S/\cf ρ1 S=.ok true S/\ef ρ1 S=#[g d,S,1])->yF gf cf ef ρb gs (ds.map f) S=.ok (ds.map g) S
 |[],_=>rfl
 |d::ds,st=>by obtain⟨ρ1,h1,h2,h3⟩:=st d mF0;have e:=mW hs (f:=f) (g:=g) (ds:=ds) λd hd=>st d (mO _ hd);rw[List.map_cons];unfold yF;rw[h1,yQ,jS,h2,yQ,jS,iP rfl,h3,yQ,jS];unfold wV;rw[jS,iP hs,e];rfl
def WY{α:Type}(ds:List α)(j:Nat):aQ ds none (some (j:Int))=ds.take j:=by
 unfold aQ;rw[HT.sIx_nat,show HT.sIx ds.length 0 none=0 from rfl,drop_zero,Nat.sub_zero];by_cases h:j<=ds.length
 .rw[min_eq_left h]
 .rw[min_eq_right #[],take_of_length_le q9,take_of_length_le #[]]
def HR{α:Type}(ds:List α)(j:Nat):aQ ds (some (j:Int)) none=ds.drop j:=by
 unfold aQ;rw[HT.sIx_nat,show HT.sIx ds.length ds.length none=ds.length from rfl];by_cases h:j<=ds.length
 .rw[min_eq_left h,take_of_length_le (by rw[List.length_drop];exact Nat.le_refl _)]
 .rw[min_eq_right #[],List.drop_of_length_le q9,List.drop_of_length_le (show ds.length<=j by omega),List.take_nil]
def Wb{α:Type}{xs:List α}{k:Nat}{x:α}(h:xs[k]? =some x):tD xs (k:Int)=some x:=L2.atI_nat h
theorem Iw(ds:Za)(l h:Yh)(S:Sto):BM #[ds,6] l h S=.ok #[aQ ds l h,6] S:=rfl
abbrev aP(k:Nat):MV:=.int (k:Int)
def Iy{n:Nat}(h:n<=1000)(S:Sto):iO [#[(n:Int),5]] S=.ok ⟨(List.range n).map aP,[]⟩ S:=by rw[vK #[],Int.toNat_natCast]
theorem ES{α:Type}{f g:α->MV}{p:α->Bool}{S:Sto}{gf:MV->Rho->Sto->R Rho}{cf:AZ}{ef:AX}{ρb:Rho}{gs:Zd}(hs:stay gs S):
  ∀{ds:List α},(∀d∈ds, ∃ρ1,gf (f d) ρb S=.ok ρ1 S/\cf ρ1 S=.ok (p d) S/\ef ρ1 S=#[g d,S,1])->yF gf cf ef ρb gs (ds.map f) S=.ok ((ds.filter p).map g) S
 |[],_=>rfl
 |d::ds,st=>by
  obtain⟨ρ1,h1,h2,h3⟩:=st d mF0;have e:=ES hs (f:=f) (g:=g) (p:=p) (ds:=ds) λd hd=>st d (mO _ hd);rw[List.map_cons];unfold yF
  cases hp:p d with
  |true=>
   rw[h1,yQ,jS,h2,yQ,jS,hp,iP rfl,h3,yQ,jS];unfold wV;rw[jS,iP hs,e,List.filter_cons_of_pos hp];rfl
  |false=>
   rw[h1,yQ,jS,h2,yQ,jS,hp,iN xF0,iP hs,e,List.filter_cons_of_neg (by rw[hp];exact xF0)]
def dH(S T:Sto)(o:MO):(S++o::T)[S.length]? =some o:=by simp
def KP(S T:Sto)(o o':MO):(S++o::T).set S.length o'=S++o'::T:=by simp
theorem Bn{n:Nat}{F:List MV->Sto->R Er}{rs:List Er}{S T:Sto}{kvs:Ze}(hn:rs.length=n)(hF:F (zD rs S).1 (zD rs S).2=.ok #[S.length,1] (S++.dic kvs::T)):zF n F rs S=.ok #[S.length,1] (S++.dic kvs::T):=by
 unfold zF;rw[iP hn,hF];show jQ S #[S.length,1] (S++.dic kvs::T)=_;unfold jQ;dsimp only;split
 .rw[iN (lt_irrefl _),dH]
 .rfl
def TZ{S:Sto}{l:Nat}{ds:Za}(h:S[l]? =#[ds,2]):rG #[l,1] S=.ok (!ds.isEmpty) S:=by unfold rG;dsimp only;rw[h]
theorem Iz(ds:Za)(S:Sto):Vb [#[ds,6]] S=.ok ⟨QT ds,[]⟩ S:=rfl
def abc:List Nat:=[97,98,99,100,101,102,103,104,105,106,107,108,109,110,111,112,113,114,115,116,117,118,119,120,121,122]
def rC(ws:Ch)(n:Nat):qU n #[ws,8]:=cS λd hd=>by obtain⟨x,_,rfl⟩:=mM.mp hd;exact QQ _ _
def Ja{S:Sto}{l:Nat}{ds:Za}(hS:S[l]? =#[ds,2])(a b:Yh):BM #[l,1] a b S=#[aQ ds a b,S,2]:=by show(match kH S #[l,1]with |some ds=>R.ok (Er.new (aQ ds a b)) S|none=>.no)=_;rw[nF hS]
abbrev VS(v:MV):Prop:=(∃i,v=.int i)\/ ∃x,v=.str x
def qM{v:MV}(h:VS v):pd v=true/\uY v<40:=by
 rcases h with⟨i,rfl⟩|⟨x,rfl⟩
 .exact⟨vX i,by rw[oX];decide⟩
 .exact⟨iI x,by rw[eQ];decide⟩
def Wc{vs:Za}(h: ∀v∈vs,VS v)(n:Nat):qU n vs:=cS λd hd=>mU (qM (h d hd)).1
def Jb{S:Sto}{l:Nat}{ds:Za}(hS:S[l]? =#[ds,2]):ZO #[l,1] [] S=#[.non,S.set l (.lst ds.reverse),1]:=by unfold ZO FU;dsimp only;rw[hS]
theorem Bo{S:Sto}{l:Nat}{ds:Za}(hS:S[l]? =#[ds,2]):QK #[l,1] (.new []) S=#[.bl (!ds.isEmpty),S,1]:=by
 have e:GX S #[l,1]=some (.ls ds):=by show(kH S #[l,1]).map Vw.ls=_;rw[nF hS];rfl
 unfold QK DO;rw[e]
 cases ds with
 |nil=>rfl
 |cons d ds=>rfl
theorem rD(ns:Xi)(k:Int)(hk:0<=k)(S:Sto): ∃c,zF 2 zQ [.val (.scr (ns.map MV.int)),#[k,5]] S=.ok #[c,5] S:=by
 have hlen:pO [.val (.scr (ns.map MV.int))] S=.ok #[ns.length,5] S:=by show R.ok (Er.val (.int (((ns.map MV.int).length:Nat):Int))) S=_;rw[lM]
 have e1:jF [some (.scr (ns.map MV.int)),#[k,0]] S=if decide (k<ns.length)=true then(lO (.val (.scr (ns.map MV.int))) #[k,5] S).bind λr S1=>.ok (.ret r) S1 else #[[some (.scr (ns.map MV.int)),#[k,0]],S,0]:=by unfold jF;simp? [hlen,lt_int]
 have fin: ∀c,zQ [.scr (ns.map MV.int),.int k] S=.ok #[c,5] S-> ∃c,zF 2 zQ [.val (.scr (ns.map MV.int)),#[k,5]] S=.ok #[c,5] S:=λc h=>⟨c,eW rfl h (vI _ _) (λl=>by simp)⟩
 have hs:zR ["_law_script","_law_k"] [.scr (ns.map MV.int),.int k]=[some (.scr (ns.map MV.int)),#[k,0]]:=rfl;by_cases hlt:k<ns.length
 .obtain⟨d,hd⟩:=JH (xs:=ns.map MV.int) (i:=k) hk (by rw[lM];exact hlt);obtain⟨c,rfl⟩: ∃c,d=.int c:=SU (P:=λd=> ∃c,d=.int c) (λe he=>by obtain⟨c,_,rfl⟩:=mM.mp he;exact⟨c,rfl⟩) hd;have hix:lO (.val (.scr (ns.map MV.int))) #[k,5] S=.ok #[c,5] S:=by show(match tD (ns.map MV.int) k with |some d=>R.ok (Er.val d) S|none=>.no)=_;rw[hd]
  refine fin c ?_;rw[dT0 hlt,iP rfl,hix,jS]at e1;unfold zQ bU;rw[hs,oG e1];rfl
 .refine fin 0 ?_;rw[dF0 hlt,iN xF0]at e1;unfold zQ bU;rw[hs,zC e1];rfl
theorem pp30(S:Sto):Gb #[10,5] #[30,5] S=.ok #[10 ^ 30,5] S:=rfl
def Rj{a:Int}(h:0<=a/\a<4294967296)(S:Sto):vG #[a,5] #[a,5] S=.ok #[a * a,5] S:=
 CA ⟨Int.lt_of_lt_of_le (by decide) h.1,Int.lt_trans h.2 (by decide)⟩ a S
theorem sZ(S:Sto)(a b:MO):(S++[a,b])[S.length+1]? =some b:=by rw[getElem?_append_right #[],show S.length+1 - S.length=1 by omega];rfl
theorem Bp: ∀(fs:Ch)(i:Nat),(fs.map MV.str).eraseIdx i=(fs.eraseIdx i).map MV.str
 |[],_=>rfl
 |_::_,0=>rfl
 |c::fs,i+1=>congrArg (MV.str c::·) (Bp fs i)
def Jc{S:Sto}{l:Nat}{ds:Za}{i:Int}{d:MV}(hS:S[l]? =#[ds,2])(h0:0<=i)(h1:i<ds.length)(hl:ds.length<1000)(hd:ds[i.toNat]? =some d):WH #[l,1] [#[i,5]] S=#[d,S.set l (.lst (ds.eraseIdx i.toNat)),1]:=by
 have hx:IO ds.length i=some i.toNat:=by unfold IO;rw[iP h0,iP h1]
 unfold WH;dsimp only;rw[hS];dsimp only;rw[iP ⟨by omega,by omega⟩,hx];dsimp only;rw[hd]
def Rk{S:Sto}{u n k:Nat}{ds:Za}(hu:S[u]? =#[ds,2])(hn:S[n]? =#[ds,2])(hp: ∀d∈ds,pd d=true/\uY d<k):eqv S (k+1) (.loc u) (.loc n)=some true:=by
 have e: ∀l,S[l]? =#[ds,2]->GX S #[l,1]=some (.ls ds):=λl h=>by show(kH S #[l,1]).map Vw.ls=_;rw[nF h];rfl
 obtain⟨bs,h1,h2⟩:=EQ (e:=eqv S k) (ds:=ds) (es:=ds) λd hd f hf=>qK k (hp d hd).1 (hp f hf).1 (hp d hd).2;rw[dT0 rfl,aE]at h2;unfold eqv;rw[e u hu,e n hn];show(if ds.length=ds.length then(BL (eqv S k) ds ds).map λbs=>bs.all id else some false)=_;rw[iP rfl,h1];show some (bs.all id)=_;rw[h2.1]
def KQ{B L:Sto}{n i:Nat}(h:B.length=n):(B++L)[n+i]? =L[i]? :=by rw[getElem?_append_right #[],h,Nat.add_sub_cancel_left]
def zY{B L:Sto}{m:Nat}{o:MO}(h:B[m]? =some o):(B++L)[m]? =some o:=by rw[getElem?_append_left (gS.mp h).1];exact h
def zE{F G:AY}{ρ ρ':Rho}{S S':Sto}{r:R Fl}(h:F ρ S=#[ρ',S',0])(k:G ρ' S'=r):zI F G ρ S=r:=(zC h).trans k
theorem iK{X:R Fl}{r:Er}{S:Sto}(h:X=.ok (.ret r) S):yB X=.ok r S:=by rw[h];rfl
theorem lL{gf:MV->Rho->Sto->R Rho}{body:AY}{n:Nat}(I:Nat->Rho->Sto->Prop): ∀(L:Za)(i:Nat){ρ:Rho}{S:Sto},i+L.length<=n->I i ρ S->(∀d∈L, ∀i,i<n-> ∀ρ S,I i ρ S-> ∃ρ0 ρ' S',gf d ρ S=.ok ρ0 S/\body ρ0 S=#[ρ',S',0]/\I (i+1) ρ' S')-> ∃ρ' S',xG gf body [] L ρ S=#[ρ',S',0]/\I (i+L.length) ρ' S'
 |[],i,ρ,S,_,h,_=>⟨ρ,S,rfl,h⟩
 |d::L,i,ρ,S,hn,h,st=>by rw[lC]at hn ⊢;obtain⟨ρ0,ρ1,S1,h1,h2,h3⟩:=st d mF0 i #[] ρ S h;obtain⟨ρ',S',h4,h5⟩:=lL I L (i+1) #[] h3 λe he=>st e (mO _ he);exact⟨ρ',S',by rw[zX h1 h2 (bO _),h4],by rw[show i+(L.length+1)=i+1+L.length by omega];exact h5⟩
def md{x n:Int}(h:0<n:=by decide):0<=x % n/\x % n<n:=⟨eN _ #[],eL _ h⟩
section
variable{gf:MV->Rho->Sto->R Rho}{cf:AZ}{ef:AX}{ρb ρ1:Rho}{gs:Zd}{d y:MV}{ds out:Za}{S S1 S2:Sto}
theorem uE(h1:gf d ρb S=.ok ρ1 S)(h2:cf ρ1 S=.ok true S)(h3:ef ρ1 S=#[y,S1,1])(h4:stay gs S1)(h5:yF gf cf ef ρb gs ds S1=.ok out S2):yF gf cf ef ρb gs (d::ds) S=.ok (y::out) S2:=by unfold yF;rw[h1,yQ,jS,h2,yQ,jS,iP rfl,h3,yQ,jS];unfold wV;rw[jS,iP h4,h5];rfl
def UA(h1:gf d ρb S=.ok ρ1 S)(h2:cf ρ1 S=.ok false S)(h4:stay gs S)(h5:yF gf cf ef ρb gs ds S=.ok out S2):yF gf cf ef ρb gs (d::ds) S=.ok out S2:=by unfold yF;rw[h1,yQ,jS,h2,yQ,jS,iN xF0,iP h4,h5]
end
abbrev Wl(S:Sto)(l:Nat)(x:Int):Sto:=S.set l (.lst [.int x])
def Bq{S:Sto}{l:Nat}(h:l<S.length)(x:Int):(Wl S l x)[l]? =#[[.int x],2]:=getElem?_set_self h
def mX{S:Sto}{l m:Nat}(h:l≠m)(x:Int):(Wl S l x)[m]? =S[m]? :=getElem?_set_ne h
def Kt(S:Sto)(l:Nat)(x y:Int):(Wl S l x).set l (.lst [.int y])=Wl S l y:=List.set_set ..
def dI(S:Sto)(l:Nat)(x:Int):(Wl S l x).length=S.length:=List.length_set ..
def sE(S:Sto)(x:Int):S++[.lst [.int x]]=Wl (S++[.lst []]) S.length x:=by simp[Wl]
def dL{S:Sto}{l:Nat}(h:l<S.length)(x:Int)(T:Sto):Wl S l x++T=Wl (S++T) l x:=by unfold Wl;rw[set_append_left _ _ h]
theorem KR{S:Sto}{l:Nat}(h:l<S.length)(x:Int)(o o':MO):(Wl (S++[o]) l x).set S.length o'=Wl (S++[o']) l x:=by unfold Wl;rw[set_append_left _ _ h,set_append_left _ _ h];rw[set_append_right _ _ (by rw[List.length_set];exact Nat.le_refl _),List.length_set,sub_self];rfl
def rE{S:Sto}{l:Nat}(h:l<S.length)(x:Int)(o:MO):(Wl (S++[o]) l x)[S.length]? =some o:=by rw[mX (Nat.ne_of_lt h)];simp
def Rl{S:Sto}{l:Nat}(x:Int)(T:Sto):MU S (Wl S l x++T):=by
 refine⟨by rw[lA,dI];exact Nat.le_add_right _ _,λm hm=>?_⟩;rw[getElem?_append_left (by rw[dI];exact hm)];by_cases e:l=m
 .subst e;exact .inr ⟨_,Bq hm x,cS λe he=>by rw[mS.mp he];exact vI _ _⟩
 .exact .inl (mX e x)
def UB{S:Sto}{l:Nat}(y x:Int)(T:Sto):MU (Wl S l y) (Wl S l x++T):=by have:=Rl (S:=Wl S l y) (l:=l) x T;rw[show Wl (Wl S l y) l x=Wl S l x from Kt S l y x]at this;exact this
def UC(S:Sto)(l:Nat)(x:Int)(T:Sto){n:Nat}(h:n=S.length):(Wl S l x++T).take n=Wl S l x:=by rw[h,List.take_append_of_le_length (by rw[dI];exact Nat.le_refl _),take_of_length_le (by rw[dI];exact Nat.le_refl _)]
def uF{n:Nat}{F:List MV->Sto->R Er}{rs:List Er}{S T:Sto}{l:Nat}{x y:Int}{d:MV}(hn:rs.length=n)(hF:F (zD rs (Wl S l x)).1 (zD rs (Wl S l x)).2=#[d,Wl S l y++T,1])(h:lo S.length d)(hd: ∀l,d≠.loc l):zF n F rs (Wl S l x)=#[d,Wl S l y,1]:=by
 unfold zF;rw[iP hn,hF,yQ,jS];unfold jQ;rw[iP (UB x y T)];have e:=UC S l y T (n:=(Wl S l x).length) (dI S l x);have h':lo (Wl S l x).length d:=by rw[dI];exact h
 cases d with
 |loc m=>exact absurd rfl (hd m)
 |_=>dsimp only;rw[iP h',e]
def AT{n:Nat}{F:List MV->Sto->R Er}{rs:List Er}{S T:Sto}{l m:Nat}{x y:Int}{ds:Za}(hn:rs.length=n)(hF:F (zD rs (Wl S l x)).1 (zD rs (Wl S l x)).2=.ok #[m,1] (Wl S l y++T))(hm:S.length<=m)(hS:(Wl S l y++T)[m]? =#[ds,2])(h:qU S.length ds):zF n F rs (Wl S l x)=#[ds,Wl S l y,2]:=by unfold zF;rw[iP hn,hF,yQ,jS];unfold jQ;rw[iP (UB x y T)];dsimp only;rw[dI,iN #[],hS];dsimp only;rw[iP h,UC S l y T rfl]
section
variable{S:Sto}{l:Nat}{x:Int}
theorem OK{n:Int}(hl:l<S.length)(h0:0<n)(hd: ∀(a:Int)(S:Sto),VT #[a,5] #[n,5] S=.ok #[a / n,5] S):zF 2 zB [#[l,1],#[n,5]] (Wl S l x)=.ok #[x % n,5] (Wl S l (x / n)):=by
 have hs:zR AR [.loc l,.int n]=[#[l],#[n,0],none]:=rfl;have ha:tD [MV.int x] 0=#[x,0]:=rfl;have hS:=Bq hl x;have e1:dR [#[l],#[n,0],none] (Wl S l x)=#[[#[l],#[n,0],#[x % n,0]],Wl S l x,0]:=by unfold dR;simp? [DW hS ha,mod_lit h0]
 have e2:dS [#[l],#[n,0],#[x % n,0]] (Wl S l x)=#[[#[l],#[n,0],#[x % n,0]],Wl S l (x / n),0]:=by unfold dS;simp? [DW hS ha,hd,CL,Bg hS (show IO [MV.int x].length 0=some 0 from rfl)];exact congrArg _ (Kt S l x (x / n))
 refine uF (T:=[]) rfl ?_ (vI _ _) (λl=>by simp);show zB [.loc l,.int n] (Wl S l x)=_;unfold zB qG;rw[hs,zC e1,zC e2,aN];rfl
def yW{n:Int}(hl:l<S.length)(h0:0<n:=by decide)(h1:n<1073741824:=by decide):zF 2 zB [#[l,1],#[n,5]] (Wl S l x)=.ok #[x % n,5] (Wl S l (x / n)):=OK hl h0 (SR h0 h1)
def KU(hl:l<S.length): ∃y z,y.length<=8/\zF 1 kW [#[l,1]] (Wl S l x)=#[.str y,Wl S l z,1]:=by have hm:=md (x:=x) (n:=8);obtain⟨_,_,e,y,z,k,rfl,rfl,hy⟩:=lL (gf:=zV 3) (body:=dU) (n:=9) (λi ρ S'=> ∃(y:Db)(z:Int)(k:Zb),ρ=[#[l],#[abc,4],#[y,4],k]/\S'=Wl S l z/\y.length=i) ((List.range (1+x % 8).toNat).map aP) 0 (by rw[lM,length_range];omega) ⟨[],x / 8,none,rfl,rfl,rfl⟩ (λd _ i hi ρ S1 ⟨y,z,k,h1,h2,h3⟩=>by subst h1 h2;obtain⟨c,hc⟩:=JH (xs:=abc) (i:=z % 26) (md (by decide)).1 (md (x:=z) (n:=26)).2;refine⟨_,_,_,rfl,?_,y++[c],z / 26,some d,rfl,rfl,by simp[h3]⟩;unfold dU aC;simp? [yW (n:=26) hl,ix_str (show abc.length<=sizeLine by rw[sizeLine_eq];decide) hc];rw[add_str (fits (by rw[lS];omega))];rfl);refine⟨y,z,by simp at hy;omega,uF (T:=[]) rfl ?_ (QQ _ _) (λl=>by simp)⟩;rw[aN];show yB (qH [#[l],none,none,none] (Wl S l x))=_;refine iK (zE rfl (zE rfl (zE (ρ':=[#[l],#[abc,4],#[y,4],k]) (S':=Wl S l z) ?_ rfl)));unfold lU;simp? [yW (n:=8) hl];rw[vK #[],jS];exact e
end
def dM(c:Int)(S:Sto): ∃t,zF 1 yA [#[c,5]] S=#[[.int t],S,2]:=by
 obtain⟨t,h⟩: ∃t,dQ [#[c,0],none,none,none,none,none] S=.ok (.ret (.new [.int t])) S:=by
  unfold dQ;have e1:gM [#[c,0],none,none,none,none,none] S=#[[#[c,0],#[c / 2,0],none,none,none,none],S,0]:=by unfold gM;simp? [SR (b:=2) (by decide) (by decide)]
  by_cases hb:c % 2=0
  .refine⟨c / 2,zE e1 (oG ?_)⟩;unfold gN;simp? [mod_lit (show(0:Int)<2 by decide),dT0 hb]
  .obtain⟨_,_,e,n,t,k,o,rfl,rfl⟩:=lL (gf:=zV 4) (body:=gI) (n:=16) (λ_ ρ S'=> ∃(n t:Int)(k o:Zb),ρ=[#[c,0],#[c / 2,0],#[n,0],#[t,0],k,o]/\S=S') ((List.range 16).map aP) 0 (by decide) ⟨c / 2 % 2147483647,0,none,none,rfl,rfl⟩ (λd hd i _ ρ S1 ⟨n,t,k,o,h1,h2⟩=>by
    subst h1 h2;obtain⟨j,_,rfl⟩:=mM.mp hd;have hm:=md (x:=n * 48271+7919 * (j:Int)+11) (n:=2147483647);obtain⟨m,hm'⟩: ∃m,m=(n * 48271+7919 * (j:Int)+11) % 2147483647:=⟨_,rfl⟩
    rw[<-hm']at hm;refine⟨_,_,_,rfl,?_,m,t * 2147483587+m * m % 2147483629 * 69621 % 2147483587,some (aP j),#[m * m % 2147483629,0],rfl,rfl⟩;unfold gI;apply zE
    .unfold bV;simp? [CA (show -(2 ^ 64)<(48271:Int)/\(48271:Int)<2 ^ 64 by decide),ND (show -(2 ^ 64)<(7919:Int)/\(7919:Int)<2 ^ 64 by decide),mod_lit (show(0:Int)<2147483647 by decide), <-hm'];rfl
    apply zE
    .unfold bW;simp? [Rj (a:=m) ⟨hm.1,by omega⟩,mod_lit (show(0:Int)<2147483629 by decide)];rfl
    unfold bX;simp? [CA (show -(2 ^ 64)<(2147483587:Int)/\(2147483587:Int)<2 ^ 64 by decide),CA (show -(2 ^ 64)<(69621:Int)/\(69621:Int)<2 ^ 64 by decide),mod_lit (show(0:Int)<2147483587 by decide)])
   refine⟨t,zE e1 ?_⟩;apply zE
   .unfold gN;simp? [mod_lit (show(0:Int)<2 by decide),dF0 hb,fT,iF];rfl
   apply zE
   .unfold nY;simp? [mod_lit (show(0:Int)<2147483647 by decide)];rfl
   refine zE rfl (zE (ρ':=[#[c,0],#[c / 2,0],#[n,0],#[t,0],k,o]) (S':=S) ?_ ?_)
   .unfold nZ;simp? [vK (S:=S) (j:=16) (by decide)];exact e
   unfold aB;simp? [jS]
 exact⟨t,cK (T:=[]) rfl rfl (by rw[aN];exact iK h) (.inl rfl) (cS λe he=>by rw[mS.mp he];exact vI _ _)⟩
abbrev PP(M:Int)(l m:Nat)(k w v:Zb):Rho:=[#[l],#[M,0],#[m],k,w,v]
section
variable{M:Int}{S:Sto}{l m:Nat}{x:Int}{vs:Za}{k w v:Zb}
def po3{n:Int}{v:MV}(hl:l<S.length)(hv:VS v): ∃v' z,VS v'/\gO (PP M l m k #[n,0] (some v)) (Wl S l x)=#[PP M l m k #[n,0] (some v'),Wl S l z,0]:=by
 unfold gO;simp? [pp30,ND (show -(2 ^ 64)<(2:Int)/\(2:Int)<2 ^ 64 by decide),OK (x:=x) hl (show(0:Int)<2 * 10 ^ 30 - 1 by decide) (Io (show VR 0 (2 * 10 ^ 30 - 1) by decide+kernel))];split
 .exact⟨_,_,.inl ⟨_,rfl⟩,rfl⟩
 .exact⟨v,x,hv,rfl⟩
def po4{n:Int}{v:MV}(hl:l<S.length)(hv:VS v): ∃v' z,VS v'/\gP (PP M l m k #[n,0] (some v)) (Wl S l x)=#[PP M l m k #[n,0] (some v'),Wl S l z,0]:=by
 obtain⟨y,z,_,hc⟩:=KU (S:=S) (l:=l) (x:=x) hl;unfold gP;simp? [gt_int,hc];split
 .exact⟨_,_,.inr ⟨y,rfl⟩,rfl⟩
 .exact⟨v,x,hv,rfl⟩
def WZ(hl:l<S.length)(hV: ∀d∈vs,VS d)(hn:vs.length<1000): ∃vs' w' v' z,(∀d∈vs',VS d)/\vs'.length<=vs.length+1/\1<=vs'.length/\hX (PP M l S.length k w v) (Wl (S++[.lst vs]) l x)=#[PP M l S.length k w' v',Wl (S++[.lst vs']) l z,0]:=by
 have hl2:l<(S++[MO.lst vs]).length:=by rw[lA];omega
 obtain⟨v3,z3,hv3,e3⟩:=po3 (M:=M) (m:=S.length) (k:=k) (n:=x % 4) (x:=x / 4 / 9) hl2 (.inl ⟨x / 4 % 9 - 4,rfl⟩);obtain⟨v4,z4,hv4,e4⟩:=po4 (M:=M) (m:=S.length) (k:=k) (n:=x % 4) (x:=z3) hl2 hv3;have hS:(Wl (S++[.lst vs]) l z4)[S.length]? =#[vs,2]:=rE hl z4 _
 obtain⟨vs',h1,h2,h3,e5⟩: ∃vs',(∀d∈vs',VS d)/\vs'.length<=vs.length+1/\1<=vs'.length/\gQ (PP M l S.length k #[x % 4,0] (some v4)) (Wl (S++[.lst vs]) l z4)=#[PP M l S.length k #[x % 4,0] (some v4),Wl (S++[.lst vs']) l z4,0]:=by
  unfold gQ;simp? [lK true hS (qM hv4).1 λy hy=>qM (hV y hy),yV hS,wL hS (show vs.length<1000000 by omega),KR hl];by_cases h:v4∈vs
  .exact⟨vs,hV,le_succ _,List.length_pos_of_mem h,by rw[dT0 h];rfl⟩
  .refine⟨vs++[v4],λd hd=>?_,by simp,by simp,by rw[dF0 h];rfl⟩;rcases List.mem_append.mp hd with hd|hd
   .exact hV d hd
   .rw[mS.mp hd];exact hv4
 refine⟨vs',#[x % 4,0],some v4,z4,h1,h2,h3,?_⟩;unfold hX;apply zE
 .unfold aD;simp? [yW (n:=4) hl2];rfl
 apply zE
 .unfold aF;simp? [yW (n:=9) hl2];rfl
 exact zE e3 (zE e4 e5)
end
def Je{S:Sto}{l:Nat}(hl:l<S.length)(x:Int){M:Nat}(h1:1<=M)(h4:M<=4): ∃vs z,(∀d∈vs,VS d)/\1<=vs.length/\vs.length<=4/\zF 2 iZ [#[l,1],.val (aP M)] (Wl S l x)=#[vs,Wl S l z,2]:=by
 obtain⟨_,_,e,vs,z,k,w,v,rfl,rfl,hV,g1,g2⟩:=lL (gf:=zV 3) (body:=hX) (n:=M) (λi ρ S'=> ∃(vs:Za)(z:Int)(k w v:Zb),ρ=PP M l S.length k w v/\S'=Wl (S++[.lst vs]) l z/\(∀d∈vs,VS d)/\vs.length<=i/\(i=0\/1<=vs.length)) ((List.range M).map aP) 0 (by simp) ⟨[],x,none,none,none,rfl,rfl,by simp,Nat.le_refl _,.inl rfl⟩ (λd _ i hi ρ S1 ⟨vs,z,k,w,v,q1,q2,hV,g1,_⟩=>by subst q1 q2;obtain⟨vs',w2,v2,z2,hV',a1,a2,hb⟩:=WZ (M:=M) (S:=S) (l:=l) (x:=z) (vs:=vs) (k:=some d) (w:=w) (v:=v) hl hV #[];exact⟨_,_,_,rfl,hb,vs',z2,some d,w2,v2,rfl,rfl,hV',by omega,.inr a2⟩);rw[lM,length_range]at g1 g2;refine⟨vs,z,hV,by omega,by omega,AT (T:=[.lst vs]) (m:=S.length) rfl ?_ q9 (by rw[dL hl];exact rE hl z _) (Wc hV _)⟩;show yB (iY [#[l],some (aP M),none,none,none,none] (Wl S l x))=_;rw[dL hl];refine iK ?_;unfold iY;apply zE
 .unfold lV;simp? [dI,dL hl];rfl
 refine zE (ρ':=PP M l S.length k w v) (S':=Wl (S++[.lst vs]) l z) ?_ ?_
 .unfold lW;simp? [Iy (show M<=1000 by omega)];exact e
 unfold lX;simp? [jS]
abbrev T4(l m:Nat)(k w:Zb):Rho:=[#[l],#[m],k,w]
theorem Br{S:Sto}{l:Nat}{x:Int}{k w:Zb}{ts:Tk}(hl:l<S.length)(hn:ts.length<1000):
  ∃p w' z,(1<=p.1/\p.1<=4/\0<=p.2/\p.2<=p.1)/\wO (T4 l S.length k w) (Wl (S++[.lst (ts.map tbl)]) l x)=#[T4 l S.length k w',Wl (S++[.lst ((ts++[p]).map tbl)]) l z,0]:=by
 have hl2:l<(S++[MO.lst (ts.map tbl)]).length:=by rw[lA];omega
 obtain⟨a,ha⟩: ∃a,a=1+x % 4:=⟨_,rfl⟩
 have h1:=md (x:=x) (n:=4);have h2:=md (x:=x / 4) (show 0<a+1 by omega);have hS: ∀z,(Wl (S++[.lst (ts.map tbl)]) l z)[S.length]? =#[ts.map tbl,2]:=λz=>rE hl z _;refine⟨(a,x / 4 % (a+1)),#[a,0],x / 4 / (a+1),⟨by show 1<=a;omega,by show a<=4;omega,h2.1,by show x / 4 % (a+1)<=a;omega⟩,?_⟩;unfold wO;apply zE
 .unfold bY;simp? [yW (n:=4) hl2, <-ha];rfl
 unfold bZ;simp? [yV (hS (x / 4)),yW (x:=x / 4) hl2 (show 0<a+1 by omega) #[],wL (hS (x / 4 / (a+1))) (show(ts.map tbl).length<1000000 by rw[lM];omega),KR hl];rw[List.map_append];rfl
def XA(t:Int)(S:Sto): ∃ts,Ip ts/\zF 1 dX [.new [.int t]] S=#[ts.map tbl,S,2]:=by
 have hlS:S.length<(S++[MO.lst []]).length:=by simp
 have hm:=md (x:=t) (n:=4)
 obtain⟨_,_,e,ts,z,k,w,rfl,rfl,hT,h1⟩:=lL (gf:=zV 2) (body:=wO) (n:=4) (λi ρ S'=> ∃(ts:Tk)(z:Int)(k w:Zb),ρ=T4 S.length (S.length+1) k w/\S'=Wl (S++[.lst []]++[.lst (ts.map tbl)]) S.length z/\(∀p∈ts,1<=p.1/\p.1<=4/\0<=p.2/\p.2<=p.1)/\ts.length=i) ((List.range (1+t % 4).toNat).map aP) 0 (by simp;omega) ⟨[],t / 4,none,none,rfl,rfl,by simp,rfl⟩ (λd _ i hi ρ S1 ⟨ts,z,k,w,q1,q2,hT,h1⟩=>by
  subst q1 q2;obtain⟨p,w2,z2,hp,hb⟩:=Br (S:=S++[.lst []]) (l:=S.length) (x:=z) (ts:=ts) (k:=some d) (w:=w) hlS #[];rw[lA]at hb;refine⟨_,_,_,rfl,hb,ts++[p],z2,some d,w2,rfl,rfl,λq hq=>?_,by simp[h1]⟩;rcases List.mem_append.mp hq with h|h
  .exact hT q h
  .rw[mS.mp h];exact hp)
 rw[lM,length_range]at h1;refine⟨ts,⟨by omega,by omega,hT⟩,cK (r:=#[S.length+1,1]) (T:=[.lst [.int z],.lst (ts.map tbl)]) rfl (show zD [.new [.int t]] S=([.loc S.length],S++[.lst [.int t]])from rfl) ?_ (.inr ⟨_,rfl,le_succ _,sZ S _ _⟩) (cS λd hd=>by obtain⟨p,_,rfl⟩:=mM.mp hd;exact QR (cS λe he=>by simp at he;rcases he with rfl|rfl<;>exact vI _ _))⟩;show yB (dW [#[S.length],none,none,none] _)=_;rw[sE,show S++[MO.lst [.int z],.lst (ts.map tbl)]=Wl (S++[.lst []]++[.lst (ts.map tbl)]) S.length z by rw[<-dL hlS, <-sE,aA];rfl];refine iK ?_;unfold dW;refine zE (ρ':=T4 S.length (S.length+1) none none) (S':=Wl (S++[.lst []]++[.lst []]) S.length t) ?_ (zE (ρ':=T4 S.length (S.length+1) k w) (S':=Wl (S++[.lst []]++[.lst (ts.map tbl)]) S.length z) ?_ ?_)
 .unfold aG;simp? [dI,dL hlS];rw[lA];rfl
 .unfold aH;simp? [yW (n:=4) (show S.length<(S++[MO.lst []]++[MO.lst []]).length by simp),vK (S:=Wl (S++[.lst []]++[.lst []]) S.length (t / 4)) (j:=1+t % 4) #[]];exact e
 unfold aI;simp? [jS]
abbrev N5(l m:Nat)(b:Db)(k w:Zb):Rho:=[#[l],#[b,4],#[m],k,w]
def adds{x y:Db}(h:x.length+y.length<=1000)(S:Sto):jR (.val (.str x)) (.val (.str y)) S=#[.str (x++y),S,1]:=add_str (fits #[])
theorem Jf{S:Sto}{l:Nat}{x:Int}{b:Db}{w:Zb}{us:Ch}{j:Nat}(hl:l<S.length)(hn:us.length<1000)(h6:b.length<=6)(hj:j<2):
  ∃y w' z,kY (N5 l S.length b (some (aP j)) w) (Wl (S++[.lst #[us,8]]) l x)=#[N5 l S.length b (some (aP j)) w',Wl (S++[.lst ((us++[y]).map MV.str)]) l z,0]:=by
 have hl2:l<(S++[MO.lst #[us,8]]).length:=by rw[lA];omega
 obtain⟨y,z,_,hc⟩:=KU (S:=S++[.lst #[us,8]]) (l:=l) (x:=x) hl2;have hS:(Wl (S++[.lst #[us,8]]) l z)[S.length]? =#[us.map MV.str,2]:=rE hl z _
 obtain⟨r,hk⟩: ∃r,tD [MV.str ([98]++b),.str ([98]++b++[97])] (j:Int)=#[r,4]:=by
  match j,hj with
  |0,_=>exact⟨_,rfl⟩
  |1,_=>exact⟨_,rfl⟩
 obtain⟨y',e2⟩: ∃y',jH (N5 l S.length b (some (aP j)) #[y,4]) (Wl (S++[.lst #[us,8]]) l z)=#[N5 l S.length b (some (aP j)) #[y',4],Wl (S++[.lst #[us,8]]) l z,0]:=by
  unfold jH;simp? [lK false hS (iI y) CN,adds (x:=[98]) (y:=b) (by simp only[lS];omega),adds (x:=[98]++b) (y:=[97]) (by simp only[lA,lS];omega),Px (S:=Wl (S++[.lst #[us,8]]) l z) hk,fT,iF];split
  .exact⟨r,rfl⟩
  .exact⟨y,rfl⟩
 refine⟨y',#[y',4],z,?_⟩;unfold kY;apply zE
 .unfold cX;simp? [hc];rfl
 refine zE e2 ?_;unfold cY;simp? [yV hS,wL hS (show(us.map MV.str).length<1000000 by rw[lM];omega),KR hl];rw[List.map_append];rfl
def Bs(t:Int)(S:Sto): ∃ys:List (List Nat),ys.length=3/\zF 1 eK [.new [.int t]] S=#[ys.map MV.str,S,2]:=by
 have hlS:S.length<(S++[MO.lst []]).length:=by simp
 obtain⟨w,z,hw,hc⟩:=KU (S:=S++[.lst []]) (l:=S.length) (x:=t) hlS;have e1:cB [#[S.length],none,none,none,none] (Wl (S++[.lst []]) S.length t)=#[[#[S.length],#[w.take 6,4],none,none,none],Wl (S++[.lst []]) S.length z,0]:=by unfold cB;simp? [hc,cut_str (S:=Wl (S++[.lst []]) S.length z) (fits (show w.length<=1000000 by omega)),show aQ w none (some 6)=w.take 6 from He _ _ (by decide)]
 have h6:(w.take 6).length<=6:=by rw[lT];exact Nat.min_le_left _ _
 generalize w.take 6=b at h6 e1;have e2:cC [#[S.length],#[b,4],none,none,none] (Wl (S++[.lst []]) S.length z)=if decide (z % 2=0)=true then .ok (.ret (.new [.str b,.str (b++[97]),.str ([98]++b)])) (Wl (S++[.lst []]) S.length (z / 2))else #[[#[S.length],#[b,4],none,none,none],Wl (S++[.lst []]) S.length (z / 2),0]:=by unfold cC;simp? [yW (n:=2) hlS,adds (x:=b) (y:=[97]) (by simp only[lS];omega),adds (x:=[98]) (y:=b) (by simp only[lS];omega)]
 by_cases h:z % 2=0
 .rw[dT0 h,iP rfl]at e2;refine⟨[b,b++[97],[98]++b],rfl,cK (T:=[.lst [.int (z / 2)]]) rfl (show zD [.new [.int t]] S=([.loc S.length],S++[.lst [.int t]])from rfl) ?_ (.inl rfl) (rC _ _)⟩;rw[sE,sE];exact iK (zE e1 (oG e2))
 .rw[dF0 h,iN xF0]at e2;obtain⟨_,_,e,ys,z',k,v,rfl,rfl,h1⟩:=lL (gf:=zV 3) (body:=kY) (n:=2) (λi ρ S'=> ∃(ys:Ch)(z:Int)(k w:Zb),ρ=N5 S.length (S.length+1) b k w/\S'=Wl (S++[.lst []]++[.lst #[ys,8]]) S.length z/\ys.length=i+1) ((List.range 2).map aP) 0 (by decide) ⟨[b],z / 2,none,none,rfl,rfl,rfl⟩ (λd hd i hi ρ S1 ⟨ys,z,k,v,q1,q2,h1⟩=>by subst q1 q2;obtain⟨j,hj,rfl⟩:=mM.mp hd;obtain⟨y,w2,z2,hb⟩:=Jf (S:=S++[.lst []]) (l:=S.length) (x:=z) (b:=b) (us:=ys) (j:=j) (w:=v) hlS #[] h6 (mem_range.mp hj);rw[lA]at hb;exact⟨_,_,_,rfl,hb,ys++[y],z2,some (aP j),w2,rfl,rfl,by simp[h1]⟩);refine⟨ys,h1,cK (r:=#[S.length+1,1]) (T:=[.lst [.int z'],.lst #[ys,8]]) rfl (show zD [.new [.int t]] S=([.loc S.length],S++[.lst [.int t]])from rfl) ?_ (.inr ⟨_,rfl,le_succ _,sZ S _ _⟩) (rC _ _)⟩;rw[sE,show S++[MO.lst [.int z'],.lst #[ys,8]]=Wl (S++[.lst []]++[.lst #[ys,8]]) S.length z' by rw[<-dL hlS, <-sE,aA];rfl];refine iK (zE e1 (zE e2 (zE (ρ':=N5 S.length (S.length+1) b none none) (S':=Wl (S++[.lst []]++[.lst ([b].map MV.str)]) S.length (z / 2)) ?_ (zE (ρ':=N5 S.length (S.length+1) b k v) (S':=Wl (S++[.lst []]++[.lst #[ys,8]]) S.length z') ?_ ?_))))
  .unfold iC;simp? [dI,dL hlS];rw[lA];rfl
  .unfold iD;simp? [vK (S:=Wl (S++[.lst []]++[.lst ([b].map MV.str)]) S.length (z / 2)) (j:=2) (by decide)];exact e
  unfold iE;simp? [jS]
abbrev Rw:=Int×List MV
def zK(r:Rw):MV:=.tup [.int r.1,.tup r.2]
local macro_rules
 |`(#[$x,9])=>`(($x).map zK)
def XB(ts:Tk)(t:Int):Nat:=((ts[t.toNat]?).map (·.1.toNat)).getD 0
def TmP(ys:Ch)(vs:Za)(d:MV):Prop:=(∃y∈ys,d=.tup [.str BO,.str y])\/ ∃v∈vs,d=.tup [.str IS,v]
def We(ts:Tk)(ys:Ch)(vs:Za)(a:Rw):Prop:=a.2.length=XB ts a.1/\ ∀d∈a.2,TmP ys vs d
def Ku(ts:Tk)(vs:Za)(r:Rw):Prop:=r.2.length=XB ts r.1/\ ∀c∈r.2,c∈vs
theorem dN(o:Za)(S:Sto):nV [.new o] S=.ok #[o,6] S:=rfl
def TmP.ok{ys:Ch}{vs:Za}(hV: ∀v∈vs,VS v){d:MV}(h:TmP ys vs d):cL d:=by
 rcases h with⟨y,_,rfl⟩|⟨v,hv,rfl⟩
 .exact .inl ⟨y,rfl⟩
 .exact .inr ⟨v,hV v hv,rfl⟩
def Bt{S:Sto}{lt:Nat}{ts:Tk}(hT:Ip ts)(n:Int): ∃p,(1<=p.1/\p.1<=4)/\(XB ts (n % (ts.length:Int)):Int)=p.1/\ ∀S:Sto,S[lt]? =#[ts.map tbl,2]->lO #[lt,1] #[n % (ts.length:Int),5] S=#[tbl p,S,1]:=by
 have hp:0<ts.length:=hT.1;have h0:=eN n (show(ts.length:Int)≠0 by omega);have h1:=eL n (show(0:Int)<ts.length by omega);obtain⟨k,hk⟩: ∃k:Nat,n % (ts.length:Int)=k:=⟨(n % (ts.length:Int)).toNat,by omega⟩
 have hkl:k<ts.length:=by omega
 have hb:=hT.2.2 _ (getElem_mem hkl);refine⟨ts[k],⟨hb.1,hb.2.1⟩,?_,λS h=>?_⟩
 .unfold XB;rw[hk,Int.toNat_natCast,gE hkl];show((ts[k].1.toNat:Nat):Int)=ts[k].1;omega
 .rw[hk];exact DW h (Wb (by rw[getElem?_map,gE hkl];rfl))
theorem KW{S:Sto}{l:Nat}{gf:MV->Rho->Sto->R Rho}{cf:AZ}{ef:AX}{ρb:Rho}{P:MV->Prop}(st: ∀(d:MV)(x:Int), ∃ρ1 y z,gf d ρb (Wl S l x)=.ok ρ1 (Wl S l x)/\cf ρ1 (Wl S l x)=.ok true (Wl S l x)/\ef ρ1 (Wl S l x)=#[y,Wl S l z,1]/\P y):
  ∀(L:Za)(x:Int), ∃out z,out.length=L.length/\(∀d∈out,P d)/\yF gf cf ef ρb [] L (Wl S l x)=.ok out (Wl S l z)
 |[],x=>⟨[],x,rfl,by simp,rfl⟩
 |d::L,x=>by obtain⟨ρ1,y,z1,h1,h2,h3,h4⟩:=st d x;obtain⟨out,z,hl,hP,ih⟩:=KW st L z1;refine⟨y::out,z,by rw[lC,lC,hl],λe he=>(mC.mp he).elim (λz=>z▸h4) (hP e),?_⟩;unfold yF;rw[h1,yQ,jS,h2,yQ,jS,iP rfl,h3,yQ,jS];unfold wV;rw[jS,iP (bO _),ih];rfl
section
variable{S:Sto}{l p q lt:Nat}{x:Int}{vs:Za}{ys:Ch}{ts:Tk}
def KY(hl:l<S.length)(np:l≠p){ds:Za}(hp:S[p]? =#[ds,2])(h1:1<=ds.length)(h2:ds.length<=1000)(x:Int): ∃d∈ds, ∃z,(((pO [#[p,1]] (Wl S l x)).bind λn S=>zF 2 zB [#[l,1],n] S).bind λi S=>lO #[p,1] i S)=#[d,Wl S l z,1]:=by
 have gp: ∀z,(Wl S l z)[p]? =#[ds,2]:=λz=>(mX np z).trans hp;have v0:(0:Int)<(ds.length:Int):=by omega
 obtain⟨v,hv⟩:=JH (xs:=ds) (i:=x % (ds.length:Int)) (eN _ #[]) (eL _ v0);refine⟨v,SU (P:=(· ∈ds)) (λ_ h=>h) hv,x / (ds.length:Int),?_⟩;rw[xY (gp x),jS,yW (x:=x) (n:=(ds.length:Int)) hl v0 #[],jS,DW (gp _) hv]
theorem Jg(hl:l<S.length)(np:l≠p)(nq:l≠q)(hp:S[p]? =#[vs,2])(hq:S[q]? =#[ys.map MV.str,2])(hV: ∀d∈vs,VS d)(h1:1<=vs.length)(h2:vs.length<=4)(hy1:1<=ys.length)(hy2:ys.length<=10)(x:Int):
  ∃tm z,TmP ys vs tm/\zF 3 lE [#[l,1],#[q,1],#[p,1]] (Wl S l x)=#[tm,Wl S l z,1]:=by
 obtain⟨v,hv,zv,hpv⟩:=KY hl np hp h1 #[] (x / 4);obtain⟨d,hd,zd,hpq⟩:=KY hl nq hq (by rw[lM];exact hy1) (by rw[lM];omega) (x / 4);obtain⟨y,hy,rfl⟩:=mM.mp hd;by_cases h:x % 4=0
 .have e1:wU [#[l],#[q],#[p]] (Wl S l x)=.ok (.ret #[[.str IS,v],6]) (Wl S l zv):=by have gp: ∀z,(Wl S l z)[p]? =#[vs,2]:=λz=>(mX np z).trans hp;rw[xY (gp _),jS]at hpv;unfold wU;simp? [yW (n:=4) (x:=x) hl,h,decide_true,xY (gp (x / 4))];rw[hpv];simp? [tup2]
  have ok:TmP ys vs (.tup [.str IS,v]):=.inr ⟨v,hv,rfl⟩;refine⟨_,zv,ok,uF (T:=[]) rfl ?_ (mU (TU (ok.ok hV)).1) (λl=>by simp)⟩;show yB (bH [#[l],#[q],#[p]] (Wl S l x))=_;unfold bH;rw[oG e1,aN];rfl
 .have e1:wU [#[l],#[q],#[p]] (Wl S l x)=#[[#[l],#[q],#[p]],Wl S l (x / 4),0]:=by unfold wU;simp? [yW (n:=4) (x:=x) hl,h,decide_false,fT,iF]
  have e2:nE [#[l],#[q],#[p]] (Wl S l (x / 4))=.ok (.ret #[[.str BO,.str y],6]) (Wl S l zd):=by have gq: ∀z,(Wl S l z)[q]? =#[ys.map MV.str,2]:=λz=>(mX nq z).trans hq;rw[xY (gq _),jS]at hpq;unfold nE;simp? [xY (gq (x / 4))];rw[hpq];simp? [tup2]
  have ok:TmP ys vs (.tup [.str BO,.str y]):=.inl ⟨y,hy,rfl⟩;refine⟨_,zd,ok,uF (T:=[]) rfl ?_ (mU (TU (ok.ok hV)).1) (λl=>by simp)⟩;show yB (bH [#[l],#[q],#[p]] (Wl S l x))=_;unfold bH;rw[zC e1,e2,aN];rfl
theorem Rm(hl:l<S.length)(np:l≠p)(nt:l≠lt)(hp:S[p]? =#[vs,2])(ht:S[lt]? =#[ts.map tbl,2])(hV: ∀d∈vs,VS d)(h1:1<=vs.length)(h2:vs.length<=4)(hT:Ip ts)(x:Int):
  ∃r z,Ku ts vs r/\zF 3 oW [#[l,1],#[lt,1],#[p,1]] (Wl S l x)=#[zK r,Wl S l z,1]:=by
 have gt: ∀z,(Wl S l z)[lt]? =#[ts.map tbl,2]:=λz=>(mX nt z).trans ht;have htl:0<ts.length:=hT.1;have ht4:=hT.2.1;have hlt: ∀z,pO [#[lt,1]] (Wl S l z)=.ok #[(ts.length:Int),5] (Wl S l z):=λz=>by rw[xY (gt z),lM]
 obtain⟨pp,hpp,hw,hix⟩:=Bt (S:=S) (lt:=lt) hT x;obtain⟨t,htt⟩: ∃t,t=x % (ts.length:Int):=⟨_,rfl⟩
 rw[<-htt]at hw hix;have e1:eC [#[l],#[lt],#[p],none] (Wl S l x)=#[[#[l],#[lt],#[p],#[t,0]],Wl S l (x / (ts.length:Int)),0]:=by unfold eC;simp? [hlt,yW (x:=x) (n:=(ts.length:Int)) hl #[] #[]];rw[htt]
 obtain⟨out,z,ho,hP,hc⟩:=KW (S:=S) (l:=l) (gf:=zV 0) (cf:=fY) (ef:=cA) (ρb:=[none,#[l],#[p]]) (P:=(· ∈vs)) (λd x=>by obtain⟨v,hv,z,e⟩:=KY hl np hp h1 #[] x;refine⟨[some d,#[l],#[p]],v,z,rfl,rfl,?_,hv⟩;have gp: ∀z,(Wl S l z)[p]? =#[vs,2]:=λz=>(mX np z).trans hp;rw[xY (gp _),jS]at e;unfold cA;simp? [xY (gp x)];exact e) ((List.range (XB ts t)).map aP) (x / (ts.length:Int));rw[lM,length_range]at ho;have i0: ∀S,lO (.val (tbl pp)) #[0,5] S=.ok #[(XB ts t:Int),5] S:=λS=>by rw[hw];rfl
 have e2:eE [#[l],#[lt],#[p],#[t,0]] (Wl S l (x / (ts.length:Int)))=.ok (.ret (.val (zK (t,out)))) (Wl S l z):=by unfold eE;simp? [hix _ (gt _),i0,Iy (show XB ts t<=1000 by omega),lM,length_range,show XB ts t<1000000 by omega];rw[show uW 1 [0,2] [#[l],#[lt],#[p],#[t,0]]=[none,#[l],#[p]]from rfl,hc];simp? [dN,tup2];rfl
 have hpd:pd (zK (t,out))=true:=by unfold zK;rw[jU,yL,vX,yL,jU,lI λc hc=>(qM (hV c (hP c hc))).1,lH];rfl
 refine⟨(t,out),z,⟨ho,hP⟩,uF (T:=[]) rfl ?_ (mU hpd) (λl=>by simp[zK])⟩;show yB (oV [#[l],#[lt],#[p],none] (Wl S l x))=_;unfold oV;rw[zC e1,e2,aN];rfl
end
def Wf{vs:Za}{ys:Ch}{ts:Tk}(hV: ∀v∈vs,VS v){a:Rw}(h:We ts ys vs a):pd (zK a)=true/\uY (zK a)<=3:=by have h1:LY a.2=true:=lI λd hd=>(TU ((h.2 d hd).ok hV)).1;have h2:rM a.2<=1:=uD λd hd=>(TU ((h.2 d hd).ok hV)).2;unfold zK;refine⟨by rw[jU,yL,yL,lH,vX,jU,h1];rfl,?_⟩;rw[gV,yH,yH,iH,oX,gV];omega
abbrev A8(M l p q lt m:Nat)(k t:Zb):Rho:=[#[l],#[lt],#[q],#[p],some (aP M),#[m],k,t]
section
variable{S:Sto}{M l p q lt:Nat}{vs:Za}{ys:Ch}{ts:Tk}
theorem XC(hl:l<S.length)(np:l≠p)(nq:l≠q)(nt:l≠lt)(hp:S[p]? =#[vs,2])(hq:S[q]? =#[ys.map MV.str,2])(ht:S[lt]? =#[ts.map tbl,2])(hV: ∀d∈vs,VS d)(h1:1<=vs.length)(h2:vs.length<=4)(hy1:1<=ys.length)(hy2:ys.length<=10)(hT:Ip ts){as:List Rw}(ha:as.length<100)(x:Int)(k t0:Zb):
  ∃a t' z,We ts ys vs a/\kX (A8 M l p q lt S.length k t0) (Wl (S++[.lst #[as,9]]) l x)=#[A8 M l p q lt S.length k t',Wl (S++[.lst ((as++[a]).map zK)]) l z,0]:=by
 have hl2:l<(S++[MO.lst #[as,9]]).length:=by rw[lA];omega
 have up: ∀{j:Nat}{o:MO},S[j]? =some o->(S++[MO.lst #[as,9]])[j]? =some o:=λh=>by rw[getElem?_append_left (gS.mp h).1];exact h
 have gt: ∀z,(Wl (S++[.lst #[as,9]]) l z)[lt]? =#[ts.map tbl,2]:=λz=>(mX nt z).trans (up ht);have gl: ∀z,(Wl (S++[.lst #[as,9]]) l z)[S.length]? =#[as.map zK,2]:=λz=>rE hl z _;have htl:0<ts.length:=hT.1;have ht4:=hT.2.1;have hlt: ∀z,pO [#[lt,1]] (Wl (S++[.lst #[as,9]]) l z)=.ok #[(ts.length:Int),5] (Wl (S++[.lst #[as,9]]) l z):=λz=>by rw[xY (gt z),lM]
 obtain⟨pp,hpp,hw,hix⟩:=Bt (S:=S) (lt:=lt) hT x;obtain⟨t,htt⟩: ∃t,t=x % (ts.length:Int):=⟨_,rfl⟩
 rw[<-htt]at hw hix;obtain⟨out,z,ho,hP,hc⟩:=KW (S:=S++[.lst #[as,9]]) (l:=l) (gf:=zV 0) (cf:=cU) (ef:=jG) (ρb:=[none,#[l],#[q],#[p]]) (P:=TmP ys vs) (λd x=>by obtain⟨tm,z,h,e⟩:=Jg hl2 np nq (up hp) (up hq) hV h1 h2 hy1 hy2 x;refine⟨[some d,#[l],#[q],#[p]],tm,z,rfl,rfl,?_,h⟩;unfold jG;simp? [e]) ((List.range (XB ts t)).map aP) (x / (ts.length:Int));rw[lM,length_range]at ho;have i0: ∀S,lO (.val (tbl pp)) #[0,5] S=.ok #[(XB ts t:Int),5] S:=λS=>by rw[hw];rfl
 have hrw: ∀Y,nU [#[t,5],#[out,6]] Y=#[zK (t,out),Y,1]:=λY=>tup2 _ _ Y;refine⟨(t,out),#[t,0],z,⟨ho,hP⟩,?_⟩;unfold kX;apply zE
 .unfold cV;simp? [hlt,yW (x:=x) (n:=(ts.length:Int)) hl2 #[] #[], <-htt];rfl
 unfold cW;simp? [yV (gl _),hix _ (gt _),i0,Iy (show XB ts t<=1000 by omega),lM,length_range,show XB ts t<1000000 by omega];rw[show uW 1 [0,2,3] (A8 M l p q lt S.length k #[t,0])=[none,#[l],#[q],#[p]]from rfl,hc];simp? [dN,hrw,wL (gl z) (show(as.map zK).length<1000000 by rw[lM];omega),KR hl];rw[List.map_append];rfl
def Bu(hl:l<S.length)(np:l≠p)(nq:l≠q)(nt:l≠lt)(hp:S[p]? =#[vs,2])(hq:S[q]? =#[ys.map MV.str,2])(ht:S[lt]? =#[ts.map tbl,2])(hV: ∀d∈vs,VS d)(h1:1<=vs.length)(h2:vs.length<=4)(hy1:1<=ys.length)(hy2:ys.length<=10)(hT:Ip ts)(hM:M<=4)(x:Int):
  ∃(as:List Rw)(z:Int),as.length=M/\(∀a∈as,We ts ys vs a)/\zF 5 eI [#[l,1],#[lt,1],#[q,1],#[p,1],.val (aP M)] (Wl S l x)=#[as.map zK,Wl S l z,2]:=by
 obtain⟨_,_,e,as,z,k',t',rfl,rfl,hA,g1⟩:=lL (gf:=zV 6) (body:=kX) (n:=M) (λi ρ S'=> ∃(as:List Rw)(z:Int)(k' t':Zb),ρ=A8 M l p q lt S.length k' t'/\S'=Wl (S++[.lst #[as,9]]) l z/\(∀a∈as,We ts ys vs a)/\as.length=i) ((List.range M).map aP) 0 (by simp) ⟨[],x,none,none,rfl,rfl,by simp,rfl⟩ (λd _ i hi ρ S1 ⟨as,z,k',t',q1,q2,hA,g1⟩=>by subst q1 q2;obtain⟨a,t2,z2,ha,hb⟩:=XC (M:=M) hl np nq nt hp hq ht hV h1 h2 hy1 hy2 hT (as:=as) #[] z (some d) t';exact⟨_,_,_,rfl,hb,as++[a],z2,some d,t2,rfl,rfl,λb hb=>(List.mem_append.mp hb).elim (hA b) λh=>by rw[mS.mp h];exact ha,by simp[g1]⟩);rw[lM,length_range,Nat.zero_add]at g1;refine⟨as,z,g1,hA,AT (T:=[.lst #[as,9]]) (m:=S.length) rfl ?_ q9 (by rw[dL hl];exact rE hl z _) (cS λd hd=>by obtain⟨a,ha,rfl⟩:=mM.mp hd;exact mU (Wf hV (hA a ha)).1)⟩;show yB (eF [#[l],#[lt],#[q],#[p],some (aP M),none,none,none] (Wl S l x))=_;rw[dL hl];refine iK ?_;unfold eF;apply zE
 .unfold fZ;simp? [dI,dL hl];rfl
 refine zE (ρ':=A8 M l p q lt S.length k' t') (S':=Wl (S++[.lst #[as,9]]) l z) ?_ ?_
 .unfold iA;simp? [Iy (show M<=1000 by omega)];exact e
 unfold iB;simp? [jS]
end
abbrev N6(a:MV)(m:Nat)(t u w n:Zb):Rho:=[some a,#[m],t,u,w,n]
def cM(as:List Rw):List (List Nat):=as.flatMap λa=>a.2.filterMap vn
def OL(v:MV):vn (.tup [.str IS,v])=none:=by cases v<;>simp[vn]
theorem vY{S:Sto}{a:MV}{t u:Zb}: ∀(tms:Za),(∀d∈tms,cL d)-> ∀(fs:Ch)(w n:Zb),fs.length+tms.length<1000->
  ∃(w' n':Zb),xG (fG 2 (zA (zV 4) (zA (zV 5) zZ))) yD [] tms (N6 a S.length t u w n) (S++[.lst #[fs,8]])=#[N6 a S.length t u w' n',S++[.lst ((yX fs (tms.filterMap vn)).map MV.str)],0]
 |[],_,fs,w,n,_=>⟨w,n,rfl⟩
 |d::tms,hT,fs,w,n,hl=>by
  rw[lC]at hl;have hS:=zT S (.lst #[fs,8]);rcases hT d mF0 with⟨x,rfl⟩|⟨v,hv,rfl⟩
  .have hb:yD (N6 a S.length t u #[BO,4] #[x,4]) (S++[.lst #[fs,8]])=#[N6 a S.length t u #[BO,4] #[x,4],S++[.lst ((pQ fs x).map MV.str)],0]:=by
    unfold yD xK;unfold pQ;by_cases h:x∈fs
    .rw[iP h];simp? [HQ,lK true hS (iI x) CN,dT0 (CO.mpr h),Bool.not_true,fT,iF]
    .rw[iN h];simp? [HQ,lK true hS (iI x) CN,dF0 (λz=>h (CO.mp z)),Bool.not_false,yV hS,wL hS (show(fs.map MV.str).length<1000000 by rw[lM];omega),gD,List.map_append,List.map_cons,List.map_nil]
   have hln:=ER fs x;obtain⟨w2,n2,b⟩:=vY (S:=S) (a:=a) (t:=t) (u:=u) tms (λe he=>hT e (mO _ he)) (pQ fs x) #[BO,4] #[x,4] #[];refine⟨w2,n2,?_⟩;rw[zX (show fG 2 (zA (zV 4) (zA (zV 5) zZ)) (.tup [.str BO,.str x]) (N6 a S.length t u w n) (S++[.lst #[fs,8]])=.ok (N6 a S.length t u #[BO,4] #[x,4]) (S++[.lst #[fs,8]])from rfl) hb (bO _),b,filterMap_cons,sY];rfl
  .have hb:yD (N6 a S.length t u #[IS,4] (some v)) (S++[.lst #[fs,8]])=#[N6 a S.length t u #[IS,4] (some v),S++[.lst #[fs,8]],0]:=by unfold yD xK;simp? [TV,fT,iF]
   obtain⟨w2,n2,b⟩:=vY (S:=S) (a:=a) (t:=t) (u:=u) tms (λe he=>hT e (mO _ he)) fs #[IS,4] (some v) #[];refine⟨w2,n2,?_⟩;rw[zX (show fG 2 (zA (zV 4) (zA (zV 5) zZ)) (.tup [.str IS,v]) (N6 a S.length t u w n) (S++[.lst #[fs,8]])=.ok (N6 a S.length t u #[IS,4] (some v)) (S++[.lst #[fs,8]])from rfl) hb (bO _),b,filterMap_cons,OL]
def OM(ks xs ys:Ch):yX ks (xs++ys)=yX (yX ks xs) ys:=by
 induction xs generalizing ks with
 |nil=>rfl
 |cons x xs ih=>exact ih _
theorem HS{S:Sto}{a:MV}{gs:Zd}(hg: ∀T,stay gs (S++T)): ∀(as:List Rw),(∀b∈as,(∀d∈b.2,cL d)/\b.2.length<=4)-> ∀(fs:Ch)(t u w n:Zb),fs.length+4 * as.length<1000->
  ∃(t' u' w' n':Zb),xG (fG 2 (zA (zV 2) (zA (zV 3) zZ))) wZ gs #[as,9] (N6 a S.length t u w n) (S++[.lst #[fs,8]])=#[N6 a S.length t' u' w' n',S++[.lst ((yX fs (cM as)).map MV.str)],0]
 |[],_,fs,t,u,w,n,_=>⟨t,u,w,n,rfl⟩
 |b::as,hA,fs,t,u,w,n,hl=>by
  rw[lC]at hl;obtain⟨hT,h4⟩:=hA b mF0;obtain⟨w1,n1,a4⟩:=vY (S:=S) (a:=a) (t:=#[b.1,0]) (u:=#[b.2,3]) b.2 hT fs w n #[];have hfl:=qL (b.2.filterMap vn) fs;have hfm:=length_filterMap_le vn b.2;obtain⟨t2,u2,w2,n2,b4⟩:=HS (a:=a) hg as (λe he=>hA e (mO _ he)) (yX fs (b.2.filterMap vn)) #[b.1,0] #[b.2,3] w1 n1 #[];refine⟨t2,u2,w2,n2,?_⟩;rw[List.map_cons,zX (show fG 2 (zA (zV 2) (zA (zV 3) zZ)) (zK b) (N6 a S.length t u w n) (S++[.lst #[fs,8]])=.ok (N6 a S.length #[b.1,0] #[b.2,3] w n) (S++[.lst #[fs,8]])from rfl) (ρ':=N6 a S.length #[b.1,0] #[b.2,3] w1 n1) (S':=S++[.lst ((yX fs (b.2.filterMap vn)).map MV.str)]) ?_ (hg _),b4]
  .show _=R.ok _ (S++[.lst ((yX fs (b.2.filterMap vn++cM as)).map MV.str)]);rw[OM]
  .unfold wZ jT;simp? [oY];exact a4
theorem Bv{S:Sto}{m:MV}{as:List Rw}(h:SqM S m #[as,9])(hA: ∀b∈as,(∀d∈b.2,cL d)/\b.2.length<=4)(hl:as.length<=100):zF 1 yO [.val m] S=#[(yX [] (cM as)).map MV.str,S,2]:=by
 obtain⟨gs,hg,hi⟩:=h.itQ;have e1:kC [some m,none,none,none,none,none] S=#[N6 m S.length none none none none,S++[.lst []],0]:=by unfold kC;simp? [jS]
 obtain⟨t',u',w',n',h4⟩:=HS (a:=m) hg as hA [] none none none none (by simp only[List.length_nil];omega);have e2:kD (N6 m S.length none none none none) (S++[.lst []])=#[N6 m S.length t' u' w' n',S++[.lst ((yX [] (cM as)).map MV.str)],0]:=by unfold kD;simp? [hi [.lst []]];exact h4
 have e3:kE (N6 m S.length t' u' w' n') (S++[.lst ((yX [] (cM as)).map MV.str)])=.ok (.ret #[S.length,1]) (S++[.lst ((yX [] (cM as)).map MV.str)]):=by unfold kE;simp? [jS]
 refine DV (T:=[.lst ((yX [] (cM as)).map MV.str)]) (l:=S.length) rfl ?_ q9 (zT S _) (rC _ _);show yB (gU [some m,none,none,none,none,none] S)=_;unfold gU;rw[zC e1,zC e2,e3];rfl
section
variable{S:Sto}{l:Nat}{a b:MO}{x:Int}
def w2_a(h:l<S.length):(Wl (S++[a,b]) l x)[S.length]? =some a:=by rw[mX (Nat.ne_of_lt h)];simp
def Wg(h:l<S.length):(Wl (S++[a,b]) l x)[S.length+1]? =some b:=by rw[mX (Nat.ne_of_lt (Nat.lt_succ_of_lt h)),sZ]
theorem Wh(h:l<S.length)(a':MO):(Wl (S++[a,b]) l x).set S.length a'=Wl (S++[a',b]) l x:=by unfold Wl;rw[set_append_left _ _ h,set_append_left _ _ h,set_append_right _ _ (by rw[List.length_set];exact Nat.le_refl _),List.length_set,sub_self];rfl
theorem Wi(h:l<S.length)(b':MO):(Wl (S++[a,b]) l x).set (S.length+1) b'=Wl (S++[a,b']) l x:=by unfold Wl;rw[set_append_left _ _ h,set_append_left _ _ h,set_append_right _ _ (by rw[List.length_set];exact le_succ _),List.length_set,Nat.add_sub_cancel_left];rfl
end
abbrev H6(l a m:Nat)(k:Zb):Rho:=[#[l],#[a],#[2,0],#[m],#[m+1],k]
theorem XD{S:Sto}{l a:Nat}{x:Int}{k:Zb}{fs hs:Ch}(hl:l<S.length)(hf:fs.length<=12)(hh:hs.length<1000):
  ∃(fs' hs':Ch)(z:Int),(∀y∈hs'++fs',y∈hs++fs)/\hs'.length<=hs.length+1/\fs'.length<=12/\gA (H6 l a S.length k) (Wl (S++[.lst #[fs,8],.lst #[hs,8]]) l x)=#[H6 l a S.length k,Wl (S++[.lst #[fs',8],.lst #[hs',8]]) l z,0]:=by
 have hl2:l<(S++[MO.lst #[fs,8],MO.lst #[hs,8]]).length:=by rw[lA];omega
 have hA: ∀z,(Wl (S++[.lst #[fs,8],.lst #[hs,8]]) l z)[S.length]? =#[fs.map MV.str,2]:=λz=>w2_a hl;have hB: ∀z,(Wl (S++[.lst #[fs,8],.lst #[hs,8]]) l z)[S.length+1]? =#[hs.map MV.str,2]:=λz=>Wg hl;unfold gA aK;by_cases h:fs=[]
 .subst h;refine⟨[],hs,x,λy hy=>hy,le_succ _,by simp,?_⟩;simp? [Bo (hA x),show(!(([]:Ch).map MV.str).isEmpty)=false from rfl,fT,iF]
 .have f0:0<fs.length:=List.length_pos_iff.mpr h;obtain⟨m,hm⟩: ∃m,m=(fs.map MV.str).length:=⟨_,rfl⟩
  have m1:m=fs.length:=by rw[hm,lM]
  have i0:=md (x:=x) (show(0:Int)<(m:Int) by omega);generalize hi:x % (m:Int)=i at i0;have i2:i.toNat<fs.length:=by omega
  refine⟨fs.eraseIdx i.toNat,hs++[fs[i.toNat]],x / (m:Int),λy hy=>?_,by simp,Nat.le_trans (List.length_eraseIdx_le ..) hf,?_⟩
  .simp only[List.mem_append,mS]at hy ⊢;rcases hy with(hy|rfl)|hy
   .exact .inl hy
   .exact .inr (getElem_mem i2)
   .exact .inr (List.mem_of_mem_eraseIdx hy)
  .simp? [Bo (hA x),show(!(fs.map MV.str).isEmpty)=true by simpa using h,yV (hB x),yV (hA x),xY (hA x), <-hm,yW (x:=x) hl2 (show(0:Int)<(m:Int) by omega) #[],hi,Jc (hA (x / (m:Int))) i0.1 (by rw[<-hm];exact i0.2) #[] (show#[fs,8][i.toNat]? =some (.str fs[i.toNat]) by rw[getElem?_map,gE i2];rfl),Bp,Wh hl];rw[wL (Wg hl) (by rw[lM];omega),jS,Wi hl,List.map_append];rfl
def Jh{S:Sto}{l a:Nat}{x:Int}{as:List Rw}(hl:l<S.length)(hla:l≠a)(hS:S[a]? =#[as.map zK,2])(hA: ∀b∈as,(∀d∈b.2,cL d)/\b.2.length<=4)(h4:as.length<=3):
  ∃(hs:Ch)(z:Int),hs.length<=2/\(∀y∈hs,y∈yX [] (cM as))/\ ∃fs:List (List Nat),nO [.loc l,.loc a,.int 2] (Wl S l x)=.ok #[S.length+1,1] (Wl (S++[.lst #[fs,8],.lst #[hs,8]]) l z):=by
 have hc:=Bv (S:=Wl S l x) (.inr ⟨a,rfl,(mX hla x).trans hS⟩) hA #[]
 have f2:(yX [] (cM as)).length<=12:=by
  have h1:=qL (cM as) []
  have h2: ∀as:List Rw,(∀b∈as,b.2.length<=4)->(cM as).length<=4 * as.length:=λas=>by
   induction as with
   |nil=>simp[cM]
   |cons b as ih=>
    intro hA;have:=ih λc hc=>hA c (mO _ hc);have h4:=hA b mF0;have h5:=length_filterMap_le vn b.2;show(b.2.filterMap vn++cM as).length<=_;rw[lA,lC];omega
  have:=h2 as λb hb=>(hA b hb).2;rw[List.length_nil]at h1;omega
 generalize yX [] (cM as)=fs at hc f2;have hl1:l<(S++[MO.lst #[fs,8]]).length:=by rw[lA];omega
 have q0:=md (x:=x) (n:=3);obtain⟨_,_,e,fs',hs,z,k',rfl,rfl,hp,hz,_⟩:=lL (gf:=zV 5) (body:=gA) (n:=2) (λi ρ S'=> ∃(fs' hs:Ch)(z:Int)(k':Zb),ρ=H6 l a S.length k'/\S'=Wl (S++[.lst #[fs',8],.lst #[hs,8]]) l z/\(∀y∈hs++fs',y∈fs)/\hs.length<=i/\fs'.length<=12) ((List.range (x % 3).toNat).map aP) 0 (by simp;omega) ⟨fs,[],x / 3,none,rfl,rfl,λy hy=>hy,Nat.le_refl _,f2⟩ (λd _ i hi ρ S1 ⟨fs',hs,z,k',q1,q2,hp,hz,hf⟩=>by subst q1 q2;obtain⟨f2,h2,z2,p2,l2,l3,hb⟩:=XD (S:=S) (l:=l) (a:=a) (x:=z) (k:=some d) (fs:=fs') (hs:=hs) hl hf #[];exact⟨_,_,_,rfl,hb,f2,h2,z2,some d,rfl,rfl,λy hy=>hp y (p2 y hy),by omega,l3⟩);rw[lM,length_range]at hz;refine⟨hs,z,by omega,λy hy=>hp y (mem_append_left _ hy),fs',?_⟩;show yB (lF [#[l],#[a],#[2,0],none,none,none] (Wl S l x))=_;refine iK ?_;unfold lF;apply zE
 .unfold lY;simp? [hc,dI,dL hl];rfl
 refine zE (ρ':=H6 l a S.length none) (S':=Wl (S++[.lst #[fs,8],.lst []]) l x) ?_ (zE (ρ':=H6 l a S.length k') (S':=Wl (S++[.lst #[fs',8],.lst #[hs,8]]) l z) ?_ ?_)
 .unfold lZ;simp? [dI,dL hl1];rw[lA,aA];rfl
 .unfold mB;simp? [show(2:Int)+1=3 from rfl,yW (n:=3) (x:=x) (show l<(S++[MO.lst #[fs,8],MO.lst []]).length by rw[lA];omega),vK (S:=Wl (S++[.lst #[fs,8],.lst []]) l (x / 3)) (j:=x % 3) #[]];exact e
 unfold mE;simp? [jS]
theorem Ji{S:Sto}{a:Nat}{as:List Rw}(hS:S[a]? =#[as.map zK,2])(hA: ∀b∈as,(∀d∈b.2,cL d)/\b.2.length<=4)(h4:as.length<=3)(t:Int):
  ∃hs:List (List Nat),hs.length<=2/\(∀y∈hs,y∈yX [] (cM as))/\zF 3 nO [.new [.int t],#[a,1],#[2,5]] S=#[hs.map MV.str,S,2]:=by
 have haS:=(gS.mp hS).1;have hlS:S.length<(S++[MO.lst []]).length:=by simp
 obtain⟨hs,z,h2,h3,fs,hF⟩:=Jh (S:=S++[.lst []]) (l:=S.length) (a:=a) (x:=t) hlS #[] (zY hS) hA h4;refine⟨hs,h2,h3,cK (r:=#[S.length+2,1]) (T:=[.lst [.int z],.lst #[fs,8],.lst #[hs,8]]) rfl (show zD [.new [.int t],#[a,1],#[2,5]] S=([.loc S.length,.loc a,.int 2],S++[.lst [.int t]])from rfl) ?_ (.inr ⟨_,rfl,by omega,by simp⟩) (rC _ _)⟩;rw[sE,hF,lA, <-dL hlS, <-sE,aA];rfl
theorem RH(ds:Za)(S:Sto):AI (.new ds) S=.ok ⟨ds,[]⟩ S:=rfl
def Jj{Z:Sto}{w:Nat}{x:Int}(h:Z[w]? =#[[.int x],2]):Wl Z w x=Z:=by
 unfold Wl;refine ext_getElem? λj=>?_;by_cases e:w=j
 .subst e;rw[get_set h,h]
 .rw[sX e]
theorem ET{lc:Nat}{all:Za}: ∀(cs:Xi)(Z:Sto),Z[lc]? =#[all,2]-> ∃T:Sto,T.length=cs.length/\(∀o∈T, ∃x,o=.lst [.int x])/\yF (zV 0) gR wQ [none] [(lc,all)] (cs.map MV.int) Z=.ok ((List.range' Z.length cs.length).map MV.loc) (Z++T)
 |[],Z,_=>⟨[],rfl,by simp,by rw[aN];rfl⟩
 |c::cs,Z,h=>by
  obtain⟨t,ht⟩:=dM c Z;have hZ:(Z++[MO.lst [.int t]])[lc]? =#[all,2]:=by rw[getElem?_append_left (gS.mp h).1];exact h
  obtain⟨T,h1,h2,h3⟩:=ET cs (Z++[.lst [.int t]]) hZ;refine⟨.lst [.int t]::T,by rw[lC,lC,h1],λo ho=>(mC.mp ho).elim (λe=>⟨t,e⟩) (h2 o),?_⟩;have he:wQ [#[c,0]] Z=#[[.int t],Z,2]:=by unfold wQ;simp? [ht]
  rw[List.map_cons];unfold yF;rw[show zV 0 (.int c) [none] Z=.ok [#[c,0]] Z from rfl,yQ,jS,show gR [#[c,0]] Z=.ok true Z from rfl,yQ,jS,iP rfl,he,yQ,jS,show wV (.new [.int t]) Z=.ok (.loc Z.length) (Z++[.lst [.int t]])from rfl,jS,iP (yT hZ),h3,aA];rw[lA,lS,lC,List.range'_succ];rfl
structure RI(S:Sto)(lr:Nat)(ws:Db)(rs:List Rw)(Z:Sto):Prop where
 old: ∃T,Z=S++T
 rw:Z[lr]? =#[rs.map zK,2]
 wl: ∀w∈ws,S.length<=w/\w≠lr/\ ∃x,Z[w]? =#[[.int x],2]
def UD{S T:Sto}{w:Nat}(h:S.length<=w)(o:MO): ∃T',(S++T).set w o=S++T':=⟨_,set_append_right _ _ h⟩
def RI.at{S:Sto}{lr:Nat}{ws:Db}{rs:List Rw}{Z:Sto}(h:RI S lr ws rs Z){l:Nat}{o:MO}(e:S[l]? =some o):Z[l]? =some o:=by obtain⟨T,rfl⟩:=h.old;rw[getElem?_append_left (gS.mp e).1];exact e
def RI.draw{S:Sto}{lr:Nat}{ws:Db}{rs:List Rw}{Z:Sto}(h:RI S lr ws rs Z){w:Nat}(hw:w∈ws)(z:Int):RI S lr ws rs (Wl Z w z):=by
 obtain⟨T,rfl⟩:=h.old;obtain⟨h1,h2,x,hx⟩:=h.wl w hw;refine⟨UD h1 _,?_,λv hv=>?_⟩
 .rw[mX h2];exact h.rw
 .obtain⟨g1,g2,y,hy⟩:=h.wl v hv;refine⟨g1,g2,?_⟩;by_cases e:w=v
  .subst e;exact⟨z,get_set hx⟩
  .exact⟨y,by rw[mX e];exact hy⟩
def RI.put{S:Sto}{lr:Nat}{ws:Db}{rs:List Rw}{Z:Sto}(h:RI S lr ws rs Z)(hlr:S.length<=lr)(rs':List Rw):RI S lr ws rs' (Z.set lr (.lst #[rs',9])):=by obtain⟨T,rfl⟩:=h.old;refine⟨UD hlr _,get_set h.rw,λv hv=>?_⟩;obtain⟨g1,g2,y,hy⟩:=h.wl v hv;exact⟨g1,g2,y,by rw[sX (Ne.symm g2)];exact hy⟩
def RJ{ts:Tk}{vs:Za}(hV: ∀v∈vs,VS v){r:Rw}(h:Ku ts vs r):pd (zK r)=true/\uY (zK r)<30:=by
 have h1:LY r.2=true:=lI λc hc=>(qM (hV c (h.2 c hc))).1;have h2:rM r.2<=0:=uD λc hc=>by rcases hV c (h.2 c hc)with⟨i,rfl⟩|⟨i,rfl⟩;exact le_of_eq (oX _);exact le_of_eq (eQ _)
 unfold zK;rw[jU,yL,vX,yL,jU,h1,lH,gV,yH,oX,yH,gV,iH];refine⟨rfl,?_⟩;omega
abbrev XM(lc:Nat)(ex:Int)(lt p m:Nat)(k:Int)(lr:Nat)(w r:Zb):Rho:=[#[lc],#[ex,0],#[lt],#[p],#[40,0],#[m],#[k,0],#[lr],w,r]
section
variable{S:Sto}{lc lt p m lr:Nat}{ex k:Int}{vs:Za}{ts:Tk}{ws:Db}
def XE(hlr:S.length<=lr)(hp:S[p]? =#[vs,2])(ht:S[lt]? =#[ts.map tbl,2])(hV: ∀d∈vs,VS d)(h1:1<=vs.length)(h2:vs.length<=4)(hT:Ip ts){rs:List Rw}{Z:Sto}(H:RI S lr ws rs Z)(hr: ∀r∈rs,Ku ts vs r)(h40:rs.length<=40){w:Nat}(hw:w∈ws)(r0:Zb):
  ∃rs' r' Z',RI S lr ws rs' Z'/\(∀r∈rs',Ku ts vs r)/\rs'.length<=40/\xF (XM lc ex lt p m k lr #[w] r0) Z=#[XM lc ex lt p m k lr #[w] r',Z',0]:=by
 obtain⟨g1,g2,x,hx⟩:=H.wl w hw;have hpS:=(gS.mp hp).1;have htS:=(gS.mp ht).1;obtain⟨r,z,hrP,hc⟩:=Rm (S:=Z) (l:=w) (gS.mp hx).1 (show w≠p by omega) (show w≠lt by omega) (H.at hp) (H.at ht) hV h1 h2 hT x;rw[Jj hx]at hc;have H1:=H.draw hw z;obtain⟨Z1,hZ1⟩: ∃Z1,Z1=Wl Z w z:=⟨_,rfl⟩
 rw[<-hZ1]at hc H1;have e1:gT (XM lc ex lt p m k lr #[w] r0) Z=#[XM lc ex lt p m k lr #[w] (some (zK r)),Z1,0]:=by unfold gT;simp? [hc]
 have hnin:=lK (d:=zK r) true H1.rw (RJ hV hrP).1 λy hy=>by obtain⟨q,hq,rfl⟩:=mM.mp hy;have:=RJ hV (hr q hq);exact⟨this.1,by omega⟩
 by_cases hm:zK r∈rs.map zK
 .refine⟨rs,some (zK r),Z1,H1,hr,h40,?_⟩;unfold xF;rw[zC e1];unfold wR;simp? [hnin,dT0 hm,Bool.not_true,fT,iF]
 .by_cases h9:rs.length<40
  .refine⟨rs++[r],some (zK r),_,H1.put hlr (rs++[r]),λq hq=>(List.mem_append.mp hq).elim (hr q) λz=>by rw[mS.mp z];exact hrP,by simp;omega,?_⟩;unfold xF;rw[zC e1];unfold wR;simp? [hnin,dF0 hm,Bool.not_false,xY H1.rw,lM,lt_int,show decide ((rs.length:Int)<40)=true from dT0 #[],yV H1.rw,wL H1.rw (show(rs.map zK).length<1000000 by rw[lM];omega),List.map_append,List.map_cons,List.map_nil]
  .refine⟨rs,some (zK r),Z1,H1,hr,h40,?_⟩;unfold xF;rw[zC e1];unfold wR;simp? [hnin,dF0 hm,Bool.not_false,xY H1.rw,lM,lt_int,show decide ((rs.length:Int)<40)=false from dF0 #[],fT,iF]
theorem ON(hlr:S.length<=lr)(hp:S[p]? =#[vs,2])(ht:S[lt]? =#[ts.map tbl,2])(hV: ∀d∈vs,VS d)(h1:1<=vs.length)(h2:vs.length<=4)(hT:Ip ts): ∀(us:Db),(∀u∈us,u∈ws)-> ∀(rs:List Rw)(Z:Sto)(a b:Zb),RI S lr ws rs Z->(∀r∈rs,Ku ts vs r)->rs.length<=40->
  ∃rs' Z' a' b',RI S lr ws rs' Z'/\(∀r∈rs',Ku ts vs r)/\rs'.length<=40/\xG (zV 8) xF [] (us.map MV.loc) (XM lc ex lt p m k lr a b) Z=#[XM lc ex lt p m k lr a' b',Z',0]
 |[],_,rs,Z,a,b,H,hr,h40=>⟨rs,Z,a,b,H,hr,h40,rfl⟩
 |u::us,hu,rs,Z,a,b,H,hr,h40=>by obtain⟨rs1,r1,Z1,H1,hr1,h401,e1⟩:=XE (lc:=lc) (m:=m) (ex:=ex) (k:=k) hlr hp ht hV h1 h2 hT H hr h40 (hu u mF0) b;obtain⟨rs2,Z2,a2,b2,H2,hr2,h402,e2⟩:=ON hlr hp ht hV h1 h2 hT us (λv hv=>hu v (mO _ hv)) rs1 Z1 #[u] r1 H1 hr1 h401;refine⟨rs2,Z2,a2,b2,H2,hr2,h402,?_⟩;rw[List.map_cons,zX (show zV 8 (.loc u) (XM lc ex lt p m k lr a b) Z=.ok (XM lc ex lt p m k lr #[u] b) Z from rfl) e1 (bO _)];exact e2
end
theorem Jk{S:Sto}{lt p:Nat}{vs:Za}{ts:Tk}(hp:S[p]? =#[vs,2])(ht:S[lt]? =#[ts.map tbl,2])(hV: ∀d∈vs,VS d)(h1:1<=vs.length)(h2:vs.length<=4)(hT:Ip ts)(ex:Int){cs:Xi}(hc:cs.length<=63):
  ∃rs:List Rw,(∀r∈rs,Ku ts vs r)/\rs.length<=40/\zF 5 lD [.new (cs.map MV.int),#[ex,5],#[lt,1],#[p,1],#[40,5]] S=#[rs.map zK,S,2]:=by
 obtain⟨t,htt⟩:=dM ex (S++[.lst (cs.map MV.int)]);obtain⟨Z0,hZ0⟩: ∃Z0,Z0=S++[MO.lst (cs.map MV.int)]:=⟨_,rfl⟩
 have l0:Z0.length=S.length+1:=by rw[hZ0];simp
 rw[<-hZ0]at htt;have e1:dY [#[S.length],#[ex,0],#[lt],#[p],#[40,0],none,none,none,none,none] Z0=#[[#[S.length],#[ex,0],#[lt],#[p],#[40,0],#[Z0.length],none,none,none,none],Wl (Z0++[.lst []]) Z0.length t,0]:=by unfold dY;simp? [htt];rw[sE]
 have hlm:Z0.length<(Z0++[MO.lst []]).length:=by simp
 have e2:dZ [#[S.length],#[ex,0],#[lt],#[p],#[40,0],#[Z0.length],none,none,none,none] (Wl (Z0++[.lst []]) Z0.length t)=#[[#[S.length],#[ex,0],#[lt],#[p],#[40,0],#[Z0.length],#[t % 20,0],none,none,none],Z0++[.lst [.int (t / 20)]],0]:=by unfold dZ;simp? [yW (n:=20) (x:=t) hlm];rw[sE]
 obtain⟨Z2,hZ2⟩: ∃Z2,Z2=Z0++[MO.lst [.int (t / 20)],MO.lst []]:=⟨_,rfl⟩
 have l2:Z2.length=S.length+3:=by rw[hZ2];simp[l0]
 have e3:nA [#[S.length],#[ex,0],#[lt],#[p],#[40,0],#[Z0.length],#[t % 20,0],none,none,none] (Z0++[.lst [.int (t / 20)]])=#[XM S.length ex lt p Z0.length (t % 20) (S.length+2) none none,Z2,0]:=by unfold nA;simp? [jS];rw[lA,l0,aA,hZ2];rfl
 have hc2:Z2[S.length]? =#[cs.map MV.int,2]:=by rw[hZ2,hZ0];simp
 obtain⟨T,t1,t2,t3⟩:=ET cs Z2 hc2;have k0:0<=t % 20:=eN _ (by decide);have k1:t % 20<20:=eL _ (by decide);obtain⟨ws,hws⟩: ∃ws:List Nat,ws=List.range' Z2.length cs.length++List.replicate (t % 20).toNat Z0.length:=⟨_,rfl⟩
 have hmul: ∀Y,vG (.new [.loc Z0.length]) #[t % 20,5] Y=#[(List.replicate (t % 20).toNat Z0.length).map MV.loc,Y,2]:=λY=>by
  show(if 0<=t % 20/\t % 20<100000/\[MV.loc Z0.length].length * (t % 20).toNat<=sizeLine then _ else _)=_;rw[iP ⟨k0,by omega,fits (by simp;omega)⟩]
  have hfl: ∀n:Nat,(List.replicate n [MV.loc Z0.length]).flatten=(List.replicate n Z0.length).map MV.loc:=λn=>by
   induction n with
   |zero=>rfl
   |succ n ih=>rw[replicate_succ,flatten_cons,ih,replicate_succ];rfl
  rw[hfl]
 have hadd: ∀Y,jR (.new ((List.range' Z2.length cs.length).map MV.loc)) (.new ((List.replicate (t % 20).toNat Z0.length).map MV.loc)) Y=#[ws.map MV.loc,Y,2]:=λY=>by rw[hws,List.map_append];exact JF rfl rfl (fits (by rw[lM,lM,List.length_range',List.length_replicate];omega))
 have H0:RI S (S.length+2) ws [] (Z2++T):=by
  refine⟨⟨[.lst (cs.map MV.int),.lst [.int (t / 20)],.lst []]++T,by rw[hZ2,hZ0];simp⟩,?_,λw hw=>?_⟩
  .rw[getElem?_append_left #[],hZ2,hZ0];simp
  .rw[hws]at hw;rcases List.mem_append.mp hw with hw|hw
   .obtain⟨j,hj,rfl⟩:=List.mem_range'.mp hw;refine⟨by omega,by omega,?_⟩;rw[getElem?_append_right #[],show Z2.length+1 * j - Z2.length=j by omega,gE #[]];obtain⟨x,hx⟩:=t2 _ (getElem_mem (show j<T.length by omega));exact⟨x,by rw[hx]⟩
   .rw[(List.mem_replicate.mp hw).2];refine⟨by omega,by omega,t / 20,?_⟩;rw[getElem?_append_left #[],hZ2,getElem?_append_right #[],sub_self];rfl
 obtain⟨rs,Z',a',b',H,hr,h40,e⟩:=ON (lc:=S.length) (m:=Z0.length) (ex:=ex) (k:=t % 20) (lr:=S.length+2) #[] hp ht hV h1 h2 hT ws (λu h=>h) [] (Z2++T) none none H0 (by simp) (by simp);have e4:nB (XM S.length ex lt p Z0.length (t % 20) (S.length+2) none none) Z2=#[XM S.length ex lt p Z0.length (t % 20) (S.length+2) a' b',Z',0]:=by unfold nB;simp? [xZ hc2,lM,show cs.length<1000000 by omega];rw[show uW 1 [] (XM S.length ex lt p Z0.length (t % 20) (S.length+2) none none)=[none]from rfl,t3];simp? [lst1,hmul,hadd,RH];exact e
 obtain⟨T',hT'⟩:=H.old;refine⟨rs,hr,h40,cK (T:=T') (S2:=Z0) (as:=[.loc S.length,.int ex,.loc lt,.loc p,.int 40]) rfl (by rw[hZ0];rfl) ?_ (.inr ⟨S.length+2,rfl,by omega,by rw[<-hT'];exact H.rw⟩) (cS λd hd=>by obtain⟨r,hr',rfl⟩:=mM.mp hd;exact mU (RJ hV (hr r hr')).1)⟩;show yB (lB [#[S.length],#[ex,0],#[lt],#[p],#[40,0],none,none,none,none,none] Z0)=_;unfold lB;rw[zC e1,zC e2,zC e3,zC e4, <-hT'];rfl
abbrev Ev:=List (MV×MV)
def qN(E:Ev):Prop:= ∀p∈E,(∃x,p.1=.str x)/\VS p.2
def isv:MV->MV
 |.tup [_,v]=>v
 |_=>.non
def dO:List MV->List MV->Ev->Option Ev
 |t::ts,c::cs,E=>match vn t with
  |some x=>match look E (.str x)with
   |none=>dO ts cs (E++[(.str x,c)])
   |some d=>if d=c then dO ts cs E else none
  |none=>if isv t=c then dO ts cs E else none
 |_,_,E=>some E
def uG(x:Db)(c:MV)(ts cs:Za)(E:Ev):dO (.tup [.str BO,.str x]::ts) (c::cs) E=match look E (.str x)with |none=>dO ts cs (E++[(.str x,c)])|some d=>if d=c then dO ts cs E else none:=by
 conv=>lhs;unfold dO
 rw[sY]
theorem KZ(v c:MV)(ts cs:Za)(E:Ev):dO (.tup [.str IS,v]::ts) (c::cs) E=if v=c then dO ts cs E else none:=by
 conv=>lhs;unfold dO
 rw[OL];rfl
theorem OO(V F:Ev)(k:MV):look (V++F) k=(look V k).or (look F k):=by unfold look;rw[List.find?_append];cases V.find? (λp=>decide (p.1=k))<;>rfl
def CQ{E:Ev}(h:qN E){k d:MV}(e:look E k=some d):VS d:=by unfold look at e;obtain⟨p,hp,rfl⟩:=Option.map_eq_some_iff.mp e;exact(h p (List.mem_of_find?_eq_some hp)).2
def Bw{E:Ev}{k d:MV}(e:look E k=some d): ∃p∈E,p.1=k:=by unfold look at e;obtain⟨p,hp,rfl⟩:=Option.map_eq_some_iff.mp e;exact⟨p,List.mem_of_find?_eq_some hp,by simpa using List.find?_some hp⟩
def Jl{E:Ev}{k:MV}(e:look E k=none): ∀p∈E,p.1≠k:=λp hp h=>by unfold look at e;rw[Option.map_eq_none_iff,List.find?_eq_none]at e;exact e p hp (dT0 h)
theorem EU{V:Ev}{k d:MV}(h:look V k=none):putK V k d=V++[(k,d)]:=by unfold putK;rw[h];rfl
theorem CS: ∀(ts cs:Za)(F G:Ev),dO ts cs F=some G->qN F->(∀c∈cs,VS c)->qN G
 |[],_,F,G,h,hF,_=>by cases h;exact hF
 |t::ts,[],F,G,h,hF,_=>by cases h;exact hF
 |t::ts,c::cs,F,G,h,hF,hc=>by
  have hc': ∀c∈cs,VS c:=λd hd=>hc d (mO _ hd);unfold dO at h;split at h
  .rename_i x hx;split at h
   .refine CS ts cs _ G h (λp hp=>?_) hc';rcases List.mem_append.mp hp with hp|hp
    .exact hF p hp
    .rw[mS.mp hp];exact⟨⟨x,rfl⟩,hc c mF0⟩
   .split at h
    .exact CS ts cs F G h hF hc'
    .cases h
  .split at h
   .exact CS ts cs F G h hF hc'
   .cases h
theorem eZ(C:Ev)(k x j:MV):look (C++[(k,x)]) j=(look C j).or (if k=j then some x else none):=by
 rw[OO];congr 1;unfold look;rw[find?_cons];by_cases h:k=j
 .rw[iP h,dT0 h];rfl
 .rw[iN h,dF0 h];rfl
theorem UE: ∀(ts cs:Za)(E G:Ev),dO ts cs E=some G->ts.length<=cs.length->(∀k,look E k≠none->look G k≠none)/\ ∀t∈ts, ∀x,vn t=some x->look G (.str x)≠none
 |[],_,E,G,h,_=>by cases h;exact⟨λk h=>h,λt ht=>by simp at ht⟩
 |t::ts,[],E,G,h,hl=>by simp at hl
 |t::ts,c::cs,E,G,h,hl=>by
  rw[lC,lC]at hl
  have up: ∀{F:Ev},dO ts cs F=some G->(∀k,look E k≠none->look F k≠none)->(∀x,vn t=some x->look F (.str x)≠none)->(∀k,look E k≠none->look G k≠none)/\ ∀t'∈t::ts, ∀x,vn t'=some x->look G (.str x)≠none:=λhf h1 h2=>by
   obtain⟨a,b⟩:=UE ts cs _ G hf #[];refine⟨λk hk=>a k (h1 k hk),λt' ht' x hx=>?_⟩;rcases mC.mp ht' with rfl|ht'
   .exact a _ (h2 x hx)
   .exact b t' ht' x hx
  unfold dO at h;split at h
  .rename_i x hx;split at h
   .rename_i hn;refine up h (λk hk=>?_) λy hy=>?_
    .rw[OO]
     cases z:look E k with
     |none=>exact absurd z hk
     |some d=>simp
    .rw[hx]at hy;cases hy;rw[eZ,hn,iP rfl];simp
   .rename_i d hd;split at h
    .exact up h (λk hk=>hk) λy hy=>by rw[hx]at hy;cases hy;rw[hd];simp
    .cases h
  .rename_i hx;split at h
   .exact up h (λk hk=>hk) λy hy=>by rw[hx]at hy;cases hy
   .cases h
theorem Wj{E:Ev}(h:qN E):E.all (λp=>sV p.1)=true:=by rw[List.all_eq_true];intro p hp;obtain⟨x,e⟩:=(h p hp).1;rw[e];rfl
section
variable{S:Sto}{l:Nat}{E:Ev}
def AU(h:S[l]? =#[E,7])(hE:qN E):sW S #[l,1]=some (l,E):=Bl h (Wj hE)
theorem LA(h:S[l]? =#[E,7])(hE:qN E):QZ #[l,1] S=true:=by unfold QZ;rw[AU h hE];rfl
theorem RK(h:S[l]? =#[E,7])(hE:qN E){x:Db}{d:MV}(hl:look E (.str x)=some d):KA #[l,1] (.val (.str x)) S=#[d,S,1]:=by unfold KA;rw[AU h hE];dsimp only;rw[hl];rfl
def Jm(h:S[l]? =#[E,7])(hE:qN E)(hz:E.length<1000000){x:Db}{c d:MV}(hl:look E (.str x)=some d):Am #[l,1] [.val (.str x),.val c] S=#[d,S,1]:=by show NQ _ _ _ S=_;unfold NQ;rw[AU h hE];dsimp only;rw[iP ⟨rfl,hz⟩,hl]
def Jn(h:S[l]? =#[E,7])(hE:qN E)(hz:E.length<1000000){x:Db}{c:MV}(hl:look E (.str x)=none):Am #[l,1] [.val (.str x),.val c] S=#[c,S.set l (.dic (E++[(.str x,c)])),1]:=by show NQ _ _ _ S=_;unfold NQ;rw[AU h hE];dsimp only;rw[iP ⟨rfl,hz⟩,hl];dsimp only;rw[EU hl]
end
def LB{S:Sto}{d e:MV}(hd:pd d=true)(he:pd e=true)(h:uY d<40):QK (.val d) (.val e) S=#[.bl (!decide (d=e)),S,1]:=QS (qK (zG+1) hd he (by unfold zG;omega))
abbrev FT(lt cs:Za)(n:Nat)(a b c:Zb):Rho:=[#[lt,3],#[cs,3],#[n],a,b,c]
def Jo{S:Sto}{lt cs0:Za}{E:Ev}{t c:MV}(ht:cL t)(hc:VS c)(hE:qN E)(hz:E.length<1000)(o:Zb):
  (∃F e,(∀ts cs,dO (t::ts) (c::cs) E=dO ts cs F)/\qN F/\F.length<=E.length+1/\xW (FT lt cs0 S.length (some t) (some c) o) (S++[.dic E])=#[FT lt cs0 S.length (some t) (some c) (some e),S++[.dic F],0])\/
  ((∀ts cs,dO (t::ts) (c::cs) E=none)/\xW (FT lt cs0 S.length (some t) (some c) o) (S++[.dic E])=.ok (.ret (.val .non)) (S++[.dic E])):=by
 have hS:(S++[.dic E])[S.length]? =#[E,7]:=zT _ _
 have e2: ∀(d:MV)(E':Ev),VS d->dP (FT lt cs0 S.length (some t) (some c) (some d)) (S++[.dic E'])=if d=c then #[FT lt cs0 S.length (some t) (some c) (some d),S++[.dic E'],0]else .ok (.ret (.val .non)) (S++[.dic E']):=λd E' hd=>by
  unfold dP;simp? [LB (qM hd).1 (qM hc).1 (qM hd).2];by_cases hh:d=c
  .rw[dT0 hh,iP hh];rfl
  .rw[dF0 hh,iN hh];rfl
 unfold xW;rcases ht with⟨x,rfl⟩|⟨v,hv,rfl⟩
 .cases z:look E (.str x)with
  |none=>
   have e1:yR (FT lt cs0 S.length #[[.str BO,.str x],3] (some c) o) (S++[.dic E])=#[FT lt cs0 S.length #[[.str BO,.str x],3] (some c) (some c),S++[.dic (E++[(.str x,c)])],0]:=by unfold yR;simp? [Bi,Bj,HQ,LA hS hE,Jn hS hE (show E.length<1000000 by omega) z,gD]
   refine .inl ⟨E++[(.str x,c)],c,λts cs=>by rw[uG,z],λp hp=>?_,by simp,?_⟩
   .rcases List.mem_append.mp hp with hp|hp
    .exact hE p hp
    .rw[mS.mp hp];exact⟨⟨x,rfl⟩,hc⟩
   .rw[zC e1,e2 c _ hc,iP rfl]
  |some d=>
   have e1:yR (FT lt cs0 S.length #[[.str BO,.str x],3] (some c) o) (S++[.dic E])=#[FT lt cs0 S.length #[[.str BO,.str x],3] (some c) (some d),S++[.dic E],0]:=by unfold yR;simp? [Bi,Bj,HQ,LA hS hE,Jm hS hE (show E.length<1000000 by omega) z]
   rw[zC e1,e2 d _ (CQ hE z)];by_cases hh:d=c
   .exact .inl ⟨E,d,λts cs=>by rw[uG,z];exact iP hh,hE,by omega,by rw[iP hh]⟩
   .exact .inr ⟨λts cs=>by rw[uG,z];exact iN hh,by rw[iN hh]⟩
 .have e1:yR (FT lt cs0 S.length #[[.str IS,v],3] (some c) o) (S++[.dic E])=#[FT lt cs0 S.length #[[.str IS,v],3] (some c) (some v),S++[.dic E],0]:=by unfold yR;simp? [Bi,Bj,TV,fT,iF]
  rw[zC e1,e2 v _ hv];by_cases hh:v=c
  .exact .inl ⟨E,v,λts cs=>by rw[KZ,iP hh],hE,by omega,by rw[iP hh]⟩
  .exact .inr ⟨λts cs=>by rw[KZ,iN hh],by rw[iN hh]⟩
theorem Bx{S:Sto}{lt cs0:Za}: ∀(ts cs:Za)(E:Ev)(a b c:Zb),(∀t∈ts,cL t)->(∀c∈cs,VS c)->qN E->E.length+ts.length<1000->
  (∃F a' b' c',dO ts cs E=some F/\xG (fG 2 (zA (zV 3) (zA (zV 4) zZ))) xW [] (pairs ts cs) (FT lt cs0 S.length a b c) (S++[.dic E])=#[FT lt cs0 S.length a' b' c',S++[.dic F],0])\/
  (dO ts cs E=none/\ ∃E',xG (fG 2 (zA (zV 3) (zA (zV 4) zZ))) xW [] (pairs ts cs) (FT lt cs0 S.length a b c) (S++[.dic E])=.ok (.ret (.val .non)) (S++[.dic E']))
 |[],cs,E,a,b,c,_,_,_,_=>.inl ⟨E,a,b,c,rfl,rfl⟩
 |t::ts,[],E,a,b,c,_,_,_,_=>.inl ⟨E,a,b,c,rfl,rfl⟩
 |t::ts,d::cs,E,a,b,c,ht,hc,hE,hz=>by
  rw[lC]at hz;have hg:fG 2 (zA (zV 3) (zA (zV 4) zZ)) (.tup [t,d]) (FT lt cs0 S.length a b c) (S++[.dic E])=.ok (FT lt cs0 S.length (some t) (some d) c) (S++[.dic E]):=rfl;have hst: ∀E':Ev,stay [] (S++[.dic E']):=λE'=>bO _;rcases Jo (S:=S) (lt:=lt) (cs0:=cs0) (ht t mF0) (hc d mF0) hE #[] c with⟨F,e,h1,h2,h3,h4⟩|⟨h1,h4⟩
  .show(∃F a' b' c',_/\xG _ _ _ (.tup [t,d]::pairs ts cs) _ _=_)\/(_/\ ∃E',xG _ _ _ (.tup [t,d]::pairs ts cs) _ _=_)
   rw[zX hg h4 (hst F),h1];exact Bx ts cs F (some t) (some d) (some e) (λt ht'=>ht t (mO _ ht')) (λt ht'=>hc t (mO _ ht')) h2 #[]
  .refine .inr ⟨h1 ts cs,E,?_⟩;show xG _ _ _ (.tup [t,d]::pairs ts cs) _ _=_;rw[SS hg h4]
def LC:qN []:=λp h=>by simp at h
def Wm{S:Sto}{ts cs:Za}(ht: ∀t∈ts,cL t)(hc: ∀c∈cs,VS c)(hz:ts.length<900):
  zF 2 eY [#[ts,6],#[cs,6]] S=match dO ts cs []with |some F=>.ok #[S.length,1] (S++[.dic F])|none=>#[.non,S,1]:=by
 have e1:iS [#[ts,3],#[cs,3],none,none,none,none] S=#[FT ts cs S.length none none none,S++[.dic []],0]:=by unfold iS;simp? [AK]
 have hit:ZR [#[ts,6],#[cs,6]] (S++[.dic []])=.ok ⟨pairs ts cs,[]⟩ (S++[.dic []]):=rfl;have e2:iT (FT ts cs S.length none none none) (S++[.dic []])=xG (fG 2 (zA (zV 3) (zA (zV 4) zZ))) xW [] (pairs ts cs) (FT ts cs S.length none none none) (S++[.dic []]):=by unfold iT;simp? [hit]
 rcases Bx (S:=S) (lt:=ts) (cs0:=cs) ts cs [] none none none ht hc LC (by simp only[List.length_nil];omega)with⟨F,a,b,c,h1,h2⟩|⟨h1,E',h2⟩
 .rw[h1];dsimp only;have hF:eY [.tup ts,.tup cs] S=.ok #[S.length,1] (S++[.dic F]):=by show yB (eX [#[ts,3],#[cs,3],none,none,none,none] S)=_;unfold eX;rw[zC e1,zC (e2.trans h2)];rfl
  exact Bn (T:=[]) rfl hF
 .rw[h1];dsimp only;have hF:eY [.tup ts,.tup cs] S=#[.non,S++[.dic E'],1]:=by show yB (eX [#[ts,3],#[cs,3],none,none,none,none] S)=_;unfold eX;rw[zC e1,oG (e2.trans h2)];rfl
  exact DU (T:=[.dic E']) rfl hF (ZV _) (λl=>by simp)
def By{S:Sto}{l:Nat}{E:Ev}(h:S[l]? =#[E,7])(hE:qN E):NP [#[l,1]] S=.ok #[S.length,1] (S++[.dic E]):=by unfold NP;dsimp only;rw[AU h hE]
abbrev D4(m:MV)(n:Nat)(a t:Zb):Rho:=[some m,#[n],a,t]
theorem EV{S:Sto}{m:MV}{a:Zb}: ∀(tms:Za),(∀d∈tms,cL d)-> ∀(ks:Ch)(t:Zb),ks.length+tms.length<100000->
  ∃t',xG (zV 3) bS [] tms (D4 m S.length a t) (S++[.dic (dT ks)])=#[D4 m S.length a t',S++[.dic (dT (yX ks (tms.filterMap vn)))],0]
 |[],_,ks,t,_=>⟨t,rfl⟩
 |d::tms,hT,ks,t,hl=>by
  rw[lC]at hl;rcases hT d mF0 with⟨x,rfl⟩|⟨v,hv,rfl⟩
  .have hal:=ER ks x;obtain⟨t',ih⟩:=EV (S:=S) (m:=m) (a:=a) tms (λe he=>hT e (mO _ he)) (pQ ks x) #[[.str BO,.str x],3] #[];refine⟨t',?_⟩;rw[zX (show zV 3 (.tup [.str BO,.str x]) (D4 m S.length a t) (S++[.dic (dT ks)])=.ok (D4 m S.length a #[[.str BO,.str x],3]) (S++[.dic (dT ks)])from rfl) (ρ':=D4 m S.length a #[[.str BO,.str x],3]) (S':=S++[.dic (dT (pQ ks x))]) ?_ (bO _)]
   .rw[filterMap_cons,sY];exact ih
   .unfold bS bR;simp? [Bi,Bj,HQ,CL,Iv (zT S (.dic (dT ks))) (show ks.length<1000000 by omega),gD]
  .obtain⟨t',ih⟩:=EV (S:=S) (m:=m) (a:=a) tms (λe he=>hT e (mO _ he)) ks #[[.str IS,v],3] #[];refine⟨t',?_⟩;rw[zX (show zV 3 (.tup [.str IS,v]) (D4 m S.length a t) (S++[.dic (dT ks)])=.ok (D4 m S.length a #[[.str IS,v],3]) (S++[.dic (dT ks)])from rfl) (ρ':=D4 m S.length a #[[.str IS,v],3]) (S':=S++[.dic (dT ks)]) ?_ (bO _)]
   .rw[filterMap_cons,OL];exact ih
   .unfold bS bR;simp? [Bi,Bj,TV,fT,iF]
theorem Bz{S:Sto}{m:MV}{gs:Zd}(hgs: ∀T,stay gs (S++T)): ∀(as:List Rw),(∀b∈as,(∀d∈b.2,cL d)/\b.2.length<=4)-> ∀(ks:Ch)(a t:Zb),ks.length+100 * as.length<50000->
  ∃a' t',xG (zV 2) bT gs #[as,9] (D4 m S.length a t) (S++[.dic (dT ks)])=#[D4 m S.length a' t',S++[.dic (dT (yX ks (cM as)))],0]
 |[],_,ks,a,t,_=>⟨a,t,rfl⟩
 |p::ps,h,ks,a,t,hl=>by
  rw[lC]at hl;have hp:=h p mF0;have hp2:=hp.2;obtain⟨t1,h1⟩:=EV (S:=S) (m:=m) (a:=some (zK p)) p.2 hp.1 ks t #[];have hb:bT (D4 m S.length (some (zK p)) t) (S++[.dic (dT ks)])=#[D4 m S.length (some (zK p)) t1,S++[.dic (dT (yX ks (p.2.filterMap vn)))],0]:=by unfold bT fU;simp? [show∀Z,lO (.val (zK p)) #[1,5] Z=.ok #[p.2,6] Z from λ_=>rfl,oY];exact h1
  have h2:=qL (p.2.filterMap vn) ks;have h3:(p.2.filterMap vn).length<=p.2.length:=length_filterMap_le _ _;obtain⟨a',t',ih⟩:=Bz (m:=m) hgs ps (λq hq=>h q (mO _ hq)) (yX ks (p.2.filterMap vn)) (some (zK p)) t1 #[];refine⟨a',t',?_⟩;rw[List.map_cons,zX (show zV 2 (zK p) (D4 m S.length a t) (S++[.dic (dT ks)])=.ok (D4 m S.length (some (zK p)) t) (S++[.dic (dT ks)])from rfl) hb (hgs _),ih];show _=R.ok _ (S++[.dic (dT (yX ks (p.2.filterMap vn++cM ps)))]);rw[OM]
theorem Wn{S:Sto}{m:MV}{as:List Rw}(hm:SqM S m #[as,9])(h: ∀b∈as,(∀d∈b.2,cL d)/\b.2.length<=4)(hl:as.length<=100):wA [m] S=#[(yX [] (cM as)).map MV.str,S++[.dic (dT (yX [] (cM as)))],2]:=by
 obtain⟨gs,hg,hi⟩:=hm.itQ;obtain⟨a',t',h4⟩:=Bz (m:=m) hg as h [] none none (by simp only[List.length_nil];omega);have e1:aZ [some m,none,none,none] S=#[D4 m S.length none none,S++[.dic (dT [])],0]:=by unfold aZ;simp? [AK];rfl
 have e2:eA (D4 m S.length none none) (S++[.dic (dT [])])=#[D4 m S.length a' t',S++[.dic (dT (yX [] (cM as)))],0]:=by unfold eA;simp? [hi [.dic (dT [])]];exact h4
 have e3:eB (D4 m S.length a' t') (S++[.dic (dT (yX [] (cM as)))])=.ok (.ret (.new ((yX [] (cM as)).map MV.str))) (S++[.dic (dT (yX [] (cM as)))]):=by unfold eB;simp? [Bm (zT S (.dic (dT (yX [] (cM as)))))]
 show yB (oM [some m,none,none,none] S)=_;unfold oM;rw[zC e1,zC e2,e3];rfl
def Wo{S:Sto}{m:MV}{as:List Rw}(hm:SqM S m #[as,9])(h: ∀b∈as,(∀d∈b.2,cL d)/\b.2.length<=4)(hl:as.length<=100):zF 1 wA [.val m] S=#[(yX [] (cM as)).map MV.str,S,2]:=
 tS (T:=[.dic (dT (yX [] (cM as)))]) rfl (Wn hm h hl) (rC _ _)
theorem Ro{S:Sto}{as:List Rw}(h: ∀b∈as,(∀d∈b.2,cL d)/\b.2.length<=4)(hl:as.length<=100):zF 1 wA [.new #[as,9]] S=#[(yX [] (cM as)).map MV.str,S,2]:=by refine cK rfl (show zD [.new #[as,9]] S=([.loc S.length],S++[.lst #[as,9]])from rfl) (T:=[.lst #[as,9],.dic (dT (yX [] (cM as)))]) ?_ (.inl rfl) (rC _ _);rw[Wn (.inr ⟨S.length,rfl,zT _ _⟩) h hl,aA];rfl
def cN(E:Ev)(x:Db):MV:=(look E (.str x)).getD .non
theorem bG{E:Ev}{x:Db}{d:MV}(h:look E (.str x)=some d):cN E x=d:=by unfold cN;rw[h];rfl
theorem UF{S:Sto}{l:Nat}{E:Ev}{m:MV}{xs:Ch}(h:S[l]? =#[E,7])(hE:qN E)(hm:SqM S m #[xs,8])(hx: ∀x∈xs,look E (.str x)≠none)(hl:xs.length<1000):zF 2 yE [#[l,1],.val m] S=.ok #[xs.map (cN E),6] S:=by
 obtain⟨gs,hg,hi⟩:=hm.itQ;have hg:=hg [];have hi:=hi [];rw[aN]at hg hi
 have hv: ∀x∈xs, ∃d,look E (.str x)=some d/\VS d:=λx hx'=>by
  cases z:look E (.str x)with
  |none=>exact absurd z (hx x hx')
  |some d=>exact⟨d,rfl,CQ hE z⟩
 have hc:yF (zV 0) nW gH [none,#[l]] gs #[xs,8] S=.ok (xs.map (cN E)) S:=
  mW (f:=MV.str) (g:=cN E) hg λx hx'=>by obtain⟨d,hd,_⟩:=hv x hx';refine⟨[#[x,4],#[l]],rfl,rfl,?_⟩;unfold gH;simp? [RK h hE hd];rw[bG hd]
 have hpd:pd (.tup (xs.map (cN E)))=true:=by rw[jU];refine lI λd hd=>?_;obtain⟨x,hx',rfl⟩:=mM.mp hd;obtain⟨d,hd,hvs⟩:=hv x hx';rw[bG hd];exact(qM hvs).1
 refine eW rfl ?_ (mU hpd) (λl=>by simp);show yB (iW [#[l],some m] S)=_;unfold iW lP;simp? [hi,lM,show xs.length<1000000 by omega];rw[show uW 1 [0] [#[l],some m]=[none,#[l]]from rfl,hc];simp? [dN];rfl
def HU{n:Nat}{F:List MV->Sto->R Er}{rs:List Er}{S T:Sto}{ds:Za}(hn:rs.length=n)(hF:F (zD rs S).1 (zD rs S).2=#[ds,S++T,2]): ∃T',zF n F rs S=#[ds,S++T',2]/\(T'=T\/T'=[]/\qU S.length ds):=by
 unfold zF;rw[iP hn,hF];show∃T',jQ S (.new ds) (S++T)=_/\_;unfold jQ;rw[iP pZ];dsimp only;split
 .rename_i h;exact⟨[],by rw[aN,List.take_left'];rfl,.inr ⟨rfl,h⟩⟩
 .exact⟨T,rfl,.inl rfl⟩
def FtO(Z:Sto)(n:Nat)(mk:Int):List MV->List (Option Ev)->Prop
 |[],[]=>True
 |w::ws,some G::gs=>(∃e,w=.tup [.loc e,.int mk]/\n<=e/\Z[e]? =#[G,7])/\FtO Z n mk ws gs
 |w::ws,none::gs=>w=.tup [.non,.int mk]/\FtO Z n mk ws gs
 |_,_=>False
theorem FtO.grow{Z T:Sto}{n:Nat}{mk:Int}: ∀{ws:Za}{gs:List (Option Ev)},FtO Z n mk ws gs->FtO (Z++T) n mk ws gs
 |[],[],_=>trivial
 |w::ws,some G::gs,h=>⟨let ⟨e,a,b,c⟩:=h.1;⟨e,a,b,by rw[getElem?_append_left (gS.mp c).1];exact c⟩,FtO.grow h.2⟩
 |w::ws,none::gs,h=>⟨h.1,FtO.grow h.2⟩
 |[],_::_,h=>h.elim
 |_::_,[],h=>h.elim
def Fts(Z:Sto)(n:Nat)(mk:Int):List MV->List Ev->Prop
 |[],[]=>True
 |w::ws,G::gs=>(∃e,w=.tup [.loc e,.int mk]/\n<=e/\Z[e]? =#[G,7])/\Fts Z n mk ws gs
 |_,_=>False
theorem Fts.grow{Z T:Sto}{n:Nat}{mk:Int}: ∀{ws:Za}{gs:List Ev},Fts Z n mk ws gs->Fts (Z++T) n mk ws gs
 |[],[],_=>trivial
 |w::ws,G::gs,h=>⟨let ⟨e,a,b,c⟩:=h.1;⟨e,a,b,by rw[getElem?_append_left (gS.mp c).1];exact c⟩,Fts.grow h.2⟩
 |[],_::_,h=>h.elim
 |_::_,[],h=>h.elim
def Fts.len{Z:Sto}{n:Nat}{mk:Int}: ∀{ws:Za}{gs:List Ev},Fts Z n mk ws gs->ws.length=gs.length
 |[],[],_=>rfl
 |_::_,_::_,h=>by rw[lC,lC,h.2.len]
 |[],_::_,h=>h.elim
 |_::_,[],h=>h.elim
def Fts.cut{Z Z':Sto}{n m:Nat}{mk:Int}{ws:Za}{gs:List Ev}(h:Fts Z n mk ws gs)(l:qU m ws)(hmn:m<=n):Fts Z' n mk ws gs:=by
 cases ws with
 |nil=>cases gs with
  |nil=>trivial
  |cons G gs=>exact h.elim
 |cons w ws=>cases gs with
  |nil=>exact h.elim
  |cons G gs=>
   obtain⟨⟨e,rfl,h1,_⟩,_⟩:=h;unfold qU at l;have:=l.1;unfold lo qU at this;have:=this.1;unfold lo at this;omega
section
variable{lr lm n:Nat}{R0 M0:Za}{a:Rw}
theorem LE(ha:(∀d∈a.2,cL d)/\a.2.length<=4): ∀(rs:List Rw)(Z:Sto),Z[lr]? =#[R0,2]->Z[lm]? =#[M0,2]->n<=Z.length->(∀r∈rs, ∀c∈r.2,VS c)->
  ∃out T,yF (fG 2 (zA (zV 0) (zA (zV 1) zZ))) jY xD [none,none,some (zK a)] [(lr,R0),(lm,M0)] (pairs #[rs,9] (rs.map λ_=>.int 1)) Z=.ok out (Z++T)/\FtO (Z++T) n 1 out ((rs.filter λr=>decide (r.1=a.1)).map λr=>dO a.2 r.2 [])/\out.length<=rs.length
 |[],Z,_,_,_,_=>⟨[],[],by rw[aN];rfl,trivial,Nat.le_refl _⟩
 |r::rs,Z,h1,h2,h3,hv=>by
  have st: ∀{Z':Sto},Z'[lr]? =#[R0,2]->Z'[lm]? =#[M0,2]->stay [(lr,R0),(lm,M0)] Z':=λa b q hq=>by
   simp only[mC,nM,or_false]at hq;rcases hq with rfl|rfl
   .exact a
   .exact b
  have hg:fG 2 (zA (zV 0) (zA (zV 1) zZ)) (.tup [zK r,.int 1]) [none,none,some (zK a)] Z=.ok [some (zK r),#[1,0],some (zK a)] Z:=rfl;have i0: ∀(q:Rw) Y,lO (.val (zK q)) #[0,5] Y=.ok #[q.1,5] Y:=λ_ _=>rfl;have i1: ∀(q:Rw) Y,lO (.val (zK q)) #[1,5] Y=.ok #[q.2,6] Y:=λ_ _=>rfl;have hc:jY [some (zK r),#[1,0],some (zK a)] Z=.ok (decide (r.1=a.1)) Z:=by unfold jY;simp? [i0,eq_int]
  have hp:pairs ((r::rs).map zK) ((r::rs).map λ_=>MV.int 1)=.tup [zK r,.int 1]::pairs #[rs,9] (rs.map λ_=>.int 1):=rfl;by_cases e:r.1=a.1
  .have hf:=Wm (S:=Z) ha.1 (hv r mF0) (show a.2.length<900 by omega);rw[dT0 e]at hc
   cases z:dO a.2 r.2 []with
   |none=>
    rw[z]at hf;have he:xD [some (zK r),#[1,0],some (zK a)] Z=.ok #[[.non,.int 1],6] Z:=by unfold xD;simp? [i1,hf,tup2]
    obtain⟨out,T,g1,g2,g3⟩:=LE ha rs Z h1 h2 h3 λq hq=>hv q (mO _ hq);refine⟨.tup [.non,.int 1]::out,T,?_,?_,by rw[lC,lC];omega⟩
    .rw[hp];exact uE hg hc he (st h1 h2) g1
    .rw[List.filter_cons,iP (dT0 e),List.map_cons,z];exact⟨rfl,g2⟩
   |some G=>
    rw[z]at hf;dsimp only at hf;have up: ∀{l:Nat}{o:MO},Z[l]? =some o->(Z++[MO.dic G])[l]? =some o:=λh=>by rw[getElem?_append_left (gS.mp h).1];exact h
    have he:xD [some (zK r),#[1,0],some (zK a)] Z=.ok #[[.loc Z.length,.int 1],6] (Z++[.dic G]):=by unfold xD;simp? [i1,hf,tup2]
    obtain⟨out,T,g1,g2,g3⟩:=LE ha rs (Z++[.dic G]) (up h1) (up h2) (by rw[lA];omega) λq hq=>hv q (mO _ hq);refine⟨.tup [.loc Z.length,.int 1]::out,.dic G::T,?_,?_,by rw[lC,lC];omega⟩
    .rw[hp];rw[aA]at g1;exact uE hg hc he (st (up h1) (up h2)) g1
    .rw[List.filter_cons,iP (dT0 e),List.map_cons,z];rw[aA]at g2;exact⟨⟨Z.length,rfl,h3,by simp⟩,g2⟩
  .rw[dF0 e]at hc;obtain⟨out,T,g1,g2,g3⟩:=LE ha rs Z h1 h2 h3 λq hq=>hv q (mO _ hq);refine⟨out,T,?_,?_,by rw[lC];omega⟩
   .rw[hp];exact UA hg hc (st h1 h2) g1
   .rw[List.filter_cons,iN (by simpa using e)];exact g2
theorem RL{lf:Nat}{all:Za}{Z:Sto}(hl:Z[lf]? =#[all,2]): ∀(ws:Za)(gs:List (Option Ev)),FtO Z n 1 ws gs-> ∃out,yF (fG 2 (zA (zV 0) (zA (zV 1) zZ))) xE jZ [none,none] [(lf,all)] ws Z=.ok out Z/\Fts Z n 1 out (gs.filterMap id)
 |[],[],_=>⟨[],rfl,trivial⟩
 |w::ws,some G::gs,h=>by
  obtain⟨⟨e,rfl,h1,h2⟩,h3⟩:=h;obtain⟨out,g1,g2⟩:=RL hl ws gs h3;refine⟨.tup [.loc e,.int 1]::out,?_,⟨e,rfl,h1,h2⟩,g2⟩;have hc:xE [#[e],#[1,0]] Z=.ok true Z:=by unfold xE;simp? [show∀Y,GY #[e,1] (.val .non) Y=#[.bl true,Y,1] from λ_=>rfl]
  have he:jZ [#[e],#[1,0]] Z=.ok #[[.loc e,.int 1],6] Z:=by unfold jZ;simp? [tup2]
  exact uE rfl hc he (yT hl) g1
 |w::ws,none::gs,h=>by
  obtain⟨rfl,h3⟩:=h;obtain⟨out,g1,g2⟩:=RL hl ws gs h3;refine⟨out,?_,g2⟩;have hc:xE [some .non,#[1,0]] Z=.ok false Z:=by unfold xE;simp? [show∀Y,GY (.val .non) (.val .non) Y=#[.bl false,Y,1] from λ_=>rfl]
  exact UA rfl hc (yT hl) g1
 |[],_::_,h=>h.elim
 |_::_,[],h=>h.elim
end
def gF(rows:List Rw)(a:Rw):List Ev:=(rows.filter λr=>decide (r.1=a.1)).filterMap λr=>dO a.2 r.2 []
def Wp{S:Sto}{lr lm:Nat}{rows:List Rw}{a:Rw}(hr:S[lr]? =#[rows.map zK,2])(hm:S[lm]? =some (.lst (rows.map λ_=>.int 1)))(hv: ∀r∈rows, ∀c∈r.2,VS c)(hrl:rows.length<=1000)(ha:(∀d∈a.2,cL d)/\a.2.length<=4):
  ∃T ws,zF 3 mQ [#[lr,1],#[lm,1],.val (zK a)] S=#[ws,S++T,2]/\Fts (S++T) S.length 1 ws (gF rows a):=by
 obtain⟨out,T,g1,g2,g3⟩:=LE (n:=S.length) ha rows S hr hm q9 hv;have hit:ZR [#[lr,1],#[lm,1]] S=.ok ⟨pairs #[rows,9] (rows.map λ_=>.int 1),[(lr,rows.map zK),(lm,rows.map λ_=>.int 1)]⟩ S:=by unfold ZR srcOf;dsimp only;rw[hr,hm];rfl
 have hpl: ∀(rs:List Rw),(pairs #[rs,9] (rs.map λ_=>MV.int 1)).length=rs.length:=λrs=>by
  induction rs with
  |nil=>rfl
  |cons r rs ih=>show(pairs #[rs,9] (rs.map λ_=>MV.int 1)).length+1=_;rw[ih];rfl
 have e1:iU [#[lr],#[lm],some (zK a),none] S=#[[#[lr],#[lm],some (zK a),#[(S++T).length]],S++T++[.lst out],0]:=by unfold iU;simp? [hit,hpl,show rows.length<1000000 by omega];rw[show uW 2 [2] [#[lr],#[lm],some (zK a),none]=[none,none,some (zK a)]from rfl,g1];simp? []
 have hl:=zT (S++T) (.lst out);obtain⟨ws,w1,w2⟩:=RL hl out _ (FtO.grow (T:=[.lst out]) g2);have e2:iV [#[lr],#[lm],some (zK a),#[(S++T).length]] (S++T++[.lst out])=.ok (.ret (.new ws)) (S++T++[.lst out]):=by unfold iV;simp? [xZ hl,show out.length<1000000 by omega];rw[show uW 2 [] [#[lr],#[lm],some (zK a),#[(S++T).length]]=[none,none]from rfl,w1];simp? []
 have hgs:((rows.filter λr=>decide (r.1=a.1)).map λr=>dO a.2 r.2 []).filterMap id=gF rows a:=by unfold gF;rw[filterMap_map];rfl
 rw[hgs]at w2;obtain⟨T',c1,c2⟩:=HU (n:=3) (F:=mQ) (rs:=[#[lr,1],#[lm,1],.val (zK a)]) (S:=S) (T:=T++[.lst out]) (ds:=ws) rfl (by show yB (qY [#[lr],#[lm],some (zK a),none] S)=_;unfold qY;rw[zC e1,e2,aA];rfl);refine⟨T',ws,c1,?_⟩;rcases c2 with rfl|⟨rfl,hlo⟩
 .rw[<-aA];exact w2
 .exact w2.cut hlo q9
mutual
theorem UG: ∀{d:MV},pd d=true-> ∃nk,xC d=some nk/\fB nk<=uY d
 |.int i,_=>⟨_,fI i,by rw[fB];exact zero_le _⟩
 |.str x,_=>⟨_,fM x,by rw[fB];exact zero_le _⟩
 |.tup ds,h=>by obtain⟨ks,h1,h2⟩:=OP (by rw[<-jU];exact h:LY ds=true);exact⟨.tup ks,by rw[fN,h1];rfl,by rw[fC,gV];omega⟩
 |.non,h=>by rw[pd]at h<;>first |cases h|(intros;simp)
 |.bl _,h=>by rw[pd]at h<;>first |cases h|(intros;simp)
 |.scr _,h=>by rw[pd]at h<;>first |cases h|(intros;simp)
 |.loc _,h=>by rw[pd]at h<;>first |cases h|(intros;simp)
 |.typ _,h=>by rw[pd]at h<;>first |cases h|(intros;simp)
 |.obj _ _ _,h=>by rw[pd]at h<;>first |cases h|(intros;simp)
theorem OP: ∀{ds:Za},LY ds=true-> ∃ks,jP ds=some ks/\rO ks<=rM ds
 |[],_=>⟨[],qW,by rw[rO];exact zero_le _⟩
 |d::ds,h=>by rw[yL,aE]at h;obtain⟨k,h1,h2⟩:=UG h.1;obtain⟨ks,h3,h4⟩:=OP h.2;exact⟨k::ks,by rw[fO,h1,h3];rfl,by rw[sO,yH];omega⟩
end
theorem EW{k:Za}(h: ∀d∈k,VS d):keyOk (.tup k)=true:=by
 have h1:pd (.tup k)=true:=by rw[jU];exact lI λd hd=>(qM (h d hd)).1
 have h2:rM k<=0:=uD λc hc=>by rcases h c hc with⟨i,rfl⟩|⟨i,rfl⟩;exact le_of_eq (oX _);exact le_of_eq (eQ _)
 obtain⟨nk,h3,h4⟩:=UG h1;rw[gV]at h4;unfold keyOk;rw[h3];show(sQ (.tup k)&&decide (fB nk<=4))=true;rw[dT0 (show fB nk<=4 by omega)];rfl
def kd(P:Zg):Ev:=P.map λk=>(.tup k,.int 1)
open Classical in
def LF(P:Zg)(k:Za):List (List MV):=if k∈P then P else P++[k]
def Jp(P:Zg)(k j:Za):j∈LF P k↔j∈P\/j=k:=by
 unfold LF;split
 .rename_i h;exact⟨.inl,λz=>z.elim id λe=>e▸h⟩
 .rw[List.mem_append,mS]
def Rp{P:Zg}(h:P.Nodup)(k:Za):(LF P k).Nodup:=by
 unfold LF;split
 .exact h
 .rename_i hx;exact nodup_append.mpr ⟨h,by simp,λa ha b hb=>by rw[mS.mp hb];rintro rfl;exact hx ha⟩
def LG(P:Zg)(k:Za):(LF P k).length<=P.length+1:=by
 unfold LF;split
 .omega
 .rw[lA,lS];omega
def UH(P:Zg)(k:Za):look (kd P) (.tup k)=if k∈P then #[1,0]else none:=by
 induction P with
 |nil=>rfl
 |cons j P ih=>
  show look ((.tup j,.int 1)::kd P) _=_;rw[yY,ih];by_cases e:j=k
  .subst e;rw[iP rfl,iP mF0]
  .rw[iN (λz=>e (MV.tup.inj z))];by_cases h:k∈P
   .rw[iP h,iP (mO _ h)]
   .rw[iN h,iN λz=>(mC.mp z).elim (λz=>e z.symm) h]
theorem Rq(P:Zg)(k:Za):putK (kd P) (.tup k) (.int 1)=kd (LF P k):=by
 unfold putK LF;rw[UH];by_cases h:k∈P
 .rw[iP h,iP (show(some (MV.int 1)).isSome=true from rfl),iP h];unfold kd;rw[List.map_map];refine map_congr_left λj _=>?_;show(if MV.tup j=.tup k then(MV.tup j,MV.int 1)else(.tup j,.int 1))=_;split<;>rfl
 .rw[iN h,iN (show¬(none:Zb).isSome=true from xF0),iN h];unfold kd;rw[List.map_append];rfl
theorem Ca{S:Sto}{l:Nat}{P:Zg}(h:S[l]? =#[kd P,7]):bP S #[l,1]=some (l,kd P):=by unfold bP;dsimp only;rw[h];dsimp only;rw[iP];rw[List.all_eq_true];intro p hp;obtain⟨r,hr,rfl⟩:=mM.mp hp;rfl
def yM(xs:Ch)(G:Ev):List MV:=xs.map (cN G)
def UI(xs:Ch)(Gs:List Ev)(P:Zg):List (List MV):=Gs.foldl (λP G=>LF P (yM xs G)) P
def Has(xs:Ch)(G:Ev):Prop:=qN G/\ ∀x∈xs,look G (.str x)≠none
def Has.vs{xs:Ch}{G:Ev}(h:Has xs G): ∀d∈yM xs G,VS d:=λd hd=>by
 obtain⟨x,hx,rfl⟩:=mM.mp hd
 cases z:look G (.str x)with
 |none=>exact absurd z (h.2 x hx)
 |some c=>rw[bG z];exact CQ h.1 z
abbrev CU(lf:Nat)(m:MV)(n:Nat)(a b c:Zb):Rho:=[#[lf],some m,#[n],a,b,c]
section
variable{B:Sto}{lf n0:Nat}{m:MV}{all:Za}{xs:Ch}
theorem UJ(hf:B[lf]? =#[all,2])(hm:SqM B m #[xs,8])(hx:xs.length<1000): ∀(ws:Za)(Gs:List Ev)(P:Zg)(a b c:Zb),Fts B n0 1 ws Gs->(∀G∈Gs,Has xs G)->P.length+Gs.length<100000->
  ∃a' b' c',xG (fG 2 (zA (zV 3) (zA (zV 4) zZ))) CD [(lf,all)] ws (CU lf m B.length a b c) (B++[.dic (kd P)])=#[CU lf m B.length a' b' c',B++[.dic (kd (UI xs Gs P))],0]
 |[],[],P,a,b,c,_,_,_=>⟨a,b,c,rfl⟩
 |w::ws,G::Gs,P,a,b,c,hF,hG,hl=>by
  rw[lC]at hl;obtain⟨⟨e,rfl,_,he⟩,hF⟩:=hF;have hH:=hG G mF0;obtain⟨Z,hZ⟩: ∃Z,Z=B++[MO.dic (kd P)]:=⟨_,rfl⟩
  have up: ∀{l:Nat}{o:MO},B[l]? =some o->Z[l]? =some o:=λh=>by rw[hZ,getElem?_append_left (gS.mp h).1];exact h
  have hd:Z[B.length]? =#[kd P,7]:=by rw[hZ];exact zT _ _
  have hva:=UF (S:=Z) (m:=m) (up he) hH.1 (by rw[hZ];exact hm.app) hH.2 hx;have hdc:=Ca hd
  have hgd:uA #[B.length,1] [#[yM xs G,6],#[0,5]] Z=.ok #[if yM xs G∈P then 1 else 0,5] Z:=by
   unfold uA;dsimp only;rw[hdc];dsimp only;rw[iP (EW hH.vs),UH];by_cases h:yM xs G∈P
   .rw[iP h,iP h]
   .rw[iN h,iN h]
  have hbo: ∀Y,Qy #[if yM xs G∈P then 1 else 0,5] #[1,5] Y=.ok #[1,5] Y:=λY=>by split<;>rfl
  have hst: ∀ρ,HD #[B.length,1] #[yM xs G,6] (.int 1) ρ Z=.ok ρ (B++[.dic (kd (LF P (yM xs G)))]):=λρ=>by unfold HD;dsimp only;rw[hdc];dsimp only;rw[iP ⟨EW hH.vs,by unfold kd;rw[lM];omega⟩,Rq,hZ,gD]
  have hid:qB #[B.length,1] Z=true:=by unfold qB;rw[hdc];rfl
  have e1:qZ (CU lf m B.length #[e] #[1,0] c) Z=#[CU lf m B.length #[e] #[1,0] #[yM xs G,3],Z,0]:=by unfold qZ;simp? [hva];rfl
  have e2:rA (CU lf m B.length #[e] #[1,0] #[yM xs G,3]) Z=#[CU lf m B.length #[e] #[1,0] #[yM xs G,3],B++[.dic (kd (LF P (yM xs G)))],0]:=by unfold rA;simp? [hid,hgd,hbo,CL,hst]
  have hln:=LG P (yM xs G);obtain⟨a',b',c',ih⟩:=UJ hf hm hx ws Gs (LF P (yM xs G)) #[e] #[1,0] #[yM xs G,3] hF (λK hK=>hG K (mO _ hK)) #[];refine⟨a',b',c',?_⟩;rw[<-hZ,zX (show fG 2 (zA (zV 3) (zA (zV 4) zZ)) (.tup [.loc e,.int 1]) (CU lf m B.length a b c) Z=.ok (CU lf m B.length #[e] #[1,0] c) Z from rfl) (by unfold CD;rw[zC e1,e2]) (yT (by rw[getElem?_append_left (gS.mp hf).1];exact hf))];exact ih
 |[],_::_,_,_,_,_,h,_,_=>h.elim
 |_::_,[],_,_,_,_,h,_,_=>h.elim
end
def wW(xs:Ch)(k:Za):Ev:=(xs.map MV.str).zip k
theorem OQ: ∀(ps acc:Ev),((acc++ps).map (·.1)).Nodup->ps.foldl (λacc p=>putK acc p.1 p.2) acc=acc++ps
 |[],acc,_=>by rw[aN];rfl
 |p::ps,acc,h=>by
  have hn:look acc p.1=none:=by
   cases z:look acc p.1 with
   |none=>rfl
   |some d=>
    obtain⟨q,hq,e⟩:=Bw z;rw[List.map_append,nodup_append]at h;exact absurd e (h.2.2 q.1 (mem_map_of_mem hq) p.1 (by rw[List.map_cons];exact mF0))
  rw[List.foldl_cons,EU hn,OQ ps (acc++[(p.1,p.2)]) (by rw[aA];exact h),aA];rfl
def Rr{xs:Ch}(h:xs.Nodup): ∀k:List MV,((wW xs k).map (·.1)).Nodup:=λk=>by
 unfold wW;have hn:(xs.map MV.str).Nodup:=by unfold List.Nodup at h ⊢;rw[pairwise_map];exact h.imp λne e=>ne (MV.str.inj e)
 have: ∀(as bs:Za),as.Nodup->((as.zip bs).map (·.1)).Nodup:=λas=>by
  induction as with
  |nil=>intro bs _;simp
  |cons a as ih=>
   intro bs hn
   cases bs with
   |nil=>simp
   |cons b bs=>
    rw[nodup_cons]at hn;rw[zip_cons_cons,List.map_cons,nodup_cons];refine⟨λz=>hn.1 ?_,ih bs hn.2⟩;obtain⟨p,hp,e⟩:=mM.mp z;have:=(of_mem_zip (show(p.1,p.2)∈as.zip bs from hp)).1;rw[e]at this;exact this
 exact this _ k hn
def Wq{Z:Sto}{m:MV}{xs:Ch}{k:Za}(hm:SqM Z m #[xs,8])(hn:xs.Nodup):Sm [.val m,#[k,6]] Z=.ok #[Z.length,1] (Z++[.dic (wW xs k)]):=by
 have hk:(xs.map MV.str).all sV=true:=by rw[List.all_eq_true];intro d hd;obtain⟨x,_,rfl⟩:=mM.mp hd;rfl
 have hfo:NN ((xs.map MV.str).zip k)=wW xs k:=by have:=OQ (wW xs k) [] (by rw[List.nil_append];exact Rr hn k);rw[List.nil_append]at this;exact this
 unfold Sm;rcases hm with rfl|⟨l,rfl,hl⟩
 .show(if(xs.map MV.str).all sV=true then R.ok (Er.val (.loc Z.length)) (Z++[MO.dic (NN ((xs.map MV.str).zip k))])else .no)=_;rw[iP hk,hfo]
 .have e:srcOf Z #[l,1]=some ⟨true,xs.map MV.str,[(l,xs.map MV.str)]⟩:=by unfold srcOf;dsimp only;rw[hl]
  dsimp only;rw[e];show(if(xs.map MV.str).all sV=true then R.ok (Er.val (.loc Z.length)) (Z++[MO.dic (NN ((xs.map MV.str).zip k))])else .no)=_;rw[iP hk,hfo]
theorem OR{m:MV}{xs:Ch}{n:Nat}(hn:xs.Nodup): ∀(P:Zg)(Z:Sto),SqM Z m #[xs,8]->n<=Z.length-> ∃out T,yF (fG 2 (zA (zV 0) (zA (zV 1) zZ))) vW mR [none,none,some m] [] ((kd P).map λkv=>.tup [kv.1,kv.2]) Z=.ok out (Z++T)/\Fts (Z++T) n 1 out (P.map (wW xs))
 |[],Z,_,_=>⟨[],[],by rw[aN];rfl,trivial⟩
 |k::P,Z,hm,hl=>by
  have he:mR [#[k,3],#[1,0],some m] Z=.ok #[[.loc Z.length,.int 1],6] (Z++[.dic (wW xs k)]):=by unfold mR;simp? [Wq hm hn,tup2]
  obtain⟨out,T,g1,g2⟩:=OR (n:=n) hn P (Z++[.dic (wW xs k)]) hm.app (by rw[lA];omega);refine⟨.tup [.loc Z.length,.int 1]::out,.dic (wW xs k)::T,?_,⟨Z.length,rfl,hl,by simp⟩,by rw[aA]at g2;exact g2⟩;rw[aA]at g1;exact uE (y:=.tup [.loc Z.length,.int 1]) rfl rfl he (bO _) g1
def oZ(xs:Ch)(Gs:List Ev):List Ev:=(UI xs Gs []).map (wW xs)
theorem Wr{B:Sto}{lf n0:Nat}{m:MV}{ws:Za}{xs:Ch}{Gs:List Ev}(hf:B[lf]? =#[ws,2])(hm:SqM B m #[xs,8])(hx:xs.length<1000)(hn:xs.Nodup)(hF:Fts B n0 1 ws Gs)(hG: ∀G∈Gs,Has xs G)(hl:Gs.length<10000):
  ∃out T,EF [.loc lf,m] B=#[out,B++T,2]/\Fts (B++T) B.length 1 out (oZ xs Gs):=by
 have e1:CF [#[lf],some m,none,none,none,none] B=#[CU lf m B.length none none none,B++[.dic (kd [])],0]:=by unfold CF;simp? [AK];rfl
 obtain⟨a,b,c,h⟩:=UJ hf hm hx ws Gs [] none none none hF hG (by simp only[List.length_nil];omega);have hf':(B++[MO.dic (kd [])])[lf]? =#[ws,2]:=by rw[getElem?_append_left (gS.mp hf).1];exact hf
 have e2:CG (CU lf m B.length none none none) (B++[.dic (kd [])])=#[CU lf m B.length a b c,B++[.dic (kd (UI xs Gs []))],0]:=by unfold CG;simp? [xZ hf'];exact h
 obtain⟨P,hP⟩: ∃P,P=UI xs Gs []:=⟨_,rfl⟩
 rw[<-hP]at e2
 have hPl:P.length<=Gs.length:=by
  rw[hP]
  have: ∀(Gs:List Ev)(P:Zg),(UI xs Gs P).length<=P.length+Gs.length:=λGs=>by
   induction Gs with
   |nil=>intro P;exact Nat.le_refl _
   |cons G Gs ih=>
    intro P;have h1:=ih (LF P (yM xs G));have h2:=LG P (yM xs G);show(UI xs Gs (LF P (yM xs G))).length<=_;rw[lC];omega
  have:=this Gs [];rw[List.length_nil]at this;omega
 have hits:WP #[B.length,1] (B++[.dic (kd P)])=.ok ⟨(kd P).map λkv=>.tup [kv.1,kv.2],[]⟩ (B++[.fdc (kd P)]):=by unfold WP;rw[Ca (zT B (.dic (kd P)))];dsimp only;rw[gD]
 obtain⟨out,T,g1,g2⟩:=OR (m:=m) (n:=B.length) hn P (B++[.fdc (kd P)]) hm.app (by simp);refine⟨out,.fdc (kd P)::T,?_,by rw[oZ, <-hP];rw[aA]at g2;exact g2⟩;have e3:CK (CU lf m B.length a b c) (B++[.dic (kd P)])=.ok (.ret (.new out)) (B++.fdc (kd P)::T):=by unfold CK;simp? [hits,lM,show(kd P).length<1000000 by unfold kd;rw[lM];omega];rw[show uW 2 [1] (CU lf m B.length a b c)=[none,none,some m]from rfl,g1];simp? [];rw[aA];rfl
 show yB (TN [#[lf],some m,none,none,none,none] B)=_;unfold TN;rw[zC e1,zC e2,e3];rfl
def Rt{S:Sto}{l m:Nat}{E F:Ev}(h:S[l]? =#[E,7])(hE:qN E)(h':S[m]? =#[F,7])(hF:qN F)(hne:l≠m)(hz:E.length+F.length<1000000):EE #[l,1] [#[m,1]] S=#[.non,S.set l (.dic (xV E F)),1]:=by unfold EE;dsimp only;rw[AU h hE,AU h' hF];dsimp only;rw[iP ⟨hne,hz⟩]
abbrev OD:=MV×Ev
open Classical in
def RM(xs:Ch)(Ds:List OD)(k:Za):List OD:=Ds.filter λD=>decide (yM xs D.2=k)
def mY(xs:Ch)(Ds:List OD)(D:OD)(k:Za):RM xs (Ds++[D]) k=if yM xs D.2=k then RM xs Ds k++[D]else RM xs Ds k:=by
 unfold RM;rw[List.filter_append,List.filter_cons];by_cases e:yM xs D.2=k
 .rw[iP (dT0 e),iP e];rfl
 .rw[iN (by simpa using e),iN e,List.filter_nil,aN]
structure JI(B:Sto)(xs:Ch)(Ds:List OD)(bd:Ev)(Z:Sto):Prop where
 ex: ∃T,Z=B++.dic bd::T
 at': ∀k d,look bd (.tup k)=some d-> ∃l,d=.loc l/\B.length<l/\Z[l]? =#[(RM xs Ds k).map (·.1),2]
 no: ∀k,look bd (.tup k)=none->RM xs Ds k=[]
 inj: ∀k k' l,look bd (.tup k)=#[l]->look bd (.tup k')=#[l]->k=k'
 tk:bd.all (λp=>sQ p.1)=true
 ln:bd.length<=Ds.length
section
variable{B Z:Sto}{xs:Ch}{Ds:List OD}{bd:Ev}
def JI.dic(J:JI B xs Ds bd Z):bP Z #[B.length,1]=some (B.length,bd):=by obtain⟨T,rfl⟩:=J.ex;unfold bP;dsimp only;rw[dH];dsimp only;rw[iP J.tk]
def JI.old(J:JI B xs Ds bd Z){l:Nat}{o:MO}(h:B[l]? =some o):Z[l]? =some o:=by obtain⟨T,rfl⟩:=J.ex;rw[getElem?_append_left (gS.mp h).1];exact h
def JI.put(J:JI B xs Ds bd Z)(D:OD)(hk: ∀d∈yM xs D.2,VS d)(hl:Ds.length<10000):
  ∃bd' Z' l Z1 ds,Sl #[B.length,1] [#[yM xs D.2,6],.new []] Z=.ok #[l,1] Z1/\Z1[l]? =#[ds,2]/\ds.length<=Ds.length/\Z1.set l (.lst (ds++[D.1]))=Z'/\JI B xs (Ds++[D]) bd' Z':=by
 obtain⟨k,hke⟩: ∃k,k=yM xs D.2:=⟨_,rfl⟩
 have hkk:keyOk (.tup k)=true:=by rw[hke];exact EW hk
 have J0:=J;obtain⟨T,hT⟩:=J.ex;have hen:wV (.new []) Z=.ok (.loc Z.length) (Z++[.lst []]):=rfl;have hdc:bP (Z++[.lst []]) #[B.length,1]=some (B.length,bd):=by unfold bP;dsimp only;rw[hT,aA,List.cons_append,dH];dsimp only;rw[iP J.tk]
 have hln:=J.ln;have hsd:Sl #[B.length,1] [#[k,6],.new []] Z=match look bd (.tup k)with |some d=>#[d,Z++[.lst []],1]|none=>.ok #[Z.length,1] ((Z++[MO.lst []]).set B.length (.dic (putK bd (.tup k) (.loc Z.length)))):=by unfold Sl;dsimp only;rw[hen,jS];unfold Vk;rw[hdc];dsimp only;refine(iP ⟨hkk,by omega⟩).trans ?_;cases look bd (.tup k)<;>rfl
 have hlt: ∀{j:Nat}{o:MO},Z[j]? =some o->j<Z.length:=λh=>(gS.mp h).1;have hbs: ∀j,(RM xs Ds j).length<=Ds.length:=λj=>List.length_filter_le _ _;rw[<-hke]
 cases z:look bd (.tup k)with
 |some d=>
  rw[z]at hsd;obtain⟨l,rfl,h1,h2⟩:=J.at' k d z;have hll:=hlt h2;refine⟨bd,_,l,Z++[.lst []],(RM xs Ds k).map (·.1),hsd,by rw[getElem?_append_left hll];exact h2,by rw[lM];exact hbs k,rfl,?_,λj d hj=>?_,λj hj=>?_,J.inj,J.tk,by rw[lA];omega⟩
  .refine⟨(T++[MO.lst []]).set (l - B.length - 1) (.lst ((RM xs Ds k).map (·.1)++[D.1])),?_⟩;rw[hT,aA,set_append_right _ _ #[],List.cons_append,show l - B.length=(l - B.length - 1)+1 by omega,set_cons_succ];rfl
  .obtain⟨l',rfl,g1,g2⟩:=J.at' j d hj;refine⟨l',rfl,g1,?_⟩;by_cases e:j=k
   .subst e;rw[z]at hj;cases hj;rw[get_set (show(Z++[MO.lst []])[l]? =some _ by rw[getElem?_append_left hll];exact h2),mY,iP hke.symm,List.map_append];rfl
   .have hne:l≠l':=λq=>e (J.inj j k l' hj (q▸z));rw[sX hne,getElem?_append_left (hlt g2),g2,mY,iN (λq=>e (q.symm.trans hke.symm))]
  .rw[mY,iN (λq=>by rw[<-hke]at q;rw[<-q,z]at hj;cases hj)];exact J.no j hj
 |none=>
  rw[z]at hsd;dsimp only at hsd;have hput:putK bd (.tup k) (.loc Z.length)=bd++[(.tup k,.loc Z.length)]:=EU z;have hZB:B.length<Z.length:=by rw[hT];simp
  have hZ1: ∀q,(Z++[MO.lst []]).set B.length q=B++q::(T++[MO.lst []]):=λq=>by rw[hT,aA,List.cons_append,set_append_right _ _ q9,sub_self];rfl
  rw[hput,hZ1]at hsd;have hTl:Z.length=B.length+(T.length+1):=by rw[hT,lA,lC]
  have hat:(B++MO.dic (bd++[(.tup k,.loc Z.length)])::(T++[.lst []]))[Z.length]? =#[[],2]:=by rw[hTl,getElem?_append_right #[],show B.length+(T.length+1) - B.length=T.length+1 by omega,getElem?_cons_succ,zT]
  have hset:(B++MO.dic (bd++[(.tup k,.loc Z.length)])::(T++[.lst []])).set Z.length (.lst ([]++[D.1]))=B++.dic (bd++[(.tup k,.loc Z.length)])::(T++[.lst [D.1]]):=by rw[hTl,set_append_right _ _ #[],show B.length+(T.length+1) - B.length=T.length+1 by omega,set_cons_succ,gD];rfl
  have hlk: ∀j,look (bd++[(MV.tup k,MV.loc Z.length)]) (.tup j)=(look bd (.tup j)).or (if k=j then #[Z.length]else none):=λj=>by
   rw[eZ];congr 1;by_cases e:k=j
   .rw[iP e,iP (by rw[e])]
   .rw[iN e,iN λq=>e (MV.tup.inj q)]
  have hold: ∀{j:Nat}{o:MO},Z[j]? =some o->B.length<j->(B++MO.dic (bd++[(.tup k,.loc Z.length)])::(T++[.lst [D.1]]))[j]? =some o:=λ{j o} h hj=>by have:=hlt h;rw[hT,getElem?_append_right #[],show j - B.length=(j - B.length - 1)+1 by omega,getElem?_cons_succ]at h;rw[getElem?_append_right #[],show j - B.length=(j - B.length - 1)+1 by omega,getElem?_cons_succ,getElem?_append_left (gS.mp h).1];exact h
  refine⟨bd++[(.tup k,.loc Z.length)],_,Z.length,_,[],hsd,hat,zero_le _,hset,⟨_,rfl⟩,λj d hj=>?_,λj hj=>?_,λj j' l h1 h2=>?_,by rw[List.all_append,J.tk];rfl,by rw[lA,lA];simp;omega⟩
  .rw[hlk]at hj
   cases zj:look bd (.tup j)with
   |some d'=>
    rw[zj]at hj;cases hj;obtain⟨l',rfl,g1,g2⟩:=J.at' j _ zj;have hjk: ¬k=j:=λq=>by rw[q,zj]at z;cases z
    refine⟨l',rfl,g1,?_⟩;rw[hold g2 g1,mY,iN (by rw[<-hke];exact hjk)]
   |none=>
    rw[zj,Option.none_or]at hj;by_cases e:k=j
    .rw[iP e]at hj;cases hj;refine⟨Z.length,rfl,hZB,?_⟩;rw[mY,iP (by rw[<-hke];exact e),J.no j zj,hTl,getElem?_append_right #[],show B.length+(T.length+1) - B.length=T.length+1 by omega,getElem?_cons_succ,zT];rfl
    .rw[iN e]at hj;cases hj
  .rw[hlk]at hj;rw[mY, <-hke,iN (λe=>by grind)];exact J.no j (by grind)
  .rw[hlk]at h1 h2;have lt: ∀{i:Za},look bd (.tup i)=#[l]->l<Z.length:=λh=>by obtain⟨l',e,g1,g2⟩:=J.at' _ _ h;cases e;exact hlt g2
   have:=J.inj j j' l;have:=@lt j;have:=@lt j';clear lt hlt J J0 hk hkk hat hset hold hsd hZ1 hlk hbs
   grind
end
theorem Fts.move{Z Z':Sto}{n:Nat}{mk:Int}(k: ∀(e:Nat)(G:Ev),Z[e]? =some (MO.dic G)->Z'[e]? =some (MO.dic G)): ∀{ws:Za}{gs:List Ev},Fts Z n mk ws gs->Fts Z' n mk ws gs
 |[],[],_=>trivial
 |w::ws,G::gs,h=>⟨let ⟨e,a,b,c⟩:=h.1;⟨e,a,b,k e G c⟩,Fts.move k h.2⟩
 |[],_::_,h=>h.elim
 |_::_,[],h=>h.elim
theorem Fts.snoc{Z:Sto}{n:Nat}{mk:Int}{e:Nat}{G:Ev}(h1:n<=e)(h2:Z[e]? =#[G,7]): ∀{ws:Za}{gs:List Ev},Fts Z n mk ws gs->Fts Z n mk (ws++[.tup [.loc e,.int mk]]) (gs++[G])
 |[],[],_=>⟨⟨e,rfl,h1,h2⟩,trivial⟩
 |w::ws,G::gs,h=>⟨h.1,Fts.snoc h1 h2 h.2⟩
 |[],_::_,h=>h.elim
 |_::_,[],h=>h.elim
abbrev uZ(lf lo':Nat)(m:MV)(n:Nat)(a b:Zb)(t v k c:Zb):Rho:=[#[lf],#[lo'],some m,#[n],a,b,t,v,k,c]
section
variable{B:Sto}{lf lo' n0:Nat}{m:MV}{all:Za}{xs:Ch}
theorem Cb(ho:B[lo']? =#[all,2])(hm:SqM B m #[xs,8])(hx:xs.length<1000): ∀(ws:Za)(Ms:List Ev)(Ds:List OD)(bd:Ev)(Z:Sto)(a b:Zb),Fts B n0 1 ws Ms->(∀M∈Ms,Has xs M)->JI B xs Ds bd Z->Ds.length+Ms.length<10000->
  ∃bd' Z' a' b',JI B xs (Ds++ws.zip Ms) bd' Z'/\xG (fG 2 (zA (zV 4) (zA (zV 5) zZ))) fV [(lo',all)] ws (uZ lf lo' m B.length a b none none none none) Z=#[uZ lf lo' m B.length a' b' none none none none,Z',0]
 |[],[],Ds,bd,Z,a,b,_,_,J,_=>⟨bd,Z,a,b,by rw[zip_nil_left,aN];exact J,rfl⟩
 |w::ws,M::Ms,Ds,bd,Z,a,b,hF,hM,J,hl=>by
  rw[lC]at hl;obtain⟨⟨e,rfl,_,he⟩,hF⟩:=hF;have hH:=hM M mF0
  have hmZ:SqM Z m #[xs,8]:=by
   rcases hm with h|⟨l,h,h'⟩
   .exact .inl h
   .exact .inr ⟨l,h,J.old h'⟩
  have hva:=UF (S:=Z) (m:=m) (J.old he) hH.1 hmZ hH.2 hx;obtain⟨bd',Z',l,Z1,ds,p1,p2,p3,p4,J'⟩:=J.put (.tup [.loc e,.int 1],M) hH.vs #[];have hid:qB #[B.length,1] Z=true:=by unfold qB;rw[J.dic];rfl
  have hva':zF 2 yE [#[e,1],.val m] Z=.ok #[yM xs M,6] Z:=hva;have hb:fV (uZ lf lo' m B.length #[e] #[1,0] none none none none) Z=#[uZ lf lo' m B.length #[e] #[1,0] none none none none,Z',0]:=by unfold fV oN;simp? [hid,hva',p1,yV p2,tup2,wL p2 (show ds.length<1000000 by omega)];rw[p4]
  obtain⟨bd2,Z2,a2,b2,J2,e2⟩:=Cb ho hm hx ws Ms (Ds++[(.tup [.loc e,.int 1],M)]) bd' Z' #[e] #[1,0] hF (λK hK=>hM K (mO _ hK)) J' (by rw[lA,lS];omega);refine⟨bd2,Z2,a2,b2,by rw[aA]at J2;exact J2,?_⟩;rw[zX (show fG 2 (zA (zV 4) (zA (zV 5) zZ)) (.tup [.loc e,.int 1]) (uZ lf lo' m B.length a b none none none none) Z=.ok (uZ lf lo' m B.length #[e] #[1,0] none none none none) Z from rfl) hb (yT (J'.old ho))];exact e2
 |[],_::_,_,_,_,_,_,h,_,_,_=>h.elim
 |_::_,[],_,_,_,_,_,h,_,_,_=>h.elim
end
section
variable{Z1:Sto}{lf lo' nb eG:Nat}{m:MV}{mg:Int}{G:Ev}
theorem Kv(hG:Z1[eG]? =#[G,7])(hGo:qN G)(hGl:G.length<=1000)(hband: ∀Y,AM #[mg,5] #[1,5] Y=.ok #[1,5] Y){gs:Zd}(hgs: ∀q∈gs,Z1[q.1]? =#[q.2,2]): ∀(ms:List OD)(ws:Za)(Es:List Ev)(T:Sto)(a b c:Zb),(∀D∈ms, ∃e,D.1=.tup [.loc e,.int 1]/\Z1[e]? =#[D.2,7]/\qN D.2/\D.2.length<=1000)->Fts (Z1++.lst ws::T) Z1.length 1 ws Es->ws.length+ms.length<100000->
  ∃ws' T' a' b' c',Fts (Z1++.lst ws'::T') Z1.length 1 ws' (Es++ms.map λD=>xV G D.2)/\ws'.length=ws.length+ms.length/\xG (fG 2 (zA (zV 4) (zA (zV 5) zZ))) fW gs (ms.map (·.1)) (uZ lf lo' m nb a b #[Z1.length] #[eG] #[mg,0] c) (Z1++.lst ws::T)=#[uZ lf lo' m nb a' b' #[Z1.length] #[eG] #[mg,0] c',(Z1++.lst ws'::T'),0]
 |[],ws,Es,T,a,b,c,_,hF,_=>⟨ws,T,a,b,c,by rw[List.map_nil,aN];exact hF,rfl,rfl⟩
 |D::ms,ws,Es,T,a,b,c,hD,hF,hl=>by
  rw[lC]at hl;obtain⟨e,he,hM,hMo,hMl⟩:=hD D mF0;obtain⟨Z,hZ⟩: ∃Z,Z=Z1++MO.lst ws::T:=⟨_,rfl⟩
  have up: ∀{U:Sto}{l:Nat}{o:MO},Z1[l]? =some o->(Z1++U)[l]? =some o:=λh=>by rw[getElem?_append_left (gS.mp h).1];exact h
  obtain⟨N,hN⟩: ∃N,N=Z.length:=⟨_,rfl⟩
  have hN':N=Z1.length+(T.length+1):=by rw[hN,hZ,lA,lC]
  have heN:N≠e:=by have:=(gS.mp hM).1;omega
  have hZa:Z++[MO.dic G]=Z1++.lst ws::(T++[.dic G]):=by rw[hZ,aA];rfl
  have haN: ∀(vs:Za)(E:Ev),(Z1++MO.lst vs::(T++[.dic E]))[N]? =#[E,7]:=λvs E=>by rw[hN',getElem?_append_right #[],show Z1.length+(T.length+1) - Z1.length=T.length+1 by omega,getElem?_cons_succ,zT]
  have hsN: ∀(vs:Za)(E E':Ev),(Z1++MO.lst vs::(T++[.dic E])).set N (.dic E')=Z1++MO.lst vs::(T++[.dic E']):=λvs E E'=>by rw[hN',set_append_right _ _ #[],show Z1.length+(T.length+1) - Z1.length=T.length+1 by omega,set_cons_succ,gD]
  have hdcp:NP [#[eG,1]] Z=.ok #[N,1] (Z1++.lst ws::(T++[.dic G])):=by rw[By (by rw[hZ];exact up hG) hGo,hZa,hN]
  have hup:EE #[N,1] [#[e,1]] (Z1++.lst ws::(T++[.dic G]))=#[.non,(Z1++.lst ws::(T++[.dic (xV G D.2)])),1]:=by rw[Rt (haN ws G) hGo (up hM) hMo heN #[],hsN]
  have hdx:QZ #[N,1] (Z1++.lst ws::(T++[.dic G]))=true:=LA (haN ws G) hGo;have hlt: ∀(vs:Za)(U:Sto),(Z1++MO.lst vs::U)[Z1.length]? =#[vs,2]:=λvs U=>dH _ _ _;have hap:mP #[Z1.length,1] [#[[.loc N,.int 1],6]] (Z1++.lst ws::(T++[.dic (xV G D.2)]))=#[.non,(Z1++.lst (ws++[.tup [.loc N,.int 1]])::(T++[.dic (xV G D.2)])),1]:=by rw[wL (hlt _ _) (show ws.length<1000000 by omega),KP]
  have hb:fW (uZ lf lo' m nb #[e] #[1,0] #[Z1.length] #[eG] #[mg,0] c) Z=#[uZ lf lo' m nb #[e] #[1,0] #[Z1.length] #[eG] #[mg,0] #[N],(Z1++.lst (ws++[.tup [.loc N,.int 1]])::(T++[.dic (xV G D.2)])),0]:=by unfold fW oO;unfold iJ;rw[show bJ (dJ AM (vJ 8) (vJ 5)) rG (uZ lf lo' m nb #[e] #[1,0] #[Z1.length] #[eG] #[mg,0] c) Z=.ok true Z by simp? [hband];rfl,jS,iP rfl];rw[zC (F:=CJ _ 9) (ρ':=uZ lf lo' m nb #[e] #[1,0] #[Z1.length] #[eG] #[mg,0] #[N]) (S':=Z1++.lst ws::(T++[.dic G])) (by simp? [hdcp])];rw[zC (F:=BJ _) (ρ':=uZ lf lo' m nb #[e] #[1,0] #[Z1.length] #[eG] #[mg,0] #[N]) (S':=Z1++.lst ws::(T++[.dic (xV G D.2)])) (by simp? [hdx,hup])];simp? [yV (hlt ws (T++[.dic (xV G D.2)])),hband,tup2,hap]
  have hF':Fts (Z1++.lst (ws++[.tup [.loc N,.int 1]])::(T++[.dic (xV G D.2)])) Z1.length 1 (ws++[.tup [.loc N,.int 1]]) (Es++[xV G D.2]):=by
   refine Fts.snoc #[] (haN _ _) (hF.move λj E hj=>?_);by_cases e1:j<Z1.length
   .rw[getElem?_append_left e1]at hj ⊢; exact hj
   .rw[getElem?_append_right #[]]at hj ⊢
    cases q:j - Z1.length with
    |zero=>rw[q]at hj;cases hj
    |succ i=>
     rw[q,getElem?_cons_succ]at hj;rw[getElem?_cons_succ,getElem?_append_left (gS.mp hj).1];exact hj
  obtain⟨ws',T',a',b',c',g1,g2,g3⟩:=Kv hG hGo hGl hband hgs ms (ws++[.tup [.loc N,.int 1]]) (Es++[xV G D.2]) (T++[.dic (xV G D.2)]) #[e] #[1,0] #[N] (λq hq=>hD q (mO _ hq)) hF' (by rw[lA,lS];omega);refine⟨ws',T',a',b',c',by rw[aA]at g1;exact g1,by rw[g2,lA,lS,lC];omega,?_⟩;rw[List.map_cons,he, <-hZ,zX (show fG 2 (zA (zV 4) (zA (zV 5) zZ)) (.tup [.loc e,.int 1]) (uZ lf lo' m nb a b #[Z1.length] #[eG] #[mg,0] c) Z=.ok (uZ lf lo' m nb #[e] #[1,0] #[Z1.length] #[eG] #[mg,0] c) Z from rfl) hb (λq hq=>up (hgs q hq))];exact g3
end
def joinM(xs:Ch)(Gs:List Ev)(Ds:List OD):List Ev:=Gs.flatMap λG=>(RM xs Ds (yM xs G)).map λD=>xV G D.2
section
variable{B Z1:Sto}{lf lo' n0:Nat}{m:MV}{mg:Int}{all:Za}{xs:Ch}{Ds:List OD}{bd:Ev}
theorem Cc(J:JI B xs Ds bd Z1)(hDs: ∀D∈Ds, ∃e,D.1=.tup [.loc e,.int 1]/\B[e]? =#[D.2,7]/\qN D.2/\D.2.length<=1000)(hDl:Ds.length<=1000)(hf:B[lf]? =#[all,2])(hm:SqM B m #[xs,8])(hx:xs.length<1000)(hband: ∀Y,AM #[mg,5] #[1,5] Y=.ok #[1,5] Y):
  ∀(ws:Za)(Gs:List Ev),Fts B n0 mg ws Gs->(∀G∈Gs,Has xs G/\G.length<=1000)-> ∀(ts:Za)(Es:List Ev)(T:Sto)(a b v k c:Zb),Fts (Z1++.lst ts::T) Z1.length 1 ts Es->ts.length+Ds.length * Gs.length<50000->
  ∃ts' T' a' b' v' k' c',Fts (Z1++.lst ts'::T') Z1.length 1 ts' (Es++joinM xs Gs Ds)/\xG (fG 2 (zA (zV 7) (zA (zV 8) zZ))) fX [(lf,all)] ws (uZ lf lo' m B.length a b #[Z1.length] v k c) (Z1++.lst ts::T)=#[uZ lf lo' m B.length a' b' #[Z1.length] v' k' c',(Z1++.lst ts'::T'),0]
 |[],[],_,_,ts,Es,T,a,b,v,k,c,hF,_=>⟨ts,T,a,b,v,k,c,by show Fts _ _ _ _ (Es++[]);rw[aN];exact hF,rfl⟩
 |w::ws,G::Gs,hW,hG,ts,Es,T,a,b,v,k,c,hF,hl=>by
  rw[lC,Nat.mul_succ]at hl;obtain⟨⟨e,rfl,_,he⟩,hW⟩:=hW;obtain⟨hH,hGl⟩:=hG G mF0;obtain⟨Z,hZ⟩: ∃Z,Z=Z1++MO.lst ts::T:=⟨_,rfl⟩
  have up: ∀{l:Nat}{o:MO},Z1[l]? =some o->Z[l]? =some o:=λh=>by rw[hZ,getElem?_append_left (gS.mp h).1];exact h
  have hmZ:SqM Z m #[xs,8]:=by
   rcases hm with h|⟨l,h,h'⟩
   .exact .inl h
   .exact .inr ⟨l,h,up (J.old h')⟩
  have hva:zF 2 yE [#[e,1],.val m] Z=.ok #[yM xs G,6] Z:=UF (S:=Z) (m:=m) (up (J.old he)) hH.1 hmZ hH.2 hx;have hbdZ:Z[B.length]? =#[bd,7]:=by refine up ?_;obtain⟨T0,h0⟩:=J.ex;rw[h0];exact dH _ _ _
  have hdc:bP Z #[B.length,1]=some (B.length,bd):=by unfold bP;dsimp only;rw[hbdZ];dsimp only;rw[iP J.tk]
  have hid:qB #[B.length,1] Z=true:=by unfold qB;rw[hdc];rfl
  have hgd: ∃r gs,uA #[B.length,1] [#[yM xs G,6],.new []] Z=.ok r Z/\AI r Z=.ok ⟨(RM xs Ds (yM xs G)).map (·.1),gs⟩ Z/\ ∀q∈gs,Z1[q.1]? =#[q.2,2]:=by
   unfold uA;dsimp only;rw[hdc];dsimp only;rw[iP (EW hH.vs)]
   cases z:look bd (.tup (yM xs G))with
   |none=>
    refine⟨.new [],[],rfl,?_,by simp⟩;rw[J.no _ z];rfl
   |some d=>
    obtain⟨l,rfl,h1,h2⟩:=J.at' _ _ z;exact⟨_,_,rfl,xZ (up h2),λq hq=>by rw[mS.mp hq];exact h2⟩
  obtain⟨r,gs,d1,d2,d3⟩:=hgd;have hbl:(RM xs Ds (yM xs G)).length<=Ds.length:=List.length_filter_le _ _;obtain⟨ts1,T1,a1,b1,c1,g1,g2,g3⟩:=Kv (lf:=lf) (lo':=lo') (nb:=B.length) (m:=m) (mg:=mg) (J.old he) hH.1 hGl hband d3 (RM xs Ds (yM xs G)) ts Es T a b c (λD hD=>by obtain⟨e',x1,x2,x3⟩:=hDs D (List.mem_filter.mp hD).1;exact⟨e',x1,J.old x2,x3⟩) hF #[];have hb:fX (uZ lf lo' m B.length a b #[Z1.length] #[e] #[mg,0] c) Z=#[uZ lf lo' m B.length a1 b1 #[Z1.length] #[e] #[mg,0] c1,(Z1++.lst ts1::T1),0]:=by unfold fX oP;simp? [hid,hva,d1,d2];rw[hZ];exact g3
  obtain⟨ts2,T2,a2,b2,v2,k2,c2,f1,f2⟩:=Cc J hDs hDl hf hm hx hband ws Gs hW (λK hK=>hG K (mO _ hK)) ts1 _ T1 a1 b1 #[e] #[mg,0] c1 g1 #[];refine⟨ts2,T2,a2,b2,v2,k2,c2,by rw[aA]at f1;exact f1,?_⟩;rw[<-hZ,zX (show fG 2 (zA (zV 7) (zA (zV 8) zZ)) (.tup [.loc e,.int mg]) (uZ lf lo' m B.length a b #[Z1.length] v k c) Z=.ok (uZ lf lo' m B.length a b #[Z1.length] #[e] #[mg,0] c) Z from rfl) hb (yT (by rw[getElem?_append_left (gS.mp (J.old hf)).1];exact J.old hf))];exact f2
 |[],_::_,h,_,_,_,_,_,_,_,_,_,_,_=>h.elim
 |_::_,[],h,_,_,_,_,_,_,_,_,_,_,_=>h.elim
end
theorem LH{B:Sto}{n:Nat}{mk:Int}: ∀{ws:Za}{Ms:List Ev},Fts B n mk ws Ms-> ∀D∈ws.zip Ms,D.2∈Ms/\ ∃e,D.1=.tup [.loc e,.int mk]/\B[e]? =#[D.2,7]
 |[],[],_=>λD h=>by simp at h
 |w::ws,M::Ms,h=>λD hD=>by
  rw[zip_cons_cons]at hD;rcases mC.mp hD with rfl|hD
  .obtain⟨e,a,_,c⟩:=h.1;exact⟨mF0,e,a,c⟩
  .obtain⟨x,y⟩:=LH h.2 D hD;exact⟨mO _ x,y⟩
 |[],_::_,h=>h.elim
 |_::_,[],h=>h.elim
theorem jn_f{B:Sto}{lf lo' n0 n1:Nat}{m:MV}{mg:Int}{fs os:Za}{Gs Ms:List Ev}{xs:Ch}(hf:B[lf]? =#[fs,2])(ho:B[lo']? =#[os,2])(hm:SqM B m #[xs,8])(hx:xs.length<1000)(hF:Fts B n0 mg fs Gs)(hO:Fts B n1 1 os Ms)(hG: ∀G∈Gs,Has xs G/\G.length<=1000)(hM: ∀M∈Ms,Has xs M/\M.length<=1000)(hl1:Ms.length<=1000)(hl2:Ms.length * Gs.length<50000)
  (hband: ∀Y,AM #[mg,5] #[1,5] Y=.ok #[1,5] Y):
  ∃l T ts,qE [.loc lf,.loc lo',m] B=.ok #[l,1] (B++T)/\B.length<l/\(B++T)[l]? =#[ts,2]/\Fts (B++T) l 1 ts (joinM xs Gs (os.zip Ms)):=by
 have e1:oQ [#[lf],#[lo'],some m,none,none,none,none,none,none,none] B=#[uZ lf lo' m B.length none none none none none none,B++[.dic []],0]:=by unfold oQ;simp? [AK]
 have J0:JI B xs [] [] (B++[.dic []]):=⟨⟨[],rfl⟩,(λk d h=>by cases h),(λk _=>rfl),(λk k' l h=>by cases h),rfl,Nat.le_refl _⟩
 obtain⟨bd,Z1,a,b,J,e⟩:=Cb (lf:=lf) ho hm hx os Ms [] [] (B++[.dic []]) none none hO (λM h=>(hM M h).1) J0 (by simp only[List.length_nil];omega);rw[List.nil_append]at J;have e2:oR (uZ lf lo' m B.length none none none none none none) (B++[.dic []])=#[uZ lf lo' m B.length a b none none none none,Z1,0]:=by unfold oR;simp? [xZ (J0.old ho)];exact e
 have e3:oS (uZ lf lo' m B.length a b none none none none) Z1=#[uZ lf lo' m B.length a b #[Z1.length] none none none,(Z1++.lst []::[]),0]:=by unfold oS;simp? [jS]
 have hzl:(os.zip Ms).length<=Ms.length:=by rw[length_zip];omega
 obtain⟨ts,T,a',b',v',k',c',g1,g2⟩:=Cc (lf:=lf) (lo':=lo') J (λD hD=>by obtain⟨x,e,y,z⟩:=LH hO D hD;exact⟨e,y,z,(hM _ x).1.1,(hM _ x).2⟩) #[] hf hm hx hband fs Gs hF hG [] [] [] a b none none none (show Fts _ _ _ [] []from trivial) (by rw[List.length_nil,Nat.zero_add];exact lt_of_le_of_lt (Nat.mul_le_mul_right _ hzl) hl2);have hf1:(Z1++[MO.lst []])[lf]? =#[fs,2]:=by rw[getElem?_append_left (gS.mp (J.old hf)).1];exact J.old hf
 have e4:oU (uZ lf lo' m B.length a b #[Z1.length] none none none) (Z1++.lst []::[])=#[uZ lf lo' m B.length a' b' #[Z1.length] v' k' c',(Z1++.lst ts::T),0]:=by unfold oU;simp? [xZ hf1];exact g2
 obtain⟨T0,h0⟩:=J.ex;have hZ:Z1++MO.lst ts::T=B++(.dic bd::T0++.lst ts::T):=by rw[h0,aA]
 refine⟨Z1.length,.dic bd::T0++.lst ts::T,ts,?_,by rw[h0];simp,by rw[<-hZ];exact dH _ _ _,by rw[<-hZ];exact g1⟩;show yB (uB [#[lf],#[lo'],some m,none,none,none,none,none,none,none] B)=_;unfold uB;rw[zC e1,zC e2,zC e3,zC e4, <-hZ];rfl
def LI(σ:List Nat->MV)(t:MV):MV:=match vn t with |some x=>σ x|none=>isv t
def uH(σ:List Nat->MV)(x:Db):LI σ (.tup [.str BO,.str x])=σ x:=by unfold LI;rw[sY]
theorem LK(σ:List Nat->MV)(v:MV):LI σ (.tup [.str IS,v])=v:=by unfold LI;rw[OL];rfl
theorem rF: ∀(ts cs:Za)(F G:Ev),dO ts cs F=some G->ts.length=cs.length->(∀t∈ts,cL t)->(∀x d,look F (.str x)=some d->look G (.str x)=some d)/\cs=ts.map (LI (cN G))
 |[],[],F,G,h,_,_=>by cases h;exact⟨λ_ _ z=>z,rfl⟩
 |[],_::_,_,_,_,hl,_=>by simp at hl
 |_::_,[],_,_,_,hl,_=>by simp at hl
 |t::ts,c::cs,F,G,h,hl,hT=>by
  have hl':ts.length=cs.length:=by simpa using hl
  have hT': ∀t∈ts,cL t:=λu hu=>hT u (mO _ hu);rcases hT t mF0 with⟨x,rfl⟩|⟨v,hv,rfl⟩
  .rw[uG]at h
   cases z:look F (.str x)with
   |none=>
    rw[z]at h;obtain⟨h1,h2⟩:=rF ts cs _ G h hl' hT';have hx:look G (.str x)=some c:=h1 x c (by rw[eZ,z,Option.none_or,iP rfl]);refine⟨λy d hy=>h1 y d (by rw[eZ,hy];rfl),?_⟩;rw[List.map_cons,uH,bG hx, <-h2]
   |some d=>
    rw[z]at h;dsimp only at h;split at h
    .rename_i e;subst e;obtain⟨h1,h2⟩:=rF ts cs F G h hl' hT';exact⟨h1,by rw[List.map_cons,uH,bG (h1 x d z), <-h2]⟩
    .cases h
  .rw[KZ]at h;split at h
   .rename_i e;obtain⟨h1,h2⟩:=rF ts cs F G h hl' hT';exact⟨h1,by rw[List.map_cons,LK,e, <-h2]⟩
   .cases h
theorem uI(σ:List Nat->MV): ∀(ts:Za)(F:Ev),(∀x d,look F (.str x)=some d->d=σ x)->(∀t∈ts,cL t)-> ∃G,dO ts (ts.map (LI σ)) F=some G/\ ∀x d,look G (.str x)=some d->d=σ x
 |[],F,hF,_=>⟨F,rfl,hF⟩
 |t::ts,F,hF,hT=>by
  have hT': ∀t∈ts,cL t:=λu hu=>hT u (mO _ hu);rcases hT t mF0 with⟨x,rfl⟩|⟨v,hv,rfl⟩
  .rw[List.map_cons,uH,uG]
   cases z:look F (.str x)with
   |none=>
    refine uI σ ts (F++[(.str x,σ x)]) (λy d hy=>?_) hT';rw[eZ]at hy
    cases zy:look F (.str y)with
    |some d'=>rw[zy]at hy;cases hy;exact hF y _ zy
    |none=>
     rw[zy,Option.none_or]at hy;split at hy
     .rename_i e;cases hy;cases e;rfl
     .cases hy
   |some d=>
    dsimp only;rw[iP (hF x d z)];exact uI σ ts F hF hT'
  .rw[List.map_cons,LK,KZ,iP rfl];exact uI σ ts F hF hT'
def Mt(rows:List Rw)(a:Rw)(σ:List Nat->MV):Prop:=(a.1,a.2.map (LI σ))∈rows
def Cd{rows:List Rw}{a:Rw}(ha: ∀t∈a.2,cL t)(hw: ∀r∈rows,r.1=a.1->a.2.length=r.2.length){G:Ev}(h:G∈gF rows a):Mt rows a (cN G)/\(∀t∈a.2, ∀x,vn t=some x->look G (.str x)≠none):=by unfold gF at h;obtain⟨r,hr,hf⟩:=mem_filterMap.mp h;obtain⟨hr,he⟩:=List.mem_filter.mp hr;have he:=of_decide_eq_true he;have hl:=hw r hr he;obtain⟨_,h2⟩:=rF _ _ _ _ hf hl ha;refine⟨?_,(UE _ _ _ _ hf #[]).2⟩;unfold Mt;rw[<-h2, <-he];exact hr
def Ce{rows:List Rw}{a:Rw}(ha: ∀t∈a.2,cL t){σ:List Nat->MV}(h:Mt rows a σ): ∃G∈gF rows a, ∀x d,look G (.str x)=some d->d=σ x:=by obtain⟨G,h1,h2⟩:=uI σ a.2 [] (λx d z=>by cases z) ha;exact⟨G,mem_filterMap.mpr ⟨(a.1,a.2.map (LI σ)),List.mem_filter.mpr ⟨h,dT0 rfl⟩,h1⟩,h2⟩
theorem HV(x:Db)(xs:Ch)(d:MV)(k:Za):wW (x::xs) (d::k)=(.str x,d)::wW xs k:=rfl
theorem uK(f:List Nat->MV): ∀(xs:Ch)(x:Db),look (wW xs (xs.map f)) (.str x)=if x∈xs then some (f x)else none
 |[],x=>rfl
 |y::xs,x=>by
  rw[List.map_cons,HV,yY,uK f xs x];by_cases e:y=x
  .subst e;rw[iP rfl,iP mF0]
  .rw[iN (λz=>e (MV.str.inj z))];by_cases h:x∈xs
   .rw[iP h,iP (mO _ h)]
   .rw[iN h,iN λz=>(mC.mp z).elim (λz=>e z.symm) h]
def CT{xs:Ch}{G:Ev}{x:Db}(h:x∈xs):cN (wW xs (yM xs G)) x=cN G x:=bG (by unfold yM;rw[uK,iP h])
def LL{xs:Ch}{G:Ev}(h:Has xs G):qN (wW xs (yM xs G))/\ ∀x,look (wW xs (yM xs G)) (.str x)≠none↔x∈xs:=by
 refine⟨λp hp=>?_,λx=>?_⟩
 .have hp':(p.1,p.2)∈(xs.map MV.str).zip (yM xs G):=hp;obtain⟨h1,h2⟩:=of_mem_zip hp';obtain⟨x,_,e⟩:=mM.mp h1;exact⟨⟨x,e.symm⟩,h.vs _ h2⟩
 .unfold yM;rw[uK];by_cases e:x∈xs
  .rw[iP e];exact⟨λ_=>e,λ_ z=>by cases z⟩
  .rw[iN e];exact⟨λz=>absurd rfl z,λz=>absurd z e⟩
theorem uL(xs:Ch): ∀(Gs:List Ev)(P:Zg)(k:Za),k∈UI xs Gs P↔k∈P\/ ∃G∈Gs,k=yM xs G
 |[],P,k=>⟨.inl,λh=>h.elim id λ⟨G,h,_⟩=>by simp at h⟩
 |G::Gs,P,k=>by
  show k∈UI xs Gs (LF P (yM xs G))↔_;rw[uL xs Gs,Jp];constructor
  .rintro((h|h)|⟨K,hK,h⟩)
   .exact .inl h
   .exact .inr ⟨G,mF0,h⟩
   .exact .inr ⟨K,mO _ hK,h⟩
  .rintro(h|⟨K,hK,h⟩)
   .exact .inl (.inl h)
   .rcases mC.mp hK with rfl|hK
    .exact .inl (.inr h)
    .exact .inr ⟨K,hK,h⟩
def lN{xs:Ch}{Gs:List Ev}{E:Ev}:E∈oZ xs Gs↔ ∃G∈Gs,E=wW xs (yM xs G):=by
 unfold oZ;rw[mM];constructor
 .rintro⟨k,hk,rfl⟩;rcases (uL xs Gs [] k).mp hk with h|⟨G,hG,rfl⟩
  .simp at h
  .exact⟨G,hG,rfl⟩
 .rintro⟨G,hG,rfl⟩;exact⟨_,(uL xs Gs [] _).mpr (.inr ⟨G,hG,rfl⟩),rfl⟩
def EX(E:Ev)(k d j:MV):look (putK E k d) j=if k=j then some d else look E j:=by
 unfold putK;split
 .rename_i hs
  have q: ∀E:Ev, ¬k=j->look (E.map λp=>if p.1=k then(p.1,d)else p) j=look E j:=λE q=>by
   induction E with
   |nil=>rfl
   |cons p E ih=>rw[List.map_cons,yY,yY,ih];grind
  induction E with
  |nil=>cases hs
  |cons p E ih=>
   have:=q E;rw[List.map_cons,yY,yY];rw[yY]at hs
   grind
 .rw[eZ];cases z:look E j<;>grind
theorem HW: ∀(M G:Ev)(x:Db),(∀p∈M, ∀d,look G p.1=some d->p.2=d)->(∀p∈M, ∀q∈M,p.1=q.1->p.2=q.2)->look (xV G M) (.str x)=(look G (.str x)).or (look M (.str x))
 |[],G,x,_,_=>by show look G (.str x)=_;cases look G (.str x)<;>rfl
 |p::M,G,x,h1,h2=>by
  show look (xV (putK G p.1 p.2) M) (.str x)=_;rw[HW M (putK G p.1 p.2) x (λq hq d hd=>?_) (λq hq r hr=>h2 q (mO _ hq) r (mO _ hr)),EX,yY]
  .by_cases e:p.1=.str x
   .rw[iP e,iP e]
    cases z:look G (.str x)with
    |none=>rfl
    |some d=>rw[h1 p mF0 d (by rw[e];exact z)];rfl
   .rw[iN e,iN e]
  .rw[EX]at hd;split at hd
   .rename_i e;cases hd;exact(h2 p mF0 q (mO _ hq) e).symm
   .exact h1 q (mO _ hq) d hd
def OS{xs:Ch}{Gs:List Ev}{Ds:List OD}{E:Ev}:E∈joinM xs Gs Ds↔ ∃G∈Gs, ∃D∈Ds,yM xs D.2=yM xs G/\E=xV G D.2:=by
 unfold joinM;rw[mem_flatMap];constructor
 .rintro⟨G,hG,h⟩;obtain⟨D,hD,rfl⟩:=mM.mp h;obtain⟨h1,h2⟩:=List.mem_filter.mp hD;exact⟨G,hG,D,h1,of_decide_eq_true h2,rfl⟩
 .rintro⟨G,hG,D,hD,h,rfl⟩;exact⟨G,hG,mM.mpr ⟨D,List.mem_filter.mpr ⟨hD,dT0 h⟩,rfl⟩⟩
def Jq{σ τ:List Nat->MV}{t:MV}(h: ∀x,vn t=some x->σ x=τ x):LI σ t=LI τ t:=by
 unfold LI
 cases z:vn t with
 |none=>rfl
 |some x=>exact h x z
def RN{rows:List Rw}{a:Rw}{σ τ:List Nat->MV}(h: ∀t∈a.2, ∀x,vn t=some x->σ x=τ x)(m:Mt rows a σ):Mt rows a τ:=by unfold Mt at *;rw[<-map_congr_left λt ht=>Jq (h t ht)];exact m
def RO{xs:Ch}{f:List Nat->MV}{p:MV×MV}(h:p∈wW xs (xs.map f)): ∃x∈xs,p=(.str x,f x):=by
 induction xs with
 |nil=>exact absurd h (by simp[wW])
 |cons y xs ih=>
  rw[List.map_cons,HV]at h;rcases mC.mp h with rfl|h
  .exact⟨y,mF0,rfl⟩
  .obtain⟨x,hx,e⟩:=ih h;exact⟨x,mO _ hx,e⟩
def UK{E:Ev}(h:qN E){p:MV×MV}(hp:(∃x,p.1=.str x)/\VS p.2):qN (putK E p.1 p.2):=by
 unfold putK;split
 .intro q hq;obtain⟨r,hr,rfl⟩:=mM.mp hq;split
  .exact⟨(h r hr).1,hp.2⟩
  .exact h r hr
 .intro q hq;rcases List.mem_append.mp hq with hq|hq
  .exact h q hq
  .rw[mS.mp hq];exact hp
theorem OT: ∀(M G:Ev),qN G->qN M->qN (xV G M)
 |[],G,h,_=>h
 |p::M,G,h,hM=>OT M (putK G p.1 p.2) (UK h (hM p mF0)) λq hq=>hM q (mO _ hq)
structure FI(rows done:List Rw)(kn:Ch)(Gs:List Ev):Prop where
 dom: ∀G∈Gs,qN G/\ ∀x,look G (.str x)≠none↔x∈kn
 snd: ∀G∈Gs, ∃σ,(∀b∈done,Mt rows b σ)/\ ∀x∈kn,cN G x=σ x
 cmp: ∀σ,(∀b∈done,Mt rows b σ)-> ∃G∈Gs, ∀x∈kn,cN G x=σ x
section
variable{rows done:List Rw}{a:Rw}{kn own sh ow kn':Ch}{ask:List Nat->Prop}
def Cf{G F:Ev}(hG:qN G/\ ∀x,look G (.str x)≠none↔x∈kn)(hF:Has own F)(hsh: ∀x,x∈sh↔x∈own/\x∈kn)(how: ∀x,x∈ow↔x∈own/\(x∈sh\/ask x))(hk: ∀x,x∈kn'↔(x∈kn\/x∈own)/\ask x)(he:yM sh (wW ow (yM ow F))=yM sh G):
  (∀x∈sh,cN F x=cN G x)/\(∀x∈kn,cN (xV G (wW ow (yM ow F))) x=cN G x)/\(∀x∈ow,cN (xV G (wW ow (yM ow F))) x=cN F x)/\Has kn' (xV G (wW ow (yM ow F))):=by
 have hFo:Has ow F:=⟨hF.1,λx hx=>hF.2 x ((how x).mp hx).1⟩
 have hs: ∀x∈sh,cN F x=cN G x:=λx hx=>by
  have h1:cN (wW ow (yM ow F)) x=cN G x:=by unfold yM at he;exact List.map_inj_left.mp he x hx
  rw[CT ((how x).mpr ⟨((hsh x).mp hx).1,.inl hx⟩)]at h1;exact h1
 have hvat: ∀{E:Ev}{x:Db},look E (.str x)≠none->look E (.str x)=some (cN E x):=λ{E x} h=>by
  cases z:look E (.str x)with
  |none=>exact absurd z h
  |some d=>rw[bG z]
 have hlk: ∀x,look (xV G (wW ow (yM ow F))) (.str x)=(look G (.str x)).or (look (wW ow (yM ow F)) (.str x)):=λx=>by
  refine HW _ _ x (λp hp d hd=>?_) λp hp q hq e=>?_
  .obtain⟨y,hy,rfl⟩:=RO hp;have hyk:y∈kn:=(hG.2 y).mp (by rw[hd];simp);have hys:y∈sh:=(hsh y).mpr ⟨((how y).mp hy).1,hyk⟩;show cN F y=d;rw[hs y hys];exact bG hd
  .obtain⟨y,hy,rfl⟩:=RO hp;obtain⟨z,hz,rfl⟩:=RO hq;cases e;rfl
 have h1: ∀x∈kn,look (xV G (wW ow (yM ow F))) (.str x)=some (cN G x):=λx hx=>by rw[hlk,hvat ((hG.2 x).mpr hx)];rfl
 have h2: ∀x∈ow,look (xV G (wW ow (yM ow F))) (.str x)=some (cN F x):=λx hx=>by
  by_cases e:x∈kn
  .rw[h1 x e,hs x ((hsh x).mpr ⟨((how x).mp hx).1,e⟩)]
  .have hn:look G (.str x)=none:=by
    cases z:look G (.str x)with
    |none=>rfl
    |some d=>exact absurd ((hG.2 x).mp (by rw[z];simp)) e
   rw[hlk,hn,Option.none_or];unfold yM;rw[uK,iP hx]
 refine⟨hs,λx hx=>bG (h1 x hx),λx hx=>bG (h2 x hx),OT _ _ hG.1 (LL hFo).1,λx hx=>?_⟩;obtain⟨h3,h4⟩:=(hk x).mp hx;by_cases e:x∈kn
 .rw[h1 x e];simp
 .rw[h2 x ((how x).mpr ⟨h3.resolve_left e,.inr h4⟩)];simp
def OU(ha: ∀t∈a.2,cL t)(hw: ∀r∈rows,r.1=a.1->a.2.length=r.2.length)(hv: ∀r∈rows, ∀c∈r.2,VS c)(hown: ∀x,x∈own↔ ∃t∈a.2,vn t=some x){F:Ev}(hF:F∈gF rows a):Mt rows a (cN F)/\Has own F:=by obtain⟨h1,h2⟩:=Cd ha hw hF;obtain⟨r,hr,hf⟩:=mem_filterMap.mp (show F∈_ from hF);exact⟨h1,CS _ _ _ _ hf (λp h=>by simp at h) (hv r (List.mem_filter.mp hr).1),λx hx=>by obtain⟨t,ht,e⟩:=(hown x).mp hx;exact h2 t ht x e⟩
def Jr{Gs:List Ev}{Ds:List OD}(I:FI rows done kn Gs)(ha: ∀t∈a.2,cL t)(hw: ∀r∈rows,r.1=a.1->a.2.length=r.2.length)(hv: ∀r∈rows, ∀c∈r.2,VS c)(hown: ∀x,x∈own↔ ∃t∈a.2,vn t=some x)(hsh: ∀x,x∈sh↔x∈own/\x∈kn)(how: ∀x,x∈ow↔x∈own/\(x∈sh\/ask x))(hk: ∀x,x∈kn'↔(x∈kn\/x∈own)/\ask x)
  (hdn: ∀b∈done, ∀t∈b.2, ∀x,vn t=some x->x∈own->x∈kn) (hDs: ∀M,M∈oZ ow (gF rows a)↔ ∃D∈Ds,D.2=M):(∀K∈joinM sh Gs Ds,Has kn' K)/\FI rows (done++[a]) kn' (oZ kn' (joinM sh Gs Ds)):=by
 have hFown: ∀F∈gF rows a,Mt rows a (cN F)/\Has own F:=λF hF=>OU ha hw hv hown hF;have un: ∀K∈joinM sh Gs Ds, ∃G∈Gs, ∃F∈gF rows a,yM sh (wW ow (yM ow F))=yM sh G/\K=xV G (wW ow (yM ow F)):=λK hK=>by obtain⟨G,hG,D,hD,e,rfl⟩:=OS.mp hK;obtain⟨F,hF,e2⟩:=lN.mp ((hDs D.2).mpr ⟨D,hD,rfl⟩);exact⟨G,hG,F,hF,by rw[<-e2];exact e,by rw[e2]⟩
 have hval: ∀{G F:Ev},G∈Gs->F∈gF rows a->yM sh (wW ow (yM ow F))=yM sh G-> ∀{σ:List Nat->MV},(∀x∈kn,cN G x=σ x)->(∀x∈own,cN F x=σ x)-> ∀x∈kn',cN (wW kn' (yM kn' (xV G (wW ow (yM ow F))))) x=σ x:=λ{G F} hG hF e {σ} g1 g2 x hx=>by
  obtain⟨o1,o2,o3,_⟩:=Cf (I.dom G hG) (hFown F hF).2 hsh how hk e;rw[CT hx];obtain⟨h3,h4⟩:=(hk x).mp hx;by_cases q:x∈kn
  .rw[o2 x q,g1 x q]
  .have hxo:=h3.resolve_left q;rw[o3 x ((how x).mpr ⟨hxo,.inr h4⟩),g2 x hxo]
 have hkn: ∀K∈joinM sh Gs Ds,Has kn' K:=λK hK=>by obtain⟨G,hG,F,hF,e,rfl⟩:=un K hK;exact(Cf (I.dom G hG) (hFown F hF).2 hsh how hk e).2.2.2
 refine⟨hkn,λE hE=>?_,λE hE=>?_,λσ hσ=>?_⟩
 .obtain⟨K,hK,rfl⟩:=lN.mp hE;exact LL (hkn K hK)
 .obtain⟨K,hK,rfl⟩:=lN.mp hE;obtain⟨G,hG,F,hF,e,rfl⟩:=un K hK;obtain⟨o1,_,_,_⟩:=Cf (I.dom G hG) (hFown F hF).2 hsh how hk e;obtain⟨σ1,s1,s2⟩:=I.snd G hG
  classical
  refine⟨λx=>if x∈own then cN F x else σ1 x,λb hb=>?_,hval hG hF e (λx hx=>?_) λx hx=>by rw[iP hx]⟩
  .rcases List.mem_append.mp hb with hb|hb
   .refine RN (λt ht x hx=>?_) (s1 b hb);by_cases q:x∈own
    .have hxk:=hdn b hb t ht x hx q;rw[iP q,o1 x ((hsh x).mpr ⟨q,hxk⟩),s2 x hxk]
    .rw[iN q]
   .rw[mS.mp hb];exact RN (λt ht x hx=>by rw[iP ((hown x).mpr ⟨t,ht,hx⟩)]) (hFown F hF).1
  .by_cases q:x∈own
   .rw[iP q,o1 x ((hsh x).mpr ⟨q,hx⟩)]
   .rw[iN q];exact s2 x hx
 .obtain⟨G,hG,g1⟩:=I.cmp σ λb hb=>hσ b (mem_append_left _ hb);obtain⟨F,hF,f1⟩:=Ce ha (hσ a (List.mem_append_right _ mF0))
  have f2: ∀x∈own,cN F x=σ x:=λx hx=>by
   cases z:look F (.str x)with
   |none=>exact absurd z ((hFown F hF).2.2 x hx)
   |some d=>rw[bG z];exact f1 x d z
  have e:yM sh (wW ow (yM ow F))=yM sh G:=by show sh.map (cN (wW ow (yM ow F)))=sh.map (cN G);refine map_congr_left λx hx=>?_;obtain⟨q1,q2⟩:=(hsh x).mp hx;rw[CT ((how x).mpr ⟨q1,.inl hx⟩),f2 x q1,g1 x q2]
  obtain⟨D,hD,e2⟩:=(hDs _).mp (lN.mpr ⟨F,hF,rfl⟩);exact⟨_,lN.mpr ⟨_,OS.mpr ⟨G,hG,D,hD,by rw[e2];exact e,rfl⟩,rfl⟩,by rw[e2];exact hval hG hF e g1 f2⟩
end
def rk:MV->MV
 |.str x=>.tup [.int 1,.int 0,.str x]
 |d=>.tup [.int 0,d,.str []]
def cd:MV->List Int
 |.int i=>[0,i]
 |.str x=>1::x.map Int.ofNat
 |_=>[]
abbrev HX(t:Za):List (List Int):=t.map cd
theorem Cg: ∀(x y:Db),x.map Int.ofNat<y.map Int.ofNat↔x<y
 |_,[]=>by simp
 |[],_::_=>by simp
 |a::x,b::y=>by rw[List.map_cons,List.map_cons,cons_lt_cons_iff,cons_lt_cons_iff,Cg x y];simp;grind
def Ci{d e:MV}(hd:VS d)(he:VS e)(h:cd d=cd e):d=e:=by
 rcases hd with⟨i,rfl⟩|⟨x,rfl⟩<;>rcases he with⟨j,rfl⟩|⟨y,rfl⟩<;>simp[cd]at h
 .rw[h]
 .rw[(List.map_inj_right (λ_ _ e=>Int.ofNat.inj e)).mp h]
theorem UL: ∀{a b:Za},(∀d∈a,VS d)->(∀d∈b,VS d)->HX a=HX b->a=b
 |[],[],_,_,_=>rfl
 |[],_::_,_,_,h=>by cases h
 |_::_,[],_,_,h=>by cases h
 |d::a,e::b,ha,hb,h=>by
  rw[HX,HX,List.map_cons,List.map_cons]at h;injection h with h1 h2
  rw[Ci (ha d mF0) (hb e mF0) h1,UL (λx hx=>ha x (mO _ hx)) (λx hx=>hb x (mO _ hx)) h2]
def HY{d:MV}(h:VS d):pd (rk d)=true/\uY (rk d)<=1/\bQ (rk d)=true:=by rcases h with⟨i,rfl⟩|⟨x,rfl⟩<;>simp[rk,pd,LY,uY,rM,bQ,tX]
def Ru{d e:MV}(hd:VS d)(he:VS e):rk d=rk e↔d=e:=by rcases hd with⟨i,rfl⟩|⟨x,rfl⟩<;>rcases he with⟨j,rfl⟩|⟨y,rfl⟩<;>simp[rk]
def Ws{S:Sto}{d e:MV}(hd:VS d)(he:VS e)(n:Nat):uX S (n+2) (rk d) (rk e)=some (decide (cd d<cd e)):=by
 rcases hd with⟨i,rfl⟩|⟨x,rfl⟩<;>rcases he with⟨j,rfl⟩|⟨y,rfl⟩<;>simp[rk,cd,uX,tO,BW,JG,cons_lt_cons_iff,Cg]
 .by_cases h:i=j<;>simp[h]
 .by_cases h:x=y<;>simp[h]
theorem Cj{S:Sto}(n:Nat): ∀{a b:Za},(∀d∈a,VS d)->(∀d∈b,VS d)->tO (eqv S (n+2)) (uX S (n+2)) (a.map rk) (b.map rk)=some (decide (HX a<HX b))
 |[],[],_,_=>by simp[tO]
 |[],_::_,_,_=>by simp[tO]
 |_::_,[],_,_=>by simp[tO]
 |d::a,e::b,ha,hb=>by
  have h1:=ha d mF0;have h2:=hb e mF0;have ih:=Cj (S:=S) n (a:=a) (b:=b) (λx hx=>ha x (mO _ hx)) (λx hx=>hb x (mO _ hx));rw[List.map_cons,List.map_cons];unfold tO;rw[qK (n+2) (HY h1).1 (HY h2).1 (by have:=(HY h1).2.1;omega)];show(if decide (rk d=rk e)=true then tO (eqv S (n+2)) (uX S (n+2)) (a.map rk) (b.map rk)else uX S (n+2) (rk d) (rk e))=_;rw[ih,Ws h1 h2];show _=some (decide (cd d::HX a<cd e::HX b));by_cases q:d=e
  .subst q;simp[cons_lt_cons_iff]
  .have: ¬cd d=cd e:=λz=>q (Ci h1 h2 z);simp[Ru h1 h2,q,cons_lt_cons_iff,this]
def klt{S:Sto}{a b:Za}(ha: ∀d∈a,VS d)(hb: ∀d∈b,VS d):uX S zG (.tup (a.map rk)) (.tup (b.map rk))=some (decide (HX a<HX b)):=Cj 37 ha hb
def pA(T:Zg):List (List MV):=T.mergeSort λa b=>decide (HX a<=HX b)
def bI(T:Zg):(pA T).Perm T:=List.mergeSort_perm _ _
def LM(T:Zg):(pA T).Pairwise λa b=>HX a<=HX b:=by have:=List.pairwise_mergeSort (le:=λa b:List MV=>decide (HX a<=HX b)) (λa b c h1 h2=>dT0 (List.le_trans (of_decide_eq_true h1) (of_decide_eq_true h2))) (λa b=>by rw[Bool.or_eq_true,decide_eq_true_iff,decide_eq_true_iff];exact List.le_total _ _) T;exact this.imp λh=>of_decide_eq_true h
def HZ{T R:Zg}(hv: ∀t∈T, ∀d∈t,VS d)(p:R.Perm T)(q:R.Pairwise λa b=>HX a<=HX b):R=pA T:=
 List.Perm.eq_of_pairwise (λa b ha hb h1 h2=>UL (hv a (p.mem_iff.mp ha)) (hv b ((bI T).mem_iff.mp hb)) (List.le_antisymm h1 h2)) q (LM T) (p.trans (bI T).symm)
def tB{β:Type}(T:List β):(List.range T.length).filterMap (T[·]?)=T:=by
 induction T with
 |nil=>rfl
 |cons t T ih=>rw[lC,List.range_succ_eq_map,filterMap_cons,filterMap_map];simp[Function.comp_def,ih]
def UM{l:Bool}{Fd:List MV->Sto->R Er}{w:Nat}{T:Zg}(hv: ∀t∈T, ∀d∈t,VS d)(hw: ∀t∈T,t.length=w)(hl:T.length<64){p:Er}{S:Sto}(hp:kH S p=some (T.map .tup))(call: ∀t∈T,zF 1 Fd [#[t,6]] S=.ok (WU l (.tup (t.map rk))) S):
  AO l Fd [p] S=#[(pA T).map .tup,S,2]:=by
 have mem: ∀k∈T.map (λt=>MV.tup (t.map rk)), ∃t∈T,k=.tup (t.map rk):=λk hk=>by obtain⟨t,h1,h2⟩:=mM.mp hk;exact⟨t,h1,h2.symm⟩
 have at': ∀{f:List MV->MV}{m:Nat}{k:MV},(T.map f)[m]? =some k-> ∃t,T[m]? =some t/\t∈T/\k=f t:=λh=>by rw[getElem?_map]at h;obtain⟨t,h1,h2⟩:=Option.map_eq_some_iff.mp h;exact⟨t,h1,mem_of_getElem? h1,h2.symm⟩
 have ok:SrtOkX l Fd S (T.map .tup) (T.map λt=>.tup (t.map rk)) (decide (0<w)):=by
  refine⟨by rw[lM];exact hl,by rw[lM,lM],λm d kd h1 h2=>?_,λd hd=>?_,λd hd=>?_,⟨λa ha b hb=>?_,λa ha b hb c hc h1 h2=>?_,λa ha b hb h1=>?_⟩⟩
  .obtain⟨t,z,ht,rfl⟩:=at' h1;obtain⟨u,z',_,rfl⟩:=at' h2;rw[z]at z';cases z';exact call t ht
  .obtain⟨t,ht,rfl⟩:=mem d hd;unfold bQ;have: ∀ds:List MV,(∀d∈ds,bQ d=true)->tX ds=true:=λds=>by induction ds<;>simp_all [tX]
   exact this _ λx hx=>by obtain⟨y,hy,rfl⟩:=mM.mp hx;exact(HY (hv t ht y hy)).2.2
  .obtain⟨t,ht,rfl⟩:=mem d hd;unfold Dl;split
   .exact⟨_,rfl⟩
   .have h1:=hw t ht
    cases t with
    |nil=>rw[<-h1];exact .e
    |cons x t=>
     rw[dT0 (by rw[<-h1,lC];omega),List.map_cons];rcases hv _ ht x mF0 with⟨i,rfl⟩|⟨y,rfl⟩
     .exact .t _ _
     .exact .t _ _
  .obtain⟨t,ht,rfl⟩:=mem a ha;obtain⟨u,hu,rfl⟩:=mem b hb;exact⟨_,klt (hv t ht) (hv u hu)⟩
  .obtain⟨t,ht,rfl⟩:=mem a ha;obtain⟨u,hu,rfl⟩:=mem b hb;obtain⟨v,hv',rfl⟩:=mem c hc;rw[klt (hv _ hu) (hv _ ht)]at h1;rw[klt (hv _ hv') (hv _ hu)]at h2;rw[klt (hv _ hv') (hv _ ht)];have h1:=of_decide_eq_false (Option.some.inj h1);have h2:=of_decide_eq_false (Option.some.inj h2);rw[dF0 (List.not_lt.mpr (List.le_trans (List.not_lt.mp h1) (List.not_lt.mp h2)))]
  .obtain⟨t,ht,rfl⟩:=mem a ha;obtain⟨u,hu,rfl⟩:=mem b hb;rw[klt (hv _ ht) (hv _ hu)]at h1;rw[klt (hv _ hu) (hv _ ht),dF0 (List.not_lt.mpr (List.le_of_lt (of_decide_eq_true (Option.some.inj h1))))]
 refine Im hp ok (λr' h=>?_) ?_ (λkds' b' ok'=>?_)
 .obtain⟨idx,p,q,rfl⟩:=h;rw[lM]at p;rw[<-HZ (R:=idx.filterMap (T[·]?)) hv (by have:=p.filterMap (T[·]?);rwa [tB]at this) (by rw[List.pairwise_filterMap];refine q.imp λ{i j} h b hb c hc=>?_;have h':=h (.tup (b.map rk)) (.tup (c.map rk)) (by rw[getElem?_map,hb];rfl) (by rw[getElem?_map,hc];rfl);rw[klt (hv c (mem_of_getElem? hc)) (hv b (mem_of_getElem? hb))]at h';exact List.not_lt.mp (of_decide_eq_false (Option.some.inj h'))),List.map_filterMap];congr 1;funext i;rw[getElem?_map]
 .obtain⟨idx,ip,ie⟩:=HF (bI T).symm (g:=λi=>(T[i]?).getD []) (List.range T.length) (by rw[EA λi hi=>mem_range.mp hi,tB]);have ib: ∀i,i∈idx->i<T.length:=λi hi=>mem_range.mp (ip.mem_iff.mp hi);refine⟨idx,by rw[lM];exact ip,?_,?_⟩
  .have qR:=LM T;rw[<-ie,pairwise_map]at qR;refine List.Pairwise.imp_of_mem (λ{i j} hi hj h a c ha hc=>?_) qR;obtain⟨t,z,ht,rfl⟩:=at' ha;obtain⟨u,z',hu,rfl⟩:=at' hc;rw[z,z']at h;rw[klt (hv u hu) (hv t ht),dF0 (List.not_lt.mpr (show HX t<=HX u from h))]
  .rw[<-ie,EA ib,List.map_filterMap];congr 1;funext i;rw[getElem?_map]
 .refine List.ext_getElem (by rw[ok'.kl,lM,lM]) λm h1 h2=>?_;rw[lM]at h2;have h3:=ok'.call m (.tup T[m]) _ (by rw[getElem?_map,gE h2];rfl) (gE h1);rw[call _ (getElem_mem h2)]at h3;injection h3 with h3 _
  have hk:=ok'.kind _ (getElem_mem h1);rw[List.getElem_map];unfold Dl at hk;unfold WU at h3;split at hk
  .rename_i e;obtain⟨es,he⟩:=hk;rw[iP e,iP e,he]at h3;rw[he];injection h3 with h3
   rw[h3]
  .rename_i e;rw[iN e,iN e]at h3;injection h3 with h3
   exact h3.symm
theorem Rv{d:MV}(h:VS d)(S:Sto):zF 1 aT [.val d] S=#[rk d,S,1]:=by
 have h1:=(HY h).1;rcases h with⟨i,rfl⟩|⟨x,rfl⟩
 .refine eW rfl ?_ (mU h1) (λl=>by simp[rk]);show yB (jC [#[i,0]] S)=_;unfold jC;rw[zC (show xO [#[i,0]] S=#[[#[i,0]],S,0] by unfold xO;simp? [jS];rfl)];unfold fQ;simp? [jS];rfl
 .refine eW rfl ?_ (mU h1) (λl=>by simp[rk]);show yB (jC [#[x,4]] S)=_;unfold jC;rw[oG (show xO [#[x,4]] S=.ok (.ret (.val (rk (.str x)))) S by unfold xO;simp? [jS];rfl)];rfl
def Ck{t:Za}(h: ∀d∈t,VS d):LY (t.map rk)=true:=lI λe he=>by obtain⟨d,hd,rfl⟩:=mM.mp he;exact(HY (h d hd)).1
theorem Jt{t:Za}(h: ∀d∈t,VS d)(hl:t.length<1000)(S:Sto):zF 1 aV [#[t,6]] S=.ok #[t.map rk,6] S:=by
 refine eW rfl ?_ (QR (KO (Ck h))) (λl=>by simp);have hc:yF (zV 0) cT jD [none] [] t S=.ok (t.map rk) S:=DX (bO S) λd hd=>by refine⟨[some d],rfl,rfl,?_⟩;unfold jD;simp? [Rv (h d hd)]
 show yB (aU [#[t,3]] S)=_;unfold aU fR;simp? [oY,show t.length<1000000 by omega];rw[show uW 1 [] [#[t,3]]=[none]from rfl,hc];simp? [dN];rfl
theorem Cm{t:Za}(h: ∀d∈t,VS d)(hl:t.length<1000)(S:Sto):zF 1 cH [#[t,6]] S=#[t.map rk,S,2]:=by
 have lp: ∀(u:Za)(ks:Za)(x:Zb),(∀d∈u,VS d)->ks.length+u.length<2000-> ∃y,xG (zV 2) cE [] u [#[t,3],#[S.length],x] (S++[.lst ks])=#[[#[t,3],#[S.length],y],S++[.lst (ks++u.map rk)],0]:=λu=>by
  induction u with
  |nil=>exact λks x _ _=>⟨x,by rw[List.map_nil,aN];rfl⟩
  |cons d u ih=>
   intro ks x hu hl;rw[lC]at hl;obtain⟨y,hy⟩:=ih (ks++[rk d]) (some d) (λe he=>hu e (mO _ he)) (by simp;omega);refine⟨y,?_⟩;have hs:=zT S (.lst ks);rw[zX (ρ':=[#[t,3],#[S.length],some d]) (S':=S++[.lst (ks++[rk d])]) rfl ?_ (bO _),hy,aA]
   .rfl
   .unfold cE cZ;rcases hu d mF0 with⟨i,rfl⟩|⟨z,rfl⟩
    .simp? [yV hs,wL hs (show ks.length<1000000 by omega),gD];rfl
    .simp? [yV hs,wL hs (show ks.length<1000000 by omega),gD];rfl
 obtain⟨y,hy⟩:=lp t [] none h (by simp;omega);refine DV (T:=[.lst (t.map rk)]) rfl ?_ q9 (by simp) (KO (Ck h));show yB (eM [#[t,3],none,none] S)=_;unfold eM;rw[zC (show cF [#[t,3],none,none] S=#[[#[t,3],#[S.length],none],S++[.lst []],0] by unfold cF;simp? [jS]),zC (show cG [#[t,3],#[S.length],none] (S++[.lst []])=_ by unfold cG;simp? [oY];exact hy)];unfold iG;simp? [jS];rfl
def Ju{ds:Za}{d:MV}:tD (ds++[d]) (-1)=some d:=by
 unfold tD;have:IO (ds++[d]).length (-1)=some ds.length:=by unfold IO;simp;omega
 rw[this];simp
def pB{t:Za}(h: ∀d∈t,VS d):pd (.tup t)=true/\uY (.tup t)<3:=by
 refine⟨by rw[jU];exact lI λd hd=>(qM (h d hd)).1,?_⟩;rw[gV];have:rM t<=0:=uD λd hd=>by rcases h d hd with⟨i,rfl⟩|⟨x,rfl⟩<;>simp[uY]
 omega
theorem OV{m:Nat}{a:Zb}: ∀(L O:Zg)(S:Sto)(x:Zb),S[m]? =#[O.map .tup,2]->(O++L).Nodup->(∀t∈O++L, ∀d∈t,VS d)->O.length+L.length<1000->
  ∃y,xG (zV 2) aW [] (L.map .tup) [a,#[m],x] S=#[[a,#[m],y],S.set m (.lst ((O++L).map .tup)),0]
 |[],O,S,x,hS,_,_,_=>⟨x,by obtain⟨h1,h2⟩:=gS.mp hS;rw[aN, <-h2,List.set_getElem_self h1];rfl⟩
 |t::L,O,S,x,hS,hn,hv,hl=>by
  rw[lC]at hl;have e:O++t::L=O++[t]++L:=by simp
  rw[e]at hn hv ⊢;have ht: ∀d∈t,VS d:=hv t (by simp);have app:mP #[m,1] [#[t,6]] S=#[.non,S.set m (.lst ((O++[t]).map .tup)),1]:=by rw[wL hS (by rw[lM];omega),List.map_append];rfl
  obtain⟨y,h⟩:=OV (m:=m) (a:=a) L (O++[t]) (S.set m (.lst ((O++[t]).map .tup))) #[t,3] (get_set hS) hn hv (by simp;omega);refine⟨y,?_⟩;rw[List.map_cons,zX (ρ':=[a,#[m],#[t,3]]) (S':=S.set m (.lst ((O++[t]).map .tup))) rfl ?_ (bO _),h,List.set_set];unfold aW fS;by_cases hO:O=[]
  .subst hO;simp? [TZ hS,show(!!(List.map MV.tup ([]:Zg)).isEmpty)=true from rfl,yV hS,app]
  .obtain⟨P,z,rfl⟩: ∃P z,O=P++[z]:=⟨O.dropLast,O.getLast hO,(List.dropLast_concat_getLast hO).symm⟩
   have hz:z≠t:=λe=>by subst e;simp[nodup_append]at hn
   have hx:lO #[m,1] #[-1,5] S=.ok #[z,6] S:=DW hS (by rw[List.map_append];exact Ju);have hne:QK #[z,6] #[t,6] S=#[.bl true,S,1]:=by have q:=pB (hv z (by simp));rw[LB q.1 (pB ht).1 #[],dF0 (λe=>hz (MV.tup.inj e))];rfl
   simp? [TZ hS,show(!((P++[z]).map MV.tup).isEmpty)=true by simp,Bool.not_true,fT,iF,hx,hne,yV hS,app]
theorem Jv{w:Nat}{T:Zg}(hv: ∀t∈T, ∀d∈t,VS d)(hw: ∀t∈T,t.length=w)(hw':w<1000)(hn:T.Nodup)(hl:T.length<64)(S:Sto):zF 1 oK [.new (T.map .tup)] S=#[(pA T).map .tup,S,2]:=by
 have p:=bI T;have hv': ∀t∈[]++pA T, ∀d∈t,VS d:=λt ht=>hv t (p.mem_iff.mp ht);have h0:(S++[MO.lst (T.map .tup)]++[.lst []])[S.length]? =#[T.map .tup,2]:=by simp
 obtain⟨y,hy⟩:=OV (m:=S.length+1) (a:=#[S.length]) (pA T) [] (S++[.lst (T.map .tup)]++[.lst []]) none (by rw[aA];exact sZ _ _ _) (p.nodup_iff.mpr hn) hv' (by have:=p.length_eq;simp;omega);refine cK rfl (show zD [.new (T.map .tup)] S=([.loc S.length],S++[.lst (T.map .tup)])from rfl) (T:=[.lst (T.map .tup),.lst ((pA T).map .tup)]) (r:=#[S.length+1,1]) ?_ (.inr ⟨S.length+1,rfl,by omega,sZ _ _ _⟩) (cS λd hd=>by obtain⟨t,ht,rfl⟩:=mM.mp hd;exact mU (pB (hv' t ht)).1);show yB (oI [#[S.length],none,none] (S++[.lst (T.map .tup)]))=_;unfold oI;have e1:aX [#[S.length],none,none] (S++[.lst (T.map .tup)])=#[[#[S.length],#[S.length+1],none],S++[.lst (T.map .tup)]++[.lst []],0]:=by unfold aX;simp? [jS];simp
 have e2:aY [#[S.length],#[S.length+1],none] (S++[.lst (T.map .tup)]++[.lst []])=#[[#[S.length],#[S.length+1],y],S++[.lst (T.map .tup),.lst ((pA T).map .tup)],0]:=by unfold aY;simp? [UM (l:=false) hv hw hl (p:=#[S.length,1]) (by unfold kH;dsimp only;rw[h0]) (λt ht=>Jt (hv t ht) (by rw[hw t ht];exact hw') _),RH];rw[hy,aA];simp
 rw[zC e1,zC e2];unfold oH;simp? [jS];rfl
theorem XF{n:Nat}{F:List MV->Sto->R Er}{rs:List Er}{S S2:Sto}{l:Nat}{kvs:Ev}(hn:rs.length=n)(hF:F (zD rs S).1 (zD rs S).2=.ok #[l,1] S2)(hl:S.length<=l)(h:S2[l]? =#[kvs,7]):zF n F rs S=.ok #[l,1] S2:=by
 unfold zF;rw[iP hn,hF];show jQ S #[l,1] S2=_;unfold jQ;dsimp only;split
 .rw[iN #[],h]
 .rfl
def IA{n:Nat}{F:List MV->Sto->R Er}{rs:List Er}{S T:Sto}{l:Nat}{ds:Za}(hn:rs.length=n)(hF:F (zD rs S).1 (zD rs S).2=.ok #[l,1] (S++T))(hl:S.length<=l)(h:(S++T)[l]? =#[ds,2]):
  ∃r T',zF n F rs S=.ok r (S++T')/\(r=#[l,1]/\T'=T\/r=.new ds/\T'=[]/\qU S.length ds):=by
 unfold zF;rw[iP hn,hF];show∃r T',jQ S #[l,1] (S++T)=_/\_;unfold jQ;rw[iP pZ];dsimp only;rw[iN #[],h];dsimp only;split
 .rename_i h;exact⟨_,[],by rw[aN,List.take_left'];rfl,.inr ⟨rfl,rfl,h⟩⟩
 .exact⟨_,T,rfl,.inl ⟨rfl,rfl⟩⟩
def Ls(Z:Sto)(n:Nat)(r:Er)(Gs:List Ev):Prop:=(∃l ws,r=#[l,1]/\Z[l]? =#[ws,2]/\Fts Z n 1 ws Gs)\/ ∃ws,r=.new ws/\Fts Z n 1 ws Gs
def OW{Z:Sto}{n:Nat}{r q:Er}{Gs:List Ev}{xs:Ch}(h:Ls Z n r Gs)(hq:q=.new #[xs,8]\/ ∃l,q=#[l,1]/\Z[l]? =#[xs.map MV.str,2])(hx:xs.length<1000)(hn:xs.Nodup)(hG: ∀G∈Gs,Has xs G)(hl:Gs.length<10000):
  ∃out T n',zF 2 EF [r,q] Z=#[out,Z++T,2]/\Fts (Z++T) n' 1 out (oZ xs Gs):=by
 obtain⟨lf,m,ws,T0,hE,hf,hm,hF⟩: ∃lf m ws T0,zD [r,q] Z=([.loc lf,m],Z++T0)/\(Z++T0)[lf]? =#[ws,2]/\SqM (Z++T0) m #[xs,8]/\Fts (Z++T0) n 1 ws Gs:=by
  rcases h with⟨l,ws,rfl,h1,h2⟩|⟨ws,rfl,h2⟩<;>rcases hq with rfl|⟨k,rfl,h3⟩
  .exact⟨l,_,ws,[.lst #[xs,8]],rfl,zY h1,.inr ⟨_,rfl,zT _ _⟩,h2.grow⟩
  .exact⟨l,.loc k,ws,[],by rw[aN];rfl,zY h1,.inr ⟨k,rfl,zY h3⟩,h2.grow⟩
  .exact⟨Z.length,.loc (Z.length+1),ws,[.lst ws,.lst #[xs,8]],by simp[zD,wV],dH _ _ _,.inr ⟨_,rfl,sZ _ _ _⟩,h2.grow⟩
  .exact⟨Z.length,.loc k,ws,[.lst ws],rfl,zT _ _,.inr ⟨k,rfl,zY h3⟩,h2.grow⟩
 obtain⟨out,T,c1,c2⟩:=Wr hf hm hx hn hF hG hl;rw[aA]at c1 c2;obtain⟨T',d1,d2⟩:=HU (n:=2) (F:=EF) (rs:=[r,q]) (S:=Z) (T:=T0++T) (ds:=out) rfl (by rw[hE];exact c1);refine⟨out,T',(Z++T0).length,d1,?_⟩;rcases d2 with rfl|⟨rfl,hlo⟩
 .exact c2
 .exact c2.cut hlo (by rw[lA];omega)
def So(vs:Za):Nat->List (List MV)
 |0=>[[]]
 |n+1=>vs.flatMap λv=>(So vs n).map (v::·)
theorem UN(vs:Za): ∀n,(So vs n).length=vs.length ^ n
 |0=>rfl
 |n+1=>by
  have: ∀us:List MV,(us.flatMap λv=>(So vs n).map (v::·)).length=us.length * (So vs n).length:=λus=>by
   induction us with
   |nil=>simp
   |cons u us ih=>rw[flatMap_cons,lA,ih,lM,lC,Nat.add_mul,Nat.one_mul,Nat.add_comm]
  rw[So,this,UN vs n,Nat.pow_succ,Nat.mul_comm]
theorem UO{vs:Za}: ∀{k:Za},(∀d∈k,d∈vs)->k∈So vs k.length
 |[],_=>mS.mpr rfl
 |d::k,h=>mem_flatMap.mpr ⟨d,h d mF0,mM.mpr ⟨k,UO λx hx=>h x (mO _ hx),rfl⟩⟩
def LN{vs:Za}{P:Zg}{n:Nat}(hn:P.Nodup)(h: ∀k∈P,k.length=n/\ ∀d∈k,d∈vs):P.length<=vs.length ^ n:=by rw[<-UN];exact hn.length_le_of_subset λk hk=>by obtain⟨rfl,h2⟩:=h k hk;exact UO h2
def wM{as:List Rw}{x:Db}:x∈cM as↔ ∃b∈as, ∃t∈b.2,vn t=some x:=by simp[cM,mem_flatMap,mem_filterMap]
def Co{rows as:List Rw}{vs:Za}{σ:List Nat->MV}(hv: ∀r∈rows, ∀c∈r.2,c∈vs)(m: ∀b∈as,Mt rows b σ){x:Db}(hx:x∈cM as):σ x∈vs:=by obtain⟨b,hb,t,ht,e⟩:=wM.mp hx;refine hv _ (m b hb) (σ x) (mM.mpr ⟨t,ht,?_⟩);unfold LI;rw[e]
def uM{S:Sto}{l:Nat}{x:Db}{fs:Ch}(neg:Bool)(h:S[l]? =#[fs.map MV.str,2]):FG neg (.val (.str x)) #[l,1] S=#[.bl (if neg=true then !decide (x∈fs)else decide (x∈fs)),S,1]:=by rw[lK neg h (iI x) CN,dec_is CO]
def UP{cf:AZ}{ef:AX}{ρb:Rho}{Z:Sto}{gs:Zd}{xs:Ch}{p:List Nat->Bool}(hs:stay gs Z)(hc: ∀x,cf (#[x,4]::ρb) Z=.ok (p x) Z)(he: ∀x,ef (#[x,4]::ρb) Z=#[.str x,Z,1]):yF (zV 0) cf ef (none::ρb) gs #[xs,8] Z=.ok ((xs.filter p).map MV.str) Z:=
 ES hs λx _=>⟨#[x,4]::ρb,rfl,hc x,he x⟩
theorem OX(xs:Ch)(Ds:List OD): ∀Gs:List Ev,(joinM xs Gs Ds).length<=Gs.length * Ds.length
 |[]=>by simp[joinM]
 |G::Gs=>by have h1:=OX xs Ds Gs;have h2:(RM xs Ds (yM xs G)).length<=Ds.length:=List.length_filter_le _ _;show((RM xs Ds (yM xs G)).map _++joinM xs Gs Ds).length<=_;rw[lA,lM,lC,Nat.succ_mul];omega
def Jw{os:Za}{Ms:List Ev}(h:os.length=Ms.length)(N:Ev):N∈Ms↔ ∃D∈os.zip Ms,D.2=N:=by rw[<-mM,List.map_snd_zip (le_of_eq h.symm)]
def Jx(xs:Ch)(Gs:List Ev):(oZ xs Gs).length<=Gs.length:=by
 have: ∀(Gs:List Ev)(P:Zg),(UI xs Gs P).length<=P.length+Gs.length:=λGs=>by
  induction Gs with
  |nil=>exact λP=>Nat.le_refl _
  |cons G Gs ih=>
   intro P;have h1:=ih (LF P (yM xs G));have h2:=LG P (yM xs G);show(UI xs Gs (LF P (yM xs G))).length<=_;rw[lC];omega
 rw[oZ,lM];simpa using this Gs []
structure QC(rows as:List Rw)(hd:Ch)(vs:Za)(ys:Ch):Prop where
 hv: ∀r∈rows, ∀c∈r.2,c∈vs
 vv: ∀v∈vs,VS v
 v1:1<=vs.length
 rl:rows.length<=90
 ha: ∀b∈as,(∀d∈b.2,cL d)/\b.2.length<=4
 hw: ∀b∈as, ∀r∈rows,r.1=b.1->b.2.length=r.2.length
 al:as.length<=10
 hh: ∀x∈hd,x∈cM as
 hl:hd.length<=10
 hy: ∀x∈cM as,x∈ys
 yl:ys.length<=10
 pw:vs.length ^ ys.length<=100
 ph:vs.length ^ hd.length<64
structure MC(S:Sto)(lr lm:Nat)(rows as:List Rw)(hd:Ch)(vs:Za)(ys:Ch):Prop extends QC rows as hd vs ys where
 hr:S[lr]? =#[rows.map zK,2]
 hm:S[lm]? =some (.lst (rows.map λ_=>.int 1))
abbrev MR(lr lm:Nat)(H A:Za)(lk lf:Nat)(p b c d e f g:Zb):Rho:=[#[lr],#[lm],#[[.tup H,.tup A],3],#[H,3],#[A,3],#[lk],#[lf],p,b,c,d,e,f,g]
structure MI(S:Sto)(rows:List Rw)(hd:Ch)(done rest:List Rw)(kn:Ch)(ws:Za)(Gs:List Ev)(n0:Nat)(mk:Int)(lk lf:Nat)(Z:Sto):Prop where
 ex: ∃T,Z=S++T
 k:Z[lk]? =#[kn.map MV.str,2]
 f:Z[lf]? =#[ws,2]
 F:Fts Z n0 mk ws Gs
 b: ∀Y,AM #[mk,5] #[1,5] Y=.ok #[1,5] Y
 I:FI rows done kn Gs
 nd:kn.Nodup
 kk: ∀x,x∈kn↔x∈cM done/\(x∈hd\/x∈cM rest)
 gl:Gs.length<=100
 gL: ∀G∈Gs,G.length<=1000
theorem RP(xs:Ch): ∀(Gs:List Ev){P:Zg},P.Nodup->(UI xs Gs P).Nodup
 |[],_,h=>h
 |G::Gs,_,h=>RP xs Gs (Rp h (yM xs G))
section
variable{S:Sto}{lr lm:Nat}{rows as:List Rw}{hd:Ch}{vs:Za}{ys:Ch}
def Jy(C:MC S lr lm rows as hd vs ys){a:Rw}{done rest:List Rw}(ea:as=done++a::rest){kn:Ch}{ws:Za}{Gs:List Ev}{n0:Nat}{mk:Int}{lk lf:Nat}{Z:Sto}(M:MI S rows hd done (a::rest) kn ws Gs n0 mk lk lf Z)(c d e f g:Zb):
  ∃kn' ws' Gs' n0' lk' lf' c' d' e' f' g' Z',yU (MR lr lm #[hd,8] #[as,9] lk lf #[(done.length:Nat),0] (some (zK a)) c d e f g) Z=#[MR lr lm #[hd,8] #[as,9] lk' lf' #[(done.length:Nat),0] (some (zK a)) c' d' e' f' g',Z',0]/\MI S rows hd (done++[a]) rest kn' ws' Gs' n0' 1 lk' lf' Z':=by
 obtain⟨T0,hT0⟩:=M.ex;have ham:a∈as:=by rw[ea];simp
 have hrm: ∀b∈rest,b∈as:=λb hb=>by rw[ea];simp[hb]
 have hal:=C.al;have hrl:rest.length<=10:=by rw[ea]at hal;simp at hal;omega
 have vv: ∀r∈rows, ∀c∈r.2,VS c:=λr hr c hc=>C.vv c (C.hv r hr c hc);obtain⟨own,ho⟩: ∃own,own=yX [] (cM [a]):=⟨_,rfl⟩
 have hown: ∀x,x∈own↔ ∃t∈a.2,vn t=some x:=λx=>by rw[ho,mV,wM];simp
 have hol:own.length<=4:=by
  have h1:=qL (cM [a]) [];have h2:(cM [a]).length<=a.2.length:=by simp only[cM,flatMap_cons,List.flatMap_nil,aN];exact length_filterMap_le _ _
  have h3:=(C.ha a ham).2;rw[ho];simp at h1;omega
 have hon:own.Nodup:=by rw[ho];exact CP _ nodup_nil
 obtain⟨sh,hsh⟩: ∃sh,sh=own.filter λx=>decide (x∈kn):=⟨_,rfl⟩
 obtain⟨ask,hask⟩: ∃ask,ask=hd++yX [] (cM rest):=⟨_,rfl⟩
 obtain⟨ow,how⟩: ∃ow,ow=own.filter λx=>if decide (x∈sh)=true then true else decide (x∈ask):=⟨_,rfl⟩
 obtain⟨nw,hnw⟩: ∃nw,nw=own.filter λx=>!decide (x∈sh):=⟨_,rfl⟩
 obtain⟨kn',hkn⟩: ∃kn',kn'=(kn++nw).filter λx=>decide (x∈ask):=⟨_,rfl⟩
 have msh: ∀x,x∈sh↔x∈own/\x∈kn:=λx=>by rw[hsh];simp
 have mask: ∀x,x∈ask↔x∈hd\/x∈cM rest:=λx=>by rw[hask,List.mem_append,mV];simp
 have mow: ∀x,x∈ow↔x∈own/\(x∈sh\/x∈ask):=λx=>by rw[how];simp
 have mkn: ∀x,x∈kn'↔(x∈kn\/x∈own)/\x∈ask:=λx=>by
  rw[hkn,hnw];simp only[List.mem_filter,List.mem_append,msh]
  grind
 have ndk:kn'.Nodup:=by rw[hkn];refine List.Pairwise.filter _ (nodup_append.mpr ⟨M.nd,hnw▸List.Pairwise.filter _ hon,λx hx y hy e=>?_⟩);rw[hnw]at hy;simp[msh]at hy;exact hy.2.elim (· hy.1) (· (e▸hx))
 have kk': ∀x,x∈kn'↔x∈cM (done++[a])/\(x∈hd\/x∈cM rest):=λx=>by
  have e1:x∈cM (done++[a])↔x∈cM done\/x∈own:=by rw[hown];simp[wM,or_and_right,exists_or]
  have e2:x∈cM (a::rest)↔x∈own\/x∈cM rest:=by rw[hown];simp[wM]
  rw[mkn,mask,M.kk,e1,e2]
  grind
 have knl:kn'.length<=ys.length:=ndk.length_le_of_subset λx hx=>C.hy x (by obtain⟨b,hb,h⟩:=wM.mp ((kk' x).mp hx).1;exact wM.mpr ⟨b,by rw[ea];simp at hb ⊢; exact hb.imp id .inl,h⟩);have hyl:=C.yl;have hG1: ∀G∈Gs,Has sh G/\G.length<=1000:=λG hG=>⟨⟨(M.I.dom G hG).1,λx hx=>((M.I.dom G hG).2 x).mpr ((msh x).mp hx).2⟩,M.gL G hG⟩
 have hFo: ∀G∈gF rows a,Has ow G:=λG hG=>by have:=(OU (C.ha a ham).1 (C.hw a ham) vv hown hG).2;exact⟨this.1,λx hx=>this.2 x ((mow x).mp hx).1⟩
 have hrw:=C.rl;have fl:(gF rows a).length<=rows.length:=Nat.le_trans (length_filterMap_le _ _) (List.length_filter_le _ _);have zl: ∀(xs:Ch)(k:Za),(wW xs k).length<=xs.length:=λxs k=>by unfold wW;rw[length_zip,lM];omega
 have up: ∀{Y:Sto}{l:Nat}{o x:MO},Y[l]? =some o->(Y++[x])[l]? =some o:=λh=>zY h;obtain⟨Z1,q1⟩: ∃Y,Y=Z++[MO.lst #[own,8]]:=⟨_,rfl⟩
 obtain⟨Z2,q2⟩: ∃Y,Y=Z1++[MO.lst #[sh,8]]:=⟨_,rfl⟩
 obtain⟨Z3,q3⟩: ∃Y,Y=Z2++[MO.lst #[ask,8]]:=⟨_,rfl⟩
 have u3: ∀{l:Nat}{o:MO},Z[l]? =some o->Z3[l]? =some o:=λh=>by rw[q3,q2,q1];exact up (up (up h))
 have a9:Z1[Z.length]? =#[own.map MV.str,2]:=by rw[q1];exact zT _ _
 have a10:Z2[Z1.length]? =#[sh.map MV.str,2]:=by rw[q2];exact zT _ _
 have a11:Z3[Z2.length]? =#[ask.map MV.str,2]:=by rw[q3];exact zT _ _
 have b9:Z3[Z.length]? =#[own.map MV.str,2]:=by rw[q3,q2];exact up (up a9)
 have b10:Z3[Z1.length]? =#[sh.map MV.str,2]:=by rw[q3];exact up a10
 have uS: ∀{l:Nat}{o:MO},S[l]? =some o->Z3[l]? =some o:=λh=>u3 (by rw[hT0];exact zY h);obtain⟨T4,w4,f1,f2⟩:=Wp (uS C.hr) (uS C.hm) vv #[] (C.ha a ham);obtain⟨out,T5,n5,c1,c2⟩:=OW (q:=.new #[ow,8]) (.inr ⟨w4,rfl,f2⟩) (.inl rfl) (by have:=List.length_filter_le (λx=>if decide (x∈sh)=true then true else decide (x∈ask)) own;rw[<-how]at this;omega) (how▸List.Pairwise.filter _ hon) hFo #[];obtain⟨Z4,q4⟩: ∃Y,Y=Z3++T4++T5++[MO.lst out]:=⟨_,rfl⟩
 obtain⟨Z5,q5⟩: ∃Y,Y=Z4++[MO.lst #[nw,8]]:=⟨_,rfl⟩
 obtain⟨Z6,q6⟩: ∃Y,Y=Z5++[MO.lst #[kn',8]]:=⟨_,rfl⟩
 have u4: ∀{l:Nat}{o:MO},Z3[l]? =some o->Z4[l]? =some o:=λh=>by rw[q4];exact zY (zY (zY h))
 have u6: ∀{l:Nat}{o:MO},Z4[l]? =some o->Z6[l]? =some o:=λh=>by rw[q6,q5];exact up (up h)
 have a12:Z4[(Z3++T4++T5).length]? =#[out,2]:=by rw[q4];exact zT _ _
 have a13:Z5[Z4.length]? =#[nw.map MV.str,2]:=by rw[q5];exact zT _ _
 have a5:Z6[Z5.length]? =#[kn'.map MV.str,2]:=by rw[q6];exact zT _ _
 have hMs: ∀N∈oZ ow (gF rows a),Has sh N/\N.length<=1000:=λN hN=>by obtain⟨G,hG,rfl⟩:=lN.mp hN;have:=LL (hFo G hG);refine⟨⟨this.1,λx hx=>(this.2 x).mpr ((mow x).mpr ⟨((msh x).mp hx).1,.inl hx⟩)⟩,Nat.le_trans (zl _ _) (by have:=List.length_filter_le (λx=>if decide (x∈sh)=true then true else decide (x∈ask)) own;rw[<-how]at this;omega)⟩
 have hml:=Jx ow (gF rows a);have F6:Fts Z6 n5 1 out (oZ ow (gF rows a)):=by rw[q6,q5,q4];exact c2.grow.grow.grow
 have hmul:(oZ ow (gF rows a)).length * Gs.length<=90 * 100:=mul_le_mul #[] M.gl;obtain⟨l7,T7,ts,j1,j2,j3,j4⟩:=jn_f (m:=.loc Z1.length) (u6 (u4 (u3 M.f))) (u6 a12) (.inr ⟨_,rfl,u6 (u4 b10)⟩) (show sh.length<1000 by have:=List.length_filter_le (λx=>decide (x∈kn)) own;rw[<-hsh]at this;omega) (Fts.move (λ_ _ h=>u6 (u4 (u3 h))) M.F) F6 hG1 hMs #[] #[] M.b;obtain⟨Js,hJs⟩: ∃Js,Js=joinM sh Gs (out.zip (oZ ow (gF rows a))):=⟨_,rfl⟩
 rw[<-hJs]at j4;have hzl:(out.zip (oZ ow (gF rows a))).length<=90:=by rw[length_zip];omega
 have hJl:Js.length<=9000:=by have:=OX sh (out.zip (oZ ow (gF rows a))) Gs;have h2:=mul_le_mul M.gl hzl;rw[<-hJs]at this;omega
 obtain⟨hKn,hFI⟩:=Jr (ask:=λx=>x∈ask) (Ds:=out.zip (oZ ow (gF rows a))) M.I (C.ha a ham).1 (C.hw a ham) vv hown msh mow mkn (λb hb t ht x hx ho=>(M.kk x).mpr ⟨wM.mpr ⟨b,hb,t,ht,hx⟩,.inr (wM.mpr (by obtain⟨t',h1,h2⟩:=(hown x).mp ho;exact⟨a,mF0,t',h1,h2⟩))⟩) (Jw F6.len);rw[<-hJs]at hKn hFI;obtain⟨r,T8,k1,k2⟩:=IA (n:=3) (F:=qE) (rs:=[#[lf,1],#[(Z3++T4++T5).length,1],#[Z1.length,1]]) rfl j1 #[] j3
 have hLs:Ls (Z6++T8) l7 r Js:=by
  rcases k2 with⟨rfl,rfl⟩|⟨rfl,rfl,hlo⟩
  .exact .inl ⟨l7,ts,rfl,j3,j4⟩
  .exact .inr ⟨ts,rfl,j4.cut hlo #[]⟩
 obtain⟨ws',T9,n9,m1,m2⟩:=OW (q:=#[Z5.length,1]) hLs (.inr ⟨_,rfl,zY a5⟩) #[] ndk hKn #[]
 have hgl:(oZ kn' Js).length<=100:=by
  refine Nat.le_trans ?_ (Nat.le_trans (Nat.pow_le_pow_right C.v1 knl) C.pw);rw[oZ,lM];refine LN (RP kn' Js nodup_nil) λk hk=>?_;rcases (uL kn' Js [] k).mp hk with h|⟨K,hK,rfl⟩
  .cases h
  .refine⟨lM _,λd hd=>?_⟩;obtain⟨x,hx,rfl⟩:=mM.mp hd;obtain⟨σ,s1,s2⟩:=hFI.snd _ (lN.mpr ⟨K,hK,rfl⟩);rw[<-CT (G:=K) hx,s2 x hx];exact Co C.hv s1 ((kk' x).mp hx).1
 have p1:zF 1 wA [.new [zK a]] Z=#[own.map MV.str,Z,2]:=ho▸Ro (as:=[a]) (λb hb=>by rw[mS.mp hb];exact C.ha a ham) (by simp);have p3:zF 1 wA [#[rest.map zK,6]] Z2=#[(yX [] (cM rest)).map MV.str,Z2,2]:=Wo (.inl rfl) (λb hb=>C.ha b (hrm b hb)) #[];have p3':jR (.new #[hd,8]) (.new ((yX [] (cM rest)).map MV.str)) Z2=#[ask.map MV.str,Z2,2]:=by rw[hask,List.map_append];exact JF rfl rfl (fits (by have h1:=C.hl;have h2:=CP (cM rest) (ks:=[]) nodup_nil;have h3:=h2.length_le_of_subset (l₂:=ys) λx hx=>C.hy x (by rw[mV]at hx;rw[wM]at hx ⊢; obtain h|⟨b,hb,h⟩:=hx;cases h;exact⟨b,hrm b hb,h⟩);simp only[lM];omega))
 have cut3:aQ #[as,9] (some ((done.length:Int)+1)) none=rest.map zK:=by rw[show(done.length:Int)+1=((done.length+1:Nat):Int) by simp,HR,ea,show done++a::rest=(done++[a])++rest by simp,List.map_append,List.drop_left' (by simp)]
 have hknw:kn.length+nw.length<=14:=by have h1:=M.nd.length_le_of_subset (l₂:=ys) λx hx=>C.hy x (by have:=((M.kk x).mp hx).1;rw[wM]at this ⊢; obtain⟨b,hb,h⟩:=this;exact⟨b,by rw[ea];simp[hb],h⟩);have h2:nw.length<=own.length:=hnw▸List.length_filter_le _ _;omega
 have p6:jR #[lk,1] #[Z4.length,1] Z5=#[(kn++nw).map MV.str,Z5,2]:=by rw[List.map_append];exact JF (JK (by rw[q5];exact up (u4 (u3 M.k)))) (JK a13) (fits (by simp only[lM];omega))
 refine⟨kn',ws',oZ kn' Js,n9,Z5.length,(Z6++T8++T9).length,#[Z.length],#[Z1.length],#[Z2.length],#[(Z3++T4++T5).length],#[Z4.length],Z6++T8++T9++[.lst ws'],?_,⟨?_,zY (zY (zY a5)),zT _ _,m2.grow,λ_=>rfl,hFI,ndk,kk',hgl,λG hG=>?_⟩⟩
 .unfold yU;apply zE
  .unfold kO;simp? [p1];rw[<-q1]
  apply zE
  .unfold kP;simp? [xZ a9,lM,show own.length<1000000 by omega];rw[show uW 1 [5] (MR lr lm #[hd,8] #[as,9] lk lf #[(done.length:Nat),0] (some (zK a)) #[Z.length] d e f g)=[none,#[lk]]from rfl,UP (p:=λx=>decide (x∈kn)) (yT a9) (λx=>by unfold kI;simp? [uM false (show Z1[lk]? =_ by rw[q1];exact up M.k),fT,iF]) (λ_=>rfl), <-hsh];simp? [<-q2];rfl
  apply zE
  .unfold kQ;simp? [show DT [#[hd.map MV.str,6]] Z2=#[hd.map MV.str,Z2,2] from rfl,Iw,cut3,p3,p3'];rw[<-q3]
  apply zE
  .unfold kR;simp? [f1,xZ (show(Z3++T4)[Z.length]? =_ from zY b9),lM,show own.length<1000000 by omega];rw[show uW 1 [10,11] (MR lr lm #[hd,8] #[as,9] lk lf #[(done.length:Nat),0] (some (zK a)) #[Z.length] #[Z1.length] #[Z2.length] f g)=[none,#[Z1.length],#[Z2.length]]from rfl,UP (p:=λx=>if decide (x∈sh)=true then true else decide (x∈ask)) (yT (zY b9)) (λx=>by unfold kL;simp? [uM false (show(Z3++T4)[Z1.length]? =_ from zY b10),uM false (show(Z3++T4)[Z2.length]? =_ from zY a11),fT,iF];split<;>rfl) (λ_=>rfl), <-how];simp? [c1];rw[<-q4]
  apply zE
  .unfold kS;simp? [xZ (u4 b9),lM,show own.length<1000000 by omega];rw[show uW 1 [10] (MR lr lm #[hd,8] #[as,9] lk lf #[(done.length:Nat),0] (some (zK a)) #[Z.length] #[Z1.length] #[Z2.length] #[(Z3++T4++T5).length] g)=[none,#[Z1.length]]from rfl,UP (p:=λx=>!decide (x∈sh)) (yT (u4 b9)) (λx=>by unfold kM;simp? [uM true (u4 b10)]) (λ_=>rfl), <-hnw];simp? [<-q5];rfl
  apply zE
  .unfold kT;simp? [p6,RH,lM,show(kn++nw).length<1000000 by rw[lA];omega];rw[show uW 1 [11] (MR lr lm #[hd,8] #[as,9] lk lf #[(done.length:Nat),0] (some (zK a)) #[Z.length] #[Z1.length] #[Z2.length] #[(Z3++T4++T5).length] #[Z4.length])=[none,#[Z2.length]]from rfl,UP (p:=λx=>decide (x∈ask)) (bO _) (λx=>by unfold kN;simp? [uM false (show Z5[Z2.length]? =_ by rw[q5];exact up (u4 a11)),fT,iF]) (λ_=>rfl), <-hkn];simp? [<-q6];rfl
  unfold kU;simp? [k1,m1]
 .exact⟨_,by rw[q6,q5,q4,q3,q2,q1,hT0];simp only[aA];rfl⟩
 .obtain⟨K,hK,rfl⟩:=lN.mp hG;exact Nat.le_trans (zl _ _) #[]
end
theorem Cp(E:Ev)(k d:MV):(putK E k d).map (·.1)=if k∈E.map (·.1)then E.map (·.1)else E.map (·.1)++[k]:=by
 unfold putK;by_cases h:k∈E.map (·.1)
 .have hs:(look E k).isSome=true:=by
   cases z:look E k with
   |none=>obtain⟨p,hp,e⟩:=mM.mp h;exact absurd e (Jl z p hp)
   |some d=>rfl
  rw[iP hs,iP h,List.map_map];exact map_congr_left λp _=>by simp only[Function.comp];split<;>rfl
 .rw[iN (λz=>h (OJ z)),iN h,List.map_append];rfl
theorem IB(xs:Ch)(m:MV): ∀(Gs:List Ev)(E:Ev)(P:Zg),E.map (·.1)=P.map MV.tup->((Gs.map λG=>(MV.tup (yM xs G),m)).foldl (λacc p=>putK acc p.1 p.2) E).map (·.1)=(UI xs Gs P).map MV.tup
 |[],_,_,h=>h
 |G::Gs,E,P,h=>IB xs m Gs _ (LF P (yM xs G)) (by
  have:MV.tup (yM xs G)∈P.map MV.tup↔yM xs G∈P:=⟨λz=>by obtain⟨k,hk,e⟩:=mM.mp z;exact MV.tup.inj e▸hk,λz=>mem_map_of_mem z⟩
  show(putK E (.tup (yM xs G)) m).map (·.1)=_;rw[Cp,h];unfold LF;by_cases z:yM xs G∈P
  .rw[iP z,iP (this.mpr z)]
  .rw[iN z,iN λy=>z (this.mp y),List.map_append];rfl)
theorem IC{xs:Ch}{m:MV}: ∀(Gs:List Ev),(∀G∈Gs,Has xs G)->fP (Gs.map λG=>.tup [.tup (yM xs G),m])=some (Gs.map λG=>(.tup (yM xs G),m))
 |[],_=>rfl
 |G::Gs,h=>by show(if keyOk (.tup (yM xs G))=true then(fP (Gs.map λG=>.tup [.tup (yM xs G),m])).map ((MV.tup (yM xs G),m)::·)else none)=_;rw[iP (EW (h G mF0).vs),IC Gs λK hK=>h K (mO _ hK)];rfl
def Dm(rows as:List Rw)(hd:Ch)(k:Za):Prop:= ∃σ:List Nat->MV,(∀b∈as,Mt rows b σ)/\k=hd.map σ
section
variable{S:Sto}{lr lm:Nat}{rows as:List Rw}{hd:Ch}{vs:Za}{ys:Ch}
theorem Cq(C:MC S lr lm rows as hd vs ys): ∀(rest done:List Rw),as=done++rest-> ∀{kn:Ch}{ws:Za}{Gs:List Ev}{n0:Nat}{mk:Int}{lk lf:Nat}{Z:Sto},MI S rows hd done rest kn ws Gs n0 mk lk lf Z-> ∀p b c d e f g:Option MV,
  ∃kn' ws' Gs' n0' mk' lk' lf' p' b' c' d' e' f' g' Z',xG (fG 2 (zA (zV 7) (zA (zV 8) zZ))) yU [] (((rest.map zK).zipIdx done.length).map λp=>.tup [.int (p.2:Nat),p.1]) (MR lr lm #[hd,8] #[as,9] lk lf p b c d e f g) Z=#[MR lr lm #[hd,8] #[as,9] lk' lf' p' b' c' d' e' f' g',Z',0]/\MI S rows hd as [] kn' ws' Gs' n0' mk' lk' lf' Z'
 |[],done,e0,kn,ws,Gs,n0,mk,lk,lf,Z,M,p,b,c,d,e,f,g=>⟨kn,ws,Gs,n0,mk,lk,lf,p,b,c,d,e,f,g,Z,rfl,by rw[aN]at e0;rw[e0];exact M⟩
 |a::rest,done,ea,kn,ws,Gs,n0,mk,lk,lf,Z,M,p,b,c,d,e,f,g=>by obtain⟨_,_,_,_,lk1,lf1,c1,d1,e1,f1,g1,Z1,h1,M1⟩:=Jy C ea M c d e f g;obtain⟨kn',ws',Gs',n0',mk',lk',lf',p',b',c',d',e',f',g',Z',h2,M2⟩:=Cq C rest (done++[a]) (by rw[ea];simp) M1 #[(done.length:Nat),0] (some (zK a)) c1 d1 e1 f1 g1;refine⟨kn',ws',Gs',n0',mk',lk',lf',p',b',c',d',e',f',g',Z',?_,M2⟩;rw[lA]at h2;rw[List.map_cons,zipIdx_cons,List.map_cons,zX (ρ0:=MR lr lm #[hd,8] #[as,9] lk lf #[(done.length:Nat),0] (some (zK a)) c d e f g) rfl h1 (bO _)];exact h2
def ma_f(C:MC S lr lm rows as hd vs ys): ∃(l:Nat)(T:Sto)(Ks:Zg)(kvs:Ev),xP [.loc lr,.loc lm,.tup [.tup #[hd,8],.tup #[as,9]]] S=.ok #[l,1] (S++T)/\S.length<=l/\bP (S++T) #[l,1]=some (l,kvs)/\(S++T)[l]? =#[kvs,7]/\kvs.map (·.1)=Ks.map MV.tup/\Ks.Nodup/\ ∀k,k∈Ks↔Dm rows as hd k:=by
 obtain⟨Z0,q0⟩: ∃Y,Y=S++[MO.lst [],.dic [],.lst [.tup [.loc (S.length+1),.int (-1)]]]:=⟨_,rfl⟩
 obtain⟨kn,ws,Gs,n0,mk,lk,lf,p,b,c,d,e,f,g,Z,hF,M⟩:=Cq C as [] rfl (kn:=[]) (ws:=[.tup [.loc (S.length+1),.int (-1)]]) (Gs:=[[]]) (n0:=0) (mk:= -1) (lk:=S.length) (lf:=S.length+2) (Z:=Z0) ⟨⟨_,q0⟩,by rw[q0];exact dH _ _ _,by rw[q0];exact KQ (i:=2) rfl,⟨⟨_,rfl,zero_le _,by rw[q0];exact KQ (i:=1) rfl⟩,trivial⟩,λ_=>rfl,⟨λG hG=>by rw[mS.mp hG];exact⟨LC,λx=>⟨λz=>absurd rfl z,λz=>by cases z⟩⟩,λG _=>⟨λ_=>.non,(λb hb=>by cases hb),λx hx=>by cases hx⟩,λσ _=>⟨[],mS.mpr rfl,λx hx=>by cases hx⟩⟩,nodup_nil,λx=>by simp[cM],by simp,λG hG=>by rw[mS.mp hG];simp⟩ none none none none none none none;obtain⟨T,hT⟩:=M.ex;have hk: ∀x,x∈kn↔x∈hd:=λx=>by rw[M.kk x];exact⟨λh=>h.2.elim id λz=>by simp[cM]at z,λh=>⟨C.hh x h,.inl h⟩⟩
 have hH: ∀G∈Gs,Has hd G:=λG hG=>⟨(M.I.dom G hG).1,λx hx=>((M.I.dom G hG).2 x).mpr ((hk x).mpr hx)⟩
 have hlen:=M.F.len;have hgl:=M.gl
 have hc:yF (fG 2 (zA (zV 0) (zA (zV 1) zZ))) xA yI [none,none,#[hd.map MV.str,3]] [(lf,ws)] ws Z=.ok (Gs.map λG=>.tup [.tup (yM hd G),.int mk]) Z:=by
  have:=mW (f:=Prod.fst) (g:=λD:MV×Ev=>.tup [.tup (yM hd D.2),.int mk]) (gf:=fG 2 (zA (zV 0) (zA (zV 1) zZ))) (cf:=xA) (ef:=yI) (ρb:=[none,none,#[hd.map MV.str,3]]) (yT M.f) (ds:=ws.zip Gs) λD hD=>by obtain⟨h1,e,h2,h3⟩:=LH M.F D hD;refine⟨[#[e],#[mk,0],#[hd.map MV.str,3]],by rw[h2];rfl,rfl,?_⟩;have h4:zF 2 yE [#[e,1],#[hd.map MV.str,6]] Z=.ok #[yM hd D.2,6] Z:=UF h3 (hH _ h1).1 (.inl rfl) (hH _ h1).2 (by have:=C.hl;omega);unfold yI;simp? [h4]
  rw[List.map_fst_zip (le_of_eq hlen)]at this;rw[this,show(ws.zip Gs).map (λD=>MV.tup [.tup (yM hd D.2),.int mk])=((ws.zip Gs).map Prod.snd).map λG=>MV.tup [.tup (yM hd G),.int mk] by rw[List.map_map];rfl,List.map_snd_zip (le_of_eq hlen.symm)]
 obtain⟨kvs,hkv⟩: ∃kvs,kvs=NT (Gs.map λG=>(MV.tup (yM hd G),MV.int mk)):=⟨_,rfl⟩
 have hke:kvs.map (·.1)=(UI hd Gs []).map MV.tup:=by rw[hkv];exact IB hd _ Gs [] [] rfl
 refine⟨Z.length,T++[.dic kvs],UI hd Gs [],kvs,?_,by rw[hT,lA];omega,?_,by rw[<-aA, <-hT];exact zT _ _,hke,RP hd Gs nodup_nil,λk=>?_⟩
 .show yB (jE [#[lr],#[lm],#[[.tup #[hd,8],.tup #[as,9]],3],none,none,none,none,none,none,none,none,none,none,none] S)=_;unfold jE;rw[zC (show gW _ S=#[[#[lr],#[lm],#[[.tup #[hd,8],.tup #[as,9]],3],#[hd.map MV.str,3],none,none,none,none,none,none,none,none,none,none],S,0] from rfl),zC (show gX _ S=#[[#[lr],#[lm],#[[.tup #[hd,8],.tup #[as,9]],3],#[hd.map MV.str,3],#[as.map zK,3],none,none,none,none,none,none,none,none,none],S,0] from rfl)];rw[zC (show wC [#[lr],#[lm],#[[.tup #[hd,8],.tup #[as,9]],3],#[hd.map MV.str,3],#[as.map zK,3],none,none,none,none,none,none,none,none,none] S=#[[#[lr],#[lm],#[[.tup #[hd,8],.tup #[as,9]],3],#[hd.map MV.str,3],#[as.map zK,3],#[S.length],none,none,none,none,none,none,none,none],S++[.lst []],0] by unfold wC;simp? [jS])];rw[zC (show wD [#[lr],#[lm],#[[.tup #[hd,8],.tup #[as,9]],3],#[hd.map MV.str,3],#[as.map zK,3],#[S.length],none,none,none,none,none,none,none,none] (S++[.lst []])=#[MR lr lm #[hd,8] #[as,9] S.length (S.length+2) none none none none none none none,Z0,0] by unfold wD;simp? [AK];rw[q0];simp)];rw[zC (show wF (MR lr lm #[hd,8] #[as,9] S.length (S.length+2) none none none none none none none) Z0=#[MR lr lm #[hd,8] #[as,9] lk lf p b c d e f g,Z,0] by unfold wF;simp? [Iz];exact hF)];unfold gY;simp? [xZ M.f,show ws.length<1000000 by omega];rw[show uW 2 [3] (MR lr lm #[hd,8] #[as,9] lk lf p b c d e f g)=[none,none,#[hd.map MV.str,3]]from rfl,hc];simp? [show HP [.new (Gs.map λG=>.tup [.tup (yM hd G),.int mk])] Z=.ok #[Z.length,1] (Z++[.dic kvs]) by unfold HP;dsimp only;rw[show(kH Z (.new (Gs.map λG=>.tup [.tup (yM hd G),.int mk]))).bind fP=fP (Gs.map λG=>.tup [.tup (yM hd G),.int mk])from rfl,IC Gs hH,hkv]];rw[hT,aA];rfl
 .rw[<-aA, <-hT];unfold bP;dsimp only;rw[zT];dsimp only;rw[iP];rw[List.all_eq_true];intro q hq;have:q.1∈kvs.map (·.1):=mem_map_of_mem hq;rw[hke]at this;obtain⟨k,_,e⟩:=mM.mp this;rw[<-e];rfl
 .rw[uL];constructor
  .rintro(h|⟨G,hG,rfl⟩)
   .cases h
   .obtain⟨σ,s1,s2⟩:=M.I.snd G hG;exact⟨σ,s1,map_congr_left λx hx=>s2 x ((hk x).mpr hx)⟩
  .rintro⟨σ,h1,rfl⟩;obtain⟨G,hG,h2⟩:=M.I.cmp σ h1;exact .inr ⟨G,hG,map_congr_left λx hx=>(h2 x ((hk x).mpr hx)).symm⟩
def EY(Q:QC rows as hd vs ys){k:Za}(h:Dm rows as hd k):k.length=hd.length/\ ∀d∈k,d∈vs:=by obtain⟨σ,h1,rfl⟩:=h;refine⟨lM _,λd hd=>?_⟩;obtain⟨x,hx,rfl⟩:=mM.mp hd;exact Co Q.hv h1 (Q.hh x hx)
theorem Wt(Q:QC rows as hd vs ys)(hr:S[lr]? =#[rows.map zK,2]): ∃(Ks:Zg)(T:Sto),Ks.Nodup/\(∀k,k∈Ks↔Dm rows as hd k)/\yZ [.loc lr,.tup [.tup #[hd,8],.tup #[as,9]]] S=#[(pA Ks).map MV.tup,S++T,2]:=by
 obtain⟨l,T,Ks,kvs,h1,h2,h3,h4,h5,h6,h7⟩:=ma_f (S:=S++[.lst (rows.map λ_=>.int 1)]) (lr:=lr) (lm:=S.length) ⟨Q,zY hr,zT _ _⟩;have hrl:=Q.rl;have hK: ∀k∈Ks,k.length=hd.length/\ ∀d∈k,d∈vs:=λk hk=>EY Q ((h7 k).mp hk);have e1:yF (zV 0) lQ lR [none] [(lr,rows.map zK)] #[rows,9] S=.ok (rows.map λ_=>.int 1) S:=mW (yT hr) λr _=>⟨[some (zK r)],rfl,rfl,rfl⟩
 have e2:zF 3 xP [#[lr,1],.new (rows.map λ_=>.int 1),#[[.tup #[hd,8],.tup #[as,9]],6]] S=.ok #[l,1] (S++[.lst (rows.map λ_=>.int 1)]++T):=XF rfl h1 (by rw[lA]at h2;omega) h4;have e3:vV [#[l,1]] (S++[.lst (rows.map λ_=>.int 1)]++T)=#[Ks.map MV.tup,S++[.lst (rows.map λ_=>.int 1)]++T,2]:=by unfold vV;dsimp only;rw[h3];dsimp only;rw[h5]
 have e4:=Jv (λt ht d hd=>Q.vv d ((hK t ht).2 d hd)) (λt ht=>(hK t ht).1) (by have:=Q.hl;omega) h6 (lt_of_le_of_lt (LN h6 hK) Q.ph) (S++[.lst (rows.map λ_=>.int 1)]++T);refine⟨Ks,[.lst (rows.map λ_=>.int 1)]++T,h6,h7,?_⟩;show yB (rB [#[lr],#[[.tup #[hd,8],.tup #[as,9]],3]] S)=_;unfold rB qF;simp? [xZ hr,lM,show rows.length<1000000 by omega];rw[show uW 1 [] [some (MV.loc lr),#[[.tup #[hd,8],.tup #[as,9]],3]]=[none]from rfl,e1];simp? [e2,e3,e4];rw[aA];rfl
end
abbrev LD:=Nat×Ev
abbrev FK(es:List LD):List MV:=es.map λp=>.loc p.1
def Bh(n:Nat)(T:Sto)(es:List LD):Prop:= ∀p∈es, ∃j,p.1=n+(j+1)/\T[j]? =#[p.2,7]
def Bh.at{B T:Sto}{o:MO}{es:List LD}(h:Bh B.length T es): ∀p∈es,(B++o::T)[p.1]? =#[p.2,7]:=λp hp=>by obtain⟨j,h1,h2⟩:=h p hp;rw[h1,KQ rfl];exact h2
structure CI(vs:Za)(ks:Ch)(Es:List Ev):Prop where
 ok: ∀E∈Es,qN E/\ ∀x∈ks,look E (.str x)≠none
 all: ∀σ:List Nat->MV,(∀x∈ks,σ x∈vs)-> ∃E∈Es, ∀x∈ks,cN E x=σ x
 len:Es.length<=4 ^ ks.length
def CI.step{vs:Za}{ks:Ch}{Es:List Ev}(hv: ∀v∈vs,VS v)(h4:vs.length<=4)(h:CI vs ks Es)(x:Db)(hx:x∉ks):CI vs (ks++[x]) (Es.flatMap λE=>vs.map λv=>putK E (.str x) v):=by
 have hp: ∀(E:Ev)(v:MV)(y:Db),look (putK E (.str x) v) (.str y)=if x=y then some v else look E (.str y):=λE v y=>by rw[EX];simp
 refine⟨λE hE=>?_,λσ hσ=>?_,?_⟩
 .obtain⟨E0,h0,hE⟩:=mem_flatMap.mp hE;obtain⟨v,hv',rfl⟩:=mM.mp hE;refine⟨UK (p:=(.str x,v)) (h.ok E0 h0).1 ⟨⟨x,rfl⟩,hv v hv'⟩,λy hy=>?_⟩;rw[hp];split
  .simp
  .rename_i e;exact(h.ok E0 h0).2 y ((List.mem_append.mp hy).resolve_right λz=>e (mS.mp z).symm)
 .obtain⟨E,hE,h1⟩:=h.all σ λy hy=>hσ y (mem_append_left _ hy);refine⟨_,mem_flatMap.mpr ⟨E,hE,mM.mpr ⟨σ x,hσ x (by simp),rfl⟩⟩,λy hy=>?_⟩;have e:=hp E (σ x) y;split at e
  .rename_i q;rw[bG e,q]
  .rename_i q;rw[<-h1 y ((List.mem_append.mp hy).resolve_right λz=>q (mS.mp z).symm)];unfold cN;rw[e]
 .have: ∀us:List Ev,(us.flatMap λE=>vs.map λv=>putK E (.str x) v).length<=us.length * 4:=λus=>by
   induction us with
   |nil=>simp
   |cons u us ih=>rw[flatMap_cons,lA,lM,lC];omega
  have h1:=this Es;have h2:=h.len;rw[lA,lS,Nat.pow_succ];omega
abbrev C8(lp ln lf:Nat)(x:Zb)(lm:Nat)(v u w:Zb):Rho:=[#[lp],#[ln],#[lf],x,#[lm],v,u,w]
section
variable{B:Sto}{lp ln lf:Nat}{vs:Za}
theorem Kw{x:Db}{e:Nat}{E:Ev}(hp:B[lp]? =#[vs,2])(he:B[e]? =#[E,7])(hE:qN E)(hEl:E.length<1000): ∀(us:Za)(ts:List LD)(T:Sto)(u w:Zb),Bh B.length T ts->ts.length+us.length<100000->
  ∃ts' T' u' w',xG (zV 6) jL [(lp,vs)] us (C8 lp ln lf #[x,4] B.length #[e] u w) (B++.lst (FK ts)::T)=#[C8 lp ln lf #[x,4] B.length #[e] u' w',(B++.lst (FK ts')::T'),0]/\Bh B.length T' ts'/\ts'.map Prod.snd=ts.map Prod.snd++us.map λv=>putK E (.str x) v
 |[],ts,T,u,w,h,_=>⟨ts,T,u,w,rfl,h,by simp⟩
 |v::us,ts,T,u,w,h,hl=>by
  rw[lC]at hl;obtain⟨Z,hZ⟩: ∃Z,Z=B++MO.lst (FK ts)::T:=⟨_,rfl⟩
  have he':Z[e]? =#[E,7]:=by rw[hZ];exact zY he
  have hd:=AU (zT Z (.dic E)) hE;have hm:(Z++[.dic (putK E (.str x) v)])[B.length]? =#[FK ts,2]:=zY (by rw[hZ];exact dH _ _ _);have hT:Z.length=B.length+(T.length+1):=by rw[hZ];simp
  obtain⟨ts',T',u',w',h1,h2,h3⟩:=Kw (x:=x) hp he hE hEl us (ts++[(Z.length,putK E (.str x) v)]) (T++[.dic (putK E (.str x) v)]) (some v) #[Z.length] (λp hp'=>by
   rcases List.mem_append.mp hp' with hp'|hp'
   .obtain⟨j,j1,j2⟩:=h p hp';exact⟨j,j1,zY j2⟩
   .rw[mS.mp hp'];exact⟨T.length,hT,zT _ _⟩) (by simp;omega)
  refine⟨ts',T',u',w',?_,h2,by rw[h3];simp⟩;rw[zX (ρ0:=C8 lp ln lf #[x,4] B.length #[e] (some v) w) (ρ':=C8 lp ln lf #[x,4] B.length #[e] (some v) #[Z.length]) (S':=B++.lst (FK (ts++[(Z.length,putK E (.str x) v)]))::(T++[.dic (putK E (.str x) v)])) rfl ?_ (yT (zY hp)),h1];unfold jL;rw[<-hZ];apply zE
  .unfold gZ;simp? [By he' hE];rfl
  apply zE
  .unfold bA;simp? [CL,show∀ρ,tZ #[Z.length,1] (.val (.str x)) v ρ (Z++[.dic E])=.ok ρ (Z++[.dic (putK E (.str x) v)])from λρ=>by unfold tZ;dsimp only;rw[hd];dsimp only;rw[iP ⟨rfl,by omega⟩,gD]];rfl
  unfold bB;simp? [yV hm,wL hm (show(FK ts).length<1000000 by rw[lM];omega)];rw[hZ,aA,List.cons_append,KP,show∀q,FK (ts++[q])=FK ts++[.loc q.1]from λq=>List.map_append]
theorem Cr{x:Db}{found:Za}(hp:B[lp]? =#[vs,2])(hf:B[lf]? =#[found,2])(h4:vs.length<=4): ∀(es:List LD)(ts:List LD)(T:Sto)(v u w:Zb),(∀p∈es,B[p.1]? =#[p.2,7]/\qN p.2/\p.2.length<1000)->Bh B.length T ts->ts.length+4 * es.length<10000->
  ∃ts' T' v' u' w',xG (zV 5) xT [(lf,found)] (FK es) (C8 lp ln lf #[x,4] B.length v u w) (B++.lst (FK ts)::T)=#[C8 lp ln lf #[x,4] B.length v' u' w',(B++.lst (FK ts')::T'),0]/\Bh B.length T' ts'/\ts'.map Prod.snd=ts.map Prod.snd++(es.map Prod.snd).flatMap λE=>vs.map λv=>putK E (.str x) v
 |[],ts,T,v,u,w,_,h,_=>⟨ts,T,v,u,w,rfl,h,by simp⟩
 |p::es,ts,T,v,u,w,he,h,hl=>by
  rw[lC]at hl;obtain⟨e1,e2,e3⟩:=he p mF0;obtain⟨ts1,T1,u1,w1,h1,h2,h3⟩:=Kw (ln:=ln) (lf:=lf) (x:=x) hp e1 e2 e3 vs ts T u w h #[];have hlen:ts1.length=ts.length+vs.length:=by have:=congrArg List.length h3;simpa using this
  obtain⟨ts',T',v',u',w',g1,g2,g3⟩:=Cr (x:=x) hp hf h4 es ts1 T1 #[p.1] u1 w1 (λq hq=>he q (mO _ hq)) h2 #[];refine⟨ts',T',v',u',w',?_,g2,by rw[g3,h3];simp⟩;rw[FK,List.map_cons,zX (ρ0:=C8 lp ln lf #[x,4] B.length #[p.1] u w) rfl (show xT _ _=_ by unfold xT bC;simp? [xZ (show(B++MO.lst (FK ts)::T)[lp]? =_ from zY hp)];exact h1) (yT (zY hf))];exact g1
end
def Rx{vs:Za}{E:Ev}{x:Db}{v:MV}:(putK E (.str x) v).length<=E.length+1:=by unfold putK;split<;>simp
theorem Cs{S:Sto}{lp ln:Nat}{vs:Za}{all:Ch}(hp:S[lp]? =#[vs,2])(hn:S[ln]? =#[all.map MV.str,2])(hV: ∀v∈vs,VS v)(h4:vs.length<=4): ∀(ks done:Ch)(B:Sto)(lf:Nat)(es:List LD)(x m v u w:Zb),(done++ks).Nodup->done.length+ks.length<=4->(∃T,B=S++T)->B[lf]? =#[FK es,2]->(∀p∈es,S.length<=p.1/\B[p.1]? =#[p.2,7]/\p.2.length<=done.length)->CI vs done (es.map Prod.snd)->
  ∃es' B' lf' x' m' v' u' w',xG (zV 3) jM [(ln,all.map MV.str)] #[ks,8] [#[lp],#[ln],#[lf],x,m,v,u,w] B=#[[#[lp],#[ln],#[lf'],x',m',v',u',w'],B',0]/\(∃T,B'=S++T)/\B'[lf']? =#[FK es',2]/\(∀p∈es',S.length<=p.1/\B'[p.1]? =#[p.2,7])/\CI vs (done++ks) (es'.map Prod.snd)/\(ks≠[]->S.length<=lf')
 |[],done,B,lf,es,x,m,v,u,w,_,_,hB,h1,h2,h3=>⟨es,B,lf,x,m,v,u,w,rfl,hB,h1,λp hp=>⟨(h2 p hp).1,(h2 p hp).2.1⟩,by rw[aN];exact h3,λz=>absurd rfl z⟩
 |k::ks,done,B,lf,es,x,m,v,u,w,nd,hl,hB,h1,h2,h3=>by
  rw[lC]at hl;obtain⟨T0,hB⟩:=hB;have hBl:S.length<=B.length:=by rw[hB];simp
  have upS: ∀{l:Nat}{o:MO},S[l]? =some o->B[l]? =some o:=λh=>by rw[hB];exact zY h
  have hel:es.length<=64:=by have:=h3.len;rw[lM]at this;exact Nat.le_trans this (Nat.le_trans (Nat.pow_le_pow_right (by decide) (show done.length<=3 by omega)) (by decide))
  obtain⟨ts,T,v',u',w',g1,g2,g3⟩:=Cr (ln:=ln) (x:=k) (upS hp) h1 h4 es [] [] v u w (λp hp=>⟨(h2 p hp).2.1,(h3.ok _ (mem_map_of_mem hp)).1,by have:=(h2 p hp).2.2;omega⟩) (λp hp=>by cases hp) (by simp;omega);have e:done++k::ks=(done++[k])++ks:=by simp
  rw[e]at nd ⊢;have hk:k∉done:=λz=>(nodup_append.mp (nodup_append.mp nd).1).2.2 k z k (by simp) rfl;obtain⟨es',B',lf',x',m',v2,u2,w2,f1,f2,f3,f4,f5,f6⟩:=Cs hp hn hV h4 ks (done++[k]) (B++.lst (FK ts)::T) B.length ts #[k,4] #[B.length] v' u' w' nd (by simp;omega) ⟨_,by rw[hB,aA]⟩ (dH _ _ _) (λp hp=>⟨by obtain⟨j,hj,_⟩:=g2 p hp;omega,g2.at p hp,by have:p.2∈ts.map Prod.snd:=mem_map_of_mem hp;rw[g3]at this;simp only[List.map_nil,List.nil_append,mem_flatMap,mM]at this;obtain⟨E,⟨q,hq,rfl⟩,v,_,e⟩:=this;rw[<-e,lA,lS];exact Nat.le_trans (Rx (vs:=vs)) (by have:=(h2 q hq).2.2;omega)⟩) (by rw[g3];exact h3.step hV h4 k hk);refine⟨es',B',lf',x',m',v2,u2,w2,?_,f2,f3,f4,f5,λ_=>?_⟩
  .rw[List.map_cons,zX (ρ0:=[#[lp],#[ln],#[lf],#[k,4],m,v,u,w]) (ρ':=[#[lp],#[ln],#[B.length],#[k,4],#[B.length],v',u',w']) (S':=B++.lst (FK ts)::T) rfl ?_ (yT (zY (upS hn)))]
   .exact f1
   .unfold jM;rw[zC (show wG [#[lp],#[ln],#[lf],#[k,4],m,v,u,w] B=#[C8 lp ln lf #[k,4] B.length v u w,B++[.lst []],0] by unfold wG;simp? [jS]),zC (show wH (C8 lp ln lf #[k,4] B.length v u w) (B++[.lst []])=_ by unfold wH;simp? [xZ (show(B++[MO.lst []])[lf]? =_ from zY h1)];exact g1)];unfold bD;simp? [jS]
  .cases ks with
   |nil=>
    have:lf'=B.length:=by simp[xG]at f1;omega
    omega
   |cons k' ks=>exact f6 (by simp)
def Wu{S:Sto}{lp ln:Nat}{vs:Za}{ks:Ch}(hp:S[lp]? =#[vs,2])(hn:S[ln]? =#[ks.map MV.str,2])(hV: ∀v∈vs,VS v)(h4:vs.length<=4)(nd:ks.Nodup)(hl:ks.length<=4):
  ∃es r T,zF 2 kZ [#[lp,1],#[ln,1]] S=.ok r (S++T)/\(∃gs,AI r (S++T)=.ok ⟨FK es,gs⟩ (S++T)/\ ∀q∈gs,S.length<=q.1/\(S++T)[q.1]? =#[q.2,2])/\(∀p∈es,S.length<=p.1/\(S++T)[p.1]? =#[p.2,7])/\CI vs ks (es.map Prod.snd):=by
 obtain⟨B,hB⟩: ∃B,B=S++[MO.dic [],.lst [.loc S.length]]:=⟨_,rfl⟩
 obtain⟨es,B',lf,x,m,v,u,w,h1,⟨T,hT⟩,h3,h4',h5,h6⟩:=Cs hp hn hV h4 ks [] B (S.length+1) [(S.length,[])] none none none none none nd (by simpa using hl) ⟨_,hB⟩ (by rw[hB];exact sZ _ _ _) (λp hp=>by rw[mS.mp hp];exact⟨Nat.le_refl _,by rw[hB];exact dH _ _ _,Nat.le_refl _⟩) ⟨λE hE=>by rw[mS.mp hE];exact⟨LC,λx hx=>by cases hx⟩,λσ _=>⟨[],mS.mpr rfl,λx hx=>by cases hx⟩,by simp⟩
 have hlf:S.length<=lf:=by
  by_cases e:ks=[]
  .subst e;simp[xG]at h1;omega
  .exact h6 e
 have hF:kZ [.loc lp,.loc ln] S=.ok #[lf,1] (S++T):=by show yB (cI [#[lp],#[ln],none,none,none,none,none,none] S)=_;unfold cI;rw[zC (show jN [#[lp],#[ln],none,none,none,none,none,none] S=#[[#[lp],#[ln],#[S.length+1],none,none,none,none,none],B,0] by unfold jN;simp? [AK];rw[hB];simp),zC (show jO [#[lp],#[ln],#[S.length+1],none,none,none,none,none] B=_ by unfold jO;simp? [xZ (show B[ln]? =_ by rw[hB];exact zY hn)];exact h1)];unfold dB;simp? [jS];rw[hT];rfl
 rw[hT]at h3 h4';obtain⟨r,T',k1,k2⟩:=IA (n:=2) (rs:=[#[lp,1],#[ln,1]]) rfl hF hlf h3;rcases k2 with⟨rfl,rfl⟩|⟨rfl,rfl,hlo⟩
 .exact⟨es,_,T',k1,⟨_,xZ h3,λq hq=>by rw[mS.mp hq];exact⟨hlf,h3⟩⟩,h4',h5⟩
 .refine⟨es,_,[],k1,⟨[],rfl,λq hq=>by cases hq⟩,λp hp=>absurd (h4' p hp).1 ?_,h5⟩
  have: ∀es:List LD,qU S.length (FK es)-> ∀p∈es,p.1<S.length:=λes=>by
   induction es with
   |nil=>exact λ_ p hp=>by cases hp
   |cons q es ih=>
    intro h p hp;rw[FK,List.map_cons]at h;unfold qU lo at h;rcases mC.mp hp with rfl|hp
    .exact h.1
    .exact ih h.2 p hp
  have:=this es hlo p hp;omega
def Ry{p q:Rw}(h:zK p=zK q):p=q:=by unfold zK at h;simp at h;exact Prod.ext h.1 h.2
def Jz{p:Rw}{rows:List Rw}:zK p∈rows.map zK↔p∈rows:=⟨λh=>by obtain⟨q,hq,e⟩:=mM.mp h;exact Ry e▸hq,λh=>mem_map_of_mem h⟩
def Ct{r:Rw}(h: ∀c∈r.2,VS c):pd (zK r)=true/\uY (zK r)<30:=by have h1:=pB h;unfold zK;refine⟨by simp[jU,yL,vX,lH]at h1 ⊢; exact h1.1,?_⟩;rw[gV,yH,yH,iH,oX];omega
section
variable{Z:Sto}{lr e:Nat}{rows as:List Rw}{E:Ev}
open Classical in
theorem IE(hr:Z[lr]? =#[rows.map zK,2])(he:Z[e]? =#[E,7])(hE:qN E)(hv: ∀r∈rows, ∀c∈r.2,VS c)(q:MV): ∀(bs:List Rw),(∀b∈bs,(∀d∈b.2,cL d)/\b.2.length<=4)->(∀x∈cM bs,look E (.str x)≠none)-> ∀t u w:Option MV,
  ∃t' u' w',xG (fG 2 (zA (zV 3) (zA (zV 4) zZ))) xR [] #[bs,9] [#[lr],some q,#[e],t,u,w] Z=.ok (if∀b∈bs,Mt rows b (cN E)then .next [#[lr],some q,#[e],t',u',w']else .ret (.val (.bl false))) Z
 |[],_,_,t,u,w=>⟨t,u,w,by rw[iP (λb hb=>by cases hb)];rfl⟩
 |b::bs,hb,hn,t,u,w=>by
  have h1:=hb b mF0;have hnb: ∀d∈b.2, ∀x,vn d=some x->look E (.str x)≠none:=λd hd x hx=>hn x (wM.mpr ⟨b,mF0,d,hd,hx⟩)
  have hvs: ∀c∈b.2.map (LI (cN E)),VS c:=λc hc=>by
   obtain⟨d,hd,rfl⟩:=mM.mp hc;rcases h1.1 d hd with⟨x,rfl⟩|⟨v,hv,rfl⟩
   .rw[uH]
    cases z:look E (.str x)with
    |none=>exact absurd z (hnb _ hd x (sY x))
    |some c=>rw[bG z];exact CQ hE z
   .rw[LK];exact hv
  have hc:yF (fG 2 (zA (zV 0) (zA (zV 1) zZ))) dA xQ [none,none,#[e]] [] b.2 Z=.ok (b.2.map (LI (cN E))) Z:=DX (bO _) λd hd=>by
   rcases h1.1 d hd with⟨x,rfl⟩|⟨v,hv,rfl⟩
   .refine⟨[#[BO,4],#[x,4],#[e]],rfl,rfl,?_⟩
    cases z:look E (.str x)with
    |none=>exact absurd z (hnb _ hd x (sY x))
    |some c=>
     unfold xQ;simp? [HQ,RK he hE z];rw[uH,bG z]
   .refine⟨[#[IS,4],some v,#[e]],rfl,rfl,?_⟩;unfold xQ;simp? [TV,fT,iF];rw[LK]
  have hi:FG true (.val (zK (b.1,b.2.map (LI (cN E))))) #[lr,1] Z=#[.bl (!decide (Mt rows b (cN E))),Z,1]:=by rw[lK true hr (Ct hvs).1 (λy hy=>by obtain⟨r,h2,rfl⟩:=mM.mp hy;have:=Ct (hv r h2);exact⟨this.1,by omega⟩),iP rfl,dec_is (show _↔Mt rows b (cN E)from Jz)]
  obtain⟨t',u',w',ih⟩:=IE hr he hE hv q bs (λc hc=>hb c (mO _ hc)) (λx hx=>hn x (by obtain⟨c,hc,h⟩:=wM.mp hx;exact wM.mpr ⟨c,mO _ hc,h⟩)) #[b.1,0] #[b.2,3] #[b.2.map (LI (cN E)),3];have e1:jI [#[lr],some q,#[e],#[b.1,0],#[b.2,3],w] Z=#[[#[lr],some q,#[e],#[b.1,0],#[b.2,3],#[b.2.map (LI (cN E)),3]],Z,0]:=by unfold jI;simp? [oY,show b.2.length<1000000 by omega];rw[show uW 2 [2] [#[lr],some q,#[e],#[b.1,0],#[b.2,3],w]=[none,none,#[e]]from rfl,hc];simp? [dN]
  have hi':FG true #[[.int b.1,.tup (b.2.map (LI (cN E)))],6] #[lr,1] Z=#[.bl (!decide (Mt rows b (cN E))),Z,1]:=hi;refine⟨t',u',w',?_⟩;by_cases m:Mt rows b (cN E)
  .rw[dT0 m]at hi';rw[List.map_cons,zX (ρ0:=[#[lr],some q,#[e],#[b.1,0],#[b.2,3],w]) rfl (show xR _ Z=#[[#[lr],some q,#[e],#[b.1,0],#[b.2,3],#[b.2.map (LI (cN E)),3]],Z,0] by unfold xR;rw[zC e1];unfold jK;simp? [hi',Bool.not_true,fT,iF]) (bO _),ih];simp[m]
  .rw[dF0 m]at hi';rw[iN λz=>m (z b mF0),List.map_cons];refine SS (ρ0:=[#[lr],some q,#[e],#[b.1,0],#[b.2,3],w]) rfl ?_;unfold xR;rw[zC e1];unfold jK;simp? [hi',Bool.not_false]
open Classical in
theorem Cu(hr:Z[lr]? =#[rows.map zK,2])(he:Z[e]? =#[E,7])(hE:qN E)(hv: ∀r∈rows, ∀c∈r.2,VS c)(hA: ∀b∈as,(∀d∈b.2,cL d)/\b.2.length<=4)(hn: ∀x∈cM as,look E (.str x)≠none):
  zF 3 eP [#[lr,1],#[as.map zK,6],#[e,1]] Z=#[.bl (decide (∀b∈as,Mt rows b (cN E))),Z,1]:=by
 obtain⟨t,u,w,h⟩:=IE hr he hE hv (.tup #[as,9]) as hA hn none none none;refine TR rfl ?_;show yB (eO [#[lr],#[as.map zK,3],#[e],none,none,none] Z)=_;unfold eO;by_cases m: ∀b∈as,Mt rows b (cN E)
 .rw[iP m]at h;rw[dT0 m,zC (show xS _ Z=_ by unfold xS;simp? [oY];exact h)];rfl
 .rw[iN m]at h;rw[dF0 m,oG (show xS _ Z=_ by unfold xS;simp? [oY];exact h)];rfl
end
abbrev A9(lr:Nat)(q:MV)(lp:Nat)(H A:Za)(ln n:Nat)(v a:Zb):Rho:=[#[lr],some q,#[lp],#[H,3],#[A,3],#[ln],#[n],v,a]
section
variable{B T:Sto}{lr lp ln:Nat}{q:MV}{rows as:List Rw}{hd:Ch}{vs:Za}{ys:Ch}
theorem Cv(Q:QC rows as hd vs ys)(hr:B[lr]? =#[rows.map zK,2]){gs:Zd}(hg: ∀(o:MO), ∀q∈gs,(B++o::T)[q.1]? =#[q.2,2]): ∀(es:List LD)(F:Zg)(v a:Zb),(∀(o:MO), ∀p∈es,(B++o::T)[p.1]? =#[p.2,7])->(∀p∈es,qN p.2/\ ∀x∈cM as,look p.2 (.str x)≠none)->F.Nodup->(∀k∈F, ∀d∈k,VS d)->F.length+es.length<1000->
  ∃(F':Zg)(v' a':Zb),xG (zV 7) xU gs (FK es) (A9 lr q lp #[hd,8] #[as,9] ln B.length v a) (B++.lst (F.map MV.tup)::T)=#[A9 lr q lp #[hd,8] #[as,9] ln B.length v' a',(B++.lst (F'.map MV.tup)::T),0]/\F'.Nodup/\ ∀k,k∈F'↔k∈F\/ ∃p∈es,k=yM hd p.2/\ ∀b∈as,Mt rows b (cN p.2)
 |[],F,v,a,_,_,nd,_,_=>⟨F,v,a,rfl,nd,λk=>by simp⟩
 |p::es,F,v,a,hd1,hd2,nd,hF,hl=>by
  classical
  rw[lC]at hl;obtain⟨Z,hZ⟩: ∃Z,Z=B++MO.lst (F.map MV.tup)::T:=⟨_,rfl⟩
  obtain⟨hE,hn⟩:=hd2 p mF0;have he:Z[p.1]? =#[p.2,7]:=by rw[hZ];exact hd1 _ p mF0
  have hrZ:Z[lr]? =#[rows.map zK,2]:=by rw[hZ];exact zY hr
  have hFZ:Z[B.length]? =#[F.map MV.tup,2]:=by rw[hZ];exact dH _ _ _
  have hH:Has hd p.2:=⟨hE,λx hx=>hn x (Q.hh x hx)⟩
  have hk:=hH.vs;have hm:=Cu hrZ he hE (λr hr c hc=>Q.vv c (Q.hv r hr c hc)) Q.ha hn;have hi:FG true #[yM hd p.2,6] #[B.length,1] Z=#[.bl (!decide (yM hd p.2∈F)),Z,1]:=by rw[lK true hFZ (pB hk).1 (λy hy=>by obtain⟨t,ht,rfl⟩:=mM.mp hy;have:=pB (hF t ht);exact⟨this.1,by omega⟩),iP rfl,dec_is (show _↔yM hd p.2∈F from⟨λz=>by obtain⟨t,ht,e⟩:=mM.mp z;exact MV.tup.inj e▸ht,λz=>mem_map_of_mem z⟩)]
  have e1:wK (A9 lr q lp #[hd,8] #[as,9] ln B.length #[p.1] a) Z=#[A9 lr q lp #[hd,8] #[as,9] ln B.length #[p.1] #[yM hd p.2,3],Z,0]:=by
   have hc:yF (zV 0) bE wI [none,#[p.1]] [] #[hd,8] Z=.ok (hd.map (cN p.2)) Z:=mW (bO _) λx hx=>by
    refine⟨[#[x,4],#[p.1]],rfl,rfl,?_⟩
    cases z:look p.2 (.str x)with
    |none=>exact absurd z (hH.2 x hx)
    |some c=>
     unfold wI;simp? [RK he hE z];rw[bG z]
   unfold wK;simp? [oY,lM,show hd.length<1000000 by have:=Q.hl;omega];rw[show uW 1 [7] (A9 lr q lp #[hd,8] #[as,9] ln B.length #[p.1] a)=[none,#[p.1]]from rfl,hc];simp? [dN];rfl
  obtain⟨F1,h1,h2,h3,h4,h5⟩: ∃F1:List (List MV),xU (A9 lr q lp #[hd,8] #[as,9] ln B.length #[p.1] a) Z=#[A9 lr q lp #[hd,8] #[as,9] ln B.length #[p.1] #[yM hd p.2,3],(B++.lst (F1.map MV.tup)::T),0]/\F1.Nodup/\(∀k∈F1, ∀d∈k,VS d)/\F1.length<=F.length+1/\ ∀k,k∈F1↔k∈F\/k=yM hd p.2/\ ∀b∈as,Mt rows b (cN p.2):=by
   unfold xU;rw[zC e1];unfold bF;by_cases z:yM hd p.2∈F
   .refine⟨F,?_,nd,hF,by omega,λk=>⟨.inl,λy=>y.elim id λy=>y.1▸z⟩⟩;simp? [hi,dT0 z,Bool.not_true,fT,iF];rw[hZ]
   .by_cases m: ∀b∈as,Mt rows b (cN p.2)
    .refine⟨F++[yM hd p.2],?_,nodup_append.mpr ⟨nd,by simp,λx hx y hy e=>z (by rw[mS.mp hy]at e;exact e▸hx)⟩,λk hk'=>?_,by simp,λk=>by rw[List.mem_append,mS];exact or_congr Iff.rfl ⟨λh=>⟨h,m⟩,And.left⟩⟩
     .rw[dT0 m]at hm;simp? [hi,dF0 z,Bool.not_false,hm,yV hFZ,wL hFZ (show(F.map MV.tup).length<1000000 by rw[lM];omega)];rw[hZ,KP,List.map_append];rfl
     .rcases List.mem_append.mp hk' with h|h
      .exact hF k h
      .rw[mS.mp h];exact hk
    .refine⟨F,?_,nd,hF,by omega,λk=>⟨.inl,λy=>y.elim id λy=>absurd y.2 m⟩⟩;rw[dF0 m]at hm;simp? [hi,dF0 z,Bool.not_false,hm,fT,iF];rw[hZ]
  obtain⟨F',v',a',g1,g2,g3⟩:=Cv Q hr hg es F1 #[p.1] #[yM hd p.2,3] (λo r hr=>hd1 o r (mO _ hr)) (λr hr=>hd2 r (mO _ hr)) h2 h3 #[];refine⟨F',v',a',?_,g2,λk=>by rw[g3,h5];simp[or_assoc]⟩;rw[FK,List.map_cons, <-hZ,zX (ρ0:=A9 lr q lp #[hd,8] #[as,9] ln B.length #[p.1] a) rfl h1 (λq hq=>hg _ q hq)];exact g1
end
theorem Wv{S:Sto}{lr lp:Nat}{rows as:List Rw}{hd:Ch}{vs:Za}{ys:Ch}(Q:QC rows as hd vs ys)(h4:vs.length<=4)(hy:ys.length<=4)(hr:S[lr]? =#[rows.map zK,2])(hp:S[lp]? =#[vs,2]):
  ∃F:List (List MV),F.Nodup/\(∀k,k∈F↔Dm rows as hd k)/\zF 3 jA [#[lr,1],#[[.tup #[hd,8],.tup #[as,9]],6],#[lp,1]] S=#[(pA F).map MV.tup,S,2]:=by
 obtain⟨ks,hks⟩: ∃ks,ks=yX [] (cM as):=⟨_,rfl⟩
 have mks: ∀x,x∈ks↔x∈cM as:=λx=>by rw[hks,mV];simp
 have nd:ks.Nodup:=by rw[hks];exact CP _ nodup_nil
 have kl:ks.length<=4:=Nat.le_trans (nd.length_le_of_subset λx hx=>Q.hy x ((mks x).mp hx)) hy;have hnin:zF 1 yO [#[as.map zK,6]] S=#[ks.map MV.str,S,2]:=hks▸Bv (.inl rfl) Q.ha (by have:=Q.al;omega);obtain⟨B,hB⟩: ∃B,B=S++[MO.lst #[ks,8]]:=⟨_,rfl⟩
 have up: ∀{l:Nat}{o:MO},S[l]? =some o->B[l]? =some o:=λh=>by rw[hB];exact zY h
 obtain⟨es,r,T,c1,⟨gs,c2,c3⟩,c4,c5⟩:=Wu (S:=B++[.lst []]) (zY (up hp)) (zY (show B[S.length]? =_ by rw[hB];exact zT _ _)) Q.vv h4 nd kl;rw[aA]at c1 c2 c3 c4
 have mv: ∀{l:Nat}{x:MO}(o:MO),(B++[MO.lst []]).length<=l->(B++([.lst []]++T))[l]? =some x->(B++o::T)[l]? =some x:=λ{l x} o h1 h2=>by
  rw[lA,lS]at h1;obtain⟨j,rfl⟩: ∃j,l=B.length+(j+1):=⟨l - B.length - 1,by omega⟩
  rw[KQ rfl]at h2 ⊢;exact h2
 have hel:es.length<=256:=by have:=c5.len;rw[lM]at this;exact Nat.le_trans this (Nat.le_trans (Nat.pow_le_pow_right (by decide) kl) (by decide))
 obtain⟨F,v,a,f1,f2,f3⟩:=Cv (q:=.tup [.tup #[hd,8],.tup #[as,9]]) (lp:=lp) (ln:=S.length) Q (up hr) (λo q hq=>mv o (c3 q hq).1 (c3 q hq).2) es [] none none (λo p hp=>mv o (c4 p hp).1 (c4 p hp).2) (λp hp=>by have:=c5.ok _ (mem_map_of_mem hp);exact⟨this.1,λx hx=>this.2 x ((mks x).mpr hx)⟩) nodup_nil (λk hk=>by cases hk) (by simp;omega)
 have hF: ∀k,k∈F↔Dm rows as hd k:=λk=>by
  rw[f3];constructor
  .rintro(h|⟨p,_,rfl,h⟩)
   .cases h
   .exact⟨_,h,rfl⟩
  .rintro⟨σ,h1,rfl⟩;obtain⟨E,hE,h2⟩:=c5.all σ λx hx=>Co Q.hv h1 ((mks x).mp hx);obtain⟨p,hp,rfl⟩:=mM.mp hE;refine .inr ⟨p,hp,map_congr_left λx hx=>(h2 x ((mks x).mpr (Q.hh x hx))).symm,λb hb=>RN (λt ht x hx=>(h2 x ((mks x).mpr (wM.mpr ⟨b,hb,t,ht,hx⟩))).symm) (h1 b hb)⟩
 have hK: ∀k∈F,k.length=hd.length/\ ∀d∈k,d∈vs:=λk hk=>EY Q ((hF k).mp hk);have hv: ∀t∈F, ∀d∈t,VS d:=λt ht d hd=>Q.vv d ((hK t ht).2 d hd);have hs:=UM (l:=true) (Fd:=cH) (p:=#[B.length,1]) (S:=B++.lst (F.map MV.tup)::T) hv (λt ht=>(hK t ht).1) (lt_of_le_of_lt (LN f2 hK) Q.ph) (by unfold kH;dsimp only;rw[dH]) (λt ht=>Cm (hv t ht) (by rw[(hK t ht).1];have:=Q.hl;omega) _);refine⟨F,f2,hF,tS (T:=.lst #[ks,8]::.lst (F.map MV.tup)::T) rfl ?_ (cS λd hd=>by obtain⟨t,ht,rfl⟩:=mM.mp hd;exact mU (pB (hv t ((bI F).mem_iff.mp ht))).1)⟩;show yB (cJ [#[lr],#[[.tup #[hd,8],.tup #[as,9]],3],#[lp],none,none,none,none,none,none] S)=_;unfold cJ;rw[zC (show dC _ S=#[[#[lr],#[[.tup #[hd,8],.tup #[as,9]],3],#[lp],#[hd.map MV.str,3],#[as.map zK,3],none,none,none,none],S,0] from rfl)];refine iK ?_;apply zE
 .unfold dD;simp? [hnin, <-hB];rfl
 apply zE
 .unfold dE;simp? [jS];rfl
 apply zE
 .unfold dF;simp? [c1,c2];exact f1
 unfold dG;simp? [hs];rw[hB,aA];rfl
theorem Ka{S:Sto}{l:Nat}{ds:Za}(hS:S[l]? =#[ds,2]):rH [#[l,1],.val (.typ "list")] S=#[.bl true,S,1]:=by unfold rH DS;dsimp only;rw[nF hS];rfl
theorem Rz{d:MV}(h:VS d)(S:Sto):rH [.val d,.val (.typ "bool")] S=#[.bl false,S,1]:=by rcases h with⟨i,rfl⟩|⟨x,rfl⟩<;>rfl
section
variable{S:Sto}{u n:Nat}{R:Zg}
theorem UQ{o t:MV}: ∀(us:Za),(∀d∈us,VS d)-> ∀x:Option MV, ∃y,xG (zV 4) gB [] us [#[u],#[n],some o,some t,x] S=#[[#[u],#[n],some o,some t,y],S,0]
 |[],_,x=>⟨x,rfl⟩
 |d::us,h,x=>by obtain⟨y,ih⟩:=UQ us (λe he=>h e (mO _ he)) (some d);refine⟨y,?_⟩;rw[zX (ρ0:=[#[u],#[n],some o,some t,some d]) rfl (show gB _ S=_ by unfold gB aL;simp? [Rz (h d mF0),fT,iF];rfl) (bO _)];exact ih
theorem OY{gs:Zd}(hg:stay gs S): ∀(ts:Zg),(∀t∈ts, ∀d∈t,VS d)-> ∀o t x:Option MV, ∃o' t' x',xG (fG 2 (zA (zV 2) (zA (zV 3) zZ))) gC gs (ts.map λt=>.tup [.tup t,.tup t]) [#[u],#[n],o,t,x] S=#[[#[u],#[n],o',t',x'],S,0]
 |[],_,o,t,x=>⟨o,t,x,rfl⟩
 |k::ts,h,o,t,x=>by
  have hk:=h k mF0;obtain⟨y,hy⟩:=UQ (S:=S) (u:=u) (n:=n) (o:=.tup k) (t:=.tup k) k hk x;obtain⟨o',t',x',ih⟩:=OY hg ts (λe he=>h e (mO _ he)) #[k,3] #[k,3] y;refine⟨o',t',x',?_⟩
  rw[List.map_cons,zX (ρ0:=[#[u],#[n],#[k,3],#[k,3],x]) rfl (show gC _ S=_ by
   unfold gC;apply zE
   .unfold aM;have q:=pB hk;simp? [Bool.not_true,fT,iF,LB q.1 q.1 (show uY (.tup k)<40 by omega),dT0 (show MV.tup k=.tup k from rfl)];rfl
   unfold aO;simp? [oY];exact hy) hg]
  exact ih
theorem Cw(hv: ∀t∈R, ∀d∈t,VS d)(hu:S[u]? =#[R.map MV.tup,2])(hn:S[n]? =#[R.map MV.tup,2]):yK [.loc u,.loc n] S=#[.bl true,S,1]:=by
 obtain⟨o,t,x,h⟩:=OY (S:=S) (u:=u) (n:=n) (gs:=[(u,R.map MV.tup),(n,R.map MV.tup)]) (λq hq=>by
  simp only[mC,nM,or_false]at hq;rcases hq with rfl|rfl
  .exact hu
  .exact hn) R hv none none none
 have hp: ∀ts:List (List MV),pairs (ts.map MV.tup) (ts.map MV.tup)=ts.map λt=>.tup [.tup t,.tup t]:=λts=>by
  induction ts with
  |nil=>rfl
  |cons k ts ih=>show _::pairs (ts.map MV.tup) (ts.map MV.tup)=_;rw[ih];rfl
 show yB (lG [#[u],#[n],none,none,none] S)=_;refine iK ?_;unfold lG;apply zE
 .unfold mG;simp? [Ka hu,xY hu,xY hn,Bool.not_true,fT,iF,QS (BW (S:=S) zG ((R.map MV.tup).length:Nat) ((R.map MV.tup).length:Nat)),dT0 (show((R.map MV.tup).length:Int)=((R.map MV.tup).length:Nat)from rfl)];rfl
 apply zE
 .unfold mH;simp? [show ZR [#[u,1],#[n,1]] S=.ok ⟨pairs (R.map MV.tup) (R.map MV.tup),[(u,R.map MV.tup),(n,R.map MV.tup)]⟩ S by unfold ZR srcOf;dsimp only;rw[hu,hn];rfl,hp];exact h
 rfl
def Sa(hv: ∀t∈R, ∀d∈t,VS d)(hu:S[u]? =#[R.map MV.tup,2])(hn:S[n]? =#[R.map MV.tup,2]):zF 2 yK [#[u,1],#[n,1]] S=#[.bl true,S,1]:=TR rfl (Cw hv hu hn)
def Sb(hv: ∀t∈R, ∀d∈t,VS d)(hn:S[n]? =#[R.map MV.tup,2]):zF 2 yK [.new (R.map MV.tup),#[n,1]] S=#[.bl true,S,1]:=
 DU (T:=[.lst (R.map MV.tup)]) rfl (Cw hv (zT _ _) (zY hn)) (ZU _ _) (λl=>by simp)
end
def QC.of{rows rows' as:List Rw}{hd:Ch}{vs:Za}{ys:Ch}(Q:QC rows as hd vs ys)(h: ∀r,r∈rows'↔r∈rows)(hl:rows'.length<=90):QC rows' as hd vs ys:=
 ⟨λr hr=>Q.hv r ((h r).mp hr),Q.vv,Q.v1,hl,Q.ha,λb hb r hr=>Q.hw b hb r ((h r).mp hr),Q.al,Q.hh,Q.hl,Q.hy,Q.yl,Q.pw,Q.ph⟩
section
variable{rows rows' as:List Rw}{hd:Ch}{vs:Za}{ys:Ch}{F:Zg}
def Ww(Q:QC rows as hd vs ys)(nd:F.Nodup)(hF: ∀k,k∈F↔Dm rows as hd k)(h: ∀r,r∈rows'↔r∈rows)(hl:rows'.length<=90){S:Sto}{lr:Nat}(hr:S[lr]? =#[rows'.map zK,2]): ∃T,yZ [.loc lr,.tup [.tup #[hd,8],.tup #[as,9]]] S=#[(pA F).map MV.tup,S++T,2]:=by obtain⟨Ks,T,h1,h2,h3⟩:=Wt (Q.of h hl) hr;refine⟨T,?_⟩;rw[h3, <-HZ (T:=F) (R:=pA Ks) (λt ht d hd=>Q.vv d ((EY Q ((hF t).mp ht)).2 d hd)) ((bI Ks).trans ((List.perm_ext_iff_of_nodup h1 nd).mpr λk=>by rw[h2,hF];unfold Dm Mt;simp only[h])) (LM Ks)]
def Cy(Q:QC rows as hd vs ys)(hF: ∀k,k∈F↔Dm rows as hd k):(∀t∈pA F, ∀d∈t,VS d)/\ ∀n,qU n ((pA F).map MV.tup):=by have hv: ∀t∈pA F, ∀d∈t,VS d:=λt ht d hd=>Q.vv d ((EY Q ((hF t).mp ((bI F).mem_iff.mp ht))).2 d hd);exact⟨hv,λn=>cS λd hd=>by obtain⟨t,ht,rfl⟩:=mM.mp hd;exact mU (pB (hv t ht)).1⟩
def an_l(Q:QC rows as hd vs ys)(nd:F.Nodup)(hF: ∀k,k∈F↔Dm rows as hd k){S:Sto}{lr:Nat}(hr:S[lr]? =#[rows.map zK,2]):zF 2 yZ [#[lr,1],#[[.tup #[hd,8],.tup #[as,9]],6]] S=#[(pA F).map MV.tup,S,2]:=
 let ⟨_,h⟩:=Ww Q nd hF (λ_=>Iff.rfl) Q.rl hr;tS rfl h ((Cy Q hF).2 _)
def an_n(Q:QC rows as hd vs ys)(nd:F.Nodup)(hF: ∀k,k∈F↔Dm rows as hd k)(h: ∀r,r∈rows'↔r∈rows)(hl:rows'.length<=90)(S:Sto):zF 2 yZ [.new #[rows',9],#[[.tup #[hd,8],.tup #[as,9]],6]] S=#[(pA F).map MV.tup,S,2]:=by obtain⟨T,h1⟩:=Ww Q nd hF h hl (zT S (.lst #[rows',9]));exact cK rfl (show zD [.new #[rows',9],#[[.tup #[hd,8],.tup #[as,9]],6]] S=([.loc S.length,.tup [.tup #[hd,8],.tup #[as,9]]],S++[.lst #[rows',9]])from rfl) (by rw[h1,aA]) (.inl rfl) ((Cy Q hF).2 _)
end
def Sd: ∀n,n<=40->sliceRange (sliceBounds none none (some (-1)) n).1 (sliceBounds none none (some (-1)) n).2.1 (sliceBounds none none (some (-1)) n).2.2=(List.range n).reverse:=by decide+kernel
def Cz{S:Sto}{l:Nat}{ds:Za}(hS:S[l]? =#[ds,2])(hl:ds.length<=40):DR (-1) #[l,1] none none S=#[ds.reverse,S,2]:=by
 have e:mN ds none none (some (-1))=ds.reverse:=by unfold mN;rw[Sd _ hl,List.filterMap_reverse,tB]
 unfold DR;rw[nF hS];dsimp only;rw[e,iP (fits (by rw[List.length_reverse];omega))]
def Ky{ts:Tk}{vs:Za}{ys hs:Ch}{as rs:List Rw}(hT:Ip ts)(hV: ∀d∈vs,VS d)(v1:1<=vs.length)(v4:vs.length<=4)(hy:ys.length=3)(hA: ∀a∈as,We ts ys vs a)(al:as.length<=3)(h2:hs.length<=2)(hh: ∀y∈hs,y∈yX [] (cM as))(hr: ∀r∈rs,Ku ts vs r)(rl:rs.length<=40):QC rs as hs vs ys:=by
 have p4: ∀{n m:Nat},n<=m->m<=3->vs.length ^ n<=4 ^ m:=λh h'=>Nat.le_trans (Nat.pow_le_pow_left v4 _) (Nat.pow_le_pow_right (by decide) h);refine⟨λr h=>(hr r h).2,hV,v1,by omega,λb hb=>⟨λd hd=>((hA b hb).2 d hd).ok hV,?_⟩,λb hb r h e=>by rw[(hA b hb).1,(hr r h).1,e],by omega,λx hx=>by have:=hh x hx;rw[mV]at this;simpa using this,by omega,λx hx=>?_,by omega,?_,?_⟩
 .rw[(hA b hb).1];unfold XB
  cases z:ts[b.1.toNat]? with
  |none=>simp
  |some p=>have:=hT.2.2 p (mem_of_getElem? z);simp;omega
 .obtain⟨b,hb,t,ht,e⟩:=wM.mp hx;rcases (hA b hb).2 t ht with⟨y,hy,rfl⟩|⟨v,_,rfl⟩
  .rw[sY]at e;cases e;exact hy
  .rw[OL]at e;cases e
 .rw[hy];exact Nat.le_trans (p4 (Nat.le_refl 3) (Nat.le_refl 3)) (by decide)
 .exact lt_of_le_of_lt (p4 h2 (by decide)) (by decide)
abbrev Pc(ts:Tk)(z:Int)(vs:Za):Sto:=[.lst (ts.map tbl),.lst [.int z],.lst vs]
abbrev Pd(ts:Tk)(z:Int)(vs:Za)(ys:Ch):Sto:=[.lst (ts.map tbl),.lst [.int z],.lst vs,.lst #[ys,8]]
abbrev Pe(ts:Tk)(z:Int)(vs:Za)(ys:Ch)(w:Za):Sto:=[.lst (ts.map tbl),.lst [.int z],.lst vs,.lst #[ys,8],.lst w]
abbrev LR(q:MV)(w:Nat)(g:MV)(o:List (Option MV)):Rho:=some q::#[0]::#[w]::#[2]::#[3]::#[5]::some g::o
def Da(ns:Xi)(hns:ns.length<=63): ∃S,OE [.scr (ns.map MV.int)] []=#[.bl true,S,1]:=by
 obtain⟨c0,hc0⟩:=rD ns 0 (by decide) [];obtain⟨t0,ht0⟩:=dM c0 [];obtain⟨ts,hT,htab⟩:=XA t0 [];obtain⟨c1,hc1⟩:=rD ns 1 (by decide) [.lst (ts.map tbl)];obtain⟨t1,ht1⟩:=dM c1 [.lst (ts.map tbl)];have n3:=md (x:=t1) (n:=3);have htk:=yW (S:=[.lst (ts.map tbl),.lst []]) (l:=1) (x:=t1) (n:=3) (by simp);obtain⟨vs,z,hV,v1,v4,hpool⟩:=Je (S:=[.lst (ts.map tbl),.lst []]) (l:=1) (by simp) (t1 / 3) (M:=(2+t1 % 3).toNat) #[] #[];rw[show aP (2+t1 % 3).toNat=.int (2+t1 % 3) by unfold aP;rw[Int.toNat_of_nonneg #[]]]at hpool;obtain⟨c2,hc2⟩:=rD ns 2 (by decide) (Pc ts z vs);obtain⟨t2,ht2⟩:=dM c2 (Pc ts z vs);obtain⟨ys,hy,hnam⟩:=Bs t2 (Pc ts z vs);obtain⟨c3,hc3⟩:=rD ns 3 (by decide) (Pd ts z vs ys);obtain⟨t3,ht3⟩:=dM c3 (Pd ts z vs ys);have m3:=md (x:=t3) (n:=3);have htk2:=yW (S:=Pe ts z vs ys []) (l:=4) (x:=t3) (n:=3) (by simp);obtain⟨as,z2,al,hA,hat⟩:=Bu (S:=Pe ts z vs ys []) (M:=(1+t3 % 3).toNat) (l:=4) (p:=2) (q:=3) (lt:=0) (by simp) (by decide) (by decide) (by decide) rfl rfl rfl hV v1 v4 #[] #[] hT #[] (t3 / 3);rw[show aP (1+t3 % 3).toNat=.int (1+t3 % 3) by unfold aP;rw[Int.toNat_of_nonneg #[]]]at hat;obtain⟨S6,q6⟩: ∃Y:Sto,Y=Pe ts z vs ys [.int z2]++[.lst #[as,9]]:=⟨_,rfl⟩
 obtain⟨c5,hc5⟩:=rD ns 5 (by decide) S6;obtain⟨t5,ht5⟩:=dM c5 S6;have hTA: ∀b∈as,(∀d∈b.2,cL d)/\b.2.length<=4:=(Ky (hs:=[]) (rs:=[]) hT hV v1 v4 hy hA #[] (by simp) (λy h=>by cases h) (λr h=>by cases h) (by simp)).ha;obtain⟨hs,h2,hh,hhead⟩:=Ji (S:=S6) (a:=5) (by rw[q6];rfl) hTA #[] t5;obtain⟨c4,hc4⟩:=rD ns 4 (by decide) S6;obtain⟨rs,hr,rl,hrow⟩:=Jk (S:=S6) (p:=2) (lt:=0) (by rw[q6];rfl) (by rw[q6];rfl) hV v1 v4 hT c4 (cs:=ns.drop 6) (by rw[List.length_drop];omega);have Q:=Ky hT hV v1 v4 hy hA #[] h2 hh hr rl;obtain⟨F,nd,hF,hla⟩:=Wv (S:=S6++[.lst #[rs,9]]) (lr:=6) (lp:=2) Q v4 #[] (by rw[q6];rfl) (by rw[q6];rfl);obtain⟨D,hD⟩: ∃D,D=(pA F).map MV.tup:=⟨_,rfl⟩
 obtain⟨hv,hlo⟩:=Cy Q hF;obtain⟨S8,q8⟩: ∃Y:Sto,Y=S6++[.lst #[rs,9]]++[.lst D]++[.lst #[rs,9]]:=⟨_,rfl⟩
 have L: ∀o:MO,(S8++[o])[6]? =#[rs.map zK,2]/\(S8++[o])[7]? =#[D,2]/\(S8++[o])[8]? =#[rs.map zK,2]/\(S8++[o])[9]? =some o:=λo=>by rw[q8,q6];exact⟨rfl,rfl,rfl,rfl⟩
 have pr: ∀d∈rs.map zK,pd d=true/\uY d<zG:=λd hd=>by obtain⟨r,h,rfl⟩:=mM.mp hd;have:=Ct (λc hc=>hV c ((hr r h).2 c hc));exact⟨this.1,by unfold zG;omega⟩
 obtain⟨g,hg⟩: ∃g,g=MV.tup [.tup #[hs,8],.tup #[as,9]]:=⟨_,rfl⟩
 have hla':zF 3 jA [#[6,1],.val g,#[2,1]] (S6++[.lst #[rs,9]])=#[D,S6++[.lst #[rs,9]],2]:=by rw[hD,hg];exact hla
 have an1: ∀{S:Sto},S[8]? =#[rs.map zK,2]->zF 2 yZ [#[8,1],.val g] S=#[D,S,2]:=λh=>by rw[hD,hg];exact an_l Q nd hF h
 have an2: ∀{rs':List Rw},(∀r,r∈rs'↔r∈rs)->rs'.length<=90-> ∀S,zF 2 yZ [.new #[rs',9],.val g] S=#[D,S,2]:=λh hl S=>by rw[hD,hg];exact an_n Q nd hF h hl S
 have sn: ∀o:MO,zF 2 yK [.new D,#[7,1]] (S8++[o])=#[.bl true,S8++[o],1]:=λo=>by rw[hD];exact Sb hv (by rw[<-hD];exact(L o).2.1)
 have sl:zF 2 yK [#[9,1],#[7,1]] (S8++[.lst D])=#[.bl true,S8++[.lst D],1]:=Sa hv (by rw[<-hD];exact(L _).2.2.2) (by rw[<-hD];exact(L _).2.1);have s9: ∀o o':MO,(S8++[o]).set 9 o'=S8++[o']:=λo o'=>by rw[q8,q6];rfl
 have hDl:D.length<1000000:=by have h1:=(bI F).length_eq;have h2:=LN nd λk hk=>EY Q ((hF k).mp hk);have h3:=Q.ph;rw[hD,lM];omega
 obtain⟨q,hq⟩: ∃q,q=MV.scr (ns.map MV.int):=⟨_,rfl⟩
 have hcut:BM (.val q) (some 6) none S6=#[(ns.drop 6).map MV.int,S6,2]:=by rw[hq,List.map_drop, <-HR];rfl
 have hR3: ∀o:MO,jR #[6,1] (.new ((rs.take 3).map zK)) (S8++[o])=#[(rs++rs.take 3).map zK,S8++[o],2]:=λo=>by rw[List.map_append];exact JF (JK (L o).1) rfl (fits (by rw[lM,lM,lT];omega))
 have hk3: ∀o:MO,BM #[6,1] none (some 3) (S8++[o])=#[(rs.take 3).map zK,S8++[o],2]:=λo=>by rw[Ja (L o).1,List.map_take, <-WY];rfl
 have hrv: ∀o:MO,DR (-1) #[6,1] none none (S8++[o])=#[rs.reverse.map zK,S8++[o],2]:=λo=>by rw[Cz (L o).1 (by rw[lM];exact rl),List.map_reverse]
 rw[<-hq]at hc0 hc1 hc2 hc3 hc4 hc5;simp only[Wl,List.set_cons_zero,set_cons_succ]at htk hpool htk2 hat;refine⟨S8++[.lst (D++[MV.tup []]).reverse],?_⟩;rw[<-hq];show yB (TQ [some q,none,none,none,none,none,none,none,none,none,none] [])=_;refine iK ?_;unfold TQ;refine zE (ρ':=[some q,#[0],none,none,none,none,none,none,none,none,none]) (S':=[.lst (ts.map tbl)]) ?_ ?_
 .unfold KC;simp? [hc0,ht0,htab];rfl
 refine zE (ρ':=[some q,#[0],#[1],none,none,none,none,none,none,none,none]) (S':=[.lst (ts.map tbl),.lst [.int t1]]) ?_ ?_
 .unfold KD;simp? [hc1,ht1];rfl
 refine zE (ρ':=[some q,#[0],#[1],#[2],none,none,none,none,none,none,none]) (S':=Pc ts z vs) ?_ ?_
 .unfold KE;simp? [htk,hpool];rfl
 refine zE (ρ':=[some q,#[0],#[1],#[2],#[3],none,none,none,none,none,none]) (S':=Pd ts z vs ys) ?_ ?_
 .unfold KF;simp? [hc2,ht2,hnam];rfl
 refine zE (ρ':=[some q,#[0],#[4],#[2],#[3],none,none,none,none,none,none]) (S':=Pe ts z vs ys [.int t3]) ?_ ?_
 .unfold KG;simp? [hc3,ht3];rfl
 refine zE (ρ':=[some q,#[0],#[4],#[2],#[3],#[5],none,none,none,none,none]) (S':=S6) ?_ ?_
 .unfold KH;simp? [htk2,hat];rw[q6];rfl
 refine zE (ρ':=LR q 4 g [none,none,none,none]) (S':=S6) ?_ ?_
 .unfold KI;simp? [hc5,ht5,hhead,dN,WX (show S6[5]? =#[as.map zK,2] by rw[q6];rfl), <-hg]
 refine zE (ρ':=LR q 4 g [#[6],none,none,none]) (S':=S6++[.lst #[rs,9]]) ?_ ?_
 .unfold KL;simp? [hcut,hc4,hrow];rw[q6];rfl
 refine zE (ρ':=LR q 4 g [#[6],#[7],none,none]) (S':=S6++[.lst #[rs,9]]++[.lst D]) ?_ ?_
 .unfold KM;simp? [hla'];rw[q6];rfl
 refine zE (ρ':=LR q 4 g [#[6],#[7],#[8],none]) (S':=S8) ?_ ?_
 .unfold EH;simp? [show DT [#[6,1]] (S6++[.lst #[rs,9]]++[.lst D])=#[rs.map zK,S6++[.lst #[rs,9]]++[.lst D],2] by rw[q6];rfl, <-q8];rw[q6];rfl
 refine zE (ρ':=LR q 4 g [#[6],#[7],#[8],#[9]]) (S':=S8++[.lst D]) ?_ ?_
 .unfold EI;simp? [an1 (S:=S8) (by rw[q8,q6];rfl)];rw[q8,q6];rfl
 apply zE
 .unfold EK;simp? [sl,Bool.not_true,fT,iF,QS (Rk (k:=zG) (L (.lst D)).2.2.1 (L (.lst D)).1 pr)];rfl
 apply zE
 .unfold EL;simp? [yV (L (.lst D)).2.2.2,JL (rs:=[]) (by simp),wL (L (.lst D)).2.2.2 hDl,s9];rfl
 apply zE
 .unfold EM;simp? [yV (L (.lst (D++[.tup []]))).2.2.2,Jb (L (.lst (D++[.tup []]))).2.2.2,s9];rfl
 apply zE
 .unfold EN;simp? [hk3,hR3,an2 (rs':=rs++rs.take 3) (λr=>by rw[List.mem_append];exact⟨λh=>h.elim id List.mem_of_mem_take,.inl⟩) (by rw[lA,lT];omega),sn,Bool.not_true,fT,iF];rfl
 unfold EO;simp? [an1 (L _).2.2.1,sn,Nq,hrv,an2 (rs':=rs.reverse) (λr=>List.mem_reverse) (by rw[List.length_reverse];omega)]
section
variable{P:Program}{w:World}{K:Yj}{mg:Yc}{base:Heap}
def top(i:Nat):Stmt:=PySem.Challenge.pw_mendsure_k32_all_answers.main.body.getD i (.Pass ⟨0,0,0,0⟩)
local macro_rules
 | `(tactic|exists 1,$t)=>`(tactic|with_reducible show $t)
 | `(tactic|exists 7,$t)=>`(tactic|exists 1,zO _ _ _ $t)
 | `(tactic|exists 8,$t)=>`(tactic|exists 1,GV _ _ _ _ (bJ _ $t))
 | `(tactic|exists 3,$t)=>`(tactic|exists 1,zO _ _ (.Call (.Name $t _) _ _ _) _)
 | `(tactic|exists 4,$t)=>`(tactic|exists 1,zO _ _ (.Call (.Attribute _ $t _) _ _ _) _)
 | `(tactic|exists 5,$t)=>`(tactic|exists 1,zO _ _ (.BinOp _ $t _ _) _)
 | `(tactic|exists 6,$t)=>`(tactic|exists 1,tE _ _ (.Compare _ [$t] _ _) _)
 | `(tactic|and_intros)=>`(tactic|repeat' (first |(exists 1,vE _ _ [_] _;refine QE ?_)|(exists 1,vE _ _ (_::_) _;refine JA ?_ ?_)|(exists 1,vE _ _ [] _;exact Oc)|(exists 1,MQ _ _ (.Assign _ (.ListComp _ _ _ _) _) _;refine Bf ‹_› ?_ (λ_ _ _ _ _=>?_) (λ_ _ _ _=>?_) (λ_ _ _ _=>?_))|(exists 1,MQ _ _ (.Assign [.Name _ _] _ _) _;refine Og _ ‹_› ?_)|(exists 1,MQ _ _ (.Assign _ _ _) _;refine Oh ?_ ?_)|(exists 1,MQ _ _ (.Return _ _) _;refine Od ?_)|(exists 1,MQ _ _ (.For _ _ _ _ _) _;refine Oj PassesOwn.never rfl ?_ ?_ ?_)|(exists 1,MQ _ _ (.If _ _ _ _) _;refine Uq ?_ ?_ ?_)|(exists 1,MQ _ _ (.Expr _ _) _;refine Fm ?_)|(exists 1,zO _ _ (.Name _ _) _;first |(exists 7,vJ _;exact Nj _)|exact SD rfl ‹_› Pn|exact Ff rfl ‹_›|exact SD rfl ‹_› BV|exact SD rfl ‹_› NA|exact SD rfl ‹_› Gq)|(exists 1,zO _ _ (.Constant _ _ _) _;first |exact Nk|exact Nn _|exact Uk|exact Nl)|(exists 1,zO _ _ (.UnaryOp _ _ _) _;exact Np)|(exists 1,zO _ _ (.List _ _) _;refine Oa ?_)|(exists 1,zO _ _ (.Tuple _ _ _) _;refine Nz ?_)|(exists 1,zO _ _ (.BinOp _ _ _ _) _;first |(exists 5,.Add;refine Oy ?_ ?_)|(exists 5,.Mult;refine Oz ?_ ?_)|(exists 5,.Mod;refine Ov ?_ ?_)|(exists 5,.Sub;refine Ot ?_ ?_)|(exists 5,.BitAnd;refine Ia ?_ ?_)|(exists 5,.FloorDiv;refine Ou ?_ ?_)|(exists 5,.Pow;refine Ox ?_ ?_)|(exists 5,.BitOr;refine Qz ?_ ?_))|(exists 1,zO _ _ (.Subscript _ _ _) _;first |(exists 7,dJ lO _ _;refine Uv ?_ ?_)|(exists 7,tJ BM _ _ _;refine Ph ?_ ?_ ?_)|(exists 7,dJ KA _ _;refine Ra ?_ ?_)|(exists 7,tJ (DR _) _ _ _;refine Gk (st:= -1) (by decide) ?_ ?_ ?_ ZI))|(exists 1,zO _ _ (.ListComp _ _ _ _) _;refine Be ‹_› ?_ (λ_ _ _ _ _=>?_) (λ_ _ _ _=>?_) (λ_ _ _ _=>?_))|(exists 1,zO _ _ (.Dict _ _ _) _;exact Aa)|(exists 1,zO _ _ (.IfExp _ _ _ _) _;refine Ul ?_ ?_ ?_)|(exists 1,zO _ _ (.BoolOp _ _ _) _;first |refine Nr ?_|refine Nt ?_ ?_)|(exists 1,zO _ _ (.Call (.Attribute _ _ _) _ _ _) _;first |(exists 4,"append";refine VZ ?_ ?_)|(exists 4,"get";refine Vv (Room.units ‹_›) ?_ ?_)|(exists 4,"setdefault";refine Qx ?_ ?_)|(exists 4,"setdefault";refine Vn (Room.units ‹_›) ?_ ?_)|(exists 4,"update";refine Hz ?_ ?_)|(exists 4,"pop";refine Qq ?_ ?_)|(exists 4,"reverse";refine QN ?_))|(exists 1,zO _ _ (.Call (.Name _ _) _ _ _) _;first |(exists 3,"len";refine MP VX Pk rfl ‹_› Pm ?_)|(exists 3,"tuple";refine eU FM ZN rfl ‹_› NA ?_)|(exists 3,"isinstance";refine MP ZM Pl rfl ‹_› FS ?_)|(exists 7,bJ _ NP;refine eU Al Qu rfl ‹_› JZ ?_)|(exists 7,bJ _ DT;refine eU IV Gp rfl ‹_› BV ?_)|(exists 3,"sorted";refine AQ false ‹_› (Room.mono ‹_› (by decide)) rfl ‹_› rfl ?_)|(exists 7,bJ _ vQ;refine eU QX (Ak rfl) rfl ‹_› BV ?_)|(exists 7,bJ _ Sm;refine Ik rfl rfl ‹_› rfl ‹_› ?_)|(exists 7,bJ _ HP;refine eU (WO (Room.units ‹_›)) (Ib rfl) rfl ‹_› JZ ?_)|(exists 7,bJ _ vV;refine eU RG (Bd rfl) rfl ‹_› BV ?_)|(exists 3,"sorted";refine AQ true ‹_› (Room.mono ‹_› (by decide)) rfl ‹_› rfl ?_)|refine Ah ‹_› (Room.mono ‹_› (by decide)) rfl ?_)|(exists 1,tE _ _ (.Compare _ _ _ _) _;first |(exists 6,.Eq;refine Ur (Room.units ‹_›) ?_ ?_)|(exists 6,.NotEq;refine Us (Room.units ‹_›) ?_ ?_)|(exists 6,.NotIn;refine ZK (Room.units ‹_›) ?_ ?_)|(exists 6,.In;refine Uw (Room.units ‹_›) ?_ ?_)|(exists 6,.Lt;refine Ut (Room.units ‹_›) ?_ ?_)|(exists 6,.IsNot;refine ZH ?_ ?_)|(exists 6,.Gt;refine Uu ?_ ?_))|(exists 1,tE _ _ (.UnaryOp _ _ _) _;refine Nx ?_)|(exists 1,tE _ _ (.BoolOp _ _ _) _;refine Uo ?_)|(exists 1,tE _ _ _ _;refine YU ?_)|(exists 1,Kj _ _ _ _;first |refine Nu ?_|refine Um ?_ ?_|refine Fg ?_|refine Nv ?_ ?_)|(exists 1,DM _ _ _ _;first |refine Fi ?_ ?_|exact Ny)|(exists 1,Fc _ _ _ _;first |exact Fj|refine Fk ?_)|(exists 1,MT _ _ _ _;first |exact Fv|refine Fw ?_)|(exists 1,GV _ _ _ _ _;first |(exists 8,AI;refine Fq ?_)|(exists 8,iO;refine VN rfl ‹_› ?_)|(exists 8,XJ;refine Oi ?_)|(exists 8,itQ;refine Qo ?_)|(exists 8,ZR;refine Pq rfl ‹_› ?_)|(exists 8,WP;refine As ?_)|(exists 8,Vb;refine Hg rfl ‹_› ?_))|(exists 1,VL _ _ (.Name _ _) _;exact Fn _ ‹_›)|(exists 1,VL _ _ _ _;first |refine Of rfl ?_|(exists 1,VL _ _ _ (DJ tZ _ _);refine Hw ?_ ?_)|(exists 1,VL _ _ _ (DJ HD _ _);refine Hh (Room.units ‹_›) ?_ ?_)|(exists 1,VL _ _ _ (DJ HA _ _);refine Po ?_ ?_))|(exists 1,YX _ _ _ _;first |refine Fo ?_ ?_|exact Oe)|(exists 1,Dj _ _ _ (.Name _ _) _;exact Fs _ ‹_›)|(exists 1,Dj _ _ _ _ _;refine Om rfl ?_)|(exists 1,YY _ _ _ _ _;first |refine Ft ?_ ?_|exact Ol)))
 | `(tactic|exists 2,$f:ident,$xs:ident,*)=>`(tactic|(refine okA $f ‹_› (λ_ _ _ _ _ _ _ _ _ _=>?_);delta $f $xs*; (first |refine QE ?_|refine JA ?_ ?_);and_intros))
 | `(tactic|exists 0,$f:ident,$xs:ident,*)=>`(tactic|(refine okL $f ‹_› (λ_ _ _ _ _ _ _ _ _=>?_);delta $f $xs*; (first |refine QE ?_|refine JA ?_ ?_);and_intros))
def FZ(D:DefM K mg "value_rank" (top 1))(Dc:mg "str"=none)(eT:mg "isinstance"=none):WJ P w K mg base "value_rank" 1 1 ["value"] aT:=by exists 2,jC,xO,fQ
def GA(D:DefM K mg "tuple_rank" (top 2))(Kg:WJ P w K mg base "value_rank" 1 1 ["value"] aT)(eR:mg "tuple"=none):WJ P w K mg base "tuple_rank" 2 1 ["values"] aV:=by exists 2,aU,fR,cT,jD
def OZ(D:DefM K mg "in_order" (top 3))(Ke:WJ P w K mg base "tuple_rank" 2 1 ["values"] aV)(FE:mg "sorted"=none):WJ P w K mg base "in_order" 5 1 ["some"] oK:=by exists 2,oI,aX,aY,oH,aW,fS
def PB(D:DefM K mg "names_in" (top 6))(AA:mg "list"=none):WJ P w K mg base "names_in" 1 1 ["atoms"] wA:=by exists 2,oM,aZ,eA,eB,bT,fU,bS,bR
def RQ(D:DefM K mg "fitting" (top 7))(PH:mg "zip"=none):WJ P w K mg base "fitting" 1 2 ["terms","cells"] eY:=by exists 2,eX,iS,iT,AS,xW,yR,dP
def RR(D:DefM K mg "fits_of" (top 8))(PH:mg "zip"=none)(Sq:WJ P w K mg base "fitting" 1 2 ["terms","cells"] eY):WJ P w K mg base "fits_of" 2 3 ["rows","marks","atom"] mQ:=by exists 2,qY,iU,iV,jY,xD,xE,jZ
def LO(D:DefM K mg "values_at" (top 9))(eR:mg "tuple"=none):WJ P w K mg base "values_at" 1 2 ["values","names"] yE:=by exists 2,iW,lP,nW,gH
def Se(D:DefM K mg "cut" (top 10))(BI:WJ P w K mg base "values_at" 1 2 ["values","names"] yE)(FF:mg "dict"=none)(PH:mg "zip"=none):WJ P w K mg base "cut" 2 2 ["fits","names"] EF:=by exists 2,TN,CF,CG,CK,CD,vW,mR,qZ,rA
def XG(D:DefM K mg "joined" (top 11))(BI:WJ P w K mg base "values_at" 1 2 ["values","names"] yE)(FF:mg "dict"=none):WJ P w K mg base "joined" 2 3 ["fits","others","shared"] qE:=by exists 2,uB,oQ,oR,oS,oU,EG,fV,fX,oN,oP,fW,oO
def uP(D:DefM K mg "marked_answers" (top 12)){pC:Tok}(uV:mg "EVERYWHERE"=some (.int (-1) pC))(BG:mg "enumerate"=none)(Sj:WJ P w K mg base "names_in" 1 1 ["atoms"] wA)(AA:mg "list"=none)(G_cut:WJ P w K mg base "cut" 2 2 ["fits","names"] EF)(Ss:WJ P w K mg base "fits_of" 2 3 ["rows","marks","atom"] mQ)(Wx:WJ P w K mg base "joined" 2 3 ["fits","others","shared"] qE)(BI:WJ P w K mg base "values_at" 1 2 ["values","names"] yE)(FF:mg "dict"=none):WJ P w K mg base "marked_answers" 3 3 ["rows","marks","question"] xP:=by exists 2,jE,gW,gX,wC,wD,wF,gY,yU,xA,yI,kO,kP,kQ,kR,kS,kT,kU,kI,nG,kL,nH,kM,nI,kN,nN
def RS(D:DefM K mg "answers" (top 13))(Sh:WJ P w K mg base "in_order" 5 1 ["some"] oK)(XH:WJ P w K mg base "marked_answers" 3 3 ["rows","marks","question"] xP)(AA:mg "list"=none):WJ P w K mg base "answers" 6 2 ["rows","question"] yZ:=by exists 2,rB,qF,lQ,lR
def BP(D:DefM K mg "_law_cell_at" (top 15))(BH:mg "len"=none):WJ P w K mg base "_law_cell_at" 1 2 ["_law_script","_law_k"] zQ:=by exists 2,bU,jF,mT
def FB(D:DefM K mg "_law_digits" (top 16))(eS:mg "range"=none):WJ P w K mg base "_law_digits" 1 1 ["_law_cell"] yA:=by exists 2,dQ,gM,gN,nY,pI,nZ,aB,gI,bV,bW,bX
def LP(D:DefM K mg "_law_take" (top 17)):WJ P w K mg base "_law_take" 1 2 ["_law_well","_law_many"] zB:=by exists 2,qG,dR,dS,rX
def LQ(D:DefM K mg "_law_word" (top 18))(eS:mg "range"=none)(xB:WJ P w K mg base "_law_take" 1 2 ["_law_well","_law_many"] zB):WJ P w K mg base "_law_word" 2 1 ["_law_well"] kW:=by exists 2,qH,rY,rZ,lU,sB,dU,aC
def LS(D:DefM K mg "_law_pool" (top 19))(eS:mg "range"=none)(xB:WJ P w K mg base "_law_take" 1 2 ["_law_well","_law_many"] zB)(PF:WJ P w K mg base "_law_word" 2 1 ["_law_well"] kW):WJ P w K mg base "_law_pool" 3 2 ["_law_well","_law_many"] iZ:=by exists 2,iY,lV,lW,lX,hX,aD,aF,gO,gP,gQ
def FC(D:DefM K mg "_law_tables" (top 20))(eS:mg "range"=none)(xB:WJ P w K mg base "_law_take" 1 2 ["_law_well","_law_many"] zB):WJ P w K mg base "_law_tables" 2 1 ["_law_well"] dX:=by exists 2,dW,aG,aH,aI,wO,bY,bZ
def PD(D:DefM K mg "_law_row" (top 21))(xB:WJ P w K mg base "_law_take" 1 2 ["_law_well","_law_many"] zB)(BH:mg "len"=none)(eS:mg "range"=none)(eR:mg "tuple"=none):WJ P w K mg base "_law_row" 2 3 ["_law_well","_law_tables_here","_law_pool_here"] oW:=by exists 2,oV,eC,eE,fY,cA
def LT(D:DefM K mg "_law_rows" (top 22))(GF:WJ P w K mg base "_law_digits" 1 1 ["_law_cell"] yA)(xB:WJ P w K mg base "_law_take" 1 2 ["_law_well","_law_many"] zB)(Si:WJ P w K mg base "_law_row" 2 3 ["_law_well","_law_tables_here","_law_pool_here"] oW)(BH:mg "len"=none):WJ P w K mg base "_law_rows" 3 5 ["_law_cells","_law_extra","_law_tables_here","_law_pool_here","_law_most"] lD:=by exists 2,lB,dY,dZ,nA,nB,sC,gR,wQ,xF,gT,wR
def LU(D:DefM K mg "_law_term" (top 23))(xB:WJ P w K mg base "_law_take" 1 2 ["_law_well","_law_many"] zB)(BH:mg "len"=none):WJ P w K mg base "_law_term" 2 3 qD lE:=by exists 2,bH,wU,nE
def GB(D:DefM K mg "_law_atoms" (top 24))(eS:mg "range"=none)(xB:WJ P w K mg base "_law_take" 1 2 ["_law_well","_law_many"] zB)(BH:mg "len"=none)(Lf:WJ P w K mg base "_law_term" 2 3 qD lE)(eR:mg "tuple"=none):WJ P w K mg base "_law_atoms" 3 5 ["_law_well","_law_tables_here","_law_names_here","_law_pool_here","_law_many"] eI:=by exists 2,eF,fZ,iA,iB,kX,cV,cW,cU,jG
def vZ(D:DefM K mg "_law_names_in" (top 25)):WJ P w K mg base "_law_names_in" 1 1 ["_law_atoms_here"] yO:=by exists 2,gU,kC,kD,kE,wZ,jT,yD,xK
def LV(D:DefM K mg "_law_head" (top 26))(BS:WJ P w K mg base "_law_names_in" 1 1 ["_law_atoms_here"] yO)(eS:mg "range"=none)(xB:WJ P w K mg base "_law_take" 1 2 ["_law_well","_law_many"] zB)(BH:mg "len"=none):WJ P w K mg base "_law_head" 2 3 ["_law_well","_law_atoms_here","_law_most"] nO:=by exists 2,lF,lY,lZ,mB,mE,gA,aK
def GC(D:DefM K mg "_law_names" (top 27))(PF:WJ P w K mg base "_law_word" 2 1 ["_law_well"] kW)(xB:WJ P w K mg base "_law_take" 1 2 ["_law_well","_law_many"] zB)(eS:mg "range"=none):WJ P w K mg base "_law_names" 3 1 ["_law_well"] eK:=by exists 2,uC,cB,cC,iC,iD,iE,kY,cX,jH,cY
def GD(D:DefM K mg "_law_order" (top 28))(Dc:mg "str"=none)(eT:mg "isinstance"=none):WJ P w K mg base "_law_order" 1 1 ["_law_cells"] cH:=by exists 2,eM,cF,cG,iG,cE,cZ
def GE(D:DefM K mg "_law_meets" (top 29))(eR:mg "tuple"=none):WJ P w K mg base "_law_meets" 1 3 ["_law_rows_here","_law_atoms_here","_law_values"] eP:=by exists 2,eO,xS,qI,xR,jI,jK,dA,xQ
def BQ(D:DefM K mg "_law_choices" (top 30))(FF:mg "dict"=none):WJ P w K mg base "_law_choices" 1 2 ["_law_pool_here","_law_names_here"] kZ:=by exists 2,cI,jN,jO,dB,jM,wG,wH,bD,xT,bC,jL,gZ,bA,bB
def BR(D:DefM K mg "_law_answers" (top 31))(BS:WJ P w K mg base "_law_names_in" 1 1 ["_law_atoms_here"] yO)(Df:WJ P w K mg base "_law_choices" 1 2 ["_law_pool_here","_law_names_here"] kZ)(eR:mg "tuple"=none)(Kh:WJ P w K mg base "_law_meets" 1 3 ["_law_rows_here","_law_atoms_here","_law_values"] eP)(Kc:WJ P w K mg base "_law_order" 1 1 ["_law_cells"] cH)(FE:mg "sorted"=none):WJ P w K mg base "_law_answers" 4 3 ["_law_rows_here","_law_question","_law_pool_here"] jA:=by exists 2,cJ,dC,dD,dE,dF,dG,xU,wK,bF,bE,wI
def LW(D:DefM K mg "_law_same" (top 32))(AA:mg "list"=none)(eT:mg "isinstance"=none)(BH:mg "len"=none)(PH:mg "zip"=none)(eR:mg "tuple"=none)(Dg:mg "bool"=none):WJ P w K mg base "_law_same" 1 2 ["_law_told","_law_due"] yK:=by exists 2,lG,mG,mH,sD,gC,aM,aO,gB,aL
def Sf{f:Addr}{fd:FuncData}(F:Fun K "law" "law" (top 33) f fd)(Do:WJ P w K mg base "_law_tables" 2 1 ["_law_well"] dX)(GF:WJ P w K mg base "_law_digits" 1 1 ["_law_cell"] yA)(Dh:WJ P w K mg base "_law_cell_at" 1 2 ["_law_script","_law_k"] zQ)(Ld:WJ P w K mg base "_law_pool" 3 2 ["_law_well","_law_many"] iZ)(xB:WJ P w K mg base "_law_take" 1 2 ["_law_well","_law_many"] zB)(Kb:WJ P w K mg base "_law_names" 3 1 ["_law_well"] eK)(Kf:WJ P w K mg base "_law_atoms" 3 5 ["_law_well","_law_tables_here","_law_names_here","_law_pool_here","_law_many"] eI)(Lg:WJ P w K mg base "_law_head" 2 3 ["_law_well","_law_atoms_here","_law_most"] nO)(eR:mg "tuple"=none)(Lc:WJ P w K mg base "_law_rows" 3 5 ["_law_cells","_law_extra","_law_tables_here","_law_pool_here","_law_most"] lD)(De:WJ P w K mg base "_law_answers" 4 3 ["_law_rows_here","_law_question","_law_pool_here"] jA)(AA:mg "list"=none)(Su:WJ P w K mg base "answers" 6 2 ["rows","question"] yZ)(Lb:WJ P w K mg base "_law_same" 1 2 ["_law_told","_law_due"] yK):FnOk P w K mg base CZ 7 f fd ["_law_script"] (QF ⟨K,mg,P,w⟩ 1 OE):=by exists 0,TQ,KC,KD,KE,KF,KG,KH,KI,KL,KM,EH,EI,EK,EL,EM,EN,EO
end
abbrev mgN:=@PySem.W.mg_none_of
abbrev nNo(K:PySem.W.Frag)(x:Str):Prop:=PySem.W.nsIn K mainGlobals x=some none
def all_mk{l:PySem.W.OpenLaw}{w:World}{K:Yj}{h:Heap}{mg:Yc}{fa:Addr}(X:K.In h)(GG:h.Ns mainGlobals mg)(hfa:mg "law"=some (.ref fa))(D0:DefM K mg "value_rank" (top 1))(D1:DefM K mg "tuple_rank" (top 2))(D2:DefM K mg "in_order" (top 3))(D3:DefM K mg "names_in" (top 6))(D4:DefM K mg "fitting" (top 7))(D5:DefM K mg "fits_of" (top 8))(D6:DefM K mg "values_at" (top 9))(D7:DefM K mg "cut" (top 10))(D8:DefM K mg "joined" (top 11))(D9:DefM K mg "marked_answers" (top 12))(D10:DefM K mg "answers" (top 13))(D11:DefM K mg "_law_cell_at" (top 15))(D12:DefM K mg "_law_digits" (top 16))(D13:DefM K mg "_law_take" (top 17))(D14:DefM K mg "_law_word" (top 18))(D15:DefM K mg "_law_pool" (top 19))(D16:DefM K mg "_law_tables" (top 20))(D17:DefM K mg "_law_row" (top 21))(D18:DefM K mg "_law_rows" (top 22))(D19:DefM K mg "_law_term" (top 23))(D20:DefM K mg "_law_atoms" (top 24))(D21:DefM K mg "_law_names_in" (top 25))(D22:DefM K mg "_law_head" (top 26))(D23:DefM K mg "_law_names" (top 27))(D24:DefM K mg "_law_order" (top 28))(D25:DefM K mg "_law_meets" (top 29))(D26:DefM K mg "_law_choices" (top 30))(D27:DefM K mg "_law_answers" (top 31))(D28:DefM K mg "_law_same" (top 32))(D29:DefM K mg "law" (top 33))
  {pC:Tok} (uV:PySem.W.nsIn K mainGlobals "EVERYWHERE"=some (some (.int (-1) pC)))
  (Dg:nNo K "bool")
  (FF:nNo K "dict")
  (BG:nNo K "enumerate")
  (eT:nNo K "isinstance")
  (BH:nNo K "len")
  (AA:nNo K "list")
  (eS:nNo K "range")
  (FE:nNo K "sorted")
  (Dc:nNo K "str")
  (eR:nNo K "tuple")
  (PH:nNo K "zip")
  : ∃fd:FuncData,(∀(s:Shared)(v:Value),BindsTo s fd ⟨[v],[]⟩ [("_law_script",v)])/\ ∀base:Heap,K.In base->base.Ns mainGlobals mg->FnOk l.prog w K mg base CZ 7 fa fd ["_law_script"] (HB K OE):=by
 have Zf:=mgN X GG Dg;have Zg:=mgN X GG FF;have Zb:=mgN X GG BG;have Za:=mgN X GG eT;have Zk:=mgN X GG BH;have Zh:=mgN X GG AA;have Ze:=mgN X GG eS;have Zc:=mgN X GG FE;have Zi:=mgN X GG Dc;have Zd:=mgN X GG eR;have Zj:=mgN X GG PH;have M_EVERYWHERE:=PySem.W.mg_of X GG uV;refine Qs D29 hfa (λ_ _ _ _ _ _ s v=>.of_eq rfl) λbase f fd F=>?_;have G0:=FZ (P:=l.prog) (w:=w) (base:=base) D0 Zi Za;have G1:=GA D1 G0 Zd;have G2:=OZ D2 G1 Zc;have G3:=PB (P:=l.prog) (w:=w) (base:=base) D3 Zh;have G4:=RQ (P:=l.prog) (w:=w) (base:=base) D4 Zj;have G5:=RR D5 Zj G4;have G6:=LO (P:=l.prog) (w:=w) (base:=base) D6 Zd;have G7:=Se D7 G6 Zg Zj;have G8:=XG D8 G6 Zg;have G9:=uP D9 M_EVERYWHERE Zb G3 Zh G7 G5 G8 G6 Zg;have G10:=RS D10 G2 G9 Zh;have G11:=BP (P:=l.prog) (w:=w) (base:=base) D11 Zk;have G12:=FB (P:=l.prog) (w:=w) (base:=base) D12 Ze;have G13:=LP (P:=l.prog) (w:=w) (base:=base) D13;have G14:=LQ D14 Ze G13;have G15:=LS D15 Ze G13 G14;have G16:=FC D16 Ze G13;have G17:=PD D17 G13 Zk Ze Zd;have G18:=LT D18 G12 G13 G17 Zk;have G19:=LU D19 G13 Zk;have G20:=GB D20 Ze G13 Zk G19 Zd;have G21:=vZ (P:=l.prog) (w:=w) (base:=base) D21;have G22:=LV D22 G21 Ze G13 Zk;have G23:=GC D23 G14 G13 Ze;have G24:=GD (P:=l.prog) (w:=w) (base:=base) D24 Zi Za;have G25:=GE (P:=l.prog) (w:=w) (base:=base) D25 Zd;have G26:=BQ (P:=l.prog) (w:=w) (base:=base) D26 Zg;have G27:=BR D27 G21 G26 Zd G25 G24 Zc;have G28:=LW (P:=l.prog) (w:=w) (base:=base) D28 Zh Za Zk Zj Zd Zf;exact Sf F G16 G12 G11 G15 G13 G23 G20 G22 Zd G18 G27 Zh G10 G28
def walk{l:PySem.W.OpenLaw}{q:Program}{loose:Yb}{XP:(Str->Option Value)->Heap->Prop}{YP:World->Heap->Prop}{d:DefRec}{K:Params->PySem.W.Frag}(hn:l.most=some 63)(hdf:d.params.defaults=[])
  (hY: ∀(w:World)(h:Heap),YP w h->(K w.params).In h)
  (F: ∀(w:World)(mg:Yc)(fa:Addr)(h:Heap),(K w.params).In h->h.Ns mainGlobals mg->mg d.name=some (.ref fa)->
   ∃fd:FuncData,(∀(s:Shared)(u:Value),BindsTo s fd ⟨[u],[]⟩ [("_law_script",u)])/\ ∀base:Heap,(K w.params).In base->base.Ns mainGlobals mg->FnOk l.prog w (K w.params) mg base CZ 7 fa fd ["_law_script"] (HB (K w.params) OE)):
  PySem.W.WalkO q loose XP YP l.row.toRowW d [] (λf vs=>PySem.call f vs):=
 L2.walk_of (n:=63) (k:=7) (x:="_law_script") (CX:=λ_=>CZ) (sp:=λw=>HB (K w.params) OE) hn (by decide) hdf ⟨rfl,by decide,by decide⟩ hY F
  (λw H a ns hl hO hS=>ZT hO hS (Da ns hl)) λ_ _ _ _ _ z=>z
end My
end M
end L2
namespace PySem.W.Fast
def tw8922602938793384018:=0
theorem te8922602938793384018:tw8922602938793384018=0:=rfl
def tw16107979671105510464:=0
theorem te16107979671105510464:tw16107979671105510464=0:=rfl
def tw10498818055097648343:=0
theorem te10498818055097648343:tw10498818055097648343=0:=rfl
def tw10177742295190859473:=0
theorem te10177742295190859473:tw10177742295190859473=0:=rfl
def tw7669252297008584658:=0
theorem te7669252297008584658:tw7669252297008584658=0:=rfl
def tw4700573728638515908:=0
theorem te4700573728638515908:tw4700573728638515908=0:=rfl
def tw18270639277940904251:=0
theorem te18270639277940904251:tw18270639277940904251=0:=rfl
def tw7595520234179909453:=0
theorem te7595520234179909453:tw7595520234179909453=0:=rfl
def tw1885828700418621190:=0
theorem te1885828700418621190:tw1885828700418621190=0:=rfl
def tw7551839666847978911:=0
theorem te7551839666847978911:tw7551839666847978911=0:=rfl
def tw10494217210840192910:=0
theorem te10494217210840192910:tw10494217210840192910=0:=rfl
def tw13355756421248065543:=0
theorem te13355756421248065543:tw13355756421248065543=0:=rfl
def tw809584805633172750:=0
theorem te809584805633172750:tw809584805633172750=0:=rfl
def tw8896847935286796998:=0
theorem te8896847935286796998:tw8896847935286796998=0:=rfl
def tw2496623928325683496:=0
theorem te2496623928325683496:tw2496623928325683496=0:=rfl
end PySem.W.Fast
open PySem PySem.W PyProof.Rows
set_option maxRecDepth 100000 in
set_option maxHeartbeats 0 in
theorem PySem.Challenge.cw_mendsure_k32_all_answers_holds : PySem.Challenge.rw_mendsure_k32_all_answers.Holds := by
  w_on; o_law; k_head; (case hw => w_witness2)
  k_fill
  refine L2.M.My.walk (l := PySem.Challenge.rw_mendsure_k32_all_answers) rfl rfl (fun w h Y => PySem.W.kIn_of Y) ?F
  case F =>
    intro w mg fa h KX G hmg
    refine' L2.M.My.all_mk KX G hmg ?_ ?_ ?_ ?_ ?_ ?_ ?_ ?_ ?_ ?_ ?_ ?_ ?_ ?_ ?_ ?_ ?_ ?_ ?_ ?_ ?_ ?_ ?_ ?_ ?_ ?_ ?_ ?_ ?_ ?_ ?_ ?_ ?_ ?_ ?_ ?_ ?_ ?_ ?_ ?_ ?_ ?_
    any_goals first | (exact L2.M.def_mk (by k_is) (by k_is) (by k_is) (by k_is) KX G) | (k_is) | (show PySem.W.nsIn _ _ _ = _; k_is)
