import PyProof.Rows.All
import Wide.All
import OpenK.AllK
import Wide.FinOn
import Lean
import PyProof.EqAt
import PyProof.EqKinds
import PyProof.TupleCall
import PySem.Challenge.RW_mendsure_k55_sums_by_blocks
set_option Elab.async false
set_option linter.all false
set_option maxRecDepth 100000
noncomputable section
open List (drop_length ext_getElem? filterMap_cons flatten_cons getD_eq_getElem?_getD getElem?_append_left getElem?_append_right getElem?_eq_none getElem?_map getElem?_of_mem getElem?_replicate getElem?_set_ne getElem?_set_self getElem?_take_of_lt getElem_inj getElem_mem length_range lookup_cons map_drop map_filterMap map_take mem_append_left mem_filterMap mem_of_getElem? mem_of_mem_take mem_range mem_reverse nodup_append nodup_cons nodup_nil of_mem_zip pairwise_append replicate_succ reverse_cons zip_cons_cons)
open Nat (add_assoc add_comm le_of_lt le_of_lt_succ le_succ le_succ_of_le lt_irrefl lt_of_le_of_lt lt_trans mod_lt not_lt_zero pow_succ sub_self succ_add succ_le_succ zero_le)
def xF0:¬(false=true):=Bool.false_ne_true

abbrev dF0:=@decide_eq_false
abbrev dT0:=@decide_eq_true
abbrev iP:=@if_pos
abbrev iN:=@if_neg
abbrev mC:=@List.mem_cons
abbrev lC:=@List.length_cons
abbrev mO:=@List.mem_cons_of_mem
abbrev lM:=@List.length_map
abbrev nM:=@List.not_mem_nil
abbrev mS:=@List.mem_singleton
abbrev mF0:=@List.mem_cons_self
abbrev fT:=@Bool.false_eq_true
abbrev sA:=@List.size_toArray
abbrev lS:=@List.length_singleton
abbrev eL:=@Int.emod_lt_of_pos
abbrev eN:=@Int.emod_nonneg
abbrev aE:=@Bool.and_eq_true
abbrev iF:=@if_false
abbrev aN:=@List.append_nil
abbrev lA:=@List.length_append
abbrev gS0:=@List.getElem?_eq_some_iff
abbrev gE:=@List.getElem?_eq_getElem
abbrev wB:=@PySem.wpAny_bind
abbrev wP:=@PySem.wpAny_pure
abbrev hP0:=@PySem.Heap.get?_push_of_some
abbrev mM:=@List.mem_map
abbrev lT:=@List.length_take
abbrev aA:=@List.append_assoc
abbrev VP:=PySem.Value->PySem.Shared->Prop
abbrev Ud:=PySem.W.Frag
abbrev Uc:=List PySem.Expr
abbrev Ub:=Option Int
abbrev Ua:=List Bool
abbrev Tk:=List (PySem.Addr×PySem.Obj)
abbrev Tj:=Array (Int×PySem.Value)
abbrev Ti:=PySem.Str->Option PySem.Value
abbrev Th:=List PySem.Str
abbrev Tg:=List PySem.Addr
abbrev Te:=Array PySem.Value
abbrev Td:=List PySem.Value
abbrev Tc:=List Int
abbrev Tb:=List (Int×Int)
abbrev Db:=List Nat
abbrev Ch:=List (List Nat)
namespace L2
open PySem PySem.Spec PyProof.Rows
abbrev Key:=Sum Int Str
def iI:Key->Value->Bool
 |.inl k,v=>Value.isInt k v
 |.inr x,v=>Value.isStrOf x v
def Ox(w:World):Key->Int
 |.inl k=>hashInt k
 |.inr x=>hashStr w x
def yD: ∀{k:Key}{v:Value},iI k v=true->(∃i t,k=Sum.inl i/\v=Value.int i t)\/(∃x t,k=Sum.inr x/\v=Value.str x t)
 |.inl i,v,h=>by obtain⟨t,e⟩:=Value.isInt_shape h;exact .inl ⟨i,t,rfl,e⟩
 |.inr x,v,h=>by obtain⟨t,e⟩:=Value.isStrOf_shape h;exact .inr ⟨x,t,rfl,e⟩
def UF(i:Int)(t:Tok):iI (.inl i) (.int i t)=true:=by simp[iI,Value.isInt]
def UG(x:Str)(t:Tok):iI (.inr x) (.str x t)=true:=by simp[iI,Value.isStrOf]
def Jk(a b:Int):decide ((Sum.inl a:Key)=Sum.inl b)=(a==b):=by
 by_cases e:a=b
 .subst e;simp
 .have h: ¬(Sum.inl a:Key)=Sum.inl b:=λq=>e (Sum.inl.inj q);rw[dF0 h];exact(beq_eq_false_iff_ne.mpr e).symm
def Jl(a b:Str):decide ((Sum.inr a:Key)=Sum.inr b)=decide (a=b):=by
 by_cases e:a=b
 .subst e;simp
 .have h: ¬(Sum.inr a:Key)=Sum.inr b:=λq=>e (Sum.inr.inj q);rw[dF0 h,dF0 e]
def Jm(a:Int)(b:Str):decide ((Sum.inl a:Key)=Sum.inr b)=false:=dF0 (λq=>nomatch q)
def Jn(a:Str)(b:Int):decide ((Sum.inr a:Key)=Sum.inl b)=false:=dF0 (λq=>nomatch q)
def lK(prog:Program)(w:World):PySem.KeyKind prog w Key where
 is:=iI
 hash:=Ox w
 inj:=λv a b ha hb=>by
  rcases yD ha with⟨i,t,rfl,rfl⟩|⟨x,t,rfl,rfl⟩
  .rcases yD hb with⟨j,u,rfl,e⟩|⟨y,u,rfl,e⟩
   .injection e with e1 _;rw[e1]
   .exact nomatch e
  .rcases yD hb with⟨j,u,rfl,e⟩|⟨y,u,rfl,e⟩
   .exact nomatch e
   .injection e with e1 _;rw[e1]
 byValue:=λk v h=>by rcases yD h with⟨i,t,rfl,rfl⟩|⟨x,t,rfl,rfl⟩<;>rfl
 pyHash:=λhv h=>by
  rcases yD hv with⟨i,t,rfl,rfl⟩|⟨x,t,rfl,rfl⟩
  .exact wpAny_pyHash_int h
  .exact wpAny_pyHash_str h
 eqBool:=λhu hv h=>by
  rcases yD hu with⟨i,t,rfl,rfl⟩|⟨x,t,rfl,rfl⟩
  .rcases yD hv with⟨j,u,rfl,rfl⟩|⟨y,u,rfl,rfl⟩
   .rw[Jk]at h;exact wpAny_eqBool_int h
   .rw[Jm]at h;exact SeqAt.EqAt.int_str i t y u _ _ _ _ h
  .rcases yD hv with⟨j,u,rfl,rfl⟩|⟨y,u,rfl,rfl⟩
   .rw[Jn]at h;exact SeqAt.EqAt.str_int x t j u _ _ _ _ h
   .rw[Jl]at h;exact wpAny_eqBool_str h
 «strs»:=λk x t v h=>by
  rcases yD h with⟨i,u,rfl,e⟩|⟨y,u,rfl,e⟩
  .exact nomatch e
  .injection e with e1 _
   subst e1;cases v<;>rfl
def KN(prog:Program)(w:World)(i:Int)(t:Tok):(lK prog w).is (.inl i) (.int i t)=true:=UF i t
def AB(prog:Program)(w:World)(x:Str)(t:Tok):(lK prog w).is (.inr x) (.str x t)=true:=UG x t
inductive V where
 |non|bl (b:Bool)|int (i:Int)|str (x:Str)|byt (b:Array UInt8)|flt (b:UInt64)|ref (a:Addr)|ty (n:String)
 deriving DecidableEq
def RelV:V->Value->Prop
 |.non,u=>u=Value.none
 |.bl b,u=>u=Value.bool b
 |.int i,u=> ∃t,u=Value.int i t
 |.str x,u=> ∃t,u=Value.str x t
 |.byt b,u=> ∃t,u=Value.bytes b t
 |.flt b,u=> ∃t,u=Value.float b t
 |.ref a,u=>u=Value.ref a
 |.ty n,u=>u=Value.type n
abbrev Vals:List V->List Value->Prop:=Paired RelV
def Vals.length{xs:List V}{us:Td}(r:Vals xs us):xs.length=us.length:=Paired.length r
theorem Vals.get: ∀{xs:List V}{us:Td}{i:Nat}{x:V},Vals xs us->xs[i]? =some x-> ∃u,us[i]? =some u/\RelV x u
 |_,_,_,_,.nil,e=>by simp at e
 |_,_,0,_,.cons r _,e=>by simp at e;subst e;exact⟨_,rfl,r⟩
 |_,_,i+1,x,.cons _ t,e=>by obtain⟨u,h1,h2⟩:=Vals.get t (by simpa using e);exact⟨u,by simpa using h1,h2⟩
theorem Vals.set{x:V}{u:Value}(r:RelV x u): ∀{xs:List V}{us:Td}(i:Nat),Vals xs us->Vals (xs.set i x) (us.set i u)
 |_,_,_,.nil=>.nil
 |_,_,0,.cons _ t=>.cons r t
 |_,_,i+1,.cons q t=>.cons q (Vals.set r i t)
def Vals.append: ∀{xs ys:List V}{us ws:Td},Vals xs us->Vals ys ws->Vals (xs++ys) (us++ws):=λhh=>by
 induction hh with
 |nil=>exact(λs=>s)
 |cons r t ih=>exact(λs=>.cons r (ih s))
theorem Vals.take: ∀{xs:List V}{us:Td}(n:Nat),Vals xs us->Vals (xs.take n) (us.take n)
 |_,_,0,_=>.nil
 |_,_,_+1,.nil=>.nil
 |_,_,n+1,.cons r t=>.cons r (Vals.take n t)
theorem Vals.drop: ∀{xs:List V}{us:Td}(n:Nat),Vals xs us->Vals (xs.drop n) (us.drop n)
 |_,_,0,r=>r
 |_,_,_+1,.nil=>.nil
 |_,_,n+1,.cons _ t=>Vals.drop n t
def Oy:Option V->Option Value->Prop
 |some v,some u=>RelV v u
 |none,none=>True
 |_,_=>False
def KV{κ:Type}:List (κ×V)->List (κ×Value)->Prop:=Paired λ(p:κ×V) (q:κ×Value)=>p.1=q.1/\RelV p.2 q.2
def kV:Key->V
 |.inl i=>.int i
 |.inr x=>.str x
inductive HO where
 |lst (xs:List V)
 |tup (xs:List V)
 |dK (kvs:List (Key×V))|dT (kvs:List (List Key×V))
 |set (S:Int->Bool) (n:Nat)
 |ins (C dx:Addr) (fs:List (Str×V))
 |own (x:Addr)
 |xd (fs:List (Str×V))
 |met (f x:Addr)
 |rng (lo hi:Int)
 |frz (o:Obj) (u:HO)
 |tbl (ps:Te)
 |ext (φ:Heap->Prop)
abbrev Hp:=Addr->Option HO
def gH(H:Hp)(a:Addr)(o:HO):Hp:=λb=>if b=a then some o else H b
def zZ{H:Hp}{a:Addr}{o:HO}:gH H a o a=some o:=by unfold gH;rw[iP rfl]
def zK{H:Hp}{a b:Addr}{o:HO}(h:b≠a):gH H a o b=H b:=by unfold gH;rw[iN h]
def zN{H:Hp}{a b:Addr}{o:HO}(h:H a=some o)(h':H b=none):a≠b:=by intro e;subst e;rw[h]at h';cases h'
def Oz(o:Obj)(u:Value):Prop:= ∃vs q t t',o.data=.fields vs/\vs[1]? =some (.str q t)/\u=.str q t'
section
variable(P:Program)(w:World)
def ObjOk(H:Hp)(h:Heap)(a:Addr):HO->Prop
 |.lst xs=>xs.length<=sizeLine/\ ∃(its:Td)(n:Nat),Vals xs its/\h.get? a=some {cls:=.type "list",data:=.seq its.toArray n}
 |.tup xs=>xs.length<=sizeLine/\ ∃its:List Value,Vals xs its/\IsTup h a its.toArray
 |.dK kvs=>kvs.length<=sizeLine/\(a==sysModules)=false/\ ∃vs,KV kvs vs/\h.DictOf (lK P w) a vs
 |.dT kvs=>kvs.length<=sizeLine/\(a==sysModules)=false/\ ∃xs:List (List Key×Addr×Value),
   Paired (λ(p:List Key×V) (q:List Key×Addr×Value)=>p.1=q.1/\H q.2.1=some (.tup (p.1.map kV))/\RelV p.2 q.2.2) kvs xs/\
   ∃o es ep,h.get? a=some o/\o.ExactDict/\o.data=.dict es ep/\es.toList=xs.map (entryOfKey (tupleKind (lK P w)))/\(xs.map (·.1)).Nodup
 |.set S n=>h.SetOf (intKind P w) a S n
 |.ins C dx fs=>H dx=some (.own a)/\fs.length<=1000/\dx≠a/\h.get? a=some (PySem.W.instObj C dx)/\
   ∃mA,h.Ns1 dx mA/\(∀f,Oy (fs.lookup f) (mA f))/\PySem.Within mA (fs.map (·.1))
 |.own _=> ∃o,h.get? a=some o
 |.xd fs=> ∃mA,h.Ns1 a mA/\ ∀f,Oy (fs.lookup f) (mA f)
 |.rng lo hi=> ∃t u v,h.get? a=some {cls:=.type "range",data:=.fields #[.int lo t,.int hi u,.int 1 v]}
 |.frz o u=>h.get? a=some o/\ObjOk H h a u
 |.tbl ps=> ∃us,h.get? a=some {cls:=.none,data:=.fields us}/\(us=#[]\/ ∃c oc,us=#[(ps[0]?).getD .none,(ps[1]?).getD .none,.ref c]/\H c=some (.frz oc (.ext λh=>h.get? c=some oc))/\Oz oc ((ps[2]?).getD .none))
 |.met f x=>h.get? a=some (PySem.W.methodObj (.ref f) (.ref x))
 |.ext φ=>φ h/\(∃o,h.get? a=some o)/\ ∀h1 h2:Heap,φ h1->(∀o,h1.get? a=some o->h2.get? a=some o)->φ h2
def HOk(H:Hp)(h:Heap):Prop:= ∀a o,H a=some o->ObjOk P w H h a o
end
section
variable{P:Program}{w:World}{H H':Hp}{h h':Heap}{a:Addr}{o:HO}
def ObjOk.lt(x:ObjOk P w H h a o):a<h.objs.size:=by
 cases o with
 |lst xs=>obtain⟨_,_,_,_,e⟩:=x;exact Heap.lt_size e
 |tup xs=>obtain⟨_,_,_,p⟩:=x;exact p.lt
 |dK kvs=>obtain⟨_,_,_,_,o,_,_,e,_⟩:=x;exact Heap.lt_size e
 |dT kvs=>obtain⟨_,_,_,_,o,_,_,e,_⟩:=x;exact Heap.lt_size e
 |set S n=>obtain⟨o,_,_,_,e,_⟩:=x;exact Heap.lt_size e
 |ins C dx fs=>obtain⟨_,_,_,e,_⟩:=x;exact Heap.lt_size e
 |own y=>obtain⟨_,e⟩:=x;exact Heap.lt_size e
 |xd fs=>obtain⟨_,⟨_,_,_,e,_⟩,_⟩:=x;exact Heap.lt_size e
 |rng lo hi=>obtain⟨_,_,_,e⟩:=x;exact Heap.lt_size e
 |frz ob u=>obtain⟨e,_⟩:=x;exact Heap.lt_size e
 |tbl ps=>obtain⟨_,e,_⟩:=x;exact Heap.lt_size e
 |met f y=>exact Heap.lt_size x
 |ext φ=>obtain⟨_,⟨_,e⟩,_⟩:=x;exact Heap.lt_size e
def Paired.mapP{α β:Type}{F G:α->β->Prop}: ∀{l₁:List α}{l₂:List β},Paired F l₁ l₂->(∀a b,F a b->G a b)->Paired G l₁ l₂:=λhh=>by
 induction hh with
 |nil=>exact(λ_=>.nil)
 |cons r t ih=>exact(λf=>.cons (f _ _ r) (ih f))
def ObjOk.stay(x:ObjOk P w H h a o)(k: ∀b u,(b=a\/H b=some (.own a))->h.get? b=some u->h'.get? b=some u)
  (ho: ∀b,H b=some (.own a)->H' b=some (.own a)) (ht: ∀b xs,H b=some (.tup xs)->H' b=some (.tup xs)) (hf: ∀b o u,H b=some (.frz o u)->H' b=some (.frz o u)):ObjOk P w H' h' a o:=by
 induction o with
 |lst xs=>obtain⟨z,its,n,r,e⟩:=x;exact⟨z,its,n,r,k _ _ (.inl rfl) e⟩
 |tup xs=>obtain⟨z,its,r,ob,e,c⟩:=x;exact⟨z,its,r,ob,k _ _ (.inl rfl) e,c⟩
 |dK kvs=>obtain⟨z,y,vs,r,ob,es,ep,e,c⟩:=x;exact⟨z,y,vs,r,ob,es,ep,k _ _ (.inl rfl) e,c⟩
 |dT kvs=>
  obtain⟨z,y,xs,r,ob,es,ep,e,c⟩:=x;exact⟨z,y,xs,Paired.mapP r λp q z=>⟨z.1,ht _ _ z.2.1,z.2.2⟩,ob,es,ep,k _ _ (.inl rfl) e,c⟩
 |set S n=>obtain⟨ob,es,ep,t,e,c⟩:=x;exact⟨ob,es,ep,t,k _ _ (.inl rfl) e,c⟩
 |ins C dx fs=>
  obtain⟨d,z,ne,e,mA,⟨od,es,ep,e2,c⟩,r⟩:=x;exact⟨ho _ d,z,ne,k _ _ (.inl rfl) e,mA,⟨od,es,ep,k _ _ (.inr d) e2,c⟩,r⟩
 |own y=>obtain⟨ob,e⟩:=x;exact⟨ob,k _ _ (.inl rfl) e⟩
 |xd fs=>obtain⟨mA,⟨od,es,ep,e,c⟩,r⟩:=x;exact⟨mA,⟨od,es,ep,k _ _ (.inl rfl) e,c⟩,r⟩
 |rng lo hi=>obtain⟨t,u,v,e⟩:=x;exact⟨t,u,v,k _ _ (.inl rfl) e⟩
 |frz ob u ih=>obtain⟨e,q⟩:=x;exact⟨k _ _ (.inl rfl) e,ih q⟩
 |tbl ps=>
  obtain⟨us,e,r⟩:=x;exact⟨us,k a _ (.inl rfl) e,r.imp id λ⟨c,oc,e1,e2,e3⟩=>⟨c,oc,e1,hf _ _ _ e2,e3⟩⟩
 |met f y=>
  have e:h.get? a=some _:=x;show h'.get? a=some _;exact k a _ (.inl rfl) e
 |ext φ=>obtain⟨p,⟨o,e⟩,st⟩:=x;exact⟨st _ _ p λo q=>k _ _ (.inl rfl) q,⟨o,k _ _ (.inl rfl) e⟩,st⟩
def HOk.lt(x:HOk P w H h)(e:H a=some o):a<h.objs.size:=(x a o e).lt
def HOk.fresh(x:HOk P w H h)(e:h.objs.size<=a):H a=none:=by
 cases q:H a with
 |none=>rfl
 |some u=>exact absurd (Nat.lt_of_lt_of_le (x.lt q) e) (lt_irrefl _)
def HOk.kept(x:HOk P w H h)(k: ∀b u,h.get? b=some u->h'.get? b=some u):HOk P w H h':=λa o e=>
 (x a o e).stay (λb u _ q=>k b u q) (λ_ q=>q) (λ_ _ q=>q) λ_ _ _ q=>q
def HOk.laid(x:HOk P w H h)(k: ∀b u,h.get? b=some u->h'.get? b=some u)(hp:h.objs.size<=a)(new:ObjOk P w (gH H a o) h' a o):HOk P w (gH H a o) h':=λb u e=>by
 have hn:=x.fresh hp;by_cases hb:b=a
 .subst hb;rw[zZ]at e;cases e;exact new
 .rw[zK hb]at e;exact(x b u e).stay (λc v _ q=>k c v q) (λc q=>by rw[zK (zN q hn)];exact q) (λc xs q=>by rw[zK (zN q hn)];exact q) λc ob xs q=>by rw[zK (zN q hn)];exact q
end
def Rd(H:Hp)(a:Addr)(u:HO):Prop:=H a=some u\/ ∃o,H a=some (.frz o u)
def Rd.ok{P:Program}{w:World}{H:Hp}{h:Heap}{a:Addr}{u:HO}(r:Rd H a u)(x:HOk P w H h):ObjOk P w H h a u:=by
 rcases r with r|⟨o,r⟩
 .exact x a u r
 .obtain⟨_,q⟩:=x a _ r;exact q
def Oq:Option HO->Prop
 |some (.lst _)=>True
 |some (.dK _)=>True
 |some (.dT _)=>True
 |some (.set _ _)=>True
 |some (.ins _ _ _)=>True
 |some (.ext _)=>True
 |_=>False
section
variable{P:Program}{w:World}{H:Hp}{h h':Heap}{x e:Addr}{o':HO}
theorem HOk.write(ok:HOk P w H h)(mu:Oq (H x))(he:e=x\/H e=some (.own x))(k: ∀b u,b≠e->h.get? b=some u->h'.get? b=some u)(heo: ∃u,h'.get? e=some u)
  (new:ObjOk P w (gH H x o') h' x o'):HOk P w (gH H x o') h':=λb u q=>by
 have nown: ∀c y,H c=some (.own y)->c≠x:=λc y r z=>by subst z;rw[r]at mu;exact mu
 by_cases hb:b=x
 .subst hb;rw[zZ]at q;cases q;exact new
 .rw[zK hb]at q;by_cases hbe:b=e
  .have q':H b=some (.own x):=by
    rcases he with z|z
    .exact absurd (hbe.trans z) hb
    .rw[hbe];exact z
   rw[q]at q';cases q';obtain⟨v,hv⟩:=heo;exact⟨v,by rw[hbe];exact hv⟩
  .refine(ok b u q).stay (λc v hc r=>k c v ?_ r) (λc r=>by rw[zK (nown c b r)];exact r) (λc xs r=>by rw[zK ((λc xs r z=>by subst z;rw[r]at mu;exact mu) c xs r)];exact r) λc ob v r=>by rw[zK λz=>by subst z;rw[r]at mu;exact mu];exact r
   rcases hc with rfl|hc
   .exact hbe
   .rintro rfl;rcases he with z|z
    .exact nown c b hc z
    .rw[hc]at z;cases z;exact hb rfl
end
structure Un(fs ex:Tg)(H H':Hp)(h h':Heap):Prop where
 keep: ∀b o,h.get? b=some o->H b=none->b∉fs->b∉ex->h'.get? b=some o
 slot: ∀b o,h.get? b=some o->H b=none->b∈fs->b∉ex-> ∃sl,h'.get? b=some {o with slots:=sl}
 free: ∀b o,h.get? b=some o->H b=none->b∉ex->H' b=none
 there: ∀b o,h.get? b=some o->b∉ex-> ∃o',h'.get? b=some o'
 tups: ∀b xs,H b=some (.tup xs)->H' b=some (.tup xs)
 frzs: ∀b o u,H b=some (.frz o u)->H' b=some (.frz o u)
 tbls: ∀b ps,H b=some (.tbl ps)->H' b=some (.tbl ps)
section
variable{fs ex:Tg}{H H1:Hp}{h h1 h':Heap}{a x e:Addr}{o:HO}
def Un.any(u:Un fs ex H H1 h h1){b:Addr}{ob:Obj}(q:h.get? b=some ob)(n:H b=none)(hx:b∉ex): ∃sl,h1.get? b=some {ob with slots:=sl}:=by
 by_cases hb:b∈fs
 .exact u.slot b ob q n hb hx
 .exact⟨_,u.keep b ob q n hb hx⟩
def Un.kept(k: ∀b u,h.get? b=some u->h'.get? b=some u):Un fs ex H H h h':=
 ⟨λb ob q _ _ _=>k b ob q,λb ob q _ _ _=>⟨_,k b ob q⟩,λ_ _ _ n _=>n,λb ob q _=>⟨ob,k b ob q⟩,λ_ _ q=>q,λ_ _ _ q=>q,λ_ _ q=>q⟩
def Un.refl:Un fs ex H H h h:=Un.kept λ_ _ q=>q
def Un.laid(k: ∀b u,h.get? b=some u->h'.get? b=some u)(hp:h.objs.size<=a)(hn:H a=none):Un fs ex H (gH H a o) h h' where
 keep:=λb u q _ _ _=>k b u q
 slot:=λb u q _ _ _=>⟨_,k b u q⟩
 free:=λb u q n _=>by rw[zK (Nat.ne_of_lt (Nat.lt_of_lt_of_le (Heap.lt_size q) hp))];exact n
 there:=λb u q _=>⟨u,k b u q⟩
 tups:=λb xs q=>by rw[zK (zN q hn)];exact q
 frzs:=λb u xs q=>by rw[zK (zN q hn)];exact q
 tbls:=λb ps q=>by rw[zK (zN q hn)];exact q
def Un.write(mu:Oq (H x))(he:e=x\/H e=some (.own x))(k: ∀b u,b≠e->h.get? b=some u->h'.get? b=some u)(heo: ∃u,h'.get? e=some u):Un fs ex H (gH H x o) h h':=by
 have hx: ∀b,H b=none->b≠x:=λb n z=>by subst z;rw[n]at mu;exact mu
 have hb: ∀b,H b=none->b≠e:=λb n z=>by
  subst z;rcases he with r|r
  .exact hx b n r
  .rw[n]at r;cases r
 have hm: ∀b u,H b=some u-> ¬Oq (some u)->b≠x:=λb u q nm z=>by subst z;rw[q]at mu;exact nm mu
 refine⟨λb u q n _ _=>k b u (hb b n) q,λb u q n _ _=>⟨_,k b u (hb b n) q⟩,λb u q n _=>by rw[zK (hx b n)];exact n,λb u q _=>?_,
  λb xs q=>by rw[zK (hm b _ q λz=>z)];exact q,λb u xs q=>by rw[zK (hm b _ q λz=>z)];exact q,λb ps q=>by rw[zK (hm b _ q λz=>z)];exact q⟩
 by_cases hbe:b=e
 .subst hbe;exact heo
 .exact⟨u,k b u hbe q⟩
end
def trk(h:Heap)(H:Hp):List Addr:=(List.range h.objs.size).filter λa=>(H a).isSome
def UH(h:Heap)(H:Hp):Heap:=PySem.W.hideAll h (trk h H)
def UI(h:Heap)(H:Hp):(UH h H).objs.size=h.objs.size:=PySem.W.hideAll_size _ _
def WY{h:Heap}{H:Hp}{b:Addr}{o:Obj}(e:h.get? b=some o)(n:H b=none):(UH h H).get? b=some o:=
 PySem.W.hideAll_get _ e λhm=>by have q:=(List.mem_filter.mp hm).2;rw[n]at q;simp at q
def Ca{h:Heap}{H:Hp}{b:Addr}{o:Obj}(e:(UH h H).get? b=some o):h.get? b=some o/\H b=none:=by
 have e':=PySem.W.of_hideAll _ e;refine⟨e',?_⟩
 cases q:H b with
 |none=>rfl
 |some x=>
  have z:(UH h H).get? b=none:=PySem.W.hideAll_none _ (List.mem_filter.mpr ⟨mem_range.mpr (Heap.lt_size e'),by simp[q]⟩);rw[z]at e;cases e
def Cb(g h:Heap)(L:Addr):List (Addr×Obj):=(List.range h.objs.size).filterMap λa=>if a=L\/(g.get? a).isSome=true then none else(h.get? a).map λo=>(a,o)
def rest(g h:Heap)(L d:Addr):List (Addr×Obj):=(Cb g h L).filter λp=>decide (p.1≠d)
structure Mod(K:Ud)(mg:Ti)(base:Heap):Prop where
 kin:K.In base
 glob:base.Ns mainGlobals mg
 blt: ∃mb,base.Ns builtinsNs mb/\ ∀x:Str,x≠"__name__"->mb x=bootBuiltins x
 nolimit:base.NoLimit
 bmain: ∃bm ob,mg "__builtins__"=some (.ref bm)/\bm≠builtinsNs/\base.get? bm=some ob/\ob.cls=.type "module"/\ob.dict=some builtinsNs/\ob.data=.plain
def fO(P:Program):List (Str×Array Value):=P.main.body.filterMap λ
 |.FunctionDef x _ body _ _ _ _ _ _ _=>body.findSome? λ
  |.FunctionDef n _ _ _ _ _ _ _ _ pos=>some (x,#[rawInt pos.line,rawInt pos.col,.str (x++".<locals>."++n) 0])
  |_=>none
 |_=>none
def tabAt(P:Program)(K:Ud)(b:Addr):Option (Array Value):=((fO P).find? λe=>(PySem.W.tabIn K e.1).map (·.2)==some b).map (·.2)
structure Bsz(P:Program)(K:Ud)(base h:Heap)(H:Hp):Prop where
 le:base.objs.size<=h.objs.size
 tb: ∀b ps,tabAt P K b=some ps->H b=some (.tbl ps)
 cd: ∀e∈fO P, ∀c b,PySem.W.tabIn K e.1=some (c,b)->PySem.W.CodeHd base c b
structure Cx where
 prog:Program
 w:World
 K:PySem.W.Frag
 mg:Str->Option Value
 base:Heap
 A:Around
 N:List Str
 s₀:Shared
 H₀:Hp
 env:Env
 outer:List Env
 stack:List Env
 ex:List Addr
 fn:Str->Bool
 calm:Bool
 pn:List (Addr×Obj)
 xe:VP
def WS(l:List Env):List Addr:=l.filterMap (·.frame)
abbrev Cx.fs(X:Cx):List Addr:=WS X.outer
def Pa(sc:Scope)(x:Str):Prop:=sc.names.lookup x=some .local\/sc.names.lookup x=some .cell\/sc.names.lookup x=some .free
def Loc(sc:Scope)(x:Str):Prop:=sc.names.lookup x=some .local\/sc.names.lookup x=some .cell
def Look(env:Env)(h:Heap)(m:Ti)(x:Str)(u:Value):Prop:=
 (env.kindOf x=some .local/\m x=some u)\/((env.kindOf x=some .cell\/env.kindOf x=some .free)/\ ∃c,env.cells.lookup x=some c/\h.IsCell c (some u))
structure Cx.Ok(X:Cx):Prop where
 mod:Mod X.K X.mg X.base
 kind:X.env.scope.kind=.function
 glob:X.env.globals=mainGlobals
 blt:X.env.builtins=builtinsNs
 above:X.s₀.heap.objs.size<=X.env.locals
 inj: ∀x y c,X.env.cells.lookup x=some c->X.env.cells.lookup y=some c->x=y
 has: ∀x,(X.env.kindOf x=some .cell\/X.env.kindOf x=some .free)-> ∃c,X.env.cells.lookup x=some c
 cab: ∀x c,X.fn x=true->X.env.cells.lookup x=some c->X.s₀.heap.objs.size<=c
 hd:X.calm=true->X.A.handled=none
 frames:X.A.frames=some X.stack
 stk:X.stack=X.outer\/(X.stack=X.env::X.outer/\X.env.frame=some X.env.locals)
 exf: ∀b∈X.ex,b≠X.env.locals/\ ∀x c,X.env.cells.lookup x=some c->c≠b
 bs: ∀b o,X.base.get? b=some o->X.s₀.heap.get? b=some o/\X.H₀ b=none
 bsz:Bsz X.prog X.K X.base X.s₀.heap X.H₀
 noex: ∀b o,X.base.get? b=some o->b∉X.ex
 exfs: ∀b∈X.ex,b∉X.fs
 funs:X.s₀.heap.FunFrames X.base X.outer
 frf: ∀b∈X.fs,X.H₀ b=none
def Pb(H:Hp)(c:Addr):Prop:= ∃o,H c=some (.frz o (.ext λh=>h.get? c=some o))
structure Inv(X:Cx)(pins:Tk)(σ:List (Option V))(H:Hp)(s:Shared):Prop where
 ok:X.Ok
 os:s.os=X.s₀.os
 bare:AllBare s.gens
 base:Un X.fs X.ex X.H₀ H X.s₀.heap s.heap
 loc: ∃m,s.heap.Ns X.env.locals m/\ ∀(i:Nat)(x:Str)(v:V),X.N[i]? =some x->σ[i]? =some (some v)->Pa X.env.scope x-> ∃u,RelV v u/\Look X.env s.heap m x u
 cell: ∀x c,X.env.cells.lookup x=some c-> ∃v,s.heap.IsCell c v
 free:H X.env.locals=none
 freeC: ∀x c,X.env.cells.lookup x=some c->H c=none\/(X.fn x=false/\Pb H c)
 pin: ∀p∈X.pn++pins,s.heap.get? p.1=some p.2/\H p.1=none/\p.1≠X.env.locals/\p.1∉X.fs/\ ∀v,p.2.data≠.cell v
 hok:HOk X.prog X.w H s.heap
 len:σ.length=X.N.length
section
variable{X:Cx}{pins:Tk}{σ:List (Option V)}{H H':Hp}{s:Shared}{h':Heap}
def Cx.Ok.nofr(ok:X.Ok){b:Addr}{o:Obj}(e:X.base.get? b=some o):b∉X.fs:=λhb=>by have:=(ok.funs.mem hb).1;rw[e]at this;cases this
def Inv.bs(I:Inv X pins σ H s): ∀b o,X.base.get? b=some o->s.heap.get? b=some o/\H b=none:=λb o e=>
 ⟨I.base.keep b o (I.ok.bs b o e).1 (I.ok.bs b o e).2 (I.ok.nofr e) (I.ok.noex b o e),I.base.free b o (I.ok.bs b o e).1 (I.ok.bs b o e).2 (I.ok.noex b o e)⟩
def Inv.bk(I:Inv X pins σ H s): ∀b o,X.base.get? b=some o->s.heap.get? b=some o:=λb o e=>(I.bs b o e).1
def Inv.mod(I:Inv X pins σ H s):Mod X.K X.mg X.base:=I.ok.mod
def Inv.kIn(I:Inv X pins σ H s):X.K.In s.heap:=I.ok.mod.kin.keeps I.bk
def Inv.lt(I:Inv X pins σ H s):X.env.locals<s.heap.objs.size:=let ⟨_,hn,_⟩:=I.loc;hn.lt
def Inv.sz(I:Inv X pins σ H s):X.s₀.heap.objs.size<=s.heap.objs.size:=Nat.le_trans I.ok.above (le_of_lt I.lt)
def Inv.bsz(I:Inv X pins σ H s):Bsz X.prog X.K X.base s.heap H:=⟨Nat.le_trans I.ok.bsz.1 I.sz,λb ps e=>I.base.tbls b ps (I.ok.bsz.2 b ps e),I.ok.bsz.3⟩
def Inv.nofs(I:Inv X pins σ H s){a:Addr}(h:s.heap.objs.size<=a):a∉X.fs:=λhb=>by obtain⟨_,o,ho,_⟩:=I.ok.funs.mem hb;exact absurd (Nat.lt_of_lt_of_le (Heap.lt_size ho) (Nat.le_trans I.sz h)) (lt_irrefl _)
def Inv.cne(I:Inv X pins σ H s): ∀x c,X.env.cells.lookup x=some c->c≠X.env.locals:=λx c e z=>by obtain⟨v,o,ho,hd⟩:=I.cell x c e;obtain⟨m,⟨o',es,ep,ho',hd',_⟩,_⟩:=I.loc;rw[z,ho']at ho;cases ho;rw[hd']at hd;cases hd
def Inv.funs(I:Inv X pins σ H s):s.heap.FunFrames X.base X.outer:=by
 have all: ∀(l:List Env),(∀b∈WS l,b∈X.fs)->X.s₀.heap.FunFrames X.base l->s.heap.FunFrames X.base l:=by
  intro l
  induction l with
  |nil=>intro _ _;trivial
  |cons env r ih=>
   intro hs hl;obtain⟨hk,⟨L,o,hf,hn,ho,hd⟩,hr⟩:=hl;have hL:=hs L (by unfold WS;rw[filterMap_cons,hf];exact mF0);obtain⟨sl,e⟩:=I.base.slot L o ho (I.ok.frf L hL) hL λz=>I.ok.exfs L z hL;exact⟨hk,⟨L,_,hf,hn,e,hd⟩,ih (λb hb=>hs b (by unfold WS;rw[filterMap_cons,hf];exact mO _ hb)) hr⟩
 exact all X.outer (λ_ hb=>hb) I.ok.funs
def Inv.stack(I:Inv X pins σ H s):s.heap.FunFrames X.base X.stack:=by
 rcases I.ok.stk with e|⟨e,hf⟩
 .rw[e];exact I.funs
 .rw[e];obtain⟨m,hn,_⟩:=I.loc;refine .cons (by rw[I.ok.kind];decide) hf hn ?_ I.funs;exact Heap.get?_none_of_le (Nat.le_trans I.ok.bsz.1 I.ok.above)
def Inv.stkSub(I:Inv X pins σ H s): ∀b∈WS X.stack,b∈X.env.locals::X.fs:=λb hb=>by
 rcases I.ok.stk with e|⟨e,hf⟩
 .rw[e]at hb;exact mO _ hb
 .rw[e]at hb;unfold WS at hb;rw[filterMap_cons,hf]at hb;exact hb
def Inv.stkFree(I:Inv X pins σ H s): ∀b∈WS X.stack,H b=none:=λb hb=>by
 rcases mC.mp (I.stkSub b hb)with e|hb
 .rw[e];exact I.free
 .obtain⟨_,o,ho,_⟩:=I.ok.funs.mem hb;exact I.base.free b o ho (I.ok.frf b hb) λz=>I.ok.exfs b z hb
def Inv.step{g':Array GenState}{t':Nat}{d':Drawn}{ch:Tg}(I:Inv X pins σ H s)
  (hch: ∀b∈ch,(b∈X.ex\/X.s₀.heap.objs.size<=b)/\b≠X.env.locals/\(∀x c,X.env.cells.lookup x=some c->c≠b)/\ ∀p∈X.pn++pins,p.1≠b)
  (keep: ∀b o,b≠X.env.locals->b∉X.fs->b∉ch->s.heap.get? b=some o->H b=none->h'.get? b=some o)
  (slot: ∀b o,b≠X.env.locals->b∈X.fs->b∉ch->s.heap.get? b=some o->H b=none-> ∃sl,h'.get? b=some {o with slots:=sl}) (free: ∀b o,b∉ch->s.heap.get? b=some o->H b=none->H' b=none)
  (there: ∀b o,b∉ch->s.heap.get? b=some o-> ∃o',h'.get? b=some o')
  (tups: ∀b xs,H b=some (.tup xs)->H' b=some (.tup xs)) (frzs: ∀b o u,H b=some (.frz o u)->H' b=some (.frz o u)) (tbls: ∀b ps,H b=some (.tbl ps)->H' b=some (.tbl ps))
  (ns: ∀m,s.heap.Ns X.env.locals m->h'.Ns X.env.locals m) (hok:HOk X.prog X.w H' h') (hg:AllBare g'):
  Inv X pins σ H' {s with heap:=h',gens:=g',drawn:=d',toks:=t'}:=by
 have neL: ∀b o,X.s₀.heap.get? b=some o->b≠X.env.locals:=λb o e=>Nat.ne_of_lt (Nat.lt_of_lt_of_le (Heap.lt_size e) I.ok.above)
 have neC: ∀b o,X.s₀.heap.get? b=some o->b∉X.ex->b∉ch:=λb o e hx hb=>by
  rcases (hch b hb).1 with z|z
  .exact hx z
  .exact absurd (Nat.lt_of_lt_of_le (Heap.lt_size e) z) (lt_irrefl _)
 have cellK: ∀x c,X.env.cells.lookup x=some c-> ∀v,s.heap.IsCell c v->h'.IsCell c v:=λx c e v ⟨o,ho,hd⟩=>by
  have nch:=λz=>(hch c z).2.2.1 x c e rfl;rcases I.freeC x c e with fr|⟨_,oc,fr⟩
  .by_cases hc:c∈X.fs
   .obtain⟨sl,q⟩:=slot c o (I.cne x c e) hc nch ho fr;exact⟨_,q,hd⟩
   .exact⟨o,keep c o (I.cne x c e) hc nch ho fr,hd⟩
  .obtain⟨e1,_⟩:=I.hok c _ fr;obtain⟨e2,_⟩:=hok c _ (frzs c _ _ fr);rw[ho]at e1;cases e1;exact⟨_,e2,hd⟩
 refine⟨I.ok,I.os,hg,⟨λb o e n hb hx=>?_,λb o e n hb hx=>?_,λb o e n hx=>?_,λb o e hx=>?_,λb xs e=>tups b xs (I.base.tups b xs e),λb o xs e=>frzs b o xs (I.base.frzs b o xs e),λb ps e=>tbls b ps (I.base.tbls b ps e)⟩,?_,λx c e=>?_,?_,λx c e=>?_,λp hp=>?_,hok,I.len⟩
 .exact keep b o (neL b o e) hb (neC b o e hx) (I.base.keep b o e n hb hx) (I.base.free b o e n hx)
 .obtain⟨sl,e1⟩:=I.base.slot b o e n hb hx;obtain⟨sl',e2⟩:=slot b _ (neL b o e) hb (neC b o e hx) e1 (I.base.free b o e n hx);exact⟨sl',e2⟩
 .obtain⟨o',e1⟩:=I.base.there b o e hx;exact free b o' (neC b o e hx) e1 (I.base.free b o e n hx)
 .obtain⟨o',e1⟩:=I.base.there b o e hx;exact there b o' (neC b o e hx) e1
 .obtain⟨m,hn,hl⟩:=I.loc;refine⟨m,ns m hn,λi x v e1 e2 e3=>?_⟩;obtain⟨u,r,l⟩:=hl i x v e1 e2 e3;refine⟨u,r,?_⟩;rcases l with l|⟨k,c,e,z⟩
  .exact .inl l
  .exact .inr ⟨k,c,e,cellK x c e _ z⟩
 .obtain⟨v,z⟩:=I.cell x c e;exact⟨v,cellK x c e v z⟩
 .obtain⟨m,⟨o,_,_,ho,_⟩,_⟩:=I.loc;exact free _ o (λz=>(hch _ z).2.1 rfl) ho I.free
 .obtain⟨v,o,ho,hd⟩:=I.cell x c e;exact(I.freeC x c e).imp (free c o (λz=>(hch c z).2.2.1 x c e rfl) ho) λ⟨nf,oc,fr⟩=>⟨nf,oc,frzs c _ _ fr⟩
 .obtain⟨e,n,ne,nf,d⟩:=I.pin p hp;have nch:=λz=>(hch p.1 z).2.2.2 p hp rfl;exact⟨keep p.1 p.2 ne nf nch e n,free p.1 p.2 nch e n,ne,nf,d⟩
def Inv.un{t':Nat}(I:Inv X pins σ H s)(u:Un X.fs [] H H' s.heap h')(hok:HOk X.prog X.w H' h'):Inv X pins σ H' {s with heap:=h',toks:=t'}:=by obtain⟨m,⟨o,es,ep,ho,r⟩,_⟩:=id I.loc;obtain⟨sl,hL⟩:=u.any ho I.free (by simp);exact I.step (ch:=[]) (λ_ z=>nomatch z) (λb o _ hb _ e n=>u.keep b o e n hb (by simp)) (λb o _ hb _ e n=>u.slot b o e n hb (by simp)) (λb o _ e n=>u.free b o e n (by simp)) (λb o _ e=>u.there b o e (by simp)) u.tups u.frzs u.tbls (λm' hm=>by obtain⟨o',es',ep',ho',r'⟩:=hm;rw[ho]at ho';cases ho';exact⟨_,es',ep',hL,r'⟩) hok I.bare
def Inv.call{g':Array GenState}{t':Nat}{d':Drawn}{ch:Tg}(I:Inv X pins σ H s)(u:Un (WS X.stack) ch H H' s.heap h')(hok:HOk X.prog X.w H' h')(hg:AllBare g')
  (hch: ∀b∈ch,(b∈X.ex\/X.s₀.heap.objs.size<=b)/\b≠X.env.locals/\(∀x c,X.env.cells.lookup x=some c->c≠b)/\ ∀p∈X.pn++pins,p.1≠b):
  Inv X pins σ H' {s with heap:=h',gens:=g',drawn:=d',toks:=t'}:=by
 obtain⟨m,⟨o,es,ep,ho,r⟩,_⟩:=id I.loc;obtain⟨sl,hL⟩:=u.any ho I.free λz=>(hch _ z).2.1 rfl;exact I.step hch (λb o hL hb hc e n=>u.keep b o e n (λz=>(mC.mp (I.stkSub b z)).elim hL hb) hc) (λb o _ _ hc e n=>u.any e n hc) (λb o hc e n=>u.free b o e n hc) (λb o hc e=>u.there b o e hc) u.tups u.frzs u.tbls (λm' hm=>by obtain⟨o',es',ep',ho',r'⟩:=hm;rw[ho]at ho';cases ho';exact⟨_,es',ep',hL,r'⟩) hok hg
def Inv.turned{t':Nat}{it:Addr}(I:Inv X pins σ H s)(k: ∀b o,b≠it->s.heap.get? b=some o->h'.get? b=some o)(hn:H it=none)(hL:it≠X.env.locals)
  (h1:it∈X.ex\/X.s₀.heap.objs.size<=it) (h2: ∀x c,X.env.cells.lookup x=some c->c≠it) (h3: ∀p∈X.pn++pins,p.1≠it):Inv X pins σ H {s with heap:=h',toks:=t'}:=by
 have nit: ∀b u,H b=some u->b≠it:=λb u e z=>by rw[z,hn]at e;cases e
 refine I.step (ch:=[it]) (λb hb=>?_) (λb o _ _ hc e _=>k b o (λz=>hc (by simp[z])) e) (λb o _ _ hc e _=>⟨_,k b o (λz=>hc (by simp[z])) e⟩) (λ_ _ _ _ n=>n)
  (λb o hc e=>⟨o,k b o (λz=>hc (by simp[z])) e⟩) (λ_ _ e=>e) (λ_ _ _ e=>e) (λ_ _ e=>e) (λm hm=>?_) (λb u e=>?_) I.bare
 .have e:=by simpa using hb
  subst e;exact⟨h1,hL,h2,h3⟩
 .obtain⟨o,es,ep,ho,r⟩:=hm;exact⟨o,es,ep,k _ o (Ne.symm hL) ho,r⟩
 .refine(I.hok b u e).stay (λc v hc q=>k c v ?_ q) (λ_ q=>q) (λ_ _ q=>q) λ_ _ _ q=>q;rcases hc with z|z
  .rw[z];exact nit b u e
  .exact nit c _ z
def Inv.tok(I:Inv X pins σ H s)(t:Nat):Inv X pins σ H {s with toks:=t}:=I.un Un.refl I.hok
def Inv.kept{t':Nat}(I:Inv X pins σ H s)(k: ∀b u,s.heap.get? b=some u->h'.get? b=some u):Inv X pins σ H {s with heap:=h',toks:=t'}:=I.un (Un.kept k) (I.hok.kept k)
def Inv.laid{a:Addr}{o:HO}{t':Nat}(I:Inv X pins σ H s)(k: ∀b u,s.heap.get? b=some u->h'.get? b=some u)(hp:s.heap.objs.size<=a)(new:ObjOk X.prog X.w (gH H a o) h' a o):
  Inv X pins σ (gH H a o) {s with heap:=h',toks:=t'}:=I.un (Un.laid k hp (I.hok.fresh hp)) (I.hok.laid k hp new)
def Inv.write{x e:Addr}{o:HO}{t':Nat}(I:Inv X pins σ H s)(mu:Oq (H x))(he:e=x\/H e=some (.own x))(k: ∀b u,b≠e->s.heap.get? b=some u->h'.get? b=some u)(heo: ∃u,h'.get? e=some u)
  (new:ObjOk X.prog X.w (gH H x o) h' x o):Inv X pins σ (gH H x o) {s with heap:=h',toks:=t'}:=I.un (Un.write mu he k heo) (I.hok.write mu he k heo new)
def Inv.pins_of{pins':Tk}(I:Inv X pins σ H s)(h: ∀p∈pins',s.heap.get? p.1=some p.2/\H p.1=none/\p.1≠X.env.locals/\p.1∉X.fs/\ ∀v,p.2.data≠.cell v):Inv X pins' σ H s:=
 ⟨I.ok,I.os,I.bare,I.base,I.loc,I.cell,I.free,I.freeC,λp hp=>(List.mem_append.mp hp).elim (λz=>I.pin p (mem_append_left _ z)) (h p),I.hok,I.len⟩
def KO{N:Th}(hN:N.Nodup){i j:Nat}{x:Str}(a:N[i]? =some x)(b:N[j]? =some x):i=j:=by obtain⟨h1,e1⟩:=gS0.mp a;obtain⟨h2,e2⟩:=gS0.mp b;exact(getElem_inj hN).mp (e1.trans e2.symm)
def GO{M:Model}{A:Around}{E:VP}{i:Nat}{x:Str}{v:V}{u:Value}{Q:Unit->Shared->Prop}(I:Inv X pins σ H s)(hN:X.N.Nodup)(hi:X.N[i]? =some x)(hx:Loc X.env.scope x)(r:RelV v u)
  (h: ∀s',Inv X pins (σ.set i (some v)) H s'->(∃a,Heap.SameBut a s.heap s'.heap/\(a=X.env.locals\/X.env.cells.lookup x=some a))->Q () s') (hf:X.fn x=true\/X.env.scope.names.lookup x=some .local:=by first |exact .inl rfl|exact .inr rfl|assumption):wpAny M A (storeName X.env x u) Q E s:=by
 obtain⟨m,hn,hl⟩:=id I.loc;have hiσ:i<σ.length:=by rw[I.len];exact(gS0.mp hi).1
 have cne:=I.cne
 have tracked: ∀{a:Addr}{h':Heap},(∃o,s.heap.get? a=some o/\H a=none)->Heap.SameBut a s.heap h'->HOk X.prog X.w H h':=λ{a h'} ha hs b ob e=>by
  obtain⟨_,_,hfree⟩:=ha;refine(I.hok b ob e).stay (λc w' hc q=>(hs.2 c ?_).trans q) (λ_ q=>q) (λ_ _ q=>q) λ_ _ _ q=>q;rintro rfl;rcases hc with rfl|hc
  .rw[hfree]at e;cases e
  .rw[hfree]at hc;cases hc
 rcases hx with hk|hk
 .refine wpAny_storeName_local hk hn (λh' hn' hs=>?_) (by rw[I.ok.kind];rfl);obtain⟨oL,_,_,hoL,_⟩:=id hn;refine h _ ⟨I.ok,I.os,I.bare,⟨λb o e n hb hx=>?_,λb o e n hb hx=>?_,I.base.free,λb o e hx=>?_,I.base.tups,I.base.frzs,I.base.tbls⟩,⟨_,hn',λj y v' e1 e2 e3=>?_⟩,λy c e=>?_,I.free,I.freeC,λp hp=>?_,tracked ⟨oL,hoL,I.free⟩ hs,by simpa using I.len⟩ ⟨_,hs,.inl rfl⟩
  .exact(hs.2 b (Nat.ne_of_lt (Nat.lt_of_lt_of_le (Heap.lt_size e) I.ok.above))).trans (I.base.keep b o e n hb hx)
  .obtain⟨sl,e1⟩:=I.base.slot b o e n hb hx;exact⟨sl,(hs.2 b (Nat.ne_of_lt (Nat.lt_of_lt_of_le (Heap.lt_size e) I.ok.above))).trans e1⟩
  .obtain⟨o',e1⟩:=I.base.there b o e hx;exact⟨o',(hs.2 b (Nat.ne_of_lt (Nat.lt_of_lt_of_le (Heap.lt_size e) I.ok.above))).trans e1⟩
  .by_cases hj:j=i
   .subst hj;rw[hi]at e1;cases e1;rw[getElem?_set_self hiσ]at e2;cases e2;exact⟨u,r,.inl ⟨hk,by simp⟩⟩
   .rw[getElem?_set_ne (Ne.symm hj)]at e2;obtain⟨u',r',q⟩:=hl j y v' e1 e2 e3;refine⟨u',r',?_⟩;rcases q with⟨k,e⟩|⟨k,c,e,z⟩
    .refine .inl ⟨k,?_⟩;have:y≠x:=λe=>hj (KO hN e1 (e▸hi));simp[this,e]
    .exact .inr ⟨k,c,e,z.sameBut hs (cne y c e)⟩
  .obtain⟨w',z⟩:=I.cell y c e;exact⟨w',z.sameBut hs (cne y c e)⟩
  .obtain⟨e,n,ne,nf,d⟩:=I.pin p hp;exact⟨(hs.2 p.1 ne).trans e,n,ne,nf,d⟩
 .have hfn:X.fn x=true:=by
   rcases hf with z|z
   .exact z
   .rw[z]at hk;cases hk
  obtain⟨c,hc⟩:=I.ok.has x (.inl hk);obtain⟨w',z⟩:=I.cell x c hc;refine wpAny_storeName_cell I.ok.kind hk hc z (λh' hc' hs=>?_);obtain⟨oc,hoc,hocd⟩:=id z;refine h {s with heap:=h'} ⟨I.ok,I.os,I.bare,⟨λb o e n hb hx=>?_,λb o e n hb hx=>?_,I.base.free,λb o e hx=>?_,I.base.tups,I.base.frzs,I.base.tbls⟩,⟨m,hn.sameBut hs (Ne.symm (cne x c hc)),λj y v' e1 e2 e3=>?_⟩,λy c' e=>?_,I.free,I.freeC,λp hp=>?_,tracked ⟨oc,hoc,(I.freeC x c hc).resolve_right λz=>by rw[hfn]at z;cases z.1⟩ hs,by simpa using I.len⟩ ⟨c,hs,.inr hc⟩
  .exact(hs.2 b (Nat.ne_of_lt (Nat.lt_of_lt_of_le (Heap.lt_size e) (I.ok.cab x c hfn hc)))).trans (I.base.keep b o e n hb hx)
  .obtain⟨sl,e1⟩:=I.base.slot b o e n hb hx;exact⟨sl,(hs.2 b (Nat.ne_of_lt (Nat.lt_of_lt_of_le (Heap.lt_size e) (I.ok.cab x c hfn hc)))).trans e1⟩
  .obtain⟨o',e1⟩:=I.base.there b o e hx;exact⟨o',(hs.2 b (Nat.ne_of_lt (Nat.lt_of_lt_of_le (Heap.lt_size e) (I.ok.cab x c hfn hc)))).trans e1⟩
  .by_cases hj:j=i
   .subst hj;rw[hi]at e1;cases e1;rw[getElem?_set_self hiσ]at e2;cases e2;exact⟨u,r,.inr ⟨.inl hk,c,hc,hc'⟩⟩
   .rw[getElem?_set_ne (Ne.symm hj)]at e2;obtain⟨u',r',q⟩:=hl j y v' e1 e2 e3;refine⟨u',r',?_⟩;rcases q with q|⟨k,c',e,z'⟩
    .exact .inl q
    .refine .inr ⟨k,c',e,z'.sameBut hs ?_⟩;rintro rfl;exact hj (KO hN e1 (I.ok.inj _ _ _ e hc▸hi))
  .by_cases hcc:c'=c
   .subst hcc;exact⟨_,hc'⟩
   .obtain⟨w2,z2⟩:=I.cell y c' e;exact⟨w2,z2.sameBut hs hcc⟩
  .obtain⟨e,n,ne,nf,d⟩:=I.pin p hp;refine⟨(hs.2 p.1 ?_).trans e,n,ne,nf,d⟩;intro q;rw[q,hoc]at e;exact d w' (by rw[<-(Option.some.inj e)];exact hocd)
def sZ{M:Model}{A:Around}{E:VP}{i:Nat}{x:Str}{v:V}{u:Value}{Q:Unit->Shared->Prop}(I:Inv X pins σ H s)(hN:X.N.Nodup)(hi:X.N[i]? =some x)(hx:Loc X.env.scope x)(r:RelV v u)
  (h: ∀s',Inv X pins (σ.set i (some v)) H s'->Q () s') (hf:X.fn x=true\/X.env.scope.names.lookup x=some .local:=by first |exact .inl rfl|exact .inr rfl|assumption):wpAny M A (storeName X.env x u) Q E s:=
 GO I hN hi hx r (λs' I' _=>h s' I') hf
def Inv.call'{s':Shared}{ch:Tg}(I:Inv X pins σ H s)(ho:s'.os=s.os)(u:Un (WS X.stack) ch H H' s.heap s'.heap)(hok:HOk X.prog X.w H' s'.heap)(hg:AllBare s'.gens)
  (hch: ∀b∈ch,(b∈X.ex\/X.s₀.heap.objs.size<=b)/\b≠X.env.locals/\(∀x c,X.env.cells.lookup x=some c->c≠b)/\ ∀p∈X.pn++pins,p.1≠b):Inv X pins σ H' s':=by
 obtain⟨h',g',d',t',o'⟩:=s';subst ho;exact I.call u hok hg hch
end
abbrev XK:=Value->Option Addr->Hp->Prop
abbrev St:=List (Option V)
abbrev VK:=V->Hp->Prop
abbrev TE:=St->Hp->VK->Prop
abbrev TT:=St->Hp->(Bool->Hp->Prop)->Prop
abbrev TA:=St->Hp->(List V->Hp->Prop)->Prop
structure Ends where
 nx:St->Hp->Prop
 rt:VK
 bk:St->Hp->Prop:=λ_ _=>False
 ct:St->Hp->Prop:=λ_ _=>False
abbrev TS:=Ends->St->Hp->Prop
def EP(X:Cx)(pins:Tk)(σ:St)(Q:VK)(u:Value)(s':Shared):Prop:= ∃v H',Inv X pins σ H' s'/\RelV v u/\Q v H'
def TP(X:Cx)(pins:Tk)(σ:St)(Q:Bool->Hp->Prop)(b:Bool)(s':Shared):Prop:= ∃H',Inv X pins σ H' s'/\Q b H'
def AP(X:Cx)(pins:Tk)(σ:St)(Q:List V->Hp->Prop)(us:Td)(s':Shared):Prop:= ∃vs H',Inv X pins σ H' s'/\Vals vs us/\Q vs H'
def SP(X:Cx)(pins:Tk)(D:Ends)(f:Flow)(s':Shared):Prop:=
 match f with
 |.next=> ∃σ' H',Inv X pins σ' H' s'/\D.nx σ' H'
 |.brk=> ∃σ' H',Inv X pins σ' H' s'/\D.bk σ' H'
 |.cont=> ∃σ' H',Inv X pins σ' H' s'/\D.ct σ' H'
 |.ret u=> ∃v σ' H',Inv X pins σ' H' s'/\RelV v u/\D.rt v H'
def PE(X:Cx)(e:Expr)(t:TE):Prop:=
 ∀(pins:Tk)(s:Shared)(σ:St)(H:Hp)(Q:VK),Inv X pins σ H s->t σ H Q->wpAny (model X.prog X.w) X.A (eval e X.env) (EP X pins σ Q) X.xe s
def PT(X:Cx)(e:Expr)(t:TT):Prop:=
 ∀(pins:Tk)(s:Shared)(σ:St)(H:Hp)(Q:Bool->Hp->Prop),Inv X pins σ H s->t σ H Q->wpAny (model X.prog X.w) X.A (isTrue e X.env (eval e X.env)) (TP X pins σ Q) X.xe s
def PW(X:Cx)(e:Expr)(t:TT):Prop:=
 ∀(whole:Sem Value)(pins:Tk)(s:Shared)(σ:St)(H:Hp)(Q:Bool->Hp->Prop),Inv X pins σ H s->t σ H Q->wpAny (model X.prog X.w) X.A (isTrue e X.env whole) (TP X pins σ Q) X.xe s
def PW.pt{X:Cx}{e:Expr}{t:TT}(h:PW X e t):PT X e t:=h _
def PA(X:Cx)(es:Uc)(t:TA):Prop:=
 ∀(pos:Pos)(pins:Tk)(s:Shared)(σ:St)(H:Hp)(Q:List V->Hp->Prop),Inv X pins σ H s->t σ H Q->wpAny (model X.prog X.w) X.A (spliced (backTo pos (starEach es X.env))) (AP X pins σ Q) X.xe s
def PS(X:Cx)(st:Stmt)(t:TS):Prop:=
 ∀(pins:Tk)(s:Shared)(σ:St)(H:Hp)(D:Ends),Inv X pins σ H s->t D σ H->wpAny (model X.prog X.w) X.A (exec st X.env) (SP X pins D) X.xe s
def PSs(X:Cx)(st:List Stmt)(t:TS):Prop:=
 ∀(pins:Tk)(s:Shared)(σ:St)(H:Hp)(D:Ends),Inv X pins σ H s->t D σ H->wpAny (model X.prog X.w) X.A (execs st X.env) (SP X pins D) X.xe s
def wO{α:Type}{t:Sem α}{Q Q':α->Shared->Prop}{M:Model}{A:Around}{E:VP}{s:Shared}(h:wpAny M A t Q E s)(hQ: ∀a s,Q a s->Q' a s):wpAny M A t Q' E s:=wpAny_mono h hQ λ_ _ x=>x
section
variable{X:Cx}
def Pc(i:Nat):TE:=λσ H Q=> ∃v,σ[i]? =some (some v)/\Q v H
def tC(v:V):TE:=λ_ H Q=>Q v H
def Jo{i:Nat}{x:Str}{pos:Pos}(hN:X.N[i]? =some x)(hv:Pa X.env.scope x)(hd:(x==("__debug__":Str))=false:=by decide)(hcd:(x==("__classdict__":Str))=false:=by decide):PE X (.Name x pos) (Pc i):=by
 intro pins s σ H Q I h;obtain⟨v,e,h⟩:=h;obtain⟨m,hn,hl⟩:=I.loc;obtain⟨u,r,l⟩:=hl i x v hN e hv;have fin:EP X pins σ Q u s:=⟨v,H,I,r,h⟩
 rcases l with⟨hk,hm⟩|⟨hk,c,hc,hcell⟩
 .exact wpAny_Name (wpAny_loadName_local I.ok.kind hk hn hm fin) hd
 .rcases hk with hk|hk
  .exact wpAny_Name (wpAny_loadName_cell I.ok.kind hk hc hcell fin) hd
  .exact wpAny_Name (wpAny_loadName_free I.ok.kind hk hc hcell fin hcd) hd
def Jp{i j pos}:PE X (.Constant (.int i) j pos) (tC (.int i)):=λ_ _ _ H _ I h=>wpAny_Constant_int ⟨.int i,H,I.tok _,⟨_,rfl⟩,h⟩
def Pd{b j pos}:PE X (.Constant (.bool b) j pos) (tC (.bl b)):=λ_ _ _ H _ I h=>Constant_bool ⟨.bl b,H,I,rfl,h⟩
def Jq{x j pos}:PE X (.Constant (.str x) j pos) (tC (.str x)):=λ_ _ _ H _ I h=>Calls.Constant_str ⟨.str x,H,I.tok _,⟨_,rfl⟩,h⟩
def Gl(X:Cx)(x:Str):Prop:=X.env.kindOf x=some .globalImplicit
def RF{E:VP}{pins:Tk}{s:Shared}{σ:St}{H:Hp}{x:Str}{u:Value}{pos:Pos}{Q:VP}(I:Inv X pins σ H s)(hg:Gl X x)(hm:X.mg x=some u)(h:Q u s)
  (hd:(x==("__debug__":Str))=false:=by decide):wpAny (model X.prog X.w) X.A (eval (.Name x pos) X.env) Q E s:=
 Calls.Name_function_global I.ok.kind hg (Calls.loadGlobal_global (by rw[I.ok.glob];exact I.mod.glob.keeps I.bk) hm h) hd
def rN{E:VP}{pins:Tk}{s:Shared}{σ:St}{H:Hp}{x:Str}{u:Value}{pos:Pos}{Q:VP}(I:Inv X pins σ H s)(hg:Gl X x)(hm:X.mg x=none)(hv:bootBuiltins x=some u)(h:Q u s)
  (hn:x≠"__name__":=by decide) (hd:(x==("__debug__":Str))=false:=by decide):wpAny (model X.prog X.w) X.A (eval (.Name x pos) X.env) Q E s:=by
 obtain⟨mb,h1,h2⟩:=I.mod.blt;exact Calls.Name_function_global I.ok.kind hg (Calls.loadGlobal_builtin (by rw[I.ok.glob];exact I.mod.glob.keeps I.bk) hm (by rw[I.ok.blt];exact h1.keeps I.bk) ((h2 x hn).trans hv) h) hd
def Cd{x:Str}{v:V}{u:Value}{pos:Pos}(hg:Gl X x)(hm:X.mg x=some u)(r:RelV v u)(hd:(x==("__debug__":Str))=false:=by decide):PE X (.Name x pos) (tC v):=
 λ_ _ _ H _ I h=>RF I hg hm ⟨v,H,I,r,h⟩ hd
def Ce{x:Str}{v:V}{u:Value}{pos:Pos}(hg:Gl X x)(hm:X.mg x=none)(hv:bootBuiltins x=some u)(r:RelV v u)(hn:x≠"__name__":=by decide)(hd:(x==("__debug__":Str))=false:=by decide):PE X (.Name x pos) (tC v):=
 λ_ _ _ H _ I h=>rN I hg hm hv ⟨v,H,I,r,h⟩ hn hd
variable{a b:Expr}{ta tb:TE}{pos:Pos}
variable{tA tB':TT}{rest:Uc}
def tAnd(t u:TT):TT:=λσ H Q=>t σ H λc H1=>if c=true then u σ H1 Q else Q false H1
def tOr(t u:TT):TT:=λσ H Q=>t σ H λc H1=>if c=true then Q true H1 else u σ H1 Q
def tNot(t:TT):TT:=λσ H Q=>t σ H λc H1=>Q (!c) H1
def Cf(ha:PT X a tA):PW X (.BoolOp .And [a] pos) tA:=by
 intro wh pins s σ H Q I h;refine isTrue_and (wO (ha pins s σ H Q I h) λc s1 e=>?_)
 cases c with
 |true=>exact isTrue_and_nil e
 |false=>exact e
def Jr(ha:PT X a tA):PW X (.BoolOp .Or [a] pos) tA:=by
 intro wh pins s σ H Q I h;refine isTrue_or (wO (ha pins s σ H Q I h) λc s1 e=>?_)
 cases c with
 |false=>exact isTrue_or_nil e
 |true=>exact e
def Js(ha:PT X a tA)(hb:PW X (.BoolOp .And (b::rest) pos) tB'):PW X (.BoolOp .And (a::b::rest) pos) (tAnd tA tB'):=by
 intro wh pins s σ H Q I h;refine isTrue_and (wO (ha pins s σ H _ I h) λc s1 ⟨H1,I1,q1⟩=>?_)
 cases c with
 |true=>exact hb wh pins s1 σ H1 Q I1 q1
 |false=>exact⟨H1,I1,q1⟩
def Pe(ha:PT X a tA)(hb:PW X (.BoolOp .Or (b::rest) pos) tB'):PW X (.BoolOp .Or (a::b::rest) pos) (tOr tA tB'):=by
 intro wh pins s σ H Q I h;refine isTrue_or (wO (ha pins s σ H _ I h) λc s1 ⟨H1,I1,q1⟩=>?_)
 cases c with
 |true=>exact⟨H1,I1,q1⟩
 |false=>exact hb wh pins s1 σ H1 Q I1 q1
def Jt(ha:PT X a tA):PT X (.UnaryOp .Not a pos) (tNot tA):=by intro pins s σ H Q I h;exact isTrue_not (ha pins s σ H (λc H1=>Q (!c) H1) I h)
def Pf(ta tb:TE):TE:=λσ H Q=>ta σ H λx H1=> ∃c,x=.bl c/\if c=true then tb σ H1 Q else Q (.bl false) H1
def Pg(ta:TE):TE:=λσ H Q=>ta σ H λx H1=> ∃c,x=.bl c/\Q (.bl (!c)) H1
def Ju{op}{t:TE}(h:PE X a t):PE X (.BoolOp op [a] pos) t:=λpins s σ H Q I hw=>BoolOp_one (h pins s σ H Q I hw)
def Jv(ha:PE X a ta)(hb:PE X (.BoolOp .And (b::rest) pos) tb):PE X (.BoolOp .And (a::b::rest) pos) (Pf ta tb):=by
 intro pins s σ H Q I h;refine BoolOp_and (wO (ha pins s σ H _ I h) λv s1 ⟨x,H1,I1,r1,q1⟩=>?_);obtain⟨c,rfl,q1⟩:=q1;cases r1;refine wpAny_truthy_bool ?_
 cases c with
 |true=>exact hb pins s1 σ H1 Q I1 q1
 |false=>exact⟨.bl false,H1,I1,rfl,q1⟩
def Jw(ha:PE X a ta):PE X (.UnaryOp .Not a pos) (Pg ta):=by intro pins s σ H Q I h;refine UnaryOp_ (wO (ha pins s σ H _ I h) λv s1 ⟨x,H1,I1,r1,q1⟩=>?_);obtain⟨c,rfl,q1⟩:=q1;cases r1;exact not_of (wpAny_truthy_bool ⟨.bl (!c),H1,I1,rfl,q1⟩)
def tIf(t:TT)(ta tb:TE):TE:=λσ H Q=>t σ H λc H1=>if c=true then ta σ H1 Q else tb σ H1 Q
def WZ{c:Expr}(hc:PT X c tA)(ha:PE X a ta)(hb:PE X b tb):PE X (.IfExp c a b pos) (tIf tA ta tb):=by
 intro pins s σ H Q I h;refine wpAny_IfExp (wO (hc pins s σ H _ I h) λd s1 ⟨H1,I1,q1⟩=>?_)
 cases d with
 |true=>exact ha pins s1 σ H1 Q I1 q1
 |false=>exact hb pins s1 σ H1 Q I1 q1
end
def SqL(K:Ud)(H:Hp)(a:Addr)(xs:List V):Prop:=
 Rd H a (.lst xs)\/
  ∃(o:Obj)(its:Te)(n:Nat),K.lookup a=some o/\o.cls=.type "list"/\o.dict=none/\o.data=.seq its n/\its.size<=sizeLine/\Vals xs its.toList
def SqT(K:Ud)(H:Hp)(a:Addr)(xs:List V):Prop:=
 Rd H a (.tup xs)\/
  ∃(o:Obj)(its:Te)(n:Nat),K.lookup a=some o/\o.cls=.type "tuple"/\o.data=.seq its n/\its.size<=sizeLine/\Vals xs its.toList
def absV:Value->Option V
 |.none=>some .non
 |.bool b=>some (.bl b)
 |.int i _=>some (.int i)
 |.str x _=>some (.str x)
 |.bytes b _=>some (.byt b)
 |.float b _=>some (.flt b)
 |.ref a=>some (.ref a)
 |.type n=>some (.ty n)
 |_=>none
theorem RelV.abs{x:V}{u:Value}(r:RelV x u):absV u=some x:=by
 cases x with
 |non=>cases r;rfl
 |bl _=>cases r;rfl
 |int _=>obtain⟨t,rfl⟩:=r;rfl
 |str _=>obtain⟨t,rfl⟩:=r;rfl
 |byt _=>obtain⟨t,rfl⟩:=r;rfl
 |flt _=>obtain⟨t,rfl⟩:=r;rfl
 |ref _=>cases r;rfl
 |ty _=>cases r;rfl
def RelV.inj{x y:V}{u:Value}(r:RelV x u)(q:RelV y u):x=y:=Option.some.inj (r.abs.symm.trans q.abs)
theorem Vals.inj: ∀{xs ys:List V}{us:Td},Vals xs us->Vals ys us->xs=ys
 |_,_,_,.nil,.nil=>rfl
 |_,_,_,.cons r t,.cons r' t'=>by rw[r.inj r',Vals.inj t t']
section
variable{X:Cx}{pins:Tk}{σ:St}{H:Hp}{s:Shared}{a:Addr}{xs ys:List V}
def SqL.of{K:Ud}(h:H a=some (.lst xs)):SqL K H a xs:=.inl (.inl h)
def SqT.of{K:Ud}(h:H a=some (.tup xs)):SqT K H a xs:=.inl (.inl h)
theorem Inv.list(I:Inv X pins σ H s)(h:SqL X.K H a xs): ∃its:List Value,Vals xs its/\PlainL s.heap a its.toArray/\xs.length<=sizeLine:=by
 rcases h with h|⟨o,its,n,hk,hc,hd,hs,hz,r⟩
 .obtain⟨z,its,n,r,e⟩:=h.ok I.hok;exact⟨its,r,⟨_,n,e,rfl,rfl,rfl⟩,z⟩
 .refine⟨_,r,⟨o,n,I.kIn a o hk,hc,hd,by simpa using hs⟩,?_⟩;have e:=r.length;simp only[Array.length_toList]at e
  lia
theorem Inv.tuple(I:Inv X pins σ H s)(h:SqT X.K H a xs): ∃its:List Value,Vals xs its/\IsTup s.heap a its.toArray/\xs.length<=sizeLine:=by
 rcases h with h|⟨o,its,n,hk,hc,hs,hz,r⟩
 .obtain⟨z,its,r,p⟩:=h.ok I.hok;exact⟨its,r,p,z⟩
 .refine⟨_,r,⟨o,I.kIn a o hk,hc,n,by simpa using hs⟩,?_⟩;have e:=r.length;simp only[Array.length_toList]at e
  lia
def Inv.list_inj(I:Inv X pins σ H s)(h:SqL X.K H a xs)(h':SqL X.K H a ys):xs=ys:=by
 obtain⟨its,r,⟨o,n,e,_,_,d⟩,_⟩:=I.list h;obtain⟨its',r',⟨o',n',e',_,_,d'⟩,_⟩:=I.list h';rw[e]at e';cases e';rw[d]at d';injection d' with d1 _
 have:=by simpa using congrArg Array.toList d1
 subst this;exact r.inj r'
def Inv.tuple_inj(I:Inv X pins σ H s)(h:SqT X.K H a xs)(h':SqT X.K H a ys):xs=ys:=by
 obtain⟨its,r,⟨o,e,_,n,d⟩,_⟩:=I.tuple h;obtain⟨its',r',⟨o',e',_,n',d'⟩,_⟩:=I.tuple h';rw[e]at e';cases e';rw[d]at d';injection d' with d1 _
 have:=by simpa using congrArg Array.toList d1
 subst this;exact r.inj r'
end
abbrev Cx.wish(X:Cx)(E:VP):Cx:={X with xe:=E}
abbrev Cx.nox(X:Cx):Cx:=X.wish λ_ _=>False
def Cx.Ok.wish{X:Cx}(ok:X.Ok)(E:VP):(X.wish E).Ok:=
 ⟨ok.mod,ok.kind,ok.glob,ok.blt,ok.above,ok.inj,ok.has,ok.cab,ok.hd,ok.frames,ok.stk,ok.exf,ok.bs,ok.bsz,ok.noex,ok.exfs,ok.funs,ok.frf⟩
def Cx.Ok.unwish{X:Cx}{E:VP}(ok:(X.wish E).Ok):X.Ok:=
 ⟨ok.mod,ok.kind,ok.glob,ok.blt,ok.above,ok.inj,ok.has,ok.cab,ok.hd,ok.frames,ok.stk,ok.exf,ok.bs,ok.bsz,ok.noex,ok.exfs,ok.funs,ok.frf⟩
section
variable{X:Cx}{pins:Tk}{σ:St}{H:Hp}{s:Shared}{E:VP}
def Inv.wish(I:Inv X pins σ H s)(E:VP):Inv (X.wish E) pins σ H s:=⟨I.ok.wish E,I.os,I.bare,I.base,I.loc,I.cell,I.free,I.freeC,I.pin,I.hok,I.len⟩
def Inv.unwish(I:Inv (X.wish E) pins σ H s):Inv X pins σ H s:=⟨I.ok.unwish,I.os,I.bare,I.base,I.loc,I.cell,I.free,I.freeC,I.pin,I.hok,I.len⟩
def SP.unwish{D:Ends}{f:Flow}{s':Shared}(h:SP (X.wish E) pins D f s'):SP X pins D f s':=by
 cases f with
 |next=>obtain⟨σ',H',I,q⟩:=h;exact⟨σ',H',I.unwish,q⟩
 |brk=>obtain⟨σ',H',I,q⟩:=h;exact⟨σ',H',I.unwish,q⟩
 |cont=>obtain⟨σ',H',I,q⟩:=h;exact⟨σ',H',I.unwish,q⟩
 |ret u=>obtain⟨v,σ',H',I,r,q⟩:=h;exact⟨v,σ',H',I.unwish,r,q⟩
def PSs.nox{st:List Stmt}{t:TS}(h:PSs X.nox st t):PSs X st t:=λpins s σ H D I hw=>
 wpAny_mono (h pins s σ H D (I.wish _) hw) (λ_ _ q=>q.unwish) λ_ _ z=>False.elim z
end
section
variable{X:Cx}{st:Stmt}{rest:List Stmt}{t u:TS}{e:Expr}{te:TE}{pos:Pos}
def Ph:TS:=λD σ H=>D.nx σ H
def tSeq(t u:TS):TS:=λD σ H=>t {D with nx:=u D} σ H
def Cg:PSs X [] Ph:=λ_ _ σ H _ I h=>wpAny_execs_nil ⟨σ,H,I,h⟩
def KP(h1:PS X st t)(h2:PSs X rest u):PSs X (st::rest) (tSeq t u):=by
 intro pins s σ H D I h;refine wpAny_execs_cons (wO (h1 pins s σ H {D with nx:=u D} I h) λf s1 q=>?_)
 cases f with
 |next=>
  obtain⟨σ',H',I',q⟩:=q;exact h2 pins s1 σ' H' D I' q
 |ret v=>exact q
 |brk=>exact q
 |cont=>exact q
def Ci(h1:PS X st t):PSs X [st] t:=by
 intro pins s σ H D I h;refine wpAny_execs_cons (wO (h1 pins s σ H D I h) λf s1 q=>?_)
 cases f with
 |next=>exact wpAny_execs_nil q
 |ret v=>exact q
 |brk=>exact q
 |cont=>exact q
def Inv.quiet{pins:Tk}{σ:St}{H:Hp}{s:Shared}(I:Inv X pins σ H s):interactive X.env=false:=by simp[interactive,I.ok.kind]
def Pi(te:TE):TS:=λD σ H=>te σ H λ_ H1=>D.nx σ H1
def Cj(he:PE X e te)(hs:swapsWith e none pos.line X.env=pure false:=by rfl):PS X (.Expr e pos) (Pi te):=by intro pins s σ H D I h;exact wpAny_Expr_any (wO (he pins s σ H _ I h) λv s1 ⟨x,H1,I1,r1,q1⟩=>⟨σ,H1,I1,q1⟩) I.quiet hs
def tRet(te:TE):TS:=λD σ H=>te σ H D.rt
def Jx(he:PE X e te):PS X (.Return (some e) pos) (tRet te):=by intro pins s σ H D I h;exact wpAny_Return_some (wO (he pins s σ H _ I h) λv s1 ⟨x,H1,I1,r1,q1⟩=>⟨x,σ,H1,I1,r1,q1⟩)
def tIfS(c:TT)(t u:TS):TS:=λD σ H=>c σ H λb H1=>if b=true then t D σ H1 else u D σ H1
def Pj{c:Expr}{a b:List Stmt}{tc:TT}(hc:PT X c tc)(ha:PSs X a t)(hb:PSs X b u):PS X (.If c a b pos) (tIfS tc t u):=by
 intro pins s σ H D I h;refine wpAny_If (wO (hc pins s σ H _ I h) λd s1 ⟨H1,I1,q1⟩=>?_)
 cases d with
 |true=>exact ha pins s1 σ H1 D I1 q1
 |false=>exact hb pins s1 σ H1 D I1 q1
def Jy:TS:=λ_ _ _=>False
def XA:PS X st Jy:=λ_ _ _ _ _ _ h=>h.elim
end
abbrev TG:=V->St->Hp->(St->Hp->Prop)->Prop
abbrev Jz:=List V->St->Hp->(St->Hp->Prop)->Prop
def PG(X:Cx)(target:Expr)(t:TG):Prop:=
 ∀(pins:Tk)(s:Shared)(σ:St)(H:Hp)(v:V)(u:Value)(Q:St->Hp->Prop),Inv X pins σ H s->RelV v u->t v σ H Q->
  wpAny (model X.prog X.w) X.A (assign target X.env u) (λ_ s'=> ∃σ' H',Inv X pins σ' H' s'/\Q σ' H') X.xe s
def Pl(X:Cx)(ts:Uc)(t:Jz):Prop:=
 ∀(pins:Tk)(s:Shared)(σ:St)(H:Hp)(vs:List V)(us:Td)(Q:St->Hp->Prop),Inv X pins σ H s->Vals vs us->t vs σ H Q->
  wpAny (model X.prog X.w) X.A (assignInOrder ((assignEach ts X.env).map (·.2)) us) (λ_ s'=> ∃σ' H',Inv X pins σ' H' s'/\Q σ' H') X.xe s
abbrev TSet:=V->V->V->Hp->(Hp->Prop)->Prop
def Pm(X:Cx)(t:TSet):Prop:=
 ∀(pins:Tk)(s:Shared)(σ:St)(H:Hp)(o i v:V)(ov iv u:Value)(Q:Hp->Prop),Inv X pins σ H s->RelV o ov->RelV i iv->RelV v u->t o i v H Q->
  wpAny (model X.prog X.w) X.A (setItem ov iv u) (λ_ s'=> ∃H',Inv X pins σ H' s'/\Q H') X.xe s
abbrev TIp:=V->V->Hp->VK->Prop
def PIp(X:Cx)(op:Operator)(t:TIp):Prop:=
 ∀(pins:Tk)(s:Shared)(σ:St)(H:Hp)(x y:V)(v u:Value)(Q:VK),Inv X pins σ H s->RelV x v->RelV y u->t x y H Q->
  wpAny (model X.prog X.w) X.A (inplaceOp op v u) (EP X pins σ Q) X.xe s
section
variable{X:Cx}{pos:Pos}
def XB(i:Nat):TG:=λv σ H Q=>Q (σ.set i (some v)) H
def RG{i:Nat}{x:Str}(hN:X.N.Nodup)(hi:X.N[i]? =some x)(hx:Loc X.env.scope x)(hf:X.fn x=true\/X.env.scope.names.lookup x=some .local:=by first |exact .inl rfl|exact .inr rfl|assumption):PG X (.Name x pos) (XB i):=by intro pins s σ H v u Q I r h;exact wpAny_assign_Name (sZ I hN hi hx r (λs' I'=>⟨_,H,I',h⟩) hf)
def gNil:Jz:=λvs σ H Q=>vs=[]/\Q σ H
def Pn(t:TG)(u:Jz):Jz:=λvs σ H Q=> ∃v r,vs=v::r/\t v σ H λσ' H'=>u r σ' H' Q
def Ck:Pl X [] gNil:=by intro pins s σ H vs us Q I r h;obtain⟨e,h⟩:=h;subst e;exact assignInOrder_nil ⟨σ,H,I,h⟩
def XC{e:Expr}{es:Uc}{t:TG}{u:Jz}(h1:PG X e t)(h2:Pl X es u)
  (hs:(assignEach (e::es) X.env).map (·.2)=assign e X.env::(assignEach es X.env).map (·.2):=by rfl):Pl X (e::es) (Pn t u):=by
 intro pins s σ H vs us Q I r h;obtain⟨v,vr,e1,h⟩:=h;subst e1
 cases r with
 |cons r rr=>
  rw[hs];refine assignInOrder_cons (wO (h1 pins s σ H _ _ _ I r h) λ_ s1 ⟨σ1,H1,I1,q1⟩=>?_);exact h2 pins s1 σ1 H1 _ _ Q I1 rr q1
def gTup(K:Ud)(n:Nat)(t:Jz):TG:=λv σ H Q=> ∃a xs,v=.ref a/\SqT K H a xs/\xs.length=n/\t xs σ H Q
def Ka{es:Uc}{k:Nat}{t:Jz}{n:Nat}(hc:X.calm=true)(h:Pl X es t)
  (hn:(assignEach es X.env).length=n:=by rfl) (hst:(assignEach es X.env).findIdx? (·.1)=none:=by rfl):PG X (.Tuple es k pos) (gTup X.K n t):=by
 intro pins s σ H v u Q I r hw;obtain⟨a,xs,e1,hq,hl,hw⟩:=hw;subst e1;cases r;obtain⟨its,rv,ht,hz⟩:=I.tuple hq;refine assign_Tuple_tuple (I.ok.hd hc) ht (by simp[hn, <-hl,rv.length]) hst λh' hx=>?_;exact h pins _ σ H xs _ Q (I.kept λb o e=>hx b o (Nat.ne_of_lt (Heap.lt_size e)) e) (by simpa using rv) hw
def gSub(to ti:TE)(t:TSet):TG:=λv σ H Q=>to σ H λo H1=>ti σ H1 λi H2=>t o i v H2 λH3=>Q σ H3
def Kb{o i:Expr}{to ti:TE}{t:TSet}(ho:PE X o to)(hi:PE X i ti)(hs:Pm X t)
  (ha: ∀v,assign (.Subscript o i pos) X.env v=(do
   let ov <-holding [v] (eval o X.env);let iv <-holding [v,ov] (eval i X.env)
   standAt pos
   holding [v,ov,iv] (setItem ov iv v)
   release [v,ov,iv] []):=by intro _;rfl):PG X (.Subscript o i pos) (gSub to ti t):=by
 intro pins s σ H v u Q I r h;refine wB (wpAny_holding (wO (ho pins s σ H _ I h) λov s1 ⟨x,H1,I1,r1,q1⟩=>?_));refine wB (wpAny_holding (wO (hi pins s1 σ H1 _ I1 q1) λiv s2 ⟨y,H2,I2,r2,q2⟩=>?_));refine wB (wpAny_standAt (wB (wpAny_holding (wO (hs pins s2 σ H2 x y v ov iv u _ I2 r1 r2 r q2) λ_ s3 ⟨H3,I3,q3⟩=>?_))));exact wpAny_release ⟨σ,H3,I3,q3⟩
def Kc(te:TE)(g:TG):TS:=λD σ H=>te σ H λx H1=>g x σ H1 D.nx
def Kd{tg e:Expr}{te:TE}{g:TG}(he:PE X e te)(hg:PG X tg g)(hs:swapsWithSole [tg] e pos.line X.env=pure false:=by rfl)(hw:swappedStores [tg] e X.env=pure none:=by rfl)
  (h1:(assignEach [tg] X.env).map (·.2)=[assign tg X.env]:=by rfl):PS X (.Assign [tg] e pos) (Kc te g):=by
 intro pins s σ H D I h;refine wpAny_Assign_stores (wO (he pins s σ H _ I h) λv s1 ⟨x,H1,I1,r1,q1⟩=>?_) hs hw;rw[h1];exact wO (hg pins s1 σ H1 x v _ I1 r1 q1) λ_ s2 q=>q
def Ke{i:Nat}{x:Str}{e:Expr}{te:TE}{pos':Pos}(hN:X.N.Nodup)(hi:X.N[i]? =some x)(hx:Loc X.env.scope x)(he:PE X e te)(hs:swapsWith e (some (.Name x pos')) pos.line X.env=pure false:=by rfl)(hf:X.fn x=true\/X.env.scope.names.lookup x=some .local:=by first |exact .inl rfl|exact .inr rfl|assumption):
  PS X (.Assign [.Name x pos'] e pos) (Kc te (XB i)):=by
 intro pins s σ H D I h;refine wpAny_Assign_Name (wO (he pins s σ H _ I h) λv s1 ⟨y,H1,I1,r1,q1⟩=>?_) hs;exact sZ I1 hN hi hx r1 (λs2 I2=>⟨_,H1,I2,q1⟩) hf
def tAug(i:Nat)(te:TE)(ti:TIp):TS:=λD σ H=> ∃x,σ[i]? =some (some x)/\te σ H λy H1=>ti x y H1 λz H2=>D.nx (σ.set i (some z)) H2
def Kf{i:Nat}{x:Str}{e:Expr}{te:TE}{op:Operator}{ti:TIp}{pos':Pos}(hN:X.N.Nodup)(hi:X.N[i]? =some x)(hx:Loc X.env.scope x)(he:PE X e te)(ho:PIp X op ti)(hf:X.fn x=true\/X.env.scope.names.lookup x=some .local:=by first |exact .inl rfl|exact .inr rfl|assumption):
  PS X (.AugAssign (.Name x pos') op e pos) (tAug i te ti):=by
 intro pins s σ H D I h;obtain⟨v,e1,h⟩:=h;obtain⟨m,hn,hl⟩:=I.loc;have vis:Pa X.env.scope x:=by rcases hx with k|k;exact .inl k;exact .inr (.inl k)
 obtain⟨u,r,l⟩:=hl i x v hi e1 vis;refine wpAny_AugAssign_Name ?_;have go:wpAny (model X.prog X.w) X.A (eval e X.env) (λw s₂=>wpAny (model X.prog X.w) X.A (inplaceOp op u w) (λr s₃=>wpAny (model X.prog X.w) X.A (storeName X.env x r) (λ_=>SP X pins D .next) X.xe s₃) X.xe s₂) X.xe s:=by refine wO (he pins s σ H _ I h) λw s1 ⟨y,H1,I1,r1,q1⟩=>?_;refine wO (ho pins s1 σ H1 v y u w _ I1 r r1 q1) λz s2 ⟨zv,H2,I2,r2,q2⟩=>?_;exact sZ I2 hN hi hx r2 (λs3 I3=>⟨_,H2,I3,q2⟩) hf
 rcases l with⟨hk,hm⟩|⟨hk,c,hc,hcell⟩
 .exact wpAny_loadName_local I.ok.kind hk hn hm go
 .rcases hk with hk|hk
  .exact wpAny_loadName_cell I.ok.kind hk hc hcell go
  .rcases hx with k|k
   .have:X.env.scope.names.lookup x=some .free:=hk;rw[k]at this;cases this
   .have:X.env.scope.names.lookup x=some .free:=hk;rw[k]at this;cases this
end
structure It where
 go:Nat->Hp->Prop
 yld:Nat->Hp->V->Hp->Prop
 stop:Nat->Hp->Prop
def rO(X:Cx)(pins:Tk)(H:Hp)(b:Addr):Prop:=
 H b=none/\b≠X.env.locals/\b∉X.fs/\(b∈X.ex\/X.s₀.heap.objs.size<=b)/\(∀x c,X.env.cells.lookup x=some c->c≠b)/\ ∀p∈X.pn++pins,p.1≠b
def Inv.fpOk{X:Cx}{pins:Tk}{σ:St}{H H':Hp}{s:Shared}{b:Addr}(I:Inv X pins σ H s)(hb:s.heap.objs.size<=b)(hn:H' b=none):rO X pins H' b:=by
 refine⟨hn,Nat.ne_of_gt (Nat.lt_of_lt_of_le I.lt hb),I.nofs hb,.inr (Nat.le_trans I.sz hb),λx c e z=>?_,λp hp z=>?_⟩
 .obtain⟨v,q⟩:=I.cell x c e;exact absurd (Nat.lt_of_lt_of_le q.lt (by rw[z];exact hb)) (lt_irrefl _)
 .exact absurd (Nat.lt_of_lt_of_le (Heap.lt_size (I.pin p hp).1) (by rw[z];exact hb)) (lt_irrefl _)
abbrev Kg(X:Cx):Prop:=X.calm=true
structure TurnC(C:Cx->Prop)(P:Program)(w:World)(K:Ud)(tg:Expr)(J:It)(fp:Tg)(it:Addr)(tn:Nat->Heap->Prop):Prop where
 mem:it∈fp
 obj: ∀i h,tn i h-> ∀b∈fp, ∃o,h.get? b=some o/\ ∀v,o.data≠.cell v
 keep: ∀i h h',tn i h->(∀b∈fp, ∀o,h.get? b=some o->h'.get? b=some o)->tn i h'
 item: ∀(X:Cx),X.prog=P->X.w=w->X.K=K->C X-> ∀(i:Nat)(pins:Tk)(s:Shared)(σ:St)(H:Hp)(E:VP),Inv X pins σ H s->(∀b∈fp,rO X pins H b)->tn i s.heap->J.go i H->
  wpAny (model P w) X.A (pyNext (.ref it)) (λr s1=> ∃u,r=some u/\
   wpAny (model P w) X.A (letOwnedTupleGo tg (.ref it) u) (λ_ s2=> ∃x H',Inv X pins σ H' s2/\RelV x u/\J.yld i H x H'/\tn (i+1) s2.heap/\ ∀b∈fp,H' b=none) E s1) E s
 done: ∀(X:Cx),X.prog=P->X.w=w->X.K=K->C X-> ∀(i:Nat)(pins:Tk)(s:Shared)(σ:St)(H:Hp)(E:VP),Inv X pins σ H s->(∀b∈fp,rO X pins H b)->tn i s.heap->J.stop i H->
  wpAny (model P w) X.A (pyNext (.ref it)) (λr s1=>r=none/\Inv X pins σ H s1) E s
 self: ∀(A:Around)(i:Nat)(s:Shared)(Q:VP)(E:VP),tn i s.heap->Q (.ref it) s->wpAny (model P w) A (pyIter (.ref it)) Q E s
abbrev Turn:=TurnC Kg
abbrev TI:=St->Hp->(It->Hp->Prop)->Prop
def Po(C:Cx->Prop)(X:Cx)(pins:Tk)(σ:St)(tg:Expr)(R:It->Hp->Prop)(itv:Value)(s2:Shared):Prop:=
 ∃(it:Addr)(fp:Tg)(tn:Nat->Heap->Prop)(J:It)(H':Hp),itv=.ref it/\Inv X pins σ H' s2/\TurnC C X.prog X.w X.K tg J fp it tn/\tn 0 s2.heap/\(∀b∈fp,rO X pins H' b)/\R J H'
abbrev PIE:=Po Kg
def Pp(C:Cx->Prop)(X:Cx)(tg iter:Expr)(wi:TI):Prop:=
 ∀(pins:Tk)(s:Shared)(σ:St)(H:Hp)(R:It->Hp->Prop),Inv X pins σ H s->wi σ H R->
  wpAny (model X.prog X.w) X.A (eval iter X.env) (λv s1=>wpAny (model X.prog X.w) X.A (pyIter v) (Po C X pins σ tg R) X.xe s1) X.xe s
abbrev PI:=Pp Kg
def KQ{M:Model}{A:Around}{E:VP}{s:Shared}{tg:Expr}{it:Addr}{u:Value}{o:Obj}{n:String}{vs:Te}{Q:Unit->Shared->Prop}(ho:s.heap.get? it=some o)(hc:o.cls=.type n)(hd:o.data=.fields vs)
  (hn:["enumerate","zip","dict_itemiterator","dict_reverseitemiterator","odict_iterator","itertools.zip_longest","itertools.pairwise"].contains n=false) (hQ:Q () s):wpAny M A (letOwnedTupleGo tg (.ref it) u) Q E s:=by
 cases tg<;>first
  |exact wP hQ
  |(cases u<;>first
    |exact wP hQ
    |(refine wB (wpAny_load ho ?_)
      rw[hc,hd];show wpAny M A (if _=true then _ else _) Q E s;rw[iN (by intro h;rw[hn]at h;cases h)];exact wP hQ))
def Itl(K:Ud)(a:Addr):It:=
 ⟨λi H=> ∃xs x,SqL K H a xs/\xs[i]? =some x,λi H x H'=>H'=H/\ ∀xs,SqL K H a xs->xs[i]? =some x,λi H=> ∃xs,SqL K H a xs/\xs.length<=i⟩
def Itt(K:Ud)(a:Addr):It:=
 ⟨λi H=> ∃xs x,SqT K H a xs/\xs[i]? =some x,λi H x H'=>H'=H/\ ∀xs,SqT K H a xs->xs[i]? =some x,λi H=> ∃xs,SqT K H a xs/\xs.length<=i⟩
def Sn(lo:Int)(n:Nat):It:=⟨λi _=>i<n,λi H x H'=>H'=H/\x=.int (lo+i),λi _=>n<=i⟩
theorem UJ{P:Program}{w:World}{K:Ud}{tg:Expr}(a it:Addr):Turn P w K tg (Itl K a) [it] it (λi h=>h.IsListIter it a i) where
 mem:=by simp
 obj:=λi h st b hb=>by
  have e:=by simpa using hb
  subst e;obtain⟨o,e,c,d⟩:=st;exact⟨o,e,λv z=>by rw[d]at z;cases z⟩
 keep:=λi h h' st k=>st.at λo e=>k it (by simp) o e
 item:=by intro X hP hw hK hc i pins s σ H E I hf st hg;subst hP hw hK;obtain⟨xs,x,hq,hx⟩:=hg;obtain⟨its,rv,p,hz⟩:=I.list hq;obtain⟨u,hu,ru⟩:=rv.get hx;obtain⟨f0,f1,f2,f3,f4,f5⟩:=hf it (by simp);refine wpAny_pyNext_list_item st p.isList (by simpa using hu) λh' st' sb=>?_;obtain⟨o,e,c,d⟩:=id st';exact⟨u,rfl,KQ e c d (by decide) ⟨x,H,(I.turned (λb o hb e=>(sb.2 b hb).trans e) f0 f1 f3 f4 f5),ru,⟨rfl,λys hy=>by rw[I.list_inj hy hq];exact hx⟩,st',λb hb=>(hf b hb).1⟩⟩
 done:=by intro X hP hw hK hc i pins s σ H E I hf st hg;subst hP hw hK;obtain⟨xs,hq,hx⟩:=hg;obtain⟨its,rv,p,hz⟩:=I.list hq;obtain⟨f0,f1,f2,f3,f4,f5⟩:=hf it (by simp);have hl:=rv.length;exact wpAny_pyNext_list_end (I.ok.hd hc) st p.isList (by simp;lia) λh' eb=>⟨rfl,I.turned (λb o hb e=>eb b o hb e) f0 f1 f3 f4 f5⟩
 self:=λ_ _ _ _ _ st h=>wpAny_pyIter_listiter st h
theorem OM{P:Program}{w:World}{K:Ud}{tg:Expr}(a it:Addr):Turn P w K tg (Itt K a) [it] it (λi h=>h.IsTupleIter it a i) where
 mem:=by simp
 obj:=λi h st b hb=>by
  have e:=by simpa using hb
  subst e;obtain⟨o,e,c,d⟩:=st;exact⟨o,e,λv z=>by rw[d]at z;cases z⟩
 keep:=λi h h' st k=>st.at λo e=>k it (by simp) o e
 item:=by intro X hP hw hK hc i pins s σ H E I hf st hg;subst hP hw hK;obtain⟨xs,x,hq,hx⟩:=hg;obtain⟨its,rv,p,hz⟩:=I.tuple hq;obtain⟨u,hu,ru⟩:=rv.get hx;obtain⟨f0,f1,f2,f3,f4,f5⟩:=hf it (by simp);refine wpAny_pyNext_tuple_item st p (by simpa using hu) λh' st' sb=>?_;obtain⟨o,e,c,d⟩:=id st';exact⟨u,rfl,KQ e c d (by decide) ⟨x,H,(I.turned (λb o hb e=>(sb.2 b hb).trans e) f0 f1 f3 f4 f5),ru,⟨rfl,λys hy=>by rw[I.tuple_inj hy hq];exact hx⟩,st',λb hb=>(hf b hb).1⟩⟩
 done:=by intro X hP hw hK hc i pins s σ H E I hf st hg;subst hP hw hK;obtain⟨xs,hq,hx⟩:=hg;obtain⟨its,rv,p,hz⟩:=I.tuple hq;obtain⟨f0,f1,f2,f3,f4,f5⟩:=hf it (by simp);have hl:=rv.length;exact wpAny_pyNext_tuple_end (I.ok.hd hc) st p (by simp;lia) λh' eb=>⟨rfl,I.turned (λb o hb e=>eb b o hb e) f0 f1 f3 f4 f5⟩
 self:=λ_ _ _ _ _ st h=>wpAny_pyIter_tupleiter st h
theorem ON{P:Program}{w:World}{K:Ud}{tg:Expr}(it:Addr)(lo:Int)(n:Nat):Turn P w K tg (Sn lo n) [it] it (λi h=>IsRangeIter h it (lo+(i:Nat) * 1) ((n:Int) - (i:Nat)) 1) where
 mem:=by simp
 obj:=λi h st b hb=>by
  have e:=by simpa using hb
  subst e;exact⟨_,st,λv z=>by cases z⟩
 keep:=λi h h' st k=>k it (by simp) _ st
 item:=by intro X hP hw hK hc i pins s σ H E I hf st hg;subst hP hw hK;obtain⟨f0,f1,f2,f3,f4,f5⟩:=hf it (by simp);refine(Walks.range (prog:=X.prog) (w:=X.w) (I.ok.hd hc) it lo 1 n).item i s _ _ hg st λv h' tk hv st' kk=>?_;obtain⟨t,rfl⟩:=hv;refine⟨_,rfl,KQ st' rfl rfl (by decide) ⟨.int _,H,(I.turned (λb o hb e=>kk b o (by simpa using hb) e) f0 f1 f3 f4 f5),⟨t,?_⟩,⟨rfl,rfl⟩,st',λb hb=>(hf b hb).1⟩⟩;rw[Int.mul_one]
 done:=by intro X hP hw hK hc i pins s σ H E I hf st hg;obtain⟨f0,f1,f2,f3,f4,f5⟩:=hf it (by simp);exact wpAny_pyNext_range_end (I.ok.hd hc) st (by have:n<=i:=hg;lia) λh' eb=>⟨rfl,I.turned (λb o hb e=>eb b o hb e) f0 f1 f3 f4 f5⟩
 self:=λ_ _ _ _ _ st h=>wpAny_pyIter_rangeiter st h
section
variable{X:Cx}{tg:Expr}
def Pq(K:Ud)(tl:TE):TI:=λσ H R=>tl σ H λx H1=> ∃a,x=.ref a/\(∃xs,SqL K H1 a xs)/\R (Itl K a) H1
def iTup(K:Ud)(tl:TE):TI:=λσ H R=>tl σ H λx H1=> ∃a,x=.ref a/\(∃xs,SqT K H1 a xs)/\R (Itt K a) H1
def Cm{l:Expr}{tl:TE}(hl:PE X l tl):PI X tg l (Pq X.K tl):=by
 intro pins s σ H R I h;refine wO (hl pins s σ H _ I h) λv s1 ⟨x,H1,I1,r1,q1⟩=>?_;obtain⟨a,e,⟨xs,hq⟩,q⟩:=q1;subst e;cases r1;obtain⟨its,rv,p,hz⟩:=I1.list hq;refine wpAny_pyIter_list p.isList ?_;refine⟨_,_,_,_,H1,rfl,I1.kept λb o e=>hP0 _ e,UJ a _,⟨_,Heap.get?_push_size _ rfl,rfl,rfl⟩,λb hb=>?_,q⟩;have e:=by simpa using hb
 subst e;exact I1.fpOk (Nat.le_refl _) (I1.hok.fresh (Nat.le_refl _))
def Kh{l:Expr}{tl:TE}(hl:PE X l tl):PI X tg l (iTup X.K tl):=by
 intro pins s σ H R I h;refine wO (hl pins s σ H _ I h) λv s1 ⟨x,H1,I1,r1,q1⟩=>?_;obtain⟨a,e,⟨xs,hq⟩,q⟩:=q1;subst e;cases r1;obtain⟨its,rv,p,hz⟩:=I1.tuple hq;refine wpAny_pyIter_tuple p ?_;refine⟨_,_,_,_,H1,rfl,I1.kept λb o e=>hP0 _ e,OM a _,⟨_,Heap.get?_push_size _ rfl,rfl,rfl⟩,λb hb=>?_,q⟩;have e:=by simpa using hb
 subst e;exact I1.fpOk (Nat.le_refl _) (I1.hok.fresh (Nat.le_refl _))
theorem XD{pins:Tk}{σ:St}{H:Hp}{s:Shared}{R:It->Hp->Prop}{E:VP}{lo hi:Int}{t u v:Tok}{tk:Nat}(I:Inv X pins σ H s)(h1: -(2 ^ 62)<=lo)(h2:lo<2 ^ 62)(h3: -(2 ^ 62)<=hi)(h4:hi<2 ^ 62)
  (q:R (Sn lo (hi - lo).toNat) H):wpAny (model X.prog X.w) X.A (pyIter (.ref s.heap.objs.size)) (PIE X pins σ tg R) E {s with heap:=s.heap.push {cls:=.type "range",data:=.fields #[.int lo t,.int hi u,.int 1 v]},toks:=tk}:=by
 refine wpAny_pyIter_range (IsRange.new ..) (small_one h1 h2 h3 h4) ?_;have I1:Inv X pins σ H {s with heap:=s.heap.push {cls:=.type "range",data:=.fields #[.int lo t,.int hi u,.int 1 v]},toks:=tk}:=I.kept λb o e=>hP0 _ e
 refine⟨_,_,_,_,H,rfl,
  I1.kept λb o e=>hP0 _ e,ON _ lo (hi - lo).toNat,?_,λb hb=>?_,q⟩
 .have e1:lo+((0:Nat):Int) * 1=lo:=by simp
  have e2:(((hi - lo).toNat:Nat):Int) - ((0:Nat):Int)=Builtin.Range.rangeSize lo hi 1:=by rw[rangeSize_one];split<;>lia
  show IsRangeIter _ _ _ _ 1;rw[e1,e2];exact Heap.get?_push_size _ rfl
 .have e:b=(s.heap.push {cls:=.type "range",data:=.fields #[.int lo t,.int hi u,.int 1 v]}).objs.size:=by simpa using hb
  subst e;exact I1.fpOk (Nat.le_refl _) (I1.hok.fresh (Nat.le_refl _))
def Pr(ta:TA):TI:=λσ H R=>ta σ H λvs H1=> ∃j:Int,vs=[.int j]/\ -(2 ^ 62)<=j/\j<2 ^ 62/\R (Sn 0 j.toNat) H1
theorem UK{a:Expr}{ta:TA}{p pos:Pos}(hg:Gl X "range")(hm:X.mg "range"=none)(ha:PA X [a] ta)(hs:starEach [a] X.env=[(false,eval a X.env)]:=by rfl):PI X tg (.Call (.Name "range" p) [a] [] pos) (Pr ta):=by
 intro pins s σ H R I h;refine Call_ (rN I hg hm boot_range (PyProof.Rows.callWith_type1 (wO (ha pos pins s σ H _ I h) λus s1 ⟨vs,H1,I1,r1,q1⟩=>?_) hs rfl));obtain⟨j,e,q1,q2,q⟩:=q1;subst e
 cases r1 with
 |cons r rr=>
  cases rr;obtain⟨t,rfl⟩:=r;exact call_range_1 (XD I1 (by lia) (by lia) q1 q2 (by simpa using q))
def tFor(wi:TI)(g:TG)(tb:TS):TS:=λD σ H=>wi σ H λJ H1=> ∃W:Nat->Nat->St->Hp->Prop,(∃m,W 0 m σ H1)/\ ∀i m σ H,W i m σ H->
 (J.stop i H/\D.nx σ H)\/(J.go i H/\ ∃N:St->Hp->Prop,(∀σ' H',N σ' H'-> ∃m',m'<m/\W (i+1) m' σ' H')/\ ∀x H',J.yld i H x H'->g x σ H' λσ2 H2=>tb {D with nx:=N,ct:=N,bk:=D.nx} σ2 H2)
def rP(fp:Tg)(h:Heap):List (Addr×Obj):=fp.filterMap λb=>(h.get? b).map λo=>(b,o)
def rQ{fp:Tg}{h:Heap}{b:Addr}{o:Obj}(hb:b∈fp)(e:h.get? b=some o):(b,o)∈rP fp h:=mem_filterMap.mpr ⟨b,hb,by rw[e];rfl⟩
def UL{fp:Tg}{h:Heap}{p:Addr×Obj}(hp:p∈rP fp h):p.1∈fp/\h.get? p.1=some p.2:=by
 obtain⟨b,hb,e⟩:=mem_filterMap.mp hp
 cases q:h.get? b with
 |none=>rw[q]at e;cases e
 |some o=>
  rw[q]at e;have e':_=p:=Option.some.inj e;subst e';exact⟨hb,q⟩
def Inv.pinned{pins:Tk}{σ:St}{H:Hp}{s:Shared}{fp:Tg}(I:Inv X pins σ H s)(hf: ∀b∈fp,rO X pins H b)(ho: ∀b∈fp, ∃o,s.heap.get? b=some o/\ ∀v,o.data≠.cell v):Inv X (pins++rP fp s.heap) σ H s:=
 I.pins_of λp hp=>(List.mem_append.mp hp).elim (λz=>I.pin p (List.mem_append_right _ z)) λz=>by obtain⟨hb,e⟩:=UL z;obtain⟨f0,f1,f2,_⟩:=hf p.1 hb;obtain⟨o,e',d⟩:=ho p.1 hb;rw[e]at e';cases e';exact⟨e,f0,f1,f2,d⟩
def Inv.unpinned{pins pl:Tk}{σ:St}{H:Hp}{s:Shared}(I:Inv X (pins++pl) σ H s):Inv X pins σ H s:=I.pins_of λp hp=>I.pin p (List.mem_append_right _ (mem_append_left _ hp))
def Ki{iter:Expr}{body:List Stmt}{wi:TI}{g:TG}{tb:TS}{pos:Pos}(hp:PassesOwn (model X.prog X.w) X.A X.env X.xe)(hc:X.calm=true)(hi:PI X tg iter wi)(hg:PG X tg g)(hb:PSs X body tb)
  (hs: ∀x,foldedSetIterable iter X.env x=pure x:=by intro _;rfl):PS X (.For tg iter body [] pos) (tFor wi g tb):=by
 intro pins s σ H D I h;refine wpAny_For (wO (hi pins s σ H _ I h) λv s1 h1=>wO h1 λitv s2 h2=>?_) hs;obtain⟨it,fp,tn,J,H2,e,I2,T,st2,f2,W,⟨m0,w0⟩,turn⟩:=h2;subst e;have stat: ∀{H':Hp},(∀b∈fp,H' b=none)-> ∀b∈fp,rO X pins H' b:=λhn b hb=>⟨hn b hb,(f2 b hb).2⟩
 refine codeAny_forLoop_any (λn s'=> ∃i σ' H',Inv X pins σ' H' s'/\tn i s'.heap/\(∀b∈fp,H' b=none)/\W i n σ' H') ?_ m0 ⟨0,σ,H2,I2,st2,λb hb=>(f2 b hb).1,w0⟩;rintro n s3 ⟨i,σ3,H3,I3,st3,fr3,w3⟩;rcases turn i n σ3 H3 w3 with⟨stop,qn⟩|⟨go,N,hN,step⟩
 .refine wpAny_passesOwn hp (wO (T.done X rfl rfl rfl hc i pins s3 σ3 H3 X.xe I3 (stat fr3) st3 stop) λr s4 ⟨hr,I4⟩=>?_);subst hr;exact wpAny_execs_nil ⟨σ3,H3,I4,qn⟩
 .refine wpAny_passesOwn hp (wO (T.item X rfl rfl rfl hc i pins s3 σ3 H3 X.xe I3 (stat fr3) st3 go) λr s4 ⟨u,hr,h4⟩=>?_);subst hr;refine wpAny_passesOwn hp (wO h4 λ_ s5 ⟨x,H5,I5,r5,y5,st5,fr5⟩=>?_);refine wpAny_passesOwn hp (wO (hg _ s5 σ3 H5 x u _ (I5.pinned (stat fr5) (T.obj _ _ st5)) r5 (step x H5 y5)) λ_ s6 ⟨σ6,H6,I6,q6⟩=>?_);refine wpAny_passesOwn hp (wO (hb _ s6 σ6 H6 _ I6 q6) λf s7 q7=>?_);have again: ∀{σ7:St}{H7:Hp},Inv X _ σ7 H7 s7->N σ7 H7-> ∃m,m<n/\ ∃i σ' H',Inv X pins σ' H' s7/\tn i s7.heap/\(∀b∈fp,H' b=none)/\W i m σ' H':=λ{σ7 H7} I7 n7=>by obtain⟨m',hm,w7⟩:=hN σ7 H7 n7;refine⟨m',hm,_,σ7,H7,I7.unpinned,T.keep _ _ _ st5 λb hb o e=>(I7.pin _ (List.mem_append_right _ (List.mem_append_right _ (rQ hb e)))).1,λb hb=>?_,w7⟩;obtain⟨o,e,d⟩:=T.obj _ _ st5 b hb;exact(I7.pin _ (List.mem_append_right _ (List.mem_append_right _ (rQ hb e)))).2.1
  cases f with
  |next=>obtain⟨σ7,H7,I7,n7⟩:=q7;exact again I7 n7
  |cont=>obtain⟨σ7,H7,I7,n7⟩:=q7;exact again I7 n7
  |brk=>obtain⟨σ7,H7,I7,q7⟩:=q7;exact⟨σ7,H7,I7.unpinned,q7⟩
  |ret v=>obtain⟨x7,σ7,H7,I7,r7,q7⟩:=q7;exact⟨x7,σ7,H7,I7.unpinned,r7,q7⟩
end
abbrev R2:=V->V->Hp->VK->Prop
def OpR(X:Cx)(f:Value->Value->Sem Value)(r:R2):Prop:=
 ∀(pins:Tk)(s:Shared)(σ:St)(H:Hp)(x y:V)(v u:Value)(Q:VK),Inv X pins σ H s->RelV x v->RelV y u->r x y H Q->
  wpAny (model X.prog X.w) X.A (f v u) (EP X pins σ Q) X.xe s
def CallR(X:Cx)(f:Value)(r:List V->Hp->VK->Prop):Prop:=
 ∀(pins:Tk)(s:Shared)(σ:St)(H:Hp)(xs:List V)(us:Td)(Q:VK),Inv X pins σ H s->Vals xs us->r xs H Q->
  wpAny (model X.prog X.w) X.A (call f us) (EP X pins σ Q) X.xe s
def TruR(X:Cx)(r:V->Hp->(Bool->Hp->Prop)->Prop):Prop:=
 ∀(pins:Tk)(s:Shared)(σ:St)(H:Hp)(x:V)(v:Value)(Q:Bool->Hp->Prop),Inv X pins σ H s->RelV x v->r x H Q->
  wpAny (model X.prog X.w) X.A (truthy v) (TP X pins σ Q) X.xe s
def So(r:R2)(ta tb:TE):TE:=λσ H Q=>ta σ H λx H1=>tb σ H1 λy H2=>r x y H2 Q
def rI(C:Int->Int->Prop)(g:Int->Int->V):R2:=λx y H Q=> ∃i j,x=.int i/\y=.int j/\C i j/\Q (g i j) H
def Co(g:Int->Int->V):R2:=λx y H Q=> ∃i j,x=.int i/\y=.int j/\Q (g i j) H
section
variable{X:Cx}{a b:Expr}{ta tb:TE}{pos:Pos}
def Kj(ha:PE X a ta)(hb:PE X b tb){pins:Tk}{s:Shared}{σ:St}{H:Hp}{R:V->V->Hp->Prop}(I:Inv X pins σ H s)
  (h:ta σ H λx H1=>tb σ H1 λy H2=>R x y H2) {Q:VP} {f:Value->Value->Sem Value}
  (hf: ∀v u s2 x y H2,Inv X pins σ H2 s2->RelV x v->RelV y u->R x y H2->wpAny (model X.prog X.w) X.A (f v u) Q X.xe s2):
  wpAny (model X.prog X.w) X.A (eval a X.env) (λv s₁=>wpAny (model X.prog X.w) X.A (eval b X.env) (λu s₂=>wpAny (model X.prog X.w) X.A (f v u) Q X.xe s₂) X.xe s₁) X.xe s:=by
 refine wO (ha pins s σ H _ I h) λv s1 ⟨x,H1,I1,r1,q1⟩=>?_;refine wO (hb pins s1 σ H1 _ I1 q1) λu s2 ⟨y,H2,I2,r2,q2⟩=>?_;exact hf v u s2 x y H2 I2 r1 r2 q2
def Pt{op:Operator}{r:R2}(ho:OpR X (binaryOp op) r)(ha:PE X a ta)(hb:PE X b tb):PE X (.BinOp a op b pos) (So r ta tb):=by intro pins s σ H Q I h;exact wpAny_BinOp (Kj ha hb I h λv u s2 x y H2 I2 rx ry q=>ho pins s2 σ H2 x y v u Q I2 rx ry q)
def Sq{f:Value->Value->Sem Value}{C:Int->Int->Prop}{g:Int->Int->Int}
  (rule: ∀(i j:Int)(t u:Tok)(s:Shared)(Q:VP)(E:VP),C i j->Q (.int (g i j) s.toks) {s with toks:=s.toks+1}->wpAny (model X.prog X.w) X.A (f (.int i t) (.int j u)) Q E s):
  OpR X f (rI C λi j=>.int (g i j)):=by
 intro pins s σ H x y v u Q I rx ry h;obtain⟨i,j,rfl,rfl,hc,q⟩:=h;obtain⟨t,rfl⟩:=rx;obtain⟨t',rfl⟩:=ry;exact rule i j t t' s _ _ hc ⟨.int _,H,I.tok _,⟨_,rfl⟩,q⟩
def Pu{f:Value->Value->Sem Value}{g:Int->Int->Int}
  (rule: ∀(i j:Int)(t u:Tok)(s:Shared)(Q:VP)(E:VP),Q (.int (g i j) s.toks) {s with toks:=s.toks+1}->wpAny (model X.prog X.w) X.A (f (.int i t) (.int j u)) Q E s):
  OpR X f (Co λi j=>.int (g i j)):=by
 intro pins s σ H x y v u Q I rx ry h;obtain⟨i,j,rfl,rfl,q⟩:=h;obtain⟨t,rfl⟩:=rx;obtain⟨t',rfl⟩:=ry;exact rule i j t t' s _ _ ⟨.int _,H,I.tok _,⟨_,rfl⟩,q⟩
def Pw{f:Value->Value->Sem Value}{g:Int->Int->Bool}
  (rule: ∀(i j:Int)(t u:Tok)(s:Shared)(Q:VP)(E:VP),Q (.bool (g i j)) s->wpAny (model X.prog X.w) X.A (f (.int i t) (.int j u)) Q E s):
  OpR X f (Co λi j=>.bl (g i j)):=by
 intro pins s σ H x y v u Q I rx ry h;obtain⟨i,j,rfl,rfl,q⟩:=h;obtain⟨t,rfl⟩:=rx;obtain⟨t',rfl⟩:=ry;exact rule i j t t' s _ _ ⟨.bl _,H,I,rfl,q⟩
def CMul(i j:Int):Prop:=(-(2 ^ 64)<i/\i<2 ^ 64)\/(-(2 ^ 64)<j/\j<2 ^ 64)
def CMul.ok{i j:Int}(h:CMul i j):IntMulOk i j:=by
 rcases h with⟨h1,h2⟩|⟨h1,h2⟩
 .exact .of_left (intBits_le_64 h1 h2)
 .exact .of_right (intBits_le_64 h1 h2)
def Kk:OpR X (binaryOp .Add) (Co λi j=>.int (i+j)):=Pu λ_ _ _ _ _ _ _ q=>add_int q
def Kl:OpR X (binaryOp .Sub) (Co λi j=>.int (i - j)):=Pu λ_ _ _ _ _ _ _ q=>sub_int q
theorem Km:OpR X (binaryOp .Mod) (rI (λ_ j=>0<j) λi j=>.int (i % j)):=Sq λi j _ _ _ _ _ hc q=>by have h1:_<j:=hc;exact mod_int' (by lia) (by rw[Int.fmod_eq_emod_of_nonneg i (by lia)];exact q)
end
section
variable{X:Cx}{a b c:Expr}{ta tb tc:TE}{pos:Pos}
def XE{pins:Tk}{σ:St}{H:Hp}{s:Shared}{Q:VK}{k k':Bool}(I:Inv X pins σ H s)(q:Q (.bl k) H)(e:k=k'):EP X pins σ Q (.bool k') s:=by subst e;exact⟨.bl k,H,I,rfl,q⟩
def GP:OpR X (compareOp .LtE) (Co λi j=>.bl (decide (i<=j))):=Pw λ_ _ _ _ _ _ _ q=>le_int q
def Px:OpR X (compareOp .Gt) (Co λi j=>.bl (decide (j<i))):=Pw λ_ _ _ _ _ _ _ q=>gt_int q
def UM:OpR X (compareOp .In) (λx y H Q=> ∃i j,x=.str i/\y=.str j/\Q (.bl (!(Builtin.Str.occurrences j i 0 j.length 1).isEmpty)) H):=by intro pins s σ H x y v u Q I rx ry h;obtain⟨i,j,rfl,rfl,q⟩:=h;obtain⟨t,rfl⟩:=rx;obtain⟨t',rfl⟩:=ry;exact in_str (XE I q rfl)
def IB:OpR X (compareOp .NotIn) (λx y H Q=> ∃i j,x=.str i/\y=.str j/\Q (.bl (!(!(Builtin.Str.occurrences j i 0 j.length 1).isEmpty))) H):=by intro pins s σ H x y v u Q I rx ry h;obtain⟨i,j,rfl,rfl,q⟩:=h;obtain⟨t,rfl⟩:=rx;obtain⟨t',rfl⟩:=ry;exact notIn_str (XE I q rfl)
def OpR.or{f:Value->Value->Sem Value}{r r':R2}(h:OpR X f r)(h':OpR X f r'):OpR X f (λx y H Q=>r x y H Q\/r' x y H Q):=by
 intro pins s σ H x y v u Q I rx ry q;rcases q with q|q
 .exact h pins s σ H x y v u Q I rx ry q
 .exact h' pins s σ H x y v u Q I rx ry q
def XF(b:Expr){op:CmpOp}(h:op≠.In:=by decide)(h2:op≠.NotIn:=by decide):behindInMarks op b=false:=by
 have e1:(op==CmpOp.In)=false:=by cases op<;>first |rfl|exact absurd rfl h
 have e2:(op==CmpOp.NotIn)=false:=by cases op<;>first |rfl|exact absurd rfl h2
 cases b<;>simp[behindInMarks,e1,e2]
def Cp{op:CmpOp}{r:R2}(ho:OpR X (compareOp op) r)(ha:PE X a ta)(hb:PE X b tb)(hm:behindInMarks op b=false):PE X (.Compare a [op] [b] pos) (So r ta tb):=by intro pins s σ H Q I h;exact wpAny_Compare1 (Kj ha hb I h λv u s2 x y H2 I2 rx ry q=>ho pins s2 σ H2 x y v u Q I2 rx ry q) hm
def Hw(t:TE):TT:=λσ H Q=>t σ H λx H'=> ∃k,x=.bl k/\Q k H'
def Cq{op:CmpOp}{r:R2}(ho:OpR X (compareOp op) r)(ha:PE X a ta)(hb:PE X b tb)(hm:behindInMarks op b=false):PT X (.Compare a [op] [b] pos) (Hw (So r ta tb)):=by
 intro pins s σ H Q I h
 refine wpAny_isTrue_Compare1 (wO (ha pins s σ H _ I h) λv s1 ⟨x,H1,I1,r1,q1⟩=>wO (hb pins s1 σ H1 _ I1 q1) λu s2 ⟨y,H2,I2,r2,q2⟩=>
  wO (ho pins s2 σ H2 x y v u _ I2 r1 r2 q2) λc s3 ⟨z,H3,I3,r3,k,e,q3⟩=>?_) hm
 subst e;cases r3;exact wpAny_truthy_bool ⟨H3,I3,q3⟩
def OO(r r':R2)(ta tb tc:TE):TE:=λσ H Q=>ta σ H λx H1=>tb σ H1 λy H2=>r x y H2 λz H3=> ∃k,z=.bl k/\
 (if k=true then tc σ H3 λw' H4=>r' y w' H4 Q else Q (.bl false) H3)
def XG{op op':CmpOp}{r r':R2}(ho:OpR X (compareOp op) r)(ho':OpR X (compareOp op') r')(ha:PE X a ta)(hb:PE X b tb)(hc:PE X c tc)
  (hm:lastMarks [op,op'] [b,c]=false:=by with_unfolding_all rfl):PE X (.Compare a [op,op'] [b,c] pos) (OO r r' ta tb tc):=by
 intro pins s σ H Q I h
 refine Compare_chain (wO (ha pins s σ H _ I h) λv s1 ⟨x,H1,I1,r1,q1⟩=>chain_link (wO (hb pins s1 σ H1 _ I1 q1) λu s2 ⟨y,H2,I2,r2,q2⟩=>
  wO (ho pins s2 σ H2 x y v u _ I2 r1 r2 q2) λd s3 ⟨z,H3,I3,r3,k,e,q3⟩=>?_)) hm
 subst e;cases r3;refine wpAny_truthy_bool ?_
 cases k with
 |false=>exact ite_ff ⟨.bl false,H3,I3,rfl,q3⟩
 |true=>exact ite_tt (chain_last (wO (hc pins s3 σ H3 _ I3 q3) λw' s4 ⟨z',H4,I4,r4,q4⟩=>ho' pins s4 σ H4 y z' u w' Q I4 r2 r4 q4))
def XH{op op':CmpOp}{r r':R2}(ho:OpR X (compareOp op) r)(ho':OpR X (compareOp op') r')(ha:PE X a ta)(hb:PE X b tb)(hc:PE X c tc)
  (hm:lastMarks [op,op'] [b,c]=false:=by with_unfolding_all rfl):PT X (.Compare a [op,op'] [b,c] pos) (Hw (OO r r' ta tb tc)):=by
 intro pins s σ H Q I h
 refine isTrue_chain (wO (ha pins s σ H _ I h) λv s1 ⟨x,H1,I1,r1,q1⟩=>test_link (wO (hb pins s1 σ H1 _ I1 q1) λu s2 ⟨y,H2,I2,r2,q2⟩=>
  wO (ho pins s2 σ H2 x y v u _ I2 r1 r2 q2) λd s3 ⟨z,H3,I3,r3,k,e,q3⟩=>?_)) hm
 subst e;cases r3;refine wpAny_truthy_bool ?_
 cases k with
 |false=>
  obtain⟨k',e',q'⟩:=q3;cases e';exact ite_ff ⟨H3,I3,q'⟩
 |true=>
  refine ite_tt (test_last (wO (hc pins s3 σ H3 _ I3 q3) λw' s4 ⟨z',H4,I4,r4,q4⟩=>wO (ho' pins s4 σ H4 y z' u w' _ I4 r2 r4 q4) λd' s5 ⟨z2,H5,I5,r5,k2,e2,q5⟩=>?_));subst e2;cases r5;exact wpAny_truthy_bool ⟨H5,I5,q5⟩
def Kn(K:Ud)(x:V)(H:Hp)(k:Bool):Prop:=
 match x with
 |.non=>k=false
 |.bl b=>k=b
 |.int i=>k=(i !=0)
 |.str y=>y.length<=sizeLine/\k=((y.length:Int) !=0)
 |.byt y=>y.size<=sizeLine/\k=((y.size:Int) !=0)
 |.ref p=>(∃xs,SqL K H p xs/\k= !xs.isEmpty)\/(∃xs,SqT K H p xs/\k= !xs.isEmpty)\/ ∃kvs,H p=some (.dK kvs)/\k= !kvs.isEmpty
 |_=>False
theorem OP{κ:Type}{kvs:List (κ×V)}{vs:List (κ×Value)}(r:KV kvs vs):(!vs.isEmpty)= !kvs.isEmpty:=by cases r<;>rfl
def CU{xs:List V}{its:Td}(r:Vals xs its):(!its.toArray.isEmpty)= !xs.isEmpty:=by cases r<;>simp
def CV:(sizeLine:Nat)<2 ^ 63:=by rw[sizeLine_eq];decide
theorem Ko:TruR X (λx H Q=> ∃k,Kn X.K x H k/\Q k H):=by
 intro pins s σ H x v Q I rx h;obtain⟨k,e,q⟩:=h;have hs:=sizeLine_eq
 cases x with
 |non=>
  cases rx;have e':=e;subst e';exact truthy_none ⟨H,I,q⟩
 |bl b=>
  cases rx;have e':=e;subst e';exact wpAny_truthy_bool ⟨H,I,q⟩
 |int i=>
  obtain⟨t,rfl⟩:=rx;have e':=e;subst e';exact PySem.P.truthy_int ⟨H,I,q⟩
 |str y=>
  obtain⟨t,rfl⟩:=rx;obtain⟨hy,e'⟩:y.length<=sizeLine/\k=_:=e;subst e';exact PySem.P.truthy_str (by lia) ⟨H,I.tok _,q⟩
 |byt y=>
  obtain⟨t,rfl⟩:=rx;obtain⟨hy,e'⟩:y.size<=sizeLine/\k=_:=e;subst e';exact PySem.W.truthy_bytes (by lia) ⟨H,I.tok _,q⟩
 |ref p=>
  cases rx;have e':=e;rcases e' with⟨xs,hx,e'⟩|⟨xs,hx,e'⟩|⟨kvs,hx,e'⟩
  .subst e';obtain⟨its,r,pl,hz⟩:=I.list hx;have hlen:=r.length;exact wpAny_truthy_list pl.isList (by simp only[sA];lia) ⟨H,I.tok _,by rw[CU r];exact q⟩
  .subst e';obtain⟨its,r,pl,hz⟩:=I.tuple hx;have hlen:=r.length;exact truthy_tuple pl (by simp only[sA];lia) ⟨H,I.tok _,by rw[CU r];exact q⟩
  .subst e';obtain⟨hz,hS,vs,r,m⟩:kvs.length<=sizeLine/\_=false/\ ∃vs,KV kvs vs/\s.heap.DictOf _ p vs:=I.hok p _ hx;have hlen:=Paired.length r;exact wpAny_truthy_dict hS m (by lia) ⟨H,I.tok _,by rw[OP r];exact q⟩
 |_=>exact e.elim
def XI(ha:PE X a ta)(he: ∀whole,isTrue a X.env whole=(do let v <-whole;standAt a.pos;holding [v] (truthy v))):
  PT X a (λσ H Q=>ta σ H λx H'=> ∃k,Kn X.K x H' k/\Q k H'):=by
 intro pins s σ H Q I h;exact isTrue_plain (wO (ha pins s σ H _ I h) λv s1 ⟨x,H1,I1,r1,q1⟩=>Ko pins s1 σ H1 x v Q I1 r1 q1) (he _)
def OQ:OpR X (binaryOp .Add) (λx y H Q=> ∃i j,x=.str i/\y=.str j/\i.length+j.length<=sizeLine/\Q (.str (i++j)) H):=by intro pins s σ H x y v u Q I rx ry h;obtain⟨i,j,rfl,rfl,hz,q⟩:=h;obtain⟨t,rfl⟩:=rx;obtain⟨t',rfl⟩:=ry;exact add_str (λt' tk=>⟨.str _,H,I.tok _,⟨_,rfl⟩,q⟩) hz
def vals1{x:V}{us:Td}(r:Vals [x] us): ∃u,us=[u]/\RelV x u:=by
 cases r with
 |cons r1 r2=>cases r2;exact⟨_,rfl,r1⟩
def vals2{x y:V}{us:Td}(r:Vals [x,y] us): ∃u w',us=[u,w']/\RelV x u/\RelV y w':=by
 cases r with
 |cons r1 r2=>
  cases r2 with
  |cons r3 r4=>cases r4;exact⟨_,_,rfl,r1,r3⟩
def XJ:CallR X (.builtin "abs") (λxs H Q=> ∃i,xs=[.int i]/\Q (.int (if i<0 then -i else i)) H):=by intro pins s σ H xs us Q I r h;obtain⟨i,rfl,q⟩:=h;obtain⟨u,rfl,t,rfl⟩:=vals1 r;exact call_abs_int λu tk=>⟨.int (if i<0 then -i else i),H,I.tok _,⟨_,rfl⟩,q⟩
end
structure Cls(K:Ud)(C:Addr):Prop where
 pg:PySem.W.plainGet K C Str.empty=true
 hd:PySem.W.hasDictIn K C=true
 po:PySem.W.plainOver K C=true
 sa:PySem.W.findIn K (.ref C) "__setattr__"=some (some (.builtin "object.__setattr__"))
structure Meth(K:Ud)(C:Addr)(m:Str)(f:Addr):Prop where
 at_:PySem.W.findIn K (.ref C) m=some (some (.ref f))
 fn:PySem.W.isFn K (.ref f)=true
 kp:PySem.W.keepIn K (.ref f)=true
section
variable{H:Hp}
inductive sF(K:Ud)(H:Hp):V->Value->Prop where
 |non:sF K H .non (.type "NoneType")
 |bl (x:Bool):sF K H (.bl x) (.type "bool")
 |int (i:Int):sF K H (.int i) (.type "int")
 |str (x:Str):sF K H (.str x) (.type "str")
 |flt (x:UInt64):sF K H (.flt x) (.type "float")
 |lst {a:Addr} {xs:List V} (e:H a=some (.lst xs)):sF K H (.ref a) (.type "list")
 |frz {a:Addr} {o:Obj} {xs:List V} (e:H a=some (.frz o (.lst xs))):sF K H (.ref a) (.type "list")
 |tup {a:Addr} {xs:List V} (e:H a=some (.tup xs)):sF K H (.ref a) (.type "tuple")
 |dK {a:Addr} {kvs:List (Key×V)} (e:H a=some (.dK kvs)):sF K H (.ref a) (.type "dict")
 |dT {a:Addr} {kvs:List (List Key×V)} (e:H a=some (.dT kvs)):sF K H (.ref a) (.type "dict")
 |ins {a C dx:Addr} {fs:List (Str×V)} (e:H a=some (.ins C dx fs)) (cl:Cls K C) (ha:PySem.W.findIn K (.ref C) "__class__"=some (some (.builtin "object.__class__")))
   (hn:PySem.W.specialIn K (.builtin "object.__class__") "__get__"=some (some (.builtin "getset_descriptor.__get__"))) (htk:PySem.W.takesIn K (.builtin "object.__class__")=some true)
   (hm:PySem.W.mroIn K C (.type "object")=some true):sF K H (.ref a) (.ref C)
end
structure Room(k:Nat)(A:Around):Prop where
 hd:A.handled=none
 dp:A.depth+3 * k+5<recursionLimit
 un:A.units+16 * k+200<cLine
 gd:A.guards=some []
theorem Room.mono{j k:Nat}{A:Around}(r:Room k A)(h:j<=k):Room j A:=⟨r.hd,by have:=r.dp;lia,by have:=r.un;lia,r.gd⟩
theorem Room.deeper{k:Nat}{A:Around}(r:Room (k+1) A)(env:Env):Room k (A.deeper env):=
 ⟨r.hd,by have:=r.dp;show A.depth+1+3 * k+5<_;lia,by have:=r.un;show A.units+3+16 * k+200<_;lia,r.gd⟩
theorem Room.in1{k:Nat}{A:Around}(r:Room (k+1) A):Room k A.in1:=
 ⟨r.hd,by have:=r.dp;show A.depth+3 * k+5<_;lia,by have:=r.un;show A.units+1+16 * k+200<_;lia,r.gd⟩
def Room.depth{k:Nat}{A:Around}(r:Room k A):A.depth<recursionLimit:=by have:=r.dp;omega
def Room.units{k:Nat}{A:Around}(r:Room k A):A.units+64<cLine:=by have:=r.un;omega
def tNil:TA:=λ_ H Q=>Q [] H
def Py(ta:TE)(tr:TA):TA:=λσ H Q=>ta σ H λx H1=>tr σ H1 λxs H2=>Q (x::xs) H2
section
variable{X:Cx}{e:Expr}{es:Uc}{te:TE}{t:TA}{pos:Pos}
def OR:PA X [] tNil:=λ_ _ _ _ H Q I h=>Calls.spliced_nil ⟨[],H,I,.nil,h⟩
def IC(ha:PE X e te)(hr:PA X es t)(hs:starEach (e::es) X.env=(false,eval e X.env)::starEach es X.env:=by rfl):PA X (e::es) (Py te t):=by intro pos pins s σ H Q I h;rw[hs];show wpAny _ _ _ _ _ s;refine Calls.spliced_cons (wO (ha pins s σ H _ I h) λu s1 ⟨x,H1,I1,r1,q1⟩=>?_);exact wO (hr pos pins s1 σ H1 _ I1 q1) λus s2 ⟨xs,H2,I2,r2,q2⟩=>⟨_,H2,I2,.cons r1 r2,q2⟩
def tTup(t:TA):TE:=λσ H Q=>t σ H λxs H1=>xs.length<=sizeLine/\ ∀p,H1 p=none->Q (.ref p) (gH H1 p (.tup xs))
def tLst(t:TA):TE:=λσ H Q=>t σ H λxs H1=>xs.length<=sizeLine/\ ∀p,H1 p=none->Q (.ref p) (gH H1 p (.lst xs))
def Kp{x1}(h:PA X es t):PE X (.Tuple es x1 pos) (tTup t):=by intro pins s σ H Q I hq;refine wpAny_Tuple_spliced (wO (h pos pins s σ H _ I hq) λus s1 ⟨xs,H1,I1,r,z,q⟩=>⟨by rw[<-r.length];exact z,?_⟩);refine⟨.ref s1.heap.objs.size,_,I1.laid (λb u e=>hP0 _ e) (Nat.le_refl _) ?_,rfl,q _ (I1.hok.fresh (Nat.le_refl _))⟩;exact⟨z,us,r,⟨_,Heap.get?_push_size _ rfl,rfl,_,rfl⟩⟩
def Kq(h:PA X es t):PE X (.List es pos) (tLst t):=by intro pins s σ H Q I hq;refine wpAny_List_spliced (wO (h pos pins s σ H _ I hq) λus s1 ⟨xs,H1,I1,r,z,q⟩=>⟨by rw[<-r.length];exact z,?_⟩);refine⟨.ref s1.heap.objs.size,_,I1.laid (λb u e=>hP0 _ e) (Nat.le_refl _) ?_,rfl,q _ (I1.hok.fresh (Nat.le_refl _))⟩;exact⟨z,us,0,r,Heap.get?_push_size _ rfl⟩
end
abbrev Sp:=List V->Hp->VK->XK->Prop
abbrev OS:=List Env->Hp->Shared->XK->VP
structure Env0(P:Program)(w:World)(K:Ud)(mg:Ti)(base:Heap)(A:Around)(outer:List Env)(s:Shared)(H:Hp):Prop where
 frames:A.frames=some outer
 mod:Mod K mg base
 bs: ∀b o,base.get? b=some o->s.heap.get? b=some o/\H b=none
 bsz:Bsz P K base s.heap H
 funs:s.heap.FunFrames base outer
 frf: ∀b∈WS outer,H b=none
 hok:HOk P w H s.heap
 bare:AllBare s.gens
def CE(outer:List Env)(P:Program)(w:World)(H:Hp)(s:Shared)(Q:VK)(u:Value)(s':Shared):Prop:=
 ∃v H',s'.os=s.os/\AllBare s'.gens/\Un (WS outer) [] H H' s.heap s'.heap/\HOk P w H' s'.heap/\RelV v u/\Q v H'
def CR(CX:OS)(outer:List Env)(P:Program)(w:World)(H:Hp)(s:Shared)(Q:VK)(E:XK)(r:Result)(s':Shared):Prop:=
 match r with
 |.ok (.ret u)=>CE outer P w H s Q u s'
 |.ok _=>False
 |.error e=>CX outer H s E e s'
structure FnOk(P:Program)(w:World)(K:Ud)(mg:Ti)(base:Heap)(CX:OS)(k:Nat)(f:Addr)(fd:FuncData)(ps:Th)(sp:Sp):Prop where
 len: ∀vs H Q E,sp vs H Q E->vs.length=ps.length
 run: ∀(A:Around)(outer:List Env)(s:Shared)(H:Hp)(args:Args)(us:Td)(vs:List V)(Q:VK)(E:XK),Room k A->Env0 P w K mg base A outer s H->BindsTo s fd args (ps.zip us)->Vals vs us->sp vs H Q E->
  codeAny (model P w) A (.call (.ref f) args) (CR CX outer P w H s Q E) s
def FnOk.imp{P:Program}{w:World}{K:Ud}{mg:Ti}{base:Heap}{CX:OS}{k:Nat}{f:Addr}{fd:FuncData}{ps:Th}{sp sp':Sp}(F:FnOk P w K mg base CX k f fd ps sp)
  (h: ∀vs H Q E,sp' vs H Q E->sp vs H Q E):FnOk P w K mg base CX k f fd ps sp':=
 ⟨λvs H Q E q=>F.len vs H Q E (h _ _ _ _ q),λA outer s H args us vs Q E hr he hb hv hs=>F.run A outer s H args us vs Q E hr he hb hv (h _ _ _ _ hs)⟩
def Env0.in1{P:Program}{w:World}{K:Ud}{mg:Ti}{base:Heap}{A:Around}{outer:List Env}{s:Shared}{H:Hp}(e:Env0 P w K mg base A outer s H):
  Env0 P w K mg base A.in1 outer s H:=⟨e.frames,e.mod,e.bs,e.bsz,e.funs,e.frf,e.hok,e.bare⟩
section
variable{X:Cx}{pins:Tk}{σ:St}{H:Hp}{s s':Shared}
def Inv.env0(I:Inv X pins σ H s):Env0 X.prog X.w X.K X.mg X.base X.A X.stack s H:=
 ⟨I.ok.frames,I.ok.mod,I.bs,I.bsz,I.stack,I.stkFree,I.hok,I.bare⟩
def Inv.after{Q:VK}{u:Value}(I:Inv X pins σ H s)(h:CE X.stack X.prog X.w H s Q u s'):EP X pins σ Q u s':=by obtain⟨v,H',os,bare,un,hok,r,q⟩:=h;obtain⟨hh,g,d,t,os'⟩:=s';obtain rfl:os'=s.os:=os;exact⟨v,H',I.call un hok bare (λb z=>absurd z (by simp)),r,q⟩
end
def Pz(sp:Sp)(dvs:List V)(E:XK)(t:TA):TE:=λσ H Q=>t σ H λvs H1=>sp (vs++dvs) H1 Q E
def Binds(K:Ud)(fd:FuncData)(ps:Th)(ds:Td):Prop:=
 ∀(s:Shared)(us:Td),K.In s.heap->(us++ds).length=ps.length->BindsTo s fd ⟨us,[]⟩ (ps.zip (us++ds))
def Binds.all{K:Ud}{fd:FuncData}{ps:Th}(h: ∀us:List Value,us.length=ps.length->bindArgs fd ⟨us,[]⟩=pure (ps.zip us)):Binds K fd ps []:=λs us _ hl=>by rw[aN]at hl ⊢;exact .of_eq (h us hl)
def OT(CX:OS)(X:Cx)(E:XK):Prop:= ∀(pins:Tk)(σ:St)(H:Hp)(s:Shared)(e:Value)(s':Shared),Inv X pins σ H s->CX X.stack H s E e s'->X.xe e s'
section
variable{X:Cx}{CX:OS}{k:Nat}{f:Addr}{fd:FuncData}{ps:Th}{sp:Sp}{dvs:List V}{ds:Td}{E:XK}{x:Str}{p pos:Pos}{e:Expr}{es:Uc}{t:TA}
def Kr{pins:Tk}{σ:St}{H:Hp}{s:Shared}{Q:VK}{us:Td}{vs:List V}(F:FnOk X.prog X.w X.K X.mg X.base CX k f fd ps sp)(hr:Room k X.A)(hb:Binds X.K fd ps ds)(hd:Vals dvs ds)(hx:OT CX X E)
  (I:Inv X pins σ H s) (r:Vals vs us) (h:sp (vs++dvs) H Q E):wpAny (model X.prog X.w) X.A (call (.ref f) us) (EP X pins σ Q) X.xe s:=by
 have r2:Vals _ _:=r.append hd;refine wpAny_call (codeAny_mono (F.run X.A X.stack s H ⟨us,[]⟩ _ _ Q E hr I.env0 (hb s us I.kIn (by rw[<-r2.length];exact F.len _ _ _ _ h)) r2 h) λr s' hq=>?_)
 cases r with
 |error e=>exact hx pins σ H s e s' I hq
 |ok fl=>
  cases fl with
  |ret u=>exact I.after hq
  |next=>exact False.elim hq
  |brk=>exact False.elim hq
  |cont=>exact False.elim hq
def Cr(F:FnOk X.prog X.w X.K X.mg X.base CX k f fd ps sp)(hr:Room k X.A)(hg:Gl X x)(hm:X.mg x=some (.ref f))(hk:PySem.W.keepIn X.K (.ref f)=true)(hb:Binds X.K fd ps ds)(hd:Vals dvs ds)(hx:OT CX X E)
  (ha:PA X (e::es) t) (hdb:(x==("__debug__":Str))=false:=by decide) (he:starEach (e::es) X.env=(false,eval e X.env)::starEach es X.env:=by rfl) (hpl:(backTo pos (starEach es X.env)).any (·.1)=false:=by rfl):
  PE X (.Call (.Name x p) (e::es) [] pos) (Pz sp dvs E t):=by
 intro pins s σ H Q I h;refine wpAny_Call_Name_kw (RF I hg hm ?_ hdb);refine PySem.W.callWith_K I.ok.mod.kin hk (wO (ha pos pins s σ H _ I h) λus s1 ⟨vs,H1,I1,r,q⟩=>⟨I1.kIn,?_⟩) he hpl;exact Kr F hr hb hd hx I1 r q
end
structure FnScope(N P:Th)(sc:Scope):Prop where
 kind:sc.kind=.function
 co:sc.isCoroutine=false
 gen:sc.isGenerator=false
 nd:N.Nodup
 pre:N.take P.length=P
 par: ∀x∈P,sc.names.lookup x=some .local\/sc.names.lookup x=some .cell
 nofree: ∀y∈sc.names,y.2≠.free
def fsK{N P:Th}{sc:Scope}(h:N.Nodup/\N.take P.length=P/\(∀x∈P,sc.names.lookup x=some .local\/sc.names.lookup x=some .cell)/\∀y∈sc.names,y.2≠.free)(a:sc.kind=.function:=by rfl)(b:sc.isCoroutine=false:=by rfl)(c:sc.isGenerator=false:=by rfl):FnScope N P sc:=⟨a,b,c,h.1,h.2.1,h.2.2.1,h.2.2.2⟩
theorem GQ{kindOf:Str->Option NameKind}{x:Str}: ∀{binds:List (Str×Value)}{m:Ti},(∀v,(x,v)∉binds)->bindL kindOf binds m x=m x
 |[],_,_=>rfl
 |(n,v)::r,m,h=>by
  unfold bindL;rw[GQ λw hw=>h w (mO _ hw)];split
  .have:x≠n:=by rintro rfl;exact h v mF0
   simp[this]
  .rfl
theorem GR{kindOf:Str->Option NameKind}{x:Str}: ∀{binds:List (Str×Value)}{m:Ti},(∀v,(x,v)∉binds)->bindC kindOf binds m x=m x
 |[],_,_=>rfl
 |(n,v)::r,m,h=>by
  unfold bindC;rw[GR λw hw=>h w (mO _ hw)];split
  .rfl
  .have:x≠n:=by rintro rfl;exact h v mF0
   simp[this]
theorem GS{kindOf:Str->Option NameKind}{x:Str}{v:Value}: ∀{P:Th}{vs:Td}{i:Nat}{m:Ti},P.Nodup->P[i]? =some x->vs[i]? =some v->kindOf x=some .local->
  bindL kindOf (P.zip vs) m x=some v
 |[],_,_,_,_,h,_,_=>by simp at h
 |_::_,[],_,_,_,_,h,_=>by simp at h
 |p::P,w::vs,0,m,nd,h1,h2,hk=>by simp at h1 h2;subst h1;subst h2;show bindL kindOf (_::P.zip vs) m p=_;unfold bindL;rw[GQ λv hv=>(nodup_cons.mp nd).1 (of_mem_zip hv).1,iP hk];simp
 |p::P,w::vs,i+1,m,nd,h1,h2,hk=>by show bindL kindOf _ m x=_;unfold bindL;exact GS (nodup_cons.mp nd).2 (by simpa using h1) (by simpa using h2) hk
theorem GT{kindOf:Str->Option NameKind}{x:Str}{v:Value}: ∀{P:Th}{vs:Td}{i:Nat}{m:Ti},P.Nodup->P[i]? =some x->vs[i]? =some v->kindOf x≠some .local->
  bindC kindOf (P.zip vs) m x=some v
 |[],_,_,_,_,h,_,_=>by simp at h
 |_::_,[],_,_,_,_,h,_=>by simp at h
 |p::P,w::vs,0,m,nd,h1,h2,hk=>by simp at h1 h2;subst h1;subst h2;show bindC kindOf (_::P.zip vs) m p=_;unfold bindC;rw[GR λv hv=>(nodup_cons.mp nd).1 (of_mem_zip hv).1,iN hk];simp
 |p::P,w::vs,i+1,m,nd,h1,h2,hk=>by show bindC kindOf _ m x=_;unfold bindC;exact GT (nodup_cons.mp nd).2 (by simpa using h1) (by simpa using h2) hk
def start(N:Th)(vs:List V):St:=vs.map some++List.replicate (N.length - vs.length) none
def IE(CX:OS)(P:Program)(w:World)(K:Ud)(mg:Ti)(base:Heap)(N:Th)(qual:Str)(scope:Scope)(f:Addr)(cd:Value)(A:Around)(outer:List Env)(s:Shared)(H:Hp)(E:XK):Cx where
 prog:=P
 w:=w
 K:=K
 mg:=mg
 base:=base
 A:=A.deeper (envOfC qual scope s.heap.objs.size f cd)
 N:=N
 s₀:=s
 H₀:=H
 env:=envOfC qual scope s.heap.objs.size f cd
 outer:=outer
 stack:=envOfC qual scope s.heap.objs.size f cd::outer
 ex:=[]
 calm:=true
 fn:=λ_=>true
 pn:=[]
 xe:=λe s'=>wpAny (model P w) (A.deeper (envOfC qual scope s.heap.objs.size f cd)) (leaving (envOfC qual scope s.heap.objs.size f cd) e) (λ_ s''=>CX outer H s E e s'') (λe' s''=>CX outer H s E e' s'') s'
def CW{sc:Scope}{n:Nat}{x:Str}(h:sc.names.lookup x=some .cell): ∃c,(cellsFrom n sc.names []).lookup x=some c:=by exact Option.isSome_iff_exists.mp (PySem.W.cellsFrom_some sc.names n [] (.inl h))
theorem GU{CX:OS}{P:Program}{w:World}{K:Ud}{mg:Ti}{base:Heap}{N ps:Th}{qual:Str}{scope:Scope}{f:Addr}{cd:Value}{A:Around}{outer:List Env}{s s1:Shared}{H:Hp}{E:XK}{us:Td}{vs:List V}
  (S:FnScope N ps scope) (hd:A.handled=none) (e0:Env0 P w K mg base A outer s H) (hl:vs.length=ps.length) (r:Vals vs us)
  (x:InCallC s s.heap.objs.size (bindL (envOfC qual scope s.heap.objs.size f cd).kindOf (ps.zip us) λ_=>none) (cellsFrom (s.heap.objs.size+1) scope.names []) (bindC (envOfC qual scope s.heap.objs.size f cd).kindOf (ps.zip us) λ_=>none) s1):
  Inv (IE CX P w K mg base N qual scope f cd A outer s H E) [] (start N vs) H s1:=by
 have hpl:=by have:=congrArg List.length S.pre;rw[lT]at this;omega
 obtain⟨h1,tk,rfl,hk⟩:=x.done;have noA: ∀b:Addr,b∉(IE CX P w K mg base N qual scope f cd A outer s H E).ex:=λb z=>absurd (show b∈([]:Tg)from z) (by simp)
 refine⟨⟨e0.mod,S.kind,rfl,rfl,Nat.le_refl _,λy z c h1 h2=>?_,λy hy=>?_,λy c _ h=>?_,λ_=>hd,Around.frames_deeper e0.frames,.inr ⟨rfl,rfl⟩,λb z=>absurd z (noA b),e0.bs,e0.bsz,λb _ _=>noA b,λb z=>absurd z (noA b),e0.funs,e0.frf⟩,
  rfl,e0.bare,Un.kept hk,⟨_,x.toInCall.ns,λi y v h1 h2 h3=>?_⟩,λy c h=>⟨_,x.cell y c h⟩,e0.hok.fresh (Nat.le_refl _),λy c h=>?_,λp hp=>absurd (show p∈([]:List _)from hp) (by simp),e0.hok.kept hk,?_⟩
 .exact name_of_addr x.apart (PySem.mem_of_lookup h1) (PySem.mem_of_lookup h2)
 .have hy:=hy;rcases hy with hy|hy
  .exact CW hy
  .exact absurd rfl (S.nofree _ (PySem.mem_of_lookup hy))
 .exact le_of_lt (x.above y c (PySem.mem_of_lookup h))
 .have hi:i<vs.length:=by
   unfold start at h2;by_cases hi:i<vs.length
   .exact hi
   .rw[getElem?_append_right (by simpa using hi)]at h2;rw[getElem?_replicate]at h2;split at h2<;>cases h2
  have ha:vs[i]? =some v:=by
   unfold start at h2;rw[getElem?_append_left (by simpa using hi),getElem?_map]at h2
   cases e:vs[i]? with
   |none=>rw[e]at h2;cases h2
   |some a=>rw[e]at h2;cases h2;rfl
  obtain⟨u,hu,rv⟩:=r.get ha;have hp:ps[i]? =some y:=by rw[<-S.pre,getElem?_take_of_lt (by omega)];exact h1
  have ndP:ps.Nodup:=by rw[<-S.pre];exact S.nd.sublist (List.take_sublist _ _)
  refine⟨u,rv,?_⟩;rcases S.par y (mem_of_getElem? hp)with k|k
  .exact .inl ⟨k,GS ndP hp hu k⟩
  .obtain⟨c,e⟩:=CW k;refine .inr ⟨.inl k,c,e,?_⟩;have q:=x.cell y c e;rw[GT ndP hp hu (by show scope.names.lookup y≠_;rw[k];decide)]at q;exact q
 .exact .inl (e0.hok.fresh (le_of_lt (x.above y c (PySem.mem_of_lookup h))))
 .unfold start;show _=N.length;rw[lA,lM,List.length_replicate]
  lia
def Qa{CX:OS}{P:Program}{w:World}{K:Ud}{mg:Ti}{base:Heap}{k:Nat}{f:Addr}{name qual:Str}{params:Arguments}{body:List Stmt}{scope:Scope}{dV kV doc pm cdv ct oc:Value}{an od:Option Addr}
  {osl:Array (Option Value)} {N ps:Th} {sp:Sp} (lk:K.lookup f=some ⟨oc,od,.func (PySem.W.fnOf name qual params body scope dV kV doc pm an cdv ct),osl⟩) (hcd:PySem.W.codeIn K cdv qual=true) (S:FnScope N ps scope)
  (len: ∀vs H Q E,sp vs H Q E->vs.length=ps.length)
  (hbody: ∀(A:Around)(outer:List Env)(s:Shared)(H:Hp)(vs:List V)(Q:VK)(E:XK),Room k (A.deeper (envOfC qual scope s.heap.objs.size f cdv))->sp vs H Q E->
   ∃t,PSs (IE CX P w K mg base N qual scope f cdv A outer s H E) body t/\t {nx:=λ_ H'=>Q .non H',rt:=Q} (start N vs) H):
  FnOk P w K mg base CX (k+1) f (PySem.W.fnOf name qual params body scope dV kV doc pm an cdv ct) ps sp:=by
 refine⟨len,λA outer s H args us vs Q E hr e0 hb r hsp=>?_⟩;have KX:=e0.mod.kin.keeps λb o e=>(e0.bs b o e).1
 have hkind: ∀y∈ps.zip us,scope.names.lookup y.1=some .local\/(scope.names.lookup y.1=some .cell/\((cellsFrom (s.heap.objs.size+1) scope.names []).lookup y.1).isSome=true):=λ⟨n,v⟩ hy=>by
  rcases S.par n (of_mem_zip hy).1 with q|q
  .exact .inl q
  .exact .inr ⟨q,PySem.W.cellsFrom_some _ _ _ (.inl q)⟩
 refine codeAny_call_function hr.depth (KX _ _ lk) rfl S.co S.gen rfl (PySem.W.codeRec_of KX hcd) (hb _ _ _ _ ?_);refine wpAny_newFunctionEnv_cells S.kind hkind λenv he s1 x=>?_;subst he;refine⟨(e0.mod.nolimit.keeps λb o e=>(e0.bs b o e).1).keeps x.toInCall.keep,codeAny_func ?_⟩;obtain⟨t,ht,hq⟩:=hbody A outer s H vs Q E (hr.deeper _) hsp;refine wpAny_mono (ht [] s1 _ H _ (GU S hr.hd e0 (len _ _ _ _ hsp) r x) hq) (λfl s' hs=>?_) λe s' hs=>hs
 have fin: ∀{σ':St}{H':Hp}{v:V}{u:Value},Inv (IE CX P w K mg base N qual scope f cdv A outer s H E) [] σ' H' s'->RelV v u->Q v H'->CE outer P w H s Q u s':=
  λ{σ' H' v u} J rv q=>⟨v,H',J.os,J.bare,J.base,J.hok,rv,q⟩
 cases fl with
 |ret u=>
  obtain⟨v,σ',H',J,rv,q⟩:=hs;exact fin J rv q
 |next=>
  obtain⟨σ',H',J,q⟩:=hs;exact fin (v:=V.non) J rfl q
 |brk=>
  obtain⟨_,_,_,q⟩:=hs;exact False.elim q
 |cont=>
  obtain⟨_,_,_,q⟩:=hs;exact False.elim q
section
variable{X:Cx}{x:Str}{p pos:Pos}{e:Expr}{es:Uc}{t:TA}{id T:String}{r:List V->Hp->VK->Prop}
def tCB(r:List V->Hp->VK->Prop)(t:TA):TE:=λσ H Q=>t σ H λvs H1=>r vs H1 Q
def KR(hc:CallR X (.builtin id) r)(hg:Gl X x)(hm:X.mg x=none)(hv:bootBuiltins x=some (.builtin id))(ha:PA X (e::es) t)(hn:x≠"__name__":=by decide)(hdb:(x==("__debug__":Str))=false:=by decide)
  (he:starEach (e::es) X.env=(false,eval e X.env)::starEach es X.env:=by rfl) (hpl:(backTo pos (starEach es X.env)).any (·.1)=false:=by rfl):PE X (.Call (.Name x p) (e::es) [] pos) (tCB r t):=by
 intro pins s σ H Q I h;refine wpAny_Call_Name_kw (rN I hg hm hv ?_ hn hdb);exact PyProof.Rows.callWith_builtin1 (wO (ha pos pins s σ H _ I h) λus s1 ⟨vs,H1,I1,r1,q1⟩=>hc pins s1 σ H1 vs us Q I1 r1 q1) he hpl
def vD(hc:CallR X (.type T) r)(hg:Gl X x)(hm:X.mg x=none)(hv:bootBuiltins x=some (.type T))(ha:PA X (e::es) t)(hn:x≠"__name__":=by decide)(hdb:(x==("__debug__":Str))=false:=by decide)
  (he:starEach (e::es) X.env=(false,eval e X.env)::starEach es X.env:=by rfl) (hpl:(backTo pos (starEach es X.env)).any (·.1)=false:=by rfl):PE X (.Call (.Name x p) (e::es) [] pos) (tCB r t):=by
 intro pins s σ H Q I h;refine wpAny_Call_Name_kw (rN I hg hm hv ?_ hn hdb);exact PyProof.Rows.callWith_type1 (wO (ha pos pins s σ H _ I h) λus s1 ⟨vs,H1,I1,r1,q1⟩=>hc pins s1 σ H1 vs us Q I1 r1 q1) he hpl
end
end L2
namespace HT
open PySem PyProof.Rows
section
variable{prog:Program}{w:World}{A:Around}{E:VP}{s:Shared}
def cat_tup{t b:Addr}{vs ws:Td}{Q:VP}(ht:IsTup s.heap t vs.toArray)(hb:IsTup s.heap b ws.toArray)(hv:vs≠[])
  (h1:ws=[]->Q (.ref t) s) (h2:ws≠[]->Q (.ref s.heap.objs.size) {s with heap:=s.heap.push {cls:=.type "tuple",data:=.seq (vs++ws).toArray}})
  (hsz:vs.length+ws.length<=sizeLine):wpAny (model prog w) A (binaryOp .Add (.ref t) (.ref b)) Q E s:=by
 obtain⟨⟨cls,dd,data,sl⟩,ho,hc,n,hd⟩:=id ht;obtain⟨⟨cls2,dd2,_,sl2⟩,ho2,hc2,n2,hd2⟩:=id hb;subst hc hd hc2 hd2;have e:vs.toArray++ws.toArray=(vs++ws).toArray:=by simp
 by_cases hw:ws=[]
 .exact concat_meets ⟨_,ho,rfl⟩ ⟨_,ho2,rfl⟩ noFill_tuple_add seq_tuple_add PySem.F.slot_tuple_add PySem.F.entry_tuple_add (PySem.F.args_tuple_add_2 _ _)
   (tuple_addW1 t b vs.toArray ws.toArray n n2 dd dd2 sl sl2 (by simpa using hv) (by simp[hw])) ⟨ho,ho2,h1 hw⟩
 .refine concat_meets ⟨_,ho,rfl⟩ ⟨_,ho2,rfl⟩ noFill_tuple_add seq_tuple_add PySem.F.slot_tuple_add PySem.F.entry_tuple_add (PySem.F.args_tuple_add_2 _ _)
   (tuple_addW2 t b vs.toArray ws.toArray n n2 dd dd2 sl sl2 (by simpa using hv) (by simpa using hw) (by rw[sA];exact hsz)) ⟨ho,ho2,?_⟩
  rw[e];exact h2 hw
def sIx(n d:Nat):Option Int->Nat
 |none=>d
 |some v=>if v<0 then(v+(n:Int)).toNat else min v.toNat n
theorem sIx_le(n d:Nat)(hd:d<=n)(o:Ub):sIx n d o<=n:=by
 cases o with
 |none=>exact hd
 |some v=>
  show(if v<0 then(v+_).toNat else min v.toNat n)<=n;by_cases hv:v<0
  .rw[iP hv];lia
  .rw[iN hv];exact Nat.min_le_right _ _
theorem RH(v:Int)(n d:Nat):(if v<0 then max (v+(n:Int)) 0 else min v (n:Int))=((sIx n d (some v):Nat):Int):=by
 show _=(((if v<0 then(v+_).toNat else min v.toNat n):Nat):Int)
 by_cases hv:v<0
 .simp only[iP hv];lia
 .simp only[iN hv];lia
theorem OU(lo hi:Ub)(n:Nat):Builtin.Slice.sliceAdjust lo hi 1 (n:Int)=(((sIx n 0 lo:Nat):Int),((sIx n n hi:Nat):Int)):=by
 have h1: ¬((1:Int)<0):=by lia
 unfold Builtin.Slice.sliceAdjust;refine Prod.ext ?_ ?_
 .cases lo with
  |none=>rfl
  |some v=>exact RH v n 0
 .cases hi with
  |none=>rfl
  |some v=>exact RH v n n
theorem OV(i j:Nat):Builtin.Slice.slicePlaces (i:Int) (j:Int) 1=j - i:=by
 unfold Builtin.Slice.slicePlaces;have h1:(1:Int)>0:=by lia
 split<;>lia
def CY{v:Value}{o:Ub}{Q:Option Int->Shared->Prop}(p:IsPart v o)(h:Q o s):wpAny (model prog w) A (Builtin.Slice.slicePartIndex v) Q E s:=by
 cases p with
 |none=>exact slicePart_none h
 |int i t=>exact slicePart_int h
def sliceApplied_gen{sl:Addr}{vl vu:Value}{lo hi:Ub}{n:Nat}{Q:Int×Int×Nat->Shared->Prop}(hs:s.heap.IsSliceOf sl vl vu .none)(pl:IsPart vl lo)(pu:IsPart vu hi)
  (h:Q (((sIx n 0 lo:Nat):Int),1,sIx n n hi - sIx n 0 lo) s):wpAny (model prog w) A (Builtin.Slice.sliceApplied (.ref sl) (pure (n:Int))) Q E s:=by
 obtain⟨os,hos,hcs,hds⟩:=id hs;refine wB (wB (wpAny_field hos hds rfl (wB (wpAny_field hos hds rfl (wB (wpAny_field hos hds rfl (wP ?_)))))));refine wB (slicePart_none ?_);show wpAny _ _ _ _ _ s;refine wB (CY pl (wB (CY pu (wB (wP ?_)))));show wpAny _ _ (match Builtin.Slice.sliceAdjust lo hi 1 _ with |(lo,hi)=>pure (lo,_,Builtin.Slice.slicePlaces lo hi 1)) _ _ s;rw[OU lo hi n];show wpAny _ _ (pure _) _ _ s;rw[OV];exact wP h
theorem XM(xs:Te)(i k:Nat):((List.range k).filterMap λ(m:Nat)=>xs[((i:Int)+(m:Int) * 1).toNat]?).toArray=((xs.toList.drop i).take k).toArray:=by
 have e:(λ(m:Nat)=>xs[((i:Int)+(m:Int) * 1).toNat]?)=λm=>xs[i+m]? :=by
  funext m;have:((i:Int)+(m:Int) * 1).toNat=i+m:=by lia
  rw[this]
 rw[e];have:=pick_run xs i k;rw[List.filterMap_map]at this;have e2:((λx=>xs[x]?)∘λx=>i+x)=λm=>xs[i+m]? :=rfl;rw[e2]at this;rw[this]
def getItem_tuple_cut{t sl:Addr}{items:Te}{vl vu:Value}{lo hi:Ub}{Q:VP}(ht:IsTup s.heap t items)(hs:s.heap.IsSliceOf sl vl vu .none)(pl:IsPart vl lo)(pu:IsPart vu hi)
  (hw: ¬(sIx items.size 0 lo=0/\sIx items.size items.size hi=items.size))
  (h:Q (.ref s.heap.objs.size) {s with heap:=s.heap.push {cls:=.type "tuple",data:=.seq ((items.toList.drop (sIx items.size 0 lo)).take (sIx items.size items.size hi - sIx items.size 0 lo)).toArray}})
  (hsz:items.size<=sizeLine):wpAny (model prog w) A (getItem (.ref t) (.ref sl)) Q E s:=by
 have htake:sizeOk (.seq ((items.toList.drop (sIx items.size 0 lo)).take (sIx items.size items.size hi - sIx items.size 0 lo)).toArray):=by show((items.toList.drop _).take _).toArray.size<=sizeLine;rw[sA,lT,List.length_drop,Array.length_toList];omega
 obtain⟨os,hos,hcs,hds⟩:=id hs;have hTs:s.TypeIs (.ref sl) "slice":=⟨os,hos,hcs⟩
 unfold getItem
 try with_reducible refine wpAny_holding ?_
 first |refine wB _|skip
 refine wB (wpAny_sequenceKey ht.typeIs (by decide) ?_)
 refine wB (wpAny_callSpecial?_slot ht.typeIs PyProof.Rows.slot_tuple_getitem
  (wpAny_call_entry PyProof.Rows.slot_tuple_getitem ht.typeIs entry_tuple_getitem ?_ (args_tuple_getitem _ _)))
 show wpAny _ _ (Builtin.Tuple.tupleItemsOf _ >>= _) _ _ s;refine wB (tupleItemsOf_ ht ?_);refine wB (wpAny_typeOf hTs ?_);refine wB (sliceApplied_gen hs pl pu ?_);have hno: ¬((((sIx items.size 0 lo:Nat):Int)==0&&(1:Int)==1&&(sIx items.size items.size hi - sIx items.size 0 lo)==items.size)=true):=by intro q;rw[aE,aE]at q;have q1:(_:Int)=0:=eq_of_beq q.1.1;have q2:=eq_of_beq q.2;exact hw ⟨by omega,by omega⟩
 show wpAny _ _ (if _=true then _ else _) _ _ s;rw[iN hno,XM]
 first
  |exact wB (wpAny_newObj_type (wP ⟨_,rfl,wP h⟩) htake)
  |exact wB _
  |exact wB _
  |exact wB _
end
end HT
namespace L2
open PySem PySem.Spec PyProof.Rows
abbrev TO:=St->Hp->(Option Int->Hp->Prop)->Prop
def PO(X:Cx)(e:Option Expr)(t:TO):Prop:=
 ∀(pins:Tk)(s:Shared)(σ:St)(H:Hp)(Q:Option Int->Hp->Prop),Inv X pins σ H s->t σ H Q->
  wpAny (model X.prog X.w) X.A (evalPart e X.env) (λu s'=> ∃o H',Inv X pins σ H' s'/\IsPart u o/\Q o H') X.xe s
def Cs:TO:=λ_ H Q=>Q none H
def Qb(t:TE):TO:=λσ H Q=>t σ H λx H1=> ∃i,x=.int i/\Q (some i) H1
section
variable{X:Cx}{e:Expr}{te:TE}{lo hi:Option Expr}{tl th:TO}{pos p2:Pos}
def Ct:PO X none Cs:=by intro pins s σ H Q I h;exact wP ⟨none,H,I,.none,h⟩
def Cu(h:PE X e te):PO X (some e) (Qb te):=by intro pins s σ H Q I hw;refine wO (h pins s σ H _ I hw) λu s1 ⟨x,H1,I1,r1,q1⟩=>?_;obtain⟨i,rfl,q⟩:=q1;obtain⟨t,rfl⟩:=r1;exact⟨_,H1,I1,.int i t,q⟩
def SlR(X:Cx)(r:V->Option Int->Option Int->Hp->VK->Prop):Prop:=
 ∀(pins:Tk)(s:Shared)(σ:St)(H:Hp)(x:V)(v vl vu:Value)(lo hi:Ub)(sl:Addr)(Q:VK),Inv X pins σ H s->RelV x v->s.heap.IsSliceOf sl vl vu .none->IsPart vl lo->IsPart vu hi->r x lo hi H Q->
  ∃T id,typeLookup (.type T) "__getitem__"=pure (some (.builtin id))/\s.TypeIs v T/\wpAny (model X.prog X.w) X.A (getItem v (.ref sl)) (EP X pins σ Q) X.xe s
def SlR.or{r r':V->Option Int->Option Int->Hp->VK->Prop}(h:SlR X r)(h':SlR X r'):SlR X (λx lo hi H Q=>r x lo hi H Q\/r' x lo hi H Q):=by
 intro pins s σ H x v vl vu lo hi sl Q I rx hs pl pu q;rcases q with q|q
 .exact h pins s σ H x v vl vu lo hi sl Q I rx hs pl pu q
 .exact h' pins s σ H x v vl vu lo hi sl Q I rx hs pl pu q
def tSl(r:V->Option Int->Option Int->Hp->VK->Prop)(te:TE)(tl th:TO):TE:=λσ H Q=>te σ H λx H1=>tl σ H1 λl H2=>th σ H2 λu H3=>r x l u H3 Q
def XN{r:V->Option Int->Option Int->Hp->VK->Prop}(hr:SlR X r)(he:PE X e te)(hl:PO X lo tl)(hu:PO X hi th):PE X (.Subscript e (.Slice lo hi none p2) pos) (tSl r te tl th):=by intro pins s σ H Q I h;refine Subscript_ (wO (he pins s σ H _ I h) λv s1 ⟨x,H1,I1,r1,q1⟩=>?_);refine wpAny_Slice (wO (hl pins s1 σ H1 _ I1 q1) λvl s2 ⟨l,H2,I2,pl,q2⟩=>wO (hu pins s2 σ H2 _ I2 q2) λvu s3 ⟨u,H3,I3,pu,q3⟩=>?_);refine wP ?_;obtain⟨T,id,hT,ht,hg⟩:=hr pins {s3 with heap:=s3.heap.push {cls:=.type "slice",data:=.fields #[vl,vu,.none]}} σ H3 x v vl vu l u s3.heap.objs.size Q (I3.kept λb ob q=>hP0 _ q) r1 (Heap.IsSliceOf.new ..) pl pu q3;show wpAny _ X.A _ _ X.xe {s3 with heap:=s3.heap.push {cls:=.type "slice",data:=.fields #[vl,vu,.none]}};exact tail_any ht hT hg (by with_unfolding_all rfl)
def UN(xs:List V)(lo hi:Ub):List V:=(xs.drop (HT.sIx xs.length 0 lo)).take (HT.sIx xs.length xs.length hi - HT.sIx xs.length 0 lo)
theorem AC(xs:List V)(lo hi:Ub):(UN xs lo hi).length<=xs.length:=by
 unfold UN;rw[lT,List.length_drop]
 lia
def rSlT(K:Ud):V->Option Int->Option Int->Hp->VK->Prop:=λx lo hi H Q=> ∃a xs,x=.ref a/\SqT K H a xs/\
 ¬(HT.sIx xs.length 0 lo=0/\HT.sIx xs.length xs.length hi=xs.length)/\ ∀p,H p=none->Q (.ref p) (gH H p (.tup (UN xs lo hi)))
def Ks:SlR X (rSlT X.K):=by
 intro pins s σ H x v vl vu lo hi sl Q I rx hs pl pu h;obtain⟨a,xs,rfl,hx,hw,q⟩:=h;cases rx;obtain⟨its,r,ht,hz⟩:=I.tuple hx;have hlen:its.toArray.size=xs.length:=by rw[sA];exact r.length.symm
 refine⟨_,_,PyProof.Rows.slot_tuple_getitem.lookup,ht.typeIs,?_⟩;refine HT.getItem_tuple_cut ht hs pl pu (by rw[hlen];exact hw) ?_ (by rw[hlen];exact hz);rw[hlen];refine⟨.ref s.heap.objs.size,_,I.laid (λb ob q=>hP0 _ q) (Nat.le_refl _) ?_,rfl,q _ (I.hok.fresh (Nat.le_refl _))⟩;exact⟨Nat.le_trans (AC xs lo hi) hz,_,(r.drop _).take _,IsTup.new _ _⟩
def Qc(K:Ud):R2:=λx y H Q=> ∃a b xs ys,x=.ref a/\y=.ref b/\SqT K H a xs/\SqT K H b ys/\xs≠[]/\xs.length+ys.length<=sizeLine/\
 (ys=[]->Q (.ref a) H)/\(ys≠[]-> ∀p,H p=none->Q (.ref p) (gH H p (.tup (xs++ys))))
def Vals.nil_iff{xs:List V}{us:Td}(r:Vals xs us):us=[]↔xs=[]:=by
 cases r with
 |nil=>simp
 |cons _ _=>simp
def Cv:OpR X (binaryOp .Add) (Qc X.K):=by intro pins s σ H x y v u Q I rx ry h;obtain⟨a,b,xs,ys,rfl,rfl,ha,hb,hx,hz,q1,q2⟩:=h;cases rx;cases ry;obtain⟨its,r1,p1,_⟩:=I.tuple ha;obtain⟨its2,r2,p2,_⟩:=I.tuple hb;refine HT.cat_tup p1 p2 (λz=>hx (r1.nil_iff.mp z)) (λz=>⟨.ref a,H,I,rfl,q1 (r2.nil_iff.mp z)⟩) (λz=>?_) (by rw[<-r1.length, <-r2.length];exact hz);refine⟨.ref s.heap.objs.size,_,I.laid (λb ob q=>hP0 _ q) (Nat.le_refl _) ?_,rfl,q2 (λw=>z (r2.nil_iff.mpr w)) _ (I.hok.fresh (Nat.le_refl _))⟩;exact⟨by rw[lA];exact hz,_,r1.append r2,IsTup.new _ _⟩
end
def Bv(n:Nat)(i:Int):Option Nat:=if 0<=i then(if i<n then some i.toNat else none)else if -(n:Int)<=i then some (i+n).toNat else none
def tB{α:Type}(xs:List α)(i:Int):Option α:=(Bv xs.length i).bind λj=>xs[j]?
theorem Cw{n:Nat}{i:Int}{j:Nat}(h:Bv n i=some j):seqIndex? i n=some j/\j<n/\ -(n:Int)<=i/\i<n:=by
 unfold Bv at h;by_cases h0:0<=i
 .rw[iP h0]at h;by_cases h1:i<n
  .rw[iP h1]at h;exact⟨by rw[seqIndex_of h0 h1,(Option.some.inj h)],by lia,by lia,h1⟩
  .rw[iN h1]at h;cases h
 .rw[iN h0]at h;by_cases h1: -(n:Int)<=i
  .rw[iP h1]at h;exact⟨by rw[seqIndex_neg (by lia) h1,(Option.some.inj h)],by lia,h1,by lia⟩
  .rw[iN h1]at h;cases h
def IF{α:Type}{xs:List α}{i:Int}{v:α}(h:tB xs i=some v): ∃j,seqIndex? i xs.length=some j/\xs[j]? =some v/\j<xs.length/\ -(xs.length:Int)<=i/\i<xs.length:=by
 unfold tB at h
 cases e:Bv xs.length i with
 |none=>rw[e]at h;cases h
 |some j=>
  rw[e]at h;obtain⟨h1,h2,h3,h4⟩:=Cw e;exact⟨j,h1,h,h2,h3,h4⟩
def IG(b:Expr):Prop:= ∀o i,subscripted b false o i=operate [o,i] (getItem o i)
def IxR(X:Cx)(r:R2):Prop:=
 ∀(value slice:Expr)(pins:Tk)(s:Shared)(σ:St)(H:Hp)(x y:V)(v u:Value)(Q:VK),Inv X pins σ H s->RelV x v->RelV y u->r x y H Q->
  subscripted slice false v u=operate [v,u] (getItem v u)->wpAny (model X.prog X.w) X.A (subscriptTail value slice v u) (EP X pins σ Q) X.xe s
def Hx(X:Cx)(id:String)(r:V->List V->Hp->VK->Prop):Prop:=
 ∀(pins:Tk)(s:Shared)(σ:St)(H:Hp)(x:V)(xs:List V)(v:Value)(us:Td)(Q:VK),Inv X pins σ H s->RelV x v->Vals xs us->r x xs H Q->
  wpAny (model X.prog X.w) X.A (call (.builtin id) (v::us)) (EP X pins σ Q) X.xe s
section
variable{X:Cx}{a b:Expr}{ta tb:TE}{pos:Pos}
def IxR.or{r r':R2}(h:IxR X r)(h':IxR X r'):IxR X (λx y H Q=>r x y H Q\/r' x y H Q):=by
 intro value slice pins s σ H x y v u Q I rx ry q hs;rcases q with q|q
 .exact h value slice pins s σ H x y v u Q I rx ry q hs
 .exact h' value slice pins s σ H x y v u Q I rx ry q hs
def Qd{r:R2}(hr:IxR X r)(ha:PE X a ta)(hb:PE X b tb)(hs:IG b):PE X (.Subscript a b pos) (So r ta tb):=by intro pins s σ H Q I h;exact Subscript_ (Kj ha hb I h λv u s2 x y H2 I2 rx ry q=>hr a b pins s2 σ H2 x y v u Q I2 rx ry q (hs _ _))
def Qe(K:Ud):R2:=λx y H Q=> ∃p xs i v,x=.ref p/\y=.int i/\SqL K H p xs/\tB xs i=some v/\Q v H
def Qf(K:Ud):R2:=λx y H Q=> ∃p xs i v,x=.ref p/\y=.int i/\SqT K H p xs/\tB xs i=some v/\Q v H
def Qg:R2:=λx y H Q=> ∃z i c,x=.str z/\y=.int i/\z.length<=sizeLine/\tB z.cps.toList i=some c/\Q (.str ⟨#[c]⟩) H
theorem Cy:IxR X (Qe X.K):=by
 intro value slice pins s σ H x y v u Q I rx ry h hs;obtain⟨p,xs,i,z,rfl,rfl,hq,he,q⟩:=h;cases rx;obtain⟨t,rfl⟩:=ry;obtain⟨its,r,pl,hz⟩:=I.list hq;obtain⟨j,h1,h2,h3,h4,h5⟩:=IF he;obtain⟨w,ew,rw'⟩:=r.get h2;have hl:=r.length;have hn:=CV;have fin:EP X pins σ Q w s:=⟨z,H,I,rw',q⟩
 by_cases h0:0<=i
 .have hj:=by rw[seqIndex_of h0 h5]at h1;exact Option.some.inj h1
  exact item_listR pl.isList h0 (by lia) (by rw[hj];simpa using ew) fin hs
 .have hj:(i+(its.toArray.size:Int)).toNat=j:=by rw[seqIndex_neg (by lia) h4]at h1;rw[sA, <-hl];exact Option.some.inj h1
  exact subscriptTail_builtinR pl.isList.typeIs slot_list_getitem.lookup
   (wpAny_getItem_list_neg pl.isList (by lia) (by rw[sA]<;>lia) (by lia) (by rw[hj];simpa using ew) ⟨rfl,fin⟩) hs
theorem ix_tup:IxR X (Qf X.K):=by
 intro value slice pins s σ H x y v u Q I rx ry h hs;obtain⟨p,xs,i,z,rfl,rfl,hq,he,q⟩:=h;cases rx;obtain⟨t,rfl⟩:=ry;obtain⟨its,r,pl,hz⟩:=I.tuple hq;obtain⟨j,h1,h2,h3,h4,h5⟩:=IF he;obtain⟨w,ew,rw'⟩:=r.get h2;have hn:=CV
 exact subscriptTail_builtinR pl.typeIs slot_tuple_getitem.lookup
  (getItem_tuple pl (by lia) (by lia) (by rw[sA, <-(r.length)];exact h1) (by simpa using ew) ⟨rfl,(⟨z,H,I,rw',q⟩)⟩) hs
theorem ix_str:IxR X Qg:=by
 intro value slice pins s σ H x y v u Q I rx ry h hs;obtain⟨z,i,c,rfl,rfl,hz,he,q⟩:=h;obtain⟨t,rfl⟩:=rx;obtain⟨t',rfl⟩:=ry;obtain⟨j,h1,h2,h3,h4,h5⟩:=IF he;have hl:z.cps.toList.length=z.length:=by simp[Str.length]
 rw[hl]at h1 h4 h5;have hn:=CV;exact tail_any (typeIs_str s z t) slot_str_getitem.lookup (getItem_str (by rw[(dF0 (by lia)),(dF0 (by lia)),Bool.or_false]) (by rw[h1];simpa using h2) ⟨.str ⟨#[c]⟩,H,I.tok _,⟨_,rfl⟩,q⟩) hs
def rIx(K:Ud):R2:=λx y H Q=>Qe K x y H Q\/Qf K x y H Q\/Qg x y H Q
def Kt:IxR X (rIx X.K):=Cy.or (ix_tup.or ix_str)
def Inv.lst{pins:Tk}{σ:St}{H:Hp}{s:Shared}{p:Addr}{xs:List V}(I:Inv X pins σ H s)(h:H p=some (.lst xs)):
  ∃(its:Td)(n:Nat),Vals xs its/\s.heap.get? p=some {cls:=.type "list",data:=.seq its.toArray n}/\xs.length<=sizeLine:=by
 obtain⟨z,its,n,r,e⟩:=I.hok p _ h;exact⟨its,n,r,e,z⟩
theorem IH(lo hi:Ub)(n:Nat):(sliceBounds lo hi none n).1=((HT.sIx n 0 lo:Nat):Int)/\(sliceBounds lo hi none n).2.1=((HT.sIx n n hi:Nat):Int)/\(sliceBounds lo hi none n).2.2=1:=by
 refine⟨?_,?_,rfl⟩
 .cases lo with
  |none=>simp[sliceBounds,HT.sIx]
  |some i=>
   simp only[sliceBounds,HT.sIx,Option.getD_none,if_true];by_cases h:i<0
   .simp only[h,if_true]<;>lia
   .simp only[h,iF]<;>lia
 .cases hi with
  |none=>simp[sliceBounds,HT.sIx]
  |some i=>
   simp only[sliceBounds,HT.sIx,Option.getD_none,if_true];by_cases h:i<0
   .simp only[h,if_true]<;>lia
   .simp only[h,iF]<;>lia
theorem FW(its:Td)(lo hi:Ub):slicePick its.toArray lo hi none=((its.drop (HT.sIx its.length 0 lo)).take (HT.sIx its.length its.length hi - HT.sIx its.length 0 lo)).toArray:=by obtain⟨h1,h2,h3⟩:=IH lo hi its.toArray.size;unfold slicePick;rw[h1,h2,h3];simp only[sliceRange_one,pick_run]<;>rfl
def rSlL(K:Ud):V->Option Int->Option Int->Hp->VK->Prop:=λx lo hi H Q=> ∃a xs,x=.ref a/\SqL K H a xs/\ ∀p,H p=none->Q (.ref p) (gH H p (.lst (UN xs lo hi)))
theorem Cz:SlR X (rSlL X.K):=by intro pins s σ H x v vl vu lo hi sl Q I rx hs pl pu h;obtain⟨a,xs,rfl,hx,q⟩:=h;cases rx;obtain⟨its,r,ht,hz⟩:=I.list hx;have hlen:=r.length;refine⟨_,_,slot_list_getitem.lookup,ht.isList.typeIs,?_⟩;refine wpAny_getItem_list_slice ht.isList hs pl pu .none (by simp) ?_ (by rw[sA]<;>lia);rw[FW, <-hlen];refine⟨.ref s.heap.objs.size,_,I.laid (λb ob q=>hP0 _ q) (Nat.le_refl _) ?_,rfl,q _ (I.hok.fresh (Nat.le_refl _))⟩;exact⟨Nat.le_trans (AC xs lo hi) hz,_,0,(r.drop _).take _,Heap.get?_push_size _ rfl⟩
def iK:V->Bool
 |.non=>true
 |.bl _=>true
 |.int _=>true
 |.str _=>true
 |_=>false
def Da:V->V->Bool
 |.non,.non=>true
 |.bl a,.bl b=>a==b
 |.bl a,.int b=>(if a then 1 else 0)==b
 |.int a,.bl b=>a==(if b then 1 else 0)
 |.int a,.int b=>a==b
 |.str a,.str b=>a==b
 |_,_=>false
def Ku{A:Around}{s:Shared}{y x:V}{u v:Value}(ry:RelV y u)(rx:RelV x v)(fy:iK y=true)(fx:iK x=true):SeqAt.EqAt A s u v (Da y x):=by
 cases y with
 |non=>
  cases ry
  cases x with
  |non=>cases rx;exact SeqAt.EqAt.same _
  |bl b=>cases rx;exact SeqAt.EqAt.none_bool b
  |int b=>obtain⟨t,rfl⟩:=rx;exact SeqAt.EqAt.none_int b t
  |str b=>obtain⟨t,rfl⟩:=rx;exact SeqAt.EqAt.none_str b t
  |_=>exact absurd fx xF0
 |bl a=>
  cases ry
  cases x with
  |non=>cases rx;exact SeqAt.EqAt.bool_none a
  |bl b=>cases rx;exact SeqAt.EqAt.bool_bool a b
  |int b=>obtain⟨t,rfl⟩:=rx;exact SeqAt.EqAt.bool_int a b t
  |str b=>obtain⟨t,rfl⟩:=rx;exact SeqAt.EqAt.bool_str a b t
  |_=>exact absurd fx xF0
 |int a=>
  obtain⟨t',rfl⟩:=ry
  cases x with
  |non=>cases rx;exact SeqAt.EqAt.int_none a t'
  |bl b=>cases rx;exact SeqAt.EqAt.int_bool a t' b
  |int b=>obtain⟨t,rfl⟩:=rx;exact SeqAt.EqAt.int_int a t' b t
  |str b=>obtain⟨t,rfl⟩:=rx;exact SeqAt.EqAt.int_str a t' b t
  |_=>exact absurd fx xF0
 |str a=>
  obtain⟨t',rfl⟩:=ry
  cases x with
  |non=>cases rx;exact SeqAt.EqAt.str_none a t'
  |bl b=>cases rx;exact SeqAt.EqAt.str_bool a t' b
  |int b=>obtain⟨t,rfl⟩:=rx;exact SeqAt.EqAt.str_int a t' b t
  |str b=>obtain⟨t,rfl⟩:=rx;exact SeqAt.EqAt.str_str a t' b t
  |_=>exact absurd fx xF0
 |_=>exact absurd fy xF0
theorem II:CallR X (.builtin "len") (λxs H Q=> ∃p ys,xs=[.ref p]/\(SqL X.K H p ys\/SqT X.K H p ys)/\Q (.int ys.length) H):=by
 intro pins s σ H xs us Q I r h;obtain⟨p,ys,rfl,hq,q⟩:=h;obtain⟨u,rfl,rx⟩:=vals1 r;cases rx;have hn:=CV;rcases hq with hq|hq
 .obtain⟨its,r',pl,hz⟩:=I.list hq;have hlen:=r'.length;exact Calls.call_len_list pl.isList (by simp only[sA]<;>lia) ⟨.int ys.length,H,I.tok _,⟨_,by rw[sA,hlen]⟩,q⟩
 .obtain⟨its,r',pl,hz⟩:=I.tuple hq;have hlen:=r'.length;exact len_tuple pl (by simp only[sA]<;>lia) ⟨.int ys.length,H,I.tok _,⟨_,by rw[sA,hlen]⟩,q⟩
theorem IK:CallR X (.builtin "len") (λxs H Q=> ∃z,xs=[.str z]/\z.length<=sizeLine/\Q (.int z.length) H):=by intro pins s σ H xs us Q I r h;obtain⟨z,rfl,hz,q⟩:=h;obtain⟨u,rfl,t,rfl⟩:=vals1 r;have hn:=CV;exact len_str (by lia) ⟨.int z.length,H,I.tok _,⟨_,rfl⟩,q⟩
def CallR.or{f:Value}{r r':List V->Hp->VK->Prop}(h:CallR X f r)(h':CallR X f r'):CallR X f (λxs H Q=>r xs H Q\/r' xs H Q):=by
 intro pins s σ H xs us Q I rs q;rcases q with q|q
 .exact h pins s σ H xs us Q I rs q
 .exact h' pins s σ H xs us Q I rs q
theorem IL:CallR X (.type "list") (λxs H Q=> ∃p ys,xs=[.ref p]/\(SqL X.K H p ys\/SqT X.K H p ys)/\ ∀l,H l=none->Q (.ref l) (gH H l (.lst ys))):=by
 intro pins s σ H xs us Q I r h;obtain⟨p,ys,rfl,hq,q⟩:=h;obtain⟨u,rfl,rx⟩:=vals1 r;cases rx
 have fin: ∀(its:Td),Vals ys its->ys.length<=sizeLine-> ∀(h':Heap)(c':Nat),_->
   h'.get? s.heap.objs.size=some {cls:=.type "list",dict:=none,data:=.seq its.toArray c',slots:=#[]}->EP X pins σ Q _ {s with heap:=h'}:=λits r' hz h' c' kp e=>
  ⟨.ref s.heap.objs.size,_,I.laid kp (Nat.le_refl _) (show ObjOk X.prog X.w _ h' _ (.lst ys)from⟨hz,its,c',r',e⟩),rfl,q _ (I.hok.fresh (Nat.le_refl _))⟩
 rcases hq with hq|hq
 .obtain⟨its,r',pl,hz⟩:=I.list hq;have hlen:=r'.length;obtain⟨o,ho,hc,n,hd⟩:=pl.isList;exact call_list_seq p (.inl rfl) ho hc hd (λh' c' kp e=>fin its r' hz h' c' kp e) (by simp only[sA]<;>lia)
 .obtain⟨its,r',pl,hz⟩:=I.tuple hq;have hlen:=r'.length;obtain⟨o,ho,hc,n,hd⟩:=pl;exact call_list_seq p (.inr rfl) ho hc hd (λh' c' kp e=>fin its r' hz h' c' kp e) (by simp only[sA]<;>lia)
theorem cP:CallR X (.type "tuple") (λxs H Q=> ∃p ys,xs=[.ref p]/\((SqL X.K H p ys/\ ∀l,H l=none->Q (.ref l) (gH H l (.tup ys)))\/(SqT X.K H p ys/\Q (.ref p) H))):=by
 intro pins s σ H xs us Q I r h;obtain⟨p,ys,rfl,h⟩:=h;obtain⟨u,rfl,rx⟩:=vals1 r;cases rx;rcases h with⟨hq,q⟩|⟨hq,q⟩
 .obtain⟨its,r',pl,hz⟩:=I.list hq;have hlen:=r'.length;refine call_tuple_list pl.isList (λh' kp=>?_) (by simp only[sA]<;>lia);have I1:Inv X pins σ H {s with heap:=h'}:=I.kept kp
  have I2:Inv X pins σ (gH H h'.objs.size (.tup ys)) {s with heap:=h'.push {cls:=.type "tuple",data:=.seq its.toArray}}:=
   I1.laid (λb o e=>hP0 _ e) (Nat.le_refl _) (⟨hz,its,r',IsTup.new _ _⟩)
  exact⟨.ref h'.objs.size,_,I2,rfl,q _ (I1.hok.fresh (Nat.le_refl _))⟩
 .obtain⟨its,r',pl,hz⟩:=I.tuple hq;exact call_tuple_same pl ⟨.ref p,H,I,rfl,q⟩
def tyV(K:Ud)(T:String)(x:V)(H:Hp):Prop:=match x with
 |.str _=>T="str"
 |.int _=>T="int"
 |.ref p=>(T="list"/\ ∃xs,SqL K H p xs)\/(T="tuple"/\ ∃o,K.lookup p=some o/\o.cls=.type "tuple"/\o.dict=none)\/
   (T="dict"/\((∃kvs,H p=some (.dK kvs))\/ ∃kvs,H p=some (.dT kvs)))\/(T="set"/\ ∃S n,H p=some (.set S n))
 |_=>False
def Kv{pins:Tk}{σ:St}{H:Hp}{s:Shared}{T:String}{x:V}{v:Value}(I:Inv X pins σ H s)(r:RelV x v)(ty:tyV X.K T x H):
  s.TypeIs v T/\ ∀a,v=.ref a-> ∃ob,s.heap.get? a=some ob/\ob.dict=none:=by
 cases x with
 |str z=>
  obtain⟨t,rfl⟩:=r;cases ty;exact⟨typeIs_str s z t,λ_ e=>nomatch e⟩
 |int i=>
  obtain⟨t,rfl⟩:=r;cases ty;exact⟨typeIs_int s i t,λ_ e=>nomatch e⟩
 |ref p=>
  cases r;rcases ty with⟨rfl,xs,hq⟩|⟨rfl,o,hk,hc,hd⟩|⟨rfl,hk⟩|⟨rfl,S,n,hk⟩
  .obtain⟨its,_,pl,_⟩:=I.list hq;refine⟨pl.isList.typeIs,λa e=>?_⟩;cases e;obtain⟨o,n,e,c,hd,_⟩:=pl;exact⟨o,e,hd⟩
  .refine⟨⟨o,I.kIn p o hk,hc⟩,λa e=>?_⟩;cases e;exact⟨o,I.kIn _ o hk,hd⟩
  .have z: ∃o,s.heap.get? p=some o/\o.ExactDict:=by
    rcases hk with⟨kvs,hk⟩|⟨kvs,hk⟩
    .obtain⟨_,_,_,_,o,_,_,e,ex,_⟩:=I.hok p _ hk;exact⟨o,e,ex⟩
    .obtain⟨_,_,_,_,o,_,_,e,ex,_⟩:=I.hok p _ hk;exact⟨o,e,ex⟩
   obtain⟨o,e,ex⟩:=z;refine⟨⟨o,e,ex.1⟩,λa e2=>?_⟩;cases e2;exact⟨o,e,ex.2.1⟩
  .obtain⟨o,_,_,_,e,ex,_⟩:=I.hok p _ hk;refine⟨⟨o,e,ex.1⟩,λa e2=>?_⟩;cases e2;exact⟨o,e,ex.2.1⟩
 |_=>exact False.elim ty
def tBM(K:Ud)(T:String)(r:V->List V->Hp->VK->Prop)(to:TE)(t:TA):TE:=λσ H Q=>to σ H λx H1=>tyV K T x H1/\t σ H1 λxs H2=>r x xs H2 Q
variable{o e:Expr}{es:Uc}{to:TE}{t:TA}{name:Str}{apos cpos:Pos}{T id:String}{r:V->List V->Hp->VK->Prop}
def Qh(pa:PlainAttrs T)(slot:Slot T name id)(hty:typeOf (.builtin id)=pure (.type "method_descriptor"))(hm:Hx X id r)(ho:PE X o to)(ha:PA X (e::es) t)
  (hbase:attributeBase o name X.env (eval o X.env)=eval o X.env:=by rfl)
  (hfew:((backTo cpos (starEach (e::es) X.env)).all (λx=>!x.1)&&(backToKw cpos (keywordEach [] X.env)).all (λx=>x.1.isSome)
   &&decide ((e::es).length+([]:List Keyword).length+(if([]:List Keyword).isEmpty then 0 else 1)<30))=true:=by rfl)
  (hline:(apos.endLine==cpos.line)=true:=by rfl) (hs:starEach (e::es) X.env=(false,eval e X.env)::starEach es X.env:=by rfl) (hplain:(backTo cpos (starEach es X.env)).any (·.1)=false:=by rfl):
  PE X (.Call (.Attribute o name apos) (e::es) [] cpos) (tBM X.K T r to t):=by
 intro pins s σ H Q I h;refine wpAny_Call_method_late hbase hfew hline rfl (wO (ho pins s σ H _ I h) λv s1 ⟨x,H1,I1,r1,ty,q1⟩=>?_);obtain⟨h1,h2⟩:=Kv I1 r1 ty;refine⟨T,id,pa,slot,hty,h1,h2,?_⟩;have hA:=ha cpos pins s1 σ H1 _ I1 q1;rw[hs]at hA ⊢;refine Calls.callWith_builtin (by show(false || (backTo cpos _).any (·.1))=false;rw[hplain]<;>rfl) (Calls.evalArgs_plain ?_);exact wO hA λus s2 ⟨vs,H2,I2,r2,q2⟩=>hm pins s2 σ H2 x vs v us Q I2 r1 r2 q2
end
def MtM(X:Cx)(id:String)(r:V->List V->Hp->VK->Prop):Prop:=
 ∀(pins:Tk)(s:Shared)(σ:St)(H:Hp)(x:V)(xs:List V)(v:Value)(us:Td)(Q:VK),Inv X pins σ H s->RelV x v->Vals xs us->r x xs H Q->
  wpAny (model X.prog X.w) X.A (call (.builtin id) (v::us)) (EP X pins σ Q) X.xe s
def Vals.one: ∀{x:V}{us:Td},Vals [x] us-> ∃u,us=[u]/\RelV x u
 |_,_,.cons r .nil=>⟨_,rfl,r⟩
theorem Vals.zero: ∀{us:Td},Vals [] us->us=[]
 |_,.nil=>rfl
def Vals.reverse{xs:List V}{us:Td}(h:Vals xs us):Vals xs.reverse us.reverse:=by
 induction h with
 |nil=>exact .nil
 |cons r t ih=>rw[reverse_cons,reverse_cons];exact Vals.append ih (.cons r .nil)
theorem Vals.rep{xs:List V}{us:Td}(h:Vals xs us): ∀k:Nat,Vals (List.replicate k xs).flatten (List.replicate k us).flatten
 |0=>.nil
 |k+1=>by exact Vals.append h (Vals.rep h k)
theorem foldl_rep(its:Td): ∀(k:Nat)(acc:Td),
  List.foldl (λx1 x2=>x1++x2) acc.toArray (List.replicate k its.toArray)=(acc++(List.replicate k its).flatten).toArray
 |0,acc=>by simp
 |k+1,acc=>by
  have e:acc.toArray++its.toArray=(acc++its).toArray:=by simp
  have e2:(acc++its)++(List.replicate k its).flatten=acc++(List.replicate (k+1) its).flatten:=by rw[replicate_succ,flatten_cons,aA]
  rw[<-e2, <-foldl_rep its k _, <-e,replicate_succ,List.foldl_cons]
section
variable{X:Cx}{pins:Tk}{σ:St}{H:Hp}{s:Shared}{l:Addr}{xs ys:List V}
def Inv.lset{its its':Td}{n:Nat}{f:Array Value->Array Value}{t':Nat}(I:Inv X pins σ H s)(hH:H l=some (.lst xs))
  (e:s.heap.get? l=some {cls:=.type "list",data:=.seq its.toArray n}) (hf:f its.toArray=its'.toArray) (hv:Vals ys its') (hz:ys.length<=sizeLine):
  Inv X pins σ (gH H l (.lst ys)) {s with heap:=s.heap.update l (Obj.mapSeq f),toks:=t'}:=by
 have q:=PySem.IsL.update e f;rw[hf]at q;refine I.write (by rw[hH];exact trivial) (.inl rfl) (λb' u hb hu=>(Heap.get?_update_other s.heap _ (Ne.symm hb)).trans hu) ⟨_,q⟩ ?_;exact⟨hz,its',_,hv,q⟩
def Inv.lnew{its:Td}{t':Nat}(I:Inv X pins σ H s)(hv:Vals ys its)(hz:ys.length<=sizeLine):
  Inv X pins σ (gH H s.heap.objs.size (.lst ys)) {s with heap:=s.heap.push {cls:=.type "list",data:=.seq its.toArray},toks:=t'}:=
 I.laid (λ_ _ q=>hP0 _ q) (Nat.le_refl _) ⟨hz,its,0,hv,Heap.get?_push_size _ rfl⟩
def Inv.fresh(I:Inv X pins σ H s):H s.heap.objs.size=none:=I.hok.fresh (Nat.le_refl _)
def Inv.lstM(I:Inv X pins σ H s)(hH:H l=some (.lst xs)):xs.length<=sizeLine/\ ∃(its:Td)(n:Nat),Vals xs its/\xs.length=its.length/\s.heap.get? l=some {cls:=.type "list",data:=.seq its.toArray n}:=by obtain⟨z,its,n,r,e⟩:=I.hok l _ hH;exact⟨z,its,n,r,r.length,e⟩
theorem XO{n:Nat}(h:n<=sizeLine):Builtin.List.listTooLong n=false:=by exact dF0 (by lia)
end
section
variable{X:Cx}
def RI:V->List V->Hp->VK->Prop:=λx vs H Q=> ∃l xs y,x=.ref l/\vs=[y]/\H l=some (.lst xs)/\xs.length<sizeLine/\Q .non (gH H l (.lst (xs++[y])))
theorem UO:MtM X "list.append" RI:=by
 intro pins s σ H x vs v us Q I rx rv h;obtain⟨l,xs,y,rfl,rfl,hH,hz,q⟩:=h;cases rx;obtain⟨u,rfl,ru⟩:=rv.one;obtain⟨z,its,n,r,hl,e⟩:=I.lstM hH;refine call_meets F.slot_list_append ⟨_,e,rfl⟩ F.entry_list_append (F.args_list_append_2 _ _) (PySem.list_append l its.toArray n u (by rw[sA];lia)) ⟨e,?_⟩;refine⟨.non,_,I.lset hH e (by simp) (r.append (.cons ru .nil)) ?_,rfl,q⟩;rw[lA,lS]
 lia
def rCat:R2:=λx y H Q=> ∃l b xs zs,x=.ref l/\y=.ref b/\H l=some (.lst xs)/\H b=some (.lst zs)/\xs.length+zs.length<=sizeLine/\ ∀p,H p=none->Q (.ref p) (gH H p (.lst (xs++zs)))
theorem Kw:OpR X (binaryOp .Add) rCat:=by
 intro pins s σ H x y v u Q I rx ry h;obtain⟨l,b,xs,zs,rfl,rfl,hH,hB,hz,q⟩:=h;cases rx;cases ry;obtain⟨z,its,n,r,hl,e⟩:=I.lstM hH;obtain⟨z2,its2,n2,r2,hl2,e2⟩:=I.lstM hB;refine PySem.P.add_list e e2 ?_ (by rw[sA,sA];lia);have ea:its.toArray++its2.toArray=(its++its2).toArray:=by simp
 rw[ea];exact⟨.ref _,_,I.lnew (r.append r2) (by rw[lA];lia),rfl,q _ I.fresh⟩
def rRep:R2:=λx y H Q=> ∃l k xs,x=.ref l/\y=.int k/\H l=some (.lst xs)/\ -(2 ^ 63)<=k/\k<2 ^ 63/\xs.length * k.toNat<=sizeLine/\
 ∀p,H p=none->Q (.ref p) (gH H p (.lst (List.replicate k.toNat xs).flatten))
def len_rep{α:Type}(xs:List α)(k:Nat):(List.replicate k xs).flatten.length=k * xs.length:=by
 induction k with
 |zero=>simp
 |succ k ih=>rw[replicate_succ,flatten_cons,lA,ih,Nat.succ_mul,add_comm]
theorem Ky:OpR X (binaryOp .Mult) rRep:=by
 intro pins s σ H x y v u Q I rx ry h;obtain⟨l,k,xs,rfl,rfl,hH,h1,h2,hz,q⟩:=h;cases rx;obtain⟨t,rfl⟩:=ry;obtain⟨z,its,n,r,hl,e⟩:=I.lstM hH;have hlen:its.toArray.size * k.toNat<=sizeLine:=by rw[sA, <-hl];exact hz
 have hcap: ¬its.toArray.size * k.toNat>(2 ^ 63 - 1) / 8:=by
  have:(sizeLine:Nat)<=(2 ^ 63 - 1) / 8:=by decide
  lia
 have hfit: ¬(!Builtin.List.listFitsIndex k)=true:=by rw[fitsIndex_both h1 h2];exact xF0
 have hlong: ¬Builtin.List.listTooLong (its.toArray.size * k.toNat)=true:=by rw[XO hlen];exact xF0
 have hnew:List.foldl (λx1 x2=>x1++x2) #[] (List.replicate (if its.toArray.isEmpty=true then 0 else k.toNat) its.toArray)=(List.replicate k.toNat its).flatten.toArray:=by
  have f0: ∀m:Nat,List.foldl (λx1 x2=>x1++x2) #[] _=(List.replicate m its).flatten.toArray:=λm=>by have:=foldl_rep its m [];exact this
  rw[f0]
  cases its with
  |nil=>simp
  |cons a r'=>rw[iN (by simp)]
 refine wpAny_binaryOp_repeat_ref (by decide) ⟨_,e,rfl⟩ (λs'=>typeIs_int s' k t) noFill_list_mul F.fills_int_mul F.slot_int_rmul repeat_list F.slot_int_index.lookup
  (call_meets F.slot_int_rmul (typeIs_int s k t) F.entry_int_rmul (F.args_int_rmul_2 _ _) (int___rmul___int_list k t l its.toArray n)
   ⟨e,rfl,⟨_,e,rfl⟩,call_meets F.slot_list_mul ⟨_,e,rfl⟩ F.entry_list_mul (F.args_list_mul_2 _ _) (AutoListH.list___mul___list_int_3 l its.toArray n k t hfit hcap hlong) ⟨e,?_⟩⟩)
 rw[hnew];exact⟨.ref _,_,I.lnew (r.rep k.toNat) (by rw[len_rep,Nat.mul_comm];exact hz),rfl,q _ I.fresh⟩
end
end L2
namespace Att
open PySem PySem.W PySem.Calls PyProof.Rows
def AW{P:Params}{h:Heap}: ∀(ns:Tc)(vs:Td),WellAll P h vs (ns.map WData.int)->IntsAre vs ns:=by
 intro ns
 induction ns with
 |nil=>
  intro vs w;cases w;exact .nil
 |cons n ns ih=>
  intro vs w
  cases w with
  |cons a b=>
   cases a;exact .cons _ _ (ih _ b)
theorem UP{l:OpenLaw}{n:Nat}(hn:l.most=some n){P:Params}{h:Heap}{args:List WData}{vals:Td}
  (hpre:l.row.toRowW.claim.pre args=true) (hwl:WellAll P h vals args):
  ∃a vs ns,vals=[Value.ref a]/\args=[WData.list (ns.map WData.int)]/\h.get? a=some {cls:=.type "list",data:=.seq vs.toArray}/\IntsAre vs ns/\ns.length<=n:=by
 have hsh:=(pre_splitW hpre).1;have hc:l.pre.holds [] {args:=args}=true:=(pre_splitW hpre).2;obtain⟨d,r,rfl,h1,h2⟩:=hasAllW_cons hsh;obtain rfl:=hasAllW_nil h2;obtain⟨xs,rfl,h3⟩:=hasW_list h1;obtain⟨ns,rfl⟩:=items_int h3
 have hlen:ns.length<=n:=by
  have h4:=by have h4:=(holds_andW hc).1;rw[hn]at h4;exact h4
  have h5:=condW_of h4 (w_not (w_lt w_lit (w_len_list (w_arg rfl))));refine Nat.le_of_not_lt λq=>?_;have q':=by omega
  first
   |(rw[dT0 q']at h5;exact absurd h5 (by decide))
   |(simp at h5;lia)
 cases hwl with
 |cons w1 w2=>
  cases w2
  cases w1 with
  |list ho hall=>exact⟨_,_,ns,rfl,rfl,ho,AW ns _ hall,hlen⟩
theorem UQ(l:OpenLaw)(args:List WData):l.row.toRowW.claim.post args (.bool true) args=true:=
 postW_of
  (by first |rfl|decide|simp[WShape.has,WShape.arms,WShape.armsAll])
  (w_eq_bool (w_res rfl) w_lit) rfl
def attach_call{l:OpenLaw}{n:Nat}{q:Program}{loose:Th}{XP:(Str->Option Value)->Heap->Prop}{YP:World->Heap->Prop}{d:DefRec}
  (hn:l.most=some n) (hdf:d.params.defaults=[])
  (call: ∀(w:World)(s₀ s₁:Shared)(mg mb:Ti)(fa:Addr)(o:Obj)(pm cd doc:Value)(a:Addr)(vs:Td)(ns:Tc),
   Ground q loose [] XP w s₀ mg mb s₁.heap->YP w s₁.heap->
   s₁.heap.get? fa=some o->o.data=.func (docDef d.name d.params d.body d.scope pm cd doc)->s₁.heap.CodeRec cd d.name->mg d.name=some (.ref fa)->
   s₁.heap.get? a=some {cls:=.type "list",data:=.seq vs.toArray}->IntsAre vs ns->ns.length<=n->s₁.gens=#[]->
   codeAny (model l.prog w) callerA (.call (.ref fa) ⟨[.ref a],[]⟩) (λr s'=>r=.ok (.ret (.bool true))/\OldK s₁.heap s'.heap/\s'.os=s₁.os/\AllBare s'.gens) s₁):
  WalkO q loose XP YP l.row.toRowW d [] (λf vs=>PySem.call f vs):=by
 intro w s₀ s₁ mg mb G Y fa o pm cd doc dV kV ho hd hcd hD hmg hg args vals as hpre hlay hrd hwl hlo;obtain rfl:dV=.none:=Dflts.none hD hdf;obtain rfl:kV=.none:=Dflts.noKw hD;obtain⟨a,vs,ns,rfl,rfl,hobj,hints,hlen⟩:=UP hn hpre hwl;refine enter_call (codeAny_mono (call w s₀ s₁ mg mb fa o pm cd doc a vs ns G Y ho (fd_plain hd) hcd hmg hobj hints hlen hg) λr s' hq=>?_);obtain⟨rfl,h2,h3,h4⟩:=hq;exact⟨.inl ⟨_,_,[],rfl,λ_=>rfl,.bool true,UQ l _,λ_=>⟨List.Pairwise.nil,λ_ hm=>(nomatch hm)⟩⟩,h2,h3,h4⟩
end Att
namespace L2
open PySem PySem.Spec PyProof.Rows
def UR: ∀{vs:Td}{ns:Tc},IntsAre vs ns->Vals (ns.map V.int) vs:=λhh=>by
 induction hh with
 |nil=>exact .nil
 |cons n t h ih=>exact .cons ⟨t,rfl⟩ (ih)
def Dc(H:Hp):Prop:= ∀b,H b=none\/(∃o xs,H b=some (.frz o (.lst xs)))\/ ∃ps,H b=some (.tbl ps)
theorem XQ{P:Program}{w:World}{K:Ud}{mg mb:Ti}{CX:OS}{k:Nat}{fa a:Addr}{fd:FuncData}{x:Str}{sp:Sp}{s₁:Shared}{vs:Td}{ns:Tc}
  (KX:K.In s₁.heap) (hns:s₁.heap.Ns mainGlobals mg) (hb:s₁.heap.Ns builtinsNs mb) (hbb: ∀x:Str,x≠"__name__"->mb x=bootBuiltins x) (hlim:s₁.heap.NoLimit) (hg:s₁.gens=#[])
  (ha:s₁.heap.get? a=some {cls:=.type "list",data:=.seq vs.toArray}) (hi:IntsAre vs ns) (hl:ns.length<=sizeLine) (hr:Room k callerA)
  (F: ∀base:Heap,K.In base->base.Ns mainGlobals mg->FnOk P w K mg base CX k fa fd [x] sp) (hbind: ∀(s:Shared)(u:Value),BindsTo s fd ⟨[u],[]⟩ [(x,u)])
  (hsp: ∀H:Hp,Dc H->SqL K H a (ns.map V.int)->sp [.ref a] H (λv _=>v=.bl true) λ_ _ _=>False)
  (hCX: ∀H e s',CX [] H s₁ (λ_ _ _=>False) e s'->False) (hT: ∀b ps,tabAt P K b=some ps->K.lookup b=none/\s₁.heap.get? b=some {cls:=.none,data:=.fields #[]}/\isCodeTable s₁.heap b)
  (hcd: ∀e∈fO P, ∀c b,PySem.W.tabIn K e.1=some (c,b)->PySem.W.CodeHd s₁.heap c b) (hbm: ∃bm ob,mg "__builtins__"=some (.ref bm)/\bm≠builtinsNs/\s₁.heap.get? bm=some ob/\ob.cls=.type "module"/\ob.dict=some builtinsNs/\ob.data=.plain):
  codeAny (model P w) callerA (.call (.ref fa) ⟨[.ref a],[]⟩) (λr s'=>r=.ok (.ret (.bool true))/\OldK s₁.heap s'.heap/\s'.os=s₁.os/\AllBare s'.gens) s₁:=by
 have rv:=UR hi
 have core: ∀H:Hp,(∀b,H b=none\/(∃o xs,H b=some (.frz o (.lst xs)))\/ ∃ps,tabAt P K b=some ps/\H b=some (.tbl ps))->SqL K H a (ns.map V.int)->HOk P w H s₁.heap->(∀b,H b≠none->b=a\/ ∃ps,tabAt P K b=some ps)->(H a≠none->K.lookup a=none)->(∀b ps,tabAt P K b=some ps->H b=some (.tbl ps))->
   codeAny (model P w) callerA (.call (.ref fa) ⟨[.ref a],[]⟩) (λr s'=>r=.ok (.ret (.bool true))/\OldK s₁.heap s'.heap/\s'.os=s₁.os/\AllBare s'.gens) s₁:=by
  intro H hO hS hok hA hK htb;have base_of: ∀{b:Addr}{o:Obj},s₁.heap.get? b=some o->H b=none->(UH s₁.heap H).get? b=some o:=λe n=>WY e n
  have noT: ∀{b:Addr}{o:Obj}{n:String},s₁.heap.get? b=some o->o.cls=.type n->n≠"list"->H b=none:=λ{b o n} e d ne=>by
   cases q:H b with
   |none=>rfl
   |some u=>
    rcases hA b (by rw[q];simp)with rfl|⟨ps,z⟩
    .rw[ha]at e;cases e;cases d;exact absurd rfl ne
    .rw[(hT b ps z).2.1]at e;cases e;cases d
  have noA: ∀{b:Addr}{o:Obj}{es:Array DictEntry}{ep:Nat},s₁.heap.get? b=some o->o.data=.dict es ep->H b=none:=λ{b o es ep} e d=>by
   cases q:H b with
   |none=>rfl
   |some u=>
    rcases hA b (by rw[q];simp)with rfl|⟨ps,z⟩
    .rw[ha]at e;cases e;cases d
    .rw[(hT b ps z).2.1]at e;cases e;cases d
  have nsK: ∀{b:Addr}{m:Ti},s₁.heap.Ns b m->(UH s₁.heap H).Ns b m:=λ{b m} ⟨o,es,ep,e,d,r⟩=>⟨o,es,ep,base_of e (noA e d),d,r⟩
  have hKb:=λb o e=>base_of (KX b o e) (by
   cases q:H b with
   |none=>rfl
   |some u=>
    rcases hA b (by rw[q];simp)with rfl|⟨ps,z⟩
    .rw[hK (by rw[q];simp)]at e;cases e
    .rw[(hT b ps z).1]at e;cases e)
  refine codeAny_mono ((F _ hKb (nsK hns)).run callerA [] s₁ H ⟨_,[]⟩ [.ref a] [.ref a] _ _ hr (⟨rfl,(⟨hKb,nsK hns,⟨mb,nsK hb,hbb⟩,let ⟨mc,h1,h2⟩:=hlim;⟨mc,nsK h1,h2⟩,let ⟨bm,ob,h1,h2,h3,h4,r⟩:=hbm;⟨bm,ob,h1,h2,base_of h3 (noT h3 h4 (by decide)),h4,r⟩⟩),λb o e=>Ca e,⟨Nat.le_of_eq (UI _ _),htb,λe he c b ht=>let ⟨o,vs,file,tf,fl,tg,VE,text,tt,e1,e2,r⟩:=hcd e he c b ht;⟨o,vs,file,tf,fl,tg,VE,text,tt,base_of e1 (noT e1 e2 (by decide)),e2,r⟩⟩,trivial,λb hb=>absurd (show b∈([]:Tg)from hb) (by simp),hok,.of_eq hg⟩) (hbind s₁ _) (.cons rfl .nil) (hsp H (λb=>(hO b).imp id (Or.imp id λ⟨ps,_,z⟩=>⟨ps,z⟩)) hS)) λr s' h=>?_
  cases r with
  |error e=>exact(hCX H e s' h).elim
  |ok fl=>
   cases fl with
   |next=>exact False.elim h
   |brk=>exact False.elim h
   |cont=>exact False.elim h
   |ret u=>
    obtain⟨v,H',os,bare,un,hok',r',q⟩:=h;subst q;obtain rfl:u=Value.bool true:=r';refine⟨rfl,⟨λb o e=>?_,λb o e=>un.there b o e (by simp)⟩,os,bare⟩;rcases hO b with z|⟨ob,xs,z⟩|⟨ps,z1,z⟩
    .exact .inl (un.keep b o e z (by intro z;exact absurd (show b∈([]:Tg)from z) (by simp)) (by simp))
    .have z2:=un.frzs b ob _ z;obtain⟨e1,_⟩:=hok b _ z;obtain⟨e2,_⟩:=hok' b _ z2;rw[e]at e1;cases e1;exact .inl e2
    .obtain⟨_,e1,ct⟩:=hT b ps z1;obtain⟨us,e2,_⟩:=hok' b _ (un.tbls b ps z);rw[e]at e1;cases e1;exact .inr (.inl ⟨ct,rfl,#[],us,rfl,by rw[e2];simp⟩)
 have tb: ∀{H:Hp}{b:Addr}{ps:Te},tabAt P K b=some ps->ObjOk P w H s₁.heap b (.tbl ps):=λz=>⟨#[],(hT _ _ z).2.1,.inl rfl⟩
 have na: ∀ps,tabAt P K a=some ps->False:=λps z=>by have:=(hT a ps z).2.1;rw[ha]at this;cases this
 cases hk:K.lookup a with
 |some o=>
  have e:=KX a o hk;rw[ha]at e;cases e;refine core (λb=>(tabAt P K b).map .tbl) (λb=>?_) (.inr ⟨_,_,_,hk,rfl,rfl,rfl,by rw[sA,(hi.length)];exact hl,by simpa using rv⟩) (λb u z=>?_) (λb z=>?_) (λz=>?_) λb ps z=>by rw[z];rfl
  .cases z:tabAt P K b with
   |none=>exact .inl rfl
   |some ps=>exact .inr (.inr ⟨ps,rfl,rfl⟩)
  .obtain⟨ps,z1,rfl⟩:=Option.map_eq_some_iff.mp z;exact tb z1
  .cases q:tabAt P K b with
   |none=>exact absurd (by rw[q];rfl) z
   |some ps=>exact .inr ⟨ps,rfl⟩
  .cases q:tabAt P K a with
   |none=>exact absurd (by rw[q];rfl) z
   |some ps=>exact(na ps q).elim
 |none=>
  refine core (λb=>if b=a then some _ else(tabAt P K b).map .tbl) (λb=>?_) (.inl (.inr ⟨{cls:=.type "list",data:=.seq vs.toArray},iP rfl⟩)) (λb u z=>?_) (λb z=>?_) (λ_=>hk) λb ps z=>?_
  .by_cases hb:b=a
   .exact .inr (.inl ⟨_,_,iP hb⟩)
   .skip
    rw[iN hb]
    cases z:tabAt P K b with
    |none=>exact .inl rfl
    |some ps=>exact .inr (.inr ⟨ps,rfl,rfl⟩)
  .by_cases hb:b=a
   .have z':=(iP hb).symm.trans z;cases z';subst hb;exact⟨ha,by rw[lM];exact hl,vs,_,rv,ha⟩
   .have z':=(iN hb).symm.trans z;obtain⟨ps,z1,rfl⟩:=Option.map_eq_some_iff.mp z';exact tb z1
  .by_cases hb:b=a
   .exact .inl hb
   .rw[iN hb]at z
    cases q:tabAt P K b with
    |none=>exact absurd (by rw[q];rfl) z
    |some ps=>exact .inr ⟨ps,rfl⟩
  .rw[iN λy=>na ps (by rw[<-y];exact z),z];rfl
def walk_of{l:PySem.W.OpenLaw}{n k:Nat}{q:Program}{loose:Th}{XP:(Str->Option Value)->Heap->Prop}{YP:World->Heap->Prop}{d:DefRec}{K:Params->PySem.W.Frag}{CX:World->OS}{sp:World->Sp}{x:Str}
  (hn:l.most=some n) (hn2:n<=sizeLine) (hdf:d.params.defaults=[]) (hr:Room k callerA)
  (hY: ∀(w:World)(h:Heap),YP w h->(K w.params).In h)
  (F: ∀(w:World)(mg:Ti)(fa:Addr)(h:Heap),(K w.params).In h->h.Ns mainGlobals mg->mg d.name=some (.ref fa)->
   ∃fd:FuncData,(∀(s:Shared)(u:Value),BindsTo s fd ⟨[u],[]⟩ [(x,u)])/\
    ∀base:Heap,(K w.params).In base->base.Ns mainGlobals mg->FnOk l.prog w (K w.params) mg base (CX w) k fa fd [x] (sp w))
  (hsp: ∀(w:World)(H:Hp)(a:Addr)(ns:Tc),ns.length<=n->Dc H->SqL (K w.params) H a (ns.map V.int)->sp w [.ref a] H (λv _=>v=.bl true) λ_ _ _=>False)
  (hCX: ∀(w:World)(H:Hp)(s:Shared)(e:Value)(s':Shared),CX w [] H s (λ_ _ _=>False) e s'->False)
  (hN:(fO l.prog).all (λe=>((recsOf q).find? λd=>d.name==e.1).isSome)=true) (hno:fO l.prog=[]\/ ∀w:World,PySem.W.noTabs (K w.params)=true):
  PySem.W.WalkO q loose XP YP l.row.toRowW d [] (λf vs=>PySem.call f vs):=by
 refine Att.attach_call hn hdf λw s₀ s₁ mg mb fa o pm cd doc a vs ns G Y ho hd hcd hmg hobj hints hlen hg=>?_;have KX:=hY w _ Y;obtain⟨fd,hb,hF⟩:=F w mg fa _ KX G.T.g hmg;refine XQ KX G.T.g G.T.b G.T.builtins G.T.nolimit hg hobj hints (Nat.le_trans hlen hn2) hr hF hb (λH hO hS=>hsp w H a ns hlen hO hS) (λH e s'=>hCX w H s₁ e s') (λb ps hb=>?_) (λe he c b ht=>?_) G.T.bmain
 rotate_left
 .obtain⟨r,hr'⟩:=Option.isSome_iff_exists.mp (List.all_eq_true.mp hN e he);exact(PySem.W.tab_of G.T KX hr' ht).1
 obtain⟨e,he,rfl⟩:=Option.map_eq_some_iff.mp hb;have he1:=List.mem_of_find?_eq_some he;obtain⟨r,hr'⟩:=Option.isSome_iff_exists.mp (List.all_eq_true.mp hN e he1);have he2:=beq_iff_eq.mp (List.find?_some (p:=λe:Str×Array Value=>(PySem.W.tabIn (K w.params) e.1).map (·.2)==some b) he);obtain⟨⟨c,b'⟩,ht,e3⟩:=Option.map_eq_some_iff.mp he2;obtain rfl:b'=b:=e3;obtain⟨hc,hg'⟩:=PySem.W.tab_of G.T KX hr' ht;refine⟨?_,hg',(hc.tab hg').isCodeTable⟩
 cases q:(K w.params).lookup b' with
 |none=>rfl
 |some o=>
  have z:=KX _ _ q;rw[hg']at z;cases z;rcases hno with z|z
  .rw[z]at he1;cases he1
  .exact absurd (show false=true from List.all_eq_true.mp (z w) _ (PySem.W.mem_of_lookupK q)) xF0
def eV(s:Stmt):Arguments:=match s with
 |.FunctionDef _ a _ _ _ _ _ _ _ _=>a
 |_=>{posonlyargs:=[],args:=[],vararg:=none,kwonlyargs:=[],kw_defaults:=[],kwarg:=none,defaults:=[]}
def xQ(s:Stmt):List Stmt:=match s with
 |.FunctionDef _ _ b _ _ _ _ _ _ _=>b
 |_=>[]
def zE(s:Stmt):Scope:=match s with
 |.FunctionDef _ _ _ _ _ _ sc _ _ _=>sc
 |_=>{kind:=.function,names:=[],isGenerator:=false,isCoroutine:=false}
abbrev vE:OS:=λ_ _ _ _ _ _=>False
abbrev E0:XK:=λ_ _ _=>False
def Qi{X:Cx}:OT vE X E0:=λ_ _ _ _ _ _ _ h=>h.elim
structure Fun(K:Ud)(x qual:Str)(st:Stmt)(f:Addr)(fd:FuncData):Prop where
 ex: ∃(oc:Value)(od:Option Addr)(kV doc pm:Value)(an:Option Addr)(cdv ct:Value)(osl:Array (Option Value)),
  fd=PySem.W.fnOf x qual (eV st) (xQ st) (zE st) .none kV doc pm an cdv ct/\K.lookup f=some ⟨oc,od,.func fd,osl⟩/\PySem.W.codeIn K cdv qual=true
 kp:PySem.W.keepIn K (.ref f)=true
section
variable{P:Program}{w:World}{K:Ud}{mg:Ti}{base:Heap}
def Fun.ok{x qual:Str}{st:Stmt}{f:Addr}{fd:FuncData}{N ps:Th}{k:Nat}{sp:Sp}(F:Fun K x qual st f fd)(S:FnScope N ps (zE st))(len: ∀vs H Q E,sp vs H Q E->vs.length=ps.length)
  (hbody: ∀(cdv:Value)(A:Around)(outer:List Env)(s:Shared)(H:Hp)(vs:List V)(Q:VK)(E:XK),Room k (A.deeper (envOfC qual (zE st) s.heap.objs.size f cdv))->sp vs H Q E->
   ∃t,PSs (IE vE P w K mg base N qual (zE st) f cdv A outer s H E).nox (xQ st) t/\t {nx:=λ_ H'=>Q .non H',rt:=Q} (start N vs) H):FnOk P w K mg base vE (k+1) f fd ps sp:=by
 obtain⟨oc,od,kV,doc,pm,an,cdv,ct,osl,rfl,lk,hcd⟩:=F.ex;refine Qa lk hcd S len λA outer s H vs Q E hr hsp=>?_;obtain⟨t,h,q⟩:=hbody cdv A outer s H vs Q E hr hsp;exact⟨t,h.nox,q⟩
def Fun.binds{x qual:Str}{st:Stmt}{f:Addr}{fd:FuncData}{ps:Th}(F:Fun K x qual st f fd)
  (h: ∀(kV doc pm:Value)(an:Option Addr)(cdv ct:Value)(us:Td),us.length=ps.length->bindArgs (PySem.W.fnOf x qual (eV st) (xQ st) (zE st) .none kV doc pm an cdv ct) ⟨us,[]⟩=pure (ps.zip us)):Binds K fd ps []:=by
 obtain⟨oc,od,kV,doc,pm,an,cdv,ct,osl,rfl,lk,hcd⟩:=F.ex;exact .all (h kV doc pm an cdv ct)
def Kz{x qual:Str}{st:Stmt}{f:Addr}{oc:Value}{od an:Option Addr}{osl:Array (Option Value)}{kV doc pm cdv ct:Value}(l:K.lookup f=some ⟨oc,od,.func (PySem.W.fnOf x qual (eV st) (xQ st) (zE st) .none kV doc pm an cdv ct),osl⟩)
  (c:PySem.W.codeIn K cdv qual=true) (k:PySem.W.keepIn K (.ref f)=true):Fun K x qual st f (PySem.W.fnOf x qual (eV st) (xQ st) (zE st) .none kV doc pm an cdv ct):=⟨⟨oc,od,kV,doc,pm,an,cdv,ct,osl,rfl,l,c⟩,k⟩
end
section
variable{X:Cx}
def pv(i:Nat){x:Str}{pos:Pos}(hN:X.N[i]? =some x:=by rfl)(hv:Pa X.env.scope x:=by first |exact Or.inl rfl|exact Or.inr (Or.inl rfl)|exact Or.inr (Or.inr rfl))(hd:(x==("__debug__":Str))=false:=by decide)
  (hcd:(x==("__classdict__":Str))=false:=by decide):PE X (.Name x pos) (Pc i):=Jo hN hv hd hcd
end
def Same(H H':Hp):Prop:= ∀b o,H b=some o->H' b=some o
def Same.seq{K:Ud}{H H':Hp}{a:Addr}{xs:List V}(e:Same H H')(h:SqL K H a xs):SqL K H' a xs:=by
 rcases h with(h|⟨o,h⟩)|h
 .exact .inl (.inl (e _ _ h))
 .exact .inl (.inr ⟨o,e _ _ h⟩)
 .exact .inr h
end L2
set_option maxHeartbeats 4000000
namespace L2
open PySem PySem.Spec PyProof.Rows
def dC(env:Env)(l:List (Str×NameKind))(cs:List (Str×Addr)):List (Str×Addr):=
 l.foldl (λc y=>if y.2==.free then(y.1,(env.cells.lookup y.1).getD 0)::c else c) cs
def IM{α β:Type}{l:List α}{f:α->β->Sem (ForInStep β)}{g:β->α->β}: ∀(c:β),(∀x∈l, ∀c,f x c=pure (.yield (g c x)))->
  forIn l c f=pure (l.foldl g c):=by
 induction l with
 |nil=>intro c _;rfl
 |cons x l ih=>
  intro c h;rw[List.forIn_cons,h x mF0];exact ih _ λy hy=>h y (mO _ hy)
def qX{scope:Scope}{env:Env}(h: ∀y∈scope.names,y.2=.free-> ∃c,env.cells.lookup y.1=some c):closureFor scope env=pure (dC env scope.names []):=by
 unfold closureFor dC;dsimp only;rw[IM [] ?_]
 .rfl
 .intro y hy c;obtain⟨n,k⟩:=y;by_cases hk:k=.free
  .subst hk;obtain⟨a,ha⟩:=h _ hy rfl;simp[cellOf,ha]
  .have e:=by simpa using hk
   simp[e]
theorem oW{env:Env}: ∀(l:List (Str×NameKind))(cs:List (Str×Addr)),(∀y∈l,y.2=.free-> ∃c,env.cells.lookup y.1=some c)->(∀p∈cs,env.cells.lookup p.1=some p.2)->
  ∀p∈dC env l cs,env.cells.lookup p.1=some p.2
 |[],_,_,h=>h
 |(n,k)::l,cs,hl,h=>by
  refine oW l _ (λy hy=>hl y (mO _ hy)) λp hp=>?_;by_cases hk:k=.free
  .subst hk;obtain⟨c,hc⟩:=hl _ mF0 rfl;have hp':p∈_::cs:=hp;rcases mC.mp hp' with rfl|hp
   .show env.cells.lookup n=some _;rw[hc];rfl
   .exact h p hp
  .have hp':p∈(if _=true then _::cs else cs):=hp;rw[iN (by simpa using hk)]at hp';exact h p hp'
theorem vF{env:Env}: ∀(l:List (Str×NameKind))(cs:List (Str×Addr))(p:Str×Addr),p∈dC env l cs->p∈cs\/(p.1,NameKind.free)∈l
 |[],_,_,h=>.inl h
 |(n,k)::l,cs,p,h=>by
  rcases vF l _ p h with z|z
  .dsimp only at z;split at z
   .rename_i hk;rcases mC.mp z with rfl|z
    .exact .inr (by rw[<-show k=NameKind.free by simpa using hk];exact mF0)
    .exact .inl z
   .exact .inl z
  .exact .inr (mO _ z)
theorem CZ{env:Env}: ∀(l:List (Str×NameKind))(cs:List (Str×Addr))(p:Str×Addr),p∈cs->p∈dC env l cs
 |[],_,_,h=>h
 |_::l,cs,p,h=>by
  refine CZ l _ p ?_;show p∈(if _=true then _::cs else cs);split
  .exact mO _ h
  .exact h
theorem eW{env:Env}: ∀(l:List (Str×NameKind))(cs:List (Str×Addr))(n:Str),(n,NameKind.free)∈l-> ∃c,(n,c)∈dC env l cs
 |[],_,_,h=>nomatch h
 |(m,k)::l,cs,n,h=>by
  rcases mC.mp h with e|h
  .have e1:=congrArg Prod.fst e;have e2:=congrArg Prod.snd e;subst e1 e2;exact⟨_,CZ l _ _ mF0⟩
  .exact eW l _ n h
theorem wQ{β:Type}: ∀{l:List (Str×β)}{n:Str},(∃c,(n,c)∈l)-> ∃c,l.lookup n=some c
 |[],_,h=>let ⟨_,z⟩:=h;nomatch z
 |(m,b)::l,n,h=>by
  by_cases e:n=m
  .subst e;exact⟨b,by simp[lookup_cons]⟩
  .obtain⟨c,hc⟩:=h;rcases mC.mp hc with z|z
   .cases z;exact absurd rfl e
   .obtain⟨c',h'⟩:=wQ ⟨c,z⟩;refine⟨c',?_⟩;have e':(n==m)=false:=by simpa using e
    simp[lookup_cons,e',h']
def De(scope osc:Scope):List (Str×NameKind):=scope.names.map λ(n,k)=>if(k==.free&&osc.kind==.function&&osc.names.lookup n==some .cell)then(n,.cell)else(n,k)
def qY(osc:Scope)(N:Th)(sc:Scope)(idx:Db):Bool:=
 decide (sc.kind=.function)&&sc.names.all (λy=>decide (sc.names.lookup y.1=some y.2))&&
 sc.names.all (λy=>decide (y.2≠.free) || decide (osc.names.lookup y.1=some .cell) || decide (osc.names.lookup y.1=some .free))&&
 idx.all (λi=>match N[i]? with
  |some y=>(decide (osc.names.lookup y=some .cell) || decide (osc.names.lookup y=some .free))&&decide (sc.names.lookup y=some .free)
  |none=>false)
def rlS(sc osc:Scope):Scope:={sc with names:=De sc osc}
abbrev WT(env:Env)(sc:Scope)(C:Addr):List (Str×Addr):=cellsFrom (C+1) sc.names (dC env sc.names [])
theorem xT: ∀(l:List (Str×NameKind))(n:Nat)(acc:List (Str×Addr)),cellsFrom n l acc=cellsFrom n l []++acc
 |[],n,acc=>rfl
 |_::l,n,acc=>by
  unfold cellsFrom;split
  .rw[xT l _ _,xT l _ [_],aA];rfl
  .exact xT l n acc
theorem tD: ∀(l:List (Str×NameKind))(n:Nat){x:Str}{c:Addr},(x,c)∈cellsFrom n l []->(x,NameKind.cell)∈l/\n<=c
 |[],n,x,c,h=>nomatch h
 |(y,k)::l,n,x,c,h=>by
  unfold cellsFrom at h;split at h
  .rename_i hk;rw[xT]at h;rcases List.mem_append.mp h with h|h
   .obtain⟨h1,h2⟩:=tD l _ h;exact⟨mO _ h1,by lia⟩
   .have e:=mS.mp h;cases e;have hk':=by simpa using hk
    subst hk';exact⟨mF0,Nat.le_refl _⟩
  .obtain⟨h1,h2⟩:=tD l n h;exact⟨mO _ h1,h2⟩
def rR{l:List (Str×NameKind)}{C:Nat}{x:Str}{c:Addr}(h:(x,c)∈cellsFrom (C+1) l []){n:Nat}(hC:n<=C):n<c:=lt_of_le_of_lt hC (tD l _ h).2
theorem qA: ∀(l:List (Str×NameKind))(n:Nat){x:Str},(x,NameKind.cell)∈l-> ∃c,(x,c)∈cellsFrom n l []
 |[],n,x,h=>nomatch h
 |(y,k)::l,n,x,h=>by
  unfold cellsFrom;rcases mC.mp h with e|h
  .cases e;rw[xT];exact⟨n,List.mem_append_right _ mF0⟩
  .split
   .obtain⟨c,hc⟩:=qA l _ h;rw[xT];exact⟨c,mem_append_left _ hc⟩
   .exact qA l n h
theorem own_apart: ∀(l:List (Str×NameKind))(n:Nat),(cellsFrom n l []).Pairwise λx y=>x.2≠y.2
 |[],n=>List.Pairwise.nil
 |_::l,n=>by
  unfold cellsFrom;split
  .rw[xT];refine pairwise_append.mpr ⟨own_apart l _,List.pairwise_singleton _ _,λa ha b hb e=>?_⟩;rw[mS.mp hb]at e;have:=(tD l _ ha).2;exact Nat.ne_of_gt this e
  .exact own_apart l n
theorem bO{β:Type}(x:Str): ∀(l m:List (Str×β)),(l++m).lookup x=(l.lookup x).or (m.lookup x)
 |[],m=>rfl
 |(y,b)::l,m=>by
  rw[List.cons_append,lookup_cons,lookup_cons]
  cases x==y with
  |true=>rfl
  |false=>exact bO x l m
theorem vG{β:Type}{x:Str}: ∀{l:List (Str×β)},(∀c,(x,c)∉l)->l.lookup x=none
 |[],_=>rfl
 |(y,b)::l,h=>by
  rw[lookup_cons]
  cases e:x==y with
  |true=>rw[beq_iff_eq.mp e]at h;exact absurd mF0 (h b)
  |false=>exact vG λc hc=>h c (mO _ hc)
def aF{env:Env}{sc:Scope}{C:Addr}{x:Str}{c:Addr}(e:(WT env sc C).lookup x=some c):(x,c)∈cellsFrom (C+1) sc.names []\/(dC env sc.names []).lookup x=some c:=by
 unfold WT at e;rw[xT,bO]at e
 cases z:(cellsFrom _ sc.names []).lookup x with
 |some c'=>rw[z]at e;cases e;exact .inl (PySem.mem_of_lookup z)
 |none=>rw[z]at e;exact .inr e
def La{env:Env}{sc:Scope}{C:Addr}{x:Str}{c:Addr}(h:(x,NameKind.cell)∈sc.names)(e:(WT env sc C).lookup x=some c):(x,c)∈cellsFrom (C+1) sc.names []:=by unfold WT at e;rw[xT,bO]at e;obtain⟨c',h'⟩:=wQ (qA sc.names _ h);rw[h']at e;cases e;exact PySem.mem_of_lookup h'
theorem Df{env:Env}{sc:Scope}{C:Addr}{x:Str}(h:(x,NameKind.cell)∉sc.names):(WT env sc C).lookup x=(dC env sc.names []).lookup x:=by unfold WT;rw[xT,bO,vG λc hc=>h (tD _ _ hc).1];rfl
def vH(σ:St)(idx:Db):St:=idx.map λi=>(σ[i]?).join
def eX(σ:St)(idx:Db):(vH σ idx).length=idx.length:=by unfold vH;rw[lM]
def zR(X:Cx)(sc:Scope)(T:Th)(idx:Db)(C:Addr)(s₂:Shared)(H1:Hp)(fp:Tg):Cx where
 prog:=X.prog
 w:=X.w
 K:=X.K
 mg:=X.mg
 base:=X.base
 A:=X.A
 N:=T++idx.map λi=>(X.N[i]?).getD Str.empty
 s₀:=s₂
 H₀:=H1
 env:=compEnvC sc (WT X.env sc C) C X.env
 outer:=X.stack
 stack:=X.stack
 ex:=fp
 fn:=λx=>sc.names.lookup x==some .cell
 calm:=X.calm
 pn:=[]
 xe:=λ_ _=>False
def XR(wi:TI)(g:TG)(tc:Addr->Shared->Hp->List Addr->TT)(te:Addr->Shared->Hp->List Addr->TE)(nt:Nat)(idx:Db):TE:=λσ H Q=>wi σ H λJ H1=> ∃W:Nat->Nat->List V->Hp->Prop,(∃m,W 0 m [] H1)/\ ∀i m ys H2,W i m ys H2->ys.length<=sizeLine/\
 ((J.stop i H2/\ ∀D,H2 D=none->Q (.ref D) (gH H2 D (.lst ys)))\/
   (J.go i H2/\ys.length<sizeLine/\ ∀x H3,J.yld i H2 x H3-> ∀τ:St,τ.length=nt->g x (τ++vH σ idx) H3 λσ4 H4=>(∃τ',σ4=τ'++vH σ idx/\τ'.length=nt)/\
    ∀C s₂ fp,tc C s₂ H1 fp σ4 H4 λb H5=>if b=true then te C s₂ H1 fp σ4 H5 λy H6=> ∃m',m'<m/\W (i+1) m' (ys++[y]) H6 else∃m',m'<m/\W (i+1) m' ys H5))
section
variable{prog:Program}{w:World}{A:Around}{R:Result->Shared->Prop}{s:Shared}
def IO{elt target iter:Expr}{ifs:Uc}{scope:Scope}{pos:Pos}{it acc:Value}{env:Env}(I:Nat->Shared->Prop)
  (turn: ∀n s,I n s->wpAny (model prog w) A (pyNext it) (λr s₁=>match r with
   |none=>R (.ok .next) s₁
   |some v=>wpAny (model prog w) A (letOwnedTupleGo target it v) (λ_ s₁'=>wpAny (model prog w) A (assign target env v) (λ_ s₂=>
     wpAny (model prog w) A (forIn ifs true λc r=>if r=true then do let ok <-isTrue c env (eval c env);pure (ForInStep.yield ok)else pure (ForInStep.yield r)) (λok s₃=>
      if ok=true then wpAny (model prog w) A (eval elt env) (λx s₄=>
       wpAny (model prog w) A (call (.builtin "list.append") [acc,x]) (λ_ s₅=> ∃m,m<n/\I m s₅) (λ_ _=>False) s₄) (λ_ _=>False) s₃
      else∃m,m<n/\I m s₃) (λ_ _=>False) s₂) (λ_ _=>False) s₁') (λ_ _=>False) s₁) (λ_ _=>False) s)
  (n:Nat) (h:I n s):codeAny (model prog w) A (.compLoop (.ListComp elt [⟨target,iter,ifs,0⟩] scope pos) 0 it acc env) R s:=by
 refine codeAny_loop rfl I (λn s hI=>?_) n h;refine wpAny_noted ?_;have no: ∀{E':VP}(v:Value)(s':Shared),False->E' v s':=λ_ _ z=>z.elim;refine wB (wpAny_standAt (wB (wpAny_mono (turn n s hI) (λr s₁ h₁=>?_) (no))))
 cases r with
 |none=>exact wP h₁
 |some v=>
  refine wB (wpAny_mono h₁ (λ_ s₁' h₁'=>wB (wpAny_mono h₁' (λ_ s₂ h₂=>wB (wpAny_mono h₂ (λok s₃ h₃=>?_) no)) no)) no)
  cases ok with
  |false=>exact wP ⟨rfl,h₃⟩
  |true=>
   exact wB (wB (wpAny_mono h₃ (λx s₄ h₄=>wB (wpAny_mono h₄ (λ_ s₅ h₅=>wP (wP ⟨rfl,h₅⟩)) no)) no))
end
def US(X:Cx)(ifs:Uc)(t:TT):Prop:=
 ∀(pins:Tk)(s:Shared)(σ:St)(H:Hp)(Q:Bool->Hp->Prop),Inv X pins σ H s->t σ H Q->
  wpAny (model X.prog X.w) X.A (forIn ifs true λc r=>if r=true then do let ok <-isTrue c X.env (eval c X.env);pure (ForInStep.yield ok)else pure (ForInStep.yield r)) (TP X pins σ Q) X.xe s
def Qj:TT:=λ_ H Q=>Q true H
def XS{X:Cx}:US X [] Qj:=λ_ _ _ H _ I h=>wpAny_tests_nil ⟨H,I,h⟩
def XT{X:Cx}{c:Expr}{t:TT}(h:PT X c t):US X [c] t:=λpins s σ H Q I q=>wpAny_tests_one (h pins s σ H Q I q)
structure CompF(osc:Scope)(N:Th)(sc:Scope)(idx:Db):Prop where
 kind:sc.kind=.function
 uni: ∀y∈sc.names,sc.names.lookup y.1=some y.2
 frees: ∀y∈sc.names,y.2=.free->osc.names.lookup y.1=some .cell\/osc.names.lookup y.1=some .free
 cap: ∀i∈idx, ∃y,N[i]? =some y/\(osc.names.lookup y=some .cell\/osc.names.lookup y=some .free)/\sc.names.lookup y=some .free
def CompF.locs{osc:Scope}{N:Th}{sc:Scope}{idx:Db}(F:CompF osc N sc idx): ∀y∈sc.names,y.2=.local->sc.names.lookup y.1=some .local:=λy hy e=>by rw[F.uni y hy,e]
def Dg{osc:Scope}{N:Th}{sc:Scope}{idx:Db}(h:qY osc N sc idx=true):CompF osc N sc idx:=by
 unfold qY at h;simp only[aE,List.all_eq_true,decide_eq_true_eq,Bool.or_eq_true]at h;obtain⟨⟨⟨h1,h2⟩,h4⟩,h5⟩:=h;refine⟨h1,λy hy=>h2 y hy,λy hy e=>?_,λi hi=>?_⟩
 .rcases h4 y hy with(z|z)|z
  .exact absurd e z
  .exact .inl z
  .exact .inr z
 .have q:=h5 i hi
  cases e:N[i]? with
  |none=>rw[e]at q;cases q
  |some y=>
   rw[e]at q;simp only[aE,decide_eq_true_eq,Bool.or_eq_true]at q;exact⟨y,rfl,q.1,q.2⟩
def XU{sc osc:Scope}{x:Str}(h:(De sc osc).lookup x=some .cell\/(De sc osc).lookup x=some .free):(x,NameKind.free)∈sc.names\/(x,NameKind.cell)∈sc.names:=by
 have key: ∀k',(k'=.cell\/k'=.free)->(x,k')∈De sc osc->(x,NameKind.free)∈sc.names\/(x,NameKind.cell)∈sc.names:=by
  intro k' hk' hm;obtain⟨⟨n,k⟩,hy,e⟩:=mM.mp hm;dsimp only at e;split at e
  .rename_i hc;cases e;rw[aE,aE]at hc;have:=by simpa using hc.1.1
   subst this;exact .inl hy
  .cases e;rcases hk' with rfl|rfl
   .exact .inr hy
   .exact .inl hy
 rcases h with h|h
 .exact key _ (.inl rfl) (PySem.mem_of_lookup h)
 .exact key _ (.inr rfl) (PySem.mem_of_lookup h)
theorem GV{osc:Scope}{x:Str}: ∀{l:List (Str×NameKind)},l.lookup x=some .free->(l.map λ(n,k)=>if(k==NameKind.free&&osc.kind==.function&&osc.names.lookup n==some .cell)then(n,NameKind.cell)else(n,k)).lookup x=some .cell\/(l.map λ(n,k)=>if(k==NameKind.free&&osc.kind==.function&&osc.names.lookup n==some .cell)then(n,NameKind.cell)else(n,k)).lookup x=some .free
 |[],h=>by simp at h
 |(n,k)::l,h=>by
  have ih:=@GV osc x l;rw[lookup_cons]at h;rw[List.map_cons];by_cases hc:(k==NameKind.free&&osc.kind==.function&&osc.names.lookup n==some .cell)=true
  .dsimp only;rw[iP hc,lookup_cons]
   cases hx:x==n with
   |true=>exact .inl rfl
   |false=>rw[hx]at h;exact ih h
  .dsimp only;rw[iN hc,lookup_cons]
   cases hx:x==n with
   |true=>rw[hx]at h;exact .inr h
   |false=>rw[hx]at h;exact ih h
section
variable{X:Cx}{pins:Tk}{σ:St}{H1:Hp}{s₂:Shared}{sc:Scope}{T:Th}{idx:Db}{C:Addr}{fp:Tg}
def KS(I:Inv X pins σ H1 s₂)(F:CompF X.env.scope X.N sc idx): ∀y∈sc.names,y.2=.free-> ∃c,X.env.cells.lookup y.1=some c:=
 λy hy e=>I.ok.has y.1 (F.frees y hy e)
def kP(I:Inv X pins σ H1 s₂)(F:CompF X.env.scope X.N sc idx){x:Str}{c:Addr}(e:(dC X.env sc.names []).lookup x=some c):X.env.cells.lookup x=some c:=
 oW sc.names [] (KS I F) (λ_ z=>nomatch z) _ (PySem.mem_of_lookup e)
def Dh(I:Inv X pins σ H1 s₂)(F:CompF X.env.scope X.N sc idx){x:Str}{c:Addr}(hx:(x,NameKind.free)∈sc.names)(e:X.env.cells.lookup x=some c):(dC X.env sc.names []).lookup x=some c:=by obtain⟨c',h'⟩:=wQ (eW sc.names [] x hx);rw[h'];rw[kP I F h']at e;exact e
def UT(I:Inv X pins σ H1 s₂)(F:CompF X.env.scope X.N sc idx)(hC:s₂.heap.objs.size<=C)(hfp: ∀b∈fp,rO X pins H1 b)(hlt: ∀b∈fp,b<s₂.heap.objs.size):(zR X sc T idx C s₂ H1 fp).Ok where
 mod:=I.ok.mod
 kind:=F.kind
 glob:=I.ok.glob
 blt:=I.ok.blt
 above:=hC
 inj:=λx y c h1 h2=>by
  have low:=λz h=>let ⟨v,q⟩:=I.cell z c (kP I F h);q.lt;rcases aF h1 with z1|z1<;>rcases aF h2 with z2|z2
  .exact PySem.name_of_addr (own_apart sc.names _) z1 z2
  .exact absurd (low y z2) (Nat.not_lt.mpr (le_of_lt (rR z1 hC)))
  .exact absurd (low x z1) (Nat.not_lt.mpr (le_of_lt (rR z2 hC)))
  .exact I.ok.inj x y c (kP I F z1) (kP I F z2)
 has:=λx hx=>by
  show∃c,(WT X.env sc C).lookup x=some c;unfold WT;rw[xT];rcases XU hx with z|z
  .obtain⟨c,hc⟩:=eW sc.names [] x z;exact wQ ⟨c,List.mem_append_right _ hc⟩
  .obtain⟨c,hc⟩:=qA sc.names _ z;exact wQ ⟨c,mem_append_left _ hc⟩
 cab:=λx c h e=>by exact le_of_lt (rR (La (PySem.mem_of_lookup (beq_iff_eq.mp h)) e) hC)
 hd:=I.ok.hd
 frames:=I.ok.frames
 stk:=.inl rfl
 exf:=λb hb=>⟨Nat.ne_of_lt (Nat.lt_of_lt_of_le (hlt b hb) hC),λx c e=>by
  rcases aF e with z|z
  .exact Nat.ne_of_gt (lt_trans (hlt b hb) (rR z hC))
  .exact(hfp b hb).2.2.2.2.1 x c (kP I F z)⟩
 bs:=I.bs
 bsz:=I.bsz
 noex:=λb o e hb=>by
  rcases (hfp b hb).2.2.2.1 with z|z
  .exact I.ok.noex b o e z
  .exact absurd (Nat.lt_of_lt_of_le (Heap.lt_size e) (Nat.le_trans I.ok.bsz.1 z)) (lt_irrefl _)
 exfs:=λb hb z=>by
  rcases mC.mp (I.stkSub b z)with e|e
  .exact(hfp b hb).2.1 e
  .exact(hfp b hb).2.2.1 e
 funs:=I.stack
 frf:=I.stkFree
theorem OW{s₄:Shared}{m:Ti}(I:Inv X pins σ H1 s₂)(F:CompF X.env.scope X.N sc idx)(hC:s₂.heap.objs.size<=C)(hfp: ∀b∈fp,rO X pins H1 b)(hlt: ∀b∈fp,b<s₂.heap.objs.size)
  (kp: ∀b o,s₂.heap.get? b=some o->s₄.heap.get? b=some o) (ho:s₄.os=s₂.os) (hg:s₄.gens=s₂.gens) (hn:s₄.heap.Ns C m) (hcl: ∀x c,(x,c)∈cellsFrom (C+1) sc.names []->s₄.heap.IsCell c none):
  Inv (zR X sc T idx C s₂ H1 fp) [] (T.map (λ_=>none)++vH σ idx) H1 s₄:=by
 have cellK: ∀c v,s₂.heap.IsCell c v->s₄.heap.IsCell c v:=λc v ⟨o,h1,h2⟩=>⟨o,kp c o h1,h2⟩
 refine⟨UT I F hC hfp hlt,ho,by rw[hg];exact I.bare,Un.kept kp,⟨m,hn,λi x v e1 e2 e3=>?_⟩,λx c e=>?_,I.hok.fresh hC,λx c e=>?_,λp hp=>absurd (show p∈([]:List _)from hp) (by simp),I.hok.kept kp,?_⟩
 .have e1':(T++idx.map λi=>(X.N[i]?).getD Str.empty)[i]? =some x:=e1;by_cases hi:i<T.length
  .rw[getElem?_append_left (by simpa using hi),getElem?_map]at e2
   cases z:T[i]? with
   |none=>rw[z]at e2;cases e2
   |some y=>rw[z]at e2;cases e2
  .rw[getElem?_append_right (by simpa using hi)]at e2;rw[getElem?_append_right (by lia)]at e1';rw[lM]at e2;unfold vH at e2;rw[getElem?_map]at e1' e2
   cases z:idx[i - T.length]? with
   |none=>rw[z]at e2;cases e2
   |some j=>
    rw[z]at e1' e2;obtain⟨y,hy,k1,k2⟩:=F.cap j (mem_of_getElem? z);have ex:=by have q:(X.N[j]?).getD Str.empty=x:=Option.some.inj e1';rw[hy]at q;exact q
    subst ex
    have ev:σ[j]? =some (some v):=by
     have q:(σ[j]?).join=some v:=Option.some.inj e2
     cases w':σ[j]? with
     |none=>rw[w']at q;cases q
     |some a=>rw[w']at q;have q':a=some v:=q;rw[q']
    obtain⟨m0,hn0,hl0⟩:=I.loc;obtain⟨u,r,l⟩:=hl0 j y v hy ev (k1.elim (λz=>.inr (.inl z)) λz=>.inr (.inr z));refine⟨u,r,?_⟩;rcases l with⟨kl,_⟩|⟨_,c,hc,q⟩
    .have kl':X.env.scope.names.lookup y=some .local:=kl;rcases k1 with z|z<;>rw[z]at kl'<;>cases kl'
    .have nc:(y,NameKind.cell)∉sc.names:=λz=>by have:=F.uni _ z;rw[k2]at this;cases this
     refine .inr ⟨GV k2,c,?_,cellK c _ q⟩;show(WT X.env sc C).lookup y=some c;rw[Df nc];exact Dh I F (PySem.mem_of_lookup k2) hc
 .rcases aF e with z|z
  .exact⟨none,hcl x c z⟩
  .obtain⟨v,q⟩:=I.cell x c (kP I F z);exact⟨v,cellK c v q⟩
 .rcases aF e with z|z
  .exact .inl (I.hok.fresh (le_of_lt (rR z hC)))
  .exact(I.freeC x c (kP I F z)).imp id λz1=>⟨by show(sc.names.lookup x==some NameKind.cell)=false;rw[F.uni _ ((vF sc.names [] _ (PySem.mem_of_lookup z)).resolve_left λy=>nomatch y)];rfl,z1.2⟩
 .show(T.map (λ_=>_)++vH σ idx).length=(T++idx.map λi=>(X.N[i]?).getD Str.empty).length;rw[lA,lA,lM,lM,eX]
def OX{σ1:St}{H':Hp}{s':Shared}{h':Heap}{D:Addr}{ys:List V}{its:Td}{n:Nat}(I:Inv X pins σ H1 s₂)(hC:s₂.heap.objs.size<=C)(hfp: ∀b∈fp,rO X pins H1 b)
  (J:Inv (zR X sc T idx C s₂ H1 fp) [] σ1 H' s') (hs:Heap.SameBut C s'.heap h') (hD:s₂.heap.objs.size<=D) (hDC:D≠C) (eD:s'.heap.get? D=some {cls:=.type "list",data:=.seq its.toArray n}) (nD:H' D=none) (r:Vals ys its) (hz:ys.length<=sizeLine):
  Inv X pins σ (gH H' D (.lst ys)) {s' with heap:=h'}:=by
 have old: ∀b o,s₂.heap.get? b=some o->b≠C/\b≠D:=λb o e=>⟨Nat.ne_of_lt (Nat.lt_of_lt_of_le (Heap.lt_size e) hC),Nat.ne_of_lt (Nat.lt_of_lt_of_le (Heap.lt_size e) hD)⟩
 have oldH: ∀b u,H1 b=some u->b≠D:=λb u e=>Nat.ne_of_lt (Nat.lt_of_lt_of_le (I.hok.lt e) hD);have nC:=J.free;have B:=J.base;have mv: ∀b o,b≠C->s'.heap.get? b=some o->h'.get? b=some o:=λb o hb e=>(hs.2 b hb).trans e;refine I.call' J.os ⟨λb o e q hb hx=>?_,λb o e q hb hx=>?_,λb o e q hx=>?_,λb o e hx=>?_,λb xs e=>?_,λb o u e=>?_,λb ps e=>?_⟩ ?_ J.bare λb hb=>⟨(hfp b hb).2.2.2.1,(hfp b hb).2.1,(hfp b hb).2.2.2.2.1,(hfp b hb).2.2.2.2.2⟩
 .exact mv b o (old b o e).1 (B.keep b o e q hb hx)
 .obtain⟨sl,z⟩:=B.slot b o e q hb hx;exact⟨sl,mv b _ (old b o e).1 z⟩
 .rw[zK (old b o e).2];exact B.free b o e q hx
 .obtain⟨o',z⟩:=B.there b o e hx;exact⟨o',mv b o' (old b o e).1 z⟩
 .rw[zK (oldH b _ e)];exact B.tups b xs e
 .rw[zK (oldH b _ e)];exact B.frzs b o u e
 .rw[zK (oldH b _ e)];exact B.tbls b ps e
 .intro b u e;by_cases hb:b=D
  .subst hb;rw[zZ]at e;cases e;exact⟨hz,its,n,r,mv b _ hDC eD⟩
  .rw[zK hb]at e;refine(J.hok b u e).stay (λc v hc q=>mv c v ?_ q) (λc q=>by rw[zK (zN q nD)];exact q) (λc xs q=>by rw[zK (zN q nD)];exact q) λc ob xs q=>by rw[zK (zN q nD)];exact q
   rcases hc with z|z
   .rw[z];exact zN e nC
   .exact zN z nC
end
section
variable{X:Cx}
def FX{M:Model}{A:Around}{E:VP}{s:Shared}{scope:Scope}{globals:Addr}{closure:List (Str×Addr)}{qual:Str}{outer:Env}{Q:Env->Shared->Prop}
  (hQ:Q (newEnv scope s.heap.objs.size globals (cellsFrom (s.heap.objs.size+1) scope.names closure) qual none .none (some outer) builtinsNs) {s with heap:=pushCells (s.heap.push {cls:=.type "dict",data:=.dict #[]}) scope.names}):
  wpAny M A (newFunctionEnv scope globals closure [] qual none .none (some outer)) Q E s:=by
 simp only[newFunctionEnv,Option.isSome_some,if_true];refine wB (wpAny_alloc ?_);refine wB (wpAny_layCells _ (λname kind cells=>by cases hkc:kind==NameKind.cell<;>simp[hkc]) _ _ _ _ ?_);rw[show({s with heap:=s.heap.push {cls:=.type "dict",data:=.dict #[]}}:Shared).heap.objs.size=s.heap.objs.size+1 from Heap.size_push ..];exact wB (wP (wP hQ))
theorem KU{C:Cx->Prop}{elt tg iter:Expr}{ifs:Uc}{pos:Pos}{sc:Scope}{wi:TI}{g:TG}{tc:Addr->Shared->Hp->List Addr->TT}{te:Addr->Shared->Hp->List Addr->TE}(T:Th)(idx:Db)
  (hi:Pp C X tg iter wi) (hCx: ∀c s₂ H2 fp pins σ,Inv X pins σ H2 s₂->C (zR X sc T idx c s₂ H2 fp)) (hB:qY X.env.scope X.N sc idx=true)
  (hg: ∀C s₂ H1 fp,PG (zR X sc T idx C s₂ H1 fp) tg g)
  (hc: ∀C s₂ H1 fp,US (zR X sc T idx C s₂ H1 fp) ifs (tc C s₂ H1 fp))
  (he: ∀C s₂ H1 fp,PE (zR X sc T idx C s₂ H1 fp) elt (te C s₂ H1 fp))
  (hs: ∀x,foldedSetIterable iter X.env x=pure x:=by intro _;rfl)
  {pins:Tk} {s:Shared} {σ:St} {H:Hp} {Q:VK} {use:Option (Value->Sem Unit)} {Q':VP} (I:Inv X pins σ H s) (h:XR wi g tc te T.length idx σ H Q)
  (fin: ∀(D C:Addr)(s4:Shared)(H':Hp)(r:_),(∀h',Heap.SameBut C s4.heap h'->Inv X pins σ H' {s4 with heap:=h'})->rO X pins H' C->(∃m,s4.heap.Ns C m)->Q (.ref D) H'->
   compPost (model X.prog X.w) X.A X.xe use Q' (.ref D) C (.ok r) s4):
  wpAny (model X.prog X.w) X.A (comprehension (.ListComp elt [⟨tg,iter,ifs,0⟩] sc pos) sc X.env (firstIterPos [⟨tg,iter,ifs,0⟩] pos) (newList []) false (eval iter X.env) use) Q' X.xe s:=by
 have cf:=Dg hB;refine wpAny_comprehension_free rfl hs (qX (KS I cf)) cf.kind cf.locs ?_;refine wO (hi pins s σ H _ I h) λv s1 h1=>wO h1 λitv s2 h2=>?_;obtain⟨it,fp,tn,J,H2,e,I2,Tn,st2,f2,W,⟨m0,w0⟩,turn⟩:=h2;subst e;have hlt: ∀b∈fp,b<s2.heap.objs.size:=λb hb=>let ⟨o,e,_⟩:=Tn.obj _ _ st2 b hb;Heap.lt_size e;refine wpAny_newObj_type (FX ?_);dsimp only;generalize hH2:s2.heap.push {cls:=.type "list",dict:=none,data:=.seq ([]:Td).toArray}=HH;generalize hh1:pushCells _ sc.names=h₁;have hC:HH.objs.size=s2.heap.objs.size+1:=by rw[<-hH2,Heap.size_push]
 have hDC:s2.heap.objs.size≠HH.objs.size:=by rw[hC];exact Nat.ne_of_lt (Nat.lt_succ_self _)
 have hCle:s2.heap.objs.size<=HH.objs.size:=by rw[hC];exact le_succ _
 have up1: ∀b o,HH.get? b=some o->h₁.get? b=some o:=λb o e=>hh1▸pushCells_keeps _ _ b o (hP0 _ e);have old: ∀b o,s2.heap.get? b=some o->h₁.get? b=some o:=λb o e=>up1 b o (hH2▸hP0 _ e);have hcl: ∀x c,(x,c)∈cellsFrom (HH.objs.size+1) sc.names []->h₁.IsCell c none:=λx c hm=>by have ok:=cellsFrom_ok sc.names (HH.push {cls:=.type "dict",data:=.dict #[]}) 0 [] ⟨λ_ _ hm=>(nomatch hm),List.Pairwise.nil⟩ (zero_le _);rw[Heap.size_push,hh1]at ok;exact(ok.empty x c hm).1
 have cD: ∀x c,(WT X.env sc HH.objs.size).lookup x=some c->c≠s2.heap.objs.size:=λx c e=>by
  rcases aF e with z|z
  .exact Nat.ne_of_gt (rR z hCle)
  .obtain⟨v,q⟩:=I2.cell x c (kP I2 cf z);exact Nat.ne_of_lt q.lt
 have loop: ∀s4:Shared,s4={s2 with heap:=h₁}->
   codeAny (model X.prog X.w) X.A (.compLoop (.ListComp elt [⟨tg,iter,ifs,0⟩] sc pos) 0 (.ref it) (.ref s2.heap.objs.size) (compEnvC sc (WT X.env sc HH.objs.size) HH.objs.size X.env))
    (compPost (model X.prog X.w) X.A X.xe use Q' (.ref s2.heap.objs.size) HH.objs.size) s4:=by
  rintro s4 rfl
  have J0:Inv _ [] (T.map (λ_=>none)++vH σ idx) H2 {s2 with heap:=h₁}:=
   OW I2 cf hCle f2 hlt old rfl rfl (hh1▸(Heap.Ns.new HH (.type "dict")).keeps (pushCells_keeps _ _)) hcl
  refine IO (λk s'=> ∃(i:Nat)(ys:List V)(its:Td)(n:Nat)(H':Hp)(τ:St),Inv _ [] (τ++vH σ idx) H' s'/\τ.length=T.length/\tn i s'.heap/\(∀b∈fp,H' b=none)/\
   s'.heap.get? s2.heap.objs.size=some {cls:=.type "list",data:=.seq its.toArray n}/\H' s2.heap.objs.size=none/\Vals ys its/\W i k ys H') ?_ m0
   ⟨0,[],[],0,H2,_,J0,by rw[lM],Tn.keep _ _ _ st2 λb _ o e=>old b o e,λb hb=>(f2 b hb).1,(up1 _ _ (hH2▸Heap.get?_push_size _ rfl)),(I2.hok.fresh (Nat.le_refl _)),.nil,w0⟩
  rintro k s3 ⟨i,ys,its,n,H3,τ,I3,hτ,st3,fr3,eD3,nD3,r3,w3⟩;obtain⟨hz,alt⟩:=turn i k ys H3 w3;have hDfs:s2.heap.objs.size∉(zR X sc T idx HH.objs.size s2 H2 fp).fs:=λz=>by obtain⟨_,o,ho,_⟩:=I2.stack.mem z;exact absurd (Heap.lt_size ho) (lt_irrefl _)
  have pinD: ∀{H':Hp}{s':Shared},s'.heap.get? s2.heap.objs.size=some {cls:=.type "list",data:=.seq its.toArray n}->H' s2.heap.objs.size=none->
    ∀p∈[(s2.heap.objs.size,_)],s'.heap.get? p.1=some p.2/\H' p.1=none/\p.1≠(zR X sc T idx HH.objs.size s2 H2 fp).env.locals/\p.1∉(zR X sc T idx HH.objs.size s2 H2 fp).fs/\ ∀v,p.2.data≠.cell v:=
   λ{H' s'} e1 e2 p hp=>by
    have ep:p=(s2.heap.objs.size,{cls:=.type "list",data:=.seq its.toArray n}):=by simpa using hp
    subst ep;exact⟨e1,e2,hDC,hDfs,λv z=>by cases z⟩
  have P3:Inv _ [_] (τ++vH σ idx) H3 s3:=I3.pins_of (pinD eD3 nD3)
  have stat: ∀{H':Hp},(∀b∈fp,H' b=none)-> ∀b∈fp,rO _ [_] H' b:=λ{H'} hn b hb=>by
   have hb2:=hlt b hb;refine⟨hn b hb,Nat.ne_of_lt (Nat.lt_of_lt_of_le hb2 hCle),I3.ok.exfs b hb,.inl hb,λx c e=>?_,λp hp=>?_⟩
   .rcases aF e with z|z
    .exact Nat.ne_of_gt (lt_trans hb2 (rR z hCle))
    .exact(f2 b hb).2.2.2.2.1 x c (kP I2 cf z)
   have ep:p=(s2.heap.objs.size,({cls:=.type "list",data:=.seq its.toArray n}:Obj)):=by simpa [zR]using hp
   subst ep;exact Nat.ne_of_gt hb2
  rcases alt with⟨stop,q⟩|⟨go,hl2,step⟩
  .refine wO (Tn.done (zR X sc T idx HH.objs.size s2 H2 fp) rfl rfl rfl (hCx _ _ _ _ _ _ I2) i _ s3 _ H3 (λ_ _=>False) P3 (stat fr3) st3 stop) λr s4 ⟨hr,I4⟩=>?_;subst hr;obtain⟨m,hn,_⟩:=id I4.loc;exact fin _ _ s4 _ _ (λh' hs'=>OX I2 hCle f2 (I4.pins_of (λp hp=>nomatch hp)) hs' (Nat.le_refl _) hDC ((I4.pin (s2.heap.objs.size,{cls:=.type "list",data:=.seq its.toArray n}) (by simp)).1) nD3 r3 hz) (I2.fpOk hCle (by rw[zK (Ne.symm hDC)];exact I4.free)) ⟨m,hn⟩ (q _ nD3)
  .refine wO (Tn.item (zR X sc T idx HH.objs.size s2 H2 fp) rfl rfl rfl (hCx _ _ _ _ _ _ I2) i _ s3 _ H3 (λ_ _=>False) P3 (stat fr3) st3 go) λr s4 ⟨u,hr,h4⟩=>?_;subst hr;refine wO h4 λ_ s5 ⟨x,H5,I5,r5,y5,st5,fr5⟩=>?_;refine wO (hg HH.objs.size s2 H2 fp _ s5 _ H5 x u _ (I5.pinned (stat fr5) (Tn.obj _ _ st5)) r5 (step x H5 y5 τ hτ)) λ_ s6 ⟨σ6,H6,I6,⟨τ',e6,l6⟩,q6⟩=>?_;subst e6;refine wO (hc HH.objs.size s2 H2 fp _ s6 _ H6 _ I6 (q6 HH.objs.size s2 fp)) λok s7 ⟨H7,I7,q7⟩=>?_
   have mD:(s2.heap.objs.size,({cls:=.type "list",data:=.seq its.toArray n}:Obj))∈(zR X sc T idx HH.objs.size s2 H2 fp).pn++([(s2.heap.objs.size,{cls:=.type "list",data:=.seq its.toArray n})]++rP fp s5.heap):=
    List.mem_append_right _ (mem_append_left _ (by simp))
   have mF: ∀b∈fp, ∀o,s5.heap.get? b=some o->(b,o)∈(zR X sc T idx HH.objs.size s2 H2 fp).pn++([(s2.heap.objs.size,{cls:=.type "list",data:=.seq its.toArray n})]++rP fp s5.heap):=λb hb o e=>
    List.mem_append_right _ (List.mem_append_right _ (rQ hb e))
   cases ok with
   |false=>
    rw[iN xF0]at q7 ⊢;obtain⟨m',hm',w7⟩:=q7;refine⟨m',hm',i+1,ys,its,n,H7,τ',I7.pins_of (λp hp=>nomatch hp),l6,Tn.keep _ _ _ st5 λb hb o e=>(I7.pin _ (mF b hb o e)).1,λb hb=>?_,(I7.pin _ mD).1,(I7.pin _ mD).2.1,r3,w7⟩;obtain⟨o,e,d⟩:=Tn.obj _ _ st5 b hb;exact(I7.pin _ (mF b hb o e)).2.1
   |true=>
    rw[iP rfl]at q7 ⊢;refine wO (he HH.objs.size s2 H2 fp _ s7 _ H7 _ I7 q7) λy s8 ⟨yv,H8,I8,r8,m',hm',w8⟩=>?_;have eD8:=(I8.pin _ mD).1;have nD8:=(I8.pin _ mD).2.1;have hl:=r3.length;have q:=PySem.IsL.update eD8 (λz=>z.push y);rw[show its.toArray.push y=(its++[y]).toArray by simp]at q;refine call_meets PySem.F.slot_list_append ⟨_,eD8,rfl⟩ PySem.F.entry_list_append (PySem.F.args_list_append_2 _ _) (PySem.list_append s2.heap.objs.size its.toArray n y (by rw[sA];lia)) ⟨eD8,?_⟩;have I9:Inv _ [] (τ'++vH σ idx) H8 s8:=I8.pins_of (λp hp=>nomatch hp);have up: ∀b o,b≠s2.heap.objs.size->s8.heap.get? b=some o->(s8.heap.update s2.heap.objs.size (Obj.mapSeq λz=>z.push y)).get? b=some o:=λb o hb e=>(Heap.get?_update_other s8.heap _ (Ne.symm hb)).trans e;refine⟨m',hm',i+1,_,_,_,H8,τ',I9.turned up nD8 hDC (.inr (Nat.le_refl _)) cD (λp hp=>nomatch hp),l6,?_,λb hb=>?_,q,nD8,r3.append (.cons r8 .nil),w8⟩
    .exact Tn.keep _ _ _ st5 λb hb o e=>up b o (Nat.ne_of_lt (hlt b hb)) (I8.pin _ (mF b hb o e)).1
    .obtain⟨o,e,d⟩:=Tn.obj _ _ st5 b hb;exact(I8.pin _ (mF b hb o e)).2.1
 exact codeAny_compStart_list (loop _ rfl) (Tn.self X.A 0 _ _ _ (Tn.keep _ _ _ st2 λb _ o e=>old b o e) (loop _ rfl))
def Di{C:Cx->Prop}{elt tg iter:Expr}{ifs:Uc}{pos:Pos}{sc:Scope}{wi:TI}{g:TG}{tc:Addr->Shared->Hp->List Addr->TT}{te:Addr->Shared->Hp->List Addr->TE}(T:Th)(idx:Db)
  (hi:Pp C X tg iter wi) (hCx: ∀c s₂ H2 fp pins σ,Inv X pins σ H2 s₂->C (zR X sc T idx c s₂ H2 fp)) (hB:qY X.env.scope X.N sc idx=true)
  (hg: ∀C s₂ H1 fp,PG (zR X sc T idx C s₂ H1 fp) tg g)
  (hc: ∀C s₂ H1 fp,US (zR X sc T idx C s₂ H1 fp) ifs (tc C s₂ H1 fp))
  (he: ∀C s₂ H1 fp,PE (zR X sc T idx C s₂ H1 fp) elt (te C s₂ H1 fp))
  (hs: ∀x,foldedSetIterable iter X.env x=pure x:=by intro _;rfl):
  PE X (.ListComp elt [⟨tg,iter,ifs,0⟩] sc pos) (XR wi g tc te T.length idx):=by
 intro pins s σ H Q I h;exact KU T idx hi hCx hB hg hc he hs I h λD C s4 H' r J _ ⟨m,hn⟩ q=>⟨m,hn,λh' hs'=>⟨.ref D,H',J h' hs',rfl,q⟩⟩
end
def bN(x:Db):Str:=⟨x.toArray⟩
def cQ(x:Db):(bN x).length=x.length:=by simp[bN,Str.length]
def IP(x:Db):(bN x).cps.toList=x:=by simp[bN]
def BM{x y:Db}(h:bN x=bN y):x=y:=by have:=congrArg (λs=>s.cps.toList) h;simpa [bN]using this
def Dj(x y:Db):bN x++bN y=bN (x++y):=by show Str.append _ _=_;simp[Str.append,bN]
theorem Dk(c:Nat):(⟨#[c]⟩:Str)=bN [c]:=rfl
def aG{α:Type}(xs:List α)(lo hi:Ub):List α:=(xs.drop (HT.sIx xs.length 0 lo)).take (HT.sIx xs.length xs.length hi - HT.sIx xs.length 0 lo)
theorem strIdx(lo hi:Ub)(n:Nat):Builtin.Str.strSliceIndices lo hi 1 n=(List.range (HT.sIx n n hi - HT.sIx n 0 lo)).map (HT.sIx n 0 lo+·):=by
 have e1:(match lo with |none=>(if(1:Int)>0 then(0:Int)else(n:Int) - 1)|some i=>if(1:Int)>0 then max 0 (min (if i<0 then i+(n:Int)else i) (n:Int))else max (-1) (min (if i<0 then i+(n:Int)else i) ((n:Int) - 1)))=((HT.sIx n 0 lo:Nat):Int):=by
  cases lo with
  |none=>simp[HT.sIx]
  |some i=>
   simp only[HT.sIx,show(1:Int)>0 by decide,if_true];by_cases h:i<0
   .simp only[h,if_true];lia
   .simp only[h,iF];lia
 have e2:(match hi with |none=>(if(1:Int)>0 then(n:Int)else -1)|some i=>if(1:Int)>0 then max 0 (min (if i<0 then i+(n:Int)else i) (n:Int))else max (-1) (min (if i<0 then i+(n:Int)else i) ((n:Int) - 1)))=((HT.sIx n n hi:Nat):Int):=by
  cases hi with
  |none=>simp[HT.sIx]
  |some i=>
   simp only[HT.sIx,show(1:Int)>0 by decide,if_true];by_cases h:i<0
   .simp only[h,if_true];lia
   .simp only[h,iF];lia
 rw[<-sliceRange_one];unfold Builtin.Str.strSliceIndices;rw[<-e1, <-e2];cases lo<;>cases hi<;>rfl
theorem UU(x:Db)(lo hi:Ub):Txt.slice (bN x) lo hi=bN (aG x lo hi):=by
 unfold Txt.slice;rw[strIdx,cQ];have hp:=by have:=pick_run (bN x).cps (HT.sIx x.length 0 lo) (HT.sIx x.length x.length hi - HT.sIx x.length 0 lo);exact this
 rw[hp];split
 .rename_i hc;rw[aE]at hc;have hl:=by simpa using hc.2
  have h2:HT.sIx x.length x.length hi<=x.length:=HT.sIx_le _ _ (Nat.le_refl _) _;have h3:HT.sIx x.length 0 lo<=x.length:=HT.sIx_le _ _ (zero_le _) _;have e:HT.sIx x.length 0 lo=0:=by lia
  unfold aG;rw[hl,e];simp
 .rfl
section
variable{X:Cx}
def rSlS:V->Option Int->Option Int->Hp->VK->Prop:=λx lo hi H Q=> ∃cs,x=.str (bN cs)/\cs.length<=sizeLine/\Q (.str (bN (aG cs lo hi))) H
def Lb:SlR X rSlS:=by
 intro pins s σ H x v vl vu lo hi sl Q I rx hs pl pu h;obtain⟨cs,rfl,hz,q⟩:=h;obtain⟨t,rfl⟩:=rx;have hl:(Txt.slice (bN cs) lo hi).length<=sizeLine:=Nat.le_trans (Txt.slice_le _ _ _) (by rw[cQ];exact hz);rw[<-UU]at q;refine⟨"str",_,slot_str_getitem.lookup,typeIs_str _ _ _,?_⟩;obtain⟨o,ho,hc,hd⟩:=hs
 cases pl with
 |none=>
  cases pu with
  |none=>exact wpAny_getItem_str_slice (l:=none) (u:=none) (st:=none) ⟨o,ho,hc,hd⟩ rfl (post_val_or_str ⟨hl,λt' k=>⟨.str _,H,I.tok _,⟨_,rfl⟩,q⟩⟩)
  |int j uj=>exact wpAny_getItem_str_slice (l:=none) (u:=some (j,uj)) (st:=none) ⟨o,ho,hc,hd⟩ rfl (post_val_or_str ⟨hl,λt' k=>⟨.str _,H,I.tok _,⟨_,rfl⟩,q⟩⟩)
 |int i ui=>
  cases pu with
  |none=>exact wpAny_getItem_str_slice (l:=some (i,ui)) (u:=none) (st:=none) ⟨o,ho,hc,hd⟩ rfl (post_val_or_str ⟨hl,λt' k=>⟨.str _,H,I.tok _,⟨_,rfl⟩,q⟩⟩)
  |int j uj=>exact wpAny_getItem_str_slice (l:=some (i,ui)) (u:=some (j,uj)) (st:=none) ⟨o,ho,hc,hd⟩ rfl (post_val_or_str ⟨hl,λt' k=>⟨.str _,H,I.tok _,⟨_,rfl⟩,q⟩⟩)
def nZ:OpR X (compareOp .LtE) (λx y H Q=> ∃i j,x=.str i/\y=.str j/\Q (.bl (!(j.cps.toList<i.cps.toList))) H):=by intro pins s σ H x y v u Q I rx ry h;obtain⟨i,j,rfl,rfl,q⟩:=h;obtain⟨t,rfl⟩:=rx;obtain⟨t',rfl⟩:=ry;exact PySem.P.le_str ⟨.bl _,H,I,rfl,q⟩
def IQ(cs:Db)(k:Int):List Nat:=(List.replicate k.toNat cs).flatten
theorem vI(cs:Db): ∀(k:Nat)(acc:Db),List.foldl (λx1 x2=>x1++x2) acc.toArray (List.replicate k cs.toArray)=(acc++(List.replicate k cs).flatten).toArray
 |0,acc=>by simp
 |k+1,acc=>by rw[replicate_succ,replicate_succ,flatten_cons, <-aA, <-vI cs k _];simp
theorem OY:OpR X (binaryOp .Mult) (λx y H Q=> ∃cs k,x=.str (bN cs)/\y=.int k/\0<=k/\k<1000/\cs.length<=1000/\Q (.str (bN (IQ cs k))) H):=by
 intro pins s σ H x y v u Q I rx ry h;obtain⟨cs,k,rfl,rfl,h0,h1,hc,q⟩:=h;obtain⟨t,rfl⟩:=rx;obtain⟨t',rfl⟩:=ry;have hs:=sizeLine_eq;have hprod:cs.length * k.toNat<=1000 * 1000:=Nat.mul_le_mul hc (by lia);refine PySem.P.mul_str (by rw[dF0 (by lia),dF0 (by lia)];rfl) (λh2 _=>?_) (λ_ _=>?_) ?_
 .rw[cQ]
  have:(1000:Int)<=(2 ^ 63 - 1) / k:=by
   rw[Int.le_ediv_iff_mul_le (by lia)]
   lia
  lia
 .rw[cQ];exact dF0 (by lia)
 .have made: ∀(z:Str),z=bN _->z.length<=sizeLine->(Made.str z).post (EP X pins σ Q) s:=λz ez hz=>⟨hz,by rw[ez];exact⟨.str _,H,I.tok _,⟨_,rfl⟩,q⟩⟩
  have hlen:(IQ cs k).length=k.toNat * cs.length:=by unfold IQ;rw[len_rep]
  by_cases hn:k<1
  .rw[iP hn];have hk:k.toNat=0:=by lia
   refine made _ ?_ (by decide);unfold IQ;rw[hk];rfl
  .rw[iN hn];by_cases h3:(k==1 || (bN cs).length==0)=true
   .rw[iP h3];refine⟨.str _,H,I,⟨_,rfl⟩,?_⟩
    have:IQ cs k=cs:=by
     unfold IQ;rw[Bool.or_eq_true]at h3;rcases h3 with h3|h3
     .have:=by simpa using h3
      subst this;simp
     .rw[cQ]at h3;have:cs=[]:=by cases cs with |nil=>rfl|cons _ _=>simp at h3
      subst this;simp
    rw[this]at q;exact q
   .rw[iN h3];refine made _ ?_ ?_
    .unfold IQ bN;have:=vI cs k.toNat [];rw[List.nil_append]at this;exact congrArg Str.mk this
    .have e3:(List.foldl (λx1 x2=>x1++x2) #[] (List.replicate k.toNat (bN cs).cps))=(IQ cs k).toArray:=by have:=vI cs k.toNat [];rw[List.nil_append]at this;exact this
     show(List.foldl (λx1 x2=>x1++x2) #[] _).size<=sizeLine;rw[e3,sA,hlen,Nat.mul_comm]
     lia
def IR:CallR X (.builtin "all") (λxs H Q=> ∃(a:Addr)(bs:Ua),xs=[.ref a]/\SqL X.K H a (bs.map V.bl)/\X.calm=true/\Q (.bl (bs.all id)) H):=by
 intro pins s σ H xs us Q I r h;obtain⟨a,bs,rfl,hq,hc,q⟩:=h;obtain⟨u,rfl,ru⟩:=vals1 r;cases ru;obtain⟨its,rv,pl,hz⟩:=I.list hq;have hlen:its.length=bs.length:=by rw[<-rv.length,lM]
 refine PySem.call_all_walk (wpAny_pyIter_list pl.isList ?_);have hI:a≠s.heap.objs.size:=by obtain⟨o,ho,_⟩:=pl.isList;exact Nat.ne_of_lt (Heap.lt_size ho)
 have I1: ∀(h':Heap)(tk:Nat),(∀b o,b∉[s.heap.objs.size]->(s.heap.push {cls:=.type "list_iterator",data:=.fields #[.ref a,.int 0 0]}).get? b=some o->h'.get? b=some o)->Inv X pins σ H {s with heap:=h',toks:=tk}:=λh' tk k=>
  I.kept λb o e=>k b o (by simpa using Nat.ne_of_lt (Heap.lt_size e)) (hP0 _ e)
 refine⟨_,_,_,_,_,_,λi=>bs.getD i false,rfl,PySem.Walks.list (by first |exact I.ok.hd hc|exact _) _ a hI its.toArray,⟨⟨_,Heap.get?_push_size _ rfl,rfl,rfl⟩,pl.isList.at λo e=>hP0 _ e⟩,?_,λh' tk k=>?_⟩
 .intro i v s' Q' E' hv hQ';have hv':=by simpa using hv
  have hi:i<bs.length:=by rw[<-hlen];exact(gS0.mp hv').1
  have hb:(bs.map V.bl)[i]? =some (V.bl (bs.getD i false)):=by simp[hi]
  obtain⟨u',hu',rv'⟩:=rv.get hb;rw[hv']at hu';cases hu';cases rv';exact wpAny_truthy_bool hQ'
 .refine⟨_,H,I1 h' tk k,?_,q⟩;congr 1;rw[sA,hlen]
  have: ∀(l:Ua),(List.range l.length).all (λi=>l.getD i false)=l.all id:=by
   intro l;rw[Bool.eq_iff_iff,List.all_eq_true,List.all_eq_true];constructor
   .intro h x hx;obtain⟨i,hi,rfl⟩:=List.getElem_of_mem hx;have:=h i (mem_range.mpr hi);simpa [getD_eq_getElem?_getD,hi]using this
   .intro h i hi;have hi':=mem_range.mp hi;have:=h l[i] (getElem_mem hi');simpa [getD_eq_getElem?_getD,hi']using this
  exact this bs
def Qk(x:Db):It:=⟨λi _=>i<x.length,λi H v H'=>H'=H/\ ∃c,x[i]? =some c/\v=.str (bN [c]),λi _=>x.length<=i⟩
def iStr(tl:TE):TI:=λσ H R=>tl σ H λv H1=> ∃x,v=.str (bN x)/\R (Qk x) H1
def KW{P:Program}{w:World}{K:Ud}{tg:Expr}(it:Addr)(ty:String)(x:Db)(t:Tok)(hty:ty="str_ascii_iterator"\/ty="str_iterator"):
  Turn P w K tg (Qk x) [it] it (λi h=>h.IsStrIter it ty (bN x) t i) where
 mem:=by simp
 obj:=λi h st b hb=>by
  have e:=by simpa using hb
  subst e;obtain⟨o,e,c,d⟩:=st;exact⟨o,e,λv z=>by rw[d]at z;cases z⟩
 keep:=λi h h' st k=>let ⟨o,ho,r⟩:=st;⟨o,k it (by simp) o ho,r⟩
 item:=by
  intro X hP hw hK hc i pins s σ H E I hf st hg;subst hP hw hK;obtain⟨f0,f1,f2,f3,f4,f5⟩:=hf it (by simp);have hi:i<x.length:=hg;have hxi:(bN x).cps[i]? =some x[i]:=by simp[bN]
  have fin: ∀(h':Heap),h'.IsStrIter it ty (bN x) t (i+1)->Heap.SameBut it s.heap h'-> ∃u,some (Value.str ⟨#[x[i]]⟩ s.toks)=some u/\
    wpAny (model X.prog X.w) X.A (letOwnedTupleGo tg _ u) (λ_ s2=> ∃y H',Inv X pins σ H' s2/\RelV y u/\(Qk x).yld i H y H'/\s2.heap.IsStrIter it ty _ t _/\ ∀b∈[it],H' b=none) E {s with heap:=h',toks:=s.toks+1}:=λh' st' sb=>by
   obtain⟨o,e,c,d⟩:=id st';refine⟨_,rfl,KQ e c d (by rcases hty with rfl|rfl<;>decide) ⟨.str _,H,(I.turned (λb o hb e=>(sb.2 b hb).trans e) f0 f1 f3 f4 f5),⟨_,rfl⟩,⟨rfl,x[i],by simp[hi],rfl⟩,st',λb hb=>(hf b hb).1⟩⟩
  rcases hty with rfl|rfl
  .exact wpAny_pyNext_ascii_item st hxi λh' st' sb=>fin h' st' sb
  .exact wpAny_pyNext_wide_item st hxi λh' st' sb=>fin h' st' sb
 done:=by
  intro X hP hw hK hc i pins s σ H E I hf st hg;obtain⟨f0,f1,f2,f3,f4,f5⟩:=hf it (by simp);have hi:x.length<=i:=hg;have hxi:(bN x).cps[i]? =none:=by simp[bN,hi]
  rcases hty with rfl|rfl
  .exact wpAny_pyNext_ascii_end (I.ok.hd hc) st hxi λh' eb=>⟨rfl,I.turned (λb o hb e=>eb b o hb e) f0 f1 f3 f4 f5⟩
  .exact wpAny_pyNext_wide_end (I.ok.hd hc) st hxi λh' eb=>⟨rfl,I.turned (λb o hb e=>eb b o hb e) f0 f1 f3 f4 f5⟩
 self:=λ_ _ _ _ _ st h=>by
  rcases hty with rfl|rfl
  .exact wpAny_pyIter_striter_ascii st h
  .exact wpAny_pyIter_striter_wide st h
def Lc{tg l:Expr}{tl:TE}(hl:PE X l tl):PI X tg l (iStr tl):=by
 intro pins s σ H R I h;refine wO (hl pins s σ H _ I h) λv s1 ⟨x,H1,I1,r1,q1⟩=>?_;obtain⟨cs,e,q⟩:=q1;subst e;obtain⟨t,rfl⟩:=r1
 have fp: ∀(o:Obj), ∀b∈[s1.heap.objs.size],rO X pins H1 b:=λo b hb=>by
  have e:b=s1.heap.objs.size:=by simpa using hb
  subst e;exact I1.fpOk (Nat.le_refl _) (I1.hok.fresh (Nat.le_refl _))
 cases ha:(bN cs).cps.all (· <128)
 .refine wpAny_pyIter_wide ha ?_;exact⟨s1.heap.objs.size,[s1.heap.objs.size],_,_,H1,rfl,I1.kept (t':=s1.toks) λb o e=>hP0 _ e,KW _ "str_iterator" cs t (.inr rfl),⟨_,Heap.get?_push_size _ rfl,rfl,rfl⟩,fp default,q⟩
 .refine wpAny_pyIter_ascii ha ?_;exact⟨s1.heap.objs.size,[s1.heap.objs.size],_,_,H1,rfl,I1.kept (t':=s1.toks) λb o e=>hP0 _ e,KW _ "str_ascii_iterator" cs t (.inl rfl),⟨_,Heap.get?_push_size _ rfl,rfl,rfl⟩,fp default,q⟩
end
section
variable{X:Cx}
def PU(X:Cx)(e:Expr)(t:TE):Prop:= ∀(i:Nat)(x:Str)(pos' pos:Pos),X.N.Nodup->X.N[i]? =some x->Loc X.env.scope x->(X.fn x=true\/X.env.scope.names.lookup x=some .local)->
 swapsWith e (some (.Name x pos')) pos.line X.env=pure true->PS X (.Assign [.Name x pos'] e pos) (Kc t (XB i))
def Dl{C:Cx->Prop}{elt tg iter:Expr}{ifs:Uc}{pos:Pos}{sc:Scope}{wi:TI}{g:TG}{tc:Addr->Shared->Hp->List Addr->TT}{te:Addr->Shared->Hp->List Addr->TE}(T:Th)(idx:Db)
  (hi:Pp C X tg iter wi) (hCx: ∀c s₂ H2 fp pins σ,Inv X pins σ H2 s₂->C (zR X sc T idx c s₂ H2 fp)) (hB:qY X.env.scope X.N sc idx=true)
  (hg: ∀C s₂ H1 fp,PG (zR X sc T idx C s₂ H1 fp) tg g)
  (hc: ∀C s₂ H1 fp,US (zR X sc T idx C s₂ H1 fp) ifs (tc C s₂ H1 fp))
  (he: ∀C s₂ H1 fp,PE (zR X sc T idx C s₂ H1 fp) elt (te C s₂ H1 fp))
  (hs: ∀x,foldedSetIterable iter X.env x=pure x:=by intro _;rfl):
  PU X (.ListComp elt [⟨tg,iter,ifs,0⟩] sc pos) (XR wi g tc te T.length idx):=by
 intro i x pos' spos hN hix hx hf hsw pins s σ H D I h;rw[exec_Assign_Name_used _ _ _ _ hsw];refine wB (wpAny_standAt (wB ?_));refine wB (wO (KU T idx hi hCx hB hg hc he hs I h λDd C s4 H' _ J4 fo hm q=>?_) λ_ s' hq=>wP (wP hq));refine wpAny_assign_Name (GO (J4 s4.heap (Heap.SameBut.refl _ _)) hN hix hx (show RelV (.ref Dd) _ from rfl) (λs' I' ⟨a,hs',ha⟩=>?_) hf);obtain⟨m,hm⟩:=hm
 have hCa:C≠a:=by
  rintro rfl;rcases ha with ha|ha
  .exact fo.2.1 ha
  .exact fo.2.2.2.2.1 x _ ha rfl
 refine⟨m,hm.sameBut hs' hCa,λh' hs''=>⟨_,H',?_,q⟩⟩;exact I'.turned (λb o hb e=>(hs''.2 b hb).trans e) fo.1 fo.2.1 fo.2.2.2.1 fo.2.2.2.2.1 fo.2.2.2.2.2
end
end L2
namespace L2
namespace M
open PySem PySem.Spec PyProof.Rows
def XX{A:Around}{s:Shared}{y x:V}{u v:Value}(ry:RelV y u)(rx:RelV x v)(fy:iK y=true)(fx:iK x=true):SeqAt.RcAt A s u v (Da y x)/\SeqAt.RcNeAt A s u v (!Da y x):=by
 cases y with
 |non=>
  cases ry
  cases x with
  |non=>cases rx;exact⟨.none_none,.none_none⟩
  |bl b=>cases rx;exact⟨.none_bool b,.none_bool b⟩
  |int b=>obtain⟨t,rfl⟩:=rx;exact⟨.none_int b t,.none_int b t⟩
  |str b=>obtain⟨t,rfl⟩:=rx;exact⟨.none_str b t,.none_str b t⟩
  |_=>cases fx
 |bl a=>
  cases ry
  cases x with
  |non=>cases rx;exact⟨.bool_none a,.bool_none a⟩
  |bl b=>cases rx;exact⟨.bool_bool a b,.bool_bool a b⟩
  |int b=>obtain⟨t,rfl⟩:=rx;exact⟨.bool_int a b t,.bool_int a b t⟩
  |str b=>obtain⟨t,rfl⟩:=rx;exact⟨.bool_str a b t,.bool_str a b t⟩
  |_=>cases fx
 |int a=>
  obtain⟨t',rfl⟩:=ry
  cases x with
  |non=>cases rx;exact⟨.int_none a t',.int_none a t'⟩
  |bl b=>cases rx;exact⟨.int_bool a t' b,.int_bool a t' b⟩
  |int b=>obtain⟨t,rfl⟩:=rx;exact⟨.int_int a t' b t,.int_int a t' b t⟩
  |str b=>obtain⟨t,rfl⟩:=rx;exact⟨.int_str a t' b t,.int_str a t' b t⟩
  |_=>cases fx
 |str a=>
  obtain⟨t',rfl⟩:=ry
  cases x with
  |non=>cases rx;exact⟨.str_none a t',.str_none a t'⟩
  |bl b=>cases rx;exact⟨.str_bool a t' b,.str_bool a t' b⟩
  |int b=>obtain⟨t,rfl⟩:=rx;exact⟨.str_int a t' b t,.str_int a t' b t⟩
  |str b=>obtain⟨t,rfl⟩:=rx;exact⟨.str_str a t' b t,.str_str a t' b t⟩
  |_=>cases fx
 |_=>cases fy
abbrev Six(A:Around)(s:Shared)(u v:Value):Prop:=SeqAt.EqAt A s u v false/\SeqAt.EqAt A s v u false/\SeqAt.RcAt A s u v false/\SeqAt.RcAt A s v u false/\SeqAt.RcNeAt A s u v true/\SeqAt.RcNeAt A s v u true
def GW{A:Around}{s:Shared}{x:V}{v:Value}{l:Addr}{items:Te}(rx:RelV x v)(fx:iK x=true)(hl:s.heap.IsList l items)(hu:A.units<cLine):Six A s (.ref l) v:=by
 cases x with
 |non=>cases rx;exact⟨.list_none hl hu,.none_list hl hu,.list_none hl hu,.none_list hl hu,.list_none hl hu,.none_list hl hu⟩
 |bl b=>cases rx;exact⟨.list_bool b hl hu,.bool_list b hl hu,.list_bool b hl hu,.bool_list b hl hu,.list_bool b hl hu,.bool_list b hl hu⟩
 |int b=>obtain⟨t,rfl⟩:=rx;exact⟨.list_int b t hl hu,.int_list b t hl hu,.list_int b t hl hu,.int_list b t hl hu,.list_int b t hl hu,.int_list b t hl hu⟩
 |str b=>obtain⟨t,rfl⟩:=rx;exact⟨.list_str b t hl hu,.str_list b t hl hu,.list_str b t hl hu,.str_list b t hl hu,.list_str b t hl hu,.str_list b t hl hu⟩
 |_=>cases fx
def AD{A:Around}{s:Shared}{x:V}{v:Value}{l:Addr}{items:Te}(rx:RelV x v)(fx:iK x=true)(hl:s.heap.IsTuple l items)(hu:A.units<cLine):Six A s (.ref l) v:=by
 cases x with
 |non=>cases rx;exact⟨.tuple_none hl hu,.none_tuple hl hu,.tuple_none hl hu,.none_tuple hl hu,.tuple_none hl hu,.none_tuple hl hu⟩
 |bl b=>cases rx;exact⟨.tuple_bool b hl hu,.bool_tuple b hl hu,.tuple_bool b hl hu,.bool_tuple b hl hu,.tuple_bool b hl hu,.bool_tuple b hl hu⟩
 |int b=>obtain⟨t,rfl⟩:=rx;exact⟨.tuple_int b t hl hu,.int_tuple b t hl hu,.tuple_int b t hl hu,.int_tuple b t hl hu,.tuple_int b t hl hu,.int_tuple b t hl hu⟩
 |str b=>obtain⟨t,rfl⟩:=rx;exact⟨.tuple_str b t hl hu,.str_tuple b t hl hu,.tuple_str b t hl hu,.str_tuple b t hl hu,.tuple_str b t hl hu,.str_tuple b t hl hu⟩
 |_=>cases fx
def XY{y:V}(h:iK y=true):Da y y=true:=by cases y<;>first |rfl|(simp[Da];done)|exact absurd h xF0
abbrev K3:=Option Key
inductive NK where
 |key (k:K3)|tup (ks:List NK)
instance:DecidableEq NK:=λ_ _=>Classical.propDecidable _
section
variable{prog:Program}{w:World}(knd:KeyKind prog w K3)
mutual
def FY(h:Heap):NK->Value->Prop
 |.key k,v=>knd.is k v=true
 |.tup ks,v=> ∃a o items n,v=.ref a/\h.get? a=some o/\o.cls=.type "tuple"/\o.data=.seq items n/\oX h ks items.toList
def oX(h:Heap):List NK->List Value->Prop
 |[],vs=>vs=[]
 |k::ks,vs=> ∃v r,vs=v::r/\FY h k v/\oX h ks r
end
mutual
def AG:NK->Int
 |.key k=>knd.hash k
 |.tup ks=>reduceHash (Builtin.Tuple.tupleHashOf (DA ks))
def DA:List NK->List Int
 |[]=>[]
 |k::ks=>AG k::DA ks
end
mutual
def DB:NK->Nat
 |.key _=>1
 |.tup ks=>bP ks+1
def bP:List NK->Nat
 |[]=>0
 |k::ks=>DB k+bP ks
end
mutual
def iL:NK->Nat
 |.key _=>0
 |.tup ks=>qZ ks+1
def qZ:List NK->Nat
 |[]=>0
 |k::ks=>max (iL k) (qZ ks)
end
variable{knd}
theorem xZ{h:Heap}{k:K3}{v:Value}:FY knd h (.key k) v↔knd.is k v=true:=by unfold FY;exact Iff.rfl
def xR{h:Heap}{ks:List NK}{v:Value}:FY knd h (.tup ks) v↔ ∃a o items n,v=.ref a/\h.get? a=some o/\o.cls=.type "tuple"/\o.data=.seq items n/\oX knd h ks items.toList:=by
 conv=>lhs;unfold FY
theorem wL{h:Heap}{vs:Td}:oX knd h [] vs↔vs=[]:=by unfold oX;exact Iff.rfl
def yH{h:Heap}{k:NK}{ks:List NK}{vs:Td}:oX knd h (k::ks) vs↔ ∃v r,vs=v::r/\FY knd h k v/\oX knd h ks r:=by
 conv=>lhs;unfold oX
mutual
theorem IS{h:Heap}: ∀{x y:NK}{v:Value},FY knd h x v->FY knd h y v->x=y
 |.key k,.key k',v,hx,hy=>by rw[knd.inj v k k' (xZ.mp hx) (xZ.mp hy)]
 |.key k,.tup ks,v,hx,hy=>by obtain⟨a,o,items,n,rfl,_⟩:=xR.mp hy;have:=knd.byValue _ _ (xZ.mp hx);simp[carriedByValue]at this
 |.tup ks,.key k,v,hx,hy=>by obtain⟨a,o,items,n,rfl,_⟩:=xR.mp hx;have:=knd.byValue _ _ (xZ.mp hy);simp[carriedByValue]at this
 |.tup ks,.tup ks',v,hx,hy=>by
  obtain⟨a,o,items,n,e,ho,_,hd,hi⟩:=xR.mp hx;obtain⟨a',o',items',n',e',ho',_,hd',hi'⟩:=xR.mp hy;rw[e]at e';cases e';obtain rfl:o=o':=Option.some.inj (ho.symm.trans ho');rw[hd]at hd';injection hd' with h1 _
  subst h1;rw[KY hi hi']
theorem KY{h:Heap}: ∀{xs ys:List NK}{vs:Td},oX knd h xs vs->oX knd h ys vs->xs=ys
 |[],[],_,_,_=>rfl
 |[],y::ys,vs,hx,hy=>by obtain⟨v,r,e,_⟩:=yH.mp hy;rw[wL.mp hx]at e;cases e
 |x::xs,[],vs,hx,hy=>by obtain⟨v,r,e,_⟩:=yH.mp hx;rw[wL.mp hy]at e;cases e
 |x::xs,y::ys,vs,hx,hy=>by obtain⟨v,r,e,h1,h2⟩:=yH.mp hx;obtain⟨v',r',e',h1',h2'⟩:=yH.mp hy;rw[e]at e';cases e';rw[IS h1 h1',KY h2 h2']
end
mutual
theorem KZ{h h':Heap}(m: ∀a o items n,h.get? a=some o->o.data=.seq items n->h'.get? a=some o): ∀{x:NK}{v:Value},FY knd h x v->FY knd h' x v
 |.key k,v,hx=>xZ.mpr (xZ.mp hx)
 |.tup ks,v,hx=>by obtain⟨a,o,items,n,e,ho,hc,hd,hi⟩:=xR.mp hx;exact xR.mpr ⟨a,o,items,n,e,m a o items n ho hd,hc,hd,GX m hi⟩
theorem GX{h h':Heap}(m: ∀a o items n,h.get? a=some o->o.data=.seq items n->h'.get? a=some o): ∀{xs:List NK}{vs:Td},oX knd h xs vs->oX knd h' xs vs
 |[],vs,hx=>wL.mpr (wL.mp hx)
 |x::xs,vs,hx=>by obtain⟨v,r,e,h1,h2⟩:=yH.mp hx;exact yH.mpr ⟨v,r,e,KZ m h1,GX m h2⟩
end
theorem DC: ∀ks:List NK,DA knd ks=ks.map (AG knd)
 |[]=>by unfold DA;rfl
 |k::ks=>by unfold DA;rw[DC ks];rfl
def DE:bP []=0:=by rw[bP]
def oY(k:NK)(ks:List NK):bP (k::ks)=DB k+bP ks:=by rw[bP]
def rS(k:NK)(ks:List NK):qZ (k::ks)=max (iL k) (qZ ks):=by rw[qZ]
def aH(ks:List NK):iL (.tup ks)=qZ ks+1:=by rw[iL]
theorem rA: ∀(xs ys:List NK),bP (xs++ys)=bP xs+bP ys
 |[],ys=>by rw[DE,List.nil_append,Nat.zero_add]
 |x::xs,ys=>by rw[List.cons_append,oY,oY,rA xs ys];lia
def tE{s:Shared}{ks:List NK}{a:Addr}(h:FY knd s.heap (.tup ks) (.ref a)):s.TypeIs (.ref a) "tuple":=by obtain⟨a',o,_,n,e,ho,hc,_⟩:=xR.mp h;cases e;exact⟨o,ho,hc⟩
theorem LA: ∀(n:Nat){A:Around}{E:VP}{s:Shared}{k:NK}{v:Value}{Q:Int->Shared->Prop},iL k<=n->A.units+n<cLine->FY knd s.heap k v->Q (AG knd k) {s with toks:=s.toks+DB k}->wpAny (model prog w) A (pyHash v) Q E s
 |n,A,E,s,.key k,v,Q,_,_,hk,h=>knd.pyHash (xZ.mp hk) (by rw[DB]at h;exact h)
 |0,A,E,s,.tup ks,v,Q,hd,_,_,_=>by rw[aH]at hd;lia
 |n+1,A,E,s,.tup ks,v,Q,hdep,hu,hk,h=>by
  obtain⟨a,o,_,m,rfl,ho,hc,hd,hi⟩:=xR.mp hk;have hT:s.TypeIs (.ref a) "tuple":=⟨o,ho,hc⟩
  rw[aH]at hdep
  have hdl:=by
   have: ∀ks:List NK,qZ ks<=n-> ∀k∈ks,iL k<=n:=by
    intro ks
    induction ks with
    |nil=>intro _ k hk;simp at hk
    |cons x xs ih=>
     intro hx k hk;rw[rS]at hx;rcases mC.mp hk with rfl|hk
     .lia
     .exact ih (by lia) k hk
   exact this ks (by lia)
  rw[AG,DB,DC]at h
  first |refine wB (wpAny_cRoomFor_or (.inr (by lia)) ?_)|skip
  refine wB (wpAny_specialOf hT F.slot_tuple_hash.lookup ?_);refine wB (wpAny_specialOf hT F.slot_tuple_hash.lookup ?_);refine wB (wpAny_callSpecialIfBoundUnlessNone?_slot hT F.slot_tuple_hash (wpAny_call_entry F.slot_tuple_hash hT F.entry_tuple_hash ?_ (F.args_tuple_hash_1 _)));show wpAny _ _ (Builtin.Tuple.tupleItemsOf _ >>= _) _ _ s;refine wB (wpAny_tupleItemsOf ho hd ?_);refine wB ?_;rw[<-Array.forIn_toList]
  refine wpAny_forIn_list _
   (λrest (b:Array Int) s'=> ∃done left,ks=done++left/\oX knd s.heap left rest/\b.toList=done.map (AG knd)/\s'={s with toks:=s.toks+bP done})
   _ ?_ ?_ _ _ ⟨[],ks,rfl,hi,rfl,by rw[DE];rfl⟩
  .rintro x rest b s' ⟨done,left,rfl,hl,hb,rfl⟩
   cases left with
   |nil=>rw[wL]at hl;cases hl
   |cons k ks'=>
    obtain⟨v,r,e,h1,hl'⟩:=yH.mp hl;cases e;refine wB (LA n (hdl k (by simp)) (by lia) h1 ?_);have e1:bP (done++[k])=bP done+DB k:=by rw[rA,oY];rfl
    first
     |exact wP ⟨done++[k],ks',by simp,hl',by simp[hb],by simp[add_assoc,e1]⟩
     |exact wB _
  .rintro b s' ⟨done,left,rfl,hl,hb,rfl⟩
   cases left with
   |cons k ks'=>obtain⟨v,r,e,_⟩:=yH.mp hl;cases e
   |nil=>
    rw[aN]at h;show wpAny _ _ (retInt _) _ _ _;rw[hb];refine wpAny_ret_mkInt ?_;show wpAny _ _ (if _=true then _ else _) Q E _;unfold reduceHash at h;by_cases hr:(decide (-(2:Int) ^ 63<=Builtin.Tuple.tupleHashOf (done.map (AG knd)))&&decide (Builtin.Tuple.tupleHashOf (done.map (AG knd))<2 ^ 63))=true
    .rw[iP hr];rw[iP hr]at h;exact wP (by simpa [add_assoc]using h)
    .rw[iN hr];rw[iN hr]at h;exact wB (wpAny_rule (wP (by simpa [add_assoc]using h)))
end
section
variable{prog:Program}{w:World}
def UV{A:Around}{E:VP}{s:Shared}{Q:Int->Shared->Prop}(h:Q 0xFCA86420 {s with toks:=s.toks+1}):wpAny (model prog w) A (pyHash .none) Q E s:=by
 refine wB ?_;rw[cRoomFor];refine wP ?_;refine wB (wpAny_specialOf (typeIs_none s) F.slot_NoneType_hash.lookup ?_);refine wB (wpAny_specialOf (typeIs_none s) F.slot_NoneType_hash.lookup ?_)
 refine wB (wpAny_callSpecialIfBoundUnlessNone?_slot (typeIs_none s) F.slot_NoneType_hash
  (wpAny_call_entry F.slot_NoneType_hash (typeIs_none s) F.entry_NoneType_hash
   (wpAny_ret_mkInt ?_) (F.args_NoneType_hash_1 _)))
 show wpAny _ _ _ Q E _;exact wP h
def Ql:K3->Value->Bool
 |some k,v=>iI k v
 |none,v=>v==.none
def iM: ∀{k:K3}{v:Value},Ql k v=true->(∃i t,k=some (.inl i)/\v=Value.int i t)\/(∃x t,k=some (.inr x)/\v=Value.str x t)\/(k=none/\v=.none)
 |some k,v,h=>by
  rcases yD h with⟨i,t,rfl,e⟩|⟨x,t,rfl,e⟩
  .exact .inl ⟨i,t,rfl,e⟩
  .exact .inr (.inl ⟨x,t,rfl,e⟩)
 |none,v,h=>.inr (.inr ⟨rfl,eq_of_beq h⟩)
def mk(prog:Program)(w:World):KeyKind prog w K3 where
 is:=Ql
 hash:=λ|some k=>Ox w k|none=>0xFCA86420
 inj:=λv a b ha hb=>by rcases iM ha with⟨i,t,rfl,rfl⟩|⟨x,t,rfl,rfl⟩|⟨rfl,rfl⟩<;>rcases iM hb with⟨j,u,rfl,e⟩|⟨y,u,rfl,e⟩|⟨rfl,e⟩<;>first |(injection e with e1 _;rw[e1];done)|rfl|exact nomatch e
 byValue:=λk v h=>by rcases iM h with⟨i,t,rfl,rfl⟩|⟨x,t,rfl,rfl⟩|⟨rfl,rfl⟩<;>rfl
 pyHash:=λhv h=>by
  rcases iM hv with⟨i,t,rfl,rfl⟩|⟨x,t,rfl,rfl⟩|⟨rfl,rfl⟩
  .exact wpAny_pyHash_int h
  .exact wpAny_pyHash_str h
  .exact UV h
 eqBool:=λ{A} {E} {s} {a} {b} {u} {v} {Q} hu hv h=>by
  cases a with
  |some a=>
   cases b with
   |some b=>exact(lK prog w).eqBool hu hv (by rw[show decide (some a=some b)=decide (a=b)from by simp]at h;exact h)
   |none=>
    cases eq_of_beq hv;rw[show decide (some a=none)=false from dF0 λz=>nomatch z]at h;rcases yD (show iI a u=true from hu)with⟨i,t,rfl,rfl⟩|⟨x,t,rfl,rfl⟩
    .exact SeqAt.EqAt.int_none i t _ _ _ _ h
    .exact SeqAt.EqAt.str_none x t _ _ _ _ h
  |none=>
   cases eq_of_beq hu
   cases b with
   |some b=>
    rw[show decide (none=some b)=false from dF0 λz=>nomatch z]at h;rcases yD (show iI b v=true from hv)with⟨i,t,rfl,rfl⟩|⟨x,t,rfl,rfl⟩
    .exact SeqAt.EqAt.none_int i t _ _ _ _ h
    .exact SeqAt.EqAt.none_str x t _ _ _ _ h
   |none=>
    cases eq_of_beq hv;rw[show decide ((none:K3)=none)=true from dT0 rfl]at h;exact SeqAt.EqAt.same _ _ _ _ _ h
 «strs»:=λk x t v h=>by
  rcases iM h with⟨i,u,rfl,e⟩|⟨y,u,rfl,e⟩|⟨rfl,e⟩
  .exact nomatch e
  .injection e with e1 _
   subst e1;cases v<;>rfl
  .exact nomatch e
def Dm(a b:K3):decide (NK.key a=NK.key b)=decide (a=b):=by
 by_cases h:a=b
 .subst h;simp
 .rw[dF0 h,dF0 λz=>h (NK.key.inj z)]
def Ld(a:K3)(b:List NK):decide (NK.key a=NK.tup b)=false:=dF0 λz=>nomatch z
def Lf(a:K3)(b:List NK):decide (NK.tup b=NK.key a)=false:=dF0 λz=>nomatch z
def Lg(a b:List NK):decide (NK.tup a=NK.tup b)=decide (a=b):=by
 by_cases h:a=b
 .subst h;simp
 .rw[dF0 h,dF0 λz=>h (NK.tup.inj z)]
def LB{k:K3}{v:Value}(h:(mk prog w).is k v=true): ∃x:V,RelV x v/\iK x=true:=by
 rcases iM h with⟨i,t,rfl,rfl⟩|⟨x,t,rfl,rfl⟩|⟨rfl,rfl⟩
 .exact⟨.int i,⟨t,rfl⟩,rfl⟩
 .exact⟨.str x,⟨t,rfl⟩,rfl⟩
 .exact⟨.non,rfl,rfl⟩
def UW{A:Around}{E:VP}{s:Shared}{x y:List NK}{a b:Addr}{P:Fin->Shared->Prop}
  (he: ∀k1∈x, ∀k2 u v (Q:Bool->Shared->Prop),FY (mk prog w) s.heap k1 u->FY (mk prog w) s.heap k2 v->Q (decide (k1=k2)) s->wpAny (model prog w) A (eqBool u v) Q E s)
  (hx:FY (mk prog w) s.heap (.tup x) (.ref a)) (hy:FY (mk prog w) s.heap (.tup y) (.ref b)) (h:P (.done (.ret (.bool (decide (x=y))))) s):
  wpAny (model prog w) A (Builtin.«tuple.__eq__» ⟨[.ref a,.ref b],[]⟩) P E s:=by
 obtain⟨_,oa,xs,na,e,hoa,_,hda,hia⟩:=xR.mp hx;cases e;obtain⟨_,ob,ys,nb,e,hob,_,hdb,hib⟩:=xR.mp hy;cases e;show wpAny _ _ (isInstance _ _ >>= _) _ _ s;refine wB (wpAny_isInstance (tE hy) isSubtype_tuple_tuple ?_);refine wB (wpAny_tupleItemsOf hoa hda ?_);refine wB (wpAny_tupleItemsOf hob hdb ?_);refine wB ?_
 refine wpAny_forIn_list _
  (λrest r s'=>r.1=none/\s'=s/\ ∃x' y' xs' ys',rest=List.zip xs' ys'/\(∀k∈x',k∈x)/\oX _ s.heap x' xs'/\oX _ s.heap y' ys'/\decide (x'=y')=decide _/\(xs'.length==ys'.length)=(xs.size==ys.size))
  _ ?_ ?_ _ _ ⟨rfl,rfl,x,y,_,_,rfl,λk hk=>hk,hia,hib,rfl,by simp⟩
 .rintro⟨u,v⟩ rest r s' ⟨hr,rfl,x',y',xs',ys',hz,hm,hx',hy',hdec,hlen⟩
  cases x' with
  |nil=>rw[wL.mp hx']at hz;simp at hz
  |cons k1 x''=>
   cases y' with
   |nil=>rw[wL.mp hy']at hz;simp at hz
   |cons k2 y''=>
    obtain⟨u',xs'',rfl,h1,hx''⟩:=yH.mp hx';obtain⟨v',ys'',rfl,h2,hy''⟩:=yH.mp hy';obtain⟨⟨rfl,rfl⟩,rfl⟩:=hz;refine wB (he k1 (hm k1 mF0) k2 _ _ _ h1 h2 ?_);by_cases hk:k1=k2
    .subst hk;simp only[fT];refine wP ⟨rfl,rfl,x'',y'',xs'',ys'',rfl,λk hk=>hm k (mO _ hk),hx'',hy'',?_,by simpa using hlen⟩;rw[<-hdec];by_cases hxy:x''=y''
     .simp[hxy]
     .simp[hxy]
    .rw[dF0 hk];have hf:decide (x=y)=false:=by rw[<-hdec];simp[hk]
     rw[hf]at h;exact wB (wP (wP (wP h)))
 .rintro⟨r1,r2⟩ s' ⟨hr,rfl,x',y',xs',ys',hz,hm,hx',hy',hdec,hlen⟩;subst hr;refine wP ?_
  have hfin:(xs.size==ys.size)=decide (x=y):=by
   rw[<-hdec, <-hlen]
   cases x' with
   |nil=>
    rw[wL.mp hx']
    cases y' with
    |nil=>rw[wL.mp hy'];simp
    |cons k2 y''=>obtain⟨v',ys'',rfl,h2,hy''⟩:=yH.mp hy';simp
   |cons k1 x''=>
    obtain⟨u',xs'',rfl,h1,hx''⟩:=yH.mp hx'
    cases y' with
    |nil=>rw[wL.mp hy'];simp
    |cons k2 y''=>obtain⟨v',ys'',rfl,h2,hy''⟩:=yH.mp hy';simp at hz
  show P (.done (.ret (.bool _))) s';rw[hfin];exact h
theorem DF{n:Nat}: ∀{ks:List NK},qZ ks<=n-> ∀k∈ks,iL k<=n
 |[],_,k,hk=>by simp at hk
 |x::xs,hx,k,hk=>by
  rw[rS]at hx;rcases mC.mp hk with rfl|hk
  .lia
  .exact DF (by lia) k hk
theorem LC: ∀(n:Nat){A:Around}{E:VP}{s:Shared}{x y:NK}{u v:Value}{Q:Bool->Shared->Prop},iL x<=n->A.units+n<cLine->FY (mk prog w) s.heap x u->FY (mk prog w) s.heap y v->Q (decide (x=y)) s->wpAny (model prog w) A (eqBool u v) Q E s
 |n,A,E,s,.key a,.key b,u,v,Q,_,_,hx,hy,h=>(mk prog w).eqBool (xZ.mp hx) (xZ.mp hy) (by rw[Dm]at h;exact h)
 |n,A,E,s,.key a,.tup b,u,v,Q,_,hu,hx,hy,h=>by obtain⟨z,rz,fz⟩:=LB (xZ.mp hx);obtain⟨l,o,_,m,rfl,ho,hc,hd,_⟩:=xR.mp hy;rw[Ld]at h;exact(AD rz fz ⟨o,ho,hc,m,hd⟩ (by lia)).2.1 prog w E Q h
 |n,A,E,s,.tup a,.key b,u,v,Q,_,hu,hx,hy,h=>by obtain⟨z,rz,fz⟩:=LB (xZ.mp hy);obtain⟨l,o,_,m,rfl,ho,hc,hd,_⟩:=xR.mp hx;rw[Lf]at h;exact(AD rz fz ⟨o,ho,hc,m,hd⟩ (by lia)).1 prog w E Q h
 |0,A,E,s,.tup a,.tup b,u,v,Q,hd,_,hx,hy,h=>by rw[aH]at hd;lia
 |n+1,A,E,s,.tup x,.tup y,u,v,Q,hd,hu,hx,hy,h=>by
  obtain⟨a,_,_,_,ea,_⟩:=xR.mp hx;obtain⟨b,_,_,_,eb,_⟩:=xR.mp hy;subst ea eb;rw[aH]at hd;rw[Lg]at h;unfold eqBool
  try with_reducible refine wpAny_holding ?_
  by_cases hab:(Value.ref a==Value.ref b)=true
  .rw[iP hab];have e:=by have:=eq_of_beq hab;injection this
   subst e;have:=NK.tup.inj (IS hx hy);subst this;exact wB (wpAny_rule (wP (by simpa using h)))
  .rw[iN hab]
   refine wB (wpAny_richCompare_same_room (tE hx) (tE hy) F.slot_tuple_eq
    (wpAny_call_entry F.slot_tuple_eq (tE hx) F.entry_tuple_eq (UW (λk1 hk1 k2 u v Q h1 h2 h3=>LC n (DF (by lia) k1 hk1) (by lia) h1 h2 h3) hx hy ⟨_,rfl,(λe=>nomatch e),wpAny_truthy_bool h⟩) (F.args_tuple_eq_2 _ _)) (by lia))
theorem RJ: ∀(n m:Nat){A:Around}{E:VP}{s:Shared}{x:NK}{u:Value}{Q:Bool->Shared->Prop},iL x<=n->n<m->FY (mk prog w) s.heap x u->Q true s->wpAny (model prog w) A (eqIsQuiet m u) Q E s
 |n,m,A,E,s,.key k,u,Q,_,_,hx,h=>by rw[eqIsQuiet_byValue m ((mk prog w).byValue _ _ (xZ.mp hx))];exact wP h
 |0,m,A,E,s,.tup ks,u,Q,hd,_,hx,h=>by rw[aH]at hd;lia
 |n+1,0,A,E,s,.tup ks,u,Q,hd,hm,hx,h=>by lia
 |n+1,m+1,A,E,s,.tup ks,u,Q,hdp,hm,hx,h=>by
  obtain⟨a,o,_,j,rfl,ho,hc,hd,hi⟩:=xR.mp hx;have hT:s.TypeIs (.ref a) "tuple":=⟨o,ho,hc⟩
  rw[aH]at hdp;unfold eqIsQuiet;refine wB (wpAny_specialOf hT F.slot_tuple_eq.lookup ?_);refine wB (wpAny_isInstance hT isSubtype_tuple_tuple ?_);refine wB (wpAny_seqItems ho hd ?_);refine wB ?_;rw[<-Array.forIn_toList];refine wpAny_forIn_list _ (λrest r s'=>r.1=none/\s'=s/\ ∃left,(∀k∈left,k∈ks)/\oX _ s.heap left rest) _ ?_ ?_ _ _ ⟨rfl,rfl,ks,λk hk=>hk,hi⟩
  .rintro v rest r s' ⟨hr,rfl,left,hm',hl⟩
   cases left with
   |nil=>rw[wL]at hl;cases hl
   |cons k left=>
    obtain⟨v',r',e,h1,h2⟩:=yH.mp hl;cases e;refine wB (RJ n m (DF (by lia) k (hm' k mF0)) (by lia) h1 ?_);exact wP ⟨rfl,rfl,left,λk hk=>hm' k (mO _ hk),h2⟩
  .rintro⟨r1,r2⟩ s' ⟨hr,rfl,_⟩;subst hr;exact wP h
end
def iO(prog:Program)(w:World):HeapKind prog w NK where
 is:=λh k a=>FY (mk prog w) h k (.ref a)/\iL k<=4
 hash:=AG (mk prog w)
 draws:=DB
 room:=λA=>A.units+4<cLine
 inj:=λhx hy=>IS hx.1 hy.1
 keeps:=λx ho hd hs=>⟨KZ (λa o' items n e q=>(hs.2 a λz=>by subst z;rw[ho]at e;cases e;rw[hd]at q;cases q).trans e) x.1,x.2⟩
 pyHash:=λhu hk h=>LA 4 hk.2 hu hk.1 h
 eqBool:=λhu hx hy h=>LC 4 hx.2 hu hx.1 hy.1 h
 quiet:=λhk h=>RJ 4 8 hk.2 (by decide) hk.1 h
def DN(P:Program)(w:World)(a:Addr)(xs:List (NK×Addr×Value)):HO:=
 .ext λh=>xs.length<=sizeLine/\(a==sysModules)=false/\ ∃o es ep,h.get? a=some o/\o.ExactDict/\o.data=.dict es ep/\es.toList=xs.map (entryOfKey (iO P w))/\(xs.map (·.1)).Nodup
end M
end L2
namespace L2
open PySem PySem.Spec PyProof.Rows
def Fly(h:Heap)(e T:Addr)(cls:Value)(d:Option Addr)(fl:Value):Prop:=
 ∃oe vs oT ts,h.get? e=some oe/\oe.cls=cls/\oe.dict=d/\oe.data=.fields vs/\vs[1]? =some (.ref T)/\T≠e/\h.get? T=some oT/\oT.data=.fields ts/\ts[3]? =some fl/\vs[2]? =some .none
structure Mvd(fs:Tg)(e T:Addr)(h h':Heap):Prop where
 keep: ∀b o,b≠e->b≠T->b∉fs->h.get? b=some o->h'.get? b=some o
 slot: ∀b o,b≠e->b≠T->h.get? b=some o-> ∃sl,h'.get? b=some {o with slots:=sl}
 there: ∀b o,h.get? b=some o-> ∃o',h'.get? b=some o'
def Mvd.new{fs:Tg}{e T T':Addr}{h h1 h2:Heap}(a:Mvd fs e T h h1)(n:h.get? T'=none)(b:Mvd fs e T' h1 h2):Mvd fs e T h h2:=by
 have ne: ∀c o,h.get? c=some o->c≠T':=λc o q z=>by rw[z,n]at q;cases q
 exact⟨λc o h1 h2 h3 q=>b.keep c o h1 (ne c o q) h3 (a.keep c o h1 h2 h3 q),λc o h1 h2 q=>by obtain⟨sl,e1⟩:=a.slot c o h1 h2 q;obtain⟨sl',e2⟩:=b.slot c _ h1 (ne c o q) e1;exact⟨sl',e2⟩,λc o q=>let ⟨o',e1⟩:=a.there c o q;b.there c o' e1⟩
def CXe(P:Program)(w:World):OS:=λouter H s E x s'=> ∃e T C d H',x=.ref e/\s'.os=s.os/\AllBare s'.gens/\Un (WS outer) [] H H' s.heap s'.heap/\HOk P w H' s'.heap/\Fly s'.heap e T (.ref C) d .none/\
 s.heap.get? e=none/\s.heap.get? T=none/\H' e=none/\H' T=none/\E (.ref C) d H'
abbrev Ss:List Value:=[.type "ValueError",.type "Exception",.type "BaseException",.type "object"]
def qn:List Str:=["__class__","__getattribute__","__getattr__","__setattr__","place","ring"]
end L2
namespace L2
namespace M
open PySem PySem.Spec PyProof.Rows
structure NDef where
 nm:Str
 q:Str
 ps:Arguments
 bd:List Stmt
 sc:Scope
def NDef.fr(n:NDef):List Str:=n.sc.names.filterMap λy=>if y.2==.free then some y.1 else none
inductive MV where
 |clo (n:NDef) (ds:List MV)|non|bl (b:Bool)|int (i:Int)|str (x:Db)|tup (ds:List MV)|scr (ds:List MV)|loc (l:Nat)|typ (n:String)|obj (c:Str) (ns:Th) (ds:List MV)
abbrev Ug:=List MV
abbrev Uh:=Option MV
abbrev Uj:=List (Nat×List MV)
abbrev Uk:=List (MV×MV)
instance:Inhabited MV:=⟨.non⟩
def CelH(H:Hp)(c:Addr)(u:Value):Prop:= ∃o,H c=some (.frz o (.ext λh=>h.get? c=some o))/\o.data=.cell (some u)
def CloH(H:Hp)(a:Addr)(n:NDef)(vs:List V):Prop:= ∃(o:Obj)(cl:List (Str×Addr))(doc pm ct:Value)(c:Addr),
 H a=some (.frz o (.frz o (.ext λh=>h.get? a=some o)))/\o.data=.func (PySem.W.fnX n.nm n.q n.ps n.bd n.sc cl .none .none doc pm none (.ref c) ct)/\
 (∃oc ws t,H c=some (.frz oc (.ext λh=>h.get? c=some oc))/\oc.data=.fields ws/\ws[1]? =some (.str n.q t))/\(∀x y c,cl.lookup x=some c->cl.lookup y=some c->x=y)/\(∀x c,cl.lookup x=some c-> ∃u,CelH H c u)/\
 vs.length=n.fr.length/\ ∀(i:Nat)(x:Str)(v:V),n.fr[i]? =some x->vs[i]? =some v-> ∃c u,cl.lookup x=some c/\CelH H c u/\RelV v u
inductive MO where
 |lst (ds:Ug)|dic (kvs:Uk)|ins (c:Str) (fs:List (Str×MV))|rcd (c:Str) (fs:List (Str×MV))|fdc (kvs:Uk)
abbrev Sto:=List MO
def SqF(K:Ud)(H:Hp)(a:Addr)(xs:List V):Prop:=
 (∃o,H a=some (.frz o (.lst xs)))\/
  ∃(o:Obj)(its:Te)(n:Nat),K.lookup a=some o/\o.cls=.type "list"/\o.dict=none/\o.data=.seq its n/\its.size<=sizeLine/\Vals xs its.toList
def SqF.l{K:Ud}{H:Hp}{a:Addr}{xs:List V}(h:SqF K H a xs):SqL K H a xs:=by
 rcases h with⟨o,h⟩|h
 .exact .inl (.inr ⟨o,h⟩)
 .exact .inr h
mutual
def Den(K:Ud)(α:Tg)(H:Hp):MV->V->Prop
 |.non,v=>v=.non
 |.bl b,v=>v=.bl b
 |.int i,v=>v=.int i
 |.str x,v=>v=.str (bN x)
 |.tup ds,v=> ∃a vs,v=.ref a/\SqT K H a vs/\DenL K α H ds vs
 |.scr ds,v=> ∃a vs,v=.ref a/\SqF K H a vs/\DenL K α H ds vs
 |.loc l,v=> ∃a,v=.ref a/\α[l]? =some a
 |.typ n,v=>v=.ty n
 |.clo n ds,v=> ∃a vs,v=.ref a/\CloH H a n vs/\DenL K α H ds vs
 |.obj c ns ds,v=> ∃a C dx vs o,v=.ref a/\H a=some (.frz o (.ins C dx (ns.zip vs)))/\PySem.W.nsIn K mainGlobals c=some (some (.ref C))/\(PySem.W.clsIn K C).map (·.name)=some c/\ns.length=vs.length/\DenL K α H ds vs
def DenL(K:Ud)(α:Tg)(H:Hp):List MV->List V->Prop
 |[],vs=>vs=[]
 |d::ds,vs=> ∃v r,vs=v::r/\Den K α H d v/\DenL K α H ds r
end
structure Ex0(α:Tg)(H:Hp)(α':Tg)(H':Hp):Prop where
 pre: ∃t,α'=α++t
 tup: ∀b xs,H b=some (.tup xs)->H' b=some (.tup xs)
 frz: ∀b o u,H b=some (.frz o u)->H' b=some (.frz o u)
structure Ext(α:Tg)(H:Hp)(α':Tg)(H':Hp):Prop extends Ex0 α H α' H' where
 new: ∀b∈α',b∈α\/H b=none
 keep: ∀b o,H b=some o->b∉α->H' b=some o
 has: ∀b o,H b=some o-> ∃o',H' b=some o'
section
variable{K:Ud}{α α' α'':Tg}{H H' H'':Hp}
def Ext.refl(α:Tg)(H:Hp):Ext α H α H:=⟨⟨⟨[],by simp⟩,λ_ _ h=>h,λ_ _ _ h=>h⟩,λb h=>.inl h,λ_ _ h _=>h,λ_ o h=>⟨o,h⟩⟩
def Ex0.grow(α t:Tg)(H:Hp):Ex0 α H (α++t) H:=⟨⟨t,rfl⟩,λ_ _ h=>h,λ_ _ _ h=>h⟩
def Ext.free(x:Ext α H α' H'){b:Addr}(h:H' b=none):H b=none:=by
 cases e:H b with
 |none=>rfl
 |some o=>obtain⟨o',h'⟩:=x.has b o e;rw[h]at h';cases h'
def Ext.out(x:Ext α H α' H'){b:Addr}{o:HO}(h:H b=some o)(n:b∉α):b∉α':=λz=>by
 rcases x.new b z with z|z
 .exact n z
 .rw[h]at z;cases z
def Ext.trans(x:Ext α H α' H')(y:Ext α' H' α'' H''):Ext α H α'' H'' where
 pre:=by obtain⟨t,rfl⟩:=x.pre;obtain⟨u,rfl⟩:=y.pre;exact⟨_,by rw[aA]⟩
 new:=λb h=>(y.new b h).elim (x.new b) λz=>.inr (x.free z)
 keep:=λb o h n=>y.keep b o (x.keep b o h n) (x.out h n)
 has:=λb o h=>let ⟨o',h'⟩:=x.has b o h;y.has b o' h'
 tup:=λb xs h=>y.tup b xs (x.tup b xs h)
 frz:=λb o u h=>y.frz b o u (x.frz b o u h)
def Ex0.at(x:Ex0 α H α' H'){l:Nat}{a:Addr}(h:α[l]? =some a):α'[l]? =some a:=by obtain⟨t,rfl⟩:=x.pre;rw[getElem?_append_left (gS0.mp h).1];exact h
def Ex0.sqT(x:Ex0 α H α' H'){a:Addr}{vs:List V}(q:SqT K H a vs):SqT K H' a vs:=by
 rcases q with(q|⟨o,q⟩)|q
 .exact .inl (.inl (x.tup a vs q))
 .exact .inl (.inr ⟨o,x.frz a o _ q⟩)
 .exact .inr q
def Ex0.sqF(x:Ex0 α H α' H'){a:Addr}{vs:List V}(q:SqF K H a vs):SqF K H' a vs:=by
 rcases q with⟨o,q⟩|q
 .exact .inl ⟨o,x.frz a o _ q⟩
 .exact .inr q
def CelH.fz{H H':Hp}(x: ∀b o u,H b=some (.frz o u)->H' b=some (.frz o u)){c:Addr}{u:Value}(q:CelH H c u):CelH H' c u:=let ⟨o,h,d⟩:=q;⟨o,x _ _ _ h,d⟩
def CloH.fz{H H':Hp}(x: ∀b o u,H b=some (.frz o u)->H' b=some (.frz o u)){a:Addr}{n:NDef}{vs:List V}(q:CloH H a n vs):CloH H' a n vs:=
 let ⟨o,cl,doc,pm,ct,c,h1,h2,⟨oc,ws,t,h3,h4⟩,h5,h6,h7,h8⟩:=q
 ⟨o,cl,doc,pm,ct,c,x _ _ _ h1,h2,⟨oc,ws,t,x _ _ _ h3,h4⟩,h5,λy c e=>let ⟨u,r⟩:=h6 y c e;⟨u,r.fz x⟩,h7,λi y v e1 e2=>let ⟨c,u,r1,r2,r3⟩:=h8 i y v e1 e2;⟨c,u,r1,r2.fz x,r3⟩⟩
mutual
theorem Den.ex0(x:Ex0 α H α' H'): ∀{d:MV}{v:V},Den K α H d v->Den K α' H' d v
 |.non,_,q=>by unfold Den at q ⊢; exact q
 |.bl _,_,q=>by unfold Den at q ⊢; exact q
 |.int _,_,q=>by unfold Den at q ⊢; exact q
 |.str _,_,q=>by unfold Den at q ⊢; exact q
 |.typ _,_,q=>by unfold Den at q ⊢; exact q
 |.clo n ds,_,q=>by unfold Den at q ⊢;obtain⟨a,vs,e,s,l⟩:=q;exact⟨a,vs,e,s.fz x.frz,DenL.ex0 x l⟩
 |.obj c ns ds,_,q=>by unfold Den at q ⊢;obtain⟨a,C,dx,vs,o,e,h,hn,hc,hl,l⟩:=q;exact⟨a,C,dx,vs,o,e,x.frz a _ _ h,hn,hc,hl,DenL.ex0 x l⟩
 |.loc _,_,q=>by unfold Den at q ⊢;obtain⟨a,e,h⟩:=q;exact⟨a,e,x.at h⟩
 |.tup ds,_,q=>by unfold Den at q ⊢;obtain⟨a,vs,e,s,l⟩:=q;exact⟨a,vs,e,x.sqT s,DenL.ex0 x l⟩
 |.scr ds,_,q=>by unfold Den at q ⊢;obtain⟨a,vs,e,s,l⟩:=q;exact⟨a,vs,e,x.sqF s,DenL.ex0 x l⟩
theorem DenL.ex0(x:Ex0 α H α' H'): ∀{ds:Ug}{vs:List V},DenL K α H ds vs->DenL K α' H' ds vs
 |[],_,q=>by unfold DenL at q ⊢; exact q
 |d::ds,_,q=>by unfold DenL at q ⊢;obtain⟨v,r,e,a,l⟩:=q;exact⟨v,r,e,Den.ex0 x a,DenL.ex0 x l⟩
end
def Den.ext(x:Ext α H α' H'){d:MV}{v:V}(q:Den K α H d v):Den K α' H' d v:=q.ex0 x.toEx0
def DenL.ext(x:Ext α H α' H'){d:Ug}{v:List V}(q:DenL K α H d v):DenL K α' H' d v:=q.ex0 x.toEx0
theorem BN:Den K α H .non .non:=by unfold Den;rfl
theorem jF(b:Bool):Den K α H (.bl b) (.bl b):=by unfold Den;rfl
theorem yV(i:Int):Den K α H (.int i) (.int i):=by unfold Den;rfl
theorem lL(x:Db):Den K α H (.str x) (.str (bN x)):=by unfold Den;rfl
theorem RK(n:String):Den K α H (.typ n) (.ty n):=by unfold Den;rfl
def lN{ds:Ug}{a:Addr}{vs:List V}(s:SqT K H a vs)(l:DenL K α H ds vs):Den K α H (.tup ds) (.ref a):=by unfold Den;exact⟨a,vs,rfl,s,l⟩
def RL{ds:Ug}{a:Addr}{vs:List V}(s:SqF K H a vs)(l:DenL K α H ds vs):Den K α H (.scr ds) (.ref a):=by unfold Den;exact⟨a,vs,rfl,s,l⟩
def BO{l:Nat}{a:Addr}(h:α[l]? =some a):Den K α H (.loc l) (.ref a):=by unfold Den;exact⟨a,rfl,h⟩
def bQ{v:V}(d:Den K α H .non v):v=.non:=by unfold Den at d;exact d
def eY{b:Bool}{v:V}(d:Den K α H (.bl b) v):v=.bl b:=by unfold Den at d;exact d
def yW{i:Int}{v:V}(d:Den K α H (.int i) v):v=.int i:=by unfold Den at d;exact d
def xU{x:Db}{v:V}(d:Den K α H (.str x) v):v=.str (bN x):=by unfold Den at d;exact d
def Do{c:Str}{ns:Th}{ds:Ug}{a C dx:Addr}{vs:List V}{o:Obj}(h:H a=some (.frz o (.ins C dx (ns.zip vs))))(hn:PySem.W.nsIn K mainGlobals c=some (some (.ref C)))(hc:(PySem.W.clsIn K C).map (·.name)=some c)(hl:ns.length=vs.length)(l:DenL K α H ds vs):Den K α H (.obj c ns ds) (.ref a):=by unfold Den;exact⟨a,C,dx,vs,o,rfl,h,hn,hc,hl,l⟩
def bR{c:Str}{ns:Th}{ds:Ug}{v:V}(d:Den K α H (.obj c ns ds) v): ∃a C dx vs o,v=.ref a/\H a=some (.frz o (.ins C dx (ns.zip vs)))/\PySem.W.nsIn K mainGlobals c=some (some (.ref C))/\(PySem.W.clsIn K C).map (·.name)=some c/\ns.length=vs.length/\DenL K α H ds vs:=by unfold Den at d;exact d
def RM{n:NDef}{ds:Ug}{a:Addr}{vs:List V}(s:CloH H a n vs)(l:DenL K α H ds vs):Den K α H (.clo n ds) (.ref a):=by unfold Den;exact⟨a,vs,rfl,s,l⟩
def gP{n:NDef}{ds:Ug}{v:V}(d:Den K α H (.clo n ds) v): ∃a vs,v=.ref a/\CloH H a n vs/\DenL K α H ds vs:=by unfold Den at d;exact d
def bS{n:String}{v:V}(d:Den K α H (.typ n) v):v=.ty n:=by unfold Den at d;exact d
def xC{ds:Ug}{v:V}(d:Den K α H (.tup ds) v): ∃a vs,v=.ref a/\SqT K H a vs/\DenL K α H ds vs:=by unfold Den at d;exact d
def gQ{ds:Ug}{v:V}(d:Den K α H (.scr ds) v): ∃a vs,v=.ref a/\SqF K H a vs/\DenL K α H ds vs:=by unfold Den at d;exact d
def jX{l:Nat}{v:V}(d:Den K α H (.loc l) v): ∃a,v=.ref a/\α[l]? =some a:=by unfold Den at d;exact d
theorem yF:DenL K α H [] []:=by unfold DenL;rfl
def yA{d:MV}{v:V}{ds:Ug}{vs:List V}(a:Den K α H d v)(l:DenL K α H ds vs):DenL K α H (d::ds) (v::vs):=by unfold DenL;exact⟨v,vs,rfl,a,l⟩
def DenL.uncons{d:MV}{ds:Ug}{vs:List V}(l:DenL K α H (d::ds) vs): ∃v r,vs=v::r/\Den K α H d v/\DenL K α H ds r:=by unfold DenL at l;exact l
def DenL.isnil{vs:List V}(l:DenL K α H [] vs):vs=[]:=by unfold DenL at l;exact l
theorem DenL.length: ∀{ds:Ug}{vs:List V},DenL K α H ds vs->vs.length=ds.length
 |[],_,q=>by rw[q.isnil];rfl
 |d::ds,_,q=>by obtain⟨v,r,rfl,_,l⟩:=q.uncons;rw[lC,lC,DenL.length l]
theorem DenL.append: ∀{ds es:Ug}{vs us:List V},DenL K α H ds vs->DenL K α H es us->DenL K α H (ds++es) (vs++us)
 |[],_,_,_,q,l=>by rw[q.isnil];exact l
 |d::ds,_,_,_,q,l=>by obtain⟨v,r,rfl,a,l'⟩:=q.uncons;exact yA a (DenL.append l' l)
theorem DenL.drop: ∀{ds:Ug}{vs:List V}(n:Nat),DenL K α H ds vs->DenL K α H (ds.drop n) (vs.drop n)
 |_,_,0,q=>q
 |[],_,n+1,q=>by rw[q.isnil];exact yF
 |d::ds,_,n+1,q=>by obtain⟨v,r,rfl,_,l⟩:=q.uncons;exact DenL.drop n l
theorem DenL.take: ∀{ds:Ug}{vs:List V}(n:Nat),DenL K α H ds vs->DenL K α H (ds.take n) (vs.take n)
 |_,_,0,q=>yF
 |[],_,n+1,q=>by rw[q.isnil];exact yF
 |d::ds,_,n+1,q=>by obtain⟨v,r,rfl,a,l⟩:=q.uncons;exact yA a (DenL.take n l)
theorem DenL.reverse: ∀{ds:Ug}{vs:List V},DenL K α H ds vs->DenL K α H ds.reverse vs.reverse
 |[],_,q=>by rw[q.isnil];exact yF
 |d::ds,_,q=>by obtain⟨v,r,rfl,a,l⟩:=q.uncons;rw[reverse_cons,reverse_cons];exact(DenL.reverse l).append (yA a yF)
theorem DenL.set{d:MV}{v:V}(a:Den K α H d v): ∀{ds:Ug}{vs:List V}(n:Nat),DenL K α H ds vs->DenL K α H (ds.set n d) (vs.set n v)
 |[],_,_,q=>by rw[q.isnil];exact yF
 |e::ds,_,0,q=>by obtain⟨v',r,rfl,a',l⟩:=q.uncons;exact yA a l
 |e::ds,_,n+1,q=>by obtain⟨v',r,rfl,a',l⟩:=q.uncons;exact yA a' (DenL.set a n l)
theorem DenL.get: ∀{ds:Ug}{vs:List V}{i:Nat}{v:V},DenL K α H ds vs->vs[i]? =some v-> ∃d,ds[i]? =some d/\Den K α H d v
 |[],_,_,_,q,e=>by rw[q.isnil]at e;simp at e
 |d::ds,_,0,_,q,e=>by obtain⟨v,r,rfl,a,l⟩:=q.uncons;simp at e;subst e;exact⟨d,rfl,a⟩
 |d::ds,_,i+1,_,q,e=>by obtain⟨v,r,rfl,a,l⟩:=q.uncons;obtain⟨d',h1,h2⟩:=DenL.get l (by simpa using e);exact⟨d',by simpa using h1,h2⟩
def DenL.at{ds:Ug}{vs:List V}{i:Nat}{d:MV}(q:DenL K α H ds vs)(e:ds[i]? =some d): ∃v,vs[i]? =some v/\Den K α H d v:=by
 have hv:i<vs.length:=by rw[q.length];exact((gS0.mp e).1)
 obtain⟨d',h1,h2⟩:=q.get (gE hv);rw[e]at h1;cases h1;exact⟨_,gE hv,h2⟩
def DenL.cut{ds:Ug}{vs:List V}(q:DenL K α H ds vs)(lo hi:Ub):DenL K α H (aG ds lo hi) (UN vs lo hi):=by unfold aG UN;rw[q.length];exact(q.drop _).take _
theorem vK: ∀(ns:Tc),DenL K α H (ns.map MV.int) (ns.map V.int)
 |[]=>yF
 |b::bs=>yA (yV b) (vK bs)
end
structure Gm where
 K:PySem.W.Frag
 mg:Str->Option Value
 P:Program
 w:World
abbrev _root_.L2.Cx.g(X:Cx):Gm:=⟨X.K,X.mg,X.prog,X.w⟩
inductive DenF(K:Ud)(α:Tg)(H:Hp):List (Str×MV)->List (Str×V)->Prop
 |nil:DenF K α H [] []
 |cons {x:Str} {d:MV} {v:V} {fs gs}:Den K α H d v->DenF K α H fs gs->DenF K α H ((x,d)::fs) ((x,v)::gs)
def DenF.ex0{K:Ud}{α α':Tg}{H H':Hp}(x:Ex0 α H α' H'): ∀{fs gs},DenF K α H fs gs->DenF K α' H' fs gs:=λhh=>by
 induction hh with
 |nil=>exact .nil
 |cons a l ih=>exact .cons (a.ex0 x) (ih)
def KeyD:MV->Key->Prop
 |.int i,k=>k=.inl i
 |.str x,k=>k=.inr (bN x)
 |_,_=>False
inductive DenK(K:Ud)(α:Tg)(H:Hp):List (MV×MV)->List (Key×V)->Prop
 |nil:DenK K α H [] []
 |cons {k:MV} {k':Key} {d:MV} {v:V} {fs gs}:KeyD k k'->Den K α H d v->DenK K α H fs gs->DenK K α H ((k,d)::fs) ((k',v)::gs)
def DenK.ex0{K:Ud}{α α':Tg}{H H':Hp}(x:Ex0 α H α' H'): ∀{fs gs},DenK K α H fs gs->DenK K α' H' fs gs:=λhh=>by
 induction hh with
 |nil=>exact .nil
 |cons k a l ih=>exact .cons k (a.ex0 x) (ih)
mutual
def xH:MV->Option NK
 |.non=>some (.key none)
 |.int i=>some (.key (some (.inl i)))
 |.str x=>some (.key (some (.inr (bN x))))
 |.tup ds=>(jB ds).map .tup
 |_=>none
def jB:List MV->Option (List NK)
 |[]=>some []
 |d::ds=>(xH d).bind λk=>(jB ds).map (k::·)
end
inductive DenN(K:Ud)(α:Tg)(H:Hp):List (MV×MV)->List (NK×Addr×Value)->Prop
 |nil:DenN K α H [] []
 |cons {k:MV} {nk:NK} {a:Addr} {d:MV} {v:V} {u:Value} {fs xs}:xH k=some nk->iL nk<=4->Den K α H k (.ref a)->Den K α H d v->RelV v u->DenN K α H fs xs->DenN K α H ((k,d)::fs) ((nk,a,u)::xs)
def DenN.ex0{K:Ud}{α α':Tg}{H H':Hp}(x:Ex0 α H α' H'): ∀{fs xs},DenN K α H fs xs->DenN K α' H' fs xs:=λhh=>by
 induction hh with
 |nil=>exact .nil
 |cons k e a d r l ih=>exact .cons k e (a.ex0 x) (d.ex0 x) r (ih)
def ObD(g:Gm)(α:Tg)(H:Hp)(a:Addr):MO->Prop
 |.lst ds=> ∃vs,H a=some (.lst vs)/\DenL g.K α H ds vs
 |.dic kvs=>(∃ks,H a=some (.dK ks)/\DenK g.K α H kvs ks)\/ ∃xs,H a=some (DN g.P g.w a xs)/\DenN g.K α H kvs xs
 |.ins c fs=> ∃C gs,g.mg c=some (.ref C)/\DenF g.K α H fs gs/\
   ∃oe,H a=some (.frz oe (.ext λh=>h.get? a=some oe))/\oe.cls=.ref C/\(fs=[]\/ ∃dx od,oe.dict=some dx/\H dx=some (.frz od (.xd gs))/\ ∃vs,oe.data=.fields vs)
 |.rcd c fs=> ∃C dx gs,PySem.W.nsIn g.K mainGlobals c=some (some (.ref C))/\H a=some (.ins C dx gs)/\DenF g.K α H fs gs
 |.fdc kvs=> ∃oe xs,H a=some (.frz oe (DN g.P g.w a xs))/\DenN g.K α H kvs xs
def ObD.there{g:Gm}{α:Tg}{H:Hp}{a:Addr}{o:MO}(h:ObD g α H a o): ∃ho,H a=some ho/\(∀xs,ho≠.tup xs)/\ ∀ob u,ho=.frz ob u-> ∃φ,u=.ext φ:=by
 cases o with
 |lst ds=>obtain⟨vs,h,_⟩:=h;exact⟨_,h,(λxs z=>by cases z),λ_ _ z=>by cases z⟩
 |dic ds=>
  rcases h with⟨vs,h,_⟩|⟨vs,h,_⟩
  .exact⟨_,h,(λxs z=>by cases z),λ_ _ z=>by cases z⟩
  .exact⟨_,h,(λxs z=>by cases z),λ_ _ z=>by cases z⟩
 |ins c ds=>
  obtain⟨_,_,_,_,_,h,_⟩:=h;exact⟨_,h,(λxs z=>by cases z),λ_ _ z=>by cases z;exact⟨_,rfl⟩⟩
 |rcd c ds=>obtain⟨_,_,_,_,h,_⟩:=h;exact⟨_,h,(λxs z=>by cases z),λ_ _ z=>by cases z⟩
 |fdc kvs=>obtain⟨_,_,h,_⟩:=h;exact⟨_,h,(λxs z=>by cases z),λ_ _ z=>by cases z;exact⟨_,rfl⟩⟩
def ObD.move{g:Gm}{α α':Tg}{H H':Hp}{a:Addr}{o:MO}(h:ObD g α H a o)(x:Ex0 α H α' H')(e:H' a=H a):ObD g α' H' a o:=by
 cases o with
 |lst ds=>obtain⟨vs,h,l⟩:=h;exact⟨vs,e.trans h,l.ex0 x⟩
 |dic ds=>
  rcases h with⟨vs,h,l⟩|⟨vs,h,l⟩
  .exact .inl ⟨vs,e.trans h,l.ex0 x⟩
  .exact .inr ⟨vs,e.trans h,l.ex0 x⟩
 |ins c ds=>
  obtain⟨C,gs,m,l,oe,h,hc,hf⟩:=h;exact⟨C,gs,m,l.ex0 x,oe,e.trans h,hc,hf.imp id λ⟨dx,od,h1,h2,h3⟩=>⟨dx,od,h1,x.frz _ _ _ h2,h3⟩⟩
 |rcd c ds=>obtain⟨C,dx,gs,m,h,l⟩:=h;exact⟨C,dx,gs,m,e.trans h,l.ex0 x⟩
 |fdc kvs=>obtain⟨oe,xs,h,l⟩:=h;exact⟨oe,xs,e.trans h,l.ex0 x⟩
structure Wd(g:Gm)(α:Tg)(S:Sto)(H:Hp):Prop where
 len:α.length=S.length
 nd:α.Nodup
 obj: ∀(l:Nat)(a:Addr)(o:MO),α[l]? =some a->S[l]? =some o->ObD g α H a o
section
variable{g:Gm}{α:Tg}{S:Sto}{H:Hp}
def Wd.at(w:Wd g α S H){l:Nat}{o:MO}(h:S[l]? =some o): ∃a,α[l]? =some a/\ObD g α H a o:=by
 have hl:l<α.length:=by rw[w.len];exact(gS0.mp h).1
 exact⟨α[l],gE hl,w.obj l _ o (gE hl) h⟩
def Wd.of(w:Wd g α S H){l:Nat}{a:Addr}(h:α[l]? =some a): ∃o,S[l]? =some o/\ObD g α H a o:=by
 have hl:l<S.length:=by rw[<-w.len];exact(gS0.mp h).1
 exact⟨S[l],gE hl,w.obj l a _ h (gE hl)⟩
def Wd.mem(w:Wd g α S H){a:Addr}(h:a∈α): ∃ho,H a=some ho/\(∀xs,ho≠.tup xs)/\ ∀ob u,ho=.frz ob u-> ∃φ,u=.ext φ:=by obtain⟨l,hl⟩:=getElem?_of_mem h;obtain⟨o,_,q⟩:=w.of hl;exact q.there
def Wd.newx(w:Wd g α S H){p:Addr}{o:HO}(hp:H p=none):Ext α H α (gH H p o) where
 pre:=⟨[],by simp⟩
 new:=λb h=>.inl h
 keep:=λb o h _=>by rw[zK (zN h hp)];exact h
 has:=λb o h=>⟨o,by rw[zK (zN h hp)];exact h⟩
 tup:=λb o h=>by rw[zK (zN h hp)];exact h
 frz:=λb o u h=>by rw[zK (zN h hp)];exact h
def Wd.fresh(w:Wd g α S H){p:Addr}(hp:H p=none):p∉α:=λz=>by obtain⟨_,h,_⟩:=w.mem z;rw[hp]at h;cases h
def Wd.new(w:Wd g α S H){p:Addr}{o:HO}(hp:H p=none):Wd g α S (gH H p o):=
 ⟨w.len,w.nd,λl a ob h1 h2=>(w.obj l a ob h1 h2).move (w.newx hp).toEx0 (zK λz=>w.fresh hp (by rw[<-z];exact mem_of_getElem? h1))⟩
def Os{ho:HO}{a:Addr}(h:H a=some ho)(n: ∀ob u,ho≠.frz ob u:=by intro _ _ z;cases z): ∀ob u,H a≠some (.frz ob u):=λob u z=>n ob u (Option.some.inj (h.symm.trans z))
def Wd.writex(w:Wd g α S H){l:Nat}{a:Addr}{o:HO}(h:α[l]? =some a)(nf: ∀ob u,H a≠some (.frz ob u)):Ext α H α (gH H a o) where
 pre:=⟨[],by simp⟩
 new:=λb h=>.inl h
 keep:=λb o e n=>by rw[zK λz=>n (by rw[z];exact mem_of_getElem? h)];exact e
 has:=λb o e=>by
  by_cases z:b=a
  .subst z;exact⟨_,zZ⟩
  .exact⟨o,by rw[zK z];exact e⟩
 tup:=λb xs e=>by obtain⟨ho,h1,h2,_⟩:=w.mem (mem_of_getElem? h);rw[zK λz=>h2 xs (by subst z;rw[e]at h1;exact(Option.some.inj h1).symm)];exact e
 frz:=λb ob u e=>by rw[zK λz=>nf ob u (by rw[<-z];exact e)];exact e
def Wd.ne(w:Wd g α S H){l m:Nat}{a b:Addr}(h:α[l]? =some a)(h':α[m]? =some b)(n:l≠m):a≠b:=by rintro rfl;obtain⟨h1,e1⟩:=gS0.mp h;obtain⟨h2,e2⟩:=gS0.mp h';exact n ((getElem_inj w.nd).mp (e1.trans e2.symm))
def Wd.write(w:Wd g α S H){l:Nat}{a:Addr}{o:HO}{ob:MO}(h:α[l]? =some a)(nf: ∀ob u,H a≠some (.frz ob u))(q:ObD g α (gH H a o) a ob):Wd g α (S.set l ob) (gH H a o) where
 len:=by rw[List.length_set];exact w.len
 nd:=w.nd
 obj:=λm b ob' h1 h2=>by
  by_cases e:l=m
  .subst e;rw[h]at h1;rw[getElem?_set_self (by rw[<-w.len];exact(gS0.mp h).1)]at h2;rw[<-Option.some.inj h1, <-Option.some.inj h2];exact q
  .rw[getElem?_set_ne e]at h2;exact(w.obj m b ob' h1 h2).move (w.writex h nf).toEx0 (zK (w.ne h1 h λz=>e z.symm))
def Wd.enterx(w:Wd g α S H){H0:Hp}{α0:Tg}(x:Ext α0 H0 α H){b:Addr}(h0:H0 b=none)(n:b∉α):Ext α0 H0 (α++[b]) H where
 pre:=let ⟨t,e⟩:=x.pre;⟨_,by rw[e,aA]⟩
 new:=λc hc=>(List.mem_append.mp hc).elim (x.new c) λz=>.inr (by rw[mS.mp z];exact h0)
 keep:=x.keep
 has:=x.has
 tup:=x.tup
 frz:=x.frz
theorem Wd.enter(w:Wd g α S H){b:Addr}{ds:Ug}{vs:List V}(h:H b=some (.lst vs))(n:b∉α)(l:DenL g.K α H ds vs):Wd g (α++[b]) (S++[.lst ds]) H where
 len:=by rw[lA,lA,w.len];rfl
 nd:=nodup_append.mpr ⟨w.nd,by simp,λa ha c hc=>by rw[mS.mp hc];rintro rfl;exact n ha⟩
 obj:=λm a o h1 h2=>by
  by_cases hm:m<α.length
  .rw[getElem?_append_left hm]at h1;rw[getElem?_append_left (by rw[<-w.len];exact hm)]at h2;exact(w.obj m a o h1 h2).move (Ex0.grow α [b] H) rfl
  .have hm':m=α.length:=by
    have:=(gS0.mp h1).1;rw[lA,lS]at this
    lia
   subst hm';rw[getElem?_append_right (Nat.le_refl _),sub_self]at h1;rw[getElem?_append_right (by rw[w.len];exact Nat.le_refl _),w.len,sub_self]at h2;cases h1;cases h2;exact⟨vs,h,l.ex0 (Ex0.grow α [b] H)⟩
end
inductive R(β:Type) where
 |ok (b:β) (S:Sto)|exc (c:Str) (fs:List (Str×MV)) (S:Sto)|no
def R.bind{β γ:Type}:R β->(β->Sto->R γ)->R γ
 |.ok b S,k=>k b S
 |.exc c fs S,_=>.exc c fs S
 |.no,_=>.no
theorem R.bind_ok{β γ:Type}(b:β)(S:Sto)(k:β->Sto->R γ):(R.ok b S).bind k=k b S:=rfl
inductive Er where
 |val (d:MV)|new (ds:Ug)
instance:Inhabited Er:=⟨.val .non⟩
def DenX(K:Ud)(α:Tg)(H:Hp):Er->V->Prop
 |.val d,v=>Den K α H d v
 |.new ds,v=> ∃b vs,v=.ref b/\H b=some (.lst vs)/\b∉α/\DenL K α H ds vs
def DenE(K:Ud)(H:Hp)(α':Tg)(H':Hp)(r:Er)(v:V):Prop:=DenX K α' H' r v/\match r with |.new _=> ∀a,v=.ref a->H a=none|_=>True
section
variable{K:Ud}{α α':Tg}{H H0 H':Hp}
def DenX.ext(x:Ext α H α' H'): ∀{r:Er}{v:V},DenX K α H r v->DenX K α' H' r v
 |.val d,_,q=>Den.ext x q
 |.new ds,_,⟨b,vs,e,h,n,l⟩=>⟨b,vs,e,x.keep b _ h n,x.out h n,l.ext x⟩
def DenE.val{d:MV}{v:V}(q:Den K α' H' d v):DenE K H α' H' (.val d) v:=⟨q,trivial⟩
def DenE.back(hf: ∀b,H b=none->H0 b=none){r:Er}{v:V}(q:DenE K H α' H' r v):DenE K H0 α' H' r v:=by
 refine⟨q.1,?_⟩
 cases r with
 |new ds=>exact λa e=>hf a (q.2 a e)
 |_=>trivial
def DenE.ext{α'':Tg}{H'':Hp}(x:Ext α' H' α'' H''){r:Er}{v:V}(q:DenE K H α' H' r v):DenE K H α'' H'' r v:=⟨q.1.ext x,q.2⟩
end
section
variable{K:Ud}{α:Tg}{H:Hp}{v:V}
def OZ(d:DenX K α H (.val .non) v):v=.non:=bQ (K:=K) (α:=α) (H:=H) d
def tF{b:Bool}(d:DenX K α H (.val (.bl b)) v):v=.bl b:=eY (K:=K) (α:=α) (H:=H) d
def yX{b:Int}(d:DenX K α H (.val (.int b)) v):v=.int b:=yW (K:=K) (α:=α) (H:=H) d
def kH{b:Db}(d:DenX K α H (.val (.str b)) v):v=.str (bN b):=xU (K:=K) (α:=α) (H:=H) d
def Lh{b:String}(d:DenX K α H (.val (.typ b)) v):v=.ty b:=bS (K:=K) (α:=α) (H:=H) d
def aI{ds:Ug}(d:DenX K α H (.val (.tup ds)) v): ∃a vs,v=.ref a/\SqT K H a vs/\DenL K α H ds vs:=xC d
def IT{ds:Ug}(d:DenX K α H (.val (.scr ds)) v): ∃a vs,v=.ref a/\SqF K H a vs/\DenL K α H ds vs:=gQ d
def rU{l:Nat}(d:DenX K α H (.val (.loc l)) v): ∃a,v=.ref a/\α[l]? =some a:=jX (K:=K) (H:=H) d
end
def AH:List Er->List V->List Addr
 |.new _::rs,.ref b::vs=>b::AH rs vs
 |_::rs,_::vs=>AH rs vs
 |_,_=>[]
inductive ArgsE(K:Ud)(H:Hp)(α':Tg)(H':Hp):List Er->List V->Prop
 |nil:ArgsE K H α' H' [] []
 |cons {r v rs vs}:DenE K H α' H' r v->(∀ds b,r=.new ds->v=.ref b->b∉AH rs vs)->ArgsE K H α' H' rs vs->ArgsE K H α' H' (r::rs) (v::vs)
theorem ArgsE.nones{K:Ud}{H:Hp}{α':Tg}{H':Hp}: ∀{rs vs},ArgsE K H α' H' rs vs-> ∀b∈AH rs vs,H b=none
 |_,_,.nil=>λb h=>by simp[AH]at h
 |.val d::_,v::_,.cons a n l=>λb h=>ArgsE.nones l b (by simpa [AH]using h)
 |.new ds::_,v::_,.cons a n l=>λb h=>by
  obtain⟨c,vs,rfl,_⟩:=a.1;rcases mC.mp h with rfl|h
  .exact a.2 _ rfl
  .exact ArgsE.nones l b h
def ArgsE.back{K:Ud}{H H0:Hp}{α':Tg}{H':Hp}(hf: ∀b,H b=none->H0 b=none): ∀{rs vs},ArgsE K H α' H' rs vs->ArgsE K H0 α' H' rs vs:=λhh=>by
 induction hh with
 |nil=>exact .nil
 |cons a n l ih=>exact .cons (a.back hf) n (ih)
def ArgsE.length{K:Ud}{H:Hp}{α':Tg}{H':Hp}: ∀{rs vs},ArgsE K H α' H' rs vs->vs.length=rs.length:=λhh=>by
 induction hh with
 |nil=>exact rfl
 |cons _ _ l ih=>exact by rw[lC,lC,ih]
class Dn (β:Type) (τ:outParam Type) where
 d:Gm->Hp->List Addr->Sto->Hp->β->τ->Prop
 back: ∀{g:Gm}{H H0:Hp}{α':Tg}{S':Sto}{H':Hp}{b:β}{u:τ},(∀b,H b=none->H0 b=none)->d g H α' S' H' b u->d g H0 α' S' H' b u
instance:Dn Er V:=⟨λg H α' _ H' r v=>DenE g.K H α' H' r v,λhf q=>q.back hf⟩
instance:Dn Bool Bool:=⟨λ_ _ _ _ _ b u=>u=b,λ_ q=>q⟩
instance:Dn (List Er) (List V):=⟨λg H α' _ H' r v=>ArgsE g.K H α' H' r v,λhf q=>q.back hf⟩
instance:Dn (Option Int) (Option Int):=⟨λ_ _ _ _ _ b u=>u=b,λ_ q=>q⟩
abbrev XW:=Str->List (Str×MV)->Sto->List Addr->Hp->Prop
abbrev W0:XW:=λ_ _ _ _ _=>False
def Post{β τ:Type}[Dn β τ](g:Gm)(W:XW)(α:Tg)(H:Hp):R β->(τ->Hp->Prop)->Prop
 |.ok b S,Q=> ∀u α' H',Ext α H α' H'->Wd g α' S H'->Dn.d g H α' S H' b u->Q u H'
 |.exc c fs S,_=> ∀α' H',Ext α H α' H'->Wd g α' S H'->W c fs S α' H'
 |.no,_=>False
section
variable{β τ γ υ:Type}[Dn β τ][Dn γ υ]{g:Gm}{W:XW}{α α':Tg}{H H':Hp}
def Post.shift(x:Ext α H α' H'): ∀{m:R β}{Q:τ->Hp->Prop},Post g W α H m Q->Post g W α' H' m Q
 |.ok b S,Q,q=>λu α2 H2 x2 w2 d2=>q u α2 H2 (x.trans x2) w2 (Dn.back (λb h=>x.free h) d2)
 |.exc c fs S,_,q=>λα2 H2 x2 w2=>q α2 H2 (x.trans x2) w2
 |.no,_,q=>q
def Post.bind{m:R β}{k:β->Sto->R γ}{Q:υ->Hp->Prop}{Q':τ->Hp->Prop}(q:Post g W α H (m.bind k) Q)
  (f: ∀u b S1 α1 H1,m=.ok b S1->Ext α H α1 H1->Wd g α1 S1 H1->Dn.d g H α1 S1 H1 b u->Post g W α H (k b S1) Q->Q' u H1):Post g W α H m Q':=by
 cases m with
 |ok b S=>exact λu α1 H1 x w d=>f u b S α1 H1 rfl x w d q
 |exc c fs S=>exact q
 |no=>exact q
def Post.here{b:β}{S:Sto}{Q:τ->Hp->Prop}{u:τ}(q:Post g W α H (.ok b S) Q)(w:Wd g α S H)(d:Dn.d g H α S H b u):Q u H:=q u α H (Ext.refl α H) w d
end
def Post.val{g:Gm}{W:XW}{α:Tg}{H:Hp}{d:MV}{S:Sto}{Q:VK}{v:V}(q:Post g W α H (.ok (Er.val d) S) Q)(w:Wd g α S H)(k:Den g.K α H d v):Q v H:=q.here w (DenE.val k)
def Post.newl{g:Gm}{W:XW}{α:Tg}{H:Hp}{ds:Ug}{S:Sto}{Q:VK}{vs:List V}{p:Addr}(q:Post g W α H (.ok (Er.new ds) S) Q)(w:Wd g α S H)(hp:H p=none)(l:DenL g.K α H ds vs):Q (.ref p) (gH H p (.lst vs)):=
 q _ α _ (w.newx hp) (w.new hp) ⟨⟨p,vs,rfl,zZ,w.fresh hp,l.ext (w.newx hp)⟩,λa e=>by cases e;exact hp⟩
def Post.newt{g:Gm}{W:XW}{α:Tg}{H:Hp}{ds:Ug}{S:Sto}{Q:VK}{vs:List V}{p:Addr}(q:Post g W α H (.ok (Er.val (.tup ds)) S) Q)(w:Wd g α S H)(hp:H p=none)(l:DenL g.K α H ds vs):Q (.ref p) (gH H p (.tup vs)):=
 q _ α _ (w.newx hp) (w.new hp) (.val (lN (.of zZ) (l.ext (w.newx hp))))
abbrev Rho:=List (Option MV)
structure Slots(K:Ud)(α:Tg)(H:Hp)(ρ:Rho)(σ:St):Prop where
 len:σ.length=ρ.length
 slot: ∀(i:Nat)(d:MV),ρ[i]? =some (some d)-> ∃v,σ[i]? =some (some v)/\Den K α H d v
section
variable{K:Ud}{α α':Tg}{H H':Hp}{ρ:Rho}{σ:St}
def Slots.ex0(q:Slots K α H ρ σ)(x:Ex0 α H α' H'):Slots K α' H' ρ σ:=⟨q.len,λi d e=>let ⟨v,h1,h2⟩:=q.slot i d e;⟨v,h1,h2.ex0 x⟩⟩
def Slots.ext(q:Slots K α H ρ σ)(x:Ext α H α' H'):Slots K α' H' ρ σ:=q.ex0 x.toEx0
theorem Dp{α:Type}{l:List α}{i j:Nat}{x y:α}(h:(l.set i x)[j]? =some y):(j=i/\y=x/\i<l.length)\/(j≠i/\l[j]? =some y):=by
 by_cases hj:i=j
 .subst hj;by_cases hl:i<l.length
  .rw[getElem?_set_self hl]at h;exact .inl ⟨rfl,(Option.some.inj h).symm,hl⟩
  .rw[getElem?_eq_none (by rw[List.length_set];lia)]at h;cases h
 .rw[getElem?_set_ne hj]at h;exact .inr ⟨λz=>hj z.symm,h⟩
def Slots.set(q:Slots K α H ρ σ){i:Nat}{d:MV}{v:V}(h:Den K α H d v):Slots K α H (ρ.set i (some d)) (σ.set i (some v)):=by
 refine⟨by rw[List.length_set,List.length_set];exact q.len,λj e z=>?_⟩;rcases Dp z with⟨rfl,e',hl⟩|⟨hj,e'⟩
 .cases e';exact⟨v,by rw[getElem?_set_self (by rw[q.len];exact hl)],h⟩
 .obtain⟨u,h1,h2⟩:=q.slot j e e';exact⟨u,by rw[getElem?_set_ne (Ne.symm hj)];exact h1,h2⟩
end
def Jd(X:Cx)(W:XW){β τ:Type}[Dn β τ](P:(St->Hp->(τ->Hp->Prop)->Prop)->Prop)(f:Rho->Sto->R β):Prop:=
 ∃t,P t/\ ∀α ρ S σ H Q,Wd X.g α S H->Slots X.K α H ρ σ->Post X.g W α H (f ρ S) Q->t σ H Q
abbrev zT(X:Cx)(W:XW)(e:Expr)(f:Rho->Sto->R Er):Prop:=Jd X W (PE X e) f
abbrev qV(X:Cx)(W:XW)(e:Expr)(f:Rho->Sto->R Bool):Prop:=Jd X W (PT X e) f
abbrev Hy(X:Cx)(W:XW)(e:Expr)(f:Rho->Sto->R Bool):Prop:=Jd X W (PW X e) f
abbrev GY(X:Cx)(W:XW)(es:Uc)(f:Rho->Sto->R (List Er)):Prop:=Jd X W (PA X es) f
abbrev Li(X:Cx)(W:XW)(e:Option Expr)(f:Rho->Sto->R (Option Int)):Prop:=Jd X W (PO X e) f
section
variable{X:Cx}{W:XW}{a b c:Expr}{f g h:Rho->Sto->R Er}{pos:Pos}
def Dq:Option (Option MV)->Sto->R Er
 |some (some d),S=>.ok (.val d) S
 |_,_=>.no
def zB(i:Nat){x:Str}(hN:X.N[i]? =some x:=by rfl)(hv:Pa X.env.scope x:=by first |exact Or.inl rfl|exact Or.inr (Or.inl rfl)|exact Or.inr (Or.inr rfl))(hd:(x==("__debug__":Str))=false:=by decide)
  (hcd:(x==("__classdict__":Str))=false:=by decide):zT X W (.Name x pos) (λρ S=>Dq (ρ[i]?) S):=by
 refine⟨_,pv i hN hv hd hcd,λα ρ S σ H Q wd sl q=>?_⟩;dsimp only at q
 cases z:ρ[i]? with
 |none=>rw[z]at q;exact q.elim
 |some o=>
  cases o with
  |none=>rw[z]at q;exact q.elim
  |some d=>
   rw[z]at q;obtain⟨v,h1,h2⟩:=sl.slot i d z;exact⟨v,h1,Post.val q wd h2⟩
def zP{i:Int}{j:Nat}:zT X W (.Constant (.int i) j pos) (λ_ S=>.ok (.val (.int i)) S):=⟨_,Jp,λα ρ S σ H Q wd sl q=>Post.val q wd (yV i)⟩
def GZ{i:Bool}{j:Nat}:zT X W (.Constant (.bool i) j pos) (λ_ S=>.ok (.val (.bl i)) S):=⟨_,Pd,λα ρ S σ H Q wd sl q=>Post.val q wd (jF i)⟩
def XZ{x:Str}{j:Nat}(cs:Db)(hx:x=bN cs:=by rfl):zT X W (.Constant (.str x) j pos) (λ_ S=>.ok (.val (.str cs)) S):=
 ⟨_,Jq,λα ρ S σ H Q wd sl q=>Post.val q wd (by rw[hx];exact lL cs)⟩
def Dr{x:Str}{i:Int}{t:Tok}(hg:Gl X x)(hm:X.mg x=some (.int i t))(hd:(x==("__debug__":Str))=false:=by decide):zT X W (.Name x pos) (λ_ S=>.ok (.val (.int i)) S):=
 ⟨_,Cd (v:=.int i) hg hm ⟨t,rfl⟩ hd,λα ρ S σ H Q wd sl q=>Post.val q wd (yV i)⟩
def LD{x:Str}{T:String}(hg:Gl X x)(hm:X.mg x=none)(hv:bootBuiltins x=some (.type T))(hn:x≠"__name__":=by decide)(hd:(x==("__debug__":Str))=false:=by decide):zT X W (.Name x pos) (λ_ S=>.ok (.val (.typ T)) S):=
 ⟨_,Ce (v:=.ty T) hg hm hv rfl hn hd,λα ρ S σ H Q wd sl q=>Post.val q wd (RK T)⟩
def HA(X:Cx)(W:XW)(r:R2)(F:Er->Er->Sto->R Er):Prop:= ∀p q x y α S H Q,Wd X.g α S H->DenX X.K α H p x->DenX X.K α H q y->Post X.g W α H (F p q S) Q->r x y H Q
def two{r:R2}{F:Er->Er->Sto->R Er}(hF:HA X W r F){ta tb:TE}(fa: ∀α ρ S σ H Q,Wd X.g α S H->Slots X.K α H ρ σ->Post X.g W α H (f ρ S) Q->ta σ H Q)
  (fb: ∀α ρ S σ H Q,Wd X.g α S H->Slots X.K α H ρ σ->Post X.g W α H (g ρ S) Q->tb σ H Q) {α:Tg} {ρ:Rho} {S:Sto} {σ:St} {H:Hp} {Q:VK} (wd:Wd X.g α S H) (sl:Slots X.K α H ρ σ)
  (q:Post X.g W α H ((f ρ S).bind λp S1=>(g ρ S1).bind λq S2=>F p q S2) Q):ta σ H λx H1=>tb σ H1 λy H2=>r x y H2 Q:=
 fa α ρ S σ H _ wd sl (q.bind λu p S1 α1 H1 e1 x1 w1 d1 q1=>fb α1 ρ S1 σ H1 _ w1 (sl.ext x1) ((q1.shift x1).bind λu2 p2 S2 α2 H2 e2 x2 w2 d2 q2=>
  hF p p2 u u2 α2 S2 H2 Q w2 (d1.1.ext x2) d2.1 (q2.shift x2)))
def HB{op:Operator}{r:R2}{F:Er->Er->Sto->R Er}(ho:OpR X (binaryOp op) r)(hF:HA X W r F)(ha:zT X W a f)(hb:zT X W b g):zT X W (.BinOp a op b pos) (λρ S=>(f ρ S).bind λp S1=>(g ρ S1).bind λq S2=>F p q S2):=by obtain⟨ta,ha,fa⟩:=ha;obtain⟨tb,hb,fb⟩:=hb;exact⟨_,Pt ho ha hb,λα ρ S σ H Q wd sl q=>two hF fa fb wd sl q⟩
def YA{op:CmpOp}{r:R2}{F:Er->Er->Sto->R Er}(ho:OpR X (compareOp op) r)(hF:HA X W r F)(ha:zT X W a f)(hb:zT X W b g)(hm:behindInMarks op b=false:=by first |exact XF _|with_unfolding_all rfl):
  zT X W (.Compare a [op] [b] pos) (λρ S=>(f ρ S).bind λp S1=>(g ρ S1).bind λq S2=>F p q S2):=by
 obtain⟨ta,ha,fa⟩:=ha;obtain⟨tb,hb,fb⟩:=hb;exact⟨_,Cp ho ha hb hm,λα ρ S σ H Q wd sl q=>two hF fa fb wd sl q⟩
def Qm{r:R2}{F:Er->Er->Sto->R Er}(ho:IxR X r)(hF:HA X W r F)(ha:zT X W a f)(hb:zT X W b g)(hs:IG b:=by exact λ_ _=>rfl):
  zT X W (.Subscript a b pos) (λρ S=>(f ρ S).bind λp S1=>(g ρ S1).bind λq S2=>F p q S2):=by
 obtain⟨ta,ha,fa⟩:=ha;obtain⟨tb,hb,fb⟩:=hb;exact⟨_,Qd ho ha hb hs,λα ρ S σ H Q wd sl q=>two hF fa fb wd sl q⟩
def eZ:Er->Sto->R Bool
 |.val (.bl b),S=>.ok b S
 |_,_=>.no
def LE{p:Er}{S:Sto}{α:Tg}{H:Hp}{Q:Bool->Hp->Prop}(q:Post X.g W α H (eZ p S) Q): ∃k,p=.val (.bl k)/\Post X.g W α H (.ok k S) Q:=by
 unfold eZ at q;split at q
 .exact⟨_,rfl,q⟩
 .exact q.elim
def DG{β τ:Type}[Dn β τ]{p:Er}{S:Sto}{α:Tg}{H:Hp}{k:Bool->Sto->R β}{Q:τ->Hp->Prop}(q:Post X.g W α H ((eZ p S).bind k) Q): ∃c,p=.val (.bl c)/\Post X.g W α H (k c S) Q:=by
 unfold eZ at q;split at q
 .exact⟨_,rfl,q⟩
 .exact q.elim
def rV{op:CmpOp}{r:R2}{F:Er->Er->Sto->R Er}(ho:OpR X (compareOp op) r)(hF:HA X W r F)(ha:zT X W a f)(hb:zT X W b g)(hm:behindInMarks op b=false:=by first |exact XF _|with_unfolding_all rfl):
  qV X W (.Compare a [op] [b] pos) (λρ S=>((f ρ S).bind λp S1=>(g ρ S1).bind λq S2=>F p q S2).bind eZ):=by
 obtain⟨ta,ha,fa⟩:=ha;obtain⟨tb,hb,fb⟩:=hb;refine⟨_,Cq ho ha hb hm,λα ρ S σ H Q wd sl q=>?_⟩;refine two hF fa fb wd sl (q.bind λu p S1 α1 H1 e1 x1 w1 d1 q1=>?_);obtain⟨k,rfl,q2⟩:=LE (q1.shift x1);exact⟨k,tF d1.1,q2.here w1 rfl⟩
def PB(F G:Er->Er->Sto->R Er)(p q:Er)(S:Sto)(k:Sto->R Er):R Er:=(F p q S).bind λz S1=>(eZ z S1).bind λc S2=>if c=true then(k S2).bind λr S3=>G q r S3 else .ok (.val (.bl false)) S2
def chain{r r':R2}{F G:Er->Er->Sto->R Er}(hF:HA X W r F)(hG:HA X W r' G){ta tb tc:TE}(fa: ∀α ρ S σ H Q,Wd X.g α S H->Slots X.K α H ρ σ->Post X.g W α H (f ρ S) Q->ta σ H Q)
  (fb: ∀α ρ S σ H Q,Wd X.g α S H->Slots X.K α H ρ σ->Post X.g W α H (g ρ S) Q->tb σ H Q) (fc: ∀α ρ S σ H Q,Wd X.g α S H->Slots X.K α H ρ σ->Post X.g W α H (h ρ S) Q->tc σ H Q) {α:Tg} {ρ:Rho} {S:Sto} {σ:St} {H:Hp} {Q:VK} (wd:Wd X.g α S H) (sl:Slots X.K α H ρ σ)
  (q:Post X.g W α H ((f ρ S).bind λp S1=>(g ρ S1).bind λq S2=>PB F G p q S2 λS3=>h ρ S3) Q):OO r r' ta tb tc σ H Q:=
 fa α ρ S σ H _ wd sl (q.bind λu p S1 α1 H1 e1 x1 w1 d1 q1=>fb α1 ρ S1 σ H1 _ w1 (sl.ext x1) ((q1.shift x1).bind λu2 p2 S2 α2 H2 e2 x2 w2 d2 q2=>by
  refine hF p p2 u u2 α2 S2 H2 _ w2 (d1.1.ext x2) d2.1 (Post.bind (q2.shift x2) λu3 p3 S3 α3 H3 e3 x3 w3 d3 q3=>?_);obtain⟨k,rfl,q4⟩:=DG (q3.shift x3);refine⟨k,tF d3.1,?_⟩
  cases k with
  |true=>
   rw[iP rfl]at q4 ⊢;exact fc α3 ρ S3 σ H3 _ w3 (((sl.ext x1).ext x2).ext x3) (q4.bind λu5 p5 S5 α5 H5 e5 x5 w5 d5 q5=>hG p2 p5 u2 u5 α5 S5 H5 Q w5 ((d2.1.ext x3).ext x5) d5.1 (q5.shift x5))
  |false=>
   rw[iN xF0]at q4 ⊢;exact Post.val q4 w3 (jF false)))
def LF{op op':CmpOp}{r r':R2}{F G:Er->Er->Sto->R Er}(ho:OpR X (compareOp op) r)(ho':OpR X (compareOp op') r')(hF:HA X W r F)(hG:HA X W r' G)(ha:zT X W a f)(hb:zT X W b g)(hc:zT X W c h)
  (hm:lastMarks [op,op'] [b,c]=false:=by with_unfolding_all rfl):
  zT X W (.Compare a [op,op'] [b,c] pos) (λρ S=>(f ρ S).bind λp S1=>(g ρ S1).bind λq S2=>PB F G p q S2 λS3=>h ρ S3):=by
 obtain⟨ta,ha,fa⟩:=ha;obtain⟨tb,hb,fb⟩:=hb;obtain⟨tc,hc,fc⟩:=hc;exact⟨_,XG ho ho' ha hb hc hm,λα ρ S σ H Q wd sl q=>chain hF hG fa fb fc wd sl q⟩
def LG{op op':CmpOp}{r r':R2}{F G:Er->Er->Sto->R Er}(ho:OpR X (compareOp op) r)(ho':OpR X (compareOp op') r')(hF:HA X W r F)(hG:HA X W r' G)(ha:zT X W a f)(hb:zT X W b g)(hc:zT X W c h)
  (hm:lastMarks [op,op'] [b,c]=false:=by with_unfolding_all rfl):
  qV X W (.Compare a [op,op'] [b,c] pos) (λρ S=>((f ρ S).bind λp S1=>(g ρ S1).bind λq S2=>PB F G p q S2 λS3=>h ρ S3).bind eZ):=by
 obtain⟨ta,ha,fa⟩:=ha;obtain⟨tb,hb,fb⟩:=hb;obtain⟨tc,hc,fc⟩:=hc;refine⟨_,XH ho ho' ha hb hc hm,λα ρ S σ H Q wd sl q=>?_⟩;refine chain hF hG fa fb fc wd sl (Q:=λx H'=> ∃k,x=.bl k/\Q k H') (q.bind λu p S1 α1 H1 e1 x1 w1 d1 q1=>?_);obtain⟨k,rfl,q2⟩:=LE (q1.shift x1);exact⟨k,tF d1.1,q2.here w1 rfl⟩
def dU:Er->Sto->R Bool
 |.val .non,S=>.ok false S
 |.val (.bl b),S=>.ok b S
 |.val (.int i),S=>.ok (i !=0) S
 |.val (.str x),S=>if x.length<=sizeLine then .ok (!x.isEmpty) S else .no
 |.val (.tup ds),S=>.ok (!ds.isEmpty) S
 |.val (.scr ds),S=>.ok (!ds.isEmpty) S
 |.val (.loc l),S=>match S[l]? with
  |some (.lst ds)=>.ok (!ds.isEmpty) S
  |_=>.no
 |.val (.typ _),_=>.no
 |.val (.obj _ _ _),_=>.no
 |.val (.clo _ _),_=>.no
 |.new ds,S=>.ok (!ds.isEmpty) S
def qB{ds:Ug}{vs:List V}{K:Ud}{α:Tg}{H:Hp}(l:DenL K α H ds vs):(!vs.isEmpty)= !ds.isEmpty:=by have:=l.length;cases ds<;>cases vs<;>simp_all
theorem YB{p:Er}{x:V}{S:Sto}{α:Tg}{H:Hp}{Q:Bool->Hp->Prop}(wd:Wd X.g α S H)(d:DenX X.K α H p x)(q:Post X.g W α H (dU p S) Q): ∃k,Kn X.K x H k/\Q k H:=by
 match p,d,q with
 |.val .non,d,q=>cases OZ d;exact⟨_,rfl,q.here wd rfl⟩
 |.val (.bl b),d,q=>cases tF d;exact⟨_,rfl,q.here wd rfl⟩
 |.val (.int i),d,q=>cases yX d;exact⟨_,rfl,q.here wd rfl⟩
 |.val (.typ n),d,q=>exact q.elim
 |.val (.obj _ _ _),d,q=>exact q.elim
 |.val (.clo _ _),d,q=>exact q.elim
 |.val (.str z),d,q=>
  cases kH d;have q':Post X.g W α H (if z.length<=sizeLine then R.ok _ S else R.no) Q:=q;split at q'
  .rename_i hz;refine⟨_,⟨by rw[cQ];exact hz,?_⟩,q'.here wd rfl⟩;rw[cQ]
   cases z with
   |nil=>rfl
   |cons c r=>
    have h0:((r.length:Int)+1)≠0:=by lia
    simp[h0]
  .exact q'.elim
 |.val (.tup ds),d,q=>
  obtain⟨a,vs,rfl,s,l⟩:=aI d;exact⟨_,.inr (.inl ⟨vs,s,(qB l).symm⟩),q.here wd rfl⟩
 |.val (.scr ds),d,q=>
  obtain⟨a,vs,rfl,s,l⟩:=IT d;exact⟨_,.inl ⟨vs,s.l,(qB l).symm⟩,q.here wd rfl⟩
 |.val (.loc n),d,q=>
  obtain⟨a,rfl,h⟩:=rU d;obtain⟨o,h1,h2⟩:=wd.of h;have q':Post X.g W α H (match S[n]? with |some (.lst ds)=>R.ok _ S|_=>R.no) Q:=q;rw[h1]at q'
  cases o with
  |lst ds=>
   obtain⟨vs,h3,l⟩:=h2;exact⟨_,.inl ⟨vs,.of h3,(qB l).symm⟩,q'.here wd rfl⟩
  |dic ds=>exact q'.elim
  |ins c fs=>exact q'.elim
  |rcd c fs=>exact q'.elim
  |fdc _=>exact q'.elim
 |.new ds,⟨a,vs,ex,s,n,l⟩,q=>subst ex;exact⟨_,.inl ⟨vs,.of s,(qB l).symm⟩,q.here wd rfl⟩
def iQ(ha:zT X W a f)(he: ∀whole,isTrue a X.env whole=(do let v <-whole;standAt a.pos;holding [v] (truthy v)):=by intro _;rfl):qV X W a (λρ S=>(f ρ S).bind dU):=by obtain⟨ta,ha,fa⟩:=ha;exact⟨_,XI ha he,λα ρ S σ H Q wd sl q=>fa α ρ S σ H _ wd sl (q.bind λu p S1 α1 H1 e1 x1 w1 d1 q1=>YB w1 d1.1 (q1.shift x1))⟩
end
section
variable{X:Cx}{W:XW}{a b c:Expr}{es:Uc}{f g h:Rho->Sto->R Er}{tf tg:Rho->Sto->R Bool}{pos:Pos}
def Ds(p:Er)(S:Sto)(k:Sto->R Er):R Er:=(eZ p S).bind λc S1=>if c=true then k S1 else .ok (.val (.bl false)) S1
def orF(p:Er)(S:Sto)(k:Sto->R Er):R Er:=(eZ p S).bind λc S1=>if c=true then .ok (.val (.bl true)) S1 else k S1
def Lj{op}(ha:zT X W a f):zT X W (.BoolOp op [a] pos) f:=let ⟨t,h,k⟩:=ha;⟨t,Ju h,k⟩
def Lk(ha:zT X W a f)(hb:zT X W (.BoolOp .And (b::es) pos) g):zT X W (.BoolOp .And (a::b::es) pos) (λρ S=>(f ρ S).bind λp S1=>Ds p S1 λS2=>g ρ S2):=by
 obtain⟨ta,ha,fa⟩:=ha;obtain⟨tb,hb,fb⟩:=hb;refine⟨_,Jv ha hb,λα ρ S σ H Q wd sl q=>fa α ρ S σ H _ wd sl (q.bind λu p S1 α1 H1 e1 x1 w1 d1 q1=>?_)⟩;obtain⟨k,rfl,q2⟩:=DG (q1.shift x1);refine⟨k,tF d1.1,?_⟩
 cases k with
 |true=>rw[iP rfl]at q2 ⊢; exact fb α1 ρ S1 σ H1 _ w1 (sl.ext x1) q2
 |false=>rw[iN xF0]at q2 ⊢; exact Post.val q2 w1 (jF false)
def Ll(ha:zT X W a f):zT X W (.UnaryOp .Not a pos) (λρ S=>(f ρ S).bind λp S1=>(eZ p S1).bind λk S2=>.ok (.val (.bl !k)) S2):=by obtain⟨ta,ha,fa⟩:=ha;refine⟨_,Jw ha,λα ρ S σ H Q wd sl q=>fa α ρ S σ H _ wd sl (q.bind λu p S1 α1 H1 e1 x1 w1 d1 q1=>?_)⟩;obtain⟨k,rfl,q2⟩:=DG (q1.shift x1);exact⟨k,tF d1.1,Post.val q2 w1 (jF _)⟩
def Qn(hc:qV X W c tf)(ha:zT X W a f)(hb:zT X W b g):zT X W (.IfExp c a b pos) (λρ S=>(tf ρ S).bind λk S1=>if k=true then f ρ S1 else g ρ S1):=by
 obtain⟨tc,hc,fc⟩:=hc;obtain⟨ta,ha,fa⟩:=ha;obtain⟨tb,hb,fb⟩:=hb;refine⟨_,WZ hc ha hb,λα ρ S σ H Q wd sl q=>fc α ρ S σ H _ wd sl (q.bind λu p S1 α1 H1 e1 x1 w1 d1 q1=>?_)⟩;cases d1
 cases u with
 |true=>rw[iP rfl]at q1 ⊢; exact fa α1 ρ S1 σ H1 _ w1 (sl.ext x1) (q1.shift x1)
 |false=>rw[iN xF0]at q1 ⊢; exact fb α1 ρ S1 σ H1 _ w1 (sl.ext x1) (q1.shift x1)
def Dt(ha:qV X W a tf):Hy X W (.BoolOp .And [a] pos) tf:=let ⟨t,h,k⟩:=ha;⟨t,Cf h,k⟩
def PC(ha:qV X W a tf):Hy X W (.BoolOp .Or [a] pos) tf:=let ⟨t,h,k⟩:=ha;⟨t,Jr h,k⟩
theorem Lm(ha:qV X W a tf)(hb:Hy X W (.BoolOp .And (b::es) pos) tg):Hy X W (.BoolOp .And (a::b::es) pos) (λρ S=>(tf ρ S).bind λk S1=>if k=true then tg ρ S1 else .ok false S1):=by
 obtain⟨ta,ha,fa⟩:=ha;obtain⟨tb,hb,fb⟩:=hb;refine⟨_,Js ha hb,λα ρ S σ H Q wd sl q=>fa α ρ S σ H _ wd sl (q.bind λu p S1 α1 H1 e1 x1 w1 d1 q1=>?_)⟩;cases d1
 cases u with
 |true=>rw[iP rfl]at q1 ⊢; exact fb α1 ρ S1 σ H1 _ w1 (sl.ext x1) (q1.shift x1)
 |false=>rw[iN xF0]at q1 ⊢; exact(q1.shift x1).here w1 rfl
def RN(ha:qV X W a tf)(hb:Hy X W (.BoolOp .Or (b::es) pos) tg):Hy X W (.BoolOp .Or (a::b::es) pos) (λρ S=>(tf ρ S).bind λk S1=>if k=true then .ok true S1 else tg ρ S1):=by
 obtain⟨ta,ha,fa⟩:=ha;obtain⟨tb,hb,fb⟩:=hb;refine⟨_,Pe ha hb,λα ρ S σ H Q wd sl q=>fa α ρ S σ H _ wd sl (q.bind λu p S1 α1 H1 e1 x1 w1 d1 q1=>?_)⟩;cases d1
 cases u with
 |true=>rw[iP rfl]at q1 ⊢; exact(q1.shift x1).here w1 rfl
 |false=>rw[iN xF0]at q1 ⊢; exact fb α1 ρ S1 σ H1 _ w1 (sl.ext x1) (q1.shift x1)
def YC(h:Hy X W a tf):qV X W a tf:=let ⟨t,h,k⟩:=h;⟨t,h.pt,k⟩
theorem rW(ha:qV X W a tf):qV X W (.UnaryOp .Not a pos) (λρ S=>(tf ρ S).bind λk S1=>.ok (!k) S1):=by obtain⟨ta,ha,fa⟩:=ha;refine⟨_,Jt ha,λα ρ S σ H Q wd sl q=>fa α ρ S σ H _ wd sl (q.bind λu p S1 α1 H1 e1 x1 w1 d1 q1=>?_)⟩;cases d1;exact(q1.shift x1).here w1 rfl
end
section
variable{K:Ud}{H0:Hp}
def zU:List Er->Sto->List MV×Sto
 |[],S=>([],S)
 |.val d::rs,S=>((d::(zU rs S).1),(zU rs S).2)
 |.new xs::rs,S=>((.loc S.length::(zU rs (S++[.lst xs])).1),(zU rs (S++[.lst xs])).2)
def ArgsE.grow{H0:Hp}{α:Tg}{H:Hp}{b:Addr}{rs:List Er}{vs:List V}(q:ArgsE K H0 α H rs vs)(n:b∉AH rs vs):ArgsE K H0 (α++[b]) H rs vs:=by
 induction q with
 |nil=>exact .nil
 |@cons r v rs vs a m l ih=>
  cases r with
  |val d=>exact .cons ⟨Den.ex0 (Ex0.grow α [b] H) a.1,trivial⟩ m (ih (by simpa [AH]using n))
  |new ds=>
   obtain⟨⟨c,us,rfl,h1,h2,h3⟩,h4⟩:=a;have n':=n;refine .cons ⟨⟨c,us,rfl,h1,λz=>?_,h3.ex0 (Ex0.grow α [b] H)⟩,h4⟩ m (ih λz=>n' (mO _ z));rcases List.mem_append.mp z with z|z
   .exact h2 z
   .exact n' (by rw[mS.mp z];exact mF0)
theorem oZ{g:Gm}{H0:Hp}{α0:Tg}{H:Hp}: ∀{rs:List Er}{vs:List V}{α:Tg}{S:Sto},Wd g α S H->Ext α0 H0 α H->ArgsE g.K H0 α H rs vs->
  ∃α',Ext α0 H0 α' H/\Ex0 α H α' H/\Wd g α' (zU rs S).2 H/\DenL g.K α' H (zU rs S).1 vs
 |_,_,α,S,w,x,.nil=>⟨α,x,⟨⟨[],by simp⟩,λ_ _ h=>h,λ_ _ _ h=>h⟩,w,yF⟩
 |.val d::rs,v::vs,α,S,w,x,.cons a n l=>by obtain⟨α',x',y',w',l'⟩:=oZ w x l;exact⟨α',x',y',w',yA (Den.ex0 y' a.1) l'⟩
 |.new ds::rs,v::vs,α,S,w,x,.cons a n l=>by
  obtain⟨⟨c,us,rfl,h1,h2,h3⟩,h4⟩:=a;obtain⟨α',x',y',w',l'⟩:=oZ (w.enter h1 h2 h3) (w.enterx x (h4 c rfl) h2) (l.grow (n ds c rfl rfl));refine⟨α',x',⟨?_,y'.tup,y'.frz⟩,w',yA (BO (y'.at ?_)) l'⟩
  .obtain⟨t,e⟩:=y'.pre;exact⟨_,by rw[e,aA]⟩
  .rw[<-w.len,getElem?_append_right (Nat.le_refl _),sub_self];rfl
theorem vL: ∀(rs:List Er)(S:Sto),(zU rs S).1.length=rs.length
 |[],S=>rfl
 |.val d::rs,S=>by show(d::(zU rs S).1).length=_;rw[lC,vL rs S];rfl
 |.new ds::rs,S=>by show(_::(zU rs _).1).length=_;rw[lC,vL rs _];rfl
end
section
variable{X:Cx}{W:XW}{a b c e:Expr}{es:Uc}{f g h:Rho->Sto->R Er}{af:Rho->Sto->R (List Er)}{pos:Pos}
def zI:GY X W [] (λ_ S=>.ok [] S):=⟨_,OR,λα ρ S σ H Q wd sl q=>q.here wd .nil⟩
def zC(ha:zT X W a f)(hr:GY X W es af)(hs:starEach (a::es) X.env=(false,eval a X.env)::starEach es X.env:=by rfl):GY X W (a::es) (λρ S=>(f ρ S).bind λp S1=>(af ρ S1).bind λps S2=>.ok (p::ps) S2):=by
 obtain⟨ta,ha,fa⟩:=ha;obtain⟨tr,hr,fr⟩:=hr;refine⟨_,IC ha hr hs,λα ρ S σ H Q wd sl q=>fa α ρ S σ H _ wd sl (q.bind λu p S1 α1 H1 e1 x1 w1 d1 q1=>fr α1 ρ S1 σ H1 _ w1 (sl.ext x1) ?_)⟩;have q1':Post X.g W α H _ Q:=q1
 cases z:af ρ S1 with
 |ok ps S2=>
  rw[z]at q1';intro vs α2 H2 x2 w2 d2;refine q1' _ α2 H2 (x1.trans x2) w2 (ArgsE.cons (DenE.ext x2 d1) (λds b er eu hb=>?_) (ArgsE.back (λb h=>x1.free h) d2));subst er eu;obtain⟨⟨c,us,ec,h1,_⟩,_⟩:=d1;cases ec;have:=ArgsE.nones d2 _ hb;rw[h1]at this;cases this
 |exc c fs S2=>rw[z]at q1';exact λα2 H2 x2 w2=>q1' α2 H2 (x1.trans x2) w2
 |no=>rw[z]at q1';exact q1'
def lO(rs:List Er)(S:Sto):R Er:=if rs.length<=sizeLine then .ok (.val (.tup (zU rs S).1)) (zU rs S).2 else .no
def oV(rs:List Er)(S:Sto):R Er:=if rs.length<=sizeLine then .ok (.new (zU rs S).1) (zU rs S).2 else .no
def vM{x1}(h:GY X W es af):zT X W (.Tuple es x1 pos) (λρ S=>(af ρ S).bind lO):=by
 obtain⟨t,h,k⟩:=h;refine⟨_,Kp h,λα ρ S σ H Q wd sl q=>k α ρ S σ H _ wd sl (q.bind λvs rs S1 α1 H1 e1 x1 w1 d1 q1=>?_)⟩;have q1':Post X.g W α H (if rs.length<=sizeLine then R.ok _ (zU rs S1).2 else R.no) Q:=q1;split at q1'
 .rename_i hz;obtain⟨α2,x2,y2,w2,l2⟩:=oZ w1 x1 d1;exact⟨by rw[ArgsE.length d1];exact hz,λp hp=>(q1'.shift x2).newt w2 hp l2⟩
 .exact q1'.elim
def vN(h:GY X W es af):zT X W (.List es pos) (λρ S=>(af ρ S).bind oV):=by
 obtain⟨t,h,k⟩:=h;refine⟨_,Kq h,λα ρ S σ H Q wd sl q=>k α ρ S σ H _ wd sl (q.bind λvs rs S1 α1 H1 e1 x1 w1 d1 q1=>?_)⟩;have q1':Post X.g W α H (if rs.length<=sizeLine then R.ok _ (zU rs S1).2 else R.no) Q:=q1;split at q1'
 .rename_i hz;obtain⟨α2,x2,y2,w2,l2⟩:=oZ w1 x1 d1;exact⟨by rw[ArgsE.length d1];exact hz,λp hp=>(q1'.shift x2).newl w2 hp l2⟩
 .exact q1'.elim
inductive ArgsX(K:Ud)(α:Tg)(H:Hp):List Er->List V->Prop
 |nil:ArgsX K α H [] []
 |cons {r v rs vs}:DenX K α H r v->ArgsX K α H rs vs->ArgsX K α H (r::rs) (v::vs)
def ArgsE.x{K:Ud}{H0:Hp}{α:Tg}{H:Hp}: ∀{rs vs},ArgsE K H0 α H rs vs->ArgsX K α H rs vs:=λhh=>by
 induction hh with
 |nil=>exact .nil
 |cons a _ l ih=>exact .cons a.1 (ih)
def pA(X:Cx)(W:XW)(r:List V->Hp->VK->Prop)(F:List Er->Sto->R Er):Prop:= ∀rs vs α S H Q,Wd X.g α S H->ArgsX X.K α H rs vs->Post X.g W α H (F rs S) Q->r vs H Q
def yG{id:String}{r:List V->Hp->VK->Prop}{F:List Er->Sto->R Er}{x:Str}{p:Pos}(hc:CallR X (.builtin id) r)(hF:pA X W r F)(hg:Gl X x)(hm:X.mg x=none)(hv:bootBuiltins x=some (.builtin id))(ha:GY X W (e::es) af)
  (hn:x≠"__name__":=by decide) (hdb:(x==("__debug__":Str))=false:=by decide)
  (he:starEach (e::es) X.env=(false,eval e X.env)::starEach es X.env:=by rfl) (hpl:(backTo pos (starEach es X.env)).any (·.1)=false:=by rfl):zT X W (.Call (.Name x p) (e::es) [] pos) (λρ S=>(af ρ S).bind F):=by
 obtain⟨t,ha,k⟩:=ha;exact⟨_,KR hc hg hm hv ha hn hdb he hpl,λα ρ S σ H Q wd sl q=>k α ρ S σ H _ wd sl (q.bind λvs rs S1 α1 H1 e1 x1 w1 d1 q1=>hF rs vs α1 S1 H1 Q w1 (ArgsE.x d1) (q1.shift x1))⟩
def iR{T:String}{r:List V->Hp->VK->Prop}{F:List Er->Sto->R Er}{x:Str}{p:Pos}(hc:CallR X (.type T) r)(hF:pA X W r F)(hg:Gl X x)(hm:X.mg x=none)(hv:bootBuiltins x=some (.type T))(ha:GY X W (e::es) af)
  (hn:x≠"__name__":=by decide) (hdb:(x==("__debug__":Str))=false:=by decide)
  (he:starEach (e::es) X.env=(false,eval e X.env)::starEach es X.env:=by rfl) (hpl:(backTo pos (starEach es X.env)).any (·.1)=false:=by rfl):zT X W (.Call (.Name x p) (e::es) [] pos) (λρ S=>(af ρ S).bind F):=by
 obtain⟨t,ha,k⟩:=ha;exact⟨_,vD hc hg hm hv ha hn hdb he hpl,λα ρ S σ H Q wd sl q=>k α ρ S σ H _ wd sl (q.bind λvs rs S1 α1 H1 e1 x1 w1 d1 q1=>hF rs vs α1 S1 H1 Q w1 (ArgsE.x d1) (q1.shift x1))⟩
def YD(X:Cx)(W:XW)(r:V->List V->Hp->VK->Prop)(F:Er->List Er->Sto->R Er):Prop:= ∀p rs x vs α S H0 H Q α0,Wd X.g α S H->Ext α0 H0 α H->DenX X.K α H p x->ArgsE X.K H0 α H rs vs->Post X.g W α0 H0 (F p rs S) Q->r x vs H Q
def TyM(X:Cx)(T:String)(ty:Er->Sto->Bool):Prop:= ∀p x α S H,Wd X.g α S H->DenX X.K α H p x->ty p S=true->tyV X.K T x H
def IU{T:String}{name:Str}{id:String}{r:V->List V->Hp->VK->Prop}{F:Er->List Er->Sto->R Er}{ty:Er->Sto->Bool}{apos:Pos}(pa:PlainAttrs T)(slot:Slot T name id)(hty:typeOf (.builtin id)=pure (.type "method_descriptor"))(hm:Hx X id r)(hF:YD X W r F)(hT:TyM X T ty)
  (ho:zT X W a f) (ha:GY X W (e::es) af)
  (hbase:attributeBase a name X.env (eval a X.env)=eval a X.env:=by rfl)
  (hfew:((backTo pos (starEach (e::es) X.env)).all (λx=>!x.1)&&(backToKw pos (keywordEach [] X.env)).all (λx=>x.1.isSome)
   &&decide ((e::es).length+([]:List Keyword).length+(if([]:List Keyword).isEmpty then 0 else 1)<30))=true:=by rfl)
  (hline:(apos.endLine==pos.line)=true:=by rfl) (hs:starEach (e::es) X.env=(false,eval e X.env)::starEach es X.env:=by rfl) (hplain:(backTo pos (starEach es X.env)).any (·.1)=false:=by rfl):
  zT X W (.Call (.Attribute a name apos) (e::es) [] pos) (λρ S=>(f ρ S).bind λp S1=>if ty p S1=true then(af ρ S1).bind λrs S2=>F p rs S2 else .no):=by
 obtain⟨to,ho,fo⟩:=ho;obtain⟨t,ha,k⟩:=ha;refine⟨_,Qh pa slot hty hm ho ha hbase hfew hline hs hplain,λα ρ S σ H Q wd sl q=>fo α ρ S σ H _ wd sl (q.bind λu p S1 α1 H1 e1 x1 w1 d1 q1=>?_)⟩;split at q1
 .rename_i hz;exact⟨hT p u α1 S1 H1 w1 d1.1 hz,k α1 ρ S1 σ H1 _ w1 (sl.ext x1) ((q1.shift x1).bind λvs rs S2 α2 H2 e2 x2 w2 d2 q2=>hF p rs u vs α2 S2 H1 H2 Q α1 w2 x2 (d1.1.ext x2) d2 q2)⟩
 .exact q1.elim
def BP:Li X W none (λ_ S=>.ok none S):=⟨_,Ct,λα ρ S σ H Q wd sl q=>q.here wd rfl⟩
def Du:Er->Sto->R (Option Int)
 |.val (.int i),S=>.ok (some i) S
 |_,_=>.no
def BQ(ha:zT X W a f):Li X W (some a) (λρ S=>(f ρ S).bind Du):=by
 obtain⟨ta,ha,fa⟩:=ha;refine⟨_,Cu ha,λα ρ S σ H Q wd sl q=>fa α ρ S σ H _ wd sl (q.bind λu p S1 α1 H1 e1 x1 w1 d1 q1=>?_)⟩;unfold Du at q1;split at q1
 .exact⟨_,yX d1.1,(q1.shift x1).here w1 rfl⟩
 .exact q1.elim
def Sl3(X:Cx)(W:XW)(r:V->Option Int->Option Int->Hp->VK->Prop)(F:Er->Option Int->Option Int->Sto->R Er):Prop:= ∀p lo hi x α S H Q,Wd X.g α S H->DenX X.K α H p x->Post X.g W α H (F p lo hi S) Q->r x lo hi H Q
def YE{lo hi:Option Expr}{r:V->Option Int->Option Int->Hp->VK->Prop}{F:Er->Option Int->Option Int->Sto->R Er}{lf hf:Rho->Sto->R (Option Int)}{p2:Pos}(hr:SlR X r)(hF:Sl3 X W r F)(ha:zT X W a f)(hl:Li X W lo lf)(hh:Li X W hi hf):
  zT X W (.Subscript a (.Slice lo hi none p2) pos) (λρ S=>(f ρ S).bind λp S1=>(lf ρ S1).bind λl S2=>(hf ρ S2).bind λu S3=>F p l u S3):=by
 obtain⟨ta,ha,fa⟩:=ha;obtain⟨tl,hl,fl⟩:=hl;obtain⟨th,hh,fh⟩:=hh
 refine⟨_,XN hr ha hl hh,λα ρ S σ H Q wd sl q=>fa α ρ S σ H _ wd sl (q.bind λu p S1 α1 H1 e1 x1 w1 d1 q1=>fl α1 ρ S1 σ H1 _ w1 (sl.ext x1) ((q1.shift x1).bind λu2 l S2 α2 H2 e2 x2 w2 d2 q2=>
  fh α2 ρ S2 σ H2 _ w2 ((sl.ext x1).ext x2) ((q2.shift x2).bind λu3 m S3 α3 H3 e3 x3 w3 d3 q3=>?_)))⟩
 cases d2;cases d3;exact hF p u2 u3 u α3 S3 H3 Q w3 ((d1.1.ext x2).ext x3) (q3.shift x3)
end
inductive Fl where
 |next (ρ:Rho)|ret (r:Er)|brk (ρ:Rho)|cont (ρ:Rho)
abbrev AX:=Rho->Sto->R Er
abbrev AY:=Rho->Sto->R Fl
abbrev AZ:=Rho->Sto->R Bool
def PostS(g:Gm)(W:XW)(α:Tg)(H:Hp)(D:Ends):R Fl->Prop
 |.ok (.next ρ) S=> ∀σ α' H',Ext α H α' H'->Wd g α' S H'->Slots g.K α' H' ρ σ->D.nx σ H'
 |.ok (.ret r) S=> ∀v α' H',Ext α H α' H'->Wd g α' S H'->DenE g.K H α' H' r v->D.rt v H'
 |.ok (.brk ρ) S=> ∀σ α' H',Ext α H α' H'->Wd g α' S H'->Slots g.K α' H' ρ σ->D.bk σ H'
 |.ok (.cont ρ) S=> ∀σ α' H',Ext α H α' H'->Wd g α' S H'->Slots g.K α' H' ρ σ->D.ct σ H'
 |.exc c fs S=> ∀α' H',Ext α H α' H'->Wd g α' S H'->W c fs S α' H'
 |.no=>False
section
variable{g:Gm}{W:XW}{α α':Tg}{H H':Hp}{D D':Ends}
def PostS.shift(x:Ext α H α' H'): ∀{m:R Fl},PostS g W α H D m->PostS g W α' H' D m
 |.ok (.next ρ) S,q=>λσ α2 H2 x2 w2 s2=>q σ α2 H2 (x.trans x2) w2 s2
 |.ok (.ret r) S,q=>λv α2 H2 x2 w2 d2=>q v α2 H2 (x.trans x2) w2 (d2.back λb h=>x.free h)
 |.ok (.brk ρ) S,q=>λσ α2 H2 x2 w2 s2=>q σ α2 H2 (x.trans x2) w2 s2
 |.ok (.cont ρ) S,q=>λσ α2 H2 x2 w2 s2=>q σ α2 H2 (x.trans x2) w2 s2
 |.exc c fs S,q=>λα2 H2 x2 w2=>q α2 H2 (x.trans x2) w2
 |.no,q=>q
def PostS.expr{β τ:Type}[Dn β τ]{m:R β}{k:β->Sto->R Fl}{Q':τ->Hp->Prop}(q:PostS g W α H D (m.bind k))
  (f: ∀u b S1 α1 H1,m=.ok b S1->Ext α H α1 H1->Wd g α1 S1 H1->Dn.d g H α1 S1 H1 b u->PostS g W α H D (k b S1)->Q' u H1):Post g W α H m Q':=by
 cases m with
 |ok b S=>exact λu α1 H1 x w d=>f u b S α1 H1 rfl x w d q
 |exc c fs S=>exact q
 |no=>exact q
def PostS.stmt{m:R Fl}{k:Fl->Sto->R Fl}(q:PostS g W α H D (m.bind k))
  (hn: ∀ρ S σ α1 H1,m=.ok (.next ρ) S->Ext α H α1 H1->Wd g α1 S H1->Slots g.K α1 H1 ρ σ->PostS g W α H D (k (.next ρ) S)->D'.nx σ H1)
  (hr: ∀r S v α1 H1,m=.ok (.ret r) S->Ext α H α1 H1->Wd g α1 S H1->DenE g.K H α1 H1 r v->PostS g W α H D (k (.ret r) S)->D'.rt v H1)
  (hb: ∀ρ S σ α1 H1,m=.ok (.brk ρ) S->Ext α H α1 H1->Wd g α1 S H1->Slots g.K α1 H1 ρ σ->PostS g W α H D (k (.brk ρ) S)->D'.bk σ H1)
  (hc: ∀ρ S σ α1 H1,m=.ok (.cont ρ) S->Ext α H α1 H1->Wd g α1 S H1->Slots g.K α1 H1 ρ σ->PostS g W α H D (k (.cont ρ) S)->D'.ct σ H1):PostS g W α H D' m:=by
 cases m with
 |ok fl S=>
  cases fl with
  |next ρ=>exact λσ α1 H1 x w s=>hn ρ S σ α1 H1 rfl x w s q
  |ret r=>exact λv α1 H1 x w d=>hr r S v α1 H1 rfl x w d q
  |brk ρ=>exact λσ α1 H1 x w s=>hb ρ S σ α1 H1 rfl x w s q
  |cont ρ=>exact λσ α1 H1 x w s=>hc ρ S σ α1 H1 rfl x w s q
 |exc c fs S=>exact q
 |no=>exact q
end
def HC(X:Cx)(W:XW)(st:Stmt)(F:AY):Prop:=
 ∃t,PS X st t/\ ∀α ρ S σ H D,Wd X.g α S H->Slots X.K α H ρ σ->PostS X.g W α H D (F ρ S)->t D σ H
def rX(X:Cx)(W:XW)(st:List Stmt)(F:AY):Prop:=
 ∃t,PSs X st t/\ ∀α ρ S σ H D,Wd X.g α S H->Slots X.K α H ρ σ->PostS X.g W α H D (F ρ S)->t D σ H
def zO(F G:AY):AY:=λρ S=>(F ρ S).bind λfl S1=>match fl with
 |.next ρ'=>G ρ' S1
 |.ret r=>.ok (.ret r) S1
 |.brk ρ'=>.ok (.brk ρ') S1
 |.cont ρ'=>.ok (.cont ρ') S1
section
variable{X:Cx}{W:XW}{st:Stmt}{sts as bs:List Stmt}{F G:AY}{f g:AX}{tf:AZ}{e c:Expr}{pos:Pos}
def fP:rX X W [] (λρ S=>.ok (.next ρ) S):=⟨_,Cg,λα ρ S σ H D wd sl q=>q σ α H (Ext.refl α H) wd sl⟩
def yI(h:HC X W st F):rX X W [st] F:=let ⟨t,h,k⟩:=h;⟨t,Ci h,k⟩
def zL(h1:HC X W st F)(h2:rX X W sts G):rX X W (st::sts) (zO F G):=by
 obtain⟨t,h1,k1⟩:=h1;obtain⟨u,h2,k2⟩:=h2;refine⟨_,KP h1 h2,λα ρ S σ H D wd sl q=>k1 α ρ S σ H _ wd sl (q.stmt ?_ ?_ ?_ ?_)⟩
 .intro ρ1 S1 σ1 α1 H1 e x1 w1 s1 q1;exact k2 α1 ρ1 S1 σ1 H1 D w1 s1 (PostS.shift x1 q1)
 .intro r S1 v α1 H1 e x1 w1 d1 q1;exact q1 v α1 H1 x1 w1 d1
 .intro ρ1 S1 σ1 α1 H1 e x1 w1 s1 q1;exact q1 σ1 α1 H1 x1 w1 s1
 .intro ρ1 S1 σ1 α1 H1 e x1 w1 s1 q1;exact q1 σ1 α1 H1 x1 w1 s1
def dP(he:zT X W e f):HC X W (.Return (some e) pos) (λρ S=>(f ρ S).bind λr S1=>.ok (.ret r) S1):=by obtain⟨t,he,k⟩:=he;exact⟨_,Jx he,λα ρ S σ H D wd sl q=>k α ρ S σ H _ wd sl (q.expr λu r S1 α1 H1 e x1 w1 d1 q1=>q1 u α1 H1 x1 w1 d1)⟩
def tG:HC X W st (λ_ _=>.no):=⟨_,XA,λα ρ S σ H D wd sl q=>q.elim⟩
def tH(he:zT X W e f)(hs:swapsWith e none pos.line X.env=pure false:=by rfl):HC X W (.Expr e pos) (λρ S=>(f ρ S).bind λ_ S1=>.ok (.next ρ) S1):=by obtain⟨t,he,k⟩:=he;exact⟨_,Cj he hs,λα ρ S σ H D wd sl q=>k α ρ S σ H _ wd sl (q.expr λu r S1 α1 H1 e x1 w1 d1 q1=>q1 σ α1 H1 x1 w1 (sl.ext x1))⟩
def rB(hc:qV X W c tf)(ha:rX X W as F)(hb:rX X W bs G):HC X W (.If c as bs pos) (λρ S=>(tf ρ S).bind λk S1=>if k=true then F ρ S1 else G ρ S1):=by
 obtain⟨tc,hc,kc⟩:=hc;obtain⟨ta,ha,ka⟩:=ha;obtain⟨tb,hb,kb⟩:=hb;refine⟨_,Pj hc ha hb,λα ρ S σ H D wd sl q=>kc α ρ S σ H _ wd sl (q.expr λu p S1 α1 H1 e x1 w1 d1 q1=>?_)⟩;cases d1
 cases u with
 |true=>rw[iP rfl]at q1 ⊢; exact ka α1 ρ S1 σ H1 D w1 (sl.ext x1) (PostS.shift x1 q1)
 |false=>rw[iN xF0]at q1 ⊢; exact kb α1 ρ S1 σ H1 D w1 (sl.ext x1) (PostS.shift x1 q1)
instance:Dn Rho St:=⟨λg _ α' _ H' ρ σ=>Slots g.K α' H' ρ σ,λ_ q=>q⟩
def Hz(X:Cx)(W:XW)(tg:Expr)(gf:MV->Rho->Sto->R Rho):Prop:=
 ∃t,PG X tg t/\ ∀α ρ S σ H d v Q,Wd X.g α S H->Slots X.K α H ρ σ->Den X.K α H d v->Post X.g W α H (gf d ρ S) Q->t v σ H Q
def YF(X:Cx)(W:XW)(tgs:Uc)(gf:List MV->Rho->Sto->R Rho):Prop:=
 ∃t,Pl X tgs t/\ ∀α ρ S σ H ds vs Q,Wd X.g α S H->Slots X.K α H ρ σ->DenL X.K α H ds vs->Post X.g W α H (gf ds ρ S) Q->t vs σ H Q
def wR(i:Nat):MV->Rho->Sto->R Rho:=λd ρ S=>.ok (ρ.set i (some d)) S
def jM(i:Nat){x:Str}(hN:X.N.Nodup)(hi:X.N[i]? =some x:=by rfl)(hx:Loc X.env.scope x:=by first |exact Or.inl rfl|exact Or.inr rfl)(hf:X.fn x=true\/X.env.scope.names.lookup x=some .local:=by first |exact .inl rfl|exact .inr rfl|assumption):
  Hz X W (.Name x pos) (wR i):=⟨_,RG hN hi hx hf,λα ρ S σ H d v Q wd sl de q=>Post.here q wd (sl.set de)⟩
def oP:List MV->Rho->Sto->R Rho
 |[],ρ,S=>.ok ρ S
 |_,_,_=>.no
def yS(g1:MV->Rho->Sto->R Rho)(g2:List MV->Rho->Sto->R Rho):List MV->Rho->Sto->R Rho
 |d::ds,ρ,S=>(g1 d ρ S).bind λρ1 S1=>g2 ds ρ1 S1
 |_,_,_=>.no
def IV:YF X W [] oP:=⟨_,Ck,λα ρ S σ H ds vs Q wd sl de q=>by
 cases ds with
 |nil=>exact⟨de.isnil,Post.here q wd sl⟩
 |cons d ds=>exact q.elim⟩
def lP{es:Uc}{g1:MV->Rho->Sto->R Rho}{g2:List MV->Rho->Sto->R Rho}(h1:Hz X W e g1)(h2:YF X W es g2)(hs:(assignEach (e::es) X.env).map (·.2)=assign e X.env::(assignEach es X.env).map (·.2):=by rfl):YF X W (e::es) (yS g1 g2):=by
 obtain⟨t1,h1,k1⟩:=h1;obtain⟨t2,h2,k2⟩:=h2;refine⟨_,XC h1 h2 hs,λα ρ S σ H ds vs Q wd sl de q=>?_⟩
 cases ds with
 |nil=>exact q.elim
 |cons d ds=>
  obtain⟨v,r,rfl,a,l⟩:=de.uncons;refine⟨v,r,rfl,k1 α ρ S σ H d v _ wd sl a (Post.bind q λu p S1 α1 H1 e x1 w1 d1 q1=>k2 α1 p S1 u H1 ds r Q w1 d1 (l.ext x1) (q1.shift x1))⟩
def OL(n:Nat)(g2:List MV->Rho->Sto->R Rho):MV->Rho->Sto->R Rho
 |.tup ds,ρ,S=>if ds.length=n then g2 ds ρ S else .no
 |_,_,_=>.no
def IW{es:Uc}{k n:Nat}{g2:List MV->Rho->Sto->R Rho}(hc:X.calm=true)(h:YF X W es g2)
  (hn:(assignEach es X.env).length=n:=by rfl) (hst:(assignEach es X.env).findIdx? (·.1)=none:=by rfl):Hz X W (.Tuple es k pos) (OL n g2):=by
 obtain⟨t,h,k⟩:=h;refine⟨_,Ka hc h hn hst,λα ρ S σ H d v Q wd sl de q=>?_⟩;unfold OL at q;split at q
 .split at q
  .rename_i hl;obtain⟨a,vs,rfl,s,l⟩:=xC de;exact⟨a,vs,rfl,s,by rw[l.length];exact hl,k α ρ S σ H _ vs Q wd sl l q⟩
  .exact q.elim
 .exact q.elim
def jG(r:Er)(S:Sto):R MV:=match r with
 |.val d=>.ok d S
 |.new ds=>.ok (.loc S.length) (S++[.lst ds])
def aB{g:Gm}{H0:Hp}{α0 α:Tg}{H:Hp}{S:Sto}{r:Er}{v:V}(w:Wd g α S H)(x:Ext α0 H0 α H)(d:DenE g.K H0 α H r v):
  ∃d' S' α',jG r S=.ok d' S'/\Ext α0 H0 α' H/\Ex0 α H α' H/\Wd g α' S' H/\Den g.K α' H d' v:=by
 cases r with
 |val d'=>exact⟨d',S,α,rfl,x,⟨⟨[],by simp⟩,λ_ _ h=>h,λ_ _ _ h=>h⟩,w,d.1⟩
 |new ds=>
  obtain⟨⟨c,us,rfl,h1,h2,h3⟩,h4⟩:=d;exact⟨_,_,_,rfl,w.enterx x (h4 c rfl) h2,Ex0.grow α [c] H,w.enter h1 h2 h3,BO (by rw[<-w.len,getElem?_append_right (Nat.le_refl _),sub_self];rfl)⟩
def FZ(ρ:Rho)(i:Nat)(r:Er)(S:Sto):R Fl:=(jG r S).bind λd S1=>.ok (.next (ρ.set i (some d))) S1
def yY(i:Nat){x:Str}{pos':Pos}(hN:X.N.Nodup)(he:zT X W e f)(hi:X.N[i]? =some x:=by rfl)(hx:Loc X.env.scope x:=by first |exact Or.inl rfl|exact Or.inr rfl)
  (hs:swapsWith e (some (.Name x pos')) pos.line X.env=pure false:=by rfl) (hf:X.fn x=true\/X.env.scope.names.lookup x=some .local:=by first |exact .inl rfl|exact .inr rfl|assumption):
  HC X W (.Assign [.Name x pos'] e pos) (λρ S=>(f ρ S).bind (FZ ρ i)):=by
 obtain⟨t,he,k⟩:=he;refine⟨_,Ke hN hi hx he hs hf,λα ρ S σ H D wd sl q=>k α ρ S σ H _ wd sl (q.expr λu r S1 α1 H1 e x1 w1 d1 q1=>?_)⟩;obtain⟨d',S',α',e1,x',y',w',de⟩:=aB w1 x1 d1;unfold FZ at q1;rw[e1]at q1;exact q1 _ α' H1 x' w' (((sl.ext x1).ex0 y').set de)
def Dv(gf:MV->Rho->Sto->R Rho)(ρ:Rho)(r:Er)(S:Sto):R Fl:=(jG r S).bind λd S1=>(gf d ρ S1).bind λρ' S2=>.ok (.next ρ') S2
def PD{tg:Expr}{gf:MV->Rho->Sto->R Rho}(he:zT X W e f)(hg:Hz X W tg gf)(hs:swapsWithSole [tg] e pos.line X.env=pure false:=by rfl)(hw:swappedStores [tg] e X.env=pure none:=by rfl)
  (h1:(assignEach [tg] X.env).map (·.2)=[assign tg X.env]:=by rfl):HC X W (.Assign [tg] e pos) (λρ S=>(f ρ S).bind (Dv gf ρ)):=by
 obtain⟨t,he,k⟩:=he;obtain⟨tg',hg,kg⟩:=hg;refine⟨_,Kd he hg hs hw h1,λα ρ S σ H D wd sl q=>k α ρ S σ H _ wd sl (q.expr λu r S1 α1 H1 e x1 w1 d1 q1=>?_)⟩;obtain⟨d',S',α',e1,x',y',w',de⟩:=aB w1 x1 d1;unfold Dv at q1;rw[e1]at q1;have q1:PostS X.g W α H D ((gf d' ρ S').bind λρ' S2=>.ok _ S2):=q1;exact kg α' ρ S' σ H1 d' u _ w' ((sl.ext x1).ex0 y') de ((PostS.shift x' q1).expr λσ2 ρ2 S2 α2 H2 e2 x2 w2 s2 q2=>q2 σ2 α2 H2 x2 w2 s2)
structure Wk where
 ds:List MV
 gs:List (Nat×List MV)
def stay(gs:Uj)(S:Sto):Prop:= ∀p∈gs,S[p.1]? =some (.lst p.2)
def Qo(g:Gm)(J:It)(P:List Addr->Sto->Hp->Prop)(ds:Ug):Prop:= ∀i α S H,P α S H->Wd g α S H->(i<ds.length->J.go i H/\ ∀x H',J.yld i H x H'->Ext α H α H'/\Wd g α S H'/\P α S H'/\ ∃d,ds[i]? =some d/\Den g.K α H' d x)/\(ds.length<=i->J.stop i H)
structure WkD(g:Gm)(α:Tg)(S:Sto)(H:Hp)(k:Wk)(J:It)(P:List Addr->Sto->Hp->Prop):Prop where
 it:Qo g J P k.ds
 here:P α S H
 stays: ∀α1 S1 H1 α2 S2 H2,P α1 S1 H1->Ext α1 H1 α2 H2->Wd g α2 S2 H2->stay k.gs S2->P α2 S2 H2
 st:stay k.gs S
instance:Dn Wk It:=⟨λg _ α S H k J=> ∃P,WkD g α S H k J P,λ_ q=>q⟩
abbrev LH(X:Cx)(W:XW)(tg iter:Expr)(f:Rho->Sto->R Wk):Prop:=Jd X W (PI X tg iter) f
variable{tg iter:Expr}
theorem DH{a:Addr}{ds:Ug}:Qo X.g (Itl X.K a) (λα S H=> ∃vs,SqL X.K H a vs/\DenL X.K α H ds vs) ds:=by intro i α S H ⟨vs,s,l⟩ w;have hl:=l.length;refine⟨λhi=>?_,λhi=>⟨vs,s,by lia⟩⟩;refine⟨⟨vs,_,s,gE (by lia)⟩,λx H' y=>?_⟩;obtain⟨rfl,y⟩:=y;obtain⟨d,h1,h2⟩:=l.get (y vs s);exact⟨Ext.refl _ _,w,⟨vs,s,l⟩,d,h1,h2⟩
theorem Dw{a:Addr}{ds:Ug}:Qo X.g (Itt X.K a) (λα S H=> ∃vs,SqT X.K H a vs/\DenL X.K α H ds vs) ds:=by intro i α S H ⟨vs,s,l⟩ w;have hl:=l.length;refine⟨λhi=>?_,λhi=>⟨vs,s,by lia⟩⟩;refine⟨⟨vs,_,s,gE (by lia)⟩,λx H' y=>?_⟩;obtain⟨rfl,y⟩:=y;obtain⟨d,h1,h2⟩:=l.get (y vs s);exact⟨Ext.refl _ _,w,⟨vs,s,l⟩,d,h1,h2⟩
def Dx{x:Db}:Qo X.g (Qk x) (λ_ _ _=>True) (x.map λc=>.str [c]):=by intro i α S H _ w;refine⟨λhi=>⟨show i<x.length by simpa using hi,λv H' y=>?_⟩,λhi=>by show x.length<=i;simpa using hi⟩;obtain⟨rfl,c,h1,h2⟩:=y;refine⟨Ext.refl _ _,w,trivial,.str [c],by rw[getElem?_map,h1];rfl,?_⟩;rw[h2];exact lL [c]
def UX{lo:Int}{n:Nat}:Qo X.g (Sn lo n) (λ_ _ _=>True) ((List.range n).map λk=>.int (lo+(k:Nat))):=by intro i α S H _ w;refine⟨λhi=>⟨show i<n by simpa using hi,λv H' y=>?_⟩,λhi=>by show n<=i;simpa using hi⟩;obtain⟨rfl,y⟩:=y;refine⟨Ext.refl _ _,w,trivial,_,by rw[getElem?_map,List.getElem?_range (by simpa using hi)];rfl,?_⟩;rw[y];exact yV _
def PF:Er->Sto->R Wk
 |.new ds,S=>.ok ⟨ds,[]⟩ S
 |.val (.scr ds),S=>.ok ⟨ds,[]⟩ S
 |.val (.loc l),S=>match S[l]? with
  |some (.lst ds)=>.ok ⟨ds,[(l,ds)]⟩ S
  |_=>.no
 |_,_=>.no
def gR{S:Sto}:stay [] S:=λp h=>by simp at h
def qC(he:zT X W iter f):LH X W tg iter (λρ S=>(f ρ S).bind PF):=by
 obtain⟨t,he,k⟩:=he;refine⟨_,Cm he,λα ρ S σ H Rc wd sl q=>k α ρ S σ H _ wd sl (q.bind λu p S1 α1 H1 e x1 w1 d1 q1=>?_)⟩
 replace q1:=q1.shift x1
 unfold PF at q1;split at q1
 .rename_i S0 ds;obtain⟨⟨b,vs,rfl,h1,h2,h3⟩,h4⟩:=d1;refine⟨b,rfl,⟨vs,.of h1⟩,q1.here w1 ⟨λα2 S2 H2=> ∃vs,SqL X.K H2 b vs/\DenL X.K α2 H2 ds vs/\H2 b=some (.lst vs)/\b∉α2,?_,⟨vs,.of h1,h3,h1,h2⟩,?_,gR⟩⟩
  .intro i α2 S2 H2 ⟨vs2,a1,a2,a3,a4⟩ w2;obtain⟨i1,i2⟩:=DH i α2 S2 H2 ⟨vs2,a1,a2⟩ w2;refine⟨λhi=>⟨(i1 hi).1,λx H' y=>?_⟩,i2⟩;obtain⟨j1,j2,j3,j4⟩:=(i1 hi).2 x H' y;obtain⟨rfl,_⟩:=y;exact⟨j1,j2,⟨vs2,a1,a2,a3,a4⟩,j4⟩
  .intro α2 S2 H2 α3 S3 H3 ⟨vs2,a1,a2,a3,a4⟩ x w3 _;exact⟨vs2,.of (x.keep b _ a3 a4),a2.ext x,x.keep b _ a3 a4,x.out a3 a4⟩
 .rename_i S0 ds;obtain⟨a,vs,rfl,s,l⟩:=IT d1.1;refine⟨a,rfl,⟨vs,s.l⟩,q1.here w1 ⟨λα2 S2 H2=> ∃vs,SqL X.K H2 a vs/\DenL X.K α2 H2 ds vs/\SqF X.K H2 a vs,?_,⟨vs,s.l,l,s⟩,?_,gR⟩⟩
  .intro i α2 S2 H2 ⟨vs2,a1,a2,a3⟩ w2;obtain⟨i1,i2⟩:=DH i α2 S2 H2 ⟨vs2,a1,a2⟩ w2;refine⟨λhi=>⟨(i1 hi).1,λx H' y=>?_⟩,i2⟩;obtain⟨j1,j2,j3,j4⟩:=(i1 hi).2 x H' y;obtain⟨rfl,_⟩:=y;exact⟨j1,j2,⟨vs2,a1,a2,a3⟩,j4⟩
  .intro α2 S2 H2 α3 S3 H3 ⟨vs2,a1,a2,a3⟩ x w3 _;exact⟨vs2,(x.sqF a3).l,a2.ext x,x.sqF a3⟩
 .rename_i S0 n;obtain⟨a,rfl,h⟩:=rU d1.1;obtain⟨o,h1,h2⟩:=w1.of h;rw[h1]at q1
  cases o with
  |lst ds=>
   obtain⟨vs,h3,l⟩:=h2;refine⟨a,rfl,⟨vs,.of h3⟩,Post.here q1 w1 ⟨λα2 S2 H2=> ∃vs,SqL X.K H2 a vs/\DenL X.K α2 H2 ds vs/\α2[n]? =some a,?_,⟨vs,.of h3,l,h⟩,?_,?_⟩⟩
   .intro i α2 S2 H2 ⟨vs2,a1,a2,a3⟩ w2;obtain⟨i1,i2⟩:=DH i α2 S2 H2 ⟨vs2,a1,a2⟩ w2;refine⟨λhi=>⟨(i1 hi).1,λx H' y=>?_⟩,i2⟩;obtain⟨j1,j2,j3,j4⟩:=(i1 hi).2 x H' y;obtain⟨rfl,_⟩:=y;exact⟨j1,j2,⟨vs2,a1,a2,a3⟩,j4⟩
   .intro α2 S2 H2 α3 S3 H3 ⟨vs2,a1,a2,a3⟩ x w3 hs;have a3':=x.at a3;have:=w3.obj n a _ a3' (hs (n,ds) (by simp));obtain⟨vs3,b1,b2⟩:=this;exact⟨vs3,.of b1,b2,a3'⟩
   .intro p hp;have:=by simpa using hp
    subst this;exact h1
  |dic ds=>exact q1.elim
  |ins c fs=>exact q1.elim
  |rcd c fs=>exact q1.elim
  |fdc _=>exact q1.elim
 .exact q1.elim
def UY:Er->Sto->R Wk
 |.val (.tup ds),S=>.ok ⟨ds,[]⟩ S
 |_,_=>.no
def PH(he:zT X W iter f):LH X W tg iter (λρ S=>(f ρ S).bind UY):=by
 obtain⟨t,he,k⟩:=he;refine⟨_,Kh he,λα ρ S σ H Rc wd sl q=>k α ρ S σ H _ wd sl (q.bind λu p S1 α1 H1 e x1 w1 d1 q1=>?_)⟩
 replace q1:=q1.shift x1
 unfold UY at q1;split at q1
 .rename_i S0 ds;obtain⟨a,vs,rfl,s,l⟩:=aI d1.1;exact⟨a,rfl,⟨vs,s⟩,q1.here w1 ⟨_,Dw,⟨vs,s,l⟩,λα2 S2 H2 α3 S3 H3 ⟨vs2,a1,a2⟩ x w3 _=>⟨vs2,x.sqT a1,a2.ext x⟩,gR⟩⟩
 .exact q1.elim
def Su:Er->Sto->R Wk
 |.val (.str x),S=>.ok ⟨x.map λc=>.str [c],[]⟩ S
 |_,_=>.no
def Ln(he:zT X W iter f):LH X W tg iter (λρ S=>(f ρ S).bind Su):=by
 obtain⟨t,he,k⟩:=he;refine⟨_,Lc he,λα ρ S σ H Rc wd sl q=>k α ρ S σ H _ wd sl (q.bind λu p S1 α1 H1 e x1 w1 d1 q1=>?_)⟩
 replace q1:=q1.shift x1
 unfold Su at q1;split at q1
 .rename_i S0 x;exact⟨x,kH d1.1,q1.here (u:=Qk x) w1 ⟨_,Dx,trivial,λ_ _ _ _ _ _ _ _ _ _=>trivial,gR⟩⟩
 .exact q1.elim
def aK:List Er->Sto->R Wk
 |[.val (.int j)],S=>if -(2 ^ 62)<=j/\j<2 ^ 62 then .ok ⟨(List.range j.toNat).map λk=>.int (k:Nat),[]⟩ S else .no
 |_,_=>.no
variable{af:Rho->Sto->R (List Er)}{p:Pos}{a:Expr}
def DI{K:Ud}{H0:Hp}{α:Tg}{H:Hp}{r:Er}{vs:List V}(d:ArgsE K H0 α H [r] vs): ∃v,vs=[v]/\DenX K α H r v:=by
 cases d with
 |cons a n l=>cases l;exact⟨_,rfl,a.1⟩
def HD(hg:Gl X "range")(hm:X.mg "range"=none)(ha:GY X W [a] af)(hs:starEach [a] X.env=[(false,eval a X.env)]:=by rfl):LH X W tg (.Call (.Name "range" p) [a] [] pos) (λρ S=>(af ρ S).bind aK):=by
 obtain⟨t,ha,k⟩:=ha;refine⟨_,UK hg hm ha hs,λα ρ S σ H Rc wd sl q=>k α ρ S σ H _ wd sl (q.bind λvs rs S1 α1 H1 e x1 w1 d1 q1=>?_)⟩
 replace q1:=q1.shift x1
 unfold aK at q1;split at q1
 .split at q1
  .rename_i S0 j hj;obtain⟨v,rfl,dv⟩:=DI d1;cases yX dv;have:=UX (X:=X) (lo:=0) (n:=j.toNat);simp only[Int.zero_add]at this;exact⟨j,rfl,hj.1,hj.2,q1.here w1 ⟨_,this,trivial,λ_ _ _ _ _ _ _ _ _ _=>trivial,gR⟩⟩
  .exact q1.elim
 .exact q1.elim
open Classical in
def dD(gf:MV->Rho->Sto->R Rho)(body:AY)(gs:Uj):List MV->AY
 |[],ρ,S=>.ok (.next ρ) S
 |d::ds,ρ,S=>(gf d ρ S).bind λρ0 S0=>(body ρ0 S0).bind λfl S1=>match fl with
  |.next ρ'=>if stay gs S1 then dD gf body gs ds ρ' S1 else .no
  |.cont ρ'=>if stay gs S1 then dD gf body gs ds ρ' S1 else .no
  |.brk ρ'=>.ok (.next ρ') S1
  |.ret r=>.ok (.ret r) S1
open Classical in
def pB{itf:Rho->Sto->R Wk}{gf:MV->Rho->Sto->R Rho}(hp:PassesOwn (model X.prog X.w) X.A X.env X.xe)(hc:X.calm=true)(hi:LH X W tg iter itf)(hg:Hz X W tg gf)(hb:rX X W as F)
  (hs: ∀y,foldedSetIterable iter X.env y=pure y:=by intro _;rfl):HC X W (.For tg iter as [] pos) (λρ S=>(itf ρ S).bind λk S1=>dD gf F k.gs k.ds ρ S1):=by
 obtain⟨wi,hi,ki⟩:=hi;obtain⟨tg',hg,kg⟩:=hg;obtain⟨tb,hb,kb⟩:=hb;refine⟨_,Ki hp hc hi hg hb hs,λα ρ S σ H D wd sl q=>ki α ρ S σ H _ wd sl (q.expr λJ k S1 α1 H1 e x1 w1 d1 q1=>?_)⟩;obtain⟨P,hP⟩:=d1;have sl1:=sl.ext x1
 replace q1:=PostS.shift x1 q1
 refine⟨λn m σ2 H2=>m=k.ds.length - n/\n<=k.ds.length/\ ∃α2 ρ2 S2,Wd X.g α2 S2 H2/\Slots X.K α2 H2 ρ2 σ2/\P α2 S2 H2/\PostS X.g W α2 H2 D (dD gf F k.gs (k.ds.drop n) ρ2 S2),⟨_,rfl,zero_le _,α1,ρ,S1,w1,sl1,hP.here,by simpa using q1⟩,?_⟩;rintro n m σ2 H2 ⟨rfl,hn,α2,ρ2,S2,w2,sl2,p2,q2⟩;obtain⟨i1,i2⟩:=hP.it n α2 S2 H2 p2 w2;by_cases hlt:n<k.ds.length
 .obtain⟨go,yl⟩:=i1 hlt;refine .inr ⟨go,λσ3 H3=> ∃α3 ρ3 S3,Wd X.g α3 S3 H3/\Slots X.K α3 H3 ρ3 σ3/\P α3 S3 H3/\PostS X.g W α3 H3 D (dD gf F k.gs (k.ds.drop (n+1)) ρ3 S3),λσ3 H3 ⟨α3,ρ3,S3,h3⟩=>⟨k.ds.length - (n+1),by omega,rfl,hlt,α3,ρ3,S3,h3⟩,λv H3 y=>?_⟩;obtain⟨x3,w3,p3,d,hd,dv⟩:=yl v H3 y;have hdrop:k.ds.drop n=d::k.ds.drop (n+1):=by rw[List.drop_eq_getElem_cons hlt];have:=gE hlt;rw[hd]at this;rw[<-Option.some.inj this]
  rw[hdrop]at q2;unfold dD at q2
  replace q2:=PostS.shift x3 q2
  refine kg α2 ρ2 S2 σ2 H3 d v _ w3 (sl2.ext x3) dv (q2.expr λσ4 ρ4 S4 α4 H4 e4 x4 w4 s4 q4=>?_);have p4: ∀α5 S5 H5,Ext α4 H4 α5 H5->Wd X.g α5 S5 H5->stay k.gs S5->P α5 S5 H5:=λα5 S5 H5 x5 w5 s5=>hP.stays α2 S2 H3 α5 S5 H5 p3 (x4.trans x5) w5 s5;refine kb α4 ρ4 S4 σ4 H4 _ w4 s4 ((PostS.shift x4 q4).stmt ?_ ?_ ?_ ?_)
  .intro ρ5 S5 σ5 α5 H5 e5 x5 w5 s5 q5;have q5':PostS X.g W α4 H4 D (if stay k.gs S5 then dD gf F k.gs (k.ds.drop (n+1)) ρ5 S5 else .no):=q5;split at q5'
   .rename_i hst;exact⟨α5,ρ5,S5,w5,s5,p4 α5 S5 H5 x5 w5 hst,PostS.shift x5 q5'⟩
   .exact q5'.elim
  .intro r S5 v5 α5 H5 e5 x5 w5 d5 q5;exact q5 v5 α5 H5 x5 w5 d5
  .intro ρ5 S5 σ5 α5 H5 e5 x5 w5 s5 q5;exact q5 σ5 α5 H5 x5 w5 s5
  .intro ρ5 S5 σ5 α5 H5 e5 x5 w5 s5 q5;have q5':PostS X.g W α4 H4 D (if stay k.gs S5 then dD gf F k.gs (k.ds.drop (n+1)) ρ5 S5 else .no):=q5;split at q5'
   .rename_i hst;exact⟨α5,ρ5,S5,w5,s5,p4 α5 S5 H5 x5 w5 hst,PostS.shift x5 q5'⟩
   .exact q5'.elim
 .have e:n=k.ds.length:=by omega
  subst e;refine .inl ⟨i2 (Nat.le_refl _),?_⟩;rw[drop_length]at q2;exact q2 σ2 α2 H2 (Ext.refl _ _) w2 sl2
end
def noX{β:Type}:R β->R β
 |.ok b S=>.ok b S
 |_=>.no
theorem gT{β:Type}(b:β)(S:Sto):noX (R.ok b S)=.ok b S:=rfl
def Post.bindY{β τ γ υ:Type}[Dn β τ][Dn γ υ]{g:Gm}{W:XW}{α α':Tg}{H H':Hp}(x:Ext α H α' H'){m:R β}{k:β->Sto->R γ}{Q:υ->Hp->Prop}{Q':τ->Hp->Prop}(q:Post g W α H ((noX m).bind k) Q)
  (f: ∀u b S1 α1 H1,m=.ok b S1->Ext α' H' α1 H1->Wd g α1 S1 H1->Dn.d g H' α1 S1 H1 b u->Post g W α H (k b S1) Q->Q' u H1):Post g W0 α' H' m Q':=by
 cases m with
 |ok b S=>exact λu α1 H1 x w d=>f u b S α1 H1 rfl x w d q
 |exc c fs S=>exact q.elim
 |no=>exact q
theorem R.bind_assoc{β γ δ:Type}(m:R β)(k1:β->Sto->R γ)(k2:γ->Sto->R δ):(m.bind k1).bind k2=m.bind λb S=>(k1 b S).bind k2:=by cases m<;>rfl
def GA(nt:Nat)(idx:Db)(ρ:Rho):Rho:=List.replicate nt none++idx.map λi=>(ρ[i]?).join
open Classical in
def kI(gf:MV->Rho->Sto->R Rho)(cf:AZ)(ef:AX)(ρb:Rho)(gs:Uj):List MV->Sto->R (List MV)
 |[],S=>.ok [] S
 |d::ds,S=>(noX (gf d ρb S)).bind λρ1 S0=>(noX (cf ρ1 S0)).bind λk S1=>
  if k=true then(noX (ef ρ1 S1)).bind λr S2=>(jG r S2).bind λy S3=>if stay gs S3 then(kI gf cf ef ρb gs ds S3).bind λout S4=>.ok (y::out) S4 else .no
  else if stay gs S1 then kI gf cf ef ρb gs ds S1 else .no
theorem UZ{K:Ud}{α:Tg}{H:Hp}{ρ:Rho}{σ:St}(q:Slots K α H ρ σ)(nt:Nat)(idx:Db)(τ:St)(hτ:τ.length=nt):Slots K α H (GA nt idx ρ) (τ++vH σ idx):=by
 refine⟨by unfold GA;rw[lA,lA,eX,lM,List.length_replicate,hτ],λi d e=>?_⟩;unfold GA at e;by_cases hi:i<nt
 .rw[getElem?_append_left (by rw[List.length_replicate];exact hi),getElem?_replicate]at e;split at e<;>cases e
 .rw[getElem?_append_right (by rw[List.length_replicate];lia),List.length_replicate,getElem?_map]at e
  cases z:idx[i - nt]? with
  |none=>rw[z]at e;cases e
  |some k=>
   rw[z]at e;have e2:(ρ[k]?).join=some d:=Option.some.inj e
   cases z2:ρ[k]? with
   |none=>rw[z2]at e2;cases e2
   |some o=>
    rw[z2]at e2;subst e2;obtain⟨v,h1,h2⟩:=q.slot k d z2;refine⟨v,?_,h2⟩;rw[getElem?_append_right (by lia),hτ];unfold vH;rw[getElem?_map,z];show some (σ[k]?).join=some _;rw[h1];rfl
def Keeps(nt:Nat)(σ:St)(Q:St->Hp->Prop):St->Hp->Prop:=λσ' H'=>σ'.length=σ.length->(∀j,nt<=j->σ'[j]? =σ[j]?)->Q σ' H'
def Lo(nt:Nat)(X:Cx)(W:XW)(tg:Expr)(gf:MV->Rho->Sto->R Rho):Prop:=
 ∃t,PG X tg t/\ ∀α ρ S σ H d v Q,Wd X.g α S H->Slots X.K α H ρ σ->Den X.K α H d v->Post X.g W α H (gf d ρ S) (Keeps nt σ Q)->t v σ H Q
section
variable{X:Cx}{W:XW}{pos:Pos}{nt:Nat}
theorem tK(i:Nat){x:Str}(hN:X.N.Nodup)(hi:X.N[i]? =some x:=by rfl)(hx:Loc X.env.scope x:=by first |exact Or.inl rfl|exact Or.inr rfl)(hf:X.fn x=true\/X.env.scope.names.lookup x=some .local:=by first |exact .inl rfl|exact .inr rfl|assumption)(hlt:i<nt:=by decide):
  Lo nt X W (.Name x pos) (wR i):=⟨_,RG hN hi hx hf,λα ρ S σ H d v Q wd sl de q=>Post.here q wd (sl.set de) (by rw[List.length_set]) λj hj=>by rw[getElem?_set_ne (by lia)]⟩
end
abbrev LI(X:Cx)(W:XW)(ifs:Uc)(f:AZ):Prop:=Jd X W (US X ifs) f
section
variable{X:Cx}{W:XW}{iter:Expr}{c:Expr}{tf:AZ}{pos:Pos}
def tL:LI X W [] (λ_ S=>.ok true S):=⟨_,XS,λα ρ S σ H Q wd sl q=>q.here wd rfl⟩
def Dy(h:qV X W c tf):LI X W [c] tf:=let ⟨t,h,k⟩:=h;⟨t,XT h,k⟩
open Classical in
def RO{C:Cx->Prop}{elt tg:Expr}{ifs:Uc}{sc:Scope}{itf:Rho->Sto->R Wk}{cf:AZ}{ef:AX}{gf:MV->Rho->Sto->R Rho}(osc:Scope)(N:Th)(T:Th)(idx:Db)
  (hi:Jd X W (Pp C X tg iter) itf) (hCx: ∀c s₂ H2 fp pins σ,Inv X pins σ H2 s₂->C (zR X sc T idx c s₂ H2 fp))
  (hg: ∀C s₂ H1 fp,([]++T++idx.map λi=>(N[i]?).getD Str.empty).Nodup->Lo T.length (zR X sc T idx C s₂ H1 fp) W0 tg gf)
  (hc: ∀C s₂ H1 fp,LI (zR X sc T idx C s₂ H1 fp) W0 ifs cf) (he: ∀C s₂ H1 fp,zT (zR X sc T idx C s₂ H1 fp) W0 elt ef)
  (e1:X.env.scope=osc:=by rfl) (e2:X.N=N:=by rfl) (hB:qY osc N sc idx=true:=by decide+kernel) (hN:([]++T++idx.map λi=>(N[i]?).getD Str.empty).Nodup:=by decide+kernel)
  (hs: ∀y,foldedSetIterable iter X.env y=pure y:=by intro _;rfl):
  Jd (β:=Er) (τ:=V) X W (λt=>PE X (.ListComp elt [⟨tg,iter,ifs,0⟩] sc pos) t/\PU X (.ListComp elt [⟨tg,iter,ifs,0⟩] sc pos) t) (λρ S=>(itf ρ S).bind λk S1=>if k.ds.length<1000000 then(kI gf cf ef (GA T.length idx ρ) k.gs k.ds S1).bind λout S2=>.ok (.new out) S2 else .no):=by
 obtain⟨wi,hi,ki⟩:=hi;subst e1 e2;have big:(1000000:Nat)<sizeLine:=by rw[sizeLine_eq];decide
 have hg': ∃t,(∀C s₂ H1 fp,PG (zR X sc T idx C s₂ H1 fp) tg t)/\ ∀α ρ S σ H d v Q,Wd X.g α S H->Slots X.K α H ρ σ->Den X.K α H d v->Post X.g W0 α H (gf d ρ S) (Keeps T.length σ Q)->t v σ H Q:=by refine⟨λv σ H Q=> ∃α ρ S d,Wd X.g α S H/\Slots X.K α H ρ σ/\Den X.K α H d v/\Post X.g W0 α H (gf d ρ S) (Keeps T.length σ Q),λC s₂ H1 fp pins s σ H v u Q I r ⟨α,ρ,S,d,h1,h2,h3,h4⟩=>?_,λα ρ S σ H d v Q h1 h2 h3 h4=>⟨α,ρ,S,d,h1,h2,h3,h4⟩⟩;obtain⟨t,ht,kt⟩:=hg C s₂ H1 fp hN;exact ht pins s σ H v u Q I r (kt α ρ S σ H d v Q h1 h2 h3 h4)
 obtain⟨tg',hg1,kg⟩:=hg';refine⟨_,⟨Di T idx hi hCx hB hg1 (λC s₂ H1 fp=>(Classical.choose_spec (hc C s₂ H1 fp)).1) (λC s₂ H1 fp=>(Classical.choose_spec (he C s₂ H1 fp)).1) hs,Dl T idx hi hCx hB hg1 (λC s₂ H1 fp=>(Classical.choose_spec (hc C s₂ H1 fp)).1) (λC s₂ H1 fp=>(Classical.choose_spec (he C s₂ H1 fp)).1) hs⟩,λα ρ S σ H Q wd sl q=>ki α ρ S σ H _ wd sl (q.bind λJ k S1 α1 H1 e1 x1 w1 d1 q1=>?_)⟩;obtain⟨P,hP⟩:=d1;split at q1
 .rename_i hlen
  refine⟨λn m ys H2=>m=k.ds.length - n/\n<=k.ds.length/\ys.length<=n/\ ∃α2 S2,Ext α H α2 H2/\Wd X.g α2 S2 H2/\P α2 S2 H2/\ ∃outs,DenL X.K α2 H2 outs ys/\Post X.g W α H ((kI gf cf ef (GA T.length idx ρ) k.gs (k.ds.drop n) S2).bind λo S'=>.ok (Er.new (outs++o)) S') Q,
   ⟨_,rfl,zero_le _,Nat.le_refl _,α1,S1,x1,w1,hP.here,[],yF,by simpa using q1⟩,?_⟩
  rintro n m ys H2 ⟨rfl,hn,hy,α2,S2,x2,w2,p2,outs,l,q2⟩;obtain⟨i1,i2⟩:=hP.it n α2 S2 H2 p2 w2;refine⟨by omega,?_⟩;by_cases hlt:n<k.ds.length
  .obtain⟨go,yl⟩:=i1 hlt;refine .inr ⟨go,by omega,λv H3 y τ hτ=>?_⟩;obtain⟨x3,w3,p3,d,hd,dv⟩:=yl v H3 y;have hdrop:k.ds.drop n=d::k.ds.drop (n+1):=by rw[List.drop_eq_getElem_cons hlt];have:=gE hlt;rw[hd]at this;rw[<-Option.some.inj this]
   rw[hdrop]at q2;unfold kI at q2;have slb:=UZ (sl.ext (x2.trans x3)) T.length idx τ hτ;refine kg α2 (GA T.length idx ρ) S2 _ H3 d v _ w3 slb dv ?_;rw[R.bind_assoc]at q2;refine q2.bindY (x2.trans x3) λσ4 ρ4 S4 α4 H4 e4 x4 w4 s4 q4 len4 kp4=>⟨⟨σ4.take T.length,?_,?_⟩,λC s₂ fp=>?_⟩
   .refine ext_getElem? λj=>?_;have hl4:σ4.length=T.length+idx.length:=by rw[len4,lA,eX,hτ]
    by_cases hj:j<T.length
    .rw[getElem?_append_left (by rw[lT];omega),getElem?_take_of_lt hj]
    .rw[kp4 j (by omega),getElem?_append_right (by omega),getElem?_append_right (by rw[lT];omega),hτ,lT,Nat.min_eq_left (by omega)]
   .rw[lT,len4,lA,eX,hτ];omega
   have x34:Ext α H α4 H4:=(x2.trans x3).trans x4;have p4: ∀α5 S5 H5,Ext α4 H4 α5 H5->Wd X.g α5 S5 H5->stay k.gs S5->P α5 S5 H5:=λα5 S5 H5 x5 w5 s5=>hP.stays α2 S2 H3 α5 S5 H5 p3 (x4.trans x5) w5 s5;rw[R.bind_assoc]at q4;refine(Classical.choose_spec (hc C s₂ H1 fp)).2 α4 ρ4 S4 σ4 H4 _ w4 s4 (q4.bindY x34 λb5 b5' S5 α5 H5 e5 x5 w5 d5 q5=>?_);cases d5
   cases b5 with
   |false=>
    rw[iN xF0]at q5 ⊢;split at q5
    .rename_i hst;exact⟨k.ds.length - (n+1),by omega,rfl,hlt,by omega,α5,S5,x34.trans x5,w5,p4 α5 S5 H5 x5 w5 hst,outs,(l.ext (x3.trans x4)).ext x5,q5⟩
    .exact q5.elim
   |true=>
    rw[iP rfl,R.bind_assoc]at q5;rw[iP rfl];refine(Classical.choose_spec (he C s₂ H1 fp)).2 α5 ρ4 S5 σ4 H5 _ w5 (s4.ext x5) (q5.bindY (x34.trans x5) λy6 r6 S6 α6 H6 e6 x6 w6 d6 q6=>?_);obtain⟨d',S',α',e7,x7,y7,w7,de⟩:=aB w6 x6 d6;rw[e7]at q6;have q6:Post X.g W α H ((if stay k.gs S' then(kI gf cf ef (GA T.length idx ρ) k.gs (k.ds.drop (n+1)) S').bind λout S4=>.ok (d'::out) S4 else .no).bind λo S'=>.ok (Er.new (outs++o)) S') Q:=q6;split at q6
    .rename_i hst;refine⟨k.ds.length - (n+1),by omega,rfl,hlt,by rw[lA,lS];omega,α',S',(x34.trans x5).trans x7,w7,p4 α' S' H6 (x5.trans x7) w7 hst,outs++[d'],((l.ext (x3.trans x4)).ext (x5.trans x7)).append (yA de yF),?_⟩;rw[R.bind_assoc]at q6;have e8:(λ(o:Ug) (S':Sto)=>R.ok (Er.new ((outs++[d'])++o)) S')=(λ(b:Ug) S=>(R.ok (d'::b) S).bind λo S'=>.ok (Er.new (outs++o)) S'):=by funext o S';show _=R.ok (Er.new (outs++(d'::o))) S';rw[aA];rfl
     rw[e8];exact q6
    .exact q6.elim
  .have e:n=k.ds.length:=by omega
   subst e;rw[drop_length]at q2;have q3:Post X.g W α H (.ok (Er.new (outs++[])) S2) Q:=q2;rw[aN]at q3;exact .inl ⟨i2 (Nat.le_refl _),λD hD=>(q3.shift x2).newl w2 hD l⟩
 .exact q1.elim
open Classical in
def IX{elt tg:Expr}{ifs:Uc}{sc:Scope}{itf:Rho->Sto->R Wk}{cf:AZ}{ef:AX}{gf:MV->Rho->Sto->R Rho}(osc:Scope)(N:Th)(T:Th)(idx:Db)
  (hi:LH X W tg iter itf) (hcalm:X.calm=true)
  (hg: ∀C s₂ H1 fp,([]++T++idx.map λi=>(N[i]?).getD Str.empty).Nodup->Lo T.length (zR X sc T idx C s₂ H1 fp) W0 tg gf)
  (hc: ∀C s₂ H1 fp,LI (zR X sc T idx C s₂ H1 fp) W0 ifs cf) (he: ∀C s₂ H1 fp,zT (zR X sc T idx C s₂ H1 fp) W0 elt ef)
  (e1:X.env.scope=osc:=by rfl) (e2:X.N=N:=by rfl) (hB:qY osc N sc idx=true:=by decide+kernel) (hN:([]++T++idx.map λi=>(N[i]?).getD Str.empty).Nodup:=by decide+kernel)
  (hs: ∀y,foldedSetIterable iter X.env y=pure y:=by intro _;rfl):
  zT X W (.ListComp elt [⟨tg,iter,ifs,0⟩] sc pos) (λρ S=>(itf ρ S).bind λk S1=>if k.ds.length<1000000 then(kI gf cf ef (GA T.length idx ρ) k.gs k.ds S1).bind λout S2=>.ok (.new out) S2 else .no):=let ⟨t,h,k⟩:=(RO osc N T idx hi (λ_ _ _ _ _ _ _=>hcalm) hg hc he e1 e2 hB hN hs);⟨t,h.1,k⟩
open Classical in
def IY{x:Str}{pos' spos:Pos}(i:Nat)(hNN:X.N.Nodup){elt tg:Expr}{ifs:Uc}{sc:Scope}{itf:Rho->Sto->R Wk}{cf:AZ}{ef:AX}{gf:MV->Rho->Sto->R Rho}(osc:Scope)(N:Th)(T:Th)(idx:Db)
  (hi:LH X W tg iter itf) (hcalm:X.calm=true)
  (hg: ∀C s₂ H1 fp,([]++T++idx.map λi=>(N[i]?).getD Str.empty).Nodup->Lo T.length (zR X sc T idx C s₂ H1 fp) W0 tg gf)
  (hc: ∀C s₂ H1 fp,LI (zR X sc T idx C s₂ H1 fp) W0 ifs cf) (he: ∀C s₂ H1 fp,zT (zR X sc T idx C s₂ H1 fp) W0 elt ef)
  (e1:X.env.scope=osc:=by rfl) (e2:X.N=N:=by rfl) (hB:qY osc N sc idx=true:=by decide+kernel) (hN:([]++T++idx.map λi=>(N[i]?).getD Str.empty).Nodup:=by decide+kernel)
  (hs: ∀y,foldedSetIterable iter X.env y=pure y:=by intro _;rfl)
  (hi2:X.N[i]? =some x:=by rfl) (hx:Loc X.env.scope x:=by first |exact Or.inl rfl|exact Or.inr rfl)
  (hsw:swapsWith (.ListComp elt [⟨tg,iter,ifs,0⟩] sc pos) (some (.Name x pos')) spos.line X.env=pure true:=by with_unfolding_all rfl) (hf:X.fn x=true\/X.env.scope.names.lookup x=some .local:=by first |exact .inl rfl|exact .inr rfl|assumption):
  HC X W (.Assign [.Name x pos'] (.ListComp elt [⟨tg,iter,ifs,0⟩] sc pos) spos) (λρ S=>((itf ρ S).bind λk S1=>if k.ds.length<1000000 then(kI gf cf ef (GA T.length idx ρ) k.gs k.ds S1).bind λout S2=>.ok (.new out) S2 else .no).bind (FZ ρ i)):=by
 obtain⟨t,h,k⟩:=(RO osc N T idx hi (λ_ _ _ _ _ _ _=>hcalm) hg hc he e1 e2 hB hN hs)
 refine⟨_,h.2 i x pos' spos hNN hi2 hx hf hsw,λα ρ S σ H D wd sl q=>k α ρ S σ H _ wd sl (q.expr λu r S1 α1 H1 e x1 w1 d1 q1=>?_)⟩;obtain⟨d',S',α',e1,x',y',w',de⟩:=aB w1 x1 d1;unfold FZ at q1;rw[e1]at q1;exact q1 _ α' H1 x' w' (((sl.ext x1).ex0 y').set de)
end
mutual
def lo(n:Nat):MV->Prop
 |.loc l=>l<n
 |.tup ds=>FT n ds
 |.scr ds=>FT n ds
 |.obj _ _ ds=>FT n ds
 |.clo _ ds=>FT n ds
 |_=>True
def FT(n:Nat):List MV->Prop
 |[]=>True
 |d::ds=>lo n d/\FT n ds
end
def loO(n:Nat):MO->Prop
 |.lst ds=>FT n ds
 |.dic kvs=> ∀p∈kvs,lo n p.1/\lo n p.2
 |.ins _ fs=> ∀p∈fs,lo n p.2
 |.rcd _ fs=> ∀p∈fs,lo n p.2
 |.fdc kvs=> ∀p∈kvs,lo n p.1/\lo n p.2
section
variable{K:Ud}{α t:Tg}{H:Hp}
mutual
theorem Den.back: ∀{d:MV}{v:V},Den K (α++t) H d v->lo α.length d->Den K α H d v
 |.non,_,q,_=>by cases bQ q;exact BN
 |.bl _,_,q,_=>by cases eY q;exact jF _
 |.int _,_,q,_=>by cases yW q;exact yV _
 |.str _,_,q,_=>by cases xU q;exact lL _
 |.typ _,_,q,_=>by cases bS q;exact RK _
 |.obj c ns ds,_,q,h=>by obtain⟨a,C,dx,vs,o,rfl,e,hn,hc,hl,l⟩:=bR q;exact Do e hn hc hl (DenL.back l (by unfold lo at h;exact h))
 |.clo n ds,_,q,h=>by obtain⟨a,vs,rfl,s,l⟩:=gP q;exact RM s (DenL.back l (by unfold lo at h;exact h))
 |.loc l,_,q,h=>by
  obtain⟨a,rfl,e⟩:=jX q;have hl:l<α.length:=by unfold lo at h;exact h
  rw[getElem?_append_left hl]at e;exact BO e
 |.tup ds,_,q,h=>by obtain⟨a,vs,rfl,s,l⟩:=xC q;exact lN s (DenL.back l (by unfold lo at h;exact h))
 |.scr ds,_,q,h=>by obtain⟨a,vs,rfl,s,l⟩:=gQ q;exact RL s (DenL.back l (by unfold lo at h;exact h))
theorem DenL.back: ∀{ds:Ug}{vs:List V},DenL K (α++t) H ds vs->FT α.length ds->DenL K α H ds vs
 |[],_,q,_=>by rw[q.isnil];exact yF
 |d::ds,_,q,h=>by obtain⟨v,r,rfl,a,l⟩:=q.uncons;unfold FT at h;exact yA (Den.back a h.1) (DenL.back l h.2)
end
mutual
theorem Den.lo: ∀{d:MV}{v:V},Den K α H d v->lo α.length d
 |.non,_,q=>by unfold M.lo;trivial
 |.bl _,_,q=>by unfold M.lo;trivial
 |.int _,_,q=>by unfold M.lo;trivial
 |.str _,_,q=>by unfold M.lo;trivial
 |.typ _,_,q=>by unfold M.lo;trivial
 |.obj c ns ds,_,q=>by obtain⟨a,C,dx,vs,o,rfl,e,hn,hc,hl,l⟩:=bR q;unfold M.lo;exact DenL.lo l
 |.clo n ds,_,q=>by obtain⟨a,vs,rfl,s,l⟩:=gP q;unfold M.lo;exact DenL.lo l
 |.loc l,_,q=>by obtain⟨a,rfl,e⟩:=jX q;unfold M.lo;exact(gS0.mp e).1
 |.tup ds,_,q=>by obtain⟨a,vs,rfl,s,l⟩:=xC q;unfold M.lo;exact DenL.lo l
 |.scr ds,_,q=>by obtain⟨a,vs,rfl,s,l⟩:=gQ q;unfold M.lo;exact DenL.lo l
theorem DenL.lo: ∀{ds:Ug}{vs:List V},DenL K α H ds vs->FT α.length ds
 |[],_,q=>by unfold FT;trivial
 |d::ds,_,q=>by obtain⟨v,r,rfl,a,l⟩:=q.uncons;unfold FT;exact⟨Den.lo a,DenL.lo l⟩
end
def DenK.back: ∀{fs gs},DenK K (α++t) H fs gs->(∀p∈fs,M.lo α.length p.1/\M.lo α.length p.2)->DenK K α H fs gs:=λhh=>by
 induction hh with
 |nil=>exact(λ_=>.nil)
 |cons k a l ih=>exact(λh=>.cons k (a.back (h _ mF0).2) (ih λp hp=>h p (mO _ hp)))
def KeyD.lo{n:Nat}{k:MV}{k':Key}(h:KeyD k k'):M.lo n k:=by
 unfold KeyD at h;split at h
 .unfold M.lo;trivial
 .unfold M.lo;trivial
 .exact h.elim
def DenK.lo: ∀{fs gs},DenK K α H fs gs-> ∀p∈fs,M.lo α.length p.1/\M.lo α.length p.2:=λhh=>by
 induction hh with
 |nil=>exact λp h=>by simp at h
 |cons k a l ih=>exact λp h=>(mC.mp h).elim (λe=>by subst e;exact⟨k.lo,a.lo⟩) (ih p)
def DenN.back: ∀{fs xs},DenN K (α++t) H fs xs->(∀p∈fs,M.lo α.length p.1/\M.lo α.length p.2)->DenN K α H fs xs:=λhh=>by
 induction hh with
 |nil=>exact(λ_=>.nil)
 |cons k e a d r l ih=>exact(λh=>.cons k e (a.back (h _ mF0).1) (d.back (h _ mF0).2) r (ih λp hp=>h p (mO _ hp)))
def DenN.lo: ∀{fs xs},DenN K α H fs xs-> ∀p∈fs,M.lo α.length p.1/\M.lo α.length p.2:=λhh=>by
 induction hh with
 |nil=>exact λp h=>by simp at h
 |cons k e a d r l ih=>exact λp h=>(mC.mp h).elim (λz=>by subst z;exact⟨a.lo,d.lo⟩) (ih p)
def DenF.back: ∀{fs gs},DenF K (α++t) H fs gs->(∀p∈fs,M.lo α.length p.2)->DenF K α H fs gs:=λhh=>by
 induction hh with
 |nil=>exact(λ_=>.nil)
 |cons a l ih=>exact(λh=>.cons (a.back (h _ mF0)) (ih λp hp=>h p (mO _ hp)))
def DenF.lo: ∀{fs gs},DenF K α H fs gs-> ∀p∈fs,M.lo α.length p.2:=λhh=>by
 induction hh with
 |nil=>exact λp h=>by simp at h
 |cons a l ih=>exact λp h=>(mC.mp h).elim (λe=>by subst e;exact a.lo) (ih p)
def ObD.back{g:Gm}{a:Addr}{o:MO}(q:ObD g (α++t) H a o)(h:loO α.length o):ObD g α H a o:=by
 cases o with
 |lst ds=>obtain⟨vs,h1,l⟩:=q;exact⟨vs,h1,l.back h⟩
 |dic ds=>
  rcases q with⟨vs,h1,l⟩|⟨vs,h1,l⟩
  .exact .inl ⟨vs,h1,l.back h⟩
  .exact .inr ⟨vs,h1,l.back h⟩
 |ins c fs=>obtain⟨C,gs,m,l,r⟩:=q;exact⟨C,gs,m,l.back h,r⟩
 |rcd c fs=>obtain⟨C,dx,gs,m,h1,l⟩:=q;exact⟨C,dx,gs,m,h1,l.back h⟩
 |fdc kvs=>obtain⟨oe,xs,h1,l⟩:=q;exact⟨oe,xs,h1,l.back h⟩
def ObD.lo{g:Gm}{a:Addr}{o:MO}(q:ObD g α H a o):loO α.length o:=by
 cases o with
 |lst ds=>obtain⟨vs,h1,l⟩:=q;exact l.lo
 |dic ds=>
  rcases q with⟨vs,h1,l⟩|⟨vs,h1,l⟩
  .exact l.lo
  .exact l.lo
 |ins c fs=>obtain⟨C,gs,m,l,r⟩:=q;exact l.lo
 |rcd c fs=>obtain⟨C,dx,gs,m,h1,l⟩:=q;exact l.lo
 |fdc kvs=>obtain⟨oe,xs,h1,l⟩:=q;exact l.lo
end
def RP(S S2:Sto):Prop:=S.length<=S2.length/\ ∀l,l<S.length->S2[l]? =S[l]? \/ ∃o,S2[l]? =some o/\loO S.length o
open Classical in
def aL(S:Sto)(r:Er)(S2:Sto):R Er:=
 if RP S S2 then match r with
  |.val (.loc l)=>if l<S.length then .ok r (S2.take S.length)else match S2[l]? with
   |some (.lst ds)=>if FT S.length ds then .ok (.new ds) (S2.take S.length)else .ok r S2
   |_=>.ok r S2
  |.val d=>if lo S.length d then .ok r (S2.take S.length)else .ok r S2
  |.new ds=>if FT S.length ds then .ok r (S2.take S.length)else .ok r S2
 else .ok r S2
theorem Dz{g:Gm}{α α1 α2 α3:Tg}{H H1 H3:Hp}{S1 S3:Sto}{r:Er}{v:V}(x1:Ext α H α1 H1)(w1:Wd g α1 S1 H1)(h12: ∃t,α2=α1++t)(x2:Ext α H α2 H1)(x3:Ext α2 H1 α3 H3)(w3:Wd g α3 S3 H3)(d:DenE g.K H1 α3 H3 r v):
  ∃r' S' α',aL S1 r S3=.ok r' S'/\Ext α H α' H3/\Wd g α' S' H3/\DenE g.K H α' H3 r' v:=by
 have x23:=x2.trans x3;have dfull:=d.back λb h=>x1.free h;unfold aL;by_cases hc:RP S1 S3
 .rw[iP hc];obtain⟨t,ht⟩: ∃t,α3=α1++t:=by obtain⟨t,e⟩:=h12;obtain⟨u,e'⟩:=x3.pre;exact⟨_,by rw[e',e,aA]⟩
  have hn:=w1.len;have xc:Ext α H α1 H3:=⟨⟨x1.pre,x23.tup,x23.frz⟩,x1.new,x23.keep,x23.has⟩
  have wc:Wd g α1 (S3.take S1.length) H3:=by
   refine⟨by rw[lT,hn,Nat.min_eq_left hc.1],w1.nd,λl a o h1 h2=>?_⟩;have hl:l<S1.length:=by rw[<-hn];exact(gS0.mp h1).1
   rw[getElem?_take_of_lt hl]at h2;have q:=w3.obj l a o (by rw[ht,getElem?_append_left (by rw[hn];exact hl)];exact h1) h2;rw[ht]at q;refine q.back ?_;rcases hc.2 l hl with e|⟨o',e,lo'⟩
   .rw[e]at h2;exact(w1.obj l a o h1 h2).lo
   .rw[h2]at e;cases e;rw[hn];exact lo'
  have dlo: ∀d,lo S1.length d->Den g.K α3 H3 d v->DenE g.K H α1 H3 _ v:=λd hd q=>.val ((ht▸q:Den g.K _ H3 d v).back (by rw[hn];exact hd))
  cases r with
  |new ds=>
   dsimp only;split
   .rename_i hl;obtain⟨⟨b,vs,rfl,h1,h2,h3⟩,h4⟩:=dfull;exact⟨_,_,α1,rfl,xc,wc,⟨b,vs,rfl,h1,λz=>h2 (by rw[ht];exact mem_append_left _ z),(ht▸h3:DenL g.K _ H3 ds vs).back (by rw[hn];exact hl)⟩,h4⟩
   .exact⟨_,_,α3,rfl,x23,w3,dfull⟩
  |val mv=>
   have dd:Den g.K α3 H3 mv v:=dfull.1
   cases mv with
   |loc l=>
    dsimp only;split
    .rename_i hl;exact⟨_,_,α1,rfl,xc,wc,dlo _ (by unfold lo;exact hl) dd⟩
    .rename_i hl;obtain⟨a,rfl,ha⟩:=jX dd;split
     .rename_i ds hS;split
      .rename_i hlo;obtain⟨vs,h1,h2⟩:=w3.obj l a _ ha hS
       have hna:a∉α1:=λz=>by
        obtain⟨m,hm⟩:=getElem?_of_mem z;have hml:=(gS0.mp hm).1;have hm':α3[m]? =some a:=by rw[ht,getElem?_append_left hml];exact hm
        obtain⟨u1,e1⟩:=gS0.mp hm';obtain⟨u2,e2⟩:=gS0.mp ha;have:=(getElem_inj w3.nd).mp (e1.trans e2.symm)
        lia
       refine⟨_,_,α1,rfl,xc,wc,⟨a,vs,rfl,h1,hna,(ht▸h2:DenL g.K _ H3 ds vs).back (by rw[hn];exact hlo)⟩,λb e=>?_⟩;cases e;rcases x23.new a (mem_of_getElem? ha)with z|z
       .obtain⟨u,eu⟩:=x1.pre;exact absurd (by rw[eu];exact mem_append_left _ z) hna
       .exact z
      .exact⟨_,_,α3,rfl,x23,w3,dfull⟩
     .exact⟨_,_,α3,rfl,x23,w3,dfull⟩
   |non=>dsimp only;split;(· rename_i hl;exact⟨_,_,α1,rfl,xc,wc,dlo _ hl dd⟩);(· exact⟨_,_,α3,rfl,x23,w3,dfull⟩)
   |bl b=>dsimp only;split;(· rename_i hl;exact⟨_,_,α1,rfl,xc,wc,dlo _ hl dd⟩);(· exact⟨_,_,α3,rfl,x23,w3,dfull⟩)
   |int b=>dsimp only;split;(· rename_i hl;exact⟨_,_,α1,rfl,xc,wc,dlo _ hl dd⟩);(· exact⟨_,_,α3,rfl,x23,w3,dfull⟩)
   |str b=>dsimp only;split;(· rename_i hl;exact⟨_,_,α1,rfl,xc,wc,dlo _ hl dd⟩);(· exact⟨_,_,α3,rfl,x23,w3,dfull⟩)
   |typ b=>dsimp only;split;(· rename_i hl;exact⟨_,_,α1,rfl,xc,wc,dlo _ hl dd⟩);(· exact⟨_,_,α3,rfl,x23,w3,dfull⟩)
   |obj b b' b''=>dsimp only;split;(· rename_i hl;exact⟨_,_,α1,rfl,xc,wc,dlo _ hl dd⟩);(· exact⟨_,_,α3,rfl,x23,w3,dfull⟩)
   |clo b b'=>dsimp only;split;(· rename_i hl;exact⟨_,_,α1,rfl,xc,wc,dlo _ hl dd⟩);(· exact⟨_,_,α3,rfl,x23,w3,dfull⟩)
   |tup b=>dsimp only;split;(· rename_i hl;exact⟨_,_,α1,rfl,xc,wc,dlo _ hl dd⟩);(· exact⟨_,_,α3,rfl,x23,w3,dfull⟩)
   |scr b=>dsimp only;split;(· rename_i hl;exact⟨_,_,α1,rfl,xc,wc,dlo _ hl dd⟩);(· exact⟨_,_,α3,rfl,x23,w3,dfull⟩)
 .rw[iN hc];exact⟨_,_,α3,rfl,x23,w3,dfull⟩
def LK(g:Gm)(n:Nat)(F:List MV->Sto->R Er):Sp:=λvs H Q _=> ∃α S ds,Wd g α S H/\DenL g.K α H ds vs/\ds.length=n/\Post g W0 α H (F ds S) Q
def zQ(n:Nat)(F:List MV->Sto->R Er)(rs:List Er)(S:Sto):R Er:=if rs.length=n then(noX (F (zU rs S).1 (zU rs S).2)).bind λr S2=>aL S r S2 else .no
section
variable{X:Cx}{W:XW}{e:Expr}{es:Uc}{af:Rho->Sto->R (List Er)}{pos:Pos}
def HE{n:Nat}{F:List MV->Sto->R Er}{rs:List Er}{vs:List V}{α α1:Tg}{H H1:Hp}{S1:Sto}{Q:VK}(x1:Ext α H α1 H1)(w1:Wd X.g α1 S1 H1)(d1:ArgsE X.K H α1 H1 rs vs)(q:Post X.g W α H (zQ n F rs S1) Q):
  LK X.g n F vs H1 Q E0:=by
 unfold zQ at q;split at q
 .rename_i hl;obtain⟨α2,x2,y2,w2,l2⟩:=oZ w1 x1 d1;refine⟨α2,_,_,w2,l2,by rw[vL];exact hl,?_⟩
  cases z:F (zU rs S1).1 (zU rs S1).2 with
  |ok r S3=>
   rw[z]at q;intro v α3 H3 x3 w3 d3;obtain⟨r',S',α',e',x',w',d'⟩:=Dz x1 w1 y2.pre x2 x3 w3 d3;have q:Post X.g W α H (aL S1 r S3) Q:=q;rw[e']at q;exact q v α' H3 x' w' d'
  |exc c fs S3=>rw[z]at q;exact q.elim
  |no=>rw[z]at q;exact q.elim
 .exact q.elim
def Ea{k n:Nat}{fa:Addr}{fd:FuncData}{ps:Th}{F:List MV->Sto->R Er}{x:Str}{p:Pos}(G:FnOk X.prog X.w X.K X.mg X.base vE k fa fd ps (LK X.g n F))(hr:Room k X.A)(hg:Gl X x)(hm:X.mg x=some (.ref fa))
  (hk:PySem.W.keepIn X.K (.ref fa)=true) (hb:Binds X.K fd ps []) (ha:GY X W (e::es) af) (hdb:(x==("__debug__":Str))=false:=by decide)
  (he:starEach (e::es) X.env=(false,eval e X.env)::starEach es X.env:=by rfl) (hpl:(backTo pos (starEach es X.env)).any (·.1)=false:=by rfl):
  zT X W (.Call (.Name x p) (e::es) [] pos) (λρ S=>(af ρ S).bind λrs S1=>zQ n F rs S1):=by
 obtain⟨t,ha,kk⟩:=ha;refine⟨_,Cr G hr hg hm hk hb .nil Qi ha hdb he hpl,λα ρ S σ H Q wd sl q=>kk α ρ S σ H _ wd sl (q.bind λvs rs S1 α1 H1 e1 x1 w1 d1 q1=>?_)⟩;rw[aN];exact HE x1 w1 d1 q1
end
def zM(N:Th)(ds:Ug):Rho:=ds.map some++List.replicate (N.length - ds.length) none
def zX:R Fl->R Er
 |.ok (.next _) S=>.ok (.val .non) S
 |.ok (.ret r) S=>.ok r S
 |.exc c fs S=>.exc c fs S
 |_=>.no
def AI{K:Ud}{α:Tg}{N:Th}{H:Hp}{ds:Ug}{vs:List V}(l:DenL K α H ds vs):Slots K α H (zM N ds) (start N vs):=by
 have hlen:=l.length;refine⟨?_,λi d e=>?_⟩
 .unfold start zM;rw[lA,lA,lM,lM,List.length_replicate,List.length_replicate,hlen]
 .unfold zM at e;by_cases hi:i<ds.length
  .rw[getElem?_append_left (by simpa using hi),getElem?_map]at e
   cases z:ds[i]? with
   |none=>rw[z]at e;cases e
   |some d'=>
    rw[z]at e;obtain⟨v,h1,h2⟩:=l.at z;have e':=Option.some.inj (Option.some.inj e);subst e';refine⟨v,?_,h2⟩;unfold start;rw[getElem?_append_left (by rw[lM,hlen];exact hi),getElem?_map,h1];rfl
  .rw[getElem?_append_right (by simpa using hi),getElem?_replicate]at e;split at e<;>cases e
section
variable{P:Program}{w:World}{K:Ud}{mg:Ti}{base:Heap}
def Lp{x qual:Str}{st:Stmt}{f:Addr}{fd:FuncData}{N ps:Th}{k:Nat}(Fb:AY)(F:Fun K x qual st f fd)(Sc:FnScope N ps (zE st))
  (hbody: ∀(cdv:Value)(A:Around)(outer:List Env)(s:Shared)(H:Hp)(E:XK),Room k (A.deeper (envOfC qual (zE st) s.heap.objs.size f cdv))->
   rX (IE vE P w K mg base N qual (zE st) f cdv A outer s H E).nox W0 (xQ st) Fb):
  FnOk P w K mg base vE (k+1) f fd ps (LK ⟨K,mg,P,w⟩ ps.length λds S=>zX (Fb (zM N ds) S)):=by
 refine F.ok Sc (λvs H Q E h=>?_) (λcdv A outer s H vs Q E hr h=>?_)
 .obtain⟨α,S,ds,_,l,hl,_⟩:=h;rw[l.length,hl]
 .obtain⟨α,S,ds,wd,l,hl,q⟩:=h;obtain⟨t,ht,kk⟩:=hbody cdv A outer s H E hr;refine⟨t,ht,kk α _ S _ H _ wd (AI l) ?_⟩;dsimp only at q
  cases z:Fb _ S with
  |ok fl S'=>
   rw[z]at q
   cases fl with
   |next ρ=>exact λσ α' H' x' w' s'=>q .non α' H' x' w' (DenE.val BN)
   |ret r=>exact λv α' H' x' w' d'=>q v α' H' x' w' d'
   |brk ρ=>exact q.elim
   |cont ρ=>exact q.elim
  |exc c fs S'=>rw[z]at q;exact λα' H' x' w'=>q α' H' x' w'
  |no=>rw[z]at q;exact q
end
inductive Vw where
 |fl (v:V)|tp (ds:Ug)|ls (ds:Ug)
def jI(S:Sto):Er->Option (List MV)
 |.new ds=>some ds
 |.val (.scr ds)=>some ds
 |.val (.loc l)=>match S[l]? with
  |some (.lst ds)=>some ds
  |_=>none
 |_=>none
def KL(S:Sto):Er->Option Vw
 |.val .non=>some (.fl .non)
 |.val (.bl b)=>some (.fl (.bl b))
 |.val (.int i)=>some (.fl (.int i))
 |.val (.str x)=>some (.fl (.str (bN x)))
 |.val (.tup ds)=>some (.tp ds)
 |.val (.typ _)=>none
 |.val (.obj _ _ _)=>none
 |r=>(jI S r).map .ls
def vO(e:MV->MV->Option Bool):List MV->List MV->Option (List Bool)
 |d::ds,f::fs=>(e d f).bind λk=>(vO e ds fs).map (k::·)
 |_,_=>some []
def Lq(e:MV->MV->Option Bool):Vw->Vw->Option Bool
 |.fl x,.fl y=>some (Da x y)
 |.tp ds,.tp es=>(vO e ds es).map λbs=>bs.all id&&ds.length==es.length
 |.ls ds,.ls es=>if ds.length=es.length then(vO e ds es).map λbs=>bs.all id else some false
 |_,_=>some false
theorem PJ(e:MV->MV->Option Bool)(ds es:Ug):Lq e (.tp ds) (.tp es)=(vO e ds es).map λbs=>bs.all id&&ds.length==es.length:=rfl
theorem PK(e:MV->MV->Option Bool)(ds es:Ug):Lq e (.ls ds) (.ls es)=if ds.length=es.length then(vO e ds es).map λbs=>bs.all id else some false:=rfl
def eqv(S:Sto):Nat->MV->MV->Option Bool
 |0,_,_=>none
 |n+1,a,b=>(KL S (.val a)).bind λx=>(KL S (.val b)).bind λy=>Lq (eqv S n) x y
def DL(S:Sto)(n:Nat)(a b:Er):Option Bool:=(KL S a).bind λx=>(KL S b).bind λy=>Lq (eqv S n) x y
section
variable{X:Cx}{α:Tg}{S:Sto}{H:Hp}
def dS{K:Ud}{g:Gm}(hK:g.K=K)(wd:Wd g α S H){r:Er}{ds:Ug}{x:V}(e:jI S r=some ds)(d:DenX K α H r x): ∃a vs,x=.ref a/\SqL K H a vs/\DenL K α H ds vs:=by
 subst hK;unfold jI at e;split at e
 .cases e;obtain⟨b,vs,rfl,h,_,l⟩:=d;exact⟨b,vs,rfl,.of h,l⟩
 .cases e;obtain⟨a,vs,rfl,s,l⟩:=IT d;exact⟨a,vs,rfl,s.l,l⟩
 .rename_i n;obtain⟨a,rfl,h⟩:=rU d;split at e
  .rename_i es hS;cases e;obtain⟨vs,h1,l⟩:=wd.obj n a _ h hS;exact⟨a,vs,rfl,.of h1,l⟩
  .cases e
 .cases e
def oQ{r:Er}{x y:V}(e:KL S r=some (.fl y))(d:DenX X.K α H r x):x=y/\iK y=true:=by
 unfold KL at e;split at e
 .cases e;exact⟨OZ d,rfl⟩
 .cases e;exact⟨tF d,rfl⟩
 .cases e;exact⟨yX d,rfl⟩
 .cases e;exact⟨kH d,rfl⟩
 .cases e
 .cases e
 .cases e
 .cases z:jI S r<;>rw[z]at e<;>cases e
def oR{r:Er}{x:V}{ds:Ug}(e:KL S r=some (.tp ds))(d:DenX X.K α H r x): ∃a vs,x=.ref a/\SqT X.K H a vs/\DenL X.K α H ds vs:=by
 unfold KL at e;split at e
 .cases e
 .cases e
 .cases e
 .cases e
 .cases e;exact aI d
 .cases e
 .cases e
 .cases z:jI S r<;>rw[z]at e<;>cases e
def oS(wd:Wd X.g α S H){r:Er}{x:V}{ds:Ug}(e:KL S r=some (.ls ds))(d:DenX X.K α H r x): ∃a vs,x=.ref a/\SqL X.K H a vs/\DenL X.K α H ds vs:=by
 unfold KL at e;split at e
 .cases e
 .cases e
 .cases e
 .cases e
 .cases e
 .cases e
 .cases e
 .cases z:jI S r with
  |none=>rw[z]at e;cases e
  |some es=>rw[z]at e;cases e;exact dS rfl wd z d
theorem qD{e:MV->MV->Option Bool}: ∀{ds es:Ug}{bs:Ua},vO e ds es=some bs->bs.length=min ds.length es.length
 |[],_,_,h=>by simp[vO]at h;subst h;simp
 |_::_,[],_,h=>by simp[vO]at h;subst h;simp
 |d::ds,f::fs,bs,h=>by
  unfold vO at h
  cases z:e d f with
  |none=>rw[z]at h;cases h
  |some k=>
   rw[z]at h
   cases z2:vO e ds fs with
   |none=>simp[z2]at h
   |some cs=>
    simp[z2]at h;subst h;simp[qD z2]
theorem IZ{e:MV->MV->Option Bool}: ∀{ds es:Ug}{bs:Ua}{j:Nat}{d f:MV},vO e ds es=some bs->ds[j]? =some d->es[j]? =some f->e d f=some (bs.getD j true)
 |[],_,_,_,_,_,h,h1,_=>by simp at h1
 |_::_,[],_,_,_,_,h,_,h2=>by simp at h2
 |d::ds,f::fs,bs,j,d',f',h,h1,h2=>by
  unfold vO at h
  cases z:e d f with
  |none=>rw[z]at h;cases h
  |some k=>
   rw[z]at h
   cases z2:vO e ds fs with
   |none=>simp[z2]at h
   |some cs=>
    simp[z2]at h;subst h
    cases j with
    |zero=>simp at h1 h2;subst h1 h2;simpa using z
    |succ j=>simpa using IZ z2 (by simpa using h1) (by simpa using h2)
def range_all{bs:Ua}{n:Nat}(h:bs.length=n):(List.range n).all (λj=>bs.getD j true)=bs.all id:=by
 subst h;rw[Bool.eq_iff_iff,List.all_eq_true,List.all_eq_true];constructor
 .intro h x hx;obtain⟨i,hi,rfl⟩:=List.getElem_of_mem hx;have:=h i (mem_range.mpr hi);simpa [getD_eq_getElem?_getD,hi]using this
 .intro h i hi;have hi':=mem_range.mp hi;have:=h bs[i] (getElem_mem hi');simpa [getD_eq_getElem?_getD,hi']using this
variable{pins:Tk}{σ:St}{s:Shared}
def tM(I:Inv X pins σ H s){a:Addr}{xs ys:List V}(h:SqL X.K H a xs)(h':SqT X.K H a ys):False:=by obtain⟨_,_,pl,_⟩:=I.list h;obtain⟨_,_,pt,_⟩:=I.tuple h';obtain⟨o,n,e,c,_,_⟩:=pl;obtain⟨o',e',c',_⟩:=pt;rw[e]at e';cases e';rw[c]at c';exact absurd c' (by simp)
theorem YG(I:Inv X pins σ H s)(wd:Wd X.g α S H){e:MV->MV->Option Bool}(he: ∀d f v k,Den X.K α H d v->Den X.K α H f v->e d f=some k->k=true){a b:Er}{x:V}{p q:Vw}{k:Bool}
  (ha:KL S a=some p) (hb:KL S b=some q) (da:DenX X.K α H a x) (db:DenX X.K α H b x) (h:Lq e p q=some k):k=true:=by
 have hp: ∀{ds es:Ug}{vs:List V}{bs:Ua},DenL X.K α H ds vs->DenL X.K α H es vs->vO e ds es=some bs->bs.all id=true:=by
  intro ds es vs bs l1 l2 z;rw[List.all_eq_true];intro k hk;obtain⟨i,hi,rfl⟩:=List.getElem_of_mem hk;have hl:=qD z;have h1:i<ds.length:=by lia
  have h2:i<es.length:=by lia
  obtain⟨v,g1,g2⟩:=l1.at (gE h1);obtain⟨v',g3,g4⟩:=l2.at (gE h2);rw[g1]at g3;cases g3;have:=he _ _ _ _ g2 g4 (IZ z (gE h1) (gE h2));simpa [getD_eq_getElem?_getD,hi]using this
 cases p with
 |fl y=>
  obtain⟨rfl,f1⟩:=oQ ha da
  cases q with
  |fl z=>obtain⟨rfl,f2⟩:=oQ hb db;cases h;exact XY f1
  |tp ds=>obtain⟨a,vs,rfl,_⟩:=oR hb db;exact absurd f1 xF0
  |ls ds=>obtain⟨a,vs,rfl,_⟩:=oS wd hb db;exact absurd f1 xF0
 |tp ds=>
  obtain⟨a1,vs,rfl,s1,l1⟩:=oR ha da
  cases q with
  |fl z=>obtain⟨rfl,f2⟩:=oQ hb db;exact absurd f2 xF0
  |tp es=>
   obtain⟨a2,us,e2,s2,l2⟩:=oR hb db;cases e2;cases I.tuple_inj s1 s2;rw[PJ]at h
   cases z:vO e ds es with
   |none=>rw[z]at h;cases h
   |some bs=>
    rw[z]at h;cases h;show(bs.all id&&ds.length==es.length)=true;rw[hp l1 l2 z, <-l1.length, <-l2.length];simp
  |ls es=>obtain⟨a2,us,e2,s2,l2⟩:=oS wd hb db;cases e2;exact(tM I s2 s1).elim
 |ls ds=>
  obtain⟨a1,vs,rfl,s1,l1⟩:=oS wd ha da
  cases q with
  |fl z=>obtain⟨rfl,f2⟩:=oQ hb db;exact absurd f2 xF0
  |tp es=>obtain⟨a2,us,e2,s2,l2⟩:=oR hb db;cases e2;exact(tM I s1 s2).elim
  |ls es=>
   obtain⟨a2,us,e2,s2,l2⟩:=oS wd hb db;cases e2;cases I.list_inj s1 s2;rw[PK]at h;rw[iP (by rw[<-l1.length, <-l2.length])]at h
   cases z:vO e ds es with
   |none=>rw[z]at h;cases h
   |some bs=>rw[z]at h;cases h;exact hp l1 l2 z
theorem DM(I:Inv X pins σ H s)(wd:Wd X.g α S H): ∀(n:Nat)(d f:MV)(v:V)(k:Bool),Den X.K α H d v->Den X.K α H f v->eqv S n d f=some k->k=true
 |0,_,_,_,_,_,_,h=>by cases h
 |n+1,d,f,v,k,h1,h2,h=>by
  unfold eqv at h
  cases za:KL S _ with
  |none=>rw[za]at h;cases h
  |some p=>
   cases zb:KL S _ with
   |none=>rw[za,zb]at h;cases h
   |some q=>
    rw[za,zb]at h;exact YG I wd (DM I wd n) za zb h1 h2 h
def tN{e:MV->MV->Option Bool}{A:Around}(he: ∀d f x y u v k,Den X.K α H d x->Den X.K α H f y->RelV x u->RelV y v->e d f=some k->SeqAt.EqAt A s u v k)
  {ds es:Ug} {vs us:List V} {its its2:Td} {bs:Ua} (l1:DenL X.K α H ds vs) (l2:DenL X.K α H es us) (r1:Vals vs its) (r2:Vals us its2) (z:vO e ds es=some bs):
  ∀j (h1:j<its.toArray.size) (h2:j<its2.toArray.size),SeqAt.EqAt A s its.toArray[j] its2.toArray[j] (bs.getD j true):=by
 intro j h1 h2;have g1:j<vs.length:=by rw[r1.length];simpa using h1
 have g2:j<us.length:=by rw[r2.length];simpa using h2
 obtain⟨d,d1,d2⟩:=l1.get (gE g1);obtain⟨f,f1,f2⟩:=l2.get (gE g2);obtain⟨u,u1,u2⟩:=r1.get (gE g1);obtain⟨v,v1,v2⟩:=r2.get (gE g2);have e1:its.toArray[j]=u:=by have:its[j]? =some (its[j]'(by simpa using h1)):=gE _;rw[u1]at this;simpa using(Option.some.inj this).symm
 have e2:its2.toArray[j]=v:=by have:its2[j]? =some (its2[j]'(by simpa using h2)):=gE _;rw[v1]at this;simpa using(Option.some.inj this).symm
 rw[e1,e2];exact he d f _ _ u v _ d2 f2 u2 v2 (IZ z d1 f1)
theorem DO(I:Inv X pins σ H s)(wd:Wd X.g α S H): ∀(n:Nat)(A:Around)(d f:MV)(x y:V)(u v:Value)(k:Bool),A.units+n<cLine->Den X.K α H d x->Den X.K α H f y->RelV x u->RelV y v->eqv S n d f=some k->SeqAt.EqAt A s u v k
 |0,_,_,_,_,_,_,_,_,_,_,_,_,_,h=>by cases h
 |n+1,A,d,f,x,y,u,v,k,hu,h1,h2,rx,ry,h=>by
  have hu0:A.units<cLine:=by lia
  have hsame:=h;unfold eqv at h
  cases za:KL S _ with
  |none=>rw[za]at h;cases h
  |some p=>
   cases zb:KL S _ with
   |none=>rw[za,zb]at h;cases h
   |some q=>
    rw[za,zb]at h;have h:Lq _ p q=some k:=h;have he:=λd f x y u v k a b c d' e=>DO I wd n A.in1 d f x y u v k (by lia) a b c d' e
    cases p with
    |fl x'=>
     obtain⟨rfl,fx⟩:=oQ za h1
     cases q with
     |fl y'=>obtain⟨rfl,fy⟩:=oQ zb h2;cases h;exact Ku rx ry fx fy
     |tp es=>
      obtain⟨b,us,rfl,s2,l2⟩:=oR zb h2;cases ry;cases h;obtain⟨its,_,pt,_⟩:=I.tuple s2;exact(AD rx fx pt hu0).2.1
     |ls es=>
      obtain⟨b,us,rfl,s2,l2⟩:=oS wd zb h2;cases ry;cases h;obtain⟨its,_,pl,_⟩:=I.list s2;exact(GW rx fx pl.isList hu0).2.1
    |tp ds=>
     obtain⟨a,vs,rfl,s1,l1⟩:=oR za h1;cases rx;obtain⟨its,r1,pt,_⟩:=I.tuple s1
     cases q with
     |fl y'=>obtain⟨rfl,fy⟩:=oQ zb h2;cases h;exact(AD ry fy pt hu0).1
     |tp es=>
      obtain⟨b,us,rfl,s2,l2⟩:=oR zb h2;cases ry;by_cases hab:a=b
      .subst hab;rw[DM I wd _ d f _ k h1 h2 hsame];exact SeqAt.EqAt.same _
      .obtain⟨its2,r2,pt2,_⟩:=I.tuple s2;rw[PJ]at h
       cases z:vO _ ds es with
       |none=>rw[z]at h;cases h
       |some bs=>
        rw[z]at h;cases h;have:=SeqAt.RcAt.tuples pt pt2 hu0 (tN he l1 l2 r1 r2 z);have hl:=qD z;rw[range_all (by rw[hl];simp[<-r1.length, <-r2.length,l1.length,l2.length])]at this;have e3:(its.toArray.size==its2.toArray.size)=(ds.length==es.length):=by simp[<-r1.length, <-r2.length,l1.length,l2.length]
        rw[e3]at this;exact SeqAt.EqAt.of_refs hab this
     |ls es=>
      obtain⟨b,us,rfl,s2,l2⟩:=oS wd zb h2;cases ry;cases h;obtain⟨its2,_,pl,_⟩:=I.list s2;exact SeqAt.EqAt.tuple_list pt pl.isList hu0
    |ls ds=>
     obtain⟨a,vs,rfl,s1,l1⟩:=oS wd za h1;cases rx;obtain⟨its,r1,pl,_⟩:=I.list s1
     cases q with
     |fl y'=>obtain⟨rfl,fy⟩:=oQ zb h2;cases h;exact(GW ry fy pl.isList hu0).1
     |tp es=>
      obtain⟨b,us,rfl,s2,l2⟩:=oR zb h2;cases ry;cases h;obtain⟨its2,_,pt,_⟩:=I.tuple s2;exact SeqAt.EqAt.list_tuple pl.isList pt hu0
     |ls es=>
      obtain⟨b,us,rfl,s2,l2⟩:=oS wd zb h2;cases ry;by_cases hab:a=b
      .subst hab;rw[DM I wd _ d f _ k h1 h2 hsame];exact SeqAt.EqAt.same _
      .obtain⟨its2,r2,pl2,_⟩:=I.list s2;rw[PK]at h;by_cases hl:ds.length=es.length
       .rw[iP hl]at h
        cases z:vO _ ds es with
        |none=>rw[z]at h;cases h
        |some bs=>
         rw[z]at h;cases h;have:=SeqAt.RcAt.lists pl.isList pl2.isList (by simp[<-r1.length, <-r2.length,l1.length,l2.length,hl]) hu0 (tN he l1 l2 r1 r2 z);rw[range_all (by rw[(qD z)];simp[<-r1.length,l1.length,hl])]at this;exact SeqAt.EqAt.of_refs hab this
       .rw[iN hl]at h;cases h;exact SeqAt.EqAt.of_refs hab (SeqAt.RcAt.lists_lengths pl.isList pl2.isList (by simpa [<-r1.length, <-r2.length,l1.length,l2.length]using hl) hu0)
theorem Ia{RC:Around->Shared->Value->Value->Bool->Prop}{tr:Bool->Bool}{A:Around}
  (hff: ∀x y u v,RelV x u->RelV y v->iK x=true->iK y=true->RC A s u v (tr (Da x y)))
  (hfl: ∀x v l items,RelV x v->iK x=true->s.heap.IsList l items->A.units<cLine->RC A s v (.ref l) (tr false)/\RC A s (.ref l) v (tr false))
  (hft: ∀x v l items,RelV x v->iK x=true->s.heap.IsTuple l items->A.units<cLine->RC A s v (.ref l) (tr false)/\RC A s (.ref l) v (tr false))
  (hlt: ∀l b items items2,s.heap.IsList l items->s.heap.IsTuple b items2->A.units<cLine->RC A s (.ref l) (.ref b) (tr false)/\RC A s (.ref b) (.ref l) (tr false))
  (htt: ∀(l b:Addr)(items items2:Te)(e:Nat->Bool),s.heap.IsTuple l items->s.heap.IsTuple b items2->A.units<cLine->(∀j (h1:j<items.size) (h2:j<items2.size),SeqAt.EqAt A.in1 s items[j] items2[j] (e j))->RC A s (.ref l) (.ref b) (tr ((List.range (min items.size items2.size)).all e&&items.size==items2.size)))
  (hll: ∀(l b:Addr)(items items2:Te)(e:Nat->Bool),s.heap.IsList l items->s.heap.IsList b items2->items.size=items2.size->A.units<cLine->(∀j (h1:j<items.size) (h2:j<items2.size),SeqAt.EqAt A.in1 s items[j] items2[j] (e j))->RC A s (.ref l) (.ref b) (tr ((List.range items.size).all e)))
  (hln: ∀(l b:Addr)(items items2:Te),s.heap.IsList l items->s.heap.IsList b items2->(items.size !=items2.size)=true->A.units<cLine->RC A s (.ref l) (.ref b) (tr false))
  (I:Inv X pins σ H s) (wd:Wd X.g α S H) (n:Nat) {a b:Er} {x y:V} {u v:Value} {k:Bool} (hu:A.units+(n+1)<cLine) (h1:DenX X.K α H a x) (h2:DenX X.K α H b y) (rx:RelV x u) (ry:RelV y v) (h:DL S n a b=some k):RC A s u v (tr k):=by
 have hu0:A.units<cLine:=by lia
 unfold DL at h
 cases za:KL S a with
 |none=>rw[za]at h;cases h
 |some p=>
  cases zb:KL S b with
  |none=>rw[za,zb]at h;cases h
  |some q=>
   rw[za,zb]at h;have h:Lq _ p q=some k:=h;have he:=λd f x y u v k a b c d' e=>DO I wd n A.in1 d f x y u v k (by lia) a b c d' e
   cases p with
   |fl x'=>
    obtain⟨rfl,fx⟩:=oQ za h1
    cases q with
    |fl y'=>obtain⟨rfl,fy⟩:=oQ zb h2;cases h;exact hff _ _ _ _ rx ry fx fy
    |tp es=>
     obtain⟨b,us,rfl,s2,l2⟩:=oR zb h2;cases ry;cases h;obtain⟨its,_,pt,_⟩:=I.tuple s2;exact(hft _ _ _ _ rx fx pt hu0).1
    |ls es=>
     obtain⟨b,us,rfl,s2,l2⟩:=oS wd zb h2;cases ry;cases h;obtain⟨its,_,pl,_⟩:=I.list s2;exact(hfl _ _ _ _ rx fx pl.isList hu0).1
   |tp ds=>
    obtain⟨a,vs,rfl,s1,l1⟩:=oR za h1;cases rx;obtain⟨its,r1,pt,_⟩:=I.tuple s1
    cases q with
    |fl y'=>obtain⟨rfl,fy⟩:=oQ zb h2;cases h;exact(hft _ _ _ _ ry fy pt hu0).2
    |tp es=>
     obtain⟨b,us,rfl,s2,l2⟩:=oR zb h2;cases ry;obtain⟨its2,r2,pt2,_⟩:=I.tuple s2;rw[PJ]at h
     cases z:vO _ ds es with
     |none=>rw[z]at h;cases h
     |some bs=>
      rw[z]at h;cases h;have:=htt _ _ _ _ _ pt pt2 hu0 (tN he l1 l2 r1 r2 z);have hl:=qD z;rw[range_all (by rw[hl];simp[<-r1.length, <-r2.length,l1.length,l2.length])]at this;have e3:(its.toArray.size==its2.toArray.size)=(ds.length==es.length):=by simp[<-r1.length, <-r2.length,l1.length,l2.length]
      rw[e3]at this;exact this
    |ls es=>
     obtain⟨b,us,rfl,s2,l2⟩:=oS wd zb h2;cases ry;cases h;obtain⟨its2,_,pl,_⟩:=I.list s2;exact(hlt _ _ _ _ pl.isList pt hu0).2
   |ls ds=>
    obtain⟨a,vs,rfl,s1,l1⟩:=oS wd za h1;cases rx;obtain⟨its,r1,pl,_⟩:=I.list s1
    cases q with
    |fl y'=>obtain⟨rfl,fy⟩:=oQ zb h2;cases h;exact(hfl _ _ _ _ ry fy pl.isList hu0).2
    |tp es=>
     obtain⟨b,us,rfl,s2,l2⟩:=oR zb h2;cases ry;cases h;obtain⟨its2,_,pt,_⟩:=I.tuple s2;exact(hlt _ _ _ _ pl.isList pt hu0).1
    |ls es=>
     obtain⟨b,us,rfl,s2,l2⟩:=oS wd zb h2;cases ry;obtain⟨its2,r2,pl2,_⟩:=I.list s2;rw[PK]at h;by_cases hl:ds.length=es.length
     .rw[iP hl]at h
      cases z:vO _ ds es with
      |none=>rw[z]at h;cases h
      |some bs=>
       rw[z]at h;cases h;have:=hll _ _ _ _ _ pl.isList pl2.isList (by simp[<-r1.length, <-r2.length,l1.length,l2.length,hl]) hu0 (tN he l1 l2 r1 r2 z);rw[range_all (by rw[(qD z)];simp[<-r1.length,l1.length,hl])]at this;exact this
     .rw[iN hl]at h;cases h;exact hln _ _ _ _ pl.isList pl2.isList (by simpa [<-r1.length, <-r2.length,l1.length,l2.length]using hl) hu0
def Lr(I:Inv X pins σ H s)(wd:Wd X.g α S H)(n:Nat){A:Around}{a b:Er}{x y:V}{u v:Value}{k:Bool}(hu:A.units+(n+1)<cLine)(h1:DenX X.K α H a x)(h2:DenX X.K α H b y)(rx:RelV x u)(ry:RelV y v)(h:DL S n a b=some k):SeqAt.RcAt A s u v k:=
 Ia (tr:=id) (λ_ _ _ _ a b c d=>(XX a b c d).1) (λ_ _ _ _ a b c d=>⟨(GW a b c d).2.2.2.1,(GW a b c d).2.2.1⟩) (λ_ _ _ _ a b c d=>⟨(AD a b c d).2.2.2.1,(AD a b c d).2.2.1⟩)
  (λ_ _ _ _ a b c=>⟨SeqAt.RcAt.list_tuple a b c,SeqAt.RcAt.tuple_list b a c⟩) (λ_ _ _ _ _ a b c d=>SeqAt.RcAt.tuples a b c d) (λ_ _ _ _ _ a b c d e=>SeqAt.RcAt.lists a b c d e) (λ_ _ _ _ a b c d=>SeqAt.RcAt.lists_lengths a b c d)
  I wd n hu h1 h2 rx ry h
def Ls(I:Inv X pins σ H s)(wd:Wd X.g α S H)(n:Nat){A:Around}{a b:Er}{x y:V}{u v:Value}{k:Bool}(hu:A.units+(n+1)<cLine)(h1:DenX X.K α H a x)(h2:DenX X.K α H b y)(rx:RelV x u)(ry:RelV y v)(h:DL S n a b=some k):SeqAt.RcNeAt A s u v (!k):=
 Ia (λ_ _ _ _ a b c d=>(XX a b c d).2) (λ_ _ _ _ a b c d=>⟨(GW a b c d).2.2.2.2.2,(GW a b c d).2.2.2.2.1⟩) (λ_ _ _ _ a b c d=>⟨(AD a b c d).2.2.2.2.2,(AD a b c d).2.2.2.2.1⟩)
  (λ_ _ _ _ a b c=>⟨SeqAt.RcNeAt.list_tuple a b c,SeqAt.RcNeAt.tuple_list b a c⟩) (λ_ _ _ _ _ a b c d=>SeqAt.RcNeAt.tuples a b c d) (λ_ _ _ _ _ a b c d e=>SeqAt.RcNeAt.lists a b c d e) (λ_ _ _ _ a b c d=>SeqAt.RcNeAt.lists_lengths a b c d)
  I wd n hu h1 h2 rx ry h
theorem RQ{α β:Type}: ∀{a c:List α}{b d:List β},a.length=b.length->c.length=d.length->a.zip b=c.zip d->a=c/\b=d
 |[],[],[],[],_,_,_=>⟨rfl,rfl⟩
 |[],_::_,[],_::_,_,_,e=>by simp at e
 |_::_,[],_::_,[],_,_,e=>by simp at e
 |x::a,y::c,z::b,w::d,h1,h2,e=>by simp only[zip_cons_cons,List.cons.injEq,Prod.mk.injEq]at e;obtain⟨rfl,rfl⟩:=RQ (by simpa using h1) (by simpa using h2) e.2;exact⟨by rw[e.1.1],by rw[e.1.2]⟩
mutual
theorem Den.inj(I:Inv X pins σ H s)(wd:Wd X.g α S H): ∀{d f:MV}{v:V},Den X.K α H d v->Den X.K α H f v->d=f
 |.non,f,v,h,h'=>by cases bQ h;cases f<;>first |rfl|(have:=eY h';cases this;done)|(have:=yW h';cases this;done)|(have:=xU h';cases this;done)|(have:=bS h';cases this;done)|(obtain⟨_,_,e,_⟩:=xC h';cases e;done)|(obtain⟨_,_,e,_⟩:=gQ h';cases e;done)|(obtain⟨_,e,_⟩:=jX h';cases e;done)|(obtain⟨_,_,_,_,_,e,_⟩:=bR h';cases e;done)|(obtain⟨_,_,e,_⟩:=gP h';cases e;done)
 |.bl b,f,v,h,h'=>by cases eY h;cases f<;>first |(have:=eY h';cases this;rfl;done)|(have:=bQ h';cases this;done)|(have:=yW h';cases this;done)|(have:=xU h';cases this;done)|(have:=bS h';cases this;done)|(obtain⟨_,_,e,_⟩:=xC h';cases e;done)|(obtain⟨_,_,e,_⟩:=gQ h';cases e;done)|(obtain⟨_,e,_⟩:=jX h';cases e;done)|(obtain⟨_,_,_,_,_,e,_⟩:=bR h';cases e;done)|(obtain⟨_,_,e,_⟩:=gP h';cases e;done)
 |.int b,f,v,h,h'=>by cases yW h;cases f<;>first |(have:=yW h';cases this;rfl;done)|(have:=bQ h';cases this;done)|(have:=eY h';cases this;done)|(have:=xU h';cases this;done)|(have:=bS h';cases this;done)|(obtain⟨_,_,e,_⟩:=xC h';cases e;done)|(obtain⟨_,_,e,_⟩:=gQ h';cases e;done)|(obtain⟨_,e,_⟩:=jX h';cases e;done)|(obtain⟨_,_,_,_,_,e,_⟩:=bR h';cases e;done)|(obtain⟨_,_,e,_⟩:=gP h';cases e;done)
 |.str b,f,v,h,h'=>by cases xU h;cases f<;>first |(have:=xU h';rw[BM (V.str.inj this)];done)|(have:=bQ h';cases this;done)|(have:=eY h';cases this;done)|(have:=yW h';cases this;done)|(have:=bS h';cases this;done)|(obtain⟨_,_,e,_⟩:=xC h';cases e;done)|(obtain⟨_,_,e,_⟩:=gQ h';cases e;done)|(obtain⟨_,e,_⟩:=jX h';cases e;done)|(obtain⟨_,_,_,_,_,e,_⟩:=bR h';cases e;done)|(obtain⟨_,_,e,_⟩:=gP h';cases e;done)
 |.typ b,f,v,h,h'=>by cases bS h;cases f<;>first |(have:=bS h';cases this;rfl;done)|(have:=bQ h';cases this;done)|(have:=eY h';cases this;done)|(have:=yW h';cases this;done)|(have:=xU h';cases this;done)|(obtain⟨_,_,e,_⟩:=xC h';cases e;done)|(obtain⟨_,_,e,_⟩:=gQ h';cases e;done)|(obtain⟨_,e,_⟩:=jX h';cases e;done)|(obtain⟨_,_,_,_,_,e,_⟩:=bR h';cases e;done)|(obtain⟨_,_,e,_⟩:=gP h';cases e;done)
 |.tup ds,f,v,h,h'=>by
  obtain⟨a,vs,rfl,s1,l1⟩:=xC h
  cases f with
  |tup es=>
   obtain⟨a2,us,e2,s2,l2⟩:=xC h';cases e2;cases I.tuple_inj s1 s2;rw[DenL.inj I wd l1 l2]
  |scr es=>obtain⟨a2,us,e2,s2,l2⟩:=gQ h';cases e2;exact(tM I s2.l s1).elim
  |loc l=>
   obtain⟨a2,e2,h2⟩:=jX h';cases e2;obtain⟨ho,k1,k2,k3⟩:=wd.mem (mem_of_getElem? h2);rcases s1 with(s1|⟨o,s1⟩)|⟨o,its,n,s1,_⟩
   .rw[k1]at s1;exact absurd (Option.some.inj s1) (k2 _)
   .rw[k1]at s1;exact(let ⟨_,z⟩:=k3 _ _ (Option.some.inj s1);by cases z)
   .have:=(I.bs a o (I.mod.kin a o s1)).2;rw[k1]at this;cases this
  |non=>cases bQ h'
  |bl b=>cases eY h'
  |int b=>cases yW h'
  |str b=>cases xU h'
  |typ b=>cases bS h'
  |obj c ns es=>
   obtain⟨a2,C,dx,us,o2,e2,h2,_⟩:=bR h';cases e2;rcases s1 with(s1|⟨o,s1⟩)|⟨o,its,n,s1,_⟩
   .rw[h2]at s1;cases s1
   .rw[h2]at s1;cases s1
   .have:=(I.bs a o (I.mod.kin a o s1)).2;rw[h2]at this;cases this
  |clo n es=>
   obtain⟨a2,us,e2,⟨_,_,_,_,_,_,h2,_⟩,_⟩:=gP h';cases e2;rcases s1 with(s1|⟨o,s1⟩)|⟨o,its,n,s1,_⟩
   .rw[h2]at s1;cases s1
   .rw[h2]at s1;cases s1
   .have:=(I.bs a o (I.mod.kin a o s1)).2;rw[h2]at this;cases this
 |.scr ds,f,v,h,h'=>by
  obtain⟨a,vs,rfl,s1,l1⟩:=gQ h
  cases f with
  |scr es=>
   obtain⟨a2,us,e2,s2,l2⟩:=gQ h';cases e2;cases I.list_inj s1.l s2.l;rw[DenL.inj I wd l1 l2]
  |tup es=>obtain⟨a2,us,e2,s2,l2⟩:=xC h';cases e2;exact(tM I s1.l s2).elim
  |loc l=>
   obtain⟨a2,e2,h2⟩:=jX h';cases e2;obtain⟨ho,k1,k2,k3⟩:=wd.mem (mem_of_getElem? h2);rcases s1 with⟨o,s1⟩|⟨o,its,n,s1,_⟩
   .rw[k1]at s1;exact(let ⟨_,z⟩:=k3 _ _ (Option.some.inj s1);by cases z)
   .have:=(I.bs a o (I.mod.kin a o s1)).2;rw[k1]at this;cases this
  |non=>cases bQ h'
  |bl b=>cases eY h'
  |int b=>cases yW h'
  |str b=>cases xU h'
  |typ b=>cases bS h'
  |obj c ns es=>
   obtain⟨a2,C,dx,us,o2,e2,h2,_⟩:=bR h';cases e2;rcases s1 with⟨o,s1⟩|⟨o,its,n,s1,_⟩
   .rw[h2]at s1;cases s1
   .have:=(I.bs a o (I.mod.kin a o s1)).2;rw[h2]at this;cases this
  |clo n es=>
   obtain⟨a2,us,e2,⟨_,_,_,_,_,_,h2,_⟩,_⟩:=gP h';cases e2;rcases s1 with⟨o,s1⟩|⟨o,its,n,s1,_⟩
   .rw[h2]at s1;cases s1
   .have:=(I.bs a o (I.mod.kin a o s1)).2;rw[h2]at this;cases this
 |.loc l,f,v,h,h'=>by
  obtain⟨a,rfl,h1⟩:=jX h;obtain⟨ho,k1,k2,k3⟩:=wd.mem (mem_of_getElem? h1)
  cases f with
  |loc m=>
   obtain⟨a2,e2,h2⟩:=jX h';cases e2;by_cases hlm:l=m
   .rw[hlm]
   .exact absurd rfl (wd.ne h1 h2 hlm)
  |tup es=>
   obtain⟨a2,us,e2,s1,l2⟩:=xC h';cases e2;rcases s1 with(s1|⟨o,s1⟩)|⟨o,its,n,s1,_⟩
   .rw[k1]at s1;exact absurd (Option.some.inj s1) (k2 _)
   .rw[k1]at s1;exact(let ⟨_,z⟩:=k3 _ _ (Option.some.inj s1);by cases z)
   .have:=(I.bs a o (I.mod.kin a o s1)).2;rw[k1]at this;cases this
  |scr es=>
   obtain⟨a2,us,e2,s1,l2⟩:=gQ h';cases e2;rcases s1 with⟨o,s1⟩|⟨o,its,n,s1,_⟩
   .rw[k1]at s1;exact(let ⟨_,z⟩:=k3 _ _ (Option.some.inj s1);by cases z)
   .have:=(I.bs a o (I.mod.kin a o s1)).2;rw[k1]at this;cases this
  |non=>cases bQ h'
  |bl b=>cases eY h'
  |int b=>cases yW h'
  |str b=>cases xU h'
  |typ b=>cases bS h'
  |obj c ns es=>
   obtain⟨a2,C,dx,us,o2,e2,h2,_⟩:=bR h';cases e2;rw[k1]at h2;exact(let ⟨_,z⟩:=k3 _ _ (Option.some.inj h2);by cases z)
  |clo n es=>
   obtain⟨a2,us,e2,⟨_,_,_,_,_,_,h2,_⟩,_⟩:=gP h';cases e2;rw[k1]at h2;exact(let ⟨_,z⟩:=k3 _ _ (Option.some.inj h2);by cases z)
 |.clo n ds,f,v,h,h'=>by
  obtain⟨a,us,rfl,⟨o1,cl,_,_,_,_,h2,hd,_,_,_,hl,hv⟩,l1⟩:=gP h
  cases f with
  |clo n' es=>
   obtain⟨a2,us2,e2,⟨o2,cl2,_,_,_,_,h3,hd2,_,_,_,hl2,hv2⟩,l2⟩:=gP h';cases e2;rw[h2]at h3;injection h3 with h3
   injection h3 with h3
   subst h3;rw[hd]at hd2
   obtain⟨en,rfl⟩:n=n'/\cl=cl2:=by
    cases n;cases n';injection hd2 with hd2
    injection hd2 with e1 e2 e3 e4 e5 _ e6
    injection e4 with e4
    dsimp only at *;subst e1 e2 e3 e4 e5 e6;exact⟨rfl,rfl⟩
   subst en
   have:us=us2:=ext_getElem? λi=>by
    cases z1:us[i]? with
    |none=>rw[List.getElem?_eq_none_iff]at z1;rw[List.getElem?_eq_none_iff.mpr (by omega)]
    |some v=>
     have hi:=(gS0.mp z1).1;have z2:us2[i]? =some (us2[i]'(by omega)):=gE _;have z3:n.fr[i]? =some (n.fr[i]'(by omega)):=gE _;obtain⟨c1,u1,a1,⟨b1,b2,b3⟩,r1⟩:=hv i _ _ z3 z1;obtain⟨c2,u2,a2,⟨d1,d2,d3⟩,r2⟩:=hv2 i _ _ z3 z2;rw[a1]at a2;cases a2;rw[b2]at d2;cases d2;rw[b3]at d3;cases d3;rw[z2,r1.inj r2]
   rw[DenL.inj I wd l1 (this▸l2)]
  |tup es=>
   obtain⟨a2,us,e2,s1,l2⟩:=xC h';cases e2;rcases s1 with(s1|⟨o,s1⟩)|⟨o,its,n,s1,_⟩
   .rw[h2]at s1;cases s1
   .rw[h2]at s1;cases s1
   .have:=(I.bs a o (I.mod.kin a o s1)).2;rw[h2]at this;cases this
  |scr es=>
   obtain⟨a2,us,e2,s1,l2⟩:=gQ h';cases e2;rcases s1 with⟨o,s1⟩|⟨o,its,n,s1,_⟩
   .rw[h2]at s1;cases s1
   .have:=(I.bs a o (I.mod.kin a o s1)).2;rw[h2]at this;cases this
  |loc l=>
   obtain⟨a2,e2,h1⟩:=jX h';cases e2;obtain⟨ho,k1,k2,k3⟩:=wd.mem (mem_of_getElem? h1);rw[k1]at h2;exact(let ⟨_,z⟩:=k3 _ _ (Option.some.inj h2);by cases z)
  |obj c ns es=>obtain⟨a2,C,dx,us,o2,e2,h3,_⟩:=bR h';cases e2;rw[h2]at h3;cases h3
  |non=>cases bQ h'
  |bl b=>cases eY h'
  |int b=>cases yW h'
  |str b=>cases xU h'
  |typ b=>cases bS h'
 |.obj c ns ds,f,v,h,h'=>by
  obtain⟨a,C,dx,us,o2,rfl,h2,hn,hc,hl,l1⟩:=bR h
  cases f with
  |obj c' ns' es=>
   obtain⟨a2,C2,dx2,us2,o3,e2,h3,hn2,hc2,hl2,l2⟩:=bR h';cases e2;rw[h2]at h3;injection h3 with h3
   injection h3 with _ h3
   injection h3 with e1 e2 e3
   subst e1;rw[hc]at hc2;cases hc2;obtain⟨rfl,rfl⟩:=RQ hl hl2 e3;rw[DenL.inj I wd l1 l2]
  |tup es=>
   obtain⟨a2,us,e2,s1,l2⟩:=xC h';cases e2;rcases s1 with(s1|⟨o,s1⟩)|⟨o,its,n,s1,_⟩
   .rw[h2]at s1;cases s1
   .rw[h2]at s1;cases s1
   .have:=(I.bs a o (I.mod.kin a o s1)).2;rw[h2]at this;cases this
  |scr es=>
   obtain⟨a2,us,e2,s1,l2⟩:=gQ h';cases e2;rcases s1 with⟨o,s1⟩|⟨o,its,n,s1,_⟩
   .rw[h2]at s1;cases s1
   .have:=(I.bs a o (I.mod.kin a o s1)).2;rw[h2]at this;cases this
  |loc l=>
   obtain⟨a2,e2,h1⟩:=jX h';cases e2;obtain⟨ho,k1,k2,k3⟩:=wd.mem (mem_of_getElem? h1);rw[k1]at h2;exact(let ⟨_,z⟩:=k3 _ _ (Option.some.inj h2);by cases z)
  |clo n es=>obtain⟨a2,us,e2,⟨_,_,_,_,_,_,h3,_⟩,_⟩:=gP h';cases e2;rw[h2]at h3;cases h3
  |non=>cases bQ h'
  |bl b=>cases eY h'
  |int b=>cases yW h'
  |str b=>cases xU h'
  |typ b=>cases bS h'
theorem DenL.inj(I:Inv X pins σ H s)(wd:Wd X.g α S H): ∀{ds fs:Ug}{vs:List V},DenL X.K α H ds vs->DenL X.K α H fs vs->ds=fs
 |[],fs,vs,h,h'=>by
  cases h.isnil
  cases fs with
  |nil=>rfl
  |cons f fs=>obtain⟨_,_,e,_⟩:=h'.uncons;cases e
 |d::ds,fs,vs,h,h'=>by
  obtain⟨v,r,rfl,a,l⟩:=h.uncons
  cases fs with
  |nil=>cases h'.isnil
  |cons f fs=>
   obtain⟨v',r',e,a',l'⟩:=h'.uncons;cases e;rw[Den.inj I wd a a',DenL.inj I wd l l']
end
end
inductive LexR(A:Around)(s:Shared):List Value->List Value->Bool->Prop
 |nn:LexR A s [] [] false
 |nc (x xs):LexR A s [] (x::xs) true
 |cn (y ys):LexR A s (y::ys) [] false
 |eq {y x ys xs k}:SeqAt.EqAt A s y x true->LexR A s ys xs k->LexR A s (y::ys) (x::xs) k
 |ne {y x ys xs k}:SeqAt.EqAt A s y x false->(∀(prog:Program)(w:World)(E Q:VP),Q (.bool k) s->wpAny (model prog w) A (richCompare .Lt y x) Q E s)->LexR A s (y::ys) (x::xs) k
section
open PySem.SeqAt
open PySem.AutoSeq1 (wpAny_loadPart')
open PySem.MeetsSeq PySem.MeetsSeq2 PySem.MeetsSeq3
theorem PL(l b:Addr)(its its2:Te)(n n2:Nat)(dd dd2:Option Addr)(sl sl2:Array (Option Value))(k:Bool):
  Meets (Builtin.«tuple.__lt__» ⟨[.ref l,.ref b],[]⟩)
   (λA R s=>s.heap.get? l=some {cls:=.type "tuple",dict:=dd,data:=.seq its n,slots:=sl}/\s.heap.get? b=some {cls:=.type "tuple",dict:=dd2,data:=.seq its2 n2,slots:=sl2}/\
    LexR A.in1 s its.toList its2.toList k/\R (.ok (.ret (.bool k))) s):=
 .of_wp λprog w A R s h=>by
  obtain⟨hp,g,d,tk,os⟩:=s;obtain⟨hl,hb,hx,h⟩:=h;have f2:=AutoSeq1.sub_tuple_tuple
  wp_walk using wpAny_loadPart' hl,wpAny_loadPart' hb,wpAny_forIn_list _ (λrest b s'=>b.1=none/\s'=⟨hp,g,d,tk,os⟩/\ ∃(vs ws:Td),rest=vs.zip ws/\
   LexR A.in1 ⟨hp,g,d,tk,os⟩ vs ws k/\vs.length+its2.size=ws.length+its.size) _
  case turn=>
   rintro⟨y,x⟩ rest b s' ⟨hb',rfl,vs,ws,hz,hlx,hlen⟩
   cases hlx with
   |nn=>rw[List.zip_nil_left]at hz;cases hz
   |nc x xs=>rw[List.zip_nil_left]at hz;cases hz
   |cn y ys=>rw[List.zip_nil_right]at hz;cases hz
   |@eq y' x' ys xs k' he hr=>
    rw[zip_cons_cons]at hz;injection hz with hyx hrest
    injection hyx with hy hx
    subst hy hx;simp only[lC]at hlen;refine wB (he prog w _ _ ?_)
    wp_walk
    exact⟨rfl,rfl,_,_,hrest,hr,by lia⟩
   |@ne y' x' ys xs k' he hr=>
    rw[zip_cons_cons]at hz;injection hz with hyx hrest
    injection hyx with hy hx
    subst hy hx;refine wB (he prog w _ _ ?_)
    wp_walk using(hr prog w)
    exact⟨_,rfl,by simpa using h⟩
  case fin=>
   rintro⟨b1,b2⟩ s' ⟨hb',rfl,vs,ws,hz,hlx,hlen⟩;simp only at hb';subst hb'
   have hv:k=decide (its.size<its2.size):=by
    cases hlx with
    |nn=>simp only[List.length_nil]at hlen;exact(dF0 (by lia)).symm
    |nc x xs=>simp only[List.length_nil,lC]at hlen;exact(dT0 (by lia)).symm
    |cn y ys=>simp only[List.length_nil,lC]at hlen;exact(dF0 (by lia)).symm
    |eq he hr=>rw[zip_cons_cons]at hz;cases hz
    |ne he hr=>rw[zip_cons_cons]at hz;cases hz
   rw[hv]at h
   wp_walk
   exact⟨_,rfl,by simpa [Builtin.Tuple.tupleCompareSizes]using h⟩
  case h=>
   exact⟨rfl,rfl,_,_,rfl,hx,by simp;lia⟩
end
def YH{A:Around}{s:Shared}{l b:Addr}{its its2:Te}{k:Bool}(hl:IsTup s.heap l its)(hb:IsTup s.heap b its2)(hx:LexR A.in1 s its.toList its2.toList k)(hu:A.units<cLine)(prog:Program)(w:World)(E Q:VP)(h:Q (.bool k) s):
  wpAny (model prog w) A (richCompare .Lt (.ref l) (.ref b)) Q E s:=by
 obtain⟨⟨cls,dd,data,sl⟩,ho,hc,n,hd⟩:=id hl;obtain⟨⟨cls2,dd2,_,sl2⟩,ho2,hc2,n2,hd2⟩:=id hb;subst hc hd hc2 hd2
 exact richCompare_meets_room ⟨_,ho,rfl⟩ ⟨_,ho2,rfl⟩ PySem.F.slot_tuple_lt PySem.F.entry_tuple_lt (PySem.F.args_tuple_lt_2 _ _) (PL l b its its2 n n2 dd dd2 sl sl2 k)
  ⟨ho,ho2,hx,show Value.bool k≠Value.notImplemented/\Q _ s from⟨(λx=>nomatch x),h⟩⟩ hu
def Eb(e l:MV->MV->Option Bool):List MV->List MV->Option Bool
 |[],[]=>some false
 |[],_::_=>some true
 |_::_,[]=>some false
 |d::ds,f::fs=>(e d f).bind λk=>if k=true then Eb e l ds fs else l d f
def WU(S:Sto):Nat->MV->MV->Option Bool
 |0,_,_=>none
 |n+1,.int i,.int j=>some (decide (i<j))
 |n+1,.str x,.str y=>some (decide (x<y))
 |n+1,.tup ds,.tup es=>Eb (eqv S n) (WU S n) ds es
 |_,_,_=>none
section
variable{X:Cx}{α:Tg}{S:Sto}{H:Hp}{pins:Tk}{σ:St}{s:Shared}
theorem Ib{A:Around}{e l:MV->MV->Option Bool}(he: ∀d f x y u v k,Den X.K α H d x->Den X.K α H f y->RelV x u->RelV y v->e d f=some k->SeqAt.EqAt A s u v k)
  (hl: ∀d f x y u v k,Den X.K α H d x->Den X.K α H f y->RelV x u->RelV y v->l d f=some k-> ∀(prog:Program)(w:World)(E Q:VP),Q (.bool k) s->wpAny (model prog w) A (richCompare .Lt u v) Q E s):
  ∀{ds fs:Ug}{vs us:List V}{its its2:Td}{k:Bool},DenL X.K α H ds vs->DenL X.K α H fs us->Vals vs its->Vals us its2->Eb e l ds fs=some k->LexR A s its its2 k
 |[],[],_,_,_,_,k,l1,l2,r1,r2,h=>by cases l1.isnil;cases l2.isnil;cases r1;cases r2;cases h;exact .nn
 |[],f::fs,_,_,_,_,k,l1,l2,r1,r2,h=>by
  cases l1.isnil;obtain⟨v,r,rfl,a,l⟩:=l2.uncons;cases r1
  cases r2 with
  |cons a b=>cases h;exact .nc _ _
 |d::ds,[],_,_,_,_,k,l1,l2,r1,r2,h=>by
  cases l2.isnil;obtain⟨v,r,rfl,a,l⟩:=l1.uncons;cases r2
  cases r1 with
  |cons a b=>cases h;exact .cn _ _
 |d::ds,f::fs,_,_,_,_,k,l1,l2,r1,r2,h=>by
  obtain⟨v,r,rfl,a,l1'⟩:=l1.uncons;obtain⟨v2,r3,rfl,a2,l2'⟩:=l2.uncons
  cases r1 with
  |cons b1 c1=>
   cases r2 with
   |cons b2 c2=>
    unfold Eb at h
    cases z:e d f with
    |none=>rw[z]at h;cases h
    |some kk=>
     rw[z]at h;have h:_=some k:=h
     cases kk with
     |true=>
      exact .eq (he d f _ _ _ _ _ a a2 b1 b2 z) (Ib he hl l1' l2' c1 c2 h)
     |false=>
      exact .ne (he d f _ _ _ _ _ a a2 b1 b2 z) (hl d f _ _ _ _ _ a a2 b1 b2 h)
theorem YI(I:Inv X pins σ H s)(wd:Wd X.g α S H): ∀(n:Nat)(A:Around)(d f:MV)(x y:V)(u v:Value)(k:Bool),A.units+n<cLine->Den X.K α H d x->Den X.K α H f y->RelV x u->RelV y v->WU S n d f=some k->
  ∀(prog:Program)(w:World)(E Q:VP),Q (.bool k) s->wpAny (model prog w) A (richCompare .Lt u v) Q E s
 |0,_,_,_,_,_,_,_,_,_,_,_,_,_,h=>by cases h
 |n+1,A,d,f,x,y,u,v,k,hu,h1,h2,rx,ry,h=>by
  intro prog w E Q hq;unfold WU at h;split at h
  .cases h
  .cases h;cases yW h1;cases yW h2;obtain⟨t,rfl⟩:=rx;obtain⟨t',rfl⟩:=ry;exact(PyProof.Rows.lt_int hq:wpAny _ A _ Q E s)
  .cases h;cases xU h1;cases xU h2;obtain⟨t,rfl⟩:=rx;obtain⟨t',rfl⟩:=ry;refine(PySem.P.lt_str ?_:wpAny _ A _ Q E s);exact hq
  .rename_i n' ds es hn;obtain⟨a,vs,rfl,s1,l1⟩:=xC h1;obtain⟨b,us,rfl,s2,l2⟩:=xC h2;cases rx;cases ry;obtain⟨its,r1,pt,_⟩:=I.tuple s1;obtain⟨its2,r2,pt2,_⟩:=I.tuple s2;cases hn;refine YH pt pt2 ?_ (by lia) prog w E Q hq
   exact Ib (λd f x y u v k a b c d' e=>DO I wd n A.in1 d f x y u v k (show A.units+1+n<cLine by lia) a b c d' e)
    (λd f x y u v k a b c d' e=>YI I wd n A.in1 d f x y u v k (show A.units+1+n<cLine by lia) a b c d' e) l1 l2 r1 r2 h
  .cases h
end
section
variable{X:Cx}{W:XW}{a b c e:Expr}{es:Uc}{f g h:AX}{pos:Pos}
def YJ(C:Int->Int->Prop)[∀i j,Decidable (C i j)](g:Int->Int->Int):Er->Er->Sto->R Er
 |.val (.int i),.val (.int j),S=>if C i j then .ok (.val (.int (g i j))) S else .no
 |_,_,_=>.no
def Sv(g:Int->Int->Bool):Er->Er->Sto->R Er
 |.val (.int i),.val (.int j),S=>.ok (.val (.bl (g i j))) S
 |_,_,_=>.no
def PM{C C':Int->Int->Prop}[∀i j,Decidable (C i j)]{g:Int->Int->Int}(h: ∀i j,C i j->C' i j):HA X W (rI C' λi j=>.int (g i j)) (YJ C g):=by
 intro p q x y α S H Q wd dp dq post;unfold YJ at post;split at post
 .split at post
  .rename_i hc;exact⟨_,_,yX dp,yX dq,h _ _ hc,Post.val post wd (yV _)⟩
  .exact post.elim
 .exact post.elim
def Ec{g:Int->Int->Int}:HA X W (Co λi j=>.int (g i j)) (YJ (λ_ _=>True) g):=by
 intro p q x y α S H Q wd dp dq post;unfold YJ at post;split at post
 .rw[iP trivial]at post;exact⟨_,_,yX dp,yX dq,Post.val post wd (yV _)⟩
 .exact post.elim
def Lu{g:Int->Int->Bool}:HA X W (Co λi j=>.bl (g i j)) (Sv g):=by
 intro p q x y α S H Q wd dp dq post;unfold Sv at post;split at post
 .exact⟨_,_,yX dp,yX dq,Post.val post wd (jF _)⟩
 .exact post.elim
abbrev VA:=YJ (λ_ _=>True) λi j=>i - j
def JA(ha:zT X W a f)(hb:zT X W b g):zT X W (.BinOp a .Sub b pos) (λρ S=>(f ρ S).bind λp S1=>(g ρ S1).bind λq S2=>VA p q S2):=HB Kl Ec ha hb
def VB(_ j:Int):Prop:=0<j/\j.natAbs.log2<9000
instance(i j:Int):Decidable (VB i j):=inferInstanceAs (Decidable (_/\_))
abbrev iS:=YJ VB λi j=>i / j
theorem YK:OpR X (binaryOp .FloorDiv) (rI VB λi j=>.int (i / j)):=Sq λi j _ _ _ _ _ hc q=>by refine floordiv_int (by have:=hc.1;lia) ?_ (.inl (PyProof.noPylong_of_log2 hc.2));rw[(Int.fdiv_eq_ediv_of_nonneg i (Int.le_of_lt hc.1))];exact q
def rY(ha:zT X W a f)(hb:zT X W b g):zT X W (.BinOp a .FloorDiv b pos) (λρ S=>(f ρ S).bind λp S1=>(g ρ S1).bind λq S2=>iS p q S2):=HB YK (PM λi j h=>h) ha hb
abbrev bT:=YJ (λ_ j=>0<j) λi j=>i % j
def aM(ha:zT X W a f)(hb:zT X W b g):zT X W (.BinOp a .Mod b pos) (λρ S=>(f ρ S).bind λp S1=>(g ρ S1).bind λq S2=>bT p q S2):=HB Km (PM λi j h=>h) ha hb
def VC(i j:Int):Prop:=0<=j/\(Builtin.Int.intBits i:Int) * j<=2 ^ 27
instance(i j:Int):Decidable (VC i j):=inferInstanceAs (Decidable (_/\_))
abbrev rZ:=YJ VC λi j=>i ^ j.toNat
def Ed:OpR X (binaryOp .Pow) (rI VC λi j=>.int (i ^ j.toNat)):=Sq λ_ _ _ _ _ _ _ hc q=>pow_int hc.1 hc.2 q
def vP(ha:zT X W a f)(hb:zT X W b g):zT X W (.BinOp a .Pow b pos) (λρ S=>(f ρ S).bind λp S1=>(g ρ S1).bind λq S2=>rZ p q S2):=HB Ed (PM λi j h=>h) ha hb
def shlC(i j:Int):Prop:=0<=j/\j<=1000000/\i.natAbs<2 ^ 64
instance(i j:Int):Decidable (shlC i j):=inferInstanceAs (Decidable (_/\_/\_))
def Qp(S:Sto):Er->Option (List MV)
 |.new ds=>some ds
 |.val (.loc l)=>match S[l]? with
  |some (.lst ds)=>some ds
  |_=>none
 |_=>none
def PN{α:Tg}{S:Sto}{H:Hp}(wd:Wd X.g α S H){r:Er}{ds:Ug}{x:V}(e:Qp S r=some ds)(d:DenX X.K α H r x): ∃a vs,x=.ref a/\H a=some (.lst vs)/\DenL X.K α H ds vs:=by
 unfold Qp at e;split at e
 .cases e;obtain⟨b,vs,rfl,h,_,l⟩:=d;exact⟨b,vs,rfl,h,l⟩
 .rename_i n;obtain⟨a,rfl,h⟩:=rU d;split at e
  .rename_i es hS;cases e;obtain⟨vs,h1,l⟩:=wd.obj n a _ h hS;exact⟨a,vs,rfl,h1,l⟩
  .cases e
 .cases e
def Ic(p q:Er)(S:Sto):R Er:=match Qp S p,Qp S q with
 |some x,some y=>if x.length+y.length<=sizeLine then .ok (.new (x++y)) S else .no
 |_,_=>.no
def dE:Er->Er->Sto->R Er
 |.val (.int i),.val (.int j),S=>.ok (.val (.int (i+j))) S
 |.val (.str x),.val (.str y),S=>if x.length+y.length<=sizeLine then .ok (.val (.str (x++y))) S else .no
 |.val (.tup x),.val (.tup y),S=>if x.length+y.length<=sizeLine then .ok (.val (.tup (x++y))) S else .no
 |p,q,S=>Ic p q S
def YL:OpR X (binaryOp .Add) (λx y H Q=> ∃a b ys,x=.ref a/\y=.ref b/\SqT X.K H a []/\SqT X.K H b ys/\Q (.ref b) H):=by
 intro pins s σ H x y v u Q I rx ry h;obtain⟨a,b,ys,rfl,rfl,ha,hb,q⟩:=h;cases rx;cases ry;obtain⟨its,r1,p1,_⟩:=I.tuple ha;obtain⟨its2,r2,p2,_⟩:=I.tuple hb;have e0:=r1.nil_iff.mpr rfl;subst e0;obtain⟨⟨cls,dd,data,sl⟩,ho,hc,n,hd⟩:=id p1;obtain⟨⟨cls2,dd2,_,sl2⟩,ho2,hc2,n2,hd2⟩:=id p2;subst hc hd hc2 hd2
 exact concat_meets ⟨_,ho,rfl⟩ ⟨_,ho2,rfl⟩ noFill_tuple_add seq_tuple_add PySem.F.slot_tuple_add PySem.F.entry_tuple_add (PySem.F.args_tuple_add_2 _ _)
  (tuple_addW0 a b _ _ n n2 dd dd2 sl sl2 rfl) ⟨ho,ho2,⟨.ref b,H,I,rfl,q⟩⟩
def bU(ha:zT X W a f)(hb:zT X W b g):zT X W (.BinOp a .Add b pos) (λρ S=>(f ρ S).bind λp S1=>(g ρ S1).bind λq S2=>dE p q S2):=by
 refine HB (Kk.or (OQ.or (Kw.or (Cv.or YL)))) ?_ ha hb;intro p q x y α S H Q wd dp dq post;unfold dE at post;split at post
 .exact .inl ⟨_,_,yX dp,yX dq,Post.val post wd (yV _)⟩
 .split at post
  .rename_i hz;refine .inr (.inl ⟨_,_,kH dp,kH dq,by rw[cQ];exact hz,?_⟩);rw[Dj];exact Post.val post wd (lL _)
  .exact post.elim
 .split at post
  .rename_i xx yy hz;obtain⟨a1,vs,rfl,s1,l1⟩:=aI dp;obtain⟨a2,us,rfl,s2,l2⟩:=aI dq;by_cases h0:vs=[]
   .subst h0;have e0:=l1.length;refine .inr (.inr (.inr (.inr ⟨a1,a2,us,rfl,rfl,s1,s2,?_⟩)));have:xx=[]:=by cases xx with |nil=>rfl|cons _ _=>simp at e0
    subst this;exact Post.val post wd (lN s2 l2)
   .refine .inr (.inr (.inr (.inl ⟨a1,a2,vs,us,rfl,rfl,s1,s2,h0,by rw[l1.length,l2.length];exact hz,λh1=>?_,λh1 p hp=>Post.newt post wd hp (l1.append l2)⟩)));subst h1;have e0:=l2.length;have:yy=[]:=by cases yy with |nil=>rfl|cons _ _=>simp at e0
    subst this;rw[aN]at post;exact Post.val post wd (lN s1 l1)
  .exact post.elim
 .unfold Ic at post;split at post
  .rename_i ds1 ds2 e1 e2;split at post
   .rename_i hz;obtain⟨a1,vs,rfl,h1,l1⟩:=PN wd e1 dp;obtain⟨a2,us,rfl,h2,l2⟩:=PN wd e2 dq;exact .inr (.inr (.inl ⟨a1,a2,vs,us,rfl,rfl,h1,h2,by rw[l1.length,l2.length];exact hz,λp hp=>Post.newl post wd hp (l1.append l2)⟩))
   .exact post.elim
  .exact post.elim
def mulC(i j:Int):Prop:=(-(2 ^ 64)<i/\i<2 ^ 64)\/(-(2 ^ 64)<j/\j<2 ^ 64)\/(i.natAbs.log2<4000/\j.natAbs.log2<4000)
theorem RR{i:Int}(h:i.natAbs.log2<4000):Builtin.Int.intBits i<=2 ^ 20:=by unfold Builtin.Int.intBits;split<;>lia
def mulC.ok{i j:Int}(h:mulC i j):IntMulOk i j:=by
 rcases h with h|h|⟨h1,h2⟩
 .exact CMul.ok (.inl h)
 .exact CMul.ok (.inr h)
 .exact .of_bits (RR h1) (RR h2)
def Ee{X:Cx}:OpR X (binaryOp .Mult) (rI mulC λi j=>.int (i * j)):=Sq λ_ _ _ _ _ _ _ hc q=>mul_int q hc.ok
instance(i j:Int):Decidable (mulC i j):=inferInstanceAs (Decidable (_\/_\/_))
def Id(p:Er)(k:Int)(S:Sto):R Er:=match Qp S p with
 |some x=>if 0<=k/\k<100000/\x.length * k.toNat<=sizeLine then .ok (.new (List.replicate k.toNat x).flatten) S else .no
 |none=>.no
def vQ:Er->Er->Sto->R Er
 |.val (.int i),.val (.int j),S=>if mulC i j then .ok (.val (.int (i * j))) S else .no
 |.val (.str x),.val (.int k),S=>if 0<=k/\k<1000/\x.length<=1000 then .ok (.val (.str (IQ x k))) S else .no
 |p,.val (.int k),S=>Id p k S
 |_,_,_=>.no
theorem DenL.rep{K:Ud}{α:Tg}{H:Hp}{ds:Ug}{vs:List V}(l:DenL K α H ds vs): ∀k:Nat,DenL K α H (List.replicate k ds).flatten (List.replicate k vs).flatten
 |0=>yF
 |k+1=>by rw[replicate_succ];exact l.append (DenL.rep l k)
theorem PP(ha:zT X W a f)(hb:zT X W b g):zT X W (.BinOp a .Mult b pos) (λρ S=>(f ρ S).bind λp S1=>(g ρ S1).bind λq S2=>vQ p q S2):=by
 refine HB (Ee.or (OY.or Ky)) ?_ ha hb;intro p q x y α S H Q wd dp dq post;unfold vQ at post;split at post
 .split at post
  .rename_i hc;exact .inl ⟨_,_,yX dp,yX dq,hc,Post.val post wd (yV _)⟩
  .exact post.elim
 .split at post
  .rename_i hc;exact .inr (.inl ⟨_,_,kH dp,yX dq,hc.1,hc.2.1,hc.2.2,Post.val post wd (lL _)⟩)
  .exact post.elim
 .unfold Id at post;split at post
  .rename_i ds e1;split at post
   .rename_i hc;obtain⟨a1,vs,rfl,h1,l1⟩:=PN wd e1 dp;exact .inr (.inr ⟨a1,_,vs,rfl,yX dq,h1,by lia,by lia,by rw[l1.length];exact hc.2.2,λp hp=>Post.newl post wd hp (l1.rep _)⟩)
   .exact post.elim
  .exact post.elim
 .exact post.elim
def zH:Nat:=40
def LL(p q:Er)(S:Sto):R Er:=match DL S zH p q with
 |some k=>.ok (.val (.bl k)) S
 |none=>.no
def LM(p q:Er)(S:Sto):R Er:=match DL S zH p q with
 |some k=>.ok (.val (.bl !k)) S
 |none=>.no
theorem YM(hu:X.A.units+64<cLine):OpR X (compareOp .Eq) (λx y H Q=> ∃α S p q k,Wd X.g α S H/\DenX X.K α H p x/\DenX X.K α H q y/\DL S zH p q=some k/\Q (.bl k) H):=by intro pins s σ H x y v u Q I rx ry h;obtain⟨α,S,p,q,k,wd,dp,dq,e,hq⟩:=h;exact Lr I wd zH (by unfold zH;lia) dp dq rx ry e X.prog X.w _ _ ⟨.bl k,H,I,rfl,hq⟩
theorem Lv(hu:X.A.units+64<cLine):OpR X (compareOp .NotEq) (λx y H Q=> ∃α S p q k,Wd X.g α S H/\DenX X.K α H p x/\DenX X.K α H q y/\DL S zH p q=some k/\Q (.bl (!k)) H):=by intro pins s σ H x y v u Q I rx ry h;obtain⟨α,S,p,q,k,wd,dp,dq,e,hq⟩:=h;exact Ls I wd zH (by unfold zH;lia) dp dq rx ry e X.prog X.w _ _ ⟨.bl (!k),H,I,rfl,hq⟩
def RS:HA X W (λx y H Q=> ∃α S p q k,Wd X.g α S H/\DenX X.K α H p x/\DenX X.K α H q y/\DL S zH p q=some k/\Q (.bl k) H) LL:=by
 intro p q x y α S H Q wd dp dq post;unfold LL at post;split at post
 .rename_i k e;exact⟨α,S,p,q,k,wd,dp,dq,e,Post.val post wd (jF _)⟩
 .exact post.elim
def Ef:HA X W (λx y H Q=> ∃α S p q k,Wd X.g α S H/\DenX X.K α H p x/\DenX X.K α H q y/\DL S zH p q=some k/\Q (.bl (!k)) H) LM:=by
 intro p q x y α S H Q wd dp dq post;unfold LM at post;split at post
 .rename_i k e;exact⟨α,S,p,q,k,wd,dp,dq,e,Post.val post wd (jF _)⟩
 .exact post.elim
def Ie(hu:X.A.units+64<cLine)(ha:zT X W a f)(hb:zT X W b g):zT X W (.Compare a [.Eq] [b] pos) (λρ S=>(f ρ S).bind λp S1=>(g ρ S1).bind λq S2=>LL p q S2):=YA (YM hu) RS ha hb
def Ig(hu:X.A.units+64<cLine)(ha:zT X W a f)(hb:zT X W b g):qV X W (.Compare a [.Eq] [b] pos) (λρ S=>((f ρ S).bind λp S1=>(g ρ S1).bind λq S2=>LL p q S2).bind eZ):=rV (YM hu) RS ha hb
def RT(hu:X.A.units+64<cLine)(ha:zT X W a f)(hb:zT X W b g):qV X W (.Compare a [.NotEq] [b] pos) (λρ S=>((f ρ S).bind λp S1=>(g ρ S1).bind λq S2=>LM p q S2).bind eZ):=rV (Lv hu) Ef ha hb
def WV:Er->Er->Sto->R Er
 |.val d,.val f,S=>match WU S zH d f with
  |some k=>.ok (.val (.bl k)) S
  |none=>.no
 |_,_,_=>.no
theorem JB(hu:X.A.units+64<cLine):OpR X (compareOp .Lt) (λx y H Q=> ∃α S d f k,Wd X.g α S H/\Den X.K α H d x/\Den X.K α H f y/\WU S zH d f=some k/\Q (.bl k) H):=by intro pins s σ H x y v u Q I rx ry h;obtain⟨α,S,d,f,k,wd,dp,dq,e,hq⟩:=h;exact YI I wd zH X.A d f x y v u k (by unfold zH;lia) dp dq rx ry e X.prog X.w _ _ ⟨.bl k,H,I,rfl,hq⟩
def BR:HA X W (λx y H Q=> ∃α S d f k,Wd X.g α S H/\Den X.K α H d x/\Den X.K α H f y/\WU S zH d f=some k/\Q (.bl k) H) WV:=by
 intro p q x y α S H Q wd dp dq post;unfold WV at post;split at post
 .split at post
  .rename_i k e;exact⟨α,S,_,_,k,wd,dp,dq,e,Post.val post wd (jF _)⟩
  .exact post.elim
 .exact post.elim
def Qq(hu:X.A.units+64<cLine)(ha:zT X W a f)(hb:zT X W b g):zT X W (.Compare a [.Lt] [b] pos) (λρ S=>(f ρ S).bind λp S1=>(g ρ S1).bind λq S2=>WV p q S2):=YA (JB hu) BR ha hb
def Qr(hu:X.A.units+64<cLine)(ha:zT X W a f)(hb:zT X W b g):qV X W (.Compare a [.Lt] [b] pos) (λρ S=>((f ρ S).bind λp S1=>(g ρ S1).bind λq S2=>WV p q S2).bind eZ):=rV (JB hu) BR ha hb
abbrev Qs:=Sv λi j=>decide (j<i)
def Qt(ha:zT X W a f)(hb:zT X W b g):qV X W (.Compare a [.Gt] [b] pos) (λρ S=>((f ρ S).bind λp S1=>(g ρ S1).bind λq S2=>Qs p q S2).bind eZ):=rV Px Lu ha hb
def FU:Er->Er->Sto->R Er
 |.val (.int i),.val (.int j),S=>.ok (.val (.bl (decide (i<=j)))) S
 |.val (.str x),.val (.str y),S=>.ok (.val (.bl (!decide (y<x)))) S
 |_,_,_=>.no
def vR:HA X W (λx y H Q=>Co (λi j=>.bl (decide (i<=j))) x y H Q\/(∃i j,x=.str i/\y=.str j/\Q (.bl (!decide (j.cps.toList<i.cps.toList))) H)) FU:=by
 intro p q x y α S H Q wd dp dq post;unfold FU at post;split at post
 .exact .inl ⟨_,_,yX dp,yX dq,Post.val post wd (jF _)⟩
 .refine .inr ⟨_,_,kH dp,kH dq,?_⟩;rw[IP,IP];exact Post.val post wd (jF _)
 .exact post.elim
def Eg(ha:zT X W a f)(hb:zT X W b g)(hc:zT X W c h)(hm:lastMarks [.LtE,.LtE] [b,c]=false:=by with_unfolding_all rfl):zT X W (.Compare a [.LtE,.LtE] [b,c] pos) (λρ S=>(f ρ S).bind λp S1=>(g ρ S1).bind λq S2=>PB FU FU p q S2 λS3=>h ρ S3):=LF (GP.or nZ) (GP.or nZ) vR vR ha hb hc hm
def Eh(ha:zT X W a f)(hb:zT X W b g)(hc:zT X W c h)(hm:lastMarks [.LtE,.LtE] [b,c]=false:=by with_unfolding_all rfl):qV X W (.Compare a [.LtE,.LtE] [b,c] pos) (λρ S=>((f ρ S).bind λp S1=>(g ρ S1).bind λq S2=>PB FU FU p q S2 λS3=>h ρ S3).bind eZ):=LG (GP.or nZ) (GP.or nZ) vR vR ha hb hc hm
def Ei(hu:X.A.units+64<cLine)(ha:zT X W a f)(hb:zT X W b g)(hc:zT X W c h)(hm:lastMarks [.LtE,.Lt] [b,c]=false:=by with_unfolding_all rfl):zT X W (.Compare a [.LtE,.Lt] [b,c] pos) (λρ S=>(f ρ S).bind λp S1=>(g ρ S1).bind λq S2=>PB FU WV p q S2 λS3=>h ρ S3):=LF (GP.or nZ) (JB hu) vR BR ha hb hc hm
def Ej(hu:X.A.units+64<cLine)(ha:zT X W a f)(hb:zT X W b g)(hc:zT X W c h)(hm:lastMarks [.LtE,.Lt] [b,c]=false:=by with_unfolding_all rfl):qV X W (.Compare a [.LtE,.Lt] [b,c] pos) (λρ S=>((f ρ S).bind λp S1=>(g ρ S1).bind λq S2=>PB FU WV p q S2 λS3=>h ρ S3).bind eZ):=LG (GP.or nZ) (JB hu) vR BR ha hb hc hm
def getL(ds:Ug):Er->Sto->R Er
 |.val (.int i),S=>match tB ds i with |some d=>.ok (.val d) S|none=>.no
 |_,_=>.no
def yR:Er->Er->Sto->R Er
 |.val (.str x),.val (.int i),S=>if x.length<=sizeLine then match tB x i with |some c=>.ok (.val (.str [c])) S|none=>.no else .no
 |.val (.tup ds),q,S=>getL ds q S
 |p,q,S=>match jI S p with |some ds=>getL ds q S|none=>.no
def Ek{K:Ud}{α:Tg}{H:Hp}{ds:Ug}{vs:List V}{i:Int}{d:MV}(l:DenL K α H ds vs)(e:tB ds i=some d): ∃v,tB vs i=some v/\Den K α H d v:=by
 unfold tB at e ⊢;rw[l.length]
 cases z:Bv ds.length i with
 |none=>rw[z]at e;cases e
 |some j=>
  rw[z]at e;obtain⟨v,h1,h2⟩:=l.at e;exact⟨v,h1,h2⟩
def gU(ha:zT X W a f)(hb:zT X W b g)(hs:IG b:=by exact λ_ _=>rfl):zT X W (.Subscript a b pos) (λρ S=>(f ρ S).bind λp S1=>(g ρ S1).bind λq S2=>yR p q S2):=by
 refine Qm Kt ?_ ha hb hs;intro p q x y α S H Q wd dp dq post;have key: ∀{ds:Ug}{vs:List V}{i:Int}{d:MV},DenL X.K α H ds vs->tB ds i=some d->Post X.g W α H _ Q-> ∃v,tB vs i=some v/\Q v H:=λl e post=>by obtain⟨v,h1,h2⟩:=Ek l e;exact⟨v,h1,Post.val post wd h2⟩
 unfold yR at post;split at post
 .split at post
  .rename_i hz;split at post
   .rename_i ch e;refine .inr (.inr ⟨_,_,ch,kH dp,yX dq,by rw[cQ];exact hz,by rw[IP];exact e,?_⟩);exact Post.val post wd (lL [ch])
   .exact post.elim
  .exact post.elim
 .unfold getL at post;split at post
  .split at post
   .rename_i d e;obtain⟨a1,vs,rfl,s1,l1⟩:=aI dp;obtain⟨v,h1,h2⟩:=key l1 e post;exact .inr (.inl ⟨a1,vs,_,v,rfl,yX dq,s1,h1,h2⟩)
   .exact post.elim
  .exact post.elim
 .split at post
  .rename_i ds el;unfold getL at post;split at post
   .split at post
    .rename_i d e;obtain⟨a1,vs,rfl,s1,l1⟩:=dS rfl wd el dp;obtain⟨v,h1,h2⟩:=key l1 e post;exact .inl ⟨a1,vs,_,v,rfl,yX dq,s1,h1,h2⟩
    .exact post.elim
   .exact post.elim
  .exact post.elim
end
def GB{prog:Program}{w:World}{A:Around}{E:VP}{s:Shared}{t sl:Addr}{its:Te}{vl vu:Value}{lo hi:Ub}{Q:VP}(ht:IsTup s.heap t its)(hs:s.heap.IsSliceOf sl vl vu .none)(pl:IsPart vl lo)(pu:IsPart vu hi)
  (h0:HT.sIx its.size 0 lo=0) (h1:HT.sIx its.size its.size hi=its.size) (h:Q (.ref t) s):wpAny (model prog w) A (getItem (.ref t) (.ref sl)) Q E s:=by
 have hTt:=ht.typeIs;unfold getItem
 try with_reducible refine wpAny_holding ?_
 first |refine wB _|skip
 refine wB (wpAny_sequenceKey hTt (by decide) ?_);refine wB (wpAny_callSpecial?_slot hTt PyProof.Rows.slot_tuple_getitem (wpAny_call_entry PyProof.Rows.slot_tuple_getitem hTt entry_tuple_getitem ?_ (args_tuple_getitem _ _)));show wpAny _ _ (Builtin.Tuple.tupleItemsOf _ >>= _) _ _ s;refine wB (tupleItemsOf_ ht (wB (wpAny_typeOf (by obtain⟨os,hos,hcs,_⟩:=id hs;exact⟨os,hos,hcs⟩) ?_)));refine wB (HT.sliceApplied_gen hs pl pu ?_);show wpAny _ _ (if _=true then _ else _) _ _ s;rw[iP (by rw[h0,h1];simp)];refine wB (wB (wpAny_typeOf hTt (wP ?_)));refine wB (wpAny_rule ?_)
 first
  |exact wP ⟨_,rfl,wP h⟩
  |exact wB _
  |exact wB _
section
variable{X:Cx}{W:XW}{a e:Expr}{f h:AX}{pos:Pos}
def El:SlR X (λx lo hi H Q=> ∃a xs,x=.ref a/\SqT X.K H a xs/\HT.sIx xs.length 0 lo=0/\HT.sIx xs.length xs.length hi=xs.length/\Q (.ref a) H):=by
 intro pins s σ H x v vl vu lo hi sl Q I rx hs pl pu h;obtain⟨a,xs,rfl,hx,h0,h1,q⟩:=h;cases rx;obtain⟨its,r,ht,hz⟩:=I.tuple hx;have hlen:its.toArray.size=xs.length:=by rw[sA];exact r.length.symm
 exact⟨_,_,PyProof.Rows.slot_tuple_getitem.lookup,ht.typeIs,GB ht hs pl pu (by rw[hlen];exact h0) (by rw[hlen];exact h1) ⟨.ref a,H,I,rfl,q⟩⟩
def BA:Er->Option Int->Option Int->Sto->R Er
 |.val (.str x),lo,hi,S=>if x.length<=sizeLine then .ok (.val (.str (aG x lo hi))) S else .no
 |.val (.tup ds),lo,hi,S=>.ok (.val (.tup (aG ds lo hi))) S
 |p,lo,hi,S=>match jI S p with |some ds=>.ok (.new (aG ds lo hi)) S|none=>.no
def VD{α:Type}{ds:List α}{lo hi:Ub}(h0:HT.sIx ds.length 0 lo=0)(h1:HT.sIx ds.length ds.length hi=ds.length):aG ds lo hi=ds:=by unfold aG;rw[h0,h1];simp
def JC{lo hi:Option Expr}{lf hf:Rho->Sto->R (Option Int)}{p2:Pos}(ha:zT X W a f)(hl:Li X W lo lf)(hh:Li X W hi hf):zT X W (.Subscript a (.Slice lo hi none p2) pos) (λρ S=>(f ρ S).bind λp S1=>(lf ρ S1).bind λl S2=>(hf ρ S2).bind λu S3=>BA p l u S3):=by
 refine YE (Lb.or (Cz.or (Ks.or El))) ?_ ha hl hh;intro p lo hi x α S H Q wd dp post;unfold BA at post;split at post
 .split at post
  .rename_i hz;exact .inl ⟨_,kH dp,hz,Post.val post wd (lL _)⟩
  .exact post.elim
 .rename_i _ _ _ ds;obtain⟨a1,vs,rfl,s1,l1⟩:=aI dp;by_cases hw:HT.sIx vs.length 0 lo=0/\HT.sIx vs.length vs.length hi=vs.length
  .have e:=VD (by rw[<-l1.length];exact hw.1) (by rw[<-l1.length];exact hw.2);rw[e]at post;exact .inr (.inr (.inr ⟨a1,vs,rfl,s1,hw.1,hw.2,Post.val post wd (lN s1 l1)⟩))
  .exact .inr (.inr (.inl ⟨a1,vs,rfl,s1,hw,λp hp=>Post.newt post wd hp (l1.cut lo hi)⟩))
 .split at post
  .rename_i ds el;obtain⟨a1,vs,rfl,s1,l1⟩:=dS rfl wd el dp;exact .inr (.inl ⟨a1,vs,rfl,s1,λp hp=>Post.newl post wd hp (l1.cut lo hi)⟩)
  .exact post.elim
theorem DenL.pick{K:Ud}{α:Tg}{H:Hp}{ds:Ug}{vs:List V}(l:DenL K α H ds vs): ∀idx:List Nat,DenL K α H (idx.filterMap (ds[·]?)) (idx.filterMap (vs[·]?))
 |[]=>yF
 |i::idx=>by
  cases z:ds[i]? with
  |none=>
   rw[List.filterMap_cons_none z,List.filterMap_cons_none (by rw[List.getElem?_eq_none_iff,l.length];exact List.getElem?_eq_none_iff.mp z)];exact DenL.pick l idx
  |some d=>
   obtain⟨v,h1,h2⟩:=l.at z;rw[List.filterMap_cons_some z,List.filterMap_cons_some h1];exact yA h2 (DenL.pick l idx)
end
section
variable{X:Cx}{W:XW}{a b c e:Expr}{f g h:AX}{pos:Pos}
def LN(S:Sto)(n:Nat)(d:MV):List MV->Option (List Bool)
 |[]=>some []
 |y::ys=>(eqv S n y d).bind λk=>(LN S n d ys).map (k::·)
section
variable{α:Tg}{S:Sto}{H:Hp}{pins:Tk}{σ:St}{s:Shared}
def Em(X:Cx)(α:Tg)(S:Sto)(H:Hp)(n:Nat)(d:MV)(u:Value):Bool:=open Classical in decide (∃y x,Den X.K α H y x/\RelV x u/\eqv S n y d=some true)
open Classical in
def Eo(I:Inv X pins σ H s)(wd:Wd X.g α S H){n:Nat}{d y:MV}{x:V}{u:Value}{k:Bool}(dy:Den X.K α H y x)(r:RelV x u)(e:eqv S n y d=some k):Em X α S H n d u=k:=by
 unfold Em
 cases k with
 |true=>exact dT0 ⟨y,x,dy,r,e⟩
 |false=>
  refine dF0 λ⟨y',x',dy',r',e'⟩=>?_;have ex:=r.inj r';subst ex;rw[dy.inj I wd dy']at e;rw[e]at e';cases e'
theorem tO(I:Inv X pins σ H s)(wd:Wd X.g α S H){n:Nat}{A:Around}{d:MV}{x:V}{v:Value}(hu:A.units+n<cLine)(dd:Den X.K α H d x)(rx:RelV x v): ∀{ys:Ug}{vs:List V}{us:Td}{bs:Ua},DenL X.K α H ys vs->Vals vs us->LN S n d ys=some bs->
  us.map (Em X α S H n d)=bs/\ ∀u∈us,SeqAt.EqAt A s u v (Em X α S H n d u)
 |[],_,_,bs,l,r,e=>by cases l.isnil;cases r;cases e;exact⟨rfl,λu hu=>by cases hu⟩
 |y::ys,_,_,bs,l,r,e=>by
  obtain⟨v',r',rfl,dy,l'⟩:=l.uncons
  cases r with
  |cons r1 r2=>
   unfold LN at e
   cases z:eqv S n y d with
   |none=>rw[z]at e;cases e
   |some k=>
    rw[z]at e
    cases z2:LN S n d ys with
    |none=>simp[z2]at e
    |some cs=>
     simp[z2]at e;subst e;obtain⟨h1,h2⟩:=tO I wd hu dd rx l' r2 z2;have h3:=Eo I wd dy r1 z;refine⟨by rw[List.map_cons,h1,h3],λu hu'=>?_⟩;rcases mC.mp hu' with rfl|hu'
     .rw[h3];exact DO I wd n A y d _ _ _ _ k hu dy dd r1 rx z
     .exact h2 u hu'
end
theorem any_map{us:Td}{f:Value->Bool}{bs:Ua}(h:us.map f=bs):us.toArray.any f=bs.any id:=by subst h;simp[List.any_map]
def itemsOf(S:Sto):Er->Option (List MV)
 |.val (.tup ds)=>some ds
 |r=>jI S r
def tP{α:Tg}{S:Sto}{H:Hp}(wd:Wd X.g α S H){r:Er}{ds:Ug}{x:V}(e:itemsOf S r=some ds)(d:DenX X.K α H r x): ∃a vs,x=.ref a/\(SqL X.K H a vs\/SqT X.K H a vs)/\DenL X.K α H ds vs:=by
 unfold itemsOf at e;split at e
 .cases e;obtain⟨a,vs,rfl,s,l⟩:=aI d;exact⟨a,vs,rfl,.inr s,l⟩
 .obtain⟨a,vs,rfl,s,l⟩:=dS rfl wd e d;exact⟨a,vs,rfl,.inl s,l⟩
def vS(neg:Bool)(p q:Er)(S:Sto):R Er:=match p with
 |.val d=>match itemsOf S q with
  |some ys=>match LN S zH d ys with
   |some bs=>.ok (.val (.bl (if neg=true then !bs.any id else bs.any id))) S
   |none=>.no
  |none=>.no
 |.new _=>.no
def VE(neg:Bool):Er->Er->Sto->R Er
 |.val (.str [c]),.val (.str y),S=>.ok (.val (.bl (if neg=true then !decide (c∈y)else decide (c∈y)))) S
 |p,q,S=>vS neg p q S
abbrev YN(X:Cx)(neg:Bool):R2:=λx y H Q=> ∃α S d q ys bs,Wd X.g α S H/\Den X.K α H d x/\DenX X.K α H q y/\itemsOf S q=some ys/\LN S zH d ys=some bs/\Q (.bl (if neg=true then !bs.any id else bs.any id)) H
theorem Lw(hu:X.A.units+64<cLine):OpR X (compareOp .In) (YN X false):=by
 intro pins s σ H x y v u Q I rx ry h;obtain⟨α,S,d,q,ys,bs,wd,dd,dq,ei,ea,hq⟩:=h;obtain⟨a,vs,rfl,sq,l⟩:=tP wd ei dq;cases ry;rcases sq with sq|sq
 .obtain⟨its,r,pl,_⟩:=I.list sq;obtain⟨h1,h2⟩:=tO I wd (A:=X.A.in1) (by show X.A.units+1+zH<cLine;unfold zH;lia) dd rx l r ea;refine SeqAt.in_listAt _ pl.isList (λw hw=>h2 w (by simpa using hw)) ⟨.bl _,H,I,rfl,?_⟩;rw[any_map h1];exact hq
 .obtain⟨its,r,pl,_⟩:=I.tuple sq;obtain⟨h1,h2⟩:=tO I wd (A:=X.A.in1) (by show X.A.units+1+zH<cLine;unfold zH;lia) dd rx l r ea;refine SeqAt.in_tupleAt _ pl (λw hw=>h2 w (by simpa using hw)) ⟨.bl _,H,I,rfl,?_⟩;rw[any_map h1];exact hq
theorem VF(hu:X.A.units+64<cLine):OpR X (compareOp .NotIn) (YN X true):=by
 intro pins s σ H x y v u Q I rx ry h;obtain⟨α,S,d,q,ys,bs,wd,dd,dq,ei,ea,hq⟩:=h;obtain⟨a,vs,rfl,sq,l⟩:=tP wd ei dq;cases ry;rcases sq with sq|sq
 .obtain⟨its,r,pl,_⟩:=I.list sq;obtain⟨h1,h2⟩:=tO I wd (A:=X.A.in1) (by show X.A.units+1+zH<cLine;unfold zH;lia) dd rx l r ea;refine SeqAt.notIn_listAt _ pl.isList (λw hw=>h2 w (by simpa using hw)) ⟨.bl _,H,I,rfl,?_⟩;rw[any_map h1];exact hq
 .obtain⟨its,r,pl,_⟩:=I.tuple sq;obtain⟨h1,h2⟩:=tO I wd (A:=X.A.in1) (by show X.A.units+1+zH<cLine;unfold zH;lia) dd rx l r ea;refine SeqAt.notIn_tupleAt _ pl (λw hw=>h2 w (by simpa using hw)) ⟨.bl _,H,I,rfl,?_⟩;rw[any_map h1];exact hq
def RU{neg:Bool}:HA X W (λx y H Q=>(∃i j,x=.str i/\y=.str j/\Q (.bl (if neg=true then !(!(Builtin.Str.occurrences j i 0 j.length 1).isEmpty)else !(Builtin.Str.occurrences j i 0 j.length 1).isEmpty)) H)\/YN X neg x y H Q) (VE neg):=by
 intro p q x y α S H Q wd dp dq post;unfold VE at post;split at post
 .refine .inl ⟨_,_,kH dp,kH dq,?_⟩;rw[<-Dk,PySem.StrLaws.found_one];exact Post.val post wd (jF _)
 .unfold vS at post;split at post
  .rename_i d _;split at post
   .rename_i ys ei;split at post
    .rename_i bs ea;exact .inr ⟨α,S,_,q,ys,bs,wd,dp,dq,ei,ea,Post.val post wd (jF _)⟩
    .exact post.elim
   .exact post.elim
  .exact post.elim
def OpR.imp{f:Value->Value->Sem Value}{r r':R2}(h:OpR X f r)(i: ∀x y H Q,r' x y H Q->r x y H Q):OpR X f r':=λpins s σ H x y v u Q I rx ry q=>h pins s σ H x y v u Q I rx ry (i x y H Q q)
def Lx(hu:X.A.units+64<cLine):OpR X (compareOp .In) (λx y H Q=>(∃i j,x=.str i/\y=.str j/\Q (.bl (if(false:Bool)=true then !(!(Builtin.Str.occurrences j i 0 j.length 1).isEmpty)else !(Builtin.Str.occurrences j i 0 j.length 1).isEmpty)) H)\/YN X false x y H Q):=
 OpR.imp (UM.or (Lw hu)) λx y H Q q=>q.imp (λq=>q) λq=>q
def VG(hu:X.A.units+64<cLine):OpR X (compareOp .NotIn) (λx y H Q=>(∃i j,x=.str i/\y=.str j/\Q (.bl (if(true:Bool)=true then !(!(Builtin.Str.occurrences j i 0 j.length 1).isEmpty)else !(Builtin.Str.occurrences j i 0 j.length 1).isEmpty)) H)\/YN X true x y H Q):=
 OpR.imp (IB.or (VF hu)) λx y H Q q=>q.imp (λq=>q) λq=>q
def Qu(hu:X.A.units+64<cLine)(ha:zT X W a f)(hb:zT X W b g)(hm:behindInMarks .In b=false:=by with_unfolding_all rfl):qV X W (.Compare a [.In] [b] pos) (λρ S=>((f ρ S).bind λp S1=>(g ρ S1).bind λq S2=>VE false p q S2).bind eZ):=rV (Lx hu) RU ha hb hm
def LO(hu:X.A.units+64<cLine)(ha:zT X W a f)(hb:zT X W b g)(hm:behindInMarks .NotIn b=false:=by with_unfolding_all rfl):qV X W (.Compare a [.NotIn] [b] pos) (λρ S=>((f ρ S).bind λp S1=>(g ρ S1).bind λq S2=>VE true p q S2).bind eZ):=rV (VG hu) RU ha hb hm
def pC{K:Ud}{α:Tg}{H:Hp}{r:Er}{vs:List V}(d:ArgsX K α H [r] vs): ∃v,vs=[v]/\DenX K α H r v:=by
 cases d with
 |cons a l=>cases l;exact⟨_,rfl,a⟩
def Qv{K:Ud}{α:Tg}{H:Hp}{r r':Er}{vs:List V}(d:ArgsX K α H [r,r'] vs): ∃v u,vs=[v,u]/\DenX K α H r v/\DenX K α H r' u:=by
 cases d with
 |cons a l=>obtain⟨u,rfl,l'⟩:=pC l;exact⟨_,u,rfl,a,l'⟩
def kL:List Er->Sto->R Er
 |[.val (.str x)],S=>if x.length<=sizeLine then .ok (.val (.int x.length)) S else .no
 |[r],S=>match itemsOf S r with |some ds=>.ok (.val (.int ds.length)) S|none=>.no
 |_,_=>.no
def sB:pA X W (λxs H Q=>(∃z,xs=[.str z]/\z.length<=sizeLine/\Q (.int z.length) H)\/ ∃p ys,xs=[.ref p]/\(SqL X.K H p ys\/SqT X.K H p ys)/\Q (.int ys.length) H) kL:=by
 intro rs vs α S H Q wd d post;unfold kL at post;split at post
 .split at post
  .rename_i hz;obtain⟨v,rfl,dv⟩:=pC d;cases kH dv;refine .inl ⟨_,rfl,by rw[cQ];exact hz,?_⟩;exact Post.val post wd (yV _)
  .exact post.elim
 .split at post
  .rename_i ds e;obtain⟨v,rfl,dv⟩:=pC d;obtain⟨a,us,rfl,sq,l⟩:=tP wd e dv;refine .inr ⟨a,us,rfl,sq,?_⟩;rw[l.length];exact Post.val post wd (yV _)
  .exact post.elim
 .exact post.elim
def bV:CallR X (.builtin "len") (λxs H Q=>(∃z,xs=[.str z]/\z.length<=sizeLine/\Q (.int z.length) H)\/ ∃p ys,xs=[.ref p]/\(SqL X.K H p ys\/SqT X.K H p ys)/\Q (.int ys.length) H):=IK.or II
def Ep:List Er->Sto->R Er
 |[.val (.int i)],S=>.ok (.val (.int (if i<0 then -i else i))) S
 |_,_=>.no
def Ly:pA X W (λxs H Q=> ∃i,xs=[.int i]/\Q (.int (if i<0 then -i else i)) H) Ep:=by
 intro rs vs α S H Q wd d post;unfold Ep at post;split at post
 .obtain⟨v,rfl,dv⟩:=pC d;cases yX dv;exact⟨_,rfl,Post.val post wd (yV _)⟩
 .exact post.elim
def tQ:List MV->Option (List Bool)
 |[]=>some []
 |.bl b::r=>(tQ r).map (b::·)
 |_::_=>none
theorem HF{K:Ud}{α:Tg}{H:Hp}: ∀{ds:Ug}{bs:Ua}{vs:List V},tQ ds=some bs->DenL K α H ds vs->vs=bs.map V.bl
 |[],_,_,e,l=>by cases e;exact l.isnil
 |d::r,bs,_,e,l=>by
  cases d with
  |bl b=>
   unfold tQ at e
   cases z:tQ r with
   |none=>rw[z]at e;cases e
   |some cs=>
    rw[z]at e;cases e;obtain⟨v,us,rfl,dv,l'⟩:=l.uncons;rw[eY dv,HF z l'];rfl
  |_=>cases e
def VH:List Er->Sto->R Er
 |[r],S=>match (jI S r).bind tQ with |some bs=>.ok (.val (.bl (bs.all id))) S|none=>.no
 |_,_=>.no
def Lz(hc:X.calm=true):pA X W (λxs H Q=> ∃(a:Addr)(bs:Ua),xs=[.ref a]/\SqL X.K H a (bs.map V.bl)/\X.calm=true/\Q (.bl (bs.all id)) H) VH:=by
 intro rs vs α S H Q wd d post;unfold VH at post;split at post
 .split at post
  .rename_i bs e;obtain⟨v,rfl,dv⟩:=pC d
   cases z:jI S _ with
   |none=>rw[z]at e;cases e
   |some ds=>
    rw[z]at e;obtain⟨a1,us,rfl,s,l⟩:=dS rfl wd z dv;refine⟨a1,bs,rfl,?_,hc,Post.val post wd (jF _)⟩;rw[<-HF e l];exact s
  .exact post.elim
 .exact post.elim
def JD(S:Sto):Er->Option String
 |.val .non=>some "NoneType"
 |.val (.bl _)=>some "bool"
 |.val (.int _)=>some "int"
 |.val (.str _)=>some "str"
 |.val (.tup _)=>some "tuple"
 |.val (.typ _)=>none
 |.val (.obj _ _ _)=>none
 |r=>(jI S r).map λ_=>"list"
def Es(t T:String):Bool:=t==T || (t=="bool"&&T=="int")
def known(T:String):Bool:=T=="int" || T=="bool" || T=="str" || T=="tuple" || T=="list"
def pD:List Er->Sto->R Er
 |[r,.val (.typ T)],S=>match JD S r with
  |some t=>if known T=true then .ok (.val (.bl (Es t T))) S else .no
  |none=>.no
 |_,_=>.no
theorem aC(K:Ud){t T:String}(ht:t="NoneType"\/t="bool"\/t="int"\/t="str"\/t="tuple"\/t="list")(hT:known T=true):PySem.W.kitOne K (.type t) (.type T)=some (Es t T):=by
 have hT':T="int"\/T="bool"\/T="str"\/T="tuple"\/T="list":=by
  unfold known at hT;simp only[Bool.or_eq_true,beq_iff_eq]at hT;rcases hT with(((h|h)|h)|h)|h
  .exact .inl h
  .exact .inr (.inl h)
  .exact .inr (.inr (.inl h))
  .exact .inr (.inr (.inr (.inl h)))
  .exact .inr (.inr (.inr (.inr h)))
 rcases ht with rfl|rfl|rfl|rfl|rfl|rfl<;>rcases hT' with rfl|rfl|rfl|rfl|rfl<;>kernel_rfl
def LP:CallR X (.builtin "isinstance") (λxs H Q=> ∃α S r x t T,xs=[x,.ty T]/\Wd X.g α S H/\DenX X.K α H r x/\JD S r=some t/\known T=true/\Q (.bl (Es t T)) H):=by
 intro pins s σ H xs us Q I rr h;obtain⟨α,S,r,x,t,T,rfl,wd,d,et,hk,q⟩:=h;obtain⟨u,w',rfl,rx,rT⟩:=vals2 rr;cases rT;have fin: ∀tk,EP X pins σ Q _ {s with toks:=tk}:=λtk=>⟨.bl _,H,I.tok _,rfl,q⟩
 unfold JD at et;split at et
 .cases et;cases OZ d;cases rx;exact PySem.W.kia_one PySem.W.kitx_none I.kIn True.intro (aC X.K (.inl rfl) hk) (λz=>nomatch z) fin
 .cases et;cases tF d;cases rx;exact PySem.W.kia_one PySem.W.kitx_bool I.kIn True.intro (aC X.K (.inr (.inl rfl)) hk) (λz=>nomatch z) fin
 .cases et;cases yX d;obtain⟨t,rfl⟩:=rx;exact PySem.W.kia_one PySem.W.kitx_int I.kIn True.intro (aC X.K (.inr (.inr (.inl rfl))) hk) (λz=>nomatch z) fin
 .cases et;cases kH d;obtain⟨t,rfl⟩:=rx;exact PySem.W.kia_one PySem.W.kitx_str I.kIn True.intro (aC X.K (.inr (.inr (.inr (.inl rfl)))) hk) (λz=>nomatch z) fin
 .cases et;obtain⟨a,vs,rfl,sq,l⟩:=aI d;cases rx;obtain⟨its,r1,p1,_⟩:=I.tuple sq;obtain⟨o,h1,h2,_⟩:=p1;exact PySem.W.kia_one PySem.W.kitx_tuple I.kIn ⟨o,h1,h2⟩ (aC X.K (.inr (.inr (.inr (.inr (.inl rfl))))) hk) (λz=>nomatch z) fin
 .cases et
 .cases et
 .cases z:jI S r with
  |none=>rw[z]at et;cases et
  |some ds=>
   rw[z]at et;cases et;obtain⟨a,vs,rfl,sq,l⟩:=dS rfl wd z d;cases rx;obtain⟨its,r1,p1,_⟩:=I.list sq;obtain⟨o,h1,h2,_⟩:=p1.isList;exact PySem.W.kia_one PySem.W.kitx_list I.kIn ⟨o,h1,h2⟩ (aC X.K (.inr (.inr (.inr (.inr (.inr rfl))))) hk) (λz=>nomatch z) fin
def YO:pA X W (λxs H Q=> ∃α S r x t T,xs=[x,.ty T]/\Wd X.g α S H/\DenX X.K α H r x/\JD S r=some t/\known T=true/\Q (.bl (Es t T)) H) pD:=by
 intro rs vs α S H Q wd d post;unfold pD at post;split at post
 .split at post
  .rename_i t et;split at post
   .rename_i hk;obtain⟨v,u,rfl,d1,d2⟩:=Qv d;cases Lh d2;exact⟨α,S,_,v,t,_,rfl,wd,d1,et,hk,Post.val post wd (jF _)⟩
   .exact post.elim
  .exact post.elim
 .exact post.elim
def jY:List Er->Sto->R Er
 |[.val (.tup ds)],S=>.ok (.val (.tup ds)) S
 |[r],S=>match jI S r with |some ds=>.ok (.val (.tup ds)) S|none=>.no
 |_,_=>.no
def tR:pA X W (λxs H Q=> ∃p ys,xs=[.ref p]/\((SqL X.K H p ys/\ ∀l,H l=none->Q (.ref l) (gH H l (.tup ys)))\/(SqT X.K H p ys/\Q (.ref p) H))) jY:=by
 intro rs vs α S H Q wd d post;unfold jY at post;split at post
 .obtain⟨v,rfl,dv⟩:=pC d;obtain⟨a,us,rfl,sq,l⟩:=aI dv;exact⟨a,us,rfl,.inr ⟨sq,Post.val post wd (lN sq l)⟩⟩
 .split at post
  .rename_i ds e;obtain⟨v,rfl,dv⟩:=pC d;obtain⟨a,us,rfl,sq,l⟩:=dS rfl wd e dv;exact⟨a,us,rfl,.inl ⟨sq,λp hp=>Post.newt post wd hp l⟩⟩
  .exact post.elim
 .exact post.elim
def LQ:List Er->Sto->R Er
 |[r],S=>match itemsOf S r with |some ds=>.ok (.new ds) S|none=>.no
 |_,_=>.no
def Et:pA X W (λxs H Q=> ∃p ys,xs=[.ref p]/\(SqL X.K H p ys\/SqT X.K H p ys)/\ ∀l,H l=none->Q (.ref l) (gH H l (.lst ys))) LQ:=by
 intro rs vs α S H Q wd d post;unfold LQ at post;split at post
 .split at post
  .rename_i ds e;obtain⟨v,rfl,dv⟩:=pC d;obtain⟨a,us,rfl,sq,l⟩:=tP wd e dv;exact⟨a,us,rfl,sq,λp hp=>Post.newl post wd hp l⟩
  .exact post.elim
 .exact post.elim
def sC:bootBuiltins "len"=some (.builtin "len"):=by decide+kernel
def Ma:bootBuiltins "abs"=some (.builtin "abs"):=by decide+kernel
def Mb:bootBuiltins "all"=some (.builtin "all"):=by decide+kernel
def rC:bootBuiltins "isinstance"=some (.builtin "isinstance"):=by decide+kernel
def Mc:bootBuiltins "int"=some (.type "int"):=by decide+kernel
def Eu:bootBuiltins "bool"=some (.type "bool"):=by decide+kernel
def Md:bootBuiltins "str"=some (.type "str"):=by decide+kernel
def iT:bootBuiltins "tuple"=some (.type "tuple"):=by decide+kernel
def RV:bootBuiltins "list"=some (.type "list"):=by decide+kernel
end
section
variable{X:Cx}{W:XW}{a e o i:Expr}{es:Uc}{f g h:AX}{af:Rho->Sto->R (List Er)}{pos apos:Pos}
def DP:Er->Sto->Bool
 |.val (.str _),_=>true
 |_,_=>false
def ty_str:TyM X "str" DP:=by
 intro p x α S H wd d h;unfold DP at h;split at h
 .cases kH d;rfl
 .cases h
def aO(p:Er)(S:Sto):Bool:=(jI S p).isSome
def YQ:TyM X "list" aO:=by
 intro p x α S H wd d h;unfold aO at h
 cases z:jI S p with
 |none=>rw[z]at h;cases h
 |some ds=>
  obtain⟨a,vs,rfl,s,l⟩:=dS rfl wd z d;exact .inl ⟨rfl,vs,s⟩
def strIdx(x y:Db):Option Nat:=(Builtin.Str.occurrences (bN x) (bN y) 0 (bN x).length 1).head?
def LR:Er->List Er->Sto->R Er
 |.val (.str x),[.val (.str y)],S=>match strIdx x y with |some i=>.ok (.val (.int (i:Nat))) S|none=>.no
 |_,_,_=>.no
def Ew:Hx X "str.index" (λx xs H Q=> ∃y z i,x=.str (bN y)/\xs=[.str (bN z)]/\strIdx y z=some i/\Q (.int (i:Nat)) H):=by
 intro pins s σ H x xs v us Q I rx rs h;obtain⟨y,z,i,rfl,rfl,hi,q⟩:=h;obtain⟨t,rfl⟩:=rx;obtain⟨u,rfl,t',rfl⟩:=vals1 rs;unfold strIdx at hi
 cases zz:Builtin.Str.occurrences (bN y) (bN z) 0 (bN y).length 1 with
 |nil=>rw[zz]at hi;cases hi
 |cons k r=>
  rw[zz]at hi;cases hi;exact PySem.SC.index zz ⟨.int _,H,I.tok _,⟨_,rfl⟩,q⟩
def Ex:YD X W (λx xs H Q=> ∃y z i,x=.str (bN y)/\xs=[.str (bN z)]/\strIdx y z=some i/\Q (.int (i:Nat)) H) LR:=by
 intro p rs x vs α S H0 H Q α0 wd x0 dp da post
 replace post:=post.shift x0
 unfold LR at post;split at post
 .split at post
  .rename_i i hi;obtain⟨v,rfl,dv⟩:=DI da;exact⟨_,_,i,kH dp,by rw[kH dv],hi,Post.val post wd (yV _)⟩
  .exact post.elim
 .exact post.elim
def Ey(ho:zT X W a f)(ha:GY X W (e::es) af)
  (hbase:attributeBase a "index" X.env (eval a X.env)=eval a X.env:=by rfl)
  (hfew:((backTo pos (starEach (e::es) X.env)).all (λx=>!x.1)&&(backToKw pos (keywordEach [] X.env)).all (λx=>x.1.isSome)
   &&decide ((e::es).length+([]:List Keyword).length+(if([]:List Keyword).isEmpty then 0 else 1)<30))=true:=by rfl)
  (hline:(apos.endLine==pos.line)=true:=by rfl) (hs:starEach (e::es) X.env=(false,eval e X.env)::starEach es X.env:=by rfl) (hplain:(backTo pos (starEach es X.env)).any (·.1)=false:=by rfl):
  zT X W (.Call (.Attribute a "index" apos) (e::es) [] pos) (λρ S=>(f ρ S).bind λp S1=>if DP p S1=true then(af ρ S1).bind λrs S2=>LR p rs S2 else .no):=
 IU PySem.F.plainAttrs_str PySem.F.slot_str_index PySem.F.type_str_index Ew Ex ty_str ho ha hbase hfew hline hs hplain
def LS(p:Er)(S:Sto)(G:List MV->Option (List MV)):R Er:=match p with
 |.val (.loc l)=>match S[l]? with
  |some (.lst ds)=>match G ds with
   |some es=>.ok (.val .non) (S.set l (.lst es))
   |none=>.no
  |_=>.no
 |_=>.no
def VI{α0 α:Tg}{H0 H:Hp}{S:Sto}{p:Er}{x:V}{G:List MV->Option (List MV)}{Q:VK}(wd:Wd X.g α S H)(x0:Ext α0 H0 α H)(dp:DenX X.K α H p x)(post:Post X.g W α0 H0 (LS p S G) Q):
  ∃a vs ds es,x=.ref a/\H a=some (.lst vs)/\DenL X.K α H ds vs/\G ds=some es/\ ∀us,DenL X.K α H es us->Q .non (gH H a (.lst us)):=by
 unfold LS at post;split at post
 .rename_i l;obtain⟨a,rfl,h⟩:=rU dp;obtain⟨ob,h1,h2⟩:=wd.of h;rw[h1]at post
  cases ob with
  |lst ds=>
   obtain⟨vs,h3,l1⟩:=h2;have post:Post X.g W α0 H0 (match G ds with |some es=>R.ok _ _|none=>R.no) Q:=post;split at post
   .rename_i es eg;refine⟨a,vs,ds,es,rfl,h3,l1,eg,λus lu=>?_⟩;have xw:=wd.writex h (Os h3) (o:=.lst us);exact(post.shift (x0.trans xw)).val (wd.write h (Os h3) ⟨us,zZ,lu.ext xw⟩) BN
   .exact post.elim
  |dic _=>exact post.elim
  |ins _ _=>exact post.elim
  |rcd _ _=>exact post.elim
  |fdc _=>exact post.elim
 .exact post.elim
def BB:Er->List Er->Sto->R Er
 |p,[r],S=>(jG r S).bind λy S1=>LS p S1 λds=>if ds.length<sizeLine then some (ds++[y])else none
 |_,_,_=>.no
def VJ:YD X W RI BB:=by
 intro p rs x vs α S H0 H Q α0 wd x0 dp da post
 match rs,da,post with
 |[],_,post=>exact post.elim
 |_::_::_,_,post=>exact post.elim
 |[r],da,post=>
  cases da with
  |cons d n l=>
   cases l;obtain⟨d',S',α',e',x',y',w',dd⟩:=aB wd x0 d;have post:Post X.g W α0 H0 ((jG r S).bind λy S1=>LS p S1 λds=>if ds.length<sizeLine then some _ else none) Q:=post;rw[e']at post
   have dp':DenX X.K α' H p x:=by
    cases p with
    |val m=>exact Den.ex0 y' dp
    |new ds=>exact post.elim
   obtain⟨a,us,ds,es,rfl,h1,l1,eg,k⟩:=VI w' x' dp' post;split at eg
   .rename_i hz;cases eg;exact⟨a,us,_,rfl,rfl,h1,by rw[l1.length];exact hz,k _ (l1.append (yA dd yF))⟩
   .cases eg
def iU(ho:zT X W a f)(ha:GY X W (e::es) af)
  (hbase:attributeBase a "append" X.env (eval a X.env)=eval a X.env:=by rfl)
  (hfew:((backTo pos (starEach (e::es) X.env)).all (λx=>!x.1)&&(backToKw pos (keywordEach [] X.env)).all (λx=>x.1.isSome)
   &&decide ((e::es).length+([]:List Keyword).length+(if([]:List Keyword).isEmpty then 0 else 1)<30))=true:=by rfl)
  (hline:(apos.endLine==pos.line)=true:=by rfl) (hs:starEach (e::es) X.env=(false,eval e X.env)::starEach es X.env:=by rfl) (hplain:(backTo pos (starEach es X.env)).any (·.1)=false:=by rfl):
  zT X W (.Call (.Attribute a "append" apos) (e::es) [] pos) (λρ S=>(f ρ S).bind λp S1=>if aO p S1=true then(af ρ S1).bind λrs S2=>BB p rs S2 else .no):=
 IU PySem.F.plainAttrs_list PySem.F.slot_list_append PySem.F.type_list_append UO VJ YQ ho ha hbase hfew hline hs hplain
end
def _root_.L2.Inv.turnedL{X:Cx}{pins:Tk}{σ:St}{H:Hp}{s:Shared}{h':Heap}{t':Nat}{fp:Tg}(I:Inv X pins σ H s)(k: ∀b o,b∉fp->s.heap.get? b=some o->h'.get? b=some o)
  (hf: ∀b∈fp,rO X pins H b):Inv X pins σ H {s with heap:=h',toks:=t'}:=by
 have nit: ∀b u,H b=some u->b∉fp:=λb u e z=>by rw[(hf b z).1]at e;cases e
 refine I.step (λb hb=>⟨(hf b hb).2.2.2.1,(hf b hb).2.1,(hf b hb).2.2.2.2.1,(hf b hb).2.2.2.2.2⟩) (λb o _ _ hc e _=>k b o hc e) (λb o _ _ hc e _=>⟨_,k b o hc e⟩) (λ_ _ _ _ n=>n)
  (λb o hc e=>⟨o,k b o hc e⟩) (λ_ _ e=>e) (λ_ _ _ e=>e) (λ_ _ e=>e) (λm hm=>?_) (λb u e=>?_) I.bare
 .obtain⟨o,es,ep,ho,r⟩:=hm;exact⟨o,es,ep,k _ o (λz=>(hf _ z).2.1 rfl) ho,r⟩
 .refine(I.hok b u e).stay (λc v hc q=>k c v ?_ q) (λ_ q=>q) (λ_ _ q=>q) λ_ _ _ q=>q;rcases hc with z|z
  .rw[z];exact nit b u e
  .exact nit c _ z
def IsSub(k:Bool)(h:Heap)(it l:Addr)(i:Nat):Prop:=if k=true then h.IsListIter it l i else h.IsTupleIter it l i
def DQ(k:Bool)(h:Heap)(l:Addr)(its:Te):Prop:=if k=true then h.IsList l its else h.IsTuple l its
def JE(k:Bool)(l:Addr):Obj:={cls:=.type (if k=true then "list_iterator" else "tuple_iterator"),data:=.fields #[.ref l,.int 0 0]}
def IsSub.mk'{k:Bool}{h:Heap}{it l:Addr}(e:h.get? it=some (JE k l)):IsSub k h it l 0:=by
 cases k with
 |true=>exact⟨_,e,rfl,rfl⟩
 |false=>exact⟨_,e,rfl,rfl⟩
def IsSub.there{k:Bool}{h:Heap}{it l:Addr}{i:Nat}(x:IsSub k h it l i): ∃o,h.get? it=some o/\ ∀v,o.data≠.cell v:=by
 cases k with
 |true=>obtain⟨o,e,_,d⟩:=(x:h.IsListIter it l i);exact⟨o,e,λv z=>by rw[d]at z;cases z⟩
 |false=>obtain⟨o,e,_,d⟩:=(x:h.IsTupleIter it l i);exact⟨o,e,λv z=>by rw[d]at z;cases z⟩
def IsSub.move{k:Bool}{h h':Heap}{it l:Addr}{i:Nat}(x:IsSub k h it l i)(f: ∀o,h.get? it=some o->h'.get? it=some o):IsSub k h' it l i:=by
 cases k with
 |true=>obtain⟨o,e,r⟩:=(x:h.IsListIter it l i);exact⟨o,f o e,r⟩
 |false=>obtain⟨o,e,r⟩:=(x:h.IsTupleIter it l i);exact⟨o,f o e,r⟩
section
variable{prog:Program}{w:World}{A:Around}{E:VP}{s:Shared}
def DR{k:Bool}{l:Addr}{its:Te}{Q:VP}(hl:DQ k s.heap l its)(h:Q (.ref s.heap.objs.size) {s with heap:=s.heap.push (JE k l)}):wpAny (model prog w) A (pyIter (.ref l)) Q E s:=by
 cases k with
 |true=>exact wpAny_pyIter_list hl h
 |false=>exact wpAny_pyIter_tuple hl h
def YR{k:Bool}{it l:Addr}{i:Nat}{its:Te}{x:Value}{Q:VP}(hit:IsSub k s.heap it l i)(hl:DQ k s.heap l its)(hx:its[i]? =some x)
  (hQ: ∀h',IsSub k h' it l (i+1)->Heap.SameBut it s.heap h'->Q x {s with heap:=h'}):wpAny (model prog w) A (Builtin.SmallTypes.nextOf (.ref it)) Q E s:=by
 cases k with
 |true=>exact wpAny_nextOf_list_item hit hl hx hQ
 |false=>
  have hit':=hit;obtain⟨o,ho,hc,hd⟩:=id hit';obtain⟨ol,hol,_,nl,hdl⟩:=(hl:s.heap.IsTuple l its)
  refine wB (wpAny_callSpecial?_slot hit'.typeIs F.slot_tuple_iterator_next (wpAny_call_entry F.slot_tuple_iterator_next hit'.typeIs F.entry_tuple_iterator_next ?_ (F.args_tuple_iterator_next_1 _)));show wpAny _ _ (field _ 0 >>= _) _ _ s;refine wB (wpAny_field ho hd rfl ?_);refine wB (wpAny_field ho hd rfl ?_);refine wB (wpAny_seqItems hol hdl ?_);simp only[Int.toNat_natCast,hx];refine wB (wpAny_setField ho hd (by simp) (wP ⟨x,rfl,wP (hQ _ ?_ (Heap.SameBut.update ..))⟩));exact⟨_,Heap.get?_update_self _ ho (Obj.isFreed_of_fields (Obj.data_mapFields hd _)),(Obj.cls_mapFields ..).trans hc,by rw[Obj.data_mapFields hd];simp[rawInt]⟩
def Ez{k:Bool}{it l:Addr}{i:Nat}{its:Te}{Q:VP}(hh:A.handled=none)(hit:IsSub k s.heap it l i)(hl:DQ k s.heap l its)(hx:its[i]? =none)
  (hE: ∀h' e,Heap.ExtBut it s.heap h'->(∃o,h'.get? e=some o/\o.cls=.type "StopIteration")->E (.ref e) {s with heap:=h'}):wpAny (model prog w) A (Builtin.SmallTypes.nextOf (.ref it)) Q E s:=by
 cases k with
 |true=>exact wpAny_nextOf_list_end hh hit hl hx hE
 |false=>
  have hit':=hit;obtain⟨o,ho,hc,hd⟩:=id hit';obtain⟨ol,hol,_,nl,hdl⟩:=(hl:s.heap.IsTuple l its)
  refine wB (wpAny_callSpecial?_slot hit'.typeIs F.slot_tuple_iterator_next (wpAny_call_entry F.slot_tuple_iterator_next hit'.typeIs F.entry_tuple_iterator_next ?_ (F.args_tuple_iterator_next_1 _)));show wpAny _ _ (field _ 0 >>= _) _ _ s;refine wB (wpAny_field ho hd (x:=.ref l) rfl ?_);refine wB (wpAny_field ho hd rfl ?_);refine wB (wpAny_seqItems hol hdl ?_);simp only[Int.toNat_natCast,hx];refine wB (wpAny_rule (wB (wpAny_setField ho hd (by simp) ?_)));refine wB ?_;refine wB (wpAny_newObj_type ?_ (by size_fits));refine wB (wpAny_of_eq (by first |rfl|(simp only[firstArgMember];rfl)) ?_);refine wpAny_newObj_type ?_ (by size_fits);simp only[raiseNew];refine wB (wpAny_handled ?_)
  first |rw[show A.in1.handled=none from hh]|rw[hh]
  refine wB (wP (wpAny_throw ?_));exact hE _ _ (((Heap.SameBut.update ..).extBut.push _).push _) ⟨_,Heap.get?_push_size _ rfl,rfl⟩
end
def Fa(k:Bool)(K:Ud)(H:Hp)(a:Addr)(xs:List V):Prop:=if k=true then SqL K H a xs else SqT K H a xs
section
variable{X:Cx}{pins:Tk}{σ:St}{H:Hp}{s:Shared}
def _root_.L2.Inv.seqK(I:Inv X pins σ H s){k:Bool}{a:Addr}{xs:List V}(h:Fa k X.K H a xs): ∃its:List Value,Vals xs its/\DQ k s.heap a its.toArray/\xs.length<=sizeLine:=by
 cases k with
 |true=>obtain⟨its,r,p,z⟩:=I.list h;exact⟨its,r,p.isList,z⟩
 |false=>obtain⟨its,r,p,z⟩:=I.tuple h;exact⟨its,r,p,z⟩
def _root_.L2.Inv.seqK_inj(I:Inv X pins σ H s){k:Bool}{a:Addr}{xs ys:List V}(h:Fa k X.K H a xs)(h':Fa k X.K H a ys):xs=ys:=by
 cases k with
 |true=>exact I.list_inj h h'
 |false=>exact I.tuple_inj h h'
end
structure Sr where
 k:Bool
 ds:List MV
 gs:List (Nat×List MV)
def srcOf(S:Sto):Er->Option Sr
 |.val (.tup ds)=>some ⟨false,ds,[]⟩
 |.new ds=>some ⟨true,ds,[]⟩
 |.val (.scr ds)=>some ⟨true,ds,[]⟩
 |.val (.loc l)=>match S[l]? with
  |some (.lst ds)=>some ⟨true,ds,[(l,ds)]⟩
  |_=>none
 |_=>none
structure SrcD(X:Cx)(q:Sr)(l:Addr)(P:List Addr->Sto->Hp->Prop):Prop where
 get: ∀α S H,P α S H-> ∃vs,Fa q.k X.K H l vs/\DenL X.K α H q.ds vs
 stays: ∀α1 S1 H1 α2 S2 H2,P α1 S1 H1->Ext α1 H1 α2 H2->Wd X.g α2 S2 H2->stay q.gs S2->P α2 S2 H2
 st: ∀α S H,P α S H->stay q.gs S
def PQ{X:Cx}{α:Tg}{S:Sto}{H:Hp}(wd:Wd X.g α S H){r:Er}{x:V}{q:Sr}(e:srcOf S r=some q)(d:DenX X.K α H r x): ∃l P,x=.ref l/\P α S H/\SrcD X q l P:=by
 unfold srcOf at e;split at e
 .rename_i ds;cases e;obtain⟨a,vs,rfl,s,l⟩:=aI d;exact⟨a,λα S H=> ∃vs,_,rfl,⟨vs,s,l⟩,λα S H h=>h,λα1 S1 H1 α2 S2 H2 ⟨vs,h1,h2⟩ x w _=>⟨vs,x.sqT h1,h2.ext x⟩,λ_ _ _ _=>gR⟩
 .rename_i ds;cases e;obtain⟨b,vs,rfl,h,n,l⟩:=d
  exact⟨b,λα S H=> ∃vs,H b=some (.lst vs)/\b∉α/\DenL X.K α H ds vs,rfl,⟨vs,h,n,l⟩,λα S H ⟨vs,h1,_,h2⟩=>⟨vs,(SqL.of h1:SqL X.K H b vs),h2⟩,
   λα1 S1 H1 α2 S2 H2 ⟨vs,h1,h2,h3⟩ x w _=>⟨vs,x.keep b _ h1 h2,x.out h1 h2,h3.ext x⟩,λ_ _ _ _=>gR⟩
 .rename_i ds;cases e;obtain⟨a,vs,rfl,s,l⟩:=IT d;exact⟨a,λα S H=> ∃vs,SqF X.K H a vs/\DenL X.K α H ds vs,rfl,⟨vs,s,l⟩,λα S H ⟨vs,h1,h2⟩=>⟨vs,h1.l,h2⟩,λα1 S1 H1 α2 S2 H2 ⟨vs,h1,h2⟩ x w _=>⟨vs,x.sqF h1,h2.ext x⟩,λ_ _ _ _=>gR⟩
 .rename_i n;split at e
  .rename_i ds hS;cases e;obtain⟨a,rfl,h⟩:=rU d;obtain⟨vs,h1,h2⟩:=wd.obj n a _ h hS;refine⟨a,λα S H=> ∃vs,H a=some (.lst vs)/\DenL X.K α H ds vs/\α[n]? =some a/\S[n]? =some _,rfl,⟨vs,h1,h2,h,hS⟩,λα S H ⟨vs,h1,h2,_⟩=>⟨vs,(SqL.of h1:SqL X.K H a vs),h2⟩,?_,?_⟩
   .intro α1 S1 H1 α2 S2 H2 ⟨vs,a1,a2,a3,a4⟩ x w hs;have hs':=hs (n,ds) (by simp);obtain⟨us,b1,b2⟩:=w.obj n a _ (x.at a3) hs';exact⟨us,b1,b2,x.at a3,hs'⟩
   .intro α S H ⟨vs,_,_,_,a4⟩ p hp;have:=by simpa using hp
    subst this;exact a4
  .cases e
 .cases e
def Fe:bootBuiltins "enumerate"=some (.type "enumerate"):=by decide+kernel
structure EnSt(k:Bool)(e it l:Addr)(i:Nat)(h:Heap):Prop where
 e: ∃old,IsEnum h e it i old
 s:IsSub k h it l i
section
variable{prog:Program}{w:World}{A:Around}{E:VP}{s:Shared}{k:Bool}{e it l:Addr}{i:Nat}{its:Te}
def Ff{x old:Value}{Q:VP}(he:IsEnum s.heap e it i old)(hit:IsSub k s.heap it l i)(hl:DQ k s.heap l its)(hx:its[i]? =some x)(hne:e≠it)
  (hQ: ∀h',IsEnumOut h' e it ((i:Int)+1) x s.heap.objs.size->IsSub k h' it l (i+1)->h'.get? s.heap.objs.size=some {cls:=.type "tuple",data:=.seq #[.int i s.toks,x]}->
   (∀b o,b≠e->b≠it->s.heap.get? b=some o->h'.get? b=some o)->Q (.ref s.heap.objs.size) {s with heap:=h',toks:=s.toks+1}):
  wpAny (model prog w) A (Builtin.«enumerate.__next__» ⟨[.ref e],[]⟩) (λfin s'=> ∃v,fin=.done (.ret v)/\Q v s') E s:=by
 obtain⟨hp,g,d,tk,os⟩:=s;show wpAny _ _ (field _ 2 >>= _) _ _ _;refine wB (wpAny_field he rfl rfl (wB (YR hit hl hx λha ita hsa=>?_)));have ea:=(hsa.2 e hne).trans he;refine wB (wpAny_field ea rfl rfl ?_);refine wB (wpAny_field ea rfl rfl ?_);show wpAny _ _ _ _ _ ⟨ha,g,d,tk,os⟩;refine wB (wpAny_mkInt ?_);refine wB (wpAny_setField_rec ea (by simp) λhb eb hsb=>?_)
 replace eb:IsEnum hb e it _ old:=eb
 refine wB (wpAny_setField_rec eb (by simp) λhc ec hsc=>?_)
 replace ec:IsEnum hc e it _ old:=ec
 refine wB (wpAny_newTuple ?_);have hsz:hc.objs.size=hp.objs.size:=by rw[hsc.1,hsb.1,hsa.1]
 have ed:IsEnum (hc.push {cls:=.type "tuple",data:=.seq #[.int i tk,x]}) e it _ old:=hP0 _ ec;have td:(hc.push {cls:=.type "tuple",data:=.seq #[.int i tk,x]}).get? hp.objs.size=some {cls:=.type "tuple",data:=.seq #[.int i tk,x]}:=by rw[<-hsz];exact Heap.get?_push_size _ rfl
 have kd: ∀b o,b≠e->b≠it->hp.get? b=some o->(hc.push {cls:=.type "tuple",data:=.seq #[.int i tk,x]}).get? b=some o:=λb o n1 n2 q=>
  hP0 _ (hsc.extBut b o n1 (hsb.extBut b o n1 (hsa.extBut b o n2 q)))
 have sd:IsSub k (hc.push {cls:=.type "tuple",data:=.seq #[.int i tk,x]}) it l _:=ita.move λo q=>hP0 _ (hsc.extBut _ o (Ne.symm hne) (hsb.extBut _ o (Ne.symm hne) q));generalize hc.push {cls:=.type "tuple",data:=.seq #[.int i tk,x]}=hd at ed td kd sd ⊢;rw[hsz];refine wB ?_;refine wB (wpAny_field ed rfl rfl (wP ?_));refine wB (wpAny_rule (wB (wpAny_field ed rfl rfl (wB (wpAny_setField_rec ed (by simp) λhf ef hsf=>?_)))))
 replace ef:IsEnum hf e it _ x:=ef
 refine wB ?_;refine wB (wpAny_setField_rec ef (by simp) λhg' eg hsg=>?_)
 replace eg:IsEnumOut hg' e it _ x hp.objs.size:=eg
 refine wpAny_setField_rec eg (by simp) λhh' eh hsh=>?_
 replace eh:IsEnumOut hh' e it _ x hp.objs.size:=eh
 have up:=λb o n q=>hsh.extBut b o n (hsg.extBut b o n (hsf.extBut b o n q));exact wB (wpAny_letGo (wP ⟨_,rfl,hQ hh' eh (sd.move λo q=>up _ o (Ne.symm hne) q) (up _ _ (Nat.ne_of_gt (Heap.lt_size he)) td) λb o n1 n2 q=>up b o n1 (kd b o n1 n2 q)⟩))
def PR(k:Bool)(l:Addr)(its:Te):
  Meets (Builtin.«enumerate.__new__» ⟨[.type "enumerate",.ref l],[]⟩) (λ_ R s=>DQ k s.heap l its/\
   R (.ok (.ret (.ref (s.heap.objs.size+1)))) {s with heap:=(s.heap.push (JE k l)).push {cls:=.type "enumerate",data:=.fields #[.none,.bool false,.ref s.heap.objs.size,rawInt 0,.none,.none]}}):=
 .of_wp λprog w A R s h=>by
  obtain⟨hp,g,d,tk,os⟩:=s;obtain⟨hl,h⟩:=h;have hsub:=sub_enumerate;have hL:=hl;have z1: ∀(h:Heap)(o:Obj),(h.push o).objs.size=h.objs.size+1:=λh o=>Heap.size_push ..
  wp_walk
  refine wpAny_stack_any λst=>wP ?_;split
  .rename_i c _ _ _ _ _;cases (c==Value.type "enumerate")
   .wp_walk using DR hL
    exact⟨_,rfl,by simp only[z1];exact h⟩
   .wp_walk using DR hL
    exact⟨_,rfl,by simp only[z1];exact h⟩
  .wp_walk using DR hL
   exact⟨_,rfl,by simp only[z1];exact h⟩
end
def HG(K:Ud)(F:List MV->Sto->R Er):Sp:=λvs H Q _=> ∃ds,DenL K [] H ds vs/\ds.length=1/\ ∀g:Gm,g.K=K->Post g W0 [] H (F ds []) Q
def YS{g:Gm}{F:List MV->Sto->R Er}: ∀vs H Q E,HG g.K F vs H Q E->LK g 1 F vs H Q E:=λvs H Q E ⟨ds,l,hl,q⟩=>⟨[],[],ds,⟨rfl,by simp,λl a o h=>by simp at h⟩,l,hl,q g rfl⟩
def Me{K:Ud}{H:Hp}{a:Addr}{xs:List V}(hO:Dc H)(h:SqL K H a xs):SqF K H a xs:=by
 rcases h with(h|⟨o,h⟩)|h
 .rcases hO a with z|⟨o,ys,z⟩|⟨ps,z⟩<;>(rw[z]at h;cases h)
 .exact .inl ⟨o,h⟩
 .exact .inr h
def YT{K:Ud}{F:List MV->Sto->R Er}{H:Hp}{a:Addr}{ns:Tc}(hO:Dc H)(hS:SqL K H a (ns.map V.int))(h: ∃S,F [.scr (ns.map MV.int)] []=.ok (.val (.bl true)) S):HG K F [.ref a] H (λv _=>v=.bl true) λ_ _ _=>False:=by obtain⟨S,h⟩:=h;refine⟨_,yA (RL (Me hO hS) (vK ns)) yF,rfl,λg _=>?_⟩;rw[h];exact λv α' H' x w d=>tF d.1
theorem aP{β γ:Type}(b:β)(S:Sto)(k:β->Sto->R γ):(R.ok b S).bind k=k b S:=by exact Eq.trans (R.bind_ok b S k) rfl
theorem Fg(d:MV)(S:Sto):Dq (some (some d)) S=.ok (.val d) S:=rfl
theorem LT{S T:Sto}:RP S (S++T):=⟨by rw[lA];lia,λl hl=>.inl (getElem?_append_left hl)⟩
def wA(n:Nat)(i:Int):lo n (.int i):=by unfold lo;trivial
def YU(n:Nat)(i:Db):lo n (.str i):=by unfold lo;trivial
def Ih(n:Nat)(i:Bool):lo n (.bl i):=by unfold lo;trivial
def Mf(n:Nat):lo n .non:=by unfold lo;trivial
def xD{n:Nat}{ds:Ug}(h:FT n ds):lo n (.tup ds):=by unfold lo;exact h
def Mg{n l:Nat}(h:l<n):lo n (.loc l):=by unfold lo;exact h
theorem yE{n:Nat}: ∀{ds:Ug},(∀d∈ds,lo n d)->FT n ds
 |[],_=>by unfold FT;trivial
 |d::ds,h=>by unfold FT;exact⟨h d mF0,yE λe he=>h e (mO _ he)⟩
def YV{S T:Sto}{d:MV}(h:lo S.length d)(hn: ∀l,d≠.loc l):aL S (.val d) (S++T)=.ok (.val d) S:=by
 unfold aL;rw[iP LT];have e:(S++T).take S.length=S:=by simp
 cases d with
 |loc l=>exact absurd rfl (hn l)
 |_=>dsimp only;rw[iP h,e]
def YW{S T:Sto}{ds:Ug}(h:FT S.length ds):aL S (.new ds) (S++T)=.ok (.new ds) S:=by
 unfold aL;rw[iP LT];have e:(S++T).take S.length=S:=by simp
 dsimp only;rw[iP h,e]
def pE{n:Nat}{F:List MV->Sto->R Er}{rs:List Er}{S T:Sto}{d:MV}(hn:rs.length=n)(hF:F (zU rs S).1 (zU rs S).2=.ok (.val d) (S++T))(h:lo S.length d)(hd: ∀l,d≠.loc l):zQ n F rs S=.ok (.val d) S:=by unfold zQ;rw[iP hn,hF];exact YV h hd
def YX{n:Nat}{F:List MV->Sto->R Er}{rs:List Er}{S T:Sto}{ds:Ug}(hn:rs.length=n)(hF:F (zU rs S).1 (zU rs S).2=.ok (.new ds) (S++T))(h:FT S.length ds):zQ n F rs S=.ok (.new ds) S:=by unfold zQ;rw[iP hn,hF];exact YW h
def xV{n:Nat}{F:List MV->Sto->R Er}{rs:List Er}{S:Sto}{d:MV}(hn:rs.length=n)(hF:F (zU rs S).1 (zU rs S).2=.ok (.val d) S)(h:lo S.length d)(hd: ∀l,d≠.loc l):zQ n F rs S=.ok (.val d) S:=pE hn (by rw[aN];exact hF) h hd
theorem LU{gf:MV->Rho->Sto->R Rho}{body:AY}{gs:Uj}{L:Ug}(I:Nat->Rho->Sto->Prop)
  (st: ∀i d,L[i]? =some d-> ∀ρ S,I i ρ S-> ∃ρ' S',((gf d ρ S).bind λρ0 S0=>body ρ0 S0)=.ok (.next ρ') S'/\stay gs S'/\I (i+1) ρ' S'):
  ∀(n i:Nat){ρ:Rho}{S:Sto},n+i=L.length->I i ρ S-> ∃ρ' S',dD gf body gs (L.drop i) ρ S=.ok (.next ρ') S'/\I L.length ρ' S'
 |0,i,ρ,S,hn,h=>by
  have e:i=L.length:=by lia
  subst e;rw[drop_length];exact⟨ρ,S,rfl,h⟩
 |n+1,i,ρ,S,hn,h=>by
  have hi:i<L.length:=by lia
  obtain⟨ρ1,S1,e,hs,h1⟩:=st i L[i] (gE hi) ρ S h;obtain⟨ρ2,S2,e2,h2⟩:=LU I st n _ (by lia) h1;refine⟨ρ2,S2,?_,h2⟩;rw[List.drop_eq_getElem_cons hi];unfold dD
  cases z:gf L[i] ρ S with
  |ok ρ0 S0=>
   rw[z]at e;have e:body ρ0 S0=.ok _ S1:=e;show(body ρ0 S0).bind _=_;rw[e,aP];dsimp only;rw[iP hs];exact e2
  |exc c fs S0=>rw[z]at e;cases e
  |no=>rw[z]at e;cases e
theorem vT{gf:MV->Rho->Sto->R Rho}{body:AY}{gs:Uj}{L:Ug}(I:Nat->Rho->Sto->Prop)
  (st: ∀i d,L[i]? =some d-> ∀ρ S,I i ρ S-> ∃ρ' S',((gf d ρ S).bind λρ0 S0=>body ρ0 S0)=.ok (.next ρ') S'/\stay gs S'/\I (i+1) ρ' S') {ρ:Rho} {S:Sto} (h:I 0 ρ S):
  ∃ρ' S',dD gf body gs L ρ S=.ok (.next ρ') S'/\I L.length ρ' S':=LU I st L.length 0 (by lia) h
section
variable{S:Sto}
theorem Qw(b:Bool)(S:Sto):eZ (.val (.bl b)) S=.ok b S:=rfl
theorem as_int(i:Int)(S:Sto):Du (.val (.int i)) S=.ok (some i) S:=rfl
theorem Mh(b:Bool)(S:Sto):dU (.val (.bl b)) S=.ok b S:=rfl
theorem add_int(i j:Int)(S:Sto):dE (.val (.int i)) (.val (.int j)) S=.ok (.val (.int (i+j))) S:=rfl
theorem sub_int(i j:Int)(S:Sto):VA (.val (.int i)) (.val (.int j)) S=.ok (.val (.int (i - j))) S:=rfl
def add_str{x y:Db}(h:x.length+y.length<=sizeLine):dE (.val (.str x)) (.val (.str y)) S=.ok (.val (.str (x++y))) S:=iP h
theorem Mi{g:Int->Int->Bool}(i j:Int)(S:Sto):Sv g (.val (.int i)) (.val (.int j)) S=.ok (.val (.bl (g i j))) S:=rfl
def Fi(i j:Int):Da (.int i) (.int j)=decide (i=j):=by
 show(i==j)=_;by_cases h:i=j
 .subst h;simp
 .rw[dF0 h];simpa using h
def Fj(x y:Db):Da (.str (bN x)) (.str (bN y))=decide (x=y):=by
 show(bN x==bN y)=_;by_cases h:x=y
 .subst h;simp
 .rw[dF0 h];have:=λz=>h (BM z);simpa using this
theorem BS(n:Nat)(i j:Int):eqv S (n+1) (.int i) (.int j)=some (decide (i=j)):=by rw[<-Fi];rfl
theorem Fk(n:Nat)(x y:Db):eqv S (n+1) (.str x) (.str y)=some (decide (x=y)):=by rw[<-Fj];rfl
theorem Mj(n:Nat)(x:Int)(y:Db):eqv S (n+1) (.int x) (.str y)=some false:=rfl
theorem Mk(n:Nat)(x:Db)(y:Int):eqv S (n+1) (.str x) (.int y)=some false:=rfl
theorem Fm(d f:MV):LL (.val d) (.val f) S=match eqv S (zH+1) d f with |some k=>.ok (.val (.bl k)) S|none=>.no:=rfl
theorem Fn(d f:MV):LM (.val d) (.val f) S=match eqv S (zH+1) d f with |some k=>.ok (.val (.bl !k)) S|none=>.no:=rfl
def YY{d f:MV}{k:Bool}(h:eqv S (zH+1) d f=some k):LL (.val d) (.val f) S=.ok (.val (.bl k)) S:=by rw[Fm,h]
def YZ{d f:MV}{k:Bool}(h:eqv S (zH+1) d f=some k):LM (.val d) (.val f) S=.ok (.val (.bl !k)) S:=by rw[Fn,h]
def eq_int(i j:Int)(S:Sto):LL (.val (.int i)) (.val (.int j)) S=.ok (.val (.bl (decide (i=j)))) S:=YY (BS _ i j)
def ne_int(i j:Int)(S:Sto):LM (.val (.int i)) (.val (.int j)) S=.ok (.val (.bl (!decide (i=j)))) S:=YZ (BS _ i j)
theorem lt_int(i j:Int)(S:Sto):WV (.val (.int i)) (.val (.int j)) S=.ok (.val (.bl (decide (i<j)))) S:=rfl
theorem lt_str(i j:Db)(S:Sto):WV (.val (.str i)) (.val (.str j)) S=.ok (.val (.bl (decide (i<j)))) S:=rfl
theorem kQ{b:Int}(h:0<b)(h2:b<1073741824)(a:Int)(S:Sto):iS (.val (.int a)) (.val (.int b)) S=.ok (.val (.int (a / b))) S:=by
 refine iP ⟨h,?_⟩;have h3:b.natAbs<2 ^ 30:=by omega
 have:=(Nat.log2_lt (by omega:b.natAbs≠0)).mpr h3
 lia
def mod_lit{b:Int}(h:0<b)(a:Int)(S:Sto):bT (.val (.int a)) (.val (.int b)) S=.ok (.val (.int (a % b))) S:=iP h
def tS{b:Int}(h: -(2 ^ 64)<b/\b<2 ^ 64)(a:Int)(S:Sto):vQ (.val (.int a)) (.val (.int b)) S=.ok (.val (.int (a * b))) S:=iP (Or.inr (Or.inl h))
def ZA{a:Int}(h: -(2 ^ 64)<a/\a<2 ^ 64)(b:Int)(S:Sto):vQ (.val (.int a)) (.val (.int b)) S=.ok (.val (.int (a * b))) S:=iP (Or.inl h)
def Fo{a b:Int}(h:VC a b)(S:Sto):rZ (.val (.int a)) (.val (.int b)) S=.ok (.val (.int (a ^ b.toNat))) S:=iP h
theorem RW(ρ:Rho)(i:Nat)(d:MV)(S:Sto):FZ ρ i (.val d) S=.ok (.next (ρ.set i (some d))) S:=rfl
theorem RX(ρ:Rho)(i:Nat)(ds:Ug)(S:Sto):FZ ρ i (.new ds) S=.ok (.next (ρ.set i (some (.loc S.length)))) (S++[.lst ds]):=rfl
theorem Fp(S:Sto):zU [] S=([],S):=rfl
theorem Fq(d:MV)(rs:List Er)(S:Sto):zU (.val d::rs) S=(d::(zU rs S).1,(zU rs S).2):=rfl
theorem zA{F G:AY}{ρ ρ':Rho}{S S':Sto}(h:F ρ S=.ok (.next ρ') S'):zO F G ρ S=G ρ' S':=by unfold zO;rw[h];rfl
theorem tT{F G:AY}{ρ:Rho}{S S':Sto}{r:Er}(h:F ρ S=.ok (.ret r) S'):zO F G ρ S=.ok (.ret r) S':=by unfold zO;rw[h];rfl
def kM(S:Sto):stay [] S:=gR
def xL{gf:MV->Rho->Sto->R Rho}{b:AY}{gs:Uj}{d:MV}{ds:Ug}{ρ ρ0 ρ':Rho}{S0 S':Sto}(hg:gf d ρ S=.ok ρ0 S0)(h:b ρ0 S0=.ok (.next ρ') S')(hs:stay gs S'):dD gf b gs (d::ds) ρ S=dD gf b gs ds ρ' S':=by
 conv=>lhs;unfold dD
 rw[hg,aP,h,aP];dsimp only;rw[iP hs]
theorem tU{α:Type}{xs:List α}{i:Int}(h0:0<=i)(h1:i<xs.length): ∃c,tB xs i=some c:=by refine⟨xs[i.toNat]'(by lia),?_⟩;unfold tB Bv;rw[iP h0,iP h1];exact gE _
def tV{α:Type}{P:α->Prop}{xs:List α}{i:Int}{e:α}(h: ∀e∈xs,P e)(z:tB xs i=some e):P e:=by
 unfold tB at z
 cases q:Bv xs.length i with
 |none=>rw[q]at z;cases z
 |some j=>rw[q]at z;exact h e (mem_of_getElem? z)
def ix_str{x:Db}{i:Int}{c:Nat}(h:x.length<=sizeLine)(hk:tB x i=some c):yR (.val (.str x)) (.val (.int i)) S=.ok (.val (.str [c])) S:=by show(if x.length<=sizeLine then match tB x i with |some c=>R.ok _ S|none=>.no else .no)=_;rw[iP h,hk]
def ix_tup{ds:Ug}{i:Int}{d:MV}(hk:tB ds i=some d):yR (.val (.tup ds)) (.val (.int i)) S=.ok (.val d) S:=by show(match tB ds i with |some d=>R.ok _ S|none=>.no)=_;rw[hk]
def PV{l:Nat}{ds:Ug}{i:Int}{d:MV}(hS:S[l]? =some (.lst ds))(hk:tB ds i=some d):yR (.val (.loc l)) (.val (.int i)) S=.ok (.val d) S:=by
 have e:jI S (.val (.loc l))=some ds:=by unfold jI;dsimp only;rw[hS]
 show(match jI S _ with |some ds=>getL ds _ S|none=>.no)=_;rw[e];show(match tB ds i with |some d=>R.ok _ S|none=>.no)=_;rw[hk]
def Fs{l:Nat}{ds:Ug}(hS:S[l]? =some (.lst ds)):kL [.val (.loc l)] S=.ok (.val (.int ds.length)) S:=by
 have e2:itemsOf S (.val (.loc l))=some ds:=by unfold itemsOf;exact(by unfold jI;dsimp only;rw[hS])
 show(match itemsOf S _ with |some ds=>R.ok _ S|none=>.no)=_;rw[e2]
def aQ{l:Nat}{ds:Ug}(hS:S[l]? =some (.lst ds)):jI S (.val (.loc l))=some ds:=by unfold jI;dsimp only;rw[hS]
def tW{l:Nat}{ds:Ug}(hS:S[l]? =some (.lst ds)):PF (.val (.loc l)) S=.ok ⟨ds,[(l,ds)]⟩ S:=by unfold PF;dsimp only;rw[hS]
def aR{l:Nat}{ds:Ug}(hS:S[l]? =some (.lst ds)):stay [(l,ds)] S:=λp hp=>by
 have:=by simpa using hp
 subst this;exact hS
def sD{j:Int}(h: -(2 ^ 62)<=j/\j<2 ^ 62):aK [.val (.int j)] S=.ok ⟨(List.range j.toNat).map λk=>.int (k:Nat),[]⟩ S:=iP h
def cut_str{x:Db}(h:x.length<=sizeLine)(lo hi:Ub):BA (.val (.str x)) lo hi S=.ok (.val (.str (aG x lo hi))) S:=iP h
def ZC{α β:Type}(f:α->β)(x:List α)(lo hi:Ub):aG (x.map f) lo hi=(aG x lo hi).map f:=by unfold aG;rw[lM,map_take,map_drop]
def JF{α:Type}(x:List α)(k:Int)(h0:0<=k):aG x none (some k)=x.take k.toNat:=by
 unfold aG;have h1:HT.sIx x.length 0 none=0:=rfl;rw[h1];have h2:HT.sIx x.length x.length (some k)=min k.toNat x.length:=by unfold HT.sIx;simp only;split<;>omega
 rw[h2,List.drop_zero,Nat.sub_zero];by_cases hk:k.toNat<=x.length
 .rw[Nat.min_eq_left hk]
 .rw[Nat.min_eq_right (by omega),List.take_length,List.take_of_length_le (by omega)]
def fits{n:Nat}(h:n<=1000000):n<=sizeLine:=by rw[sizeLine_eq];exact Nat.le_trans h (by decide)
def vU{rs:List Er}(h:rs.length<=1000000):oV rs S=.ok (.new (zU rs S).1) (zU rs S).2:=iP (fits h)
def JG{rs:List Er}(h:rs.length<=1000000):lO rs S=.ok (.val (.tup (zU rs S).1)) (zU rs S).2:=iP (fits h)
def Qx(S:Sto):oV [] S=.ok (.new []) S:=vU (by simp)
def lst1(a:MV)(S:Sto):oV [.val a] S=.ok (.new [a]) S:=vU (by simp)
def lst2(a b:MV)(S:Sto):oV [.val a,.val b] S=.ok (.new [a,b]) S:=vU (by simp)
def lst3(a b c:MV)(S:Sto):oV [.val a,.val b,.val c] S=.ok (.new [a,b,c]) S:=vU (by simp)
def lst6(a b c d e f:MV)(S:Sto):oV [.val a,.val b,.val c,.val d,.val e,.val f] S=.ok (.new [a,b,c,d,e,f]) S:=vU (by simp)
def tup2(a b:MV)(S:Sto):lO [.val a,.val b] S=.ok (.val (.tup [a,b])) S:=JG (by simp)
def tup3(a b c:MV)(S:Sto):lO [.val a,.val b,.val c] S=.ok (.val (.tup [a,b,c])) S:=JG (by simp)
theorem ZD(i:Int)(S:Sto):pD [.val (.int i),.val (.typ "str")] S=.ok (.val (.bl false)) S:=rfl
theorem ZE(i:Db)(S:Sto):pD [.val (.str i),.val (.typ "str")] S=.ok (.val (.bl true)) S:=rfl
theorem Ml(i:Int)(S:Sto):pD [.val (.int i),.val (.typ "tuple")] S=.ok (.val (.bl false)) S:=rfl
theorem Mn(i:Db)(S:Sto):pD [.val (.str i),.val (.typ "tuple")] S=.ok (.val (.bl false)) S:=rfl
theorem ZF(i:Ug)(S:Sto):pD [.val (.tup i),.val (.typ "tuple")] S=.ok (.val (.bl true)) S:=rfl
theorem Mo(i:Bool)(S:Sto):pD [.val (.bl i),.val (.typ "bool")] S=.ok (.val (.bl true)) S:=rfl
theorem pF{gf:MV->Rho->Sto->R Rho}{cf:AZ}{ef:AX}{ρb:Rho}{gs:Uj}{F:MV->MV}(hs:stay gs S):
  ∀{ds:Ug},(∀d∈ds, ∃ρ1,gf d ρb S=.ok ρ1 S/\cf ρ1 S=.ok true S/\ef ρ1 S=.ok (.val (F d)) S)->kI gf cf ef ρb gs ds S=.ok (ds.map F) S
 |[],_=>rfl
 |d::ds,st=>by obtain⟨ρ1,h1,h2,h3⟩:=st d mF0;unfold kI;rw[h1,gT,aP,h2,gT,aP,iP rfl,h3,gT,aP];unfold jG;rw[aP,iP hs,(pF hs (ds:=ds) λd hd=>st d (mO _ hd))];rfl
def Nm(x:Db):Prop:=1<=x.length/\x.length<=8/\ ∀c∈x,97<=c/\c<=122
def Vl:MV->Prop
 |.int i=> -(10 ^ 30)<i/\i<10 ^ 30
 |.str x=>Nm x
 |_=>False
def Vl.cases{d:MV}(h:Vl d):(∃i,d=.int i/\ -(10 ^ 30)<i/\i<10 ^ 30)\/ ∃x,d=.str x/\Nm x:=by
 cases d with
 |int i=>exact .inl ⟨i,rfl,h⟩
 |str x=>exact .inr ⟨x,rfl,h⟩
 |_=>exact h.elim
def Vl.lo{d:MV}(h:Vl d)(n:Nat):lo n d:=by
 rcases h.cases with⟨i,rfl,_⟩|⟨x,rfl,_⟩
 .exact wA n i
 .exact YU n x
end
def Ite(K:Ud)(k:Bool)(l:Addr):It:=
 ⟨λi H=> ∃xs x,Fa k K H l xs/\xs[i]? =some x,
   λi H v H'=> ∃p x,H p=none/\v=.ref p/\H'=gH H p (.tup [.int (i:Nat),x])/\(∀xs,Fa k K H l xs->xs[i]? =some x),
   λi H=> ∃xs,Fa k K H l xs/\xs.length<=i⟩
section
variable{prog:Program}{w:World}{A:Around}{E:VP}{s:Shared}{k:Bool}{l:Addr}{its:Te}
def VL(hl:DQ k s.heap l its){Q:VP}
  (h: ∀h',EnSt k (s.heap.objs.size+1) s.heap.objs.size l 0 h'->(∀c o,s.heap.get? c=some o->h'.get? c=some o)->Q (.ref (s.heap.objs.size+1)) {s with heap:=h'}):
  wpAny (model prog w) A (call (.type "enumerate") [.ref l]) Q E s:=by
 refine callType_new F.called_enumerate (by decide) (F.typeCall_enumerate_1 _) (F.newCall_enumerate_1 _) (λobj=>F.args_object_init_2 obj _) F.entry_enumerate_new (PR k l its) ⟨hl,?_⟩;have he:=by have:=Heap.get?_push_size (s.heap.push (JE k l)) (o:={cls:=.type "enumerate",data:=.fields #[.none,.bool false,.ref s.heap.objs.size,rawInt 0,.none,.none]}) rfl;rw[(Heap.size_push ..)]at this;exact this
 refine⟨⟨_,he,rfl⟩,h _ ⟨⟨_,he⟩,IsSub.mk' (hP0 _ (Heap.get?_push_size _ rfl))⟩ λb o x=>hP0 _ (hP0 _ x)⟩
end
theorem VM{P:Program}{w:World}{K:Ud}{elts:Uc}{kt:Nat}{pt:Pos}{k:Bool}{e it l:Addr}(hne:e≠it):
  Turn P w K (.Tuple elts kt pt) (Ite K k l) [e,it] e (λi h=>EnSt k e it l i h) where
 mem:=by simp
 obj:=λi h st b hb=>by
  obtain⟨⟨old,he⟩,hs⟩:=st;rcases (by simpa using hb)with rfl|rfl
  .exact⟨_,he,λv q=>by cases q⟩
  .exact hs.there
 keep:=λi h h' st kk=>by obtain⟨⟨old,he⟩,hs⟩:=st;exact⟨⟨old,kk e (by simp) _ he⟩,hs.move λo q=>kk it (by simp) o q⟩
 item:=by
  intro X hP hw hK hc i pins s σ H E I hf st hg;subst hP hw hK;obtain⟨xs,x,q1,hx⟩:=hg;obtain⟨its,r1,p1,_⟩:=I.seqK q1;obtain⟨u,hu,ru⟩:=r1.get hx;obtain⟨⟨old,he⟩,hs⟩:=st;have hT:s.TypeIs (.ref e) "enumerate":=⟨_,he,rfl⟩
  refine wB (wpAny_attempt (wpAny_callSpecial?_slot hT F.slot_enumerate_next (wpAny_call_entry F.slot_enumerate_next hT F.entry_enumerate_next
   (Ff he hs p1 (by simpa using hu) hne λh' a1 a2 a3 a4=>wP ⟨_,rfl,?_⟩) (F.args_enumerate_next_1 _))))
  refine wpAny_letOwnedTupleGo_enum a1 λh2 z2 sb2=>?_
  have I0:Inv X pins σ _ {s with heap:=s.heap.push {cls:=.type "tuple",data:=.seq #[.int i s.toks,u]},toks:=s.toks+1}:=
   I.laid (o:=.tup [.int _,x]) (λb o e=>hP0 _ e) (Nat.le_refl _) ⟨by show 2<=sizeLine;decide,_,.cons ⟨_,rfl⟩ (.cons ru .nil),⟨_,Heap.get?_push_size _ rfl,rfl,_,rfl⟩⟩
  have lt: ∀b∈[e,it],b<s.heap.objs.size:=λb hb=>by
   rcases (by simpa using hb)with rfl|rfl
   .exact Heap.lt_size he
   .obtain⟨o,eo,_⟩:=hs.there;exact Heap.lt_size eo
  have fr: ∀b∈[e,it],gH H s.heap.objs.size (.tup [.int (i:Nat),x]) b=none:=λb hb=>by rw[zK (Nat.ne_of_lt (lt b hb))];exact(hf b hb).1
  have mv: ∀b o,b∉[e,it]->(s.heap.push {cls:=.type "tuple",data:=.seq #[.int i s.toks,u]}).get? b=some o->h2.get? b=some o:=λb o hb eo=>by
   simp only[mC,nM,or_false,not_or]at hb;refine sb2.extBut _ _ hb.1 ?_;by_cases hbs:b=s.heap.objs.size
   .subst hbs;rw[Heap.get?_push_size _ rfl]at eo;cases eo;exact a3
   .rw[Heap.get?_push_ne _ _ _ hbs]at eo;exact a4 b o hb.1 hb.2 eo
  refine⟨.ref s.heap.objs.size,_,(I0.turnedL (t':=s.toks+1) mv λb hb=>let ⟨_,c2,c3,c4,c5,c6⟩:=hf b hb;⟨fr b hb,c2,c3,c4,c5,c6⟩),rfl,⟨_,x,(I.hok.fresh (Nat.le_refl _)),rfl,rfl,λzs hz=>?_⟩,⟨⟨u,?_⟩,?_⟩,fr⟩
  .rw[I.seqK_inj hz q1];exact hx
  .simpa using z2
  .exact a2.move λo eo=>sb2.extBut _ _ (Ne.symm hne) eo
 done:=by
  intro X hP hw hK hc i pins s σ H E I hf st hg;subst hP hw hK;obtain⟨xs,q1,hx⟩:=hg;obtain⟨its,r1,p1,_⟩:=I.seqK q1;obtain⟨⟨old,he⟩,hs⟩:=st;have hT:s.TypeIs (.ref e) "enumerate":=⟨_,he,rfl⟩
  have e1:=r1.length;refine wB (wpAny_attempt (wpAny_callSpecial?_slot hT F.slot_enumerate_next (wpAny_call_entry F.slot_enumerate_next hT F.entry_enumerate_next ?_ (F.args_enumerate_next_1 _))));show wpAny _ _ (field _ 2 >>= _) _ _ _;refine wB (wpAny_field he rfl rfl ?_);refine wB (Ez (I.ok.hd hc) hs p1 (by simp;lia) λh' x hk hx'=>?_);obtain⟨o,ho,hcl⟩:=hx';refine wB (wpAny_isInstance ⟨o,ho,hcl⟩ isSubtype_stop (wP ⟨rfl,?_⟩));refine I.turnedL (λb o hb eo=>?_) hf;simp only[mC,nM,or_false,not_or]at hb;exact hk b o hb.2 eo
 self:=λ_ _ _ _ _ st h=>let ⟨⟨_,he⟩,_⟩:=st;wpAny_pyIter_enum he h
def Qy(K:Ud)(ta:TA):TI:=λσ H R=>ta σ H λvs H1=> ∃k l,vs=[.ref l]/\(∃xs,Fa k K H1 l xs)/\R (Ite K k l) H1
section
variable{X:Cx}{W:XW}{a:Expr}{elts:Uc}{kt:Nat}{pt p pos:Pos}{ta:TA}{af:Rho->Sto->R (List Er)}
def Ft(hg:Gl X "enumerate")(hm:X.mg "enumerate"=none)(ha:PA X [a] ta)(hs:starEach [a] X.env=[(false,eval a X.env)]:=by rfl):
  PI X (.Tuple elts kt pt) (.Call (.Name "enumerate" p) [a] [] pos) (Qy X.K ta):=by
 intro pins s σ H R I h;refine Call_ (rN I hg hm Fe (PyProof.Rows.callWith_type1 (wO (ha pos pins s σ H _ I h) λus s1 ⟨vs,H1,I1,r1,q1⟩=>?_) (by rw[hs];rfl) (by rfl)));obtain⟨k,l,rfl,⟨xs,c1⟩,q⟩:=q1
 cases r1 with
 |cons r rr=>
  cases rr;cases r;obtain⟨its,v1,p1,_⟩:=I1.seqK c1;refine VL p1 λh' st hk=>let ⟨⟨_,he⟩,_⟩:=id st;wpAny_pyIter_enum he ?_;refine⟨_,_,_,_,H1,rfl,(I1.kept hk),VM (Nat.ne_of_gt (Nat.lt_succ_self _)),st,λb hb=>?_,q⟩;have hle:s1.heap.objs.size<=b:=by rcases (by simpa using hb)with h|h<;>rw[h]<;>(first |exact Nat.le_refl _|exact Nat.le_add_right _ _)
  exact I1.fpOk hle (I1.hok.fresh hle)
def BC(xs:Ug):List MV:=xs.zipIdx.map λp=>.tup [.int (p.2:Nat),p.1]
def Bw(rs:List Er)(S:Sto):R Wk:=match rs with
 |[p]=>match srcOf S p with
  |some a=>.ok ⟨BC a.ds,a.gs⟩ S
  |none=>.no
 |_=>.no
theorem JH(hg:Gl X "enumerate")(hm:X.mg "enumerate"=none)(ha:GY X W [a] af)(hs:starEach [a] X.env=[(false,eval a X.env)]:=by rfl):
  LH X W (.Tuple elts kt pt) (.Call (.Name "enumerate" p) [a] [] pos) (λρ S=>(af ρ S).bind Bw):=by
 obtain⟨t,ha,k⟩:=ha;refine⟨_,Ft hg hm ha hs,λα ρ S σ H Rc wd sl q=>k α ρ S σ H _ wd sl (q.bind λvs rs S1 α1 H1 e x1 w1 d1 q1=>?_)⟩
 replace q1:=q1.shift x1
 unfold Bw at q1;split at q1
 .rename_i r1;split at q1
  .rename_i s1 e1;obtain⟨u,rfl,du⟩:=DI d1;obtain⟨l1,P1,rfl,p1,D1⟩:=PQ w1 e1 du;have hlen:(BC s1.ds).length=s1.ds.length:=by unfold BC;rw[lM,List.length_zipIdx]
   refine⟨s1.k,l1,rfl,⟨_,(D1.get _ _ _ p1).choose_spec.1⟩,q1.here w1 ⟨λα S H=>P1 α S H,?_,p1,?_,?_⟩⟩
   .intro i α2 S2 H2 b1 w2;obtain⟨us,c1,c2⟩:=D1.get _ _ _ b1;have hl:=c2.length;refine⟨λhi=>?_,λhi=>?_⟩
    .have hi:=hi;refine⟨⟨us,_,c1,gE (by lia)⟩,?_⟩;rintro x H' ⟨pp,xx,hp,rfl,rfl,hx⟩;obtain⟨d,hd,dd⟩:=c2.get (hx us c1);have xn:=w2.newx (o:=.tup [.int (i:Nat),xx]) hp;have wn:=w2.new (o:=.tup [.int (i:Nat),xx]) hp;refine⟨xn,wn,D1.stays _ _ _ _ _ _ b1 xn wn (D1.st _ _ _ b1),.tup [.int (i:Nat),d],?_,?_⟩
     .unfold BC;rw[getElem?_map,List.getElem?_zipIdx,hd];simp
     .exact lN (.of zZ) (yA (yV _) (yA (dd.ext xn) yF))
    .have hi:=hi;exact⟨us,c1,by lia⟩
   .intro α1 S1 H1 α2 S2 H2 b1 x w hs;exact D1.stays _ _ _ _ _ _ b1 x w hs
   .exact D1.st _ _ _ p1
  .exact q1.elim
 .exact q1.elim
end
instance:DecidableEq MV:=λ_ _=>Classical.propDecidable _
def look(kvs:Uk)(k:MV):Option MV:=(kvs.find? λp=>decide (p.1=k)).map (·.2)
def putK(kvs:Uk)(k d:MV):List (MV×MV):=if(look kvs k).isSome=true then kvs.map (λp=>if p.1=k then(p.1,d)else p)else kvs++[(k,d)]
def fQ:MV->Bool
 |.tup _=>true
 |_=>false
theorem LV:xH .non=some (.key none):=by unfold xH;rfl
theorem aS(i:Int):xH (.int i)=some (.key (some (.inl i))):=by unfold xH;rfl
theorem aT(x:Db):xH (.str x)=some (.key (some (.inr (bN x)))):=by unfold xH;rfl
def aU(ds:Ug):xH (.tup ds)=(jB ds).map .tup:=by
 conv=>lhs;unfold xH
theorem qE:jB []=some []:=by unfold jB;rfl
def aV(d:MV)(ds:Ug):jB (d::ds)=(xH d).bind λk=>(jB ds).map (k::·):=by
 conv=>lhs;unfold jB
mutual
theorem tX: ∀{d e:MV}{k:NK},xH d=some k->xH e=some k->d=e
 |.int i,e,k,hd,he=>by
  rw[aS]at hd;cases hd
  cases e with
  |int j=>rw[aS]at he;cases he;rfl
  |str x=>rw[aT]at he;cases he
  |tup ds=>rw[aU]at he;cases z:jB ds<;>rw[z]at he<;>cases he
  |_=>unfold xH at he;cases he
 |.str x,e,k,hd,he=>by
  rw[aT]at hd;cases hd
  cases e with
  |int j=>rw[aS]at he;cases he
  |str y=>
   rw[aT]at he;have he:=Option.some.inj he;injection he with he
   injection he with he
   injection he with he
   rw[BM he]
  |tup ds=>rw[aU]at he;cases z:jB ds<;>rw[z]at he<;>cases he
  |_=>unfold xH at he;cases he
 |.tup ds,e,k,hd,he=>by
  rw[aU]at hd
  cases z:jB ds with
  |none=>rw[z]at hd;cases hd
  |some ks=>
   rw[z]at hd;cases hd
   cases e with
   |int j=>rw[aS]at he;cases he
   |str y=>rw[aT]at he;cases he
   |tup es=>
    rw[aU]at he
    cases z2:jB es with
    |none=>rw[z2]at he;cases he
    |some ks'=>rw[z2]at he;cases he;rw[HI z z2]
   |_=>unfold xH at he;cases he
 |.non,e,k,hd,he=>by
  rw[LV]at hd;cases hd
  cases e with
  |non=>rfl
  |int j=>rw[aS]at he;cases he
  |str x=>rw[aT]at he;cases he
  |tup ds=>rw[aU]at he;cases z:jB ds<;>rw[z]at he<;>cases he
  |_=>unfold xH at he;cases he
 |.bl _,e,k,hd,he=>by unfold xH at hd;cases hd
 |.scr _,e,k,hd,he=>by unfold xH at hd;cases hd
 |.loc _,e,k,hd,he=>by unfold xH at hd;cases hd
 |.typ _,e,k,hd,he=>by unfold xH at hd;cases hd
 |.obj _ _ _,e,k,hd,he=>by unfold xH at hd;cases hd
 |.clo _ _,e,k,hd,he=>by unfold xH at hd;cases hd
theorem HI: ∀{ds es:Ug}{ks:List NK},jB ds=some ks->jB es=some ks->ds=es
 |[],es,ks,hd,he=>by
  rw[qE]at hd;cases hd
  cases es with
  |nil=>rfl
  |cons e es=>
   rw[aV]at he;cases z:xH e<;>rw[z]at he
   .cases he
   .cases z2:jB es<;>rw[z2]at he<;>cases he
 |d::ds,es,ks,hd,he=>by
  rw[aV]at hd
  cases z:xH d with
  |none=>rw[z]at hd;cases hd
  |some k=>
   rw[z]at hd
   cases z2:jB ds with
   |none=>rw[z2]at hd;cases hd
   |some ks2=>
    rw[z2]at hd
    cases es with
    |nil=>rw[qE]at he;cases he;cases hd
    |cons e es=>
     rw[aV]at he
     cases z3:xH e with
     |none=>rw[z3]at he;cases he
     |some k'=>
      rw[z3]at he
      cases z4:jB es with
      |none=>rw[z4]at he;cases he
      |some ks4=>
       rw[z4]at he;cases hd;cases he;rw[tX z z3,HI z2 z4]
end
section
variable{X:Cx}{pins:Tk}{σ:St}{H:Hp}{s:Shared}{α:Tg}
mutual
theorem DS(I:Inv X pins σ H s): ∀{d:MV}{k:NK}{x:V}{u:Value},xH d=some k->Den X.K α H d x->RelV x u->FY (mk X.prog X.w) s.heap k u
 |.int i,k,x,u,hk,hd,r=>by rw[aS]at hk;cases hk;cases yW hd;obtain⟨t,rfl⟩:=r;exact xZ.mpr (by show iI (.inl i) (.int i t)=true;simp[iI,Value.isInt])
 |.str y,k,x,u,hk,hd,r=>by rw[aT]at hk;cases hk;cases xU hd;obtain⟨t,rfl⟩:=r;exact xZ.mpr (by show iI (.inr (bN y)) (.str (bN y) t)=true;simp[iI,Value.isStrOf])
 |.tup ds,k,x,u,hk,hd,r=>by
  rw[aU]at hk
  cases z:jB ds with
  |none=>rw[z]at hk;cases hk
  |some ks=>
   rw[z]at hk;cases hk;obtain⟨a,vs,rfl,sq,l⟩:=xC hd;cases r;obtain⟨its,rv,pt,_⟩:=I.tuple sq;obtain⟨o,ho,hc,n,hdat⟩:=pt;exact xR.mpr ⟨a,o,its.toArray,n,rfl,ho,hc,hdat,by simpa using RY I z l rv⟩
 |.non,k,x,u,hk,hd,r=>by rw[LV]at hk;cases hk;cases bQ hd;cases r;exact xZ.mpr rfl
 |.bl _,k,x,u,hk,hd,r=>by unfold xH at hk;cases hk
 |.scr _,k,x,u,hk,hd,r=>by unfold xH at hk;cases hk
 |.loc _,k,x,u,hk,hd,r=>by unfold xH at hk;cases hk
 |.typ _,k,x,u,hk,hd,r=>by unfold xH at hk;cases hk
 |.obj _ _ _,k,x,u,hk,hd,r=>by unfold xH at hk;cases hk
 |.clo _ _,k,x,u,hk,hd,r=>by unfold xH at hk;cases hk
theorem RY(I:Inv X pins σ H s): ∀{ds:Ug}{ks:List NK}{xs:List V}{us:Td},jB ds=some ks->DenL X.K α H ds xs->Vals xs us->oX (mk X.prog X.w) s.heap ks us
 |[],ks,xs,us,hk,hd,r=>by rw[qE]at hk;cases hk;cases hd.isnil;cases r;exact wL.mpr rfl
 |d::ds,ks,xs,us,hk,hd,r=>by
  rw[aV]at hk;obtain⟨v,vs,rfl,a,l⟩:=hd.uncons
  cases r with
  |cons r1 r2=>
   cases z:xH d with
   |none=>rw[z]at hk;cases hk
   |some k=>
    rw[z]at hk
    cases z2:jB ds with
    |none=>rw[z2]at hk;cases hk
    |some ks2=>
     rw[z2]at hk;cases hk;exact yH.mpr ⟨_,_,rfl,DS I z a r1,RY I z2 l r2⟩
end
def DD(X:Cx)(H:Hp)(d:Addr)(xs:List (NK×Addr×Value)):Prop:=H d=some (DN X.prog X.w d xs)\/(xs=[]/\H d=some (.dK []))
def DD.nf{d:Addr}{xs:List (NK×Addr×Value)}(h:DD X H d xs): ∀ob u,H d≠some (.frz ob u):=h.elim (λz=>Os z) λz=>by first |exact Os z.2|exact z.elim
def Qz{S:Sto}{kvs:Uk}{d:Addr}(ob:ObD X.g α H d (.dic kvs))(hk:kvs.all (λp=>fQ p.1)=true): ∃xs,DD X H d xs/\DenN X.K α H kvs xs:=by
 rcases ob with⟨ks,h,l⟩|⟨xs,h,l⟩
 .cases l with
  |nil=>exact⟨[],.inr ⟨rfl,h⟩,.nil⟩
  |@cons k k' dd v fs gs hkd a l=>
   rw[List.all_cons,aE]at hk
   cases k with
   |tup ds=>exact absurd hkd (by unfold KeyD;exact λz=>z)
   |_=>exact absurd hk.1 xF0
 .exact⟨xs,.inl h,l⟩
theorem RZ(I:Inv X pins σ H s): ∀{kvs:Uk}{xs:List (NK×Addr×Value)},DenN X.K α H kvs xs-> ∀x∈xs,(iO X.prog X.w).is s.heap x.1 x.2.1
 |_,_,.nil=>λx hx=>by simp at hx
 |_,_,.cons k e a d r l=>λx hx=>by
  rcases mC.mp hx with rfl|hx
  .exact⟨DS I k a rfl,e⟩
  .exact RZ I l x hx
def BU(I:Inv X pins σ H s){kvs:Uk}{xs:List (NK×Addr×Value)}{d:Addr}(h:DD X H d xs)(l:DenN X.K α H kvs xs):s.heap.DictOfH (iO X.prog X.w) d xs/\xs.length<=sizeLine/\(d==sysModules)=false:=by
 rcases h with h|⟨rfl,h⟩
 .obtain⟨⟨hz,hs,o,es,ep,ho,hc,hd,he,hn⟩,_⟩:=(I.hok d _ h)
  exact⟨⟨o,es,ep,ho,hc,hd,he,RZ I l,hn⟩,hz,hs⟩
 .obtain⟨_,hs,vs,kv,o,es,ep,ho,hc,hd,_,hp,_⟩:=(I.hok d _ h)
  cases kv;have he:es.toList=[]:=by cases hes:es.toList with |nil=>rfl|cons a b=>rw[hes]at hp;cases hp
  exact⟨⟨o,es,ep,ho,hc,hd,by rw[he];rfl,λx hx=>by simp at hx,nodup_nil⟩,zero_le _,hs⟩
def bW(p:MV×MV)(kvs:Uk)(k:MV):look (p::kvs) k=if p.1=k then some p.2 else look kvs k:=by
 unfold look;rw[List.find?_cons];by_cases h:p.1=k
 .rw[dT0 h,iP h];rfl
 .rw[dF0 h,iN h]
def sE(x:NK×Addr×Value)(xs:List (NK×Addr×Value))(k:NK):atKey (x::xs) k=if x.1=k then some x.2 else atKey xs k:=by
 unfold atKey;rw[List.find?_cons];by_cases h:x.1=k
 .rw[dT0 h,iP h];rfl
 .rw[dF0 h,iN h]
theorem BV: ∀{kvs:Uk}{xs:List (NK×Addr×Value)}{k:MV}{nk:NK},DenN X.K α H kvs xs->xH k=some nk->(atKey xs nk).isSome=(look kvs k).isSome
 |_,_,k,nk,.nil,hk=>rfl
 |_,_,k,nk,.cons (k:=k') (nk:=nk') hk' e a d r l,hk=>by
  rw[bW,sE];by_cases h:k'=k
  .subst h;have:=by rw[hk]at hk';exact(Option.some.inj hk').symm
   rw[iP this,iP rfl];rfl
  .have:nk'≠nk:=λz=>h (tX hk' (by rw[hk,z]));rw[iN this,iN h];exact BV l hk
theorem JI: ∀{kvs:Uk}{xs:List (NK×Addr×Value)}{k d:MV}{nk:NK}{v:V}{u:Value},DenN X.K α H kvs xs->xH k=some nk->Den X.K α H d v->RelV v u->DenN X.K α H (kvs.map λp=>if p.1=k then(p.1,d)else p) (xs.map (putAt nk u))
 |_,_,k,d,nk,v,u,.nil,hk,hd,r=>.nil
 |_,_,k,d,nk,v,u,.cons (k:=k') (nk:=nk') hk' e a dd rr l,hk,hd,r=>by
  rw[List.map_cons,List.map_cons];unfold putAt;by_cases h:k'=k
  .have hn:=by subst h;rw[hk]at hk';exact(Option.some.inj hk').symm
   rw[iP h,iP hn];exact .cons hk' e a hd r (JI l hk hd r)
  .have hn:nk'≠nk:=λz=>h (tX hk' (by rw[hk,z]));rw[iN h,iN hn];exact .cons hk' e a dd rr (JI l hk hd r)
def DenN.append: ∀{kvs kvs':Uk}{xs xs':List (NK×Addr×Value)},DenN X.K α H kvs xs->DenN X.K α H kvs' xs'->DenN X.K α H (kvs++kvs') (xs++xs'):=λhh=>by
 induction hh with
 |nil=>exact(λh=>h)
 |cons hk e a d r l ih=>exact(λh=>.cons hk e a d r (ih h))
def SD{kvs:Uk}{xs:List (NK×Addr×Value)}{k d:MV}{nk:NK}{a:Addr}{v:V}{u:Value}(l:DenN X.K α H kvs xs)(hk:xH k=some nk)(e:iL nk<=4)(ha:Den X.K α H k (.ref a))(hd:Den X.K α H d v)(r:RelV v u):DenN X.K α H (putK kvs k d) (storedH xs nk a u):=by
 unfold putK;have hl:=BV l hk;by_cases h:(look kvs k).isSome=true
 .rw[iP h];rw[h]at hl;obtain⟨p,hp⟩:=Option.isSome_iff_exists.mp hl;rw[storedH_old hp];exact JI l hk hd r
 .rw[iN h]
  have hn:atKey xs nk=none:=by
   cases z:atKey xs nk with
   |none=>rfl
   |some p=>rw[z]at hl;exact absurd hl.symm h
  rw[storedH_new hn];exact l.append (.cons hk e ha hd r .nil)
end
section
variable{X:Cx}{W:XW}{a b o i:Expr}{f g:AX}{pos:Pos}
def Mp{pins:Tk}{σ:St}{H:Hp}{s:Shared}(I:Inv X pins σ H s):sysModules<s.heap.objs.size:=lt_trans (by decide) ((I.mod.glob.keeps I.bk).lt)
theorem Wd.put{gg:Gm}{α:Tg}{S:Sto}{H:Hp}{p:Addr}{ho:HO}{m:MO}(w:Wd gg α S H)(hp:H p=none)(q:ObD gg (α++[p]) (gH H p ho) p m):Ext α H (α++[p]) (gH H p ho)/\Wd gg (α++[p]) (S++[m]) (gH H p ho):=by
 have x:=w.newx (o:=ho) hp;refine⟨⟨⟨⟨[p],rfl⟩,x.tup,x.frz⟩,λb hb=>?_,x.keep,x.has⟩,⟨?_,?_,λl c ob h1 h2=>?_⟩⟩
 .rcases List.mem_append.mp hb with h|h
  .exact .inl h
  .rw[mS.mp h];exact .inr hp
 .rw[lA,lA,w.len];rfl
 .exact nodup_append.mpr ⟨w.nd,by simp,λa ha c hc=>by rw[mS.mp hc];rintro rfl;exact(w.fresh hp) ha⟩
 .by_cases hl:l<α.length
  .rw[getElem?_append_left hl]at h1;rw[getElem?_append_left (by rw[<-w.len];exact hl)]at h2;exact((w.new (o:=ho) hp).obj l c ob h1 h2).move (Ex0.grow α [p] _) rfl
  .have hl':l=α.length:=by
    have:=(gS0.mp h1).1;rw[lA,lS]at this
    lia
   subst hl';rw[getElem?_append_right (Nat.le_refl _),sub_self]at h1;rw[getElem?_append_right (by rw[w.len];exact Nat.le_refl _),w.len,sub_self]at h2;cases h1;cases h2;exact q
def SE(S:Sto):R Er:=.ok (.val (.loc S.length)) (S++[.dic []])
def LW:zT X W (.Dict [] [] pos) (λ_ S=>SE S):=by
 refine⟨λσ H Q=> ∀p,H p=none->Q (.ref p) (gH H p (.dK [])),λpins s σ H Q I h=>?_,λα ρ S σ H Q wd sl q p hp=>?_⟩
 .exact wpAny_Dict_empty ⟨.ref s.heap.objs.size,_,I.laid (o:=.dK []) (λ_ _ q=>hP0 _ q) (Nat.le_refl _)
   ⟨zero_le _,beq_eq_false_iff_ne.mpr (Ne.symm (Nat.ne_of_lt (Mp I))),[],.nil,Heap.DictOf.new s.heap⟩,rfl,h _ (I.hok.fresh (Nat.le_refl _))⟩
 .obtain⟨x,w'⟩:=wd.put (m:=.dic []) hp (.inl ⟨[],zZ,.nil⟩);exact q _ _ _ x w' (DenE.val (BO (by rw[<-wd.len,getElem?_append_right (Nat.le_refl _),sub_self];rfl)))
def pG(S:Sto):Er->Option (Nat×List (MV×MV))
 |.val (.loc l)=>match S[l]? with
  |some (.dic kvs)=>if kvs.all (λp=>fQ p.1)=true then some (l,kvs)else none
  |_=>none
 |_=>none
def keyOk(k:MV):Bool:=fQ k&&(match xH k with |some nk=>decide (iL nk<=4)|none=>false)
def DT{k:MV}(h:keyOk k=true): ∃nk,xH k=some nk/\iL nk<=4/\fQ k=true:=by
 unfold keyOk at h;rw[aE]at h
 cases z:xH k with
 |none=>rw[z]at h;exact absurd h.2 xF0
 |some nk=>rw[z]at h;exact⟨nk,rfl,of_decide_eq_true h.2,h.1⟩
def DU{α:Tg}{S:Sto}{H:Hp}(wd:Wd X.g α S H){r:Er}{x:V}{l:Nat}{kvs:Uk}(e:pG S r=some (l,kvs))(d:DenX X.K α H r x):
  ∃c xs,x=.ref c/\α[l]? =some c/\S[l]? =some (.dic kvs)/\DD X H c xs/\DenN X.K α H kvs xs:=by
 unfold pG at e;split at e
 .rename_i n;obtain⟨c,rfl,h⟩:=rU d;split at e
  .rename_i ks hS;split at e
   .rename_i hk;obtain⟨rfl,rfl⟩:=Prod.mk.inj (Option.some.inj e);obtain⟨xs,dd,l⟩:=Qz (S:=S) (wd.obj _ c _ h hS) hk;exact⟨c,xs,rfl,h,hS,dd,l⟩
   .cases e
  .cases e
 .cases e
abbrev Ra(X:Cx)(neg:Bool):R2:=λx y H Q=> ∃(α:Tg)(kvs:Uk)(xs:List (NK×Addr×Value))(a d:Addr)(k:MV)(nk:NK),x=.ref a/\y=.ref d/\DD X H d xs/\DenN X.K α H kvs xs/\xH k=some nk/\iL nk<=4/\Den X.K α H k (.ref a)/\
 Q (.bl (if neg=true then !(look kvs k).isSome else(look kvs k).isSome)) H
def GC{prog:Program}{w:World}{KK:Type}[DecidableEq KK]{knd:HeapKind prog w KK}{A:Around}{E:VP}{s:Shared}{d a:Addr}{k:KK}{xs:List (KK×Addr×Value)}{Q:Bool->Shared->Prop}(hu:knd.room A.in1)(hkey:knd.is s.heap k a)(hd:(d==sysModules)=false)
  (hm:s.heap.DictOfH knd d xs) (h:Q (atKey xs k).isSome {s with toks:=s.toks+knd.draws k}):wpAny (model prog w) A (contains (.ref d) (.ref a)) Q E s:=by
 unfold contains
 try with_reducible refine wpAny_holding ?_
 refine wB (wpAny_specialOf hm.typeIs slot_dict_contains.lookup ?_);show wpAny _ _ (if(some (Value.builtin "dict.__contains__")==some Value.none)=true then _ else _) _ E s;rw[iN (by rw[beq_builtin_none];exact xF0)];refine wB (wpAny_callSpecialUnlessNone?_slot (name:=Str.ofString "__contains__") hm.typeIs slot_dict_contains (wpAny_call_entry slot_dict_contains hm.typeIs entry_dict_contains ?_ (args_dict_contains _ _)));show wpAny _ _ (dictGet d (.ref a) >>= _) _ _ s;refine wB (wpAny_dictGet_heap hu hkey hm ?_)
 cases hf:atKey xs k with
 |some p=>
  rw[hf]at h;show wpAny _ _ (ret (.bool true)) _ _ _;exact wP ⟨_,rfl,wpAny_truthy_bool h⟩
 |none=>
  rw[hf]at h;show wpAny _ _ (Builtin.Dict.pendingKey? d (.ref a) >>= _) _ _ _;exact wB (wpAny_pendingKey_other hd (wP ⟨_,rfl,wpAny_truthy_bool h⟩))
theorem Mq(hu:X.A.units+64<cLine):OpR X (compareOp .In) (Ra X false):=by intro pins s σ H x y v u Q I rx ry h;obtain⟨α,kvs,xs,a,d,k,nk,rfl,rfl,dd,l,hk,e,ha,q⟩:=h;cases rx;cases ry;obtain⟨hm,_,hs⟩:=BU I dd l;show wpAny _ _ (do return Value.bool (<-contains (.ref d) (.ref a))) _ _ s;refine wB (GC (knd:=iO X.prog X.w) (show X.A.units+1+4<cLine by omega) ⟨DS I hk ha rfl,e⟩ hs hm (wP ⟨.bl (look kvs k).isSome,H,I.kept (t':=_) (λ_ _ z=>z),?_,q⟩));rw[BV l hk];rfl
def VN(neg:Bool)(p q:Er)(S:Sto):R Er:=match p with
 |.val k=>match pG S q with
  |some (_,kvs)=>if keyOk k=true then .ok (.val (.bl (if neg=true then !(look kvs k).isSome else(look kvs k).isSome))) S else .no
  |none=>.no
 |_=>.no
def JK{α:Tg}{H:Hp}{k:MV}{x:V}(h:fQ k=true)(d:Den X.K α H k x): ∃a,x=.ref a:=by
 cases k with
 |tup ds=>obtain⟨a,_,rfl,_⟩:=xC d;exact⟨a,rfl⟩
 |_=>exact absurd h xF0
def Fv{neg:Bool}:HA X W (Ra X neg) (VN neg):=by
 intro p q x y α S H Q wd dp dq post;unfold VN at post;split at post
 .rename_i k;split at post
  .rename_i l kvs e;split at post
   .rename_i hk;obtain⟨nk,h1,h2,h3⟩:=DT hk;obtain⟨c,xs,rfl,_,_,dd,dl⟩:=DU wd e dq;obtain⟨a',rfl⟩:=JK (X:=X) (α:=α) (H:=H) h3 dp;exact⟨α,kvs,xs,a',c,k,nk,rfl,rfl,dd,dl,h1,h2,dp,Post.val post wd (jF _)⟩
   .exact post.elim
  .exact post.elim
 .exact post.elim
def Mr(hu:X.A.units+64<cLine)(ha:zT X W a f)(hb:zT X W b g)(hm:behindInMarks .In b=false:=by with_unfolding_all rfl):qV X W (.Compare a [.In] [b] pos) (λρ S=>((f ρ S).bind λp S1=>(g ρ S1).bind λq S2=>VN false p q S2).bind eZ):=rV (Mq hu) Fv ha hb hm
def Rb(X:Cx):TSet:=λo i v H Q=> ∃(α:Tg)(kvs:Uk)(xs:List (NK×Addr×Value))(a d:Addr)(k:MV)(nk:NK),o=.ref d/\i=.ref a/\DD X H d xs/\DenN X.K α H kvs xs/\xH k=some nk/\iL nk<=4/\Den X.K α H k (.ref a)/\xs.length<sizeLine/\
 ∀u,RelV v u->Q (gH H d (DN X.prog X.w d (storedH xs nk a u)))
def DV{xs:List (NK×Addr×Value)}{k:NK}{a:Addr}{u:Value}:(storedH xs k a u).length<=xs.length+1:=by
 cases h:atKey xs k with
 |none=>rw[storedH_new h,lA];exact Nat.le_refl _
 |some p=>rw[storedH_old h,lM];exact le_succ _
theorem VO(hu:X.A.units+64<cLine):Pm X (Rb X):=by
 intro pins s σ H o i v ov iv u Q I ro ri rv h;obtain⟨α,kvs,xs,a,d,k,nk,rfl,rfl,dd,l,hk,e,ha,hz,q⟩:=h;cases ro;cases ri;obtain⟨hm,hz',hs⟩:=BU I dd l;refine wpAny_setItem_heap (knd:=iO X.prog X.w) (show X.A.units+1+4<cLine by omega) ⟨DS I hk ha rfl,e⟩ hm (λh' hm' hs'=>⟨_,?_,q u rv⟩) hz';have mu:Oq (H d):=by rcases dd with z|⟨_,z⟩<;>rw[z]<;>exact trivial
 obtain⟨ob,es,ep,ho,hc,hd,he,_,hn⟩:=hm';refine I.write mu (.inl rfl) (λb uo hb eo=>(hs'.2 b hb).trans eo) ⟨ob,ho⟩ ?_;refine⟨⟨by have:=DV (xs:=xs) (k:=nk) (a:=a) (u:=u);lia,hs,ob,es,ep,ho,hc,hd,he,hn⟩,⟨ob,ho⟩,?_⟩;rintro h1 h2 ⟨z1,z2,o',es',ep',ho',r⟩ mv;exact⟨z1,z2,o',es',ep',mv o' ho',r⟩
def LX(p q:Er)(d:MV)(ρ:Rho)(S:Sto):R Rho:=match q with
 |.val k=>match pG S p with
  |some (l,kvs)=>if keyOk k=true/\kvs.length<1000000 then .ok ρ (S.set l (.dic (putK kvs k d)))else .no
  |none=>.no
 |_=>.no
def DenN.length{α:Tg}{H:Hp}: ∀{kvs xs},DenN X.K α H kvs xs->xs.length=kvs.length:=λhh=>by
 induction hh with
 |nil=>exact rfl
 |cons _ _ _ _ _ l ih=>exact by rw[lC,lC,ih]
def Fw(hu:X.A.units+64<cLine)(ho:zT X W o f)(hi:zT X W i g)
  (ha: ∀v,assign (.Subscript o i pos) X.env v=(do
   let ov <-holding [v] (eval o X.env);let iv <-holding [v,ov] (eval i X.env)
   standAt pos
   holding [v,ov,iv] (setItem ov iv v)
   release [v,ov,iv] []):=by intro _;rfl):Hz X W (.Subscript o i pos) (λd ρ S=>(f ρ S).bind λp S1=>(g ρ S1).bind λq S2=>LX p q d ρ S2):=by
 obtain⟨to,ho,fo⟩:=ho;obtain⟨ti,hi,fi⟩:=hi;refine⟨_,Kb ho hi (VO hu) ha,λα ρ S σ H d v Q wd sl de q=>fo α ρ S σ H _ wd sl (q.bind λu p S1 α1 H1 e1 x1 w1 d1 q1=>fi α1 ρ S1 σ H1 _ w1 (sl.ext x1) ((q1.shift x1).bind λu2 p2 S2 α2 H2 e2 x2 w2 d2 q2=>?_))⟩
 replace q2:=q2.shift x2
 unfold LX at q2;split at q2
 .rename_i k;split at q2
  .rename_i l kvs e;split at q2
   .rename_i hk;obtain⟨nk,h1,h2,h3⟩:=DT hk.1;obtain⟨c,xs,rfl,hc,hS,dd,dl⟩:=DU w2 e (DenX.ext x2 d1.1);obtain⟨a',rfl⟩:=JK h3 d2.1;refine⟨α2,kvs,xs,a',c,k,nk,rfl,rfl,dd,dl,h1,h2,d2.1,?_,λu ru=>?_⟩
    .rw[dl.length];exact Nat.lt_of_lt_of_le hk.2 (fits (Nat.le_refl _))
    .have xw:=w2.writex hc dd.nf (o:=DN X.prog X.w c (storedH xs nk a' u));exact q2 σ α2 _ xw (w2.write hc dd.nf (.inr ⟨_,zZ,(SD dl h1 h2 d2.1 ((de.ext x1).ext x2) ru).ex0 xw.toEx0⟩)) (((sl.ext x1).ext x2).ext xw)
   .exact q2.elim
  .exact q2.elim
 .exact q2.elim
end
def FsD(g:Gm)(α:Tg)(H:Hp)(d:Option Addr)(fs:List (Str×MV)):Prop:=fs=[]\/ ∃dx gs od,d=some dx/\H dx=some (.frz od (.xd gs))/\DenF g.K α H fs gs
abbrev WE(g:Gm)(E:XK):XW:=λc fs _ α H=> ∀C d,g.mg c=some (.ref C)->FsD g α H d fs->E (.ref C) d H
def Ms:MV->Bool
 |.non=>true
 |.bl _=>true
 |.int _=>true
 |.str _=>true
 |_=>false
def Post.wmono{β τ:Type}[Dn β τ]{g:Gm}{W W':XW}{α:Tg}{H:Hp}(f: ∀c fs S α' H',W c fs S α' H'->W' c fs S α' H'): ∀{m:R β}{Q:τ->Hp->Prop},Post g W α H m Q->Post g W' α H m Q
 |.ok b S,Q,q=>q
 |.exc c fs S,_,q=>λα' H' x w=>f _ _ _ _ _ (q α' H' x w)
 |.no,_,q=>q
def XCl(K:Ud)(C:Addr)(bm:Td)(init:Option Value):Prop:=
 ∃nm q N bs hd sn sub ab col dd k0 k1 k2 k3 k5,K.lookup C=some (excClassObj nm q C N bs bm hd sn sub ab col dd k0 k1 k2 k3 k5 "ValueError.__new__")/\PySem.W.nsOkIn K N=true/\PySem.W.nsIn K N "__init__"=some init/\(∀n∈qn,PySem.W.nsIn K N n=some none)/\hd=true
def XEach(K:Ud)(mg:Ti)(M:Addr):List (Str×Addr)->Prop
 |[]=>True
 |(c,C)::r=>(mg c=some (.ref C)/\ ∃i,XCl K C (.ref M::Ss) i)/\XEach K mg M r
theorem XEach.at{K:Ud}{mg:Ti}{M:Addr}: ∀{cs:List (Str×Addr)},XEach K mg M cs-> ∀{c C},(c,C)∈cs->mg c=some (.ref C)/\ ∃i,XCl K C (.ref M::Ss) i
 |_::r,h,c',C',z=>by
  rcases mC.mp z with z|z
  .cases z;exact h.1
  .exact XEach.at h.2 z
def Sw(g:Gm)(n:Nat)(F:List MV->Sto->R Er):Sp:=λvs H Q E=> ∃α S ds,Wd g α S H/\DenL g.K α H ds vs/\ds.length=n/\Post g (WE g E) α H (F ds S) Q
def SF(n:Nat)(F:List MV->Sto->R Er)(rs:List Er)(S:Sto):R Er:=if rs.length=n then(match F (zU rs S).1 (zU rs S).2 with
 |.ok r S2=>aL S r S2
 |.exc c fs S2=>if fs.all (λp=>Ms p.2)=true then(aL S (.val .non) S2).bind λ_ S3=>.exc c fs S3 else .exc c fs S2
 |.no=>.no)else .no
section
variable{P:Program}{w:World}{K:Ud}{mg:Ti}{base:Heap}
def _root_.L2.FnOk.noX{k n:Nat}{f:Addr}{fd:FuncData}{ps:Th}{g:Gm}{F:List MV->Sto->R Er}(G:FnOk P w K mg base (CXe P w) k f fd ps (Sw g n F)):FnOk P w K mg base vE k f fd ps (LK g n F):=by
 have up: ∀{vs H Q}, ∀{E},LK g n F vs H Q E->Sw g n F vs H Q E0:=λ⟨α,S,ds,h1,h2,h3,h4⟩=>⟨α,S,ds,h1,h2,h3,h4.wmono λ_ _ _ _ _ z=>z.elim⟩
 refine⟨λvs H Q E h=>G.len vs H Q E0 (up h),λA outer s H args us vs Q E hr e0 hb hv h=>codeAny_mono (G.run A outer s H args us vs Q E0 hr e0 hb hv (up h)) λr s' hq=>?_⟩
 cases r with
 |error e=>
  obtain⟨_,_,_,_,_,_,_,_,_,_,_,_,_,_,_,z⟩:=hq;exact z
 |ok fl=>cases fl<;>exact hq
end
end M
end L2
namespace L2
open PySem PySem.Spec PyProof.Rows
structure Out(X:Cx)(pins:Tk)(H:Hp)(s:Shared)(b:Addr):Prop where
 s0:X.s₀.heap.get? b=none
 h:H b=none
 pin: ∀p∈X.pn++pins,p.1≠b
 fld: ∃o vs,s.heap.get? b=some o/\o.data=.fields vs
section
variable{X:Cx}{pins:Tk}{σ:St}{H:Hp}{s:Shared}{e b:Addr}
def Out.ne(o:Out X pins H s b){c:Addr}{oc:Obj}(hc:s.heap.get? c=some oc)(nf: ∀vs,oc.data≠.fields vs):c≠b:=λz=>by obtain⟨ob,vs,h1,h2⟩:=o.fld;rw[z,h1]at hc;cases hc;exact nf vs h2
def Out.loc(o:Out X pins H s b)(I:Inv X pins σ H s):X.env.locals≠b:=by obtain⟨m,⟨oL,es,ep,h1,h2,_⟩,_⟩:=I.loc;exact o.ne h1 λvs z=>by rw[h2]at z;cases z
def HdA(A:Around)(H:Hp):Prop:= ∃e ob u,A.handled=some (.ref e)/\H e=some (.frz ob u)/\ ∃vs,ob.data=.fields vs/\vs[2]? =some .none
end
end L2
namespace L2
namespace M
open PySem PySem.Spec PyProof.Rows
def endF(i:Nat):Fl->Sto->R Fl
 |.next ρ,S=>.ok (.next (ρ.set i none)) S
 |.ret r,S=>.ok (.ret r) S
 |.brk ρ,S=>.ok (.brk (ρ.set i none)) S
 |.cont ρ,S=>.ok (.cont (ρ.set i none)) S
def Mt(ns:Th)(i:Nat)(kn:Er->Sto->R Fl)(Fh:AY)(ρ:Rho):R Er->R Fl
 |.ok r S=>kn r S
 |.exc c fs S=>if c∈ns then(noX (Fh (ρ.set i (some (.loc S.length))) (S++[.ins c fs]))).bind (endF i)else .no
 |.no=>.no
end M
end L2
namespace Srt
open PySem PyProof.Rows
def SH:Bool->Keyed->Array Keyed->Nat->Nat->Nat->StateT SortSt Sem (Option Nat):=sortPriv% PySem.Builtin.gallop
def GD:Nat->StateT SortSt Sem Unit:=sortPriv% PySem.Builtin.setMinGallop
end Srt
set_option autoImplicit false
namespace Srt
variable{β:Type}{le:β->β->Prop}
structure Two(le:β->β->Prop)(T out xs ys:List β):Prop where
 hx:(out++xs).Pairwise le
 hy:(out++ys).Pairwise le
 pm:(out++(xs++ys)).Perm T
structure TwoR(le:β->β->Prop)(T xs ys R:List β):Prop where
 hx:(xs++R).Pairwise le
 hy:(ys++R).Pairwise le
 pm:(xs++ys++R).Perm T
end Srt
namespace Srt
open PySem PyProof.Rows
abbrev SM:=StateT SortSt Sem
abbrev G3:=Option (Option Nat)×Nat×Nat
end Srt
namespace Srt
open PySem PyProof.Rows
section
variable{lt:Keyed->Keyed->Bool}
abbrev Le(lt:Keyed->Keyed->Bool)(x y:Keyed):Prop:=lt y x=false
def SL(lt:Keyed->Keyed->Bool)(l:List Keyed)(b n:Nat):Prop:= ∀i j x y,i<=j->j<n->l[b+i]? =some x->l[b+j]? =some y->lt y x=false
end
end Srt
namespace Srt
open PySem PyProof.Rows
abbrev V:=Array Keyed
abbrev L6:=Option V×V×Nat×Nat×Nat×Nat
abbrev L7:=Option V×V×Nat×Nat×Nat×Nat×Nat
abbrev dnL(a b o:V)(i j:Nat):V:=o++a.extract i a.size++b.extract j b.size
abbrev laL(a b o:V)(i j:Nat):V:=o++b.extract j b.size++a.extract i a.size
def one1(a b:V)(g:Nat)(c:L6):SM (ForInStep L6):=
 elem' b c.2.2.2.1 >>= λy=>elem' a c.2.2.1 >>= λx=>lt' y x >>= λr=>match r with
  |some q=>if q=true then elem' b c.2.2.2.1 >>= λy=>
     if(c.2.2.2.1+1==b.size)=true then pure (.done (some (dnL a b (c.2.1.push y) c.2.2.1 (c.2.2.2.1+1)),c.2.1.push y,c.2.2.1,c.2.2.2.1+1,0,c.2.2.2.2.2+1))
     else if c.2.2.2.2.2+1>=g then pure (.done (none,c.2.1.push y,c.2.2.1,c.2.2.2.1+1,0,c.2.2.2.2.2+1))
     else pure (.yield (none,c.2.1.push y,c.2.2.1,c.2.2.2.1+1,0,c.2.2.2.2.2+1))
    else elem' a c.2.2.1 >>= λx=>
     if(c.2.2.1+1+1==a.size)=true then pure (.done (some (laL a b (c.2.1.push x) (c.2.2.1+1) c.2.2.2.1),c.2.1.push x,c.2.2.1+1,c.2.2.2.1,c.2.2.2.2.1+1,0))
     else if c.2.2.2.2.1+1>=g then pure (.done (none,c.2.1.push x,c.2.2.1+1,c.2.2.2.1,c.2.2.2.2.1+1,0))
     else pure (.yield (none,c.2.1.push x,c.2.2.1+1,c.2.2.2.1,c.2.2.2.2.1+1,0))
  |_=>pure (.done (some (dnL a b c.2.1 c.2.2.1 c.2.2.2.1),c.2.1,c.2.2.1,c.2.2.2.1,c.2.2.2.2.1,c.2.2.2.2.2))
def in1(a b:V)(t g:Nat)(c:L6):SM L6:=forIn [0:t] c λ_ c=>one1 a b g c
end Srt
namespace Srt
open PySem PyProof.Rows
def Sg(st st':SortSt):Prop:= ∃g,st'=SortSt.mk' (kindOf st) (arrOf st) (pendingOf st) g (failedOf st)
theorem Sg.kind{st st':SortSt}(h:Sg st st'):kindOf st'=kindOf st:=by obtain⟨g,rfl⟩:=h;rfl
section
variable{lt:Keyed->Keyed->Bool}{a b:V}
abbrev TwoA(lt:Keyed->Keyed->Bool)(a b o:V)(i j:Nat):Prop:=Two (Le lt) (a.toList++b.toList) o.toList (a.toList.drop i) (b.toList.drop j)
def FinA(lt:Keyed->Keyed->Bool)(a b r:V):Prop:=r.toList.Pairwise (Le lt)/\r.toList.Perm (a.toList++b.toList)
def TwoA.sa{o:V}{i j:Nat}(h:TwoA lt a b o i j):(a.toList.drop i).Pairwise (Le lt):=(pairwise_append.mp h.hx).2.1
def TwoA.len{o:V}{i j:Nat}(h:TwoA lt a b o i j):o.size+((a.size - i)+(b.size - j))=a.size+b.size:=by have:=h.pm.length_eq;simpa [lA,List.length_drop]using this
def I1(lt:Keyed->Keyed->Bool)(a b o:V)(i j:Nat):Prop:=i+1<a.size/\j<b.size/\TwoA lt a b o i j
def N7(lt:Keyed->Keyed->Bool)(a b:V)(n:Nat)(c:L7):Prop:= ∃o i j g p q,c=(none,o,i,j,g,p,q)/\I1 lt a b o i j/\n<=o.size
def P7(lt:Keyed->Keyed->Bool)(a b:V)(n:Nat)(c:L7):Prop:=(∃r e,c=(some r,e)/\FinA lt a b r)\/N7 lt a b n c
end
end Srt
namespace Srt
open PySem PyProof.Rows
abbrev H5:=Option V×Nat×Nat×V×Nat
abbrev H6:=Option V×Nat×Nat×V×Nat×Nat
abbrev H7:=Option V×Nat×Nat×V×Nat×Nat×Nat
abbrev Re(a b o:V)(i j:Nat):V:=a.extract 0 i++b.extract 0 j++o.reverse
abbrev fbH(a b o:V)(i j:Nat):V:=b.extract 0 j++a.extract 0 i++o.reverse
def hw4(a b o:V)(i j g p q:Nat):SM (ForInStep H7):=
 elem' a (i - 1) >>= λx=>if(i - 1==0)=true then pure (.done (some (Re a b (o.push x) (i - 1) j),i - 1,j,o.push x,g,p,q))
  else if(decide (p<7)&&decide (q<7))=true then pure (.done (none,i - 1,j,o.push x,g,p,q))else pure (.yield (none,i - 1,j,o.push x,g,p,q))
def hw3(a b o:V)(i j g p q:Nat):SM (ForInStep H7):=
 elem' b (j - 1) >>= λy=>if(j - 1==1)=true then pure (.done (some (fbH a b (o.push y) i (j - 1)),i,j - 1,o.push y,g,p,q))
  else elem' a (i - 1) >>= λx=>SH true x b 0 (j - 1) (j - 1 - 1) >>= λr=>match r with
   |some k=>if j - 1 - k>0 then
      if(k==1)=true then pure (.done (some (fbH a b (o.push y++(b.extract k (j - 1)).reverse) i k),i,k,o.push y++(b.extract k (j - 1)).reverse,g,p,j - 1 - k))
      else if(k==0)=true then pure (.done (some (Re a b (o.push y++(b.extract k (j - 1)).reverse) i k),i,k,o.push y++(b.extract k (j - 1)).reverse,g,p,j - 1 - k))
      else hw4 a b (o.push y++(b.extract k (j - 1)).reverse) i k g p (j - 1 - k)
     else hw4 a b (o.push y) i (j - 1) g p (j - 1 - k)
   |_=>pure (.done (some (Re a b (o.push y) i (j - 1)),i,j - 1,o.push y,g,p,q))
def hw2(a b o:V)(i j g p q:Nat):SM (ForInStep H7):=
 GD g >>= λ_=>elem' b (j - 1) >>= λy=>SH false y a 0 i (i - 1) >>= λr=>match r with
  |some k=>if i - k>0 then
     if(k==0)=true then pure (.done (some (Re a b (o++(a.extract k i).reverse) k j),k,j,o++(a.extract k i).reverse,g,i - k,q))
     else hw3 a b (o++(a.extract k i).reverse) k j g (i - k) q
    else hw3 a b o i j g (i - k) q
  |_=>pure (.done (some (Re a b o i j),i,j,o,g,p,q))
def Rf(a b:V)(t:Nat)(c:H7):SM H7:=forIn [0:t] c λ_ c=>
 if c.2.2.2.2.1>1 then hw2 a b c.2.2.2.1 c.2.1 c.2.2.1 (c.2.2.2.2.1 - 1) c.2.2.2.2.2.1 c.2.2.2.2.2.2
 else hw2 a b c.2.2.2.1 c.2.1 c.2.2.1 c.2.2.2.2.1 c.2.2.2.2.2.1 c.2.2.2.2.2.2
section
variable{lt:Keyed->Keyed->Bool}{a b:V}
abbrev TwoH(lt:Keyed->Keyed->Bool)(a b o:V)(i j:Nat):Prop:=TwoR (Le lt) (a.toList++b.toList) (a.toList.take i) (b.toList.take j) o.toList.reverse
def TwoH.sa{o:V}{i j:Nat}(h:TwoH lt a b o i j):(a.toList.take i).Pairwise (Le lt):=(pairwise_append.mp h.hx).1
theorem TwoH.len{o:V}{i j:Nat}(h:TwoH lt a b o i j)(h1:i<=a.size)(h2:j<=b.size):o.size+(i+j)=a.size+b.size:=by
 have:=h.pm.length_eq;simp only[lA,lT,List.length_reverse,Array.length_toList]at this
 lia
def J1(lt:Keyed->Keyed->Bool)(a b o:V)(i j:Nat):Prop:=1<=i/\i<=a.size/\2<=j/\j<=b.size/\TwoH lt a b o i j
def R6(lt:Keyed->Keyed->Bool)(a b:V)(n:Nat)(c:H6):Prop:= ∃i j o p q,c=(none,i,j,o,p,q)/\J1 lt a b o i j/\n<=o.size
def S6(lt:Keyed->Keyed->Bool)(a b:V)(n:Nat)(c:H6):Prop:=(∃r e,c=(some r,e)/\FinA lt a b r)\/R6 lt a b n c
def R7(lt:Keyed->Keyed->Bool)(a b:V)(n:Nat)(c:H7):Prop:= ∃i j o g p q,c=(none,i,j,o,g,p,q)/\J1 lt a b o i j/\n<=o.size
end
end Srt
namespace Srt
open PySem PyProof.Rows
abbrev C2:=Option (Option Nat)×Nat
def Kx(d:Keyed)(v:V)(i:Nat):Keyed:=(v[i]?).getD d
structure SB(a₀:V)(kd:SortKind)(pd:Array (Nat×Nat×Nat))(f:V)(lo:Nat)(st:SortSt):Prop where
 pm:(arrOf st).Perm a₀
 kind:kindOf st=kd
 fl:failedOf st=none
 pd:pendingOf st=pd
 fx: ∀i,i<lo->(arrOf st)[i]? =f[i]?
section
variable{kd:SortKind}{lt:Keyed->Keyed->Bool}{a₀ f:V}{pd:Array (Nat×Nat×Nat)}{lo:Nat}{st:SortSt}{d:Keyed}
def SB.size(h:SB a₀ kd pd f lo st):(arrOf st).size=a₀.size:=h.pm.size_eq
def Up(lt:Keyed->Keyed->Bool)(d:Keyed)(v:V)(lo n:Nat):Prop:= ∀i j,i<=j->j<n->Le lt (Kx d v (lo+i)) (Kx d v (lo+j))
def Dn(lt:Keyed->Keyed->Bool)(d:Keyed)(v:V)(lo n:Nat):Prop:= ∀i j,i<=j->j<n->Le lt (Kx d v (lo+j)) (Kx d v (lo+i))
end
end Srt
namespace Srt
open PySem PyProof.Rows
section
variable{kd:SortKind}{lt:Keyed->Keyed->Bool}{a₀:V}{pd:Array (Nat×Nat×Nat)}{lo:Nat}{st:SortSt}{d:Keyed}
def Up.sl{v:V}{n:Nat}(h:Up lt d v lo n):SL lt v.toList lo n:=by
 intro i j x y h1 h2 hx hy;have e1:Kx d v (lo+i)=x:=by unfold Kx;rw[<-Array.getElem?_toList,hx];rfl
 have e2:Kx d v (lo+j)=y:=by unfold Kx;rw[<-Array.getElem?_toList,hy];rfl
 have:=h i j h1 h2;rw[e1,e2]at this;exact this
structure Out(a₀:V)(kd:SortKind)(lt:Keyed->Keyed->Bool)(n:Nat)(st:SortSt):Prop where
 pm:(arrOf st).toList.Perm a₀.toList
 kind:kindOf st=kd
 fl:failedOf st=none
 pd: ∃w,pendingOf st=#[(0,n,w)]
 so:(arrOf st).toList.Pairwise (Le lt)
end
end Srt
namespace Srt
open PySem PyProof.Rows
abbrev Rn:=Nat×Nat×Nat
def RunsOk(lt:Keyed->Keyed->Bool)(l:List Keyed):Nat->List Rn->Nat->Prop
 |p,[],q=>p=q
 |p,r::rs,q=>r.1=p/\1<=r.2.1/\SL lt l p r.2.1/\RunsOk lt l (p+r.2.1) rs q
section
variable{lt:Keyed->Keyed->Bool}{l:List Keyed}
theorem RunsOk.le: ∀{rs:List Rn}{p q:Nat},RunsOk lt l p rs q->p+rs.length<=q
 |[],p,q,h=>by cases h;exact Nat.le_refl _
 |r::rs,p,q,h=>by
  have:=RunsOk.le h.2.2.2;have:=h.2.1;rw[lC]
  lia
end
section
variable{kd:SortKind}{lt:Keyed->Keyed->Bool}{a₀:V}{st:SortSt}
structure ST(a₀:V)(kd:SortKind)(lt:Keyed->Keyed->Bool)(rs:List Rn)(q:Nat)(st:SortSt):Prop where
 pm:(arrOf st).toList.Perm a₀.toList
 kind:kindOf st=kd
 fl:failedOf st=none
 pd:pendingOf st=rs.toArray
 ok:RunsOk lt (arrOf st).toList 0 rs q
 le:q<=a₀.size
def ST.size{rs:List Rn}{q:Nat}(h:ST a₀ kd lt rs q st):(arrOf st).size=a₀.size:=by have:=h.pm.length_eq;simpa using this
end
end Srt
namespace L2
namespace M
open PySem PySem.Spec PyProof.Rows
mutual
def dF:MV->Bool
 |.int _=>true
 |.str _=>true
 |.tup ds=>AK ds
 |_=>false
def AK:List MV->Bool
 |[]=>true
 |d::ds=>dF d&&AK ds
end
section
variable{X:Cx}{α:Tg}{H:Hp}{pins:Tk}{σ:St}{s:Shared}
mutual
theorem SI(I:Inv X pins σ H s): ∀{d d':MV}{v:V},dF d=true->dF d'=true->Den X.K α H d v->Den X.K α H d' v->d=d'
 |.int i,d',v,_,h',q,q'=>by
  cases yW q
  cases d' with
  |int j=>cases yW q';rfl
  |str x=>cases xU q'
  |tup ds=>obtain⟨a,vs,e,_⟩:=xC q';cases e
  |_=>simp[dF]at h'
 |.str x,d',v,_,h',q,q'=>by
  have e:=xU q
  cases d' with
  |int j=>rw[yW q']at e;cases e
  |str y=>rw[xU q']at e;injection e with e;rw[BM e]
  |tup ds=>obtain⟨a,vs,e',_⟩:=xC q';rw[e']at e;cases e
  |_=>simp[dF]at h'
 |.tup ds,d',v,h,h',q,q'=>by
  obtain⟨a,vs,e,t,l⟩:=xC q
  cases d' with
  |int j=>rw[yW q']at e;cases e
  |str y=>rw[xU q']at e;cases e
  |tup es=>
   obtain⟨a',vs',e',t',l'⟩:=xC q';rw[e]at e';cases e';have:=I.tuple_inj t t';subst this;rw[LY I (by unfold dF at h;exact h) (by unfold dF at h';exact h') l l']
  |_=>simp[dF]at h'
theorem LY(I:Inv X pins σ H s): ∀{ds es:Ug}{vs:List V},AK ds=true->AK es=true->DenL X.K α H ds vs->DenL X.K α H es vs->ds=es
 |[],[],_,_,_,_,_=>rfl
 |[],e::es,_,_,_,q,q'=>by obtain⟨v,r,e,_⟩:=q'.uncons;rw[q.isnil]at e;cases e
 |d::ds,[],_,_,_,q,q'=>by obtain⟨v,r,e,_⟩:=q.uncons;rw[q'.isnil]at e;cases e
 |d::ds,e::es,_,h,h',q,q'=>by obtain⟨v,r,rfl,a,l⟩:=q.uncons;obtain⟨v',r',e',a',l'⟩:=q'.uncons;cases e';unfold AK at h h';rw[aE]at h h';rw[SI I h.1 h'.1 a a',LY I h.2 h'.2 l l']
end
inductive KindD:Bool->MV->Prop
 |t (es r):KindD true (.tup (.tup es::r))
 |e:KindD false (.tup [])
end
structure OrdD(S:Sto)(ks:Ug):Prop where
 any: ∀a,a∈ks-> ∀b,b∈ks-> ∃t,WU S zH a b=some t
 tr: ∀a,a∈ks-> ∀b,b∈ks-> ∀c,c∈ks->WU S zH b a=some false->WU S zH c b=some false->WU S zH c a=some false
 as: ∀a,a∈ks-> ∀b,b∈ks->WU S zH a b=some true->WU S zH b a=some false
section
variable{α:Tg}{S:Sto}{H:Hp}
def Mu{g:Gm}{α α':Tg}{S:Sto}{H H':Hp}(w:Wd g α S H)(x:Ext α H α' H')(w':Wd g α' S H'):α'=α:=by obtain⟨t,e⟩:=x.pre;have h1:=w.len;have h2:=w'.len;rw[e,lA]at h2;have:t=[]:=List.length_eq_zero_iff.mp (by omega);rw[e,this,aN]
end
section
variable{X:Cx}{α:Tg}{H:Hp}{pins:Tk}{σ:St}{s:Shared}
def JL(K:Ud)(α:Tg)(H:Hp)(kds:Ug)(u:Value):MV:=
 open Classical in if h: ∃d v,d∈kds/\Den K α H d v/\RelV v u then Classical.choose h else kds.headD .non
def Fx{K:Ud}{kds:Ug}(hne:kds≠[])(u:Value):JL K α H kds u∈kds:=by
 unfold JL;split
 .rename_i h;obtain⟨v,h1,_⟩:=Classical.choose_spec h;exact h1
 .match kds,hne with
  |x::l,_=>exact mF0
def ZG{K:Ud}{kds:Ug}{u:Value}(h: ∃d v,d∈kds/\Den K α H d v/\RelV v u): ∃v,Den K α H (JL K α H kds u) v/\RelV v u:=by unfold JL;rw[dif_pos h];obtain⟨v,_,h2,h3⟩:=Classical.choose_spec h;exact⟨v,h2,h3⟩
def Mv(I:Inv X pins σ H s){kds:Ug}{kvs:List V}{ks:Td}(hpu: ∀d,d∈kds->dF d=true)(dk:DenL X.K α H kds kvs)(vk:Vals kvs ks){i:Nat}{u:Value}{a:MV}(hu:ks[i]? =some u)(ha:kds[i]? =some a):
  JL X.K α H kds u=a:=by
 obtain⟨v,hv,da⟩:=dk.at ha;obtain⟨u',hu',r⟩:=vk.get hv;rw[hu]at hu';cases hu';have ma:=mem_of_getElem? ha;have ne:kds≠[]:=λz=>by rw[z]at ma;cases ma
 obtain⟨v',d',r'⟩:=ZG ⟨a,v,ma,da,r⟩;rw[r'.inj r]at d';exact SI I (hpu _ (Fx ne u)) (hpu a ma) d' da
end
structure SrtOk(Fd:List MV->Sto->R Er)(S:Sto)(ds kds:Ug)(b:Bool):Prop where
 len:ds.length<128
 kl:kds.length=ds.length
 call: ∀(m:Nat) d kd,ds[m]? =some d->kds[m]? =some kd->zQ 1 Fd [.val d] S=.ok (.val kd) S
 pu: ∀d,d∈kds->dF d=true
 kind: ∀d,d∈kds->KindD b d
 ord:OrdD S kds
open Classical in
def DW(S:Sto)(d:MV):List MV->Option Nat
 |[]=>none
 |x::xs=>(eqv S zH x d).bind λk=>if k=true then some 0 else(DW S d xs).map (· +1)
open Classical in
def HK(p:Er)(rs:List Er)(S:Sto):R Er:=match rs with
 |[.val d]=>match jI S p with
  |some ds=>if∀x,x∈ds->dF x=true/\(eqv S zH x d).isSome=true then(match DW S d ds with |some j=>.ok (.val (.int (j:Nat))) S|none=>.no)else .no
  |none=>.no
 |_=>.no
theorem HL{S:Sto}{d:MV}: ∀{ds:Ug}{j:Nat},DW S d ds=some j->(∃x,ds[j]? =some x/\eqv S zH x d=some true)/\ ∀m x,m<j->ds[m]? =some x->eqv S zH x d=some false
 |[],j,h=>by cases h
 |x::xs,j,h=>by
  unfold DW at h
  cases z:eqv S zH x d with
  |none=>rw[z]at h;cases h
  |some k=>
   rw[z]at h;have h:(if k=true then some 0 else(DW S d xs).map _)=some j:=h
   cases k with
   |true=>
    cases h;exact⟨⟨x,rfl,z⟩,λm y hm _=>by lia⟩
   |false=>
    cases zz:DW S d xs with
    |none=>rw[zz]at h;cases h
    |some i=>
     rw[zz]at h;cases h;obtain⟨⟨y,h1,h2⟩,h3⟩:=HL zz;refine⟨⟨y,by simpa using h1,h2⟩,λm w hm hw=>?_⟩
     cases m with
     |zero=>simp at hw;subst hw;exact z
     |succ m=>exact h3 m w (Nat.lt_of_succ_lt_succ hm) (by simpa using hw)
section
variable{X:Cx}{W:XW}{a e:Expr}{es:Uc}{f:AX}{af:Rho->Sto->R (List Er)}{pos apos:Pos}
theorem Fy(hu:X.A.units+64<cLine):Hx X "list.index" (λx xs H Q=> ∃α S l vs ds d y j,x=.ref l/\xs=[y]/\Wd X.g α S H/\SqL X.K H l vs/\DenL X.K α H ds vs/\Den X.K α H d y/\(∀x,x∈ds->dF x=true/\(eqv S zH x d).isSome=true)/\DW S d ds=some j/\Q (.int (j:Nat)) H):=by
 intro pins s σ H x xs v us Q I rx rs h;obtain⟨α,S,l,vs,ds,d,y,j,rfl,rfl,wd,sq,dl,dd,hp,hj,q⟩:=h;cases rx;obtain⟨u,rfl,ru⟩:=rs.one;obtain⟨its,rv,⟨o,n,e0,hc,hd0,hd⟩,hz⟩:=I.list sq;obtain⟨cls,dct,dat,slt⟩:=o;subst hc hd hd0;obtain⟨⟨x,hx,ex⟩,hno⟩:=HL hj;have hln:=sizeLine_eq;have hjl:j<its.length:=by rw[<-rv.length,dl.length];exact(gS0.mp hx).1
 have hpu:=λx hx=>(hp x hx).1
 have at_: ∀m (hm:m<its.length), ∃x,ds[m]? =some x/\JL X.K α H ds its[m]=x:=λm hm=>by
  have hm':m<ds.length:=by rw[<-dl.length,rv.length];exact hm
  exact⟨ds[m],gE hm',Mv I hpu dl rv (gE hm) (gE hm')⟩
 refine call_meets PySem.F.slot_list_index ⟨_,e0,rfl⟩ PySem.F.entry_list_index (PySem.F.args_list_index_2 _ _)
  (SeqAt.list_indexAt l its.toArray n _ _ u (λw=>(eqv S zH (JL X.K α H ds w) d).getD false) j (by simpa using hjl) (by have:=rv.length;lia) ?_ ?_) ⟨e0,λw hw=>?_,?_⟩
 .obtain⟨x',h1,h2⟩:=at_ j hjl;show(eqv S zH (JL X.K α H ds its[j]) d).getD false=true;rw[h2];rw[hx]at h1;cases h1;rw[ex];rfl
 .intro m hm hlt;have hm':=by simpa using hm
  obtain⟨x',h1,h2⟩:=at_ m hm';show(eqv S zH (JL X.K α H ds its[m]) d).getD false=false;rw[h2,hno m x' hlt h1];rfl
 .have hw':=by simpa using hw
  obtain⟨m,hm,rfl⟩:=List.mem_iff_getElem.mp hw';obtain⟨x',h1,h2⟩:=at_ m hm;obtain⟨xv,h3,h4⟩:=dl.at h1;obtain⟨w',h5,h6⟩:=rv.get h3;rw[gE hm]at h5;cases h5;have hs:=(hp x' (mem_of_getElem? h1)).2;obtain⟨kk,hk⟩:=Option.isSome_iff_exists.mp hs;show SeqAt.EqAt _ _ _ _ _;rw[h2,hk];exact DO I wd zH X.A.in1 x' d xv y _ _ kk (by unfold zH;show X.A.units+1+40<cLine;lia) h4 dd h6 ru hk
 .exact⟨.int _,H,I.tok _,⟨_,rfl⟩,q⟩
def Ga:YD X W (λx xs H Q=> ∃α S l vs ds d y j,x=.ref l/\xs=[y]/\Wd X.g α S H/\SqL X.K H l vs/\DenL X.K α H ds vs/\Den X.K α H d y/\(∀x,x∈ds->dF x=true/\(eqv S zH x d).isSome=true)/\DW S d ds=some j/\Q (.int (j:Nat)) H) HK:=by
 intro p rs x vs α S H0 H Q α0 wd x0 dp da post
 replace post:=post.shift x0
 unfold HK at post;split at post
 .split at post
  .rename_i ds el;split at post
   .rename_i hp;split at post
    .rename_i j hj;obtain⟨v,rfl,dv⟩:=DI da;obtain⟨l,xs,rfl,sq,dl⟩:=dS rfl wd el dp;exact⟨α,S,l,xs,ds,_,v,j,rfl,rfl,wd,sq,dl,dv,hp,hj,Post.val post wd (yV _)⟩
    .exact post.elim
   .exact post.elim
  .exact post.elim
 .exact post.elim
def Gb(hu:X.A.units+64<cLine)(ho:zT X W a f)(ha:GY X W (e::es) af)
  (hbase:attributeBase a "index" X.env (eval a X.env)=eval a X.env:=by rfl)
  (hfew:((backTo pos (starEach (e::es) X.env)).all (λx=>!x.1)&&(backToKw pos (keywordEach [] X.env)).all (λx=>x.1.isSome)
   &&decide ((e::es).length+([]:List Keyword).length+(if([]:List Keyword).isEmpty then 0 else 1)<30))=true:=by rfl)
  (hline:(apos.endLine==pos.line)=true:=by rfl) (hs:starEach (e::es) X.env=(false,eval e X.env)::starEach es X.env:=by rfl) (hplain:(backTo pos (starEach es X.env)).any (·.1)=false:=by rfl):
  zT X W (.Call (.Attribute a "index" apos) (e::es) [] pos) (λρ S=>(f ρ S).bind λp S1=>if aO p S1=true then(af ρ S1).bind λrs S2=>HK p rs S2 else .no):=
 IU PySem.F.plainAttrs_list PySem.F.slot_list_index PySem.F.type_list_index (Fy hu) Ga YQ ho ha hbase hfew hline hs hplain
end
section
variable{X:Cx}{a:Expr}{H:Hp}{α:Tg}
def DenK.append: ∀{kvs kvs':Uk}{xs xs':List (Key×V)},DenK X.K α H kvs xs->DenK X.K α H kvs' xs'->DenK X.K α H (kvs++kvs') (xs++xs'):=λhh=>by
 induction hh with
 |nil=>exact(λh=>h)
 |cons hk a l ih=>exact(λh=>.cons hk a (ih h))
def DenK.length: ∀{kvs:Uk}{xs:List (Key×V)},DenK X.K α H kvs xs->xs.length=kvs.length:=λhh=>by
 induction hh with
 |nil=>exact rfl
 |cons _ _ l ih=>exact by rw[lC,lC,ih]
def DK(X:Cx)(H:Hp)(d:Addr)(ks:List (Key×V)):Prop:=H d=some (.dK ks)\/(ks=[]/\H d=some (DN X.prog X.w d []))
def DK.nf{d:Addr}{ks:List (Key×V)}(h:DK X H d ks): ∀ob u,H d≠some (.frz ob u):=h.elim (λz=>Os z) λz=>by first |exact Os z.2|exact z.elim
end
def StrAt(val:Nat->Key)(i:Nat)(v:Value):Prop:=(∃x t,val i=.inr x/\v=.str x t)\/ ∃x t,val i=.inl x/\v=.int x t
def StrAt.is{P:Program}{w:World}{val:Nat->Key}{i:Nat}{v:Value}(h:StrAt val i v):(lK P w).is (val i) v=true/\v.scannable=true:=by
 rcases h with⟨x,t,e,rfl⟩|⟨x,t,e,rfl⟩<;>rw[e]
 .exact⟨AB P w x t,rfl⟩
 .exact⟨KN P w x t,rfl⟩
abbrev wM(led:Bool):Obj:={cls:=.type "set",dict:=none,data:=.set #[] 0 (.fresh 0 0 led)}
def Mw:bootBuiltins "set"=some (.type "set"):=by decide+kernel
section
variable{X:Cx}{o e:Expr}{es:Uc}{apos pos:Pos}{to:TE}{t:TA}{T:String}{name:Str}{id:String}{r:V->List V->Hp->VK->Prop}
def sF(X:Cx)(T:String)(TY:V->Hp->Prop):Prop:= ∀(pins:Tk)(s:Shared)(σ:St)(H:Hp)(x:V)(v:Value),Inv X pins σ H s->RelV x v->TY x H->s.TypeIs v T/\ ∀a,v=.ref a-> ∃ob,s.heap.get? a=some ob/\ob.dict=none
def Mx{TY:V->Hp->Prop}(hTY:sF X T TY)(pa:PlainAttrs T)(slot:Slot T name id)(hty:typeOf (.builtin id)=pure (.type "method_descriptor"))(hm:Hx X id r)(ho:PE X o to)(ha:PA X (e::es) t)
  (hbase:attributeBase o name X.env (eval o X.env)=eval o X.env)
  (hfew:((backTo pos (starEach (e::es) X.env)).all (λx=>!x.1)&&(backToKw pos (keywordEach [] X.env)).all (λx=>x.1.isSome)
   &&decide ((e::es).length+([]:List Keyword).length+(if([]:List Keyword).isEmpty then 0 else 1)<30))=true)
  (hline:(apos.endLine==pos.line)=true) (hs:starEach (e::es) X.env=(false,eval e X.env)::starEach es X.env) (hplain:(backTo pos (starEach es X.env)).any (·.1)=false):
  PE X (.Call (.Attribute o name apos) (e::es) [] pos) (λσ H Q=>to σ H λx H1=>TY x H1/\t σ H1 λvs H2=>r x vs H2 Q):=by
 intro pins s σ H Q I h;refine wpAny_Call_method_late hbase hfew hline rfl (wO (ho pins s σ H _ I h) λv s1 ⟨x,H1,I1,r1,ty,q1⟩=>?_);obtain⟨h1,h2⟩:=hTY pins s1 σ H1 x v I1 r1 ty;refine⟨T,id,pa,slot,hty,h1,h2,?_⟩;have hA:=ha pos pins s1 σ H1 _ I1 q1;rw[hs]at hA ⊢;refine Calls.callWith_builtin (by show(false || (backTo pos _).any (·.1))=false;rw[hplain]<;>rfl) (Calls.evalArgs_plain ?_);exact wO hA λus s2 ⟨vs,H2,I2,r2,q2⟩=>hm pins s2 σ H2 x vs v us Q I2 r1 r2 q2
def TyD(X:Cx)(x:V)(H:Hp):Prop:= ∃d xs,x=.ref d/\DD X H d xs
def JM:sF X "dict" (TyD X):=by
 intro pins s σ H x v I rx ⟨d,xs,e,dd⟩;subst e;cases rx;rcases dd with h|⟨rfl,h⟩
 .obtain⟨⟨hz,hs,o,es,ep,ho,hc,_⟩,_⟩:=(I.hok d _ h)
  exact⟨⟨o,ho,hc.1⟩,λa e=>by cases e;exact⟨o,ho,hc.2.1⟩⟩
 .obtain⟨_,hs,vs,kv,o,es,ep,ho,hc,_⟩:=(I.hok d _ h)
  exact⟨⟨o,ho,hc.1⟩,λa e=>by cases e;exact⟨o,ho,hc.2.1⟩⟩
end
section
variable{P:Program}{w:World}{KK:Type}[DecidableEq KK]{knd:HeapKind P w KK}{A:Around}{E:VP}{s:Shared}{d a:Addr}{k:KK}{xs:List (KK×Addr×Value)}
theorem VR{v:Value}{Q:VP}(hu:knd.room A)(hkey:knd.is s.heap k a)(hm:s.heap.DictOfH knd d xs)
  (h1: ∀p,atKey xs k=some p->Q p.2 {s with toks:=s.toks+knd.draws k})
  (h2:atKey xs k=none-> ∀h',h'.DictOfH knd d (storedH xs k a v)->Heap.SameBut d s.heap h'->Q v {s with heap:=h',toks:=s.toks+knd.draws k}) (hsz:xs.length<=sizeLine):
  wpAny (model P w) A (dictSetDefault d (.ref a) v) Q E s:=by
 obtain⟨o,es,ep,ho,hc,hd,he,his,hn⟩:=hm;unfold dictSetDefault
 try with_reducible refine wpAny_holding ?_
 refine wB (knd.pyHash hu hkey ?_);refine wB (wpAny_dictFind_heap hu hkey ho hd he his hn ?_ ?_)
 .intro hno;have hnone:=atKey_none_of_get hno;have hst:=storedH_new hnone
  refine wB (wpAny_rule (wB (wpAny_updateDictKeys (hz:=by have e:=size_of_entries he;lia) ho hd (wP (h2 hnone _ ⟨_,_,ep+1,Heap.get?_update_self _ ho (Obj.isFreed_of_dict (Obj.data_mapDictKeys hd _)),
   hc.mapDictKeys _,Obj.data_mapDictKeys hd _,?_,?_,?_⟩ (Heap.SameBut.update ..))))))
  .rw[hst];simp[he,entryOfKey]
  .rw[hst];intro x hx;rcases List.mem_append.mp hx with hx|hx
   .exact knd.keeps (his x hx) ho hd (Heap.SameBut.update ..)
   .rw[mS.mp hx];exact knd.keeps hkey ho hd (Heap.SameBut.update ..)
  .rw[hst,List.map_append,nodup_append];refine⟨hn,by simp,λx hx y hy=>?_⟩;rw[mS.mp hy];rintro rfl;exact not_mem_keys_of_get hno hx
 .intro j p hj;refine wB (wpAny_dictEntries ho hd ?_);rw[entry_at he j,hj];exact wB (wpAny_rule (wP (h1 _ (atKey_of_get hn hj))))
end
section
variable{X:Cx}{W:XW}{o e:Expr}{es:Uc}{f:AX}{af:Rho->Sto->R (List Er)}{apos pos:Pos}
theorem SJ{α:Tg}{H:Hp}: ∀{kvs:Uk}{xs:List (NK×Addr×Value)}{k dd:MV}{nk:NK},DenN X.K α H kvs xs->xH k=some nk->look kvs k=some dd-> ∃a u v,atKey xs nk=some (a,u)/\Den X.K α H dd v/\RelV v u
 |_,_,k,dd,nk,.nil,hk,h=>by cases h
 |_,_,k,dd,nk,.cons (k:=k') (nk:=nk') (a:=a) (v:=v) (u:=u) hk' e ha hd r l,hk,h=>by
  rw[bW]at h;by_cases c:k'=k
  .subst c;have:=by rw[hk]at hk';exact(Option.some.inj hk').symm
   rw[iP rfl]at h;cases h;exact⟨a,u,v,by rw[sE,iP this],hd,r⟩
  .have hn:nk'≠nk:=λz=>c (tX hk' (by rw[hk,z]));rw[iN c]at h;obtain⟨a2,u2,v2,h1,h2,h3⟩:=SJ l hk h;exact⟨a2,u2,v2,by rw[sE,iN hn];exact h1,h2,h3⟩
def rSD(X:Cx):V->List V->Hp->VK->Prop:=λx vs H Q=> ∃(α:Tg)(kvs:Uk)(xs:List (NK×Addr×Value))(a d:Addr)(k:MV)(nk:NK)(y:V),x=.ref d/\vs=[.ref a,y]/\DD X H d xs/\DenN X.K α H kvs xs/\xH k=some nk/\iL nk<=4/\Den X.K α H k (.ref a)/\xs.length<sizeLine/\
 (∀dd v,look kvs k=some dd->Den X.K α H dd v->Q v H)/\(look kvs k=none-> ∀u,RelV y u->Q y (gH H d (DN X.prog X.w d (storedH xs nk a u))))
theorem Rg(hu:X.A.units+64<cLine):Hx X "dict.setdefault" (rSD X):=by
 intro pins s σ H x vs v us Q I rx rv h;obtain⟨α,kvs,xs,a,d,k,nk,y,rfl,rfl,dd,l,hk,e,ha,hz,q1,q2⟩:=h;obtain⟨u1,u2,rfl,r1,r2⟩:=vals2 rv;cases rx;cases r1;obtain⟨hm,hz',hs⟩:=BU I dd l;have hT:=(JM pins s σ H (.ref d) _ I rfl ⟨d,xs,rfl,dd⟩).1;have hl:=BV l hk;refine wpAny_call_entry PySem.F.slot_dict_setdefault hT PySem.F.entry_dict_setdefault ?_ (PySem.F.args_dict_setdefault_3 _ _ _);refine wB ?_;refine wB (wpAny_notOrdered_dict hT ?_);refine wP ?_;show wpAny _ _ (if _=true then _ else _) _ _ s;rw[iN (by rw[hs];exact xF0)];refine wB (VR (knd:=iO X.prog X.w) (show X.A.units+1+4<cLine by lia) ⟨DS I hk ha rfl,e⟩ hm (λp hp=>?_) (λhn h' hm' hs'=>?_) hz')
 .rw[hp]at hl;obtain⟨d',hd'⟩:=Option.isSome_iff_exists.mp hl.symm;obtain⟨a2,u3,v3,g1,g2,g3⟩:=SJ l hk hd';rw[hp]at g1;cases g1;exact wP ⟨_,rfl,v3,H,I.kept (λ_ _ z=>z),g3,q1 d' v3 hd' g2⟩
 .rw[hn]at hl
  have hln:look kvs k=none:=by
   cases z:look kvs k with
   |none=>rfl
   |some _=>rw[z]at hl;cases hl
  have mu:Oq (H d):=by rcases dd with z|⟨_,z⟩<;>rw[z]<;>exact trivial
  obtain⟨ob,es,ep,ho,hc,hd,he,_,hnd⟩:=hm';refine wP ⟨_,rfl,y,_,I.write mu (.inl rfl) (λb uo hb eo=>(hs'.2 b hb).trans eo) ⟨ob,ho⟩ ?_,r2,q2 hln u2 r2⟩;refine⟨⟨by have:=DV (xs:=xs) (k:=nk) (a:=a) (u:=u2);lia,hs,ob,es,ep,ho,hc,hd,he,hnd⟩,⟨ob,ho⟩,?_⟩;rintro h1 h2 ⟨z1,z2,o',es',ep',ho',r⟩ mv;exact⟨z1,z2,o',es',ep',mv o' ho',r⟩
def Ii(p:Er)(k y:MV)(S1:Sto):R Er:=match pG S1 p with
 |some (l,kvs)=>if keyOk k=true/\kvs.length<1000000 then match look kvs k with
  |some d=>.ok (.val d) S1
  |none=>.ok (.val y) (S1.set l (.dic (putK kvs k y)))
  else .no
 |none=>.no
def Rh(p:Er)(rs:List Er)(S:Sto):R Er:=match rs with
 |[.val k,r]=>(jG r S).bind λy S1=>Ii p k y S1
 |_=>.no
def SK(p:Er)(S:Sto):Bool:=(pG S p).isSome
def Ri:YD X W (rSD X) Rh:=by
 intro p rs x vs α S H0 H Q α0 wd x0 dp da post
 match rs,da,post with
 |[],_,post=>exact post.elim
 |[.val _],_,post=>exact post.elim
 |.new _::_,_,post=>exact post.elim
 |.val _::_::_::_,_,post=>exact post.elim
 |[.val k,r],da,post=>
  cases da with
  |cons dk n1 l1=>
   cases l1 with
   |cons d n2 l2=>
    cases l2;obtain⟨d',S',α',e',x',y',w',dd⟩:=aB wd x0 d;have post:Post X.g W α0 H0 ((jG r S).bind λy S1=>Ii p k y S1) Q:=post;rw[e']at post;have post:Post X.g W α0 H0 (Ii p k d' S') Q:=post;unfold Ii at post;split at post
    .rename_i l kvs ed;split at post
     .rename_i hk
      have dp':DenX X.K α' H p x:=by
       cases p with
       |val m=>exact Den.ex0 y' dp
       |new ds=>cases ed
      obtain⟨nk,h1,h2,h3⟩:=DT hk.1;obtain⟨c,xs,rfl,hc,hS,DDx,dl⟩:=DU w' ed dp';have dk':=Den.ex0 y' dk.1;obtain⟨a',rfl⟩:=JK h3 dk';refine⟨α',kvs,xs,a',c,k,nk,_,rfl,rfl,DDx,dl,h1,h2,dk',?_,λd2 v2 e2 g2=>?_,λe2 u ru=>?_⟩
      .rw[dl.length];exact Nat.lt_of_lt_of_le hk.2 (fits (Nat.le_refl _))
      .rw[e2]at post;exact(Post.shift x' post).val w' g2
      .rw[e2]at post;have xw:=w'.writex hc DDx.nf (o:=DN X.prog X.w c (storedH xs nk a' u));exact(Post.shift (x'.trans xw) post).val (w'.write hc DDx.nf (.inr ⟨_,zZ,(SD dl h1 h2 dk' dd ru).ex0 xw.toEx0⟩)) (dd.ext xw)
     .exact post.elim
    .exact post.elim
def Rj(hu:X.A.units+64<cLine)(ho:zT X W o f)(ha:GY X W (e::es) af)
  (hbase:attributeBase o "setdefault" X.env (eval o X.env)=eval o X.env:=by rfl)
  (hfew:((backTo pos (starEach (e::es) X.env)).all (λx=>!x.1)&&(backToKw pos (keywordEach [] X.env)).all (λx=>x.1.isSome)
   &&decide ((e::es).length+([]:List Keyword).length+(if([]:List Keyword).isEmpty then 0 else 1)<30))=true:=by rfl)
  (hline:(apos.endLine==pos.line)=true:=by rfl) (hs:starEach (e::es) X.env=(false,eval e X.env)::starEach es X.env:=by rfl) (hplain:(backTo pos (starEach es X.env)).any (·.1)=false:=by rfl):
  zT X W (.Call (.Attribute o "setdefault" apos) (e::es) [] pos) (λρ S=>(f ρ S).bind λp S1=>if SK p S1=true then(af ρ S1).bind λrs S2=>Rh p rs S2 else .no):=by
 obtain⟨to,ho,fo⟩:=ho;obtain⟨t,ha,k⟩:=ha;refine⟨_,Mx JM PySem.F.plainAttrs_dict PySem.F.slot_dict_setdefault PySem.F.type_dict_setdefault (Rg hu) ho ha hbase hfew hline hs hplain,λα ρ S σ H Q wd sl q=>fo α ρ S σ H _ wd sl (q.bind λu p S1 α1 H1 e1 x1 w1 d1 q1=>?_)⟩;split at q1
 .rename_i hz;obtain⟨⟨l,kvs⟩,hz⟩:=Option.isSome_iff_exists.mp hz;obtain⟨c,xs,rfl,_,_,dd,_⟩:=DU w1 hz d1.1;exact⟨⟨c,xs,rfl,dd⟩,k α1 ρ S1 σ H1 _ w1 (sl.ext x1) ((q1.shift x1).bind λvs rs S2 α2 H2 e2 x2 w2 d2 q2=>Ri p rs _ vs α2 S2 H1 H2 Q α1 w2 x2 (d1.1.ext x2) d2 q2)⟩
 .exact q1.elim
end
def VAt(d:Addr)(us:Td)(ep:Nat)(h:Heap):Prop:= ∃o es,h.get? d=some o/\o.ExactDict/\o.data=.dict es ep/\es.toList.map (·.val)=us
def VAt.at{d:Addr}{us:Td}{ep:Nat}{h h':Heap}(x:VAt d us ep h)(m: ∀o,h.get? d=some o->h'.get? d=some o):VAt d us ep h':=let ⟨o,es,ho,r⟩:=x;⟨o,es,m o ho,r⟩
theorem VAt.size{d:Addr}{us:Td}{ep:Nat}{h:Heap}(x:VAt d us ep h): ∃o es,h.get? d=some o/\o.ExactDict/\o.data=.dict es ep/\es.size=us.length/\ ∀i (hi:i<es.size),us[i]? =some es[i].val:=by obtain⟨o,es,ho,hc,hd,e⟩:=x;refine⟨o,es,ho,hc,hd,by rw[<-e,lM,Array.length_toList],λi hi=>?_⟩;rw[<-e,getElem?_map,Array.getElem?_toList,Array.getElem?_eq_getElem hi];rfl
section
variable{P:Program}{w:World}{A:Around}{E:VP}{s:Shared}{d v it:Addr}{us:Td}{ep i:Nat}
def VS{Q:VP}(hv:s.heap.IsValuesView v d)(hm:VAt d us ep s.heap)
  (hQ:Q (.ref s.heap.objs.size) {s with heap:=s.heap.push {cls:=.type "dict_valueiterator",data:=.fields #[.ref d,.int 0 0,.int us.length 0,.int ep 0]}}):wpAny (model P w) A (pyIter (.ref v)) Q E s:=by
 obtain⟨ov,hov,hcv,hdv⟩:=id hv;obtain⟨o,es,ho,hc,hdat,hsz,_⟩:=hm.size;refine wpAny_pyIter_slot hv.typeIs PySem.F.slot_dict_values_iter (wpAny_call_entry PySem.F.slot_dict_values_iter hv.typeIs PySem.F.entry_dict_values_iter ?_ (PySem.F.args_dict_values_iter_1 _));unfold Builtin.«dict_values.__iter__»;refine wB (wP (wB ?_));unfold Builtin.Dict_items.dictOf;refine wB (wpAny_field hov hdv (x:=.ref d) rfl (wP (wB ?_)));unfold Builtin.Dict_items.newIterator;refine wB (wpAny_dictEntries ho hdat (wB (wpAny_dictEpoch ho hdat ?_)));have hown:Builtin.Dict_items.ownsTuple "dict_valueiterator"=false:=by decide
 simp only[hown,fT,iF];refine wpAny_newObj_type (wP ⟨_,rfl,"dict_valueiterator",_,⟨_,Heap.get?_push_size _ rfl,rfl⟩,PySem.F.slot_dict_valueiterator_next.lookup,?_⟩);simpa [rawInt,hsz]using hQ
def ZH{x:Value}{Q:Option Value->Shared->Prop}(hit:s.heap.IsValIter it d i us.length ep)(hm:VAt d us ep s.heap)(hx:us[i]? =some x)
  (hQ: ∀h',h'.IsValIter it d (i+1) us.length ep->Heap.SameBut it s.heap h'->Q (some x) {s with heap:=h'}):wpAny (model P w) A (pyNext (.ref it)) Q E s:=by
 obtain⟨o,ho,hc,hd⟩:=id hit;obtain⟨od,es,hod,hcd,hdd,hsz,hval⟩:=hm.size;have hlt':i<es.size:=by rw[hsz];exact((gS0.mp hx).1)
 refine wB (wpAny_attempt (wpAny_callSpecial?_slot hit.typeIs PySem.F.slot_dict_valueiterator_next (wpAny_call_entry PySem.F.slot_dict_valueiterator_next hit.typeIs PySem.F.entry_dict_valueiterator_next ?_ (PySem.F.args_dict_valueiterator_next_1 _))));refine wB (wP (wB (wB ?_)))
 first |refine wB (wpAny_typeNameOfWhole_valiter hit.typeIs (wP ?_))|refine wB _
 refine wB (wpAny_fieldsOf ho hd ?_);have hown:Builtin.Dict_items.ownsTuple "dict_valueiterator"=false:=by decide
 show wpAny _ _ (if _=true then _ else _) _ _ s;refine wB (wP (wB (wpAny_dictEntries hod hdd ?_)));rw[iN (by rw[hsz];simp)];refine wB (wP (wB (wpAny_dictEpoch hod hdd ?_)));rw[iN (by simp)];refine wP ?_;simp only[show¬(_<0)from by omega,Int.toNat_natCast,Array.getElem?_eq_getElem hlt'];refine wB ?_
 first |refine wB (wpAny_typeNameOfWhole_valiter hit.typeIs (wP ?_))|refine wB _
 refine wB (wpAny_isOneOf_valiter hit.typeIs ?_);show wpAny _ _ (setField _ 1 _ >>= _) _ _ s;refine wB (wpAny_setField ho hd (by simp) ?_)
 have hit':(s.heap.update it (Obj.mapFields (·.setIfInBounds 1 (rawInt ((i:Int)+1))))).IsValIter it d (i+1) us.length ep:=
  ⟨_,Heap.get?_update_self _ ho (Obj.isFreed_of_fields (Obj.data_mapFields hd _)),(Obj.cls_mapFields ..).trans hc,by rw[Obj.data_mapFields hd];simp[rawInt]⟩
 refine wB (wpAny_holding ?_);refine wB (wpAny_isOneOf_valiter hit'.typeIs ?_);refine wB (wpAny_isOneOf_valiter hit'.typeIs ?_);show wpAny _ _ _ _ _ _;exact wP (wP ⟨_,rfl,wP ((by have:=hval i hlt';rw[hx]at this;exact(Option.some.inj this).symm)▸hQ _ hit' (Heap.SameBut.update ..))⟩)
def ZI{Q:Option Value->Shared->Prop}(hh:A.handled=none)(hit:s.heap.IsValIter it d i us.length ep)(hm:VAt d us ep s.heap)(hx:us.length<=i)
  (hQ: ∀h',Heap.ExtBut it s.heap h'->Q none {s with heap:=h'}):wpAny (model P w) A (pyNext (.ref it)) Q E s:=by
 obtain⟨o,ho,hc,hd⟩:=id hit;obtain⟨od,es,hod,hcd,hdd,hsz,hval⟩:=hm.size;refine wB (wpAny_attempt (wpAny_callSpecial?_slot hit.typeIs PySem.F.slot_dict_valueiterator_next (wpAny_call_entry PySem.F.slot_dict_valueiterator_next hit.typeIs PySem.F.entry_dict_valueiterator_next ?_ (PySem.F.args_dict_valueiterator_next_1 _))));refine wB (wP (wB (wB ?_)))
 first |refine wB (wpAny_typeNameOfWhole_valiter hit.typeIs (wP ?_))|refine wB _
 refine wB (wpAny_fieldsOf ho hd ?_);have hown:Builtin.Dict_items.ownsTuple "dict_valueiterator"=false:=by decide
 show wpAny _ _ (if _=true then _ else _) _ _ s;refine wB (wP (wB (wpAny_dictEntries hod hdd ?_)));rw[iN (by rw[hsz];simp)];refine wB (wP (wB (wpAny_dictEpoch hod hdd ?_)));rw[iN (by simp)];refine wP ?_;simp only[show¬(_<0)from by omega,Int.toNat_natCast,Array.getElem?_eq_none (by rw[hsz];exact hx)];refine wB ?_
 first |refine wB (wpAny_typeNameOfWhole_valiter hit.typeIs (wP ?_))|refine wB _
 show wpAny _ _ (setField _ 0 .none >>= _) _ _ s;refine wB (wpAny_setField ho hd (by simp) ?_);show wpAny _ _ _ _ _ _;refine wB ?_;refine wB (wpAny_newObj_type ?_ (by size_fits));refine wB (wpAny_of_eq (by first |rfl|(simp only[firstArgMember];rfl)) ?_);refine wpAny_newObj_type ?_ (by size_fits);refine wB (wpAny_handled ?_);rw[show A.in1.handled=none from hh];refine wB (wP (wpAny_throw ?_));refine wB (wpAny_isInstance ⟨_,Heap.get?_push_size _ rfl,rfl⟩ isSubtype_stop ?_);exact wP (hQ _ (((Heap.SameBut.update ..).extBut.push _).push _))
def VT(hh:A.handled=none)(I:Addr)(hne:d≠I)(us:Td)(ep:Nat):Walks P w A I [I,d] [I] us.length (λi x=>us[i]? =some x) (λi h=>h.IsValIter I d i us.length ep/\VAt d us ep h) where
 sub:=λb hb=>by simp at hb;simp[hb]
 frame:=λ_ _ _ st hk=>⟨st.1.at λo e=>hk I (by simp) o e,st.2.at λo e=>hk d (by simp) o e⟩
 item:=λi s Q E hi st hQ=>by have hx:us[i]? =some us[i]:=gE hi;refine ZH st.1 st.2 hx λh' hit' hs'=>?_;exact hQ _ h' s.toks hx ⟨hit',st.2.at λo e=>hs'.extBut d o hne e⟩ λb o hb e=>hs'.extBut b o (λh=>hb (by simp[h])) e
 done:=λs Q E st hQ=>ZI hh st.1 st.2 (Nat.le_refl _) λh' he'=>hQ h' s.toks λb o hb e=>he' b o (λh=>hb (by simp[h])) e
 self:=λ_ _ _ _ st hQ=>wpAny_pyIter_valiter st.1 hQ
def ZJ(us:Td)(ep:Nat):PySem.W.KdlSrc P w "dict_values" v d us.length (λi x=>us[i]? =some x) (λh=>h.IsValuesView v d/\VAt d us ep h) where
 type:=λ_ hm=>hm.1.typeIs
 there:=λ_ hm=>⟨let ⟨_,ho,_⟩:=hm.1;Heap.lt_size ho,let ⟨_,_,ho,_⟩:=hm.2;Heap.lt_size ho⟩
 keep:=λ_ _ hm hk=>⟨let ⟨o,ho,x⟩:=hm.1;⟨o,hk v (.inl rfl) o ho,x⟩,hm.2.at λo e=>hk d (.inr rfl) o e⟩
 notList:=by decide
 notTuple:=by decide
 hint:=λ_ _ _ _ hm hq=>PySem.W.kdl_hint_values hm.1.typeIs hq
 iter:=λ_ _ hh hm=>⟨_,_,(λ_ _ hq=>VS hm.1 hm.2 hq),VT hh _ (Nat.ne_of_lt (let ⟨_,_,ho,_⟩:=hm.2;Heap.lt_size ho)) us ep,⟨⟨_,Heap.get?_push_size _ rfl,rfl,rfl⟩,hm.2.at λo e=>hP0 _ e⟩⟩
end
section
variable{X:Cx}{W:XW}{o:Expr}{f:AX}{apos pos pos2 p2:Pos}{to:TE}{T:String}{name:Str}{id:String}{r:V->List V->Hp->VK->Prop}
def Gc{TY:V->Hp->Prop}(hTY:sF X T TY)(pa:PlainAttrs T)(slot:Slot T name id)(hty:typeOf (.builtin id)=pure (.type "method_descriptor"))(hm:Hx X id r)(ho:PE X o to)
  (hbase:attributeBase o name X.env (eval o X.env)=eval o X.env) (hline:(apos.endLine==pos.line)=true):PE X (.Call (.Attribute o name apos) [] [] pos) (λσ H Q=>to σ H λx H1=>TY x H1/\r x [] H1 Q):=by
 intro pins s σ H Q I h;refine wpAny_Call_method0_late hbase hline (wO (ho pins s σ H _ I h) λv s1 ⟨x,H1,I1,r1,ty,q1⟩=>?_);obtain⟨h1,h2⟩:=hTY pins s1 σ H1 x v I1 r1 ty;exact⟨T,id,pa,slot,hty,h1,h2,Calls.callWith_builtin rfl (PySem.evalArgs_none (hm pins s1 σ H1 x [] v [] Q I1 r1 .nil q1))⟩
def HM(l d:Addr):HO:=.ext λh=>h.IsValuesView l d
def VU:Hx X "dict.values" (λx vs H Q=> ∃d xs,x=.ref d/\vs=[]/\DD X H d xs/\ ∀l,H l=none->Q (.ref l) (gH H l (HM l d))):=by
 intro pins s σ H x vs v us Q I rx rv h;obtain⟨d,xs,rfl,rfl,dd,q⟩:=h;cases rx;have:=rv.zero;subst this;have hT:s.TypeIs (.ref d) "dict":=(JM pins s σ H (.ref d) (.ref d) I rfl ⟨d,xs,rfl,dd⟩).1
 have hs:(d==sysModules)=false:=by
  rcases dd with h|⟨rfl,h⟩
  .obtain⟨⟨hz,hs,_⟩,_⟩:=(show ObjOk X.prog X.w H s.heap d (DN X.prog X.w d xs)from I.hok d _ h)
   exact hs
  .obtain⟨_,hs,_⟩:=(show ObjOk X.prog X.w H s.heap d (.dK [])from I.hok d _ h)
   exact hs
 refine wpAny_call_entry PySem.F.slot_dict_values hT PySem.F.entry_dict_values ?_ (PySem.F.args_dict_values_1 _);refine wB ?_;unfold Builtin.Dict.noArgs;refine wB (wpAny_notOrdered_dict hT ?_);show wpAny _ _ (pure d) _ _ s;refine wP ?_;show wpAny _ _ (Builtin.Dict.showsAll d >>= _) _ _ s;unfold Builtin.Dict.showsAll;rw[iN (by rw[hs];exact xF0)];refine wB (wP ?_);refine wB (wpAny_newObj_type (wP ⟨_,rfl,.ref s.heap.objs.size,_,I.laid (o:=HM s.heap.objs.size d) (t':=s.toks) (λb o e=>hP0 _ e) (Nat.le_refl _) ⟨⟨_,Heap.get?_push_size _ rfl,rfl,rfl⟩,⟨_,Heap.get?_push_size _ rfl⟩,?_⟩,rfl,q _ (I.hok.fresh (Nat.le_refl _))⟩));rintro h1 h2 ⟨o,ho,r⟩ mv;exact⟨o,mv o ho,r⟩
theorem SN{α:Tg}{H:Hp}: ∀{kvs:Uk}{xs:List (NK×Addr×Value)},DenN X.K α H kvs xs-> ∃ys,DenL X.K α H (kvs.map (·.2)) ys/\Vals ys (xs.map (·.2.2))
 |_,_,.nil=>⟨[],yF,.nil⟩
 |_,_,.cons hk e a d r l=>by obtain⟨ys,h1,h2⟩:=SN l;exact⟨_::ys,yA d h1,.cons r h2⟩
def PX:CallR X (.type "list") (λxs H Q=> ∃l d zs α kvs,xs=[.ref l]/\H l=some (HM l d)/\DD X H d zs/\DenN X.K α H kvs zs/\X.calm=true/\ ∀p ys,H p=none->DenL X.K α H (kvs.map (·.2)) ys->Q (.ref p) (gH H p (.lst ys))):=by
 intro pins s σ H xs us Q I r h;obtain⟨l,d,zs,α,kvs,rfl,hl,dd,dn,hc,q⟩:=h;obtain⟨u,rfl,rx⟩:=vals1 r;cases rx;obtain⟨hv,_⟩:=(show ObjOk X.prog X.w H s.heap l (HM l d)from I.hok l _ hl)
 obtain⟨⟨o,es,ep,ho,hcc,hd,he,_,_⟩,hz,_⟩:=BU I dd dn;obtain⟨ys,h1,h2⟩:=SN dn;refine PySem.W.kdl_call (ZJ (P:=X.prog) (w:=X.w) (v:=l) (d:=d) (zs.map (·.2.2)) ep) (I.ok.hd hc) ⟨hv,(⟨o,es,ho,hcc,hd,by rw[he,List.map_map];rfl⟩)⟩ (by rw[lM];exact hz) λh' tk acc c' hk hS hacc=>?_
 have ea:acc.toList=zs.map (·.2.2):=by
  refine ext_getElem? λj=>?_;by_cases hj:j<acc.size
  .have h3:acc[j]? =some acc[j]:=Array.getElem?_eq_getElem hj;rw[Array.getElem?_toList,h3];exact(hacc.2 j _ h3).symm
  .have h3:(zs.map (·.2.2)).length<=j:=by have:=hacc.1;omega
   rw[Array.getElem?_toList,Array.getElem?_eq_none (by omega),getElem?_eq_none h3]
 refine⟨.ref s.heap.objs.size,_,I.laid (t':=tk) hk (Nat.le_refl _) (show ObjOk X.prog X.w _ h' _ (.lst ys)from⟨?_,acc.toList,c',by rw[ea];exact h2,?_⟩),rfl,q _ ys (I.hok.fresh (Nat.le_refl _)) h1⟩
 .have e1:=h2.length;rw[lM]at e1;omega
 .rw[Array.toArray_toList];exact hS
def Ot(p:Er)(S:Sto):R Er:=match pG S p with
 |some (_,kvs)=>.ok (.new (kvs.map (·.2))) S
 |none=>.no
def ZK(hc:X.calm=true)(hg:Gl X "list")(hm:X.mg "list"=none)(ho:zT X W o f)
  (hbase:attributeBase o "values" X.env (eval o X.env)=eval o X.env:=by rfl) (hline:(apos.endLine==pos2.line)=true:=by rfl)
  (he1:starEach [.Call (.Attribute o "values" apos) [] [] pos2] X.env=(false,eval (.Call (.Attribute o "values" apos) [] [] pos2) X.env)::starEach [] X.env:=by rfl) (hpl1:(backTo pos (starEach [] X.env)).any (·.1)=false:=by rfl):
  zT X W (.Call (.Name "list" p2) [.Call (.Attribute o "values" apos) [] [] pos2] [] pos) (λρ S=>(f ρ S).bind Ot):=by
 obtain⟨t,ho,k⟩:=ho;refine⟨_,vD PX hg hm RV (IC (Gc JM PySem.F.plainAttrs_dict PySem.F.slot_dict_values PySem.F.type_dict_values VU ho hbase hline) OR he1) (by decide) (by decide) he1 hpl1,λα ρ S σ H Q wd sl q=>k α ρ S σ H _ wd sl (q.bind λu p S1 α1 H1 e1 x1 w1 d1 q1=>?_)⟩
 replace q1:=q1.shift x1
 unfold Ot at q1;split at q1
 .rename_i l kvs ed;obtain⟨c,xs,rfl,_,_,dd,dl⟩:=DU w1 ed d1.1;refine⟨⟨c,xs,rfl,dd⟩,c,xs,rfl,rfl,dd,λv hv=>?_⟩;have xn:=w1.newx (o:=HM v c) hv;refine⟨v,c,xs,α1,kvs,rfl,zZ,?_,dl.ex0 xn.toEx0,hc,λp ys hp hy=>(q1.shift xn).newl (w1.new (o:=HM v c) hv) hp hy⟩;rcases dd with h|⟨e,h⟩
  .exact .inl (by rw[zK (zN h hv)];exact h)
  .exact .inr ⟨e,by rw[zK (zN h hv)];exact h⟩
 .exact q1.elim
end
end M
end L2
namespace L2
open PySem PySem.Spec PyProof.Rows
open Builtin Builtin.ObjectAttr
section
variable{h:Heap}{x:Addr}{o:Obj}{v:Value}{name:Str}
def SetAt(h h':Heap)(x:Addr)(o:Obj)(name:Str)(v:Value)(dx:Addr):Prop:=
 h.get? dx=none/\dx≠x/\h'.get? x=some {cls:=o.cls,dict:=some dx,data:=o.data,slots:=o.slots}/\h'.Ns1 dx (λy=>if y=name then some v else none)/\ ∀b ob,b≠x->h.get? b=some ob->h'.get? b=some ob
end
abbrev BIG:Nat:=10 ^ 100
section
variable{i:Nat}{σ:St}{H:Hp}
def tJ(i:Nat):TE:=λσ H Q=> ∃n,σ[i]? =some (some (.int n))/\n.natAbs<BIG/\ ∀y:Str,Q (.str y) H
end
namespace M
structure XIn(K:Ud)(M C f:Addr):Prop where
 ex: ∃nm q N bs sn sub ab col dd k0 k1 k2 k3 k5,K.lookup C=some (excClassObj nm q C N bs (.ref M::Ss) true sn sub ab col dd k0 k1 k2 k3 k5 "ValueError.__new__")/\PySem.W.nsOkIn K N=true/\PySem.W.nsIn K N "__init__"=some (some (.ref f))/\ ∀n∈qn,PySem.W.nsIn K N n=some none
 fo: ∃o,K.lookup f=some o/\o.cls=.type "function"
def XIn.cl{K:Ud}{M C f:Addr}(x:XIn K M C f):XCl K C (.ref M::Ss) (some (.ref f)):=by obtain⟨nm,q,N,bs,sn,sub,ab,col,dd,k0,k1,k2,k3,k5,a,b,c,d⟩:=x.ex;exact⟨nm,q,N,bs,true,sn,sub,ab,col,dd,k0,k1,k2,k3,k5,a,b,c,d,rfl⟩
structure DefM(K:Ud)(mg:Ti)(x:Str)(st:Stmt):Prop where
 ex: ∃f fd,mg x=some (.ref f)/\Fun K x x st f fd
def def_mk{K:Ud}{mg:Ti}{h:Heap}{x:Str}{st:Stmt}{g:Addr}{od an:Option Addr}{sl:Array (Option Value)}{oc kV dc pm cd ct:Value}(a:PySem.W.nsIn K mainGlobals x=some (some (.ref g)))
  (l:K.lookup g=some ⟨oc,od,.func (PySem.W.fnOf x x (eV st) (xQ st) (zE st) .none kV dc pm an cd ct),sl⟩) (c:PySem.W.codeIn K cd x=true) (k:PySem.W.keepIn K (.ref g)=true) (X:K.In h) (GG:h.Ns mainGlobals mg):DefM K mg x st:=⟨_,_,PySem.W.mg_of X GG a,Kz l c k⟩
structure Cal(P:Program)(w:World)(K:Ud)(mg:Ti)(base:Heap)(CX:OS)(x:Str)(k:Nat)(ps:Th)(sp:Sp):Prop where
 ex: ∃fa fd,FnOk P w K mg base CX k fa fd ps sp/\mg x=some (.ref fa)/\PySem.W.keepIn K (.ref fa)=true/\Binds K fd ps []
abbrev VV(P:Program)(w:World)(K:Ud)(mg:Ti)(base:Heap)(x:Str)(k n:Nat)(ps:Th)(F:List MV->Sto->R Er):Prop:=Cal P w K mg base vE x k ps (LK ⟨K,mg,P,w⟩ n F)
abbrev Rk(P:Program)(w:World)(K:Ud)(mg:Ti)(base:Heap)(x:Str)(k n:Nat)(ps:Th)(F:List MV->Sto->R Er):Prop:=Cal P w K mg base (CXe P w) x k ps (Sw ⟨K,mg,P,w⟩ n F)
section
variable{P:Program}{w:World}{K:Ud}{mg:Ti}{base:Heap}{x:Str}{st:Stmt}{ps:Th}{k n:Nat}{F:List MV->Sto->R Er}
abbrev PY(x:Str)(st:Stmt)(ps:Th):Prop:= ∀(kV doc pm:Value)(an:Option Addr)(cdv ct:Value)(us:Td),us.length=ps.length->bindArgs (PySem.W.fnOf x x (eV st) (xQ st) (zE st) .none kV doc pm an cdv ct) ⟨us,[]⟩=pure (ps.zip us)
def Mz(D:DefM K mg x st)(hb:PY x st ps)(h: ∀f fd,Fun K x x st f fd->FnOk P w K mg base vE k f fd ps (LK ⟨K,mg,P,w⟩ n F)):VV P w K mg base x k n ps F:=
 let ⟨f,fd,m,Fu⟩:=D.ex;⟨f,fd,h f fd Fu,m,Fu.kp,Fu.binds hb⟩
def Cal.noX(G:Rk P w K mg base x k n ps F):VV P w K mg base x k n ps F:=let ⟨fa,fd,G,m,kp,b⟩:=G.ex;⟨fa,fd,G.noX,m,kp,b⟩
def Na{l:PySem.W.OpenLaw}{fa:Addr}{p:Str}(D:DefM K mg x st)(hfa:mg x=some (.ref fa))(hb: ∀(kV doc pm:Value)(an:Option Addr)(cdv ct:Value)(s:Shared)(v:Value),BindsTo s (PySem.W.fnOf x x (eV st) (xQ st) (zE st) .none kV doc pm an cdv ct) ⟨[v],[]⟩ [(p,v)])
  (h: ∀base f fd,Fun K x x st f fd->FnOk l.prog w K mg base vE k f fd [p] (LK ⟨K,mg,l.prog,w⟩ 1 F)):
  ∃fd:FuncData,(∀(s:Shared)(v:Value),BindsTo s fd ⟨[v],[]⟩ [(p,v)])/\ ∀base:Heap,K.In base->base.Ns mainGlobals mg->FnOk l.prog w K mg base vE k fa fd [p] (HG K F):=by
 obtain⟨f,fd,m,Fu⟩:=D.ex;rw[hfa]at m;cases m;refine⟨fd,?_,λbase _ _=>(h base fa fd Fu).imp λvs H Q E=>YS (g:=⟨K,mg,_,w⟩) vs H Q E⟩;obtain⟨_,_,_,_,_,_,_,_,_,rfl,_,_⟩:=Fu.ex;exact hb _ _ _ _ _ _
end
section
variable{X:Cx}{W:XW}{e:Expr}{es:Uc}{af:Rho->Sto->R (List Er)}{k n:Nat}{ps:Th}{F:List MV->Sto->R Er}{x:Str}{p pos:Pos}
def yN(G:VV X.prog X.w X.K X.mg X.base x k n ps F)(hr:Room k X.A)(hg:Gl X x)(ha:GY X W (e::es) af)(hdb:(x==("__debug__":Str))=false:=by decide)
  (he:starEach (e::es) X.env=(false,eval e X.env)::starEach es X.env:=by rfl) (hpl:(backTo pos (starEach es X.env)).any (·.1)=false:=by rfl):zT X W (.Call (.Name x p) (e::es) [] pos) (λρ S=>(af ρ S).bind λrs S1=>zQ n F rs S1):=
 let ⟨_,_,G,m,kp,b⟩:=G.ex;Ea G hr hg m kp b ha hdb he hpl
end
end M
end L2
namespace L2
open PySem PySem.Spec PyProof.Rows
structure RoomH(k:Nat)(A:Around):Prop where
 dp:A.depth+3 * k+5<recursionLimit
 un:A.units+16 * k+200<cLine
def RoomH.depth{k:Nat}{A:Around}(r:RoomH k A):A.depth<recursionLimit:=by have:=r.dp;omega
def RoomH.units{k:Nat}{A:Around}(r:RoomH k A):A.units+64<cLine:=by have:=r.un;omega
structure FnOkH(P:Program)(w:World)(K:Ud)(mg:Ti)(base:Heap)(k:Nat)(f:Addr)(fd:FuncData)(ps:Th)(sp:Sp):Prop where
 len: ∀vs H Q E,sp vs H Q E->vs.length=ps.length
 run: ∀(A:Around)(outer:List Env)(s:Shared)(H:Hp)(args:Args)(us:Td)(vs:List V)(Q:VK)(E:XK),RoomH k A->HdA A H->Env0 P w K mg base A outer s H->BindsTo s fd args (ps.zip us)->Vals vs us->sp vs H Q E->
  codeAny (model P w) A (.call (.ref f) args) (CR vE outer P w H s Q E) s
namespace M
section
variable{P:Program}{w:World}{K:Ud}{mg:Ti}{base:Heap}{x:Str}{ps:Th}{k n:Nat}{F:List MV->Sto->R Er}
structure CalH(P:Program)(w:World)(K:Ud)(mg:Ti)(base:Heap)(x:Str)(k n:Nat)(ps:Th)(F:List MV->Sto->R Er):Prop where
 ex: ∃fa fd,FnOkH P w K mg base k fa fd ps (LK ⟨K,mg,P,w⟩ n F)/\mg x=some (.ref fa)/\PySem.W.keepIn K (.ref fa)=true/\Binds K fd ps []
end
def Rl(kvs:Uk)(S:Sto):R Er:=.ok (.val (.loc S.length)) (S++[.dic kvs])
section
variable{α β:Type}
def vJ(i:Nat)(ρ:Rho)(S:Sto):R Er:=Dq (ρ[i]?) S
def kJ(d:MV)(_:Rho)(S:Sto):R Er:=.ok (.val d) S
def bJ(f:Rho->Sto->R α)(F:α->Sto->R β)(ρ:Rho)(S:Sto):R β:=(f ρ S).bind F
def dJ(F:Er->Er->Sto->R Er)(f g:AX)(ρ:Rho)(S:Sto):R Er:=(f ρ S).bind λp S=>(g ρ S).bind λq S=>F p q S
def nJ(f:AX)(ρ:Rho)(S:Sto):R Er:=(f ρ S).bind λp S=>(eZ p S).bind λk S=>.ok (.val (.bl !k)) S
def aJ(f g:AX)(ρ:Rho)(S:Sto):R Er:=(f ρ S).bind λp S=>Ds p S λS=>g ρ S
def oJ(f g:AX)(ρ:Rho)(S:Sto):R Er:=(f ρ S).bind λp S=>orF p S λS=>g ρ S
def iJ(c:AZ)(f g:Rho->Sto->R α)(ρ:Rho)(S:Sto):R α:=(c ρ S).bind λk S=>if k=true then f ρ S else g ρ S
def mJ(_:Rho)(S:Sto):R (Option Int):=.ok none S
def tJ(F:Er->Option Int->Option Int->Sto->R Er)(f:AX)(g h:Rho->Sto->R (Option Int))(ρ:Rho)(S:Sto):R Er:=(f ρ S).bind λp S=>(g ρ S).bind λl S=>(h ρ S).bind λu S=>F p l u S
def lJ(k:Uk)(_:Rho)(S:Sto):R Er:=Rl k S
def zJ(_:Rho)(S:Sto):R Er:=SE S
def fJ(n:Nat)(F:List MV->Sto->R Er)(a:Rho->Sto->R (List Er))(ρ:Rho)(S:Sto):R Er:=(a ρ S).bind λr S=>zQ n F r S
def xJ(n:Nat)(F:List MV->Sto->R Er)(a:Rho->Sto->R (List Er))(ρ:Rho)(S:Sto):R Er:=(a ρ S).bind λr S=>SF n F r S
def hJ(F:List MV->Sto->R Er)(_:Rho)(S:Sto):R Er:=zQ 0 F [] S
def eJ(t:Er->Sto->Bool)(F:Er->List Er->Sto->R Er)(f:AX)(a:Rho->Sto->R (List Er))(ρ:Rho)(S:Sto):R Er:=(f ρ S).bind λp S=>if t p S=true then(a ρ S).bind λr S=>F p r S else .no
def gJ(t:Er->Sto->Bool)(F:Er->List Er->Sto->R Er)(f:AX)(ρ:Rho)(S:Sto):R Er:=(f ρ S).bind λp S=>if t p S=true then F p [] S else .no
def uJ(_:Rho)(S:Sto):R Bool:=.ok true S
def pJ(i:Rho->Sto->R Wk)(g:MV->Rho->Sto->R Rho)(c:AZ)(e:AX)(n:Nat)(I:Db)(ρ:Rho)(S:Sto):R Er:=(i ρ S).bind λk S=>if k.ds.length<1000000 then(kI g c e (GA n I ρ) k.gs k.ds S).bind λo S=>.ok (.new o) S else .no
def jJ(F G:Er->Er->Sto->R Er)(f g h:AX)(ρ:Rho)(S:Sto):R Er:=(f ρ S).bind λp S=>(g ρ S).bind λq S=>PB F G p q S λS=>h ρ S
def qJ(f:AZ)(ρ:Rho)(S:Sto):R Bool:=(f ρ S).bind λk S=>.ok (!k) S
def rJ(f g:AZ)(ρ:Rho)(S:Sto):R Bool:=(f ρ S).bind λk S=>if k=true then g ρ S else .ok false S
def sJ(f g:AZ)(ρ:Rho)(S:Sto):R Bool:=(f ρ S).bind λk S=>if k=true then .ok true S else g ρ S
def wJ(_:Rho)(S:Sto):R (List Er):=.ok [] S
def yJ(f:AX)(g:Rho->Sto->R (List Er))(ρ:Rho)(S:Sto):R (List Er):=(f ρ S).bind λp S=>(g ρ S).bind λl S=>.ok (p::l) S
def AJ(f:AX)(ρ:Rho)(S:Sto):R Fl:=(f ρ S).bind λr S=>.ok (.ret r) S
def BJ(f:AX)(ρ:Rho)(S:Sto):R Fl:=(f ρ S).bind λ_ S=>.ok (.next ρ) S
def CJ(f:AX)(i:Nat)(ρ:Rho)(S:Sto):R Fl:=(f ρ S).bind (FZ ρ i)
def DJ(F:Er->Er->MV->Rho->Sto->R Rho)(f g:AX)(d:MV)(ρ:Rho)(S:Sto):R Rho:=(f ρ S).bind λp S=>(g ρ S).bind λq S=>F p q d ρ S
def EJ(f:AX)(g:MV->Rho->Sto->R Rho)(ρ:Rho)(S:Sto):R Fl:=(f ρ S).bind (Dv g ρ)
def FJ(i:Rho->Sto->R Wk)(g:MV->Rho->Sto->R Rho)(b:AY)(ρ:Rho)(S:Sto):R Fl:=(i ρ S).bind λk S=>dD g b k.gs k.ds ρ S
def GJ(a:Rho->Sto->R (List Er))(c:Str)(ρ:Rho)(S:Sto):R Fl:=(a ρ S).bind λr S=>if r.length<=10 then .exc c [] S else .no
def HJ(cs:Th)(i:Nat)(h:AY)(n:Nat)(F:List MV->Sto->R Er)(a:Rho->Sto->R (List Er))(ρ:Rho)(S:Sto):R Fl:=(noX (a ρ S)).bind λr S=>Mt cs i (λ_ S=>.ok (.next ρ) S) h ρ (SF n F r S)
def IJ(cs:Th)(i j:Nat)(h:AY)(n:Nat)(F:List MV->Sto->R Er)(a:Rho->Sto->R (List Er))(ρ:Rho)(S:Sto):R Fl:=(noX (a ρ S)).bind λr S=>Mt cs i (FZ ρ j) h ρ (SF n F r S)
def JJ(ρ:Rho)(S:Sto):R Fl:=.ok (.next ρ) S
end
def Itv(K:Ud)(l:Addr)(n:Nat):It:=
 ⟨λi H=> ∃xs x,SqL K H l xs/\xs.length=n/\xs.reverse[i]? =some x,
   λi H v H'=>H'=H/\ ∀xs,SqL K H l xs->xs.reverse[i]? =some v,
   λi _=>n<=i⟩
def ZL{P:Program}{w:World}{K:Ud}{tg:Expr}(l it:Addr)(n:Nat):Turn P w K tg (Itv K l n) [it] it (λi h=>h.IsRevIter it l (((n - i:Nat):Int) - 1)) where
 mem:=by simp
 obj:=λi h st b hb=>by
  have e:b=it:=by simpa using hb
  subst e;obtain⟨o,e,c,d⟩:=st;exact⟨o,e,λv z=>by rw[d]at z;cases z⟩
 keep:=λi h h' st k=>st.at λo e=>k it (by simp) o e
 item:=by
  intro X hP hw hK hc i pins s σ H E I hf st hg;subst hP hw hK;obtain⟨xs,x,hq,hn,hx⟩:=hg;obtain⟨its,rv,p,hz⟩:=I.list hq;have hi:i<xs.length:=by have:=(gS0.mp hx).1;rw[List.length_reverse]at this;exact this
  have hx':=hx;rw[List.getElem?_reverse hi]at hx';obtain⟨u,hu,ru⟩:=rv.get hx';obtain⟨f0,f1,f2,f3,f4,f5⟩:=hf it (by simp);have e1:(((n - i:Nat):Int) - 1)=((xs.length - 1 - i:Nat):Int):=by omega
  have st':s.heap.IsRevIter it l (((n - i:Nat):Int) - 1):=st;rw[e1]at st';refine wpAny_pyNext_rev_item st' p.isList (x:=u) (by simpa using hu) λh' st2 sb=>?_;have I1:Inv X pins σ H {s with heap:=h'}:=I.turned (t':=s.toks) (λb o hb e=>(sb.2 b hb).trans e) f0 f1 f3 f4 f5;obtain⟨o,e,c,d⟩:=id st2;have e2:((xs.length - 1 - i:Nat):Int) - 1=(((n - (i+1):Nat):Int) - 1):=by omega
  refine⟨u,rfl,KQ (s:={s with heap:=h'}) e c d (by decide) ⟨x,H,I1,ru,⟨rfl,λys hy=>by rw[I.list_inj hy hq];exact hx⟩,?_,λb hb=>(hf b hb).1⟩⟩;dsimp only;rw[<-e2];exact st2
 done:=by
  intro X hP hw hK hc i pins s σ H E I hf st hg;subst hP hw hK;have hg:n<=i:=hg;obtain⟨f0,f1,f2,f3,f4,f5⟩:=hf it (by simp);have e1:(((n - i:Nat):Int) - 1)= -1:=by omega
  have st:s.heap.IsRevIter it l (((n - i:Nat):Int) - 1):=st;rw[e1]at st;exact wpAny_pyNext_rev_end (I.ok.hd hc) st λh' eb=>⟨rfl,I.turned (t':=s.toks) (λb o hb e=>eb b o hb e) f0 f1 f3 f4 f5⟩
 self:=λ_ _ _ _ _ st h=>wpAny_pyIter_revIter st h
section
variable{X:Cx}{W:XW}{a e:Expr}{tg:Expr}{p pos:Pos}{ta:TA}{f:AX}{af:Rho->Sto->R (List Er)}
def LZ:bootBuiltins "reversed"=some (.type "reversed"):=by decide+kernel
def iRev(K:Ud)(ta:TA):TI:=λσ H R=>ta σ H λvs H1=> ∃l xs,vs=[.ref l]/\SqL K H1 l xs/\R (Itv K l xs.length) H1
def Nb(hg:Gl X "reversed")(hm:X.mg "reversed"=none)(ha:PA X [a] ta)(hs:starEach [a] X.env=[(false,eval a X.env)]:=by rfl):
  PI X tg (.Call (.Name "reversed" p) [a] [] pos) (iRev X.K ta):=by
 intro pins s σ H R I h;refine Call_ (rN I hg hm LZ (PyProof.Rows.callWith_type1 (wO (ha pos pins s σ H _ I h) λus s1 ⟨vs,H1,I1,r1,q1⟩=>?_) (by rw[hs];rfl) (by rfl)));obtain⟨l,xs,rfl,c1,q⟩:=q1
 cases r1 with
 |cons r rr=>
  cases rr;cases r;obtain⟨its,v1,p1,_⟩:=I1.list c1;refine call_reversed_list p1.isList (wpAny_pyIter_revIter (i:=(its.toArray.size:Int) - 1) (l:=l) ⟨_,Heap.get?_push_size _ rfl,rfl,rfl⟩ ?_);refine⟨s1.heap.objs.size,[s1.heap.objs.size],_,_,H1,rfl,I1.kept (t':=s1.toks) λb o e=>hP0 _ e,ZL l _ xs.length,⟨_,Heap.get?_push_size _ rfl,rfl,?_⟩,λb hb=>?_,q⟩
  .have:((xs.length - 0:Nat):Int) - 1=(its.toArray.size:Int) - 1:=by rw[v1.length];simp
   rw[this];rfl
  .have e:b=s1.heap.objs.size:=by simpa using hb
   subst e;exact I1.fpOk (Nat.le_refl _) (I1.hok.fresh (Nat.le_refl _))
def Sx(rs:List Er)(S:Sto):R Wk:=match rs with
 |[p]=>match srcOf S p with
  |some a=>if a.k=true then .ok ⟨a.ds.reverse,a.gs⟩ S else .no
  |none=>.no
 |_=>.no
def Nc(hg:Gl X "reversed")(hm:X.mg "reversed"=none)(ha:GY X W [a] af)(hs:starEach [a] X.env=[(false,eval a X.env)]:=by rfl):
  LH X W tg (.Call (.Name "reversed" p) [a] [] pos) (λρ S=>(af ρ S).bind Sx):=by
 obtain⟨t,ha,k⟩:=ha;refine⟨_,Nb hg hm ha hs,λα ρ S σ H Rc wd sl q=>k α ρ S σ H _ wd sl (q.bind λvs rs S1 α1 H1 e x1 w1 d1 q1=>?_)⟩
 replace q1:=q1.shift x1
 unfold Sx at q1;split at q1
 .rename_i r1;split at q1
  .rename_i s1 e1;split at q1
   .rename_i hk;obtain⟨u,rfl,du⟩:=DI d1;obtain⟨l1,P1,rfl,p1,D1⟩:=PQ w1 e1 du;have gk: ∀α S H,P1 α S H-> ∃vs,SqL X.K H l1 vs/\DenL X.K α H s1.ds vs:=λα S H h=>by have:=D1.get _ _ _ h;rw[hk]at this;exact this
    obtain⟨vs,g1,g2⟩:=gk _ _ _ p1;have hl:=g2.length;refine⟨l1,vs,rfl,g1,q1.here (u:=Itv X.K l1 vs.length) w1 ⟨λα S H=>P1 α S H,?_,p1,?_,?_⟩⟩
    .intro i α2 S2 H2 b1 w2;obtain⟨us,c1,c2⟩:=gk _ _ _ b1;have hl2:=c2.length;refine⟨λhi=>?_,λhi=>?_⟩
     .have hi:i<s1.ds.reverse.length:=hi;rw[List.length_reverse]at hi;have h1:i<us.reverse.length:=by rw[List.length_reverse];omega
      refine⟨⟨us,us.reverse[i],c1,by omega,gE h1⟩,?_⟩;rintro x H' ⟨rfl,hx⟩;obtain⟨d,hd,dd⟩:=c2.reverse.get (hx us c1);exact⟨Ext.refl _ _,w2,b1,d,hd,dd⟩
     .have hi:s1.ds.reverse.length<=i:=hi;rw[List.length_reverse]at hi;show vs.length<=i;omega
    .intro α1 S1 H1 α2 S2 H2 b1 x w hs;exact D1.stays _ _ _ _ _ _ b1 x w hs
    .exact D1.st _ _ _ p1
   .exact q1.elim
  .exact q1.elim
 .exact q1.elim
def MA(F:Er->Er->Sto->R Er)(i:Nat)(f:AX)(ρ:Rho)(S:Sto):R Fl:=(Dq (ρ[i]?) S).bind λp S1=>(f ρ S1).bind λq S2=>(F p q S2).bind (FZ ρ i)
def Ij{op:Operator}{C:Int->Int->Prop}{g:Int->Int->Int}(h: ∀(i j:Int)(t u:Tok)(s:Shared)(Q:VP),C i j->Q (.int (g i j) s.toks) {s with toks:=s.toks+1}->wpAny (model X.prog X.w) X.A (inplaceOp op (.int i t) (.int j u)) Q X.xe s):
  PIp X op (λx y H Q=> ∃i j,x=.int i/\y=.int j/\C i j/\Q (.int (g i j)) H):=by
 intro pins s σ H x y u v Q I rx ry h';obtain⟨i,j,rfl,rfl,hc,q⟩:=h';obtain⟨t,rfl⟩:=rx;obtain⟨t',rfl⟩:=ry;exact h i j t t' s _ hc ⟨.int _,H,I.tok _,⟨_,rfl⟩,q⟩
def ZM{op:Operator}{C:Int->Int->Prop}[∀i j,Decidable (C i j)]{g:Int->Int->Int}(i:Nat){x:Str}{pos':Pos}(ho:PIp X op (λx y H Q=> ∃i j,x=.int i/\y=.int j/\C i j/\Q (.int (g i j)) H))(hN:X.N.Nodup)(he:zT X W e f)
  (hi:X.N[i]? =some x:=by rfl) (hx:Loc X.env.scope x:=by first |exact Or.inl rfl|exact Or.inr rfl) (hf:X.fn x=true\/X.env.scope.names.lookup x=some .local:=by first |exact .inl rfl|exact .inr rfl|assumption):
  HC X W (.AugAssign (.Name x pos') op e pos) (MA (YJ C g) i f):=by
 obtain⟨t,he,k⟩:=he;refine⟨_,Kf hN hi hx he ho hf,λα ρ S σ H D wd sl q=>?_⟩;unfold MA at q
 cases z:ρ[i]? with
 |none=>rw[z]at q;exact q.elim
 |some o=>
  cases o with
  |none=>rw[z]at q;exact q.elim
  |some d=>
   rw[z]at q;obtain⟨v,h1,h2⟩:=sl.slot i d z;refine⟨v,h1,k α ρ S σ H _ wd sl (PostS.expr q λu r S1 α1 H1 e x1 w1 d1 q1=>?_)⟩;unfold YJ at q1;split at q1
   .rename_i a b S0 hd;cases hd;split at q1
    .rename_i hc;cases yW h2;have:=yX d1.1;subst this;exact⟨_,_,rfl,rfl,hc,q1 _ α1 H1 x1 w1 ((sl.ext x1).set (yV _))⟩
    .exact q1.elim
   .exact q1.elim
abbrev ZN:=YJ mulC λi j=>i * j
def Gd(i:Nat){x:Str}{pos':Pos}(hN:X.N.Nodup)(he:zT X W e f)(hi:X.N[i]? =some x:=by rfl)(hx:Loc X.env.scope x:=by first |exact Or.inl rfl|exact Or.inr rfl)(hf:X.fn x=true\/X.env.scope.names.lookup x=some .local:=by first |exact .inl rfl|exact .inr rfl|assumption):
  HC X W (.AugAssign (.Name x pos') .Mult e pos) (MA ZN i f):=ZM i (Ij λ_ _ _ _ _ _ hc q=>imul_int q hc.ok) hN he hi hx hf
def Ge(i:Nat){x:Str}{pos':Pos}(hN:X.N.Nodup)(he:zT X W e f)(hi:X.N[i]? =some x:=by rfl)(hx:Loc X.env.scope x:=by first |exact Or.inl rfl|exact Or.inr rfl)(hf:X.fn x=true\/X.env.scope.names.lookup x=some .local:=by first |exact .inl rfl|exact .inr rfl|assumption):
  HC X W (.AugAssign (.Name x pos') .FloorDiv e pos) (MA iS i f):=ZM i (Ij λi j _ _ _ _ hc q=>by
 have e:i.fdiv j=i / j:=Int.fdiv_eq_ediv_of_nonneg i (Int.le_of_lt hc.1);refine ifloordiv_int (by have:=hc.1;omega) ?_ (.inl (PyProof.noPylong_of_log2 hc.2));rw[e];exact q) hN he hi hx hf
def intsOf:List MV->Option (List Int)
 |[]=>some []
 |.int i::ds=>(intsOf ds).map (i::·)
 |_::_=>none
theorem ints_of{K:Ud}{α:Tg}{H:Hp}: ∀{ds:Ug}{ns:Tc}{vs:List V}{us:Td},intsOf ds=some ns->DenL K α H ds vs->Vals vs us->IntsAre us ns
 |[],ns,vs,us,e,d,r=>by cases e;rw[d.isnil]at r;cases r;exact .nil
 |x::ds,ns,vs,us,e,d,r=>by
  obtain⟨v,r',rfl,d1,d2⟩:=d.uncons
  cases r with
  |cons a b=>
   cases x<;>first |(cases e)|skip
   unfold intsOf at e
   cases z:intsOf ds with
   |none=>rw[z]at e;cases e
   |some ms=>
    rw[z]at e;cases e;cases yW d1;obtain⟨t,rfl⟩:=a;exact .cons _ _ (ints_of z d2 b)
def qF: ∀{us:Td}{ns:Tc},IntsAre us ns->Vals (ns.map V.int) us:=λhh=>by
 induction hh with
 |nil=>exact .nil
 |cons n t h ih=>exact .cons ⟨t,rfl⟩ (ih)
theorem vV:CallR X (.builtin "sorted") (λxs H Q=> ∃l vs ds ns α,xs=[.ref l]/\SqL X.K H l vs/\intsOf ds=some ns/\DenL X.K α H ds vs/\ds.length<64/\ ∀p,H p=none->Q (.ref p) (gH H p (.lst ((PySem.W.sortI ns).map V.int)))):=by
 intro pins s σ H xs us Q I r h;obtain⟨l,vs,ds,ns,α,rfl,hl,hi,hd,hz,q⟩:=h;obtain⟨u,rfl,rx⟩:=vals1 r;cases rx;obtain⟨its,rv,p,_⟩:=I.list hl;have ia:=ints_of hi hd rv;have hlen:its.length<64:=by have:=rv.length;have:=hd.length;lia
 refine sorted_ints p.isList ia hlen λout ns' a1 a2 a3=>?_;obtain⟨e,he⟩:=sortedAll_at s.heap its out;have en:=PySem.W.eq_sortI a2 a3;subst en;refine⟨.ref _,_,I.laid (λb o e=>sortedAll_old e) (le_succ _) (show ObjOk X.prog X.w _ _ _ (.lst _)from⟨?_,_,e,qF a1,?_⟩),rfl,q _ (I.hok.fresh (le_succ _))⟩
 .have e1:=(qF a1).length;have e2:=a2.length_eq;have e3:=(qF ia).length;have:=sizeLine_eq;rw[lM]at e1 e3 ⊢
  lia
 .rw[Array.toArray_toList];exact he
def lQ:bootBuiltins "sorted"=some (.builtin "sorted"):=by decide+kernel
def DX(rs:List Er)(S:Sto):R Er:=match rs with
 |[p]=>match jI S p with
  |some ds=>if ds.length<64 then(match intsOf ds with |some ns=>.ok (.new ((PySem.W.sortI ns).map MV.int)) S|none=>.no)else .no
  |none=>.no
 |_=>.no
def JN:pA X W (λxs H Q=> ∃l vs ds ns α,xs=[.ref l]/\SqL X.K H l vs/\intsOf ds=some ns/\DenL X.K α H ds vs/\ds.length<64/\ ∀p,H p=none->Q (.ref p) (gH H p (.lst ((PySem.W.sortI ns).map V.int)))) DX:=by
 intro rs vs α S H Q wd d post;unfold DX at post;split at post
 .split at post
  .rename_i ds e;split at post
   .rename_i hz;split at post
    .rename_i ns hi;obtain⟨v,rfl,dv⟩:=pC d;obtain⟨l,us,rfl,h1,h2⟩:=dS rfl wd e dv;exact⟨l,us,ds,ns,α,rfl,h1,hi,h2,hz,λp hp=>Post.newl post wd hp (vK _)⟩
    .exact post.elim
   .exact post.elim
  .exact post.elim
 .exact post.elim
end
def KJ(n:Nat)(F:List MV->Sto->R Er)(a:Rho->Sto->R (List Er))(ρ:Rho)(S:Sto):R Er:=(noX (a ρ S)).bind λr S=>SF n F r S
def LJ(c:AZ)(f g:AX)(ρ:Rho)(S:Sto):R Er:=(noX (c ρ S)).bind λk S=>if k=true then f ρ S else g ρ S
def MJ(cs:Th)(i:Nat)(h:AY)(f:AX)(ρ:Rho)(S:Sto):R Fl:=Mt cs i (λ_ S=>.ok (.next ρ) S) h ρ (f ρ S)
section
variable{X:Cx}{W:XW}
def ZO:bootBuiltins "sum"=some (.builtin "sum"):=by decide+kernel
def PZ: ∀{us:Td}{ns:Tc},IntsAre us ns-> ∃xs:Array (Int×Tok),us.toArray=intItems xs/\preSum (numAt xs) xs.size=ns.sum:=by intro us ns h;obtain⟨xs,hx⟩:=h.allInts.items;refine⟨xs,hx,?_⟩;rw[preSum_eq,List.take_of_length_le (by simp), <-nums_intItems, <-hx,show us.toArray.toList=us from rfl,h.numsOf]
def HN:CallR X (.builtin "sum") (λxs H Q=> ∃l vs ds ns α,xs=[.ref l]/\SqL X.K H l vs/\intsOf ds=some ns/\DenL X.K α H ds vs/\X.calm=true/\Q (.int ns.sum) H):=by intro pins s σ H xs us Q I r h;obtain⟨l,vs,ds,ns,α,rfl,hl,hi,hd,hc,q⟩:=h;obtain⟨u,rfl,rx⟩:=vals1 r;cases rx;obtain⟨its,rv,p,_⟩:=I.list hl;obtain⟨xs,hx,hsum⟩:=PZ (ints_of hi hd rv);have il:=p.isList;rw[hx]at il;refine sum_intListG (I.ok.hd hc) il λh' tk t' hk=>?_;rw[hsum];exact⟨.int _,H,I.kept (t':=tk) hk,⟨_,rfl⟩,q⟩
def sumF(rs:List Er)(S:Sto):R Er:=match rs with
 |[p]=>match jI S p with
  |some ds=>match intsOf ds with
   |some ns=>.ok (.val (.int ns.sum)) S
   |none=>.no
  |none=>.no
 |_=>.no
def SO(hc:X.calm=true):pA X W (λxs H Q=> ∃l vs ds ns α,xs=[.ref l]/\SqL X.K H l vs/\intsOf ds=some ns/\DenL X.K α H ds vs/\X.calm=true/\Q (.int ns.sum) H) sumF:=by
 intro rs vs α S H Q wd d post;unfold sumF at post;split at post
 .split at post
  .rename_i ds e;split at post
   .rename_i ns hi;obtain⟨v,rfl,dv⟩:=pC d;obtain⟨l,us,rfl,h1,h2⟩:=dS rfl wd e dv;exact⟨l,us,ds,ns,α,rfl,h1,hi,h2,hc,Post.val post wd (yV _)⟩
   .exact post.elim
  .exact post.elim
 .exact post.elim
end
end M
end L2
namespace L2
open PySem PySem.Spec PyProof.Rows
namespace M
structure OC(K:Ud)(c:Str)(C:Addr):Prop where
 ns:PySem.W.nsIn K mainGlobals c=some (some (.ref C))
 nm:(PySem.W.clsIn K C).map (·.name)=some c
 cl:Cls K C
section
variable{f:AX}{af:Rho->Sto->R (List Er)}{p:Pos}{m:Str}
def selM(m:Str)(l:List (Str×(List MV->Sto->R Er))):Er->Option (List MV->Sto->R Er)
 |.val (.obj c ns _)=>if m∈ns then none else l.lookup c
 |_=>none
def NJ(m:Str)(n:Nat)(l:List (Str×(List MV->Sto->R Er)))(f:AX)(af:Rho->Sto->R (List Er))(ρ:Rho)(S:Sto):R Er:=(f ρ S).bind λp S=>match selM m l p with
 |some F=>(af ρ S).bind λr S=>zQ n F (p::r) S
 |none=>.no
end
theorem args_sorted1(a:Value):argsOk "sorted" ⟨[a],[]⟩:=by unfold argsOk;kernel_rfl
def shrC(i j:Int):Prop:=0<=j
instance(i j:Int):Decidable (shrC i j):=inferInstanceAs (Decidable (_<=_))
theorem HP{K:Ud}{α:Tg}{H:Hp}: ∀{ds:Ug}{ys:Tc}{vs:List V},intsOf ds=some ys->DenL K α H ds vs->vs=ys.map V.int
 |[],ys,vs,h,d=>by cases h;rw[d.isnil];rfl
 |x::ds,ys,vs,h,d=>by
  obtain⟨v,r,rfl,dv,l⟩:=d.uncons
  cases x with
  |int x=>
   unfold intsOf at h
   cases z:intsOf ds with
   |none=>rw[z]at h;cases h
   |some zs=>
    rw[z]at h;cases h;rw[List.map_cons,yW dv,HP z l]
  |_=>cases h
section
variable{prog:Program}{w:World}{K:Type}[DecidableEq K]{knd:KeyKind prog w K}
def TSet(knd:KeyKind prog w K)(h:Heap)(a:Addr)(S:K->Bool)(n:Nat)(b:Bool):Prop:=
 ∃o es ep t,h.get? a=some o/\o.ExactSet/\o.data=.set es ep t/\ElemsOf knd es.toList/\(∀k,S k=true↔ ∃e∈es.toList,knd.is k e.2=true)
  /\es.size<scanBound/\t.fits es.size=true/\es.size=n/\t.led=b/\(es.size=0\/t.plain=false)/\(es.toList.map (·.2)).Pairwise (λx y=> ∀k,knd.is k x=true-> ¬knd.is k y=true)
end
abbrev BD(w:World):Bool:=w.params.followText "set-order"
def StrT(val:Nat->Key)(i:Nat)(v:Value):Prop:= ∃x t,val i=.inr x/\v=.str x t
def StrT.is{P:Program}{w:World}{val:Nat->Key}{i:Nat}{v:Value}(h:StrT val i v):(lK P w).is (val i) v=true/\v.scannable=true/\plainKind v=false:=by obtain⟨x,t,e,rfl⟩:=h;rw[e];exact⟨AB P w x t,rfl,rfl⟩
section
variable{P:Program}{w:World}{A:Around}{E:VP}{s:Shared}
def GE(a:Value){Q₁:VP}
  (h:Q₁ (.ref s.heap.objs.size) {s with heap:=s.heap.push (wM (!BD w))}):
  codeAny (model P w) A (.call (.builtin "set.__new__") ⟨[.type "set",a],[]⟩) (wants Q₁ E) s:=by
 refine codeAny_of_tree ?_;show wpAny _ A.in1 (do checkBuiltinCall "set.__new__" ⟨[.type "set",a],[]⟩;again (.builtin "set.__new__" ⟨[.type "set",a],[]⟩)) _ _ s;refine wB (wpAny_of_eq (F.newCall_set_1 a) (wP ⟨plainId_quiet F.plain_set_new _,codeAny_builtin F.entry_set_new ?_⟩));rw[Around.under_plainId F.plain_set_new _];unfold Builtin.«set.__new__» Builtin.Frozenset.newClass;have hsub:=sub_set_self;obtain⟨hp,g,d,tk,os⟩:=s;dsimp only
 wp_walk
 refine wpAny_askSetting (wP ?_);dsimp only;simp only[newObj];refine wB (wpAny_alloc (wP ?_));exact wP h
end
end M
end L2
namespace PySem.F
def slot_seti_next:Slot "set_iterator" "__next__" "set_iterator.__next__":=
 .of (owner:="set_iterator") (n:="__next__") (by rw[typeLookup_type,builtinLookup_eq_fast];kernel_rfl) (by decide+kernel) (by decide+kernel) (by decide+kernel)
  (by first |exact .inl (by decide+kernel)|exact .inr (by decide+kernel)) (by rw[isSubtype_type];kernel_rfl)
def entry_seti_next:entryFor table "set_iterator.__next__"=some Builtin.«set_iterator.__next__»:=entryFor_of_tree (by kernel_rfl)
def entry_set_iter':entryFor table "set.__iter__"=some Builtin.«frozenset.__iter__»:=entryFor_alias (id':="frozenset.__iter__") (by kernel_rfl) rfl (by decide+kernel) (by kernel_rfl)
theorem DY:Manifest.owners.lookup (String.ofList ['r', 'o', 't', 'a', 'r', 'e', 't', 'i', '_', 't', 'e', 's'].reverse)=some Manifest.sig_set_iterator:=by kernel_rfl
theorem args_seti_next(a:Value):argsOk "set_iterator.__next__" ⟨[a],[]⟩:=by unfold argsOk;rw[signature?_of (id:="set_iterator.__next__") (n:=['_', '_', 't', 'x', 'e', 'n', '_', '_']) (o:=['r', 'o', 't', 'a', 'r', 'e', 't', 'i', '_', 't', 'e', 's']) (by kernel_rfl) DY];kernel_rfl
end PySem.F
namespace L2
namespace M
open PySem PySem.Spec PyProof.Rows
section
variable{α:Type}
theorem DZ: ∀(l:List α)(i:Nat)(hi:i<l.length),(l[i]::l.eraseIdx i).Perm l
 |x::l,0,_=>.refl _
 |x::l,i+1,hi=>by
  have hi':=by simpa using hi
  have:=DZ l i hi';exact(List.Perm.swap x l[i] _).trans (this.cons x)
def SetAt(h:Heap)(D:Addr)(es:Tj)(ep:Nat)(t:SetTable):Prop:= ∃o,h.get? D=some o/\o.ExactSet/\o.data=.set es ep t/\t.fits es.size=true
abbrev dW(h:Heap)(it:Addr)(first:Value)(i n ep:Nat)(D:Addr):Prop:=h.get? it=some {cls:=.type "set_iterator",dict:=none,data:=.fields #[first,rawInt i,.ref D,rawInt n,rawInt ep],slots:=#[]}
end
theorem SQ{α:Type}(next:Nat->Nat): ∀(fuel k:Nat)(left:List α)(out:Array α),left.length=fuel->(pickOrder.go next fuel k left out).toList.Perm (out.toList++left)
 |0,k,left,out,h=>by have e:=List.eq_nil_of_length_eq_zero h;subst e;unfold pickOrder.go;rw[aN]
 |fuel+1,k,left,out,h=>by
  have hi:next k % left.length<left.length:=mod_lt _ (by lia)
  unfold pickOrder.go;rw[gE hi];refine(SQ next fuel _ _ _ (by rw[List.length_eraseIdx_of_lt hi,h];rfl)).trans ?_;rw[Array.toList_push,aA];exact(DZ left _ hi).append_left out.toList
def qG{α:Type}(next:Nat->Nat)(xs:Array α):(pickOrder next xs).toList.Perm xs.toList:=by
 have:=SQ next xs.size 0 xs.toList #[] (by simp)
 simpa [pickOrder]using this
section
variable{prog:Program}{w:World}{A:Around}{E:VP}{s:Shared}
theorem VW{it D:Addr}{i n ep:Nat}{es:Tj}{t:SetTable}{hx:Int}{x:Value}{Q:Option Value->Shared->Prop}(hb:BD w=true)(hit:dW s.heap it (rawInt 0) i n ep D)(hS:SetAt s.heap D es ep t)(hn:es.size=n)
  (he:(pickOrder (w.params.setOrder D ep) es)[i]? =some (hx,x))
  (hQ: ∀h',dW h' it (rawInt 0) (i+1) n ep D->Heap.SameBut it s.heap h'->Q (some x) {s with heap:=h'}):
  wpAny (model prog w) A (pyNext (.ref it)) Q E s:=by
 have hTi:s.TypeIs (.ref it) "set_iterator":=⟨_,hit,rfl⟩
 obtain⟨o,ho,hex,hd,hf⟩:=hS;unfold pyNext
 refine wB (wpAny_attempt (wpAny_callSpecial?_slot (name:=Str.ofString "__next__") hTi F.slot_seti_next
  (wpAny_call_entry F.slot_seti_next hTi F.entry_seti_next ?_ (F.args_seti_next _))))
 unfold Builtin.«set_iterator.__next__» slotArgs;refine wB (wP ?_);refine wB (wpAny_fieldsOf hit rfl ?_);dsimp only;refine wB (wpAny_setEntries_of ho hd hf ?_);rw[iN (by simp[hn])];dsimp only[rawInt];refine wB ?_;unfold setNext setsByText;refine wB (wpAny_setState_of ho hd hf ?_);dsimp only;refine wB (wB (wpAny_askSetting (wP ?_)));dsimp only;rw[iP (show(model prog w).w.params.followText "set-order"=true from hb),iN (by simp)];refine wB ?_;unfold setWalk setsByText;refine wB (wpAny_setState_of ho hd hf ?_);dsimp only;refine wB (wB (wpAny_askSetting (wP ?_)));dsimp only;rw[iP (show(model prog w).w.params.followText "set-order"=true from hb)];refine wB (wpAny_askSetting (wP ?_));refine wP ?_;dsimp only;rw[Int.toNat_natCast,show(pickOrder ((model prog w).w.params.setOrder D ep) es)[i]? =some (hx,x)from he];dsimp only[Option.map];refine wB (wpAny_setField hit rfl (by simp) ?_);refine wB (wpAny_setField (Heap.get?_update_self _ hit rfl) rfl (by simp) ?_);refine wP ⟨_,rfl,wP (hQ _ ?_ ((Heap.SameBut.update ..).trans (Heap.SameBut.update ..)))⟩;exact Heap.get?_update_self _ (Heap.get?_update_self _ hit rfl) rfl
def GF{it D:Addr}{i n ep:Nat}{es:Tj}{t:SetTable}{Q:Option Value->Shared->Prop}(hh:A.handled=none)(hb:BD w=true)(hit:dW s.heap it (rawInt 0) i n ep D)(hS:SetAt s.heap D es ep t)(hn:es.size=n)
  (he:(pickOrder (w.params.setOrder D ep) es)[i]? =none)
  (hQ: ∀h',Heap.ExtBut it s.heap h'->Q none {s with heap:=h'}):wpAny (model prog w) A (pyNext (.ref it)) Q E s:=by
 have hTi:s.TypeIs (.ref it) "set_iterator":=⟨_,hit,rfl⟩
 obtain⟨o,ho,hex,hd,hf⟩:=hS;unfold pyNext
 refine wB (wpAny_attempt (wpAny_callSpecial?_slot (name:=Str.ofString "__next__") hTi F.slot_seti_next
  (wpAny_call_entry F.slot_seti_next hTi F.entry_seti_next ?_ (F.args_seti_next _))))
 unfold Builtin.«set_iterator.__next__» slotArgs;refine wB (wP ?_);refine wB (wpAny_fieldsOf hit rfl ?_);dsimp only;refine wB (wpAny_setEntries_of ho hd hf ?_);rw[iN (by simp[hn])];dsimp only[rawInt];refine wB ?_;unfold setNext setsByText;refine wB (wpAny_setState_of ho hd hf ?_);dsimp only;refine wB (wB (wpAny_askSetting (wP ?_)));dsimp only;rw[iP (show(model prog w).w.params.followText "set-order"=true from hb),iN (by simp)];refine wB ?_;unfold setWalk setsByText;refine wB (wpAny_setState_of ho hd hf ?_);dsimp only;refine wB (wB (wpAny_askSetting (wP ?_)));dsimp only;rw[iP (show(model prog w).w.params.followText "set-order"=true from hb)];refine wB (wpAny_askSetting (wP ?_));refine wP ?_;dsimp only;rw[Int.toNat_natCast,show(pickOrder ((model prog w).w.params.setOrder D ep) es)[i]? =none from he];dsimp only[Option.map];refine wB (wpAny_setField hit rfl (by simp) ?_);show wpAny _ _ (newExc (.type "StopIteration") [] >>= _) _ _ _;refine wB ?_;simp only[newExc,newTuple];refine wB (wpAny_newObj_type ?_ (by size_fits));refine wB (m:=firstArgMember _ _) (wpAny_of_eq (a:=Value.none) (by first |rfl|(simp only[firstArgMember];rfl)) ?_);refine wpAny_newObj_type ?_ (by size_fits);simp only[raiseNew];refine wB (wpAny_handled ?_);rw[show A.in1.handled=none from hh];refine wB (wP (wpAny_throw ?_));refine wB (wpAny_isInstance (T:="StopIteration") (b:=true) ⟨_,Heap.get?_push_size _ rfl,rfl⟩ isSubtype_stop ?_);exact wP (hQ _ (((Heap.SameBut.update ..).extBut.push _).push _))
end
abbrev Nd(first:Value)(n ep:Nat)(D:Addr):Obj:={cls:=.type "set_iterator",dict:=none,data:=.fields #[first,rawInt (0:Nat),.ref D,rawInt n,rawInt ep],slots:=#[]}
end M
end L2
namespace PySem.F
def slot_seti_iter:Slot "set_iterator" "__iter__" "set_iterator.__iter__":=
 .of (owner:="set_iterator") (n:="__iter__") (by rw[typeLookup_type,builtinLookup_eq_fast];kernel_rfl) (by decide+kernel) (by decide+kernel) (by decide+kernel)
  (by first |exact .inl (by decide+kernel)|exact .inr (by decide+kernel)) (by rw[isSubtype_type];kernel_rfl)
def entry_seti_iter:entryFor table "set_iterator.__iter__"=some Builtin.«dict_keyiterator.__iter__»:=entryFor_alias (id':="dict_keyiterator.__iter__") (by kernel_rfl) rfl (by decide+kernel) (by kernel_rfl)
theorem args_seti_iter(a:Value):argsOk "set_iterator.__iter__" ⟨[a],[]⟩:=by unfold argsOk;rw[signature?_of (id:="set_iterator.__iter__") (n:=['_', '_', 'r', 'e', 't', 'i', '_', '_']) (o:=['r', 'o', 't', 'a', 'r', 'e', 't', 'i', '_', 't', 'e', 's']) (by kernel_rfl) DY];kernel_rfl
end PySem.F
namespace L2
namespace M
open PySem PySem.Spec PyProof.Rows
section
variable{prog:Program}{w:World}{A:Around}{E:VP}{s:Shared}
def HQ{it D:Addr}{first:Value}{i n ep:Nat}{Q:VP}(hit:dW s.heap it first i n ep D)(hQ:Q (.ref it) s):wpAny (model prog w) A (pyIter (.ref it)) Q E s:=by
 have hT:s.TypeIs (.ref it) "set_iterator":=⟨_,hit,rfl⟩
 refine wpAny_pyIter_slot hT F.slot_seti_iter (wpAny_call_entry F.slot_seti_iter hT F.entry_seti_iter ?_ (F.args_seti_iter _));unfold Builtin.«dict_keyiterator.__iter__» slotArgs;refine wB (wP ?_);exact wP ⟨_,rfl,"set_iterator",_,hT,F.slot_seti_next.lookup,hQ⟩
def SetAt.keep{h h':Heap}{D:Addr}{es:Tj}{ep:Nat}{t:SetTable}(x:SetAt h D es ep t)(m: ∀o,h.get? D=some o->h'.get? D=some o):SetAt h' D es ep t:=by obtain⟨o,ho,r⟩:=x;exact⟨o,m o ho,r⟩
def VX(hh:A.handled=none)(hb:BD w=true){I D:Addr}(hDI:D≠I){es:Tj}{ep:Nat}{t:SetTable}:
  Walks prog w A I [I,D] [I] es.size (λi v=> ∃e,(pickOrder (w.params.setOrder D ep) es)[i]? =some e/\v=e.2) (λi h=>dW h I (rawInt 0) i es.size ep D/\SetAt h D es ep t) where
 sub:=λb hb=>by simp at hb;simp[hb]
 frame:=λi h h' st hk=>⟨hk I (by simp) _ st.1,st.2.keep λo e=>hk D (by simp) o e⟩
 item:=λi s Q E hi st hQ=>by
  have hlen:(pickOrder (w.params.setOrder D ep) es).size=es.size:=by rw[<-Array.length_toList,(qG _ es).length_eq,Array.length_toList]
  have he:(pickOrder (w.params.setOrder D ep) es)[i]? =some ((pickOrder (w.params.setOrder D ep) es)[i]'(by omega)):=Array.getElem?_eq_getElem _;refine VW (x:=((pickOrder (w.params.setOrder D ep) es)[i]'(by omega)).2) (hx:=((pickOrder (w.params.setOrder D ep) es)[i]'(by omega)).1) hb st.1 st.2 rfl he λh' hit' hs'=>?_;refine hQ _ h' s.toks ⟨_,he,rfl⟩ ⟨hit',st.2.keep λo e=>hs'.extBut D o hDI e⟩ λb o hb e=>hs'.extBut b o (λz=>hb (by simp[z])) e
 done:=λs Q E st hQ=>by
  have hlen:(pickOrder (w.params.setOrder D ep) es).size=es.size:=by rw[<-Array.length_toList,(qG _ es).length_eq,Array.length_toList]
  exact GF hh hb st.1 st.2 rfl (Array.getElem?_eq_none (by omega)) λh' he'=>hQ h' s.toks λb o hb e=>he' b o (λz=>hb (by simp[z])) e
 self:=λi s Q E st hQ=>HQ st.1 hQ
def QA{t:SetTable}{n:Nat}(h:t.fits n=true):t.place.size=n:=by simp only[SetTable.fits,aE,beq_iff_eq,decide_eq_true_eq]at h;exact h.1
end
section
variable{prog:Program}{w:World}{A:Around}{E:VP}{s:Shared}
def ZP{r:Addr}{Q:Bool->Shared->Prop}(hT:s.TypeIs (.ref r) "set")(h:Q false s):wpAny (model prog w) A (Builtin.List.listLengthHint (.ref r)) Q E s:=by
 unfold Builtin.List.listLengthHint;refine wB (wpAny_specialOf hT PySem.F.slot_set_len.lookup ?_);generalize hid:("set.__len__":String)=id0
 wp_delta
 rw[show splitId id0=some ("set","__len__")from by subst hid;decide+kernel];subst hid;refine wB (wpAny_isInstance (T:="set") (b:=true) hT (by rw[isSubtype_type];kernel_rfl) ?_);refine wpAny_ite_split (λhab=>absurd hab (by decide)) (λ_=>?_);refine wpAny_ite_split (λ_=>?_) (λhab=>absurd (by decide+kernel) hab);refine wB (wpAny_typeOf hT ?_);exact wP h
def ZQ{P:Nat->Value->Prop}{acc:Te}{n:Nat}{l:Td}(h:ItemsOf P acc n)(hl:l.length=n)(hP: ∀i v,P i v->l[i]? =some v):acc.toList=l:=by
 refine ext_getElem? λi=>?_;by_cases hi:i<acc.size
 .have e:acc[i]? =some acc[i]:=Array.getElem?_eq_getElem hi;have:=hP i _ (h.2 i _ e);rw[this,Array.getElem?_toList,e]
 .have h1:=h.1;rw[getElem?_eq_none (by rw[Array.length_toList];omega),getElem?_eq_none (by omega)]
abbrev Rm(prog:Program)(w:World)(A:Around)(r:Addr)(s:Shared)(S:Addr)(n:Nat)(G:Array Value->Prop):Prop:=
 ∀(E:VP)(Q:VP),(∀(h':Heap)(d':Drawn)(I:Addr)(fp wr:Tg)(P:Nat->Value->Prop)(St:Nat->Heap->Prop),Walks prog w A I fp wr n P St->St 0 h'->S∉fp->(∀b∈wr,s.heap.objs.size<=b)->(∀b o,s.heap.get? b=some o->h'.get? b=some o)->(∀acc,ItemsOf P acc n->G acc)->Q (.ref I) {s with heap:=h',drawn:=d'})->wpAny (model prog w) A (pyIter (.ref r)) Q E s
end
section
variable{prog:Program}{w:World}{A:Around}{s:Shared}
def QB{R:Result->Shared->Prop}{r S:Addr}{n:Nat}{G:Array Value->Prop}(hpk:Rm prog w A.in1 r s S n G)(hT:s.TypeIs (.ref r) "set")(hSr:S≠r)(res:Value)(c₀:Nat)(hS:s.heap.get? S=some {cls:=.type "list",data:=.seq #[] c₀})(hn:n<=sizeLine)
  (hR: ∀h' tk d' acc' c',(∀b o,b≠S->s.heap.get? b=some o->h'.get? b=some o)->h'.get? S=some {cls:=.type "list",dict:=none,data:=.seq acc' c',slots:=#[]}->G acc'->R (.ok (.ret res)) {s with heap:=h',toks:=tk,drawn:=d'}):
  wpAny (model prog w) A.in1 (Builtin.List.listExtendWith (.ref S) (.ref r) res)
   (λfin s'=>match fin with |.done f=>R (.ok f) s'|.again c'=>c'.quiet=true/\codeAny (model prog w) A c' R s') (λe s'=>R (.error e) s') s:=by
 unfold Builtin.List.listExtendWith;refine wB (wpAny_typeOf (T:="set") hT ?_);have h1:Builtin.List.listSameRef (.ref S) (.ref r)=false:=by simp[Builtin.List.listSameRef,hSr]
 have h2:(Value.type "set"==Value.type "list")=false:=by decide
 have h3:(Value.type "set"==Value.type "tuple")=false:=by decide
 simp only[h1,h2,h3,Bool.or_false,fT,iF];refine wB (hpk _ _ λh₀ d₀ I fp wr P St W st hSf hwr hk₀ hG=>?_)
 have key: ∀(h:Heap)(c₁ tk:Nat),St 0 h->(∀b o,b≠S->s.heap.get? b=some o->h.get? b=some o)->
   h.get? S=some {cls:=.type "list",data:=.seq #[] c₁}->codeAny (model prog w) A (.builtin "list.extend.loop" ⟨[.ref S,.ref I,res],[]⟩) R {s with heap:=h,toks:=tk,drawn:=d₀}:=by
  intro h c₁ tk hst hk hS₁;refine codeAny_extend_loopS W.toS hn S hSf res n 0 _ #[] c₁ rfl (zero_le _) hst hS₁ (ItemsOf.nil _) λs' acc' c' hm hS' hacc=>?_;rw[Moved.eq_with hm];refine hR s'.heap s'.toks d₀ acc' c' (λb o hb e=>hm.heap b o (λhmem=>?_) (hk b o hb e)) hS' (hG _ hacc);rcases mC.mp hmem with e'|hmem
  .exact hb e'
  .exact absurd (Heap.lt_size e) (Nat.not_lt.mpr (hwr b hmem))
 have hS₁:=hk₀ S _ hS;have hT₁:Shared.TypeIs {s with heap:=h₀,drawn:=d₀} (.ref r) "set":=by obtain⟨o,ho,hc⟩:=hT;exact⟨o,hk₀ r o ho,hc⟩
 refine wB (wpAny_holding (ZP hT₁ ?_));refine wpAny_ite_split (λ_=>?_) (λ_=>wP ⟨plainId_quiet PySem.F.plain_extend_loop _,key _ c₀ _ st (λb o _ e=>hk₀ b o e) hS₁⟩);refine wB (wpAny_rule ?_);refine wB ?_;show wpAny _ _ (updateSeq S (·.push .none) >>= λ_=>updateSeq S (·.pop)) _ _ _;refine wB (wpAny_updateSeq hS₁ rfl ?_);have hS₂:=Heap.get?_update_self (Obj.mapSeq (·.push Value.none)) hS₁ rfl;refine wpAny_updateSeq (hz:=by seq_fits) hS₂ rfl ?_;have hS₃:=Heap.get?_update_self (Obj.mapSeq (·.pop)) hS₂ rfl;refine wP ⟨plainId_quiet PySem.F.plain_extend_loop _,key _ _ _ ?_ (λb o hb e=>?_) hS₃⟩
 .refine W.frame 0 _ _ st λb hb o e=>?_;have hbS:b≠S:=λh=>hSf (h▸hb);exact(Heap.get?_update_other _ _ (Ne.symm hbS)).trans ((Heap.get?_update_other _ _ (Ne.symm hbS)).trans e)
 .exact(Heap.get?_update_other _ _ (Ne.symm hb)).trans ((Heap.get?_update_other _ _ (Ne.symm hb)).trans (hk₀ b o e))
end
end M
end L2
namespace L2
open PySem PySem.Spec PyProof.Rows
variable{X:Cx}{pins:Tk}{σ:St}{H H':Hp}{s:Shared}{h':Heap}
def Inv.unD{t':Nat}{d':Drawn}(I:Inv X pins σ H s)(u:Un X.fs [] H H' s.heap h')(hok:HOk X.prog X.w H' h'):Inv X pins σ H' {s with heap:=h',toks:=t',drawn:=d'}:=by obtain⟨m,⟨o,es,ep,ho,r⟩,_⟩:=id I.loc;obtain⟨sl,hL⟩:=u.any ho I.free (by simp);exact I.step (g':=s.gens) (d':=d') (ch:=[]) (λ_ z=>nomatch z) (λb o _ hb _ e n=>u.keep b o e n hb (by simp)) (λb o _ hb _ e n=>u.slot b o e n hb (by simp)) (λb o _ e n=>u.free b o e n (by simp)) (λb o _ e=>u.there b o e (by simp)) u.tups u.frzs u.tbls (λm hm=>by obtain⟨o',es',ep',ho',r'⟩:=hm;rw[ho]at ho';cases ho';exact⟨_,es',ep',hL,r'⟩) hok I.bare
def Inv.keptD{t':Nat}{d':Drawn}(I:Inv X pins σ H s)(k: ∀b u,s.heap.get? b=some u->h'.get? b=some u):Inv X pins σ H {s with heap:=h',toks:=t',drawn:=d'}:=I.unD (Un.kept k) (I.hok.kept k)
end L2
namespace L2
namespace M
open PySem PySem.Spec PyProof.Rows
section
variable{m:Str}{c:Str}{C:Addr}
def DenF.len{K:Ud}{α:Tg}{H:Hp}: ∀{fs gs},DenF K α H fs gs->gs.length=fs.length:=λhh=>by
 induction hh with
 |nil=>exact rfl
 |cons b l ih=>exact by rw[lC,lC,ih]
def RMt(P:Program)(w:World)(K:Ud)(mg:Ti)(base:Heap)(m:Str)(k n:Nat)(c:Str)(F:List MV->Sto->R Er):Prop:= ∃C fa fd ps,OC K c C/\Meth K C m fa/\FnOk P w K mg base vE k fa fd ps (LK ⟨K,mg,P,w⟩ n F)/\Binds K fd ps []
end
def KX(l:Bool)(K:Ud)(α:Tg)(H:Hp)(d:MV)(v:V):Prop:=if l=true then∃es a vs,d=.tup es/\v=.ref a/\H a=some (.lst vs)/\a∉α/\DenL K α H es vs else Den K α H d v
inductive KXL(l:Bool)(K:Ud)(α:Tg)(H:Hp):List MV->List V->Prop
 |nil:KXL l K α H [] []
 |cons {d v ds vs}:KX l K α H d v->KXL l K α H ds vs->KXL l K α H (d::ds) (v::vs)
def keyR(l:Bool)(d:MV):Er:=if l=true then(match d with |.tup es=>.new es|d=>.val d)else .val d
section
variable{l:Bool}{K:Ud}{α:Tg}{H:Hp}
def KXL.length: ∀{ds:Ug}{vs:List V},KXL l K α H ds vs->vs.length=ds.length:=λhh=>by
 induction hh with
 |nil=>exact rfl
 |cons h t ih=>exact by rw[lC,lC,ih]
def KXL.append: ∀{ds es:Ug}{vs us:List V},KXL l K α H ds vs->KXL l K α H es us->KXL l K α H (ds++es) (vs++us):=λhh=>by
 induction hh with
 |nil=>exact(λh=>h)
 |cons a t ih=>exact(λh=>.cons a (ih h))
theorem KXL.at: ∀{ds:Ug}{vs:List V}{i:Nat}{d:MV},KXL l K α H ds vs->ds[i]? =some d-> ∃v,vs[i]? =some v/\KX l K α H d v
 |_,_,0,_,.cons h t,e=>by cases e;exact⟨_,rfl,h⟩
 |_,_,i+1,_,.cons h t,e=>KXL.at (i:=i) t e
end
open Classical in
def KAt(d:Addr)(us:Td)(ep:Nat)(h:Heap):Prop:= ∃o es,h.get? d=some o/\o.ExactDict/\o.data=.dict es ep/\es.toList.map (·.key)=us
def KAt.at{d:Addr}{us:Td}{ep:Nat}{h h':Heap}(x:KAt d us ep h)(m: ∀o,h.get? d=some o->h'.get? d=some o):KAt d us ep h':=let ⟨o,es,ho,r⟩:=x;⟨o,es,m o ho,r⟩
theorem KAt.size{d:Addr}{us:Td}{ep:Nat}{h:Heap}(x:KAt d us ep h): ∃o es,h.get? d=some o/\o.ExactDict/\o.data=.dict es ep/\es.size=us.length/\ ∀i (hi:i<es.size),us[i]? =some es[i].key:=by obtain⟨o,es,ho,hc,hd,e⟩:=x;refine⟨o,es,ho,hc,hd,by rw[<-e,lM,Array.length_toList],λi hi=>?_⟩;rw[<-e,getElem?_map,Array.getElem?_toList,Array.getElem?_eq_getElem hi];rfl
mutual
def QC:Expr->List Str
 |.Name x _=>[x]
 |.Tuple es _ _=>Ro es
 |_=>[]
def Ro:List Expr->List Str
 |[]=>[]
 |e::es=>QC e++Ro es
end
section
variable{X:Cx}{W:XW}{iter:Expr}{pos:Pos}
abbrev gnN(T:Th)(N:Th)(idx:Db):List Str:=[]++T++idx.map λi=>(N[i]?).getD Str.empty
def ZR{elt tg:Expr}{ifs:Uc}{sc osc:Scope}{N ps:Th}{idx:Db}{itf:Rho->Sto->R Wk}{cf:AZ}{ef:AX}{gf:MV->Rho->Sto->R Rho}(S0:FnScope N ps osc)
  (hi:LH X W tg iter itf) (hg: ∀C s₂ H1 fp,(gnN (QC tg) N idx).Nodup->Lo (QC tg).length (zR X sc (QC tg) idx C s₂ H1 fp) W0 tg gf)
  (hc: ∀C s₂ H1 fp,LI (zR X sc (QC tg) idx C s₂ H1 fp) W0 ifs cf) (he: ∀C s₂ H1 fp,zT (zR X sc (QC tg) idx C s₂ H1 fp) W0 elt ef)
  (hcalm:X.calm=true:=by rfl) (e1:X.env.scope=osc:=by rfl) (e2:X.N=N:=by rfl) (hB:qY osc N sc idx=true:=by decide+kernel) (hN:(gnN (QC tg) N idx).Nodup:=by decide+kernel)
  (hs: ∀y,foldedSetIterable iter X.env y=pure y:=by intro _;rfl):
  zT X W (.ListComp elt [⟨tg,iter,ifs,0⟩] sc pos) (λρ S=>(itf ρ S).bind λk S1=>if k.ds.length<1000000 then(kI gf cf ef (GA (QC tg).length idx ρ) k.gs k.ds S1).bind λout S2=>.ok (.new out) S2 else .no):=IX osc N _ idx hi hcalm hg hc he e1 e2 hB hN hs
end
section
variable{P:Program}{w:World}{K:Ud}{mg:Ti}{base:Heap}{x qual:Str}{st:Stmt}{ps N:Th}{k:Nat}
abbrev ScK(N ps:Th)(sc:Scope):Prop:=N.Nodup/\N.take ps.length=ps/\(∀x∈ps,sc.names.lookup x=some .local\/sc.names.lookup x=some .cell)/\ ∀y∈sc.names,y.2≠.free
def okL{f:Addr}{fd:FuncData}(Fb:AY)(F:Fun K x qual st f fd)
  (h: ∀(cdv:Value)(A:Around)(outer:List Env)(s:Shared)(H:Hp)(E:XK),N.Nodup->FnScope N ps (zE st)->Room k (A.deeper (envOfC qual (zE st) s.heap.objs.size f cdv))->rX (IE vE P w K mg base N qual (zE st) f cdv A outer s H E).nox W0 (xQ st) Fb)
  (h4:ScK N ps (zE st):=by decide+kernel) (a:(zE st).kind=.function:=by rfl) (b:(zE st).isCoroutine=false:=by rfl) (c:(zE st).isGenerator=false:=by rfl):
  FnOk P w K mg base vE (k+1) f fd ps (LK ⟨K,mg,P,w⟩ ps.length λds S=>zX (Fb (zM N ds) S)):=
 have Sc:=⟨a,b,c,h4.1,h4.2.1,h4.2.2.1,h4.2.2.2⟩
 Lp Fb F Sc λcdv A outer s H E hr=>h cdv A outer s H E Sc.nd Sc hr
def Nf:Nat->(List Value->Prop)->Prop
 |0,p=>p []
 |n+1,p=> ∀a,Nf n λl=>p (a::l)
theorem Rp: ∀(us:Td){p:List Value->Prop},Nf us.length p->p us
 |[],_,h=>h
 |a::l,_,h=>Rp l (h a)
def forN{n:Nat}{p:List Value->Prop}(h:Nf n p)(us:Td)(e:us.length=n):p us:=Rp us (e▸h)
def okA(Fb:AY)(D:DefM K mg x st)
  (h: ∀(f:Addr)(cdv:Value)(A:Around)(outer:List Env)(s:Shared)(H:Hp)(E:XK),N.Nodup->FnScope N ps (zE st)->Room k (A.deeper (envOfC x (zE st) s.heap.objs.size f cdv))->rX (IE vE P w K mg base N x (zE st) f cdv A outer s H E).nox W0 (xQ st) Fb)
  (hb:PY x st ps:=by exact λ_ _ _ _ _ _=>forN (by(repeat intro _);rfl))
  (h4:ScK N ps (zE st):=by decide+kernel) (a:(zE st).kind=.function:=by rfl) (b:(zE st).isCoroutine=false:=by rfl) (c:(zE st).isGenerator=false:=by rfl):
  VV P w K mg base x (k+1) ps.length ps λds S=>zX (Fb (zM N ds) S):=
 Mz D hb λf _ F=>okL Fb F (h f) h4 a b c
end
section
variable{W:XW}{iter:Expr}{pos:Pos}
def ZS{X0:Cx}{sc0:Scope}{T0:Th}{idx0:Db}{C0:Addr}{s0:Shared}{H0:Hp}{fp0:Tg}{elt tg:Expr}{ifs:Uc}{sc osc:Scope}{N ps:Th}{idx:Db}{itf:Rho->Sto->R Wk}{cf:AZ}{ef:AX}{gf:MV->Rho->Sto->R Rho}(S0:FnScope N ps osc)
  (hi:LH (zR X0 sc0 T0 idx0 C0 s0 H0 fp0) W tg iter itf) (hg: ∀C s₂ H1 fp,(gnN (QC tg) (gnN T0 N idx0) idx).Nodup->Lo (QC tg).length (zR (zR X0 sc0 T0 idx0 C0 s0 H0 fp0) sc (QC tg) idx C s₂ H1 fp) W0 tg gf)
  (hc: ∀C s₂ H1 fp,LI (zR (zR X0 sc0 T0 idx0 C0 s0 H0 fp0) sc (QC tg) idx C s₂ H1 fp) W0 ifs cf) (he: ∀C s₂ H1 fp,zT (zR (zR X0 sc0 T0 idx0 C0 s0 H0 fp0) sc (QC tg) idx C s₂ H1 fp) W0 elt ef)
  (hcalm:X0.calm=true:=by rfl) (e1:X0.env.scope=osc:=by rfl) (e2:X0.N=N:=by rfl) (hB:qY (rlS sc0 osc) (gnN T0 N idx0) sc idx=true:=by decide+kernel) (hN:(gnN (QC tg) (gnN T0 N idx0) idx).Nodup:=by decide+kernel)
  (hs: ∀y,foldedSetIterable iter (zR X0 sc0 T0 idx0 C0 s0 H0 fp0).env y=pure y:=by intro _;rfl):
  zT (zR X0 sc0 T0 idx0 C0 s0 H0 fp0) W (.ListComp elt [⟨tg,iter,ifs,0⟩] sc pos) (λρ S=>(itf ρ S).bind λk S1=>if k.ds.length<1000000 then(kI gf cf ef (GA (QC tg).length idx ρ) k.gs k.ds S1).bind λout S2=>.ok (.new out) S2 else .no):=by
 subst e1 e2;exact IX _ _ _ idx hi hcalm hg hc he rfl rfl hB hN hs
end
def RMtX(P:Program)(w:World)(K:Ud)(mg:Ti)(base:Heap)(m:Str)(k n:Nat)(c:Str)(F:List MV->Sto->R Er):Prop:= ∃C fa fd ps,OC K c C/\Meth K C m fa/\FnOk P w K mg base (CXe P w) k fa fd ps (Sw ⟨K,mg,P,w⟩ n F)/\Binds K fd ps []
def RMtX.noX{P:Program}{w:World}{K:Ud}{mg:Ti}{base:Heap}{m:Str}{k n:Nat}{c:Str}{F:List MV->Sto->R Er}(T:RMtX P w K mg base m k n c F):RMt P w K mg base m k n c F:=let ⟨C,fa,fd,ps,oc,hm,G,hb⟩:=T;⟨C,fa,fd,ps,oc,hm,G.noX,hb⟩
def QD:Nat->Nat->Nat
 |0,x=>x
 |n+1,x=>QD n (5 * x+1)
theorem JO: ∀(m n x:Nat),QD (m+n) x=QD n (QD m x)
 |0,n,x=>by rw[Nat.zero_add];rfl
 |m+1,n,x=>by rw[succ_add];exact JO m n _
theorem SR: ∀k, ∃c d, ∀x,QD (2 ^ k) x=(1+2 ^ k * (4 * c)) * x+2 ^ k * (1+2 * d)
 |0=>⟨1,0,λx=>by show 5 * x+1=_;lia⟩
 |k+1=>by
  obtain⟨c,d,h⟩:=SR k;refine⟨c+2 ^ k * (2 * c * c),d+2 ^ k * c * (1+2 * d),λx=>?_⟩;rw[pow_succ,Nat.mul_two,JO]
  grind
theorem SU(m:Nat): ∀n x y:Nat,x % m=y % m->QD n x % m=QD n y % m
 |0,x,y,h=>h
 |n+1,x,y,h=>SU m n _ _ (by rw[Nat.add_mod,Nat.mul_mod,h, <-Nat.mul_mod, <-Nat.add_mod])
theorem SV: ∀(k x y:Nat),y<2 ^ k-> ∃l,l<2 ^ k/\QD l x % 2 ^ k=y
 |0,x,y,h=>⟨0,by simp,by simp at h;subst h;simp[Nat.mod_one]⟩
 |k+1,x,y,h=>by
  obtain⟨l,hl,e⟩:=SV k x _ (mod_lt _ (Nat.two_pow_pos k));obtain⟨c,d,hp⟩:=SR k;have h2:2 ^ _=2 ^ k * 2:=pow_succ ..;have hp0:=Nat.two_pow_pos k;rw[h2]at h ⊢;have ey:y=y % 2 ^ k+2 ^ k * (y / 2 ^ k % 2):=by rw[<-Nat.mod_mul];exact(Nat.mod_eq_of_lt h).symm
  have ez: ∀z,z % (2 ^ k * 2)=z % 2 ^ k+2 ^ k * _:=λz=>Nat.mod_mul;by_cases q:QD l x / 2 ^ k % 2=y / 2 ^ k % 2
  .exact⟨l,by lia,by rw[ez,e,q];exact ey.symm⟩
  .refine⟨l+2 ^ k,by lia,?_⟩;rw[JO,hp]
   have e2:(1+2 ^ k * (4 * c)) * QD l x+2 ^ k * (1+2 * d)=QD l x+2 ^ k+2 ^ k * 2 * (2 * c * QD l x+d):=by
    grind
   rw[e2,Nat.add_mul_mod_self_left,ez,Nat.add_mod_right,Nat.add_div_right _ hp0,e];have:(QD l x / 2 ^ k+1) % 2=y / 2 ^ k % 2:=by lia
   rw[this];exact ey.symm
theorem SW(h:Int):SetTable.bits h<2 ^ 64:=by
 unfold SetTable.bits;have:=eL h (show _<2 ^ 64 by decide)
 lia
def lp(mask:Nat):Nat->Nat×Nat->Nat×Nat
 |0,q=>q
 |n+1,q=>lp mask n (SetTable.leap mask q.1 q.2)
theorem ZT(mask:Nat): ∀(m n:Nat)(q),lp mask (m+n) q=lp mask n (lp mask m q)
 |0,n,q=>by rw[Nat.zero_add];rfl
 |m+1,n,q=>by rw[succ_add];exact ZT mask m n _
theorem SX(mask:Nat): ∀(m:Nat)(q),(lp mask m q).2=q.2 / 32 ^ m
 |0,q=>by simp[lp]
 |m+1,q=>by show(lp mask m _).2=_;rw[SX mask m];show q.2 / 32 / 32 ^ m=_;rw[Nat.div_div_eq_div_mul,pow_succ,Nat.mul_comm]
theorem SY(mask:Nat): ∀(m i:Nat),(lp mask m (i,0)).1 % (mask+1)=QD m i % (mask+1)
 |0,i=>rfl
 |m+1,i=>by show(lp mask m (_ % _,0 / 32)).1 % _=QD m _ % _;rw[Nat.zero_div,SY mask m,Nat.mul_comm];exact SU _ m _ _ (Nat.mod_mod _ _)
theorem Ik(mask:Nat): ∀(m:Nat)(q:Nat×Nat),q.1<mask+1->(lp mask m q).1<mask+1
 |0,q,h=>h
 |m+1,q,h=>Ik mask m _ (mod_lt _ (Nat.succ_pos _))
theorem MB{mask e:Nat}(he:mask+1=2 ^ e){i p j:Nat}(hi:i<mask+1)(hp:p<2 ^ 64)(hj:j<mask+1): ∃l,l<mask+14/\(lp mask l (i,p)).1=j:=by
 obtain⟨l,hl,e'⟩:=SV e (lp mask 13 _).1 j (by lia);have hz:(lp mask 13 (i,p)).2=0:=by rw[SX];exact Nat.div_eq_of_lt (Nat.lt_of_lt_of_le hp (by decide))
 have hq:lp mask 13 (i,p)=((lp mask 13 (i,p)).1,0):=by rw[<-hz]
 have h2:=SY mask l (lp mask 13 (i,p)).1;rw[<-hq, <-ZT,he,e', <-he,Nat.mod_eq_of_lt (Ik mask _ _ hi)]at h2;exact⟨13+l,by lia,h2⟩
def ad(t:SetTable):Nat->SetTable.Probe->SetTable.Probe
 |0,p=>p
 |n+1,p=>ad t n (t.advance p)
theorem EA(t:SetTable): ∀(m n:Nat)(p),ad t (m+n) p=ad t n (ad t m p)
 |0,n,p=>by rw[Nat.zero_add];rfl
 |m+1,n,p=>by rw[succ_add];exact EA t m n _
abbrev pH(t:SetTable)(q:Nat×Nat):SetTable.Probe:=⟨q.1,SetTable.runEnd t.mask q.1 - q.1,q.1,q.2,none⟩
theorem QE(t:SetTable)(i pt:Nat): ∀(m j:Nat),ad t m ⟨j,m,i,pt,none⟩=⟨j+m,0,i,pt,none⟩
 |0,j=>rfl
 |m+1,j=>by show ad t m _=_;unfold SetTable.advance;refine(QE t i pt m _).trans ?_;rw[add_assoc,add_comm 1 m]
theorem Gf(t:SetTable)(q:Nat×Nat): ∃c,c<=10/\ad t c (pH t q)=pH t (SetTable.leap t.mask q.1 q.2):=by refine⟨SetTable.runEnd t.mask q.1 - q.1+1,by unfold SetTable.runEnd;split<;>lia,?_⟩;rw[EA,QE];rfl
theorem Im(t:SetTable): ∀(l:Nat)(q:Nat×Nat), ∃c,c<=10 * l/\ad t c (pH t q)=pH t (lp t.mask l q)
 |0,q=>⟨0,by lia,rfl⟩
 |l+1,q=>by obtain⟨c,hc,e⟩:=Gf t q;obtain⟨d,hd,f⟩:=Im t l _;exact⟨c+d,by lia,by rw[EA,e,f];rfl⟩
theorem ZU{t:SetTable}{e:Nat}(he:t.mask+1=2 ^ e)(h:Int){j:Nat}(hj:j<t.mask+1): ∃n,n<10 * SetTable.turns t.mask/\(ad t n (t.probeStart h)).j=j:=by obtain⟨l,hl,f⟩:=MB he (mod_lt _ (Nat.succ_pos _)) (SW h) hj;obtain⟨c,hc,g⟩:=Im t l _;exact⟨c,by unfold SetTable.turns;lia,by rw[show t.probeStart h=pH t (SetTable.bits h % _,SetTable.bits h)from rfl,g];exact f⟩
theorem MC(t:SetTable): ∀(n:Nat)(p:SetTable.Probe),p.dummy=none->(ad t n p).dummy=none
 |0,p,h=>h
 |n+1,p,h=>MC t n _ (by unfold SetTable.advance;split<;>exact h)
def WW(xs:Array Nat):Prop:= ∀i j (hj:j<xs.size) (hi:i<j),xs[i]<xs[j]
theorem EB{xs:Array Nat}(hr:WW xs)(j:Nat): ∀(f lo hi:Nat),hi - lo<=f->lo<=hi->hi<=xs.size->(∀i (h:i<xs.size),i<lo->xs[i]<j)->(∀i (h:i<xs.size),hi<=i->j<=xs[i])->
  (SetTable.below.go xs j f lo hi<=xs.size/\(∀i (h:i<xs.size),i<SetTable.below.go xs j f lo hi->xs[i]<j)/\ ∀i (h:i<xs.size),SetTable.below.go xs j f lo hi<=i->j<=xs[i])
 |0,lo,hi,h1,h2,h3,h4,h5=>by
  have:lo=hi:=by lia
  subst this;exact⟨h3,h4,h5⟩
 |f+1,lo,hi,h1,h2,h3,h4,h5=>by
  unfold SetTable.below.go;by_cases c:lo<hi
  .rw[iP c];dsimp only;have hm:(lo+hi) / 2<xs.size:=by lia
   rw[show xs.getD _ j=xs[_ / 2] by simp[hm]];by_cases d:xs[_ / 2]<j
   .rw[iP d];refine EB hr j f _ _ (by lia) (by lia) h3 (λi h hi'=>?_) h5;by_cases g:i=(lo+hi) / 2
    .subst g;exact d
    .exact lt_trans (hr i _ hm (by lia)) d
   .rw[iN d];refine EB hr j f _ _ (by lia) (by lia) (by lia) h4 (λi h hi'=>?_);by_cases g:i=(lo+hi) / 2
    .subst g;lia
    .exact Nat.le_trans (Nat.le_of_not_lt d) (le_of_lt (hr _ i h (by lia)))
  .rw[iN c];have:lo=hi:=by lia
   subst this;exact⟨h3,h4,h5⟩
theorem tY{xs:Array Nat}(hr:WW xs)(j:Nat):SetTable.below xs j<=xs.size/\(∀i (h:i<xs.size),i<SetTable.below xs j->xs[i]<j)/\ ∀i (h:i<xs.size),SetTable.below xs j<=i->j<=xs[i]:=
 EB hr j xs.size 0 xs.size (by lia) (zero_le _) (Nat.le_refl _) (λi h z=>absurd z (not_lt_zero _)) (λi h z=>by lia)
theorem ZV{xs:Array Nat}(hr:WW xs){q:Nat}(hq:q<xs.size):SetTable.below xs xs[q]=q:=by
 obtain⟨a,b,c⟩:=tY hr xs[q];generalize SetTable.below xs xs[q]=z at *;rcases Nat.lt_trichotomy z q with h|h|h
 .have:=c z (by lia) (Nat.le_refl _);have:=hr z q hq h
  lia
 .exact h
 .exact absurd (b q hq h) (lt_irrefl _)
theorem QF{xs:Array Nat}(hr:WW xs){q:Nat}(hq:q<xs.size):SetTable.below xs (xs[q]+1)=q+1:=by
 obtain⟨a,b,c⟩:=tY hr _;generalize SetTable.below xs _=z at *;rcases Nat.lt_trichotomy z (q+1)with h|h|h
 .have:=c q hq (by lia)
  lia
 .exact h
 .have h1:=b _ (by lia) h;have h2:=hr q (q+1) (by lia) (Nat.lt_succ_self q)
  lia
def VY{t:SetTable}(hr:WW t.place){q:Nat}(hq:q<t.place.size):t.slot t.place[q]=.live q:=by unfold SetTable.slot;dsimp only;rw[ZV hr hq,Array.getElem?_eq_getElem hq,iP (beq_self_eq_true _)]
def QG{t:SetTable}(hd:t.dummies=#[]){j:Nat}(hj:j∉t.place):t.slot j=.empty:=by unfold SetTable.slot;rw[iN,hd,iN (by simp[SetTable.has])];intro z;exact hj (Array.mem_of_getElem? (beq_iff_eq.mp z))
def VZ{t:SetTable}{j i:Nat}(h:t.slot j=.live i):t.place[i]? =some j:=by
 unfold SetTable.slot at h;dsimp only at h;split at h
 .rename_i c;cases h;exact beq_iff_eq.mp c
 .split at h<;>cases h
theorem ZW: ∀(n:Nat)(l:Db),(∀j,j<n->j∈l)->n<=l.length
 |0,l,h=>zero_le _
 |n+1,l,h=>by
  have hm:=h n (Nat.lt_succ_self n);have:=ZW n (l.erase n) λj hj=>(List.mem_erase_of_ne (by lia)).mpr (h j (by lia));rw[List.length_erase_of_mem hm]at this;have:=List.length_pos_of_mem hm
  lia
def Way(t:SetTable)(oc:Nat->Prop)(h:Int)(j:Nat):Prop:= ∃n,(ad t n (t.probeStart h)).j=j/\ ∀m,m<n->oc (ad t m (t.probeStart h)).j
theorem MD{t:SetTable}(hr:WW t.place)(hd:t.dummies=#[])(ha:Nat->Int)(h:Int): ∀(f:Nat)(p:SetTable.Probe),p.dummy=none->(∃n,n<f/\(ad t n p).j∉t.place)->
  ∃n,(∀m,m<n-> ∃i,t.place[i]? =some (ad t m p).j/\ha i≠h)/\(((ad t n p).j∉t.place/\SetTable.probe.go t ha h f p=some (.empty (ad t n p).j none))\/ ∃i,t.place[i]? =some (ad t n p).j/\ha i=h/\SetTable.probe.go t ha h f p=some (.candidate (ad t n p).j i (ad t (n+1) p)))
 |0,p,hp,⟨n,hn,_⟩=>absurd hn (not_lt_zero _)
 |f+1,p,hp,⟨n,hn,he⟩=>by
  by_cases c:p.j∈t.place
  .obtain⟨i,hi,e⟩:=Array.mem_iff_getElem.mp c;have hs:t.slot p.j=.live i:=by rw[<-e];exact VY hr hi
   have hp':=VZ hs;unfold SetTable.probe.go;rw[hs];dsimp only;by_cases d:ha i=h
   .refine⟨0,λm hm=>absurd hm (not_lt_zero _),.inr ⟨i,hp',d,?_⟩⟩;rw[iP (beq_iff_eq.mpr d)];rfl
   .rw[iN (by simpa using d)];have h0:n≠0:=by rintro rfl;exact he c
    obtain⟨n',rfl⟩:=Nat.exists_eq_succ_of_ne_zero h0;obtain⟨k,hk,hz⟩:=MD hr hd ha h f _ (MC t 1 p hp) ⟨n',by lia,he⟩;refine⟨k+1,λm hm=>?_,hz⟩
    cases m with
    |zero=>exact⟨i,hp',d⟩
    |succ m=>exact hk m (by lia)
  .refine⟨0,λm hm=>absurd hm (not_lt_zero _),.inl ⟨c,?_⟩⟩;unfold SetTable.probe.go;rw[QG hd c,hp];rfl
theorem Gg(xs:Array Nat):WW xs↔xs.toList.Pairwise (· <·):=by rw[List.pairwise_iff_getElem];exact⟨λh i j hi hj hij=>h i j (by simpa using hj) hij,λh i j hj hi=>h i j (by simp;lia) (by simpa using hj) hi⟩
def ZX{t t':SetTable}(h:t.mask=t'.mask)(p:SetTable.Probe):t.advance p=t'.advance p:=by unfold SetTable.advance;rw[h]
theorem JP{t t':SetTable}(h:t.mask=t'.mask): ∀(n:Nat)(p:SetTable.Probe),ad t n p=ad t' n p
 |0,p=>rfl
 |n+1,p=>by show ad t n _=ad t' n _;rw[ZX h,JP h n]
def EC{t t':SetTable}(h:t.mask=t'.mask)(x:Int):t.probeStart x=t'.probeStart x:=by unfold SetTable.probeStart;rw[h]
def Way.to{t t':SetTable}(h:t.mask=t'.mask){oc oc':Nat->Prop}(ho: ∀j,oc j->oc' j){x:Int}{j:Nat}(w:Way t oc x j):Way t' oc' x j:=by obtain⟨n,a,b⟩:=w;refine⟨n,by rw[<-EC h, <-JP h];exact a,λm hm=>?_⟩;rw[<-EC h, <-JP h];exact ho _ (b m hm)
theorem SZ(t:SetTable)(i pt:Nat): ∀(m k j:Nat),ad t m ⟨j,m+k,i,pt,none⟩=⟨j+m,k,i,pt,none⟩
 |0,k,j=>by rw[Nat.zero_add];rfl
 |m+1,k,j=>by show ad t m _=_;unfold SetTable.advance;rw[iP (show m+1+k>0 by lia),show m+1+k - 1=m+k by lia];refine(SZ t i pt m k _).trans ?_;rw[add_assoc,add_comm 1 m]
theorem QH{mask i:Nat}(h:i<=mask):i<=SetTable.runEnd mask i/\SetTable.runEnd mask i<=mask:=by unfold SetTable.runEnd;split<;>lia
theorem Io(t:SetTable): ∀(n:Nat)(p:SetTable.Probe),p.j+p.more<=t.mask->(ad t n p).j+(ad t n p).more<=t.mask
 |0,p,h=>h
 |n+1,p,h=>Io t n _ (by
  unfold SetTable.advance;split
  .show p.j+1+(p.more - 1)<=_;lia
  .have:=QH (i:=(SetTable.leap t.mask p.i p.perturb).1) (le_of_lt_succ (mod_lt _ (Nat.succ_pos _)));show(SetTable.leap t.mask p.i p.perturb).1+(SetTable.runEnd t.mask (SetTable.leap t.mask p.i p.perturb).1 - (SetTable.leap t.mask p.i p.perturb).1)<=_
   lia)
theorem ME(t:SetTable)(h:Int)(n:Nat):(ad t n (t.probeStart h)).j<=t.mask:=by
 have:=QH (i:=SetTable.bits h % (t.mask+1)) (le_of_lt_succ (mod_lt _ (Nat.succ_pos _)));have:=Io t n (t.probeStart h) (by show SetTable.bits h % _+(SetTable.runEnd t.mask _ - SetTable.bits h % _)<=_;omega)
 lia
theorem TB(t:SetTable)(ow:Array (Option Nat)): ∀(f i pt:Nat),i<=t.mask->(∃l,l<f/\(ow.getD (lp t.mask l (i,pt)).1 (some 0)).isNone=true)->
  ∃n,SetTable.layClean.free t.mask ow f i pt=some (ad t n (pH t (i,pt))).j/\(ad t n (pH t (i,pt))).j<=t.mask/\(ow.getD (ad t n (pH t (i,pt))).j (some 0)).isNone=true/\ ∀m,m<n->(ow.getD (ad t m (pH t (i,pt))).j (some 0)).isSome=true
 |0,i,pt,hi,⟨l,hl,_⟩=>absurd hl (not_lt_zero _)
 |f+1,i,pt,hi,⟨l,hl,hz⟩=>by
  have hr:=QH hi;have hrun: ∀k,k<=SetTable.runEnd t.mask i - i->(ad t k _).j=i+k:=λk hk=>by show(ad t k ⟨i,SetTable.runEnd t.mask i - i,i,pt,none⟩).j=_;rw[show SetTable.runEnd t.mask i - i=k+(SetTable.runEnd t.mask i - i - k) by omega,SZ]
  unfold SetTable.layClean.free;split
  .rename_i k hk;obtain⟨h1,h2,h3⟩:=List.find?_range_eq_some.mp hk;have hk':k<=SetTable.runEnd t.mask i - i:=by have:=mem_range.mp h2;omega
   refine⟨k,by rw[hrun k hk'],by rw[hrun k hk'];omega,by rw[hrun k hk'];exact h1,λm hm=>?_⟩;rw[hrun m (by omega)];have:=h3 m hm;simpa using this
  .rename_i hk;have hall:=List.find?_range_eq_none.mp hk;have h0:l≠0:=by rintro rfl;have:=hall 0 (by omega);rw[Nat.add_zero]at this;have hz':(ow.getD i _).isNone=true:=hz;rw[hz']at this;exact absurd this (by decide)
   obtain⟨l',rfl⟩:=Nat.exists_eq_succ_of_ne_zero h0;obtain⟨n,a,b,c,d⟩:=TB t ow f (SetTable.leap t.mask i pt).1 (SetTable.leap t.mask i pt).2 (le_of_lt_succ (mod_lt _ (Nat.succ_pos _))) ⟨l',by omega,hz⟩;have hend: ∀m,ad t (SetTable.runEnd t.mask i - i+1+m) (pH t (i,pt))=ad t m (pH t (SetTable.leap t.mask i pt)):=λm=>by rw[EA,EA,QE];rfl
   refine⟨SetTable.runEnd t.mask i - i+1+n,by rw[hend];exact a,by rw[hend];exact b,by rw[hend];exact c,λm hm=>?_⟩;by_cases g:m<=SetTable.runEnd t.mask i - i
   .rw[hrun m g];have:=hall m (by omega);simpa using this
   .rw[show m=SetTable.runEnd t.mask i - i+1+(m - (SetTable.runEnd t.mask i - i+1)) by omega,hend];exact d _ (by omega)
theorem ZY{f g:Nat->Option Nat}{j k:Nat}(hj:f j=none)(hg:g j=some k)(hs: ∀i,i≠j->g i=f i): ∀(l:Db),l.Nodup->(j∈l->(l.filterMap g).Perm (k::l.filterMap f))/\(j∉l->l.filterMap g=l.filterMap f)
 |[],_=>⟨λh=>absurd h (by simp),λ_=>rfl⟩
 |i::l,hn=>by
  obtain⟨h1,h2⟩:=nodup_cons.mp hn;obtain⟨a,b⟩:=ZY hj hg hs l h2;by_cases c:i=j
  .subst c;refine⟨λ_=>?_,λz=>absurd (mF0 ..) z⟩;rw[filterMap_cons,filterMap_cons,hg,hj,b h1]
  .refine⟨λz=>?_,λz=>?_⟩
   .have hz:=(mC.mp z).resolve_left (λe=>c e.symm);rw[filterMap_cons,filterMap_cons,hs i c]
    cases f i with
    |none=>exact a hz
    |some v=>exact((a hz).cons v).trans (.swap ..)
   .rw[filterMap_cons,filterMap_cons,hs i c,b λy=>z (mO _ y)]
theorem ZZ{f:Nat->Option Nat}: ∀(l:Db),(∀j∈l,(f j).isSome=true)->(l.filterMap f).length=l.length
 |[],_=>rfl
 |i::l,h=>by obtain⟨v,e⟩:=Option.isSome_iff_exists.mp (h i (mF0 ..));rw[filterMap_cons,e];exact congrArg (· +1) (ZZ l λj hj=>h j (mO _ hj))
structure Lay(t:SetTable)(hs:Tc)(ow:Array (Option Nat))(k:Nat):Prop where
 sz:ow.size=t.mask+1
 wy: ∀j v,ow.getD j none=some v-> ∃h,hs[v]? =some h/\Way t (λi=>(ow.getD i none).isSome=true) h j
 pm:((List.range (t.mask+1)).filterMap λj=>ow.getD j none).Perm (List.range k)
def getD_in{ow:Array (Option Nat)}{j:Nat}(h:j<ow.size)(d:Option Nat):ow.getD j d=ow[j]:=by simp[h]
theorem Aa{t:SetTable}{e:Nat}(he:t.mask+1=2 ^ e){hs:Tc}{ow:Array (Option Nat)}{k:Nat}{h:Int}(hk:k<=t.mask)(hh:hs[k]? =some h)(L:Lay t hs ow k):
  ∃j,SetTable.layClean.free t.mask ow (SetTable.turns t.mask) (SetTable.bits h % (t.mask+1)) (SetTable.bits h)=some j/\Lay t hs (ow.setIfInBounds j (some k)) (k+1):=by
 obtain⟨j0,hj0,hn0⟩: ∃j,j<t.mask+1/\ow.getD j none=none:=by
  by_cases c: ∃j,j<t.mask+1/\ow.getD j none=none
  .exact c
  .have:=ZZ (f:=λj=>ow.getD j none) _ λj hj=>by
    cases d:ow.getD j none with
    |some v=>rfl
    |none=>exact absurd ⟨j,mem_range.mp hj,d⟩ c
   rw[L.pm.length_eq,length_range,length_range]at this
   lia
 obtain⟨l,hl,f⟩:=MB he (mod_lt _ (Nat.succ_pos _)) (SW h) hj0;have hin: ∀j,j<t.mask+1-> ∀d,ow.getD j d=ow.getD j none:=λj hj d=>by rw[getD_in (L.sz▸hj),getD_in (L.sz▸hj)]
 obtain⟨n,a,b,c,d⟩:=TB t ow (SetTable.turns t.mask) _ _ (le_of_lt_succ (mod_lt _ (Nat.succ_pos _))) ⟨l,by unfold SetTable.turns;lia,by rw[f,hin _ hj0,hn0];rfl⟩;have Rf: ∀j,(ow.getD j (some 0)).isSome=true->j<t.mask+1->(ow.getD j none).isSome=true:=λj x y=>by rw[<-hin j y (some 0)];exact x
 refine⟨_,a,?_⟩;generalize hJ:(ad t n _).j=J at a b c;have hJn:ow.getD J none=none:=by rw[<-hin J (by lia) (some 0)];exact Option.isNone_iff_eq_none.mp c
 have hJs:J<ow.size:=by rw[L.sz];lia
 have hset: ∀i,(ow.setIfInBounds J (some k)).getD i none=if i=J then some k else ow.getD i none:=λi=>by
  simp only[Array.getD_eq_getD_getElem?,Array.getElem?_setIfInBounds];by_cases q:i=J
  .subst q;simp[hJs]
  .rw[iN q,iN (λz=>q z.symm)]
 have hmono: ∀i,(ow.getD i none).isSome=true->((ow.setIfInBounds J (some k)).getD i none).isSome=true:=λi x=>by
  rw[hset];split
  .rfl
  .exact x
 refine⟨by rw[Array.size_setIfInBounds,L.sz],λj v hv=>?_,?_⟩
 .rw[hset]at hv;split at hv
  .rename_i q;cases hv;refine⟨h,hh,n,hJ.trans q.symm,λm hm=>hmono _ ?_⟩;exact Rf _ (d m hm) (Nat.lt_succ_of_le (ME t h m))
  .obtain⟨h',e1,e2⟩:=L.wy j v hv;exact⟨h',e1,e2.to rfl hmono⟩
 .refine((ZY (j:=J) (k:=k) hJn (by rw[hset,iP rfl]) (λi hi=>by rw[hset,iN hi]) _ List.nodup_range).1 (mem_range.mpr (by lia))).trans ?_;refine(L.pm.cons k).trans ?_;rw[List.range_succ];exact(List.perm_append_singleton k (List.range k)).symm
abbrev En:=Nat×Int×Value
structure STI(t:SetTable)(L:List En):Prop where
 pl:t.place.toList=L.map (·.1)
 so:(L.map (·.1)).Pairwise (· <·)
 dm:t.dummies=#[]
 pw: ∃e,t.mask+1=2 ^ e
 od:t.mask % 2=1
 mx:t.mask<=8191
 wy: ∀q∈L,q.1<=t.mask/\Way t (· ∈L.map (·.1)) q.2.1 q.1
 fl:L.length * 5<t.mask * 3
section
variable{t:SetTable}{L:List En}
def STI.ris(x:STI t L):WW t.place:=(Gg _).mpr (x.pl▸x.so)
def STI.sz(x:STI t L):t.place.size=L.length:=by rw[<-Array.length_toList,x.pl,lM]
theorem STI.fits(x:STI t L):t.fits L.length=true:=by have:=x.fl;simp only[SetTable.fits,SetTable.fill,x.sz,x.dm,aE,beq_iff_eq];exact⟨trivial,by simp;lia⟩
def STI.mem(x:STI t L){j:Nat}:j∈t.place↔j∈L.map (·.1):=by rw[<-Array.mem_toList_iff,x.pl]
def STI.at(x:STI t L){i j:Nat}(h:t.place[i]? =some j): ∃q,L[i]? =some q/\q.1=j:=by rw[<-Array.getElem?_toList,x.pl,getElem?_map]at h;exact Option.map_eq_some_iff.mp h
theorem STI.free(x:STI t L)(h:Int): ∃n,n<10 * SetTable.turns t.mask/\(ad t n (t.probeStart h)).j∉t.place:=by
 obtain⟨e,he⟩:=x.pw;by_cases c: ∀j,j<t.mask+1->j∈L.map (·.1)
 .have:=ZW _ _ c;have:=x.fl;rw[lM]at *
  lia
 .simp only[Classical.not_forall]at c;obtain⟨j,hj,hn⟩:=c;obtain⟨n,a,b⟩:=ZU he h hj;exact⟨n,a,by rw[b,x.mem];exact hn⟩
theorem STI.put(x:STI t L){j:Nat}{h:Int}{v:Value}(hj:j<=t.mask)(hn:j∉L.map (·.1))(hw:Way t (· ∈L.map (·.1)) h j):
  ∃p,(t.put j).2=p/\(t.put j).1={t with place:=SetTable.insertAt t.place p j}/\p<=L.length/\
   (SetTable.insertAt t.place p j).toList=(L.take p++(j,h,v)::L.drop p).map (·.1)/\((L.take p++(j,h,v)::L.drop p).map (·.1)).Pairwise (· <·)/\
   ∀q∈L.take p++(j,h,v)::L.drop p,q.1<=t.mask/\Way t (· ∈(L.take p++(j,h,v)::L.drop p).map (·.1)) q.2.1 q.1:=by
 obtain⟨b1,b2,b3⟩:=tY x.ris j;have hput:t.put j=({t with place:=SetTable.insertAt t.place (SetTable.below t.place j) j},SetTable.below t.place j):=by unfold SetTable.put;rw[show SetTable.has t.dummies j=false by rw[x.dm];rfl];rfl
 have sub: ∀i,i∈L.map (·.1)->i∈(L.take (SetTable.below t.place j)++(j,h,v)::L.drop (SetTable.below t.place j)).map (·.1):=λi hi=>by obtain⟨q,hq,e⟩:=mM.mp hi;rw[<-List.take_append_drop (SetTable.below t.place j) L]at hq;exact mM.mpr ⟨q,by rcases List.mem_append.mp hq with z|z<;>simp[z],e⟩
 refine⟨SetTable.below t.place j,by rw[hput],by rw[hput],by rw[<-x.sz];exact b1,?_,?_,λq hq=>?_⟩
 .rw[SetTable.toList_insertAt,x.pl];simp
 .rw[List.map_append,List.map_cons,pairwise_append,List.pairwise_cons,map_take,map_drop];have hget: ∀i y,(L.map (·.1))[i]? =some y-> ∃hi:i<t.place.size,t.place[i]=y:=λi y e=>by rw[<-x.pl,Array.getElem?_toList]at e;exact Array.getElem?_eq_some_iff.mp e
  have hlo: ∀y,y∈(L.map (·.1)).take _->y<j:=λy hy=>by
   obtain⟨i,hi⟩:=getElem?_of_mem hy;rw[List.getElem?_take]at hi;split at hi
   .obtain⟨hs,rfl⟩:=hget i y hi;exact b2 i hs (by assumption)
   .cases hi
  have hhi: ∀y,y∈(L.map (·.1)).drop (SetTable.below t.place j)->j<y:=λy hy=>by
   obtain⟨i,hi⟩:=getElem?_of_mem hy;rw[List.getElem?_drop]at hi;obtain⟨hs,e⟩:=hget _ y hi;have:=b3 _ hs (by lia);rw[e]at this;have hne:j≠y:=by rintro rfl;exact hn (mem_of_getElem? hi)
   lia
  refine⟨x.so.sublist (List.take_sublist ..),⟨hhi,x.so.sublist (List.drop_sublist ..)⟩,λa ha b hb=>?_⟩;rcases mC.mp hb with rfl|hb
  .exact hlo a ha
  .exact lt_trans (hlo a ha) (hhi b hb)
 .have hq':q∈L\/q=(j,h,v):=by
   rcases List.mem_append.mp hq with z|z
   .exact .inl (mem_of_mem_take z)
   .rcases mC.mp z with z|z
    .exact .inr z
    .exact .inl (List.mem_of_mem_drop z)
  rcases hq' with z|rfl
  .exact⟨(x.wy q z).1,(x.wy q z).2.to rfl sub⟩
  .exact⟨hj,hw.to rfl sub⟩
end
theorem MF: ∀(f n e:Nat),n<8192->e<=13->n<2 ^ e * 2 ^ f-> ∃e',e<=e'/\e'<=13/\SetTable.sizeAbove.go n f (2 ^ e)=2 ^ e'/\n<2 ^ e'
 |0,n,e,h1,h2,h3=>⟨e,Nat.le_refl _,h2,rfl,by simpa using h3⟩
 |f+1,n,e,h1,h2,h3=>by
  unfold SetTable.sizeAbove.go;by_cases c:2 ^ e<=n
  .rw[iP c];have he:e<13:=(Nat.pow_lt_pow_iff_right (by decide)).mp (lt_of_le_of_lt c h1);obtain⟨e',a,b,d⟩:=MF f n _ h1 he (by rw[pow_succ,Nat.mul_assoc,Nat.mul_comm 2];exact h3);exact⟨e',by lia,b,d⟩
  .rw[iN c];exact⟨e,Nat.le_refl _,h2,rfl,by lia⟩
theorem Ab{n:Nat}(h:n<8192): ∃e,3<=e/\e<=13/\SetTable.sizeAbove n=2 ^ e/\n<2 ^ e:=MF 64 n 3 h (by decide) (by lia)
def lay0(t:SetTable)(hs:Tc):Lay t hs (Array.replicate (t.mask+1) none) 0:=by
 have h0: ∀j,(Array.replicate (t.mask+1) (none:Option Nat)).getD j none=none:=λj=>by simp only[Array.getD_eq_getD_getElem?,Array.getElem?_replicate];split<;>rfl
 refine⟨by simp,λj v hv=>(by rw[h0]at hv;cases hv),?_⟩;rw[show(λj=>(Array.replicate _ _).getD j none)=λ_=>none from funext h0];simp
theorem MG{t:SetTable}{e:Nat}(he:t.mask+1=2 ^ e){hs:Tc}(hn:hs.length<=t.mask+1){f:Option (Array (Option Nat)×Nat)->Int->Option (Array (Option Nat)×Nat)}
  (hf: ∀ow k h j,SetTable.layClean.free t.mask ow (SetTable.turns t.mask) (SetTable.bits h % (t.mask+1)) (SetTable.bits h)=some j->f (some (ow,k)) h=some (ow.setIfInBounds j (some k),k+1)):
  ∀(rest:Tc)(k:Nat)(ow:Array (Option Nat)),k+rest.length=hs.length->(∀i,rest[i]? =hs[k+i]?)->Lay t hs ow k-> ∃ow',rest.foldl f (some (ow,k))=some (ow',hs.length)/\Lay t hs ow' hs.length
 |[],k,ow,h1,h2,l=>by
  have:=by simpa using h1
  subst this;exact⟨ow,rfl,l⟩
 |h::rest,k,ow,h1,h2,l=>by rw[lC]at h1;obtain⟨j,a,b⟩:=Aa he (by lia) (by have:=h2 0;simpa using this.symm) l;rw[List.foldl_cons,hf _ _ _ _ a];exact MG he hn hf rest _ _ (by lia) (λi=>by have:=h2 (i+1);rw[List.getElem?_cons_succ]at this;rw[this];congr 1;lia) b
theorem Gh{e:Nat}(h3:3<=e)(h13:e<=13)(fi mo:Nat)(b:Bool)(es:Tj)(hn:1<=es.size)(hw:es.size * 4<2 ^ e):
  ∃t or L,SetTable.laid (2 ^ e - 1) fi mo b true (es.map (·.1))=some (t,or)/\(or.filterMap (es[·]?)).toList=L.map (·.2)/\(L.map (·.2)).Perm es.toList/\STI t L/\t.led=b/\t.plain=true/\or.toList.Perm (List.range es.size):=by
 have hp:2 ^ e - 1+1=2 ^ e:=Nat.sub_add_cancel (Nat.one_le_two_pow);have h8:2 ^ 3<=2 ^ e:=Nat.pow_le_pow_right (by decide) h3;have h9:2 ^ e<=2 ^ 13:=Nat.pow_le_pow_right (by decide) h13;generalize hM:2 ^ e - 1=mask at hp;let t0:SetTable:={mask,place:=#[],dummies:=#[],finger:=fi,led:=b,moves:=mo,plain:=true}
 have hlen:(es.toList.map (·.1)).length=es.size:=by simp
 obtain⟨ow,h1,hl⟩:=MG (t:=t0) hp (hs:=es.toList.map (·.1)) (by rw[hlen];show _<=mask+1;lia)
  (f:=λacc h=>do
   let (owner,k) <-acc;let j <-SetTable.layClean.free mask owner (SetTable.turns mask) (SetTable.bits h % (mask+1)) (SetTable.bits h)
   pure (owner.setIfInBounds j (some k),k+1)) (λow k h j hj=>by show(Option.bind _ λj=>some (ow.setIfInBounds j (some k),k+1))=_;rw[show SetTable.layClean.free mask ow (SetTable.turns mask) (SetTable.bits h % (mask+1)) (SetTable.bits h)=some j from hj];rfl) (es.toList.map (·.1)) 0 _ (by simp) (λi=>by rw[Nat.zero_add]) (lay0 t0 _)
 have hclean:SetTable.layClean mask (es.map (·.1))=some ow:=by unfold SetTable.layClean;rw[<-Array.foldl_toList,Array.toList_map];exact congrArg (Option.map (·.1)) h1
 rw[hlen]at hl;have hget: ∀j v,ow.getD j none=some v-> ∃x,es[v]? =some x:=λj v hv=>by obtain⟨h,hh,_⟩:=hl.wy j v hv;rw[getElem?_map,Array.getElem?_toList]at hh;obtain⟨x,hx,_⟩:=Option.map_eq_some_iff.mp hh;exact⟨x,hx⟩
 let g:Nat->Option En:=λj=>(ow.getD j none).bind λk=>(es[k]?).map λx=>(j,x)
 have hg: ∀j,(g j).map (·.1)=((ow.getD j none).map λk=>(j,k)).map (·.1)/\(g j).map (·.2)=(ow.getD j none).bind (es[·]?)/\ ∀q,g j=some q->q.1=j/\ ∃k,ow.getD j none=some k/\es[k]? =some q.2:=λj=>by
  show((ow.getD j none).bind λk=>(es[k]?).map λx=>(j,x)).map (·.1)=_/\((ow.getD j none).bind λk=>(es[k]?).map λx=>(j,x)).map (·.2)=_/\ ∀q,((ow.getD j none).bind λk=>(es[k]?).map λx=>(j,x))=some q->_
  cases hz:ow.getD j none with
  |none=>exact⟨rfl,rfl,λq z=>nomatch z⟩
  |some v=>
   obtain⟨x,hx⟩:=hget j v hz;refine⟨?_,?_,λq z=>?_⟩
   .show((es[v]?).map λx=>(j,x)).map (·.1)=_;rw[hx];rfl
   .show((es[v]?).map λx=>(j,x)).map (·.2)=es[v]?;rw[hx];rfl
   .have z:(es[v]?).map (λx=>(j,x))=some q:=z;rw[hx]at z;cases z;exact⟨rfl,v,rfl,hx⟩
 have e1:((List.range (mask+1)).filterMap λj=>(ow.getD j none).map λk=>(j,k)).map (·.1)=((List.range (mask+1)).filterMap g).map (·.1):=by rw[map_filterMap,map_filterMap];exact congrArg (λf=>List.filterMap f _) (funext λj=>(hg j).1.symm)
 have e2:(((List.range (mask+1)).filterMap λj=>(ow.getD j none).map λk=>(j,k)).map (·.2)).filterMap (es[·]?)=((List.range (mask+1)).filterMap g).map (·.2):=by rw[map_filterMap,map_filterMap,List.filterMap_filterMap];refine congrArg (λf=>List.filterMap f _) (funext λj=>?_);rw[(hg j).2.1];cases ow.getD j none<;>rfl
 have e3:((List.range (mask+1)).filterMap λj=>(ow.getD j none).map λk=>(j,k)).map (·.2)=(List.range (mask+1)).filterMap λj=>ow.getD j none:=by rw[map_filterMap];refine congrArg (λf=>List.filterMap f _) (funext λj=>?_);cases ow.getD j none<;>rfl
 have e4:(((List.range (mask+1)).filterMap g).map (·.2)).Perm es.toList:=by rw[<-e2,e3];refine(hl.pm.filterMap _).trans ?_;rw[filterMap_getElem?_range]
 have e5:(((List.range (mask+1)).filterMap g).map (·.1)).Pairwise (· <·):=by rw[map_filterMap,List.pairwise_filterMap];refine List.Pairwise.imp_of_mem (λ{i j} _ _ hij a ha c hc=>?_) List.pairwise_lt_range;obtain⟨q,hq,rfl⟩:=Option.map_eq_some_iff.mp (Option.mem_def.mp ha);obtain⟨r,hr,rfl⟩:=Option.map_eq_some_iff.mp (Option.mem_def.mp hc);rw[((hg i).2.2 q hq).1,((hg j).2.2 r hr).1];exact hij
 have e6:((List.range (mask+1)).filterMap g).length=es.size:=by rw[<-lM (f:=(·.2)),e4.length_eq,Array.length_toList]
 refine⟨{mask,place:=(((List.range (mask+1)).filterMap λj=>(ow.getD j none).map λk=>(j,k)).map (·.1)).toArray,dummies:=#[],finger:=fi,led:=b,moves:=mo,plain:=true},(((List.range (mask+1)).filterMap λj=>(ow.getD j none).map λk=>(j,k)).map (·.2)).toArray,(List.range (mask+1)).filterMap g,?_,?_,e4,⟨e1,e5,rfl,⟨e,hp⟩,?_,?_,λq hq=>?_,?_⟩,rfl,rfl,e3▸hl.pm⟩
 .unfold SetTable.laid;rw[hclean];rfl
 .rw[Array.toList_filterMap];exact e2
 .have:2 ^ e=2 * 2 ^ (e - 1):=by rw[<-Nat.pow_succ'];congr 1;lia
  show mask % 2=1
  lia
 .show mask<=8191
  lia
 .obtain⟨j,hj,hq⟩:=mem_filterMap.mp hq;obtain⟨a,k,hk,hx⟩:=(hg j).2.2 q hq;obtain⟨h,hh,hw'⟩:=hl.wy j k hk;rw[getElem?_map,Array.getElem?_toList,hx]at hh;cases hh;refine⟨by rw[a];have:=mem_range.mp hj;show j<=mask;lia,?_⟩;rw[a];refine @Way.to t0 _ ?_ _ _ (λi hi=>?_) _ _ hw'
  .rfl
  obtain⟨v,hv⟩:=Option.isSome_iff_exists.mp hi;obtain⟨x,hx'⟩:=hget i v hv
  have hi':i<mask+1:=by
   have:=hl.sz;by_cases c:i<ow.size
   .rw[this]at c;exact c
   .simp[Array.getD,c]at hv
  refine mM.mpr ⟨(i,x),mem_filterMap.mpr ⟨i,mem_range.mpr hi',?_⟩,rfl⟩;show((ow.getD i none).bind λk=>(es[k]?).map λx=>(i,x))=_;rw[hv];show(es[v]?).map (λx=>(i,x))=_;rw[hx'];rfl
 .rw[e6];show es.size * 5<mask * 3
  lia
def SetP(h:Heap)(D:Addr)(L:List En)(b:Bool):Prop:= ∃o es ep t,h.get? D=some o/\o.ExactSet/\o.data=.set es ep t/\es.toList=L.map (·.2)/\STI t L/\t.led=b/\t.plain=true
def SetP.move{h h':Heap}{D:Addr}{L:List En}{b:Bool}(x:SetP h D L b)(m: ∀o,h.get? D=some o->h'.get? D=some o):SetP h' D L b:=by obtain⟨o,es,ep,t,ho,r⟩:=x;exact⟨o,es,ep,t,m o ho,r⟩
def hsT(ks:Tc):Int:=reduceHash (Builtin.Tuple.tupleHashOf (ks.map hashInt))
def SetM(h:Heap)(D:Addr)(M:List (List Int×Addr))(b:Bool):Prop:= ∃L,SetP h D L b/\(L.map (·.2)).Perm (M.map λx=>(hsT x.1,Value.ref x.2))
def Rq{h:Heap}{a:Addr}{b:Bool}(ho:h.get? a=some (wM b)):SetM h a [] b:=
 ⟨[],⟨wM b,#[],0,_,ho,⟨rfl,rfl,rfl⟩,rfl,rfl,⟨rfl,.nil,rfl,⟨3,rfl⟩,(show 7 % 2=1 from rfl),(show 7<=8191 by decide),λq hq=>absurd hq (by simp),(show 0 * 5<7 * 3 by decide)⟩,rfl,rfl⟩,.refl _⟩
section
variable{prog:Program}{w:World}{A:Around}{E:VP}{s:Shared}
theorem QI{it D:Addr}{i n ep sl j:Nat}{es:Tj}{t:SetTable}{hx:Int}{x:Value}{Q:Option Value->Shared->Prop}(hb:BD w=false)(hit:dW s.heap it (rawInt (sl:Int)) i n ep D)(hS:SetAt s.heap D es ep t)(hn:es.size=n)(hpl:t.plain=true)(hl:t.led=true)
  (he:es[SetTable.below t.place sl]? =some (hx,x)) (hj:t.place[SetTable.below t.place sl]? =some j)
  (hQ: ∀h',dW h' it (rawInt ((j+1:Nat):Int)) (i+1) n ep D->Heap.SameBut it s.heap h'->Q (some x) {s with heap:=h'}):
  wpAny (model prog w) A (pyNext (.ref it)) Q E s:=by
 have hTi:s.TypeIs (.ref it) "set_iterator":=⟨_,hit,rfl⟩
 obtain⟨o,ho,hex,hd,hf⟩:=hS
 refine wB (wpAny_attempt (wpAny_callSpecial?_slot hTi F.slot_seti_next
  (wpAny_call_entry F.slot_seti_next hTi F.entry_seti_next ?_ (F.args_seti_next _))))
 unfold Builtin.«set_iterator.__next__» slotArgs;refine wB (wP ?_);refine wB (wpAny_fieldsOf hit rfl ?_);dsimp only;refine wB (wpAny_setEntries_of ho hd hf ?_);rw[iN (by simp[hn])];dsimp only[rawInt];refine wB ?_;unfold setNext setsByText;refine wB (wpAny_setState_of ho hd hf ?_);dsimp only;refine wB (wB (wpAny_askSetting (wP ?_)));dsimp only;rw[iN (show¬(model prog w).w.params.followText "set-order"=true by rw[show(model prog w).w.params.followText "set-order"=false from hb];exact xF0)];show wpAny _ _ (if(!t.plain&&decide _)=true then _ else _) _ _ _;rw[iN (by rw[hpl];exact xF0)];show wpAny _ _ ((if _=true then unsupported "set:maker-not-led" else pure ()) >>= _) _ _ _;rw[iN (by rw[hl];exact xF0)];refine wB (wP ?_);refine wP ?_;rw[Int.toNat_natCast,he,hj];dsimp only;refine wB (wpAny_setField hit rfl (by simp) ?_);refine wB (wpAny_setField (Heap.get?_update_self _ hit rfl) rfl (by simp) ?_);refine wP ⟨_,rfl,wP (hQ _ ?_ ((Heap.SameBut.update ..).trans (Heap.SameBut.update ..)))⟩;exact Heap.get?_update_self _ (Heap.get?_update_self _ hit rfl) rfl
def ED{it D:Addr}{i n ep sl:Nat}{es:Tj}{t:SetTable}{Q:Option Value->Shared->Prop}(hh:A.handled=none)(hb:BD w=false)(hit:dW s.heap it (rawInt (sl:Int)) i n ep D)(hS:SetAt s.heap D es ep t)(hn:es.size=n)(hpl:t.plain=true)(hl:t.led=true)
  (he:es[SetTable.below t.place sl]? =none)
  (hQ: ∀h',Heap.ExtBut it s.heap h'->Q none {s with heap:=h'}):wpAny (model prog w) A (pyNext (.ref it)) Q E s:=by
 have hTi:s.TypeIs (.ref it) "set_iterator":=⟨_,hit,rfl⟩
 obtain⟨o,ho,hex,hd,hf⟩:=hS;unfold pyNext
 refine wB (wpAny_attempt (wpAny_callSpecial?_slot hTi F.slot_seti_next
  (wpAny_call_entry F.slot_seti_next hTi F.entry_seti_next ?_ (F.args_seti_next _))))
 unfold Builtin.«set_iterator.__next__» slotArgs;refine wB (wP ?_);refine wB (wpAny_fieldsOf hit rfl ?_);dsimp only;refine wB (wpAny_setEntries_of ho hd hf ?_);rw[iN (by simp[hn])];dsimp only[rawInt];refine wB ?_;unfold setNext setsByText;refine wB (wpAny_setState_of ho hd hf ?_);dsimp only;refine wB (wB (wpAny_askSetting (wP ?_)));dsimp only;rw[iN (show¬(model prog w).w.params.followText "set-order"=true by rw[show(model prog w).w.params.followText "set-order"=false from hb];exact xF0)];show wpAny _ _ (if(!t.plain&&decide (es.size>1))=true then _ else _) _ _ _;rw[iN (by rw[hpl];exact xF0)];show wpAny _ _ ((if _=true then unsupported "set:maker-not-led" else pure ()) >>= _) _ _ _;rw[iN (by rw[hl];exact xF0)];refine wB (wP ?_);refine wP ?_;rw[Int.toNat_natCast,he];dsimp only;refine wB (wpAny_setField hit rfl (by simp) ?_);show wpAny _ _ _ _ _ _;refine wB ?_;simp only[newExc,newTuple];refine wB (wpAny_newObj_type ?_ (by size_fits));refine wB (wpAny_of_eq (by first |rfl|(simp only[firstArgMember];rfl)) ?_);refine wpAny_newObj_type ?_ (by size_fits);simp only[raiseNew];refine wB (wpAny_handled ?_);rw[show A.in1.handled=none from hh];refine wB (wP (wpAny_throw ?_));refine wB (wpAny_isInstance (b:=true) ⟨_,Heap.get?_push_size _ rfl,rfl⟩ isSubtype_stop ?_);exact wP (hQ _ (((Heap.SameBut.update ..).extBut.push _).push _))
def EE{D:Addr}{es:Tj}{ep:Nat}{t:SetTable}{Q:VP}(hS:SetAt s.heap D es ep t)(hpl:t.plain=true)
  (hQ:Q (.ref s.heap.objs.size) {s with heap:=s.heap.push (Nd (rawInt 0) es.size ep D)}):wpAny (model prog w) A (pyIter (.ref D)) Q E s:=by
 obtain⟨o,ho,hex,hd,hf⟩:=hS;have hT:s.TypeIs (.ref D) "set":=⟨o,ho,hex.1⟩
 refine wpAny_pyIter_slot hT F.slot_set_iter (wpAny_call_entry F.slot_set_iter hT F.entry_set_iter' ?_ (F.args_set_iter_1 _));refine wB (wB (wP ?_));refine wP ?_;refine wB ?_;refine wB (wpAny_setEntries_of ho hd hf (wP ?_));refine wB (wB (wpAny_setState_of ho hd hf ?_));refine wB (wB (wpAny_askSetting (wP ?_)));refine wP ?_;show wpAny _ _ (if(!(model prog w).w.params.followText "set-order"&&(!t.plain&&decide _))=true then _ else _) _ _ _;rw[iN (by rw[hpl];cases (model prog w).w.params.followText "set-order"<;>exact xF0)];refine wB (wP ?_);refine wB (wpAny_setEpoch_of ho hd hf ?_);refine wB (wpAny_newObj_type ?_ (by size_fits));refine wP ⟨_,rfl,"set_iterator",_,⟨_,Heap.get?_push_size _ rfl,rfl⟩,F.slot_seti_next.lookup,hQ⟩
theorem Gi{xs:Array Nat}(hr:WW xs):SetTable.below xs 0=0:=by
 obtain⟨a,b,c⟩:=tY hr 0;generalize SetTable.below xs 0=z at *;rcases Nat.eq_zero_or_pos z with h|h
 .exact h
 .exact absurd (b 0 (by lia) h) (not_lt_zero _)
theorem QJ(hh:A.handled=none)(hb:BD w=false){I D:Addr}(hDI:D≠I){es:Tj}{ep:Nat}{t:SetTable}(hpl:t.plain=true)(hl:t.led=true)(hri:WW t.place)(hfit:t.fits es.size=true):
  Walks prog w A I [I,D] [I] es.size (λi v=> ∃e,es[i]? =some e/\v=e.2) (λi h=>(∃sl:Nat,dW h I (rawInt (sl:Int)) i es.size ep D/\SetTable.below t.place sl=i)/\SetAt h D es ep t) where
 sub:=λb hb=>by simp at hb;simp[hb]
 frame:=λi h h' st hk=>⟨by obtain⟨sl,h1,h2⟩:=st.1;exact⟨sl,hk I (by simp) _ h1,h2⟩,st.2.keep λo e=>hk D (by simp) o e⟩
 item:=λi s Q E hi st hQ=>by
  obtain⟨⟨sl,hit,hbl⟩,hS⟩:=st;have hps:=QA hfit;have hip:i<t.place.size:=by lia
  have he:=Array.getElem?_eq_getElem hi;refine QI hb hit hS rfl hpl hl (by rw[hbl];exact he) (by rw[hbl];exact Array.getElem?_eq_getElem hip) λh' hit' hs'=>?_;exact hQ _ h' s.toks ⟨_,he,rfl⟩ ⟨⟨t.place[i]+1,hit',QF hri hip⟩,hS.keep λo e=>hs'.extBut D o hDI e⟩ λb o hb e=>hs'.extBut b o (λz=>hb (by simp[z])) e
 done:=λs Q E st hQ=>by obtain⟨⟨sl,hit,hbl⟩,hS⟩:=st;exact ED hh hb hit hS rfl hpl hl (by rw[hbl];exact Array.getElem?_eq_none (Nat.le_refl _)) λh' he'=>hQ h' s.toks λb o hb e=>he' b o (λz=>hb (by simp[z])) e
 self:=λi s Q E st hQ=>by obtain⟨⟨sl,hit,hbl⟩,hS⟩:=st;exact HQ hit hQ
def QK(hh:A.handled=none){D S:Addr}{es:Tj}{ep:Nat}{t:SetTable}(hS:SetAt s.heap D es ep t)(hl:t.led= !BD w)(hp:t.plain=true)(hri:WW t.place)(hSD:S≠D)(hSl:S<s.heap.objs.size):
  Rm prog w A D s S es.size (λacc=>acc.toList.Perm (es.toList.map (·.2))):=by
 intro E Q hQ;have hDl:D<s.heap.objs.size:=by obtain⟨o,ho,_⟩:=hS;exact Heap.lt_size ho
 obtain⟨hfit⟩:Nonempty _:=by obtain⟨o,_,_,_,hf⟩:=hS;exact⟨hf⟩
 have h1:S∉[s.heap.objs.size,D]:=by simp only[mC,nM,or_false,not_or];exact⟨Nat.ne_of_lt hSl,hSD⟩
 have h2: ∀b∈[s.heap.objs.size],s.heap.objs.size<=b:=by intro b hb;rw[mS.mp hb];exact Nat.le_refl _
 cases hb:BD w with
 |true=>
  refine EE hS hp (hQ _ s.drawn _ _ _ _ _ (VX hh hb (Nat.ne_of_lt hDl)) ⟨Heap.get?_push_size _ rfl,hS.keep λo e=>hP0 _ e⟩ h1 h2 (λb o e=>hP0 _ e) λacc hacc=>?_);have hlen:(pickOrder (w.params.setOrder D ep) es).toList.length=es.size:=by rw[(qG _ es).length_eq,Array.length_toList]
  show acc.toList.Perm _;rw[ZQ (l:=(pickOrder _ es).toList.map (·.2)) hacc (by rw[lM,hlen]) λi v ⟨e,h1,h2⟩=>by rw[getElem?_map,Array.getElem?_toList,h1,h2];rfl];exact(qG _ es).map _
 |false=>
  rw[hb]at hl;refine EE hS hp (hQ _ s.drawn _ _ _ _ _ (QJ hh hb (Nat.ne_of_lt hDl) hp hl hri hfit) ⟨⟨0,Heap.get?_push_size _ rfl,Gi hri⟩,hS.keep λo e=>hP0 _ e⟩ h1 h2 (λb o e=>hP0 _ e) λacc hacc=>?_);show acc.toList.Perm _;rw[ZQ (l:=es.toList.map (·.2)) hacc (by simp) λi v ⟨e,h1,h2⟩=>by rw[getElem?_map,Array.getElem?_toList,h1,h2];rfl]
theorem JQ{R:List Value->Shared->Prop}(hh:A.handled=none){D:Addr}{es:Tj}{ep:Nat}{t:SetTable}(hS:SetAt s.heap D es ep t)(hl:t.led= !BD w)(hp:t.plain=true)(hri:WW t.place)(hz:es.size<4096)
  (h: ∀(h':Heap)(tk:Nat)(d':Drawn)(acc:Te),(∀b o,s.heap.get? b=some o->h'.get? b=some o)->acc.toList.Perm (es.toList.map (·.2))->R acc.toList {s with heap:=h',toks:=tk,drawn:=d'}):
  wpAny (model prog w) A (collect (.ref D)) R E s:=by
 have hDl:D<s.heap.objs.size:=by obtain⟨o,ho,_⟩:=hS;exact Heap.lt_size ho
 have hSn:=hS.keep (h':=s.heap.push {cls:=.type "list",data:=.seq ([]:Td).toArray}) λo e=>hP0 _ e;have hT:Shared.TypeIs {s with heap:=s.heap.push {cls:=.type "list",data:=.seq ([]:Td).toArray}} (.ref D) "set":=by obtain⟨o,ho,hex,_⟩:=hSn;exact⟨o,ho,hex.1⟩
 unfold collect;refine wB (wpAny_runValue (codeAny_builtin entry_proto_collect' ?_));rw[Around.under_plainId PySem.F.plain_proto_collect _];show wpAny _ A.in1 _ _ _ s;refine wB (wpAny_newObj_type ?_);refine wP ⟨plainId_quiet PySem.F.plain_list_iadd _,codeAny_builtin entry_list_iadd' ?_⟩;rw[Around.under_plainId PySem.F.plain_list_iadd _];have hS₁:(s.heap.push {cls:=.type "list",data:=.seq ([]:Td).toArray}).get? s.heap.objs.size=some {cls:=.type "list",data:=.seq #[]}:=Heap.get?_push_size _ rfl;show wpAny _ A.in1 _ _ _ _
 have key:=QB (prog:=prog) (w:=w) (A:=A)
  (R:=λ(q:Result) (s':Shared)=> ∃(h':Heap)(tk:Nat)(d':Drawn)(acc':Te)(c':Nat),q=.ok _/\s'={s with heap:=h',toks:=tk,drawn:=d'}/\
   (∀b o,s.heap.get? b=some o->h'.get? b=some o)/\h'.get? s.heap.objs.size=some {cls:=.type "list",dict:=none,data:=.seq acc' c',slots:=#[]}/\acc'.toList.Perm _)
  (QK (prog:=prog) (w:=w) (A:=A.in1) hh hSn hl hp hri (Nat.ne_of_gt hDl) (by show s.heap.objs.size<(s.heap.push _).objs.size;rw[Heap.size_push];exact Nat.lt_succ_self _)) hT (Nat.ne_of_gt hDl) (.ref s.heap.objs.size) 0 hS₁ (by rw[sizeLine_eq];lia)
  (λh' tk d' acc' c' hk hS' hacc=>⟨h',tk,d',acc',c',rfl,rfl,λb o e=>hk b o (Nat.ne_of_lt (Heap.lt_size e)) (hP0 _ e),hS',hacc⟩)
 refine wpAny_mono key (λfin s' x=>?_) λe s' x=>?_
 .cases fin with
  |done f=>
   obtain⟨h',tk,d',acc',c',e,rfl,hk,hS',hacc⟩:=x;cases e;show wpAny _ A _ _ _ _;refine wB (wpAny_load hS' ?_);exact wP (h h' tk d' acc' hk hacc)
  |again c₁=>
   refine⟨x.1,codeAny_mono x.2 λq s₂ y=>?_⟩;obtain⟨h',tk,d',acc',c',rfl,rfl,hk,hS',hacc⟩:=y;show wpAny _ A _ _ _ _;refine wB (wpAny_load hS' ?_);exact wP (h h' tk d' acc' hk hacc)
 .obtain⟨h',tk,d',acc',c',e,_⟩:=x;cases e
end
section
variable{S:Sto}
def OrdD.sub{ds es:Ug}(h:OrdD S ds)(hs: ∀d,d∈es->d∈ds):OrdD S es:=
 ⟨λa ha b hb=>h.any a (hs a ha) b (hs b hb),λa ha b hb c hc=>h.tr a (hs a ha) b (hs b hb) c (hs c hc),λa ha b hb=>h.as a (hs a ha) b (hs b hb)⟩
end
def STI.freeSlot{t:SetTable}{L:List En}(x:STI t L)(h:Int): ∃j,t.freeSlot h=some (j,false)/\j<=t.mask/\j∉L.map (·.1)/\Way t (· ∈L.map (·.1)) h j:=by
 obtain⟨N,hN,hf⟩:=x.free h;obtain⟨n,a,b⟩:=MD x.ris x.dm (λ_=>h+1) h _ _ rfl ⟨N,hN,hf⟩;rcases b with⟨b1,b2⟩|⟨i,_,e,_⟩
 .refine⟨(ad t n _).j,?_,ME t h n,λz=>b1 (x.mem.mpr z),n,rfl,λm hm=>?_⟩
  .unfold SetTable.freeSlot SetTable.probe;rw[b2];rfl
  .obtain⟨i,hi,_⟩:=a m hm;exact x.mem.mp (Array.mem_of_getElem? hi)
 .exact absurd e (by omega)
section
variable{prog:Program}{w:World}{A:Around}{E:VP}{s:Shared}{D:Addr}{L:List En}{b:Bool}{z:Int}{tk:Tok}
def EnZ(q:En):Prop:= ∃z tk,q.2.2=.int z tk/\q.2.1=hashInt z
def IsZ(z:Int)(q:En):Prop:= ∃tk,q.2.2=.int z tk
def Rt(hS:SetP s.heap D L b)(hL: ∀q∈L,EnZ q)(hn:L.length<2000){Q:Bool->Shared->Prop}
  (h1:(∃q∈L,IsZ z q)->Q false s)
  (h2: ∀h' L',(∀q∈L, ¬IsZ z q)->Heap.SameBut D s.heap h'->SetP h' D L' b->(L'.map (·.2)).Perm ((hashInt z,.int z tk)::L.map (·.2))->Q true {s with heap:=h'}):
  wpAny (model prog w) A (setAddHashed D (.int z tk) (hashInt z)) Q E s:=by
 obtain⟨o,es,ep,t,ho,hex,hd,hes,ti,hled,hpl⟩:=hS;have hsz:es.size=L.length:=by rw[<-Array.length_toList,hes,lM]
 have hfit:t.fits es.size=true:=by rw[hsz];exact ti.fits
 have hmx:=ti.mx;have hfl:=ti.fl;have hod:=ti.od;have hel:ElemsOf (intKind prog w) es.toList:=λe he=>by rw[hes]at he;obtain⟨q,hq,rfl⟩:=mM.mp he;obtain⟨y,u,e1,e2⟩:=hL q hq;exact⟨⟨y,by rw[e1];simp[intKind,Value.isInt],e2⟩,by rw[e1];rfl⟩
 have hkey:(intKind prog w).is z (.int z tk)=true:=by simp[intKind,Value.isInt]
 unfold setAddHashed setAddHashedIn;refine wpAny_holding (wB (wpAny_setState_of ho hd hfit ?_));dsimp only;rw[byScan_of (knd:=intKind prog w) rfl (by rw[hsz];unfold scanBound;omega) hel];simp only[↓reduceIte];unfold setAddByScan;refine wB ?_;refine wB (wpAny_rule ?_);refine wB (wpAny_setScan_of (knd:=intKind prog w) hkey ho hd hfit hel ?_)
 cases hr:List.findIdx? (λe=>(intKind prog w).is z e.2) es.toList with
 |some j=>
  dsimp only;obtain⟨hj,hpj,_⟩:=List.findIdx?_eq_some_iff_getElem.mp hr;have hm:es.toList[j]∈L.map (·.2):=by rw[<-hes];exact getElem_mem hj
  obtain⟨q,hq,e⟩:=mM.mp hm;rw[<-e]at hpj;obtain⟨u,e2⟩:=Value.isInt_shape hpj;exact wP (wP (h1 ⟨q,hq,u,e2⟩))
 |none=>
  dsimp only;have hno: ∀q∈L, ¬IsZ z q:=λq hq ⟨u,e⟩=>by have:=List.findIdx?_eq_none_iff.mp hr q.2 (by rw[hes];exact mM.mpr ⟨q,hq,rfl⟩);rw[e]at this;simp[intKind,Value.isInt]at this
  have hgw: ∀{s₁:Shared}{Q':Unit->Shared->Prop},Q' () s₁->wpAny (model prog w) A _ Q' E s₁:=λhq=>wP hq;obtain⟨j,e0,hj,hf,hw⟩:=ti.freeSlot (hashInt z);obtain⟨p,e1,e2,hp,e3,e4,e5⟩:=ti.put (v:=.int z tk) hj hf hw;have hes1:(SetTable.insertAt es p (hashInt z,Value.int z tk)).toList=(L.take p++(j,hashInt z,Value.int z tk)::L.drop p).map (·.2):=by rw[SetTable.toList_insertAt,hes];simp
  have hln1:(L.take p++(j,hashInt z,Value.int z tk)::L.drop p).length=L.length+1:=by simp;omega
  have hsz1:(SetTable.insertAt es p (hashInt z,Value.int z tk)).size=L.length+1:=by rw[<-Array.length_toList,hes1,lM,hln1]
  have hpz1:(SetTable.insertAt t.place p j).size=L.length+1:=by rw[<-Array.length_toList,e3,lM,hln1]
  have hpm1:((L.take p++(j,hashInt z,Value.int z tk)::L.drop p).map (·.2)).Perm ((hashInt z,.int z tk)::L.map (·.2)):=by refine(List.perm_middle.map _).trans ?_;rw[List.take_append_drop];exact .refl _
  have hf1:({t with place:=SetTable.insertAt t.place p j}:SetTable).fits (SetTable.insertAt es p (hashInt z,Value.int z tk)).size=true:=by simp only[SetTable.fits,SetTable.fill,hpz1,hsz1,ti.dm,aE,beq_iff_eq,decide_eq_true_eq];exact⟨trivial,by simp;omega⟩
  have hlay:layNew t es (hashInt z) (.int z tk)=(SetTable.insertAt es p (hashInt z,.int z tk),{t with place:=SetTable.insertAt t.place p j},false,false):=by unfold layNew;rw[e0];dsimp only;rw[show t.put j=({t with place:=SetTable.insertAt t.place p j},p)from Prod.ext e2 e1];dsimp only;unfold SetTable.orStandIn;rw[hf1];rfl
  rw[hlay];dsimp only;refine wB (hgw ?_);rw[hpl];simp only[if_true];rw[hashByValue_scannable 8 (x:=.int z tk) rfl];refine wB (wP ?_);simp only[plainKind,if_true];refine wB (wpAny_storeSet_of ho hd ?_ (by rw[hsz1,sizeLine_eq];omega));have hg1:(s.heap.update D (Obj.putSet (SetTable.insertAt es p (hashInt z,.int z tk)) {t with place:=SetTable.insertAt t.place p j,plain:=true})).get? D=some {o with data:=.set (SetTable.insertAt es p (hashInt z,.int z tk)) (ep+1) {t with place:=SetTable.insertAt t.place p j,plain:=true}}:=by have:=Heap.get?_update_self (Obj.putSet (SetTable.insertAt es p (hashInt z,.int z tk)) {t with place:=SetTable.insertAt t.place p j,plain:=true}) ho (by rw[putSet_of _ _ hd];rfl);rw[putSet_of _ _ hd]at this;exact this
  have hsb1:=Heap.SameBut.update s.heap D (Obj.putSet (SetTable.insertAt es p (hashInt z,.int z tk)) {t with place:=SetTable.insertAt t.place p j,plain:=true});split
  .have hgr:SetTable.grown (SetTable.insertAt es p (hashInt z,Value.int z tk)).size=(L.length+1) * 4:=by unfold SetTable.grown;rw[iN (by omega),hsz1]
   obtain⟨e,he3,he13,hab,hlt⟩:=Ab (n:=(L.length+1) * 4) (by omega);obtain⟨t2,or,L2,a1,a2,a3,a4,a5,a6,a7⟩:=Gh he3 he13 t.finger _ t.led (SetTable.insertAt es p (hashInt z,.int z tk)) (by omega) (by omega);have hsz2:(or.filterMap ((SetTable.insertAt es p (hashInt z,Value.int z tk))[·]?)).size=(SetTable.insertAt es p (hashInt z,Value.int z tk)).size:=by rw[<-Array.length_toList,a2,a3.length_eq,Array.length_toList]
   have hL2:L2.length=(SetTable.insertAt es p (hashInt z,Value.int z tk)).size:=by rw[<-lM (f:=(·.2)),a3.length_eq,Array.length_toList]
   have hrel:relayAll {t with place:=SetTable.insertAt t.place p j,plain:=true} (SetTable.insertAt es p (hashInt z,.int z tk)) (SetTable.grown (SetTable.insertAt es p (hashInt z,Value.int z tk)).size)=(or.filterMap ((SetTable.insertAt es p (hashInt z,Value.int z tk))[·]?),t2,false):=by unfold relayAll SetTable.relaid;rw[hgr,hab];dsimp only;rw[a1];dsimp only;rw[iP];rw[hsz2,aE];exact⟨List.isPerm_iff.mpr a7,by rw[<-hL2];exact a4.fits⟩
   rw[hrel];dsimp only;refine wB (hgw ?_);refine wB (wpAny_storeSet_of hg1 rfl ?_ (by rw[hsz2,hsz1,sizeLine_eq];omega));refine wP (wP (h2 _ L2 hno (hsb1.trans (Heap.SameBut.update _ D _)) ⟨{o with data:=.set _ (ep+1+1) t2},_,_,t2,?_,hex,rfl,a2,a4,a5.trans hled,a6⟩ ?_))
   .have:=Heap.get?_update_self (Obj.putSet (or.filterMap ((SetTable.insertAt es p (hashInt z,Value.int z tk))[·]?)) t2) hg1 (by rw[putSet_of _ _ rfl];rfl);rw[putSet_of _ _ rfl]at this;exact this
   .rw[hes1]at a3;exact a3.trans hpm1
  .rename_i hnf;refine wP (wP (h2 _ (L.take p++(j,hashInt z,Value.int z tk)::L.drop p) hno hsb1 ⟨_,_,_,{t with place:=SetTable.insertAt t.place p j,plain:=true},hg1,hex,rfl,hes1,⟨e3,e4,ti.dm,ti.pw,hod,hmx,λq hq=>⟨(e5 q hq).1,@Way.to t {t with place:=SetTable.insertAt t.place p j,plain:=true} rfl _ _ (λ_ z=>z) _ _ (e5 q hq).2⟩,?_⟩,hled,rfl⟩ hpm1));simp only[SetTable.tooFull,SetTable.fill,hpz1,ti.dm,Bool.not_false,Bool.true_and,decide_eq_true_eq,Nat.not_le]at hnf;rw[hln1];simpa using hnf
end
def zV(x:Int×Value):Int:=match x.2 with
 |.int z _=>z
 |_=>0
def BE(M:Tc)(z:Int):List Int:=if z∈M then M else z::M
def dG(zs:Tc):List Int:=zs.foldl BE []
theorem QL{zs:Tc}{i:Nat}{z:Int}(h:zs[i]? =some z):dG (zs.take (i+1))=BE (dG (zs.take i)) z:=by unfold dG;rw[List.take_add_one,h,List.foldl_append];rfl
theorem EF: ∀(zs M:Tc),M.Nodup->(zs.foldl BE M).Nodup/\(∀z,z∈zs.foldl BE M↔z∈M\/z∈zs)/\(zs.foldl BE M).length<=M.length+zs.length
 |[],M,h=>⟨h,λz=>by simp,Nat.le_refl _⟩
 |y::zs,M,h=>by
  rw[List.foldl_cons];by_cases c:y∈M
  .rw[show BE M y=M from iP c];obtain⟨a,b,d⟩:=EF zs M h;refine⟨a,λz=>?_,Nat.le_trans d (le_succ _)⟩;rw[b,mC];exact⟨λz=>z.imp id .inr,λz=>z.elim .inl λz=>z.elim (λe=>.inl (e▸c)) .inr⟩
  .rw[show BE M y=y::M from iN c];obtain⟨a,b,d⟩:=EF zs (y::M) (nodup_cons.mpr ⟨c,h⟩);refine⟨a,λz=>?_,?_⟩
   .rw[b,mC,mC,or_assoc,or_left_comm]
   .rw[lC]at d ⊢; omega
def MH(zs:Tc):(dG zs).Nodup/\(∀z,z∈dG zs↔z∈zs)/\(dG zs).length<=zs.length:=by obtain⟨a,b,d⟩:=EF zs [] nodup_nil;exact⟨a,λz=>(b z).trans (by simp),by unfold dG;simpa using d⟩
def SetZ(h:Heap)(D:Addr)(M:Tc)(b:Bool):Prop:= ∃L,SetP h D L b/\(∀q∈L,EnZ q)/\((L.map (·.2)).map zV).Perm M
def SetZ.moveZ{h h':Heap}{D:Addr}{M:Tc}{b:Bool}(x:SetZ h D M b)(m: ∀o,h.get? D=some o->h'.get? D=some o):SetZ h' D M b:=by obtain⟨L,a,r⟩:=x;exact⟨L,a.move m,r⟩
def Ng{vs:Td}{zs:Tc}(h:IntsAre vs zs):vs.length=zs.length:=by
 induction h with
 |nil=>rfl
 |cons n t _ ih=>simp[ih]
def Nh{vs:Td}{zs:Tc}(h:IntsAre vs zs): ∀{i:Nat}{v:Value},vs[i]? =some v-> ∃z tk,zs[i]? =some z/\v=.int z tk:=by
 induction h with
 |nil=>intro i v e;simp at e
 |cons n t _ ih=>
  intro i v e
  cases i with
  |zero=>simp at e;exact⟨n,t,rfl,e.symm⟩
  |succ i=>exact ih (by simpa using e)
def Ni{P:Program}{w:World}{A:Around}{E:VP}{s:Shared}{D:Addr}{M:Tc}{b:Bool}{z:Int}{tk:Tok}(hS:SetZ s.heap D M b)(hn:M.length<2000){Q:Bool->Shared->Prop}
  (h: ∀c h',Heap.SameBut D s.heap h'->SetZ h' D (BE M z) b->Q c {s with heap:=h'}):wpAny (model P w) A (setAddHashed D (.int z tk) (hashInt z)) Q E s:=by
 obtain⟨L,hS,hen,hp⟩:=hS;have hzm: ∀q∈L, ∀y u,q.2.2=.int y u->y∈M:=λq hq y u e=>by refine hp.mem_iff.mp (mM.mpr ⟨q.2,mM.mpr ⟨q,hq,rfl⟩,?_⟩);unfold zV;rw[e]
 refine Rt hS hen (by rw[<-lM (f:=(·.2)), <-lM (f:=zV),hp.length_eq];exact hn) (λ⟨q,hq,u,e⟩=>?_) λh' L' hno sb hS' hp'=>?_
 .have e':s={s with heap:=s.heap}:=by cases s;rfl
  rw[e'];refine h _ s.heap (Heap.SameBut.refl D s.heap) ?_;rw[show BE M z=M from iP (hzm q hq z u e)];exact⟨L,hS,hen,hp⟩
 .refine h _ h' sb ?_;have hc:z∉M:=λhm=>by obtain⟨x,hx,e⟩:=mM.mp (hp.mem_iff.mpr hm);obtain⟨q,hq,rfl⟩:=mM.mp hx;obtain⟨y,u,e1,_⟩:=hen q hq;unfold zV at e;rw[e1]at e;have e:y=z:=e;exact hno q hq ⟨u,e▸e1⟩
  rw[show BE M z=z::M from iN hc];refine⟨L',hS',λq hq=>?_,(hp'.map zV).trans (hp.cons z)⟩;rcases mC.mp (hp'.mem_iff.mp (mM.mpr ⟨q,hq,rfl⟩))with e|e
  .exact⟨z,tk,by rw[e],by rw[e]⟩
  .obtain⟨r,hr,e⟩:=mM.mp e;obtain⟨y,u,e1,e2⟩:=hen r hr;exact⟨y,u,by rw[<-e];exact e1,by rw[<-e];exact e2⟩
section
variable{P:Program}{w:World}{A:Around}{R:Result->Shared->Prop}{I D:Addr}{fp wr:Tg}{G:Array GenState->Array GenState->Prop}{n:Nat}{Pv:Nat->Value->Prop}{St:Nat->Shared->Prop}{zs:Tc}
theorem EG(W:PySem.WalksS P w A.in1 I fp wr G n Pv St)(hD:D∉fp)(hv: ∀i v,Pv i v-> ∃z tk,zs[i]? =some z/\v=.int z tk)(hb:zs.length<2000):
  ∀(k i:Nat)(s:Shared),i+k=n->St i s->SetZ s.heap D (dG (zs.take i)) (!BD w)->
   (∀s',PySem.Moved (D::wr) G s s'->SetZ s'.heap D (dG (zs.take n)) (!BD w)->R (.ok (.ret .none)) s')->codeAny (model P w) A (.builtin "set.update.loop" ⟨[.ref D,.ref I],[]⟩) R s
 |0,i,s,hk,st,hs,q=>by have e:i=n:=hk;subst e;refine codeAny_builtin F.entry_set_update_loop ?_;rw[Around.under_plainId F.plain_set_update_loop _];show wpAny _ A.in1 (pyNext (.ref I) >>= _) _ _ s;refine wB (W.done s _ _ st λs' m=>?_);exact wP (q s' (m.mono λb hb=>.tail _ hb) (hs.moveZ λo=>m.heap D o λz=>hD (W.sub _ z)))
 |k+1,i,s,hk,st,hs,q=>by
  refine codeAny_builtin F.entry_set_update_loop ?_;rw[Around.under_plainId F.plain_set_update_loop _];show wpAny _ A.in1 (pyNext (.ref I) >>= _) _ _ s;refine wB (W.item i s _ _ (by omega) st λv s' hP st' m=>?_);obtain⟨z,tk,hx,rfl⟩:=hv i v hP;have hs1:SetZ s'.heap D (dG (zs.take i)) (!BD w):=hs.moveZ λo=>m.heap D o λz=>hD (W.sub _ z);show wpAny _ A.in1 (holding [.int z tk] (setAdd D (.int z tk)) >>= _) _ _ s';refine wB (wpAny_holding ?_);unfold setAdd;refine wpAny_holding (wB ((intKind P w).pyHash (k:=z) (by simp[intKind,Value.isInt]) ?_));refine Ni (s:={s' with toks:=s'.toks+1}) hs1 (lt_of_le_of_lt (Nat.le_trans (MH _).2.2 (List.length_take_le' _ _)) hb) λc h2 sb hs2=>?_;rw[<-QL hx]at hs2;refine wP ⟨plainId_quiet F.plain_set_update_loop _,EG W hD hv hb k (i+1) _ (by omega) (W.frame _ s' _ _ st' (le_succ _) λb hb o e=>?_) hs2 λs2 m2 hs4=>?_⟩
  .rw[sb.2 b λz=>hD (z▸hb)];exact e
  .refine q s2 (PySem.Moved.trans W.gtrans ((m.mono λb hb=>.tail _ hb).then_heap (le_succ _) λb o hb e=>?_) m2) hs4;rw[sb.2 b λz=>hb (by rw[z];exact .head _)];exact e
end
section
variable{P:Program}{w:World}{A:Around}{E:VP}{s:Shared}
def Ru{h:Heap}{a:Addr}{b:Bool}(ho:h.get? a=some (wM b)):SetZ h a [] b:=by
 obtain⟨L,x,p⟩:=Rq ho;have e:L=[]:=by have:=p.length_eq;simpa using this
 subst e;exact⟨[],x,λq hq=>absurd hq (by simp),.refl _⟩
def GH{l:Addr}{items:Te}{zs:Tc}{Q:VP}(hh:A.handled=none)(hl:s.heap.IsList l items\/s.heap.IsTuple l items)(hv:IntsAre items.toList zs)(hb:zs.length<2000)
  (h: ∀(h':Heap)(tk:Nat),SetZ h' s.heap.objs.size (dG zs) (!BD w)->(∀b o,s.heap.get? b=some o->h'.get? b=some o)->Q (.ref s.heap.objs.size) {s with heap:=h',toks:=tk}):
  wpAny (model P w) A (call (.type "set") [.ref l]) Q E s:=by
 have hsz:items.size=zs.length:=by rw[<-Array.length_toList];exact Ng hv
 have hvi: ∀(i:Nat)(v:Value),items[i]? =some v-> ∃z tk,zs[i]? =some z/\v=.int z tk:=λi v h=>Nh hv (by rw[Array.getElem?_toList];exact h);obtain⟨c,tl,hmro⟩:=F.called_set.mro;have hmade:=F.called_set.made;have hsub:=F.called_set.sub;refine wpAny_call (codeAny_of_tree ?_);show wpAny _ _ (callAny (.type "set") _) _ _ _;refine wP ⟨Code.quiet_builtin _ (by decide+kernel),codeAny_builtin F.entry_type_call ?_⟩;rw[Around.under_plain (weight_type_call_type "set" [.ref l] []) rfl];have h1:=F.called_set.notType;have h2:=F.called_set.canCreate;have hct:=F.typeCall_set_1 (.ref l)
 repeat (any_goals (first |assumption|wp_step))
 refine codeAny_mono (GE (.ref l) (E:=E) (Q₁:=λob s1=>ob=.ref s.heap.objs.size/\s1={s with heap:=s.heap.push (wM (!BD w))}) ⟨rfl,rfl⟩) λr s1 hr=>?_
 cases r with
 |error e=>exact hr
 |ok fl=>
  cases fl with
  |ret ob=>
   obtain⟨rfl,rfl⟩:=hr;have g0:(s.heap.push (wM (!BD w))).get? s.heap.objs.size=some (wM (!BD w)):=Heap.get?_push_size _ rfl;have hT:Shared.TypeIs {s with heap:=s.heap.push (wM (!BD w))} (.ref s.heap.objs.size) "set":=⟨_,g0,rfl⟩
   have hli:=F.called_set.init.lookup;have hbi:=F.called_set.init.bind (.ref s.heap.objs.size)
   repeat (any_goals (first |assumption|wp_step))
   refine codeAny_mono (codeAny_call_builtin (R:=wants (λr s2=>r=.none/\ ∃h' tk,s2={s with heap:=h',toks:=tk}/\SetZ h' s.heap.objs.size (dG zs) (!BD w)/\ ∀b o,s.heap.get? b=some o->h'.get? b=some o) E)
    F.called_set.init.plain F.entry_set_init (check_set_init_1 hT ?_)) λr2 s2 hr2=>?_
   .have hs1:=PySem.F.sub_list_set;have hs2:=PySem.F.sub_list_frozenset;have hs3:(Value.type "list"==Value.type "dict")=false:=by decide
    have hs4:=PySem.F.sub_tuple_set;have hs5:=PySem.F.sub_tuple_frozenset;have hs6:(Value.type "tuple"==Value.type "dict")=false:=by decide
    have h3:A.in1.in1.in1.handled=none:=by simp[hh]
    rcases hl with hl|hl
    all_goals
     have hl1:=hl.push (wM (!BD w));obtain⟨⟨oc,od,oda,os⟩,hol,hcl,nl,hdl⟩:=hl;cases hcl;cases hdl;have hol':=hP0 (wM (!BD w)) hol;have lt:l<s.heap.objs.size:=Heap.lt_size hol;unfold Builtin.«set.__init__» noKeywords Builtin.Frozenset.updateFrom;generalize hPI:pyIter=PI
     wp_walk
     subst hPI
     first |refine wpAny_pyIter_list hl1 ?_|refine wpAny_pyIter_tuple hl1 ?_
     refine wB (wpAny_runValue ?_);have lt2:l<(s.heap.push (wM (!BD w))).objs.size:=by rw[Heap.size_push];exact Nat.lt_succ_of_lt lt
     have out:s.heap.objs.size∉[(s.heap.push (wM (!BD w))).objs.size,l]:=by
      rw[Heap.size_push];intro z;rcases mC.mp z with z|z
      .exact absurd z (Nat.ne_of_lt (Nat.lt_succ_self _))
      .exact absurd (mS.mp z) (Nat.ne_of_gt lt)
     refine EG (by first |(have:=(hl1:Heap.IsList _ _ _);exact(Walks.list h3 _ l (Nat.ne_of_lt lt2) items).toS)|exact(Walks.tuple h3 _ l (Nat.ne_of_lt lt2) items).toS) (D:=s.heap.objs.size) (zs:=zs) out (λi v hiv=>hvi i v hiv) hb items.size 0 _ (Nat.zero_add _) ?_ ?_ ?_
     .exact⟨⟨_,Heap.get?_push_size _ rfl,rfl,rfl⟩,hl1.push _⟩
     .exact Ru (hP0 _ g0)
     intro s' m hs';rw[hsz,List.take_length]at hs';obtain⟨h',g',d',tk',os'⟩:=s';have e1:g'=s.gens:=m.gens;have e2:d'=s.drawn:=m.drawn;have e3:os'=s.os:=m.os;subst e1;subst e2;subst e3;show wpAny _ _ _ _ _ _;refine wP ?_;show wpAny _ _ (ret Value.none) _ _ _;refine wP ⟨rfl,h',tk',rfl,hs',λb o e=>?_⟩;have hb0:=Heap.lt_size e;refine m.heap b o (λz=>?_) (hP0 _ (hP0 _ e));rcases mC.mp z with z|z
     .exact absurd z (Nat.ne_of_lt hb0)
     .rw[Heap.size_push]at z;exact absurd (mS.mp z) (Nat.ne_of_lt (Nat.lt_succ_of_lt hb0))
   .cases r2 with
    |error e=>exact hr2
    |ok fl2=>
     cases fl2 with
     |ret r=>
      obtain⟨rfl,h',tk,rfl,hs',hk'⟩:=hr2
      repeat (any_goals (first |assumption|wp_step))
      exact h _ _ hs' hk'
     |_=>exact hr2.elim
  |_=>exact hr.elim
end
def Rv{vs:Td}(h: ∀v∈vs, ∃z t,v=.int z t): ∃zs,IntsAre vs zs/\zs=vs.map λv=>zV (0,v):=by
 induction vs with
 |nil=>exact⟨[],.nil,rfl⟩
 |cons v vs ih=>
  obtain⟨z,t,rfl⟩:=h v mF0;obtain⟨zs,a,b⟩:=ih λu hu=>h u (mO _ hu);exact⟨z::zs,.cons z t a,by rw[b];rfl⟩
section
variable{prog:Program}{w:World}{A:Around}{E:VP}{s:Shared}
def MI{Q:VP}(hh:A.handled=none){D:Addr}{M:Tc}(hS:SetZ s.heap D M (!BD w))(hn:M.length<64)
  (h: ∀(h':Heap)(tk:Nat)(d':Drawn)(out:Te)(ns':Tc),(∀b o,s.heap.get? b=some o->h'.get? b=some o)->IntsAre out.toList ns'->ns'.Perm M->ns'.Pairwise (· <=·)-> ∀vs:List Value,Q (.ref h'.objs.size) {s with heap:=sortedHeap (h'.push (seqObj "list" vs.toArray 0)) h'.objs.size vs out,toks:=tk,drawn:=d'}):
  wpAny (model prog w) A (call (.builtin "sorted") [.ref D]) Q E s:=by
 obtain⟨L,⟨o,es,ep,t,ho,hex,hd,hes,ti,hled,hpl⟩,hen,hp⟩:=hS;have hsz:es.size=L.length:=by rw[<-Array.length_toList,hes,lM]
 have hLM:L.length=M.length:=by rw[<-hp.length_eq,lM,lM]
 refine Calls.call_function_entry kind_sorted plain_sorted entry_sorted (args_sorted1 _) ?_;refine wB (wP ?_);refine wB (JQ (A:=A.in1) hh ⟨o,ho,hex,hd,by rw[hsz];exact ti.fits⟩ hled hpl ti.ris (by omega) λh' tk d' acc hk hacc=>?_);have hlen:acc.toList.length=es.size:=by rw[hacc.length_eq,lM,Array.length_toList]
 refine wB (wpAny_newList ?_ (by rw[sizeLine_eq];omega));have hoL:(h'.push (seqObj "list" acc.toList.toArray 0)).get? h'.objs.size=some _:=Heap.get?_push_size _ rfl;show wpAny _ _ _ _ _ {s with heap:=h'.push _,toks:=tk,drawn:=d'};obtain⟨zs,hI,ez⟩:=Rv λv hv=>by obtain⟨x,hx,rfl⟩:=mM.mp (hacc.mem_iff.mp hv);rw[hes]at hx;obtain⟨q,hq,rfl⟩:=mM.mp hx;obtain⟨y,u,e1,_⟩:=hen q hq;exact⟨y,u,e1⟩
 have hzM:zs.Perm M:=by rw[ez];refine(hacc.map _).trans ?_;rw[hes,List.map_map];exact hp
 refine wB (wpAny_holding (wpAny_call_entry slot_list_sort ⟨_,hoL,rfl⟩ entry_list_sort (list_sort_tree hoL hI (by rw[hlen];omega) λout ns' a1 a2 a3=>⟨_,rfl,?_⟩) (args_list_sort _)));exact wP ⟨_,rfl,h h' tk d' out ns' hk a1 (a2.trans hzM) a3 acc.toList⟩
end
section
variable{X:Cx}{W:XW}{e:Expr}{af:Rho->Sto->R (List Er)}{p1 p2 pos1 pos2:Pos}
def Ac(w:World)(l:Addr)(M:Tc):HO:=.ext λh=>SetZ h l M (!BD w)
theorem MK: ∀{ys:Tc}{us:Td},Vals (ys.map V.int) us->IntsAre us ys
 |[],us,r=>by cases r;exact .nil
 |y::ys,us,r=>by
  cases r with
  |cons r1 r2=>
   obtain⟨t,rfl⟩:=r1;exact .cons y t (MK r2)
def QM:CallR X (.type "set") (λxs H Q=> ∃a k ys,xs=[.ref a]/\Fa k X.K H a (ys.map V.int)/\ys.length<64/\X.calm=true/\ ∀l,H l=none->Q (.ref l) (gH H l (Ac X.w l (dG ys)))):=by
 intro pins s σ H xs us Q I r h;obtain⟨a,k,ys,rfl,hq,hn,hc,q⟩:=h;obtain⟨u,rfl,rx⟩:=vals1 r;cases rx
 obtain⟨its,rv,p⟩: ∃its,Vals _ its/\(s.heap.IsList a its.toArray\/s.heap.IsTuple a its.toArray):=by
  cases k with
  |true=>obtain⟨its,rv,p,_⟩:=I.list hq;exact⟨its,rv,.inl p.isList⟩
  |false=>obtain⟨its,rv,p,_⟩:=I.tuple hq;exact⟨its,rv,.inr p⟩
 refine GH (I.ok.hd hc) p (MK rv) (by omega) λh' tk hs kp=>?_;refine⟨.ref s.heap.objs.size,_,I.laid (o:=Ac X.w s.heap.objs.size _) kp (Nat.le_refl _) ⟨hs,?_,λh1 h2 z mv=>z.moveZ mv⟩,rfl,q _ (I.hok.fresh (Nat.le_refl _))⟩;obtain⟨L,⟨o,_,_,_,ho,_⟩,_⟩:=hs;exact⟨o,ho⟩
def WA:CallR X (.builtin "sorted") (λxs H Q=> ∃l M,xs=[.ref l]/\M.length<64/\H l=some (Ac X.w l M)/\X.calm=true/\ ∀p,H p=none->Q (.ref p) (gH H p (.lst ((PySem.W.sortI M).map V.int)))):=by
 intro pins s σ H xs us Q I r h;obtain⟨l,M,rfl,hn,hl,hc,q⟩:=h;obtain⟨u,rfl,rx⟩:=vals1 r;cases rx;obtain⟨hs,_⟩:=(I.hok l _ hl)
 refine MI (I.ok.hd hc) hs hn λh' tk d' out ns' hk a1 a2 a3 us=>?_;have en:=PySem.W.eq_sortI a2 a3;subst en;have I1:Inv X pins σ H {s with heap:=h',toks:=tk,drawn:=d'}:=I.keptD hk;obtain⟨e,he⟩:=sortedHeap_at (Heap.get?_push_size _ rfl);refine⟨.ref h'.objs.size,_,I1.laid (λb o eb=>?_) (Nat.le_refl _) (show ObjOk X.prog X.w _ _ _ (.lst _)from⟨?_,out.toList,e,qF a1,?_⟩),rfl,q _ (I1.hok.fresh (Nat.le_refl _))⟩
 .have hb:=Heap.lt_size eb;rw[sortedHeap_old (Nat.ne_of_lt hb) (by rw[size_push'];exact Nat.lt_succ_of_lt hb)];exact hP0 _ eb
 .have e2:=a2.length_eq;have:=sizeLine_eq;rw[lM];omega
 .rw[Array.toArray_toList];exact he
def HR(rs:List Er)(S:Sto):R Er:=match rs with
 |[r]=>match srcOf S r with
  |some q=>match intsOf q.ds with
   |some ys=>if ys.length<64 then .ok (.new ((PySem.W.sortI (dG ys)).map MV.int)) S else .no
   |none=>.no
  |none=>.no
 |_=>.no
theorem ML{K:Ud}{α:Tg}{H:Hp}: ∀ys:List Int,DenL K α H (ys.map MV.int) (ys.map V.int)
 |[]=>yF
 |y::ys=>yA (yV y) (ML ys)
def Gj(hc:X.calm=true)(hg:Gl X "sorted")(hm:X.mg "sorted"=none)(hg2:Gl X "set")(hm2:X.mg "set"=none)(ha:GY X W [e] af)
  (he:starEach [e] X.env=(false,eval e X.env)::starEach [] X.env:=by rfl) (hpl:(backTo pos2 (starEach [] X.env)).any (·.1)=false:=by rfl)
  (he1:starEach [.Call (.Name "set" p2) [e] [] pos2] X.env=(false,eval (.Call (.Name "set" p2) [e] [] pos2) X.env)::starEach [] X.env:=by rfl) (hpl1:(backTo pos1 (starEach [] X.env)).any (·.1)=false:=by rfl):
  zT X W (.Call (.Name "sorted" p1) [.Call (.Name "set" p2) [e] [] pos2] [] pos1) (λρ S=>(af ρ S).bind HR):=by
 obtain⟨t,ha,k⟩:=ha;refine⟨_,KR WA hg hm lQ (IC (vD QM hg2 hm2 Mw ha (by decide) (by decide) he hpl) OR he1) (by decide) (by decide) he1 hpl1,λα ρ S σ H Q wd sl q=>k α ρ S σ H _ wd sl (q.bind λvs rs S1 α1 H1 e1 x1 w1 d1 q1=>?_)⟩
 replace q1:=q1.shift x1
 unfold HR at q1;split at q1
 .rename_i r;split at q1
  .rename_i q e1;split at q1
   .rename_i ys ey;split at q1
    .rename_i hn;obtain⟨u,rfl,du⟩:=DI d1;obtain⟨l1,P1,rfl,pp,D1⟩:=PQ w1 e1 du;obtain⟨us,c1,c2⟩:=D1.get _ _ _ pp;rw[HP ey c2]at c1;exact⟨l1,q.k,ys,rfl,c1,hn,hc,λl hl=>⟨l,dG ys,rfl,lt_of_le_of_lt (MH ys).2.2 hn,zZ,hc,λp hp=>Post.newl (q1.shift (w1.newx hl)) (w1.new hl) hp (ML _)⟩⟩
    .exact q1.elim
   .exact q1.elim
  .exact q1.elim
 .exact q1.elim
end
end M
end L2
namespace L2
open PySem PySem.Spec PyProof.Rows
inductive Fz:Hp->Hp->Prop
 |refl (H:Hp):Fz H H
 |step {H H1:Hp} {c:Addr} {o:Obj} {u:HO}:Fz H H1->H1 c=none->Fz H (gH H1 c (.frz o u))
def Fz.keep{H H1:Hp}(h:Fz H H1): ∀{b:Addr}{o:HO},H b=some o->H1 b=some o:=by
 induction h with
 |refl=>exact id
 |step _ n ih=>exact λe=>by rw[zK (zN (ih e) n)];exact ih e
section
variable{X:Cx}{pins:Tk}{σ:St}{H H1:Hp}{s:Shared}{h':Heap}
def Inv.lessfn{g:Str->Bool}(J:Inv X pins σ H s)(hg: ∀x,g x=true->X.fn x=true):Inv {X with fn:=g} pins σ H s:=
 ⟨⟨J.ok.mod,J.ok.kind,J.ok.glob,J.ok.blt,J.ok.above,J.ok.inj,J.ok.has,λx c h e=>J.ok.cab x c (hg x h) e,J.ok.hd,J.ok.frames,J.ok.stk,J.ok.exf,J.ok.bs,J.ok.bsz,J.ok.noex,J.ok.exfs,J.ok.funs,J.ok.frf⟩,J.os,J.bare,J.base,J.loc,J.cell,J.free,
  λx c e=>(J.freeC x c e).imp id λz=>⟨(by
   show g x=false
   cases q:g x with
   |false=>rfl
   |true=>exact absurd ((hg x q).symm.trans z.1) (by decide)),z.2⟩,J.pin,J.hok,J.len⟩
def Inv.fzc{y:Str}{c:Addr}{ob:Obj}(J:Inv X [] σ H s)(hp:X.pn=[])(hy:X.fn y=false)(hc:X.env.cells.lookup y=some c)(h0:X.s₀.heap.get? c=none)(he:s.heap.get? c=some ob)(hn:H c=none):
  Inv X [] σ (gH H c (.frz ob (.ext λh=>h.get? c=some ob))) s:=by
 refine⟨J.ok,J.os,J.bare,⟨J.base.keep,J.base.slot,λb ob' q n hx=>?_,J.base.there,λb xs q=>?_,λb o' u q=>?_,λb ps q=>?_⟩,J.loc,J.cell,?_,λx c' hc'=>?_,λp hp'=>?_,λb u q=>?_,J.len⟩
 .rw[zK λz=>by rw[z,h0]at q;cases q];exact J.base.free b ob' q n hx
 .rw[zK (zN (J.base.tups b xs q) hn)];exact J.base.tups b xs q
 .rw[zK (zN (J.base.frzs b o' u q) hn)];exact J.base.frzs b o' u q
 .rw[zK (zN (J.base.tbls b ps q) hn)];exact J.base.tbls b ps q
 .rw[zK (Ne.symm (J.cne y c hc))];exact J.free
 .by_cases e:c'=c
  .subst e;obtain rfl:=J.ok.inj _ _ _ hc' hc;exact .inr ⟨hy,ob,zZ⟩
  .unfold Pb;rw[zK e];exact J.freeC x c' hc'
 .rw[hp]at hp';cases hp'
 .by_cases z:b=c
  .subst z;rw[zZ]at q;cases q;exact⟨he,he,⟨ob,he⟩,λh1 h2 p k=>k _ p⟩
  .rw[zK z]at q;exact(J.hok b u q).stay (λ_ _ _ r=>r) (λc r=>by rw[zK (zN r hn)];exact r) (λc xs r=>by rw[zK (zN r hn)];exact r) λc ob xs r=>by rw[zK (zN r hn)];exact r
theorem Inv.fzcs(hp:X.pn=[]): ∀(ys:Th){H:Hp},Inv X [] σ H s->(∀y∈ys,X.fn y=false/\ ∃c,X.env.cells.lookup y=some c/\X.s₀.heap.get? c=none)->
  ∃H1,Fz H H1/\Inv X [] σ H1 s/\ ∀y∈ys, ∃c,X.env.cells.lookup y=some c/\Pb H1 c
 |[],H,J,_=>⟨H,.refl H,J,λy h=>by cases h⟩
 |y::ys,H,J,h=>by
  obtain⟨H1,f,J1,q⟩:=Inv.fzcs hp ys J λz hz=>h z (mO _ hz);obtain⟨hy,c,hc,h0⟩:=h y mF0;rcases J1.freeC y c hc with n|⟨_,z⟩
  .obtain⟨v,ob,he,_⟩:=J1.cell y c hc;refine⟨_,f.step n,J1.fzc hp hy hc h0 he n,λz hz=>?_⟩;rcases mC.mp hz with rfl|hz
   .exact⟨c,hc,ob,zZ⟩
   .obtain⟨c',e1,ob',e2⟩:=q z hz;exact⟨c',e1,ob',by rw[zK (zN e2 n)];exact e2⟩
  .refine⟨H1,f,J1,λz' hz=>?_⟩;rcases mC.mp hz with rfl|hz
   .exact⟨c,hc,z⟩
   .exact q z' hz
def Inv.grow{P0:Addr}{ps:Te}{tk:Nat}(I:Inv X pins σ H s)(kp: ∀b o,b≠P0->s.heap.get? b=some o->h'.get? b=some o)(f:Fz H H1)(new: ∀b u,H1 b=some u->H b=none->s.heap.objs.size<=b/\ObjOk X.prog X.w H1 h' b u)
  (hP:H P0=some (.tbl ps)) (hP':ObjOk X.prog X.w H1 h' P0 (.tbl ps)):Inv X pins σ H1 {s with heap:=h',toks:=tk}:=by
 refine I.un ⟨λb o e n _ _=>kp b o (λz=>by rw[z,hP]at n;cases n) e,λb o e n _ _=>⟨_,kp b o (λz=>by rw[z,hP]at n;cases n) e⟩,λb o e n _=>?_,λb o e _=>?_,λb xs q=>f.keep q,λb o u q=>f.keep q,λb ps q=>f.keep q⟩ λb u q=>?_
 .cases q:H1 b with
  |none=>rfl
  |some u=>exact absurd (Nat.lt_of_lt_of_le (Heap.lt_size e) (new b u q n).1) (lt_irrefl _)
 .by_cases z:b=P0
  .obtain⟨us,e',_⟩:=hP';exact⟨_,by rw[z];exact e'⟩
  .exact⟨o,kp b o z e⟩
 .cases n:H b with
  |none=>exact(new b u q n).2
  |some u0=>
   have q':=f.keep n;rw[q]at q';cases q';by_cases z:b=P0
   .subst z;rw[hP]at n;cases n;exact hP'
   .refine(I.hok b u n).stay (λc v hc r=>kp c v (λy=>?_) r) (λc r=>f.keep r) (λc xs r=>f.keep r) λc ob xs r=>f.keep r;rcases hc with rfl|hc
    .exact z y
    .rw[y,hP]at hc;cases hc
end
open M
def tDef(cl:List (Str×Addr))(n:NDef)(i:Nat)(idx:Db):TS:=λD σ H=> ∃vs:List V,vs.length=idx.length/\(∀k j:Nat,idx[k]? =some j-> ∃v:V,vs[k]? =some v/\σ[j]? =some (some v))/\(∀y∈n.fr, ∃c,cl.lookup y=some c/\Pb H c)/\
 ∀f H1,Fz H H1->CloH H1 f n vs->D.nx (σ.set i (some (.ref f))) H1
def JR{n:NDef}{y:Str}:y∈n.fr↔(y,NameKind.free)∈n.sc.names:=by
 unfold NDef.fr;rw[mem_filterMap];constructor
 .rintro⟨⟨x,k⟩,h,e⟩;split at e
  .rename_i hk;cases e;rw[<-show k=NameKind.free by simpa using hk];exact h
  .cases e
 .exact λh=>⟨_,h,rfl⟩
def Nj{X:Cx}{nm q:Str}{nps:Arguments}{nbd:List Stmt}{nsc:Scope}{pos:Pos}{c P0:Addr}(i:Nat)(idx:Db)(hNN:X.N.Nodup)(hi:X.N[i]? =some nm)(hx:Loc X.env.scope nm)(hfn:X.fn nm=true\/X.env.scope.names.lookup nm=some .local)
  (hd0:nps.defaults=[]) (hk0:nps.kw_defaults=[]) (ha:annTrees nps none X.env=[]) (hq:qualnameIn X.env nm nm=q) (hcode:X.env.code=.ref c) (hC:PySem.W.CodeHd X.base c P0)
  (hT:tabAt X.prog X.K P0=some #[rawInt pos.line,rawInt pos.col,.str q 0]) (hfr: ∀y∈NDef.fr ⟨nm,q,nps,nbd,nsc⟩,X.env.scope.names.lookup y=some .cell) (hcap:idx.map (X.N[·]?)=(NDef.fr ⟨nm,q,nps,nbd,nsc⟩).map some):
  PS X (.FunctionDef nm nps nbd [] none [] nsc none nm pos) (tDef X.env.cells ⟨nm,q,nps,nbd,nsc⟩ i idx):=by
 generalize hn:(⟨nm,q,nps,nbd,nsc⟩:NDef)=n at *;intro pins s σ H D I ⟨vs,hl,hv,hz,k⟩;have hhas: ∀y∈nsc.names,y.2=.free-> ∃c,X.env.cells.lookup y.1=some c:=λy hy e=>by obtain⟨c,hc,_⟩:=hz y.1 (by rw[<-hn,JR, <-e];exact hy);exact⟨c,hc⟩
 refine PySem.W.nestDef_K hd0 hk0 ha ?_;rw[hq];obtain⟨us,hP,hus⟩:=I.hok P0 _ (I.bsz.tb P0 _ hT);have hPH:=I.bsz.tb P0 _ hT;have hg:=I.mod.glob.keeps I.bk;have hgP:mainGlobals≠P0:=λz=>by obtain⟨o,es,ep,e,hd,_⟩:=hg;rw[z,hP]at e;cases e;cases hd
 have hb:s.heap.BuiltinsAt X.mg P0:=by
  obtain⟨bm,ob,b1,b2,b3,b4,b5,b6⟩:=I.mod.bmain;have b3:=I.bk _ _ b3;refine⟨bm,ob,b1,b2,λz=>?_,λz=>?_,b3,b4,b5,b6⟩
  .obtain⟨o,es,ep,e,hd,_⟩:=hg;rw[z,e]at b3;cases b3;rw[hd]at b6;cases b6
  .rw[z,hP]at b3;cases b3;cases b4
 have Cc:=hC.keeps I.bk
 have fin: ∀(h2:Heap)(tk:Nat)(H1:Hp)(f c':Addr)(fo oc:Obj)(doc pm ct:Value)(ws:Te)(t:Tok),Fz H H1->H1 f=none->s.heap.objs.size<=f->(∀b o,b≠P0->s.heap.get? b=some o->h2.get? b=some o)->
   (∀b u,H1 b=some u->H b=none->s.heap.objs.size<=b/\ ∀H',(∀b o u,H1 b=some (.frz o u)->H' b=some (.frz o u))->ObjOk X.prog X.w H' h2 b u)->
   h2.get? f=some fo->fo.data=.func (PySem.W.fnX nm q nps nbd nsc (dC X.env nsc.names []) .none .none doc pm none (.ref c') ct)->H1 c'=some (.frz oc (.ext λh=>h.get? c'=some oc))->oc.data=.fields ws->ws[1]? =some (.str q t)->
   (∀H',(∀b o u,H1 b=some (.frz o u)->H' b=some (.frz o u))->ObjOk X.prog X.w H' h2 P0 (.tbl #[rawInt pos.line,rawInt pos.col,.str q 0]))->
   wpAny (model X.prog X.w) X.A (storeName X.env nm (.ref f)) (λ_ s''=>SP X pins D .next s'') X.xe {s with heap:=h2,toks:=tk}:=by
  intro h2 tk H1 f c' fo oc doc pm ct ws t hF hf hsz kp new hof hfo hc' hd hw hP';have fz: ∀b o u,H1 b=some (.frz o u)->(gH H1 f (.frz fo (.frz fo (.ext λh=>h.get? f=some fo)))) b=some (.frz o u):=λb o u e=>by rw[zK (zN e hf)];exact e
  have hF2:Fz H (gH H1 f (.frz fo (.frz fo (.ext λh=>h.get? f=some fo)))):=hF.step hf
  have J:Inv X pins σ _ {s with heap:=h2,toks:=tk}:=I.grow kp hF2 (λb u e n=>by
   by_cases z:b=f
   .subst z;rw[zZ]at e;cases e;exact⟨hsz,hof,hof,hof,⟨_,hof⟩,λh1 h2 p k=>k _ p⟩
   .rw[zK z]at e;obtain⟨a1,a2⟩:=new b u e n;exact⟨a1,a2 _ fz⟩) hPH (hP' _ fz)
  refine sZ J hNN hi hx (v:=.ref f) rfl (λs' J'=>⟨_,_,J',k f _ hF2 ?_⟩) hfn;have src: ∀x c,(dC X.env nsc.names []).lookup x=some c->X.env.cells.lookup x=some c:=λx c e=>oW nsc.names [] hhas (λ_ z=>nomatch z) _ (PySem.mem_of_lookup e);have cel: ∀x c,X.env.cells.lookup x=some c->x∈n.fr-> ∃o,s.heap.get? c=some o/\(gH H1 f _) c=some (.frz o (.ext λh=>h.get? c=some o)):=λx c e hx=>by obtain⟨c2,e2,o,e3⟩:=hz x hx;rw[e]at e2;cases e2;exact⟨o,(I.hok c _ e3).1,hF2.keep e3⟩
  have lk: ∀(j:Nat)(x:Str)(v:V),n.fr[j]? =some x->vs[j]? =some v-> ∃c o u,X.env.cells.lookup x=some c/\(dC X.env nsc.names []).lookup x=some c/\s.heap.get? c=some o/\(gH H1 f _) c=some (.frz o (.ext λh=>h.get? c=some o))/\o.data=.cell (some u)/\RelV v u:=λj x v e1 e2=>by
   have hx:=mem_of_getElem? e1;have hj:j<idx.length:=by rw[<-hl];exact(gS0.mp e2).1
   have ej:idx[j]? =some idx[j]:=gE hj;obtain⟨v',e3,e4⟩:=hv j _ ej;rw[e2]at e3;cases e3;have e5:X.N[idx[j]]? =some x:=by have:=congrArg (·[j]?) hcap;simp only[getElem?_map,ej,e1,Option.map_some]at this;exact Option.some.inj this
   obtain⟨m,_,hloc⟩:=I.loc;obtain⟨u,r,lo⟩:=hloc _ x v e5 e4 (.inr (.inl (hfr x hx)));rcases lo with⟨kl,_⟩|⟨_,c,e6,o',h1,h2⟩
   .have kl':X.env.scope.names.lookup x=some .local:=kl;rw[hfr x hx]at kl';cases kl'
   .obtain⟨o,e7,e8⟩:=cel x c e6 hx;rw[h1]at e7;cases e7;obtain⟨c2,e9⟩:=eW (env:=X.env) nsc.names [] x (by rw[<-hn]at hx;exact JR.mp hx);obtain⟨c3,e10⟩:=wQ ⟨c2,e9⟩;have:=src x c3 e10;rw[e6]at this;cases this;exact⟨c,o',u,e6,e10,h1,e8,h2,r⟩
  have hlen:vs.length=n.fr.length:=by have:=congrArg List.length hcap;rw[lM,lM]at this;rw[hl,this]
  refine⟨fo,_,doc,pm,ct,c',zZ,by rw[<-hn];exact hfo,⟨oc,ws,t,fz _ _ _ hc',hd,by rw[<-hn];exact hw⟩,λx y c e1 e2=>I.ok.inj x y c (src x c e1) (src y c e2),λx c e=>?_,hlen,λj x v e1 e2=>?_⟩
  .have hx:x∈n.fr:=by rw[<-hn,JR];exact(vF nsc.names [] _ (PySem.mem_of_lookup e)).resolve_left λy=>nomatch y
   obtain⟨j,hj⟩:=getElem?_of_mem hx;have hj':j<vs.length:=by rw[hlen];exact(gS0.mp hj).1
   obtain⟨c2,o,u,a1,a2,a3,a4,a5,a6⟩:=lk j x _ hj (gE hj');rw[src x c e]at a1;cases a1;exact⟨u,o,a4,a5⟩
  .obtain⟨c2,o,u,a1,a2,a3,a4,a5,a6⟩:=lk j x v e1 e2;exact⟨c2,u,a2,⟨o,a4,a5⟩,a6⟩
 have hcl:=qX (scope:=nsc) (env:=X.env) hhas;rcases hus with rfl|⟨c',oc,rfl,hc',hq'⟩
 .refine PySem.W.makeFunction_K hcl I.ok.glob hg hcode Cc hP trivial rfl hgP hb λc' ctv doc h' tk hx hge hlt hrec htb=>?_;obtain⟨c2,oc,ws,t,e2,hoc,hd,hw⟩:=hrec;cases e2;have kp: ∀b o,b≠P0->s.heap.get? b=some o->(h'.push (PySem.W.fnMade nm q nps nbd nsc (dC X.env nsc.names []) doc ((X.mg "__name__").getD .none) c' ctv)).get? b=some o:=λb o n e=>hP0 _ (hx b o n e);have nc:H c'=none:=I.hok.fresh hge;have hf:H h'.objs.size=none:=I.hok.fresh (Nat.le_trans hge (le_of_lt hlt));refine fin _ _ _ h'.objs.size c' _ oc doc _ ctv ws t ((Fz.refl H).step nc) (by rw[zK (Nat.ne_of_gt hlt)];exact hf) (Nat.le_trans hge (le_of_lt hlt)) kp (λb u e n=>?_) (Heap.get?_push_size _ rfl) rfl zZ hd hw λH' hH'=>?_
  .by_cases z:b=c'
   .subst z;rw[zZ]at e;cases e;have hoc':=hP0 (PySem.W.fnMade nm q nps nbd nsc (dC X.env nsc.names []) doc ((X.mg "__name__").getD .none) b ctv) hoc;exact⟨hge,λH' _=>⟨hoc',hoc',⟨_,hoc'⟩,λh1 h2 p k=>k _ p⟩⟩
   .rw[zK z,n]at e;cases e
  .exact⟨_,hP0 _ htb,.inr ⟨c',oc,rfl,hH' _ _ _ zZ,ws,q,t,0,hd,hw,rfl⟩⟩
 .obtain⟨ws,q1,t,t',hd,hw,e1⟩:=hq';have e1:Value.str q 0=.str q1 t':=e1;cases e1;refine PySem.W.makeFunction_hit hcl I.ok.glob hg hcode Cc hP trivial (show codeAmong pos [rawInt pos.line,rawInt pos.col,.ref c']=some (.ref c') by simp[codeAmong,rawInt]) hb λctv doc h' tk hk hsz=>?_;have kp: ∀b o,s.heap.get? b=some o->(h'.push {cls:=.type "function",data:=.func (PySem.W.fnX nm q nps nbd nsc (dC X.env nsc.names []) .none .none doc ((X.mg "__name__").getD .none) none (.ref c') ctv)}).get? b=some o:=λb o e=>hP0 _ (hk b o e);exact fin _ _ H h'.objs.size c' _ oc doc _ ctv ws t (.refl H) (I.hok.fresh hsz) hsz (λb o _ e=>kp b o e) (λb u e n=>by rw[n]at e;cases e) (Heap.get?_push_size _ rfl) rfl hc' hd hw λH' hH'=>⟨_,kp _ _ hP,.inr ⟨c',oc,rfl,hH' _ _ _ hc',ws,q,t,0,hd,hw,rfl⟩⟩
abbrev Ad(zs:Th)(CX:OS)(P:Program)(w:World)(K:Ud)(mg:Ti)(base:Heap)(N:Th)(qual:Str)(scope:Scope)(f:Addr)(cd:Value)(A:Around)(outer:List Env)(s:Shared)(H:Hp)(E:XK):Cx:=
 {IE CX P w K mg base N qual scope f cd A outer s H E with fn:=λx=>!zs.contains x}
def Nk{CX:OS}{P:Program}{w:World}{K:Ud}{mg:Ti}{base:Heap}{k:Nat}{f:Addr}{name qual:Str}{params:Arguments}{body:List Stmt}{scope:Scope}{dV kV doc pm cdv ct oc:Value}{an od:Option Addr}
  {osl:Array (Option Value)} {N ps:Th} {sp:Sp} (zs:Th) (lk:K.lookup f=some ⟨oc,od,.func (PySem.W.fnOf name qual params body scope dV kV doc pm an cdv ct),osl⟩) (hcd:PySem.W.codeIn K cdv qual=true) (S:FnScope N ps scope)
  (hz: ∀y∈zs,scope.names.lookup y=some .cell) (len: ∀vs H Q E,sp vs H Q E->vs.length=ps.length)
  (hbody: ∀(A:Around)(outer:List Env)(s:Shared)(H:Hp)(vs:List V)(Q:VK)(E:XK),Room k (A.deeper (envOfC qual scope s.heap.objs.size f cdv))->Env0 P w K mg base A outer s H->sp vs H Q E->
   ∃t,PSs (Ad zs CX P w K mg base N qual scope f cdv A outer s H E) body t/\ ∀H1,Fz H H1->(∀y∈zs, ∃c,(cellsFrom (s.heap.objs.size+1) scope.names []).lookup y=some c/\Pb H1 c)->t {nx:=λ_ H'=>Q .non H',rt:=Q} (start N vs) H1):
  FnOk P w K mg base CX (k+1) f (PySem.W.fnOf name qual params body scope dV kV doc pm an cdv ct) ps sp:=by
 refine⟨len,λA outer s H args us vs Q E hr e0 hb r hsp=>?_⟩;have KX:=e0.mod.kin.keeps λb o e=>(e0.bs b o e).1
 have hkind: ∀y∈ps.zip us,scope.names.lookup y.1=some .local\/(scope.names.lookup y.1=some .cell/\((cellsFrom (s.heap.objs.size+1) scope.names []).lookup y.1).isSome=true):=λ⟨n,v⟩ hy=>by
  rcases S.par n (of_mem_zip hy).1 with q|q
  .exact .inl q
  .exact .inr ⟨q,PySem.W.cellsFrom_some _ _ _ (.inl q)⟩
 refine codeAny_call_function hr.depth (KX _ _ lk) rfl S.co S.gen rfl (PySem.W.codeRec_of KX hcd) (hb _ _ _ _ ?_);refine wpAny_newFunctionEnv_cells S.kind hkind λenv he s1 x=>?_;subst he;refine⟨(e0.mod.nolimit.keeps λb o e=>(e0.bs b o e).1).keeps x.toInCall.keep,codeAny_func ?_⟩;obtain⟨t,ht,hq⟩:=hbody A outer s H vs Q E (hr.deeper _) e0 hsp;have J0:=(GU (CX:=CX) (E:=E) S hr.hd e0 (len _ _ _ _ hsp) r x).lessfn (g:=λx=>!zs.contains x) λ_ _=>rfl;obtain⟨H1,hF,J,hz1⟩:=J0.fzcs rfl zs λy hy=>⟨by show(!zs.contains y)=false;rw[List.contains_iff_mem.mpr hy];rfl,let ⟨c,hc⟩:=CW (hz y hy);⟨c,hc,Heap.get?_none_of_le (le_of_lt (x.above y c (PySem.mem_of_lookup hc)))⟩⟩
 refine wpAny_mono (ht [] s1 _ H1 _ J (hq H1 hF hz1)) (λfl s' hs=>?_) λe s' hs=>hs
 have fin: ∀{σ':St}{H':Hp}{v:V}{u:Value},Inv (Ad zs CX P w K mg base N qual scope f cdv A outer s H E) [] σ' H' s'->RelV v u->Q v H'->CE outer P w H s Q u s':=
  λ{σ' H' v u} J rv q=>⟨v,H',J.os,J.bare,J.base,J.hok,rv,q⟩
 cases fl with
 |ret u=>
  obtain⟨v,σ',H',J,rv,q⟩:=hs;exact fin J rv q
 |next=>
  obtain⟨σ',H',J,q⟩:=hs;exact fin (v:=V.non) J rfl q
 |brk=>
  obtain⟨_,_,_,q⟩:=hs;exact False.elim q
 |cont=>
  obtain⟨_,_,_,q⟩:=hs;exact False.elim q
namespace M
def Fz.wd{g:Gm}{α:Tg}{S:Sto}{H H1:Hp}(f:Fz H H1)(w:Wd g α S H):Ext α H α H1/\Wd g α S H1:=by
 induction f with
 |refl=>exact⟨Ext.refl α _,w⟩
 |step _ n ih=>exact⟨ih.1.trans (ih.2.newx n),ih.2.new n⟩
def MM{g:Gm}{α:Tg}{H:Hp}{Q:VK}: ∀{m:R Fl},Post g W0 α H (zX m) Q->PostS g W0 α H {nx:=λ_ H'=>Q .non H',rt:=Q} m
 |.ok (.next ρ) S,q=>λσ α' H' x' w' s'=>q .non α' H' x' w' (DenE.val BN)
 |.ok (.ret r) S,q=>λv α' H' x' w' d'=>q v α' H' x' w' d'
 |.ok (.brk ρ) S,q=>q.elim
 |.ok (.cont ρ) S,q=>q.elim
 |.exc c fs S,q=>λα' H' x' w'=>q α' H' x' w'
 |.no,q=>q
section
variable{P:Program}{w:World}{K:Ud}{mg:Ti}{base:Heap}
structure NestAt(P:Program)(K:Ud)(x:Str)(n:NDef)(pos:Pos)(P0:Addr):Prop where
 tab: ∃c,PySem.W.tabIn K x=some (c,P0)
 mem:(x,#[rawInt pos.line,rawInt pos.col,.str n.q 0])∈fO P
 at_:tabAt P K P0=some #[rawInt pos.line,rawInt pos.col,.str n.q 0]
def okZ{x:Str}{st:Stmt}{f:Addr}{fd:FuncData}{N ps:Th}{k:Nat}(Fb:AY)(F:Fun K x x st f fd)(hm:mg x=some (.ref f))(Sc:FnScope N ps (zE st))(n:NDef){pos:Pos}{P0:Addr}(rest:List Stmt)(i:Nat)(idx:Db)
  (na:NestAt P K x n pos P0) (hst:xQ st=.FunctionDef n.nm n.ps n.bd [] none [] n.sc none n.nm pos::rest) (hi:N[i]? =some n.nm) (hx:Loc (zE st) n.nm) (hnz:n.fr.contains n.nm=false) (hd0:n.ps.defaults=[]) (hk0:n.ps.kw_defaults=[])
  (ha: ∀env,annTrees n.ps none env=[]) (hq:x++".<locals>."++n.nm=n.q) (hg:((zE st).names.lookup n.nm==some .globalExplicit)=false) (hfr: ∀y∈n.fr,(zE st).names.lookup y=some .cell) (hcap:idx.map (N[·]?)=n.fr.map some) (hlt: ∀j∈idx,j<ps.length)
  (hbody: ∀(cdv:Value)(A:Around)(outer:List Env)(s:Shared)(H:Hp)(E:XK),Room k (A.deeper (envOfC x (zE st) s.heap.objs.size f cdv))->rX (Ad n.fr vE P w K mg base N x (zE st) f cdv A outer s H E).nox W0 rest Fb):
  FnOk P w K mg base vE (k+1) f fd ps (LK ⟨K,mg,P,w⟩ ps.length λds S=>zX (Fb ((zM N ds).set i (some (.clo n (idx.filterMap (ds[·]?))))) S)):=by
 obtain⟨oc,od,kV,doc,pm,an,cdv,ct,osl,rfl,lk,hcd⟩:=F.ex;have plen: ∀vs H Q E,LK ⟨K,mg,P,w⟩ ps.length (λds S=>zX (Fb ((zM N ds).set i (some (.clo n (idx.filterMap (ds[·]?))))) S)) vs H Q E->vs.length=ps.length:=λvs H Q E ⟨α,S,ds,_,l,hl,_⟩=>by rw[l.length,hl]
 refine Nk n.fr lk hcd Sc hfr plen λA outer s H vs Q E hr e0 h=>?_;have hvl:=plen _ _ _ _ h;obtain⟨α,S,ds,wd,l,hl,q⟩:=h;obtain⟨t,ht,kk⟩:=hbody cdv A outer s H E hr;obtain⟨c,htab⟩:=na.tab;have hcode:cdv=.ref c:=PySem.W.law_code e0.mod.kin e0.mod.glob htab hm (e0.mod.kin _ _ lk) rfl;rw[hst]
 refine⟨_,KP (Nj i idx Sc.nd hi hx (.inl (by show(!n.fr.contains n.nm)=true;rw[hnz];rfl)) hd0 hk0 (ha _)
  (by unfold qualnameIn;rw[iN (by show¬((zE st).names.lookup n.nm==some .globalExplicit)=true;rw[hg];decide)];exact hq) hcode (e0.bsz.cd _ na.mem _ _ htab) na.at_ hfr hcap) ht.nox,λH1 hF hz=>?_⟩
 have hps:=by have:=congrArg List.length Sc.pre;rw[lT]at this;exact this
 have gv: ∀j∈idx, ∃v,vs[j]? =some v:=λj hj=>⟨_,gE (by rw[hvl];exact hlt j hj)⟩
 have pick: ∀(l:Db),(∀j∈l, ∃v,vs[j]? =some v)->(l.filterMap (vs[·]?)).length=l.length/\ ∀(k j:Nat),l[k]? =some j->(l.filterMap (vs[·]?))[k]? =vs[j]? :=by
  intro l
  induction l with
  |nil=>exact λ_=>⟨rfl,λk j e=>by simp at e⟩
  |cons a l ih=>
   intro h;obtain⟨v,hv⟩:=h a mF0;obtain⟨h1,h2⟩:=ih λj hj=>h j (mO _ hj);rw[List.filterMap_cons_some hv];refine⟨by rw[lC,h1,lC],λk j e=>?_⟩
   cases k with
   |zero=>cases e;rw[hv];rfl
   |succ k=>exact h2 k j e
 obtain⟨p1,p2⟩:=pick idx gv;refine⟨idx.filterMap (vs[·]?),p1,λk' j e=>?_,hz,λf2 H2 hF2 hclo=>?_⟩
 .obtain⟨v,hv⟩:=gv j (mem_of_getElem? e);refine⟨v,by rw[p2 k' j e,hv],?_⟩;unfold start;rw[getElem?_append_left (by rw[lM];exact(gS0.mp hv).1),getElem?_map,hv];rfl
 .obtain⟨x1,w1⟩:=Fz.wd hF wd;obtain⟨x2,w2⟩:=Fz.wd hF2 w1;have l2:=(l.ext x1).ext x2;exact kk α _ S _ H2 _ w2 ((AI l2).set (RM hclo (l2.pick idx))) (MM (q.shift (x1.trans x2)))
end
def Rw(H:Hp)(a:Addr)(n:NDef)(fd:FuncData)(vs:List V):Prop:=CloH H a n vs/\ ∃o u,H a=some (.frz o u)/\o.data=.func fd
structure ClScope(ps lo:Th)(n:NDef):Prop where
 kind:n.sc.kind=.function
 co:n.sc.isCoroutine=false
 gen:n.sc.isGenerator=false
 nd:ps.Nodup
 par: ∀x∈ps,n.sc.names.lookup x=some .local
 nocell: ∀y∈n.sc.names,y.2≠.cell
 fre: ∀x∈n.fr,n.sc.names.lookup x=some .free
 lk: ∀y∈n.sc.names,n.sc.names.lookup y.1=some y.2
abbrev Ae(P:Program)(w:World)(K:Ud)(mg:Ti)(base:Heap)(N:Th)(n:NDef)(f:Addr)(cd:Value)(cl:List (Str×Addr))(A:Around)(outer:List Env)(s:Shared)(H:Hp):Cx where
 prog:=P
 w:=w
 K:=K
 mg:=mg
 base:=base
 A:=A.deeper (PySem.W.envX n.q n.sc s.heap.objs.size f cd cl)
 N:=N
 s₀:=s
 H₀:=H
 env:=PySem.W.envX n.q n.sc s.heap.objs.size f cd cl
 outer:=outer
 stack:=PySem.W.envX n.q n.sc s.heap.objs.size f cd cl::outer
 ex:=[]
 calm:=true
 fn:=λ_=>false
 pn:=[]
 xe:=λ_ _=>False
theorem EH{x:Str}{u:Value}: ∀{ps:Th}{us:Td}{i:Nat},ps.Nodup->ps[i]? =some x->us[i]? =some u->((ps.zip us).reverse).lookup x=some u
 |[],_,_,_,h,_=>by simp at h
 |_::_,[],_,_,_,h=>by simp at h
 |p::ps,v::us,0,nd,h1,h2=>by cases h1;cases h2;rw[zip_cons_cons,reverse_cons,bO,vG λc hc=>(nodup_cons.mp nd).1 (of_mem_zip (mem_reverse.mp hc)).1];simp
 |p::ps,v::us,i+1,nd,h1,h2=>by rw[zip_cons_cons,reverse_cons,bO,EH (nodup_cons.mp nd).2 (by simpa using h1) (by simpa using h2)];rfl
def QN(m:Nat)(ds ds0:Ug):Rho:=ds.map some++(List.replicate m none++ds0.map some)
def Sy(g:Gm)(n:NDef)(f:Addr)(fd:FuncData)(np:Nat)(F:List MV->List MV->Sto->R Er)(ds0:Ug):Sp:=λvs H Q E=>(∃vs0,Rw H f n fd vs0/\DenL g.K [] H ds0 vs0)/\LK g np (F ds0) vs H Q E
def Slots.app{K:Ud}{α:Tg}{H:Hp}{ρ ρ':Rho}{σ σ':St}(a:Slots K α H ρ σ)(b:Slots K α H ρ' σ'):Slots K α H (ρ++ρ') (σ++σ'):=by
 refine⟨by rw[lA,lA,a.len,b.len],λi d e=>?_⟩;by_cases h:i<ρ.length
 .rw[getElem?_append_left h]at e;rw[getElem?_append_left (by rw[a.len];exact h)];exact a.slot i d e
 .rw[getElem?_append_right (by omega)]at e;rw[getElem?_append_right (by rw[a.len];omega),a.len];exact b.slot _ d e
def Slots.vals{K:Ud}{α:Tg}{H:Hp}{ds:Ug}{vs:List V}(l:DenL K α H ds vs):Slots K α H (ds.map some) (vs.map some):=by
 refine⟨by rw[lM,lM,l.length],λi d e=>?_⟩;rw[getElem?_map]at e
 cases z:ds[i]? with
 |none=>rw[z]at e;cases e
 |some d'=>
  rw[z]at e;cases e;obtain⟨v,h1,h2⟩:=l.at z;exact⟨v,by rw[getElem?_map,h1];rfl,h2⟩
def Slots.nones{K:Ud}{α:Tg}{H:Hp}(m:Nat):Slots K α H (List.replicate m none) (List.replicate m none):=
 ⟨by rw[List.length_replicate,List.length_replicate],λi d e=>by rw[getElem?_replicate]at e;split at e<;>cases e⟩
section
variable{P:Program}{w:World}{K:Ud}{mg:Ti}{base:Heap}{k:Nat}{ps lo:Th}{n:NDef}{Fb:AY}
def Nl(Sc:ClScope ps lo n)(f:Addr)(fd:FuncData)(ds0:Ug)
  (hbody: ∀(cdv:Value)(cl:List (Str×Addr))(A:Around)(outer:List Env)(s:Shared)(H:Hp),Room k (A.deeper (PySem.W.envX n.q n.sc s.heap.objs.size f cdv cl))->rX (Ae P w K mg base (ps++(lo++n.fr)) n f cdv cl A outer s H) W0 n.bd Fb):
  FnOk P w K mg base vE (k+1) f fd ps (Sy ⟨K,mg,P,w⟩ n f fd ps.length (λds0 ds S=>zX (Fb (QN lo.length ds ds0) S)) ds0):=by
 have plen: ∀vs H Q E,Sy ⟨K,mg,P,w⟩ n f fd ps.length (λds0 ds S=>zX (Fb (QN lo.length ds ds0) S)) ds0 vs H Q E->vs.length=ps.length:=λvs H Q E ⟨_,α,S,ds,_,l,hl,_⟩=>by rw[l.length,hl]
 refine⟨plen,λA outer s H args us vs Q E hr e0 hb r hsp=>?_⟩;have hvl:=plen _ _ _ _ hsp;obtain⟨⟨vs0,⟨⟨o,cl,doc,pm,ct,c,h1,h2,⟨oc,ws,t,h3,h4,h5⟩,hinj,hcel,hlen,hval⟩,o',u',h1',h2'⟩,dl0⟩,α,S,ds,wd,l,hl,q⟩:=hsp;rw[h1]at h1';cases h1';rw[h2]at h2';cases h2';have hul:us.length=ps.length:=by rw[<-r.length,hvl]
 have celAt: ∀{c u},CelH H c u->s.heap.IsCell c (some u):=λ⟨o,e1,e2⟩=>⟨o,(e0.hok _ _ e1).1,e2⟩
 refine codeAny_call_function hr.depth (e0.hok f _ h1).1 h2 Sc.co Sc.gen rfl ⟨c,oc,ws,t,rfl,(e0.hok c _ h3).1,h4,h5⟩ (hb _ _ _ _ ?_);refine wpAny_newFunctionEnv Sc.nocell (λy hy=>Sc.par y.1 (of_mem_zip (a:=y.1) (b:=y.2) hy).1) (λh' hns hsb=>?_) Sc.kind;have kp: ∀b o,s.heap.get? b=some o->h'.get? b=some o:=λb o e=>hsb.extBut b o (Nat.ne_of_lt (Heap.lt_size e)) (hP0 _ e);refine⟨(e0.mod.nolimit.keeps λb o e=>(e0.bs b o e).1).keeps kp,codeAny_func ?_⟩;obtain⟨t',ht,kk⟩:=hbody (.ref c) cl A outer s H (hr.deeper _);have cellK: ∀c v,s.heap.IsCell c v->h'.IsCell c v:=λc v ⟨o,a,b⟩=>⟨o,kp c o a,b⟩
 have J:Inv (Ae P w K mg base (ps++(lo++n.fr)) n f (.ref c) cl A outer s H) [] (vs.map some++(List.replicate lo.length none++vs0.map some)) H {s with heap:=h',toks:=s.toks+(ps.zip us).length}:=by
  refine⟨⟨e0.mod,Sc.kind,rfl,rfl,Nat.le_refl _,λy z c a b=>hinj y z c a b,λy hy=>?_,λy c h _=>(by cases h),λ_=>hr.hd,Around.frames_deeper e0.frames,.inr ⟨rfl,rfl⟩,λb z=>(by cases z),e0.bs,e0.bsz,λb _ _ z=>(by cases z),λb z=>(by cases z),e0.funs,e0.frf⟩,
   rfl,e0.bare,Un.kept kp,⟨_,hns,λi x v a1 a2 a3=>?_⟩,λy c e=>?_,e0.hok.fresh (Nat.le_refl _),λy c e=>?_,λp hp=>(by cases hp),e0.hok.kept kp,?_⟩
  .have hy:n.sc.names.lookup y=some .cell\/n.sc.names.lookup y=some .free:=hy;rcases hy with hy|hy
   .exact absurd rfl (Sc.nocell _ (PySem.mem_of_lookup hy))
   .obtain⟨j,hj⟩:=getElem?_of_mem (JR.mpr (PySem.mem_of_lookup hy));obtain⟨c2,u,e,_⟩:=hval j y _ hj (gE (by rw[hlen];exact(gS0.mp hj).1));exact⟨c2,e⟩
  .have a1:(ps++(lo++n.fr))[i]? =some x:=a1;by_cases h:i<ps.length
   .rw[getElem?_append_left h]at a1;rw[getElem?_append_left (by rw[lM,hvl];exact h),getElem?_map]at a2
    cases z:vs[i]? with
    |none=>rw[z]at a2;cases a2
    |some v'=>
     rw[z]at a2;cases a2;obtain⟨u,hu,rv⟩:=r.get z;exact⟨u,rv,.inl ⟨Sc.par x (mem_of_getElem? a1),EH Sc.nd a1 hu⟩⟩
   .rw[getElem?_append_right (by omega)]at a1;rw[getElem?_append_right (by rw[lM,hvl];omega),lM,hvl]at a2;by_cases h':i - ps.length<lo.length
    .rw[getElem?_append_left (by rw[List.length_replicate];exact h'),getElem?_replicate]at a2;split at a2<;>cases a2
    .rw[getElem?_append_right (by omega)]at a1;rw[getElem?_append_right (by rw[List.length_replicate];omega),List.length_replicate,getElem?_map]at a2
     cases z:vs0[i - ps.length - lo.length]? with
     |none=>rw[z]at a2;cases a2
     |some v'=>
      rw[z]at a2;cases a2;obtain⟨c2,u,e,hc2,rv⟩:=hval _ x v a1 z;exact⟨u,rv,.inr ⟨.inr (Sc.fre x (mem_of_getElem? a1)),c2,e,cellK _ _ (celAt hc2)⟩⟩
  .obtain⟨u,hu⟩:=hcel y c e;exact⟨some u,cellK _ _ (celAt hu)⟩
  .obtain⟨u,o,hu,_⟩:=hcel y c e;exact .inr ⟨rfl,o,hu⟩
  .show _=(ps++(lo++n.fr)).length;rw[lA,lA,lA,lA,lM,lM,List.length_replicate,hvl,hlen]
 have dl0':DenL K α H ds0 vs0:=dl0.ex0 (Ex0.grow [] α H);refine wpAny_mono (ht [] _ _ H _ J (kk α _ S _ H _ wd ((Slots.vals l).app ((Slots.nones _).app (Slots.vals dl0'))) (MM q))) (λfl s' hs=>?_) λe s' hs=>hs.elim
 have fin: ∀{σ':St}{H':Hp}{v:V}{u:Value},Inv (Ae P w K mg base (ps++(lo++n.fr)) n f (.ref c) cl A outer s H) [] σ' H' s'->RelV v u->Q v H'->CE outer P w H s Q u s':=
  λ{σ' H' v u} J rv q=>⟨v,H',J.os,J.bare,J.base,J.hok,rv,q⟩
 cases fl with
 |ret u=>
  obtain⟨v,σ',H',J,rv,q⟩:=hs;exact fin J rv q
 |next=>
  obtain⟨σ',H',J,q⟩:=hs;exact fin (v:=V.non) J rfl q
 |brk=>
  obtain⟨_,_,_,q⟩:=hs;exact False.elim q
 |cont=>
  obtain⟨_,_,_,q⟩:=hs;exact False.elim q
end
open Classical in
def rD(F:List MV->Sto->R Er)(S:Sto):List MV->Option (List Int)
 |[]=>some []
 |d::ds=>match zQ 1 F [.val d] S with
  |.ok (.val (.int k)) S'=>if S'=S then(rD F S ds).map (k::·)else none
  |_=>none
def Nn(mx:Bool)(k k':Int):Bool:=if mx then decide (k'<k)else decide (k<k')
def AM(mx:Bool):Int->MV->List Int->List MV->MV
 |k,d,k'::ks,d'::ds=>if Nn mx k' k=true then AM mx k' d' ks ds else AM mx k d ks ds
 |_,d,_,_=>d
def WB{F:List MV->Sto->R Er}{S:Sto}{d:MV}{ds:Ug}{ks:Tc}(h:rD F S (d::ds)=some ks): ∃k ks',ks=k::ks'/\zQ 1 F [.val d] S=.ok (.val (.int k)) S/\rD F S ds=some ks':=by
 unfold rD at h;split at h
 .rename_i k S' e;split at h
  .rename_i hs;subst hs;obtain⟨ks',h1,h2⟩:=Option.map_eq_some_iff.mp h;exact⟨k,ks',h2.symm,e,h1⟩
  .cases h
 .cases h
section
variable{X:Cx}{α:Tg}{S:Sto}{H:Hp}{pins:Tk}{σ:St}{s:Shared}{k:Nat}{fa:Addr}{fd:FuncData}{ps:Th}
def Gk{sp:Sp}{Q:VK}{us:Td}{vs:List V}{E':VP}(F:FnOk X.prog X.w X.K X.mg X.base vE k fa fd ps sp)(hr:Room (k+1) X.A)(b:BindsTo s fd ⟨us,[]⟩ (ps.zip us))
  (I:Inv X pins σ H s) (r:Vals vs us) (h:sp vs H Q E0):wpAny (model X.prog X.w) X.A.in1 (call (.ref fa) us) (EP X pins σ Q) E' s:=by
 refine wpAny_call (codeAny_mono (F.run X.A.in1 X.stack s H ⟨us,[]⟩ us vs Q E0 hr.in1 I.env0.in1 b r h) λr s' hq=>?_)
 cases r with
 |error e=>exact False.elim hq
 |ok fl=>
  cases fl with
  |ret u=>exact I.after hq
  |next=>exact False.elim hq
  |brk=>exact False.elim hq
  |cont=>exact False.elim hq
structure Mm(X:Cx)(pins:Tk)(σ:St)(α:Tg)(S:Sto)(H:Hp)(Il SS l j:Nat)(b:Option (Int×MV))(s':Shared):Prop where
 go: ∃(H':Hp)(its:Te)(c:Nat),Inv X pins σ H' s'/\Ext α H α H'/\Wd X.g α S H'/\s'.heap.IsListIter Il l j/\s'.heap.get? SS=some (seqObj "list" its c)/\H' Il=none/\H' SS=none/\
  match b with |none=>its=#[]|some (k,d)=> ∃v u t,its=#[u,.int k t]/\Den X.K α H' d v/\RelV v u
def Gn(mx:Bool):String:=if mx then "max.loop" else "min.loop"
def EI(mx:Bool):Option (Int×MV)->List Int->List MV->MV
 |none,k::ks,d::ds=>AM mx k d ks ds
 |some (k,d),ks,ds=>AM mx k d ks ds
 |_,_,_=>.non
def JS(I:Inv X pins σ H s){l:Addr}{xs:List V}(h:SqL X.K H l xs): ∃us:List Value,Vals xs us/\s.heap.IsList l us.toArray:=by obtain⟨us,rv,⟨o,n0,e0,hc0,_,hd0⟩,_⟩:=I.list h;exact⟨us,rv,o,e0,hc0,n0,hd0⟩
variable{n:NDef}{Fc:List MV->List MV->Sto->R Er}{ds0:Ug}{vs0:List V}{p:Er}{l Il SS:Addr}{ds:Ug}{x:Str}{dT:MV}
def Gp(mx:Bool)(hh:X.A.handled=none)(G:FnOk X.prog X.w X.K X.mg X.base vE k fa fd [x] (Sy X.g n fa fd 1 Fc ds0))(hr:Room (k+1) X.A)(hb: ∀(s:Shared)(u:Value),BindsTo s fd ⟨[u],[]⟩ ([x].zip [u]))(hc:Rw H fa n fd vs0)(dl0:DenL X.K [] H ds0 vs0)
  (hp:jI S p=some ds) (dp:DenX X.K α H p (.ref l)) (hne:Il≠SS) (hl:l≠Il) (fL: ∀H',H' Il=none->rO X pins H' Il) (fS: ∀H',H' SS=none->rO X pins H' SS) {R:Result->Shared->Prop}
  (hR: ∀v u s' H',Inv X pins σ H' s'->Ext α H α H'->Wd X.g α S H'->Den X.K α H' dT v->RelV v u->R (.ok (.ret u)) s'):
  ∀(rest:Ug)(ks:Tc)(j:Nat)(b:Option (Int×MV))(s':Shared),ds.drop j=rest->j<=ds.length->rD (Fc ds0) S rest=some ks->(b=none->rest≠[])->EI mx b ks rest=dT->Mm X pins σ α S H Il SS l j b s'->
   codeAny (model X.prog X.w) X.A (.builtin (Gn mx) ⟨[.ref Il,.ref fa,.ref SS],[]⟩) R s':=by
 have hn0:(toString "min"++toString ".loop":String)=Gn false:=by decide
 have hn1:(toString "max"++toString ".loop":String)=Gn true:=by decide
 have hSI:SS≠Il:=Ne.symm hne;intro rest
 induction rest with
 |nil=>
  intro ks j b s' hd hjl hk hbn hT hm;obtain⟨H',its,c,I,xt,wd,it,gS,nI,nS,hbest⟩:=hm.go;obtain⟨a,vs,ea,sq,dl⟩:=dS rfl wd hp (dp.ext xt);cases ea;obtain⟨us,rv,pl⟩:=JS I sq;have hj:us.toArray.size=j:=by have:=List.drop_eq_nil_iff.mp hd;rw[sA, <-rv.length,dl.length];omega
  cases b with
  |none=>exact absurd rfl (hbn rfl)
  |some kd=>
  obtain⟨kb,db⟩:=kd;obtain⟨v,u,t,rfl,dd,ru⟩:=hbest
  have hT:db=dT:=by
   cases ks with
   |nil=>exact hT
   |cons _ _=>exact hT
  subst hT;have W:=Walks.list (prog:=X.prog) (w:=X.w) (A:=X.A.in1) hh Il l hl us.toArray;obtain⟨f0,f1,f2,f3,f4,f5⟩:=fL H' nI;obtain⟨g0,g1,g2,g3,g4,g5⟩:=fS H' nS;cases mx
  all_goals (
   first |refine codeAny_builtin PySem.F.entry_min_loop ?_|refine codeAny_builtin PySem.F.entry_max_loop ?_
   first |rw[Around.under_plainId (id:=Gn false) PySem.F.plain_min_loop _]|rw[Around.under_plainId (id:=Gn true) PySem.F.plain_max_loop _]
   show wpAny _ X.A.in1 (seqItems? (.ref SS) >>= _) _ _ _;refine wB (wpAny_seqItems gS rfl ?_);show wpAny _ X.A.in1 (tryCatch (pyNext (.ref Il)) _ >>= _) _ _ _;refine wB (wpAny_tryCatch (W.done _ _ _ ⟨by rw[hj];exact it,pl⟩ λh' tk' hk'=>?_));have I1:Inv X pins σ H' {s' with heap:=h',toks:=tk'}:=I.turned (λb o hb e=>hk' b o (by simpa using hb) e) f0 f1 f3 f4 f5;have gS':=hk' SS _ (by simpa using hSI) gS;show wpAny _ X.A.in1 (updateSeq SS (λ_=>#[]) >>= _) _ _ _;refine wB ?_;refine wpAny_updateSeq gS' rfl (wB (wpAny_letGo (wP ?_)));exact hR v u _ H' (I1.turned (λb o hb e=>(Heap.get?_update_other _ _ (Ne.symm hb)).trans e) g0 g1 g3 g4 g5) xt wd dd ru)
 |cons d rest ih=>
  intro ks j b s' hd hjl hk hbn hT hm;obtain⟨kk,ks',rfl,hcall,hk'⟩:=WB hk;obtain⟨H',its,c,I,xt,wd,it,gS,nI,nS,hbest⟩:=hm.go;obtain⟨a,vs,ea,sq,dl⟩:=dS rfl wd hp (dp.ext xt);cases ea;obtain⟨us,rv,pl⟩:=JS I sq;have hjd:ds[j]? =some d:=by have:=congrArg (·[0]?) hd;simpa using this
  have hd2:ds.drop (j+1)=rest:=by have:=congrArg List.tail hd;rwa [List.tail_drop,List.tail_cons]at this
  have hj:=(gS0.mp hjd).1;obtain⟨xv,hxv,dxv⟩:=dl.at hjd;obtain⟨u',hu',ru'⟩:=rv.get hxv;have W:=Walks.list (prog:=X.prog) (w:=X.w) (A:=X.A.in1) hh Il l hl us.toArray;obtain⟨f0,f1,f2,f3,f4,f5⟩:=fL H' nI;have hlt:j<us.toArray.size:=by rw[sA];exact(gS0.mp hu').1
  have hT2: ∀kb db,b=some (kb,db)->(Nn mx kk kb=true->EI mx (some (kk,d)) ks' rest=dT)/\(Nn mx kk kb=false->EI mx (some (kb,db)) ks' rest=dT):=by rintro kb db rfl;have hT':AM mx kb db (kk::ks') (d::rest)=dT:=hT;unfold AM at hT';exact⟨λq=>by rw[iP q]at hT';exact hT',λq=>by rw[iN (by rw[q];decide)]at hT';exact hT'⟩
  cases mx
  all_goals (
   first |refine codeAny_builtin PySem.F.entry_min_loop ?_|refine codeAny_builtin PySem.F.entry_max_loop ?_
   first |rw[Around.under_plainId (id:=Gn false) PySem.F.plain_min_loop _]|rw[Around.under_plainId (id:=Gn true) PySem.F.plain_max_loop _]
   show wpAny _ X.A.in1 (seqItems? (.ref SS) >>= _) _ _ _;refine wB (wpAny_seqItems gS rfl ?_);show wpAny _ X.A.in1 (tryCatch (pyNext (.ref Il)) _ >>= _) _ _ _;refine wB (wpAny_tryCatch (W.item j _ _ _ hlt ⟨it,pl⟩ λu h' tk' hP hst hk1=>?_));have hP:us[j]? =some u:=by simpa using hP
   rw[hu']at hP;cases hP;obtain⟨oI,gI,hoc,hod⟩:=id hst.1;have I1:Inv X pins σ H' {s' with heap:=h',toks:=tk'}:=I.turned (λb o hb e=>hk1 b o (by simpa using hb) e) f0 f1 f3 f4 f5;have gS':=hk1 SS _ (by simpa using hSI) gS
   have I2:=I1.pinned (fp:=[Il,SS]) (λb hb=>by
    rcases mC.mp hb with rfl|hb
    .exact fL _ nI
    .rw[mS.mp hb];exact fS _ nS) (λb hb=>by
    rcases mC.mp hb with rfl|hb
    .exact⟨_,gI,λv z=>by rw[hod]at z;cases z⟩
    .rw[mS.mp hb];exact⟨_,gS',λv z=>by cases z⟩)
   have pl2:rP [Il,SS] h'=[(Il,oI),(SS,seqObj "list" its c)]:=by unfold rP;simp[gI,gS']
   dsimp only at I2;rw[pl2]at I2;show wpAny _ X.A.in1 (tryCatch (holding [u'] (call (.ref fa) [u'])) _ >>= _) _ _ _;refine wB (wpAny_tryCatch (wpAny_holding (wpAny_mono (Gk (Q:=λr H2=> ∃α2,Ext α H' α2 H2/\Wd X.g α2 S H2/\Den X.K α2 H2 (.int kk) r) (E':=λ_ _=>False) G hr (hb _ _) I2 (vs:=[xv]) (.cons ru' .nil) ⟨⟨vs0,⟨hc.1.fz xt.frz,let ⟨o,w,z,r⟩:=hc.2;⟨o,w,xt.frz _ _ _ z,r⟩⟩,dl0.ex0 ⟨⟨[],rfl⟩,xt.tup,xt.frz⟩⟩,?_⟩) (λr s2 h2=>?_) λ_ _ hF=>hF.elim)))
   .refine HE (W:=W0) (Ext.refl α H') wd (rs:=[.val d]) (.cons (DenE.val dxv) (λds b e=>by cases e) .nil) ?_;rw[hcall];exact λu α2 H2 x2 w2 d2=>⟨α2,x2,w2,d2.1⟩
   .obtain⟨v2,H2,I3,rv2,α2,x2,w2,d2⟩:=h2;have hα:=Mu wd x2 w2;subst hα;cases yW d2;obtain⟨t2,rfl⟩:=rv2;have pI:=I3.pin (Il,oI) (by simp);have pS:=I3.pin (SS,seqObj "list" its c) (by simp);have I4:=I3.unpinned;obtain⟨g0,g1,g2,g3,g4,g5⟩:=fS H2 pS.2.1;dsimp only at pI pS;have hit: ∀h2:Heap,(∀b o,b≠SS->s2.heap.get? b=some o->h2.get? b=some o)->h2.IsListIter Il l (j+1):=λh2 kq=>⟨oI,kq _ _ hne pI.1,hoc,hod⟩
    have gH: ∀(tk:Nat),Mm X pins σ α2 S H Il SS l (j+1) (some (kk,d)) {s2 with heap:=s2.heap.update SS (Obj.mapSeq λ_=>#[u',.int kk t2]),toks:=tk}:=λtk=>by have kq: ∀b o,b≠SS->s2.heap.get? b=some o->(s2.heap.update SS (Obj.mapSeq λ_=>#[u',.int kk t2])).get? b=some o:=λb o hb e=>(Heap.get?_update_other _ _ (Ne.symm hb)).trans e;exact⟨H2,_,_,I4.turned kq g0 g1 g3 g4 g5,xt.trans x2,w2,hit _ kq,get?_update_seq pS.1 λ_=>#[u',.int kk t2],pI.2.1,pS.2.1,xv,u',t2,rfl,dxv.ext x2,ru'⟩
    cases b with
    |none=>
     obtain rfl:=hbest;show wpAny _ X.A.in1 (updateSeq SS (λ_=>#[u',.int kk t2]) >>= _) _ _ _;refine wB ?_;refine wpAny_updateSeq pS.1 rfl ?_
     first |rw[hn0]|rw[hn1]
     refine wP ⟨?_,ih ks' (j+1) (some (kk,d)) _ hd2 hj hk' (λz=>by cases z) hT (gH _)⟩
     first |exact plainId_quiet PySem.F.plain_min_loop _|exact plainId_quiet PySem.F.plain_max_loop _
    |some kd=>
     obtain⟨kb,db⟩:=kd;obtain⟨vb,ub,tb,rfl,ddb,rub⟩:=hbest;obtain⟨q1,q2⟩:=hT2 kb db rfl;show wpAny _ X.A.in1 (tryCatch (holding [u',.int kk t2] (richCompare _ (.int kk t2) (.int kb tb) >>= _)) _ >>= _) _ _ _
     first |((with_reducible show wpAny _ _ (tryCatch (holding _ (richCompare .Lt _ _ >>= _)) _ >>= _) _ _ _);refine wB (wpAny_tryCatch (wpAny_holding (wB (CmpOf.ints_lt (prog:=X.prog) (w:=X.w) (A:=X.A.in1) (P:=λi v=> ∃t,v=.int ([kk,kb].getD i 0) t) (λi=>[kk,kb].getD i 0) (λi v h=>h) 0 1 _ _ _ _ _ ⟨t2,rfl⟩ ⟨tb,rfl⟩ ?_)))))|((with_reducible show wpAny _ _ (tryCatch (holding _ (richCompare .Gt _ _ >>= _)) _ >>= _) _ _ _);refine wB (wpAny_tryCatch (wpAny_holding (wB (CmpOf.ints_gt (prog:=X.prog) (w:=X.w) (A:=X.A.in1) (P:=λi v=> ∃t,v=.int ([kk,kb].getD i 0) t) (λi=>[kk,kb].getD i 0) (λi v h=>h) 0 1 _ _ _ _ _ ⟨t2,rfl⟩ ⟨tb,rfl⟩ ?_)))))
     refine wB (wpAny_holding (wpAny_truthy_bool ?_));refine wB (wpAny_letGo (wP ?_));split
     .rename_i hq;refine wB ?_;refine wpAny_updateSeq pS.1 rfl (wB (wpAny_letGo ?_))
      first |rw[hn0]|rw[hn1]
      refine wP ⟨?_,ih ks' (j+1) (some (kk,d)) _ hd2 hj hk' (λz=>by cases z) (q1 hq) (gH _)⟩
      first |exact plainId_quiet PySem.F.plain_min_loop _|exact plainId_quiet PySem.F.plain_max_loop _
     .rename_i hq;refine wB (wpAny_letGo ?_)
      first |rw[hn0]|rw[hn1]
      refine wP ⟨?_,ih ks' (j+1) (some (kb,db)) _ hd2 hj hk' (λz=>by cases z) (q2 (Bool.eq_false_iff.mpr hq)) ⟨H2,_,c,I4,xt.trans x2,w2,hit _ λ_ _ _ e=>e,pS.1,pI.2.1,pS.2.1,vb,ub,tb,rfl,ddb.ext x2,rub⟩⟩
      first |exact plainId_quiet PySem.F.plain_min_loop _|exact plainId_quiet PySem.F.plain_max_loop _)
end
open Classical in
def WC(mx:Bool)(n:NDef)(F:List MV->List MV->Sto->R Er)(rs:List Er)(kk:Er)(S:Sto):R Er:=match rs with
 |[p]=>match kk with
  |.val (.clo n' ds0)=>if n'=n/\FT 0 ds0 then match jI S p with
    |some ds=>match rD (F ds0) S ds with
     |some ks=>if ds=[]then .no else .ok (.val (EI mx none ks ds)) S
     |none=>.no
    |none=>.no
   else .no
  |_=>.no
 |_=>.no
def Sz(mx:Bool):Str:=if mx then "max" else "min"
def Rx(mx:Bool):bootBuiltins (Sz mx)=some (.builtin (if mx then "max" else "min")):=by cases mx<;>decide+kernel
structure CloOk(P:Program)(w:World)(K:Ud)(mg:Ti)(base:Heap)(k:Nat)(n:NDef)(x:Str)(F:List MV->List MV->Sto->R Er):Prop where
 ok: ∀f fd ds0,FnOk P w K mg base vE k f fd [x] (Sy ⟨K,mg,P,w⟩ n f fd 1 F ds0)
 bd: ∀cl doc pm c ct u,bindArgs (PySem.W.fnX n.nm n.q n.ps n.bd n.sc cl .none .none doc pm none (.ref c) ct) ⟨[u],[]⟩=pure ([x].zip [u])
section
variable{X:Cx}{W:XW}{a e:Expr}{af:Rho->Sto->R (List Er)}{kf:AX}{pos:Pos}{α:Tg}{S:Sto}{H:Hp}{pins:Tk}{σ:St}{s:Shared}{k:Nat}{n:NDef}{Fc:List MV->List MV->Sto->R Er}{x:Str}
def Gq(mx:Bool){ds0 ds:Ug}{ks:Tc}{p:Er}{l fa:Addr}{Q:VK}(C:CloOk X.prog X.w X.K X.mg X.base k n x Fc)(hr:Room (k+1) X.A)(I:Inv X pins σ H s)(wd:Wd X.g α S H)(hp:jI S p=some ds)(dp:DenX X.K α H p (.ref l)){vs0:List V}(hc:CloH H fa n vs0)
  (dl0:DenL X.K [] H ds0 vs0) (hk:rD (Fc ds0) S ds=some ks) (hne:ds≠[]) (hQ: ∀v H',Ext α H α H'->Wd X.g α S H'->Den X.K α H' (EI mx none ks ds) v->Q v H'):
  wpAny (model X.prog X.w) X.A (call (.builtin (if mx then "max" else "min")) [.ref l] [("key",.ref fa)]) (EP X pins σ Q) X.xe s:=by
 have hn0:(toString "min"++toString ".loop":String)=Gn false:=by decide
 have hn1:(toString "max"++toString ".loop":String)=Gn true:=by decide
 obtain⟨a,vs,ea,sq,dl⟩:=dS rfl wd hp dp;cases ea;obtain⟨us,rv,isl⟩:=JS I sq;have hll:l<s.heap.objs.size:=let ⟨o,h,_⟩:=isl;Heap.lt_size h;obtain⟨o,cl,doc,pm,ct,c,h1,h2,hrest⟩:=id hc;have hS:(s.heap.push {cls:=.type "list_iterator",data:=.fields #[.ref l,.int 0 0]}).objs.size=s.heap.objs.size+1:=size_push' ..;have k2: ∀b o,s.heap.get? b=some o->((s.heap.push {cls:=.type "list_iterator",data:=.fields #[.ref l,.int 0 0]}).push (seqObj "list" #[] 0)).get? b=some o:=λb o e=>hP0 _ (hP0 _ e);have gI:((s.heap.push {cls:=.type "list_iterator",data:=.fields #[.ref l,.int 0 0]}).push (seqObj "list" #[] 0)).get? s.heap.objs.size=some {cls:=.type "list_iterator",data:=.fields #[.ref l,.int 0 0]}:=hP0 _ (Heap.get?_push_size _ rfl);have gS:((s.heap.push {cls:=.type "list_iterator",data:=.fields #[.ref l,.int 0 0]}).push (seqObj "list" #[] 0)).get? (s.heap.objs.size+1)=some (seqObj "list" #[] 0):=by rw[<-hS];exact Heap.get?_push_size _ rfl
 have J: ∀tk,Inv X pins σ H {s with heap:=(s.heap.push {cls:=.type "list_iterator",data:=.fields #[.ref l,.int 0 0]}).push _,toks:=tk}:=λtk=>I.kept k2
 have L:=λ(R:Result->Shared->Prop) hR tk=>Gp (R:=R) mx hr.hd (C.ok fa _ ds0) hr (λs u=>.of_eq (C.bd _ _ _ _ _ u)) ⟨hc,o,_,h1,h2⟩ dl0 hp dp (Nat.ne_of_lt (Nat.lt_succ_self s.heap.objs.size)) (Nat.ne_of_lt hll) (λH' hn=>I.fpOk (Nat.le_refl _) hn) (λH' hn=>I.fpOk (le_succ _) hn) hR
  ds ks 0 none _ rfl (zero_le _) hk (λ_=>hne) rfl ⟨H,#[],0,J tk,Ext.refl α H,wd,⟨_,gI,rfl,rfl⟩,gS,I.hok.fresh (Nat.le_refl _),I.hok.fresh (le_succ _),rfl⟩
 cases mx
 .refine kmk_tree PySem.F.kind_min PySem.F.plain_min PySem.F.entry_min (kmk_min_key _ _) ?_;show wpAny _ X.A.in1 _ _ _ s;refine wB (wpAny_of_eq rfl ?_);refine wB (wP ?_);refine wB (wpAny_pyIter_list isl ?_);refine wB (wpAny_newList ?_ (zero_le _));rw[hn0,hS];exact wP ⟨plainId_quiet PySem.F.plain_min_loop _,L _ (λv u s' H' J' x' w' d' r'=>⟨v,H',J',r',hQ v H' x' w' d'⟩) _⟩
 .refine kmk_tree PySem.F.kind_max PySem.F.plain_max PySem.F.entry_max (kmk_max_key _ _) ?_;show wpAny _ X.A.in1 _ _ _ s;refine wB (wpAny_of_eq rfl ?_);refine wB (wP ?_);refine wB (wpAny_pyIter_list isl ?_);refine wB (wpAny_newList ?_ (zero_le _));rw[hn1,hS];exact wP ⟨plainId_quiet PySem.F.plain_max_loop _,L _ (λv u s' H' J' x' w' d' r'=>⟨v,H',J',r',hQ v H' x' w' d'⟩) _⟩
def Af(mx:Bool){p kq:Pos}(C:CloOk X.prog X.w X.K X.mg X.base k n x Fc)(hr:Room (k+1) X.A)(hg:Gl X (Sz mx))(hm:X.mg (Sz mx)=none)(ha:GY X W [a] af)(hk:zT X W e kf)
  (he:backTo pos (starEach [a] X.env)=(false,eval a X.env)::backTo pos (starEach [] X.env):=by rfl) (hpl:(backTo pos (starEach [a] X.env)).any (·.1)=false:=by rfl):
  zT X W (.Call (.Name (Sz mx) p) [a] [⟨some "key",e,kq⟩] pos) (λρ S=>(af ρ S).bind λrs S1=>(kf ρ S1).bind λkk S2=>WC mx n Fc rs kk S2):=by
 obtain⟨t,ha,kka⟩:=ha;obtain⟨tk,hk,kkk⟩:=hk
 refine⟨λσ H Q=>t σ H λvs H1=>tk σ H1 λkv H2=> ∃α S p l fa ds ds0 ks vs0,vs=[.ref l]/\kv=.ref fa/\Wd X.g α S H2/\jI S p=some ds/\DenX X.K α H2 p (.ref l)/\CloH H2 fa n vs0/\DenL X.K [] H2 ds0 vs0/\rD (Fc ds0) S ds=some ks/\ds≠[]/\
   ∀v H',Ext α H2 α H'->Wd X.g α S H'->Den X.K α H' (EI mx none ks ds) v->Q v H',?_,λα ρ S σ H Q wd sl q=>kka α ρ S σ H _ wd sl (q.bind λvs rs S1 α1 H1 e1 x1 w1 d1 q1=>kkk α1 ρ S1 σ H1 _ w1 (sl.ext x1) ((q1.shift x1).bind λkv kk S2 α2 H2 e2 x2 w2 d2 q2=>?_))⟩
 .intro pins s σ H Q I h;refine wpAny_Call_Name_kw (rN I hg hm (Rx mx) ?_ (by cases mx<;>decide) (by cases mx<;>decide));refine callWith_kw (wO (ha pos pins s σ H _ I h) λus s1 ⟨vs,H1,I1,r1,q1⟩=>?_) he hpl;refine kws_cons (wO (hk pins s1 σ H1 _ I1 q1) λu s2 ⟨kv,H2,I2,r2,q2⟩=>kws_nil ?_);obtain⟨α,S,p,l,fa,ds,ds0,ks,vs0,rfl,rfl,wd,hp,dp,hc,dl0,hks,hne,hq⟩:=q2;obtain⟨u',rfl,ru⟩:=r1.one;cases ru;cases r2;exact Gq mx C hr I2 wd hp dp hc dl0 hks hne hq
 .replace q2:=q2.shift x2
  unfold WC at q2;split at q2
  .rename_i p0;split at q2
   .rename_i n' ds0;split at q2
    .rename_i hcnd;obtain⟨rfl,hlo⟩:=hcnd;split at q2
     .rename_i ds el;split at q2
      .rename_i ks eks;split at q2
       .exact q2.elim
       .rename_i hne;obtain⟨v,rfl,dv⟩:=DI d1;obtain⟨fa,vs0,rfl,hc,l0⟩:=gP d2.1;obtain⟨l,xs,rfl,sq,dl⟩:=dS rfl w2 el (dv.ext x2);refine⟨α2,S2,p0,l,fa,ds,ds0,ks,vs0,rfl,rfl,w2,el,dv.ext x2,hc,DenL.back l0 hlo,eks,hne,λv H' x' w' d'=>q2 v α2 H' x' w' (.val d')⟩
      .exact q2.elim
     .exact q2.elim
    .exact q2.elim
   .exact q2.elim
  .exact q2.elim
end
def mmJ(mx:Bool)(n:NDef)(F:List MV->List MV->Sto->R Er)(a:Rho->Sto->R (List Er))(f:AX)(ρ:Rho)(S:Sto):R Er:=(a ρ S).bind λr S=>(f ρ S).bind λq S=>WC mx n F r q S
def finC(m:Nat)(Fb:AY)(ds0 ds:Ug)(S:Sto):R Er:=zX (Fb (QN m ds ds0) S)
def finN(N:Th)(i:Nat)(idx:Db)(n:NDef)(Fb:AY)(ds:Ug)(S:Sto):R Er:=zX (Fb ((zM N ds).set i (some (.clo n (idx.filterMap (ds[·]?))))) S)
section
variable{P:Program}{w:World}{K:Ud}{mg:Ti}{base:Heap}{x:Str}{st:Stmt}{ps:Th}{k n:Nat}
def okCN{F:List MV->Sto->R Er}(D:DefM K mg x st)(hb:PY x st ps)(h: ∀f fd,mg x=some (.ref f)->Fun K x x st f fd->FnOk P w K mg base vE k f fd ps (LK ⟨K,mg,P,w⟩ n F)):VV P w K mg base x k n ps F:=
 let ⟨f,fd,m,Fu⟩:=D.ex;⟨f,fd,h f fd m Fu,m,Fu.kp,Fu.binds hb⟩
def Gr{nd:NDef}{pos:Pos}{c P0:Addr}{l:List (Str×Array Value)}(ht:PySem.W.tabIn K x=some (c,P0))(hn:fO P=(x,#[rawInt pos.line,rawInt pos.col,.str nd.q 0])::l):NestAt P K x nd pos P0:=
 ⟨⟨c,ht⟩,by rw[hn];exact mF0,by unfold tabAt;rw[hn,List.find?_cons_of_pos (by rw[ht];simp)];rfl⟩
end
def BF(mx:Bool):Int->List Int->Int
 |b,[]=>b
 |b,k::ks=>if Nn mx k b=true then BF mx k ks else BF mx b ks
theorem tZ(mx:Bool): ∀(ks:Tc)(b:Int),BF mx b ks∈b::ks/\ ∀a∈b::ks,if mx then a<=BF mx b ks else BF mx b ks<=a
 |[],b=>⟨mF0,λa h=>by rw[mS.mp h];cases mx<;>exact Int.le_refl _⟩
 |k::ks,b=>by
  unfold BF;split
  .rename_i h;obtain⟨h1,h2⟩:=tZ mx ks k;refine⟨mO _ h1,λa ha=>?_⟩;rcases mC.mp ha with rfl|ha
   .have:=h2 k mF0;unfold Nn at h;cases mx<;>simp at h this ⊢ <;>omega
   .exact h2 a ha
  .rename_i h;obtain⟨h1,h2⟩:=tZ mx ks b;refine⟨?_,λa ha=>?_⟩
   .rcases mC.mp h1 with e|e
    .rw[e];exact mF0
    .exact mO _ (mO _ e)
   .rcases mC.mp ha with rfl|ha
    .exact h2 a mF0
    .rcases mC.mp ha with rfl|ha
     .have:=h2 b mF0;unfold Nn at h;cases mx<;>simp at h this ⊢ <;>omega
     .exact h2 a (mO _ ha)
def TC{mx:Bool}{b x:Int}{ks:Tc}(h1:x∈b::ks)(h2: ∀a∈b::ks,if mx then a<=x else x<=a):x=BF mx b ks:=by obtain⟨h3,h4⟩:=tZ mx ks b;have a1:=h2 _ h3;have a2:=h4 _ h1;cases mx<;>simp at a1 a2<;>omega
section
variable{X:Cx}{W:XW}
def MN(mx:Bool)(hc:X.calm=true):CallR X (.builtin (if mx then "max" else "min")) (λxs H Q=> ∃l vs ds b ks α,xs=[.ref l]/\SqL X.K H l vs/\intsOf ds=some (b::ks)/\DenL X.K α H ds vs/\Q (.int (BF mx b ks)) H):=by
 intro pins s σ H xs us Q I r h;obtain⟨l,vs,ds,b,ks,α,rfl,hl,hi,hd,q⟩:=h;obtain⟨u,rfl,rx⟩:=vals1 r;cases rx;obtain⟨its,rv,p,_⟩:=I.list hl;have ia:=ints_of hi hd rv;have il:=p.isList;obtain⟨xs,e⟩:=ia.allInts.items;have hns:b::ks=xs.toList.map (·.1):=by rw[<-ia.numsOf, <-nums_intItems, <-e]
 have hsz:0<xs.size:=by
  have h3:(b::ks).length=xs.toList.length:=by rw[hns,lM]
  rw[<-Array.length_toList, <-h3];exact Nat.succ_pos _
 rw[e]at il;cases mx
 .refine min_intList (I.ok.hd hc) il hsz λv h' tk hv hk=>?_;obtain⟨t,rfl⟩:=intItems_at hv;obtain⟨h1,h2⟩:=argBest_lt (numAt xs) (xs.size - 1);refine⟨.int _,H,I.kept hk,⟨t,rfl⟩,?_⟩;rw[<-TC (x:=numAt xs (argBest (λi j=>decide (numAt xs i<numAt xs j)) (xs.size - 1))) (by rw[hns,numAt_eq];exact getD_mem (by rw[lM,Array.length_toList];omega)) λa ha=>by rw[hns]at ha;obtain⟨j,hj,rfl⟩:=mem_getD ha;rw[lM,Array.length_toList]at hj;rw[<-numAt_eq];exact h2 j (by omega)]at q;exact q
 .refine max_intList (I.ok.hd hc) il hsz λv h' tk hv hk=>?_;obtain⟨t,rfl⟩:=intItems_at hv;obtain⟨h1,h2⟩:=argBest_gt (numAt xs) (xs.size - 1);refine⟨.int _,H,I.kept hk,⟨t,rfl⟩,?_⟩;rw[<-TC (x:=numAt xs (argBest (λi j=>decide (numAt xs i>numAt xs j)) (xs.size - 1))) (by rw[hns,numAt_eq];exact getD_mem (by rw[lM,Array.length_toList];omega)) λa ha=>by rw[hns]at ha;obtain⟨j,hj,rfl⟩:=mem_getD ha;rw[lM,Array.length_toList]at hj;rw[<-numAt_eq];exact h2 j (by omega)]at q;exact q
def Ou(mx:Bool)(rs:List Er)(S:Sto):R Er:=match rs with
 |[p]=>match jI S p with
  |some ds=>match intsOf ds with
   |some ns=>match ns with
    |b::ks=>.ok (.val (.int (BF mx b ks))) S
    |[]=>.no
   |none=>.no
  |none=>.no
 |_=>.no
def Ag(mx:Bool):pA X W (λxs H Q=> ∃l vs ds b ks α,xs=[.ref l]/\SqL X.K H l vs/\intsOf ds=some (b::ks)/\DenL X.K α H ds vs/\Q (.int (BF mx b ks)) H) (Ou mx):=by
 intro rs vs α S H Q wd d post;unfold Ou at post;split at post
 .split at post
  .rename_i ds e;split at post
   .rename_i ns hi;split at post
    .rename_i b ks;obtain⟨v,rfl,dv⟩:=pC d;obtain⟨l,us,rfl,h1,h2⟩:=dS rfl wd e dv;exact⟨l,us,ds,b,ks,α,rfl,h1,hi,h2,Post.val post wd (yV _)⟩
    .exact post.elim
   .exact post.elim
  .exact post.elim
 .exact post.elim
end
def Gs:bootBuiltins "min"=some (.builtin "min"):=by decide+kernel
def Gu:bootBuiltins "max"=some (.builtin "max"):=by decide+kernel
end M
end L2
namespace L2
namespace M
namespace My
open PySem PySem.Spec PyProof.Rows
local macro_rules
 | `(tactic|simp? [$xs,*] $[$l:location]?)=>`(tactic|simp only[List.getElem?_cons_zero,List.getElem?_cons_succ,Fg,aP,as_int,Qw,Mh,add_int,sub_int,eq_int,Mi,Qx,lst1,lst2,lst3,lst6,tup2,tup3,ZD,ZE,Ml,Mn,ZF,Mo,RW,RX,List.set_cons_zero,List.set_cons_succ,if_true,Fq,Fp,vJ,kJ,bJ,dJ,nJ,aJ,iJ,mJ,tJ,zJ,fJ,eJ,uJ,pJ,jJ,qJ,rJ,sJ,wJ,yJ,AJ,BJ,CJ,DJ,EJ,FJ,JJ,$xs,*] $[$l:location]?)
abbrev MP:List Str:=["book","by_key","i","row"]
abbrev MQ:List Str:=["book","number","many","rows","left","block"]
abbrev lR:List Str:=["thing","least","most"]
abbrev wU:List Str:=["tables","rules","rows"]
abbrev uB:List Str:=["tables","rows","place","row","seen"]
abbrev uC:List Str:=["book","rows","t","c"]
abbrev EK:List Str:=["_law_cell","_law_prime","_law_number"]
abbrev AN:List Str:=["_law_cell","_law_letters","_law_number","_law_name_here","_law_k"]
abbrev pK:List Str:=["_law_cell","_law_number","_law_letters","_law_name_here","_law_at","_law_turned","_law_other","_law_great"]
abbrev rE:List Str:=["_law_cell","_law_most","_law_number","_law_many","_law_tables_here","_law_k","_law_wide"]
abbrev EL:List Str:=["_law_cell","_law_tables_here","_law_pool_here","_law_wide","_law_number","_law_t","_law_cells","_law_k"]
abbrev AO:List Str:=["_law_cells","_law_tables_here","_law_pool_here","_law_wide","_law_rows_here","_law_cell","_law_row_here"]
abbrev aW:List Str:=["_law_tables_here","_law_rows_here","_law_keys","_law_found","_law_place","_law_t","_law_cells","_law_own"]
abbrev lU:List Str:=["_law_rows_here","_law_place","_law_t","_law_c"]
abbrev dX:List Str:=["_law_book","_law_some","_law_t","_law_c","_law_told","_law_least","_law_greatest","_law_block","_law_values","_law_k"]
abbrev Ip:List Str:=["_law_script","_law_pool_here","_law_tables_here","_law_head","_law_rows_here","_law_book","_law_some","_law_many","_law_t","_law_c","_law_least","_law_one","_law_greatest","_law_other","_law_k","_law_total"]
abbrev AF:=AY
abbrev AE:=AX
def uD:AF:=(AJ (aJ (bJ (yJ (vJ 0) (yJ (kJ (.typ "int")) wJ)) pD) (nJ (bJ (yJ (vJ 0) (yJ (kJ (.typ "bool")) wJ)) pD))))
def EM:AF:=(uD)
def xE(ds:Ug)(S:Sto):R Er:=zX (EM (zM ["thing"] ds) S)
def cR:AZ:=uJ
def jK:AE:=(jJ FU FU (kJ (.str [97])) (vJ 0) (kJ (.str [122])))
def fA:AF:=(iJ (sJ (qJ (bJ (bJ (yJ (vJ 0) (yJ (kJ (.typ "str")) wJ)) pD) dU)) (qJ (bJ (jJ FU FU (kJ (.int 1)) (bJ (yJ (vJ 0) wJ) kL) (kJ (.int (8)))) eZ))) ((AJ (kJ (.bl false)))) (JJ))
def fB:AF:=(AJ (bJ (yJ (pJ (bJ (vJ 0) Su) (wR 0) (cR) (jK) 1 []) wJ) VH))
def qH:AF:=zO (fA) ((fB))
def qI(ds:Ug)(S:Sto):R Er:=zX (qH (zM ["thing"] ds) S)
def kR:AF:=(iJ (bJ (fJ 1 xE (yJ (vJ 0) wJ)) dU) ((AJ (dJ WV (bJ (yJ (vJ 0) wJ) Ep) (dJ rZ (kJ (.int 10)) (kJ (.int 30)))))) (JJ))
def lV:AF:=(AJ (fJ 1 qI (yJ (vJ 0) wJ)))
def lW:AF:=zO (kR) ((lV))
def lX(ds:Ug)(S:Sto):R Er:=zX (lW (zM ["thing"] ds) S)
def sG:AF:=(AJ (bJ (yJ (dJ yR (vJ 1) (kJ (.int 0))) (yJ (tJ BA (dJ yR (vJ 1) (kJ (.int 1))) mJ (bJ (dJ yR (dJ yR (vJ 0) (dJ yR (vJ 1) (kJ (.int 0)))) (kJ (.int 1))) Du)) wJ)) lO))
def uE:AF:=(sG)
def uF(ds:Ug)(S:Sto):R Er:=zX (uE (zM ["tables","row"] ds) S)
def lY:AF:=(AJ (dJ LL (bJ (yJ (dJ yR (vJ 0) (kJ (.int 1))) wJ) kL) (kJ (.int 0))))
def lZ:AF:=(lY)
def bX(ds:Ug)(S:Sto):R Er:=zX (lZ (zM ["book"] ds) S)
def dY:AY:=(BJ (eJ aO BB (eJ SK Rh (vJ 1) (yJ (fJ 2 uF (yJ (dJ yR (vJ 0) (kJ (.int 0))) (yJ (vJ 3) wJ))) (yJ (bJ wJ oV) wJ))) (yJ (vJ 2) wJ)))
def bY:AY:=(dY)
def mB:AF:=(iJ (qJ (bJ (fJ 1 bX (yJ (vJ 0) wJ)) dU)) ((λ_ _=>R.no)) (JJ))
def mE:AF:=(CJ zJ 1)
def mG:AF:=(FJ (bJ (yJ (dJ yR (vJ 0) (kJ (.int 2))) wJ) Bw) (OL 2 (yS (wR 2) (yS (wR 3) oP))) (bY))
def mH:AF:=(AJ (bJ (vJ 1) Ot))
def EN:AF:=zO (mB) (zO (mE) (zO (mG) ((mH))))
def f_blocks(ds:Ug)(S:Sto):R Er:=zX (EN (zM MP ds) S)
def dH:AY:=(MA ZN 1 (bJ (yJ (vJ 2) wJ) kL))
def wC:AY:=(dH)
def aX:AF:=(CJ (kJ (.int 1)) 1)
def jZ:AF:=(FJ (bJ (fJ 1 f_blocks (yJ (vJ 0) wJ)) PF) (wR 2) (wC))
def sH:AF:=(AJ (vJ 1))
def bZ:AF:=zO (aX) (zO (jZ) ((sH)))
def xB(ds:Ug)(S:Sto):R Er:=zX (bZ (zM ["book","many","block"] ds) S)
def mI:AY:=(BJ (eJ aO BB (vJ 3) (yJ (dJ yR (vJ 5) (dJ bT (vJ 4) (bJ (yJ (vJ 5) wJ) kL))) wJ)))
def mK:AY:=(MA iS 4 (bJ (yJ (vJ 5) wJ) kL))
def mL:AY:=zO (mI) ((mK))
def sK:AF:=(CJ (fJ 1 xB (yJ (vJ 0) wJ)) 2)
def sL:AF:=(iJ (qJ (bJ (jJ FU WV (kJ (.int 0)) (vJ 1) (vJ 2)) eZ)) ((λ_ _=>R.no)) (JJ))
def EO:AF:=(CJ (bJ wJ oV) 3)
def EQ:AF:=(CJ (vJ 1) 4)
def sM:AF:=(FJ (bJ (yJ (fJ 1 f_blocks (yJ (vJ 0) wJ)) wJ) Sx) (wR 5) (mL))
def sN:AF:=(AJ (bJ (yJ (bJ (yJ (vJ 3) wJ) DX) wJ) jY))
def ER:AF:=zO (sK) (zO (sL) (zO (EO) (zO (EQ) (zO (sM) ((sN))))))
def uG(ds:Ug)(S:Sto):R Er:=zX (ER (zM MQ ds) S)
def mN:AF:=(AJ (aJ (bJ (yJ (vJ 0) (yJ (kJ (.typ "tuple")) wJ)) pD) (jJ FU FU (vJ 1) (bJ (yJ (vJ 0) wJ) kL) (vJ 2))))
def mP:AF:=(mN)
def xP(ds:Ug)(S:Sto):R Er:=zX (mP (zM lR ds) S)
def jH:AF:=(AJ (aJ (fJ 1 xE (yJ (vJ 0) wJ)) (jJ FU WV (kJ (.int 0)) (vJ 0) (vJ 1))))
def wY:AF:=(jH)
def zW(ds:Ug)(S:Sto):R Er:=zX (wY (zM ["thing","bound"] ds) S)
def dZ:AF:=(iJ (sJ (qJ (bJ (fJ 3 xP (yJ (vJ 0) (yJ (kJ (.int 2)) (yJ (kJ (.int 2)) wJ)))) dU)) (qJ (bJ (fJ 1 xE (yJ (dJ yR (vJ 0) (kJ (.int 0))) wJ)) dU))) ((AJ (kJ (.bl false)))) (JJ))
def nA:AF:=(CJ (dJ yR (vJ 0) (kJ (.int 0))) 1)
def nB:AF:=(AJ (aJ (jJ FU FU (kJ (.int 1)) (vJ 1) (kJ (.int (4)))) (fJ 2 zW (yJ (dJ yR (vJ 0) (kJ (.int 1))) (yJ (dJ dE (vJ 1) (kJ (.int 1))) wJ)))))
def mQ:AF:=zO (dZ) (zO (nA) ((nB)))
def mR(ds:Ug)(S:Sto):R Er:=zX (mQ (zM ["thing","wide"] ds) S)
def mT:AZ:=uJ
def nE:AE:=(fJ 1 lX (yJ (vJ 0) wJ))
def mU:AF:=(iJ (sJ (qJ (bJ (fJ 3 xP (yJ (vJ 0) (yJ (kJ (.int 2)) (yJ (kJ (.int 2)) wJ)))) dU)) (qJ (bJ (fJ 2 zW (yJ (dJ yR (vJ 0) (kJ (.int 0))) (yJ (bJ (yJ (vJ 1) wJ) kL) wJ))) dU))) ((AJ (kJ (.bl false)))) (JJ))
def mV:AF:=(CJ (dJ yR (dJ yR (vJ 1) (dJ yR (vJ 0) (kJ (.int 0)))) (kJ (.int 0))) 2)
def mW:AF:=(AJ (aJ (fJ 3 xP (yJ (dJ yR (vJ 0) (kJ (.int 1))) (yJ (vJ 2) (yJ (vJ 2) wJ)))) (bJ (yJ (pJ (bJ (dJ yR (vJ 0) (kJ (.int 1))) UY) (wR 0) (mT) (nE) 1 []) wJ) VH)))
def uH:AF:=zO (mU) (zO (mV) ((mW)))
def uI(ds:Ug)(S:Sto):R Er:=zX (uH (zM ["thing","tables","wide"] ds) S)
def dQ:AF:=(iJ (sJ (bJ (dJ Qs (bJ (yJ (vJ 0) wJ) kL) (kJ (.int (4)))) eZ) (sJ (bJ (dJ Qs (bJ (yJ (vJ 1) wJ) kL) (kJ (.int (6)))) eZ) (bJ (dJ Qs (bJ (yJ (vJ 2) wJ) kL) (kJ (.int (60)))) eZ))) ((λ_ _=>R.no)) (JJ))
def cS:AF:=(dQ)
def cT(ds:Ug)(S:Sto):R Er:=zX (cS (zM wU ds) S)
def hW:AY:=(iJ (qJ (bJ (fJ 1 mR (yJ (vJ 2) wJ)) dU)) ((λ_ _=>R.no)) (JJ))
def kS:AY:=(hW)
def kT:AF:=(iJ (bJ (dJ LL (bJ (yJ (vJ 0) wJ) kL) (kJ (.int 0))) eZ) ((λ_ _=>R.no)) (JJ))
def kU:AF:=(FJ (bJ (yJ (vJ 0) wJ) Bw) (OL 2 (yS (wR 1) (yS (wR 2) oP))) (kS))
def gV:AF:=zO (kT) ((kU))
def gW(ds:Ug)(S:Sto):R Er:=zX (gV (zM ["tables","place","table"] ds) S)
def fC:AY:=(λ_ _=>R.no)
def oU:AY:=(fC)
def jN:AF:=(FJ (bJ (yJ (vJ 1) wJ) Bw) (OL 2 (yS (wR 2) (yS (wR 3) oP))) (oU))
def cU:AF:=(jN)
def cV(ds:Ug)(S:Sto):R Er:=zX (cU (zM ["tables","rules","place","rule"] ds) S)
def iV:AY:=(iJ (qJ (bJ (fJ 2 uI (yJ (vJ 3) (yJ (vJ 0) wJ))) dU)) ((λ_ _=>R.no)) (JJ))
def aY:AY:=(iV)
def cA:AY:=(iJ (bJ (dJ (VN false) (vJ 3) (vJ 4)) eZ) ((λ_ _=>R.no)) (JJ))
def cB:AY:=(EJ (kJ (.bl true)) (DJ LX (vJ 4) (vJ 3)))
def gX:AY:=zO (cA) ((cB))
def aZ:AF:=(FJ (bJ (yJ (vJ 1) wJ) Bw) (OL 2 (yS (wR 2) (yS (wR 3) oP))) (aY))
def eA:AF:=(CJ zJ 4)
def eB:AF:=(FJ (bJ (yJ (vJ 1) wJ) Bw) (OL 2 (yS (wR 2) (yS (wR 3) oP))) (gX))
def mX:AF:=zO (aZ) (zO (eA) ((eB)))
def nF(ds:Ug)(S:Sto):R Er:=zX (mX (zM uB ds) S)
def fD:AF:=(BJ (fJ 3 cT (yJ (vJ 0) (yJ (vJ 1) (yJ (vJ 2) wJ)))))
def fE:AF:=(BJ (fJ 1 gW (yJ (vJ 0) wJ)))
def fF:AF:=(BJ (fJ 2 cV (yJ (vJ 0) (yJ (vJ 1) wJ))))
def fG:AF:=(BJ (fJ 2 nF (yJ (vJ 0) (yJ (vJ 2) wJ))))
def fH:AF:=(AJ (bJ (yJ (bJ (yJ (vJ 0) wJ) jY) (yJ (bJ (yJ (vJ 1) wJ) jY) (yJ (bJ (yJ (vJ 2) wJ) jY) wJ))) lO))
def qK:AF:=zO (fD) (zO (fE) (zO (fF) (zO (fG) ((fH)))))
def iW(ds:Ug)(S:Sto):R Er:=zX (qK (zM wU ds) S)
def cC:AF:=(iJ (sJ (qJ (bJ (fJ 2 zW (yJ (vJ 1) (yJ (bJ (yJ (dJ yR (vJ 0) (kJ (.int 0))) wJ) kL) wJ))) dU)) (qJ (bJ (fJ 2 zW (yJ (vJ 2) (yJ (dJ yR (dJ yR (dJ yR (vJ 0) (kJ (.int 0))) (vJ 1)) (kJ (.int 0))) wJ))) dU))) ((λ_ _=>R.no)) (JJ))
def gY:AF:=(cC)
def xW(ds:Ug)(S:Sto):R Er:=zX (gY (zM ["book","t","c"] ds) S)
def mY:AF:=(AJ (iJ (rJ (bJ (dJ LL (dJ yR (vJ 0) (kJ (.int 0))) (vJ 1)) eZ) (bJ (fJ 1 xE (yJ (dJ yR (dJ yR (vJ 0) (kJ (.int 1))) (vJ 2)) wJ)) dU)) (dJ yR (dJ yR (vJ 0) (kJ (.int 1))) (vJ 2)) (kJ (.int 0))))
def mZ:AF:=(mY)
def hX(ds:Ug)(S:Sto):R Er:=zX (mZ (zM ["row","t","c"] ds) S)
def oA:AZ:=uJ
def nG:AE:=(fJ 3 hX (yJ (dJ yR (dJ yR (vJ 1) (kJ (.int 2))) (vJ 0)) (yJ (vJ 2) (yJ (vJ 3) wJ))))
def oB:AF:=(BJ (fJ 3 xW (yJ (vJ 0) (yJ (vJ 2) (yJ (vJ 3) wJ)))))
def oC:AF:=(AJ (bJ (yJ (pJ (bJ (vJ 1) UY) (wR 0) (oA) (nG) 1 [0,2,3]) wJ) sumF))
def uK:AF:=zO (oB) ((oC))
def eC(ds:Ug)(S:Sto):R Er:=zX (uK (zM uC ds) S)
def top(i:Nat):Stmt:=PySem.Challenge.pw_mendsure_k55_sums_by_blocks.main.body.getD i (.Pass ⟨0,0,0,0⟩)
abbrev gZ:Stmt:=(xQ (top 80)).getD 0 (.Pass ⟨0,0,0,0⟩)
def zD:NDef:=⟨"count_at","ends_by_blocks.<locals>.count_at",eV gZ,xQ gZ,zE gZ⟩
def wZ:AF:=(AJ (fJ 3 hX (yJ (dJ yR (dJ yR (vJ 1) (kJ (.int 2))) (vJ 0)) (yJ (vJ 3) (yJ (vJ 2) wJ)))))
def xI:AF:=(wZ)
def zS:List MV->List MV->Sto->R Er:=finC 0 xI
def dI:AZ:=uJ
def dL:AE:=(mmJ false zD zS (yJ (vJ 0) wJ) (vJ 1))
def dM:AZ:=uJ
def dN:AE:=(mmJ true zD zS (yJ (vJ 0) wJ) (vJ 1))
def hZ:AF:=(CJ (pJ (bJ (fJ 1 f_blocks (yJ (vJ 0) wJ)) PF) (wR 0) (dI) (dL) 1 [3]) 4)
def gA:AF:=(CJ (pJ (bJ (fJ 1 f_blocks (yJ (vJ 0) wJ)) PF) (wR 0) (dM) (dN) 1 [3]) 5)
def gB:AF:=(AJ (bJ (yJ (bJ (yJ (bJ (yJ (vJ 4) wJ) DX) wJ) jY) (yJ (bJ (yJ (bJ (yJ (vJ 5) wJ) DX) wJ) jY) wJ)) lO))
def kW:AF:=zO (hZ) (zO (gA) ((gB)))
def kX:List MV->Sto->R Er:=finN ["book","t","c","count_at","least","greatest"] 3 [0,2,1] zD kW
def jC:AF:=(λ_ _=>R.no)
def jD:AF:=(λ_ _=>R.no)
def jE:AF:=(λ_ _=>R.no)
def gK:AF:=zO (jC) (zO (jD) ((jE)))
def xX(ds:Ug)(S:Sto):R Er:=zX (gK (zM ["book","t","c","sum_of","told"] ds) S)
def uM:AF:=(BJ (fJ 3 xW (yJ (vJ 0) (yJ (vJ 1) (yJ (vJ 2) wJ)))))
def uN:AF:=(CJ (iJ (bJ (fJ 1 bX (yJ (vJ 0) wJ)) dU) (fJ 3 kX (yJ (vJ 0) (yJ (vJ 1) (yJ (vJ 2) wJ)))) (fJ 3 xX (yJ (vJ 0) (yJ (vJ 1) (yJ (vJ 2) wJ))))) 3)
def uO:AF:=(AJ (bJ (yJ (fJ 4 eC (yJ (vJ 0) (yJ (dJ yR (vJ 3) (kJ (.int 0))) (yJ (vJ 1) (yJ (vJ 2) wJ))))) (yJ (dJ yR (vJ 3) (kJ (.int 0))) (yJ (fJ 4 eC (yJ (vJ 0) (yJ (dJ yR (vJ 3) (kJ (.int 1))) (yJ (vJ 1) (yJ (vJ 2) wJ))))) (yJ (dJ yR (vJ 3) (kJ (.int 1))) wJ)))) lO))
def JT:AF:=zO (uM) (zO (uN) ((uO)))
def sO(ds:Ug)(S:Sto):R Er:=zX (JT (zM ["book","t","c","ends"] ds) S)
def kY:AF:=(iJ (bJ (dJ WV (vJ 1) (bJ (yJ (vJ 0) wJ) kL)) eZ) ((AJ (dJ yR (vJ 0) (vJ 1)))) (JJ))
def iY:AF:=(AJ (kJ (.int 0)))
def bA:AF:=zO (kY) ((iY))
def zY(ds:Ug)(S:Sto):R Er:=zX (bA (zM ["_law_script","_law_k"] ds) S)
def nH:AF:=(iJ (bJ (dJ LL (dJ bT (vJ 0) (kJ (.int 2))) (kJ (.int 0))) eZ) ((AJ (dJ bT (dJ iS (vJ 0) (kJ (.int 2))) (dJ rZ (dJ rZ (kJ (.int 10)) (kJ (.int 60))) (kJ (.int 10)))))) (JJ))
def nK:AF:=(CJ (dJ bT (dJ vQ (dJ dE (dJ bT (vJ 0) (kJ (.int 2147483629))) (kJ (.int 7))) (kJ (.int 48271))) (vJ 1)) 2)
def nL:AF:=(AJ (dJ dE (dJ vQ (dJ bT (dJ vQ (vJ 2) (vJ 2)) (kJ (.int 2147483579))) (kJ (.int 1000003))) (vJ 2)))
def oD:AF:=zO (nH) (zO (nK) ((nL)))
def yT(ds:Ug)(S:Sto):R Er:=zX (oD (zM EK ds) S)
def jO:AY:=(CJ (dJ dE (vJ 3) (dJ yR (vJ 1) (dJ bT (vJ 2) (kJ (.int 26))))) 3)
def jP:AY:=(CJ (dJ iS (vJ 2) (kJ (.int 26))) 2)
def jL:AY:=zO (jO) ((jP))
def fR:AF:=(CJ (kJ (.str [97,98,99,100,101,102,103,104,105,106,107,108,109,110,111,112,113,114,115,116,117,118,119,120,121,122])) 1)
def cW:AF:=(CJ (dJ iS (vJ 0) (kJ (.int 8))) 2)
def fU:AF:=(CJ (kJ (.str [])) 3)
def cX:AF:=(FJ (bJ (yJ (dJ dE (kJ (.int 1)) (dJ bT (vJ 0) (kJ (.int 8)))) wJ) aK) (wR 4) (jL))
def rF:AF:=(AJ (vJ 3))
def pL:AF:=zO (fR) (zO (cW) (zO (fU) (zO (cX) ((rF)))))
def gL(ds:Ug)(S:Sto):R Er:=zX (pL (zM AN ds) S)
def fV:AF:=(CJ (fJ 2 yT (yJ (vJ 0) (yJ (kJ (.int 2147483587)) wJ))) 1)
def rG:AF:=(CJ (kJ (.str [97,98,99,100,101,102,103,104,105,106,107,108,109,110,111,112,113,114,115,116,117,118,119,120,121,122])) 2)
def fW:AF:=(CJ (fJ 1 gL (yJ (vJ 1) wJ)) 3)
def fX:AF:=(CJ (dJ iS (vJ 1) (dJ vQ (kJ (.int 8)) (dJ rZ (kJ (.int 26)) (kJ (.int 8))))) 1)
def fY:AF:=(CJ (dJ bT (vJ 1) (bJ (yJ (vJ 3) wJ) kL)) 4)
def fZ:AF:=(CJ (dJ dE (dJ dE (eJ DP LR (vJ 2) (yJ (dJ yR (vJ 3) (vJ 4)) wJ)) (kJ (.int 1))) (dJ bT (dJ iS (vJ 1) (kJ (.int 8))) (kJ (.int 25)))) 5)
def iA:AF:=(CJ (dJ dE (dJ dE (tJ BA (vJ 3) mJ (bJ (vJ 4) Du)) (dJ yR (vJ 2) (dJ bT (vJ 5) (kJ (.int 26))))) (tJ BA (vJ 3) (bJ (dJ dE (vJ 4) (kJ (.int 1))) Du) mJ)) 6)
def iB:AF:=(CJ (dJ iS (vJ 1) (kJ (.int 200))) 1)
def iC:AF:=(CJ (dJ dE (dJ bT (dJ rZ (dJ dE (dJ vQ (dJ bT (vJ 1) (dJ rZ (kJ (.int 10)) (kJ (.int 30)))) (kJ (.int 48271))) (kJ (.int 11))) (kJ (.int 4))) (dJ VA (dJ rZ (kJ (.int 10)) (kJ (.int 30))) (kJ (.int 3)))) (kJ (.int 1))) 7)
def bB:AF:=(iJ (bJ (dJ LL (dJ bT (vJ 1) (kJ (.int 2))) (kJ (.int 1))) eZ) ((CJ (dJ dE (dJ bT (dJ iS (vJ 1) (kJ (.int 2))) (dJ VA (dJ rZ (kJ (.int 10)) (kJ (.int 30))) (kJ (.int 3)))) (kJ (.int 1))) 7)) (JJ))
def eE:AF:=(AJ (bJ (yJ (dJ bT (dJ iS (vJ 1) (kJ (.int 64))) (kJ (.int 5))) (yJ (vJ 7) (yJ (vJ 3) (yJ (dJ VA (kJ (.int 0)) (vJ 7)) (yJ (vJ 6) (yJ (dJ dE (dJ bT (dJ iS (vJ 1) (kJ (.int 320))) (kJ (.int 5))) (kJ (.int 7))) (yJ (dJ dE (vJ 7) (kJ (.int 1))) wJ))))))) oV))
def AQ:AF:=zO (fV) (zO (rG) (zO (fW) (zO (fX) (zO (fY) (zO (fZ) (zO (iA) (zO (iB) (zO (iC) (zO (bB) ((eE)))))))))))
def gM(ds:Ug)(S:Sto):R Er:=zX (AQ (zM pK ds) S)
def kC:AY:=(CJ (dJ dE (kJ (.int 1)) (dJ bT (vJ 2) (kJ (.int 4)))) 6)
def kD:AY:=(BJ (eJ aO BB (vJ 4) (yJ (bJ (yJ (vJ 6) (yJ (dJ bT (dJ iS (vJ 2) (kJ (.int 4))) (dJ dE (vJ 6) (kJ (.int 1)))) wJ)) lO) wJ)))
def kE:AY:=(CJ (dJ iS (vJ 2) (kJ (.int 20))) 2)
def wN:AY:=zO (kC) (zO (kD) ((kE)))
def jQ:AF:=(CJ (fJ 2 yT (yJ (vJ 0) (yJ (kJ (.int 2147483629)) wJ))) 2)
def jR:AF:=(CJ (dJ dE (kJ (.int 1)) (dJ bT (vJ 2) (vJ 1))) 3)
def jS:AF:=(CJ (dJ iS (vJ 2) (vJ 1)) 2)
def jT:AF:=(CJ (bJ wJ oV) 4)
def jU:AF:=(FJ (bJ (yJ (vJ 3) wJ) aK) (wR 5) (wN))
def jV:AF:=(AJ (bJ (yJ (vJ 4) wJ) jY))
def iD:AF:=zO (jQ) (zO (jR) (zO (jS) (zO (jT) (zO (jU) ((jV))))))
def wV(ds:Ug)(S:Sto):R Er:=zX (iD (zM rE ds) S)
def bC:AY:=(BJ (eJ aO BB (vJ 6) (yJ (dJ yR (vJ 2) (dJ bT (vJ 4) (vJ 3))) wJ)))
def bD:AY:=(CJ (dJ iS (vJ 4) (vJ 3)) 4)
def bE:AY:=zO (bC) ((bD))
def nN:AF:=(CJ (fJ 2 yT (yJ (vJ 0) (yJ (kJ (.int 2147483563)) wJ))) 4)
def nO:AF:=(CJ (dJ bT (vJ 4) (bJ (yJ (vJ 1) wJ) kL)) 5)
def nP:AF:=(CJ (dJ iS (vJ 4) (bJ (yJ (vJ 1) wJ) kL)) 4)
def nQ:AF:=(CJ (bJ wJ oV) 6)
def nR:AF:=(FJ (bJ (yJ (dJ yR (dJ yR (vJ 1) (vJ 5)) (kJ (.int 0))) wJ) aK) (wR 7) (bE))
def nT:AF:=(AJ (bJ (yJ (vJ 5) (yJ (bJ (yJ (vJ 6) wJ) jY) wJ)) lO))
def sP:AF:=zO (nN) (zO (nO) (zO (nP) (zO (nQ) (zO (nR) ((nT))))))
def cE(ds:Ug)(S:Sto):R Er:=zX (sP (zM EL ds) S)
def jW:AY:=(CJ (fJ 4 cE (yJ (vJ 5) (yJ (vJ 1) (yJ (vJ 2) (yJ (vJ 3) wJ))))) 6)
def xK:AY:=(iJ (bJ (dJ (VE true) (vJ 6) (vJ 4)) eZ) ((BJ (eJ aO BB (vJ 4) (yJ (vJ 6) wJ)))) (JJ))
def wW:AY:=zO (jW) ((xK))
def cY:AF:=(CJ (bJ wJ oV) 4)
def cZ:AF:=(FJ (bJ (vJ 0) PF) (wR 5) (wW))
def dA:AF:=(AJ (bJ (yJ (vJ 4) wJ) jY))
def pM:AF:=zO (cY) (zO (cZ) ((dA)))
def gN(ds:Ug)(S:Sto):R Er:=zX (pM (zM AO ds) S)
def gC:AY:=(EJ (dJ yR (vJ 1) (vJ 4)) (OL 2 (yS (wR 5) (yS (wR 6) oP))))
def gD:AY:=(CJ (bJ (yJ (vJ 5) (yJ (tJ BA (vJ 6) mJ (bJ (dJ yR (dJ yR (vJ 0) (vJ 5)) (kJ (.int 1))) Du)) wJ)) lO) 7)
def xF:AY:=(iJ (bJ (dJ (VE true) (vJ 7) (vJ 2)) eZ) (zO (BJ (eJ aO BB (vJ 2) (yJ (vJ 7) wJ))) ((BJ (eJ aO BB (vJ 3) (yJ (bJ wJ oV) wJ))))) (JJ))
def gF:AY:=(BJ (eJ aO BB (dJ yR (vJ 3) (eJ aO HK (vJ 2) (yJ (vJ 7) wJ))) (yJ (vJ 4) wJ)))
def xY:AY:=zO (gC) (zO (gD) (zO (xF) ((gF))))
def cF:AF:=(CJ (bJ wJ oV) 2)
def cG:AF:=(CJ (bJ wJ oV) 3)
def cH:AF:=(FJ (bJ (yJ (bJ (yJ (vJ 1) wJ) kL) wJ) aK) (wR 4) (xY))
def cI:AF:=(AJ (vJ 3))
def pN:AF:=zO (cF) (zO (cG) (zO (cH) ((cI))))
def xG(ds:Ug)(S:Sto):R Er:=zX (pN (zM aW ds) S)
def pO:AF:=(AJ (aJ (bJ (yJ (vJ 0) (yJ (kJ (.typ "int")) wJ)) pD) (nJ (bJ (yJ (vJ 0) (yJ (kJ (.typ "bool")) wJ)) pD))))
def uP:AF:=(pO)
def wD(ds:Ug)(S:Sto):R Er:=zX (uP (zM ["_law_thing"] ds) S)
def yO:AF:=(iJ (sJ (bJ (dJ LM (dJ yR (dJ yR (vJ 0) (vJ 1)) (kJ (.int 0))) (vJ 2)) eZ) (bJ (bJ (yJ (dJ yR (dJ yR (dJ yR (vJ 0) (vJ 1)) (kJ (.int 1))) (vJ 3)) (yJ (kJ (.typ "str")) wJ)) pD) dU)) ((AJ (kJ (.int 0)))) (JJ))
def eF:AF:=(AJ (dJ yR (dJ yR (dJ yR (vJ 0) (vJ 1)) (kJ (.int 1))) (vJ 3)))
def nU:AF:=zO (yO) ((eF))
def kZ(ds:Ug)(S:Sto):R Er:=zX (nU (zM lU ds) S)
def wF:AY:=(iJ (qJ (bJ (fJ 1 wD (yJ (vJ 2) wJ)) dU)) ((AJ (kJ (.bl false)))) (JJ))
def yP:AY:=(wF)
def yZ:AZ:=(bJ (dJ (VE false) (vJ 0) (vJ 1)) eZ)
def wG:AE:=(vJ 0)
def yB:AZ:=(bJ (dJ LM (bJ (yJ (pJ (bJ (vJ 0) PF) (wR 0) (yZ) (wG) 1 [1]) wJ) kL) (kJ (.int 1))) eZ)
def wH:AE:=(vJ 0)
def xM:AF:=(iJ (sJ (qJ (bJ (bJ (yJ (vJ 1) (yJ (kJ (.typ "tuple")) wJ)) pD) dU)) (sJ (bJ (dJ LM (bJ (yJ (vJ 1) wJ) kL) (bJ (yJ (vJ 0) wJ) kL)) eZ) (bJ (dJ LM (bJ (yJ (vJ 1) wJ) LQ) (bJ (yJ (vJ 1) wJ) HR)) eZ))) ((AJ (kJ (.bl false)))) (JJ))
def xN:AF:=(FJ (bJ (vJ 1) UY) (wR 2) (yP))
def xO:AF:=(AJ (dJ LL (pJ (bJ (vJ 0) PF) (wR 0) (yB) (wH) 1 [1]) (bJ wJ oV)))
def wI:AF:=zO (xM) (zO (xN) ((xO)))
def wK(ds:Ug)(S:Sto):R Er:=zX (wI (zM ["_law_some","_law_told","_law_place"] ds) S)
def iZ:AZ:=uJ
def lB:AE:=(fJ 4 kZ (yJ (dJ yR (vJ 1) (kJ (.int 2))) (yJ (vJ 0) (yJ (vJ 2) (yJ (vJ 3) wJ)))))
def cJ:AY:=(CJ (pJ (bJ (vJ 7) PF) (wR 0) (iZ) (lB) 1 [0,2,3]) 8)
def cK:AY:=(CJ (dJ dE (vJ 5) (bJ (yJ (vJ 8) wJ) (Ou false))) 5)
def cL:AY:=(CJ (dJ dE (vJ 6) (bJ (yJ (vJ 8) wJ) (Ou true))) 6)
def bF:AY:=zO (cJ) (zO (cK) ((cL)))
def lE:AZ:=uJ
def lF:AE:=(fJ 4 kZ (yJ (dJ yR (vJ 1) (kJ (.int 2))) (yJ (vJ 0) (yJ (vJ 2) (yJ (vJ 3) wJ)))))
def cM:AY:=(iJ (qJ (bJ (fJ 2 wK (yJ (vJ 1) (yJ (dJ yR (vJ 4) (vJ 9)) wJ))) dU)) ((AJ (kJ (.bl false)))) (JJ))
def cN:AY:=(iJ (bJ (dJ LM (bJ (yJ (pJ (bJ (dJ yR (vJ 4) (vJ 9)) UY) (wR 0) (lE) (lF) 1 [0,2,3]) wJ) sumF) (dJ yR (vJ 4) (dJ VA (vJ 9) (kJ (.int 1))))) eZ) ((AJ (kJ (.bl false)))) (JJ))
def eG:AY:=zO (cM) ((cN))
def eH:AF:=(CJ (fJ 3 sO (yJ (vJ 0) (yJ (vJ 2) (yJ (vJ 3) wJ)))) 4)
def eI:AF:=(iJ (sJ (qJ (bJ (bJ (yJ (vJ 4) (yJ (kJ (.typ "tuple")) wJ)) pD) dU)) (bJ (dJ LM (bJ (yJ (vJ 4) wJ) kL) (kJ (.int 4))) eZ)) ((AJ (kJ (.bl false)))) (JJ))
def pP:AF:=(CJ (kJ (.int 0)) 5)
def pQ:AF:=(CJ (kJ (.int 0)) 6)
def eK:AF:=(FJ (bJ (vJ 1) PF) (wR 7) (bF))
def eM:AF:=(iJ (sJ (qJ (bJ (fJ 1 wD (yJ (dJ yR (vJ 4) (kJ (.int 0))) wJ)) dU)) (sJ (qJ (bJ (fJ 1 wD (yJ (dJ yR (vJ 4) (kJ (.int 2))) wJ)) dU)) (bJ (dJ LM (bJ (yJ (dJ yR (vJ 4) (kJ (.int 0))) (yJ (dJ yR (vJ 4) (kJ (.int 2))) wJ)) lO) (bJ (yJ (vJ 5) (yJ (vJ 6) wJ)) lO)) eZ))) ((AJ (kJ (.bl false)))) (JJ))
def eO:AF:=(FJ (bJ (bJ (yJ (kJ (.int 1)) (yJ (kJ (.int 3)) wJ)) lO) UY) (wR 9) (eG))
def eP:AF:=(AJ (dJ LL (fJ 3 sO (yJ (vJ 0) (yJ (vJ 2) (yJ (vJ 3) wJ)))) (vJ 4)))
def oE:AF:=zO (eH) (zO (eI) (zO (pP) (zO (pQ) (zO (eK) (zO (eM) (zO (eO) ((eP))))))))
def nV(ds:Ug)(S:Sto):R Er:=zX (oE (zM dX ds) S)
def qL:AY:=(CJ (fJ 4 eC (yJ (vJ 5) (yJ (fJ 2 uG (yJ (vJ 5) (yJ (dJ bT (dJ vQ (fJ 2 zY (yJ (vJ 0) (yJ (dJ dE (kJ (.int 3)) (vJ 14)) wJ))) (kJ (.int 48271))) (vJ 7)) wJ))) (yJ (vJ 8) (yJ (vJ 9) wJ))))) 15)
def qM:AY:=(iJ (qJ (bJ (jJ FU FU (vJ 10) (vJ 15) (vJ 12)) eZ)) ((AJ (kJ (.bl false)))) (JJ))
def BW:AY:=zO (qL) ((qM))
def qN:AY:=(iJ (qJ (bJ (fJ 4 nV (yJ (vJ 5) (yJ (vJ 6) (yJ (vJ 8) (yJ (vJ 9) wJ))))) dU)) ((AJ (kJ (.bl false)))) (JJ))
def qO:AY:=(EJ (fJ 3 sO (yJ (vJ 5) (yJ (vJ 8) (yJ (vJ 9) wJ)))) (OL 4 (yS (wR 10) (yS (wR 11) (yS (wR 12) (yS (wR 13) oP))))))
def qP:AY:=(FJ (bJ (yJ (kJ (.int 3)) wJ) aK) (wR 14) (BW))
def CA:AY:=zO (qN) (zO (qO) ((qP)))
def vW:AY:=(FJ (bJ (yJ (dJ yR (dJ yR (vJ 2) (vJ 8)) (kJ (.int 0))) wJ) aK) (wR 9) (CA))
def uQ:AY:=(vW)
def CB:AF:=(CJ (fJ 1 gM (yJ (fJ 2 zY (yJ (vJ 0) (yJ (kJ (.int 0)) wJ))) wJ)) 1)
def CC:AF:=(CJ (fJ 2 wV (yJ (fJ 2 zY (yJ (vJ 0) (yJ (kJ (.int 1)) wJ))) (yJ (kJ (.int 4)) wJ))) 2)
def CD:AF:=(CJ (fJ 2 zY (yJ (vJ 0) (yJ (kJ (.int 2)) wJ))) 3)
def CF:AF:=(CJ (fJ 4 gN (yJ (tJ BA (vJ 0) (bJ (kJ (.int 3)) Du) (bJ (kJ (.int 63)) Du)) (yJ (vJ 2) (yJ (vJ 1) (yJ (dJ dE (kJ (.int 2)) (dJ bT (vJ 3) (kJ (.int 6)))) wJ))))) 4)
def CG:AF:=(CJ (fJ 3 iW (yJ (vJ 2) (yJ (bJ wJ lO) (yJ (vJ 4) wJ)))) 5)
def CI:AF:=(CJ (fJ 2 xG (yJ (vJ 2) (yJ (vJ 4) wJ))) 6)
def CK:AF:=(CJ (fJ 1 xB (yJ (vJ 5) wJ)) 7)
def CL:AF:=(FJ (bJ (yJ (bJ (yJ (vJ 2) wJ) kL) wJ) aK) (wR 8) (uQ))
def CN:AF:=(AJ (dJ LL (vJ 5) (bJ (yJ (vJ 2) (yJ (bJ wJ lO) (yJ (vJ 4) wJ))) lO)))
def Ah:AF:=zO (CB) (zO (CC) (zO (CD) (zO (CF) (zO (CG) (zO (CI) (zO (CK) (zO (CL) ((CN)))))))))
def HS(ds:Ug)(S:Sto):R Er:=zX (Ah (zM Ip ds) S)
def vX:List Nat:=[97,98,99,100,101,102,103,104,105,106,107,108,109,110,111,112,113,114,115,116,117,118,119,120,121,122]
def WD(c n:Int)(x:Db)(s:Uh)(S:Sto)(h:x.length<=1000): ∃k,(97<=k/\k<=122)/\jL [some (.int c),some (.str vX),some (.int n),some (.str x),s] S=
  .ok (.next [some (.int c),some (.str vX),some (.int (n / 26)),some (.str (x++[k])),s]) S:=by
 obtain⟨k,hk⟩:=tU (xs:=vX) (i:=n % 26) (eN _ (by decide)) (by have:=eL n (show _<26 by decide);show n % 26<26;exact this);refine⟨k,tV (P:=λk=>97<=k/\k<=122) (by decide) hk,?_⟩;have h1:jO [some (.int c),some (.str vX),some (.int n),some (.str x),s] S=.ok (.next [some (.int c),some (.str vX),some (.int n),some (.str (x++[k])),s]) S:=by unfold jO;simp? [mod_lit (show _<26 by decide),ix_str (by rw[sizeLine_eq];decide) hk];rw[add_str (fits (by rw[lS];omega))];rfl
 have h2:jP [some (.int c),some (.str vX),some (.int n),some (.str (x++[k])),s] S=.ok (.next [some (.int c),some (.str vX),some (.int (n / 26)),some (.str (x++[k])),s]) S:=by unfold jP;simp? [kQ (show _<26 by decide) (by decide)]
 unfold jL;rw[zA h1,h2]
theorem HU(c:Int)(S:Sto): ∀(ds:Ug)(n:Int)(x:Db)(s:Uh),x.length+ds.length<=1000->(∀c∈x,97<=c/\c<=122)-> ∃n' x' s',dD (wR 4) jL [] ds [some (.int c),some (.str vX),some (.int n),some (.str x),s] S=
  .ok (.next [some (.int c),some (.str vX),some (.int n'),some (.str x'),s']) S/\x'.length=x.length+ds.length/\ ∀c∈x',97<=c/\c<=122
 |[],n,x,s,_,hx=>⟨n,x,s,rfl,rfl,hx⟩
 |d::ds,n,x,s,h,hx=>by
  rw[lC]at h;obtain⟨k,hl,hk⟩:=WD c n x _ S (by omega)
  obtain⟨n',x',s',h1,h2,h3⟩:=HU c S ds _ (x++[k]) _ (by rw[lA,lS];omega) (by
   intro c hc;rw[List.mem_append,mS]at hc;rcases hc with hc|rfl
   .exact hx c hc
   .exact hl)
  refine⟨n',x',s',?_,by rw[h2,lA,lS,lC];omega,h3⟩;rw[xL rfl hk (kM S)];exact h1
theorem Gv(c:Int)(S:Sto): ∃x,gL [.int c] S=.ok (.val (.str x)) S/\Nm x:=by
 have hm0:0<=c % 8:=eN _ (by decide);have hm1:c % 8<8:=eL _ (by decide);have hn:((List.range (1+c % 8).toNat).map λk=>MV.int (k:Nat)).length=(1+c % 8).toNat:=by rw[lM,length_range]
 obtain⟨n',x',s',h1,h2,h3⟩:=HU c S _ (c / 8) [] none (by rw[hn];simp only[List.length_nil];omega) (by simp);rw[hn,List.length_nil]at h2;refine⟨x',?_,by omega,by omega,h3⟩;have e1:fR [some (.int c),none,none,none,none] S=.ok (.next [some (.int c),some (.str vX),none,none,none]) S:=rfl;have e2:cW [some (.int c),some (.str vX),none,none,none] S=.ok (.next [some (.int c),some (.str vX),some (.int (c / 8)),none,none]) S:=by unfold cW;simp? [kQ (show _<8 by decide) (by decide)]
 have e3:fU [some (.int c),some _,some _,none,none] S=.ok (.next [some (.int c),some (.str vX),some (.int (c / 8)),some _,none]) S:=rfl;have e4:cX [some (.int c),some (.str vX),some (.int (c / 8)),some (.str []),none] S=.ok (.next [some (.int c),some (.str vX),some (.int n'),some (.str x'),s']) S:=by unfold cX;simp? [mod_lit (show _<8 by decide)];rw[sD (by omega),aP];exact h1
 have hs:zM AN [.int c]=[some (.int c),none,none,none,none]:=rfl;unfold gL pL;rw[hs,zA e1,zA e2,zA e3,zA e4];rfl
theorem Ry(S:Sto):rZ (.val (.int 10)) (.val (.int 60)) S=.ok (.val (.int (10 ^ 60))) S:=rfl
theorem p600(S:Sto):rZ (.val (.int (10 ^ 60))) (.val (.int 10)) S=.ok (.val (.int ((10 ^ 60) ^ 10))) S:=by show(if VC (10 ^ 60) 10 then R.ok _ S else .no)=_;rfl
theorem Rz(S:Sto):rZ (.val (.int 10)) (.val (.int 30)) S=.ok (.val (.int (10 ^ 30))) S:=rfl
theorem Sa(S:Sto):rZ (.val (.int 26)) (.val (.int 8)) S=.ok (.val (.int 208827064576)) S:=rfl
def TD{b:Int}(h:VB 0 b)(a:Int)(S:Sto):iS (.val (.int a)) (.val (.int b)) S=.ok (.val (.int (a / b))) S:=iP h
def Np{a:Int}(h:0<=a/\a<4294967296)(S:Sto):vQ (.val (.int a)) (.val (.int a)) S=.ok (.val (.int (a * a))) S:=
 tS ⟨Int.lt_of_lt_of_le (by decide) h.1,Int.lt_trans h.2 (by decide)⟩ a S
theorem QO(c p:Int)(hp:0<p/\p<4294967296)(S:Sto): ∃n,zQ 2 yT [.val (.int c),.val (.int p)] S=.ok (.val (.int n)) S:=by
 have hs:zM EK [.int c,.int p]=[some (.int c),some (.int p),none]:=rfl;have h600:(0:Int)<(10 ^ 60) ^ 10:=Int.pow_pos (Int.pow_pos (by decide));have e1:nH [some (.int c),some (.int p),none] S=if decide (c % 2=0)=true then .ok (.ret (.val (.int (c / 2 % (10 ^ 60) ^ 10)))) S else .ok (.next [some (.int c),some (.int p),none]) S:=by unfold nH;simp? [mod_lit (show(0:Int)<2 by decide),kQ (show(0:Int)<2 by decide) (by decide),Ry,p600,mod_lit h600]
 have fin: ∀n,yT [.int c,.int p] S=.ok _ S-> ∃n,zQ 2 yT [.val (.int c),.val (.int p)] S=.ok (.val (.int n)) S:=λn h=>⟨n,xV rfl h (wA _ _) (λl=>by simp)⟩
 cases hb:decide (c % 2=0)with
 |true=>
  refine fin (c / 2 % (10 ^ 60) ^ 10) ?_;rw[hb,iP rfl]at e1;unfold yT oD;rw[hs,tT e1];rfl
 |false=>
  rw[hb,iN xF0]at e1;have hn0:0<=(c % 2147483629+7) * 48271 % p:=eN _ (by omega);have hn1:(c % 2147483629+7) * 48271 % p<p:=eL _ hp.1;have e2:nK [some (.int c),some (.int p),none] S=.ok (.next [some (.int c),some (.int p),some (.int ((c % 2147483629+7) * 48271 % p))]) S:=by unfold nK;simp? [mod_lit (show(0:Int)<2147483629 by decide),tS (show -(2 ^ 64)<(48271:Int)/\_<2 ^ 64 by decide),mod_lit hp.1]
  generalize _ * 48271 % p=m at hn0 hn1 e2;have e3:nL [some (.int c),some (.int p),some (.int m)] S=.ok (.ret (.val (.int (m * m % 2147483579 * 1000003+m)))) S:=by unfold nL;simp? [Np (a:=m) ⟨hn0,by omega⟩,mod_lit (show(0:Int)<2147483579 by decide),tS (show -(2 ^ 64)<_/\(1000003:Int)<2 ^ 64 by decide)]
  refine fin (m * m % 2147483579 * 1000003+m) ?_;unfold yT oD;rw[hs,zA e1,zA e2,e3];rfl
def Gw: ∀k,k<26->strIdx vX [97+k]=some k:=by decide+kernel
abbrev P8(c n:Int)(a b x4 x5 x6 x7:Uh):Rho:=[some (.int c),some (.int n),a,b,x4,x5,x6,x7]
section
variable{c n:Int}{a b x4 x5 x6 x7:Uh}{S:Sto}{x:Db}{at' tn:Int}
theorem po4:fX (P8 c n a b x4 x5 x6 x7) S=.ok (.next (P8 c (n / 1670616516608) a b x4 x5 x6 x7)) S:=by unfold fX;simp? [Sa,ZA (show -(2 ^ 64)<(8:Int)/\(8:Int)<2 ^ 64 by decide),TD (show VB 0 (8 * 208827064576) by decide+kernel)];rfl
def po5(hx:Nm x):fY (P8 c n a (some (.str x)) x4 x5 x6 x7) S=.ok (.next (P8 c n a (some (.str x)) (some (.int (n % x.length))) x5 x6 x7)) S:=by
 have hl:kL [.val (.str x)] S=.ok _ S:=iP (fits (by have:=hx.2.1;omega));have hp:(0:Int)<(x.length:Int):=by have:=hx.1;omega
 unfold fY;simp? [hl,mod_lit hp]
def po6(hx:Nm x)(h0:0<=at')(h1:at'<x.length): ∃tn,fZ (P8 c n (some (.str vX)) (some (.str x)) (some (.int at')) x5 x6 x7) S=.ok (.next (P8 c n (some (.str vX)) (some (.str x)) (some (.int at')) (some (.int tn)) x6 x7)) S:=by
 obtain⟨k,hk⟩:=tU h0 h1;obtain⟨k0,k1⟩:=tV hx.2.2 hk;have hi:=Gw (k - 97) (by omega);rw[show 97+_=k by omega]at hi;have hsi:LR (.val (.str vX)) [.val (.str [k])] S=.ok (.val (.int ((k - 97:Nat):Int))) S:=by show(match strIdx vX [k]with |some i=>R.ok _ S|none=>.no)=_;rw[hi]
 refine⟨((k - 97:Nat):Int)+1+n / 8 % 25,?_⟩;unfold fZ;simp? [ix_str (fits (by have:=hx.2.1;omega)) hk,show DP (.val (.str vX)) S=true from rfl,hsi,kQ (show _<8 by decide) (by decide),mod_lit (show _<25 by decide)]
theorem po7(hx:Nm x)(h0:0<=at')(h1:at'<x.length): ∃y,Nm y/\iA (P8 c n (some (.str vX)) (some (.str x)) (some (.int at')) (some (.int tn)) x6 x7) S=.ok (.next (P8 c n (some (.str vX)) (some (.str x)) (some (.int at')) (some (.int tn)) (some (.str y)) x7)) S:=by
 obtain⟨k,hk⟩:=tU (xs:=vX) (i:=tn % 26) (eN _ (by decide)) (by have:=eL tn (show(0:Int)<26 by decide);show tn % 26<26;exact this);have hkl:=tV (P:=λk=>97<=k/\k<=122) (by decide) hk;have c1:aG x none _=x.take at'.toNat:=JF _ _ h0
 have c2:aG x (some (at'+1)) none=x.drop (at'.toNat+1):=by
  unfold aG;have z1:HT.sIx x.length 0 (some (at'+1))=at'.toNat+1:=by unfold HT.sIx;simp only;split<;>omega
  have z2:HT.sIx x.length x.length none=x.length:=rfl;rw[z1,z2];rw[List.take_of_length_le (by rw[List.length_drop];omega)]
 have hlen:=hx.2.1;refine⟨x.take at'.toNat++[k]++x.drop (at'.toNat+1),⟨?_,?_,?_⟩,?_⟩
 .simp only[lA,lS];omega
 .simp only[lA,lS,lT,List.length_drop];omega
 .intro z hz;rw[List.mem_append,List.mem_append,mS]at hz;rcases hz with(hz|rfl)|hz
  .exact hx.2.2 z (mem_of_mem_take hz)
  .exact hkl
  .exact hx.2.2 z (List.mem_of_mem_drop hz)
 .unfold iA;simp? [cut_str (S:=S) (fits (show x.length<=1000000 by omega)),c1,mod_lit (show(0:Int)<26 by decide),ix_str (by rw[sizeLine_eq];decide) hk,c2];rw[add_str (fits (by rw[lS,lT];omega)),aP];simp? [cut_str (S:=S) (fits (show x.length<=1000000 by omega)),c2];rw[add_str (fits (by simp only[lA,lS,lT,List.length_drop];omega)),aP];rfl
def po8:iB (P8 c n a b x4 x5 x6 x7) S=.ok (.next (P8 c (n / 200) a b x4 x5 x6 x7)) S:=by unfold iB;simp? [kQ (show _<200 by decide) (by decide)]
def po9: ∃g,(1<=g/\g<=10 ^ 30 - 3)/\iC (P8 c n a b x4 x5 x6 x7) S=.ok (.next (P8 c n a b x4 x5 x6 (some (.int g)))) S:=by
 have h0:0<=n % 10 ^ 30:=eN _ (by decide);have h1:n % 10 ^ 30<10 ^ 30:=eL _ (by decide);have h2:0<=(n % 10 ^ 30 * 48271+11) ^ (4:Int).toNat % (10 ^ 30 - 3):=eN _ (by decide);have h3:(n % 10 ^ 30 * 48271+11) ^ (4:Int).toNat % _<10 ^ 30 - 3:=eL _ (by decide)
 have h4:VC (n % 10 ^ 30 * 48271+11) 4:=by
  refine⟨by decide,?_⟩
  have hb:Builtin.Int.intBits (n % 10 ^ 30 * 48271+11)<=200:=by
   unfold Builtin.Int.intBits;split
   .omega
   .rename_i hn;have hn':(n % 10 ^ 30 * 48271+11).natAbs≠0:=by omega
    have:=(Nat.log2_lt hn').mpr (show(n % 10 ^ 30 * 48271+11).natAbs<2 ^ 199 by omega);omega
  omega
 refine⟨(n % 10 ^ 30 * 48271+11) ^ (4:Int).toNat % (10 ^ 30 - 3)+1,⟨by omega,by omega⟩,?_⟩;unfold iC;simp? [Rz,mod_lit (show _<10 ^ 30 by decide),tS (show -_<_/\(48271:Int)<2 ^ 64 by decide),Fo h4,mod_lit (show _<10 ^ 30 - 3 by decide)]
def po10{g:Int}(hg:1<=g/\g<=10 ^ 30 - 3): ∃g',(1<=g'/\g'<=10 ^ 30 - 3)/\bB (P8 c n a b x4 x5 x6 (some (.int g))) S=.ok (.next (P8 c n a b x4 x5 x6 (some (.int g')))) S:=by
 have h3:n / 2 % _<10 ^ 30 - 3:=eL _ (by decide);have e:bB (P8 c n a b x4 x5 x6 (some (.int g))) S=if decide (n % 2=1)=true then .ok (.next (P8 c n a b x4 x5 x6 (some (.int (n / 2 % (10 ^ 30 - 3)+1))))) S else .ok (.next (P8 c n a b x4 x5 x6 (some (.int g)))) S:=by unfold bB;simp? [mod_lit (show _<2 by decide),kQ (show _<2 by decide) (by decide),Rz,mod_lit (show _<10 ^ 30 - 3 by decide)]
 cases hb:decide (n % 2=1)with
 |true=>exact⟨n / 2 % (10 ^ 30 - 3)+1,⟨by omega,by omega⟩,by rw[e,hb,iP rfl]⟩
 |false=>exact⟨g,hg,by rw[e,hb,iN xF0]⟩
def lst7(a b c d e f g:MV)(S:Sto):oV [.val a,.val b,.val c,.val d,.val e,.val f,.val g] S=.ok (.new [a,b,c,d,e,f,g]) S:=vU (by simp)
def po11{g:Int}{y:Db}(hg:1<=g/\g<=10 ^ 30 - 3)(hx:Nm x)(hy:Nm y): ∃vs,vs.length=7/\(∀d∈vs,Vl d)/\eE (P8 c n a (some (.str x)) x4 x5 (some (.str y)) (some (.int g))) S=.ok (.ret (.new vs)) S:=by
 refine⟨[.int (n / 64 % 5),.int g,.str x,.int (0 - g),.str y,.int (n / 320 % 5+7),.int (g+1)],rfl,?_,?_⟩
 .intro d hd;simp only[mC,nM,or_false]at hd;rcases hd with rfl|rfl|rfl|rfl|rfl|rfl|rfl
  .exact⟨by omega,by omega⟩
  .exact⟨by omega,by omega⟩
  .exact hx
  .exact⟨by omega,by omega⟩
  .exact hy
  .exact⟨by omega,by omega⟩
  .exact⟨by omega,by omega⟩
 .unfold eE;simp? [kQ (show _<64 by decide) (by decide),mod_lit (show _<5 by decide),kQ (show _<320 by decide) (by decide),lst7]
end
theorem Gx(c:Int)(S:Sto): ∃vs,vs.length=7/\(∀d∈vs,Vl d)/\zQ 1 gM [.val (.int c)] S=.ok (.new vs) S:=by
 obtain⟨n,hn⟩:=QO c 2147483587 ⟨by decide,by decide⟩ S;obtain⟨x,hx,nx⟩:=Gv n S;have hc:zQ 1 gL [.val (.int n)] S=.ok (.val (.str x)) S:=xV rfl hx (YU _ x) (λl=>by simp);have hs:zM pK [.int c]=[some (.int c),none,none,none,none,none,none,none]:=rfl;have e1:fV [some (.int c),none,none,none,none,none,none,none] S=.ok (.next (P8 c n none none none none none none)) S:=by unfold fV;simp? [hn]
 have e2:rG (P8 c n none none none none none none) S=.ok (.next (P8 c n (some (.str vX)) none none none none none)) S:=rfl;have e3:fW (P8 c n (some (.str vX)) none none none none none) S=.ok (.next (P8 c n (some (.str vX)) (some (.str x)) none none none none)) S:=by unfold fW;simp? [hc]
 have hp:0<x.length:=by have:=nx.1;omega
 have hm0:0<=n / 1670616516608 % (x.length:Int):=eN _ (by omega);have hm1:n / 1670616516608 % (x.length:Int)<x.length:=eL _ (by omega);obtain⟨tn,e6⟩:=po6 (c:=c) (x5:=none) (x6:=none) (x7:=none) (S:=S) nx hm0 hm1;obtain⟨y,ny,e7⟩:=po7 (c:=c) (tn:=tn) (x6:=none) (x7:=none) (S:=S) nx hm0 hm1;obtain⟨g,hg,e9⟩:=po9 (c:=c) (x7:=none) (S:=S);obtain⟨g',hg',e10⟩:=po10 (c:=c) (S:=S) hg;obtain⟨vs,hl,hv,e11⟩:=po11 (c:=c) (S:=S) hg' nx ny;refine⟨vs,hl,hv,YX (T:=[]) rfl ?_ (yE λd hd=>(hv d hd).lo _)⟩;rw[aN];show gM [.int c] S=_;unfold gM AQ;rw[hs,zA e1,zA e2,zA e3,zA po4,zA (po5 nx),zA e6,zA e7,zA po8,zA e9,zA e10,e11];rfl
def fI{S:Sto}{l:Nat}{ds:Ug}{d:MV}(hS:S[l]? =some (.lst ds))(hz:ds.length<1000000):BB (.val (.loc l)) [.val d] S=.ok (.val .non) (S.set l (.lst (ds++[d]))):=by show LS (.val (.loc l)) S (λds=>if ds.length<sizeLine then some _ else none)=_;unfold LS;dsimp only;rw[hS];dsimp only;rw[iP (Nat.lt_of_lt_of_le hz (fits (Nat.le_refl _)))]
theorem dB{S:Sto}{l:Nat}{ds:Ug}(hS:S[l]? =some (.lst ds)):aO (.val (.loc l)) S=true:=by unfold aO;rw[aQ hS];rfl
def get_set{S:Sto}{l:Nat}{o o':MO}(h:S[l]? =some o):(S.set l o')[l]? =some o':=getElem?_set_self (gS0.mp h).1
def QP{S:Sto}{l m:Nat}{o':MO}(h:l≠m):(S.set l o')[m]? =S[m]? :=getElem?_set_ne h
def qQ{S:Sto}{l:Nat}{ds:Ug}(hS:S[l]? =some (.lst ds)):jY [.val (.loc l)] S=.ok (.val (.tup ds)) S:=by show(match jI S _ with |some ds=>R.ok _ S|none=>.no)=_;rw[aQ hS]
theorem oF(ds:Ug)(S:Sto):kL [.val (.tup ds)] S=.ok (.val (.int ds.length)) S:=rfl
theorem TF(gf:MV->Rho->Sto->R Rho)(ρ:Rho)(d:MV)(S:Sto):Dv gf ρ (.val d) S=(gf d ρ S).bind λρ' S2=>.ok (.next ρ') S2:=rfl
def tbl(p:Int×Int):MV:=.tup [.int p.1,.int p.2]
def vY(ts:Tb):Prop:=1<=ts.length/\ts.length<=4/\ ∀p∈ts,1<=p.1/\p.1<=4/\0<=p.2/\p.2<=p.1
abbrev P7(c m n k:MV)(l:Nat)(x5 x6:Uh):Rho:=[some c,some m,some n,some k,some (.loc l),x5,x6]
def Ai{c m k:MV}{n:Int}{l:Nat}{x5 x6:Uh}{S:Sto}{ts:Tb}(hS:S[l]? =some (.lst (ts.map tbl)))(hl:ts.length<1000):
  ∃p n',(1<=p.1/\p.1<=4/\0<=p.2/\p.2<=p.1)/\wN (P7 c m (.int n) k l x5 x6) S=.ok (.next (P7 c m (.int n') k l x5 (some (.int p.1)))) (S.set l (.lst ((ts++[p]).map tbl))):=by
 have h0:0<=n % 4:=eN _ (by decide);have h1:n % 4<4:=eL _ (by decide);have hp:(0:Int)<1+n % 4+1:=by omega
 have h2:0<=n / 4 % (1+n % 4+1):=eN _ (by omega);have h3:n / 4 % (1+n % 4+1)<1+n % 4+1:=eL _ hp;refine⟨(1+n % 4,n / 4 % (1+n % 4+1)),n / 20,⟨by show 1<=1+n % 4;omega,by show 1+n % 4<=4;omega,h2,by show n / 4 % (1+n % 4+1)<=1+n % 4;omega⟩,?_⟩;have e1:kC (P7 c m (.int n) k l x5 x6) S=.ok (.next (P7 c m (.int n) k l x5 (some (.int (1+n % 4))))) S:=by unfold kC;simp? [mod_lit (show(0:Int)<4 by decide)]
 have e2:kD (P7 c m (.int n) k l x5 (some (.int (1+n % 4)))) S=.ok (.next (P7 c m (.int n) k l x5 (some (.int (1+n % 4))))) (S.set l (.lst ((ts++[(1+n % 4,n / 4 % (1+n % 4+1))]).map tbl))):=by unfold kD;simp? [dB hS,kQ (show(0:Int)<4 by decide) (by decide),mod_lit hp,fI hS (by rw[lM];omega)];rw[List.map_append];rfl
 have e3:kE (P7 c m (.int n) k l x5 (some (.int (1+n % 4)))) (S.set l (.lst ((ts++[(1+n % 4,n / 4 % (1+n % 4+1))]).map tbl)))=.ok (.next (P7 c m (.int (n / 20)) k l x5 (some (.int (1+n % 4))))) (S.set l (.lst ((ts++[(1+n % 4,n / 4 % (1+n % 4+1))]).map tbl))):=by unfold kE;simp? [kQ (show(0:Int)<20 by decide) (by decide)]
 unfold wN;rw[zA e1,zA e2,e3]
def WF(c:Int)(S:Sto): ∃ts,vY ts/\zQ 2 wV [.val (.int c),.val (.int 4)] S=.ok (.val (.tup (ts.map tbl))) S:=by
 obtain⟨n,hn⟩:=QO c 2147483629 ⟨by decide,by decide⟩ S;have h0:0<=n % 4:=eN _ (by decide);have h1:n % 4<4:=eL _ (by decide);have hs:zM rE [.int c,.int 4]=[some (.int c),some (.int 4),none,none,none,none,none]:=rfl;have e1:jQ [some (.int c),some (.int 4),none,none,none,none,none] S=.ok (.next [some (.int c),some (.int 4),some (.int n),none,none,none,none]) S:=by unfold jQ;simp? [hn]
 have e2:jR [some (.int c),some (.int 4),some (.int n),none,none,none,none] S=.ok (.next [some (.int c),some (.int 4),some (.int n),some (.int (1+n % 4)),none,none,none]) S:=by unfold jR;simp? [mod_lit (show(0:Int)<4 by decide)]
 have e3:jS [some (.int c),some (.int 4),some (.int n),some (.int (1+n % 4)),none,none,none] S=.ok (.next [some (.int c),some (.int 4),some (.int (n / 4)),some (.int (1+n % 4)),none,none,none]) S:=by unfold jS;simp? [kQ (b:=4) (by decide) (by decide)]
 have e4:jT [some (.int c),some (.int 4),some (.int (n / 4)),some (.int (1+n % 4)),none,none,none] S=.ok (.next (P7 (.int c) (.int 4) (.int (n / 4)) (.int (1+n % 4)) S.length none none)) (S++[.lst []]):=by unfold jT;simp? [aP]
 have hlen:((List.range (1+n % 4).toNat).map λk=>MV.int (k:Nat)).length=(1+n % 4).toNat:=by rw[lM,length_range]
 obtain⟨ρ',S',e,x5,x6,n',ts,hρ,hS',hl,hT⟩:=vT (L:=(List.range (1+n % 4).toNat).map λk=>MV.int (k:Nat)) (gf:=wR 5) (body:=wN) (gs:=[]) (S:=S++[.lst []])
  (λi ρ S'=> ∃x5 x6 n' ts,ρ=P7 (.int c) (.int 4) (.int n') (.int (1+n % 4)) S.length x5 x6/\S'=S++[.lst (ts.map tbl)]/\ts.length=i/\ ∀p∈ts,1<=p.1/\p.1<=4/\0<=p.2/\p.2<=p.1) (λi d hi ρ S1 ⟨x5,x6,n',ts,hρ,hS1,hl,hT⟩=>by
   subst hρ hS1;have hil:i<5:=by have:=(gS0.mp hi).1;omega
   obtain⟨p,n'',hp,hb⟩:=Ai (c:=.int c) (m:=.int 4) (k:=.int (1+n % 4)) (n:=n') (l:=S.length) (x5:=some d) (x6:=x6) (S:=S++[.lst (ts.map tbl)]) (ts:=ts) (by simp) (by omega);refine⟨P7 (.int c) (.int 4) (.int n'') (.int (1+n % 4)) S.length (some d) (some (.int p.1)),S++[.lst ((ts++[p]).map tbl)],?_,kM _,some d,some (.int p.1),n'',ts++[p],rfl,rfl,by rw[lA,hl];rfl,?_⟩
   .rw[show wR 5 d _ (S++[.lst (ts.map tbl)])=.ok (P7 (.int c) (.int 4) (.int n') (.int (1+n % 4)) S.length (some d) x6) (S++[.lst (ts.map tbl)])from rfl,aP,hb];rw[show(S++[MO.lst (ts.map tbl)]).set S.length (.lst ((ts++[p]).map tbl))=S++[.lst ((ts++[p]).map tbl)] by simp]
   .intro q hq;rw[List.mem_append,mS]at hq;rcases hq with hq|rfl
    .exact hT q hq
    .exact hp) ⟨none,none,n / 4,[],rfl,rfl,rfl,λp hp=>by simp at hp⟩
 subst hρ hS';rw[hlen]at hl;have e5:jU (P7 (.int c) (.int 4) (.int (n / 4)) (.int (1+n % 4)) S.length none none) (S++[.lst []])=.ok (.next (P7 (.int c) (.int 4) (.int n') (.int (1+n % 4)) S.length x5 x6)) (S++[.lst (ts.map tbl)]):=by unfold jU;simp? [sD (S:=S++[.lst []]) (show -(2 ^ 62)<=1+n % 4/\1+n % 4<2 ^ 62 by omega)];exact e
 have e6:jV (P7 (.int c) (.int 4) (.int n') (.int (1+n % 4)) S.length x5 x6) (S++[.lst (ts.map tbl)])=.ok (.ret (.val (.tup (ts.map tbl)))) (S++[.lst (ts.map tbl)]):=by unfold jV;simp? [qQ (S:=S++[.lst (ts.map tbl)]) (l:=S.length) (ds:=ts.map tbl) (by simp)]
 refine⟨ts,⟨by omega,by omega,hT⟩,pE (T:=[.lst (ts.map tbl)]) rfl ?_ (xD (yE λd hd=>?_)) (λl=>by simp)⟩
 .show wV [.int c,.int 4] S=_;unfold wV iD;rw[hs,zA e1,zA e2,zA e3,zA e4,zA e5,e6];rfl
 .obtain⟨p,_,rfl⟩:=mM.mp hd;exact xD (yE λe he=>by simp at he;rcases he with rfl|rfl<;>exact wA _ _)
mutual
def pd:MV->Bool
 |.int _=>true
 |.str _=>true
 |.tup ds=>KM ds
 |_=>false
def KM:List MV->Bool
 |[]=>true
 |d::ds=>pd d&&KM ds
end
mutual
def uR:MV->Nat
 |.tup ds=>sQ ds+1
 |_=>0
def sQ:List MV->Nat
 |[]=>0
 |d::ds=>max (uR d) (sQ ds)
end
def bG(ds:Ug):pd (.tup ds)=KM ds:=by rw[pd]
def TH:KM []=true:=by rw[KM]
def yQ(d:MV)(ds:Ug):KM (d::ds)=(pd d&&KM ds):=by rw[KM]
def jA(ds:Ug):uR (.tup ds)=sQ ds+1:=by rw[uR]
def yK(d:MV)(ds:Ug):sQ (d::ds)=max (uR d) (sQ ds):=by rw[sQ]
def lG:sQ []=0:=by rw[sQ]
def ES(i:Int):pd (.int i)=true:=by rw[pd]
def Nq(i:Db):pd (.str i)=true:=by rw[pd]
def nW(i:Int):uR (.int i)=0:=by simp[uR]
def Gy(i:Db):uR (.str i)=0:=by simp[uR]
theorem qR: ∀{ds:Ug},(∀d∈ds,pd d=true)->KM ds=true
 |[],_=>TH
 |d::ds,h=>by rw[yQ,h d mF0,qR λe he=>h e (mO _ he)];rfl
theorem JU: ∀{ds:Ug},KM ds=true-> ∀d∈ds,pd d=true
 |[],_,d,h=>by simp at h
 |e::ds,hp,d,h=>by
  rw[yQ,aE]at hp;rcases mC.mp h with rfl|h
  .exact hp.1
  .exact JU hp.2 d h
theorem qS: ∀{ds:Ug}{n:Nat},(∀d∈ds,uR d<=n)->sQ ds<=n
 |[],n,_=>by rw[lG];exact zero_le _
 |d::ds,n,h=>by rw[yK];have h1:=h d mF0;have h2:=qS λe he=>h e (mO _ he);omega
theorem MR: ∀{ds:Ug}, ∀d∈ds,uR d<=sQ ds
 |[],d,h=>by simp at h
 |e::ds,d,h=>by
  rcases mC.mp h with rfl|h
  .exact Nat.le_max_left _ _
  .exact Nat.le_trans (MR d h) (Nat.le_max_right _ _)
def MS{d:MV}(h:pd d=true):(∃i,d=.int i)\/(∃x,d=.str x)\/ ∃ds,d=.tup ds/\KM ds=true:=by
 cases d with
 |int i=>exact .inl ⟨i,rfl⟩
 |str x=>exact .inr (.inl ⟨x,rfl⟩)
 |tup ds=>exact .inr (.inr ⟨ds,rfl,by rw[<-bG];exact h⟩)
 |_=>rw[pd]at h<;>first |cases h|(intros;simp)
def dec_is{p:Prop}[Decidable p]{q:Prop}[Decidable q](h:p↔q):decide p=decide q:=by
 by_cases hq:q
 .rw[dT0 hq,dT0 (h.mpr hq)]
 .rw[dF0 hq,dF0 λz=>hq (h.mp z)]
theorem MT{e:MV->MV->Option Bool}: ∀{ds es:Ug},(∀d∈ds, ∀f∈es,e d f=some (decide (d=f)))-> ∃bs,vO e ds es=some bs/\(bs.all id&&ds.length==es.length)=decide (ds=es)
 |[],[],_=>⟨[],rfl,by simp⟩
 |[],_::_,_=>⟨[],rfl,by simp⟩
 |_::_,[],_=>⟨[],rfl,by simp⟩
 |d::ds,f::es,h=>by
  obtain⟨bs,h1,h2⟩:=MT λa ha b hb=>h a (mO _ ha) b (mO _ hb);refine⟨decide (d=f)::bs,?_,?_⟩
  .unfold vO;rw[h d mF0 f mF0,h1];rfl
  .by_cases hd:d=f
   .subst hd;rw[List.all_cons,dT0 rfl];simp only[id,Bool.true_and,lC];rw[show(ds.length+1==es.length+1)=(ds.length==es.length) by simp,h2];exact dec_is (by simp)
   .rw[dF0 hd];rw[dF0 (λz=>hd (List.cons.inj z).1)];rfl
theorem lH{S:Sto}: ∀(n:Nat){d e:MV},pd d=true->pd e=true->uR d<n->eqv S n d e=some (decide (d=e))
 |0,d,e,_,_,h=>by omega
 |n+1,d,e,hd,he,h=>by
  rcases MS hd with⟨i,rfl⟩|⟨x,rfl⟩|⟨ds,rfl,pds⟩<;>rcases MS he with⟨j,rfl⟩|⟨y,rfl⟩|⟨es,rfl,pes⟩
  .rw[BS];exact congrArg some (dec_is (by simp))
  .rw[Mj,dF0 (by simp)]
  .rw[dF0 (by simp)];rfl
  .rw[Mk,dF0 (by simp)]
  .rw[Fk];exact congrArg some (dec_is (by simp))
  .rw[dF0 (by simp)];rfl
  .rw[dF0 (by simp)];rfl
  .rw[dF0 (by simp)];rfl
  .rw[jA]at h;obtain⟨bs,h1,h2⟩:=MT λa ha b hb=>lH n (JU pds a ha) (JU pes b hb) (by have:=MR a ha;omega);show((vO _ ds es).map λbs=>bs.all id&&ds.length==es.length)=_;rw[h1];show some (bs.all id&&ds.length==es.length)=_;rw[h2];exact congrArg some (dec_is (by simp))
def TJ{S:Sto}{d e:MV}(hd:pd d=true)(he:pd e=true)(h:uR d<40):LL (.val d) (.val e) S=.ok (.val (.bl (decide (d=e)))) S:=YY (lH _ hd he (by unfold zH;omega))
theorem ET{S:Sto}{d:MV}(hd:pd d=true): ∀{ys:Ug},(∀y∈ys,pd y=true/\uR y<40)->LN S zH d ys=some (ys.map λy=>decide (y=d))
 |[],_=>rfl
 |y::ys,h=>by have h1:=h y mF0;unfold LN;rw[lH zH h1.1 hd (by unfold zH;exact h1.2),ET hd λz hz=>h z (mO _ hz)];rfl
def EU{S:Sto}{l:Nat}{d:MV}{ys:Ug}(hS:S[l]? =some (.lst ys))(hd:pd d=true)(hs: ∀x,d≠.str x)(h: ∀y∈ys,pd y=true/\uR y<40):VE true (.val d) (.val (.loc l)) S=.ok (.val (.bl (!decide (d∈ys)))) S:=by
 have e1:itemsOf S (.val (.loc l))=some ys:=by unfold itemsOf;exact aQ hS
 have e2:vS true (.val d) (.val (.loc l)) S=.ok (.val (.bl (!decide (d∈ys)))) S:=by
  unfold vS;rw[e1];dsimp only;rw[ET hd h];dsimp only;rw[iP rfl];congr 4;rw[List.any_map];by_cases hm:d∈ys
  .rw[dT0 hm,List.any_eq_true];exact⟨d,hm,by simp⟩
  .rw[dF0 hm];rw[List.any_eq_false];intro y hy;simp only[Function.comp,id,decide_eq_true_eq];rintro rfl;exact hm hy
 cases d with
 |str x=>exact absurd rfl (hs x)
 |_=>exact e2
def zG(r:Nat×List MV):MV:=.tup [.int r.1,.tup r.2]
def eQ(ts:Tb)(r:Nat×List MV):Prop:= ∃p,ts[r.1]? =some p/\(r.2.length:Int)=p.1/\ ∀d∈r.2,Vl d
def TL{d:MV}(h:Vl d):pd d=true/\uR d=0:=by
 rcases h.cases with⟨i,rfl,_⟩|⟨x,rfl,_⟩
 .exact⟨ES i,nW i⟩
 .exact⟨Nq x,Gy x⟩
def EV{ts:Tb}{r:Nat×List MV}(h:eQ ts r):pd (zG r)=true/\uR (zG r)<=2:=by
 obtain⟨p,_,_,hv⟩:=h;have h1:=qR λd hd=>(TL (hv d hd)).1;have h2:=qS λd hd=>by rw[(TL (hv d hd)).2];exact Nat.le_refl _
 unfold zG;refine⟨by rw[bG,yQ,yQ,bG,h1];rfl,?_⟩;rw[jA,yK,yK,lG,nW,jA];omega
def MU{r q:Nat×List MV}(h:zG r=zG q):r=q:=by
 injection h with h
 injection h with h1 h2
 injection h2 with h2 _
 injection h1 with h1
 injection h2 with h2
 exact Prod.ext (by omega) h2
def QQ{ts:Tb}{r:Nat×List MV}(h:eQ ts r)(n:Nat):lo n (zG r):=by
 obtain⟨p,_,_,hv⟩:=h;refine xD (yE λd hd=>?_);simp only[mC,nM,or_false]at hd;rcases hd with rfl|rfl
 .exact wA _ _
 .exact xD (yE λe he=>(hv e he).lo n)
theorem vZ{ts:Tb}{t:Nat}{p:Int×Int}(h:ts[t]? =some p):tB (ts.map tbl) (t:Int)=some (tbl p):=by have hl:=(gS0.mp h).1;unfold tB Bv;rw[iP (by omega),iP (by rw[lM];omega)];show _[(t:Int).toNat]? =_;rw[Int.toNat_natCast,getElem?_map,h];rfl
abbrev R8(c tb pl w:MV)(n:Int)(t:Int)(l:Nat)(x7:Uh):Rho:=[some c,some tb,some pl,some w,some (.int n),some (.int t),some (.loc l),x7]
def Aj{c tb:MV}{lp l:Nat}{w n t:Int}{x7:Uh}{S:Sto}{vs cs:Ug}(hw:1<=w/\w<=7)(hv:vs.length=7)(hP:S[lp]? =some (.lst vs))(hS:S[l]? =some (.lst cs))(hl:cs.length<1000):
  ∃v n',v∈vs/\bE (R8 c tb (.loc lp) (.int w) n t l x7) S=.ok (.next (R8 c tb (.loc lp) (.int w) n' t l x7)) (S.set l (.lst (cs++[v]))):=by
 have hp:(0:Int)<w:=by omega
 have h0:0<=n % w:=eN _ (by omega);have h1:n % w<w:=eL _ hp;obtain⟨v,hvv⟩:=tU (xs:=vs) h0 (by omega);refine⟨v,n / w,tV (λe h=>h) hvv,?_⟩;have e1:bC (R8 c tb (.loc lp) (.int w) n t l x7) S=.ok (.next (R8 c tb (.loc lp) (.int w) n t l x7)) (S.set l (.lst (cs++[v]))):=by unfold bC;simp? [dB hS,mod_lit hp,PV hP hvv,fI hS (by omega)]
 have e2:bD (R8 c tb (.loc lp) (.int w) n t l x7) (S.set l (.lst (cs++[v])))=.ok (.next (R8 c tb (.loc lp) (.int w) (n / w) t l x7)) (S.set l (.lst (cs++[v]))):=by unfold bD;simp? [kQ hp (by omega)]
 unfold bE;rw[zA e1,e2]
theorem Nr{ts:Tb}(hT:vY ts)(c w:Int)(hw:1<=w/\w<=7){lp:Nat}{vs:Ug}{S:Sto}(hv:vs.length=7)(hV: ∀d∈vs,Vl d)(hP:S[lp]? =some (.lst vs)):
  ∃r,eQ ts r/\zQ 4 cE [.val (.int c),.val (.tup (ts.map tbl)),.val (.loc lp),.val (.int w)] S=.ok (.val (zG r)) S:=by
 obtain⟨n,hn⟩:=QO c 2147483563 ⟨by decide,by decide⟩ S;have hlp:lp<S.length:=(gS0.mp hP).1;have hp:(0:Int)<(ts.length:Int):=by have:=hT.1;omega
 have h0:0<=n % (ts.length:Int):=eN _ (by omega);have h1:n % (ts.length:Int)<ts.length:=eL _ hp;obtain⟨t,ht⟩:=Int.eq_ofNat_of_zero_le h0;have htl:t<ts.length:=by omega
 have hgt:ts[t]? =some ts[t]:=gE htl;have hpp:=hT.2.2 ts[t] (getElem_mem htl);generalize hpe:ts[t]=p at hgt hpp;have hs:zM EL [.int c,.tup (ts.map tbl),.loc lp,.int w]=[some (.int c),some (.tup (ts.map tbl)),some (.loc lp),some (.int w),none,none,none,none]:=rfl;have hlen:kL [.val (.tup (ts.map tbl))] S=.ok (.val (.int ts.length)) S:=by rw[oF,lM]
 have e1:nN [some (.int c),some (.tup (ts.map tbl)),some (.loc lp),some (.int w),none,none,none,none] S=.ok (.next [some (.int c),some (.tup (ts.map tbl)),some (.loc lp),some (.int w),some (.int n),none,none,none]) S:=by unfold nN;simp? [hn]
 have e2:nO [some (.int c),some (.tup (ts.map tbl)),some (.loc lp),some (.int w),some (.int n),none,none,none] S=.ok (.next [some (.int c),some (.tup (ts.map tbl)),some (.loc lp),some (.int w),some (.int n),some (.int t),none,none]) S:=by unfold nO;simp? [hlen,mod_lit hp];rw[ht]
 have hdc:VB 0 (ts.length:Int):=by
  have:=hT.2.1;have h1:=hT.1;have:ts.length=1\/ts.length=2\/ts.length=3\/ts.length=4:=by omega
  rcases this with h|h|h|h<;>rw[h]<;>decide+kernel
 have e3:nP [some (.int c),some (.tup (ts.map tbl)),some (.loc lp),some (.int w),some (.int n),some (.int t),none,none] S=.ok (.next [some (.int c),some (.tup (ts.map tbl)),some (.loc lp),some (.int w),some (.int (n / ts.length)),some (.int t),none,none]) S:=by unfold nP;simp? [hlen,TD hdc]
 have e4:nQ [some (.int c),some (.tup (ts.map tbl)),some (.loc lp),some (.int w),some (.int (n / ts.length)),some (.int t),none,none] S=.ok (.next (R8 (.int c) (.tup (ts.map tbl)) (.loc lp) (.int w) (n / ts.length) t S.length none)) (S++[.lst []]):=by unfold nQ;simp? [aP]
 have hll:((List.range p.1.toNat).map λk=>MV.int (k:Nat)).length=p.1.toNat:=by rw[lM,length_range]
 obtain⟨ρ',S',e,x7,n',cs,hρ,hS',hl,hC⟩:=vT (L:=(List.range p.1.toNat).map λk=>MV.int (k:Nat)) (gf:=wR 7) (body:=bE) (gs:=[]) (S:=S++[.lst []])
  (λi ρ S'=> ∃x7 n' cs,ρ=R8 (.int c) (.tup (ts.map tbl)) (.loc lp) (.int w) n' t S.length x7/\S'=S++[.lst cs]/\cs.length=i/\ ∀d∈cs,d∈vs) (λi d hi ρ S1 ⟨x7,n',cs,hρ,hS1,hl,hC⟩=>by
   subst hρ hS1;have hil:i<5:=by have:=(gS0.mp hi).1;omega
   obtain⟨v,n'',hv',hb⟩:=Aj (c:=.int c) (tb:=.tup (ts.map tbl)) (lp:=lp) (l:=S.length) (w:=w) (n:=n') (t:=t) (x7:=some d) (S:=S++[.lst cs]) (vs:=vs) (cs:=cs) hw hv (by rw[getElem?_append_left hlp];exact hP) (by simp) (by omega);refine⟨R8 (.int c) (.tup (ts.map tbl)) (.loc lp) (.int w) n'' t S.length (some d),S++[.lst (cs++[v])],?_,kM _,some d,n'',cs++[v],rfl,rfl,by rw[lA,hl];rfl,?_⟩
   .rw[show wR 7 d _ (S++[.lst cs])=.ok (R8 (.int c) (.tup (ts.map tbl)) (.loc lp) (.int w) n' t S.length (some d)) (S++[.lst cs])from rfl,aP,hb];rw[show(S++[MO.lst cs]).set S.length (.lst (cs++[v]))=S++[.lst (cs++[v])] by simp]
   .intro q hq;rw[List.mem_append,mS]at hq;rcases hq with hq|rfl
    .exact hC q hq
    .exact hv') ⟨none,_,[],rfl,rfl,rfl,λp hp=>by simp at hp⟩
 subst hρ hS';rw[hll]at hl;have e5:nR (R8 (.int c) (.tup (ts.map tbl)) (.loc lp) (.int w) (n / ts.length) t S.length none) (S++[.lst []])=.ok (.next (R8 (.int c) (.tup (ts.map tbl)) (.loc lp) (.int w) n' t S.length x7)) (S++[.lst cs]):=by unfold nR;simp? [ix_tup (S:=S++[.lst []]) (vZ hgt)];rw[show yR (.val (tbl p)) (.val (.int 0)) (S++[MO.lst []])=.ok (.val (.int p.1)) (S++[.lst []])from rfl];simp? [sD (S:=S++[.lst []]) (show -(2 ^ 62)<=p.1/\p.1<2 ^ 62 by omega)];exact e
 have e6:nT (R8 (.int c) (.tup (ts.map tbl)) (.loc lp) (.int w) n' t S.length x7) (S++[.lst cs])=.ok (.ret (.val (zG (t,cs)))) (S++[.lst cs]):=by unfold nT;simp? [qQ (S:=S++[.lst cs]) (l:=S.length) (ds:=cs) (by simp)];rfl
 have hR:eQ ts (t,cs):=⟨p,hgt,by show(cs.length:Int)=p.1;omega,λd hd=>hV d (hC d hd)⟩
 refine⟨(t,cs),hR,pE (T:=[.lst cs]) rfl ?_ (QQ hR _) (λl=>by unfold zG;simp)⟩;show cE [.int c,.tup (ts.map tbl),.loc lp,.int w] S=_;unfold cE sP;rw[hs,zA e1,zA e2,zA e3,zA e4,zA e5,e6];rfl
abbrev R7(lc:Nat)(tb:MV)(lp:Nat)(w:Int)(lr:Nat)(x5 x6:Uh):Rho:=[some (.loc lc),some tb,some (.loc lp),some (.int w),some (.loc lr),x5,x6]
def WG{ts:Tb}(hT:vY ts){c w:Int}(hw:1<=w/\w<=7){lc lp lr:Nat}{vs:Ug}{S:Sto}{x6:Uh}{rs:Uj}(hv:vs.length=7)(hV: ∀d∈vs,Vl d)(hP:S[lp]? =some (.lst vs))(hS:S[lr]? =some (.lst (rs.map zG)))
  (hR: ∀r∈rs,eQ ts r) (hn:rs.Nodup) (hl:rs.length<1000): ∃(x6':Uh)(rs':Uj),wW (R7 lc (.tup (ts.map tbl)) lp w lr (some (.int c)) x6) S=.ok (.next (R7 lc (.tup (ts.map tbl)) lp w lr (some (.int c)) x6')) (S.set lr (.lst (rs'.map zG)))/\(∀r∈rs',eQ ts r)/\rs'.Nodup/\rs'.length<=rs.length+1:=by
 obtain⟨r,hr,hcall⟩:=Nr hT c w hw hv hV hP;have e1:jW (R7 lc (.tup (ts.map tbl)) lp w lr (some (.int c)) x6) S=.ok (.next (R7 lc (.tup (ts.map tbl)) lp w lr (some (.int c)) (some (zG r)))) S:=by unfold jW;simp? [hcall]
 have hin:VE true _ _ S=.ok _ S:=EU hS (EV hr).1 (λx=>by unfold zG;simp) λy hy=>by obtain⟨q,hq,rfl⟩:=mM.mp hy;have:=EV (hR q hq);exact⟨this.1,by omega⟩
 have hmem:zG r∈rs.map zG↔r∈rs:=⟨λh=>by obtain⟨q,hq,e⟩:=mM.mp h;rw[<-MU e];exact hq,λh=>List.mem_map_of_mem h⟩
 by_cases hm:r∈rs
 .have e2:xK (R7 lc (.tup (ts.map tbl)) lp w lr (some (.int c)) (some (zG r))) S=.ok (.next (R7 lc (.tup (ts.map tbl)) lp w lr (some (.int c)) (some (zG r)))) S:=by unfold xK;simp? [hin,dT0 (hmem.mpr hm)];rfl
  refine⟨some (zG r),rs,?_,hR,hn,le_succ _⟩;unfold wW;rw[zA e1,e2]
  have hset:S.set lr (.lst (rs.map zG))=S:=by
   refine ext_getElem? λj=>?_;by_cases e:lr=j
   .subst e;rw[get_set hS,hS]
   .rw[QP e]
  rw[hset]
 .have e2:xK (R7 lc (.tup (ts.map tbl)) lp w lr (some (.int c)) (some (zG r))) S=.ok (.next (R7 lc (.tup (ts.map tbl)) lp w lr (some (.int c)) (some (zG r)))) (S.set lr (.lst ((rs++[r]).map zG))):=by unfold xK;simp? [hin,dF0 (λz=>hm (hmem.mp z)),dB hS,fI hS (by rw[lM];omega)];rw[List.map_append];rfl
  refine⟨some (zG r),rs++[r],?_,?_,?_,?_⟩
  .unfold wW;rw[zA e1,e2]
  .intro q hq;rw[List.mem_append,mS]at hq;rcases hq with hq|rfl
   .exact hR q hq
   .exact hr
  .exact nodup_append.mpr ⟨hn,by simp,λa ha c hc=>by rw[mS.mp hc];rintro rfl;exact hm ha⟩
  .rw[lA];exact Nat.le_refl _
def Gz{ts:Tb}(hT:vY ts)(is:Tc)(hil:is.length<=60){w:Int}(hw:1<=w/\w<=7){lp:Nat}{vs:Ug}{S:Sto}(hv:vs.length=7)(hV: ∀d∈vs,Vl d)(hP:S[lp]? =some (.lst vs)):
  ∃rs:List (Nat×List MV),(∀r∈rs,eQ ts r)/\rs.Nodup/\rs.length<=is.length/\zQ 4 gN [.new (is.map MV.int),.val (.tup (ts.map tbl)),.val (.loc lp),.val (.int w)] S=.ok (.val (.tup (rs.map zG))) S:=by
 have hlp:lp<S.length:=(gS0.mp hP).1;have hs:zM AO [.loc S.length,.tup (ts.map tbl),.loc lp,.int w]=[some (.loc S.length),some (.tup (ts.map tbl)),some (.loc lp),some (.int w),none,none,none]:=rfl;have e1:cY [some (.loc S.length),some (.tup (ts.map tbl)),some (.loc lp),some (.int w),none,none,none] (S++[.lst (is.map MV.int)])=.ok (.next (R7 S.length (.tup (ts.map tbl)) lp w (S.length+1) none none)) (S++[.lst (is.map MV.int)]++[.lst []]):=by unfold cY;simp? [aP];rw[lA];rfl
 obtain⟨ρ',S',e,x5,x6,rs,hρ,hS',hR,hN,hl⟩:=vT (L:=is.map MV.int) (gf:=wR 5) (body:=wW) (gs:=[(S.length,is.map MV.int)]) (S:=S++[.lst (is.map MV.int)]++[.lst []])
  (λi ρ S'=> ∃(x5 x6:Uh)(rs:Uj),ρ=R7 S.length (.tup (ts.map tbl)) lp w (S.length+1) x5 x6/\S'=S++[.lst (is.map MV.int)]++[.lst (rs.map zG)]/\(∀r∈rs,eQ ts r)/\rs.Nodup/\rs.length<=i) (λi d hi ρ S1 ⟨x5,x6,rs,hρ,hS1,hR,hN,hl⟩=>by
   subst hρ hS1;obtain⟨c,_,rfl⟩:=mM.mp (mem_of_getElem? hi);have hil':i<is.length:=by have:=(gS0.mp hi).1;rw[lM]at this;exact this
   obtain⟨x6',rs',hb,hR',hN',hl'⟩:=WG hT (c:=c) hw (lc:=S.length) (lp:=lp) (lr:=S.length+1) (S:=S++[.lst (is.map MV.int)]++[.lst (rs.map zG)]) (x6:=x6) (rs:=rs) hv hV (by rw[aA,getElem?_append_left hlp];exact hP) (by simp) hR hN (by omega);refine⟨R7 S.length (.tup (ts.map tbl)) lp w (S.length+1) (some (.int c)) x6',S++[.lst (is.map MV.int)]++[.lst (rs'.map zG)],?_,aR (by simp),some (.int c),x6',rs',rfl,rfl,hR',hN',by omega⟩;rw[show wR 5 (.int c) (R7 S.length (.tup (ts.map tbl)) lp w (S.length+1) x5 x6) (S++[.lst (is.map MV.int)]++[.lst (rs.map zG)])=.ok (R7 S.length (.tup (ts.map tbl)) lp w (S.length+1) (some (.int c)) x6) (S++[.lst (is.map MV.int)]++[.lst (rs.map zG)])from rfl,aP,hb];have hset:List.set (S++[MO.lst (is.map MV.int)]++[MO.lst (rs.map zG)]) (S.length+1) (MO.lst (rs'.map zG))=S++[MO.lst (is.map MV.int)]++[MO.lst (rs'.map zG)]:=by simp
   rw[hset])
  ⟨none,none,[],rfl,rfl,λr hr=>by simp at hr,by simp,zero_le _⟩
 subst hρ hS';rw[lM]at hl;have e2:cZ (R7 S.length (.tup (ts.map tbl)) lp w (S.length+1) none none) (S++[.lst (is.map MV.int)]++[.lst []])=.ok (.next (R7 S.length (.tup (ts.map tbl)) lp w (S.length+1) x5 x6)) (S++[.lst (is.map MV.int)]++[.lst (rs.map zG)]):=by unfold cZ;simp? [tW (S:=S++[.lst (is.map MV.int)]++[.lst []]) (l:=S.length) (ds:=is.map MV.int) (by simp)];exact e
 have e3:dA (R7 S.length (.tup (ts.map tbl)) lp w (S.length+1) x5 x6) (S++[.lst (is.map MV.int)]++[.lst (rs.map zG)])=.ok (.ret (.val (.tup (rs.map zG)))) (S++[.lst (is.map MV.int)]++[.lst (rs.map zG)]):=by unfold dA;simp? [qQ (S:=S++[.lst (is.map MV.int)]++[.lst (rs.map zG)]) (l:=S.length+1) (ds:=rs.map zG) (by simp)]
 refine⟨rs,hR,hN,hl,pE (T:=[.lst (is.map MV.int),.lst (rs.map zG)]) rfl ?_ (xD (yE λd hd=>?_)) (λl=>by simp)⟩
 .show gN [.loc S.length,.tup (ts.map tbl),.loc lp,.int w] (S++[.lst (is.map MV.int)])=_;unfold gN pM;rw[hs,zA e1,zA e2,e3];rw[aA];rfl
 .obtain⟨r,hr,rfl⟩:=mM.mp hd;exact QQ (hR r hr) _
def Iq(ts:Tb)(t:Nat):Int:=((ts[t]?).map (·.1)).getD 0
theorem EW{ts:Tb}{t:Nat}{p:Int×Int}(h:ts[t]? =some p):Iq ts t=p.1:=by unfold Iq;rw[h];rfl
def Nt{ts:Tb}(hT:vY ts){t:Nat}(h:t<ts.length):1<=Iq ts t/\Iq ts t<=4:=by have:=hT.2.2 ts[t] (getElem_mem h);rw[EW (gE h)];exact⟨this.1,this.2.1⟩
def zF(t:Nat):MV:=.int (t:Nat)
def Ha{ts:Tb}{t:Nat}(ht:t<ts.length)(S:Sto): ∃e,yR (.val (.tup (ts.map tbl))) (.val (.int (t:Nat))) S=.ok (.val e) S/\yR (.val e) (.val (.int 0)) S=.ok (.val (.int (Iq ts t))) S:=by have hgt:=gE ht;exact⟨tbl ts[t],ix_tup (vZ hgt),by rw[EW hgt];rfl⟩
theorem le_int(i j:Int)(S:Sto):FU (.val (.int i)) (.val (.int j)) S=.ok (.val (.bl (decide (i<=j)))) S:=rfl
theorem le_str(i j:Db)(S:Sto):FU (.val (.str i)) (.val (.str j)) S=.ok (.val (.bl (!decide (j<i)))) S:=rfl
def bH{n:Nat}{F:List MV->Sto->R Er}{rs:List Er}{S:Sto}{b:Bool}(hn:rs.length=n)(hF:F (zU rs S).1 (zU rs S).2=.ok (.val (.bl b)) S):zQ n F rs S=.ok (.val (.bl b)) S:=xV hn hF (Ih _ _) (λl=>by simp)
def fK(i:Int)(S:Sto):zQ 1 xE [.val (.int i)] S=.ok (.val (.bl true)) S:=bH rfl (by show zX _=_;rfl)
def AR(i:Db)(S:Sto):zQ 1 xE [.val (.str i)] S=.ok (.val (.bl false)) S:=bH rfl (by show zX _=_;rfl)
def WH{c:Nat}(h:97<=c/\c<=122):(!decide ([c]<[97]))=true/\(!decide ([122]<[c]))=true:=by
 have h1: ¬([c]<[97]):=by
  intro z;rw[List.cons_lt_cons_iff]at z;rcases z with z|⟨_,z⟩
  .omega
  .exact absurd z (by simp)
 have h2: ¬([122]<[c]):=by
  intro z;rw[List.cons_lt_cons_iff]at z;rcases z with z|⟨_,z⟩
  .omega
  .exact absurd z (by simp)
 exact⟨by rw[dF0 h1];rfl,by rw[dF0 h2];rfl⟩
def MW: ∀{n:Nat}{S:Sto},VH [.new (List.replicate n (.bl true))] S=.ok (.val (.bl true)) S:=by
 intro n S
 have h: ∀n:Nat,tQ (List.replicate n (.bl true))=some (List.replicate n true):=by
  intro n
  induction n with
  |zero=>rfl
  |succ n ih=>rw[replicate_succ];unfold tQ;rw[ih];rfl
 show(match (some _).bind tQ with |some bs=>R.ok _ S|none=>.no)=_;rw[show(some _).bind tQ=some _ from h n];show R.ok _ S=_;rw[show(List.replicate n true).all id=true by simp]
def MX{ds:Ug}:ds.map (λ_=>MV.bl true)=List.replicate ds.length (.bl true):=by
 induction ds with
 |nil=>rfl
 |cons d ds ih=>rw[List.map_cons,lC,replicate_succ,ih]
def Nu{x:Db}(h:Nm x)(S:Sto):zQ 1 qI [.val (.str x)] S=.ok (.val (.bl true)) S:=bH rfl (by
 have hl: ∀S,kL [.val (.str x)] S=.ok _ S:=λS=>iP (fits (by have:=h.2.1;omega));have e1:fA [some (.str x)] S=.ok (.next [some (.str x)]) S:=by unfold fA;simp? [hl,PB,le_int,dT0 (show(1:Int)<=x.length by have:=h.1;omega),dT0 (show(x.length:Int)<=8 by have:=h.2.1;omega)];rfl
 have hc:kI (wR 0) cR jK (GA 1 [] [some (.str x)]) [] _ S=.ok ((x.map λc=>MV.str [c]).map λ_=>.bl true) S:=pF (kM S) λd hd=>by obtain⟨c,hc,rfl⟩:=mM.mp hd;obtain⟨h1,h2⟩:=WH (h.2.2 c hc);refine⟨[some (.str [c])],rfl,rfl,?_⟩;unfold jK;simp? [PB,le_str,h1,h2]
 have e2:fB [some (.str x)] S=.ok (.ret (.val (.bl true))) S:=by unfold fB;simp? [aP];show(((((if(x.map λc=>MV.str [c]).length<1000000 then(kI (wR 0) cR jK _ [] _ S).bind λo S=>R.ok (Er.new o) S else .no).bind λp S1=>R.ok [p] S1).bind VH).bind λr S1=>R.ok (Fl.ret r) S1))=_;rw[iP (by rw[lM];have:=h.2.1;omega),hc,aP,aP,aP,MX,MW];rfl
 show zX (qH [some (.str x)] S)=_;unfold qH;rw[zA e1,e2];rfl)
def Hb{d:MV}(h:Vl d)(S:Sto):zQ 1 lX [.val d] S=.ok (.val (.bl true)) S:=bH rfl (by
 show zX (lW [some d] S)=_;unfold lW;rcases h.cases with⟨i,rfl,h0,h1⟩|⟨x,rfl,hx⟩
 .have habs:Ep [.val (.int i)] S=.ok _ S:=rfl;have hlt:decide ((if i<0 then -i else i)<(10:Int) ^ 30)=true:=dT0 (by split<;>omega);rw[tT (show kR [some _] S=.ok (.ret (.val (.bl true))) S by unfold kR;simp? [fK,habs,show rZ (.val (.int 10)) (.val (.int 30)) S=.ok (.val (.int (10 ^ 30))) S from rfl,lt_int,hlt])];rfl
 .rw[zA (show kR [some _] S=.ok _ S by unfold kR;simp? [AR];rfl)];unfold lV;simp? [Nu hx];rfl)
def Hc(ds:Ug)(a b:Int)(S:Sto):zQ 3 xP [.val (.tup ds),.val (.int a),.val (.int b)] S=.ok (.val (.bl (decide (a<=ds.length)&&decide ((ds.length:Int)<=b)))) S:=bH rfl (by show zX (mP [some _,some _,some _] S)=_;unfold mP mN;simp? [oF,PB,le_int];cases decide (a<=_)<;>rfl)
def Hd(i b:Int)(S:Sto):zQ 2 zW [.val (.int i),.val (.int b)] S=.ok (.val (.bl (decide (0<=i)&&decide (i<b)))) S:=bH rfl (by show zX (wY [some _,some _] S)=_;unfold wY jH;simp? [fK,PB,le_int];cases decide (0<=i)<;>rfl)
theorem oG{i b:Int}(h0:0<=i)(h1:i<b)(S:Sto):zQ 2 zW [.val (.int i),.val (.int b)] S=.ok (.val (.bl true)) S:=by rw[Hd,dT0 h0,dT0 h1];rfl
theorem EX{ds:Ug}{a b:Int}(h0:a<=ds.length)(h1:(ds.length:Int)<=b)(S:Sto):zQ 3 xP [.val (.tup ds),.val (.int a),.val (.int b)] S=.ok (.val (.bl true)) S:=by rw[Hc,dT0 h0,dT0 h1];rfl
def Ak(a b:MV)(S:Sto):zQ 3 xP [.val (.tup [a,b]),.val (.int 2),.val (.int 2)] S=.ok (.val (.bl true)) S:=EX (by simp) (by simp) S
def He{p:Int×Int}(h:1<=p.1/\p.1<=4/\0<=p.2/\p.2<=p.1)(S:Sto):zQ 1 mR [.val (tbl p)] S=.ok (.val (.bl true)) S:=bH rfl (by
 have i0: ∀S,yR (.val (.tup [.int p.1,.int p.2])) (.val (.int 0)) S=.ok _ S:=λS=>rfl;have i1: ∀S,yR (.val (.tup [.int p.1,.int p.2])) (.val (.int 1)) S=.ok _ S:=λS=>rfl;have e1:dZ [some (.tup [.int p.1,.int p.2]),none] S=.ok (.next [some (.tup [.int p.1,.int p.2]),none]) S:=by unfold dZ;simp? [Ak,i0,fK];rfl
 have e2:nA [some (.tup [.int p.1,.int p.2]),none] S=.ok (.next [some (.tup [.int p.1,.int p.2]),some (.int p.1)]) S:=by unfold nA;simp? [i0]
 have e3:nB [some (.tup [.int p.1,.int p.2]),some (.int p.1)] S=.ok (.ret (.val (.bl true))) S:=by unfold nB;simp? [PB,le_int,dT0 h.1,dT0 h.2.1,Ds,i1,oG h.2.2.1 (show p.2<p.1+1 by omega)]
 show zX (mQ [some (.tup [.int p.1,.int p.2]),none] S)=_;unfold mQ;rw[zA e1,zA e2,e3];rfl)
def SqM(S:Sto)(m:MV)(ds:Ug):Prop:=m=.tup ds\/ ∃l,m=.loc l/\S[l]? =some (.lst ds)
def SqM.ix{S:Sto}{m:MV}{ds:Ug}{i:Int}{d:MV}(h:SqM S m ds)(hk:tB ds i=some d):yR (.val m) (.val (.int i)) S=.ok (.val d) S:=by
 rcases h with rfl|⟨l,rfl,hS⟩
 .exact ix_tup hk
 .exact PV hS hk
def SqM.len{S:Sto}{m:MV}{ds:Ug}(h:SqM S m ds):kL [.val m] S=.ok (.val (.int ds.length)) S:=by
 rcases h with rfl|⟨l,rfl,hS⟩
 .rfl
 .exact Fs hS
def SqM.app{S T:Sto}{m:MV}{ds:Ug}(h:SqM S m ds):SqM (S++T) m ds:=by
 rcases h with h|⟨l,h,hS⟩
 .exact .inl h
 .exact .inr ⟨l,h,by rw[getElem?_append_left (gS0.mp hS).1];exact hS⟩
def SqM.lo{S:Sto}{m:MV}{ds:Ug}(h:SqM S m ds)(hd: ∀d∈ds,lo S.length d):lo S.length m:=by
 rcases h with rfl|⟨l,rfl,hS⟩
 .exact xD (yE hd)
 .exact Mg (gS0.mp hS).1
section
variable{ts:Tb}{m:MV}{S:Sto}
def Sb(hm:SqM S m (ts.map tbl)){t:Nat}(ht:t<ts.length): ∃e,yR (.val m) (.val (.int (t:Nat))) S=.ok (.val e) S/\yR (.val e) (.val (.int 0)) S=.ok (.val (.int (Iq ts t))) S:=by have hgt:=gE ht;exact⟨tbl ts[t],hm.ix (vZ hgt),by rw[EW hgt];rfl⟩
def Al(hm:SqM S m (ts.map tbl)):kL [.val m] S=.ok (.val (.int ts.length)) S:=by rw[hm.len,lM]
end
section
variable{ts:Tb}{m:MV}{S:Sto}
def Sd(hm:SqM S m (ts.map tbl)){r:Nat×List MV}(h:eQ ts r)(hT:vY ts):zQ 2 uI [.val (zG r),.val m] S=.ok (.val (.bl true)) S:=bH rfl (by
 obtain⟨t,cs⟩:=r;obtain⟨p,hp,hl,hv⟩:=h;have hp:ts[t]? =some p:=hp;have hl:(cs.length:Int)=p.1:=hl;have ht:t<ts.length:=(gS0.mp hp).1;have hw:=EW hp;have hpw:=hT.2.2 p (mem_of_getElem? hp);obtain⟨e,ix1,ix2⟩:=Sb hm ht;rw[hw]at ix2;generalize hR:zG (t,cs)=Rr;have hRt:Rr=.tup [.int (t:Nat),.tup cs]:=hR.symm;have i0: ∀S,yR (.val Rr) (.val (.int 0)) S=.ok _ S:=λS=>by rw[hRt];rfl
 have i1: ∀S,yR (.val Rr) (.val (.int 1)) S=.ok _ S:=λS=>by rw[hRt];rfl
 have h2:zQ 3 xP [.val Rr,.val (.int 2),.val (.int 2)] S=.ok (.val (.bl true)) S:=by rw[hRt];exact Ak _ _ S
 have e1:mU [some Rr,some m,none] S=.ok (.next [some Rr,some m,none]) S:=by unfold mU;simp? [h2,i0,Al hm,oG (by omega) (show((t:Nat):Int)<ts.length by omega)];rfl
 have e2:mV [some Rr,some m,none] S=.ok (.next [some Rr,some m,some (.int p.1)]) S:=by unfold mV;simp? [i0,ix1,ix2]
 have hc:kI (wR 0) mT nE [none] [] cs S=.ok (cs.map λ_=>.bl true) S:=pF (kM S) λd hd=>by refine⟨[some d],rfl,rfl,?_⟩;unfold nE;simp? [Hb (hv d hd)]
 have e3:mW [some Rr,some m,some (.int p.1)] S=.ok (.ret (.val (.bl true))) S:=by unfold mW;simp? [i1,EX (ds:=cs) (a:=p.1) (b:=p.1) (by omega) (by omega),Ds,show UY (.val (.tup cs)) S=.ok ⟨cs,[]⟩ S from rfl];rw[iP (by omega)];rw[show GA 1 [] [some Rr,some m,some _]=[none]from rfl,hc,MX];simp? [MW]
 show zX (uH [some Rr,some m,none] S)=_;unfold uH;rw[zA e1,zA e2,e3];rfl)
theorem gt_int(i j:Int)(S:Sto):Qs (.val (.int i)) (.val (.int j)) S=.ok (.val (.bl (decide (j<i)))) S:=rfl
def pR{n:Nat}{F:List MV->Sto->R Er}{rs:List Er}{S T:Sto}(hn:rs.length=n)(hF:F (zU rs S).1 (zU rs S).2=.ok (.val .non) (S++T)):zQ n F rs S=.ok (.val .non) S:=pE hn hF (Mf _) (λl=>by simp)
def Hf{a b c:MV}{as bs cs:Ug}(ha:SqM S a as)(hb:SqM S b bs)(hc:SqM S c cs)(h1:as.length<=4)(h2:bs.length<=6)(h3:cs.length<=60):zQ 3 cT [.val a,.val b,.val c] S=.ok (.val .non) S:=pR rfl (by rw[aN];show zX (cS [some a,some b,some c] S)=_;unfold cS dQ;simp? [ha.len,hb.len,hc.len,dF0 (show¬(4:Int)<as.length by omega),dF0 (show¬(6:Int)<bs.length by omega),dF0 (show¬(60:Int)<cs.length by omega)];rfl)
def SqM.src{m:MV}{ds:Ug}(h:SqM S m ds): ∃gs,Bw [.val m] S=.ok ⟨BC ds,gs⟩ S/\stay gs S/\ ∀T,stay gs (S++T):=by
 rcases h with rfl|⟨l,rfl,hS⟩
 .exact⟨[],rfl,kM S,λT=>kM _⟩
 .refine⟨[_],?_,aR hS,λT=>aR (by rw[getElem?_append_left (gS0.mp hS).1];exact hS)⟩;show(match srcOf S _ with |some a=>R.ok _ S|none=>.no)=_;rw[show srcOf S _=some ⟨true,ds,[_]⟩ by unfold srcOf;dsimp only;rw[hS]]
def JV{ds:Ug}{i:Nat}{d:MV}(h:(BC ds)[i]? =some d): ∃e,ds[i]? =some e/\d=.tup [.int (i:Nat),e]:=by
 unfold BC at h;rw[getElem?_map,List.getElem?_zipIdx]at h
 cases z:ds[i]? with
 |none=>rw[z]at h;cases h
 |some e=>rw[z]at h;refine⟨e,rfl,?_⟩;simp at h;rw[<-h]
def Am(hm:SqM S m (ts.map tbl))(hT:vY ts):zQ 1 gW [.val m] S=.ok (.val .non) S:=pR rfl (by
 rw[aN];obtain⟨gs,hi,hs,_⟩:=hm.src;have e1:kT [some m,none,none] S=.ok (.next [some m,none,none]) S:=by unfold kT;simp? [Al hm,dF0 (show¬(ts.length:Int)=0 by have:=hT.1;omega)];rfl
 obtain⟨ρ',S',e,_,hS'⟩:=vT (L:=BC (ts.map tbl)) (gf:=OL 2 (yS (wR 1) (yS (wR 2) oP))) (body:=kS) (gs:=gs) (λi ρ S'=>(∃x1 x2,ρ=[some m,x1,x2])/\S'=S) (λi d hd ρ S1 ⟨⟨x1,x2,hρ⟩,hS1⟩=>by subst hρ hS1;obtain⟨f,hf,rfl⟩:=JV hd;obtain⟨p,hp,rfl⟩:=mM.mp (mem_of_getElem? hf);refine⟨[some m,some (.int (i:Nat)),some (tbl p)],S1,?_,hs,⟨_,_,rfl⟩,rfl⟩;rw[show OL 2 _ _ [some m,x1,x2] S1=.ok [some m,some _,some _] S1 from rfl,aP];unfold kS hW;simp? [He (hT.2.2 p hp)];rfl) ⟨⟨none,none,rfl⟩,rfl⟩;subst hS';have e2:kU [some m,none,none] S'=.ok (.next ρ') S':=by unfold kU;simp? [hi];exact e
 show zX (gV [some m,none,none] S')=_;unfold gV;rw[zA e1,e2];rfl)
def Hg(hm:SqM S m (ts.map tbl)){b:MV}(hb:SqM S b []):zQ 2 cV [.val m,.val b] S=.ok (.val .non) S:=pR rfl (by
 rw[aN];obtain⟨gs,hi,hs,_⟩:=hb.src;have e2:jN [some m,some b,none,none] S=.ok (.next [some m,some b,none,none]) S:=by unfold jN;simp? [hi];rfl
 show zX (cU [some m,some b,none,none] S)=_;unfold cU;rw[e2];rfl)
end
mutual
theorem JW: ∀{d:MV},pd d=true-> ∃nk,xH d=some nk/\iL nk<=uR d
 |.int i,_=>⟨_,aS i,by rw[iL];exact zero_le _⟩
 |.str x,_=>⟨_,aT x,by rw[iL];exact zero_le _⟩
 |.tup ds,h=>by obtain⟨ks,h1,h2⟩:=MY (by rw[<-bG];exact h:KM ds=true);exact⟨.tup ks,by rw[aU,h1];rfl,by rw[aH,jA];omega⟩
 |.non,h=>by rw[pd]at h<;>first |cases h|(intros;simp)
 |.bl _,h=>by rw[pd]at h<;>first |cases h|(intros;simp)
 |.scr _,h=>by rw[pd]at h<;>first |cases h|(intros;simp)
 |.loc _,h=>by rw[pd]at h<;>first |cases h|(intros;simp)
 |.typ _,h=>by rw[pd]at h<;>first |cases h|(intros;simp)
theorem MY: ∀{ds:Ug},KM ds=true-> ∃ks,jB ds=some ks/\qZ ks<=sQ ds
 |[],_=>⟨[],qE,by rw[qZ];exact zero_le _⟩
 |d::ds,h=>by rw[yQ,aE]at h;obtain⟨k,h1,h2⟩:=JW h.1;obtain⟨ks,h3,h4⟩:=MY h.2;exact⟨k::ks,by rw[aV,h1,h3];rfl,by rw[rS,yK];omega⟩
end
section
variable{ts:Tb}{m:MV}{S:Sto}
theorem TN{r:Nat×List MV}(h:eQ ts r):keyOk (zG r)=true:=by have hp:=EV h;obtain⟨nk,h1,h2⟩:=JW hp.1;unfold keyOk;rw[h1];show(fQ _&&decide _)=true;rw[dT0 (by omega)];rfl
theorem AA: ∀{kvs:Uk}{k:MV},(∀p∈kvs,p.1≠k)->look kvs k=none
 |[],k,_=>rfl
 |p::kvs,k,h=>by rw[bW,iN (h p mF0)];exact AA λq hq=>h q (mO _ hq)
def eU(rs:Uj):List (MV×MV):=rs.map λr=>(zG r,.bl true)
theorem An{T:Sto}{l:Nat}{rs:Uj}(hS:T[l]? =some (.dic (eU rs))):pG T (.val (.loc l))=some (l,eU rs):=by unfold pG;dsimp only;rw[hS];dsimp only;rw[iP];rw[List.all_eq_true];intro p hp;obtain⟨r,_,rfl⟩:=mM.mp hp;rfl
def WI{b:MV}{T:Sto}{l:Nat}{x2:Uh}{rs:Uj}{r:Nat×List MV}(hS:T[l]? =some (.dic (eU rs)))(hr:eQ ts r)(hn:r∉rs)(hl:rs.length<1000):
  gX [some m,some b,x2,some (zG r),some (.loc l)] T=.ok (.next [some m,some b,x2,some (zG r),some (.loc l)]) (T.set l (.dic (eU (rs++[r])))):=by
 have hlk:look (eU rs) _=none:=AA λp hp=>by obtain⟨q,hq,rfl⟩:=mM.mp hp;intro e;have e:=e;rw[MU e]at hq;exact hn hq
 have hin:VN false (.val (zG r)) (.val (.loc l)) T=.ok (.val (.bl false)) T:=by unfold VN;rw[An hS];dsimp only;rw[iP (TN hr),hlk];rfl
 have hset: ∀ρ,LX _ (.val _) _ ρ T=.ok ρ (T.set l (.dic (eU (rs++[r])))):=λρ=>by unfold LX;rw[An hS];dsimp only;rw[iP ⟨TN hr,by unfold eU;rw[lM];omega⟩];unfold putK;rw[hlk];unfold eU;rw[iN (by simp),List.map_append];rfl
 have e1:cA [some m,some b,x2,some (zG r),some (.loc l)] T=.ok (.next [some m,some b,x2,some (zG r),some (.loc l)]) T:=by unfold cA;simp? [hin];rfl
 have e2:cB [some m,some b,x2,some (zG r),some (.loc l)] T=.ok (.next [some m,some b,x2,some (zG r),some (.loc l)]) (T.set l (.dic (eU (rs++[r])))):=by unfold cB;simp? [TF,hset]
 unfold gX;rw[zA e1,e2]
theorem Nv(hm:SqM S m (ts.map tbl))(hT:vY ts){b:MV}{rs:Uj}(hb:SqM S b (rs.map zG))(h: ∀r∈rs,eQ ts r)(hn:rs.Nodup)(hl:rs.length<=60):zQ 2 nF [.val m,.val b] S=.ok (.val .non) S:=by
 obtain⟨gs,hi,hs,_⟩:=hb.src;obtain⟨ρ',S',e,⟨y2,y3,hρ'⟩,hS'⟩:=vT (L:=BC (rs.map zG)) (gf:=OL 2 (yS (wR 2) (yS (wR 3) oP))) (body:=aY) (gs:=gs) (S:=S) (λi ρ S'=>(∃x1 x2,ρ=[some m,some b,x1,x2,none])/\S'=S) (λi d hd ρ S1 ⟨⟨x1,x2,hρ⟩,hS1⟩=>by subst hρ hS1;obtain⟨f,hf,rfl⟩:=JV hd;obtain⟨p,hp,rfl⟩:=mM.mp (mem_of_getElem? hf);refine⟨[some m,some b,some (.int (i:Nat)),some (zG p),none],S1,?_,hs,⟨_,_,rfl⟩,rfl⟩;rw[show OL 2 _ (.tup [.int (i:Nat),zG p]) [some m,some b,x1,x2,none] S1=.ok [some m,some b,some (.int (i:Nat)),some (zG p),none] S1 from rfl,aP];unfold aY iV;simp? [Sd hm (h p hp) hT];rfl) ⟨⟨none,none,rfl⟩,rfl⟩;rw[hρ',hS']at e;have e1:aZ [some m,some b,none,none,none] S=.ok (.next [some m,some b,y2,y3,none]) S:=by unfold aZ;simp? [hi];exact e
 have e2:eA [some m,some b,y2,y3,none] S=.ok (.next [some m,some b,y2,y3,some (.loc S.length)]) (S++[.dic (eU [])]):=by unfold eA;simp? [show SE S=.ok (.val (.loc S.length)) (S++[.dic []])from rfl];rfl
 obtain⟨gs2,hi2,hs2,_⟩:=(hb.app (T:=[.dic (eU [])])).src
 have stays: ∀kvs,stay gs2 (S++[.dic kvs]):=λkvs=>by
  rcases hb with rfl|⟨l,rfl,hS⟩
  .have:gs2=[]:=by have:=hi2;injection this with h1 _;injection h1 with _ h2;exact h2.symm
   rw[this];exact kM _
  .have hll:l<S.length:=(gS0.mp hS).1;intro p hp;have hx:=hs2 p hp
   have hpl:p.1<S.length:=by
    by_cases hlt:p.1<S.length
    .exact hlt
    .have hlen:=(gS0.mp hx).1;rw[lA,lS]at hlen;rw[show p.1=S.length by omega,getElem?_append_right (Nat.le_refl _),sub_self]at hx;cases hx
   rw[getElem?_append_left hpl]at hx ⊢;exact hx
 obtain⟨ρ'',S'',e',⟨z2,z3,hρ''⟩,hS''⟩:=vT (L:=BC (rs.map zG)) (gf:=OL 2 _) (body:=gX) (gs:=gs2) (S:=S++[.dic (eU [])]) (λi ρ S'=>(∃x1 x2,ρ=[some m,some b,x1,x2,some (.loc S.length)])/\S'=S++[.dic (eU (rs.take i))]) (λi d hd ρ S1 ⟨⟨x1,x2,hρ⟩,hS1⟩=>by
  subst hρ hS1;obtain⟨f,hf,rfl⟩:=JV hd;rw[getElem?_map]at hf
  cases zr:rs[i]? with
  |none=>rw[zr]at hf;cases hf
  |some r=>
   rw[zr]at hf;obtain rfl:zG r=f:=Option.some.inj hf;have hil:i<rs.length:=(gS0.mp zr).1;have hri:rs[i]=r:=(gS0.mp zr).2;have hnot:r∉rs.take i:=by intro hmem;obtain⟨j,hj,ej⟩:=List.mem_iff_getElem.mp hmem;rw[lT]at hj;rw[List.getElem_take]at ej;have:=(getElem_inj hn).mp (ej.trans hri.symm);omega
   have htk:rs.take i++[r]=rs.take (i+1):=by rw[List.take_succ_eq_append_getElem hil,hri]
   have hb2:=WI (ts:=ts) (m:=m) (b:=b) (T:=S++[.dic (eU (rs.take i))]) (l:=S.length) (x2:=some (.int (i:Nat))) (rs:=rs.take i) (r:=r) (by simp) (h r (mem_of_getElem? zr)) hnot (by rw[lT];omega);refine⟨[some m,some b,some (.int (i:Nat)),some (zG r),some (.loc S.length)],S++[.dic (eU (rs.take (i+1)))],?_,stays _,⟨_,_,rfl⟩,rfl⟩;rw[show OL 2 (yS (wR 2) (yS (wR 3) oP)) (.tup [.int (i:Nat),zG r]) [some m,some b,x1,x2,some (.loc S.length)] (S++[.dic (eU (rs.take i))])=.ok [some m,some b,some (.int (i:Nat)),some (zG r),some (.loc S.length)] (S++[.dic (eU (rs.take i))])from rfl,aP,hb2,htk];have hfin:List.set (S++[MO.dic (eU (rs.take i))]) S.length (MO.dic (eU (rs.take (i+1))))=S++[MO.dic (eU (rs.take (i+1)))]:=by simp
   rw[hfin]) ⟨⟨y2,y3,rfl⟩,by rw[List.take_zero]⟩
 have e3:eB [some m,some b,y2,y3,some (.loc S.length)] (S++[.dic (eU [])])=.ok (.next ρ'') S'':=by unfold eB;simp? [hi2];exact e'
 refine pR (T:=[.dic (eU (rs.take (BC (rs.map zG)).length))]) rfl ?_;show zX (mX [some m,some b,none,none,none] S)=_;unfold mX;rw[zA e1,zA e2,e3,hS''];rfl
end
section
variable{ts:Tb}{S:Sto}
def SqM.tuple{m:MV}{ds:Ug}(h:SqM S m ds):jY [.val m] S=.ok (.val (.tup ds)) S:=by
 rcases h with rfl|⟨l,rfl,hS⟩
 .rfl
 .exact qQ hS
def Nx{a b c:MV}{rs:Uj}(ha:SqM S a (ts.map tbl))(hb:SqM S b [])(hc:SqM S c (rs.map zG))(hT:vY ts)(hr: ∀r∈rs,eQ ts r)(hn:rs.Nodup)(hl:rs.length<=60):
  zQ 3 iW [.val a,.val b,.val c] S=.ok (.val (.tup [.tup (ts.map tbl),.tup [],.tup (rs.map zG)])) S:=by
 refine xV rfl ?_ (xD (yE λd hd=>?_)) (λl=>by simp)
 .have e1:fD [some a,some b,some c] S=.ok (.next [some a,some b,some c]) S:=by unfold fD;simp? [Hf ha hb hc (by rw[lM];exact hT.2.1) (zero_le _) (by rw[lM];exact hl)]
  have e2:fE [some a,some b,some c] S=.ok (.next [some a,some b,some c]) S:=by unfold fE;simp? [Am ha hT]
  have e3:fF [some a,some b,some c] S=.ok (.next [some a,some b,some c]) S:=by unfold fF;simp? [Hg ha hb]
  have e4:fG [some a,some b,some c] S=.ok (.next [some a,some b,some c]) S:=by unfold fG;simp? [Nv ha hT hc hr hn hl]
  have e5:fH [some a,some b,some c] S=.ok (.ret (.val (.tup [.tup (ts.map tbl),.tup [],.tup (rs.map zG)]))) S:=by unfold fH;simp? [ha.tuple,hb.tuple,hc.tuple]
  show zX (qK [some a,some b,some c] S)=_;unfold qK;rw[zA e1,zA e2,zA e3,zA e4,e5];rfl
 .simp only[mC,nM,or_false]at hd;rcases hd with rfl|rfl|rfl
  .exact xD (yE λe he=>by obtain⟨p,_,rfl⟩:=mM.mp he;exact xD (yE λe he=>by simp at he;rcases he with rfl|rfl<;>exact wA _ _))
  .exact xD (yE λe he=>by cases he)
  .exact xD (yE λe he=>by obtain⟨r,hr',rfl⟩:=mM.mp he;exact QQ (hr r hr') _)
end
mutual
def sm:MV->Bool
 |.tup ds=>decide (ds.length<1000)&&smL ds
 |_=>true
def smL:List MV->Bool
 |[]=>true
 |d::ds=>sm d&&smL ds
end
theorem CO(ns:Tc)(k:Int)(hk:0<=k)(S:Sto): ∃c,zQ 2 zY [.val (.scr (ns.map MV.int)),.val (.int k)] S=.ok (.val (.int c)) S:=by
 have hlen:kL [.val (.scr (ns.map MV.int))] S=.ok (.val (.int ns.length)) S:=by show R.ok _ S=_;rw[lM]
 have e1:kY [some (.scr (ns.map MV.int)),some (.int k)] S=if decide (k<ns.length)=true then(yR (.val (.scr (ns.map MV.int))) (.val (.int k)) S).bind λr S1=>.ok (.ret r) S1 else .ok (.next [some (.scr (ns.map MV.int)),some (.int k)]) S:=by unfold kY;simp? [hlen,lt_int]
 have fin: ∀c,zY [.scr (ns.map MV.int),.int k] S=.ok _ S-> ∃c,zQ 2 zY [.val _,.val _] S=.ok (.val _) S:=λc h=>⟨c,xV rfl h (wA _ _) (λl=>by simp)⟩
 have hs:zM ["_law_script","_law_k"] [.scr (ns.map MV.int),.int k]=[some _,some _]:=rfl;by_cases hlt:k<ns.length
 .obtain⟨d,hd⟩:=tU (xs:=ns.map MV.int) hk (by rw[lM];exact hlt);obtain⟨c,rfl⟩: ∃c,d=.int c:=tV (P:=λd=> ∃c,d=.int c) (λe he=>by obtain⟨c,_,rfl⟩:=mM.mp he;exact⟨c,rfl⟩) hd;have hix:yR (.val (.scr (ns.map MV.int))) (.val (.int k)) S=.ok (.val (.int c)) S:=by show(match tB _ k with |some d=>R.ok (Er.val d) S|none=>.no)=_;rw[hd]
  refine fin c ?_;rw[dT0 hlt,iP rfl,hix,aP]at e1;unfold zY bA;rw[hs,tT e1];rfl
 .refine fin 0 ?_;rw[dF0 hlt,iN xF0]at e1;unfold zY bA;rw[hs,zA e1];rfl
def Ao(p:Int×Int):pd (tbl p)=true/\uR (tbl p)<=1/\sm (tbl p)=true:=by unfold tbl;simp[pd,KM,uR,sQ,sm,smL]
def WJ(ts:Tb)(t:Nat):Nat:=(((ts[t]?).map λp:Int×Int=>p.2).getD 0).toNat
def keyR(ts:Tb)(r:Nat×List MV):MV:=.tup [.int r.1,.tup (r.2.take (WJ ts r.1))]
section
variable{ts:Tb}
def Ap{r:Nat×List MV}(h:eQ ts r):pd (keyR ts r)=true/\uR (keyR ts r)<=2:=by
 obtain⟨p,_,_,hv⟩:=h;have hv': ∀d∈r.2.take (WJ ts r.1),Vl d:=λd hd=>hv d (mem_of_mem_take hd);have h1:KM _=true:=qR λd hd=>(TL (hv' d hd)).1;have h2:sQ _<=0:=qS λd hd=>by rw[(TL (hv' d hd)).2];exact Nat.le_refl _
 unfold keyR;refine⟨by rw[bG,yQ,yQ,bG,h1];rfl,?_⟩;rw[jA,yK,yK,lG,nW,jA];omega
def Ny{r:Nat×List MV}(h:eQ ts r)(n:Nat):lo n (keyR ts r):=by
 obtain⟨p,_,_,hv⟩:=h;refine xD (yE λd hd=>?_);simp only[mC,nM,or_false]at hd;rcases hd with rfl|rfl
 .exact wA _ _
 .exact xD (yE λe he=>(hv e (mem_of_mem_take he)).lo n)
theorem TQ{r:Nat×List MV}(h:eQ ts r):keyOk (keyR ts r)=true:=by obtain⟨h1,h2⟩:=Ap h;obtain⟨nk,h3,h4⟩:=JW h1;unfold keyOk;rw[h3];show(true&&decide _)=true;rw[dT0 (by omega)];rfl
theorem Ir{r:Nat×List MV}(hT:vY ts)(h:eQ ts r)(S:Sto):zQ 2 uF [.val (.tup (ts.map tbl)),.val (zG r)] S=.ok (.val (keyR ts r)) S:=by
 have hk:=Ny h S.length;obtain⟨p,hp,hl,hv⟩:=h;have h0:=(hT.2.2 p (mem_of_getElem? hp)).2.2.1;have kn:WJ ts r.1=p.2.toNat:=by unfold WJ;rw[hp];rfl
 refine xV rfl ?_ hk (λl=>by unfold keyR;simp);show zX (uE [some _,some (.tup [.int r.1,.tup r.2])] S)=_;have i0: ∀S,yR (.val (.tup [.int r.1,.tup r.2])) (.val (.int 0)) S=.ok _ S:=λS=>rfl;have i1: ∀S,yR (.val (.tup [.int r.1,.tup r.2])) (.val (.int 1)) S=.ok _ S:=λS=>rfl;have t1: ∀S,yR (.val (tbl p)) (.val (.int 1)) S=.ok _ S:=λS=>rfl;have ct: ∀S,BA (.val (.tup r.2)) none (some p.2) S=.ok _ S:=λS=>rfl;unfold uE sG;simp? [i0,i1,ix_tup (vZ hp),t1,ct,JF _ _ h0];unfold keyR;rw[kn];rfl
def TR{a b c:MV}{rl:Ug}(hb:b=.tup rl)(S:Sto):zQ 1 bX [.val (.tup [a,b,c])] S=.ok (.val (.bl (decide (rl.length=0)))) S:=bH rfl (by subst hb;show zX (lZ [some _] S)=_;have i1: ∀S,yR (.val (.tup [a,.tup rl,c])) (.val (.int 1)) S=.ok _ S:=λS=>rfl;unfold lZ lY;simp? [i1,oF];rw[dec_is (show(_:Int)=0↔rl.length=0 by omega)];rfl)
end
inductive LsAt(S:Sto):List MV->List (List Nat)->Prop
 |nil:LsAt S [] []
 |cons {l:Nat} {ps:Db} {ls:Ug} {pss:Ch}:S[l]? =some (.lst (ps.map zF))->LsAt S ls pss->LsAt S (.loc l::ls) (ps::pss)
def LsAt.other{S:Sto}{l:Nat}{o:MO}: ∀{ls:Ug}{pss:Ch},LsAt S ls pss->MV.loc l∉ls->LsAt (S.set l o) ls pss
 |_,_,.nil,_=>.nil
 |_,_,.cons h t,hn=>.cons (by rw[getElem?_set_ne (λz=>hn (by rw[z];exact mF0))];exact h) (t.other λz=>hn (mO _ z))
def LsAt.app{S T:Sto}: ∀{ls:Ug}{pss:Ch},LsAt S ls pss->LsAt (S++T) ls pss
 |_,_,.nil=>.nil
 |_,_,.cons h t=>.cons (by rw[getElem?_append_left (gS0.mp h).1];exact h) t.app
def LsAt.in{S:Sto}{d:MV}: ∀{ls:Ug}{pss:Ch},LsAt S ls pss->d∈ls-> ∃l ps,d=.loc l/\S[l]? =some (.lst (List.map zF ps))
 |_,_,.cons (l:=l0) (ps:=ps) h t,hd=>by
  rcases mC.mp hd with rfl|hd
  .exact⟨l0,ps,rfl,h⟩
  .exact t.in hd
def LsAt.lt{S:Sto}{ls:Ug}{pss:Ch}(h:LsAt S ls pss){n:Nat}(hn:S.length<=n):MV.loc n∉ls:=λz=>by obtain⟨l,ps,e,hl⟩:=h.in z;cases e;have:=(gS0.mp hl).1;omega
def LsAt.snoc{S:Sto}{l:Nat}{ps:Db}(hl:S[l]? =some (.lst (ps.map zF))): ∀{ls:Ug}{pss:Ch},LsAt S ls pss->LsAt S (ls++[.loc l]) (pss++[ps])
 |_,_,.nil=>.cons hl .nil
 |_,_,.cons h t=>.cons h (t.snoc hl)
def dR(k:MV)(i:Nat):List MV->List (List Nat)->List (List Nat)
 |c::ks,ps::pss=>if c=k then(ps++[i])::pss else ps::dR k i ks pss
 |_,_=>[]
theorem QR{S:Sto}{k d:MV}{i:Nat}: ∀{kvs:Uk}{pss:Ch},LsAt S (kvs.map (·.2)) pss->(kvs.map (·.2)).Nodup->look kvs k=some d->
  ∃l ps,d=.loc l/\MV.loc l∈kvs.map (·.2)/\S[l]? =some (.lst (List.map zF ps))/\LsAt (S.set l (.lst ((ps++[i]).map zF))) (kvs.map (·.2)) (dR k i (kvs.map (·.1)) pss)
 |[],_,_,_,h=>by cases h
 |(c,v)::kvs,pss,hl,hn,h=>by
  rw[bW]at h;rw[List.map_cons]at hl hn;rw[nodup_cons]at hn
  cases hl with
  |@cons l0 ps0 _ pss' h0 t=>
   by_cases e:c=k
   .rw[iP e]at h;cases h;refine⟨l0,ps0,rfl,mF0,h0,?_⟩;rw[List.map_cons,List.map_cons];unfold dR;rw[iP e];exact .cons (getElem?_set_self (gS0.mp h0).1) (t.other hn.1)
   .rw[iN e]at h;obtain⟨l,ps,h1,h2,h3,h4⟩:=QR t hn.2 h;refine⟨l,ps,h1,mO _ h2,h3,?_⟩;rw[List.map_cons,List.map_cons];unfold dR;rw[iN e];have ne:l≠l0:=λz=>hn.1 (by rw[<-z];exact h2);exact .cons (by rw[getElem?_set_ne ne];exact h0) h4
def iE:List MV->Nat->List MV->List (List Nat)->List MV×List (List Nat)
 |[],_,ks,pss=>(ks,pss)
 |k::r,i,ks,pss=>if k∈ks then iE r (i+1) ks (dR k i ks pss)else iE r (i+1) (ks++[k]) (pss++[[i]])
theorem HV{k:MV}: ∀{kvs:Uk},k∈kvs.map (·.1)-> ∃d,look kvs k=some d
 |[],h=>by cases h
 |p::kvs,h=>by
  rw[bW];by_cases e:p.1=k
  .exact⟨p.2,iP e⟩
  .rw[iN e];rcases mC.mp h with z|z
   .exact absurd z.symm e
   .exact HV z
def Aq{k:MV}{kvs:Uk}(h:k∉kvs.map (·.1)):look kvs k=none:=AA λp hp z=>h (by rw[<-z];exact List.mem_map_of_mem hp)
def uS{T:Sto}{l:Nat}{kvs:Uk}(hS:T[l]? =some (.dic kvs))(hk:kvs.all (λp=>fQ p.1)=true):pG T (.val (.loc l))=some (l,kvs):=by unfold pG;dsimp only;rw[hS];dsimp only;rw[iP hk]
section
variable{ts:Tb}
abbrev B4(q:MV)(D:Nat)(i r:Uh):Rho:=[some q,some (.loc D),i,r]
theorem Ar{S:Sto}{D i:Nat}{rl rr:MV}{r:Nat×List MV}{kvs:Uk}{pss:Ch}(hT:vY ts)(hr:eQ ts r)(hD:S[D]? =some (.dic kvs))(hk:kvs.all (λp=>fQ p.1)=true)(hlen:kvs.length<1000)
  (hl:LsAt S (kvs.map (·.2)) pss) (hn:(kvs.map (·.2)).Nodup) (hDn:MV.loc D∉kvs.map (·.2)) (hz: ∀l ps,MV.loc l∈kvs.map (·.2)->S[l]? =some (.lst (List.map zF ps))->ps.length<1000):
  ∃(S':Sto)(kvs':Uk),S'[D]? =some (.dic kvs')/\kvs'.all (λp=>fQ p.1)=true/\kvs'.length<=kvs.length+1/\(kvs'.map (·.2)).Nodup/\MV.loc D∉kvs'.map (·.2)/\S.length<=S'.length/\(∀m o,S[m]? =some o->m≠D->MV.loc m∉kvs.map (·.2)->S'[m]? =some o)/\
   (∀m,MV.loc m∈kvs'.map (·.2)->MV.loc m∈kvs.map (·.2)\/S.length<=m)/\
   (if keyR ts r∈kvs.map (·.1)then kvs'.map (·.1)=kvs.map (·.1)/\LsAt S' (kvs'.map (·.2)) (dR (keyR ts r) i (kvs.map (·.1)) pss)else kvs'.map (·.1)=kvs.map (·.1)++[keyR ts r]/\LsAt S' (kvs'.map (·.2)) (pss++[[i]]))/\
   bY (B4 (.tup [.tup (ts.map tbl),rl,rr]) D (some (.int (i:Nat))) (some (zG r))) S=.ok (.next (B4 (.tup [.tup (ts.map tbl),rl,rr]) D (some (.int (i:Nat))) (some (zG r)))) S':=by
 have i0: ∀S,yR (.val (.tup [.tup (ts.map tbl),rl,rr])) (.val (.int 0)) S=.ok (.val (.tup (ts.map tbl))) S:=λS=>rfl;have hD':(S++[MO.lst []])[D]? =some (.dic kvs):=by rw[getElem?_append_left (gS0.mp hD).1];exact hD
 have dlt:D<S.length:=(gS0.mp hD).1;have isd:SK (.val (.loc D)) S=true:=by unfold SK;rw[uS hD hk];rfl
 have e1:jG (.new []) S=.ok (.loc S.length) (S++[.lst []]):=rfl;by_cases hm:keyR ts r∈kvs.map (·.1)
 .obtain⟨d,hd⟩:=HV hm;obtain⟨l,ps,rfl,hin,hS,hls⟩:=QR (i:=i) hl hn hd;have hS':(S++[MO.lst []])[l]? =some (.lst (ps.map zF)):=by rw[getElem?_append_left (gS0.mp hS).1];exact hS
  have hp:=hz l ps hin hS;have llt:l<S.length:=(gS0.mp hS).1;have lD:l≠D:=λz=>hDn (by rw[<-z];exact hin);have sd:Rh (.val (.loc D)) [.val (keyR ts r),.new []] S=.ok (.val (.loc l)) (S++[.lst []]):=by show(jG (.new []) S).bind (λy S1=>Ii (.val (.loc D)) (keyR ts r) y S1)=_;rw[e1,aP];unfold Ii;rw[uS hD' hk];dsimp only;rw[iP ⟨TQ hr,by omega⟩,hd]
  have se:(S++[MO.lst []]).set l (.lst ((ps++[i]).map zF))=S.set l (.lst ((ps++[i]).map zF))++[.lst []]:=List.set_append_left _ _ llt;refine⟨S.set l (.lst ((ps++[i]).map zF))++[.lst []],kvs,?_,hk,le_succ _,hn,hDn,by rw[lA,List.length_set];exact Nat.le_add_right _ _,λm o ho hmD hmn=>?_,λm hm=>.inl hm,?_,?_⟩
  .rw[getElem?_append_left (by rw[List.length_set];exact dlt),getElem?_set_ne lD];exact hD
  .have mlt:=(gS0.mp ho).1;rw[getElem?_append_left (by rw[List.length_set];exact mlt),getElem?_set_ne (λz=>hmn (by rw[<-z];exact hin))];exact ho
  .rw[iP hm];exact⟨rfl,hls.app⟩
  .unfold bY dY;simp? [isd,i0,Ir hT hr,sd,dB hS',fI hS' (by rw[lM];omega)];rw[<-se,List.map_append];rfl
 .have hd:=Aq hm;have hS':((S++[MO.lst []]).set D (.dic (putK kvs (keyR ts r) (.loc S.length))))[S.length]? =some (.lst []):=by rw[getElem?_set_ne (Nat.ne_of_lt dlt)];simp
  have pk:putK kvs (keyR ts r) (.loc S.length)=kvs++[(keyR ts r,.loc S.length)]:=by unfold putK;rw[hd];rfl
  have sd:Rh (.val (.loc D)) [.val (keyR ts r),.new []] S=.ok (.val (.loc S.length)) ((S++[MO.lst []]).set D (.dic (putK kvs (keyR ts r) (.loc S.length)))):=by show(jG (.new []) S).bind (λy S1=>Ii (.val (.loc D)) (keyR ts r) y S1)=_;rw[e1,aP];unfold Ii;rw[uS hD' hk];dsimp only;rw[iP ⟨TQ hr,by omega⟩,hd]
  rw[pk]at sd hS';have nin:MV.loc S.length∉kvs.map (·.2):=hl.lt (Nat.le_refl _);refine⟨((S++[MO.lst []]).set D (MO.dic (kvs++[(keyR ts r,MV.loc S.length)]))).set S.length (MO.lst [zF i]),kvs++[(keyR ts r,MV.loc S.length)],?_,?_,by rw[lA];exact Nat.le_refl _,?_,?_,by rw[List.length_set,List.length_set,lA];exact Nat.le_add_right _ _,λm o ho hmD hmn=>?_,λm hm=>?_,?_,?_⟩
  .rw[getElem?_set_ne (Nat.ne_of_gt dlt),getElem?_set_self (by rw[lA];omega)]
  .rw[List.all_append,hk];rfl
  .rw[List.map_append];exact nodup_append.mpr ⟨hn,by simp,λx hx y hy=>by rw[mS.mp hy];rintro rfl;exact nin hx⟩
  .rw[List.map_append,List.mem_append];rintro(z|z)
   .exact hDn z
   .have:=mS.mp z;cases this;exact absurd dlt (lt_irrefl _)
  .have mlt:=(gS0.mp ho).1;rw[getElem?_set_ne (Nat.ne_of_gt mlt),getElem?_set_ne (λz=>hmD z.symm),getElem?_append_left mlt];exact ho
  .rw[List.map_append,List.mem_append]at hm;rcases hm with z|z
   .exact .inl z
   .have:=mS.mp z;cases this;exact .inr (Nat.le_refl _)
  .rw[iN hm,List.map_append,List.map_append];refine⟨rfl,?_⟩;have hself:(((S++[MO.lst []]).set D (.dic (kvs++[(keyR ts r,.loc S.length)]))).set S.length (.lst [zF i]))[S.length]? =some (.lst ([i].map zF)):=by rw[getElem?_set_self (by rw[List.length_set,lA];exact Nat.lt_succ_self _)];rfl
   exact LsAt.snoc hself ((hl.app.other hDn).other nin)
  .unfold bY dY;simp? [isd,i0,Ir hT hr,sd,dB hS',fI hS' (by decide)];rfl
end
def LsAt.mem{S:Sto}{l:Nat}{ps:Db}: ∀{ls:Ug}{pss:Ch},LsAt S ls pss->MV.loc l∈ls->S[l]? =some (.lst (ps.map zF))-> ∃qs∈pss,qs.length=ps.length
 |_,_,.cons (ps:=p0) h t,hd,hl=>by
  rcases mC.mp hd with e|hd
  .cases e;rw[h]at hl;have e:=MO.lst.inj (Option.some.inj hl);have e:=congrArg List.length e;rw[lM,lM]at e;exact⟨p0,mF0,e⟩
  .obtain⟨qs,h1,h2⟩:=t.mem hd hl;exact⟨qs,mO _ h1,h2⟩
theorem uT{k:MV}{i n:Nat}: ∀{ks:Ug}{pss:Ch},(∀ps∈pss,ps.length<=n)-> ∀ps∈dR k i ks pss,ps.length<=n+1
 |[],pss,h,ps,hp=>by unfold dR at hp;cases hp
 |c::ks,[],h,ps,hp=>by unfold dR at hp;cases hp
 |c::ks,q::pss,h,ps,hp=>by
  unfold dR at hp;have hq:=h q mF0;split at hp
  .rcases mC.mp hp with rfl|hp
   .rw[lA];exact succ_le_succ hq
   .exact le_succ_of_le (h ps (mO _ hp))
  .rcases mC.mp hp with rfl|hp
   .exact le_succ_of_le hq
   .exact uT (λz hz=>h z (mO _ hz)) ps hp
structure BI(S0 S:Sto)(D:Nat)(kvs:Uk)(ks:Ug)(pss:Ch):Prop where
 at':S[D]? =some (.dic kvs)
 tup:kvs.all (λp=>fQ p.1)=true
 keys:kvs.map (·.1)=ks
 ls:LsAt S (kvs.map (·.2)) pss
 nd:(kvs.map (·.2)).Nodup
 out:MV.loc D∉kvs.map (·.2)
 new: ∀m,MV.loc m∈kvs.map (·.2)->S0.length<=m
 old: ∀(m:Nat)(o:MO),S0[m]? =some o->S[m]? =some o
theorem EY{ts:Tb}{S0:Sto}{rl rr:MV}(hT:vY ts): ∀(rs:Uj),(∀r∈rs,eQ ts r)-> ∀(i:Nat)(S:Sto)(kvs:Uk)(ks:Ug)(pss:Ch)(x y:Uh),BI S0 S S0.length kvs ks pss->kvs.length<=i->i+rs.length<=100->(∀ps∈pss,ps.length<=i)->
  ∃(S':Sto)(kvs':Uk)(x' y':Uh),BI S0 S' S0.length kvs' (iE (rs.map (keyR ts)) i ks pss).1 (iE (rs.map (keyR ts)) i ks pss).2/\
   dD (OL 2 (yS (wR 2) (yS (wR 3) oP))) bY [] (((rs.map zG).zipIdx i).map λp=>.tup [.int (p.2:Nat),p.1]) (B4 (.tup [.tup (ts.map tbl),rl,rr]) S0.length x y) S=.ok (.next (B4 (.tup [.tup (ts.map tbl),rl,rr]) S0.length x' y')) S'
 |[],_,i,S,kvs,ks,pss,x,y,B,_,_,_=>⟨S,kvs,x,y,B,rfl⟩
 |r::rs,hr,i,S,kvs,ks,pss,x,y,B,hk,hi,hp=>by
  rw[lC]at hi;obtain⟨S1,kv1,a1,a2,a3,a4,a5,a6,a7,a8,a9,a10⟩:=Ar (rr:=rr) (i:=i) hT (hr r mF0) B.at' B.tup (by omega) B.ls B.nd B.out (λl ps h1 h2=>by obtain⟨qs,h3,h4⟩:=B.ls.mem h1 h2;have:=hp qs h3;omega);have old1: ∀(m:Nat)(o:MO),S0[m]? =some o->S1[m]? =some o:=λm o h=>by have mlt:=(gS0.mp h).1;exact a7 m o (B.old m o h) (Nat.ne_of_lt mlt) λz=>absurd (B.new m z) (by omega)
  have len0:S0.length<=S.length:=le_of_lt (gS0.mp B.at').1;have new1: ∀m,MV.loc m∈kv1.map (·.2)->S0.length<=m:=λm h=>(a8 m h).elim (B.new m) λz=>by omega
  rw[B.keys]at a9;rw[List.map_cons,List.map_cons,List.zipIdx_cons,List.map_cons];unfold iE;by_cases hm:keyR ts r∈ks
  .rw[iP hm]at a9;obtain⟨S2,kv2,x2,y2,b1,b2⟩:=EY hT rs (λq hq=>hr q (mO _ hq)) (i+1) S1 kv1 ks _ _ _ ⟨a1,a2,a9.1,a9.2,a4,a5,new1,old1⟩ (by omega) (by omega) (uT hp);refine⟨S2,kv2,x2,y2,by rw[iP hm];exact b1,?_⟩;rw[xL rfl a10 (kM _)];exact b2
  .rw[iN hm]at a9
   obtain⟨S2,kv2,x2,y2,b1,b2⟩:=EY hT rs (λq hq=>hr q (mO _ hq)) (i+1) S1 kv1 _ _ _ _ ⟨a1,a2,a9.1,a9.2,a4,a5,new1,old1⟩ (by omega) (by omega) (λps h=>by
    rcases List.mem_append.mp h with z|z
    .exact le_succ_of_le (hp ps z)
    .rw[mS.mp z];exact succ_le_succ (zero_le _))
   refine⟨S2,kv2,x2,y2,by rw[iN hm];exact b1,?_⟩;rw[xL rfl a10 (kM _)];exact b2
theorem As{ts:Tb}{rs:Uj}(hT:vY ts)(hr: ∀r∈rs,eQ ts r)(hl:rs.length<=60)(S:Sto):
  ∃(S':Sto)(ls:Ug),LsAt S' ls (iE (rs.map (keyR ts)) 0 [] []).2/\ls.Nodup/\(∀m,MV.loc m∈ls->S.length<=m)/\(∀(m:Nat)(o:MO),S[m]? =some o->S'[m]? =some o)/\
   f_blocks [.tup [.tup (ts.map tbl),.tup [],.tup (rs.map zG)]] S=.ok (.new ls) S':=by
 have hst:zM MP [.tup [.tup (ts.map tbl),.tup [],.tup (rs.map zG)]]=[some _,none,none,none]:=rfl;have e1:mB [some (.tup [.tup (ts.map tbl),.tup [],.tup (rs.map zG)]),none,none,none] S=.ok (.next [some (.tup [.tup (ts.map tbl),.tup [],.tup (rs.map zG)]),none,none,none]) S:=by unfold mB;simp? [TR rfl,List.length_nil,decide_true,Bool.not_true,fT,iF]
 have e2:mE [some (.tup [.tup (ts.map tbl),.tup [],.tup (rs.map zG)]),none,none,none] S=.ok (.next (B4 (.tup [.tup (ts.map tbl),.tup [],.tup (rs.map zG)]) S.length none none)) (S++[.dic []]):=by unfold mE;simp? [SE]
 obtain⟨S',kvs,x',y',B,hlp⟩:=EY (S0:=S) (rl:=.tup []) hT rs hr 0 (S++[.dic []]) [] [] [] none none ⟨by simp,rfl,rfl,.nil,nodup_nil,by simp,(λm h=>by cases h),λm o h=>by rw[getElem?_append_left (gS0.mp h).1];exact h⟩ (Nat.le_refl _) (by omega) (by simp);have i2: ∀S,yR (.val (.tup [.tup (ts.map tbl),.tup [],.tup (rs.map zG)])) (.val (.int 2)) S=.ok _ S:=λS=>rfl;have e3:mG (B4 (.tup [.tup (ts.map tbl),.tup [],.tup (rs.map zG)]) S.length none none) (S++[.dic []])=.ok (.next (B4 (.tup [.tup (ts.map tbl),.tup [],.tup (rs.map zG)]) S.length x' y')) S':=by unfold mG;simp? [i2,show∀(ds:Ug)(S:Sto),Bw [.val (.tup ds)] S=.ok ⟨BC ds,[]⟩ S from λds S=>rfl];exact hlp
 have lv:Ot (.val (.loc S.length)) S'=.ok (.new (kvs.map (·.2))) S':=by unfold Ot;rw[uS B.at' B.tup]
 have e4:mH (B4 (.tup [.tup (ts.map tbl),.tup [],.tup (rs.map zG)]) S.length x' y') S'=.ok (.ret (.new (kvs.map (·.2)))) S':=by unfold mH;simp? [lv]
 refine⟨S',kvs.map (·.2),B.ls,B.nd,B.new,B.old,?_⟩;unfold f_blocks EN;rw[hst,zA e1,zA e2,zA e3,e4];rfl
mutual
theorem TU: ∀{d:MV},pd d=true->dF d=true
 |.int i,_=>by unfold dF;rfl
 |.str x,_=>by unfold dF;rfl
 |.tup ds,h=>by unfold dF;exact MZ (by rw[bG]at h;exact h)
 |.non,h=>by unfold pd at h;cases h
 |.bl b,h=>by unfold pd at h;cases h
 |.scr ds,h=>by unfold pd at h;cases h
 |.loc l,h=>by unfold pd at h;cases h
 |.typ t,h=>by unfold pd at h;cases h
 |.obj _ _ _,h=>by unfold pd at h;cases h
 |.clo _ _,h=>by unfold pd at h;cases h
theorem MZ: ∀{ds:Ug},KM ds=true->AK ds=true
 |[],_=>by unfold AK;rfl
 |d::ds,h=>by rw[yQ,aE]at h;unfold AK;rw[TU h.1,MZ h.2];rfl
end
theorem NA{S:Sto}{d:MV}(hd:pd d=true): ∀{ds:Ug},(∀y∈ds,pd y=true/\uR y<40)->d∈ds-> ∃j,DW S d ds=some j/\ds[j]? =some d
 |[],_,h=>by cases h
 |y::ys,hy,h=>by
  have h1:=hy y mF0;unfold DW;rw[lH zH h1.1 hd (by unfold zH;exact h1.2)];show∃j,(if decide _=true then some 0 else(DW S d ys).map _)=some j/\_;by_cases e:y=d
  .exact⟨0,by rw[dT0 e,iP rfl],by rw[e];rfl⟩
  .rcases mC.mp h with e'|m
   .exact absurd e'.symm e
   .obtain⟨j,j1,j2⟩:=NA hd (λz hz=>hy z (mO _ hz)) m;exact⟨j+1,by rw[dF0 e,j1];rfl,by simpa using j2⟩
theorem Hh{S:Sto}{l:Nat}{ks:Ug}{d:MV}(hS:S[l]? =some (.lst ks))(hk: ∀y∈ks,pd y=true/\uR y<40)(hd:d∈ks):
  ∃j,HK (.val (.loc l)) [.val d] S=.ok (.val (.int (j:Nat))) S/\ks[j]? =some d:=by
 obtain⟨j,j1,j2⟩:=NA (hk d hd).1 hk hd;refine⟨j,?_,j2⟩;unfold HK;rw[aQ hS];dsimp only;rw[iP (λx hx=>?_),j1];refine⟨TU (hk x hx).1,?_⟩;rw[lH zH (hk x hx).1 (hk d hd).1 (by have:=(hk x hx).2;unfold zH;omega)];rfl
def bI{α:Type}{xs:List α}{j:Nat}{x:α}(h:xs[j]? =some x):tB xs (j:Int)=some x:=by
 have hj:=(gS0.mp h).1;unfold tB;have:Bv xs.length (j:Int)=some j:=by unfold Bv;simp;omega
 rw[this];exact h
def NB{S:Sto}{l:Nat}{d:MV}{ys:Ug}(hS:S[l]? =some (.lst ys))(hd:pd d=true)(hs: ∀x,d≠.str x)(h: ∀y∈ys,pd y=true/\uR y<40):VE true (.val d) (.val (.loc l)) S=.ok (.val (.bl (!decide (d∈ys)))) S:=EU hS hd hs h
theorem NC{k d:MV}: ∀{ks ls:Ug}{j:Nat},ks.Nodup->ks[j]? =some k->ls[j]? =some d->look (ks.zip ls) k=some d
 |[],_,_,_,h,_=>by simp at h
 |_::_,[],_,_,_,h=>by simp at h
 |c::ks,v::ls,0,hn,h1,h2=>by simp at h1 h2;rw[zip_cons_cons,bW];show _=_;rw[iP h1,h2]
 |c::ks,v::ls,j+1,hn,h1,h2=>by rw[nodup_cons]at hn;rw[zip_cons_cons,bW];show(if c=k then some v else _)=_;rw[iN (λz=>hn.1 (by rw[z];exact mem_of_getElem? h1))];exact NC hn.2 h1 h2
theorem ND{k:MV}{i:Nat}: ∀{ks:Ug}{pss:Ch},k∉ks->ks.length=pss.length->dR k i (ks++[k]) (pss++[[]])=pss++[[i]]
 |[],[],_,_=>by show dR k i [k] [[]]=_;unfold dR;rw[iP rfl];rfl
 |[],_::_,_,h=>by simp at h
 |_::_,[],_,h=>by simp at h
 |c::ks,ps::pss,hn,h=>by rw[List.cons_append,List.cons_append];unfold dR;rw[iN (λz=>hn (by rw[z];exact mF0)),ND (λz=>hn (mO _ z)) (by simpa using h)];rfl
def LsAt.length{S:Sto}: ∀{ls:Ug}{pss:Ch},LsAt S ls pss->ls.length=pss.length
 |_,_,.nil=>rfl
 |_,_,.cons _ t=>by rw[lC,lC,t.length]
abbrev G8(tt rr:MV)(n:Nat)(p t c o:Uh):Rho:=[some tt,some rr,some (.loc n),some (.loc (n+1)),p,t,c,o]
structure GI(S0 S:Sto)(ks ls:Ug)(pss:Ch):Prop where
 k:S[S0.length]? =some (.lst ks)
 f:S[S0.length+1]? =some (.lst ls)
 lat:LsAt S ls pss
 len:ks.length=ls.length
 nd:ls.Nodup
 kd:ks.Nodup
 new: ∀m,MV.loc m∈ls->S0.length+1<m
 old: ∀(m:Nat)(o:MO),S0[m]? =some o->S[m]? =some o
 kp: ∀y∈ks,pd y=true/\uR y<40
section
variable{S0 S:Sto}{ks ls:Ug}{pss:Ch}{i:Nat}{tt rr own:MV}{t c:Uh}
theorem g4(B:GI S0 S ks ls pss)(ho:own∈ks)(hz: ∀ps∈pss,ps.length<1000):
  ∃S',GI S0 S' ks ls (dR own i ks pss)/\gF (G8 tt rr S0.length (some (.int (i:Nat))) t c (some own)) S=.ok (.next (G8 tt rr S0.length (some (.int (i:Nat))) t c (some own))) S':=by
 obtain⟨j,hj,hk⟩:=Hh B.k B.kp ho;have jl:j<ls.length:=by rw[<-B.len];exact(gS0.mp hk).1
 have m1:(ks.zip ls).map (·.1)=ks:=List.map_fst_zip (by rw[B.len];exact Nat.le_refl _);have m2:(ks.zip ls).map (·.2)=ls:=List.map_snd_zip (by rw[B.len];exact Nat.le_refl _);have hlk:=NC B.kd hk (gE jl);obtain⟨l,ps,hd,hin,hS,hls⟩:=QR (by rw[m2];exact B.lat) (by rw[m2];exact B.nd) hlk;rw[m2]at hin hls;rw[m1]at hls;have hj2:ls[j]? =some (.loc l):=by rw[gE jl,hd]
 obtain⟨qs,q1,q2⟩:=B.lat.mem hin hS;have:=hz qs q1;have nl:=B.new l hin;refine⟨S.set l _,⟨by rw[getElem?_set_ne (by omega)];exact B.k,by rw[getElem?_set_ne (by omega)];exact B.f,hls,B.len,B.nd,B.kd,B.new,λm o h=>?_,B.kp⟩,?_⟩
 .have mlt:=(gS0.mp h).1;rw[getElem?_set_ne (by omega)];exact B.old m o h
 .unfold gF;simp? [dB B.k,hj,PV B.f (bI hj2),dB hS,fI hS (by rw[lM];omega)];rw[List.map_append];rfl
def g3(B:GI S0 S ks ls pss)(ho:own∉ks)(hp:pd own=true/\uR own<40)(hs: ∀x,own≠.str x)(hl:ks.length<1000){p:Uh}:
  ∃S' ls',GI S0 S' (ks++[own]) ls' (pss++[[]])/\xF (G8 tt rr S0.length p t c (some own)) S=.ok (.next (G8 tt rr S0.length p t c (some own))) S':=by
 have klt:S0.length<S.length:=(gS0.mp B.k).1;have flt:S0.length+1<S.length:=(gS0.mp B.f).1;have hf1:(S.set S0.length (.lst (ks++[own])))[S0.length+1]? =some (.lst ls):=by rw[getElem?_set_ne (by omega)];exact B.f
 have hf2:(S.set S0.length (.lst (ks++[own]))++[MO.lst []])[S0.length+1]? =some (.lst ls):=by rw[getElem?_append_left (by rw[List.length_set];exact flt)];exact hf1
 have ap:BB (.val (.loc (S0.length+1))) [.new []] (S.set S0.length (.lst (ks++[own])))=.ok (.val .non) ((S.set S0.length (.lst (ks++[own]))++[MO.lst []]).set (S0.length+1) (.lst (ls++[.loc S.length]))):=by show(jG (.new []) _).bind (λy S1=>LS (.val (.loc (S0.length+1))) S1 λds=>if ds.length<sizeLine then some (ds++[y])else none)=_;rw[show jG (.new []) _=.ok _ _ from rfl,aP,List.length_set];unfold LS;dsimp only;rw[hf2];dsimp only;rw[iP (Nat.lt_of_lt_of_le (by rw[<-B.len];omega) (fits (Nat.le_refl _)))]
 have nin:MV.loc S.length∉ls:=B.lat.lt (Nat.le_refl _);refine⟨(S.set S0.length (.lst (ks++[own]))++[MO.lst []]).set (S0.length+1) (.lst (ls++[.loc S.length])),ls++[.loc S.length],⟨?_,?_,?_,by rw[lA,lA,B.len];rfl,?_,?_,λm h=>?_,λm o h=>?_,λy hy=>?_⟩,?_⟩
 .rw[getElem?_set_ne (by omega),getElem?_append_left (by rw[List.length_set];exact klt),getElem?_set_self klt]
 .rw[getElem?_set_self (by rw[lA,List.length_set];omega)]
 .refine LsAt.snoc (ps:=[]) ?_ (((B.lat.other λz=>absurd (B.new _ z) (by omega)).app).other λz=>absurd (B.new _ z) (by omega));rw[getElem?_set_ne (by omega),getElem?_append_right (by rw[List.length_set];exact Nat.le_refl _),List.length_set,sub_self];rfl
 .exact nodup_append.mpr ⟨B.nd,by simp,λx hx y hy=>by rw[mS.mp hy];rintro rfl;exact nin hx⟩
 .exact nodup_append.mpr ⟨B.kd,by simp,λx hx y hy=>by rw[mS.mp hy];rintro rfl;exact ho hx⟩
 .rcases List.mem_append.mp h with z|z
  .exact B.new m z
  .have:=mS.mp z;cases this;exact flt
 .have mlt:=(gS0.mp h).1;rw[getElem?_set_ne (by omega),getElem?_append_left (by rw[List.length_set];omega),getElem?_set_ne (by omega)];exact B.old m o h
 .rcases List.mem_append.mp hy with z|z
  .exact B.kp y z
  .rw[mS.mp z];exact hp
 .unfold xF;simp? [NB B.k hp.1 hs B.kp,dF0 ho,Bool.not_false,zO,dB B.k,fI B.k (by omega),dB hf1,ap]
end
section
variable{ts:Tb}{S0:Sto}{rs:Uj}
def Nz{S:Sto}{ks ls:Ug}{pss:Ch}{i:Nat}{r:Nat×List MV}{t c o:Uh}(hT:vY ts)(hr:eQ ts r)(hi:rs[i]? =some r)(B:GI S0 S ks ls pss)(hk:ks.length<900)(hz: ∀ps∈pss,ps.length<900):
  ∃S' ls' t' c' o',(if keyR ts r∈ks then GI S0 S' ks ls' (dR (keyR ts r) i ks pss)else GI S0 S' (ks++[keyR ts r]) ls' (pss++[[i]]))/\
   xY (G8 (.tup (ts.map tbl)) (.tup (rs.map zG)) S0.length (some (.int (i:Nat))) t c o) S=.ok (.next (G8 (.tup (ts.map tbl)) (.tup (rs.map zG)) S0.length (some (.int (i:Nat))) t' c' o')) S':=by
 have hix:(rs.map zG)[i]? =some (zG r):=by rw[getElem?_map,hi];rfl
 have b1:gC (G8 (.tup (ts.map tbl)) (.tup (rs.map zG)) S0.length (some (.int (i:Nat))) t c o) S=.ok (.next (G8 (.tup (ts.map tbl)) (.tup (rs.map zG)) S0.length (some (.int (i:Nat))) (some (.int r.1)) (some (.tup r.2)) o)) S:=by unfold gC;simp? [ix_tup (S:=S) (bI hix),TF];rfl
 have b2:gD (G8 (.tup (ts.map tbl)) (.tup (rs.map zG)) S0.length (some (.int (i:Nat))) (some (.int r.1)) (some (.tup r.2)) o) S=.ok (.next (G8 (.tup (ts.map tbl)) (.tup (rs.map zG)) S0.length (some (.int (i:Nat))) (some (.int r.1)) (some (.tup r.2)) (some (keyR ts r)))) S:=by
  obtain⟨p,hp,hl,hv⟩:=hr;have h0:=(hT.2.2 p (mem_of_getElem? hp)).2.2.1;have kn:WJ ts r.1=p.2.toNat:=by unfold WJ;rw[hp];rfl
  have t1: ∀S,yR (.val (tbl p)) (.val (.int 1)) S=.ok (.val (.int p.2)) S:=λS=>rfl;have ct: ∀S,BA (.val (.tup r.2)) none (some p.2) S=.ok _ S:=λS=>rfl;unfold gD;simp? [ix_tup (S:=S) (vZ hp),t1,ct,JF _ _ h0];unfold keyR;rw[kn]
 obtain⟨k1,k2⟩:=Ap hr;have ks': ∀x,keyR ts r≠.str x:=λx z=>by unfold keyR at z;cases z
 by_cases hm:keyR ts r∈ks
 .have b3:xF (G8 (.tup (ts.map tbl)) (.tup (rs.map zG)) S0.length (some (.int (i:Nat))) (some (.int r.1)) (some (.tup r.2)) (some (keyR ts r))) S=.ok (.next (G8 (.tup (ts.map tbl)) (.tup (rs.map zG)) S0.length (some (.int (i:Nat))) (some (.int r.1)) (some (.tup r.2)) (some (keyR ts r)))) S:=by unfold xF;simp? [NB B.k k1 ks' B.kp,dT0 hm,Bool.not_true,fT,iF]
  obtain⟨S',B',b4⟩:=g4 (i:=i) B hm (λps h=>by have:=hz ps h;omega);refine⟨S',ls,some (.int r.1),some (.tup r.2),some (keyR ts r),by rw[iP hm];exact B',?_⟩;unfold xY;rw[zA b1,zA b2,zA b3,b4]
 .obtain⟨S1,ls1,B1,b3⟩:=g3 B hm ⟨k1,by omega⟩ ks' (by omega)
  obtain⟨S',B',b4⟩:=g4 (i:=i) B1 (List.mem_append_right _ (mS.mpr rfl)) (λps h=>by
   rcases List.mem_append.mp h with z|z
   .have:=hz ps z;omega
   .rw[mS.mp z];exact Nat.zero_lt_succ _)
  rw[ND hm (by rw[B.len,B.lat.length])]at B';refine⟨S',ls1,some (.int r.1),some (.tup r.2),some (keyR ts r),by rw[iN hm];exact B',?_⟩;unfold xY;rw[zA b1,zA b2,zA b3,b4]
theorem QS(hT:vY ts): ∀(sfx pre:Uj),rs=pre++sfx->(∀r∈sfx,eQ ts r)-> ∀(S:Sto)(ks ls:Ug)(pss:Ch)(p t c o:Uh),GI S0 S ks ls pss->ks.length<=pre.length->rs.length<=100->(∀ps∈pss,ps.length<=pre.length)->
  ∃(S':Sto)(ls':Ug)(p' t' c' o':Uh),GI S0 S' (iE (sfx.map (keyR ts)) pre.length ks pss).1 ls' (iE (sfx.map (keyR ts)) pre.length ks pss).2/\
   dD (wR 4) xY [] ((List.range' pre.length sfx.length).map λk=>MV.int (k:Nat)) (G8 (.tup (ts.map tbl)) (.tup (rs.map zG)) S0.length p t c o) S=.ok (.next (G8 (.tup (ts.map tbl)) (.tup (rs.map zG)) S0.length p' t' c' o')) S'
 |[],pre,_,_,S,ks,ls,pss,p,t,c,o,B,_,_,_=>⟨S,ls,p,t,c,o,B,rfl⟩
 |r::sfx,pre,he,hr,S,ks,ls,pss,p,t,c,o,B,hk,hl,hz=>by
  have hi:rs[pre.length]? =some r:=by rw[he,getElem?_append_right (Nat.le_refl _),sub_self];rfl
  have hpl:=(gS0.mp hi).1;obtain⟨S1,ls1,t1,c1,o1,B1,hb⟩:=Nz hT (hr r mF0) hi B (by omega) (λps h=>by have:=hz ps h;omega);have he':rs=(pre++[r])++sfx:=by rw[he,aA];rfl
  have pl:(pre++[r]).length=pre.length+1:=by rw[lA];rfl
  rw[lC,List.range'_succ,List.map_cons,List.map_cons];unfold iE;by_cases hm:keyR ts r∈ks
  .rw[iP hm]at B1;obtain⟨S2,ls2,p2,t2,c2,o2,B2,hlp⟩:=QS hT sfx _ he' (λq hq=>hr q (mO _ hq)) S1 ks ls1 _ _ t1 c1 o1 B1 (by rw[pl];omega) hl (by rw[pl];exact uT hz);rw[pl]at B2 hlp;refine⟨S2,ls2,p2,t2,c2,o2,by rw[iP hm];exact B2,?_⟩;rw[xL rfl hb (kM _)];exact hlp
  .rw[iN hm]at B1
   obtain⟨S2,ls2,p2,t2,c2,o2,B2,hlp⟩:=QS hT sfx _ he' (λq hq=>hr q (mO _ hq)) S1 _ ls1 _ _ t1 c1 o1 B1 (by rw[pl,lA];exact succ_le_succ hk) hl (by
    rw[pl];intro ps h;rcases List.mem_append.mp h with z|z
    .exact le_succ_of_le (hz ps z)
    .rw[mS.mp z];exact succ_le_succ (zero_le _))
   rw[pl]at B2 hlp;refine⟨S2,ls2,p2,t2,c2,o2,by rw[iN hm];exact B2,?_⟩;rw[xL rfl hb (kM _)];exact hlp
theorem WK(hT:vY ts)(hr: ∀r∈rs,eQ ts r)(hl:rs.length<=60)(S:Sto):
  ∃(S':Sto)(ls:Ug),GI S S' (iE (rs.map (keyR ts)) 0 [] []).1 ls (iE (rs.map (keyR ts)) 0 [] []).2/\xG [.tup (ts.map tbl),.tup (rs.map zG)] S=.ok (.val (.loc (S.length+1))) S':=by
 have hst:zM aW [.tup (ts.map tbl),.tup (rs.map zG)]=[some (.tup (ts.map tbl)),some (.tup (rs.map zG)),none,none,none,none,none,none]:=rfl;have e1:cF [some (.tup (ts.map tbl)),some (.tup (rs.map zG)),none,none,none,none,none,none] S=.ok (.next [some (.tup (ts.map tbl)),some (.tup (rs.map zG)),some (.loc S.length),none,none,none,none,none]) (S++[.lst []]):=by unfold cF;simp? [aP]
 have e2:cG [some (.tup (ts.map tbl)),some (.tup (rs.map zG)),some (.loc S.length),none,none,none,none,none] (S++[.lst []])=.ok (.next (G8 (.tup (ts.map tbl)) (.tup (rs.map zG)) S.length none none none none)) (S++[.lst [],.lst []]):=by unfold cG;simp? [aP];rw[lA,aA];rfl
 obtain⟨S',ls,p',t',c',o',B,hlp⟩:=QS (S0:=S) (rs:=rs) hT rs [] rfl hr (S++[.lst [],.lst []]) [] [] [] none none none none ⟨by simp,by rw[getElem?_append_right (by omega),show S.length+1 - S.length=1 by omega];rfl,.nil,rfl,nodup_nil,nodup_nil,(λm h=>by cases h),(λm o h=>by rw[getElem?_append_left (gS0.mp h).1];exact h),λy h=>by cases h⟩ (Nat.le_refl _) (by omega) (by simp);have rg: ∀T:Sto,aK [.val (.int (((rs.map zG).length:Nat):Int))] T=.ok ⟨(List.range' 0 rs.length).map λk=>MV.int (k:Nat),[]⟩ T:=λT=>by rw[sD (by rw[lM];omega), <-List.range_eq_range'];show R.ok _ T=_;rw[Int.toNat_natCast,lM]
 have e3:cH (G8 (.tup (ts.map tbl)) (.tup (rs.map zG)) S.length none none none none) (S++[.lst [],.lst []])=.ok (.next (G8 (.tup (ts.map tbl)) (.tup (rs.map zG)) S.length p' t' c' o')) S':=by unfold cH;simp? [oF,rg];exact hlp
 have e4:cI (G8 (.tup (ts.map tbl)) (.tup (rs.map zG)) S.length p' t' c' o') S'=.ok (.ret (.val (.loc (S.length+1)))) S':=by unfold cI;simp? [aP]
 refine⟨S',ls,B,?_⟩;unfold xG pN;rw[hst,zA e1,zA e2,zA e3,e4];rfl
end
def Hi{S S':Sto}(h: ∀(m:Nat)(o:MO),S[m]? =some o->S'[m]? =some o):S.length<=S'.length:=by
 by_cases z:S.length=0
 .omega
 .have hl:S.length - 1<S.length:=by omega
  have:=(gS0.mp (h _ _ (gE hl))).1;omega
def JX{S S':Sto}(h: ∀(m:Nat)(o:MO),S[m]? =some o->S'[m]? =some o):RP S S':=⟨Hi h,λl hl=>.inl (by rw[h l _ (gE hl),gE hl])⟩
def NF{S S':Sto}(h: ∀(m:Nat)(o:MO),S[m]? =some o->S'[m]? =some o): ∀(m:Nat)(o:MO),S[m]? =some o->(S'.take S.length)[m]? =some o:=λm o hm=>by rw[getElem?_take_of_lt (gS0.mp hm).1];exact h m o hm
def Au{S:Sto}{ls:Ug}(h: ∀m,MV.loc m∈ls->S.length<=m)(hl: ∀d∈ls, ∃m,d=.loc m)(hne:ls≠[]): ¬FT S.length ls:=by
 cases ls with
 |nil=>exact absurd rfl hne
 |cons d r=>
  obtain⟨m,rfl⟩:=hl d mF0;intro z;have:=z.1;unfold lo at this;have:=h m mF0;omega
def LsAt.locs{S:Sto}{ls:Ug}{pss:Ch}(h:LsAt S ls pss): ∀d∈ls, ∃m,d=.loc m:=λd hd=>let ⟨l,_,e,_⟩:=h.in hd;⟨l,e⟩
def LsAt.nil_of{S T:Sto}{ls:Ug}{pss:Ch}(h:LsAt S ls pss)(e:ls=[]):LsAt T ls pss:=by subst e;cases h;exact .nil
def QT{n:Nat}{F:List MV->Sto->R Er}{rs:List Er}{S S':Sto}{as:Ug}{ls:Ug}{pss:Ch}(hn:rs.length=n)(hE:zU rs S=(as,S))(hF:F as S=.ok (.new ls) S')(hl:LsAt S' ls pss)(hnew: ∀m,MV.loc m∈ls->S.length<=m)(hold: ∀(m:Nat)(o:MO),S[m]? =some o->S'[m]? =some o):
  ∃S2,zQ n F rs S=.ok (.new ls) S2/\LsAt S2 ls pss/\ ∀(m:Nat)(o:MO),S[m]? =some o->S2[m]? =some o:=by
 unfold zQ;rw[iP hn,hE];show∃S2,_=_/\_;rw[hF,gT,aP];unfold aL;rw[iP (JX hold)];dsimp only;by_cases e:ls=[]
 .refine⟨S'.take S.length,?_,hl.nil_of e,NF hold⟩;rw[iP (by rw[e];exact yE λd hd=>by cases hd)]
 .exact⟨S',by rw[iN (Au hnew hl.locs e)],hl,hold⟩
def CP(S:Sto)(o:MO):(S++[o])[S.length]? =some o:=by simp
theorem qT{k:MV}{i:Nat}: ∀{ks:Ug}{pss:Ch},ks.length=pss.length->(dR k i ks pss).length=pss.length
 |[],[],_=>rfl
 |[],_::_,h=>by simp at h
 |_::_,[],h=>by simp at h
 |c::ks,ps::pss,h=>by
  unfold dR;split
  .rfl
  .rw[lC,lC,qT (by simpa using h)]
theorem EZ: ∀(r:Ug)(i:Nat)(ks:Ug)(pss:Ch),ks.length=pss.length->(∀ps∈pss,ps.length<=i)->pss.length<=i->(iE r i ks pss).2.length<=i+r.length/\ ∀ps∈(iE r i ks pss).2,ps.length<=i+r.length
 |[],i,ks,pss,_,h2,h3=>⟨h3,h2⟩
 |k::r,i,ks,pss,h1,h2,h3=>by
  unfold iE;rw[lC,show i+(r.length+1)=i+1+r.length by omega];by_cases hm:k∈ks
  .rw[iP hm];exact EZ r _ ks _ (by rw[qT h1];exact h1) (uT h2) (by rw[qT h1];omega)
  .rw[iN hm];refine EZ r _ _ _ (by rw[lA,lA,h1];rfl) (λps hp=>?_) (by rw[lA];exact succ_le_succ h3);rcases List.mem_append.mp hp with z|z
   .exact le_succ_of_le (h2 ps z)
   .rw[mS.mp z];exact succ_le_succ (zero_le _)
def Oa{ts:Tb}{rs:Uj}(hT:vY ts)(hr: ∀r∈rs,eQ ts r)(hl:rs.length<=60)(S:Sto)(ρ:Rho)(j:Nat):
  ∃(T:Sto)(L:Nat)(ls:Ug),(zQ 2 xG [.val (.tup (ts.map tbl)),.val (.tup (rs.map zG))] S).bind (FZ ρ j)=.ok (.next (ρ.set j (some (.loc L)))) T/\T[L]? =some (.lst ls)/\LsAt T ls (iE (rs.map (keyR ts)) 0 [] []).2/\ ∀(m:Nat)(o:MO),S[m]? =some o->T[m]? =some o:=by
 obtain⟨S',ls,B,hF⟩:=WK hT hr hl S;have hcall:zQ 2 xG [.val (.tup (ts.map tbl)),.val (.tup (rs.map zG))] S=aL S (.val (.loc (S.length+1))) S':=by unfold zQ;rw[iP (show [Er.val _,Er.val _].length=2 from rfl),show zU [.val _,.val _] S=([.tup _,.tup _],S)from rfl];show _=_;rw[hF,gT,aP]
 rw[hcall];unfold aL;rw[iP (JX B.old)];dsimp only;rw[iN (by omega),B.f];dsimp only;by_cases e:ls=[]
 .rw[iP (by rw[e];exact yE λd hd=>by cases hd),aP,RX];have old:=NF B.old;refine⟨_,_,ls,rfl,CP _ _,B.lat.nil_of e,λm o h=>?_⟩;have:=old m o h;rw[getElem?_append_left (gS0.mp this).1];exact this
 .rw[iN (Au (λm h=>le_of_lt (Nat.lt_of_succ_lt (B.new m h))) B.lat.locs e),aP,RW];exact⟨S',_,ls,rfl,B.f,B.lat,B.old⟩
def take_all{S S':Sto}(h: ∀(m:Nat)(o:MO),S[m]? =some o->S'[m]? =some o):S'.take S.length=S:=by
 refine ext_getElem? λm=>?_;by_cases hm:m<S.length
 .rw[getElem?_take_of_lt hm,h m _ (gE hm),gE hm]
 .rw[getElem?_eq_none (by rw[lT];omega),getElem?_eq_none (by omega)]
def Av{S S':Sto}{d:MV}(hold: ∀(m:Nat)(o:MO),S[m]? =some o->S'[m]? =some o)(h:lo S.length d)(hd: ∀l,d≠.loc l):aL S (.val d) S'=.ok (.val d) S:=by
 unfold aL;rw[iP (JX hold)]
 cases d with
 |loc l=>exact absurd rfl (hd l)
 |_=>dsimp only;rw[iP h,take_all hold]
def uU{n:Nat}{F:List MV->Sto->R Er}{rs:List Er}{S S':Sto}{as:Ug}{d:MV}(hn:rs.length=n)(hE:zU rs S=(as,S))(hF:F as S=.ok (.val d) S')(hold: ∀(m:Nat)(o:MO),S[m]? =some o->S'[m]? =some o)(h:lo S.length d)(hd: ∀l,d≠.loc l):zQ n F rs S=.ok (.val d) S:=by unfold zQ;rw[iP hn,hE];show _=_;rw[hF,gT,aP];exact Av hold h hd
def mn:List (List Nat)->Int->Int
 |[],a=>a
 |ps::r,a=>mn r (a * (ps.length:Nat))
def Ps(pss:Ch):Prop:= ∀ps∈pss,1<=ps.length/\ps.length<=64
theorem Aw: ∀{pss:Ch}{a:Int},Ps pss->0<a->0<mn pss a
 |[],_,_,h=>h
 |ps::r,a,hp,h=>Aw (pss:=r) (λq hq=>hp q (mO _ hq)) (Int.mul_pos h (by have:=(hp ps mF0).1;omega))
def JY{S:Sto}{l:Nat}{ds:Ug}(h:S[l]? =some (.lst ds)):kL [.val (.loc l)] S=.ok (.val (.int ds.length)) S:=SqM.len (.inr ⟨l,rfl,h⟩)
def Hj{a:Int}{n:Nat}(h:n<=64)(S:Sto):ZN (.val (.int a)) (.val (.int (n:Nat))) S=.ok (.val (.int (a * (n:Nat)))) S:=iP (Or.inr (Or.inl ⟨Int.lt_of_lt_of_le (by decide) (Int.natCast_nonneg n),Int.lt_of_le_of_lt (Int.ofNat_le.mpr h) (by decide)⟩))
theorem HW{S:Sto}{q:MV}: ∀{ls:Ug}{pss:Ch},LsAt S ls pss->Ps pss-> ∀(a:Int)(x:Uh), ∃x',dD (wR 2) wC [] ls [some q,some (.int a),x] S=.ok (.next [some q,some (.int (mn pss a)),x']) S
 |_,_,.nil,_,a,x=>⟨x,rfl⟩
 |_,_,.cons (l:=l) (ps:=ps) h t,hp,a,x=>by
  obtain⟨x',e⟩:=HW t (λq hq=>hp q (mO _ hq)) _ _;refine⟨x',?_⟩;have hb:wC [some q,some (.int a),some (.loc l)] S=.ok (.next [some q,some (.int (a * (ps.length:Nat))),some (.loc l)]) S:=by unfold wC dH MA;simp? [JY h,lM,Hj (hp ps mF0).2]
  rw[xL rfl hb (kM S)];exact e
abbrev gG(ts:Tb)(rs:Uj):MV:=.tup [.tup (ts.map tbl),.tup [],.tup (rs.map zG)]
abbrev gp(ts:Tb)(rs:Uj):List (List Nat):=(iE (rs.map (keyR ts)) 0 [] []).2
def TV{ts:Tb}{rs:Uj}(hT:vY ts)(hr: ∀r∈rs,eQ ts r)(hl:rs.length<=60)(S:Sto):
  ∃(S':Sto)(ls:Ug),zQ 1 f_blocks [.val (gG ts rs)] S=.ok (.new ls) S'/\LsAt S' ls (gp ts rs)/\(∀m,MV.loc m∈ls->S.length<=m)/\ ∀(m:Nat)(o:MO),S[m]? =some o->S'[m]? =some o:=by
 obtain⟨S8,l8,a1,a2,a3,a4,a5⟩:=As hT hr hl S;obtain⟨S9,c1,c2,c3⟩:=QT (rs:=[.val _]) rfl rfl a5 a1 a3 a4;exact⟨S9,l8,c1,c2,a3,c3⟩
theorem Ax{ts:Tb}{rs:Uj}(hT:vY ts)(hr: ∀r∈rs,eQ ts r)(hl:rs.length<=60)(hp:Ps (gp ts rs))(S:Sto):zQ 1 xB [.val (gG ts rs)] S=.ok (.val (.int (mn (gp ts rs) 1))) S:=by
 obtain⟨S9,ls,c1,c2,_,c3⟩:=TV hT hr hl S;obtain⟨x',hlp⟩:=HW c2 hp 1 none;have e2:jZ [some (gG ts rs),some (.int 1),none] S=.ok (.next [some (gG ts rs),some (.int (mn (gp ts rs) 1)),x']) S9:=by unfold jZ;simp? [c1];exact hlp
 refine uU rfl rfl ?_ c3 (wA _ _) (λl=>by simp);show zX (bZ [some _,none,none] S)=_;unfold bZ;rw[zA (show aX [some _,none,none] S=.ok (.next [some _,some _,none]) S from rfl),zA e2];rfl
def LsAt.rev{S:Sto}: ∀{ls:Ug}{pss:Ch},LsAt S ls pss->LsAt S ls.reverse pss.reverse
 |_,_,.nil=>.nil
 |_,_,.cons h t=>by rw[reverse_cons,reverse_cons];exact LsAt.snoc h t.rev
def Ps.rev{pss:Ch}(h:Ps pss):Ps pss.reverse:=λps hp=>h ps (mem_reverse.mp hp)
def pk:List (List Nat)->Int->List Nat
 |[],_=>[]
 |ps::r,n=>(ps[(n % (ps.length:Nat)).toNat]?).getD 0::pk r (n / (ps.length:Nat))
theorem QU: ∀{pss:Ch}{n:Int},(pk pss n).length=pss.length
 |[],_=>rfl
 |_::_,_=>by unfold pk;rw[lC,lC,QU]
theorem Se{ps:Db}{n:Int}(h:1<=ps.length):tB (ps.map zF) (n % (ps.length:Nat))=some (zF ((ps[(n % (ps.length:Nat)).toNat]?).getD 0)):=by
 have h0:0<=n % (ps.length:Nat):=eN _ (by omega);have h1:n % (ps.length:Nat)<_:=eL _ (by omega);have h2:(n % (ps.length:Nat)).toNat<ps.length:=by omega
 have e:n % _=_:=(Int.toNat_of_nonneg h0).symm;rw[e];refine bI ?_;rw[getElem?_map,Int.toNat_natCast,gE h2];rfl
def Ob{S:Sto}{l:Nat}{o:MO}(h:S[l]? =some o):S.set l o=S:=by
 refine ext_getElem? λm=>?_;by_cases hm:l=m
 .subst hm;rw[getElem?_set_self (gS0.mp h).1,h]
 .rw[getElem?_set_ne hm]
def Hk{a:Int}{n:Nat}(h0:1<=n)(h:n<=64)(S:Sto):iS (.val (.int a)) (.val (.int (n:Nat))) S=.ok (.val (.int (a / (n:Nat)))) S:=kQ (by omega) (by omega) a S
theorem Oc(n:Int):pk [] n=[]:=rfl
theorem Hl(ps:Db)(r:Ch)(n:Int):pk (ps::r) n=(ps[(n % (ps.length:Nat)).toNat]?).getD 0::pk r (n / (ps.length:Nat)):=rfl
theorem TX{q m:MV}{nu:Int}{R:Nat}: ∀{ls:Ug}{pss:Ch}(S:Sto),LsAt S ls pss->Ps pss->MV.loc R∉ls-> ∀(acc:Db)(n:Int)(x:Uh),S[R]? =some (.lst (acc.map zF))->acc.length+ls.length<=1000->
  ∃n' x',dD (wR 5) mL [] ls [some q,some (.int nu),some m,some (.loc R),some (.int n),x] S=.ok (.next [some q,some (.int nu),some m,some (.loc R),some (.int n'),x']) (S.set R (.lst ((acc++pk pss n).map zF)))
 |_,_,S,.nil,_,_,acc,n,x,hR,_=>⟨n,x,by rw[Oc,aN,Ob hR];rfl⟩
 |_,_,S,.cons (l:=l) (ps:=ps) (ls:=ls) (pss:=pss) h t,hp,hn,acc,n,x,hR,hz=>by
  rw[lC]at hz;have hl:l≠R:=λe=>hn (by rw[e];exact mF0);obtain⟨p1,p2⟩:=hp ps mF0;generalize hpp:(ps[(n % (ps.length:Nat)).toNat]?).getD 0=p;have hS':(S.set R (.lst ((acc++[p]).map zF)))[R]? =some (.lst ((acc++[p]).map zF)):=getElem?_set_self (gS0.mp hR).1;have hl':(S.set R (.lst ((acc++[p]).map zF)))[l]? =some (.lst (ps.map zF)):=by rw[getElem?_set_ne (Ne.symm hl)];exact h
  obtain⟨n',x',e⟩:=TX (q:=q) (m:=m) (nu:=nu) (R:=R) _ (t.other (l:=R) λz=>hn (mO _ z)) (λq hq=>hp q (mO _ hq)) (λz=>hn (mO _ z)) (acc++[p]) (n / (ps.length:Nat)) (some (.loc l)) hS' (by rw[lA,lS];omega);refine⟨n',x',?_⟩;have ix:=SqM.ix (S:=S) (m:=.loc l) (.inr ⟨l,rfl,h⟩) (Se (n:=n) p1);rw[hpp]at ix;have b1:mI [some q,some (.int nu),some m,some (.loc R),some (.int n),some (.loc l)] S=.ok (.next [some q,some (.int nu),some m,some (.loc R),some (.int n),some (.loc l)]) (S.set R (.lst ((acc++[p]).map zF))):=by unfold mI;simp? [dB hR,JY h,lM,mod_lit (show(0:Int)<(ps.length:Nat) by omega),ix,fI hR (by rw[lM];omega),List.map_append,List.map_cons,List.map_nil]
  have b2:mK [some q,some (.int nu),some m,some (.loc R),some (.int n),some (.loc l)] (S.set R (.lst ((acc++[p]).map zF)))=.ok (.next [some q,some (.int nu),some m,some (.loc R),some (.int (n / (ps.length:Nat))),some (.loc l)]) (S.set R (.lst ((acc++[p]).map zF))):=by unfold mK MA;simp? [JY hl',lM,Hk p1 p2]
  have hb:mL [some q,some (.int nu),some m,some (.loc R),some (.int n),some (.loc l)] S=.ok (.next [some q,some (.int nu),some m,some (.loc R),some (.int (n / (ps.length:Nat))),some (.loc l)]) (S.set R (.lst ((acc++[p]).map zF))):=by unfold mL;rw[zA b1,b2]
  rw[xL rfl hb (kM _),e,List.set_set];rw[Hl,hpp,aA];rfl
theorem NG: ∀(ps:Db),intsOf (ps.map zF)=some (ps.map Int.ofNat)
 |[]=>rfl
 |p::ps=>by show(intsOf _).map _=_;rw[NG ps];rfl
abbrev chM(pss:Ch)(n:Int):MV:=.tup ((PySem.W.sortI ((pk pss.reverse n).map Int.ofNat)).map MV.int)
def QV{S:Sto}{l:Nat}{ps:Db}(h:S[l]? =some (.lst (ps.map zF)))(hz:ps.length<64):DX [.val (.loc l)] S=.ok (.new ((PySem.W.sortI (ps.map Int.ofNat)).map MV.int)) S:=by unfold DX;dsimp only;rw[aQ h];dsimp only;rw[iP (by rw[lM];exact hz),NG]
def JZ{n:Nat}{ns:Tc}:lo n (.tup (ns.map MV.int)):=xD (yE λd hd=>by obtain⟨i,_,rfl⟩:=mM.mp hd;exact wA _ _)
section
variable{ts:Tb}{rs:Uj}
def NH(hT:vY ts)(hr: ∀r∈rs,eQ ts r)(hl:rs.length<=60)(hp:Ps (gp ts rs))(hg:(gp ts rs).length<=60){nu:Int}(h0:0<=nu)(h1:nu<mn (gp ts rs) 1)(S:Sto):
  zQ 2 uG [.val (gG ts rs),.val (.int nu)] S=.ok (.val (chM (gp ts rs) nu)) S:=by
 have e1:sK [some (gG ts rs),some (.int nu),none,none,none,none] S=.ok (.next [some (gG ts rs),some (.int nu),some (.int (mn (gp ts rs) 1)),none,none,none]) S:=by unfold sK;simp? [Ax hT hr hl hp]
 have e2:sL [some (gG ts rs),some (.int nu),some (.int (mn (gp ts rs) 1)),none,none,none] S=.ok (.next [some (gG ts rs),some (.int nu),some (.int (mn (gp ts rs) 1)),none,none,none]) S:=by unfold sL;simp? [PB,le_int,lt_int,dT0 h0,dT0 h1,Bool.not_true,fT,iF]
 obtain⟨S9,ls,c1,c2,c4,c3⟩:=TV hT hr hl (S++[.lst []]);have sl:(S++[MO.lst []]).length=S.length+1:=by rw[lA];rfl
 have hR:S9[S.length]? =some (.lst (([]:Db).map zF)):=c3 _ _ (by simp);have hll:=c2.length;obtain⟨n',x',hlp⟩:=TX (q:=gG ts rs) (m:=.int (mn (gp ts rs) 1)) (nu:=nu) (R:=S.length) S9 c2.rev hp.rev (λz=>by have:=c4 _ (mem_reverse.mp z);omega) [] nu none hR (by rw[List.length_reverse,List.length_nil];omega);rw[List.nil_append]at hlp;have e5:sM [some (gG ts rs),some (.int nu),some (.int (mn (gp ts rs) 1)),some (.loc S.length),some (.int nu),none] (S++[.lst []])=.ok (.next [some (gG ts rs),some (.int nu),some (.int (mn (gp ts rs) 1)),some (.loc S.length),some (.int n'),x']) (S9.set S.length (.lst ((pk (gp ts rs).reverse nu).map zF))):=by unfold sM;simp? [c1,show Sx [.new ls] S9=.ok ⟨ls.reverse,[]⟩ S9 from rfl];exact hlp
 have hs:=QV (S:=S9.set S.length (.lst ((pk (gp ts rs).reverse nu).map zF))) (getElem?_set_self (gS0.mp hR).1) (by rw[QU,List.length_reverse];omega);have e6:sN [some (gG ts rs),some (.int nu),some (.int (mn (gp ts rs) 1)),some (.loc S.length),some (.int n'),x'] (S9.set S.length (.lst ((pk (gp ts rs).reverse nu).map zF)))=.ok (.ret (.val (chM (gp ts rs) nu))) (S9.set S.length (.lst ((pk (gp ts rs).reverse nu).map zF))):=by unfold sN;simp? [hs,show∀ds T,jY [.new ds] T=.ok (.val (.tup ds)) T from λ_ _=>rfl]
 refine uU (as:=[gG ts rs,.int nu]) (S':=S9.set S.length (.lst ((pk (gp ts rs).reverse nu).map zF))) rfl rfl ?_ (λm o h=>?_) JZ (λl=>by simp)
 .show zX (ER [some (gG ts rs),some (.int nu),none,none,none,none] S)=_;unfold ER
  rw[zA e1,zA e2,zA (show EO [some (gG ts rs),some (.int nu),some (.int (mn (gp ts rs) 1)),none,none,none] S=.ok (.next [some (gG ts rs),some (.int nu),some (.int (mn (gp ts rs) 1)),some (.loc S.length),none,none]) (S++[.lst []])from rfl),
   zA (show EQ [some (gG ts rs),some (.int nu),some (.int (mn (gp ts rs) 1)),some (.loc S.length),none,none] (S++[.lst []])=.ok (.next [some (gG ts rs),some (.int nu),some (.int (mn (gp ts rs) 1)),some (.loc S.length),some (.int nu),none]) (S++[.lst []])from rfl),zA e5,e6]
  rfl
 .have hm:=(gS0.mp h).1;rw[getElem?_set_ne (by omega)];exact c3 m o (by rw[getElem?_append_left hm];exact h)
end
def sR{B L:Sto}{m:Nat}{o:MO}(h:B[m]? =some o):(B++L)[m]? =some o:=by rw[getElem?_append_left (gS0.mp h).1];exact h
theorem NI{k:MV}{i:Nat}: ∀{ks:Ug}{pss:Ch},(∀ps∈pss,1<=ps.length)-> ∀ps∈dR k i ks pss,1<=ps.length
 |[],[],_,ps,h=>by unfold dR at h;cases h
 |[],_::_,_,ps,h=>by unfold dR at h;cases h
 |_::_,[],_,ps,h=>by unfold dR at h;cases h
 |c::ks,q::pss,hp,ps,h=>by
  unfold dR at h;split at h
  .rcases mC.mp h with rfl|h
   .rw[lA];exact Nat.le_add_left _ _
   .exact hp ps (mO _ h)
  .rcases mC.mp h with rfl|h
   .exact hp _ mF0
   .exact NI (λq hq=>hp q (mO _ hq)) ps h
theorem KA: ∀(r:Ug)(i:Nat)(ks:Ug)(pss:Ch),(∀ps∈pss,1<=ps.length)-> ∀ps∈(iE r i ks pss).2,1<=ps.length
 |[],i,ks,pss,h=>h
 |k::r,i,ks,pss,h=>by
  unfold iE;by_cases hm:k∈ks
  .rw[iP hm];exact KA r _ ks _ (NI h)
  .rw[iN hm];refine KA r _ _ _ λps hp=>?_;rcases List.mem_append.mp hp with z|z
   .exact h ps z
   .rw[mS.mp z];exact Nat.le_refl _
section
variable{ts:Tb}{rs:Uj}
def Hm(hT:vY ts)(hr: ∀r∈rs,eQ ts r)(hl:rs.length<=60):pd (gG ts rs)=true/\uR (gG ts rs)<8:=by
 have a:KM (ts.map tbl)=true/\sQ (ts.map tbl)<=1:=⟨qR λd hd=>by obtain⟨p,_,rfl⟩:=mM.mp hd;exact(Ao p).1,qS λd hd=>by obtain⟨p,_,rfl⟩:=mM.mp hd;exact(Ao p).2.1⟩
 have c:KM _=true/\sQ _<=2:=⟨qR λd hd=>by obtain⟨p,hp,rfl⟩:=mM.mp hd;exact(EV (hr p hp)).1,qS λd hd=>by obtain⟨p,hp,rfl⟩:=mM.mp hd;exact(EV (hr p hp)).2⟩
 refine⟨?_,?_⟩
 .rw[bG,yQ,yQ,yQ,bG,bG,bG,a.1,c.1];rfl
 .rw[jA,yK,yK,yK,jA,jA,jA,lG];omega
def Sf(S:Sto):lO [] S=.ok (.val (.tup [])) S:=JG (by simp)
end
def NL:MV->Int
 |.int i=>i
 |_=>0
def cnt(t c:Nat)(r:Nat×List MV):Int:=if r.1=t then((r.2[c]?).map NL).getD 0 else 0
def wt(rs:Uj)(t c i:Nat):Int:=((rs[i]?).map (cnt t c)).getD 0
section
variable{ts:Tb}{rs:Uj}{t c:Nat}{p:Int×Int}
def NN(ts:Tb)(t c:Nat):Prop:= ∃p,ts[t]? =some p/\(c:Int)<p.1
def Ay(hc:NN ts t c){r:Nat×List MV}(h:eQ ts r)(e:r.1=t): ∃d,r.2[c]? =some d/\Vl d:=by
 obtain⟨p,h1,h2⟩:=hc;obtain⟨q,h3,h4,h5⟩:=h;rw[e,h1]at h3;cases h3;have hl:c<r.2.length:=by omega
 exact⟨r.2[c],gE hl,h5 _ (getElem_mem hl)⟩
def TZ(hc:NN ts t c){r:Nat×List MV}(h:eQ ts r)(S:Sto):zQ 3 hX [.val (zG r),.val (.int (t:Nat)),.val (.int (c:Nat))] S=.ok (.val (.int (cnt t c r))) S:=xV rfl (by
 have i0: ∀S,yR (.val (zG r)) (.val (.int 0)) S=.ok _ S:=λS=>rfl;have i1: ∀S,yR (.val (zG r)) (.val (.int 1)) S=.ok _ S:=λS=>rfl;show zX (mZ [some _,some _,some _] S)=_;unfold mZ mY;by_cases e:r.1=t
 .have e':((r.1:Nat):Int)=(t:Nat):=by rw[e]
  obtain⟨d,h1,h2⟩:=Ay hc h e;unfold cnt;rw[iP e,h1];rcases h2.cases with⟨i,rfl,_⟩|⟨x,rfl,_⟩
  .simp? [i0,i1,dT0 e',ix_tup (bI h1),fK];rfl
  .simp? [i0,i1,dT0 e',ix_tup (bI h1),AR];rfl
 .unfold cnt;rw[iN e];simp? [i0,dF0 (show¬((r.1:Nat):Int)=(t:Nat)from λz=>e (by omega)),fT,iF];rfl) (wA _ _) (λl=>by simp)
def Iu(hc:NN ts t c)(S:Sto):zQ 3 xW [.val (gG ts rs),.val (.int (t:Nat)),.val (.int (c:Nat))] S=.ok (.val .non) S:=pR rfl (by rw[aN];obtain⟨p,h1,h2⟩:=hc;have hl:=(gS0.mp h1).1;have i0: ∀S,yR (.val (gG ts rs)) (.val (.int 0)) S=.ok _ S:=λS=>rfl;have t0: ∀S,yR (.val (tbl p)) (.val (.int 0)) S=.ok _ S:=λS=>rfl;show zX (gY [some _,some _,some _] S)=_;unfold gY cC;simp? [i0,t0,oF,lM,oG (i:=(t:Nat)) (b:=(ts.length:Nat)) (by omega) (by omega),ix_tup (vZ h1),oG (by omega) h2,fT,iF];rfl)
def In(rs:Uj)(is:Tc):Prop:= ∀i∈is, ∃j:Nat,i=(j:Nat)/\j<rs.length
def NO(rs:Uj)(t c:Nat)(is:Tc):Int:=(is.map λi=>wt rs t c i.toNat).sum
theorem ints_map(is:Tc)(f:Int->Int):intsOf (is.map λi=>MV.int (f i))=some (is.map f):=by
 induction is with
 |nil=>rfl
 |cons i is ih=>show(intsOf _).map _=_;rw[ih];rfl
def UA{ns:Tc}{ds:Ug}(h:intsOf ds=some ns)(S:Sto):sumF [.new ds] S=.ok (.val (.int ns.sum)) S:=by unfold sumF;simp only[show jI S (.new ds)=some ds from rfl,h]
def Iv(hr: ∀r∈rs,eQ ts r)(hc:NN ts t c){is:Tc}(hi:In rs is)(hl:is.length<1000)(S:Sto):
  zQ 4 eC [.val (gG ts rs),.val (.tup (is.map MV.int)),.val (.int (t:Nat)),.val (.int (c:Nat))] S=.ok (.val (.int (NO rs t c is))) S:=xV rfl (by
 have i2: ∀S,yR (.val (gG ts rs)) (.val (.int 2)) S=.ok _ S:=λS=>rfl;show zX (uK [some (gG ts rs),some _,some (.int (t:Nat)),some (.int (c:Nat))] S)=_;have e1:oB [some (gG ts rs),some (.tup (is.map MV.int)),some (.int (t:Nat)),some (.int (c:Nat))] S=.ok (.next [some (gG ts rs),some (.tup (is.map MV.int)),some (.int (t:Nat)),some (.int (c:Nat))]) S:=by unfold oB;simp? [Iu hc]
 have hm:=pF (gf:=wR 0) (cf:=oA) (ef:=nG) (ρb:=[none,some (gG ts rs),some (.int (t:Nat)),some (.int (c:Nat))]) (F:=λd=>.int (wt rs t c (NL d).toNat)) (kM S) λd hd=>by
  obtain⟨i,hi',rfl⟩:=mM.mp hd;obtain⟨j,rfl,hj⟩:=hi i hi';refine⟨[some (.int (j:Nat)),some (gG ts rs),some (.int (t:Nat)),some _],rfl,rfl,?_⟩;have hx:(rs.map zG)[j]? =some (zG rs[j]):=by rw[getElem?_map,gE hj];rfl
  have hw:wt rs t c (NL (.int (j:Nat))).toNat=cnt t c rs[j]:=by show((rs[((j:Nat):Int).toNat]?).map (cnt t c)).getD 0=_;rw[Int.toNat_natCast,gE hj];rfl
  unfold nG;simp? [i2,ix_tup (S:=S) (bI hx),TZ hc (hr _ (getElem_mem hj))];rw[hw]
 rw[List.map_map]at hm;have hs: ∀S,sumF [.new (is.map ((λd=>MV.int (wt rs t c (NL d).toNat))∘MV.int))] S=.ok (.val (.int (NO rs t c is))) S:=λS=>UA (ints_map is λi=>wt rs t c i.toNat) S;have e2:oC [some (gG ts rs),some (.tup (is.map MV.int)),some (.int (t:Nat)),some (.int (c:Nat))] S=.ok (.ret (.val (.int (NO rs t c is)))) S:=by unfold oC;simp? [show∀(ds:Ug)(S:Sto),UY (.val (.tup ds)) S=.ok ⟨ds,[]⟩ S from λds S=>rfl,lM,show(is.length<1000000)=True from eq_true (by omega),show GA 1 [0,2,3] [some (gG ts rs),some _,some (.int (t:Nat)),some (.int (c:Nat))]=[none,some (gG ts rs),some (.int (t:Nat)),some (.int (c:Nat))]from rfl,hm,hs]
 unfold uK;rw[zA e1,e2];rfl) (wA _ _) (λl=>by simp)
end
def WX(mx:Bool)(w:Nat->Int):Nat->List Nat->Nat
 |b,[]=>b
 |b,p::ps=>if Nn mx (w p) (w b)=true then WX mx w p ps else WX mx w b ps
theorem KB(mx:Bool)(w:Nat->Int): ∀(ps:Db)(b:Nat),AM mx (w b) (zF b) (ps.map w) (ps.map zF)=zF (WX mx w b ps)
 |[],b=>by unfold WX;rfl
 |p::ps,b=>by
  rw[List.map_cons,List.map_cons];unfold AM WX;split
  .exact KB mx w ps p
  .exact KB mx w ps b
theorem KC(mx:Bool)(w:Nat->Int): ∀(ps:Db)(b:Nat),WX mx w b ps∈b::ps
 |[],b=>mF0
 |p::ps,b=>by
  unfold WX;split
  .exact mO _ (KC mx w ps p)
  .rcases mC.mp (KC mx w ps b)with e|e
   .rw[e];exact mF0
   .exact mO _ (mO _ e)
theorem CQ(mx:Bool)(w:Nat->Int): ∀(ps:Db)(b:Nat),w (WX mx w b ps)=BF mx (w b) (ps.map w)
 |[],b=>rfl
 |p::ps,b=>by
  rw[List.map_cons];unfold WX BF;split
  .exact CQ mx w ps p
  .exact CQ mx w ps b
def bs(mx:Bool)(w:Nat->Int):List Nat->Nat
 |[]=>0
 |p::ps=>WX mx w p ps
section
variable{ts:Tb}{rs:Uj}{t c:Nat}
abbrev Ta(ts:Tb)(rs:Uj)(t c:Nat):List MV:=[gG ts rs,.int (c:Nat),.int (t:Nat)]
abbrev uV(ts:Tb)(rs:Uj)(t c:Nat):MV:=.clo zD (Ta ts rs t c)
def key1(hr: ∀r∈rs,eQ ts r)(hc:NN ts t c){j:Nat}(hj:j<rs.length)(S:Sto):zQ 1 (zS (Ta ts rs t c)) [.val (zF j)] S=.ok (.val (.int (wt rs t c j))) S:=xV rfl (by
 have i2: ∀S,yR (.val (gG ts rs)) (.val (.int 2)) S=.ok _ S:=λS=>rfl;have hx:(rs.map zG)[j]? =some (zG rs[j]):=by rw[getElem?_map,gE hj];rfl
 have hw:wt rs t c j=cnt t c rs[j]:=by unfold wt;rw[gE hj];rfl
 show zX (xI [some (.int _),some _,some _,some _] S)=_;unfold xI wZ;simp? [i2,ix_tup (bI hx),TZ hc (hr _ (getElem_mem hj))];rw[hw];rfl) (wA _ _) (λl=>by simp)
theorem UB(hr: ∀r∈rs,eQ ts r)(hc:NN ts t c)(S:Sto): ∀(ps:Db),(∀j∈ps,j<rs.length)->rD (zS (Ta ts rs t c)) S (ps.map zF)=some (ps.map (wt rs t c))
 |[],_=>rfl
 |j::ps,h=>by rw[List.map_cons];unfold rD;rw[key1 hr hc (h j mF0)];dsimp only;rw[iP rfl,UB hr hc S ps λq hq=>h q (mO _ hq)];rfl
def Od{r:Nat×List MV}(h:eQ ts r)(n:Nat):lo n (zG r):=by
 obtain⟨p,_,_,hv⟩:=h;refine xD (yE λd hd=>?_);simp only[mC,nM,or_false]at hd;rcases hd with rfl|rfl
 .exact wA _ _
 .exact xD (yE λe he=>(hv e he).lo n)
def Oe(hr: ∀r∈rs,eQ ts r)(n:Nat):FT n (Ta ts rs t c):=yE λd hd=>by
 simp only[mC,nM,or_false]at hd;rcases hd with rfl|rfl|rfl
 .refine xD (yE λd hd=>?_);simp only[mC,nM,or_false]at hd;rcases hd with rfl|rfl|rfl
  .refine xD (yE λd hd=>?_);obtain⟨p,_,rfl⟩:=mM.mp hd;exact xD (yE λe he=>by simp only[mC,nM,or_false]at he;rcases he with rfl|rfl<;>exact wA _ _)
  .exact xD (yE λe he=>by cases he)
  .refine xD (yE λd hd=>?_);obtain⟨r,h,rfl⟩:=mM.mp hd;exact Od (hr r h) n
 .exact wA _ _
 .exact wA _ _
def Of(mx:Bool)(hr: ∀r∈rs,eQ ts r)(hc:NN ts t c){l:Nat}{ps:Db}{S:Sto}(hS:S[l]? =some (.lst (ps.map zF)))(hp: ∀j∈ps,j<rs.length)(hne:1<=ps.length):
  WC mx zD zS [.val (.loc l)] (.val (uV ts rs t c)) S=.ok (.val (zF (bs mx (wt rs t c) ps))) S:=by
 unfold WC;dsimp only;rw[iP ⟨rfl,Oe hr 0⟩,aQ hS];dsimp only;rw[UB hr hc S ps hp];dsimp only
 cases ps with
 |nil=>cases hne
 |cons p ps=>
  rw[iN (by simp), <-show EI mx none ((p::ps).map _) ((p::ps).map zF)=zF (bs mx _ (p::ps))from KB mx _ ps p]
def Og(rs:Uj)(pss:Ch):Prop:= ∀ps∈pss, ∀j∈ps,j<rs.length
theorem KD(mx:Bool){ef:AX}{cf:AZ}(hcf: ∀ρ S,cf ρ S=.ok true S)(hef: ∀l S,ef [some (.loc l),some (uV ts rs t c)] S=WC mx zD zS [.val (.loc l)] (.val (uV ts rs t c)) S)(hr: ∀r∈rs,eQ ts r)(hc:NN ts t c){S:Sto}:
  ∀{ls:Ug}{pss:Ch},LsAt S ls pss->Ps pss->Og rs pss->kI (wR 0) cf ef [none,some (uV ts rs t c)] [] ls S=.ok ((pss.map (bs mx (wt rs t c))).map zF) S
 |_,_,.nil,_,_=>rfl
 |_,_,.cons (l:=l) (ps:=ps) h tl,hp,hi=>by have e:=KD mx hcf hef hr hc tl (λq hq=>hp q (mO _ hq)) (λq hq=>hi q (mO _ hq));unfold kI;rw[show wR 0 _ [none,some _] S=.ok [some _,some _] S from rfl,gT,aP,hcf,gT,aP,hef,Of mx hr hc h (hi ps mF0) (hp ps mF0).1,gT,aP];unfold jG;rw[aP,iP (kM S),e];rfl
abbrev sI(xs:Db):List Int:=PySem.W.sortI (xs.map Int.ofNat)
abbrev tI(xs:Db):MV:=.tup ((sI xs).map MV.int)
def Oh(hT:vY ts)(hr: ∀r∈rs,eQ ts r)(hl:rs.length<=60)(hp:Ps (gp ts rs))(hg:(gp ts rs).length<=60)(hi:Og rs (gp ts rs))(hc:NN ts t c)(S:Sto):
  zQ 3 kX [.val (gG ts rs),.val (.int (t:Nat)),.val (.int (c:Nat))] S=.ok (.val (.tup [tI ((gp ts rs).map (bs false (wt rs t c))),tI ((gp ts rs).map (bs true (wt rs t c)))])) S:=by
 obtain⟨S1,l1,a1,a2,_,a3⟩:=TV hT hr hl S;have hll:=a2.length
 have e1:hZ [some (gG ts rs),some (.int (t:Nat)),some (.int (c:Nat)),some (uV ts rs t c),none,none] S=.ok (.next [some (gG ts rs),some (.int (t:Nat)),some (.int (c:Nat)),some (uV ts rs t c),some (.loc S1.length),none]) (S1++[.lst (((gp ts rs).map (bs false (wt rs t c))).map zF)]):=by
  unfold hZ
  simp? [a1,show PF (.new l1) S1=.ok ⟨l1,[]⟩ S1 from rfl,show(l1.length<1000000)=True from eq_true (by omega),show GA 1 [3] [some (gG ts rs),some (.int (t:Nat)),some (.int (c:Nat)),some (uV ts rs t c),none,none]=[none,some (uV ts rs t c)]from rfl,
   KD false (cf:=dI) (ef:=dL) (λ_ _=>rfl) (λ_ _=>rfl) hr hc a2 hp hi]
 obtain⟨S2,l2,b1,b2,_,b3⟩:=TV hT hr hl (S1++[.lst (((gp ts rs).map (bs false (wt rs t c))).map zF)]);have hl2:=b2.length
 have e2:gA [some (gG ts rs),some (.int (t:Nat)),some (.int (c:Nat)),some (uV ts rs t c),some (.loc S1.length),none] (S1++[.lst (((gp ts rs).map (bs false (wt rs t c))).map zF)])=.ok (.next [some (gG ts rs),some (.int (t:Nat)),some (.int (c:Nat)),some (uV ts rs t c),some (.loc S1.length),some (.loc S2.length)]) (S2++[.lst (((gp ts rs).map (bs true (wt rs t c))).map zF)]):=by
  unfold gA
  simp? [b1,show PF (.new l2) S2=.ok ⟨l2,[]⟩ S2 from rfl,show(l2.length<1000000)=True from eq_true (by omega),show GA 1 [3] [some (gG ts rs),some (.int (t:Nat)),some (.int (c:Nat)),some (uV ts rs t c),some (.loc S1.length),none]=[none,some (uV ts rs t c)]from rfl,
   KD true (cf:=dM) (ef:=dN) (λ_ _=>rfl) (λ_ _=>rfl) hr hc b2 hp hi]
 have s1:(S2++[MO.lst (((gp ts rs).map (bs true (wt rs t c))).map zF)])[S1.length]? =some _:=sR (b3 _ _ (CP _ _));have s2:(S2++[MO.lst (((gp ts rs).map (bs true (wt rs t c))).map zF)])[S2.length]? =some _:=CP _ _;have e3:gB [some (gG ts rs),some (.int (t:Nat)),some (.int (c:Nat)),some (uV ts rs t c),some (.loc S1.length),some (.loc S2.length)] (S2++[.lst (((gp ts rs).map (bs true (wt rs t c))).map zF)])=.ok (.ret (.val (.tup [tI ((gp ts rs).map (bs false (wt rs t c))),tI ((gp ts rs).map (bs true (wt rs t c)))]))) (S2++[.lst (((gp ts rs).map (bs true (wt rs t c))).map zF)]):=by unfold gB;simp? [QV s1 (by rw[lM];omega),QV s2 (by rw[lM];omega),show∀ds T,jY [.new ds] T=.ok (.val (.tup ds)) T from λ_ _=>rfl]
 refine uU (as:=[gG ts rs,.int (t:Nat),.int (c:Nat)]) (S':=S2++[.lst (((gp ts rs).map (bs true (wt rs t c))).map zF)]) rfl rfl ?_ (λm o h=>sR (b3 m o (sR (a3 m o h)))) (xD (yE λd hd=>?_)) (λl=>by simp)
 .show zX (kW [some (gG ts rs),some (.int (t:Nat)),some (.int (c:Nat)),some (uV ts rs t c),none,none] S)=_;unfold kW;rw[zA e1,zA e2,e3];rfl
 .simp only[mC,nM,or_false]at hd;rcases hd with rfl|rfl<;>exact JZ
end
section
variable{ts:Tb}{rs:Uj}{t c:Nat}
def CS(xs:Db):(sI xs).Perm (xs.map Int.ofNat):=PySem.W.sortI_perm _
def KE{xs:Db}{i:Int}:i∈sI xs↔ ∃j∈xs,i=(j:Nat):=by rw[(CS xs).mem_iff,mM];exact⟨λ⟨j,h,e⟩=>⟨j,h,e.symm⟩,λ⟨j,h,e⟩=>⟨j,h,e.symm⟩⟩
def Iw{xs:Db}(h: ∀j∈xs,j<rs.length):In rs (sI xs):=λi hi=>by obtain⟨j,h1,h2⟩:=KE.mp hi;exact⟨j,h2,h j h1⟩
def FA(xs:Db):(sI xs).length=xs.length:=by rw[(CS xs).length_eq,lM]
def NP{a b:Tc}(h:a.Perm b):a.sum=b.sum:=by
 induction h with
 |nil=>rfl
 |cons x _ ih=>rw[List.sum_cons,List.sum_cons,ih]
 |swap x y l=>simp only[List.sum_cons];omega
 |trans _ _ i1 i2=>rw[i1,i2]
theorem KF(xs:Db):NO rs t c (sI xs)=(xs.map (wt rs t c)).sum:=by unfold NO;rw[NP ((CS xs).map _),List.map_map];rfl
abbrev FB(mx:Bool)(ts:Tb)(rs:Uj)(t c:Nat):List Nat:=(gp ts rs).map (bs mx (wt rs t c))
abbrev ext(mx:Bool)(ts:Tb)(rs:Uj)(t c:Nat):Int:=((FB mx ts rs t c).map (wt rs t c)).sum
abbrev FV(ts:Tb)(rs:Uj)(t c:Nat):MV:=.tup [.int (ext false ts rs t c),tI (FB false ts rs t c),.int (ext true ts rs t c),tI (FB true ts rs t c)]
def Az{mx:Bool}{w:Nat->Int}{ps:Db}(h:1<=ps.length):bs mx w ps∈ps:=by
 cases ps with
 |nil=>cases h
 |cons p ps=>exact KC mx w ps p
def Sh(mx:Bool)(hp:Ps (gp ts rs))(hi:Og rs (gp ts rs)): ∀j∈FB mx ts rs t c,j<rs.length:=λj hj=>by obtain⟨ps,h1,rfl⟩:=mM.mp hj;exact hi ps h1 _ (Az (hp ps h1).1)
def Iy(xs:Db)(n:Nat):lo n (tI xs):=JZ
def Ba(hT:vY ts)(hr: ∀r∈rs,eQ ts r)(hl:rs.length<=60)(hp:Ps (gp ts rs))(hg:(gp ts rs).length<=60)(hi:Og rs (gp ts rs))(hc:NN ts t c)(S:Sto):
  zQ 3 sO [.val (gG ts rs),.val (.int (t:Nat)),.val (.int (c:Nat))] S=.ok (.val (FV ts rs t c)) S:=xV rfl (by
 show zX (JT [some _,some _,some _,none] S)=_;have e1:uM [some (gG ts rs),some (.int (t:Nat)),some (.int (c:Nat)),none] S=.ok (.next [some (gG ts rs),some (.int (t:Nat)),some (.int (c:Nat)),none]) S:=by unfold uM;simp? [Iu hc]
 have e2:uN [some (gG ts rs),some (.int (t:Nat)),some (.int (c:Nat)),none] S=.ok (.next [some (gG ts rs),some (.int (t:Nat)),some (.int (c:Nat)),some (.tup [tI (FB false ts rs t c),tI (FB true ts rs t c)])]) S:=by unfold uN;simp? [TR rfl,List.length_nil,decide_true,Oh hT hr hl hp hg hi hc]
 have j0: ∀S,yR (.val (.tup [tI (FB false ts rs t c),tI (FB true ts rs t c)])) (.val (.int 0)) S=.ok _ S:=λS=>rfl;have j1: ∀S,yR (.val (.tup [tI (FB false ts rs t c),tI (FB true ts rs t c)])) (.val (.int 1)) S=.ok _ S:=λS=>rfl;have sm:=λmx S=>Iv (c:=c) (t:=t) hr hc (Iw (Sh (t:=t) (c:=c) mx hp hi)) (by rw[FA,lM];omega) S;have e3:uO [some (gG ts rs),some (.int (t:Nat)),some (.int (c:Nat)),some (.tup [tI (FB false ts rs t c),tI (FB true ts rs t c)])] S=.ok (.ret (.val (FV ts rs t c))) S:=by unfold uO;simp? [j0,j1,sm,KF,show∀a b c d S,lO [.val a,.val b,.val c,.val d] S=.ok _ S from λa b c d S=>JG (by simp)]
 unfold JT;rw[zA e1,zA e2,e3]
 rfl) (xD (yE λd hd=>by
  simp only[mC,nM,or_false]at hd;rcases hd with rfl|rfl|rfl|rfl
  .exact wA _ _
  .exact Iy _ _
  .exact wA _ _
  .exact Iy _ _)) (λl=>by simp)
end
theorem HX{k:MV}{i:Nat}: ∀{ks:Ug}{pss:Ch},k∈ks->ks.length=pss.length->(dR k i ks pss).flatten.Perm (pss.flatten++[i])
 |[],_,h,_=>by simp at h
 |_::_,[],_,h=>by simp at h
 |c::ks,ps::pss,hk,hl=>by
  unfold dR;by_cases e:c=k
  .rw[iP e,flatten_cons,flatten_cons,aA,aA];exact List.Perm.append_left _ List.perm_append_comm
  .rw[iN e,flatten_cons,flatten_cons,aA];exact List.Perm.append_left _ (HX ((mC.mp hk).resolve_left λz=>e z.symm) (by simpa using hl))
theorem FC: ∀(r:Ug)(i:Nat)(ks:Ug)(pss:Ch),ks.length=pss.length->((iE r i ks pss).2.flatten).Perm (pss.flatten++List.range' i r.length)
 |[],i,ks,pss,_=>by rw[List.length_nil,List.range'_zero,aN];exact .refl _
 |k::r,i,ks,pss,h=>by
  unfold iE;rw[lC,List.range'_succ];by_cases hm:k∈ks
  .rw[iP hm];refine(FC r _ ks _ (by rw[qT h];exact h)).trans ?_;rw[show pss.flatten++i::List.range' _ r.length=(pss.flatten++[i])++List.range' _ r.length by rw[aA];rfl];exact List.Perm.append_right _ (HX hm h)
  .rw[iN hm];refine(FC r _ _ _ (by rw[lA,lA,h];rfl)).trans ?_;rw[List.flatten_append,aA];exact .refl _
section
variable{ts:Tb}{rs:Uj}
def CT:((gp ts rs).flatten).Perm (List.range rs.length):=by have h:=FC (rs.map (keyR ts)) 0 [] [] rfl;rw[List.flatten_nil, <-List.range_eq_range',lM]at h;exact h
def Si:(gp ts rs).flatten.Nodup:=CT.nodup_iff.mpr List.nodup_range
def Iz:Og rs (gp ts rs):=λps hp j hj=>mem_range.mp (CT.mem_iff.mp (List.mem_flatten.mpr ⟨ps,hp,hj⟩))
end
inductive Pk:List Nat->List (List Nat)->Prop
 |nil:Pk [] []
 |cons {x:Nat} {ps xs pss}:x∈ps->Pk xs pss->Pk (x::xs) (ps::pss)
def Pk.len{xs:Db}{pss:Ch}(h:Pk xs pss):xs.length=pss.length:=by
 induction h with
 |nil=>rfl
 |cons _ _ ih=>rw[lC,lC,ih]
def Pk.sub{xs:Db}{pss:Ch}(h:Pk xs pss): ∀x∈xs,x∈pss.flatten:=by
 induction h with
 |nil=>exact λx h=>by cases h
 |cons a _ ih=>
  exact λx hx=>by
   rw[flatten_cons,List.mem_append];rcases mC.mp hx with rfl|hx
   .exact .inl a
   .exact .inr (ih x hx)
def Pk.nd{xs:Db}{pss:Ch}(h:Pk xs pss):pss.flatten.Nodup->xs.Nodup:=by
 induction h with
 |nil=>exact λ_=>nodup_nil
 |cons a t ih=>
  exact λhn=>by rw[flatten_cons,nodup_append]at hn;exact nodup_cons.mpr ⟨λhx=>hn.2.2 _ a _ (t.sub _ hx) rfl,ih hn.2.1⟩
theorem Bb{x:Nat}: ∀{ps:Db},ps.Nodup->x∈ps->(ps.filter (λz=>decide (z=x))).length=1
 |[],_,h=>by cases h
 |p::ps,hn,h=>by
  obtain⟨n1,n2⟩:=nodup_cons.mp hn;by_cases e:p=x
  .subst e;rw[List.filter_cons_of_pos (by simp),List.filter_eq_nil_iff.mpr λz hz=>by simp;rintro rfl;exact n1 hz];rfl
  .rw[List.filter_cons_of_neg (by simpa using e)];exact Bb n2 ((mC.mp h).resolve_left λz=>e z.symm)
def Pk.one{xs:Db}{pss:Ch}(h:Pk xs pss):pss.flatten.Nodup-> ∀ps∈pss, ∀zs:List Nat,(∀z,z∈ps->(z∈zs↔z∈xs))->(ps.filter (λz=>decide (z∈zs))).length=1:=by
 induction h with
 |nil=>exact λ_ ps h=>by cases h
 |@cons x p xs pss a t ih=>
  exact λhn ps hp zs hz=>by
   rw[flatten_cons,nodup_append]at hn;obtain⟨n1,n2,n3⟩:=hn;rcases mC.mp hp with rfl|hp
   .have e:ps.filter (λz=>decide (z∈zs))=ps.filter (λz=>decide (z=x)):=List.filter_congr λz hzp=>by rw[decide_eq_decide,hz z hzp,mC];exact⟨λq=>q.resolve_right λq=>n3 z hzp z (t.sub z q) rfl,.inl⟩
    rw[e];exact Bb n1 a
   .refine ih n2 ps hp zs λz hzp=>(hz z hzp).trans ?_;rw[mC];exact⟨λq=>q.resolve_left λq=>n3 x a z (List.mem_flatten.mpr ⟨ps,hp,hzp⟩) q.symm,.inr⟩
theorem Bc(mx:Bool)(w:Nat->Int): ∀{pss:Ch},Ps pss->Pk (pss.map (bs mx w)) pss
 |[],_=>.nil
 |ps::pss,h=>.cons (Az (h ps mF0).1) (Bc mx w λq hq=>h q (mO _ hq))
theorem Ja: ∀{pss:Ch}{n:Int},Ps pss->Pk (pk pss n) pss
 |[],_,_=>.nil
 |ps::pss,n,h=>by
  have h1:=(h ps mF0).1;have h2:n % _<(ps.length:Nat):=eL _ (by omega);have h3:(n % (ps.length:Nat)).toNat<ps.length:=by omega
  refine .cons ?_ (Ja λq hq=>h q (mO _ hq));rw[gE h3];exact getElem_mem h3
def Pk.snoc{x:Nat}{ps:Db}(a:x∈ps){xs:Db}{pss:Ch}(h:Pk xs pss):Pk (xs++[x]) (pss++[ps]):=by
 induction h with
 |nil=>exact .cons a .nil
 |cons b _ ih=>exact .cons b ih
def Pk.rev{xs:Db}{pss:Ch}(h:Pk xs pss):Pk xs.reverse pss.reverse:=by
 induction h with
 |nil=>exact .nil
 |cons b _ ih=>rw[reverse_cons,reverse_cons];exact ih.snoc b
def Bd{mx:Bool}{w:Nat->Int}{ps:Db}{x:Nat}(h:x∈ps):if mx then w x<=w (bs mx w ps)else w (bs mx w ps)<=w x:=by
 cases ps with
 |nil=>cases h
 |cons p ps=>
  show if mx then w x<=w (WX mx w p ps)else w (WX mx w p ps)<=w x;rw[CQ mx w ps p];exact(tZ mx _ (w p)).2 (w x) (by rw[<-List.map_cons];exact List.mem_map_of_mem h)
def Pk.sum{w:Nat->Int}{xs:Db}{pss:Ch}(h:Pk xs pss):((pss.map (bs false w)).map w).sum<=(xs.map w).sum/\(xs.map w).sum<=((pss.map (bs true w)).map w).sum:=by
 induction h with
 |nil=>exact⟨Int.le_refl _,Int.le_refl _⟩
 |cons a _ ih=>
  have h1:=Bd (mx:=false) (w:=w) a;have h2:=Bd (mx:=true) (w:=w) a;simp only[List.map_cons,List.sum_cons,fT,iF,if_true]at h1 h2 ih ⊢;omega
theorem NQ{e:MV->MV->Option Bool}: ∀{ds:Ug},(∀d∈ds,e d d=some true)->vO e ds ds=some (ds.map λ_=>true)
 |[],_=>rfl
 |d::ds,h=>by unfold vO;rw[h d mF0,NQ λa ha=>h a (mO _ ha)];rfl
theorem WL(ds:Ug):(ds.map λ_=>true).all id=true:=by rw[List.all_eq_true];intro b hb;obtain⟨_,_,rfl⟩:=mM.mp hb;rfl
theorem Oi{S:Sto}(is:Tc):LM (.new (is.map MV.int)) (.new (is.map MV.int)) S=.ok (.val (.bl false)) S:=by
 have q:DL S zH (.new (is.map MV.int)) (.new (is.map MV.int))=some true:=by show(if(is.map MV.int).length=(is.map MV.int).length then(vO (eqv S 40) _ _).map λbs=>bs.all id else some false)=_;rw[iP rfl,NQ λd hd'=>by obtain⟨i,_,rfl⟩:=mM.mp hd';rw[BS];simp];show some (((is.map MV.int).map λ_=>true).all id)=_;rw[WL]
 unfold LM;rw[q];rfl
theorem Hn(S:Sto):LL (.new []) (.new []) S=.ok (.val (.bl true)) S:=rfl
def Oj{S:Sto}{i:Int}{is:Tc}:VE false (.val (.int i)) (.val (.tup (is.map MV.int))) S=.ok (.val (.bl (decide (i∈is)))) S:=by
 show vS false (.val _) (.val (.tup _)) S=_;unfold vS;rw[show itemsOf S _=some _ from rfl];dsimp only;rw[ET (ES i) λy hy=>by obtain⟨j,_,rfl⟩:=mM.mp hy;rw[nW];exact⟨rfl,by decide⟩];dsimp only;rw[iN xF0,List.map_map,List.any_map];congr 3;by_cases hm:i∈is
 .rw[dT0 hm,List.any_eq_true];exact⟨i,hm,by simp⟩
 .rw[dF0 hm,List.any_eq_false];intro y hy;simp only[Function.comp,id,decide_eq_true_eq,MV.int.injEq];rintro rfl;exact hm hy
theorem NS: ∀(zs M:Tc),(zs++M).Nodup->zs.foldl BE M=zs.reverse++M
 |[],M,_=>rfl
 |z::zs,M,h=>by rw[List.cons_append,nodup_cons]at h;rw[List.foldl_cons,show BE M z=z::M from iN λm=>h.1 (List.mem_append_right _ m),NS zs _ (List.perm_middle.nodup_iff.mpr (nodup_cons.mpr h)),reverse_cons,aA];rfl
def Be{S:Sto}{is:Tc}(h:is.Nodup)(hs:is.Pairwise (· <=·))(hl:is.length<64):HR [.val (.tup (is.map MV.int))] S=.ok (.new (is.map MV.int)) S:=by
 have e1:dG is=is.reverse:=by unfold dG;rw[NS is [] (by rwa [aN]),aN]
 have e2:=(PySem.W.eq_sortI (List.reverse_perm is).symm hs).symm;have e3:intsOf (is.map MV.int)=some is:=by have:=ints_map is id;rwa [List.map_id]at this
 unfold HR;dsimp only;rw[show srcOf S _=some ⟨false,is.map MV.int,[]⟩from rfl];dsimp only;rw[e3];dsimp only;rw[iP hl,e1,e2]
section
variable{ts:Tb}{rs:Uj}{t c:Nat}
def Ho(hr: ∀r∈rs,eQ ts r)(hc:NN ts t c){j:Nat}(hj:j<rs.length)(S:Sto):zQ 4 kZ [.val (.tup (rs.map zG)),.val (zF j),.val (.int (t:Nat)),.val (.int (c:Nat))] S=.ok (.val (.int (wt rs t c j))) S:=xV rfl (by
 have hx:(rs.map zG)[j]? =some (zG rs[j]):=by rw[getElem?_map,gE hj];rfl
 have hw:wt rs t c j=cnt t c rs[j]:=by unfold wt;rw[gE hj];rfl
 have h:=hr _ (getElem_mem hj);rw[hw];generalize rs[j]=r at *;have i0: ∀S,yR (.val (zG r)) (.val (.int 0)) S=.ok _ S:=λS=>rfl;have i1: ∀S,yR (.val (zG r)) (.val (.int 1)) S=.ok _ S:=λS=>rfl;show zX (nU [some _,some (.int (j:Nat)),some _,some _] S)=_;unfold nU;by_cases e:r.1=t
 .have e':((r.1:Nat):Int)=(t:Nat):=by rw[e]
  obtain⟨d,h1,h2⟩:=Ay hc h e;unfold cnt;rw[iP e,h1];rcases h2.cases with⟨i,rfl,_⟩|⟨x,rfl,_⟩
  .rw[zA (show yO [some _,some (.int (j:Nat)),some (.int (t:Nat)),some (.int (c:Nat))] S=.ok (.next [some (.tup (rs.map zG)),some (.int (j:Nat)),some (.int (t:Nat)),some (.int (c:Nat))]) S by unfold yO;simp? [i0,i1,ix_tup (S:=S) (bI hx),ne_int,dT0 e',Bool.not_true,fT,iF,ix_tup (S:=S) (bI h1),ZD])];unfold eF;simp? [i1,ix_tup (S:=S) (bI hx),ix_tup (S:=S) (bI h1)];rfl
  .rw[tT (show yO [some _,some _,some _,some (.int (c:Nat))] S=.ok (.ret (.val (.int 0))) S by unfold yO;simp? [i0,i1,ix_tup (S:=S) (bI hx),ne_int,dT0 e',Bool.not_true,fT,iF,ix_tup (S:=S) (bI h1),ZE])];rfl
 .unfold cnt;rw[iN e,tT (show yO [some _,some (.int (j:Nat)),some (.int (t:Nat)),some (.int (c:Nat))] S=.ok (.ret (.val (.int 0))) S by unfold yO;simp? [i0,ix_tup (S:=S) (bI hx),ne_int,dF0 (show¬((r.1:Nat):Int)=(t:Nat)from λz=>e (by omega)),Bool.not_false])];rfl) (wA _ _) (λl=>by simp)
def Jb(i:Int)(S:Sto):zQ 1 wD [.val (.int i)] S=.ok (.val (.bl true)) S:=bH rfl (by show zX _=_;rfl)
theorem NT{gf:MV->Rho->Sto->R Rho}{cf:AZ}{ef:AX}{ρb:Rho}{gs:Uj}{S:Sto}{b:Nat->Bool}(hs:stay gs S):
  ∀{ps:Db},(∀j∈ps, ∃ρ1,gf (zF j) ρb S=.ok ρ1 S/\cf ρ1 S=.ok (b j) S/\ef ρ1 S=.ok (.val (zF j)) S)->kI gf cf ef ρb gs (ps.map zF) S=.ok ((ps.filter b).map zF) S
 |[],_=>rfl
 |j::ps,st=>by
  obtain⟨ρ1,h1,h2,h3⟩:=st j mF0;have e:=NT hs λq hq=>st q (mO _ hq);rw[List.map_cons];unfold kI;rw[h1,gT,aP,h2,gT,aP]
  cases hb:b j with
  |true=>
   rw[h3,gT,aP];unfold jG;rw[aP,iP hs,e,List.filter_cons_of_pos hb];rfl
  |false=>rw[iN xF0,iP hs,e,List.filter_cons_of_neg (by rw[hb];decide)]
def Hq{xs:Db}{j:Nat}:((j:Nat):Int)∈sI xs↔j∈xs:=by rw[KE];exact⟨λ⟨k,h,e⟩=>by rw[show j=k by omega];exact h,λh=>⟨j,h,rfl⟩⟩
theorem Bf{xs ps:Db}{L l:Nat}{S:Sto}(hS:S[l]? =some (.lst (ps.map zF)))(hz:ps.length<=64)(h1:(ps.filter λz=>decide (z∈xs)).length=1){d:MV}(hd:d=.loc l):
  ∃ρ1,wR 0 d [none,some (tI xs)] S=.ok ρ1 S/\yB ρ1 S=.ok false S:=by
 subst hd;refine⟨[some _,some _],rfl,?_⟩;have hc:=NT (gf:=wR 0) (cf:=yZ) (ef:=wG) (ρb:=[none,some _]) (aR hS) (ps:=ps) λj hj=>by refine⟨[some _,some (tI xs)],rfl,?_,rfl⟩;unfold yZ zF;simp? [Oj];rw[show decide _=decide _ from decide_eq_decide.mpr Hq]
 unfold yB;simp? [tW hS,lM,show(ps.length<1000000)=True from eq_true (by omega),show GA 1 [1] [some _,some _]=[none,some _]from rfl,hc,show∀ds S,kL [.new ds] S=.ok _ S from λds S=>rfl,h1];rfl
theorem UC{xs:Db}{L:Nat}{S:Sto}{all:Ug}(hL:S[L]? =some (.lst all)): ∀{ls:Ug}{pss:Ch},LsAt S ls pss->Ps pss->(∀ps∈pss,(ps.filter λz=>decide (z∈xs)).length=1)->kI (wR 0) yB wH [none,some (tI xs)] [(L,all)] ls S=.ok [] S
 |_,_,.nil,_,_=>rfl
 |_,_,.cons (ps:=ps) h tl,hp,h1=>by obtain⟨ρ1,a1,a2⟩:=Bf (L:=L) h (hp ps mF0).2 (h1 ps mF0) rfl;have e:=UC hL tl (λq hq=>hp q (mO _ hq)) λq hq=>h1 q (mO _ hq);unfold kI;rw[a1,gT,aP,a2,gT,aP,iN xF0,iP (aR hL),e]
theorem NU{q:MV}{tl:MV}{S:Sto}: ∀(is:Tc)(x:Uh), ∃x',dD (wR 2) yP [] (is.map MV.int) [some q,some tl,x] S=.ok (.next [some q,some tl,x']) S
 |[],x=>⟨x,rfl⟩
 |i::is,x=>by
  obtain⟨x',e⟩:=NU is _;refine⟨x',?_⟩;have hb:yP [some q,some tl,some (.int i)] S=.ok (.next [some q,some tl,some (.int i)]) S:=by unfold yP wF;simp? [Jb,Bool.not_true,fT,iF]
  rw[List.map_cons,xL rfl hb (kM S)];exact e
def Sj{xs:Db}{L:Nat}{S:Sto}{ls:Ug}{pss:Ch}(hL:S[L]? =some (.lst ls))(hA:LsAt S ls pss)(hp:Ps pss)(hg:pss.length<=60)(hn:pss.flatten.Nodup)(hx:Pk xs pss):
  zQ 2 wK [.val (.loc L),.val (tI xs)] S=.ok (.val (.bl true)) S:=bH rfl (by
 show zX (wI [some _,some _,none] S)=_;have hl:=hx.len;have nd:(sI xs).Nodup:=(CS xs).nodup_iff.mpr (List.pairwise_map.mpr ((hx.nd hn).imp λn e=>n (Int.ofNat.inj e)));have e1:xM [some (.loc L),some (tI xs),none] S=.ok (.next [some (.loc L),some (tI xs),none]) S:=by unfold xM;simp? [ZF,Bool.not_true,fT,iF,oF,lM,FA,JY hL,hA.length,hl,ne_int,decide_true,Be nd (PySem.W.sortI_rises _) (by rw[FA];omega),show∀ds S,LQ [.val (.tup ds)] S=.ok _ S from λ_ _=>rfl,Oi]
 obtain⟨x',hw⟩:=NU (sI xs) none;have e2:xN [some (.loc L),some (tI xs),none] S=.ok (.next [some (.loc L),some (tI xs),x']) S:=by unfold xN;simp? [show∀(ds:Ug) _,UY (.val (.tup ds)) S=.ok ⟨ds,[]⟩ S from λds S=>rfl];exact hw
 have hall:=λps hps=>hx.one hn ps hps xs λz _=>Iff.rfl;have hlz:=hA.length;have e3:xO [some (.loc L),some (tI xs),x'] S=.ok (.ret (.val (.bl true))) S:=by unfold xO;simp? [tW hL,show(ls.length<1000000)=True from eq_true (by omega),show GA 1 [1] [some _,some (tI xs),x']=[none,some _]from rfl,UC hL hA hp hall,Qx,Hn]
 unfold wI;rw[zA e1,zA e2,e3];rfl)
end
theorem QW(w:Nat->Int): ∀(ps:Db),intsOf (ps.map λj=>MV.int (w j))=some (ps.map w)
 |[]=>rfl
 |p::ps=>by show(intsOf _).map _=_;rw[QW w ps];rfl
theorem Jc(mx:Bool)(w:Nat->Int){l:Nat}{ps:Db}{S:Sto}(hS:S[l]? =some (.lst (ps.map λj=>MV.int (w j))))(hne:1<=ps.length):Ou mx [.val (.loc l)] S=.ok (.val (.int (w (bs mx w ps)))) S:=by
 cases ps with
 |nil=>cases hne
 |cons p ps=>
  unfold Ou;dsimp only;rw[aQ hS];dsimp only;rw[QW w _];show(R.ok _ S:R Er)=_;rw[<-CQ];rfl
def Hr{S:Sto}{d e:MV}(hd:pd d=true)(he:pd e=true)(h:uR d<40):LM (.val d) (.val e) S=.ok (.val (.bl (!decide (d=e)))) S:=YZ (lH _ hd he (by unfold zH;omega))
def Je(xs:Db):pd (tI xs)=true/\uR (tI xs)<=1:=by
 refine⟨?_,?_⟩
 .rw[bG];exact qR λd hd=>by obtain⟨i,_,rfl⟩:=mM.mp hd;exact ES i
 .rw[jA];exact succ_le_succ (qS λd hd=>by obtain⟨i,_,rfl⟩:=mM.mp hd;rw[nW];exact Nat.le_refl _)
section
variable{ts:Tb}{rs:Uj}{t c:Nat}
def Sk:pd (FV ts rs t c)=true/\uR (FV ts rs t c)<8:=by
 have a:=Je (FB false ts rs t c);have b:=Je (FB true ts rs t c);refine⟨?_,?_⟩
 .rw[bG,yQ,yQ,yQ,yQ,a.1,b.1];rfl
 .rw[jA,yK,yK,yK,yK,lG,nW,nW];omega
def Bg(hr: ∀r∈rs,eQ ts r)(hc:NN ts t c){gs:Uj}{S:Sto}(hs:stay gs S){ef:AX}(he: ∀j:Nat,ef [some (zF j),some (gG ts rs),some (zF t),some (zF c)] S=zQ 4 kZ [.val (.tup (rs.map zG)),.val (zF j),.val (.int (t:Nat)),.val (.int (c:Nat))] S){cf:AZ}(hcf: ∀ρ S,cf ρ S=.ok true S):
  ∀{ps:Db},(∀j∈ps,j<rs.length)->kI (wR 0) cf ef [none,some (gG ts rs),some (zF t),some (zF c)] gs (ps.map zF) S=.ok (ps.map λj=>.int (wt rs t c j)) S:=λ{ps} hp=>by
 have h:=pF (gf:=wR 0) (ρb:=[none,some _,some _,some _]) (F:=λd=>.int (wt rs t c (NL d).toNat)) hs λd hd=>by obtain⟨j,hj,rfl⟩:=mM.mp hd;exact⟨_,rfl,hcf _ _,(he j).trans (Ho hr hc (hp j hj) S)⟩
 rw[List.map_map]at h;exact h
abbrev qU(ts:Tb)(rs:Uj)(L t c:Nat)(s a b x y z:Uh):Rho:=[some (gG ts rs),some (.loc L),some (zF t),some (zF c),s,a,b,x,y,z]
theorem UD{L:Nat}{all:Ug}{s z:Uh}(hr: ∀r∈rs,eQ ts r)(hc:NN ts t c): ∀{pss:Ch}{ls:Ug}{S:Sto},S[L]? =some (.lst all)->LsAt S ls pss->Ps pss->Og rs pss-> ∀(a b:Int)(x y:Uh), ∃x' y' T,
  dD (wR 7) bF [(L,all)] ls (qU ts rs L t c s (some (.int a)) (some (.int b)) x y z) S=
  .ok (.next (qU ts rs L t c s (some (.int (a+((pss.map (bs false (wt rs t c))).map (wt rs t c)).sum))) (some (.int (b+((pss.map (bs true (wt rs t c))).map (wt rs t c)).sum))) x' y' z)) (S++T)
 |_,_,S,_,.nil,_,_,a,b,x,y=>⟨x,y,[],by rw[aN];simp[dD]⟩
 |_,_,S,hL,.cons (l:=l) (ps:=ps) (ls:=ls) (pss:=pss) h tl,hp,hi,a,b,x,y=>by
  have hv:(S++[MO.lst (ps.map λj=>MV.int (wt rs t c j))])[S.length]? =some (.lst (ps.map λj=>MV.int (wt rs t c j))):=CP _ _;have h1:=(hp ps mF0).1;have h2:=(hp ps mF0).2;obtain⟨x',y',T,e⟩:=UD (L:=L) (all:=all) (s:=s) (z:=z) hr hc (sR hL) tl.app (λq hq=>hp q (mO _ hq)) (λq hq=>hi q (mO _ hq)) (a+wt rs t c (bs false (wt rs t c) ps)) (b+wt rs t c (bs true (wt rs t c) ps)) (some (.loc l)) (some (.loc S.length));refine⟨x',y',[MO.lst (ps.map λj=>MV.int (wt rs t c j))]++T,?_⟩;have b1:cJ (qU ts rs L t c s (some (.int a)) (some (.int b)) (some (.loc l)) y z) S=.ok (.next (qU ts rs L t c s (some (.int a)) (some (.int b)) (some (.loc l)) (some (.loc S.length)) z)) (S++[MO.lst (ps.map λj=>MV.int (wt rs t c j))]):=by unfold cJ;simp? [tW h,lM,show(ps.length<1000000)=True from eq_true (by omega),show GA 1 [0,2,3] (qU ts rs L t c s (some (.int a)) (some (.int b)) (some (.loc l)) y z)=[none,some (gG ts rs),some (zF t),some (zF c)]from rfl,Bg hr hc (aR h) (ef:=lB) (λj=>rfl) (cf:=iZ) (λ_ _=>rfl) (hi ps mF0)]
  have b2:cK (qU ts rs L t c s (some (.int a)) (some (.int b)) (some (.loc l)) (some (.loc S.length)) z) (S++[MO.lst (ps.map λj=>MV.int (wt rs t c j))])=.ok (.next (qU ts rs L t c s (some (.int (a+wt rs t c (bs false (wt rs t c) ps)))) (some (.int b)) (some (.loc l)) (some (.loc S.length)) z)) (S++[MO.lst (ps.map λj=>MV.int (wt rs t c j))]):=by unfold cK;simp? [Jc false _ hv h1]
  have b3:cL (qU ts rs L t c s (some (.int (a+wt rs t c (bs false (wt rs t c) ps)))) (some (.int b)) (some (.loc l)) (some (.loc S.length)) z) (S++[MO.lst (ps.map λj=>MV.int (wt rs t c j))])=.ok (.next (qU ts rs L t c s (some (.int (a+wt rs t c (bs false (wt rs t c) ps)))) (some (.int (b+wt rs t c (bs true (wt rs t c) ps)))) (some (.loc l)) (some (.loc S.length)) z)) (S++[MO.lst (ps.map λj=>MV.int (wt rs t c j))]):=by unfold cL;simp? [Jc true _ hv h1]
  have hb:bF (qU ts rs L t c s (some (.int a)) (some (.int b)) (some (.loc l)) y z) S=.ok (.next (qU ts rs L t c s (some (.int (a+wt rs t c (bs false (wt rs t c) ps)))) (some (.int (b+wt rs t c (bs true (wt rs t c) ps)))) (some (.loc l)) (some (.loc S.length)) z)) (S++[MO.lst (ps.map λj=>MV.int (wt rs t c j))]):=by unfold bF;rw[zA b1,zA b2,b3]
  rw[xL rfl hb (aR (sR hL)),e];simp only[List.map_cons,List.sum_cons,aA,Int.add_assoc]
def Bh{L:Nat}{ls:Ug}{S:Sto}{xs:Db}{k:Int}{s x y a b:Uh}{told:MV}(hr: ∀r∈rs,eQ ts r)(hc:NN ts t c)(hL:S[L]? =some (.lst ls))(hA:LsAt S ls (gp ts rs))(hp:Ps (gp ts rs))(hg:(gp ts rs).length<=60)(hx:Pk xs (gp ts rs))(hs:s=some told)
  (i0: ∀S,yR (.val told) (.val (.int k)) S=.ok (.val (tI xs)) S) (i1: ∀S,yR (.val told) (.val (.int (k - 1))) S=.ok (.val (.int ((xs.map (wt rs t c)).sum))) S):
  eG (qU ts rs L t c s a b x y (some (.int k))) S=.ok (.next (qU ts rs L t c s a b x y (some (.int k)))) S:=by
 subst hs;have hin: ∀j∈xs,j<rs.length:=λj hj=>mem_range.mp (CT.mem_iff.mp (hx.sub j hj));have b1:cM (qU ts rs L t c (some told) a b x y (some (.int k))) S=.ok (.next (qU ts rs L t c (some told) a b x y (some (.int k)))) S:=by unfold cM;simp? [i0,Sj hL hA hp hg Si hx,Bool.not_true,fT,iF]
 have hq:(sI xs).map MV.int=((sI xs).map Int.toNat).map zF:=by rw[List.map_map];exact List.map_congr_left λi hi=>by obtain⟨j,_,rfl⟩:=KE.mp hi;rfl
 have hm:=Bg hr hc (kM S) (ef:=lF) (λj=>rfl) (cf:=lE) (λ_ _=>rfl) (ps:=(sI xs).map Int.toNat) λj hj=>by obtain⟨i,hi,rfl⟩:=mM.mp hj;obtain⟨j,h1,rfl⟩:=KE.mp hi;exact hin _ h1
 rw[<-hq]at hm;have hsm: ∀S,sumF [.new (((sI xs).map Int.toNat).map λj=>MV.int (wt rs t c j))] S=.ok (.val (.int ((xs.map _).sum))) S:=λS=>by rw[UA (QW _ _) S, <-KF (t:=t) (c:=c) xs,List.map_map];rfl
 have b2:cN (qU ts rs L t c (some told) a b x y (some (.int k))) S=.ok (.next (qU ts rs L t c (some told) a b x y (some (.int k)))) S:=by unfold cN;have hlen:((sI xs).length<1000000)=True:=eq_true (by rw[FA,hx.len];omega);simp? [i0,i1,show∀(ds:Ug)(S:Sto),UY (.val (.tup ds)) S=.ok ⟨ds,[]⟩ S from λds S=>rfl,lM,hlen,show GA 1 [0,2,3] (qU ts rs L t c (some told) a b x y _)=[none,some (gG ts rs),some (zF t),some (zF c)]from rfl,hm,hsm,ne_int,decide_true,Bool.not_true,fT,iF]
 unfold eG;rw[zA b1,b2]
theorem Hs{L:Nat}{ls:Ug}{S:Sto}(hT:vY ts)(hr: ∀r∈rs,eQ ts r)(hl:rs.length<=60)(hp:Ps (gp ts rs))(hg:(gp ts rs).length<=60)(hL:S[L]? =some (.lst ls))(hA:LsAt S ls (gp ts rs))(hc:NN ts t c):
  zQ 4 nV [.val (gG ts rs),.val (.loc L),.val (.int (t:Nat)),.val (.int (c:Nat))] S=.ok (.val (.bl true)) S:=by
 have hi:Og rs (gp ts rs):=Iz;have cs:=λS=>Ba hT hr hl hp hg hi hc S;have e1:eH (qU ts rs L t c none none none none none none) S=.ok (.next (qU ts rs L t c (some (FV ts rs t c)) none none none none none)) S:=by unfold eH qU zF;simp? [cs]
 have e2:eI (qU ts rs L t c (some (FV ts rs t c)) none none none none none) S=.ok (.next (qU ts rs L t c (some (FV ts rs t c)) none none none none none)) S:=by unfold eI;simp? [show kL [.val (FV ts rs t c)] S=.ok (.val (.int 4)) S from rfl,ne_int,decide_true,Bool.not_true,fT,iF]
 obtain⟨x',y',T,hf⟩:=UD (s:=some (FV ts rs t c)) (z:=none) hr hc hL hA hp hi 0 0 none none;rw[Int.zero_add,Int.zero_add]at hf;have e5:eK (qU ts rs L t c (some (FV ts rs t c)) (some (.int 0)) (some (.int 0)) none none none) S=.ok (.next (qU ts rs L t c (some (FV ts rs t c)) (some (.int (ext false ts rs t c))) (some (.int (ext true ts rs t c))) x' y' none)) (S++T):=by unfold eK;simp? [tW hL];exact hf
 generalize hU:S++T=U at *;have uL:U[L]? =some (.lst ls):=by rw[<-hU];exact sR hL
 have uA:LsAt U ls (gp ts rs):=by rw[<-hU];exact hA.app
 have j0: ∀S,yR (.val (FV ts rs t c)) (.val (.int 0)) S=.ok (.val (.int (ext false ts rs t c))) S:=λS=>rfl;have j1: ∀S,yR (.val (FV ts rs t c)) (.val (.int 1)) S=.ok (.val (tI (FB false ts rs t c))) S:=λS=>rfl;have j2: ∀S,yR (.val (FV ts rs t c)) (.val (.int 2)) S=.ok (.val (.int (ext true ts rs t c))) S:=λS=>rfl;have j3: ∀S,yR (.val (FV ts rs t c)) (.val (.int 3)) S=.ok (.val (tI (FB true ts rs t c))) S:=λS=>rfl
 have np:LM (.val (.tup [.int (ext false ts rs t c),.int (ext true ts rs t c)])) (.val (.tup [.int (ext false ts rs t c),.int (ext true ts rs t c)])) U=.ok (.val (.bl false)) U:=by
  have h:pd (.tup [.int (ext false ts rs t c),.int (ext true ts rs t c)])=true:=by rw[bG,yQ,yQ,TH,ES,ES];rfl
  rw[Hr h h (by rw[jA,yK,yK,lG,nW,nW];decide),dT0 rfl];rfl
 have e6:eM (qU ts rs L t c (some (FV ts rs t c)) (some (.int (ext false ts rs t c))) (some (.int (ext true ts rs t c))) x' y' none) U=.ok (.next (qU ts rs L t c (some (FV ts rs t c)) (some (.int (ext false ts rs t c))) (some (.int (ext true ts rs t c))) x' y' none)) U:=by unfold eM;simp? [j0,j2,Jb,Bool.not_true,fT,iF,np]
 have e7:eO (qU ts rs L t c (some (FV ts rs t c)) (some (.int (ext false ts rs t c))) (some (.int (ext true ts rs t c))) x' y' none) U=.ok (.next (qU ts rs L t c (some (FV ts rs t c)) (some (.int (ext false ts rs t c))) (some (.int (ext true ts rs t c))) x' y' (some (.int 3)))) U:=by
  unfold eO;simp? [show∀(ds:Ug)(S:Sto),UY (.val (.tup ds)) S=.ok ⟨ds,[]⟩ S from λds S=>rfl]
  rw[xL rfl (Bh hr hc uL uA hp hg (Bc false (wt rs t c) hp) rfl j1 (λS=>rfl)) (kM U),
   xL rfl (Bh hr hc uL uA hp hg (Bc true (wt rs t c) hp) rfl j3 (λS=>rfl)) (kM U)]
  rfl
 have e8:eP (qU ts rs L t c (some (FV ts rs t c)) (some (.int (ext false ts rs t c))) (some (.int (ext true ts rs t c))) x' y' (some (.int 3))) U=.ok (.ret (.val (.bl true))) U:=by unfold eP qU zF;have h:=Sk (ts:=ts) (rs:=rs) (t:=t) (c:=c);simp? [cs,TJ (S:=U) h.1 h.1 (by omega),decide_true]
 refine uU (as:=[gG ts rs,.loc L,.int (t:Nat),.int (c:Nat)]) (S':=U) rfl rfl ?_ (λm o h=>by rw[<-hU];exact sR h) (Ih _ _) (λl=>by simp);show zX (oE (qU ts rs L t c none none none none none none) S)=_;unfold oE;rw[zA e1,zA e2,zA (show pP _ S=.ok (.next (qU ts rs L t c (some (FV ts rs t c)) (some (.int 0)) none none none none)) S from rfl),zA (show pQ _ S=.ok (.next (qU ts rs L t c (some (FV ts rs t c)) (some (.int 0)) (some (.int 0)) none none none)) S from rfl),zA e5,zA e6,zA e7,e8];rfl
end
section
variable{ts:Tb}{rs:Uj}
abbrev sY(q:MV)(ts:Tb)(hd:Int)(rs:Uj)(L:Nat)(m t c x10 x11 x12 x13 x14 x15:Uh):Rho:=[some q,some (.loc 0),some (.tup (ts.map tbl)),some (.int hd),some (.tup (rs.map zG)),some (gG ts rs),some (.loc L),m,t,c,x10,x11,x12,x13,x14,x15]
theorem Bi{ns:Tc}{hd:Int}{L t c:Nat}{S:Sto}{o1 o2:Uh}(hT:vY ts)(hr: ∀r∈rs,eQ ts r)(hl:rs.length<=60)(hp:Ps (gp ts rs))(hg:(gp ts rs).length<=60)(hc:NN ts t c):
  ∀(ks:Db)(x14 x15:Uh), ∃y14 y15,dD (wR 14) BW [] (ks.map zF) (sY (.scr (ns.map MV.int)) ts hd rs L (some (.int (mn (gp ts rs) 1))) (some (zF t)) (some (zF c)) (some (.int (ext false ts rs t c))) o1 (some (.int (ext true ts rs t c))) o2 x14 x15) S=
   .ok (.next (sY (.scr (ns.map MV.int)) ts hd rs L (some (.int (mn (gp ts rs) 1))) (some (zF t)) (some (zF c)) (some (.int (ext false ts rs t c))) o1 (some (.int (ext true ts rs t c))) o2 y14 y15)) S
 |[],x14,x15=>⟨x14,x15,rfl⟩
 |k::ks,x14,x15=>by
  obtain⟨ce,h3⟩:=CO ns (3+(k:Nat)) (by omega) S;have m0:0<mn (gp ts rs) 1:=Aw hp (by decide);have n0:0<=ce * 48271 % mn (gp ts rs) 1:=eN _ (by omega);have n1:ce * 48271 % mn (gp ts rs) 1<mn (gp ts rs) 1:=eL _ m0;have ml:vQ (.val (.int ce)) (.val (.int 48271)) S=.ok (.val (.int (ce * 48271))) S:=tS (by decide) _ _;have md:bT (.val (.int (ce * 48271))) _ S=.ok _ S:=mod_lit m0 _ _;generalize ce * 48271 % mn (gp ts rs) 1=nu at n0 n1 md;have hk:Pk (pk (gp ts rs).reverse nu) (gp ts rs).reverse:=Ja hp.rev;have hk2:Pk (pk (gp ts rs).reverse nu).reverse (gp ts rs):=by have:=hk.rev;rwa [List.reverse_reverse]at this
  have hin: ∀j∈pk (gp ts rs).reverse nu,j<rs.length:=λj hj=>mem_range.mp (CT.mem_iff.mp (hk2.sub j (mem_reverse.mpr hj)));have hs:=Iv (t:=t) (c:=c) hr hc (Iw hin) (by rw[FA,QU,List.length_reverse];omega) S;have bd:=hk2.sum (w:=wt rs t c);rw[NP ((List.reverse_perm (pk (gp ts rs).reverse nu)).map (wt rs t c)), <-KF (rs:=rs) (t:=t) (c:=c) (pk (gp ts rs).reverse nu)]at bd;obtain⟨y14,y15,e⟩:=Bi (ns:=ns) (hd:=hd) (L:=L) (S:=S) (o1:=o1) (o2:=o2) hT hr hl hp hg hc ks (some (zF k)) _;refine⟨y14,y15,?_⟩;have b1:qL (sY (.scr (ns.map MV.int)) ts hd rs L (some (.int (mn (gp ts rs) 1))) (some (zF t)) (some (zF c)) (some (.int (ext false ts rs t c))) o1 (some (.int (ext true ts rs t c))) o2 (some (zF k)) x15) S=.ok (.next (sY (.scr (ns.map MV.int)) ts hd rs L (some (.int (mn (gp ts rs) 1))) (some (zF t)) (some (zF c)) (some (.int (ext false ts rs t c))) o1 (some (.int (ext true ts rs t c))) o2 (some (zF k)) (some (.int (NO rs t c (sI (pk (gp ts rs).reverse nu))))))) S:=by unfold qL sY zF;simp? [h3,ml,md,NH hT hr hl hp hg n0 n1,hs]
  have b2:qM (sY (.scr (ns.map MV.int)) ts hd rs L (some (.int (mn (gp ts rs) 1))) (some (zF t)) (some (zF c)) (some (.int (ext false ts rs t c))) o1 (some (.int (ext true ts rs t c))) o2 (some (zF k)) (some (.int (NO rs t c (sI (pk (gp ts rs).reverse nu)))))) S=.ok (.next (sY (.scr (ns.map MV.int)) ts hd rs L (some (.int (mn (gp ts rs) 1))) (some (zF t)) (some (zF c)) (some (.int (ext false ts rs t c))) o1 (some (.int (ext true ts rs t c))) o2 (some (zF k)) (some (.int (NO rs t c (sI (pk (gp ts rs).reverse nu))))))) S:=by unfold qM;simp? [PB,le_int,dT0 bd.1,dT0 bd.2,eZ,Bool.not_true,fT,iF]
  rw[List.map_cons,xL (show wR 14 (zF k) _ S=.ok (sY (.scr (ns.map MV.int)) ts hd rs L (some (.int (mn (gp ts rs) 1))) (some (zF t)) (some (zF c)) _ o1 _ o2 (some (zF k)) x15) S from rfl) (by unfold BW;rw[zA b1,b2]) (kM S)];exact e
theorem Bj{ns:Tc}{hd:Int}{L t:Nat}{S:Sto}{ls:Ug}(hT:vY ts)(hr: ∀r∈rs,eQ ts r)(hl:rs.length<=60)(hp:Ps (gp ts rs))(hg:(gp ts rs).length<=60)(hL:S[L]? =some (.lst ls))(hA:LsAt S ls (gp ts rs)):
  ∀(cs:Db),(∀c∈cs,NN ts t c)-> ∀(x9 x10 x11 x12 x13 x14 x15:Uh), ∃y9 y10 y11 y12 y13 y14 y15,dD (wR 9) CA [] (cs.map zF) (sY (.scr (ns.map MV.int)) ts hd rs L (some (.int (mn (gp ts rs) 1))) (some (zF t)) x9 x10 x11 x12 x13 x14 x15) S=
   .ok (.next (sY (.scr (ns.map MV.int)) ts hd rs L (some (.int (mn (gp ts rs) 1))) (some (zF t)) y9 y10 y11 y12 y13 y14 y15)) S
 |[],_,x9,x10,x11,x12,x13,x14,x15=>⟨x9,x10,x11,x12,x13,x14,x15,rfl⟩
 |c::cs,h,x9,x10,x11,x12,x13,x14,x15=>by
  have hc:=h c mF0;have b1:qN (sY (.scr (ns.map MV.int)) ts hd rs L (some (.int (mn (gp ts rs) 1))) (some (zF t)) (some (zF c)) x10 x11 x12 x13 x14 x15) S=.ok (.next (sY (.scr (ns.map MV.int)) ts hd rs L (some (.int (mn (gp ts rs) 1))) (some (zF t)) (some (zF c)) x10 x11 x12 x13 x14 x15)) S:=by unfold qN sY zF;simp? [Hs hT hr hl hp hg hL hA hc,Bool.not_true,fT,iF]
  have b2:qO (sY (.scr (ns.map MV.int)) ts hd rs L (some (.int (mn (gp ts rs) 1))) (some (zF t)) (some (zF c)) x10 x11 x12 x13 x14 x15) S=.ok (.next (sY (.scr (ns.map MV.int)) ts hd rs L (some (.int (mn (gp ts rs) 1))) (some (zF t)) (some (zF c)) (some (.int (ext false ts rs t c))) (some (tI (FB false ts rs t c))) (some (.int (ext true ts rs t c))) (some (tI (FB true ts rs t c))) x14 x15)) S:=by unfold qO sY zF;simp? [Ba hT hr hl hp hg Iz hc];rfl
  obtain⟨z14,z15,b3⟩:=Bi (ns:=ns) (hd:=hd) (L:=L) (S:=S) hT hr hl hp hg hc (List.range 3) x14 x15;have b3':qP (sY (.scr (ns.map MV.int)) ts hd rs L (some (.int (mn (gp ts rs) 1))) (some (zF t)) (some (zF c)) (some (.int (ext false ts rs t c))) (some (tI (FB false ts rs t c))) (some (.int (ext true ts rs t c))) (some (tI (FB true ts rs t c))) x14 x15) S=.ok (.next (sY (.scr (ns.map MV.int)) ts hd rs L (some (.int (mn (gp ts rs) 1))) (some (zF t)) (some (zF c)) (some (.int (ext false ts rs t c))) (some (tI (FB false ts rs t c))) (some (.int (ext true ts rs t c))) (some (tI (FB true ts rs t c))) z14 z15)) S:=by unfold qP;simp? [show aK [.val (.int 3)] S=.ok ⟨(List.range 3).map zF,[]⟩ S from sD (by omega)];exact b3
  obtain⟨y9,y10,y11,y12,y13,y14,y15,e⟩:=Bj (ns:=ns) (hd:=hd) hT hr hl hp hg hL hA cs (λq hq=>h q (mO _ hq)) (some (zF c)) _ _ _ (some (tI (FB true ts rs t c))) z14 z15;refine⟨y9,y10,y11,y12,y13,y14,y15,?_⟩;rw[List.map_cons,xL (show wR 9 (zF c) _ S=.ok (sY (.scr (ns.map MV.int)) ts hd rs L (some (.int (mn (gp ts rs) 1))) (some (zF t)) (some (zF c)) x10 x11 x12 x13 x14 x15) S from rfl) (by unfold CA;rw[zA b1,zA b2,b3']) (kM S)];exact e
theorem Bk{ns:Tc}{hd:Int}{L:Nat}{S:Sto}{ls:Ug}(hT:vY ts)(hr: ∀r∈rs,eQ ts r)(hl:rs.length<=60)(hp:Ps (gp ts rs))(hg:(gp ts rs).length<=60)(hL:S[L]? =some (.lst ls))(hA:LsAt S ls (gp ts rs)):
  ∀(us:Db),(∀t∈us,t<ts.length)-> ∀(x8 x9 x10 x11 x12 x13 x14 x15:Uh), ∃y8 y9 y10 y11 y12 y13 y14 y15,dD (wR 8) uQ [] (us.map zF) (sY (.scr (ns.map MV.int)) ts hd rs L (some (.int (mn (gp ts rs) 1))) x8 x9 x10 x11 x12 x13 x14 x15) S=
   .ok (.next (sY (.scr (ns.map MV.int)) ts hd rs L (some (.int (mn (gp ts rs) 1))) y8 y9 y10 y11 y12 y13 y14 y15)) S
 |[],_,x8,x9,x10,x11,x12,x13,x14,x15=>⟨x8,x9,x10,x11,x12,x13,x14,x15,rfl⟩
 |t::us,h,x8,x9,x10,x11,x12,x13,x14,x15=>by
  have ht:=h t mF0;have hw:=Nt hT ht;obtain⟨e0,i1,i2⟩:=Ha ht S;obtain⟨z9,z10,z11,z12,z13,z14,z15,b1⟩:=Bj hT hr hl hp hg hL hA (List.range (Iq ts t).toNat) (λc hc=>⟨ts[t],gE ht,by rw[<-EW (gE ht)];have:=mem_range.mp hc;omega⟩) x9 x10 x11 x12 x13 x14 x15;have hb:uQ (sY (.scr (ns.map MV.int)) ts hd rs L (some (.int (mn (gp ts rs) 1))) (some (zF t)) x9 x10 x11 x12 x13 x14 x15) S=.ok (.next (sY (.scr (ns.map MV.int)) ts hd rs L (some (.int (mn (gp ts rs) 1))) (some (zF t)) z9 z10 z11 z12 z13 z14 z15)) S:=by rw[<-b1];unfold uQ vW sY zF;simp? [i1,i2,show aK [.val _] S=.ok ⟨(List.range (Iq ts t).toNat).map zF,[]⟩ S from sD (by omega)];rfl
  obtain⟨y8,y9,y10,y11,y12,y13,y14,y15,e⟩:=Bk hT hr hl hp hg hL hA us (λq hq=>h q (mO _ hq)) _ z9 z10 z11 z12 z13 z14 z15;refine⟨y8,y9,y10,y11,y12,y13,y14,y15,?_⟩;rw[List.map_cons,xL rfl hb (kM S)];exact e
end
theorem Bl(ns:Tc)(h:ns.length<=63): ∃S,HS [.scr (ns.map MV.int)] []=.ok (.val (.bl true)) S:=by
 have hs:zM Ip [.scr (ns.map MV.int)]=[some (.scr (ns.map MV.int)),none,none,none,none,none,none,none,none,none,none,none,none,none,none,none]:=rfl;obtain⟨c0,h0⟩:=CO ns 0 (by decide) [];obtain⟨vs,hv,hV,hpool⟩:=Gx c0 [];obtain⟨c1,h1⟩:=CO ns 1 (by decide) [.lst vs];obtain⟨ts,hT,htab⟩:=WF c1 [.lst vs];obtain⟨hd,h2⟩:=CO ns 2 (by decide) [.lst vs];have hS0:([MO.lst vs]:Sto)[0]? =some (.lst vs):=rfl;have hw0:0<=hd % 6:=eN _ (by decide);have hw1:hd % 6<6:=eL _ (by decide)
 have hcl:(aG ns (some 3) (some 63)).length<=60:=by
  unfold aG;rw[lT,List.length_drop];have z1:HT.sIx ns.length 0 (some 3)=min 3 ns.length:=by unfold HT.sIx;simp only;split<;>omega
  have z2:HT.sIx ns.length ns.length (some 63)=min 63 ns.length:=by unfold HT.sIx;simp only;split<;>omega
  rw[z1,z2];omega
 obtain⟨rs,hr,hn,hl,hrows⟩:=Gz hT (aG ns (some 3) (some 63)) hcl (w:=2+hd % 6) ⟨by omega,by omega⟩ hv hV hS0;have hl60:rs.length<=60:=by omega
 obtain⟨gs1,gs2⟩:=EZ (rs.map (keyR ts)) 0 [] [] rfl (by simp) (Nat.le_refl _);rw[lM]at gs1 gs2;have hp:Ps (gp ts rs):=λps hps=>⟨KA (rs.map (keyR ts)) 0 [] [] (by simp) ps hps,by have:=gs2 ps hps;omega⟩
 have hg:(gp ts rs).length<=60:=by show(iE (rs.map (keyR ts)) 0 [] []).2.length<=60;omega
 obtain⟨bp,bd⟩:=Hm hT hr hl60;have e1:CB [some (.scr (ns.map MV.int)),none,none,none,none,none,none,none,none,none,none,none,none,none,none,none] []=.ok (.next [some (.scr (ns.map MV.int)),some (.loc 0),none,none,none,none,none,none,none,none,none,none,none,none,none,none]) [.lst vs]:=by unfold CB;simp? [h0,hpool];rfl
 have e2:CC [some (.scr (ns.map MV.int)),some (.loc 0),none,none,none,none,none,none,none,none,none,none,none,none,none,none] [.lst vs]=.ok (.next [some (.scr (ns.map MV.int)),some (.loc 0),some (.tup (ts.map tbl)),none,none,none,none,none,none,none,none,none,none,none,none,none]) [.lst vs]:=by unfold CC;simp? [h1,htab]
 have e3:CD [some (.scr (ns.map MV.int)),some (.loc 0),some (.tup (ts.map tbl)),none,none,none,none,none,none,none,none,none,none,none,none,none] [.lst vs]=.ok (.next [some (.scr (ns.map MV.int)),some (.loc 0),some (.tup (ts.map tbl)),some (.int hd),none,none,none,none,none,none,none,none,none,none,none,none]) [.lst vs]:=by unfold CD;simp? [h2]
 have e4:CF [some (.scr (ns.map MV.int)),some (.loc 0),some (.tup (ts.map tbl)),some (.int hd),none,none,none,none,none,none,none,none,none,none,none,none] [.lst vs]=.ok (.next [some (.scr (ns.map MV.int)),some (.loc 0),some (.tup (ts.map tbl)),some (.int hd),some (.tup (rs.map zG)),none,none,none,none,none,none,none,none,none,none,none]) [.lst vs]:=by
  unfold CF;have hcut:BA (.val (.scr (ns.map MV.int))) (some 3) (some 63) [MO.lst vs]=.ok (.new ((aG ns (some 3) (some 63)).map MV.int)) [MO.lst vs]:=by rw[<-ZC];rfl
  simp? [hcut,mod_lit (show(0:Int)<6 by decide),hrows]
 have cb: ∀S:Sto,zQ 3 iW [.val (.tup (ts.map tbl)),.val (.tup []),.val (.tup (rs.map zG))] S=.ok (.val (gG ts rs)) S:=λS=>Nx (.inl rfl) (.inl rfl) (.inl rfl) hT hr hn hl60;have e5:CG [some (.scr (ns.map MV.int)),some (.loc 0),some (.tup (ts.map tbl)),some (.int hd),some (.tup (rs.map zG)),none,none,none,none,none,none,none,none,none,none,none] [.lst vs]=.ok (.next [some (.scr (ns.map MV.int)),some (.loc 0),some (.tup (ts.map tbl)),some (.int hd),some (.tup (rs.map zG)),some (gG ts rs),none,none,none,none,none,none,none,none,none,none]) [.lst vs]:=by unfold CG;simp? [Sf,cb]
 obtain⟨T,L,dl,d1,d2,d3,d4⟩:=Oa hT hr hl60 [.lst vs] [some (.scr (ns.map MV.int)),some (.loc 0),some (.tup (ts.map tbl)),some (.int hd),some (.tup (rs.map zG)),some (gG ts rs),none,none,none,none,none,none,none,none,none,none] 6;have e6:CI [some (.scr (ns.map MV.int)),some (.loc 0),some (.tup (ts.map tbl)),some (.int hd),some (.tup (rs.map zG)),some (gG ts rs),none,none,none,none,none,none,none,none,none,none] [.lst vs]=.ok (.next (sY (.scr (ns.map MV.int)) ts hd rs L none none none none none none none none none)) T:=by unfold CI;simp? [aP];exact d1
 have e7:CK (sY (.scr (ns.map MV.int)) ts hd rs L none none none none none none none none none) T=.ok (.next (sY (.scr (ns.map MV.int)) ts hd rs L (some (.int (mn (gp ts rs) 1))) none none none none none none none none)) T:=by unfold CK;simp? [Ax hT hr hl60 hp]
 obtain⟨y8,y9,y10,y11,y12,y13,y14,y15,z8⟩:=Bk (ns:=ns) (hd:=hd) hT hr hl60 hp hg d2 d3 (List.range ts.length) (λt ht=>mem_range.mp ht) none none none none none none none none;have e8:CL (sY (.scr (ns.map MV.int)) ts hd rs L (some (.int (mn (gp ts rs) 1))) none none none none none none none none) T=.ok (.next (sY (.scr (ns.map MV.int)) ts hd rs L (some (.int (mn (gp ts rs) 1))) y8 y9 y10 y11 y12 y13 y14 y15)) T:=by unfold CL;have tl:=hT.2.1;simp? [oF,lM,show aK [.val (.int (ts.length:Nat))] T=.ok ⟨(List.range ts.length).map zF,[]⟩ T from by rw[sD (by omega),Int.toNat_natCast];rfl];exact z8
 have e9:CN (sY (.scr (ns.map MV.int)) ts hd rs L (some (.int (mn (gp ts rs) 1))) y8 y9 y10 y11 y12 y13 y14 y15) T=.ok (.ret (.val (.bl true))) T:=by unfold CN;simp? [Sf,TJ (S:=T) bp bp (by omega),decide_true]
 refine⟨T,?_⟩;unfold HS Ah;rw[hs,zA e1,zA e2,zA e3,zA e4,zA e5,zA e6,zA e7,zA e8,e9];rfl
section
variable{P:Program}{w:World}{K:Ud}{mg:Ti}{base:Heap}
local macro_rules
 | `(tactic|exists 1,$t)=>`(tactic|with_reducible show $t)
 | `(tactic|and_intros)=>`(tactic|repeat' (first |(exists 1,HC _ _ _ (λ_ _=>R.no);exact tG)|(exists 1,rX _ _ [_] _;refine yI ?_)|(exists 1,rX _ _ (_::_) _;refine zL ?_ ?_)|(exists 1,rX _ _ [] _;exact fP)|(exists 1,HC _ _ (.Assign [.Name _ _] _ _) _;refine yY _ (by assumption) ?_)|(exists 1,HC _ _ (.Assign _ _ _) _;refine PD ?_ ?_)|(exists 1,HC _ _ (.Return _ _) _;refine dP ?_)|(exists 1,HC _ _ (.For _ _ _ _ _) _;refine pB PassesOwn.never rfl ?_ ?_ ?_)|(exists 1,HC _ _ (.If _ _ _ _) _;refine rB ?_ ?_ ?_)|(exists 1,HC _ _ (.Expr _ _) _;refine tH ?_)|(exists 1,zT _ _ (.Name _ _) _;first |(exists 1,zT _ _ (.Name _ _) (vJ _);exact zB _)|exact Dr rfl (by assumption)|exact LD rfl (by assumption) Mc|exact LD rfl (by assumption) Eu|exact LD rfl (by assumption) Md|exact LD rfl (by assumption) iT)|(exists 1,zT _ _ (.Constant _ _ _) _;first |exact zP|exact GZ|exact XZ _)|(exists 1,zT _ _ (.UnaryOp _ _ _) _;refine Ll ?_)|(exists 1,zT _ _ (.List _ _) _;refine vN ?_)|(exists 1,zT _ _ (.Tuple _ _ _) _;refine vM ?_)|(exists 1,zT _ _ (.BinOp _ _ _ _) _;first |(exists 1,zT _ _ (.BinOp _ .Mod _ _) _;refine aM ?_ ?_)|(exists 1,zT _ _ (.BinOp _ .Add _ _) _;refine bU ?_ ?_)|(exists 1,zT _ _ (.BinOp _ .FloorDiv _ _) _;refine rY ?_ ?_)|(exists 1,zT _ _ (.BinOp _ .Mult _ _) (dJ vQ _ _);refine PP ?_ ?_)|(exists 1,zT _ _ (.BinOp _ .Pow _ _) _;refine vP ?_ ?_))|(exists 1,zT _ _ (.Compare _ _ _ _) _;first |(exists 1,zT _ _ (.Compare _ [.Eq] _ _) _;refine Ie (Room.units (by assumption)) ?_ ?_)|(exists 1,zT _ _ (.Compare _ [.LtE,.LtE] _ _) _;refine Eg ?_ ?_ ?_)|(exists 1,zT _ _ (.Compare _ [.Lt] _ _) _;refine Qq (Room.units (by assumption)) ?_ ?_)|(exists 1,zT _ _ (.Compare _ [.LtE,.Lt] _ _) _;refine Ei (Room.units (by assumption)) ?_ ?_ ?_))|(exists 1,zT _ _ (.Subscript _ _ _) _;first |(exists 1,zT _ _ (.Subscript _ _ _) (dJ yR _ _);refine gU ?_ ?_)|(exists 1,zT _ _ (.Subscript _ _ _) (tJ BA _ _ _);refine JC ?_ ?_ ?_))|(exists 1,zT (zR _ _ _ _ _ _ _ _) _ (.ListComp _ _ _ _) _;refine ZS (by assumption) ?_ (λ_ _ _ _ _=>?_) (λ_ _ _ _=>?_) (λ_ _ _ _=>?_))|(exists 1,zT _ _ (.ListComp _ _ _ _) _;refine ZR (by assumption) ?_ (λ_ _ _ _ _=>?_) (λ_ _ _ _=>?_) (λ_ _ _ _=>?_))|(exists 1,zT _ _ (.Dict _ _ _) _;exact LW)|(exists 1,zT _ _ (.IfExp _ _ _ _) _;refine Qn ?_ ?_ ?_)|(exists 1,zT _ _ (.BoolOp _ _ _) _;first |refine Lj ?_|refine Lk ?_ ?_)|(exists 1,zT _ _ (.Call (.Attribute _ _ _) _ _ _) _;first |(exists 1,zT _ _ (.Call (.Attribute _ "append" _) _ _ _) _;refine iU ?_ ?_)|(exists 1,zT _ _ (.Call (.Attribute _ "setdefault" _) _ _ _) _;refine Rj (Room.units (by assumption)) ?_ ?_))|(exists 1,zT _ _ (.Call (.Name _ _) _ _ _) _;first |(exists 1,zT _ _ (.Call (.Name "len" _) _ _ _) _;refine yG bV sB rfl (by assumption) sC ?_)|(exists 1,zT _ _ (.Call (.Name "isinstance" _) _ _ _) _;refine yG LP YO rfl (by assumption) rC ?_)|(exists 1,zT _ _ (.Call (.Name "tuple" _) _ _ _) _;refine iR cP tR rfl (by assumption) iT ?_)|(exists 1,zT _ _ (.Call (.Name "all" _) _ _ _) _;refine yG IR (Lz rfl) rfl (by assumption) Mb ?_)|(exists 1,zT _ _ (.Call (.Name "abs" _) _ _ _) _;refine yG XJ Ly rfl (by assumption) Ma ?_)|(exists 1,zT _ _ (.Call (.Name "list" _) _ _ _) (bJ _ Ot);refine ZK rfl rfl (by assumption) ?_)|(exists 1,zT _ _ (.Call (.Name "sum" _) _ _ _) _;refine yG HN (SO rfl) rfl (by assumption) ZO ?_)|(exists 1,zT _ _ (.Call (.Name "list" _) _ _ _) (bJ _ LQ);refine iR IL Et rfl (by assumption) RV ?_)|(exists 1,zT _ _ (.Call (.Name "sorted" _) _ _ _) (bJ _ HR);refine Gj rfl rfl (by assumption) rfl (by assumption) ?_)|refine yN (by assumption) (Room.mono (by assumption) (by decide)) rfl ?_)|(exists 1,qV _ _ (.Compare _ _ _ _) _;first |(exists 1,qV _ _ (.Compare _ [.NotEq] _ _) _;refine RT (Room.units (by assumption)) ?_ ?_)|(exists 1,qV _ _ (.Compare _ [.LtE,.LtE] _ _) _;refine Eh ?_ ?_ ?_)|(exists 1,qV _ _ (.Compare _ [.Gt] _ _) _;refine Qt ?_ ?_)|(exists 1,qV _ _ (.Compare _ [.Eq] _ _) _;refine Ig (Room.units (by assumption)) ?_ ?_)|(exists 1,qV _ _ (.Compare _ [.Lt] _ _) _;refine Qr (Room.units (by assumption)) ?_ ?_)|(exists 1,qV _ _ (.Compare _ [.NotIn] _ _) _;refine LO (Room.units (by assumption)) ?_ ?_)|(exists 1,qV _ _ (.Compare _ [.In] _ _) _;refine Qu (Room.units (by assumption)) ?_ ?_))|(exists 1,qV _ _ (.UnaryOp _ _ _) _;refine rW ?_)|(exists 1,qV _ _ (.BoolOp _ _ _) _;refine YC ?_)|(exists 1,qV _ _ _ _;refine iQ ?_)|(exists 1,Hy _ _ _ _;first |refine RN ?_ ?_|refine PC ?_|refine Dt ?_|refine Lm ?_ ?_)|(exists 1,GY _ _ _ _;first |refine zC ?_ ?_|exact zI)|(exists 1,Li _ _ _ _;first |refine BQ ?_|exact BP)|(exists 1,LI _ _ _ _;first |exact tL|refine Dy ?_)|(exists 1,LH _ _ _ _ _;first |(exists 1,LH _ _ _ _ (bJ _ aK);refine HD rfl (by assumption) ?_)|(exists 1,LH _ _ _ _ (bJ _ Bw);refine JH rfl (by assumption) ?_)|(exists 1,LH _ _ _ _ (bJ _ UY);refine PH ?_)|(exists 1,LH _ _ _ _ (bJ _ PF);refine qC ?_)|(exists 1,LH _ _ _ _ (bJ _ Su);refine Ln ?_))|(exists 1,Hz _ _ (.Name _ _) _;exact jM _ (by assumption))|(exists 1,Hz _ _ _ _;refine IW rfl ?_)|(exists 1,YF _ _ _ _;first |refine lP ?_ ?_|exact IV)|(exists 1,Lo _ _ _ (.Name _ _) _;exact tK _ (by assumption))))
 | `(tactic|exists 2,$f:ident,$xs:ident,*)=>`(tactic|(refine okA $f (by assumption) (λ_ _ _ _ _ _ _ _ _ _=>?_);delta $f $xs*; (first |refine yI ?_|refine zL ?_ ?_);and_intros))
 | `(tactic|exists 0,$f:ident,$xs:ident,*)=>`(tactic|(refine okL $f (by assumption) (λ_ _ _ _ _ _ _ _ _=>?_);delta $f $xs*; (first |refine yI ?_|refine zL ?_ ?_);and_intros))
abbrev FD:Stmt:=top 2
def NV(D:DefM K mg "is_whole" FD)(Bt:mg "int"=none)(xA:mg "isinstance"=none)(RE:mg "bool"=none):(VV P w K mg base) "is_whole" 1 1 ["thing"] xE:=by exists 2,EM,uD
abbrev HY:Stmt:=top 3
def QX(D:DefM K mg "is_name" HY)(Bu:mg "str"=none)(xA:mg "isinstance"=none)(kO:mg "len"=none){eT:Tok}(pX:mg "MOST_LETTERS"=some (.int (8) eT))(Br:mg "all"=none):(VV P w K mg base) "is_name" 1 1 ["thing"] qI:=by exists 2,qH,fA,fB,cR,jK
abbrev FE:Stmt:=top 4
def NW(D:DefM K mg "is_value" FE)(sW:(VV P w K mg base) "is_whole" 1 1 ["thing"] xE)(Jh:mg "abs"=none)(Ow:(VV P w K mg base) "is_name" 1 1 ["thing"] qI):(VV P w K mg base) "is_value" 2 1 ["thing"] lX:=by exists 2,lW,kR,lV
abbrev NY:Stmt:=top 19
def WM(D:DefM K mg "key_of" NY):(VV P w K mg base) "key_of" 1 2 ["tables","row"] uF:=by exists 2,uE,sG
abbrev FF:Stmt:=top 38
def NZ(D:DefM K mg "is_plain" FF)(kO:mg "len"=none):(VV P w K mg base) "is_plain" 1 1 ["book"] bX:=by exists 2,lZ,lY
abbrev OA:Stmt:=top 39
def WN(D:DefM K mg "blocks" OA)(QZ:(VV P w K mg base) "is_plain" 1 1 ["book"] bX)(kN:mg "enumerate"=none)(Sl:(VV P w K mg base) "key_of" 1 2 ["tables","row"] uF)(RB:mg "list"=none):(VV P w K mg base) "blocks" 2 1 ["book"] f_blocks:=by exists 2,EN,mB,mE,mG,mH,bY,dY
abbrev cO:Stmt:=top 40
def kG:FnScope ["book","many","block"] ["book"] (zE cO):=fsK (by decide+kernel)
def uW(D:DefM K mg "many_by_blocks" cO)(dO:(VV P w K mg base) "blocks" 2 1 ["book"] f_blocks)(kO:mg "len"=none):(VV P w K mg base) "many_by_blocks" 3 1 ["book"] xB:=
 by have h:=Mz (P:=P) (w:=w) (base:=base) D (λ_ _ _ _ _ _ us hl=>match us,hl with |[_],_=>rfl) λf fd F=>Lp (k:=2) _ F kG λcdv A outer s H E hr=>(zL (yY 1 kG.nd zP) (zL (pB PassesOwn.never rfl (qC (yN dO (hr.mono (by decide)) rfl (zC (zB 0) zI))) (jM 2 kG.nd) (yI (Gd 1 kG.nd (yG bV sB rfl kO sC (zC (zB 2) zI))))) (yI (dP (zB 1)))))
    exact h
abbrev FG:Stmt:=top 41
def aD:FnScope MQ ["book","number"] (zE FG):=fsK (by decide+kernel)
def WO(D:DefM K mg "chosen" FG)(lI:(VV P w K mg base) "many_by_blocks" 3 1 ["book"] xB)(sV:mg "reversed"=none)(dO:(VV P w K mg base) "blocks" 2 1 ["book"] f_blocks)(kO:mg "len"=none)(bM:mg "sorted"=none)(xS:mg "tuple"=none):(VV P w K mg base) "chosen" 4 2 ["book","number"] uG:=
 by have h:=Mz (P:=P) (w:=w) (base:=base) D (λ_ _ _ _ _ _ us hl=>match us,hl with |[_,_],_=>rfl) λf fd F=>Lp (k:=3) _ F aD λcdv A outer s H E hr=>(zL (yY 2 aD.nd (yN lI (hr.mono (by decide)) rfl (zC (zB 0) zI))) (zL (rB (rW (Ej hr.units zP (zB 1) (zB 2))) (yI tG) fP) (zL (yY 3 aD.nd (vN zI)) (zL (yY 4 aD.nd (zB 1)) (zL (pB PassesOwn.never rfl (Nc rfl sV (zC (yN dO (hr.mono (by decide)) rfl (zC (zB 0) zI)) zI)) (jM 5 aD.nd) (zL (tH (iU (zB 3) (zC (gU (zB 5) (aM (zB 4) (yG bV sB rfl kO sC (zC (zB 5) zI)))) zI))) (yI (Ge 4 aD.nd (yG bV sB rfl kO sC (zC (zB 5) zI)))))) (yI (dP (iR cP tR rfl xS iT (zC (yG vV JN rfl bM lQ (zC (zB 3) zI)) zI)))))))))
    exact h
abbrev FH:Stmt:=top 50
def OB(D:DefM K mg "is_tuple" FH)(xS:mg "tuple"=none)(xA:mg "isinstance"=none)(kO:mg "len"=none):(VV P w K mg base) "is_tuple" 1 3 lR xP:=by exists 2,mP,mN
abbrev fM:Stmt:=top 51
def sS(D:DefM K mg "is_number_below" fM)(sW:(VV P w K mg base) "is_whole" 1 1 ["thing"] xE):(VV P w K mg base) "is_number_below" 2 2 ["thing","bound"] zW:=by exists 2,wY,jH
abbrev FI:Stmt:=top 52
def OD(D:DefM K mg "is_table" FI)(RD:(VV P w K mg base) "is_tuple" 1 3 lR xP)(sW:(VV P w K mg base) "is_whole" 1 1 ["thing"] xE){pZ:Tok}(AV:mg "MOST_WIDE"=some (.int (4) pZ))(fN:(VV P w K mg base) "is_number_below" 2 2 ["thing","bound"] zW):(VV P w K mg base) "is_table" 3 1 ["thing"] mR:=by exists 2,mQ,dZ,nA,nB
abbrev OE:Stmt:=top 61
def WP(D:DefM K mg "is_row" OE)(RD:(VV P w K mg base) "is_tuple" 1 3 lR xP)(fN:(VV P w K mg base) "is_number_below" 2 2 ["thing","bound"] zW)(kO:mg "len"=none)(On:(VV P w K mg base) "is_value" 2 1 ["thing"] lX)(Br:mg "all"=none):(VV P w K mg base) "is_row" 3 2 ["thing","tables"] uI:=by exists 2,uH,mU,mV,mW,mT,nE
abbrev rH:Stmt:=top 62
def FK(D:DefM K mg "check_sizes" rH)(kO:mg "len"=none){iH:Tok}(rM:mg "MOST_TABLES"=some (.int (4) iH)){oM:Tok}(vB:mg "MOST_RULES"=some (.int (6) oM)){pY:Tok}(AU:mg "MOST_ROWS"=some (.int (60) pY)):(VV P w K mg base) "check_sizes" 1 3 wU cT:=by exists 2,cS,dQ
abbrev pT:Stmt:=top 63
def BG(D:DefM K mg "check_tables" pT)(kO:mg "len"=none)(kN:mg "enumerate"=none)(Om:(VV P w K mg base) "is_table" 3 1 ["thing"] mR):(VV P w K mg base) "check_tables" 4 1 ["tables"] gW:=by exists 2,gV,kT,kU,kS,hW
abbrev rK:Stmt:=top 64
def FL(D:DefM K mg "check_rules" rK)(kN:mg "enumerate"=none):(VV P w K mg base) "check_rules" 1 2 ["tables","rules"] cV:=by exists 2,cU,jN,oU,fC
abbrev oH:Stmt:=top 65
def wX:FnScope uB ["tables","rows"] (zE oH):=fsK (by decide+kernel)
def GK(D:DefM K mg "check_rows" oH)(kN:mg "enumerate"=none)(Bs:(VV P w K mg base) "is_row" 3 2 ["thing","tables"] uI):(VV P w K mg base) "check_rows" 4 2 ["tables","rows"] nF:=
 by have h:=Mz (P:=P) (w:=w) (base:=base) D (λ_ _ _ _ _ _ us hl=>match us,hl with |[_,_],_=>rfl) λf fd F=>Lp (k:=3) _ F wX λcdv A outer s H E hr=>(zL (pB PassesOwn.never rfl (JH rfl kN (zC (zB 1) zI)) (IW (n:=2) rfl (lP (jM 2 wX.nd) (lP (jM 3 wX.nd) IV))) (yI (rB (rW (iQ (yN Bs (hr.mono (by decide)) rfl (zC (zB 3) (zC (zB 0) zI))))) (yI tG) fP))) (zL (yY 4 wX.nd LW) (yI (pB PassesOwn.never rfl (JH rfl kN (zC (zB 1) zI)) (IW (n:=2) rfl (lP (jM 2 wX.nd) (lP (jM 3 wX.nd) IV))) (zL (rB (Mr hr.units (zB 3) (zB 4)) (yI tG) fP) (yI (PD GZ (Fw hr.units (zB 4) (zB 3)))))))))
    exact h
abbrev HZ:Stmt:=top 66
def QY(D:DefM K mg "book_of" HZ)(By:(VV P w K mg base) "check_sizes" 1 3 wU cT)(Bp:(VV P w K mg base) "check_tables" 4 1 ["tables"] gW)(Bz:(VV P w K mg base) "check_rules" 1 2 ["tables","rules"] cV)(Hu:(VV P w K mg base) "check_rows" 4 2 ["tables","rows"] nF)(xS:mg "tuple"=none):(VV P w K mg base) "book_of" 5 3 wU iW:=by exists 2,qK,fD,fE,fF,fG,fH
abbrev pU:Stmt:=top 77
def BH(D:DefM K mg "check_column" pU)(fN:(VV P w K mg base) "is_number_below" 2 2 ["thing","bound"] zW)(kO:mg "len"=none):(VV P w K mg base) "check_column" 3 3 ["book","t","c"] xW:=by exists 2,gY,cC
abbrev FM:Stmt:=top 78
def OG(D:DefM K mg "count_of" FM)(sW:(VV P w K mg base) "is_whole" 1 1 ["thing"] xE):(VV P w K mg base) "count_of" 2 3 ["row","t","c"] hX:=by exists 2,mZ,mY
abbrev OH:Stmt:=top 79
def WQ(D:DefM K mg "sum_in" OH)(FQ:(VV P w K mg base) "check_column" 3 3 ["book","t","c"] xW)(oK:(VV P w K mg base) "count_of" 2 3 ["row","t","c"] hX)(UE:mg "sum"=none):(VV P w K mg base) "sum_in" 4 4 uC eC:=by exists 2,uK,oB,oC,oA,nG
abbrev yL:Stmt:=top 80
def bK:FnScope ["book","t","c","count_at","least","greatest"] ["book","t","c"] (zE yL):=fsK (by decide+kernel)
def sT:ClScope ["i"] [] zD:=⟨rfl,rfl,rfl,by decide+kernel,by decide+kernel,by decide+kernel,by decide+kernel,by decide+kernel⟩
theorem uX:xQ yL=.FunctionDef zD.nm zD.ps zD.bd [] none [] zD.sc none zD.nm ⟨317,4,318,41⟩::(xQ yL).drop 1:=rfl
def nY(oK:(VV P w K mg base) "count_of" 2 3 ["row","t","c"] hX)(dO:(VV P w K mg base) "blocks" 2 1 ["book"] f_blocks)(FS:mg "min"=none)(FR:mg "max"=none)(bM:mg "sorted"=none)(xS:mg "tuple"=none):CloOk P w K mg base 3 zD "i" zS:=
 ⟨λf fd ds0=>Nl (k:=2) sT f fd ds0 λcdv cl A outer s H hr=>(yI (dP (yN oK (hr.mono (by decide)) rfl (zC (gU (gU (zB 1) zP) (zB 0)) (zC (zB 3) (zC (zB 2) zI)))))),λ_ _ _ _ _ _=>rfl⟩
def uY(D:DefM K mg "ends_by_blocks" yL){P0:Addr}(na:NestAt P K "ends_by_blocks" zD ⟨317,4,318,41⟩ P0)(oK:(VV P w K mg base) "count_of" 2 3 ["row","t","c"] hX)(dO:(VV P w K mg base) "blocks" 2 1 ["book"] f_blocks)(FS:mg "min"=none)(FR:mg "max"=none)(bM:mg "sorted"=none)(xS:mg "tuple"=none):(VV P w K mg base) "ends_by_blocks" 5 3 ["book","t","c"] kX:=by
 have C_ends_by_blocks_count_at:=nY (P:=P) (w:=w) (K:=K) (mg:=mg) (base:=base) oK dO FS FR bM xS;have h:=okCN (P:=P) (w:=w) (base:=base) D (λ_ _ _ _ _ _ us hl=>match us,hl with |[_,_,_],_=>rfl) λf fd hm F=>okZ (k:=4) kW F hm bK zD _ 3 [0,2,1] na uX rfl (by first |exact Or.inl rfl|exact Or.inr rfl) (by decide+kernel) rfl rfl (λ_=>rfl) (by decide+kernel) (by decide+kernel) (by decide+kernel) (by decide+kernel) (by decide) λcdv A outer s H E hr=>(zL (IY 4 bK.nd (zE yL) ["book","t","c","count_at","least","greatest"] ["block"] [3] (qC (yN dO (hr.mono (by decide)) rfl (zC (zB 0) zI))) rfl (λ_ _ _ _ hN=>(tK 0 hN)) (λ_ _ _ _=>tL) (λ_ _ _ _=>(Af false C_ends_by_blocks_count_at (hr.mono (by decide)) rfl FS (zC (zB 0) zI) (zB 1)))) (zL (IY 5 bK.nd (zE yL) ["book","t","c","count_at","least","greatest"] ["block"] [3] (qC (yN dO (hr.mono (by decide)) rfl (zC (zB 0) zI))) rfl (λ_ _ _ _ hN=>(tK 0 hN)) (λ_ _ _ _=>tL) (λ_ _ _ _=>(Af true C_ends_by_blocks_count_at (hr.mono (by decide)) rfl FR (zC (zB 0) zI) (zB 1)))) (yI (dP (vM (zC (iR cP tR rfl xS iT (zC (yG vV JN rfl bM lQ (zC (zB 4) zI)) zI)) (zC (iR cP tR rfl xS iT (zC (yG vV JN rfl bM lQ (zC (zB 5) zI)) zI)) zI)))))))
 exact h
abbrev gO:Stmt:=top 81
def iG(D:DefM K mg "ends_by_going_through" gO):(VV P w K mg base) "ends_by_going_through" 1 3 ["book","t","c"] xX:=by exists 2,gK,jC,jD,jE
abbrev Bm:Stmt:=top 82
def Ht(D:DefM K mg "sums" Bm)(FQ:(VV P w K mg base) "check_column" 3 3 ["book","t","c"] xW)(QZ:(VV P w K mg base) "is_plain" 1 1 ["book"] bX)(WR:(VV P w K mg base) "ends_by_blocks" 5 3 ["book","t","c"] kX)(IA:(VV P w K mg base) "ends_by_going_through" 1 3 ["book","t","c"] xX)(Bo:(VV P w K mg base) "sum_in" 4 4 uC eC):(VV P w K mg base) "sums" 6 3 ["book","t","c"] sO:=by exists 2,JT,uM,uN,uO
abbrev pV:Stmt:=top 84
def BK(D:DefM K mg "_law_cell_at" pV)(kO:mg "len"=none):(VV P w K mg base) "_law_cell_at" 1 2 ["_law_script","_law_k"] zY:=by exists 2,bA,kY,iY
abbrev FN:Stmt:=top 85
def OI(D:DefM K mg "_law_mix" FN):(VV P w K mg base) "_law_mix" 1 2 ["_law_cell","_law_prime"] yT:=by exists 2,oD,nH,nK,nL
abbrev AS:Stmt:=top 86
def KG(D:DefM K mg "_law_name" AS)(oN:mg "range"=none):(VV P w K mg base) "_law_name" 1 1 ["_law_cell"] gL:=by exists 2,pL,fR,cW,fU,cX,rF,jL,jO,jP
abbrev pW:Stmt:=top 87
def yC:FnScope pK ["_law_cell"] (zE pW):=fsK (by decide+kernel)
def KH(D:DefM K mg "_law_pool" pW)(sU:(VV P w K mg base) "_law_mix" 1 2 ["_law_cell","_law_prime"] yT)(OK:(VV P w K mg base) "_law_name" 1 1 ["_law_cell"] gL)(kO:mg "len"=none):(VV P w K mg base) "_law_pool" 2 1 ["_law_cell"] gM:=
 by have h:=Mz (P:=P) (w:=w) (base:=base) D (λ_ _ _ _ _ _ us hl=>match us,hl with |[_],_=>rfl) λf fd F=>Lp (k:=1) _ F yC λcdv A outer s H E hr=>(zL (yY 1 yC.nd (yN sU (hr.mono (by decide)) rfl (zC (zB 0) (zC zP zI)))) (zL (yY 2 yC.nd (XZ [97,98,99,100,101,102,103,104,105,106,107,108,109,110,111,112,113,114,115,116,117,118,119,120,121,122])) (zL (yY 3 yC.nd (yN OK (hr.mono (by decide)) rfl (zC (zB 1) zI))) (zL (yY 1 yC.nd (rY (zB 1) (PP zP (vP zP zP)))) (zL (yY 4 yC.nd (aM (zB 1) (yG bV sB rfl kO sC (zC (zB 3) zI)))) (zL (yY 5 yC.nd (bU (bU (Ey (zB 2) (zC (gU (zB 3) (zB 4)) zI)) zP) (aM (rY (zB 1) zP) zP))) (zL (yY 6 yC.nd (bU (bU (JC (zB 3) BP (BQ (zB 4))) (gU (zB 2) (aM (zB 5) zP))) (JC (zB 3) (BQ (bU (zB 4) zP)) BP))) (zL (yY 1 yC.nd (rY (zB 1) zP)) (zL (yY 7 yC.nd (bU (aM (vP (bU (PP (aM (zB 1) (vP zP zP)) zP) zP) zP) (JA (vP zP zP) zP)) zP)) (zL (rB (Ig hr.units (aM (zB 1) zP) zP) (yI (yY 7 yC.nd (bU (aM (rY (zB 1) zP) (JA (vP zP zP) zP)) zP))) fP) (yI (dP (vN (zC (aM (rY (zB 1) zP) zP) (zC (zB 7) (zC (zB 3) (zC (JA zP (zB 7)) (zC (zB 6) (zC (bU (aM (rY (zB 1) zP) zP) zP) (zC (bU (zB 7) zP) zI))))))))))))))))))))
    exact h
abbrev rL:Stmt:=top 88
def FO(D:DefM K mg "_law_tables" rL)(sU:(VV P w K mg base) "_law_mix" 1 2 ["_law_cell","_law_prime"] yT)(oN:mg "range"=none)(xS:mg "tuple"=none):(VV P w K mg base) "_law_tables" 2 2 ["_law_cell","_law_most"] wV:=by exists 2,iD,jQ,jR,jS,jT,jU,jV,wN,kC,kD,kE
abbrev FP:Stmt:=top 89
def OJ(D:DefM K mg "_law_row" FP)(sU:(VV P w K mg base) "_law_mix" 1 2 ["_law_cell","_law_prime"] yT)(kO:mg "len"=none)(oN:mg "range"=none)(xS:mg "tuple"=none):(VV P w K mg base) "_law_row" 2 4 ["_law_cell","_law_tables_here","_law_pool_here","_law_wide"] cE:=by exists 2,sP,nN,nO,nP,nQ,nR,nT,bE,bC,bD
abbrev AT:Stmt:=top 90
def KI(D:DefM K mg "_law_rows" AT)(Oo:(VV P w K mg base) "_law_row" 2 4 ["_law_cell","_law_tables_here","_law_pool_here","_law_wide"] cE)(xS:mg "tuple"=none):(VV P w K mg base) "_law_rows" 3 4 ["_law_cells","_law_tables_here","_law_pool_here","_law_wide"] gN:=by exists 2,pM,cY,cZ,dA,wW,jW,xK
abbrev eR:Stmt:=top 91
def yU:FnScope aW ["_law_tables_here","_law_rows_here"] (zE eR):=fsK (by decide+kernel)
def BL(D:DefM K mg "_law_grouped" eR)(oN:mg "range"=none)(kO:mg "len"=none):(VV P w K mg base) "_law_grouped" 1 2 ["_law_tables_here","_law_rows_here"] xG:=
 by have h:=Mz (P:=P) (w:=w) (base:=base) D (λ_ _ _ _ _ _ us hl=>match us,hl with |[_,_],_=>rfl) λf fd F=>Lp (k:=0) _ F yU λcdv A outer s H E hr=>(zL (yY 2 yU.nd (vN zI)) (zL (yY 3 yU.nd (vN zI)) (zL (pB PassesOwn.never rfl (HD rfl oN (zC (yG bV sB rfl kO sC (zC (zB 1) zI)) zI)) (jM 4 yU.nd) (zL (PD (gU (zB 1) (zB 4)) (IW (n:=2) rfl (lP (jM 5 yU.nd) (lP (jM 6 yU.nd) IV)))) (zL (yY 7 yU.nd (vM (zC (zB 5) (zC (JC (zB 6) BP (BQ (gU (gU (zB 0) (zB 5)) zP))) zI)))) (zL (rB (LO hr.units (zB 7) (zB 2)) (zL (tH (iU (zB 2) (zC (zB 7) zI))) (yI (tH (iU (zB 3) (zC (vN zI) zI))))) fP) (yI (tH (iU (gU (zB 3) (Gb hr.units (zB 2) (zC (zB 7) zI))) (zC (zB 4) zI)))))))) (yI (dP (zB 3))))))
    exact h
abbrev uZ:Stmt:=top 92
def GL(D:DefM K mg "_law_whole" uZ)(Bt:mg "int"=none)(xA:mg "isinstance"=none)(RE:mg "bool"=none):(VV P w K mg base) "_law_whole" 1 1 ["_law_thing"] wD:=by exists 2,uP,pO
abbrev vA:Stmt:=top 93
def GM(D:DefM K mg "_law_worth" vA)(Bu:mg "str"=none)(xA:mg "isinstance"=none):(VV P w K mg base) "_law_worth" 1 4 lU kZ:=by exists 2,nU,yO,eF
abbrev eS:Stmt:=top 94
def qW(D:DefM K mg "_law_one_of_each" eS)(xS:mg "tuple"=none)(xA:mg "isinstance"=none)(kO:mg "len"=none)(RB:mg "list"=none)(bM:mg "sorted"=none)(Jj:mg "set"=none)(oO:(VV P w K mg base) "_law_whole" 1 1 ["_law_thing"] wD):(VV P w K mg base) "_law_one_of_each" 2 2 ["_law_some","_law_told"] wK:=by exists 2,wI,xM,xN,xO,yP,yB,wH,wF,yZ,wG
abbrev bL:Stmt:=top 95
def yM:FnScope dX ["_law_book","_law_some","_law_t","_law_c"] (zE bL):=fsK (by decide+kernel)
def GN(D:DefM K mg "_law_right" bL)(RA:(VV P w K mg base) "sums" 6 3 ["book","t","c"] sO)(xS:mg "tuple"=none)(xA:mg "isinstance"=none)(kO:mg "len"=none)(vC:(VV P w K mg base) "_law_worth" 1 4 lU kZ)(FS:mg "min"=none)(FR:mg "max"=none)(oO:(VV P w K mg base) "_law_whole" 1 1 ["_law_thing"] wD)(sX:(VV P w K mg base) "_law_one_of_each" 2 2 ["_law_some","_law_told"] wK)(UE:mg "sum"=none):(VV P w K mg base) "_law_right" 7 4 ["_law_book","_law_some","_law_t","_law_c"] nV:=
 by have h:=Mz (P:=P) (w:=w) (base:=base) D (λ_ _ _ _ _ _ us hl=>match us,hl with |[_,_,_,_],_=>rfl) λf fd F=>Lp (k:=6) _ F yM λcdv A outer s H E hr=>(zL (yY 4 yM.nd (yN RA (hr.mono (by decide)) rfl (zC (zB 0) (zC (zB 2) (zC (zB 3) zI))))) (zL (rB (YC (RN (rW (iQ (yG LP YO rfl xA rC (zC (zB 4) (zC (LD rfl xS iT) zI))))) (PC (RT hr.units (yG bV sB rfl kO sC (zC (zB 4) zI)) zP)))) (yI (dP GZ)) fP) (zL (yY 5 yM.nd zP) (zL (yY 6 yM.nd zP) (zL (pB PassesOwn.never rfl (qC (zB 1)) (jM 7 yM.nd) (zL (IY 8 yM.nd (zE bL) dX ["_law_place"] [0,2,3] (qC (zB 7)) rfl (λ_ _ _ _ hN=>(tK 0 hN)) (λ_ _ _ _=>tL) (λ_ _ _ _=>(yN vC (hr.mono (by decide)) rfl (zC (gU (zB 1) zP) (zC (zB 0) (zC (zB 2) (zC (zB 3) zI))))))) (zL (yY 5 yM.nd (bU (zB 5) (yG (MN false rfl) (Ag false) rfl FS Gs (zC (zB 8) zI)))) (yI (yY 6 yM.nd (bU (zB 6) (yG (MN true rfl) (Ag true) rfl FR Gu (zC (zB 8) zI)))))))) (zL (rB (YC (RN (rW (iQ (yN oO (hr.mono (by decide)) rfl (zC (gU (zB 4) zP) zI)))) (RN (rW (iQ (yN oO (hr.mono (by decide)) rfl (zC (gU (zB 4) zP) zI)))) (PC (RT hr.units (vM (zC (gU (zB 4) zP) (zC (gU (zB 4) zP) zI))) (vM (zC (zB 5) (zC (zB 6) zI)))))))) (yI (dP GZ)) fP) (zL (pB PassesOwn.never rfl (PH (vM (zC zP (zC zP zI)))) (jM 9 yM.nd) (zL (rB (rW (iQ (yN sX (hr.mono (by decide)) rfl (zC (zB 1) (zC (gU (zB 4) (zB 9)) zI))))) (yI (dP GZ)) fP) (yI (rB (RT hr.units (yG HN (SO rfl) rfl UE ZO (zC (IX (zE bL) dX ["_law_place"] [0,2,3] (PH (gU (zB 4) (zB 9))) rfl (λ_ _ _ _ hN=>(tK 0 hN)) (λ_ _ _ _=>tL) (λ_ _ _ _=>(yN vC (hr.mono (by decide)) rfl (zC (gU (zB 1) zP) (zC (zB 0) (zC (zB 2) (zC (zB 3) zI))))))) zI)) (gU (zB 4) (JA (zB 9) zP))) (yI (dP GZ)) fP)))) (yI (dP (Ie hr.units (yN RA (hr.mono (by decide)) rfl (zC (zB 0) (zC (zB 2) (zC (zB 3) zI)))) (zB 4)))))))))))
    exact h
abbrev Jf:Stmt:=top 96
def Ol{f:Addr}{fd:FuncData}(F:Fun K "law" "law" Jf f fd)(Jg:(VV P w K mg base) "_law_pool" 2 1 ["_law_cell"] gM)(Bq:(VV P w K mg base) "_law_cell_at" 1 2 ["_law_script","_law_k"] zY)(Bx:(VV P w K mg base) "_law_tables" 2 2 ["_law_cell","_law_most"] wV)(Ji:(VV P w K mg base) "_law_rows" 3 4 ["_law_cells","_law_tables_here","_law_pool_here","_law_wide"] gN)(Ov:(VV P w K mg base) "book_of" 5 3 wU iW)(Bn:(VV P w K mg base) "_law_grouped" 1 2 ["_law_tables_here","_law_rows_here"] xG)(lI:(VV P w K mg base) "many_by_blocks" 3 1 ["book"] xB)(oN:mg "range"=none)(kO:mg "len"=none)(Hv:(VV P w K mg base) "_law_right" 7 4 ["_law_book","_law_some","_law_t","_law_c"] nV)(RA:(VV P w K mg base) "sums" 6 3 ["book","t","c"] sO)(Bo:(VV P w K mg base) "sum_in" 4 4 uC eC)(Sm:(VV P w K mg base) "chosen" 4 2 ["book","number"] uG):FnOk P w K mg base vE 8 f fd ["_law_script"] (LK ⟨K,mg,P,w⟩ 1 HS):=by exists 0,Ah,CB,CC,CD,CF,CG,CI,CK,CL,CN,uQ,vW,CA,qN,qO,qP,BW,qL,qM
end
def all_mk{l:PySem.W.OpenLaw}{w:World}{K:Ud}{h:Heap}{mg:Ti}{fa:Addr}(X:K.In h)(GG:h.Ns mainGlobals mg)(hfa:mg "law"=some (.ref fa))
  (D0:DefM K mg "is_whole" FD)
  (D1:DefM K mg "is_name" HY)
  (D2:DefM K mg "is_value" FE)
  (D3:DefM K mg "key_of" NY)
  (D4:DefM K mg "is_plain" FF)
  (D5:DefM K mg "blocks" OA)
  (D6:DefM K mg "many_by_blocks" cO)
  (D7:DefM K mg "chosen" FG)
  (D8:DefM K mg "is_tuple" FH)
  (D9:DefM K mg "is_number_below" fM)
  (D10:DefM K mg "is_table" FI)
  (D11:DefM K mg "is_row" OE)
  (D12:DefM K mg "check_sizes" rH)
  (D13:DefM K mg "check_tables" pT)
  (D14:DefM K mg "check_rules" rK)
  (D15:DefM K mg "check_rows" oH)
  (D16:DefM K mg "book_of" HZ)
  (D17:DefM K mg "check_column" pU)
  (D18:DefM K mg "count_of" FM)
  (D19:DefM K mg "sum_in" OH)
  (D20:DefM K mg "ends_by_blocks" yL)
  (D21:DefM K mg "ends_by_going_through" gO)
  (D22:DefM K mg "sums" Bm)
  (D23:DefM K mg "_law_cell_at" pV)
  (D24:DefM K mg "_law_mix" FN)
  (D25:DefM K mg "_law_name" AS)
  (D26:DefM K mg "_law_pool" pW)
  (D27:DefM K mg "_law_tables" rL)
  (D28:DefM K mg "_law_row" FP)
  (D29:DefM K mg "_law_rows" AT)
  (D30:DefM K mg "_law_grouped" eR)
  (D31:DefM K mg "_law_whole" uZ)
  (D32:DefM K mg "_law_worth" vA)
  (D33:DefM K mg "_law_one_of_each" eS)
  (D34:DefM K mg "_law_right" bL)
  (D35:DefM K mg "law" Jf)
  {eT:Tok} (pX:PySem.W.nsIn K mainGlobals "MOST_LETTERS"=some (some (.int (8) eT)))
  {pY:Tok} (AU:PySem.W.nsIn K mainGlobals "MOST_ROWS"=some (some (.int (60) pY)))
  {oM:Tok} (vB:PySem.W.nsIn K mainGlobals "MOST_RULES"=some (some (.int (6) oM)))
  {iH:Tok} (rM:PySem.W.nsIn K mainGlobals "MOST_TABLES"=some (some (.int (4) iH)))
  {pZ:Tok} (AV:PySem.W.nsIn K mainGlobals "MOST_WIDE"=some (some (.int (4) pZ)))
  (np:fO l.prog=([("ends_by_blocks",#[rawInt (⟨317,4,318,41⟩:Pos).line,rawInt (⟨317,4,318,41⟩:Pos).col,.str "ends_by_blocks.<locals>.count_at" 0]),("ends_by_going_through",#[rawInt (⟨324,4,325,39⟩:Pos).line,rawInt (⟨324,4,325,39⟩:Pos).col,.str "ends_by_going_through.<locals>.sum_of" 0])]:List (Str×Array Value)))
  (tb_ends_by_blocks:(PySem.W.tabIn K "ends_by_blocks").isSome=true)
  (Jh:PySem.W.nsIn K mainGlobals "abs"=some none)
  (Br:PySem.W.nsIn K mainGlobals "all"=some none)
  (RE:PySem.W.nsIn K mainGlobals "bool"=some none)
  (kN:PySem.W.nsIn K mainGlobals "enumerate"=some none)
  (Bt:PySem.W.nsIn K mainGlobals "int"=some none)
  (xA:PySem.W.nsIn K mainGlobals "isinstance"=some none)
  (kO:PySem.W.nsIn K mainGlobals "len"=some none)
  (RB:PySem.W.nsIn K mainGlobals "list"=some none)
  (FR:PySem.W.nsIn K mainGlobals "max"=some none)
  (FS:PySem.W.nsIn K mainGlobals "min"=some none)
  (oN:PySem.W.nsIn K mainGlobals "range"=some none)
  (sV:PySem.W.nsIn K mainGlobals "reversed"=some none)
  (Jj:PySem.W.nsIn K mainGlobals "set"=some none)
  (bM:PySem.W.nsIn K mainGlobals "sorted"=some none)
  (Bu:PySem.W.nsIn K mainGlobals "str"=some none)
  (UE:PySem.W.nsIn K mainGlobals "sum"=some none)
  (xS:PySem.W.nsIn K mainGlobals "tuple"=some none)
  : ∃fd:FuncData,(∀(s:Shared)(v:Value),BindsTo s fd ⟨[v],[]⟩ [("_law_script",v)])/\ ∀base:Heap,K.In base->base.Ns mainGlobals mg->FnOk l.prog w K mg base vE 8 fa fd ["_law_script"] (HG K HS):=by
 obtain⟨⟨c_ends_by_blocks,P_ends_by_blocks⟩,tb_ends_by_blocks⟩:=Option.isSome_iff_exists.mp tb_ends_by_blocks;have Z_abs:=PySem.W.mg_none_of X GG Jh;have Z_all:=PySem.W.mg_none_of X GG Br;have Z_bool:=PySem.W.mg_none_of X GG RE;have Z_enumerate:=PySem.W.mg_none_of X GG kN;have Z_int:=PySem.W.mg_none_of X GG Bt;have Z_isinstance:=PySem.W.mg_none_of X GG xA;have Z_len:=PySem.W.mg_none_of X GG kO;have Z_list:=PySem.W.mg_none_of X GG RB;have Z_max:=PySem.W.mg_none_of X GG FR;have Z_min:=PySem.W.mg_none_of X GG FS;have Z_range:=PySem.W.mg_none_of X GG oN;have Z_reversed:=PySem.W.mg_none_of X GG sV;have Z_set:=PySem.W.mg_none_of X GG Jj;have Z_sorted:=PySem.W.mg_none_of X GG bM;have Z_str:=PySem.W.mg_none_of X GG Bu;have Z_sum:=PySem.W.mg_none_of X GG UE;have Z_tuple:=PySem.W.mg_none_of X GG xS;have M_MOST_LETTERS:=PySem.W.mg_of X GG pX;have M_MOST_ROWS:=PySem.W.mg_of X GG AU;have M_MOST_RULES:=PySem.W.mg_of X GG vB;have M_MOST_TABLES:=PySem.W.mg_of X GG rM;have M_MOST_WIDE:=PySem.W.mg_of X GG AV;refine Na D35 hfa (λ_ _ _ _ _ _ s v=>.of_eq rfl) λbase f fd F=>?_;have G0:=NV (P:=l.prog) (w:=w) (base:=base) D0 Z_int Z_isinstance Z_bool;have G1:=QX (P:=l.prog) (w:=w) (base:=base) D1 Z_str Z_isinstance Z_len M_MOST_LETTERS Z_all;have G2:=NW (P:=l.prog) (w:=w) (base:=base) D2 G0 Z_abs G1;have G3:=WM (P:=l.prog) (w:=w) (base:=base) D3;have G4:=NZ (P:=l.prog) (w:=w) (base:=base) D4 Z_len;have G5:=WN (P:=l.prog) (w:=w) (base:=base) D5 G4 Z_enumerate G3 Z_list;have G6:=uW (P:=l.prog) (w:=w) (base:=base) D6 G5 Z_len;have G7:=WO (P:=l.prog) (w:=w) (base:=base) D7 G6 Z_reversed G5 Z_len Z_sorted Z_tuple;have G8:=OB (P:=l.prog) (w:=w) (base:=base) D8 Z_tuple Z_isinstance Z_len;have G9:=sS (P:=l.prog) (w:=w) (base:=base) D9 G0;have G10:=OD (P:=l.prog) (w:=w) (base:=base) D10 G8 G0 M_MOST_WIDE G9;have G11:=WP (P:=l.prog) (w:=w) (base:=base) D11 G8 G9 Z_len G2 Z_all;have G12:=FK (P:=l.prog) (w:=w) (base:=base) D12 Z_len M_MOST_TABLES M_MOST_RULES M_MOST_ROWS;have G13:=BG (P:=l.prog) (w:=w) (base:=base) D13 Z_len Z_enumerate G10;have G14:=FL (P:=l.prog) (w:=w) (base:=base) D14 Z_enumerate;have G15:=GK (P:=l.prog) (w:=w) (base:=base) D15 Z_enumerate G11;have G16:=QY (P:=l.prog) (w:=w) (base:=base) D16 G12 G13 G14 G15 Z_tuple;have G17:=BH (P:=l.prog) (w:=w) (base:=base) D17 G9 Z_len;have G18:=OG (P:=l.prog) (w:=w) (base:=base) D18 G0;have G19:=WQ (P:=l.prog) (w:=w) (base:=base) D19 G17 G18 Z_sum;have G20:=uY (P:=l.prog) (w:=w) (base:=base) D20 (Gr (nd:=zD) tb_ends_by_blocks np) G18 G5 Z_min Z_max Z_sorted Z_tuple;have G21:=iG (P:=l.prog) (w:=w) (base:=base) D21;have G22:=Ht (P:=l.prog) (w:=w) (base:=base) D22 G17 G4 G20 G21 G19;have G23:=BK (P:=l.prog) (w:=w) (base:=base) D23 Z_len;have G24:=OI (P:=l.prog) (w:=w) (base:=base) D24;have G25:=KG (P:=l.prog) (w:=w) (base:=base) D25 Z_range;have G26:=KH (P:=l.prog) (w:=w) (base:=base) D26 G24 G25 Z_len;have G27:=FO (P:=l.prog) (w:=w) (base:=base) D27 G24 Z_range Z_tuple;have G28:=OJ (P:=l.prog) (w:=w) (base:=base) D28 G24 Z_len Z_range Z_tuple;have G29:=KI (P:=l.prog) (w:=w) (base:=base) D29 G28 Z_tuple;have G30:=BL (P:=l.prog) (w:=w) (base:=base) D30 Z_range Z_len;have G31:=GL (P:=l.prog) (w:=w) (base:=base) D31 Z_int Z_isinstance Z_bool;have G32:=GM (P:=l.prog) (w:=w) (base:=base) D32 Z_str Z_isinstance;have G33:=qW (P:=l.prog) (w:=w) (base:=base) D33 Z_tuple Z_isinstance Z_len Z_list Z_sorted Z_set G31;have G34:=GN (P:=l.prog) (w:=w) (base:=base) D34 G22 Z_tuple Z_isinstance Z_len G32 Z_min Z_max G31 G33 Z_sum;exact Ol (P:=l.prog) (w:=w) (base:=base) F G26 G23 G27 G29 G16 G30 G6 Z_range Z_len G34 G22 G19 G7
def walk{l:PySem.W.OpenLaw}{q:Program}{loose:Th}{XP:(Str->Option Value)->Heap->Prop}{YP:World->Heap->Prop}{d:DefRec}{K:Params->PySem.W.Frag}(hn:l.most=some 63)(hdf:d.params.defaults=[])
  (hY: ∀(w:World)(h:Heap),YP w h->(K w.params).In h)
  (F: ∀(w:World)(mg:Ti)(fa:Addr)(h:Heap),(K w.params).In h->h.Ns mainGlobals mg->mg d.name=some (.ref fa)->
   ∃fd:FuncData,(∀(s:Shared)(u:Value),BindsTo s fd ⟨[u],[]⟩ [("_law_script",u)])/\ ∀base:Heap,(K w.params).In base->base.Ns mainGlobals mg->FnOk l.prog w (K w.params) mg base vE 8 fa fd ["_law_script"] (HG (K w.params) HS))
  (hN:(fO l.prog).all (λe=>((recsOf q).find? λd=>d.name==e.1).isSome)=true) (hno:fO l.prog=[]\/ ∀w:World,PySem.W.noTabs (K w.params)=true):
  PySem.W.WalkO q loose XP YP l.row.toRowW d [] (λf vs=>PySem.call f vs):=
 L2.walk_of (n:=63) (k:=8) (x:="_law_script") (CX:=λ_=>vE) (sp:=λw=>HG (K w.params) HS) hn (by decide) hdf ⟨rfl,by decide,by decide,rfl⟩ hY F
  (λw H a ns hl hO hS=>YT hO hS (Bl ns hl)) (λ_ _ _ _ _ z=>z) hN hno
end My
end M
end L2
namespace PySem.W.Fast
def tw2897938256634785519:=0
theorem te2897938256634785519:tw2897938256634785519=0:=rfl
def tw14521559041344707428:=0
theorem te14521559041344707428:tw14521559041344707428=0:=rfl
def tw3720760606133537774:=0
theorem te3720760606133537774:tw3720760606133537774=0:=rfl
def tw2686096340245544519:=0
theorem te2686096340245544519:tw2686096340245544519=0:=rfl
def tw3420585945923804426:=0
theorem te3420585945923804426:tw3420585945923804426=0:=rfl
def tw15874460414920768820:=0
theorem te15874460414920768820:tw15874460414920768820=0:=rfl
def tw10886961601487238291:=0
theorem te10886961601487238291:tw10886961601487238291=0:=rfl
def tw10627839095096366405:=0
theorem te10627839095096366405:tw10627839095096366405=0:=rfl
def tw11446297153928183383:=0
theorem te11446297153928183383:tw11446297153928183383=0:=rfl
def tw8956410999224001177:=0
theorem te8956410999224001177:tw8956410999224001177=0:=rfl
def tw11023884336908215247:=0
theorem te11023884336908215247:tw11023884336908215247=0:=rfl
def tw18053171547879438515:=0
theorem te18053171547879438515:tw18053171547879438515=0:=rfl
def tw16912139431860103198:=0
theorem te16912139431860103198:tw16912139431860103198=0:=rfl
def tw14935235851995686903:=0
theorem te14935235851995686903:tw14935235851995686903=0:=rfl
def tw5485743356010592326:=0
theorem te5485743356010592326:tw5485743356010592326=0:=rfl
def tw10348012482662637328:=0
theorem te10348012482662637328:tw10348012482662637328=0:=rfl
def tw5262632996813841404:=0
theorem te5262632996813841404:tw5262632996813841404=0:=rfl
def tw5412757966088164489:=0
theorem te5412757966088164489:tw5412757966088164489=0:=rfl
def tw7662941269488438460:=0
theorem te7662941269488438460:tw7662941269488438460=0:=rfl
def tw13068576126406389085:=0
theorem te13068576126406389085:tw13068576126406389085=0:=rfl
def tw12854038540593337630:=0
theorem te12854038540593337630:tw12854038540593337630=0:=rfl
def tw15817590651140684952:=0
theorem te15817590651140684952:tw15817590651140684952=0:=rfl
def tw6816990427283036276:=0
theorem te6816990427283036276:tw6816990427283036276=0:=rfl
def tw18309989865662246010:=0
theorem te18309989865662246010:tw18309989865662246010=0:=rfl
def tw10592136044725808370:=0
theorem te10592136044725808370:tw10592136044725808370=0:=rfl
def tw1602867705559491478:=0
theorem te1602867705559491478:tw1602867705559491478=0:=rfl
def tw9061138945811096067:=0
theorem te9061138945811096067:tw9061138945811096067=0:=rfl
def tw15664638646657476960:=0
theorem te15664638646657476960:tw15664638646657476960=0:=rfl
def tw1497948718472021257:=0
theorem te1497948718472021257:tw1497948718472021257=0:=rfl
def tw4863708846554340814:=0
theorem te4863708846554340814:tw4863708846554340814=0:=rfl
def tw6290288111233357123:=0
theorem te6290288111233357123:tw6290288111233357123=0:=rfl
def tw6951958553488020313:=0
theorem te6951958553488020313:tw6951958553488020313=0:=rfl
def tw10358489279160559230:=0
theorem te10358489279160559230:tw10358489279160559230=0:=rfl
def tw9308352289394671904:=0
theorem te9308352289394671904:tw9308352289394671904=0:=rfl
def tw18284007205413838092:=0
theorem te18284007205413838092:tw18284007205413838092=0:=rfl
def tw5883150385500042598:=0
theorem te5883150385500042598:tw5883150385500042598=0:=rfl
def tw4888682523190029151:=0
theorem te4888682523190029151:tw4888682523190029151=0:=rfl
def tw2290941672801390089:=0
theorem te2290941672801390089:tw2290941672801390089=0:=rfl
def tw10663065251552016570:=0
theorem te10663065251552016570:tw10663065251552016570=0:=rfl
def tw10060371321493296:=0
theorem te10060371321493296:tw10060371321493296=0:=rfl
def tw4375260644271344538:=0
theorem te4375260644271344538:tw4375260644271344538=0:=rfl
def tw16520750711956281095:=0
theorem te16520750711956281095:tw16520750711956281095=0:=rfl
def tw16189565045808221260:=0
theorem te16189565045808221260:tw16189565045808221260=0:=rfl
def tw14241202793091454013:=0
theorem te14241202793091454013:tw14241202793091454013=0:=rfl
def tw4820584701121259092:=0
theorem te4820584701121259092:tw4820584701121259092=0:=rfl
end PySem.W.Fast
open PySem PySem.W PyProof.Rows
set_option maxRecDepth 100000 in
set_option maxHeartbeats 0 in
theorem PySem.Challenge.cw_mendsure_k55_sums_by_blocks_holds : PySem.Challenge.rw_mendsure_k55_sums_by_blocks.Holds := by
  w_on; o_law; k_head; (case hw => w_witness2)
  k_fill
  refine L2.M.My.walk (l := PySem.Challenge.rw_mendsure_k55_sums_by_blocks) rfl rfl (fun w h Y => PySem.W.km_in_of Y) ?F ?hN ?hno
  case hN => kernel_rfl
  case hno => exact .inr fun w => by kernel_rfl
  case F =>
    intro w mg fa h KX G hmg
    refine' L2.M.My.all_mk KX G hmg ?_ ?_ ?_ ?_ ?_ ?_ ?_ ?_ ?_ ?_ ?_ ?_ ?_ ?_ ?_ ?_ ?_ ?_ ?_ ?_ ?_ ?_ ?_ ?_ ?_ ?_ ?_ ?_ ?_ ?_ ?_ ?_ ?_ ?_ ?_ ?_ ?_ ?_ ?_ ?_ ?_ ?_ ?_ ?_ ?_ ?_ ?_ ?_ ?_ ?_ ?_ ?_ ?_ ?_ ?_ ?_ ?_ ?_ ?_ ?_
    any_goals first | (exact L2.M.def_mk (by k_is) (by k_is) (by k_is) (by k_is) KX G) | (k_is) | (kernel_rfl) | (show PySem.W.nsIn _ _ _ = _; k_is)
