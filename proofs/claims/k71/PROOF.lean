import PyProof.Rows.All
import Wide.All
import OpenK.AllK
import Wide.FinOn
import Lean
import PyProof.EqAt
import PyProof.EqKinds
import PyProof.TupleCall
import PySem.Challenge.RW_mendsure_k71_whole_formulas
set_option Elab.async false
set_option linter.all false
set_option maxRecDepth 100000
noncomputable section
open List (all_map drop_length drop_zero ext_getElem? filterMap_cons find?_cons flatten_cons forIn_cons forIn_nil getElem?_append_left getElem?_append_right getElem?_eq_none getElem?_map getElem?_set_ne getElem?_set_self getElem?_take_of_lt getElem_inj getElem_mem length_range lookup_cons map_drop map_take mem_append_left mem_filterMap mem_map_of_mem mem_of_getElem? mem_of_mem_drop mem_of_mem_take mem_range nodup_append nodup_cons of_mem_zip replicate_succ reverse_cons zip_cons_cons)
open Nat (add_assoc le_of_eq le_of_lt le_succ lt_irrefl lt_trans min_eq_left sub_self zero_le)
def xF0:¬(false=true):=Bool.false_ne_true

abbrev dF0:=@decide_eq_false
abbrev dT0:=@decide_eq_true
abbrev iP:=@if_pos
abbrev iN:=@if_neg
abbrev mC:=@List.mem_cons
abbrev lC:=@List.length_cons
abbrev mO:=@List.mem_cons_of_mem
abbrev lM:=@List.length_map
abbrev nM:=@List.not_mem_nil
abbrev mS:=@List.mem_singleton
abbrev mF0:=@List.mem_cons_self
abbrev fT:=@Bool.false_eq_true
abbrev sA:=@List.size_toArray
abbrev lS:=@List.length_singleton
abbrev eL:=@Int.emod_lt_of_pos
abbrev eN:=@Int.emod_nonneg
abbrev aE:=@Bool.and_eq_true
abbrev iF:=@if_false
abbrev aN:=@List.append_nil
abbrev lA:=@List.length_append
abbrev gS:=@List.getElem?_eq_some_iff
abbrev gE:=@List.getElem?_eq_getElem
abbrev wB:=@PySem.wpAny_bind
abbrev wP:=@PySem.wpAny_pure
abbrev hP0:=@PySem.Heap.get?_push_of_some
abbrev mM:=@List.mem_map
abbrev lT:=@List.length_take
abbrev aA:=@List.append_assoc
abbrev VP:=PySem.Value->PySem.Shared->Prop
abbrev Vk:=PySem.W.Frag
abbrev Vj:=List PySem.Expr
abbrev Vi:=Option Int
abbrev Vh:=List Bool
abbrev Vg:=List (PySem.Addr×PySem.Obj)
abbrev Vd:=PySem.Str->Option PySem.Value
abbrev Vc:=List PySem.Str
abbrev Vb:=List PySem.Addr
abbrev Va:=Array PySem.Value
abbrev Uk:=List PySem.Value
abbrev Uj:=List Int
abbrev Tk:=List (Int×Int)
abbrev Db:=List Nat
abbrev Ch:=List (List Nat)
namespace L2
open PySem PySem.Spec PyProof.Rows
abbrev Key:=Sum Int Str
def oS:Key->Value->Bool
 |.inl k,v=>Value.isInt k v
 |.inr x,v=>Value.isStrOf x v
def Qa(w:World):Key->Int
 |.inl k=>hashInt k
 |.inr x=>hashStr w x
def yY: ∀{k:Key}{v:Value},oS k v=true->(∃i t,k=Sum.inl i/\v=Value.int i t)\/(∃x t,k=Sum.inr x/\v=Value.str x t)
 |.inl i,v,h=>by obtain⟨t,e⟩:=Value.isInt_shape (k:=i) (v:=v) h;exact .inl ⟨i,t,rfl,e⟩
 |.inr x,v,h=>by obtain⟨t,e⟩:=Value.isStrOf_shape (x:=x) (v:=v) h;exact .inr ⟨x,t,rfl,e⟩
def VC(i:Int)(t:Tok):oS (.inl i) (.int i t)=true:=by simp[oS,Value.isInt]
def VD(x:Str)(t:Tok):oS (.inr x) (.str x t)=true:=by simp[oS,Value.isStrOf]
def Kr(a b:Int):decide ((Sum.inl a:Key)=Sum.inl b)=(a==b):=by
 by_cases e:a=b
 .subst e;simp
 .have h: ¬(Sum.inl a:Key)=Sum.inl b:=λq=>e (Sum.inl.inj q);rw[dF0 h];exact(beq_eq_false_iff_ne.mpr e).symm
def Ks(a b:Str):decide ((Sum.inr a:Key)=Sum.inr b)=decide (a=b):=by
 by_cases e:a=b
 .subst e;simp
 .have h: ¬(Sum.inr a:Key)=Sum.inr b:=λq=>e (Sum.inr.inj q);rw[dF0 h,dF0 e]
def Kt(a:Int)(b:Str):decide ((Sum.inl a:Key)=Sum.inr b)=false:=dF0 (λq=>nomatch q)
def Ku(a:Str)(b:Int):decide ((Sum.inr a:Key)=Sum.inl b)=false:=dF0 (λq=>nomatch q)
def xX(prog:Program)(w:World):PySem.KeyKind prog w Key where
 is:=oS
 hash:=Qa w
 inj:=λv a b ha hb=>by
  rcases yY ha with⟨i,t,rfl,rfl⟩|⟨x,t,rfl,rfl⟩
  .rcases yY hb with⟨j,u,rfl,e⟩|⟨y,u,rfl,e⟩
   .injection e with e1 _;rw[e1]
   .exact nomatch e
  .rcases yY hb with⟨j,u,rfl,e⟩|⟨y,u,rfl,e⟩
   .exact nomatch e
   .injection e with e1 _;rw[e1]
 byValue:=λk v h=>by rcases yY h with⟨i,t,rfl,rfl⟩|⟨x,t,rfl,rfl⟩<;>rfl
 pyHash:=λhv h=>by
  rcases yY hv with⟨i,t,rfl,rfl⟩|⟨x,t,rfl,rfl⟩
  .exact wpAny_pyHash_int h
  .exact wpAny_pyHash_str h
 eqBool:=λhu hv h=>by
  rcases yY hu with⟨i,t,rfl,rfl⟩|⟨x,t,rfl,rfl⟩
  .rcases yY hv with⟨j,u,rfl,rfl⟩|⟨y,u,rfl,rfl⟩
   .rw[Kr]at h;exact wpAny_eqBool_int h
   .rw[Kt]at h;exact SeqAt.EqAt.int_str i t y u _ _ _ _ h
  .rcases yY hv with⟨j,u,rfl,rfl⟩|⟨y,u,rfl,rfl⟩
   .rw[Ku]at h;exact SeqAt.EqAt.str_int x t j u _ _ _ _ h
   .rw[Ks]at h;exact wpAny_eqBool_str h
 «strs»:=λk x t v h=>by
  rcases yY h with⟨i,u,rfl,e⟩|⟨y,u,rfl,e⟩
  .exact nomatch e
  .injection e with e1 _
   subst e1;cases v<;>rfl
def BN(prog:Program)(w:World)(i:Int)(t:Tok):(xX prog w).is (.inl i) (.int i t)=true:=VC i t
def rG(prog:Program)(w:World)(x:Str)(t:Tok):(xX prog w).is (.inr x) (.str x t)=true:=VD x t
inductive V where
 |non|bl (b:Bool)|int (i:Int)|str (x:Str)|byt (b:Array UInt8)|flt (b:UInt64)|ref (a:Addr)|ty (n:String)
 deriving DecidableEq
def RelV:V->Value->Prop
 |.non,u=>u=Value.none
 |.bl b,u=>u=Value.bool b
 |.int i,u=> ∃t,u=Value.int i t
 |.str x,u=> ∃t,u=Value.str x t
 |.byt b,u=> ∃t,u=Value.bytes b t
 |.flt b,u=> ∃t,u=Value.float b t
 |.ref a,u=>u=Value.ref a
 |.ty n,u=>u=Value.type n
abbrev Vals:List V->List Value->Prop:=Paired RelV
def Vals.length{xs:List V}{us:Uk}(r:Vals xs us):xs.length=us.length:=Paired.length r
theorem Vals.get: ∀{xs:List V}{us:Uk}{i:Nat}{x:V},Vals xs us->xs[i]? =some x-> ∃u,us[i]? =some u/\RelV x u
 |_,_,_,_,.nil,e=>by simp at e
 |_,_,0,_,.cons r _,e=>by simp at e;subst e;exact⟨_,rfl,r⟩
 |_,_,i+1,x,.cons _ t,e=>by obtain⟨u,h1,h2⟩:=Vals.get (i:=i) (x:=x) t (by simpa using e);exact⟨u,by simpa using h1,h2⟩
theorem Vals.set{x:V}{u:Value}(r:RelV x u): ∀{xs:List V}{us:Uk}(i:Nat),Vals xs us->Vals (xs.set i x) (us.set i u)
 |_,_,_,.nil=>.nil
 |_,_,0,.cons _ t=>.cons r t
 |_,_,i+1,.cons q t=>.cons q (Vals.set r i t)
theorem Vals.append: ∀{xs ys:List V}{us ws:Uk},Vals xs us->Vals ys ws->Vals (xs++ys) (us++ws)
 |_,_,_,_,.nil,s=>s
 |_,_,_,_,.cons r t,s=>.cons r (Vals.append t s)
theorem Vals.take: ∀{xs:List V}{us:Uk}(n:Nat),Vals xs us->Vals (xs.take n) (us.take n)
 |_,_,0,_=>.nil
 |_,_,_+1,.nil=>.nil
 |_,_,n+1,.cons r t=>.cons r (Vals.take n t)
theorem Vals.drop: ∀{xs:List V}{us:Uk}(n:Nat),Vals xs us->Vals (xs.drop n) (us.drop n)
 |_,_,0,r=>r
 |_,_,_+1,.nil=>.nil
 |_,_,n+1,.cons _ t=>Vals.drop n t
def Vals.none_of: ∀{xs:List V}{us:Uk}{i:Nat},Vals xs us->xs[i]? =none->us[i]? =none:=λ{xs us i} r e=>by have h1:=r.length;have h2:xs.length<=i:=List.getElem?_eq_none_iff.mp e;exact List.getElem?_eq_none_iff.mpr (by omega)
def RelO:Option V->Option Value->Prop
 |some v,some u=>RelV v u
 |none,none=>True
 |_,_=>False
def KV{κ:Type}:List (κ×V)->List (κ×Value)->Prop:=Paired λ(p:κ×V) (q:κ×Value)=>p.1=q.1/\RelV p.2 q.2
def kV:Key->V
 |.inl i=>.int i
 |.inr x=>.str x
inductive HO where
 |lst (xs:List V)
 |tup (xs:List V)
 |dK (kvs:List (Key×V))|dT (kvs:List (List Key×V))
 |set (S:Int->Bool) (n:Nat)
 |ins (C dx:Addr) (fs:List (Str×V))
 |own (x:Addr)
 |xd (fs:List (Str×V))
 |met (f x:Addr)
 |rng (lo hi:Int)
 |frz (o:Obj) (u:HO)
 |tbl (ps:Va)
 |ext (φ:Heap->Prop)
abbrev Hp:=Addr->Option HO
def gD(H:Hp)(a:Addr)(o:HO):Hp:=λb=>if b=a then some o else H b
def xB{H:Hp}{a:Addr}{o:HO}:gD H a o a=some o:=by unfold gD;rw[iP rfl]
def yF{H:Hp}{a b:Addr}{o:HO}(h:b≠a):gD H a o b=H b:=by unfold gD;rw[iN h]
def xI{H:Hp}{a b:Addr}{o:HO}(h:H a=some o)(h':H b=none):a≠b:=by intro e;subst e;rw[h]at h';cases h'
section
variable(P:Program)(w:World)
def ObjOk(H:Hp)(h:Heap)(a:Addr):HO->Prop
 |.lst xs=>xs.length<=sizeLine/\ ∃(its:Uk)(n:Nat),Vals xs its/\h.get? a=some {cls:=.type "list",data:=.seq its.toArray n}
 |.tup xs=>xs.length<=sizeLine/\ ∃its:List Value,Vals xs its/\IsTup h a its.toArray
 |.dK kvs=>kvs.length<=sizeLine/\(a==sysModules)=false/\ ∃vs,KV kvs vs/\h.DictOf (xX P w) a vs
 |.dT kvs=>kvs.length<=sizeLine/\(a==sysModules)=false/\ ∃xs:List (List Key×Addr×Value),
   Paired (λ(p:List Key×V) (q:List Key×Addr×Value)=>p.1=q.1/\H q.2.1=some (.tup (p.1.map kV))/\RelV p.2 q.2.2) kvs xs/\
   ∃o es ep,h.get? a=some o/\o.ExactDict/\o.data=.dict es ep/\es.toList=xs.map (entryOfKey (tupleKind (xX P w)))/\(xs.map (·.1)).Nodup
 |.set S n=>h.SetOf (intKind P w) a S n
 |.ins C dx fs=>H dx=some (.own a)/\fs.length<=1000/\dx≠a/\h.get? a=some (PySem.W.instObj C dx)/\
   ∃mA,h.Ns1 dx mA/\(∀f,RelO (fs.lookup f) (mA f))/\PySem.Within mA (fs.map (·.1))
 |.own _=> ∃o,h.get? a=some o
 |.xd fs=> ∃mA,h.Ns1 a mA/\ ∀f,RelO (fs.lookup f) (mA f)
 |.rng lo hi=> ∃t u v,h.get? a=some {cls:=.type "range",data:=.fields #[.int lo t,.int hi u,.int 1 v]}
 |.frz o u=>h.get? a=some o/\ObjOk H h a u
 |.tbl ps=>h.get? a=some {cls:=.none,data:=.fields ps}
 |.met f x=>h.get? a=some (PySem.W.methodObj (.ref f) (.ref x))
 |.ext φ=>φ h/\(∃o,h.get? a=some o)/\ ∀h1 h2:Heap,φ h1->(∀o,h1.get? a=some o->h2.get? a=some o)->φ h2
def HOk(H:Hp)(h:Heap):Prop:= ∀a o,H a=some o->ObjOk P w H h a o
end
section
variable{P:Program}{w:World}{H H':Hp}{h h':Heap}{a:Addr}{o:HO}
def ObjOk.lt(x:ObjOk P w H h a o):a<h.objs.size:=by
 cases o with
 |lst xs=>obtain⟨_,_,_,_,e⟩:=x;exact Heap.lt_size e
 |tup xs=>obtain⟨_,_,_,p⟩:=x;exact p.lt
 |dK kvs=>obtain⟨_,_,_,_,o,_,_,e,_⟩:=x;exact Heap.lt_size e
 |dT kvs=>obtain⟨_,_,_,_,o,_,_,e,_⟩:=x;exact Heap.lt_size e
 |set S n=>obtain⟨o,_,_,_,e,_⟩:=x;exact Heap.lt_size e
 |ins C dx fs=>obtain⟨_,_,_,e,_⟩:=x;exact Heap.lt_size e
 |own y=>obtain⟨_,e⟩:=x;exact Heap.lt_size e
 |xd fs=>obtain⟨_,⟨_,_,_,e,_⟩,_⟩:=x;exact Heap.lt_size e
 |rng lo hi=>obtain⟨_,_,_,e⟩:=x;exact Heap.lt_size e
 |frz ob u=>obtain⟨e,_⟩:=x;exact Heap.lt_size e
 |tbl ps=>exact Heap.lt_size (show h.get? a=some _ from x)
 |met f y=>exact Heap.lt_size (show h.get? a=some _ from x)
 |ext φ=>obtain⟨_,⟨_,e⟩,_⟩:=x;exact Heap.lt_size e
theorem Paired.mapP{α β:Type}{F G:α->β->Prop}: ∀{l₁:List α}{l₂:List β},Paired F l₁ l₂->(∀a b,F a b->G a b)->Paired G l₁ l₂
 |_,_,.nil,_=>.nil
 |_,_,.cons r t,f=>.cons (f _ _ r) (Paired.mapP t f)
def ObjOk.stay(x:ObjOk P w H h a o)(k: ∀b u,(b=a\/H b=some (.own a))->h.get? b=some u->h'.get? b=some u)
  (ho: ∀b,H b=some (.own a)->H' b=some (.own a)) (ht: ∀b xs,H b=some (.tup xs)->H' b=some (.tup xs)):ObjOk P w H' h' a o:=by
 induction o with
 |lst xs=>obtain⟨z,its,n,r,e⟩:=x;exact⟨z,its,n,r,k _ _ (.inl rfl) e⟩
 |tup xs=>obtain⟨z,its,r,ob,e,c⟩:=x;exact⟨z,its,r,ob,k _ _ (.inl rfl) e,c⟩
 |dK kvs=>obtain⟨z,y,vs,r,ob,es,ep,e,c⟩:=x;exact⟨z,y,vs,r,ob,es,ep,k _ _ (.inl rfl) e,c⟩
 |dT kvs=>
  obtain⟨z,y,xs,r,ob,es,ep,e,c⟩:=x;exact⟨z,y,xs,Paired.mapP r λp q z=>⟨z.1,ht _ _ z.2.1,z.2.2⟩,ob,es,ep,k _ _ (.inl rfl) e,c⟩
 |set S n=>obtain⟨ob,es,ep,t,e,c⟩:=x;exact⟨ob,es,ep,t,k _ _ (.inl rfl) e,c⟩
 |ins C dx fs=>
  obtain⟨d,z,ne,e,mA,⟨od,es,ep,e2,c⟩,r⟩:=x;exact⟨ho _ d,z,ne,k _ _ (.inl rfl) e,mA,⟨od,es,ep,k _ _ (.inr d) e2,c⟩,r⟩
 |own y=>obtain⟨ob,e⟩:=x;exact⟨ob,k _ _ (.inl rfl) e⟩
 |xd fs=>obtain⟨mA,⟨od,es,ep,e,c⟩,r⟩:=x;exact⟨mA,⟨od,es,ep,k _ _ (.inl rfl) e,c⟩,r⟩
 |rng lo hi=>obtain⟨t,u,v,e⟩:=x;exact⟨t,u,v,k _ _ (.inl rfl) e⟩
 |frz ob u ih=>obtain⟨e,q⟩:=x;exact⟨k _ _ (.inl rfl) e,ih q⟩
 |tbl ps=>
  have e:h.get? a=some {cls:=.none,data:=.fields ps}:=x;show h'.get? a=some {cls:=.none,data:=.fields ps};exact k a _ (.inl rfl) e
 |met f y=>
  have e:h.get? a=some (PySem.W.methodObj (.ref f) (.ref y)):=x;show h'.get? a=some (PySem.W.methodObj (.ref f) (.ref y));exact k a _ (.inl rfl) e
 |ext φ=>obtain⟨p,⟨o,e⟩,st⟩:=x;exact⟨st _ _ p λo q=>k _ _ (.inl rfl) q,⟨o,k _ _ (.inl rfl) e⟩,st⟩
def HOk.lt(x:HOk P w H h)(e:H a=some o):a<h.objs.size:=(x a o e).lt
def HOk.fresh(x:HOk P w H h)(e:h.objs.size<=a):H a=none:=by
 cases q:H a with
 |none=>rfl
 |some u=>exact absurd (Nat.lt_of_lt_of_le (x.lt q) e) (lt_irrefl _)
def HOk.kept(x:HOk P w H h)(k: ∀b u,h.get? b=some u->h'.get? b=some u):HOk P w H h':=λa o e=>
 (x a o e).stay (λb u _ q=>k b u q) (λ_ q=>q) λ_ _ q=>q
def HOk.laid(x:HOk P w H h)(k: ∀b u,h.get? b=some u->h'.get? b=some u)(hp:h.objs.size<=a)(new:ObjOk P w (gD H a o) h' a o):HOk P w (gD H a o) h':=λb u e=>by
 have hn:=x.fresh hp;by_cases hb:b=a
 .subst hb;rw[xB]at e;cases e;exact new
 .rw[yF hb]at e;exact(x b u e).stay (λc v _ q=>k c v q) (λc q=>by rw[yF (xI q hn)];exact q) λc xs q=>by rw[yF (xI q hn)];exact q
end
def Rd(H:Hp)(a:Addr)(u:HO):Prop:=H a=some u\/ ∃o,H a=some (.frz o u)
def Rd.ok{P:Program}{w:World}{H:Hp}{h:Heap}{a:Addr}{u:HO}(r:Rd H a u)(x:HOk P w H h):ObjOk P w H h a u:=by
 rcases r with r|⟨o,r⟩
 .exact x a u r
 .obtain⟨_,q⟩:=x a _ r;exact q
def Pu:Option HO->Prop
 |some (.lst _)=>True
 |some (.dK _)=>True
 |some (.dT _)=>True
 |some (.set _ _)=>True
 |some (.ins _ _ _)=>True
 |some (.ext _)=>True
 |_=>False
section
variable{P:Program}{w:World}{H:Hp}{h h':Heap}{x e:Addr}{o':HO}
theorem HOk.write(ok:HOk P w H h)(mu:Pu (H x))(he:e=x\/H e=some (.own x))(k: ∀b u,b≠e->h.get? b=some u->h'.get? b=some u)(heo: ∃u,h'.get? e=some u)
  (new:ObjOk P w (gD H x o') h' x o'):HOk P w (gD H x o') h':=λb u q=>by
 have nown: ∀c y,H c=some (.own y)->c≠x:=λc y r z=>by subst z;rw[r]at mu;exact mu
 have ntup: ∀c xs,H c=some (.tup xs)->c≠x:=λc xs r z=>by subst z;rw[r]at mu;exact mu
 by_cases hb:b=x
 .subst hb;rw[xB]at q;cases q;exact new
 .rw[yF hb]at q;by_cases hbe:b=e
  .have q':H b=some (.own x):=by
    rcases he with z|z
    .exact absurd (hbe.trans z) hb
    .rw[hbe];exact z
   rw[q]at q';cases q';obtain⟨v,hv⟩:=heo;exact⟨v,by rw[hbe];exact hv⟩
  .refine(ok b u q).stay (λc v hc r=>k c v ?_ r) (λc r=>by rw[yF (nown c b r)];exact r) λc xs r=>by rw[yF (ntup c xs r)];exact r
   rcases hc with rfl|hc
   .exact hbe
   .rintro rfl;rcases he with z|z
    .exact nown c b hc z
    .rw[hc]at z;cases z;exact hb rfl
end
structure Un(fs ex:Vb)(H H':Hp)(h h':Heap):Prop where
 keep: ∀b o,h.get? b=some o->H b=none->b∉fs->b∉ex->h'.get? b=some o
 slot: ∀b o,h.get? b=some o->H b=none->b∈fs->b∉ex-> ∃sl,h'.get? b=some {o with slots:=sl}
 free: ∀b o,h.get? b=some o->H b=none->b∉ex->H' b=none
 there: ∀b o,h.get? b=some o->b∉ex-> ∃o',h'.get? b=some o'
 tups: ∀b xs,H b=some (.tup xs)->H' b=some (.tup xs)
 frzs: ∀b o u,H b=some (.frz o u)->H' b=some (.frz o u)
 tbls: ∀b ps,H b=some (.tbl ps)-> ∃more,H' b=some (.tbl (ps++more))
section
variable{fs ex:Vb}{H H1:Hp}{h h1 h':Heap}{a x e:Addr}{o:HO}
def Un.any(u:Un fs ex H H1 h h1){b:Addr}{ob:Obj}(q:h.get? b=some ob)(n:H b=none)(hx:b∉ex): ∃sl,h1.get? b=some {ob with slots:=sl}:=by
 by_cases hb:b∈fs
 .exact u.slot b ob q n hb hx
 .exact⟨ob.slots,u.keep b ob q n hb hx⟩
def Un.kept(k: ∀b u,h.get? b=some u->h'.get? b=some u):Un fs ex H H h h':=
 ⟨λb ob q _ _ _=>k b ob q,λb ob q _ _ _=>⟨ob.slots,k b ob q⟩,λ_ _ _ n _=>n,λb ob q _=>⟨ob,k b ob q⟩,λ_ _ q=>q,λ_ _ _ q=>q,λ_ ps q=>⟨#[],by rw[q];simp⟩⟩
def Un.refl:Un fs ex H H h h:=Un.kept λ_ _ q=>q
def Un.laid(k: ∀b u,h.get? b=some u->h'.get? b=some u)(hp:h.objs.size<=a)(hn:H a=none):Un fs ex H (gD H a o) h h' where
 keep:=λb u q _ _ _=>k b u q
 slot:=λb u q _ _ _=>⟨u.slots,k b u q⟩
 free:=λb u q n _=>by rw[yF (Nat.ne_of_lt (Nat.lt_of_lt_of_le (Heap.lt_size q) hp))];exact n
 there:=λb u q _=>⟨u,k b u q⟩
 tups:=λb xs q=>by rw[yF (xI q hn)];exact q
 frzs:=λb u xs q=>by rw[yF (xI q hn)];exact q
 tbls:=λb ps q=>⟨#[],by rw[yF (xI q hn),q];simp⟩
def Un.write(mu:Pu (H x))(he:e=x\/H e=some (.own x))(k: ∀b u,b≠e->h.get? b=some u->h'.get? b=some u)(heo: ∃u,h'.get? e=some u):Un fs ex H (gD H x o) h h':=by
 have hx: ∀b,H b=none->b≠x:=λb n z=>by subst z;rw[n]at mu;exact mu
 have hb: ∀b,H b=none->b≠e:=λb n z=>by
  subst z;rcases he with r|r
  .exact hx b n r
  .rw[n]at r;cases r
 have hm: ∀b u,H b=some u-> ¬Pu (some u)->b≠x:=λb u q nm z=>by subst z;rw[q]at mu;exact nm mu
 refine⟨λb u q n _ _=>k b u (hb b n) q,λb u q n _ _=>⟨u.slots,k b u (hb b n) q⟩,λb u q n _=>by rw[yF (hx b n)];exact n,λb u q _=>?_,
  λb xs q=>by rw[yF (hm b _ q λz=>z)];exact q,λb u xs q=>by rw[yF (hm b _ q λz=>z)];exact q,λb ps q=>⟨#[],by rw[yF (hm b _ q λz=>z),q];simp⟩⟩
 by_cases hbe:b=e
 .subst hbe;exact heo
 .exact⟨u,k b u hbe q⟩
end
def Tw(h:Heap)(H:Hp):List Addr:=(List.range h.objs.size).filter λa=>(H a).isSome
def JG(h:Heap)(H:Hp):Heap:=PySem.W.hideAll h (Tw h H)
def VE(h:Heap)(H:Hp):(JG h H).objs.size=h.objs.size:=PySem.W.hideAll_size _ _
def XX{h:Heap}{H:Hp}{b:Addr}{o:Obj}(e:h.get? b=some o)(n:H b=none):(JG h H).get? b=some o:=
 PySem.W.hideAll_get _ e λhm=>by have q:(H b).isSome=true:=(List.mem_filter.mp hm).2;rw[n]at q;simp at q
def Ea{h:Heap}{H:Hp}{b:Addr}{o:Obj}(e:(JG h H).get? b=some o):h.get? b=some o/\H b=none:=by
 have e':h.get? b=some o:=PySem.W.of_hideAll (Tw h H) e;refine⟨e',?_⟩
 cases q:H b with
 |none=>rfl
 |some x=>
  have hm:b∈Tw h H:=List.mem_filter.mpr ⟨mem_range.mpr (Heap.lt_size e'),by simp[q]⟩;have z:(JG h H).get? b=none:=PySem.W.hideAll_none (Tw h H) hm;rw[z]at e;cases e
def Eb(g h:Heap)(L:Addr):List (Addr×Obj):=(List.range h.objs.size).filterMap λa=>if a=L\/(g.get? a).isSome=true then none else(h.get? a).map λo=>(a,o)
def rest(g h:Heap)(L d:Addr):List (Addr×Obj):=(Eb g h L).filter λp=>decide (p.1≠d)
structure Mod(K:Vk)(mg:Vd)(base:Heap):Prop where
 kin:K.In base
 glob:base.Ns mainGlobals mg
 blt: ∃mb,base.Ns builtinsNs mb/\ ∀x:Str,x≠"__name__"->mb x=bootBuiltins x
 nolimit:base.NoLimit
structure Cx where
 prog:Program
 w:World
 K:PySem.W.Frag
 mg:Str->Option Value
 base:Heap
 A:Around
 N:List Str
 s₀:Shared
 H₀:Hp
 env:Env
 outer:List Env
 stack:List Env
 ex:List Addr
 fn:Str->Bool
 calm:Bool
 pn:List (Addr×Obj)
 xe:VP
def SK(l:List Env):List Addr:=l.filterMap (·.frame)
abbrev Cx.fs(X:Cx):List Addr:=SK X.outer
def Qb(sc:Scope)(x:Str):Prop:=sc.names.lookup x=some .local\/sc.names.lookup x=some .cell\/sc.names.lookup x=some .free
def Loc(sc:Scope)(x:Str):Prop:=sc.names.lookup x=some .local\/sc.names.lookup x=some .cell
def Look(env:Env)(h:Heap)(m:Vd)(x:Str)(u:Value):Prop:=
 (env.kindOf x=some .local/\m x=some u)\/((env.kindOf x=some .cell\/env.kindOf x=some .free)/\ ∃c,env.cells.lookup x=some c/\h.IsCell c (some u))
structure Cx.Ok(X:Cx):Prop where
 mod:Mod X.K X.mg X.base
 kind:X.env.scope.kind=.function
 glob:X.env.globals=mainGlobals
 blt:X.env.builtins=builtinsNs
 above:X.s₀.heap.objs.size<=X.env.locals
 inj: ∀x y c,X.env.cells.lookup x=some c->X.env.cells.lookup y=some c->x=y
 has: ∀x,(X.env.kindOf x=some .cell\/X.env.kindOf x=some .free)-> ∃c,X.env.cells.lookup x=some c
 cab: ∀x c,X.fn x=true->X.env.cells.lookup x=some c->X.s₀.heap.objs.size<=c
 hd:X.calm=true->X.A.handled=none
 frames:X.A.frames=some X.stack
 stk:X.stack=X.outer\/(X.stack=X.env::X.outer/\X.env.frame=some X.env.locals)
 exf: ∀b∈X.ex,b≠X.env.locals/\ ∀x c,X.env.cells.lookup x=some c->c≠b
 bs: ∀b o,X.base.get? b=some o->X.s₀.heap.get? b=some o/\X.H₀ b=none
 bsz:X.base.objs.size<=X.s₀.heap.objs.size
 noex: ∀b o,X.base.get? b=some o->b∉X.ex
 exfs: ∀b∈X.ex,b∉X.fs
 funs:X.s₀.heap.FunFrames X.base X.outer
 frf: ∀b∈X.fs,X.H₀ b=none
structure Inv(X:Cx)(pins:Vg)(σ:List (Option V))(H:Hp)(s:Shared):Prop where
 ok:X.Ok
 os:s.os=X.s₀.os
 bare:AllBare s.gens
 base:Un X.fs X.ex X.H₀ H X.s₀.heap s.heap
 loc: ∃m,s.heap.Ns X.env.locals m/\ ∀(i:Nat)(x:Str)(v:V),X.N[i]? =some x->σ[i]? =some (some v)->Qb X.env.scope x-> ∃u,RelV v u/\Look X.env s.heap m x u
 cell: ∀x c,X.env.cells.lookup x=some c-> ∃v,s.heap.IsCell c v
 free:H X.env.locals=none
 freeC: ∀x c,X.env.cells.lookup x=some c->H c=none
 pin: ∀p∈X.pn++pins,s.heap.get? p.1=some p.2/\H p.1=none/\p.1≠X.env.locals/\p.1∉X.fs/\ ∀v,p.2.data≠.cell v
 hok:HOk X.prog X.w H s.heap
 len:σ.length=X.N.length
section
variable{X:Cx}{pins:Vg}{σ:List (Option V)}{H H':Hp}{s:Shared}{h':Heap}
def Cx.Ok.nofr(ok:X.Ok){b:Addr}{o:Obj}(e:X.base.get? b=some o):b∉X.fs:=λhb=>by have:=(ok.funs.mem hb).1;rw[e]at this;cases this
def Inv.bs(I:Inv X pins σ H s): ∀b o,X.base.get? b=some o->s.heap.get? b=some o/\H b=none:=λb o e=>
 ⟨I.base.keep b o (I.ok.bs b o e).1 (I.ok.bs b o e).2 (I.ok.nofr e) (I.ok.noex b o e),I.base.free b o (I.ok.bs b o e).1 (I.ok.bs b o e).2 (I.ok.noex b o e)⟩
def Inv.bk(I:Inv X pins σ H s): ∀b o,X.base.get? b=some o->s.heap.get? b=some o:=λb o e=>(I.bs b o e).1
def Inv.mod(I:Inv X pins σ H s):Mod X.K X.mg X.base:=I.ok.mod
def Inv.kIn(I:Inv X pins σ H s):X.K.In s.heap:=I.ok.mod.kin.keeps I.bk
def Inv.lt(I:Inv X pins σ H s):X.env.locals<s.heap.objs.size:=let ⟨_,hn,_⟩:=I.loc;hn.lt
def Inv.sz(I:Inv X pins σ H s):X.s₀.heap.objs.size<=s.heap.objs.size:=Nat.le_trans I.ok.above (le_of_lt I.lt)
def Inv.nofs(I:Inv X pins σ H s){a:Addr}(h:s.heap.objs.size<=a):a∉X.fs:=λhb=>by obtain⟨_,o,ho,_⟩:=I.ok.funs.mem hb;exact absurd (Nat.lt_of_lt_of_le (Heap.lt_size ho) (Nat.le_trans I.sz h)) (lt_irrefl _)
def Inv.cne(I:Inv X pins σ H s): ∀x c,X.env.cells.lookup x=some c->c≠X.env.locals:=λx c e z=>by obtain⟨v,o,ho,hd⟩:=I.cell x c e;obtain⟨m,⟨o',es,ep,ho',hd',_⟩,_⟩:=I.loc;rw[z,ho']at ho;cases ho;rw[hd']at hd;cases hd
def Inv.funs(I:Inv X pins σ H s):s.heap.FunFrames X.base X.outer:=by
 have all: ∀(l:List Env),(∀b∈SK l,b∈X.fs)->X.s₀.heap.FunFrames X.base l->s.heap.FunFrames X.base l:=by
  intro l
  induction l with
  |nil=>intro _ _;trivial
  |cons env r ih=>
   intro hs hl;obtain⟨hk,⟨L,o,hf,hn,ho,hd⟩,hr⟩:=hl;have hL:L∈X.fs:=hs L (by unfold SK;rw[filterMap_cons,hf];exact mF0);obtain⟨sl,e⟩:=I.base.slot L o ho (I.ok.frf L hL) hL λz=>I.ok.exfs L z hL;exact⟨hk,⟨L,_,hf,hn,e,hd⟩,ih (λb hb=>hs b (by unfold SK;rw[filterMap_cons,hf];exact mO _ hb)) hr⟩
 exact all X.outer (λ_ hb=>hb) I.ok.funs
def Inv.stack(I:Inv X pins σ H s):s.heap.FunFrames X.base X.stack:=by
 rcases I.ok.stk with e|⟨e,hf⟩
 .rw[e];exact I.funs
 .rw[e];obtain⟨m,hn,_⟩:=I.loc;refine .cons (by rw[I.ok.kind];decide) hf hn ?_ I.funs;exact Heap.get?_none_of_le (Nat.le_trans I.ok.bsz I.ok.above)
def Inv.stkSub(I:Inv X pins σ H s): ∀b∈SK X.stack,b∈X.env.locals::X.fs:=λb hb=>by
 rcases I.ok.stk with e|⟨e,hf⟩
 .rw[e]at hb;exact mO _ hb
 .rw[e]at hb;unfold SK at hb;rw[filterMap_cons,hf]at hb;exact hb
def Inv.stkFree(I:Inv X pins σ H s): ∀b∈SK X.stack,H b=none:=λb hb=>by
 rcases mC.mp (I.stkSub b hb)with e|hb
 .rw[e];exact I.free
 .obtain⟨_,o,ho,_⟩:=I.ok.funs.mem hb;exact I.base.free b o ho (I.ok.frf b hb) λz=>I.ok.exfs b z hb
def Inv.step{g':Array GenState}{t':Nat}{d':Drawn}{ch:Vb}(I:Inv X pins σ H s)
  (hch: ∀b∈ch,(b∈X.ex\/X.s₀.heap.objs.size<=b)/\b≠X.env.locals/\(∀x c,X.env.cells.lookup x=some c->c≠b)/\ ∀p∈X.pn++pins,p.1≠b)
  (keep: ∀b o,b≠X.env.locals->b∉X.fs->b∉ch->s.heap.get? b=some o->H b=none->h'.get? b=some o)
  (slot: ∀b o,b≠X.env.locals->b∈X.fs->b∉ch->s.heap.get? b=some o->H b=none-> ∃sl,h'.get? b=some {o with slots:=sl}) (free: ∀b o,b∉ch->s.heap.get? b=some o->H b=none->H' b=none)
  (there: ∀b o,b∉ch->s.heap.get? b=some o-> ∃o',h'.get? b=some o')
  (tups: ∀b xs,H b=some (.tup xs)->H' b=some (.tup xs)) (frzs: ∀b o u,H b=some (.frz o u)->H' b=some (.frz o u)) (tbls: ∀b ps,H b=some (.tbl ps)-> ∃more,H' b=some (.tbl (ps++more)))
  (ns: ∀m,s.heap.Ns X.env.locals m->h'.Ns X.env.locals m) (hok:HOk X.prog X.w H' h') (hg:AllBare g'):
  Inv X pins σ H' {s with heap:=h',gens:=g',drawn:=d',toks:=t'}:=by
 have neL: ∀b o,X.s₀.heap.get? b=some o->b≠X.env.locals:=λb o e=>Nat.ne_of_lt (Nat.lt_of_lt_of_le (Heap.lt_size e) I.ok.above)
 have neC: ∀b o,X.s₀.heap.get? b=some o->b∉X.ex->b∉ch:=λb o e hx hb=>by
  rcases (hch b hb).1 with z|z
  .exact hx z
  .exact absurd (Nat.lt_of_lt_of_le (Heap.lt_size e) z) (lt_irrefl _)
 have cellK: ∀x c,X.env.cells.lookup x=some c-> ∀v,s.heap.IsCell c v->h'.IsCell c v:=λx c e v ⟨o,ho,hd⟩=>by
  have nch:c∉ch:=λz=>(hch c z).2.2.1 x c e rfl;by_cases hc:c∈X.fs
  .obtain⟨sl,q⟩:=slot c o (I.cne x c e) hc nch ho (I.freeC x c e);exact⟨_,q,hd⟩
  .exact⟨o,keep c o (I.cne x c e) hc nch ho (I.freeC x c e),hd⟩
 refine⟨I.ok,I.os,hg,⟨λb o e n hb hx=>?_,λb o e n hb hx=>?_,λb o e n hx=>?_,λb o e hx=>?_,λb xs e=>tups b xs (I.base.tups b xs e),λb o xs e=>frzs b o xs (I.base.frzs b o xs e),λb ps e=>?_⟩,?_,λx c e=>?_,?_,λx c e=>?_,λp hp=>?_,hok,I.len⟩
 .exact keep b o (neL b o e) hb (neC b o e hx) (I.base.keep b o e n hb hx) (I.base.free b o e n hx)
 .obtain⟨sl,e1⟩:=I.base.slot b o e n hb hx;obtain⟨sl',e2⟩:=slot b _ (neL b o e) hb (neC b o e hx) e1 (I.base.free b o e n hx);exact⟨sl',e2⟩
 .obtain⟨o',e1⟩:=I.base.there b o e hx;exact free b o' (neC b o e hx) e1 (I.base.free b o e n hx)
 .obtain⟨o',e1⟩:=I.base.there b o e hx;exact there b o' (neC b o e hx) e1
 .obtain⟨m1,e1⟩:=I.base.tbls b ps e;obtain⟨m2,e2⟩:=tbls b _ e1;exact⟨m1++m2,by rw[e2,Array.append_assoc]⟩
 .obtain⟨m,hn,hl⟩:=I.loc;refine⟨m,ns m hn,λi x v e1 e2 e3=>?_⟩;obtain⟨u,r,l⟩:=hl i x v e1 e2 e3;refine⟨u,r,?_⟩;rcases l with l|⟨k,c,e,z⟩
  .exact .inl l
  .exact .inr ⟨k,c,e,cellK x c e _ z⟩
 .obtain⟨v,z⟩:=I.cell x c e;exact⟨v,cellK x c e v z⟩
 .obtain⟨m,⟨o,_,_,ho,_⟩,_⟩:=I.loc;exact free _ o (λz=>(hch _ z).2.1 rfl) ho I.free
 .obtain⟨v,o,ho,hd⟩:=I.cell x c e;exact free c o (λz=>(hch c z).2.2.1 x c e rfl) ho (I.freeC x c e)
 .obtain⟨e,n,ne,nf,d⟩:=I.pin p hp;have nch:p.1∉ch:=λz=>(hch p.1 z).2.2.2 p hp rfl;exact⟨keep p.1 p.2 ne nf nch e n,free p.1 p.2 nch e n,ne,nf,d⟩
def Inv.un{t':Nat}(I:Inv X pins σ H s)(u:Un X.fs [] H H' s.heap h')(hok:HOk X.prog X.w H' h'):Inv X pins σ H' {s with heap:=h',toks:=t'}:=by obtain⟨m,⟨o,es,ep,ho,r⟩,_⟩:=id I.loc;obtain⟨sl,hL⟩:=u.any ho I.free (by simp);exact I.step (g':=s.gens) (d':=s.drawn) (ch:=[]) (λ_ z=>nomatch z) (λb o _ hb _ e n=>u.keep b o e n hb (by simp)) (λb o _ hb _ e n=>u.slot b o e n hb (by simp)) (λb o _ e n=>u.free b o e n (by simp)) (λb o _ e=>u.there b o e (by simp)) u.tups u.frzs u.tbls (λm' hm=>by obtain⟨o',es',ep',ho',r'⟩:=hm;rw[ho]at ho';cases ho';exact⟨_,es',ep',hL,r'⟩) hok I.bare
def Inv.call{g':Array GenState}{t':Nat}{d':Drawn}{ch:Vb}(I:Inv X pins σ H s)(u:Un (SK X.stack) ch H H' s.heap h')(hok:HOk X.prog X.w H' h')(hg:AllBare g')
  (hch: ∀b∈ch,(b∈X.ex\/X.s₀.heap.objs.size<=b)/\b≠X.env.locals/\(∀x c,X.env.cells.lookup x=some c->c≠b)/\ ∀p∈X.pn++pins,p.1≠b):
  Inv X pins σ H' {s with heap:=h',gens:=g',drawn:=d',toks:=t'}:=by
 obtain⟨m,⟨o,es,ep,ho,r⟩,_⟩:=id I.loc;obtain⟨sl,hL⟩:=u.any ho I.free λz=>(hch _ z).2.1 rfl;exact I.step (ch:=ch) hch (λb o hL hb hc e n=>u.keep b o e n (λz=>(mC.mp (I.stkSub b z)).elim hL hb) hc) (λb o _ _ hc e n=>u.any e n hc) (λb o hc e n=>u.free b o e n hc) (λb o hc e=>u.there b o e hc) u.tups u.frzs u.tbls (λm' hm=>by obtain⟨o',es',ep',ho',r'⟩:=hm;rw[ho]at ho';cases ho';exact⟨_,es',ep',hL,r'⟩) hok hg
def Inv.turned{t':Nat}{it:Addr}(I:Inv X pins σ H s)(k: ∀b o,b≠it->s.heap.get? b=some o->h'.get? b=some o)(hn:H it=none)(hL:it≠X.env.locals)
  (h1:it∈X.ex\/X.s₀.heap.objs.size<=it) (h2: ∀x c,X.env.cells.lookup x=some c->c≠it) (h3: ∀p∈X.pn++pins,p.1≠it):Inv X pins σ H {s with heap:=h',toks:=t'}:=by
 have nit: ∀b u,H b=some u->b≠it:=λb u e z=>by rw[z,hn]at e;cases e
 refine I.step (g':=s.gens) (d':=s.drawn) (ch:=[it]) (λb hb=>?_) (λb o _ _ hc e _=>k b o (λz=>hc (by simp[z])) e) (λb o _ _ hc e _=>⟨o.slots,k b o (λz=>hc (by simp[z])) e⟩) (λ_ _ _ _ n=>n)
  (λb o hc e=>⟨o,k b o (λz=>hc (by simp[z])) e⟩) (λ_ _ e=>e) (λ_ _ _ e=>e) (λb ps e=>⟨#[],by rw[e];simp⟩) (λm hm=>?_) (λb u e=>?_) I.bare
 .have e:b=it:=by simpa using hb
  subst e;exact⟨h1,hL,h2,h3⟩
 .obtain⟨o,es,ep,ho,r⟩:=hm;exact⟨o,es,ep,k _ o (Ne.symm hL) ho,r⟩
 .refine(I.hok b u e).stay (λc v hc q=>k c v ?_ q) (λ_ q=>q) λ_ _ q=>q;rcases hc with z|z
  .rw[z];exact nit b u e
  .exact nit c _ z
def Inv.tok(I:Inv X pins σ H s)(t:Nat):Inv X pins σ H {s with toks:=t}:=I.un (h':=s.heap) (t':=t) Un.refl I.hok
def Inv.kept{t':Nat}(I:Inv X pins σ H s)(k: ∀b u,s.heap.get? b=some u->h'.get? b=some u):Inv X pins σ H {s with heap:=h',toks:=t'}:=I.un (Un.kept k) (I.hok.kept k)
def Inv.laid{a:Addr}{o:HO}{t':Nat}(I:Inv X pins σ H s)(k: ∀b u,s.heap.get? b=some u->h'.get? b=some u)(hp:s.heap.objs.size<=a)(new:ObjOk X.prog X.w (gD H a o) h' a o):
  Inv X pins σ (gD H a o) {s with heap:=h',toks:=t'}:=I.un (Un.laid k hp (I.hok.fresh hp)) (I.hok.laid k hp new)
def Inv.write{x e:Addr}{o:HO}{t':Nat}(I:Inv X pins σ H s)(mu:Pu (H x))(he:e=x\/H e=some (.own x))(k: ∀b u,b≠e->s.heap.get? b=some u->h'.get? b=some u)(heo: ∃u,h'.get? e=some u)
  (new:ObjOk X.prog X.w (gD H x o) h' x o):Inv X pins σ (gD H x o) {s with heap:=h',toks:=t'}:=I.un (Un.write mu he k heo) (I.hok.write mu he k heo new)
def Inv.pins_of{pins':Vg}(I:Inv X pins σ H s)(h: ∀p∈pins',s.heap.get? p.1=some p.2/\H p.1=none/\p.1≠X.env.locals/\p.1∉X.fs/\ ∀v,p.2.data≠.cell v):Inv X pins' σ H s:=
 ⟨I.ok,I.os,I.bare,I.base,I.loc,I.cell,I.free,I.freeC,λp hp=>(List.mem_append.mp hp).elim (λz=>I.pin p (mem_append_left _ z)) (h p),I.hok,I.len⟩
def MP{N:Vc}(hN:N.Nodup){i j:Nat}{x:Str}(a:N[i]? =some x)(b:N[j]? =some x):i=j:=by obtain⟨h1,e1⟩:=gS.mp a;obtain⟨h2,e2⟩:=gS.mp b;exact(getElem_inj hN).mp (e1.trans e2.symm)
def HL{M:Model}{A:Around}{E:VP}{i:Nat}{x:Str}{v:V}{u:Value}{Q:Unit->Shared->Prop}(I:Inv X pins σ H s)(hN:X.N.Nodup)(hi:X.N[i]? =some x)(hx:Loc X.env.scope x)(r:RelV v u)
  (h: ∀s',Inv X pins (σ.set i (some v)) H s'->(∃a,Heap.SameBut a s.heap s'.heap/\(a=X.env.locals\/X.env.cells.lookup x=some a))->Q () s') (hf:X.fn x=true\/X.env.scope.names.lookup x=some .local:=by first |exact .inl rfl|exact .inr rfl|assumption):wpAny M A (storeName X.env x u) Q E s:=by
 obtain⟨m,hn,hl⟩:=id I.loc;have hcls:(X.env.scope.kind==.class || (X.env.scope.kind==.module&&X.env.locals !=X.env.globals))=false:=by rw[I.ok.kind];rfl
 have hiσ:i<σ.length:=by rw[I.len];exact(gS.mp hi).1
 have cne:=I.cne
 have tracked: ∀{a:Addr}{h':Heap},(∃o,s.heap.get? a=some o/\H a=none)->Heap.SameBut a s.heap h'->HOk X.prog X.w H h':=λ{a h'} ha hs b ob e=>by
  obtain⟨_,_,hfree⟩:=ha;refine(I.hok b ob e).stay (λc w' hc q=>(hs.2 c ?_).trans q) (λ_ q=>q) λ_ _ q=>q;rintro rfl;rcases hc with rfl|hc
  .rw[hfree]at e;cases e
  .rw[hfree]at hc;cases hc
 rcases hx with hk|hk
 .refine wpAny_storeName_local hk hn (λh' hn' hs=>?_) hcls;obtain⟨oL,_,_,hoL,_⟩:=id hn;refine h _ ⟨I.ok,I.os,I.bare,⟨λb o e n hb hx=>?_,λb o e n hb hx=>?_,I.base.free,λb o e hx=>?_,I.base.tups,I.base.frzs,I.base.tbls⟩,⟨_,hn',λj y v' e1 e2 e3=>?_⟩,λy c e=>?_,I.free,I.freeC,λp hp=>?_,tracked ⟨oL,hoL,I.free⟩ hs,by simpa using I.len⟩ ⟨_,hs,.inl rfl⟩
  .exact(hs.2 b (Nat.ne_of_lt (Nat.lt_of_lt_of_le (Heap.lt_size e) I.ok.above))).trans (I.base.keep b o e n hb hx)
  .obtain⟨sl,e1⟩:=I.base.slot b o e n hb hx;exact⟨sl,(hs.2 b (Nat.ne_of_lt (Nat.lt_of_lt_of_le (Heap.lt_size e) I.ok.above))).trans e1⟩
  .obtain⟨o',e1⟩:=I.base.there b o e hx;exact⟨o',(hs.2 b (Nat.ne_of_lt (Nat.lt_of_lt_of_le (Heap.lt_size e) I.ok.above))).trans e1⟩
  .by_cases hj:j=i
   .subst hj;rw[hi]at e1;cases e1;rw[getElem?_set_self hiσ]at e2;cases e2;exact⟨u,r,.inl ⟨hk,by simp⟩⟩
   .rw[getElem?_set_ne (Ne.symm hj)]at e2;obtain⟨u',r',q⟩:=hl j y v' e1 e2 e3;refine⟨u',r',?_⟩;rcases q with⟨k,e⟩|⟨k,c,e,z⟩
    .refine .inl ⟨k,?_⟩;have:y≠x:=λe=>hj (MP hN e1 (e▸hi));simp[this,e]
    .exact .inr ⟨k,c,e,z.sameBut hs (cne y c e)⟩
  .obtain⟨w',z⟩:=I.cell y c e;exact⟨w',z.sameBut hs (cne y c e)⟩
  .obtain⟨e,n,ne,nf,d⟩:=I.pin p hp;exact⟨(hs.2 p.1 ne).trans e,n,ne,nf,d⟩
 .have hfn:X.fn x=true:=by
   rcases hf with z|z
   .exact z
   .rw[z]at hk;cases hk
  obtain⟨c,hc⟩:=I.ok.has x (.inl hk);obtain⟨w',z⟩:=I.cell x c hc;refine wpAny_storeName_cell I.ok.kind hk hc z (λh' hc' hs=>?_);obtain⟨oc,hoc,hocd⟩:=id z;refine h {s with heap:=h'} ⟨I.ok,I.os,I.bare,⟨λb o e n hb hx=>?_,λb o e n hb hx=>?_,I.base.free,λb o e hx=>?_,I.base.tups,I.base.frzs,I.base.tbls⟩,⟨m,hn.sameBut hs (Ne.symm (cne x c hc)),λj y v' e1 e2 e3=>?_⟩,λy c' e=>?_,I.free,I.freeC,λp hp=>?_,tracked ⟨oc,hoc,I.freeC x c hc⟩ hs,by simpa using I.len⟩ ⟨c,hs,.inr hc⟩
  .exact(hs.2 b (Nat.ne_of_lt (Nat.lt_of_lt_of_le (Heap.lt_size e) (I.ok.cab x c hfn hc)))).trans (I.base.keep b o e n hb hx)
  .obtain⟨sl,e1⟩:=I.base.slot b o e n hb hx;exact⟨sl,(hs.2 b (Nat.ne_of_lt (Nat.lt_of_lt_of_le (Heap.lt_size e) (I.ok.cab x c hfn hc)))).trans e1⟩
  .obtain⟨o',e1⟩:=I.base.there b o e hx;exact⟨o',(hs.2 b (Nat.ne_of_lt (Nat.lt_of_lt_of_le (Heap.lt_size e) (I.ok.cab x c hfn hc)))).trans e1⟩
  .by_cases hj:j=i
   .subst hj;rw[hi]at e1;cases e1;rw[getElem?_set_self hiσ]at e2;cases e2;exact⟨u,r,.inr ⟨.inl hk,c,hc,hc'⟩⟩
   .rw[getElem?_set_ne (Ne.symm hj)]at e2;obtain⟨u',r',q⟩:=hl j y v' e1 e2 e3;refine⟨u',r',?_⟩;rcases q with q|⟨k,c',e,z'⟩
    .exact .inl q
    .refine .inr ⟨k,c',e,z'.sameBut hs ?_⟩;rintro rfl;exact hj (MP hN e1 (I.ok.inj _ _ _ e hc▸hi))
  .by_cases hcc:c'=c
   .subst hcc;exact⟨_,hc'⟩
   .obtain⟨w2,z2⟩:=I.cell y c' e;exact⟨w2,z2.sameBut hs hcc⟩
  .obtain⟨e,n,ne,nf,d⟩:=I.pin p hp;refine⟨(hs.2 p.1 ?_).trans e,n,ne,nf,d⟩;intro q;rw[q,hoc]at e;have q':oc=p.2:=Option.some.inj e;exact d w' (by rw[<-q'];exact hocd)
def MQ{M:Model}{A:Around}{E:VP}{i:Nat}{x:Str}{v:V}{u:Value}{Q:Unit->Shared->Prop}(I:Inv X pins σ H s)(hN:X.N.Nodup)(hi:X.N[i]? =some x)(hx:Loc X.env.scope x)(r:RelV v u)
  (h: ∀s',Inv X pins (σ.set i (some v)) H s'->Q () s') (hf:X.fn x=true\/X.env.scope.names.lookup x=some .local:=by first |exact .inl rfl|exact .inr rfl|assumption):wpAny M A (storeName X.env x u) Q E s:=
 HL I hN hi hx r (λs' I' _=>h s' I') hf
def Inv.call'{s':Shared}{ch:Vb}(I:Inv X pins σ H s)(ho:s'.os=s.os)(u:Un (SK X.stack) ch H H' s.heap s'.heap)(hok:HOk X.prog X.w H' s'.heap)(hg:AllBare s'.gens)
  (hch: ∀b∈ch,(b∈X.ex\/X.s₀.heap.objs.size<=b)/\b≠X.env.locals/\(∀x c,X.env.cells.lookup x=some c->c≠b)/\ ∀p∈X.pn++pins,p.1≠b):Inv X pins σ H' s':=by
 obtain⟨h',g',d',t',o'⟩:=s';have e:o'=s.os:=ho;subst e;exact I.call (g':=g') (t':=t') (d':=d') u hok hg hch
end
abbrev XK:=Value->Option Addr->Hp->Prop
abbrev St:=List (Option V)
abbrev VK:=V->Hp->Prop
abbrev TE:=St->Hp->VK->Prop
abbrev TT:=St->Hp->(Bool->Hp->Prop)->Prop
abbrev TA:=St->Hp->(List V->Hp->Prop)->Prop
structure Ends where
 nx:St->Hp->Prop
 rt:VK
 bk:St->Hp->Prop:=λ_ _=>False
 ct:St->Hp->Prop:=λ_ _=>False
abbrev TS:=Ends->St->Hp->Prop
def EP(X:Cx)(pins:Vg)(σ:St)(Q:VK)(u:Value)(s':Shared):Prop:= ∃v H',Inv X pins σ H' s'/\RelV v u/\Q v H'
def TP(X:Cx)(pins:Vg)(σ:St)(Q:Bool->Hp->Prop)(b:Bool)(s':Shared):Prop:= ∃H',Inv X pins σ H' s'/\Q b H'
def AP(X:Cx)(pins:Vg)(σ:St)(Q:List V->Hp->Prop)(us:Uk)(s':Shared):Prop:= ∃vs H',Inv X pins σ H' s'/\Vals vs us/\Q vs H'
def SP(X:Cx)(pins:Vg)(D:Ends)(f:Flow)(s':Shared):Prop:=
 match f with
 |.next=> ∃σ' H',Inv X pins σ' H' s'/\D.nx σ' H'
 |.brk=> ∃σ' H',Inv X pins σ' H' s'/\D.bk σ' H'
 |.cont=> ∃σ' H',Inv X pins σ' H' s'/\D.ct σ' H'
 |.ret u=> ∃v σ' H',Inv X pins σ' H' s'/\RelV v u/\D.rt v H'
def PE(X:Cx)(e:Expr)(t:TE):Prop:=
 ∀(pins:Vg)(s:Shared)(σ:St)(H:Hp)(Q:VK),Inv X pins σ H s->t σ H Q->wpAny (model X.prog X.w) X.A (eval e X.env) (EP X pins σ Q) X.xe s
def PT(X:Cx)(e:Expr)(t:TT):Prop:=
 ∀(pins:Vg)(s:Shared)(σ:St)(H:Hp)(Q:Bool->Hp->Prop),Inv X pins σ H s->t σ H Q->wpAny (model X.prog X.w) X.A (isTrue e X.env (eval e X.env)) (TP X pins σ Q) X.xe s
def PW(X:Cx)(e:Expr)(t:TT):Prop:=
 ∀(whole:Sem Value)(pins:Vg)(s:Shared)(σ:St)(H:Hp)(Q:Bool->Hp->Prop),Inv X pins σ H s->t σ H Q->wpAny (model X.prog X.w) X.A (isTrue e X.env whole) (TP X pins σ Q) X.xe s
def PW.pt{X:Cx}{e:Expr}{t:TT}(h:PW X e t):PT X e t:=h _
def PA(X:Cx)(es:Vj)(t:TA):Prop:=
 ∀(pos:Pos)(pins:Vg)(s:Shared)(σ:St)(H:Hp)(Q:List V->Hp->Prop),Inv X pins σ H s->t σ H Q->wpAny (model X.prog X.w) X.A (spliced (backTo pos (starEach es X.env))) (AP X pins σ Q) X.xe s
def PS(X:Cx)(st:Stmt)(t:TS):Prop:=
 ∀(pins:Vg)(s:Shared)(σ:St)(H:Hp)(D:Ends),Inv X pins σ H s->t D σ H->wpAny (model X.prog X.w) X.A (exec st X.env) (SP X pins D) X.xe s
def PSs(X:Cx)(st:List Stmt)(t:TS):Prop:=
 ∀(pins:Vg)(s:Shared)(σ:St)(H:Hp)(D:Ends),Inv X pins σ H s->t D σ H->wpAny (model X.prog X.w) X.A (execs st X.env) (SP X pins D) X.xe s
def jM{α:Type}{t:Sem α}{Q Q':α->Shared->Prop}{M:Model}{A:Around}{E:VP}{s:Shared}(h:wpAny M A t Q E s)(hQ: ∀a s,Q a s->Q' a s):wpAny M A t Q' E s:=wpAny_mono h hQ λ_ _ x=>x
section
variable{X:Cx}
def Qc(i:Nat):TE:=λσ H Q=> ∃v,σ[i]? =some (some v)/\Q v H
def tC(v:V):TE:=λ_ H Q=>Q v H
def Kv{i:Nat}{x:Str}{pos:Pos}(hN:X.N[i]? =some x)(hv:Qb X.env.scope x)(hd:(x==("__debug__":Str))=false:=by decide)(hcd:(x==("__classdict__":Str))=false:=by decide):PE X (.Name x pos) (Qc i):=by
 intro pins s σ H Q I h;obtain⟨v,e,h⟩:=h;obtain⟨m,hn,hl⟩:=I.loc;obtain⟨u,r,l⟩:=hl i x v hN e hv;have fin:EP X pins σ Q u s:=⟨v,H,I,r,h⟩
 rcases l with⟨hk,hm⟩|⟨hk,c,hc,hcell⟩
 .exact wpAny_Name (wpAny_loadName_local I.ok.kind hk hn hm fin) hd
 .rcases hk with hk|hk
  .exact wpAny_Name (wpAny_loadName_cell I.ok.kind hk hc hcell fin) hd
  .exact wpAny_Name (wpAny_loadName_free I.ok.kind hk hc hcell fin hcd) hd
def PQ{i j pos}:PE X (.Constant (.int i) j pos) (tC (.int i)):=λ_ _ _ H _ I h=>wpAny_Constant_int ⟨.int i,H,I.tok _,⟨_,rfl⟩,h⟩
def Qd{b j pos}:PE X (.Constant (.bool b) j pos) (tC (.bl b)):=λ_ _ _ H _ I h=>Constant_bool ⟨.bl b,H,I,rfl,h⟩
def Kw{j pos}:PE X (.Constant .none j pos) (tC .non):=λ_ _ _ H _ I h=>Constant_none ⟨.non,H,I,rfl,h⟩
def Kx{x j pos}:PE X (.Constant (.str x) j pos) (tC (.str x)):=λ_ _ _ H _ I h=>Calls.Constant_str ⟨.str x,H,I.tok _,⟨_,rfl⟩,h⟩
def Gl(X:Cx)(x:Str):Prop:=X.env.kindOf x=some .globalImplicit
def SL{E:VP}{pins:Vg}{s:Shared}{σ:St}{H:Hp}{x:Str}{u:Value}{pos:Pos}{Q:VP}(I:Inv X pins σ H s)(hg:Gl X x)(hm:X.mg x=some u)(h:Q u s)
  (hd:(x==("__debug__":Str))=false:=by decide):wpAny (model X.prog X.w) X.A (eval (.Name x pos) X.env) Q E s:=
 Calls.Name_function_global I.ok.kind hg (Calls.loadGlobal_global (by rw[I.ok.glob];exact I.mod.glob.keeps I.bk) hm h) hd
def AD{E:VP}{pins:Vg}{s:Shared}{σ:St}{H:Hp}{x:Str}{u:Value}{pos:Pos}{Q:VP}(I:Inv X pins σ H s)(hg:Gl X x)(hm:X.mg x=none)(hv:bootBuiltins x=some u)(h:Q u s)
  (hn:x≠"__name__":=by decide) (hd:(x==("__debug__":Str))=false:=by decide):wpAny (model X.prog X.w) X.A (eval (.Name x pos) X.env) Q E s:=by
 obtain⟨mb,h1,h2⟩:=I.mod.blt;exact Calls.Name_function_global I.ok.kind hg (Calls.loadGlobal_builtin (by rw[I.ok.glob];exact I.mod.glob.keeps I.bk) hm (by rw[I.ok.blt];exact h1.keeps I.bk) ((h2 x hn).trans hv) h) hd
def Ec{x:Str}{v:V}{u:Value}{pos:Pos}(hg:Gl X x)(hm:X.mg x=none)(hv:bootBuiltins x=some u)(r:RelV v u)(hn:x≠"__name__":=by decide)(hd:(x==("__debug__":Str))=false:=by decide):PE X (.Name x pos) (tC v):=
 λ_ _ _ H _ I h=>AD I hg hm hv ⟨v,H,I,r,h⟩ hn hd
variable{a b:Expr}{ta tb:TE}{pos:Pos}
variable{tA tB':TT}{rest:Vj}
def tAnd(t u:TT):TT:=λσ H Q=>t σ H λc H1=>if c=true then u σ H1 Q else Q false H1
def tOr(t u:TT):TT:=λσ H Q=>t σ H λc H1=>if c=true then Q true H1 else u σ H1 Q
def tNot(t:TT):TT:=λσ H Q=>t σ H λc H1=>Q (!c) H1
def Ed(ha:PT X a tA):PW X (.BoolOp .And [a] pos) tA:=by
 intro wh pins s σ H Q I h;refine isTrue_and (jM (ha pins s σ H Q I h) λc s1 e=>?_)
 cases c with
 |true=>exact isTrue_and_nil e
 |false=>exact e
def Ky(ha:PT X a tA):PW X (.BoolOp .Or [a] pos) tA:=by
 intro wh pins s σ H Q I h;refine isTrue_or (jM (ha pins s σ H Q I h) λc s1 e=>?_)
 cases c with
 |false=>exact isTrue_or_nil e
 |true=>exact e
def Kz(ha:PT X a tA)(hb:PW X (.BoolOp .And (b::rest) pos) tB'):PW X (.BoolOp .And (a::b::rest) pos) (tAnd tA tB'):=by
 intro wh pins s σ H Q I h;refine isTrue_and (jM (ha pins s σ H _ I h) λc s1 ⟨H1,I1,q1⟩=>?_)
 cases c with
 |true=>exact hb wh pins s1 σ H1 Q I1 q1
 |false=>exact⟨H1,I1,q1⟩
def Qe(ha:PT X a tA)(hb:PW X (.BoolOp .Or (b::rest) pos) tB'):PW X (.BoolOp .Or (a::b::rest) pos) (tOr tA tB'):=by
 intro wh pins s σ H Q I h;refine isTrue_or (jM (ha pins s σ H _ I h) λc s1 ⟨H1,I1,q1⟩=>?_)
 cases c with
 |true=>exact⟨H1,I1,q1⟩
 |false=>exact hb wh pins s1 σ H1 Q I1 q1
def La(ha:PT X a tA):PT X (.UnaryOp .Not a pos) (tNot tA):=by intro pins s σ H Q I h;exact isTrue_not (ha pins s σ H (λc H1=>Q (!c) H1) I h)
def Qf(ta tb:TE):TE:=λσ H Q=>ta σ H λx H1=> ∃c,x=.bl c/\if c=true then tb σ H1 Q else Q (.bl false) H1
def Qg(ta:TE):TE:=λσ H Q=>ta σ H λx H1=> ∃c,x=.bl c/\Q (.bl (!c)) H1
def Lb{op}{t:TE}(h:PE X a t):PE X (.BoolOp op [a] pos) t:=λpins s σ H Q I hw=>BoolOp_one (h pins s σ H Q I hw)
def Lc(ha:PE X a ta)(hb:PE X (.BoolOp .And (b::rest) pos) tb):PE X (.BoolOp .And (a::b::rest) pos) (Qf ta tb):=by
 intro pins s σ H Q I h;refine BoolOp_and (jM (ha pins s σ H _ I h) λv s1 ⟨x,H1,I1,r1,q1⟩=>?_);obtain⟨c,rfl,q1⟩:=q1;cases r1;refine wpAny_truthy_bool ?_
 cases c with
 |true=>exact hb pins s1 σ H1 Q I1 q1
 |false=>exact⟨.bl false,H1,I1,rfl,q1⟩
def Ld(ha:PE X a ta):PE X (.UnaryOp .Not a pos) (Qg ta):=by intro pins s σ H Q I h;refine UnaryOp_ (jM (ha pins s σ H _ I h) λv s1 ⟨x,H1,I1,r1,q1⟩=>?_);obtain⟨c,rfl,q1⟩:=q1;cases r1;exact not_of (wpAny_truthy_bool ⟨.bl (!c),H1,I1,rfl,q1⟩)
def tIf(t:TT)(ta tb:TE):TE:=λσ H Q=>t σ H λc H1=>if c=true then ta σ H1 Q else tb σ H1 Q
def XY{c:Expr}(hc:PT X c tA)(ha:PE X a ta)(hb:PE X b tb):PE X (.IfExp c a b pos) (tIf tA ta tb):=by
 intro pins s σ H Q I h;refine wpAny_IfExp (jM (hc pins s σ H _ I h) λd s1 ⟨H1,I1,q1⟩=>?_)
 cases d with
 |true=>exact ha pins s1 σ H1 Q I1 q1
 |false=>exact hb pins s1 σ H1 Q I1 q1
end
def SqL(K:Vk)(H:Hp)(a:Addr)(xs:List V):Prop:=
 Rd H a (.lst xs)\/
  ∃(o:Obj)(its:Va)(n:Nat),K.lookup a=some o/\o.cls=.type "list"/\o.dict=none/\o.data=.seq its n/\its.size<=sizeLine/\Vals xs its.toList
def SqT(K:Vk)(H:Hp)(a:Addr)(xs:List V):Prop:=
 Rd H a (.tup xs)\/
  ∃(o:Obj)(its:Va)(n:Nat),K.lookup a=some o/\o.cls=.type "tuple"/\o.data=.seq its n/\its.size<=sizeLine/\Vals xs its.toList
def absV:Value->Option V
 |.none=>some .non
 |.bool b=>some (.bl b)
 |.int i _=>some (.int i)
 |.str x _=>some (.str x)
 |.bytes b _=>some (.byt b)
 |.float b _=>some (.flt b)
 |.ref a=>some (.ref a)
 |.type n=>some (.ty n)
 |_=>none
theorem RelV.abs{x:V}{u:Value}(r:RelV x u):absV u=some x:=by
 cases x with
 |non=>cases r;rfl
 |bl _=>cases r;rfl
 |int _=>obtain⟨t,rfl⟩:=r;rfl
 |str _=>obtain⟨t,rfl⟩:=r;rfl
 |byt _=>obtain⟨t,rfl⟩:=r;rfl
 |flt _=>obtain⟨t,rfl⟩:=r;rfl
 |ref _=>cases r;rfl
 |ty _=>cases r;rfl
def RelV.inj{x y:V}{u:Value}(r:RelV x u)(q:RelV y u):x=y:=Option.some.inj (r.abs.symm.trans q.abs)
theorem Vals.inj: ∀{xs ys:List V}{us:Uk},Vals xs us->Vals ys us->xs=ys
 |_,_,_,.nil,.nil=>rfl
 |_,_,_,.cons r t,.cons r' t'=>by rw[r.inj r',Vals.inj t t']
section
variable{X:Cx}{pins:Vg}{σ:St}{H:Hp}{s:Shared}{a:Addr}{xs ys:List V}
def SqL.of{K:Vk}(h:H a=some (.lst xs)):SqL K H a xs:=.inl (.inl h)
def SqT.of{K:Vk}(h:H a=some (.tup xs)):SqT K H a xs:=.inl (.inl h)
def Inv.list(I:Inv X pins σ H s)(h:SqL X.K H a xs): ∃its:List Value,Vals xs its/\PlainL s.heap a its.toArray/\xs.length<=sizeLine:=by
 rcases h with h|⟨o,its,n,hk,hc,hd,hs,hz,r⟩
 .obtain⟨z,its,n,r,e⟩:=h.ok I.hok;exact⟨its,r,⟨_,n,e,rfl,rfl,rfl⟩,z⟩
 .refine⟨its.toList,r,⟨o,n,I.kIn a o hk,hc,hd,by simpa using hs⟩,?_⟩;have e:=r.length;simp only[Array.length_toList]at e;omega
def Inv.tuple(I:Inv X pins σ H s)(h:SqT X.K H a xs): ∃its:List Value,Vals xs its/\IsTup s.heap a its.toArray/\xs.length<=sizeLine:=by
 rcases h with h|⟨o,its,n,hk,hc,hs,hz,r⟩
 .obtain⟨z,its,r,p⟩:=h.ok I.hok;exact⟨its,r,p,z⟩
 .refine⟨its.toList,r,⟨o,I.kIn a o hk,hc,n,by simpa using hs⟩,?_⟩;have e:=r.length;simp only[Array.length_toList]at e;omega
def Inv.list_inj(I:Inv X pins σ H s)(h:SqL X.K H a xs)(h':SqL X.K H a ys):xs=ys:=by
 obtain⟨its,r,⟨o,n,e,_,_,d⟩,_⟩:=I.list h;obtain⟨its',r',⟨o',n',e',_,_,d'⟩,_⟩:=I.list h';rw[e]at e';cases e';rw[d]at d';injection d' with d1 _
 have:its=its':=by simpa using congrArg Array.toList d1
 subst this;exact r.inj r'
def Inv.tuple_inj(I:Inv X pins σ H s)(h:SqT X.K H a xs)(h':SqT X.K H a ys):xs=ys:=by
 obtain⟨its,r,⟨o,e,_,n,d⟩,_⟩:=I.tuple h;obtain⟨its',r',⟨o',e',_,n',d'⟩,_⟩:=I.tuple h';rw[e]at e';cases e';rw[d]at d';injection d' with d1 _
 have:its=its':=by simpa using congrArg Array.toList d1
 subst this;exact r.inj r'
end
abbrev Cx.wish(X:Cx)(E:VP):Cx:={X with xe:=E}
abbrev Cx.nox(X:Cx):Cx:=X.wish λ_ _=>False
def Cx.Ok.wish{X:Cx}(ok:X.Ok)(E:VP):(X.wish E).Ok:=
 ⟨ok.mod,ok.kind,ok.glob,ok.blt,ok.above,ok.inj,ok.has,ok.cab,ok.hd,ok.frames,ok.stk,ok.exf,ok.bs,ok.bsz,ok.noex,ok.exfs,ok.funs,ok.frf⟩
def Cx.Ok.unwish{X:Cx}{E:VP}(ok:(X.wish E).Ok):X.Ok:=
 ⟨ok.mod,ok.kind,ok.glob,ok.blt,ok.above,ok.inj,ok.has,ok.cab,ok.hd,ok.frames,ok.stk,ok.exf,ok.bs,ok.bsz,ok.noex,ok.exfs,ok.funs,ok.frf⟩
section
variable{X:Cx}{pins:Vg}{σ:St}{H:Hp}{s:Shared}{E:VP}
def Inv.wish(I:Inv X pins σ H s)(E:VP):Inv (X.wish E) pins σ H s:=⟨I.ok.wish E,I.os,I.bare,I.base,I.loc,I.cell,I.free,I.freeC,I.pin,I.hok,I.len⟩
def Inv.unwish(I:Inv (X.wish E) pins σ H s):Inv X pins σ H s:=⟨I.ok.unwish,I.os,I.bare,I.base,I.loc,I.cell,I.free,I.freeC,I.pin,I.hok,I.len⟩
def SP.unwish{D:Ends}{f:Flow}{s':Shared}(h:SP (X.wish E) pins D f s'):SP X pins D f s':=by
 cases f with
 |next=>obtain⟨σ',H',I,q⟩:=h;exact⟨σ',H',I.unwish,q⟩
 |brk=>obtain⟨σ',H',I,q⟩:=h;exact⟨σ',H',I.unwish,q⟩
 |cont=>obtain⟨σ',H',I,q⟩:=h;exact⟨σ',H',I.unwish,q⟩
 |ret u=>obtain⟨v,σ',H',I,r,q⟩:=h;exact⟨v,σ',H',I.unwish,r,q⟩
def PSs.nox{st:List Stmt}{t:TS}(h:PSs X.nox st t):PSs X st t:=λpins s σ H D I hw=>
 wpAny_mono (h pins s σ H D (I.wish _) hw) (λ_ _ q=>q.unwish) λ_ _ z=>False.elim z
end
section
variable{X:Cx}{st:Stmt}{rest:List Stmt}{t u:TS}{e:Expr}{te:TE}{pos:Pos}
def Qh:TS:=λD σ H=>D.nx σ H
def tSeq(t u:TS):TS:=λD σ H=>t {D with nx:=u D} σ H
def Ee:PSs X [] Qh:=λ_ _ σ H _ I h=>wpAny_execs_nil ⟨σ,H,I,h⟩
def XZ(h1:PS X st t)(h2:PSs X rest u):PSs X (st::rest) (tSeq t u):=by
 intro pins s σ H D I h;refine wpAny_execs_cons (jM (h1 pins s σ H {D with nx:=u D} I h) λf s1 q=>?_)
 cases f with
 |next=>
  obtain⟨σ',H',I',q⟩:=q;exact h2 pins s1 σ' H' D I' q
 |ret v=>exact q
 |brk=>exact q
 |cont=>exact q
def Ef(h1:PS X st t):PSs X [st] t:=by
 intro pins s σ H D I h;refine wpAny_execs_cons (jM (h1 pins s σ H D I h) λf s1 q=>?_)
 cases f with
 |next=>exact wpAny_execs_nil q
 |ret v=>exact q
 |brk=>exact q
 |cont=>exact q
def Inv.quiet{pins:Vg}{σ:St}{H:Hp}{s:Shared}(I:Inv X pins σ H s):interactive X.env=false:=by simp[interactive,I.ok.kind]
def Qi(te:TE):TS:=λD σ H=>te σ H λ_ H1=>D.nx σ H1
def Eg(he:PE X e te)(hs:swapsWith e none pos.line X.env=pure false:=by rfl):PS X (.Expr e pos) (Qi te):=by intro pins s σ H D I h;exact wpAny_Expr_any (jM (he pins s σ H _ I h) λv s1 ⟨x,H1,I1,r1,q1⟩=>⟨σ,H1,I1,q1⟩) I.quiet hs
def tRet(te:TE):TS:=λD σ H=>te σ H D.rt
def Le(he:PE X e te):PS X (.Return (some e) pos) (tRet te):=by intro pins s σ H D I h;exact wpAny_Return_some (jM (he pins s σ H _ I h) λv s1 ⟨x,H1,I1,r1,q1⟩=>⟨x,σ,H1,I1,r1,q1⟩)
def tIfS(c:TT)(t u:TS):TS:=λD σ H=>c σ H λb H1=>if b=true then t D σ H1 else u D σ H1
def Qj{c:Expr}{a b:List Stmt}{tc:TT}(hc:PT X c tc)(ha:PSs X a t)(hb:PSs X b u):PS X (.If c a b pos) (tIfS tc t u):=by
 intro pins s σ H D I h;refine wpAny_If (jM (hc pins s σ H _ I h) λd s1 ⟨H1,I1,q1⟩=>?_)
 cases d with
 |true=>exact ha pins s1 σ H1 D I1 q1
 |false=>exact hb pins s1 σ H1 D I1 q1
end
abbrev TG:=V->St->Hp->(St->Hp->Prop)->Prop
abbrev Lf:=List V->St->Hp->(St->Hp->Prop)->Prop
def PG(X:Cx)(target:Expr)(t:TG):Prop:=
 ∀(pins:Vg)(s:Shared)(σ:St)(H:Hp)(v:V)(u:Value)(Q:St->Hp->Prop),Inv X pins σ H s->RelV v u->t v σ H Q->
  wpAny (model X.prog X.w) X.A (assign target X.env u) (λ_ s'=> ∃σ' H',Inv X pins σ' H' s'/\Q σ' H') X.xe s
def Qk(X:Cx)(ts:Vj)(t:Lf):Prop:=
 ∀(pins:Vg)(s:Shared)(σ:St)(H:Hp)(vs:List V)(us:Uk)(Q:St->Hp->Prop),Inv X pins σ H s->Vals vs us->t vs σ H Q->
  wpAny (model X.prog X.w) X.A (assignInOrder ((assignEach ts X.env).map (·.2)) us) (λ_ s'=> ∃σ' H',Inv X pins σ' H' s'/\Q σ' H') X.xe s
abbrev TSet:=V->V->V->Hp->(Hp->Prop)->Prop
def Eh(X:Cx)(t:TSet):Prop:=
 ∀(pins:Vg)(s:Shared)(σ:St)(H:Hp)(o i v:V)(ov iv u:Value)(Q:Hp->Prop),Inv X pins σ H s->RelV o ov->RelV i iv->RelV v u->t o i v H Q->
  wpAny (model X.prog X.w) X.A (setItem ov iv u) (λ_ s'=> ∃H',Inv X pins σ H' s'/\Q H') X.xe s
section
variable{X:Cx}{pos:Pos}
def YA(i:Nat):TG:=λv σ H Q=>Q (σ.set i (some v)) H
def SM{i:Nat}{x:Str}(hN:X.N.Nodup)(hi:X.N[i]? =some x)(hx:Loc X.env.scope x)(hf:X.fn x=true\/X.env.scope.names.lookup x=some .local:=by first |exact .inl rfl|exact .inr rfl|assumption):PG X (.Name x pos) (YA i):=by intro pins s σ H v u Q I r h;exact wpAny_assign_Name (MQ I hN hi hx r (λs' I'=>⟨_,H,I',h⟩) hf)
def gNil:Lf:=λvs σ H Q=>vs=[]/\Q σ H
def Ql(t:TG)(u:Lf):Lf:=λvs σ H Q=> ∃v r,vs=v::r/\t v σ H λσ' H'=>u r σ' H' Q
def Ei:Qk X [] gNil:=by intro pins s σ H vs us Q I r h;obtain⟨e,h⟩:=h;subst e;cases r;exact assignInOrder_nil ⟨σ,H,I,h⟩
def YB{e:Expr}{es:Vj}{t:TG}{u:Lf}(h1:PG X e t)(h2:Qk X es u)
  (hs:(assignEach (e::es) X.env).map (·.2)=assign e X.env::(assignEach es X.env).map (·.2):=by rfl):Qk X (e::es) (Ql t u):=by
 intro pins s σ H vs us Q I r h;obtain⟨v,vr,e1,h⟩:=h;subst e1
 cases r with
 |cons r rr=>
  rw[hs];refine assignInOrder_cons (jM (h1 pins s σ H _ _ _ I r h) λ_ s1 ⟨σ1,H1,I1,q1⟩=>?_);exact h2 pins s1 σ1 H1 _ _ Q I1 rr q1
def gTup(K:Vk)(n:Nat)(t:Lf):TG:=λv σ H Q=> ∃a xs,v=.ref a/\SqT K H a xs/\xs.length=n/\t xs σ H Q
def Lg{es:Vj}{k:Nat}{t:Lf}{n:Nat}(hc:X.calm=true)(h:Qk X es t)
  (hn:(assignEach es X.env).length=n:=by rfl) (hst:(assignEach es X.env).findIdx? (·.1)=none:=by rfl):PG X (.Tuple es k pos) (gTup X.K n t):=by
 intro pins s σ H v u Q I r hw;obtain⟨a,xs,e1,hq,hl,hw⟩:=hw;subst e1;cases r;obtain⟨its,rv,ht,hz⟩:=I.tuple hq;refine assign_Tuple_tuple (I.ok.hd hc) ht (by simp[hn, <-hl,rv.length]) hst λh' hx=>?_;have I1:Inv X pins σ H {s with heap:=h'}:=I.kept (t':=s.toks) λb o e=>hx b o (Nat.ne_of_lt (Heap.lt_size e)) e;exact h pins _ σ H xs _ Q I1 (by simpa using rv) hw
def gSub(to ti:TE)(t:TSet):TG:=λv σ H Q=>to σ H λo H1=>ti σ H1 λi H2=>t o i v H2 λH3=>Q σ H3
def PR{o i:Expr}{to ti:TE}{t:TSet}(ho:PE X o to)(hi:PE X i ti)(hs:Eh X t)
  (ha: ∀v,assign (.Subscript o i pos) X.env v=(do
   let ov <-holding [v] (eval o X.env);let iv <-holding [v,ov] (eval i X.env)
   standAt pos
   holding [v,ov,iv] (setItem ov iv v)
   release [v,ov,iv] []):=by intro _;rfl):PG X (.Subscript o i pos) (gSub to ti t):=by
 intro pins s σ H v u Q I r h;rw[ha];refine wB (wpAny_holding (jM (ho pins s σ H _ I h) λov s1 ⟨x,H1,I1,r1,q1⟩=>?_));refine wB (wpAny_holding (jM (hi pins s1 σ H1 _ I1 q1) λiv s2 ⟨y,H2,I2,r2,q2⟩=>?_));refine wB (wpAny_standAt (wB (wpAny_holding (jM (hs pins s2 σ H2 x y v ov iv u _ I2 r1 r2 r q2) λ_ s3 ⟨H3,I3,q3⟩=>?_))));exact wpAny_release ⟨σ,H3,I3,q3⟩
def Lh(te:TE)(g:TG):TS:=λD σ H=>te σ H λx H1=>g x σ H1 D.nx
def Li{tg e:Expr}{te:TE}{g:TG}(he:PE X e te)(hg:PG X tg g)(hs:swapsWithSole [tg] e pos.line X.env=pure false:=by rfl)(hw:swappedStores [tg] e X.env=pure none:=by rfl)
  (h1:(assignEach [tg] X.env).map (·.2)=[assign tg X.env]:=by rfl):PS X (.Assign [tg] e pos) (Lh te g):=by
 intro pins s σ H D I h;refine wpAny_Assign_stores (jM (he pins s σ H _ I h) λv s1 ⟨x,H1,I1,r1,q1⟩=>?_) hs hw;rw[h1];exact jM (hg pins s1 σ H1 x v _ I1 r1 q1) λ_ s2 q=>q
def Lj{i:Nat}{x:Str}{e:Expr}{te:TE}{pos':Pos}(hN:X.N.Nodup)(hi:X.N[i]? =some x)(hx:Loc X.env.scope x)(he:PE X e te)(hs:swapsWith e (some (.Name x pos')) pos.line X.env=pure false:=by rfl)(hf:X.fn x=true\/X.env.scope.names.lookup x=some .local:=by first |exact .inl rfl|exact .inr rfl|assumption):
  PS X (.Assign [.Name x pos'] e pos) (Lh te (YA i)):=by
 intro pins s σ H D I h;refine wpAny_Assign_Name (jM (he pins s σ H _ I h) λv s1 ⟨y,H1,I1,r1,q1⟩=>?_) hs;exact MQ I1 hN hi hx r1 (λs2 I2=>⟨_,H1,I2,q1⟩) hf
end
section
variable{X:Cx}{pos:Pos}
def Lk(c:TT)(tb:TS):TS:=λD σ H=> ∃W:Nat->St->Hp->Prop,(∃m,W m σ H)/\ ∀m σ H,W m σ H->
 c σ H λb H1=>if b=true then∃N:St->Hp->Prop,(∀σ' H',N σ' H'-> ∃m',m'<m/\W m' σ' H')/\tb {D with nx:=N,ct:=N,bk:=D.nx} σ H1 else D.nx σ H1
def YC{c:Expr}{body:List Stmt}{tc:TT}{tb:TS}(hp:PassesOwn (model X.prog X.w) X.A X.env X.xe)(hc:PT X c tc)(hb:PSs X body tb):PS X (.While c body [] pos) (Lk tc tb):=by
 intro pins s σ H D I h;obtain⟨W,⟨m0,w0⟩,turn⟩:=h;refine wpAny_While (codeAny_whileLoop (λn s'=> ∃σ' H',Inv X pins σ' H' s'/\W n σ' H') ?_ m0 ⟨σ,H,I,w0⟩);rintro n s1 ⟨σ1,H1,I1,w1⟩;refine wpAny_passesOwn hp (jM (hc pins s1 σ1 H1 _ I1 (turn n σ1 H1 w1)) λb s2 ⟨H2,I2,q2⟩=>?_)
 cases b with
 |true=>
  obtain⟨N,hN,q2⟩:=q2;rw[iP rfl];refine wpAny_passesOwn hp (jM (hb pins s2 σ1 H2 _ I2 q2) λf s3 q3=>?_)
  cases f with
  |next=>
   obtain⟨σ3,H3,I3,n3⟩:=q3;obtain⟨m',hm,w3⟩:=hN σ3 H3 n3;exact⟨m',hm,σ3,H3,I3,w3⟩
  |cont=>
   obtain⟨σ3,H3,I3,n3⟩:=q3;obtain⟨m',hm,w3⟩:=hN σ3 H3 n3;exact⟨m',hm,σ3,H3,I3,w3⟩
  |brk=>exact q3
  |ret v=>exact q3
 |false=>
  rw[iN xF0];exact wpAny_execs_nil ⟨σ1,H2,I2,q2⟩
end
structure It where
 go:Nat->Hp->Prop
 yld:Nat->Hp->V->Hp->Prop
 stop:Nat->Hp->Prop
def uU(X:Cx)(pins:Vg)(H:Hp)(b:Addr):Prop:=
 H b=none/\b≠X.env.locals/\b∉X.fs/\(b∈X.ex\/X.s₀.heap.objs.size<=b)/\(∀x c,X.env.cells.lookup x=some c->c≠b)/\ ∀p∈X.pn++pins,p.1≠b
def Inv.fpOk{X:Cx}{pins:Vg}{σ:St}{H H':Hp}{s:Shared}{b:Addr}(I:Inv X pins σ H s)(hb:s.heap.objs.size<=b)(hn:H' b=none):uU X pins H' b:=by
 refine⟨hn,Nat.ne_of_gt (Nat.lt_of_lt_of_le I.lt hb),I.nofs hb,.inr (Nat.le_trans I.sz hb),λx c e z=>?_,λp hp z=>?_⟩
 .obtain⟨v,q⟩:=I.cell x c e;exact absurd (Nat.lt_of_lt_of_le q.lt (by rw[z];exact hb)) (lt_irrefl _)
 .exact absurd (Nat.lt_of_lt_of_le (Heap.lt_size (I.pin p hp).1) (by rw[z];exact hb)) (lt_irrefl _)
abbrev Ll(X:Cx):Prop:=X.calm=true
structure TurnC(C:Cx->Prop)(P:Program)(w:World)(K:Vk)(tg:Expr)(J:It)(fp:Vb)(it:Addr)(tn:Nat->Heap->Prop):Prop where
 mem:it∈fp
 obj: ∀i h,tn i h-> ∀b∈fp, ∃o,h.get? b=some o/\ ∀v,o.data≠.cell v
 keep: ∀i h h',tn i h->(∀b∈fp, ∀o,h.get? b=some o->h'.get? b=some o)->tn i h'
 item: ∀(X:Cx),X.prog=P->X.w=w->X.K=K->C X-> ∀(i:Nat)(pins:Vg)(s:Shared)(σ:St)(H:Hp)(E:VP),Inv X pins σ H s->(∀b∈fp,uU X pins H b)->tn i s.heap->J.go i H->
  wpAny (model P w) X.A (pyNext (.ref it)) (λr s1=> ∃u,r=some u/\
   wpAny (model P w) X.A (letOwnedTupleGo tg (.ref it) u) (λ_ s2=> ∃x H',Inv X pins σ H' s2/\RelV x u/\J.yld i H x H'/\tn (i+1) s2.heap/\ ∀b∈fp,H' b=none) E s1) E s
 done: ∀(X:Cx),X.prog=P->X.w=w->X.K=K->C X-> ∀(i:Nat)(pins:Vg)(s:Shared)(σ:St)(H:Hp)(E:VP),Inv X pins σ H s->(∀b∈fp,uU X pins H b)->tn i s.heap->J.stop i H->
  wpAny (model P w) X.A (pyNext (.ref it)) (λr s1=>r=none/\Inv X pins σ H s1) E s
 self: ∀(A:Around)(i:Nat)(s:Shared)(Q:VP)(E:VP),tn i s.heap->Q (.ref it) s->wpAny (model P w) A (pyIter (.ref it)) Q E s
abbrev Turn:=TurnC Ll
abbrev TI:=St->Hp->(It->Hp->Prop)->Prop
def Qm(C:Cx->Prop)(X:Cx)(pins:Vg)(σ:St)(tg:Expr)(R:It->Hp->Prop)(itv:Value)(s2:Shared):Prop:=
 ∃(it:Addr)(fp:Vb)(tn:Nat->Heap->Prop)(J:It)(H':Hp),itv=.ref it/\Inv X pins σ H' s2/\TurnC C X.prog X.w X.K tg J fp it tn/\tn 0 s2.heap/\(∀b∈fp,uU X pins H' b)/\R J H'
abbrev PIE:=Qm Ll
def Qn(C:Cx->Prop)(X:Cx)(tg iter:Expr)(wi:TI):Prop:=
 ∀(pins:Vg)(s:Shared)(σ:St)(H:Hp)(R:It->Hp->Prop),Inv X pins σ H s->wi σ H R->
  wpAny (model X.prog X.w) X.A (eval iter X.env) (λv s1=>wpAny (model X.prog X.w) X.A (pyIter v) (Qm C X pins σ tg R) X.xe s1) X.xe s
abbrev PI:=Qn Ll
def MR{M:Model}{A:Around}{E:VP}{s:Shared}{tg:Expr}{it:Addr}{u:Value}{o:Obj}{n:String}{vs:Va}{Q:Unit->Shared->Prop}(ho:s.heap.get? it=some o)(hc:o.cls=.type n)(hd:o.data=.fields vs)
  (hn:["enumerate","zip","dict_itemiterator","dict_reverseitemiterator","odict_iterator","itertools.zip_longest","itertools.pairwise"].contains n=false) (hQ:Q () s):wpAny M A (letOwnedTupleGo tg (.ref it) u) Q E s:=by
 unfold letOwnedTupleGo
 cases tg<;>first
  |exact wP hQ
  |(cases u<;>first
    |exact wP hQ
    |(refine wB (wpAny_load ho ?_)
      rw[hc,hd];show wpAny M A (if(["enumerate","zip","dict_itemiterator","dict_reverseitemiterator","odict_iterator","itertools.zip_longest","itertools.pairwise"].contains n&&vs[0]? ==some (rawInt _))=true then _ else _) Q E s;rw[iN (by intro h;rw[hn,Bool.false_and]at h;cases h)];exact wP hQ))
def Pv(K:Vk)(a:Addr):It:=
 ⟨λi H=> ∃xs x,SqL K H a xs/\xs[i]? =some x,λi H x H'=>H'=H/\ ∀xs,SqL K H a xs->xs[i]? =some x,λi H=> ∃xs,SqL K H a xs/\xs.length<=i⟩
def Tx(K:Vk)(a:Addr):It:=
 ⟨λi H=> ∃xs x,SqT K H a xs/\xs[i]? =some x,λi H x H'=>H'=H/\ ∀xs,SqT K H a xs->xs[i]? =some x,λi H=> ∃xs,SqT K H a xs/\xs.length<=i⟩
def Qo(lo:Int)(n:Nat):It:=⟨λi _=>i<n,λi H x H'=>H'=H/\x=.int (lo+i),λi _=>n<=i⟩
def VF{P:Program}{w:World}{K:Vk}{tg:Expr}(a it:Addr):Turn P w K tg (Pv K a) [it] it (λi h=>h.IsListIter it a i) where
 mem:=by simp
 obj:=λi h st b hb=>by
  have e:b=it:=by simpa using hb
  subst e;obtain⟨o,e,c,d⟩:=st;exact⟨o,e,λv z=>by rw[d]at z;cases z⟩
 keep:=λi h h' st k=>st.at λo e=>k it (by simp) o e
 item:=by intro X hP hw hK hc i pins s σ H E I hf st hg;subst hP hw hK;obtain⟨xs,x,hq,hx⟩:=hg;obtain⟨its,rv,p,hz⟩:=I.list hq;obtain⟨u,hu,ru⟩:=rv.get hx;obtain⟨f0,f1,f2,f3,f4,f5⟩:=hf it (by simp);refine wpAny_pyNext_list_item st p.isList (x:=u) (by simpa using hu) λh' st' sb=>?_;have I1:Inv X pins σ H {s with heap:=h'}:=I.turned (t':=s.toks) (λb o hb e=>(sb.2 b hb).trans e) f0 f1 f3 f4 f5;obtain⟨o,e,c,d⟩:=id st';exact⟨u,rfl,MR (s:={s with heap:=h'}) e c d (by decide) ⟨x,H,I1,ru,⟨rfl,λys hy=>by rw[I.list_inj hy hq];exact hx⟩,st',λb hb=>(hf b hb).1⟩⟩
 done:=by intro X hP hw hK hc i pins s σ H E I hf st hg;subst hP hw hK;obtain⟨xs,hq,hx⟩:=hg;obtain⟨its,rv,p,hz⟩:=I.list hq;obtain⟨f0,f1,f2,f3,f4,f5⟩:=hf it (by simp);have hl:=rv.length;exact wpAny_pyNext_list_end (I.ok.hd hc) st p.isList (by simp;omega) λh' eb=>⟨rfl,I.turned (t':=s.toks) (λb o hb e=>eb b o hb e) f0 f1 f3 f4 f5⟩
 self:=λ_ _ _ _ _ st h=>wpAny_pyIter_listiter st h
def PV{P:Program}{w:World}{K:Vk}{tg:Expr}(a it:Addr):Turn P w K tg (Tx K a) [it] it (λi h=>h.IsTupleIter it a i) where
 mem:=by simp
 obj:=λi h st b hb=>by
  have e:b=it:=by simpa using hb
  subst e;obtain⟨o,e,c,d⟩:=st;exact⟨o,e,λv z=>by rw[d]at z;cases z⟩
 keep:=λi h h' st k=>st.at λo e=>k it (by simp) o e
 item:=by intro X hP hw hK hc i pins s σ H E I hf st hg;subst hP hw hK;obtain⟨xs,x,hq,hx⟩:=hg;obtain⟨its,rv,p,hz⟩:=I.tuple hq;obtain⟨u,hu,ru⟩:=rv.get hx;obtain⟨f0,f1,f2,f3,f4,f5⟩:=hf it (by simp);refine wpAny_pyNext_tuple_item st (show s.heap.IsTuple a its.toArray from p) (x:=u) (by simpa using hu) λh' st' sb=>?_;have I1:Inv X pins σ H {s with heap:=h'}:=I.turned (t':=s.toks) (λb o hb e=>(sb.2 b hb).trans e) f0 f1 f3 f4 f5;obtain⟨o,e,c,d⟩:=id st';exact⟨u,rfl,MR (s:={s with heap:=h'}) e c d (by decide) ⟨x,H,I1,ru,⟨rfl,λys hy=>by rw[I.tuple_inj hy hq];exact hx⟩,st',λb hb=>(hf b hb).1⟩⟩
 done:=by intro X hP hw hK hc i pins s σ H E I hf st hg;subst hP hw hK;obtain⟨xs,hq,hx⟩:=hg;obtain⟨its,rv,p,hz⟩:=I.tuple hq;obtain⟨f0,f1,f2,f3,f4,f5⟩:=hf it (by simp);have hl:=rv.length;exact wpAny_pyNext_tuple_end (I.ok.hd hc) st (show s.heap.IsTuple a its.toArray from p) (by simp;omega) λh' eb=>⟨rfl,I.turned (t':=s.toks) (λb o hb e=>eb b o hb e) f0 f1 f3 f4 f5⟩
 self:=λ_ _ _ _ _ st h=>wpAny_pyIter_tupleiter st h
def PY{P:Program}{w:World}{K:Vk}{tg:Expr}(it:Addr)(lo:Int)(n:Nat):Turn P w K tg (Qo lo n) [it] it (λi h=>IsRangeIter h it (lo+(i:Nat) * 1) ((n:Int) - (i:Nat)) 1) where
 mem:=by simp
 obj:=λi h st b hb=>by
  have e:b=it:=by simpa using hb
  subst e;exact⟨_,st,λv z=>by have z':Data.fields _=Data.cell v:=z;cases z'⟩
 keep:=λi h h' st k=>k it (by simp) _ st
 item:=by intro X hP hw hK hc i pins s σ H E I hf st hg;subst hP hw hK;obtain⟨f0,f1,f2,f3,f4,f5⟩:=hf it (by simp);have W:=Walks.range (prog:=X.prog) (w:=X.w) (I.ok.hd hc) it lo 1 n;refine W.item i s _ _ hg st λv h' tk hv st' kk=>?_;obtain⟨t,rfl⟩:=hv;have I1:Inv X pins σ H {s with heap:=h',toks:=tk}:=I.turned (λb o hb e=>kk b o (by simpa using hb) e) f0 f1 f3 f4 f5;refine⟨_,rfl,MR (s:={s with heap:=h',toks:=tk}) (n:="range_iterator") st' rfl rfl (by decide) ⟨.int (lo+i),H,I1,⟨t,?_⟩,⟨rfl,rfl⟩,st',λb hb=>(hf b hb).1⟩⟩;rw[Int.mul_one]
 done:=by intro X hP hw hK hc i pins s σ H E I hf st hg;subst hP hw hK;obtain⟨f0,f1,f2,f3,f4,f5⟩:=hf it (by simp);exact wpAny_pyNext_range_end (I.ok.hd hc) st (by have:n<=i:=hg;omega) λh' eb=>⟨rfl,I.turned (t':=s.toks) (λb o hb e=>eb b o hb e) f0 f1 f3 f4 f5⟩
 self:=λ_ _ _ _ _ st h=>wpAny_pyIter_rangeiter st h
section
variable{X:Cx}{tg:Expr}
def Qp(K:Vk)(tl:TE):TI:=λσ H R=>tl σ H λx H1=> ∃a,x=.ref a/\(∃xs,SqL K H1 a xs)/\R (Pv K a) H1
def iTup(K:Vk)(tl:TE):TI:=λσ H R=>tl σ H λx H1=> ∃a,x=.ref a/\(∃xs,SqT K H1 a xs)/\R (Tx K a) H1
def Ej{l:Expr}{tl:TE}(hl:PE X l tl):PI X tg l (Qp X.K tl):=by
 intro pins s σ H R I h;refine jM (hl pins s σ H _ I h) λv s1 ⟨x,H1,I1,r1,q1⟩=>?_;obtain⟨a,e,⟨xs,hq⟩,q⟩:=q1;subst e;cases r1;obtain⟨its,rv,p,hz⟩:=I1.list hq;refine wpAny_pyIter_list p.isList ?_;refine⟨s1.heap.objs.size,[s1.heap.objs.size],_,_,H1,rfl,I1.kept (t':=s1.toks) λb o e=>hP0 _ e,VF a _,⟨_,Heap.get?_push_size _ rfl,rfl,rfl⟩,λb hb=>?_,q⟩;have e:b=s1.heap.objs.size:=by simpa using hb
 subst e;exact I1.fpOk (Nat.le_refl _) (I1.hok.fresh (Nat.le_refl _))
def Lm{l:Expr}{tl:TE}(hl:PE X l tl):PI X tg l (iTup X.K tl):=by
 intro pins s σ H R I h;refine jM (hl pins s σ H _ I h) λv s1 ⟨x,H1,I1,r1,q1⟩=>?_;obtain⟨a,e,⟨xs,hq⟩,q⟩:=q1;subst e;cases r1;obtain⟨its,rv,p,hz⟩:=I1.tuple hq;refine wpAny_pyIter_tuple (show s1.heap.IsTuple a its.toArray from p) ?_;refine⟨s1.heap.objs.size,[s1.heap.objs.size],_,_,H1,rfl,I1.kept (t':=s1.toks) λb o e=>hP0 _ e,PV a _,⟨_,Heap.get?_push_size _ rfl,rfl,rfl⟩,λb hb=>?_,q⟩;have e:b=s1.heap.objs.size:=by simpa using hb
 subst e;exact I1.fpOk (Nat.le_refl _) (I1.hok.fresh (Nat.le_refl _))
def YD{pins:Vg}{σ:St}{H:Hp}{s:Shared}{R:It->Hp->Prop}{E:VP}{lo hi:Int}{t u v:Tok}{tk:Nat}(I:Inv X pins σ H s)(h1: -(2 ^ 62)<=lo)(h2:lo<2 ^ 62)(h3: -(2 ^ 62)<=hi)(h4:hi<2 ^ 62)
  (q:R (Qo lo (hi - lo).toNat) H):wpAny (model X.prog X.w) X.A (pyIter (.ref s.heap.objs.size)) (PIE X pins σ tg R) E {s with heap:=s.heap.push {cls:=.type "range",data:=.fields #[.int lo t,.int hi u,.int 1 v]},toks:=tk}:=by
 refine wpAny_pyIter_range (IsRange.new ..) (small_one h1 h2 h3 h4) ?_;have I1:Inv X pins σ H {s with heap:=s.heap.push {cls:=.type "range",data:=.fields #[.int lo t,.int hi u,.int 1 v]},toks:=tk}:=I.kept λb o e=>hP0 _ e
 refine⟨(s.heap.push {cls:=.type "range",data:=.fields #[.int lo t,.int hi u,.int 1 v]}).objs.size,[(s.heap.push {cls:=.type "range",data:=.fields #[.int lo t,.int hi u,.int 1 v]}).objs.size],_,_,H,rfl,
  I1.kept (t':=tk) λb o e=>hP0 _ e,PY _ lo (hi - lo).toNat,?_,λb hb=>?_,q⟩
 .have e1:lo+((0:Nat):Int) * 1=lo:=by simp
  have e2:(((hi - lo).toNat:Nat):Int) - ((0:Nat):Int)=Builtin.Range.rangeSize lo hi 1:=by rw[rangeSize_one];split<;>omega
  show IsRangeIter _ _ (lo+((0:Nat):Int) * 1) ((((hi - lo).toNat:Nat):Int) - ((0:Nat):Int)) 1;rw[e1,e2];exact Heap.get?_push_size _ rfl
 .have e:b=(s.heap.push {cls:=.type "range",data:=.fields #[.int lo t,.int hi u,.int 1 v]}).objs.size:=by simpa using hb
  subst e;exact I1.fpOk (Nat.le_refl _) (I1.hok.fresh (Nat.le_refl _))
def Qq(ta:TA):TI:=λσ H R=>ta σ H λvs H1=> ∃j:Int,vs=[.int j]/\ -(2 ^ 62)<=j/\j<2 ^ 62/\R (Qo 0 j.toNat) H1
def VG{a:Expr}{ta:TA}{p pos:Pos}(hg:Gl X "range")(hm:X.mg "range"=none)(ha:PA X [a] ta)(hs:starEach [a] X.env=[(false,eval a X.env)]:=by rfl):PI X tg (.Call (.Name "range" p) [a] [] pos) (Qq ta):=by
 intro pins s σ H R I h;refine Call_ (AD I hg hm boot_range (PyProof.Rows.callWith_type1 (jM (ha pos pins s σ H _ I h) λus s1 ⟨vs,H1,I1,r1,q1⟩=>?_) hs rfl));obtain⟨j,e,q1,q2,q⟩:=q1;subst e
 cases r1 with
 |cons r rr=>
  cases rr;obtain⟨t,rfl⟩:=r;exact call_range_1 (YD I1 (by omega) (by omega) q1 q2 (by simpa using q))
def tFor(wi:TI)(g:TG)(tb:TS):TS:=λD σ H=>wi σ H λJ H1=> ∃W:Nat->Nat->St->Hp->Prop,(∃m,W 0 m σ H1)/\ ∀i m σ H,W i m σ H->
 (J.stop i H/\D.nx σ H)\/(J.go i H/\ ∃N:St->Hp->Prop,(∀σ' H',N σ' H'-> ∃m',m'<m/\W (i+1) m' σ' H')/\ ∀x H',J.yld i H x H'->g x σ H' λσ2 H2=>tb {D with nx:=N,ct:=N,bk:=D.nx} σ2 H2)
def AG(fp:Vb)(h:Heap):List (Addr×Obj):=fp.filterMap λb=>(h.get? b).map λo=>(b,o)
def tX{fp:Vb}{h:Heap}{b:Addr}{o:Obj}(hb:b∈fp)(e:h.get? b=some o):(b,o)∈AG fp h:=mem_filterMap.mpr ⟨b,hb,by rw[e];rfl⟩
def VH{fp:Vb}{h:Heap}{p:Addr×Obj}(hp:p∈AG fp h):p.1∈fp/\h.get? p.1=some p.2:=by
 obtain⟨b,hb,e⟩:=mem_filterMap.mp hp
 cases q:h.get? b with
 |none=>rw[q]at e;cases e
 |some o=>
  rw[q]at e;have e':(b,o)=p:=Option.some.inj e;subst e';exact⟨hb,q⟩
def Inv.pinned{pins:Vg}{σ:St}{H:Hp}{s:Shared}{fp:Vb}(I:Inv X pins σ H s)(hf: ∀b∈fp,uU X pins H b)(ho: ∀b∈fp, ∃o,s.heap.get? b=some o/\ ∀v,o.data≠.cell v):Inv X (pins++AG fp s.heap) σ H s:=
 I.pins_of λp hp=>(List.mem_append.mp hp).elim (λz=>I.pin p (List.mem_append_right _ z)) λz=>by obtain⟨hb,e⟩:=VH z;obtain⟨f0,f1,f2,_⟩:=hf p.1 hb;obtain⟨o,e',d⟩:=ho p.1 hb;rw[e]at e';cases e';exact⟨e,f0,f1,f2,d⟩
def Inv.unpinned{pins pl:Vg}{σ:St}{H:Hp}{s:Shared}(I:Inv X (pins++pl) σ H s):Inv X pins σ H s:=I.pins_of λp hp=>I.pin p (List.mem_append_right _ (mem_append_left _ hp))
def Ln{iter:Expr}{body:List Stmt}{wi:TI}{g:TG}{tb:TS}{pos:Pos}(hp:PassesOwn (model X.prog X.w) X.A X.env X.xe)(hc:X.calm=true)(hi:PI X tg iter wi)(hg:PG X tg g)(hb:PSs X body tb)
  (hs: ∀x,foldedSetIterable iter X.env x=pure x:=by intro _;rfl):PS X (.For tg iter body [] pos) (tFor wi g tb):=by
 intro pins s σ H D I h;refine wpAny_For (jM (hi pins s σ H _ I h) λv s1 h1=>jM h1 λitv s2 h2=>?_) hs;obtain⟨it,fp,tn,J,H2,e,I2,T,st2,f2,W,⟨m0,w0⟩,turn⟩:=h2;subst e;have stat: ∀{H':Hp},(∀b∈fp,H' b=none)-> ∀b∈fp,uU X pins H' b:=λhn b hb=>⟨hn b hb,(f2 b hb).2⟩
 refine codeAny_forLoop_any (λn s'=> ∃i σ' H',Inv X pins σ' H' s'/\tn i s'.heap/\(∀b∈fp,H' b=none)/\W i n σ' H') ?_ m0 ⟨0,σ,H2,I2,st2,λb hb=>(f2 b hb).1,w0⟩;rintro n s3 ⟨i,σ3,H3,I3,st3,fr3,w3⟩;rcases turn i n σ3 H3 w3 with⟨stop,qn⟩|⟨go,N,hN,step⟩
 .refine wpAny_passesOwn hp (jM (T.done X rfl rfl rfl hc i pins s3 σ3 H3 X.xe I3 (stat fr3) st3 stop) λr s4 ⟨hr,I4⟩=>?_);subst hr;exact wpAny_execs_nil ⟨σ3,H3,I4,qn⟩
 .refine wpAny_passesOwn hp (jM (T.item X rfl rfl rfl hc i pins s3 σ3 H3 X.xe I3 (stat fr3) st3 go) λr s4 ⟨u,hr,h4⟩=>?_);subst hr;refine wpAny_passesOwn hp (jM h4 λ_ s5 ⟨x,H5,I5,r5,y5,st5,fr5⟩=>?_);have I5':=I5.pinned (stat fr5) (T.obj _ _ st5);refine wpAny_passesOwn hp (jM (hg _ s5 σ3 H5 x u _ I5' r5 (step x H5 y5)) λ_ s6 ⟨σ6,H6,I6,q6⟩=>?_);refine wpAny_passesOwn hp (jM (hb _ s6 σ6 H6 _ I6 q6) λf s7 q7=>?_);have again: ∀{σ7:St}{H7:Hp},Inv X (pins++AG fp s5.heap) σ7 H7 s7->N σ7 H7-> ∃m,m<n/\ ∃i σ' H',Inv X pins σ' H' s7/\tn i s7.heap/\(∀b∈fp,H' b=none)/\W i m σ' H':=λ{σ7 H7} I7 n7=>by obtain⟨m',hm,w7⟩:=hN σ7 H7 n7;refine⟨m',hm,i+1,σ7,H7,I7.unpinned,T.keep _ _ _ st5 λb hb o e=>(I7.pin (b,o) (List.mem_append_right _ (List.mem_append_right _ (tX hb e)))).1,λb hb=>?_,w7⟩;obtain⟨o,e,d⟩:=T.obj _ _ st5 b hb;exact(I7.pin (b,o) (List.mem_append_right _ (List.mem_append_right _ (tX hb e)))).2.1
  cases f with
  |next=>obtain⟨σ7,H7,I7,n7⟩:=q7;exact again I7 n7
  |cont=>obtain⟨σ7,H7,I7,n7⟩:=q7;exact again I7 n7
  |brk=>obtain⟨σ7,H7,I7,q7⟩:=q7;exact⟨σ7,H7,I7.unpinned,q7⟩
  |ret v=>obtain⟨x7,σ7,H7,I7,r7,q7⟩:=q7;exact⟨x7,σ7,H7,I7.unpinned,r7,q7⟩
end
abbrev R2:=V->V->Hp->VK->Prop
def OpR(X:Cx)(f:Value->Value->Sem Value)(r:R2):Prop:=
 ∀(pins:Vg)(s:Shared)(σ:St)(H:Hp)(x y:V)(v u:Value)(Q:VK),Inv X pins σ H s->RelV x v->RelV y u->r x y H Q->
  wpAny (model X.prog X.w) X.A (f v u) (EP X pins σ Q) X.xe s
def UnR(X:Cx)(f:Value->Sem Value)(r:V->Hp->VK->Prop):Prop:=
 ∀(pins:Vg)(s:Shared)(σ:St)(H:Hp)(x:V)(v:Value)(Q:VK),Inv X pins σ H s->RelV x v->r x H Q->
  wpAny (model X.prog X.w) X.A (f v) (EP X pins σ Q) X.xe s
def CallR(X:Cx)(f:Value)(r:List V->Hp->VK->Prop):Prop:=
 ∀(pins:Vg)(s:Shared)(σ:St)(H:Hp)(xs:List V)(us:Uk)(Q:VK),Inv X pins σ H s->Vals xs us->r xs H Q->
  wpAny (model X.prog X.w) X.A (call f us) (EP X pins σ Q) X.xe s
def TruR(X:Cx)(r:V->Hp->(Bool->Hp->Prop)->Prop):Prop:=
 ∀(pins:Vg)(s:Shared)(σ:St)(H:Hp)(x:V)(v:Value)(Q:Bool->Hp->Prop),Inv X pins σ H s->RelV x v->r x H Q->
  wpAny (model X.prog X.w) X.A (truthy v) (TP X pins σ Q) X.xe s
def Tz(r:R2)(ta tb:TE):TE:=λσ H Q=>ta σ H λx H1=>tb σ H1 λy H2=>r x y H2 Q
def tUn(r:V->Hp->VK->Prop)(ta:TE):TE:=λσ H Q=>ta σ H λx H1=>r x H1 Q
def rI(C:Int->Int->Prop)(g:Int->Int->V):R2:=λx y H Q=> ∃i j,x=.int i/\y=.int j/\C i j/\Q (g i j) H
def Lo(g:Int->Int->V):R2:=λx y H Q=> ∃i j,x=.int i/\y=.int j/\Q (g i j) H
def rU(g:Int->V):V->Hp->VK->Prop:=λx H Q=> ∃i,x=.int i/\Q (g i) H
section
variable{X:Cx}{a b:Expr}{ta tb:TE}{pos:Pos}
def Lp(ha:PE X a ta)(hb:PE X b tb){pins:Vg}{s:Shared}{σ:St}{H:Hp}{R:V->V->Hp->Prop}(I:Inv X pins σ H s)
  (h:ta σ H λx H1=>tb σ H1 λy H2=>R x y H2) {Q:VP} {f:Value->Value->Sem Value}
  (hf: ∀v u s2 x y H2,Inv X pins σ H2 s2->RelV x v->RelV y u->R x y H2->wpAny (model X.prog X.w) X.A (f v u) Q X.xe s2):
  wpAny (model X.prog X.w) X.A (eval a X.env) (λv s₁=>wpAny (model X.prog X.w) X.A (eval b X.env) (λu s₂=>wpAny (model X.prog X.w) X.A (f v u) Q X.xe s₂) X.xe s₁) X.xe s:=by
 refine jM (ha pins s σ H _ I h) λv s1 ⟨x,H1,I1,r1,q1⟩=>?_;refine jM (hb pins s1 σ H1 _ I1 q1) λu s2 ⟨y,H2,I2,r2,q2⟩=>?_;exact hf v u s2 x y H2 I2 r1 r2 q2
def Qr{op:Operator}{r:R2}(ho:OpR X (binaryOp op) r)(ha:PE X a ta)(hb:PE X b tb):PE X (.BinOp a op b pos) (Tz r ta tb):=by intro pins s σ H Q I h;exact wpAny_BinOp (Lp ha hb I h λv u s2 x y H2 I2 rx ry q=>ho pins s2 σ H2 x y v u Q I2 rx ry q)
def Jp{op:UnaryOp}{r:V->Hp->VK->Prop}(ho:UnR X (unaryOp op) r)(ha:PE X a ta):PE X (.UnaryOp op a pos) (tUn r ta):=by intro pins s σ H Q I h;exact UnaryOp_ (jM (ha pins s σ H _ I h) λv s1 ⟨x,H1,I1,r1,q1⟩=>ho pins s1 σ H1 x v Q I1 r1 q1)
def Ua{f:Value->Value->Sem Value}{C:Int->Int->Prop}{g:Int->Int->Int}
  (rule: ∀(i j:Int)(t u:Tok)(s:Shared)(Q:VP)(E:VP),C i j->Q (.int (g i j) s.toks) {s with toks:=s.toks+1}->wpAny (model X.prog X.w) X.A (f (.int i t) (.int j u)) Q E s):
  OpR X f (rI C λi j=>.int (g i j)):=by
 intro pins s σ H x y v u Q I rx ry h;obtain⟨i,j,rfl,rfl,hc,q⟩:=h;obtain⟨t,rfl⟩:=rx;obtain⟨t',rfl⟩:=ry;exact rule i j t t' s _ _ hc ⟨.int (g i j),H,I.tok _,⟨_,rfl⟩,q⟩
def Qs{f:Value->Value->Sem Value}{g:Int->Int->Int}
  (rule: ∀(i j:Int)(t u:Tok)(s:Shared)(Q:VP)(E:VP),Q (.int (g i j) s.toks) {s with toks:=s.toks+1}->wpAny (model X.prog X.w) X.A (f (.int i t) (.int j u)) Q E s):
  OpR X f (Lo λi j=>.int (g i j)):=by
 intro pins s σ H x y v u Q I rx ry h;obtain⟨i,j,rfl,rfl,q⟩:=h;obtain⟨t,rfl⟩:=rx;obtain⟨t',rfl⟩:=ry;exact rule i j t t' s _ _ ⟨.int (g i j),H,I.tok _,⟨_,rfl⟩,q⟩
def opB0{f:Value->Value->Sem Value}{g:Int->Int->Bool}
  (rule: ∀(i j:Int)(t u:Tok)(s:Shared)(Q:VP)(E:VP),Q (.bool (g i j)) s->wpAny (model X.prog X.w) X.A (f (.int i t) (.int j u)) Q E s):
  OpR X f (Lo λi j=>.bl (g i j)):=by
 intro pins s σ H x y v u Q I rx ry h;obtain⟨i,j,rfl,rfl,q⟩:=h;obtain⟨t,rfl⟩:=rx;obtain⟨t',rfl⟩:=ry;exact rule i j t t' s _ _ ⟨.bl (g i j),H,I,rfl,q⟩
def CMul(i j:Int):Prop:=(-(2 ^ 64)<i/\i<2 ^ 64)\/(-(2 ^ 64)<j/\j<2 ^ 64)
def CMul.ok{i j:Int}(h:CMul i j):IntMulOk i j:=by
 rcases h with⟨h1,h2⟩|⟨h1,h2⟩
 .exact .of_left (intBits_le_64 h1 h2)
 .exact .of_right (intBits_le_64 h1 h2)
def Lq:OpR X (binaryOp .Add) (Lo λi j=>.int (i+j)):=Qs λ_ _ _ _ _ _ _ q=>add_int q
def Lr:OpR X (binaryOp .Sub) (Lo λi j=>.int (i - j)):=Qs λ_ _ _ _ _ _ _ q=>sub_int q
def Ls:OpR X (binaryOp .Mod) (rI (λ_ j=>0<j) λi j=>.int (i % j)):=Ua λi j _ _ _ _ _ hc q=>by have h1:(0:Int)<j:=hc;exact mod_int' (by omega) (by rw[Int.fmod_eq_emod_of_nonneg i (by omega)];exact q)
def unI{f:Value->Sem Value}{g:Int->Int}
  (rule: ∀(i:Int)(t:Tok)(s:Shared)(Q:VP)(E:VP),Q (.int (g i) s.toks) {s with toks:=s.toks+1}->wpAny (model X.prog X.w) X.A (f (.int i t)) Q E s):
  UnR X f (rU λi=>.int (g i)):=by
 intro pins s σ H x v Q I rx h;obtain⟨i,rfl,q⟩:=h;obtain⟨t,rfl⟩:=rx;exact rule i t s _ _ ⟨.int (g i),H,I.tok _,⟨_,rfl⟩,q⟩
def YE:UnR X (unaryOp .USub) (rU λi=>.int (-i)):=unI λ_ _ _ _ _ q=>neg_int q
end
section
variable{X:Cx}{a b:Expr}{ta tb:TE}{pos:Pos}
def PZ{pins:Vg}{σ:St}{H:Hp}{s:Shared}{Q:VK}{k k':Bool}(I:Inv X pins σ H s)(q:Q (.bl k) H)(e:k=k'):EP X pins σ Q (.bool k') s:=by subst e;exact⟨.bl k,H,I,rfl,q⟩
def Jq:OpR X (compareOp .Gt) (Lo λi j=>.bl (decide (j<i))):=opB0 λ_ _ _ _ _ _ _ q=>gt_int q
def VI:OpR X (compareOp .In) (λx y H Q=> ∃i j,x=.str i/\y=.str j/\Q (.bl (!(Builtin.Str.occurrences j i 0 j.length 1).isEmpty)) H):=by intro pins s σ H x y v u Q I rx ry h;obtain⟨i,j,rfl,rfl,q⟩:=h;obtain⟨t,rfl⟩:=rx;obtain⟨t',rfl⟩:=ry;exact in_str (PZ I q rfl)
def Ek:OpR X (compareOp .IsNot) (λx y H Q=>y=.non/\Q (.bl (!decide (x=.non))) H):=by
 intro pins s σ H x y v u Q I rx ry h;obtain⟨rfl,q⟩:=h;cases ry;refine isnot_none_gen (PZ I q ?_)
 cases x<;>first
  |(cases rx;rfl)
  |(obtain⟨t,rfl⟩:=rx;rfl)
def JH:OpR X (compareOp .NotIn) (λx y H Q=> ∃i j,x=.str i/\y=.str j/\Q (.bl (!(!(Builtin.Str.occurrences j i 0 j.length 1).isEmpty))) H):=by intro pins s σ H x y v u Q I rx ry h;obtain⟨i,j,rfl,rfl,q⟩:=h;obtain⟨t,rfl⟩:=rx;obtain⟨t',rfl⟩:=ry;exact notIn_str (PZ I q rfl)
def OpR.or{f:Value->Value->Sem Value}{r r':R2}(h:OpR X f r)(h':OpR X f r'):OpR X f (λx y H Q=>r x y H Q\/r' x y H Q):=by
 intro pins s σ H x y v u Q I rx ry q;rcases q with q|q
 .exact h pins s σ H x y v u Q I rx ry q
 .exact h' pins s σ H x y v u Q I rx ry q
def YF(b:Expr){op:CmpOp}(h:op≠.In:=by decide)(h2:op≠.NotIn:=by decide):behindInMarks op b=false:=by
 have e1:(op==CmpOp.In)=false:=by cases op<;>first |rfl|exact absurd rfl h
 have e2:(op==CmpOp.NotIn)=false:=by cases op<;>first |rfl|exact absurd rfl h2
 cases b<;>simp[behindInMarks,e1,e2]
def El{op:CmpOp}{r:R2}(ho:OpR X (compareOp op) r)(ha:PE X a ta)(hb:PE X b tb)(hm:behindInMarks op b=false):PE X (.Compare a [op] [b] pos) (Tz r ta tb):=by intro pins s σ H Q I h;exact wpAny_Compare1 (Lp ha hb I h λv u s2 x y H2 I2 rx ry q=>ho pins s2 σ H2 x y v u Q I2 rx ry q) hm
def Qt(t:TE):TT:=λσ H Q=>t σ H λx H'=> ∃k,x=.bl k/\Q k H'
def Em{op:CmpOp}{r:R2}(ho:OpR X (compareOp op) r)(ha:PE X a ta)(hb:PE X b tb)(hm:behindInMarks op b=false):PT X (.Compare a [op] [b] pos) (Qt (Tz r ta tb)):=by
 intro pins s σ H Q I h
 refine wpAny_isTrue_Compare1 (jM (ha pins s σ H _ I h) λv s1 ⟨x,H1,I1,r1,q1⟩=>jM (hb pins s1 σ H1 _ I1 q1) λu s2 ⟨y,H2,I2,r2,q2⟩=>
  jM (ho pins s2 σ H2 x y v u _ I2 r1 r2 q2) λc s3 ⟨z,H3,I3,r3,k,e,q3⟩=>?_) hm
 subst e;cases r3;exact wpAny_truthy_bool ⟨H3,I3,q3⟩
def Lu(K:Vk)(x:V)(H:Hp)(k:Bool):Prop:=
 match x with
 |.non=>k=false
 |.bl b=>k=b
 |.int i=>k=(i !=0)
 |.str y=>y.length<=sizeLine/\k=((y.length:Int) !=0)
 |.byt y=>y.size<=sizeLine/\k=((y.size:Int) !=0)
 |.ref p=>(∃xs,SqL K H p xs/\k= !xs.isEmpty)\/(∃xs,SqT K H p xs/\k= !xs.isEmpty)\/ ∃kvs,H p=some (.dK kvs)/\k= !kvs.isEmpty
 |_=>False
theorem QA{κ:Type}{kvs:List (κ×V)}{vs:List (κ×Value)}(r:KV kvs vs):(!vs.isEmpty)= !kvs.isEmpty:=by cases r<;>rfl
def DO{xs:List V}{its:Uk}(r:Vals xs its):(!its.toArray.isEmpty)= !xs.isEmpty:=by cases r<;>simp
def tY:(sizeLine:Nat)<2 ^ 63:=by rw[sizeLine_eq];decide
def Lv:TruR X (λx H Q=> ∃k,Lu X.K x H k/\Q k H):=by
 intro pins s σ H x v Q I rx h;obtain⟨k,e,q⟩:=h;have hl:=tY;have hs:sizeLine=16777216:=sizeLine_eq
 cases x with
 |non=>
  cases rx;have e':k=false:=e;subst e';exact truthy_none ⟨H,I,q⟩
 |bl b=>
  cases rx;have e':k=b:=e;subst e';exact wpAny_truthy_bool ⟨H,I,q⟩
 |int i=>
  obtain⟨t,rfl⟩:=rx;have e':k=(i !=0):=e;subst e';exact PySem.P.truthy_int ⟨H,I,q⟩
 |str y=>
  obtain⟨t,rfl⟩:=rx;obtain⟨hy,e'⟩:y.length<=sizeLine/\k=((y.length:Int) !=0):=e;subst e';exact PySem.P.truthy_str (by omega) ⟨H,I.tok _,q⟩
 |byt y=>
  obtain⟨t,rfl⟩:=rx;obtain⟨hy,e'⟩:y.size<=sizeLine/\k=((y.size:Int) !=0):=e;subst e';exact PySem.W.truthy_bytes (by omega) ⟨H,I.tok _,q⟩
 |ref p=>
  cases rx;have e':(∃xs,SqL X.K H p xs/\k= !xs.isEmpty)\/(∃xs,SqT X.K H p xs/\k= !xs.isEmpty)\/ ∃kvs,H p=some (.dK kvs)/\k= !kvs.isEmpty:=e;rcases e' with⟨xs,hx,e'⟩|⟨xs,hx,e'⟩|⟨kvs,hx,e'⟩
  .subst e';obtain⟨its,r,pl,hz⟩:=I.list hx;have hlen:=r.length;exact wpAny_truthy_list pl.isList (by simp only[sA];omega) ⟨H,I.tok _,by rw[DO r];exact q⟩
  .subst e';obtain⟨its,r,pl,hz⟩:=I.tuple hx;have hlen:=r.length;exact truthy_tuple pl (by simp only[sA];omega) ⟨H,I.tok _,by rw[DO r];exact q⟩
  .subst e';obtain⟨hz,hS,vs,r,m⟩:kvs.length<=sizeLine/\(p==sysModules)=false/\ ∃vs,KV kvs vs/\s.heap.DictOf (xX X.prog X.w) p vs:=I.hok p _ hx;have hlen:kvs.length=vs.length:=Paired.length r;exact wpAny_truthy_dict hS m (by omega) ⟨H,I.tok _,by rw[QA r];exact q⟩
 |_=>exact(show False from e).elim
def YG(ha:PE X a ta)(he: ∀whole,isTrue a X.env whole=(do let v <-whole;standAt a.pos;holding [v] (truthy v))):
  PT X a (λσ H Q=>ta σ H λx H'=> ∃k,Lu X.K x H' k/\Q k H'):=by
 intro pins s σ H Q I h;exact isTrue_plain (jM (ha pins s σ H _ I h) λv s1 ⟨x,H1,I1,r1,q1⟩=>Lv pins s1 σ H1 x v Q I1 r1 q1) (he _)
def QB:OpR X (binaryOp .Add) (λx y H Q=> ∃i j,x=.str i/\y=.str j/\i.length+j.length<=sizeLine/\Q (.str (i++j)) H):=by intro pins s σ H x y v u Q I rx ry h;obtain⟨i,j,rfl,rfl,hz,q⟩:=h;obtain⟨t,rfl⟩:=rx;obtain⟨t',rfl⟩:=ry;exact add_str (λt' tk=>⟨.str (i++j),H,I.tok _,⟨_,rfl⟩,q⟩) hz
def vals1{x:V}{us:Uk}(r:Vals [x] us): ∃u,us=[u]/\RelV x u:=by
 cases r with
 |cons r1 r2=>cases r2;exact⟨_,rfl,r1⟩
def vals2{x y:V}{us:Uk}(r:Vals [x,y] us): ∃u w',us=[u,w']/\RelV x u/\RelV y w':=by
 cases r with
 |cons r1 r2=>
  cases r2 with
  |cons r3 r4=>cases r4;exact⟨_,_,rfl,r1,r3⟩
def HM(hc:X.calm=true):CallR X (.builtin "min") (λxs H Q=> ∃i j,xs=[.int i,.int j]/\Q (.int (if j<i then j else i)) H):=by
 intro pins s σ H xs us Q I r h;obtain⟨i,j,rfl,q⟩:=h;obtain⟨u,w',rfl,⟨t,rfl⟩,⟨t',rfl⟩⟩:=vals2 r;refine min_two_ints (I.ok.hd hc) λh' tk k=>⟨_,H,I.kept k,?_,q⟩
 by_cases hj:j<i
 .rw[iP hj,iP hj];exact⟨_,rfl⟩
 .rw[iN hj,iN hj];exact⟨_,rfl⟩
def VJ:CallR X (.type "int") (λxs H Q=>(∃i,xs=[.int i]/\Q (.int i) H)\/ ∃k,xs=[.bl k]/\Q (.int (if k then 1 else 0)) H):=by
 intro pins s σ H xs us Q I r h;rcases h with⟨i,rfl,q⟩|⟨k,rfl,q⟩
 .obtain⟨u,rfl,t,rfl⟩:=vals1 r;exact call_int_int ⟨.int i,H,I,⟨_,rfl⟩,q⟩
 .obtain⟨u,rfl,r1⟩:=vals1 r;cases r1;exact call_int_bool ⟨.int (if k then 1 else 0),H,I.tok _,⟨_,rfl⟩,q⟩
end
structure ObjM(h:Heap)(x dx C:Addr)(mA:Vd):Prop where
 obj:h.get? x=some (PySem.W.instObj C dx)
 ns:h.Ns1 dx mA
 ne:dx≠x
def VL{h:Heap}{dx:Addr}{mA:Vd}(n:h.Ns1 dx mA): ∃od,h.get? dx=some od/\ ∀name,PySem.W.lookIn name od=some (mA name):=by
 obtain⟨o,es,ep,ho,hd,hk,_,hm⟩:=n;refine⟨o,ho,λname=>?_⟩;have e:=hm name;unfold nsFind findBy at e;rw[<-Array.find?_toList]at e;unfold PySem.W.lookIn;rw[hd];dsimp only;split
 .rename_i y q;rw[q]at e;exact congrArg some e
 .rename_i q;rw[q]at e;have a:es.toList.any (·.refKey)=false:=by rw[List.any_eq_false];intro y hy;obtain⟨z,t,hkey⟩:=hk y (Array.mem_toList_iff.mp hy);simp[DictEntry.refKey,hkey]
  have a': ¬es.toList.any (·.refKey)=true:=by rw[a];exact xF0
  rw[iN a'];exact congrArg some e
def ObjM.look{h:Heap}{x dx C:Addr}{mA:Vd}(I:ObjM h x dx C mA): ∃od,PySem.W.InstAt h x (PySem.W.instObj C dx) C (some od)/\ ∀name,PySem.W.lookIn name od=some (mA name):=
 let ⟨od,ho,hl⟩:=VL I.ns
 ⟨od,⟨I.obj,rfl,rfl,ho⟩,hl⟩
section
variable{prog:Program}{w:World}{A:Around}{E:VP}{s:Shared}{K:Vk}{x dx C f:Addr}{mA:Vd}{name:Str}{v:Value}
def En{expr:Bool}{Q:VP}(X:K.In s.heap)(I:ObjM s.heap x dx C mA)(hg:PySem.W.plainGet K C name=true)(hh:PySem.W.hasDictIn K C=true)
  (ha:PySem.W.findIn K (.ref C) name=some none) (hv:mA name=some v) (hv':PySem.W.handedIn v=true) (h:Q v {s with toks:=s.toks+1}):
  wpAny (model prog w) A (getAttr (.ref x) name expr) Q E s:=by
 obtain⟨od,J,hl⟩:=I.look;exact PySem.W.get_value X J (PySem.W.plainGet_of hg).1 (PySem.W.findObj_own hh ha rfl (by rw[hl,hv])) hv' h
def YH{pl:Sem Bool}{Q:Value×List Value->Shared->Prop}(X:K.In s.heap)(I:ObjM s.heap x dx C mA)(hg:PySem.W.plainGet K C name=true)
  (hf:PySem.W.findIn K (.ref C) name=some (some (.ref f))) (ht:PySem.W.isFn K (.ref f)=true) (hv:mA name=none) (h:Q (.ref f,[.ref x]) s):
  wpAny (model prog w) A (getMethod (.ref x) name pl) Q E s:=by
 obtain⟨od,J,hl⟩:=I.look;exact PySem.W.method_fn X J (PySem.W.plainGet_of hg).1 (PySem.W.plainGet_of hg).2 hf (beq_iff_eq.mp ht) (by show(PySem.W.lookIn name od).map (·.isSome)=some false;rw[hl,hv];rfl) h
def Eo{ns:Vc}{Q:Unit->Shared->Prop}(X:K.In s.heap)(I:ObjM s.heap x dx C mA)
  (hs:PySem.W.findIn K (.ref C) "__setattr__"=some (some (.builtin "object.__setattr__"))) (hp:PySem.W.plainOver K C=true) (ht:PySem.W.takerIn K C name=some none) (hh:PySem.W.hasDictIn K C=true)
  (hw:PySem.Within mA ns) (hsz:ns.length<=sizeLine)
  (h: ∀h',ObjM h' x dx C (λy=>if y=name then some v else mA y)->Heap.SameBut dx s.heap h'->Q () {s with heap:=h',toks:=s.toks+2}):
  wpAny (model prog w) A (setAttr (.ref x) name v) Q E s:=by
 obtain⟨od,J,hl⟩:=I.look;refine PySem.W.set_plain X J hs (PySem.W.osa_open (s:={s with toks:=s.toks+1}) (r:=none) X J hp ht λb=>?_);obtain⟨cd,hc,hd'⟩:=PySem.W.any_some hh;have hx:s.heap.get? x=some ⟨.ref C,some dx,.plain,#[]⟩:=I.obj;refine wB (wP (wB (wB (wpAny_loadPart hx (wB (PySem.W.Looks.here (s:={s with toks:=s.toks+1}) (PySem.W.looks_clsIn X hc) ?_))))));rw[hd'];refine wP (a:=some dx) (wB (wP (wB ?_)));refine wpAny_nsSet1 (s:={s with toks:=s.toks+1}) I.ns λh' hn2 hs2=>?_;obtain⟨oD,esD,epD,hoD,hdD,hcD⟩:=hn2.count (PySem.Within.cons name v hw);refine wB (wpAny_lookBehind hoD (by rw[hdD];exact pastItsLine_dict (Nat.le_trans hcD (by rw[lC];omega))) ?_);exact wP (h _ ⟨(hs2.2 _ (Ne.symm I.ne)).trans I.obj,hn2,I.ne⟩ hs2)
def YI{R:Result->Shared->Prop}{vs:Uk}{kw:List (Str×Value)}(X:K.In s.heap)(hm:PySem.W.makesIn K C=true)
  (hi:PySem.W.findIn K (.ref C) "__init__"=some (some (.ref f))) (hf:PySem.W.typeIn K (.ref f)=some (.type "function"))
  (h:codeAny (model prog w) (A.under (.builtin "type.__call__" ⟨.ref C::vs,kw⟩)) (.call (.ref f) ⟨.ref (s.heap.objs.size+1)::vs,kw⟩) (PySem.W.InitBack (s.heap.objs.size+1) R)
   {s with heap:=(s.heap.push PySem.W.emptyDict).push (PySem.W.instObj C s.heap.objs.size)}):
  codeAny (model prog w) A (.call (.ref C) ⟨vs,kw⟩) R s:=by
 obtain⟨hh,g,d,t,os⟩:=s;exact PySem.W.make_core (PySem.W.makes_of X hm) (PySem.W.looks_findIn X hi) (λself=>PySem.W.bind_fn X self hf) (.inl rfl) h
end
def pU(f:Str)(v:V):List (Str×V)->List (Str×V)
 |[]=>[(f,v)]
 |(g,x)::r=>if g=f then(g,v)::r else(g,x)::pU f v r
theorem BO(f g:Str)(v:V): ∀fs:List (Str×V),(pU f v fs).lookup g=if g=f then some v else fs.lookup g
 |[]=>by
  show List.lookup g [(f,v)]=_;by_cases h:g=f
  .have hb:(g==f)=true:=beq_iff_eq.mpr h;simp only[List.lookup,hb,iP h]
  .have hb:(g==f)=false:=beq_eq_false_iff_ne.mpr h;simp only[List.lookup,hb,iN h]
 |(k,x)::r=>by
  have ih:=BO f g v r;rw[show pU f v ((k,x)::r)=(if k=f then(k,v)::r else(k,x)::pU f v r)from rfl];by_cases hk:k=f
  .rw[iP hk];by_cases h:g=k
   .have hb:(g==k)=true:=beq_iff_eq.mpr h;simp only[List.lookup,hb,iP (h.trans hk)]
   .have hb:(g==k)=false:=beq_eq_false_iff_ne.mpr h;simp only[List.lookup,hb,iN (λe:g=f=>h (e.trans hk.symm))]
  .rw[iN hk];by_cases h:g=k
   .have hb:(g==k)=true:=beq_iff_eq.mpr h;simp only[List.lookup,hb,iN (λe:g=f=>hk (h.symm.trans e))]
   .have hb:(g==k)=false:=beq_eq_false_iff_ne.mpr h;simp only[List.lookup,hb];exact ih
theorem AH(f:Str)(v:V): ∀fs:List (Str×V),f∈(pU f v fs).map (·.1)/\ ∀g,g∈fs.map (·.1)->g∈(pU f v fs).map (·.1)
 |[]=>⟨by simp[pU],λg h=>by simp at h⟩
 |(k,x)::r=>by
  obtain⟨i1,i2⟩:=AH f v r;rw[show pU f v ((k,x)::r)=(if k=f then(k,v)::r else(k,x)::pU f v r)from rfl];by_cases hk:k=f
  .rw[iP hk];subst hk;exact⟨by simp,λg h=>by simpa using h⟩
  .rw[iN hk];refine⟨?_,λg h=>?_⟩
   .rw[List.map_cons];exact mO _ i1
   .rw[List.map_cons]at h ⊢;rcases mC.mp h with e|e
    .exact mC.mpr (.inl e)
    .exact mO _ (i2 g e)
theorem BP(f:Str)(v:V): ∀fs:List (Str×V),(pU f v fs).length<=fs.length+1
 |[]=>by simp[pU]
 |(k,x)::r=>by
  have ih:=BP f v r;rw[show pU f v ((k,x)::r)=(if k=f then(k,v)::r else(k,x)::pU f v r)from rfl];by_cases hk:k=f
  .rw[iP hk,lC,lC];omega
  .rw[iN hk,lC,lC];omega
def RelO.some_of{v:V}{o:Option Value}(r:RelO (some v) o): ∃u,o=some u/\RelV v u:=by
 cases o with
 |none=>exact(show False from r).elim
 |some u=>exact⟨u,rfl,r⟩
def RelO.none_of{o:Option Value}(r:RelO none o):o=none:=by
 cases o with
 |none=>rfl
 |some u=>exact(show False from r).elim
theorem VM{v:V}{u:Value}(r:RelV v u):PySem.W.handedIn u=true:=by
 cases v with
 |non=>cases (show u=Value.none from r);rfl
 |bl b=>cases (show u=Value.bool b from r);rfl
 |int i=>obtain⟨t,e⟩:=(show∃t,u=Value.int i t from r);cases e;rfl
 |str x=>obtain⟨t,e⟩:=(show∃t,u=Value.str x t from r);cases e;rfl
 |byt b=>obtain⟨t,e⟩:=(show∃t,u=Value.bytes b t from r);cases e;rfl
 |flt b=>obtain⟨t,e⟩:=(show∃t,u=Value.float b t from r);cases e;rfl
 |ref a=>cases (show u=Value.ref a from r);rfl
 |ty n=>cases (show u=Value.type n from r);rfl
section
variable{P:Program}{w:World}{H:Hp}{h:Heap}{a C dx:Addr}{fs:List (Str×V)}
def JI(hok:HOk P w H h)(e:H a=some (.ins C dx fs)): ∃mA,ObjM h a dx C mA/\(∀f,RelO (fs.lookup f) (mA f))/\PySem.Within mA (fs.map (·.1))/\fs.length<=1000/\H dx=some (.own a):=by
 obtain⟨d,z,ne,ob,mA,n,r,q⟩:=(show ObjOk P w H h a (.ins C dx fs)from hok a _ e)
 exact⟨mA,⟨ob,n,ne⟩,r,q,z,d⟩
end
structure Cls(K:Vk)(C:Addr):Prop where
 pg:PySem.W.plainGet K C Str.empty=true
 hd:PySem.W.hasDictIn K C=true
 po:PySem.W.plainOver K C=true
 sa:PySem.W.findIn K (.ref C) "__setattr__"=some (some (.builtin "object.__setattr__"))
def Cls.get{K:Vk}{C:Addr}(c:Cls K C)(f:Str):PySem.W.plainGet K C f=true:=c.pg
def NoAttr(K:Vk)(C:Addr)(f:Str):Prop:=PySem.W.findIn K (.ref C) f=some none
theorem NoAttr.taker{K:Vk}{C:Addr}{f:Str}(n:NoAttr K C f):PySem.W.takerIn K C f=some none:=by unfold PySem.W.takerIn;rw[show PySem.W.findIn K (.ref C) f=some none from n];rfl
structure Meth(K:Vk)(C:Addr)(m:Str)(f:Addr):Prop where
 at_:PySem.W.findIn K (.ref C) m=some (some (.ref f))
 fn:PySem.W.isFn K (.ref f)=true
 kp:PySem.W.keepIn K (.ref f)=true
section
variable{X:Cx}{pins:Vg}{σ:St}{H:Hp}{s:Shared}{a C dx:Addr}{fs:List (Str×V)}{f:Str}{v:V}{A:Around}{E:VP}
def QC{b:Bool}{Q:VP}(I:Inv X pins σ H s)(e:H a=some (.ins C dx fs))(c:Cls X.K C)(n:NoAttr X.K C f)(l:fs.lookup f=some v)
  (h: ∀u s',Inv X pins σ H s'->RelV v u->Q u s'):wpAny (model X.prog X.w) A (getAttr (.ref a) f b) Q E s:=by
 obtain⟨mA,O,r,_,_,_⟩:=JI I.hok e;obtain⟨u,hu,ru⟩:=RelO.some_of (v:=v) (o:=mA f) (by rw[<-l];exact r f);exact En I.kIn O (c.get f) c.hd n hu (VM ru) (h u _ (I.tok _) ru)
def QD{m:Str}{g:Addr}{pl:Sem Bool}{Q:Value×List Value->Shared->Prop}(I:Inv X pins σ H s)(e:H a=some (.ins C dx fs))(c:Cls X.K C)(k:Meth X.K C m g)(l:fs.lookup m=none)
  (h:Q (.ref g,[.ref a]) s):wpAny (model X.prog X.w) A (getMethod (.ref a) m pl) Q E s:=by
 obtain⟨mA,O,r,_,_,_⟩:=JI I.hok e;have hn:mA m=none:=RelO.none_of (by rw[<-l];exact r m);exact YH I.kIn O (c.get m) k.at_ k.fn hn h
def QE{y:V}{u:Value}{Q:Unit->Shared->Prop}(I:Inv X pins σ H s)(e:H a=some (.ins C dx fs))(c:Cls X.K C)(n:NoAttr X.K C f)(hl:fs.length<1000)(ry:RelV y u)
  (h: ∀s',Inv X pins σ (gD H a (.ins C dx (pU f y fs))) s'->Q () s'):wpAny (model X.prog X.w) A (setAttr (.ref a) f u) Q E s:=by
 obtain⟨mA,O,r,wi,_,ho⟩:=JI I.hok e;have hz:(fs.map (·.1)).length<=sizeLine:=by rw[lM,sizeLine_eq];omega
 refine Eo I.kIn O c.sa c.po n.taker c.hd wi hz λh' O' sb=>h _ ?_;have hd: ∃o,h'.get? dx=some o:=let ⟨o,_,_,e',_⟩:=O'.ns;⟨o,e'⟩;refine I.write (x:=a) (e:=dx) (by rw[e];exact True.intro) (.inr ho) (λb q hb z=>(sb.2 b hb).trans z) hd ?_;refine⟨by rw[yF O.ne];exact ho,?_,O.ne,O'.obj,_,O'.ns,λg=>?_,λg hg=>?_⟩
 .have:=BP f y fs;omega
 .show RelO ((pU f y fs).lookup g) (if g=f then some u else mA g);rw[BO];by_cases q:g=f
  .rw[iP q,iP q];exact ry
  .rw[iN q,iN q];exact r g
 .by_cases q:g=f
  .rw[q];exact(AH f y fs).1
  .refine(AH f y fs).2 g (wi g λz=>hg ?_);show(if g=f then some u else mA g)=none;rw[iN q];exact z
def Inv.made(I:Inv X pins σ H s):Inv X pins σ (gD (gD H s.heap.objs.size (.own (s.heap.objs.size+1))) (s.heap.objs.size+1) (.ins C s.heap.objs.size []))
  {s with heap:=(s.heap.push PySem.W.emptyDict).push (PySem.W.instObj C s.heap.objs.size)}:=by
 have e1:(s.heap.push PySem.W.emptyDict).get? s.heap.objs.size=some PySem.W.emptyDict:=Heap.get?_push_size s.heap rfl;have e2:((s.heap.push PySem.W.emptyDict).push (PySem.W.instObj C s.heap.objs.size)).get? (s.heap.objs.size+1)=some (PySem.W.instObj C s.heap.objs.size):=by have:=Heap.get?_push_size (s.heap.push PySem.W.emptyDict) (o:=PySem.W.instObj C s.heap.objs.size) rfl;rwa [Heap.size_push]at this
 have e3:(s.heap.push PySem.W.emptyDict).Ns s.heap.objs.size (λ_=>none):=⟨PySem.W.emptyDict,#[],_,e1,rfl,(λe he=>absurd he (by simp)),λ_=>rfl⟩
 have I1:=I.laid (a:=s.heap.objs.size) (o:=.own (s.heap.objs.size+1)) (h':=s.heap.push PySem.W.emptyDict) (t':=s.toks) (λb u q=>hP0 _ q) (Nat.le_refl _) ⟨_,e1⟩;refine I1.laid (a:=s.heap.objs.size+1) (o:=.ins C s.heap.objs.size []) (t':=s.toks) (λb u q=>hP0 _ q) (le_of_eq (Heap.size_push _ _)) ?_;have ne:s.heap.objs.size≠s.heap.objs.size+1:=Nat.ne_of_lt (Nat.lt_succ_self _);refine⟨by rw[yF ne,xB],zero_le _,ne,e2,λ_=>none,(Heap.Ns1.of_empty e3).at λo q=>hP0 _ q,λ_=>True.intro,λy hy=>absurd rfl hy⟩
def Ep{prog:Program}{w:World}{env:Env}{e:Expr}{f:Str}{pos:Pos}{s:Shared}{Q:VP}(hb:attributeBase e f env (eval e env)=eval e env)
  (h:wpAny (model prog w) A (eval e env) (λo s₁=>wpAny (model prog w) A (getAttr o f true) Q E s₁) E s):wpAny (model prog w) A (eval (.Attribute e f pos) env) Q E s:=
 Attribute_any_ h (by rw[arm_eval_Attribute,hb])
end
def tFld(K:Vk)(ta:TE)(f:Str):TE:=λσ H Q=>ta σ H λx H1=> ∃a C dx fs v,x=.ref a/\H1 a=some (.ins C dx fs)/\Cls K C/\NoAttr K C f/\fs.lookup f=some v/\Q v H1
def sFld(K:Vk)(ta tv:TE)(f:Str):TS:=λD σ H=>tv σ H λy H1=>ta σ H1 λx H2=> ∃a C dx fs,x=.ref a/\H2 a=some (.ins C dx fs)/\Cls K C/\NoAttr K C f/\fs.length<1000/\
 D.nx σ (gD H2 a (.ins C dx (pU f y fs)))
section
variable{X:Cx}{o e value:Expr}{f:Str}{pos pos':Pos}{ta tv:TE}
def Lw(he:PE X e ta)(hb:attributeBase e f X.env (eval e X.env)=eval e X.env):PE X (.Attribute e f pos) (tFld X.K ta f):=by intro pins s σ H Q I h;refine Ep hb (jM (he pins s σ H _ I h) λu s1 ⟨x,H1,I1,rx,a,C,dx,fs,v,ex,ea,c,n,l,q⟩=>?_);subst ex;obtain rfl:u=Value.ref a:=rx;exact QC I1 ea c n l λu' s2 I2 ru=>⟨v,H1,I2,ru,q⟩
def Lx(ha:PE X o ta)(hv:PE X value tv)(hs:swapsWith value (some (.Attribute o f pos')) pos.line X.env=pure false):PS X (.Assign [.Attribute o f pos'] value pos) (sFld X.K ta tv f):=by intro pins s σ H D I h;refine plainObj_wpAny_Assign_Attribute (jM (hv pins s σ H _ I h) λu s1 ⟨y,H1,I1,ry,q⟩=>jM (ha pins s1 σ H1 _ I1 q) λov s2 ⟨x,H2,I2,rx,a,C,dx,fs,ex,ea,c,n,l,q2⟩=>?_) hs;subst ex;obtain rfl:ov=Value.ref a:=rx;exact QE I2 ea c n l ry λs3 I3=>⟨σ,_,I3,q2⟩
end
section
variable{H:Hp}
inductive uK(K:Vk)(H:Hp):V->Value->Prop where
 |non:uK K H .non (.type "NoneType")
 |bl (x:Bool):uK K H (.bl x) (.type "bool")
 |int (i:Int):uK K H (.int i) (.type "int")
 |str (x:Str):uK K H (.str x) (.type "str")
 |flt (x:UInt64):uK K H (.flt x) (.type "float")
 |lst {a:Addr} {xs:List V} (e:H a=some (.lst xs)):uK K H (.ref a) (.type "list")
 |frz {a:Addr} {o:Obj} {xs:List V} (e:H a=some (.frz o (.lst xs))):uK K H (.ref a) (.type "list")
 |tup {a:Addr} {xs:List V} (e:H a=some (.tup xs)):uK K H (.ref a) (.type "tuple")
 |dK {a:Addr} {kvs:List (Key×V)} (e:H a=some (.dK kvs)):uK K H (.ref a) (.type "dict")
 |dT {a:Addr} {kvs:List (List Key×V)} (e:H a=some (.dT kvs)):uK K H (.ref a) (.type "dict")
 |ins {a C dx:Addr} {fs:List (Str×V)} (e:H a=some (.ins C dx fs)) (cl:Cls K C) (ha:PySem.W.findIn K (.ref C) "__class__"=some (some (.builtin "object.__class__")))
   (hn:PySem.W.specialIn K (.builtin "object.__class__") "__get__"=some (some (.builtin "getset_descriptor.__get__"))) (htk:PySem.W.takesIn K (.builtin "object.__class__")=some true)
   (hm:PySem.W.mroIn K C (.type "object")=some true):uK K H (.ref a) (.ref C)
end
structure Room(k:Nat)(A:Around):Prop where
 hd:A.handled=none
 dp:A.depth+3 * k+5<recursionLimit
 un:A.units+16 * k+200<cLine
def Room.mono{j k:Nat}{A:Around}(r:Room k A)(h:j<=k):Room j A:=⟨r.hd,by have:=r.dp;omega,by have:=r.un;omega⟩
def Room.deeper{k:Nat}{A:Around}(r:Room (k+1) A)(env:Env):Room k (A.deeper env):=
 ⟨r.hd,by have:=r.dp;show A.depth+1+3 * k+5<_;omega,by have:=r.un;show A.units+3+16 * k+200<_;omega⟩
def QF{A:Around}{C:Addr}{us:Uk}{kw:List (Str×Value)}:(A.under (.builtin "type.__call__" ⟨.ref C::us,kw⟩)).depth=A.depth+1:=by
 first |rfl|simp[Around.under,Code.weight,Code.isCreation,Code.isGuard,Code.isCaller,Code.frames,Code.isFrame,guardIds]
def QG{A:Around}{C:Addr}{us:Uk}{kw:List (Str×Value)}:(A.under (.builtin "type.__call__" ⟨.ref C::us,kw⟩)).units=A.units+1:=by
 first |rfl|simp[Around.under,Code.cUnits,Code.frames,Code.isFrame]
def Room.make{k:Nat}{A:Around}(r:Room (k+1) A)(C:Addr)(us:Uk)(kw:List (Str×Value)):Room k (A.under (.builtin "type.__call__" ⟨.ref C::us,kw⟩)):=
 ⟨r.hd,by have:=r.dp;rw[QF];omega,by have:=r.un;rw[QG];omega⟩
def Room.depth{k:Nat}{A:Around}(r:Room k A):A.depth<recursionLimit:=by have:=r.dp;omega
def Room.units{k:Nat}{A:Around}(r:Room k A):A.units+64<cLine:=by have:=r.un;omega
def tNil:TA:=λ_ H Q=>Q [] H
def Qu(ta:TE)(tr:TA):TA:=λσ H Q=>ta σ H λx H1=>tr σ H1 λxs H2=>Q (x::xs) H2
section
variable{X:Cx}{e:Expr}{es:Vj}{te:TE}{t:TA}{pos:Pos}
def Ly:PA X [] tNil:=λ_ _ _ _ H Q I h=>Calls.spliced_nil ⟨[],H,I,.nil,h⟩
def Es(ha:PE X e te)(hr:PA X es t)(hs:starEach (e::es) X.env=(false,eval e X.env)::starEach es X.env:=by rfl):PA X (e::es) (Qu te t):=by intro pos pins s σ H Q I h;rw[hs];show wpAny _ _ (spliced ((false,eval e X.env)::backTo pos (starEach es X.env))) _ _ s;refine Calls.spliced_cons (jM (ha pins s σ H _ I h) λu s1 ⟨x,H1,I1,r1,q1⟩=>?_);exact jM (hr pos pins s1 σ H1 _ I1 q1) λus s2 ⟨xs,H2,I2,r2,q2⟩=>⟨x::xs,H2,I2,.cons r1 r2,q2⟩
def tTup(t:TA):TE:=λσ H Q=>t σ H λxs H1=>xs.length<=sizeLine/\ ∀p,H1 p=none->Q (.ref p) (gD H1 p (.tup xs))
def tLst(t:TA):TE:=λσ H Q=>t σ H λxs H1=>xs.length<=sizeLine/\ ∀p,H1 p=none->Q (.ref p) (gD H1 p (.lst xs))
def Lz{x1}(h:PA X es t):PE X (.Tuple es x1 pos) (tTup t):=by intro pins s σ H Q I hq;refine wpAny_Tuple_spliced (jM (h pos pins s σ H _ I hq) λus s1 ⟨xs,H1,I1,r,z,q⟩=>⟨by rw[<-r.length];exact z,?_⟩);have hf:H1 s1.heap.objs.size=none:=I1.hok.fresh (Nat.le_refl _);refine⟨.ref s1.heap.objs.size,gD H1 s1.heap.objs.size (.tup xs),I1.laid (t':=s1.toks) (λb u e=>hP0 _ e) (Nat.le_refl _) ?_,rfl,q _ hf⟩;exact⟨z,us,r,⟨_,Heap.get?_push_size _ rfl,rfl,_,rfl⟩⟩
def Ma(h:PA X es t):PE X (.List es pos) (tLst t):=by intro pins s σ H Q I hq;refine wpAny_List_spliced (jM (h pos pins s σ H _ I hq) λus s1 ⟨xs,H1,I1,r,z,q⟩=>⟨by rw[<-r.length];exact z,?_⟩);have hf:H1 s1.heap.objs.size=none:=I1.hok.fresh (Nat.le_refl _);refine⟨.ref s1.heap.objs.size,gD H1 s1.heap.objs.size (.lst xs),I1.laid (t':=s1.toks) (λb u e=>hP0 _ e) (Nat.le_refl _) ?_,rfl,q _ hf⟩;exact⟨z,us,0,r,Heap.get?_push_size _ rfl⟩
end
abbrev Sp:=List V->Hp->VK->XK->Prop
abbrev VN:=List Env->Hp->Shared->XK->VP
structure Env0(P:Program)(w:World)(K:Vk)(mg:Vd)(base:Heap)(A:Around)(outer:List Env)(s:Shared)(H:Hp):Prop where
 frames:A.frames=some outer
 mod:Mod K mg base
 bs: ∀b o,base.get? b=some o->s.heap.get? b=some o/\H b=none
 bsz:base.objs.size<=s.heap.objs.size
 funs:s.heap.FunFrames base outer
 frf: ∀b∈SK outer,H b=none
 hok:HOk P w H s.heap
 bare:AllBare s.gens
def CE(outer:List Env)(P:Program)(w:World)(H:Hp)(s:Shared)(Q:VK)(u:Value)(s':Shared):Prop:=
 ∃v H',s'.os=s.os/\AllBare s'.gens/\Un (SK outer) [] H H' s.heap s'.heap/\HOk P w H' s'.heap/\RelV v u/\Q v H'
def CR(CX:VN)(outer:List Env)(P:Program)(w:World)(H:Hp)(s:Shared)(Q:VK)(E:XK)(r:Result)(s':Shared):Prop:=
 match r with
 |.ok (.ret u)=>CE outer P w H s Q u s'
 |.ok _=>False
 |.error e=>CX outer H s E e s'
structure FnOk(P:Program)(w:World)(K:Vk)(mg:Vd)(base:Heap)(CX:VN)(k:Nat)(f:Addr)(fd:FuncData)(ps:Vc)(sp:Sp):Prop where
 len: ∀vs H Q E,sp vs H Q E->vs.length=ps.length
 run: ∀(A:Around)(outer:List Env)(s:Shared)(H:Hp)(args:Args)(us:Uk)(vs:List V)(Q:VK)(E:XK),Room k A->Env0 P w K mg base A outer s H->BindsTo s fd args (ps.zip us)->Vals vs us->sp vs H Q E->
  codeAny (model P w) A (.call (.ref f) args) (CR CX outer P w H s Q E) s
def FnOk.imp{P:Program}{w:World}{K:Vk}{mg:Vd}{base:Heap}{CX:VN}{k:Nat}{f:Addr}{fd:FuncData}{ps:Vc}{sp sp':Sp}(F:FnOk P w K mg base CX k f fd ps sp)
  (h: ∀vs H Q E,sp' vs H Q E->sp vs H Q E):FnOk P w K mg base CX k f fd ps sp':=
 ⟨λvs H Q E q=>F.len vs H Q E (h _ _ _ _ q),λA outer s H args us vs Q E hr he hb hv hs=>F.run A outer s H args us vs Q E hr he hb hv (h _ _ _ _ hs)⟩
def Env0.make{P:Program}{w:World}{K:Vk}{mg:Vd}{base:Heap}{A:Around}{outer:List Env}{s:Shared}{H:Hp}(e:Env0 P w K mg base A outer s H)(C:Addr)(us:Uk)(kw:List (Str×Value)):
  Env0 P w K mg base (A.under (.builtin "type.__call__" ⟨.ref C::us,kw⟩)) outer s H:=⟨by first |exact e.frames|(simpa [Around.under,Code.envs,Code.isFrame,pushEnvs]using e.frames),e.mod,e.bs,e.bsz,e.funs,e.frf,e.hok,e.bare⟩
section
variable{X:Cx}{pins:Vg}{σ:St}{H:Hp}{s s':Shared}
def Inv.env0(I:Inv X pins σ H s):Env0 X.prog X.w X.K X.mg X.base X.A X.stack s H:=
 ⟨I.ok.frames,I.ok.mod,I.bs,Nat.le_trans I.ok.bsz I.sz,I.stack,I.stkFree,I.hok,I.bare⟩
def Inv.after{Q:VK}{u:Value}(I:Inv X pins σ H s)(h:CE X.stack X.prog X.w H s Q u s'):EP X pins σ Q u s':=by obtain⟨v,H',os,bare,un,hok,r,q⟩:=h;obtain⟨hh,g,d,t,os'⟩:=s';obtain rfl:os'=s.os:=os;exact⟨v,H',I.call (h':=hh) (g':=g) (d':=d) (t':=t) (ch:=[]) un hok bare (λb z=>absurd z (by simp)),r,q⟩
end
def Qv(sp:Sp)(dvs:List V)(E:XK)(t:TA):TE:=λσ H Q=>t σ H λvs H1=>sp (vs++dvs) H1 Q E
def Qw(C:Addr)(m:Str)(sp:Sp)(dvs:List V)(E:XK)(ta:TE)(t:TA):TE:=λσ H Q=>ta σ H λx H1=> ∃a dx fs,x=.ref a/\H1 a=some (.ins C dx fs)/\fs.lookup m=none/\
 t σ H1 λvs H2=>sp (x::(vs++dvs)) H2 Q E
def Qx(C:Addr)(sp:Sp)(dvs:List V)(E:XK)(t:TA):TE:=λσ H Q=>t σ H λvs H1=> ∀x dx,H1 x=none->H1 dx=none->dx≠x->
 sp (.ref x::(vs++dvs)) (gD (gD H1 dx (.own x)) x (.ins C dx [])) (λv H2=>v=.non/\Q (.ref x) H2) E
def Binds(K:Vk)(fd:FuncData)(ps:Vc)(ds:Uk):Prop:=
 ∀(s:Shared)(us:Uk),K.In s.heap->(us++ds).length=ps.length->BindsTo s fd ⟨us,[]⟩ (ps.zip (us++ds))
def Binds.all{K:Vk}{fd:FuncData}{ps:Vc}(h: ∀us:List Value,us.length=ps.length->bindArgs fd ⟨us,[]⟩=pure (ps.zip us)):Binds K fd ps []:=λs us _ hl=>by rw[aN]at hl ⊢;exact .of_eq (h us hl)
def AI(CX:VN)(X:Cx)(E:XK):Prop:= ∀(pins:Vg)(σ:St)(H:Hp)(s:Shared)(e:Value)(s':Shared),Inv X pins σ H s->CX X.stack H s E e s'->X.xe e s'
section
variable{X:Cx}{CX:VN}{k:Nat}{f C:Addr}{fd:FuncData}{ps:Vc}{sp:Sp}{dvs:List V}{ds:Uk}{E:XK}{x m:Str}{p pos apos:Pos}{e o:Expr}{es:Vj}{ta:TE}{t:TA}
def YJ{pins:Vg}{σ:St}{H:Hp}{s:Shared}{Q:VK}{us:Uk}{vs:List V}(F:FnOk X.prog X.w X.K X.mg X.base CX k f fd ps sp)(hr:Room k X.A)(hb:Binds X.K fd ps ds)(hd:Vals dvs ds)(hx:AI CX X E)
  (I:Inv X pins σ H s) (r:Vals vs us) (h:sp (vs++dvs) H Q E):wpAny (model X.prog X.w) X.A (call (.ref f) us) (EP X pins σ Q) X.xe s:=by
 have r2:Vals (vs++dvs) (us++ds):=r.append hd;have hl:(us++ds).length=ps.length:=by rw[<-r2.length];exact F.len _ _ _ _ h
 refine wpAny_call (codeAny_mono (F.run X.A X.stack s H ⟨us,[]⟩ (us++ds) (vs++dvs) Q E hr I.env0 (hb s us I.kIn hl) r2 h) λr s' hq=>?_)
 cases r with
 |error e=>exact hx pins σ H s e s' I hq
 |ok fl=>
  cases fl with
  |ret u=>exact I.after hq
  |next=>exact False.elim hq
  |brk=>exact False.elim hq
  |cont=>exact False.elim hq
def Et(F:FnOk X.prog X.w X.K X.mg X.base CX k f fd ps sp)(hr:Room k X.A)(hg:Gl X x)(hm:X.mg x=some (.ref f))(hk:PySem.W.keepIn X.K (.ref f)=true)(hb:Binds X.K fd ps ds)(hd:Vals dvs ds)(hx:AI CX X E)
  (ha:PA X (e::es) t) (hdb:(x==("__debug__":Str))=false:=by decide) (he:starEach (e::es) X.env=(false,eval e X.env)::starEach es X.env:=by rfl) (hpl:(backTo pos (starEach es X.env)).any (·.1)=false:=by rfl):
  PE X (.Call (.Name x p) (e::es) [] pos) (Qv sp dvs E t):=by
 intro pins s σ H Q I h;refine wpAny_Call_Name_kw (SL I hg hm ?_ hdb);refine PySem.W.callWith_K (h₀:=X.base) I.ok.mod.kin hk (jM (ha pos pins s σ H _ I h) λus s1 ⟨vs,H1,I1,r,q⟩=>⟨I1.kIn,?_⟩) he hpl;exact YJ F hr hb hd hx I1 r q
def Eu{pl:Sem Bool}(he:PE X o ta)(c:Cls X.K C)(hm:Meth X.K C m f)(F:FnOk X.prog X.w X.K X.mg X.base CX k f fd ps sp)(hr:Room k X.A)(hb:Binds X.K fd ps ds)(hd:Vals dvs ds)(hx:AI CX X E)(ha:PA X (e::es) t)
  (hst:starEach (e::es) X.env=(false,eval e X.env)::starEach es X.env:=by rfl) (hpl:(backTo pos (starEach es X.env)).any (·.1)=false:=by rfl)
  (ht:eval (.Call (.Attribute o m apos) (e::es) [] pos) X.env=(do
   let ov <-eval o X.env
   standAt apos.atName
   let (f,first) <-holding [ov] (getMethod ov m pl)
   callWith pos f first (backTo pos (starEach (e::es) X.env)) (backToKw pos (keywordEach [] X.env))):=by rfl):
  PE X (.Call (.Attribute o m apos) (e::es) [] pos) (Qw C m sp dvs E ta t):=by
 intro pins s σ H Q I h;refine PySem.W.methodCall_KW (pl:=pl) (jM (he pins s σ H _ I h) λu s1 ⟨x,H1,I1,rx,a,dx,fs,ex,ea,l,q⟩=>?_) ht;subst ex;obtain rfl:u=Value.ref a:=rx;refine QD I1 ea c hm l ?_;refine PySem.W.callWith_K (first:=[.ref a]) (h₀:=X.base) I.ok.mod.kin hm.kp (jM (ha pos pins s1 σ H1 _ I1 q) λus s2 ⟨vs,H2,I2,r,q2⟩=>⟨I2.kIn,?_⟩) hst hpl;exact YJ (us:=.ref a::us) (vs:=.ref a::vs) F hr hb hd hx I2 (.cons rfl r) q2
structure Mk(K:Vk)(C f:Addr):Prop where
 makes:PySem.W.makesIn K C=true
 init:PySem.W.findIn K (.ref C) "__init__"=some (some (.ref f))
 fn:PySem.W.isFn K (.ref f)=true
 kp:PySem.W.keepIn K (.ref C)=true
def YK{pins:Vg}{σ:St}{H:Hp}{s:Shared}{Q:VK}{us:Uk}{vs:List V}(M:Mk X.K C f)(F:FnOk X.prog X.w X.K X.mg X.base CX k f fd ps sp)(hr:Room (k+1) X.A)(hb:Binds X.K fd ps ds)(hd:Vals dvs ds)
  (hx:AI CX X E) (I:Inv X pins σ H s) (r:Vals vs us)
  (h: ∀x dx,H x=none->H dx=none->dx≠x->sp (.ref x::(vs++dvs)) (gD (gD H dx (.own x)) x (.ins C dx [])) (λv H2=>v=.non/\Q (.ref x) H2) E):
  wpAny (model X.prog X.w) X.A (call (.ref C) us) (EP X pins σ Q) X.xe s:=by
 have hq:=h (s.heap.objs.size+1) s.heap.objs.size (I.hok.fresh (le_succ _)) (I.hok.fresh (Nat.le_refl _)) (Nat.ne_of_lt (Nat.lt_succ_self _));have I2:=Inv.made (C:=C) I;have r2:Vals (V.ref (s.heap.objs.size+1)::(vs++dvs)) (Value.ref (s.heap.objs.size+1)::(us++ds)):=.cons rfl (r.append hd);have hl:(Value.ref (s.heap.objs.size+1)::us++ds).length=ps.length:=by have e:=r2.length;rw[F.len _ _ _ _ hq]at e;exact e.symm
 refine wpAny_call (YI (f:=f) I.kIn M.makes M.init (beq_iff_eq.mp M.fn) (codeAny_mono (F.run _ X.stack _ _ ⟨Value.ref (s.heap.objs.size+1)::us,[]⟩ (Value.ref (s.heap.objs.size+1)::(us++ds)) _ _ E (hr.make C us [])
  (I2.env0.make C us []) (hb _ (Value.ref (s.heap.objs.size+1)::us) I2.kIn hl) r2 hq) λr s' hq'=>?_))
 cases r with
 |error e=>exact hx pins σ _ _ e s' I2 hq'
 |ok fl=>
  cases fl with
  |ret u=>
   obtain⟨v,H',I3,rv,ev,q3⟩:=I2.after hq';subst ev;exact⟨rv,⟨V.ref (s.heap.objs.size+1),H',I3,rfl,q3⟩⟩
  |next=>exact False.elim hq'
  |brk=>exact False.elim hq'
  |cont=>exact False.elim hq'
def Ew(M:Mk X.K C f)(F:FnOk X.prog X.w X.K X.mg X.base CX k f fd ps sp)(hr:Room (k+1) X.A)(hg:Gl X x)(hm:X.mg x=some (.ref C))(hb:Binds X.K fd ps ds)(hd:Vals dvs ds)(hx:AI CX X E)
  (ha:PA X (e::es) t) (hdb:(x==("__debug__":Str))=false:=by decide) (he:starEach (e::es) X.env=(false,eval e X.env)::starEach es X.env:=by rfl) (hpl:(backTo pos (starEach es X.env)).any (·.1)=false:=by rfl):
  PE X (.Call (.Name x p) (e::es) [] pos) (Qx C sp dvs E t):=by
 intro pins s σ H Q I h;refine wpAny_Call_Name_kw (SL I hg hm ?_ hdb);refine PySem.W.callWith_K (h₀:=X.base) I.ok.mod.kin M.kp (jM (ha pos pins s σ H _ I h) λus s1 ⟨vs,H1,I1,r,q⟩=>⟨I1.kIn,?_⟩) he hpl;exact YK M F hr hb hd hx I1 r q
end
structure FnScope(N P:Vc)(sc:Scope):Prop where
 kind:sc.kind=.function
 co:sc.isCoroutine=false
 gen:sc.isGenerator=false
 nd:N.Nodup
 pre:N.take P.length=P
 par: ∀x∈P,sc.names.lookup x=some .local\/sc.names.lookup x=some .cell
 nofree: ∀y∈sc.names,y.2≠.free
def fsK{N P:Vc}{sc:Scope}(h:N.Nodup/\N.take P.length=P/\(∀x∈P,sc.names.lookup x=some .local\/sc.names.lookup x=some .cell)/\∀y∈sc.names,y.2≠.free)(a:sc.kind=.function:=by rfl)(b:sc.isCoroutine=false:=by rfl)(c:sc.isGenerator=false:=by rfl):FnScope N P sc:=⟨a,b,c,h.1,h.2.1,h.2.2.1,h.2.2.2⟩
theorem HN{kindOf:Str->Option NameKind}{x:Str}: ∀{binds:List (Str×Value)}{m:Vd},(∀v,(x,v)∉binds)->bindL kindOf binds m x=m x
 |[],_,_=>rfl
 |(n,v)::r,m,h=>by
  unfold bindL;rw[HN λw hw=>h w (mO _ hw)];split
  .have:x≠n:=by rintro rfl;exact h v mF0
   simp[this]
  .rfl
theorem HP{kindOf:Str->Option NameKind}{x:Str}: ∀{binds:List (Str×Value)}{m:Vd},(∀v,(x,v)∉binds)->bindC kindOf binds m x=m x
 |[],_,_=>rfl
 |(n,v)::r,m,h=>by
  unfold bindC;rw[HP λw hw=>h w (mO _ hw)];split
  .rfl
  .have:x≠n:=by rintro rfl;exact h v mF0
   simp[this]
theorem HQ{kindOf:Str->Option NameKind}{x:Str}{v:Value}: ∀{P:Vc}{vs:Uk}{i:Nat}{m:Vd},P.Nodup->P[i]? =some x->vs[i]? =some v->kindOf x=some .local->
  bindL kindOf (P.zip vs) m x=some v
 |[],_,_,_,_,h,_,_=>by simp at h
 |_::_,[],_,_,_,_,h,_=>by simp at h
 |p::P,w::vs,0,m,nd,h1,h2,hk=>by simp at h1 h2;subst h1;subst h2;show bindL kindOf ((p,w)::P.zip vs) m p=_;unfold bindL;rw[HN λv hv=>(nodup_cons.mp nd).1 (of_mem_zip hv).1,iP hk];simp
 |p::P,w::vs,i+1,m,nd,h1,h2,hk=>by show bindL kindOf ((p,w)::P.zip vs) m x=_;unfold bindL;exact HQ (i:=i) (nodup_cons.mp nd).2 (by simpa using h1) (by simpa using h2) hk
theorem HR{kindOf:Str->Option NameKind}{x:Str}{v:Value}: ∀{P:Vc}{vs:Uk}{i:Nat}{m:Vd},P.Nodup->P[i]? =some x->vs[i]? =some v->kindOf x≠some .local->
  bindC kindOf (P.zip vs) m x=some v
 |[],_,_,_,_,h,_,_=>by simp at h
 |_::_,[],_,_,_,_,h,_=>by simp at h
 |p::P,w::vs,0,m,nd,h1,h2,hk=>by simp at h1 h2;subst h1;subst h2;show bindC kindOf ((p,w)::P.zip vs) m p=_;unfold bindC;rw[HP λv hv=>(nodup_cons.mp nd).1 (of_mem_zip hv).1,iN hk];simp
 |p::P,w::vs,i+1,m,nd,h1,h2,hk=>by show bindC kindOf ((p,w)::P.zip vs) m x=_;unfold bindC;exact HR (i:=i) (nodup_cons.mp nd).2 (by simpa using h1) (by simpa using h2) hk
def start(N:Vc)(vs:List V):St:=vs.map some++List.replicate (N.length - vs.length) none
def QH(CX:VN)(P:Program)(w:World)(K:Vk)(mg:Vd)(base:Heap)(N:Vc)(qual:Str)(scope:Scope)(f:Addr)(cd:Value)(A:Around)(outer:List Env)(s:Shared)(H:Hp)(E:XK):Cx where
 prog:=P
 w:=w
 K:=K
 mg:=mg
 base:=base
 A:=A.deeper (envOfC qual scope s.heap.objs.size f cd)
 N:=N
 s₀:=s
 H₀:=H
 env:=envOfC qual scope s.heap.objs.size f cd
 outer:=outer
 stack:=envOfC qual scope s.heap.objs.size f cd::outer
 ex:=[]
 calm:=true
 fn:=λ_=>true
 pn:=[]
 xe:=λe s'=>wpAny (model P w) (A.deeper (envOfC qual scope s.heap.objs.size f cd)) (leaving (envOfC qual scope s.heap.objs.size f cd) e) (λ_ s''=>CX outer H s E e s'') (λe' s''=>CX outer H s E e' s'') s'
def MT{sc:Scope}{n:Nat}{x:Str}(h:sc.names.lookup x=some .cell): ∃c,(cellsFrom n sc.names []).lookup x=some c:=by have q:=PySem.W.cellsFrom_some sc.names n [] (.inl h);exact Option.isSome_iff_exists.mp q
def VO{CX:VN}{P:Program}{w:World}{K:Vk}{mg:Vd}{base:Heap}{N ps:Vc}{qual:Str}{scope:Scope}{f:Addr}{cd:Value}{A:Around}{outer:List Env}{s s1:Shared}{H:Hp}{E:XK}{us:Uk}{vs:List V}
  (S:FnScope N ps scope) (hd:A.handled=none) (e0:Env0 P w K mg base A outer s H) (hl:vs.length=ps.length) (r:Vals vs us)
  (x:InCallC s s.heap.objs.size (bindL (envOfC qual scope s.heap.objs.size f cd).kindOf (ps.zip us) λ_=>none) (cellsFrom (s.heap.objs.size+1) scope.names []) (bindC (envOfC qual scope s.heap.objs.size f cd).kindOf (ps.zip us) λ_=>none) s1):
  Inv (QH CX P w K mg base N qual scope f cd A outer s H E) [] (start N vs) H s1:=by
 have hpl:ps.length<=N.length:=by have:=congrArg List.length S.pre;rw[lT]at this;omega
 obtain⟨h1,tk,rfl,hk⟩:=x.done;have noA: ∀b:Addr,b∉(QH CX P w K mg base N qual scope f cd A outer s H E).ex:=λb z=>absurd (show b∈([]:Vb)from z) (by simp)
 refine⟨⟨e0.mod,S.kind,rfl,rfl,Nat.le_refl _,λy z c h1 h2=>?_,λy hy=>?_,λy c _ h=>?_,λ_=>hd,Around.frames_deeper e0.frames,.inr ⟨rfl,rfl⟩,λb z=>absurd z (noA b),e0.bs,e0.bsz,λb _ _=>noA b,λb z=>absurd z (noA b),e0.funs,e0.frf⟩,
  rfl,e0.bare,Un.kept hk,⟨_,x.toInCall.ns,λi y v h1 h2 h3=>?_⟩,λy c h=>⟨_,x.cell y c h⟩,e0.hok.fresh (Nat.le_refl _),λy c h=>?_,λp hp=>absurd (show p∈([]:Vg)from hp) (by simp),e0.hok.kept hk,?_⟩
 .exact name_of_addr x.apart (PySem.mem_of_lookup h1) (PySem.mem_of_lookup h2)
 .have hy:scope.names.lookup y=some .cell\/scope.names.lookup y=some .free:=hy;rcases hy with hy|hy
  .exact MT hy
  .exact absurd rfl (S.nofree _ (PySem.mem_of_lookup hy))
 .exact le_of_lt (x.above y c (PySem.mem_of_lookup h))
 .have hi:i<vs.length:=by
   unfold start at h2;by_cases hi:i<vs.length
   .exact hi
   .rw[getElem?_append_right (by simpa using hi)]at h2;rw[List.getElem?_replicate]at h2;split at h2<;>cases h2
  have ha:vs[i]? =some v:=by
   unfold start at h2;rw[getElem?_append_left (by simpa using hi),getElem?_map]at h2
   cases e:vs[i]? with
   |none=>rw[e]at h2;cases h2
   |some a=>rw[e]at h2;cases h2;rfl
  obtain⟨u,hu,rv⟩:=r.get ha;have hp:ps[i]? =some y:=by rw[<-S.pre,getElem?_take_of_lt (by omega)];exact h1
  have ndP:ps.Nodup:=by rw[<-S.pre];exact S.nd.sublist (List.take_sublist _ _)
  refine⟨u,rv,?_⟩;rcases S.par y (mem_of_getElem? hp)with k|k
  .exact .inl ⟨k,HQ ndP hp hu k⟩
  .obtain⟨c,e⟩:=MT (n:=s.heap.objs.size+1) k;refine .inr ⟨.inl k,c,e,?_⟩;have q:=x.cell y c e;rw[HR ndP hp hu (by show scope.names.lookup y≠_;rw[k];decide)]at q;exact q
 .exact e0.hok.fresh (le_of_lt (x.above y c (PySem.mem_of_lookup h)))
 .unfold start;show _=N.length;rw[lA,lM,List.length_replicate];omega
def Qy{CX:VN}{P:Program}{w:World}{K:Vk}{mg:Vd}{base:Heap}{k:Nat}{f:Addr}{name qual:Str}{params:Arguments}{body:List Stmt}{scope:Scope}{dV kV doc pm cdv ct oc:Value}{an od:Option Addr}
  {osl:Array (Option Value)} {N ps:Vc} {sp:Sp} (lk:K.lookup f=some ⟨oc,od,.func (PySem.W.fnOf name qual params body scope dV kV doc pm an cdv ct),osl⟩) (hcd:PySem.W.codeIn K cdv qual=true) (S:FnScope N ps scope)
  (len: ∀vs H Q E,sp vs H Q E->vs.length=ps.length)
  (hbody: ∀(A:Around)(outer:List Env)(s:Shared)(H:Hp)(vs:List V)(Q:VK)(E:XK),Room k (A.deeper (envOfC qual scope s.heap.objs.size f cdv))->sp vs H Q E->
   ∃t,PSs (QH CX P w K mg base N qual scope f cdv A outer s H E) body t/\t {nx:=λ_ H'=>Q .non H',rt:=Q} (start N vs) H):
  FnOk P w K mg base CX (k+1) f (PySem.W.fnOf name qual params body scope dV kV doc pm an cdv ct) ps sp:=by
 refine⟨len,λA outer s H args us vs Q E hr e0 hb r hsp=>?_⟩;have hl:=len _ _ _ _ hsp;have KX:K.In s.heap:=e0.mod.kin.keeps λb o e=>(e0.bs b o e).1;have lim:s.heap.NoLimit:=e0.mod.nolimit.keeps λb o e=>(e0.bs b o e).1
 have hkind: ∀y∈ps.zip us,scope.names.lookup y.1=some .local\/(scope.names.lookup y.1=some .cell/\((cellsFrom (s.heap.objs.size+1) scope.names []).lookup y.1).isSome=true):=λ⟨n,v⟩ hy=>by
  rcases S.par n (of_mem_zip hy).1 with q|q
  .exact .inl q
  .exact .inr ⟨q,PySem.W.cellsFrom_some _ _ _ (.inl q)⟩
 refine codeAny_call_function hr.depth (KX _ _ lk) rfl S.co S.gen rfl (PySem.W.codeRec_of KX hcd) (hb _ _ _ _ ?_);refine wpAny_newFunctionEnv_cells S.kind hkind λenv he s1 x=>?_;subst he;refine⟨lim.keeps x.toInCall.keep,codeAny_func ?_⟩;obtain⟨t,ht,hq⟩:=hbody A outer s H vs Q E (hr.deeper _) hsp;have I:Inv (QH CX P w K mg base N qual scope f cdv A outer s H E) [] (start N vs) H s1:=VO S hr.hd e0 hl r x;refine wpAny_mono (ht [] s1 (start N vs) H _ I hq) (λfl s' hs=>?_) λe s' hs=>hs
 have fin: ∀{σ':St}{H':Hp}{v:V}{u:Value},Inv (QH CX P w K mg base N qual scope f cdv A outer s H E) [] σ' H' s'->RelV v u->Q v H'->CE outer P w H s Q u s':=
  λ{σ' H' v u} J rv q=>⟨v,H',J.os,J.bare,J.base,J.hok,rv,q⟩
 cases fl with
 |ret u=>
  obtain⟨v,σ',H',J,rv,q⟩:=hs;exact fin J rv q
 |next=>
  obtain⟨σ',H',J,q⟩:=hs;exact fin (v:=V.non) (u:=Value.none) J rfl q
 |brk=>
  obtain⟨_,_,_,q⟩:=hs;exact False.elim q
 |cont=>
  obtain⟨_,_,_,q⟩:=hs;exact False.elim q
section
variable{X:Cx}{x:Str}{p pos:Pos}{e:Expr}{es:Vj}{t:TA}{id T:String}{r:List V->Hp->VK->Prop}
def tCB(r:List V->Hp->VK->Prop)(t:TA):TE:=λσ H Q=>t σ H λvs H1=>r vs H1 Q
def YL(hc:CallR X (.builtin id) r)(hg:Gl X x)(hm:X.mg x=none)(hv:bootBuiltins x=some (.builtin id))(ha:PA X (e::es) t)(hn:x≠"__name__":=by decide)(hdb:(x==("__debug__":Str))=false:=by decide)
  (he:starEach (e::es) X.env=(false,eval e X.env)::starEach es X.env:=by rfl) (hpl:(backTo pos (starEach es X.env)).any (·.1)=false:=by rfl):PE X (.Call (.Name x p) (e::es) [] pos) (tCB r t):=by
 intro pins s σ H Q I h;refine wpAny_Call_Name_kw (AD I hg hm hv ?_ hn hdb);exact PyProof.Rows.callWith_builtin1 (jM (ha pos pins s σ H _ I h) λus s1 ⟨vs,H1,I1,r1,q1⟩=>hc pins s1 σ H1 vs us Q I1 r1 q1) he hpl
def VR(hc:CallR X (.type T) r)(hg:Gl X x)(hm:X.mg x=none)(hv:bootBuiltins x=some (.type T))(ha:PA X (e::es) t)(hn:x≠"__name__":=by decide)(hdb:(x==("__debug__":Str))=false:=by decide)
  (he:starEach (e::es) X.env=(false,eval e X.env)::starEach es X.env:=by rfl) (hpl:(backTo pos (starEach es X.env)).any (·.1)=false:=by rfl):PE X (.Call (.Name x p) (e::es) [] pos) (tCB r t):=by
 intro pins s σ H Q I h;refine wpAny_Call_Name_kw (AD I hg hm hv ?_ hn hdb);exact PyProof.Rows.callWith_type1 (jM (ha pos pins s σ H _ I h) λus s1 ⟨vs,H1,I1,r1,q1⟩=>hc pins s1 σ H1 vs us Q I1 r1 q1) he hpl
end
end L2
namespace HT
open PySem PyProof.Rows
section
variable{prog:Program}{w:World}{A:Around}{E:VP}{s:Shared}
def cat_tup{t b:Addr}{vs ws:Uk}{Q:VP}(ht:IsTup s.heap t vs.toArray)(hb:IsTup s.heap b ws.toArray)(hv:vs≠[])
  (h1:ws=[]->Q (.ref t) s) (h2:ws≠[]->Q (.ref s.heap.objs.size) {s with heap:=s.heap.push {cls:=.type "tuple",data:=.seq (vs++ws).toArray}})
  (hsz:vs.length+ws.length<=sizeLine):wpAny (model prog w) A (binaryOp .Add (.ref t) (.ref b)) Q E s:=by
 obtain⟨⟨cls,dd,data,sl⟩,ho,hc,n,hd⟩:=id ht;obtain⟨⟨cls2,dd2,data2,sl2⟩,ho2,hc2,n2,hd2⟩:=id hb;simp only at hc hd hc2 hd2;subst hc hd hc2 hd2;have e:vs.toArray++ws.toArray=(vs++ws).toArray:=by simp
 by_cases hw:ws=[]
 .exact concat_meets ⟨_,ho,rfl⟩ ⟨_,ho2,rfl⟩ noFill_tuple_add seq_tuple_add PySem.F.slot_tuple_add PySem.F.entry_tuple_add (PySem.F.args_tuple_add_2 _ _)
   (tuple_addW1 t b vs.toArray ws.toArray n n2 dd dd2 sl sl2 (by simpa using hv) (by simp[hw])) ⟨ho,ho2,h1 hw⟩
 .refine concat_meets ⟨_,ho,rfl⟩ ⟨_,ho2,rfl⟩ noFill_tuple_add seq_tuple_add PySem.F.slot_tuple_add PySem.F.entry_tuple_add (PySem.F.args_tuple_add_2 _ _)
   (tuple_addW2 t b vs.toArray ws.toArray n n2 dd dd2 sl sl2 (by simpa using hv) (by simpa using hw) (by rw[sA,sA];exact hsz)) ⟨ho,ho2,?_⟩
  rw[e];exact h2 hw
def sIx(n d:Nat):Option Int->Nat
 |none=>d
 |some v=>if v<0 then(v+(n:Int)).toNat else min v.toNat n
def sIx_nat(n d k:Nat):sIx n d (some (k:Int))=min k n:=by show(if(k:Int)<0 then((k:Int)+(n:Int)).toNat else min (k:Int).toNat n)=min k n;rw[iN (by omega),Int.toNat_natCast]
def sIx_le(n d:Nat)(hd:d<=n)(o:Vi):sIx n d o<=n:=by
 cases o with
 |none=>exact hd
 |some v=>
  show(if v<0 then(v+(n:Int)).toNat else min v.toNat n)<=n;by_cases hv:v<0
  .rw[iP hv];omega
  .rw[iN hv];exact Nat.min_le_right _ _
def SN(v:Int)(n d:Nat):(if v<0 then max (v+(n:Int)) 0 else min v (n:Int))=((sIx n d (some v):Nat):Int):=by
 show(if v<0 then max (v+(n:Int)) 0 else min v (n:Int))=(((if v<0 then(v+(n:Int)).toNat else min v.toNat n):Nat):Int)
 by_cases hv:v<0
 .simp only[iP hv];omega
 .simp only[iN hv];omega
def QI(lo hi:Vi)(n:Nat):Builtin.Slice.sliceAdjust lo hi 1 (n:Int)=(((sIx n 0 lo:Nat):Int),((sIx n n hi:Nat):Int)):=by
 have h1: ¬((1:Int)<0):=by omega
 unfold Builtin.Slice.sliceAdjust;simp only[h1,iF];refine Prod.ext ?_ ?_
 .cases lo with
  |none=>rfl
  |some v=>exact SN v n 0
 .cases hi with
  |none=>rfl
  |some v=>exact SN v n n
def QJ(i j:Nat):Builtin.Slice.slicePlaces (i:Int) (j:Int) 1=j - i:=by
 unfold Builtin.Slice.slicePlaces;have h1:(1:Int)>0:=by omega
 simp only[h1,if_true,Int.ediv_one];split<;>omega
def DP{v:Value}{o:Vi}{Q:Option Int->Shared->Prop}(p:IsPart v o)(h:Q o s):wpAny (model prog w) A (Builtin.Slice.slicePartIndex v) Q E s:=by
 cases p with
 |none=>exact slicePart_none h
 |int i t=>exact slicePart_int h
def sliceApplied_gen{sl:Addr}{vl vu:Value}{lo hi:Vi}{n:Nat}{Q:Int×Int×Nat->Shared->Prop}(hs:s.heap.IsSliceOf sl vl vu .none)(pl:IsPart vl lo)(pu:IsPart vu hi)
  (h:Q (((sIx n 0 lo:Nat):Int),1,sIx n n hi - sIx n 0 lo) s):wpAny (model prog w) A (Builtin.Slice.sliceApplied (.ref sl) (pure (n:Int))) Q E s:=by
 obtain⟨os,hos,hcs,hds⟩:=id hs;unfold Builtin.Slice.sliceApplied Builtin.Slice.sliceFields;refine wB (wB (wpAny_field hos hds (x:=vl) rfl (wB (wpAny_field hos hds (x:=vu) rfl (wB (wpAny_field hos hds (x:=.none) rfl (wP ?_)))))));refine wB (slicePart_none ?_);show wpAny _ _ (if((1:Int)==0)=true then _ else _) _ _ s;rw[iN (by decide)];refine wB (DP pl (wB (DP pu (wB (wP ?_)))));show wpAny _ _ (match Builtin.Slice.sliceAdjust lo hi 1 (n:Int)with |(lo,hi)=>pure (lo,(1:Int),Builtin.Slice.slicePlaces lo hi 1)) _ _ s;rw[QI lo hi n];show wpAny _ _ (pure (((sIx n 0 lo:Nat):Int),(1:Int),Builtin.Slice.slicePlaces ((sIx n 0 lo:Nat):Int) ((sIx n n hi:Nat):Int) 1)) _ _ s;rw[QJ];exact wP h
def YM(xs:Va)(i k:Nat):((List.range k).filterMap λ(m:Nat)=>xs[((i:Int)+(m:Int) * 1).toNat]?).toArray=((xs.toList.drop i).take k).toArray:=by
 have e:(λ(m:Nat)=>xs[((i:Int)+(m:Int) * 1).toNat]?)=λm=>xs[i+m]? :=by
  funext m;have:((i:Int)+(m:Int) * 1).toNat=i+m:=by omega
  rw[this]
 rw[e];have:=pick_run xs i k;rw[List.filterMap_map]at this;have e2:((λx=>xs[x]?)∘λx=>i+x)=λm=>xs[i+m]? :=rfl;rw[e2]at this;rw[this]
def getItem_tuple_cut{t sl:Addr}{items:Va}{vl vu:Value}{lo hi:Vi}{Q:VP}(ht:IsTup s.heap t items)(hs:s.heap.IsSliceOf sl vl vu .none)(pl:IsPart vl lo)(pu:IsPart vu hi)
  (hw: ¬(sIx items.size 0 lo=0/\sIx items.size items.size hi=items.size))
  (h:Q (.ref s.heap.objs.size) {s with heap:=s.heap.push {cls:=.type "tuple",data:=.seq ((items.toList.drop (sIx items.size 0 lo)).take (sIx items.size items.size hi - sIx items.size 0 lo)).toArray}})
  (hsz:items.size<=sizeLine):wpAny (model prog w) A (getItem (.ref t) (.ref sl)) Q E s:=by
 have htake:sizeOk (.seq ((items.toList.drop (sIx items.size 0 lo)).take (sIx items.size items.size hi - sIx items.size 0 lo)).toArray):=by show((items.toList.drop (sIx items.size 0 lo)).take (sIx items.size items.size hi - sIx items.size 0 lo)).toArray.size<=sizeLine;rw[sA,lT,List.length_drop,Array.length_toList];omega
 have hj:sIx items.size items.size hi<=items.size:=sIx_le _ _ (Nat.le_refl _) hi;obtain⟨os,hos,hcs,hds⟩:=id hs;have hTs:s.TypeIs (.ref sl) "slice":=⟨os,hos,hcs⟩
 unfold getItem
 try with_reducible refine wpAny_holding ?_
 first |refine wB (wP ?_)|skip
 refine wB (wpAny_sequenceKey ht.typeIs (by decide) ?_)
 refine wB (wpAny_callSpecial?_slot (name:=Str.ofString "__getitem__") ht.typeIs PyProof.Rows.slot_tuple_getitem
  (wpAny_call_entry PyProof.Rows.slot_tuple_getitem ht.typeIs entry_tuple_getitem ?_ (args_tuple_getitem _ _)))
 show wpAny _ _ (Builtin.Tuple.tupleItemsOf (.ref t) >>= _) _ _ s;refine wB (tupleItemsOf_ ht ?_);refine wB (wpAny_typeOf hTs ?_);rw[iP (by decide)];refine wB (sliceApplied_gen hs pl pu ?_);have hno: ¬((((sIx items.size 0 lo:Nat):Int)==0&&(1:Int)==1&&(sIx items.size items.size hi - sIx items.size 0 lo)==items.size)=true):=by intro q;rw[aE,aE]at q;have q1:((sIx items.size 0 lo:Nat):Int)=0:=eq_of_beq q.1.1;have q2:sIx items.size items.size hi - sIx items.size 0 lo=items.size:=eq_of_beq q.2;exact hw ⟨by omega,by omega⟩
 show wpAny _ _ (if(((sIx items.size 0 lo:Nat):Int)==0&&(1:Int)==1&&(sIx items.size items.size hi - sIx items.size 0 lo)==items.size)=true then _ else _) _ _ s;rw[iN hno,YM]
 first
  |exact wB (m:=Builtin.Tuple.tupleExact _) (wpAny_newObj_type (wP ⟨_,rfl,wP h⟩) htake)
  |exact wB (m:=Builtin.Tuple.tupleExact _) (wpAny_newObj_type (wB (wP (wP ⟨_,rfl,wP h⟩))) htake)
  |exact wB (wB (m:=Builtin.Tuple.tupleExact _) (wpAny_newObj_type (wP (wP ⟨_,rfl,wP h⟩)) htake))
  |exact wB (wB (m:=Builtin.Tuple.tupleExact _) (wpAny_newObj_type (wP ⟨_,rfl,wP h⟩) htake))
end
end HT
namespace L2
open PySem PySem.Spec PyProof.Rows
abbrev TO:=St->Hp->(Option Int->Hp->Prop)->Prop
def PO(X:Cx)(e:Option Expr)(t:TO):Prop:=
 ∀(pins:Vg)(s:Shared)(σ:St)(H:Hp)(Q:Option Int->Hp->Prop),Inv X pins σ H s->t σ H Q->
  wpAny (model X.prog X.w) X.A (evalPart e X.env) (λu s'=> ∃o H',Inv X pins σ H' s'/\IsPart u o/\Q o H') X.xe s
def Ex:TO:=λ_ H Q=>Q none H
def Qz(t:TE):TO:=λσ H Q=>t σ H λx H1=> ∃i,x=.int i/\Q (some i) H1
section
variable{X:Cx}{e:Expr}{te:TE}{lo hi:Option Expr}{tl th:TO}{pos p2:Pos}
def Ey:PO X none Ex:=by intro pins s σ H Q I h;rw[evalPart_none];exact wP ⟨none,H,I,.none,h⟩
def Ez(h:PE X e te):PO X (some e) (Qz te):=by intro pins s σ H Q I hw;rw[evalPart_some];refine jM (h pins s σ H _ I hw) λu s1 ⟨x,H1,I1,r1,q1⟩=>?_;obtain⟨i,rfl,q⟩:=q1;obtain⟨t,rfl⟩:=r1;exact⟨some i,H1,I1,.int i t,q⟩
def SlR(X:Cx)(r:V->Option Int->Option Int->Hp->VK->Prop):Prop:=
 ∀(pins:Vg)(s:Shared)(σ:St)(H:Hp)(x:V)(v vl vu:Value)(lo hi:Vi)(sl:Addr)(Q:VK),Inv X pins σ H s->RelV x v->s.heap.IsSliceOf sl vl vu .none->IsPart vl lo->IsPart vu hi->r x lo hi H Q->
  ∃T id,typeLookup (.type T) "__getitem__"=pure (some (.builtin id))/\s.TypeIs v T/\wpAny (model X.prog X.w) X.A (getItem v (.ref sl)) (EP X pins σ Q) X.xe s
def SlR.or{r r':V->Option Int->Option Int->Hp->VK->Prop}(h:SlR X r)(h':SlR X r'):SlR X (λx lo hi H Q=>r x lo hi H Q\/r' x lo hi H Q):=by
 intro pins s σ H x v vl vu lo hi sl Q I rx hs pl pu q;rcases q with q|q
 .exact h pins s σ H x v vl vu lo hi sl Q I rx hs pl pu q
 .exact h' pins s σ H x v vl vu lo hi sl Q I rx hs pl pu q
def tSl(r:V->Option Int->Option Int->Hp->VK->Prop)(te:TE)(tl th:TO):TE:=λσ H Q=>te σ H λx H1=>tl σ H1 λl H2=>th σ H2 λu H3=>r x l u H3 Q
def YN{r:V->Option Int->Option Int->Hp->VK->Prop}(hr:SlR X r)(he:PE X e te)(hl:PO X lo tl)(hu:PO X hi th):PE X (.Subscript e (.Slice lo hi none p2) pos) (tSl r te tl th):=by intro pins s σ H Q I h;refine Subscript_ (jM (he pins s σ H _ I h) λv s1 ⟨x,H1,I1,r1,q1⟩=>?_);refine wpAny_Slice (jM (hl pins s1 σ H1 _ I1 q1) λvl s2 ⟨l,H2,I2,pl,q2⟩=>jM (hu pins s2 σ H2 _ I2 q2) λvu s3 ⟨u,H3,I3,pu,q3⟩=>?_);rw[evalPart_none];refine wP ?_;have I4:Inv X pins σ H3 {s3 with heap:=s3.heap.push {cls:=.type "slice",data:=.fields #[vl,vu,.none]}}:=I3.kept (t':=s3.toks) λb ob q=>hP0 _ q;obtain⟨T,id,hT,ht,hg⟩:=hr pins {s3 with heap:=s3.heap.push {cls:=.type "slice",data:=.fields #[vl,vu,.none]}} σ H3 x v vl vu l u s3.heap.objs.size Q I4 r1 (Heap.IsSliceOf.new ..) pl pu q3;show wpAny (model X.prog X.w) X.A (subscriptTail e (.Slice lo hi none p2) v (.ref s3.heap.objs.size)) (EP X pins σ Q) X.xe {s3 with heap:=s3.heap.push {cls:=.type "slice",data:=.fields #[vl,vu,.none]}};exact tail_any (ops:=[.ref s3.heap.objs.size,v]) ht hT hg (by with_unfolding_all rfl)
def MU(xs:List V)(lo hi:Vi):List V:=(xs.drop (HT.sIx xs.length 0 lo)).take (HT.sIx xs.length xs.length hi - HT.sIx xs.length 0 lo)
def BQ(xs:List V)(lo hi:Vi):(MU xs lo hi).length<=xs.length:=by unfold MU;rw[lT,List.length_drop];omega
def rSlT(K:Vk):V->Option Int->Option Int->Hp->VK->Prop:=λx lo hi H Q=> ∃a xs,x=.ref a/\SqT K H a xs/\
 ¬(HT.sIx xs.length 0 lo=0/\HT.sIx xs.length xs.length hi=xs.length)/\ ∀p,H p=none->Q (.ref p) (gD H p (.tup (MU xs lo hi)))
def Mb:SlR X (rSlT X.K):=by
 intro pins s σ H x v vl vu lo hi sl Q I rx hs pl pu h;obtain⟨a,xs,rfl,hx,hw,q⟩:=h;cases rx;obtain⟨its,r,ht,hz⟩:=I.tuple hx;have hlen:its.toArray.size=xs.length:=by rw[sA];exact r.length.symm
 refine⟨"tuple",_,PyProof.Rows.slot_tuple_getitem.lookup,ht.typeIs,?_⟩;refine HT.getItem_tuple_cut ht hs pl pu (by rw[hlen];exact hw) ?_ (by rw[hlen];exact hz);rw[hlen];refine⟨.ref s.heap.objs.size,_,I.laid (t':=s.toks) (o:=.tup (MU xs lo hi)) (λb ob q=>hP0 _ q) (Nat.le_refl _) ?_,rfl,q _ (I.hok.fresh (Nat.le_refl _))⟩;exact⟨Nat.le_trans (BQ xs lo hi) hz,_,(r.drop (HT.sIx xs.length 0 lo)).take (HT.sIx xs.length xs.length hi - HT.sIx xs.length 0 lo),IsTup.new _ _⟩
def Ra(K:Vk):R2:=λx y H Q=> ∃a b xs ys,x=.ref a/\y=.ref b/\SqT K H a xs/\SqT K H b ys/\xs≠[]/\xs.length+ys.length<=sizeLine/\
 (ys=[]->Q (.ref a) H)/\(ys≠[]-> ∀p,H p=none->Q (.ref p) (gD H p (.tup (xs++ys))))
def Vals.nil_iff{xs:List V}{us:Uk}(r:Vals xs us):us=[]↔xs=[]:=by
 cases r with
 |nil=>simp
 |cons _ _=>simp
def Fa:OpR X (binaryOp .Add) (Ra X.K):=by intro pins s σ H x y v u Q I rx ry h;obtain⟨a,b,xs,ys,rfl,rfl,ha,hb,hx,hz,q1,q2⟩:=h;cases rx;cases ry;obtain⟨its,r1,p1,_⟩:=I.tuple ha;obtain⟨its2,r2,p2,_⟩:=I.tuple hb;refine HT.cat_tup p1 p2 (λz=>hx (r1.nil_iff.mp z)) (λz=>⟨.ref a,H,I,rfl,q1 (r2.nil_iff.mp z)⟩) (λz=>?_) (by rw[<-r1.length, <-r2.length];exact hz);refine⟨.ref s.heap.objs.size,_,I.laid (t':=s.toks) (o:=.tup (xs++ys)) (λb ob q=>hP0 _ q) (Nat.le_refl _) ?_,rfl,q2 (λw=>z (r2.nil_iff.mpr w)) _ (I.hok.fresh (Nat.le_refl _))⟩;exact⟨by rw[lA];exact hz,_,r1.append r2,IsTup.new _ _⟩
end
def MW(n:Nat)(i:Int):Option Nat:=if 0<=i then(if i<n then some i.toNat else none)else if -(n:Int)<=i then some (i+n).toNat else none
def tM{α:Type}(xs:List α)(i:Int):Option α:=(MW xs.length i).bind λj=>xs[j]?
def SO{n:Nat}{i:Int}{j:Nat}(h:MW n i=some j):seqIndex? i n=some j/\j<n/\ -(n:Int)<=i/\i<n:=by
 unfold MW at h;by_cases h0:0<=i
 .rw[iP h0]at h;by_cases h1:i<n
  .rw[iP h1]at h;have e:i.toNat=j:=Option.some.inj h;exact⟨by rw[seqIndex_of h0 h1,e],by omega,by omega,h1⟩
  .rw[iN h1]at h;cases h
 .rw[iN h0]at h;by_cases h1: -(n:Int)<=i
  .rw[iP h1]at h;have e:(i+n).toNat=j:=Option.some.inj h;exact⟨by rw[seqIndex_neg (by omega) h1,e],by omega,h1,by omega⟩
  .rw[iN h1]at h;cases h
def JK{α:Type}{xs:List α}{i:Int}{v:α}(h:tM xs i=some v): ∃j,seqIndex? i xs.length=some j/\xs[j]? =some v/\j<xs.length/\ -(xs.length:Int)<=i/\i<xs.length:=by
 unfold tM at h
 cases e:MW xs.length i with
 |none=>rw[e]at h;cases h
 |some j=>
  rw[e]at h;obtain⟨h1,h2,h3,h4⟩:=SO e;exact⟨j,h1,h,h2,h3,h4⟩
def atI_nat{α:Type}{xs:List α}{j:Nat}{v:α}(h:xs[j]? =some v):tM xs (j:Int)=some v:=by
 have hj:j<xs.length:=(gS.mp h).1;have e:MW xs.length (j:Int)=some j:=by unfold MW;rw[iP (by omega),iP (by omega)];simp
 unfold tM;rw[e];exact h
def uV(b:Expr):Prop:= ∀o i,subscripted b false o i=operate [o,i] (getItem o i)
def IxR(X:Cx)(r:R2):Prop:=
 ∀(value slice:Expr)(pins:Vg)(s:Shared)(σ:St)(H:Hp)(x y:V)(v u:Value)(Q:VK),Inv X pins σ H s->RelV x v->RelV y u->r x y H Q->
  subscripted slice false v u=operate [v,u] (getItem v u)->wpAny (model X.prog X.w) X.A (subscriptTail value slice v u) (EP X pins σ Q) X.xe s
def Fc(X:Cx)(id:String)(r:V->List V->Hp->VK->Prop):Prop:=
 ∀(pins:Vg)(s:Shared)(σ:St)(H:Hp)(x:V)(xs:List V)(v:Value)(us:Uk)(Q:VK),Inv X pins σ H s->RelV x v->Vals xs us->r x xs H Q->
  wpAny (model X.prog X.w) X.A (call (.builtin id) (v::us)) (EP X pins σ Q) X.xe s
section
variable{X:Cx}{a b:Expr}{ta tb:TE}{pos:Pos}
def IxR.or{r r':R2}(h:IxR X r)(h':IxR X r'):IxR X (λx y H Q=>r x y H Q\/r' x y H Q):=by
 intro value slice pins s σ H x y v u Q I rx ry q hs;rcases q with q|q
 .exact h value slice pins s σ H x y v u Q I rx ry q hs
 .exact h' value slice pins s σ H x y v u Q I rx ry q hs
def Rb{r:R2}(hr:IxR X r)(ha:PE X a ta)(hb:PE X b tb)(hs:uV b):PE X (.Subscript a b pos) (Tz r ta tb):=by intro pins s σ H Q I h;exact Subscript_ (Lp ha hb I h λv u s2 x y H2 I2 rx ry q=>hr a b pins s2 σ H2 x y v u Q I2 rx ry q (hs _ _))
def Re(K:Vk):R2:=λx y H Q=> ∃p xs i v,x=.ref p/\y=.int i/\SqL K H p xs/\tM xs i=some v/\Q v H
def Rf(K:Vk):R2:=λx y H Q=> ∃p xs i v,x=.ref p/\y=.int i/\SqT K H p xs/\tM xs i=some v/\Q v H
def Rg:R2:=λx y H Q=> ∃z i c,x=.str z/\y=.int i/\z.length<=sizeLine/\tM z.cps.toList i=some c/\Q (.str ⟨#[c]⟩) H
def Fd:IxR X (Re X.K):=by
 intro value slice pins s σ H x y v u Q I rx ry h hs;obtain⟨p,xs,i,z,rfl,rfl,hq,he,q⟩:=h;cases rx;obtain⟨t,rfl⟩:=ry;obtain⟨its,r,pl,hz⟩:=I.list hq;obtain⟨j,h1,h2,h3,h4,h5⟩:=JK he;obtain⟨w,ew,rw'⟩:=r.get h2;have hl:=r.length;have hn:=tY;have fin:EP X pins σ Q w s:=⟨z,H,I,rw',q⟩
 by_cases h0:0<=i
 .have hj:i.toNat=j:=by rw[seqIndex_of h0 h5]at h1;exact Option.some.inj h1
  exact item_listR pl.isList h0 (by omega) (by rw[hj];simpa using ew) fin hs
 .have hj:(i+(its.toArray.size:Int)).toNat=j:=by rw[seqIndex_neg (by omega) h4]at h1;rw[sA, <-hl];exact Option.some.inj h1
  exact subscriptTail_builtinR (x:=w) pl.isList.typeIs slot_list_getitem.lookup
   (wpAny_getItem_list_neg (Q:=λr s'=>r=w/\EP X pins σ Q r s') pl.isList (by omega) (by rw[sA]<;>omega) (by omega) (by rw[hj];simpa using ew) ⟨rfl,fin⟩) hs
def ix_tup:IxR X (Rf X.K):=by
 intro value slice pins s σ H x y v u Q I rx ry h hs;obtain⟨p,xs,i,z,rfl,rfl,hq,he,q⟩:=h;cases rx;obtain⟨t,rfl⟩:=ry;obtain⟨its,r,pl,hz⟩:=I.tuple hq;obtain⟨j,h1,h2,h3,h4,h5⟩:=JK he;obtain⟨w,ew,rw'⟩:=r.get h2;have hl:=r.length;have hn:=tY;have fin:EP X pins σ Q w s:=⟨z,H,I,rw',q⟩
 exact subscriptTail_builtinR (x:=w) pl.typeIs slot_tuple_getitem.lookup
  (getItem_tuple (j:=j) (Q:=λr s'=>r=w/\EP X pins σ Q r s') pl (by omega) (by omega) (by rw[sA, <-hl];exact h1) (by simpa using ew) ⟨rfl,fin⟩) hs
def ix_str:IxR X Rg:=by
 intro value slice pins s σ H x y v u Q I rx ry h hs;obtain⟨z,i,c,rfl,rfl,hz,he,q⟩:=h;obtain⟨t,rfl⟩:=rx;obtain⟨t',rfl⟩:=ry;obtain⟨j,h1,h2,h3,h4,h5⟩:=JK he;have hl:z.cps.toList.length=z.length:=by simp[Str.length]
 rw[hl]at h1 h4 h5;have hn:=tY;exact tail_any (typeIs_str s z t) slot_str_getitem.lookup (getItem_str (c:=c) (by have e1:decide (i< -(2 ^ 63:Int))=false:=dF0 (by omega);have e2:decide (i>=2 ^ 63)=false:=dF0 (by omega);rw[e1,e2,Bool.or_false]) (by rw[h1];simpa using h2) ⟨.str ⟨#[c]⟩,H,I.tok _,⟨_,rfl⟩,q⟩) hs
def rIx(K:Vk):R2:=λx y H Q=>Re K x y H Q\/Rf K x y H Q\/Rg x y H Q
def Mc:IxR X (rIx X.K):=Fd.or (ix_tup.or ix_str)
def QK(its:Uk)(n j:Nat)(u:Value):Obj.mapSeq (·.setIfInBounds j u) {cls:=.type "list",data:=.seq its.toArray n}={cls:=.type "list",data:=.seq (its.set j u).toArray n}:=by simp[Obj.mapSeq]
def Inv.lst{pins:Vg}{σ:St}{H:Hp}{s:Shared}{p:Addr}{xs:List V}(I:Inv X pins σ H s)(h:H p=some (.lst xs)):
  ∃(its:Uk)(n:Nat),Vals xs its/\s.heap.get? p=some {cls:=.type "list",data:=.seq its.toArray n}/\xs.length<=sizeLine:=by
 obtain⟨z,its,n,r,e⟩:=I.hok p _ h;exact⟨its,n,r,e,z⟩
def Inv.lstUpd{pins:Vg}{σ:St}{H:Hp}{s:Shared}{p:Addr}{xs ys:List V}{its its':Uk}{n n':Nat}{f:Obj->Obj}(I:Inv X pins σ H s)(h:H p=some (.lst xs))
  (ho:s.heap.get? p=some {cls:=.type "list",data:=.seq its.toArray n}) (hf:f {cls:=.type "list",data:=.seq its.toArray n}={cls:=.type "list",data:=.seq its'.toArray n'}) (r:Vals ys its') (hz:ys.length<=sizeLine) (t:Nat):
  Inv X pins σ (gD H p (.lst ys)) {s with heap:=s.heap.update p f,toks:=t}:=by
 have e:(s.heap.update p f).get? p=some {cls:=.type "list",data:=.seq its'.toArray n'}:=by rw[Heap.get?_update_self f ho (by rw[hf]<;>rfl),hf]
 refine I.write (x:=p) (e:=p) (by rw[h];trivial) (.inl rfl) (λb u hb q=>(Heap.get?_update_other _ _ (Ne.symm hb)).trans q) ⟨_,e⟩ ?_;exact⟨hz,its',n',r,e⟩
def Rh:V->V->V->Hp->(Hp->Prop)->Prop:=λo i v H Q=> ∃p xs k j,o=.ref p/\i=.int k/\H p=some (.lst xs)/\MW xs.length k=some j/\Q (gD H p (.lst (xs.set j v)))
def set_list:Eh X Rh:=by
 intro pins s σ H o i v ov iv u Q I ro ri rv h;obtain⟨p,xs,k,j,rfl,rfl,hp,hj,q⟩:=h;cases ro;obtain⟨t,rfl⟩:=ri;obtain⟨its,n,r,ho,hz⟩:=I.lst hp;obtain⟨h1,h2,h3,h4⟩:=SO hj;have hl:=r.length;have hn:=tY
 have I':Inv X pins σ (gD H p (.lst (xs.set j v))) {s with heap:=s.heap.update p (Obj.mapSeq (·.setIfInBounds j u))}:=
  I.lstUpd hp ho (QK its n j u) (r.set rv j) (by rw[List.length_set];exact hz) s.toks
 by_cases h0:0<=k
 .have hk:k.toNat=j:=by rw[seqIndex_of h0 h4]at h1;exact Option.some.inj h1
  exact PySem.W.ki_setAt ho h0 (by omega) (by rw[sA, <-hl];exact h4) (by rw[hk];exact⟨_,I',q⟩)
 .have hk:(k+(its.toArray.size:Int)).toNat=j:=by rw[seqIndex_neg (by omega) h3]at h1;rw[sA, <-hl];exact Option.some.inj h1
  exact PySem.W.ki_setBack ho (by omega) (by rw[sA, <-hl];exact h3) (by omega) (by rw[hk];exact⟨_,I',q⟩)
def JL(lo hi:Vi)(n:Nat):(sliceBounds lo hi none n).1=((HT.sIx n 0 lo:Nat):Int)/\(sliceBounds lo hi none n).2.1=((HT.sIx n n hi:Nat):Int)/\(sliceBounds lo hi none n).2.2=1:=by
 refine⟨?_,?_,rfl⟩
 .cases lo with
  |none=>simp[sliceBounds,HT.sIx]
  |some i=>
   simp only[sliceBounds,HT.sIx,Option.getD_none,show(1:Int)>0 by decide,if_true];by_cases h:i<0
   .simp only[h,if_true]<;>omega
   .simp only[h,iF]<;>omega
 .cases hi with
  |none=>simp[sliceBounds,HT.sIx]
  |some i=>
   simp only[sliceBounds,HT.sIx,Option.getD_none,show(1:Int)>0 by decide,if_true];by_cases h:i<0
   .simp only[h,if_true]<;>omega
   .simp only[h,iF]<;>omega
theorem GN(its:Uk)(lo hi:Vi):slicePick its.toArray lo hi none=((its.drop (HT.sIx its.length 0 lo)).take (HT.sIx its.length its.length hi - HT.sIx its.length 0 lo)).toArray:=by obtain⟨h1,h2,h3⟩:=JL lo hi its.toArray.size;unfold slicePick;rw[h1,h2,h3];simp only[sliceRange_one,pick_run,sA]<;>rfl
def rSlL(K:Vk):V->Option Int->Option Int->Hp->VK->Prop:=λx lo hi H Q=> ∃a xs,x=.ref a/\SqL K H a xs/\ ∀p,H p=none->Q (.ref p) (gD H p (.lst (MU xs lo hi)))
def Fe:SlR X (rSlL X.K):=by intro pins s σ H x v vl vu lo hi sl Q I rx hs pl pu h;obtain⟨a,xs,rfl,hx,q⟩:=h;cases rx;obtain⟨its,r,ht,hz⟩:=I.list hx;have hlen:=r.length;refine⟨"list",_,slot_list_getitem.lookup,ht.isList.typeIs,?_⟩;refine wpAny_getItem_list_slice ht.isList hs pl pu .none (by simp) ?_ (by rw[sA]<;>omega);rw[GN, <-hlen];refine⟨.ref s.heap.objs.size,_,I.laid (t':=s.toks) (o:=.lst (MU xs lo hi)) (λb ob q=>hP0 _ q) (Nat.le_refl _) ?_,rfl,q _ (I.hok.fresh (Nat.le_refl _))⟩;exact⟨Nat.le_trans (BQ xs lo hi) hz,_,0,(r.drop (HT.sIx xs.length 0 lo)).take (HT.sIx xs.length xs.length hi - HT.sIx xs.length 0 lo),Heap.get?_push_size _ rfl⟩
def wV:V->Bool
 |.non=>true
 |.bl _=>true
 |.int _=>true
 |.str _=>true
 |_=>false
def Ff:V->V->Bool
 |.non,.non=>true
 |.bl a,.bl b=>a==b
 |.bl a,.int b=>(if a then 1 else 0)==b
 |.int a,.bl b=>a==(if b then 1 else 0)
 |.int a,.int b=>a==b
 |.str a,.str b=>a==b
 |_,_=>false
def YO{A:Around}{s:Shared}{y x:V}{u v:Value}(ry:RelV y u)(rx:RelV x v)(fy:wV y=true)(fx:wV x=true):SeqAt.EqAt A s u v (Ff y x):=by
 cases y with
 |non=>
  cases ry
  cases x with
  |non=>cases rx;exact SeqAt.EqAt.same _
  |bl b=>cases rx;exact SeqAt.EqAt.none_bool b
  |int b=>obtain⟨t,rfl⟩:=rx;exact SeqAt.EqAt.none_int b t
  |str b=>obtain⟨t,rfl⟩:=rx;exact SeqAt.EqAt.none_str b t
  |_=>exact absurd (show false=true from fx) xF0
 |bl a=>
  cases ry
  cases x with
  |non=>cases rx;exact SeqAt.EqAt.bool_none a
  |bl b=>cases rx;exact SeqAt.EqAt.bool_bool a b
  |int b=>obtain⟨t,rfl⟩:=rx;exact SeqAt.EqAt.bool_int a b t
  |str b=>obtain⟨t,rfl⟩:=rx;exact SeqAt.EqAt.bool_str a b t
  |_=>exact absurd (show false=true from fx) xF0
 |int a=>
  obtain⟨t',rfl⟩:=ry
  cases x with
  |non=>cases rx;exact SeqAt.EqAt.int_none a t'
  |bl b=>cases rx;exact SeqAt.EqAt.int_bool a t' b
  |int b=>obtain⟨t,rfl⟩:=rx;exact SeqAt.EqAt.int_int a t' b t
  |str b=>obtain⟨t,rfl⟩:=rx;exact SeqAt.EqAt.int_str a t' b t
  |_=>exact absurd (show false=true from fx) xF0
 |str a=>
  obtain⟨t',rfl⟩:=ry
  cases x with
  |non=>cases rx;exact SeqAt.EqAt.str_none a t'
  |bl b=>cases rx;exact SeqAt.EqAt.str_bool a t' b
  |int b=>obtain⟨t,rfl⟩:=rx;exact SeqAt.EqAt.str_int a t' b t
  |str b=>obtain⟨t,rfl⟩:=rx;exact SeqAt.EqAt.str_str a t' b t
  |_=>exact absurd (show false=true from fx) xF0
 |_=>exact absurd (show false=true from fy) xF0
def JM:CallR X (.builtin "len") (λxs H Q=> ∃p ys,xs=[.ref p]/\(SqL X.K H p ys\/SqT X.K H p ys)/\Q (.int ys.length) H):=by
 intro pins s σ H xs us Q I r h;obtain⟨p,ys,rfl,hq,q⟩:=h;obtain⟨u,rfl,rx⟩:=vals1 r;cases rx;have hn:=tY;rcases hq with hq|hq
 .obtain⟨its,r',pl,hz⟩:=I.list hq;have hlen:=r'.length;exact Calls.call_len_list pl.isList (by simp only[sA]<;>omega) ⟨.int ys.length,H,I.tok _,⟨s.toks+1,by rw[sA,hlen]⟩,q⟩
 .obtain⟨its,r',pl,hz⟩:=I.tuple hq;have hlen:=r'.length;exact len_tuple pl (by simp only[sA]<;>omega) ⟨.int ys.length,H,I.tok _,⟨s.toks+1,by rw[sA,hlen]⟩,q⟩
def JN:CallR X (.builtin "len") (λxs H Q=> ∃z,xs=[.str z]/\z.length<=sizeLine/\Q (.int z.length) H):=by intro pins s σ H xs us Q I r h;obtain⟨z,rfl,hz,q⟩:=h;obtain⟨u,rfl,t,rfl⟩:=vals1 r;have hn:=tY;exact len_str (by omega) ⟨.int z.length,H,I.tok _,⟨_,rfl⟩,q⟩
def CallR.or{f:Value}{r r':List V->Hp->VK->Prop}(h:CallR X f r)(h':CallR X f r'):CallR X f (λxs H Q=>r xs H Q\/r' xs H Q):=by
 intro pins s σ H xs us Q I rs q;rcases q with q|q
 .exact h pins s σ H xs us Q I rs q
 .exact h' pins s σ H xs us Q I rs q
def uW:CallR X (.type "list") (λxs H Q=> ∃p ys,xs=[.ref p]/\(SqL X.K H p ys\/SqT X.K H p ys)/\ ∀l,H l=none->Q (.ref l) (gD H l (.lst ys))):=by
 intro pins s σ H xs us Q I r h;obtain⟨p,ys,rfl,hq,q⟩:=h;obtain⟨u,rfl,rx⟩:=vals1 r;cases rx
 have fin: ∀(its:Uk),Vals ys its->ys.length<=sizeLine-> ∀(h':Heap)(c':Nat),(∀b o',s.heap.get? b=some o'->h'.get? b=some o')->
   h'.get? s.heap.objs.size=some {cls:=.type "list",dict:=none,data:=.seq its.toArray c',slots:=#[]}->EP X pins σ Q (.ref s.heap.objs.size) {s with heap:=h'}:=λits r' hz h' c' kp e=>
  ⟨.ref s.heap.objs.size,_,I.laid (t':=s.toks) kp (Nat.le_refl _) (show ObjOk X.prog X.w _ h' _ (.lst ys)from⟨hz,its,c',r',e⟩),rfl,q _ (I.hok.fresh (Nat.le_refl _))⟩
 rcases hq with hq|hq
 .obtain⟨its,r',pl,hz⟩:=I.list hq;have hlen:=r'.length;obtain⟨o,ho,hc,n,hd⟩:=pl.isList;exact call_list_seq p (.inl rfl) ho hc hd (λh' c' kp e=>fin its r' hz h' c' kp e) (by simp only[sA]<;>omega)
 .obtain⟨its,r',pl,hz⟩:=I.tuple hq;have hlen:=r'.length;obtain⟨o,ho,hc,n,hd⟩:=pl;exact call_list_seq p (.inr rfl) ho hc hd (λh' c' kp e=>fin its r' hz h' c' kp e) (by simp only[sA]<;>omega)
def bM:CallR X (.type "tuple") (λxs H Q=> ∃p ys,xs=[.ref p]/\((SqL X.K H p ys/\ ∀l,H l=none->Q (.ref l) (gD H l (.tup ys)))\/(SqT X.K H p ys/\Q (.ref p) H))):=by
 intro pins s σ H xs us Q I r h;obtain⟨p,ys,rfl,h⟩:=h;obtain⟨u,rfl,rx⟩:=vals1 r;cases rx;rcases h with⟨hq,q⟩|⟨hq,q⟩
 .obtain⟨its,r',pl,hz⟩:=I.list hq;have hlen:=r'.length;refine call_tuple_list pl.isList (λh' kp=>?_) (by simp only[sA]<;>omega);have I1:Inv X pins σ H {s with heap:=h'}:=I.kept (t':=s.toks) kp
  have I2:Inv X pins σ (gD H h'.objs.size (.tup ys)) {s with heap:=h'.push {cls:=.type "tuple",data:=.seq its.toArray}}:=
   I1.laid (t':=s.toks) (λb o e=>hP0 _ e) (Nat.le_refl _) (show ObjOk X.prog X.w _ _ _ (.tup ys)from⟨hz,its,r',IsTup.new _ _⟩)
  exact⟨.ref h'.objs.size,_,I2,rfl,q _ (I1.hok.fresh (Nat.le_refl _))⟩
 .obtain⟨its,r',pl,hz⟩:=I.tuple hq;exact call_tuple_same pl ⟨.ref p,H,I,rfl,q⟩
def Ub(K:Vk)(T:String)(x:V)(H:Hp):Prop:=match x with
 |.str _=>T="str"
 |.int _=>T="int"
 |.ref p=>(T="list"/\ ∃xs,SqL K H p xs)\/(T="tuple"/\ ∃o,K.lookup p=some o/\o.cls=.type "tuple"/\o.dict=none)\/
   (T="dict"/\((∃kvs,H p=some (.dK kvs))\/ ∃kvs,H p=some (.dT kvs)))\/(T="set"/\ ∃S n,H p=some (.set S n))
 |_=>False
def YQ{pins:Vg}{σ:St}{H:Hp}{s:Shared}{T:String}{x:V}{v:Value}(I:Inv X pins σ H s)(r:RelV x v)(ty:Ub X.K T x H):
  s.TypeIs v T/\ ∀a,v=.ref a-> ∃ob,s.heap.get? a=some ob/\ob.dict=none:=by
 cases x with
 |str z=>
  obtain⟨t,rfl⟩:=r;cases (show T="str" from ty);exact⟨typeIs_str s z t,λ_ e=>nomatch e⟩
 |int i=>
  obtain⟨t,rfl⟩:=r;cases (show T="int" from ty);exact⟨typeIs_int s i t,λ_ e=>nomatch e⟩
 |ref p=>
  cases r;rcases ty with⟨rfl,xs,hq⟩|⟨rfl,o,hk,hc,hd⟩|⟨rfl,hk⟩|⟨rfl,S,n,hk⟩
  .obtain⟨its,_,pl,_⟩:=I.list hq;refine⟨pl.isList.typeIs,λa e=>?_⟩;cases e;obtain⟨o,n,e,c,hd,_⟩:=pl;exact⟨o,e,hd⟩
  .refine⟨⟨o,I.kIn p o hk,hc⟩,λa e=>?_⟩;cases e;exact⟨o,I.kIn _ o hk,hd⟩
  .have z: ∃o,s.heap.get? p=some o/\o.ExactDict:=by
    rcases hk with⟨kvs,hk⟩|⟨kvs,hk⟩
    .obtain⟨_,_,_,_,o,_,_,e,ex,_⟩:=I.hok p _ hk;exact⟨o,e,ex⟩
    .obtain⟨_,_,_,_,o,_,_,e,ex,_⟩:=I.hok p _ hk;exact⟨o,e,ex⟩
   obtain⟨o,e,ex⟩:=z;refine⟨⟨o,e,ex.1⟩,λa e2=>?_⟩;cases e2;exact⟨o,e,ex.2.1⟩
  .obtain⟨o,_,_,_,e,ex,_⟩:=I.hok p _ hk;refine⟨⟨o,e,ex.1⟩,λa e2=>?_⟩;cases e2;exact⟨o,e,ex.2.1⟩
 |_=>exact False.elim ty
def tBM0(K:Vk)(T:String)(r:V->List V->Hp->VK->Prop)(to:TE):TE:=λσ H Q=>to σ H λx H1=>Ub K T x H1/\r x [] H1 Q
def tBM(K:Vk)(T:String)(r:V->List V->Hp->VK->Prop)(to:TE)(t:TA):TE:=λσ H Q=>to σ H λx H1=>Ub K T x H1/\t σ H1 λxs H2=>r x xs H2 Q
variable{o e:Expr}{es:Vj}{to:TE}{t:TA}{name:Str}{apos cpos:Pos}{T id:String}{r:V->List V->Hp->VK->Prop}
def Md(pa:PlainAttrs T)(slot:Slot T name id)(hty:typeOf (.builtin id)=pure (.type "method_descriptor"))(hm:Fc X id r)(ho:PE X o to)
  (hbase:attributeBase o name X.env (eval o X.env)=eval o X.env:=by rfl) (hline:(apos.endLine==cpos.line)=true:=by rfl):PE X (.Call (.Attribute o name apos) [] [] cpos) (tBM0 X.K T r to):=by
 intro pins s σ H Q I h;refine wpAny_Call_method0_late hbase hline (jM (ho pins s σ H _ I h) λv s1 ⟨x,H1,I1,r1,ty,q1⟩=>?_);obtain⟨h1,h2⟩:=YQ I1 r1 ty;exact⟨T,id,pa,slot,hty,h1,h2,Calls.callWith_builtin rfl (PySem.evalArgs_none (hm pins s1 σ H1 x [] v [] Q I1 r1 .nil q1))⟩
def Ri(pa:PlainAttrs T)(slot:Slot T name id)(hty:typeOf (.builtin id)=pure (.type "method_descriptor"))(hm:Fc X id r)(ho:PE X o to)(ha:PA X (e::es) t)
  (hbase:attributeBase o name X.env (eval o X.env)=eval o X.env:=by rfl)
  (hfew:((backTo cpos (starEach (e::es) X.env)).all (λx=>!x.1)&&(backToKw cpos (keywordEach [] X.env)).all (λx=>x.1.isSome)
   &&decide ((e::es).length+([]:List Keyword).length+(if([]:List Keyword).isEmpty then 0 else 1)<30))=true:=by rfl)
  (hline:(apos.endLine==cpos.line)=true:=by rfl) (hs:starEach (e::es) X.env=(false,eval e X.env)::starEach es X.env:=by rfl) (hplain:(backTo cpos (starEach es X.env)).any (·.1)=false:=by rfl):
  PE X (.Call (.Attribute o name apos) (e::es) [] cpos) (tBM X.K T r to t):=by
 intro pins s σ H Q I h;refine wpAny_Call_method_late hbase hfew hline rfl (jM (ho pins s σ H _ I h) λv s1 ⟨x,H1,I1,r1,ty,q1⟩=>?_);obtain⟨h1,h2⟩:=YQ I1 r1 ty;refine⟨T,id,pa,slot,hty,h1,h2,?_⟩;have hA:=ha cpos pins s1 σ H1 _ I1 q1;rw[hs]at hA ⊢;refine Calls.callWith_builtin (by show(false || (backTo cpos (starEach es X.env)).any (·.1))=false;rw[hplain]<;>rfl) (Calls.evalArgs_plain ?_);exact jM hA λus s2 ⟨vs,H2,I2,r2,q2⟩=>hm pins s2 σ H2 x vs v us Q I2 r1 r2 q2
end
def MtM(X:Cx)(id:String)(r:V->List V->Hp->VK->Prop):Prop:=
 ∀(pins:Vg)(s:Shared)(σ:St)(H:Hp)(x:V)(xs:List V)(v:Value)(us:Uk)(Q:VK),Inv X pins σ H s->RelV x v->Vals xs us->r x xs H Q->
  wpAny (model X.prog X.w) X.A (call (.builtin id) (v::us)) (EP X pins σ Q) X.xe s
def Vals.one: ∀{x:V}{us:Uk},Vals [x] us-> ∃u,us=[u]/\RelV x u
 |_,_,.cons r .nil=>⟨_,rfl,r⟩
theorem Vals.zero: ∀{us:Uk},Vals [] us->us=[]
 |_,.nil=>rfl
theorem Vals.eraseIdx: ∀{xs:List V}{us:Uk}(i:Nat),Vals xs us->Vals (xs.eraseIdx i) (us.eraseIdx i)
 |_,_,_,.nil=>.nil
 |_,_,0,.cons _ t=>t
 |_,_,i+1,.cons r t=>.cons r (Vals.eraseIdx i t)
theorem Vals.rep{xs:List V}{us:Uk}(h:Vals xs us): ∀k:Nat,Vals (List.replicate k xs).flatten (List.replicate k us).flatten
 |0=>.nil
 |k+1=>by rw[replicate_succ,replicate_succ,flatten_cons,flatten_cons];exact Vals.append h (Vals.rep h k)
theorem HS{α:Type}: ∀(l:List α)(i:Nat),(l.eraseIdx i).length<=l.length
 |[],_=>Nat.le_refl _
 |_::_,0=>le_succ _
 |_::r,i+1=>Nat.succ_le_succ (HS r i)
theorem foldl_rep(its:Uk): ∀(k:Nat)(acc:Uk),
  List.foldl (λx1 x2=>x1++x2) acc.toArray (List.replicate k its.toArray)=(acc++(List.replicate k its).flatten).toArray
 |0,acc=>by simp
 |k+1,acc=>by
  have e:acc.toArray++its.toArray=(acc++its).toArray:=by simp
  have e2:(acc++its)++(List.replicate k its).flatten=acc++(List.replicate (k+1) its).flatten:=by rw[replicate_succ,flatten_cons,aA]
  rw[<-e2, <-foldl_rep its k (acc++its), <-e,replicate_succ,List.foldl_cons]
section
variable{X:Cx}{pins:Vg}{σ:St}{H:Hp}{s:Shared}{l:Addr}{xs ys:List V}
def Inv.lset{its its':Uk}{n:Nat}{f:Array Value->Array Value}{t':Nat}(I:Inv X pins σ H s)(hH:H l=some (.lst xs))
  (e:s.heap.get? l=some {cls:=.type "list",data:=.seq its.toArray n}) (hf:f its.toArray=its'.toArray) (hv:Vals ys its') (hz:ys.length<=sizeLine):
  Inv X pins σ (gD H l (.lst ys)) {s with heap:=s.heap.update l (Obj.mapSeq f),toks:=t'}:=by
 have q:=PySem.IsL.update e f;rw[hf]at q;refine I.write (x:=l) (e:=l) (by rw[hH];exact trivial) (.inl rfl) (λb' u hb hu=>(Heap.get?_update_other s.heap (Obj.mapSeq f) (Ne.symm hb)).trans hu) ⟨_,q⟩ ?_;exact⟨hz,its',_,hv,q⟩
def Inv.lnew{its:Uk}{t':Nat}(I:Inv X pins σ H s)(hv:Vals ys its)(hz:ys.length<=sizeLine):
  Inv X pins σ (gD H s.heap.objs.size (.lst ys)) {s with heap:=s.heap.push {cls:=.type "list",data:=.seq its.toArray},toks:=t'}:=
 I.laid (λ_ _ q=>hP0 _ q) (Nat.le_refl _) ⟨hz,its,0,hv,Heap.get?_push_size _ rfl⟩
def Inv.fresh(I:Inv X pins σ H s):H s.heap.objs.size=none:=I.hok.fresh (Nat.le_refl _)
def Inv.lstM(I:Inv X pins σ H s)(hH:H l=some (.lst xs)):xs.length<=sizeLine/\ ∃(its:Uk)(n:Nat),Vals xs its/\xs.length=its.length/\s.heap.get? l=some {cls:=.type "list",data:=.seq its.toArray n}:=by obtain⟨z,its,n,r,e⟩:=I.hok l _ hH;exact⟨z,its,n,r,r.length,e⟩
def YR{n:Nat}(h:n<=sizeLine):Builtin.List.listTooLong n=false:=by unfold Builtin.List.listTooLong;exact dF0 (by omega)
end
section
variable{X:Cx}
def SQ:V->List V->Hp->VK->Prop:=λx vs H Q=> ∃l xs y,x=.ref l/\vs=[y]/\H l=some (.lst xs)/\xs.length<sizeLine/\Q .non (gD H l (.lst (xs++[y])))
def VT:MtM X "list.append" SQ:=by intro pins s σ H x vs v us Q I rx rv h;obtain⟨l,xs,y,rfl,rfl,hH,hz,q⟩:=h;cases rx;obtain⟨u,rfl,ru⟩:=rv.one;obtain⟨z,its,n,r,hl,e⟩:=I.lstM hH;refine call_meets F.slot_list_append ⟨_,e,rfl⟩ F.entry_list_append (F.args_list_append_2 _ _) (PySem.list_append l its.toArray n u (by rw[sA];omega)) ⟨e,?_⟩;refine⟨.non,_,I.lset (its':=its++[u]) hH e (by simp) (r.append (.cons ru .nil)) ?_,rfl,q⟩;rw[lA,lS];omega
def rCat:R2:=λx y H Q=> ∃l b xs zs,x=.ref l/\y=.ref b/\H l=some (.lst xs)/\H b=some (.lst zs)/\xs.length+zs.length<=sizeLine/\ ∀p,H p=none->Q (.ref p) (gD H p (.lst (xs++zs)))
def Me:OpR X (binaryOp .Add) rCat:=by
 intro pins s σ H x y v u Q I rx ry h;obtain⟨l,b,xs,zs,rfl,rfl,hH,hB,hz,q⟩:=h;cases rx;cases ry;obtain⟨z,its,n,r,hl,e⟩:=I.lstM hH;obtain⟨z2,its2,n2,r2,hl2,e2⟩:=I.lstM hB;refine PySem.P.add_list e e2 ?_ (by rw[sA,sA];omega);have ea:its.toArray++its2.toArray=(its++its2).toArray:=by simp
 rw[ea];exact⟨.ref _,_,I.lnew (t':=s.toks) (r.append r2) (by rw[lA];omega),rfl,q _ I.fresh⟩
def rRep:R2:=λx y H Q=> ∃l k xs,x=.ref l/\y=.int k/\H l=some (.lst xs)/\ -(2 ^ 63)<=k/\k<2 ^ 63/\xs.length * k.toNat<=sizeLine/\
 ∀p,H p=none->Q (.ref p) (gD H p (.lst (List.replicate k.toNat xs).flatten))
def len_rep{α:Type}(xs:List α)(k:Nat):(List.replicate k xs).flatten.length=k * xs.length:=by
 induction k with
 |zero=>simp
 |succ k ih=>rw[replicate_succ,flatten_cons,lA,ih,Nat.succ_mul,Nat.add_comm]
def Mf:OpR X (binaryOp .Mult) rRep:=by
 intro pins s σ H x y v u Q I rx ry h;obtain⟨l,k,xs,rfl,rfl,hH,h1,h2,hz,q⟩:=h;cases rx;obtain⟨t,rfl⟩:=ry;obtain⟨z,its,n,r,hl,e⟩:=I.lstM hH;have hlen:its.toArray.size * k.toNat<=sizeLine:=by rw[sA, <-hl];exact hz
 have hcap: ¬its.toArray.size * k.toNat>(2 ^ 63 - 1) / 8:=by
  have:(sizeLine:Nat)<=(2 ^ 63 - 1) / 8:=by decide
  omega
 have hfit: ¬(!Builtin.List.listFitsIndex k)=true:=by rw[fitsIndex_both h1 h2];exact xF0
 have hlong: ¬Builtin.List.listTooLong (its.toArray.size * k.toNat)=true:=by rw[YR hlen];exact xF0
 have hnew:List.foldl (λx1 x2=>x1++x2) #[] (List.replicate (if its.toArray.isEmpty=true then 0 else k.toNat) its.toArray)=(List.replicate k.toNat its).flatten.toArray:=by
  have f0: ∀m:Nat,List.foldl (λx1 x2=>x1++x2) #[] (List.replicate m its.toArray)=(List.replicate m its).flatten.toArray:=λm=>by have:=foldl_rep its m [];rw[List.nil_append]at this;exact this
  rw[f0]
  cases its with
  |nil=>simp
  |cons a r'=>rw[iN (by simp)]
 refine wpAny_binaryOp_repeat_ref (T:="list") (U:="int") (by decide) ⟨_,e,rfl⟩ (λs'=>typeIs_int s' k t) noFill_list_mul F.fills_int_mul F.slot_int_rmul repeat_list F.slot_int_index.lookup
  (call_meets F.slot_int_rmul (typeIs_int s k t) F.entry_int_rmul (F.args_int_rmul_2 _ _) (int___rmul___int_list k t l its.toArray n)
   ⟨e,rfl,⟨_,e,rfl⟩,call_meets F.slot_list_mul ⟨_,e,rfl⟩ F.entry_list_mul (F.args_list_mul_2 _ _) (AutoListH.list___mul___list_int_3 l its.toArray n k t hfit hcap hlong) ⟨e,?_⟩⟩)
 rw[hnew];exact⟨.ref _,_,I.lnew (t':=s.toks) (r.rep k.toNat) (by rw[len_rep,Nat.mul_comm];exact hz),rfl,q _ I.fresh⟩
end
end L2
namespace Att
open PySem PySem.W PySem.Calls PyProof.Rows
def CF{P:Params}{h:Heap}: ∀(ns:Uj)(vs:Uk),WellAll P h vs (ns.map WData.int)->IntsAre vs ns:=by
 intro ns
 induction ns with
 |nil=>
  intro vs w;rw[List.map_nil]at w;cases w;exact .nil
 |cons n ns ih=>
  intro vs w;rw[List.map_cons]at w
  cases w with
  |cons a b=>
   cases a;exact .cons _ _ (ih _ b)
def VU{l:OpenLaw}{n:Nat}(hn:l.most=some n){P:Params}{h:Heap}{args:List WData}{vals:Uk}
  (hpre:l.row.toRowW.claim.pre args=true) (hwl:WellAll P h vals args):
  ∃a vs ns,vals=[Value.ref a]/\args=[WData.list (ns.map WData.int)]/\h.get? a=some {cls:=.type "list",data:=.seq vs.toArray}/\IntsAre vs ns/\ns.length<=n:=by
 have hsh:WShape.hasAll [] args [.list .int]=true:=(pre_splitW hpre).1;have hc:l.pre.holds [] {args:=args}=true:=(pre_splitW hpre).2;obtain⟨d,r,rfl,h1,h2⟩:=hasAllW_cons hsh;obtain rfl:=hasAllW_nil h2;obtain⟨xs,rfl,h3⟩:=hasW_list h1;obtain⟨ns,rfl⟩:=items_int h3
 have hlen:ns.length<=n:=by
  unfold OpenLaw.pre at hc;have h4:(WTm.not (.lt (.lit (.int (n:Int))) (.len (.arg 0)))).holds [] {args:=[.list (ns.map .int)]}=true:=by have h4:=(holds_andW hc).1;rw[hn]at h4;exact h4
  have h5:=condW_of h4 (w_not (w_lt w_lit (w_len_list (w_arg rfl))));rw[lM]at h5;refine Nat.le_of_not_lt λq=>?_;have q':(n:Int)<((ns.length:Nat):Int):=by omega
  first
   |(rw[dT0 q']at h5;exact absurd h5 (by decide))
   |(simp at h5;omega)
 cases hwl with
 |cons w1 w2=>
  cases w2
  cases w1 with
  |list ho hall=>exact⟨_,_,ns,rfl,rfl,ho,CF ns _ hall,hlen⟩
theorem VX(l:OpenLaw)(args:List WData):l.row.toRowW.claim.post args (.bool true) args=true:=
 postW_of (r:=l.row.toRowW) (X:=(true==true))
  (show WShape.has [] (.bool true) .bool=true by first |rfl|decide|simp[WShape.has,WShape.arms,WShape.armsAll])
  (show(WTm.eq .res (.lit (.bool true))).value [] {args:=args,res:=some (.bool true),after:=args}=some (.bool (true==true))from w_eq_bool (w_res rfl) w_lit) rfl
def attach_call{l:OpenLaw}{n:Nat}{q:Program}{loose:Vc}{XP:(Str->Option Value)->Heap->Prop}{YP:World->Heap->Prop}{d:DefRec}
  (hn:l.most=some n) (hdf:d.params.defaults=[])
  (call: ∀(w:World)(s₀ s₁:Shared)(mg mb:Vd)(fa:Addr)(o:Obj)(pm cd doc:Value)(a:Addr)(vs:Uk)(ns:Uj),
   Ground q loose [] XP w s₀ mg mb s₁.heap->YP w s₁.heap->
   s₁.heap.get? fa=some o->o.data=.func (docDef d.name d.params d.body d.scope pm cd doc)->s₁.heap.CodeRec cd d.name->mg d.name=some (.ref fa)->
   s₁.heap.get? a=some {cls:=.type "list",data:=.seq vs.toArray}->IntsAre vs ns->ns.length<=n->s₁.gens=#[]->
   codeAny (model l.prog w) callerA (.call (.ref fa) ⟨[.ref a],[]⟩) (λr s'=>r=.ok (.ret (.bool true))/\OldK s₁.heap s'.heap/\s'.os=s₁.os/\AllBare s'.gens) s₁):
  WalkO q loose XP YP l.row.toRowW d [] (λf vs=>PySem.call f vs):=by
 intro w s₀ s₁ mg mb G Y fa o pm cd doc dV kV ho hd hcd hD hmg hg args vals as hpre hlay hrd hwl hlo;obtain rfl:dV=.none:=Dflts.none hD hdf;obtain rfl:kV=.none:=Dflts.noKw hD;obtain⟨a,vs,ns,rfl,rfl,hobj,hints,hlen⟩:=VU hn hpre hwl;refine enter_call (codeAny_mono (call w s₀ s₁ mg mb fa o pm cd doc a vs ns G Y ho (fd_plain hd) hcd hmg hobj hints hlen hg) λr s' hq=>?_);obtain⟨rfl,h2,h3,h4⟩:=hq;exact⟨.inl ⟨.bool true,.bool true,[],rfl,λ_=>rfl,.bool true,VX l _,λ_=>⟨List.Pairwise.nil,λ_ hm=>(nomatch hm)⟩⟩,h2,h3,h4⟩
end Att
namespace L2
open PySem PySem.Spec PyProof.Rows
theorem HU: ∀{vs:Uk}{ns:Uj},IntsAre vs ns->Vals (ns.map V.int) vs
 |_,_,.nil=>.nil
 |_,_,.cons n t h=>.cons ⟨t,rfl⟩ (HU h)
def YS(H:Hp):Prop:= ∀b,H b=none\/ ∃o xs,H b=some (.frz o (.lst xs))
def YT{P:Program}{w:World}{K:Vk}{mg mb:Vd}{CX:VN}{k:Nat}{fa a:Addr}{fd:FuncData}{x:Str}{sp:Sp}{s₁:Shared}{vs:Uk}{ns:Uj}
  (KX:K.In s₁.heap) (hns:s₁.heap.Ns mainGlobals mg) (hb:s₁.heap.Ns builtinsNs mb) (hbb: ∀x:Str,x≠"__name__"->mb x=bootBuiltins x) (hlim:s₁.heap.NoLimit) (hg:s₁.gens=#[])
  (ha:s₁.heap.get? a=some {cls:=.type "list",data:=.seq vs.toArray}) (hi:IntsAre vs ns) (hl:ns.length<=sizeLine) (hr:Room k callerA)
  (F: ∀base:Heap,K.In base->base.Ns mainGlobals mg->FnOk P w K mg base CX k fa fd [x] sp) (hbind: ∀(s:Shared)(u:Value),BindsTo s fd ⟨[u],[]⟩ [(x,u)])
  (hsp: ∀H:Hp,YS H->SqL K H a (ns.map V.int)->sp [.ref a] H (λv _=>v=.bl true) λ_ _ _=>False)
  (hCX: ∀H e s',CX [] H s₁ (λ_ _ _=>False) e s'->False):
  codeAny (model P w) callerA (.call (.ref fa) ⟨[.ref a],[]⟩) (λr s'=>r=.ok (.ret (.bool true))/\OldK s₁.heap s'.heap/\s'.os=s₁.os/\AllBare s'.gens) s₁:=by
 have rv:=HU hi;have lenV:=hi.length
 have core: ∀H:Hp,YS H->SqL K H a (ns.map V.int)->HOk P w H s₁.heap->(∀b,H b≠none->b=a)->(H a≠none->K.lookup a=none)->
   codeAny (model P w) callerA (.call (.ref fa) ⟨[.ref a],[]⟩) (λr s'=>r=.ok (.ret (.bool true))/\OldK s₁.heap s'.heap/\s'.os=s₁.os/\AllBare s'.gens) s₁:=by
  intro H hO hS hok hA hK;have base_of: ∀{b:Addr}{o:Obj},s₁.heap.get? b=some o->H b=none->(JG s₁.heap H).get? b=some o:=λe n=>XX e n
  have noA: ∀{b:Addr}{o:Obj}{es:Array DictEntry}{ep:Nat},s₁.heap.get? b=some o->o.data=.dict es ep->H b=none:=λ{b o es ep} e d=>by
   cases q:H b with
   |none=>rfl
   |some u=>
    have e':b=a:=hA b (by rw[q];simp);subst e';rw[ha]at e;cases e;have d':Data.seq vs.toArray _=Data.dict es ep:=d;cases d'
  have nsK: ∀{b:Addr}{m:Vd},s₁.heap.Ns b m->(JG s₁.heap H).Ns b m:=λ{b m} ⟨o,es,ep,e,d,r⟩=>⟨o,es,ep,base_of e (noA e d),d,r⟩
  have hKb:K.In (JG s₁.heap H):=λb o e=>base_of (KX b o e) (by
   cases q:H b with
   |none=>rfl
   |some u=>
    have e':b=a:=hA b (by rw[q];simp);subst e';rw[hK (by rw[q];simp)]at e;cases e)
  have hM:Mod K mg (JG s₁.heap H):=⟨hKb,nsK hns,⟨mb,nsK hb,hbb⟩,let ⟨mc,h1,h2⟩:=hlim;⟨mc,nsK h1,h2⟩⟩
  have e0:Env0 P w K mg (JG s₁.heap H) callerA [] s₁ H:=⟨rfl,hM,λb o e=>Ea e,le_of_eq (VE _ _),trivial,λb hb=>absurd (show b∈([]:Vb)from hb) (by simp),hok,.of_eq hg⟩
  refine codeAny_mono ((F _ hKb (nsK hns)).run callerA [] s₁ H ⟨[.ref a],[]⟩ [.ref a] [.ref a] _ _ hr e0 (hbind s₁ (.ref a)) (.cons rfl .nil) (hsp H hO hS)) λr s' h=>?_
  cases r with
  |error e=>exact(hCX H e s' h).elim
  |ok fl=>
   cases fl with
   |next=>exact False.elim h
   |brk=>exact False.elim h
   |cont=>exact False.elim h
   |ret u=>
    obtain⟨v,H',os,bare,un,hok',r',q⟩:=h;have q':v=.bl true:=q;subst q';obtain rfl:u=Value.bool true:=r';refine⟨rfl,OldK.of_keep λb o e=>?_,os,bare⟩
    cases q:H b with
    |none=>exact un.keep b o e q (by intro z;exact absurd (show b∈([]:Vb)from z) (by simp)) (by simp)
    |some u=>
     rcases hO b with z|⟨ob,xs,z⟩
     .rw[q]at z;cases z
     .have z2:=un.frzs b ob _ z;obtain⟨e1,_⟩:=hok b _ z;obtain⟨e2,_⟩:=hok' b _ z2;rw[e]at e1;cases e1;exact e2
 cases hk:K.lookup a with
 |some o=>
  have e:=KX a o hk;rw[ha]at e;cases e;refine core (λ_=>none) (λ_=>.inl rfl) (.inr ⟨_,vs.toArray,_,hk,rfl,rfl,rfl,by rw[sA,lenV];exact hl,by simpa using rv⟩) (λb u z=>by have z':(none:Option HO)=some u:=z;cases z') (λb z=>absurd rfl z) λz=>absurd rfl z
 |none=>
  refine core (λb=>if b=a then some (.frz {cls:=.type "list",data:=.seq vs.toArray} (.lst (ns.map V.int)))else none) (λb=>?_) (.inl (.inr ⟨{cls:=.type "list",data:=.seq vs.toArray},iP rfl⟩)) (λb u z=>?_) (λb z=>?_) λ_=>hk
  .by_cases hb:b=a
   .exact .inr ⟨_,_,iP hb⟩
   .exact .inl (iN hb)
  .by_cases hb:b=a
   .have z':=(iP hb).symm.trans z;cases z';subst hb;exact⟨ha,by rw[lM];exact hl,vs,_,rv,ha⟩
   .have z':=(iN hb).symm.trans z;cases z'
  .by_cases hb:b=a
   .exact hb
   .exact absurd (iN hb) z
def walk_of{l:PySem.W.OpenLaw}{n k:Nat}{q:Program}{loose:Vc}{XP:(Str->Option Value)->Heap->Prop}{YP:World->Heap->Prop}{d:DefRec}{K:Params->PySem.W.Frag}{CX:World->VN}{sp:World->Sp}{x:Str}
  (hn:l.most=some n) (hn2:n<=sizeLine) (hdf:d.params.defaults=[]) (hr:Room k callerA)
  (hY: ∀(w:World)(h:Heap),YP w h->(K w.params).In h)
  (F: ∀(w:World)(mg:Vd)(fa:Addr)(h:Heap),(K w.params).In h->h.Ns mainGlobals mg->mg d.name=some (.ref fa)->
   ∃fd:FuncData,(∀(s:Shared)(u:Value),BindsTo s fd ⟨[u],[]⟩ [(x,u)])/\
    ∀base:Heap,(K w.params).In base->base.Ns mainGlobals mg->FnOk l.prog w (K w.params) mg base (CX w) k fa fd [x] (sp w))
  (hsp: ∀(w:World)(H:Hp)(a:Addr)(ns:Uj),ns.length<=n->YS H->SqL (K w.params) H a (ns.map V.int)->sp w [.ref a] H (λv _=>v=.bl true) λ_ _ _=>False)
  (hCX: ∀(w:World)(H:Hp)(s:Shared)(e:Value)(s':Shared),CX w [] H s (λ_ _ _=>False) e s'->False):
  PySem.W.WalkO q loose XP YP l.row.toRowW d [] (λf vs=>PySem.call f vs):=by
 refine Att.attach_call hn hdf λw s₀ s₁ mg mb fa o pm cd doc a vs ns G Y ho hd hcd hmg hobj hints hlen hg=>?_;have KX:=hY w _ Y;obtain⟨fd,hb,hF⟩:=F w mg fa _ KX G.T.g hmg;exact YT KX G.T.g G.T.b G.T.builtins G.T.nolimit hg hobj hints (Nat.le_trans hlen hn2) hr hF hb (λH hO hS=>hsp w H a ns hlen hO hS) λH e s'=>hCX w H s₁ e s'
def inClass(s:Stmt)(j:Nat):Stmt:=match s with
 |.ClassDef _ _ _ body _ _ _ _ _ _ _=>body.getD j (.Pass ⟨0,0,0,0⟩)
 |_=>.Pass ⟨0,0,0,0⟩
def aQ(s:Stmt):Arguments:=match s with
 |.FunctionDef _ a _ _ _ _ _ _ _ _=>a
 |_=>{posonlyargs:=[],args:=[],vararg:=none,kwonlyargs:=[],kw_defaults:=[],kwarg:=none,defaults:=[]}
def bW(s:Stmt):List Stmt:=match s with
 |.FunctionDef _ _ b _ _ _ _ _ _ _=>b
 |_=>[]
def zI(s:Stmt):Scope:=match s with
 |.FunctionDef _ _ _ _ _ _ sc _ _ _=>sc
 |_=>{kind:=.function,names:=[],isGenerator:=false,isCoroutine:=false}
abbrev CO:VN:=λ_ _ _ _ _ _=>False
abbrev E0:XK:=λ_ _ _=>False
def YU{X:Cx}:AI CO X E0:=λ_ _ _ _ _ _ _ h=>h.elim
structure Fun(K:Vk)(x qual:Str)(st:Stmt)(f:Addr)(fd:FuncData):Prop where
 ex: ∃(oc:Value)(od:Option Addr)(kV doc pm:Value)(an:Option Addr)(cdv ct:Value)(osl:Array (Option Value)),
  fd=PySem.W.fnOf x qual (aQ st) (bW st) (zI st) .none kV doc pm an cdv ct/\K.lookup f=some ⟨oc,od,.func fd,osl⟩/\PySem.W.codeIn K cdv qual=true
 kp:PySem.W.keepIn K (.ref f)=true
section
variable{P:Program}{w:World}{K:Vk}{mg:Vd}{base:Heap}
def Fun.ok{x qual:Str}{st:Stmt}{f:Addr}{fd:FuncData}{N ps:Vc}{k:Nat}{sp:Sp}(F:Fun K x qual st f fd)(S:FnScope N ps (zI st))(len: ∀vs H Q E,sp vs H Q E->vs.length=ps.length)
  (hbody: ∀(cdv:Value)(A:Around)(outer:List Env)(s:Shared)(H:Hp)(vs:List V)(Q:VK)(E:XK),Room k (A.deeper (envOfC qual (zI st) s.heap.objs.size f cdv))->sp vs H Q E->
   ∃t,PSs (QH CO P w K mg base N qual (zI st) f cdv A outer s H E).nox (bW st) t/\t {nx:=λ_ H'=>Q .non H',rt:=Q} (start N vs) H):FnOk P w K mg base CO (k+1) f fd ps sp:=by
 obtain⟨oc,od,kV,doc,pm,an,cdv,ct,osl,rfl,lk,hcd⟩:=F.ex;refine Qy lk hcd S len λA outer s H vs Q E hr hsp=>?_;obtain⟨t,h,q⟩:=hbody cdv A outer s H vs Q E hr hsp;exact⟨t,h.nox,q⟩
def Fun.binds{x qual:Str}{st:Stmt}{f:Addr}{fd:FuncData}{ps:Vc}(F:Fun K x qual st f fd)
  (h: ∀(kV doc pm:Value)(an:Option Addr)(cdv ct:Value)(us:Uk),us.length=ps.length->bindArgs (PySem.W.fnOf x qual (aQ st) (bW st) (zI st) .none kV doc pm an cdv ct) ⟨us,[]⟩=pure (ps.zip us)):Binds K fd ps []:=by
 obtain⟨oc,od,kV,doc,pm,an,cdv,ct,osl,rfl,lk,hcd⟩:=F.ex;exact .all (h kV doc pm an cdv ct)
def JO{x qual:Str}{st:Stmt}{f:Addr}{oc:Value}{od an:Option Addr}{osl:Array (Option Value)}{kV doc pm cdv ct:Value}(l:K.lookup f=some ⟨oc,od,.func (PySem.W.fnOf x qual (aQ st) (bW st) (zI st) .none kV doc pm an cdv ct),osl⟩)
  (c:PySem.W.codeIn K cdv qual=true) (k:PySem.W.keepIn K (.ref f)=true):Fun K x qual st f (PySem.W.fnOf x qual (aQ st) (bW st) (zI st) .none kV doc pm an cdv ct):=⟨⟨oc,od,kV,doc,pm,an,cdv,ct,osl,rfl,l,c⟩,k⟩
end
section
variable{X:Cx}
def pv(i:Nat){x:Str}{pos:Pos}(hN:X.N[i]? =some x:=by rfl)(hv:Qb X.env.scope x:=by first |exact Or.inl rfl|exact Or.inr (Or.inl rfl)|exact Or.inr (Or.inr rfl))(hd:(x==("__debug__":Str))=false:=by decide)
  (hcd:(x==("__classdict__":Str))=false:=by decide):PE X (.Name x pos) (Qc i):=Kv hN hv hd hcd
end
end L2
set_option maxHeartbeats 4000000
namespace L2
open PySem PySem.Spec PyProof.Rows
def qW(env:Env)(l:List (Str×NameKind))(cs:List (Str×Addr)):List (Str×Addr):=
 l.foldl (λc y=>if y.2==.free then(y.1,(env.cells.lookup y.1).getD 0)::c else c) cs
def JP{α β:Type}{l:List α}{f:α->β->Sem (ForInStep β)}{g:β->α->β}: ∀(c:β),(∀x∈l, ∀c,f x c=pure (.yield (g c x)))->
  forIn l c f=pure (l.foldl g c):=by
 induction l with
 |nil=>intro c _;rfl
 |cons x l ih=>
  intro c h;rw[forIn_cons,h x mF0,pure_bind];exact ih _ λy hy=>h y (mO _ hy)
def GO{scope:Scope}{env:Env}(h: ∀y∈scope.names,y.2=.free-> ∃c,env.cells.lookup y.1=some c):closureFor scope env=pure (qW env scope.names []):=by
 unfold closureFor qW;dsimp only;rw[JP (g:=λc y=>if y.2==.free then(y.1,(env.cells.lookup y.1).getD 0)::c else c) [] ?_]
 .rfl
 .intro y hy c;obtain⟨n,k⟩:=y;by_cases hk:k=.free
  .subst hk;obtain⟨a,ha⟩:=h _ hy rfl;have ha':env.cells.lookup n=some a:=ha;simp[cellOf,ha']
  .have e:(k==NameKind.free)=false:=by simpa using hk
   simp[e]
theorem BR{env:Env}: ∀(l:List (Str×NameKind))(cs:List (Str×Addr)),(∀y∈l,y.2=.free-> ∃c,env.cells.lookup y.1=some c)->(∀p∈cs,env.cells.lookup p.1=some p.2)->
  ∀p∈qW env l cs,env.cells.lookup p.1=some p.2
 |[],_,_,h=>h
 |(n,k)::l,cs,hl,h=>by
  refine BR l _ (λy hy=>hl y (mO _ hy)) λp hp=>?_;by_cases hk:k=.free
  .subst hk;obtain⟨c,hc⟩:=hl _ mF0 rfl;have hc':env.cells.lookup n=some c:=hc;have hp':p∈(n,(env.cells.lookup n).getD 0)::cs:=hp;rcases mC.mp hp' with rfl|hp
   .show env.cells.lookup n=some ((env.cells.lookup n).getD 0);rw[hc'];rfl
   .exact h p hp
  .have hp':p∈(if(k==NameKind.free)=true then(n,(env.cells.lookup n).getD 0)::cs else cs):=hp;rw[iN (by simpa using hk)]at hp';exact h p hp'
theorem DQ{env:Env}: ∀(l:List (Str×NameKind))(cs:List (Str×Addr))(p:Str×Addr),p∈cs->p∈qW env l cs
 |[],_,_,h=>h
 |(n,k)::l,cs,p,h=>by
  refine DQ l _ p ?_;show p∈(if(k==.free)=true then(n,(env.cells.lookup n).getD 0)::cs else cs);split
  .exact mO _ h
  .exact h
theorem rH{env:Env}: ∀(l:List (Str×NameKind))(cs:List (Str×Addr))(n:Str),(n,NameKind.free)∈l-> ∃c,(n,c)∈qW env l cs
 |[],_,_,h=>nomatch h
 |(m,k)::l,cs,n,h=>by
  rcases mC.mp h with e|h
  .have e1:n=m:=congrArg Prod.fst e;have e2:NameKind.free=k:=congrArg Prod.snd e;subst e1 e2;exact⟨(env.cells.lookup n).getD 0,DQ l _ _ mF0⟩
  .exact rH l _ n h
theorem bN{β:Type}: ∀{l:List (Str×β)}{n:Str},(∃c,(n,c)∈l)-> ∃c,l.lookup n=some c
 |[],_,h=>let ⟨_,z⟩:=h;nomatch z
 |(m,b)::l,n,h=>by
  by_cases e:n=m
  .subst e;exact⟨b,by simp[lookup_cons]⟩
  .obtain⟨c,hc⟩:=h;rcases mC.mp hc with z|z
   .cases z;exact absurd rfl e
   .obtain⟨c',h'⟩:=bN ⟨c,z⟩;refine⟨c',?_⟩;have e':(n==m)=false:=by simpa using e
    simp[lookup_cons,e',h']
def VY(scope osc:Scope):List (Str×NameKind):=scope.names.map λ(n,k)=>if(k==.free&&osc.kind==.function&&osc.names.lookup n==some .cell)then(n,.cell)else(n,k)
def BS(osc:Scope)(N:Vc)(sc:Scope)(idx:Db):Bool:=
 decide (sc.kind=.function)&&sc.names.all (λy=>decide (sc.names.lookup y.1=some y.2))&&
 sc.names.all (λy=>decide (y.2≠.free) || decide (osc.names.lookup y.1=some .cell) || decide (osc.names.lookup y.1=some .free))&&
 idx.all (λi=>match N[i]? with
  |some y=>(decide (osc.names.lookup y=some .cell) || decide (osc.names.lookup y=some .free))&&decide (sc.names.lookup y=some .free)
  |none=>false)
abbrev XS(env:Env)(sc:Scope)(C:Addr):List (Str×Addr):=cellsFrom (C+1) sc.names (qW env sc.names [])
theorem kT: ∀(l:List (Str×NameKind))(n:Nat)(acc:List (Str×Addr)),cellsFrom n l acc=cellsFrom n l []++acc
 |[],n,acc=>rfl
 |(x,k)::l,n,acc=>by
  unfold cellsFrom;split
  .rw[kT l (n+1) ((x,n)::acc),kT l (n+1) [(x,n)],aA];rfl
  .exact kT l n acc
theorem uX: ∀(l:List (Str×NameKind))(n:Nat){x:Str}{c:Addr},(x,c)∈cellsFrom n l []->(x,NameKind.cell)∈l/\n<=c
 |[],n,x,c,h=>nomatch h
 |(y,k)::l,n,x,c,h=>by
  unfold cellsFrom at h;split at h
  .rename_i hk;rw[kT]at h;rcases List.mem_append.mp h with h|h
   .obtain⟨h1,h2⟩:=uX l (n+1) h;exact⟨mO _ h1,by omega⟩
   .have e:=mS.mp h;cases e;have hk':k=.cell:=by simpa using hk
    subst hk';exact⟨mF0,Nat.le_refl _⟩
  .obtain⟨h1,h2⟩:=uX l n h;exact⟨mO _ h1,h2⟩
def tZ{l:List (Str×NameKind)}{C:Nat}{x:Str}{c:Addr}(h:(x,c)∈cellsFrom (C+1) l []){n:Nat}(hC:n<=C):n<c:=Nat.lt_of_le_of_lt hC (uX l (C+1) h).2
theorem sU: ∀(l:List (Str×NameKind))(n:Nat){x:Str},(x,NameKind.cell)∈l-> ∃c,(x,c)∈cellsFrom n l []
 |[],n,x,h=>nomatch h
 |(y,k)::l,n,x,h=>by
  unfold cellsFrom;rcases mC.mp h with e|h
  .cases e;rw[iP (by decide),kT];exact⟨n,List.mem_append_right _ mF0⟩
  .split
   .obtain⟨c,hc⟩:=sU l (n+1) h;rw[kT];exact⟨c,mem_append_left _ hc⟩
   .exact sU l n h
theorem own_apart: ∀(l:List (Str×NameKind))(n:Nat),(cellsFrom n l []).Pairwise λx y=>x.2≠y.2
 |[],n=>List.Pairwise.nil
 |(y,k)::l,n=>by
  unfold cellsFrom;split
  .rw[kT];refine List.pairwise_append.mpr ⟨own_apart l (n+1),List.pairwise_singleton _ _,λa ha b hb e=>?_⟩;rw[mS.mp hb]at e;have:=(uX l (n+1) (x:=a.1) (c:=a.2) ha).2;exact Nat.ne_of_gt this e
  .exact own_apart l n
theorem pV{β:Type}(x:Str): ∀(l m:List (Str×β)),(l++m).lookup x=(l.lookup x).or (m.lookup x)
 |[],m=>rfl
 |(y,b)::l,m=>by
  rw[List.cons_append,lookup_cons,lookup_cons]
  cases x==y with
  |true=>rfl
  |false=>exact pV x l m
theorem HV{β:Type}{x:Str}: ∀{l:List (Str×β)},(∀c,(x,c)∉l)->l.lookup x=none
 |[],_=>rfl
 |(y,b)::l,h=>by
  rw[lookup_cons]
  cases e:x==y with
  |true=>rw[beq_iff_eq.mp e]at h;exact absurd mF0 (h b)
  |false=>exact HV λc hc=>h c (mO _ hc)
def iH{env:Env}{sc:Scope}{C:Addr}{x:Str}{c:Addr}(e:(XS env sc C).lookup x=some c):(x,c)∈cellsFrom (C+1) sc.names []\/(qW env sc.names []).lookup x=some c:=by
 unfold XS at e;rw[kT,pV]at e
 cases z:(cellsFrom (C+1) sc.names []).lookup x with
 |some c'=>rw[z]at e;cases e;exact .inl (PySem.mem_of_lookup z)
 |none=>rw[z]at e;exact .inr e
def Mg{env:Env}{sc:Scope}{C:Addr}{x:Str}{c:Addr}(h:(x,NameKind.cell)∈sc.names)(e:(XS env sc C).lookup x=some c):(x,c)∈cellsFrom (C+1) sc.names []:=by unfold XS at e;rw[kT,pV]at e;obtain⟨c',h'⟩:=bN (sU sc.names (C+1) h);rw[h']at e;cases e;exact PySem.mem_of_lookup h'
theorem Fg{env:Env}{sc:Scope}{C:Addr}{x:Str}(h:(x,NameKind.cell)∉sc.names):(XS env sc C).lookup x=(qW env sc.names []).lookup x:=by unfold XS;rw[kT,pV,HV λc hc=>h (uX _ _ hc).1];rfl
def AK(σ:St)(idx:Db):St:=idx.map λi=>(σ[i]?).join
def mN(σ:St)(idx:Db):(AK σ idx).length=idx.length:=by unfold AK;rw[lM]
def yD(X:Cx)(sc:Scope)(T:Vc)(idx:Db)(C:Addr)(s₂:Shared)(H1:Hp)(fp:Vb):Cx where
 prog:=X.prog
 w:=X.w
 K:=X.K
 mg:=X.mg
 base:=X.base
 A:=X.A
 N:=T++idx.map λi=>(X.N[i]?).getD Str.empty
 s₀:=s₂
 H₀:=H1
 env:=compEnvC sc (XS X.env sc C) C X.env
 outer:=X.stack
 stack:=X.stack
 ex:=fp
 fn:=λx=>sc.names.lookup x==some .cell
 calm:=X.calm
 pn:=[]
 xe:=λ_ _=>False
def YV(wi:TI)(g:TG)(tc:Addr->Shared->Hp->List Addr->TT)(te:Addr->Shared->Hp->List Addr->TE)(nt:Nat)(idx:Db):TE:=λσ H Q=>wi σ H λJ H1=> ∃W:Nat->Nat->List V->Hp->Prop,(∃m,W 0 m [] H1)/\ ∀i m ys H2,W i m ys H2->ys.length<=sizeLine/\
 ((J.stop i H2/\ ∀D,H2 D=none->Q (.ref D) (gD H2 D (.lst ys)))\/
   (J.go i H2/\ys.length<sizeLine/\ ∀x H3,J.yld i H2 x H3-> ∀τ:St,τ.length=nt->g x (τ++AK σ idx) H3 λσ4 H4=>(∃τ',σ4=τ'++AK σ idx/\τ'.length=nt)/\
    ∀C s₂ fp,tc C s₂ H1 fp σ4 H4 λb H5=>if b=true then te C s₂ H1 fp σ4 H5 λy H6=> ∃m',m'<m/\W (i+1) m' (ys++[y]) H6 else∃m',m'<m/\W (i+1) m' ys H5))
section
variable{prog:Program}{w:World}{A:Around}{R:Result->Shared->Prop}{s:Shared}
def JQ{elt target iter:Expr}{ifs:Vj}{scope:Scope}{pos:Pos}{it acc:Value}{env:Env}(I:Nat->Shared->Prop)
  (turn: ∀n s,I n s->wpAny (model prog w) A (pyNext it) (λr s₁=>match r with
   |none=>R (.ok .next) s₁
   |some v=>wpAny (model prog w) A (letOwnedTupleGo target it v) (λ_ s₁'=>wpAny (model prog w) A (assign target env v) (λ_ s₂=>
     wpAny (model prog w) A (forIn ifs true λc r=>if r=true then do let ok <-isTrue c env (eval c env);pure (ForInStep.yield ok)else pure (ForInStep.yield r)) (λok s₃=>
      if ok=true then wpAny (model prog w) A (eval elt env) (λx s₄=>
       wpAny (model prog w) A (call (.builtin "list.append") [acc,x]) (λ_ s₅=> ∃m,m<n/\I m s₅) (λ_ _=>False) s₄) (λ_ _=>False) s₃
      else∃m,m<n/\I m s₃) (λ_ _=>False) s₂) (λ_ _=>False) s₁') (λ_ _=>False) s₁) (λ_ _=>False) s)
  (n:Nat) (h:I n s):codeAny (model prog w) A (.compLoop (.ListComp elt [⟨target,iter,ifs,0⟩] scope pos) 0 it acc env) R s:=by
 refine codeAny_loop rfl I (λn s hI=>?_) n h;show wpAny _ A ((compTurn (.ListComp elt [⟨target,iter,ifs,0⟩] scope pos) 0 it acc env).onRaise (λx=>do noteFrame x env;theTreesLotGoes x)) _ _ s;refine wpAny_noted ?_;rw[compTurn_list];have no: ∀{E':VP}(v:Value)(s':Shared),False->E' v s':=λ_ _ z=>z.elim;refine wB (wpAny_standAt (wB (wpAny_mono (turn n s hI) (λr s₁ h₁=>?_) (no))))
 cases r with
 |none=>exact wP h₁
 |some v=>
  refine wB (wpAny_mono h₁ (λ_ s₁' h₁'=>wB (wpAny_mono h₁' (λ_ s₂ h₂=>wB (wpAny_mono h₂ (λok s₃ h₃=>?_) no)) no)) no)
  cases ok with
  |false=>exact wP ⟨rfl,h₃⟩
  |true=>
   exact wB (wB (wpAny_mono h₃ (λx s₄ h₄=>wB (wpAny_mono h₄ (λ_ s₅ h₅=>wP (wP ⟨rfl,h₅⟩)) no)) no))
end
def VZ(X:Cx)(ifs:Vj)(t:TT):Prop:=
 ∀(pins:Vg)(s:Shared)(σ:St)(H:Hp)(Q:Bool->Hp->Prop),Inv X pins σ H s->t σ H Q->
  wpAny (model X.prog X.w) X.A (forIn ifs true λc r=>if r=true then do let ok <-isTrue c X.env (eval c X.env);pure (ForInStep.yield ok)else pure (ForInStep.yield r)) (TP X pins σ Q) X.xe s
def Rj:TT:=λ_ H Q=>Q true H
def YW{X:Cx}:VZ X [] Rj:=λ_ _ _ H _ I h=>wpAny_tests_nil ⟨H,I,h⟩
def YX{X:Cx}{c:Expr}{t:TT}(h:PT X c t):VZ X [c] t:=λpins s σ H Q I q=>wpAny_tests_one (h pins s σ H Q I q)
structure CompF(osc:Scope)(N:Vc)(sc:Scope)(idx:Db):Prop where
 kind:sc.kind=.function
 uni: ∀y∈sc.names,sc.names.lookup y.1=some y.2
 frees: ∀y∈sc.names,y.2=.free->osc.names.lookup y.1=some .cell\/osc.names.lookup y.1=some .free
 cap: ∀i∈idx, ∃y,N[i]? =some y/\(osc.names.lookup y=some .cell\/osc.names.lookup y=some .free)/\sc.names.lookup y=some .free
def CompF.locs{osc:Scope}{N:Vc}{sc:Scope}{idx:Db}(F:CompF osc N sc idx): ∀y∈sc.names,y.2=.local->sc.names.lookup y.1=some .local:=λy hy e=>by rw[F.uni y hy,e]
def Fi{osc:Scope}{N:Vc}{sc:Scope}{idx:Db}(h:BS osc N sc idx=true):CompF osc N sc idx:=by
 unfold BS at h;simp only[aE,List.all_eq_true,decide_eq_true_eq,Bool.or_eq_true]at h;obtain⟨⟨⟨h1,h2⟩,h4⟩,h5⟩:=h;refine⟨h1,λy hy=>h2 y hy,λy hy e=>?_,λi hi=>?_⟩
 .rcases h4 y hy with(z|z)|z
  .exact absurd e z
  .exact .inl z
  .exact .inr z
 .have q:=h5 i hi
  cases e:N[i]? with
  |none=>rw[e]at q;cases q
  |some y=>
   rw[e]at q;simp only[aE,decide_eq_true_eq,Bool.or_eq_true]at q;exact⟨y,rfl,q.1,q.2⟩
def YY{sc osc:Scope}{x:Str}(h:(VY sc osc).lookup x=some .cell\/(VY sc osc).lookup x=some .free):(x,NameKind.free)∈sc.names\/(x,NameKind.cell)∈sc.names:=by
 have key: ∀k',(k'=.cell\/k'=.free)->(x,k')∈VY sc osc->(x,NameKind.free)∈sc.names\/(x,NameKind.cell)∈sc.names:=by
  intro k' hk' hm;unfold VY at hm;obtain⟨⟨n,k⟩,hy,e⟩:=mM.mp hm;dsimp only at e;split at e
  .rename_i hc;cases e;rw[aE,aE]at hc;have:k=.free:=by simpa using hc.1.1
   subst this;exact .inl hy
  .cases e;rcases hk' with rfl|rfl
   .exact .inr hy
   .exact .inl hy
 rcases h with h|h
 .exact key _ (.inl rfl) (PySem.mem_of_lookup h)
 .exact key _ (.inr rfl) (PySem.mem_of_lookup h)
theorem HX{osc:Scope}{x:Str}: ∀{l:List (Str×NameKind)},l.lookup x=some .free->(l.map λ(n,k)=>if(k==NameKind.free&&osc.kind==.function&&osc.names.lookup n==some .cell)then(n,NameKind.cell)else(n,k)).lookup x=some .cell\/(l.map λ(n,k)=>if(k==NameKind.free&&osc.kind==.function&&osc.names.lookup n==some .cell)then(n,NameKind.cell)else(n,k)).lookup x=some .free
 |[],h=>by simp at h
 |(n,k)::l,h=>by
  have ih:=@HX osc x l;rw[lookup_cons]at h;rw[List.map_cons];by_cases hc:(k==NameKind.free&&osc.kind==.function&&osc.names.lookup n==some .cell)=true
  .dsimp only;rw[iP hc,lookup_cons]
   cases hx:x==n with
   |true=>exact .inl rfl
   |false=>rw[hx]at h;exact ih h
  .dsimp only;rw[iN hc,lookup_cons]
   cases hx:x==n with
   |true=>rw[hx]at h;exact .inr h
   |false=>rw[hx]at h;exact ih h
section
variable{X:Cx}{pins:Vg}{σ:St}{H1:Hp}{s₂:Shared}{sc:Scope}{T:Vc}{idx:Db}{C:Addr}{fp:Vb}
def MX(I:Inv X pins σ H1 s₂)(F:CompF X.env.scope X.N sc idx): ∀y∈sc.names,y.2=.free-> ∃c,X.env.cells.lookup y.1=some c:=
 λy hy e=>I.ok.has y.1 (F.frees y hy e)
def gV(I:Inv X pins σ H1 s₂)(F:CompF X.env.scope X.N sc idx){x:Str}{c:Addr}(e:(qW X.env sc.names []).lookup x=some c):X.env.cells.lookup x=some c:=
 BR sc.names [] (MX I F) (λ_ z=>nomatch z) (x,c) (PySem.mem_of_lookup e)
def Fj(I:Inv X pins σ H1 s₂)(F:CompF X.env.scope X.N sc idx){x:Str}{c:Addr}(hx:(x,NameKind.free)∈sc.names)(e:X.env.cells.lookup x=some c):(qW X.env sc.names []).lookup x=some c:=by obtain⟨c',h'⟩:=bN (rH (env:=X.env) sc.names [] x hx);rw[h'];rw[gV I F h']at e;exact e
def WA(I:Inv X pins σ H1 s₂)(F:CompF X.env.scope X.N sc idx)(hC:s₂.heap.objs.size<=C)(hfp: ∀b∈fp,uU X pins H1 b)(hlt: ∀b∈fp,b<s₂.heap.objs.size):(yD X sc T idx C s₂ H1 fp).Ok where
 mod:=I.ok.mod
 kind:=F.kind
 glob:=I.ok.glob
 blt:=I.ok.blt
 above:=hC
 inj:=λx y c h1 h2=>by
  have low: ∀z,(qW X.env sc.names []).lookup z=some c->c<s₂.heap.objs.size:=λz h=>let ⟨v,q⟩:=I.cell z c (gV I F h);q.lt;rcases iH h1 with z1|z1<;>rcases iH h2 with z2|z2
  .exact PySem.name_of_addr (own_apart sc.names (C+1)) z1 z2
  .exact absurd (low y z2) (Nat.not_lt.mpr (le_of_lt (tZ z1 hC)))
  .exact absurd (low x z1) (Nat.not_lt.mpr (le_of_lt (tZ z2 hC)))
  .exact I.ok.inj x y c (gV I F z1) (gV I F z2)
 has:=λx hx=>by
  have hx':(VY sc X.env.scope).lookup x=some .cell\/(VY sc X.env.scope).lookup x=some .free:=hx;show∃c,(XS X.env sc C).lookup x=some c;unfold XS;rw[kT];rcases YY hx' with z|z
  .obtain⟨c,hc⟩:=rH (env:=X.env) sc.names [] x z;exact bN ⟨c,List.mem_append_right _ hc⟩
  .obtain⟨c,hc⟩:=sU sc.names (C+1) z;exact bN ⟨c,mem_append_left _ hc⟩
 cab:=λx c h e=>by have h':sc.names.lookup x=some .cell:=beq_iff_eq.mp h;exact le_of_lt (tZ (Mg (PySem.mem_of_lookup h') e) hC)
 hd:=I.ok.hd
 frames:=I.ok.frames
 stk:=.inl rfl
 exf:=λb hb=>⟨Nat.ne_of_lt (Nat.lt_of_lt_of_le (hlt b hb) hC),λx c e=>by
  rcases iH e with z|z
  .exact Nat.ne_of_gt (lt_trans (hlt b hb) (tZ z hC))
  .exact(hfp b hb).2.2.2.2.1 x c (gV I F z)⟩
 bs:=I.bs
 bsz:=Nat.le_trans I.ok.bsz I.sz
 noex:=λb o e hb=>by
  rcases (hfp b hb).2.2.2.1 with z|z
  .exact I.ok.noex b o e z
  .exact absurd (Nat.lt_of_lt_of_le (Heap.lt_size e) (Nat.le_trans I.ok.bsz z)) (lt_irrefl _)
 exfs:=λb hb z=>by
  rcases mC.mp (I.stkSub b z)with e|e
  .exact(hfp b hb).2.1 e
  .exact(hfp b hb).2.2.1 e
 funs:=I.stack
 frf:=I.stkFree
def QL{s₄:Shared}{m:Vd}(I:Inv X pins σ H1 s₂)(F:CompF X.env.scope X.N sc idx)(hC:s₂.heap.objs.size<=C)(hfp: ∀b∈fp,uU X pins H1 b)(hlt: ∀b∈fp,b<s₂.heap.objs.size)
  (kp: ∀b o,s₂.heap.get? b=some o->s₄.heap.get? b=some o) (ho:s₄.os=s₂.os) (hg:s₄.gens=s₂.gens) (hn:s₄.heap.Ns C m) (hcl: ∀x c,(x,c)∈cellsFrom (C+1) sc.names []->s₄.heap.IsCell c none):
  Inv (yD X sc T idx C s₂ H1 fp) [] (T.map (λ_=>none)++AK σ idx) H1 s₄:=by
 have cellK: ∀c v,s₂.heap.IsCell c v->s₄.heap.IsCell c v:=λc v ⟨o,h1,h2⟩=>⟨o,kp c o h1,h2⟩
 refine⟨WA I F hC hfp hlt,ho,by rw[hg];exact I.bare,Un.kept kp,⟨m,hn,λi x v e1 e2 e3=>?_⟩,λx c e=>?_,I.hok.fresh hC,λx c e=>?_,λp hp=>absurd (show p∈([]:Vg)from hp) (by simp),I.hok.kept kp,?_⟩
 .have e1':(T++idx.map λi=>(X.N[i]?).getD Str.empty)[i]? =some x:=e1;by_cases hi:i<T.length
  .rw[getElem?_append_left (by simpa using hi),getElem?_map]at e2
   cases z:T[i]? with
   |none=>rw[z]at e2;cases e2
   |some y=>rw[z]at e2;cases e2
  .rw[getElem?_append_right (by simpa using hi)]at e2;rw[getElem?_append_right (by omega)]at e1';rw[lM]at e2;unfold AK at e2;rw[getElem?_map]at e1' e2
   cases z:idx[i - T.length]? with
   |none=>rw[z]at e2;cases e2
   |some j=>
    rw[z]at e1' e2;have hj:j∈idx:=mem_of_getElem? z;obtain⟨y,hy,k1,k2⟩:=F.cap j hj;have ex:y=x:=by have q:(X.N[j]?).getD Str.empty=x:=Option.some.inj e1';rw[hy]at q;exact q
    subst ex
    have ev:σ[j]? =some (some v):=by
     have q:(σ[j]?).join=some v:=Option.some.inj e2
     cases w':σ[j]? with
     |none=>rw[w']at q;cases q
     |some a=>rw[w']at q;have q':a=some v:=q;rw[q']
    obtain⟨m0,hn0,hl0⟩:=I.loc;have vis:Qb X.env.scope y:=k1.elim (λz=>.inr (.inl z)) λz=>.inr (.inr z);obtain⟨u,r,l⟩:=hl0 j y v hy ev vis;refine⟨u,r,?_⟩;rcases l with⟨kl,_⟩|⟨_,c,hc,q⟩
    .have kl':X.env.scope.names.lookup y=some .local:=kl;rcases k1 with z|z<;>rw[z]at kl'<;>cases kl'
    .have nc:(y,NameKind.cell)∉sc.names:=λz=>by have:=F.uni _ z;rw[k2]at this;cases this
     refine .inr ⟨HX (osc:=X.env.scope) k2,c,?_,cellK c _ q⟩;show(XS X.env sc C).lookup y=some c;rw[Fg nc];exact Fj I F (PySem.mem_of_lookup k2) hc
 .rcases iH e with z|z
  .exact⟨none,hcl x c z⟩
  .obtain⟨v,q⟩:=I.cell x c (gV I F z);exact⟨v,cellK c v q⟩
 .rcases iH e with z|z
  .exact I.hok.fresh (le_of_lt (tZ z hC))
  .exact I.freeC x c (gV I F z)
 .show(T.map (λ_=>(none:Option V))++AK σ idx).length=(T++idx.map λi=>(X.N[i]?).getD Str.empty).length;rw[lA,lA,lM,lM,mN]
def QM{σ1:St}{H':Hp}{s':Shared}{h':Heap}{D:Addr}{ys:List V}{its:Uk}{n:Nat}(I:Inv X pins σ H1 s₂)(hC:s₂.heap.objs.size<=C)(hfp: ∀b∈fp,uU X pins H1 b)
  (J:Inv (yD X sc T idx C s₂ H1 fp) [] σ1 H' s') (hs:Heap.SameBut C s'.heap h') (hD:s₂.heap.objs.size<=D) (hDC:D≠C) (eD:s'.heap.get? D=some {cls:=.type "list",data:=.seq its.toArray n}) (nD:H' D=none) (r:Vals ys its) (hz:ys.length<=sizeLine):
  Inv X pins σ (gD H' D (.lst ys)) {s' with heap:=h'}:=by
 have old: ∀b o,s₂.heap.get? b=some o->b≠C/\b≠D:=λb o e=>⟨Nat.ne_of_lt (Nat.lt_of_lt_of_le (Heap.lt_size e) hC),Nat.ne_of_lt (Nat.lt_of_lt_of_le (Heap.lt_size e) hD)⟩
 have oldH: ∀b u,H1 b=some u->b≠D:=λb u e=>Nat.ne_of_lt (Nat.lt_of_lt_of_le (I.hok.lt e) hD);have nC:H' C=none:=J.free;have B:Un (SK X.stack) fp H1 H' s₂.heap s'.heap:=J.base;have mv: ∀b o,b≠C->s'.heap.get? b=some o->h'.get? b=some o:=λb o hb e=>(hs.2 b hb).trans e;refine I.call' (s':={s' with heap:=h'}) (ch:=fp) J.os ⟨λb o e q hb hx=>?_,λb o e q hb hx=>?_,λb o e q hx=>?_,λb o e hx=>?_,λb xs e=>?_,λb o u e=>?_,λb ps e=>?_⟩ ?_ J.bare λb hb=>⟨(hfp b hb).2.2.2.1,(hfp b hb).2.1,(hfp b hb).2.2.2.2.1,(hfp b hb).2.2.2.2.2⟩
 .exact mv b o (old b o e).1 (B.keep b o e q hb hx)
 .obtain⟨sl,z⟩:=B.slot b o e q hb hx;exact⟨sl,mv b _ (old b o e).1 z⟩
 .rw[yF (old b o e).2];exact B.free b o e q hx
 .obtain⟨o',z⟩:=B.there b o e hx;exact⟨o',mv b o' (old b o e).1 z⟩
 .rw[yF (oldH b _ e)];exact B.tups b xs e
 .rw[yF (oldH b _ e)];exact B.frzs b o u e
 .obtain⟨more,z⟩:=B.tbls b ps e;exact⟨more,by rw[yF (oldH b _ e)];exact z⟩
 .intro b u e;by_cases hb:b=D
  .subst hb;rw[xB]at e;cases e;exact⟨hz,its,n,r,mv b _ hDC eD⟩
  .rw[yF hb]at e;refine(J.hok b u e).stay (λc v hc q=>mv c v ?_ q) (λc q=>by rw[yF (xI q nD)];exact q) λc xs q=>by rw[yF (xI q nD)];exact q
   rcases hc with z|z
   .rw[z];exact xI e nC
   .exact xI z nC
end
section
variable{X:Cx}
def GP{M:Model}{A:Around}{E:VP}{s:Shared}{scope:Scope}{globals:Addr}{closure:List (Str×Addr)}{qual:Str}{outer:Env}{Q:Env->Shared->Prop}
  (hQ:Q (newEnv scope s.heap.objs.size globals (cellsFrom (s.heap.objs.size+1) scope.names closure) qual none .none (some outer) builtinsNs) {s with heap:=pushCells (s.heap.push {cls:=.type "dict",data:=.dict #[]}) scope.names}):
  wpAny M A (newFunctionEnv scope globals closure [] qual none .none (some outer)) Q E s:=by
 simp only[newFunctionEnv,Option.isSome_some,if_true];refine wB (wpAny_alloc ?_);refine wB (wpAny_layCells _ (λname kind cells=>by cases hkc:kind==NameKind.cell<;>simp[hkc]) _ _ _ _ ?_);rw[show({s with heap:=s.heap.push {cls:=.type "dict",data:=.dict #[]}}:Shared).heap.objs.size=s.heap.objs.size+1 from Heap.size_push ..];simp only[forIn_nil];exact wB (wP (wP hQ))
def MY{C:Cx->Prop}{elt tg iter:Expr}{ifs:Vj}{pos:Pos}{sc:Scope}{wi:TI}{g:TG}{tc:Addr->Shared->Hp->List Addr->TT}{te:Addr->Shared->Hp->List Addr->TE}(T:Vc)(idx:Db)
  (hi:Qn C X tg iter wi) (hCx: ∀c s₂ H2 fp pins σ,Inv X pins σ H2 s₂->C (yD X sc T idx c s₂ H2 fp)) (hB:BS X.env.scope X.N sc idx=true)
  (hg: ∀C s₂ H1 fp,PG (yD X sc T idx C s₂ H1 fp) tg g)
  (hc: ∀C s₂ H1 fp,VZ (yD X sc T idx C s₂ H1 fp) ifs (tc C s₂ H1 fp))
  (he: ∀C s₂ H1 fp,PE (yD X sc T idx C s₂ H1 fp) elt (te C s₂ H1 fp))
  (hs: ∀x,foldedSetIterable iter X.env x=pure x:=by intro _;rfl)
  {pins:Vg} {s:Shared} {σ:St} {H:Hp} {Q:VK} {use:Option (Value->Sem Unit)} {Q':VP} (I:Inv X pins σ H s) (h:YV wi g tc te T.length idx σ H Q)
  (fin: ∀(D C:Addr)(s4:Shared)(H':Hp)(r:_),(∀h',Heap.SameBut C s4.heap h'->Inv X pins σ H' {s4 with heap:=h'})->uU X pins H' C->(∃m,s4.heap.Ns C m)->Q (.ref D) H'->
   compPost (model X.prog X.w) X.A X.xe use Q' (.ref D) C (.ok r) s4):
  wpAny (model X.prog X.w) X.A (comprehension (.ListComp elt [⟨tg,iter,ifs,0⟩] sc pos) sc X.env (firstIterPos [⟨tg,iter,ifs,0⟩] pos) (newList []) false (eval iter X.env) use) Q' X.xe s:=by
 have cf:=Fi hB;refine wpAny_comprehension_free (use:=use) (cl:=qW X.env sc.names []) rfl hs (GO (MX I cf)) cf.kind cf.locs ?_;refine jM (hi pins s σ H _ I h) λv s1 h1=>jM h1 λitv s2 h2=>?_;obtain⟨it,fp,tn,J,H2,e,I2,Tn,st2,f2,W,⟨m0,w0⟩,turn⟩:=h2;subst e;have hlt: ∀b∈fp,b<s2.heap.objs.size:=λb hb=>let ⟨o,e,_⟩:=Tn.obj _ _ st2 b hb;Heap.lt_size e;refine wpAny_newObj_type (GP ?_);dsimp only;generalize hH2:s2.heap.push {cls:=.type "list",dict:=none,data:=.seq ([]:Uk).toArray}=HH;generalize hh1:pushCells (HH.push {cls:=.type "dict",data:=.dict #[]}) sc.names=h₁;have hns₁:h₁.Ns HH.objs.size (λ_=>none):=hh1▸(Heap.Ns.new HH (.type "dict")).keeps (pushCells_keeps _ _);have hC:HH.objs.size=s2.heap.objs.size+1:=by rw[<-hH2,Heap.size_push]
 have hDC:s2.heap.objs.size≠HH.objs.size:=by rw[hC];exact Nat.ne_of_lt (Nat.lt_succ_self _)
 have hCle:s2.heap.objs.size<=HH.objs.size:=by rw[hC];exact le_succ _
 have up1: ∀b o,HH.get? b=some o->h₁.get? b=some o:=λb o e=>hh1▸pushCells_keeps _ _ b o (hP0 _ e);have old: ∀b o,s2.heap.get? b=some o->h₁.get? b=some o:=λb o e=>up1 b o (hH2▸hP0 _ e);have eD0:h₁.get? s2.heap.objs.size=some {cls:=.type "list",data:=.seq ([]:Uk).toArray 0}:=up1 _ _ (hH2▸Heap.get?_push_size _ rfl);have hcl: ∀x c,(x,c)∈cellsFrom (HH.objs.size+1) sc.names []->h₁.IsCell c none:=λx c hm=>by have ok:=cellsFrom_ok sc.names (HH.push {cls:=.type "dict",data:=.dict #[]}) 0 [] ⟨λ_ _ hm=>(nomatch hm),List.Pairwise.nil⟩ (zero_le _);rw[Heap.size_push,hh1]at ok;exact(ok.empty x c hm).1
 have nD0:H2 s2.heap.objs.size=none:=I2.hok.fresh (Nat.le_refl _)
 have cD: ∀x c,(XS X.env sc HH.objs.size).lookup x=some c->c≠s2.heap.objs.size:=λx c e=>by
  rcases iH e with z|z
  .exact Nat.ne_of_gt (tZ z hCle)
  .obtain⟨v,q⟩:=I2.cell x c (gV I2 cf z);exact Nat.ne_of_lt q.lt
 have loop: ∀s4:Shared,s4={s2 with heap:=h₁}->
   codeAny (model X.prog X.w) X.A (.compLoop (.ListComp elt [⟨tg,iter,ifs,0⟩] sc pos) 0 (.ref it) (.ref s2.heap.objs.size) (compEnvC sc (XS X.env sc HH.objs.size) HH.objs.size X.env))
    (compPost (model X.prog X.w) X.A X.xe use Q' (.ref s2.heap.objs.size) HH.objs.size) s4:=by
  rintro s4 rfl
  have J0:Inv (yD X sc T idx HH.objs.size s2 H2 fp) [] (T.map (λ_=>none)++AK σ idx) H2 {s2 with heap:=h₁}:=
   QL I2 cf hCle f2 hlt old rfl rfl hns₁ hcl
  refine JQ (λk s'=> ∃(i:Nat)(ys:List V)(its:Uk)(n:Nat)(H':Hp)(τ:St),Inv (yD X sc T idx HH.objs.size s2 H2 fp) [] (τ++AK σ idx) H' s'/\τ.length=T.length/\tn i s'.heap/\(∀b∈fp,H' b=none)/\
   s'.heap.get? s2.heap.objs.size=some {cls:=.type "list",data:=.seq its.toArray n}/\H' s2.heap.objs.size=none/\Vals ys its/\W i k ys H') ?_ m0
   ⟨0,[],[],0,H2,T.map (λ_=>none),J0,by rw[lM],Tn.keep _ _ _ st2 λb _ o e=>old b o e,λb hb=>(f2 b hb).1,eD0,nD0,.nil,w0⟩
  rintro k s3 ⟨i,ys,its,n,H3,τ,I3,hτ,st3,fr3,eD3,nD3,r3,w3⟩;obtain⟨hz,alt⟩:=turn i k ys H3 w3;have hDfs:s2.heap.objs.size∉(yD X sc T idx HH.objs.size s2 H2 fp).fs:=λz=>by obtain⟨_,o,ho,_⟩:=I2.stack.mem (show s2.heap.objs.size∈SK X.stack from z);exact absurd (Heap.lt_size ho) (lt_irrefl _)
  have pinD: ∀{H':Hp}{s':Shared},s'.heap.get? s2.heap.objs.size=some {cls:=.type "list",data:=.seq its.toArray n}->H' s2.heap.objs.size=none->
    ∀p∈[(s2.heap.objs.size,({cls:=.type "list",data:=.seq its.toArray n}:Obj))],s'.heap.get? p.1=some p.2/\H' p.1=none/\p.1≠(yD X sc T idx HH.objs.size s2 H2 fp).env.locals/\p.1∉(yD X sc T idx HH.objs.size s2 H2 fp).fs/\ ∀v,p.2.data≠.cell v:=
   λ{H' s'} e1 e2 p hp=>by
    have ep:p=(s2.heap.objs.size,{cls:=.type "list",data:=.seq its.toArray n}):=by simpa using hp
    subst ep;exact⟨e1,e2,hDC,hDfs,λv z=>by cases z⟩
  have P3:Inv (yD X sc T idx HH.objs.size s2 H2 fp) [(s2.heap.objs.size,{cls:=.type "list",data:=.seq its.toArray n})] (τ++AK σ idx) H3 s3:=I3.pins_of (pinD eD3 nD3)
  have stat: ∀{H':Hp},(∀b∈fp,H' b=none)-> ∀b∈fp,uU (yD X sc T idx HH.objs.size s2 H2 fp) [(s2.heap.objs.size,{cls:=.type "list",data:=.seq its.toArray n})] H' b:=λ{H'} hn b hb=>by
   have hb2:=hlt b hb;refine⟨hn b hb,Nat.ne_of_lt (Nat.lt_of_lt_of_le hb2 hCle),I3.ok.exfs b hb,.inl hb,λx c e=>?_,λp hp=>?_⟩
   .rcases iH e with z|z
    .exact Nat.ne_of_gt (lt_trans hb2 (tZ z hCle))
    .exact(f2 b hb).2.2.2.2.1 x c (gV I2 cf z)
   have ep:p=(s2.heap.objs.size,({cls:=.type "list",data:=.seq its.toArray n}:Obj)):=by simpa [yD]using hp
   subst ep;exact Nat.ne_of_gt hb2
  rcases alt with⟨stop,q⟩|⟨go,hl2,step⟩
  .refine jM (Tn.done (yD X sc T idx HH.objs.size s2 H2 fp) rfl rfl rfl (hCx _ _ _ _ _ _ I2) i _ s3 _ H3 (λ_ _=>False) P3 (stat fr3) st3 stop) λr s4 ⟨hr,I4⟩=>?_;subst hr;obtain⟨m,hn,_⟩:=id I4.loc;have eD4:=(I4.pin (s2.heap.objs.size,{cls:=.type "list",data:=.seq its.toArray n}) (by simp)).1;exact fin _ _ s4 _ _ (λh' hs'=>QM I2 hCle f2 (I4.pins_of (λp hp=>nomatch hp)) hs' (Nat.le_refl _) hDC eD4 nD3 r3 hz) (I2.fpOk hCle (by rw[yF (Ne.symm hDC)];exact I4.free)) ⟨m,hn⟩ (q _ nD3)
  .refine jM (Tn.item (yD X sc T idx HH.objs.size s2 H2 fp) rfl rfl rfl (hCx _ _ _ _ _ _ I2) i _ s3 _ H3 (λ_ _=>False) P3 (stat fr3) st3 go) λr s4 ⟨u,hr,h4⟩=>?_;subst hr;refine jM h4 λ_ s5 ⟨x,H5,I5,r5,y5,st5,fr5⟩=>?_;have I5':=I5.pinned (stat fr5) (Tn.obj _ _ st5);refine jM (hg HH.objs.size s2 H2 fp _ s5 _ H5 x u _ I5' r5 (step x H5 y5 τ hτ)) λ_ s6 ⟨σ6,H6,I6,⟨τ',e6,l6⟩,q6⟩=>?_;subst e6;refine jM (hc HH.objs.size s2 H2 fp _ s6 _ H6 _ I6 (q6 HH.objs.size s2 fp)) λok s7 ⟨H7,I7,q7⟩=>?_
   have mD:(s2.heap.objs.size,({cls:=.type "list",data:=.seq its.toArray n}:Obj))∈(yD X sc T idx HH.objs.size s2 H2 fp).pn++([(s2.heap.objs.size,{cls:=.type "list",data:=.seq its.toArray n})]++AG fp s5.heap):=
    List.mem_append_right _ (mem_append_left _ (by simp))
   have mF: ∀b∈fp, ∀o,s5.heap.get? b=some o->(b,o)∈(yD X sc T idx HH.objs.size s2 H2 fp).pn++([(s2.heap.objs.size,{cls:=.type "list",data:=.seq its.toArray n})]++AG fp s5.heap):=λb hb o e=>
    List.mem_append_right _ (List.mem_append_right _ (tX hb e))
   cases ok with
   |false=>
    rw[iN xF0]at q7 ⊢;obtain⟨m',hm',w7⟩:=q7;refine⟨m',hm',i+1,ys,its,n,H7,τ',I7.pins_of (λp hp=>nomatch hp),l6,Tn.keep _ _ _ st5 λb hb o e=>(I7.pin _ (mF b hb o e)).1,λb hb=>?_,(I7.pin _ mD).1,(I7.pin _ mD).2.1,r3,w7⟩;obtain⟨o,e,d⟩:=Tn.obj _ _ st5 b hb;exact(I7.pin _ (mF b hb o e)).2.1
   |true=>
    rw[iP rfl]at q7 ⊢;refine jM (he HH.objs.size s2 H2 fp _ s7 _ H7 _ I7 q7) λy s8 ⟨yv,H8,I8,r8,m',hm',w8⟩=>?_;have eD8:=(I8.pin _ mD).1;have nD8:=(I8.pin _ mD).2.1;have hl:=r3.length;have q:=PySem.IsL.update eD8 (λz=>z.push y);rw[show its.toArray.push y=(its++[y]).toArray by simp]at q;refine call_meets PySem.F.slot_list_append ⟨_,eD8,rfl⟩ PySem.F.entry_list_append (PySem.F.args_list_append_2 _ _) (PySem.list_append s2.heap.objs.size its.toArray n y (by rw[sA];omega)) ⟨eD8,?_⟩;have I9:Inv (yD X sc T idx HH.objs.size s2 H2 fp) [] (τ'++AK σ idx) H8 s8:=I8.pins_of (λp hp=>nomatch hp);have up: ∀b o,b≠s2.heap.objs.size->s8.heap.get? b=some o->(s8.heap.update s2.heap.objs.size (Obj.mapSeq λz=>z.push y)).get? b=some o:=λb o hb e=>(Heap.get?_update_other s8.heap _ (Ne.symm hb)).trans e;refine⟨m',hm',i+1,ys++[yv],its++[y],_,H8,τ',I9.turned (t':=s8.toks) up nD8 hDC (.inr (Nat.le_refl _)) cD (λp hp=>nomatch hp),l6,?_,λb hb=>?_,q,nD8,r3.append (.cons r8 .nil),w8⟩
    .exact Tn.keep _ _ _ st5 λb hb o e=>up b o (Nat.ne_of_lt (hlt b hb)) (I8.pin _ (mF b hb o e)).1
    .obtain⟨o,e,d⟩:=Tn.obj _ _ st5 b hb;exact(I8.pin _ (mF b hb o e)).2.1
 exact codeAny_compStart_list (loop _ rfl) (Tn.self X.A 0 _ _ _ (Tn.keep _ _ _ st2 λb _ o e=>old b o e) (loop _ rfl))
def Fk{C:Cx->Prop}{elt tg iter:Expr}{ifs:Vj}{pos:Pos}{sc:Scope}{wi:TI}{g:TG}{tc:Addr->Shared->Hp->List Addr->TT}{te:Addr->Shared->Hp->List Addr->TE}(T:Vc)(idx:Db)
  (hi:Qn C X tg iter wi) (hCx: ∀c s₂ H2 fp pins σ,Inv X pins σ H2 s₂->C (yD X sc T idx c s₂ H2 fp)) (hB:BS X.env.scope X.N sc idx=true)
  (hg: ∀C s₂ H1 fp,PG (yD X sc T idx C s₂ H1 fp) tg g)
  (hc: ∀C s₂ H1 fp,VZ (yD X sc T idx C s₂ H1 fp) ifs (tc C s₂ H1 fp))
  (he: ∀C s₂ H1 fp,PE (yD X sc T idx C s₂ H1 fp) elt (te C s₂ H1 fp))
  (hs: ∀x,foldedSetIterable iter X.env x=pure x:=by intro _;rfl):
  PE X (.ListComp elt [⟨tg,iter,ifs,0⟩] sc pos) (YV wi g tc te T.length idx):=by
 intro pins s σ H Q I h;rw[eval_ListComp];exact MY T idx hi hCx hB hg hc he hs (use:=none) I h λD C s4 H' r J _ ⟨m,hn⟩ q=>⟨m,hn,λh' hs'=>⟨.ref D,H',J h' hs',rfl,q⟩⟩
end
def gF(x:Db):Str:=⟨x.toArray⟩
def gW(x:Db):(gF x).length=x.length:=by simp[gF,Str.length]
def uY(x:Db):(gF x).cps.toList=x:=by simp[gF]
def CP{x y:Db}(h:gF x=gF y):x=y:=by have:=congrArg (λs=>s.cps.toList) h;simpa [gF]using this
def Fm(x y:Db):gF x++gF y=gF (x++y):=by show Str.append (gF x) (gF y)=_;simp[Str.append,gF]
theorem Fo(c:Nat):(⟨#[c]⟩:Str)=gF [c]:=rfl
def cN{α:Type}(xs:List α)(lo hi:Vi):List α:=(xs.drop (HT.sIx xs.length 0 lo)).take (HT.sIx xs.length xs.length hi - HT.sIx xs.length 0 lo)
theorem strIdx(lo hi:Vi)(n:Nat):Builtin.Str.strSliceIndices lo hi 1 n=(List.range (HT.sIx n n hi - HT.sIx n 0 lo)).map (HT.sIx n 0 lo+·):=by
 have e1:(match lo with |none=>(if(1:Int)>0 then(0:Int)else(n:Int) - 1)|some i=>if(1:Int)>0 then max 0 (min (if i<0 then i+(n:Int)else i) (n:Int))else max (-1) (min (if i<0 then i+(n:Int)else i) ((n:Int) - 1)))=((HT.sIx n 0 lo:Nat):Int):=by
  cases lo with
  |none=>simp[HT.sIx]
  |some i=>
   simp only[HT.sIx,show(1:Int)>0 by decide,if_true];by_cases h:i<0
   .simp only[h,if_true];omega
   .simp only[h,iF];omega
 have e2:(match hi with |none=>(if(1:Int)>0 then(n:Int)else -1)|some i=>if(1:Int)>0 then max 0 (min (if i<0 then i+(n:Int)else i) (n:Int))else max (-1) (min (if i<0 then i+(n:Int)else i) ((n:Int) - 1)))=((HT.sIx n n hi:Nat):Int):=by
  cases hi with
  |none=>simp[HT.sIx]
  |some i=>
   simp only[HT.sIx,show(1:Int)>0 by decide,if_true];by_cases h:i<0
   .simp only[h,if_true];omega
   .simp only[h,iF];omega
 rw[<-sliceRange_one];unfold Builtin.Str.strSliceIndices;dsimp only;rw[<-e1, <-e2];cases lo<;>cases hi<;>rfl
theorem WB(x:Db)(lo hi:Vi):Txt.slice (gF x) lo hi=gF (cN x lo hi):=by
 unfold Txt.slice;rw[strIdx,gW];have hp:((List.range (HT.sIx x.length x.length hi - HT.sIx x.length 0 lo)).map (HT.sIx x.length 0 lo+·)).filterMap ((gF x).cps[·]?)=cN x lo hi:=by have:=pick_run (gF x).cps (HT.sIx x.length 0 lo) (HT.sIx x.length x.length hi - HT.sIx x.length 0 lo);rw[uY]at this;exact this
 rw[hp];split
 .rename_i hc;rw[aE]at hc;have hl:HT.sIx x.length x.length hi - HT.sIx x.length 0 lo=x.length:=by simpa using hc.2
  have h2:HT.sIx x.length x.length hi<=x.length:=HT.sIx_le _ _ (Nat.le_refl _) _;have h3:HT.sIx x.length 0 lo<=x.length:=HT.sIx_le _ _ (zero_le _) _;have e:HT.sIx x.length 0 lo=0:=by omega
  unfold cN;rw[hl,e];simp
 .rfl
section
variable{X:Cx}
def rSlS:V->Option Int->Option Int->Hp->VK->Prop:=λx lo hi H Q=> ∃cs,x=.str (gF cs)/\cs.length<=sizeLine/\Q (.str (gF (cN cs lo hi))) H
def Mh:SlR X rSlS:=by
 intro pins s σ H x v vl vu lo hi sl Q I rx hs pl pu h;obtain⟨cs,rfl,hz,q⟩:=h;obtain⟨t,rfl⟩:=rx;have hl:(Txt.slice (gF cs) lo hi).length<=sizeLine:=Nat.le_trans (Txt.slice_le _ _ _) (by rw[gW];exact hz);rw[<-WB]at q;refine⟨"str",_,slot_str_getitem.lookup,typeIs_str _ _ _,?_⟩;obtain⟨o,ho,hc,hd⟩:=hs
 cases pl with
 |none=>
  cases pu with
  |none=>exact wpAny_getItem_str_slice (l:=none) (u:=none) (st:=none) ⟨o,ho,hc,hd⟩ rfl (post_val_or_str ⟨hl,λt' k=>⟨.str _,H,I.tok _,⟨_,rfl⟩,q⟩⟩)
  |int j uj=>exact wpAny_getItem_str_slice (l:=none) (u:=some (j,uj)) (st:=none) ⟨o,ho,hc,hd⟩ rfl (post_val_or_str ⟨hl,λt' k=>⟨.str _,H,I.tok _,⟨_,rfl⟩,q⟩⟩)
 |int i ui=>
  cases pu with
  |none=>exact wpAny_getItem_str_slice (l:=some (i,ui)) (u:=none) (st:=none) ⟨o,ho,hc,hd⟩ rfl (post_val_or_str ⟨hl,λt' k=>⟨.str _,H,I.tok _,⟨_,rfl⟩,q⟩⟩)
  |int j uj=>exact wpAny_getItem_str_slice (l:=some (i,ui)) (u:=some (j,uj)) (st:=none) ⟨o,ho,hc,hd⟩ rfl (post_val_or_str ⟨hl,λt' k=>⟨.str _,H,I.tok _,⟨_,rfl⟩,q⟩⟩)
def DR(cs:Db)(k:Int):List Nat:=(List.replicate k.toNat cs).flatten
theorem AM(cs:Db): ∀(k:Nat)(acc:Db),List.foldl (λx1 x2=>x1++x2) acc.toArray (List.replicate k cs.toArray)=(acc++(List.replicate k cs).flatten).toArray
 |0,acc=>by simp
 |k+1,acc=>by rw[replicate_succ,List.foldl_cons,replicate_succ,flatten_cons, <-aA, <-AM cs k (acc++cs)];simp
def QN:OpR X (binaryOp .Mult) (λx y H Q=> ∃cs k,x=.str (gF cs)/\y=.int k/\0<=k/\k<1000/\cs.length<=1000/\Q (.str (gF (DR cs k))) H):=by
 intro pins s σ H x y v u Q I rx ry h;obtain⟨cs,k,rfl,rfl,h0,h1,hc,q⟩:=h;obtain⟨t,rfl⟩:=rx;obtain⟨t',rfl⟩:=ry;have hs:sizeLine=16777216:=sizeLine_eq;have hprod:cs.length * k.toNat<=1000 * 1000:=Nat.mul_le_mul hc (by omega);have e: ∀b,Q (.str b) H->b=gF (DR cs k)->True:=λ_ _ _=>trivial;refine PySem.P.mul_str (by rw[dF0 (by omega),dF0 (by omega)];rfl) (λh2 _=>?_) (λ_ _=>?_) ?_
 .rw[gW];have hk:1<=k:=by omega
  have:(1000:Int)<=(2 ^ 63 - 1) / k:=by rw[Int.le_ediv_iff_mul_le (by omega)];omega
  omega
 .rw[gW];unfold PySem.Builtin.Str.tooLong;exact dF0 (by omega)
 .have made: ∀(z:Str),z=gF (DR cs k)->z.length<=sizeLine->(Made.str z).post (EP X pins σ Q) s:=λz ez hz=>⟨hz,by rw[ez];exact⟨.str _,H,I.tok _,⟨_,rfl⟩,q⟩⟩
  have hlen:(DR cs k).length=k.toNat * cs.length:=by unfold DR;rw[len_rep]
  by_cases hn:k<1
  .rw[iP hn];have hk:k.toNat=0:=by omega
   refine made _ ?_ (by decide);unfold DR;rw[hk];rfl
  .rw[iN hn];by_cases h3:(k==1 || (gF cs).length==0)=true
   .rw[iP h3];refine⟨.str (gF cs),H,I,⟨_,rfl⟩,?_⟩
    have:DR cs k=cs:=by
     unfold DR;rw[Bool.or_eq_true]at h3;rcases h3 with h3|h3
     .have:k=1:=by simpa using h3
      subst this;simp
     .rw[gW]at h3;have:cs=[]:=by cases cs with |nil=>rfl|cons _ _=>simp at h3
      subst this;simp
    rw[this]at q;exact q
   .rw[iN h3];refine made _ ?_ ?_
    .unfold DR gF;have:=AM cs k.toNat [];rw[List.nil_append]at this;exact congrArg Str.mk this
    .have e3:(List.foldl (λx1 x2=>x1++x2) #[] (List.replicate k.toNat (gF cs).cps))=(DR cs k).toArray:=by have:=AM cs k.toNat [];rw[List.nil_append]at this;exact this
     show(List.foldl (λx1 x2=>x1++x2) #[] (List.replicate k.toNat (gF cs).cps)).size<=sizeLine;rw[e3,sA,hlen,Nat.mul_comm];omega
def Rk(x:Db):It:=⟨λi _=>i<x.length,λi H v H'=>H'=H/\ ∃c,x[i]? =some c/\v=.str (gF [c]),λi _=>x.length<=i⟩
def iStr(tl:TE):TI:=λσ H R=>tl σ H λv H1=> ∃x,v=.str (gF x)/\R (Rk x) H1
def MZ{P:Program}{w:World}{K:Vk}{tg:Expr}(it:Addr)(ty:String)(x:Db)(t:Tok)(hty:ty="str_ascii_iterator"\/ty="str_iterator"):
  Turn P w K tg (Rk x) [it] it (λi h=>h.IsStrIter it ty (gF x) t i) where
 mem:=by simp
 obj:=λi h st b hb=>by
  have e:b=it:=by simpa using hb
  subst e;obtain⟨o,e,c,d⟩:=st;exact⟨o,e,λv z=>by rw[d]at z;cases z⟩
 keep:=λi h h' st k=>let ⟨o,ho,r⟩:=st;⟨o,k it (by simp) o ho,r⟩
 item:=by
  intro X hP hw hK hc i pins s σ H E I hf st hg;subst hP hw hK;obtain⟨f0,f1,f2,f3,f4,f5⟩:=hf it (by simp);have hi:i<x.length:=hg;have hxi:(gF x).cps[i]? =some x[i]:=by simp[gF,hi]
  have fin: ∀(h':Heap),h'.IsStrIter it ty (gF x) t (i+1)->Heap.SameBut it s.heap h'-> ∃u,some (Value.str ⟨#[x[i]]⟩ s.toks)=some u/\
    wpAny (model X.prog X.w) X.A (letOwnedTupleGo tg (.ref it) u) (λ_ s2=> ∃y H',Inv X pins σ H' s2/\RelV y u/\(Rk x).yld i H y H'/\s2.heap.IsStrIter it ty (gF x) t (i+1)/\ ∀b∈[it],H' b=none) E {s with heap:=h',toks:=s.toks+1}:=λh' st' sb=>by
   have I1:Inv X pins σ H {s with heap:=h',toks:=s.toks+1}:=I.turned (λb o hb e=>(sb.2 b hb).trans e) f0 f1 f3 f4 f5;obtain⟨o,e,c,d⟩:=id st';refine⟨_,rfl,MR (s:={s with heap:=h',toks:=s.toks+1}) e c d (by rcases hty with rfl|rfl<;>decide) ⟨.str (gF [x[i]]),H,I1,⟨_,rfl⟩,⟨rfl,x[i],by simp[hi],rfl⟩,st',λb hb=>(hf b hb).1⟩⟩
  rcases hty with rfl|rfl
  .exact wpAny_pyNext_ascii_item st hxi λh' st' sb=>fin h' st' sb
  .exact wpAny_pyNext_wide_item st hxi λh' st' sb=>fin h' st' sb
 done:=by
  intro X hP hw hK hc i pins s σ H E I hf st hg;subst hP hw hK;obtain⟨f0,f1,f2,f3,f4,f5⟩:=hf it (by simp);have hi:x.length<=i:=hg;have hxi:(gF x).cps[i]? =none:=by simp[gF,hi]
  rcases hty with rfl|rfl
  .exact wpAny_pyNext_ascii_end (I.ok.hd hc) st hxi λh' eb=>⟨rfl,I.turned (t':=s.toks) (λb o hb e=>eb b o hb e) f0 f1 f3 f4 f5⟩
  .exact wpAny_pyNext_wide_end (I.ok.hd hc) st hxi λh' eb=>⟨rfl,I.turned (t':=s.toks) (λb o hb e=>eb b o hb e) f0 f1 f3 f4 f5⟩
 self:=λ_ _ _ _ _ st h=>by
  rcases hty with rfl|rfl
  .exact wpAny_pyIter_striter_ascii st h
  .exact wpAny_pyIter_striter_wide st h
def Mi{tg l:Expr}{tl:TE}(hl:PE X l tl):PI X tg l (iStr tl):=by
 intro pins s σ H R I h;refine jM (hl pins s σ H _ I h) λv s1 ⟨x,H1,I1,r1,q1⟩=>?_;obtain⟨cs,e,q⟩:=q1;subst e;obtain⟨t,rfl⟩:=r1
 have fp: ∀(o:Obj), ∀b∈[s1.heap.objs.size],uU X pins H1 b:=λo b hb=>by
  have e:b=s1.heap.objs.size:=by simpa using hb
  subst e;exact I1.fpOk (Nat.le_refl _) (I1.hok.fresh (Nat.le_refl _))
 cases ha:(gF cs).cps.all (· <128)
 .refine wpAny_pyIter_wide ha ?_;exact⟨s1.heap.objs.size,[s1.heap.objs.size],_,_,H1,rfl,I1.kept (t':=s1.toks) λb o e=>hP0 _ e,MZ _ "str_iterator" cs t (.inr rfl),⟨_,Heap.get?_push_size _ rfl,rfl,rfl⟩,fp default,q⟩
 .refine wpAny_pyIter_ascii ha ?_;exact⟨s1.heap.objs.size,[s1.heap.objs.size],_,_,H1,rfl,I1.kept (t':=s1.toks) λb o e=>hP0 _ e,MZ _ "str_ascii_iterator" cs t (.inl rfl),⟨_,Heap.get?_push_size _ rfl,rfl,rfl⟩,fp default,q⟩
end
section
variable{X:Cx}
def PU(X:Cx)(e:Expr)(t:TE):Prop:= ∀(i:Nat)(x:Str)(pos' pos:Pos),X.N.Nodup->X.N[i]? =some x->Loc X.env.scope x->(X.fn x=true\/X.env.scope.names.lookup x=some .local)->
 swapsWith e (some (.Name x pos')) pos.line X.env=pure true->PS X (.Assign [.Name x pos'] e pos) (Lh t (YA i))
def Fp{C:Cx->Prop}{elt tg iter:Expr}{ifs:Vj}{pos:Pos}{sc:Scope}{wi:TI}{g:TG}{tc:Addr->Shared->Hp->List Addr->TT}{te:Addr->Shared->Hp->List Addr->TE}(T:Vc)(idx:Db)
  (hi:Qn C X tg iter wi) (hCx: ∀c s₂ H2 fp pins σ,Inv X pins σ H2 s₂->C (yD X sc T idx c s₂ H2 fp)) (hB:BS X.env.scope X.N sc idx=true)
  (hg: ∀C s₂ H1 fp,PG (yD X sc T idx C s₂ H1 fp) tg g)
  (hc: ∀C s₂ H1 fp,VZ (yD X sc T idx C s₂ H1 fp) ifs (tc C s₂ H1 fp))
  (he: ∀C s₂ H1 fp,PE (yD X sc T idx C s₂ H1 fp) elt (te C s₂ H1 fp))
  (hs: ∀x,foldedSetIterable iter X.env x=pure x:=by intro _;rfl):
  PU X (.ListComp elt [⟨tg,iter,ifs,0⟩] sc pos) (YV wi g tc te T.length idx):=by
 intro i x pos' spos hN hix hx hf hsw pins s σ H D I h;rw[exec_Assign_Name_used _ _ _ _ hsw];refine wB (wpAny_standAt (wB ?_));rw[arm_evalThenUse_ListComp];refine wB (jM (MY T idx hi hCx hB hg hc he hs (use:=some (assign (.Name x pos') X.env)) (Q':=λ_ s'=> ∃σ' H',Inv X pins σ' H' s'/\D.nx σ' H') I h λDd C s4 H' _ J4 fo hm q=>?_) λ_ s' hq=>wP (wP hq));have I4:=J4 s4.heap (Heap.SameBut.refl _ _);refine wpAny_assign_Name (HL I4 hN hix hx (show RelV (.ref Dd) (.ref Dd)from rfl) (λs' I' ⟨a,hs',ha⟩=>?_) hf);obtain⟨m,hm⟩:=hm
 have hCa:C≠a:=by
  rintro rfl;rcases ha with ha|ha
  .exact fo.2.1 ha
  .exact fo.2.2.2.2.1 x _ ha rfl
 refine⟨m,hm.sameBut hs' hCa,λh' hs''=>⟨_,H',?_,q⟩⟩;exact I'.turned (t':=s'.toks) (λb o hb e=>(hs''.2 b hb).trans e) fo.1 fo.2.1 fo.2.2.2.1 fo.2.2.2.2.1 fo.2.2.2.2.2
end
end L2
namespace L2
namespace M
open PySem PySem.Spec PyProof.Rows
def Mj{A:Around}{s:Shared}{y x:V}{u v:Value}(ry:RelV y u)(rx:RelV x v)(fy:wV y=true)(fx:wV x=true):SeqAt.RcAt A s u v (Ff y x):=by
 cases y with
 |non=>
  cases ry
  cases x with
  |non=>cases rx;exact SeqAt.RcAt.none_none
  |bl b=>cases rx;exact SeqAt.RcAt.none_bool b
  |int b=>obtain⟨t,rfl⟩:=rx;exact SeqAt.RcAt.none_int b t
  |str b=>obtain⟨t,rfl⟩:=rx;exact SeqAt.RcAt.none_str b t
  |_=>exact absurd (show false=true from fx) xF0
 |bl a=>
  cases ry
  cases x with
  |non=>cases rx;exact SeqAt.RcAt.bool_none a
  |bl b=>cases rx;exact SeqAt.RcAt.bool_bool a b
  |int b=>obtain⟨t,rfl⟩:=rx;exact SeqAt.RcAt.bool_int a b t
  |str b=>obtain⟨t,rfl⟩:=rx;exact SeqAt.RcAt.bool_str a b t
  |_=>exact absurd (show false=true from fx) xF0
 |int a=>
  obtain⟨t',rfl⟩:=ry
  cases x with
  |non=>cases rx;exact SeqAt.RcAt.int_none a t'
  |bl b=>cases rx;exact SeqAt.RcAt.int_bool a t' b
  |int b=>obtain⟨t,rfl⟩:=rx;exact SeqAt.RcAt.int_int a t' b t
  |str b=>obtain⟨t,rfl⟩:=rx;exact SeqAt.RcAt.int_str a t' b t
  |_=>exact absurd (show false=true from fx) xF0
 |str a=>
  obtain⟨t',rfl⟩:=ry
  cases x with
  |non=>cases rx;exact SeqAt.RcAt.str_none a t'
  |bl b=>cases rx;exact SeqAt.RcAt.str_bool a t' b
  |int b=>obtain⟨t,rfl⟩:=rx;exact SeqAt.RcAt.str_int a t' b t
  |str b=>obtain⟨t,rfl⟩:=rx;exact SeqAt.RcAt.str_str a t' b t
  |_=>exact absurd (show false=true from fx) xF0
 |_=>exact absurd (show false=true from fy) xF0
def Ml{A:Around}{s:Shared}{y x:V}{u v:Value}(ry:RelV y u)(rx:RelV x v)(fy:wV y=true)(fx:wV x=true):SeqAt.RcNeAt A s u v (!Ff y x):=by
 cases y with
 |non=>
  cases ry
  cases x with
  |non=>cases rx;exact SeqAt.RcNeAt.none_none
  |bl b=>cases rx;exact SeqAt.RcNeAt.none_bool b
  |int b=>obtain⟨t,rfl⟩:=rx;exact SeqAt.RcNeAt.none_int b t
  |str b=>obtain⟨t,rfl⟩:=rx;exact SeqAt.RcNeAt.none_str b t
  |_=>exact absurd (show false=true from fx) xF0
 |bl a=>
  cases ry
  cases x with
  |non=>cases rx;exact SeqAt.RcNeAt.bool_none a
  |bl b=>cases rx;exact SeqAt.RcNeAt.bool_bool a b
  |int b=>obtain⟨t,rfl⟩:=rx;exact SeqAt.RcNeAt.bool_int a b t
  |str b=>obtain⟨t,rfl⟩:=rx;exact SeqAt.RcNeAt.bool_str a b t
  |_=>exact absurd (show false=true from fx) xF0
 |int a=>
  obtain⟨t',rfl⟩:=ry
  cases x with
  |non=>cases rx;exact SeqAt.RcNeAt.int_none a t'
  |bl b=>cases rx;exact SeqAt.RcNeAt.int_bool a t' b
  |int b=>obtain⟨t,rfl⟩:=rx;exact SeqAt.RcNeAt.int_int a t' b t
  |str b=>obtain⟨t,rfl⟩:=rx;exact SeqAt.RcNeAt.int_str a t' b t
  |_=>exact absurd (show false=true from fx) xF0
 |str a=>
  obtain⟨t',rfl⟩:=ry
  cases x with
  |non=>cases rx;exact SeqAt.RcNeAt.str_none a t'
  |bl b=>cases rx;exact SeqAt.RcNeAt.str_bool a t' b
  |int b=>obtain⟨t,rfl⟩:=rx;exact SeqAt.RcNeAt.str_int a t' b t
  |str b=>obtain⟨t,rfl⟩:=rx;exact SeqAt.RcNeAt.str_str a t' b t
  |_=>exact absurd (show false=true from fx) xF0
 |_=>exact absurd (show false=true from fy) xF0
def Rl{A:Around}{s:Shared}{x:V}{v:Value}{l:Addr}{items:Va}(rx:RelV x v)(fx:wV x=true)(hl:s.heap.IsList l items)(hu:A.units<cLine):SeqAt.EqAt A s (.ref l) v false:=by
 cases x with
 |non=>cases rx;exact SeqAt.EqAt.list_none hl hu
 |bl b=>cases rx;exact SeqAt.EqAt.list_bool b hl hu
 |int b=>obtain⟨t,rfl⟩:=rx;exact SeqAt.EqAt.list_int b t hl hu
 |str b=>obtain⟨t,rfl⟩:=rx;exact SeqAt.EqAt.list_str b t hl hu
 |_=>exact absurd (show false=true from fx) xF0
def Rm{A:Around}{s:Shared}{x:V}{v:Value}{l:Addr}{items:Va}(rx:RelV x v)(fx:wV x=true)(hl:s.heap.IsList l items)(hu:A.units<cLine):SeqAt.EqAt A s v (.ref l) false:=by
 cases x with
 |non=>cases rx;exact SeqAt.EqAt.none_list hl hu
 |bl b=>cases rx;exact SeqAt.EqAt.bool_list b hl hu
 |int b=>obtain⟨t,rfl⟩:=rx;exact SeqAt.EqAt.int_list b t hl hu
 |str b=>obtain⟨t,rfl⟩:=rx;exact SeqAt.EqAt.str_list b t hl hu
 |_=>exact absurd (show false=true from fx) xF0
def Jr{A:Around}{s:Shared}{x:V}{v:Value}{l:Addr}{items:Va}(rx:RelV x v)(fx:wV x=true)(hl:s.heap.IsTuple l items)(hu:A.units<cLine):SeqAt.EqAt A s (.ref l) v false:=by
 cases x with
 |non=>cases rx;exact SeqAt.EqAt.tuple_none hl hu
 |bl b=>cases rx;exact SeqAt.EqAt.tuple_bool b hl hu
 |int b=>obtain⟨t,rfl⟩:=rx;exact SeqAt.EqAt.tuple_int b t hl hu
 |str b=>obtain⟨t,rfl⟩:=rx;exact SeqAt.EqAt.tuple_str b t hl hu
 |_=>exact absurd (show false=true from fx) xF0
def Js{A:Around}{s:Shared}{x:V}{v:Value}{l:Addr}{items:Va}(rx:RelV x v)(fx:wV x=true)(hl:s.heap.IsTuple l items)(hu:A.units<cLine):SeqAt.EqAt A s v (.ref l) false:=by
 cases x with
 |non=>cases rx;exact SeqAt.EqAt.none_tuple hl hu
 |bl b=>cases rx;exact SeqAt.EqAt.bool_tuple b hl hu
 |int b=>obtain⟨t,rfl⟩:=rx;exact SeqAt.EqAt.int_tuple b t hl hu
 |str b=>obtain⟨t,rfl⟩:=rx;exact SeqAt.EqAt.str_tuple b t hl hu
 |_=>exact absurd (show false=true from fx) xF0
def Rn{A:Around}{s:Shared}{x:V}{v:Value}{l:Addr}{items:Va}(rx:RelV x v)(fx:wV x=true)(hl:s.heap.IsList l items)(hu:A.units<cLine):SeqAt.RcAt A s (.ref l) v false:=by
 cases x with
 |non=>cases rx;exact SeqAt.RcAt.list_none hl hu
 |bl b=>cases rx;exact SeqAt.RcAt.list_bool b hl hu
 |int b=>obtain⟨t,rfl⟩:=rx;exact SeqAt.RcAt.list_int b t hl hu
 |str b=>obtain⟨t,rfl⟩:=rx;exact SeqAt.RcAt.list_str b t hl hu
 |_=>exact absurd (show false=true from fx) xF0
def Ro{A:Around}{s:Shared}{x:V}{v:Value}{l:Addr}{items:Va}(rx:RelV x v)(fx:wV x=true)(hl:s.heap.IsList l items)(hu:A.units<cLine):SeqAt.RcAt A s v (.ref l) false:=by
 cases x with
 |non=>cases rx;exact SeqAt.RcAt.none_list hl hu
 |bl b=>cases rx;exact SeqAt.RcAt.bool_list b hl hu
 |int b=>obtain⟨t,rfl⟩:=rx;exact SeqAt.RcAt.int_list b t hl hu
 |str b=>obtain⟨t,rfl⟩:=rx;exact SeqAt.RcAt.str_list b t hl hu
 |_=>exact absurd (show false=true from fx) xF0
def Rp{A:Around}{s:Shared}{x:V}{v:Value}{l:Addr}{items:Va}(rx:RelV x v)(fx:wV x=true)(hl:s.heap.IsTuple l items)(hu:A.units<cLine):SeqAt.RcAt A s (.ref l) v false:=by
 cases x with
 |non=>cases rx;exact SeqAt.RcAt.tuple_none hl hu
 |bl b=>cases rx;exact SeqAt.RcAt.tuple_bool b hl hu
 |int b=>obtain⟨t,rfl⟩:=rx;exact SeqAt.RcAt.tuple_int b t hl hu
 |str b=>obtain⟨t,rfl⟩:=rx;exact SeqAt.RcAt.tuple_str b t hl hu
 |_=>exact absurd (show false=true from fx) xF0
def Rq{A:Around}{s:Shared}{x:V}{v:Value}{l:Addr}{items:Va}(rx:RelV x v)(fx:wV x=true)(hl:s.heap.IsTuple l items)(hu:A.units<cLine):SeqAt.RcAt A s v (.ref l) false:=by
 cases x with
 |non=>cases rx;exact SeqAt.RcAt.none_tuple hl hu
 |bl b=>cases rx;exact SeqAt.RcAt.bool_tuple b hl hu
 |int b=>obtain⟨t,rfl⟩:=rx;exact SeqAt.RcAt.int_tuple b t hl hu
 |str b=>obtain⟨t,rfl⟩:=rx;exact SeqAt.RcAt.str_tuple b t hl hu
 |_=>exact absurd (show false=true from fx) xF0
def Rr{A:Around}{s:Shared}{x:V}{v:Value}{l:Addr}{items:Va}(rx:RelV x v)(fx:wV x=true)(hl:s.heap.IsList l items)(hu:A.units<cLine):SeqAt.RcNeAt A s (.ref l) v true:=by
 cases x with
 |non=>cases rx;exact SeqAt.RcNeAt.list_none hl hu
 |bl b=>cases rx;exact SeqAt.RcNeAt.list_bool b hl hu
 |int b=>obtain⟨t,rfl⟩:=rx;exact SeqAt.RcNeAt.list_int b t hl hu
 |str b=>obtain⟨t,rfl⟩:=rx;exact SeqAt.RcNeAt.list_str b t hl hu
 |_=>exact absurd (show false=true from fx) xF0
def Rt{A:Around}{s:Shared}{x:V}{v:Value}{l:Addr}{items:Va}(rx:RelV x v)(fx:wV x=true)(hl:s.heap.IsList l items)(hu:A.units<cLine):SeqAt.RcNeAt A s v (.ref l) true:=by
 cases x with
 |non=>cases rx;exact SeqAt.RcNeAt.none_list hl hu
 |bl b=>cases rx;exact SeqAt.RcNeAt.bool_list b hl hu
 |int b=>obtain⟨t,rfl⟩:=rx;exact SeqAt.RcNeAt.int_list b t hl hu
 |str b=>obtain⟨t,rfl⟩:=rx;exact SeqAt.RcNeAt.str_list b t hl hu
 |_=>exact absurd (show false=true from fx) xF0
def Ru{A:Around}{s:Shared}{x:V}{v:Value}{l:Addr}{items:Va}(rx:RelV x v)(fx:wV x=true)(hl:s.heap.IsTuple l items)(hu:A.units<cLine):SeqAt.RcNeAt A s (.ref l) v true:=by
 cases x with
 |non=>cases rx;exact SeqAt.RcNeAt.tuple_none hl hu
 |bl b=>cases rx;exact SeqAt.RcNeAt.tuple_bool b hl hu
 |int b=>obtain⟨t,rfl⟩:=rx;exact SeqAt.RcNeAt.tuple_int b t hl hu
 |str b=>obtain⟨t,rfl⟩:=rx;exact SeqAt.RcNeAt.tuple_str b t hl hu
 |_=>exact absurd (show false=true from fx) xF0
def Rv{A:Around}{s:Shared}{x:V}{v:Value}{l:Addr}{items:Va}(rx:RelV x v)(fx:wV x=true)(hl:s.heap.IsTuple l items)(hu:A.units<cLine):SeqAt.RcNeAt A s v (.ref l) true:=by
 cases x with
 |non=>cases rx;exact SeqAt.RcNeAt.none_tuple hl hu
 |bl b=>cases rx;exact SeqAt.RcNeAt.bool_tuple b hl hu
 |int b=>obtain⟨t,rfl⟩:=rx;exact SeqAt.RcNeAt.int_tuple b t hl hu
 |str b=>obtain⟨t,rfl⟩:=rx;exact SeqAt.RcNeAt.str_tuple b t hl hu
 |_=>exact absurd (show false=true from fx) xF0
def NA{y:V}(h:wV y=true):Ff y y=true:=by cases y<;>first |rfl|(simp[Ff];done)|exact absurd (show false=true from h) xF0
abbrev K3:=Option Key
inductive NK where
 |key (k:K3)|tup (ks:List NK)
instance:DecidableEq NK:=λ_ _=>Classical.propDecidable _
section
variable{prog:Program}{w:World}(knd:KeyKind prog w K3)
mutual
def GQ(h:Heap):NK->Value->Prop
 |.key k,v=>knd.is k v=true
 |.tup ks,v=> ∃a o items n,v=.ref a/\h.get? a=some o/\o.cls=.type "tuple"/\o.data=.seq items n/\rK h ks items.toList
def rK(h:Heap):List NK->List Value->Prop
 |[],vs=>vs=[]
 |k::ks,vs=> ∃v r,vs=v::r/\GQ h k v/\rK h ks r
end
mutual
def rL:NK->Int
 |.key k=>knd.hash k
 |.tup ks=>reduceHash (Builtin.Tuple.tupleHashOf (DS ks))
def DS:List NK->List Int
 |[]=>[]
 |k::ks=>rL k::DS ks
end
mutual
def DT:NK->Nat
 |.key _=>1
 |.tup ks=>dX ks+1
def dX:List NK->Nat
 |[]=>0
 |k::ks=>DT k+dX ks
end
mutual
def oC:NK->Nat
 |.key _=>0
 |.tup ks=>rM ks+1
def rM:List NK->Nat
 |[]=>0
 |k::ks=>max (oC k) (rM ks)
end
variable{knd}
theorem kZ{h:Heap}{k:K3}{v:Value}:GQ knd h (.key k) v↔knd.is k v=true:=by unfold GQ;exact Iff.rfl
def kP{h:Heap}{ks:List NK}{v:Value}:GQ knd h (.tup ks) v↔ ∃a o items n,v=.ref a/\h.get? a=some o/\o.cls=.type "tuple"/\o.data=.seq items n/\rK knd h ks items.toList:=by
 conv=>lhs;unfold GQ
theorem jI{h:Heap}{vs:Uk}:rK knd h [] vs↔vs=[]:=by unfold rK;exact Iff.rfl
def xK{h:Heap}{k:NK}{ks:List NK}{vs:Uk}:rK knd h (k::ks) vs↔ ∃v r,vs=v::r/\GQ knd h k v/\rK knd h ks r:=by
 conv=>lhs;unfold rK
mutual
theorem JR{h:Heap}: ∀{x y:NK}{v:Value},GQ knd h x v->GQ knd h y v->x=y
 |.key k,.key k',v,hx,hy=>by rw[knd.inj v k k' (kZ.mp hx) (kZ.mp hy)]
 |.key k,.tup ks,v,hx,hy=>by obtain⟨a,o,items,n,rfl,_⟩:=kP.mp hy;have:=knd.byValue _ _ (kZ.mp hx);simp[carriedByValue]at this
 |.tup ks,.key k,v,hx,hy=>by obtain⟨a,o,items,n,rfl,_⟩:=kP.mp hx;have:=knd.byValue _ _ (kZ.mp hy);simp[carriedByValue]at this
 |.tup ks,.tup ks',v,hx,hy=>by
  obtain⟨a,o,items,n,e,ho,_,hd,hi⟩:=kP.mp hx;obtain⟨a',o',items',n',e',ho',_,hd',hi'⟩:=kP.mp hy;rw[e]at e';cases e';obtain rfl:o=o':=Option.some.inj (ho.symm.trans ho');rw[hd]at hd';injection hd' with h1 _
  subst h1;rw[NB hi hi']
theorem NB{h:Heap}: ∀{xs ys:List NK}{vs:Uk},rK knd h xs vs->rK knd h ys vs->xs=ys
 |[],[],_,_,_=>rfl
 |[],y::ys,vs,hx,hy=>by obtain⟨v,r,e,_⟩:=xK.mp hy;rw[jI.mp hx]at e;cases e
 |x::xs,[],vs,hx,hy=>by obtain⟨v,r,e,_⟩:=xK.mp hx;rw[jI.mp hy]at e;cases e
 |x::xs,y::ys,vs,hx,hy=>by obtain⟨v,r,e,h1,h2⟩:=xK.mp hx;obtain⟨v',r',e',h1',h2'⟩:=xK.mp hy;rw[e]at e';cases e';rw[JR h1 h1',NB h2 h2']
end
mutual
theorem NC{h h':Heap}(m: ∀a o items n,h.get? a=some o->o.data=.seq items n->h'.get? a=some o): ∀{x:NK}{v:Value},GQ knd h x v->GQ knd h' x v
 |.key k,v,hx=>kZ.mpr (kZ.mp hx)
 |.tup ks,v,hx=>by obtain⟨a,o,items,n,e,ho,hc,hd,hi⟩:=kP.mp hx;exact kP.mpr ⟨a,o,items,n,e,m a o items n ho hd,hc,hd,HY m hi⟩
theorem HY{h h':Heap}(m: ∀a o items n,h.get? a=some o->o.data=.seq items n->h'.get? a=some o): ∀{xs:List NK}{vs:Uk},rK knd h xs vs->rK knd h' xs vs
 |[],vs,hx=>jI.mpr (jI.mp hx)
 |x::xs,vs,hx=>by obtain⟨v,r,e,h1,h2⟩:=xK.mp hx;exact xK.mpr ⟨v,r,e,NC m h1,HY m h2⟩
end
theorem DU: ∀ks:List NK,DS knd ks=ks.map (rL knd)
 |[]=>by unfold DS;rfl
 |k::ks=>by unfold DS;rw[DU ks];rfl
def uA:dX []=0:=by rw[dX]
def rN(k:NK)(ks:List NK):dX (k::ks)=DT k+dX ks:=by rw[dX]
def iI(k:NK)(ks:List NK):rM (k::ks)=max (oC k) (rM ks):=by rw[rM]
def aZ(ks:List NK):oC (.tup ks)=rM ks+1:=by rw[oC]
theorem tQ: ∀(xs ys:List NK),dX (xs++ys)=dX xs+dX ys
 |[],ys=>by rw[uA,List.nil_append,Nat.zero_add]
 |x::xs,ys=>by rw[List.cons_append,rN,rN,tQ xs ys];omega
def uZ{s:Shared}{ks:List NK}{a:Addr}(h:GQ knd s.heap (.tup ks) (.ref a)):s.TypeIs (.ref a) "tuple":=by obtain⟨a',o,items,n,e,ho,hc,_⟩:=kP.mp h;cases e;exact⟨o,ho,hc⟩
theorem ND: ∀(n:Nat){A:Around}{E:VP}{s:Shared}{k:NK}{v:Value}{Q:Int->Shared->Prop},oC k<=n->A.units+n<cLine->GQ knd s.heap k v->Q (rL knd k) {s with toks:=s.toks+DT k}->wpAny (model prog w) A (pyHash v) Q E s
 |n,A,E,s,.key k,v,Q,_,_,hk,h=>knd.pyHash (kZ.mp hk) (by rw[rL,DT]at h;exact h)
 |0,A,E,s,.tup ks,v,Q,hd,_,_,_=>by rw[aZ]at hd;omega
 |n+1,A,E,s,.tup ks,v,Q,hdep,hu,hk,h=>by
  obtain⟨a,o,items,m,rfl,ho,hc,hd,hi⟩:=kP.mp hk;have hT:s.TypeIs (.ref a) "tuple":=⟨o,ho,hc⟩
  rw[aZ]at hdep
  have hdl: ∀k∈ks,oC k<=n:=by
   have: ∀ks:List NK,rM ks<=n-> ∀k∈ks,oC k<=n:=by
    intro ks
    induction ks with
    |nil=>intro _ k hk;simp at hk
    |cons x xs ih=>
     intro hx k hk;rw[iI]at hx;rcases mC.mp hk with rfl|hk
     .omega
     .exact ih (by omega) k hk
   exact this ks (by omega)
  rw[rL,DT,DU]at h;unfold pyHash
  first |unfold pyHashByItsType|skip
  first |refine wB (wpAny_cRoomFor_or (.inr (show A.units<cLine by omega)) ?_)|skip
  refine wB (wpAny_specialOf hT F.slot_tuple_hash.lookup ?_);show wpAny _ _ (if(some (Value.builtin "tuple.__hash__")==some Value.none)=true then _ else _) Q E s;rw[iN (by rw[beq_builtin_none];exact xF0)];refine wB (wpAny_specialOf hT F.slot_tuple_hash.lookup ?_);show wpAny _ _ (callSpecialIfBoundUnlessNone? (.ref a) "__hash__" _ >>= _) Q E s;refine wB (wpAny_callSpecialIfBoundUnlessNone?_slot hT F.slot_tuple_hash (wpAny_call_entry F.slot_tuple_hash hT F.entry_tuple_hash ?_ (F.args_tuple_hash_1 _)));show wpAny _ _ (Builtin.Tuple.tupleItemsOf (.ref a) >>= _) _ _ s;refine wB (wpAny_tupleItemsOf ho hd ?_);refine wB ?_;rw[<-Array.forIn_toList]
  refine wpAny_forIn_list _
   (λrest (b:Array Int) s'=> ∃done left,ks=done++left/\rK knd s.heap left rest/\b.toList=done.map (rL knd)/\s'={s with toks:=s.toks+dX done})
   _ ?_ ?_ _ _ ⟨[],ks,rfl,hi,rfl,by rw[uA];rfl⟩
  .rintro x rest b s' ⟨done,left,rfl,hl,hb,rfl⟩
   cases left with
   |nil=>rw[jI]at hl;cases hl
   |cons k ks'=>
    obtain⟨v,r,e,h1,hl'⟩:=xK.mp hl;cases e;refine wB (ND n (hdl k (by simp)) (show A.units+1+n<cLine by omega) h1 ?_);have e1:dX (done++[k])=dX done+DT k:=by rw[tQ,rN,uA];rfl
    first
     |exact wP ⟨done++[k],ks',by simp,hl',by simp[hb],by simp[add_assoc,e1]⟩
     |exact wB (wP (wP ⟨done++[k],ks',by simp,hl',by simp[hb],by simp[add_assoc,e1]⟩))
  .rintro b s' ⟨done,left,rfl,hl,hb,rfl⟩
   cases left with
   |cons k ks'=>obtain⟨v,r,e,_⟩:=xK.mp hl;cases e
   |nil=>
    rw[aN]at h;show wpAny _ _ (retInt (Builtin.Tuple.tupleHashOf b.toList)) _ _ _;rw[hb];refine wpAny_ret_mkInt ?_;show wpAny _ _ (if(decide (-(2:Int) ^ 63<=Builtin.Tuple.tupleHashOf (done.map (rL knd)))&&decide (Builtin.Tuple.tupleHashOf (done.map (rL knd))<2 ^ 63))=true then _ else _) Q E _;unfold reduceHash at h;by_cases hr:(decide (-(2:Int) ^ 63<=Builtin.Tuple.tupleHashOf (done.map (rL knd)))&&decide (Builtin.Tuple.tupleHashOf (done.map (rL knd))<2 ^ 63))=true
    .rw[iP hr];rw[iP hr]at h;exact wP (by simpa [add_assoc]using h)
    .rw[iN hr];rw[iN hr]at h;exact wB (wpAny_rule (wP (by simpa [add_assoc]using h)))
end
section
variable{prog:Program}{w:World}
def WC{A:Around}{E:VP}{s:Shared}{Q:Int->Shared->Prop}(h:Q 0xFCA86420 {s with toks:=s.toks+1}):wpAny (model prog w) A (pyHash .none) Q E s:=by
 unfold pyHash;have hv:[Value.none].any Value.onHeap=false:=rfl;refine wB ?_;rw[cRoomFor,iN (by rw[hv];exact xF0)];refine wP ?_;refine wB (wpAny_specialOf (typeIs_none s) F.slot_NoneType_hash.lookup ?_);show wpAny _ _ (if(some (Value.builtin "NoneType.__hash__")==some Value.none)=true then _ else _) Q E s;rw[iN (by rw[beq_builtin_none];exact xF0)];refine wB (wpAny_specialOf (typeIs_none s) F.slot_NoneType_hash.lookup ?_);show wpAny _ _ (callSpecialIfBoundUnlessNone? .none "__hash__" _ >>= _) Q E s
 refine wB (wpAny_callSpecialIfBoundUnlessNone?_slot (typeIs_none s) F.slot_NoneType_hash
  (wpAny_call_entry F.slot_NoneType_hash (typeIs_none s) F.entry_NoneType_hash
   (show wpAny _ _ (do ret (<-mkInt 0xFCA86420)) _ _ s from wpAny_ret_mkInt ?_) (F.args_NoneType_hash_1 _)))
 show wpAny _ _ (if(decide (-(2:Int) ^ 63<=0xFCA86420)&&decide ((0xFCA86420:Int)<2 ^ 63))=true then _ else _) Q E _;rw[iP (by decide)];exact wP h
def Mm:K3->Value->Bool
 |some k,v=>oS k v
 |none,v=>v==.none
def oU: ∀{k:K3}{v:Value},Mm k v=true->(∃i t,k=some (.inl i)/\v=Value.int i t)\/(∃x t,k=some (.inr x)/\v=Value.str x t)\/(k=none/\v=.none)
 |some k,v,h=>by
  rcases yY (k:=k) (v:=v) h with⟨i,t,rfl,e⟩|⟨x,t,rfl,e⟩
  .exact .inl ⟨i,t,rfl,e⟩
  .exact .inr (.inl ⟨x,t,rfl,e⟩)
 |none,v,h=>.inr (.inr ⟨rfl,eq_of_beq h⟩)
def mk(prog:Program)(w:World):KeyKind prog w K3 where
 is:=Mm
 hash:=λ|some k=>Qa w k|none=>0xFCA86420
 inj:=λv a b ha hb=>by rcases oU ha with⟨i,t,rfl,rfl⟩|⟨x,t,rfl,rfl⟩|⟨rfl,rfl⟩<;>rcases oU hb with⟨j,u,rfl,e⟩|⟨y,u,rfl,e⟩|⟨rfl,e⟩<;>first |(injection e with e1 _;rw[e1];done)|rfl|exact nomatch e
 byValue:=λk v h=>by rcases oU h with⟨i,t,rfl,rfl⟩|⟨x,t,rfl,rfl⟩|⟨rfl,rfl⟩<;>rfl
 pyHash:=λhv h=>by
  rcases oU hv with⟨i,t,rfl,rfl⟩|⟨x,t,rfl,rfl⟩|⟨rfl,rfl⟩
  .exact wpAny_pyHash_int h
  .exact wpAny_pyHash_str h
  .exact WC h
 eqBool:=λ{A} {E} {s} {a} {b} {u} {v} {Q} hu hv h=>by
  cases a with
  |some a=>
   cases b with
   |some b=>exact(xX prog w).eqBool hu hv (by rw[show decide (some a=some b)=decide (a=b)from by simp]at h;exact h)
   |none=>
    cases eq_of_beq hv;rw[show decide (some a=none)=false from dF0 λz=>nomatch z]at h;rcases yY (show oS a u=true from hu)with⟨i,t,rfl,rfl⟩|⟨x,t,rfl,rfl⟩
    .exact SeqAt.EqAt.int_none i t _ _ _ _ h
    .exact SeqAt.EqAt.str_none x t _ _ _ _ h
  |none=>
   cases eq_of_beq hu
   cases b with
   |some b=>
    rw[show decide (none=some b)=false from dF0 λz=>nomatch z]at h;rcases yY (show oS b v=true from hv)with⟨i,t,rfl,rfl⟩|⟨x,t,rfl,rfl⟩
    .exact SeqAt.EqAt.none_int i t _ _ _ _ h
    .exact SeqAt.EqAt.none_str x t _ _ _ _ h
   |none=>
    cases eq_of_beq hv;rw[show decide ((none:K3)=none)=true from dT0 rfl]at h;exact SeqAt.EqAt.same _ _ _ _ _ h
 «strs»:=λk x t v h=>by
  rcases oU h with⟨i,u,rfl,e⟩|⟨y,u,rfl,e⟩|⟨rfl,e⟩
  .exact nomatch e
  .injection e with e1 _
   subst e1;cases v<;>rfl
  .exact nomatch e
def Fq(a b:K3):decide (NK.key a=NK.key b)=decide (a=b):=by
 by_cases h:a=b
 .subst h;simp
 .rw[dF0 h,dF0 λz=>h (NK.key.inj z)]
def Mn(a:K3)(b:List NK):decide (NK.key a=NK.tup b)=false:=dF0 λz=>nomatch z
def Mo(a:K3)(b:List NK):decide (NK.tup b=NK.key a)=false:=dF0 λz=>nomatch z
def Mp(a b:List NK):decide (NK.tup a=NK.tup b)=decide (a=b):=by
 by_cases h:a=b
 .subst h;simp
 .rw[dF0 h,dF0 λz=>h (NK.tup.inj z)]
def NF{k:K3}{v:Value}(h:(mk prog w).is k v=true): ∃x:V,RelV x v/\wV x=true:=by
 rcases oU (show Mm k v=true from h)with⟨i,t,rfl,rfl⟩|⟨x,t,rfl,rfl⟩|⟨rfl,rfl⟩
 .exact⟨.int i,⟨t,rfl⟩,rfl⟩
 .exact⟨.str x,⟨t,rfl⟩,rfl⟩
 .exact⟨.non,rfl,rfl⟩
def WF{A:Around}{E:VP}{s:Shared}{x y:List NK}{a b:Addr}{P:Fin->Shared->Prop}
  (he: ∀k1∈x, ∀k2 u v (Q:Bool->Shared->Prop),GQ (mk prog w) s.heap k1 u->GQ (mk prog w) s.heap k2 v->Q (decide (k1=k2)) s->wpAny (model prog w) A (eqBool u v) Q E s)
  (hx:GQ (mk prog w) s.heap (.tup x) (.ref a)) (hy:GQ (mk prog w) s.heap (.tup y) (.ref b)) (h:P (.done (.ret (.bool (decide (x=y))))) s):
  wpAny (model prog w) A (Builtin.«tuple.__eq__» ⟨[.ref a,.ref b],[]⟩) P E s:=by
 have hTb:=uZ hy;obtain⟨_,oa,xs,na,e,hoa,_,hda,hia⟩:=kP.mp hx;cases e;obtain⟨_,ob,ys,nb,e,hob,_,hdb,hib⟩:=kP.mp hy;cases e;show wpAny _ _ (isInstance (.ref b) (.type "tuple") >>= _) _ _ s;refine wB (wpAny_isInstance hTb isSubtype_tuple_tuple ?_);simp only[Bool.not_true,fT,iF];refine wB (wpAny_tupleItemsOf hoa hda ?_);refine wB (wpAny_tupleItemsOf hob hdb ?_);refine wB ?_
 refine wpAny_forIn_list _
  (λrest r s'=>r.1=none/\s'=s/\ ∃x' y' xs' ys',rest=List.zip xs' ys'/\(∀k∈x',k∈x)/\rK (mk prog w) s.heap x' xs'/\rK (mk prog w) s.heap y' ys'/\decide (x'=y')=decide (x=y)/\(xs'.length==ys'.length)=(xs.size==ys.size))
  _ ?_ ?_ _ _ ⟨rfl,rfl,x,y,xs.toList,ys.toList,rfl,λk hk=>hk,hia,hib,rfl,by simp⟩
 .rintro⟨u,v⟩ rest r s' ⟨hr,rfl,x',y',xs',ys',hz,hm,hx',hy',hdec,hlen⟩
  cases x' with
  |nil=>rw[jI.mp hx']at hz;simp at hz
  |cons k1 x''=>
   cases y' with
   |nil=>rw[jI.mp hy']at hz;simp at hz
   |cons k2 y''=>
    obtain⟨u',xs'',rfl,h1,hx''⟩:=xK.mp hx';obtain⟨v',ys'',rfl,h2,hy''⟩:=xK.mp hy';simp only[zip_cons_cons,List.cons.injEq,Prod.mk.injEq]at hz;obtain⟨⟨rfl,rfl⟩,rfl⟩:=hz;refine wB (he k1 (hm k1 mF0) k2 _ _ _ h1 h2 ?_);by_cases hk:k1=k2
    .subst hk;rw[dT0 rfl];simp only[Bool.not_true,fT,iF];refine wP ⟨rfl,rfl,x'',y'',xs'',ys'',rfl,λk hk=>hm k (mO _ hk),hx'',hy'',?_,by simpa using hlen⟩;rw[<-hdec];by_cases hxy:x''=y''
     .simp[hxy]
     .simp[hxy]
    .rw[dF0 hk];simp only[Bool.not_false,if_true];have hf:decide (x=y)=false:=by rw[<-hdec];simp[hk]
     rw[hf]at h;exact wB (wP (wP (wP h)))
 .rintro⟨r1,r2⟩ s' ⟨hr,rfl,x',y',xs',ys',hz,hm,hx',hy',hdec,hlen⟩;simp only at hr;subst hr;refine wP ?_
  have hfin:(xs.size==ys.size)=decide (x=y):=by
   rw[<-hdec, <-hlen]
   cases x' with
   |nil=>
    rw[jI.mp hx']
    cases y' with
    |nil=>rw[jI.mp hy'];simp
    |cons k2 y''=>obtain⟨v',ys'',rfl,h2,hy''⟩:=xK.mp hy';simp
   |cons k1 x''=>
    obtain⟨u',xs'',rfl,h1,hx''⟩:=xK.mp hx'
    cases y' with
    |nil=>rw[jI.mp hy'];simp
    |cons k2 y''=>obtain⟨v',ys'',rfl,h2,hy''⟩:=xK.mp hy';simp at hz
  show P (.done (.ret (.bool (xs.size==ys.size)))) s';rw[hfin];exact h
theorem DV{n:Nat}: ∀{ks:List NK},rM ks<=n-> ∀k∈ks,oC k<=n
 |[],_,k,hk=>by simp at hk
 |x::xs,hx,k,hk=>by
  rw[iI]at hx;rcases mC.mp hk with rfl|hk
  .omega
  .exact DV (by omega) k hk
theorem NG: ∀(n:Nat){A:Around}{E:VP}{s:Shared}{x y:NK}{u v:Value}{Q:Bool->Shared->Prop},oC x<=n->A.units+n<cLine->GQ (mk prog w) s.heap x u->GQ (mk prog w) s.heap y v->Q (decide (x=y)) s->wpAny (model prog w) A (eqBool u v) Q E s
 |n,A,E,s,.key a,.key b,u,v,Q,_,_,hx,hy,h=>(mk prog w).eqBool (kZ.mp hx) (kZ.mp hy) (by rw[Fq]at h;exact h)
 |n,A,E,s,.key a,.tup b,u,v,Q,_,hu,hx,hy,h=>by obtain⟨z,rz,fz⟩:=NF (kZ.mp hx);obtain⟨l,o,items,m,rfl,ho,hc,hd,_⟩:=kP.mp hy;rw[Mn]at h;exact Js rz fz (items:=items) ⟨o,ho,hc,m,hd⟩ (by omega) prog w E Q h
 |n,A,E,s,.tup a,.key b,u,v,Q,_,hu,hx,hy,h=>by obtain⟨z,rz,fz⟩:=NF (kZ.mp hy);obtain⟨l,o,items,m,rfl,ho,hc,hd,_⟩:=kP.mp hx;rw[Mo]at h;exact Jr rz fz (items:=items) ⟨o,ho,hc,m,hd⟩ (by omega) prog w E Q h
 |0,A,E,s,.tup a,.tup b,u,v,Q,hd,_,hx,hy,h=>by rw[aZ]at hd;omega
 |n+1,A,E,s,.tup x,.tup y,u,v,Q,hd,hu,hx,hy,h=>by
  obtain⟨a,_,_,_,ea,_⟩:=kP.mp hx;obtain⟨b,_,_,_,eb,_⟩:=kP.mp hy;subst ea eb;rw[aZ]at hd;rw[Mp]at h;unfold eqBool
  try with_reducible refine wpAny_holding ?_
  show wpAny _ _ (if(Value.ref a==Value.ref b)=true then _ else _) Q E s;by_cases hab:(Value.ref a==Value.ref b)=true
  .rw[iP hab];have e:a=b:=by have:=eq_of_beq hab;injection this
   subst e;have:x=y:=NK.tup.inj (JR hx hy);subst this;exact wB (wpAny_rule (wP (by simpa using h)))
  .rw[iN hab]
   refine wB (wpAny_richCompare_same_room (op:=.Eq) (uZ hx) (uZ hy) F.slot_tuple_eq
    (wpAny_call_entry F.slot_tuple_eq (uZ hx) F.entry_tuple_eq (WF (λk1 hk1 k2 u v Q h1 h2 h3=>NG n (DV (by omega) k1 hk1) (show A.units+1+n<cLine by omega) h1 h2 h3) hx hy ⟨_,rfl,(λe=>nomatch e),wpAny_truthy_bool h⟩) (F.args_tuple_eq_2 _ _)) (by omega))
theorem SR: ∀(n m:Nat){A:Around}{E:VP}{s:Shared}{x:NK}{u:Value}{Q:Bool->Shared->Prop},oC x<=n->n<m->GQ (mk prog w) s.heap x u->Q true s->wpAny (model prog w) A (eqIsQuiet m u) Q E s
 |n,m,A,E,s,.key k,u,Q,_,_,hx,h=>by rw[eqIsQuiet_byValue m ((mk prog w).byValue _ _ (kZ.mp hx))];exact wP h
 |0,m,A,E,s,.tup ks,u,Q,hd,_,hx,h=>by rw[aZ]at hd;omega
 |n+1,0,A,E,s,.tup ks,u,Q,hd,hm,hx,h=>by omega
 |n+1,m+1,A,E,s,.tup ks,u,Q,hdp,hm,hx,h=>by
  obtain⟨a,o,items,j,rfl,ho,hc,hd,hi⟩:=kP.mp hx;have hT:s.TypeIs (.ref a) "tuple":=⟨o,ho,hc⟩
  rw[aZ]at hdp;unfold eqIsQuiet;refine wB (wpAny_specialOf hT F.slot_tuple_eq.lookup ?_);show wpAny _ _ (isInstance (.ref a) (.type "tuple") >>= _) _ _ s;refine wB (wpAny_isInstance hT isSubtype_tuple_tuple ?_);simp only[Bool.not_true,fT,iF];refine wB (wpAny_seqItems ho hd ?_);refine wB ?_;show wpAny _ _ (forIn items _ _) _ _ s;rw[<-Array.forIn_toList];refine wpAny_forIn_list _ (λrest r s'=>r.1=none/\s'=s/\ ∃left,(∀k∈left,k∈ks)/\rK (mk prog w) s.heap left rest) _ ?_ ?_ _ _ ⟨rfl,rfl,ks,λk hk=>hk,hi⟩
  .rintro v rest r s' ⟨hr,rfl,left,hm',hl⟩
   cases left with
   |nil=>rw[jI]at hl;cases hl
   |cons k left=>
    obtain⟨v',r',e,h1,h2⟩:=xK.mp hl;cases e;refine wB (SR n m (DV (by omega) k (hm' k mF0)) (by omega) h1 ?_);simp only[Bool.not_true,fT,iF];exact wP ⟨rfl,rfl,left,λk hk=>hm' k (mO _ hk),h2⟩
  .rintro⟨r1,r2⟩ s' ⟨hr,rfl,_⟩;simp only at hr;subst hr;exact wP h
end
def oV(prog:Program)(w:World):HeapKind prog w NK where
 is:=λh k a=>GQ (mk prog w) h k (.ref a)/\oC k<=4
 hash:=rL (mk prog w)
 draws:=DT
 room:=λA=>A.units+4<cLine
 inj:=λhx hy=>JR hx.1 hy.1
 keeps:=λx ho hd hs=>⟨NC (λa o' items n e q=>(hs.2 a λz=>by subst z;rw[ho]at e;cases e;rw[hd]at q;cases q).trans e) x.1,x.2⟩
 pyHash:=λhu hk h=>ND 4 hk.2 hu hk.1 h
 eqBool:=λhu hx hy h=>NG 4 hx.2 hu hx.1 hy.1 h
 quiet:=λhk h=>SR 4 8 hk.2 (by decide) hk.1 h
def DN(P:Program)(w:World)(a:Addr)(xs:List (NK×Addr×Value)):HO:=
 .ext λh=>xs.length<=sizeLine/\(a==sysModules)=false/\ ∃o es ep,h.get? a=some o/\o.ExactDict/\o.data=.dict es ep/\es.toList=xs.map (entryOfKey (oV P w))/\(xs.map (·.1)).Nodup
end M
end L2
namespace L2
open PySem PySem.Spec PyProof.Rows
def Fly(h:Heap)(e T:Addr)(cls:Value)(d:Option Addr)(fl:Value):Prop:=
 ∃oe vs oT ts,h.get? e=some oe/\oe.cls=cls/\oe.dict=d/\oe.data=.fields vs/\vs[1]? =some (.ref T)/\T≠e/\h.get? T=some oT/\oT.data=.fields ts/\ts[3]? =some fl/\vs[2]? =some .none
structure Mvd(fs:Vb)(e T:Addr)(h h':Heap):Prop where
 keep: ∀b o,b≠e->b≠T->b∉fs->h.get? b=some o->h'.get? b=some o
 slot: ∀b o,b≠e->b≠T->h.get? b=some o-> ∃sl,h'.get? b=some {o with slots:=sl}
 there: ∀b o,h.get? b=some o-> ∃o',h'.get? b=some o'
def Mvd.new{fs:Vb}{e T T':Addr}{h h1 h2:Heap}(a:Mvd fs e T h h1)(n:h.get? T'=none)(b:Mvd fs e T' h1 h2):Mvd fs e T h h2:=by
 have ne: ∀c o,h.get? c=some o->c≠T':=λc o q z=>by rw[z,n]at q;cases q
 exact⟨λc o h1 h2 h3 q=>b.keep c o h1 (ne c o q) h3 (a.keep c o h1 h2 h3 q),λc o h1 h2 q=>by obtain⟨sl,e1⟩:=a.slot c o h1 h2 q;obtain⟨sl',e2⟩:=b.slot c _ h1 (ne c o q) e1;exact⟨sl',e2⟩,λc o q=>let ⟨o',e1⟩:=a.there c o q;b.there c o' e1⟩
def CXe(P:Program)(w:World):VN:=λouter H s E x s'=> ∃e T C d H',x=.ref e/\s'.os=s.os/\AllBare s'.gens/\Un (SK outer) [] H H' s.heap s'.heap/\HOk P w H' s'.heap/\Fly s'.heap e T (.ref C) d .none/\
 s.heap.get? e=none/\s.heap.get? T=none/\H' e=none/\H' T=none/\E (.ref C) d H'
abbrev Uc:List Value:=[.type "ValueError",.type "Exception",.type "BaseException",.type "object"]
def qn:List Str:=["__class__","__getattribute__","__getattr__","__setattr__","place","number"]
end L2
namespace L2
namespace M
open PySem PySem.Spec PyProof.Rows
inductive MV where
 |non|bl (b:Bool)|int (i:Int)|str (x:Db)|tup (ds:List MV)|scr (ds:List MV)|loc (l:Nat)|typ (n:String)|obj (c:Str) (ns:Vc) (ds:List MV)
abbrev Xb:=List MV
abbrev Xc:=Option MV
abbrev Xe:=List (Nat×List MV)
abbrev Xg:=List (MV×MV)
instance:Inhabited MV:=⟨.non⟩
inductive MO where
 |lst (ds:Xb)|dic (kvs:Xg)|ins (c:Str) (fs:List (Str×MV))|rcd (c:Str) (fs:List (Str×MV))
abbrev Sto:=List MO
def SqF(K:Vk)(H:Hp)(a:Addr)(xs:List V):Prop:=
 (∃o,H a=some (.frz o (.lst xs)))\/
  ∃(o:Obj)(its:Va)(n:Nat),K.lookup a=some o/\o.cls=.type "list"/\o.dict=none/\o.data=.seq its n/\its.size<=sizeLine/\Vals xs its.toList
def SqF.l{K:Vk}{H:Hp}{a:Addr}{xs:List V}(h:SqF K H a xs):SqL K H a xs:=by
 rcases h with⟨o,h⟩|h
 .exact .inl (.inr ⟨o,h⟩)
 .exact .inr h
mutual
def Den(K:Vk)(α:Vb)(H:Hp):MV->V->Prop
 |.non,v=>v=.non
 |.bl b,v=>v=.bl b
 |.int i,v=>v=.int i
 |.str x,v=>v=.str (gF x)
 |.tup ds,v=> ∃a vs,v=.ref a/\SqT K H a vs/\DenL K α H ds vs
 |.scr ds,v=> ∃a vs,v=.ref a/\SqF K H a vs/\DenL K α H ds vs
 |.loc l,v=> ∃a,v=.ref a/\α[l]? =some a
 |.typ n,v=>v=.ty n
 |.obj c ns ds,v=> ∃a C dx vs o,v=.ref a/\H a=some (.frz o (.ins C dx (ns.zip vs)))/\PySem.W.nsIn K mainGlobals c=some (some (.ref C))/\(PySem.W.clsIn K C).map (·.name)=some c/\ns.length=vs.length/\DenL K α H ds vs
def DenL(K:Vk)(α:Vb)(H:Hp):List MV->List V->Prop
 |[],vs=>vs=[]
 |d::ds,vs=> ∃v r,vs=v::r/\Den K α H d v/\DenL K α H ds r
end
structure Ex0(α:Vb)(H:Hp)(α':Vb)(H':Hp):Prop where
 pre: ∃t,α'=α++t
 tup: ∀b xs,H b=some (.tup xs)->H' b=some (.tup xs)
 frz: ∀b o u,H b=some (.frz o u)->H' b=some (.frz o u)
structure Ext(α:Vb)(H:Hp)(α':Vb)(H':Hp):Prop extends Ex0 α H α' H' where
 new: ∀b∈α',b∈α\/H b=none
 keep: ∀b o,H b=some o->b∉α->H' b=some o
 has: ∀b o,H b=some o-> ∃o',H' b=some o'
section
variable{K:Vk}{α α' α'':Vb}{H H' H'':Hp}
def Ext.refl(α:Vb)(H:Hp):Ext α H α H:=⟨⟨⟨[],by simp⟩,λ_ _ h=>h,λ_ _ _ h=>h⟩,λb h=>.inl h,λ_ _ h _=>h,λ_ o h=>⟨o,h⟩⟩
def Ex0.grow(α t:Vb)(H:Hp):Ex0 α H (α++t) H:=⟨⟨t,rfl⟩,λ_ _ h=>h,λ_ _ _ h=>h⟩
def Ext.free(x:Ext α H α' H'){b:Addr}(h:H' b=none):H b=none:=by
 cases e:H b with
 |none=>rfl
 |some o=>obtain⟨o',h'⟩:=x.has b o e;rw[h]at h';cases h'
def Ext.out(x:Ext α H α' H'){b:Addr}{o:HO}(h:H b=some o)(n:b∉α):b∉α':=λz=>by
 rcases x.new b z with z|z
 .exact n z
 .rw[h]at z;cases z
def Ext.trans(x:Ext α H α' H')(y:Ext α' H' α'' H''):Ext α H α'' H'' where
 pre:=by obtain⟨t,rfl⟩:=x.pre;obtain⟨u,rfl⟩:=y.pre;exact⟨t++u,by rw[aA]⟩
 new:=λb h=>(y.new b h).elim (x.new b) λz=>.inr (x.free z)
 keep:=λb o h n=>y.keep b o (x.keep b o h n) (x.out h n)
 has:=λb o h=>let ⟨o',h'⟩:=x.has b o h;y.has b o' h'
 tup:=λb xs h=>y.tup b xs (x.tup b xs h)
 frz:=λb o u h=>y.frz b o u (x.frz b o u h)
def Ex0.at(x:Ex0 α H α' H'){l:Nat}{a:Addr}(h:α[l]? =some a):α'[l]? =some a:=by obtain⟨t,rfl⟩:=x.pre;rw[getElem?_append_left (gS.mp h).1];exact h
def Ex0.sqT(x:Ex0 α H α' H'){a:Addr}{vs:List V}(q:SqT K H a vs):SqT K H' a vs:=by
 rcases q with(q|⟨o,q⟩)|q
 .exact .inl (.inl (x.tup a vs q))
 .exact .inl (.inr ⟨o,x.frz a o _ q⟩)
 .exact .inr q
def Ex0.sqF(x:Ex0 α H α' H'){a:Addr}{vs:List V}(q:SqF K H a vs):SqF K H' a vs:=by
 rcases q with⟨o,q⟩|q
 .exact .inl ⟨o,x.frz a o _ q⟩
 .exact .inr q
mutual
theorem Den.ex0(x:Ex0 α H α' H'): ∀{d:MV}{v:V},Den K α H d v->Den K α' H' d v
 |.non,_,q=>by unfold Den at q ⊢; exact q
 |.bl _,_,q=>by unfold Den at q ⊢; exact q
 |.int _,_,q=>by unfold Den at q ⊢; exact q
 |.str _,_,q=>by unfold Den at q ⊢; exact q
 |.typ _,_,q=>by unfold Den at q ⊢; exact q
 |.obj c ns ds,_,q=>by unfold Den at q ⊢;obtain⟨a,C,dx,vs,o,e,h,hn,hc,hl,l⟩:=q;exact⟨a,C,dx,vs,o,e,x.frz a _ _ h,hn,hc,hl,DenL.ex0 x l⟩
 |.loc _,_,q=>by unfold Den at q ⊢;obtain⟨a,e,h⟩:=q;exact⟨a,e,x.at h⟩
 |.tup ds,_,q=>by unfold Den at q ⊢;obtain⟨a,vs,e,s,l⟩:=q;exact⟨a,vs,e,x.sqT s,DenL.ex0 x l⟩
 |.scr ds,_,q=>by unfold Den at q ⊢;obtain⟨a,vs,e,s,l⟩:=q;exact⟨a,vs,e,x.sqF s,DenL.ex0 x l⟩
theorem DenL.ex0(x:Ex0 α H α' H'): ∀{ds:Xb}{vs:List V},DenL K α H ds vs->DenL K α' H' ds vs
 |[],_,q=>by unfold DenL at q ⊢; exact q
 |d::ds,_,q=>by unfold DenL at q ⊢;obtain⟨v,r,e,a,l⟩:=q;exact⟨v,r,e,Den.ex0 x a,DenL.ex0 x l⟩
end
def Den.ext(x:Ext α H α' H'){d:MV}{v:V}(q:Den K α H d v):Den K α' H' d v:=q.ex0 x.toEx0
def DenL.ext(x:Ext α H α' H'){d:Xb}{v:List V}(q:DenL K α H d v):DenL K α' H' d v:=q.ex0 x.toEx0
theorem sV:Den K α H .non .non:=by unfold Den;rfl
theorem bH(b:Bool):Den K α H (.bl b) (.bl b):=by unfold Den;rfl
theorem kQ(i:Int):Den K α H (.int i) (.int i):=by unfold Den;rfl
theorem mP(x:Db):Den K α H (.str x) (.str (gF x)):=by unfold Den;rfl
theorem SS(n:String):Den K α H (.typ n) (.ty n):=by unfold Den;rfl
def pW{ds:Xb}{a:Addr}{vs:List V}(s:SqT K H a vs)(l:DenL K α H ds vs):Den K α H (.tup ds) (.ref a):=by unfold Den;exact⟨a,vs,rfl,s,l⟩
def SU{ds:Xb}{a:Addr}{vs:List V}(s:SqF K H a vs)(l:DenL K α H ds vs):Den K α H (.scr ds) (.ref a):=by unfold Den;exact⟨a,vs,rfl,s,l⟩
def pX{l:Nat}{a:Addr}(h:α[l]? =some a):Den K α H (.loc l) (.ref a):=by unfold Den;exact⟨a,rfl,h⟩
def eU{v:V}(d:Den K α H .non v):v=.non:=by unfold Den at d;exact d
def qX{b:Bool}{v:V}(d:Den K α H (.bl b) v):v=.bl b:=by unfold Den at d;exact d
def jP{i:Int}{v:V}(d:Den K α H (.int i) v):v=.int i:=by unfold Den at d;exact d
def jQ{x:Db}{v:V}(d:Den K α H (.str x) v):v=.str (gF x):=by unfold Den at d;exact d
def Fs{c:Str}{ns:Vc}{ds:Xb}{a C dx:Addr}{vs:List V}{o:Obj}(h:H a=some (.frz o (.ins C dx (ns.zip vs))))(hn:PySem.W.nsIn K mainGlobals c=some (some (.ref C)))(hc:(PySem.W.clsIn K C).map (·.name)=some c)(hl:ns.length=vs.length)(l:DenL K α H ds vs):Den K α H (.obj c ns ds) (.ref a):=by unfold Den;exact⟨a,C,dx,vs,o,rfl,h,hn,hc,hl,l⟩
def dY{c:Str}{ns:Vc}{ds:Xb}{v:V}(d:Den K α H (.obj c ns ds) v): ∃a C dx vs o,v=.ref a/\H a=some (.frz o (.ins C dx (ns.zip vs)))/\PySem.W.nsIn K mainGlobals c=some (some (.ref C))/\(PySem.W.clsIn K C).map (·.name)=some c/\ns.length=vs.length/\DenL K α H ds vs:=by unfold Den at d;exact d
def eV{n:String}{v:V}(d:Den K α H (.typ n) v):v=.ty n:=by unfold Den at d;exact d
def jR{ds:Xb}{v:V}(d:Den K α H (.tup ds) v): ∃a vs,v=.ref a/\SqT K H a vs/\DenL K α H ds vs:=by unfold Den at d;exact d
def dZ{ds:Xb}{v:V}(d:Den K α H (.scr ds) v): ∃a vs,v=.ref a/\SqF K H a vs/\DenL K α H ds vs:=by unfold Den at d;exact d
def cO{l:Nat}{v:V}(d:Den K α H (.loc l) v): ∃a,v=.ref a/\α[l]? =some a:=by unfold Den at d;exact d
theorem xG:DenL K α H [] []:=by unfold DenL;rfl
def yZ{d:MV}{v:V}{ds:Xb}{vs:List V}(a:Den K α H d v)(l:DenL K α H ds vs):DenL K α H (d::ds) (v::vs):=by unfold DenL;exact⟨v,vs,rfl,a,l⟩
def DenL.uncons{d:MV}{ds:Xb}{vs:List V}(l:DenL K α H (d::ds) vs): ∃v r,vs=v::r/\Den K α H d v/\DenL K α H ds r:=by unfold DenL at l;exact l
def DenL.isnil{vs:List V}(l:DenL K α H [] vs):vs=[]:=by unfold DenL at l;exact l
theorem DenL.length: ∀{ds:Xb}{vs:List V},DenL K α H ds vs->vs.length=ds.length
 |[],_,q=>by rw[q.isnil];rfl
 |d::ds,_,q=>by obtain⟨v,r,rfl,_,l⟩:=q.uncons;rw[lC,lC,DenL.length l]
theorem DenL.append: ∀{ds es:Xb}{vs us:List V},DenL K α H ds vs->DenL K α H es us->DenL K α H (ds++es) (vs++us)
 |[],_,_,_,q,l=>by rw[q.isnil];exact l
 |d::ds,_,_,_,q,l=>by obtain⟨v,r,rfl,a,l'⟩:=q.uncons;exact yZ a (DenL.append l' l)
theorem DenL.drop: ∀{ds:Xb}{vs:List V}(n:Nat),DenL K α H ds vs->DenL K α H (ds.drop n) (vs.drop n)
 |_,_,0,q=>q
 |[],_,n+1,q=>by rw[q.isnil];exact xG
 |d::ds,_,n+1,q=>by obtain⟨v,r,rfl,_,l⟩:=q.uncons;exact DenL.drop n l
theorem DenL.take: ∀{ds:Xb}{vs:List V}(n:Nat),DenL K α H ds vs->DenL K α H (ds.take n) (vs.take n)
 |_,_,0,q=>xG
 |[],_,n+1,q=>by rw[q.isnil];exact xG
 |d::ds,_,n+1,q=>by obtain⟨v,r,rfl,a,l⟩:=q.uncons;exact yZ a (DenL.take n l)
theorem DenL.reverse: ∀{ds:Xb}{vs:List V},DenL K α H ds vs->DenL K α H ds.reverse vs.reverse
 |[],_,q=>by rw[q.isnil];exact xG
 |d::ds,_,q=>by obtain⟨v,r,rfl,a,l⟩:=q.uncons;rw[reverse_cons,reverse_cons];exact(DenL.reverse l).append (yZ a xG)
theorem DenL.set{d:MV}{v:V}(a:Den K α H d v): ∀{ds:Xb}{vs:List V}(n:Nat),DenL K α H ds vs->DenL K α H (ds.set n d) (vs.set n v)
 |[],_,_,q=>by rw[q.isnil];exact xG
 |e::ds,_,0,q=>by obtain⟨v',r,rfl,a',l⟩:=q.uncons;exact yZ a l
 |e::ds,_,n+1,q=>by obtain⟨v',r,rfl,a',l⟩:=q.uncons;exact yZ a' (DenL.set a n l)
theorem DenL.get: ∀{ds:Xb}{vs:List V}{i:Nat}{v:V},DenL K α H ds vs->vs[i]? =some v-> ∃d,ds[i]? =some d/\Den K α H d v
 |[],_,_,_,q,e=>by rw[q.isnil]at e;simp at e
 |d::ds,_,0,_,q,e=>by obtain⟨v,r,rfl,a,l⟩:=q.uncons;simp at e;subst e;exact⟨d,rfl,a⟩
 |d::ds,_,i+1,_,q,e=>by obtain⟨v,r,rfl,a,l⟩:=q.uncons;obtain⟨d',h1,h2⟩:=DenL.get (i:=i) l (by simpa using e);exact⟨d',by simpa using h1,h2⟩
def DenL.at{ds:Xb}{vs:List V}{i:Nat}{d:MV}(q:DenL K α H ds vs)(e:ds[i]? =some d): ∃v,vs[i]? =some v/\Den K α H d v:=by
 have hi:i<ds.length:=(gS.mp e).1;have hv:i<vs.length:=by rw[q.length];exact hi
 obtain⟨d',h1,h2⟩:=q.get (gE hv);rw[e]at h1;cases h1;exact⟨_,gE hv,h2⟩
def DenL.cut{ds:Xb}{vs:List V}(q:DenL K α H ds vs)(lo hi:Vi):DenL K α H (cN ds lo hi) (MU vs lo hi):=by unfold cN MU;rw[q.length];exact(q.drop _).take _
theorem HZ: ∀(ns:Uj),DenL K α H (ns.map MV.int) (ns.map V.int)
 |[]=>xG
 |b::bs=>yZ (kQ b) (HZ bs)
end
structure Gm where
 K:PySem.W.Frag
 mg:Str->Option Value
 P:Program
 w:World
abbrev _root_.L2.Cx.g(X:Cx):Gm:=⟨X.K,X.mg,X.prog,X.w⟩
inductive DenF(K:Vk)(α:Vb)(H:Hp):List (Str×MV)->List (Str×V)->Prop
 |nil:DenF K α H [] []
 |cons {x:Str} {d:MV} {v:V} {fs gs}:Den K α H d v->DenF K α H fs gs->DenF K α H ((x,d)::fs) ((x,v)::gs)
theorem DenF.ex0{K:Vk}{α α':Vb}{H H':Hp}(x:Ex0 α H α' H'): ∀{fs gs},DenF K α H fs gs->DenF K α' H' fs gs
 |_,_,.nil=>.nil
 |_,_,.cons a l=>.cons (a.ex0 x) (DenF.ex0 x l)
def KeyD:MV->Key->Prop
 |.int i,k=>k=.inl i
 |.str x,k=>k=.inr (gF x)
 |_,_=>False
inductive DenK(K:Vk)(α:Vb)(H:Hp):List (MV×MV)->List (Key×V)->Prop
 |nil:DenK K α H [] []
 |cons {k:MV} {k':Key} {d:MV} {v:V} {fs gs}:KeyD k k'->Den K α H d v->DenK K α H fs gs->DenK K α H ((k,d)::fs) ((k',v)::gs)
theorem DenK.ex0{K:Vk}{α α':Vb}{H H':Hp}(x:Ex0 α H α' H'): ∀{fs gs},DenK K α H fs gs->DenK K α' H' fs gs
 |_,_,.nil=>.nil
 |_,_,.cons k a l=>.cons k (a.ex0 x) (DenK.ex0 x l)
mutual
def wZ:MV->Option NK
 |.non=>some (.key none)
 |.int i=>some (.key (some (.inl i)))
 |.str x=>some (.key (some (.inr (gF x))))
 |.tup ds=>(bC ds).map .tup
 |_=>none
def bC:List MV->Option (List NK)
 |[]=>some []
 |d::ds=>(wZ d).bind λk=>(bC ds).map (k::·)
end
inductive DenN(K:Vk)(α:Vb)(H:Hp):List (MV×MV)->List (NK×Addr×Value)->Prop
 |nil:DenN K α H [] []
 |cons {k:MV} {nk:NK} {a:Addr} {d:MV} {v:V} {u:Value} {fs xs}:wZ k=some nk->oC nk<=4->Den K α H k (.ref a)->Den K α H d v->RelV v u->DenN K α H fs xs->DenN K α H ((k,d)::fs) ((nk,a,u)::xs)
theorem DenN.ex0{K:Vk}{α α':Vb}{H H':Hp}(x:Ex0 α H α' H'): ∀{fs xs},DenN K α H fs xs->DenN K α' H' fs xs
 |_,_,.nil=>.nil
 |_,_,.cons k e a d r l=>.cons k e (a.ex0 x) (d.ex0 x) r (DenN.ex0 x l)
def ObD(g:Gm)(α:Vb)(H:Hp)(a:Addr):MO->Prop
 |.lst ds=> ∃vs,H a=some (.lst vs)/\DenL g.K α H ds vs
 |.dic kvs=>(∃ks,H a=some (.dK ks)/\DenK g.K α H kvs ks)\/ ∃xs,H a=some (DN g.P g.w a xs)/\DenN g.K α H kvs xs
 |.ins c fs=> ∃C gs,g.mg c=some (.ref C)/\DenF g.K α H fs gs/\
   ∃oe,H a=some (.frz oe (.ext λh=>h.get? a=some oe))/\oe.cls=.ref C/\(fs=[]\/ ∃dx od,oe.dict=some dx/\H dx=some (.frz od (.xd gs))/\ ∃vs,oe.data=.fields vs)
 |.rcd c fs=> ∃C dx gs,PySem.W.nsIn g.K mainGlobals c=some (some (.ref C))/\H a=some (.ins C dx gs)/\DenF g.K α H fs gs
def ObD.there{g:Gm}{α:Vb}{H:Hp}{a:Addr}{o:MO}(h:ObD g α H a o): ∃ho,H a=some ho/\(∀xs,ho≠.tup xs)/\ ∀ob u,ho=.frz ob u-> ∃φ,u=.ext φ:=by
 cases o with
 |lst ds=>obtain⟨vs,h,_⟩:=h;exact⟨_,h,(λxs z=>by cases z),λ_ _ z=>by cases z⟩
 |dic ds=>
  rcases h with⟨vs,h,_⟩|⟨vs,h,_⟩
  .exact⟨_,h,(λxs z=>by cases z),λ_ _ z=>by cases z⟩
  .exact⟨_,h,(λxs z=>by cases z),λ_ _ z=>by cases z⟩
 |ins c ds=>
  obtain⟨_,_,_,_,_,h,_⟩:=h;exact⟨_,h,(λxs z=>by cases z),λ_ _ z=>by cases z;exact⟨_,rfl⟩⟩
 |rcd c ds=>obtain⟨_,_,_,_,h,_⟩:=h;exact⟨_,h,(λxs z=>by cases z),λ_ _ z=>by cases z⟩
def ObD.move{g:Gm}{α α':Vb}{H H':Hp}{a:Addr}{o:MO}(h:ObD g α H a o)(x:Ex0 α H α' H')(e:H' a=H a):ObD g α' H' a o:=by
 cases o with
 |lst ds=>obtain⟨vs,h,l⟩:=h;exact⟨vs,e.trans h,l.ex0 x⟩
 |dic ds=>
  rcases h with⟨vs,h,l⟩|⟨vs,h,l⟩
  .exact .inl ⟨vs,e.trans h,l.ex0 x⟩
  .exact .inr ⟨vs,e.trans h,l.ex0 x⟩
 |ins c ds=>
  obtain⟨C,gs,m,l,oe,h,hc,hf⟩:=h;exact⟨C,gs,m,l.ex0 x,oe,e.trans h,hc,hf.imp id λ⟨dx,od,h1,h2,h3⟩=>⟨dx,od,h1,x.frz _ _ _ h2,h3⟩⟩
 |rcd c ds=>obtain⟨C,dx,gs,m,h,l⟩:=h;exact⟨C,dx,gs,m,e.trans h,l.ex0 x⟩
structure Wd(g:Gm)(α:Vb)(S:Sto)(H:Hp):Prop where
 len:α.length=S.length
 nd:α.Nodup
 obj: ∀(l:Nat)(a:Addr)(o:MO),α[l]? =some a->S[l]? =some o->ObD g α H a o
section
variable{g:Gm}{α:Vb}{S:Sto}{H:Hp}
def Wd.at(w:Wd g α S H){l:Nat}{o:MO}(h:S[l]? =some o): ∃a,α[l]? =some a/\ObD g α H a o:=by
 have hl:l<α.length:=by rw[w.len];exact(gS.mp h).1
 exact⟨α[l],gE hl,w.obj l _ o (gE hl) h⟩
def Wd.of(w:Wd g α S H){l:Nat}{a:Addr}(h:α[l]? =some a): ∃o,S[l]? =some o/\ObD g α H a o:=by
 have hl:l<S.length:=by rw[<-w.len];exact(gS.mp h).1
 exact⟨S[l],gE hl,w.obj l a _ h (gE hl)⟩
def Wd.mem(w:Wd g α S H){a:Addr}(h:a∈α): ∃ho,H a=some ho/\(∀xs,ho≠.tup xs)/\ ∀ob u,ho=.frz ob u-> ∃φ,u=.ext φ:=by obtain⟨l,hl⟩:=List.getElem?_of_mem h;obtain⟨o,_,q⟩:=w.of hl;exact q.there
def Wd.newx(w:Wd g α S H){p:Addr}{o:HO}(hp:H p=none):Ext α H α (gD H p o) where
 pre:=⟨[],by simp⟩
 new:=λb h=>.inl h
 keep:=λb o h _=>by rw[yF (xI h hp)];exact h
 has:=λb o h=>⟨o,by rw[yF (xI h hp)];exact h⟩
 tup:=λb o h=>by rw[yF (xI h hp)];exact h
 frz:=λb o u h=>by rw[yF (xI h hp)];exact h
def Wd.fresh(w:Wd g α S H){p:Addr}(hp:H p=none):p∉α:=λz=>by obtain⟨_,h,_⟩:=w.mem z;rw[hp]at h;cases h
def Wd.new(w:Wd g α S H){p:Addr}{o:HO}(hp:H p=none):Wd g α S (gD H p o):=
 ⟨w.len,w.nd,λl a ob h1 h2=>(w.obj l a ob h1 h2).move (w.newx hp).toEx0 (yF λz=>w.fresh hp (by rw[<-z];exact mem_of_getElem? h1))⟩
def YZ{ho:HO}{a:Addr}(h:H a=some ho)(n: ∀ob u,ho≠.frz ob u:=by intro _ _ z;cases z): ∀ob u,H a≠some (.frz ob u):=λob u z=>n ob u (Option.some.inj (h.symm.trans z))
def Wd.writex(w:Wd g α S H){l:Nat}{a:Addr}{o:HO}(h:α[l]? =some a)(nf: ∀ob u,H a≠some (.frz ob u)):Ext α H α (gD H a o) where
 pre:=⟨[],by simp⟩
 new:=λb h=>.inl h
 keep:=λb o e n=>by rw[yF λz=>n (by rw[z];exact mem_of_getElem? h)];exact e
 has:=λb o e=>by
  by_cases z:b=a
  .subst z;exact⟨_,xB⟩
  .exact⟨o,by rw[yF z];exact e⟩
 tup:=λb xs e=>by obtain⟨ho,h1,h2,_⟩:=w.mem (mem_of_getElem? h);rw[yF λz=>h2 xs (by subst z;rw[e]at h1;exact(Option.some.inj h1).symm)];exact e
 frz:=λb ob u e=>by rw[yF λz=>nf ob u (by rw[<-z];exact e)];exact e
def Wd.ne(w:Wd g α S H){l m:Nat}{a b:Addr}(h:α[l]? =some a)(h':α[m]? =some b)(n:l≠m):a≠b:=by rintro rfl;obtain⟨h1,e1⟩:=gS.mp h;obtain⟨h2,e2⟩:=gS.mp h';exact n ((getElem_inj w.nd).mp (e1.trans e2.symm))
def Wd.write(w:Wd g α S H){l:Nat}{a:Addr}{o:HO}{ob:MO}(h:α[l]? =some a)(nf: ∀ob u,H a≠some (.frz ob u))(q:ObD g α (gD H a o) a ob):Wd g α (S.set l ob) (gD H a o) where
 len:=by rw[List.length_set];exact w.len
 nd:=w.nd
 obj:=λm b ob' h1 h2=>by
  by_cases e:l=m
  .subst e;rw[h]at h1;have hl:l<S.length:=by rw[<-w.len];exact(gS.mp h).1
   rw[getElem?_set_self hl]at h2;rw[<-Option.some.inj h1, <-Option.some.inj h2];exact q
  .rw[getElem?_set_ne e]at h2;exact(w.obj m b ob' h1 h2).move (w.writex h nf).toEx0 (yF (w.ne h1 h λz=>e z.symm))
def Wd.enterx(w:Wd g α S H){H0:Hp}{α0:Vb}(x:Ext α0 H0 α H){b:Addr}(h0:H0 b=none)(n:b∉α):Ext α0 H0 (α++[b]) H where
 pre:=let ⟨t,e⟩:=x.pre;⟨t++[b],by rw[e,aA]⟩
 new:=λc hc=>(List.mem_append.mp hc).elim (x.new c) λz=>.inr (by rw[mS.mp z];exact h0)
 keep:=x.keep
 has:=x.has
 tup:=x.tup
 frz:=x.frz
def Wd.enter(w:Wd g α S H){b:Addr}{ds:Xb}{vs:List V}(h:H b=some (.lst vs))(n:b∉α)(l:DenL g.K α H ds vs):Wd g (α++[b]) (S++[.lst ds]) H where
 len:=by rw[lA,lA,w.len];rfl
 nd:=nodup_append.mpr ⟨w.nd,by simp,λa ha c hc=>by rw[mS.mp hc];rintro rfl;exact n ha⟩
 obj:=λm a o h1 h2=>by
  by_cases hm:m<α.length
  .rw[getElem?_append_left hm]at h1;rw[getElem?_append_left (by rw[<-w.len];exact hm)]at h2;exact(w.obj m a o h1 h2).move (Ex0.grow α [b] H) rfl
  .have hm':m=α.length:=by have:=(gS.mp h1).1;rw[lA,lS]at this;omega
   subst hm';rw[getElem?_append_right (Nat.le_refl _),sub_self]at h1;rw[getElem?_append_right (by rw[w.len];exact Nat.le_refl _),w.len,sub_self]at h2;cases h1;cases h2;exact⟨vs,h,l.ex0 (Ex0.grow α [b] H)⟩
end
inductive R(β:Type) where
 |ok (b:β) (S:Sto)|exc (c:Str) (fs:List (Str×MV)) (S:Sto)|no
def R.bind{β γ:Type}:R β->(β->Sto->R γ)->R γ
 |.ok b S,k=>k b S
 |.exc c fs S,_=>.exc c fs S
 |.no,_=>.no
theorem R.bind_ok{β γ:Type}(b:β)(S:Sto)(k:β->Sto->R γ):(R.ok b S).bind k=k b S:=rfl
inductive Er where
 |val (d:MV)|new (ds:Xb)
instance:Inhabited Er:=⟨.val .non⟩
def DenX(K:Vk)(α:Vb)(H:Hp):Er->V->Prop
 |.val d,v=>Den K α H d v
 |.new ds,v=> ∃b vs,v=.ref b/\H b=some (.lst vs)/\b∉α/\DenL K α H ds vs
def DenE(K:Vk)(H:Hp)(α':Vb)(H':Hp)(r:Er)(v:V):Prop:=DenX K α' H' r v/\match r with |.new _=> ∀a,v=.ref a->H a=none|_=>True
section
variable{K:Vk}{α α':Vb}{H H0 H':Hp}
def DenX.ext(x:Ext α H α' H'): ∀{r:Er}{v:V},DenX K α H r v->DenX K α' H' r v
 |.val d,_,q=>Den.ext x q
 |.new ds,_,⟨b,vs,e,h,n,l⟩=>⟨b,vs,e,x.keep b _ h n,x.out h n,l.ext x⟩
def DenE.val{d:MV}{v:V}(q:Den K α' H' d v):DenE K H α' H' (.val d) v:=⟨q,trivial⟩
def DenE.back(hf: ∀b,H b=none->H0 b=none){r:Er}{v:V}(q:DenE K H α' H' r v):DenE K H0 α' H' r v:=by
 refine⟨q.1,?_⟩
 cases r with
 |new ds=>exact λa e=>hf a (q.2 a e)
 |_=>trivial
def DenE.ext{α'':Vb}{H'':Hp}(x:Ext α' H' α'' H''){r:Er}{v:V}(q:DenE K H α' H' r v):DenE K H α'' H'' r v:=⟨q.1.ext x,q.2⟩
end
section
variable{K:Vk}{α:Vb}{H:Hp}{v:V}
def uB(d:DenX K α H (.val .non) v):v=.non:=eU (K:=K) (α:=α) (H:=H) d
def vA{b:Bool}(d:DenX K α H (.val (.bl b)) v):v=.bl b:=qX (K:=K) (α:=α) (H:=H) d
def xU{b:Int}(d:DenX K α H (.val (.int b)) v):v=.int b:=jP (K:=K) (α:=α) (H:=H) d
def cP{b:Db}(d:DenX K α H (.val (.str b)) v):v=.str (gF b):=jQ (K:=K) (α:=α) (H:=H) d
def ZA{b:String}(d:DenX K α H (.val (.typ b)) v):v=.ty b:=eV (K:=K) (α:=α) (H:=H) d
def Mq{c:Str}{ns:Vc}{ds:Xb}(d:DenX K α H (.val (.obj c ns ds)) v): ∃a C dx vs o,v=.ref a/\H a=some (.frz o (.ins C dx (ns.zip vs)))/\PySem.W.nsIn K mainGlobals c=some (some (.ref C))/\(PySem.W.clsIn K C).map (·.name)=some c/\ns.length=vs.length/\DenL K α H ds vs:=dY (K:=K) (α:=α) (H:=H) d
def eW{ds:Xb}(d:DenX K α H (.val (.tup ds)) v): ∃a vs,v=.ref a/\SqT K H a vs/\DenL K α H ds vs:=jR (K:=K) (α:=α) (H:=H) d
def DX{ds:Xb}(d:DenX K α H (.val (.scr ds)) v): ∃a vs,v=.ref a/\SqF K H a vs/\DenL K α H ds vs:=dZ (K:=K) (α:=α) (H:=H) d
def eX{l:Nat}(d:DenX K α H (.val (.loc l)) v): ∃a,v=.ref a/\α[l]? =some a:=cO (K:=K) (α:=α) (H:=H) d
end
def tR:List Er->List V->List Addr
 |.new _::rs,.ref b::vs=>b::tR rs vs
 |_::rs,_::vs=>tR rs vs
 |_,_=>[]
inductive ArgsE(K:Vk)(H:Hp)(α':Vb)(H':Hp):List Er->List V->Prop
 |nil:ArgsE K H α' H' [] []
 |cons {r v rs vs}:DenE K H α' H' r v->(∀ds b,r=.new ds->v=.ref b->b∉tR rs vs)->ArgsE K H α' H' rs vs->ArgsE K H α' H' (r::rs) (v::vs)
theorem ArgsE.nones{K:Vk}{H:Hp}{α':Vb}{H':Hp}: ∀{rs vs},ArgsE K H α' H' rs vs-> ∀b∈tR rs vs,H b=none
 |_,_,.nil=>λb h=>by simp[tR]at h
 |.val d::_,v::_,.cons a n l=>λb h=>ArgsE.nones l b (by simpa [tR]using h)
 |.new ds::_,v::_,.cons a n l=>λb h=>by
  obtain⟨c,vs,rfl,_⟩:=a.1;rcases mC.mp (show b∈c::tR _ _ from h)with rfl|h
  .exact a.2 _ rfl
  .exact ArgsE.nones l b h
theorem ArgsE.ext{K:Vk}{H:Hp}{α' α'':Vb}{H' H'':Hp}(x:Ext α' H' α'' H''): ∀{rs vs},ArgsE K H α' H' rs vs->ArgsE K H α'' H'' rs vs
 |_,_,.nil=>.nil
 |_,_,.cons a n l=>.cons (a.ext x) n (ArgsE.ext x l)
theorem ArgsE.back{K:Vk}{H H0:Hp}{α':Vb}{H':Hp}(hf: ∀b,H b=none->H0 b=none): ∀{rs vs},ArgsE K H α' H' rs vs->ArgsE K H0 α' H' rs vs
 |_,_,.nil=>.nil
 |_,_,.cons a n l=>.cons (a.back hf) n (ArgsE.back hf l)
theorem ArgsE.length{K:Vk}{H:Hp}{α':Vb}{H':Hp}: ∀{rs vs},ArgsE K H α' H' rs vs->vs.length=rs.length
 |_,_,.nil=>rfl
 |_,_,.cons _ _ l=>by rw[lC,lC,ArgsE.length l]
class Dn (β:Type) (τ:outParam Type) where
 d:Gm->Hp->List Addr->Sto->Hp->β->τ->Prop
 back: ∀{g:Gm}{H H0:Hp}{α':Vb}{S':Sto}{H':Hp}{b:β}{u:τ},(∀b,H b=none->H0 b=none)->d g H α' S' H' b u->d g H0 α' S' H' b u
instance:Dn Er V:=⟨λg H α' _ H' r v=>DenE g.K H α' H' r v,λhf q=>q.back hf⟩
instance:Dn Bool Bool:=⟨λ_ _ _ _ _ b u=>u=b,λ_ q=>q⟩
instance:Dn (List Er) (List V):=⟨λg H α' _ H' r v=>ArgsE g.K H α' H' r v,λhf q=>q.back hf⟩
instance:Dn (Option Int) (Option Int):=⟨λ_ _ _ _ _ b u=>u=b,λ_ q=>q⟩
abbrev XW:=Str->List (Str×MV)->Sto->List Addr->Hp->Prop
abbrev W0:XW:=λ_ _ _ _ _=>False
def Post{β τ:Type}[Dn β τ](g:Gm)(W:XW)(α:Vb)(H:Hp):R β->(τ->Hp->Prop)->Prop
 |.ok b S,Q=> ∀u α' H',Ext α H α' H'->Wd g α' S H'->Dn.d g H α' S H' b u->Q u H'
 |.exc c fs S,_=> ∀α' H',Ext α H α' H'->Wd g α' S H'->W c fs S α' H'
 |.no,_=>False
section
variable{β τ γ υ:Type}[Dn β τ][Dn γ υ]{g:Gm}{W:XW}{α α':Vb}{H H':Hp}
def Post.shift(x:Ext α H α' H'): ∀{m:R β}{Q:τ->Hp->Prop},Post g W α H m Q->Post g W α' H' m Q
 |.ok b S,Q,q=>λu α2 H2 x2 w2 d2=>q u α2 H2 (x.trans x2) w2 (Dn.back (λb h=>x.free h) d2)
 |.exc c fs S,_,q=>λα2 H2 x2 w2=>q α2 H2 (x.trans x2) w2
 |.no,_,q=>q
def Post.bind{m:R β}{k:β->Sto->R γ}{Q:υ->Hp->Prop}{Q':τ->Hp->Prop}(q:Post g W α H (m.bind k) Q)
  (f: ∀u b S1 α1 H1,m=.ok b S1->Ext α H α1 H1->Wd g α1 S1 H1->Dn.d g H α1 S1 H1 b u->Post g W α H (k b S1) Q->Q' u H1):Post g W α H m Q':=by
 cases m with
 |ok b S=>exact λu α1 H1 x w d=>f u b S α1 H1 rfl x w d q
 |exc c fs S=>exact q
 |no=>exact q
def Post.here{b:β}{S:Sto}{Q:τ->Hp->Prop}{u:τ}(q:Post g W α H (.ok b S) Q)(w:Wd g α S H)(d:Dn.d g H α S H b u):Q u H:=q u α H (Ext.refl α H) w d
end
def Post.val{g:Gm}{W:XW}{α:Vb}{H:Hp}{d:MV}{S:Sto}{Q:VK}{v:V}(q:Post g W α H (.ok (Er.val d) S) Q)(w:Wd g α S H)(k:Den g.K α H d v):Q v H:=q.here w (DenE.val k)
def Post.newl{g:Gm}{W:XW}{α:Vb}{H:Hp}{ds:Xb}{S:Sto}{Q:VK}{vs:List V}{p:Addr}(q:Post g W α H (.ok (Er.new ds) S) Q)(w:Wd g α S H)(hp:H p=none)(l:DenL g.K α H ds vs):Q (.ref p) (gD H p (.lst vs)):=
 q (.ref p) α _ (w.newx hp) (w.new hp) ⟨⟨p,vs,rfl,xB,w.fresh hp,l.ext (w.newx hp)⟩,λa e=>by cases e;exact hp⟩
def Post.newt{g:Gm}{W:XW}{α:Vb}{H:Hp}{ds:Xb}{S:Sto}{Q:VK}{vs:List V}{p:Addr}(q:Post g W α H (.ok (Er.val (.tup ds)) S) Q)(w:Wd g α S H)(hp:H p=none)(l:DenL g.K α H ds vs):Q (.ref p) (gD H p (.tup vs)):=
 q (.ref p) α _ (w.newx hp) (w.new hp) (.val (pW (.of xB) (l.ext (w.newx hp))))
abbrev Rho:=List (Option MV)
structure Slots(K:Vk)(α:Vb)(H:Hp)(ρ:Rho)(σ:St):Prop where
 len:σ.length=ρ.length
 slot: ∀(i:Nat)(d:MV),ρ[i]? =some (some d)-> ∃v,σ[i]? =some (some v)/\Den K α H d v
section
variable{K:Vk}{α α':Vb}{H H':Hp}{ρ:Rho}{σ:St}
def Slots.ex0(q:Slots K α H ρ σ)(x:Ex0 α H α' H'):Slots K α' H' ρ σ:=⟨q.len,λi d e=>let ⟨v,h1,h2⟩:=q.slot i d e;⟨v,h1,h2.ex0 x⟩⟩
def Slots.ext(q:Slots K α H ρ σ)(x:Ext α H α' H'):Slots K α' H' ρ σ:=q.ex0 x.toEx0
def Ft{α:Type}{l:List α}{i j:Nat}{x y:α}(h:(l.set i x)[j]? =some y):(j=i/\y=x/\i<l.length)\/(j≠i/\l[j]? =some y):=by
 by_cases hj:i=j
 .subst hj;by_cases hl:i<l.length
  .rw[getElem?_set_self hl]at h;exact .inl ⟨rfl,(Option.some.inj h).symm,hl⟩
  .rw[getElem?_eq_none (by rw[List.length_set];omega)]at h;cases h
 .rw[getElem?_set_ne hj]at h;exact .inr ⟨λz=>hj z.symm,h⟩
def Slots.set(q:Slots K α H ρ σ){i:Nat}{d:MV}{v:V}(h:Den K α H d v):Slots K α H (ρ.set i (some d)) (σ.set i (some v)):=by
 refine⟨by rw[List.length_set,List.length_set];exact q.len,λj e z=>?_⟩;rcases Ft z with⟨rfl,e',hl⟩|⟨hj,e'⟩
 .cases e';exact⟨v,by rw[getElem?_set_self (by rw[q.len];exact hl)],h⟩
 .obtain⟨u,h1,h2⟩:=q.slot j e e';exact⟨u,by rw[getElem?_set_ne (Ne.symm hj)];exact h1,h2⟩
end
def Jd(X:Cx)(W:XW){β τ:Type}[Dn β τ](P:(St->Hp->(τ->Hp->Prop)->Prop)->Prop)(f:Rho->Sto->R β):Prop:=
 ∃t,P t/\ ∀α ρ S σ H Q,Wd X.g α S H->Slots X.K α H ρ σ->Post X.g W α H (f ρ S) Q->t σ H Q
abbrev yP(X:Cx)(W:XW)(e:Expr)(f:Rho->Sto->R Er):Prop:=Jd X W (PE X e) f
abbrev DY(X:Cx)(W:XW)(e:Expr)(f:Rho->Sto->R Bool):Prop:=Jd X W (PT X e) f
abbrev Mr(X:Cx)(W:XW)(e:Expr)(f:Rho->Sto->R Bool):Prop:=Jd X W (PW X e) f
abbrev JS(X:Cx)(W:XW)(es:Vj)(f:Rho->Sto->R (List Er)):Prop:=Jd X W (PA X es) f
abbrev Jt(X:Cx)(W:XW)(e:Option Expr)(f:Rho->Sto->R (Option Int)):Prop:=Jd X W (PO X e) f
section
variable{X:Cx}{W:XW}{a b c:Expr}{f g h:Rho->Sto->R Er}{pos:Pos}
def Fv:Option (Option MV)->Sto->R Er
 |some (some d),S=>.ok (.val d) S
 |_,_=>.no
def zA(i:Nat){x:Str}(hN:X.N[i]? =some x:=by rfl)(hv:Qb X.env.scope x:=by first |exact Or.inl rfl|exact Or.inr (Or.inl rfl)|exact Or.inr (Or.inr rfl))(hd:(x==("__debug__":Str))=false:=by decide)
  (hcd:(x==("__classdict__":Str))=false:=by decide):yP X W (.Name x pos) (λρ S=>Fv (ρ[i]?) S):=by
 refine⟨_,pv i hN hv hd hcd,λα ρ S σ H Q wd sl q=>?_⟩;dsimp only at q
 cases z:ρ[i]? with
 |none=>rw[z]at q;exact q.elim
 |some o=>
  cases o with
  |none=>rw[z]at q;exact q.elim
  |some d=>
   rw[z]at q;obtain⟨v,h1,h2⟩:=sl.slot i d z;exact⟨v,h1,Post.val q wd h2⟩
def zD{i:Int}{j:Nat}:yP X W (.Constant (.int i) j pos) (λ_ S=>.ok (.val (.int i)) S):=⟨_,PQ,λα ρ S σ H Q wd sl q=>Post.val q wd (kQ i)⟩
def SV{i:Bool}{j:Nat}:yP X W (.Constant (.bool i) j pos) (λ_ S=>.ok (.val (.bl i)) S):=⟨_,Qd,λα ρ S σ H Q wd sl q=>Post.val q wd (bH i)⟩
def AN{j:Nat}:yP X W (.Constant .none j pos) (λ_ S=>.ok (.val .non) S):=⟨_,Kw,λα ρ S σ H Q wd sl q=>Post.val q wd sV⟩
def yQ{x:Str}{j:Nat}(cs:Db)(hx:x=gF cs:=by rfl):yP X W (.Constant (.str x) j pos) (λ_ S=>.ok (.val (.str cs)) S):=
 ⟨_,Kx,λα ρ S σ H Q wd sl q=>Post.val q wd (by rw[hx];exact mP cs)⟩
def Rx{x:Str}{T:String}(hg:Gl X x)(hm:X.mg x=none)(hv:bootBuiltins x=some (.type T))(hn:x≠"__name__":=by decide)(hd:(x==("__debug__":Str))=false:=by decide):yP X W (.Name x pos) (λ_ S=>.ok (.val (.typ T)) S):=
 ⟨_,Ec (v:=.ty T) hg hm hv rfl hn hd,λα ρ S σ H Q wd sl q=>Post.val q wd (SS T)⟩
def QO{i:Int}{j:Nat}{p3:Pos}:yP X W (.UnaryOp .USub (.Constant (.int i) j p3) pos) (λ_ S=>.ok (.val (.int (-i))) S):=
 ⟨_,Jp YE PQ,λα ρ S σ H Q wd sl q=>⟨i,rfl,Post.val q wd (kQ (-i))⟩⟩
def MM(X:Cx)(W:XW)(r:R2)(F:Er->Er->Sto->R Er):Prop:= ∀p q x y α S H Q,Wd X.g α S H->DenX X.K α H p x->DenX X.K α H q y->Post X.g W α H (F p q S) Q->r x y H Q
def two{r:R2}{F:Er->Er->Sto->R Er}(hF:MM X W r F){ta tb:TE}(fa: ∀α ρ S σ H Q,Wd X.g α S H->Slots X.K α H ρ σ->Post X.g W α H (f ρ S) Q->ta σ H Q)
  (fb: ∀α ρ S σ H Q,Wd X.g α S H->Slots X.K α H ρ σ->Post X.g W α H (g ρ S) Q->tb σ H Q) {α:Vb} {ρ:Rho} {S:Sto} {σ:St} {H:Hp} {Q:VK} (wd:Wd X.g α S H) (sl:Slots X.K α H ρ σ)
  (q:Post X.g W α H ((f ρ S).bind λp S1=>(g ρ S1).bind λq S2=>F p q S2) Q):ta σ H λx H1=>tb σ H1 λy H2=>r x y H2 Q:=
 fa α ρ S σ H _ wd sl (q.bind λu p S1 α1 H1 e1 x1 w1 d1 q1=>fb α1 ρ S1 σ H1 _ w1 (sl.ext x1) ((q1.shift x1).bind λu2 p2 S2 α2 H2 e2 x2 w2 d2 q2=>
  hF p p2 u u2 α2 S2 H2 Q w2 (d1.1.ext x2) d2.1 (q2.shift x2)))
def IA{op:Operator}{r:R2}{F:Er->Er->Sto->R Er}(ho:OpR X (binaryOp op) r)(hF:MM X W r F)(ha:yP X W a f)(hb:yP X W b g):yP X W (.BinOp a op b pos) (λρ S=>(f ρ S).bind λp S1=>(g ρ S1).bind λq S2=>F p q S2):=by obtain⟨ta,ha,fa⟩:=ha;obtain⟨tb,hb,fb⟩:=hb;exact⟨_,Qr ho ha hb,λα ρ S σ H Q wd sl q=>two hF fa fb wd sl q⟩
def QP{op:CmpOp}{r:R2}{F:Er->Er->Sto->R Er}(ho:OpR X (compareOp op) r)(hF:MM X W r F)(ha:yP X W a f)(hb:yP X W b g)(hm:behindInMarks op b=false:=by first |exact YF _|with_unfolding_all rfl):
  yP X W (.Compare a [op] [b] pos) (λρ S=>(f ρ S).bind λp S1=>(g ρ S1).bind λq S2=>F p q S2):=by
 obtain⟨ta,ha,fa⟩:=ha;obtain⟨tb,hb,fb⟩:=hb;exact⟨_,El ho ha hb hm,λα ρ S σ H Q wd sl q=>two hF fa fb wd sl q⟩
def ZC{r:R2}{F:Er->Er->Sto->R Er}(ho:IxR X r)(hF:MM X W r F)(ha:yP X W a f)(hb:yP X W b g)(hs:uV b:=by exact λ_ _=>rfl):
  yP X W (.Subscript a b pos) (λρ S=>(f ρ S).bind λp S1=>(g ρ S1).bind λq S2=>F p q S2):=by
 obtain⟨ta,ha,fa⟩:=ha;obtain⟨tb,hb,fb⟩:=hb;exact⟨_,Rb ho ha hb hs,λα ρ S σ H Q wd sl q=>two hF fa fb wd sl q⟩
def gC:Er->Sto->R Bool
 |.val (.bl b),S=>.ok b S
 |_,_=>.no
def ZD{p:Er}{S:Sto}{α:Vb}{H:Hp}{Q:Bool->Hp->Prop}(q:Post X.g W α H (gC p S) Q): ∃k,p=.val (.bl k)/\Post X.g W α H (.ok k S) Q:=by
 unfold gC at q;split at q
 .exact⟨_,rfl,q⟩
 .exact q.elim
def NH{β τ:Type}[Dn β τ]{p:Er}{S:Sto}{α:Vb}{H:Hp}{k:Bool->Sto->R β}{Q:τ->Hp->Prop}(q:Post X.g W α H ((gC p S).bind k) Q): ∃c,p=.val (.bl c)/\Post X.g W α H (k c S) Q:=by
 unfold gC at q;split at q
 .exact⟨_,rfl,q⟩
 .exact q.elim
def oE{op:CmpOp}{r:R2}{F:Er->Er->Sto->R Er}(ho:OpR X (compareOp op) r)(hF:MM X W r F)(ha:yP X W a f)(hb:yP X W b g)(hm:behindInMarks op b=false:=by first |exact YF _|with_unfolding_all rfl):
  DY X W (.Compare a [op] [b] pos) (λρ S=>((f ρ S).bind λp S1=>(g ρ S1).bind λq S2=>F p q S2).bind gC):=by
 obtain⟨ta,ha,fa⟩:=ha;obtain⟨tb,hb,fb⟩:=hb;refine⟨_,Em ho ha hb hm,λα ρ S σ H Q wd sl q=>?_⟩;refine two hF fa fb wd sl (Q:=λx H'=> ∃k,x=.bl k/\Q k H') (q.bind λu p S1 α1 H1 e1 x1 w1 d1 q1=>?_);obtain⟨k,rfl,q2⟩:=ZD (q1.shift x1);exact⟨k,vA d1.1,q2.here w1 rfl⟩
def chF(F G:Er->Er->Sto->R Er)(p q:Er)(S:Sto)(k:Sto->R Er):R Er:=(F p q S).bind λz S1=>(gC z S1).bind λc S2=>if c=true then(k S2).bind λr S3=>G q r S3 else .ok (.val (.bl false)) S2
def NL:Er->Sto->R Bool
 |.val .non,S=>.ok false S
 |.val (.bl b),S=>.ok b S
 |.val (.int i),S=>.ok (i !=0) S
 |.val (.str x),S=>if x.length<=sizeLine then .ok (!x.isEmpty) S else .no
 |.val (.tup ds),S=>.ok (!ds.isEmpty) S
 |.val (.scr ds),S=>.ok (!ds.isEmpty) S
 |.val (.loc l),S=>match S[l]? with
  |some (.lst ds)=>.ok (!ds.isEmpty) S
  |_=>.no
 |.val (.typ _),_=>.no
 |.val (.obj _ _ _),_=>.no
 |.new ds,S=>.ok (!ds.isEmpty) S
def sW{ds:Xb}{vs:List V}{K:Vk}{α:Vb}{H:Hp}(l:DenL K α H ds vs):(!vs.isEmpty)= !ds.isEmpty:=by have:=l.length;cases ds<;>cases vs<;>simp_all
def ZE{p:Er}{x:V}{S:Sto}{α:Vb}{H:Hp}{Q:Bool->Hp->Prop}(wd:Wd X.g α S H)(d:DenX X.K α H p x)(q:Post X.g W α H (NL p S) Q): ∃k,Lu X.K x H k/\Q k H:=by
 match p,d,q with
 |.val .non,d,q=>cases uB d;exact⟨_,rfl,q.here wd rfl⟩
 |.val (.bl b),d,q=>cases vA d;exact⟨_,rfl,q.here wd rfl⟩
 |.val (.int i),d,q=>cases xU d;exact⟨_,rfl,q.here wd rfl⟩
 |.val (.typ n),d,q=>exact q.elim
 |.val (.obj _ _ _),d,q=>exact q.elim
 |.val (.str z),d,q=>
  cases cP d;have q':Post X.g W α H (if z.length<=sizeLine then R.ok (!z.isEmpty) S else R.no) Q:=q;split at q'
  .rename_i hz;refine⟨_,⟨by rw[gW];exact hz,?_⟩,q'.here wd rfl⟩;rw[gW]
   cases z with
   |nil=>rfl
   |cons c r=>
    have h0:((r.length:Int)+1)≠0:=by omega
    simp[h0]
  .exact q'.elim
 |.val (.tup ds),d,q=>
  obtain⟨a,vs,rfl,s,l⟩:=eW d;exact⟨_,.inr (.inl ⟨vs,s,(sW l).symm⟩),q.here wd rfl⟩
 |.val (.scr ds),d,q=>
  obtain⟨a,vs,rfl,s,l⟩:=DX d;exact⟨_,.inl ⟨vs,s.l,(sW l).symm⟩,q.here wd rfl⟩
 |.val (.loc n),d,q=>
  obtain⟨a,rfl,h⟩:=eX d;obtain⟨o,h1,h2⟩:=wd.of h;have q':Post X.g W α H (match S[n]? with |some (.lst ds)=>R.ok (!ds.isEmpty) S|_=>R.no) Q:=q;rw[h1]at q'
  cases o with
  |lst ds=>
   obtain⟨vs,h3,l⟩:=h2;exact⟨_,.inl ⟨vs,.of h3,(sW l).symm⟩,q'.here wd rfl⟩
  |dic ds=>exact q'.elim
  |ins c fs=>exact q'.elim
  |rcd c fs=>exact q'.elim
 |.new ds,⟨a,vs,ex,s,n,l⟩,q=>subst ex;exact⟨_,.inl ⟨vs,.of s,(sW l).symm⟩,q.here wd rfl⟩
def DZ(ha:yP X W a f)(he: ∀whole,isTrue a X.env whole=(do let v <-whole;standAt a.pos;holding [v] (truthy v)):=by intro _;rfl):DY X W a (λρ S=>(f ρ S).bind NL):=by obtain⟨ta,ha,fa⟩:=ha;exact⟨_,YG ha he,λα ρ S σ H Q wd sl q=>fa α ρ S σ H _ wd sl (q.bind λu p S1 α1 H1 e1 x1 w1 d1 q1=>ZE w1 d1.1 (q1.shift x1))⟩
end
section
variable{X:Cx}{W:XW}{a b c:Expr}{es:Vj}{f g h:Rho->Sto->R Er}{tf tg:Rho->Sto->R Bool}{pos:Pos}
def Fx(p:Er)(S:Sto)(k:Sto->R Er):R Er:=(gC p S).bind λc S1=>if c=true then k S1 else .ok (.val (.bl false)) S1
def orF(p:Er)(S:Sto)(k:Sto->R Er):R Er:=(gC p S).bind λc S1=>if c=true then .ok (.val (.bl true)) S1 else k S1
def Ms{op}(ha:yP X W a f):yP X W (.BoolOp op [a] pos) f:=let ⟨t,h,k⟩:=ha;⟨t,Lb h,k⟩
def Mt(ha:yP X W a f)(hb:yP X W (.BoolOp .And (b::es) pos) g):yP X W (.BoolOp .And (a::b::es) pos) (λρ S=>(f ρ S).bind λp S1=>Fx p S1 λS2=>g ρ S2):=by
 obtain⟨ta,ha,fa⟩:=ha;obtain⟨tb,hb,fb⟩:=hb;refine⟨_,Lc ha hb,λα ρ S σ H Q wd sl q=>fa α ρ S σ H _ wd sl (q.bind λu p S1 α1 H1 e1 x1 w1 d1 q1=>?_)⟩;obtain⟨k,rfl,q2⟩:=NH (q1.shift x1);refine⟨k,vA d1.1,?_⟩
 cases k with
 |true=>rw[iP rfl]at q2 ⊢; exact fb α1 ρ S1 σ H1 _ w1 (sl.ext x1) q2
 |false=>rw[iN xF0]at q2 ⊢; exact Post.val q2 w1 (bH false)
def Mu(ha:yP X W a f):yP X W (.UnaryOp .Not a pos) (λρ S=>(f ρ S).bind λp S1=>(gC p S1).bind λk S2=>.ok (.val (.bl !k)) S2):=by obtain⟨ta,ha,fa⟩:=ha;refine⟨_,Ld ha,λα ρ S σ H Q wd sl q=>fa α ρ S σ H _ wd sl (q.bind λu p S1 α1 H1 e1 x1 w1 d1 q1=>?_)⟩;obtain⟨k,rfl,q2⟩:=NH (q1.shift x1);exact⟨k,vA d1.1,Post.val q2 w1 (bH _)⟩
def ZF(hc:DY X W c tf)(ha:yP X W a f)(hb:yP X W b g):yP X W (.IfExp c a b pos) (λρ S=>(tf ρ S).bind λk S1=>if k=true then f ρ S1 else g ρ S1):=by
 obtain⟨tc,hc,fc⟩:=hc;obtain⟨ta,ha,fa⟩:=ha;obtain⟨tb,hb,fb⟩:=hb;refine⟨_,XY hc ha hb,λα ρ S σ H Q wd sl q=>fc α ρ S σ H _ wd sl (q.bind λu p S1 α1 H1 e1 x1 w1 d1 q1=>?_)⟩;cases d1
 cases u with
 |true=>rw[iP rfl]at q1 ⊢; exact fa α1 ρ S1 σ H1 _ w1 (sl.ext x1) (q1.shift x1)
 |false=>rw[iN xF0]at q1 ⊢; exact fb α1 ρ S1 σ H1 _ w1 (sl.ext x1) (q1.shift x1)
def pY(ha:DY X W a tf):Mr X W (.BoolOp .And [a] pos) tf:=let ⟨t,h,k⟩:=ha;⟨t,Ed h,k⟩
def ZG(ha:DY X W a tf):Mr X W (.BoolOp .Or [a] pos) tf:=let ⟨t,h,k⟩:=ha;⟨t,Ky h,k⟩
theorem uC(ha:DY X W a tf)(hb:Mr X W (.BoolOp .And (b::es) pos) tg):Mr X W (.BoolOp .And (a::b::es) pos) (λρ S=>(tf ρ S).bind λk S1=>if k=true then tg ρ S1 else .ok false S1):=by
 obtain⟨ta,ha,fa⟩:=ha;obtain⟨tb,hb,fb⟩:=hb;refine⟨_,Kz ha hb,λα ρ S σ H Q wd sl q=>fa α ρ S σ H _ wd sl (q.bind λu p S1 α1 H1 e1 x1 w1 d1 q1=>?_)⟩;cases d1
 cases u with
 |true=>rw[iP rfl]at q1 ⊢; exact fb α1 ρ S1 σ H1 _ w1 (sl.ext x1) (q1.shift x1)
 |false=>rw[iN xF0]at q1 ⊢; exact(q1.shift x1).here w1 rfl
def ZH(ha:DY X W a tf)(hb:Mr X W (.BoolOp .Or (b::es) pos) tg):Mr X W (.BoolOp .Or (a::b::es) pos) (λρ S=>(tf ρ S).bind λk S1=>if k=true then .ok true S1 else tg ρ S1):=by
 obtain⟨ta,ha,fa⟩:=ha;obtain⟨tb,hb,fb⟩:=hb;refine⟨_,Qe ha hb,λα ρ S σ H Q wd sl q=>fa α ρ S σ H _ wd sl (q.bind λu p S1 α1 H1 e1 x1 w1 d1 q1=>?_)⟩;cases d1
 cases u with
 |true=>rw[iP rfl]at q1 ⊢; exact(q1.shift x1).here w1 rfl
 |false=>rw[iN xF0]at q1 ⊢; exact fb α1 ρ S1 σ H1 _ w1 (sl.ext x1) (q1.shift x1)
def vB(h:Mr X W a tf):DY X W a tf:=let ⟨t,h,k⟩:=h;⟨t,h.pt,k⟩
theorem Mv(ha:DY X W a tf):DY X W (.UnaryOp .Not a pos) (λρ S=>(tf ρ S).bind λk S1=>.ok (!k) S1):=by obtain⟨ta,ha,fa⟩:=ha;refine⟨_,La ha,λα ρ S σ H Q wd sl q=>fa α ρ S σ H _ wd sl (q.bind λu p S1 α1 H1 e1 x1 w1 d1 q1=>?_)⟩;cases d1;exact(q1.shift x1).here w1 rfl
end
section
variable{K:Vk}{H0:Hp}
def zM:List Er->Sto->List MV×Sto
 |[],S=>([],S)
 |.val d::rs,S=>((d::(zM rs S).1),(zM rs S).2)
 |.new xs::rs,S=>((.loc S.length::(zM rs (S++[.lst xs])).1),(zM rs (S++[.lst xs])).2)
def ArgsE.grow{H0:Hp}{α:Vb}{H:Hp}{b:Addr}{rs:List Er}{vs:List V}(q:ArgsE K H0 α H rs vs)(n:b∉tR rs vs):ArgsE K H0 (α++[b]) H rs vs:=by
 induction q with
 |nil=>exact .nil
 |@cons r v rs vs a m l ih=>
  cases r with
  |val d=>exact .cons ⟨Den.ex0 (Ex0.grow α [b] H) a.1,trivial⟩ m (ih (by simpa [tR]using n))
  |new ds=>
   obtain⟨⟨c,us,rfl,h1,h2,h3⟩,h4⟩:=a;have n':b∉c::tR rs vs:=n;refine .cons ⟨⟨c,us,rfl,h1,λz=>?_,h3.ex0 (Ex0.grow α [b] H)⟩,h4⟩ m (ih λz=>n' (mO _ z));rcases List.mem_append.mp z with z|z
   .exact h2 z
   .exact n' (by rw[mS.mp z];exact mF0)
theorem oW{g:Gm}{H0:Hp}{α0:Vb}{H:Hp}: ∀{rs:List Er}{vs:List V}{α:Vb}{S:Sto},Wd g α S H->Ext α0 H0 α H->ArgsE g.K H0 α H rs vs->
  ∃α',Ext α0 H0 α' H/\Ex0 α H α' H/\Wd g α' (zM rs S).2 H/\DenL g.K α' H (zM rs S).1 vs
 |_,_,α,S,w,x,.nil=>⟨α,x,⟨⟨[],by simp⟩,λ_ _ h=>h,λ_ _ _ h=>h⟩,w,xG⟩
 |.val d::rs,v::vs,α,S,w,x,.cons a n l=>by obtain⟨α',x',y',w',l'⟩:=oW w x l;exact⟨α',x',y',w',yZ (Den.ex0 y' a.1) l'⟩
 |.new ds::rs,v::vs,α,S,w,x,.cons a n l=>by
  obtain⟨⟨c,us,rfl,h1,h2,h3⟩,h4⟩:=a;obtain⟨α',x',y',w',l'⟩:=oW (w.enter h1 h2 h3) (w.enterx x (h4 c rfl) h2) (l.grow (n ds c rfl rfl));refine⟨α',x',⟨?_,y'.tup,y'.frz⟩,w',yZ (pX (y'.at ?_)) l'⟩
  .obtain⟨t,e⟩:=y'.pre;exact⟨[c]++t,by rw[e,aA]⟩
  .rw[<-w.len,getElem?_append_right (Nat.le_refl _),sub_self];rfl
theorem sX: ∀(rs:List Er)(S:Sto),(zM rs S).1.length=rs.length
 |[],S=>rfl
 |.val d::rs,S=>by show(d::(zM rs S).1).length=_;rw[lC,sX rs S];rfl
 |.new ds::rs,S=>by show(_::(zM rs _).1).length=_;rw[lC,sX rs _];rfl
end
section
variable{X:Cx}{W:XW}{a b c e:Expr}{es:Vj}{f g h:Rho->Sto->R Er}{af:Rho->Sto->R (List Er)}{pos:Pos}
def zF:JS X W [] (λ_ S=>.ok [] S):=⟨_,Ly,λα ρ S σ H Q wd sl q=>q.here wd .nil⟩
def zB(ha:yP X W a f)(hr:JS X W es af)(hs:starEach (a::es) X.env=(false,eval a X.env)::starEach es X.env:=by rfl):JS X W (a::es) (λρ S=>(f ρ S).bind λp S1=>(af ρ S1).bind λps S2=>.ok (p::ps) S2):=by
 obtain⟨ta,ha,fa⟩:=ha;obtain⟨tr,hr,fr⟩:=hr;refine⟨_,Es ha hr hs,λα ρ S σ H Q wd sl q=>fa α ρ S σ H _ wd sl (q.bind λu p S1 α1 H1 e1 x1 w1 d1 q1=>fr α1 ρ S1 σ H1 _ w1 (sl.ext x1) ?_)⟩;have q1':Post X.g W α H ((af ρ S1).bind λps S2=>.ok (p::ps) S2) Q:=q1
 cases z:af ρ S1 with
 |ok ps S2=>
  rw[z]at q1';intro vs α2 H2 x2 w2 d2;refine q1' (u::vs) α2 H2 (x1.trans x2) w2 (ArgsE.cons (DenE.ext x2 d1) (λds b er eu hb=>?_) (ArgsE.back (λb h=>x1.free h) d2));subst er eu;obtain⟨⟨c,us,ec,h1,_⟩,_⟩:=d1;cases ec;have:=ArgsE.nones d2 _ hb;rw[h1]at this;cases this
 |exc c fs S2=>rw[z]at q1';exact λα2 H2 x2 w2=>q1' α2 H2 (x1.trans x2) w2
 |no=>rw[z]at q1';exact q1'
def nA(rs:List Er)(S:Sto):R Er:=if rs.length<=sizeLine then .ok (.val (.tup (zM rs S).1)) (zM rs S).2 else .no
def gX(rs:List Er)(S:Sto):R Er:=if rs.length<=sizeLine then .ok (.new (zM rs S).1) (zM rs S).2 else .no
def bI{x1}(h:JS X W es af):yP X W (.Tuple es x1 pos) (λρ S=>(af ρ S).bind nA):=by
 obtain⟨t,h,k⟩:=h;refine⟨_,Lz h,λα ρ S σ H Q wd sl q=>k α ρ S σ H _ wd sl (q.bind λvs rs S1 α1 H1 e1 x1 w1 d1 q1=>?_)⟩;have q1':Post X.g W α H (if rs.length<=sizeLine then R.ok (Er.val (.tup (zM rs S1).1)) (zM rs S1).2 else R.no) Q:=q1;split at q1'
 .rename_i hz;obtain⟨α2,x2,y2,w2,l2⟩:=oW w1 x1 d1;exact⟨by rw[ArgsE.length d1];exact hz,λp hp=>(q1'.shift x2).newt w2 hp l2⟩
 .exact q1'.elim
def kU(h:JS X W es af):yP X W (.List es pos) (λρ S=>(af ρ S).bind gX):=by
 obtain⟨t,h,k⟩:=h;refine⟨_,Ma h,λα ρ S σ H Q wd sl q=>k α ρ S σ H _ wd sl (q.bind λvs rs S1 α1 H1 e1 x1 w1 d1 q1=>?_)⟩;have q1':Post X.g W α H (if rs.length<=sizeLine then R.ok (Er.new (zM rs S1).1) (zM rs S1).2 else R.no) Q:=q1;split at q1'
 .rename_i hz;obtain⟨α2,x2,y2,w2,l2⟩:=oW w1 x1 d1;exact⟨by rw[ArgsE.length d1];exact hz,λp hp=>(q1'.shift x2).newl w2 hp l2⟩
 .exact q1'.elim
inductive ArgsX(K:Vk)(α:Vb)(H:Hp):List Er->List V->Prop
 |nil:ArgsX K α H [] []
 |cons {r v rs vs}:DenX K α H r v->ArgsX K α H rs vs->ArgsX K α H (r::rs) (v::vs)
theorem ArgsE.x{K:Vk}{H0:Hp}{α:Vb}{H:Hp}: ∀{rs vs},ArgsE K H0 α H rs vs->ArgsX K α H rs vs
 |_,_,.nil=>.nil
 |_,_,.cons a _ l=>.cons a.1 (ArgsE.x l)
def tS(X:Cx)(W:XW)(r:List V->Hp->VK->Prop)(F:List Er->Sto->R Er):Prop:= ∀rs vs α S H Q,Wd X.g α S H->ArgsX X.K α H rs vs->Post X.g W α H (F rs S) Q->r vs H Q
def xH{id:String}{r:List V->Hp->VK->Prop}{F:List Er->Sto->R Er}{x:Str}{p:Pos}(hc:CallR X (.builtin id) r)(hF:tS X W r F)(hg:Gl X x)(hm:X.mg x=none)(hv:bootBuiltins x=some (.builtin id))(ha:JS X W (e::es) af)
  (hn:x≠"__name__":=by decide) (hdb:(x==("__debug__":Str))=false:=by decide)
  (he:starEach (e::es) X.env=(false,eval e X.env)::starEach es X.env:=by rfl) (hpl:(backTo pos (starEach es X.env)).any (·.1)=false:=by rfl):yP X W (.Call (.Name x p) (e::es) [] pos) (λρ S=>(af ρ S).bind F):=by
 obtain⟨t,ha,k⟩:=ha;exact⟨_,YL hc hg hm hv ha hn hdb he hpl,λα ρ S σ H Q wd sl q=>k α ρ S σ H _ wd sl (q.bind λvs rs S1 α1 H1 e1 x1 w1 d1 q1=>hF rs vs α1 S1 H1 Q w1 (ArgsE.x d1) (q1.shift x1))⟩
def xT{T:String}{r:List V->Hp->VK->Prop}{F:List Er->Sto->R Er}{x:Str}{p:Pos}(hc:CallR X (.type T) r)(hF:tS X W r F)(hg:Gl X x)(hm:X.mg x=none)(hv:bootBuiltins x=some (.type T))(ha:JS X W (e::es) af)
  (hn:x≠"__name__":=by decide) (hdb:(x==("__debug__":Str))=false:=by decide)
  (he:starEach (e::es) X.env=(false,eval e X.env)::starEach es X.env:=by rfl) (hpl:(backTo pos (starEach es X.env)).any (·.1)=false:=by rfl):yP X W (.Call (.Name x p) (e::es) [] pos) (λρ S=>(af ρ S).bind F):=by
 obtain⟨t,ha,k⟩:=ha;exact⟨_,VR hc hg hm hv ha hn hdb he hpl,λα ρ S σ H Q wd sl q=>k α ρ S σ H _ wd sl (q.bind λvs rs S1 α1 H1 e1 x1 w1 d1 q1=>hF rs vs α1 S1 H1 Q w1 (ArgsE.x d1) (q1.shift x1))⟩
def QQ(X:Cx)(W:XW)(r:V->List V->Hp->VK->Prop)(F:Er->List Er->Sto->R Er):Prop:= ∀p rs x vs α S H0 H Q α0,Wd X.g α S H->Ext α0 H0 α H->DenX X.K α H p x->ArgsE X.K H0 α H rs vs->Post X.g W α0 H0 (F p rs S) Q->r x vs H Q
def TyM(X:Cx)(T:String)(ty:Er->Sto->Bool):Prop:= ∀p x α S H,Wd X.g α S H->DenX X.K α H p x->ty p S=true->Ub X.K T x H
def Fy{T:String}{name:Str}{id:String}{r:V->List V->Hp->VK->Prop}{F:Er->List Er->Sto->R Er}{ty:Er->Sto->Bool}{apos:Pos}(pa:PlainAttrs T)(slot:Slot T name id)(hty:typeOf (.builtin id)=pure (.type "method_descriptor"))(hm:Fc X id r)(hF:QQ X W r F)(hT:TyM X T ty)
  (ho:yP X W a f) (ha:JS X W (e::es) af)
  (hbase:attributeBase a name X.env (eval a X.env)=eval a X.env:=by rfl)
  (hfew:((backTo pos (starEach (e::es) X.env)).all (λx=>!x.1)&&(backToKw pos (keywordEach [] X.env)).all (λx=>x.1.isSome)
   &&decide ((e::es).length+([]:List Keyword).length+(if([]:List Keyword).isEmpty then 0 else 1)<30))=true:=by rfl)
  (hline:(apos.endLine==pos.line)=true:=by rfl) (hs:starEach (e::es) X.env=(false,eval e X.env)::starEach es X.env:=by rfl) (hplain:(backTo pos (starEach es X.env)).any (·.1)=false:=by rfl):
  yP X W (.Call (.Attribute a name apos) (e::es) [] pos) (λρ S=>(f ρ S).bind λp S1=>if ty p S1=true then(af ρ S1).bind λrs S2=>F p rs S2 else .no):=by
 obtain⟨to,ho,fo⟩:=ho;obtain⟨t,ha,k⟩:=ha;refine⟨_,Ri pa slot hty hm ho ha hbase hfew hline hs hplain,λα ρ S σ H Q wd sl q=>fo α ρ S σ H _ wd sl (q.bind λu p S1 α1 H1 e1 x1 w1 d1 q1=>?_)⟩;split at q1
 .rename_i hz;exact⟨hT p u α1 S1 H1 w1 d1.1 hz,k α1 ρ S1 σ H1 _ w1 (sl.ext x1) ((q1.shift x1).bind λvs rs S2 α2 H2 e2 x2 w2 d2 q2=>hF p rs u vs α2 S2 H1 H2 Q α1 w2 x2 (d1.1.ext x2) d2 q2)⟩
 .exact q1.elim
def ZI{T:String}{name:Str}{id:String}{r:V->List V->Hp->VK->Prop}{F:Er->List Er->Sto->R Er}{ty:Er->Sto->Bool}{apos:Pos}(pa:PlainAttrs T)(slot:Slot T name id)(hty:typeOf (.builtin id)=pure (.type "method_descriptor"))(hm:Fc X id r)(hF:QQ X W r F)(hT:TyM X T ty)
  (ho:yP X W a f) (hbase:attributeBase a name X.env (eval a X.env)=eval a X.env:=by rfl) (hline:(apos.endLine==pos.line)=true:=by rfl):
  yP X W (.Call (.Attribute a name apos) [] [] pos) (λρ S=>(f ρ S).bind λp S1=>if ty p S1=true then F p [] S1 else .no):=by
 obtain⟨to,ho,fo⟩:=ho;refine⟨_,Md pa slot hty hm ho hbase hline,λα ρ S σ H Q wd sl q=>fo α ρ S σ H _ wd sl (q.bind λu p S1 α1 H1 e1 x1 w1 d1 q1=>?_)⟩;split at q1
 .rename_i hz;exact⟨hT p u α1 S1 H1 w1 d1.1 hz,hF p [] u [] α1 S1 H1 H1 Q α1 w1 (Ext.refl _ _) d1.1 .nil (q1.shift x1)⟩
 .exact q1.elim
def jT:Jt X W none (λ_ S=>.ok none S):=⟨_,Ey,λα ρ S σ H Q wd sl q=>q.here wd rfl⟩
def MN:Er->Sto->R (Option Int)
 |.val (.int i),S=>.ok (some i) S
 |_,_=>.no
def jU(ha:yP X W a f):Jt X W (some a) (λρ S=>(f ρ S).bind MN):=by
 obtain⟨ta,ha,fa⟩:=ha;refine⟨_,Ez ha,λα ρ S σ H Q wd sl q=>fa α ρ S σ H _ wd sl (q.bind λu p S1 α1 H1 e1 x1 w1 d1 q1=>?_)⟩;unfold MN at q1;split at q1
 .exact⟨_,xU d1.1,(q1.shift x1).here w1 rfl⟩
 .exact q1.elim
def Sl3(X:Cx)(W:XW)(r:V->Option Int->Option Int->Hp->VK->Prop)(F:Er->Option Int->Option Int->Sto->R Er):Prop:= ∀p lo hi x α S H Q,Wd X.g α S H->DenX X.K α H p x->Post X.g W α H (F p lo hi S) Q->r x lo hi H Q
def ZJ{lo hi:Option Expr}{r:V->Option Int->Option Int->Hp->VK->Prop}{F:Er->Option Int->Option Int->Sto->R Er}{lf hf:Rho->Sto->R (Option Int)}{p2:Pos}(hr:SlR X r)(hF:Sl3 X W r F)(ha:yP X W a f)(hl:Jt X W lo lf)(hh:Jt X W hi hf):
  yP X W (.Subscript a (.Slice lo hi none p2) pos) (λρ S=>(f ρ S).bind λp S1=>(lf ρ S1).bind λl S2=>(hf ρ S2).bind λu S3=>F p l u S3):=by
 obtain⟨ta,ha,fa⟩:=ha;obtain⟨tl,hl,fl⟩:=hl;obtain⟨th,hh,fh⟩:=hh
 refine⟨_,YN hr ha hl hh,λα ρ S σ H Q wd sl q=>fa α ρ S σ H _ wd sl (q.bind λu p S1 α1 H1 e1 x1 w1 d1 q1=>fl α1 ρ S1 σ H1 _ w1 (sl.ext x1) ((q1.shift x1).bind λu2 l S2 α2 H2 e2 x2 w2 d2 q2=>
  fh α2 ρ S2 σ H2 _ w2 ((sl.ext x1).ext x2) ((q2.shift x2).bind λu3 m S3 α3 H3 e3 x3 w3 d3 q3=>?_)))⟩
 cases d2;cases d3;exact hF p u2 u3 u α3 S3 H3 Q w3 ((d1.1.ext x2).ext x3) (q3.shift x3)
end
inductive Fl where
 |next (ρ:Rho)|ret (r:Er)|brk (ρ:Rho)|cont (ρ:Rho)
abbrev AX:=Rho->Sto->R Er
abbrev AY:=Rho->Sto->R Fl
abbrev AZ:=Rho->Sto->R Bool
def PostS(g:Gm)(W:XW)(α:Vb)(H:Hp)(D:Ends):R Fl->Prop
 |.ok (.next ρ) S=> ∀σ α' H',Ext α H α' H'->Wd g α' S H'->Slots g.K α' H' ρ σ->D.nx σ H'
 |.ok (.ret r) S=> ∀v α' H',Ext α H α' H'->Wd g α' S H'->DenE g.K H α' H' r v->D.rt v H'
 |.ok (.brk ρ) S=> ∀σ α' H',Ext α H α' H'->Wd g α' S H'->Slots g.K α' H' ρ σ->D.bk σ H'
 |.ok (.cont ρ) S=> ∀σ α' H',Ext α H α' H'->Wd g α' S H'->Slots g.K α' H' ρ σ->D.ct σ H'
 |.exc c fs S=> ∀α' H',Ext α H α' H'->Wd g α' S H'->W c fs S α' H'
 |.no=>False
section
variable{g:Gm}{W:XW}{α α':Vb}{H H':Hp}{D D':Ends}
def PostS.shift(x:Ext α H α' H'): ∀{m:R Fl},PostS g W α H D m->PostS g W α' H' D m
 |.ok (.next ρ) S,q=>λσ α2 H2 x2 w2 s2=>q σ α2 H2 (x.trans x2) w2 s2
 |.ok (.ret r) S,q=>λv α2 H2 x2 w2 d2=>q v α2 H2 (x.trans x2) w2 (d2.back λb h=>x.free h)
 |.ok (.brk ρ) S,q=>λσ α2 H2 x2 w2 s2=>q σ α2 H2 (x.trans x2) w2 s2
 |.ok (.cont ρ) S,q=>λσ α2 H2 x2 w2 s2=>q σ α2 H2 (x.trans x2) w2 s2
 |.exc c fs S,q=>λα2 H2 x2 w2=>q α2 H2 (x.trans x2) w2
 |.no,q=>q
def PostS.expr{β τ:Type}[Dn β τ]{m:R β}{k:β->Sto->R Fl}{Q':τ->Hp->Prop}(q:PostS g W α H D (m.bind k))
  (f: ∀u b S1 α1 H1,m=.ok b S1->Ext α H α1 H1->Wd g α1 S1 H1->Dn.d g H α1 S1 H1 b u->PostS g W α H D (k b S1)->Q' u H1):Post g W α H m Q':=by
 cases m with
 |ok b S=>exact λu α1 H1 x w d=>f u b S α1 H1 rfl x w d q
 |exc c fs S=>exact q
 |no=>exact q
def PostS.stmt{m:R Fl}{k:Fl->Sto->R Fl}(q:PostS g W α H D (m.bind k))
  (hn: ∀ρ S σ α1 H1,m=.ok (.next ρ) S->Ext α H α1 H1->Wd g α1 S H1->Slots g.K α1 H1 ρ σ->PostS g W α H D (k (.next ρ) S)->D'.nx σ H1)
  (hr: ∀r S v α1 H1,m=.ok (.ret r) S->Ext α H α1 H1->Wd g α1 S H1->DenE g.K H α1 H1 r v->PostS g W α H D (k (.ret r) S)->D'.rt v H1)
  (hb: ∀ρ S σ α1 H1,m=.ok (.brk ρ) S->Ext α H α1 H1->Wd g α1 S H1->Slots g.K α1 H1 ρ σ->PostS g W α H D (k (.brk ρ) S)->D'.bk σ H1)
  (hc: ∀ρ S σ α1 H1,m=.ok (.cont ρ) S->Ext α H α1 H1->Wd g α1 S H1->Slots g.K α1 H1 ρ σ->PostS g W α H D (k (.cont ρ) S)->D'.ct σ H1):PostS g W α H D' m:=by
 cases m with
 |ok fl S=>
  cases fl with
  |next ρ=>exact λσ α1 H1 x w s=>hn ρ S σ α1 H1 rfl x w s q
  |ret r=>exact λv α1 H1 x w d=>hr r S v α1 H1 rfl x w d q
  |brk ρ=>exact λσ α1 H1 x w s=>hb ρ S σ α1 H1 rfl x w s q
  |cont ρ=>exact λσ α1 H1 x w s=>hc ρ S σ α1 H1 rfl x w s q
 |exc c fs S=>exact q
 |no=>exact q
end
def ZK(X:Cx)(W:XW)(st:Stmt)(F:AY):Prop:=
 ∃t,PS X st t/\ ∀α ρ S σ H D,Wd X.g α S H->Slots X.K α H ρ σ->PostS X.g W α H D (F ρ S)->t D σ H
def JT(X:Cx)(W:XW)(st:List Stmt)(F:AY):Prop:=
 ∃t,PSs X st t/\ ∀α ρ S σ H D,Wd X.g α S H->Slots X.K α H ρ σ->PostS X.g W α H D (F ρ S)->t D σ H
def zL(F G:AY):AY:=λρ S=>(F ρ S).bind λfl S1=>match fl with
 |.next ρ'=>G ρ' S1
 |.ret r=>.ok (.ret r) S1
 |.brk ρ'=>.ok (.brk ρ') S1
 |.cont ρ'=>.ok (.cont ρ') S1
section
variable{X:Cx}{W:XW}{st:Stmt}{sts as bs:List Stmt}{F G:AY}{f g:AX}{tf:AZ}{e c:Expr}{pos:Pos}
def xC:JT X W [] (λρ S=>.ok (.next ρ) S):=⟨_,Ee,λα ρ S σ H D wd sl q=>q σ α H (Ext.refl α H) wd sl⟩
def zH(h:ZK X W st F):JT X W [st] F:=let ⟨t,h,k⟩:=h;⟨t,Ef h,k⟩
def zE(h1:ZK X W st F)(h2:JT X W sts G):JT X W (st::sts) (zL F G):=by
 obtain⟨t,h1,k1⟩:=h1;obtain⟨u,h2,k2⟩:=h2;refine⟨_,XZ h1 h2,λα ρ S σ H D wd sl q=>k1 α ρ S σ H _ wd sl (q.stmt ?_ ?_ ?_ ?_)⟩
 .intro ρ1 S1 σ1 α1 H1 e x1 w1 s1 q1;exact k2 α1 ρ1 S1 σ1 H1 D w1 s1 (PostS.shift x1 q1)
 .intro r S1 v α1 H1 e x1 w1 d1 q1;exact q1 v α1 H1 x1 w1 d1
 .intro ρ1 S1 σ1 α1 H1 e x1 w1 s1 q1;exact q1 σ1 α1 H1 x1 w1 s1
 .intro ρ1 S1 σ1 α1 H1 e x1 w1 s1 q1;exact q1 σ1 α1 H1 x1 w1 s1
def zY(he:yP X W e f):ZK X W (.Return (some e) pos) (λρ S=>(f ρ S).bind λr S1=>.ok (.ret r) S1):=by obtain⟨t,he,k⟩:=he;exact⟨_,Le he,λα ρ S σ H D wd sl q=>k α ρ S σ H _ wd sl (q.expr λu r S1 α1 H1 e x1 w1 d1 q1=>q1 u α1 H1 x1 w1 d1)⟩
def jA(he:yP X W e f)(hs:swapsWith e none pos.line X.env=pure false:=by rfl):ZK X W (.Expr e pos) (λρ S=>(f ρ S).bind λ_ S1=>.ok (.next ρ) S1):=by obtain⟨t,he,k⟩:=he;exact⟨_,Eg he hs,λα ρ S σ H D wd sl q=>k α ρ S σ H _ wd sl (q.expr λu r S1 α1 H1 e x1 w1 d1 q1=>q1 σ α1 H1 x1 w1 (sl.ext x1))⟩
def wG(hc:DY X W c tf)(ha:JT X W as F)(hb:JT X W bs G):ZK X W (.If c as bs pos) (λρ S=>(tf ρ S).bind λk S1=>if k=true then F ρ S1 else G ρ S1):=by
 obtain⟨tc,hc,kc⟩:=hc;obtain⟨ta,ha,ka⟩:=ha;obtain⟨tb,hb,kb⟩:=hb;refine⟨_,Qj hc ha hb,λα ρ S σ H D wd sl q=>kc α ρ S σ H _ wd sl (q.expr λu p S1 α1 H1 e x1 w1 d1 q1=>?_)⟩;cases d1
 cases u with
 |true=>rw[iP rfl]at q1 ⊢; exact ka α1 ρ S1 σ H1 D w1 (sl.ext x1) (PostS.shift x1 q1)
 |false=>rw[iN xF0]at q1 ⊢; exact kb α1 ρ S1 σ H1 D w1 (sl.ext x1) (PostS.shift x1 q1)
instance:Dn Rho St:=⟨λg _ α' _ H' ρ σ=>Slots g.K α' H' ρ σ,λ_ q=>q⟩
def Ju(X:Cx)(W:XW)(tg:Expr)(gf:MV->Rho->Sto->R Rho):Prop:=
 ∃t,PG X tg t/\ ∀α ρ S σ H d v Q,Wd X.g α S H->Slots X.K α H ρ σ->Den X.K α H d v->Post X.g W α H (gf d ρ S) Q->t v σ H Q
def Fz(X:Cx)(W:XW)(tgs:Vj)(gf:List MV->Rho->Sto->R Rho):Prop:=
 ∃t,Qk X tgs t/\ ∀α ρ S σ H ds vs Q,Wd X.g α S H->Slots X.K α H ρ σ->DenL X.K α H ds vs->Post X.g W α H (gf ds ρ S) Q->t vs σ H Q
def xD(i:Nat):MV->Rho->Sto->R Rho:=λd ρ S=>.ok (ρ.set i (some d)) S
def yE(i:Nat){x:Str}(hN:X.N.Nodup)(hi:X.N[i]? =some x:=by rfl)(hx:Loc X.env.scope x:=by first |exact Or.inl rfl|exact Or.inr rfl)(hf:X.fn x=true\/X.env.scope.names.lookup x=some .local:=by first |exact .inl rfl|exact .inr rfl|assumption):
  Ju X W (.Name x pos) (xD i):=⟨_,SM hN hi hx hf,λα ρ S σ H d v Q wd sl de q=>Post.here (b:=ρ.set i (some d)) q wd (sl.set de)⟩
def gG:List MV->Rho->Sto->R Rho
 |[],ρ,S=>.ok ρ S
 |_,_,_=>.no
def zS(g1:MV->Rho->Sto->R Rho)(g2:List MV->Rho->Sto->R Rho):List MV->Rho->Sto->R Rho
 |d::ds,ρ,S=>(g1 d ρ S).bind λρ1 S1=>g2 ds ρ1 S1
 |_,_,_=>.no
def AO:Fz X W [] gG:=⟨_,Ei,λα ρ S σ H ds vs Q wd sl de q=>by
 cases ds with
 |nil=>exact⟨de.isnil,Post.here (b:=ρ) q wd sl⟩
 |cons d ds=>exact q.elim⟩
def bX{es:Vj}{g1:MV->Rho->Sto->R Rho}{g2:List MV->Rho->Sto->R Rho}(h1:Ju X W e g1)(h2:Fz X W es g2)(hs:(assignEach (e::es) X.env).map (·.2)=assign e X.env::(assignEach es X.env).map (·.2):=by rfl):Fz X W (e::es) (zS g1 g2):=by
 obtain⟨t1,h1,k1⟩:=h1;obtain⟨t2,h2,k2⟩:=h2;refine⟨_,YB h1 h2 hs,λα ρ S σ H ds vs Q wd sl de q=>?_⟩
 cases ds with
 |nil=>exact q.elim
 |cons d ds=>
  obtain⟨v,r,rfl,a,l⟩:=de.uncons;refine⟨v,r,rfl,k1 α ρ S σ H d v _ wd sl a (Post.bind q λu p S1 α1 H1 e x1 w1 d1 q1=>k2 α1 p S1 u H1 ds r Q w1 d1 (l.ext x1) (q1.shift x1))⟩
def CQ(n:Nat)(g2:List MV->Rho->Sto->R Rho):MV->Rho->Sto->R Rho
 |.tup ds,ρ,S=>if ds.length=n then g2 ds ρ S else .no
 |_,_,_=>.no
def AQ{es:Vj}{k n:Nat}{g2:List MV->Rho->Sto->R Rho}(hc:X.calm=true)(h:Fz X W es g2)
  (hn:(assignEach es X.env).length=n:=by rfl) (hst:(assignEach es X.env).findIdx? (·.1)=none:=by rfl):Ju X W (.Tuple es k pos) (CQ n g2):=by
 obtain⟨t,h,k⟩:=h;refine⟨_,Lg hc h hn hst,λα ρ S σ H d v Q wd sl de q=>?_⟩;unfold CQ at q;split at q
 .split at q
  .rename_i hl;obtain⟨a,vs,rfl,s,l⟩:=jR de;exact⟨a,vs,rfl,s,by rw[l.length];exact hl,k α ρ S σ H _ vs Q wd sl l q⟩
  .exact q.elim
 .exact q.elim
def jS(r:Er)(S:Sto):R MV:=match r with
 |.val d=>.ok d S
 |.new ds=>.ok (.loc S.length) (S++[.lst ds])
def nB{g:Gm}{H0:Hp}{α0 α:Vb}{H:Hp}{S:Sto}{r:Er}{v:V}(w:Wd g α S H)(x:Ext α0 H0 α H)(d:DenE g.K H0 α H r v):
  ∃d' S' α',jS r S=.ok d' S'/\Ext α0 H0 α' H/\Ex0 α H α' H/\Wd g α' S' H/\Den g.K α' H d' v:=by
 cases r with
 |val d'=>exact⟨d',S,α,rfl,x,⟨⟨[],by simp⟩,λ_ _ h=>h,λ_ _ _ h=>h⟩,w,d.1⟩
 |new ds=>
  obtain⟨⟨c,us,rfl,h1,h2,h3⟩,h4⟩:=d;exact⟨.loc S.length,S++[.lst ds],α++[c],rfl,w.enterx x (h4 c rfl) h2,Ex0.grow α [c] H,w.enter h1 h2 h3,pX (by rw[<-w.len,getElem?_append_right (Nat.le_refl _),sub_self];rfl)⟩
def JU(ρ:Rho)(i:Nat)(r:Er)(S:Sto):R Fl:=(jS r S).bind λd S1=>.ok (.next (ρ.set i (some d))) S1
def zG(i:Nat){x:Str}{pos':Pos}(hN:X.N.Nodup)(he:yP X W e f)(hi:X.N[i]? =some x:=by rfl)(hx:Loc X.env.scope x:=by first |exact Or.inl rfl|exact Or.inr rfl)
  (hs:swapsWith e (some (.Name x pos')) pos.line X.env=pure false:=by rfl) (hf:X.fn x=true\/X.env.scope.names.lookup x=some .local:=by first |exact .inl rfl|exact .inr rfl|assumption):
  ZK X W (.Assign [.Name x pos'] e pos) (λρ S=>(f ρ S).bind (JU ρ i)):=by
 obtain⟨t,he,k⟩:=he;refine⟨_,Lj hN hi hx he hs hf,λα ρ S σ H D wd sl q=>k α ρ S σ H _ wd sl (q.expr λu r S1 α1 H1 e x1 w1 d1 q1=>?_)⟩;obtain⟨d',S',α',e1,x',y',w',de⟩:=nB w1 x1 d1;unfold JU at q1;rw[e1]at q1;exact q1 _ α' H1 x' w' (((sl.ext x1).ex0 y').set de)
def Ga(gf:MV->Rho->Sto->R Rho)(ρ:Rho)(r:Er)(S:Sto):R Fl:=(jS r S).bind λd S1=>(gf d ρ S1).bind λρ' S2=>.ok (.next ρ') S2
def uD{tg:Expr}{gf:MV->Rho->Sto->R Rho}(he:yP X W e f)(hg:Ju X W tg gf)(hs:swapsWithSole [tg] e pos.line X.env=pure false:=by rfl)(hw:swappedStores [tg] e X.env=pure none:=by rfl)
  (h1:(assignEach [tg] X.env).map (·.2)=[assign tg X.env]:=by rfl):ZK X W (.Assign [tg] e pos) (λρ S=>(f ρ S).bind (Ga gf ρ)):=by
 obtain⟨t,he,k⟩:=he;obtain⟨tg',hg,kg⟩:=hg;refine⟨_,Li he hg hs hw h1,λα ρ S σ H D wd sl q=>k α ρ S σ H _ wd sl (q.expr λu r S1 α1 H1 e x1 w1 d1 q1=>?_)⟩;obtain⟨d',S',α',e1,x',y',w',de⟩:=nB w1 x1 d1;unfold Ga at q1;rw[e1]at q1;have q1:PostS X.g W α H D ((gf d' ρ S').bind λρ' S2=>.ok (.next ρ') S2):=q1;exact kg α' ρ S' σ H1 d' u _ w' ((sl.ext x1).ex0 y') de ((PostS.shift x' q1).expr λσ2 ρ2 S2 α2 H2 e2 x2 w2 s2 q2=>q2 σ2 α2 H2 x2 w2 s2)
structure Wk where
 ds:List MV
 gs:List (Nat×List MV)
def stay(gs:Xe)(S:Sto):Prop:= ∀p∈gs,S[p.1]? =some (.lst p.2)
def Ry(g:Gm)(J:It)(P:List Addr->Sto->Hp->Prop)(ds:Xb):Prop:= ∀i α S H,P α S H->Wd g α S H->(i<ds.length->J.go i H/\ ∀x H',J.yld i H x H'->Ext α H α H'/\Wd g α S H'/\P α S H'/\ ∃d,ds[i]? =some d/\Den g.K α H' d x)/\(ds.length<=i->J.stop i H)
structure WkD(g:Gm)(α:Vb)(S:Sto)(H:Hp)(k:Wk)(J:It)(P:List Addr->Sto->Hp->Prop):Prop where
 it:Ry g J P k.ds
 here:P α S H
 stays: ∀α1 S1 H1 α2 S2 H2,P α1 S1 H1->Ext α1 H1 α2 H2->Wd g α2 S2 H2->stay k.gs S2->P α2 S2 H2
 st:stay k.gs S
instance:Dn Wk It:=⟨λg _ α S H k J=> ∃P,WkD g α S H k J P,λ_ q=>q⟩
abbrev Gb(X:Cx)(W:XW)(tg iter:Expr)(f:Rho->Sto->R Wk):Prop:=Jd X W (PI X tg iter) f
variable{tg iter:Expr}
def EA{a:Addr}{ds:Xb}:Ry X.g (Pv X.K a) (λα S H=> ∃vs,SqL X.K H a vs/\DenL X.K α H ds vs) ds:=by
 intro i α S H ⟨vs,s,l⟩ w;have hl:=l.length;refine⟨λhi=>?_,λhi=>⟨vs,s,by omega⟩⟩;have hv:i<vs.length:=by omega
 refine⟨⟨vs,vs[i],s,gE hv⟩,λx H' y=>?_⟩;obtain⟨rfl,y⟩:=y;obtain⟨d,h1,h2⟩:=l.get (y vs s);exact⟨Ext.refl _ _,w,⟨vs,s,l⟩,d,h1,h2⟩
def Gc{a:Addr}{ds:Xb}:Ry X.g (Tx X.K a) (λα S H=> ∃vs,SqT X.K H a vs/\DenL X.K α H ds vs) ds:=by
 intro i α S H ⟨vs,s,l⟩ w;have hl:=l.length;refine⟨λhi=>?_,λhi=>⟨vs,s,by omega⟩⟩;have hv:i<vs.length:=by omega
 refine⟨⟨vs,vs[i],s,gE hv⟩,λx H' y=>?_⟩;obtain⟨rfl,y⟩:=y;obtain⟨d,h1,h2⟩:=l.get (y vs s);exact⟨Ext.refl _ _,w,⟨vs,s,l⟩,d,h1,h2⟩
def Gd{x:Db}:Ry X.g (Rk x) (λ_ _ _=>True) (x.map λc=>.str [c]):=by intro i α S H _ w;refine⟨λhi=>⟨show i<x.length by simpa using hi,λv H' y=>?_⟩,λhi=>by show x.length<=i;simpa using hi⟩;obtain⟨rfl,c,h1,h2⟩:=y;refine⟨Ext.refl _ _,w,trivial,.str [c],by rw[getElem?_map,h1];rfl,?_⟩;rw[h2];exact mP [c]
def WG{lo:Int}{n:Nat}:Ry X.g (Qo lo n) (λ_ _ _=>True) ((List.range n).map λk=>.int (lo+(k:Nat))):=by
 intro i α S H _ w;refine⟨λhi=>⟨show i<n by simpa using hi,λv H' y=>?_⟩,λhi=>by show n<=i;simpa using hi⟩;obtain⟨rfl,y⟩:=y;have hi':i<n:=by simpa using hi
 refine⟨Ext.refl _ _,w,trivial,.int (lo+i),by rw[getElem?_map,List.getElem?_range hi'];rfl,?_⟩;rw[y];exact kQ _
def GR:Er->Sto->R Wk
 |.new ds,S=>.ok ⟨ds,[]⟩ S
 |.val (.scr ds),S=>.ok ⟨ds,[]⟩ S
 |.val (.loc l),S=>match S[l]? with
  |some (.lst ds)=>.ok ⟨ds,[(l,ds)]⟩ S
  |_=>.no
 |_,_=>.no
def cQ{S:Sto}:stay [] S:=λp h=>by simp at h
def jV(he:yP X W iter f):Gb X W tg iter (λρ S=>(f ρ S).bind GR):=by
 obtain⟨t,he,k⟩:=he;refine⟨_,Ej he,λα ρ S σ H Rc wd sl q=>k α ρ S σ H _ wd sl (q.bind λu p S1 α1 H1 e x1 w1 d1 q1=>?_)⟩
 replace q1:=q1.shift x1
 unfold GR at q1;split at q1
 .rename_i S0 ds;obtain⟨⟨b,vs,rfl,h1,h2,h3⟩,h4⟩:=d1;refine⟨b,rfl,⟨vs,.of h1⟩,q1.here (u:=Pv X.K b) w1 ⟨λα2 S2 H2=> ∃vs,SqL X.K H2 b vs/\DenL X.K α2 H2 ds vs/\H2 b=some (.lst vs)/\b∉α2,?_,⟨vs,.of h1,h3,h1,h2⟩,?_,cQ⟩⟩
  .intro i α2 S2 H2 ⟨vs2,a1,a2,a3,a4⟩ w2;obtain⟨i1,i2⟩:=EA (X:=X) (a:=b) (ds:=ds) i α2 S2 H2 ⟨vs2,a1,a2⟩ w2;refine⟨λhi=>⟨(i1 hi).1,λx H' y=>?_⟩,i2⟩;obtain⟨j1,j2,j3,j4⟩:=(i1 hi).2 x H' y;obtain⟨rfl,_⟩:=y;exact⟨j1,j2,⟨vs2,a1,a2,a3,a4⟩,j4⟩
  .intro α2 S2 H2 α3 S3 H3 ⟨vs2,a1,a2,a3,a4⟩ x w3 _;exact⟨vs2,.of (x.keep b _ a3 a4),a2.ext x,x.keep b _ a3 a4,x.out a3 a4⟩
 .rename_i S0 ds;obtain⟨a,vs,rfl,s,l⟩:=DX d1.1;refine⟨a,rfl,⟨vs,s.l⟩,q1.here (u:=Pv X.K a) w1 ⟨λα2 S2 H2=> ∃vs,SqL X.K H2 a vs/\DenL X.K α2 H2 ds vs/\SqF X.K H2 a vs,?_,⟨vs,s.l,l,s⟩,?_,cQ⟩⟩
  .intro i α2 S2 H2 ⟨vs2,a1,a2,a3⟩ w2;obtain⟨i1,i2⟩:=EA (X:=X) (a:=a) (ds:=ds) i α2 S2 H2 ⟨vs2,a1,a2⟩ w2;refine⟨λhi=>⟨(i1 hi).1,λx H' y=>?_⟩,i2⟩;obtain⟨j1,j2,j3,j4⟩:=(i1 hi).2 x H' y;obtain⟨rfl,_⟩:=y;exact⟨j1,j2,⟨vs2,a1,a2,a3⟩,j4⟩
  .intro α2 S2 H2 α3 S3 H3 ⟨vs2,a1,a2,a3⟩ x w3 _;exact⟨vs2,(x.sqF a3).l,a2.ext x,x.sqF a3⟩
 .rename_i S0 n;obtain⟨a,rfl,h⟩:=eX d1.1;obtain⟨o,h1,h2⟩:=w1.of h;rw[h1]at q1
  cases o with
  |lst ds=>
   obtain⟨vs,h3,l⟩:=h2;refine⟨a,rfl,⟨vs,.of h3⟩,Post.here (b:=(⟨ds,[(n,ds)]⟩:Wk)) q1 (u:=Pv X.K a) w1 ⟨λα2 S2 H2=> ∃vs,SqL X.K H2 a vs/\DenL X.K α2 H2 ds vs/\α2[n]? =some a,?_,⟨vs,.of h3,l,h⟩,?_,?_⟩⟩
   .intro i α2 S2 H2 ⟨vs2,a1,a2,a3⟩ w2;obtain⟨i1,i2⟩:=EA (X:=X) (a:=a) (ds:=ds) i α2 S2 H2 ⟨vs2,a1,a2⟩ w2;refine⟨λhi=>⟨(i1 hi).1,λx H' y=>?_⟩,i2⟩;obtain⟨j1,j2,j3,j4⟩:=(i1 hi).2 x H' y;obtain⟨rfl,_⟩:=y;exact⟨j1,j2,⟨vs2,a1,a2,a3⟩,j4⟩
   .intro α2 S2 H2 α3 S3 H3 ⟨vs2,a1,a2,a3⟩ x w3 hs;have a3':=x.at a3;have:=w3.obj n a _ a3' (hs (n,ds) (by simp));obtain⟨vs3,b1,b2⟩:=this;exact⟨vs3,.of b1,b2,a3'⟩
   .intro p hp;have:p=(n,ds):=by simpa using hp
    subst this;exact h1
  |dic ds=>exact q1.elim
  |ins c fs=>exact q1.elim
  |rcd c fs=>exact q1.elim
 .exact q1.elim
def Pw:Er->Sto->R Wk
 |.val (.tup ds),S=>.ok ⟨ds,[]⟩ S
 |_,_=>.no
def QR(he:yP X W iter f):Gb X W tg iter (λρ S=>(f ρ S).bind Pw):=by
 obtain⟨t,he,k⟩:=he;refine⟨_,Lm he,λα ρ S σ H Rc wd sl q=>k α ρ S σ H _ wd sl (q.bind λu p S1 α1 H1 e x1 w1 d1 q1=>?_)⟩
 replace q1:=q1.shift x1
 unfold Pw at q1;split at q1
 .rename_i S0 ds;obtain⟨a,vs,rfl,s,l⟩:=eW d1.1;exact⟨a,rfl,⟨vs,s⟩,q1.here (u:=Tx X.K a) w1 ⟨_,Gc,⟨vs,s,l⟩,λα2 S2 H2 α3 S3 H3 ⟨vs2,a1,a2⟩ x w3 _=>⟨vs2,x.sqT a1,a2.ext x⟩,cQ⟩⟩
 .exact q1.elim
def itS:Er->Sto->R Wk
 |.val (.str x),S=>.ok ⟨x.map λc=>.str [c],[]⟩ S
 |_,_=>.no
def Mw(he:yP X W iter f):Gb X W tg iter (λρ S=>(f ρ S).bind itS):=by
 obtain⟨t,he,k⟩:=he;refine⟨_,Mi he,λα ρ S σ H Rc wd sl q=>k α ρ S σ H _ wd sl (q.bind λu p S1 α1 H1 e x1 w1 d1 q1=>?_)⟩
 replace q1:=q1.shift x1
 unfold itS at q1;split at q1
 .rename_i S0 x;exact⟨x,cP d1.1,q1.here (u:=Rk x) w1 ⟨_,Gd,trivial,λ_ _ _ _ _ _ _ _ _ _=>trivial,cQ⟩⟩
 .exact q1.elim
def dW:List Er->Sto->R Wk
 |[.val (.int j)],S=>if -(2 ^ 62)<=j/\j<2 ^ 62 then .ok ⟨(List.range j.toNat).map λk=>.int (k:Nat),[]⟩ S else .no
 |_,_=>.no
variable{af:Rho->Sto->R (List Er)}{p:Pos}{a b:Expr}
def ZL{K:Vk}{H0:Hp}{α:Vb}{H:Hp}{r:Er}{vs:List V}(d:ArgsE K H0 α H [r] vs): ∃v,vs=[v]/\DenX K α H r v:=by
 cases d with
 |cons a n l=>cases l;exact⟨_,rfl,a.1⟩
def Rz{K:Vk}{H0:Hp}{α:Vb}{H:Hp}{r r':Er}{vs:List V}(d:ArgsE K H0 α H [r,r'] vs): ∃v u,vs=[v,u]/\DenX K α H r v/\DenX K α H r' u:=by
 cases d with
 |cons a n l=>obtain⟨u,rfl,l'⟩:=ZL l;exact⟨_,u,rfl,a.1,l'⟩
def kW(hg:Gl X "range")(hm:X.mg "range"=none)(ha:JS X W [a] af)(hs:starEach [a] X.env=[(false,eval a X.env)]:=by rfl):Gb X W tg (.Call (.Name "range" p) [a] [] pos) (λρ S=>(af ρ S).bind dW):=by
 obtain⟨t,ha,k⟩:=ha;refine⟨_,VG hg hm ha hs,λα ρ S σ H Rc wd sl q=>k α ρ S σ H _ wd sl (q.bind λvs rs S1 α1 H1 e x1 w1 d1 q1=>?_)⟩
 replace q1:=q1.shift x1
 unfold dW at q1;split at q1
 .split at q1
  .rename_i S0 j hj;obtain⟨v,rfl,dv⟩:=ZL d1;cases xU dv;have:=WG (X:=X) (lo:=0) (n:=j.toNat);simp only[Int.zero_add]at this;exact⟨j,rfl,hj.1,hj.2,q1.here (u:=Qo 0 j.toNat) w1 ⟨_,this,trivial,λ_ _ _ _ _ _ _ _ _ _=>trivial,cQ⟩⟩
  .exact q1.elim
 .exact q1.elim
open Classical in
def xY(gf:MV->Rho->Sto->R Rho)(body:AY)(gs:Xe):List MV->AY
 |[],ρ,S=>.ok (.next ρ) S
 |d::ds,ρ,S=>(gf d ρ S).bind λρ0 S0=>(body ρ0 S0).bind λfl S1=>match fl with
  |.next ρ'=>if stay gs S1 then xY gf body gs ds ρ' S1 else .no
  |.cont ρ'=>if stay gs S1 then xY gf body gs ds ρ' S1 else .no
  |.brk ρ'=>.ok (.next ρ') S1
  |.ret r=>.ok (.ret r) S1
open Classical in
def kC{itf:Rho->Sto->R Wk}{gf:MV->Rho->Sto->R Rho}(hp:PassesOwn (model X.prog X.w) X.A X.env X.xe)(hc:X.calm=true)(hi:Gb X W tg iter itf)(hg:Ju X W tg gf)(hb:JT X W as F)
  (hs: ∀y,foldedSetIterable iter X.env y=pure y:=by intro _;rfl):ZK X W (.For tg iter as [] pos) (λρ S=>(itf ρ S).bind λk S1=>xY gf F k.gs k.ds ρ S1):=by
 obtain⟨wi,hi,ki⟩:=hi;obtain⟨tg',hg,kg⟩:=hg;obtain⟨tb,hb,kb⟩:=hb;refine⟨_,Ln hp hc hi hg hb hs,λα ρ S σ H D wd sl q=>ki α ρ S σ H _ wd sl (q.expr λJ k S1 α1 H1 e x1 w1 d1 q1=>?_)⟩;obtain⟨P,hP⟩:=d1;have sl1:=sl.ext x1
 replace q1:=PostS.shift x1 q1
 refine⟨λn m σ2 H2=>m=k.ds.length - n/\n<=k.ds.length/\ ∃α2 ρ2 S2,Wd X.g α2 S2 H2/\Slots X.K α2 H2 ρ2 σ2/\P α2 S2 H2/\PostS X.g W α2 H2 D (xY gf F k.gs (k.ds.drop n) ρ2 S2),⟨_,rfl,zero_le _,α1,ρ,S1,w1,sl1,hP.here,by simpa using q1⟩,?_⟩;rintro n m σ2 H2 ⟨rfl,hn,α2,ρ2,S2,w2,sl2,p2,q2⟩;obtain⟨i1,i2⟩:=hP.it n α2 S2 H2 p2 w2;by_cases hlt:n<k.ds.length
 .obtain⟨go,yl⟩:=i1 hlt;refine .inr ⟨go,λσ3 H3=> ∃α3 ρ3 S3,Wd X.g α3 S3 H3/\Slots X.K α3 H3 ρ3 σ3/\P α3 S3 H3/\PostS X.g W α3 H3 D (xY gf F k.gs (k.ds.drop (n+1)) ρ3 S3),λσ3 H3 ⟨α3,ρ3,S3,h3⟩=>⟨k.ds.length - (n+1),by omega,rfl,hlt,α3,ρ3,S3,h3⟩,λv H3 y=>?_⟩;obtain⟨x3,w3,p3,d,hd,dv⟩:=yl v H3 y;have hdrop:k.ds.drop n=d::k.ds.drop (n+1):=by rw[List.drop_eq_getElem_cons hlt];have:=gE hlt;rw[hd]at this;rw[<-Option.some.inj this]
  rw[hdrop]at q2;unfold xY at q2
  replace q2:=PostS.shift x3 q2
  refine kg α2 ρ2 S2 σ2 H3 d v _ w3 (sl2.ext x3) dv (q2.expr λσ4 ρ4 S4 α4 H4 e4 x4 w4 s4 q4=>?_);have p4: ∀α5 S5 H5,Ext α4 H4 α5 H5->Wd X.g α5 S5 H5->stay k.gs S5->P α5 S5 H5:=λα5 S5 H5 x5 w5 s5=>hP.stays α2 S2 H3 α5 S5 H5 p3 (x4.trans x5) w5 s5;refine kb α4 ρ4 S4 σ4 H4 _ w4 s4 ((PostS.shift x4 q4).stmt ?_ ?_ ?_ ?_)
  .intro ρ5 S5 σ5 α5 H5 e5 x5 w5 s5 q5;have q5':PostS X.g W α4 H4 D (if stay k.gs S5 then xY gf F k.gs (k.ds.drop (n+1)) ρ5 S5 else .no):=q5;split at q5'
   .rename_i hst;exact⟨α5,ρ5,S5,w5,s5,p4 α5 S5 H5 x5 w5 hst,PostS.shift x5 q5'⟩
   .exact q5'.elim
  .intro r S5 v5 α5 H5 e5 x5 w5 d5 q5;exact q5 v5 α5 H5 x5 w5 d5
  .intro ρ5 S5 σ5 α5 H5 e5 x5 w5 s5 q5;exact q5 σ5 α5 H5 x5 w5 s5
  .intro ρ5 S5 σ5 α5 H5 e5 x5 w5 s5 q5;have q5':PostS X.g W α4 H4 D (if stay k.gs S5 then xY gf F k.gs (k.ds.drop (n+1)) ρ5 S5 else .no):=q5;split at q5'
   .rename_i hst;exact⟨α5,ρ5,S5,w5,s5,p4 α5 S5 H5 x5 w5 hst,PostS.shift x5 q5'⟩
   .exact q5'.elim
 .have e:n=k.ds.length:=by omega
  subst e;refine .inl ⟨i2 (Nat.le_refl _),?_⟩;rw[drop_length]at q2;exact q2 σ2 α2 H2 (Ext.refl _ _) w2 sl2
def gH(t:AZ)(b:AY):Nat->AY
 |0,_,_=>.no
 |n+1,ρ,S=>(t ρ S).bind λk S1=>if k=true then(b ρ S1).bind λfl S2=>match fl with
   |.next ρ'=>gH t b n ρ' S2
   |.cont ρ'=>gH t b n ρ' S2
   |.brk ρ'=>.ok (.next ρ') S2
   |.ret r=>.ok (.ret r) S2
  else .ok (.next ρ) S1
def NN(N:Nat)(hp:PassesOwn (model X.prog X.w) X.A X.env X.xe)(hc:DY X W c tf)(hb:JT X W as F):ZK X W (.While c as [] pos) (λρ S=>gH tf F N ρ S):=by
 obtain⟨tc,hc,kc⟩:=hc;obtain⟨tb,hb,kb⟩:=hb;refine⟨_,YC hp hc hb,λα ρ S σ H D wd sl q=>⟨λm σ1 H1=> ∃α1 ρ1 S1,Wd X.g α1 S1 H1/\Slots X.K α1 H1 ρ1 σ1/\PostS X.g W α1 H1 D (gH tf F m ρ1 S1),⟨N,α,ρ,S,wd,sl,q⟩,?_⟩⟩;rintro m σ1 H1 ⟨α1,ρ1,S1,w1,sl1,q1⟩
 cases m with
 |zero=>exact q1.elim
 |succ n=>
  unfold gH at q1;refine kc α1 ρ1 S1 σ1 H1 _ w1 sl1 (q1.expr λu p S2 α2 H2 e2 x2 w2 d2 q2=>?_);cases d2
  replace q2:=PostS.shift x2 q2
  cases u with
  |false=>rw[iN xF0]at q2 ⊢; exact q2 σ1 α2 H2 (Ext.refl _ _) w2 (sl1.ext x2)
  |true=>
   rw[iP rfl]at q2 ⊢;refine⟨λσ3 H3=> ∃α3 ρ3 S3,Wd X.g α3 S3 H3/\Slots X.K α3 H3 ρ3 σ3/\PostS X.g W α3 H3 D (gH tf F n ρ3 S3),λσ' H' h=>⟨n,Nat.lt_succ_self n,h⟩,kb α2 ρ1 S2 σ1 H2 _ w2 (sl1.ext x2) (q2.stmt ?_ ?_ ?_ ?_)⟩
   .intro ρ5 S5 σ5 α5 H5 e5 x5 w5 s5 q5;exact⟨α5,ρ5,S5,w5,s5,PostS.shift x5 q5⟩
   .intro r S5 v5 α5 H5 e5 x5 w5 d5 q5;exact q5 v5 α5 H5 x5 w5 d5
   .intro ρ5 S5 σ5 α5 H5 e5 x5 w5 s5 q5;exact q5 σ5 α5 H5 x5 w5 s5
   .intro ρ5 S5 σ5 α5 H5 e5 x5 w5 s5 q5;exact⟨α5,ρ5,S5,w5,s5,PostS.shift x5 q5⟩
end
def noX{β:Type}:R β->R β
 |.ok b S=>.ok b S
 |_=>.no
theorem wR{β:Type}(b:β)(S:Sto):noX (R.ok b S)=.ok b S:=rfl
def Post.bindY{β τ γ υ:Type}[Dn β τ][Dn γ υ]{g:Gm}{W:XW}{α α':Vb}{H H':Hp}(x:Ext α H α' H'){m:R β}{k:β->Sto->R γ}{Q:υ->Hp->Prop}{Q':τ->Hp->Prop}(q:Post g W α H ((noX m).bind k) Q)
  (f: ∀u b S1 α1 H1,m=.ok b S1->Ext α' H' α1 H1->Wd g α1 S1 H1->Dn.d g H' α1 S1 H1 b u->Post g W α H (k b S1) Q->Q' u H1):Post g W0 α' H' m Q':=by
 cases m with
 |ok b S=>exact λu α1 H1 x w d=>f u b S α1 H1 rfl x w d q
 |exc c fs S=>exact q.elim
 |no=>exact q
theorem R.bind_assoc{β γ δ:Type}(m:R β)(k1:β->Sto->R γ)(k2:γ->Sto->R δ):(m.bind k1).bind k2=m.bind λb S=>(k1 b S).bind k2:=by cases m<;>rfl
def CS(nt:Nat)(idx:Db)(ρ:Rho):Rho:=List.replicate nt none++idx.map λi=>(ρ[i]?).join
open Classical in
def kO(gf:MV->Rho->Sto->R Rho)(cf:AZ)(ef:AX)(ρb:Rho)(gs:Xe):List MV->Sto->R (List MV)
 |[],S=>.ok [] S
 |d::ds,S=>(noX (gf d ρb S)).bind λρ1 S0=>(noX (cf ρ1 S0)).bind λk S1=>
  if k=true then(noX (ef ρ1 S1)).bind λr S2=>(jS r S2).bind λy S3=>if stay gs S3 then(kO gf cf ef ρb gs ds S3).bind λout S4=>.ok (y::out) S4 else .no
  else if stay gs S1 then kO gf cf ef ρb gs ds S1 else .no
theorem WH{K:Vk}{α:Vb}{H:Hp}{ρ:Rho}{σ:St}(q:Slots K α H ρ σ)(nt:Nat)(idx:Db)(τ:St)(hτ:τ.length=nt):Slots K α H (CS nt idx ρ) (τ++AK σ idx):=by
 refine⟨by unfold CS;rw[lA,lA,mN,lM,List.length_replicate,hτ],λi d e=>?_⟩;unfold CS at e;by_cases hi:i<nt
 .rw[getElem?_append_left (by rw[List.length_replicate];exact hi),List.getElem?_replicate]at e;split at e<;>cases e
 .rw[getElem?_append_right (by rw[List.length_replicate];omega),List.length_replicate,getElem?_map]at e
  cases z:idx[i - nt]? with
  |none=>rw[z]at e;cases e
  |some k=>
   rw[z]at e;have e2:(ρ[k]?).join=some d:=Option.some.inj e
   cases z2:ρ[k]? with
   |none=>rw[z2]at e2;cases e2
   |some o=>
    rw[z2]at e2;have e3:o=some d:=e2;subst e3;obtain⟨v,h1,h2⟩:=q.slot k d z2;refine⟨v,?_,h2⟩;rw[getElem?_append_right (by omega),hτ];unfold AK;rw[getElem?_map,z];show some (σ[k]?).join=some (some v);rw[h1];rfl
def Keeps(nt:Nat)(σ:St)(Q:St->Hp->Prop):St->Hp->Prop:=λσ' H'=>σ'.length=σ.length->(∀j,nt<=j->σ'[j]? =σ[j]?)->Q σ' H'
def Ud(nt:Nat)(X:Cx)(W:XW)(tg:Expr)(gf:MV->Rho->Sto->R Rho):Prop:=
 ∃t,PG X tg t/\ ∀α ρ S σ H d v Q,Wd X.g α S H->Slots X.K α H ρ σ->Den X.K α H d v->Post X.g W α H (gf d ρ S) (Keeps nt σ Q)->t v σ H Q
section
variable{X:Cx}{W:XW}{pos:Pos}{nt:Nat}
def cR(i:Nat){x:Str}(hN:X.N.Nodup)(hi:X.N[i]? =some x:=by rfl)(hx:Loc X.env.scope x:=by first |exact Or.inl rfl|exact Or.inr rfl)(hf:X.fn x=true\/X.env.scope.names.lookup x=some .local:=by first |exact .inl rfl|exact .inr rfl|assumption)(hlt:i<nt:=by decide):
  Ud nt X W (.Name x pos) (xD i):=⟨_,SM hN hi hx hf,λα ρ S σ H d v Q wd sl de q=>Post.here (b:=ρ.set i (some d)) q wd (sl.set de) (by rw[List.length_set]) λj hj=>by rw[getElem?_set_ne (by omega)]⟩
end
abbrev ZM(X:Cx)(W:XW)(ifs:Vj)(f:AZ):Prop:=Jd X W (VZ X ifs) f
section
variable{X:Cx}{W:XW}{iter:Expr}{c:Expr}{tf:AZ}{pos:Pos}
def fW:ZM X W [] (λ_ S=>.ok true S):=⟨_,YW,λα ρ S σ H Q wd sl q=>q.here wd rfl⟩
def SW(h:DY X W c tf):ZM X W [c] tf:=let ⟨t,h,k⟩:=h;⟨t,YX h,k⟩
open Classical in
def SX{C:Cx->Prop}{elt tg:Expr}{ifs:Vj}{sc:Scope}{itf:Rho->Sto->R Wk}{cf:AZ}{ef:AX}{gf:MV->Rho->Sto->R Rho}(osc:Scope)(N:Vc)(T:Vc)(idx:Db)
  (hi:Jd X W (Qn C X tg iter) itf) (hCx: ∀c s₂ H2 fp pins σ,Inv X pins σ H2 s₂->C (yD X sc T idx c s₂ H2 fp))
  (hg: ∀C s₂ H1 fp,([]++T++idx.map λi=>(N[i]?).getD Str.empty).Nodup->Ud T.length (yD X sc T idx C s₂ H1 fp) W0 tg gf)
  (hc: ∀C s₂ H1 fp,ZM (yD X sc T idx C s₂ H1 fp) W0 ifs cf) (he: ∀C s₂ H1 fp,yP (yD X sc T idx C s₂ H1 fp) W0 elt ef)
  (e1:X.env.scope=osc:=by rfl) (e2:X.N=N:=by rfl) (hB:BS osc N sc idx=true:=by decide+kernel) (hN:([]++T++idx.map λi=>(N[i]?).getD Str.empty).Nodup:=by decide+kernel)
  (hs: ∀y,foldedSetIterable iter X.env y=pure y:=by intro _;rfl):
  Jd (β:=Er) (τ:=V) X W (λt=>PE X (.ListComp elt [⟨tg,iter,ifs,0⟩] sc pos) t/\PU X (.ListComp elt [⟨tg,iter,ifs,0⟩] sc pos) t) (λρ S=>(itf ρ S).bind λk S1=>if k.ds.length<1000000 then(kO gf cf ef (CS T.length idx ρ) k.gs k.ds S1).bind λout S2=>.ok (.new out) S2 else .no):=by
 obtain⟨wi,hi,ki⟩:=hi;subst e1 e2;have big:(1000000:Nat)<sizeLine:=by rw[sizeLine_eq];decide
 have hg': ∃t,(∀C s₂ H1 fp,PG (yD X sc T idx C s₂ H1 fp) tg t)/\ ∀α ρ S σ H d v Q,Wd X.g α S H->Slots X.K α H ρ σ->Den X.K α H d v->Post X.g W0 α H (gf d ρ S) (Keeps T.length σ Q)->t v σ H Q:=by refine⟨λv σ H Q=> ∃α ρ S d,Wd X.g α S H/\Slots X.K α H ρ σ/\Den X.K α H d v/\Post X.g W0 α H (gf d ρ S) (Keeps T.length σ Q),λC s₂ H1 fp pins s σ H v u Q I r ⟨α,ρ,S,d,h1,h2,h3,h4⟩=>?_,λα ρ S σ H d v Q h1 h2 h3 h4=>⟨α,ρ,S,d,h1,h2,h3,h4⟩⟩;obtain⟨t,ht,kt⟩:=hg C s₂ H1 fp hN;exact ht pins s σ H v u Q I r (kt α ρ S σ H d v Q h1 h2 h3 h4)
 obtain⟨tg',hg1,kg⟩:=hg';refine⟨_,⟨Fk T idx hi hCx hB hg1 (λC s₂ H1 fp=>(Classical.choose_spec (hc C s₂ H1 fp)).1) (λC s₂ H1 fp=>(Classical.choose_spec (he C s₂ H1 fp)).1) hs,Fp T idx hi hCx hB hg1 (λC s₂ H1 fp=>(Classical.choose_spec (hc C s₂ H1 fp)).1) (λC s₂ H1 fp=>(Classical.choose_spec (he C s₂ H1 fp)).1) hs⟩,λα ρ S σ H Q wd sl q=>ki α ρ S σ H _ wd sl (q.bind λJ k S1 α1 H1 e1 x1 w1 d1 q1=>?_)⟩;obtain⟨P,hP⟩:=d1;split at q1
 .rename_i hlen
  refine⟨λn m ys H2=>m=k.ds.length - n/\n<=k.ds.length/\ys.length<=n/\ ∃α2 S2,Ext α H α2 H2/\Wd X.g α2 S2 H2/\P α2 S2 H2/\ ∃outs,DenL X.K α2 H2 outs ys/\Post X.g W α H ((kO gf cf ef (CS T.length idx ρ) k.gs (k.ds.drop n) S2).bind λo S'=>.ok (Er.new (outs++o)) S') Q,
   ⟨_,rfl,zero_le _,Nat.le_refl _,α1,S1,x1,w1,hP.here,[],xG,by simpa using q1⟩,?_⟩
  rintro n m ys H2 ⟨rfl,hn,hy,α2,S2,x2,w2,p2,outs,l,q2⟩;obtain⟨i1,i2⟩:=hP.it n α2 S2 H2 p2 w2;refine⟨by omega,?_⟩;by_cases hlt:n<k.ds.length
  .obtain⟨go,yl⟩:=i1 hlt;refine .inr ⟨go,by omega,λv H3 y τ hτ=>?_⟩;obtain⟨x3,w3,p3,d,hd,dv⟩:=yl v H3 y;have hdrop:k.ds.drop n=d::k.ds.drop (n+1):=by rw[List.drop_eq_getElem_cons hlt];have:=gE hlt;rw[hd]at this;rw[<-Option.some.inj this]
   rw[hdrop]at q2;unfold kO at q2;have slb:=WH (sl.ext (x2.trans x3)) T.length idx τ hτ;refine kg α2 (CS T.length idx ρ) S2 _ H3 d v _ w3 slb dv ?_;rw[R.bind_assoc]at q2;refine q2.bindY (x2.trans x3) λσ4 ρ4 S4 α4 H4 e4 x4 w4 s4 q4 len4 kp4=>⟨⟨σ4.take T.length,?_,?_⟩,λC s₂ fp=>?_⟩
   .refine ext_getElem? λj=>?_;have hl4:σ4.length=T.length+idx.length:=by rw[len4,lA,mN,hτ]
    by_cases hj:j<T.length
    .rw[getElem?_append_left (by rw[lT];omega),getElem?_take_of_lt hj]
    .rw[kp4 j (by omega),getElem?_append_right (by omega),getElem?_append_right (by rw[lT];omega),hτ,lT,min_eq_left (by omega)]
   .rw[lT,len4,lA,mN,hτ];omega
   have x34:Ext α H α4 H4:=(x2.trans x3).trans x4;have p4: ∀α5 S5 H5,Ext α4 H4 α5 H5->Wd X.g α5 S5 H5->stay k.gs S5->P α5 S5 H5:=λα5 S5 H5 x5 w5 s5=>hP.stays α2 S2 H3 α5 S5 H5 p3 (x4.trans x5) w5 s5;rw[R.bind_assoc]at q4;refine(Classical.choose_spec (hc C s₂ H1 fp)).2 α4 ρ4 S4 σ4 H4 _ w4 s4 (q4.bindY x34 λb5 b5' S5 α5 H5 e5 x5 w5 d5 q5=>?_);cases d5
   cases b5 with
   |false=>
    rw[iN xF0]at q5 ⊢;split at q5
    .rename_i hst;exact⟨k.ds.length - (n+1),by omega,rfl,hlt,by omega,α5,S5,x34.trans x5,w5,p4 α5 S5 H5 x5 w5 hst,outs,(l.ext (x3.trans x4)).ext x5,q5⟩
    .exact q5.elim
   |true=>
    rw[iP rfl,R.bind_assoc]at q5;rw[iP rfl];refine(Classical.choose_spec (he C s₂ H1 fp)).2 α5 ρ4 S5 σ4 H5 _ w5 (s4.ext x5) (q5.bindY (x34.trans x5) λy6 r6 S6 α6 H6 e6 x6 w6 d6 q6=>?_);obtain⟨d',S',α',e7,x7,y7,w7,de⟩:=nB w6 x6 d6;rw[e7]at q6;have q6:Post X.g W α H ((if stay k.gs S' then(kO gf cf ef (CS T.length idx ρ) k.gs (k.ds.drop (n+1)) S').bind λout S4=>.ok (d'::out) S4 else .no).bind λo S'=>.ok (Er.new (outs++o)) S') Q:=q6;split at q6
    .rename_i hst;refine⟨k.ds.length - (n+1),by omega,rfl,hlt,by rw[lA,lS];omega,α',S',(x34.trans x5).trans x7,w7,p4 α' S' H6 (x5.trans x7) w7 hst,outs++[d'],((l.ext (x3.trans x4)).ext (x5.trans x7)).append (yZ de xG),?_⟩;rw[R.bind_assoc]at q6;have e8:(λ(o:Xb) (S':Sto)=>R.ok (Er.new ((outs++[d'])++o)) S')=(λ(b:Xb) S=>(R.ok (d'::b) S).bind λo S'=>.ok (Er.new (outs++o)) S'):=by funext o S';show _=R.ok (Er.new (outs++(d'::o))) S';rw[aA];rfl
     rw[e8];exact q6
    .exact q6.elim
  .have e:n=k.ds.length:=by omega
   subst e;rw[drop_length]at q2;have q3:Post X.g W α H (.ok (Er.new (outs++[])) S2) Q:=q2;rw[aN]at q3;exact .inl ⟨i2 (Nat.le_refl _),λD hD=>(q3.shift x2).newl w2 hD l⟩
 .exact q1.elim
open Classical in
def mQ{elt tg:Expr}{ifs:Vj}{sc:Scope}{itf:Rho->Sto->R Wk}{cf:AZ}{ef:AX}{gf:MV->Rho->Sto->R Rho}(osc:Scope)(N:Vc)(T:Vc)(idx:Db)
  (hi:Gb X W tg iter itf) (hcalm:X.calm=true)
  (hg: ∀C s₂ H1 fp,([]++T++idx.map λi=>(N[i]?).getD Str.empty).Nodup->Ud T.length (yD X sc T idx C s₂ H1 fp) W0 tg gf)
  (hc: ∀C s₂ H1 fp,ZM (yD X sc T idx C s₂ H1 fp) W0 ifs cf) (he: ∀C s₂ H1 fp,yP (yD X sc T idx C s₂ H1 fp) W0 elt ef)
  (e1:X.env.scope=osc:=by rfl) (e2:X.N=N:=by rfl) (hB:BS osc N sc idx=true:=by decide+kernel) (hN:([]++T++idx.map λi=>(N[i]?).getD Str.empty).Nodup:=by decide+kernel)
  (hs: ∀y,foldedSetIterable iter X.env y=pure y:=by intro _;rfl):
  yP X W (.ListComp elt [⟨tg,iter,ifs,0⟩] sc pos) (λρ S=>(itf ρ S).bind λk S1=>if k.ds.length<1000000 then(kO gf cf ef (CS T.length idx ρ) k.gs k.ds S1).bind λout S2=>.ok (.new out) S2 else .no):=let ⟨t,h,k⟩:=(SX osc N T idx hi (λ_ _ _ _ _ _ _=>hcalm) hg hc he e1 e2 hB hN hs);⟨t,h.1,k⟩
open Classical in
def JV{x:Str}{pos' spos:Pos}(i:Nat)(hNN:X.N.Nodup){elt tg:Expr}{ifs:Vj}{sc:Scope}{itf:Rho->Sto->R Wk}{cf:AZ}{ef:AX}{gf:MV->Rho->Sto->R Rho}(osc:Scope)(N:Vc)(T:Vc)(idx:Db)
  (hi:Gb X W tg iter itf) (hcalm:X.calm=true)
  (hg: ∀C s₂ H1 fp,([]++T++idx.map λi=>(N[i]?).getD Str.empty).Nodup->Ud T.length (yD X sc T idx C s₂ H1 fp) W0 tg gf)
  (hc: ∀C s₂ H1 fp,ZM (yD X sc T idx C s₂ H1 fp) W0 ifs cf) (he: ∀C s₂ H1 fp,yP (yD X sc T idx C s₂ H1 fp) W0 elt ef)
  (e1:X.env.scope=osc:=by rfl) (e2:X.N=N:=by rfl) (hB:BS osc N sc idx=true:=by decide+kernel) (hN:([]++T++idx.map λi=>(N[i]?).getD Str.empty).Nodup:=by decide+kernel)
  (hs: ∀y,foldedSetIterable iter X.env y=pure y:=by intro _;rfl)
  (hi2:X.N[i]? =some x:=by rfl) (hx:Loc X.env.scope x:=by first |exact Or.inl rfl|exact Or.inr rfl)
  (hsw:swapsWith (.ListComp elt [⟨tg,iter,ifs,0⟩] sc pos) (some (.Name x pos')) spos.line X.env=pure true:=by with_unfolding_all rfl) (hf:X.fn x=true\/X.env.scope.names.lookup x=some .local:=by first |exact .inl rfl|exact .inr rfl|assumption):
  ZK X W (.Assign [.Name x pos'] (.ListComp elt [⟨tg,iter,ifs,0⟩] sc pos) spos) (λρ S=>((itf ρ S).bind λk S1=>if k.ds.length<1000000 then(kO gf cf ef (CS T.length idx ρ) k.gs k.ds S1).bind λout S2=>.ok (.new out) S2 else .no).bind (JU ρ i)):=by
 obtain⟨t,h,k⟩:=(SX osc N T idx hi (λ_ _ _ _ _ _ _=>hcalm) hg hc he e1 e2 hB hN hs)
 refine⟨_,h.2 i x pos' spos hNN hi2 hx hf hsw,λα ρ S σ H D wd sl q=>k α ρ S σ H _ wd sl (q.expr λu r S1 α1 H1 e x1 w1 d1 q1=>?_)⟩;obtain⟨d',S',α',e1,x',y',w',de⟩:=nB w1 x1 d1;unfold JU at q1;rw[e1]at q1;exact q1 _ α' H1 x' w' (((sl.ext x1).ex0 y').set de)
end
mutual
def lo(n:Nat):MV->Prop
 |.loc l=>l<n
 |.tup ds=>pZ n ds
 |.scr ds=>pZ n ds
 |.obj _ _ ds=>pZ n ds
 |_=>True
def pZ(n:Nat):List MV->Prop
 |[]=>True
 |d::ds=>lo n d/\pZ n ds
end
def loO(n:Nat):MO->Prop
 |.lst ds=>pZ n ds
 |.dic kvs=> ∀p∈kvs,lo n p.1/\lo n p.2
 |.ins _ fs=> ∀p∈fs,lo n p.2
 |.rcd _ fs=> ∀p∈fs,lo n p.2
section
variable{K:Vk}{α t:Vb}{H:Hp}
mutual
theorem Den.back: ∀{d:MV}{v:V},Den K (α++t) H d v->lo α.length d->Den K α H d v
 |.non,_,q,_=>by cases eU q;exact sV
 |.bl _,_,q,_=>by cases qX q;exact bH _
 |.int _,_,q,_=>by cases jP q;exact kQ _
 |.str _,_,q,_=>by cases jQ q;exact mP _
 |.typ _,_,q,_=>by cases eV q;exact SS _
 |.obj c ns ds,_,q,h=>by obtain⟨a,C,dx,vs,o,rfl,e,hn,hc,hl,l⟩:=dY q;exact Fs e hn hc hl (DenL.back l (by unfold lo at h;exact h))
 |.loc l,_,q,h=>by
  obtain⟨a,rfl,e⟩:=cO q;have hl:l<α.length:=by unfold lo at h;exact h
  rw[getElem?_append_left hl]at e;exact pX e
 |.tup ds,_,q,h=>by obtain⟨a,vs,rfl,s,l⟩:=jR q;exact pW s (DenL.back l (by unfold lo at h;exact h))
 |.scr ds,_,q,h=>by obtain⟨a,vs,rfl,s,l⟩:=dZ q;exact SU s (DenL.back l (by unfold lo at h;exact h))
theorem DenL.back: ∀{ds:Xb}{vs:List V},DenL K (α++t) H ds vs->pZ α.length ds->DenL K α H ds vs
 |[],_,q,_=>by rw[q.isnil];exact xG
 |d::ds,_,q,h=>by obtain⟨v,r,rfl,a,l⟩:=q.uncons;unfold pZ at h;exact yZ (Den.back a h.1) (DenL.back l h.2)
end
mutual
theorem Den.lo: ∀{d:MV}{v:V},Den K α H d v->lo α.length d
 |.non,_,q=>by unfold M.lo;trivial
 |.bl _,_,q=>by unfold M.lo;trivial
 |.int _,_,q=>by unfold M.lo;trivial
 |.str _,_,q=>by unfold M.lo;trivial
 |.typ _,_,q=>by unfold M.lo;trivial
 |.obj c ns ds,_,q=>by obtain⟨a,C,dx,vs,o,rfl,e,hn,hc,hl,l⟩:=dY q;unfold M.lo;exact DenL.lo l
 |.loc l,_,q=>by obtain⟨a,rfl,e⟩:=cO q;unfold M.lo;exact(gS.mp e).1
 |.tup ds,_,q=>by obtain⟨a,vs,rfl,s,l⟩:=jR q;unfold M.lo;exact DenL.lo l
 |.scr ds,_,q=>by obtain⟨a,vs,rfl,s,l⟩:=dZ q;unfold M.lo;exact DenL.lo l
theorem DenL.lo: ∀{ds:Xb}{vs:List V},DenL K α H ds vs->pZ α.length ds
 |[],_,q=>by unfold pZ;trivial
 |d::ds,_,q=>by obtain⟨v,r,rfl,a,l⟩:=q.uncons;unfold pZ;exact⟨Den.lo a,DenL.lo l⟩
end
theorem DenK.back: ∀{fs gs},DenK K (α++t) H fs gs->(∀p∈fs,M.lo α.length p.1/\M.lo α.length p.2)->DenK K α H fs gs
 |_,_,.nil,_=>.nil
 |_,_,.cons k a l,h=>.cons k (a.back (h _ mF0).2) (DenK.back l λp hp=>h p (mO _ hp))
def KeyD.lo{n:Nat}{k:MV}{k':Key}(h:KeyD k k'):M.lo n k:=by
 unfold KeyD at h;split at h
 .unfold M.lo;trivial
 .unfold M.lo;trivial
 .exact h.elim
theorem DenK.lo: ∀{fs gs},DenK K α H fs gs-> ∀p∈fs,M.lo α.length p.1/\M.lo α.length p.2
 |_,_,.nil=>λp h=>by simp at h
 |_,_,.cons k a l=>λp h=>(mC.mp h).elim (λe=>by subst e;exact⟨k.lo,a.lo⟩) (DenK.lo l p)
theorem DenN.back: ∀{fs xs},DenN K (α++t) H fs xs->(∀p∈fs,M.lo α.length p.1/\M.lo α.length p.2)->DenN K α H fs xs
 |_,_,.nil,_=>.nil
 |_,_,.cons k e a d r l,h=>.cons k e (a.back (h _ mF0).1) (d.back (h _ mF0).2) r (DenN.back l λp hp=>h p (mO _ hp))
theorem DenN.lo: ∀{fs xs},DenN K α H fs xs-> ∀p∈fs,M.lo α.length p.1/\M.lo α.length p.2
 |_,_,.nil=>λp h=>by simp at h
 |_,_,.cons k e a d r l=>λp h=>(mC.mp h).elim (λz=>by subst z;exact⟨a.lo,d.lo⟩) (DenN.lo l p)
theorem DenF.back: ∀{fs gs},DenF K (α++t) H fs gs->(∀p∈fs,M.lo α.length p.2)->DenF K α H fs gs
 |_,_,.nil,_=>.nil
 |_,_,.cons a l,h=>.cons (a.back (h _ mF0)) (DenF.back l λp hp=>h p (mO _ hp))
theorem DenF.lo: ∀{fs gs},DenF K α H fs gs-> ∀p∈fs,M.lo α.length p.2
 |_,_,.nil=>λp h=>by simp at h
 |_,_,.cons a l=>λp h=>(mC.mp h).elim (λe=>by subst e;exact a.lo) (DenF.lo l p)
def ObD.back{g:Gm}{a:Addr}{o:MO}(q:ObD g (α++t) H a o)(h:loO α.length o):ObD g α H a o:=by
 cases o with
 |lst ds=>obtain⟨vs,h1,l⟩:=q;exact⟨vs,h1,l.back h⟩
 |dic ds=>
  rcases q with⟨vs,h1,l⟩|⟨vs,h1,l⟩
  .exact .inl ⟨vs,h1,l.back h⟩
  .exact .inr ⟨vs,h1,l.back h⟩
 |ins c fs=>obtain⟨C,gs,m,l,r⟩:=q;exact⟨C,gs,m,l.back h,r⟩
 |rcd c fs=>obtain⟨C,dx,gs,m,h1,l⟩:=q;exact⟨C,dx,gs,m,h1,l.back h⟩
def ObD.lo{g:Gm}{a:Addr}{o:MO}(q:ObD g α H a o):loO α.length o:=by
 cases o with
 |lst ds=>obtain⟨vs,h1,l⟩:=q;exact l.lo
 |dic ds=>
  rcases q with⟨vs,h1,l⟩|⟨vs,h1,l⟩
  .exact l.lo
  .exact l.lo
 |ins c fs=>obtain⟨C,gs,m,l,r⟩:=q;exact l.lo
 |rcd c fs=>obtain⟨C,dx,gs,m,h1,l⟩:=q;exact l.lo
end
def SY(S S2:Sto):Prop:=S.length<=S2.length/\ ∀l,l<S.length->S2[l]? =S[l]? \/ ∃o,S2[l]? =some o/\loO S.length o
open Classical in
def bD(S:Sto)(r:Er)(S2:Sto):R Er:=
 if SY S S2 then match r with
  |.val (.loc l)=>if l<S.length then .ok r (S2.take S.length)else match S2[l]? with
   |some (.lst ds)=>if pZ S.length ds then .ok (.new ds) (S2.take S.length)else .ok r S2
   |_=>.ok r S2
  |.val d=>if lo S.length d then .ok r (S2.take S.length)else .ok r S2
  |.new ds=>if pZ S.length ds then .ok r (S2.take S.length)else .ok r S2
 else .ok r S2
def Ge{g:Gm}{α α1 α2 α3:Vb}{H H1 H3:Hp}{S1 S3:Sto}{r:Er}{v:V}(x1:Ext α H α1 H1)(w1:Wd g α1 S1 H1)(h12: ∃t,α2=α1++t)(x2:Ext α H α2 H1)(x3:Ext α2 H1 α3 H3)(w3:Wd g α3 S3 H3)(d:DenE g.K H1 α3 H3 r v):
  ∃r' S' α',bD S1 r S3=.ok r' S'/\Ext α H α' H3/\Wd g α' S' H3/\DenE g.K H α' H3 r' v:=by
 have x23:=x2.trans x3;have dfull:DenE g.K H α3 H3 r v:=d.back λb h=>x1.free h;unfold bD;by_cases hc:SY S1 S3
 .rw[iP hc];obtain⟨t,ht⟩: ∃t,α3=α1++t:=by obtain⟨t,e⟩:=h12;obtain⟨u,e'⟩:=x3.pre;exact⟨t++u,by rw[e',e,aA]⟩
  have hn:α1.length=S1.length:=w1.len;have xc:Ext α H α1 H3:=⟨⟨x1.pre,x23.tup,x23.frz⟩,x1.new,x23.keep,x23.has⟩
  have wc:Wd g α1 (S3.take S1.length) H3:=by
   refine⟨by rw[lT,hn,min_eq_left hc.1],w1.nd,λl a o h1 h2=>?_⟩;have hl:l<S1.length:=by rw[<-hn];exact(gS.mp h1).1
   rw[getElem?_take_of_lt hl]at h2;have h1':α3[l]? =some a:=by rw[ht,getElem?_append_left (by rw[hn];exact hl)];exact h1
   have q:=w3.obj l a o h1' h2;rw[ht]at q;refine q.back ?_;rcases hc.2 l hl with e|⟨o',e,lo'⟩
   .rw[e]at h2;exact(w1.obj l a o h1 h2).lo
   .rw[h2]at e;cases e;rw[hn];exact lo'
  have dlo: ∀d,lo S1.length d->Den g.K α3 H3 d v->DenE g.K H α1 H3 (.val d) v:=λd hd q=>.val ((ht▸q:Den g.K (α1++t) H3 d v).back (by rw[hn];exact hd))
  cases r with
  |new ds=>
   dsimp only;split
   .rename_i hl;obtain⟨⟨b,vs,rfl,h1,h2,h3⟩,h4⟩:=dfull;exact⟨_,_,α1,rfl,xc,wc,⟨b,vs,rfl,h1,λz=>h2 (by rw[ht];exact mem_append_left _ z),(ht▸h3:DenL g.K (α1++t) H3 ds vs).back (by rw[hn];exact hl)⟩,h4⟩
   .exact⟨_,_,α3,rfl,x23,w3,dfull⟩
  |val mv=>
   have dd:Den g.K α3 H3 mv v:=dfull.1
   cases mv with
   |loc l=>
    dsimp only;split
    .rename_i hl;exact⟨_,_,α1,rfl,xc,wc,dlo _ (by unfold lo;exact hl) dd⟩
    .rename_i hl;obtain⟨a,rfl,ha⟩:=cO dd;split
     .rename_i ds hS;split
      .rename_i hlo;obtain⟨vs,h1,h2⟩:=w3.obj l a _ ha hS
       have hna:a∉α1:=λz=>by
        obtain⟨m,hm⟩:=List.getElem?_of_mem z;have hml:m<α1.length:=(gS.mp hm).1;have hm':α3[m]? =some a:=by rw[ht,getElem?_append_left hml];exact hm
        obtain⟨u1,e1⟩:=gS.mp hm';obtain⟨u2,e2⟩:=gS.mp ha;have:=(getElem_inj w3.nd).mp (e1.trans e2.symm);omega
       refine⟨_,_,α1,rfl,xc,wc,⟨a,vs,rfl,h1,hna,(ht▸h2:DenL g.K (α1++t) H3 ds vs).back (by rw[hn];exact hlo)⟩,λb e=>?_⟩;cases e;rcases x23.new a (mem_of_getElem? ha)with z|z
       .obtain⟨u,eu⟩:=x1.pre;exact absurd (by rw[eu];exact mem_append_left _ z) hna
       .exact z
      .exact⟨_,_,α3,rfl,x23,w3,dfull⟩
     .exact⟨_,_,α3,rfl,x23,w3,dfull⟩
   |non=>dsimp only;split;(· rename_i hl;exact⟨_,_,α1,rfl,xc,wc,dlo _ hl dd⟩);(· exact⟨_,_,α3,rfl,x23,w3,dfull⟩)
   |bl b=>dsimp only;split;(· rename_i hl;exact⟨_,_,α1,rfl,xc,wc,dlo _ hl dd⟩);(· exact⟨_,_,α3,rfl,x23,w3,dfull⟩)
   |int b=>dsimp only;split;(· rename_i hl;exact⟨_,_,α1,rfl,xc,wc,dlo _ hl dd⟩);(· exact⟨_,_,α3,rfl,x23,w3,dfull⟩)
   |str b=>dsimp only;split;(· rename_i hl;exact⟨_,_,α1,rfl,xc,wc,dlo _ hl dd⟩);(· exact⟨_,_,α3,rfl,x23,w3,dfull⟩)
   |typ b=>dsimp only;split;(· rename_i hl;exact⟨_,_,α1,rfl,xc,wc,dlo _ hl dd⟩);(· exact⟨_,_,α3,rfl,x23,w3,dfull⟩)
   |obj b b' b''=>dsimp only;split;(· rename_i hl;exact⟨_,_,α1,rfl,xc,wc,dlo _ hl dd⟩);(· exact⟨_,_,α3,rfl,x23,w3,dfull⟩)
   |tup b=>dsimp only;split;(· rename_i hl;exact⟨_,_,α1,rfl,xc,wc,dlo _ hl dd⟩);(· exact⟨_,_,α3,rfl,x23,w3,dfull⟩)
   |scr b=>dsimp only;split;(· rename_i hl;exact⟨_,_,α1,rfl,xc,wc,dlo _ hl dd⟩);(· exact⟨_,_,α3,rfl,x23,w3,dfull⟩)
 .rw[iN hc];exact⟨_,_,α3,rfl,x23,w3,dfull⟩
def JW(g:Gm)(n:Nat)(F:List MV->Sto->R Er):Sp:=λvs H Q _=> ∃α S ds,Wd g α S H/\DenL g.K α H ds vs/\ds.length=n/\Post g W0 α H (F ds S) Q
def zR(n:Nat)(F:List MV->Sto->R Er)(rs:List Er)(S:Sto):R Er:=if rs.length=n then(noX (F (zM rs S).1 (zM rs S).2)).bind λr S2=>bD S r S2 else .no
section
variable{X:Cx}{W:XW}{e:Expr}{es:Vj}{af:Rho->Sto->R (List Er)}{pos:Pos}
def IB{n:Nat}{F:List MV->Sto->R Er}{rs:List Er}{vs:List V}{α α1:Vb}{H H1:Hp}{S1:Sto}{Q:VK}(x1:Ext α H α1 H1)(w1:Wd X.g α1 S1 H1)(d1:ArgsE X.K H α1 H1 rs vs)(q:Post X.g W α H (zR n F rs S1) Q):
  JW X.g n F vs H1 Q E0:=by
 unfold zR at q;split at q
 .rename_i hl;obtain⟨α2,x2,y2,w2,l2⟩:=oW w1 x1 d1;refine⟨α2,_,_,w2,l2,by rw[sX];exact hl,?_⟩
  cases z:F (zM rs S1).1 (zM rs S1).2 with
  |ok r S3=>
   rw[z]at q;intro v α3 H3 x3 w3 d3;obtain⟨r',S',α',e',x',w',d'⟩:=Ge x1 w1 y2.pre x2 x3 w3 d3;have q:Post X.g W α H (bD S1 r S3) Q:=q;rw[e']at q;exact q v α' H3 x' w' d'
  |exc c fs S3=>rw[z]at q;exact q.elim
  |no=>rw[z]at q;exact q.elim
 .exact q.elim
def JX{k n:Nat}{fa:Addr}{fd:FuncData}{ps:Vc}{F:List MV->Sto->R Er}{x:Str}{p:Pos}(G:FnOk X.prog X.w X.K X.mg X.base CO k fa fd ps (JW X.g n F))(hr:Room k X.A)(hg:Gl X x)(hm:X.mg x=some (.ref fa))
  (hk:PySem.W.keepIn X.K (.ref fa)=true) (hb:Binds X.K fd ps []) (ha:JS X W (e::es) af) (hdb:(x==("__debug__":Str))=false:=by decide)
  (he:starEach (e::es) X.env=(false,eval e X.env)::starEach es X.env:=by rfl) (hpl:(backTo pos (starEach es X.env)).any (·.1)=false:=by rfl):
  yP X W (.Call (.Name x p) (e::es) [] pos) (λρ S=>(af ρ S).bind λrs S1=>zR n F rs S1):=by
 obtain⟨t,ha,kk⟩:=ha;refine⟨_,Et G hr hg hm hk hb .nil YU ha hdb he hpl,λα ρ S σ H Q wd sl q=>kk α ρ S σ H _ wd sl (q.bind λvs rs S1 α1 H1 e1 x1 w1 d1 q1=>?_)⟩;rw[aN];exact IB x1 w1 d1 q1
end
def yR(N:Vc)(ds:Xb):Rho:=ds.map some++List.replicate (N.length - ds.length) none
def yU:R Fl->R Er
 |.ok (.next _) S=>.ok (.val .non) S
 |.ok (.ret r) S=>.ok r S
 |.exc c fs S=>.exc c fs S
 |_=>.no
def NO{K:Vk}{α:Vb}{N:Vc}{H:Hp}{ds:Xb}{vs:List V}(l:DenL K α H ds vs):Slots K α H (yR N ds) (start N vs):=by
 have hlen:=l.length;refine⟨?_,λi d e=>?_⟩
 .unfold start yR;rw[lA,lA,lM,lM,List.length_replicate,List.length_replicate,hlen]
 .unfold yR at e;by_cases hi:i<ds.length
  .rw[getElem?_append_left (by simpa using hi),getElem?_map]at e
   cases z:ds[i]? with
   |none=>rw[z]at e;cases e
   |some d'=>
    rw[z]at e;obtain⟨v,h1,h2⟩:=l.at z;have e':d'=d:=Option.some.inj (Option.some.inj e);subst e';refine⟨v,?_,h2⟩;unfold start;rw[getElem?_append_left (by rw[lM,hlen];exact hi),getElem?_map,h1];rfl
  .rw[getElem?_append_right (by simpa using hi),List.getElem?_replicate]at e;split at e<;>cases e
section
variable{P:Program}{w:World}{K:Vk}{mg:Vd}{base:Heap}
def CG{x qual:Str}{st:Stmt}{f:Addr}{fd:FuncData}{N ps:Vc}{k:Nat}(Fb:AY)(F:Fun K x qual st f fd)(Sc:FnScope N ps (zI st))
  (hbody: ∀(cdv:Value)(A:Around)(outer:List Env)(s:Shared)(H:Hp)(E:XK),Room k (A.deeper (envOfC qual (zI st) s.heap.objs.size f cdv))->
   JT (QH CO P w K mg base N qual (zI st) f cdv A outer s H E).nox W0 (bW st) Fb):
  FnOk P w K mg base CO (k+1) f fd ps (JW ⟨K,mg,P,w⟩ ps.length λds S=>yU (Fb (yR N ds) S)):=by
 refine F.ok Sc (λvs H Q E h=>?_) (λcdv A outer s H vs Q E hr h=>?_)
 .obtain⟨α,S,ds,_,l,hl,_⟩:=h;rw[l.length,hl]
 .obtain⟨α,S,ds,wd,l,hl,q⟩:=h;obtain⟨t,ht,kk⟩:=hbody cdv A outer s H E hr;refine⟨t,ht,kk α (yR N ds) S (start N vs) H _ wd (NO l) ?_⟩;dsimp only at q
  cases z:Fb (yR N ds) S with
  |ok fl S'=>
   rw[z]at q
   cases fl with
   |next ρ=>exact λσ α' H' x' w' s'=>q .non α' H' x' w' (DenE.val sV)
   |ret r=>exact λv α' H' x' w' d'=>q v α' H' x' w' d'
   |brk ρ=>exact q.elim
   |cont ρ=>exact q.elim
  |exc c fs S'=>rw[z]at q;exact λα' H' x' w'=>q α' H' x' w'
  |no=>rw[z]at q;exact q
end
inductive Vw where
 |fl (v:V)|tp (ds:Xb)|ls (ds:Xb)
def eA(S:Sto):Er->Option (List MV)
 |.new ds=>some ds
 |.val (.scr ds)=>some ds
 |.val (.loc l)=>match S[l]? with
  |some (.lst ds)=>some ds
  |_=>none
 |_=>none
def JY(S:Sto):Er->Option Vw
 |.val .non=>some (.fl .non)
 |.val (.bl b)=>some (.fl (.bl b))
 |.val (.int i)=>some (.fl (.int i))
 |.val (.str x)=>some (.fl (.str (gF x)))
 |.val (.tup ds)=>some (.tp ds)
 |.val (.typ _)=>none
 |.val (.obj _ _ _)=>none
 |r=>(eA S r).map .ls
def CT(e:MV->MV->Option Bool):List MV->List MV->Option (List Bool)
 |d::ds,f::fs=>(e d f).bind λk=>(CT e ds fs).map (k::·)
 |_,_=>some []
def Jv(e:MV->MV->Option Bool):Vw->Vw->Option Bool
 |.fl x,.fl y=>some (Ff x y)
 |.tp ds,.tp es=>(CT e ds es).map λbs=>bs.all id&&ds.length==es.length
 |.ls ds,.ls es=>if ds.length=es.length then(CT e ds es).map λbs=>bs.all id else some false
 |_,_=>some false
theorem QS(e:MV->MV->Option Bool)(ds es:Xb):Jv e (.tp ds) (.tp es)=(CT e ds es).map λbs=>bs.all id&&ds.length==es.length:=rfl
theorem JZ(e:MV->MV->Option Bool)(ds es:Xb):Jv e (.ls ds) (.ls es)=if ds.length=es.length then(CT e ds es).map λbs=>bs.all id else some false:=rfl
def eqv(S:Sto):Nat->MV->MV->Option Bool
 |0,_,_=>none
 |n+1,a,b=>(JY S (.val a)).bind λx=>(JY S (.val b)).bind λy=>Jv (eqv S n) x y
def EB(S:Sto)(n:Nat)(a b:Er):Option Bool:=(JY S a).bind λx=>(JY S b).bind λy=>Jv (eqv S n) x y
section
variable{X:Cx}{α:Vb}{S:Sto}{H:Hp}
def BU{K:Vk}{g:Gm}(hK:g.K=K)(wd:Wd g α S H){r:Er}{ds:Xb}{x:V}(e:eA S r=some ds)(d:DenX K α H r x): ∃a vs,x=.ref a/\SqL K H a vs/\DenL K α H ds vs:=by
 subst hK;unfold eA at e;split at e
 .cases e;obtain⟨b,vs,rfl,h,_,l⟩:=d;exact⟨b,vs,rfl,.of h,l⟩
 .cases e;obtain⟨a,vs,rfl,s,l⟩:=DX d;exact⟨a,vs,rfl,s.l,l⟩
 .rename_i n;obtain⟨a,rfl,h⟩:=eX d;split at e
  .rename_i es hS;cases e;obtain⟨vs,h1,l⟩:=wd.obj n a _ h hS;exact⟨a,vs,rfl,.of h1,l⟩
  .cases e
 .cases e
def qY{r:Er}{x y:V}(e:JY S r=some (.fl y))(d:DenX X.K α H r x):x=y/\wV y=true:=by
 unfold JY at e;split at e
 .cases e;exact⟨uB d,rfl⟩
 .cases e;exact⟨vA d,rfl⟩
 .cases e;exact⟨xU d,rfl⟩
 .cases e;exact⟨cP d,rfl⟩
 .cases e
 .cases e
 .cases e
 .cases z:eA S r<;>rw[z]at e<;>cases e
def qZ{r:Er}{x:V}{ds:Xb}(e:JY S r=some (.tp ds))(d:DenX X.K α H r x): ∃a vs,x=.ref a/\SqT X.K H a vs/\DenL X.K α H ds vs:=by
 unfold JY at e;split at e
 .cases e
 .cases e
 .cases e
 .cases e
 .cases e;exact eW d
 .cases e
 .cases e
 .cases z:eA S r<;>rw[z]at e<;>cases e
def rA(wd:Wd X.g α S H){r:Er}{x:V}{ds:Xb}(e:JY S r=some (.ls ds))(d:DenX X.K α H r x): ∃a vs,x=.ref a/\SqL X.K H a vs/\DenL X.K α H ds vs:=by
 unfold JY at e;split at e
 .cases e
 .cases e
 .cases e
 .cases e
 .cases e
 .cases e
 .cases e
 .cases z:eA S r with
  |none=>rw[z]at e;cases e
  |some es=>rw[z]at e;cases e;exact BU rfl wd z d
theorem sY{e:MV->MV->Option Bool}: ∀{ds es:Xb}{bs:Vh},CT e ds es=some bs->bs.length=min ds.length es.length
 |[],_,_,h=>by simp[CT]at h;subst h;simp
 |_::_,[],_,h=>by simp[CT]at h;subst h;simp
 |d::ds,f::fs,bs,h=>by
  unfold CT at h
  cases z:e d f with
  |none=>rw[z]at h;cases h
  |some k=>
   rw[z]at h
   cases z2:CT e ds fs with
   |none=>simp[z2]at h
   |some cs=>
    simp[z2]at h;subst h;simp[sY z2]
theorem KA{e:MV->MV->Option Bool}: ∀{ds es:Xb}{bs:Vh}{j:Nat}{d f:MV},CT e ds es=some bs->ds[j]? =some d->es[j]? =some f->e d f=some (bs.getD j true)
 |[],_,_,_,_,_,h,h1,_=>by simp at h1
 |_::_,[],_,_,_,_,h,_,h2=>by simp at h2
 |d::ds,f::fs,bs,j,d',f',h,h1,h2=>by
  unfold CT at h
  cases z:e d f with
  |none=>rw[z]at h;cases h
  |some k=>
   rw[z]at h
   cases z2:CT e ds fs with
   |none=>simp[z2]at h
   |some cs=>
    simp[z2]at h;subst h
    cases j with
    |zero=>simp at h1 h2;subst h1 h2;simpa using z
    |succ j=>simpa using KA z2 (by simpa using h1) (by simpa using h2)
def range_all{bs:Vh}{n:Nat}(h:bs.length=n):(List.range n).all (λj=>bs.getD j true)=bs.all id:=by
 subst h;rw[Bool.eq_iff_iff,List.all_eq_true,List.all_eq_true];constructor
 .intro h x hx;obtain⟨i,hi,rfl⟩:=List.getElem_of_mem hx;have:=h i (mem_range.mpr hi);simpa [List.getD_eq_getElem?_getD,hi]using this
 .intro h i hi;have hi':=mem_range.mp hi;have:=h bs[i] (getElem_mem hi');simpa [List.getD_eq_getElem?_getD,hi']using this
variable{pins:Vg}{σ:St}{s:Shared}
def vC(I:Inv X pins σ H s){a:Addr}{xs ys:List V}(h:SqL X.K H a xs)(h':SqT X.K H a ys):False:=by obtain⟨_,_,pl,_⟩:=I.list h;obtain⟨_,_,pt,_⟩:=I.tuple h';obtain⟨o,n,e,c,_,_⟩:=pl;obtain⟨o',e',c',_⟩:=pt;rw[e]at e';cases e';rw[c]at c';exact absurd c' (by simp)
def ZN(I:Inv X pins σ H s)(wd:Wd X.g α S H){e:MV->MV->Option Bool}(he: ∀d f v k,Den X.K α H d v->Den X.K α H f v->e d f=some k->k=true){a b:Er}{x:V}{p q:Vw}{k:Bool}
  (ha:JY S a=some p) (hb:JY S b=some q) (da:DenX X.K α H a x) (db:DenX X.K α H b x) (h:Jv e p q=some k):k=true:=by
 have hp: ∀{ds es:Xb}{vs:List V}{bs:Vh},DenL X.K α H ds vs->DenL X.K α H es vs->CT e ds es=some bs->bs.all id=true:=by
  intro ds es vs bs l1 l2 z;rw[List.all_eq_true];intro k hk;obtain⟨i,hi,rfl⟩:=List.getElem_of_mem hk;have hl:=sY z;have h1:i<ds.length:=by omega
  have h2:i<es.length:=by omega
  obtain⟨v,g1,g2⟩:=l1.at (gE h1);obtain⟨v',g3,g4⟩:=l2.at (gE h2);rw[g1]at g3;cases g3;have:=he _ _ _ _ g2 g4 (KA z (gE h1) (gE h2));simpa [List.getD_eq_getElem?_getD,hi]using this
 cases p with
 |fl y=>
  obtain⟨rfl,f1⟩:=qY ha da
  cases q with
  |fl z=>obtain⟨rfl,f2⟩:=qY hb db;cases h;exact NA f1
  |tp ds=>obtain⟨a,vs,rfl,_⟩:=qZ hb db;exact absurd (show false=true from f1) xF0
  |ls ds=>obtain⟨a,vs,rfl,_⟩:=rA wd hb db;exact absurd (show false=true from f1) xF0
 |tp ds=>
  obtain⟨a1,vs,rfl,s1,l1⟩:=qZ ha da
  cases q with
  |fl z=>obtain⟨rfl,f2⟩:=qY hb db;exact absurd (show false=true from f2) xF0
  |tp es=>
   obtain⟨a2,us,e2,s2,l2⟩:=qZ hb db;cases e2;cases I.tuple_inj s1 s2;rw[QS]at h
   cases z:CT e ds es with
   |none=>rw[z]at h;cases h
   |some bs=>
    rw[z]at h;cases h;show(bs.all id&&ds.length==es.length)=true;rw[hp l1 l2 z, <-l1.length, <-l2.length];simp
  |ls es=>obtain⟨a2,us,e2,s2,l2⟩:=rA wd hb db;cases e2;exact(vC I s2 s1).elim
 |ls ds=>
  obtain⟨a1,vs,rfl,s1,l1⟩:=rA wd ha da
  cases q with
  |fl z=>obtain⟨rfl,f2⟩:=qY hb db;exact absurd (show false=true from f2) xF0
  |tp es=>obtain⟨a2,us,e2,s2,l2⟩:=qZ hb db;cases e2;exact(vC I s1 s2).elim
  |ls es=>
   obtain⟨a2,us,e2,s2,l2⟩:=rA wd hb db;cases e2;cases I.list_inj s1 s2;rw[JZ]at h;rw[iP (by rw[<-l1.length, <-l2.length])]at h
   cases z:CT e ds es with
   |none=>rw[z]at h;cases h
   |some bs=>rw[z]at h;cases h;exact hp l1 l2 z
theorem EC(I:Inv X pins σ H s)(wd:Wd X.g α S H): ∀(n:Nat)(d f:MV)(v:V)(k:Bool),Den X.K α H d v->Den X.K α H f v->eqv S n d f=some k->k=true
 |0,_,_,_,_,_,_,h=>by cases h
 |n+1,d,f,v,k,h1,h2,h=>by
  unfold eqv at h
  cases za:JY S (.val d)with
  |none=>rw[za]at h;cases h
  |some p=>
   cases zb:JY S (.val f)with
   |none=>rw[za,zb]at h;cases h
   |some q=>
    rw[za,zb]at h;exact ZN I wd (EC I wd n) za zb (a:=.val d) (b:=.val f) h1 h2 h
def vD{e:MV->MV->Option Bool}{A:Around}(he: ∀d f x y u v k,Den X.K α H d x->Den X.K α H f y->RelV x u->RelV y v->e d f=some k->SeqAt.EqAt A s u v k)
  {ds es:Xb} {vs us:List V} {its its2:Uk} {bs:Vh} (l1:DenL X.K α H ds vs) (l2:DenL X.K α H es us) (r1:Vals vs its) (r2:Vals us its2) (z:CT e ds es=some bs):
  ∀j (h1:j<its.toArray.size) (h2:j<its2.toArray.size),SeqAt.EqAt A s its.toArray[j] its2.toArray[j] (bs.getD j true):=by
 intro j h1 h2;have g1:j<vs.length:=by rw[r1.length];simpa using h1
 have g2:j<us.length:=by rw[r2.length];simpa using h2
 obtain⟨d,d1,d2⟩:=l1.get (gE g1);obtain⟨f,f1,f2⟩:=l2.get (gE g2);obtain⟨u,u1,u2⟩:=r1.get (gE g1);obtain⟨v,v1,v2⟩:=r2.get (gE g2);have e1:its.toArray[j]=u:=by have:its[j]? =some (its[j]'(by simpa using h1)):=gE _;rw[u1]at this;simpa using(Option.some.inj this).symm
 have e2:its2.toArray[j]=v:=by have:its2[j]? =some (its2[j]'(by simpa using h2)):=gE _;rw[v1]at this;simpa using(Option.some.inj this).symm
 rw[e1,e2];exact he d f _ _ u v _ d2 f2 u2 v2 (KA z d1 f1)
theorem KB(I:Inv X pins σ H s)(wd:Wd X.g α S H): ∀(n:Nat)(A:Around)(d f:MV)(x y:V)(u v:Value)(k:Bool),A.units+n<cLine->Den X.K α H d x->Den X.K α H f y->RelV x u->RelV y v->eqv S n d f=some k->SeqAt.EqAt A s u v k
 |0,_,_,_,_,_,_,_,_,_,_,_,_,_,h=>by cases h
 |n+1,A,d,f,x,y,u,v,k,hu,h1,h2,rx,ry,h=>by
  have hu0:A.units<cLine:=by omega
  have hsame:=h;unfold eqv at h
  cases za:JY S (.val d)with
  |none=>rw[za]at h;cases h
  |some p=>
   cases zb:JY S (.val f)with
   |none=>rw[za,zb]at h;cases h
   |some q=>
    rw[za,zb]at h;have h:Jv (eqv S n) p q=some k:=h;have he:=λd f x y u v k a b c d' e=>KB I wd n A.in1 d f x y u v k (show A.units+1+n<cLine by omega) a b c d' e
    cases p with
    |fl x'=>
     obtain⟨rfl,fx⟩:=qY za (α:=α) (H:=H) (X:=X) h1
     cases q with
     |fl y'=>obtain⟨rfl,fy⟩:=qY zb (α:=α) (H:=H) (X:=X) h2;cases h;exact YO rx ry fx fy
     |tp es=>
      obtain⟨b,us,rfl,s2,l2⟩:=qZ zb (α:=α) (H:=H) (X:=X) h2;cases ry;cases h;obtain⟨its,_,pt,_⟩:=I.tuple s2;exact Js rx fx pt hu0
     |ls es=>
      obtain⟨b,us,rfl,s2,l2⟩:=rA wd zb h2;cases ry;cases h;obtain⟨its,_,pl,_⟩:=I.list s2;exact Rm rx fx pl.isList hu0
    |tp ds=>
     obtain⟨a,vs,rfl,s1,l1⟩:=qZ za (α:=α) (H:=H) (X:=X) h1;cases rx;obtain⟨its,r1,pt,_⟩:=I.tuple s1
     cases q with
     |fl y'=>obtain⟨rfl,fy⟩:=qY zb (α:=α) (H:=H) (X:=X) h2;cases h;exact Jr ry fy pt hu0
     |tp es=>
      obtain⟨b,us,rfl,s2,l2⟩:=qZ zb (α:=α) (H:=H) (X:=X) h2;cases ry;by_cases hab:a=b
      .subst hab;rw[EC I wd (n+1) d f _ k h1 h2 hsame];exact SeqAt.EqAt.same _
      .obtain⟨its2,r2,pt2,_⟩:=I.tuple s2;rw[QS]at h
       cases z:CT (eqv S n) ds es with
       |none=>rw[z]at h;cases h
       |some bs=>
        rw[z]at h;cases h;have:=SeqAt.RcAt.tuples pt pt2 hu0 (vD he l1 l2 r1 r2 z);have hl:=sY z;rw[range_all (by rw[hl];simp[<-r1.length, <-r2.length,l1.length,l2.length])]at this;have e3:(its.toArray.size==its2.toArray.size)=(ds.length==es.length):=by simp[<-r1.length, <-r2.length,l1.length,l2.length]
        rw[e3]at this;exact SeqAt.EqAt.of_refs hab this
     |ls es=>
      obtain⟨b,us,rfl,s2,l2⟩:=rA wd zb h2;cases ry;cases h;obtain⟨its2,_,pl,_⟩:=I.list s2;exact SeqAt.EqAt.tuple_list pt pl.isList hu0
    |ls ds=>
     obtain⟨a,vs,rfl,s1,l1⟩:=rA wd za h1;cases rx;obtain⟨its,r1,pl,_⟩:=I.list s1
     cases q with
     |fl y'=>obtain⟨rfl,fy⟩:=qY zb (α:=α) (H:=H) (X:=X) h2;cases h;exact Rl ry fy pl.isList hu0
     |tp es=>
      obtain⟨b,us,rfl,s2,l2⟩:=qZ zb (α:=α) (H:=H) (X:=X) h2;cases ry;cases h;obtain⟨its2,_,pt,_⟩:=I.tuple s2;exact SeqAt.EqAt.list_tuple pl.isList pt hu0
     |ls es=>
      obtain⟨b,us,rfl,s2,l2⟩:=rA wd zb h2;cases ry;by_cases hab:a=b
      .subst hab;rw[EC I wd (n+1) d f _ k h1 h2 hsame];exact SeqAt.EqAt.same _
      .obtain⟨its2,r2,pl2,_⟩:=I.list s2;rw[JZ]at h;by_cases hl:ds.length=es.length
       .rw[iP hl]at h
        cases z:CT (eqv S n) ds es with
        |none=>rw[z]at h;cases h
        |some bs=>
         rw[z]at h;cases h;have hs:its.toArray.size=its2.toArray.size:=by simp[<-r1.length, <-r2.length,l1.length,l2.length,hl]
         have:=SeqAt.RcAt.lists pl.isList pl2.isList hs hu0 (vD he l1 l2 r1 r2 z);have hl':=sY z;rw[range_all (by rw[hl'];simp[<-r1.length,l1.length,hl])]at this;exact SeqAt.EqAt.of_refs hab this
       .rw[iN hl]at h;cases h;exact SeqAt.EqAt.of_refs hab (SeqAt.RcAt.lists_lengths pl.isList pl2.isList (by simpa [<-r1.length, <-r2.length,l1.length,l2.length]using hl) hu0)
def Jw{RC:Around->Shared->Value->Value->Bool->Prop}{tr:Bool->Bool}{A:Around}
  (hff: ∀x y u v,RelV x u->RelV y v->wV x=true->wV y=true->RC A s u v (tr (Ff x y)))
  (hfl: ∀x v l items,RelV x v->wV x=true->s.heap.IsList l items->A.units<cLine->RC A s v (.ref l) (tr false)/\RC A s (.ref l) v (tr false))
  (hft: ∀x v l items,RelV x v->wV x=true->s.heap.IsTuple l items->A.units<cLine->RC A s v (.ref l) (tr false)/\RC A s (.ref l) v (tr false))
  (hlt: ∀l b items items2,s.heap.IsList l items->s.heap.IsTuple b items2->A.units<cLine->RC A s (.ref l) (.ref b) (tr false)/\RC A s (.ref b) (.ref l) (tr false))
  (htt: ∀(l b:Addr)(items items2:Va)(e:Nat->Bool),s.heap.IsTuple l items->s.heap.IsTuple b items2->A.units<cLine->(∀j (h1:j<items.size) (h2:j<items2.size),SeqAt.EqAt A.in1 s items[j] items2[j] (e j))->RC A s (.ref l) (.ref b) (tr ((List.range (min items.size items2.size)).all e&&items.size==items2.size)))
  (hll: ∀(l b:Addr)(items items2:Va)(e:Nat->Bool),s.heap.IsList l items->s.heap.IsList b items2->items.size=items2.size->A.units<cLine->(∀j (h1:j<items.size) (h2:j<items2.size),SeqAt.EqAt A.in1 s items[j] items2[j] (e j))->RC A s (.ref l) (.ref b) (tr ((List.range items.size).all e)))
  (hln: ∀(l b:Addr)(items items2:Va),s.heap.IsList l items->s.heap.IsList b items2->(items.size !=items2.size)=true->A.units<cLine->RC A s (.ref l) (.ref b) (tr false))
  (I:Inv X pins σ H s) (wd:Wd X.g α S H) (n:Nat) {a b:Er} {x y:V} {u v:Value} {k:Bool} (hu:A.units+(n+1)<cLine) (h1:DenX X.K α H a x) (h2:DenX X.K α H b y) (rx:RelV x u) (ry:RelV y v) (h:EB S n a b=some k):RC A s u v (tr k):=by
 have hu0:A.units<cLine:=by omega
 unfold EB at h
 cases za:JY S a with
 |none=>rw[za]at h;cases h
 |some p=>
  cases zb:JY S b with
  |none=>rw[za,zb]at h;cases h
  |some q=>
   rw[za,zb]at h;have h:Jv (eqv S n) p q=some k:=h;have he:=λd f x y u v k a b c d' e=>KB I wd n A.in1 d f x y u v k (show A.units+1+n<cLine by omega) a b c d' e
   cases p with
   |fl x'=>
    obtain⟨rfl,fx⟩:=qY za h1
    cases q with
    |fl y'=>obtain⟨rfl,fy⟩:=qY zb h2;cases h;exact hff _ _ _ _ rx ry fx fy
    |tp es=>
     obtain⟨b,us,rfl,s2,l2⟩:=qZ zb h2;cases ry;cases h;obtain⟨its,_,pt,_⟩:=I.tuple s2;exact(hft _ _ _ _ rx fx pt hu0).1
    |ls es=>
     obtain⟨b,us,rfl,s2,l2⟩:=rA wd zb h2;cases ry;cases h;obtain⟨its,_,pl,_⟩:=I.list s2;exact(hfl _ _ _ _ rx fx pl.isList hu0).1
   |tp ds=>
    obtain⟨a,vs,rfl,s1,l1⟩:=qZ za h1;cases rx;obtain⟨its,r1,pt,_⟩:=I.tuple s1
    cases q with
    |fl y'=>obtain⟨rfl,fy⟩:=qY zb h2;cases h;exact(hft _ _ _ _ ry fy pt hu0).2
    |tp es=>
     obtain⟨b,us,rfl,s2,l2⟩:=qZ zb h2;cases ry;obtain⟨its2,r2,pt2,_⟩:=I.tuple s2;rw[QS]at h
     cases z:CT (eqv S n) ds es with
     |none=>rw[z]at h;cases h
     |some bs=>
      rw[z]at h;cases h;have:=htt _ _ _ _ _ pt pt2 hu0 (vD he l1 l2 r1 r2 z);have hl:=sY z;rw[range_all (by rw[hl];simp[<-r1.length, <-r2.length,l1.length,l2.length])]at this;have e3:(its.toArray.size==its2.toArray.size)=(ds.length==es.length):=by simp[<-r1.length, <-r2.length,l1.length,l2.length]
      rw[e3]at this;exact this
    |ls es=>
     obtain⟨b,us,rfl,s2,l2⟩:=rA wd zb h2;cases ry;cases h;obtain⟨its2,_,pl,_⟩:=I.list s2;exact(hlt _ _ _ _ pl.isList pt hu0).2
   |ls ds=>
    obtain⟨a,vs,rfl,s1,l1⟩:=rA wd za h1;cases rx;obtain⟨its,r1,pl,_⟩:=I.list s1
    cases q with
    |fl y'=>obtain⟨rfl,fy⟩:=qY zb h2;cases h;exact(hfl _ _ _ _ ry fy pl.isList hu0).2
    |tp es=>
     obtain⟨b,us,rfl,s2,l2⟩:=qZ zb h2;cases ry;cases h;obtain⟨its2,_,pt,_⟩:=I.tuple s2;exact(hlt _ _ _ _ pl.isList pt hu0).1
    |ls es=>
     obtain⟨b,us,rfl,s2,l2⟩:=rA wd zb h2;cases ry;obtain⟨its2,r2,pl2,_⟩:=I.list s2;rw[JZ]at h;by_cases hl:ds.length=es.length
     .rw[iP hl]at h
      cases z:CT (eqv S n) ds es with
      |none=>rw[z]at h;cases h
      |some bs=>
       rw[z]at h;cases h;have hs:its.toArray.size=its2.toArray.size:=by simp[<-r1.length, <-r2.length,l1.length,l2.length,hl]
       have:=hll _ _ _ _ _ pl.isList pl2.isList hs hu0 (vD he l1 l2 r1 r2 z);have hl':=sY z;rw[range_all (by rw[hl'];simp[<-r1.length,l1.length,hl])]at this;exact this
     .rw[iN hl]at h;cases h;exact hln _ _ _ _ pl.isList pl2.isList (by simpa [<-r1.length, <-r2.length,l1.length,l2.length]using hl) hu0
def Mx(I:Inv X pins σ H s)(wd:Wd X.g α S H)(n:Nat){A:Around}{a b:Er}{x y:V}{u v:Value}{k:Bool}(hu:A.units+(n+1)<cLine)(h1:DenX X.K α H a x)(h2:DenX X.K α H b y)(rx:RelV x u)(ry:RelV y v)(h:EB S n a b=some k):SeqAt.RcAt A s u v k:=
 Jw (RC:=SeqAt.RcAt) (tr:=id) (λ_ _ _ _ a b c d=>Mj a b c d) (λ_ _ _ _ a b c d=>⟨Ro a b c d,Rn a b c d⟩) (λ_ _ _ _ a b c d=>⟨Rq a b c d,Rp a b c d⟩)
  (λ_ _ _ _ a b c=>⟨SeqAt.RcAt.list_tuple a b c,SeqAt.RcAt.tuple_list b a c⟩) (λ_ _ _ _ _ a b c d=>SeqAt.RcAt.tuples a b c d) (λ_ _ _ _ _ a b c d e=>SeqAt.RcAt.lists a b c d e) (λ_ _ _ _ a b c d=>SeqAt.RcAt.lists_lengths a b c d)
  I wd n hu h1 h2 rx ry h
def Mz(I:Inv X pins σ H s)(wd:Wd X.g α S H)(n:Nat){A:Around}{a b:Er}{x y:V}{u v:Value}{k:Bool}(hu:A.units+(n+1)<cLine)(h1:DenX X.K α H a x)(h2:DenX X.K α H b y)(rx:RelV x u)(ry:RelV y v)(h:EB S n a b=some k):SeqAt.RcNeAt A s u v (!k):=
 Jw (RC:=SeqAt.RcNeAt) (tr:=λb=>!b) (λ_ _ _ _ a b c d=>Ml a b c d) (λ_ _ _ _ a b c d=>⟨Rt a b c d,Rr a b c d⟩) (λ_ _ _ _ a b c d=>⟨Rv a b c d,Ru a b c d⟩)
  (λ_ _ _ _ a b c=>⟨SeqAt.RcNeAt.list_tuple a b c,SeqAt.RcNeAt.tuple_list b a c⟩) (λ_ _ _ _ _ a b c d=>SeqAt.RcNeAt.tuples a b c d) (λ_ _ _ _ _ a b c d e=>SeqAt.RcNeAt.lists a b c d e) (λ_ _ _ _ a b c d=>SeqAt.RcNeAt.lists_lengths a b c d)
  I wd n hu h1 h2 rx ry h
theorem SZ{α β:Type}: ∀{a c:List α}{b d:List β},a.length=b.length->c.length=d.length->a.zip b=c.zip d->a=c/\b=d
 |[],[],[],[],_,_,_=>⟨rfl,rfl⟩
 |[],_::_,[],_::_,_,_,e=>by simp at e
 |_::_,[],_::_,[],_,_,e=>by simp at e
 |x::a,y::c,z::b,w::d,h1,h2,e=>by simp only[zip_cons_cons,List.cons.injEq,Prod.mk.injEq]at e;obtain⟨rfl,rfl⟩:=SZ (by simpa using h1) (by simpa using h2) e.2;exact⟨by rw[e.1.1],by rw[e.1.2]⟩
mutual
theorem Den.inj(I:Inv X pins σ H s)(wd:Wd X.g α S H): ∀{d f:MV}{v:V},Den X.K α H d v->Den X.K α H f v->d=f
 |.non,f,v,h,h'=>by cases eU h;cases f<;>first |rfl|(have:=qX h';cases this;done)|(have:=jP h';cases this;done)|(have:=jQ h';cases this;done)|(have:=eV h';cases this;done)|(obtain⟨_,_,e,_⟩:=jR h';cases e;done)|(obtain⟨_,_,e,_⟩:=dZ h';cases e;done)|(obtain⟨_,e,_⟩:=cO h';cases e;done)|(obtain⟨_,_,_,_,_,e,_⟩:=dY h';cases e;done)
 |.bl b,f,v,h,h'=>by cases qX h;cases f<;>first |(have:=qX h';cases this;rfl;done)|(have:=eU h';cases this;done)|(have:=jP h';cases this;done)|(have:=jQ h';cases this;done)|(have:=eV h';cases this;done)|(obtain⟨_,_,e,_⟩:=jR h';cases e;done)|(obtain⟨_,_,e,_⟩:=dZ h';cases e;done)|(obtain⟨_,e,_⟩:=cO h';cases e;done)|(obtain⟨_,_,_,_,_,e,_⟩:=dY h';cases e;done)
 |.int b,f,v,h,h'=>by cases jP h;cases f<;>first |(have:=jP h';cases this;rfl;done)|(have:=eU h';cases this;done)|(have:=qX h';cases this;done)|(have:=jQ h';cases this;done)|(have:=eV h';cases this;done)|(obtain⟨_,_,e,_⟩:=jR h';cases e;done)|(obtain⟨_,_,e,_⟩:=dZ h';cases e;done)|(obtain⟨_,e,_⟩:=cO h';cases e;done)|(obtain⟨_,_,_,_,_,e,_⟩:=dY h';cases e;done)
 |.str b,f,v,h,h'=>by cases jQ h;cases f<;>first |(have:=jQ h';rw[CP (V.str.inj this)];done)|(have:=eU h';cases this;done)|(have:=qX h';cases this;done)|(have:=jP h';cases this;done)|(have:=eV h';cases this;done)|(obtain⟨_,_,e,_⟩:=jR h';cases e;done)|(obtain⟨_,_,e,_⟩:=dZ h';cases e;done)|(obtain⟨_,e,_⟩:=cO h';cases e;done)|(obtain⟨_,_,_,_,_,e,_⟩:=dY h';cases e;done)
 |.typ b,f,v,h,h'=>by cases eV h;cases f<;>first |(have:=eV h';cases this;rfl;done)|(have:=eU h';cases this;done)|(have:=qX h';cases this;done)|(have:=jP h';cases this;done)|(have:=jQ h';cases this;done)|(obtain⟨_,_,e,_⟩:=jR h';cases e;done)|(obtain⟨_,_,e,_⟩:=dZ h';cases e;done)|(obtain⟨_,e,_⟩:=cO h';cases e;done)|(obtain⟨_,_,_,_,_,e,_⟩:=dY h';cases e;done)
 |.tup ds,f,v,h,h'=>by
  obtain⟨a,vs,rfl,s1,l1⟩:=jR h
  cases f with
  |tup es=>
   obtain⟨a2,us,e2,s2,l2⟩:=jR h';cases e2;cases I.tuple_inj s1 s2;rw[DenL.inj I wd l1 l2]
  |scr es=>obtain⟨a2,us,e2,s2,l2⟩:=dZ h';cases e2;exact(vC I s2.l s1).elim
  |loc l=>
   obtain⟨a2,e2,h2⟩:=cO h';cases e2;obtain⟨ho,k1,k2,k3⟩:=wd.mem (mem_of_getElem? h2);rcases s1 with(s1|⟨o,s1⟩)|⟨o,its,n,s1,_⟩
   .rw[k1]at s1;exact absurd (Option.some.inj s1) (k2 _)
   .rw[k1]at s1;exact(let ⟨_,z⟩:=k3 _ _ (Option.some.inj s1);by cases z)
   .have:=(I.bs a o (I.mod.kin a o s1)).2;rw[k1]at this;cases this
  |non=>cases eU h'
  |bl b=>cases qX h'
  |int b=>cases jP h'
  |str b=>cases jQ h'
  |typ b=>cases eV h'
  |obj c ns es=>
   obtain⟨a2,C,dx,us,o2,e2,h2,_⟩:=dY h';cases e2;rcases s1 with(s1|⟨o,s1⟩)|⟨o,its,n,s1,_⟩
   .rw[h2]at s1;cases s1
   .rw[h2]at s1;cases s1
   .have:=(I.bs a o (I.mod.kin a o s1)).2;rw[h2]at this;cases this
 |.scr ds,f,v,h,h'=>by
  obtain⟨a,vs,rfl,s1,l1⟩:=dZ h
  cases f with
  |scr es=>
   obtain⟨a2,us,e2,s2,l2⟩:=dZ h';cases e2;cases I.list_inj s1.l s2.l;rw[DenL.inj I wd l1 l2]
  |tup es=>obtain⟨a2,us,e2,s2,l2⟩:=jR h';cases e2;exact(vC I s1.l s2).elim
  |loc l=>
   obtain⟨a2,e2,h2⟩:=cO h';cases e2;obtain⟨ho,k1,k2,k3⟩:=wd.mem (mem_of_getElem? h2);rcases s1 with⟨o,s1⟩|⟨o,its,n,s1,_⟩
   .rw[k1]at s1;exact(let ⟨_,z⟩:=k3 _ _ (Option.some.inj s1);by cases z)
   .have:=(I.bs a o (I.mod.kin a o s1)).2;rw[k1]at this;cases this
  |non=>cases eU h'
  |bl b=>cases qX h'
  |int b=>cases jP h'
  |str b=>cases jQ h'
  |typ b=>cases eV h'
  |obj c ns es=>
   obtain⟨a2,C,dx,us,o2,e2,h2,_⟩:=dY h';cases e2;rcases s1 with⟨o,s1⟩|⟨o,its,n,s1,_⟩
   .rw[h2]at s1;cases s1
   .have:=(I.bs a o (I.mod.kin a o s1)).2;rw[h2]at this;cases this
 |.loc l,f,v,h,h'=>by
  obtain⟨a,rfl,h1⟩:=cO h;obtain⟨ho,k1,k2,k3⟩:=wd.mem (mem_of_getElem? h1)
  cases f with
  |loc m=>
   obtain⟨a2,e2,h2⟩:=cO h';cases e2;by_cases hlm:l=m
   .rw[hlm]
   .exact absurd rfl (wd.ne h1 h2 hlm)
  |tup es=>
   obtain⟨a2,us,e2,s1,l2⟩:=jR h';cases e2;rcases s1 with(s1|⟨o,s1⟩)|⟨o,its,n,s1,_⟩
   .rw[k1]at s1;exact absurd (Option.some.inj s1) (k2 _)
   .rw[k1]at s1;exact(let ⟨_,z⟩:=k3 _ _ (Option.some.inj s1);by cases z)
   .have:=(I.bs a o (I.mod.kin a o s1)).2;rw[k1]at this;cases this
  |scr es=>
   obtain⟨a2,us,e2,s1,l2⟩:=dZ h';cases e2;rcases s1 with⟨o,s1⟩|⟨o,its,n,s1,_⟩
   .rw[k1]at s1;exact(let ⟨_,z⟩:=k3 _ _ (Option.some.inj s1);by cases z)
   .have:=(I.bs a o (I.mod.kin a o s1)).2;rw[k1]at this;cases this
  |non=>cases eU h'
  |bl b=>cases qX h'
  |int b=>cases jP h'
  |str b=>cases jQ h'
  |typ b=>cases eV h'
  |obj c ns es=>
   obtain⟨a2,C,dx,us,o2,e2,h2,_⟩:=dY h';cases e2;rw[k1]at h2;exact(let ⟨_,z⟩:=k3 _ _ (Option.some.inj h2);by cases z)
 |.obj c ns ds,f,v,h,h'=>by
  obtain⟨a,C,dx,us,o2,rfl,h2,hn,hc,hl,l1⟩:=dY h
  cases f with
  |obj c' ns' es=>
   obtain⟨a2,C2,dx2,us2,o3,e2,h3,hn2,hc2,hl2,l2⟩:=dY h';cases e2;rw[h2]at h3;injection h3 with h3
   injection h3 with _ h3
   injection h3 with e1 e2 e3
   subst e1;rw[hc]at hc2;cases hc2;obtain⟨rfl,rfl⟩:=SZ hl hl2 e3;rw[DenL.inj I wd l1 l2]
  |tup es=>
   obtain⟨a2,us,e2,s1,l2⟩:=jR h';cases e2;rcases s1 with(s1|⟨o,s1⟩)|⟨o,its,n,s1,_⟩
   .rw[h2]at s1;cases s1
   .rw[h2]at s1;cases s1
   .have:=(I.bs a o (I.mod.kin a o s1)).2;rw[h2]at this;cases this
  |scr es=>
   obtain⟨a2,us,e2,s1,l2⟩:=dZ h';cases e2;rcases s1 with⟨o,s1⟩|⟨o,its,n,s1,_⟩
   .rw[h2]at s1;cases s1
   .have:=(I.bs a o (I.mod.kin a o s1)).2;rw[h2]at this;cases this
  |loc l=>
   obtain⟨a2,e2,h1⟩:=cO h';cases e2;obtain⟨ho,k1,k2,k3⟩:=wd.mem (mem_of_getElem? h1);rw[k1]at h2;exact(let ⟨_,z⟩:=k3 _ _ (Option.some.inj h2);by cases z)
  |non=>cases eU h'
  |bl b=>cases qX h'
  |int b=>cases jP h'
  |str b=>cases jQ h'
  |typ b=>cases eV h'
theorem DenL.inj(I:Inv X pins σ H s)(wd:Wd X.g α S H): ∀{ds fs:Xb}{vs:List V},DenL X.K α H ds vs->DenL X.K α H fs vs->ds=fs
 |[],fs,vs,h,h'=>by
  cases h.isnil
  cases fs with
  |nil=>rfl
  |cons f fs=>obtain⟨_,_,e,_⟩:=h'.uncons;cases e
 |d::ds,fs,vs,h,h'=>by
  obtain⟨v,r,rfl,a,l⟩:=h.uncons
  cases fs with
  |nil=>cases h'.isnil
  |cons f fs=>
   obtain⟨v',r',e,a',l'⟩:=h'.uncons;cases e;rw[Den.inj I wd a a',DenL.inj I wd l l']
end
end
inductive LexR(A:Around)(s:Shared):List Value->List Value->Bool->Prop
 |nn:LexR A s [] [] false
 |nc (x xs):LexR A s [] (x::xs) true
 |cn (y ys):LexR A s (y::ys) [] false
 |eq {y x ys xs k}:SeqAt.EqAt A s y x true->LexR A s ys xs k->LexR A s (y::ys) (x::xs) k
 |ne {y x ys xs k}:SeqAt.EqAt A s y x false->(∀(prog:Program)(w:World)(E Q:VP),Q (.bool k) s->wpAny (model prog w) A (richCompare .Lt y x) Q E s)->LexR A s (y::ys) (x::xs) k
section
open PySem.SeqAt
open PySem.AutoSeq1 (wpAny_loadPart')
open PySem.MeetsSeq PySem.MeetsSeq2 PySem.MeetsSeq3
def QT(l b:Addr)(its its2:Va)(n n2:Nat)(dd dd2:Option Addr)(sl sl2:Array (Option Value))(k:Bool):
  Meets (Builtin.«tuple.__lt__» ⟨[.ref l,.ref b],[]⟩)
   (λA R s=>s.heap.get? l=some {cls:=.type "tuple",dict:=dd,data:=.seq its n,slots:=sl}/\s.heap.get? b=some {cls:=.type "tuple",dict:=dd2,data:=.seq its2 n2,slots:=sl2}/\
    LexR A.in1 s its.toList its2.toList k/\R (.ok (.ret (.bool k))) s):=
 .of_wp λprog w A R s h=>by
  obtain⟨hp,g,d,tk,os⟩:=s;obtain⟨hl,hb,hx,h⟩:=h;have f2:=AutoSeq1.sub_tuple_tuple
  wp_walk using wpAny_loadPart' hl,wpAny_loadPart' hb,wpAny_forIn_list _ (λrest b s'=>b.1=none/\s'=⟨hp,g,d,tk,os⟩/\ ∃(vs ws:Uk),rest=vs.zip ws/\
   LexR A.in1 ⟨hp,g,d,tk,os⟩ vs ws k/\vs.length+its2.size=ws.length+its.size) _
  case turn=>
   rintro⟨y,x⟩ rest b s' ⟨hb',rfl,vs,ws,hz,hlx,hlen⟩
   cases hlx with
   |nn=>rw[List.zip_nil_left]at hz;cases hz
   |nc x xs=>rw[List.zip_nil_left]at hz;cases hz
   |cn y ys=>rw[List.zip_nil_right]at hz;cases hz
   |@eq y' x' ys xs k' he hr=>
    rw[zip_cons_cons]at hz;injection hz with hyx hrest
    injection hyx with hy hx
    subst hy hx;simp only[lC]at hlen;refine wB (he prog w _ _ ?_)
    wp_walk
    exact⟨rfl,rfl,_,_,hrest,hr,by omega⟩
   |@ne y' x' ys xs k' he hr=>
    rw[zip_cons_cons]at hz;injection hz with hyx hrest
    injection hyx with hy hx
    subst hy hx;refine wB (he prog w _ _ ?_);have hri:=hr prog w
    wp_walk using hri
    exact⟨_,rfl,by simpa using h⟩
  case fin=>
   rintro⟨b1,b2⟩ s' ⟨hb',rfl,vs,ws,hz,hlx,hlen⟩;simp only at hb';subst hb'
   have hv:k=decide (its.size<its2.size):=by
    cases hlx with
    |nn=>simp only[List.length_nil]at hlen;exact(dF0 (by omega)).symm
    |nc x xs=>simp only[List.length_nil,lC]at hlen;exact(dT0 (by omega)).symm
    |cn y ys=>simp only[List.length_nil,lC]at hlen;exact(dF0 (by omega)).symm
    |eq he hr=>rw[zip_cons_cons]at hz;cases hz
    |ne he hr=>rw[zip_cons_cons]at hz;cases hz
   rw[hv]at h
   wp_walk
   exact⟨_,rfl,by simpa [Builtin.Tuple.tupleCompareSizes]using h⟩
  case h=>
   exact⟨rfl,rfl,its.toList,its2.toList,rfl,hx,by simp;omega⟩
end
def ZO{A:Around}{s:Shared}{l b:Addr}{its its2:Va}{k:Bool}(hl:IsTup s.heap l its)(hb:IsTup s.heap b its2)(hx:LexR A.in1 s its.toList its2.toList k)(hu:A.units<cLine)(prog:Program)(w:World)(E Q:VP)(h:Q (.bool k) s):
  wpAny (model prog w) A (richCompare .Lt (.ref l) (.ref b)) Q E s:=by
 obtain⟨⟨cls,dd,data,sl⟩,ho,hc,n,hd⟩:=id hl;obtain⟨⟨cls2,dd2,data2,sl2⟩,ho2,hc2,n2,hd2⟩:=id hb;simp only at hc hd hc2 hd2;subst hc hd hc2 hd2
 exact richCompare_meets_room (op:=.Lt) ⟨_,ho,rfl⟩ ⟨_,ho2,rfl⟩ PySem.F.slot_tuple_lt PySem.F.entry_tuple_lt (PySem.F.args_tuple_lt_2 _ _) (QT l b its its2 n n2 dd dd2 sl sl2 k)
  ⟨ho,ho2,hx,show Value.bool k≠Value.notImplemented/\Q (.bool k) s from⟨(λx=>nomatch x),h⟩⟩ hu
def ZP(e l:MV->MV->Option Bool):List MV->List MV->Option Bool
 |[],[]=>some false
 |[],_::_=>some true
 |_::_,[]=>some false
 |d::ds,f::fs=>(e d f).bind λk=>if k=true then ZP e l ds fs else l d f
def Px(S:Sto):Nat->MV->MV->Option Bool
 |0,_,_=>none
 |n+1,.int i,.int j=>some (decide (i<j))
 |n+1,.str x,.str y=>some (decide (x<y))
 |n+1,.tup ds,.tup es=>ZP (eqv S n) (Px S n) ds es
 |_,_,_=>none
section
variable{X:Cx}{α:Vb}{S:Sto}{H:Hp}{pins:Vg}{σ:St}{s:Shared}
theorem Jx{A:Around}{e l:MV->MV->Option Bool}(he: ∀d f x y u v k,Den X.K α H d x->Den X.K α H f y->RelV x u->RelV y v->e d f=some k->SeqAt.EqAt A s u v k)
  (hl: ∀d f x y u v k,Den X.K α H d x->Den X.K α H f y->RelV x u->RelV y v->l d f=some k-> ∀(prog:Program)(w:World)(E Q:VP),Q (.bool k) s->wpAny (model prog w) A (richCompare .Lt u v) Q E s):
  ∀{ds fs:Xb}{vs us:List V}{its its2:Uk}{k:Bool},DenL X.K α H ds vs->DenL X.K α H fs us->Vals vs its->Vals us its2->ZP e l ds fs=some k->LexR A s its its2 k
 |[],[],_,_,_,_,k,l1,l2,r1,r2,h=>by cases l1.isnil;cases l2.isnil;cases r1;cases r2;cases h;exact .nn
 |[],f::fs,_,_,_,_,k,l1,l2,r1,r2,h=>by
  cases l1.isnil;obtain⟨v,r,rfl,a,l⟩:=l2.uncons;cases r1
  cases r2 with
  |cons a b=>cases h;exact .nc _ _
 |d::ds,[],_,_,_,_,k,l1,l2,r1,r2,h=>by
  cases l2.isnil;obtain⟨v,r,rfl,a,l⟩:=l1.uncons;cases r2
  cases r1 with
  |cons a b=>cases h;exact .cn _ _
 |d::ds,f::fs,_,_,_,_,k,l1,l2,r1,r2,h=>by
  obtain⟨v,r,rfl,a,l1'⟩:=l1.uncons;obtain⟨v2,r3,rfl,a2,l2'⟩:=l2.uncons
  cases r1 with
  |cons b1 c1=>
   cases r2 with
   |cons b2 c2=>
    unfold ZP at h
    cases z:e d f with
    |none=>rw[z]at h;cases h
    |some kk=>
     rw[z]at h;have h:(if kk=true then ZP e l ds fs else l d f)=some k:=h
     cases kk with
     |true=>
      rw[iP rfl]at h;exact .eq (he d f _ _ _ _ _ a a2 b1 b2 z) (Jx he hl l1' l2' c1 c2 h)
     |false=>
      rw[iN xF0]at h;exact .ne (he d f _ _ _ _ _ a a2 b1 b2 z) (hl d f _ _ _ _ _ a a2 b1 b2 h)
theorem ZQ(I:Inv X pins σ H s)(wd:Wd X.g α S H): ∀(n:Nat)(A:Around)(d f:MV)(x y:V)(u v:Value)(k:Bool),A.units+n<cLine->Den X.K α H d x->Den X.K α H f y->RelV x u->RelV y v->Px S n d f=some k->
  ∀(prog:Program)(w:World)(E Q:VP),Q (.bool k) s->wpAny (model prog w) A (richCompare .Lt u v) Q E s
 |0,_,_,_,_,_,_,_,_,_,_,_,_,_,h=>by cases h
 |n+1,A,d,f,x,y,u,v,k,hu,h1,h2,rx,ry,h=>by
  intro prog w E Q hq;unfold Px at h;split at h
  .cases h
  .cases h;cases jP h1;cases jP h2;obtain⟨t,rfl⟩:=rx;obtain⟨t',rfl⟩:=ry;exact(PyProof.Rows.lt_int hq:wpAny (model prog w) A (compareOp .Lt _ _) Q E s)
  .cases h;cases jQ h1;cases jQ h2;obtain⟨t,rfl⟩:=rx;obtain⟨t',rfl⟩:=ry;refine(PySem.P.lt_str ?_:wpAny (model prog w) A (compareOp .Lt _ _) Q E s);rw[uY,uY];exact hq
  .rename_i n' ds es hn;obtain⟨a,vs,rfl,s1,l1⟩:=jR h1;obtain⟨b,us,rfl,s2,l2⟩:=jR h2;cases rx;cases ry;obtain⟨its,r1,pt,_⟩:=I.tuple s1;obtain⟨its2,r2,pt2,_⟩:=I.tuple s2;cases hn;refine ZO pt pt2 ?_ (by omega) prog w E Q hq
   exact Jx (λd f x y u v k a b c d' e=>KB I wd n A.in1 d f x y u v k (show A.units+1+n<cLine by omega) a b c d' e)
    (λd f x y u v k a b c d' e=>ZQ I wd n A.in1 d f x y u v k (show A.units+1+n<cLine by omega) a b c d' e) l1 l2 r1 r2 h
  .cases h
end
section
variable{X:Cx}{W:XW}{a b c e:Expr}{es:Vj}{f g h:AX}{pos:Pos}
def Jy(C:Int->Int->Prop)[∀i j,Decidable (C i j)](g:Int->Int->Int):Er->Er->Sto->R Er
 |.val (.int i),.val (.int j),S=>if C i j then .ok (.val (.int (g i j))) S else .no
 |_,_,_=>.no
def Ue(g:Int->Int->Bool):Er->Er->Sto->R Er
 |.val (.int i),.val (.int j),S=>.ok (.val (.bl (g i j))) S
 |_,_,_=>.no
def QU{C C':Int->Int->Prop}[∀i j,Decidable (C i j)]{g:Int->Int->Int}(h: ∀i j,C i j->C' i j):MM X W (rI C' λi j=>.int (g i j)) (Jy C g):=by
 intro p q x y α S H Q wd dp dq post;unfold Jy at post;split at post
 .split at post
  .rename_i hc;exact⟨_,_,xU dp,xU dq,h _ _ hc,Post.val post wd (kQ _)⟩
  .exact post.elim
 .exact post.elim
def Gf{g:Int->Int->Int}:MM X W (Lo λi j=>.int (g i j)) (Jy (λ_ _=>True) g):=by
 intro p q x y α S H Q wd dp dq post;unfold Jy at post;split at post
 .rw[iP trivial]at post;exact⟨_,_,xU dp,xU dq,Post.val post wd (kQ _)⟩
 .exact post.elim
def ZR{g:Int->Int->Bool}:MM X W (Lo λi j=>.bl (g i j)) (Ue g):=by
 intro p q x y α S H Q wd dp dq post;unfold Ue at post;split at post
 .exact⟨_,_,xU dp,xU dq,Post.val post wd (bH _)⟩
 .exact post.elim
abbrev AR:=Jy (λ_ _=>True) λi j=>i - j
def uE(ha:yP X W a f)(hb:yP X W b g):yP X W (.BinOp a .Sub b pos) (λρ S=>(f ρ S).bind λp S1=>(g ρ S1).bind λq S2=>AR p q S2):=IA Lr Gf ha hb
def QV(_ j:Int):Prop:=0<j/\j.natAbs.log2<9000
instance(i j:Int):Decidable (QV i j):=inferInstanceAs (Decidable (_/\_))
abbrev gI:=Jy QV λi j=>i / j
def ZS:OpR X (binaryOp .FloorDiv) (rI QV λi j=>.int (i / j)):=Ua λi j _ _ _ _ _ hc q=>by have e:i.fdiv j=i / j:=Int.fdiv_eq_ediv_of_nonneg i (Int.le_of_lt hc.1);refine floordiv_int (by have:=hc.1;omega) ?_ (.inl (PyProof.noPylong_of_log2 hc.2));rw[e];exact q
def xV(ha:yP X W a f)(hb:yP X W b g):yP X W (.BinOp a .FloorDiv b pos) (λρ S=>(f ρ S).bind λp S1=>(g ρ S1).bind λq S2=>gI p q S2):=IA ZS (QU λi j h=>h) ha hb
abbrev xW:=Jy (λ_ j=>0<j) λi j=>i % j
def zU(ha:yP X W a f)(hb:yP X W b g):yP X W (.BinOp a .Mod b pos) (λρ S=>(f ρ S).bind λp S1=>(g ρ S1).bind λq S2=>xW p q S2):=IA Ls (QU λi j h=>h) ha hb
def WI(i j:Int):Prop:=0<=j/\(Builtin.Int.intBits i:Int) * j<=2 ^ 27
instance(i j:Int):Decidable (WI i j):=inferInstanceAs (Decidable (_/\_))
abbrev CI:=Jy WI λi j=>i ^ j.toNat
def Gg:OpR X (binaryOp .Pow) (rI WI λi j=>.int (i ^ j.toNat)):=Ua λ_ _ _ _ _ _ _ hc q=>pow_int hc.1 hc.2 q
def ED(ha:yP X W a f)(hb:yP X W b g):yP X W (.BinOp a .Pow b pos) (λρ S=>(f ρ S).bind λp S1=>(g ρ S1).bind λq S2=>CI p q S2):=IA Gg (QU λi j h=>h) ha hb
def shlC(i j:Int):Prop:=0<=j/\j<=1000000/\i.natAbs<2 ^ 64
instance(i j:Int):Decidable (shlC i j):=inferInstanceAs (Decidable (_/\_/\_))
def usubF:Er->Sto->R Er
 |.val (.int i),S=>.ok (.val (.int (-i))) S
 |_,_=>.no
def XT(S:Sto):Er->Option (List MV)
 |.new ds=>some ds
 |.val (.loc l)=>match S[l]? with
  |some (.lst ds)=>some ds
  |_=>none
 |_=>none
def QW{α:Vb}{S:Sto}{H:Hp}(wd:Wd X.g α S H){r:Er}{ds:Xb}{x:V}(e:XT S r=some ds)(d:DenX X.K α H r x): ∃a vs,x=.ref a/\H a=some (.lst vs)/\DenL X.K α H ds vs:=by
 unfold XT at e;split at e
 .cases e;obtain⟨b,vs,rfl,h,_,l⟩:=d;exact⟨b,vs,rfl,h,l⟩
 .rename_i n;obtain⟨a,rfl,h⟩:=eX d;split at e
  .rename_i es hS;cases e;obtain⟨vs,h1,l⟩:=wd.obj n a _ h hS;exact⟨a,vs,rfl,h1,l⟩
  .cases e
 .cases e
def TC(p q:Er)(S:Sto):R Er:=match XT S p,XT S q with
 |some x,some y=>if x.length+y.length<=sizeLine then .ok (.new (x++y)) S else .no
 |_,_=>.no
def wH:Er->Er->Sto->R Er
 |.val (.int i),.val (.int j),S=>.ok (.val (.int (i+j))) S
 |.val (.str x),.val (.str y),S=>if x.length+y.length<=sizeLine then .ok (.val (.str (x++y))) S else .no
 |.val (.tup x),.val (.tup y),S=>if x.length+y.length<=sizeLine then .ok (.val (.tup (x++y))) S else .no
 |p,q,S=>TC p q S
def ZT:OpR X (binaryOp .Add) (λx y H Q=> ∃a b ys,x=.ref a/\y=.ref b/\SqT X.K H a []/\SqT X.K H b ys/\Q (.ref b) H):=by
 intro pins s σ H x y v u Q I rx ry h;obtain⟨a,b,ys,rfl,rfl,ha,hb,q⟩:=h;cases rx;cases ry;obtain⟨its,r1,p1,_⟩:=I.tuple ha;obtain⟨its2,r2,p2,_⟩:=I.tuple hb;have e0:its=[]:=r1.nil_iff.mpr rfl;subst e0;obtain⟨⟨cls,dd,data,sl⟩,ho,hc,n,hd⟩:=id p1;obtain⟨⟨cls2,dd2,data2,sl2⟩,ho2,hc2,n2,hd2⟩:=id p2;simp only at hc hd hc2 hd2;subst hc hd hc2 hd2
 exact concat_meets ⟨_,ho,rfl⟩ ⟨_,ho2,rfl⟩ noFill_tuple_add seq_tuple_add PySem.F.slot_tuple_add PySem.F.entry_tuple_add (PySem.F.args_tuple_add_2 _ _)
  (tuple_addW0 a b _ _ n n2 dd dd2 sl sl2 rfl) ⟨ho,ho2,⟨.ref b,H,I,rfl,q⟩⟩
def yV(ha:yP X W a f)(hb:yP X W b g):yP X W (.BinOp a .Add b pos) (λρ S=>(f ρ S).bind λp S1=>(g ρ S1).bind λq S2=>wH p q S2):=by
 refine IA (Lq.or (QB.or (Me.or (Fa.or ZT)))) ?_ ha hb;intro p q x y α S H Q wd dp dq post;unfold wH at post;split at post
 .exact .inl ⟨_,_,xU dp,xU dq,Post.val post wd (kQ _)⟩
 .split at post
  .rename_i hz;refine .inr (.inl ⟨_,_,cP dp,cP dq,by rw[gW,gW];exact hz,?_⟩);rw[Fm];exact Post.val post wd (mP _)
  .exact post.elim
 .split at post
  .rename_i xx yy hz;obtain⟨a1,vs,rfl,s1,l1⟩:=eW dp;obtain⟨a2,us,rfl,s2,l2⟩:=eW dq;by_cases h0:vs=[]
   .subst h0;have e0:=l1.length;refine .inr (.inr (.inr (.inr ⟨a1,a2,us,rfl,rfl,s1,s2,?_⟩)));have:xx=[]:=by cases xx with |nil=>rfl|cons _ _=>simp at e0
    subst this;exact Post.val post wd (pW s2 l2)
   .refine .inr (.inr (.inr (.inl ⟨a1,a2,vs,us,rfl,rfl,s1,s2,h0,by rw[l1.length,l2.length];exact hz,λh1=>?_,λh1 p hp=>Post.newt post wd hp (l1.append l2)⟩)));subst h1;have e0:=l2.length;have:yy=[]:=by cases yy with |nil=>rfl|cons _ _=>simp at e0
    subst this;rw[aN]at post;exact Post.val post wd (pW s1 l1)
  .exact post.elim
 .unfold TC at post;split at post
  .rename_i ds1 ds2 e1 e2;split at post
   .rename_i hz;obtain⟨a1,vs,rfl,h1,l1⟩:=QW wd e1 dp;obtain⟨a2,us,rfl,h2,l2⟩:=QW wd e2 dq;exact .inr (.inr (.inl ⟨a1,a2,vs,us,rfl,rfl,h1,h2,by rw[l1.length,l2.length];exact hz,λp hp=>Post.newl post wd hp (l1.append l2)⟩))
   .exact post.elim
  .exact post.elim
def mulC(i j:Int):Prop:=(-(2 ^ 64)<i/\i<2 ^ 64)\/(-(2 ^ 64)<j/\j<2 ^ 64)\/(i.natAbs.log2<4000/\j.natAbs.log2<4000)
def TD{i:Int}(h:i.natAbs.log2<4000):Builtin.Int.intBits i<=2 ^ 20:=by
 have e:(2:Nat) ^ 20=1048576:=by decide
 unfold Builtin.Int.intBits;split<;>omega
def mulC.ok{i j:Int}(h:mulC i j):IntMulOk i j:=by
 rcases h with h|h|⟨h1,h2⟩
 .exact CMul.ok (.inl h)
 .exact CMul.ok (.inr h)
 .exact .of_bits (TD h1) (TD h2)
def Gh{X:Cx}:OpR X (binaryOp .Mult) (rI mulC λi j=>.int (i * j)):=Ua λ_ _ _ _ _ _ _ hc q=>mul_int q hc.ok
instance(i j:Int):Decidable (mulC i j):=inferInstanceAs (Decidable (_\/_\/_))
def Jz(p:Er)(k:Int)(S:Sto):R Er:=match XT S p with
 |some x=>if 0<=k/\k<100000/\x.length * k.toNat<=sizeLine then .ok (.new (List.replicate k.toNat x).flatten) S else .no
 |none=>.no
def iK:Er->Er->Sto->R Er
 |.val (.int i),.val (.int j),S=>if mulC i j then .ok (.val (.int (i * j))) S else .no
 |.val (.str x),.val (.int k),S=>if 0<=k/\k<1000/\x.length<=1000 then .ok (.val (.str (DR x k))) S else .no
 |p,.val (.int k),S=>Jz p k S
 |_,_,_=>.no
theorem DenL.rep{K:Vk}{α:Vb}{H:Hp}{ds:Xb}{vs:List V}(l:DenL K α H ds vs): ∀k:Nat,DenL K α H (List.replicate k ds).flatten (List.replicate k vs).flatten
 |0=>xG
 |k+1=>by rw[replicate_succ,flatten_cons,replicate_succ,flatten_cons];exact l.append (DenL.rep l k)
def cS(ha:yP X W a f)(hb:yP X W b g):yP X W (.BinOp a .Mult b pos) (λρ S=>(f ρ S).bind λp S1=>(g ρ S1).bind λq S2=>iK p q S2):=by
 refine IA (Gh.or (QN.or Mf)) ?_ ha hb;intro p q x y α S H Q wd dp dq post;unfold iK at post;split at post
 .split at post
  .rename_i hc;exact .inl ⟨_,_,xU dp,xU dq,hc,Post.val post wd (kQ _)⟩
  .exact post.elim
 .split at post
  .rename_i hc;exact .inr (.inl ⟨_,_,cP dp,xU dq,hc.1,hc.2.1,hc.2.2,Post.val post wd (mP _)⟩)
  .exact post.elim
 .unfold Jz at post;split at post
  .rename_i ds e1;split at post
   .rename_i hc;obtain⟨a1,vs,rfl,h1,l1⟩:=QW wd e1 dp;exact .inr (.inr ⟨a1,_,vs,rfl,xU dq,h1,by omega,by omega,by rw[l1.length];exact hc.2.2,λp hp=>Post.newl post wd hp (l1.rep _)⟩)
   .exact post.elim
  .exact post.elim
 .exact post.elim
def zV:Nat:=40
def fU(p q:Er)(S:Sto):R Er:=match EB S zV p q with
 |some k=>.ok (.val (.bl k)) S
 |none=>.no
def GM(p q:Er)(S:Sto):R Er:=match EB S zV p q with
 |some k=>.ok (.val (.bl !k)) S
 |none=>.no
def ZU(hu:X.A.units+64<cLine):OpR X (compareOp .Eq) (λx y H Q=> ∃α S p q k,Wd X.g α S H/\DenX X.K α H p x/\DenX X.K α H q y/\EB S zV p q=some k/\Q (.bl k) H):=by intro pins s σ H x y v u Q I rx ry h;obtain⟨α,S,p,q,k,wd,dp,dq,e,hq⟩:=h;exact Mx I wd zV (by unfold zV;omega) dp dq rx ry e X.prog X.w _ _ ⟨.bl k,H,I,rfl,hq⟩
def ZV(hu:X.A.units+64<cLine):OpR X (compareOp .NotEq) (λx y H Q=> ∃α S p q k,Wd X.g α S H/\DenX X.K α H p x/\DenX X.K α H q y/\EB S zV p q=some k/\Q (.bl (!k)) H):=by intro pins s σ H x y v u Q I rx ry h;obtain⟨α,S,p,q,k,wd,dp,dq,e,hq⟩:=h;exact Mz I wd zV (by unfold zV;omega) dp dq rx ry e X.prog X.w _ _ ⟨.bl (!k),H,I,rfl,hq⟩
def TF:MM X W (λx y H Q=> ∃α S p q k,Wd X.g α S H/\DenX X.K α H p x/\DenX X.K α H q y/\EB S zV p q=some k/\Q (.bl k) H) fU:=by
 intro p q x y α S H Q wd dp dq post;unfold fU at post;split at post
 .rename_i k e;exact⟨α,S,p,q,k,wd,dp,dq,e,Post.val post wd (bH _)⟩
 .exact post.elim
def TH:MM X W (λx y H Q=> ∃α S p q k,Wd X.g α S H/\DenX X.K α H p x/\DenX X.K α H q y/\EB S zV p q=some k/\Q (.bl (!k)) H) GM:=by
 intro p q x y α S H Q wd dp dq post;unfold GM at post;split at post
 .rename_i k e;exact⟨α,S,p,q,k,wd,dp,dq,e,Post.val post wd (bH _)⟩
 .exact post.elim
def IC(hu:X.A.units+64<cLine)(ha:yP X W a f)(hb:yP X W b g):yP X W (.Compare a [.Eq] [b] pos) (λρ S=>(f ρ S).bind λp S1=>(g ρ S1).bind λq S2=>fU p q S2):=QP (ZU hu) TF ha hb
def jW(hu:X.A.units+64<cLine)(ha:yP X W a f)(hb:yP X W b g):DY X W (.Compare a [.Eq] [b] pos) (λρ S=>((f ρ S).bind λp S1=>(g ρ S1).bind λq S2=>fU p q S2).bind gC):=oE (ZU hu) TF ha hb
def Sa(hu:X.A.units+64<cLine)(ha:yP X W a f)(hb:yP X W b g):yP X W (.Compare a [.NotEq] [b] pos) (λρ S=>(f ρ S).bind λp S1=>(g ρ S1).bind λq S2=>GM p q S2):=QP (ZV hu) TH ha hb
def EE(hu:X.A.units+64<cLine)(ha:yP X W a f)(hb:yP X W b g):DY X W (.Compare a [.NotEq] [b] pos) (λρ S=>((f ρ S).bind λp S1=>(g ρ S1).bind λq S2=>GM p q S2).bind gC):=oE (ZV hu) TH ha hb
def Na:Er->Er->Sto->R Er
 |.val d,.val f,S=>match Px S zV d f with
  |some k=>.ok (.val (.bl k)) S
  |none=>.no
 |_,_,_=>.no
def Nb(hu:X.A.units+64<cLine):OpR X (compareOp .Lt) (λx y H Q=> ∃α S d f k,Wd X.g α S H/\Den X.K α H d x/\Den X.K α H f y/\Px S zV d f=some k/\Q (.bl k) H):=by intro pins s σ H x y v u Q I rx ry h;obtain⟨α,S,d,f,k,wd,dp,dq,e,hq⟩:=h;exact ZQ I wd zV X.A d f x y v u k (by unfold zV;omega) dp dq rx ry e X.prog X.w _ _ ⟨.bl k,H,I,rfl,hq⟩
def Gi:MM X W (λx y H Q=> ∃α S d f k,Wd X.g α S H/\Den X.K α H d x/\Den X.K α H f y/\Px S zV d f=some k/\Q (.bl k) H) Na:=by
 intro p q x y α S H Q wd dp dq post;unfold Na at post;split at post
 .split at post
  .rename_i k e;exact⟨α,S,_,_,k,wd,dp,dq,e,Post.val post wd (bH _)⟩
  .exact post.elim
 .exact post.elim
def Ka(hu:X.A.units+64<cLine)(ha:yP X W a f)(hb:yP X W b g):DY X W (.Compare a [.Lt] [b] pos) (λρ S=>((f ρ S).bind λp S1=>(g ρ S1).bind λq S2=>Na p q S2).bind gC):=oE (Nb hu) Gi ha hb
abbrev Nc:=Ue λi j=>decide (j<i)
def Sb(ha:yP X W a f)(hb:yP X W b g):yP X W (.Compare a [.Gt] [b] pos) (λρ S=>(f ρ S).bind λp S1=>(g ρ S1).bind λq S2=>Nc p q S2):=QP Jq ZR ha hb
def Sd(ha:yP X W a f)(hb:yP X W b g):DY X W (.Compare a [.Gt] [b] pos) (λρ S=>((f ρ S).bind λp S1=>(g ρ S1).bind λq S2=>Nc p q S2).bind gC):=oE Jq ZR ha hb
def isNF:Er->Er->Sto->R Er
 |.val .non,.val .non,S=>.ok (.val (.bl true)) S
 |_,.val .non,S=>.ok (.val (.bl false)) S
 |_,_,_=>.no
def vE:Er->Er->Sto->R Er
 |.val .non,.val .non,S=>.ok (.val (.bl false)) S
 |_,.val .non,S=>.ok (.val (.bl true)) S
 |_,_,_=>.no
theorem ZW{α:Vb}{H:Hp}{p:Er}{x:V}(d:DenX X.K α H p x)(n:p≠.val .non):decide (x=.non)=false:=by
 cases p with
 |new ds=>obtain⟨b,vs,rfl,_⟩:=d;rfl
 |val m=>
  cases m with
  |non=>exact absurd rfl n
  |bl b=>cases vA d;rfl
  |int b=>cases xU d;rfl
  |str b=>cases cP d;rfl
  |typ b=>cases ZA d;rfl
  |obj b b' b''=>obtain⟨_,_,_,_,_,rfl,_⟩:=Mq d;rfl
  |tup b=>obtain⟨_,_,rfl,_⟩:=eW d;rfl
  |scr b=>obtain⟨_,_,rfl,_⟩:=DX d;rfl
  |loc b=>obtain⟨_,rfl,_⟩:=eX d;rfl
def ZX:MM X W (λx y H Q=>y=.non/\Q (.bl (!decide (x=.non))) H) vE:=by
 intro p q x y α S H Q wd dp dq post;unfold vE at post;split at post
 .cases uB dp;exact⟨uB dq,Post.val post wd (bH _)⟩
 .rename_i p' S' hn;rw[ZW dp (λz=>by first |exact hn z|exact hn z rfl|exact hn _ z|exact hn rfl z)];exact⟨uB dq,Post.val post wd (bH _)⟩
 .exact post.elim
def NP(ha:yP X W a f)(hb:yP X W b g):DY X W (.Compare a [.IsNot] [b] pos) (λρ S=>((f ρ S).bind λp S1=>(g ρ S1).bind λq S2=>vE p q S2).bind gC):=oE Ek ZX ha hb
def getL(ds:Xb):Er->Sto->R Er
 |.val (.int i),S=>match tM ds i with |some d=>.ok (.val d) S|none=>.no
 |_,_=>.no
def yX:Er->Er->Sto->R Er
 |.val (.str x),.val (.int i),S=>if x.length<=sizeLine then match tM x i with |some c=>.ok (.val (.str [c])) S|none=>.no else .no
 |.val (.tup ds),q,S=>getL ds q S
 |p,q,S=>match eA S p with |some ds=>getL ds q S|none=>.no
def Gj{K:Vk}{α:Vb}{H:Hp}{ds:Xb}{vs:List V}{i:Int}{d:MV}(l:DenL K α H ds vs)(e:tM ds i=some d): ∃v,tM vs i=some v/\Den K α H d v:=by
 unfold tM at e ⊢;rw[l.length]
 cases z:MW ds.length i with
 |none=>rw[z]at e;cases e
 |some j=>
  rw[z]at e;obtain⟨v,h1,h2⟩:=l.at (show ds[j]? =some d from e);exact⟨v,h1,h2⟩
def zN(ha:yP X W a f)(hb:yP X W b g)(hs:uV b:=by exact λ_ _=>rfl):yP X W (.Subscript a b pos) (λρ S=>(f ρ S).bind λp S1=>(g ρ S1).bind λq S2=>yX p q S2):=by
 refine ZC Mc ?_ ha hb hs;intro p q x y α S H Q wd dp dq post;have key: ∀{ds:Xb}{vs:List V}{i:Int}{d:MV},DenL X.K α H ds vs->tM ds i=some d->Post X.g W α H (.ok (Er.val d) S) Q-> ∃v,tM vs i=some v/\Q v H:=λl e post=>by obtain⟨v,h1,h2⟩:=Gj l e;exact⟨v,h1,Post.val post wd h2⟩
 unfold yX at post;split at post
 .split at post
  .rename_i hz;split at post
   .rename_i ch e;refine .inr (.inr ⟨_,_,ch,cP dp,xU dq,by rw[gW];exact hz,by rw[uY];exact e,?_⟩);exact Post.val post wd (mP [ch])
   .exact post.elim
  .exact post.elim
 .unfold getL at post;split at post
  .split at post
   .rename_i d e;obtain⟨a1,vs,rfl,s1,l1⟩:=eW dp;obtain⟨v,h1,h2⟩:=key l1 e post;exact .inr (.inl ⟨a1,vs,_,v,rfl,xU dq,s1,h1,h2⟩)
   .exact post.elim
  .exact post.elim
 .split at post
  .rename_i ds el;unfold getL at post;split at post
   .split at post
    .rename_i d e;obtain⟨a1,vs,rfl,s1,l1⟩:=BU rfl wd el dp;obtain⟨v,h1,h2⟩:=key l1 e post;exact .inl ⟨a1,vs,_,v,rfl,xU dq,s1,h1,h2⟩
    .exact post.elim
   .exact post.elim
  .exact post.elim
end
def GS{prog:Program}{w:World}{A:Around}{E:VP}{s:Shared}{t sl:Addr}{its:Va}{vl vu:Value}{lo hi:Vi}{Q:VP}(ht:IsTup s.heap t its)(hs:s.heap.IsSliceOf sl vl vu .none)(pl:IsPart vl lo)(pu:IsPart vu hi)
  (h0:HT.sIx its.size 0 lo=0) (h1:HT.sIx its.size its.size hi=its.size) (h:Q (.ref t) s):wpAny (model prog w) A (getItem (.ref t) (.ref sl)) Q E s:=by
 have hTs:s.TypeIs (.ref sl) "slice":=by obtain⟨os,hos,hcs,_⟩:=id hs;exact⟨os,hos,hcs⟩
 have hTt:=ht.typeIs;unfold getItem
 try with_reducible refine wpAny_holding ?_
 first |refine wB (wP ?_)|skip
 refine wB (wpAny_sequenceKey hTt (by decide) ?_);refine wB (wpAny_callSpecial?_slot (name:=Str.ofString "__getitem__") hTt PyProof.Rows.slot_tuple_getitem (wpAny_call_entry PyProof.Rows.slot_tuple_getitem hTt entry_tuple_getitem ?_ (args_tuple_getitem _ _)));show wpAny _ _ (Builtin.Tuple.tupleItemsOf (.ref t) >>= _) _ _ s;refine wB (tupleItemsOf_ ht (wB (wpAny_typeOf hTs ?_)));rw[iP (by decide)];refine wB (HT.sliceApplied_gen hs pl pu ?_);show wpAny _ _ (if(((HT.sIx its.size 0 lo:Nat):Int)==0&&(1:Int)==1&&(HT.sIx its.size its.size hi - HT.sIx its.size 0 lo)==its.size)=true then _ else _) _ _ s;rw[iP (by rw[h0,h1];simp)];unfold Builtin.Tuple.tupleIsExact;refine wB (wB (wpAny_typeOf hTt (wP ?_)));rw[iP (by decide)];refine wB (wpAny_rule ?_)
 first
  |exact wP ⟨_,rfl,wP h⟩
  |exact wB (wP (wP ⟨_,rfl,wP h⟩))
  |exact wB (wP ⟨_,rfl,wP h⟩)
section
variable{X:Cx}{W:XW}{a e:Expr}{f h:AX}{pos:Pos}
def Gk:SlR X (λx lo hi H Q=> ∃a xs,x=.ref a/\SqT X.K H a xs/\HT.sIx xs.length 0 lo=0/\HT.sIx xs.length xs.length hi=xs.length/\Q (.ref a) H):=by
 intro pins s σ H x v vl vu lo hi sl Q I rx hs pl pu h;obtain⟨a,xs,rfl,hx,h0,h1,q⟩:=h;cases rx;obtain⟨its,r,ht,hz⟩:=I.tuple hx;have hlen:its.toArray.size=xs.length:=by rw[sA];exact r.length.symm
 exact⟨"tuple",_,PyProof.Rows.slot_tuple_getitem.lookup,ht.typeIs,GS ht hs pl pu (by rw[hlen];exact h0) (by rw[hlen];exact h1) ⟨.ref a,H,I,rfl,q⟩⟩
def mL:Er->Option Int->Option Int->Sto->R Er
 |.val (.str x),lo,hi,S=>if x.length<=sizeLine then .ok (.val (.str (cN x lo hi))) S else .no
 |.val (.tup ds),lo,hi,S=>.ok (.val (.tup (cN ds lo hi))) S
 |p,lo,hi,S=>match eA S p with |some ds=>.ok (.new (cN ds lo hi)) S|none=>.no
def WJ{α:Type}{ds:List α}{lo hi:Vi}(h0:HT.sIx ds.length 0 lo=0)(h1:HT.sIx ds.length ds.length hi=ds.length):cN ds lo hi=ds:=by unfold cN;rw[h0,h1];simp
def nE{lo hi:Option Expr}{lf hf:Rho->Sto->R (Option Int)}{p2:Pos}(ha:yP X W a f)(hl:Jt X W lo lf)(hh:Jt X W hi hf):yP X W (.Subscript a (.Slice lo hi none p2) pos) (λρ S=>(f ρ S).bind λp S1=>(lf ρ S1).bind λl S2=>(hf ρ S2).bind λu S3=>mL p l u S3):=by
 refine ZJ (Mh.or (Fe.or (Mb.or Gk))) ?_ ha hl hh;intro p lo hi x α S H Q wd dp post;unfold mL at post;split at post
 .split at post
  .rename_i hz;exact .inl ⟨_,cP dp,hz,Post.val post wd (mP _)⟩
  .exact post.elim
 .rename_i _ _ _ ds;obtain⟨a1,vs,rfl,s1,l1⟩:=eW dp;by_cases hw:HT.sIx vs.length 0 lo=0/\HT.sIx vs.length vs.length hi=vs.length
  .have e:cN ds lo hi=ds:=WJ (by rw[<-l1.length];exact hw.1) (by rw[<-l1.length];exact hw.2);rw[e]at post;exact .inr (.inr (.inr ⟨a1,vs,rfl,s1,hw.1,hw.2,Post.val post wd (pW s1 l1)⟩))
  .exact .inr (.inr (.inl ⟨a1,vs,rfl,s1,hw,λp hp=>Post.newt post wd hp (l1.cut lo hi)⟩))
 .split at post
  .rename_i ds el;obtain⟨a1,vs,rfl,s1,l1⟩:=BU rfl wd el dp;exact .inr (.inl ⟨a1,vs,rfl,s1,λp hp=>Post.newl post wd hp (l1.cut lo hi)⟩)
  .exact post.elim
def oX{α:Type}(ds:List α)(lo hi st:Vi):List α:=(sliceRange (sliceBounds lo hi st ds.length).1 (sliceBounds lo hi st ds.length).2.1 (sliceBounds lo hi st ds.length).2.2).filterMap (ds[·]?)
theorem DenL.pick{K:Vk}{α:Vb}{H:Hp}{ds:Xb}{vs:List V}(l:DenL K α H ds vs): ∀idx:List Nat,DenL K α H (idx.filterMap (ds[·]?)) (idx.filterMap (vs[·]?))
 |[]=>xG
 |i::idx=>by
  cases z:ds[i]? with
  |none=>
   have z2:vs[i]? =none:=by rw[List.getElem?_eq_none_iff,l.length];exact List.getElem?_eq_none_iff.mp z
   rw[List.filterMap_cons_none z,List.filterMap_cons_none z2];exact DenL.pick l idx
  |some d=>
   obtain⟨v,h1,h2⟩:=l.at z;rw[List.filterMap_cons_some z,List.filterMap_cons_some h1];exact yZ h2 (DenL.pick l idx)
theorem Vals.pick{xs:List V}{us:Uk}(r:Vals xs us): ∀idx:List Nat,Vals (idx.filterMap (xs[·]?)) (idx.filterMap (us[·]?))
 |[]=>.nil
 |i::idx=>by
  cases z:xs[i]? with
  |none=>rw[List.filterMap_cons_none z,List.filterMap_cons_none (r.none_of z)];exact Vals.pick r idx
  |some d=>
   obtain⟨v,h1,h2⟩:=r.get z;rw[List.filterMap_cons_some z,List.filterMap_cons_some h1];exact .cons h2 (Vals.pick r idx)
def NQ(st:Int)(p:Er)(lo hi:Vi)(S:Sto):R Er:=match eA S p with
 |some ds=>if(oX ds lo hi (some st)).length<=sizeLine then .ok (.new (oX ds lo hi (some st))) S else .no
 |none=>.no
def Gn{st:Int}{lo hi:Option Expr}{lf hf:Rho->Sto->R (Option Int)}{p2:Pos}{ste:Expr}(h0:st≠0)(ha:yP X W a f)(hl:Jt X W lo lf)(hh:Jt X W hi hf)
  (hst: ∀pins s σ H (Q:VK),Inv X pins σ H s->Q (.int st) H->wpAny (model X.prog X.w) X.A (eval ste X.env) (EP X pins σ Q) X.xe s):
  yP X W (.Subscript a (.Slice lo hi (some ste) p2) pos) (λρ S=>(f ρ S).bind λp S1=>(lf ρ S1).bind λl S2=>(hf ρ S2).bind λu S3=>NQ st p l u S3):=by
 obtain⟨ta,ha,fa⟩:=ha;obtain⟨tl,hl,fl⟩:=hl;obtain⟨th,hh,fh⟩:=hh
 refine⟨λσ H Q=>ta σ H λx H1=>tl σ H1 λl H2=>th σ H2 λu H3=> ∃a xs,x=.ref a/\SqL X.K H3 a xs/\(oX xs l u (some st)).length<=sizeLine/\ ∀p,H3 p=none->Q (.ref p) (gD H3 p (.lst (oX xs l u (some st)))),?_,λα ρ S σ H Q wd sl q=>fa α ρ S σ H _ wd sl (q.bind λu p S1 α1 H1 e1 x1 w1 d1 q1=>fl α1 ρ S1 σ H1 _ w1 (sl.ext x1) ((q1.shift x1).bind λu2 l S2 α2 H2 e2 x2 w2 d2 q2=>
  fh α2 ρ S2 σ H2 _ w2 ((sl.ext x1).ext x2) ((q2.shift x2).bind λu3 m S3 α3 H3 e3 x3 w3 d3 q3=>?_)))⟩
 .intro pins s σ H Q I h;refine Subscript_ (jM (ha pins s σ H _ I h) λv s1 ⟨x,H1,I1,r1,q1⟩=>?_);refine wpAny_Slice (jM (hl pins s1 σ H1 _ I1 q1) λvl s2 ⟨l,H2,I2,pl,q2⟩=>jM (hh pins s2 σ H2 _ I2 q2) λvu s3 ⟨u,H3,I3,pu,q3⟩=>?_);rw[evalPart_some];refine jM (hst pins s3 σ H3 (λw' H'=>w'=.int st/\H'=H3) I3 ⟨rfl,rfl⟩) λvs s4 ⟨y,H4,I4,r4,ey,eH⟩=>?_;subst ey eH;obtain⟨t4,rfl⟩:=r4;obtain⟨a,xs,rfl,sq,hz2,q⟩:=q3;cases r1;have I5:Inv X pins σ H4 {s4 with heap:=s4.heap.push {cls:=.type "slice",data:=.fields #[vl,vu,.int st t4]}}:=I4.kept (t':=s4.toks) λb ob q=>hP0 _ q;obtain⟨its,r,ht,hz⟩:=I5.list sq;have hlen:=r.length;refine tail_any (ops:=[.ref a,.ref s4.heap.objs.size]) (T:="list") ht.isList.typeIs slot_list_getitem.lookup ?_ (by with_unfolding_all rfl);refine wpAny_getItem_list_slice ht.isList (Heap.IsSliceOf.new ..) pl pu (.int st t4) (by intro z;exact h0 (Option.some.inj z)) ?_ (by rw[sA];omega);have ep:slicePick its.toArray l u (some st)=(oX its l u (some st)).toArray:=by unfold slicePick oX;simp
  rw[ep];have el:xs.length=its.length:=hlen;refine⟨.ref _,_,I5.laid (t':=s4.toks) (o:=.lst (oX xs l u (some st))) (λb ob q=>hP0 _ q) (Nat.le_refl _) ?_,rfl,q _ (I5.hok.fresh (Nat.le_refl _))⟩;refine⟨hz2,_,0,?_,Heap.get?_push_size _ rfl⟩;unfold oX;rw[el];exact Vals.pick r _
 .cases d2;cases d3
  replace q3:=q3.shift x3
  unfold NQ at q3;split at q3
  .rename_i ds el;split at q3
   .rename_i hz;obtain⟨a1,vs,e5,s1,l1⟩:=BU rfl w3 el ((d1.1.ext x2).ext x3);have lp:DenL X.K α3 H3 (oX ds u2 u3 (some st)) (oX vs u2 u3 (some st)):=by unfold oX;rw[<-l1.length];exact l1.pick _
    exact⟨a1,vs,e5,s1,by rw[lp.length];exact hz,λp hp=>Post.newl q3 w3 hp lp⟩
   .exact q3.elim
  .exact q3.elim
def ZY{i:Int}{j:Nat}{p3:Pos}: ∀pins s σ H (Q:VK),Inv X pins σ H s->Q (.int (-i)) H->wpAny (model X.prog X.w) X.A (eval (.UnaryOp .USub (.Constant (.int i) j p3) pos) X.env) (EP X pins σ Q) X.xe s:=λpins s σ H Q I h=>Jp YE PQ pins s σ H Q I ⟨i,rfl,h⟩
end
section
variable{X:Cx}{W:XW}{a b c e:Expr}{f g h:AX}{pos:Pos}
def NS(S:Sto)(n:Nat)(d:MV):List MV->Option (List Bool)
 |[]=>some []
 |y::ys=>(eqv S n y d).bind λk=>(NS S n d ys).map (k::·)
section
variable{α:Vb}{S:Sto}{H:Hp}{pins:Vg}{σ:St}{s:Shared}
def NT(X:Cx)(α:Vb)(S:Sto)(H:Hp)(n:Nat)(d:MV)(u:Value):Bool:=open Classical in decide (∃y x,Den X.K α H y x/\RelV x u/\eqv S n y d=some true)
open Classical in
def Gp(I:Inv X pins σ H s)(wd:Wd X.g α S H){n:Nat}{d y:MV}{x:V}{u:Value}{k:Bool}(dy:Den X.K α H y x)(r:RelV x u)(e:eqv S n y d=some k):NT X α S H n d u=k:=by
 unfold NT
 cases k with
 |true=>exact dT0 ⟨y,x,dy,r,e⟩
 |false=>
  refine dF0 λ⟨y',x',dy',r',e'⟩=>?_;have ex:=r.inj r';subst ex;rw[dy.inj I wd dy']at e;rw[e]at e';cases e'
theorem vF(I:Inv X pins σ H s)(wd:Wd X.g α S H){n:Nat}{A:Around}{d:MV}{x:V}{v:Value}(hu:A.units+n<cLine)(dd:Den X.K α H d x)(rx:RelV x v): ∀{ys:Xb}{vs:List V}{us:Uk}{bs:Vh},DenL X.K α H ys vs->Vals vs us->NS S n d ys=some bs->
  us.map (NT X α S H n d)=bs/\ ∀u∈us,SeqAt.EqAt A s u v (NT X α S H n d u)
 |[],_,_,bs,l,r,e=>by cases l.isnil;cases r;cases e;exact⟨rfl,λu hu=>by cases hu⟩
 |y::ys,_,_,bs,l,r,e=>by
  obtain⟨v',r',rfl,dy,l'⟩:=l.uncons
  cases r with
  |cons r1 r2=>
   unfold NS at e
   cases z:eqv S n y d with
   |none=>rw[z]at e;cases e
   |some k=>
    rw[z]at e
    cases z2:NS S n d ys with
    |none=>simp[z2]at e
    |some cs=>
     simp[z2]at e;subst e;obtain⟨h1,h2⟩:=vF I wd hu dd rx l' r2 z2;have h3:=Gp I wd dy r1 z;refine⟨by rw[List.map_cons,h1,h3],λu hu'=>?_⟩;rcases mC.mp hu' with rfl|hu'
     .rw[h3];exact KB I wd n A y d _ _ _ _ k hu dy dd r1 rx z
     .exact h2 u hu'
end
theorem any_map{us:Uk}{f:Value->Bool}{bs:Vh}(h:us.map f=bs):us.toArray.any f=bs.any id:=by subst h;simp[List.any_map]
def itemsOf(S:Sto):Er->Option (List MV)
 |.val (.tup ds)=>some ds
 |r=>eA S r
def vG{α:Vb}{S:Sto}{H:Hp}(wd:Wd X.g α S H){r:Er}{ds:Xb}{x:V}(e:itemsOf S r=some ds)(d:DenX X.K α H r x): ∃a vs,x=.ref a/\(SqL X.K H a vs\/SqT X.K H a vs)/\DenL X.K α H ds vs:=by
 unfold itemsOf at e;split at e
 .cases e;obtain⟨a,vs,rfl,s,l⟩:=eW d;exact⟨a,vs,rfl,.inr s,l⟩
 .obtain⟨a,vs,rfl,s,l⟩:=BU rfl wd e d;exact⟨a,vs,rfl,.inl s,l⟩
def KC(neg:Bool)(p q:Er)(S:Sto):R Er:=match p with
 |.val d=>match itemsOf S q with
  |some ys=>match NS S zV d ys with
   |some bs=>.ok (.val (.bl (if neg=true then !bs.any id else bs.any id))) S
   |none=>.no
  |none=>.no
 |.new _=>.no
def XU(neg:Bool):Er->Er->Sto->R Er
 |.val (.str [c]),.val (.str y),S=>.ok (.val (.bl (if neg=true then !decide (c∈y)else decide (c∈y)))) S
 |p,q,S=>KC neg p q S
abbrev ZZ(X:Cx)(neg:Bool):R2:=λx y H Q=> ∃α S d q ys bs,Wd X.g α S H/\Den X.K α H d x/\DenX X.K α H q y/\itemsOf S q=some ys/\NS S zV d ys=some bs/\Q (.bl (if neg=true then !bs.any id else bs.any id)) H
def Nd(hu:X.A.units+64<cLine):OpR X (compareOp .In) (ZZ X false):=by
 intro pins s σ H x y v u Q I rx ry h;obtain⟨α,S,d,q,ys,bs,wd,dd,dq,ei,ea,hq⟩:=h;obtain⟨a,vs,rfl,sq,l⟩:=vG wd ei dq;cases ry;rcases sq with sq|sq
 .obtain⟨its,r,pl,_⟩:=I.list sq;obtain⟨h1,h2⟩:=vF I wd (A:=X.A.in1) (by show X.A.units+1+zV<cLine;unfold zV;omega) dd rx l r ea;refine SeqAt.in_listAt (NT X α S H zV d) pl.isList (λw hw=>h2 w (by simpa using hw)) ⟨.bl _,H,I,rfl,?_⟩;rw[any_map h1];exact hq
 .obtain⟨its,r,pl,_⟩:=I.tuple sq;obtain⟨h1,h2⟩:=vF I wd (A:=X.A.in1) (by show X.A.units+1+zV<cLine;unfold zV;omega) dd rx l r ea;refine SeqAt.in_tupleAt (NT X α S H zV d) pl (λw hw=>h2 w (by simpa using hw)) ⟨.bl _,H,I,rfl,?_⟩;rw[any_map h1];exact hq
def WK(hu:X.A.units+64<cLine):OpR X (compareOp .NotIn) (ZZ X true):=by
 intro pins s σ H x y v u Q I rx ry h;obtain⟨α,S,d,q,ys,bs,wd,dd,dq,ei,ea,hq⟩:=h;obtain⟨a,vs,rfl,sq,l⟩:=vG wd ei dq;cases ry;rcases sq with sq|sq
 .obtain⟨its,r,pl,_⟩:=I.list sq;obtain⟨h1,h2⟩:=vF I wd (A:=X.A.in1) (by show X.A.units+1+zV<cLine;unfold zV;omega) dd rx l r ea;refine SeqAt.notIn_listAt (NT X α S H zV d) pl.isList (λw hw=>h2 w (by simpa using hw)) ⟨.bl _,H,I,rfl,?_⟩;rw[any_map h1];exact hq
 .obtain⟨its,r,pl,_⟩:=I.tuple sq;obtain⟨h1,h2⟩:=vF I wd (A:=X.A.in1) (by show X.A.units+1+zV<cLine;unfold zV;omega) dd rx l r ea;refine SeqAt.notIn_tupleAt (NT X α S H zV d) pl (λw hw=>h2 w (by simpa using hw)) ⟨.bl _,H,I,rfl,?_⟩;rw[any_map h1];exact hq
def TJ{neg:Bool}:MM X W (λx y H Q=>(∃i j,x=.str i/\y=.str j/\Q (.bl (if neg=true then !(!(Builtin.Str.occurrences j i 0 j.length 1).isEmpty)else !(Builtin.Str.occurrences j i 0 j.length 1).isEmpty)) H)\/ZZ X neg x y H Q) (XU neg):=by
 intro p q x y α S H Q wd dp dq post;unfold XU at post;split at post
 .refine .inl ⟨_,_,cP dp,cP dq,?_⟩;rw[<-Fo,PySem.StrLaws.found_one,uY];exact Post.val post wd (bH _)
 .unfold KC at post;split at post
  .rename_i d _;split at post
   .rename_i ys ei;split at post
    .rename_i bs ea;exact .inr ⟨α,S,_,q,ys,bs,wd,dp,dq,ei,ea,Post.val post wd (bH _)⟩
    .exact post.elim
   .exact post.elim
  .exact post.elim
def OpR.imp{f:Value->Value->Sem Value}{r r':R2}(h:OpR X f r)(i: ∀x y H Q,r' x y H Q->r x y H Q):OpR X f r':=λpins s σ H x y v u Q I rx ry q=>h pins s σ H x y v u Q I rx ry (i x y H Q q)
def Nf(hu:X.A.units+64<cLine):OpR X (compareOp .In) (λx y H Q=>(∃i j,x=.str i/\y=.str j/\Q (.bl (if(false:Bool)=true then !(!(Builtin.Str.occurrences j i 0 j.length 1).isEmpty)else !(Builtin.Str.occurrences j i 0 j.length 1).isEmpty)) H)\/ZZ X false x y H Q):=
 OpR.imp (VI.or (Nd hu)) λx y H Q q=>q.imp (λq=>q) λq=>q
def WM(hu:X.A.units+64<cLine):OpR X (compareOp .NotIn) (λx y H Q=>(∃i j,x=.str i/\y=.str j/\Q (.bl (if(true:Bool)=true then !(!(Builtin.Str.occurrences j i 0 j.length 1).isEmpty)else !(Builtin.Str.occurrences j i 0 j.length 1).isEmpty)) H)\/ZZ X true x y H Q):=
 OpR.imp (JH.or (WK hu)) λx y H Q q=>q.imp (λq=>q) λq=>q
def Se(hu:X.A.units+64<cLine)(ha:yP X W a f)(hb:yP X W b g)(hm:behindInMarks .In b=false:=by with_unfolding_all rfl):DY X W (.Compare a [.In] [b] pos) (λρ S=>((f ρ S).bind λp S1=>(g ρ S1).bind λq S2=>XU false p q S2).bind gC):=oE (Nf hu) TJ ha hb hm
def vH(hu:X.A.units+64<cLine)(ha:yP X W a f)(hb:yP X W b g)(hm:behindInMarks .NotIn b=false:=by with_unfolding_all rfl):DY X W (.Compare a [.NotIn] [b] pos) (λρ S=>((f ρ S).bind λp S1=>(g ρ S1).bind λq S2=>XU true p q S2).bind gC):=oE (WM hu) TJ ha hb hm
def rO{K:Vk}{α:Vb}{H:Hp}{r:Er}{vs:List V}(d:ArgsX K α H [r] vs): ∃v,vs=[v]/\DenX K α H r v:=by
 cases d with
 |cons a l=>cases l;exact⟨_,rfl,a⟩
def Kb{K:Vk}{α:Vb}{H:Hp}{r r':Er}{vs:List V}(d:ArgsX K α H [r,r'] vs): ∃v u,vs=[v,u]/\DenX K α H r v/\DenX K α H r' u:=by
 cases d with
 |cons a l=>obtain⟨u,rfl,l'⟩:=rO l;exact⟨_,u,rfl,a,l'⟩
def fX:List Er->Sto->R Er
 |[.val (.str x)],S=>if x.length<=sizeLine then .ok (.val (.int x.length)) S else .no
 |[r],S=>match itemsOf S r with |some ds=>.ok (.val (.int ds.length)) S|none=>.no
 |_,_=>.no
def cB:tS X W (λxs H Q=>(∃z,xs=[.str z]/\z.length<=sizeLine/\Q (.int z.length) H)\/ ∃p ys,xs=[.ref p]/\(SqL X.K H p ys\/SqT X.K H p ys)/\Q (.int ys.length) H) fX:=by
 intro rs vs α S H Q wd d post;unfold fX at post;split at post
 .split at post
  .rename_i hz;obtain⟨v,rfl,dv⟩:=rO d;cases cP dv;refine .inl ⟨_,rfl,by rw[gW];exact hz,?_⟩;rw[gW];exact Post.val post wd (kQ _)
  .exact post.elim
 .split at post
  .rename_i ds e;obtain⟨v,rfl,dv⟩:=rO d;obtain⟨a,us,rfl,sq,l⟩:=vG wd e dv;refine .inr ⟨a,us,rfl,sq,?_⟩;rw[l.length];exact Post.val post wd (kQ _)
  .exact post.elim
 .exact post.elim
def xL:CallR X (.builtin "len") (λxs H Q=>(∃z,xs=[.str z]/\z.length<=sizeLine/\Q (.int z.length) H)\/ ∃p ys,xs=[.ref p]/\(SqL X.K H p ys\/SqT X.K H p ys)/\Q (.int ys.length) H):=JN.or JM
def Kc:List MV->Option (List Bool)
 |[]=>some []
 |.bl b::r=>(Kc r).map (b::·)
 |_::_=>none
def allF:List Er->Sto->R Er
 |[r],S=>match (eA S r).bind Kc with |some bs=>.ok (.val (.bl (bs.all id))) S|none=>.no
 |_,_=>.no
def KD(S:Sto):Er->Option String
 |.val .non=>some "NoneType"
 |.val (.bl _)=>some "bool"
 |.val (.int _)=>some "int"
 |.val (.str _)=>some "str"
 |.val (.tup _)=>some "tuple"
 |.val (.typ _)=>none
 |.val (.obj _ _ _)=>none
 |r=>(eA S r).map λ_=>"list"
def Aa(t T:String):Bool:=t==T || (t=="bool"&&T=="int")
def known(T:String):Bool:=T=="int" || T=="bool" || T=="str" || T=="tuple" || T=="list"
def GT:List Er->Sto->R Er
 |[r,.val (.typ T)],S=>match KD S r with
  |some t=>if known T=true then .ok (.val (.bl (Aa t T))) S else .no
  |none=>.no
 |_,_=>.no
theorem iD(K:Vk){t T:String}(ht:t="NoneType"\/t="bool"\/t="int"\/t="str"\/t="tuple"\/t="list")(hT:known T=true):PySem.W.kitOne K (.type t) (.type T)=some (Aa t T):=by
 have hT':T="int"\/T="bool"\/T="str"\/T="tuple"\/T="list":=by
  unfold known at hT;simp only[Bool.or_eq_true,beq_iff_eq]at hT;rcases hT with(((h|h)|h)|h)|h
  .exact .inl h
  .exact .inr (.inl h)
  .exact .inr (.inr (.inl h))
  .exact .inr (.inr (.inr (.inl h)))
  .exact .inr (.inr (.inr (.inr h)))
 rcases ht with rfl|rfl|rfl|rfl|rfl|rfl<;>rcases hT' with rfl|rfl|rfl|rfl|rfl<;>kernel_rfl
def Ab:CallR X (.builtin "isinstance") (λxs H Q=> ∃α S r x t T,xs=[x,.ty T]/\Wd X.g α S H/\DenX X.K α H r x/\KD S r=some t/\known T=true/\Q (.bl (Aa t T)) H):=by
 intro pins s σ H xs us Q I rr h;obtain⟨α,S,r,x,t,T,rfl,wd,d,et,hk,q⟩:=h;obtain⟨u,w',rfl,rx,rT⟩:=vals2 rr;cases rT;have fin: ∀tk,EP X pins σ Q (.bool (Aa t T)) {s with toks:=tk}:=λtk=>⟨.bl _,H,I.tok _,rfl,q⟩
 unfold KD at et;split at et
 .cases et;cases uB d;cases rx;exact PySem.W.kia_one PySem.W.kitx_none I.kIn True.intro (iD X.K (.inl rfl) hk) (λz=>nomatch z) fin
 .cases et;cases vA d;cases rx;exact PySem.W.kia_one PySem.W.kitx_bool I.kIn True.intro (iD X.K (.inr (.inl rfl)) hk) (λz=>nomatch z) fin
 .cases et;cases xU d;obtain⟨t,rfl⟩:=rx;exact PySem.W.kia_one PySem.W.kitx_int I.kIn True.intro (iD X.K (.inr (.inr (.inl rfl))) hk) (λz=>nomatch z) fin
 .cases et;cases cP d;obtain⟨t,rfl⟩:=rx;exact PySem.W.kia_one PySem.W.kitx_str I.kIn True.intro (iD X.K (.inr (.inr (.inr (.inl rfl)))) hk) (λz=>nomatch z) fin
 .cases et;obtain⟨a,vs,rfl,sq,l⟩:=eW d;cases rx;obtain⟨its,r1,p1,_⟩:=I.tuple sq;obtain⟨o,h1,h2,_⟩:=p1;exact PySem.W.kia_one PySem.W.kitx_tuple I.kIn ⟨o,h1,h2⟩ (iD X.K (.inr (.inr (.inr (.inr (.inl rfl))))) hk) (λz=>nomatch z) fin
 .cases et
 .cases et
 .cases z:eA S r with
  |none=>rw[z]at et;cases et
  |some ds=>
   rw[z]at et;cases et;obtain⟨a,vs,rfl,sq,l⟩:=BU rfl wd z d;cases rx;obtain⟨its,r1,p1,_⟩:=I.list sq;obtain⟨o,h1,h2,_⟩:=p1.isList;exact PySem.W.kia_one PySem.W.kitx_list I.kIn ⟨o,h1,h2⟩ (iD X.K (.inr (.inr (.inr (.inr (.inr rfl))))) hk) (λz=>nomatch z) fin
def Ng:tS X W (λxs H Q=> ∃α S r x t T,xs=[x,.ty T]/\Wd X.g α S H/\DenX X.K α H r x/\KD S r=some t/\known T=true/\Q (.bl (Aa t T)) H) GT:=by
 intro rs vs α S H Q wd d post;unfold GT at post;split at post
 .split at post
  .rename_i t et;split at post
   .rename_i hk;obtain⟨v,u,rfl,d1,d2⟩:=Kb d;cases ZA d2;exact⟨α,S,_,v,t,_,rfl,wd,d1,et,hk,Post.val post wd (bH _)⟩
   .exact post.elim
  .exact post.elim
 .exact post.elim
def qA:List Er->Sto->R Er
 |[.val (.tup ds)],S=>.ok (.val (.tup ds)) S
 |[r],S=>match eA S r with |some ds=>.ok (.val (.tup ds)) S|none=>.no
 |_,_=>.no
def rP:tS X W (λxs H Q=> ∃p ys,xs=[.ref p]/\((SqL X.K H p ys/\ ∀l,H l=none->Q (.ref l) (gD H l (.tup ys)))\/(SqT X.K H p ys/\Q (.ref p) H))) qA:=by
 intro rs vs α S H Q wd d post;unfold qA at post;split at post
 .obtain⟨v,rfl,dv⟩:=rO d;obtain⟨a,us,rfl,sq,l⟩:=eW dv;exact⟨a,us,rfl,.inr ⟨sq,Post.val post wd (pW sq l)⟩⟩
 .split at post
  .rename_i ds e;obtain⟨v,rfl,dv⟩:=rO d;obtain⟨a,us,rfl,sq,l⟩:=BU rfl wd e dv;exact⟨a,us,rfl,.inl ⟨sq,λp hp=>Post.newt post wd hp l⟩⟩
  .exact post.elim
 .exact post.elim
def IE:List Er->Sto->R Er
 |[r],S=>match itemsOf S r with |some ds=>.ok (.new ds) S|none=>.no
 |_,_=>.no
def TL:tS X W (λxs H Q=> ∃p ys,xs=[.ref p]/\(SqL X.K H p ys\/SqT X.K H p ys)/\ ∀l,H l=none->Q (.ref l) (gD H l (.lst ys))) IE:=by
 intro rs vs α S H Q wd d post;unfold IE at post;split at post
 .split at post
  .rename_i ds e;obtain⟨v,rfl,dv⟩:=rO d;obtain⟨a,us,rfl,sq,l⟩:=vG wd e dv;exact⟨a,us,rfl,sq,λp hp=>Post.newl post wd hp l⟩
  .exact post.elim
 .exact post.elim
def cC:bootBuiltins "len"=some (.builtin "len"):=by decide+kernel
def GU:bootBuiltins "isinstance"=some (.builtin "isinstance"):=by decide+kernel
def Ac:bootBuiltins "int"=some (.type "int"):=by decide+kernel
def Gq:bootBuiltins "bool"=some (.type "bool"):=by decide+kernel
def rQ:bootBuiltins "tuple"=some (.type "tuple"):=by decide+kernel
def CU:bootBuiltins "list"=some (.type "list"):=by decide+kernel
end
def Sf(n:Nat):List Nat:=(Nat.toDigits 10 n).map Char.toNat
def decL(i:Int):List Nat:=if i<0 then 45::Sf i.natAbs else Sf i.natAbs
section
variable{X:Cx}{W:XW}{a e o i:Expr}{es:Vj}{f g h:AX}{af:Rho->Sto->R (List Er)}{pos apos:Pos}
def strF:List Er->Sto->R Er
 |[.val (.int i)],S=>if i.natAbs.log2<1920 then .ok (.val (.str (decL i))) S else .no
 |[.val (.str x)],S=>.ok (.val (.str x)) S
 |_,_=>.no
def BV:CallR X (.type "int") (λxs H Q=>((∃i,xs=[.int i]/\Q (.int i) H)\/ ∃k,xs=[.bl k]/\Q (.int (if k then 1 else 0)) H)\/ ∃x n,xs=[.str x]/\PySem.intText? x=some n/\x.length<=640/\Q (.int n) H):=by refine VJ.or ?_;intro pins s σ H xs us Q I r h;obtain⟨x,n,rfl,hn,hl,q⟩:=h;obtain⟨u,rfl,t,rfl⟩:=vals1 r;exact PySem.W.KIN.call_text hn hl ⟨.int n,H,I.tok _,⟨_,rfl⟩,q⟩
def WN:List Er->Sto->R Er
 |[.val (.int i)],S=>.ok (.val (.int i)) S
 |[.val (.bl k)],S=>.ok (.val (.int (if k then 1 else 0))) S
 |[.val (.str x)],S=>match PySem.intText? (gF x)with
  |some n=>if x.length<=640 then .ok (.val (.int n)) S else .no
  |none=>.no
 |_,_=>.no
def Ad:tS X W (λxs H Q=>((∃i,xs=[.int i]/\Q (.int i) H)\/ ∃k,xs=[.bl k]/\Q (.int (if k then 1 else 0)) H)\/ ∃x n,xs=[.str x]/\PySem.intText? x=some n/\x.length<=640/\Q (.int n) H) WN:=by
 intro rs vs α S H Q wd d post;unfold WN at post;split at post
 .obtain⟨v,rfl,dv⟩:=rO d;cases xU dv;exact .inl (.inl ⟨_,rfl,Post.val post wd (kQ _)⟩)
 .obtain⟨v,rfl,dv⟩:=rO d;cases vA dv;exact .inl (.inr ⟨_,rfl,Post.val post wd (kQ _)⟩)
 .obtain⟨v,rfl,dv⟩:=rO d;cases cP dv;split at post
  .rename_i n hn;split at post
   .rename_i hz;exact .inr ⟨_,n,rfl,hn,by rw[gW];exact hz,Post.val post wd (kQ _)⟩
   .exact post.elim
  .exact post.elim
 .exact post.elim
def bE(p:Er)(S:Sto):Bool:=(eA S p).isSome
def Ae:TyM X "list" bE:=by
 intro p x α S H wd d h;unfold bE at h
 cases z:eA S p with
 |none=>rw[z]at h;cases h
 |some ds=>
  obtain⟨a,vs,rfl,s,l⟩:=BU rfl wd z d;exact .inl ⟨rfl,vs,s⟩
def strIdx(x y:Db):Option Nat:=(Builtin.Str.occurrences (gF x) (gF y) 0 (gF x).length 1).head?
def sidxF:Er->List Er->Sto->R Er
 |.val (.str x),[.val (.str y)],S=>match strIdx x y with |some i=>.ok (.val (.int (i:Nat))) S|none=>.no
 |_,_,_=>.no
def WO(p:Er)(S:Sto)(G:List MV->Option (List MV)):R Er:=match p with
 |.val (.loc l)=>match S[l]? with
  |some (.lst ds)=>match G ds with
   |some es=>.ok (.val .non) (S.set l (.lst es))
   |none=>.no
  |_=>.no
 |_=>.no
def WP{α0 α:Vb}{H0 H:Hp}{S:Sto}{p:Er}{x:V}{G:List MV->Option (List MV)}{Q:VK}(wd:Wd X.g α S H)(x0:Ext α0 H0 α H)(dp:DenX X.K α H p x)(post:Post X.g W α0 H0 (WO p S G) Q):
  ∃a vs ds es,x=.ref a/\H a=some (.lst vs)/\DenL X.K α H ds vs/\G ds=some es/\ ∀us,DenL X.K α H es us->Q .non (gD H a (.lst us)):=by
 unfold WO at post;split at post
 .rename_i l;obtain⟨a,rfl,h⟩:=eX dp;obtain⟨ob,h1,h2⟩:=wd.of h;rw[h1]at post
  cases ob with
  |lst ds=>
   obtain⟨vs,h3,l1⟩:=h2;have post:Post X.g W α0 H0 (match G ds with |some es=>R.ok (Er.val .non) (S.set l (.lst es))|none=>R.no) Q:=post;split at post
   .rename_i es eg;refine⟨a,vs,ds,es,rfl,h3,l1,eg,λus lu=>?_⟩;have xw:=wd.writex h (YZ h3) (o:=.lst us);exact(post.shift (x0.trans xw)).val (wd.write h (YZ h3) ⟨us,xB,lu.ext xw⟩) sV
   .exact post.elim
  |dic _=>exact post.elim
  |ins _ _=>exact post.elim
  |rcd _ _=>exact post.elim
 .exact post.elim
def tN:Er->List Er->Sto->R Er
 |p,[r],S=>(jS r S).bind λy S1=>WO p S1 λds=>if ds.length<sizeLine then some (ds++[y])else none
 |_,_,_=>.no
def WQ:QQ X W SQ tN:=by
 intro p rs x vs α S H0 H Q α0 wd x0 dp da post
 match rs,da,post with
 |[],_,post=>exact post.elim
 |_::_::_,_,post=>exact post.elim
 |[r],da,post=>
  cases da with
  |cons d n l=>
   cases l;obtain⟨d',S',α',e',x',y',w',dd⟩:=nB wd x0 d;have post:Post X.g W α0 H0 ((jS r S).bind λy S1=>WO p S1 λds=>if ds.length<sizeLine then some (ds++[y])else none) Q:=post;rw[e']at post
   have dp':DenX X.K α' H p x:=by
    cases p with
    |val m=>exact Den.ex0 y' dp
    |new ds=>exact post.elim
   obtain⟨a,us,ds,es,rfl,h1,l1,eg,k⟩:=WP w' x' dp' post;split at eg
   .rename_i hz;cases eg;exact⟨a,us,_,rfl,rfl,h1,by rw[l1.length];exact hz,k _ (l1.append (yZ dd xG))⟩
   .cases eg
def wF(ho:yP X W a f)(ha:JS X W (e::es) af)
  (hbase:attributeBase a "append" X.env (eval a X.env)=eval a X.env:=by rfl)
  (hfew:((backTo pos (starEach (e::es) X.env)).all (λx=>!x.1)&&(backToKw pos (keywordEach [] X.env)).all (λx=>x.1.isSome)
   &&decide ((e::es).length+([]:List Keyword).length+(if([]:List Keyword).isEmpty then 0 else 1)<30))=true:=by rfl)
  (hline:(apos.endLine==pos.line)=true:=by rfl) (hs:starEach (e::es) X.env=(false,eval e X.env)::starEach es X.env:=by rfl) (hplain:(backTo pos (starEach es X.env)).any (·.1)=false:=by rfl):
  yP X W (.Call (.Attribute a "append" apos) (e::es) [] pos) (λρ S=>(f ρ S).bind λp S1=>if bE p S1=true then(af ρ S1).bind λrs S2=>tN p rs S2 else .no):=
 Fy PySem.F.plainAttrs_list PySem.F.slot_list_append PySem.F.type_list_append VT WQ Ae ho ha hbase hfew hline hs hplain
def NU(p q:Er)(d:MV)(ρ:Rho)(S:Sto):R Rho:=match p,q with
 |.val (.loc l),.val (.int k)=>match S[l]? with
  |some (.lst ds)=>match MW ds.length k with
   |some j=>.ok ρ (S.set l (.lst (ds.set j d)))
   |none=>.no
  |_=>.no
 |_,_=>.no
def Nh(ho:yP X W o f)(hi:yP X W i g)
  (ha: ∀v,assign (.Subscript o i pos) X.env v=(do
   let ov <-holding [v] (eval o X.env);let iv <-holding [v,ov] (eval i X.env)
   standAt pos
   holding [v,ov,iv] (setItem ov iv v)
   release [v,ov,iv] []):=by intro _;rfl):Ju X W (.Subscript o i pos) (λd ρ S=>(f ρ S).bind λp S1=>(g ρ S1).bind λq S2=>NU p q d ρ S2):=by
 obtain⟨to,ho,fo⟩:=ho;obtain⟨ti,hi,fi⟩:=hi;refine⟨_,PR ho hi set_list ha,λα ρ S σ H d v Q wd sl de q=>fo α ρ S σ H _ wd sl (q.bind λu p S1 α1 H1 e1 x1 w1 d1 q1=>fi α1 ρ S1 σ H1 _ w1 (sl.ext x1) ((q1.shift x1).bind λu2 p2 S2 α2 H2 e2 x2 w2 d2 q2=>?_))⟩
 replace q2:=q2.shift x2
 have d1':=DenX.ext x2 d1.1;unfold NU at q2;split at q2
 .rename_i l k;obtain⟨a,rfl,h⟩:=eX d1';cases xU d2.1;obtain⟨ob,h1,h2⟩:=w2.of h;rw[h1]at q2
  cases ob with
  |lst ds=>
   obtain⟨vs,h3,l1⟩:=h2;have q2:Post X.g W α2 H2 (match MW ds.length k with |some j=>R.ok ρ (S2.set l (.lst (ds.set j d)))|none=>R.no) Q:=q2;split at q2
   .rename_i j ej;have xw:=w2.writex h (YZ h3) (o:=.lst (vs.set j v));have sl2:=((sl.ext x1).ext x2).ext xw;exact⟨a,vs,k,j,rfl,rfl,h3,by rw[l1.length];exact ej,q2 σ α2 _ xw (w2.write h (YZ h3) ⟨_,xB,(l1.set ((de.ext x1).ext x2) j).ext xw⟩) sl2⟩
   .exact q2.elim
  |dic _=>exact q2.elim
  |ins _ _=>exact q2.elim
  |rcd _ _=>exact q2.elim
 .exact q2.elim
end
def _root_.L2.Inv.turnedL{X:Cx}{pins:Vg}{σ:St}{H:Hp}{s:Shared}{h':Heap}{t':Nat}{fp:Vb}(I:Inv X pins σ H s)(k: ∀b o,b∉fp->s.heap.get? b=some o->h'.get? b=some o)
  (hf: ∀b∈fp,uU X pins H b):Inv X pins σ H {s with heap:=h',toks:=t'}:=by
 have nit: ∀b u,H b=some u->b∉fp:=λb u e z=>by rw[(hf b z).1]at e;cases e
 refine I.step (g':=s.gens) (d':=s.drawn) (ch:=fp) (λb hb=>⟨(hf b hb).2.2.2.1,(hf b hb).2.1,(hf b hb).2.2.2.2.1,(hf b hb).2.2.2.2.2⟩) (λb o _ _ hc e _=>k b o hc e) (λb o _ _ hc e _=>⟨o.slots,k b o hc e⟩) (λ_ _ _ _ n=>n)
  (λb o hc e=>⟨o,k b o hc e⟩) (λ_ _ e=>e) (λ_ _ _ e=>e) (λb ps e=>⟨#[],by rw[e];simp⟩) (λm hm=>?_) (λb u e=>?_) I.bare
 .obtain⟨o,es,ep,ho,r⟩:=hm;exact⟨o,es,ep,k _ o (λz=>(hf _ z).2.1 rfl) ho,r⟩
 .refine(I.hok b u e).stay (λc v hc q=>k c v ?_ q) (λ_ q=>q) λ_ _ q=>q;rcases hc with z|z
  .rw[z];exact nit b u e
  .exact nit c _ z
def IsSub(k:Bool)(h:Heap)(it l:Addr)(i:Nat):Prop:=if k=true then h.IsListIter it l i else h.IsTupleIter it l i
def IsSeq(k:Bool)(h:Heap)(l:Addr)(its:Va):Prop:=if k=true then h.IsList l its else h.IsTuple l its
def EF(k:Bool)(l:Addr):Obj:={cls:=.type (if k=true then "list_iterator" else "tuple_iterator"),data:=.fields #[.ref l,.int 0 0]}
def IsSub.mk'{k:Bool}{h:Heap}{it l:Addr}(e:h.get? it=some (EF k l)):IsSub k h it l 0:=by
 cases k with
 |true=>exact⟨_,e,rfl,rfl⟩
 |false=>exact⟨_,e,rfl,rfl⟩
def IsSub.there{k:Bool}{h:Heap}{it l:Addr}{i:Nat}(x:IsSub k h it l i): ∃o,h.get? it=some o/\ ∀v,o.data≠.cell v:=by
 cases k with
 |true=>obtain⟨o,e,_,d⟩:=(x:h.IsListIter it l i);exact⟨o,e,λv z=>by rw[d]at z;cases z⟩
 |false=>obtain⟨o,e,_,d⟩:=(x:h.IsTupleIter it l i);exact⟨o,e,λv z=>by rw[d]at z;cases z⟩
def IsSub.move{k:Bool}{h h':Heap}{it l:Addr}{i:Nat}(x:IsSub k h it l i)(f: ∀o,h.get? it=some o->h'.get? it=some o):IsSub k h' it l i:=by
 cases k with
 |true=>obtain⟨o,e,r⟩:=(x:h.IsListIter it l i);exact⟨o,f o e,r⟩
 |false=>obtain⟨o,e,r⟩:=(x:h.IsTupleIter it l i);exact⟨o,f o e,r⟩
def IsSeq.move{k:Bool}{h h':Heap}{l:Addr}{its:Va}(x:IsSeq k h l its)(f: ∀o,h.get? l=some o->h'.get? l=some o):IsSeq k h' l its:=by
 cases k with
 |true=>obtain⟨o,e,r⟩:=(x:h.IsList l its);exact⟨o,f o e,r⟩
 |false=>obtain⟨o,e,r⟩:=(x:h.IsTuple l its);exact⟨o,f o e,r⟩
section
variable{prog:Program}{w:World}{A:Around}{E:VP}{s:Shared}
def NV{k:Bool}{l:Addr}{its:Va}{Q:VP}(hl:IsSeq k s.heap l its)(h:Q (.ref s.heap.objs.size) {s with heap:=s.heap.push (EF k l)}):wpAny (model prog w) A (pyIter (.ref l)) Q E s:=by
 cases k with
 |true=>exact wpAny_pyIter_list hl h
 |false=>exact wpAny_pyIter_tuple hl h
def EG{k:Bool}{it l:Addr}{i:Nat}{its:Va}{x:Value}{Q:VP}(hit:IsSub k s.heap it l i)(hl:IsSeq k s.heap l its)(hx:its[i]? =some x)
  (hQ: ∀h',IsSub k h' it l (i+1)->Heap.SameBut it s.heap h'->Q x {s with heap:=h'}):wpAny (model prog w) A (Builtin.SmallTypes.nextOf (.ref it)) Q E s:=by
 cases k with
 |true=>exact wpAny_nextOf_list_item hit hl hx hQ
 |false=>
  have hit':s.heap.IsTupleIter it l i:=hit;obtain⟨o,ho,hc,hd⟩:=id hit';obtain⟨ol,hol,_,nl,hdl⟩:=(hl:s.heap.IsTuple l its)
  unfold Builtin.SmallTypes.nextOf;refine wB (wpAny_callSpecial?_slot (name:=Str.ofString "__next__") hit'.typeIs F.slot_tuple_iterator_next (wpAny_call_entry F.slot_tuple_iterator_next hit'.typeIs F.entry_tuple_iterator_next ?_ (F.args_tuple_iterator_next_1 _)));show wpAny _ _ (field (.ref it) 0 >>= _) _ _ s;refine wB (wpAny_field ho hd (x:=.ref l) rfl ?_);show wpAny _ _ (if(Value.ref l==Value.none)=true then _ else _) _ _ s;rw[iN (show¬((Value.ref l==Value.none)=true)from xF0)];show wpAny _ _ (field (.ref it) 1 >>= _) _ _ s;refine wB (wpAny_field ho hd (x:=.int i 0) rfl ?_);show wpAny _ _ (seqItems? (.ref l) >>= _) _ _ s;refine wB (wpAny_seqItems hol hdl ?_);simp only[Int.toNat_natCast,hx];refine wB (wpAny_setField ho hd (by simp) (wP ⟨x,rfl,wP (hQ _ ?_ (Heap.SameBut.update ..))⟩));exact⟨_,Heap.get?_update_self _ ho (Obj.isFreed_of_fields (Obj.data_mapFields hd _)),(Obj.cls_mapFields ..).trans hc,by rw[Obj.data_mapFields hd];simp[rawInt]⟩
def TN{k:Bool}{it l:Addr}{i:Nat}{its:Va}{Q:VP}(hh:A.handled=none)(hit:IsSub k s.heap it l i)(hl:IsSeq k s.heap l its)(hx:its[i]? =none)
  (hE: ∀h' e,Heap.ExtBut it s.heap h'->(∃o,h'.get? e=some o/\o.cls=.type "StopIteration")->E (.ref e) {s with heap:=h'}):wpAny (model prog w) A (Builtin.SmallTypes.nextOf (.ref it)) Q E s:=by
 cases k with
 |true=>exact wpAny_nextOf_list_end hh hit hl hx hE
 |false=>
  have hit':s.heap.IsTupleIter it l i:=hit;obtain⟨o,ho,hc,hd⟩:=id hit';obtain⟨ol,hol,_,nl,hdl⟩:=(hl:s.heap.IsTuple l its)
  unfold Builtin.SmallTypes.nextOf;refine wB (wpAny_callSpecial?_slot (name:=Str.ofString "__next__") hit'.typeIs F.slot_tuple_iterator_next (wpAny_call_entry F.slot_tuple_iterator_next hit'.typeIs F.entry_tuple_iterator_next ?_ (F.args_tuple_iterator_next_1 _)));show wpAny _ _ (field (.ref it) 0 >>= _) _ _ s;refine wB (wpAny_field ho hd (x:=.ref l) rfl ?_);show wpAny _ _ (if(Value.ref l==Value.none)=true then _ else _) _ _ s;rw[iN (show¬((Value.ref l==Value.none)=true)from xF0)];show wpAny _ _ (field (.ref it) 1 >>= _) _ _ s;refine wB (wpAny_field ho hd (x:=.int i 0) rfl ?_);show wpAny _ _ (seqItems? (.ref l) >>= _) _ _ s;refine wB (wpAny_seqItems hol hdl ?_);simp only[Int.toNat_natCast,hx];refine wB (wpAny_rule (wB (wpAny_setField ho hd (by simp) ?_)));show wpAny _ _ (newExc (.type "StopIteration") [] >>= _) _ _ _;refine wB ?_;simp only[newExc,newTuple];refine wB (wpAny_newObj_type ?_ (by size_fits));refine wB (m:=firstArgMember _ _) (wpAny_of_eq (a:=Value.none) (by first |rfl|(simp only[firstArgMember];rfl)) ?_);refine wpAny_newObj_type ?_ (by size_fits);simp only[raiseNew];refine wB (wpAny_handled ?_)
  first |rw[show A.in1.handled=none from hh]|rw[hh]
  refine wB (wP (wpAny_throw ?_));exact hE _ _ (((Heap.SameBut.update ..).extBut.push _).push _) ⟨_,Heap.get?_push_size _ rfl,rfl⟩
end
structure ZipSt(k1 k2:Bool)(z TI TO i1 i2 l1 l2:Addr)(i:Nat)(h:Heap):Prop where
 z:IsZip h z TI TO .none
 ti:IsPair h TI (.ref i1) (.ref i2)
 to: ∃a b,IsPair h TO a b
 s1:IsSub k1 h i1 l1 i
 s2:IsSub k2 h i2 l2 i
structure Apart5(z TI TO i1 i2:Addr):Prop where
 TIz:TI≠z
 TOz:TO≠z
 i1z:i1≠z
 i2z:i2≠z
 TITO:TI≠TO
 TIi1:TI≠i1
 TIi2:TI≠i2
 TOi1:TO≠i1
 TOi2:TO≠i2
 i12:i1≠i2
section
variable{prog:Program}{w:World}{A:Around}{E:VP}{s:Shared}{k1 k2:Bool}{z TI TO i1 i2 l1 l2:Addr}{i:Nat}{xs ys:Va}
def Off(l z TO i1 i2:Addr):Prop:=l≠z/\l≠TO/\l≠i1/\l≠i2
def Af{x y:Value}{Q:VP}(D:Apart5 z TI TO i1 i2)(o1:Off l1 z TO i1 i2)(o2:Off l2 z TO i1 i2)(st:ZipSt k1 k2 z TI TO i1 i2 l1 l2 i s.heap)(hl1:IsSeq k1 s.heap l1 xs)(hl2:IsSeq k2 s.heap l2 ys)(hx:xs[i]? =some x)(hy:ys[i]? =some y)
  (hQ: ∀h',IsZip h' z TI TO (rawInt s.heap.objs.size)->IsPair h' TO x y->IsSub k1 h' i1 l1 (i+1)->IsSub k2 h' i2 l2 (i+1)->IsPair h' s.heap.objs.size x y->
   (∀c o,c≠z->c≠TO->c≠i1->c≠i2->s.heap.get? c=some o->h'.get? c=some o)->Q (.ref s.heap.objs.size) {s with heap:=h'}):
  wpAny (model prog w) A (Builtin.«zip.__next__» ⟨[.ref z],[]⟩) (λfin s'=> ∃v,fin=.done (.ret v)/\Q v s') E s:=by
 obtain⟨hz,hTI,⟨a,b,hTO⟩,h1,h2⟩:=st;show wpAny _ _ (field (.ref z) 2 >>= _) _ _ _;refine wB (wpAny_field hz rfl (x:=.bool false) rfl ?_);show wpAny _ _ (field (.ref z) 3 >>= _) _ _ _;refine wB (wpAny_field hz rfl (x:=.ref TI) rfl (wB (wpAny_seqItems hTI rfl ?_)));show wpAny _ _ (Builtin.SmallTypes.ownedTupleIsFree (.ref z) >>= _) _ _ _;refine wB ?_;unfold Builtin.SmallTypes.ownedTupleIsFree;refine wB (wpAny_field hz rfl (x:=.none) rfl (wP ?_));simp only[if_true];refine wB (wpAny_rule (wB (wpAny_field hz rfl (x:=.ref TO) rfl (wB (wpAny_setField_rec hz (by simp) λha hza hsa=>?_)))))
 replace hza:IsZip ha z TI TO .ellipsis:=hza
 refine wB ?_;simp only[List.zipIdx_cons,List.zipIdx_nil,forIn_cons,forIn_nil];refine wB (wB (wpAny_onRaise ?_));show wpAny _ _ (Builtin.SmallTypes.nextOf (.ref i1) >>= _) _ _ _;refine wB (EG (h1.move λo e=>hsa.extBut _ _ D.i1z e) (hl1.move λo e=>hsa.extBut _ _ o1.1 e) hx λhb h1b hsb=>wP ?_);have tob:IsPair hb TO a b:=hsb.extBut _ _ D.TOi1 (hsa.extBut _ _ D.TOz hTO);refine wB (wpAny_seqItems tob rfl (wB (wpAny_updateSeq_pair tob λhc toc hsc=>wB (wpAny_letGo (wP ?_)))))
 replace toc:IsPair hc TO x b:=toc
 refine wB (wB (wpAny_onRaise ?_));show wpAny _ _ (Builtin.SmallTypes.nextOf (.ref i2) >>= _) _ _ _;have mv: ∀c o,c≠z->c≠TO->c≠i1->s.heap.get? c=some o->hc.get? c=some o:=λc o n1 n2 n3 e=>hsc.extBut _ _ n2 (hsb.extBut _ _ n3 (hsa.extBut _ _ n1 e));refine wB (EG (h2.move λo e=>mv _ o D.i2z D.TOi2.symm D.i12.symm e) (hl2.move λo e=>mv _ o o2.1 o2.2.1 o2.2.2.1 e) hy λhd h2d hsd=>wP ?_);have tod:IsPair hd TO x b:=hsd.extBut _ _ D.TOi2 toc;refine wB (wpAny_seqItems tod rfl (wB (wpAny_updateSeq_pair tod λhe toe hse=>wB (wpAny_letGo (wP (wP ?_))))))
 replace toe:IsPair he TO x y:=toe
 refine wB (wpAny_seqItems toe rfl (wB (wpAny_newTuple ?_)));have hsz:he.objs.size=s.heap.objs.size:=by rw[hse.1,hsd.1,hsc.1,hsb.1,hsa.1]
 have ze:IsZip he z TI TO .ellipsis:=hse.extBut _ _ D.TOz.symm (hsd.extBut _ _ D.i2z.symm (hsc.extBut _ _ D.TOz.symm (hsb.extBut _ _ D.i1z.symm hza)));have mve: ∀c o,c≠z->c≠TO->c≠i1->c≠i2->s.heap.get? c=some o->he.get? c=some o:=λc o n1 n2 n3 n4 e=>hse.extBut _ _ n2 (hsd.extBut _ _ n4 (mv c o n1 n2 n3 e));have s1e:IsSub k1 he i1 l1 (i+1):=h1b.move λo e=>hse.extBut _ _ D.TOi1.symm (hsd.extBut _ _ D.i12 (hsc.extBut _ _ D.TOi1.symm e));have s2e:IsSub k2 he i2 l2 (i+1):=h2d.move λo e=>hse.extBut _ _ D.TOi2.symm e;have hzlt:z<he.objs.size:=Heap.lt_size ze;show wpAny _ _ (Builtin.SmallTypes.ownedTupleHandOut (.ref z) (.ref he.objs.size) >>= _) _ _ _;refine wB ?_;unfold Builtin.SmallTypes.ownedTupleHandOut;have zf:IsZip (he.push {cls:=.type "tuple",data:=.seq #[x,y]}) z TI TO .ellipsis:=hP0 _ ze;refine wB (wpAny_setField_rec zf (by simp) λhg' zg hsg=>?_)
 replace zg:IsZip hg' z TI TO (rawInt he.objs.size):=zg
 refine wpAny_setField_rec zg (by simp) λhh' zh hsh=>?_
 replace zh:IsZip hh' z TI TO (rawInt he.objs.size):=zh
 have up: ∀c o,c≠z->he.get? c=some o->hh'.get? c=some o:=λc o c1 e=>hsh.extBut _ _ c1 (hsg.extBut _ _ c1 (hP0 _ e));have tT:IsPair hh' he.objs.size x y:=hsh.extBut _ _ (Nat.ne_of_gt hzlt) (hsg.extBut _ _ (Nat.ne_of_gt hzlt) (Heap.get?_push_size _ rfl));rw[hsz]at zh tT;refine wP ⟨_,rfl,?_⟩;show Q (.ref he.objs.size) _;rw[hsz];exact hQ hh' zh (up _ _ D.TOz toe) (s1e.move λo e=>up _ o D.i1z e) (s2e.move λo e=>up _ o D.i2z e) tT λc o c1 c2 c3 c4 e=>up c o c1 (mve c o c1 c2 c3 c4 e)
def Gr{Q:Fin->Shared->Prop}(hh:A.handled=none)(D:Apart5 z TI TO i1 i2)(o1:Off l1 z TO i1 i2)(o2:Off l2 z TO i1 i2)(st:ZipSt k1 k2 z TI TO i1 i2 l1 l2 i s.heap)(hl1:IsSeq k1 s.heap l1 xs)(hl2:IsSeq k2 s.heap l2 ys)(hend:xs[i]? =none\/ys[i]? =none)
  (hE: ∀h' e,(∀c o,c≠z->c≠TO->c≠i1->c≠i2->s.heap.get? c=some o->h'.get? c=some o)->(∃o,h'.get? e=some o/\o.cls=.type "StopIteration")->E (.ref e) {s with heap:=h'}):
  wpAny (model prog w) A (Builtin.«zip.__next__» ⟨[.ref z],[]⟩) Q E s:=by
 obtain⟨hz,hTI,⟨a,b,hTO⟩,h1,h2⟩:=st;show wpAny _ _ (field (.ref z) 2 >>= _) _ _ _;refine wB (wpAny_field hz rfl (x:=.bool false) rfl ?_);show wpAny _ _ (field (.ref z) 3 >>= _) _ _ _;refine wB (wpAny_field hz rfl (x:=.ref TI) rfl (wB (wpAny_seqItems hTI rfl ?_)));show wpAny _ _ (Builtin.SmallTypes.ownedTupleIsFree (.ref z) >>= _) _ _ _;refine wB ?_;unfold Builtin.SmallTypes.ownedTupleIsFree;refine wB (wpAny_field hz rfl (x:=.none) rfl (wP ?_));simp only[if_true];refine wB (wpAny_rule (wB (wpAny_field hz rfl (x:=.ref TO) rfl (wB (wpAny_setField_rec hz (by simp) λha hza hsa=>?_)))))
 replace hza:IsZip ha z TI TO .ellipsis:=hza
 refine wB ?_;simp only[List.zipIdx_cons,List.zipIdx_nil,forIn_cons,forIn_nil];refine wB (wB (wpAny_onRaise ?_));show wpAny _ _ (Builtin.SmallTypes.nextOf (.ref i1) >>= _) _ _ _
 cases hx:xs[i]? with
 |none=>
  refine wB (TN hh (h1.move λo e=>hsa.extBut _ _ D.i1z e) (hl1.move λo e=>hsa.extBut _ _ o1.1 e) hx λhb e hsb he=>?_);obtain⟨oe,hoe,hce⟩:=he;have hzb:IsZip hb z TI TO .ellipsis:=hsb _ _ D.i1z.symm hza;have hez:e≠z:=λq=>by subst q;rw[hzb]at hoe;cases hoe;simp at hce
  exact wpAny_setField_rec hzb (by simp) λhc _ hsc=>hE hc e (λc o c1 _ c3 _ q=>hsc.extBut _ _ c1 (hsb _ _ c3 (hsa.extBut _ _ c1 q))) ⟨oe,hsc.extBut _ _ hez hoe,hce⟩
 |some x=>
  have hy:ys[i]? =none:=by rcases hend with h|h;(rw[hx]at h;cases h);exact h
  refine wB (EG (h1.move λo e=>hsa.extBut _ _ D.i1z e) (hl1.move λo e=>hsa.extBut _ _ o1.1 e) hx λhb h1b hsb=>wP ?_);have tob:IsPair hb TO a b:=hsb.extBut _ _ D.TOi1 (hsa.extBut _ _ D.TOz hTO);refine wB (wpAny_seqItems tob rfl (wB (wpAny_updateSeq_pair tob λhc toc hsc=>wB (wpAny_letGo (wP ?_)))));refine wB (wB (wpAny_onRaise ?_));show wpAny _ _ (Builtin.SmallTypes.nextOf (.ref i2) >>= _) _ _ _;have mv: ∀c o,c≠z->c≠TO->c≠i1->s.heap.get? c=some o->hc.get? c=some o:=λc o n1 n2 n3 e=>hsc.extBut _ _ n2 (hsb.extBut _ _ n3 (hsa.extBut _ _ n1 e));refine wB (TN hh (h2.move λo e=>mv _ o D.i2z D.TOi2.symm D.i12.symm e) (hl2.move λo e=>mv _ o o2.1 o2.2.1 o2.2.2.1 e) hy λhd e hsd he=>?_);obtain⟨oe,hoe,hce⟩:=he;have hzd:IsZip hd z TI TO .ellipsis:=hsd _ _ D.i2z.symm (hsc.extBut _ _ D.TOz.symm (hsb.extBut _ _ D.i1z.symm hza));have hez:e≠z:=λq=>by subst q;rw[hzd]at hoe;cases hoe;simp at hce
  exact wpAny_setField_rec hzd (by simp) λhg' _ hsg=>hE hg' e (λc o c1 c2 c3 c4 q=>hsg.extBut _ _ c1 (hsd _ _ c4 (mv c o c1 c2 c3 q))) ⟨oe,hsg.extBut _ _ hez hoe,hce⟩
def QX(k1 k2:Bool)(l1 l2:Addr)(xs ys:Va):
  Meets (Builtin.«zip.__new__» ⟨[.type "zip",.ref l1,.ref l2],[]⟩) (λ_ R s=>IsSeq k1 s.heap l1 xs/\IsSeq k2 s.heap l2 ys/\
   R (.ok (.ret (.ref (s.heap.objs.size+4)))) {s with heap:=((((s.heap.push (EF k1 l1)).push (EF k2 l2)).push {cls:=.type "tuple",data:=.seq #[.ref s.heap.objs.size,.ref (s.heap.objs.size+1)]}).push {cls:=.type "tuple",data:=.seq #[.none,.none]}).push {cls:=.type "zip",data:=.fields #[.none,.bool false,.bool false,.ref (s.heap.objs.size+2),.ref (s.heap.objs.size+3)]}}):=
 .of_wp λprog w A R s h=>by
  obtain⟨hp,g,d,tk,os⟩:=s;obtain⟨hl1,hl2,h⟩:=h;have hsub:=sub_zip;have hL1:IsSeq k1 (Shared.heap ⟨hp,g,d,tk,os⟩) l1 xs:=hl1;have hL2:IsSeq k2 (Shared.heap ⟨hp.push (EF k1 l1),g,d,tk,os⟩) l2 ys:=hl2.move λo e=>hP0 _ e;have z1: ∀(h:Heap)(o:Obj),(h.push o).objs.size=h.objs.size+1:=λh o=>Heap.size_push ..;simp only[z1]at h ⊢
  wp_walk using NV hL1,NV hL2
  exact⟨_,rfl,by simp only[z1];exact h⟩
def Ag(hl1:IsSeq k1 s.heap l1 xs)(hl2:IsSeq k2 s.heap l2 ys){Q:VP}
  (h: ∀h',ZipSt k1 k2 (s.heap.objs.size+4) (s.heap.objs.size+2) (s.heap.objs.size+3) s.heap.objs.size (s.heap.objs.size+1) l1 l2 0 h'->(∀c o,s.heap.get? c=some o->h'.get? c=some o)->Q (.ref (s.heap.objs.size+4)) {s with heap:=h'}):
  wpAny (model prog w) A (call (.type "zip") [.ref l1,.ref l2]) Q E s:=by
 refine callType_new F.called_zip (by decide) (F.typeCall_zip_2 _ _) (F.newCall_zip_2 _ _) (λobj=>F.args_object_init_3 obj _ _) F.entry_zip_new (QX k1 k2 l1 l2 xs ys) ⟨hl1,hl2,?_⟩;have z1: ∀(h:Heap)(o:Obj),(h.push o).objs.size=h.objs.size+1:=λh o=>Heap.size_push ..;have pg: ∀(h:Heap)(o:Obj)(n:Nat),o.isFreed=false->h.objs.size=n->(h.push o).get? n=some o:=λh o n hf e=>by subst e;exact Heap.get?_push_size _ hf
 have up: ∀(h:Heap)(o u:Obj)(n:Nat),h.get? n=some u->(h.push o).get? n=some u:=λh o u n e=>hP0 _ e;refine⟨⟨_,pg _ _ _ rfl (by simp only[z1]),rfl⟩,h _ ⟨pg _ _ _ rfl (by simp only[z1]),up _ _ _ _ (up _ _ _ _ (pg _ _ _ rfl (by simp only[z1]))),⟨.none,.none,up _ _ _ _ (pg _ _ _ rfl (by simp only[z1]))⟩,?_,?_⟩ λc o e=>up _ _ _ _ (up _ _ _ _ (up _ _ _ _ (up _ _ _ _ (up _ _ _ _ e))))⟩
 .exact IsSub.mk' (up _ _ _ _ (up _ _ _ _ (up _ _ _ _ (up _ _ _ _ (pg _ _ _ rfl rfl)))))
 .exact IsSub.mk' (up _ _ _ _ (up _ _ _ _ (up _ _ _ _ (pg _ _ _ rfl (by simp only[z1])))))
end
def apart_new(n:Nat):Apart5 (n+4) (n+2) (n+3) n (n+1):=by constructor<;>(show(_:Nat)≠_;omega)
def QY(k:Bool)(K:Vk)(H:Hp)(a:Addr)(xs:List V):Prop:=if k=true then SqL K H a xs else SqT K H a xs
def Itz(K:Vk)(k1 k2:Bool)(l1 l2:Addr):It:=
 ⟨λi H=> ∃xs ys x y,QY k1 K H l1 xs/\QY k2 K H l2 ys/\xs[i]? =some x/\ys[i]? =some y,
   λi H v H'=> ∃p x y,H p=none/\v=.ref p/\H'=gD H p (.tup [x,y])/\(∀xs,QY k1 K H l1 xs->xs[i]? =some x)/\ ∀ys,QY k2 K H l2 ys->ys[i]? =some y,
   λi H=> ∃xs ys,QY k1 K H l1 xs/\QY k2 K H l2 ys/\(xs.length<=i\/ys.length<=i)⟩
section
variable{X:Cx}{pins:Vg}{σ:St}{H:Hp}{s:Shared}
def _root_.L2.Inv.seqK(I:Inv X pins σ H s){k:Bool}{a:Addr}{xs:List V}(h:QY k X.K H a xs): ∃its:List Value,Vals xs its/\IsSeq k s.heap a its.toArray/\xs.length<=sizeLine:=by
 cases k with
 |true=>obtain⟨its,r,p,z⟩:=I.list h;exact⟨its,r,p.isList,z⟩
 |false=>obtain⟨its,r,p,z⟩:=I.tuple h;exact⟨its,r,p,z⟩
def _root_.L2.Inv.seqK_inj(I:Inv X pins σ H s){k:Bool}{a:Addr}{xs ys:List V}(h:QY k X.K H a xs)(h':QY k X.K H a ys):xs=ys:=by
 cases k with
 |true=>exact I.list_inj h h'
 |false=>exact I.tuple_inj h h'
def mR(I:Inv X pins σ H s){k:Bool}{l b:Addr}{xs:List V}(h:QY k X.K H l xs)(hb:uU X pins H b):l≠b:=by
 rintro rfl
 have kk: ∀o,X.K.lookup l=some o->False:=λo e=>by
  have e1:=I.mod.kin l o e;rcases hb.2.2.2.1 with z|z
  .exact I.ok.noex l o e1 z
  .exact absurd (Nat.lt_of_lt_of_le (Heap.lt_size e1) (Nat.le_trans I.ok.bsz z)) (lt_irrefl _)
 cases k with
 |true=>
  rcases (h:SqL X.K H l xs)with(h|⟨o,h⟩)|⟨o,its,n,h,_⟩
  .rw[hb.1]at h;cases h
  .rw[hb.1]at h;cases h
  .exact kk o h
 |false=>
  rcases (h:SqT X.K H l xs)with(h|⟨o,h⟩)|⟨o,its,n,h,_⟩
  .rw[hb.1]at h;cases h
  .rw[hb.1]at h;cases h
  .exact kk o h
end
def Ah{P:Program}{w:World}{K:Vk}{elts:Vj}{kt:Nat}{pt:Pos}{k1 k2:Bool}{z TI TO i1 i2 l1 l2:Addr}(D:Apart5 z TI TO i1 i2):
  Turn P w K (.Tuple elts kt pt) (Itz K k1 k2 l1 l2) [z,TI,TO,i1,i2] z (λi h=>ZipSt k1 k2 z TI TO i1 i2 l1 l2 i h) where
 mem:=by simp
 obj:=λi h st b hb=>by
  obtain⟨hz,hTI,⟨a,b',hTO⟩,h1,h2⟩:=st;have hb':b=z\/b=TI\/b=TO\/b=i1\/b=i2:=by simpa using hb
  rcases hb' with rfl|rfl|rfl|rfl|rfl
  .exact⟨_,hz,λv q=>by cases q⟩
  .exact⟨_,hTI,λv q=>by cases q⟩
  .exact⟨_,hTO,λv q=>by cases q⟩
  .exact h1.there
  .exact h2.there
 keep:=λi h h' st k=>by obtain⟨hz,hTI,⟨a,b',hTO⟩,h1,h2⟩:=st;exact⟨k z (by simp) _ hz,k TI (by simp) _ hTI,⟨a,b',k TO (by simp) _ hTO⟩,h1.move λo e=>k i1 (by simp) o e,h2.move λo e=>k i2 (by simp) o e⟩
 item:=by
  intro X hP hw hK hc i pins s σ H E I hf st hg;subst hP hw hK;obtain⟨xs,ys,x,y,q1,q2,hx,hy⟩:=hg;obtain⟨its,r1,p1,_⟩:=I.seqK q1;obtain⟨its2,r2,p2,_⟩:=I.seqK q2;obtain⟨u,hu,ru⟩:=r1.get hx;obtain⟨v,hv,rv⟩:=r2.get hy;have off: ∀{k:Bool}{l:Addr}{xs:List V},QY k X.K H l xs->Off l z TO i1 i2:=λq=>⟨mR I q (hf z (by simp)),mR I q (hf TO (by simp)),mR I q (hf i1 (by simp)),mR I q (hf i2 (by simp))⟩
  have hT:s.TypeIs (.ref z) "zip":=⟨_,st.z,rfl⟩
  unfold pyNext
  refine wB (wpAny_attempt (wpAny_callSpecial?_slot (name:=Str.ofString "__next__") hT F.slot_zip_next (wpAny_call_entry F.slot_zip_next hT F.entry_zip_next
   (Af D (off q1) (off q2) st p1 p2 (x:=u) (y:=v) (by simpa using hu) (by simpa using hv) λh' a1 a2 a3 a4 a5 a6=>wP ⟨_,rfl,?_⟩) (F.args_zip_next_1 _))))
  refine wpAny_letOwnedTupleGo_zip a1 λh2 z2 sb2=>?_;have hpn:H s.heap.objs.size=none:=I.hok.fresh (Nat.le_refl _)
  have I0:Inv X pins σ (gD H s.heap.objs.size (.tup [x,y])) {s with heap:=s.heap.push {cls:=.type "tuple",data:=.seq #[u,v]}}:=
   I.laid (t':=s.toks) (o:=.tup [x,y]) (λb o e=>hP0 _ e) (Nat.le_refl _) ⟨by show 2<=sizeLine;decide,[u,v],.cons ru (.cons rv .nil),⟨_,Heap.get?_push_size _ rfl,rfl,_,rfl⟩⟩
  have lt: ∀b∈[z,TI,TO,i1,i2],b<s.heap.objs.size:=λb hb=>by
   have: ∃o,s.heap.get? b=some o:=by
    obtain⟨hz,hTI,⟨a,b',hTO⟩,g1,g2⟩:=st;have hb':b=z\/b=TI\/b=TO\/b=i1\/b=i2:=by simpa using hb
    rcases hb' with rfl|rfl|rfl|rfl|rfl
    .exact⟨_,hz⟩
    .exact⟨_,hTI⟩
    .exact⟨_,hTO⟩
    .obtain⟨o,e,_⟩:=g1.there;exact⟨o,e⟩
    .obtain⟨o,e,_⟩:=g2.there;exact⟨o,e⟩
   obtain⟨o,e⟩:=this;exact Heap.lt_size e
  have fr: ∀b∈[z,TI,TO,i1,i2],gD H s.heap.objs.size (.tup [x,y]) b=none:=λb hb=>by rw[yF (Nat.ne_of_lt (lt b hb))];exact(hf b hb).1
  have zne:s.heap.objs.size≠z:=Nat.ne_of_gt (lt z (by simp))
  have mv: ∀b o,b∉[z,TI,TO,i1,i2]->(s.heap.push {cls:=.type "tuple",data:=.seq #[u,v]}).get? b=some o->h2.get? b=some o:=λb o hb e=>by
   simp only[mC,nM,or_false,not_or]at hb;refine sb2.extBut _ _ hb.1 ?_;by_cases hbs:b=s.heap.objs.size
   .subst hbs;rw[Heap.get?_push_size _ rfl]at e;cases e;exact a5
   .rw[Heap.get?_push_ne _ _ _ hbs]at e;exact a6 b o hb.1 hb.2.2.1 hb.2.2.2.1 hb.2.2.2.2 e
  have I2:=I0.turnedL (h':=h2) (t':=s.toks) mv λb hb=>let ⟨_,c2,c3,c4,c5,c6⟩:=hf b hb;⟨fr b hb,c2,c3,c4,c5,c6⟩;refine⟨.ref s.heap.objs.size,_,I2,rfl,⟨s.heap.objs.size,x,y,hpn,rfl,rfl,λzs hz=>?_,λzs hz=>?_⟩,⟨z2,?_,⟨u,v,?_⟩,?_,?_⟩,fr⟩
  .rw[I.seqK_inj hz q1];exact hx
  .rw[I.seqK_inj hz q2];exact hy
  .exact sb2.extBut _ _ D.TIz (a6 TI _ D.TIz D.TITO D.TIi1 D.TIi2 st.ti)
  .exact sb2.extBut _ _ D.TOz a2
  .exact a3.move λo e=>sb2.extBut _ _ D.i1z e
  .exact a4.move λo e=>sb2.extBut _ _ D.i2z e
 done:=by
  intro X hP hw hK hc i pins s σ H E I hf st hg;subst hP hw hK;obtain⟨xs,ys,q1,q2,hx⟩:=hg;obtain⟨its,r1,p1,_⟩:=I.seqK q1;obtain⟨its2,r2,p2,_⟩:=I.seqK q2;have off: ∀{k:Bool}{l:Addr}{xs:List V},QY k X.K H l xs->Off l z TO i1 i2:=λq=>⟨mR I q (hf z (by simp)),mR I q (hf TO (by simp)),mR I q (hf i1 (by simp)),mR I q (hf i2 (by simp))⟩
  have hT:s.TypeIs (.ref z) "zip":=⟨_,st.z,rfl⟩
  have e1:=r1.length;have e2:=r2.length;unfold pyNext
  refine wB (wpAny_attempt (wpAny_callSpecial?_slot (name:=Str.ofString "__next__") hT F.slot_zip_next (wpAny_call_entry F.slot_zip_next hT F.entry_zip_next
   (Gr (I.ok.hd hc) D (off q1) (off q2) st p1 p2 (by rcases hx with h|h;(exact .inl (by simp;omega));exact .inr (by simp;omega)) λh' e hk he=>?_) (F.args_zip_next_1 _))))
  obtain⟨o,ho,hcl⟩:=he;refine wB (wpAny_isInstance (T:="StopIteration") (b:=true) ⟨o,ho,hcl⟩ isSubtype_stop (wP ⟨rfl,?_⟩));refine I.turnedL (h':=h') (t':=s.toks) (λb o hb e=>?_) hf;simp only[mC,nM,or_false,not_or]at hb;exact hk b o hb.1 hb.2.2.1 hb.2.2.2.1 hb.2.2.2.2 e
 self:=λ_ _ _ _ _ st h=>wpAny_pyIter_zip st.z h
structure Sr where
 k:Bool
 ds:List MV
 gs:List (Nat×List MV)
def srcOf(S:Sto):Er->Option Sr
 |.val (.tup ds)=>some ⟨false,ds,[]⟩
 |.new ds=>some ⟨true,ds,[]⟩
 |.val (.scr ds)=>some ⟨true,ds,[]⟩
 |.val (.loc l)=>match S[l]? with
  |some (.lst ds)=>some ⟨true,ds,[(l,ds)]⟩
  |_=>none
 |_=>none
structure SrcD(X:Cx)(q:Sr)(l:Addr)(P:List Addr->Sto->Hp->Prop):Prop where
 get: ∀α S H,P α S H-> ∃vs,QY q.k X.K H l vs/\DenL X.K α H q.ds vs
 stays: ∀α1 S1 H1 α2 S2 H2,P α1 S1 H1->Ext α1 H1 α2 H2->Wd X.g α2 S2 H2->stay q.gs S2->P α2 S2 H2
 st: ∀α S H,P α S H->stay q.gs S
def QZ{X:Cx}{α:Vb}{S:Sto}{H:Hp}(wd:Wd X.g α S H){r:Er}{x:V}{q:Sr}(e:srcOf S r=some q)(d:DenX X.K α H r x): ∃l P,x=.ref l/\P α S H/\SrcD X q l P:=by
 unfold srcOf at e;split at e
 .rename_i ds;cases e;obtain⟨a,vs,rfl,s,l⟩:=eW d;exact⟨a,λα S H=> ∃vs,SqT X.K H a vs/\DenL X.K α H ds vs,rfl,⟨vs,s,l⟩,λα S H h=>h,λα1 S1 H1 α2 S2 H2 ⟨vs,h1,h2⟩ x w _=>⟨vs,x.sqT h1,h2.ext x⟩,λ_ _ _ _=>cQ⟩
 .rename_i ds;cases e;obtain⟨b,vs,rfl,h,n,l⟩:=d
  exact⟨b,λα S H=> ∃vs,H b=some (.lst vs)/\b∉α/\DenL X.K α H ds vs,rfl,⟨vs,h,n,l⟩,λα S H ⟨vs,h1,_,h2⟩=>⟨vs,(SqL.of h1:SqL X.K H b vs),h2⟩,
   λα1 S1 H1 α2 S2 H2 ⟨vs,h1,h2,h3⟩ x w _=>⟨vs,x.keep b _ h1 h2,x.out h1 h2,h3.ext x⟩,λ_ _ _ _=>cQ⟩
 .rename_i ds;cases e;obtain⟨a,vs,rfl,s,l⟩:=DX d;exact⟨a,λα S H=> ∃vs,SqF X.K H a vs/\DenL X.K α H ds vs,rfl,⟨vs,s,l⟩,λα S H ⟨vs,h1,h2⟩=>⟨vs,h1.l,h2⟩,λα1 S1 H1 α2 S2 H2 ⟨vs,h1,h2⟩ x w _=>⟨vs,x.sqF h1,h2.ext x⟩,λ_ _ _ _=>cQ⟩
 .rename_i n;split at e
  .rename_i ds hS;cases e;obtain⟨a,rfl,h⟩:=eX d;obtain⟨vs,h1,h2⟩:=wd.obj n a _ h hS;refine⟨a,λα S H=> ∃vs,H a=some (.lst vs)/\DenL X.K α H ds vs/\α[n]? =some a/\S[n]? =some (.lst ds),rfl,⟨vs,h1,h2,h,hS⟩,λα S H ⟨vs,h1,h2,_⟩=>⟨vs,(SqL.of h1:SqL X.K H a vs),h2⟩,?_,?_⟩
   .intro α1 S1 H1 α2 S2 H2 ⟨vs,a1,a2,a3,a4⟩ x w hs;have hs':=hs (n,ds) (by simp);obtain⟨us,b1,b2⟩:=w.obj n a _ (x.at a3) hs';exact⟨us,b1,b2,x.at a3,hs'⟩
   .intro α S H ⟨vs,_,_,_,a4⟩ p hp;have:p=(n,ds):=by simpa using hp
    subst this;exact a4
  .cases e
 .cases e
def iZip(K:Vk)(ta:TA):TI:=λσ H R=>ta σ H λvs H1=> ∃k1 k2 l1 l2,vs=[.ref l1,.ref l2]/\(∃xs,QY k1 K H1 l1 xs)/\(∃ys,QY k2 K H1 l2 ys)/\R (Itz K k1 k2 l1 l2) H1
section
variable{X:Cx}{W:XW}{a b:Expr}{elts:Vj}{kt:Nat}{pt p pos:Pos}{ta:TA}{af:Rho->Sto->R (List Er)}
def Ni:bootBuiltins "zip"=some (.type "zip"):=by decide+kernel
def Nj(hg:Gl X "zip")(hm:X.mg "zip"=none)(ha:PA X [a,b] ta)(hs:starEach [a,b] X.env=[(false,eval a X.env),(false,eval b X.env)]:=by rfl)(hs2:starEach [b] X.env=[(false,eval b X.env)]:=by rfl):
  PI X (.Tuple elts kt pt) (.Call (.Name "zip" p) [a,b] [] pos) (iZip X.K ta):=by
 intro pins s σ H R I h;refine Call_ (AD I hg hm Ni (PyProof.Rows.callWith_type1 (jM (ha pos pins s σ H _ I h) λus s1 ⟨vs,H1,I1,r1,q1⟩=>?_) (by rw[hs,hs2]) (by rw[hs2];rfl)));obtain⟨k1,k2,l1,l2,rfl,⟨xs,c1⟩,⟨ys,c2⟩,q⟩:=q1
 cases r1 with
 |cons r rr=>
  cases rr with
  |cons r' rr=>
   cases rr;cases r;cases r';obtain⟨its,v1,p1,_⟩:=I1.seqK c1;obtain⟨its2,v2,p2,_⟩:=I1.seqK c2;refine Ag p1 p2 λh' st hk=>wpAny_pyIter_zip st.z ?_;have I2:Inv X pins σ H1 {s1 with heap:=h'}:=I1.kept (t':=s1.toks) hk;refine⟨_,_,_,_,H1,rfl,I2,Ah (apart_new _),st,λb hb=>?_,q⟩
   have hle:s1.heap.objs.size<=b:=by
    have hb':b=s1.heap.objs.size+4\/b=s1.heap.objs.size+2\/b=s1.heap.objs.size+3\/b=s1.heap.objs.size\/b=s1.heap.objs.size+1:=by simpa using hb
    rcases hb' with h|h|h|h|h<;>rw[h]<;>(first |exact Nat.le_refl _|exact Nat.le_add_right _ _)
   exact I1.fpOk hle (I1.hok.fresh hle)
def pairs(xs ys:Xb):List MV:=List.zipWith (λx y=>.tup [x,y]) xs ys
def Nk(rs:List Er)(S:Sto):R Wk:=match rs with
 |[p,q]=>match srcOf S p with
  |some a=>match srcOf S q with
   |some b=>.ok ⟨pairs a.ds b.ds,a.gs++b.gs⟩ S
   |none=>.no
  |none=>.no
 |_=>.no
def Ai(hg:Gl X "zip")(hm:X.mg "zip"=none)(ha:JS X W [a,b] af)(hs:starEach [a,b] X.env=[(false,eval a X.env),(false,eval b X.env)]:=by rfl)(hs2:starEach [b] X.env=[(false,eval b X.env)]:=by rfl):
  Gb X W (.Tuple elts kt pt) (.Call (.Name "zip" p) [a,b] [] pos) (λρ S=>(af ρ S).bind Nk):=by
 obtain⟨t,ha,k⟩:=ha;refine⟨_,Nj hg hm ha hs hs2,λα ρ S σ H Rc wd sl q=>k α ρ S σ H _ wd sl (q.bind λvs rs S1 α1 H1 e x1 w1 d1 q1=>?_)⟩
 replace q1:=q1.shift x1
 unfold Nk at q1;split at q1
 .rename_i r1 r2;split at q1
  .rename_i s1 e1;split at q1
   .rename_i s2 e2;obtain⟨u,v,rfl,du,dv⟩:=Rz d1;obtain⟨l1,P1,rfl,p1,D1⟩:=QZ w1 e1 du;obtain⟨l2,P2,rfl,p2,D2⟩:=QZ w1 e2 dv;have g1:=D1.get _ _ _ p1;have g2:=D2.get _ _ _ p2;refine⟨s1.k,s2.k,l1,l2,rfl,⟨_,g1.choose_spec.1⟩,⟨_,g2.choose_spec.1⟩,q1.here (u:=Itz X.K s1.k s2.k l1 l2) w1 ⟨λα S H=>P1 α S H/\P2 α S H,?_,⟨p1,p2⟩,?_,?_⟩⟩
    .intro i α2 S2 H2 ⟨b1,b2⟩ w2;obtain⟨us,c1,c2⟩:=D1.get _ _ _ b1;obtain⟨ws,c3,c4⟩:=D2.get _ _ _ b2;have hl:(pairs s1.ds s2.ds).length=min us.length ws.length:=by unfold pairs;rw[List.length_zipWith,c2.length,c4.length]
     refine⟨λhi=>?_,λhi=>?_⟩
     .have hi:i<(pairs s1.ds s2.ds).length:=hi;have h1:i<us.length:=by omega
      have h2:i<ws.length:=by omega
      refine⟨⟨us,ws,us[i],ws[i],c1,c3,gE h1,gE h2⟩,?_⟩;rintro x H' ⟨pp,xx,yy,hp,rfl,rfl,hx,hy⟩;obtain⟨d,hd,dd⟩:=c2.get (hx us c1);obtain⟨f,hf,df⟩:=c4.get (hy ws c3);have xn:=w2.newx (o:=.tup [xx,yy]) hp;have wn:=w2.new (o:=.tup [xx,yy]) hp;refine⟨xn,wn,⟨D1.stays _ _ _ _ _ _ b1 xn wn (D1.st _ _ _ b1),D2.stays _ _ _ _ _ _ b2 xn wn (D2.st _ _ _ b2)⟩,.tup [d,f],?_,?_⟩
      .unfold pairs;rw[List.getElem?_zipWith,hd,hf]
      .exact pW (.of xB) (yZ (dd.ext xn) (yZ (df.ext xn) xG))
     .have hi:(pairs s1.ds s2.ds).length<=i:=hi;refine⟨us,ws,c1,c3,?_⟩;by_cases h1:us.length<=i
      .exact .inl h1
      .exact .inr (by omega)
    .intro α1 S1 H1 α2 S2 H2 ⟨b1,b2⟩ x w hs;exact⟨D1.stays _ _ _ _ _ _ b1 x w λp hp=>hs p (mem_append_left _ hp),D2.stays _ _ _ _ _ _ b2 x w λp hp=>hs p (List.mem_append_right _ hp)⟩
    .intro p hp;rcases List.mem_append.mp hp with h|h
     .exact D1.st _ _ _ p1 p h
     .exact D2.st _ _ _ p2 p h
   .exact q1.elim
  .exact q1.elim
 .exact q1.elim
end
def IF(K:Vk)(F:List MV->Sto->R Er):Sp:=λvs H Q _=> ∃ds,DenL K [] H ds vs/\ds.length=1/\ ∀g:Gm,g.K=K->Post g W0 [] H (F ds []) Q
def Aj{g:Gm}{F:List MV->Sto->R Er}: ∀vs H Q E,IF g.K F vs H Q E->JW g 1 F vs H Q E:=λvs H Q E ⟨ds,l,hl,q⟩=>⟨[],[],ds,⟨rfl,by simp,λl a o h=>by simp at h⟩,l,hl,q g rfl⟩
def Nl{K:Vk}{H:Hp}{a:Addr}{xs:List V}(hO:YS H)(h:SqL K H a xs):SqF K H a xs:=by
 rcases h with(h|⟨o,h⟩)|h
 .rcases hO a with z|⟨o,ys,z⟩
  .rw[z]at h;cases h
  .rw[z]at h;cases h
 .exact .inl ⟨o,h⟩
 .exact .inr h
def Ak{K:Vk}{F:List MV->Sto->R Er}{H:Hp}{a:Addr}{ns:Uj}(hO:YS H)(hS:SqL K H a (ns.map V.int))(h: ∃S,F [.scr (ns.map MV.int)] []=.ok (.val (.bl true)) S):IF K F [.ref a] H (λv _=>v=.bl true) λ_ _ _=>False:=by obtain⟨S,h⟩:=h;refine⟨_,yZ (SU (Nl hO hS) (HZ ns)) xG,rfl,λg _=>?_⟩;rw[h];exact λv α' H' x w d=>vA d.1
theorem cT{β γ:Type}(b:β)(S:Sto)(k:β->Sto->R γ):(R.ok b S).bind k=k b S:=by have h:=R.bind_ok b S k;exact Eq.trans h rfl
theorem Gu(d:MV)(S:Sto):Fv (some (some d)) S=.ok (.val d) S:=rfl
def vI{S T:Sto}:SY S (S++T):=⟨by rw[lA];omega,λl hl=>.inl (getElem?_append_left hl)⟩
def uF(n:Nat)(i:Int):lo n (.int i):=by unfold lo;trivial
def AS(n:Nat)(i:Db):lo n (.str i):=by unfold lo;trivial
def IG(n:Nat)(i:Bool):lo n (.bl i):=by unfold lo;trivial
def RA(n:Nat):lo n .non:=by unfold lo;trivial
def rR{n:Nat}{ds:Xb}(h:pZ n ds):lo n (.tup ds):=by unfold lo;exact h
def Nn{n l:Nat}(h:l<n):lo n (.loc l):=by unfold lo;exact h
theorem gK{n:Nat}: ∀{ds:Xb},(∀d∈ds,lo n d)->pZ n ds
 |[],_=>by unfold pZ;trivial
 |d::ds,h=>by unfold pZ;exact⟨h d mF0,gK λe he=>h e (mO _ he)⟩
def Al{S T:Sto}{d:MV}(h:lo S.length d)(hn: ∀l,d≠.loc l):bD S (.val d) (S++T)=.ok (.val d) S:=by
 unfold bD;rw[iP vI];have e:(S++T).take S.length=S:=by simp
 cases d with
 |loc l=>exact absurd rfl (hn l)
 |_=>dsimp only;rw[iP h,e]
def Am{S T:Sto}{ds:Xb}(h:pZ S.length ds):bD S (.new ds) (S++T)=.ok (.new ds) S:=by
 unfold bD;rw[iP vI];have e:(S++T).take S.length=S:=by simp
 dsimp only;rw[iP h,e]
def An{S T:Sto}{l:Nat}{ds:Xb}(hl:S.length<=l)(hS:(S++T)[l]? =some (.lst ds))(h:pZ S.length ds):bD S (.val (.loc l)) (S++T)=.ok (.new ds) S:=by
 unfold bD;rw[iP vI];have e:(S++T).take S.length=S:=by simp
 dsimp only;rw[iN (by omega),hS];dsimp only;rw[iP h,e]
def oY{n:Nat}{F:List MV->Sto->R Er}{rs:List Er}{S T:Sto}{d:MV}(hn:rs.length=n)(hF:F (zM rs S).1 (zM rs S).2=.ok (.val d) (S++T))(h:lo S.length d)(hd: ∀l,d≠.loc l):zR n F rs S=.ok (.val d) S:=by unfold zR;rw[iP hn,hF];exact Al h hd
def rS{n:Nat}{F:List MV->Sto->R Er}{rs:List Er}{S T:Sto}{ds:Xb}(hn:rs.length=n)(hF:F (zM rs S).1 (zM rs S).2=.ok (.new ds) (S++T))(h:pZ S.length ds):zR n F rs S=.ok (.new ds) S:=by unfold zR;rw[iP hn,hF];exact Am h
def eB{n:Nat}{F:List MV->Sto->R Er}{rs:List Er}{S T:Sto}{l:Nat}{ds:Xb}(hn:rs.length=n)(hF:F (zM rs S).1 (zM rs S).2=.ok (.val (.loc l)) (S++T))(hl:S.length<=l)(hS:(S++T)[l]? =some (.lst ds))(h:pZ S.length ds):zR n F rs S=.ok (.new ds) S:=by unfold zR;rw[iP hn,hF];exact An hl hS h
def nF{n:Nat}{F:List MV->Sto->R Er}{rs:List Er}{S:Sto}{d:MV}(hn:rs.length=n)(hF:F (zM rs S).1 (zM rs S).2=.ok (.val d) S)(h:lo S.length d)(hd: ∀l,d≠.loc l):zR n F rs S=.ok (.val d) S:=oY (T:=[]) hn (by rw[aN];exact hF) h hd
section
variable{S:Sto}
theorem Sg(b:Bool)(S:Sto):gC (.val (.bl b)) S=.ok b S:=rfl
theorem as_int(i:Int)(S:Sto):MN (.val (.int i)) S=.ok (some i) S:=rfl
theorem Np(b:Bool)(S:Sto):NL (.val (.bl b)) S=.ok b S:=rfl
theorem add_int(i j:Int)(S:Sto):wH (.val (.int i)) (.val (.int j)) S=.ok (.val (.int (i+j))) S:=rfl
theorem sub_int(i j:Int)(S:Sto):AR (.val (.int i)) (.val (.int j)) S=.ok (.val (.int (i - j))) S:=rfl
def add_str{x y:Db}(h:x.length+y.length<=sizeLine):wH (.val (.str x)) (.val (.str y)) S=.ok (.val (.str (x++y))) S:=iP h
def TQ{x y:Xb}(h:x.length+y.length<=sizeLine):wH (.val (.tup x)) (.val (.tup y)) S=.ok (.val (.tup (x++y))) S:=iP h
def EH{p q:Er}{x y:Xb}(h1:XT S p=some x)(h2:XT S q=some y)(h:x.length+y.length<=sizeLine):wH p q S=.ok (.new (x++y)) S:=by
 have e:TC p q S=.ok (.new (x++y)) S:=by unfold TC;rw[h1,h2];exact iP h
 unfold wH;split
 .cases h1
 .cases h1
 .cases h1
 .exact e
theorem Nq{g:Int->Int->Bool}(i j:Int)(S:Sto):Ue g (.val (.int i)) (.val (.int j)) S=.ok (.val (.bl (g i j))) S:=rfl
def Gw(i j:Int):Ff (.int i) (.int j)=decide (i=j):=by
 show(i==j)=_;by_cases h:i=j
 .subst h;simp
 .rw[dF0 h];simpa using h
def Gx(x y:Db):Ff (.str (gF x)) (.str (gF y))=decide (x=y):=by
 show(gF x==gF y)=_;by_cases h:x=y
 .subst h;simp
 .rw[dF0 h];have:gF x≠gF y:=λz=>h (CP z);simpa using this
theorem TR(n:Nat)(i j:Int):eqv S (n+1) (.int i) (.int j)=some (decide (i=j)):=by rw[<-Gw];rfl
theorem KE(n:Nat)(x y:Db):eqv S (n+1) (.str x) (.str y)=some (decide (x=y)):=by rw[<-Gx];rfl
theorem Nr(n:Nat)(x:Int)(y:Db):eqv S (n+1) (.int x) (.str y)=some false:=rfl
theorem Nt(n:Nat)(x:Db)(y:Int):eqv S (n+1) (.str x) (.int y)=some false:=rfl
theorem RB(n:Nat)(x y:Bool):eqv S (n+1) (.bl x) (.bl y)=some (x==y):=rfl
theorem Gy(d f:MV):fU (.val d) (.val f) S=match eqv S (zV+1) d f with |some k=>.ok (.val (.bl k)) S|none=>.no:=rfl
theorem Gz(d f:MV):GM (.val d) (.val f) S=match eqv S (zV+1) d f with |some k=>.ok (.val (.bl !k)) S|none=>.no:=rfl
def KF{d f:MV}{k:Bool}(h:eqv S (zV+1) d f=some k):fU (.val d) (.val f) S=.ok (.val (.bl k)) S:=by rw[Gy,h]
def KG{d f:MV}{k:Bool}(h:eqv S (zV+1) d f=some k):GM (.val d) (.val f) S=.ok (.val (.bl !k)) S:=by rw[Gz,h]
def eq_int(i j:Int)(S:Sto):fU (.val (.int i)) (.val (.int j)) S=.ok (.val (.bl (decide (i=j)))) S:=KF (TR _ i j)
def eq_str(x y:Db)(S:Sto):fU (.val (.str x)) (.val (.str y)) S=.ok (.val (.bl (decide (x=y)))) S:=KF (KE _ x y)
def ne_bl(x y:Bool)(S:Sto):GM (.val (.bl x)) (.val (.bl y)) S=.ok (.val (.bl (!(x==y)))) S:=KG (RB _ x y)
theorem lt_int(i j:Int)(S:Sto):Na (.val (.int i)) (.val (.int j)) S=.ok (.val (.bl (decide (i<j)))) S:=rfl
theorem lt_str(i j:Db)(S:Sto):Na (.val (.str i)) (.val (.str j)) S=.ok (.val (.bl (decide (i<j)))) S:=rfl
def yH{b:Int}(h:0<b)(h2:b<1073741824)(a:Int)(S:Sto):gI (.val (.int a)) (.val (.int b)) S=.ok (.val (.int (a / b))) S:=by
 refine iP ⟨h,?_⟩;have h3:b.natAbs<2 ^ 30:=by omega
 have:=(Nat.log2_lt (by omega:b.natAbs≠0)).mpr h3;omega
def mod_lit{b:Int}(h:0<b)(a:Int)(S:Sto):xW (.val (.int a)) (.val (.int b)) S=.ok (.val (.int (a % b))) S:=iP h
def CV{b:Int}(h: -(2 ^ 64)<b/\b<2 ^ 64)(a:Int)(S:Sto):iK (.val (.int a)) (.val (.int b)) S=.ok (.val (.int (a * b))) S:=iP (Or.inr (Or.inl h))
def eC{a:Int}(h: -(2 ^ 64)<a/\a<2 ^ 64)(b:Int)(S:Sto):iK (.val (.int a)) (.val (.int b)) S=.ok (.val (.int (a * b))) S:=iP (Or.inl h)
def TU{a b:Int}(h:WI a b)(S:Sto):CI (.val (.int a)) (.val (.int b)) S=.ok (.val (.int (a ^ b.toNat))) S:=iP h
theorem Ha(ρ:Rho)(i:Nat)(d:MV)(S:Sto):JU ρ i (.val d) S=.ok (.next (ρ.set i (some d))) S:=rfl
theorem Hb(ρ:Rho)(i:Nat)(ds:Xb)(S:Sto):JU ρ i (.new ds) S=.ok (.next (ρ.set i (some (.loc S.length)))) (S++[.lst ds]):=rfl
theorem Hc(S:Sto):zM [] S=([],S):=rfl
theorem Hd(d:MV)(rs:List Er)(S:Sto):zM (.val d::rs) S=(d::(zM rs S).1,(zM rs S).2):=rfl
theorem zC{F G:AY}{ρ ρ':Rho}{S S':Sto}(h:F ρ S=.ok (.next ρ') S'):zL F G ρ S=G ρ' S':=by unfold zL;rw[h];rfl
theorem wW{F G:AY}{ρ:Rho}{S S':Sto}{r:Er}(h:F ρ S=.ok (.ret r) S'):zL F G ρ S=.ok (.ret r) S':=by unfold zL;rw[h];rfl
def bF(S:Sto):stay [] S:=cQ
def yI{gf:MV->Rho->Sto->R Rho}{b:AY}{gs:Xe}{d:MV}{ds:Xb}{ρ ρ0 ρ':Rho}{S0 S':Sto}(hg:gf d ρ S=.ok ρ0 S0)(h:b ρ0 S0=.ok (.next ρ') S')(hs:stay gs S'):xY gf b gs (d::ds) ρ S=xY gf b gs ds ρ' S':=by
 conv=>lhs;unfold xY
 rw[hg,cT,h,cT];dsimp only;rw[iP hs]
def KH{gf:MV->Rho->Sto->R Rho}{b:AY}{gs:Xe}{d:MV}{ds:Xb}{ρ ρ0:Rho}{S0 S':Sto}{r:Er}(hg:gf d ρ S=.ok ρ0 S0)(h:b ρ0 S0=.ok (.ret r) S'):xY gf b gs (d::ds) ρ S=.ok (.ret r) S':=by
 conv=>lhs;unfold xY
 rw[hg,cT,h,cT]
def uG{t:AZ}{b:AY}{n:Nat}{ρ ρ':Rho}{S1 S2:Sto}(h1:t ρ S=.ok true S1)(h2:b ρ S1=.ok (.next ρ') S2):gH t b (n+1) ρ S=gH t b n ρ' S2:=by
 conv=>lhs;unfold gH
 rw[h1,cT,iP rfl,h2,cT]
def IH{t:AZ}{b:AY}{n:Nat}{ρ:Rho}{S1:Sto}(h1:t ρ S=.ok false S1):gH t b (n+1) ρ S=.ok (.next ρ) S1:=by
 conv=>lhs;unfold gH
 rw[h1,cT,iN xF0]
def CW{α:Type}{xs:List α}{i:Int}(h0:0<=i)(h1:i<xs.length): ∃c,tM xs i=some c:=by refine⟨xs[i.toNat]'(by omega),?_⟩;unfold tM MW;rw[iP h0,iP h1];exact gE _
def KI{α:Type}{P:α->Prop}{xs:List α}{i:Int}{e:α}(h: ∀e∈xs,P e)(z:tM xs i=some e):P e:=by
 unfold tM at z
 cases q:MW xs.length i with
 |none=>rw[q]at z;cases z
 |some j=>rw[q]at z;exact h e (mem_of_getElem? (show xs[j]? =some e from z))
def ix_str{x:Db}{i:Int}{c:Nat}(h:x.length<=sizeLine)(hk:tM x i=some c):yX (.val (.str x)) (.val (.int i)) S=.ok (.val (.str [c])) S:=by show(if x.length<=sizeLine then match tM x i with |some c=>R.ok (Er.val (.str [c])) S|none=>.no else .no)=_;rw[iP h,hk]
def ix_tup{ds:Xb}{i:Int}{d:MV}(hk:tM ds i=some d):yX (.val (.tup ds)) (.val (.int i)) S=.ok (.val d) S:=by show(match tM ds i with |some d=>R.ok (Er.val d) S|none=>.no)=_;rw[hk]
def Nu{ds:Xb}{i:Int}{d:MV}(hk:tM ds i=some d):yX (.new ds) (.val (.int i)) S=.ok (.val d) S:=by show(match tM ds i with |some d=>R.ok (Er.val d) S|none=>.no)=_;rw[hk]
def cU{l:Nat}{ds:Xb}{i:Int}{d:MV}(hS:S[l]? =some (.lst ds))(hk:tM ds i=some d):yX (.val (.loc l)) (.val (.int i)) S=.ok (.val d) S:=by
 have e:eA S (.val (.loc l))=some ds:=by unfold eA;dsimp only;rw[hS]
 show(match eA S (.val (.loc l))with |some ds=>getL ds (.val (.int i)) S|none=>.no)=_;rw[e];show(match tM ds i with |some d=>R.ok (Er.val d) S|none=>.no)=_;rw[hk]
def bY{l:Nat}{ds:Xb}(hS:S[l]? =some (.lst ds)):fX [.val (.loc l)] S=.ok (.val (.int ds.length)) S:=by
 have e:eA S (.val (.loc l))=some ds:=by unfold eA;dsimp only;rw[hS]
 have e2:itemsOf S (.val (.loc l))=some ds:=by unfold itemsOf;exact e
 show(match itemsOf S (.val (.loc l))with |some ds=>R.ok (Er.val (.int ds.length)) S|none=>.no)=_;rw[e2]
def iL{l:Nat}{ds:Xb}(hS:S[l]? =some (.lst ds)):eA S (.val (.loc l))=some ds:=by unfold eA;dsimp only;rw[hS]
def KL{l:Nat}{ds:Xb}(hS:S[l]? =some (.lst ds)):XT S (.val (.loc l))=some ds:=by unfold XT;dsimp only;rw[hS]
def cV{l:Nat}{ds:Xb}(hS:S[l]? =some (.lst ds)):GR (.val (.loc l)) S=.ok ⟨ds,[(l,ds)]⟩ S:=by unfold GR;dsimp only;rw[hS]
def bO{l:Nat}{ds:Xb}(hS:S[l]? =some (.lst ds)):stay [(l,ds)] S:=λp hp=>by
 have:p=(l,ds):=by simpa using hp
 subst this;exact hS
def KM{j:Int}(h: -(2 ^ 62)<=j/\j<2 ^ 62):dW [.val (.int j)] S=.ok ⟨(List.range j.toNat).map λk=>.int (k:Nat),[]⟩ S:=iP h
def cut_str{x:Db}(h:x.length<=sizeLine)(lo hi:Vi):mL (.val (.str x)) lo hi S=.ok (.val (.str (cN x lo hi))) S:=iP h
def Ao{α:Type}(x:List α)(lo hi:Vi):(cN x lo hi).length<=x.length:=by unfold cN;rw[lT,List.length_drop];omega
def Ap{α:Type}{x:List α}{lo hi:Vi}{a:α}(h:a∈cN x lo hi):a∈x:=mem_of_mem_drop (mem_of_mem_take h)
def qB{α:Type}(x:List α)(k:Int)(h0:0<=k):cN x none (some k)=x.take k.toNat:=by
 unfold cN;have h1:HT.sIx x.length 0 none=0:=rfl;rw[h1];have h2:HT.sIx x.length x.length (some k)=min k.toNat x.length:=by unfold HT.sIx;simp only;split<;>omega
 rw[h2,drop_zero,Nat.sub_zero];by_cases hk:k.toNat<=x.length
 .rw[min_eq_left hk]
 .rw[Nat.min_eq_right (by omega),List.take_length,List.take_of_length_le (by omega)]
def fits{n:Nat}(h:n<=1000000):n<=sizeLine:=by rw[sizeLine_eq];exact Nat.le_trans h (by decide)
def oF{rs:List Er}(h:rs.length<=1000000):gX rs S=.ok (.new (zM rs S).1) (zM rs S).2:=iP (fits h)
def rV{rs:List Er}(h:rs.length<=1000000):nA rs S=.ok (.val (.tup (zM rs S).1)) (zM rs S).2:=iP (fits h)
def lst0(S:Sto):gX [] S=.ok (.new []) S:=oF (by simp)
def lst1(a:MV)(S:Sto):gX [.val a] S=.ok (.new [a]) S:=oF (by simp)
def Sh(a b:MV)(S:Sto):gX [.val a,.val b] S=.ok (.new [a,b]) S:=oF (by simp)
def lst3(a b c:MV)(S:Sto):gX [.val a,.val b,.val c] S=.ok (.new [a,b,c]) S:=oF (by simp)
def lst6(a b c d e f:MV)(S:Sto):gX [.val a,.val b,.val c,.val d,.val e,.val f] S=.ok (.new [a,b,c,d,e,f]) S:=oF (by simp)
def tup2(a b:MV)(S:Sto):nA [.val a,.val b] S=.ok (.val (.tup [a,b])) S:=rV (by simp)
def Aq(a b c:MV)(S:Sto):nA [.val a,.val b,.val c] S=.ok (.val (.tup [a,b,c])) S:=rV (by simp)
theorem Nv(i:Int)(S:Sto):GT [.val (.int i),.val (.typ "str")] S=.ok (.val (.bl false)) S:=rfl
theorem Nx(i:Db)(S:Sto):GT [.val (.str i),.val (.typ "str")] S=.ok (.val (.bl true)) S:=rfl
theorem Ny(i:Int)(S:Sto):GT [.val (.int i),.val (.typ "tuple")] S=.ok (.val (.bl false)) S:=rfl
theorem Nz(i:Db)(S:Sto):GT [.val (.str i),.val (.typ "tuple")] S=.ok (.val (.bl false)) S:=rfl
theorem Oa(i:Xb)(S:Sto):GT [.val (.tup i),.val (.typ "tuple")] S=.ok (.val (.bl true)) S:=rfl
theorem isi_bb(i:Bool)(S:Sto):GT [.val (.bl i),.val (.typ "bool")] S=.ok (.val (.bl true)) S:=rfl
theorem vK{gf:MV->Rho->Sto->R Rho}{cf:AZ}{ef:AX}{ρb:Rho}{gs:Xe}{P:MV->Prop}(hs:stay gs S):
  ∀{ds:Xb},(∀d∈ds, ∃ρ1 y,gf d ρb S=.ok ρ1 S/\cf ρ1 S=.ok true S/\ef ρ1 S=.ok (.val y) S/\P y)-> ∃out,kO gf cf ef ρb gs ds S=.ok out S/\out.length=ds.length/\ ∀o∈out,P o
 |[],_=>⟨[],rfl,rfl,λo h=>by simp at h⟩
 |d::ds,st=>by obtain⟨ρ1,y,h1,h2,h3,h4⟩:=st d mF0;obtain⟨out,e,hl,hp⟩:=vK hs (ds:=ds) λd hd=>st d (mO _ hd);refine⟨y::out,?_,by rw[lC,lC,hl],λo ho=>(mC.mp ho).elim (λz=>z▸h4) (hp o)⟩;unfold kO;rw[h1,wR,cT,h2,wR,cT,iP rfl,h3,wR,cT];unfold jS;rw[cT,iP hs,e];rfl
def Nm(x:Db):Prop:=1<=x.length/\x.length<=8/\ ∀c∈x,97<=c/\c<=122
def Vl:MV->Prop
 |.int i=> -(10 ^ 30)<i/\i<10 ^ 30
 |.str x=>Nm x
 |_=>False
def Vl.cases{d:MV}(h:Vl d):(∃i,d=.int i/\ -(10 ^ 30)<i/\i<10 ^ 30)\/ ∃x,d=.str x/\Nm x:=by
 cases d with
 |int i=>exact .inl ⟨i,rfl,h⟩
 |str x=>exact .inr ⟨x,rfl,h⟩
 |_=>exact h.elim
end
instance:DecidableEq MV:=λ_ _=>Classical.propDecidable _
def look(kvs:Xg)(k:MV):Option MV:=(kvs.find? λp=>decide (p.1=k)).map (·.2)
def putK(kvs:Xg)(k d:MV):List (MV×MV):=if(look kvs k).isSome=true then kvs.map (λp=>if p.1=k then(p.1,d)else p)else kvs++[(k,d)]
def EI:MV->Bool
 |.tup _=>true
 |_=>false
theorem EK:wZ .non=some (.key none):=by unfold wZ;rfl
theorem eE(i:Int):wZ (.int i)=some (.key (some (.inl i))):=by unfold wZ;rfl
theorem iM(x:Db):wZ (.str x)=some (.key (some (.inr (gF x)))):=by unfold wZ;rfl
def eF(ds:Xb):wZ (.tup ds)=(bC ds).map .tup:=by
 conv=>lhs;unfold wZ
theorem oZ:bC []=some []:=by unfold bC;rfl
def cE(d:MV)(ds:Xb):bC (d::ds)=(wZ d).bind λk=>(bC ds).map (k::·):=by
 conv=>lhs;unfold bC
mutual
theorem vL: ∀{d e:MV}{k:NK},wZ d=some k->wZ e=some k->d=e
 |.int i,e,k,hd,he=>by
  rw[eE]at hd;cases hd
  cases e with
  |int j=>rw[eE]at he;cases he;rfl
  |str x=>rw[iM]at he;cases he
  |tup ds=>rw[eF]at he;cases z:bC ds<;>rw[z]at he<;>cases he
  |_=>unfold wZ at he;cases he
 |.str x,e,k,hd,he=>by
  rw[iM]at hd;cases hd
  cases e with
  |int j=>rw[eE]at he;cases he
  |str y=>
   rw[iM]at he;have he:=Option.some.inj he;injection he with he
   injection he with he
   injection he with he
   rw[CP he]
  |tup ds=>rw[eF]at he;cases z:bC ds<;>rw[z]at he<;>cases he
  |_=>unfold wZ at he;cases he
 |.tup ds,e,k,hd,he=>by
  rw[eF]at hd
  cases z:bC ds with
  |none=>rw[z]at hd;cases hd
  |some ks=>
   rw[z]at hd;cases hd
   cases e with
   |int j=>rw[eE]at he;cases he
   |str y=>rw[iM]at he;cases he
   |tup es=>
    rw[eF]at he
    cases z2:bC es with
    |none=>rw[z2]at he;cases he
    |some ks'=>rw[z2]at he;cases he;rw[II z z2]
   |_=>unfold wZ at he;cases he
 |.non,e,k,hd,he=>by
  rw[EK]at hd;cases hd
  cases e with
  |non=>rfl
  |int j=>rw[eE]at he;cases he
  |str x=>rw[iM]at he;cases he
  |tup ds=>rw[eF]at he;cases z:bC ds<;>rw[z]at he<;>cases he
  |_=>unfold wZ at he;cases he
 |.bl _,e,k,hd,he=>by unfold wZ at hd;cases hd
 |.scr _,e,k,hd,he=>by unfold wZ at hd;cases hd
 |.loc _,e,k,hd,he=>by unfold wZ at hd;cases hd
 |.typ _,e,k,hd,he=>by unfold wZ at hd;cases hd
 |.obj _ _ _,e,k,hd,he=>by unfold wZ at hd;cases hd
theorem II: ∀{ds es:Xb}{ks:List NK},bC ds=some ks->bC es=some ks->ds=es
 |[],es,ks,hd,he=>by
  rw[oZ]at hd;cases hd
  cases es with
  |nil=>rfl
  |cons e es=>
   rw[cE]at he;cases z:wZ e<;>rw[z]at he
   .cases he
   .cases z2:bC es<;>rw[z2]at he<;>cases he
 |d::ds,es,ks,hd,he=>by
  rw[cE]at hd
  cases z:wZ d with
  |none=>rw[z]at hd;cases hd
  |some k=>
   rw[z]at hd
   cases z2:bC ds with
   |none=>rw[z2]at hd;cases hd
   |some ks2=>
    rw[z2]at hd
    cases es with
    |nil=>rw[oZ]at he;cases he;cases hd
    |cons e es=>
     rw[cE]at he
     cases z3:wZ e with
     |none=>rw[z3]at he;cases he
     |some k'=>
      rw[z3]at he
      cases z4:bC es with
      |none=>rw[z4]at he;cases he
      |some ks4=>
       rw[z4]at he;cases hd;cases he;rw[vL z z3,II z2 z4]
end
section
variable{X:Cx}{pins:Vg}{σ:St}{H:Hp}{s:Shared}{α:Vb}
mutual
theorem EL(I:Inv X pins σ H s): ∀{d:MV}{k:NK}{x:V}{u:Value},wZ d=some k->Den X.K α H d x->RelV x u->GQ (mk X.prog X.w) s.heap k u
 |.int i,k,x,u,hk,hd,r=>by rw[eE]at hk;cases hk;cases jP hd;obtain⟨t,rfl⟩:=r;exact kZ.mpr (by show oS (.inl i) (.int i t)=true;simp[oS,Value.isInt])
 |.str y,k,x,u,hk,hd,r=>by rw[iM]at hk;cases hk;cases jQ hd;obtain⟨t,rfl⟩:=r;exact kZ.mpr (by show oS (.inr (gF y)) (.str (gF y) t)=true;simp[oS,Value.isStrOf])
 |.tup ds,k,x,u,hk,hd,r=>by
  rw[eF]at hk
  cases z:bC ds with
  |none=>rw[z]at hk;cases hk
  |some ks=>
   rw[z]at hk;cases hk;obtain⟨a,vs,rfl,sq,l⟩:=jR hd;cases r;obtain⟨its,rv,pt,_⟩:=I.tuple sq;obtain⟨o,ho,hc,n,hdat⟩:=pt;exact kP.mpr ⟨a,o,its.toArray,n,rfl,ho,hc,hdat,by simpa using TV I z l rv⟩
 |.non,k,x,u,hk,hd,r=>by rw[EK]at hk;cases hk;cases eU hd;cases r;exact kZ.mpr rfl
 |.bl _,k,x,u,hk,hd,r=>by unfold wZ at hk;cases hk
 |.scr _,k,x,u,hk,hd,r=>by unfold wZ at hk;cases hk
 |.loc _,k,x,u,hk,hd,r=>by unfold wZ at hk;cases hk
 |.typ _,k,x,u,hk,hd,r=>by unfold wZ at hk;cases hk
 |.obj _ _ _,k,x,u,hk,hd,r=>by unfold wZ at hk;cases hk
theorem TV(I:Inv X pins σ H s): ∀{ds:Xb}{ks:List NK}{xs:List V}{us:Uk},bC ds=some ks->DenL X.K α H ds xs->Vals xs us->rK (mk X.prog X.w) s.heap ks us
 |[],ks,xs,us,hk,hd,r=>by rw[oZ]at hk;cases hk;cases hd.isnil;cases r;exact jI.mpr rfl
 |d::ds,ks,xs,us,hk,hd,r=>by
  rw[cE]at hk;obtain⟨v,vs,rfl,a,l⟩:=hd.uncons
  cases r with
  |cons r1 r2=>
   cases z:wZ d with
   |none=>rw[z]at hk;cases hk
   |some k=>
    rw[z]at hk
    cases z2:bC ds with
    |none=>rw[z2]at hk;cases hk
    |some ks2=>
     rw[z2]at hk;cases hk;exact xK.mpr ⟨_,_,rfl,EL I z a r1,TV I z2 l r2⟩
end
def DD(X:Cx)(H:Hp)(d:Addr)(xs:List (NK×Addr×Value)):Prop:=H d=some (DN X.prog X.w d xs)\/(xs=[]/\H d=some (.dK []))
def DD.nf{d:Addr}{xs:List (NK×Addr×Value)}(h:DD X H d xs): ∀ob u,H d≠some (.frz ob u):=h.elim (λz=>YZ z) λz=>by first |exact YZ z.2|exact z.elim
def Si{S:Sto}{kvs:Xg}{d:Addr}(ob:ObD X.g α H d (.dic kvs))(hk:kvs.all (λp=>EI p.1)=true): ∃xs,DD X H d xs/\DenN X.K α H kvs xs:=by
 rcases ob with⟨ks,h,l⟩|⟨xs,h,l⟩
 .cases l with
  |nil=>exact⟨[],.inr ⟨rfl,h⟩,.nil⟩
  |@cons k k' dd v fs gs hkd a l=>
   rw[List.all_cons,aE]at hk
   cases k with
   |tup ds=>exact absurd hkd (by unfold KeyD;exact λz=>z)
   |_=>exact absurd hk.1 xF0
 .exact⟨xs,.inl h,l⟩
theorem TX(I:Inv X pins σ H s): ∀{kvs:Xg}{xs:List (NK×Addr×Value)},DenN X.K α H kvs xs-> ∀x∈xs,(oV X.prog X.w).is s.heap x.1 x.2.1
 |_,_,.nil=>λx hx=>by simp at hx
 |_,_,.cons k e a d r l=>λx hx=>by
  rcases mC.mp hx with rfl|hx
  .exact⟨EL I k a rfl,e⟩
  .exact TX I l x hx
def KN(I:Inv X pins σ H s){kvs:Xg}{xs:List (NK×Addr×Value)}{d:Addr}(h:DD X H d xs)(l:DenN X.K α H kvs xs):s.heap.DictOfH (oV X.prog X.w) d xs/\xs.length<=sizeLine/\(d==sysModules)=false:=by
 rcases h with h|⟨rfl,h⟩
 .obtain⟨⟨hz,hs,o,es,ep,ho,hc,hd,he,hn⟩,_⟩:=(show ObjOk X.prog X.w H s.heap d (DN X.prog X.w d xs)from I.hok d _ h)
  exact⟨⟨o,es,ep,ho,hc,hd,he,TX I l,hn⟩,hz,hs⟩
 .obtain⟨_,hs,vs,kv,o,es,ep,ho,hc,hd,_,hp,_⟩:=(show ObjOk X.prog X.w H s.heap d (.dK [])from I.hok d _ h)
  cases kv;have he:es.toList=[]:=by cases hes:es.toList with |nil=>rfl|cons a b=>rw[hes]at hp;cases hp
  exact⟨⟨o,es,ep,ho,hc,hd,by rw[he];rfl,λx hx=>by simp at hx,List.nodup_nil⟩,zero_le _,hs⟩
def sZ(p:MV×MV)(kvs:Xg)(k:MV):look (p::kvs) k=if p.1=k then some p.2 else look kvs k:=by
 unfold look;rw[find?_cons];by_cases h:p.1=k
 .rw[dT0 h,iP h];rfl
 .rw[dF0 h,iN h]
def uH(x:NK×Addr×Value)(xs:List (NK×Addr×Value))(k:NK):atKey (x::xs) k=if x.1=k then some x.2 else atKey xs k:=by
 unfold atKey;rw[find?_cons];by_cases h:x.1=k
 .rw[dT0 h,iP h];rfl
 .rw[dF0 h,iN h]
theorem KO: ∀{kvs:Xg}{xs:List (NK×Addr×Value)}{k:MV}{nk:NK},DenN X.K α H kvs xs->wZ k=some nk->(atKey xs nk).isSome=(look kvs k).isSome
 |_,_,k,nk,.nil,hk=>rfl
 |_,_,k,nk,.cons (k:=k') (nk:=nk') hk' e a d r l,hk=>by
  rw[sZ,uH];by_cases h:k'=k
  .subst h;have:nk'=nk:=by rw[hk]at hk';exact(Option.some.inj hk').symm
   rw[iP this,iP rfl];rfl
  .have:nk'≠nk:=λz=>h (vL hk' (by rw[hk,z]));rw[iN this,iN h];exact KO l hk
theorem KP: ∀{kvs:Xg}{xs:List (NK×Addr×Value)}{k d:MV}{nk:NK}{v:V}{u:Value},DenN X.K α H kvs xs->wZ k=some nk->Den X.K α H d v->RelV v u->DenN X.K α H (kvs.map λp=>if p.1=k then(p.1,d)else p) (xs.map (putAt nk u))
 |_,_,k,d,nk,v,u,.nil,hk,hd,r=>.nil
 |_,_,k,d,nk,v,u,.cons (k:=k') (nk:=nk') hk' e a dd rr l,hk,hd,r=>by
  rw[List.map_cons,List.map_cons];unfold putAt;by_cases h:k'=k
  .have hn:nk'=nk:=by subst h;rw[hk]at hk';exact(Option.some.inj hk').symm
   rw[iP h,iP hn];exact .cons hk' e a hd r (KP l hk hd r)
  .have hn:nk'≠nk:=λz=>h (vL hk' (by rw[hk,z]));rw[iN h,iN hn];exact .cons hk' e a dd rr (KP l hk hd r)
theorem DenN.append: ∀{kvs kvs':Xg}{xs xs':List (NK×Addr×Value)},DenN X.K α H kvs xs->DenN X.K α H kvs' xs'->DenN X.K α H (kvs++kvs') (xs++xs')
 |_,_,_,_,.nil,h=>h
 |_,_,_,_,.cons hk e a d r l,h=>.cons hk e a d r (DenN.append l h)
def He{kvs:Xg}{xs:List (NK×Addr×Value)}{k d:MV}{nk:NK}{a:Addr}{v:V}{u:Value}(l:DenN X.K α H kvs xs)(hk:wZ k=some nk)(e:oC nk<=4)(ha:Den X.K α H k (.ref a))(hd:Den X.K α H d v)(r:RelV v u):DenN X.K α H (putK kvs k d) (storedH xs nk a u):=by
 unfold putK;have hl:=KO l hk;by_cases h:(look kvs k).isSome=true
 .rw[iP h];rw[h]at hl;obtain⟨p,hp⟩:=Option.isSome_iff_exists.mp hl;rw[storedH_old hp];exact KP l hk hd r
 .rw[iN h]
  have hn:atKey xs nk=none:=by
   cases z:atKey xs nk with
   |none=>rfl
   |some p=>rw[z]at hl;exact absurd hl.symm h
  rw[storedH_new hn];exact l.append (.cons hk e ha hd r .nil)
end
section
variable{X:Cx}{W:XW}{a b o i:Expr}{f g:AX}{pos:Pos}
def Ar{pins:Vg}{σ:St}{H:Hp}{s:Shared}(I:Inv X pins σ H s):sysModules<s.heap.objs.size:=lt_trans (by decide) ((I.mod.glob.keeps I.bk).lt)
def Wd.put{gg:Gm}{α:Vb}{S:Sto}{H:Hp}{p:Addr}{ho:HO}{m:MO}(w:Wd gg α S H)(hp:H p=none)(q:ObD gg (α++[p]) (gD H p ho) p m):Ext α H (α++[p]) (gD H p ho)/\Wd gg (α++[p]) (S++[m]) (gD H p ho):=by
 have x:=w.newx (o:=ho) hp;have nw:=w.new (o:=ho) hp;have np:=w.fresh hp;refine⟨⟨⟨⟨[p],rfl⟩,x.tup,x.frz⟩,λb hb=>?_,x.keep,x.has⟩,⟨?_,?_,λl c ob h1 h2=>?_⟩⟩
 .rcases List.mem_append.mp hb with h|h
  .exact .inl h
  .rw[mS.mp h];exact .inr hp
 .rw[lA,lA,w.len];rfl
 .exact nodup_append.mpr ⟨w.nd,by simp,λa ha c hc=>by rw[mS.mp hc];rintro rfl;exact np ha⟩
 .by_cases hl:l<α.length
  .rw[getElem?_append_left hl]at h1;rw[getElem?_append_left (by rw[<-w.len];exact hl)]at h2;exact(nw.obj l c ob h1 h2).move (Ex0.grow α [p] _) rfl
  .have hl':l=α.length:=by have:=(gS.mp h1).1;rw[lA,lS]at this;omega
   subst hl';rw[getElem?_append_right (Nat.le_refl _),sub_self]at h1;rw[getElem?_append_right (by rw[w.len];exact Nat.le_refl _),w.len,sub_self]at h2;cases h1;cases h2;exact q
def IK(S:Sto):R Er:=.ok (.val (.loc S.length)) (S++[.dic []])
def rW:yP X W (.Dict [] [] pos) (λ_ S=>IK S):=by
 refine⟨λσ H Q=> ∀p,H p=none->Q (.ref p) (gD H p (.dK [])),λpins s σ H Q I h=>?_,λα ρ S σ H Q wd sl q p hp=>?_⟩
 .exact wpAny_Dict_empty ⟨.ref s.heap.objs.size,_,I.laid (a:=s.heap.objs.size) (o:=.dK []) (t':=s.toks) (λ_ _ q=>hP0 _ q) (Nat.le_refl _)
   ⟨zero_le _,beq_eq_false_iff_ne.mpr (Ne.symm (Nat.ne_of_lt (Ar I))),[],.nil,Heap.DictOf.new s.heap⟩,rfl,h _ (I.hok.fresh (Nat.le_refl _))⟩
 .obtain⟨x,w'⟩:=wd.put (ho:=.dK []) (m:=.dic []) hp (.inl ⟨[],xB,.nil⟩);exact q (.ref p) (α++[p]) _ x w' (DenE.val (pX (by rw[<-wd.len,getElem?_append_right (Nat.le_refl _),sub_self];rfl)))
def EM(S:Sto):Er->Option (Nat×List (MV×MV))
 |.val (.loc l)=>match S[l]? with
  |some (.dic kvs)=>if kvs.all (λp=>EI p.1)=true then some (l,kvs)else none
  |_=>none
 |_=>none
def keyOk(k:MV):Bool:=EI k&&(match wZ k with |some nk=>decide (oC nk<=4)|none=>false)
def EO{k:MV}(h:keyOk k=true): ∃nk,wZ k=some nk/\oC nk<=4/\EI k=true:=by
 unfold keyOk at h;rw[aE]at h
 cases z:wZ k with
 |none=>rw[z]at h;exact absurd h.2 xF0
 |some nk=>rw[z]at h;exact⟨nk,rfl,of_decide_eq_true h.2,h.1⟩
def RD{α:Vb}{S:Sto}{H:Hp}(wd:Wd X.g α S H){r:Er}{x:V}{l:Nat}{kvs:Xg}(e:EM S r=some (l,kvs))(d:DenX X.K α H r x):
  ∃c xs,x=.ref c/\α[l]? =some c/\S[l]? =some (.dic kvs)/\DD X H c xs/\DenN X.K α H kvs xs:=by
 unfold EM at e;split at e
 .rename_i n;obtain⟨c,rfl,h⟩:=eX d;split at e
  .rename_i ks hS;split at e
   .rename_i hk;obtain⟨rfl,rfl⟩:=Prod.mk.inj (Option.some.inj e);obtain⟨xs,dd,l⟩:=Si (S:=S) (wd.obj _ c _ h hS) hk;exact⟨c,xs,rfl,h,hS,dd,l⟩
   .cases e
  .cases e
 .cases e
abbrev Sj(X:Cx)(neg:Bool):R2:=λx y H Q=> ∃(α:Vb)(kvs:Xg)(xs:List (NK×Addr×Value))(a d:Addr)(k:MV)(nk:NK),x=.ref a/\y=.ref d/\DD X H d xs/\DenN X.K α H kvs xs/\wZ k=some nk/\oC nk<=4/\Den X.K α H k (.ref a)/\
 Q (.bl (if neg=true then !(look kvs k).isSome else(look kvs k).isSome)) H
def GV{prog:Program}{w:World}{KK:Type}[DecidableEq KK]{knd:HeapKind prog w KK}{A:Around}{E:VP}{s:Shared}{d a:Addr}{k:KK}{xs:List (KK×Addr×Value)}{Q:Bool->Shared->Prop}(hu:knd.room A.in1)(hkey:knd.is s.heap k a)(hd:(d==sysModules)=false)
  (hm:s.heap.DictOfH knd d xs) (h:Q (atKey xs k).isSome {s with toks:=s.toks+knd.draws k}):wpAny (model prog w) A (contains (.ref d) (.ref a)) Q E s:=by
 unfold contains
 try with_reducible refine wpAny_holding ?_
 refine wB (wpAny_specialOf hm.typeIs slot_dict_contains.lookup ?_);show wpAny _ _ (if(some (Value.builtin "dict.__contains__")==some Value.none)=true then _ else _) _ E s;rw[iN (by rw[beq_builtin_none];exact xF0)];refine wB (wpAny_callSpecialUnlessNone?_slot (name:=Str.ofString "__contains__") hm.typeIs slot_dict_contains (wpAny_call_entry slot_dict_contains hm.typeIs entry_dict_contains ?_ (args_dict_contains _ _)));show wpAny _ _ (dictGet d (.ref a) >>= _) _ _ s;refine wB (wpAny_dictGet_heap hu hkey hm ?_)
 cases hf:atKey xs k with
 |some p=>
  rw[hf]at h;show wpAny _ _ (ret (.bool true)) _ _ _;exact wP ⟨_,rfl,wpAny_truthy_bool h⟩
 |none=>
  rw[hf]at h;show wpAny _ _ (Builtin.Dict.pendingKey? d (.ref a) >>= _) _ _ _;exact wB (wpAny_pendingKey_other hd (wP ⟨_,rfl,wpAny_truthy_bool h⟩))
theorem Ob(hu:X.A.units+64<cLine):OpR X (compareOp .In) (Sj X false):=by intro pins s σ H x y v u Q I rx ry h;obtain⟨α,kvs,xs,a,d,k,nk,rfl,rfl,dd,l,hk,e,ha,q⟩:=h;cases rx;cases ry;obtain⟨hm,_,hs⟩:=KN I dd l;show wpAny _ _ (do return Value.bool (<-contains (.ref d) (.ref a))) _ _ s;refine wB (GV (knd:=oV X.prog X.w) (show X.A.units+1+4<cLine by omega) ⟨EL I hk ha rfl,e⟩ hs hm (wP ⟨.bl (look kvs k).isSome,H,I.kept (t':=_) (λ_ _ z=>z),?_,q⟩));rw[KO l hk];rfl
def WR(neg:Bool)(p q:Er)(S:Sto):R Er:=match p with
 |.val k=>match EM S q with
  |some (_,kvs)=>if keyOk k=true then .ok (.val (.bl (if neg=true then !(look kvs k).isSome else(look kvs k).isSome))) S else .no
  |none=>.no
 |_=>.no
def KQ{α:Vb}{H:Hp}{k:MV}{x:V}(h:EI k=true)(d:Den X.K α H k x): ∃a,x=.ref a:=by
 cases k with
 |tup ds=>obtain⟨a,_,rfl,_⟩:=jR d;exact⟨a,rfl⟩
 |_=>exact absurd h xF0
def Hf{neg:Bool}:MM X W (Sj X neg) (WR neg):=by
 intro p q x y α S H Q wd dp dq post;unfold WR at post;split at post
 .rename_i k;split at post
  .rename_i l kvs e;split at post
   .rename_i hk;obtain⟨nk,h1,h2,h3⟩:=EO hk;obtain⟨c,xs,rfl,_,_,dd,dl⟩:=RD wd e dq;obtain⟨a',rfl⟩:=KQ (X:=X) (α:=α) (H:=H) h3 dp;exact⟨α,kvs,xs,a',c,k,nk,rfl,rfl,dd,dl,h1,h2,dp,Post.val post wd (bH _)⟩
   .exact post.elim
  .exact post.elim
 .exact post.elim
def Oc(hu:X.A.units+64<cLine)(ha:yP X W a f)(hb:yP X W b g)(hm:behindInMarks .In b=false:=by with_unfolding_all rfl):DY X W (.Compare a [.In] [b] pos) (λρ S=>((f ρ S).bind λp S1=>(g ρ S1).bind λq S2=>WR false p q S2).bind gC):=oE (Ob hu) Hf ha hb hm
def Sk(X:Cx):TSet:=λo i v H Q=> ∃(α:Vb)(kvs:Xg)(xs:List (NK×Addr×Value))(a d:Addr)(k:MV)(nk:NK),o=.ref d/\i=.ref a/\DD X H d xs/\DenN X.K α H kvs xs/\wZ k=some nk/\oC nk<=4/\Den X.K α H k (.ref a)/\xs.length<sizeLine/\
 ∀u,RelV v u->Q (gD H d (DN X.prog X.w d (storedH xs nk a u)))
def RE{xs:List (NK×Addr×Value)}{k:NK}{a:Addr}{u:Value}:(storedH xs k a u).length<=xs.length+1:=by
 cases h:atKey xs k with
 |none=>rw[storedH_new h,lA];exact Nat.le_refl _
 |some p=>rw[storedH_old h,lM];exact le_succ _
def WS(hu:X.A.units+64<cLine):Eh X (Sk X):=by
 intro pins s σ H o i v ov iv u Q I ro ri rv h;obtain⟨α,kvs,xs,a,d,k,nk,rfl,rfl,dd,l,hk,e,ha,hz,q⟩:=h;cases ro;cases ri;obtain⟨hm,hz',hs⟩:=KN I dd l;refine wpAny_setItem_heap (knd:=oV X.prog X.w) (show X.A.units+1+4<cLine by omega) ⟨EL I hk ha rfl,e⟩ hm (λh' hm' hs'=>⟨_,?_,q u rv⟩) hz';have mu:Pu (H d):=by rcases dd with z|⟨_,z⟩<;>rw[z]<;>exact trivial
 obtain⟨ob,es,ep,ho,hc,hd,he,_,hn⟩:=hm';refine I.write (t':=_) (x:=d) (e:=d) mu (.inl rfl) (λb uo hb eo=>(hs'.2 b hb).trans eo) ⟨ob,ho⟩ ?_;refine⟨⟨by have:=RE (xs:=xs) (k:=nk) (a:=a) (u:=u);omega,hs,ob,es,ep,ho,hc,hd,he,hn⟩,⟨ob,ho⟩,?_⟩;rintro h1 h2 ⟨z1,z2,o',es',ep',ho',r⟩ mv;exact⟨z1,z2,o',es',ep',mv o' ho',r⟩
def IL(p q:Er)(d:MV)(ρ:Rho)(S:Sto):R Rho:=match q with
 |.val k=>match EM S p with
  |some (l,kvs)=>if keyOk k=true/\kvs.length<1000000 then .ok ρ (S.set l (.dic (putK kvs k d)))else .no
  |none=>.no
 |_=>.no
theorem DenN.length{α:Vb}{H:Hp}: ∀{kvs xs},DenN X.K α H kvs xs->xs.length=kvs.length
 |_,_,.nil=>rfl
 |_,_,.cons _ _ _ _ _ l=>by rw[lC,lC,DenN.length l]
def Hg(hu:X.A.units+64<cLine)(ho:yP X W o f)(hi:yP X W i g)
  (ha: ∀v,assign (.Subscript o i pos) X.env v=(do
   let ov <-holding [v] (eval o X.env);let iv <-holding [v,ov] (eval i X.env)
   standAt pos
   holding [v,ov,iv] (setItem ov iv v)
   release [v,ov,iv] []):=by intro _;rfl):Ju X W (.Subscript o i pos) (λd ρ S=>(f ρ S).bind λp S1=>(g ρ S1).bind λq S2=>IL p q d ρ S2):=by
 obtain⟨to,ho,fo⟩:=ho;obtain⟨ti,hi,fi⟩:=hi;refine⟨_,PR ho hi (WS hu) ha,λα ρ S σ H d v Q wd sl de q=>fo α ρ S σ H _ wd sl (q.bind λu p S1 α1 H1 e1 x1 w1 d1 q1=>fi α1 ρ S1 σ H1 _ w1 (sl.ext x1) ((q1.shift x1).bind λu2 p2 S2 α2 H2 e2 x2 w2 d2 q2=>?_))⟩
 replace q2:=q2.shift x2
 have d1':=DenX.ext x2 d1.1;have de2:=(de.ext x1).ext x2;unfold IL at q2;split at q2
 .rename_i k;split at q2
  .rename_i l kvs e;split at q2
   .rename_i hk;obtain⟨nk,h1,h2,h3⟩:=EO hk.1;obtain⟨c,xs,rfl,hc,hS,dd,dl⟩:=RD w2 e d1';obtain⟨a',rfl⟩:=KQ (X:=X) (α:=α2) (H:=H2) h3 d2.1;refine⟨α2,kvs,xs,a',c,k,nk,rfl,rfl,dd,dl,h1,h2,d2.1,?_,λu ru=>?_⟩
    .rw[dl.length];exact Nat.lt_of_lt_of_le hk.2 (fits (Nat.le_refl _))
    .have xw:=w2.writex hc dd.nf (o:=DN X.prog X.w c (storedH xs nk a' u));have sl2:=((sl.ext x1).ext x2).ext xw;exact q2 σ α2 _ xw (w2.write hc dd.nf (.inr ⟨_,xB,(He dl h1 h2 d2.1 de2 ru).ex0 xw.toEx0⟩)) sl2
   .exact q2.elim
  .exact q2.elim
 .exact q2.elim
end
def Sl{P:Program}{w:World}{K:Vk}{mg:Vd}{base:Heap}{k m:Nat}{f:Addr}{fd:FuncData}{ps:Vc}{g:Gm}:FnOk P w K mg base CO k f fd ps (JW g m λ_ _=>.no):=
 ⟨λvs H Q E ⟨_,_,_,_,_,_,q⟩=>q.elim,λ_ _ _ _ _ _ _ _ _ _ _ _ _ ⟨_,_,_,_,_,_,q⟩=>q.elim⟩
def FsD(g:Gm)(α:Vb)(H:Hp)(d:Option Addr)(fs:List (Str×MV)):Prop:=fs=[]\/ ∃dx gs od,d=some dx/\H dx=some (.frz od (.xd gs))/\DenF g.K α H fs gs
abbrev WE(g:Gm)(E:XK):XW:=λc fs _ α H=> ∀C d,g.mg c=some (.ref C)->FsD g α H d fs->E (.ref C) d H
def Od:MV->Bool
 |.non=>true
 |.bl _=>true
 |.int _=>true
 |.str _=>true
 |_=>false
def Post.wmono{β τ:Type}[Dn β τ]{g:Gm}{W W':XW}{α:Vb}{H:Hp}(f: ∀c fs S α' H',W c fs S α' H'->W' c fs S α' H'): ∀{m:R β}{Q:τ->Hp->Prop},Post g W α H m Q->Post g W' α H m Q
 |.ok b S,Q,q=>q
 |.exc c fs S,_,q=>λα' H' x w=>f _ _ _ _ _ (q α' H' x w)
 |.no,_,q=>q
def XCl(K:Vk)(C:Addr)(bm:Uk)(init:Option Value):Prop:=
 ∃nm q N bs hd sn sub ab col dd k0 k1 k2 k3 k5,K.lookup C=some (excClassObj nm q C N bs bm hd sn sub ab col dd k0 k1 k2 k3 k5 "ValueError.__new__")/\PySem.W.nsOkIn K N=true/\PySem.W.nsIn K N "__init__"=some init/\(∀n∈qn,PySem.W.nsIn K N n=some none)/\hd=true
def XEach(K:Vk)(mg:Vd)(M:Addr):List (Str×Addr)->Prop
 |[]=>True
 |(c,C)::r=>(mg c=some (.ref C)/\ ∃i,XCl K C (.ref M::Uc) i)/\XEach K mg M r
theorem XEach.at{K:Vk}{mg:Vd}{M:Addr}: ∀{cs:List (Str×Addr)},XEach K mg M cs-> ∀{c C},(c,C)∈cs->mg c=some (.ref C)/\ ∃i,XCl K C (.ref M::Uc) i
 |(c,C)::r,h,c',C',z=>by
  rcases mC.mp z with z|z
  .cases z;exact h.1
  .exact XEach.at h.2 z
def spX(g:Gm)(n:Nat)(F:List MV->Sto->R Er):Sp:=λvs H Q E=> ∃α S ds,Wd g α S H/\DenL g.K α H ds vs/\ds.length=n/\Post g (WE g E) α H (F ds S) Q
def TZ(n:Nat)(F:List MV->Sto->R Er)(rs:List Er)(S:Sto):R Er:=if rs.length=n then(match F (zM rs S).1 (zM rs S).2 with
 |.ok r S2=>bD S r S2
 |.exc c fs S2=>if fs.all (λp=>Od p.2)=true then(bD S (.val .non) S2).bind λ_ S3=>.exc c fs S3 else .no
 |.no=>.no)else .no
section
variable{P:Program}{w:World}{K:Vk}{mg:Vd}{base:Heap}
def _root_.L2.FnOk.noX{k n:Nat}{f:Addr}{fd:FuncData}{ps:Vc}{g:Gm}{F:List MV->Sto->R Er}(G:FnOk P w K mg base (CXe P w) k f fd ps (spX g n F)):FnOk P w K mg base CO k f fd ps (JW g n F):=by
 have up: ∀{vs H Q}, ∀{E},JW g n F vs H Q E->spX g n F vs H Q E0:=λ⟨α,S,ds,h1,h2,h3,h4⟩=>⟨α,S,ds,h1,h2,h3,h4.wmono λ_ _ _ _ _ z=>z.elim⟩
 refine⟨λvs H Q E h=>G.len vs H Q E0 (up h),λA outer s H args us vs Q E hr e0 hb hv h=>codeAny_mono (G.run A outer s H args us vs Q E0 hr e0 hb hv (up h)) λr s' hq=>?_⟩
 cases r with
 |error e=>
  obtain⟨_,_,_,_,_,_,_,_,_,_,_,_,_,_,_,z⟩:=hq;exact z
 |ok fl=>cases fl<;>exact hq
end
end M
end L2
namespace L2
open PySem PySem.Spec PyProof.Rows
structure Out(X:Cx)(pins:Vg)(H:Hp)(s:Shared)(b:Addr):Prop where
 s0:X.s₀.heap.get? b=none
 h:H b=none
 pin: ∀p∈X.pn++pins,p.1≠b
 fld: ∃o vs,s.heap.get? b=some o/\o.data=.fields vs
section
variable{X:Cx}{pins:Vg}{σ:St}{H:Hp}{s:Shared}{e b:Addr}
def Out.ne(o:Out X pins H s b){c:Addr}{oc:Obj}(hc:s.heap.get? c=some oc)(nf: ∀vs,oc.data≠.fields vs):c≠b:=λz=>by obtain⟨ob,vs,h1,h2⟩:=o.fld;rw[z,h1]at hc;cases hc;exact nf vs h2
def Out.loc(o:Out X pins H s b)(I:Inv X pins σ H s):X.env.locals≠b:=by obtain⟨m,⟨oL,es,ep,h1,h2,_⟩,_⟩:=I.loc;exact o.ne h1 λvs z=>by rw[h2]at z;cases z
def Out.cell(o:Out X pins H s b)(I:Inv X pins σ H s){x:Str}{c:Addr}(hc:X.env.cells.lookup x=some c):c≠b:=by obtain⟨v,oc,h1,h2⟩:=I.cell x c hc;exact o.ne h1 λvs z=>by rw[h2]at z;cases z
def HdA(A:Around)(H:Hp):Prop:= ∃e ob u,A.handled=some (.ref e)/\H e=some (.frz ob u)/\ ∃vs,ob.data=.fields vs/\vs[2]? =some .none
end
end L2
namespace L2
namespace M
open PySem PySem.Spec PyProof.Rows
def Sm(i:Nat):Fl->Sto->R Fl
 |.next ρ,S=>.ok (.next (ρ.set i none)) S
 |.ret r,S=>.ok (.ret r) S
 |.brk ρ,S=>.ok (.brk (ρ.set i none)) S
 |.cont ρ,S=>.ok (.cont (ρ.set i none)) S
def Hh(ns:Vc)(i:Nat)(kn:Er->Sto->R Fl)(Fh:AY)(ρ:Rho):R Er->R Fl
 |.ok r S=>kn r S
 |.exc c fs S=>if c∈ns then(noX (Fh (ρ.set i (some (.loc S.length))) (S++[.ins c fs]))).bind (Sm i)else .no
 |.no=>.no
def E2(X:Cx)(W:XW)(ns:Vc)(i:Nat)(Fh:AY)(ρ:Rho)(α:Vb)(H:Hp)(D:Ends):XK:=λcls d H'=> ∃c fs S2 α' C,cls=.ref C/\X.mg c=some (.ref C)/\Ext α H α' H'/\Wd X.g α' S2 H'/\FsD X.g α' H' d fs/\
 PostS X.g W α H D (if c∈ns then(noX (Fh (ρ.set i (some (.loc S2.length))) (S2++[.ins c fs]))).bind (Sm i)else .no)
section
variable{a:Expr}
theorem DenL.eraseIdx{K:Vk}{α:Vb}{H:Hp}: ∀{ds:Xb}{vs:List V}(n:Nat),DenL K α H ds vs->DenL K α H (ds.eraseIdx n) (vs.eraseIdx n)
 |[],_,_,q=>by rw[q.isnil];exact xG
 |d::ds,_,0,q=>by obtain⟨v,r,rfl,_,l⟩:=q.uncons;exact l
 |d::ds,_,n+1,q=>by obtain⟨v,r,rfl,a,l⟩:=q.uncons;exact yZ a (DenL.eraseIdx n l)
end
section
variable{X:Cx}{W:XW}{a b o i:Expr}{pins:Vg}{σ:St}{H:Hp}{s:Shared}{α:Vb}
def uI(kvs:List (Key×V))(k:Key)(v:V):List (Key×V):=if(kvs.any λkv=>decide (kv.1=k))=true then kvs.map (λkv=>if kv.1=k then(kv.1,v)else kv)else kvs++[(k,v)]
def EQ(kvs:List (Key×V))(k:Key)(v:V):(uI kvs k v).length<=kvs.length+1:=by
 unfold uI;split
 .rw[lM];exact le_succ _
 .rw[lA];exact Nat.le_refl _
def Oe{kvs:List (Key×V)}{vs:List (Key×Value)}(r:KV kvs vs)(k:Key):(kvs.any λkv=>decide (kv.1=k))=vs.any λkv=>decide (kv.1=k):=by
 unfold KV at r
 induction r with
 |nil=>rfl
 |cons h t ih=>rw[List.any_cons,List.any_cons,ih,h.1]
def Hi{kvs:List (Key×V)}{vs:List (Key×Value)}(r:KV kvs vs)(k:Key){y:V}{u:Value}(ry:RelV y u):KV (kvs.map λkv=>if kv.1=k then(kv.1,y)else kv) (vs.map λkv=>if kv.1=k then(kv.1,u)else kv):=by
 unfold KV at r ⊢
 induction r with
 |nil=>exact .nil
 |@cons p q ps qs h t ih=>
  rw[List.map_cons,List.map_cons];refine .cons ?_ ih;by_cases e:p.1=k
  .rw[iP e,iP (h.1.symm.trans e)];exact⟨h.1,ry⟩
  .rw[iN e,iN λz=>e (h.1.trans z)];exact h
def Hj{kvs:List (Key×V)}{vs:List (Key×Value)}(r:KV kvs vs){p:Key×V}{q:Key×Value}(h:p.1=q.1/\RelV p.2 q.2):KV (kvs++[p]) (vs++[q]):=by
 unfold KV at r ⊢
 induction r with
 |nil=>exact .cons h .nil
 |cons h' t ih=>exact .cons h' ih
def RF{kvs:List (Key×V)}{vs:List (Key×Value)}(r:KV kvs vs)(k:Key){y:V}{u:Value}(ry:RelV y u):KV (uI kvs k y) (stored vs k u):=by
 unfold uI stored;rw[Oe r k];by_cases e:(vs.any λkv=>decide (kv.1=k))=true
 .rw[iP e,iP e];exact Hi r k ry
 .rw[iN e,iN e];exact Hj r ⟨rfl,ry⟩
def KR{k:MV}{a b:Key}(h:KeyD k a)(h':KeyD k b):a=b:=by
 cases k with
 |int i=>exact Eq.trans (show a=.inl i from h) (show b=.inl i from h').symm
 |str x=>exact Eq.trans (show a=.inr (gF x)from h) (show b=.inr (gF x)from h').symm
 |_=>exact False.elim h
def ER{k k':MV}{a:Key}(h:KeyD k a)(h':KeyD k' a):k=k':=by
 cases k with
 |int i=>
  have e:a=.inl i:=h;subst e
  cases k' with
  |int j=>have e':(Sum.inl i:Key)=.inl j:=h';cases e';rfl
  |str y=>have e':(Sum.inl i:Key)=.inr (gF y):=h';cases e'
  |_=>exact False.elim h'
 |str x=>
  have e:a=.inr (gF x):=h;subst e
  cases k' with
  |int j=>have e':(Sum.inr (gF x):Key)=.inl j:=h';cases e'
  |str y=>
   have e':(Sum.inr (gF x):Key)=.inr (gF y):=h';injection e' with e'
   rw[CP e']
  |_=>exact False.elim h'
 |_=>exact False.elim h
theorem NW: ∀{kvs:Xg}{ks:List (Key×V)}{k:MV}{k':Key},DenK X.K α H kvs ks->KeyD k k'->(ks.any λkv=>decide (kv.1=k'))=(look kvs k).isSome
 |_,_,k,k',.nil,hk=>rfl
 |_,_,k,k',.cons (k:=c) (k':=c') hc a l,hk=>by
  rw[sZ,List.any_cons];by_cases h:c=k
  .subst h;rw[iP rfl,dT0 (KR hc hk)];rfl
  .have hn: ¬c'=k':=λz=>h (ER hc (z.symm▸hk));rw[iN h,dF0 hn,Bool.false_or];exact NW l hk
theorem ES: ∀{kvs:Xg}{ks:List (Key×V)}{k d:MV}{k':Key}{v:V},DenK X.K α H kvs ks->KeyD k k'->Den X.K α H d v->DenK X.K α H (kvs.map λp=>if p.1=k then(p.1,d)else p) (ks.map λkv=>if kv.1=k' then(kv.1,v)else kv)
 |_,_,k,d,k',v,.nil,hk,hd=>.nil
 |_,_,k,d,k',v,.cons (k:=c) (k':=c') hc a l,hk,hd=>by
  rw[List.map_cons,List.map_cons];by_cases h:c=k
  .subst h;rw[iP rfl,iP (KR hc hk)];exact .cons hc hd (ES l hk hd)
  .have hn: ¬c'=k':=λz=>h (ER hc (z.symm▸hk));rw[iN h,iN hn];exact .cons hc a (ES l hk hd)
theorem DenK.append: ∀{kvs kvs':Xg}{xs xs':List (Key×V)},DenK X.K α H kvs xs->DenK X.K α H kvs' xs'->DenK X.K α H (kvs++kvs') (xs++xs')
 |_,_,_,_,.nil,h=>h
 |_,_,_,_,.cons hk a l,h=>.cons hk a (DenK.append l h)
theorem DenK.length: ∀{kvs:Xg}{xs:List (Key×V)},DenK X.K α H kvs xs->xs.length=kvs.length
 |_,_,.nil=>rfl
 |_,_,.cons _ _ l=>by rw[lC,lC,DenK.length l]
def ET{kvs:Xg}{ks:List (Key×V)}{k d:MV}{k':Key}{v:V}(l:DenK X.K α H kvs ks)(hk:KeyD k k')(hd:Den X.K α H d v):DenK X.K α H (putK kvs k d) (uI ks k' v):=by
 unfold putK uI;rw[NW l hk];by_cases h:(look kvs k).isSome=true
 .rw[iP h,iP h];exact ES l hk hd
 .rw[iN h,iN h];exact l.append (.cons hk hd .nil)
def DK(X:Cx)(H:Hp)(d:Addr)(ks:List (Key×V)):Prop:=H d=some (.dK ks)\/(ks=[]/\H d=some (DN X.prog X.w d []))
def DK.nf{d:Addr}{ks:List (Key×V)}(h:DK X H d ks): ∀ob u,H d≠some (.frz ob u):=h.elim (λz=>YZ z) λz=>by first |exact YZ z.2|exact z.elim
def bZ(I:Inv X pins σ H s){ks:List (Key×V)}{d:Addr}(h:DK X H d ks):ks.length<=sizeLine/\(d==sysModules)=false/\ ∃vs,KV ks vs/\s.heap.DictOf (xX X.prog X.w) d vs:=by
 rcases h with h|⟨rfl,h⟩
 .exact(show ObjOk X.prog X.w H s.heap d (.dK ks)from I.hok d _ h)
 .obtain⟨⟨hz,hs,o,es,ep,ho,hc,hd,he,hn⟩,_⟩:=(show ObjOk X.prog X.w H s.heap d (DN X.prog X.w d [])from I.hok d _ h)
  have he':es.toList=[]:=he;refine⟨zero_le _,hs,[],.nil,o,es,ep,ho,hc,hd,λe hm=>?_,by rw[he'];exact .nil,List.nodup_nil⟩;rw[<-Array.mem_toList_iff,he']at hm;exact absurd hm (by simp)
def EU:CallR X (.type "list") (λxs H Q=> ∃d ks,xs=[.ref d]/\DK X H d ks/\X.calm=true/\ ∀l,H l=none->Q (.ref l) (gD H l (.lst (ks.map λp=>kV p.1)))):=by
 intro pins s σ H xs us Q I r h;obtain⟨d,ks,rfl,dd,hc,q⟩:=h;obtain⟨u,rfl,rx⟩:=vals1 r;cases rx;obtain⟨z,hd,vs,rel,dm⟩:=bZ I dd;obtain⟨ep,hat⟩:=dm.dictAt;have hl:ks.length=vs.length:=Paired.length rel;refine PySem.W.kdl_call (PySem.W.kdl_dict (knd:=xX X.prog X.w) (kvs:=vs) (ep:=ep) hd) (I.ok.hd hc) hat (by omega) λh' tk acc c' hk hS hacc=>?_
 have rv:Vals (ks.map λp=>kV p.1) acc.toList:=by
  have key: ∀{ks:List (Key×V)}{vs:List (Key×Value)}{us:Uk},KV ks vs->us.length=vs.length->(∀(j:Nat)(v:Value),us[j]? =some v-> ∃(k:Key)(x:Value),vs[j]? =some (k,x)/\(xX X.prog X.w).is k v=true)->Vals (ks.map λp=>kV p.1) us:=by
   intro ks vs us kv;unfold KV at kv
   induction kv generalizing us with
   |nil=>intro hl _;cases us with
    |nil=>exact .nil
    |cons a b=>simp at hl
   |@cons p q ps qs h t ih=>
    intro hl hv
    cases us with
    |nil=>simp at hl
    |cons a b=>
     obtain⟨k,x,e,hi⟩:=hv 0 a rfl;simp only[List.getElem?_cons_zero,Option.some.injEq]at e;subst e;rw[List.map_cons];refine .cons ?_ (ih (by simpa using hl) λj v hj=>by simpa using hv (j+1) v (by simpa using hj));rw[h.1];rcases yY hi with⟨i,t,e1,e2⟩|⟨i,t,e1,e2⟩
     .subst e2;rw[show k=.inl i from e1];exact⟨t,rfl⟩
     .subst e2;rw[show k=.inr i from e1];exact⟨t,rfl⟩
  exact key rel (by rw[Array.length_toList];exact hacc.1) λj v e=>hacc.2 j v (by rw[<-Array.getElem?_toList];exact e)
 refine⟨.ref s.heap.objs.size,_,I.laid (t':=tk) hk (Nat.le_refl _) (show ObjOk X.prog X.w _ h' _ (.lst (ks.map λp=>kV p.1))from⟨by rw[lM];exact z,acc.toList,c',rv,?_⟩),rfl,q _ (I.hok.fresh (Nat.le_refl _))⟩;rw[Array.toArray_toList];exact hS
theorem IM: ∀{kvs:Xg}{ks:List (Key×V)},DenK X.K α H kvs ks->DenL X.K α H (kvs.map (·.1)) (ks.map λp=>kV p.1)
 |_,_,.nil=>xG
 |_,_,.cons (k:=c) (k':=c') hc a l=>by
  refine yZ ?_ (IM l)
  cases c with
  |int i=>rw[show c'=.inl i from hc];exact kQ i
  |str x=>rw[show c'=.inr (gF x)from hc];exact mP x
  |_=>exact False.elim hc
end
def StrAt(val:Nat->Key)(i:Nat)(v:Value):Prop:=(∃x t,val i=.inr x/\v=.str x t)\/ ∃x t,val i=.inl x/\v=.int x t
def StrAt.is{P:Program}{w:World}{val:Nat->Key}{i:Nat}{v:Value}(h:StrAt val i v):(xX P w).is (val i) v=true/\v.scannable=true:=by
 rcases h with⟨x,t,e,rfl⟩|⟨x,t,e,rfl⟩<;>rw[e]
 .exact⟨rG P w x t,rfl⟩
 .exact⟨BN P w x t,rfl⟩
section
variable{X:Cx}{o e:Expr}{es:Vj}{apos pos:Pos}{to:TE}{t:TA}{T:String}{name:Str}{id:String}{r:V->List V->Hp->VK->Prop}
def uK(X:Cx)(T:String)(TY:V->Hp->Prop):Prop:= ∀(pins:Vg)(s:Shared)(σ:St)(H:Hp)(x:V)(v:Value),Inv X pins σ H s->RelV x v->TY x H->s.TypeIs v T/\ ∀a,v=.ref a-> ∃ob,s.heap.get? a=some ob/\ob.dict=none
def RG{TY:V->Hp->Prop}(hTY:uK X T TY)(pa:PlainAttrs T)(slot:Slot T name id)(hty:typeOf (.builtin id)=pure (.type "method_descriptor"))(hm:Fc X id r)(ho:PE X o to)(ha:PA X (e::es) t)
  (hbase:attributeBase o name X.env (eval o X.env)=eval o X.env)
  (hfew:((backTo pos (starEach (e::es) X.env)).all (λx=>!x.1)&&(backToKw pos (keywordEach [] X.env)).all (λx=>x.1.isSome)
   &&decide ((e::es).length+([]:List Keyword).length+(if([]:List Keyword).isEmpty then 0 else 1)<30))=true)
  (hline:(apos.endLine==pos.line)=true) (hs:starEach (e::es) X.env=(false,eval e X.env)::starEach es X.env) (hplain:(backTo pos (starEach es X.env)).any (·.1)=false):
  PE X (.Call (.Attribute o name apos) (e::es) [] pos) (λσ H Q=>to σ H λx H1=>TY x H1/\t σ H1 λvs H2=>r x vs H2 Q):=by
 intro pins s σ H Q I h;refine wpAny_Call_method_late hbase hfew hline rfl (jM (ho pins s σ H _ I h) λv s1 ⟨x,H1,I1,r1,ty,q1⟩=>?_);obtain⟨h1,h2⟩:=hTY pins s1 σ H1 x v I1 r1 ty;refine⟨T,id,pa,slot,hty,h1,h2,?_⟩;have hA:=ha pos pins s1 σ H1 _ I1 q1;rw[hs]at hA ⊢;refine Calls.callWith_builtin (by show(false || (backTo pos (starEach es X.env)).any (·.1))=false;rw[hplain]<;>rfl) (Calls.evalArgs_plain ?_);exact jM hA λus s2 ⟨vs,H2,I2,r2,q2⟩=>hm pins s2 σ H2 x vs v us Q I2 r1 r2 q2
def TyD(X:Cx)(x:V)(H:Hp):Prop:= ∃d xs,x=.ref d/\DD X H d xs
def Of:uK X "dict" (TyD X):=by
 intro pins s σ H x v I rx ⟨d,xs,e,dd⟩;subst e;cases rx;rcases dd with h|⟨rfl,h⟩
 .obtain⟨⟨hz,hs,o,es,ep,ho,hc,_⟩,_⟩:=(show ObjOk X.prog X.w H s.heap d (DN X.prog X.w d xs)from I.hok d _ h)
  exact⟨⟨o,ho,hc.1⟩,λa e=>by cases e;exact⟨o,ho,hc.2.1⟩⟩
 .obtain⟨_,hs,vs,kv,o,es,ep,ho,hc,_⟩:=(show ObjOk X.prog X.w H s.heap d (.dK [])from I.hok d _ h)
  exact⟨⟨o,ho,hc.1⟩,λa e=>by cases e;exact⟨o,ho,hc.2.1⟩⟩
end
section
variable{X:Cx}{e:Expr}
theorem UA{α:Vb}{H:Hp}: ∀{kvs:Xg}{xs:List (NK×Addr×Value)}{k dd:MV}{nk:NK},DenN X.K α H kvs xs->wZ k=some nk->look kvs k=some dd-> ∃a u v,atKey xs nk=some (a,u)/\Den X.K α H dd v/\RelV v u
 |_,_,k,dd,nk,.nil,hk,h=>by cases h
 |_,_,k,dd,nk,.cons (k:=k') (nk:=nk') (a:=a) (d:=d') (v:=v) (u:=u) hk' e ha hd r l,hk,h=>by
  rw[sZ]at h;by_cases c:k'=k
  .subst c;have:nk'=nk:=by rw[hk]at hk';exact(Option.some.inj hk').symm
   rw[iP rfl]at h;cases h;exact⟨a,u,v,by rw[uH,iP this],hd,r⟩
  .have hn:nk'≠nk:=λz=>c (vL hk' (by rw[hk,z]));rw[iN c]at h;obtain⟨a2,u2,v2,h1,h2,h3⟩:=UA l hk h;exact⟨a2,u2,v2,by rw[uH,iN hn];exact h1,h2,h3⟩
end
def VAt(d:Addr)(us:Uk)(ep:Nat)(h:Heap):Prop:= ∃o es,h.get? d=some o/\o.ExactDict/\o.data=.dict es ep/\es.toList.map (·.val)=us
def VAt.at{d:Addr}{us:Uk}{ep:Nat}{h h':Heap}(x:VAt d us ep h)(m: ∀o,h.get? d=some o->h'.get? d=some o):VAt d us ep h':=let ⟨o,es,ho,r⟩:=x;⟨o,es,m o ho,r⟩
theorem VAt.size{d:Addr}{us:Uk}{ep:Nat}{h:Heap}(x:VAt d us ep h): ∃o es,h.get? d=some o/\o.ExactDict/\o.data=.dict es ep/\es.size=us.length/\ ∀i (hi:i<es.size),us[i]? =some es[i].val:=by obtain⟨o,es,ho,hc,hd,e⟩:=x;refine⟨o,es,ho,hc,hd,by rw[<-e,lM,Array.length_toList],λi hi=>?_⟩;rw[<-e,getElem?_map,Array.getElem?_toList,Array.getElem?_eq_getElem hi];rfl
end M
end L2
namespace L2
open PySem PySem.Spec PyProof.Rows
open Builtin Builtin.ObjectAttr
section
variable{h:Heap}{x:Addr}{o:Obj}{v:Value}{name:Str}
def SetAt(h h':Heap)(x:Addr)(o:Obj)(name:Str)(v:Value)(dx:Addr):Prop:=
 h.get? dx=none/\dx≠x/\h'.get? x=some {cls:=o.cls,dict:=some dx,data:=o.data,slots:=o.slots}/\h'.Ns1 dx (λy=>if y=name then some v else none)/\ ∀b ob,b≠x->h.get? b=some ob->h'.get? b=some ob
end
abbrev BIG:Nat:=10 ^ 100
section
variable{i:Nat}{σ:St}{H:Hp}
def tJ(i:Nat):TE:=λσ H Q=> ∃n,σ[i]? =some (some (.int n))/\n.natAbs<BIG/\ ∀y:Str,Q (.str y) H
end
namespace M
structure XIn(K:Vk)(M C f:Addr):Prop where
 ex: ∃nm q N bs sn sub ab col dd k0 k1 k2 k3 k5,K.lookup C=some (excClassObj nm q C N bs (.ref M::Uc) true sn sub ab col dd k0 k1 k2 k3 k5 "ValueError.__new__")/\PySem.W.nsOkIn K N=true/\PySem.W.nsIn K N "__init__"=some (some (.ref f))/\ ∀n∈qn,PySem.W.nsIn K N n=some none
 fo: ∃o,K.lookup f=some o/\o.cls=.type "function"
def XIn.cl{K:Vk}{M C f:Addr}(x:XIn K M C f):XCl K C (.ref M::Uc) (some (.ref f)):=by obtain⟨nm,q,N,bs,sn,sub,ab,col,dd,k0,k1,k2,k3,k5,a,b,c,d⟩:=x.ex;exact⟨nm,q,N,bs,true,sn,sub,ab,col,dd,k0,k1,k2,k3,k5,a,b,c,d,rfl⟩
structure DefM(K:Vk)(mg:Vd)(x:Str)(st:Stmt):Prop where
 ex: ∃f fd,mg x=some (.ref f)/\Fun K x x st f fd
def def_mk{K:Vk}{mg:Vd}{h:Heap}{x:Str}{st:Stmt}{g:Addr}{od an:Option Addr}{sl:Array (Option Value)}{oc kV dc pm cd ct:Value}(a:PySem.W.nsIn K mainGlobals x=some (some (.ref g)))
  (l:K.lookup g=some ⟨oc,od,.func (PySem.W.fnOf x x (aQ st) (bW st) (zI st) .none kV dc pm an cd ct),sl⟩) (c:PySem.W.codeIn K cd x=true) (k:PySem.W.keepIn K (.ref g)=true) (X:K.In h) (GG:h.Ns mainGlobals mg):DefM K mg x st:=⟨_,_,PySem.W.mg_of X GG a,JO l c k⟩
structure Cal(P:Program)(w:World)(K:Vk)(mg:Vd)(base:Heap)(CX:VN)(x:Str)(k:Nat)(ps:Vc)(sp:Sp):Prop where
 ex: ∃fa fd,FnOk P w K mg base CX k fa fd ps sp/\mg x=some (.ref fa)/\PySem.W.keepIn K (.ref fa)=true/\Binds K fd ps []
abbrev Hk(P:Program)(w:World)(K:Vk)(mg:Vd)(base:Heap)(x:Str)(k n:Nat)(ps:Vc)(F:List MV->Sto->R Er):Prop:=Cal P w K mg base CO x k ps (JW ⟨K,mg,P,w⟩ n F)
abbrev Sn(P:Program)(w:World)(K:Vk)(mg:Vd)(base:Heap)(x:Str)(k n:Nat)(ps:Vc)(F:List MV->Sto->R Er):Prop:=Cal P w K mg base (CXe P w) x k ps (spX ⟨K,mg,P,w⟩ n F)
section
variable{P:Program}{w:World}{K:Vk}{mg:Vd}{base:Heap}{x:Str}{st:Stmt}{ps:Vc}{k n:Nat}{F:List MV->Sto->R Er}
abbrev Og(x:Str)(st:Stmt)(ps:Vc):Prop:= ∀(kV doc pm:Value)(an:Option Addr)(cdv ct:Value)(us:Uk),us.length=ps.length->bindArgs (PySem.W.fnOf x x (aQ st) (bW st) (zI st) .none kV doc pm an cdv ct) ⟨us,[]⟩=pure (ps.zip us)
def IO(D:DefM K mg x st)(hb:Og x st ps)(h: ∀f fd,Fun K x x st f fd->FnOk P w K mg base CO k f fd ps (JW ⟨K,mg,P,w⟩ n F)):Hk P w K mg base x k n ps F:=
 let ⟨f,fd,m,Fu⟩:=D.ex;⟨f,fd,h f fd Fu,m,Fu.kp,Fu.binds hb⟩
def Cal.noX(G:Sn P w K mg base x k n ps F):Hk P w K mg base x k n ps F:=let ⟨fa,fd,G,m,kp,b⟩:=G.ex;⟨fa,fd,G.noX,m,kp,b⟩
def Oh{l:PySem.W.OpenLaw}{fa:Addr}{p:Str}(D:DefM K mg x st)(hfa:mg x=some (.ref fa))(hb: ∀(kV doc pm:Value)(an:Option Addr)(cdv ct:Value)(s:Shared)(v:Value),BindsTo s (PySem.W.fnOf x x (aQ st) (bW st) (zI st) .none kV doc pm an cdv ct) ⟨[v],[]⟩ [(p,v)])
  (h: ∀base f fd,Fun K x x st f fd->FnOk l.prog w K mg base CO k f fd [p] (JW ⟨K,mg,l.prog,w⟩ 1 F)):
  ∃fd:FuncData,(∀(s:Shared)(v:Value),BindsTo s fd ⟨[v],[]⟩ [(p,v)])/\ ∀base:Heap,K.In base->base.Ns mainGlobals mg->FnOk l.prog w K mg base CO k fa fd [p] (IF K F):=by
 obtain⟨f,fd,m,Fu⟩:=D.ex;rw[hfa]at m;cases m;refine⟨fd,?_,λbase _ _=>(h base fa fd Fu).imp λvs H Q E=>Aj (g:=⟨K,mg,l.prog,w⟩) vs H Q E⟩;obtain⟨_,_,_,_,_,_,_,_,_,rfl,_,_⟩:=Fu.ex;exact hb _ _ _ _ _ _
end
section
variable{X:Cx}{W:XW}{e:Expr}{es:Vj}{af:Rho->Sto->R (List Er)}{k n:Nat}{ps:Vc}{F:List MV->Sto->R Er}{x:Str}{p pos:Pos}
def zP(G:Hk X.prog X.w X.K X.mg X.base x k n ps F)(hr:Room k X.A)(hg:Gl X x)(ha:JS X W (e::es) af)(hdb:(x==("__debug__":Str))=false:=by decide)
  (he:starEach (e::es) X.env=(false,eval e X.env)::starEach es X.env:=by rfl) (hpl:(backTo pos (starEach es X.env)).any (·.1)=false:=by rfl):yP X W (.Call (.Name x p) (e::es) [] pos) (λρ S=>(af ρ S).bind λrs S1=>zR n F rs S1):=
 let ⟨_,_,G,m,kp,b⟩:=G.ex;JX G hr hg m kp b ha hdb he hpl
end
end M
end L2
namespace L2
open PySem PySem.Spec PyProof.Rows
structure RoomH(k:Nat)(A:Around):Prop where
 dp:A.depth+3 * k+5<recursionLimit
 un:A.units+16 * k+200<cLine
def RoomH.depth{k:Nat}{A:Around}(r:RoomH k A):A.depth<recursionLimit:=by have:=r.dp;omega
def RoomH.units{k:Nat}{A:Around}(r:RoomH k A):A.units+64<cLine:=by have:=r.un;omega
structure FnOkH(P:Program)(w:World)(K:Vk)(mg:Vd)(base:Heap)(k:Nat)(f:Addr)(fd:FuncData)(ps:Vc)(sp:Sp):Prop where
 len: ∀vs H Q E,sp vs H Q E->vs.length=ps.length
 run: ∀(A:Around)(outer:List Env)(s:Shared)(H:Hp)(args:Args)(us:Uk)(vs:List V)(Q:VK)(E:XK),RoomH k A->HdA A H->Env0 P w K mg base A outer s H->BindsTo s fd args (ps.zip us)->Vals vs us->sp vs H Q E->
  codeAny (model P w) A (.call (.ref f) args) (CR CO outer P w H s Q E) s
namespace M
section
variable{P:Program}{w:World}{K:Vk}{mg:Vd}{base:Heap}{x:Str}{ps:Vc}{k n:Nat}{F:List MV->Sto->R Er}
structure CalH(P:Program)(w:World)(K:Vk)(mg:Vd)(base:Heap)(x:Str)(k n:Nat)(ps:Vc)(F:List MV->Sto->R Er):Prop where
 ex: ∃fa fd,FnOkH P w K mg base k fa fd ps (JW ⟨K,mg,P,w⟩ n F)/\mg x=some (.ref fa)/\PySem.W.keepIn K (.ref fa)=true/\Binds K fd ps []
end
def maxF:List Er->Sto->R Er
 |[.val (.int i),.val (.int j)],S=>.ok (.val (.int (if j>i then j else i))) S
 |_,_=>.no
def RH:List Er->Sto->R Er
 |[.val (.int i),.val (.int j)],S=>.ok (.val (.int (if j<i then j else i))) S
 |_,_=>.no
section
variable{X:Cx}{W:XW}
def As:tS X W (λxs H Q=> ∃i j,xs=[.int i,.int j]/\Q (.int (if j<i then j else i)) H) RH:=by
 intro rs vs α S H Q wd d post;unfold RH at post;split at post
 .obtain⟨v,u,rfl,dv,du⟩:=Kb d;cases xU dv;cases xU du;exact⟨_,_,rfl,Post.val post wd (kQ _)⟩
 .exact post.elim
end
def Au:bootBuiltins "min"=some (.builtin "min"):=by decide+kernel
def So(kvs:Xg)(S:Sto):R Er:=.ok (.val (.loc S.length)) (S++[.dic kvs])
section
variable{X:Cx}{o e:Expr}{es:Vj}
def bG(ks:List (Key×V))(k:Key):Option V:=(ks.find? λp=>decide (p.1=k)).map (·.2)
theorem tB: ∀{ks:List (Key×V)}{vs:List (Key×Value)}(r:KV ks vs)(k:Key),(∀v,bG ks k=some v-> ∃u,valueAt vs k=some u/\RelV v u)/\(bG ks k=none->valueAt vs k=none)
 |_,_,.nil,k=>⟨λv h=>(nomatch h),λ_=>rfl⟩
 |(a,x)::ks,(b,u)::vs,.cons ⟨h1,h2⟩ l,k=>by
  cases (show a=b from h1);have ih:=tB l k;unfold bG valueAt;by_cases c:a=k
  .simp only[find?_cons,c,decide_true,Option.map_some];exact⟨λv h=>⟨u,rfl,by cases h;exact h2⟩,λh=>nomatch h⟩
  .simp only[find?_cons,c,decide_false];exact ih
theorem iE{α:Vb}{H:Hp}: ∀{kvs:Xg}{ks:List (Key×V)}{k:MV}{k':Key},DenK X.K α H kvs ks->KeyD k k'->(∀d,look kvs k=some d-> ∃v,bG ks k'=some v/\Den X.K α H d v)/\(look kvs k=none->bG ks k'=none)
 |_,_,_,_,.nil,_=>⟨λd h=>(nomatch h),λ_=>rfl⟩
 |_,_,k,k',.cons (k:=k0) (k':=k0') (d:=d0) (v:=v0) h1 h2 l,hk=>by
  have ih:=iE l hk;rw[sZ];unfold bG;by_cases c:k0=k
  .subst c;have:=KR h1 hk;simp only[find?_cons,this,decide_true,Option.map_some,iP rfl];exact⟨λd h=>⟨v0,rfl,by cases h;exact h2⟩,λh=>nomatch h⟩
  .have hn: ¬k0'=k':=λz=>c (ER h1 (z▸hk));simp only[find?_cons,hn,decide_false,iN c];exact ih
def TyK(X:Cx)(x:V)(H:Hp):Prop:= ∃d ks,x=.ref d/\DK X H d ks
def AT:uK X "dict" (TyK X):=by intro pins s σ H x v I rx ⟨d,ks,e,dd⟩;subst e;cases rx;obtain⟨_,hs,vs,kv,o,es,ep,ho,hc,_⟩:=bZ I dd;exact⟨⟨o,ho,hc.1⟩,λa e=>by cases e;exact⟨o,ho,hc.2.1⟩⟩
end
section
variable{α β:Type}
def vJ(i:Nat)(ρ:Rho)(S:Sto):R Er:=Fv (ρ[i]?) S
def kJ(d:MV)(_:Rho)(S:Sto):R Er:=.ok (.val d) S
def bJ(f:Rho->Sto->R α)(F:α->Sto->R β)(ρ:Rho)(S:Sto):R β:=(f ρ S).bind F
def dJ(F:Er->Er->Sto->R Er)(f g:AX)(ρ:Rho)(S:Sto):R Er:=(f ρ S).bind λp S=>(g ρ S).bind λq S=>F p q S
def nJ(f:AX)(ρ:Rho)(S:Sto):R Er:=(f ρ S).bind λp S=>(gC p S).bind λk S=>.ok (.val (.bl !k)) S
def aJ(f g:AX)(ρ:Rho)(S:Sto):R Er:=(f ρ S).bind λp S=>Fx p S λS=>g ρ S
def oJ(f g:AX)(ρ:Rho)(S:Sto):R Er:=(f ρ S).bind λp S=>orF p S λS=>g ρ S
def iJ(c:AZ)(f g:Rho->Sto->R α)(ρ:Rho)(S:Sto):R α:=(c ρ S).bind λk S=>if k=true then f ρ S else g ρ S
def mJ(_:Rho)(S:Sto):R (Option Int):=.ok none S
def tJ(F:Er->Option Int->Option Int->Sto->R Er)(f:AX)(g h:Rho->Sto->R (Option Int))(ρ:Rho)(S:Sto):R Er:=(f ρ S).bind λp S=>(g ρ S).bind λl S=>(h ρ S).bind λu S=>F p l u S
def lJ(k:Xg)(_:Rho)(S:Sto):R Er:=So k S
def zJ(_:Rho)(S:Sto):R Er:=IK S
def fJ(n:Nat)(F:List MV->Sto->R Er)(a:Rho->Sto->R (List Er))(ρ:Rho)(S:Sto):R Er:=(a ρ S).bind λr S=>zR n F r S
def xJ(n:Nat)(F:List MV->Sto->R Er)(a:Rho->Sto->R (List Er))(ρ:Rho)(S:Sto):R Er:=(a ρ S).bind λr S=>TZ n F r S
def hJ(F:List MV->Sto->R Er)(_:Rho)(S:Sto):R Er:=zR 0 F [] S
def eJ(t:Er->Sto->Bool)(F:Er->List Er->Sto->R Er)(f:AX)(a:Rho->Sto->R (List Er))(ρ:Rho)(S:Sto):R Er:=(f ρ S).bind λp S=>if t p S=true then(a ρ S).bind λr S=>F p r S else .no
def gJ(t:Er->Sto->Bool)(F:Er->List Er->Sto->R Er)(f:AX)(ρ:Rho)(S:Sto):R Er:=(f ρ S).bind λp S=>if t p S=true then F p [] S else .no
def uJ(_:Rho)(S:Sto):R Bool:=.ok true S
def pJ(i:Rho->Sto->R Wk)(g:MV->Rho->Sto->R Rho)(c:AZ)(e:AX)(n:Nat)(I:Db)(ρ:Rho)(S:Sto):R Er:=(i ρ S).bind λk S=>if k.ds.length<1000000 then(kO g c e (CS n I ρ) k.gs k.ds S).bind λo S=>.ok (.new o) S else .no
def jJ(F G:Er->Er->Sto->R Er)(f g h:AX)(ρ:Rho)(S:Sto):R Er:=(f ρ S).bind λp S=>(g ρ S).bind λq S=>chF F G p q S λS=>h ρ S
def qJ(f:AZ)(ρ:Rho)(S:Sto):R Bool:=(f ρ S).bind λk S=>.ok (!k) S
def rJ(f g:AZ)(ρ:Rho)(S:Sto):R Bool:=(f ρ S).bind λk S=>if k=true then g ρ S else .ok false S
def sJ(f g:AZ)(ρ:Rho)(S:Sto):R Bool:=(f ρ S).bind λk S=>if k=true then .ok true S else g ρ S
def wJ(_:Rho)(S:Sto):R (List Er):=.ok [] S
def yJ(f:AX)(g:Rho->Sto->R (List Er))(ρ:Rho)(S:Sto):R (List Er):=(f ρ S).bind λp S=>(g ρ S).bind λl S=>.ok (p::l) S
def AJ(f:AX)(ρ:Rho)(S:Sto):R Fl:=(f ρ S).bind λr S=>.ok (.ret r) S
def BJ(f:AX)(ρ:Rho)(S:Sto):R Fl:=(f ρ S).bind λ_ S=>.ok (.next ρ) S
def CJ(f:AX)(i:Nat)(ρ:Rho)(S:Sto):R Fl:=(f ρ S).bind (JU ρ i)
def DJ(F:Er->Er->MV->Rho->Sto->R Rho)(f g:AX)(d:MV)(ρ:Rho)(S:Sto):R Rho:=(f ρ S).bind λp S=>(g ρ S).bind λq S=>F p q d ρ S
def EJ(f:AX)(g:MV->Rho->Sto->R Rho)(ρ:Rho)(S:Sto):R Fl:=(f ρ S).bind (Ga g ρ)
def FJ(i:Rho->Sto->R Wk)(g:MV->Rho->Sto->R Rho)(b:AY)(ρ:Rho)(S:Sto):R Fl:=(i ρ S).bind λk S=>xY g b k.gs k.ds ρ S
def GJ(a:Rho->Sto->R (List Er))(c:Str)(ρ:Rho)(S:Sto):R Fl:=(a ρ S).bind λr S=>if r.length<=10 then .exc c [] S else .no
def HJ(cs:Vc)(i:Nat)(h:AY)(n:Nat)(F:List MV->Sto->R Er)(a:Rho->Sto->R (List Er))(ρ:Rho)(S:Sto):R Fl:=(noX (a ρ S)).bind λr S=>Hh cs i (λ_ S=>.ok (.next ρ) S) h ρ (TZ n F r S)
def IJ(cs:Vc)(i j:Nat)(h:AY)(n:Nat)(F:List MV->Sto->R Er)(a:Rho->Sto->R (List Er))(ρ:Rho)(S:Sto):R Fl:=(noX (a ρ S)).bind λr S=>Hh cs i (JU ρ j) h ρ (TZ n F r S)
def JJ(ρ:Rho)(S:Sto):R Fl:=.ok (.next ρ) S
end
def Itv(K:Vk)(l:Addr)(n:Nat):It:=
 ⟨λi H=> ∃xs x,SqL K H l xs/\xs.length=n/\xs.reverse[i]? =some x,
   λi H v H'=>H'=H/\ ∀xs,SqL K H l xs->xs.reverse[i]? =some v,
   λi _=>n<=i⟩
def Av{P:Program}{w:World}{K:Vk}{tg:Expr}(l it:Addr)(n:Nat):Turn P w K tg (Itv K l n) [it] it (λi h=>h.IsRevIter it l (((n - i:Nat):Int) - 1)) where
 mem:=by simp
 obj:=λi h st b hb=>by
  have e:b=it:=by simpa using hb
  subst e;obtain⟨o,e,c,d⟩:=st;exact⟨o,e,λv z=>by rw[d]at z;cases z⟩
 keep:=λi h h' st k=>st.at λo e=>k it (by simp) o e
 item:=by
  intro X hP hw hK hc i pins s σ H E I hf st hg;subst hP hw hK;obtain⟨xs,x,hq,hn,hx⟩:=hg;obtain⟨its,rv,p,hz⟩:=I.list hq;have hi:i<xs.length:=by have:=(gS.mp hx).1;rw[List.length_reverse]at this;exact this
  have hx':=hx;rw[List.getElem?_reverse hi]at hx';obtain⟨u,hu,ru⟩:=rv.get hx';obtain⟨f0,f1,f2,f3,f4,f5⟩:=hf it (by simp);have e1:(((n - i:Nat):Int) - 1)=((xs.length - 1 - i:Nat):Int):=by omega
  have st':s.heap.IsRevIter it l (((n - i:Nat):Int) - 1):=st;rw[e1]at st';refine wpAny_pyNext_rev_item st' p.isList (x:=u) (by simpa using hu) λh' st2 sb=>?_;have I1:Inv X pins σ H {s with heap:=h'}:=I.turned (t':=s.toks) (λb o hb e=>(sb.2 b hb).trans e) f0 f1 f3 f4 f5;obtain⟨o,e,c,d⟩:=id st2;have e2:((xs.length - 1 - i:Nat):Int) - 1=(((n - (i+1):Nat):Int) - 1):=by omega
  refine⟨u,rfl,MR (s:={s with heap:=h'}) e c d (by decide) ⟨x,H,I1,ru,⟨rfl,λys hy=>by rw[I.list_inj hy hq];exact hx⟩,?_,λb hb=>(hf b hb).1⟩⟩;dsimp only;rw[<-e2];exact st2
 done:=by
  intro X hP hw hK hc i pins s σ H E I hf st hg;subst hP hw hK;have hg:n<=i:=hg;obtain⟨f0,f1,f2,f3,f4,f5⟩:=hf it (by simp);have e1:(((n - i:Nat):Int) - 1)= -1:=by omega
  have st:s.heap.IsRevIter it l (((n - i:Nat):Int) - 1):=st;rw[e1]at st;exact wpAny_pyNext_rev_end (I.ok.hd hc) st λh' eb=>⟨rfl,I.turned (t':=s.toks) (λb o hb e=>eb b o hb e) f0 f1 f3 f4 f5⟩
 self:=λ_ _ _ _ _ st h=>wpAny_pyIter_revIter st h
section
variable{X:Cx}{W:XW}{a e:Expr}{tg:Expr}{p pos:Pos}{ta:TA}{f:AX}{af:Rho->Sto->R (List Er)}
def NY:bootBuiltins "reversed"=some (.type "reversed"):=by decide+kernel
def iRev(K:Vk)(ta:TA):TI:=λσ H R=>ta σ H λvs H1=> ∃l xs,vs=[.ref l]/\SqL K H1 l xs/\R (Itv K l xs.length) H1
def Oi(hg:Gl X "reversed")(hm:X.mg "reversed"=none)(ha:PA X [a] ta)(hs:starEach [a] X.env=[(false,eval a X.env)]:=by rfl):
  PI X tg (.Call (.Name "reversed" p) [a] [] pos) (iRev X.K ta):=by
 intro pins s σ H R I h;refine Call_ (AD I hg hm NY (PyProof.Rows.callWith_type1 (jM (ha pos pins s σ H _ I h) λus s1 ⟨vs,H1,I1,r1,q1⟩=>?_) (by rw[hs];rfl) (by rfl)));obtain⟨l,xs,rfl,c1,q⟩:=q1
 cases r1 with
 |cons r rr=>
  cases rr;cases r;obtain⟨its,v1,p1,_⟩:=I1.list c1;refine call_reversed_list p1.isList (wpAny_pyIter_revIter (i:=(its.toArray.size:Int) - 1) (l:=l) ⟨_,Heap.get?_push_size _ rfl,rfl,rfl⟩ ?_);refine⟨s1.heap.objs.size,[s1.heap.objs.size],_,_,H1,rfl,I1.kept (t':=s1.toks) λb o e=>hP0 _ e,Av l _ xs.length,⟨_,Heap.get?_push_size _ rfl,rfl,?_⟩,λb hb=>?_,q⟩
  .have:((xs.length - 0:Nat):Int) - 1=(its.toArray.size:Int) - 1:=by rw[v1.length];simp
   rw[this];rfl
  .have e:b=s1.heap.objs.size:=by simpa using hb
   subst e;exact I1.fpOk (Nat.le_refl _) (I1.hok.fresh (Nat.le_refl _))
def Ug(rs:List Er)(S:Sto):R Wk:=match rs with
 |[p]=>match srcOf S p with
  |some a=>if a.k=true then .ok ⟨a.ds.reverse,a.gs⟩ S else .no
  |none=>.no
 |_=>.no
def Oj(hg:Gl X "reversed")(hm:X.mg "reversed"=none)(ha:JS X W [a] af)(hs:starEach [a] X.env=[(false,eval a X.env)]:=by rfl):
  Gb X W tg (.Call (.Name "reversed" p) [a] [] pos) (λρ S=>(af ρ S).bind Ug):=by
 obtain⟨t,ha,k⟩:=ha;refine⟨_,Oi hg hm ha hs,λα ρ S σ H Rc wd sl q=>k α ρ S σ H _ wd sl (q.bind λvs rs S1 α1 H1 e x1 w1 d1 q1=>?_)⟩
 replace q1:=q1.shift x1
 unfold Ug at q1;split at q1
 .rename_i r1;split at q1
  .rename_i s1 e1;split at q1
   .rename_i hk;obtain⟨u,rfl,du⟩:=ZL d1;obtain⟨l1,P1,rfl,p1,D1⟩:=QZ w1 e1 du;have gk: ∀α S H,P1 α S H-> ∃vs,SqL X.K H l1 vs/\DenL X.K α H s1.ds vs:=λα S H h=>by have:=D1.get _ _ _ h;rw[hk]at this;exact this
    obtain⟨vs,g1,g2⟩:=gk _ _ _ p1;have hl:=g2.length;refine⟨l1,vs,rfl,g1,q1.here (u:=Itv X.K l1 vs.length) w1 ⟨λα S H=>P1 α S H,?_,p1,?_,?_⟩⟩
    .intro i α2 S2 H2 b1 w2;obtain⟨us,c1,c2⟩:=gk _ _ _ b1;have hl2:=c2.length;refine⟨λhi=>?_,λhi=>?_⟩
     .have hi:i<s1.ds.reverse.length:=hi;rw[List.length_reverse]at hi;have h1:i<us.reverse.length:=by rw[List.length_reverse];omega
      refine⟨⟨us,us.reverse[i],c1,by omega,gE h1⟩,?_⟩;rintro x H' ⟨rfl,hx⟩;obtain⟨d,hd,dd⟩:=c2.reverse.get (hx us c1);exact⟨Ext.refl _ _,w2,b1,d,hd,dd⟩
     .have hi:s1.ds.reverse.length<=i:=hi;rw[List.length_reverse]at hi;show vs.length<=i;omega
    .intro α1 S1 H1 α2 S2 H2 b1 x w hs;exact D1.stays _ _ _ _ _ _ b1 x w hs
    .exact D1.st _ _ _ p1
   .exact q1.elim
  .exact q1.elim
 .exact q1.elim
def augF(F:Er->Er->Sto->R Er)(i:Nat)(f:AX)(ρ:Rho)(S:Sto):R Fl:=(Fv (ρ[i]?) S).bind λp S1=>(f ρ S1).bind λq S2=>(F p q S2).bind (JU ρ i)
end
section
variable{X:Cx}{W:XW}{i:Nat}{Fh:AY}{x:Str}{ns:Vc}
def TB(X:Cx)(W:XW)(ns:Vc)(i:Nat)(Fh:AY)(hs:List ExceptHandler)(st:Stmt)(bf:AX):Prop:=
 ∀α ρ S σ H D pins s,Wd X.g α S H->Slots X.K α H ρ σ->PostS X.g W α H D (Hh ns i (λ_ S2=>.ok (.next ρ) S2) Fh ρ (bf ρ S))->Inv X pins σ H s->
  wpAny (model X.prog X.w) X.A (exec st X.env) (λf s'=>f=Flow.next/\ ∃H',Inv X pins σ H' s'/\D.nx σ H')
   (λx s1=>wpAny (model X.prog X.w) X.A (noteFrame x X.env) (λ_ s₂=>wpAny (model X.prog X.w) X.A (setFlight x none) (λ_ s₃=>wpAny (model X.prog X.w) X.A (handleBy x X.env hs) (SP X pins D) X.xe s₃) X.xe s₂) X.xe s1) s
end
def KJ(n:Nat)(F:List MV->Sto->R Er)(a:Rho->Sto->R (List Er))(ρ:Rho)(S:Sto):R Er:=(noX (a ρ S)).bind λr S=>TZ n F r S
def LJ(c:AZ)(f g:AX)(ρ:Rho)(S:Sto):R Er:=(noX (c ρ S)).bind λk S=>if k=true then f ρ S else g ρ S
def MJ(cs:Vc)(i:Nat)(h:AY)(f:AX)(ρ:Rho)(S:Sto):R Fl:=Hh cs i (λ_ S=>.ok (.next ρ) S) h ρ (f ρ S)
end M
end L2
namespace L2
open PySem PySem.Spec PyProof.Rows
namespace M
structure OC(K:Vk)(c:Str)(C:Addr):Prop where
 ns:PySem.W.nsIn K mainGlobals c=some (some (.ref C))
 nm:(PySem.W.clsIn K C).map (·.name)=some c
 cl:Cls K C
theorem OC.eq{K:Vk}{c:Str}{C C':Addr}(o:OC K c C)(h:PySem.W.nsIn K mainGlobals c=some (some (.ref C'))):C'=C:=by have:=o.ns;rw[h]at this;cases this;rfl
section
variable{f:AX}{af:Rho->Sto->R (List Er)}{p:Pos}{m:Str}
def selM(m:Str)(l:List (Str×(List MV->Sto->R Er))):Er->Option (List MV->Sto->R Er)
 |.val (.obj c ns _)=>if m∈ns then none else l.lookup c
 |_=>none
def NJ(m:Str)(n:Nat)(l:List (Str×(List MV->Sto->R Er)))(f:AX)(af:Rho->Sto->R (List Er))(ρ:Rho)(S:Sto):R Er:=(f ρ S).bind λp S=>match selM m l p with
 |some F=>(af ρ S).bind λr S=>zR n F (p::r) S
 |none=>.no
end
def nm_of{K:Vk}{C:Addr}{cd:ClassData}{c:Str}(e:PySem.W.clsIn K C=some cd)(h:cd.name=c):(PySem.W.clsIn K C).map (·.name)=some c:=by rw[e];exact congrArg some h
section
variable{X:Cx}{W:XW}{a b o i e:Expr}{f g:AX}{pos:Pos}{α:Vb}{H:Hp}{pins:Vg}{σ:St}{s:Shared}
def Ol:MV->Option Key
 |.int i=>some (.inl i)
 |.str x=>some (.inr (gF x))
 |_=>none
def RI: ∀{k:MV}{k':Key},Ol k=some k'->KeyD k k'
 |.int i,_,h=>by cases h;exact rfl
 |.str x,_,h=>by cases h;exact rfl
 |.non,_,h=>nomatch h
 |.bl _,_,h=>nomatch h
 |.tup _,_,h=>nomatch h
 |.scr _,_,h=>nomatch h
 |.loc _,_,h=>nomatch h
 |.typ _,_,h=>nomatch h
 |.obj _ _ _,_,h=>nomatch h
def RK: ∀{k:MV}{k':Key}{v:V},Ol k=some k'->Den X.K α H k v->v=kV k'
 |.int i,_,_,h,d=>by cases h;exact jP d
 |.str x,_,_,h,d=>by cases h;exact jQ d
 |.non,_,_,h,_=>nomatch h
 |.bl _,_,_,h,_=>nomatch h
 |.tup _,_,_,h,_=>nomatch h
 |.scr _,_,_,h,_=>nomatch h
 |.loc _,_,_,h,_=>nomatch h
 |.typ _,_,_,h,_=>nomatch h
 |.obj _ _ _,_,_,h,_=>nomatch h
def NZ: ∀{k:Key}{u:Value},RelV (kV k) u->(xX X.prog X.w).is k u=true
 |.inl i,_,h=>by obtain⟨t,rfl⟩:=(h: ∃t,_=_);exact BN _ _ i t
 |.inr x,_,h=>by obtain⟨t,rfl⟩:=(h: ∃t,_=_);exact rG _ _ x t
def uL(k:MV):Bool:=(Ol k).isSome
def Sq{kvs:Xg}{d:Addr}(ob:ObD X.g α H d (.dic kvs))(hk:kvs.all (λp=>uL p.1)=true): ∃ks,DK X H d ks/\DenK X.K α H kvs ks:=by
 rcases ob with⟨ks,h,l⟩|⟨xs,h,l⟩
 .exact⟨ks,.inl h,l⟩
 .cases l with
  |nil=>exact⟨[],.inr ⟨rfl,h⟩,.nil⟩
  |@cons k nk a d v u fs xs hn e ha hd r l=>
   rw[List.all_cons,aE]at hk;obtain⟨k',hk'⟩:=Option.isSome_iff_exists.mp hk.1;have:=RK hk' ha;cases k'<;>cases this
def pA(S:Sto):Er->Option (Nat×List (MV×MV))
 |.val (.loc l)=>match S[l]? with
  |some (.dic kvs)=>if kvs.all (λp=>uL p.1)=true then some (l,kvs)else none
  |_=>none
 |_=>none
def UB{S:Sto}(wd:Wd X.g α S H){r:Er}{x:V}{l:Nat}{kvs:Xg}(e:pA S r=some (l,kvs))(d:DenX X.K α H r x):
  ∃c ks,x=.ref c/\α[l]? =some c/\S[l]? =some (.dic kvs)/\DK X H c ks/\DenK X.K α H kvs ks/\kvs.all (λp=>uL p.1)=true:=by
 unfold pA at e;split at e
 .rename_i n;obtain⟨c,rfl,h⟩:=eX d;split at e
  .rename_i ks hS;split at e
   .rename_i hk;obtain⟨rfl,rfl⟩:=Prod.mk.inj (Option.some.inj e);obtain⟨xs,dd,l⟩:=Sq (wd.obj _ c _ h hS) hk;exact⟨c,xs,rfl,h,hS,dd,l,hk⟩
   .cases e
  .cases e
 .cases e
def RL{ks:List (Key×V)}{d:Addr}(dd:DK X H d ks):Pu (H d):=by rcases dd with z|⟨_,z⟩<;>rw[z]<;>exact trivial
def Ss(X:Cx):TSet:=λo i v H Q=> ∃(ks:List (Key×V))(d:Addr)(k:Key),o=.ref d/\i=kV k/\DK X H d ks/\ks.length<sizeLine/\Q (gD H d (.dK (uI ks k v)))
def WT:Eh X (Ss X):=by
 intro pins s σ H o i v ov iv u Q I ro ri rv h;obtain⟨ks,d,k,rfl,rfl,dd,hz,q⟩:=h;cases ro;obtain⟨z,hd,vs,rel,dm⟩:=bZ I dd;have hl:ks.length=vs.length:=Paired.length rel;have hp:=EQ ks k v;refine wpAny_setItem_pairs (knd:=xX X.prog X.w) (hsz:=by omega) (NZ ri) dm λh' dm' hs'=>⟨_,?_,q⟩
 have he: ∃q,h'.get? d=some q:=let ⟨q,_,_,hq,_⟩:=dm';⟨q,hq⟩;exact I.write (t':=_) (x:=d) (e:=d) (RL dd) (.inl rfl) (λb uo hb eo=>(hs'.2 b hb).trans eo) he ⟨by omega,hd,_,RF rel _ rv,dm'⟩
def vM(p q:Er)(d:MV)(ρ:Rho)(S:Sto):R Rho:=match q with
 |.val k=>match pA S p with
  |some (l,kvs)=>if uL k=true/\kvs.length<1000000 then .ok ρ (S.set l (.dic (putK kvs k d)))else .no
  |none=>.no
 |_=>.no
def KS(ho:yP X W o f)(hi:yP X W i g)
  (ha: ∀v,assign (.Subscript o i pos) X.env v=(do
   let ov <-holding [v] (eval o X.env);let iv <-holding [v,ov] (eval i X.env)
   standAt pos
   holding [v,ov,iv] (setItem ov iv v)
   release [v,ov,iv] []):=by intro _;rfl):Ju X W (.Subscript o i pos) (λd ρ S=>(f ρ S).bind λp S1=>(g ρ S1).bind λq S2=>vM p q d ρ S2):=by
 obtain⟨to,ho,fo⟩:=ho;obtain⟨ti,hi,fi⟩:=hi;refine⟨_,PR ho hi WT ha,λα ρ S σ H d v Q wd sl de q=>fo α ρ S σ H _ wd sl (q.bind λu p S1 α1 H1 e1 x1 w1 d1 q1=>fi α1 ρ S1 σ H1 _ w1 (sl.ext x1) ((q1.shift x1).bind λu2 p2 S2 α2 H2 e2 x2 w2 d2 q2=>?_))⟩
 replace q2:=q2.shift x2
 have d1':=DenX.ext x2 d1.1;have de2:=(de.ext x1).ext x2;unfold vM at q2;split at q2
 .rename_i k;split at q2
  .rename_i l kvs e;split at q2
   .rename_i hk;obtain⟨c,ks,rfl,hc,hS,dd,dl,hall⟩:=UB w2 e d1';obtain⟨k',hk'⟩:=Option.isSome_iff_exists.mp hk.1;refine⟨ks,c,k',rfl,RK (X:=X) (α:=α2) (H:=H2) hk' d2.1,dd,?_,?_⟩
    .rw[dl.length];exact Nat.lt_of_lt_of_le hk.2 (fits (Nat.le_refl _))
    .have xw:=w2.writex hc dd.nf (o:=.dK (uI ks k' v));have sl2:=((sl.ext x1).ext x2).ext xw;exact q2 σ α2 _ xw (w2.write hc dd.nf (.inl ⟨_,xB,(ET (k:=k) dl (RI hk') de2).ex0 xw.toEx0⟩)) sl2
   .exact q2.elim
  .exact q2.elim
 .exact q2.elim
abbrev Su(X:Cx)(neg:Bool):R2:=λx y H Q=> ∃(ks:List (Key×V))(d:Addr)(k:Key),x=kV k/\y=.ref d/\DK X H d ks/\
 Q (.bl (if neg=true then !(bG ks k).isSome else(bG ks k).isSome)) H
theorem look_same{ks:List (Key×V)}{vs:List (Key×Value)}(r:KV ks vs)(k:Key):(valueAt vs k).isSome=(bG ks k).isSome:=by
 obtain⟨l1,l2⟩:=tB r k
 cases h:bG ks k with
 |none=>rw[l2 h];rfl
 |some v=>obtain⟨u,e,_⟩:=l1 v h;rw[e];rfl
def Om:OpR X (compareOp .In) (Su X false):=by intro pins s σ H x y v u Q I rx ry h;obtain⟨ks,d,k,rfl,rfl,dd,q⟩:=h;cases ry;obtain⟨_,hs,vs,rel,dm⟩:=bZ I dd;refine wpAny_in_of (knd:=xX X.prog X.w) (NZ rx) hs dm.mapOf ?_;rw[look_same rel k];exact⟨.bl (bG ks k).isSome,H,I.kept (t':=_) (λ_ _ z=>z),rfl,q⟩
def RM(neg:Bool)(p q:Er)(S:Sto):R Er:=match p with
 |.val k=>match pA S q with
  |some (_,kvs)=>if uL k=true then .ok (.val (.bl (if neg=true then !(look kvs k).isSome else(look kvs k).isSome))) S else .no
  |none=>.no
 |_=>.no
theorem WU{kvs:Xg}{ks:List (Key×V)}{k:MV}{k':Key}(l:DenK X.K α H kvs ks)(hk:KeyD k k'):(bG ks k').isSome=(look kvs k).isSome:=by
 obtain⟨g1,g2⟩:=iE l hk
 cases h:look kvs k with
 |none=>rw[g2 h];rfl
 |some v=>obtain⟨u,e,_⟩:=g1 v h;rw[e];rfl
def Hl{neg:Bool}:MM X W (Su X neg) (RM neg):=by
 intro p q x y α S H Q wd dp dq post;unfold RM at post;split at post
 .rename_i k;split at post
  .rename_i l kvs e;split at post
   .rename_i hk;obtain⟨c,ks,rfl,_,_,dd,dl,_⟩:=UB wd e dq;obtain⟨k',hk'⟩:=Option.isSome_iff_exists.mp hk;refine⟨ks,c,k',RK (X:=X) (α:=α) (H:=H) hk' dp,rfl,dd,?_⟩;rw[WU dl (RI hk')];exact Post.val post wd (bH _)
   .exact post.elim
  .exact post.elim
 .exact post.elim
def Aw(ha:yP X W a f)(hb:yP X W b g)(hm:behindInMarks .In b=false:=by with_unfolding_all rfl):DY X W (.Compare a [.In] [b] pos) (λρ S=>((f ρ S).bind λp S1=>(g ρ S1).bind λq S2=>RM false p q S2).bind gC):=oE Om Hl ha hb hm
end
def delK(kvs:Xg)(k:MV):List (MV×MV):=kvs.filter λp=>!decide (p.1=k)
def popXF(p:Er)(rs:List Er)(S:Sto):R Er:=match rs with
 |[.val k,.val y]=>match pA S p with
  |some (l,kvs)=>if uL k=true then(match look kvs k with |some d=>.ok (.val d) (S.set l (.dic (delK kvs k)))|none=>.ok (.val y) S)else .no
  |none=>.no
 |_=>.no
def uM(p:Er)(S:Sto):Bool:=(pA S p).isSome
section
variable{X:Cx}{W:XW}{α:Vb}{H:Hp}
def tupKF:List Er->Sto->R Er
 |[r],S=>match pA S r with |some (_,kvs)=>.ok (.val (.tup (kvs.map (·.1)))) S|none=>.no
 |_,_=>.no
def rX:List Er->Sto->R Er
 |[r],S=>match pA S r with |some (_,kvs)=>.ok (.new (kvs.map (·.1))) S|none=>.no
 |_,_=>.no
def OA(hc:X.calm=true):tS X W (λxs H Q=> ∃d ks,xs=[.ref d]/\DK X H d ks/\X.calm=true/\ ∀l,H l=none->Q (.ref l) (gD H l (.lst (ks.map λp=>kV p.1)))) rX:=by
 intro rs vs α S H Q wd d post;unfold rX at post;split at post
 .split at post
  .rename_i n kvs e;obtain⟨v,rfl,dv⟩:=rO d;obtain⟨c,ks,rfl,h1,h2,dd,dl,_⟩:=UB wd e dv;exact⟨c,ks,rfl,dd,hc,λl hl=>Post.newl post wd hl (IM dl)⟩
  .exact post.elim
 .exact post.elim
end
def shrC(i j:Int):Prop:=0<=j
instance(i j:Int):Decidable (shrC i j):=inferInstanceAs (Decidable (_<=_))
section
variable{X:Cx}{α:Vb}{H:Hp}
def Hm{ps:List (Key×V)}{qs:List (Key×Value)}(r:KV ps qs): ∀{as:List (Key×V)}{bs:List (Key×Value)},KV as bs->KV (ps.foldl (λacc p=>uI acc p.1 p.2) as) (merged bs qs):=by
 unfold KV at r
 induction r with
 |nil=>intro as bs h;exact h
 |@cons p q ps qs h t ih=>
  intro as bs hb;rw[List.foldl_cons];show KV _ (merged (stored bs q.1 q.2) qs);rw[h.1];exact ih (RF hb _ h.2)
theorem IQ: ∀{kvs:Xg}{ps:List (Key×V)},DenK X.K α H kvs ps-> ∀{as:Xg}{bs:List (Key×V)},DenK X.K α H as bs->DenK X.K α H (kvs.foldl (λacc p=>putK acc p.1 p.2) as) (ps.foldl (λacc p=>uI acc p.1 p.2) bs)
 |_,_,.nil,as,bs,h=>h
 |_,_,.cons (k:=k) (k':=k') hk a l,as,bs,h=>by rw[List.foldl_cons,List.foldl_cons];exact IQ l (ET h hk a)
def KU:bootBuiltins "dict"=some (.type "dict"):=by decide+kernel
end
section
variable{X:Cx}{W:XW}{b o e:Expr}{es:Vj}{f:AX}{af:Rho->Sto->R (List Er)}{apos pos:Pos}{α:Vb}{H:Hp}{pins:Vg}{σ:St}{s:Shared}
def OB(ks ps:List (Key×V)):List (Key×V):=ps.foldl (λacc p=>uI acc p.1 p.2) ks
theorem IR: ∀(ps ks:List (Key×V)),(OB ks ps).length<=ks.length+ps.length
 |[],ks=>Nat.le_refl _
 |p::ps,ks=>by have h1:=IR ps (uI ks p.1 p.2);have h2:=EQ ks p.1 p.2;show(OB (uI ks p.1 p.2) ps).length<=_;rw[lC];omega
def Kd(X:Cx):V->List V->Hp->VK->Prop:=λx vs H Q=> ∃(ks ps:List (Key×V))(d p:Addr),x=.ref d/\vs=[.ref p]/\d≠p/\DK X H d ks/\DK X H p ps/\ks.length+ps.length<2000000/\Q .non (gD H d (.dK (OB ks ps)))
def Hn:Fc X "dict.update" (Kd X):=by
 intro pins s σ H x vs v us Q I rx rv h;obtain⟨ks,ps,d,p,rfl,rfl,hne,dd,dp,hz,q⟩:=h;obtain⟨u1,rfl,r1⟩:=vals1 rv;cases rx;cases r1;have hT:s.TypeIs (.ref d) "dict":=(AT pins s σ H (.ref d) (.ref d) I rfl ⟨d,ks,rfl,dd⟩).1;obtain⟨z,hs,vs,kv,dm⟩:=bZ I dd;obtain⟨z2,hs2,vs2,kv2,dm2⟩:=bZ I dp;have hl:ks.length=vs.length:=Paired.length kv;have hl2:ps.length=vs2.length:=Paired.length kv2;have hS:=sizeLine_eq
 refine call_meetsIn PySem.F.slot_dict_update hT PySem.F.entry_dict_update (PySem.F.args_dict_update_2 _ _) (meets_dict_update (xX X.prog X.w) d p hne hs2)
  ⟨vs,vs2,dm,dm2,by rw[hS];omega,λh' hm _ hb=>?_⟩
 have he': ∃q,h'.get? d=some q:=let ⟨q,_,_,hq,_⟩:=hm;⟨q,hq⟩;have hol:=IR ps ks;refine⟨.non,gD H d (.dK (OB ks ps)),?_,rfl,q⟩;exact I.write (t':=_) (x:=d) (e:=d) (RL dd) (.inl rfl) (λb uo hb' eo=>(hb.2 b hb').trans eo) he' ⟨by rw[hS];omega,hs,_,Hm kv2 kv,hm⟩
def IT(kvs ps:Xg):List (MV×MV):=ps.foldl (λacc p=>putK acc p.1 p.2) kvs
def EV(p:Er)(rs:List Er)(S:Sto):R Er:=match rs with
 |[r]=>match pA S p with
  |some (l,kvs)=>match pA S r with
   |some (m,ps)=>if l≠m/\kvs.length+ps.length<1000000 then .ok (.val .non) (S.set l (.dic (IT kvs ps)))else .no
   |none=>.no
  |none=>.no
 |_=>.no
def Ho:QQ X W (Kd X) EV:=by
 intro p rs x vs α S H0 H Q α0 wd x0 dp da post;unfold EV at post;split at post
 .rename_i r;split at post
  .rename_i l kvs ed;split at post
   .rename_i m ps er;split at post
    .rename_i hc
     cases da with
     |cons dv n1 l1=>
     cases l1;obtain⟨c,ks,rfl,h1,hS,DDx,dl,_⟩:=UB wd ed dp;obtain⟨c2,ks2,rfl,h2,hS2,DDx2,dl2,_⟩:=UB wd er dv.1;have hne:c≠c2:=λz=>hc.1 (by subst z;exact(List.getElem?_inj (gS.mp h1).1 wd.nd).mp (h1.trans h2.symm));have e1:ks.length=kvs.length:=DenK.length dl;have e2:ks2.length=ps.length:=DenK.length dl2;refine⟨ks,ks2,c,c2,rfl,rfl,hne,DDx,DDx2,by omega,?_⟩;have xw:=wd.writex h1 DDx.nf (o:=.dK (OB ks ks2));exact(Post.shift (x0.trans xw) post).val (wd.write h1 DDx.nf (.inl ⟨_,xB,(IQ dl2 dl).ex0 xw.toEx0⟩)) sV
    .exact post.elim
   .exact post.elim
  .exact post.elim
 .exact post.elim
def Hq(ho:yP X W o f)(ha:JS X W (e::es) af)
  (hbase:attributeBase o "update" X.env (eval o X.env)=eval o X.env:=by rfl)
  (hfew:((backTo pos (starEach (e::es) X.env)).all (λx=>!x.1)&&(backToKw pos (keywordEach [] X.env)).all (λx=>x.1.isSome)
   &&decide ((e::es).length+([]:List Keyword).length+(if([]:List Keyword).isEmpty then 0 else 1)<30))=true:=by rfl)
  (hline:(apos.endLine==pos.line)=true:=by rfl) (hs:starEach (e::es) X.env=(false,eval e X.env)::starEach es X.env:=by rfl) (hplain:(backTo pos (starEach es X.env)).any (·.1)=false:=by rfl):
  yP X W (.Call (.Attribute o "update" apos) (e::es) [] pos) (λρ S=>(f ρ S).bind λp S1=>if uM p S1=true then(af ρ S1).bind λrs S2=>EV p rs S2 else .no):=by
 obtain⟨to,ho,fo⟩:=ho;obtain⟨t,ha,k⟩:=ha;refine⟨_,RG AT PySem.F.plainAttrs_dict PySem.F.slot_dict_update PySem.F.type_dict_update Hn ho ha hbase hfew hline hs hplain,λα ρ S σ H Q wd sl q=>fo α ρ S σ H _ wd sl (q.bind λu p S1 α1 H1 e1 x1 w1 d1 q1=>?_)⟩;split at q1
 .rename_i hz;obtain⟨⟨l,kvs⟩,hz⟩:=Option.isSome_iff_exists.mp hz;obtain⟨c,xs,rfl,_,_,dd,_⟩:=UB w1 hz d1.1;exact⟨⟨c,xs,rfl,dd⟩,k α1 ρ S1 σ H1 _ w1 (sl.ext x1) ((q1.shift x1).bind λvs rs S2 α2 H2 e2 x2 w2 d2 q2=>Ho p rs _ vs α2 S2 H1 H2 Q α1 w2 x2 (d1.1.ext x2) d2 q2)⟩
 .exact q1.elim
end
section
variable{X:Cx}{W:XW}{a:Expr}{f:AX}{pos apos:Pos}
def Ke:V->List V->Hp->VK->Prop:=λx vs H Q=> ∃l xs y,x=.ref l/\vs=[]/\H l=some (.lst xs)/\xs[xs.length - 1]? =some y/\Q y (gD H l (.lst (xs.eraseIdx (xs.length - 1))))
def Hr:Fc X "list.pop" Ke:=by
 intro pins s σ H x vs v us Q I rx rv h;obtain⟨l,xs,y,rfl,rfl,hH,hy,q⟩:=h;cases rx;have hus:=rv.zero;subst hus;obtain⟨z,its,n,r,hl,e⟩:=I.lstM hH;obtain⟨w,hw,rw'⟩:=r.get hy
 refine call_meets F.slot_list_pop ⟨_,e,rfl⟩ F.entry_list_pop (F.args_list_pop_1 _)
  (MeetsSeq.list_pop_last l its.toArray n w (by rw[sA, <-hl, <-Array.getElem?_toList];exact hw) (by rw[sA];omega)) ⟨e,?_⟩
 refine⟨y,_,I.lset (its':=its.eraseIdx (xs.length - 1)) hH e ?_ (r.eraseIdx (xs.length - 1)) ?_,rw',q⟩
 .show its.toArray.eraseIdxIfInBounds (its.toArray.size - 1)=(its.eraseIdx (xs.length - 1)).toArray;rw[List.eraseIdxIfInBounds_toArray,sA,hl]
 .have:=HS xs (xs.length - 1);omega
def BW(p:Er)(rs:List Er)(S:Sto):R Er:=match p,rs with
 |.val (.loc l),[]=>match S[l]? with
  |some (.lst ds)=>match ds[ds.length - 1]? with
   |some d=>.ok (.val d) (S.set l (.lst (ds.eraseIdx (ds.length - 1))))
   |none=>.no
  |_=>.no
 |_,_=>.no
def Hs:QQ X W Ke BW:=by
 intro p rs x vs α S H0 H Q α0 wd x0 dp da post;unfold BW at post;split at post
 .rename_i l;obtain⟨a,rfl,h⟩:=eX dp;cases da;obtain⟨ob,h1,h2⟩:=wd.of h;rw[h1]at post
  cases ob with
  |lst ds=>
   obtain⟨us,h3,l1⟩:=h2;dsimp only at post;split at post
   .rename_i d ed;obtain⟨y,ey,dy⟩:=l1.at ed;have hlen:us.length=ds.length:=l1.length;have xw:=wd.writex h (YZ h3) (o:=.lst (us.eraseIdx (us.length - 1)));refine⟨a,us,y,rfl,rfl,h3,by rw[hlen];exact ey,?_⟩;exact(post.shift (x0.trans xw)).val (wd.write h (YZ h3) ⟨_,xB,by rw[hlen];rw[hlen]at xw;exact(l1.eraseIdx (ds.length - 1)).ext xw⟩) (dy.ext xw)
   .exact post.elim
  |dic _=>exact post.elim
  |ins _ _=>exact post.elim
  |rcd _ _=>exact post.elim
 .exact post.elim
def UC(ho:yP X W a f)(hbase:attributeBase a "pop" X.env (eval a X.env)=eval a X.env:=by rfl)(hline:(apos.endLine==pos.line)=true:=by rfl):
  yP X W (.Call (.Attribute a "pop" apos) [] [] pos) (λρ S=>(f ρ S).bind λp S1=>if bE p S1=true then BW p [] S1 else .no):=
 ZI PySem.F.plainAttrs_list PySem.F.slot_list_pop PySem.F.type_list_pop Hr Hs Ae ho hbase hline
end
section
variable{prog:Program}{w:World}{K:Type}[DecidableEq K]{knd:KeyKind prog w K}
def TSet(knd:KeyKind prog w K)(h:Heap)(a:Addr)(S:K->Bool)(n:Nat)(b:Bool):Prop:=
 ∃o es ep t,h.get? a=some o/\o.ExactSet/\o.data=.set es ep t/\ElemsOf knd es.toList/\(∀k,S k=true↔ ∃e∈es.toList,knd.is k e.2=true)
  /\es.size<scanBound/\t.fits es.size=true/\es.size=n/\t.led=b/\(es.size=0\/t.plain=false)/\(es.toList.map (·.2)).Pairwise (λx y=> ∀k,knd.is k x=true-> ¬knd.is k y=true)
end
def StrT(val:Nat->Key)(i:Nat)(v:Value):Prop:= ∃x t,val i=.inr x/\v=.str x t
def StrT.is{P:Program}{w:World}{val:Nat->Key}{i:Nat}{v:Value}(h:StrT val i v):(xX P w).is (val i) v=true/\v.scannable=true/\plainKind v=false:=by obtain⟨x,t,e,rfl⟩:=h;rw[e];exact⟨rG P w x t,rfl,rfl⟩
def SetAt(h:Heap)(D:Addr)(es:Array (Int×Value))(ep:Nat)(t:SetTable):Prop:= ∃o,h.get? D=some o/\o.ExactSet/\o.data=.set es ep t/\t.fits es.size=true
def SetAt.keep{h h':Heap}{D:Addr}{es:Array (Int×Value)}{ep:Nat}{t:SetTable}(x:SetAt h D es ep t)(m: ∀o,h.get? D=some o->h'.get? D=some o):SetAt h' D es ep t:=by obtain⟨o,ho,r⟩:=x;exact⟨o,m o ho,r⟩
section
variable{X:Cx}{W:XW}
def EW:CallR X (.type "dict") (λxs H Q=> ∃d ks,xs=[.ref d]/\DK X H d ks/\ ∀p,H p=none->Q (.ref p) (gD H p (.dK ks))):=by intro pins s σ H xs us Q I r h;obtain⟨d,ks,rfl,dk,q⟩:=h;obtain⟨u,rfl,rx⟩:=vals1 r;cases rx;obtain⟨hz,hs,vs,kv,hd⟩:=bZ I dk;have hl:ks.length=vs.length:=Paired.length kv;refine kt_call_dict (knd:=xX X.prog X.w) (more:=vs) hs hd (by omega) λh' hdd hsb=>?_;have hk: ∀b o,s.heap.get? b=some o->h'.get? b=some o:=λb o e=>(hsb.2 b (Nat.ne_of_lt (Heap.lt_size e))).trans (hP0 _ e);refine⟨.ref s.heap.objs.size,_,I.laid (t':=s.toks) hk (Nat.le_refl _) (show ObjOk X.prog X.w _ h' _ (.dK ks)from⟨hz,beq_eq_false_iff_ne.mpr (Ne.symm (Nat.ne_of_lt (Ar I))),_,kv,hdd⟩),rfl,q _ (I.hok.fresh (Nat.le_refl _))⟩
def OD:List Er->Sto->R Er
 |[r],S=>match pA S r with |some (_,kvs)=>.ok (.val (.loc S.length)) (S++[.dic kvs])|none=>.no
 |_,_=>.no
def RN:tS X W (λxs H Q=> ∃d ks,xs=[.ref d]/\DK X H d ks/\ ∀p,H p=none->Q (.ref p) (gD H p (.dK ks))) OD:=by
 intro rs vs α S H Q wd d post;unfold OD at post;split at post
 .split at post
  .rename_i l kvs e;obtain⟨v,rfl,dv⟩:=rO d;obtain⟨c,ks,rfl,hc,hS,dk,dl,_⟩:=UB wd e dv;refine⟨c,ks,rfl,dk,λp hp=>?_⟩;have xn:=wd.newx (o:=.dK ks) hp;obtain⟨x,w'⟩:=wd.put (ho:=.dK ks) (m:=.dic kvs) hp (.inl ⟨_,xB,dl.ex0 ⟨⟨[p],rfl⟩,xn.tup,xn.frz⟩⟩);exact post (.ref p) (α++[p]) _ x w' (DenE.val (pX (by rw[<-wd.len,getElem?_append_right (Nat.le_refl _),sub_self];rfl)))
  .exact post.elim
 .exact post.elim
end
section
variable{X:Cx}{W:XW}{o e:Expr}{es:Vj}{f:AX}{af:Rho->Sto->R (List Er)}{apos pos:Pos}
def rGX(X:Cx):V->List V->Hp->VK->Prop:=λx vs H Q=> ∃(ks:List (Key×V))(d:Addr)(k:Key)(y:V),x=.ref d/\(vs=[kV k,y]\/(vs=[kV k]/\y=.non))/\DK X H d ks/\Q ((bG ks k).getD y) H
def Ht:Fc X "dict.get" (rGX X):=by
 intro pins s σ H x vs v us Q I rx rv h;obtain⟨ks,d,k,y,rfl,hvs,dd,q⟩:=h;cases rx;have hT:s.TypeIs (.ref d) "dict":=(AT pins s σ H (.ref d) (.ref d) I rfl ⟨d,ks,rfl,dd⟩).1;obtain⟨_,hs,ws,kv,dm⟩:=bZ I dd;obtain⟨l1,l2⟩:=tB kv k
 have go: ∀(A:Around)(u1 u2:Value)(K:Option Value->Sem Fin),RelV (kV k) u1->RelV y u2->(∀v,K (some v)=ret v)->(K none=Builtin.Dict.missed d u1 >>= λr=>match r with |some v=>ret v|none=>ret u2)->
   wpAny (model X.prog X.w) A (dictGet d u1 >>= K) (λfin s'=> ∃v,fin=.done (.ret v)/\EP X pins σ Q v s') (λ_ _=>False) s:=λA u1 u2 K r1 r2 k1 k2=>by
  refine wB (wpAny_dictGet_of (knd:=xX X.prog X.w) (NZ (X:=X) r1) dm.mapOf ?_)
  cases hv:bG ks k with
  |some v=>
   obtain⟨u,e,ru⟩:=l1 v hv;rw[hv]at q;rw[e,k1];exact wP ⟨u,rfl,v,H,I.tok _,ru,q⟩
  |none=>
   rw[hv]at q;rw[l2 hv,k2];exact wB (wpAny_missed_other hs (wP ⟨u2,rfl,y,H,I.tok _,r2,q⟩))
 rcases hvs with rfl|⟨rfl,rfl⟩
 .obtain⟨u1,u2,rfl,r1,r2⟩:=vals2 rv;refine wpAny_call_entry PySem.F.slot_dict_get hT PySem.F.entry_dict_get ?_ (PySem.F.args_dict_get_3 _ _ _);show wpAny _ _ (dictGet d u1 >>= _) _ _ s;exact wpAny_mono (go _ u1 u2 _ r1 r2 (λ_=>rfl) rfl) (λ_ _ z=>z) λ_ _ z=>z.elim
 .obtain⟨u1,rfl,r1⟩:=vals1 rv;refine wpAny_call_entry PySem.F.slot_dict_get hT PySem.F.entry_dict_get ?_ (PySem.F.args_dict_get_2 _ _);show wpAny _ _ (dictGet d u1 >>= _) _ _ s;exact wpAny_mono (go _ u1 .none _ r1 rfl (λ_=>rfl) rfl) (λ_ _ z=>z) λ_ _ z=>z.elim
def tU(p:Er)(rs:List Er)(S:Sto):R Er:=match pA S p with
 |some (_,kvs)=>match rs with
  |[.val k,r]=>if uL k=true then(match look kvs k with |some d=>.ok (.val d) S|none=>.ok r S)else .no
  |[.val k]=>if uL k=true then .ok (.val ((look kvs k).getD .non)) S else .no
  |_=>.no
 |none=>.no
def Hu:QQ X W (rGX X) tU:=by
 intro p rs x vs α S H0 H Q α0 wd x0 dp da post;unfold tU at post;split at post
 .rename_i l kvs ed;obtain⟨c,ks,rfl,hc,hS,DDx,dl,_⟩:=UB wd ed dp;split at post
  .rename_i k r
   cases da with
   |cons dk n1 l1=>
    cases l1 with
    |cons dy n2 l2=>
     cases l2;split at post
     .rename_i hky;obtain⟨k',hk'⟩:=Option.isSome_iff_exists.mp hky;obtain⟨g1,g2⟩:=iE dl (RI hk');have ek:=RK (X:=X) (α:=α) (H:=H) hk' dk.1;subst ek;refine⟨ks,c,k',_,rfl,.inl rfl,DDx,?_⟩
      cases hl:look kvs k with
      |some d=>
       obtain⟨v',e1,e2⟩:=g1 d hl;rw[hl]at post;rw[e1];exact(Post.shift x0 post).val wd e2
      |none=>
       rw[hl]at post;rw[g2 hl];exact post _ α H x0 wd dy
     .exact post.elim
  .rename_i k
   cases da with
   |cons dk n1 l1=>
    cases l1;split at post
    .rename_i hky;obtain⟨k',hk'⟩:=Option.isSome_iff_exists.mp hky;obtain⟨g1,g2⟩:=iE dl (RI hk');have ek:=RK (X:=X) (α:=α) (H:=H) hk' dk.1;subst ek;refine⟨ks,c,k',.non,rfl,.inr ⟨rfl,rfl⟩,DDx,?_⟩
     cases hl:look kvs k with
     |some d=>
      obtain⟨v',e1,e2⟩:=g1 d hl;rw[hl]at post;rw[e1];exact(Post.shift x0 post).val wd e2
     |none=>
      rw[hl]at post;rw[g2 hl];exact(Post.shift x0 post).val wd sV
    .exact post.elim
  .exact post.elim
 .exact post.elim
def UD(ho:yP X W o f)(ha:JS X W (e::es) af)
  (hbase:attributeBase o "get" X.env (eval o X.env)=eval o X.env:=by rfl)
  (hfew:((backTo pos (starEach (e::es) X.env)).all (λx=>!x.1)&&(backToKw pos (keywordEach [] X.env)).all (λx=>x.1.isSome)
   &&decide ((e::es).length+([]:List Keyword).length+(if([]:List Keyword).isEmpty then 0 else 1)<30))=true:=by rfl)
  (hline:(apos.endLine==pos.line)=true:=by rfl) (hs:starEach (e::es) X.env=(false,eval e X.env)::starEach es X.env:=by rfl) (hplain:(backTo pos (starEach es X.env)).any (·.1)=false:=by rfl):
  yP X W (.Call (.Attribute o "get" apos) (e::es) [] pos) (λρ S=>(f ρ S).bind λp S1=>if uM p S1=true then(af ρ S1).bind λrs S2=>tU p rs S2 else .no):=by
 obtain⟨to,ho,fo⟩:=ho;obtain⟨t,ha,k⟩:=ha;refine⟨_,RG AT PySem.F.plainAttrs_dict PySem.F.slot_dict_get PySem.F.type_dict_get Ht ho ha hbase hfew hline hs hplain,λα ρ S σ H Q wd sl q=>fo α ρ S σ H _ wd sl (q.bind λu p S1 α1 H1 e1 x1 w1 d1 q1=>?_)⟩;split at q1
 .rename_i hz;obtain⟨⟨l,kvs⟩,hz⟩:=Option.isSome_iff_exists.mp hz;obtain⟨c,xs,rfl,_,_,dd,_⟩:=UB w1 hz d1.1;exact⟨⟨c,xs,rfl,dd⟩,k α1 ρ S1 σ H1 _ w1 (sl.ext x1) ((q1.shift x1).bind λvs rs S2 α2 H2 e2 x2 w2 d2 q2=>Hu p rs _ vs α2 S2 H1 H2 Q α1 w2 x2 (d1.1.ext x2) d2 q2)⟩
 .exact q1.elim
end
section
variable{X:Cx}{W:XW}{o e:Expr}{es:Vj}{f:AX}{af:Rho->Sto->R (List Er)}{apos pos:Pos}
def rSX(X:Cx):V->List V->Hp->VK->Prop:=λx vs H Q=> ∃(ks:List (Key×V))(d:Addr)(k:Key)(y:V),x=.ref d/\vs=[kV k,y]/\DK X H d ks/\ks.length<sizeLine/\(∀v,bG ks k=some v->Q v H)/\(bG ks k=none->Q y (gD H d (.dK (uI ks k y))))
def On:Fc X "dict.setdefault" (rSX X):=by
 intro pins s σ H x vs v us Q I rx rv h;obtain⟨ks,d,k,y,rfl,rfl,dd,hz,q1,q2⟩:=h;obtain⟨u1,u2,rfl,r1,r2⟩:=vals2 rv;cases rx;have hT:s.TypeIs (.ref d) "dict":=(AT pins s σ H (.ref d) (.ref d) I rfl ⟨d,ks,rfl,dd⟩).1;obtain⟨_,hs,ws,kv,dm⟩:=bZ I dd;have hl:ks.length=ws.length:=Paired.length kv;obtain⟨l1,l2⟩:=tB kv k;have hp:=EQ ks k y;refine wpAny_call_entry PySem.F.slot_dict_setdefault hT PySem.F.entry_dict_setdefault ?_ (PySem.F.args_dict_setdefault_3 _ _ _);unfold Builtin.«dict.setdefault»;refine wB ?_;unfold Builtin.Dict.keyAndDefault;refine wB (wpAny_notOrdered_dict hT ?_);show wpAny _ _ (pure (d,u1,some u2)) _ _ s;refine wP ?_;show wpAny _ _ (if(d==sysModules)=true then _ else(dictSetDefault d u1 u2 >>= _)) _ _ s;rw[iN (by rw[hs];exact xF0)];refine wB (kt_dictSetDefault_pairs (knd:=xX X.prog X.w) (NZ (X:=X) r1) dm (λu hu=>?_) (λhn h' dm' hs'=>?_) (by omega))
 .cases hv:bG ks k with
  |some v=>
   obtain⟨u',e,ru⟩:=l1 v hv;rw[hu]at e;cases e;exact wP ⟨u,rfl,v,H,I.tok _,ru,q1 v hv⟩
  |none=>rw[l2 hv]at hu;cases hu
 .cases hv:bG ks k with
  |some v=>
   obtain⟨u',e,_⟩:=l1 v hv;rw[hn]at e;cases e
  |none=>
   have he: ∃q,h'.get? d=some q:=let ⟨q,_,_,hq,_⟩:=dm';⟨q,hq⟩;exact wP ⟨u2,rfl,y,_,I.write (t':=_) (x:=d) (e:=d) (o:=.dK (uI ks k y)) (RL dd) (.inl rfl) (λb uo hb eo=>(hs'.2 b hb).trans eo) he ⟨by omega,hs,_,RF kv _ r2,dm'⟩,r2,q2 hv⟩
def AU(p:Er)(k y:MV)(S1:Sto):R Er:=match pA S1 p with
 |some (l,kvs)=>if uL k=true/\kvs.length<1000000 then(match look kvs k with
  |some d=>.ok (.val d) S1
  |none=>.ok (.val y) (S1.set l (.dic (putK kvs k y))))else .no
 |none=>.no
def RO(p:Er)(rs:List Er)(S:Sto):R Er:=match rs with
 |[.val k,r]=>(jS r S).bind λy S1=>AU p k y S1
 |_=>.no
def Oo:QQ X W (rSX X) RO:=by
 intro p rs x vs α S H0 H Q α0 wd x0 dp da post
 match rs,da,post with
 |[],_,post=>exact post.elim
 |[.val _],_,post=>exact post.elim
 |.new _::_,_,post=>exact post.elim
 |.val _::_::_::_,_,post=>exact post.elim
 |[.val k,r],da,post=>
  cases da with
  |cons dk n1 l1=>
   cases l1 with
   |cons d n2 l2=>
    cases l2;obtain⟨d',S',α',e',x',y',w',dd⟩:=nB wd x0 d;have post:Post X.g W α0 H0 ((jS r S).bind λy S1=>AU p k y S1) Q:=post;rw[e']at post;have post:Post X.g W α0 H0 (AU p k d' S') Q:=post;unfold AU at post;split at post
    .rename_i l kvs ed;split at post
     .rename_i hk
      have dp':DenX X.K α' H p x:=by
       cases p with
       |val m=>exact Den.ex0 y' dp
       |new ds=>cases ed
      obtain⟨c,ks,rfl,hc,hS,DDx,dl,_⟩:=UB w' ed dp';obtain⟨k',hk'⟩:=Option.isSome_iff_exists.mp hk.1;obtain⟨g1,g2⟩:=iE dl (RI hk');have ek:=RK (X:=X) (α:=α') (H:=H) hk' (Den.ex0 y' dk.1);subst ek;refine⟨ks,c,k',_,rfl,rfl,DDx,?_,λv hv=>?_,λhv=>?_⟩
      .rw[dl.length];exact Nat.lt_of_lt_of_le hk.2 (fits (Nat.le_refl _))
      .cases hl:look kvs k with
       |some d2=>
        obtain⟨v',e1,e2⟩:=g1 d2 hl;rw[e1]at hv;cases hv;rw[hl]at post;exact(Post.shift x' post).val w' e2
       |none=>rw[g2 hl]at hv;cases hv
      .cases hl:look kvs k with
       |some d2=>obtain⟨v',e1,e2⟩:=g1 d2 hl;rw[e1]at hv;cases hv
       |none=>
        rw[hl]at post;exact(Post.shift (x'.trans (w'.writex hc DDx.nf)) post).val (w'.write hc DDx.nf (.inl ⟨_,xB,(ET dl (RI hk') dd).ex0 (w'.writex hc DDx.nf).toEx0⟩)) (dd.ext (w'.writex hc DDx.nf))
     .exact post.elim
    .exact post.elim
def Ax(ho:yP X W o f)(ha:JS X W (e::es) af)
  (hbase:attributeBase o "setdefault" X.env (eval o X.env)=eval o X.env:=by rfl)
  (hfew:((backTo pos (starEach (e::es) X.env)).all (λx=>!x.1)&&(backToKw pos (keywordEach [] X.env)).all (λx=>x.1.isSome)
   &&decide ((e::es).length+([]:List Keyword).length+(if([]:List Keyword).isEmpty then 0 else 1)<30))=true:=by rfl)
  (hline:(apos.endLine==pos.line)=true:=by rfl) (hs:starEach (e::es) X.env=(false,eval e X.env)::starEach es X.env:=by rfl) (hplain:(backTo pos (starEach es X.env)).any (·.1)=false:=by rfl):
  yP X W (.Call (.Attribute o "setdefault" apos) (e::es) [] pos) (λρ S=>(f ρ S).bind λp S1=>if uM p S1=true then(af ρ S1).bind λrs S2=>RO p rs S2 else .no):=by
 obtain⟨to,ho,fo⟩:=ho;obtain⟨t,ha,k⟩:=ha;refine⟨_,RG AT PySem.F.plainAttrs_dict PySem.F.slot_dict_setdefault PySem.F.type_dict_setdefault On ho ha hbase hfew hline hs hplain,λα ρ S σ H Q wd sl q=>fo α ρ S σ H _ wd sl (q.bind λu p S1 α1 H1 e1 x1 w1 d1 q1=>?_)⟩;split at q1
 .rename_i hz;obtain⟨⟨l,kvs⟩,hz⟩:=Option.isSome_iff_exists.mp hz;obtain⟨c,xs,rfl,_,_,dd,_⟩:=UB w1 hz d1.1;exact⟨⟨c,xs,rfl,dd⟩,k α1 ρ S1 σ H1 _ w1 (sl.ext x1) ((q1.shift x1).bind λvs rs S2 α2 H2 e2 x2 w2 d2 q2=>Oo p rs _ vs α2 S2 H1 H2 Q α1 w2 x2 (d1.1.ext x2) d2 q2)⟩
 .exact q1.elim
end
section
variable{X:Cx}{W:XW}{e o:Expr}{es:Vj}{f g:AX}{af:Rho->Sto->R (List Er)}{pos apos p pos':Pos}{fld m:Str}{c:Str}{C:Addr}
theorem DenF.look{K:Vk}{α:Vb}{H:Hp}{d:MV}: ∀{fs gs},DenF K α H fs gs->fs.lookup fld=some d-> ∃v,gs.lookup fld=some v/\Den K α H d v
 |_,_,.nil,h=>by simp at h
 |(x,_)::_,_,.cons a l,h=>by
  rw[lookup_cons]at h;rw[lookup_cons];by_cases e:(fld==x)=true
  .rw[e]at h ⊢;cases h;exact⟨_,rfl,a⟩
  .have e:(fld==x)=false:=by simpa using e
   rw[e]at h ⊢;exact DenF.look l h
theorem DenF.miss{K:Vk}{α:Vb}{H:Hp}: ∀{fs gs},DenF K α H fs gs->fs.lookup fld=none->gs.lookup fld=none
 |_,_,.nil,h=>rfl
 |(x,_)::_,_,.cons a l,h=>by
  rw[lookup_cons]at h;rw[lookup_cons];by_cases e:(fld==x)=true
  .rw[e]at h;cases h
  .have e:(fld==x)=false:=by simpa using e
   rw[e]at h ⊢;exact DenF.miss l h
def RP(f:Str)(v:MV):List (Str×MV)->List (Str×MV)
 |[]=>[(f,v)]
 |(g,x)::r=>if g=f then(g,v)::r else(g,x)::RP f v r
theorem DenF.put{K:Vk}{α:Vb}{H:Hp}{d:MV}{v:V}(a:Den K α H d v): ∀{fs gs},DenF K α H fs gs->DenF K α H (RP fld d fs) (pU fld v gs)
 |_,_,.nil=>.cons a .nil
 |(x,_)::_,_,.cons b l=>by
  unfold RP pU;split
  .exact .cons a l
  .exact .cons b (DenF.put a l)
theorem DenF.len{K:Vk}{α:Vb}{H:Hp}: ∀{fs gs},DenF K α H fs gs->gs.length=fs.length
 |_,_,.nil=>rfl
 |_,_,.cons b l=>by rw[lC,lC,DenF.len l]
def EX(c:Str):Er->Sto->Option (Nat×List (Str×MV))
 |.val (.loc l),S=>match S[l]? with
  |some (.rcd c' fs)=>if c'=c then some (l,fs)else none
  |_=>none
 |_,_=>none
def Ay{α:Vb}{S:Sto}{H:Hp}{r:Er}{u:V}{l:Nat}{fs:List (Str×MV)}(oc:OC X.K c C)(wd:Wd X.g α S H)(d:DenX X.K α H r u)(h:EX c r S=some (l,fs)):r=.val (.loc l)/\ ∃a dx gs,u=.ref a/\α[l]? =some a/\H a=some (.ins C dx gs)/\DenF X.K α H fs gs:=by
 unfold EX at h;split at h
 .rename_i l';split at h
  .rename_i c' fs' hS;split at h
   .rename_i hc;subst hc;cases h;obtain⟨a,rfl,ha⟩:=eX d;obtain⟨C',dx,gs,hn,hH,hF⟩:=wd.obj _ a _ ha hS;cases oc.eq hn;exact⟨rfl,a,dx,gs,rfl,ha,hH,hF⟩
   .cases h
  .cases h
 .cases h
def iO(c fld:Str)(r:Er)(S:Sto):R Er:=match EX c r S with
 |some (_,fs)=>match fs.lookup fld with |some d=>.ok (.val d) S|none=>.no
 |none=>.no
def aR(T: ∃C,OC X.K c C/\NoAttr X.K C fld)(he:yP X W e f)(hb:attributeBase e fld X.env (eval e X.env)=eval e X.env:=by rfl):yP X W (.Attribute e fld pos) (λρ S=>(f ρ S).bind (iO c fld)):=by
 obtain⟨C,oc,na⟩:=T;obtain⟨t,he,k⟩:=he;refine⟨_,Lw he hb,λα ρ S σ H Q wd sl q=>k α ρ S σ H _ wd sl (q.bind λu r S1 α1 H1 e1 x1 w1 d1 q1=>?_)⟩
 replace q1:=q1.shift x1
 unfold iO at q1;split at q1
 .rename_i l fs hr;obtain⟨rfl,a,dx,gs,rfl,ha,hH,hF⟩:=Ay oc w1 d1.1 hr;split at q1
  .rename_i d hd;obtain⟨v,l1,l2⟩:=hF.look hd;exact⟨a,C,dx,gs,v,rfl,hH,oc.cl,na,l1,Post.val q1 w1 l2⟩
  .exact q1.elim
 .exact q1.elim
def IU(c fld:Str)(ρ:Rho)(d:MV)(r:Er)(S:Sto):R Fl:=match EX c r S with
 |some (l,fs)=>if fs.length<1000 then .ok (.next ρ) (S.set l (.rcd c (RP fld d fs)))else .no
 |none=>.no
def Kf(c fld:Str)(f g:AX)(ρ:Rho)(S:Sto):R Fl:=(f ρ S).bind λr S=>(jS r S).bind λd S=>(g ρ S).bind (IU c fld ρ d)
def CY(T: ∃C,OC X.K c C/\NoAttr X.K C fld)(he:yP X W e f)(ho:yP X W o g)(hs:swapsWith e (some (.Attribute o fld pos')) pos.line X.env=pure false:=by rfl):
  ZK X W (.Assign [.Attribute o fld pos'] e pos) (λρ S=>(f ρ S).bind λr S=>(jS r S).bind λd S=>(g ρ S).bind (IU c fld ρ d)):=by
 obtain⟨C,oc,na⟩:=T;obtain⟨t,he,k⟩:=he;obtain⟨to,ho,ko⟩:=ho;refine⟨_,Lx ho he hs,λα ρ S σ H D wd sl q=>k α ρ S σ H _ wd sl (q.expr λu r S1 α1 H1 e1 x1 w1 d1 q1=>?_)⟩;obtain⟨d',S',α',e2,x',y',w',de⟩:=nB w1 x1 d1;rw[e2]at q1;have q1:PostS X.g W α H D ((g ρ S').bind (IU c fld ρ d')):=q1;refine ko α' ρ S' σ H1 _ w' ((sl.ext x1).ex0 y') ((q1.shift x').expr λu2 r2 S2 α2 H2 e3 x2 w2 d2 q2=>?_)
 replace q2:=q2.shift x2
 unfold IU at q2;split at q2
 .rename_i l fs hr;obtain⟨rfl,a,dx,gs,rfl,ha,hH,hF⟩:=Ay oc w2 d2.1 hr;split at q2
  .rename_i hl;have nf:=YZ (H:=H2) hH;have xw:=w2.writex (o:=.ins C dx (pU fld u gs)) ha nf;refine⟨a,C,dx,gs,rfl,hH,oc.cl,na,by rw[hF.len];exact hl,q2 σ α2 _ xw (w2.write ha nf ⟨C,dx,_,oc.ns,xB,(DenF.put (de.ext x2) hF).ex0 xw.toEx0⟩) (((((sl.ext x1).ex0 y').ext x2).ext xw))⟩
  .exact q2.elim
 .exact q2.elim
def RJ(c m:Str)(n:Nat)(F:List MV->Sto->R Er)(f:AX)(af:Rho->Sto->R (List Er))(ρ:Rho)(S:Sto):R Er:=(f ρ S).bind λp S=>match EX c p S with
 |some (_,fs)=>if fs.lookup m=none then(af ρ S).bind λr S=>zR n F (p::r) S else .no
 |none=>.no
def Sv(P:Program)(w:World)(K:Vk)(mg:Vd)(base:Heap)(m:Str)(k n:Nat)(c:Str)(F:List MV->Sto->R Er):Prop:= ∃C fa fd ps,OC K c C/\Meth K C m fa/\FnOk P w K mg base CO k fa fd ps (JW ⟨K,mg,P,w⟩ n F)/\Binds K fd ps []
def EY{pl:Sem Bool}{k n:Nat}{F:List MV->Sto->R Er}(T:Sv X.prog X.w X.K X.mg X.base m k n c F)(hr:Room k X.A)(he:yP X W o f)(ha:JS X W (e::es) af)
  (hst:starEach (e::es) X.env=(false,eval e X.env)::starEach es X.env:=by rfl) (hpl:(backTo pos (starEach es X.env)).any (·.1)=false:=by rfl)
  (ht:eval (.Call (.Attribute o m apos) (e::es) [] pos) X.env=(do
   let ov <-eval o X.env
   standAt apos.atName
   let (f,first) <-holding [ov] (getMethod ov m pl)
   callWith pos f first (backTo pos (starEach (e::es) X.env)) (backToKw pos (keywordEach [] X.env))):=by rfl):
  yP X W (.Call (.Attribute o m apos) (e::es) [] pos) (RJ c m n F f af):=by
 obtain⟨C,fa,fd,ps,oc,hm,G,hb⟩:=T;obtain⟨to,he,ko⟩:=he;obtain⟨ta,ha,ka⟩:=ha;refine⟨_,Eu he oc.cl hm G hr hb .nil YU ha hst hpl ht,λα ρ S σ H Q wd sl q=>ko α ρ S σ H _ wd sl (Post.bind q λu r S1 α1 H1 e1 x1 w1 d1 q1=>?_)⟩;split at q1
 .rename_i l fs hr;obtain⟨rfl,a,dx,gs,rfl,hl,hH,hF⟩:=Ay oc w1 d1.1 hr;split at q1
  .rename_i hn;refine⟨a,dx,gs,rfl,hH,hF.miss hn,ka α1 ρ S1 σ H1 _ w1 (sl.ext x1) ?_⟩;refine(Post.shift x1 q1).bind λus rs S2 α2 H2 e2 x2 w2 d2 q2=>?_;rw[aN];exact IB x2 w2 (ArgsE.cons (DenE.val (d1.1.ext x2)) (λds b er=>by cases er) d2) q2
  .exact q1.elim
 .exact q1.elim
def WX(c:Str)(n:Nat)(F:List MV->Sto->R Er)(rs:List Er)(S:Sto):R Er:=if rs.length+1=n then
  (noX (F (zM (.val (.loc S.length)::rs) (S++[.rcd c []])).1 (zM (.val (.loc S.length)::rs) (S++[.rcd c []])).2)).bind λr S2=>match r with |.val .non=>.ok (.val (.loc S.length)) S2|_=>.no
 else .no
def InB(P:Program)(w:World)(K:Vk)(mg:Vd)(base:Heap)(k n:Nat)(c:Str)(F:List MV->Sto->R Er):Prop:= ∃C fi fd ps,OC K c C/\mg c=some (.ref C)/\Mk K C fi/\FnOk P w K mg base CO k fi fd ps (JW ⟨K,mg,P,w⟩ n F)/\Binds K fd ps []
def Az{k n:Nat}{F:List MV->Sto->R Er}(T:InB X.prog X.w X.K X.mg X.base k n c F)(hr:Room (k+1) X.A)(hg:Gl X c)(ha:JS X W (e::es) af)(hdb:(c==("__debug__":Str))=false:=by decide)
  (hs:starEach (e::es) X.env=(false,eval e X.env)::starEach es X.env:=by rfl) (hpl:(backTo pos (starEach es X.env)).any (·.1)=false:=by rfl):yP X W (.Call (.Name c p) (e::es) [] pos) (λρ S=>(af ρ S).bind (WX c n F)):=by
 obtain⟨C,fi,fd,ps,oc,hm,M',G,hb⟩:=T;obtain⟨t,ha,kk⟩:=ha;refine⟨_,Ew M' G hr hg hm hb .nil YU ha hdb hs hpl,λα ρ S σ H Q wd sl q=>kk α ρ S σ H _ wd sl (q.bind λvs rs S1 α1 H1 e1 x1 w1 d1 q1=>?_)⟩;intro x dx hx hdx hne;rw[aN];unfold WX at q1;split at q1
 .rename_i hl;have xa:=w1.newx (o:=.own x) hdx;have wa:=w1.new (o:=.own x) hdx;have hx':(gD H1 dx (.own x)) x=none:=by rw[yF (Ne.symm hne)];exact hx
  obtain⟨xb,wb⟩:=wa.put (ho:=.ins C dx []) (m:=.rcd c []) hx' ⟨C,dx,[],oc.ns,xB,.nil⟩;have hat:(α1++[x])[S1.length]? =some x:=by rw[<-w1.len,getElem?_append_right (Nat.le_refl _),sub_self];rfl
  have xx:=x1.trans (xa.trans xb);have da:ArgsE X.K H (α1++[x]) _ (.val (.loc S1.length)::rs) (.ref x::vs):=ArgsE.cons (DenE.val (pX hat)) (λds b er=>by cases er) (d1.ext (xa.trans xb));obtain⟨α2,x2,y2,w2,l2⟩:=oW wb xx da;refine⟨α2,_,_,w2,l2,by rw[sX];exact hl,?_⟩
  cases z:F (zM (.val (.loc S1.length)::rs) (S1++[.rcd c []])).1 (zM (.val (.loc S1.length)::rs) (S1++[.rcd c []])).2 with
  |ok r S3=>
   rw[z]at q1;intro v α3 H3 x3 w3 d3;have q1:Post X.g W α H (match r with |Er.val .non=>R.ok (Er.val (.loc S1.length)) S3|_=>.no) Q:=q1;split at q1
   .exact⟨uB d3.1,q1 _ α3 H3 (x2.trans x3) w3 (DenE.val (pX (x3.at (y2.at hat))))⟩
   .exact q1.elim
  |exc c fs S3=>rw[z]at q1;exact q1.elim
  |no=>rw[z]at q1;exact q1.elim
 .exact q1.elim
end
section
variable{X:Cx}{W:XW}{a b:Expr}{f g:AX}{pos:Pos}{α:Vb}{H:Hp}
theorem UE: ∀{ks:List (Key×V)},(ks.map (·.1)).Nodup-> ∀p∈ks,bG ks p.1=some p.2
 |[],_,p,h=>by simp at h
 |q::ks,nd,p,h=>by
  rw[List.map_cons,nodup_cons]at nd;unfold bG;rw[find?_cons];rcases mC.mp h with rfl|h
  .rw[dT0 rfl];rfl
  .rw[dF0 λz=>nd.1 (by rw[z];exact mem_map_of_mem h)];exact UE nd.2 p h
def KeyD.uniq: ∀{k:MV}{a b:Key},KeyD k a->KeyD k b->a=b
 |.int _,_,_,h,h'=>h.trans h'.symm
 |.str _,_,_,h,h'=>h.trans h'.symm
theorem UF{A:Around}{s:Shared}{ks:List (Key×V)}{vb:List (Key×Value)}(kb:KV ks vb): ∀{ps:List (Key×V)}{qs:List (Key×Value)},KV ps qs->(∀p∈ps,bG ks p.1=some p.2/\wV p.2=true)->PySem.W.KeqHits A s vb qs true
 |_,_,.nil,_=>.nil
 |_,(k,u)::_,.cons (a:=p) h t,hp=>by obtain⟨h1,h2⟩:=h;obtain⟨l,fl⟩:=hp p mF0;cases h1;obtain⟨y,hy,ry⟩:=(tB kb _).1 _ l;have he:=YO (A:=A) (s:=s) h2 ry fl fl;rw[NA fl]at he;exact .hit (b:=true) hy he (UF kb t λq hq=>hp q (mO _ hq))
def rDE(X:Cx)(b0:Bool):R2:=λx y H Q=> ∃a b ks,x=.ref a/\y=.ref b/\DK X H a ks/\DK X H b ks/\(∀p∈ks,wV p.2=true)/\Q (.bl b0) H
theorem CZ: ∀{ps:List (Key×V)}{qs:List (Key×Value)},KV ps qs->ps.map (·.1)=qs.map (·.1)
 |_,_,.nil=>rfl
 |_,_,.cons h t=>by rw[List.map_cons,List.map_cons,CZ t,h.1]
theorem Oq(hu:X.A.units+64<cLine):OpR X (compareOp .NotEq) (rDE X false):=by
 intro pins s σ H x y v u Q I rx ry h;obtain⟨a,b,ks,rfl,rfl,ha,hb,fl,q⟩:=h;cases rx;cases ry;obtain⟨_,sa,va,ka,da⟩:=bZ I ha;obtain⟨_,sb,vb,kb,db⟩:=bZ I hb;have nd:(ks.map (·.1)).Nodup:=by rw[CZ ka];obtain⟨_,_,_,_,_,_,_,_,n⟩:=da;exact n
 have ln:va.length=vb.length:=by have e1:=congrArg List.length (CZ ka);have e2:=congrArg List.length (CZ kb);simp only[lM]at e1 e2;omega
 refine PySem.W.keq_ne (r:=true) sa sb da db (by omega) (λ_=>UF kb ka λp hp=>⟨UE nd p hp,fl p hp⟩) ⟨.bl false,H,I,?_,q⟩;rw[ln];simp;rfl
def Ba:MV->Bool
 |.int _=>true
 |.str _=>true
 |_=>false
def Bb{d:MV}{v:V}(h:Ba d=true)(k:Den X.K α H d v):wV v=true/\ ∀v',Den X.K α H d v'->v'=v:=by
 cases d with
 |int i=>cases jP k;exact⟨rfl,λv' k'=>jP k'⟩
 |str i=>cases jQ k;exact⟨rfl,λv' k'=>jQ k'⟩
 |_=>cases h
theorem IV: ∀{kvs:Xg}{ks ks':List (Key×V)},kvs.all (λp=>Ba p.2)=true->DenK X.K α H kvs ks->DenK X.K α H kvs ks'->ks'=ks/\ ∀p∈ks,wV p.2=true
 |_,_,_,_,.nil,.nil=>⟨rfl,λp h=>by simp at h⟩
 |_,_,_,h,.cons k a l,.cons k' a' l'=>by rw[List.all_cons,aE]at h;obtain⟨f1,f2⟩:=Bb h.1 a;obtain⟨r1,r2⟩:=IV h.2 l l';have:=f2 _ a';subst this r1;refine⟨?_,λp hp=>(mC.mp hp).elim (λe=>by subst e;exact f1) (r2 p)⟩;rw[KeyD.uniq k' k]
def WZ(b0:Bool)(p q:Er)(S:Sto):R Er:=match pA S p,pA S q with
 |some (_,k1),some (_,k2)=>open Classical in if k1=k2/\k1.all (λp=>Ba p.2)=true then .ok (.val (.bl b0)) S else .no
 |_,_=>.no
def Hv{b0:Bool}:MM X W (rDE X b0) (WZ b0):=by
 intro p q x y α S H Q wd dp dq post;unfold WZ at post;split at post
 .rename_i l1 k1 l2 k2 e1 e2;split at post
  .rename_i hk;obtain⟨rfl,hf⟩:=hk;obtain⟨c,ks,rfl,hc,hS,D1,dl,_⟩:=UB wd e1 dp;obtain⟨c',ks',rfl,hc',hS',D2,dl',_⟩:=UB wd e2 dq;obtain⟨rfl,fl⟩:=IV hf dl dl';exact⟨c,c',_,rfl,rfl,D1,D2,fl,Post.val post wd (bH _)⟩
  .exact post.elim
 .exact post.elim
def Os(hu:X.A.units+64<cLine)(ha:yP X W a f)(hb:yP X W b g):DY X W (.Compare a [.NotEq] [b] pos) (λρ S=>((f ρ S).bind λp S1=>(g ρ S1).bind λq S2=>WZ false p q S2).bind gC):=oE (Oq hu) Hv ha hb
end
section
variable{X:Cx}{W:XW}{a b:Expr}{f g:AX}{pos:Pos}
def Sw(X:Cx):R2:=λx y H Q=> ∃(ks:List (Key×V))(d:Addr)(k:Key)(v:V),x=.ref d/\y=kV k/\DK X H d ks/\bG ks k=some v/\Q v H
def Bc:IxR X (Sw X):=by intro value slice pins s σ H x y u v Q I rx ry h hs';obtain⟨ks,d,k,v',rfl,rfl,dd,hv,q⟩:=h;cases rx;obtain⟨_,hs,ws,kv,dm⟩:=bZ I dd;obtain⟨w1,e1,r1⟩:=(tB kv k).1 v' hv;exact subscriptTail_builtinR (x:=w1) dm.typeIs slot_dict_getitem.lookup (wpAny_getItem_of (knd:=xX X.prog X.w) (Q:=λr s'=>r=w1/\EP X pins σ Q r s') (NZ (X:=X) ry) dm.mapOf e1 ⟨rfl,v',H,I.tok _,r1,q⟩) hs'
def OE(p q:Er)(S:Sto):R Er:=match pA S p,q with
 |some (_,kvs),.val k=>if uL k=true then(match look kvs k with |some d=>.ok (.val d) S|none=>.no)else .no
 |_,_=>.no
def Hw:MM X W (Sw X) OE:=by
 intro p q x y α S H Q wd dp dq post;unfold OE at post;split at post
 .rename_i l kvs k ed;obtain⟨c,ks,rfl,hc,hS,DDx,dl,_⟩:=UB wd ed dp;split at post
  .rename_i hky;obtain⟨k',hk'⟩:=Option.isSome_iff_exists.mp hky;have ek:=RK (X:=X) (α:=α) (H:=H) hk' dq;subst ek;split at post
   .rename_i d hl;obtain⟨v',e1,e2⟩:=(iE dl (RI hk')).1 d hl;exact⟨ks,c,k',v',rfl,rfl,DDx,e1,Post.val post wd e2⟩
   .exact post.elim
  .exact post.elim
 .exact post.elim
def RQ(ha:yP X W a f)(hb:yP X W b g)(hs:uV b:=by exact λ_ _=>rfl):yP X W (.Subscript a b pos) (λρ S=>(f ρ S).bind λp S1=>(g ρ S1).bind λq S2=>OE p q S2):=ZC Bc Hw ha hb hs
def Sx(X:Cx):R2:=λx y H Q=> ∃(α:Vb)(kvs:Xg)(xs:List (NK×Addr×Value))(a d:Addr)(k dd:MV)(nk:NK),x=.ref d/\y=.ref a/\DD X H d xs/\DenN X.K α H kvs xs/\wZ k=some nk/\oC nk<=4/\Den X.K α H k (.ref a)/\
 look kvs k=some dd/\ ∀v,Den X.K α H dd v->Q v H
def Bd(hu:X.A.units+64<cLine):IxR X (Sx X):=by intro value slice pins s σ H x y u v Q I rx ry h hs';obtain⟨α,kvs,xs,a,d,k,d',nk,rfl,rfl,dd,l,hk,e,ha,hd',q⟩:=h;cases rx;cases ry;obtain⟨hm,hz',hs⟩:=KN I dd l;have hT:s.TypeIs (.ref d) "dict":=(Of pins s σ H (.ref d) (.ref d) I rfl ⟨d,xs,rfl,dd⟩).1;obtain⟨a2,u3,v3,g1,g2,g3⟩:=UA l hk hd';exact subscriptTail_builtinR (x:=u3) hT slot_dict_getitem.lookup (wpAny_getItem_heap (knd:=oV X.prog X.w) (Q:=λr s'=>r=u3/\EP X pins σ Q r s') (show X.A.units+1+4<cLine by omega) ⟨EL I hk ha rfl,e⟩ hm g1 ⟨rfl,v3,H,I.kept (t':=_) (λ_ _ z=>z),g3,q v3 g2⟩) hs'
def XA(p q:Er)(S:Sto):R Er:=match EM S p,q with
 |some (_,kvs),.val k=>if keyOk k=true then(match look kvs k with |some d=>.ok (.val d) S|none=>.no)else .no
 |_,_=>.no
def Hx:MM X W (Sx X) XA:=by
 intro p q x y α S H Q wd dp dq post;unfold XA at post;split at post
 .rename_i l kvs k ed;split at post
  .rename_i hk;obtain⟨nk,h1,h2,h3⟩:=EO hk;obtain⟨c,xs,rfl,_,_,dd,dl⟩:=RD wd ed dp;obtain⟨a',rfl⟩:=KQ (X:=X) (α:=α) (H:=H) h3 dq;split at post
   .rename_i d hl;exact⟨α,kvs,xs,a',c,k,d,nk,rfl,rfl,dd,dl,h1,h2,dq,hl,λv hv=>Post.val post wd hv⟩
   .exact post.elim
  .exact post.elim
 .exact post.elim
def Ot(hu:X.A.units+64<cLine)(ha:yP X W a f)(hb:yP X W b g)(hs:uV b:=by exact λ_ _=>rfl):yP X W (.Subscript a b pos) (λρ S=>(f ρ S).bind λp S1=>(g ρ S1).bind λq S2=>XA p q S2):=ZC (Bd hu) Hx ha hb hs
end
end M
end L2
namespace L2
namespace M
namespace My
open PySem PySem.Spec PyProof.Rows
local macro_rules
 | `(tactic|simp? [$xs,*] $[$l:location]?)=>`(tactic|simp only[List.getElem?_cons_zero,List.getElem?_cons_succ,Gu,cT,as_int,Sg,Np,add_int,sub_int,eq_int,Nq,lst0,lst1,Sh,lst3,lst6,tup2,Aq,Nv,Nx,Ny,Nz,Oa,isi_bb,Ha,Hb,List.set_cons_zero,List.set_cons_succ,if_true,Hd,Hc,vJ,kJ,bJ,dJ,nJ,aJ,oJ,iJ,mJ,tJ,lJ,zJ,fJ,xJ,hJ,eJ,gJ,uJ,pJ,jJ,qJ,rJ,sJ,wJ,yJ,AJ,BJ,CJ,DJ,EJ,FJ,GJ,HJ,IJ,JJ,KJ,LJ,MJ,NJ,$xs,*] $[$l:location]?)
abbrev EZ:List Str:=["atoms","names","atom","term"]
abbrev IW:List Str:=["terms","cells","values","term","cell","expected"]
abbrev FA:List Str:=["formula","parts","inner"]
abbrev pB:List Str:=["rows","cells","t","some"]
abbrev AV:List Str:=["part","cells","values","terms","ways","some","fit","both"]
abbrev xM:List Str:=["self","formula","rows"]
abbrev eY:List Str:=["self","trail","values","place","state"]
abbrev eG:List Str:=["self","values","trail","told","state","ways","settles"]
abbrev vN:List Str:=["formula","rows","values"]
abbrev rY:List Str:=["_law_rest","_law_letters","_law_many","_law_name","_law_k"]
abbrev cW:List Str:=["_law_rest","_law_many","_law_words_here","_law_k","_law_word","_law_letter"]
abbrev vO:List Str:=["_law_cell","_law_many","_law_letters","_law_long","_law_spot","_law_words_here","_law_k","_law_word","_law_j","_law_sign"]
abbrev vP:List Str:=["_law_cell","_law_many","_law_some","_law_rest","_law_k","_law_number"]
abbrev oG:List Str:=["_law_cell","_law_words_here","_law_rest","_law_many","_law_found","_law_k","_law_value_here","_law_number","_law_pool","_law_turn"]
abbrev tV:List Str:=["_law_cell","_law_numbers","_law_tables_here","_law_number","_law_wide"]
abbrev rZ:List Str:=["_law_cells","_law_extra","_law_tables_here","_law_values_here","_law_rows_here","_law_some","_law_cell","_law_t","_law_number"]
abbrev eI:List Str:=["_law_number","_law_names","_law_values_here"]
abbrev FB:List Str:=["_law_terms","_law_cells","_law_values_here","_law_found","_law_term_here","_law_cell"]
abbrev cX:List Str:=["_law_term_here","_law_values_here"]
abbrev gY:List Str:=["_law_cells","_law_tables_here","_law_names","_law_values_here","_law_given","_law_parts_here","_law_bound","_law_wide","_law_cell","_law_numbers","_law_there","_law_t","_law_terms"]
abbrev Be:List Str:=["_law_script","_law_words_here","_law_names","_law_values_here","_law_tables_here","_law_given","_law_k","_law_rows_here","_law_cells","_law_formula","_law_part","_law_due","_law_kept","_law_lent","_law_some","_law_told"]
def iQ:AY:=(iJ (bJ (dJ fU (dJ yX (vJ 3) (kJ (.int 0))) (kJ (.str [118,97,114]))) gC) ((EJ (kJ (.bl true)) (DJ vM (vJ 1) (dJ yX (vJ 3) (kJ (.int 1)))))) (JJ))
def fY:AY:=(iQ)
def sB:AY:=(FJ (bJ (dJ yX (vJ 2) (kJ (.int 1))) Pw) (xD 3) (fY))
def fZ:AY:=(sB)
abbrev AF:=AY
abbrev AE:=AX
def qC:AF:=(CJ zJ 1)
def qD:AF:=(FJ (bJ (vJ 0) GR) (xD 2) (fZ))
def qE:AF:=(AJ (bJ (yJ (vJ 1) wJ) rX))
def uN:AF:=zL (qC) (zL (qD) ((qE)))
def iR(ds:Xb)(S:Sto):R Er:=yU (uN (yR EZ ds) S)
def kD:AF:=(iJ (rJ (bJ (dJ fU (dJ yX (vJ 0) (kJ (.int 0))) (kJ (.str [118,97,114]))) gC) (bJ (dJ (RM false) (dJ yX (vJ 0) (kJ (.int 1))) (vJ 1)) gC)) ((AJ (bJ (yJ (kJ (.str [105,115])) (yJ (dJ OE (vJ 1) (dJ yX (vJ 0) (kJ (.int 1)))) wJ)) nA))) (JJ))
def GW:AF:=(AJ (vJ 0))
def sC:AF:=zL (kD) ((GW))
def cL(ds:Xb)(S:Sto):R Er:=yU (sC (yR ["term","values"] ds) S)
def kE:AY:=(CJ (iJ (bJ (dJ fU (dJ yX (vJ 3) (kJ (.int 0))) (kJ (.str [118,97,114]))) gC) (eJ uM RO (vJ 2) (yJ (dJ yX (vJ 3) (kJ (.int 1))) (yJ (vJ 4) wJ))) (dJ yX (vJ 3) (kJ (.int 1)))) 5)
def oH:AY:=(iJ (bJ (dJ GM (vJ 5) (vJ 4)) gC) ((AJ (kJ .non))) (JJ))
def gL:AY:=zL (kE) ((oH))
def sD:AF:=(CJ zJ 2)
def sE:AF:=(FJ (bJ (yJ (vJ 0) (yJ (vJ 1) wJ)) Nk) (CQ 2 (zS (xD 3) (zS (xD 4) gG))) (gL))
def OG:AF:=(AJ (vJ 2))
def pC:AF:=zL (sD) (zL (sE) ((OG)))
def iG(ds:Xb)(S:Sto):R Er:=yU (pC (yR IW ds) S)
def iS:AY:=(BJ (eJ bE tN (vJ 1) (yJ (vJ 2) wJ)))
def sF:AY:=(CJ (dJ yX (vJ 2) (kJ (.int (-1)))) 2)
def iA:AY:=zL (iS) ((sF))
def jN:AZ:=(bJ (dJ GM (dJ yX (vJ 2) (kJ (.int 0))) (kJ (.str [121,101,115]))) gC)
def qF:AF:=(CJ (bJ wJ gX) 1)
def qG:AF:=(CJ (vJ 0) 2)
def vQ:AF:=(λρ S=>gH (jN) (iA) 10000 ρ S)
def KW:AF:=(AJ (vJ 1))
def uO:AF:=zL (qF) (zL (qG) (zL (vQ) ((KW))))
def cF(ds:Xb)(S:Sto):R Er:=yU (uO (yR FA ds) S)
def cY:AZ:=uJ
def jX:AE:=(bJ (yJ (dJ yX (vJ 0) (kJ (.int 0))) (yJ (iJ (bJ (dJ fU (dJ yX (vJ 0) (kJ (.int 0))) (kJ (.str [115,97,109,101]))) gC) (tJ mL (vJ 0) (bJ (kJ (.int 1)) MN) (bJ (kJ (.int 3)) MN)) (dJ yX (vJ 0) (kJ (.int 2)))) wJ)) nA)
def rB:AF:=(AJ (fJ 1 iR (yJ (pJ (bJ (vJ 0) GR) (xD 0) (cY) (jX) 1 []) wJ)))
def oI:AF:=(rB)
def aS(ds:Xb)(S:Sto):R Er:=yU (oI (yR ["parts"] ds) S)
def gM:AY:=(BJ (eJ bE tN (eJ uM RO (vJ 1) (yJ (vJ 2) (yJ (bJ wJ gX) wJ))) (yJ (vJ 3) wJ)))
def wI:AY:=(gM)
def cG:AF:=(CJ zJ 1)
def cH:AF:=(FJ (bJ (vJ 0) GR) (CQ 2 (zS (xD 2) (zS (xD 3) gG))) (wI))
def uP:AF:=(AJ (vJ 1))
def nG:AF:=zL (cG) (zL (cH) ((uP)))
def xN(ds:Xb)(S:Sto):R Er:=yU (nG (yR pB ds) S)
def oK:AZ:=uJ
def bP:AE:=(fJ 2 cL (yJ (vJ 0) (yJ (vJ 1) wJ)))
def bQ:AY:=(CJ (fJ 2 iG (yJ (vJ 3) (yJ (vJ 5) wJ))) 6)
def bR:AY:=(iJ (bJ (dJ vE (vJ 6) (kJ .non)) gC) (zL (CJ (bJ (yJ (vJ 2) wJ) OD) 7) (zL (BJ (eJ uM EV (vJ 7) (yJ (vJ 6) wJ))) ((BJ (eJ bE tN (vJ 4) (yJ (vJ 7) wJ)))))) (JJ))
def mT:AY:=zL (bQ) ((bR))
def eK:AF:=(iJ (bJ (dJ fU (dJ yX (vJ 0) (kJ (.int 0))) (kJ (.str [115,97,109,101]))) gC) ((AJ (iJ (bJ (dJ fU (fJ 2 cL (yJ (dJ yX (vJ 0) (kJ (.int 1))) (yJ (vJ 2) wJ))) (fJ 2 cL (yJ (dJ yX (vJ 0) (kJ (.int 2))) (yJ (vJ 2) wJ)))) gC) (bJ (yJ (vJ 2) wJ) gX) (bJ wJ gX)))) (JJ))
def sG:AF:=(CJ (pJ (bJ (dJ yX (vJ 0) (kJ (.int 2))) Pw) (xD 0) (oK) (bP) 1 [2]) 3)
def sH:AF:=(CJ (bJ wJ gX) 4)
def sI:AF:=(FJ (bJ (eJ uM tU (vJ 1) (yJ (dJ yX (vJ 0) (kJ (.int 1))) (yJ (bJ wJ gX) wJ))) GR) (xD 5) (mT))
def OH:AF:=(AJ (vJ 4))
def pD:AF:=zL (eK) (zL (sG) (zL (sH) (zL (sI) ((OH)))))
def nH(ds:Xb)(S:Sto):R Er:=yU (pD (yR AV ds) S)
def jB:AZ:=uJ
def xZ:AE:=(fJ 1 aS (yJ (tJ mL (bJ (vJ 1) (iO "Reading" "steps")) (bJ (vJ 0) MN) mJ) wJ))
def eM:AF:=(Kf "Reading" "steps" (fJ 1 cF (yJ (vJ 1) wJ)) (vJ 0))
def eO:AF:=(Kf "Reading" "asked" (pJ (bJ (yJ (bJ (yJ (bJ (vJ 0) (iO "Reading" "steps")) wJ) fX) wJ) dW) (xD 0) (jB) (xZ) 1 [0]) (vJ 0))
def eP:AF:=(Kf "Reading" "cells" (fJ 1 xN (yJ (vJ 2) wJ)) (vJ 0))
def eQ:AF:=(Kf "Reading" "found" zJ (vJ 0))
def yK:AF:=zL (eM) (zL (eO) (zL (eP) ((eQ))))
def yW(ds:Xb)(S:Sto):R Er:=yU (yK (yR xM ds) S)
def fV:AZ:=uJ
def bK:AE:=(eJ uM tU (vJ 1) (yJ (vJ 0) wJ))
def cZ:AF:=(CJ (bJ (yJ (vJ 1) wJ) fX) 3)
def dA:AF:=(iJ (bJ (dJ fU (vJ 3) (bJ (yJ (bJ (vJ 0) (iO "Reading" "steps")) wJ) fX)) gC) ((AJ (kJ (.bl true)))) (JJ))
def dB:AF:=(CJ (bJ (yJ (vJ 3) (yJ (bJ (yJ (pJ (bJ (dJ yX (bJ (vJ 0) (iO "Reading" "asked")) (vJ 3)) GR) (xD 0) (fV) (bK) 1 [2]) wJ) qA) wJ)) nA) 4)
def jY:AF:=(iJ (bJ (dJ (WR false) (vJ 4) (bJ (vJ 0) (iO "Reading" "found"))) gC) ((AJ (dJ XA (bJ (vJ 0) (iO "Reading" "found")) (vJ 4)))) (JJ))
def dC:AF:=(BJ (eJ bE tN (vJ 1) (yJ (bJ (yJ (vJ 4) (yJ (fJ 3 nH (yJ (dJ yX (bJ (vJ 0) (iO "Reading" "steps")) (vJ 3)) (yJ (bJ (vJ 0) (iO "Reading" "cells")) (yJ (vJ 2) wJ)))) wJ)) nA) wJ)))
def vR:AF:=(AJ (kJ .non))
def zX:AF:=zL (cZ) (zL (dA) (zL (dB) (zL (jY) (zL (dC) ((vR))))))
def zT(ds:Xb)(S:Sto):R Er:=yU (zX (yR eY ds) S)
def kG:AY:=(CJ (dJ yX (dJ yX (vJ 2) (kJ (.int (-1)))) (kJ (.int 0))) 4)
def kH:AY:=(CJ (dJ yX (dJ yX (vJ 2) (kJ (.int (-1)))) (kJ (.int 1))) 5)
def kI:AY:=(CJ (dJ GM (dJ yX (dJ yX (bJ (vJ 0) (iO "Reading" "steps")) (dJ yX (vJ 4) (kJ (.int 0)))) (kJ (.int 0))) (kJ (.str [101,97,99,104]))) 6)
def xP:AY:=(iJ (rJ (bJ (dJ GM (vJ 3) (vJ 6)) gC) (bJ (vJ 5) NL)) ((CJ (RJ "Reading" "enter" 3 zT (vJ 0) (yJ (vJ 2) (yJ (gJ bE BW (vJ 5)) wJ))) 3)) (zL (iJ (bJ (dJ GM (vJ 3) (vJ 6)) gC) ((CJ (nJ (vJ 6)) 3)) (JJ)) (zL (EJ (vJ 3) (DJ IL (bJ (vJ 0) (iO "Reading" "found")) (vJ 4))) ((BJ (gJ bE BW (vJ 2)))))))
def yO:AY:=zL (kG) (zL (kH) (zL (kI) ((xP))))
def xA:AZ:=(bJ (vJ 2) NL)
def jC:AF:=(CJ (bJ wJ gX) 2)
def jD:AF:=(CJ (RJ "Reading" "enter" 3 zT (vJ 0) (yJ (vJ 2) (yJ (vJ 1) wJ))) 3)
def dD:AF:=(λρ S=>gH (xA) (yO) 100000000 ρ S)
def qH:AF:=(AJ (vJ 3))
def yC:AF:=zL (jC) (zL (jD) (zL (dD) ((qH))))
def yL(ds:Xb)(S:Sto):R Er:=yU (yC (yR eG ds) S)
def IX:AF:=(AJ (RJ "Reading" "holds_with" 2 yL (bJ (yJ (vJ 0) (yJ (vJ 1) wJ)) (WX "Reading" 3 yW)) (yJ (vJ 2) wJ)))
def KY:AF:=(IX)
def vS(ds:Xb)(S:Sto):R Er:=yU (KY (yR vN ds) S)
def nI:AF:=(iJ (bJ (dJ Na (vJ 1) (bJ (yJ (vJ 0) wJ) fX)) gC) ((AJ (dJ yX (vJ 0) (vJ 1)))) (JJ))
def AW:AF:=(AJ (kJ (.int 0)))
def iT:AF:=zL (nI) ((AW))
def zO(ds:Xb)(S:Sto):R Er:=yU (iT (yR ["_law_script","_law_k"] ds) S)
def cI:AY:=(CJ (dJ wH (vJ 3) (dJ yX (vJ 1) (dJ xW (vJ 0) (kJ (.int 26))))) 3)
def cJ:AY:=(CJ (dJ gI (vJ 0) (kJ (.int 26))) 0)
def nK:AY:=zL (cI) ((cJ))
def nL:AF:=(CJ (kJ (.str [97,98,99,100,101,102,103,104,105,106,107,108,109,110,111,112,113,114,115,116,117,118,119,120,121,122])) 1)
def nN:AF:=(CJ (dJ wH (kJ (.int 1)) (dJ xW (vJ 0) (kJ (.int 8)))) 2)
def nO:AF:=(CJ (dJ gI (vJ 0) (kJ (.int 8))) 0)
def nP:AF:=(CJ (kJ (.str [])) 3)
def nQ:AF:=(FJ (bJ (yJ (vJ 2) wJ) dW) (xD 4) (nK))
def pE:AF:=(AJ (bJ (yJ (vJ 3) (yJ (vJ 0) wJ)) nA))
def iU:AF:=zL (nL) (zL (nN) (zL (nO) (zL (nP) (zL (nQ) ((pE))))))
def kX(ds:Xb)(S:Sto):R Er:=yU (iU (yR rY ds) S)
def wK:AY:=(iJ (bJ (dJ (XU false) (vJ 4) (vJ 2)) gC) ((CJ (dJ wH (tJ mL (vJ 4) mJ (bJ (kJ (.int 7)) MN)) (vJ 5)) 4)) (JJ))
def xQ:AY:=(wK)
def wL:AY:=(EJ (fJ 1 kX (yJ (vJ 0) wJ)) (CQ 2 (zS (xD 4) (zS (xD 0) gG))))
def wM:AY:=(FJ (bJ (kJ (.str [97,98,99,100,101,102,103,104,105,106])) itS) (xD 5) (xQ))
def wN:AY:=(BJ (eJ bE tN (vJ 2) (yJ (vJ 4) wJ)))
def kL:AY:=zL (wL) (zL (wM) ((wN)))
def kM:AF:=(CJ (bJ wJ gX) 2)
def kN:AF:=(FJ (bJ (yJ (vJ 1) wJ) dW) (xD 3) (kL))
def bS:AF:=(AJ (vJ 2))
def jE:AF:=zL (kM) (zL (kN) ((bS)))
def wA(ds:Xb)(S:Sto):R Er:=yU (jE (yR cW ds) S)
def nR:AY:=(CJ (dJ wH (dJ gI (vJ 0) (dJ wH (kJ (.int 49)) (dJ iK (kJ (.int 5)) (vJ 8)))) (dJ iK (vJ 8) (dJ xW (dJ gI (vJ 0) (kJ (.int 49))) (kJ (.int 3))))) 9)
def nS:AY:=(iJ (bJ (dJ fU (vJ 8) (vJ 4)) gC) ((CJ (dJ wH (vJ 9) (dJ iK (kJ (.int 3)) (vJ 6))) 9)) (JJ))
def pF:AY:=(CJ (dJ wH (vJ 7) (dJ yX (vJ 2) (dJ xW (vJ 9) (kJ (.int 26))))) 7)
def dE:AY:=zL (nR) (zL (nS) ((pF)))
def nT:AY:=(CJ (kJ (.str [])) 7)
def nU:AY:=(FJ (bJ (yJ (vJ 3) wJ) dW) (xD 8) (dE))
def nV:AY:=(BJ (eJ bE tN (vJ 5) (yJ (vJ 7) wJ)))
def iV:AY:=zL (nT) (zL (nU) ((nV)))
def gN:AF:=(iJ (bJ (dJ fU (dJ xW (vJ 0) (kJ (.int 2))) (kJ (.int 0))) gC) ((AJ (fJ 2 wA (yJ (dJ gI (vJ 0) (kJ (.int 2))) (yJ (vJ 1) wJ))))) (JJ))
def iW:AF:=(CJ (kJ (.str [97,98,99,100,101,102,103,104,105,106,107,108,109,110,111,112,113,114,115,116,117,118,119,120,121,122])) 2)
def iY:AF:=(CJ (dJ xW (dJ iK (dJ xW (dJ iK (vJ 0) (kJ (.int 69621))) (kJ (.int 2147483629))) (kJ (.int 48271))) (kJ (.int 2147483647))) 0)
def iZ:AF:=(CJ (dJ wH (kJ (.int 1)) (dJ xW (vJ 0) (kJ (.int 7)))) 3)
def lB:AF:=(CJ (dJ xW (dJ gI (vJ 0) (kJ (.int 7))) (vJ 3)) 4)
def lD:AF:=(CJ (bJ wJ gX) 5)
def lE:AF:=(FJ (bJ (yJ (vJ 1) wJ) dW) (xD 6) (iV))
def lF:AF:=(iJ (bJ (dJ fU (dJ xW (dJ gI (vJ 0) (kJ (.int 49))) (kJ (.int 4))) (kJ (.int 1))) gC) ((EJ (dJ wH (dJ yX (vJ 5) (kJ (.int 0))) (dJ yX (vJ 2) (dJ xW (dJ gI (vJ 0) (kJ (.int 196))) (kJ (.int 26))))) (DJ NU (vJ 5) (kJ (.int 1))))) (JJ))
def sK:AF:=(AJ (vJ 5))
def dF:AF:=zL (gN) (zL (iW) (zL (iY) (zL (iZ) (zL (lB) (zL (lD) (zL (lE) (zL (lF) ((sK)))))))))
def iB(ds:Xb)(S:Sto):R Er:=yU (dF (yR vO ds) S)
def nW:AY:=(BJ (eJ bE tN (vJ 2) (yJ (dJ xW (vJ 3) (kJ (.int 1000000))) wJ)))
def nY:AY:=(CJ (dJ gI (vJ 3) (kJ (.int 1000000))) 3)
def dG:AY:=zL (nW) ((nY))
def nZ:AY:=(CJ (dJ xW (dJ wH (dJ wH (dJ iK (vJ 5) (vJ 5)) (dJ iK (kJ (.int 48271)) (vJ 5))) (vJ 4)) (kJ (.int 2147483647))) 5)
def aB:AY:=(BJ (eJ bE tN (vJ 2) (yJ (dJ gI (dJ xW (dJ iK (vJ 5) (kJ (.int 69621))) (kJ (.int 2147483587))) (kJ (.int 16))) wJ)))
def lG:AY:=zL (nZ) ((aB))
def lH:AF:=(CJ (bJ wJ gX) 2)
def gO:AF:=(iJ (bJ (dJ fU (dJ xW (vJ 0) (kJ (.int 2))) (kJ (.int 0))) gC) (zL (CJ (dJ gI (vJ 0) (kJ (.int 2))) 3) (zL (FJ (bJ (yJ (vJ 1) wJ) dW) (xD 4) (dG)) ((AJ (vJ 2))))) (JJ))
def lI:AF:=(CJ (dJ wH (dJ xW (vJ 0) (kJ (.int 2147483629))) (kJ (.int 1))) 5)
def lK:AF:=(FJ (bJ (yJ (vJ 1) wJ) dW) (xD 4) (lG))
def FC:AF:=(AJ (vJ 2))
def dH:AF:=zL (lH) (zL (gO) (zL (lI) (zL (lK) ((FC)))))
def yT(ds:Xb)(S:Sto):R Er:=yU (dH (yR vP ds) S)
def dI:AY:=(EJ (fJ 1 kX (yJ (dJ gI (vJ 2) (kJ (.int 2))) wJ)) (CQ 2 (zS (xD 6) (zS (xD 2) gG))))
def jZ:AY:=(iJ (bJ (dJ fU (dJ xW (vJ 2) (kJ (.int 2))) (kJ (.int 1))) gC) (zL (CJ (dJ wH (dJ AR (dJ xW (dJ gI (vJ 2) (kJ (.int 2))) (dJ AR (dJ iK (kJ (.int 2)) (dJ CI (kJ (.int 10)) (kJ (.int 30)))) (kJ (.int 1)))) (dJ CI (kJ (.int 10)) (kJ (.int 30)))) (kJ (.int 1))) 6) ((CJ (dJ gI (vJ 2) (dJ AR (dJ iK (kJ (.int 2)) (dJ CI (kJ (.int 10)) (kJ (.int 30)))) (kJ (.int 1)))) 2))) (JJ))
def dL:AY:=(iJ (bJ (dJ (XU true) (vJ 6) (vJ 4)) gC) ((BJ (eJ bE tN (vJ 4) (yJ (vJ 6) wJ)))) (JJ))
def wU:AY:=zL (dI) (zL (jZ) ((dL)))
def hV:AZ:=(bJ (dJ (XU true) (vJ 0) (vJ 1)) gC)
def dM:AE:=(vJ 0)
def jK:AF:=(iJ (bJ (dJ fU (dJ xW (vJ 0) (kJ (.int 2))) (kJ (.int 0))) gC) (zL (CJ (dJ gI (vJ 0) (kJ (.int 2))) 2) (zL (CJ (dJ wH (kJ (.int 2)) (dJ xW (vJ 2) (kJ (.int 3)))) 3) (zL (CJ (dJ gI (vJ 2) (kJ (.int 3))) 2) (zL (CJ (bJ wJ gX) 4) (zL (FJ (bJ (yJ (vJ 3) wJ) dW) (xD 5) (wU)) ((AJ (dJ wH (vJ 4) (tJ mL (pJ (bJ (vJ 1) GR) (xD 0) (hV) (dM) 1 [4]) mJ (bJ (dJ AR (kJ (.int 2)) (bJ (yJ (kJ (.int 2)) (yJ (bJ (yJ (vJ 4) wJ) fX) wJ)) RH)) MN)))))))))) (JJ))
def eZ:AF:=(CJ (dJ wH (dJ AR (dJ xW (vJ 0) (dJ AR (dJ iK (kJ (.int 2)) (dJ CI (kJ (.int 10)) (kJ (.int 30)))) (kJ (.int 2)))) (dJ CI (kJ (.int 10)) (kJ (.int 30)))) (kJ (.int 1))) 7)
def fA:AF:=(CJ (bJ (yJ (vJ 7) (yJ (dJ wH (vJ 7) (kJ (.int 1))) (yJ (dJ yX (vJ 1) (kJ (.int 0))) (yJ (dJ yX (vJ 1) (kJ (.int 1))) wJ)))) gX) 8)
def fB:AF:=(CJ (dJ xW (dJ gI (vJ 0) (kJ (.int 5))) (kJ (.int 4))) 9)
def fC:AF:=(AJ (tJ mL (dJ wH (tJ mL (vJ 8) (bJ (vJ 9) MN) mJ) (tJ mL (vJ 8) mJ (bJ (vJ 9) MN))) mJ (bJ (dJ wH (kJ (.int 2)) (dJ xW (vJ 0) (kJ (.int 3)))) MN)))
def bT:AF:=zL (jK) (zL (eZ) (zL (fA) (zL (fB) ((fC)))))
def aT(ds:Xb)(S:Sto):R Er:=yU (bT (yR oG ds) S)
def dN:AY:=(CJ (dJ wH (dJ wH (kJ (.int 1)) (dJ xW (vJ 3) (kJ (.int 3)))) (bJ (yJ (dJ fU (dJ xW (dJ gI (vJ 3) (kJ (.int 3))) (kJ (.int 5))) (kJ (.int 0))) wJ) WN)) 4)
def dO:AY:=(BJ (eJ bE tN (vJ 2) (yJ (bJ (yJ (vJ 4) (yJ (bJ (yJ (vJ 4) (yJ (dJ yX (bJ (yJ (kJ (.int 0)) (yJ (kJ (.int 1)) (yJ (kJ (.int 1)) (yJ (kJ (.int 1)) (yJ (kJ (.int 2)) (yJ (kJ (.int 4)) wJ)))))) gX) (dJ xW (dJ gI (vJ 3) (kJ (.int 15))) (kJ (.int 6)))) wJ)) RH) wJ)) nA) wJ)))
def fD:AY:=zL (dN) ((dO))
def fE:AF:=(CJ (fJ 2 yT (yJ (vJ 0) (yJ (kJ (.int 5)) wJ))) 1)
def fF:AF:=(CJ (bJ wJ gX) 2)
def fG:AF:=(FJ (bJ (tJ mL (vJ 1) mJ (bJ (dJ wH (kJ (.int 1)) (dJ xW (dJ yX (vJ 1) (kJ (.int 4))) (kJ (.int 4)))) MN)) GR) (xD 3) (fD))
def rC:AF:=(AJ (bJ (yJ (vJ 2) wJ) qA))
def oM:AF:=zL (fE) (zL (fF) (zL (fG) ((rC))))
def aU(ds:Xb)(S:Sto):R Er:=yU (oM (yR tV ds) S)
def rD:AZ:=uJ
def fH:AE:=(dJ yX (vJ 1) (dJ xW (dJ xW (dJ gI (vJ 2) (dJ yX (bJ (yJ (kJ (.int 1)) (yJ (kJ (.int 5)) (yJ (kJ (.int 25)) (yJ (kJ (.int 125)) wJ)))) gX) (vJ 0))) (kJ (.int 5))) (bJ (yJ (vJ 1) wJ) fX)))
def fI:AY:=(CJ (dJ xW (vJ 6) (bJ (yJ (vJ 2) wJ) fX)) 7)
def fK:AY:=(CJ (dJ xW (dJ iK (dJ gI (vJ 6) (bJ (yJ (vJ 2) wJ) fX)) (kJ (.int 48271))) (kJ (.int 2147483647))) 8)
def fL:AY:=(CJ (pJ (bJ (yJ (dJ yX (dJ yX (vJ 2) (vJ 7)) (kJ (.int 0))) wJ) dW) (xD 0) (rD) (fH) 1 [3,8]) 0)
def jL:AY:=(iJ (rJ (bJ (dJ (XU true) (bJ (yJ (vJ 7) (yJ (bJ (yJ (vJ 0) wJ) qA) wJ)) nA) (vJ 4)) gC) (bJ (dJ Na (bJ (yJ (vJ 4) wJ) fX) (kJ (.int 9))) gC)) ((BJ (eJ bE tN (vJ 4) (yJ (bJ (yJ (vJ 7) (yJ (bJ (yJ (vJ 0) wJ) qA) wJ)) nA) wJ)))) (JJ))
def aV:AY:=zL (fI) (zL (fK) (zL (fL) ((jL))))
def oN:AF:=(CJ (bJ wJ gX) 4)
def oO:AF:=(CJ (bJ (yJ (vJ 0) wJ) IE) 5)
def aW:AF:=(iJ (bJ (dJ fU (dJ xW (vJ 1) (kJ (.int 4))) (kJ (.int 1))) gC) ((CJ (dJ wH (vJ 5) (fJ 2 yT (yJ (dJ gI (vJ 1) (kJ (.int 4))) (yJ (kJ (.int 9)) wJ)))) 5)) (JJ))
def oP:AF:=(FJ (bJ (vJ 5) GR) (xD 6) (aV))
def GX:AF:=(AJ (vJ 4))
def sL:AF:=zL (oN) (zL (oO) (zL (aW) (zL (oP) ((GX)))))
def eR(ds:Xb)(S:Sto):R Er:=yU (sL (yR rZ ds) S)
def bU:AF:=(iJ (bJ (dJ fU (dJ xW (vJ 0) (kJ (.int 6))) (kJ (.int 0))) gC) ((AJ (bJ (yJ (kJ (.str [105,115])) (yJ (dJ yX (vJ 2) (dJ xW (dJ gI (vJ 0) (kJ (.int 6))) (bJ (yJ (vJ 2) wJ) fX))) wJ)) nA))) (JJ))
def tW:AF:=(AJ (bJ (yJ (kJ (.str [118,97,114])) (yJ (dJ yX (vJ 1) (dJ xW (dJ gI (vJ 0) (kJ (.int 6))) (bJ (yJ (vJ 1) wJ) fX))) wJ)) nA))
def eS:AF:=zL (bU) ((tW))
def mU(ds:Xb)(S:Sto):R Er:=yU (eS (yR eI ds) S)
def wO:AY:=(iJ (rJ (bJ (dJ fU (dJ yX (vJ 4) (kJ (.int 0))) (kJ (.str [105,115]))) gC) (bJ (dJ GM (dJ yX (vJ 4) (kJ (.int 1))) (vJ 5)) gC)) ((AJ (kJ .non))) (JJ))
def lL:AY:=(iJ (bJ (dJ fU (dJ yX (vJ 4) (kJ (.int 0))) (kJ (.str [118,97,114]))) gC) (zL (iJ (rJ (bJ (dJ (RM false) (dJ yX (vJ 4) (kJ (.int 1))) (vJ 3)) gC) (bJ (dJ GM (dJ OE (vJ 3) (dJ yX (vJ 4) (kJ (.int 1)))) (vJ 5)) gC)) ((AJ (kJ .non))) (JJ)) ((EJ (vJ 5) (DJ vM (vJ 3) (dJ yX (vJ 4) (kJ (.int 1))))))) (JJ))
def jF:AY:=zL (wO) ((lL))
def qI:AF:=(CJ (bJ (yJ (vJ 2) wJ) OD) 3)
def qK:AF:=(FJ (bJ (yJ (vJ 0) (yJ (vJ 1) wJ)) Nk) (CQ 2 (zS (xD 4) (zS (xD 5) gG))) (jF))
def KZ:AF:=(AJ (vJ 3))
def lN:AF:=zL (qI) (zL (qK) ((KZ)))
def aC(ds:Xb)(S:Sto):R Er:=yU (lN (yR FB ds) S)
def gP:AF:=(iJ (bJ (dJ fU (dJ yX (vJ 0) (kJ (.int 0))) (kJ (.str [105,115]))) gC) ((AJ (dJ yX (vJ 0) (kJ (.int 1))))) (JJ))
def sM:AF:=(AJ (dJ OE (vJ 1) (dJ yX (vJ 0) (kJ (.int 1)))))
def qL:AF:=zL (gP) ((sM))
def dP(ds:Xb)(S:Sto):R Er:=yU (qL (yR cX ds) S)
def gZ(self:List MV->Sto->R Er):AY:=(iJ (bJ (dJ fU (vJ 4) (dJ yX (vJ 0) (kJ (.int 1)))) gC) (zL (CJ (fJ 3 aC (yJ (dJ yX (vJ 0) (kJ (.int 2))) (yJ (vJ 5) (yJ (vJ 2) wJ)))) 6) ((iJ (rJ (bJ (dJ vE (vJ 6) (kJ .non)) gC) (bJ (dJ fU (fJ 3 self (yJ (dJ yX (vJ 0) (kJ (.int 3))) (yJ (vJ 1) (yJ (vJ 6) wJ)))) (dJ fU (dJ yX (vJ 0) (kJ (.int 0))) (kJ (.str [115,111,109,101])))) gC)) ((AJ (dJ fU (dJ yX (vJ 0) (kJ (.int 0))) (kJ (.str [115,111,109,101]))))) (JJ)))) (JJ))
def yM(self:List MV->Sto->R Er):AY:=(gZ self)
def wQ(self:List MV->Sto->R Er):AF:=(iJ (bJ (dJ fU (dJ yX (vJ 0) (kJ (.int 0))) (kJ (.str [121,101,115]))) gC) ((AJ (kJ (.bl true)))) (JJ))
def gQ(self:List MV->Sto->R Er):AF:=(iJ (bJ (dJ fU (dJ yX (vJ 0) (kJ (.int 0))) (kJ (.str [115,97,109,101]))) gC) (zL (CJ (dJ fU (fJ 2 dP (yJ (dJ yX (vJ 0) (kJ (.int 1))) (yJ (vJ 2) wJ))) (fJ 2 dP (yJ (dJ yX (vJ 0) (kJ (.int 2))) (yJ (vJ 2) wJ)))) 3) ((AJ (aJ (vJ 3) (fJ 3 self (yJ (dJ yX (vJ 0) (kJ (.int 3))) (yJ (vJ 1) (yJ (vJ 2) wJ)))))))) (JJ))
def lO(self:List MV->Sto->R Er):AF:=(FJ (bJ (vJ 1) GR) (CQ 2 (zS (xD 4) (zS (xD 5) gG))) (yM self))
def dQ(self:List MV->Sto->R Er):AF:=(AJ (dJ fU (dJ yX (vJ 0) (kJ (.int 0))) (kJ (.str [101,97,99,104]))))
def wC(self:List MV->Sto->R Er):AF:=zL (wQ self) (zL (gQ self) (zL (lO self) ((dQ self))))
def zQ:Nat->List MV->Sto->R Er
 |0=>λ_ _=>.no
 |n+1=>λds S=>yU (wC (zQ n) (yR ["_law_formula","_law_rows_here","_law_values_here","_law_alike","_law_t","_law_cells","_law_found"] ds) S)
def aD:AZ:=uJ
def bA:AE:=(bJ (yJ (kJ (.str [105,115])) (yJ (vJ 0) wJ)) nA)
def pG:AZ:=uJ
def aF:AE:=(bJ (yJ (kJ (.str [118,97,114])) (yJ (vJ 0) wJ)) nA)
def pH:AZ:=uJ
def aG:AE:=(fJ 3 mU (yJ (vJ 0) (yJ (vJ 1) (yJ (vJ 2) wJ))))
def bB:AZ:=(rJ (bJ (dJ fU (dJ yX (vJ 0) (kJ (.int 0))) (kJ (.str [118,97,114]))) gC) (bJ (dJ (XU true) (dJ yX (vJ 0) (kJ (.int 1))) (vJ 1)) gC))
def aH:AE:=(dJ yX (vJ 0) (kJ (.int 1)))
def aI:AY:=(CJ (fJ 2 yT (yJ (vJ 8) (yJ (kJ (.int 6)) wJ))) 9)
def aK:AY:=(CJ (dJ wH (vJ 7) (bJ (yJ (dJ Nc (dJ xW (vJ 8) (kJ (.int 3))) (kJ (.int 0))) wJ) WN)) 7)
def aL:AY:=(iJ (sJ (bJ (dJ fU (dJ xW (vJ 8) (kJ (.int 3))) (kJ (.int 0))) gC) (bJ (dJ Nc (vJ 7) (kJ (.int 4))) gC)) (zL (CJ (dJ wH (pJ (bJ (vJ 3) GR) (xD 0) (aD) (bA) 1 []) (dJ iK (pJ (bJ (vJ 6) GR) (xD 0) (pG) (aF) 1 []) (kJ (.int 2)))) 10) ((BJ (eJ bE tN (vJ 5) (yJ (bJ (yJ (kJ (.str [115,97,109,101])) (yJ (dJ yX (vJ 10) (dJ xW (dJ yX (vJ 9) (kJ (.int 0))) (bJ (yJ (vJ 10) wJ) fX))) (yJ (dJ yX (vJ 10) (dJ xW (dJ yX (vJ 9) (kJ (.int 1))) (bJ (yJ (vJ 10) wJ) fX))) wJ))) nA) wJ))))) (zL (CJ (dJ xW (dJ yX (vJ 9) (kJ (.int 4))) (bJ (yJ (vJ 1) wJ) fX)) 11) (zL (CJ (bJ (yJ (pJ (bJ (tJ mL (vJ 9) mJ (bJ (dJ yX (dJ yX (vJ 1) (vJ 11)) (kJ (.int 0))) MN)) GR) (xD 0) (pH) (aG) 1 [2,3]) wJ) qA) 12) (zL (BJ (eJ bE tN (vJ 5) (yJ (bJ (yJ (dJ yX (bJ (yJ (kJ (.str [115,111,109,101])) (yJ (kJ (.str [101,97,99,104])) wJ)) gX) (dJ AR (dJ xW (vJ 8) (kJ (.int 3))) (kJ (.int 1)))) (yJ (vJ 11) (yJ (vJ 12) wJ))) nA) wJ))) ((CJ (dJ wH (vJ 6) (pJ (bJ (vJ 12) Pw) (xD 0) (bB) (aH) 1 [6])) 6))))))
def dR:AY:=zL (aI) (zL (aK) ((aL)))
def lP:AF:=(CJ (bJ wJ gX) 5)
def lQ:AF:=(CJ (bJ (yJ (vJ 4) wJ) rX) 6)
def lR:AF:=(CJ (kJ (.int 0)) 7)
def lU:AF:=(FJ (bJ (vJ 0) GR) (xD 8) (dR))
def FD:AF:=(AJ (vJ 5))
def qM:AF:=zL (lP) (zL (lQ) (zL (lR) (zL (lU) ((FD)))))
def iC(ds:Xb)(S:Sto):R Er:=yU (qM (yR gY ds) S)
def IY:AY:=(EJ (dJ yX (vJ 3) (dJ xW (dJ gI (fJ 2 zO (yJ (vJ 0) (yJ (kJ (.int 3)) wJ))) (dJ wH (kJ (.int 3)) (vJ 6))) (bJ (yJ (vJ 3) wJ) fX))) (DJ vM (vJ 5) (dJ yX (vJ 2) (vJ 6))))
def DA:AY:=(IY)
def IZ:AZ:=uJ
def BA:AE:=(dJ wH (fJ 2 zO (yJ (vJ 1) (yJ (dJ wH (kJ (.int 3)) (vJ 0)) wJ))) (dJ iK (kJ (.int 31)) (vJ 0)))
def JA:AY:=(CJ (dJ wH (vJ 10) (bJ (yJ (vJ 9) wJ) nA)) 9)
def DB:AY:=(JA)
def BB:AY:=(CJ (fJ 3 vS (yJ (vJ 9) (yJ (vJ 14) (yJ (vJ 13) wJ)))) 15)
def JB:AY:=(iJ (sJ (qJ (bJ (bJ (yJ (vJ 15) (yJ (kJ (.typ "bool")) wJ)) GT) NL)) (sJ (bJ (dJ GM (vJ 15) (vJ 11)) gC) (bJ (dJ (WZ false) (vJ 13) (vJ 5)) gC))) ((AJ (kJ (.bl false)))) (JJ))
def DC:AY:=zL (BB) ((JB))
def LA:AF:=(CJ (fJ 2 iB (yJ (fJ 2 zO (yJ (vJ 0) (yJ (kJ (.int 0)) wJ))) (yJ (kJ (.int 5)) wJ))) 1)
def LB:AF:=(CJ (bJ (yJ (dJ yX (vJ 1) (kJ (.int 0))) (yJ (dJ yX (vJ 1) (kJ (.int 1))) (yJ (dJ wH (dJ yX (vJ 1) (kJ (.int 2))) (kJ (.str [55]))) (yJ (kJ (.str [48])) (yJ (kJ (.str [120,32,121])) wJ))))) gX) 2)
def LC:AF:=(CJ (fJ 2 aT (yJ (fJ 2 zO (yJ (vJ 0) (yJ (kJ (.int 1)) wJ))) (yJ (tJ mL (vJ 1) (bJ (kJ (.int 3)) MN) mJ) wJ))) 3)
def LD:AF:=(CJ (tJ mL (fJ 1 aU (yJ (fJ 2 zO (yJ (vJ 0) (yJ (kJ (.int 2)) wJ))) wJ)) mJ (bJ (kJ (.int 3)) MN)) 4)
def LE:AF:=(CJ zJ 5)
def LG:AF:=(FJ (bJ (yJ (dJ xW (fJ 2 zO (yJ (vJ 0) (yJ (kJ (.int 3)) wJ))) (kJ (.int 3))) wJ) dW) (xD 6) (DA))
def LI:AF:=(CJ (tJ mL (fJ 4 eR (yJ (tJ mL (vJ 0) (bJ (kJ (.int 8)) MN) mJ) (yJ (fJ 2 zO (yJ (vJ 0) (yJ (kJ (.int 2)) wJ))) (yJ (vJ 4) (yJ (vJ 3) wJ))))) mJ (bJ (kJ (.int 6)) MN)) 7)
def LK:AF:=(CJ (pJ (bJ (yJ (dJ xW (fJ 2 zO (yJ (vJ 0) (yJ (kJ (.int 0)) wJ))) (kJ (.int 8))) wJ) dW) (xD 0) (IZ) (BA) 1 [0]) 8)
def LL:AF:=(CJ (bJ (yJ (kJ (.str [121,101,115])) wJ) nA) 9)
def FE:AF:=(FJ (bJ (yJ (fJ 5 iC (yJ (vJ 8) (yJ (vJ 4) (yJ (vJ 2) (yJ (vJ 3) (yJ (vJ 5) wJ)))))) wJ) Ug) (xD 10) (DB))
def FF:AF:=(CJ (fJ 3 (zQ 9) (yJ (vJ 9) (yJ (vJ 7) (yJ (vJ 5) wJ)))) 11)
def FG:AF:=(CJ (bJ (yJ (vJ 7) wJ) IE) 12)
def FH:AF:=(CJ (bJ (yJ (vJ 5) wJ) OD) 13)
def FI:AF:=(FJ (bJ (bJ (yJ (vJ 7) (yJ (vJ 7) (yJ (tJ (NQ (-1)) (vJ 7) mJ mJ) wJ))) gX) GR) (xD 14) (DC))
def FK:AF:=(AJ (dJ fU (vJ 7) (vJ 12)))
def Bf:AF:=zL (LA) (zL (LB) (zL (LC) (zL (LD) (zL (LE) (zL (LG) (zL (LI) (zL (LK) (zL (LL) (zL (FE) (zL (FF) (zL (FG) (zL (FH) (zL (FI) ((FK)))))))))))))))
def OI(ds:Xb)(S:Sto):R Er:=yU (Bf (yR Be ds) S)
def Hy{b:Int}(h:QV 0 b)(a:Int)(S:Sto):gI (.val (.int a)) (.val (.int b)) S=.ok (.val (.int (a / b))) S:=iP (show QV a b from h)
def hX{S:Sto}{l:Nat}{ds:Xb}{d:MV}(hS:S[l]? =some (.lst ds))(hz:ds.length<1000000):tN (.val (.loc l)) [.val d] S=.ok (.val .non) (S.set l (.lst (ds++[d]))):=by show WO (.val (.loc l)) S (λds=>if ds.length<sizeLine then some (ds++[d])else none)=_;unfold WO;dsimp only;rw[hS];dsimp only;rw[iP (Nat.lt_of_lt_of_le hz (fits (Nat.le_refl _)))]
theorem kR{S:Sto}{l:Nat}{ds:Xb}(hS:S[l]? =some (.lst ds)):bE (.val (.loc l)) S=true:=by unfold bE;rw[iL hS];rfl
def Bg{S:Sto}{l:Nat}{ds:Xb}{k:Int}{j:Nat}{d:MV}{ρ:Rho}(hS:S[l]? =some (.lst ds))(hj:MW ds.length k=some j):NU (.val (.loc l)) (.val (.int k)) d ρ S=.ok ρ (S.set l (.lst (ds.set j d))):=by unfold NU;dsimp only;rw[hS];dsimp only;rw[hj]
def get_set{S:Sto}{l:Nat}{o o':MO}(h:S[l]? =some o):(S.set l o')[l]? =some o':=getElem?_set_self (gS.mp h).1
def zZ{S:Sto}{l m:Nat}{o':MO}(h:l≠m):(S.set l o')[m]? =S[m]? :=getElem?_set_ne h
def tD{S:Sto}{l:Nat}{ds:Xb}(hS:S[l]? =some (.lst ds)):qA [.val (.loc l)] S=.ok (.val (.tup ds)) S:=by show(match eA S (.val (.loc l))with |some ds=>R.ok (Er.val (.tup ds)) S|none=>.no)=_;rw[iL hS]
theorem UG(ds:Xb)(S:Sto):fX [.val (.tup ds)] S=.ok (.val (.int ds.length)) S:=rfl
theorem mV(gf:MV->Rho->Sto->R Rho)(ρ:Rho)(d:MV)(S:Sto):Ga gf ρ (.val d) S=(gf d ρ S).bind λρ' S2=>.ok (.next ρ') S2:=rfl
def tbl(p:Int×Int):MV:=.tup [.int p.1,.int p.2]
mutual
def pd:MV->Bool
 |.int _=>true
 |.str _=>true
 |.tup ds=>UH ds
 |_=>false
def UH:List MV->Bool
 |[]=>true
 |d::ds=>pd d&&UH ds
end
mutual
def JC:MV->Nat
 |.tup ds=>FL ds+1
 |_=>0
def FL:List MV->Nat
 |[]=>0
 |d::ds=>max (JC d) (FL ds)
end
def oQ(ds:Xb):pd (.tup ds)=UH ds:=by rw[pd]
def qN:UH []=true:=by rw[UH]
def xR(d:MV)(ds:Xb):UH (d::ds)=(pd d&&UH ds):=by rw[UH]
def tE(ds:Xb):JC (.tup ds)=FL ds+1:=by rw[JC]
def jO(d:MV)(ds:Xb):FL (d::ds)=max (JC d) (FL ds):=by rw[FL]
def sN:FL []=0:=by rw[FL]
def LN(i:Int):pd (.int i)=true:=by rw[pd]
def fN(i:Db):pd (.str i)=true:=by rw[pd]
def DE(i:Int):JC (.int i)=0:=by simp[JC]
def mW(i:Db):JC (.str i)=0:=by simp[JC]
theorem LO: ∀{ds:Xb},(∀d∈ds,pd d=true)->UH ds=true
 |[],_=>qN
 |d::ds,h=>by rw[xR,h d mF0,LO λe he=>h e (mO _ he)];rfl
theorem LP: ∀{ds:Xb},UH ds=true-> ∀d∈ds,pd d=true
 |[],_,d,h=>by simp at h
 |e::ds,hp,d,h=>by
  rw[xR,aE]at hp;rcases mC.mp h with rfl|h
  .exact hp.1
  .exact LP hp.2 d h
theorem UI: ∀{ds:Xb}{n:Nat},(∀d∈ds,JC d<=n)->FL ds<=n
 |[],n,_=>by rw[sN];exact zero_le _
 |d::ds,n,h=>by rw[jO];have h1:=h d mF0;have h2:=UI λe he=>h e (mO _ he);omega
theorem OJ: ∀{ds:Xb}, ∀d∈ds,JC d<=FL ds
 |[],d,h=>by simp at h
 |e::ds,d,h=>by
  rw[jO];rcases mC.mp h with rfl|h
  .exact Nat.le_max_left _ _
  .exact Nat.le_trans (OJ d h) (Nat.le_max_right _ _)
def OK{d:MV}(h:pd d=true):(∃i,d=.int i)\/(∃x,d=.str x)\/ ∃ds,d=.tup ds/\UH ds=true:=by
 cases d with
 |int i=>exact .inl ⟨i,rfl⟩
 |str x=>exact .inr (.inl ⟨x,rfl⟩)
 |tup ds=>exact .inr (.inr ⟨ds,rfl,by rw[<-oQ];exact h⟩)
 |_=>rw[pd]at h<;>first |cases h|(intros;simp)
def dec_is{p:Prop}[Decidable p]{q:Prop}[Decidable q](h:p↔q):decide p=decide q:=by
 by_cases hq:q
 .rw[dT0 hq,dT0 (h.mpr hq)]
 .rw[dF0 hq,dF0 λz=>hq (h.mp z)]
theorem FM{e:MV->MV->Option Bool}: ∀{ds es:Xb},(∀d∈ds, ∀f∈es,e d f=some (decide (d=f)))-> ∃bs,CT e ds es=some bs/\(bs.all id&&ds.length==es.length)=decide (ds=es)
 |[],[],_=>⟨[],rfl,by simp⟩
 |[],_::_,_=>⟨[],rfl,by simp⟩
 |_::_,[],_=>⟨[],rfl,by simp⟩
 |d::ds,f::es,h=>by
  obtain⟨bs,h1,h2⟩:=FM (e:=e) (ds:=ds) (es:=es) λa ha b hb=>h a (mO _ ha) b (mO _ hb);refine⟨decide (d=f)::bs,?_,?_⟩
  .unfold CT;rw[h d mF0 f mF0,h1];rfl
  .by_cases hd:d=f
   .subst hd;rw[List.all_cons,dT0 rfl];simp only[id,Bool.true_and,lC];rw[show(ds.length+1==es.length+1)=(ds.length==es.length) by simp,h2];exact dec_is (by simp)
   .rw[List.all_cons,dF0 hd];rw[dF0 (show¬(d::ds=f::es)from λz=>hd (List.cons.inj z).1)];rfl
theorem sO{S:Sto}: ∀(n:Nat){d e:MV},pd d=true->pd e=true->JC d<n->eqv S n d e=some (decide (d=e))
 |0,d,e,_,_,h=>by omega
 |n+1,d,e,hd,he,h=>by
  rcases OK hd with⟨i,rfl⟩|⟨x,rfl⟩|⟨ds,rfl,pds⟩<;>rcases OK he with⟨j,rfl⟩|⟨y,rfl⟩|⟨es,rfl,pes⟩
  .rw[TR];exact congrArg some (dec_is (by simp))
  .rw[Nr,dF0 (by simp)]
  .rw[dF0 (by simp)];rfl
  .rw[Nt,dF0 (by simp)]
  .rw[KE];exact congrArg some (dec_is (by simp))
  .rw[dF0 (by simp)];rfl
  .rw[dF0 (by simp)];rfl
  .rw[dF0 (by simp)];rfl
  .rw[tE]at h;obtain⟨bs,h1,h2⟩:=FM (e:=eqv S n) (ds:=ds) (es:=es) λa ha b hb=>sO n (LP pds a ha) (LP pes b hb) (by have:=OJ a ha;omega);show((CT (eqv S n) ds es).map λbs=>bs.all id&&ds.length==es.length)=_;rw[h1];show some (bs.all id&&ds.length==es.length)=_;rw[h2];exact congrArg some (dec_is (by simp))
def UJ{S:Sto}{d e:MV}(hd:pd d=true)(he:pd e=true)(h:JC d<40):fU (.val d) (.val e) S=.ok (.val (.bl (decide (d=e)))) S:=KF (sO (zV+1) hd he (by unfold zV;omega))
theorem OL{S:Sto}{d:MV}(hd:pd d=true): ∀{ys:Xb},(∀y∈ys,pd y=true/\JC y<40)->NS S zV d ys=some (ys.map λy=>decide (y=d))
 |[],_=>rfl
 |y::ys,h=>by have h1:=h y mF0;unfold NS;rw[sO zV h1.1 hd (by unfold zV;exact h1.2),OL hd λz hz=>h z (mO _ hz)];rfl
def DF{n:Nat}{F:List MV->Sto->R Er}{rs:List Er}{S:Sto}{b:Bool}(hn:rs.length=n)(hF:F (zM rs S).1 (zM rs S).2=.ok (.val (.bl b)) S):zR n F rs S=.ok (.val (.bl b)) S:=nF hn hF (IG _ _) (λl=>by simp)
def SqM(S:Sto)(m:MV)(ds:Xb):Prop:=m=.tup ds\/ ∃l,m=.loc l/\S[l]? =some (.lst ds)
def SqM.len{S:Sto}{m:MV}{ds:Xb}(h:SqM S m ds):fX [.val m] S=.ok (.val (.int ds.length)) S:=by
 rcases h with rfl|⟨l,rfl,hS⟩
 .rfl
 .exact bY hS
def OM{n:Nat}{F:List MV->Sto->R Er}{rs:List Er}{S T:Sto}{r:Er}{ds:Xb}{as:Xb}{S2:Sto}(hn:rs.length=n)(hE:zM rs S=(as,S2))(hF:F as S2=.ok r (S++T))(hr:r=.new ds\/ ∃l,r=.val (.loc l)/\S.length<=l/\(S++T)[l]? =some (.lst ds))(h:pZ S.length ds):zR n F rs S=.ok (.new ds) S:=by
 have hF':F (zM rs S).1 (zM rs S).2=.ok r (S++T):=by rw[hE];exact hF
 rcases hr with rfl|⟨l,rfl,h1,h2⟩
 .exact rS hn hF' h
 .exact eB hn hF' h1 h2 h
theorem Hz(neg:Bool)(p:Er)(l:Nat)(S:Sto):XU neg p (.val (.loc l)) S=KC neg p (.val (.loc l)) S:=by
 unfold XU;split
 .rename_i h;cases h
 .rfl
def vT{S:Sto}{l:Nat}{d:MV}{ys:Xb}(neg:Bool)(hS:S[l]? =some (.lst ys))(hd:pd d=true)(h: ∀y∈ys,pd y=true/\JC y<40):XU neg (.val d) (.val (.loc l)) S=.ok (.val (.bl (if neg=true then !decide (d∈ys)else decide (d∈ys)))) S:=by
 have e1:itemsOf S (.val (.loc l))=some ys:=by unfold itemsOf;exact iL hS
 rw[Hz];unfold KC;dsimp only;rw[e1];dsimp only;rw[OL hd h];dsimp only
 have ha:(ys.map λy=>decide (y=d)).any id=decide (d∈ys):=by
  rw[List.any_map];by_cases hm:d∈ys
  .rw[dT0 hm,List.any_eq_true];exact⟨d,hm,by simp⟩
  .rw[dF0 hm];rw[List.any_eq_false];intro y hy;simp only[Function.comp,id,decide_eq_true_eq];rintro rfl;exact hm hy
 rw[ha]
theorem gt_int(i j:Int)(S:Sto):Nc (.val (.int i)) (.val (.int j)) S=.ok (.val (.bl (decide (j<i)))) S:=rfl
abbrev pT:List Nat:=[118,97,114]
abbrev IS:List Nat:=[105,115]
def lV(d:MV):Prop:=(∃x,d=.tup [.str pT,.str x])\/ ∃v,((∃i,v=.int i)\/ ∃x,v=.str x)/\d=.tup [.str IS,v]
mutual
theorem CA{n:Nat}: ∀{d:MV},pd d=true->lo n d
 |.int i,_=>uF n i
 |.str x,_=>AS n x
 |.tup ds,h=>rR (Bh (by rw[oQ]at h;exact h))
 |.non,_=>RA n
 |.bl b,_=>IG n b
 |.scr ds,h=>by unfold pd at h;cases h
 |.loc l,h=>by unfold pd at h;cases h
 |.typ t,h=>by unfold pd at h;cases h
theorem Bh{n:Nat}: ∀{ds:Xb},UH ds=true->pZ n ds
 |[],_=>gK λd hd=>by simp at hd
 |d::ds,h=>by rw[xR,aE]at h;unfold pZ;exact⟨CA h.1,Bh h.2⟩
end
def CC{d:MV}(h:lV d):pd d=true/\JC d<=1:=by
 rcases h with⟨x,rfl⟩|⟨v,⟨i,rfl⟩|⟨x,rfl⟩,rfl⟩
 .exact⟨by rw[oQ,xR,xR,qN,fN,fN];rfl,by rw[tE,jO,jO,sN,mW,mW];decide⟩
 .exact⟨by rw[oQ,xR,xR,qN,fN,LN];rfl,by rw[tE,jO,jO,sN,mW,DE];decide⟩
 .exact⟨by rw[oQ,xR,xR,qN,fN,fN];rfl,by rw[tE,jO,jO,sN,mW,mW];decide⟩
def vn:MV->Option (List Nat)
 |.tup [.str w,.str x]=>if w=pT then some x else none
 |_=>none
def LQ(x:Db):vn (.tup [.str pT,.str x])=some x:=by simp[vn]
def vU(S:Sto):fU (.val (.str pT)) (.val (.str pT)) S=.ok (.val (.bl true)) S:=by rw[eq_str,dT0 rfl]
def ON(S:Sto):fU (.val (.str IS)) (.val (.str pT)) S=.ok (.val (.bl false)) S:=by rw[eq_str,dF0 (by decide)]
def Bi(S:Sto):fU (.val (.str IS)) (.val (.str IS)) S=.ok (.val (.bl true)) S:=by rw[eq_str,dT0 rfl]
def zK(S:Sto)(o:MO):(S++[o])[S.length]? =some o:=by simp
def wX(S:Sto)(o o':MO):(S++[o]).set S.length o'=S++[o']:=by simp
def UK{fs:Ch}: ∀y∈fs.map MV.str,pd y=true/\JC y<40:=λd hd=>by obtain⟨u,_,rfl⟩:=mM.mp hd;exact⟨fN u,by rw[mW];decide⟩
def Ia{x:Db}{fs:Ch}:MV.str x∈fs.map MV.str↔x∈fs:=⟨λh=>by obtain⟨u,hu,e⟩:=mM.mp h;cases e;exact hu,λh=>mM.mpr ⟨x,h,rfl⟩⟩
theorem pI(a b:MV)(S:Sto):yX (.val (.tup [a,b])) (.val (.int 0)) S=.ok (.val a) S:=rfl
theorem lW(a b:MV)(S:Sto):yX (.val (.tup [a,b])) (.val (.int 1)) S=.ok (.val b) S:=rfl
def Bj{kvs:Xg}{k:MV}(h:(look kvs k).isSome=true):k∈kvs.map (·.1):=by unfold look at h;rw[Option.isSome_map]at h;obtain⟨p,hp⟩:=Option.isSome_iff_exists.mp h;have h1:=List.find?_some hp;exact mM.mpr ⟨p,List.mem_of_find?_eq_some hp,of_decide_eq_true h1⟩
def tup2(a b:MV)(S:Sto):nA [.val a,.val b] S=.ok (.val (.tup [a,b])) S:=rV (by simp)
theorem RR(ds:Xb)(S:Sto):Pw (.val (.tup ds)) S=.ok ⟨ds,[]⟩ S:=rfl
def lst1(a:MV)(S:Sto):gX [.val a] S=.ok (.new [a]) S:=oF (by simp)
def BC(ks:Ch)(x:Db):List (List Nat):=if x∈ks then ks else ks++[x]
def Bk(ks:Ch)(x y:Db):y∈BC ks x↔y∈ks\/y=x:=by
 unfold BC;split
 .rename_i h;exact⟨.inl,λz=>z.elim id λe=>e▸h⟩
 .rw[List.mem_append,mS]
def OO(ks:Ch)(x:Db):(BC ks x).length<=ks.length+1:=by
 unfold BC;split
 .omega
 .rw[lA,lS];omega
def BD(ks xs:Ch):List (List Nat):=xs.foldl BC ks
theorem OP: ∀(xs ks:Ch)(y:Db),y∈BD ks xs↔y∈ks\/y∈xs
 |[],ks,y=>by simp[BD]
 |x::xs,ks,y=>by show y∈BD (BC ks x) xs↔_;rw[OP xs,Bk,mC,or_assoc]
theorem FN: ∀(xs ks:Ch),(BD ks xs).length<=ks.length+xs.length
 |[],ks=>Nat.le_refl _
 |x::xs,ks=>by have h1:=FN xs (BC ks x);have h2:=OO ks x;show(BD (BC ks x) xs).length<=_;rw[lC];omega
def dT(ks:Ch):List (MV×MV):=ks.map λx=>(.str x,.bl true)
theorem UL(ks:Ch):(dT ks).map (·.1)=ks.map MV.str:=by unfold dT;rw[List.map_map];rfl
def Ib(ks:Ch)(x:Db):(look (dT ks) (.str x)).isSome=decide (x∈ks):=by
 by_cases h:x∈ks
 .rw[dT0 h];unfold look;rw[Option.isSome_map,List.find?_isSome];exact⟨(.str x,.bl true),mM.mpr ⟨x,h,rfl⟩,by simp⟩
 .rw[dF0 h]
  cases z:(look (dT ks) (.str x)).isSome with
  |false=>rfl
  |true=>
   have:=Bj z;rw[UL]at this;exact absurd (Ia.mp this) h
theorem Ou(ks:Ch)(x:Db):putK (dT ks) (.str x) (.bl true)=dT (BC ks x):=by
 unfold putK BC;rw[Ib];by_cases h:x∈ks
 .rw[iP h,iP (dT0 h)];unfold dT;rw[List.map_map];refine List.map_congr_left λy _=>?_;show(if MV.str y=MV.str x then(MV.str y,MV.bl true)else(MV.str y,MV.bl true))=_;split<;>rfl
 .rw[iN h,iN (by rw[dF0 h];exact xF0)];unfold dT;rw[List.map_append];rfl
theorem Kg(ks:Ch):(dT ks).all (λp=>uL p.1)=true:=by unfold dT;rw[all_map,List.all_eq_true];intro x _;rfl
def FO{S:Sto}{l:Nat}{kvs:Xg}(h:S[l]? =some (.dic kvs))(ha:kvs.all (λp=>uL p.1)=true):pA S (.val (.loc l))=some (l,kvs):=by unfold pA;dsimp only;rw[h];dsimp only;rw[iP ha]
def Ic{S:Sto}{l:Nat}{ks:Ch}(h:S[l]? =some (.dic (dT ks)))(hl:ks.length<1000000)(x:Db)(ρ:Rho):vM (.val (.loc l)) (.val (.str x)) (.bl true) ρ S=.ok ρ (S.set l (.dic (dT (BC ks x)))):=by unfold vM;dsimp only;rw[FO h (Kg ks)];dsimp only;rw[iP ⟨rfl,by unfold dT;rw[lM];exact hl⟩,Ou]
def Bl{S:Sto}{l:Nat}{ks:Ch}(h:S[l]? =some (.dic (dT ks))):rX [.val (.loc l)] S=.ok (.new (ks.map MV.str)) S:=by unfold rX;dsimp only;rw[FO h (Kg ks)];dsimp only;rw[UL]
theorem pK{α:Type}{f g:α->MV}{S:Sto}{gf:MV->Rho->Sto->R Rho}{cf:AZ}{ef:AX}{ρb:Rho}{gs:Xe}(hs:stay gs S):
  ∀{ds:List α},(∀d∈ds, ∃ρ1,gf (f d) ρb S=.ok ρ1 S/\cf ρ1 S=.ok true S/\ef ρ1 S=.ok (.val (g d)) S)->kO gf cf ef ρb gs (ds.map f) S=.ok (ds.map g) S
 |[],_=>rfl
 |d::ds,st=>by obtain⟨ρ1,h1,h2,h3⟩:=st d mF0;have e:=pK hs (f:=f) (g:=g) (ds:=ds) λd hd=>st d (mO _ hd);rw[List.map_cons];unfold kO;rw[h1,wR,cT,h2,wR,cT,iP rfl,h3,wR,cT];unfold jS;rw[cT,iP hs,e];rfl
def tF{α:Type}(ds:List α)(j:Nat):cN ds (some (j:Int)) none=ds.drop j:=by
 unfold cN;rw[HT.sIx_nat,show HT.sIx ds.length ds.length none=ds.length from rfl];by_cases h:j<=ds.length
 .rw[min_eq_left h,List.take_of_length_le (by rw[List.length_drop];exact Nat.le_refl _)]
 .rw[Nat.min_eq_right (by omega),List.drop_of_length_le (Nat.le_refl _),List.drop_of_length_le (show ds.length<=j by omega),List.take_nil]
def Id{α β:Type}(f:α->β)(xs:List α)(i:Int):tM (xs.map f) i=(tM xs i).map f:=by
 unfold tM;rw[lM]
 cases MW xs.length i with
 |none=>rfl
 |some j=>exact getElem?_map
def pL{α:Type}{xs:List α}{k:Nat}{x:α}(h:xs[k]? =some x):tM xs (k:Int)=some x:=L2.atI_nat h
abbrev yG(k:Nat):MV:=.int (k:Int)
def Ie{j k:Nat}(h:yG j=yG k):j=k:=by
 injection h with h
 exact Int.ofNat.inj h
def RT{n:Nat}(h:n<=1000)(S:Sto):dW [.val (.int (n:Int))] S=.ok ⟨(List.range n).map yG,[]⟩ S:=by rw[KM (by omega),Int.toNat_natCast]
def Sy(S:Sto):dW [.val (.int 5)] S=.ok ⟨(List.range 5).map yG,[]⟩ S:=RT (n:=5) (by decide) S
theorem FP{α:Type}{f:α->MV}{g:α->List MV}{gf:MV->Rho->Sto->R Rho}{cf:AZ}{ef:AX}{ρb:Rho}{S:Sto}: ∀(xs:List α),(∀x∈xs, ∀T, ∃ρ1,gf (f x) ρb (S++T)=.ok ρ1 (S++T)/\cf ρ1 (S++T)=.ok true (S++T)/\ef ρ1 (S++T)=.ok (.new (g x)) (S++T))->
  ∀T,kO gf cf ef ρb [] (xs.map f) (S++T)=.ok ((List.range' (S.length+T.length) xs.length).map MV.loc) (S++T++xs.map λx=>MO.lst (g x))
 |[],_,T=>by rw[List.map_nil,List.map_nil,aN];rfl
 |x::xs,h,T=>by obtain⟨ρ1,h1,h2,h3⟩:=h x mF0 T;have ih:=FP (f:=f) (g:=g) (gf:=gf) (cf:=cf) (ef:=ef) (ρb:=ρb) (S:=S) xs (λy hy=>h y (mO _ hy)) (T++[.lst (g x)]);rw[List.map_cons];unfold kO;rw[h1,wR,cT,h2,wR,cT,iP rfl,h3,wR,cT];unfold jS;rw[cT,iP (bF _),aA,ih,cT,lA,lA,lS,lC,List.range'_succ,List.map_cons,List.map_cons];simp only[aA,List.singleton_append,add_assoc]
theorem FQ{α:Type}{f g:α->MV}{p:α->Bool}{S:Sto}{gf:MV->Rho->Sto->R Rho}{cf:AZ}{ef:AX}{ρb:Rho}{gs:Xe}(hs:stay gs S):
  ∀{ds:List α},(∀d∈ds, ∃ρ1,gf (f d) ρb S=.ok ρ1 S/\cf ρ1 S=.ok (p d) S/\ef ρ1 S=.ok (.val (g d)) S)->kO gf cf ef ρb gs (ds.map f) S=.ok ((ds.filter p).map g) S
 |[],_=>rfl
 |d::ds,st=>by
  obtain⟨ρ1,h1,h2,h3⟩:=st d mF0;have e:=FQ hs (f:=f) (g:=g) (p:=p) (ds:=ds) λd hd=>st d (mO _ hd);rw[List.map_cons];unfold kO
  cases hp:p d with
  |true=>
   rw[h1,wR,cT,h2,wR,cT,hp,iP rfl,h3,wR,cT];unfold jS;rw[cT,iP hs,e,List.filter_cons_of_pos hp];rfl
  |false=>
   rw[h1,wR,cT,h2,wR,cT,hp,iN xF0,iP hs,e,List.filter_cons_of_neg (by rw[hp];exact xF0)]
def BE(S T:Sto)(o:MO):(S++o::T)[S.length]? =some o:=by simp
theorem RU(ds:Xb)(S:Sto):GR (.new ds) S=.ok ⟨ds,[]⟩ S:=rfl
theorem FR{n:Nat}{F:List MV->Sto->R Er}{rs:List Er}{S T:Sto}{kvs:Xg}(hn:rs.length=n)(hF:F (zM rs S).1 (zM rs S).2=.ok (.val (.loc S.length)) (S++.dic kvs::T)):zR n F rs S=.ok (.val (.loc S.length)) (S++.dic kvs::T):=by
 unfold zR;rw[iP hn,hF];show bD S (.val (.loc S.length)) (S++.dic kvs::T)=_;unfold bD;dsimp only;split
 .rw[iN (lt_irrefl _),BE]
 .rfl
def UM{S:Sto}{l:Nat}{ds:Xb}{d:MV}(h:S[l]? =some (.lst (ds++[d]))):BW (.val (.loc l)) [] S=.ok (.val d) (S.set l (.lst ds)):=by
 unfold BW;dsimp only;rw[h];dsimp only;have e1:(ds++[d])[(ds++[d]).length - 1]? =some d:=by simp
 have e2:(ds++[d]).eraseIdx ((ds++[d]).length - 1)=ds:=by rw[lA,lS,Nat.add_sub_cancel,List.eraseIdx_append_of_length_le (Nat.le_refl _),sub_self];exact aN _
 rw[e1,e2]
def DG{S:Sto}{l:Nat}{ds:Xb}(h:S[l]? =some (.lst ds)):NL (.val (.loc l)) S=.ok (!ds.isEmpty) S:=by unfold NL;dsimp only;rw[h]
def abc:List Nat:=[97,98,99,100,101,102,103,104,105,106,107,108,109,110,111,112,113,114,115,116,117,118,119,120,121,122]
def RV(i:Int)(S:Sto): ∃k,yX (.val (.str abc)) (.val (.int (i % 26))) S=.ok (.val (.str [k])) S:=by obtain⟨k,hk⟩:=CW (xs:=abc) (i:=i % 26) (eN _ (by decide)) (by have:=eL i (show(0:Int)<26 by decide);show i % 26<26;exact this);exact⟨k,ix_str (show abc.length<=sizeLine by rw[sizeLine_eq];decide) hk⟩
def Ig{x y:Db}(h:x.length+y.length<=1000)(S:Sto):wH (.val (.str x)) (.val (.str y)) S=.ok (.val (.str (x++y))) S:=add_str (fits (by omega))
abbrev NI(c:Int)(m:Xc)(x:Db)(o:Xc):Rho:=[some (.int c),some (.str abc),m,some (.str x),o]
theorem Bm(m:Xc)(S:Sto): ∀(ds:Xb)(c:Int)(x:Db)(o:Xc),x.length+ds.length<=900-> ∃c' x' o',xY (xD 4) nK [] ds (NI c m x o) S=.ok (.next (NI c' m x' o')) S/\x'.length=x.length+ds.length
 |[],c,x,o,_=>⟨c,x,o,rfl,rfl⟩
 |d::ds,c,x,o,h=>by
  rw[lC]at h;obtain⟨k,hk⟩:=RV c S;have e1:cI (NI c m x (some d)) S=.ok (.next (NI c m (x++[k]) (some d))) S:=by unfold cI;simp? [mod_lit (show(0:Int)<26 by decide),hk,Ig (x:=x) (y:=[k]) (by rw[lS];omega)]
  have e2:cJ (NI c m (x++[k]) (some d)) S=.ok (.next (NI (c / 26) m (x++[k]) (some d))) S:=by unfold cJ;simp? [yH (b:=26) (by decide) (by decide)]
  obtain⟨c',x',o',e,hl⟩:=Bm m S ds (c / 26) (x++[k]) (some d) (by rw[lA,lS];omega);refine⟨c',x',o',?_,by rw[hl,lA,lS,lC];omega⟩;rw[yI (ρ0:=NI c m x (some d)) rfl (by unfold nK;rw[zC e1];exact e2) (bF _)];exact e
theorem UN(c:Int)(S:Sto): ∃x c',zR 1 kX [.val (.int c)] S=.ok (.val (.tup [.str x,.int c'])) S/\x.length<=8:=by
 have h0:=eN c (show(8:Int)≠0 by decide);have h1:=eL c (show(0:Int)<8 by decide);obtain⟨c',x',o',e,hl⟩:=Bm (some (.int (1+c % 8))) S ((List.range (1+c % 8).toNat).map λk=>.int (k:Nat)) (c / 8) [] none (by rw[lM,length_range,List.length_nil];omega);rw[lM,length_range,List.length_nil]at hl;refine⟨x',c',?_,by omega⟩
 refine nF rfl ?_ (rR (gK λd hd=>by
  rcases mC.mp hd with rfl|hd
  .exact AS _ _
  .rw[mS.mp hd];exact uF _ _)) (λl=>by simp)
 show yU (iU [some (.int c),none,none,none,none] S)=_;have e1:nL [some (.int c),none,none,none,none] S=.ok (.next [some (.int c),some (.str abc),none,none,none]) S:=by unfold nL;simp? [cT];rfl
 have e2:nN [some (.int c),some (.str abc),none,none,none] S=.ok (.next [some (.int c),some (.str abc),some (.int (1+c % 8)),none,none]) S:=by unfold nN;simp? [mod_lit (show(0:Int)<8 by decide)]
 have e3:nO [some (.int c),some (.str abc),some (.int (1+c % 8)),none,none] S=.ok (.next [some (.int (c / 8)),some (.str abc),some (.int (1+c % 8)),none,none]) S:=by unfold nO;simp? [yH (b:=8) (by decide) (by decide)]
 have e4:nP [some (.int (c / 8)),some (.str abc),some (.int (1+c % 8)),none,none] S=.ok (.next (NI (c / 8) (some (.int (1+c % 8))) [] none)) S:=by unfold nP;simp? [cT]
 have e5:nQ (NI (c / 8) (some (.int (1+c % 8))) [] none) S=.ok (.next (NI c' (some (.int (1+c % 8))) x' o')) S:=by unfold nQ;simp? [KM (show -(2 ^ 62)<=(1+c % 8)/\(1+c % 8)<2 ^ 62 by omega)];exact e
 unfold iU;rw[zC e1,zC e2,zC e3,zC e4,zC e5];unfold pE;simp? [tup2];rfl
abbrev WD(c:Int)(l:Nat)(k w o:Xc):Rho:=[some (.int c),some (.int 5),some (.loc l),k,w,o]
abbrev Ws(ws:Ch):Prop:= ∀x∈ws,x.length<=8
theorem RW{c:Int}{k:Xc}{ws:Ch}(S:Sto): ∀(ds:Ch)(x:Db)(o:Xc),x.length<=8->(∀d∈ds,d.length=1)-> ∃x' o',xY (xD 5) xQ [] (ds.map MV.str) (WD c S.length k (some (.str x)) o) (S++[.lst (ws.map MV.str)])=.ok (.next (WD c S.length k (some (.str x')) o')) (S++[.lst (ws.map MV.str)])/\x'.length<=8
 |[],x,o,h,_=>⟨x,o,rfl,h⟩
 |d::ds,x,o,h,hd=>by
  have hd1:=hd d mF0;have hin:=vT false (zK S (.lst (ws.map MV.str))) (fN x) UK;rw[iN xF0]at hin;by_cases hm:MV.str x∈ws.map MV.str
  .rw[dT0 hm]at hin;have ht:(x.take 7).length<=7:=by rw[lT];omega
   obtain⟨x',o',e,hl⟩:=RW (c:=c) (k:=k) (ws:=ws) S ds (x.take 7++d) (some (.str d)) (by rw[lA];omega) (λy hy=>hd y (mO _ hy));refine⟨x',o',?_,hl⟩;rw[List.map_cons,yI (ρ0:=WD c S.length k (some (.str x)) (some (.str d))) (ρ':=WD c S.length k (some (.str (x.take 7++d))) (some (.str d))) (S':=S++[.lst (ws.map MV.str)]) rfl (by unfold xQ wK;simp? [hin,cut_str (fits (show x.length<=1000000 by omega)),qB x 7 (by decide),show(7:Int).toNat=7 from rfl,Ig (x:=x.take 7) (y:=d) (by omega)]) (bF _)];exact e
  .rw[dF0 hm]at hin;obtain⟨x',o',e,hl⟩:=RW (c:=c) (k:=k) (ws:=ws) S ds x (some (.str d)) h (λy hy=>hd y (mO _ hy));refine⟨x',o',?_,hl⟩;rw[List.map_cons,yI (ρ0:=WD c S.length k (some (.str x)) (some (.str d))) (ρ':=WD c S.length k (some (.str x)) (some (.str d))) (S':=S++[.lst (ws.map MV.str)]) rfl (by unfold xQ wK;simp? [hin,fT,iF]) (bF _)];exact e
def abj:List Nat:=[97,98,99,100,101,102,103,104,105,106]
theorem Bn(S:Sto): ∀(ds:Xb)(c:Int)(ws:Ch)(k w o:Xc),ws.length+ds.length<=100->Ws ws-> ∃c' ws' k' w' o',xY (xD 3) kL [] ds (WD c S.length k w o) (S++[.lst (ws.map MV.str)])=.ok (.next (WD c' S.length k' w' o')) (S++[.lst (ws'.map MV.str)])/\ws'.length=ws.length+ds.length/\Ws ws'
 |[],c,ws,k,w,o,_,h=>⟨c,ws,k,w,o,rfl,rfl,h⟩
 |d::ds,c,ws,k,w,o,hl,h=>by
  rw[lC]at hl;obtain⟨x,c1,e1,hx⟩:=UN c (S++[.lst (ws.map MV.str)]);have f1:wL (WD c S.length (some d) w o) (S++[.lst (ws.map MV.str)])=.ok (.next (WD c1 S.length (some d) (some (.str x)) o)) (S++[.lst (ws.map MV.str)]):=by unfold wL;simp? [e1,mV];rfl
  obtain⟨x',o',e2,hx'⟩:=RW (c:=c1) (k:=some d) (ws:=ws) S (abj.map λc=>[c]) x o hx (by decide);have f2:wM (WD c1 S.length (some d) (some (.str x)) o) (S++[.lst (ws.map MV.str)])=.ok (.next (WD c1 S.length (some d) (some (.str x')) o')) (S++[.lst (ws.map MV.str)]):=by unfold wM;simp? [cT];exact e2
  have f3:wN (WD c1 S.length (some d) (some (.str x')) o') (S++[.lst (ws.map MV.str)])=.ok (.next (WD c1 S.length (some d) (some (.str x')) o')) (S++[.lst ((ws++[x']).map MV.str)]):=by unfold wN;simp? [kR (zK S (.lst (ws.map MV.str))),hX (zK S (.lst (ws.map MV.str))) (show(ws.map MV.str).length<1000000 by rw[lM];omega),wX];rw[List.map_append];rfl
  obtain⟨c',ws',k',w',o'',e,g1,g2⟩:=Bn S ds c1 (ws++[x']) (some d) (some (.str x')) o' (by rw[lA,lS];omega) (λy hy=>by
   rcases List.mem_append.mp hy with hy|hy
   .exact h y hy
   .rw[mS.mp hy];exact hx')
  refine⟨c',ws',k',w',o'',?_,by rw[g1,lA,lS,lC];omega,g2⟩;rw[yI (ρ0:=WD c S.length (some d) w o) rfl (by unfold kL;rw[zC f1,zC f2];exact f3) (bF _)];exact e
def vV(ws:Ch)(n:Nat):pZ n (ws.map MV.str):=gK λd hd=>by obtain⟨x,_,rfl⟩:=mM.mp hd;exact AS _ _
theorem XB(c:Int)(S:Sto): ∃ws:List (List Nat),ws.length=5/\Ws ws/\zR 2 wA [.val (.int c),.val (.int 5)] S=.ok (.new (ws.map MV.str)) S:=by
 obtain⟨c',ws,k,w,o,e,hl,hw⟩:=Bn S ((List.range 5).map λk=>.int (k:Nat)) c [] none none none (by decide) (λx hx=>by simp at hx);refine⟨ws,hl,hw,?_⟩;refine eB (T:=[.lst (ws.map MV.str)]) rfl ?_ (Nat.le_refl _) (zK _ _) (vV _ _);show yU (jE [some (.int c),some (.int 5),none,none,none,none] S)=_;have e1:kM [some (.int c),some (.int 5),none,none,none,none] S=.ok (.next (WD c S.length none none none)) (S++[.lst []]):=by unfold kM;simp? [cT]
 have e2:kN (WD c S.length none none none) (S++[.lst []])=.ok (.next (WD c' S.length k w o)) (S++[.lst (ws.map MV.str)]):=by unfold kN;simp? [Sy];exact e
 unfold jE;rw[zC e1,zC e2];unfold bS;simp? [cT];rfl
abbrev WW(c:Int)(g s:Xc)(l:Nat)(k w j z:Xc):Rho:=[some (.int c),some (.int 5),some (.str abc),g,s,some (.loc l),k,w,j,z]
abbrev WV(c:Int)(a g s l:Xc):Rho:=[some (.int c),some (.int 5),a,g,s,l,none,none,none,none]
def Ih(c g s:Int)(l k j:Nat)(hj:j<100)(x:Db)(hx:x.length<=100)(z:Xc)(S:Sto): ∃a z',dE (WW c (some (.int g)) (some (.int s)) l (some (yG k)) (some (.str x)) (some (yG j)) z) S=.ok (.next (WW c (some (.int g)) (some (.int s)) l (some (yG k)) (some (.str (x++[a]))) (some (yG j)) z')) S:=by
 obtain⟨v,hv⟩: ∃v:Int,v=c / (49+5 * (j:Int))+(j:Int) * (c / 49 % 3):=⟨_,rfl⟩
 have e1:nR (WW c (some (.int g)) (some (.int s)) l (some (yG k)) (some (.str x)) (some (yG j)) z) S=.ok (.next (WW c (some (.int g)) (some (.int s)) l (some (yG k)) (some (.str x)) (some (yG j)) (some (.int v)))) S:=by unfold nR;simp? [eC (a:=5) (show -(2 ^ 64)<(5:Int)/\(5:Int)<2 ^ 64 by decide),yH (b:=49+5 * (j:Int)) (by omega) (by omega),yH (b:=49) (by decide) (by decide),mod_lit (show(0:Int)<3 by decide),eC (a:=(j:Int)) (show -(2 ^ 64)<(j:Int)/\(j:Int)<2 ^ 64 by omega)];rw[hv]
 obtain⟨u,e2⟩: ∃u:Int,nS (WW c (some (.int g)) (some (.int s)) l (some (yG k)) (some (.str x)) (some (yG j)) (some (.int v))) S=.ok (.next (WW c (some (.int g)) (some (.int s)) l (some (yG k)) (some (.str x)) (some (yG j)) (some (.int u)))) S:=by
  unfold nS;by_cases h:(j:Int)=s
  .refine⟨v+3 * (k:Int),?_⟩;simp? [h,decide_true,eC (a:=3) (show -(2 ^ 64)<(3:Int)/\(3:Int)<2 ^ 64 by decide)]
  .refine⟨v,?_⟩;simp? [h,decide_false,fT,iF]
 obtain⟨a,ha⟩:=RV u S;refine⟨a,some (.int u),?_⟩;unfold dE;rw[zC e1,zC e2];unfold pF;simp? [mod_lit (show(0:Int)<26 by decide),ha,Ig (x:=x) (y:=[a]) (by rw[lS];omega)]
theorem Bo(c g s:Int)(l k:Nat)(S:Sto): ∀(js:Db),(∀j∈js,j<100)-> ∀(x:Db)(j z:Xc),x.length+js.length<=100-> ∃x' j' z',xY (xD 8) dE [] (js.map yG) (WW c (some (.int g)) (some (.int s)) l (some (yG k)) (some (.str x)) j z) S=.ok (.next (WW c (some (.int g)) (some (.int s)) l (some (yG k)) (some (.str x')) j' z')) S/\x'.length=x.length+js.length
 |[],_,x,j,z,_=>⟨x,j,z,rfl,rfl⟩
 |i::js,hj,x,j,z,h=>by rw[lC]at h;obtain⟨a,z1,e1⟩:=Ih c g s l k i (hj i mF0) x (by omega) z S;obtain⟨x',j',z',e,hl⟩:=Bo c g s l k S js (λy hy=>hj y (mO _ hy)) (x++[a]) (some (yG i)) z1 (by rw[lA,lS];omega);refine⟨x',j',z',?_,by rw[hl,lA,lS,lC];omega⟩;rw[List.map_cons,yI (ρ0:=WW c (some (.int g)) (some (.int s)) l (some (yG k)) (some (.str x)) (some (yG i)) z) rfl e1 (bF _)];exact e
theorem Bp(c g s:Int)(hg:1<=g/\g<=7)(S:Sto): ∀(ks:Db)(ws:Ch)(k w j z:Xc),ws.length+ks.length<=100->(∀x∈ws,x.length<=7)-> ∃(ws':Ch)(k' w' j' z':Xc),xY (xD 6) iV [] (ks.map yG) (WW c (some (.int g)) (some (.int s)) S.length k w j z) (S++[.lst (ws.map MV.str)])=.ok (.next (WW c (some (.int g)) (some (.int s)) S.length k' w' j' z')) (S++[.lst (ws'.map MV.str)])/\ws'.length=ws.length+ks.length/\ ∀x∈ws',x.length<=7
 |[],ws,k,w,j,z,_,h=>⟨ws,k,w,j,z,rfl,rfl,h⟩
 |i::ks,ws,k,w,j,z,hl,h=>by
  rw[lC]at hl;have f1:nT (WW c (some (.int g)) (some (.int s)) S.length (some (yG i)) w j z) (S++[.lst (ws.map MV.str)])=.ok (.next (WW c (some (.int g)) (some (.int s)) S.length (some (yG i)) (some (.str [])) j z)) (S++[.lst (ws.map MV.str)]):=by unfold nT;simp? [cT]
  obtain⟨x,j1,z1,e2,hx⟩:=Bo c g s S.length i (S++[.lst (ws.map MV.str)]) (List.range g.toNat) (λy hy=>by have:=mem_range.mp hy;omega) [] j z (by rw[List.length_nil,length_range];omega);rw[List.length_nil,length_range]at hx;have f2:nU (WW c (some (.int g)) (some (.int s)) S.length (some (yG i)) (some (.str [])) j z) (S++[.lst (ws.map MV.str)])=.ok (.next (WW c (some (.int g)) (some (.int s)) S.length (some (yG i)) (some (.str x)) j1 z1)) (S++[.lst (ws.map MV.str)]):=by unfold nU;simp? [KM (show -(2 ^ 62)<=g/\g<2 ^ 62 by omega)];exact e2
  have f3:nV (WW c (some (.int g)) (some (.int s)) S.length (some (yG i)) (some (.str x)) j1 z1) (S++[.lst (ws.map MV.str)])=.ok (.next (WW c (some (.int g)) (some (.int s)) S.length (some (yG i)) (some (.str x)) j1 z1)) (S++[.lst ((ws++[x]).map MV.str)]):=by unfold nV;simp? [kR (zK S (.lst (ws.map MV.str))),hX (zK S (.lst (ws.map MV.str))) (show(ws.map MV.str).length<1000000 by rw[lM];omega),wX];rw[List.map_append];rfl
  obtain⟨ws',k',w',j',z',e,g1,g2⟩:=Bp c g s hg S ks (ws++[x]) (some (yG i)) (some (.str x)) j1 z1 (by rw[lA,lS];omega) (λy hy=>by
   rcases List.mem_append.mp hy with hy|hy
   .exact h y hy
   .rw[mS.mp hy];omega)
  refine⟨ws',k',w',j',z',?_,by rw[g1,lA,lS,lC];omega,g2⟩;rw[List.map_cons,yI (ρ0:=WW c (some (.int g)) (some (.int s)) S.length (some (yG i)) w j z) rfl (by unfold iV;rw[zC f1,zC f2];exact f3) (bF _)];exact e
theorem Bq(c:Int)(S:Sto): ∃ws:List (List Nat),ws.length=5/\Ws ws/\zR 2 iB [.val (.int c),.val (.int 5)] S=.ok (.new (ws.map MV.str)) S:=by
 by_cases h2:c % 2=0
 .obtain⟨ws,hl,hw,e⟩:=XB (c / 2) S;refine⟨ws,hl,hw,?_⟩;refine rS (T:=[]) rfl ?_ (vV _ _);rw[aN];show yU (dF (WV c none none none none) S)=_;have e1:gN (WV c none none none none) S=.ok (.ret (.new (ws.map MV.str))) S:=by unfold gN;simp? [mod_lit (show(0:Int)<2 by decide),h2,decide_true,yH (b:=2) (by decide) (by decide),e]
  unfold dF;rw[wW e1];rfl
 .obtain⟨d,hd⟩: ∃d:Int,d=c * 69621 % 2147483629 * 48271 % 2147483647:=⟨_,rfl⟩
  have h0:=eN d (show(7:Int)≠0 by decide);have h1:=eL d (show(0:Int)<7 by decide);obtain⟨g,hg⟩: ∃g:Int,g=1+d % 7:=⟨_,rfl⟩
  obtain⟨s,hs⟩: ∃s:Int,s=d / 7 % g:=⟨_,rfl⟩
  obtain⟨ws,k,w,j,z,e7,hl,hw⟩:=Bp d g s (by omega) S (List.range 5) [] none none none none (by decide) (λx hx=>by simp at hx);have hl:ws.length=5:=hl;have f1:gN (WV c none none none none) S=.ok (.next (WV c none none none none)) S:=by unfold gN;simp? [mod_lit (show(0:Int)<2 by decide),h2,decide_false,fT,iF]
  have f2:iW (WV c none none none none) S=.ok (.next (WV c (some (.str abc)) none none none)) S:=by unfold iW;simp? [cT];rfl
  have f3:iY (WV c (some (.str abc)) none none none) S=.ok (.next (WV d (some (.str abc)) none none none)) S:=by unfold iY;simp? [CV (show -(2 ^ 64)<(69621:Int)/\(69621:Int)<2 ^ 64 by decide),mod_lit (show(0:Int)<2147483629 by decide),CV (show -(2 ^ 64)<(48271:Int)/\(48271:Int)<2 ^ 64 by decide),mod_lit (show(0:Int)<2147483647 by decide)];rw[hd]
  have f4:iZ (WV d (some (.str abc)) none none none) S=.ok (.next (WV d (some (.str abc)) (some (.int g)) none none)) S:=by unfold iZ;simp? [mod_lit (show(0:Int)<7 by decide)];rw[hg]
  have f5:lB (WV d (some (.str abc)) (some (.int g)) none none) S=.ok (.next (WV d (some (.str abc)) (some (.int g)) (some (.int s)) none)) S:=by unfold lB;simp? [yH (b:=7) (by decide) (by decide),mod_lit (show(0:Int)<g by omega)];rw[hs]
  have f6:lD (WV d (some (.str abc)) (some (.int g)) (some (.int s)) none) S=.ok (.next (WW d (some (.int g)) (some (.int s)) S.length none none none none)) (S++[.lst []]):=by unfold lD;simp? [cT]
  have f7:lE (WW d (some (.int g)) (some (.int s)) S.length none none none none) (S++[.lst []])=.ok (.next (WW d (some (.int g)) (some (.int s)) S.length k w j z)) (S++[.lst (ws.map MV.str)]):=by unfold lE;simp? [Sy];exact e7
  obtain⟨ws',e8,hl',hw'⟩: ∃ws':List (List Nat),lF (WW d (some (.int g)) (some (.int s)) S.length k w j z) (S++[.lst (ws.map MV.str)])=.ok (.next (WW d (some (.int g)) (some (.int s)) S.length k w j z)) (S++[.lst (ws'.map MV.str)])/\ws'.length=5/\Ws ws':=by
   unfold lF;by_cases h4:d / 49 % 4=1
   .obtain⟨a,ha⟩:=RV (d / 196) (S++[.lst (ws.map MV.str)]);have hx:ws[0]? =some (ws[0]'(by omega)):=gE _;have hx7:=hw _ (getElem_mem (show 0<ws.length by omega));have hix:yX (.val (.loc S.length)) (.val (.int 0)) (S++[.lst (ws.map MV.str)])=.ok (.val (.str ws[0])) (S++[.lst (ws.map MV.str)]):=cU (zK _ _) (pL (k:=0) (by rw[getElem?_map,hx];rfl));refine⟨ws.set 1 (ws[0]++[a]),?_,by rw[List.length_set];exact hl,λy hy=>?_⟩
    .simp? [yH (b:=49) (by decide) (by decide),mod_lit (show(0:Int)<4 by decide),h4,decide_true,hix,yH (b:=196) (by decide) (by decide),mod_lit (show(0:Int)<26 by decide),ha,Ig (x:=ws[0]) (y:=[a]) (by rw[lS];omega),mV,Bg (k:=1) (j:=1) (zK S (.lst (ws.map MV.str))) (by unfold MW;rw[lM,hl];rfl),wX];rw[List.map_set]
    .rcases List.mem_or_eq_of_mem_set hy with hy|rfl
     .have:=hw y hy;omega
     .rw[lA,lS];omega
   .refine⟨ws,?_,hl,λy hy=>by have:=hw y hy;omega⟩;simp? [yH (b:=49) (by decide) (by decide),mod_lit (show(0:Int)<4 by decide),h4,decide_false,fT,iF]
  refine⟨ws',hl',hw',?_⟩;refine eB (T:=[.lst (ws'.map MV.str)]) rfl ?_ (Nat.le_refl _) (zK _ _) (vV _ _);show yU (dF (WV c none none none none) S)=_;unfold dF;rw[zC f1,zC f2,zC f3,zC f4,zC f5,zC f6,zC f7,zC e8];unfold sK;simp? [cT];rfl
def vW{S:Sto}{l:Nat}{ds:Xb}(hS:S[l]? =some (.lst ds))(a b:Vi):mL (.val (.loc l)) a b S=.ok (.new (cN ds a b)) S:=by show(match eA S (.val (.loc l))with |some ds=>R.ok (Er.new (cN ds a b)) S|none=>.no)=_;rw[iL hS]
theorem LR(ds:Xb)(a b:Vi)(S:Sto):mL (.new ds) a b S=.ok (.new (cN ds a b)) S:=rfl
def UO(ns:Uj)(n:Nat):pZ n (ns.map MV.int):=gK λd hd=>by obtain⟨x,_,rfl⟩:=mM.mp hd;exact uF _ _
abbrev DW(c:Int)(m l:Nat)(r k n:Xc):Rho:=[some (.int c),some (yG m),some (.loc l),r,k,n]
theorem UP(c:Int)(m:Nat)(n:Xc)(S:Sto): ∀(ks:Xb)(ns:Uj)(r:Int)(k:Xc),ns.length+ks.length<=100-> ∃(ns':Uj)(r':Int)(k':Xc),xY (xD 4) dG [] ks (DW c m S.length (some (.int r)) k n) (S++[.lst (ns.map MV.int)])=.ok (.next (DW c m S.length (some (.int r')) k' n)) (S++[.lst (ns'.map MV.int)])/\ns'.length=ns.length+ks.length
 |[],ns,r,k,_=>⟨ns,r,k,rfl,rfl⟩
 |d::ks,ns,r,k,h=>by
  rw[lC]at h;have f1:nW (DW c m S.length (some (.int r)) (some d) n) (S++[.lst (ns.map MV.int)])=.ok (.next (DW c m S.length (some (.int r)) (some d) n)) (S++[.lst ((ns++[r % 1000000]).map MV.int)]):=by unfold nW;simp? [kR (zK S (.lst (ns.map MV.int))),mod_lit (show(0:Int)<1000000 by decide),hX (zK S (.lst (ns.map MV.int))) (show(ns.map MV.int).length<1000000 by rw[lM];omega),wX];rw[List.map_append];rfl
  have f2:nY (DW c m S.length (some (.int r)) (some d) n) (S++[.lst ((ns++[r % 1000000]).map MV.int)])=.ok (.next (DW c m S.length (some (.int (r / 1000000))) (some d) n)) (S++[.lst ((ns++[r % 1000000]).map MV.int)]):=by unfold nY;simp? [yH (b:=1000000) (by decide) (by decide)]
  obtain⟨ns',r',k',e,hl⟩:=UP c m n S ks (ns++[r % 1000000]) (r / 1000000) (some d) (by rw[lA,lS];omega);refine⟨ns',r',k',?_,by rw[hl,lA,lS,lC];omega⟩;rw[yI (ρ0:=DW c m S.length (some (.int r)) (some d) n) rfl (by unfold dG;rw[zC f1];exact f2) (bF _)];exact e
theorem UQ(c:Int)(m:Nat)(r:Xc)(S:Sto): ∀(ks:Db)(ns:Uj)(n:Int)(k:Xc),ns.length+ks.length<=100->0<=n/\n<4294967296-> ∃(ns':Uj)(n':Int)(k':Xc),xY (xD 4) lG [] (ks.map yG) (DW c m S.length r k (some (.int n))) (S++[.lst (ns.map MV.int)])=.ok (.next (DW c m S.length r k' (some (.int n')))) (S++[.lst (ns'.map MV.int)])/\ns'.length=ns.length+ks.length
 |[],ns,n,k,_,_=>⟨ns,n,k,rfl,rfl⟩
 |d::ks,ns,n,k,h,hn=>by
  rw[lC]at h;obtain⟨v,hv⟩: ∃v:Int,v=(n * n+48271 * n+(d:Int)) % 2147483647:=⟨_,rfl⟩
  have hv0:0<=v/\v<4294967296:=by have h1:=eN (n * n+48271 * n+(d:Int)) (show(2147483647:Int)≠0 by decide);have h2:=eL (n * n+48271 * n+(d:Int)) (show(0:Int)<2147483647 by decide);omega
  have f1:nZ (DW c m S.length r (some (yG d)) (some (.int n))) (S++[.lst (ns.map MV.int)])=.ok (.next (DW c m S.length r (some (yG d)) (some (.int v)))) (S++[.lst (ns.map MV.int)]):=by unfold nZ;simp? [eC (a:=n) (show -(2 ^ 64)<n/\n<2 ^ 64 by omega),eC (a:=48271) (show -(2 ^ 64)<(48271:Int)/\(48271:Int)<2 ^ 64 by decide),mod_lit (show(0:Int)<2147483647 by decide)];rw[hv]
  obtain⟨u,hu⟩: ∃u:Int,u=v * 69621 % 2147483587 / 16:=⟨_,rfl⟩
  have f2:aB (DW c m S.length r (some (yG d)) (some (.int v))) (S++[.lst (ns.map MV.int)])=.ok (.next (DW c m S.length r (some (yG d)) (some (.int v)))) (S++[.lst ((ns++[u]).map MV.int)]):=by unfold aB;simp? [kR (zK S (.lst (ns.map MV.int))),CV (show -(2 ^ 64)<(69621:Int)/\(69621:Int)<2 ^ 64 by decide),mod_lit (show(0:Int)<2147483587 by decide),yH (b:=16) (by decide) (by decide),hX (zK S (.lst (ns.map MV.int))) (show(ns.map MV.int).length<1000000 by rw[lM];omega),wX];rw[List.map_append,hu];rfl
  obtain⟨ns',n',k',e,hl⟩:=UQ c m r S ks (ns++[u]) v (some (yG d)) (by rw[lA,lS];omega) hv0;refine⟨ns',n',k',?_,by rw[hl,lA,lS,lC];omega⟩;rw[List.map_cons,yI (ρ0:=DW c m S.length r (some (yG d)) (some (.int n))) rfl (by unfold lG;rw[zC f1];exact f2) (bF _)];exact e
theorem FS(c:Int){m:Nat}(hm:m<=10)(S:Sto): ∃ns:List Int,ns.length=m/\zR 2 yT [.val (.int c),.val (yG m)] S=.ok (.new (ns.map MV.int)) S:=by
 have f1:lH [some (.int c),some (yG m),none,none,none,none] S=.ok (.next (DW c m S.length none none none)) (S++[.lst []]):=by unfold lH;simp? [cT]
 by_cases h2:c % 2=0
 .obtain⟨ns,r',k',e,hl⟩:=UP c m none S ((List.range m).map λk=>.int (k:Nat)) [] (c / 2) none (by rw[lM,length_range,List.length_nil];omega);rw[lM,length_range,List.length_nil,Nat.zero_add]at hl;refine⟨ns,hl,?_⟩;refine eB (T:=[.lst (ns.map MV.int)]) rfl ?_ (Nat.le_refl _) (zK _ _) (UO _ _);show yU (dH [some (.int c),some (yG m),none,none,none,none] S)=_;have e1:(CJ (dJ gI (vJ 0) (kJ (.int 2))) 3) (DW c m S.length none none none) (S++[.lst []])=.ok (.next (DW c m S.length (some (.int (c / 2))) none none)) (S++[.lst []]):=by simp? [yH (b:=2) (by decide) (by decide)]
  have e2:(FJ (bJ (yJ (vJ 1) wJ) dW) (xD 4) (dG)) (DW c m S.length (some (.int (c / 2))) none none) (S++[.lst []])=.ok (.next (DW c m S.length (some (.int r')) k' none)) (S++[.lst (ns.map MV.int)]):=by simp? [RT (n:=m) (by omega)];exact e
  have f2:gO (DW c m S.length none none none) (S++[.lst []])=.ok (.ret (.val (.loc S.length))) (S++[.lst (ns.map MV.int)]):=by unfold gO;simp? [mod_lit (show(0:Int)<2 by decide),h2,decide_true];rw[zC e1,zC e2];rfl
  unfold dH;rw[zC f1,wW f2];rfl
 .have h3:=eN c (show(2147483629:Int)≠0 by decide);have h4:=eL c (show(0:Int)<2147483629 by decide);obtain⟨ns,n',k',e,hl⟩:=UQ c m none S (List.range m) [] (c % 2147483629+1) none (by rw[length_range,List.length_nil];omega) (by omega);rw[length_range,List.length_nil,Nat.zero_add]at hl;refine⟨ns,hl,?_⟩;refine eB (T:=[.lst (ns.map MV.int)]) rfl ?_ (Nat.le_refl _) (zK _ _) (UO _ _);show yU (dH [some (.int c),some (yG m),none,none,none,none] S)=_;have f2:gO (DW c m S.length none none none) (S++[.lst []])=.ok (.next (DW c m S.length none none none)) (S++[.lst []]):=by unfold gO;simp? [mod_lit (show(0:Int)<2 by decide),h2,decide_false,fT,iF]
  have f3:lI (DW c m S.length none none none) (S++[.lst []])=.ok (.next (DW c m S.length none none (some (.int (c % 2147483629+1))))) (S++[.lst []]):=by unfold lI;simp? [mod_lit (show(0:Int)<2147483629 by decide)]
  have f4:lK (DW c m S.length none none (some (.int (c % 2147483629+1)))) (S++[.lst []])=.ok (.next (DW c m S.length none k' (some (.int n')))) (S++[.lst (ns.map MV.int)]):=by unfold lK;simp? [RT (n:=m) (by omega)];exact e
  unfold dH;rw[zC f1,zC f2,zC f3,zC f4];rfl
abbrev TB(c:Int)(l:Nat)(n w:Xc):Rho:=[some (.int c),some (.loc l),some (.loc (l+1)),n,w]
theorem Br(c:Int)(S:Sto)(o:MO): ∀(ns:Uj)(ts:Tk)(n w:Xc),ts.length+ns.length<=100->(∀p∈ts,1<=p.1/\p.1<=4/\0<=p.2/\p.2<=p.1)-> ∃(ts':Tk)(n' w':Xc),xY (xD 3) fD [] (ns.map MV.int) (TB c S.length n w) (S++[o]++[.lst (ts.map tbl)])=.ok (.next (TB c S.length n' w')) (S++[o]++[.lst (ts'.map tbl)])/\ts'.length=ts.length+ns.length/\ ∀p∈ts',1<=p.1/\p.1<=4/\0<=p.2/\p.2<=p.1
 |[],ts,n,w,_,h=>⟨ts,n,w,rfl,rfl,h⟩
 |d::ns,ts,n,w,hl,h=>by
  rw[lC]at hl;obtain⟨v,hv⟩: ∃v:Int,v=1+d % 3+(if decide (d / 3 % 5=0)=true then 1 else 0):=⟨_,rfl⟩
  have hv1:1<=v/\v<=4:=by have h1:=eN d (show(3:Int)≠0 by decide);have h2:=eL d (show(0:Int)<3 by decide);rw[hv];split<;>omega
  have f1:dN (TB c S.length (some (.int d)) w) (S++[o]++[.lst (ts.map tbl)])=.ok (.next (TB c S.length (some (.int d)) (some (.int v)))) (S++[o]++[.lst (ts.map tbl)]):=by unfold dN;simp? [mod_lit (show(0:Int)<3 by decide),yH (b:=3) (by decide) (by decide),mod_lit (show(0:Int)<5 by decide),show∀b S,WN [.val (.bl b)] S=.ok (.val (.int (if b then 1 else 0))) S from λ_ _=>rfl];rw[hv]
  obtain⟨z,hz⟩:=CW (xs:=([0,1,1,1,2,4]:Uj)) (i:=d / 15 % 6) (eN _ (by decide)) (by have:=eL (d / 15) (show(0:Int)<6 by decide);show d / 15 % 6<6;exact this);have hz0:0<=z:=KI (P:=λz:Int=>0<=z) (by decide) hz;have hix: ∀S:Sto,yX (.new [.int 0,.int 1,.int 1,.int 1,.int 2,.int 4]) (.val (.int (d / 15 % 6))) S=.ok (.val (.int z)) S:=λS=>Nu (by have:=Id MV.int [0,1,1,1,2,4] (d / 15 % 6);rw[hz]at this;exact this);have hS1:S.length+1=(S++[o]).length:=by rw[lA,lS]
  obtain⟨y,hy⟩: ∃y:Int,y=if z<v then z else v:=⟨_,rfl⟩
  have hat:(S++[o]++[.lst (ts.map tbl)])[S.length+1]? =some (.lst (ts.map tbl)):=by rw[hS1];exact zK _ _
  have f2:dO (TB c S.length (some (.int d)) (some (.int v))) (S++[o]++[.lst (ts.map tbl)])=.ok (.next (TB c S.length (some (.int d)) (some (.int v)))) (S++[o]++[.lst ((ts++[(v,y)]).map tbl)]):=by unfold dO;simp? [kR hat,yH (b:=15) (by decide) (by decide),mod_lit (show(0:Int)<6 by decide),hix,show∀i j S,RH [.val (.int i),.val (.int j)] S=.ok (.val (.int (if j<i then j else i))) S from λ_ _ _=>rfl, <-hy,tup2,hX hat (show(ts.map tbl).length<1000000 by rw[lM];omega)];rw[hS1,wX,List.map_append];rfl
  obtain⟨ts',n',w',e,g1,g2⟩:=Br c S o ns (ts++[(v,y)]) (some (.int d)) (some (.int v)) (by rw[lA,lS];omega) (λp hp=>by
   rcases List.mem_append.mp hp with hp|hp
   .exact h p hp
   .rw[mS.mp hp];refine⟨hv1.1,hv1.2,?_⟩;show 0<=y/\y<=v;rw[hy];split<;>omega)
  refine⟨ts',n',w',?_,by rw[g1,lA,lS,lC];omega,g2⟩;rw[List.map_cons,yI (ρ0:=TB c S.length (some (.int d)) w) rfl (by unfold fD;rw[zC f1];exact f2) (bF _)];exact e
def Ov(ts:Tk)(n:Nat):lo n (.tup (ts.map tbl)):=rR (gK λd hd=>by
 obtain⟨p,_,rfl⟩:=mM.mp hd
 exact rR (gK λd hd=>by
  rcases mC.mp hd with rfl|hd
  .exact uF _ _
  .rw[mS.mp hd];exact uF _ _))
theorem XC(c:Int)(S:Sto): ∃ts:List (Int×Int),(1<=ts.length/\ts.length<=4)/\(∀p∈ts,1<=p.1/\p.1<=4/\0<=p.2/\p.2<=p.1)/\zR 1 aU [.val (.int c)] S=.ok (.val (.tup (ts.map tbl))) S:=by
 obtain⟨ns,hn,e1⟩:=FS c (show 5<=10 by decide) S;obtain⟨v,hv⟩: ∃v,ns[4]? =some v:=⟨_,gE (show 4<ns.length by omega)⟩
 have h1:=eN v (show(4:Int)≠0 by decide);have h2:=eL v (show(0:Int)<4 by decide);obtain⟨ts,n',w',e,hl,hp⟩:=Br c S (.lst (ns.map MV.int)) (ns.take (1+v % 4).toNat) [] none none (by rw[lT,List.length_nil];omega) (λp hp=>by simp at hp);rw[lT,List.length_nil]at hl;refine⟨ts,by omega,hp,?_⟩;have hS1:S.length+1=(S++[MO.lst (ns.map MV.int)]).length:=by rw[lA,lS]
 refine oY (T:=[.lst (ns.map MV.int)]++[.lst (ts.map tbl)]) rfl ?_ (Ov _ _) (λl=>by simp);show yU (oM [some (.int c),none,none,none,none] S)=_;have f1:fE [some (.int c),none,none,none,none] S=.ok (.next [some (.int c),some (.loc S.length),none,none,none]) (S++[.lst (ns.map MV.int)]):=by unfold fE;simp? [show∀S,zR 2 yT [.val (.int c),.val (.int 5)] S=zR 2 yT [.val (.int c),.val (yG 5)] S from λ_=>rfl,e1]
 have f2:fF [some (.int c),some (.loc S.length),none,none,none] (S++[.lst (ns.map MV.int)])=.ok (.next (TB c S.length none none)) (S++[.lst (ns.map MV.int)]++[.lst []]):=by unfold fF;simp? [cT];rw[<-hS1]
 have hat:(S++[.lst (ns.map MV.int)]++[.lst []])[S.length]? =some (.lst (ns.map MV.int)):=by rw[getElem?_append_left (by rw[lA,lS];omega)];exact zK _ _
 have hix:yX (.val (.loc S.length)) (.val (.int 4)) (S++[.lst (ns.map MV.int)]++[.lst []])=.ok (.val (.int v)) (S++[.lst (ns.map MV.int)]++[.lst []]):=cU hat (pL (k:=4) (by rw[getElem?_map,hv];rfl));have f3:fG (TB c S.length none none) (S++[.lst (ns.map MV.int)]++[.lst []])=.ok (.next (TB c S.length n' w')) (S++[.lst (ns.map MV.int)]++[.lst (ts.map tbl)]):=by unfold fG;simp? [hix,mod_lit (show(0:Int)<4 by decide),vW hat,qB _ (1+v % 4) (by omega),RU];rw[<-map_take];exact e
 have hat2:(S++[.lst (ns.map MV.int)]++[.lst (ts.map tbl)])[S.length+1]? =some (.lst (ts.map tbl)):=by rw[hS1];exact zK _ _
 unfold oM;rw[zC f1,zC f2,zC f3];unfold rC;simp? [tD hat2];rw[aA];rfl
abbrev VS(v:MV):Prop:=(∃i,v=.int i)\/ ∃x,v=.str x
def gA{v:MV}(h:VS v):pd v=true/\JC v<40:=by
 rcases h with⟨i,rfl⟩|⟨x,rfl⟩
 .exact⟨LN i,by rw[DE];decide⟩
 .exact⟨fN x,by rw[mW];decide⟩
def Kh{vs:Xb}(h: ∀v∈vs,VS v)(n:Nat):pZ n vs:=gK λd hd=>CA (gA (h d hd)).1
abbrev VV(c:Int)(l:Nat)(r m f k v n p t:Xc):Rho:=[some (.int c),some (.loc l),r,m,f,k,v,n,p,t]
abbrev VW(c:Int)(lw:Nat)(r m:Xc)(lf:Nat)(k v:Xc):Rho:=[some (.int c),some (.loc lw),r,m,some (.loc lf),k,v,none,none,none]
def Ii(c:Int)(lw:Nat)(m:Xc)(S:Sto){vs:Xb}(hl:vs.length<=100)(h: ∀v∈vs,VS v)(r:Int)(k v:Xc): ∃(vs':Xb)(r':Int)(v':Xc),wU (VW c lw (some (.int r)) m S.length k v) (S++[.lst vs])=.ok (.next (VW c lw (some (.int r')) m S.length k v')) (S++[.lst vs'])/\vs'≠[]/\vs'.length<=vs.length+1/\ ∀v∈vs',VS v:=by
 obtain⟨x,r1,e1,_⟩:=UN (r / 2) (S++[.lst vs]);have f1:dI (VW c lw (some (.int r)) m S.length k v) (S++[.lst vs])=.ok (.next (VW c lw (some (.int r1)) m S.length k (some (.str x)))) (S++[.lst vs]):=by unfold dI;simp? [yH (b:=2) (by decide) (by decide),e1,mV];rfl
 obtain⟨r2,u,f2,hu⟩: ∃(r2:Int)(u:MV),jZ (VW c lw (some (.int r1)) m S.length k (some (.str x))) (S++[.lst vs])=.ok (.next (VW c lw (some (.int r2)) m S.length k (some u))) (S++[.lst vs])/\VS u:=by
  by_cases h2:r1 % 2=1
  .have hp: ∀S:Sto,CI (.val (.int 10)) (.val (.int 30)) S=.ok (.val (.int (10 ^ 30))) S:=λS=>TU (by unfold WI;decide+kernel) S;have hd:QV 0 (2 * 10 ^ 30 - 1):=by unfold QV;decide+kernel
   refine⟨r1 / (2 * 10 ^ 30 - 1),.int (r1 / 2 % (2 * 10 ^ 30 - 1) - 10 ^ 30+1),?_,.inl ⟨_,rfl⟩⟩;have g1:(CJ (dJ wH (dJ AR (dJ xW (dJ gI (vJ 2) (kJ (.int 2))) (dJ AR (dJ iK (kJ (.int 2)) (dJ CI (kJ (.int 10)) (kJ (.int 30)))) (kJ (.int 1)))) (dJ CI (kJ (.int 10)) (kJ (.int 30)))) (kJ (.int 1))) 6) (VW c lw (some (.int r1)) m S.length k (some (.str x))) (S++[.lst vs])=.ok (.next (VW c lw (some (.int r1)) m S.length k (some (.int (r1 / 2 % (2 * 10 ^ 30 - 1) - 10 ^ 30+1))))) (S++[.lst vs]):=by simp? [yH (b:=2) (by decide) (by decide),hp,eC (a:=2) (show -(2 ^ 64)<(2:Int)/\(2:Int)<2 ^ 64 by decide),mod_lit (b:=2 * 10 ^ 30 - 1) (by decide)]
   have g2:(CJ (dJ gI (vJ 2) (dJ AR (dJ iK (kJ (.int 2)) (dJ CI (kJ (.int 10)) (kJ (.int 30)))) (kJ (.int 1)))) 2) (VW c lw (some (.int r1)) m S.length k (some (.int (r1 / 2 % (2 * 10 ^ 30 - 1) - 10 ^ 30+1)))) (S++[.lst vs])=.ok (.next (VW c lw (some (.int (r1 / (2 * 10 ^ 30 - 1)))) m S.length k (some (.int (r1 / 2 % (2 * 10 ^ 30 - 1) - 10 ^ 30+1))))) (S++[.lst vs]):=by simp? [hp,eC (a:=2) (show -(2 ^ 64)<(2:Int)/\(2:Int)<2 ^ 64 by decide),Hy hd]
   unfold jZ;simp? [mod_lit (show(0:Int)<2 by decide),h2,decide_true];rw[zC g1];exact g2
  .refine⟨r1,.str x,?_,.inr ⟨x,rfl⟩⟩;unfold jZ;simp? [mod_lit (show(0:Int)<2 by decide),h2,decide_false,fT,iF]
 have hin:=vT true (zK S (.lst vs)) (gA hu).1 λy hy=>gA (h y hy);rw[iP rfl]at hin;by_cases hm:u∈vs
 .rw[dT0 hm]at hin;refine⟨vs,r2,some u,?_,λz=>by rw[z]at hm;simp at hm,by omega,h⟩;unfold wU;rw[zC f1,zC f2];unfold dL;simp? [hin,Bool.not_true,fT,iF]
 .rw[dF0 hm]at hin;refine⟨vs++[u],r2,some u,?_,by simp,by rw[lA,lS];exact Nat.le_refl _,λy hy=>?_⟩
  .unfold wU;rw[zC f1,zC f2];unfold dL;simp? [hin,Bool.not_false,kR (zK S (.lst vs)),hX (zK S (.lst vs)) (show vs.length<1000000 by omega),wX]
  .rcases List.mem_append.mp hy with hy|hy
   .exact h y hy
   .rw[mS.mp hy];exact hu
theorem Bs(c:Int)(lw:Nat)(m:Xc)(S:Sto): ∀(ds:Xb)(vs:Xb)(r:Int)(k v:Xc),vs.length+ds.length<=100->(vs≠[]\/ds≠[])->(∀v∈vs,VS v)-> ∃(vs':Xb)(r':Int)(k' v':Xc),xY (xD 5) wU [] ds (VW c lw (some (.int r)) m S.length k v) (S++[.lst vs])=.ok (.next (VW c lw (some (.int r')) m S.length k' v')) (S++[.lst vs'])/\vs'≠[]/\vs'.length<=vs.length+ds.length/\ ∀v∈vs',VS v
 |[],vs,r,k,v,_,hne,h=>⟨vs,r,k,v,rfl,hne.resolve_right λz=>z rfl,Nat.le_refl _,h⟩
 |d::ds,vs,r,k,v,hl,_,h=>by rw[lC]at hl;obtain⟨vs1,r1,v1,e1,g1,g2,g3⟩:=Ii c lw m S (by omega) h r (some d) v;obtain⟨vs',r',k',v',e,h1,h2,h3⟩:=Bs c lw m S ds vs1 r1 (some d) v1 (by omega) (.inl g1) g3;refine⟨vs',r',k',v',?_,h1,by rw[lC];omega,h3⟩;rw[yI (ρ0:=VW c lw (some (.int r)) m S.length (some d) v) rfl e1 (bF _)];exact e
theorem XD(c:Int){ws:Ch}(hw:ws.length=2)(S:Sto): ∃vs:List MV,vs≠[]/\vs.length<=100/\(∀v∈vs,VS v)/\zR 2 aT [.val (.int c),.new (ws.map MV.str)] S=.ok (.new vs) S:=by
 obtain⟨S1,hS1⟩: ∃S1:Sto,S1=S++[.lst (ws.map MV.str)]:=⟨_,rfl⟩
 have hwat:S1[S.length]? =some (.lst (ws.map MV.str)):=by rw[hS1];exact zK _ _
 by_cases h2:c % 2=0
 .obtain⟨r,hr⟩: ∃r,r=c / 2:=⟨_,rfl⟩
  have h3:=eN r (show(3:Int)≠0 by decide);have h4:=eL r (show(0:Int)<3 by decide);obtain⟨vs,r',k',v',e,g1,g2,g3⟩:=Bs c S.length (some (.int (2+r % 3))) S1 ((List.range (2+r % 3).toNat).map λk=>.int (k:Nat)) [] (r / 3) none none (by rw[lM,length_range,List.length_nil];omega) (.inr (by intro z;have:=congrArg List.length z;rw[lM,length_range,List.length_nil]at this;omega)) (λv hv=>by simp at hv);rw[lM,length_range,List.length_nil]at g2;have hvat:(S1++[.lst vs])[S1.length]? =some (.lst vs):=zK _ _;have hwat2:(S1++[.lst vs])[S.length]? =some (.lst (ws.map MV.str)):=by rw[getElem?_append_left (gS.mp hwat).1];exact hwat
  have hc:kO (xD 0) hV dM [none,some (.loc S1.length)] [(S.length,ws.map MV.str)] (ws.map MV.str) (S1++[.lst vs])=.ok ((ws.filter λx=>!decide (MV.str x∈vs)).map MV.str) (S1++[.lst vs]):=
   FQ (bO hwat2) λx _=>⟨[some (.str x),some (.loc S1.length)],rfl,by unfold hV;simp? [vT true hvat (fN x) λy hy=>gA (g3 y hy)],rfl⟩
  obtain⟨t,ht⟩: ∃t:Int,t=2 - (if(vs.length:Int)<2 then(vs.length:Int)else 2):=⟨_,rfl⟩
  obtain⟨ys,hys⟩: ∃ys,ys=cN ((ws.filter λx=>!decide (MV.str x∈vs)).map MV.str) none (some t):=⟨_,rfl⟩
  have hym: ∀y∈ys,VS y:=λy hy=>by rw[hys]at hy;obtain⟨x,_,rfl⟩:=mM.mp (Ap hy);exact .inr ⟨x,rfl⟩
  have hyl:ys.length<=2:=by rw[hys];refine Nat.le_trans (Ao _ _ _) ?_;rw[lM];exact Nat.le_trans (List.length_filter_le _ _) (by omega)
  have hall: ∀v∈vs++ys,VS v:=λv hv=>(List.mem_append.mp hv).elim (g3 v) (hym v);refine⟨vs++ys,by simp[g1],by rw[lA];omega,hall,?_⟩;refine OM (T:=[.lst (ws.map MV.str)]++[.lst vs]) rfl (show zM [.val (.int c),.new (ws.map MV.str)] S=([.int c,.loc S.length],S++[.lst (ws.map MV.str)])from rfl) ?_ (.inl rfl) (Kh hall _);rw[<-hS1];show yU (bT (VV c S.length none none none none none none none none) S1)=_;have q1:(CJ (dJ gI (vJ 0) (kJ (.int 2))) 2) (VV c S.length none none none none none none none none) S1=.ok (.next (VV c S.length (some (.int r)) none none none none none none none)) S1:=by simp? [yH (b:=2) (by decide) (by decide)];rw[hr]
  have q2:(CJ (dJ wH (kJ (.int 2)) (dJ xW (vJ 2) (kJ (.int 3)))) 3) (VV c S.length (some (.int r)) none none none none none none none) S1=.ok (.next (VV c S.length (some (.int r)) (some (.int (2+r % 3))) none none none none none none)) S1:=by simp? [mod_lit (show(0:Int)<3 by decide)]
  have q3:(CJ (dJ gI (vJ 2) (kJ (.int 3))) 2) (VV c S.length (some (.int r)) (some (.int (2+r % 3))) none none none none none none) S1=.ok (.next (VV c S.length (some (.int (r / 3))) (some (.int (2+r % 3))) none none none none none none)) S1:=by simp? [yH (b:=3) (by decide) (by decide)]
  have q4:(CJ (bJ wJ gX) 4) (VV c S.length (some (.int (r / 3))) (some (.int (2+r % 3))) none none none none none none) S1=.ok (.next (VW c S.length (some (.int (r / 3))) (some (.int (2+r % 3))) S1.length none none)) (S1++[.lst []]):=by simp? [cT]
  have q5:(FJ (bJ (yJ (vJ 3) wJ) dW) (xD 5) (wU)) (VW c S.length (some (.int (r / 3))) (some (.int (2+r % 3))) S1.length none none) (S1++[.lst []])=.ok (.next (VW c S.length (some (.int r')) (some (.int (2+r % 3))) S1.length k' v')) (S1++[.lst vs]):=by simp? [KM (show -(2 ^ 62)<=(2+r % 3)/\(2+r % 3)<2 ^ 62 by omega)];exact e
  have hb: ∀a b c d e f g h i j:Option MV,CS 1 [4] [a,b,c,d,e,f,g,h,i,j]=[none,e]:=λ_ _ _ _ _ _ _ _ _ _=>rfl;have hwl:(ws.map MV.str).length<1000000:=by rw[lM];omega
  have q6:(AJ (dJ wH (vJ 4) (tJ mL (pJ (bJ (vJ 1) GR) (xD 0) (hV) (dM) 1 [4]) mJ (bJ (dJ AR (kJ (.int 2)) (bJ (yJ (kJ (.int 2)) (yJ (bJ (yJ (vJ 4) wJ) fX) wJ)) RH)) MN)))) (VW c S.length (some (.int r')) (some (.int (2+r % 3))) S1.length k' v') (S1++[.lst vs])=.ok (.ret (.new (vs++ys))) (S1++[.lst vs]):=by simp? [cV hwat2,hwl,hb,hc,bY hvat,show∀i j S,RH [.val (.int i),.val (.int j)] S=.ok (.val (.int (if j<i then j else i))) S from λ_ _ _=>rfl, <-ht,LR, <-hys,EH (KL hvat) (show XT (S1++[.lst vs]) (.new ys)=some ys from rfl) (fits (show vs.length+ys.length<=1000000 by omega))]
  have f1:jK (VV c S.length none none none none none none none none) S1=.ok (.ret (.new (vs++ys))) (S1++[.lst vs]):=by unfold jK;simp? [mod_lit (show(0:Int)<2 by decide),h2,decide_true];rw[zC q1,zC q2,zC q3,zC q4,zC q5];exact q6
  unfold bT;rw[wW f1,hS1,aA];rfl
 .obtain⟨x0,x1,rfl⟩: ∃x0 x1,ws=[x0,x1]:=by
   match ws,hw with
   |[a,b],_=>exact⟨a,b,rfl⟩
  obtain⟨n,hn⟩: ∃n:Int,n=c % (2 * 10 ^ 30 - 2) - 10 ^ 30+1:=⟨_,rfl⟩
  obtain⟨pl,hpl⟩: ∃pl:List MV,pl=[.int n,.int (n+1),.str x0,.str x1]:=⟨_,rfl⟩
  obtain⟨tn,htn⟩: ∃tn:Int,tn=c / 5 % 4:=⟨_,rfl⟩
  have h3:=eN (c / 5) (show(4:Int)≠0 by decide);have h4:=eL (c / 5) (show(0:Int)<4 by decide);have h5:=eN c (show(3:Int)≠0 by decide);have h6:=eL c (show(0:Int)<3 by decide)
  have hpm: ∀v∈pl,VS v:=λv hv=>by
   rw[hpl]at hv;simp only[mC,nM,or_false]at hv;rcases hv with rfl|rfl|rfl|rfl
   .exact .inl ⟨_,rfl⟩
   .exact .inl ⟨_,rfl⟩
   .exact .inr ⟨_,rfl⟩
   .exact .inr ⟨_,rfl⟩
  have hpl4:pl.length=4:=by rw[hpl];rfl
  obtain⟨ys,hys⟩: ∃ys:List MV,ys=(pl.drop tn.toNat++pl.take tn.toNat).take (2+c % 3).toNat:=⟨_,rfl⟩
  have hyl:ys.length=(2+c % 3).toNat:=by rw[hys,lT,lA,List.length_drop,lT,hpl4];omega
  have hym: ∀v∈ys,VS v:=λv hv=>by
   rw[hys]at hv;rcases List.mem_append.mp (mem_of_mem_take hv)with hv|hv
   .exact hpm v (mem_of_mem_drop hv)
   .exact hpm v (mem_of_mem_take hv)
  refine⟨ys,λz=>?_,by omega,hym,?_⟩
  .rw[z,List.length_nil]at hyl;omega
  refine OM (T:=[.lst ([x0,x1].map MV.str)]++[.lst pl]) rfl (show zM [.val (.int c),.new ([x0,x1].map MV.str)] S=([.int c,.loc S.length],S++[.lst ([x0,x1].map MV.str)])from rfl) ?_ (.inl rfl) (Kh hym _);rw[<-hS1];show yU (bT (VV c S.length none none none none none none none none) S1)=_;have hp: ∀S:Sto,CI (.val (.int 10)) (.val (.int 30)) S=.ok (.val (.int (10 ^ 30))) S:=λS=>TU (by unfold WI;decide+kernel) S;have f1:jK (VV c S.length none none none none none none none none) S1=.ok (.next (VV c S.length none none none none none none none none)) S1:=by unfold jK;simp? [mod_lit (show(0:Int)<2 by decide),h2,decide_false,fT,iF]
  have f2:eZ (VV c S.length none none none none none none none none) S1=.ok (.next (VV c S.length none none none none none (some (.int n)) none none)) S1:=by unfold eZ;simp? [hp,eC (a:=2) (show -(2 ^ 64)<(2:Int)/\(2:Int)<2 ^ 64 by decide),mod_lit (b:=2 * 10 ^ 30 - 2) (by decide)];rw[hn]
  have i0:yX (.val (.loc S.length)) (.val (.int 0)) S1=.ok (.val (.str x0)) S1:=cU hwat (pL (k:=0) rfl);have i1:yX (.val (.loc S.length)) (.val (.int 1)) S1=.ok (.val (.str x1)) S1:=cU hwat (pL (k:=1) rfl);have f3:fA (VV c S.length none none none none none (some (.int n)) none none) S1=.ok (.next (VV c S.length none none none none none (some (.int n)) (some (.loc S1.length)) none)) (S1++[.lst pl]):=by unfold fA;simp? [i0,i1,show∀(a b c d:MV)(S:Sto),gX [.val a,.val b,.val c,.val d] S=.ok (.new [a,b,c,d]) S from λa b c d S=>oF (by simp)];rw[hpl]
  have f4:fB (VV c S.length none none none none none (some (.int n)) (some (.loc S1.length)) none) (S1++[.lst pl])=.ok (.next (VV c S.length none none none none none (some (.int n)) (some (.loc S1.length)) (some (.int tn)))) (S1++[.lst pl]):=by unfold fB;simp? [yH (b:=5) (by decide) (by decide),mod_lit (show(0:Int)<4 by decide)];rw[htn]
  have hat:(S1++[.lst pl])[S1.length]? =some (.lst pl):=zK _ _;have ht1:(tn.toNat:Int)=tn:=by omega
  have hcd:=tF pl tn.toNat;rw[ht1]at hcd;have f5:fC (VV c S.length none none none none none (some (.int n)) (some (.loc S1.length)) (some (.int tn))) (S1++[.lst pl])=.ok (.ret (.new ys)) (S1++[.lst pl]):=by unfold fC;simp? [vW hat,hcd,qB pl tn (by omega),EH (show XT (S1++[.lst pl]) (.new (pl.drop tn.toNat))=some (pl.drop tn.toNat)from rfl) (show XT (S1++[.lst pl]) (.new (pl.take tn.toNat))=some (pl.take tn.toNat)from rfl) (fits (show(pl.drop tn.toNat).length+(pl.take tn.toNat).length<=1000000 by rw[List.length_drop,lT,hpl4];omega)),mod_lit (show(0:Int)<3 by decide),LR,qB _ (2+c % 3) (by omega)];rw[hys]
  unfold bT;rw[zC f1,zC f2,zC f3,zC f4,f5,hS1,aA];rfl
def TmIn(xs:Ch)(d:MV):Prop:=(∃x∈xs,d=.tup [.str pT,.str x])\/ ∃v,VS v/\d=.tup [.str IS,v]
def TmIn.ok{xs:Ch}{d:MV}(h:TmIn xs d):lV d:=by
 rcases h with⟨x,_,rfl⟩|⟨v,hv,rfl⟩
 .exact .inl ⟨x,rfl⟩
 .exact .inr ⟨v,hv,rfl⟩
def tG{S:Sto}{l:Nat}{ds:Xb}(hS:S[l]? =some (.lst ds))(hne:ds≠[])(n:Int): ∃d∈ds,yX (.val (.loc l)) (.val (.int (n % (ds.length:Int)))) S=.ok (.val d) S:=by have hp:0<ds.length:=List.length_pos_iff.mpr hne;obtain⟨d,hd⟩:=CW (xs:=ds) (i:=n % (ds.length:Int)) (eN _ (by omega)) (eL _ (by omega));exact⟨d,KI (P:=λd=>d∈ds) (λe he=>he) hd,cU hS hd⟩
theorem Ij{S:Sto}{ln lv:Nat}{xs:Ch}{vs:Xb}(h1:S[ln]? =some (.lst (xs.map MV.str)))(hx:xs≠[])(h2:S[lv]? =some (.lst vs))(hv:vs≠[])(hvs: ∀v∈vs,VS v)(n:Int): ∃d,TmIn xs d/\zR 3 mU [.val (.int n),.val (.loc ln),.val (.loc lv)] S=.ok (.val d) S:=by
 have hvl:0<vs.length:=List.length_pos_iff.mpr hv;have hxl:0<xs.length:=List.length_pos_iff.mpr hx;by_cases h6:n % 6=0
 .obtain⟨v,hm,hi⟩:=tG h2 hv (n / 6);have hvv:=hvs v hm;refine⟨.tup [.str IS,v],.inr ⟨v,hvv,rfl⟩,?_⟩;refine nF rfl ?_ (CA (CC (.inr ⟨v,hvv,rfl⟩)).1) (λl=>by simp);show yU (eS [some (.int n),some (.loc ln),some (.loc lv)] S)=_;have e1:bU [some (.int n),some (.loc ln),some (.loc lv)] S=.ok (.ret (.val (.tup [.str IS,v]))) S:=by unfold bU;simp? [mod_lit (show(0:Int)<6 by decide),h6,decide_true,yH (b:=6) (by decide) (by decide),bY h2,mod_lit (b:=(vs.length:Int)) (by omega),hi,tup2]
  unfold eS;rw[wW e1];rfl
 .obtain⟨d,hm,hi⟩:=tG h1 (by simpa using hx) (n / 6);obtain⟨x,hxm,rfl⟩:=mM.mp hm;rw[lM]at hi;refine⟨.tup [.str pT,.str x],.inl ⟨x,hxm,rfl⟩,?_⟩;refine nF rfl ?_ (CA (CC (.inl ⟨x,rfl⟩)).1) (λl=>by simp);show yU (eS [some (.int n),some (.loc ln),some (.loc lv)] S)=_;have e1:bU [some (.int n),some (.loc ln),some (.loc lv)] S=.ok (.next [some (.int n),some (.loc ln),some (.loc lv)]) S:=by unfold bU;simp? [mod_lit (show(0:Int)<6 by decide),h6,decide_false,fT,iF]
  unfold eS;rw[zC e1];unfold tW;simp? [yH (b:=6) (by decide) (by decide),bY h1,lM,mod_lit (b:=(xs.length:Int)) (by omega),hi,tup2];rfl
theorem FU: ∀{o:Xb},(∀y∈o, ∃x:List Nat,y=.str x)-> ∃ys:List (List Nat),o=ys.map MV.str
 |[],_=>⟨[],rfl⟩
 |a::o,h=>by obtain⟨x,rfl⟩:=h a mF0;obtain⟨ys,rfl⟩:=FU λy hy=>h y (mO _ hy);exact⟨x::ys,rfl⟩
theorem Ik(ns:Uj)(k:Int)(hk:0<=k)(S:Sto): ∃c,zR 2 zO [.val (.scr (ns.map MV.int)),.val (.int k)] S=.ok (.val (.int c)) S:=by
 have hlen:fX [.val (.scr (ns.map MV.int))] S=.ok (.val (.int ns.length)) S:=by show R.ok (Er.val (.int (((ns.map MV.int).length:Nat):Int))) S=_;rw[lM]
 have e1:nI [some (.scr (ns.map MV.int)),some (.int k)] S=if decide (k<ns.length)=true then(yX (.val (.scr (ns.map MV.int))) (.val (.int k)) S).bind λr S1=>.ok (.ret r) S1 else .ok (.next [some (.scr (ns.map MV.int)),some (.int k)]) S:=by unfold nI;simp? [hlen,lt_int]
 have fin: ∀c,zO [.scr (ns.map MV.int),.int k] S=.ok (.val (.int c)) S-> ∃c,zR 2 zO [.val (.scr (ns.map MV.int)),.val (.int k)] S=.ok (.val (.int c)) S:=λc h=>⟨c,nF rfl h (uF _ _) (λl=>by simp)⟩
 have hs:yR ["_law_script","_law_k"] [.scr (ns.map MV.int),.int k]=[some (.scr (ns.map MV.int)),some (.int k)]:=rfl;by_cases hlt:k<ns.length
 .obtain⟨d,hd⟩:=CW (xs:=ns.map MV.int) (i:=k) hk (by rw[lM];exact hlt);obtain⟨c,rfl⟩: ∃c,d=.int c:=KI (P:=λd=> ∃c,d=.int c) (λe he=>by obtain⟨c,_,rfl⟩:=mM.mp he;exact⟨c,rfl⟩) hd;have hix:yX (.val (.scr (ns.map MV.int))) (.val (.int k)) S=.ok (.val (.int c)) S:=by show(match tM (ns.map MV.int) k with |some d=>R.ok (Er.val d) S|none=>.no)=_;rw[hd]
  refine fin c ?_;rw[dT0 hlt,iP rfl,hix,cT]at e1;unfold zO iT;rw[hs,wW e1];rfl
 .refine fin 0 ?_;rw[dF0 hlt,iN xF0]at e1;unfold zO iT;rw[hs,zC e1];rfl
theorem OQ: ∀{o:Xb},(∀y∈o, ∃i:Int,y=.int i)-> ∃ys:List Int,o=ys.map MV.int
 |[],_=>⟨[],rfl⟩
 |a::o,h=>by obtain⟨x,rfl⟩:=h a mF0;obtain⟨ys,rfl⟩:=OQ λy hy=>h y (mO _ hy);exact⟨x::ys,rfl⟩
abbrev Ev:=List (MV×MV)
def cM(E:Ev):Prop:= ∀p∈E,(∃x,p.1=.str x)/\VS p.2
def isv:MV->MV
 |.tup [_,v]=>v
 |_=>.non
open Classical in
def xO:List MV->List MV->Ev->Option Ev
 |t::ts,c::cs,E=>match vn t with
  |some x=>match look E (.str x)with
   |none=>xO ts cs (E++[(.str x,c)])
   |some d=>if d=c then xO ts cs E else none
  |none=>if isv t=c then xO ts cs E else none
 |_,_,E=>some E
def bL(E:Ev)(t:MV):MV:=match vn t with
 |some x=>match look E (.str x)with
  |some d=>.tup [.str IS,d]
  |none=>t
 |none=>t
theorem UR{v:MV}:vn (.tup [.str IS,v])=none:=by
 cases v with
 |str y=>simp[vn]
 |_=>rfl
def mX(x:Db)(c:MV)(ts cs:Xb)(E:Ev):xO (.tup [.str pT,.str x]::ts) (c::cs) E=match look E (.str x)with |none=>xO ts cs (E++[(.str x,c)])|some d=>if d=c then xO ts cs E else none:=by
 conv=>lhs;unfold xO
 rw[LQ]
theorem uQ(v c:MV)(ts cs:Xb)(E:Ev):xO (.tup [.str IS,v]::ts) (c::cs) E=if v=c then xO ts cs E else none:=by
 conv=>lhs;unfold xO
 rw[UR];rfl
def FV(V:Ev)(x:Db):bL V (.tup [.str pT,.str x])=match look V (.str x)with |some d=>.tup [.str IS,d]|none=>.tup [.str pT,.str x]:=by unfold bL;rw[LQ]
def OR(V:Ev)(v:MV):bL V (.tup [.str IS,v])=.tup [.str IS,v]:=by unfold bL;rw[UR]
theorem pN(V F:Ev)(k:MV):look (V++F) k=(look V k).or (look F k):=by unfold look;rw[List.find?_append];cases V.find? (λp=>decide (p.1=k))<;>rfl
def qO{E:Ev}(h:cM E){k d:MV}(e:look E k=some d):VS d:=by unfold look at e;obtain⟨p,hp,rfl⟩:=Option.map_eq_some_iff.mp e;exact(h p (List.mem_of_find?_eq_some hp)).2
def DH{E:Ev}{k:MV}(e:look E k=none): ∀p∈E,p.1≠k:=λp hp h=>by unfold look at e;rw[Option.map_eq_none_iff,List.find?_eq_none]at e;exact e p hp (dT0 h)
theorem US{V:Ev}: ∀(ts cs:Xb)(F:Ev),(∀t∈ts,lV t)->xO ts cs (V++F)=(xO (ts.map (bL V)) cs F).map (V++·)
 |[],_,F,_=>rfl
 |t::ts,[],F,_=>rfl
 |t::ts,c::cs,F,h=>by
  have ih:=λG=>US (V:=V) ts cs G λt ht=>h t (mO _ ht);rw[List.map_cons];rcases h t mF0 with⟨x,rfl⟩|⟨v,hv,rfl⟩
  .rw[FV,mX,pN]
   cases z:look V (.str x)with
   |some d=>
    dsimp only[Option.or];rw[uQ];by_cases hh:d=c
    .rw[iP hh,iP hh];exact ih F
    .rw[iN hh,iN hh];rfl
   |none=>
    dsimp only[Option.or];rw[mX]
    cases look F (.str x)with
    |none=>dsimp only;rw[aA];exact ih _
    |some d=>
     dsimp only;by_cases hh:d=c
     .rw[iP hh,iP hh];exact ih F
     .rw[iN hh,iN hh];rfl
  .rw[OR,uQ,uQ];by_cases hh:v=c
   .rw[iP hh,iP hh];exact ih F
   .rw[iN hh,iN hh];rfl
def Bt{V:Ev}{ts cs:Xb}(h: ∀t∈ts,lV t):xO ts cs V=(xO (ts.map (bL V)) cs []).map (V++·):=by have:=US (V:=V) ts cs [] h;rw[aN]at this;exact this
theorem FW: ∀(ts cs:Xb)(F G:Ev),xO ts cs F=some G->(F.map (·.1)).Nodup->(G.map (·.1)).Nodup/\ ∀p∈G,p∈F\/ ∃t∈ts, ∃x,vn t=some x/\p.1=.str x
 |[],_,F,G,h,nd=>by cases h;exact⟨nd,λp hp=>.inl hp⟩
 |t::ts,[],F,G,h,nd=>by cases h;exact⟨nd,λp hp=>.inl hp⟩
 |t::ts,c::cs,F,G,h,nd=>by
  have up: ∀{F':Ev},xO ts cs F'=some G->(F'.map (·.1)).Nodup->(∀p∈F',p∈F\/ ∃x,vn t=some x/\p.1=.str x)->(G.map (·.1)).Nodup/\ ∀p∈G,p∈F\/ ∃t'∈t::ts, ∃x,vn t'=some x/\p.1=.str x:=λh nd' hF=>by
   obtain⟨a,b⟩:=FW ts cs _ G h nd';refine⟨a,λp hp=>?_⟩;rcases b p hp with q|⟨t',ht,x,e1,e2⟩
   .rcases hF p q with q|⟨x,e1,e2⟩
    .exact .inl q
    .exact .inr ⟨t,mF0,x,e1,e2⟩
   .exact .inr ⟨t',mO _ ht,x,e1,e2⟩
  unfold xO at h;split at h
  .rename_i x hx;split at h
   .rename_i hl;refine up h ?_ λp hp=>?_
    .rw[List.map_append,nodup_append];refine⟨nd,by simp,λa ha b hb=>?_⟩;rw[List.map_cons,List.map_nil,mS]at hb;obtain⟨p,hp,rfl⟩:=mM.mp ha;rw[hb];exact DH hl p hp
    .rcases List.mem_append.mp hp with hp|hp
     .exact .inl hp
     .rw[mS.mp hp];exact .inr ⟨x,hx,rfl⟩
   .split at h
    .exact up h nd λp hp=>.inl hp
    .cases h
  .split at h
   .exact up h nd λp hp=>.inl hp
   .cases h
theorem vX{V:Ev}{k d:MV}(h:look V k=none):putK V k d=V++[(k,d)]:=by unfold putK;rw[h];rfl
theorem OS: ∀(F V:Ev),(F.map (·.1)).Nodup->(∀p∈F,look V p.1=none)->IT V F=V++F
 |[],V,_,_=>by rw[aN];rfl
 |p::F,V,nd,h=>by
  rw[List.map_cons,nodup_cons]at nd;unfold IT;rw[List.foldl_cons,vX (h p mF0)];have:=OS F (V++[(p.1,p.2)]) nd.2 λq hq=>by rw[pN,h q (mO _ hq)];unfold look;rw[find?_cons,dF0 λz=>nd.1 (by rw[z];exact mem_map_of_mem hq)];rfl
  unfold IT at this;rw[this,aA];rfl
def Bu{V:Ev}{ts cs:Xb}{F:Ev}(h:xO (ts.map (bL V)) cs []=some F):IT V F=V++F:=by
 obtain⟨a,b⟩:=FW _ _ _ _ h (by simp);refine OS F V a λp hp=>?_;rcases b p hp with q|⟨t,ht,x,e1,e2⟩
 .simp at q
 .rw[e2];obtain⟨t',_,rfl⟩:=mM.mp ht;unfold bL at e1;split at e1
  .rename_i y hy;split at e1
   .rw[UR]at e1;cases e1
   .rename_i hn;rw[hy]at e1;cases e1;exact hn
  .rename_i hn;rw[hn]at e1;cases e1
theorem tH: ∀(ts cs:Xb)(F G:Ev),xO ts cs F=some G->cM F->(∀c∈cs,VS c)->cM G
 |[],_,F,G,h,hF,_=>by cases h;exact hF
 |t::ts,[],F,G,h,hF,_=>by cases h;exact hF
 |t::ts,c::cs,F,G,h,hF,hc=>by
  have hc': ∀c∈cs,VS c:=λd hd=>hc d (mO _ hd);unfold xO at h;split at h
  .rename_i x hx;split at h
   .refine tH ts cs _ G h (λp hp=>?_) hc';rcases List.mem_append.mp hp with hp|hp
    .exact hF p hp
    .rw[mS.mp hp];exact⟨⟨x,rfl⟩,hc c mF0⟩
   .split at h
    .exact tH ts cs F G h hF hc'
    .cases h
  .split at h
   .exact tH ts cs F G h hF hc'
   .cases h
inductive Pt where
 |same (a b:MV)|quan (ex:Bool) (t:Int) (tms:Xb)
def Pt.ex:Pt->Bool
 |.same _ _=>true
 |.quan b _ _=>b
def Pt.tms:Pt->List MV
 |.same a b=>[a,b]
 |.quan _ _ ts=>ts
def Pt.nms(p:Pt):List (List Nat):=p.tms.filterMap vn
abbrev Rw:=Int×List MV
open Classical in
def JD(rows:List Rw)(E:Ev):Pt->List Ev
 |.same a b=>if bL E a=bL E b then [E]else []
 |.quan _ t tms=>(rows.filter λr=>decide (r.1=t)).filterMap λr=>xO tms r.2 E
open Classical in
theorem pO(rows:List Rw)(E:Ev)(a b:MV):JD rows E (.same a b)=if bL E a=bL E b then [E]else []:=rfl
theorem lX(rows:List Rw)(E:Ev)(x:Bool)(t:Int)(tms:Xb):JD rows E (.quan x t tms)=(rows.filter λr=>decide (r.1=t)).filterMap λr=>xO tms r.2 E:=rfl
def hold(rows:List Rw):List Pt->Ev->Bool
 |[],_=>true
 |p::ps,E=>if p.ex=true then(JD rows E p).any (hold rows ps)else(JD rows E p).all (hold rows ps)
def Uh(P:List Nat->Prop)(E1 E2:Ev):Prop:= ∀x,P x->look E1 (.str x)=look E2 (.str x)
theorem DI{P:List Nat->Prop}: ∀(ts cs:Xb)(E1 E2:Ev),Uh P E1 E2->(∀t∈ts, ∀x,vn t=some x->P x)->(xO ts cs E1=none/\xO ts cs E2=none)\/ ∃G1 G2,xO ts cs E1=some G1/\xO ts cs E2=some G2/\Uh P G1 G2
 |[],_,E1,E2,h,_=>.inr ⟨E1,E2,rfl,rfl,h⟩
 |t::ts,[],E1,E2,h,_=>.inr ⟨E1,E2,rfl,rfl,h⟩
 |t::ts,c::cs,E1,E2,h,hP=>by
  have hP': ∀t∈ts, ∀x,vn t=some x->P x:=λt ht=>hP t (mO _ ht);unfold xO
  cases hv:vn t with
  |some x=>
   dsimp only;rw[h x (hP t mF0 x hv)]
   cases look E2 (.str x)with
   |none=>
    dsimp only;refine DI ts cs _ _ (λy hy=>?_) hP';rw[pN,pN,h y hy]
   |some d=>
    dsimp only;split
    .exact DI ts cs _ _ h hP'
    .exact .inl ⟨rfl,rfl⟩
  |none=>
   dsimp only;split
   .exact DI ts cs _ _ h hP'
   .exact .inl ⟨rfl,rfl⟩
theorem Bv{P:List Nat->Prop}{E1 E2:Ev}(h:Uh P E1 E2){t:MV}(hP: ∀x,vn t=some x->P x):bL E1 t=bL E2 t:=by
 unfold bL
 cases hv:vn t with
 |some x=>dsimp only;rw[h x (hP x hv)]
 |none=>rfl
theorem FX{rows:List Rw}{P:List Nat->Prop}: ∀(ps:List Pt)(E1 E2:Ev),Uh P E1 E2->(∀p∈ps, ∀x∈p.nms,P x)->hold rows ps E1=hold rows ps E2
 |[],_,_,_,_=>rfl
 |p::ps,E1,E2,h,hP=>by
  have hP': ∀p∈ps, ∀x∈p.nms,P x:=λq hq=>hP q (mO _ hq);have hp: ∀t∈p.tms, ∀x,vn t=some x->P x:=λt ht x hx=>hP p mF0 x (mem_filterMap.mpr ⟨t,ht,hx⟩);unfold hold
  have key:(JD rows E1 p).map (hold rows ps)=(JD rows E2 p).map (hold rows ps):=by
   cases p with
   |same a b=>
    rw[pO,pO,Bv h (hp a (by simp[Pt.tms])),Bv h (hp b (by simp[Pt.tms]))];by_cases hh:bL E2 a=bL E2 b
    .rw[iP hh,iP hh,List.map_cons,List.map_cons,FX ps E1 E2 h hP']
    .rw[iN hh,iN hh]
   |quan ex t tms=>
    rw[lX,lX];generalize rows.filter (λr=>decide (r.1=t))=rs
    induction rs with
    |nil=>rfl
    |cons r rs ih=>
     rcases DI tms r.2 E1 E2 h hp with⟨e1,e2⟩|⟨G1,G2,e1,e2,hg⟩
     .simp only[filterMap_cons,e1,e2];exact ih
     .simp only[filterMap_cons,e1,e2,List.map_cons];rw[FX ps G1 G2 hg hP',ih]
  have ka: ∀l:List Ev,l.any (hold rows ps)=(l.map (hold rows ps)).any id:=λl=>by rw[List.any_map];rfl
  have kl: ∀l:List Ev,l.all (hold rows ps)=(l.map (hold rows ps)).all id:=λl=>by rw[all_map];rfl
  rw[ka,ka,kl,kl,key]
theorem Sz{E:Ev}(h:cM E):E.all (λp=>uL p.1)=true:=by rw[List.all_eq_true];intro p hp;obtain⟨x,e⟩:=(h p hp).1;rw[e];rfl
section
variable{S:Sto}{l:Nat}{E:Ev}
def pP(h:S[l]? =some (.dic E))(hE:cM E):pA S (.val (.loc l))=some (l,E):=FO h (Sz hE)
theorem DL(h:S[l]? =some (.dic E))(hE:cM E):uM (.val (.loc l)) S=true:=by unfold uM;rw[pP h hE];rfl
theorem FY(h:S[l]? =some (.dic E))(hE:cM E)(x:Db):RM false (.val (.str x)) (.val (.loc l)) S=.ok (.val (.bl (look E (.str x)).isSome)) S:=by unfold RM;dsimp only;rw[pP h hE];rfl
theorem LS(h:S[l]? =some (.dic E))(hE:cM E){x:Db}{d:MV}(hl:look E (.str x)=some d):OE (.val (.loc l)) (.val (.str x)) S=.ok (.val d) S:=by unfold OE;rw[pP h hE];dsimp only;rw[hl];rfl
theorem Il(h:S[l]? =some (.dic E))(hE:cM E)(x:Db):tU (.val (.loc l)) [.val (.str x)] S=.ok (.val ((look E (.str x)).getD .non)) S:=by unfold tU;rw[pP h hE];rfl
def Im(h:S[l]? =some (.dic E))(hE:cM E)(hz:E.length<1000000){x:Db}{c d:MV}(hl:look E (.str x)=some d):RO (.val (.loc l)) [.val (.str x),.val c] S=.ok (.val d) S:=by show AU _ _ _ S=_;unfold AU;rw[pP h hE];dsimp only;rw[iP ⟨rfl,hz⟩,hl]
def Io(h:S[l]? =some (.dic E))(hE:cM E)(hz:E.length<1000000){x:Db}{c:MV}(hl:look E (.str x)=none):RO (.val (.loc l)) [.val (.str x),.val c] S=.ok (.val c) (S.set l (.dic (E++[(.str x,c)]))):=by show AU _ _ _ S=_;unfold AU;rw[pP h hE];dsimp only;rw[iP ⟨rfl,hz⟩,hl];dsimp only;rw[vX hl]
end
def vY{S:Sto}{d e:MV}(hd:pd d=true)(he:pd e=true)(h:JC d<40):GM (.val d) (.val e) S=.ok (.val (.bl (!decide (d=e)))) S:=KG (sO (zV+1) hd he (by unfold zV;omega))
def Bw{d:MV}(h:VS d)(l:Nat):d≠.loc l:=λe=>by subst e;rcases h with⟨i,e⟩|⟨x,e⟩<;>cases e
def OT{E:Ev}(hE:cM E){t:MV}(ht:lV t):lV (bL E t):=by
 rcases ht with⟨x,rfl⟩|⟨v,hv,rfl⟩
 .rw[FV];split
  .rename_i d hd;exact .inr ⟨d,qO hE hd,rfl⟩
  .exact .inl ⟨x,rfl⟩
 .rw[OR];exact .inr ⟨v,hv,rfl⟩
def UT{t:MV}(ht:lV t)(n:Nat):lo n t:=CA (CC ht).1
def Bx{t:MV}(ht:lV t)(l:Nat):t≠.loc l:=λe=>by subst e;rcases ht with⟨i,e⟩|⟨x,_,e⟩<;>cases e
theorem By{S:Sto}{l:Nat}{E:Ev}(h:S[l]? =some (.dic E))(hE:cM E){t:MV}(ht:lV t):zR 2 cL [.val t,.val (.loc l)] S=.ok (.val (bL E t)) S:=by
 refine nF rfl ?_ (UT (OT hE ht) _) (Bx (OT hE ht));show yU (sC [some t,some (.loc l)] S)=_;unfold sC;rcases ht with⟨x,rfl⟩|⟨v,hv,rfl⟩
 .rw[FV]
  cases z:look E (.str x)with
  |some d=>
   have e1:kD [some (.tup [.str pT,.str x]),some (.loc l)] S=.ok (.ret (.val (.tup [.str IS,d]))) S:=by unfold kD;simp? [pI,lW,vU,FY h hE,z,Option.isSome,LS h hE z]
   rw[wW e1];rfl
  |none=>
   have e1:kD [some (.tup [.str pT,.str x]),some (.loc l)] S=.ok (.next [some (.tup [.str pT,.str x]),some (.loc l)]) S:=by unfold kD;simp? [pI,lW,vU,FY h hE,z,Option.isSome,fT,iF]
   rw[zC e1];rfl
 .rw[OR];have e1:kD [some (.tup [.str IS,v]),some (.loc l)] S=.ok (.next [some (.tup [.str IS,v]),some (.loc l)]) S:=by unfold kD;simp? [pI,lW,ON,fT,iF]
  rw[zC e1];rfl
abbrev FT(lt:Nat)(cs:Xb)(n:Nat)(a b c:Xc):Rho:=[some (.loc lt),some (.tup cs),some (.loc n),a,b,c]
def Ip{S:Sto}{lt:Nat}{cs0:Xb}{E:Ev}{t c:MV}(ht:lV t)(hc:VS c)(hE:cM E)(hz:E.length<1000)(o:Xc):
  (∃F e,(∀ts cs,xO (t::ts) (c::cs) E=xO ts cs F)/\cM F/\F.length<=E.length+1/\gL (FT lt cs0 S.length (some t) (some c) o) (S++[.dic E])=.ok (.next (FT lt cs0 S.length (some t) (some c) (some e))) (S++[.dic F]))\/
  ((∀ts cs,xO (t::ts) (c::cs) E=none)/\gL (FT lt cs0 S.length (some t) (some c) o) (S++[.dic E])=.ok (.ret (.val .non)) (S++[.dic E])):=by
 have hS:(S++[.dic E])[S.length]? =some (.dic E):=zK _ _
 have e2: ∀(d:MV)(E':Ev),VS d->oH (FT lt cs0 S.length (some t) (some c) (some d)) (S++[.dic E'])=if d=c then .ok (.next (FT lt cs0 S.length (some t) (some c) (some d))) (S++[.dic E'])else .ok (.ret (.val .non)) (S++[.dic E']):=λd E' hd=>by
  unfold oH;simp? [vY (gA hd).1 (gA hc).1 (gA hd).2];by_cases hh:d=c
  .rw[dT0 hh,iP hh];rfl
  .rw[dF0 hh,iN hh];rfl
 unfold gL;rcases ht with⟨x,rfl⟩|⟨v,hv,rfl⟩
 .cases z:look E (.str x)with
  |none=>
   have e1:kE (FT lt cs0 S.length (some (.tup [.str pT,.str x])) (some c) o) (S++[.dic E])=.ok (.next (FT lt cs0 S.length (some (.tup [.str pT,.str x])) (some c) (some c))) (S++[.dic (E++[(.str x,c)])]):=by unfold kE;simp? [pI,lW,vU,DL hS hE,Io hS hE (show E.length<1000000 by omega) z,wX]
   refine .inl ⟨E++[(.str x,c)],c,λts cs=>by rw[mX,z],λp hp=>?_,by simp,?_⟩
   .rcases List.mem_append.mp hp with hp|hp
    .exact hE p hp
    .rw[mS.mp hp];exact⟨⟨x,rfl⟩,hc⟩
   .rw[zC e1,e2 c _ hc,iP rfl]
  |some d=>
   have e1:kE (FT lt cs0 S.length (some (.tup [.str pT,.str x])) (some c) o) (S++[.dic E])=.ok (.next (FT lt cs0 S.length (some (.tup [.str pT,.str x])) (some c) (some d))) (S++[.dic E]):=by unfold kE;simp? [pI,lW,vU,DL hS hE,Im hS hE (show E.length<1000000 by omega) z]
   rw[zC e1,e2 d _ (qO hE z)];by_cases hh:d=c
   .exact .inl ⟨E,d,λts cs=>by rw[mX,z];exact iP hh,hE,by omega,by rw[iP hh]⟩
   .exact .inr ⟨λts cs=>by rw[mX,z];exact iN hh,by rw[iN hh]⟩
 .have e1:kE (FT lt cs0 S.length (some (.tup [.str IS,v])) (some c) o) (S++[.dic E])=.ok (.next (FT lt cs0 S.length (some (.tup [.str IS,v])) (some c) (some v))) (S++[.dic E]):=by unfold kE;simp? [pI,lW,ON,fT,iF]
  rw[zC e1,e2 v _ hv];by_cases hh:v=c
  .exact .inl ⟨E,v,λts cs=>by rw[uQ,iP hh],hE,by omega,by rw[iP hh]⟩
  .exact .inr ⟨λts cs=>by rw[uQ,iN hh],by rw[iN hh]⟩
theorem Bz{S:Sto}{lt:Nat}{ts0 cs0:Xb}(hl:S[lt]? =some (.lst ts0)): ∀(ts cs:Xb)(E:Ev)(a b c:Xc),(∀t∈ts,lV t)->(∀c∈cs,VS c)->cM E->E.length+ts.length<1000->
  (∃F a' b' c',xO ts cs E=some F/\xY (CQ 2 (zS (xD 3) (zS (xD 4) gG))) gL [(lt,ts0)] (pairs ts cs) (FT lt cs0 S.length a b c) (S++[.dic E])=.ok (.next (FT lt cs0 S.length a' b' c')) (S++[.dic F]))\/
  (xO ts cs E=none/\ ∃E',xY (CQ 2 (zS (xD 3) (zS (xD 4) gG))) gL [(lt,ts0)] (pairs ts cs) (FT lt cs0 S.length a b c) (S++[.dic E])=.ok (.ret (.val .non)) (S++[.dic E']))
 |[],cs,E,a,b,c,_,_,_,_=>.inl ⟨E,a,b,c,rfl,rfl⟩
 |t::ts,[],E,a,b,c,_,_,_,_=>.inl ⟨E,a,b,c,rfl,rfl⟩
 |t::ts,d::cs,E,a,b,c,ht,hc,hE,hz=>by
  rw[lC]at hz;have hg:CQ 2 (zS (xD 3) (zS (xD 4) gG)) (.tup [t,d]) (FT lt cs0 S.length a b c) (S++[.dic E])=.ok (FT lt cs0 S.length (some t) (some d) c) (S++[.dic E]):=rfl;have hst: ∀E':Ev,stay [(lt,ts0)] (S++[.dic E']):=λE'=>bO (by rw[getElem?_append_left (gS.mp hl).1];exact hl);rcases Ip (S:=S) (lt:=lt) (cs0:=cs0) (ht t mF0) (hc d mF0) hE (by omega) c with⟨F,e,h1,h2,h3,h4⟩|⟨h1,h4⟩
  .show(∃F a' b' c',_/\xY _ _ _ (.tup [t,d]::pairs ts cs) _ _=_)\/(_/\ ∃E',xY _ _ _ (.tup [t,d]::pairs ts cs) _ _=_)
   rw[yI hg h4 (hst F),h1];exact Bz hl ts cs F (some t) (some d) (some e) (λt ht'=>ht t (mO _ ht')) (λt ht'=>hc t (mO _ ht')) h2 (by omega)
  .refine .inr ⟨h1 ts cs,E,?_⟩;show xY _ _ _ (.tup [t,d]::pairs ts cs) _ _=_;rw[KH hg h4]
def LT:cM []:=λp h=>by simp at h
def Ta{S:Sto}{lt:Nat}{ts cs:Xb}(hl:S[lt]? =some (.lst ts))(ht: ∀t∈ts,lV t)(hc: ∀c∈cs,VS c)(hz:ts.length<900):
  zR 2 iG [.val (.loc lt),.val (.tup cs)] S=match xO ts cs []with |some F=>.ok (.val (.loc S.length)) (S++[.dic F])|none=>.ok (.val .non) S:=by
 have e1:sD [some (.loc lt),some (.tup cs),none,none,none,none] S=.ok (.next (FT lt cs S.length none none none)) (S++[.dic []]):=by unfold sD;simp? [IK]
 have hl':(S++[.dic []])[lt]? =some (.lst ts):=by rw[getElem?_append_left (gS.mp hl).1];exact hl
 have hit:Nk [.val (.loc lt),.val (.tup cs)] (S++[.dic []])=.ok ⟨pairs ts cs,[(lt,ts)]⟩ (S++[.dic []]):=by unfold Nk srcOf;dsimp only;rw[hl'];rfl
 have e2:sE (FT lt cs S.length none none none) (S++[.dic []])=xY (CQ 2 (zS (xD 3) (zS (xD 4) gG))) gL [(lt,ts)] (pairs ts cs) (FT lt cs S.length none none none) (S++[.dic []]):=by unfold sE;simp? [hit]
 rcases Bz (cs0:=cs) hl ts cs [] none none none ht hc LT (by simp only[List.length_nil];omega)with⟨F,a,b,c,h1,h2⟩|⟨h1,E',h2⟩
 .rw[h1];dsimp only;have hF:iG [.loc lt,.tup cs] S=.ok (.val (.loc S.length)) (S++[.dic F]):=by show yU (pC [some (.loc lt),some (.tup cs),none,none,none,none] S)=_;unfold pC;rw[zC e1,zC (e2.trans h2)];rfl
  exact FR (T:=[]) rfl hF
 .rw[h1];dsimp only;have hF:iG [.loc lt,.tup cs] S=.ok (.val .non) (S++[.dic E']):=by show yU (pC [some (.loc lt),some (.tup cs),none,none,none,none] S)=_;unfold pC;rw[zC e1,wW (e2.trans h2)];rfl
  exact oY (T:=[.dic E']) rfl hF (RA _) (λl=>by simp)
abbrev sP:List Nat:=[115,97,109,101]
abbrev XE:List Nat:=[101,97,99,104]
abbrev XF:List Nat:=[115,111,109,101]
abbrev Ow:List Nat:=[121,101,115]
def RY:Pt->List Nat
 |.same _ _=>sP
 |.quan true _ _=>XF
 |.quan false _ _=>XE
def pM(p:Pt)(q:MV):MV:=match p with
 |.same a b=>.tup [.str sP,a,b,q]
 |.quan x t tms=>.tup [.str (RY (.quan x t tms)),.int t,.tup tms,q]
def rE(p:Pt):Prop:=(∀t∈p.tms,lV t)/\p.tms.length<=100
def Dcs(d:Nat)(S:Sto):List MV->List Ev->Prop
 |[],[]=>True
 |w::ws,G::Gs=>(∃e,w=.loc e/\e≠d/\S[e]? =some (.dic G)/\cM G)/\Dcs d S ws Gs
 |_,_=>False
theorem Dcs.mono{d:Nat}{S S':Sto}(f: ∀l o,S[l]? =some (.dic o)->l≠d->S'[l]? =some (.dic o)): ∀{ws:Xb}{Gs:List Ev},Dcs d S ws Gs->Dcs d S' ws Gs
 |[],[],_=>trivial
 |_::_,_::_,⟨⟨e,h1,h2,h3,h4⟩,t⟩=>⟨⟨e,h1,h2,f e _ h3 h2,h4⟩,Dcs.mono f t⟩
 |[],_::_,h=>h.elim
 |_::_,[],h=>h.elim
theorem Dcs.snoc{d:Nat}{S:Sto}{e:Nat}{G:Ev}(h:e≠d/\S[e]? =some (.dic G)/\cM G): ∀{ws:Xb}{Gs:List Ev},Dcs d S ws Gs->Dcs d S (ws++[.loc e]) (Gs++[G])
 |[],[],_=>⟨⟨e,rfl,h⟩,trivial⟩
 |_::_,_::_,⟨a,t⟩=>⟨a,Dcs.snoc h t⟩
 |[],_::_,h=>h.elim
 |_::_,[],h=>h.elim
theorem Dcs.last{d:Nat}{S:Sto}{w:MV}: ∀{ws:Xb}{Gs:List Ev},Dcs d S (ws++[w]) Gs-> ∃Gs' G e,Gs=Gs'++[G]/\Dcs d S ws Gs'/\w=.loc e/\e≠d/\S[e]? =some (.dic G)/\cM G
 |[],[G],⟨⟨e,h⟩,_⟩=>⟨[],G,e,rfl,trivial,h⟩
 |[],[],h=>h.elim
 |[],_::_::_,⟨_,h⟩=>h.elim
 |_::_,[],h=>h.elim
 |x::ws,G::Gs,⟨a,t⟩=>by obtain⟨Gs',G',e,h1,h2,h3⟩:=Dcs.last t;exact⟨G::Gs',G',e,by rw[h1];rfl,⟨a,h2⟩,h3⟩
def Dcs.len{d:Nat}{S:Sto}: ∀{ws:Xb}{Gs:List Ev},Dcs d S ws Gs->ws.length=Gs.length
 |[],[],_=>rfl
 |_::_,_::_,⟨_,t⟩=>by rw[lC,lC,t.len]
 |[],_::_,h=>h.elim
 |_::_,[],h=>h.elim
open Classical in
theorem XG{n:Nat}{F:List MV->Sto->R Er}{rs:List Er}{S T:Sto}{l:Nat}{ds:Xb}(hn:rs.length=n)(hF:F (zM rs S).1 (zM rs S).2=.ok (.val (.loc l)) (S++T))(hl:S.length<=l)(hS:(S++T)[l]? =some (.lst ds)):
  zR n F rs S=if pZ S.length ds then .ok (.new ds) S else .ok (.val (.loc l)) (S++T):=by
 unfold zR;rw[iP hn,hF];show bD S (.val (.loc l)) (S++T)=_;unfold bD;rw[iP vI];dsimp only;rw[iN (by omega),hS];dsimp only;split
 .rw[List.take_left'];rfl
 .rfl
abbrev Zs(S:Sto)(ts ws:Xb)(T:Sto):Sto:=S++.lst ts::.lst ws::T
def zs_0(S:Sto)(ts ws:Xb)(T:Sto):(Zs S ts ws T)[S.length]? =some (.lst ts):=by simp[Zs]
def Iq(S:Sto)(ts ws:Xb)(T:Sto):(Zs S ts ws T)[S.length+1]? =some (.lst ws):=by simp[Zs]
def Ca(S:Sto)(ts ws ws':Xb)(T:Sto):(Zs S ts ws T).set (S.length+1) (.lst ws')=Zs S ts ws' T:=by simp[Zs]
def LU{S:Sto}{k:Nat}{o:MO}(h:S[k]? =some o)(ts ws:Xb)(T:Sto):(Zs S ts ws T)[k]? =some o:=by rw[getElem?_append_left (gS.mp h).1];exact h
def LV(S:Sto)(ts ws:Xb)(T U:Sto):Zs S ts ws T++U=Zs S ts ws (T++U):=by simp[Zs]
def Ox{S:Sto}{ts ws ws':Xb}{T U:Sto}{l:Nat}{o:Ev}(h:(Zs S ts ws T)[l]? =some (.dic o)):(Zs S ts ws' (T++U))[l]? =some (.dic o):=by
 by_cases e:l=S.length+1
 .subst e;rw[Iq]at h;cases h
 .have h1:((Zs S ts ws T).set (S.length+1) (.lst ws'))[l]? =some (.dic o):=by rw[zZ (Ne.symm e)];exact h
  rw[Ca]at h1;rw[<-LV,getElem?_append_left (gS.mp h1).1];exact h1
abbrev WY(p:MV)(lc le n:Nat)(a b c:Xc):Rho:=[some p,some (.loc lc),some (.loc le),some (.loc n),some (.loc (n+1)),a,b,c]
def RZ{S:Sto}{l:Nat}{E:Ev}(h:S[l]? =some (.dic E))(hE:cM E):OD [.val (.loc l)] S=.ok (.val (.loc S.length)) (S++[.dic E]):=by unfold OD;dsimp only;rw[pP h hE]
def Oy{S:Sto}{l m:Nat}{E F:Ev}(h:S[l]? =some (.dic E))(hE:cM E)(h':S[m]? =some (.dic F))(hF:cM F)(hne:l≠m)(hz:E.length+F.length<1000000):EV (.val (.loc l)) [.val (.loc m)] S=.ok (.val .non) (S.set l (.dic (IT E F))):=by unfold EV;dsimp only;rw[pP h hE,pP h' hF];dsimp only;rw[iP ⟨hne,hz⟩]
theorem tI: ∀(ts cs:Xb)(F G:Ev),xO ts cs F=some G->G.length<=F.length+ts.length
 |[],_,F,G,h=>by cases h;simp
 |t::ts,[],F,G,h=>by cases h;simp
 |t::ts,c::cs,F,G,h=>by
  rw[lC];unfold xO at h;split at h
  .split at h
   .have:=tI ts cs _ G h;rw[lA,lS]at this;omega
   .split at h
    .have:=tI ts cs F G h;omega
    .cases h
  .split at h
   .have:=tI ts cs F G h;omega
   .cases h
section
variable{S:Sto}{le lc d:Nat}{E:Ev}{tms:Xb}{p:MV}
def Ir(h:S[le]? =some (.dic E))(hE:cM E)(hEz:E.length<=1000)(hT: ∀t∈tms,lV t)(hTz:tms.length<=100)(hd:d<S.length){cs:Xb}(hc: ∀c∈cs,VS c){ws:Xb}{Gs:List Ev}{T:Sto}(hD:Dcs d (Zs S (tms.map (bL E)) ws T) ws Gs)(hw:ws.length<1000)(b c:Xc):
  ∃ws' T' b' c',mT (WY p lc le S.length (some (.tup cs)) b c) (Zs S (tms.map (bL E)) ws T)=.ok (.next (WY p lc le S.length (some (.tup cs)) b' c')) (Zs S (tms.map (bL E)) ws' T')/\
   Dcs d (Zs S (tms.map (bL E)) ws' T') ws' (Gs++(xO tms cs E).toList)/\(∀w∈ws',w∈ws\/ ∃e,w=.loc e/\S.length<=e):=by
 obtain⟨Z,hZ⟩: ∃Z,Z=Zs S (tms.map (bL E)) ws T:=⟨_,rfl⟩
 have hZ0:Z[S.length]? =some (.lst (tms.map (bL E))):=by rw[hZ];exact zs_0 _ _ _ _
 have hf:=Ta (S:=Z) (cs:=cs) hZ0 (λt ht=>by obtain⟨u,hu,rfl⟩:=mM.mp ht;exact OT hE (hT u hu)) hc (by rw[lM];omega);have hs:=Bt (V:=E) (cs:=cs) hT;unfold mT
 cases z:xO (tms.map (bL E)) cs []with
 |none=>
  rw[z]at hf hs;rw[hs];have e1:bQ (WY p lc le S.length (some (.tup cs)) b c) Z=.ok (.next (WY p lc le S.length (some (.tup cs)) (some .non) c)) Z:=by unfold bQ;simp? [hf]
  have e2:bR (WY p lc le S.length (some (.tup cs)) (some .non) c) Z=.ok (.next (WY p lc le S.length (some (.tup cs)) (some .non) c)) Z:=by unfold bR;simp? [vE,fT,iF]
  refine⟨ws,T,some .non,c,?_,by simpa using hD,λw hw=>.inl hw⟩;rw[<-hZ,zC e1,e2]
 |some F=>
  rw[z]at hf hs;rw[hs];have hFk:cM F:=tH _ _ _ _ z LT hc;have hG:cM (E++F):=tH tms cs E _ (by rw[hs];rfl) hE hc;have hFz:=tI _ _ _ _ z;rw[List.length_nil,lM]at hFz;have e1:bQ (WY p lc le S.length (some (.tup cs)) b c) Z=.ok (.next (WY p lc le S.length (some (.tup cs)) (some (.loc Z.length)) c)) (Z++[.dic F]):=by unfold bQ;simp? [hf]
  have hle:Z[le]? =some (.dic E):=by rw[hZ];exact LU h _ _ _
  have hle1:(Z++[.dic F])[le]? =some (.dic E):=by rw[getElem?_append_left (gS.mp hle).1];exact hle
  have a0:((Z++[MO.dic F])++[MO.dic E])[Z.length+1]? =some (.dic E):=by have:=zK (Z++[.dic F]) (.dic E);rw[lA,lS]at this;exact this
  have a1:((Z++[MO.dic F])++[MO.dic E])[Z.length]? =some (.dic F):=by rw[aA];exact BE _ _ _
  have a2:((Z++[MO.dic F])++[MO.dic E]).set (Z.length+1) (.dic (E++F))=Z++[.dic F,.dic (E++F)]:=by have:=wX (Z++[.dic F]) (.dic E) (.dic (E++F));rw[lA,lS]at this;rw[this,aA];rfl
  have hu:=Oy a0 hE a1 hFk (by omega) (by omega);rw[Bu z,a2]at hu;have a3:(Z++[MO.dic F,MO.dic (E++F)])[S.length+1]? =some (.lst ws):=by rw[hZ,LV];exact Iq _ _ _ _
  have a4:(Z++[MO.dic F,MO.dic (E++F)]).set (S.length+1) (.lst (ws++[.loc (Z.length+1)]))=Zs S (tms.map (bL E)) (ws++[.loc (Z.length+1)]) (T++[.dic F,.dic (E++F)]):=by rw[hZ,LV,Ca]
  have hap:=hX (d:=.loc (Z.length+1)) a3 (by omega);rw[a4]at hap;have l1:(Z++[MO.dic F]).length=Z.length+1:=by rw[lA,lS]
  have hnn: ∀S',vE (.val (.loc Z.length)) (.val .non) S'=.ok (.val (.bl true)) S':=λ_=>rfl;have e2:bR (WY p lc le S.length (some (.tup cs)) (some (.loc Z.length)) c) (Z++[.dic F])=.ok (.next (WY p lc le S.length (some (.tup cs)) (some (.loc Z.length)) (some (.loc (Z.length+1))))) (Zs S (tms.map (bL E)) (ws++[.loc (Z.length+1)]) (T++[.dic F,.dic (E++F)])):=by unfold bR;simp? [hnn];rw[zC (F:=CJ (bJ (yJ (vJ 2) wJ) OD) 7) (ρ':=WY p lc le S.length (some (.tup cs)) (some (.loc Z.length)) (some (.loc (Z.length+1)))) (S':=(Z++[.dic F])++[.dic E]) (by simp? [RZ hle1 hE,l1])];rw[zC (F:=BJ (eJ uM EV (vJ 7) (yJ (vJ 6) wJ))) (ρ':=WY p lc le S.length (some (.tup cs)) (some (.loc Z.length)) (some (.loc (Z.length+1)))) (S':=Z++[.dic F,.dic (E++F)]) (by simp? [DL a0 hE,hu])];simp? [kR a3,hap]
  refine⟨ws++[.loc (Z.length+1)],T++[.dic F,.dic (E++F)],_,_,by rw[<-hZ,zC e1,e2],?_,λw hw=>?_⟩
  .refine Dcs.snoc ⟨?_,?_,hG⟩ (hD.mono λl o hl _=>Ox hl)
   .have:S.length<=Z.length:=by rw[hZ];simp
    omega
   .rw[<-a4,zZ (by rw[hZ];simp only[lA,lC];omega)];have:=zK (Z++[.dic F]) (.dic (E++F));rw[l1,aA]at this;exact this
  .rcases List.mem_append.mp hw with hw|hw
   .exact .inl hw
   .exact .inr ⟨Z.length+1,mS.mp hw,by rw[hZ];simp only[lA,lC];omega⟩
theorem Cc(h:S[le]? =some (.dic E))(hE:cM E)(hEz:E.length<=1000)(hT: ∀t∈tms,lV t)(hTz:tms.length<=100)(hd:d<S.length){gs:Xe}(hgs: ∀q∈gs,S[q.1]? =some (.lst q.2)): ∀(rs:List Rw),(∀r∈rs, ∀c∈r.2,VS c)-> ∀(ws:Xb)(Gs:List Ev)(T:Sto)(a b c:Xc),Dcs d (Zs S (tms.map (bL E)) ws T) ws Gs->ws.length+rs.length<1000->(∀w∈ws, ∃e,w=.loc e/\S.length<=e)->
  ∃ws' T' a' b' c',xY (xD 5) mT gs (rs.map λr=>.tup r.2) (WY p lc le S.length a b c) (Zs S (tms.map (bL E)) ws T)=.ok (.next (WY p lc le S.length a' b' c')) (Zs S (tms.map (bL E)) ws' T')/\
   Dcs d (Zs S (tms.map (bL E)) ws' T') ws' (Gs++rs.filterMap λr=>xO tms r.2 E)/\(∀w∈ws', ∃e,w=.loc e/\S.length<=e)
 |[],_,ws,Gs,T,a,b,c,hD,_,hw=>⟨ws,T,a,b,c,rfl,by simpa using hD,hw⟩
 |r::rs,hr,ws,Gs,T,a,b,c,hD,hl,hw=>by
  rw[lC]at hl;obtain⟨ws1,T1,b1,c1,h1,h2,h3⟩:=Ir (p:=p) (lc:=lc) h hE hEz hT hTz hd (hr r mF0) hD (by omega) b c
  have hlen:ws1.length<=ws.length+1:=by
   have e1:=h2.len;have e2:=hD.len;rw[lA]at e1;have:(xO tms r.2 E).toList.length<=1:=by cases xO tms r.2 E<;>simp
   omega
  obtain⟨ws2,T2,a2,b2,c2,g1,g2,g3⟩:=Cc h hE hEz hT hTz hd hgs rs (λr hr'=>hr r (mO _ hr')) ws1 _ T1 (some (.tup r.2)) b1 c1 h2 (by omega) (λw hw'=>(h3 w hw').elim (hw w) id);refine⟨ws2,T2,a2,b2,c2,?_,?_,g3⟩
  .rw[List.map_cons,yI (show xD 5 (.tup r.2) (WY p lc le S.length a b c) (Zs S (tms.map (bL E)) ws T)=.ok (WY p lc le S.length (some (.tup r.2)) b c) (Zs S (tms.map (bL E)) ws T)from rfl) h1 (λq hq=>LU (hgs q hq) _ _ _)];exact g1
  .rw[filterMap_cons];rw[aA]at g2
   cases z:xO tms r.2 E with
   |none=>rw[z]at g2;exact g2
   |some G=>rw[z]at g2;exact g2
end
structure COk(S:Sto)(lc:Nat)(rows:List Rw):Prop where
 ex: ∃C:Ev,S[lc]? =some (.dic C)/\C.all (λp=>uL p.1)=true/\ ∀t:Int,(look C (.int t)=none/\(rows.filter λr=>decide (r.1=t))=[])\/ ∃q,look C (.int t)=some (.loc q)/\S[q]? =some (.lst ((rows.filter λr=>decide (r.1=t)).map λr=>.tup r.2))
def Py(rows:List Rw):Prop:=(∀r∈rows, ∀c∈r.2,VS c)/\rows.length<=100
theorem Cd(a b c e:MV)(S:Sto):yX (.val (.tup [a,b,c,e])) (.val (.int 0)) S=.ok (.val a) S:=rfl
theorem Tb(a b c e:MV)(S:Sto):yX (.val (.tup [a,b,c,e])) (.val (.int 1)) S=.ok (.val b) S:=rfl
theorem Oz(a b c e:MV)(S:Sto):yX (.val (.tup [a,b,c,e])) (.val (.int 2)) S=.ok (.val c) S:=rfl
theorem Ce(p:Pt)(q:MV)(S:Sto):yX (.val (pM p q)) (.val (.int 0)) S=.ok (.val (.str (RY p))) S:=by cases p<;>rfl
theorem pM_m(p:Pt)(q:MV)(S:Sto):yX (.val (pM p q)) (.val (.int (-1))) S=.ok (.val q) S:=by cases p<;>rfl
theorem Cf{x:Bool}{t:Int}{tms:Xb}:decide (RY (.quan x t tms)=sP)=false:=by cases x<;>rfl
def Cg{n:Nat}: ∀{ws:Xb},pZ n ws->(∀w∈ws, ∃e,w=.loc e/\n<=e)->ws=[]
 |[],_,_=>rfl
 |w::ws,h,hw=>by obtain⟨e,rfl,he⟩:=hw w mF0;unfold pZ lo at h;omega
def Tc{S:Sto}{le lc d:Nat}{E:Ev}{p:Pt}{q:MV}{rows:List Rw}(hp:rE p)(h:S[le]? =some (.dic E))(hE:cM E)(hEz:E.length<=1000)(hC:COk S lc rows)(hR:Py rows)(hd:d<S.length)(hle:le≠d):
  ∃r ws T,zR 3 nH [.val (pM p q),.val (.loc lc),.val (.loc le)] S=.ok r (S++T)/\Dcs d (S++T) ws (JD rows E p)/\(r=.new ws\/ ∃w,r=.val (.loc w)/\S.length<=w/\(S++T)[w]? =some (.lst ws)):=by
 have hlen:=(gS.mp h).1
 cases p with
 |same a b=>
  have ha:=By h hE (hp.1 a (by simp[Pt.tms]));have hb:=By h hE (hp.1 b (by simp[Pt.tms]));have pa:=CC (OT hE (hp.1 a (by simp[Pt.tms])));have pb:=CC (OT hE (hp.1 b (by simp[Pt.tms])));rw[pO]
  have e1: ∀o,eK (some (.tup [.str sP,a,b,q])::some (.loc lc)::some (.loc le)::o) S=.ok (.ret (.new (if bL E a=bL E b then [.loc le]else []))) S:=λo=>by
   unfold eK;simp? [Cd,Tb,Oz,eq_str,decide_true,ha,hb,UJ pa.1 pb.1 (by omega)];by_cases hh:bL E a=bL E b
   .rw[dT0 hh,iP hh];simp? []
   .rw[dF0 hh,iN hh];simp? [fT,iF]
  have hF:nH [.tup [.str sP,a,b,q],.loc lc,.loc le] S=.ok (.new (if bL E a=bL E b then [.loc le]else [])) (S++[]):=by show yU (pD [some (.tup [.str sP,a,b,q]),some (.loc lc),some (.loc le),none,none,none,none,none] S)=_;unfold pD;rw[wW (e1 _),aN];rfl
  have hlo:pZ S.length (if bL E a=bL E b then [.loc le]else []):=by
   split
   .exact gK λx hx=>by rw[mS.mp hx];exact Nn hlen
   .exact gK λx hx=>by simp at hx
  refine⟨_,_,[],by rw[aN];exact rS (T:=[]) rfl hF hlo,?_,.inl rfl⟩;rw[aN];by_cases hh:bL E a=bL E b
  .rw[iP hh,iP hh];exact⟨⟨le,rfl,hle,h,hE⟩,trivial⟩
  .rw[iN hh,iN hh];trivial
 |quan x t tms=>
  obtain⟨C,c1,c2,c3⟩:=hC;have hT:=hp.1;have hTz:tms.length<=100:=hp.2;have hT: ∀t∈tms,lV t:=hp.1;obtain⟨P,hP⟩: ∃P,P=pM (.quan x t tms) q:=⟨_,rfl⟩
  have P0:=λS=>Ce (.quan x t tms) q S;have P1: ∀S,yX (.val P) (.val (.int 1)) S=.ok (.val (.int t)) S:=λS=>by rw[hP];rfl
  have P2: ∀S,yX (.val P) (.val (.int 2)) S=.ok (.val (.tup tms)) S:=λS=>by rw[hP];rfl
  rw[<-hP]at P0;have e1: ∀o,eK (some P::o) S=.ok (.next (some P::o)) S:=λo=>by unfold eK;simp? [P0,eq_str,Cf,fT,iF]
  have e2:sG [some P,some (.loc lc),some (.loc le),none,none,none,none,none] S=.ok (.next [some P,some (.loc lc),some (.loc le),some (.loc S.length),none,none,none,none]) (S++[.lst (tms.map (bL E))]):=by
   unfold sG
   have hc:kO (xD 0) oK bP (CS 1 [2] [some P,some (.loc lc),some (.loc le),none,none,none,none,none]) [] tms S=.ok (tms.map (bL E)) S:=by
    have hm:=pK (f:=id) (g:=bL E) (gf:=xD 0) (cf:=oK) (ef:=bP) (ρb:=CS 1 [2] [some P,some (.loc lc),some (.loc le),none,none,none,none,none]) (gs:=[]) (ds:=tms) (bF S) λu hu=>⟨_,rfl,rfl,by show bP [some u,some (.loc le)] S=_;unfold bP;simp? [By h hE (hT u hu)]⟩
    rw[List.map_id]at hm;exact hm
   simp? [P2,RR,show tms.length<1000000 by omega,hc]
  have e3:sH [some P,some (.loc lc),some (.loc le),some (.loc S.length),none,none,none,none] (S++[.lst (tms.map (bL E))])=.ok (.next (WY P lc le S.length none none none)) (Zs S (tms.map (bL E)) [] []):=by unfold sH;simp? [];rw[lA,aA];rfl
  have hlc:(Zs S (tms.map (bL E)) [] [])[lc]? =some (.dic C):=LU c1 _ _ _;have hdx:pA (Zs S (tms.map (bL E)) [] []) (.val (.loc lc))=some (lc,C):=FO hlc c2;have his:uM (.val (.loc lc)) (Zs S (tms.map (bL E)) [] [])=true:=by unfold uM;rw[hdx];rfl
  have hrs: ∀r∈rows.filter (λr=>decide (r.1=t)), ∀c∈r.2,VS c:=λr hr=>hR.1 r (List.mem_filter.mp hr).1;have hrl:(rows.filter λr=>decide (r.1=t)).length<=100:=Nat.le_trans (List.length_filter_le _ _) hR.2
  have fin: ∀{gs:Xe}{g:Er},(∀q∈gs,S[q.1]? =some (.lst q.2))->tU (.val (.loc lc)) [.val (.int t),.new []] (Zs S (tms.map (bL E)) [] [])=.ok g (Zs S (tms.map (bL E)) [] [])->GR g (Zs S (tms.map (bL E)) [] [])=.ok ⟨(rows.filter λr=>decide (r.1=t)).map λr=>.tup r.2,gs⟩ (Zs S (tms.map (bL E)) [] [])->
    ∃r ws T,zR 3 nH [.val P,.val (.loc lc),.val (.loc le)] S=.ok r (S++T)/\Dcs d (S++T) ws (JD rows E (.quan x t tms))/\(r=.new ws\/ ∃w,r=.val (.loc w)/\S.length<=w/\(S++T)[w]? =some (.lst ws)):=λhgs hget hit=>by
   obtain⟨ws,T,a,b,c,g1,g2,g3⟩:=Cc (p:=P) (lc:=lc) (d:=d) h hE hEz hT hTz hd hgs _ hrs [] [] [] none none none trivial (by simp only[List.length_nil];omega) (λw hw=>by simp at hw);rw[List.nil_append, <-lX rows E x t tms]at g2;have e4:sI (WY P lc le S.length none none none) (Zs S (tms.map (bL E)) [] [])=.ok (.next (WY P lc le S.length a b c)) (Zs S (tms.map (bL E)) ws T):=by unfold sI;simp? [his,P1,hget,hit];exact g1
   have hF:nH [P,.loc lc,.loc le] S=.ok (.val (.loc (S.length+1))) (Zs S (tms.map (bL E)) ws T):=by show yU (pD [some P,some (.loc lc),some (.loc le),none,none,none,none,none] S)=_;unfold pD;rw[zC (e1 _),zC e2,zC e3,zC e4];rfl
   have hcl:=XG (S:=S) (rs:=[.val P,.val (.loc lc),.val (.loc le)]) (n:=3) rfl hF (le_succ _) (Iq _ _ _ _);by_cases hlo:pZ S.length ws
   .rw[iP hlo]at hcl;have hn:=Cg hlo g3;subst hn;refine⟨_,[],[],by rw[aN];exact hcl,?_,.inl rfl⟩;have:=g2.len;have:JD rows E (.quan x t tms)=[]:=List.length_eq_zero_iff.mp (by rw[<-this];rfl);rw[this];trivial
   .rw[iN hlo]at hcl;exact⟨_,ws,_,hcl,g2,.inr ⟨_,rfl,le_succ _,Iq _ _ _ _⟩⟩
  rw[<-hP];rcases c3 t with⟨k1,k2⟩|⟨qq,k1,k2⟩
  .refine fin (gs:=[]) (g:=.new []) (λq hq=>by simp at hq) ?_ ?_
   .unfold tU;rw[hdx];dsimp only;rw[k1];rfl
   .rw[k2];rfl
  .refine fin (gs:=[(qq,(rows.filter λr=>decide (r.1=t)).map λr=>.tup r.2)]) (g:=.val (.loc qq)) (λq hq=>by rw[mS.mp hq];exact k2) ?_ ?_
   .unfold tU;rw[hdx];dsimp only;rw[k1];rfl
   .exact cV (LU k2 _ _ _)
def fM:List Pt->MV
 |[]=>.tup [.str Ow]
 |p::ps=>pM p (fM ps)
def CD:List Pt->List MV
 |[]=>[]
 |p::ps=>pM p (fM ps)::CD ps
theorem LW: ∀{ps:List Pt}{i:Nat}{p:Pt},ps[i]? =some p->(CD ps)[i]? =some (pM p (fM (ps.drop (i+1))))
 |[],_,_,h=>by simp at h
 |q::ps,0,p,h=>by cases h;rfl
 |q::ps,i+1,p,h=>LW (ps:=ps) (i:=i) (by simpa using h)
theorem DM: ∀ps:List Pt,(CD ps).length=ps.length
 |[]=>rfl
 |_::ps=>by unfold CD;rw[lC,lC,DM ps]
def LX(ps:List Pt):List (List Nat):=BD [] (ps.flatMap Pt.nms)
def Iu{ps:List Pt}{x:Db}:x∈LX ps↔ ∃p∈ps,x∈p.nms:=by unfold LX;rw[OP,List.mem_flatMap];simp
theorem UU: ∀{ps:List Pt},(∀p∈ps,rE p)->(ps.flatMap Pt.nms).length<=100 * ps.length
 |[],_=>by simp
 |p::ps,h=>by rw[List.flatMap_cons,lA,lC];have h1:=UU (ps:=ps) λq hq=>h q (mO _ hq);have h2:p.nms.length<=p.tms.length:=List.length_filterMap_le _ _;have h3:=(h p mF0).2;omega
def Iv{ps:List Pt}(h: ∀p∈ps,rE p):(LX ps).length<=100 * ps.length:=by have:=FN (ps.flatMap Pt.nms) [];have:=UU h;unfold LX;simp only[List.length_nil]at *;omega
def vls(ps:List Pt)(E:Ev):List MV:=(LX ps).map λx=>(look E (.str x)).getD .non
def gR(ps:List Pt)(i:Nat)(E:Ev):MV:=.tup [yG i,.tup (vls (ps.drop i) E)]
def Ci{a b:Xc}(ha: ∀d,a=some d->VS d)(hb: ∀d,b=some d->VS d)(h:a.getD .non=b.getD .non):a=b:=by
 cases a with
 |none=>
  cases b with
  |none=>rfl
  |some d=>rcases hb d rfl with⟨i,rfl⟩|⟨i,rfl⟩<;>cases h
 |some d=>
  cases b with
  |none=>rcases ha d rfl with⟨i,rfl⟩|⟨i,rfl⟩<;>cases h
  |some e=>exact congrArg some h
theorem FZ{α β:Type}{f g:α->β}: ∀{l:List α},l.map f=l.map g-> ∀x∈l,f x=g x
 |[],_,x,h=>by simp at h
 |y::l,e,x,h=>by
  rw[List.map_cons,List.map_cons]at e;obtain⟨e1,e2⟩:=List.cons.inj e;rcases mC.mp h with rfl|h
  .exact e1
  .exact FZ e2 x h
def Cj{rows:List Rw}{ps:List Pt}{i j:Nat}{E E':Ev}(hE:cM E)(hE':cM E')(h:gR ps i E=gR ps j E'):hold rows (ps.drop i) E=hold rows (ps.drop j) E':=by unfold gR at h;obtain⟨e1,e2⟩:=List.cons.inj (MV.tup.inj h);have e1:=Ie e1;subst e1;have e2:=MV.tup.inj (List.cons.inj e2).1;refine FX (P:=λx=>x∈LX (ps.drop i)) _ _ _ (λx hx=>?_) λp hp x hx=>Iu.mpr ⟨p,hp,hx⟩;exact Ci (λd hd=>qO hE hd) (λd hd=>qO hE' hd) (FZ e2 x hx)
def Td{d:MV}(h:VS d\/d=.non): ∃k,wZ d=some (.key k):=by
 rcases h with(⟨i,rfl⟩|⟨x,rfl⟩)|rfl
 .exact⟨_,eE i⟩
 .exact⟨_,iM x⟩
 .exact⟨_,EK⟩
theorem Ck: ∀{ds:Xb},(∀d∈ds,VS d\/d=.non)-> ∃ks,bC ds=some ks/\rM ks=0
 |[],_=>⟨[],oZ,by rw[rM]⟩
 |d::ds,h=>by obtain⟨k,hk⟩:=Td (h d mF0);obtain⟨ks,h1,h2⟩:=Ck λe he=>h e (mO _ he);refine⟨.key k::ks,by rw[cE,hk,h1];rfl,?_⟩;rw[iI,h2,oC];rfl
def Pa{ps:List Pt}{E:Ev}(hE:cM E): ∀d∈vls ps E,VS d\/d=.non:=λd hd=>by
 obtain⟨x,_,rfl⟩:=mM.mp hd
 cases z:look E (.str x)with
 |none=>exact .inr rfl
 |some e=>exact .inl (qO hE z)
def LY{ps:List Pt}{i:Nat}{E:Ev}(hE:cM E):keyOk (gR ps i E)=true:=by obtain⟨ks,h1,h2⟩:=Ck (Pa (ps:=ps.drop i) hE);unfold keyOk gR;rw[eF,cE,cE,eE,eF,h1,oZ];show(true&&decide (oC _<=4))=true;rw[Bool.true_and,decide_eq_true_iff,aZ,iI,iI,aZ,h2,oC,rM];decide
def Vld(rows:List Rw)(ps:List Pt)(F:Ev):Prop:= ∀q∈F, ∃i E,cM E/\q.1=gR ps i E/\q.2=.bl (hold rows (ps.drop i) E)
def Vld.look{rows:List Rw}{ps:List Pt}{F:Ev}(V:Vld rows ps F){i:Nat}{E:Ev}(hE:cM E){v:MV}(h:look F (gR ps i E)=some v):v=.bl (hold rows (ps.drop i) E):=by
 unfold M.look at h;obtain⟨q,hq,rfl⟩:=Option.map_eq_some_iff.mp h;obtain⟨j,E',h1,h2,h3⟩:=V q (List.mem_of_find?_eq_some hq);have e:q.1=gR ps i E:=by simpa using List.find?_some hq
 rw[h3,Cj hE h1 (e.symm.trans h2)]
theorem Vld.dic{rows:List Rw}{ps:List Pt}{F:Ev}(V:Vld rows ps F){S:Sto}{d:Nat}(h:S[d]? =some (.dic F)):EM S (.val (.loc d))=some (d,F):=by unfold EM;dsimp only;rw[h];dsimp only;rw[iP];rw[List.all_eq_true];intro q hq;obtain⟨i,E,_,e,_⟩:=V q hq;rw[e];rfl
def Vld.put{rows:List Rw}{ps:List Pt}{F:Ev}(V:Vld rows ps F){i:Nat}{E:Ev}(hE:cM E):Vld rows ps (putK F (gR ps i E) (.bl (hold rows (ps.drop i) E))):=by
 intro q hq;unfold putK at hq;split at hq
 .obtain⟨p,hp,rfl⟩:=mM.mp hq;split
  .rename_i e;exact⟨i,E,hE,e,rfl⟩
  .exact V p hp
 .rcases List.mem_append.mp hq with hq|hq
  .exact V q hq
  .rw[mS.mp hq];exact⟨i,E,hE,rfl,rfl⟩
def OU(F:Ev)(k d:MV):(putK F k d).length<=F.length+1:=by
 unfold putK;split
 .rw[lM];omega
 .simp
abbrev Dy(a b c d:Nat):List (Str×MV):=[("steps",.loc a),("asked",.loc b),("cells",.loc c),("found",.loc d)]
structure MS(rows:List Rw)(ps:List Pt)(B:Sto)(ls a b c d:Nat):Prop where
 rc:B[ls]? =some (.rcd "Reading" (Dy a b c d))
 st:B[a]? =some (.lst (CD ps))
 ak: ∃as,B[b]? =some (.lst as)/\ ∀i,i<ps.length-> ∃q,as[i]? =some (.loc q)/\B[q]? =some (.lst ((LX (ps.drop i)).map MV.str))
 cl:COk B c rows
 dd:B[d]? =some (.dic [])
 cd:c≠d
 pk: ∀p∈ps,rE p
 pl:ps.length<=100
 rk:Py rows
structure Cur(B S:Sto)(d:Nat)(F:Ev):Prop where
 len:B.length<=S.length
 old: ∀l,l<B.length->l≠d->S[l]? =B[l]?
 fd:S[d]? =some (.dic F)
section
variable{rows:List Rw}{ps:List Pt}{B S:Sto}{ls a b c d:Nat}{F:Ev}
def Cur.up(C:Cur B S d F){l:Nat}{o:MO}(h:B[l]? =some o)(hd:l≠d):S[l]? =some o:=by rw[C.old l (gS.mp h).1 hd];exact h
def MS.nd(M:MS rows ps B ls a b c d){l:Nat}{o:MO}(h:B[l]? =some o)(ho:o≠.dic []):l≠d:=λe=>by subst e;rw[M.dd]at h;exact ho (Option.some.inj h).symm
def MS.cur(M:MS rows ps B ls a b c d)(C:Cur B S d F){l:Nat}{o:MO}(h:B[l]? =some o)(ho:o≠.dic []):S[l]? =some o:=C.up h (M.nd h ho)
def MS.cells(M:MS rows ps B ls a b c d)(C:Cur B S d F):COk S c rows:=by
 obtain⟨K,h1,h2,h3⟩:=M.cl;refine⟨K,C.up h1 M.cd,h2,λt=>?_⟩;rcases h3 t with h|⟨q,h4,h5⟩
 .exact .inl h
 .exact .inr ⟨q,h4,M.cur C h5 (by simp)⟩
def qP{S:Sto}{ls:Nat}{fs:List (Str×MV)}(h:S[ls]? =some (.rcd "Reading" fs)){f:Str}{v:MV}(hf:fs.lookup f=some v):iO "Reading" f (.val (.loc ls)) S=.ok (.val v) S:=by unfold iO EX;dsimp only;rw[h];dsimp only;rw[iP rfl];dsimp only;rw[hf]
theorem GA(a b c d:Nat):List.lookup ("steps":Str) (Dy a b c d)=some (MV.loc a):=rfl
theorem Cm(a b c d:Nat):List.lookup ("asked":Str) (Dy a b c d)=some (MV.loc b):=rfl
theorem Co(a b c d:Nat):List.lookup ("cells":Str) (Dy a b c d)=some (MV.loc c):=rfl
theorem OV(a b c d:Nat):List.lookup ("found":Str) (Dy a b c d)=some (MV.loc d):=rfl
end
theorem UV{n:Nat}: ∀{ds:Xb},pZ n ds-> ∀d∈ds,lo n d
 |[],_,d,h=>by simp at h
 |e::ds,hl,d,h=>by
  unfold pZ at hl;rcases mC.mp h with rfl|h
  .exact hl.1
  .exact UV hl.2 d h
theorem JE(ds:Xb)(S:Sto):qA [.new ds] S=.ok (.val (.tup ds)) S:=rfl
abbrev EN(ls lt le:Nat)(p s:Xc):Rho:=[some (.loc ls),some (.loc lt),some (.loc le),p,s]
section
variable{rows:List Rw}{ps:List Pt}{B S:Sto}{ls a b c d lt le:Nat}{F E:Ev}{T:Xb}
def Pb(ht:S[lt]? =some (.lst T)):cZ (EN ls lt le none none) S=.ok (.next (EN ls lt le (some (yG T.length)) none)) S:=by unfold cZ;simp? [bY ht]
def Pc(M:MS rows ps B ls a b c d)(C:Cur B S d F)(i:Nat):dA (EN ls lt le (some (yG i)) none) S=if i=ps.length then .ok (.ret (.val (.bl true))) S else .ok (.next (EN ls lt le (some (yG i)) none)) S:=by
 have h1:=qP (M.cur C M.rc (by simp)) (GA a b c d);have h2:=bY (M.cur C M.st (by simp));rw[DM]at h2;unfold dA;simp? [h1,h2];by_cases e:i=ps.length
 .rw[iP e,dT0 (by rw[e]),iP rfl]
 .rw[iN e,dF0 (λz=>e (by omega)),iN (by simp)]
theorem Te(M:MS rows ps B ls a b c d)(C:Cur B S d F)(hle:S[le]? =some (.dic E))(hE:cM E){i:Nat}(hi:i<ps.length):dB (EN ls lt le (some (yG i)) none) S=.ok (.next (EN ls lt le (some (yG i)) (some (gR ps i E)))) S:=by
 obtain⟨as,k1,k2⟩:=M.ak;obtain⟨q,k3,k4⟩:=k2 i hi;have h1:=qP (M.cur C M.rc (by simp)) (Cm a b c d);have h2:=cU (M.cur C k1 (by simp)) (pL k3);have h3:=M.cur C k4 (by simp);have hz:=Iv (ps:=ps.drop i) λp hp=>M.pk p (mem_of_mem_drop hp);have hpl:=M.pl;rw[List.length_drop]at hz
 have hc:kO (xD 0) fV bK (CS 1 [2] (EN ls lt le (some (yG i)) none)) [(q,(LX (ps.drop i)).map MV.str)] ((LX (ps.drop i)).map MV.str) S=.ok (vls (ps.drop i) E) S:=
  pK (f:=MV.str) (g:=λx=>(look E (.str x)).getD .non) (bO h3) λx hx=>⟨[some (.str x),some (.loc le)],rfl,rfl,by unfold bK;simp? [DL hle hE,Il hle hE]⟩
 unfold dB;simp? [h1,h2,cV h3,lM,show(LX (ps.drop i)).length<1000000 by omega,hc,JE];rfl
theorem Tf{v:Xc}(V:Vld rows ps F)(C:Cur B S d F)(hE:cM E){i:Nat}(h:look F (gR ps i E)=v):WR false (.val (gR ps i E)) (.val (.loc d)) S=.ok (.val (.bl v.isSome)) S:=by unfold WR;dsimp only;rw[V.dic C.fd];dsimp only;rw[iP (LY hE),h];rfl
def Tg(M:MS rows ps B ls a b c d)(C:Cur B S d F)(V:Vld rows ps F)(hE:cM E)(i:Nat):jY (EN ls lt le (some (yG i)) (some (gR ps i E))) S=match look F (gR ps i E)with |some v=>.ok (.ret (.val v)) S|none=>.ok (.next (EN ls lt le (some (yG i)) (some (gR ps i E)))) S:=by
 have h1:=qP (M.cur C M.rc (by simp)) (OV a b c d)
 cases z:look F (gR ps i E)with
 |none=>
  unfold jY;simp? [h1,Tf V C hE z,Option.isSome,fT,iF]
 |some v=>
  have h2:XA (.val (.loc d)) (.val (gR ps i E)) S=.ok (.val v) S:=by unfold XA;rw[V.dic C.fd];dsimp only;rw[iP (LY hE),z]
  unfold jY;simp? [h1,Tf V C hE z,Option.isSome,h2]
theorem Pd(i:Nat)(hi:i=ps.length)(M:MS rows ps B ls a b c d)(C:Cur B S d F)(ht:S[lt]? =some (.lst T))(hT:T.length=i):zR 3 zT [.val (.loc ls),.val (.loc lt),.val (.loc le)] S=.ok (.val (.bl true)) S:=by refine DF rfl ?_;show yU (zX (EN ls lt le none none) S)=_;unfold zX;have e2:=Pc (lt:=lt) (le:=le) M C T.length;rw[iP (hT.trans hi)]at e2;rw[zC (Pb ht),wW e2];rfl
theorem Pe{v:Bool}{i:Nat}(hi:i<ps.length)(M:MS rows ps B ls a b c d)(C:Cur B S d F)(V:Vld rows ps F)(ht:S[lt]? =some (.lst T))(hT:T.length=i)(hle:S[le]? =some (.dic E))(hE:cM E)(hv:look F (gR ps i E)=some (.bl v)):zR 3 zT [.val (.loc ls),.val (.loc lt),.val (.loc le)] S=.ok (.val (.bl v)) S:=by subst hT;refine DF rfl ?_;show yU (zX (EN ls lt le none none) S)=_;unfold zX;have e2:=Pc (lt:=lt) (le:=le) M C T.length;rw[iN (by omega)]at e2;have e4:=Tg (lt:=lt) (le:=le) M C V hE T.length;rw[hv]at e4;rw[zC (Pb ht),zC e2,zC (Te M C hle hE hi),wW e4];rfl
def Pf{p:Pt}{i:Nat}(hp:ps[i]? =some p)(M:MS rows ps B ls a b c d)(C:Cur B S d F)(V:Vld rows ps F)(hlt:B.length<=lt)(ht:S[lt]? =some (.lst T))(hT:T.length=i)(hle:S[le]? =some (.dic E))(hE:cM E)(hEz:E.length<=1000)(hld:le≠d)(hv:look F (gR ps i E)=none):
  ∃w ws U,zR 3 zT [.val (.loc ls),.val (.loc lt),.val (.loc le)] S=.ok (.val .non) ((S++U).set lt (.lst (T++[.tup [gR ps i E,.loc w]])))/\S.length<=w/\(S++U)[w]? =some (.lst ws)/\Dcs d (S++U) ws (JD rows E p):=by
 subst hT;have hi:=(gS.mp hp).1;have hpl:=M.pl;have hltS:=(gS.mp ht).1;have hdS:=(gS.mp C.fd).1;obtain⟨r,ws,U,g1,g2,g3⟩:=Tc (q:=fM (ps.drop (T.length+1))) (M.pk p (mem_of_getElem? hp)) hle hE hEz (M.cells C) M.rk hdS hld;have e2:=Pc (lt:=lt) (le:=le) M C T.length;rw[iN (by omega)]at e2;have e4:=Tg (lt:=lt) (le:=le) M C V hE T.length;rw[hv]at e4;have h1:=qP (M.cur C M.rc (by simp)) (GA a b c d);have h2:=cU (M.cur C M.st (by simp)) (pL (LW hp));have h3:=qP (M.cur C M.rc (by simp)) (Co a b c d)
 obtain⟨w,U',k1,k2,k3,k4⟩: ∃w U',nA [.val (gR ps T.length E),r] (S++U)=.ok (.val (.tup [gR ps T.length E,.loc w])) (S++U')/\S.length<=w/\(S++U')[w]? =some (.lst ws)/\Dcs d (S++U') ws (JD rows E p):=by
  rcases g3 with rfl|⟨w,rfl,k1,k2⟩
  .refine⟨(S++U).length,U++[.lst ws],?_,by simp,?_,?_⟩
   .rw[rV (by simp), <-aA];rfl
   .rw[<-aA];exact zK _ _
   .refine g2.mono λl o hl _=>?_;rw[<-aA,getElem?_append_left (gS.mp hl).1];exact hl
  .exact⟨w,U,tup2 _ _ _,k1,k2,g2⟩
 have ht':(S++U')[lt]? =some (.lst T):=by rw[getElem?_append_left hltS];exact ht
 have e5:dC (EN ls lt le (some (yG T.length)) (some (gR ps T.length E))) S=.ok (.next (EN ls lt le (some (yG T.length)) (some (gR ps T.length E)))) ((S++U').set lt (.lst (T++[.tup [gR ps T.length E,.loc w]]))):=by unfold dC;simp? [kR ht,h1,h2,h3,g1,k1,hX ht' (show T.length<1000000 by omega)]
 have hF:zT [.loc ls,.loc lt,.loc le] S=.ok (.val .non) ((S++U').set lt (.lst (T++[.tup [gR ps T.length E,.loc w]]))):=by show yU (zX (EN ls lt le none none) S)=_;unfold zX;rw[zC (Pb ht),zC e2,zC (Te M C hle hE hi),zC e4,zC e5];rfl
 refine⟨w,ws,U',?_,k2,k3,k4⟩;unfold zR;rw[iP (show [Er.val (.loc ls),.val (.loc lt),.val (.loc le)].length=3 from rfl),show zM [.val (.loc ls),.val (.loc lt),.val (.loc le)] S=([.loc ls,.loc lt,.loc le],S)from rfl,hF];show bD S (.val .non) _=_;unfold bD;rw[iN];rintro⟨_,hc⟩;have hat:((S++U').set lt (.lst (T++[.tup [gR ps T.length E,.loc w]])))[lt]? =some (.lst (T++[.tup [gR ps T.length E,.loc w]])):=get_set ht';rcases hc lt hltS with e|⟨o,e,ho⟩
 .rw[hat,ht]at e;have:=congrArg List.length (MO.lst.inj (Option.some.inj e));simp at this
 .rw[hat]at e;cases e;have hx:=UV (show pZ _ _ from ho) (.tup [gR ps T.length E,.loc w]) (by simp);unfold lo pZ at hx;have hx:=hx.2;unfold pZ at hx;have hx:=hx.1;unfold lo at hx;omega
end
abbrev HW(ls:Nat)(v:MV)(lt:Nat)(to st wy se:Xc):Rho:=[some (.loc ls),some v,some (.loc lt),to,st,wy,se]
def Ui(n:Nat):Pt->Nat
 |.same _ _=>1
 |.quan _ _ _=>n
def GB(n:Nat):List Pt->Nat
 |[]=>0
 |p::ps=>1+Ui n p * (1+GB n ps)
def Iw(rows:List Rw)(E:Ev)(p:Pt):(JD rows E p).length<=Ui rows.length p:=by
 cases p with
 |same a b=>
  rw[pO];split
  .exact Nat.le_refl 1
  .exact zero_le 1
 |quan x t tms=>
  rw[lX];exact Nat.le_trans (List.length_filterMap_le _ _) (List.length_filter_le _ _)
def Iy{α:Type}(xs:List α)(x:α):tM (xs++[x]) (-1)=some x:=by
 unfold tM
 rw[show MW (xs++[x]).length (-1)=some xs.length from by
  unfold MW;rw[lA,lS];have h1: ¬((0:Int)<= -1):=by decide
  simp only[h1,iF];split
  .congr 1;omega
  .omega]
 simp
theorem Cp(p:Pt):(!decide (RY p=XE))=p.ex:=by
 cases p with
 |same a b=>rfl
 |quan x t tms=>cases x<;>rfl
def ne_str(x y:Db)(S:Sto):GM (.val (.str x)) (.val (.str y)) S=.ok (.val (.bl (!decide (x=y)))) S:=KG (KE _ x y)
theorem Th(ps:List Pt)(i:Nat)(E:Ev)(S:Sto):yX (.val (gR ps i E)) (.val (.int 0)) S=.ok (.val (yG i)) S:=rfl
def Ti(p:Pt)(to:MV):Prop:=to=.non\/to=.bl (!p.ex)
theorem Cq{p:Pt}{to:MV}(h:Ti p to)(S:Sto):GM (.val to) (.val (.bl p.ex)) S=.ok (.val (.bl true)) S:=by
 rcases h with rfl|rfl
 .cases p.ex<;>rfl
 .rw[ne_bl];cases p.ex<;>rfl
section
variable{rows:List Rw}{ps:List Pt}{B S:Sto}{ls a b c d lt:Nat}{F E:Ev}{T:Xb}{v:MV}{i w:Nat}{p:Pt}{ws:Xb}
def UW(hp:ps[i]? =some p)(M:MS rows ps B ls a b c d)(C:Cur B S d F)(ht:S[lt]? =some (.lst (T++[.tup [gR ps i E,.loc w]])))(to st wy se:Xc):
  yO (HW ls v lt to st wy se) S=xP (HW ls v lt to (some (gR ps i E)) (some (.loc w)) (some (.bl p.ex))) S:=by
 have h1:=qP (M.cur C M.rc (by simp)) (GA a b c d);have h2:=cU (M.cur C M.st (by simp)) (pL (LW hp));have h3:=cU ht (Iy _ _);have e1:kG (HW ls v lt to st wy se) S=.ok (.next (HW ls v lt to (some (gR ps i E)) wy se)) S:=by unfold kG;simp? [h3,pI]
 have e2:kH (HW ls v lt to (some (gR ps i E)) wy se) S=.ok (.next (HW ls v lt to (some (gR ps i E)) (some (.loc w)) se)) S:=by unfold kH;simp? [h3,lW]
 have e3:kI (HW ls v lt to (some (gR ps i E)) (some (.loc w)) se) S=.ok (.next (HW ls v lt to (some (gR ps i E)) (some (.loc w)) (some (.bl p.ex)))) S:=by unfold kI;simp? [h1,Th,h2,Ce,ne_str,Cp]
 unfold yO;rw[zC e1,zC e2,zC e3]
def Ki{x:MV}(ht:S[lt]? =some (.lst (T++[x])))(to st wy se:Xc):xA (HW ls v lt to st wy se) S=.ok true S:=by unfold xA;simp? [DG ht];simp
theorem OW(a b c d:Nat):List.lookup ("enter":Str) (Dy a b c d)=none:=rfl
def Kj(M:MS rows ps B ls a b c d)(C:Cur B S d F):EX "Reading" (.val (.loc ls)) S=some (ls,Dy a b c d):=by unfold EX;dsimp only;rw[M.cur C M.rc (by simp)];dsimp only;rw[iP rfl]
def Tj(hp:ps[i]? =some p)(M:MS rows ps B ls a b c d)(C:Cur B S d F)(ht:S[lt]? =some (.lst (T++[.tup [gR ps i E,.loc w]]))){e:Nat}(hw:S[w]? =some (.lst (ws++[.loc e]))){to r:MV}(hto:Ti p to){S2:Sto}(hc:zR 3 zT [.val (.loc ls),.val (.loc lt),.val (.loc e)] (S.set w (.lst ws))=.ok (.val r) S2)(st wy se:Xc):
  yO (HW ls v lt (some to) st wy se) S=.ok (.next (HW ls v lt (some r) (some (gR ps i E)) (some (.loc w)) (some (.bl p.ex)))) S2:=by
 rw[UW hp M C ht];unfold xP;have hne:(ws++[MV.loc e]).isEmpty=false:=by cases ws<;>rfl
 simp? [Cq hto,DG hw,hne,Bool.not_false];unfold RJ;simp? [Kj M C,OW,kR hw,UM hw,hc]
def Pg(hE:cM E)(hp:ps[i]? =some p)(M:MS rows ps B ls a b c d)(C:Cur B S d F)(V:Vld rows ps F)(hlt:B.length<=lt)(hFz:F.length<1000000)(ht:S[lt]? =some (.lst (T++[.tup [gR ps i E,.loc w]])))(hw:S[w]? =some (.lst ws)){to:MV}{x:Bool}(hto:(Ti p to/\ws=[]/\x= !p.ex)\/(to=.bl p.ex/\x=p.ex))(st wy se:Xc):
  yO (HW ls v lt (some to) st wy se) S=.ok (.next (HW ls v lt (some (.bl x)) (some (gR ps i E)) (some (.loc w)) (some (.bl p.ex)))) ((S.set d (.dic (putK F (gR ps i E) (.bl x)))).set lt (.lst T)):=by
 rw[UW hp M C ht];have hdB:=(gS.mp M.dd).1;have h1:=qP (M.cur C M.rc (by simp)) (OV a b c d);have hs:IL (.val (.loc d)) (.val (gR ps i E)) (.bl x) (HW ls v lt (some (.bl x)) (some (gR ps i E)) (some (.loc w)) (some (.bl p.ex))) S=.ok (HW ls v lt (some (.bl x)) (some (gR ps i E)) (some (.loc w)) (some (.bl p.ex))) (S.set d (.dic (putK F (gR ps i E) (.bl x)))):=by unfold IL;dsimp only;rw[V.dic C.fd];dsimp only;rw[iP ⟨LY hE,hFz⟩]
 have ht':(S.set d (.dic (putK F (gR ps i E) (.bl x))))[lt]? =some (.lst (T++[.tup [gR ps i E,.loc w]])):=by rw[zZ (by omega)];exact ht
 have e2:EJ (vJ 3) (DJ IL (bJ (vJ 0) (iO "Reading" "found")) (vJ 4)) (HW ls v lt (some (.bl x)) (some (gR ps i E)) (some (.loc w)) (some (.bl p.ex))) S=.ok (.next (HW ls v lt (some (.bl x)) (some (gR ps i E)) (some (.loc w)) (some (.bl p.ex)))) (S.set d (.dic (putK F (gR ps i E) (.bl x)))):=by simp? [mV,h1,hs]
 have e3:BJ (gJ bE BW (vJ 2)) (HW ls v lt (some (.bl x)) (some (gR ps i E)) (some (.loc w)) (some (.bl p.ex))) (S.set d (.dic (putK F (gR ps i E) (.bl x))))=.ok (.next (HW ls v lt (some (.bl x)) (some (gR ps i E)) (some (.loc w)) (some (.bl p.ex)))) ((S.set d (.dic (putK F (gR ps i E) (.bl x)))).set lt (.lst T)):=by simp? [kR ht',UM ht']
 unfold xP;rcases hto with⟨h,rfl,rfl⟩|⟨rfl,rfl⟩
 .have hn:=Cq h S;have hem:([]:Xb).isEmpty=true:=rfl;have e1:iJ (bJ (dJ GM (vJ 3) (vJ 6)) gC) (CJ (nJ (vJ 6)) 3) JJ (HW ls v lt (some to) (some (gR ps i E)) (some (.loc w)) (some (.bl p.ex))) S=.ok (.next (HW ls v lt (some (.bl (!p.ex))) (some (gR ps i E)) (some (.loc w)) (some (.bl p.ex)))) S:=by simp? [hn]
  simp? [hn,DG hw,hem,Bool.not_true,fT,iF];rw[zC e1,zC e2,e3]
 .have hn: ∀S,GM (.val (.bl p.ex)) (.val (.bl p.ex)) S=.ok (.val (.bl false)) S:=λS=>by rw[ne_bl];cases p.ex<;>rfl
  have e1:iJ (bJ (dJ GM (vJ 3) (vJ 6)) gC) (CJ (nJ (vJ 6)) 3) JJ (HW ls v lt (some (.bl p.ex)) (some (gR ps i E)) (some (.loc w)) (some (.bl p.ex))) S=.ok (.next (HW ls v lt (some (.bl p.ex)) (some (gR ps i E)) (some (.loc w)) (some (.bl p.ex)))) S:=by simp? [hn,fT,iF]
  simp? [hn,fT,iF];rw[zC e1,zC e2,e3]
end
def Kp(S S':Sto)(xs:Db):Prop:=S.length<=S'.length/\ ∀l,l<S.length->l∉xs->S'[l]? =S[l]?
def Kp.refl(S:Sto)(xs:Db):Kp S S xs:=⟨Nat.le_refl _,λ_ _ _=>rfl⟩
def Kp.trans{S S' S'':Sto}{xs:Db}(h:Kp S S' xs)(h':Kp S' S'' xs):Kp S S'' xs:=⟨Nat.le_trans h.1 h'.1,λl hl hn=>by rw[h'.2 l (Nat.lt_of_lt_of_le hl h.1) hn,h.2 l hl hn]⟩
def Kp.sub{S S':Sto}{xs ys:Db}(h:Kp S S' xs)(f: ∀x∈xs,x∈ys):Kp S S' ys:=⟨h.1,λl hl hn=>h.2 l hl λz=>hn (f l z)⟩
def Kp.set(S:Sto){l:Nat}(o:MO){xs:Db}(h:l∈xs):Kp S (S.set l o) xs:=⟨by rw[List.length_set];exact Nat.le_refl _,λk _ hn=>zZ λe=>hn (e▸h)⟩
def Kp.app(S T:Sto)(xs:Db):Kp S (S++T) xs:=⟨by rw[lA];omega,λl hl _=>getElem?_append_left hl⟩
def Kp.at{S S':Sto}{xs:Db}(h:Kp S S' xs){l:Nat}{o:MO}(e:S[l]? =some o)(hn:l∉xs):S'[l]? =some o:=by rw[h.2 l (gS.mp e).1 hn];exact e
def Cur.kp{B S S':Sto}{d:Nat}{F F':Ev}{xs:Db}(C:Cur B S d F)(k:Kp S S' xs)(hx: ∀x∈xs,x=d\/B.length<=x)(hd:S'[d]? =some (.dic F')):Cur B S' d F':=
 ⟨Nat.le_trans C.len k.1,λl hl hn=>by rw[k.2 l (Nat.lt_of_lt_of_le hl C.len) (λz=>(hx l z).elim hn λq=>by omega),C.old l hl hn],hd⟩
def res(rows:List Rw)(p:Pt)(rest:List Pt)(Gs:List Ev):Bool:=if p.ex=true then Gs.any (hold rows rest)else Gs.all (hold rows rest)
theorem pQ(rows:List Rw)(p:Pt)(rest:List Pt)(E:Ev):hold rows (p::rest) E=res rows p rest (JD rows E p):=by
 conv=>lhs;unfold hold
 rfl
theorem Iz(rows:List Rw)(p:Pt)(rest:List Pt):res rows p rest []= !p.ex:=by unfold res;cases p.ex<;>rfl
def Cr{rows:List Rw}{p:Pt}{rest:List Pt}{Gs:List Ev}{G:Ev}(h:hold rows rest G=p.ex):res rows p rest (Gs++[G])=p.ex:=by unfold res;rw[List.any_append,List.all_append];simp only[List.any_cons,List.all_cons,List.any_nil,List.all_nil,h];cases p.ex<;>simp
def Ph{rows:List Rw}{p:Pt}{rest:List Pt}{Gs:List Ev}{G:Ev}(h:hold rows rest G= !p.ex):res rows p rest (Gs++[G])=res rows p rest Gs:=by unfold res;rw[List.any_append,List.all_append];simp only[List.any_cons,List.all_cons,List.any_nil,List.all_nil,h];cases p.ex<;>simp
def Ja{rows:List Rw}{E G:Ev}{p:Pt}(hp:rE p)(h:G∈JD rows E p):G.length<=E.length+100:=by
 cases p with
 |same a b=>
  rw[pO]at h;split at h
  .rw[mS.mp h];omega
  .simp at h
 |quan x t tms=>
  rw[lX]at h;obtain⟨r,_,hr⟩:=mem_filterMap.mp h;have:=tI _ _ _ _ hr;have:tms.length<=100:=hp.2;omega
abbrev WL(N:Nat)(ρ:Rho)(S:Sto):R Fl:=gH xA yO N ρ S
section
variable{rows:List Rw}{ps:List Pt}{B:Sto}{ls a b c d lt:Nat}{v:MV}
structure Fn(rows:List Rw)(ps:List Pt)(B:Sto)(ls d lt:Nat)(v:MV)(n:Nat)(S0:Sto)(F:Ev)(T:Xb)(xs:Db)(ρ:Rho)(S:Sto)(x:Bool):Prop where
 go: ∃k st wy se F' S',k<=n/\(∀N,WL (k+N) ρ S=WL N (HW ls v lt (some (.bl x)) st wy se) S')/\Cur B S' d F'/\Vld rows ps F'/\S'[lt]? =some (.lst T)/\Kp S0 S' xs/\F'.length<=F.length+n
def Cs{S:Sto}{F E:Ev}{T:Xb}{i w:Nat}{p:Pt}{ws:Xb}(hE:cM E)(hp:ps[i]? =some p)(M:MS rows ps B ls a b c d)(C:Cur B S d F)(V:Vld rows ps F)(hlt:B.length<=lt)(hFz:F.length<1000000)(ht:S[lt]? =some (.lst (T++[.tup [gR ps i E,.loc w]])))(hw:S[w]? =some (.lst ws)){to:MV}{x:Bool}(hx:x=hold rows (ps.drop i) E)(hto:(Ti p to/\ws=[]/\x= !p.ex)\/(to=.bl p.ex/\x=p.ex))(st wy se:Xc):
  Fn rows ps B ls d lt v 1 S F T [lt,d] (HW ls v lt (some to) st wy se) S x:=by
 have hb:=Pg (v:=v) hE hp M C V hlt hFz ht hw hto st wy se;have hdB:=(gS.mp M.dd).1;have k1:Kp S (S.set d (.dic (putK F (gR ps i E) (.bl x)))) [lt,d]:=Kp.set _ _ (by simp);have k2:=k1.trans (Kp.set _ (.lst T) (show lt∈[lt,d] by simp));have hd':((S.set d (.dic (putK F (gR ps i E) (.bl x)))).set lt (.lst T))[d]? =some (.dic (putK F (gR ps i E) (.bl x))):=by rw[zZ (by omega)];exact get_set C.fd
 refine⟨1,some (gR ps i E),some (.loc w),some (.bl p.ex),putK F (gR ps i E) (.bl x),_,Nat.le_refl _,λN=>?_,C.kp k2 (λy hy=>?_) hd',?_,get_set (by rw[zZ (by omega)];exact ht),k2,OU _ _ _⟩
 .show gH _ _ (1+N) _ _=_;rw[Nat.add_comm,uG (Ki ht _ _ _ _) hb]
 .simp only[mC,nM,or_false]at hy;rcases hy with rfl|rfl
  .exact .inr hlt
  .exact .inl rfl
 .subst hx;exact V.put hE
theorem Kk(M:MS rows ps B ls a b c d)(hlt:B.length<=lt){E:Ev}(hE:cM E){T:Xb}{i w:Nat}{p:Pt}{m:Nat}(hp:ps[i]? =some p)(hT:T.length=i)
  (ih: ∀(S:Sto)(F G:Ev)(T':Xb)(e:Nat)(st wy se:Xc),Cur B S d F->Vld rows ps F->S[lt]? =some (.lst T')->T'.length=i+1->S[e]? =some (.dic G)->cM G->G.length+100 * m<=1000->e≠d->F.length+GB rows.length (ps.drop (i+1))<1000000->
   ∃r S1,zR 3 zT [.val (.loc ls),.val (.loc lt),.val (.loc e)] S=.ok (.val r) S1/\Fn rows ps B ls d lt v (GB rows.length (ps.drop (i+1))) S F T' [lt,d] (HW ls v lt (some r) st wy se) S1 (hold rows (ps.drop (i+1)) G)):
  ∀(n:Nat)(ws:Xb)(Gs:List Ev)(S:Sto)(F:Ev)(to:MV)(st wy se:Xc),ws.length=n->Cur B S d F->Vld rows ps F->S[lt]? =some (.lst (T++[.tup [gR ps i E,.loc w]]))->S[w]? =some (.lst ws)->Dcs d S ws Gs->lt<w->Ti p to->res rows p (ps.drop (i+1)) Gs=hold rows (ps.drop i) E->(∀G∈Gs,G.length+100 * m<=1000)->F.length+(1+n * (1+GB rows.length (ps.drop (i+1))))<1000000->
   Fn rows ps B ls d lt v (1+n * (1+GB rows.length (ps.drop (i+1)))) S F T [lt,d,w] (HW ls v lt (some to) st wy se) S (hold rows (ps.drop i) E)
 |0,ws,Gs,S,F,to,st,wy,se,hn,C,V,ht,hw,hD,hltw,hto,hres,hG,hF=>by have hws:=List.length_eq_zero_iff.mp hn;subst hws;have hGs:Gs=[]:=List.length_eq_zero_iff.mp hD.len.symm;subst hGs;rw[Iz]at hres;obtain⟨k,st',wy',se',F',S',h1,h2,h3,h4,h5,h6,h7⟩:=(Cs (v:=v) hE hp M C V hlt (by omega) ht hw (x:=hold rows (ps.drop i) E) rfl (.inl ⟨hto,rfl,hres.symm⟩) st wy se).go;exact⟨k,st',wy',se',F',S',by omega,h2,h3,h4,h5,h6.sub λx hx=>by simp only[mC,nM,or_false]at hx ⊢; rcases hx with h|h<;>simp[h],by omega⟩
 |n+1,ws,Gs,S,F,to,st,wy,se,hn,C,V,ht,hw,hD,hltw,hto,hres,hG,hF=>by
  have hdB:=(gS.mp M.dd).1;rcases List.eq_nil_or_concat ws with rfl|⟨ws,x,rfl⟩
  .simp at hn
  .rw[List.concat_eq_append]at *;obtain⟨Gs,G,e,rfl,hD',rfl,hed,he,hGk⟩:=hD.last;rw[lA,lS]at hn;have hmul:(n+1) * (1+GB rows.length (ps.drop (i+1)))=n * (1+GB rows.length (ps.drop (i+1)))+(1+GB rows.length (ps.drop (i+1))):=Nat.succ_mul _ _;rw[hmul]at hF ⊢;have hwe:w≠e:=λz=>by subst z;rw[hw]at he;cases he
   have k0:Kp S (S.set w (.lst ws)) [lt,d,w]:=Kp.set _ _ (by simp);have k0':Kp S (S.set w (.lst ws)) [w]:=Kp.set _ _ (by simp);have C0:Cur B (S.set w (.lst ws)) d F:=C.kp k0' (λy hy=>.inr (by rw[mS.mp hy];omega)) (by rw[zZ (by omega)];exact C.fd);obtain⟨r,S1,g1,g2⟩:=ih (S.set w (.lst ws)) F G (T++[.tup [gR ps i E,.loc w]]) e (some (gR ps i E)) (some (.loc w)) (some (.bl p.ex)) C0 V (by rw[zZ (by omega)];exact ht) (by rw[lA,hT];rfl) (by rw[zZ hwe];exact he) hGk (hG G (by simp)) hed (by omega);have hb:=Tj (v:=v) hp M C ht hw hto g1 st wy se;obtain⟨k,st1,wy1,se1,F1,S2,j1,j2,j3,j4,j5,j6,j7⟩:=g2.go;have hw2:S2[w]? =some (.lst ws):=j6.at (get_set hw) (by simp only[mC,nM,or_false];omega);have kS2:Kp S S2 [lt,d,w]:=k0.trans (j6.sub λx hx=>by simp only[mC,nM,or_false]at hx ⊢; rcases hx with h|h<;>simp[h]);have first: ∀N,WL (1+k+N) (HW ls v lt (some to) st wy se) S=WL N (HW ls v lt (some (.bl (hold rows (ps.drop (i+1)) G))) st1 wy1 se1) S2:=λN=>by show gH _ _ (1+k+N) _ _=_;rw[show 1+k+N=(k+N)+1 by omega,uG (Ki ht _ _ _ _) hb];exact j2 N
   have hD2:Dcs d S2 ws Gs:=hD'.mono λl o hl hld=>by
    have h1:l≠w:=λz=>by subst z;rw[hw]at hl;cases hl
    have h2:l≠lt:=λz=>by subst z;rw[ht]at hl;cases hl
    exact j6.at (by rw[zZ (Ne.symm h1)];exact hl) (by simp only[mC,nM,or_false];omega)
   by_cases hb1:hold rows (ps.drop (i+1)) G=p.ex
   .have hr:=Cr (Gs:=Gs) hb1;rw[hres]at hr;obtain⟨k',st',wy',se',F',S',h1,h2,h3,h4,h5,h6,h7⟩:=(Cs (v:=v) (to:=.bl p.ex) hE hp M j3 j4 hlt (by omega) j5 hw2 (x:=hold rows (ps.drop i) E) rfl (.inr ⟨rfl,hr⟩) st1 wy1 se1).go;refine⟨1+k+k',st',wy',se',F',S',by omega,λN=>?_,h3,h4,h5,kS2.trans (h6.sub λx hx=>by simp only[mC,nM,or_false]at hx ⊢; rcases hx with h|h<;>simp[h]),by omega⟩;rw[add_assoc,first,hb1];exact h2 N
   .have hb2:hold rows (ps.drop (i+1)) G= !p.ex:=by revert hb1;cases hold rows (ps.drop (i+1)) G<;>cases p.ex<;>simp
    rw[Ph hb2]at hres;obtain⟨k',st',wy',se',F',S',h1,h2,h3,h4,h5,h6,h7⟩:=(Kk M hlt hE hp hT ih n ws Gs S2 F1 (.bl (!p.ex)) st1 wy1 se1 (by omega) j3 j4 j5 hw2 hD2 hltw (.inr rfl) hres (λG' hG'=>hG G' (by simp[hG'])) (by omega)).go;refine⟨1+k+k',st',wy',se',F',S',by omega,λN=>?_,h3,h4,h5,kS2.trans h6,by omega⟩;rw[add_assoc,first,hb2];exact h2 N
theorem Kl(M:MS rows ps B ls a b c d)(hlt:B.length<=lt): ∀(m i:Nat),i+m=ps.length-> ∀(S:Sto)(F E:Ev)(T:Xb)(le:Nat)(st wy se:Xc),Cur B S d F->Vld rows ps F->S[lt]? =some (.lst T)->T.length=i->S[le]? =some (.dic E)->cM E->E.length+100 * m<=1000->le≠d->F.length+GB rows.length (ps.drop i)<1000000->
   ∃r S1,zR 3 zT [.val (.loc ls),.val (.loc lt),.val (.loc le)] S=.ok (.val r) S1/\Fn rows ps B ls d lt v (GB rows.length (ps.drop i)) S F T [lt,d] (HW ls v lt (some r) st wy se) S1 (hold rows (ps.drop i) E)
 |0,i,him,S,F,E,T,le,st,wy,se,C,V,ht,hT,hle,hE,hEz,hld,hF=>by
  have hi:i=ps.length:=by omega
  have hdr:ps.drop i=[]:=by rw[hi];exact drop_length
  refine⟨_,S,Pd i hi M C ht hT,?_⟩;rw[hdr];exact⟨0,st,wy,se,F,S,Nat.le_refl _,λN=>by rw[Nat.zero_add];rfl,C,V,ht,Kp.refl _ _,by omega⟩
 |m+1,i,him,S,F,E,T,le,st,wy,se,C,V,ht,hT,hle,hE,hEz,hld,hF=>by
  have hi:i<ps.length:=by omega
  obtain⟨p,hp⟩: ∃p,ps[i]? =some p:=⟨_,gE hi⟩
  have hdr:ps.drop i=p::ps.drop (i+1):=by rw[List.drop_eq_getElem_cons hi];rw[gE hi]at hp;cases hp;rfl
  cases z:look F (gR ps i E)with
  |some u=>
   have hu:=V.look hE z;subst hu;exact⟨_,S,Pe hi M C V ht hT hle hE z,⟨0,st,wy,se,F,S,zero_le _,λN=>by rw[Nat.zero_add],C,V,ht,Kp.refl _ _,by omega⟩⟩
  |none=>
   obtain⟨w,ws,U,g1,g2,g3,g4⟩:=Pf hp M C V hlt ht hT hle hE (by omega) hld z;have hltS:=(gS.mp ht).1;have hdS:=(gS.mp C.fd).1;have hdB:=(gS.mp M.dd).1;obtain⟨S1,hS1⟩: ∃S1,S1=(S++U).set lt (.lst (T++[.tup [gR ps i E,.loc w]])):=⟨_,rfl⟩
   rw[<-hS1]at g1;have k1:Kp S S1 [lt,d]:=by rw[hS1];exact(Kp.app S U _).trans (Kp.set _ _ (by simp))
   have k2:Kp (S++U) S1 [lt]:=by rw[hS1];exact Kp.set _ _ (by simp)
   have C1:Cur B S1 d F:=C.kp ((Kp.app S U [lt]).trans k2) (λy hy=>.inr (by rw[mS.mp hy];exact hlt)) (k2.at (by rw[getElem?_append_left hdS];exact C.fd) (by simp only[mC,nM,or_false];omega));have ht1:S1[lt]? =some (.lst (T++[.tup [gR ps i E,.loc w]])):=by rw[hS1];exact get_set (by rw[getElem?_append_left hltS];exact ht)
   have hw1:S1[w]? =some (.lst ws):=k2.at g3 (by simp only[mC,nM,or_false];omega);have hD1:Dcs d S1 ws (JD rows E p):=g4.mono λl o hl _=>k2.at hl (by simp only[mC,nM,or_false];rintro rfl;rw[getElem?_append_left hltS,ht]at hl;cases hl);have hpk:=M.pk p (mem_of_getElem? hp);have hlen:=Iw rows E p;have hcst:GB rows.length (ps.drop i)=1+Ui rows.length p * (1+GB rows.length (ps.drop (i+1))):=by rw[hdr];rfl
   have hle1:ws.length * (1+GB rows.length (ps.drop (i+1)))<=Ui rows.length p * (1+GB rows.length (ps.drop (i+1))):=Nat.mul_le_mul_right _ (by rw[g4.len];exact hlen);have hih:=λS F G T' e st wy se=>Kl M hlt m (i+1) (by omega) S F G T' e st wy se;have fn:=Kk (v:=v) (m:=m) M hlt hE hp hT hih ws.length ws (JD rows E p) S1 F .non st wy se rfl C1 V ht1 hw1 hD1 (by omega) (.inl rfl) (by rw[hdr,pQ]) (λG hG=>by have:=Ja hpk hG;omega) (by omega);refine⟨.non,S1,g1,?_⟩;obtain⟨k,st',wy',se',F',S',h1,h2,h3,h4,h5,h6,h7⟩:=fn.go;refine⟨k,st',wy',se',F',S',by omega,h2,h3,h4,h5,⟨Nat.le_trans k1.1 h6.1,λl hl hn=>?_⟩,by omega⟩;rw[h6.2 l (Nat.lt_of_lt_of_le hl k1.1) (by simp only[mC,nM,or_false]at hn ⊢; omega),k1.2 l hl hn]
end
def Km{n:Nat}{p:Pt}{q:MV}(h:rE p)(hq:lo n q):lo n (pM p q):=by
 cases p with
 |same a b=>
  refine rR (gK λx hx=>?_);simp only[mC,nM,or_false]at hx;rcases hx with rfl|rfl|rfl|rfl
  .exact AS _ _
  .exact UT (h.1 _ (by simp[Pt.tms])) _
  .exact UT (h.1 _ (by simp[Pt.tms])) _
  .exact hq
 |quan x t tms=>
  refine rR (gK λy hx=>?_);simp only[mC,nM,or_false]at hx;rcases hx with rfl|rfl|rfl|rfl
  .exact AS _ _
  .exact uF _ _
  .exact rR (gK λu hu=>UT (h.1 u hu) _)
  .exact hq
theorem Kn{n:Nat}: ∀{ps:List Pt},(∀p∈ps,rE p)->lo n (fM ps)
 |[],_=>rR (gK λx hx=>by rw[mS.mp hx];exact AS _ _)
 |p::ps,h=>Km (h p mF0) (Kn λq hq=>h q (mO _ hq))
theorem Ct{n:Nat}: ∀{ps:List Pt},(∀p∈ps,rE p)->pZ n (CD ps)
 |[],_=>gK λx hx=>by simp[CD]at hx
 |p::ps,h=>by unfold CD pZ;exact⟨Km (h p mF0) (Kn λq hq=>h q (mO _ hq)),Ct λq hq=>h q (mO _ hq)⟩
abbrev PO(f:MV)(l:Nat)(i:MV):Rho:=[some f,some (.loc l),some i]
theorem Jb(p:Pt):(!decide (RY p=Ow))=true:=by
 cases p with
 |same a b=>rfl
 |quan x t tms=>cases x<;>rfl
theorem OX{f:MV}{S:Sto}: ∀(ps:List Pt)(xs:Xb)(N:Nat),ps.length<N->xs.length+ps.length<1000->gH jN iA N (PO f S.length (fM ps)) (S++[.lst xs])=.ok (.next (PO f S.length (fM []))) (S++[.lst (xs++CD ps)])
 |[],xs,N+1,_,_=>by
  have ht:jN (PO f S.length (fM [])) (S++[.lst xs])=.ok false (S++[.lst xs]):=by unfold jN;simp? [show∀Z,yX (.val (fM [])) (.val (.int 0)) Z=.ok (.val (.str Ow)) Z from λ_=>rfl,ne_str,decide_true];rfl
  rw[IH ht];unfold CD;rw[aN]
 |p::ps,xs,N+1,hN,hl=>by
  rw[lC]at hN hl;have ht:jN (PO f S.length (fM (p::ps))) (S++[.lst xs])=.ok true (S++[.lst xs]):=by unfold jN;simp? [show∀Z,yX (.val (fM (p::ps))) (.val (.int 0)) Z=.ok (.val (.str (RY p))) Z from λZ=>Ce p (fM ps) Z,ne_str,Jb]
  have hb:iA (PO f S.length (fM (p::ps))) (S++[.lst xs])=.ok (.next (PO f S.length (fM ps))) (S++[.lst (xs++[pM p (fM ps)])]):=by
   unfold iA;have e1:iS (PO f S.length (fM (p::ps))) (S++[.lst xs])=.ok (.next (PO f S.length (fM (p::ps)))) (S++[.lst (xs++[pM p (fM ps)])]):=by unfold iS;simp? [kR (zK S (.lst xs)),hX (d:=fM (p::ps)) (zK S (.lst xs)) (show xs.length<1000000 by omega),wX];rfl
   rw[zC e1];unfold sF;simp? [show∀Z,yX (.val (fM (p::ps))) (.val (.int (-1))) Z=.ok (.val (fM ps)) Z from λZ=>pM_m p (fM ps) Z]
  rw[uG ht hb,OX ps (xs++[pM p (fM ps)]) N (by omega) (by rw[lA,lS];omega),aA];rfl
def Cu{ps:List Pt}(h: ∀p∈ps,rE p)(hl:ps.length<=100)(S:Sto):zR 1 cF [.val (fM ps)] S=.ok (.new (CD ps)) S:=by
 have e1:qF [some (fM ps),none,none] S=.ok (.next [some (fM ps),some (.loc S.length),none]) (S++[.lst []]):=by unfold qF;simp? []
 have e2:qG [some (fM ps),some (.loc S.length),none] (S++[.lst []])=.ok (.next (PO (fM ps) S.length (fM ps))) (S++[.lst []]):=by unfold qG;simp? []
 have e3:vQ (PO (fM ps) S.length (fM ps)) (S++[.lst []])=.ok (.next (PO (fM ps) S.length (fM []))) (S++[.lst (CD ps)]):=OX ps [] 10000 (by omega) (by simp only[List.length_nil];omega);have hF:cF [fM ps] S=.ok (.val (.loc S.length)) (S++[.lst (CD ps)]):=by show yU (uO [some (fM ps),none,none] S)=_;unfold uO;rw[zC e1,zC e2,zC e3];rfl
 exact eB rfl hF (Nat.le_refl _) (zK _ _) (Ct h)
def PP(p:Pt):MV:=.tup [.str (RY p),.tup p.tms]
abbrev D4(m:MV)(n:Nat)(a t:Xc):Rho:=[some m,some (.loc n),a,t]
theorem BF{S:Sto}{m:MV}{a:Xc}: ∀(tms:Xb),(∀d∈tms,lV d)-> ∀(ks:Ch)(t:Xc),ks.length+tms.length<100000->
  ∃t',xY (xD 3) fY [] tms (D4 m S.length a t) (S++[.dic (dT ks)])=.ok (.next (D4 m S.length a t')) (S++[.dic (dT (BD ks (tms.filterMap vn)))])
 |[],_,ks,t,_=>⟨t,rfl⟩
 |d::tms,hT,ks,t,hl=>by
  rw[lC]at hl;rcases hT d mF0 with⟨x,rfl⟩|⟨v,hv,rfl⟩
  .have hal:=OO ks x;obtain⟨t',ih⟩:=BF (S:=S) (m:=m) (a:=a) tms (λe he=>hT e (mO _ he)) (BC ks x) (some (.tup [.str pT,.str x])) (by omega);refine⟨t',?_⟩;rw[yI (show xD 3 (.tup [.str pT,.str x]) (D4 m S.length a t) (S++[.dic (dT ks)])=.ok (D4 m S.length a (some (.tup [.str pT,.str x]))) (S++[.dic (dT ks)])from rfl) (ρ':=D4 m S.length a (some (.tup [.str pT,.str x]))) (S':=S++[.dic (dT (BC ks x))]) ?_ (bF _)]
   .rw[filterMap_cons,LQ];exact ih
   .unfold fY iQ;simp? [pI,lW,vU,mV,Ic (zK S (.dic (dT ks))) (show ks.length<1000000 by omega),wX]
  .obtain⟨t',ih⟩:=BF (S:=S) (m:=m) (a:=a) tms (λe he=>hT e (mO _ he)) ks (some (.tup [.str IS,v])) (by omega);refine⟨t',?_⟩;rw[yI (show xD 3 (.tup [.str IS,v]) (D4 m S.length a t) (S++[.dic (dT ks)])=.ok (D4 m S.length a (some (.tup [.str IS,v]))) (S++[.dic (dT ks)])from rfl) (ρ':=D4 m S.length a (some (.tup [.str IS,v]))) (S':=S++[.dic (dT ks)]) ?_ (bF _)]
   .rw[filterMap_cons,UR];exact ih
   .unfold fY iQ;simp? [pI,lW,ON,fT,iF]
def Cv: ∀(xs ys ks:Ch),BD ks (xs++ys)=BD (BD ks xs) ys:=λxs ys ks=>List.foldl_append
theorem UX{S:Sto}{m:MV}{gs:Xe}(hgs: ∀ks,stay gs (S++[.dic (dT ks)])): ∀(ps:List Pt),(∀p∈ps,rE p)-> ∀(ks:Ch)(a t:Xc),ks.length+100 * ps.length<50000->
  ∃a' t',xY (xD 2) fZ gs (ps.map PP) (D4 m S.length a t) (S++[.dic (dT ks)])=.ok (.next (D4 m S.length a' t')) (S++[.dic (dT (BD ks (ps.flatMap Pt.nms)))])
 |[],_,ks,a,t,_=>⟨a,t,rfl⟩
 |p::ps,h,ks,a,t,hl=>by
  rw[lC]at hl;have hp:=h p mF0;have hp2:=hp.2;obtain⟨t1,h1⟩:=BF (S:=S) (m:=m) (a:=some (PP p)) p.tms hp.1 ks t (by omega);have hb:fZ (D4 m S.length (some (PP p)) t) (S++[.dic (dT ks)])=.ok (.next (D4 m S.length (some (PP p)) t1)) (S++[.dic (dT (BD ks p.nms))]):=by unfold fZ sB;simp? [show∀Z,yX (.val (PP p)) (.val (.int 1)) Z=.ok (.val (.tup p.tms)) Z from λ_=>rfl,RR];exact h1
  have h2:=FN p.nms ks;have h3:p.nms.length<=p.tms.length:=List.length_filterMap_le _ _;obtain⟨a',t',ih⟩:=UX (m:=m) hgs ps (λq hq=>h q (mO _ hq)) (BD ks p.nms) (some (PP p)) t1 (by omega);refine⟨a',t',?_⟩;rw[List.map_cons,yI (show xD 2 (PP p) (D4 m S.length a t) (S++[.dic (dT ks)])=.ok (D4 m S.length (some (PP p)) t) (S++[.dic (dT ks)])from rfl) hb (hgs _),ih,List.flatMap_cons,Cv]
theorem Pi{ps:List Pt}(h: ∀p∈ps,rE p)(hl:ps.length<=100)(S:Sto):zR 1 iR [.new (ps.map PP)] S=.ok (.new ((LX ps).map MV.str)) S:=by
 obtain⟨S1,hS1⟩: ∃S1:Sto,S1=S++[.lst (ps.map PP)]:=⟨_,rfl⟩
 have hq:S1[S.length]? =some (.lst (ps.map PP)):=by rw[hS1];exact zK _ _
 have hq': ∀ks,(S1++[.dic (dT ks)])[S.length]? =some (.lst (ps.map PP)):=λks=>by rw[getElem?_append_left (gS.mp hq).1];exact hq
 obtain⟨a',t',h4⟩:=UX (S:=S1) (m:=.loc S.length) (λks=>bO (hq' ks)) ps h [] none none (by simp only[List.length_nil];omega);have e1:qC [some (.loc S.length),none,none,none] S1=.ok (.next (D4 (.loc S.length) S1.length none none)) (S1++[.dic (dT [])]):=by unfold qC;simp? [IK];rfl
 have e2:qD (D4 (.loc S.length) S1.length none none) (S1++[.dic (dT [])])=.ok (.next (D4 (.loc S.length) S1.length a' t')) (S1++[.dic (dT (LX ps))]):=by unfold qD;simp? [cV (hq' [])];exact h4
 have e3:qE (D4 (.loc S.length) S1.length a' t') (S1++[.dic (dT (LX ps))])=.ok (.ret (.new ((LX ps).map MV.str))) (S1++[.dic (dT (LX ps))]):=by unfold qE;simp? [Bl (zK S1 (.dic (dT (LX ps))))]
 refine rS (T:=[.lst (ps.map PP),.dic (dT (LX ps))]) rfl ?_ (vV _ _);show iR [.loc S.length] (S++[.lst (ps.map PP)])=_;rw[<-hS1];show yU (uN [some (.loc S.length),none,none,none] S1)=_;unfold uN;rw[zC e1,zC e2,e3,hS1,aA];rfl
theorem at_e(p:Pt)(r:MV)(S:Sto):jX [some (pM p r)] S=.ok (.val (PP p)) S:=by
 unfold jX
 cases p with
 |same a b=>
  have hc:mL (.val (.tup [.str sP,a,b,r])) (some 1) (some 3) S=.ok (.val (.tup [a,b])) S:=rfl;show(bJ _ _) [some (.tup [.str sP,a,b,r])] S=_;simp? [Cd,eq_str,decide_true,hc];rfl
 |quan x t tms=>
  show(bJ _ _) [some (.tup [.str (RY (.quan x t tms)),.int t,.tup tms,r])] S=_;simp? [Cd,Oz,eq_str,Cf,fT,iF];rfl
theorem UY{gs:Xe}{S:Sto}{ρ:Rho}(hs:stay gs S): ∀(ps:List Pt),kO (xD 0) cY jX (CS 1 [] ρ) gs (CD ps) S=.ok (ps.map PP) S
 |[]=>rfl
 |p::ps=>by unfold CD kO;rw[show xD 0 (pM p (fM ps)) (CS 1 [] ρ) S=.ok [some (pM p (fM ps))] S from rfl,wR,cT,show cY [some (pM p (fM ps))] S=.ok true S from rfl,wR,cT,iP rfl,at_e,wR,cT];unfold jS;rw[cT,iP hs,UY hs ps,cT];rfl
theorem XH{ps:List Pt}(h: ∀p∈ps,rE p)(hl:ps.length<=100)(S:Sto):zR 1 aS [.new (CD ps)] S=.ok (.new ((LX ps).map MV.str)) S:=by have hq:(S++[.lst (CD ps)])[S.length]? =some (.lst (CD ps)):=zK _ _;refine rS (T:=[.lst (CD ps)]) rfl ?_ (vV _ _);show yU (oI [some (.loc S.length)] (S++[.lst (CD ps)]))=_;unfold oI rB;simp? [cV hq,DM,show ps.length<1000000 by omega,UY (bO hq) ps,Pi h hl];rfl
def lY(r:Rw):MV:=.tup [.int r.1,.tup r.2]
def flt(rs:List Rw)(t:Int):List Rw:=rs.filter λr=>decide (r.1=t)
abbrev Tl(rs:List Rw)(t:Int):List MV:=(flt rs t).map λr=>.tup r.2
structure Cb(S Z:Sto)(done:List Rw):Prop where
 kp:Kp S Z []
 lt:S.length<Z.length
 ex: ∃C:Ev,Z[S.length]? =some (.dic C)/\C.all (λp=>uL p.1)=true/\C.length<=done.length/\(∀t:Int,(look C (.int t)=none/\flt done t=[])\/ ∃q,S.length<q/\look C (.int t)=some (.loc q)/\Z[q]? =some (.lst (Tl done t)))/\ ∀(t t':Int)(q:Nat),look C (.int t)=some (.loc q)->look C (.int t')=some (.loc q)->t=t'
abbrev CB(lr n:Nat)(t s:Xc):Rho:=[some (.loc lr),some (.loc n),t,s]
theorem pR(done:List Rw)(r:Rw)(t:Int):flt (done++[r]) t=flt done t++if r.1=t then [r]else []:=by
 unfold flt;rw[List.filter_append];by_cases h:r.1=t
 .rw[iP h,List.filter_cons,dT0 h];rfl
 .rw[iN h,List.filter_cons,dF0 h];rfl
theorem BG(C:Ev)(k x j:MV):look (C++[(k,x)]) j=(look C j).or (if k=j then some x else none):=by
 rw[pN];congr 1;unfold look;rw[find?_cons];by_cases h:k=j
 .rw[iP h,dT0 h];rfl
 .rw[iN h,dF0 h];rfl
def Jc{S Z:Sto}{lr:Nat}{done:List Rw}(H:Cb S Z done)(hl:done.length<1000)(r:Rw):
  ∃Z',wI (CB lr S.length (some (.int r.1)) (some (.tup r.2))) Z=.ok (.next (CB lr S.length (some (.int r.1)) (some (.tup r.2)))) Z'/\Cb S Z' (done++[r]):=by
 obtain⟨kp,hlt,C,c1,c2,c3,c4,c5⟩:=H;have hcl: ∀t,(Tl done t).length<=done.length:=λt=>by rw[lM];exact List.length_filter_le _ _
 have z1:(Z++[MO.lst []])[S.length]? =some (.dic C):=by rw[getElem?_append_left hlt];exact c1
 have z2:(Z++[MO.lst []])[Z.length]? =some (.lst []):=zK _ _;have hdx0:uM (.val (.loc S.length)) Z=true:=by unfold uM;rw[FO c1 c2];rfl
 have k1:Kp S (Z++[MO.lst []]) []:=kp.trans (Kp.app _ _ _);have k2: ∀{l:Nat}{o:MO}{Y:Sto},Kp S Y []->S.length<=l->Kp S (Y.set l o) []:=λhY hl'=>⟨by rw[List.length_set];exact hY.1,λk hk hn=>by rw[zZ (by omega)];exact hY.2 k hk hn⟩
 have hsd: ∀{y:MV}{Y:Sto},AU (.val (.loc S.length)) (.int r.1) (.loc Z.length) (Z++[MO.lst []])=.ok (.val y) Y->RO (.val (.loc S.length)) [.val (.int r.1),.new []] Z=.ok (.val y) Y:=λh=>h;rcases c4 r.1 with⟨l1,l2⟩|⟨q,hq,l1,l2⟩
 .
  have hs:AU (.val (.loc S.length)) (.int r.1) (.loc Z.length) (Z++[MO.lst []])=.ok (.val (.loc Z.length)) ((Z++[MO.lst []]).set S.length (.dic (C++[(.int r.1,.loc Z.length)]))):=by unfold AU;rw[FO z1 c2];dsimp only;rw[iP ⟨rfl,by omega⟩,l1];dsimp only;rw[vX l1]
  have z3:((Z++[MO.lst []]).set S.length (.dic (C++[(.int r.1,.loc Z.length)])))[Z.length]? =some (.lst []):=by rw[zZ (by omega)];exact z2
  refine⟨((Z++[MO.lst []]).set S.length (.dic (C++[(.int r.1,.loc Z.length)]))).set Z.length (.lst [.tup r.2]),?_,k2 (k2 k1 (Nat.le_refl _)) (by omega),by simp only[List.length_set,lA];omega,C++[(.int r.1,.loc Z.length)],?_,?_,by simp;omega,λt=>?_,λt t' q h h'=>?_⟩
  .unfold wI gM;simp? [hdx0,hsd hs,kR z3,hX (d:=.tup r.2) z3 (by decide)];rfl
  .rw[zZ (by omega)];exact get_set z1
  .rw[List.all_append,c2];rfl
  .rw[BG];by_cases e:r.1=t
   .subst e;refine .inr ⟨Z.length,hlt,by rw[l1,iP rfl];rfl,?_⟩;rw[get_set z3];show _=some (MO.lst ((flt (done++[r]) r.1).map _));rw[pR,l2,iP rfl];rfl
   .rw[iN (λz=>e (MV.int.inj z)),Option.or_none];rcases c4 t with⟨m1,m2⟩|⟨q,hq,m1,m2⟩
    .exact .inl ⟨m1,by rw[pR,m2,iN e];rfl⟩
    .have hqZ:=(gS.mp m2).1;refine .inr ⟨q,hq,m1,?_⟩;rw[zZ (by omega),zZ (by omega),getElem?_append_left hqZ,m2];show _=some (MO.lst ((flt (done++[r]) t).map _));rw[pR,iN e,aN]
  .rw[BG]at h h'
   have hno: ∀{t:Int},look C (.int t)≠some (.loc Z.length):=λ{t} z=>by
    rcases c4 t with⟨m1,_⟩|⟨q,_,m1,m2⟩
    .rw[m1]at z;cases z
    .rw[m1]at z;cases z;have:=(gS.mp m2).1;omega
   have key: ∀{t:Int},(look C (.int t)).or (if MV.int r.1=MV.int t then some (MV.loc Z.length)else none)=some (.loc q)->look C (.int t)=some (.loc q)\/(r.1=t/\q=Z.length):=λ{t} h=>by
    cases z:look C (.int t)with
    |some d=>rw[z]at h;exact .inl h
    |none=>
     rw[z]at h;by_cases e:MV.int r.1=MV.int t
     .rw[iP e]at h;have h:some (MV.loc Z.length)=some (.loc q):=h;cases h;exact .inr ⟨MV.int.inj e,rfl⟩
     .rw[iN e]at h;cases h
   rcases key h with h|⟨h,hq⟩<;>rcases key h' with h'|⟨h',hq'⟩
   .exact c5 t t' q h h'
   .rw[hq']at h;exact absurd h hno
   .rw[hq]at h';exact absurd h' hno
   .rw[<-h, <-h']
 .have hs:AU (.val (.loc S.length)) (.int r.1) (.loc Z.length) (Z++[MO.lst []])=.ok (.val (.loc q)) (Z++[MO.lst []]):=by unfold AU;rw[FO z1 c2];dsimp only;rw[iP ⟨rfl,by omega⟩,l1]
  have hqZ:=(gS.mp l2).1;have z3:(Z++[MO.lst []])[q]? =some (.lst (Tl done r.1)):=by rw[getElem?_append_left hqZ];exact l2
  have hc1:=hcl r.1;refine⟨(Z++[MO.lst []]).set q (.lst (Tl done r.1++[.tup r.2])),?_,k2 k1 (by omega),by simp only[List.length_set,lA];omega,C,?_,c2,by simp;omega,λt=>?_,c5⟩
  .unfold wI gM;simp? [hdx0,hsd hs,kR z3,hX (d:=.tup r.2) z3 (show(Tl done r.1).length<1000000 by omega)]
  .rw[zZ (by omega)];exact z1
  .by_cases e:r.1=t
   .subst e;refine .inr ⟨q,hq,l1,?_⟩;rw[get_set z3];show _=some (MO.lst ((flt (done++[r]) r.1).map _));rw[pR,iP rfl,List.map_append];rfl
   .rcases c4 t with⟨m1,m2⟩|⟨q',hq',m1,m2⟩
    .exact .inl ⟨m1,by rw[pR,m2,iN e];rfl⟩
    .have hqZ':=(gS.mp m2).1;have hne:q≠q':=λz=>by subst z;exact e (c5 _ _ _ l1 m1)
     refine .inr ⟨q',hq',m1,?_⟩;rw[zZ hne,getElem?_append_left hqZ',m2];show _=some (MO.lst ((flt (done++[r]) t).map _));rw[pR,iN e,aN]
theorem Cw{S:Sto}{lr:Nat}{gs:Xe}(hgs: ∀q∈gs,S[q.1]? =some (.lst q.2)): ∀(rs done:List Rw)(Z:Sto)(a b:Xc),Cb S Z done->done.length+rs.length<=1000->
  ∃Z' a' b',xY (CQ 2 (zS (xD 2) (zS (xD 3) gG))) wI gs (rs.map lY) (CB lr S.length a b) Z=.ok (.next (CB lr S.length a' b')) Z'/\Cb S Z' (done++rs)
 |[],done,Z,a,b,H,_=>⟨Z,a,b,rfl,by rw[aN];exact H⟩
 |r::rs,done,Z,a,b,H,hl=>by rw[lC]at hl;obtain⟨Z1,h1,h2⟩:=Jc (lr:=lr) H (by omega) r;obtain⟨Z',a',b',h3,h4⟩:=Cw hgs rs (done++[r]) Z1 (some (.int r.1)) (some (.tup r.2)) h2 (by simp;omega);refine⟨Z',a',b',?_,by rw[aA]at h4;exact h4⟩;rw[List.map_cons,yI (show CQ 2 (zS (xD 2) (zS (xD 3) gG)) (lY r) (CB lr S.length a b) Z=.ok (CB lr S.length (some (.int r.1)) (some (.tup r.2))) Z from rfl) h1 (λq hq=>h2.kp.at (hgs q hq) (by simp))];exact h3
def Cy{S:Sto}{lr:Nat}{rows:List Rw}(hr:S[lr]? =some (.lst (rows.map lY)))(hz:rows.length<=100):
  ∃Z,zR 1 xN [.val (.loc lr)] S=.ok (.val (.loc S.length)) Z/\Kp S Z []/\S.length<Z.length/\COk Z S.length rows:=by
 have hlr:=(gS.mp hr).1;have c0:Cb S (S++[.dic []]) []:=⟨Kp.app _ _ _,by simp,[],zK _ _,rfl,Nat.le_refl _,λt=>.inl ⟨rfl,rfl⟩,λt t' q h=>by cases h⟩
 obtain⟨Z,a,b,h1,h2⟩:=Cw (lr:=lr) (gs:=[(lr,rows.map lY)]) (λq hq=>by rw[mS.mp hq];exact hr) rows [] (S++[.dic []]) none none c0 (by simp only[List.length_nil];omega);rw[List.nil_append]at h2;have e1:cG [some (.loc lr),none,none,none] S=.ok (.next (CB lr S.length none none)) (S++[.dic []]):=by unfold cG;simp? [IK]
 have e2:cH (CB lr S.length none none) (S++[.dic []])=.ok (.next (CB lr S.length a b)) Z:=by unfold cH;simp? [cV (show(S++[MO.dic []])[lr]? =some (.lst (rows.map lY)) by rw[getElem?_append_left hlr];exact hr)];exact h1
 obtain⟨kp,hlt,C,c1,c2,c3,c4,c5⟩:=h2;have hF:xN [.loc lr] S=.ok (.val (.loc S.length)) Z:=by show yU (nG [some (.loc lr),none,none,none] S)=_;unfold nG;rw[zC e1,zC e2];rfl
 obtain⟨T,hT⟩: ∃T,Z=S++.dic C::T:=by
  refine⟨Z.drop (S.length+1),?_⟩
  have h1:Z.take S.length=S:=by
   apply ext_getElem?;intro k;by_cases hk:k<S.length
   .rw[getElem?_take_of_lt hk];exact kp.2 k hk (by simp)
   .rw[getElem?_eq_none (by rw[lT];omega),getElem?_eq_none (by omega)]
  have h2:Z.drop S.length=.dic C::Z.drop (S.length+1):=by rw[List.drop_eq_getElem_cons hlt];rw[gE hlt]at c1;rw[Option.some.inj c1]
  conv=>lhs;rw[<-List.take_append_drop S.length Z,h1,h2]
 rw[hT]at hF;refine⟨Z,by rw[hT];exact FR rfl hF,kp,hlt,C,c1,c2,λt=>?_⟩;rcases c4 t with h|⟨q,_,h3,h4⟩
 .exact .inl h
 .exact .inr ⟨q,h3,h4⟩
section
variable{S S':Sto}{n:Nat}{fs:List (Str×MV)}{f:AX}{fld:Str}{o:List (Option MV)}
def Cz{Z:Sto}(h:Z[n]? =some (.rcd "Reading" fs))(hl:fs.length<1000)(ρ:Rho)(x:MV):IU "Reading" fld ρ x (.val (.loc n)) Z=.ok (.next ρ) (Z.set n (.rcd "Reading" (RP fld x fs))):=by unfold IU EX;dsimp only;rw[h];dsimp only;rw[iP rfl];dsimp only;rw[iP hl]
def Da{x:MV}(hf:f (some (.loc n)::o) S=.ok (.val x) S')(h:S'[n]? =some (.rcd "Reading" fs))(hl:fs.length<1000):Kf "Reading" fld f (vJ 0) (some (.loc n)::o) S=.ok (.next (some (.loc n)::o)) (S'.set n (.rcd "Reading" (RP fld x fs))):=by unfold Kf;rw[hf,cT,show jS (.val x) S'=.ok x S' from rfl,cT,show vJ 0 (some (.loc n)::o) S'=.ok (.val (.loc n)) S' from rfl,cT];exact Cz h hl _ _
def Dc{ds:Xb}(hf:f (some (.loc n)::o) S=.ok (.new ds) S')(h:S'[n]? =some (.rcd "Reading" fs))(hl:fs.length<1000):Kf "Reading" fld f (vJ 0) (some (.loc n)::o) S=.ok (.next (some (.loc n)::o)) ((S'++[MO.lst ds]).set n (.rcd "Reading" (RP fld (.loc S'.length) fs))):=by unfold Kf;rw[hf,cT,show jS (.new ds) S'=.ok (.loc S'.length) (S'++[MO.lst ds])from rfl,cT,show vJ 0 (some (.loc n)::o) (S'++[MO.lst ds])=.ok (.val (.loc n)) (S'++[MO.lst ds])from rfl,cT];exact Cz (by rw[getElem?_append_left (gS.mp h).1];exact h) hl _ _
end
theorem OY: ∀(ps:List Pt)(i:Nat),(CD ps).drop i=CD (ps.drop i)
 |_,0=>rfl
 |[],i+1=>rfl
 |p::ps,i+1=>OY ps i
def Je{rows:List Rw}{ps:List Pt}(hp: ∀p∈ps,rE p)(hl:ps.length<=100)(hR:Py rows){S:Sto}{lr:Nat}(hr:S[lr]? =some (.lst (rows.map lY))):
  ∃B a b c d,yW [.loc S.length,fM ps,.loc lr] (S++[.rcd "Reading" []])=.ok (.val .non) B/\MS rows ps B S.length a b c d/\Kp S B []/\S.length<d:=by
 have hlr:=(gS.mp hr).1;obtain⟨Z,hZ⟩: ∃Z,Z=S++[MO.rcd "Reading" []]:=⟨_,rfl⟩
 obtain⟨ρ,hρ⟩: ∃ρ:Rho,ρ=[some (.loc S.length),some (fM ps),some (.loc lr)]:=⟨_,rfl⟩
 have z0:Z[S.length]? =some (.rcd "Reading" []):=by rw[hZ];exact zK _ _
 have lZ:Z.length=S.length+1:=by rw[hZ];simp
 obtain⟨Z1,hZ1⟩: ∃Z1,Z1=(Z++[MO.lst (CD ps)]).set S.length (.rcd "Reading" [("steps",.loc Z.length)]):=⟨_,rfl⟩
 have e1:eM ρ Z=.ok (.next ρ) Z1:=by rw[hZ1,hρ];exact Dc (f:=fJ 1 cF (yJ (vJ 1) wJ)) (show fJ 1 cF (yJ (vJ 1) wJ) [some (.loc S.length),some (fM ps),some (.loc lr)] Z=.ok (.new (CD ps)) Z by simp? [Cu hp hl]) z0 (by decide)
 have lZ1:Z1.length=S.length+2:=by rw[hZ1,List.length_set,lA,lZ];rfl
 have r1:Z1[S.length]? =some (.rcd "Reading" [("steps",.loc Z.length)]):=by rw[hZ1];exact get_set (by rw[getElem?_append_left (by omega)];exact z0)
 have s1:Z1[Z.length]? =some (.lst (CD ps)):=by rw[hZ1,zZ (by omega)];exact zK _ _
 have k1:Kp S Z1 [S.length]:=by rw[hZ1,hZ];exact((Kp.app S _ _).trans (Kp.app _ _ _)).trans (Kp.set _ _ (by simp))
 obtain⟨g,hg⟩: ∃g:Nat->List MV,g=λi=>(LX (ps.drop i)).map MV.str:=⟨_,rfl⟩
 obtain⟨Z2,hZ2⟩: ∃Z2,Z2=Z1++(List.range ps.length).map λi=>MO.lst (g i):=⟨_,rfl⟩
 obtain⟨as,has⟩: ∃as,as=(List.range' Z1.length ps.length).map MV.loc:=⟨_,rfl⟩
 have hcomp:kO (xD 0) jB xZ (CS 1 [0] ρ) [] ((List.range ps.length).map yG) Z1=.ok as Z2:=by
  have h:=FP (f:=yG) (g:=g) (gf:=xD 0) (cf:=jB) (ef:=xZ) (ρb:=CS 1 [0] ρ) (S:=Z1) (List.range ps.length) (λi hi T=>by
   refine⟨[some (yG i),some (.loc S.length)],by rw[hρ];rfl,rfl,?_⟩;have rT:(Z1++T)[S.length]? =some (.rcd "Reading" [("steps",.loc Z.length)]):=by rw[getElem?_append_left (by omega)];exact r1
   have sT:(Z1++T)[Z.length]? =some (.lst (CD ps)):=by rw[getElem?_append_left (by omega)];exact s1
   have hn:=XH (ps:=ps.drop i) (λp h=>hp p (mem_of_mem_drop h)) (by rw[List.length_drop];omega) (Z1++T);rw[<-OY, <-tF]at hn;unfold xZ;simp? [qP rT (show List.lookup ("steps":Str) [("steps",MV.loc Z.length)]=some (.loc Z.length)from rfl),vW sT,hn];rw[hg]) []
  rw[aN,List.length_nil,Nat.add_zero,length_range]at h;rw[has,hZ2];exact h
 have lZ2:Z2.length=S.length+2+ps.length:=by rw[hZ2];simp[lZ1]
 have r2:Z2[S.length]? =some (.rcd "Reading" [("steps",.loc Z.length)]):=by rw[hZ2,getElem?_append_left (by omega)];exact r1
 obtain⟨Z3,hZ3⟩: ∃Z3,Z3=(Z2++[MO.lst as]).set S.length (.rcd "Reading" [("steps",.loc Z.length),("asked",.loc Z2.length)]):=⟨_,rfl⟩
 have e2:eO ρ Z1=.ok (.next ρ) Z3:=by
  rw[hZ3,hρ];refine(Dc (f:=pJ _ _ _ _ 1 [0]) (ds:=as) ?_ r2 (by show 1<1000;decide)).trans ?_
  .have hlen:=bY s1;rw[DM]at hlen;rw[hρ]at hcomp;simp? [qP r1 (show List.lookup ("steps":Str) [("steps",MV.loc Z.length)]=some (.loc Z.length)from rfl),hlen,RT (show ps.length<=1000 by omega),lM,length_range,show ps.length<1000000 by omega,hcomp]
  .rfl
 have k12:Kp Z1 Z3 [S.length]:=by rw[hZ3,hZ2];exact((Kp.app Z1 _ _).trans (Kp.app _ _ _)).trans (Kp.set _ _ (by simp))
 have k23:Kp Z2 Z3 [S.length]:=by rw[hZ3];exact(Kp.app _ _ _).trans (Kp.set _ _ (by simp))
 have lZ3:Z3.length=S.length+3+ps.length:=by rw[hZ3];simp[lZ2];omega
 have r3:Z3[S.length]? =some (.rcd "Reading" [("steps",.loc Z.length),("asked",.loc Z2.length)]):=by rw[hZ3];exact get_set (by rw[getElem?_append_left (by omega)];exact r2)
 have a3:Z3[Z2.length]? =some (.lst as):=by rw[hZ3,zZ (by omega)];exact zK _ _
 have hr3:Z3[lr]? =some (.lst (rows.map lY)):=(k1.trans k12).at hr (by simp only[mC,nM,or_false];omega);obtain⟨Z4,c1,c2,c3,c4⟩:=Cy hr3 hR.2;have r4:Z4[S.length]? =some (.rcd "Reading" [("steps",.loc Z.length),("asked",.loc Z2.length)]):=c2.at r3 (by simp);obtain⟨Z5,hZ5⟩: ∃Z5,Z5=Z4.set S.length (.rcd "Reading" [("steps",.loc Z.length),("asked",.loc Z2.length),("cells",.loc Z3.length)]):=⟨_,rfl⟩
 have e3:eP ρ Z3=.ok (.next ρ) Z5:=by rw[hZ5,hρ];exact Da (f:=fJ 1 xN (yJ (vJ 2) wJ)) (show fJ 1 xN (yJ (vJ 2) wJ) [some (.loc S.length),some (fM ps),some (.loc lr)] Z3=.ok (.val (.loc Z3.length)) Z4 by simp? [c1]) r4 (by show 2<1000;decide)
 have k35:Kp Z3 Z5 [S.length]:=by rw[hZ5];exact(c2.sub λx hx=>by simp at hx).trans (Kp.set _ _ (by simp))
 have k45:Kp Z4 Z5 [S.length]:=by rw[hZ5];exact Kp.set _ _ (by simp)
 have r5:Z5[S.length]? =some (.rcd "Reading" [("steps",.loc Z.length),("asked",.loc Z2.length),("cells",.loc Z3.length)]):=by rw[hZ5];exact get_set r4
 have lZ5:Z5.length=Z4.length:=by rw[hZ5,List.length_set]
 obtain⟨B,hB⟩: ∃B,B=(Z5++[MO.dic []]).set S.length (.rcd "Reading" (Dy Z.length Z2.length Z3.length Z5.length)):=⟨_,rfl⟩
 have e4:eQ ρ Z5=.ok (.next ρ) B:=by rw[hB,hρ];refine(Da (f:=zJ) (x:=.loc Z5.length) (S':=Z5++[.dic []]) rfl (by rw[getElem?_append_left (by omega)];exact r5) (by show 3<1000;decide)).trans rfl
 have k5:Kp Z5 B [S.length]:=by rw[hB];exact(Kp.app _ _ _).trans (Kp.set _ _ (by simp))
 have kS:Kp S B [S.length]:=((k1.trans k12).trans k35).trans k5;have nn: ∀{l:Nat},l≠S.length->l∉[S.length]:=λh=>by simpa using h
 refine⟨B,Z.length,Z2.length,Z3.length,Z5.length,?_,⟨?_,?_,?_,?_,?_,by omega,hp,hl,hR⟩,⟨kS.1,λl hl' _=>kS.2 l hl' (nn (by omega))⟩,by omega⟩
 .show yU (yK [some (.loc S.length),some (fM ps),some (.loc lr)] _)=_;rw[<-hZ, <-hρ];unfold yK;rw[zC e1,zC e2,zC e3,e4];rfl
 .rw[hB];exact get_set (by rw[getElem?_append_left (by omega)];exact r5)
 .exact((k12.trans k35).trans k5).at s1 (nn (by omega))
 .refine⟨as,(k35.trans k5).at a3 (nn (by omega)),λi hi=>⟨Z1.length+i,?_,?_⟩⟩
  .rw[has,getElem?_map,List.getElem?_range' hi];simp
  .refine((k23.trans k35).trans k5).at ?_ (nn (by omega));rw[hZ2,getElem?_append_right (by omega),Nat.add_sub_cancel_left,getElem?_map,List.getElem?_range hi,hg];rfl
 .obtain⟨C,h1,h2,h3⟩:=c4;have up: ∀{l:Nat}{o:MO},Z4[l]? =some o->(∀c fs,o≠.rcd c fs)->B[l]? =some o:=λ{l o} h hn=>(k45.trans k5).at h (nn λe=>by subst e;rw[r4]at h;exact hn _ _ (Option.some.inj h).symm);refine⟨C,up h1 (by simp),h2,λt=>?_⟩;rcases h3 t with h|⟨q,h4,h5⟩
  .exact .inl h
  .exact .inr ⟨q,h4,up h5 (by simp)⟩
 .rw[hB,zZ (by omega)];exact zK _ _
def Jf{S Z:Sto}(k:Kp S Z []):Z.take S.length=S:=by
 apply ext_getElem?;intro j;by_cases hj:j<S.length
 .rw[getElem?_take_of_lt hj];exact k.2 j hj (by simp)
 .rw[getElem?_eq_none (by rw[lT];omega),getElem?_eq_none (by omega)]
def Jg{S Z:Sto}{b:Bool}{xs:Db}(k:Kp S Z xs): ∃Z',bD S (.val (.bl b)) Z=.ok (.val (.bl b)) Z'/\Kp S Z' xs:=by
 unfold bD;split
 .dsimp only;rw[iP (IG _ _)];refine⟨_,rfl,by rw[lT];have:=k.1;omega,λl hl hn=>?_⟩;rw[getElem?_take_of_lt hl];exact k.2 l hl hn
 .exact⟨_,rfl,k⟩
def To{rows:List Rw}{ps:List Pt}{S:Sto}{ls a b c d le:Nat}{E:Ev}(M:MS rows ps S ls a b c d)(hle:S[le]? =some (.dic E))(hE:cM E)(hEz:E.length+100 * ps.length<=1000)(hld:le≠d)(hc:GB rows.length ps<1000000):
  ∃S',zR 2 yL [.val (.loc ls),.val (.loc le)] S=.ok (.val (.bl (hold rows ps E))) S'/\Kp S S' [d]:=by
 have hle':=(gS.mp hle).1;have hdS:=(gS.mp M.dd).1;have C0:Cur S (S++[MO.lst []]) d []:=⟨by simp,λl hl _=>getElem?_append_left hl,by rw[getElem?_append_left hdS];exact M.dd⟩
 obtain⟨r,S1,g1,g2⟩:=Kl (v:=.loc le) (lt:=S.length) M (Nat.le_refl _) ps.length 0 (by omega) (S++[MO.lst []]) [] E [] le none none none C0 (λq h=>by simp at h) (zK _ _) rfl (by rw[getElem?_append_left hle'];exact hle) hE hEz hld (by rw[drop_zero];simpa using hc);obtain⟨k,st,wy,se,F',S2,h1,h2,h3,h4,h5,h6,h7⟩:=g2.go;rw[drop_zero]at h1 h2;have e1:jC [some (.loc ls),some (.loc le),none,none,none,none,none] S=.ok (.next (HW ls (.loc le) S.length none none none none)) (S++[.lst []]):=by unfold jC;simp? []
 have e2:jD (HW ls (.loc le) S.length none none none none) (S++[.lst []])=.ok (.next (HW ls (.loc le) S.length (some r) none none none)) S1:=by
  unfold jD;have hR:RJ "Reading" "enter" 3 zT (vJ 0) (yJ (vJ 2) (yJ (vJ 1) wJ)) (HW ls (.loc le) S.length none none none none) (S++[MO.lst []])=.ok (.val r) S1:=by unfold RJ;simp? [Kj M C0,OW,g1]
  simp? [hR]
 have e3:dD (HW ls (.loc le) S.length (some r) none none none) S1=.ok (.next (HW ls (.loc le) S.length (some (.bl (hold rows ps E))) st wy se)) S2:=by show WL 100000000 _ _=_;rw[show(100000000:Nat)=k+((99999999 - k)+1) by omega,h2];refine IH ?_;unfold xA;simp? [DG h5];rfl
 have hF:yL [.loc ls,.loc le] S=.ok (.val (.bl (hold rows ps E))) S2:=by show yU (yC [some (.loc ls),some (.loc le),none,none,none,none,none] S)=_;unfold yC;rw[zC e1,zC e2,zC e3];rfl
 have kk:Kp S S2 [d]:=⟨Nat.le_trans (by simp) h6.1,λl hl hn=>by rw[h6.2 l (by rw[lA];omega) (by simp only[mC,nM,or_false]at hn ⊢; omega),getElem?_append_left hl]⟩
 obtain⟨S',t1,t2⟩:=Jg (b:=hold rows ps E) kk;refine⟨S',?_,t2⟩;unfold zR;rw[iP (show [Er.val (.loc ls),.val (.loc le)].length=2 from rfl),show zM [.val (.loc ls),.val (.loc le)] S=([.loc ls,.loc le],S)from rfl,hF];exact t1
def Pj{S Z:Sto}(k:Kp S Z []):SY S Z:=⟨k.1,λl hl=>.inl (k.2 l hl (by simp))⟩
def De{n:Nat}{F:List MV->Sto->R Er}{rs:List Er}{S Z:Sto}{b:Bool}(hn:rs.length=n)(hF:F (zM rs S).1 (zM rs S).2=.ok (.val (.bl b)) Z)(k:Kp S Z []):zR n F rs S=.ok (.val (.bl b)) S:=by unfold zR;rw[iP hn,hF];show bD S (.val (.bl b)) Z=_;unfold bD;rw[iP (Pj k)];dsimp only;rw[iP (IG _ _),Jf k]
theorem Tp(a b c d:Nat):List.lookup ("holds_with":Str) (Dy a b c d)=none:=rfl
theorem OZ{rows:List Rw}{ps:List Pt}(hp: ∀p∈ps,rE p)(hl:ps.length<=9)(hR:Py rows)(hc:GB rows.length ps<1000000){S:Sto}{lr le:Nat}{E:Ev}(hr:S[lr]? =some (.lst (rows.map lY)))(hle:S[le]? =some (.dic E))(hE:cM E)(hEz:E.length<=100):
  zR 3 vS [.val (fM ps),.val (.loc lr),.val (.loc le)] S=.ok (.val (.bl (hold rows ps E))) S:=by
 obtain⟨B,a,b,c,d,h1,M,h3,h4⟩:=Je hp (by omega) hR hr;have hleS:=(gS.mp hle).1;obtain⟨S',g1,g2⟩:=To M (h3.at hle (by simp)) hE (by omega) (by omega) hc;have hmk:WX "Reading" 3 yW [.val (fM ps),.val (.loc lr)] S=.ok (.val (.loc S.length)) B:=by unfold WX;rw[iP (show [Er.val (fM ps),.val (.loc lr)].length+1=3 from rfl),show zM [.val (.loc S.length),.val (fM ps),.val (.loc lr)] (S++[.rcd "Reading" []])=([.loc S.length,fM ps,.loc lr],S++[.rcd "Reading" []])from rfl,h1];rfl
 have hrc:EX "Reading" (.val (.loc S.length)) B=some (S.length,Dy a b c d):=by unfold EX;dsimp only;rw[M.rc];dsimp only;rw[iP rfl]
 refine De (Z:=S') rfl ?_ ⟨Nat.le_trans h3.1 g2.1,λl hl' _=>by rw[g2.2 l (Nat.lt_of_lt_of_le hl' h3.1) (by simp only[mC,nM,or_false];omega),h3.2 l hl' (by simp)]⟩;show yU (KY [some (fM ps),some (.loc lr),some (.loc le)] S)=_;unfold KY IX;have hR':RJ "Reading" "holds_with" 2 yL (bJ (yJ (vJ 0) (yJ (vJ 1) wJ)) (WX "Reading" 3 yW)) (yJ (vJ 2) wJ) [some (fM ps),some (.loc lr),some (.loc le)] S=.ok (.val (.bl (hold rows ps E))) S':=by unfold RJ;simp? [hmk,hrc,Tp,g1]
 simp? [hR'];rfl
def dv4{k:Nat}(hk:k<4)(n:Int)(S:Sto): ∃q,(yX (.new [.int 1,.int 5,.int 25,.int 125]) (.val (yG k)) S).bind (λb S=>gI (.val (.int n)) b S)=.ok (.val (.int q)) S:=by
 match k,hk with
 |0,_=>exact⟨_,yH (b:=1) (by decide) (by decide) n S⟩
 |1,_=>exact⟨_,yH (b:=5) (by decide) (by decide) n S⟩
 |2,_=>exact⟨_,yH (b:=25) (by decide) (by decide) n S⟩
 |3,_=>exact⟨_,yH (b:=125) (by decide) (by decide) n S⟩
 |n+4,h=>omega
def lst4(a b c e:MV)(S:Sto):gX [.val a,.val b,.val c,.val e] S=.ok (.new [a,b,c,e]) S:=oF (by simp)
theorem XI{E:Ev}{k d:MV}(nd:(E.map (·.1)).Nodup)(h:look E k=some d):putK E k d=E:=by
 unfold putK;rw[h,iP (show(some d).isSome=true from rfl)]
 conv=>rhs;rw[<-List.map_id E]
 refine List.map_congr_left λp hp=>?_;split
 .rename_i e
  have:look E k=some p.2:=by
   clear h
   induction E with
   |nil=>simp at hp
   |cons q E ih=>
    rw[List.map_cons,nodup_cons]at nd;unfold look;rw[find?_cons];rcases mC.mp hp with rfl|hp
    .rw[dT0 e];rfl
    .rw[dF0 λz=>nd.1 (by rw[z, <-e];exact mem_map_of_mem hp)];exact ih nd.2 hp
  rw[h]at this;rw[Option.some.inj this];rfl
 .rfl
def LZ{S:Sto}{l:Nat}{E:Ev}(h:S[l]? =some (.dic E))(hE:cM E)(hz:E.length<1000000)(x:Db)(c:MV)(ρ:Rho):vM (.val (.loc l)) (.val (.str x)) c ρ S=.ok ρ (S.set l (.dic (putK E (.str x) c))):=by unfold vM;dsimp only;rw[pP h hE];dsimp only;rw[iP ⟨rfl,hz⟩]
def Ko(S:Sto):fU (.val (.str pT)) (.val (.str IS)) S=.ok (.val (.bl false)) S:=by rw[eq_str,dF0 (by decide)]
abbrev LF(ts cs:Xb)(le n:Nat)(a b:Xc):Rho:=[some (.tup ts),some (.tup cs),some (.loc le),some (.loc n),a,b]
def Jh{S:Sto}{ts0 cs0:Xb}{le:Nat}{E:Ev}{t c:MV}(ht:lV t)(hc:VS c)(hE:cM E)(nd:(E.map (·.1)).Nodup)(hz:E.length<1000):
  (∃F,(∀ts cs,xO (t::ts) (c::cs) E=xO ts cs F)/\cM F/\(F.map (·.1)).Nodup/\F.length<=E.length+1/\jF (LF ts0 cs0 le S.length (some t) (some c)) (S++[.dic E])=.ok (.next (LF ts0 cs0 le S.length (some t) (some c))) (S++[.dic F]))\/
  ((∀ts cs,xO (t::ts) (c::cs) E=none)/\jF (LF ts0 cs0 le S.length (some t) (some c)) (S++[.dic E])=.ok (.ret (.val .non)) (S++[.dic E])):=by
 have hS:(S++[.dic E])[S.length]? =some (.dic E):=zK _ _;unfold jF;rcases ht with⟨x,rfl⟩|⟨v,hv,rfl⟩
 .have e1:wO (LF ts0 cs0 le S.length (some (.tup [.str pT,.str x])) (some c)) (S++[.dic E])=.ok (.next (LF ts0 cs0 le S.length (some (.tup [.str pT,.str x])) (some c))) (S++[.dic E]):=by unfold wO;simp? [pI,Ko,fT,iF]
  rw[zC e1];unfold lL
  cases z:look E (.str x)with
  |none=>
   refine .inl ⟨E++[(.str x,c)],λts cs=>by rw[mX,z],λp hp=>?_,?_,by simp,?_⟩
   .rcases List.mem_append.mp hp with hp|hp
    .exact hE p hp
    .rw[mS.mp hp];exact⟨⟨x,rfl⟩,hc⟩
   .rw[List.map_append,nodup_append];refine⟨nd,by simp,λa ha b hb=>?_⟩;rw[List.map_cons,List.map_nil,mS]at hb;obtain⟨p,hp,rfl⟩:=mM.mp ha;rw[hb];exact DH z p hp
   .simp? [pI,lW,vU];rw[zC (F:=iJ _ (AJ (kJ .non)) JJ) (ρ':=LF ts0 cs0 le S.length (some (.tup [.str pT,.str x])) (some c)) (S':=S++[.dic E]) (by simp? [lW,FY hS hE,z,Option.isSome,fT,iF])];simp? [mV,lW,LZ hS hE (show E.length<1000000 by omega),vX z,wX]
  |some d=>
   have hd:=qO hE z;by_cases hh:d=c
   .refine .inl ⟨E,λts cs=>by rw[mX,z];exact iP hh,hE,nd,by omega,?_⟩;simp? [pI,lW,vU];rw[zC (F:=iJ _ (AJ (kJ .non)) JJ) (ρ':=LF ts0 cs0 le S.length (some (.tup [.str pT,.str x])) (some c)) (S':=S++[.dic E]) (by simp? [lW,FY hS hE,z,Option.isSome,LS hS hE z,vY (gA hc).1 (gA hc).1 (gA hc).2,hh,decide_true,Bool.not_true,fT,iF])];simp? [mV,lW,LZ hS hE (show E.length<1000000 by omega),XI nd (hh▸z),wX]
   .refine .inr ⟨λts cs=>by rw[mX,z];exact iN hh,?_⟩;simp? [pI,lW,vU];rw[wW (F:=iJ _ (AJ (kJ .non)) JJ) (r:=.val .non) (S':=S++[.dic E]) (by simp? [lW,FY hS hE,z,Option.isSome,LS hS hE z,vY (gA hd).1 (gA hc).1 (gA hd).2,hh,decide_false,Bool.not_false])]
 .by_cases hh:v=c
  .have e1:wO (LF ts0 cs0 le S.length (some (.tup [.str IS,v])) (some c)) (S++[.dic E])=.ok (.next (LF ts0 cs0 le S.length (some (.tup [.str IS,v])) (some c))) (S++[.dic E]):=by unfold wO;simp? [pI,lW,Bi,vY (gA hc).1 (gA hc).1 (gA hc).2,hh,decide_true,Bool.not_true,fT,iF]
   refine .inl ⟨E,λts cs=>by rw[uQ,iP hh],hE,nd,by omega,?_⟩;rw[zC e1];unfold lL;simp? [pI,ON,fT,iF]
  .have e1:wO (LF ts0 cs0 le S.length (some (.tup [.str IS,v])) (some c)) (S++[.dic E])=.ok (.ret (.val .non)) (S++[.dic E]):=by unfold wO;simp? [pI,lW,Bi,vY (gA hv).1 (gA hc).1 (gA hv).2,hh,decide_false,Bool.not_false]
   refine .inr ⟨λts cs=>by rw[uQ,iN hh],?_⟩;rw[wW e1]
theorem Df{S:Sto}{ts0 cs0:Xb}{le:Nat}: ∀(ts cs:Xb)(E:Ev)(a b:Xc),(∀t∈ts,lV t)->(∀c∈cs,VS c)->cM E->(E.map (·.1)).Nodup->E.length+ts.length<1000->
  (∃F a' b',xO ts cs E=some F/\xY (CQ 2 (zS (xD 4) (zS (xD 5) gG))) jF [] (pairs ts cs) (LF ts0 cs0 le S.length a b) (S++[.dic E])=.ok (.next (LF ts0 cs0 le S.length a' b')) (S++[.dic F]))\/
  (xO ts cs E=none/\ ∃E',xY (CQ 2 (zS (xD 4) (zS (xD 5) gG))) jF [] (pairs ts cs) (LF ts0 cs0 le S.length a b) (S++[.dic E])=.ok (.ret (.val .non)) (S++[.dic E']))
 |[],cs,E,a,b,_,_,_,_,_=>.inl ⟨E,a,b,rfl,rfl⟩
 |t::ts,[],E,a,b,_,_,_,_,_=>.inl ⟨E,a,b,rfl,rfl⟩
 |t::ts,d::cs,E,a,b,ht,hc,hE,nd,hz=>by
  rw[lC]at hz;have hg:CQ 2 (zS (xD 4) (zS (xD 5) gG)) (.tup [t,d]) (LF ts0 cs0 le S.length a b) (S++[.dic E])=.ok (LF ts0 cs0 le S.length (some t) (some d)) (S++[.dic E]):=rfl;rcases Jh (S:=S) (ts0:=ts0) (cs0:=cs0) (le:=le) (ht t mF0) (hc d mF0) hE nd (by omega)with⟨F,h1,h2,h2',h3,h4⟩|⟨h1,h4⟩
  .show(∃F a' b',_/\xY _ _ _ (.tup [t,d]::pairs ts cs) _ _=_)\/(_/\ ∃E',xY _ _ _ (.tup [t,d]::pairs ts cs) _ _=_)
   rw[yI hg h4 (bF _),h1];exact Df ts cs F (some t) (some d) (λt ht'=>ht t (mO _ ht')) (λt ht'=>hc t (mO _ ht')) h2 h2' (by omega)
  .refine .inr ⟨h1 ts cs,E,?_⟩;show xY _ _ _ (.tup [t,d]::pairs ts cs) _ _=_;rw[KH hg h4]
def Tq{S:Sto}{le:Nat}{ts cs:Xb}{E:Ev}(hle:S[le]? =some (.dic E))(hE:cM E)(nd:(E.map (·.1)).Nodup)(ht: ∀t∈ts,lV t)(hc: ∀c∈cs,VS c)(hz:E.length+ts.length<900):
  zR 3 aC [.val (.tup ts),.val (.tup cs),.val (.loc le)] S=match xO ts cs E with |some F=>.ok (.val (.loc S.length)) (S++[.dic F])|none=>.ok (.val .non) S:=by
 have e1:qI [some (.tup ts),some (.tup cs),some (.loc le),none,none,none] S=.ok (.next (LF ts cs le S.length none none)) (S++[.dic E]):=by unfold qI;simp? [RZ hle hE]
 have e2:qK (LF ts cs le S.length none none) (S++[.dic E])=xY (CQ 2 (zS (xD 4) (zS (xD 5) gG))) jF [] (pairs ts cs) (LF ts cs le S.length none none) (S++[.dic E]):=by unfold qK;simp? [show∀Z,Nk [.val (.tup ts),.val (.tup cs)] Z=.ok ⟨pairs ts cs,[]⟩ Z from λ_=>rfl]
 rcases Df (S:=S) (ts0:=ts) (cs0:=cs) (le:=le) ts cs E none none ht hc hE nd (by omega)with⟨F,a,b,h1,h2⟩|⟨h1,E',h2⟩
 .rw[h1];dsimp only;have hF:aC [.tup ts,.tup cs,.loc le] S=.ok (.val (.loc S.length)) (S++[.dic F]):=by show yU (lN [some (.tup ts),some (.tup cs),some (.loc le),none,none,none] S)=_;unfold lN;rw[zC e1,zC (e2.trans h2)];rfl
  exact FR (T:=[]) rfl hF
 .rw[h1];dsimp only;have hF:aC [.tup ts,.tup cs,.loc le] S=.ok (.val .non) (S++[.dic E']):=by show yU (lN [some (.tup ts),some (.tup cs),some (.loc le),none,none,none] S)=_;unfold lN;rw[zC e1,wW (e2.trans h2)];rfl
  exact oY (T:=[.dic E']) rfl hF (RA _) (λl=>by simp)
def tv(E:Ev)(t:MV):MV:=isv (bL E t)
def Pz(E:Ev)(t:MV):Prop:= ∃v,VS v/\bL E t=.tup [.str IS,v]
def Pk(E:Ev){v:MV}(hv:VS v):Pz E (.tup [.str IS,v]):=⟨v,hv,OR E v⟩
def Ji{E:Ev}(hE:cM E){x:Db}(h:look E (.str x)≠none):Pz E (.tup [.str pT,.str x]):=by
 cases z:look E (.str x)with
 |none=>exact absurd z h
 |some d=>exact⟨d,qO hE z,by rw[FV,z]⟩
def Tr{E:Ev}{a b:MV}(ha:Pz E a)(hb:Pz E b):decide (tv E a=tv E b)=decide (bL E a=bL E b):=by obtain⟨u,_,e1⟩:=ha;obtain⟨v,_,e2⟩:=hb;unfold tv;rw[e1,e2];refine dec_is ⟨λh=>by rw[show u=v from h],λh=>?_⟩;exact(List.cons.inj (List.cons.inj (MV.tup.inj h)).2).1
theorem Dg{S:Sto}{l:Nat}{E:Ev}(h:S[l]? =some (.dic E))(hE:cM E){t:MV}(ht:lV t)(hb:Pz E t):zR 2 dP [.val t,.val (.loc l)] S=.ok (.val (tv E t)) S/\VS (tv E t):=by
 obtain⟨v,hv,e⟩:=hb;have etv:tv E t=v:=by unfold tv;rw[e];rfl
 refine⟨?_,by rw[etv];exact hv⟩;rw[etv];refine nF rfl ?_ (CA (gA hv).1) (Bw hv);show yU (qL [some t,some (.loc l)] S)=_;unfold qL;rcases ht with⟨x,rfl⟩|⟨u,hu,rfl⟩
 .have hl:look E (.str x)=some v:=by
   rw[FV]at e
   cases z:look E (.str x)with
   |none=>rw[z]at e;exact absurd (MV.tup.inj e) (by simp)
   |some d=>rw[z]at e;have:=MV.tup.inj e;simp at this;rw[this]
  have e1:gP [some (.tup [.str pT,.str x]),some (.loc l)] S=.ok (.next [some (.tup [.str pT,.str x]),some (.loc l)]) S:=by unfold gP;simp? [pI,Ko,fT,iF]
  rw[zC e1];unfold sM;simp? [lW,LS h hE hl];rfl
 .rw[OR]at e;have hu':u=v:=by have:=MV.tup.inj e;simpa using this
  have e1:gP [some (.tup [.str IS,u]),some (.loc l)] S=.ok (.ret (.val u)) S:=by unfold gP;simp? [pI,lW,Bi]
  rw[wW e1,hu'];rfl
def PB{S:Sto}{l:Nat}{ds:Xb}(h:S[l]? =some (.lst ds)):IE [.val (.loc l)] S=.ok (.new ds) S:=by unfold IE itemsOf;dsimp only;rw[iL h]
theorem Dh{S:Sto}{l:Nat}{ds:Xb}(h:S[l]? =some (.lst ds)):JY S (.val (.loc l))=some (.ls ds):=by show(eA S (.val (.loc l))).map Vw.ls=_;rw[iL h];rfl
def Di{S:Sto}{l m:Nat}{ds:Xb}(h:S[l]? =some (.lst ds))(h':S[m]? =some (.lst ds))(hp: ∀d∈ds,pd d=true/\JC d<30):fU (.val (.loc l)) (.val (.loc m)) S=.ok (.val (.bl true)) S:=by
 obtain⟨bs,h1,h2⟩:=FM (e:=eqv S zV) (ds:=ds) (es:=ds) λd hd f hf=>sO zV (hp d hd).1 (hp f hf).1 (by have:=(hp d hd).2;unfold zV;omega);unfold fU EB;rw[Dh h,Dh h'];show(match Jv (eqv S zV) (.ls ds) (.ls ds)with |some k=>R.ok (Er.val (.bl k)) S|none=>.no)=_;rw[JZ,iP rfl,h1];have:bs.all id=true:=by rw[dT0 rfl,aE]at h2;exact h2.1
 show R.ok (Er.val (.bl (bs.all id))) S=_;rw[this]
def Ts(x y:Bool)(S:Sto):fU (.val (.bl x)) (.val (.bl y)) S=.ok (.val (.bl (x==y))) S:=KF (RB _ x y)
theorem Pl{S:Sto}{l m:Nat}{E:Ev}(b0:Bool)(h:S[l]? =some (.dic E))(h':S[m]? =some (.dic E))(hE:cM E):WZ b0 (.val (.loc l)) (.val (.loc m)) S=.ok (.val (.bl b0)) S:=by unfold WZ;rw[pP h hE,pP h' hE];dsimp only;rw[iP];refine⟨rfl,?_⟩;rw[List.all_eq_true];intro p hp;rcases (hE p hp).2 with⟨i,e⟩|⟨i,e⟩<;>rw[e]<;>rfl
theorem XJ(rows:List Rw)(a b:MV)(ps:List Pt)(E:Ev):hold rows (.same a b::ps) E=(decide (bL E a=bL E b)&&hold rows ps E):=by
 rw[pQ];unfold res;rw[iP (show(Pt.same a b).ex=true from rfl),pO];by_cases h:bL E a=bL E b
 .rw[iP h,dT0 h];simp
 .rw[iN h,dF0 h];rfl
theorem UZ: ∀(ts cs:Xb)(E G:Ev),xO ts cs E=some G->ts.length<=cs.length->(∀k,look E k≠none->look G k≠none)/\ ∀t∈ts, ∀x,vn t=some x->look G (.str x)≠none
 |[],_,E,G,h,_=>by cases h;exact⟨λk h=>h,λt ht=>by simp at ht⟩
 |t::ts,[],E,G,h,hl=>by simp at hl
 |t::ts,c::cs,E,G,h,hl=>by
  rw[lC,lC]at hl
  have up: ∀{F:Ev},xO ts cs F=some G->(∀k,look E k≠none->look F k≠none)->(∀x,vn t=some x->look F (.str x)≠none)->(∀k,look E k≠none->look G k≠none)/\ ∀t'∈t::ts, ∀x,vn t'=some x->look G (.str x)≠none:=λhf h1 h2=>by
   obtain⟨a,b⟩:=UZ ts cs _ G hf (by omega);refine⟨λk hk=>a k (h1 k hk),λt' ht' x hx=>?_⟩;rcases mC.mp ht' with rfl|ht'
   .exact a _ (h2 x hx)
   .exact b t' ht' x hx
  unfold xO at h;split at h
  .rename_i x hx;split at h
   .rename_i hn;refine up h (λk hk=>?_) λy hy=>?_
    .rw[pN]
     cases z:look E k with
     |none=>exact absurd z hk
     |some d=>simp
    .rw[hx]at hy;cases hy;rw[BG,hn,iP rfl];simp
   .rename_i d hd;split at h
    .exact up h (λk hk=>hk) λy hy=>by rw[hx]at hy;cases hy;rw[hd];simp
    .cases h
  .rename_i hx;split at h
   .exact up h (λk hk=>hk) λy hy=>by rw[hx]at hy;cases hy
   .cases h
structure Gv(E:Ev)(n:Nat):Prop where
 ok:cM E
 nd:(E.map (·.1)).Nodup
 le:E.length<=n
def Jj{E:Ev}{n:Nat}(H:Gv E n){x:Db}{v:MV}(hv:VS v):Gv (putK E (.str x) v) (n+1):=by
 have hle:=H.le;have hpl:=OU E (.str x) v;unfold putK at *;split
 .rename_i hs;refine⟨λp hp=>?_,?_,by rw[lM];omega⟩
  .obtain⟨q,hq,rfl⟩:=mM.mp hp;split
   .exact⟨(H.ok q hq).1,hv⟩
   .exact H.ok q hq
  .rw[List.map_map];have:(E.map ((λx=>x.1)∘λp=>if p.1=MV.str x then(p.1,v)else p))=E.map (·.1):=List.map_congr_left λp _=>by show(if p.1=MV.str x then(p.1,v)else p).1=p.1;split<;>rfl
   rw[this];exact H.nd
 .rename_i hs;have hn:look E (.str x)=none:=by cases z:look E (.str x)with |none=>rfl|some d=>rw[z]at hs;exact absurd rfl hs
  refine⟨λp hp=>?_,?_,by simp;omega⟩
  .rcases List.mem_append.mp hp with hp|hp
   .exact H.ok p hp
   .rw[mS.mp hp];exact⟨⟨x,rfl⟩,hv⟩
  .rw[List.map_append,nodup_append];refine⟨H.nd,by simp,λa ha b hb=>?_⟩;rw[List.map_cons,List.map_nil,mS]at hb;obtain⟨p,hp,rfl⟩:=mM.mp ha;rw[hb];exact DH hn p hp
def SC(ts:Tk)(t:Int):Nat:=((ts[t.toNat]?).map (·.1.toNat)).getD 0
def Dz(ts:Tk)(r:Rw):Prop:=r.2.length=SC ts r.1/\ ∀c∈r.2,VS c
def MA{ts:Tk}{r:Rw}(h:Dz ts r):pd (lY r)=true/\JC (lY r)<30:=by
 have h1:UH r.2=true:=LO λc hc=>(gA (h.2 c hc)).1;have h2:FL r.2<=0:=UI λc hc=>by rcases h.2 c hc with⟨i,rfl⟩|⟨i,rfl⟩;exact le_of_eq (DE _);exact le_of_eq (mW _)
 unfold lY;rw[oQ,xR,LN,xR,oQ,h1,qN,tE,jO,DE,jO,tE,sN];refine⟨rfl,?_⟩;omega
def PC(ts:Tk):Prop:=1<=ts.length/\ts.length<=4/\ ∀p∈ts,1<=p.1/\p.1<=4
def VA{ts:Tk}(h:PC ts)(n:Int): ∃p,p∈ts/\(SC ts (n % (ts.length:Int)):Int)=p.1/\ ∀S,yX (.val (.tup (ts.map tbl))) (.val (.int (n % (ts.length:Int)))) S=.ok (.val (tbl p)) S:=by
 have hp:0<ts.length:=h.1;have h0:=eN n (show(ts.length:Int)≠0 by omega);have h1:=eL n (show(0:Int)<ts.length by omega);obtain⟨k,hk⟩: ∃k:Nat,n % (ts.length:Int)=k:=⟨(n % (ts.length:Int)).toNat,by omega⟩
 have hkl:k<ts.length:=by omega
 refine⟨ts[k],getElem_mem hkl,?_,λS=>?_⟩
 .have:=(h.2.2 _ (getElem_mem hkl)).1;unfold SC;rw[hk,Int.toNat_natCast,gE hkl];show((ts[k].1.toNat:Nat):Int)=ts[k].1;omega
 .rw[hk];exact ix_tup (pL (by rw[getElem?_map,gE hkl];rfl))
abbrev RX(x0:Xc)(ex:Int)(ts:Tk)(lv l s:Nat)(c t n:Xc):Rho:=[x0,some (.int ex),some (.tup (ts.map tbl)),some (.loc lv),some (.loc l),some (.loc s),c,t,n]
abbrev RS(S:Sto)(rs:List Rw)(U:Sto):Sto:=S++.lst (rs.map lY)::U
def MB(S U:Sto)(o o':MO):(S++o::U).set S.length o'=S++o'::U:=by simp
def Jk{S U:Sto}{x0:Xc}{ex:Int}{lv s:Nat}{ts:Tk}{vs:Xb}(hT:PC ts)(hv:S[lv]? =some (.lst vs))(hv1:vs≠[])(hvs: ∀v∈vs,VS v){rs:List Rw}(hr: ∀r∈rs,Dz ts r)(hl:rs.length<=9)(c:Int)(t n:Xc):
  ∃(rs':List Rw)(x0' t' n':Xc)(ds:Xb),(∀r∈rs',Dz ts r)/\rs'.length<=9/\aV (RX x0 ex ts lv S.length s (some (.int c)) t n) (RS S rs U)=.ok (.next (RX x0' ex ts lv S.length s (some (.int c)) t' n')) (RS S rs' (U++[.lst ds])):=by
 obtain⟨Z,hZ⟩: ∃Z,Z=RS S rs U:=⟨_,rfl⟩
 have hvZ:Z[lv]? =some (.lst vs):=by rw[hZ,getElem?_append_left (gS.mp hv).1];exact hv
 have hvl:0<vs.length:=List.length_pos_iff.mpr hv1;have htl:0<ts.length:=hT.1;obtain⟨p,hp,hw,hix⟩:=VA hT c;obtain⟨tt,htt⟩: ∃tt,tt=c % (ts.length:Int):=⟨_,rfl⟩
 rw[<-htt]at hw hix;have hp1:=hT.2.2 p hp;have hw4:SC ts tt<=4:=by omega
 have hlt: ∀S,fX [.val (.tup (ts.map tbl))] S=.ok (.val (.int (ts.length:Int))) S:=λS=>by rw[UG,lM]
 have e1:fI (RX x0 ex ts lv S.length s (some (.int c)) t n) Z=.ok (.next (RX x0 ex ts lv S.length s (some (.int c)) (some (.int tt)) n)) Z:=by unfold fI;simp? [hlt,mod_lit (b:=(ts.length:Int)) (by omega)];rw[htt]
 obtain⟨nn,hnn⟩: ∃nn,nn=c / (ts.length:Int) * 48271 % 2147483647:=⟨_,rfl⟩
 have e2:fK (RX x0 ex ts lv S.length s (some (.int c)) (some (.int tt)) n) Z=.ok (.next (RX x0 ex ts lv S.length s (some (.int c)) (some (.int tt)) (some (.int nn)))) Z:=by unfold fK;simp? [hlt,yH (b:=(ts.length:Int)) (by omega) (by have:=hT.2.1;omega),CV (show -(2 ^ 64)<(48271:Int)/\(48271:Int)<2 ^ 64 by decide),mod_lit (show(0:Int)<2147483647 by decide)];rw[hnn]
 obtain⟨out,h1,h2,h3⟩:=vK (S:=Z) (gf:=xD 0) (cf:=rD) (ef:=fH) (ρb:=[none,some (.loc lv),some (.int nn)]) (gs:=[]) (P:=VS) (bF _) (ds:=(List.range (SC ts tt)).map yG) λd hd=>by obtain⟨k,hk,rfl⟩:=mM.mp hd;have hk:=mem_range.mp hk;obtain⟨q,hq⟩:=dv4 (k:=k) (by omega) nn Z;obtain⟨v,hm,hi⟩:=tG hvZ hv1 (q % 5);refine⟨[some (yG k),some (.loc lv),some (.int nn)],v,rfl,rfl,?_,hvs v hm⟩;unfold fH;simp? [lst4,hq,mod_lit (show(0:Int)<5 by decide),bY hvZ,mod_lit (b:=(vs.length:Int)) (by omega),hi]
 rw[lM,length_range]at h2;have hb:CS 1 [3,8] (RX x0 ex ts lv S.length s (some (.int c)) (some (.int tt)) (some (.int nn)))=[none,some (.loc lv),some (.int nn)]:=rfl;have i0: ∀S,yX (.val (tbl p)) (.val (.int 0)) S=.ok (.val (.int (SC ts tt:Int))) S:=λS=>by rw[hw];rfl
 have e3:fL (RX x0 ex ts lv S.length s (some (.int c)) (some (.int tt)) (some (.int nn))) Z=.ok (.next (RX (some (.loc Z.length)) ex ts lv S.length s (some (.int c)) (some (.int tt)) (some (.int nn)))) (Z++[.lst out]):=by unfold fL;simp? [hix,i0,RT (show SC ts tt<=1000 by omega),lM,length_range,show SC ts tt<1000000 by omega,hb,h1]
 obtain⟨r,hrr⟩: ∃r:Rw,r=(tt,out):=⟨_,rfl⟩
 have hrk:Dz ts r:=by rw[hrr];exact⟨h2,h3⟩
 have hlZ:Z++[MO.lst out]=RS S rs (U++[.lst out]):=by rw[hZ];simp
 have hat:(Z++[MO.lst out])[S.length]? =some (.lst (rs.map lY)):=by rw[hlZ];exact BE _ _ _
 have hout:(Z++[MO.lst out])[Z.length]? =some (.lst out):=zK _ _;have hnin:=vT (d:=lY r) true hat (MA hrk).1 λy hy=>by obtain⟨q,hq,rfl⟩:=mM.mp hy;have:=MA (hr q hq);exact⟨this.1,by omega⟩
 have hrw: ∀Y,nA [.val (.int tt),.val (.tup out)] Y=.ok (.val (lY r)) Y:=λY=>by rw[tup2,hrr];rfl
 have e4: ∃rs',(∀r∈rs',Dz ts r)/\rs'.length<=9/\jL (RX (some (.loc Z.length)) ex ts lv S.length s (some (.int c)) (some (.int tt)) (some (.int nn))) (Z++[.lst out])=.ok (.next (RX (some (.loc Z.length)) ex ts lv S.length s (some (.int c)) (some (.int tt)) (some (.int nn)))) (RS S rs' (U++[.lst out])):=by
  by_cases hm:lY r∈rs.map lY
  .refine⟨rs,hr,hl,?_⟩;unfold jL;simp? [tD hout,hrw,hnin,dT0 hm,Bool.not_true,fT,iF];rw[hlZ]
  .by_cases h9:rs.length<9
   .refine⟨rs++[r],λq hq=>(List.mem_append.mp hq).elim (hr q) λz=>by rw[mS.mp z];exact hrk,by simp;omega,?_⟩;have hap:=hX (d:=lY r) hat (by rw[lM];omega);have hset:(Z++[MO.lst out]).set S.length (.lst (rs.map lY++[lY r]))=RS S (rs++[r]) (U++[.lst out]):=by rw[hlZ,MB,RS,List.map_append];rfl
    rw[hset]at hap;unfold jL;simp? [tD hout,hrw,hnin,dF0 hm,Bool.not_false,bY hat,lM,lt_int,show decide ((rs.length:Int)<9)=true from dT0 (by omega),kR hat,hap]
   .refine⟨rs,hr,hl,?_⟩;unfold jL;simp? [tD hout,hrw,hnin,dF0 hm,Bool.not_false,bY hat,lM,lt_int,show decide ((rs.length:Int)<9)=false from dF0 (by omega),fT,iF];rw[hlZ]
 obtain⟨rs',g1,g2,g3⟩:=e4;refine⟨rs',some (.loc Z.length),some (.int tt),some (.int nn),out,g1,g2,?_⟩;rw[<-hZ];unfold aV;rw[zC e1,zC e2,zC e3,g3]
theorem Dj{S:Sto}{ex:Int}{lv s:Nat}{ts:Tk}{vs:Xb}(hT:PC ts)(hv:S[lv]? =some (.lst vs))(hv1:vs≠[])(hvs: ∀v∈vs,VS v){all:Xb}: ∀(cs:Uj)(rs:List Rw)(U:Sto)(x0 a b e:Xc),(∀r∈rs,Dz ts r)->rs.length<=9->S.length<s->(∀rs',(RS S rs' U)[s]? =some (.lst all))->
  ∃(rs':List Rw)(U':Sto)(x0' a' b' e':Xc),(∀r∈rs',Dz ts r)/\rs'.length<=9/\xY (xD 6) aV [(s,all)] (cs.map MV.int) (RX x0 ex ts lv S.length s a b e) (RS S rs U)=.ok (.next (RX x0' ex ts lv S.length s a' b' e')) (RS S rs' U')
 |[],rs,U,x0,a,b,e,h,hl,_,_=>⟨rs,U,x0,a,b,e,h,hl,rfl⟩
 |c::cs,rs,U,x0,a,b,e,h,hl,hs,ha=>by
  obtain⟨rs1,x1,t1,n1,ds,h1,h2,h3⟩:=Jk (S:=S) (U:=U) (x0:=x0) (ex:=ex) (s:=s) hT hv hv1 hvs h hl c b e
  have ha': ∀rs',(RS S rs' (U++[.lst ds]))[s]? =some (.lst all):=λrs'=>by
   have e:RS S rs' (U++[.lst ds])=RS S rs' U++[.lst ds]:=by simp
   rw[e,getElem?_append_left (gS.mp (ha rs')).1];exact ha rs'
  obtain⟨rs',U',x0',a',b',e',g1,g2,g3⟩:=Dj hT hv hv1 hvs cs rs1 (U++[.lst ds]) x1 (some (.int c)) t1 n1 h1 h2 hs ha';refine⟨rs',U',x0',a',b',e',g1,g2,?_⟩;rw[List.map_cons,yI (show xD 6 (.int c) (RX x0 ex ts lv S.length s a b e) (RS S rs U)=.ok (RX x0 ex ts lv S.length s (some (.int c)) b e) (RS S rs U)from rfl) h3 (bO (ha' rs1))];exact g3
def Pm{ts:Tk}{rs:List Rw}(h: ∀r∈rs,Dz ts r)(n:Nat):pZ n (rs.map lY):=gK λx hx=>by obtain⟨r,hr,rfl⟩:=mM.mp hx;exact CA (MA (h r hr)).1
def Dk{S:Sto}{ex:Int}{lv:Nat}{ts:Tk}{vs:Xb}(hT:PC ts)(hv:S[lv]? =some (.lst vs))(hv1:vs≠[])(hvs: ∀v∈vs,VS v){cs:Uj}(hc:cs.length<=63):
  ∃rs:List Rw,(∀r∈rs,Dz ts r)/\rs.length<=9/\zR 4 eR [.new (cs.map MV.int),.val (.int ex),.val (.tup (ts.map tbl)),.val (.loc lv)] S=.ok (.new (rs.map lY)) S:=by
 obtain⟨Z,hZ⟩: ∃Z,Z=S++[MO.lst (cs.map MV.int)]:=⟨_,rfl⟩
 have hvZ:Z[lv]? =some (.lst vs):=by rw[hZ,getElem?_append_left (gS.mp hv).1];exact hv
 have hcZ:Z[S.length]? =some (.lst (cs.map MV.int)):=by rw[hZ];exact zK _ _
 have hlZ:S.length<Z.length:=by rw[hZ];simp
 have e1:oN [some (.loc S.length),some (.int ex),some (.tup (ts.map tbl)),some (.loc lv),none,none,none,none,none] Z=.ok (.next [some (.loc S.length),some (.int ex),some (.tup (ts.map tbl)),some (.loc lv),some (.loc Z.length),none,none,none,none]) (Z++[.lst ([]:Xb)]):=by unfold oN;simp? []
 have hcZ1:(Z++[MO.lst ([]:Xb)])[S.length]? =some (.lst (cs.map MV.int)):=by rw[getElem?_append_left hlZ];exact hcZ
 have e2:oO [some (.loc S.length),some (.int ex),some (.tup (ts.map tbl)),some (.loc lv),some (.loc Z.length),none,none,none,none] (Z++[.lst ([]:Xb)])=.ok (.next (RX (some (.loc S.length)) ex ts lv Z.length (Z.length+1) none none none)) (RS Z [] [.lst (cs.map MV.int)]):=by unfold oO;simp? [PB hcZ1];rw[lA,aA];rfl
 have h5: ∀U,(RS Z [] (.lst (cs.map MV.int)::U))[Z.length+1]? =some (.lst (cs.map MV.int)):=λU=>by simp
 obtain⟨cs',s,U,hs,e3,hat⟩: ∃(cs':Uj)(s:Nat)(U:Sto),Z.length<s/\aW (RX (some (.loc S.length)) ex ts lv Z.length (Z.length+1) none none none) (RS Z [] [.lst (cs.map MV.int)])=.ok (.next (RX (some (.loc S.length)) ex ts lv Z.length s none none none)) (RS Z [] U)/\ ∀rs',(RS Z rs' U)[s]? =some (.lst (cs'.map MV.int)):=by
  by_cases h1:ex % 4=1
  .obtain⟨nb,hn,hd⟩:=FS (ex / 4) (m:=9) (by decide) (RS Z [] [.lst (cs.map MV.int)]);have hd':zR 2 yT [.val (.int (ex / 4)),.val (.int 9)] (RS Z [] [.lst (cs.map MV.int)])=.ok (.new (nb.map MV.int)) (RS Z [] [.lst (cs.map MV.int)]):=hd;have had:wH (.val (.loc (Z.length+1))) (.new (nb.map MV.int)) (RS Z [] [.lst (cs.map MV.int)])=.ok (.new ((cs++nb).map MV.int)) (RS Z [] [.lst (cs.map MV.int)]):=by rw[List.map_append];exact EH (KL (h5 [])) rfl (fits (by rw[lM,lM];omega))
   refine⟨cs++nb,Z.length+2,[.lst (cs.map MV.int),.lst ((cs++nb).map MV.int)],by omega,?_,λrs'=>by simp⟩;unfold aW;simp? [mod_lit (show(0:Int)<4 by decide),h1,decide_true,yH (b:=4) (by decide) (by decide),hd',had];rw[lA];simp
  .refine⟨cs,Z.length+1,[.lst (cs.map MV.int)],by omega,?_,λrs'=>by simp⟩;unfold aW;simp? [mod_lit (show(0:Int)<4 by decide),h1,decide_false,fT,iF]
 obtain⟨rs,U',x0,a,b,e,g1,g2,g3⟩:=Dj (ex:=ex) (s:=s) hT hvZ hv1 hvs cs' [] U (some (.loc S.length)) none none none (λr h=>by simp at h) (by simp) hs hat;have e4:oP (RX (some (.loc S.length)) ex ts lv Z.length s none none none) (RS Z [] U)=.ok (.next (RX x0 ex ts lv Z.length s a b e)) (RS Z rs U'):=by unfold oP;simp? [cV (hat [])];exact g3
 refine⟨rs,g1,g2,?_⟩;have hF:eR [.loc S.length,.int ex,.tup (ts.map tbl),.loc lv] Z=.ok (.val (.loc Z.length)) (S++.lst (cs.map MV.int)::.lst (rs.map lY)::U'):=by show yU (sL [some (.loc S.length),some (.int ex),some (.tup (ts.map tbl)),some (.loc lv),none,none,none,none,none] Z)=_;unfold sL;rw[zC e1,zC e2,zC e3,zC e4];show R.ok (Er.val (.loc Z.length)) (RS Z rs U')=_;rw[RS,hZ,aA];rfl
 rw[hZ]at hF;exact eB (T:=.lst (cs.map MV.int)::.lst (rs.map lY)::U') rfl hF (by simp) (by simp) (Pm g1 _)
def Tn(B:Ch)(d:MV):Prop:=(∃v,VS v/\d=.tup [.str IS,v])\/ ∃x∈B,d=.tup [.str pT,.str x]
def Pn(B:Ch):List Pt->Prop
 |[]=>True
 |.same a b::ps=>Tn B a/\Tn B b/\Pn B ps
 |.quan _ _ tms::ps=>Pn (B++tms.filterMap vn) ps
def Fw(rows:List Rw)(ps:List Pt):Prop:= ∀x t tms,Pt.quan x t tms∈ps-> ∀r∈rows,r.1=t->tms.length<=r.2.length
def Tn.tm{B:Ch}{d:MV}(h:Tn B d):lV d:=by
 rcases h with⟨v,hv,rfl⟩|⟨x,_,rfl⟩
 .exact .inr ⟨v,hv,rfl⟩
 .exact .inl ⟨x,rfl⟩
def Tn.bnd{B:Ch}{E:Ev}(hE:cM E)(hB: ∀x∈B,look E (.str x)≠none){d:MV}(h:Tn B d):Pz E d:=by
 rcases h with⟨v,hv,rfl⟩|⟨x,hx,rfl⟩
 .exact Pk E hv
 .exact Ji hE (hB x hx)
theorem i4_3(a b c e:MV)(S:Sto):yX (.val (.tup [a,b,c,e])) (.val (.int 3)) S=.ok (.val e) S:=rfl
theorem pM_3(p:Pt)(q:MV)(S:Sto):yX (.val (pM p q)) (.val (.int 3)) S=.ok (.val q) S:=by cases p<;>rfl
theorem Tt(p:Pt):decide (RY p=Ow)=false:=by
 cases p with
 |same a b=>rfl
 |quan x t tms=>cases x<;>rfl
theorem Dl(x:Bool)(t:Int)(tms:Xb):decide (RY (.quan x t tms)=XF)=x:=by cases x<;>rfl
theorem Po(x:Bool)(t:Int)(tms:Xb):decide (RY (.quan x t tms)=XE)= !x:=by cases x<;>rfl
abbrev LH(f:MV)(lr le:Nat)(al t c fo:Xc):Rho:=[some f,some (.loc lr),some (.loc le),al,t,c,fo]
def Jl(rs:List Rw)(t:Int)(tms:Xb)(E:Ev):List Ev:=(rs.filter λr=>decide (r.1=t)).filterMap λr=>xO tms r.2 E
theorem PD(r:Rw)(rs:List Rw)(t:Int)(tms:Xb)(E:Ev):Jl (r::rs) t tms E=(if r.1=t then(xO tms r.2 E).toList else [])++Jl rs t tms E:=by
 unfold Jl;rw[List.filter_cons];by_cases e:r.1=t
 .rw[iP (dT0 e),iP e,filterMap_cons];cases xO tms r.2 E<;>rfl
 .rw[iN (by simpa using e),iN e];rfl
def Tu(self:List MV->Sto->R Er)(rows:List Rw)(ps:List Pt)(B:Ch):Prop:= ∀(S:Sto)(lr le:Nat)(E:Ev),S[lr]? =some (.lst (rows.map lY))->S[le]? =some (.dic E)->cM E->(E.map (·.1)).Nodup->E.length+100 * ps.length<=800->(∀x∈B,look E (.str x)≠none)->
 zR 3 self [.val (fM ps),.val (.loc lr),.val (.loc le)] S=.ok (.val (.bl (hold rows ps E))) S
theorem Dm{self:List MV->Sto->R Er}{rows:List Rw}{ps:List Pt}{B:Ch}{x:Bool}{t:Int}{tms:Xb}(ih:Tu self rows ps (B++tms.filterMap vn)){S:Sto}{lr le:Nat}{E:Ev}(hr:S[lr]? =some (.lst (rows.map lY)))(hle:S[le]? =some (.dic E))(hE:cM E)(nd:(E.map (·.1)).Nodup)(hEz:E.length+100 * (ps.length+1)<=800)(hp:rE (.quan x t tms))(hB: ∀y∈B,look E (.str y)≠none)(hvs: ∀r∈rows, ∀c∈r.2,VS c)(hw: ∀r∈rows,r.1=t->tms.length<=r.2.length):
  ∀(rs:List Rw),(∀r∈rs,r∈rows)-> ∀(T:Sto)(al a b c:Xc),
   (∃T' a' b' c',xY (CQ 2 (zS (xD 4) (zS (xD 5) gG))) (yM self) [(lr,rows.map lY)] (rs.map lY) (LH (fM (.quan x t tms::ps)) lr le al a b c) (S++T)=.ok (.next (LH (fM (.quan x t tms::ps)) lr le al a' b' c')) (S++T')/\ ∀G∈Jl rs t tms E,hold rows ps G= !x)\/
   (∃T',xY (CQ 2 (zS (xD 4) (zS (xD 5) gG))) (yM self) [(lr,rows.map lY)] (rs.map lY) (LH (fM (.quan x t tms::ps)) lr le al a b c) (S++T)=.ok (.ret (.val (.bl x))) (S++T')/\ ∃G∈Jl rs t tms E,hold rows ps G=x)
 |[],_,T,al,a,b,c=>.inl ⟨T,a,b,c,rfl,λG h=>by simp[Jl]at h⟩
 |r::rs,hrs,T,al,a,b,c=>by
  have hrm:=hrs r mF0;have hup: ∀{l:Nat}{o:MO}(T:Sto),S[l]? =some o->(S++T)[l]? =some o:=λT h=>by rw[getElem?_append_left (gS.mp h).1];exact h
  have htz:tms.length<=100:=hp.2;have htk: ∀u∈tms,lV u:=hp.1;have P0:=λZ=>Ce (.quan x t tms) (fM ps) Z;have P1: ∀Z,yX (.val (pM (.quan x t tms) (fM ps))) (.val (.int 1)) Z=.ok (.val (.int t)) Z:=λ_=>rfl;have P2: ∀Z,yX (.val (pM (.quan x t tms) (fM ps))) (.val (.int 2)) Z=.ok (.val (.tup tms)) Z:=λ_=>rfl;have P3:=λZ=>pM_3 (.quan x t tms) (fM ps) Z;have hfit:=Tq (S:=S++T) (cs:=r.2) (hup T hle) hE nd htk (hvs r hrm) (by omega);have hg:CQ 2 (zS (xD 4) (zS (xD 5) gG)) (lY r) (LH (fM (.quan x t tms::ps)) lr le al a b c) (S++T)=.ok (LH (fM (.quan x t tms::ps)) lr le al (some (.int r.1)) (some (.tup r.2)) c) (S++T):=rfl
  have stp': ∀{T1:Sto}{c1:Xc},yM self (LH (fM (.quan x t tms::ps)) lr le al (some (.int r.1)) (some (.tup r.2)) c) (S++T)=.ok (.next (LH (fM (.quan x t tms::ps)) lr le al (some (.int r.1)) (some (.tup r.2)) c1)) (S++T1)->(∀G∈(if r.1=t then(xO tms r.2 E).toList else []),hold rows ps G= !x)->
    (∃T' a' b' c',xY (CQ 2 (zS (xD 4) (zS (xD 5) gG))) (yM self) [(lr,rows.map lY)] ((r::rs).map lY) (LH (fM (.quan x t tms::ps)) lr le al a b c) (S++T)=.ok (.next (LH (fM (.quan x t tms::ps)) lr le al a' b' c')) (S++T')/\ ∀G∈Jl (r::rs) t tms E,hold rows ps G= !x)\/
    (∃T',xY (CQ 2 (zS (xD 4) (zS (xD 5) gG))) (yM self) [(lr,rows.map lY)] ((r::rs).map lY) (LH (fM (.quan x t tms::ps)) lr le al a b c) (S++T)=.ok (.ret (.val (.bl x))) (S++T')/\ ∃G∈Jl (r::rs) t tms E,hold rows ps G=x):=λ{T1 c1} hb hG=>by
   rw[List.map_cons,yI hg hb (bO (hup T1 hr)),PD];rcases Dm ih hr hle hE nd hEz hp hB hvs hw rs (λq hq=>hrs q (mO _ hq)) T1 al (some (.int r.1)) (some (.tup r.2)) c1 with⟨T',a',b',c',g1,g2⟩|⟨T',g1,G,g2,g3⟩
   .exact .inl ⟨T',a',b',c',g1,λG h=>(List.mem_append.mp h).elim (hG G) (g2 G)⟩
   .exact .inr ⟨T',g1,G,List.mem_append.mpr (.inr g2),g3⟩
  by_cases e:r.1=t
  .have ft: ∀Z,fU (.val (.int r.1)) (.val (.int t)) Z=.ok (.val (.bl true)) Z:=λZ=>by rw[eq_int,dT0 e]
   cases z:xO tms r.2 E with
   |none=>
    rw[z]at hfit;refine stp' (T1:=T) (c1:=some .non) ?_ (by rw[iP e,z];simp);unfold yM gZ;have hf1:fM (.quan x t tms::ps)=pM (.quan x t tms) (fM ps):=rfl;rw[hf1];simp? [P1,ft];rw[zC (F:=CJ _ 6) (ρ':=LH (pM (.quan x t tms) (fM ps)) lr le al (some (.int r.1)) (some (.tup r.2)) (some .non)) (S':=S++T) (by simp? [P2,hfit])];simp? [vE,fT,iF]
   |some G=>
    rw[z]at hfit;have hG:=tH _ _ _ _ z hE (hvs r hrm);have ndG:=(FW _ _ _ _ z nd).1;have hGl:=tI _ _ _ _ z;obtain⟨b1,b2⟩:=UZ _ _ _ _ z (hw r hrm e);obtain⟨Z,hZ⟩: ∃Z,Z=S++(T++[MO.dic G]):=⟨_,rfl⟩
    have hZ':(S++T)++[MO.dic G]=Z:=by rw[hZ,aA]
    dsimp only at hfit;rw[hZ']at hfit;have hGZ:Z[(S++T).length]? =some (.dic G):=by rw[<-hZ'];exact zK _ _
    have hc:=ih Z lr (S++T).length G (by rw[hZ];exact hup _ hr) hGZ hG ndG (by omega) (λy hy=>by
     rcases List.mem_append.mp hy with hy|hy
     .exact b1 _ (hB y hy)
     .obtain⟨u,hu,hv⟩:=mem_filterMap.mp hy;exact b2 u hu y hv)
    have hb:yM self (LH (fM (.quan x t tms::ps)) lr le al (some (.int r.1)) (some (.tup r.2)) c) (S++T)=if hold rows ps G=x then .ok (.ret (.val (.bl x))) Z else .ok (.next (LH (fM (.quan x t tms::ps)) lr le al (some (.int r.1)) (some (.tup r.2)) (some (.loc (S++T).length)))) Z:=by
     unfold yM gZ;have hf1:fM (.quan x t tms::ps)=pM (.quan x t tms) (fM ps):=rfl;rw[hf1];simp? [P1,ft];rw[zC (F:=CJ _ 6) (ρ':=LH (pM (.quan x t tms) (fM ps)) lr le al (some (.int r.1)) (some (.tup r.2)) (some (.loc (S++T).length))) (S':=Z) (by simp? [P2,hfit])];have hws: ∀Y,fU (.val (.str (RY (.quan x t tms)))) (.val (.str XF)) Y=.ok (.val (.bl x)) Y:=λY=>by rw[eq_str,Dl]
     have hnn: ∀Y,vE (.val (.loc (S++T).length)) (.val .non) Y=.ok (.val (.bl true)) Y:=λ_=>rfl;simp? [hnn,P3,hc,P0,hws,Ts];by_cases hh:hold rows ps G=x
     .rw[iP hh,hh];cases x<;>rfl
     .rw[iN hh];have:(hold rows ps G==x)=false:=by simpa using hh
      rw[this];rfl
    by_cases hh:hold rows ps G=x
    .rw[iP hh]at hb;refine .inr ⟨T++[.dic G],?_,G,by rw[PD,iP e,z];simp,hh⟩;rw[List.map_cons,KH hg hb,hZ]
    .rw[iN hh]at hb;refine stp' (T1:=T++[.dic G]) (by rw[<-hZ];exact hb) λG' hG'=>?_;rw[iP e,z]at hG';have:G'=G:=by simpa using hG'
     subst this;revert hh;cases hold rows ps G'<;>cases x<;>simp
  .refine stp' (T1:=T) (c1:=c) ?_ (by rw[iN e];simp);unfold yM gZ;have hf1:fM (.quan x t tms::ps)=pM (.quan x t tms) (fM ps):=rfl;rw[hf1];simp? [P1,e,decide_false,fT,iF]
theorem Do{rows:List Rw}(hvs: ∀r∈rows, ∀c∈r.2,VS c): ∀(ps:List Pt)(n:Nat)(B:Ch),ps.length<n->(∀p∈ps,rE p)->Pn B ps->Fw rows ps->Tu (zQ n) rows ps B
 |[],n+1,B,_,_,_,_=>λS lr le E hr hle hE nd hEz hB=>by
  refine DF rfl ?_;show yU (wC (zQ n) (LH (fM []) lr le none none none none) S)=_;have e1:wQ (zQ n) (LH (fM []) lr le none none none none) S=.ok (.ret (.val (.bl true))) S:=by unfold wQ;simp? [show∀Z,yX (.val (fM [])) (.val (.int 0)) Z=.ok (.val (.str Ow)) Z from λ_=>rfl,eq_str,decide_true]
  unfold wC;rw[wW e1];rfl
 |.same a b::ps,n+1,B,hn,hp,hs,hf=>λS lr le E hr hle hE nd hEz hB=>by
  rw[lC]at hn hEz;obtain⟨ha,hb,hs⟩:=hs;have ih:=Do hvs ps n B (by omega) (λq hq=>hp q (mO _ hq)) hs (λx t tms h=>hf x t tms (mO _ h)) S lr le E hr hle hE nd (by omega) hB;obtain⟨v1,k1⟩:=Dg hle hE ha.tm (ha.bnd hE hB);obtain⟨v2,k2⟩:=Dg hle hE hb.tm (hb.bnd hE hB);refine DF rfl ?_;show yU (wC (zQ n) (LH (.tup [.str sP,a,b,fM ps]) lr le none none none none) S)=_;have e1:wQ (zQ n) (LH (.tup [.str sP,a,b,fM ps]) lr le none none none none) S=.ok (.next (LH (.tup [.str sP,a,b,fM ps]) lr le none none none none)) S:=by unfold wQ;simp? [Cd,eq_str,show decide (sP=Ow)=false from rfl,fT,iF]
  have e2:gQ (zQ n) (LH (.tup [.str sP,a,b,fM ps]) lr le none none none none) S=.ok (.ret (.val (.bl (hold rows (.same a b::ps) E)))) S:=by
   unfold gQ;simp? [Cd,eq_str,decide_true];rw[zC (F:=CJ _ 3) (ρ':=LH (.tup [.str sP,a,b,fM ps]) lr le (some (.bl (decide (tv E a=tv E b)))) none none none) (S':=S) (by simp? [Tb,Oz,v1,v2,UJ (gA k1).1 (gA k2).1 (gA k1).2])];rw[XJ, <-Tr (ha.bnd hE hB) (hb.bnd hE hB)];by_cases hh:tv E a=tv E b
   .simp? [Fx,dT0 hh,i4_3,ih,Bool.true_and]
   .simp? [Fx,dF0 hh,fT,iF,Bool.false_and]
  unfold wC;rw[zC e1,wW e2];rfl
 |.quan x t tms::ps,n+1,B,hn,hp,hs,hf=>λS lr le E hr hle hE nd hEz hB=>by
  rw[lC]at hn hEz;have ih:=Do hvs ps n (B++tms.filterMap vn) (by omega) (λq hq=>hp q (mO _ hq)) hs (λx t tms h=>hf x t tms (mO _ h));have P0:=λZ=>Ce (.quan x t tms) (fM ps) Z;have e1: ∀o Z,wQ (zQ n) (some (pM (.quan x t tms) (fM ps))::o) Z=.ok (.next (some (pM (.quan x t tms) (fM ps))::o)) Z:=λo Z=>by unfold wQ;simp? [P0,eq_str,Tt,fT,iF]
  have e2: ∀o Z,gQ (zQ n) (some (pM (.quan x t tms) (fM ps))::o) Z=.ok (.next (some (pM (.quan x t tms) (fM ps))::o)) Z:=λo Z=>by unfold gQ;simp? [P0,eq_str,Cf,fT,iF]
  have e4: ∀o Z,dQ (zQ n) (some (pM (.quan x t tms) (fM ps))::o) Z=.ok (.ret (.val (.bl (!x)))) Z:=λo Z=>by unfold dQ;simp? [P0,eq_str,Po]
  have e3:lO (zQ n) (LH (pM (.quan x t tms) (fM ps)) lr le none none none none) S=xY (CQ 2 (zS (xD 4) (zS (xD 5) gG))) (yM (zQ n)) [(lr,rows.map lY)] (rows.map lY) (LH (fM (.quan x t tms::ps)) lr le none none none none) (S++[]):=by unfold lO;simp? [cV hr];rw[aN];rfl
  have hwy:Jl rows t tms E=JD rows E (.quan x t tms):=rfl;rcases Dm ih hr hle hE nd hEz (hp _ mF0) hB hvs (hf x t tms mF0) rows (λr h=>h) [] none none none none with⟨T',a',b',c',g1,g2⟩|⟨T',g1,G,g2,g3⟩
  .have hh:hold rows (.quan x t tms::ps) E= !x:=by
    rw[hwy]at g2;rw[pQ];unfold res
    cases x with
    |true=>
     rw[iP (show(Pt.quan true t tms).ex=true from rfl)];show _=false;rw[Bool.eq_false_iff];intro h;obtain⟨G,hG,h1⟩:=List.any_eq_true.mp h;rw[g2 G hG]at h1;cases h1
    |false=>
     rw[iN (show¬(Pt.quan false t tms).ex=true from xF0)];exact List.all_eq_true.mpr g2
   rw[hh];refine oY (T:=T') rfl ?_ (IG _ _) (λl=>by simp);show yU (wC (zQ n) (LH (pM (.quan x t tms) (fM ps)) lr le none none none none) S)=_;unfold wC;rw[zC (e1 _ _),zC (e2 _ _),zC (e3.trans g1)];show yU (dQ (zQ n) (LH (pM (.quan x t tms) (fM ps)) lr le none a' b' c') (S++T'))=_;rw[e4];rfl
  .have hh:hold rows (.quan x t tms::ps) E=x:=by
    rw[hwy]at g2;rw[pQ];unfold res
    cases x with
    |true=>
     rw[iP (show(Pt.quan true t tms).ex=true from rfl)];exact List.any_eq_true.mpr ⟨G,g2,g3⟩
    |false=>
     rw[iN (show¬(Pt.quan false t tms).ex=true from xF0),Bool.eq_false_iff];intro h;rw[List.all_eq_true.mp h G g2]at g3;cases g3
   rw[hh];refine oY (T:=T') rfl ?_ (IG _ _) (λl=>by simp);show yU (wC (zQ n) (LH (pM (.quan x t tms) (fM ps)) lr le none none none none) S)=_;unfold wC;rw[zC (e1 _ _),zC (e2 _ _),wW (e3.trans g1)];rfl
theorem PF{gf:MV->Rho->Sto->R Rho}{cf:AZ}{ef:AX}{ρb:Rho}{gs:Xe}{S:Sto}{P:MV->Prop}(hs:stay gs S):
  ∀{ds:Xb},(∀d∈ds, ∃ρ1 b,gf d ρb S=.ok ρ1 S/\cf ρ1 S=.ok b S/\(b=true-> ∃y,ef ρ1 S=.ok (.val y) S/\P y))-> ∃out,kO gf cf ef ρb gs ds S=.ok out S/\out.length<=ds.length/\ ∀o∈out,P o
 |[],_=>⟨[],rfl,Nat.le_refl _,λo h=>by simp at h⟩
 |d::ds,st=>by
  obtain⟨ρ1,b,h1,h2,h3⟩:=st d mF0;obtain⟨out,e,hl,hp⟩:=PF hs (ds:=ds) λd hd=>st d (mO _ hd)
  cases b with
  |true=>
   obtain⟨y,h3,h4⟩:=h3 rfl;refine⟨y::out,?_,by rw[lC,lC];omega,λo ho=>(mC.mp ho).elim (λz=>z▸h4) (hp o)⟩;unfold kO;rw[h1,wR,cT,h2,wR,cT,iP rfl,h3,wR,cT];unfold jS;rw[cT,iP hs,e];rfl
  |false=>
   refine⟨out,?_,by rw[lC];omega,hp⟩;unfold kO;rw[h1,wR,cT,h2,wR,cT,iN xF0,iP hs,e]
def JF:Pt->MV
 |.same a b=>.tup [.str sP,a,b]
 |.quan x t tms=>.tup [.str (RY (.quan x t tms)),.int t,.tup tms]
def Kq:List (List Nat)->List Pt->List (List Nat)
 |B,[]=>B
 |B,.same _ _::ps=>Kq B ps
 |B,.quan _ _ tms::ps=>Kq (B++tms.filterMap vn) ps
theorem vZ: ∀(ps:List Pt)(B:Ch)(p:Pt),Kq B (ps++[p])=Kq (Kq B ps) [p]
 |[],B,p=>rfl
 |.same _ _::ps,B,p=>vZ ps B p
 |.quan _ _ tms::ps,B,p=>vZ ps (B++tms.filterMap vn) p
theorem AA: ∀(ps:List Pt)(B:Ch)(p:Pt),Pn B ps->Pn (Kq B ps) [p]->Pn B (ps++[p])
 |[],B,p,_,h=>h
 |.same _ _::ps,B,p,h1,h2=>⟨h1.1,h1.2.1,AA ps B p h1.2.2 h2⟩
 |.quan _ _ tms::ps,B,p,h1,h2=>AA ps (B++tms.filterMap vn) p h1 h2
def nq:List Pt->Nat
 |[]=>0
 |.same _ _::ps=>nq ps
 |.quan _ _ _::ps=>nq ps+1
theorem tK: ∀(ps:List Pt)(p:Pt),nq (ps++[p])=nq ps+nq [p]
 |[],p=>by simp[nq]
 |.same _ _::ps,p=>tK ps p
 |.quan _ _ _::ps,p=>by show nq (ps++[p])+1=nq ps+1+nq [p];rw[tK ps p];omega
structure IP(ts:Tk)(B bn:Ch)(ps:List Pt)(w:Int):Prop where
 pk: ∀p∈ps,rE p
 sc:Pn B ps
 bb: ∀x∈bn,x∈Kq B ps
 q4:nq ps<=4
 qw:(nq ps:Int)<=w
 fw: ∀x t tms,Pt.quan x t tms∈ps->tms.length=SC ts t
 bl:bn.length<=50+10 * ps.length
abbrev PS(S:Sto)(ps:List Pt)(U:Sto):Sto:=S++.lst (ps.map JF)::U
abbrev PX(lc:Nat)(ts:Tk)(ln lv lg l b:Nat)(w:Int)(c n h t m:Xc):Rho:=[some (.loc lc),some (.tup (ts.map tbl)),some (.loc ln),some (.loc lv),some (.loc lg),some (.loc l),some (.loc b),some (.int w),c,n,h,t,m]
section
variable{S:Sto}{lc ln lv lg:Nat}{ts:Tk}{vs:Xb}{xs B:Ch}
def Pp{bn:Ch}(hvs: ∀v∈vs,VS v): ∀d∈(vs.map λv=>MV.tup [.str IS,v])++(List.replicate 2 (bn.map λx=>MV.tup [.str pT,.str x])).flatten,Tn bn d:=λd hd=>by
 rcases List.mem_append.mp hd with hd|hd
 .obtain⟨v,hv,rfl⟩:=mM.mp hd;exact .inl ⟨v,hvs v hv,rfl⟩
 .obtain⟨l,hl,hd⟩:=List.mem_flatten.mp hd;rw[(List.mem_replicate.mp hl).2]at hd;obtain⟨x,hx,rfl⟩:=mM.mp hd;exact .inr ⟨x,hx,rfl⟩
def Tn.mono{B B':Ch}(h: ∀x∈B,x∈B'){d:MV}(t:Tn B d):Tn B' d:=t.imp id λ⟨x,hx,e⟩=>⟨x,h x hx,e⟩
def Jm(hT:PC ts)(hx:S[ln]? =some (.lst (xs.map MV.str)))(hx1:xs≠[])(hv:S[lv]? =some (.lst vs))(hv1:vs≠[])(hvz:vs.length<=100)(hvs: ∀v∈vs,VS v){ps:List Pt}{bn:Ch}{w:Int}(H:IP ts B bn ps w)(hpl:ps.length<20){U:Sto}{b:Nat}(hb: ∀ps',(PS S ps' U)[b]? =some (.lst (bn.map MV.str)))(c:Int)(n h t m:Xc):
  ∃(ps':List Pt)(bn':Ch)(w':Int)(U':Sto)(b':Nat)(n' h' t' m':Xc),IP ts B bn' ps' w'/\ps'.length=ps.length+1/\(∀ps2:List Pt,(PS S ps2 U')[b']? =some (.lst (bn'.map MV.str)))/\(∀(ps2:List Pt)(l:Nat)(o:MO),(PS S ps2 U)[l]? =some o->(PS S ps2 U')[l]? =some o)/\
   dR (PX lc ts ln lv lg S.length b w (some (.int c)) n h t m) (PS S ps U)=.ok (.next (PX lc ts ln lv lg S.length b' w' (some (.int c)) n' h' t' m')) (PS S ps' U'):=by
 obtain⟨Z,hZ⟩: ∃Z,Z=PS S ps U:=⟨_,rfl⟩
 obtain⟨nb,hn6,hnb⟩:=FS c (m:=6) (by decide) Z;have hnb:zR 2 yT [.val (.int c),.val (.int 6)] Z=.ok (.new (nb.map MV.int)) Z:=hnb;obtain⟨Z1,hZ1⟩: ∃Z1,Z1=Z++[MO.lst (nb.map MV.int)]:=⟨_,rfl⟩
 have hZ1':Z1=PS S ps (U++[.lst (nb.map MV.int)]):=by rw[hZ1,hZ];simp
 have up1: ∀{l:Nat}{o:MO},S[l]? =some o->Z1[l]? =some o:=λh=>by rw[hZ1',getElem?_append_left (gS.mp h).1];exact h
 have hb1:Z1[b]? =some (.lst (bn.map MV.str)):=by have:=hb ps;rw[<-hZ]at this;rw[hZ1,getElem?_append_left (gS.mp this).1];exact this
 have hn1:Z1[Z.length]? =some (.lst (nb.map MV.int)):=by rw[hZ1];exact zK _ _
 have hp1:Z1[S.length]? =some (.lst (ps.map JF)):=by rw[hZ1'];exact BE _ _ _
 have e1:aI (PX lc ts ln lv lg S.length b w (some (.int c)) n h t m) Z=.ok (.next (PX lc ts ln lv lg S.length b w (some (.int c)) (some (.loc Z.length)) h t m)) Z1:=by unfold aI;simp? [hnb];rw[hZ1]
 obtain⟨w',hw'⟩: ∃w':Int,w'=w+if decide (0<c % 3)then 1 else 0:=⟨_,rfl⟩
 have e2:aK (PX lc ts ln lv lg S.length b w (some (.int c)) (some (.loc Z.length)) h t m) Z1=.ok (.next (PX lc ts ln lv lg S.length b w' (some (.int c)) (some (.loc Z.length)) h t m)) Z1:=by unfold aK;simp? [mod_lit (show(0:Int)<3 by decide),gt_int,show∀k Y,WN [.val (.bl k)] Y=.ok (.val (.int (if k then 1 else 0))) Y from λ_ _=>rfl];rw[hw']
 have hm3:0<=c % 3/\c % 3<3:=⟨eN _ (by decide),eL _ (by decide)⟩
 have hww:w<=w':=by rw[hw'];split<;>omega
 have nbk: ∀(k:Nat),k<6-> ∃i, ∀{Y:Sto},Y[Z.length]? =some (.lst (nb.map MV.int))->yX (.val (.loc Z.length)) (.val (.int (k:Int))) Y=.ok (.val (.int i)) Y:=λk hk=>by
  obtain⟨i,hi⟩: ∃i,nb[k]? =some i:=⟨_,gE (by omega)⟩
  exact⟨i,λhY=>cU hY (pL (by rw[getElem?_map,hi];rfl))⟩
 have hbl:=H.bl
 have grow: ∀(D:Sto)(ps2:List Pt)(l:Nat)(o:MO),(PS S ps2 U)[l]? =some o->(PS S ps2 (U++D))[l]? =some o:=λD ps2 l o hl=>by
  have e:PS S ps2 (U++D)=PS S ps2 U++D:=by simp
  rw[e,getElem?_append_left (gS.mp hl).1];exact hl
 unfold dR;rw[<-hZ,zC e1,zC e2];by_cases hsame:c % 3=0\/4<w'
 .obtain⟨th,hth⟩: ∃th:List MV,th=(vs.map λv=>MV.tup [.str IS,v])++(List.replicate 2 (bn.map λx=>MV.tup [.str pT,.str x])).flatten:=⟨_,rfl⟩
  have c1:kO (xD 0) aD bA (CS 1 [] (PX lc ts ln lv lg S.length b w' (some (.int c)) (some (.loc Z.length)) h t m)) [(lv,vs)] vs Z1=.ok (vs.map λv=>.tup [.str IS,v]) Z1:=by
   have hm:=pK (f:=id) (g:=λv=>MV.tup [.str IS,v]) (gf:=xD 0) (cf:=aD) (ef:=bA) (ρb:=[none]) (gs:=[(lv,vs)]) (ds:=vs) (bO (up1 hv)) λu hu=>⟨[some u],rfl,rfl,by unfold bA;simp? []⟩
   rw[List.map_id]at hm;exact hm
  have c2:kO (xD 0) pG aF (CS 1 [] (PX lc ts ln lv lg S.length b w' (some (.int c)) (some (.loc Z.length)) h t m)) [(b,bn.map MV.str)] (bn.map MV.str) Z1=.ok (bn.map λx=>.tup [.str pT,.str x]) Z1:=
   pK (f:=MV.str) (g:=λx=>MV.tup [.str pT,.str x]) (bO hb1) λx _=>⟨[some (.str x)],rfl,rfl,by unfold aF;simp? []⟩
  have hrep:iK (.new (bn.map λx=>MV.tup [.str pT,.str x])) (.val (.int 2)) Z1=.ok (.new (List.replicate 2 (bn.map λx=>MV.tup [.str pT,.str x])).flatten) Z1:=by show(if 0<=(2:Int)/\(2:Int)<100000/\(bn.map λx=>MV.tup [.str pT,.str x]).length * 2<=sizeLine then _ else _)=_;rw[iP ⟨by decide,by decide,fits (by rw[lM];omega)⟩];rfl
  have hthl:th.length=vs.length+2 * bn.length:=by rw[hth,lA,lM];simp[List.replicate];omega
  have had:wH (.new (vs.map λv=>MV.tup [.str IS,v])) (.new (List.replicate 2 (bn.map λx=>MV.tup [.str pT,.str x])).flatten) Z1=.ok (.new th) Z1:=by rw[hth];refine EH rfl rfl (fits ?_);have:=hthl;rw[hth,lA]at this;omega
  obtain⟨Z2,hZ2⟩: ∃Z2,Z2=Z1++[MO.lst th]:=⟨_,rfl⟩
  have hZ2':Z2=PS S ps (U++[.lst (nb.map MV.int),.lst th]):=by rw[hZ2,hZ1'];simp
  have t2:Z2[Z1.length]? =some (.lst th):=by rw[hZ2];exact zK _ _
  have n2:Z2[Z.length]? =some (.lst (nb.map MV.int)):=by rw[hZ2,getElem?_append_left (gS.mp hn1).1];exact hn1
  have p2:Z2[S.length]? =some (.lst (ps.map JF)):=by rw[hZ2'];exact BE _ _ _
  have hthn:th≠[]:=λz=>by rw[z,List.length_nil]at hthl;have:0<vs.length:=List.length_pos_iff.mpr hv1;omega
  have hthp:0<th.length:=List.length_pos_iff.mpr hthn;obtain⟨i0,hi0⟩:=nbk 0 (by decide);obtain⟨i1,hi1⟩:=nbk 1 (by decide);have hi0:yX (.val (.loc Z.length)) (.val (.int 0)) Z2=.ok (.val (.int i0)) Z2:=hi0 n2;have hi1:yX (.val (.loc Z.length)) (.val (.int 1)) Z2=.ok (.val (.int i1)) Z2:=hi1 n2;obtain⟨d1,hd1,q1⟩:=tG t2 hthn i0;obtain⟨d2,hd2,q2⟩:=tG t2 hthn i1;have hmem: ∀d∈th,Tn bn d:=λd hd=>Pp hvs d (by rw[hth]at hd;exact hd);have hap:=hX (d:=.tup [.str sP,d1,d2]) p2 (by rw[lM];omega);have hset:Z2.set S.length (.lst (ps.map JF++[.tup [.str sP,d1,d2]]))=PS S (ps++[.same d1 d2]) (U++[.lst (nb.map MV.int),.lst th]):=by rw[hZ2',MB,PS,List.map_append];rfl
  rw[hset]at hap;have hT1:=(hmem d1 hd1).mono H.bb;have hT2:=(hmem d2 hd2).mono H.bb
  have htest: ∀Y,sJ (bJ (dJ fU (dJ xW (vJ 8) (kJ (.int 3))) (kJ (.int 0))) gC) (bJ (dJ Nc (vJ 7) (kJ (.int 4))) gC) (PX lc ts ln lv lg S.length b w' (some (.int c)) (some (.loc Z.length)) h t m) Y=.ok true Y:=λY=>by
   rcases hsame with e|e
   .simp? [mod_lit (show(0:Int)<3 by decide),e,decide_true]
   .by_cases e0:c % 3=0
    .simp? [mod_lit (show(0:Int)<3 by decide),e0,decide_true]
    .simp? [mod_lit (show(0:Int)<3 by decide),e0,decide_false,fT,iF,gt_int,dT0 e]
  refine⟨ps++[.same d1 d2],bn,w',U++[.lst (nb.map MV.int),.lst th],b,some (.loc Z.length),some (.loc Z1.length),t,m,⟨?_,?_,?_,?_,?_,?_,?_⟩,by simp,λps2=>grow _ _ _ _ (hb ps2),grow _,?_⟩
  .intro p hp;rcases List.mem_append.mp hp with hp|hp
   .exact H.pk p hp
   .rw[mS.mp hp];refine⟨λu hu=>?_,by simp[Pt.tms]⟩;simp only[Pt.tms,mC,nM,or_false]at hu;rcases hu with rfl|rfl
    .exact hT1.tm
    .exact hT2.tm
  .exact AA ps B _ H.sc ⟨hT1,hT2,trivial⟩
  .intro x hx;rw[vZ];exact H.bb x hx
  .rw[tK];exact H.q4
  .rw[tK];have:=H.qw;show((nq ps+0:Nat):Int)<=w';omega
  .intro x t tms hm;rcases List.mem_append.mp hm with hm|hm
   .exact H.fw x t tms hm
   .cases mS.mp hm
  .rw[lA,lS];omega
  .unfold aL;unfold iJ;rw[htest,cT,iP rfl];rw[zC (F:=CJ _ 10) (ρ':=PX lc ts ln lv lg S.length b w' (some (.int c)) (some (.loc Z.length)) (some (.loc Z1.length)) t m) (S':=Z2) (by simp? [cV (up1 hv),show vs.length<1000000 by omega,c1,cV hb1,lM,show bn.length<1000000 by omega,c2,hrep,had];rw[hZ2])];have Aq: ∀(a b c:MV)(Y:Sto),nA [.val a,.val b,.val c] Y=.ok (.val (.tup [a,b,c])) Y:=λa b c Y=>rV (by simp);simp? [kR p2,hi0,hi1,bY t2,mod_lit (b:=(th.length:Int)) (by omega),q1,q2,Aq,hap]
 .have h0: ¬c % 3=0:=λz=>hsame (.inl z);have h4: ¬4<w':=λz=>hsame (.inr z);have hw1:w'=w+1:=by rw[hw',iP (dT0 (show 0<c % 3 by omega))]
  obtain⟨i4,hi4⟩:=nbk 4 (by decide);have hi4:yX (.val (.loc Z.length)) (.val (.int 4)) Z1=.ok (.val (.int i4)) Z1:=hi4 hn1;obtain⟨p,hp,hwd,hix⟩:=VA hT i4;obtain⟨tt,htt⟩: ∃tt,tt=i4 % (ts.length:Int):=⟨_,rfl⟩
  rw[<-htt]at hwd hix;have hpp:=hT.2.2 p hp;have hlt: ∀S,fX [.val (.tup (ts.map tbl))] S=.ok (.val (.int (ts.length:Int))) S:=λS=>by rw[UG,lM]
  have htl:0<ts.length:=hT.1;have hcutw:cN (nb.map MV.int) none (some (SC ts tt:Int))=(nb.take (SC ts tt)).map MV.int:=by rw[qB _ _ (by omega),map_take,Int.toNat_natCast]
  have i0: ∀S,yX (.val (tbl p)) (.val (.int 0)) S=.ok (.val (.int (SC ts tt:Int))) S:=λS=>by rw[hwd];rfl
  obtain⟨tms,k1,k2,k3⟩:=vK (S:=Z1) (gf:=xD 0) (cf:=pH) (ef:=aG) (ρb:=[none,some (.loc ln),some (.loc lv)]) (gs:=[]) (P:=TmIn xs) (bF _) (ds:=(nb.take (SC ts tt)).map MV.int) λd hd=>by obtain⟨n,_,rfl⟩:=mM.mp hd;obtain⟨d,g1,g2⟩:=Ij (up1 hx) hx1 (up1 hv) hv1 hvs n;refine⟨[some (.int n),some (.loc ln),some (.loc lv)],d,rfl,rfl,?_,g1⟩;unfold aG;simp? [g2]
  rw[lM,lT,hn6]at k2;have k2:tms.length=SC ts tt:=by omega
  obtain⟨x,hx⟩: ∃x:Bool, ∀Y,yX (.new [.str XF,.str XE]) (.val (.int (c % 3 - 1))) Y=.ok (.val (.str (RY (.quan x tt tms)))) Y:=by
   by_cases e:c % 3=1
   .exact⟨true,λY=>by rw[e];rfl⟩
   .exact⟨false,λY=>by rw[show c % 3=2 by omega];rfl⟩
  have hlst2: ∀Y,gX [.val (.str XF),.val (.str XE)] Y=.ok (.new [.str XF,.str XE]) Y:=λY=>Sh _ _ Y;have hap:=hX (d:=JF (.quan x tt tms)) hp1 (by rw[lM];omega);obtain⟨Z2,hZ2⟩: ∃Z2,Z2=PS S (ps++[.quan x tt tms]) (U++[.lst (nb.map MV.int)]):=⟨_,rfl⟩
  have hset:Z1.set S.length (.lst (ps.map JF++[JF (.quan x tt tms)]))=Z2:=by rw[hZ1',MB,hZ2,PS,List.map_append];rfl
  rw[hset]at hap;have hb2:Z2[b]? =some (.lst (bn.map MV.str)):=by rw[hZ2];exact grow _ _ _ _ (hb _)
  obtain⟨out,j1,j2,j3⟩:=PF (S:=Z2) (gf:=xD 0) (cf:=bB) (ef:=aH) (ρb:=[none,some (.loc b)]) (gs:=[]) (P:=λy=> ∃x∈tms.filterMap vn,y=.str x) (bF _) (ds:=tms) λd hd=>by
   rcases (k3 d hd).ok with⟨x,rfl⟩|⟨v,hv',rfl⟩
   .have hin:=vT (d:=.str x) true hb2 (fN x) UK;refine⟨[some (.tup [.str pT,.str x]),some (.loc b)],!decide (MV.str x∈bn.map MV.str),rfl,?_,λ_=>⟨.str x,?_,x,mem_filterMap.mpr ⟨_,hd,LQ x⟩,rfl⟩⟩
    .unfold bB;simp? [pI,lW,vU,hin]
    .unfold aH;simp? [lW]
   .refine⟨[some (.tup [.str IS,v]),some (.loc b)],false,rfl,?_,λz=>by cases z⟩;unfold bB;simp? [pI,ON,fT,iF]
  obtain⟨ys,rfl⟩:=FU λy hy=>let ⟨x,_,e⟩:=j3 y hy;⟨x,e⟩;rw[lM]at j2;have had:wH (.val (.loc b)) (.new (ys.map MV.str)) Z2=.ok (.new ((bn++ys).map MV.str)) Z2:=by rw[List.map_append];exact EH (KL hb2) rfl (fits (by rw[lM,lM];omega))
  have htest: ∀Y,sJ (bJ (dJ fU (dJ xW (vJ 8) (kJ (.int 3))) (kJ (.int 0))) gC) (bJ (dJ Nc (vJ 7) (kJ (.int 4))) gC) (PX lc ts ln lv lg S.length b w' (some (.int c)) (some (.loc Z.length)) h t m) Y=.ok false Y:=λY=>by simp? [mod_lit (show(0:Int)<3 by decide),h0,decide_false,fT,iF,gt_int,dF0 h4]
  have hZ2l:Z2.length=(PS S ps U).length+1:=by rw[hZ2];simp;omega
  refine⟨ps++[.quan x tt tms],bn++ys,w',U++[.lst (nb.map MV.int),.lst ((bn++ys).map MV.str)],Z2.length,some (.loc Z.length),h,some (.int tt),some (.tup tms),⟨?_,?_,?_,?_,?_,?_,?_⟩,by simp,λps2=>?_,grow _,?_⟩
  .intro q hq;rcases List.mem_append.mp hq with hq|hq
   .exact H.pk q hq
   .rw[mS.mp hq];exact⟨λu hu=>(k3 u hu).ok,by show tms.length<=100;omega⟩
  .exact AA ps B _ H.sc trivial
  .intro y hy;rw[vZ];show y∈Kq B ps++tms.filterMap vn;rcases List.mem_append.mp hy with hy|hy
   .exact List.mem_append.mpr (.inl (H.bb y hy))
   .obtain⟨z,hz,e⟩:=j3 (.str y) (mem_map_of_mem hy);cases e;exact List.mem_append.mpr (.inr hz)
  .rw[tK];have:=H.qw;show nq ps+1<=4;omega
  .rw[tK];have:=H.qw;show((nq ps+1:Nat):Int)<=w';omega
  .intro x' t' tms' hm;rcases List.mem_append.mp hm with hm|hm
   .exact H.fw x' t' tms' hm
   .cases mS.mp hm;exact k2
  .rw[lA,lA,lS];omega
  .rw[hZ2l];have e:PS S ps2 (U++[.lst (nb.map MV.int),.lst ((bn++ys).map MV.str)])=(PS S ps2 U++[.lst (nb.map MV.int)])++[.lst ((bn++ys).map MV.str)]:=by simp
   rw[e];have:=zK (PS S ps2 U++[.lst (nb.map MV.int)]) (.lst ((bn++ys).map MV.str));rw[show(PS S ps2 U++[MO.lst (nb.map MV.int)]).length=(PS S ps U).length+1 by simp;omega]at this;exact this
  .unfold aL;unfold iJ;rw[htest,cT,iN xF0];rw[zC (F:=CJ _ 11) (ρ':=PX lc ts ln lv lg S.length b w' (some (.int c)) (some (.loc Z.length)) h (some (.int tt)) m) (S':=Z1) (by simp? [hi4,hlt,mod_lit (b:=(ts.length:Int)) (by omega)];rw[htt])];rw[zC (F:=CJ _ 12) (ρ':=PX lc ts ln lv lg S.length b w' (some (.int c)) (some (.loc Z.length)) h (some (.int tt)) (some (.tup tms))) (S':=Z1) (by simp? [hix,i0,vW hn1,hcutw,RU,lM,lT,show min (SC ts tt) nb.length<1000000 by omega];rw[show CS 1 [2,3] (PX lc ts ln lv lg S.length b w' (some (.int c)) (some (.loc Z.length)) h (some (.int tt)) m)=[none,some (.loc ln),some (.loc lv)]from rfl,k1];simp? [JE])];have Aq: ∀(Y:Sto),nA [.val (.str (RY (.quan x tt tms))),.val (.int tt),.val (.tup tms)] Y=.ok (.val (JF (.quan x tt tms))) Y:=λY=>rV (by simp);rw[zC (F:=BJ _) (ρ':=PX lc ts ln lv lg S.length b w' (some (.int c)) (some (.loc Z.length)) h (some (.int tt)) (some (.tup tms))) (S':=Z2) (by simp? [kR hp1,hlst2,mod_lit (show(0:Int)<3 by decide),hx,Aq,hap])];simp? [RR,show tms.length<1000000 by omega];rw[show CS 1 [6] (PX lc ts ln lv lg S.length b w' (some (.int c)) (some (.loc Z.length)) h (some (.int tt)) (some (.tup tms)))=[none,some (.loc b)]from rfl,j1];simp? [had];rw[hZ2];simp
end
theorem Dp{S:Sto}{lc ln lv lg:Nat}{ts:Tk}{vs:Xb}{xs B:Ch}(hT:PC ts)(hx:S[ln]? =some (.lst (xs.map MV.str)))(hx1:xs≠[])(hv:S[lv]? =some (.lst vs))(hv1:vs≠[])(hvz:vs.length<=100)(hvs: ∀v∈vs,VS v){all:Xb}(hc:S[lc]? =some (.lst all)): ∀(cs:Uj)(ps:List Pt)(bn:Ch)(w:Int)(U:Sto)(b:Nat)(a n h t m:Xc),IP ts B bn ps w->ps.length+cs.length<20->(∀ps':List Pt,(PS S ps' U)[b]? =some (.lst (bn.map MV.str)))->
  ∃(ps':List Pt)(bn':Ch)(w':Int)(U':Sto)(b':Nat)(a' n' h' t' m':Xc),IP ts B bn' ps' w'/\ps'.length=ps.length+cs.length/\xY (xD 8) dR [(lc,all)] (cs.map MV.int) (PX lc ts ln lv lg S.length b w a n h t m) (PS S ps U)=.ok (.next (PX lc ts ln lv lg S.length b' w' a' n' h' t' m')) (PS S ps' U')
 |[],ps,bn,w,U,b,a,n,h,t,m,H,_,_=>⟨ps,bn,w,U,b,a,n,h,t,m,H,rfl,rfl⟩
 |c::cs,ps,bn,w,U,b,a,n,h,t,m,H,hl,hb=>by rw[lC]at hl;obtain⟨ps1,bn1,w1,U1,b1,n1,h1,t1,m1,H1,l1,hb1,_,e1⟩:=Jm (lc:=lc) (lg:=lg) hT hx hx1 hv hv1 hvz hvs H (by omega) hb c n h t m;obtain⟨ps',bn',w',U',b',a',n',h',t',m',H',l',e'⟩:=Dp hT hx hx1 hv hv1 hvz hvs hc cs ps1 bn1 w1 U1 b1 (some (.int c)) n1 h1 t1 m1 H1 (by omega) hb1;refine⟨ps',bn',w',U',b',a',n',h',t',m',H',by rw[lC];omega,?_⟩;rw[List.map_cons,yI (show xD 8 (.int c) (PX lc ts ln lv lg S.length b w a n h t m) (PS S ps U)=.ok (PX lc ts ln lv lg S.length b w (some (.int c)) n h t m) (PS S ps U)from rfl) e1 (bO (by rw[getElem?_append_left (gS.mp hc).1];exact hc))];exact e'
theorem Tv{p:Pt}(h:rE p):pd (JF p)=true:=by
 cases p with
 |same a b=>
  have h1:=(CC (h.1 a (by simp[Pt.tms]))).1;have h2:=(CC (h.1 b (by simp[Pt.tms]))).1;unfold JF;rw[oQ,xR,fN,xR,h1,xR,h2,qN];rfl
 |quan x t tms=>
  have h1:UH tms=true:=LO λd hd=>(CC (h.1 d hd)).1;unfold JF;rw[oQ,xR,fN,xR,LN,xR,oQ,h1,qN];rfl
def keys_str{E:Ev}(hE:cM E): ∃B:List (List Nat),E.map (·.1)=B.map MV.str:=FU λy hy=>by obtain⟨p,hp,rfl⟩:=mM.mp hy;exact(hE p hp).1
theorem XM{S:Sto}{lc ln lv lg:Nat}{ts:Tk}{vs:Xb}{xs B:Ch}{E:Ev}{cs:Uj}(hT:PC ts)(hx:S[ln]? =some (.lst (xs.map MV.str)))(hx1:xs≠[])(hv:S[lv]? =some (.lst vs))(hv1:vs≠[])(hvz:vs.length<=100)(hvs: ∀v∈vs,VS v)(hc:S[lc]? =some (.lst (cs.map MV.int)))(hcl:cs.length<=7)(hg:S[lg]? =some (.dic E))(hE:cM E)(hEz:E.length<=50)(hB:E.map (·.1)=B.map MV.str):
  ∃(ps:List Pt)(bn:Ch)(w:Int),IP ts B bn ps w/\ps.length=cs.length/\zR 5 iC [.val (.loc lc),.val (.tup (ts.map tbl)),.val (.loc ln),.val (.loc lv),.val (.loc lg)] S=.ok (.new (ps.map JF)) S:=by
 have hBl:B.length=E.length:=by have:=congrArg List.length hB;rw[lM,lM]at this;exact this.symm
 have e1:lP [some (.loc lc),some (.tup (ts.map tbl)),some (.loc ln),some (.loc lv),some (.loc lg),none,none,none,none,none,none,none,none] S=.ok (.next [some (.loc lc),some (.tup (ts.map tbl)),some (.loc ln),some (.loc lv),some (.loc lg),some (.loc S.length),none,none,none,none,none,none,none]) (PS S [] []):=by unfold lP;simp? [];rfl
 have up: ∀{l:Nat}{o:MO}(ps:List Pt)(U:Sto),S[l]? =some o->(PS S ps U)[l]? =some o:=λps U h=>by rw[getElem?_append_left (gS.mp h).1];exact h
 have hlx:rX [.val (.loc lg)] (PS S [] [])=.ok (.new (B.map MV.str)) (PS S [] []):=by unfold rX;dsimp only;rw[pP (up [] [] hg) hE];dsimp only;rw[hB]
 have e2:lQ [some (.loc lc),some (.tup (ts.map tbl)),some (.loc ln),some (.loc lv),some (.loc lg),some (.loc S.length),none,none,none,none,none,none,none] (PS S [] [])=.ok (.next [some (.loc lc),some (.tup (ts.map tbl)),some (.loc ln),some (.loc lv),some (.loc lg),some (.loc S.length),some (.loc (S.length+1)),none,none,none,none,none,none]) (PS S [] [.lst (B.map MV.str)]):=by unfold lQ;simp? [hlx];rw[show(PS S [] []).length=S.length+1 by simp,show PS S [] []++[MO.lst (B.map MV.str)]=PS S [] [.lst (B.map MV.str)] by simp]
 have e3:lR [some (.loc lc),some (.tup (ts.map tbl)),some (.loc ln),some (.loc lv),some (.loc lg),some (.loc S.length),some (.loc (S.length+1)),none,none,none,none,none,none] (PS S [] [.lst (B.map MV.str)])=.ok (.next (PX lc ts ln lv lg S.length (S.length+1) 0 none none none none none)) (PS S [] [.lst (B.map MV.str)]):=by unfold lR;simp? []
 obtain⟨ps,bn,w,U,b,a,n,h,t,m,H,l,e⟩:=Dp (lg:=lg) (B:=B) hT hx hx1 hv hv1 hvz hvs hc cs [] B 0 [.lst (B.map MV.str)] (S.length+1) none none none none none ⟨λp hp=>by simp at hp,trivial,λx hx=>hx,by simp[nq],by simp[nq],λx t tms hm=>by simp at hm,by omega⟩ (by simp only[List.length_nil];omega) (λps'=>by simp);have e4:lU (PX lc ts ln lv lg S.length (S.length+1) 0 none none none none none) (PS S [] [.lst (B.map MV.str)])=.ok (.next (PX lc ts ln lv lg S.length b w a n h t m)) (PS S ps U):=by unfold lU;simp? [cV (up [] [.lst (B.map MV.str)] hc)];exact e
 refine⟨ps,bn,w,H,by rw[l,List.length_nil,Nat.zero_add],?_⟩;refine eB (T:=.lst (ps.map JF)::U) (l:=S.length) rfl ?_ (Nat.le_refl _) (BE _ _ _) (gK λx hx=>by obtain⟨p,hp,rfl⟩:=mM.mp hx;exact CA (Tv (H.pk p hp)));show yU (qM [some (.loc lc),some (.tup (ts.map tbl)),some (.loc ln),some (.loc lv),some (.loc lg),none,none,none,none,none,none,none,none] S)=_;unfold qM;rw[zC e1,zC e2,zC e3,zC e4];rfl
def XN:List Pt->Nat
 |[]=>0
 |.same _ _::ps=>XN ps+1
 |.quan _ _ _::ps=>XN ps
theorem Dq: ∀ps:List Pt,nq ps+XN ps=ps.length
 |[]=>rfl
 |.same _ _::ps=>by have:=Dq ps;show nq ps+(XN ps+1)=ps.length+1;omega
 |.quan _ _ _::ps=>by have:=Dq ps;show nq ps+1+XN ps=ps.length+1;omega
theorem SD{n:Nat}(hn:n<=6): ∀ps:List Pt,1+GB n ps<=8 ^ nq ps * 3 ^ XN ps
 |[]=>by simp[GB,nq,XN]
 |.same _ _::ps=>by have:=SD hn ps;show 1+(1+1 * (1+GB n ps))<=8 ^ nq ps * 3 ^ (XN ps+1);rw[Nat.pow_succ, <-Nat.mul_assoc];generalize 8 ^ nq ps * 3 ^ XN ps=k at *;omega
 |.quan _ _ _::ps=>by have:=SD hn ps;show 1+(1+n * (1+GB n ps))<=8 ^ (nq ps+1) * 3 ^ XN ps;rw[Nat.pow_succ,Nat.mul_right_comm];have h2:n * (1+GB n ps)<=6 * (1+GB n ps):=Nat.mul_le_mul_right _ hn;generalize 8 ^ nq ps * 3 ^ XN ps=k at *;omega
def XO{n:Nat}(hn:n<=6){ps:List Pt}(hq:nq ps<=4)(hl:ps.length<=7):GB n ps<1000000:=by
 have h1:=SD hn ps;have h2:=Dq ps;have h3:3 ^ XN ps<=3 ^ (7 - nq ps):=Nat.pow_le_pow_right (by decide) (by omega);have h4:8 ^ nq ps * 3 ^ XN ps<=8 ^ nq ps * 3 ^ (7 - nq ps):=Nat.mul_le_mul_left _ h3;have h5: ∀q,q<=4->8 ^ q * 3 ^ (7 - q)<=1000000:=by decide
 have:=h5 _ hq;omega
def Pt.qn:Pt->Bool
 |.same _ _=>false
 |.quan _ _ _=>true
def Jn(rows:List Rw)(E:Ev)(p:Pt):JD rows.reverse E p=if p.qn=true then(JD rows E p).reverse else JD rows E p:=by
 cases p with
 |same a b=>rfl
 |quan x t tms=>
  rw[iP (show(Pt.quan x t tms).qn=true from rfl),lX,lX,List.filter_reverse,List.filterMap_reverse]
theorem PH(rows:List Rw): ∀ps:List Pt,hold rows.reverse ps=hold rows ps
 |[]=>rfl
 |p::ps=>by
  funext E;rw[pQ,pQ];unfold res;rw[PH rows ps,Jn];split
  .split
   .rw[List.any_reverse]
   .rfl
  .split
   .rw[List.all_reverse]
   .rfl
def Pq: ∀n,n<=6->sliceRange (sliceBounds none none (some (-1)) n).1 (sliceBounds none none (some (-1)) n).2.1 (sliceBounds none none (some (-1)) n).2.2=(List.range n).reverse:=by decide
def Dr{α:Type}(ds:List α)(h:ds.length<=6):oX ds none none (some (-1))=ds.reverse:=by
 unfold oX;rw[Pq _ h]
 match ds,h with
 |[],_=>rfl
 |[_],_=>rfl
 |[_,_],_=>rfl
 |[_,_,_],_=>rfl
 |[_,_,_,_],_=>rfl
 |[_,_,_,_,_],_=>rfl
 |[_,_,_,_,_,_],_=>rfl
 |_::_::_::_::_::_::_::_,h=>simp at h
def Pr(p:Pt)(q:MV)(S:Sto):wH (.val (JF p)) (.val (.tup [q])) S=.ok (.val (pM p q)) S:=by
 cases p with
 |same a b=>exact TQ (fits (by simp))
 |quan x t tms=>exact TQ (fits (by simp))
abbrev LM(sc:Xb)(x1 x2 x3 x4 x5 x6 x7 x8 x9 x10 x11 x12 x13 x14 x15:Xc):Rho:=[some (.scr sc),x1,x2,x3,x4,x5,x6,x7,x8,x9,x10,x11,x12,x13,x14,x15]
def ne_bl(x y:Bool)(S:Sto):GM (.val (.bl x)) (.val (.bl y)) S=.ok (.val (.bl (!(x==y)))) S:=KG (RB _ x y)
theorem isi_bb(b:Bool)(S:Sto):GT [.val (.bl b),.val (.typ "bool")] S=.ok (.val (.bl true)) S:=rfl
theorem Ds{S:Sto}{sc:Xb}{ts:Tk}{xs:Ch}{vs:Xb}(hx:S[1]? =some (.lst (xs.map MV.str)))(hxl:xs.length=5)(hv:S[2]? =some (.lst vs))(hv1:vs≠[])(hvs: ∀v∈vs,VS v)(hS:S.length=3)(hcell: ∀Z, ∃c,zR 2 zO [.val (.scr sc),.val (.int 3)] Z=.ok (.val (.int c)) Z):
  ∀(ks:Db),(∀k∈ks,k<3)-> ∀(E:Ev)(n:Nat)(x6:Xc),Gv E n->n+ks.length<=50-> ∃E' n' x6',Gv E' n'/\n'<=n+ks.length/\xY (xD 6) DA [] (ks.map yG) (LM sc (some (.loc 0)) (some (.loc 1)) (some (.loc 2)) (some (.tup (ts.map tbl))) (some (.loc 3)) x6 none none none none none none none none none) (S++[.dic E])=
   .ok (.next (LM sc (some (.loc 0)) (some (.loc 1)) (some (.loc 2)) (some (.tup (ts.map tbl))) (some (.loc 3)) x6' none none none none none none none none none)) (S++[.dic E'])
 |[],_,E,n,x6,H,_=>⟨E,n,x6,H,by simp,rfl⟩
 |k::ks,hk,E,n,x6,H,hl=>by
  rw[lC]at hl;have hk3:=hk k mF0;obtain⟨Z,hZ⟩: ∃Z,Z=S++[MO.dic E]:=⟨_,rfl⟩
  have up: ∀{l:Nat}{o:MO},S[l]? =some o->Z[l]? =some o:=λh=>by rw[hZ,getElem?_append_left (gS.mp h).1];exact h
  have hZ3:Z[3]? =some (.dic E):=by rw[hZ, <-hS];exact zK _ _
  obtain⟨c,hc⟩:=hcell Z;have hvl:0<vs.length:=List.length_pos_iff.mpr hv1;obtain⟨x,hxk⟩: ∃x,xs[k]? =some x:=⟨_,gE (by omega)⟩
  have hxi:yX (.val (.loc 1)) (.val (yG k)) Z=.ok (.val (.str x)) Z:=cU (up hx) (pL (by rw[getElem?_map,hxk];rfl));have hdv:gI (.val (.int c)) (.val (.int (3+(k:Int)))) Z=.ok (.val (.int (c / (3+(k:Int))))) Z:=yH (by omega) (by omega) c Z;obtain⟨v,hm,hi⟩:=tG (up hv) hv1 (c / (3+(k:Int)));have hEz:=H.le;have hs:=LZ hZ3 H.ok (show E.length<1000000 by omega) x v (LM sc (some (.loc 0)) (some (.loc 1)) (some (.loc 2)) (some (.tup (ts.map tbl))) (some (.loc 3)) (some (yG k)) none none none none none none none none none);have hset:Z.set 3 (.dic (putK E (.str x) v))=S++[.dic (putK E (.str x) v)]:=by rw[hZ, <-hS];exact wX _ _ _
  rw[hset]at hs;have hb:DA (LM sc (some (.loc 0)) (some (.loc 1)) (some (.loc 2)) (some (.tup (ts.map tbl))) (some (.loc 3)) (some (yG k)) none none none none none none none none none) Z=.ok (.next (LM sc (some (.loc 0)) (some (.loc 1)) (some (.loc 2)) (some (.tup (ts.map tbl))) (some (.loc 3)) (some (yG k)) none none none none none none none none none)) (S++[.dic (putK E (.str x) v)]):=by unfold DA IY;simp? [hc,hdv,bY (up hv),mod_lit (b:=(vs.length:Int)) (by omega),hi,mV,hxi,hs]
  obtain⟨E',n',a,g1,g2,g3⟩:=Ds (ts:=ts) hx hxl hv hv1 hvs hS hcell ks (λj hj=>hk j (mO _ hj)) _ (n+1) (some (yG k)) (Jj H (hvs v hm)) (by omega);refine⟨E',n',a,g1,by rw[lC];omega,?_⟩;have hg:xD 6 (yG k) (LM sc (some (.loc 0)) (some (.loc 1)) (some (.loc 2)) (some (.tup (ts.map tbl))) (some (.loc 3)) x6 none none none none none none none none none) Z=.ok (LM sc (some (.loc 0)) (some (.loc 1)) (some (.loc 2)) (some (.tup (ts.map tbl))) (some (.loc 3)) (some (yG k)) none none none none none none none none none) Z:=rfl;rw[List.map_cons, <-hZ,yI hg hb (bF _)];exact g3
theorem Dt{sc:Xb}{x1 x2 x3 x4 x5 x6 x7 x8:Xc}{S:Sto}: ∀(rs f:List Pt)(x10:Xc), ∃x10',xY (xD 10) DB [] (rs.map JF) (LM sc x1 x2 x3 x4 x5 x6 x7 x8 (some (fM f)) x10 none none none none none) S=.ok (.next (LM sc x1 x2 x3 x4 x5 x6 x7 x8 (some (fM (rs.reverse++f))) x10' none none none none none)) S
 |[],f,x10=>⟨x10,rfl⟩
 |p::rs,f,x10=>by
  obtain⟨x,hx⟩:=Dt (sc:=sc) (x1:=x1) (x2:=x2) (x3:=x3) (x4:=x4) (x5:=x5) (x6:=x6) (x7:=x7) (x8:=x8) (S:=S) rs (p::f) (some (JF p));refine⟨x,?_⟩;have t1: ∀d Z,nA [.val d] Z=.ok (.val (.tup [d])) Z:=λd Z=>rV (by simp);have hb:DB (LM sc x1 x2 x3 x4 x5 x6 x7 x8 (some (fM f)) (some (JF p)) none none none none none) S=.ok (.next (LM sc x1 x2 x3 x4 x5 x6 x7 x8 (some (fM (p::f))) (some (JF p)) none none none none none)) S:=by unfold DB JA;simp? [t1,Pr];rfl
  rw[List.map_cons,yI (show xD 10 (JF p) (LM sc x1 x2 x3 x4 x5 x6 x7 x8 (some (fM f)) x10 none none none none none) S=.ok (LM sc x1 x2 x3 x4 x5 x6 x7 x8 (some (fM f)) (some (JF p)) none none none none none) S from rfl) hb (bF _),hx,reverse_cons,aA];rfl
theorem Du{sc:Xb}{x1 x2 x3 x4 x6 x7 x8 x10 x12:Xc}{ps:List Pt}{due:Bool}{E:Ev}{S:Sto}{lg ll:Nat}(hg:S[lg]? =some (.dic E))(hl:S[ll]? =some (.dic E))(hE:cM E): ∀(ls:Db),(∀l∈ls,zR 3 vS [.val (fM ps),.val (.loc l),.val (.loc ll)] S=.ok (.val (.bl due)) S)-> ∀(a b:Xc), ∃a' b',
  xY (xD 14) DC [] (ls.map MV.loc) (LM sc x1 x2 x3 x4 (some (.loc lg)) x6 x7 x8 (some (fM ps)) x10 (some (.bl due)) x12 (some (.loc ll)) a b) S=.ok (.next (LM sc x1 x2 x3 x4 (some (.loc lg)) x6 x7 x8 (some (fM ps)) x10 (some (.bl due)) x12 (some (.loc ll)) a' b')) S
 |[],_,a,b=>⟨a,b,rfl⟩
 |l::ls,h,a,b=>by
  obtain⟨a',b',hr⟩:=Du (sc:=sc) (x1:=x1) (x2:=x2) (x3:=x3) (x4:=x4) (x6:=x6) (x7:=x7) (x8:=x8) (x10:=x10) (x12:=x12) (due:=due) hg hl hE ls (λm hm=>h m (mO _ hm)) (some (.loc l)) (some (.bl due));refine⟨a',b',?_⟩;have hb:DC (LM sc x1 x2 x3 x4 (some (.loc lg)) x6 x7 x8 (some (fM ps)) x10 (some (.bl due)) x12 (some (.loc ll)) (some (.loc l)) b) S=.ok (.next (LM sc x1 x2 x3 x4 (some (.loc lg)) x6 x7 x8 (some (fM ps)) x10 (some (.bl due)) x12 (some (.loc ll)) (some (.loc l)) (some (.bl due)))) S:=by unfold DC;rw[zC (F:=BB) (ρ':=LM sc x1 x2 x3 x4 (some (.loc lg)) x6 x7 x8 (some (fM ps)) x10 (some (.bl due)) x12 (some (.loc ll)) (some (.loc l)) (some (.bl due))) (S':=S) (by unfold BB;simp? [h l mF0])];unfold JB;simp? [isi_bb,Bool.not_true,fT,iF,ne_bl,beq_self_eq_true,Pl false hl hg hE]
  rw[List.map_cons,yI (show xD 14 (.loc l) (LM sc x1 x2 x3 x4 (some (.loc lg)) x6 x7 x8 (some (fM ps)) x10 (some (.bl due)) x12 (some (.loc ll)) a b) S=.ok (LM sc x1 x2 x3 x4 (some (.loc lg)) x6 x7 x8 (some (fM ps)) x10 (some (.bl due)) x12 (some (.loc ll)) (some (.loc l)) b) S from rfl) hb (bF _)];exact hr
theorem Dv(ns:Uj)(h:ns.length<=63): ∃S,OI [.scr (ns.map MV.int)] []=.ok (.val (.bl true)) S:=by
 obtain⟨sc,hsc⟩: ∃sc,sc=ns.map MV.int:=⟨_,rfl⟩
 have cell: ∀(k:Int),0<=k-> ∀S, ∃c,zR 2 zO [.val (.scr sc),.val (.int k)] S=.ok (.val (.int c)) S:=λk hk S=>by rw[hsc];exact Ik ns k hk S
 rw[<-hsc];obtain⟨c0,hc0⟩:=cell 0 (by decide) [];obtain⟨ws,hw5,hW,hws⟩:=Bq c0 [];obtain⟨S1,hS1⟩: ∃S1:Sto,S1=[.lst (ws.map MV.str)]:=⟨_,rfl⟩
 have f1:LA (LM sc none none none none none none none none none none none none none none none) []=.ok (.next (LM sc (some (.loc 0)) none none none none none none none none none none none none none none)) S1:=by unfold LA;simp? [hc0,hws];rw[hS1];rfl
 have hw0:S1[0]? =some (.lst (ws.map MV.str)):=by rw[hS1];rfl
 obtain⟨a,ha⟩: ∃a,ws[0]? =some a:=⟨_,gE (by omega)⟩
 obtain⟨b,hb⟩: ∃a,ws[1]? =some a:=⟨_,gE (by omega)⟩
 obtain⟨c,hc⟩: ∃a,ws[2]? =some a:=⟨_,gE (by omega)⟩
 have hcl:c.length<=8:=hW c (mem_of_getElem? hc);obtain⟨xs,hxs⟩: ∃xs:List (List Nat),xs=[a,b,c++[55],[48],[120,32,121]]:=⟨_,rfl⟩
 have hx5:xs.length=5:=by rw[hxs];rfl
 have ia:yX (.val (.loc 0)) (.val (.int 0)) S1=.ok (.val (.str a)) S1:=cU hw0 (pL (k:=0) (by rw[getElem?_map,ha];rfl));have ib:yX (.val (.loc 0)) (.val (.int 1)) S1=.ok (.val (.str b)) S1:=cU hw0 (pL (k:=1) (by rw[getElem?_map,hb];rfl));have ic:yX (.val (.loc 0)) (.val (.int 2)) S1=.ok (.val (.str c)) S1:=cU hw0 (pL (k:=2) (by rw[getElem?_map,hc];rfl));have had:wH (.val (.str c)) (.val (.str [55])) S1=.ok (.val (.str (c++[55]))) S1:=add_str (fits (by simp;omega));have h5l: ∀(d e f g i:MV)(Z:Sto),gX [.val d,.val e,.val f,.val g,.val i] Z=.ok (.new [d,e,f,g,i]) Z:=λd e f g i Z=>oF (by simp);obtain⟨S2,hS2⟩: ∃S2:Sto,S2=S1++[.lst (xs.map MV.str)]:=⟨_,rfl⟩
 have f2:LB (LM sc (some (.loc 0)) none none none none none none none none none none none none none none) S1=.ok (.next (LM sc (some (.loc 0)) (some (.loc 1)) none none none none none none none none none none none none none)) S2:=by unfold LB;simp? [ia,ib,ic,had,h5l];rw[hS2,hS1,hxs];rfl
 have w2:S2[0]? =some (.lst (ws.map MV.str)):=by rw[hS2,hS1];rfl
 obtain⟨c1,hc1⟩:=cell 1 (by decide) S2;have hcut:cN (ws.map MV.str) (some 3) none=(ws.drop 3).map MV.str:=by have:=tF (ws.map MV.str) 3;rw[map_drop];exact this
 obtain⟨vs,hv1,hvz,hvs,hva⟩:=XD c1 (ws:=ws.drop 3) (by rw[List.length_drop,hw5]) S2;obtain⟨S3,hS3⟩: ∃S3:Sto,S3=S2++[.lst vs]:=⟨_,rfl⟩
 have f3:LC (LM sc (some (.loc 0)) (some (.loc 1)) none none none none none none none none none none none none none) S2=.ok (.next (LM sc (some (.loc 0)) (some (.loc 1)) (some (.loc 2)) none none none none none none none none none none none none)) S3:=by unfold LC;simp? [hc1,vW w2,hcut,hva];rw[hS3,hS2,hS1];rfl
 have x3:S3[1]? =some (.lst (xs.map MV.str)):=by rw[hS3,hS2,hS1];rfl
 have v3:S3[2]? =some (.lst vs):=by rw[hS3,hS2,hS1];rfl
 have l3:S3.length=3:=by rw[hS3,hS2,hS1];rfl
 obtain⟨c2,hc2⟩:=cell 2 (by decide) S3;obtain⟨ts0,ht0,htp,htab⟩:=XC c2 S3;obtain⟨ts,hts⟩: ∃ts,ts=ts0.take 3:=⟨_,rfl⟩
 have hT:PC ts:=by rw[hts];refine⟨by rw[lT];omega,by rw[lT];omega,λp hp=>?_⟩;have:=htp p (mem_of_mem_take hp);exact⟨this.1,this.2.1⟩
 have hcut3: ∀Z,mL (.val (.tup (ts0.map tbl))) none (some 3) Z=.ok (.val (.tup (ts.map tbl))) Z:=λZ=>by show R.ok (Er.val (.tup (cN (ts0.map tbl) none (some 3)))) Z=_;rw[qB _ 3 (by decide),hts,map_take];rfl
 have f4:LD (LM sc (some (.loc 0)) (some (.loc 1)) (some (.loc 2)) none none none none none none none none none none none none) S3=.ok (.next (LM sc (some (.loc 0)) (some (.loc 1)) (some (.loc 2)) (some (.tup (ts.map tbl))) none none none none none none none none none none none)) S3:=by unfold LD;simp? [hc2,htab,hcut3]
 have f5:LE (LM sc (some (.loc 0)) (some (.loc 1)) (some (.loc 2)) (some (.tup (ts.map tbl))) none none none none none none none none none none none) S3=.ok (.next (LM sc (some (.loc 0)) (some (.loc 1)) (some (.loc 2)) (some (.tup (ts.map tbl))) (some (.loc 3)) none none none none none none none none none none)) (S3++[.dic []]):=by unfold LE;simp? [IK,l3]
 obtain⟨c3,hc3⟩:=cell 3 (by decide) (S3++[.dic []]);obtain⟨k3,hk3⟩: ∃k3:Nat,(k3:Int)=c3 % 3:=⟨(c3 % 3).toNat,by omega⟩
 have hk33:k3<=3:=by omega
 obtain⟨E,m,x6,HG,hm,hf6⟩:=Ds (sc:=sc) (ts:=ts) x3 hx5 v3 hv1 hvs l3 (λZ=>cell 3 (by decide) Z) (List.range k3) (λk hk=>by have:=mem_range.mp hk;omega) [] 0 none ⟨LT,by simp,Nat.le_refl _⟩ (by rw[length_range];omega);rw[length_range]at hm;have hm3:E.length<=3:=by have:=HG.le;omega
 have f6:LG (LM sc (some (.loc 0)) (some (.loc 1)) (some (.loc 2)) (some (.tup (ts.map tbl))) (some (.loc 3)) none none none none none none none none none none) (S3++[.dic []])=.ok (.next (LM sc (some (.loc 0)) (some (.loc 1)) (some (.loc 2)) (some (.tup (ts.map tbl))) (some (.loc 3)) x6 none none none none none none none none none)) (S3++[.dic E]):=by unfold LG;simp? [hc3,mod_lit (show(0:Int)<3 by decide), <-hk3,RT (show k3<=1000 by omega)];exact hf6
 obtain⟨S4,hS4⟩: ∃S4:Sto,S4=S3++[.dic E]:=⟨_,rfl⟩
 have l4:S4.length=4:=by rw[hS4];simp[l3]
 have up4: ∀{l:Nat}{o:MO},S3[l]? =some o->S4[l]? =some o:=λh=>by rw[hS4,getElem?_append_left (gS.mp h).1];exact h
 have g4:S4[3]? =some (.dic E):=by rw[hS4, <-l3];exact zK _ _
 have hcut8:mL (.val (.scr sc)) (some 8) none S4=.ok (.new ((ns.drop 8).map MV.int)) S4:=by show R.ok (Er.new (cN sc (some 8) none)) S4=_;rw[hsc,show cN (ns.map MV.int) (some 8) none=(ns.map MV.int).drop 8 from tF _ 8,map_drop]
 obtain⟨c2',hc2'⟩:=cell 2 (by decide) S4;obtain⟨rows0,hrw0,hrl0,hrows⟩:=Dk (S:=S4) (ex:=c2') hT (up4 v3) hv1 hvs (cs:=ns.drop 8) (by rw[List.length_drop];omega);obtain⟨rows,hrs⟩: ∃rows,rows=rows0.take 6:=⟨_,rfl⟩
 have hrw: ∀r∈rows,Dz ts r:=λr hr=>hrw0 r (by rw[hrs]at hr;exact mem_of_mem_take hr);have hrl:rows.length<=6:=by rw[hrs,lT];omega
 have hcut6:cN (rows0.map lY) none (some 6)=rows.map lY:=by rw[qB _ 6 (by decide),hrs,map_take];rfl
 obtain⟨S5,hS5⟩: ∃S5:Sto,S5=S4++[.lst (rows.map lY)]:=⟨_,rfl⟩
 have l5:S5.length=5:=by rw[hS5];simp[l4]
 have up5: ∀{l:Nat}{o:MO},S4[l]? =some o->S5[l]? =some o:=λh=>by rw[hS5,getElem?_append_left (gS.mp h).1];exact h
 have r5:S5[4]? =some (.lst (rows.map lY)):=by rw[hS5, <-l4];exact zK _ _
 have f7:LI (LM sc (some (.loc 0)) (some (.loc 1)) (some (.loc 2)) (some (.tup (ts.map tbl))) (some (.loc 3)) x6 none none none none none none none none none) S4=.ok (.next (LM sc (some (.loc 0)) (some (.loc 1)) (some (.loc 2)) (some (.tup (ts.map tbl))) (some (.loc 3)) x6 (some (.loc 4)) none none none none none none none none)) S5:=by unfold LI;simp? [hcut8,hc2',hrows,LR,hcut6];rw[hS5,l4]
 obtain⟨c0',hc0'⟩:=cell 0 (by decide) S5;obtain⟨k8,hk8⟩: ∃k8:Nat,(k8:Int)=c0' % 8:=⟨(c0' % 8).toNat,by omega⟩
 have hk87:k8<=7:=by omega
 obtain⟨cs',hco,hcsl,hcsi⟩:=vK (S:=S5) (gf:=xD 0) (cf:=IZ) (ef:=BA) (ρb:=[none,some (.scr sc)]) (gs:=[]) (P:=λy=> ∃i:Int,y=.int i) (bF _) (ds:=(List.range k8).map yG) λd hd=>by
  obtain⟨k,hk,rfl⟩:=mM.mp hd;obtain⟨ck,hck⟩:=cell (3+(k:Int)) (by omega) S5;have hmu: ∀Z,iK (.val (.int 31)) (.val (.int (k:Int))) Z=.ok (.val (.int (31 * (k:Int)))) Z:=λZ=>by have hm:mulC 31 (k:Int):=.inl ⟨by decide,by decide⟩;unfold iK;exact iP hm
  refine⟨[some (yG k),some (.scr sc)],.int (ck+31 * (k:Int)),rfl,rfl,?_,_,rfl⟩;unfold BA;simp? [hck,hmu]
 obtain⟨cs,rfl⟩:=OQ hcsi;rw[lM,lM,length_range]at hcsl;obtain⟨S6,hS6⟩: ∃S6:Sto,S6=S5++[.lst (cs.map MV.int)]:=⟨_,rfl⟩
 have l6:S6.length=6:=by rw[hS6];simp[l5]
 have up6: ∀{l:Nat}{o:MO},S5[l]? =some o->S6[l]? =some o:=λh=>by rw[hS6,getElem?_append_left (gS.mp h).1];exact h
 have c6:S6[5]? =some (.lst (cs.map MV.int)):=by rw[hS6, <-l5];exact zK _ _
 have f8:LK (LM sc (some (.loc 0)) (some (.loc 1)) (some (.loc 2)) (some (.tup (ts.map tbl))) (some (.loc 3)) x6 (some (.loc 4)) none none none none none none none none) S5=.ok (.next (LM sc (some (.loc 0)) (some (.loc 1)) (some (.loc 2)) (some (.tup (ts.map tbl))) (some (.loc 3)) x6 (some (.loc 4)) (some (.loc 5)) none none none none none none none)) S6:=by unfold LK;simp? [hc0',show xW (.val (.int c0')) (.val (.int 8)) S5=.ok (.val (.int (c0' % 8))) S5 from mod_lit (b:=8) (by decide) c0' S5, <-hk8,RT (show k8<=1000 by omega),lM,length_range,show k8<1000000 by omega];rw[show CS 1 [0] (LM sc (some (.loc 0)) (some (.loc 1)) (some (.loc 2)) (some (.tup (ts.map tbl))) (some (.loc 3)) x6 (some (.loc 4)) none none none none none none none none)=[none,some (.scr sc)]from rfl,hco];simp? [];rw[hS6,l5]
 have hy: ∀Z,nA [.val (.str Ow)] Z=.ok (.val (fM [])) Z:=λZ=>rV (by simp);have f9:LL (LM sc (some (.loc 0)) (some (.loc 1)) (some (.loc 2)) (some (.tup (ts.map tbl))) (some (.loc 3)) x6 (some (.loc 4)) (some (.loc 5)) none none none none none none none) S6=.ok (.next (LM sc (some (.loc 0)) (some (.loc 1)) (some (.loc 2)) (some (.tup (ts.map tbl))) (some (.loc 3)) x6 (some (.loc 4)) (some (.loc 5)) (some (fM [])) none none none none none none)) S6:=by unfold LL;simp? [hy]
 obtain⟨B,hB⟩:=keys_str HG.ok;have x6':=up6 (up5 (up4 x3));have v6:=up6 (up5 (up4 v3));have g6:=up6 (up5 g4);have r6:=up6 r5;have hx1:xs≠[]:=λz=>by rw[z]at hx5;cases hx5
 obtain⟨ps,bn,w,HI,hpl,hparts⟩:=XM (S:=S6) hT x6' hx1 v6 hv1 hvz hvs c6 (by omega) g6 HG.ok (by omega) hB;obtain⟨x10,hfo⟩:=Dt (sc:=sc) (x1:=some (.loc 0)) (x2:=some (.loc 1)) (x3:=some (.loc 2)) (x4:=some (.tup (ts.map tbl))) (x5:=some (.loc 3)) (x6:=x6) (x7:=some (.loc 4)) (x8:=some (.loc 5)) (S:=S6) ps.reverse [] none;rw[List.reverse_reverse,aN]at hfo;have f10:FE (LM sc (some (.loc 0)) (some (.loc 1)) (some (.loc 2)) (some (.tup (ts.map tbl))) (some (.loc 3)) x6 (some (.loc 4)) (some (.loc 5)) (some (fM [])) none none none none none none) S6=.ok (.next (LM sc (some (.loc 0)) (some (.loc 1)) (some (.loc 2)) (some (.tup (ts.map tbl))) (some (.loc 3)) x6 (some (.loc 4)) (some (.loc 5)) (some (fM ps)) x10 none none none none none)) S6:=by unfold FE;simp? [hparts,show∀ds Z,Ug [.new ds] Z=.ok ⟨ds.reverse,[]⟩ Z from λ_ _=>rfl];rw[<-List.map_reverse];exact hfo
 have hFw:Fw rows ps:=λx t tms hm r hr e=>by rw[HI.fw x t tms hm,(hrw r hr).1,e];exact Nat.le_refl _
 have hR: ∀r∈rows, ∀c∈r.2,VS c:=λr hr=>(hrw r hr).2
 have hBl: ∀x∈B,look E (.str x)≠none:=λx hx z=>by
  have:MV.str x∈E.map (·.1):=by rw[hB];exact mem_map_of_mem hx
  obtain⟨p,hp,e⟩:=mM.mp this;exact DH z p hp e
 have hdue:=Do hR ps 9 B (by omega) HI.pk HI.sc hFw S6 4 3 E r6 g6 HG.ok HG.nd (by omega) hBl;obtain⟨due,hd⟩: ∃due,due=hold rows ps E:=⟨_,rfl⟩
 rw[<-hd]at hdue;have f11:FF (LM sc (some (.loc 0)) (some (.loc 1)) (some (.loc 2)) (some (.tup (ts.map tbl))) (some (.loc 3)) x6 (some (.loc 4)) (some (.loc 5)) (some (fM ps)) x10 none none none none none) S6=.ok (.next (LM sc (some (.loc 0)) (some (.loc 1)) (some (.loc 2)) (some (.tup (ts.map tbl))) (some (.loc 3)) x6 (some (.loc 4)) (some (.loc 5)) (some (fM ps)) x10 (some (.bl due)) none none none none)) S6:=by unfold FF;simp? [hdue]
 obtain⟨S7,hS7⟩: ∃S7:Sto,S7=S6++[.lst (rows.map lY)]:=⟨_,rfl⟩
 have l7:S7.length=7:=by rw[hS7];simp[l6]
 have up7: ∀{l:Nat}{o:MO},S6[l]? =some o->S7[l]? =some o:=λh=>by rw[hS7,getElem?_append_left (gS.mp h).1];exact h
 have k7:S7[6]? =some (.lst (rows.map lY)):=by rw[hS7, <-l6];exact zK _ _
 have f12:FG (LM sc (some (.loc 0)) (some (.loc 1)) (some (.loc 2)) (some (.tup (ts.map tbl))) (some (.loc 3)) x6 (some (.loc 4)) (some (.loc 5)) (some (fM ps)) x10 (some (.bl due)) none none none none) S6=.ok (.next (LM sc (some (.loc 0)) (some (.loc 1)) (some (.loc 2)) (some (.tup (ts.map tbl))) (some (.loc 3)) x6 (some (.loc 4)) (some (.loc 5)) (some (fM ps)) x10 (some (.bl due)) (some (.loc 6)) none none none)) S7:=by unfold FG;simp? [PB r6];rw[hS7,l6]
 obtain⟨S8,hS8⟩: ∃S8:Sto,S8=S7++[.dic E]:=⟨_,rfl⟩
 have l8:S8.length=8:=by rw[hS8];simp[l7]
 have up8: ∀{l:Nat}{o:MO},S7[l]? =some o->S8[l]? =some o:=λh=>by rw[hS8,getElem?_append_left (gS.mp h).1];exact h
 have e8:S8[7]? =some (.dic E):=by rw[hS8, <-l7];exact zK _ _
 have f13:FH (LM sc (some (.loc 0)) (some (.loc 1)) (some (.loc 2)) (some (.tup (ts.map tbl))) (some (.loc 3)) x6 (some (.loc 4)) (some (.loc 5)) (some (fM ps)) x10 (some (.bl due)) (some (.loc 6)) none none none) S7=.ok (.next (LM sc (some (.loc 0)) (some (.loc 1)) (some (.loc 2)) (some (.tup (ts.map tbl))) (some (.loc 3)) x6 (some (.loc 4)) (some (.loc 5)) (some (fM ps)) x10 (some (.bl due)) (some (.loc 6)) (some (.loc 7)) none none)) S8:=by unfold FH;simp? [RZ (up7 g6) HG.ok];rw[hS8,l7]
 have r8:=up8 (up7 r6);have hst:NQ (-1) (.val (.loc 4)) none none S8=.ok (.new (rows.reverse.map lY)) S8:=by unfold NQ;rw[iL r8];dsimp only;rw[Dr _ (by rw[lM];exact hrl),iP (fits (by rw[List.length_reverse,lM];omega)),List.map_reverse]
 obtain⟨S9,hS9⟩: ∃S9:Sto,S9=S8++[.lst (rows.reverse.map lY)]:=⟨_,rfl⟩
 have up9: ∀{l:Nat}{o:MO},S8[l]? =some o->S9[l]? =some o:=λh=>by rw[hS9,getElem?_append_left (gS.mp h).1];exact h
 have v9:S9[8]? =some (.lst (rows.reverse.map lY)):=by rw[hS9, <-l8];exact zK _ _
 have hl3:gX [.val (.loc 4),.val (.loc 4),.new (rows.reverse.map lY)] S8=.ok (.new ([4,4,8].map MV.loc)) S9:=by rw[oF (by simp),hS9, <-l8];rfl
 have hROk:Py rows:=⟨hR,by omega⟩
 have hROk':Py rows.reverse:=⟨λr hr=>hR r (List.mem_reverse.mp hr),by rw[List.length_reverse];omega⟩
 have hcs:=XO hrl HI.q4 (show ps.length<=7 by omega);have h4:=OZ HI.pk (by omega) hROk hcs (up9 r8) (up9 e8) HG.ok (by omega);have h8:=OZ HI.pk (by omega) hROk' (by rw[List.length_reverse];exact hcs) v9 (up9 e8) HG.ok (by omega);rw[PH, <-hd]at h8;rw[<-hd]at h4
 obtain⟨a',b',htl⟩:=Du (sc:=sc) (x1:=some (.loc 0)) (x2:=some (.loc 1)) (x3:=some (.loc 2)) (x4:=some (.tup (ts.map tbl))) (x6:=x6) (x7:=some (.loc 4)) (x8:=some (.loc 5)) (x10:=x10) (x12:=some (.loc 6)) (ps:=ps) (due:=due) (up9 (up8 (up7 g6))) (up9 e8) HG.ok [4,4,8] (λl hl=>by
  simp only[mC,nM,or_false]at hl;rcases hl with rfl|rfl|rfl
  .exact h4
  .exact h4
  .exact h8) none none
 have f14:FI (LM sc (some (.loc 0)) (some (.loc 1)) (some (.loc 2)) (some (.tup (ts.map tbl))) (some (.loc 3)) x6 (some (.loc 4)) (some (.loc 5)) (some (fM ps)) x10 (some (.bl due)) (some (.loc 6)) (some (.loc 7)) none none) S8=.ok (.next (LM sc (some (.loc 0)) (some (.loc 1)) (some (.loc 2)) (some (.tup (ts.map tbl))) (some (.loc 3)) x6 (some (.loc 4)) (some (.loc 5)) (some (fM ps)) x10 (some (.bl due)) (some (.loc 6)) (some (.loc 7)) a' b')) S9:=by unfold FI;simp? [hst,hl3,RU];exact htl
 have f15:FK (LM sc (some (.loc 0)) (some (.loc 1)) (some (.loc 2)) (some (.tup (ts.map tbl))) (some (.loc 3)) x6 (some (.loc 4)) (some (.loc 5)) (some (fM ps)) x10 (some (.bl due)) (some (.loc 6)) (some (.loc 7)) a' b') S9=.ok (.ret (.val (.bl true))) S9:=by unfold FK;simp? [Di (up9 r8) (up9 (up8 k7)) (λd hd=>by obtain⟨r,hr',rfl⟩:=mM.mp hd;exact MA (hrw r hr'))]
 refine⟨S9,?_⟩;show yU (Bf (LM sc none none none none none none none none none none none none none none none) [])=_;unfold Bf;rw[zC f1,zC f2,zC f3,zC f4,zC f5,zC f6, <-hS4,zC f7,zC f8,zC f9,zC f10,zC f11,zC f12,zC f13,zC f14,f15];rfl
section
variable{P:Program}{w:World}{K:Vk}{mg:Vd}{base:Heap}
def top(i:Nat):Stmt:=PySem.Challenge.pw_mendsure_k71_whole_formulas.main.body.getD i (.Pass ⟨0,0,0,0⟩)
abbrev uR:Stmt:=top 1
def mY:FnScope EZ ["atoms"] (zI uR):=fsK (by decide+kernel)
def PJ(D:DefM K mg "names_in" uR)(mK:mg "list"=none):(Hk P w K mg base) "names_in" 1 1 ["atoms"] iR:=
 by have h:=IO (P:=P) (w:=w) (base:=base) D (λ_ _ _ _ _ _ us hl=>match us,hl with |[_],_=>rfl) λf fd F=>CG (k:=0) _ F mY λcdv A outer s H E hr=>(zE (zG 1 mY.nd rW) (zE (kC PassesOwn.never rfl (jV (zA 0)) (yE 2 mY.nd) (zH (kC PassesOwn.never rfl (QR (zN (zA 2) zD)) (yE 3 mY.nd) (zH (wG (jW hr.units (zN (zA 3) zD) (yQ [118,97,114])) (zH (uD SV (KS (zA 1) (zN (zA 3) zD)))) xC))))) (zH (zY (xT EU (OA rfl) rfl mK CU (zB (zA 1) zF))))))
    exact h
abbrev sQ:Stmt:=top 2
def MC:FnScope ["term","values"] ["term","values"] (zI sQ):=fsK (by decide+kernel)
def MD(D:DefM K mg "term_with" sQ):(Hk P w K mg base) "term_with" 1 2 ["term","values"] cL:=
 by have h:=IO (P:=P) (w:=w) (base:=base) D (λ_ _ _ _ _ _ us hl=>match us,hl with |[_,_],_=>rfl) λf fd F=>CG (k:=0) _ F MC λcdv A outer s H E hr=>(zE (wG (vB (uC (jW hr.units (zN (zA 0) zD) (yQ [118,97,114])) (pY (Aw (zN (zA 0) zD) (zA 1))))) (zH (zY (bI (zB (yQ [105,115]) (zB (RQ (zA 1) (zN (zA 0) zD)) zF))))) xC) (zH (zY (zA 0))))
    exact h
abbrev BH:Stmt:=top 3
def mB:FnScope IW ["terms","cells"] (zI BH):=fsK (by decide+kernel)
def SE(D:DefM K mg "fitting" BH)(GI:mg "zip"=none):(Hk P w K mg base) "fitting" 1 2 ["terms","cells"] iG:=
 by have h:=IO (P:=P) (w:=w) (base:=base) D (λ_ _ _ _ _ _ us hl=>match us,hl with |[_,_],_=>rfl) λf fd F=>CG (k:=0) _ F mB λcdv A outer s H E hr=>(zE (zG 2 mB.nd rW) (zE (kC PassesOwn.never rfl (Ai rfl GI (zB (zA 0) (zB (zA 1) zF))) (AQ (n:=2) rfl (bX (yE 3 mB.nd) (bX (yE 4 mB.nd) AO))) (zE (zG 5 mB.nd (ZF (jW hr.units (zN (zA 3) zD) (yQ [118,97,114])) (Ax (zA 2) (zB (zN (zA 3) zD) (zB (zA 4) zF))) (zN (zA 3) zD))) (zH (wG (EE hr.units (zA 5) (zA 4)) (zH (zY AN)) xC)))) (zH (zY (zA 2)))))
    exact h
abbrev uS:Stmt:=top 5
def mZ:FnScope FA ["formula"] (zI uS):=fsK (by decide+kernel)
def PK(D:DefM K mg "parts_of" uS):(Hk P w K mg base) "parts_of" 1 1 ["formula"] cF:=
 by have h:=IO (P:=P) (w:=w) (base:=base) D (λ_ _ _ _ _ _ us hl=>match us,hl with |[_],_=>rfl) λf fd F=>CG (k:=0) _ F mZ λcdv A outer s H E hr=>(zE (zG 1 mZ.nd (kU zF)) (zE (zG 2 mZ.nd (zA 0)) (zE (NN 10000 PassesOwn.never (EE hr.units (zN (zA 2) zD) (yQ [121,101,115])) (zE (jA (wF (zA 1) (zB (zA 2) zF))) (zH (zG 2 mZ.nd (zN (zA 2) QO))))) (zH (zY (zA 1))))))
    exact h
abbrev aX:Stmt:=top 6
def GC:FnScope ["parts"] ["parts"] (zI aX):=fsK (by decide+kernel)
def GD(D:DefM K mg "names_among" aX)(SJ:(Hk P w K mg base) "names_in" 1 1 ["atoms"] iR):(Hk P w K mg base) "names_among" 2 1 ["parts"] aS:=
 by have h:=IO (P:=P) (w:=w) (base:=base) D (λ_ _ _ _ _ _ us hl=>match us,hl with |[_],_=>rfl) λf fd F=>CG (k:=1) _ F GC λcdv A outer s H E hr=>(zH (zY (zP SJ (hr.mono (by decide)) rfl (zB (mQ (zI aX) ["parts"] ["part"] [] (jV (zA 0)) rfl (λ_ _ _ _ hN=>(cR 0 hN)) (λ_ _ _ _=>fW) (λ_ _ _ _=>(bI (zB (zN (zA 0) zD) (zB (ZF (jW hr.units (zN (zA 0) zD) (yQ [115,97,109,101])) (nE (zA 0) (jU zD) (jU zD)) (zN (zA 0) zD)) zF))))) zF))))
    exact h
abbrev aM:Stmt:=top 7
def gB:FnScope pB ["rows"] (zI aM):=fsK (by decide+kernel)
def AB(D:DefM K mg "cells_by_table" aM):(Hk P w K mg base) "cells_by_table" 1 1 ["rows"] xN:=
 by have h:=IO (P:=P) (w:=w) (base:=base) D (λ_ _ _ _ _ _ us hl=>match us,hl with |[_],_=>rfl) λf fd F=>CG (k:=0) _ F gB λcdv A outer s H E hr=>(zE (zG 1 gB.nd rW) (zE (kC PassesOwn.never rfl (jV (zA 0)) (AQ (n:=2) rfl (bX (yE 2 gB.nd) (bX (yE 3 gB.nd) AO))) (zH (jA (wF (Ax (zA 1) (zB (zA 2) (zB (kU zF) zF))) (zB (zA 3) zF))))) (zH (zY (zA 1)))))
    exact h
abbrev tL:Stmt:=top 8
def aO:FnScope AV ["part","cells","values"] (zI tL):=fsK (by decide+kernel)
def SF(D:DefM K mg "ways_of" tL)(sS:(Hk P w K mg base) "term_with" 1 2 ["term","values"] cL)(XR:(Hk P w K mg base) "fitting" 1 2 ["terms","cells"] iG)(qV:mg "dict"=none):(Hk P w K mg base) "ways_of" 2 3 ["part","cells","values"] nH:=
 by have h:=IO (P:=P) (w:=w) (base:=base) D (λ_ _ _ _ _ _ us hl=>match us,hl with |[_,_,_],_=>rfl) λf fd F=>CG (k:=1) _ F aO λcdv A outer s H E hr=>(zE (wG (jW hr.units (zN (zA 0) zD) (yQ [115,97,109,101])) (zH (zY (ZF (jW hr.units (zP sS (hr.mono (by decide)) rfl (zB (zN (zA 0) zD) (zB (zA 2) zF))) (zP sS (hr.mono (by decide)) rfl (zB (zN (zA 0) zD) (zB (zA 2) zF)))) (kU (zB (zA 2) zF)) (kU zF)))) xC) (zE (JV 3 aO.nd (zI tL) AV ["term"] [2] (QR (zN (zA 0) zD)) rfl (λ_ _ _ _ hN=>(cR 0 hN)) (λ_ _ _ _=>fW) (λ_ _ _ _=>(zP sS (hr.mono (by decide)) rfl (zB (zA 0) (zB (zA 1) zF))))) (zE (zG 4 aO.nd (kU zF)) (zE (kC PassesOwn.never rfl (jV (UD (zA 1) (zB (zN (zA 0) zD) (zB (kU zF) zF)))) (yE 5 aO.nd) (zE (zG 6 aO.nd (zP XR (hr.mono (by decide)) rfl (zB (zA 3) (zB (zA 5) zF)))) (zH (wG (NP (zA 6) AN) (zE (zG 7 aO.nd (xT EW RN rfl qV KU (zB (zA 2) zF))) (zE (jA (Hq (zA 7) (zB (zA 6) zF))) (zH (jA (wF (zA 4) (zB (zA 7) zF)))))) xC)))) (zH (zY (zA 4)))))))
    exact h
abbrev cK:Stmt:=inClass (top 9) 0
def tO:FnScope xM xM (zI cK):=fsK (by decide+kernel)
def tP{f:Addr}{fd:FuncData}(F:Fun K "__init__" "Reading.__init__" cK f fd)(SI:(Hk P w K mg base) "parts_of" 1 1 ["formula"] cF)(rf_Reading_steps: ∃C,OC K "Reading" C/\NoAttr K C "steps")(xF:mg "range"=none)(kY:mg "len"=none)(HK:(Hk P w K mg base) "names_among" 2 1 ["parts"] aS)(rf_Reading_asked: ∃C,OC K "Reading" C/\NoAttr K C "asked")(BK:(Hk P w K mg base) "cells_by_table" 1 1 ["rows"] xN)(rf_Reading_cells: ∃C,OC K "Reading" C/\NoAttr K C "cells")(rf_Reading_found: ∃C,OC K "Reading" C/\NoAttr K C "found"):FnOk P w K mg base CO 3 f fd xM (JW ⟨K,mg,P,w⟩ 3 yW):=
 by have h:=CG (P:=P) (w:=w) (mg:=mg) (base:=base) (k:=2) _ F tO λcdv A outer s H E hr=>(zE (CY rf_Reading_steps (zP SI (hr.mono (by decide)) rfl (zB (zA 1) zF)) (zA 0)) (zE (CY rf_Reading_asked (mQ (zI cK) xM ["place"] [0] (kW rfl xF (zB (xH xL cB rfl kY cC (zB (aR rf_Reading_steps (zA 0)) zF)) zF)) rfl (λ_ _ _ _ hN=>(cR 0 hN)) (λ_ _ _ _=>fW) (λ_ _ _ _=>(zP HK (hr.mono (by decide)) rfl (zB (nE (aR rf_Reading_steps (zA 1)) (jU (zA 0)) jT) zF)))) (zA 0)) (zE (CY rf_Reading_cells (zP BK (hr.mono (by decide)) rfl (zB (zA 2) zF)) (zA 0)) (zH (CY rf_Reading_found rW (zA 0))))))
    exact h
abbrev fO:Stmt:=inClass (top 9) 1
def aP:FnScope eY ["self","trail","values"] (zI fO):=fsK (by decide+kernel)
def BI{f:Addr}{fd:FuncData}(F:Fun K "enter" "Reading.enter" fO f fd)(kY:mg "len"=none)(rf_Reading_steps: ∃C,OC K "Reading" C/\NoAttr K C "steps")(rf_Reading_asked: ∃C,OC K "Reading" C/\NoAttr K C "asked")(cA:mg "tuple"=none)(rf_Reading_found: ∃C,OC K "Reading" C/\NoAttr K C "found")(XQ:(Hk P w K mg base) "ways_of" 2 3 ["part","cells","values"] nH)(rf_Reading_cells: ∃C,OC K "Reading" C/\NoAttr K C "cells"):FnOk P w K mg base CO 3 f fd ["self","trail","values"] (JW ⟨K,mg,P,w⟩ 3 zT):=
 by have h:=CG (P:=P) (w:=w) (mg:=mg) (base:=base) (k:=2) _ F aP λcdv A outer s H E hr=>(zE (zG 3 aP.nd (xH xL cB rfl kY cC (zB (zA 1) zF))) (zE (wG (jW hr.units (zA 3) (xH xL cB rfl kY cC (zB (aR rf_Reading_steps (zA 0)) zF))) (zH (zY SV)) xC) (zE (zG 4 aP.nd (bI (zB (zA 3) (zB (xT bM rP rfl cA rQ (zB (mQ (zI fO) eY ["name"] [2] (jV (zN (aR rf_Reading_asked (zA 0)) (zA 3))) rfl (λ_ _ _ _ hN=>(cR 0 hN)) (λ_ _ _ _=>fW) (λ_ _ _ _=>(UD (zA 1) (zB (zA 0) zF)))) zF)) zF)))) (zE (wG (Oc hr.units (zA 4) (aR rf_Reading_found (zA 0))) (zH (zY (Ot hr.units (aR rf_Reading_found (zA 0)) (zA 4)))) xC) (zE (jA (wF (zA 1) (zB (bI (zB (zA 4) (zB (zP XQ (hr.mono (by decide)) rfl (zB (zN (aR rf_Reading_steps (zA 0)) (zA 3)) (zB (aR rf_Reading_cells (zA 0)) (zB (zA 2) zF)))) zF))) zF))) (zH (zY AN)))))))
    exact h
abbrev eT:Stmt:=inClass (top 9) 2
def zW:FnScope eG ["self","values"] (zI eT):=fsK (by decide+kernel)
def rF{f:Addr}{fd:FuncData}(F:Fun K "holds_with" "Reading.holds_with" eT f fd)(mt_Reading_enter:Sv P w K mg base "enter" 3 3 "Reading" zT)(rf_Reading_steps: ∃C,OC K "Reading" C/\NoAttr K C "steps")(rf_Reading_found: ∃C,OC K "Reading" C/\NoAttr K C "found"):FnOk P w K mg base CO 4 f fd ["self","values"] (JW ⟨K,mg,P,w⟩ 2 yL):=
 by have h:=CG (P:=P) (w:=w) (mg:=mg) (base:=base) (k:=3) _ F zW λcdv A outer s H E hr=>(zE (zG 2 zW.nd (kU zF)) (zE (zG 3 zW.nd (EY mt_Reading_enter (hr.mono (by decide)) (zA 0) (zB (zA 2) (zB (zA 1) zF)))) (zE (NN 100000000 PassesOwn.never (DZ (zA 2)) (zE (zG 4 zW.nd (zN (zN (zA 2) QO) zD)) (zE (zG 5 zW.nd (zN (zN (zA 2) QO) zD)) (zE (zG 6 zW.nd (Sa hr.units (zN (zN (aR rf_Reading_steps (zA 0)) (zN (zA 4) zD)) zD) (yQ [101,97,99,104]))) (zH (wG (vB (uC (EE hr.units (zA 3) (zA 6)) (pY (DZ (zA 5))))) (zH (zG 3 zW.nd (EY mt_Reading_enter (hr.mono (by decide)) (zA 0) (zB (zA 2) (zB (UC (zA 5)) zF))))) (zE (wG (EE hr.units (zA 3) (zA 6)) (zH (zG 3 zW.nd (Mu (zA 6)))) xC) (zE (uD (zA 3) (Hg hr.units (aR rf_Reading_found (zA 0)) (zA 4))) (zH (jA (UC (zA 2)))))))))))) (zH (zY (zA 3))))))
    exact h
abbrev ME:Stmt:=top 10
def Dw:FnScope vN vN (zI ME):=fsK (by decide+kernel)
def Dx(D:DefM K mg "holds" ME)(in_Reading:InB P w K mg base 3 3 "Reading" yW)(mt_Reading_holds_with:Sv P w K mg base "holds_with" 4 2 "Reading" yL):(Hk P w K mg base) "holds" 5 3 vN vS:=
 by have h:=IO (P:=P) (w:=w) (base:=base) D (λ_ _ _ _ _ _ us hl=>match us,hl with |[_,_,_],_=>rfl) λf fd F=>CG (k:=4) _ F Dw λcdv A outer s H E hr=>(zH (zY (EY mt_Reading_holds_with (hr.mono (by decide)) (Az in_Reading (hr.mono (by decide)) rfl (zB (zA 0) (zB (zA 1) zF))) (zB (zA 2) zF))))
    exact h
abbrev mE:Stmt:=top 12
def CK:FnScope ["_law_script","_law_k"] ["_law_script","_law_k"] (zI mE):=fsK (by decide+kernel)
def CL(D:DefM K mg "_law_cell_at" mE)(kY:mg "len"=none):(Hk P w K mg base) "_law_cell_at" 1 2 ["_law_script","_law_k"] zO:=
 by have h:=IO (P:=P) (w:=w) (base:=base) D (λ_ _ _ _ _ _ us hl=>match us,hl with |[_,_],_=>rfl) λf fd F=>CG (k:=0) _ F CK λcdv A outer s H E hr=>(zE (wG (Ka hr.units (zA 1) (xH xL cB rfl kY cC (zB (zA 0) zF))) (zH (zY (zN (zA 0) (zA 1)))) xC) (zH (zY zD)))
    exact h
abbrev mG:Stmt:=top 13
def xE:FnScope rY ["_law_rest"] (zI mG):=fsK (by decide+kernel)
def CN(D:DefM K mg "_law_name_in" mG)(xF:mg "range"=none):(Hk P w K mg base) "_law_name_in" 1 1 ["_law_rest"] kX:=
 by have h:=IO (P:=P) (w:=w) (base:=base) D (λ_ _ _ _ _ _ us hl=>match us,hl with |[_],_=>rfl) λf fd F=>CG (k:=0) _ F xE λcdv A outer s H E hr=>(zE (zG 1 xE.nd (yQ [97,98,99,100,101,102,103,104,105,106,107,108,109,110,111,112,113,114,115,116,117,118,119,120,121,122])) (zE (zG 2 xE.nd (yV zD (zU (zA 0) zD))) (zE (zG 0 xE.nd (xV (zA 0) zD)) (zE (zG 3 xE.nd (yQ [])) (zE (kC PassesOwn.never rfl (kW rfl xF (zB (zA 2) zF)) (yE 4 xE.nd) (zE (zG 3 xE.nd (yV (zA 3) (zN (zA 1) (zU (zA 0) zD)))) (zH (zG 0 xE.nd (xV (zA 0) zD))))) (zH (zY (bI (zB (zA 3) (zB (zA 0) zF))))))))))
    exact h
abbrev jG:Stmt:=top 14
def yA:FnScope cW ["_law_rest","_law_many"] (zI jG):=fsK (by decide+kernel)
def pS(D:DefM K mg "_law_words_by_digits" jG)(xF:mg "range"=none)(mH:(Hk P w K mg base) "_law_name_in" 1 1 ["_law_rest"] kX):(Hk P w K mg base) "_law_words_by_digits" 2 2 ["_law_rest","_law_many"] wA:=
 by have h:=IO (P:=P) (w:=w) (base:=base) D (λ_ _ _ _ _ _ us hl=>match us,hl with |[_,_],_=>rfl) λf fd F=>CG (k:=1) _ F yA λcdv A outer s H E hr=>(zE (zG 2 yA.nd (kU zF)) (zE (kC PassesOwn.never rfl (kW rfl xF (zB (zA 1) zF)) (yE 3 yA.nd) (zE (uD (zP mH (hr.mono (by decide)) rfl (zB (zA 0) zF)) (AQ (n:=2) rfl (bX (yE 4 yA.nd) (bX (yE 0 yA.nd) AO)))) (zE (kC PassesOwn.never rfl (Mw (yQ [97,98,99,100,101,102,103,104,105,106])) (yE 5 yA.nd) (zH (wG (Se hr.units (zA 4) (zA 2)) (zH (zG 4 yA.nd (yV (nE (zA 4) jT (jU zD)) (zA 5)))) xC))) (zH (jA (wF (zA 2) (zB (zA 4) zF))))))) (zH (zY (zA 2)))))
    exact h
abbrev qQ:Stmt:=top 15
def yN:FnScope vO ["_law_cell","_law_many"] (zI qQ):=fsK (by decide+kernel)
def GY(D:DefM K mg "_law_words" qQ)(qU:(Hk P w K mg base) "_law_words_by_digits" 2 2 ["_law_rest","_law_many"] wA)(xF:mg "range"=none):(Hk P w K mg base) "_law_words" 3 2 ["_law_cell","_law_many"] iB:=
 by have h:=IO (P:=P) (w:=w) (base:=base) D (λ_ _ _ _ _ _ us hl=>match us,hl with |[_,_],_=>rfl) λf fd F=>CG (k:=2) _ F yN λcdv A outer s H E hr=>(zE (wG (jW hr.units (zU (zA 0) zD) zD) (zH (zY (zP qU (hr.mono (by decide)) rfl (zB (xV (zA 0) zD) (zB (zA 1) zF))))) xC) (zE (zG 2 yN.nd (yQ [97,98,99,100,101,102,103,104,105,106,107,108,109,110,111,112,113,114,115,116,117,118,119,120,121,122])) (zE (zG 0 yN.nd (zU (cS (zU (cS (zA 0) zD) zD) zD) zD)) (zE (zG 3 yN.nd (yV zD (zU (zA 0) zD))) (zE (zG 4 yN.nd (zU (xV (zA 0) zD) (zA 3))) (zE (zG 5 yN.nd (kU zF)) (zE (kC PassesOwn.never rfl (kW rfl xF (zB (zA 1) zF)) (yE 6 yN.nd) (zE (zG 7 yN.nd (yQ [])) (zE (kC PassesOwn.never rfl (kW rfl xF (zB (zA 3) zF)) (yE 8 yN.nd) (zE (zG 9 yN.nd (yV (xV (zA 0) (yV zD (cS zD (zA 8)))) (cS (zA 8) (zU (xV (zA 0) zD) zD)))) (zE (wG (jW hr.units (zA 8) (zA 4)) (zH (zG 9 yN.nd (yV (zA 9) (cS zD (zA 6))))) xC) (zH (zG 7 yN.nd (yV (zA 7) (zN (zA 2) (zU (zA 9) zD)))))))) (zH (jA (wF (zA 5) (zB (zA 7) zF))))))) (zE (wG (jW hr.units (zU (xV (zA 0) zD) zD) zD) (zH (uD (yV (zN (zA 5) zD) (zN (zA 2) (zU (xV (zA 0) zD) zD))) (Nh (zA 5) zD))) xC) (zH (zY (zA 5)))))))))))
    exact h
abbrev qR:Stmt:=top 16
def wD:FnScope vP ["_law_cell","_law_many"] (zI qR):=fsK (by decide+kernel)
def GZ(D:DefM K mg "_law_drawn" qR)(xF:mg "range"=none):(Hk P w K mg base) "_law_drawn" 1 2 ["_law_cell","_law_many"] yT:=
 by have h:=IO (P:=P) (w:=w) (base:=base) D (λ_ _ _ _ _ _ us hl=>match us,hl with |[_,_],_=>rfl) λf fd F=>CG (k:=0) _ F wD λcdv A outer s H E hr=>(zE (zG 2 wD.nd (kU zF)) (zE (wG (jW hr.units (zU (zA 0) zD) zD) (zE (zG 3 wD.nd (xV (zA 0) zD)) (zE (kC PassesOwn.never rfl (kW rfl xF (zB (zA 1) zF)) (yE 4 wD.nd) (zE (jA (wF (zA 2) (zB (zU (zA 3) zD) zF))) (zH (zG 3 wD.nd (xV (zA 3) zD))))) (zH (zY (zA 2))))) xC) (zE (zG 5 wD.nd (yV (zU (zA 0) zD) zD)) (zE (kC PassesOwn.never rfl (kW rfl xF (zB (zA 1) zF)) (yE 4 wD.nd) (zE (zG 5 wD.nd (zU (yV (yV (cS (zA 5) (zA 5)) (cS zD (zA 5))) (zA 4)) zD)) (zH (jA (wF (zA 2) (zB (xV (zU (cS (zA 5) zD) zD) zD) zF)))))) (zH (zY (zA 2)))))))
    exact h
abbrev aY:Stmt:=top 17
def yB:FnScope oG ["_law_cell","_law_words_here"] (zI aY):=fsK (by decide+kernel)
def GE(D:DefM K mg "_law_values" aY)(xF:mg "range"=none)(mH:(Hk P w K mg base) "_law_name_in" 1 1 ["_law_rest"] kX)(kY:mg "len"=none)(GK:mg "min"=none):(Hk P w K mg base) "_law_values" 2 2 ["_law_cell","_law_words_here"] aT:=
 by have h:=IO (P:=P) (w:=w) (base:=base) D (λ_ _ _ _ _ _ us hl=>match us,hl with |[_,_],_=>rfl) λf fd F=>CG (k:=1) _ F yB λcdv A outer s H E hr=>(zE (wG (jW hr.units (zU (zA 0) zD) zD) (zE (zG 2 yB.nd (xV (zA 0) zD)) (zE (zG 3 yB.nd (yV zD (zU (zA 2) zD))) (zE (zG 2 yB.nd (xV (zA 2) zD)) (zE (zG 4 yB.nd (kU zF)) (zE (kC PassesOwn.never rfl (kW rfl xF (zB (zA 3) zF)) (yE 5 yB.nd) (zE (uD (zP mH (hr.mono (by decide)) rfl (zB (xV (zA 2) zD) zF)) (AQ (n:=2) rfl (bX (yE 6 yB.nd) (bX (yE 2 yB.nd) AO)))) (zE (wG (jW hr.units (zU (zA 2) zD) zD) (zE (zG 6 yB.nd (yV (uE (zU (xV (zA 2) zD) (uE (cS zD (ED zD zD)) zD)) (ED zD zD)) zD)) (zH (zG 2 yB.nd (xV (zA 2) (uE (cS zD (ED zD zD)) zD))))) xC) (zH (wG (vH hr.units (zA 6) (zA 4)) (zH (jA (wF (zA 4) (zB (zA 6) zF)))) xC))))) (zH (zY (yV (zA 4) (nE (mQ (zI aY) oG ["_law_word"] [4] (jV (zA 1)) rfl (λ_ _ _ _ hN=>(cR 0 hN)) (λ_ _ _ _=>(SW (vH hr.units (zA 0) (zA 1)))) (λ_ _ _ _=>(zA 0))) jT (jU (uE zD (xH (HM rfl) As rfl GK Au (zB zD (zB (xH xL cB rfl kY cC (zB (zA 4) zF)) zF)))))))))))))) xC) (zE (zG 7 yB.nd (yV (uE (zU (zA 0) (uE (cS zD (ED zD zD)) zD)) (ED zD zD)) zD)) (zE (zG 8 yB.nd (kU (zB (zA 7) (zB (yV (zA 7) zD) (zB (zN (zA 1) zD) (zB (zN (zA 1) zD) zF)))))) (zE (zG 9 yB.nd (zU (xV (zA 0) zD) zD)) (zH (zY (nE (yV (nE (zA 8) (jU (zA 9)) jT) (nE (zA 8) jT (jU (zA 9)))) jT (jU (yV zD (zU (zA 0) zD))))))))))
    exact h
abbrev oR:Stmt:=top 18
def gT:FnScope tV ["_law_cell"] (zI oR):=fsK (by decide+kernel)
def GF(D:DefM K mg "_law_tables" oR)(dS:(Hk P w K mg base) "_law_drawn" 1 2 ["_law_cell","_law_many"] yT)(GL:mg "int"=none)(GK:mg "min"=none)(cA:mg "tuple"=none):(Hk P w K mg base) "_law_tables" 2 1 ["_law_cell"] aU:=
 by have h:=IO (P:=P) (w:=w) (base:=base) D (λ_ _ _ _ _ _ us hl=>match us,hl with |[_],_=>rfl) λf fd F=>CG (k:=1) _ F gT λcdv A outer s H E hr=>(zE (zG 1 gT.nd (zP dS (hr.mono (by decide)) rfl (zB (zA 0) (zB zD zF)))) (zE (zG 2 gT.nd (kU zF)) (zE (kC PassesOwn.never rfl (jV (nE (zA 1) jT (jU (yV zD (zU (zN (zA 1) zD) zD))))) (yE 3 gT.nd) (zE (zG 4 gT.nd (yV (yV zD (zU (zA 3) zD)) (xT BV Ad rfl GL Ac (zB (IC hr.units (zU (xV (zA 3) zD) zD) zD) zF)))) (zH (jA (wF (zA 2) (zB (bI (zB (zA 4) (zB (xH (HM rfl) As rfl GK Au (zB (zA 4) (zB (zN (kU (zB zD (zB zD (zB zD (zB zD (zB zD (zB zD zF))))))) (zU (xV (zA 3) zD) zD)) zF))) zF))) zF)))))) (zH (zY (xT bM rP rfl cA rQ (zB (zA 2) zF)))))))
    exact h
abbrev oA:Stmt:=top 19
def wY:FnScope rZ ["_law_cells","_law_extra","_law_tables_here","_law_values_here"] (zI oA):=fsK (by decide+kernel)
def MF(D:DefM K mg "_law_rows" oA)(mK:mg "list"=none)(dS:(Hk P w K mg base) "_law_drawn" 1 2 ["_law_cell","_law_many"] yT)(kY:mg "len"=none)(xF:mg "range"=none)(cA:mg "tuple"=none):(Hk P w K mg base) "_law_rows" 2 4 ["_law_cells","_law_extra","_law_tables_here","_law_values_here"] eR:=
 by have h:=IO (P:=P) (w:=w) (base:=base) D (λ_ _ _ _ _ _ us hl=>match us,hl with |[_,_,_,_],_=>rfl) λf fd F=>CG (k:=1) _ F wY λcdv A outer s H E hr=>(zE (zG 4 wY.nd (kU zF)) (zE (zG 5 wY.nd (xT uW TL rfl mK CU (zB (zA 0) zF))) (zE (wG (jW hr.units (zU (zA 1) zD) zD) (zH (zG 5 wY.nd (yV (zA 5) (zP dS (hr.mono (by decide)) rfl (zB (xV (zA 1) zD) (zB zD zF)))))) xC) (zE (kC PassesOwn.never rfl (jV (zA 5)) (yE 6 wY.nd) (zE (zG 7 wY.nd (zU (zA 6) (xH xL cB rfl kY cC (zB (zA 2) zF)))) (zE (zG 8 wY.nd (zU (cS (xV (zA 6) (xH xL cB rfl kY cC (zB (zA 2) zF))) zD) zD)) (zE (JV 0 wY.nd (zI oA) rZ ["_law_k"] [3,8] (kW rfl xF (zB (zN (zN (zA 2) (zA 7)) zD) zF)) rfl (λ_ _ _ _ hN=>(cR 0 hN)) (λ_ _ _ _=>fW) (λ_ _ _ _=>(zN (zA 1) (zU (zU (xV (zA 2) (zN (kU (zB zD (zB zD (zB zD (zB zD zF))))) (zA 0))) zD) (xH xL cB rfl kY cC (zB (zA 1) zF)))))) (zH (wG (vB (uC (vH hr.units (bI (zB (zA 7) (zB (xT bM rP rfl cA rQ (zB (zA 0) zF)) zF))) (zA 4)) (pY (Ka hr.units (xH xL cB rfl kY cC (zB (zA 4) zF)) zD)))) (zH (jA (wF (zA 4) (zB (bI (zB (zA 7) (zB (xT bM rP rfl cA rQ (zB (zA 0) zF)) zF))) zF)))) xC)))))) (zH (zY (zA 4)))))))
    exact h
abbrev sR:Stmt:=top 20
def MG:FnScope eI eI (zI sR):=fsK (by decide+kernel)
def MH(D:DefM K mg "_law_term" sR)(kY:mg "len"=none):(Hk P w K mg base) "_law_term" 1 3 eI mU:=
 by have h:=IO (P:=P) (w:=w) (base:=base) D (λ_ _ _ _ _ _ us hl=>match us,hl with |[_,_,_],_=>rfl) λf fd F=>CG (k:=0) _ F MG λcdv A outer s H E hr=>(zE (wG (jW hr.units (zU (zA 0) zD) zD) (zH (zY (bI (zB (yQ [105,115]) (zB (zN (zA 2) (zU (xV (zA 0) zD) (xH xL cB rfl kY cC (zB (zA 2) zF)))) zF))))) xC) (zH (zY (bI (zB (yQ [118,97,114]) (zB (zN (zA 1) (zU (xV (zA 0) zD) (xH xL cB rfl kY cC (zB (zA 1) zF)))) zF))))))
    exact h
abbrev uT:Stmt:=top 21
def oB:FnScope FB ["_law_terms","_law_cells","_law_values_here"] (zI uT):=fsK (by decide+kernel)
def PL(D:DefM K mg "_law_fit" uT)(qV:mg "dict"=none)(GI:mg "zip"=none):(Hk P w K mg base) "_law_fit" 1 3 ["_law_terms","_law_cells","_law_values_here"] aC:=
 by have h:=IO (P:=P) (w:=w) (base:=base) D (λ_ _ _ _ _ _ us hl=>match us,hl with |[_,_,_],_=>rfl) λf fd F=>CG (k:=0) _ F oB λcdv A outer s H E hr=>(zE (zG 3 oB.nd (xT EW RN rfl qV KU (zB (zA 2) zF))) (zE (kC PassesOwn.never rfl (Ai rfl GI (zB (zA 0) (zB (zA 1) zF))) (AQ (n:=2) rfl (bX (yE 4 oB.nd) (bX (yE 5 oB.nd) AO))) (zE (wG (vB (uC (jW hr.units (zN (zA 4) zD) (yQ [105,115])) (pY (EE hr.units (zN (zA 4) zD) (zA 5))))) (zH (zY AN)) xC) (zH (wG (jW hr.units (zN (zA 4) zD) (yQ [118,97,114])) (zE (wG (vB (uC (Aw (zN (zA 4) zD) (zA 3)) (pY (EE hr.units (RQ (zA 3) (zN (zA 4) zD)) (zA 5))))) (zH (zY AN)) xC) (zH (uD (zA 5) (KS (zA 3) (zN (zA 4) zD))))) xC)))) (zH (zY (zA 3)))))
    exact h
abbrev qS:Stmt:=top 22
def HA:FnScope cX cX (zI qS):=fsK (by decide+kernel)
def HB(D:DefM K mg "_law_value" qS):(Hk P w K mg base) "_law_value" 1 2 cX dP:=
 by have h:=IO (P:=P) (w:=w) (base:=base) D (λ_ _ _ _ _ _ us hl=>match us,hl with |[_,_],_=>rfl) λf fd F=>CG (k:=0) _ F HA λcdv A outer s H E hr=>(zE (wG (jW hr.units (zN (zA 0) zD) (yQ [105,115])) (zH (zY (zN (zA 0) zD))) xC) (zH (zY (RQ (zA 1) (zN (zA 0) zD)))))
    exact h
abbrev qT:Stmt:=top 23
def bV:FnScope ["_law_formula","_law_rows_here","_law_values_here","_law_alike","_law_t","_law_cells","_law_found"] ["_law_formula","_law_rows_here","_law_values_here"] (zI qT):=fsK (by decide+kernel)
def HC(D:DefM K mg "_law_holds" qT)(AC:(Hk P w K mg base) "_law_value" 1 2 cX dP)(SH:(Hk P w K mg base) "_law_fit" 1 3 ["_law_terms","_law_cells","_law_values_here"] aC):(Hk P w K mg base) "_law_holds" 10 3 ["_law_formula","_law_rows_here","_law_values_here"] (zQ 9):=by
 obtain⟨f,fd,hself,F⟩:=D.ex;have kself:=F.kp;have bself:=F.binds (ps:=["_law_formula","_law_rows_here","_law_values_here"]) (λ_ _ _ _ _ _ us hl=>match us,hl with |[_,_,_],_=>rfl)
 have all: ∀n,FnOk P w K mg base CO (1+n) f fd ["_law_formula","_law_rows_here","_law_values_here"] (JW ⟨K,mg,P,w⟩ 3 (zQ n)):=by
  intro n
  induction n with
  |zero=>exact Sl
  |succ n ih0=>
   have ih: ∀m,m=n->FnOk P w K mg base CO (1+m) f fd ["_law_formula","_law_rows_here","_law_values_here"] (JW ⟨K,mg,P,w⟩ 3 (zQ m)):=λm e=>e▸ih0;have h:=CG (P:=P) (w:=w) (mg:=mg) (base:=base) (k:=1+n) _ F bV λcdv A outer s H E hr=>(zE (wG (jW hr.units (zN (zA 0) zD) (yQ [121,101,115])) (zH (zY SV)) xC) (zE (wG (jW hr.units (zN (zA 0) zD) (yQ [115,97,109,101])) (zE (zG 3 bV.nd (IC hr.units (zP AC (hr.mono (by omega)) rfl (zB (zN (zA 0) zD) (zB (zA 2) zF))) (zP AC (hr.mono (by omega)) rfl (zB (zN (zA 0) zD) (zB (zA 2) zF))))) (zH (zY (Mt (zA 3) (Ms (JX (ih n rfl) (hr.mono (by omega)) rfl hself kself bself (zB (zN (zA 0) zD) (zB (zA 1) (zB (zA 2) zF))))))))) xC) (zE (kC PassesOwn.never rfl (jV (zA 1)) (AQ (n:=2) rfl (bX (yE 4 bV.nd) (bX (yE 5 bV.nd) AO))) (zH (wG (jW hr.units (zA 4) (zN (zA 0) zD)) (zE (zG 6 bV.nd (zP SH (hr.mono (by omega)) rfl (zB (zN (zA 0) zD) (zB (zA 5) (zB (zA 2) zF))))) (zH (wG (vB (uC (NP (zA 6) AN) (pY (jW hr.units (JX (ih n rfl) (hr.mono (by omega)) rfl hself kself bself (zB (zN (zA 0) zD) (zB (zA 1) (zB (zA 6) zF)))) (IC hr.units (zN (zA 0) zD) (yQ [115,111,109,101])))))) (zH (zY (IC hr.units (zN (zA 0) zD) (yQ [115,111,109,101])))) xC))) xC))) (zH (zY (IC hr.units (zN (zA 0) zD) (yQ [101,97,99,104])))))))
   exact h
 exact⟨f,fd,all 9,hself,kself,bself⟩
abbrev jH:Stmt:=top 24
def yS:FnScope gY ["_law_cells","_law_tables_here","_law_names","_law_values_here","_law_given"] (zI jH):=fsK (by decide+kernel)
def HD(D:DefM K mg "_law_parts" jH)(mK:mg "list"=none)(dS:(Hk P w K mg base) "_law_drawn" 1 2 ["_law_cell","_law_many"] yT)(GL:mg "int"=none)(kY:mg "len"=none)(PM:(Hk P w K mg base) "_law_term" 1 3 eI mU)(cA:mg "tuple"=none):(Hk P w K mg base) "_law_parts" 2 5 ["_law_cells","_law_tables_here","_law_names","_law_values_here","_law_given"] iC:=
 by have h:=IO (P:=P) (w:=w) (base:=base) D (λ_ _ _ _ _ _ us hl=>match us,hl with |[_,_,_,_,_],_=>rfl) λf fd F=>CG (k:=1) _ F yS λcdv A outer s H E hr=>(zE (zG 5 yS.nd (kU zF)) (zE (zG 6 yS.nd (xT EU (OA rfl) rfl mK CU (zB (zA 4) zF))) (zE (zG 7 yS.nd zD) (zE (kC PassesOwn.never rfl (jV (zA 0)) (yE 8 yS.nd) (zE (zG 9 yS.nd (zP dS (hr.mono (by decide)) rfl (zB (zA 8) (zB zD zF)))) (zE (zG 7 yS.nd (yV (zA 7) (xT BV Ad rfl GL Ac (zB (Sb (zU (zA 8) zD) zD) zF)))) (zH (wG (vB (ZH (jW hr.units (zU (zA 8) zD) zD) (ZG (Sd (zA 7) zD)))) (zE (zG 10 yS.nd (yV (mQ (zI jH) gY ["_law_value_here"] [] (jV (zA 3)) rfl (λ_ _ _ _ hN=>(cR 0 hN)) (λ_ _ _ _=>fW) (λ_ _ _ _=>(bI (zB (yQ [105,115]) (zB (zA 0) zF))))) (cS (mQ (zI jH) gY ["_law_name"] [] (jV (zA 6)) rfl (λ_ _ _ _ hN=>(cR 0 hN)) (λ_ _ _ _=>fW) (λ_ _ _ _=>(bI (zB (yQ [118,97,114]) (zB (zA 0) zF))))) zD))) (zH (jA (wF (zA 5) (zB (bI (zB (yQ [115,97,109,101]) (zB (zN (zA 10) (zU (zN (zA 9) zD) (xH xL cB rfl kY cC (zB (zA 10) zF)))) (zB (zN (zA 10) (zU (zN (zA 9) zD) (xH xL cB rfl kY cC (zB (zA 10) zF)))) zF)))) zF))))) (zE (zG 11 yS.nd (zU (zN (zA 9) zD) (xH xL cB rfl kY cC (zB (zA 1) zF)))) (zE (zG 12 yS.nd (xT bM rP rfl cA rQ (zB (mQ (zI jH) gY ["_law_number"] [2,3] (jV (nE (zA 9) jT (jU (zN (zN (zA 1) (zA 11)) zD)))) rfl (λ_ _ _ _ hN=>(cR 0 hN)) (λ_ _ _ _=>fW) (λ_ _ _ _=>(zP PM (hr.mono (by decide)) rfl (zB (zA 0) (zB (zA 1) (zB (zA 2) zF)))))) zF))) (zE (jA (wF (zA 5) (zB (bI (zB (zN (kU (zB (yQ [115,111,109,101]) (zB (yQ [101,97,99,104]) zF))) (uE (zU (zA 8) zD) zD)) (zB (zA 11) (zB (zA 12) zF)))) zF))) (zH (zG 6 yS.nd (yV (zA 6) (mQ (zI jH) gY ["_law_term_here"] [6] (QR (zA 12)) rfl (λ_ _ _ _ hN=>(cR 0 hN)) (λ_ _ _ _=>(SW (vB (uC (jW hr.units (zN (zA 0) zD) (yQ [118,97,114])) (pY (vH hr.units (zN (zA 0) zD) (zA 1))))))) (λ_ _ _ _=>(zN (zA 0) zD)))))))))))))) (zH (zY (zA 5)))))))
    exact h
abbrev VB:Stmt:=top 25
def gU:FnScope Be ["_law_script"] (zI VB):=fsK (by decide+kernel)
def Ps{f:Addr}{fd:FuncData}(F:Fun K "law" "law" VB f fd)(MI:(Hk P w K mg base) "_law_words" 3 2 ["_law_cell","_law_many"] iB)(xS:(Hk P w K mg base) "_law_cell_at" 1 2 ["_law_script","_law_k"] zO)(HE:(Hk P w K mg base) "_law_values" 2 2 ["_law_cell","_law_words_here"] aT)(HF:(Hk P w K mg base) "_law_tables" 2 1 ["_law_cell"] aU)(xF:mg "range"=none)(kY:mg "len"=none)(PN:(Hk P w K mg base) "_law_rows" 2 4 ["_law_cells","_law_extra","_law_tables_here","_law_values_here"] eR)(mI:mg "reversed"=none)(MK:(Hk P w K mg base) "_law_parts" 2 5 ["_law_cells","_law_tables_here","_law_names","_law_values_here","_law_given"] iC)(ML:(Hk P w K mg base) "_law_holds" 10 3 ["_law_formula","_law_rows_here","_law_values_here"] (zQ 9))(mK:mg "list"=none)(qV:mg "dict"=none)(Jo:(Hk P w K mg base) "holds" 5 3 vN vS)(GH:mg "bool"=none)(dU:mg "isinstance"=none):FnOk P w K mg base CO 11 f fd ["_law_script"] (JW ⟨K,mg,P,w⟩ 1 OI):=
 by have h:=CG (P:=P) (w:=w) (mg:=mg) (base:=base) (k:=10) _ F gU λcdv A outer s H E hr=>(zE (zG 1 gU.nd (zP MI (hr.mono (by decide)) rfl (zB (zP xS (hr.mono (by decide)) rfl (zB (zA 0) (zB zD zF))) (zB zD zF)))) (zE (zG 2 gU.nd (kU (zB (zN (zA 1) zD) (zB (zN (zA 1) zD) (zB (yV (zN (zA 1) zD) (yQ [55])) (zB (yQ [48]) (zB (yQ [120,32,121]) zF))))))) (zE (zG 3 gU.nd (zP HE (hr.mono (by decide)) rfl (zB (zP xS (hr.mono (by decide)) rfl (zB (zA 0) (zB zD zF))) (zB (nE (zA 1) (jU zD) jT) zF)))) (zE (zG 4 gU.nd (nE (zP HF (hr.mono (by decide)) rfl (zB (zP xS (hr.mono (by decide)) rfl (zB (zA 0) (zB zD zF))) zF)) jT (jU zD))) (zE (zG 5 gU.nd rW) (zE (kC PassesOwn.never rfl (kW rfl xF (zB (zU (zP xS (hr.mono (by decide)) rfl (zB (zA 0) (zB zD zF))) zD) zF)) (yE 6 gU.nd) (zH (uD (zN (zA 3) (zU (xV (zP xS (hr.mono (by decide)) rfl (zB (zA 0) (zB zD zF))) (yV zD (zA 6))) (xH xL cB rfl kY cC (zB (zA 3) zF)))) (KS (zA 5) (zN (zA 2) (zA 6)))))) (zE (zG 7 gU.nd (nE (zP PN (hr.mono (by decide)) rfl (zB (nE (zA 0) (jU zD) jT) (zB (zP xS (hr.mono (by decide)) rfl (zB (zA 0) (zB zD zF))) (zB (zA 4) (zB (zA 3) zF))))) jT (jU zD))) (zE (JV 8 gU.nd (zI VB) Be ["_law_k"] [0] (kW rfl xF (zB (zU (zP xS (hr.mono (by decide)) rfl (zB (zA 0) (zB zD zF))) zD) zF)) rfl (λ_ _ _ _ hN=>(cR 0 hN)) (λ_ _ _ _=>fW) (λ_ _ _ _=>(yV (zP xS (hr.mono (by decide)) rfl (zB (zA 1) (zB (yV zD (zA 0)) zF))) (cS zD (zA 0))))) (zE (zG 9 gU.nd (bI (zB (yQ [121,101,115]) zF))) (zE (kC PassesOwn.never rfl (Oj rfl mI (zB (zP MK (hr.mono (by decide)) rfl (zB (zA 8) (zB (zA 4) (zB (zA 2) (zB (zA 3) (zB (zA 5) zF)))))) zF)) (yE 10 gU.nd) (zH (zG 9 gU.nd (yV (zA 10) (bI (zB (zA 9) zF)))))) (zE (zG 11 gU.nd (zP ML (hr.mono (by decide)) rfl (zB (zA 9) (zB (zA 7) (zB (zA 5) zF))))) (zE (zG 12 gU.nd (xT uW TL rfl mK CU (zB (zA 7) zF))) (zE (zG 13 gU.nd (xT EW RN rfl qV KU (zB (zA 5) zF))) (zE (kC PassesOwn.never rfl (jV (kU (zB (zA 7) (zB (zA 7) (zB (Gn (st:= -1) (by decide) (zA 7) jT jT ZY) zF))))) (yE 14 gU.nd) (zE (zG 15 gU.nd (zP Jo (hr.mono (by decide)) rfl (zB (zA 9) (zB (zA 14) (zB (zA 13) zF))))) (zH (wG (vB (ZH (Mv (DZ (xH Ab Ng rfl dU GU (zB (zA 15) (zB (Rx rfl GH Gq) zF))))) (ZH (EE hr.units (zA 15) (zA 11)) (ZG (Os hr.units (zA 13) (zA 5)))))) (zH (zY SV)) xC)))) (zH (zY (IC hr.units (zA 7) (zA 12))))))))))))))))))
    exact h
end
def all_mk{l:PySem.W.OpenLaw}{w:World}{K:Vk}{h:Heap}{mg:Vd}{fa:Addr}(X:K.In h)(GG:h.Ns mainGlobals mg)(hfa:mg "law"=some (.ref fa))
  (D0:DefM K mg "names_in" uR)
  (D1:DefM K mg "term_with" sQ)
  (D2:DefM K mg "fitting" BH)
  (D3:DefM K mg "parts_of" uS)
  (D4:DefM K mg "names_among" aX)
  (D5:DefM K mg "cells_by_table" aM)
  (D6:DefM K mg "ways_of" tL)
  (D10:DefM K mg "holds" ME)
  (D11:DefM K mg "_law_cell_at" mE)
  (D12:DefM K mg "_law_name_in" mG)
  (D13:DefM K mg "_law_words_by_digits" jG)
  (D14:DefM K mg "_law_words" qQ)
  (D15:DefM K mg "_law_drawn" qR)
  (D16:DefM K mg "_law_values" aY)
  (D17:DefM K mg "_law_tables" oR)
  (D18:DefM K mg "_law_rows" oA)
  (D19:DefM K mg "_law_term" sR)
  (D20:DefM K mg "_law_fit" uT)
  (D21:DefM K mg "_law_value" qS)
  (D22:DefM K mg "_law_holds" qT)
  (D23:DefM K mg "_law_parts" jH)
  (D24:DefM K mg "law" VB)
  {C_Reading:Addr} (n_Reading:PySem.W.nsIn K mainGlobals "Reading"=some (some (.ref C_Reading)))
  (o_Reading:(PySem.W.clsIn K C_Reading).map (·.name)=some "Reading") (BL:Cls K C_Reading)
  (fS:NoAttr K C_Reading "asked")
  (fP:NoAttr K C_Reading "cells")
  (fR:NoAttr K C_Reading "found")
  (fQ:NoAttr K C_Reading "steps")
  {yK:Addr} {odF_Reading___init__ anF_Reading___init__:Option Addr} {slF_Reading___init__:Array (Option Value)} {ocF_Reading___init__ kVF_Reading___init__ dcF_Reading___init__ pmF_Reading___init__ cdF_Reading___init__ ctF_Reading___init__:Value}
  (BM:Mk K C_Reading yK)
  (lF_Reading___init__:K.lookup yK=some ⟨ocF_Reading___init__,odF_Reading___init__,.func (PySem.W.fnOf "__init__" "Reading.__init__" (aQ (inClass (top 9) 0)) (bW (inClass (top 9) 0)) (zI (inClass (top 9) 0)) .none kVF_Reading___init__ dcF_Reading___init__ pmF_Reading___init__ anF_Reading___init__ cdF_Reading___init__ ctF_Reading___init__),slF_Reading___init__⟩) (cF_Reading___init__:PySem.W.codeIn K cdF_Reading___init__ "Reading.__init__"=true) (kF_Reading___init__:PySem.W.keepIn K (.ref yK)=true)
  {zX:Addr} {odF_Reading_enter anF_Reading_enter:Option Addr} {slF_Reading_enter:Array (Option Value)} {ocF_Reading_enter kVF_Reading_enter dcF_Reading_enter pmF_Reading_enter cdF_Reading_enter ctF_Reading_enter:Value}
  (h_Reading_enter:Meth K C_Reading "enter" zX)
  (lF_Reading_enter:K.lookup zX=some ⟨ocF_Reading_enter,odF_Reading_enter,.func (PySem.W.fnOf "enter" "Reading.enter" (aQ (inClass (top 9) 1)) (bW (inClass (top 9) 1)) (zI (inClass (top 9) 1)) .none kVF_Reading_enter dcF_Reading_enter pmF_Reading_enter anF_Reading_enter cdF_Reading_enter ctF_Reading_enter),slF_Reading_enter⟩) (cF_Reading_enter:PySem.W.codeIn K cdF_Reading_enter "Reading.enter"=true) (kF_Reading_enter:PySem.W.keepIn K (.ref zX)=true)
  {yC:Addr} {odF_Reading_holds_with anF_Reading_holds_with:Option Addr} {slF_Reading_holds_with:Array (Option Value)} {ocF_Reading_holds_with kVF_Reading_holds_with dcF_Reading_holds_with pmF_Reading_holds_with cdF_Reading_holds_with ctF_Reading_holds_with:Value}
  (h_Reading_holds_with:Meth K C_Reading "holds_with" yC)
  (lF_Reading_holds_with:K.lookup yC=some ⟨ocF_Reading_holds_with,odF_Reading_holds_with,.func (PySem.W.fnOf "holds_with" "Reading.holds_with" (aQ (inClass (top 9) 2)) (bW (inClass (top 9) 2)) (zI (inClass (top 9) 2)) .none kVF_Reading_holds_with dcF_Reading_holds_with pmF_Reading_holds_with anF_Reading_holds_with cdF_Reading_holds_with ctF_Reading_holds_with),slF_Reading_holds_with⟩) (cF_Reading_holds_with:PySem.W.codeIn K cdF_Reading_holds_with "Reading.holds_with"=true) (kF_Reading_holds_with:PySem.W.keepIn K (.ref yC)=true)
  (GH:PySem.W.nsIn K mainGlobals "bool"=some none)
  (qV:PySem.W.nsIn K mainGlobals "dict"=some none)
  (GL:PySem.W.nsIn K mainGlobals "int"=some none)
  (dU:PySem.W.nsIn K mainGlobals "isinstance"=some none)
  (kY:PySem.W.nsIn K mainGlobals "len"=some none)
  (mK:PySem.W.nsIn K mainGlobals "list"=some none)
  (GK:PySem.W.nsIn K mainGlobals "min"=some none)
  (xF:PySem.W.nsIn K mainGlobals "range"=some none)
  (mI:PySem.W.nsIn K mainGlobals "reversed"=some none)
  (cA:PySem.W.nsIn K mainGlobals "tuple"=some none)
  (GI:PySem.W.nsIn K mainGlobals "zip"=some none)
  : ∃fd:FuncData,(∀(s:Shared)(v:Value),BindsTo s fd ⟨[v],[]⟩ [("_law_script",v)])/\ ∀base:Heap,K.In base->base.Ns mainGlobals mg->FnOk l.prog w K mg base CO 11 fa fd ["_law_script"] (IF K OI):=by
 have Z_bool:=PySem.W.mg_none_of X GG GH;have Z_dict:=PySem.W.mg_none_of X GG qV;have Z_int:=PySem.W.mg_none_of X GG GL;have Z_isinstance:=PySem.W.mg_none_of X GG dU;have Z_len:=PySem.W.mg_none_of X GG kY;have Z_list:=PySem.W.mg_none_of X GG mK;have Z_min:=PySem.W.mg_none_of X GG GK;have Z_range:=PySem.W.mg_none_of X GG xF;have Z_reversed:=PySem.W.mg_none_of X GG mI;have Z_tuple:=PySem.W.mg_none_of X GG cA;have Z_zip:=PySem.W.mg_none_of X GG GI;have FF_Reading___init__:=JO (st:=inClass (top 9) 0) lF_Reading___init__ cF_Reading___init__ kF_Reading___init__;have bF_Reading___init__:=FF_Reading___init__.binds (ps:=xM) λ_ _ _ _ _ _ us hl=>match us,hl with |[_,_,_],_=>rfl
 have FF_Reading_enter:=JO (st:=inClass (top 9) 1) lF_Reading_enter cF_Reading_enter kF_Reading_enter;have bF_Reading_enter:=FF_Reading_enter.binds (ps:=["self","trail","values"]) λ_ _ _ _ _ _ us hl=>match us,hl with |[_,_,_],_=>rfl
 have FF_Reading_holds_with:=JO (st:=inClass (top 9) 2) lF_Reading_holds_with cF_Reading_holds_with kF_Reading_holds_with;have bF_Reading_holds_with:=FF_Reading_holds_with.binds (ps:=["self","values"]) λ_ _ _ _ _ _ us hl=>match us,hl with |[_,_],_=>rfl
 have OC_Reading:OC K "Reading" C_Reading:=⟨n_Reading,o_Reading,BL⟩
 have rf_Reading_asked: ∃C,OC K "Reading" C/\NoAttr K C "asked":=⟨C_Reading,OC_Reading,fS⟩
 have rf_Reading_cells: ∃C,OC K "Reading" C/\NoAttr K C "cells":=⟨C_Reading,OC_Reading,fP⟩
 have rf_Reading_found: ∃C,OC K "Reading" C/\NoAttr K C "found":=⟨C_Reading,OC_Reading,fR⟩
 have rf_Reading_steps: ∃C,OC K "Reading" C/\NoAttr K C "steps":=⟨C_Reading,OC_Reading,fQ⟩
 refine Oh D24 hfa (λ_ _ _ _ _ _ s v=>.of_eq rfl) λbase f fd F=>?_;have G0:=PJ (P:=l.prog) (w:=w) (base:=base) D0 Z_list;have G1:=MD (P:=l.prog) (w:=w) (base:=base) D1;have G2:=SE (P:=l.prog) (w:=w) (base:=base) D2 Z_zip;have G3:=PK (P:=l.prog) (w:=w) (base:=base) D3;have G4:=GD (P:=l.prog) (w:=w) (base:=base) D4 G0;have G5:=AB (P:=l.prog) (w:=w) (base:=base) D5;have G6:=SF (P:=l.prog) (w:=w) (base:=base) D6 G1 G2 Z_dict;have GM_Reading___init__:=tP (P:=l.prog) (w:=w) (mg:=mg) (base:=base) FF_Reading___init__ G3 rf_Reading_steps Z_range Z_len G4 rf_Reading_asked G5 rf_Reading_cells rf_Reading_found;have in_Reading:InB l.prog w K mg base 3 3 "Reading" yW:=⟨C_Reading,yK,_,_,OC_Reading,PySem.W.mg_of X GG n_Reading,BM,GM_Reading___init__,bF_Reading___init__⟩
 have GM_Reading_enter:=BI (P:=l.prog) (w:=w) (mg:=mg) (base:=base) FF_Reading_enter Z_len rf_Reading_steps rf_Reading_asked Z_tuple rf_Reading_found G6 rf_Reading_cells;have mt_Reading_enter:Sv l.prog w K mg base "enter" 3 3 "Reading" zT:=⟨C_Reading,zX,_,_,OC_Reading,h_Reading_enter,GM_Reading_enter,bF_Reading_enter⟩
 have GM_Reading_holds_with:=rF (P:=l.prog) (w:=w) (mg:=mg) (base:=base) FF_Reading_holds_with mt_Reading_enter rf_Reading_steps rf_Reading_found;have mt_Reading_holds_with:Sv l.prog w K mg base "holds_with" 4 2 "Reading" yL:=⟨C_Reading,yC,_,_,OC_Reading,h_Reading_holds_with,GM_Reading_holds_with,bF_Reading_holds_with⟩
 have G10:=Dx (P:=l.prog) (w:=w) (base:=base) D10 in_Reading mt_Reading_holds_with;have G11:=CL (P:=l.prog) (w:=w) (base:=base) D11 Z_len;have G12:=CN (P:=l.prog) (w:=w) (base:=base) D12 Z_range;have G13:=pS (P:=l.prog) (w:=w) (base:=base) D13 Z_range G12;have G14:=GY (P:=l.prog) (w:=w) (base:=base) D14 G13 Z_range;have G15:=GZ (P:=l.prog) (w:=w) (base:=base) D15 Z_range;have G16:=GE (P:=l.prog) (w:=w) (base:=base) D16 Z_range G12 Z_len Z_min;have G17:=GF (P:=l.prog) (w:=w) (base:=base) D17 G15 Z_int Z_min Z_tuple;have G18:=MF (P:=l.prog) (w:=w) (base:=base) D18 Z_list G15 Z_len Z_range Z_tuple;have G19:=MH (P:=l.prog) (w:=w) (base:=base) D19 Z_len;have G20:=PL (P:=l.prog) (w:=w) (base:=base) D20 Z_dict Z_zip;have G21:=HB (P:=l.prog) (w:=w) (base:=base) D21;have G22:=HC (P:=l.prog) (w:=w) (base:=base) D22 G21 G20;have G23:=HD (P:=l.prog) (w:=w) (base:=base) D23 Z_list G15 Z_int Z_len G19 Z_tuple;exact Ps (P:=l.prog) (w:=w) (base:=base) F G14 G11 G16 G17 Z_range Z_len G18 Z_reversed G23 G22 Z_list Z_dict G10 Z_bool Z_isinstance
def walk{l:PySem.W.OpenLaw}{q:Program}{loose:Vc}{XP:(Str->Option Value)->Heap->Prop}{YP:World->Heap->Prop}{d:DefRec}{K:Params->PySem.W.Frag}(hn:l.most=some 63)(hdf:d.params.defaults=[])
  (hY: ∀(w:World)(h:Heap),YP w h->(K w.params).In h)
  (F: ∀(w:World)(mg:Vd)(fa:Addr)(h:Heap),(K w.params).In h->h.Ns mainGlobals mg->mg d.name=some (.ref fa)->
   ∃fd:FuncData,(∀(s:Shared)(u:Value),BindsTo s fd ⟨[u],[]⟩ [("_law_script",u)])/\ ∀base:Heap,(K w.params).In base->base.Ns mainGlobals mg->FnOk l.prog w (K w.params) mg base CO 11 fa fd ["_law_script"] (IF (K w.params) OI)):
  PySem.W.WalkO q loose XP YP l.row.toRowW d [] (λf vs=>PySem.call f vs):=
 L2.walk_of (n:=63) (k:=11) (x:="_law_script") (CX:=λ_=>CO) (sp:=λw=>IF (K w.params) OI) hn (by decide) hdf ⟨rfl,by decide,by decide⟩ hY F
  (λw H a ns hl hO hS=>Ak hO hS (Dv ns hl)) λ_ _ _ _ _ z=>z
end My
end M
end L2
namespace PySem.W.Fast
def tw4303283720260068261:=0
theorem te4303283720260068261:tw4303283720260068261=0:=rfl
def tw16727188866739422082:=0
theorem te16727188866739422082:tw16727188866739422082=0:=rfl
def tw5511022188636107872:=0
theorem te5511022188636107872:tw5511022188636107872=0:=rfl
def tw7121516963482557080:=0
theorem te7121516963482557080:tw7121516963482557080=0:=rfl
def tw17589368596358707094:=0
theorem te17589368596358707094:tw17589368596358707094=0:=rfl
def tw17877953988132146765:=0
theorem te17877953988132146765:tw17877953988132146765=0:=rfl
def tw10959446696219090083:=0
theorem te10959446696219090083:tw10959446696219090083=0:=rfl
def tw5839065483550919935:=0
theorem te5839065483550919935:tw5839065483550919935=0:=rfl
def tw17044940524303540975:=0
theorem te17044940524303540975:tw17044940524303540975=0:=rfl
def tw16392886428558991658:=0
theorem te16392886428558991658:tw16392886428558991658=0:=rfl
def tw22545840837005156:=0
theorem te22545840837005156:tw22545840837005156=0:=rfl
def tw952589480535858840:=0
theorem te952589480535858840:tw952589480535858840=0:=rfl
def tw4261572661888709202:=0
theorem te4261572661888709202:tw4261572661888709202=0:=rfl
def tw8509679362831561125:=0
theorem te8509679362831561125:tw8509679362831561125=0:=rfl
def tw4766419242318499184:=0
theorem te4766419242318499184:tw4766419242318499184=0:=rfl
def tw5270021579052341593:=0
theorem te5270021579052341593:tw5270021579052341593=0:=rfl
def tw8708911876944148672:=0
theorem te8708911876944148672:tw8708911876944148672=0:=rfl
end PySem.W.Fast
open PySem PySem.W PyProof.Rows
set_option maxRecDepth 100000 in
set_option maxHeartbeats 0 in
theorem PySem.Challenge.cw_mendsure_k71_whole_formulas_holds : PySem.Challenge.rw_mendsure_k71_whole_formulas.Holds := by
  w_on; o_law; k_head; (case hw => w_witness2)
  k_fill
  refine L2.M.My.walk (l := PySem.Challenge.rw_mendsure_k71_whole_formulas) rfl rfl (fun w h Y => PySem.W.kIn_of Y) ?F
  case F =>
    intro w mg fa h KX G hmg
    refine' L2.M.My.all_mk KX G hmg ?D0 ?D1 ?D2 ?D3 ?D4 ?D5 ?D6 ?D10 ?D11 ?D12 ?D13 ?D14 ?D15 ?D16 ?D17 ?D18 ?D19 ?D20 ?D21 ?D22 ?D23 ?D24 ?n_Reading ?o_Reading ?BL ?fS ?fP ?fR ?fQ ?BM ?lF_Reading___init__ ?cF_Reading___init__ ?kF_Reading___init__ ?h_Reading_enter ?lF_Reading_enter ?cF_Reading_enter ?kF_Reading_enter ?h_Reading_holds_with ?lF_Reading_holds_with ?cF_Reading_holds_with ?kF_Reading_holds_with ?GH ?qV ?GL ?dU ?kY ?mK ?GK ?xF ?mI ?cA ?GI
    (case D0 => exact L2.M.def_mk (by k_is) (by k_is) (by k_is) (by k_is) KX G)
    (case D1 => exact L2.M.def_mk (by k_is) (by k_is) (by k_is) (by k_is) KX G)
    (case D2 => exact L2.M.def_mk (by k_is) (by k_is) (by k_is) (by k_is) KX G)
    (case D3 => exact L2.M.def_mk (by k_is) (by k_is) (by k_is) (by k_is) KX G)
    (case D4 => exact L2.M.def_mk (by k_is) (by k_is) (by k_is) (by k_is) KX G)
    (case D5 => exact L2.M.def_mk (by k_is) (by k_is) (by k_is) (by k_is) KX G)
    (case D6 => exact L2.M.def_mk (by k_is) (by k_is) (by k_is) (by k_is) KX G)
    (case D10 => exact L2.M.def_mk (by k_is) (by k_is) (by k_is) (by k_is) KX G)
    (case D11 => exact L2.M.def_mk (by k_is) (by k_is) (by k_is) (by k_is) KX G)
    (case D12 => exact L2.M.def_mk (by k_is) (by k_is) (by k_is) (by k_is) KX G)
    (case D13 => exact L2.M.def_mk (by k_is) (by k_is) (by k_is) (by k_is) KX G)
    (case D14 => exact L2.M.def_mk (by k_is) (by k_is) (by k_is) (by k_is) KX G)
    (case D15 => exact L2.M.def_mk (by k_is) (by k_is) (by k_is) (by k_is) KX G)
    (case D16 => exact L2.M.def_mk (by k_is) (by k_is) (by k_is) (by k_is) KX G)
    (case D17 => exact L2.M.def_mk (by k_is) (by k_is) (by k_is) (by k_is) KX G)
    (case D18 => exact L2.M.def_mk (by k_is) (by k_is) (by k_is) (by k_is) KX G)
    (case D19 => exact L2.M.def_mk (by k_is) (by k_is) (by k_is) (by k_is) KX G)
    (case D20 => exact L2.M.def_mk (by k_is) (by k_is) (by k_is) (by k_is) KX G)
    (case D21 => exact L2.M.def_mk (by k_is) (by k_is) (by k_is) (by k_is) KX G)
    (case D22 => exact L2.M.def_mk (by k_is) (by k_is) (by k_is) (by k_is) KX G)
    (case D23 => exact L2.M.def_mk (by k_is) (by k_is) (by k_is) (by k_is) KX G)
    (case D24 => exact L2.M.def_mk (by k_is) (by k_is) (by k_is) (by k_is) KX G)
    (case n_Reading => k_is)
    (case o_Reading => exact L2.M.nm_of (by k_is) (by rfl))
    (case BL => exact ⟨by k_is, by k_is, by k_is, by k_is⟩)
    (case fS => show PySem.W.findIn _ _ _ = _; k_is)
    (case fP => show PySem.W.findIn _ _ _ = _; k_is)
    (case fR => show PySem.W.findIn _ _ _ = _; k_is)
    (case fQ => show PySem.W.findIn _ _ _ = _; k_is)
    (case BM => exact ⟨by k_is, by k_is, by k_is, by k_is⟩)
    (case lF_Reading___init__ => k_is)
    (case cF_Reading___init__ => k_is)
    (case kF_Reading___init__ => k_is)
    (case h_Reading_enter => exact ⟨by k_is, by k_is, by k_is⟩)
    (case lF_Reading_enter => k_is)
    (case cF_Reading_enter => k_is)
    (case kF_Reading_enter => k_is)
    (case h_Reading_holds_with => exact ⟨by k_is, by k_is, by k_is⟩)
    (case lF_Reading_holds_with => k_is)
    (case cF_Reading_holds_with => k_is)
    (case kF_Reading_holds_with => k_is)
    (case GH => k_is)
    (case qV => k_is)
    (case GL => k_is)
    (case dU => k_is)
    (case kY => k_is)
    (case mK => k_is)
    (case GK => k_is)
    (case xF => k_is)
    (case mI => k_is)
    (case cA => k_is)
    (case GI => k_is)
