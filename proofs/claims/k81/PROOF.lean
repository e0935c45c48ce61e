import PyProof.Rows.All
import Wide.All
import KE.RegKIsAll
import Wide.FinOn
import PySem.Challenge.RW_mendsure_k81_ledgers_that_refuse
set_option Elab.async false
set_option linter.all false
set_option maxRecDepth 100000
noncomputable section
open List (flatten_cons getD_eq_getElem?_getD getElem?_append_left getElem?_append_right getElem?_map getElem?_set_ne getElem?_set_self getElem_inj getElem_mem lookup_cons mem_append_left mem_of_getElem? mem_range nodup_cons of_mem_zip replicate_succ set_cons_succ set_cons_zero zip_cons_cons)
open Nat (add_assoc le_of_lt le_succ log2_lt lt_irrefl lt_trans sub_self zero_le)
def xF0:¬(false=true):=Bool.false_ne_true
def t1M{A:Type}{x0 x1:A}{l:List A}:x1∈x0::x1::l:=.tail _ (.head _)
def t2M{A:Type}{x0 x1 x2:A}{l:List A}:x2∈x0::x1::x2::l:=(.tail _ (.tail _ (.head _)))
def t3M{A:Type}{x0 x1 x2 x3:A}{l:List A}:x3∈x0::x1::x2::x3::l:=(.tail _ (.tail _ (.tail _ (.head _))))
def t4M{A:Type}{x0 x1 x2 x3 x4:A}{l:List A}:x4∈x0::x1::x2::x3::x4::l:=(.tail _ (.tail _ (.tail _ (.tail _ (.head _)))))
def t5M{A:Type}{x0 x1 x2 x3 x4 x5:A}{l:List A}:x5∈x0::x1::x2::x3::x4::x5::l:=(.tail _ (.tail _ (.tail _ (.tail _ (.tail _ (.head _))))))
def t6M{A:Type}{x0 x1 x2 x3 x4 x5 x6:A}{l:List A}:x6∈x0::x1::x2::x3::x4::x5::x6::l:=(.tail _ (.tail _ (.tail _ (.tail _ (.tail _ (.tail _ (.head _)))))))
def t7M{A:Type}{x0 x1 x2 x3 x4 x5 x6 x7:A}{l:List A}:x7∈x0::x1::x2::x3::x4::x5::x6::x7::l:=(.tail _ (.tail _ (.tail _ (.tail _ (.tail _ (.tail _ (.tail _ (.head _))))))))
def t8M{A:Type}{x0 x1 x2 x3 x4 x5 x6 x7 x8:A}{l:List A}:x8∈x0::x1::x2::x3::x4::x5::x6::x7::x8::l:=(.tail _ (.tail _ (.tail _ (.tail _ (.tail _ (.tail _ (.tail _ (.tail _ (.head _)))))))))
def t9M{A:Type}{x0 x1 x2 x3 x4 x5 x6 x7 x8 x9:A}{l:List A}:x9∈x0::x1::x2::x3::x4::x5::x6::x7::x8::x9::l:=(.tail _ (.tail _ (.tail _ (.tail _ (.tail _ (.tail _ (.tail _ (.tail _ (.tail _ (.head _))))))))))
def t10M{A:Type}{x0 x1 x2 x3 x4 x5 x6 x7 x8 x9 x10:A}{l:List A}:x10∈x0::x1::x2::x3::x4::x5::x6::x7::x8::x9::x10::l:=(.tail _ (.tail _ (.tail _ (.tail _ (.tail _ (.tail _ (.tail _ (.tail _ (.tail _ (.tail _ (.head _)))))))))))
def t11M{A:Type}{x0 x1 x2 x3 x4 x5 x6 x7 x8 x9 x10 x11:A}{l:List A}:x11∈x0::x1::x2::x3::x4::x5::x6::x7::x8::x9::x10::x11::l:=(.tail _ (.tail _ (.tail _ (.tail _ (.tail _ (.tail _ (.tail _ (.tail _ (.tail _ (.tail _ (.tail _ (.head _))))))))))))
abbrev dF0:=@decide_eq_false
abbrev dT0:=@decide_eq_true
abbrev iP:=@if_pos
abbrev iN0:=@if_neg
abbrev mC:=@List.mem_cons
abbrev lC0:=@List.length_cons
abbrev mO:=@List.mem_cons_of_mem
abbrev lM0:=@List.length_map
abbrev nM:=@List.not_mem_nil
abbrev mS:=@List.mem_singleton
abbrev mF0:=@List.mem_cons_self
abbrev fT:=@Bool.false_eq_true
abbrev sA:=@List.size_toArray
abbrev lS:=@List.length_singleton
abbrev eL:=@Int.emod_lt_of_pos
abbrev eN:=@Int.emod_nonneg
abbrev aE:=@Bool.and_eq_true
abbrev iF:=@if_false
abbrev aN:=@List.append_nil
abbrev lA:=@List.length_append
abbrev gS:=@List.getElem?_eq_some_iff
abbrev gE:=@List.getElem?_eq_getElem
abbrev wB:=@PySem.wpAny_bind
abbrev wP:=@PySem.wpAny_pure
abbrev hP0:=@PySem.Heap.get?_push_of_some
abbrev mM0:=@List.mem_map
abbrev lT:=@List.length_take
abbrev aA:=@List.append_assoc
abbrev VP:=PySem.Value->PySem.Shared->Prop
abbrev Od:=PySem.W.Frag
abbrev Oc:=List PySem.Expr
abbrev Ob:=Option Int
abbrev Oa:=List Bool
abbrev Nk:=List (PySem.Addr×PySem.Obj)
abbrev Ni:=PySem.Str->Option PySem.Value
abbrev Nh:=List PySem.Str
abbrev Ng:=List PySem.Addr
abbrev Nd:=Array PySem.Value
abbrev Nc:=List PySem.Value
abbrev Nb:=List Int
abbrev Na:=List (Int×Int)
abbrev Db:=List Nat
abbrev Ch:=List (List Nat)
namespace L2
open PySem PySem.Spec PyProof.Rows
abbrev Key:=Sum Int Str
def qX:Key->Value->Bool
 |.inl k,v=>Value.isInt k v
 |.inr x,v=>Value.isStrOf x v
def Jr(w:World):Key->Int
 |.inl k=>hashInt k
 |.inr x=>hashStr w x
def yW: ∀{k:Key}{v:Value},qX k v=true->(∃i t,k=Sum.inl i/\v=Value.int i t)\/(∃x t,k=Sum.inr x/\v=Value.str x t)
 |.inl i,v,h=>by obtain⟨t,e⟩:=Value.isInt_shape h;exact .inl ⟨i,t,rfl,e⟩
 |.inr x,v,h=>by obtain⟨t,e⟩:=Value.isStrOf_shape h;exact .inr ⟨x,t,rfl,e⟩
def QH(i:Int)(t:Tok):qX (.inl i) (.int i t)=true:=by simp[qX,Value.isInt]
def QI(x:Str)(t:Tok):qX (.inr x) (.str x t)=true:=by simp[qX,Value.isStrOf]
def Eg(a b:Int):decide ((Sum.inl a:Key)=Sum.inl b)=(a==b):=by
 by_cases e:a=b
 .subst e;simp
 .have h: ¬(Sum.inl a:Key)=Sum.inl b:=λq=>e (Sum.inl.inj q);rw[dF0 h];exact(beq_eq_false_iff_ne.mpr e).symm
def Eh(a b:Str):decide ((Sum.inr a:Key)=Sum.inr b)=decide (a=b):=by
 by_cases e:a=b
 .subst e;simp
 .have h: ¬(Sum.inr a:Key)=Sum.inr b:=λq=>e (Sum.inr.inj q);rw[dF0 h,dF0 e]
def Ei(a:Int)(b:Str):decide ((Sum.inl a:Key)=Sum.inr b)=false:=dF0 (λq=>nomatch q)
def Ej(a:Str)(b:Int):decide ((Sum.inr a:Key)=Sum.inl b)=false:=dF0 (λq=>nomatch q)
def nY(prog:Program)(w:World):PySem.KeyKind prog w Key where
 is:=qX
 hash:=Jr w
 inj:=λv a b ha hb=>by
  rcases yW ha with⟨i,t,rfl,rfl⟩|⟨x,t,rfl,rfl⟩
  .rcases yW hb with⟨j,u,rfl,e⟩|⟨y,u,rfl,e⟩
   .injection e with e1 _;rw[e1]
   .exact nomatch e
  .rcases yW hb with⟨j,u,rfl,e⟩|⟨y,u,rfl,e⟩
   .exact nomatch e
   .injection e with e1 _;rw[e1]
 byValue:=λk v h=>by rcases yW h with⟨i,t,rfl,rfl⟩|⟨x,t,rfl,rfl⟩<;>rfl
 pyHash:=λhv h=>by
  rcases yW hv with⟨i,t,rfl,rfl⟩|⟨x,t,rfl,rfl⟩
  .exact wpAny_pyHash_int h
  .exact wpAny_pyHash_str h
 eqBool:=λhu hv h=>by
  rcases yW hu with⟨i,t,rfl,rfl⟩|⟨x,t,rfl,rfl⟩
  .rcases yW hv with⟨j,u,rfl,rfl⟩|⟨y,u,rfl,rfl⟩
   .rw[Eg]at h;exact wpAny_eqBool_int h
   .rw[Ei]at h;exact SeqAt.EqAt.int_str i t y u _ _ _ _ h
  .rcases yW hv with⟨j,u,rfl,rfl⟩|⟨y,u,rfl,rfl⟩
   .rw[Ej]at h;exact SeqAt.EqAt.str_int x t j u _ _ _ _ h
   .rw[Eh]at h;exact wpAny_eqBool_str h
 «strs»:=λk x t v h=>by
  rcases yW h with⟨i,u,rfl,e⟩|⟨y,u,rfl,e⟩
  .exact nomatch e
  .injection e with e1 _
   subst e1;cases v<;>rfl
def HN(prog:Program)(w:World)(i:Int)(t:Tok):(nY prog w).is (.inl i) (.int i t)=true:=QH i t
def tZ(prog:Program)(w:World)(x:Str)(t:Tok):(nY prog w).is (.inr x) (.str x t)=true:=QI x t
inductive V where
 |non|bl (b:Bool)|int (i:Int)|str (x:Str)|byt (b:Array UInt8)|flt (b:UInt64)|ref (a:Addr)|ty (n:String)
 deriving DecidableEq
def RelV:V->Value->Prop
 |.non,u=>u=Value.none
 |.bl b,u=>u=Value.bool b
 |.int i,u=> ∃t,u=Value.int i t
 |.str x,u=> ∃t,u=Value.str x t
 |.byt b,u=> ∃t,u=Value.bytes b t
 |.flt b,u=> ∃t,u=Value.float b t
 |.ref a,u=>u=Value.ref a
 |.ty n,u=>u=Value.type n
abbrev Vals:List V->List Value->Prop:=Paired RelV
def Vals.length{xs:List V}{us:Nc}(r:Vals xs us):xs.length=us.length:=Paired.length r
theorem Vals.get: ∀{xs:List V}{us:Nc}{i:Nat}{x:V},Vals xs us->xs[i]? =some x-> ∃u,us[i]? =some u/\RelV x u
 |_,_,_,_,.nil,e=>by simp at e
 |_,_,0,_,.cons r _,e=>by simp at e;subst e;exact⟨_,rfl,r⟩
 |_,_,i+1,x,.cons _ t,e=>by obtain⟨u,h1,h2⟩:=Vals.get t (by simpa using e);exact⟨u,by simpa using h1,h2⟩
theorem Vals.set{x:V}{u:Value}(r:RelV x u): ∀{xs:List V}{us:Nc}(i:Nat),Vals xs us->Vals (xs.set i x) (us.set i u)
 |_,_,_,.nil=>.nil
 |_,_,0,.cons _ t=>.cons r t
 |_,_,i+1,.cons q t=>.cons q (Vals.set r i t)
theorem Vals.append: ∀{xs ys:List V}{us ws:Nc},Vals xs us->Vals ys ws->Vals (xs++ys) (us++ws)
 |_,_,_,_,.nil,s=>s
 |_,_,_,_,.cons r t,s=>.cons r (Vals.append t s)
theorem Vals.take: ∀{xs:List V}{us:Nc}(n:Nat),Vals xs us->Vals (xs.take n) (us.take n)
 |_,_,0,_=>.nil
 |_,_,_+1,.nil=>.nil
 |_,_,n+1,.cons r t=>.cons r (Vals.take n t)
theorem Vals.drop: ∀{xs:List V}{us:Nc}(n:Nat),Vals xs us->Vals (xs.drop n) (us.drop n)
 |_,_,0,r=>r
 |_,_,_+1,.nil=>.nil
 |_,_,n+1,.cons _ t=>Vals.drop n t
def RelO:Option V->Option Value->Prop
 |some v,some u=>RelV v u
 |none,none=>True
 |_,_=>False
def KV{κ:Type}:List (κ×V)->List (κ×Value)->Prop:=Paired λ(p:κ×V) (q:κ×Value)=>p.1=q.1/\RelV p.2 q.2
def kV:Key->V
 |.inl i=>.int i
 |.inr x=>.str x
inductive HO where
 |lst (xs:List V)
 |tup (xs:List V)
 |dK (kvs:List (Key×V))|dT (kvs:List (List Key×V))
 |set (S:Int->Bool) (n:Nat)
 |ins (C dx:Addr) (fs:List (Str×V))
 |own (x:Addr)
 |xd (fs:List (Str×V))
 |met (f x:Addr)
 |rng (lo hi:Int)
 |frz (o:Obj) (u:HO)
 |tbl (ps:Nd)
 |ext (φ:Heap->Prop)
abbrev Hp:=Addr->Option HO
def xT(H:Hp)(a:Addr)(o:HO):Hp:=λb=>if b=a then some o else H b
def zQ{H:Hp}{a:Addr}{o:HO}:xT H a o a=some o:=by unfold xT;rw[iP rfl]
def zI{H:Hp}{a b:Addr}{o:HO}(h:b≠a):xT H a o b=H b:=by unfold xT;rw[iN0 h]
def zS{H:Hp}{a b:Addr}{o:HO}(h:H a=some o)(h':H b=none):a≠b:=by intro e;subst e;rw[h]at h';cases h'
section
variable(P:Program)(w:World)
def ObjOk(H:Hp)(h:Heap)(a:Addr):HO->Prop
 |.lst xs=>xs.length<=sizeLine/\ ∃(its:Nc)(n:Nat),Vals xs its/\h.get? a=some {cls:=.type "list",data:=.seq its.toArray n}
 |.tup xs=>xs.length<=sizeLine/\ ∃its:List Value,Vals xs its/\IsTup h a its.toArray
 |.dK kvs=>kvs.length<=sizeLine/\(a==sysModules)=false/\ ∃vs,KV kvs vs/\h.DictOf (nY P w) a vs
 |.dT kvs=>kvs.length<=sizeLine/\(a==sysModules)=false/\ ∃xs:List (List Key×Addr×Value),
   Paired (λ(p:List Key×V) (q:List Key×Addr×Value)=>p.1=q.1/\H q.2.1=some (.tup (p.1.map kV))/\RelV p.2 q.2.2) kvs xs/\
   ∃o es ep,h.get? a=some o/\o.ExactDict/\o.data=.dict es ep/\es.toList=xs.map (entryOfKey (tupleKind (nY P w)))/\(xs.map (·.1)).Nodup
 |.set S n=>h.SetOf (intKind P w) a S n
 |.ins C dx fs=>H dx=some (.own a)/\fs.length<=1000/\dx≠a/\h.get? a=some (PySem.W.instObj C dx)/\
   ∃mA,h.Ns1 dx mA/\(∀f,RelO (fs.lookup f) (mA f))/\PySem.Within mA (fs.map (·.1))
 |.own _=> ∃o,h.get? a=some o
 |.xd fs=> ∃mA,h.Ns1 a mA/\ ∀f,RelO (fs.lookup f) (mA f)
 |.rng lo hi=> ∃t u v,h.get? a=some {cls:=.type "range",data:=.fields #[.int lo t,.int hi u,.int 1 v]}
 |.frz o u=>h.get? a=some o/\ObjOk H h a u
 |.tbl ps=>h.get? a=some {cls:=.none,data:=.fields ps}
 |.met f x=>h.get? a=some (PySem.W.methodObj (.ref f) (.ref x))
 |.ext φ=>φ h/\(∃o,h.get? a=some o)/\ ∀h1 h2:Heap,φ h1->(∀o,h1.get? a=some o->h2.get? a=some o)->φ h2
def HOk(H:Hp)(h:Heap):Prop:= ∀a o,H a=some o->ObjOk P w H h a o
end
section
variable{P:Program}{w:World}{H H':Hp}{h h':Heap}{a:Addr}{o:HO}
def ObjOk.lt(x:ObjOk P w H h a o):a<h.objs.size:=by
 cases o with
 |lst xs=>obtain⟨_,_,_,_,e⟩:=x;exact Heap.lt_size e
 |tup xs=>obtain⟨_,_,_,p⟩:=x;exact p.lt
 |dK kvs=>obtain⟨_,_,_,_,o,_,_,e,_⟩:=x;exact Heap.lt_size e
 |dT kvs=>obtain⟨_,_,_,_,o,_,_,e,_⟩:=x;exact Heap.lt_size e
 |set S n=>obtain⟨o,_,_,_,e,_⟩:=x;exact Heap.lt_size e
 |ins C dx fs=>obtain⟨_,_,_,e,_⟩:=x;exact Heap.lt_size e
 |own y=>obtain⟨_,e⟩:=x;exact Heap.lt_size e
 |xd fs=>obtain⟨_,⟨_,_,_,e,_⟩,_⟩:=x;exact Heap.lt_size e
 |rng lo hi=>obtain⟨_,_,_,e⟩:=x;exact Heap.lt_size e
 |frz ob u=>obtain⟨e,_⟩:=x;exact Heap.lt_size e
 |tbl ps=>exact Heap.lt_size x
 |met f y=>exact Heap.lt_size x
 |ext φ=>obtain⟨_,⟨_,e⟩,_⟩:=x;exact Heap.lt_size e
theorem Paired.mapP{α β:Type}{F G:α->β->Prop}: ∀{l₁:List α}{l₂:List β},Paired F l₁ l₂->(∀a b,F a b->G a b)->Paired G l₁ l₂
 |_,_,.nil,_=>.nil
 |_,_,.cons r t,f=>.cons (f _ _ r) (Paired.mapP t f)
def ObjOk.stay(x:ObjOk P w H h a o)(k: ∀b u,(b=a\/H b=some (.own a))->h.get? b=some u->h'.get? b=some u)
  (ho: ∀b,H b=some (.own a)->H' b=some (.own a)) (ht: ∀b xs,H b=some (.tup xs)->H' b=some (.tup xs)):ObjOk P w H' h' a o:=by
 induction o with
 |lst xs=>obtain⟨z,its,n,r,e⟩:=x;exact⟨z,its,n,r,k _ _ (.inl rfl) e⟩
 |tup xs=>obtain⟨z,its,r,ob,e,c⟩:=x;exact⟨z,its,r,ob,k _ _ (.inl rfl) e,c⟩
 |dK kvs=>obtain⟨z,y,vs,r,ob,es,ep,e,c⟩:=x;exact⟨z,y,vs,r,ob,es,ep,k _ _ (.inl rfl) e,c⟩
 |dT kvs=>
  obtain⟨z,y,xs,r,ob,es,ep,e,c⟩:=x;exact⟨z,y,xs,Paired.mapP r λp q z=>⟨z.1,ht _ _ z.2.1,z.2.2⟩,ob,es,ep,k _ _ (.inl rfl) e,c⟩
 |set S n=>obtain⟨ob,es,ep,t,e,c⟩:=x;exact⟨ob,es,ep,t,k _ _ (.inl rfl) e,c⟩
 |ins C dx fs=>
  obtain⟨d,z,ne,e,mA,⟨od,es,ep,e2,c⟩,r⟩:=x;exact⟨ho _ d,z,ne,k _ _ (.inl rfl) e,mA,⟨od,es,ep,k _ _ (.inr d) e2,c⟩,r⟩
 |own y=>obtain⟨ob,e⟩:=x;exact⟨ob,k _ _ (.inl rfl) e⟩
 |xd fs=>obtain⟨mA,⟨od,es,ep,e,c⟩,r⟩:=x;exact⟨mA,⟨od,es,ep,k _ _ (.inl rfl) e,c⟩,r⟩
 |rng lo hi=>obtain⟨t,u,v,e⟩:=x;exact⟨t,u,v,k _ _ (.inl rfl) e⟩
 |frz ob u ih=>obtain⟨e,q⟩:=x;exact⟨k _ _ (.inl rfl) e,ih q⟩
 |tbl ps=>
  have e:=x;exact k a _ (.inl rfl) e
 |met f y=>
  have e:h.get? a=some _:=x;show h'.get? a=some _;exact k a _ (.inl rfl) e
 |ext φ=>obtain⟨p,⟨o,e⟩,st⟩:=x;exact⟨st _ _ p λo q=>k _ _ (.inl rfl) q,⟨o,k _ _ (.inl rfl) e⟩,st⟩
def HOk.lt(x:HOk P w H h)(e:H a=some o):a<h.objs.size:=(x a o e).lt
def HOk.fresh(x:HOk P w H h)(e:h.objs.size<=a):H a=none:=by
 cases q:H a with
 |none=>rfl
 |some u=>exact absurd (Nat.lt_of_lt_of_le (x.lt q) e) (lt_irrefl _)
def HOk.kept(x:HOk P w H h)(k: ∀b u,h.get? b=some u->h'.get? b=some u):HOk P w H h':=λa o e=>
 (x a o e).stay (λb u _ q=>k b u q) (λ_ q=>q) λ_ _ q=>q
def HOk.laid(x:HOk P w H h)(k: ∀b u,h.get? b=some u->h'.get? b=some u)(hp:h.objs.size<=a)(new:ObjOk P w (xT H a o) h' a o):HOk P w (xT H a o) h':=λb u e=>by
 have hn:=x.fresh hp;by_cases hb:b=a
 .subst hb;rw[zQ]at e;cases e;exact new
 .rw[zI hb]at e;exact(x b u e).stay (λc v _ q=>k c v q) (λc q=>by rw[zI (zS q hn)];exact q) λc xs q=>by rw[zI (zS q hn)];exact q
end
def Rd(H:Hp)(a:Addr)(u:HO):Prop:=H a=some u\/ ∃o,H a=some (.frz o u)
def Rd.ok{P:Program}{w:World}{H:Hp}{h:Heap}{a:Addr}{u:HO}(r:Rd H a u)(x:HOk P w H h):ObjOk P w H h a u:=by
 rcases r with r|⟨o,r⟩
 .exact x a u r
 .obtain⟨_,q⟩:=x a _ r;exact q
def Js:Option HO->Prop
 |some (.lst _)=>True
 |some (.dK _)=>True
 |some (.dT _)=>True
 |some (.set _ _)=>True
 |some (.ins _ _ _)=>True
 |some (.ext _)=>True
 |_=>False
section
variable{P:Program}{w:World}{H:Hp}{h h':Heap}{x e:Addr}{o':HO}
theorem HOk.write(ok:HOk P w H h)(mu:Js (H x))(he:e=x\/H e=some (.own x))(k: ∀b u,b≠e->h.get? b=some u->h'.get? b=some u)(heo: ∃u,h'.get? e=some u)
  (new:ObjOk P w (xT H x o') h' x o'):HOk P w (xT H x o') h':=λb u q=>by
 have nown: ∀c y,H c=some (.own y)->c≠x:=λc y r z=>by subst z;rw[r]at mu;exact mu
 have ntup: ∀c xs,H c=some (.tup xs)->c≠x:=λc xs r z=>by subst z;rw[r]at mu;exact mu
 by_cases hb:b=x
 .subst hb;rw[zQ]at q;cases q;exact new
 .rw[zI hb]at q;by_cases hbe:b=e
  .have q':H b=some (.own x):=by
    rcases he with z|z
    .exact absurd (hbe.trans z) hb
    .rw[hbe];exact z
   rw[q]at q';cases q';obtain⟨v,hv⟩:=heo;exact⟨v,by rw[hbe];exact hv⟩
  .refine(ok b u q).stay (λc v hc r=>k c v ?_ r) (λc r=>by rw[zI (nown c b r)];exact r) λc xs r=>by rw[zI (ntup c xs r)];exact r
   rcases hc with rfl|hc
   .exact hbe
   .rintro rfl;rcases he with z|z
    .exact nown c b hc z
    .rw[hc]at z;cases z;exact hb rfl
end
structure Un(fs ex:Ng)(H H':Hp)(h h':Heap):Prop where
 keep: ∀b o,h.get? b=some o->H b=none->b∉fs->b∉ex->h'.get? b=some o
 slot: ∀b o,h.get? b=some o->H b=none->b∈fs->b∉ex-> ∃sl,h'.get? b=some {o with slots:=sl}
 free: ∀b o,h.get? b=some o->H b=none->b∉ex->H' b=none
 there: ∀b o,h.get? b=some o->b∉ex-> ∃o',h'.get? b=some o'
 tups: ∀b xs,H b=some (.tup xs)->H' b=some (.tup xs)
 frzs: ∀b o u,H b=some (.frz o u)->H' b=some (.frz o u)
 tbls: ∀b ps,H b=some (.tbl ps)-> ∃more,H' b=some (.tbl (ps++more))
section
variable{fs ex:Ng}{H H1:Hp}{h h1 h':Heap}{a x e:Addr}{o:HO}
def Un.any(u:Un fs ex H H1 h h1){b:Addr}{ob:Obj}(q:h.get? b=some ob)(n:H b=none)(hx:b∉ex): ∃sl,h1.get? b=some {ob with slots:=sl}:=by
 by_cases hb:b∈fs
 .exact u.slot b ob q n hb hx
 .exact⟨_,u.keep b ob q n hb hx⟩
def Un.kept(k: ∀b u,h.get? b=some u->h'.get? b=some u):Un fs ex H H h h':=
 ⟨λb ob q _ _ _=>k b ob q,λb ob q _ _ _=>⟨_,k b ob q⟩,λ_ _ _ n _=>n,λb ob q _=>⟨ob,k b ob q⟩,λ_ _ q=>q,λ_ _ _ q=>q,λ_ ps q=>⟨#[],by rw[q];simp⟩⟩
def Un.refl:Un fs ex H H h h:=Un.kept λ_ _ q=>q
def Un.laid(k: ∀b u,h.get? b=some u->h'.get? b=some u)(hp:h.objs.size<=a)(hn:H a=none):Un fs ex H (xT H a o) h h' where
 keep:=λb u q _ _ _=>k b u q
 slot:=λb u q _ _ _=>⟨_,k b u q⟩
 free:=λb u q n _=>by rw[zI (Nat.ne_of_lt (Nat.lt_of_lt_of_le (Heap.lt_size q) hp))];exact n
 there:=λb u q _=>⟨u,k b u q⟩
 tups:=λb xs q=>by rw[zI (zS q hn)];exact q
 frzs:=λb u xs q=>by rw[zI (zS q hn)];exact q
 tbls:=λb ps q=>⟨#[],by rw[zI (zS q hn),q];simp⟩
def Un.write(mu:Js (H x))(he:e=x\/H e=some (.own x))(k: ∀b u,b≠e->h.get? b=some u->h'.get? b=some u)(heo: ∃u,h'.get? e=some u):Un fs ex H (xT H x o) h h':=by
 have hx: ∀b,H b=none->b≠x:=λb n z=>by subst z;rw[n]at mu;exact mu
 have hb: ∀b,H b=none->b≠e:=λb n z=>by
  subst z;rcases he with r|r
  .exact hx b n r
  .rw[n]at r;cases r
 have hm: ∀b u,H b=some u-> ¬Js (some u)->b≠x:=λb u q nm z=>by subst z;rw[q]at mu;exact nm mu
 refine⟨λb u q n _ _=>k b u (hb b n) q,λb u q n _ _=>⟨_,k b u (hb b n) q⟩,λb u q n _=>by rw[zI (hx b n)];exact n,λb u q _=>?_,
  λb xs q=>by rw[zI (hm b _ q λz=>z)];exact q,λb u xs q=>by rw[zI (hm b _ q λz=>z)];exact q,λb ps q=>⟨#[],by rw[zI (hm b _ q λz=>z),q];simp⟩⟩
 by_cases hbe:b=e
 .subst hbe;exact heo
 .exact⟨u,k b u hbe q⟩
end
def trk(h:Heap)(H:Hp):List Addr:=(List.range h.objs.size).filter λa=>(H a).isSome
def QJ(h:Heap)(H:Hp):Heap:=PySem.W.hideAll h (trk h H)
def QK(h:Heap)(H:Hp):(QJ h H).objs.size=h.objs.size:=PySem.W.hideAll_size _ _
def TD{h:Heap}{H:Hp}{b:Addr}{o:Obj}(e:h.get? b=some o)(n:H b=none):(QJ h H).get? b=some o:=
 PySem.W.hideAll_get _ e λhm=>by have q:=(List.mem_filter.mp hm).2;rw[n]at q;simp at q
def ZD{h:Heap}{H:Hp}{b:Addr}{o:Obj}(e:(QJ h H).get? b=some o):h.get? b=some o/\H b=none:=by
 have e':=PySem.W.of_hideAll _ e;refine⟨e',?_⟩
 cases q:H b with
 |none=>rfl
 |some x=>
  have hm:b∈trk h H:=List.mem_filter.mpr ⟨mem_range.mpr (Heap.lt_size e'),by simp[q]⟩;have z:(QJ h H).get? b=none:=PySem.W.hideAll_none _ hm;rw[z]at e;cases e
def ZE(g h:Heap)(L:Addr):List (Addr×Obj):=(List.range h.objs.size).filterMap λa=>if a=L\/(g.get? a).isSome=true then none else(h.get? a).map λo=>(a,o)
def rest(g h:Heap)(L d:Addr):List (Addr×Obj):=(ZE g h L).filter λp=>decide (p.1≠d)
structure Mod(K:Od)(mg:Ni)(base:Heap):Prop where
 kin:K.In base
 glob:base.Ns mainGlobals mg
 blt: ∃mb,base.Ns builtinsNs mb/\ ∀x:Str,x≠"__name__"->mb x=bootBuiltins x
 nolimit:base.NoLimit
structure Cx where
 prog:Program
 w:World
 K:PySem.W.Frag
 mg:Str->Option Value
 base:Heap
 A:Around
 N:List Str
 s₀:Shared
 H₀:Hp
 env:Env
 outer:List Env
 stack:List Env
 ex:List Addr
 fn:Str->Bool
 calm:Bool
 pn:List (Addr×Obj)
 xe:VP
def vK(l:List Env):List Addr:=l.filterMap (·.frame)
abbrev Cx.fs(X:Cx):List Addr:=vK X.outer
def ZF(sc:Scope)(x:Str):Prop:=sc.names.lookup x=some .local\/sc.names.lookup x=some .cell\/sc.names.lookup x=some .free
def Loc(sc:Scope)(x:Str):Prop:=sc.names.lookup x=some .local\/sc.names.lookup x=some .cell
def Look(env:Env)(h:Heap)(m:Ni)(x:Str)(u:Value):Prop:=
 (env.kindOf x=some .local/\m x=some u)\/((env.kindOf x=some .cell\/env.kindOf x=some .free)/\ ∃c,env.cells.lookup x=some c/\h.IsCell c (some u))
structure Cx.Ok(X:Cx):Prop where
 mod:Mod X.K X.mg X.base
 kind:X.env.scope.kind=.function
 glob:X.env.globals=mainGlobals
 blt:X.env.builtins=builtinsNs
 above:X.s₀.heap.objs.size<=X.env.locals
 inj: ∀x y c,X.env.cells.lookup x=some c->X.env.cells.lookup y=some c->x=y
 has: ∀x,(X.env.kindOf x=some .cell\/X.env.kindOf x=some .free)-> ∃c,X.env.cells.lookup x=some c
 cab: ∀x c,X.fn x=true->X.env.cells.lookup x=some c->X.s₀.heap.objs.size<=c
 hd:X.calm=true->X.A.handled=none
 frames:X.A.frames=some X.stack
 stk:X.stack=X.outer\/(X.stack=X.env::X.outer/\X.env.frame=some X.env.locals)
 exf: ∀b∈X.ex,b≠X.env.locals/\ ∀x c,X.env.cells.lookup x=some c->c≠b
 bs: ∀b o,X.base.get? b=some o->X.s₀.heap.get? b=some o/\X.H₀ b=none
 bsz:X.base.objs.size<=X.s₀.heap.objs.size
 noex: ∀b o,X.base.get? b=some o->b∉X.ex
 exfs: ∀b∈X.ex,b∉X.fs
 funs:X.s₀.heap.FunFrames X.base X.outer
 frf: ∀b∈X.fs,X.H₀ b=none
structure Inv(X:Cx)(pins:Nk)(σ:List (Option V))(H:Hp)(s:Shared):Prop where
 ok:X.Ok
 os:s.os=X.s₀.os
 bare:AllBare s.gens
 base:Un X.fs X.ex X.H₀ H X.s₀.heap s.heap
 loc: ∃m,s.heap.Ns X.env.locals m/\ ∀(i:Nat)(x:Str)(v:V),X.N[i]? =some x->σ[i]? =some (some v)->ZF X.env.scope x-> ∃u,RelV v u/\Look X.env s.heap m x u
 cell: ∀x c,X.env.cells.lookup x=some c-> ∃v,s.heap.IsCell c v
 free:H X.env.locals=none
 freeC: ∀x c,X.env.cells.lookup x=some c->H c=none
 pin: ∀p∈X.pn++pins,s.heap.get? p.1=some p.2/\H p.1=none/\p.1≠X.env.locals/\p.1∉X.fs/\ ∀v,p.2.data≠.cell v
 hok:HOk X.prog X.w H s.heap
 len:σ.length=X.N.length
section
variable{X:Cx}{pins:Nk}{σ:List (Option V)}{H H':Hp}{s:Shared}{h':Heap}
def Cx.Ok.nofr(ok:X.Ok){b:Addr}{o:Obj}(e:X.base.get? b=some o):b∉X.fs:=λhb=>by have:=(ok.funs.mem hb).1;rw[e]at this;cases this
def Inv.bs(I:Inv X pins σ H s): ∀b o,X.base.get? b=some o->s.heap.get? b=some o/\H b=none:=λb o e=>
 ⟨I.base.keep b o (I.ok.bs b o e).1 (I.ok.bs b o e).2 (I.ok.nofr e) (I.ok.noex b o e),I.base.free b o (I.ok.bs b o e).1 (I.ok.bs b o e).2 (I.ok.noex b o e)⟩
def Inv.bk(I:Inv X pins σ H s): ∀b o,X.base.get? b=some o->s.heap.get? b=some o:=λb o e=>(I.bs b o e).1
def Inv.mod(I:Inv X pins σ H s):Mod X.K X.mg X.base:=I.ok.mod
def Inv.kIn(I:Inv X pins σ H s):X.K.In s.heap:=I.ok.mod.kin.keeps I.bk
def Inv.lt(I:Inv X pins σ H s):X.env.locals<s.heap.objs.size:=let ⟨_,hn,_⟩:=I.loc;hn.lt
def Inv.sz(I:Inv X pins σ H s):X.s₀.heap.objs.size<=s.heap.objs.size:=Nat.le_trans I.ok.above (le_of_lt I.lt)
def Inv.nofs(I:Inv X pins σ H s){a:Addr}(h:s.heap.objs.size<=a):a∉X.fs:=λhb=>by obtain⟨_,o,ho,_⟩:=I.ok.funs.mem hb;exact absurd (Nat.lt_of_lt_of_le (Heap.lt_size ho) (Nat.le_trans I.sz h)) (lt_irrefl _)
def Inv.cne(I:Inv X pins σ H s): ∀x c,X.env.cells.lookup x=some c->c≠X.env.locals:=λx c e z=>by obtain⟨v,o,ho,hd⟩:=I.cell x c e;obtain⟨m,⟨o',es,ep,ho',hd',_⟩,_⟩:=I.loc;rw[z,ho']at ho;cases ho;rw[hd']at hd;cases hd
def Inv.funs(I:Inv X pins σ H s):s.heap.FunFrames X.base X.outer:=by
 have all: ∀(l:List Env),(∀b∈vK l,b∈X.fs)->X.s₀.heap.FunFrames X.base l->s.heap.FunFrames X.base l:=by
  intro l
  induction l with
  |nil=>intro _ _;trivial
  |cons env r ih=>
   intro hs hl;obtain⟨hk,⟨L,o,hf,hn,ho,hd⟩,hr⟩:=hl;have hL:=hs L (by unfold vK;rw[List.filterMap_cons,hf];exact mF0);obtain⟨sl,e⟩:=I.base.slot L o ho (I.ok.frf L hL) hL λz=>I.ok.exfs L z hL;exact⟨hk,⟨L,_,hf,hn,e,hd⟩,ih (λb hb=>hs b (by unfold vK;rw[List.filterMap_cons,hf];exact mO _ hb)) hr⟩
 exact all X.outer (λ_ hb=>hb) I.ok.funs
def Inv.stack(I:Inv X pins σ H s):s.heap.FunFrames X.base X.stack:=by
 rcases I.ok.stk with e|⟨e,hf⟩
 .rw[e];exact I.funs
 .rw[e];obtain⟨m,hn,_⟩:=I.loc;refine .cons (by rw[I.ok.kind];decide) hf hn ?_ I.funs;exact Heap.get?_none_of_le (Nat.le_trans I.ok.bsz I.ok.above)
def Inv.stkSub(I:Inv X pins σ H s): ∀b∈vK X.stack,b∈X.env.locals::X.fs:=λb hb=>by
 rcases I.ok.stk with e|⟨e,hf⟩
 .rw[e]at hb;exact mO _ hb
 .rw[e]at hb;unfold vK at hb;rw[List.filterMap_cons,hf]at hb;exact hb
def Inv.stkFree(I:Inv X pins σ H s): ∀b∈vK X.stack,H b=none:=λb hb=>by
 rcases mC.mp (I.stkSub b hb)with e|hb
 .rw[e];exact I.free
 .obtain⟨_,o,ho,_⟩:=I.ok.funs.mem hb;exact I.base.free b o ho (I.ok.frf b hb) λz=>I.ok.exfs b z hb
def Inv.step{g':Array GenState}{t':Nat}{d':Drawn}{ch:Ng}(I:Inv X pins σ H s)
  (hch: ∀b∈ch,(b∈X.ex\/X.s₀.heap.objs.size<=b)/\b≠X.env.locals/\(∀x c,X.env.cells.lookup x=some c->c≠b)/\ ∀p∈X.pn++pins,p.1≠b)
  (keep: ∀b o,b≠X.env.locals->b∉X.fs->b∉ch->s.heap.get? b=some o->H b=none->h'.get? b=some o)
  (slot: ∀b o,b≠X.env.locals->b∈X.fs->b∉ch->s.heap.get? b=some o->H b=none-> ∃sl,h'.get? b=some {o with slots:=sl}) (free: ∀b o,b∉ch->s.heap.get? b=some o->H b=none->H' b=none)
  (there: ∀b o,b∉ch->s.heap.get? b=some o-> ∃o',h'.get? b=some o')
  (tups: ∀b xs,H b=some (.tup xs)->H' b=some (.tup xs)) (frzs: ∀b o u,H b=some (.frz o u)->H' b=some (.frz o u)) (tbls: ∀b ps,H b=some (.tbl ps)-> ∃more,H' b=some (.tbl (ps++more)))
  (ns: ∀m,s.heap.Ns X.env.locals m->h'.Ns X.env.locals m) (hok:HOk X.prog X.w H' h') (hg:AllBare g'):
  Inv X pins σ H' {s with heap:=h',gens:=g',drawn:=d',toks:=t'}:=by
 have neL: ∀b o,X.s₀.heap.get? b=some o->b≠X.env.locals:=λb o e=>Nat.ne_of_lt (Nat.lt_of_lt_of_le (Heap.lt_size e) I.ok.above)
 have neC: ∀b o,X.s₀.heap.get? b=some o->b∉X.ex->b∉ch:=λb o e hx hb=>by
  rcases (hch b hb).1 with z|z
  .exact hx z
  .exact absurd (Nat.lt_of_lt_of_le (Heap.lt_size e) z) (lt_irrefl _)
 have cellK: ∀x c,X.env.cells.lookup x=some c-> ∀v,s.heap.IsCell c v->h'.IsCell c v:=λx c e v ⟨o,ho,hd⟩=>by
  have nch:=λz=>(hch c z).2.2.1 x c e rfl;by_cases hc:c∈X.fs
  .obtain⟨sl,q⟩:=slot c o (I.cne x c e) hc nch ho (I.freeC x c e);exact⟨_,q,hd⟩
  .exact⟨o,keep c o (I.cne x c e) hc nch ho (I.freeC x c e),hd⟩
 refine⟨I.ok,I.os,hg,⟨λb o e n hb hx=>?_,λb o e n hb hx=>?_,λb o e n hx=>?_,λb o e hx=>?_,λb xs e=>tups b xs (I.base.tups b xs e),λb o xs e=>frzs b o xs (I.base.frzs b o xs e),λb ps e=>?_⟩,?_,λx c e=>?_,?_,λx c e=>?_,λp hp=>?_,hok,I.len⟩
 .exact keep b o (neL b o e) hb (neC b o e hx) (I.base.keep b o e n hb hx) (I.base.free b o e n hx)
 .obtain⟨sl,e1⟩:=I.base.slot b o e n hb hx;obtain⟨sl',e2⟩:=slot b _ (neL b o e) hb (neC b o e hx) e1 (I.base.free b o e n hx);exact⟨sl',e2⟩
 .obtain⟨o',e1⟩:=I.base.there b o e hx;exact free b o' (neC b o e hx) e1 (I.base.free b o e n hx)
 .obtain⟨o',e1⟩:=I.base.there b o e hx;exact there b o' (neC b o e hx) e1
 .obtain⟨m1,e1⟩:=I.base.tbls b ps e;obtain⟨m2,e2⟩:=tbls b _ e1;exact⟨_,by rw[e2,Array.append_assoc]⟩
 .obtain⟨m,hn,hl⟩:=I.loc;refine⟨m,ns m hn,λi x v e1 e2 e3=>?_⟩;obtain⟨u,r,l⟩:=hl i x v e1 e2 e3;refine⟨u,r,?_⟩;rcases l with l|⟨k,c,e,z⟩
  .exact .inl l
  .exact .inr ⟨k,c,e,cellK x c e _ z⟩
 .obtain⟨v,z⟩:=I.cell x c e;exact⟨v,cellK x c e v z⟩
 .obtain⟨m,⟨o,_,_,ho,_⟩,_⟩:=I.loc;exact free _ o (λz=>(hch _ z).2.1 rfl) ho I.free
 .obtain⟨v,o,ho,hd⟩:=I.cell x c e;exact free c o (λz=>(hch c z).2.2.1 x c e rfl) ho (I.freeC x c e)
 .obtain⟨e,n,ne,nf,d⟩:=I.pin p hp;have nch:=λz=>(hch p.1 z).2.2.2 p hp rfl;exact⟨keep p.1 p.2 ne nf nch e n,free p.1 p.2 nch e n,ne,nf,d⟩
def Inv.un{t':Nat}(I:Inv X pins σ H s)(u:Un X.fs [] H H' s.heap h')(hok:HOk X.prog X.w H' h'):Inv X pins σ H' {s with heap:=h',toks:=t'}:=by obtain⟨m,⟨o,es,ep,ho,r⟩,_⟩:=id I.loc;obtain⟨sl,hL⟩:=u.any ho I.free (by simp);exact I.step (ch:=[]) (λ_ z=>nomatch z) (λb o _ hb _ e n=>u.keep b o e n hb (by simp)) (λb o _ hb _ e n=>u.slot b o e n hb (by simp)) (λb o _ e n=>u.free b o e n (by simp)) (λb o _ e=>u.there b o e (by simp)) u.tups u.frzs u.tbls (λm' hm=>by obtain⟨o',es',ep',ho',r'⟩:=hm;rw[ho]at ho';cases ho';exact⟨_,es',ep',hL,r'⟩) hok I.bare
def Inv.call{g':Array GenState}{t':Nat}{d':Drawn}{ch:Ng}(I:Inv X pins σ H s)(u:Un (vK X.stack) ch H H' s.heap h')(hok:HOk X.prog X.w H' h')(hg:AllBare g')
  (hch: ∀b∈ch,(b∈X.ex\/X.s₀.heap.objs.size<=b)/\b≠X.env.locals/\(∀x c,X.env.cells.lookup x=some c->c≠b)/\ ∀p∈X.pn++pins,p.1≠b):
  Inv X pins σ H' {s with heap:=h',gens:=g',drawn:=d',toks:=t'}:=by
 obtain⟨m,⟨o,es,ep,ho,r⟩,_⟩:=id I.loc;obtain⟨sl,hL⟩:=u.any ho I.free λz=>(hch _ z).2.1 rfl;exact I.step hch (λb o hL hb hc e n=>u.keep b o e n (λz=>(mC.mp (I.stkSub b z)).elim hL hb) hc) (λb o _ _ hc e n=>u.any e n hc) (λb o hc e n=>u.free b o e n hc) (λb o hc e=>u.there b o e hc) u.tups u.frzs u.tbls (λm' hm=>by obtain⟨o',es',ep',ho',r'⟩:=hm;rw[ho]at ho';cases ho';exact⟨_,es',ep',hL,r'⟩) hok hg
def Inv.turned{t':Nat}{it:Addr}(I:Inv X pins σ H s)(k: ∀b o,b≠it->s.heap.get? b=some o->h'.get? b=some o)(hn:H it=none)(hL:it≠X.env.locals)
  (h1:it∈X.ex\/X.s₀.heap.objs.size<=it) (h2: ∀x c,X.env.cells.lookup x=some c->c≠it) (h3: ∀p∈X.pn++pins,p.1≠it):Inv X pins σ H {s with heap:=h',toks:=t'}:=by
 have nit: ∀b u,H b=some u->b≠it:=λb u e z=>by rw[z,hn]at e;cases e
 refine I.step (ch:=[it]) (λb hb=>?_) (λb o _ _ hc e _=>k b o (λz=>hc (by simp[z])) e) (λb o _ _ hc e _=>⟨_,k b o (λz=>hc (by simp[z])) e⟩) (λ_ _ _ _ n=>n)
  (λb o hc e=>⟨o,k b o (λz=>hc (by simp[z])) e⟩) (λ_ _ e=>e) (λ_ _ _ e=>e) (λb ps e=>⟨#[],by rw[e];simp⟩) (λm hm=>?_) (λb u e=>?_) I.bare
 .have e:=by simpa using hb
  subst e;exact⟨h1,hL,h2,h3⟩
 .obtain⟨o,es,ep,ho,r⟩:=hm;exact⟨o,es,ep,k _ o (Ne.symm hL) ho,r⟩
 .refine(I.hok b u e).stay (λc v hc q=>k c v ?_ q) (λ_ q=>q) λ_ _ q=>q;rcases hc with z|z
  .rw[z];exact nit b u e
  .exact nit c _ z
def Inv.tok(I:Inv X pins σ H s)(t:Nat):Inv X pins σ H {s with toks:=t}:=I.un Un.refl I.hok
def Inv.kept{t':Nat}(I:Inv X pins σ H s)(k: ∀b u,s.heap.get? b=some u->h'.get? b=some u):Inv X pins σ H {s with heap:=h',toks:=t'}:=I.un (Un.kept k) (I.hok.kept k)
def Inv.laid{a:Addr}{o:HO}{t':Nat}(I:Inv X pins σ H s)(k: ∀b u,s.heap.get? b=some u->h'.get? b=some u)(hp:s.heap.objs.size<=a)(new:ObjOk X.prog X.w (xT H a o) h' a o):
  Inv X pins σ (xT H a o) {s with heap:=h',toks:=t'}:=I.un (Un.laid k hp (I.hok.fresh hp)) (I.hok.laid k hp new)
def Inv.write{x e:Addr}{o:HO}{t':Nat}(I:Inv X pins σ H s)(mu:Js (H x))(he:e=x\/H e=some (.own x))(k: ∀b u,b≠e->s.heap.get? b=some u->h'.get? b=some u)(heo: ∃u,h'.get? e=some u)
  (new:ObjOk X.prog X.w (xT H x o) h' x o):Inv X pins σ (xT H x o) {s with heap:=h',toks:=t'}:=I.un (Un.write mu he k heo) (I.hok.write mu he k heo new)
def Inv.pins_of{pins':Nk}(I:Inv X pins σ H s)(h: ∀p∈pins',s.heap.get? p.1=some p.2/\H p.1=none/\p.1≠X.env.locals/\p.1∉X.fs/\ ∀v,p.2.data≠.cell v):Inv X pins' σ H s:=
 ⟨I.ok,I.os,I.bare,I.base,I.loc,I.cell,I.free,I.freeC,λp hp=>(List.mem_append.mp hp).elim (λz=>I.pin p (mem_append_left _ z)) (h p),I.hok,I.len⟩
def vL{N:Nh}(hN:N.Nodup){i j:Nat}{x:Str}(a:N[i]? =some x)(b:N[j]? =some x):i=j:=by obtain⟨h1,e1⟩:=gS.mp a;obtain⟨h2,e2⟩:=gS.mp b;exact(getElem_inj hN).mp (e1.trans e2.symm)
def DH{M:Model}{A:Around}{E:VP}{i:Nat}{x:Str}{v:V}{u:Value}{Q:Unit->Shared->Prop}(I:Inv X pins σ H s)(hN:X.N.Nodup)(hi:X.N[i]? =some x)(hx:Loc X.env.scope x)(r:RelV v u)
  (h: ∀s',Inv X pins (σ.set i (some v)) H s'->(∃a,Heap.SameBut a s.heap s'.heap/\(a=X.env.locals\/X.env.cells.lookup x=some a))->Q () s') (hf:X.fn x=true\/X.env.scope.names.lookup x=some .local:=by first |exact .inl rfl|exact .inr rfl|assumption):wpAny M A (storeName X.env x u) Q E s:=by
 obtain⟨m,hn,hl⟩:=id I.loc;have hcls:(X.env.scope.kind==.class || (X.env.scope.kind==.module&&X.env.locals !=X.env.globals))=false:=by rw[I.ok.kind];rfl
 have hiσ:i<σ.length:=by rw[I.len];exact(gS.mp hi).1
 have cne:=I.cne
 have tracked: ∀{a:Addr}{h':Heap},(∃o,s.heap.get? a=some o/\H a=none)->Heap.SameBut a s.heap h'->HOk X.prog X.w H h':=λ{a h'} ha hs b ob e=>by
  obtain⟨_,_,hfree⟩:=ha;refine(I.hok b ob e).stay (λc w' hc q=>(hs.2 c ?_).trans q) (λ_ q=>q) λ_ _ q=>q;rintro rfl;rcases hc with rfl|hc
  .rw[hfree]at e;cases e
  .rw[hfree]at hc;cases hc
 rcases hx with hk|hk
 .refine wpAny_storeName_local hk hn (λh' hn' hs=>?_) hcls;obtain⟨oL,_,_,hoL,_⟩:=id hn;refine h _ ⟨I.ok,I.os,I.bare,⟨λb o e n hb hx=>?_,λb o e n hb hx=>?_,I.base.free,λb o e hx=>?_,I.base.tups,I.base.frzs,I.base.tbls⟩,⟨_,hn',λj y v' e1 e2 e3=>?_⟩,λy c e=>?_,I.free,I.freeC,λp hp=>?_,tracked ⟨oL,hoL,I.free⟩ hs,by simpa using I.len⟩ ⟨_,hs,.inl rfl⟩
  .exact(hs.2 b (Nat.ne_of_lt (Nat.lt_of_lt_of_le (Heap.lt_size e) I.ok.above))).trans (I.base.keep b o e n hb hx)
  .obtain⟨sl,e1⟩:=I.base.slot b o e n hb hx;exact⟨sl,(hs.2 b (Nat.ne_of_lt (Nat.lt_of_lt_of_le (Heap.lt_size e) I.ok.above))).trans e1⟩
  .obtain⟨o',e1⟩:=I.base.there b o e hx;exact⟨o',(hs.2 b (Nat.ne_of_lt (Nat.lt_of_lt_of_le (Heap.lt_size e) I.ok.above))).trans e1⟩
  .by_cases hj:j=i
   .subst hj;rw[hi]at e1;cases e1;rw[getElem?_set_self hiσ]at e2;cases e2;exact⟨u,r,.inl ⟨hk,by simp⟩⟩
   .rw[getElem?_set_ne (Ne.symm hj)]at e2;obtain⟨u',r',q⟩:=hl j y v' e1 e2 e3;refine⟨u',r',?_⟩;rcases q with⟨k,e⟩|⟨k,c,e,z⟩
    .refine .inl ⟨k,?_⟩;have:y≠x:=λe=>hj (vL hN e1 (e▸hi));simp[this,e]
    .exact .inr ⟨k,c,e,z.sameBut hs (cne y c e)⟩
  .obtain⟨w',z⟩:=I.cell y c e;exact⟨w',z.sameBut hs (cne y c e)⟩
  .obtain⟨e,n,ne,nf,d⟩:=I.pin p hp;exact⟨(hs.2 p.1 ne).trans e,n,ne,nf,d⟩
 .have hfn:X.fn x=true:=by
   rcases hf with z|z
   .exact z
   .rw[z]at hk;cases hk
  obtain⟨c,hc⟩:=I.ok.has x (.inl hk);obtain⟨w',z⟩:=I.cell x c hc;refine wpAny_storeName_cell I.ok.kind hk hc z (λh' hc' hs=>?_);obtain⟨oc,hoc,hocd⟩:=id z;refine h {s with heap:=h'} ⟨I.ok,I.os,I.bare,⟨λb o e n hb hx=>?_,λb o e n hb hx=>?_,I.base.free,λb o e hx=>?_,I.base.tups,I.base.frzs,I.base.tbls⟩,⟨m,hn.sameBut hs (Ne.symm (cne x c hc)),λj y v' e1 e2 e3=>?_⟩,λy c' e=>?_,I.free,I.freeC,λp hp=>?_,tracked ⟨oc,hoc,I.freeC x c hc⟩ hs,by simpa using I.len⟩ ⟨c,hs,.inr hc⟩
  .exact(hs.2 b (Nat.ne_of_lt (Nat.lt_of_lt_of_le (Heap.lt_size e) (I.ok.cab x c hfn hc)))).trans (I.base.keep b o e n hb hx)
  .obtain⟨sl,e1⟩:=I.base.slot b o e n hb hx;exact⟨sl,(hs.2 b (Nat.ne_of_lt (Nat.lt_of_lt_of_le (Heap.lt_size e) (I.ok.cab x c hfn hc)))).trans e1⟩
  .obtain⟨o',e1⟩:=I.base.there b o e hx;exact⟨o',(hs.2 b (Nat.ne_of_lt (Nat.lt_of_lt_of_le (Heap.lt_size e) (I.ok.cab x c hfn hc)))).trans e1⟩
  .by_cases hj:j=i
   .subst hj;rw[hi]at e1;cases e1;rw[getElem?_set_self hiσ]at e2;cases e2;exact⟨u,r,.inr ⟨.inl hk,c,hc,hc'⟩⟩
   .rw[getElem?_set_ne (Ne.symm hj)]at e2;obtain⟨u',r',q⟩:=hl j y v' e1 e2 e3;refine⟨u',r',?_⟩;rcases q with q|⟨k,c',e,z'⟩
    .exact .inl q
    .refine .inr ⟨k,c',e,z'.sameBut hs ?_⟩;rintro rfl;exact hj (vL hN e1 (I.ok.inj _ _ _ e hc▸hi))
  .by_cases hcc:c'=c
   .subst hcc;exact⟨_,hc'⟩
   .obtain⟨w2,z2⟩:=I.cell y c' e;exact⟨w2,z2.sameBut hs hcc⟩
  .obtain⟨e,n,ne,nf,d⟩:=I.pin p hp;refine⟨(hs.2 p.1 ?_).trans e,n,ne,nf,d⟩;intro q;rw[q,hoc]at e;have q':oc=p.2:=Option.some.inj e;exact d w' (by rw[<-q'];exact hocd)
def vM{M:Model}{A:Around}{E:VP}{i:Nat}{x:Str}{v:V}{u:Value}{Q:Unit->Shared->Prop}(I:Inv X pins σ H s)(hN:X.N.Nodup)(hi:X.N[i]? =some x)(hx:Loc X.env.scope x)(r:RelV v u)
  (h: ∀s',Inv X pins (σ.set i (some v)) H s'->Q () s') (hf:X.fn x=true\/X.env.scope.names.lookup x=some .local:=by first |exact .inl rfl|exact .inr rfl|assumption):wpAny M A (storeName X.env x u) Q E s:=
 DH I hN hi hx r (λs' I' _=>h s' I') hf
def Inv.call'{s':Shared}{ch:Ng}(I:Inv X pins σ H s)(ho:s'.os=s.os)(u:Un (vK X.stack) ch H H' s.heap s'.heap)(hok:HOk X.prog X.w H' s'.heap)(hg:AllBare s'.gens)
  (hch: ∀b∈ch,(b∈X.ex\/X.s₀.heap.objs.size<=b)/\b≠X.env.locals/\(∀x c,X.env.cells.lookup x=some c->c≠b)/\ ∀p∈X.pn++pins,p.1≠b):Inv X pins σ H' s':=by
 obtain⟨h',g',d',t',o'⟩:=s';have e:=ho;subst e;exact I.call u hok hg hch
end
abbrev XK:=Value->Option Addr->Hp->Prop
abbrev St:=List (Option V)
abbrev VK:=V->Hp->Prop
abbrev TE:=St->Hp->VK->Prop
abbrev TT:=St->Hp->(Bool->Hp->Prop)->Prop
abbrev TA:=St->Hp->(List V->Hp->Prop)->Prop
structure Ends where
 nx:St->Hp->Prop
 rt:VK
 bk:St->Hp->Prop:=λ_ _=>False
 ct:St->Hp->Prop:=λ_ _=>False
abbrev TS:=Ends->St->Hp->Prop
def EP(X:Cx)(pins:Nk)(σ:St)(Q:VK)(u:Value)(s':Shared):Prop:= ∃v H',Inv X pins σ H' s'/\RelV v u/\Q v H'
def TP(X:Cx)(pins:Nk)(σ:St)(Q:Bool->Hp->Prop)(b:Bool)(s':Shared):Prop:= ∃H',Inv X pins σ H' s'/\Q b H'
def AP(X:Cx)(pins:Nk)(σ:St)(Q:List V->Hp->Prop)(us:Nc)(s':Shared):Prop:= ∃vs H',Inv X pins σ H' s'/\Vals vs us/\Q vs H'
def SP(X:Cx)(pins:Nk)(D:Ends)(f:Flow)(s':Shared):Prop:=
 match f with
 |.next=> ∃σ' H',Inv X pins σ' H' s'/\D.nx σ' H'
 |.brk=> ∃σ' H',Inv X pins σ' H' s'/\D.bk σ' H'
 |.cont=> ∃σ' H',Inv X pins σ' H' s'/\D.ct σ' H'
 |.ret u=> ∃v σ' H',Inv X pins σ' H' s'/\RelV v u/\D.rt v H'
def PE(X:Cx)(e:Expr)(t:TE):Prop:=
 ∀(pins:Nk)(s:Shared)(σ:St)(H:Hp)(Q:VK),Inv X pins σ H s->t σ H Q->wpAny (model X.prog X.w) X.A (eval e X.env) (EP X pins σ Q) X.xe s
def PT(X:Cx)(e:Expr)(t:TT):Prop:=
 ∀(pins:Nk)(s:Shared)(σ:St)(H:Hp)(Q:Bool->Hp->Prop),Inv X pins σ H s->t σ H Q->wpAny (model X.prog X.w) X.A (isTrue e X.env (eval e X.env)) (TP X pins σ Q) X.xe s
def PW(X:Cx)(e:Expr)(t:TT):Prop:=
 ∀(whole:Sem Value)(pins:Nk)(s:Shared)(σ:St)(H:Hp)(Q:Bool->Hp->Prop),Inv X pins σ H s->t σ H Q->wpAny (model X.prog X.w) X.A (isTrue e X.env whole) (TP X pins σ Q) X.xe s
def PW.pt{X:Cx}{e:Expr}{t:TT}(h:PW X e t):PT X e t:=h _
def PA(X:Cx)(es:Oc)(t:TA):Prop:=
 ∀(pos:Pos)(pins:Nk)(s:Shared)(σ:St)(H:Hp)(Q:List V->Hp->Prop),Inv X pins σ H s->t σ H Q->wpAny (model X.prog X.w) X.A (spliced (backTo pos (starEach es X.env))) (AP X pins σ Q) X.xe s
def PS(X:Cx)(st:Stmt)(t:TS):Prop:=
 ∀(pins:Nk)(s:Shared)(σ:St)(H:Hp)(D:Ends),Inv X pins σ H s->t D σ H->wpAny (model X.prog X.w) X.A (exec st X.env) (SP X pins D) X.xe s
def PSs(X:Cx)(st:List Stmt)(t:TS):Prop:=
 ∀(pins:Nk)(s:Shared)(σ:St)(H:Hp)(D:Ends),Inv X pins σ H s->t D σ H->wpAny (model X.prog X.w) X.A (execs st X.env) (SP X pins D) X.xe s
def wM{α:Type}{t:Sem α}{Q Q':α->Shared->Prop}{M:Model}{A:Around}{E:VP}{s:Shared}(h:wpAny M A t Q E s)(hQ: ∀a s,Q a s->Q' a s):wpAny M A t Q' E s:=wpAny_mono h hQ λ_ _ x=>x
section
variable{X:Cx}
def Jt(i:Nat):TE:=λσ H Q=> ∃v,σ[i]? =some (some v)/\Q v H
def tC(v:V):TE:=λ_ H Q=>Q v H
def vN{i:Nat}{x:Str}{pos:Pos}(hN:X.N[i]? =some x)(hv:ZF X.env.scope x)(hd:(x==("__debug__":Str))=false:=by decide)(hcd:(x==("__classdict__":Str))=false:=by decide):PE X (.Name x pos) (Jt i):=by
 intro pins s σ H Q I h;obtain⟨v,e,h⟩:=h;obtain⟨m,hn,hl⟩:=I.loc;obtain⟨u,r,l⟩:=hl i x v hN e hv;have fin:EP X pins σ Q u s:=⟨v,H,I,r,h⟩
 rcases l with⟨hk,hm⟩|⟨hk,c,hc,hcell⟩
 .exact wpAny_Name (wpAny_loadName_local I.ok.kind hk hn hm fin) hd
 .rcases hk with hk|hk
  .exact wpAny_Name (wpAny_loadName_cell I.ok.kind hk hc hcell fin) hd
  .exact wpAny_Name (wpAny_loadName_free I.ok.kind hk hc hcell fin hcd) hd
def TF{i j pos}:PE X (.Constant (.int i) j pos) (tC (.int i)):=λ_ _ _ H _ I h=>wpAny_Constant_int ⟨.int i,H,I.tok _,⟨_,rfl⟩,h⟩
def Ju{b j pos}:PE X (.Constant (.bool b) j pos) (tC (.bl b)):=λ_ _ _ H _ I h=>Constant_bool ⟨.bl b,H,I,rfl,h⟩
def Ek{j pos}:PE X (.Constant .none j pos) (tC .non):=λ_ _ _ H _ I h=>Constant_none ⟨.non,H,I,rfl,h⟩
def TH{x j pos}:PE X (.Constant (.str x) j pos) (tC (.str x)):=λ_ _ _ H _ I h=>Calls.Constant_str ⟨.str x,H,I.tok _,⟨_,rfl⟩,h⟩
def Gl(X:Cx)(x:Str):Prop:=X.env.kindOf x=some .globalImplicit
def bD{E:VP}{pins:Nk}{s:Shared}{σ:St}{H:Hp}{x:Str}{u:Value}{pos:Pos}{Q:VP}(I:Inv X pins σ H s)(hg:Gl X x)(hm:X.mg x=some u)(h:Q u s)
  (hd:(x==("__debug__":Str))=false:=by decide):wpAny (model X.prog X.w) X.A (eval (.Name x pos) X.env) Q E s:=
 Calls.Name_function_global I.ok.kind hg (Calls.loadGlobal_global (by rw[I.ok.glob];exact I.mod.glob.keeps I.bk) hm h) hd
def vO{E:VP}{pins:Nk}{s:Shared}{σ:St}{H:Hp}{x:Str}{u:Value}{pos:Pos}{Q:VP}(I:Inv X pins σ H s)(hg:Gl X x)(hm:X.mg x=none)(hv:bootBuiltins x=some u)(h:Q u s)
  (hn:x≠"__name__":=by decide) (hd:(x==("__debug__":Str))=false:=by decide):wpAny (model X.prog X.w) X.A (eval (.Name x pos) X.env) Q E s:=by
 obtain⟨mb,h1,h2⟩:=I.mod.blt;exact Calls.Name_function_global I.ok.kind hg (Calls.loadGlobal_builtin (by rw[I.ok.glob];exact I.mod.glob.keeps I.bk) hm (by rw[I.ok.blt];exact h1.keeps I.bk) ((h2 x hn).trans hv) h) hd
def EW{x:Str}{v:V}{u:Value}{pos:Pos}(hg:Gl X x)(hm:X.mg x=some u)(r:RelV v u)(hd:(x==("__debug__":Str))=false:=by decide):PE X (.Name x pos) (tC v):=
 λ_ _ _ H _ I h=>bD I hg hm ⟨v,H,I,r,h⟩ hd
def NS{x:Str}{v:V}{u:Value}{pos:Pos}(hg:Gl X x)(hm:X.mg x=none)(hv:bootBuiltins x=some u)(r:RelV v u)(hn:x≠"__name__":=by decide)(hd:(x==("__debug__":Str))=false:=by decide):PE X (.Name x pos) (tC v):=
 λ_ _ _ H _ I h=>vO I hg hm hv ⟨v,H,I,r,h⟩ hn hd
variable{a b:Expr}{ta tb:TE}{pos:Pos}
variable{tA tB':TT}{rest:Oc}
def tOr(t u:TT):TT:=λσ H Q=>t σ H λc H1=>if c=true then Q true H1 else u σ H1 Q
def tNot(t:TT):TT:=λσ H Q=>t σ H λc H1=>Q (!c) H1
def El(ha:PT X a tA):PW X (.BoolOp .Or [a] pos) tA:=by
 intro wh pins s σ H Q I h;refine isTrue_or (wM (ha pins s σ H Q I h) λc s1 e=>?_)
 cases c with
 |false=>exact isTrue_or_nil e
 |true=>exact e
def Jv(ha:PT X a tA)(hb:PW X (.BoolOp .Or (b::rest) pos) tB'):PW X (.BoolOp .Or (a::b::rest) pos) (tOr tA tB'):=by
 intro wh pins s σ H Q I h;refine isTrue_or (wM (ha pins s σ H _ I h) λc s1 ⟨H1,I1,q1⟩=>?_)
 cases c with
 |true=>exact⟨H1,I1,q1⟩
 |false=>exact hb wh pins s1 σ H1 Q I1 q1
def Em(ha:PT X a tA):PT X (.UnaryOp .Not a pos) (tNot tA):=by intro pins s σ H Q I h;exact isTrue_not (ha pins s σ H (λc H1=>Q (!c) H1) I h)
def Jw(ta tb:TE):TE:=λσ H Q=>ta σ H λx H1=> ∃c,x=.bl c/\if c=true then tb σ H1 Q else Q (.bl false) H1
def Jx(ta:TE):TE:=λσ H Q=>ta σ H λx H1=> ∃c,x=.bl c/\Q (.bl (!c)) H1
def En{op}{t:TE}(h:PE X a t):PE X (.BoolOp op [a] pos) t:=λpins s σ H Q I hw=>BoolOp_one (h pins s σ H Q I hw)
def Eo(ha:PE X a ta)(hb:PE X (.BoolOp .And (b::rest) pos) tb):PE X (.BoolOp .And (a::b::rest) pos) (Jw ta tb):=by
 intro pins s σ H Q I h;refine BoolOp_and (wM (ha pins s σ H _ I h) λv s1 ⟨x,H1,I1,r1,q1⟩=>?_);obtain⟨c,rfl,q1⟩:=q1;cases r1;refine wpAny_truthy_bool ?_
 cases c with
 |true=>exact hb pins s1 σ H1 Q I1 q1
 |false=>exact⟨.bl false,H1,I1,rfl,q1⟩
def Ep(ha:PE X a ta):PE X (.UnaryOp .Not a pos) (Jx ta):=by intro pins s σ H Q I h;refine UnaryOp_ (wM (ha pins s σ H _ I h) λv s1 ⟨x,H1,I1,r1,q1⟩=>?_);obtain⟨c,rfl,q1⟩:=q1;cases r1;exact not_of (wpAny_truthy_bool ⟨.bl (!c),H1,I1,rfl,q1⟩)
def tIf(t:TT)(ta tb:TE):TE:=λσ H Q=>t σ H λc H1=>if c=true then ta σ H1 Q else tb σ H1 Q
def TJ{c:Expr}(hc:PT X c tA)(ha:PE X a ta)(hb:PE X b tb):PE X (.IfExp c a b pos) (tIf tA ta tb):=by
 intro pins s σ H Q I h;refine wpAny_IfExp (wM (hc pins s σ H _ I h) λd s1 ⟨H1,I1,q1⟩=>?_)
 cases d with
 |true=>exact ha pins s1 σ H1 Q I1 q1
 |false=>exact hb pins s1 σ H1 Q I1 q1
end
def SqL(K:Od)(H:Hp)(a:Addr)(xs:List V):Prop:=
 Rd H a (.lst xs)\/
  ∃(o:Obj)(its:Nd)(n:Nat),K.lookup a=some o/\o.cls=.type "list"/\o.dict=none/\o.data=.seq its n/\its.size<=sizeLine/\Vals xs its.toList
def SqT(K:Od)(H:Hp)(a:Addr)(xs:List V):Prop:=
 Rd H a (.tup xs)\/
  ∃(o:Obj)(its:Nd)(n:Nat),K.lookup a=some o/\o.cls=.type "tuple"/\o.data=.seq its n/\its.size<=sizeLine/\Vals xs its.toList
def absV:Value->Option V
 |.none=>some .non
 |.bool b=>some (.bl b)
 |.int i _=>some (.int i)
 |.str x _=>some (.str x)
 |.bytes b _=>some (.byt b)
 |.float b _=>some (.flt b)
 |.ref a=>some (.ref a)
 |.type n=>some (.ty n)
 |_=>none
theorem RelV.abs{x:V}{u:Value}(r:RelV x u):absV u=some x:=by
 cases x with
 |non=>cases r;rfl
 |bl _=>cases r;rfl
 |int _=>obtain⟨t,rfl⟩:=r;rfl
 |str _=>obtain⟨t,rfl⟩:=r;rfl
 |byt _=>obtain⟨t,rfl⟩:=r;rfl
 |flt _=>obtain⟨t,rfl⟩:=r;rfl
 |ref _=>cases r;rfl
 |ty _=>cases r;rfl
def RelV.inj{x y:V}{u:Value}(r:RelV x u)(q:RelV y u):x=y:=Option.some.inj (r.abs.symm.trans q.abs)
theorem Vals.inj: ∀{xs ys:List V}{us:Nc},Vals xs us->Vals ys us->xs=ys
 |_,_,_,.nil,.nil=>rfl
 |_,_,_,.cons r t,.cons r' t'=>by rw[r.inj r',Vals.inj t t']
section
variable{X:Cx}{pins:Nk}{σ:St}{H:Hp}{s:Shared}{a:Addr}{xs ys:List V}
def SqL.of{K:Od}(h:H a=some (.lst xs)):SqL K H a xs:=.inl (.inl h)
def SqT.of{K:Od}(h:H a=some (.tup xs)):SqT K H a xs:=.inl (.inl h)
theorem Inv.list(I:Inv X pins σ H s)(h:SqL X.K H a xs): ∃its:List Value,Vals xs its/\PlainL s.heap a its.toArray/\xs.length<=sizeLine:=by
 rcases h with h|⟨o,its,n,hk,hc,hd,hs,hz,r⟩
 .obtain⟨z,its,n,r,e⟩:=h.ok I.hok;exact⟨its,r,⟨_,n,e,rfl,rfl,rfl⟩,z⟩
 .refine⟨_,r,⟨o,n,I.kIn a o hk,hc,hd,by simpa using hs⟩,?_⟩;have e:=r.length;simp only[Array.length_toList]at e
  lia
theorem Inv.tuple(I:Inv X pins σ H s)(h:SqT X.K H a xs): ∃its:List Value,Vals xs its/\IsTup s.heap a its.toArray/\xs.length<=sizeLine:=by
 rcases h with h|⟨o,its,n,hk,hc,hs,hz,r⟩
 .obtain⟨z,its,r,p⟩:=h.ok I.hok;exact⟨its,r,p,z⟩
 .refine⟨_,r,⟨o,I.kIn a o hk,hc,n,by simpa using hs⟩,?_⟩;have e:=r.length;simp only[Array.length_toList]at e
  lia
def Inv.list_inj(I:Inv X pins σ H s)(h:SqL X.K H a xs)(h':SqL X.K H a ys):xs=ys:=by
 obtain⟨its,r,⟨o,n,e,_,_,d⟩,_⟩:=I.list h;obtain⟨its',r',⟨o',n',e',_,_,d'⟩,_⟩:=I.list h';rw[e]at e';cases e';rw[d]at d';injection d' with d1 _
 have:=by simpa using congrArg Array.toList d1
 subst this;exact r.inj r'
def Inv.tuple_inj(I:Inv X pins σ H s)(h:SqT X.K H a xs)(h':SqT X.K H a ys):xs=ys:=by
 obtain⟨its,r,⟨o,e,_,n,d⟩,_⟩:=I.tuple h;obtain⟨its',r',⟨o',e',_,n',d'⟩,_⟩:=I.tuple h';rw[e]at e';cases e';rw[d]at d';injection d' with d1 _
 have:=by simpa using congrArg Array.toList d1
 subst this;exact r.inj r'
end
abbrev Cx.wish(X:Cx)(E:VP):Cx:={X with xe:=E}
abbrev Cx.nox(X:Cx):Cx:=X.wish λ_ _=>False
def Cx.Ok.wish{X:Cx}(ok:X.Ok)(E:VP):(X.wish E).Ok:=
 ⟨ok.mod,ok.kind,ok.glob,ok.blt,ok.above,ok.inj,ok.has,ok.cab,ok.hd,ok.frames,ok.stk,ok.exf,ok.bs,ok.bsz,ok.noex,ok.exfs,ok.funs,ok.frf⟩
def Cx.Ok.unwish{X:Cx}{E:VP}(ok:(X.wish E).Ok):X.Ok:=
 ⟨ok.mod,ok.kind,ok.glob,ok.blt,ok.above,ok.inj,ok.has,ok.cab,ok.hd,ok.frames,ok.stk,ok.exf,ok.bs,ok.bsz,ok.noex,ok.exfs,ok.funs,ok.frf⟩
section
variable{X:Cx}{pins:Nk}{σ:St}{H:Hp}{s:Shared}{E:VP}
def Inv.wish(I:Inv X pins σ H s)(E:VP):Inv (X.wish E) pins σ H s:=⟨I.ok.wish E,I.os,I.bare,I.base,I.loc,I.cell,I.free,I.freeC,I.pin,I.hok,I.len⟩
def Inv.unwish(I:Inv (X.wish E) pins σ H s):Inv X pins σ H s:=⟨I.ok.unwish,I.os,I.bare,I.base,I.loc,I.cell,I.free,I.freeC,I.pin,I.hok,I.len⟩
def SP.unwish{D:Ends}{f:Flow}{s':Shared}(h:SP (X.wish E) pins D f s'):SP X pins D f s':=by
 cases f with
 |next=>obtain⟨σ',H',I,q⟩:=h;exact⟨σ',H',I.unwish,q⟩
 |brk=>obtain⟨σ',H',I,q⟩:=h;exact⟨σ',H',I.unwish,q⟩
 |cont=>obtain⟨σ',H',I,q⟩:=h;exact⟨σ',H',I.unwish,q⟩
 |ret u=>obtain⟨v,σ',H',I,r,q⟩:=h;exact⟨v,σ',H',I.unwish,r,q⟩
def PSs.nox{st:List Stmt}{t:TS}(h:PSs X.nox st t):PSs X st t:=λpins s σ H D I hw=>
 wpAny_mono (h pins s σ H D (I.wish _) hw) (λ_ _ q=>q.unwish) λ_ _ z=>False.elim z
end
section
variable{X:Cx}{st:Stmt}{rest:List Stmt}{t u:TS}{e:Expr}{te:TE}{pos:Pos}
def Jy:TS:=λD σ H=>D.nx σ H
def tSeq(t u:TS):TS:=λD σ H=>t {D with nx:=u D} σ H
def ZG:PSs X [] Jy:=λ_ _ σ H _ I h=>wpAny_execs_nil ⟨σ,H,I,h⟩
def TL(h1:PS X st t)(h2:PSs X rest u):PSs X (st::rest) (tSeq t u):=by
 intro pins s σ H D I h;refine wpAny_execs_cons (wM (h1 pins s σ H {D with nx:=u D} I h) λf s1 q=>?_)
 cases f with
 |next=>
  obtain⟨σ',H',I',q⟩:=q;exact h2 pins s1 σ' H' D I' q
 |ret v=>exact q
 |brk=>exact q
 |cont=>exact q
def ZH(h1:PS X st t):PSs X [st] t:=by
 intro pins s σ H D I h;refine wpAny_execs_cons (wM (h1 pins s σ H D I h) λf s1 q=>?_)
 cases f with
 |next=>exact wpAny_execs_nil q
 |ret v=>exact q
 |brk=>exact q
 |cont=>exact q
def Inv.quiet{pins:Nk}{σ:St}{H:Hp}{s:Shared}(I:Inv X pins σ H s):interactive X.env=false:=by simp[interactive,I.ok.kind]
def Jz(te:TE):TS:=λD σ H=>te σ H λ_ H1=>D.nx σ H1
def ZI(he:PE X e te)(hs:swapsWith e none pos.line X.env=pure false:=by rfl):PS X (.Expr e pos) (Jz te):=by intro pins s σ H D I h;exact wpAny_Expr_any (wM (he pins s σ H _ I h) λv s1 ⟨x,H1,I1,r1,q1⟩=>⟨σ,H1,I1,q1⟩) I.quiet hs
def tRet(te:TE):TS:=λD σ H=>te σ H D.rt
def Es(he:PE X e te):PS X (.Return (some e) pos) (tRet te):=by intro pins s σ H D I h;exact wpAny_Return_some (wM (he pins s σ H _ I h) λv s1 ⟨x,H1,I1,r1,q1⟩=>⟨x,σ,H1,I1,r1,q1⟩)
def tIfS(c:TT)(t u:TS):TS:=λD σ H=>c σ H λb H1=>if b=true then t D σ H1 else u D σ H1
def Ka{c:Expr}{a b:List Stmt}{tc:TT}(hc:PT X c tc)(ha:PSs X a t)(hb:PSs X b u):PS X (.If c a b pos) (tIfS tc t u):=by
 intro pins s σ H D I h;refine wpAny_If (wM (hc pins s σ H _ I h) λd s1 ⟨H1,I1,q1⟩=>?_)
 cases d with
 |true=>exact ha pins s1 σ H1 D I1 q1
 |false=>exact hb pins s1 σ H1 D I1 q1
def Et:TS:=λ_ _ _=>False
def TN:PS X st Et:=λ_ _ _ _ _ _ h=>h.elim
end
abbrev TG:=V->St->Hp->(St->Hp->Prop)->Prop
abbrev Eu:=List V->St->Hp->(St->Hp->Prop)->Prop
def PG(X:Cx)(target:Expr)(t:TG):Prop:=
 ∀(pins:Nk)(s:Shared)(σ:St)(H:Hp)(v:V)(u:Value)(Q:St->Hp->Prop),Inv X pins σ H s->RelV v u->t v σ H Q->
  wpAny (model X.prog X.w) X.A (assign target X.env u) (λ_ s'=> ∃σ' H',Inv X pins σ' H' s'/\Q σ' H') X.xe s
def Kb(X:Cx)(ts:Oc)(t:Eu):Prop:=
 ∀(pins:Nk)(s:Shared)(σ:St)(H:Hp)(vs:List V)(us:Nc)(Q:St->Hp->Prop),Inv X pins σ H s->Vals vs us->t vs σ H Q->
  wpAny (model X.prog X.w) X.A (assignInOrder ((assignEach ts X.env).map (·.2)) us) (λ_ s'=> ∃σ' H',Inv X pins σ' H' s'/\Q σ' H') X.xe s
abbrev TSet:=V->V->V->Hp->(Hp->Prop)->Prop
section
variable{X:Cx}{pos:Pos}
def TQ(i:Nat):TG:=λv σ H Q=>Q (σ.set i (some v)) H
def NT{i:Nat}{x:Str}(hN:X.N.Nodup)(hi:X.N[i]? =some x)(hx:Loc X.env.scope x)(hf:X.fn x=true\/X.env.scope.names.lookup x=some .local:=by first |exact .inl rfl|exact .inr rfl|assumption):PG X (.Name x pos) (TQ i):=by intro pins s σ H v u Q I r h;exact wpAny_assign_Name (vM I hN hi hx r (λs' I'=>⟨_,H,I',h⟩) hf)
def gNil:Eu:=λvs σ H Q=>vs=[]/\Q σ H
def Kc(t:TG)(u:Eu):Eu:=λvs σ H Q=> ∃v r,vs=v::r/\t v σ H λσ' H'=>u r σ' H' Q
def ZJ:Kb X [] gNil:=by intro pins s σ H vs us Q I r h;obtain⟨e,h⟩:=h;subst e;exact assignInOrder_nil ⟨σ,H,I,h⟩
def TR{e:Expr}{es:Oc}{t:TG}{u:Eu}(h1:PG X e t)(h2:Kb X es u)
  (hs:(assignEach (e::es) X.env).map (·.2)=assign e X.env::(assignEach es X.env).map (·.2):=by rfl):Kb X (e::es) (Kc t u):=by
 intro pins s σ H vs us Q I r h;obtain⟨v,vr,e1,h⟩:=h;subst e1
 cases r with
 |cons r rr=>
  rw[hs];refine assignInOrder_cons (wM (h1 pins s σ H _ _ _ I r h) λ_ s1 ⟨σ1,H1,I1,q1⟩=>?_);exact h2 pins s1 σ1 H1 _ _ Q I1 rr q1
def gTup(K:Od)(n:Nat)(t:Eu):TG:=λv σ H Q=> ∃a xs,v=.ref a/\SqT K H a xs/\xs.length=n/\t xs σ H Q
def Ew{es:Oc}{k:Nat}{t:Eu}{n:Nat}(hc:X.calm=true)(h:Kb X es t)
  (hn:(assignEach es X.env).length=n:=by rfl) (hst:(assignEach es X.env).findIdx? (·.1)=none:=by rfl):PG X (.Tuple es k pos) (gTup X.K n t):=by
 intro pins s σ H v u Q I r hw;obtain⟨a,xs,e1,hq,hl,hw⟩:=hw;subst e1;cases r;obtain⟨its,rv,ht,hz⟩:=I.tuple hq;refine assign_Tuple_tuple (I.ok.hd hc) ht (by simp[hn, <-hl,rv.length]) hst λh' hx=>?_;have I1:Inv X pins σ H {s with heap:=h'}:=I.kept λb o e=>hx b o (Nat.ne_of_lt (Heap.lt_size e)) e;exact h pins _ σ H xs _ Q I1 (by simpa using rv) hw
def Kd(te:TE)(g:TG):TS:=λD σ H=>te σ H λx H1=>g x σ H1 D.nx
def Ey{i:Nat}{x:Str}{e:Expr}{te:TE}{pos':Pos}(hN:X.N.Nodup)(hi:X.N[i]? =some x)(hx:Loc X.env.scope x)(he:PE X e te)(hs:swapsWith e (some (.Name x pos')) pos.line X.env=pure false:=by rfl)(hf:X.fn x=true\/X.env.scope.names.lookup x=some .local:=by first |exact .inl rfl|exact .inr rfl|assumption):
  PS X (.Assign [.Name x pos'] e pos) (Kd te (TQ i)):=by
 intro pins s σ H D I h;refine wpAny_Assign_Name (wM (he pins s σ H _ I h) λv s1 ⟨y,H1,I1,r1,q1⟩=>?_) hs;exact vM I1 hN hi hx r1 (λs2 I2=>⟨_,H1,I2,q1⟩) hf
end
structure It where
 go:Nat->Hp->Prop
 yld:Nat->Hp->V->Hp->Prop
 stop:Nat->Hp->Prop
def pB(X:Cx)(pins:Nk)(H:Hp)(b:Addr):Prop:=
 H b=none/\b≠X.env.locals/\b∉X.fs/\(b∈X.ex\/X.s₀.heap.objs.size<=b)/\(∀x c,X.env.cells.lookup x=some c->c≠b)/\ ∀p∈X.pn++pins,p.1≠b
def Inv.fpOk{X:Cx}{pins:Nk}{σ:St}{H H':Hp}{s:Shared}{b:Addr}(I:Inv X pins σ H s)(hb:s.heap.objs.size<=b)(hn:H' b=none):pB X pins H' b:=by
 refine⟨hn,Nat.ne_of_gt (Nat.lt_of_lt_of_le I.lt hb),I.nofs hb,.inr (Nat.le_trans I.sz hb),λx c e z=>?_,λp hp z=>?_⟩
 .obtain⟨v,q⟩:=I.cell x c e;exact absurd (Nat.lt_of_lt_of_le q.lt (by rw[z];exact hb)) (lt_irrefl _)
 .exact absurd (Nat.lt_of_lt_of_le (Heap.lt_size (I.pin p hp).1) (by rw[z];exact hb)) (lt_irrefl _)
structure Turn(P:Program)(w:World)(K:Od)(tg:Expr)(J:It)(fp:Ng)(it:Addr)(tn:Nat->Heap->Prop):Prop where
 mem:it∈fp
 obj: ∀i h,tn i h-> ∀b∈fp, ∃o,h.get? b=some o/\ ∀v,o.data≠.cell v
 keep: ∀i h h',tn i h->(∀b∈fp, ∀o,h.get? b=some o->h'.get? b=some o)->tn i h'
 item: ∀(X:Cx),X.prog=P->X.w=w->X.K=K->X.calm=true-> ∀(i:Nat)(pins:Nk)(s:Shared)(σ:St)(H:Hp)(E:VP),Inv X pins σ H s->(∀b∈fp,pB X pins H b)->tn i s.heap->J.go i H->
  wpAny (model P w) X.A (pyNext (.ref it)) (λr s1=> ∃u,r=some u/\
   wpAny (model P w) X.A (letOwnedTupleGo tg (.ref it) u) (λ_ s2=> ∃x H',Inv X pins σ H' s2/\RelV x u/\J.yld i H x H'/\tn (i+1) s2.heap/\ ∀b∈fp,H' b=none) E s1) E s
 done: ∀(X:Cx),X.prog=P->X.w=w->X.K=K->X.calm=true-> ∀(i:Nat)(pins:Nk)(s:Shared)(σ:St)(H:Hp)(E:VP),Inv X pins σ H s->(∀b∈fp,pB X pins H b)->tn i s.heap->J.stop i H->
  wpAny (model P w) X.A (pyNext (.ref it)) (λr s1=>r=none/\Inv X pins σ H s1) E s
 self: ∀(A:Around)(i:Nat)(s:Shared)(Q:VP)(E:VP),tn i s.heap->Q (.ref it) s->wpAny (model P w) A (pyIter (.ref it)) Q E s
abbrev TI:=St->Hp->(It->Hp->Prop)->Prop
def PIE(X:Cx)(pins:Nk)(σ:St)(tg:Expr)(R:It->Hp->Prop)(itv:Value)(s2:Shared):Prop:=
 ∃(it:Addr)(fp:Ng)(tn:Nat->Heap->Prop)(J:It)(H':Hp),itv=.ref it/\Inv X pins σ H' s2/\Turn X.prog X.w X.K tg J fp it tn/\tn 0 s2.heap/\(∀b∈fp,pB X pins H' b)/\R J H'
def PI(X:Cx)(tg iter:Expr)(wi:TI):Prop:=
 ∀(pins:Nk)(s:Shared)(σ:St)(H:Hp)(R:It->Hp->Prop),Inv X pins σ H s->wi σ H R->
  wpAny (model X.prog X.w) X.A (eval iter X.env) (λv s1=>wpAny (model X.prog X.w) X.A (pyIter v) (PIE X pins σ tg R) X.xe s1) X.xe s
def NU{M:Model}{A:Around}{E:VP}{s:Shared}{tg:Expr}{it:Addr}{u:Value}{o:Obj}{n:String}{vs:Nd}{Q:Unit->Shared->Prop}(ho:s.heap.get? it=some o)(hc:o.cls=.type n)(hd:o.data=.fields vs)
  (hn:["enumerate","zip","dict_itemiterator","dict_reverseitemiterator","odict_iterator","itertools.zip_longest","itertools.pairwise"].contains n=false) (hQ:Q () s):wpAny M A (letOwnedTupleGo tg (.ref it) u) Q E s:=by
 cases tg<;>first
  |exact wP hQ
  |(cases u<;>first
    |exact wP hQ
    |(refine wB (wpAny_load ho ?_)
      rw[hc,hd];show wpAny M A (if _=true then _ else _) Q E s;rw[iN0 (by intro h;rw[hn]at h;cases h)];exact wP hQ))
def Itl(K:Od)(a:Addr):It:=
 ⟨λi H=> ∃xs x,SqL K H a xs/\xs[i]? =some x,λi H x H'=>H'=H/\ ∀xs,SqL K H a xs->xs[i]? =some x,λi H=> ∃xs,SqL K H a xs/\xs.length<=i⟩
def Itt(K:Od)(a:Addr):It:=
 ⟨λi H=> ∃xs x,SqT K H a xs/\xs[i]? =some x,λi H x H'=>H'=H/\ ∀xs,SqT K H a xs->xs[i]? =some x,λi H=> ∃xs,SqT K H a xs/\xs.length<=i⟩
def Ms(lo:Int)(n:Nat):It:=⟨λi _=>i<n,λi H x H'=>H'=H/\x=.int (lo+i),λi _=>n<=i⟩
theorem QL{P:Program}{w:World}{K:Od}{tg:Expr}(a it:Addr):Turn P w K tg (Itl K a) [it] it (λi h=>h.IsListIter it a i) where
 mem:=by simp
 obj:=λi h st b hb=>by
  have e:=by simpa using hb
  subst e;obtain⟨o,e,c,d⟩:=st;exact⟨o,e,λv z=>by rw[d]at z;cases z⟩
 keep:=λi h h' st k=>st.at λo e=>k it (by simp) o e
 item:=by intro X hP hw hK hc i pins s σ H E I hf st hg;subst hP hw hK;obtain⟨xs,x,hq,hx⟩:=hg;obtain⟨its,rv,p,hz⟩:=I.list hq;obtain⟨u,hu,ru⟩:=rv.get hx;obtain⟨f0,f1,f2,f3,f4,f5⟩:=hf it (by simp);refine wpAny_pyNext_list_item st p.isList (by simpa using hu) λh' st' sb=>?_;have I1:Inv X pins σ H {s with heap:=h'}:=I.turned (λb o hb e=>(sb.2 b hb).trans e) f0 f1 f3 f4 f5;obtain⟨o,e,c,d⟩:=id st';exact⟨u,rfl,NU e c d (by decide) ⟨x,H,I1,ru,⟨rfl,λys hy=>by rw[I.list_inj hy hq];exact hx⟩,st',λb hb=>(hf b hb).1⟩⟩
 done:=by intro X hP hw hK hc i pins s σ H E I hf st hg;subst hP hw hK;obtain⟨xs,hq,hx⟩:=hg;obtain⟨its,rv,p,hz⟩:=I.list hq;obtain⟨f0,f1,f2,f3,f4,f5⟩:=hf it (by simp);have hl:=rv.length;exact wpAny_pyNext_list_end (I.ok.hd hc) st p.isList (by simp;lia) λh' eb=>⟨rfl,I.turned (λb o hb e=>eb b o hb e) f0 f1 f3 f4 f5⟩
 self:=λ_ _ _ _ _ st h=>wpAny_pyIter_listiter st h
theorem KF{P:Program}{w:World}{K:Od}{tg:Expr}(a it:Addr):Turn P w K tg (Itt K a) [it] it (λi h=>h.IsTupleIter it a i) where
 mem:=by simp
 obj:=λi h st b hb=>by
  have e:=by simpa using hb
  subst e;obtain⟨o,e,c,d⟩:=st;exact⟨o,e,λv z=>by rw[d]at z;cases z⟩
 keep:=λi h h' st k=>st.at λo e=>k it (by simp) o e
 item:=by intro X hP hw hK hc i pins s σ H E I hf st hg;subst hP hw hK;obtain⟨xs,x,hq,hx⟩:=hg;obtain⟨its,rv,p,hz⟩:=I.tuple hq;obtain⟨u,hu,ru⟩:=rv.get hx;obtain⟨f0,f1,f2,f3,f4,f5⟩:=hf it (by simp);refine wpAny_pyNext_tuple_item st p (by simpa using hu) λh' st' sb=>?_;have I1:Inv X pins σ H {s with heap:=h'}:=I.turned (λb o hb e=>(sb.2 b hb).trans e) f0 f1 f3 f4 f5;obtain⟨o,e,c,d⟩:=id st';exact⟨u,rfl,NU e c d (by decide) ⟨x,H,I1,ru,⟨rfl,λys hy=>by rw[I.tuple_inj hy hq];exact hx⟩,st',λb hb=>(hf b hb).1⟩⟩
 done:=by intro X hP hw hK hc i pins s σ H E I hf st hg;subst hP hw hK;obtain⟨xs,hq,hx⟩:=hg;obtain⟨its,rv,p,hz⟩:=I.tuple hq;obtain⟨f0,f1,f2,f3,f4,f5⟩:=hf it (by simp);have hl:=rv.length;exact wpAny_pyNext_tuple_end (I.ok.hd hc) st p (by simp;lia) λh' eb=>⟨rfl,I.turned (λb o hb e=>eb b o hb e) f0 f1 f3 f4 f5⟩
 self:=λ_ _ _ _ _ st h=>wpAny_pyIter_tupleiter st h
theorem KG{P:Program}{w:World}{K:Od}{tg:Expr}(it:Addr)(lo:Int)(n:Nat):Turn P w K tg (Ms lo n) [it] it (λi h=>IsRangeIter h it (lo+(i:Nat) * 1) ((n:Int) - (i:Nat)) 1) where
 mem:=by simp
 obj:=λi h st b hb=>by
  have e:=by simpa using hb
  subst e;exact⟨_,st,λv z=>by have z':=z;cases z'⟩
 keep:=λi h h' st k=>k it (by simp) _ st
 item:=by intro X hP hw hK hc i pins s σ H E I hf st hg;subst hP hw hK;obtain⟨f0,f1,f2,f3,f4,f5⟩:=hf it (by simp);have W:=Walks.range (prog:=X.prog) (w:=X.w) (I.ok.hd hc) it lo 1 n;refine W.item i s _ _ hg st λv h' tk hv st' kk=>?_;obtain⟨t,rfl⟩:=hv;have I1:Inv X pins σ H {s with heap:=h',toks:=tk}:=I.turned (λb o hb e=>kk b o (by simpa using hb) e) f0 f1 f3 f4 f5;refine⟨_,rfl,NU st' rfl rfl (by decide) ⟨.int _,H,I1,⟨t,?_⟩,⟨rfl,rfl⟩,st',λb hb=>(hf b hb).1⟩⟩;rw[Int.mul_one]
 done:=by intro X hP hw hK hc i pins s σ H E I hf st hg;obtain⟨f0,f1,f2,f3,f4,f5⟩:=hf it (by simp);exact wpAny_pyNext_range_end (I.ok.hd hc) st (by have:n<=i:=hg;lia) λh' eb=>⟨rfl,I.turned (λb o hb e=>eb b o hb e) f0 f1 f3 f4 f5⟩
 self:=λ_ _ _ _ _ st h=>wpAny_pyIter_rangeiter st h
section
variable{X:Cx}{tg:Expr}
def Ke(K:Od)(tl:TE):TI:=λσ H R=>tl σ H λx H1=> ∃a,x=.ref a/\(∃xs,SqL K H1 a xs)/\R (Itl K a) H1
def iTup(K:Od)(tl:TE):TI:=λσ H R=>tl σ H λx H1=> ∃a,x=.ref a/\(∃xs,SqT K H1 a xs)/\R (Itt K a) H1
def ZK{l:Expr}{tl:TE}(hl:PE X l tl):PI X tg l (Ke X.K tl):=by
 intro pins s σ H R I h;refine wM (hl pins s σ H _ I h) λv s1 ⟨x,H1,I1,r1,q1⟩=>?_;obtain⟨a,e,⟨xs,hq⟩,q⟩:=q1;subst e;cases r1;obtain⟨its,rv,p,hz⟩:=I1.list hq;refine wpAny_pyIter_list p.isList ?_;refine⟨_,_,_,_,H1,rfl,I1.kept λb o e=>hP0 _ e,QL a _,⟨_,Heap.get?_push_size _ rfl,rfl,rfl⟩,λb hb=>?_,q⟩;have e:=by simpa using hb
 subst e;exact I1.fpOk (Nat.le_refl _) (I1.hok.fresh (Nat.le_refl _))
def Ez{l:Expr}{tl:TE}(hl:PE X l tl):PI X tg l (iTup X.K tl):=by
 intro pins s σ H R I h;refine wM (hl pins s σ H _ I h) λv s1 ⟨x,H1,I1,r1,q1⟩=>?_;obtain⟨a,e,⟨xs,hq⟩,q⟩:=q1;subst e;cases r1;obtain⟨its,rv,p,hz⟩:=I1.tuple hq;refine wpAny_pyIter_tuple p ?_;refine⟨_,_,_,_,H1,rfl,I1.kept λb o e=>hP0 _ e,KF a _,⟨_,Heap.get?_push_size _ rfl,rfl,rfl⟩,λb hb=>?_,q⟩;have e:=by simpa using hb
 subst e;exact I1.fpOk (Nat.le_refl _) (I1.hok.fresh (Nat.le_refl _))
theorem TU{pins:Nk}{σ:St}{H:Hp}{s:Shared}{R:It->Hp->Prop}{E:VP}{lo hi:Int}{t u v:Tok}{tk:Nat}(I:Inv X pins σ H s)(h1: -(2 ^ 62)<=lo)(h2:lo<2 ^ 62)(h3: -(2 ^ 62)<=hi)(h4:hi<2 ^ 62)
  (q:R (Ms lo (hi - lo).toNat) H):wpAny (model X.prog X.w) X.A (pyIter (.ref s.heap.objs.size)) (PIE X pins σ tg R) E {s with heap:=s.heap.push {cls:=.type "range",data:=.fields #[.int lo t,.int hi u,.int 1 v]},toks:=tk}:=by
 refine wpAny_pyIter_range (IsRange.new ..) (small_one h1 h2 h3 h4) ?_;have I1:Inv X pins σ H {s with heap:=s.heap.push {cls:=.type "range",data:=.fields #[.int lo t,.int hi u,.int 1 v]},toks:=tk}:=I.kept λb o e=>hP0 _ e
 refine⟨_,_,_,_,H,rfl,
  I1.kept λb o e=>hP0 _ e,KG _ lo (hi - lo).toNat,?_,λb hb=>?_,q⟩
 .have e1:lo+((0:Nat):Int) * 1=lo:=by simp
  have e2:(((hi - lo).toNat:Nat):Int) - ((0:Nat):Int)=Builtin.Range.rangeSize lo hi 1:=by rw[rangeSize_one];split<;>lia
  show IsRangeIter _ _ _ _ 1;rw[e1,e2];exact Heap.get?_push_size _ rfl
 .have e:b=(s.heap.push {cls:=.type "range",data:=.fields #[.int lo t,.int hi u,.int 1 v]}).objs.size:=by simpa using hb
  subst e;exact I1.fpOk (Nat.le_refl _) (I1.hok.fresh (Nat.le_refl _))
def Kf(ta:TA):TI:=λσ H R=>ta σ H λvs H1=> ∃j:Int,vs=[.int j]/\ -(2 ^ 62)<=j/\j<2 ^ 62/\R (Ms 0 j.toNat) H1
theorem QM{a:Expr}{ta:TA}{p pos:Pos}(hg:Gl X "range")(hm:X.mg "range"=none)(ha:PA X [a] ta)(hs:starEach [a] X.env=[(false,eval a X.env)]:=by rfl):PI X tg (.Call (.Name "range" p) [a] [] pos) (Kf ta):=by
 intro pins s σ H R I h;refine Call_ (vO I hg hm boot_range (PyProof.Rows.callWith_type1 (wM (ha pos pins s σ H _ I h) λus s1 ⟨vs,H1,I1,r1,q1⟩=>?_) hs rfl));obtain⟨j,e,q1,q2,q⟩:=q1;subst e
 cases r1 with
 |cons r rr=>
  cases rr;obtain⟨t,rfl⟩:=r;exact call_range_1 (TU I1 (by lia) (by lia) q1 q2 (by simpa using q))
def tFor(wi:TI)(g:TG)(tb:TS):TS:=λD σ H=>wi σ H λJ H1=> ∃W:Nat->Nat->St->Hp->Prop,(∃m,W 0 m σ H1)/\ ∀i m σ H,W i m σ H->
 (J.stop i H/\D.nx σ H)\/(J.go i H/\ ∃N:St->Hp->Prop,(∀σ' H',N σ' H'-> ∃m',m'<m/\W (i+1) m' σ' H')/\ ∀x H',J.yld i H x H'->g x σ H' λσ2 H2=>tb {D with nx:=N,ct:=N,bk:=D.nx} σ2 H2)
def vP(fp:Ng)(h:Heap):List (Addr×Obj):=fp.filterMap λb=>(h.get? b).map λo=>(b,o)
def pR{fp:Ng}{h:Heap}{b:Addr}{o:Obj}(hb:b∈fp)(e:h.get? b=some o):(b,o)∈vP fp h:=List.mem_filterMap.mpr ⟨b,hb,by rw[e];rfl⟩
def QN{fp:Ng}{h:Heap}{p:Addr×Obj}(hp:p∈vP fp h):p.1∈fp/\h.get? p.1=some p.2:=by
 obtain⟨b,hb,e⟩:=List.mem_filterMap.mp hp
 cases q:h.get? b with
 |none=>rw[q]at e;cases e
 |some o=>
  rw[q]at e;have e':_=p:=Option.some.inj e;subst e';exact⟨hb,q⟩
def Inv.pinned{pins:Nk}{σ:St}{H:Hp}{s:Shared}{fp:Ng}(I:Inv X pins σ H s)(hf: ∀b∈fp,pB X pins H b)(ho: ∀b∈fp, ∃o,s.heap.get? b=some o/\ ∀v,o.data≠.cell v):Inv X (pins++vP fp s.heap) σ H s:=
 I.pins_of λp hp=>(List.mem_append.mp hp).elim (λz=>I.pin p (List.mem_append_right _ z)) λz=>by obtain⟨hb,e⟩:=QN z;obtain⟨f0,f1,f2,_⟩:=hf p.1 hb;obtain⟨o,e',d⟩:=ho p.1 hb;rw[e]at e';cases e';exact⟨e,f0,f1,f2,d⟩
def Inv.unpinned{pins pl:Nk}{σ:St}{H:Hp}{s:Shared}(I:Inv X (pins++pl) σ H s):Inv X pins σ H s:=I.pins_of λp hp=>I.pin p (List.mem_append_right _ (mem_append_left _ hp))
def Fa{iter:Expr}{body:List Stmt}{wi:TI}{g:TG}{tb:TS}{pos:Pos}(hp:PassesOwn (model X.prog X.w) X.A X.env X.xe)(hc:X.calm=true)(hi:PI X tg iter wi)(hg:PG X tg g)(hb:PSs X body tb)
  (hs: ∀x,foldedSetIterable iter X.env x=pure x:=by intro _;rfl):PS X (.For tg iter body [] pos) (tFor wi g tb):=by
 intro pins s σ H D I h;refine wpAny_For (wM (hi pins s σ H _ I h) λv s1 h1=>wM h1 λitv s2 h2=>?_) hs;obtain⟨it,fp,tn,J,H2,e,I2,T,st2,f2,W,⟨m0,w0⟩,turn⟩:=h2;subst e;have stat: ∀{H':Hp},(∀b∈fp,H' b=none)-> ∀b∈fp,pB X pins H' b:=λhn b hb=>⟨hn b hb,(f2 b hb).2⟩
 refine codeAny_forLoop_any (λn s'=> ∃i σ' H',Inv X pins σ' H' s'/\tn i s'.heap/\(∀b∈fp,H' b=none)/\W i n σ' H') ?_ m0 ⟨0,σ,H2,I2,st2,λb hb=>(f2 b hb).1,w0⟩;rintro n s3 ⟨i,σ3,H3,I3,st3,fr3,w3⟩;rcases turn i n σ3 H3 w3 with⟨stop,qn⟩|⟨go,N,hN,step⟩
 .refine wpAny_passesOwn hp (wM (T.done X rfl rfl rfl hc i pins s3 σ3 H3 X.xe I3 (stat fr3) st3 stop) λr s4 ⟨hr,I4⟩=>?_);subst hr;exact wpAny_execs_nil ⟨σ3,H3,I4,qn⟩
 .refine wpAny_passesOwn hp (wM (T.item X rfl rfl rfl hc i pins s3 σ3 H3 X.xe I3 (stat fr3) st3 go) λr s4 ⟨u,hr,h4⟩=>?_);subst hr;refine wpAny_passesOwn hp (wM h4 λ_ s5 ⟨x,H5,I5,r5,y5,st5,fr5⟩=>?_);have I5':=I5.pinned (stat fr5) (T.obj _ _ st5);refine wpAny_passesOwn hp (wM (hg _ s5 σ3 H5 x u _ I5' r5 (step x H5 y5)) λ_ s6 ⟨σ6,H6,I6,q6⟩=>?_);refine wpAny_passesOwn hp (wM (hb _ s6 σ6 H6 _ I6 q6) λf s7 q7=>?_);have again: ∀{σ7:St}{H7:Hp},Inv X _ σ7 H7 s7->N σ7 H7-> ∃m,m<n/\ ∃i σ' H',Inv X pins σ' H' s7/\tn i s7.heap/\(∀b∈fp,H' b=none)/\W i m σ' H':=λ{σ7 H7} I7 n7=>by obtain⟨m',hm,w7⟩:=hN σ7 H7 n7;refine⟨m',hm,_,σ7,H7,I7.unpinned,T.keep _ _ _ st5 λb hb o e=>(I7.pin (b,o) (List.mem_append_right _ (List.mem_append_right _ (pR hb e)))).1,λb hb=>?_,w7⟩;obtain⟨o,e,d⟩:=T.obj _ _ st5 b hb;exact(I7.pin (b,o) (List.mem_append_right _ (List.mem_append_right _ (pR hb e)))).2.1
  cases f with
  |next=>obtain⟨σ7,H7,I7,n7⟩:=q7;exact again I7 n7
  |cont=>obtain⟨σ7,H7,I7,n7⟩:=q7;exact again I7 n7
  |brk=>obtain⟨σ7,H7,I7,q7⟩:=q7;exact⟨σ7,H7,I7.unpinned,q7⟩
  |ret v=>obtain⟨x7,σ7,H7,I7,r7,q7⟩:=q7;exact⟨x7,σ7,H7,I7.unpinned,r7,q7⟩
end
abbrev R2:=V->V->Hp->VK->Prop
def OpR(X:Cx)(f:Value->Value->Sem Value)(r:R2):Prop:=
 ∀(pins:Nk)(s:Shared)(σ:St)(H:Hp)(x y:V)(v u:Value)(Q:VK),Inv X pins σ H s->RelV x v->RelV y u->r x y H Q->
  wpAny (model X.prog X.w) X.A (f v u) (EP X pins σ Q) X.xe s
def UnR(X:Cx)(f:Value->Sem Value)(r:V->Hp->VK->Prop):Prop:=
 ∀(pins:Nk)(s:Shared)(σ:St)(H:Hp)(x:V)(v:Value)(Q:VK),Inv X pins σ H s->RelV x v->r x H Q->
  wpAny (model X.prog X.w) X.A (f v) (EP X pins σ Q) X.xe s
def CallR(X:Cx)(f:Value)(r:List V->Hp->VK->Prop):Prop:=
 ∀(pins:Nk)(s:Shared)(σ:St)(H:Hp)(xs:List V)(us:Nc)(Q:VK),Inv X pins σ H s->Vals xs us->r xs H Q->
  wpAny (model X.prog X.w) X.A (call f us) (EP X pins σ Q) X.xe s
def TruR(X:Cx)(r:V->Hp->(Bool->Hp->Prop)->Prop):Prop:=
 ∀(pins:Nk)(s:Shared)(σ:St)(H:Hp)(x:V)(v:Value)(Q:Bool->Hp->Prop),Inv X pins σ H s->RelV x v->r x H Q->
  wpAny (model X.prog X.w) X.A (truthy v) (TP X pins σ Q) X.xe s
def Mt(r:R2)(ta tb:TE):TE:=λσ H Q=>ta σ H λx H1=>tb σ H1 λy H2=>r x y H2 Q
def tUn(r:V->Hp->VK->Prop)(ta:TE):TE:=λσ H Q=>ta σ H λx H1=>r x H1 Q
def rI(C:Int->Int->Prop)(g:Int->Int->V):R2:=λx y H Q=> ∃i j,x=.int i/\y=.int j/\C i j/\Q (g i j) H
def YW(g:Int->Int->V):R2:=λx y H Q=> ∃i j,x=.int i/\y=.int j/\Q (g i j) H
def rU(g:Int->V):V->Hp->VK->Prop:=λx H Q=> ∃i,x=.int i/\Q (g i) H
section
variable{X:Cx}{a b:Expr}{ta tb:TE}{pos:Pos}
def Fc(ha:PE X a ta)(hb:PE X b tb){pins:Nk}{s:Shared}{σ:St}{H:Hp}{R:V->V->Hp->Prop}(I:Inv X pins σ H s)
  (h:ta σ H λx H1=>tb σ H1 λy H2=>R x y H2) {Q:VP} {f:Value->Value->Sem Value}
  (hf: ∀v u s2 x y H2,Inv X pins σ H2 s2->RelV x v->RelV y u->R x y H2->wpAny (model X.prog X.w) X.A (f v u) Q X.xe s2):
  wpAny (model X.prog X.w) X.A (eval a X.env) (λv s₁=>wpAny (model X.prog X.w) X.A (eval b X.env) (λu s₂=>wpAny (model X.prog X.w) X.A (f v u) Q X.xe s₂) X.xe s₁) X.xe s:=by
 refine wM (ha pins s σ H _ I h) λv s1 ⟨x,H1,I1,r1,q1⟩=>?_;refine wM (hb pins s1 σ H1 _ I1 q1) λu s2 ⟨y,H2,I2,r2,q2⟩=>?_;exact hf v u s2 x y H2 I2 r1 r2 q2
def Kg{op:Operator}{r:R2}(ho:OpR X (binaryOp op) r)(ha:PE X a ta)(hb:PE X b tb):PE X (.BinOp a op b pos) (Mt r ta tb):=by intro pins s σ H Q I h;exact wpAny_BinOp (Fc ha hb I h λv u s2 x y H2 I2 rx ry q=>ho pins s2 σ H2 x y v u Q I2 rx ry q)
def Kh{op:UnaryOp}{r:V->Hp->VK->Prop}(ho:UnR X (unaryOp op) r)(ha:PE X a ta):PE X (.UnaryOp op a pos) (tUn r ta):=by intro pins s σ H Q I h;exact UnaryOp_ (wM (ha pins s σ H _ I h) λv s1 ⟨x,H1,I1,r1,q1⟩=>ho pins s1 σ H1 x v Q I1 r1 q1)
def Mu{f:Value->Value->Sem Value}{C:Int->Int->Prop}{g:Int->Int->Int}
  (rule: ∀(i j:Int)(t u:Tok)(s:Shared)(Q:VP)(E:VP),C i j->Q (.int (g i j) s.toks) {s with toks:=s.toks+1}->wpAny (model X.prog X.w) X.A (f (.int i t) (.int j u)) Q E s):
  OpR X f (rI C λi j=>.int (g i j)):=by
 intro pins s σ H x y v u Q I rx ry h;obtain⟨i,j,rfl,rfl,hc,q⟩:=h;obtain⟨t,rfl⟩:=rx;obtain⟨t',rfl⟩:=ry;exact rule i j t t' s _ _ hc ⟨.int _,H,I.tok _,⟨_,rfl⟩,q⟩
def Ki{f:Value->Value->Sem Value}{g:Int->Int->Int}
  (rule: ∀(i j:Int)(t u:Tok)(s:Shared)(Q:VP)(E:VP),Q (.int (g i j) s.toks) {s with toks:=s.toks+1}->wpAny (model X.prog X.w) X.A (f (.int i t) (.int j u)) Q E s):
  OpR X f (YW λi j=>.int (g i j)):=by
 intro pins s σ H x y v u Q I rx ry h;obtain⟨i,j,rfl,rfl,q⟩:=h;obtain⟨t,rfl⟩:=rx;obtain⟨t',rfl⟩:=ry;exact rule i j t t' s _ _ ⟨.int _,H,I.tok _,⟨_,rfl⟩,q⟩
def Fd{f:Value->Value->Sem Value}{g:Int->Int->Bool}
  (rule: ∀(i j:Int)(t u:Tok)(s:Shared)(Q:VP)(E:VP),Q (.bool (g i j)) s->wpAny (model X.prog X.w) X.A (f (.int i t) (.int j u)) Q E s):
  OpR X f (YW λi j=>.bl (g i j)):=by
 intro pins s σ H x y v u Q I rx ry h;obtain⟨i,j,rfl,rfl,q⟩:=h;obtain⟨t,rfl⟩:=rx;obtain⟨t',rfl⟩:=ry;exact rule i j t t' s _ _ ⟨.bl _,H,I,rfl,q⟩
def CMul(i j:Int):Prop:=(-(2 ^ 64)<i/\i<2 ^ 64)\/(-(2 ^ 64)<j/\j<2 ^ 64)
def CMul.ok{i j:Int}(h:CMul i j):IntMulOk i j:=by
 rcases h with⟨h1,h2⟩|⟨h1,h2⟩
 .exact .of_left (intBits_le_64 h1 h2)
 .exact .of_right (intBits_le_64 h1 h2)
def Fe:OpR X (binaryOp .Add) (YW λi j=>.int (i+j)):=Ki λ_ _ _ _ _ _ _ q=>add_int q
def Ff:OpR X (binaryOp .Sub) (YW λi j=>.int (i - j)):=Ki λ_ _ _ _ _ _ _ q=>sub_int q
theorem Fg:OpR X (binaryOp .Mod) (rI (λ_ j=>0<j) λi j=>.int (i % j)):=Mu λi j _ _ _ _ _ hc q=>by have h1:_<j:=hc;exact mod_int' (by lia) (by rw[Int.fmod_eq_emod_of_nonneg i (by lia)];exact q)
def unI{f:Value->Sem Value}{g:Int->Int}
  (rule: ∀(i:Int)(t:Tok)(s:Shared)(Q:VP)(E:VP),Q (.int (g i) s.toks) {s with toks:=s.toks+1}->wpAny (model X.prog X.w) X.A (f (.int i t)) Q E s):
  UnR X f (rU λi=>.int (g i)):=by
 intro pins s σ H x v Q I rx h;obtain⟨i,rfl,q⟩:=h;obtain⟨t,rfl⟩:=rx;exact rule i t s _ _ ⟨.int (g i),H,I.tok _,⟨_,rfl⟩,q⟩
def Fi:UnR X (unaryOp .USub) (rU λi=>.int (-i)):=unI λ_ _ _ _ _ q=>neg_int q
end
section
variable{X:Cx}{a b c:Expr}{ta tb tc:TE}{pos:Pos}
def TV{pins:Nk}{σ:St}{H:Hp}{s:Shared}{Q:VK}{k k':Bool}(I:Inv X pins σ H s)(q:Q (.bl k) H)(e:k=k'):EP X pins σ Q (.bool k') s:=by subst e;exact⟨.bl k,H,I,rfl,q⟩
def HP:OpR X (compareOp .LtE) (YW λi j=>.bl (decide (i<=j))):=Fd λ_ _ _ _ _ _ _ q=>le_int q
def Kj:OpR X (compareOp .Gt) (YW λi j=>.bl (decide (j<i))):=Fd λ_ _ _ _ _ _ _ q=>gt_int q
def Kk:OpR X (compareOp .GtE) (YW λi j=>.bl (decide (j<=i))):=Fd λ_ _ _ _ _ _ _ q=>ge_int q
def QO:OpR X (compareOp .In) (λx y H Q=> ∃i j,x=.str i/\y=.str j/\Q (.bl (!(Builtin.Str.occurrences j i 0 j.length 1).isEmpty)) H):=by intro pins s σ H x y v u Q I rx ry h;obtain⟨i,j,rfl,rfl,q⟩:=h;obtain⟨t,rfl⟩:=rx;obtain⟨t',rfl⟩:=ry;exact in_str (TV I q rfl)
def Fj:OpR X (compareOp .Is) (λx y H Q=>y=.non/\Q (.bl (decide (x=.non))) H):=by
 intro pins s σ H x y v u Q I rx ry h;obtain⟨rfl,q⟩:=h;cases ry;refine is_none_gen (TV I q ?_)
 cases x<;>first
  |(cases rx;rfl)
  |(obtain⟨t,rfl⟩:=rx;rfl)
def OpR.or{f:Value->Value->Sem Value}{r r':R2}(h:OpR X f r)(h':OpR X f r'):OpR X f (λx y H Q=>r x y H Q\/r' x y H Q):=by
 intro pins s σ H x y v u Q I rx ry q;rcases q with q|q
 .exact h pins s σ H x y v u Q I rx ry q
 .exact h' pins s σ H x y v u Q I rx ry q
def TX(b:Expr){op:CmpOp}(h:op≠.In:=by decide)(h2:op≠.NotIn:=by decide):behindInMarks op b=false:=by
 have e1:(op==CmpOp.In)=false:=by cases op<;>first |rfl|exact absurd rfl h
 have e2:(op==CmpOp.NotIn)=false:=by cases op<;>first |rfl|exact absurd rfl h2
 cases b<;>simp[behindInMarks,e1,e2]
def ZL{op:CmpOp}{r:R2}(ho:OpR X (compareOp op) r)(ha:PE X a ta)(hb:PE X b tb)(hm:behindInMarks op b=false):PE X (.Compare a [op] [b] pos) (Mt r ta tb):=by intro pins s σ H Q I h;exact wpAny_Compare1 (Fc ha hb I h λv u s2 x y H2 I2 rx ry q=>ho pins s2 σ H2 x y v u Q I2 rx ry q) hm
def Dc(t:TE):TT:=λσ H Q=>t σ H λx H'=> ∃k,x=.bl k/\Q k H'
def ZM{op:CmpOp}{r:R2}(ho:OpR X (compareOp op) r)(ha:PE X a ta)(hb:PE X b tb)(hm:behindInMarks op b=false):PT X (.Compare a [op] [b] pos) (Dc (Mt r ta tb)):=by
 intro pins s σ H Q I h
 refine wpAny_isTrue_Compare1 (wM (ha pins s σ H _ I h) λv s1 ⟨x,H1,I1,r1,q1⟩=>wM (hb pins s1 σ H1 _ I1 q1) λu s2 ⟨y,H2,I2,r2,q2⟩=>
  wM (ho pins s2 σ H2 x y v u _ I2 r1 r2 q2) λc s3 ⟨z,H3,I3,r3,k,e,q3⟩=>?_) hm
 subst e;cases r3;exact wpAny_truthy_bool ⟨H3,I3,q3⟩
def KH(r r':R2)(ta tb tc:TE):TE:=λσ H Q=>ta σ H λx H1=>tb σ H1 λy H2=>r x y H2 λz H3=> ∃k,z=.bl k/\
 (if k=true then tc σ H3 λw' H4=>r' y w' H4 Q else Q (.bl false) H3)
def TY{op op':CmpOp}{r r':R2}(ho:OpR X (compareOp op) r)(ho':OpR X (compareOp op') r')(ha:PE X a ta)(hb:PE X b tb)(hc:PE X c tc)
  (hm:lastMarks [op,op'] [b,c]=false:=by with_unfolding_all rfl):PE X (.Compare a [op,op'] [b,c] pos) (KH r r' ta tb tc):=by
 intro pins s σ H Q I h
 refine Compare_chain (wM (ha pins s σ H _ I h) λv s1 ⟨x,H1,I1,r1,q1⟩=>chain_link (wM (hb pins s1 σ H1 _ I1 q1) λu s2 ⟨y,H2,I2,r2,q2⟩=>
  wM (ho pins s2 σ H2 x y v u _ I2 r1 r2 q2) λd s3 ⟨z,H3,I3,r3,k,e,q3⟩=>?_)) hm
 subst e;cases r3;refine wpAny_truthy_bool ?_
 cases k with
 |false=>exact ite_ff ⟨.bl false,H3,I3,rfl,q3⟩
 |true=>exact ite_tt (chain_last (wM (hc pins s3 σ H3 _ I3 q3) λw' s4 ⟨z',H4,I4,r4,q4⟩=>ho' pins s4 σ H4 y z' u w' Q I4 r2 r4 q4))
def TZ{op op':CmpOp}{r r':R2}(ho:OpR X (compareOp op) r)(ho':OpR X (compareOp op') r')(ha:PE X a ta)(hb:PE X b tb)(hc:PE X c tc)
  (hm:lastMarks [op,op'] [b,c]=false:=by with_unfolding_all rfl):PT X (.Compare a [op,op'] [b,c] pos) (Dc (KH r r' ta tb tc)):=by
 intro pins s σ H Q I h
 refine isTrue_chain (wM (ha pins s σ H _ I h) λv s1 ⟨x,H1,I1,r1,q1⟩=>test_link (wM (hb pins s1 σ H1 _ I1 q1) λu s2 ⟨y,H2,I2,r2,q2⟩=>
  wM (ho pins s2 σ H2 x y v u _ I2 r1 r2 q2) λd s3 ⟨z,H3,I3,r3,k,e,q3⟩=>?_)) hm
 subst e;cases r3;refine wpAny_truthy_bool ?_
 cases k with
 |false=>
  obtain⟨k',e',q'⟩:=q3;cases e';exact ite_ff ⟨H3,I3,q'⟩
 |true=>
  refine ite_tt (test_last (wM (hc pins s3 σ H3 _ I3 q3) λw' s4 ⟨z',H4,I4,r4,q4⟩=>wM (ho' pins s4 σ H4 y z' u w' _ I4 r2 r4 q4) λd' s5 ⟨z2,H5,I5,r5,k2,e2,q5⟩=>?_));subst e2;cases r5;exact wpAny_truthy_bool ⟨H5,I5,q5⟩
def Fk(K:Od)(x:V)(H:Hp)(k:Bool):Prop:=
 match x with
 |.non=>k=false
 |.bl b=>k=b
 |.int i=>k=(i !=0)
 |.str y=>y.length<=sizeLine/\k=((y.length:Int) !=0)
 |.byt y=>y.size<=sizeLine/\k=((y.size:Int) !=0)
 |.ref p=>(∃xs,SqL K H p xs/\k= !xs.isEmpty)\/(∃xs,SqT K H p xs/\k= !xs.isEmpty)\/ ∃kvs,H p=some (.dK kvs)/\k= !kvs.isEmpty
 |_=>False
theorem KI{κ:Type}{kvs:List (κ×V)}{vs:List (κ×Value)}(r:KV kvs vs):(!vs.isEmpty)= !kvs.isEmpty:=by cases r<;>rfl
def vQ{xs:List V}{its:Nc}(r:Vals xs its):(!its.toArray.isEmpty)= !xs.isEmpty:=by cases r<;>simp
def sQ:(sizeLine:Nat)<2 ^ 63:=by rw[sizeLine_eq];decide
theorem Fm:TruR X (λx H Q=> ∃k,Fk X.K x H k/\Q k H):=by
 intro pins s σ H x v Q I rx h;obtain⟨k,e,q⟩:=h;have hl:=sQ;have hs:=sizeLine_eq
 cases x with
 |non=>
  cases rx;have e':=e;subst e';exact truthy_none ⟨H,I,q⟩
 |bl b=>
  cases rx;have e':=e;subst e';exact wpAny_truthy_bool ⟨H,I,q⟩
 |int i=>
  obtain⟨t,rfl⟩:=rx;have e':k=_:=e;subst e';exact PySem.P.truthy_int ⟨H,I,q⟩
 |str y=>
  obtain⟨t,rfl⟩:=rx;obtain⟨hy,e'⟩:y.length<=sizeLine/\k=_:=e;subst e';exact PySem.P.truthy_str (by lia) ⟨H,I.tok _,q⟩
 |byt y=>
  obtain⟨t,rfl⟩:=rx;obtain⟨hy,e'⟩:y.size<=sizeLine/\k=_:=e;subst e';exact PySem.W.truthy_bytes (by lia) ⟨H,I.tok _,q⟩
 |ref p=>
  cases rx;have e':_\/_\/ ∃kvs,H p=some (.dK kvs)/\k= !kvs.isEmpty:=e;rcases e' with⟨xs,hx,e'⟩|⟨xs,hx,e'⟩|⟨kvs,hx,e'⟩
  .subst e';obtain⟨its,r,pl,hz⟩:=I.list hx;have hlen:=r.length;exact wpAny_truthy_list pl.isList (by simp only[sA];lia) ⟨H,I.tok _,by rw[vQ r];exact q⟩
  .subst e';obtain⟨its,r,pl,hz⟩:=I.tuple hx;have hlen:=r.length;exact truthy_tuple pl (by simp only[sA];lia) ⟨H,I.tok _,by rw[vQ r];exact q⟩
  .subst e';obtain⟨hz,hS,vs,r,m⟩:kvs.length<=sizeLine/\_=false/\ ∃vs,KV kvs vs/\s.heap.DictOf _ p vs:=I.hok p _ hx;have hlen:kvs.length=vs.length:=Paired.length r;exact wpAny_truthy_dict hS m (by lia) ⟨H,I.tok _,by rw[KI r];exact q⟩
 |_=>exact e.elim
def UA(ha:PE X a ta)(he: ∀whole,isTrue a X.env whole=(do let v <-whole;standAt a.pos;holding [v] (truthy v))):
  PT X a (λσ H Q=>ta σ H λx H'=> ∃k,Fk X.K x H' k/\Q k H'):=by
 intro pins s σ H Q I h;exact isTrue_plain (wM (ha pins s σ H _ I h) λv s1 ⟨x,H1,I1,r1,q1⟩=>Fm pins s1 σ H1 x v Q I1 r1 q1) (he _)
def KM:OpR X (binaryOp .Add) (λx y H Q=> ∃i j,x=.str i/\y=.str j/\i.length+j.length<=sizeLine/\Q (.str (i++j)) H):=by intro pins s σ H x y v u Q I rx ry h;obtain⟨i,j,rfl,rfl,hz,q⟩:=h;obtain⟨t,rfl⟩:=rx;obtain⟨t',rfl⟩:=ry;exact add_str (λt' tk=>⟨.str _,H,I.tok _,⟨_,rfl⟩,q⟩) hz
def vals1{x:V}{us:Nc}(r:Vals [x] us): ∃u,us=[u]/\RelV x u:=by
 cases r with
 |cons r1 r2=>cases r2;exact⟨_,rfl,r1⟩
def vals2{x y:V}{us:Nc}(r:Vals [x,y] us): ∃u w',us=[u,w']/\RelV x u/\RelV y w':=by
 cases r with
 |cons r1 r2=>
  cases r2 with
  |cons r3 r4=>cases r4;exact⟨_,_,rfl,r1,r3⟩
def UB:CallR X (.builtin "abs") (λxs H Q=> ∃i,xs=[.int i]/\Q (.int (if i<0 then -i else i)) H):=by intro pins s σ H xs us Q I r h;obtain⟨i,rfl,q⟩:=h;obtain⟨u,rfl,t,rfl⟩:=vals1 r;exact call_abs_int λu tk=>⟨.int (if i<0 then -i else i),H,I.tok _,⟨_,rfl⟩,q⟩
end
structure ObjM(h:Heap)(x dx C:Addr)(mA:Ni):Prop where
 obj:h.get? x=some (PySem.W.instObj C dx)
 ns:h.Ns1 dx mA
 ne:dx≠x
def QP{h:Heap}{dx:Addr}{mA:Ni}(n:h.Ns1 dx mA): ∃od,h.get? dx=some od/\ ∀name,PySem.W.lookIn name od=some (mA name):=by
 obtain⟨o,es,ep,ho,hd,hk,_,hm⟩:=n;refine⟨o,ho,λname=>?_⟩;have e:=hm name;unfold nsFind findBy at e;rw[<-Array.find?_toList]at e;unfold PySem.W.lookIn;rw[hd];dsimp only;split
 .rename_i y q;rw[q]at e;exact congrArg some e
 .rename_i q;rw[q]at e;have a:es.toList.any (·.refKey)=false:=by rw[List.any_eq_false];intro y hy;obtain⟨z,t,hkey⟩:=hk y (Array.mem_toList_iff.mp hy);simp[DictEntry.refKey,hkey]
  have a': ¬es.toList.any (·.refKey)=true:=by rw[a];exact xF0
  rw[iN0 a'];exact congrArg some e
def ObjM.look{h:Heap}{x dx C:Addr}{mA:Ni}(I:ObjM h x dx C mA): ∃od,PySem.W.InstAt h x (PySem.W.instObj C dx) C (some od)/\ ∀name,PySem.W.lookIn name od=some (mA name):=
 let ⟨od,ho,hl⟩:=QP I.ns
 ⟨od,⟨I.obj,rfl,rfl,ho⟩,hl⟩
section
variable{prog:Program}{w:World}{A:Around}{E:VP}{s:Shared}{K:Od}{x dx C f:Addr}{mA:Ni}{name:Str}{v:Value}
def ZN{expr:Bool}{Q:VP}(X:K.In s.heap)(I:ObjM s.heap x dx C mA)(hg:PySem.W.plainGet K C name=true)(hh:PySem.W.hasDictIn K C=true)
  (ha:PySem.W.findIn K (.ref C) name=some none) (hv:mA name=some v) (hv':PySem.W.handedIn v=true) (h:Q v {s with toks:=s.toks+1}):
  wpAny (model prog w) A (getAttr (.ref x) name expr) Q E s:=by
 obtain⟨od,J,hl⟩:=I.look;exact PySem.W.get_value X J (PySem.W.plainGet_of hg).1 (PySem.W.findObj_own hh ha rfl (by rw[hl,hv])) hv' h
def UC{pl:Sem Bool}{Q:Value×List Value->Shared->Prop}(X:K.In s.heap)(I:ObjM s.heap x dx C mA)(hg:PySem.W.plainGet K C name=true)
  (hf:PySem.W.findIn K (.ref C) name=some (some (.ref f))) (ht:PySem.W.isFn K (.ref f)=true) (hv:mA name=none) (h:Q (.ref f,[.ref x]) s):
  wpAny (model prog w) A (getMethod (.ref x) name pl) Q E s:=by
 obtain⟨od,J,hl⟩:=I.look;exact PySem.W.method_fn X J (PySem.W.plainGet_of hg).1 (PySem.W.plainGet_of hg).2 hf (beq_iff_eq.mp ht) (by show(PySem.W.lookIn name od).map _=some false;rw[hl,hv];rfl) h
theorem ZO{ns:Nh}{Q:Unit->Shared->Prop}(X:K.In s.heap)(I:ObjM s.heap x dx C mA)
  (hs:PySem.W.findIn K (.ref C) "__setattr__"=some (some (.builtin "object.__setattr__"))) (hp:PySem.W.plainOver K C=true) (ht:PySem.W.takerIn K C name=some none) (hh:PySem.W.hasDictIn K C=true)
  (hw:PySem.Within mA ns) (hsz:ns.length<=sizeLine)
  (h: ∀h',ObjM h' x dx C (λy=>if y=name then some v else mA y)->Heap.SameBut dx s.heap h'->Q () {s with heap:=h',toks:=s.toks+2}):
  wpAny (model prog w) A (setAttr (.ref x) name v) Q E s:=by
 obtain⟨od,J,hl⟩:=I.look;refine PySem.W.set_plain X J hs (PySem.W.osa_open X J hp ht λb=>?_);obtain⟨cd,hc,hd'⟩:=PySem.W.any_some hh;have hx:=I.obj;refine wB (wP (wB (wB (wpAny_loadPart hx (wB (PySem.W.Looks.here (PySem.W.looks_clsIn X hc) ?_))))));rw[hd'];refine wP (wB (wP (wB ?_)));refine wpAny_nsSet1 I.ns λh' hn2 hs2=>?_;obtain⟨oD,esD,epD,hoD,hdD,hcD⟩:=hn2.count (PySem.Within.cons name v hw);refine wB (wpAny_lookBehind hoD (by rw[hdD];exact pastItsLine_dict (Nat.le_trans hcD (by rw[lC0];lia))) ?_);exact wP (h _ ⟨(hs2.2 _ (Ne.symm I.ne)).trans I.obj,hn2,I.ne⟩ hs2)
def HQ{R:Result->Shared->Prop}{vs:Nc}{kw:List (Str×Value)}(X:K.In s.heap)(hm:PySem.W.makesIn K C=true)
  (hi:PySem.W.findIn K (.ref C) "__init__"=some (some (.ref f))) (hf:PySem.W.typeIn K (.ref f)=some (.type "function"))
  (h:codeAny (model prog w) (A.under (.builtin "type.__call__" ⟨.ref C::vs,kw⟩)) (.call (.ref f) ⟨.ref (s.heap.objs.size+1)::vs,kw⟩) (PySem.W.InitBack (s.heap.objs.size+1) R)
   {s with heap:=(s.heap.push PySem.W.emptyDict).push (PySem.W.instObj C s.heap.objs.size)}):
  codeAny (model prog w) A (.call (.ref C) ⟨vs,kw⟩) R s:=by
 exact PySem.W.make_core (PySem.W.makes_of X hm) (PySem.W.looks_findIn X hi) (λself=>PySem.W.bind_fn X self hf) (.inl rfl) h
end
def iV(f:Str)(v:V):List (Str×V)->List (Str×V)
 |[]=>[(f,v)]
 |(g,x)::r=>if g=f then(g,v)::r else(g,x)::iV f v r
theorem uA(f g:Str)(v:V): ∀fs:List (Str×V),(iV f v fs).lookup g=if g=f then some v else fs.lookup g
 |[]=>by
  show List.lookup g [_]=_;by_cases h:g=f
  .have hb:_=true:=beq_iff_eq.mpr h;simp only[List.lookup,hb,iP h]
  .have hb:_=false:=beq_eq_false_iff_ne.mpr h;simp only[List.lookup,hb,iN0 h]
 |(k,x)::r=>by
  have ih:=uA f g v r;rw[show iV f v _=(if k=f then _::r else _::iV f v r)from rfl];by_cases hk:k=f
  .rw[iP hk];by_cases h:g=k
   .have hb:_=true:=beq_iff_eq.mpr h;simp only[List.lookup,hb,iP (h.trans hk)]
   .have hb:_=false:=beq_eq_false_iff_ne.mpr h;simp only[List.lookup,hb,iN0 (λe:g=f=>h (e.trans hk.symm))]
  .rw[iN0 hk];by_cases h:g=k
   .have hb:_=true:=beq_iff_eq.mpr h;simp only[List.lookup,hb,iN0 (λe:g=f=>hk (h.symm.trans e))]
   .have hb:_=false:=beq_eq_false_iff_ne.mpr h;simp only[List.lookup,hb];exact ih
theorem sR(f:Str)(v:V): ∀fs:List (Str×V),f∈(iV f v fs).map (·.1)/\ ∀g,g∈fs.map (·.1)->g∈(iV f v fs).map (·.1)
 |[]=>⟨by simp[iV],λg h=>by simp at h⟩
 |(k,x)::r=>by
  obtain⟨i1,i2⟩:=sR f v r;rw[show iV f v _=(if k=f then _::r else _::iV f v r)from rfl];by_cases hk:k=f
  .rw[iP hk];subst hk;exact⟨by simp,λg h=>by simpa using h⟩
  .rw[iN0 hk];refine⟨?_,λg h=>?_⟩
   .rw[List.map_cons];exact mO _ i1
   .rw[List.map_cons]at h ⊢;rcases mC.mp h with e|e
    .exact mC.mpr (.inl e)
    .exact mO _ (i2 g e)
theorem uB(f:Str)(v:V): ∀fs:List (Str×V),(iV f v fs).length<=fs.length+1
 |[]=>by simp[iV]
 |(k,x)::r=>by
  have ih:=uB f v r;rw[show iV f v _=(if k=f then _::r else _::iV f v r)from rfl];by_cases hk:k=f
  .rw[iP hk,lC0,lC0];lia
  .rw[iN0 hk,lC0,lC0];lia
def RelO.some_of{v:V}{o:Option Value}(r:RelO (some v) o): ∃u,o=some u/\RelV v u:=by
 cases o with
 |none=>exact r.elim
 |some u=>exact⟨u,rfl,r⟩
def RelO.none_of{o:Option Value}(r:RelO none o):o=none:=by
 cases o with
 |none=>rfl
 |some u=>exact r.elim
theorem QQ{v:V}{u:Value}(r:RelV v u):PySem.W.handedIn u=true:=by
 cases v with
 |non=>cases r;rfl
 |bl b=>cases r;rfl
 |int i=>obtain⟨t,e⟩:=r;cases e;rfl
 |str x=>obtain⟨t,e⟩:=r;cases e;rfl
 |byt b=>obtain⟨t,e⟩:=r;cases e;rfl
 |flt b=>obtain⟨t,e⟩:=r;cases e;rfl
 |ref a=>cases r;rfl
 |ty n=>cases r;rfl
section
variable{P:Program}{w:World}{H:Hp}{h:Heap}{a C dx:Addr}{fs:List (Str×V)}
def EX(hok:HOk P w H h)(e:H a=some (.ins C dx fs)): ∃mA,ObjM h a dx C mA/\(∀f,RelO (fs.lookup f) (mA f))/\PySem.Within mA (fs.map (·.1))/\fs.length<=1000/\H dx=some (.own a):=by
 obtain⟨d,z,ne,ob,mA,n,r,q⟩:=(hok a _ e)
 exact⟨mA,⟨ob,n,ne⟩,r,q,z,d⟩
end
structure Cls(K:Od)(C:Addr):Prop where
 pg:PySem.W.plainGet K C Str.empty=true
 hd:PySem.W.hasDictIn K C=true
 po:PySem.W.plainOver K C=true
 sa:PySem.W.findIn K (.ref C) "__setattr__"=some (some (.builtin "object.__setattr__"))
def Cls.get{K:Od}{C:Addr}(c:Cls K C)(f:Str):PySem.W.plainGet K C f=true:=c.pg
def NoAttr(K:Od)(C:Addr)(f:Str):Prop:=PySem.W.findIn K (.ref C) f=some none
theorem NoAttr.taker{K:Od}{C:Addr}{f:Str}(n:NoAttr K C f):PySem.W.takerIn K C f=some none:=by unfold PySem.W.takerIn;rw[show PySem.W.findIn K _ f=some none from n];rfl
structure Meth(K:Od)(C:Addr)(m:Str)(f:Addr):Prop where
 at_:PySem.W.findIn K (.ref C) m=some (some (.ref f))
 fn:PySem.W.isFn K (.ref f)=true
 kp:PySem.W.keepIn K (.ref f)=true
section
variable{X:Cx}{pins:Nk}{σ:St}{H:Hp}{s:Shared}{a C dx:Addr}{fs:List (Str×V)}{f:Str}{v:V}{A:Around}{E:VP}
def KN{b:Bool}{Q:VP}(I:Inv X pins σ H s)(e:H a=some (.ins C dx fs))(c:Cls X.K C)(n:NoAttr X.K C f)(l:fs.lookup f=some v)
  (h: ∀u s',Inv X pins σ H s'->RelV v u->Q u s'):wpAny (model X.prog X.w) A (getAttr (.ref a) f b) Q E s:=by
 obtain⟨mA,O,r,_,_,_⟩:=EX I.hok e;obtain⟨u,hu,ru⟩:=RelO.some_of (v:=v) (o:=mA f) (by rw[<-l];exact r f);exact ZN I.kIn O (c.get f) c.hd n hu (QQ ru) (h u _ (I.tok _) ru)
def pS{m:Str}{g:Addr}{pl:Sem Bool}{Q:Value×List Value->Shared->Prop}(I:Inv X pins σ H s)(e:H a=some (.ins C dx fs))(c:Cls X.K C)(k:Meth X.K C m g)(l:fs.lookup m=none)
  (h:Q (.ref g,[.ref a]) s):wpAny (model X.prog X.w) A (getMethod (.ref a) m pl) Q E s:=by
 obtain⟨mA,O,r,_,_,_⟩:=EX I.hok e;have hn:mA m=none:=RelO.none_of (by rw[<-l];exact r m);exact UC I.kIn O (c.get m) k.at_ k.fn hn h
theorem KO{y:V}{u:Value}{Q:Unit->Shared->Prop}(I:Inv X pins σ H s)(e:H a=some (.ins C dx fs))(c:Cls X.K C)(n:NoAttr X.K C f)(hl:fs.length<1000)(ry:RelV y u)
  (h: ∀s',Inv X pins σ (xT H a (.ins C dx (iV f y fs))) s'->Q () s'):wpAny (model X.prog X.w) A (setAttr (.ref a) f u) Q E s:=by
 obtain⟨mA,O,r,wi,_,ho⟩:=EX I.hok e;have hz:(fs.map (·.1)).length<=sizeLine:=by rw[lM0,sizeLine_eq];lia
 refine ZO I.kIn O c.sa c.po n.taker c.hd wi hz λh' O' sb=>h _ ?_;have hd: ∃o,h'.get? dx=some o:=let ⟨o,_,_,e',_⟩:=O'.ns;⟨o,e'⟩;refine I.write (by rw[e];exact True.intro) (.inr ho) (λb q hb z=>(sb.2 b hb).trans z) hd ?_;refine⟨by rw[zI O.ne];exact ho,?_,O.ne,O'.obj,_,O'.ns,λg=>?_,λg hg=>?_⟩
 .have:=uB f y fs;lia
 .show RelO _ _;rw[uA];by_cases q:g=f
  .rw[iP q,iP q];exact ry
  .rw[iN0 q,iN0 q];exact r g
 .by_cases q:g=f
  .rw[q];exact(sR f y fs).1
  .refine(sR f y fs).2 g (wi g λz=>hg ?_);show(if g=f then some u else mA g)=none;rw[iN0 q];exact z
def Inv.made(I:Inv X pins σ H s):Inv X pins σ (xT (xT H s.heap.objs.size (.own (s.heap.objs.size+1))) (s.heap.objs.size+1) (.ins C s.heap.objs.size []))
  {s with heap:=(s.heap.push PySem.W.emptyDict).push (PySem.W.instObj C s.heap.objs.size)}:=by
 have e1:(s.heap.push PySem.W.emptyDict).get? s.heap.objs.size=some PySem.W.emptyDict:=Heap.get?_push_size s.heap rfl;have e2:=by have:=Heap.get?_push_size (s.heap.push PySem.W.emptyDict) (o:=PySem.W.instObj C s.heap.objs.size) rfl;rwa [Heap.size_push]at this
 have e3:(s.heap.push PySem.W.emptyDict).Ns s.heap.objs.size (λ_=>none):=⟨_,#[],_,e1,rfl,(λe he=>absurd he (by simp)),λ_=>rfl⟩
 have I1:=I.laid (o:=.own (s.heap.objs.size+1)) (t':=s.toks) (λb u q=>hP0 _ q) (Nat.le_refl _) ⟨_,e1⟩;refine I1.laid (λb u q=>hP0 _ q) (Nat.le_of_eq (Heap.size_push _ _)) ?_;have ne:s.heap.objs.size≠s.heap.objs.size+1:=Nat.ne_of_lt (Nat.lt_succ_self _);refine⟨by rw[zI ne,zQ],zero_le _,ne,e2,λ_=>none,(Heap.Ns1.of_empty e3).at λo q=>hP0 _ q,λ_=>True.intro,λy hy=>absurd rfl hy⟩
def ZP{prog:Program}{w:World}{env:Env}{e:Expr}{f:Str}{pos:Pos}{s:Shared}{Q:VP}(hb:attributeBase e f env (eval e env)=eval e env)
  (h:wpAny (model prog w) A (eval e env) (λo s₁=>wpAny (model prog w) A (getAttr o f true) Q E s₁) E s):wpAny (model prog w) A (eval (.Attribute e f pos) env) Q E s:=
 Attribute_any_ h (by rw[arm_eval_Attribute,hb])
end
def tFld(K:Od)(ta:TE)(f:Str):TE:=λσ H Q=>ta σ H λx H1=> ∃a C dx fs v,x=.ref a/\H1 a=some (.ins C dx fs)/\Cls K C/\NoAttr K C f/\fs.lookup f=some v/\Q v H1
def sFld(K:Od)(ta tv:TE)(f:Str):TS:=λD σ H=>tv σ H λy H1=>ta σ H1 λx H2=> ∃a C dx fs,x=.ref a/\H2 a=some (.ins C dx fs)/\Cls K C/\NoAttr K C f/\fs.length<1000/\
 D.nx σ (xT H2 a (.ins C dx (iV f y fs)))
section
variable{X:Cx}{o e value:Expr}{f:Str}{pos pos':Pos}{ta tv:TE}
def Fn(he:PE X e ta)(hb:attributeBase e f X.env (eval e X.env)=eval e X.env):PE X (.Attribute e f pos) (tFld X.K ta f):=by intro pins s σ H Q I h;refine ZP hb (wM (he pins s σ H _ I h) λu s1 ⟨x,H1,I1,rx,a,C,dx,fs,v,ex,ea,c,n,l,q⟩=>?_);subst ex;obtain rfl:u=Value.ref a:=rx;exact KN I1 ea c n l λu' s2 I2 ru=>⟨v,H1,I2,ru,q⟩
def Fo(ha:PE X o ta)(hv:PE X value tv)(hs:swapsWith value (some (.Attribute o f pos')) pos.line X.env=pure false):PS X (.Assign [.Attribute o f pos'] value pos) (sFld X.K ta tv f):=by intro pins s σ H D I h;refine plainObj_wpAny_Assign_Attribute (wM (hv pins s σ H _ I h) λu s1 ⟨y,H1,I1,ry,q⟩=>wM (ha pins s1 σ H1 _ I1 q) λov s2 ⟨x,H2,I2,rx,a,C,dx,fs,ex,ea,c,n,l,q2⟩=>?_) hs;subst ex;obtain rfl:ov=Value.ref a:=rx;exact KO I2 ea c n l ry λs3 I3=>⟨σ,_,I3,q2⟩
end
structure Room(k:Nat)(A:Around):Prop where
 hd:A.handled=none
 dp:A.depth+3 * k+5<recursionLimit
 un:A.units+16 * k+200<cLine
theorem Room.mono{j k:Nat}{A:Around}(r:Room k A)(h:j<=k):Room j A:=⟨r.hd,by have:=r.dp;lia,by have:=r.un;lia⟩
theorem Room.deeper{k:Nat}{A:Around}(r:Room (k+1) A)(env:Env):Room k (A.deeper env):=
 ⟨r.hd,by have:=r.dp;show A.depth+1+3 * k+5<_;lia,by have:=r.un;show A.units+3+16 * k+200<_;lia⟩
def KP{A:Around}{C:Addr}{us:Nc}{kw:List (Str×Value)}:(A.under (.builtin "type.__call__" ⟨.ref C::us,kw⟩)).depth=A.depth+1:=by
 first |rfl|simp[Code.weight]
def KQ{A:Around}{C:Addr}{us:Nc}{kw:List (Str×Value)}:(A.under (.builtin "type.__call__" ⟨.ref C::us,kw⟩)).units=A.units+1:=by
 first |rfl|simp[Code.cUnits]
theorem Room.make{k:Nat}{A:Around}(r:Room (k+1) A)(C:Addr)(us:Nc)(kw:List (Str×Value)):Room k (A.under (.builtin "type.__call__" ⟨.ref C::us,kw⟩)):=
 ⟨r.hd,by have:=r.dp;rw[KP];lia,by have:=r.un;rw[KQ];lia⟩
def Room.depth{k:Nat}{A:Around}(r:Room k A):A.depth<recursionLimit:=by have:=r.dp;omega
def Room.units{k:Nat}{A:Around}(r:Room k A):A.units+64<cLine:=by have:=r.un;omega
def Fp:TA:=λ_ H Q=>Q [] H
def Kl(ta:TE)(tr:TA):TA:=λσ H Q=>ta σ H λx H1=>tr σ H1 λxs H2=>Q (x::xs) H2
section
variable{X:Cx}{e:Expr}{es:Oc}{te:TE}{t:TA}{pos:Pos}
def vR:PA X [] Fp:=λ_ _ _ _ H Q I h=>Calls.spliced_nil ⟨[],H,I,.nil,h⟩
def nZ(ha:PE X e te)(hr:PA X es t)(hs:starEach (e::es) X.env=(false,eval e X.env)::starEach es X.env:=by rfl):PA X (e::es) (Kl te t):=by intro pos pins s σ H Q I h;rw[hs];show wpAny _ _ _ _ _ s;refine Calls.spliced_cons (wM (ha pins s σ H _ I h) λu s1 ⟨x,H1,I1,r1,q1⟩=>?_);exact wM (hr pos pins s1 σ H1 _ I1 q1) λus s2 ⟨xs,H2,I2,r2,q2⟩=>⟨_,H2,I2,.cons r1 r2,q2⟩
def tTup(t:TA):TE:=λσ H Q=>t σ H λxs H1=>xs.length<=sizeLine/\ ∀p,H1 p=none->Q (.ref p) (xT H1 p (.tup xs))
def tLst(t:TA):TE:=λσ H Q=>t σ H λxs H1=>xs.length<=sizeLine/\ ∀p,H1 p=none->Q (.ref p) (xT H1 p (.lst xs))
def Fq{x1}(h:PA X es t):PE X (.Tuple es x1 pos) (tTup t):=by intro pins s σ H Q I hq;refine wpAny_Tuple_spliced (wM (h pos pins s σ H _ I hq) λus s1 ⟨xs,H1,I1,r,z,q⟩=>⟨by rw[<-r.length];exact z,?_⟩);have hf:=I1.hok.fresh (Nat.le_refl _);refine⟨.ref s1.heap.objs.size,_,I1.laid (λb u e=>hP0 _ e) (Nat.le_refl _) ?_,rfl,q _ hf⟩;exact⟨z,us,r,⟨_,Heap.get?_push_size _ rfl,rfl,_,rfl⟩⟩
def Fs(h:PA X es t):PE X (.List es pos) (tLst t):=by intro pins s σ H Q I hq;refine wpAny_List_spliced (wM (h pos pins s σ H _ I hq) λus s1 ⟨xs,H1,I1,r,z,q⟩=>⟨by rw[<-r.length];exact z,?_⟩);have hf:=I1.hok.fresh (Nat.le_refl _);refine⟨.ref s1.heap.objs.size,_,I1.laid (λb u e=>hP0 _ e) (Nat.le_refl _) ?_,rfl,q _ hf⟩;exact⟨z,us,0,r,Heap.get?_push_size _ rfl⟩
end
abbrev Sp:=List V->Hp->VK->XK->Prop
abbrev QR:=List Env->Hp->Shared->XK->VP
structure Env0(P:Program)(w:World)(K:Od)(mg:Ni)(base:Heap)(A:Around)(outer:List Env)(s:Shared)(H:Hp):Prop where
 frames:A.frames=some outer
 mod:Mod K mg base
 bs: ∀b o,base.get? b=some o->s.heap.get? b=some o/\H b=none
 bsz:base.objs.size<=s.heap.objs.size
 funs:s.heap.FunFrames base outer
 frf: ∀b∈vK outer,H b=none
 hok:HOk P w H s.heap
 bare:AllBare s.gens
def CE(outer:List Env)(P:Program)(w:World)(H:Hp)(s:Shared)(Q:VK)(u:Value)(s':Shared):Prop:=
 ∃v H',s'.os=s.os/\AllBare s'.gens/\Un (vK outer) [] H H' s.heap s'.heap/\HOk P w H' s'.heap/\RelV v u/\Q v H'
def CR(CX:QR)(outer:List Env)(P:Program)(w:World)(H:Hp)(s:Shared)(Q:VK)(E:XK)(r:Result)(s':Shared):Prop:=
 match r with
 |.ok (.ret u)=>CE outer P w H s Q u s'
 |.ok _=>False
 |.error e=>CX outer H s E e s'
structure FnOk(P:Program)(w:World)(K:Od)(mg:Ni)(base:Heap)(CX:QR)(k:Nat)(f:Addr)(fd:FuncData)(ps:Nh)(sp:Sp):Prop where
 len: ∀vs H Q E,sp vs H Q E->vs.length=ps.length
 run: ∀(A:Around)(outer:List Env)(s:Shared)(H:Hp)(args:Args)(us:Nc)(vs:List V)(Q:VK)(E:XK),Room k A->Env0 P w K mg base A outer s H->BindsTo s fd args (ps.zip us)->Vals vs us->sp vs H Q E->
  codeAny (model P w) A (.call (.ref f) args) (CR CX outer P w H s Q E) s
def FnOk.imp{P:Program}{w:World}{K:Od}{mg:Ni}{base:Heap}{CX:QR}{k:Nat}{f:Addr}{fd:FuncData}{ps:Nh}{sp sp':Sp}(F:FnOk P w K mg base CX k f fd ps sp)
  (h: ∀vs H Q E,sp' vs H Q E->sp vs H Q E):FnOk P w K mg base CX k f fd ps sp':=
 ⟨λvs H Q E q=>F.len vs H Q E (h _ _ _ _ q),λA outer s H args us vs Q E hr he hb hv hs=>F.run A outer s H args us vs Q E hr he hb hv (h _ _ _ _ hs)⟩
def Env0.make{P:Program}{w:World}{K:Od}{mg:Ni}{base:Heap}{A:Around}{outer:List Env}{s:Shared}{H:Hp}(e:Env0 P w K mg base A outer s H)(C:Addr)(us:Nc)(kw:List (Str×Value)):
  Env0 P w K mg base (A.under (.builtin "type.__call__" ⟨.ref C::us,kw⟩)) outer s H:=⟨by first |exact e.frames|(simpa [Around.under,Code.envs,Code.isFrame,pushEnvs]using e.frames),e.mod,e.bs,e.bsz,e.funs,e.frf,e.hok,e.bare⟩
section
variable{X:Cx}{pins:Nk}{σ:St}{H:Hp}{s s':Shared}
def Inv.env0(I:Inv X pins σ H s):Env0 X.prog X.w X.K X.mg X.base X.A X.stack s H:=
 ⟨I.ok.frames,I.ok.mod,I.bs,Nat.le_trans I.ok.bsz I.sz,I.stack,I.stkFree,I.hok,I.bare⟩
def Inv.after{Q:VK}{u:Value}(I:Inv X pins σ H s)(h:CE X.stack X.prog X.w H s Q u s'):EP X pins σ Q u s':=by obtain⟨v,H',os,bare,un,hok,r,q⟩:=h;obtain⟨hh,g,d,t,os'⟩:=s';obtain rfl:os'=s.os:=os;exact⟨v,H',I.call un hok bare (λb z=>absurd z (by simp)),r,q⟩
end
def De(sp:Sp)(dvs:List V)(E:XK)(t:TA):TE:=λσ H Q=>t σ H λvs H1=>sp (vs++dvs) H1 Q E
def Df(C:Addr)(m:Str)(sp:Sp)(dvs:List V)(E:XK)(ta:TE)(t:TA):TE:=λσ H Q=>ta σ H λx H1=> ∃a dx fs,x=.ref a/\H1 a=some (.ins C dx fs)/\fs.lookup m=none/\
 t σ H1 λvs H2=>sp (x::(vs++dvs)) H2 Q E
def Km(C:Addr)(sp:Sp)(dvs:List V)(E:XK)(t:TA):TE:=λσ H Q=>t σ H λvs H1=> ∀x dx,H1 x=none->H1 dx=none->dx≠x->
 sp (.ref x::(vs++dvs)) (xT (xT H1 dx (.own x)) x (.ins C dx [])) (λv H2=>v=.non/\Q (.ref x) H2) E
def Binds(K:Od)(fd:FuncData)(ps:Nh)(ds:Nc):Prop:=
 ∀(s:Shared)(us:Nc),K.In s.heap->(us++ds).length=ps.length->BindsTo s fd ⟨us,[]⟩ (ps.zip (us++ds))
def Binds.all{K:Od}{fd:FuncData}{ps:Nh}(h: ∀us:List Value,us.length=ps.length->bindArgs fd ⟨us,[]⟩=pure (ps.zip us)):Binds K fd ps []:=λs us _ hl=>by rw[aN]at hl ⊢;exact .of_eq (h us hl)
def fD(CX:QR)(X:Cx)(E:XK):Prop:= ∀(pins:Nk)(σ:St)(H:Hp)(s:Shared)(e:Value)(s':Shared),Inv X pins σ H s->CX X.stack H s E e s'->X.xe e s'
section
variable{X:Cx}{CX:QR}{k:Nat}{f C:Addr}{fd:FuncData}{ps:Nh}{sp:Sp}{dvs:List V}{ds:Nc}{E:XK}{x m:Str}{p pos apos:Pos}{e o:Expr}{es:Oc}{ta:TE}{t:TA}
def EY{pins:Nk}{σ:St}{H:Hp}{s:Shared}{Q:VK}{us:Nc}{vs:List V}(F:FnOk X.prog X.w X.K X.mg X.base CX k f fd ps sp)(hr:Room k X.A)(hb:Binds X.K fd ps ds)(hd:Vals dvs ds)(hx:fD CX X E)
  (I:Inv X pins σ H s) (r:Vals vs us) (h:sp (vs++dvs) H Q E):wpAny (model X.prog X.w) X.A (call (.ref f) us) (EP X pins σ Q) X.xe s:=by
 have r2:Vals _ _:=r.append hd;have hl:(us++ds).length=ps.length:=by rw[<-r2.length];exact F.len _ _ _ _ h
 refine wpAny_call (codeAny_mono (F.run X.A X.stack s H ⟨us,[]⟩ _ _ Q E hr I.env0 (hb s us I.kIn hl) r2 h) λr s' hq=>?_)
 cases r with
 |error e=>exact hx pins σ H s e s' I hq
 |ok fl=>
  cases fl with
  |ret u=>exact I.after hq
  |next=>exact False.elim hq
  |brk=>exact False.elim hq
  |cont=>exact False.elim hq
def NV(F:FnOk X.prog X.w X.K X.mg X.base CX k f fd ps sp)(hr:Room k X.A)(hg:Gl X x)(hm:X.mg x=some (.ref f))(hk:PySem.W.keepIn X.K (.ref f)=true)(hb:Binds X.K fd ps ds)(hd:Vals dvs ds)(hx:fD CX X E)
  (ha:PA X (e::es) t) (hdb:(x==("__debug__":Str))=false:=by decide) (he:starEach (e::es) X.env=(false,eval e X.env)::starEach es X.env:=by rfl) (hpl:(backTo pos (starEach es X.env)).any (·.1)=false:=by rfl):
  PE X (.Call (.Name x p) (e::es) [] pos) (De sp dvs E t):=by
 intro pins s σ H Q I h;refine wpAny_Call_Name_kw (bD I hg hm ?_ hdb);refine PySem.W.callWith_K I.ok.mod.kin hk (wM (ha pos pins s σ H _ I h) λus s1 ⟨vs,H1,I1,r,q⟩=>⟨I1.kIn,?_⟩) he hpl;exact EY F hr hb hd hx I1 r q
def UD(F:FnOk X.prog X.w X.K X.mg X.base CX k f fd ps sp)(hr:Room k X.A)(hg:Gl X x)(hm:X.mg x=some (.ref f))(hk:PySem.W.keepIn X.K (.ref f)=true)(hb:Binds X.K fd ps ds)(hd:Vals dvs ds)(hx:fD CX X E)
  (hdb:(x==("__debug__":Str))=false:=by decide):PE X (.Call (.Name x p) [] [] pos) (De sp dvs E Fp):=by
 intro pins s σ H Q I h;refine wpAny_Call_Name_kw (bD I hg hm ?_ hdb);exact PySem.W.callWith_K0 I.kIn hk (EY (us:=[]) F hr hb hd hx I .nil h)
def ZQ{pl:Sem Bool}(he:PE X o ta)(c:Cls X.K C)(hm:Meth X.K C m f)(F:FnOk X.prog X.w X.K X.mg X.base CX k f fd ps sp)(hr:Room k X.A)(hb:Binds X.K fd ps ds)(hd:Vals dvs ds)(hx:fD CX X E)(ha:PA X (e::es) t)
  (hst:starEach (e::es) X.env=(false,eval e X.env)::starEach es X.env:=by rfl) (hpl:(backTo pos (starEach es X.env)).any (·.1)=false:=by rfl)
  (ht:eval (.Call (.Attribute o m apos) (e::es) [] pos) X.env=(do
   let ov <-eval o X.env
   standAt apos.atName
   let (f,first) <-holding [ov] (getMethod ov m pl)
   callWith pos f first (backTo pos (starEach (e::es) X.env)) (backToKw pos (keywordEach [] X.env))):=by rfl):
  PE X (.Call (.Attribute o m apos) (e::es) [] pos) (Df C m sp dvs E ta t):=by
 intro pins s σ H Q I h;refine PySem.W.methodCall_KW (pl:=pl) (wM (he pins s σ H _ I h) λu s1 ⟨x,H1,I1,rx,a,dx,fs,ex,ea,l,q⟩=>?_) ht;subst ex;obtain rfl:u=Value.ref a:=rx;refine pS I1 ea c hm l ?_;refine PySem.W.callWith_K (first:=[.ref a]) (h₀:=X.base) I.ok.mod.kin hm.kp (wM (ha pos pins s1 σ H1 _ I1 q) λus s2 ⟨vs,H2,I2,r,q2⟩=>⟨I2.kIn,?_⟩) hst hpl;exact EY (us:=.ref a::us) (vs:=.ref a::vs) F hr hb hd hx I2 (.cons rfl r) q2
def UE{pl:Sem Bool}(he:PE X o ta)(c:Cls X.K C)(hm:Meth X.K C m f)(F:FnOk X.prog X.w X.K X.mg X.base CX k f fd ps sp)(hr:Room k X.A)(hb:Binds X.K fd ps ds)(hd:Vals dvs ds)(hx:fD CX X E)
  (ht:eval (.Call (.Attribute o m apos) [] [] pos) X.env=(do
   let ov <-eval o X.env
   standAt apos.atName
   let (f,first) <-holding [ov] (getMethod ov m pl)
   callWith pos f first (backTo pos (starEach [] X.env)) (backToKw pos (keywordEach [] X.env))):=by rfl):
  PE X (.Call (.Attribute o m apos) [] [] pos) (Df C m sp dvs E ta Fp):=by
 intro pins s σ H Q I h;refine PySem.W.methodCall_KW (pl:=pl) (wM (he pins s σ H _ I h) λu s1 ⟨x,H1,I1,rx,a,dx,fs,ex,ea,l,q⟩=>?_) ht;subst ex;obtain rfl:u=Value.ref a:=rx;refine pS I1 ea c hm l ?_;exact PySem.W.callWith_K0 (first:=[.ref a]) I1.kIn hm.kp (EY (us:=[.ref a]) (vs:=[.ref a]) F hr hb hd hx I1 (.cons rfl .nil) q)
structure Mk(K:Od)(C f:Addr):Prop where
 makes:PySem.W.makesIn K C=true
 init:PySem.W.findIn K (.ref C) "__init__"=some (some (.ref f))
 fn:PySem.W.isFn K (.ref f)=true
 kp:PySem.W.keepIn K (.ref C)=true
def UF{pins:Nk}{σ:St}{H:Hp}{s:Shared}{Q:VK}{us:Nc}{vs:List V}(M:Mk X.K C f)(F:FnOk X.prog X.w X.K X.mg X.base CX k f fd ps sp)(hr:Room (k+1) X.A)(hb:Binds X.K fd ps ds)(hd:Vals dvs ds)
  (hx:fD CX X E) (I:Inv X pins σ H s) (r:Vals vs us)
  (h: ∀x dx,H x=none->H dx=none->dx≠x->sp (.ref x::(vs++dvs)) (xT (xT H dx (.own x)) x (.ins C dx [])) (λv H2=>v=.non/\Q (.ref x) H2) E):
  wpAny (model X.prog X.w) X.A (call (.ref C) us) (EP X pins σ Q) X.xe s:=by
 have hq:=h _ s.heap.objs.size (I.hok.fresh (le_succ _)) (I.hok.fresh (Nat.le_refl _)) (Nat.ne_of_lt (Nat.lt_succ_self _));have I2:=Inv.made (C:=C) I;have r2:Vals (V.ref (s.heap.objs.size+1)::_) _:=.cons rfl (r.append hd);have hl:=by have e:=r2.length;rw[F.len _ _ _ _ hq]at e;exact e.symm
 refine wpAny_call (HQ I.kIn M.makes M.init (beq_iff_eq.mp M.fn) (codeAny_mono (F.run _ X.stack _ _ ⟨_,[]⟩ _ _ _ E (hr.make C us [])
  (I2.env0.make C us []) (hb _ _ I2.kIn hl) r2 hq) λr s' hq'=>?_))
 cases r with
 |error e=>exact hx pins σ _ _ e s' I2 hq'
 |ok fl=>
  cases fl with
  |ret u=>
   obtain⟨v,H',I3,rv,ev,q3⟩:=I2.after hq';subst ev;exact⟨rv,⟨V.ref _,H',I3,rfl,q3⟩⟩
  |next=>exact False.elim hq'
  |brk=>exact False.elim hq'
  |cont=>exact False.elim hq'
def ZR(M:Mk X.K C f)(F:FnOk X.prog X.w X.K X.mg X.base CX k f fd ps sp)(hr:Room (k+1) X.A)(hg:Gl X x)(hm:X.mg x=some (.ref C))(hb:Binds X.K fd ps ds)(hd:Vals dvs ds)(hx:fD CX X E)
  (ha:PA X (e::es) t) (hdb:(x==("__debug__":Str))=false:=by decide) (he:starEach (e::es) X.env=(false,eval e X.env)::starEach es X.env:=by rfl) (hpl:(backTo pos (starEach es X.env)).any (·.1)=false:=by rfl):
  PE X (.Call (.Name x p) (e::es) [] pos) (Km C sp dvs E t):=by
 intro pins s σ H Q I h;refine wpAny_Call_Name_kw (bD I hg hm ?_ hdb);refine PySem.W.callWith_K I.ok.mod.kin M.kp (wM (ha pos pins s σ H _ I h) λus s1 ⟨vs,H1,I1,r,q⟩=>⟨I1.kIn,?_⟩) he hpl;exact UF M F hr hb hd hx I1 r q
end
structure FnScope(N P:Nh)(sc:Scope):Prop where
 kind:sc.kind=.function
 co:sc.isCoroutine=false
 gen:sc.isGenerator=false
 nd:N.Nodup
 pre:N.take P.length=P
 par: ∀x∈P,sc.names.lookup x=some .local\/sc.names.lookup x=some .cell
 nofree: ∀y∈sc.names,y.2≠.free
def fsK{N P:Nh}{sc:Scope}(h:N.Nodup/\N.take P.length=P/\(∀x∈P,sc.names.lookup x=some .local\/sc.names.lookup x=some .cell)/\∀y∈sc.names,y.2≠.free)(a:sc.kind=.function:=by rfl)(b:sc.isCoroutine=false:=by rfl)(c:sc.isGenerator=false:=by rfl):FnScope N P sc:=⟨a,b,c,h.1,h.2.1,h.2.2.1,h.2.2.2⟩
theorem DI{kindOf:Str->Option NameKind}{x:Str}: ∀{binds:List (Str×Value)}{m:Ni},(∀v,(x,v)∉binds)->bindL kindOf binds m x=m x
 |[],_,_=>rfl
 |(n,v)::r,m,h=>by
  unfold bindL;rw[DI λw hw=>h w (mO _ hw)];split
  .have:x≠n:=by rintro rfl;exact h v mF0
   simp[this]
  .rfl
theorem DL{kindOf:Str->Option NameKind}{x:Str}: ∀{binds:List (Str×Value)}{m:Ni},(∀v,(x,v)∉binds)->bindC kindOf binds m x=m x
 |[],_,_=>rfl
 |(n,v)::r,m,h=>by
  unfold bindC;rw[DL λw hw=>h w (mO _ hw)];split
  .rfl
  .have:x≠n:=by rintro rfl;exact h v mF0
   simp[this]
theorem DM{kindOf:Str->Option NameKind}{x:Str}{v:Value}: ∀{P:Nh}{vs:Nc}{i:Nat}{m:Ni},P.Nodup->P[i]? =some x->vs[i]? =some v->kindOf x=some .local->
  bindL kindOf (P.zip vs) m x=some v
 |[],_,_,_,_,h,_,_=>by simp at h
 |_::_,[],_,_,_,_,h,_=>by simp at h
 |p::P,w::vs,0,m,nd,h1,h2,hk=>by simp at h1 h2;subst h1;subst h2;show bindL kindOf (_::P.zip vs) m p=_;unfold bindL;rw[DI λv hv=>(nodup_cons.mp nd).1 (of_mem_zip hv).1,iP hk];simp
 |p::P,w::vs,i+1,m,nd,h1,h2,hk=>by show bindL kindOf _ m x=_;unfold bindL;exact DM (nodup_cons.mp nd).2 (by simpa using h1) (by simpa using h2) hk
theorem DO{kindOf:Str->Option NameKind}{x:Str}{v:Value}: ∀{P:Nh}{vs:Nc}{i:Nat}{m:Ni},P.Nodup->P[i]? =some x->vs[i]? =some v->kindOf x≠some .local->
  bindC kindOf (P.zip vs) m x=some v
 |[],_,_,_,_,h,_,_=>by simp at h
 |_::_,[],_,_,_,_,h,_=>by simp at h
 |p::P,w::vs,0,m,nd,h1,h2,hk=>by simp at h1 h2;subst h1;subst h2;show bindC kindOf (_::P.zip vs) m p=_;unfold bindC;rw[DL λv hv=>(nodup_cons.mp nd).1 (of_mem_zip hv).1,iN0 hk];simp
 |p::P,w::vs,i+1,m,nd,h1,h2,hk=>by show bindC kindOf _ m x=_;unfold bindC;exact DO (nodup_cons.mp nd).2 (by simpa using h1) (by simpa using h2) hk
def start(N:Nh)(vs:List V):St:=vs.map some++List.replicate (N.length - vs.length) none
def uN(CX:QR)(P:Program)(w:World)(K:Od)(mg:Ni)(base:Heap)(N:Nh)(qual:Str)(scope:Scope)(f:Addr)(cd:Value)(A:Around)(outer:List Env)(s:Shared)(H:Hp)(E:XK):Cx where
 prog:=P
 w:=w
 K:=K
 mg:=mg
 base:=base
 A:=A.deeper (envOfC qual scope s.heap.objs.size f cd)
 N:=N
 s₀:=s
 H₀:=H
 env:=envOfC qual scope s.heap.objs.size f cd
 outer:=outer
 stack:=envOfC qual scope s.heap.objs.size f cd::outer
 ex:=[]
 calm:=true
 fn:=λ_=>true
 pn:=[]
 xe:=λe s'=>wpAny (model P w) (A.deeper (envOfC qual scope s.heap.objs.size f cd)) (leaving (envOfC qual scope s.heap.objs.size f cd) e) (λ_ s''=>CX outer H s E e s'') (λe' s''=>CX outer H s E e' s'') s'
def HR{sc:Scope}{n:Nat}{x:Str}(h:sc.names.lookup x=some .cell): ∃c,(cellsFrom n sc.names []).lookup x=some c:=by have q:=PySem.W.cellsFrom_some sc.names n [] (.inl h);exact Option.isSome_iff_exists.mp q
theorem DP{CX:QR}{P:Program}{w:World}{K:Od}{mg:Ni}{base:Heap}{N ps:Nh}{qual:Str}{scope:Scope}{f:Addr}{cd:Value}{A:Around}{outer:List Env}{s s1:Shared}{H:Hp}{E:XK}{us:Nc}{vs:List V}
  (S:FnScope N ps scope) (hd:A.handled=none) (e0:Env0 P w K mg base A outer s H) (hl:vs.length=ps.length) (r:Vals vs us)
  (x:InCallC s s.heap.objs.size (bindL (envOfC qual scope s.heap.objs.size f cd).kindOf (ps.zip us) λ_=>none) (cellsFrom (s.heap.objs.size+1) scope.names []) (bindC (envOfC qual scope s.heap.objs.size f cd).kindOf (ps.zip us) λ_=>none) s1):
  Inv (uN CX P w K mg base N qual scope f cd A outer s H E) [] (start N vs) H s1:=by
 have hpl:=by have:=congrArg List.length S.pre;rw[lT]at this;omega
 obtain⟨h1,tk,rfl,hk⟩:=x.done;have noA: ∀b:Addr,b∉(uN CX P w K mg base N qual scope f cd A outer s H E).ex:=λb z=>absurd (show b∈([]:Ng)from z) (by simp)
 refine⟨⟨e0.mod,S.kind,rfl,rfl,Nat.le_refl _,λy z c h1 h2=>?_,λy hy=>?_,λy c _ h=>?_,λ_=>hd,Around.frames_deeper e0.frames,.inr ⟨rfl,rfl⟩,λb z=>absurd z (noA b),e0.bs,e0.bsz,λb _ _=>noA b,λb z=>absurd z (noA b),e0.funs,e0.frf⟩,
  rfl,e0.bare,Un.kept hk,⟨_,x.toInCall.ns,λi y v h1 h2 h3=>?_⟩,λy c h=>⟨_,x.cell y c h⟩,e0.hok.fresh (Nat.le_refl _),λy c h=>?_,λp hp=>absurd (show p∈([]:List _)from hp) (by simp),e0.hok.kept hk,?_⟩
 .exact name_of_addr x.apart (PySem.mem_of_lookup h1) (PySem.mem_of_lookup h2)
 .have hy:=hy;rcases hy with hy|hy
  .exact HR hy
  .exact absurd rfl (S.nofree _ (PySem.mem_of_lookup hy))
 .exact le_of_lt (x.above y c (PySem.mem_of_lookup h))
 .have hi:i<vs.length:=by
   unfold start at h2;by_cases hi:i<vs.length
   .exact hi
   .rw[getElem?_append_right (by simpa using hi)]at h2;rw[List.getElem?_replicate]at h2;split at h2<;>cases h2
  have ha:vs[i]? =some v:=by
   unfold start at h2;rw[getElem?_append_left (by simpa using hi),getElem?_map]at h2
   cases e:vs[i]? with
   |none=>rw[e]at h2;cases h2
   |some a=>rw[e]at h2;cases h2;rfl
  obtain⟨u,hu,rv⟩:=r.get ha;have hp:ps[i]? =some y:=by rw[<-S.pre,List.getElem?_take_of_lt (by omega)];exact h1
  have ndP:ps.Nodup:=by rw[<-S.pre];exact S.nd.sublist (List.take_sublist _ _)
  refine⟨u,rv,?_⟩;rcases S.par y (mem_of_getElem? hp)with k|k
  .exact .inl ⟨k,DM ndP hp hu k⟩
  .obtain⟨c,e⟩:=HR k;refine .inr ⟨.inl k,c,e,?_⟩;have q:=x.cell y c e;rw[DO ndP hp hu (by show scope.names.lookup y≠_;rw[k];decide)]at q;exact q
 .exact e0.hok.fresh (le_of_lt (x.above y c (PySem.mem_of_lookup h)))
 .unfold start;show _=N.length;rw[lA,lM0,List.length_replicate]
  lia
def UG{CX:QR}{P:Program}{w:World}{K:Od}{mg:Ni}{base:Heap}{k:Nat}{f:Addr}{name qual:Str}{params:Arguments}{body:List Stmt}{scope:Scope}{dV kV doc pm cdv ct oc:Value}{an od:Option Addr}
  {osl:Array (Option Value)} {N ps:Nh} {sp:Sp} (lk:K.lookup f=some ⟨oc,od,.func (PySem.W.fnOf name qual params body scope dV kV doc pm an cdv ct),osl⟩) (hcd:PySem.W.codeIn K cdv qual=true) (S:FnScope N ps scope)
  (len: ∀vs H Q E,sp vs H Q E->vs.length=ps.length)
  (hbody: ∀(A:Around)(outer:List Env)(s:Shared)(H:Hp)(vs:List V)(Q:VK)(E:XK),Room k (A.deeper (envOfC qual scope s.heap.objs.size f cdv))->sp vs H Q E->
   ∃t,PSs (uN CX P w K mg base N qual scope f cdv A outer s H E) body t/\t {nx:=λ_ H'=>Q .non H',rt:=Q} (start N vs) H):
  FnOk P w K mg base CX (k+1) f (PySem.W.fnOf name qual params body scope dV kV doc pm an cdv ct) ps sp:=by
 refine⟨len,λA outer s H args us vs Q E hr e0 hb r hsp=>?_⟩;have hl:=len _ _ _ _ hsp;have KX:=e0.mod.kin.keeps λb o e=>(e0.bs b o e).1;have lim:=e0.mod.nolimit.keeps λb o e=>(e0.bs b o e).1
 have hkind: ∀y∈ps.zip us,scope.names.lookup y.1=some .local\/(scope.names.lookup y.1=some .cell/\((cellsFrom (s.heap.objs.size+1) scope.names []).lookup y.1).isSome=true):=λ⟨n,v⟩ hy=>by
  rcases S.par n (of_mem_zip hy).1 with q|q
  .exact .inl q
  .exact .inr ⟨q,PySem.W.cellsFrom_some _ _ _ (.inl q)⟩
 refine codeAny_call_function hr.depth (KX _ _ lk) rfl S.co S.gen rfl (PySem.W.codeRec_of KX hcd) (hb _ _ _ _ ?_);refine wpAny_newFunctionEnv_cells S.kind hkind λenv he s1 x=>?_;subst he;refine⟨lim.keeps x.toInCall.keep,codeAny_func ?_⟩;obtain⟨t,ht,hq⟩:=hbody A outer s H vs Q E (hr.deeper _) hsp;have I:Inv (uN CX P w K mg base N qual scope f cdv A outer s H E) [] _ H s1:=DP S hr.hd e0 hl r x;refine wpAny_mono (ht [] s1 _ H _ I hq) (λfl s' hs=>?_) λe s' hs=>hs
 have fin: ∀{σ':St}{H':Hp}{v:V}{u:Value},Inv (uN CX P w K mg base N qual scope f cdv A outer s H E) [] σ' H' s'->RelV v u->Q v H'->CE outer P w H s Q u s':=
  λ{σ' H' v u} J rv q=>⟨v,H',J.os,J.bare,J.base,J.hok,rv,q⟩
 cases fl with
 |ret u=>
  obtain⟨v,σ',H',J,rv,q⟩:=hs;exact fin J rv q
 |next=>
  obtain⟨σ',H',J,q⟩:=hs;exact fin (v:=V.non) J rfl q
 |brk=>
  obtain⟨_,_,_,q⟩:=hs;exact False.elim q
 |cont=>
  obtain⟨_,_,_,q⟩:=hs;exact False.elim q
section
variable{X:Cx}{x:Str}{p pos:Pos}{e:Expr}{es:Oc}{t:TA}{id T:String}{r:List V->Hp->VK->Prop}
def tCB(r:List V->Hp->VK->Prop)(t:TA):TE:=λσ H Q=>t σ H λvs H1=>r vs H1 Q
def vS(hc:CallR X (.builtin id) r)(hg:Gl X x)(hm:X.mg x=none)(hv:bootBuiltins x=some (.builtin id))(ha:PA X (e::es) t)(hn:x≠"__name__":=by decide)(hdb:(x==("__debug__":Str))=false:=by decide)
  (he:starEach (e::es) X.env=(false,eval e X.env)::starEach es X.env:=by rfl) (hpl:(backTo pos (starEach es X.env)).any (·.1)=false:=by rfl):PE X (.Call (.Name x p) (e::es) [] pos) (tCB r t):=by
 intro pins s σ H Q I h;refine wpAny_Call_Name_kw (vO I hg hm hv ?_ hn hdb);exact PyProof.Rows.callWith_builtin1 (wM (ha pos pins s σ H _ I h) λus s1 ⟨vs,H1,I1,r1,q1⟩=>hc pins s1 σ H1 vs us Q I1 r1 q1) he hpl
def QS(hc:CallR X (.type T) r)(hg:Gl X x)(hm:X.mg x=none)(hv:bootBuiltins x=some (.type T))(ha:PA X (e::es) t)(hn:x≠"__name__":=by decide)(hdb:(x==("__debug__":Str))=false:=by decide)
  (he:starEach (e::es) X.env=(false,eval e X.env)::starEach es X.env:=by rfl) (hpl:(backTo pos (starEach es X.env)).any (·.1)=false:=by rfl):PE X (.Call (.Name x p) (e::es) [] pos) (tCB r t):=by
 intro pins s σ H Q I h;refine wpAny_Call_Name_kw (vO I hg hm hv ?_ hn hdb);exact PyProof.Rows.callWith_type1 (wM (ha pos pins s σ H _ I h) λus s1 ⟨vs,H1,I1,r1,q1⟩=>hc pins s1 σ H1 vs us Q I1 r1 q1) he hpl
end
end L2
namespace HT
open PySem PyProof.Rows
section
variable{prog:Program}{w:World}{A:Around}{E:VP}{s:Shared}
def cat_tup{t b:Addr}{vs ws:Nc}{Q:VP}(ht:IsTup s.heap t vs.toArray)(hb:IsTup s.heap b ws.toArray)(hv:vs≠[])
  (h1:ws=[]->Q (.ref t) s) (h2:ws≠[]->Q (.ref s.heap.objs.size) {s with heap:=s.heap.push {cls:=.type "tuple",data:=.seq (vs++ws).toArray}})
  (hsz:vs.length+ws.length<=sizeLine):wpAny (model prog w) A (binaryOp .Add (.ref t) (.ref b)) Q E s:=by
 obtain⟨⟨cls,dd,data,sl⟩,ho,hc,n,hd⟩:=id ht;obtain⟨⟨cls2,dd2,_,sl2⟩,ho2,hc2,n2,hd2⟩:=id hb;subst hc hd hc2 hd2;have e:vs.toArray++ws.toArray=(vs++ws).toArray:=by simp
 by_cases hw:ws=[]
 .exact concat_meets ⟨_,ho,rfl⟩ ⟨_,ho2,rfl⟩ noFill_tuple_add seq_tuple_add PySem.F.slot_tuple_add PySem.F.entry_tuple_add (PySem.F.args_tuple_add_2 _ _)
   (tuple_addW1 t b vs.toArray ws.toArray n n2 dd dd2 sl sl2 (by simpa using hv) (by simp[hw])) ⟨ho,ho2,h1 hw⟩
 .refine concat_meets ⟨_,ho,rfl⟩ ⟨_,ho2,rfl⟩ noFill_tuple_add seq_tuple_add PySem.F.slot_tuple_add PySem.F.entry_tuple_add (PySem.F.args_tuple_add_2 _ _)
   (tuple_addW2 t b vs.toArray ws.toArray n n2 dd dd2 sl sl2 (by simpa using hv) (by simpa using hw) (by rw[sA];exact hsz)) ⟨ho,ho2,?_⟩
  rw[e];exact h2 hw
def sIx(n d:Nat):Option Int->Nat
 |none=>d
 |some v=>if v<0 then(v+(n:Int)).toNat else min v.toNat n
theorem sIx_le(n d:Nat)(hd:d<=n)(o:Ob):sIx n d o<=n:=by
 cases o with
 |none=>exact hd
 |some v=>
  show(if v<0 then(v+_).toNat else min v.toNat n)<=n;by_cases hv:v<0
  .rw[iP hv];lia
  .rw[iN0 hv];exact Nat.min_le_right _ _
theorem NW(v:Int)(n d:Nat):(if v<0 then max (v+(n:Int)) 0 else min v (n:Int))=((sIx n d (some v):Nat):Int):=by
 show _=(((if v<0 then(v+_).toNat else min v.toNat n):Nat):Int)
 by_cases hv:v<0
 .simp only[iP hv];lia
 .simp only[iN0 hv];lia
theorem KR(lo hi:Ob)(n:Nat):Builtin.Slice.sliceAdjust lo hi 1 (n:Int)=(((sIx n 0 lo:Nat):Int),((sIx n n hi:Nat):Int)):=by
 have h1: ¬((1:Int)<0):=by lia
 unfold Builtin.Slice.sliceAdjust;refine Prod.ext ?_ ?_
 .cases lo with
  |none=>rfl
  |some v=>exact NW v n 0
 .cases hi with
  |none=>rfl
  |some v=>exact NW v n n
theorem KS(i j:Nat):Builtin.Slice.slicePlaces (i:Int) (j:Int) 1=j - i:=by
 unfold Builtin.Slice.slicePlaces;have h1:(1:Int)>0:=by lia
 split<;>lia
def vT{v:Value}{o:Ob}{Q:Option Int->Shared->Prop}(p:IsPart v o)(h:Q o s):wpAny (model prog w) A (Builtin.Slice.slicePartIndex v) Q E s:=by
 cases p with
 |none=>exact slicePart_none h
 |int i t=>exact slicePart_int h
def sliceApplied_gen{sl:Addr}{vl vu:Value}{lo hi:Ob}{n:Nat}{Q:Int×Int×Nat->Shared->Prop}(hs:s.heap.IsSliceOf sl vl vu .none)(pl:IsPart vl lo)(pu:IsPart vu hi)
  (h:Q (((sIx n 0 lo:Nat):Int),1,sIx n n hi - sIx n 0 lo) s):wpAny (model prog w) A (Builtin.Slice.sliceApplied (.ref sl) (pure (n:Int))) Q E s:=by
 obtain⟨os,hos,hcs,hds⟩:=id hs;refine wB (wB (wpAny_field hos hds rfl (wB (wpAny_field hos hds rfl (wB (wpAny_field hos hds rfl (wP ?_)))))));refine wB (slicePart_none ?_);show wpAny _ _ _ _ _ s;refine wB (vT pl (wB (vT pu (wB (wP ?_)))));show wpAny _ _ (match Builtin.Slice.sliceAdjust lo hi 1 _ with |(lo,hi)=>pure (lo,_,Builtin.Slice.slicePlaces lo hi 1)) _ _ s;rw[KR lo hi n];show wpAny _ _ (pure _) _ _ s;rw[KS];exact wP h
theorem UH(xs:Nd)(i k:Nat):((List.range k).filterMap λ(m:Nat)=>xs[((i:Int)+(m:Int) * 1).toNat]?).toArray=((xs.toList.drop i).take k).toArray:=by
 have e:(λ(m:Nat)=>xs[((i:Int)+(m:Int) * 1).toNat]?)=λm=>xs[i+m]? :=by
  funext m;have:((i:Int)+(m:Int) * 1).toNat=i+m:=by lia
  rw[this]
 rw[e];have:=pick_run xs i k;rw[List.filterMap_map]at this;have e2:((λx=>xs[x]?)∘λx=>i+x)=λm=>xs[i+m]? :=rfl;rw[e2]at this;rw[this]
def getItem_tuple_cut{t sl:Addr}{items:Nd}{vl vu:Value}{lo hi:Ob}{Q:VP}(ht:IsTup s.heap t items)(hs:s.heap.IsSliceOf sl vl vu .none)(pl:IsPart vl lo)(pu:IsPart vu hi)
  (hw: ¬(sIx items.size 0 lo=0/\sIx items.size items.size hi=items.size))
  (h:Q (.ref s.heap.objs.size) {s with heap:=s.heap.push {cls:=.type "tuple",data:=.seq ((items.toList.drop (sIx items.size 0 lo)).take (sIx items.size items.size hi - sIx items.size 0 lo)).toArray}})
  (hsz:items.size<=sizeLine):wpAny (model prog w) A (getItem (.ref t) (.ref sl)) Q E s:=by
 have htake:sizeOk (.seq ((items.toList.drop (sIx items.size 0 lo)).take (sIx items.size items.size hi - sIx items.size 0 lo)).toArray):=by show((items.toList.drop (sIx items.size 0 lo)).take _).toArray.size<=sizeLine;rw[sA,lT,List.length_drop,Array.length_toList];omega
 have hj:sIx items.size items.size hi<=items.size:=sIx_le _ _ (Nat.le_refl _) hi;obtain⟨os,hos,hcs,hds⟩:=id hs;have hTs:s.TypeIs (.ref sl) "slice":=⟨os,hos,hcs⟩
 unfold getItem
 try with_reducible refine wpAny_holding ?_
 first |refine wB (wP ?_)|skip
 refine wB (wpAny_sequenceKey ht.typeIs (by decide) ?_)
 refine wB (wpAny_callSpecial?_slot ht.typeIs PyProof.Rows.slot_tuple_getitem
  (wpAny_call_entry PyProof.Rows.slot_tuple_getitem ht.typeIs entry_tuple_getitem ?_ (args_tuple_getitem _ _)))
 show wpAny _ _ (Builtin.Tuple.tupleItemsOf (.ref t) >>= _) _ _ s;refine wB (tupleItemsOf_ ht ?_);refine wB (wpAny_typeOf hTs ?_);rw[iP (by decide)];refine wB (sliceApplied_gen hs pl pu ?_);have hno: ¬((((sIx items.size 0 lo:Nat):Int)==0&&(1:Int)==1&&(sIx items.size items.size hi - sIx items.size 0 lo)==items.size)=true):=by intro q;rw[aE,aE]at q;have q1:((sIx items.size 0 lo:Nat):Int)=0:=eq_of_beq q.1.1;have q2:sIx items.size items.size hi - sIx items.size 0 lo=items.size:=eq_of_beq q.2;exact hw ⟨by omega,by omega⟩
 show wpAny _ _ (if _=true then _ else _) _ _ s;rw[iN0 hno,UH]
 first
  |exact wB (wpAny_newObj_type (wP ⟨_,rfl,wP h⟩) htake)
  |exact wB _
  |exact wB _
  |exact wB _
end
end HT
namespace L2
open PySem PySem.Spec PyProof.Rows
abbrev TO:=St->Hp->(Option Int->Hp->Prop)->Prop
def PO(X:Cx)(e:Option Expr)(t:TO):Prop:=
 ∀(pins:Nk)(s:Shared)(σ:St)(H:Hp)(Q:Option Int->Hp->Prop),Inv X pins σ H s->t σ H Q->
  wpAny (model X.prog X.w) X.A (evalPart e X.env) (λu s'=> ∃o H',Inv X pins σ H' s'/\IsPart u o/\Q o H') X.xe s
def ZS:TO:=λ_ H Q=>Q none H
def Kn(t:TE):TO:=λσ H Q=>t σ H λx H1=> ∃i,x=.int i/\Q (some i) H1
section
variable{X:Cx}{e:Expr}{te:TE}{lo hi:Option Expr}{tl th:TO}{pos p2:Pos}
def ZT:PO X none ZS:=by intro pins s σ H Q I h;exact wP ⟨none,H,I,.none,h⟩
def ZU(h:PE X e te):PO X (some e) (Kn te):=by intro pins s σ H Q I hw;refine wM (h pins s σ H _ I hw) λu s1 ⟨x,H1,I1,r1,q1⟩=>?_;obtain⟨i,rfl,q⟩:=q1;obtain⟨t,rfl⟩:=r1;exact⟨_,H1,I1,.int i t,q⟩
def SlR(X:Cx)(r:V->Option Int->Option Int->Hp->VK->Prop):Prop:=
 ∀(pins:Nk)(s:Shared)(σ:St)(H:Hp)(x:V)(v vl vu:Value)(lo hi:Ob)(sl:Addr)(Q:VK),Inv X pins σ H s->RelV x v->s.heap.IsSliceOf sl vl vu .none->IsPart vl lo->IsPart vu hi->r x lo hi H Q->
  ∃T id,typeLookup (.type T) "__getitem__"=pure (some (.builtin id))/\s.TypeIs v T/\wpAny (model X.prog X.w) X.A (getItem v (.ref sl)) (EP X pins σ Q) X.xe s
def SlR.or{r r':V->Option Int->Option Int->Hp->VK->Prop}(h:SlR X r)(h':SlR X r'):SlR X (λx lo hi H Q=>r x lo hi H Q\/r' x lo hi H Q):=by
 intro pins s σ H x v vl vu lo hi sl Q I rx hs pl pu q;rcases q with q|q
 .exact h pins s σ H x v vl vu lo hi sl Q I rx hs pl pu q
 .exact h' pins s σ H x v vl vu lo hi sl Q I rx hs pl pu q
def tSl(r:V->Option Int->Option Int->Hp->VK->Prop)(te:TE)(tl th:TO):TE:=λσ H Q=>te σ H λx H1=>tl σ H1 λl H2=>th σ H2 λu H3=>r x l u H3 Q
def UI{r:V->Option Int->Option Int->Hp->VK->Prop}(hr:SlR X r)(he:PE X e te)(hl:PO X lo tl)(hu:PO X hi th):PE X (.Subscript e (.Slice lo hi none p2) pos) (tSl r te tl th):=by intro pins s σ H Q I h;refine Subscript_ (wM (he pins s σ H _ I h) λv s1 ⟨x,H1,I1,r1,q1⟩=>?_);refine wpAny_Slice (wM (hl pins s1 σ H1 _ I1 q1) λvl s2 ⟨l,H2,I2,pl,q2⟩=>wM (hu pins s2 σ H2 _ I2 q2) λvu s3 ⟨u,H3,I3,pu,q3⟩=>?_);refine wP ?_;have I4:Inv X pins σ H3 {s3 with heap:=s3.heap.push {cls:=.type "slice",data:=.fields #[vl,vu,.none]}}:=I3.kept λb ob q=>hP0 _ q;obtain⟨T,id,hT,ht,hg⟩:=hr pins {s3 with heap:=s3.heap.push {cls:=.type "slice",data:=.fields #[vl,vu,.none]}} σ H3 x v vl vu l u s3.heap.objs.size Q I4 r1 (Heap.IsSliceOf.new ..) pl pu q3;show wpAny _ X.A _ _ X.xe {s3 with heap:=s3.heap.push {cls:=.type "slice",data:=.fields #[vl,vu,.none]}};exact tail_any ht hT hg (by with_unfolding_all rfl)
def QT(xs:List V)(lo hi:Ob):List V:=(xs.drop (HT.sIx xs.length 0 lo)).take (HT.sIx xs.length xs.length hi - HT.sIx xs.length 0 lo)
theorem uC(xs:List V)(lo hi:Ob):(QT xs lo hi).length<=xs.length:=by
 unfold QT;rw[lT,List.length_drop]
 lia
def rSlT(K:Od):V->Option Int->Option Int->Hp->VK->Prop:=λx lo hi H Q=> ∃a xs,x=.ref a/\SqT K H a xs/\
 ¬(HT.sIx xs.length 0 lo=0/\HT.sIx xs.length xs.length hi=xs.length)/\ ∀p,H p=none->Q (.ref p) (xT H p (.tup (QT xs lo hi)))
def Ft:SlR X (rSlT X.K):=by
 intro pins s σ H x v vl vu lo hi sl Q I rx hs pl pu h;obtain⟨a,xs,rfl,hx,hw,q⟩:=h;cases rx;obtain⟨its,r,ht,hz⟩:=I.tuple hx;have hlen:its.toArray.size=xs.length:=by rw[sA];exact r.length.symm
 refine⟨_,_,PyProof.Rows.slot_tuple_getitem.lookup,ht.typeIs,?_⟩;refine HT.getItem_tuple_cut ht hs pl pu (by rw[hlen];exact hw) ?_ (by rw[hlen];exact hz);rw[hlen];refine⟨.ref s.heap.objs.size,_,I.laid (λb ob q=>hP0 _ q) (Nat.le_refl _) ?_,rfl,q _ (I.hok.fresh (Nat.le_refl _))⟩;exact⟨Nat.le_trans (uC xs lo hi) hz,_,(r.drop _).take _,IsTup.new _ _⟩
def Ko(K:Od):R2:=λx y H Q=> ∃a b xs ys,x=.ref a/\y=.ref b/\SqT K H a xs/\SqT K H b ys/\xs≠[]/\xs.length+ys.length<=sizeLine/\
 (ys=[]->Q (.ref a) H)/\(ys≠[]-> ∀p,H p=none->Q (.ref p) (xT H p (.tup (xs++ys))))
def Vals.nil_iff{xs:List V}{us:Nc}(r:Vals xs us):us=[]↔xs=[]:=by
 cases r with
 |nil=>simp
 |cons _ _=>simp
def ZV:OpR X (binaryOp .Add) (Ko X.K):=by intro pins s σ H x y v u Q I rx ry h;obtain⟨a,b,xs,ys,rfl,rfl,ha,hb,hx,hz,q1,q2⟩:=h;cases rx;cases ry;obtain⟨its,r1,p1,_⟩:=I.tuple ha;obtain⟨its2,r2,p2,_⟩:=I.tuple hb;refine HT.cat_tup p1 p2 (λz=>hx (r1.nil_iff.mp z)) (λz=>⟨.ref a,H,I,rfl,q1 (r2.nil_iff.mp z)⟩) (λz=>?_) (by rw[<-r1.length, <-r2.length];exact hz);refine⟨.ref s.heap.objs.size,_,I.laid (λb ob q=>hP0 _ q) (Nat.le_refl _) ?_,rfl,q2 (λw=>z (r2.nil_iff.mpr w)) _ (I.hok.fresh (Nat.le_refl _))⟩;exact⟨by rw[lA];exact hz,_,r1.append r2,IsTup.new _ _⟩
end
def HS(n:Nat)(i:Int):Option Nat:=if 0<=i then(if i<n then some i.toNat else none)else if -(n:Int)<=i then some (i+n).toNat else none
def lE{α:Type}(xs:List α)(i:Int):Option α:=(HS xs.length i).bind λj=>xs[j]?
theorem NY{n:Nat}{i:Int}{j:Nat}(h:HS n i=some j):seqIndex? i n=some j/\j<n/\ -(n:Int)<=i/\i<n:=by
 unfold HS at h;by_cases h0:0<=i
 .rw[iP h0]at h;by_cases h1:i<n
  .rw[iP h1]at h;have e:=Option.some.inj h;exact⟨by rw[seqIndex_of h0 h1,e],by lia,by lia,h1⟩
  .rw[iN0 h1]at h;cases h
 .rw[iN0 h0]at h;by_cases h1: -(n:Int)<=i
  .rw[iP h1]at h;have e:=Option.some.inj h;exact⟨by rw[seqIndex_neg (by lia) h1,e],by lia,h1,by lia⟩
  .rw[iN0 h1]at h;cases h
def EZ{α:Type}{xs:List α}{i:Int}{v:α}(h:lE xs i=some v): ∃j,seqIndex? i xs.length=some j/\xs[j]? =some v/\j<xs.length/\ -(xs.length:Int)<=i/\i<xs.length:=by
 unfold lE at h
 cases e:HS xs.length i with
 |none=>rw[e]at h;cases h
 |some j=>
  rw[e]at h;obtain⟨h1,h2,h3,h4⟩:=NY e;exact⟨j,h1,h,h2,h3,h4⟩
def FA(b:Expr):Prop:= ∀o i,subscripted b false o i=operate [o,i] (getItem o i)
def IxR(X:Cx)(r:R2):Prop:=
 ∀(value slice:Expr)(pins:Nk)(s:Shared)(σ:St)(H:Hp)(x y:V)(v u:Value)(Q:VK),Inv X pins σ H s->RelV x v->RelV y u->r x y H Q->
  subscripted slice false v u=operate [v,u] (getItem v u)->wpAny (model X.prog X.w) X.A (subscriptTail value slice v u) (EP X pins σ Q) X.xe s
def MtR(X:Cx)(id:String)(r:V->List V->Hp->VK->Prop):Prop:=
 ∀(pins:Nk)(s:Shared)(σ:St)(H:Hp)(x:V)(xs:List V)(v:Value)(us:Nc)(Q:VK),Inv X pins σ H s->RelV x v->Vals xs us->r x xs H Q->
  wpAny (model X.prog X.w) X.A (call (.builtin id) (v::us)) (EP X pins σ Q) X.xe s
section
variable{X:Cx}{a b:Expr}{ta tb:TE}{pos:Pos}
def IxR.or{r r':R2}(h:IxR X r)(h':IxR X r'):IxR X (λx y H Q=>r x y H Q\/r' x y H Q):=by
 intro value slice pins s σ H x y v u Q I rx ry q hs;rcases q with q|q
 .exact h value slice pins s σ H x y v u Q I rx ry q hs
 .exact h' value slice pins s σ H x y v u Q I rx ry q hs
def Kp{r:R2}(hr:IxR X r)(ha:PE X a ta)(hb:PE X b tb)(hs:FA b):PE X (.Subscript a b pos) (Mt r ta tb):=by intro pins s σ H Q I h;exact Subscript_ (Fc ha hb I h λv u s2 x y H2 I2 rx ry q=>hr a b pins s2 σ H2 x y v u Q I2 rx ry q (hs _ _))
def Kq(K:Od):R2:=λx y H Q=> ∃p xs i v,x=.ref p/\y=.int i/\SqL K H p xs/\lE xs i=some v/\Q v H
def Kr(K:Od):R2:=λx y H Q=> ∃p xs i v,x=.ref p/\y=.int i/\SqT K H p xs/\lE xs i=some v/\Q v H
def Ks:R2:=λx y H Q=> ∃z i c,x=.str z/\y=.int i/\z.length<=sizeLine/\lE z.cps.toList i=some c/\Q (.str ⟨#[c]⟩) H
theorem ZW:IxR X (Kq X.K):=by
 intro value slice pins s σ H x y v u Q I rx ry h hs;obtain⟨p,xs,i,z,rfl,rfl,hq,he,q⟩:=h;cases rx;obtain⟨t,rfl⟩:=ry;obtain⟨its,r,pl,hz⟩:=I.list hq;obtain⟨j,h1,h2,h3,h4,h5⟩:=EZ he;obtain⟨w,ew,rw'⟩:=r.get h2;have hl:=r.length;have hn:=sQ;have fin:EP X pins σ Q w s:=⟨z,H,I,rw',q⟩
 by_cases h0:0<=i
 .have hj:=by rw[seqIndex_of h0 h5]at h1;exact Option.some.inj h1
  exact item_listR pl.isList h0 (by lia) (by rw[hj];simpa using ew) fin hs
 .have hj:(i+(its.toArray.size:Int)).toNat=j:=by rw[seqIndex_neg (by lia) h4]at h1;rw[sA, <-hl];exact Option.some.inj h1
  exact subscriptTail_builtinR pl.isList.typeIs slot_list_getitem.lookup
   (wpAny_getItem_list_neg pl.isList (by lia) (by rw[sA]<;>lia) (by lia) (by rw[hj];simpa using ew) ⟨rfl,fin⟩) hs
theorem ix_tup:IxR X (Kr X.K):=by
 intro value slice pins s σ H x y v u Q I rx ry h hs;obtain⟨p,xs,i,z,rfl,rfl,hq,he,q⟩:=h;cases rx;obtain⟨t,rfl⟩:=ry;obtain⟨its,r,pl,hz⟩:=I.tuple hq;obtain⟨j,h1,h2,h3,h4,h5⟩:=EZ he;obtain⟨w,ew,rw'⟩:=r.get h2;have hl:=r.length;have hn:=sQ;have fin:EP X pins σ Q w s:=⟨z,H,I,rw',q⟩
 exact subscriptTail_builtinR pl.typeIs slot_tuple_getitem.lookup
  (getItem_tuple pl (by lia) (by lia) (by rw[sA, <-hl];exact h1) (by simpa using ew) ⟨rfl,fin⟩) hs
theorem Fv:IxR X Ks:=by
 intro value slice pins s σ H x y v u Q I rx ry h hs;obtain⟨z,i,c,rfl,rfl,hz,he,q⟩:=h;obtain⟨t,rfl⟩:=rx;obtain⟨t',rfl⟩:=ry;obtain⟨j,h1,h2,h3,h4,h5⟩:=EZ he;have hl:z.cps.toList.length=z.length:=by simp[Str.length]
 rw[hl]at h1 h4 h5;have hn:=sQ;exact tail_any (typeIs_str s z t) slot_str_getitem.lookup (getItem_str (by have e1:decide (i< -(2 ^ 63:Int))=false:=dF0 (by lia);have e2:decide (i>=2 ^ 63)=false:=dF0 (by lia);rw[e1,e2,Bool.or_false]) (by rw[h1];simpa using h2) ⟨.str ⟨#[c]⟩,H,I.tok _,⟨_,rfl⟩,q⟩) hs
def rIx(K:Od):R2:=λx y H Q=>Kq K x y H Q\/Kr K x y H Q\/Ks x y H Q
def Fw:IxR X (rIx X.K):=ZW.or (ix_tup.or Fv)
def Inv.lst{pins:Nk}{σ:St}{H:Hp}{s:Shared}{p:Addr}{xs:List V}(I:Inv X pins σ H s)(h:H p=some (.lst xs)):
  ∃(its:Nc)(n:Nat),Vals xs its/\s.heap.get? p=some {cls:=.type "list",data:=.seq its.toArray n}/\xs.length<=sizeLine:=by
 obtain⟨z,its,n,r,e⟩:=I.hok p _ h;exact⟨its,n,r,e,z⟩
theorem FB(lo hi:Ob)(n:Nat):(sliceBounds lo hi none n).1=((HT.sIx n 0 lo:Nat):Int)/\(sliceBounds lo hi none n).2.1=((HT.sIx n n hi:Nat):Int)/\(sliceBounds lo hi none n).2.2=1:=by
 refine⟨?_,?_,rfl⟩
 .cases lo with
  |none=>simp[sliceBounds,HT.sIx]
  |some i=>
   simp only[sliceBounds,HT.sIx,Option.getD_none,if_true];by_cases h:i<0
   .simp only[h,if_true]<;>lia
   .simp only[h,iF]<;>lia
 .cases hi with
  |none=>simp[sliceBounds,HT.sIx]
  |some i=>
   simp only[sliceBounds,HT.sIx,Option.getD_none,if_true];by_cases h:i<0
   .simp only[h,if_true]<;>lia
   .simp only[h,iF]<;>lia
theorem CP(its:Nc)(lo hi:Ob):slicePick its.toArray lo hi none=((its.drop (HT.sIx its.length 0 lo)).take (HT.sIx its.length its.length hi - HT.sIx its.length 0 lo)).toArray:=by obtain⟨h1,h2,h3⟩:=FB lo hi its.toArray.size;unfold slicePick;rw[h1,h2,h3];simp only[sliceRange_one,pick_run]<;>rfl
def rSlL(K:Od):V->Option Int->Option Int->Hp->VK->Prop:=λx lo hi H Q=> ∃a xs,x=.ref a/\SqL K H a xs/\ ∀p,H p=none->Q (.ref p) (xT H p (.lst (QT xs lo hi)))
theorem ZX:SlR X (rSlL X.K):=by intro pins s σ H x v vl vu lo hi sl Q I rx hs pl pu h;obtain⟨a,xs,rfl,hx,q⟩:=h;cases rx;obtain⟨its,r,ht,hz⟩:=I.list hx;have hlen:=r.length;refine⟨_,_,slot_list_getitem.lookup,ht.isList.typeIs,?_⟩;refine wpAny_getItem_list_slice ht.isList hs pl pu .none (by simp) ?_ (by rw[sA]<;>lia);rw[CP, <-hlen];refine⟨.ref s.heap.objs.size,_,I.laid (λb ob q=>hP0 _ q) (Nat.le_refl _) ?_,rfl,q _ (I.hok.fresh (Nat.le_refl _))⟩;exact⟨Nat.le_trans (uC xs lo hi) hz,_,0,(r.drop _).take _,Heap.get?_push_size _ rfl⟩
def eK:V->Bool
 |.non=>true
 |.bl _=>true
 |.int _=>true
 |.str _=>true
 |_=>false
def ZY:V->V->Bool
 |.non,.non=>true
 |.bl a,.bl b=>a==b
 |.bl a,.int b=>(if a then 1 else 0)==b
 |.int a,.bl b=>a==(if b then 1 else 0)
 |.int a,.int b=>a==b
 |.str a,.str b=>a==b
 |_,_=>false
def Fx{A:Around}{s:Shared}{y x:V}{u v:Value}(ry:RelV y u)(rx:RelV x v)(fy:eK y=true)(fx:eK x=true):SeqAt.EqAt A s u v (ZY y x):=by
 cases y with
 |non=>
  cases ry
  cases x with
  |non=>cases rx;exact SeqAt.EqAt.same _
  |bl b=>cases rx;exact SeqAt.EqAt.none_bool b
  |int b=>obtain⟨t,rfl⟩:=rx;exact SeqAt.EqAt.none_int b t
  |str b=>obtain⟨t,rfl⟩:=rx;exact SeqAt.EqAt.none_str b t
  |_=>exact absurd fx xF0
 |bl a=>
  cases ry
  cases x with
  |non=>cases rx;exact SeqAt.EqAt.bool_none a
  |bl b=>cases rx;exact SeqAt.EqAt.bool_bool a b
  |int b=>obtain⟨t,rfl⟩:=rx;exact SeqAt.EqAt.bool_int a b t
  |str b=>obtain⟨t,rfl⟩:=rx;exact SeqAt.EqAt.bool_str a b t
  |_=>exact absurd fx xF0
 |int a=>
  obtain⟨t',rfl⟩:=ry
  cases x with
  |non=>cases rx;exact SeqAt.EqAt.int_none a t'
  |bl b=>cases rx;exact SeqAt.EqAt.int_bool a t' b
  |int b=>obtain⟨t,rfl⟩:=rx;exact SeqAt.EqAt.int_int a t' b t
  |str b=>obtain⟨t,rfl⟩:=rx;exact SeqAt.EqAt.int_str a t' b t
  |_=>exact absurd fx xF0
 |str a=>
  obtain⟨t',rfl⟩:=ry
  cases x with
  |non=>cases rx;exact SeqAt.EqAt.str_none a t'
  |bl b=>cases rx;exact SeqAt.EqAt.str_bool a t' b
  |int b=>obtain⟨t,rfl⟩:=rx;exact SeqAt.EqAt.str_int a t' b t
  |str b=>obtain⟨t,rfl⟩:=rx;exact SeqAt.EqAt.str_str a t' b t
  |_=>exact absurd fx xF0
 |_=>exact absurd fy xF0
theorem FC:CallR X (.builtin "len") (λxs H Q=> ∃p ys,xs=[.ref p]/\(SqL X.K H p ys\/SqT X.K H p ys)/\Q (.int ys.length) H):=by
 intro pins s σ H xs us Q I r h;obtain⟨p,ys,rfl,hq,q⟩:=h;obtain⟨u,rfl,rx⟩:=vals1 r;cases rx;have hn:=sQ;rcases hq with hq|hq
 .obtain⟨its,r',pl,hz⟩:=I.list hq;have hlen:=r'.length;exact Calls.call_len_list pl.isList (by simp only[sA]<;>lia) ⟨.int ys.length,H,I.tok _,⟨_,by rw[sA,hlen]⟩,q⟩
 .obtain⟨its,r',pl,hz⟩:=I.tuple hq;have hlen:=r'.length;exact len_tuple pl (by simp only[sA]<;>lia) ⟨.int ys.length,H,I.tok _,⟨_,by rw[sA,hlen]⟩,q⟩
theorem FD:CallR X (.builtin "len") (λxs H Q=> ∃z,xs=[.str z]/\z.length<=sizeLine/\Q (.int z.length) H):=by intro pins s σ H xs us Q I r h;obtain⟨z,rfl,hz,q⟩:=h;obtain⟨u,rfl,t,rfl⟩:=vals1 r;have hn:=sQ;exact len_str (by lia) ⟨.int z.length,H,I.tok _,⟨_,rfl⟩,q⟩
def CallR.or{f:Value}{r r':List V->Hp->VK->Prop}(h:CallR X f r)(h':CallR X f r'):CallR X f (λxs H Q=>r xs H Q\/r' xs H Q):=by
 intro pins s σ H xs us Q I rs q;rcases q with q|q
 .exact h pins s σ H xs us Q I rs q
 .exact h' pins s σ H xs us Q I rs q
theorem jC:CallR X (.type "tuple") (λxs H Q=> ∃p ys,xs=[.ref p]/\((SqL X.K H p ys/\ ∀l,H l=none->Q (.ref l) (xT H l (.tup ys)))\/(SqT X.K H p ys/\Q (.ref p) H))):=by
 intro pins s σ H xs us Q I r h;obtain⟨p,ys,rfl,h⟩:=h;obtain⟨u,rfl,rx⟩:=vals1 r;cases rx;rcases h with⟨hq,q⟩|⟨hq,q⟩
 .obtain⟨its,r',pl,hz⟩:=I.list hq;have hlen:=r'.length;refine call_tuple_list pl.isList (λh' kp=>?_) (by simp only[sA]<;>lia);have I1:Inv X pins σ H {s with heap:=h'}:=I.kept kp
  have I2:Inv X pins σ (xT H h'.objs.size (.tup ys)) {s with heap:=h'.push {cls:=.type "tuple",data:=.seq its.toArray}}:=
   I1.laid (λb o e=>hP0 _ e) (Nat.le_refl _) (⟨hz,its,r',IsTup.new _ _⟩)
  exact⟨.ref h'.objs.size,_,I2,rfl,q _ (I1.hok.fresh (Nat.le_refl _))⟩
 .obtain⟨its,r',pl,hz⟩:=I.tuple hq;exact call_tuple_same pl ⟨.ref p,H,I,rfl,q⟩
def tyV(K:Od)(T:String)(x:V)(H:Hp):Prop:=match x with
 |.str _=>T="str"
 |.int _=>T="int"
 |.ref p=>(T="list"/\ ∃xs,SqL K H p xs)\/(T="tuple"/\ ∃o,K.lookup p=some o/\o.cls=.type "tuple"/\o.dict=none)\/
   (T="dict"/\((∃kvs,H p=some (.dK kvs))\/ ∃kvs,H p=some (.dT kvs)))\/(T="set"/\ ∃S n,H p=some (.set S n))
 |_=>False
def Fy{pins:Nk}{σ:St}{H:Hp}{s:Shared}{T:String}{x:V}{v:Value}(I:Inv X pins σ H s)(r:RelV x v)(ty:tyV X.K T x H):
  s.TypeIs v T/\ ∀a,v=.ref a-> ∃ob,s.heap.get? a=some ob/\ob.dict=none:=by
 cases x with
 |str z=>
  obtain⟨t,rfl⟩:=r;cases ty;exact⟨typeIs_str s z t,λ_ e=>nomatch e⟩
 |int i=>
  obtain⟨t,rfl⟩:=r;cases ty;exact⟨typeIs_int s i t,λ_ e=>nomatch e⟩
 |ref p=>
  cases r;rcases ty with⟨rfl,xs,hq⟩|⟨rfl,o,hk,hc,hd⟩|⟨rfl,hk⟩|⟨rfl,S,n,hk⟩
  .obtain⟨its,_,pl,_⟩:=I.list hq;refine⟨pl.isList.typeIs,λa e=>?_⟩;cases e;obtain⟨o,n,e,c,hd,_⟩:=pl;exact⟨o,e,hd⟩
  .refine⟨⟨o,I.kIn p o hk,hc⟩,λa e=>?_⟩;cases e;exact⟨o,I.kIn _ o hk,hd⟩
  .have z: ∃o,s.heap.get? p=some o/\o.ExactDict:=by
    rcases hk with⟨kvs,hk⟩|⟨kvs,hk⟩
    .obtain⟨_,_,_,_,o,_,_,e,ex,_⟩:=I.hok p _ hk;exact⟨o,e,ex⟩
    .obtain⟨_,_,_,_,o,_,_,e,ex,_⟩:=I.hok p _ hk;exact⟨o,e,ex⟩
   obtain⟨o,e,ex⟩:=z;refine⟨⟨o,e,ex.1⟩,λa e2=>?_⟩;cases e2;exact⟨o,e,ex.2.1⟩
  .obtain⟨o,_,_,_,e,ex,_⟩:=I.hok p _ hk;refine⟨⟨o,e,ex.1⟩,λa e2=>?_⟩;cases e2;exact⟨o,e,ex.2.1⟩
 |_=>exact False.elim ty
def tBM(K:Od)(T:String)(r:V->List V->Hp->VK->Prop)(to:TE)(t:TA):TE:=λσ H Q=>to σ H λx H1=>tyV K T x H1/\t σ H1 λxs H2=>r x xs H2 Q
variable{o e:Expr}{es:Oc}{to:TE}{t:TA}{name:Str}{apos cpos:Pos}{T id:String}{r:V->List V->Hp->VK->Prop}
def Kt(pa:PlainAttrs T)(slot:Slot T name id)(hty:typeOf (.builtin id)=pure (.type "method_descriptor"))(hm:MtR X id r)(ho:PE X o to)(ha:PA X (e::es) t)
  (hbase:attributeBase o name X.env (eval o X.env)=eval o X.env:=by rfl)
  (hfew:((backTo cpos (starEach (e::es) X.env)).all (λx=>!x.1)&&(backToKw cpos (keywordEach [] X.env)).all (λx=>x.1.isSome)
   &&decide ((e::es).length+([]:List Keyword).length+(if([]:List Keyword).isEmpty then 0 else 1)<30))=true:=by rfl)
  (hline:(apos.endLine==cpos.line)=true:=by rfl) (hs:starEach (e::es) X.env=(false,eval e X.env)::starEach es X.env:=by rfl) (hplain:(backTo cpos (starEach es X.env)).any (·.1)=false:=by rfl):
  PE X (.Call (.Attribute o name apos) (e::es) [] cpos) (tBM X.K T r to t):=by
 intro pins s σ H Q I h;refine wpAny_Call_method_late hbase hfew hline rfl (wM (ho pins s σ H _ I h) λv s1 ⟨x,H1,I1,r1,ty,q1⟩=>?_);obtain⟨h1,h2⟩:=Fy I1 r1 ty;refine⟨T,id,pa,slot,hty,h1,h2,?_⟩;have hA:=ha cpos pins s1 σ H1 _ I1 q1;rw[hs]at hA ⊢;refine Calls.callWith_builtin (by show(false || (backTo cpos _).any (·.1))=false;rw[hplain]<;>rfl) (Calls.evalArgs_plain ?_);exact wM hA λus s2 ⟨vs,H2,I2,r2,q2⟩=>hm pins s2 σ H2 x vs v us Q I2 r1 r2 q2
end
def MtM(X:Cx)(id:String)(r:V->List V->Hp->VK->Prop):Prop:=
 ∀(pins:Nk)(s:Shared)(σ:St)(H:Hp)(x:V)(xs:List V)(v:Value)(us:Nc)(Q:VK),Inv X pins σ H s->RelV x v->Vals xs us->r x xs H Q->
  wpAny (model X.prog X.w) X.A (call (.builtin id) (v::us)) (EP X pins σ Q) X.xe s
def Vals.one: ∀{x:V}{us:Nc},Vals [x] us-> ∃u,us=[u]/\RelV x u
 |_,_,.cons r .nil=>⟨_,rfl,r⟩
theorem Vals.eraseIdx: ∀{xs:List V}{us:Nc}(i:Nat),Vals xs us->Vals (xs.eraseIdx i) (us.eraseIdx i)
 |_,_,_,.nil=>.nil
 |_,_,0,.cons _ t=>t
 |_,_,i+1,.cons r t=>.cons r (Vals.eraseIdx i t)
theorem Vals.rep{xs:List V}{us:Nc}(h:Vals xs us): ∀k:Nat,Vals (List.replicate k xs).flatten (List.replicate k us).flatten
 |0=>.nil
 |k+1=>by exact Vals.append h (Vals.rep h k)
theorem DQ{α:Type}: ∀(l:List α)(i:Nat),(l.eraseIdx i).length<=l.length
 |[],_=>Nat.le_refl _
 |_::_,0=>le_succ _
 |_::r,i+1=>Nat.succ_le_succ (DQ r i)
theorem foldl_rep(its:Nc): ∀(k:Nat)(acc:Nc),
  List.foldl (λx1 x2=>x1++x2) acc.toArray (List.replicate k its.toArray)=(acc++(List.replicate k its).flatten).toArray
 |0,acc=>by simp
 |k+1,acc=>by
  have e:acc.toArray++its.toArray=(acc++its).toArray:=by simp
  have e2:(acc++its)++(List.replicate k its).flatten=acc++(List.replicate (k+1) its).flatten:=by rw[replicate_succ,flatten_cons,aA]
  rw[<-e2, <-foldl_rep its k _, <-e,replicate_succ,List.foldl_cons]
section
variable{X:Cx}{pins:Nk}{σ:St}{H:Hp}{s:Shared}{l:Addr}{xs ys:List V}
def Inv.lset{its its':Nc}{n:Nat}{f:Array Value->Array Value}{t':Nat}(I:Inv X pins σ H s)(hH:H l=some (.lst xs))
  (e:s.heap.get? l=some {cls:=.type "list",data:=.seq its.toArray n}) (hf:f its.toArray=its'.toArray) (hv:Vals ys its') (hz:ys.length<=sizeLine):
  Inv X pins σ (xT H l (.lst ys)) {s with heap:=s.heap.update l (Obj.mapSeq f),toks:=t'}:=by
 have q:=PySem.IsL.update e f;rw[hf]at q;refine I.write (by rw[hH];exact trivial) (.inl rfl) (λb' u hb hu=>(Heap.get?_update_other s.heap _ (Ne.symm hb)).trans hu) ⟨_,q⟩ ?_;exact⟨hz,its',_,hv,q⟩
def Inv.lnew{its:Nc}{t':Nat}(I:Inv X pins σ H s)(hv:Vals ys its)(hz:ys.length<=sizeLine):
  Inv X pins σ (xT H s.heap.objs.size (.lst ys)) {s with heap:=s.heap.push {cls:=.type "list",data:=.seq its.toArray},toks:=t'}:=
 I.laid (λ_ _ q=>hP0 _ q) (Nat.le_refl _) ⟨hz,its,0,hv,Heap.get?_push_size _ rfl⟩
def Inv.fresh(I:Inv X pins σ H s):H s.heap.objs.size=none:=I.hok.fresh (Nat.le_refl _)
def Inv.lstM(I:Inv X pins σ H s)(hH:H l=some (.lst xs)):xs.length<=sizeLine/\ ∃(its:Nc)(n:Nat),Vals xs its/\xs.length=its.length/\s.heap.get? l=some {cls:=.type "list",data:=.seq its.toArray n}:=by obtain⟨z,its,n,r,e⟩:=I.hok l _ hH;exact⟨z,its,n,r,r.length,e⟩
theorem UJ{n:Nat}(h:n<=sizeLine):Builtin.List.listTooLong n=false:=by exact dF0 (by lia)
end
section
variable{X:Cx}
def NZ:V->List V->Hp->VK->Prop:=λx vs H Q=> ∃l xs y,x=.ref l/\vs=[y]/\H l=some (.lst xs)/\xs.length<sizeLine/\Q .non (xT H l (.lst (xs++[y])))
theorem QU:MtM X "list.append" NZ:=by
 intro pins s σ H x vs v us Q I rx rv h;obtain⟨l,xs,y,rfl,rfl,hH,hz,q⟩:=h;cases rx;obtain⟨u,rfl,ru⟩:=rv.one;obtain⟨z,its,n,r,hl,e⟩:=I.lstM hH;refine call_meets F.slot_list_append ⟨_,e,rfl⟩ F.entry_list_append (F.args_list_append_2 _ _) (PySem.list_append l its.toArray n u (by rw[sA];lia)) ⟨e,?_⟩;refine⟨.non,_,I.lset hH e (by simp) (r.append (.cons ru .nil)) ?_,rfl,q⟩;rw[lA,lS]
 lia
def UK:V->List V->Hp->VK->Prop:=λx vs H Q=> ∃l xs i k y,x=.ref l/\vs=[.int i]/\H l=some (.lst xs)/\ -(2 ^ 63)<=i/\i<2 ^ 63/\seqIndex? i xs.length=some k/\xs[k]? =some y/\Q y (xT H l (.lst (xs.eraseIdx k)))
def UL:MtM X "list.pop" UK:=by
 intro pins s σ H x vs v us Q I rx rv h;obtain⟨l,xs,i,k,y,rfl,rfl,hH,h1,h2,hk,hy,q⟩:=h;cases rx;obtain⟨u,rfl,ru⟩:=rv.one;obtain⟨t,rfl⟩:=ru;obtain⟨z,its,n,r,hl,e⟩:=I.lstM hH;obtain⟨w,hw,rw'⟩:=r.get hy
 refine call_meets F.slot_list_pop ⟨_,e,rfl⟩ F.entry_list_pop (F.args_list_pop_2 _ _)
  (MeetsSeq.list_pop_at l its.toArray n i t k w (fitsIndex_both h1 h2) (by rw[sA, <-hl];exact hk) (by rw[<-Array.getElem?_toList];exact hw) (by rw[sA];omega)) ⟨e,?_⟩
 refine⟨y,_,I.lset (its':=its.eraseIdx k) hH e ?_ (r.eraseIdx k) ?_,rw',q⟩
 .show its.toArray.eraseIdxIfInBounds k=(its.eraseIdx k).toArray;rw[List.eraseIdxIfInBounds_toArray]
 .have:=DQ xs k;omega
def rCat:R2:=λx y H Q=> ∃l b xs zs,x=.ref l/\y=.ref b/\H l=some (.lst xs)/\H b=some (.lst zs)/\xs.length+zs.length<=sizeLine/\ ∀p,H p=none->Q (.ref p) (xT H p (.lst (xs++zs)))
theorem Fz:OpR X (binaryOp .Add) rCat:=by
 intro pins s σ H x y v u Q I rx ry h;obtain⟨l,b,xs,zs,rfl,rfl,hH,hB,hz,q⟩:=h;cases rx;cases ry;obtain⟨z,its,n,r,hl,e⟩:=I.lstM hH;obtain⟨z2,its2,n2,r2,hl2,e2⟩:=I.lstM hB;refine PySem.P.add_list e e2 ?_ (by rw[sA,sA];lia);have ea:its.toArray++its2.toArray=(its++its2).toArray:=by simp
 rw[ea];exact⟨.ref _,_,I.lnew (r.append r2) (by rw[lA];lia),rfl,q _ I.fresh⟩
def rRep:R2:=λx y H Q=> ∃l k xs,x=.ref l/\y=.int k/\H l=some (.lst xs)/\ -(2 ^ 63)<=k/\k<2 ^ 63/\xs.length * k.toNat<=sizeLine/\
 ∀p,H p=none->Q (.ref p) (xT H p (.lst (List.replicate k.toNat xs).flatten))
def len_rep{α:Type}(xs:List α)(k:Nat):(List.replicate k xs).flatten.length=k * xs.length:=by
 induction k with
 |zero=>simp
 |succ k ih=>rw[replicate_succ,flatten_cons,lA,ih,Nat.succ_mul,Nat.add_comm]
theorem Ga:OpR X (binaryOp .Mult) rRep:=by
 intro pins s σ H x y v u Q I rx ry h;obtain⟨l,k,xs,rfl,rfl,hH,h1,h2,hz,q⟩:=h;cases rx;obtain⟨t,rfl⟩:=ry;obtain⟨z,its,n,r,hl,e⟩:=I.lstM hH;have hlen:its.toArray.size * k.toNat<=sizeLine:=by rw[sA, <-hl];exact hz
 have hcap: ¬its.toArray.size * k.toNat>(2 ^ 63 - 1) / 8:=by
  have:(sizeLine:Nat)<=(2 ^ 63 - 1) / 8:=by decide
  lia
 have hfit: ¬(!Builtin.List.listFitsIndex k)=true:=by rw[fitsIndex_both h1 h2];exact xF0
 have hlong: ¬Builtin.List.listTooLong (its.toArray.size * k.toNat)=true:=by rw[UJ hlen];exact xF0
 have hnew:List.foldl (λx1 x2=>x1++x2) #[] (List.replicate (if its.toArray.isEmpty=true then 0 else k.toNat) its.toArray)=(List.replicate k.toNat its).flatten.toArray:=by
  have f0: ∀m:Nat,List.foldl (λx1 x2=>x1++x2) #[] _=(List.replicate m its).flatten.toArray:=λm=>by have:=foldl_rep its m [];exact this
  rw[f0]
  cases its with
  |nil=>simp
  |cons a r'=>rw[iN0 (by simp)]
 refine wpAny_binaryOp_repeat_ref (by decide) ⟨_,e,rfl⟩ (λs'=>typeIs_int s' k t) noFill_list_mul F.fills_int_mul F.slot_int_rmul repeat_list F.slot_int_index.lookup
  (call_meets F.slot_int_rmul (typeIs_int s k t) F.entry_int_rmul (F.args_int_rmul_2 _ _) (int___rmul___int_list k t l its.toArray n)
   ⟨e,rfl,⟨_,e,rfl⟩,call_meets F.slot_list_mul ⟨_,e,rfl⟩ F.entry_list_mul (F.args_list_mul_2 _ _) (AutoListH.list___mul___list_int_3 l its.toArray n k t hfit hcap hlong) ⟨e,?_⟩⟩)
 rw[hnew];exact⟨.ref _,_,I.lnew (r.rep k.toNat) (by rw[len_rep,Nat.mul_comm];exact hz),rfl,q _ I.fresh⟩
end
end L2
namespace Att
open PySem PySem.W PySem.Calls PyProof.Rows
def uO{P:Params}{h:Heap}: ∀(ns:Nb)(vs:Nc),WellAll P h vs (ns.map WData.int)->IntsAre vs ns:=by
 intro ns
 induction ns with
 |nil=>
  intro vs w;cases w;exact .nil
 |cons n ns ih=>
  intro vs w
  cases w with
  |cons a b=>
   cases a;exact .cons _ _ (ih _ b)
theorem QV{l:OpenLaw}{n:Nat}(hn:l.most=some n){P:Params}{h:Heap}{args:List WData}{vals:Nc}
  (hpre:l.row.toRowW.claim.pre args=true) (hwl:WellAll P h vals args):
  ∃a vs ns,vals=[Value.ref a]/\args=[WData.list (ns.map WData.int)]/\h.get? a=some {cls:=.type "list",data:=.seq vs.toArray}/\IntsAre vs ns/\ns.length<=n:=by
 have hsh:=(pre_splitW hpre).1;have hc:l.pre.holds [] {args:=args}=true:=(pre_splitW hpre).2;obtain⟨d,r,rfl,h1,h2⟩:=hasAllW_cons hsh;obtain rfl:=hasAllW_nil h2;obtain⟨xs,rfl,h3⟩:=hasW_list h1;obtain⟨ns,rfl⟩:=items_int h3
 have hlen:ns.length<=n:=by
  have h4:=by have h4:=(holds_andW hc).1;rw[hn]at h4;exact h4
  have h5:=condW_of h4 (w_not (w_lt w_lit (w_len_list (w_arg rfl))));refine Nat.le_of_not_lt λq=>?_;have q':=by omega
  first
   |(rw[dT0 q']at h5;exact absurd h5 (by decide))
   |(simp at h5;lia)
 cases hwl with
 |cons w1 w2=>
  cases w2
  cases w1 with
  |list ho hall=>exact⟨_,_,ns,rfl,rfl,ho,uO ns _ hall,hlen⟩
theorem QW(l:OpenLaw)(args:List WData):l.row.toRowW.claim.post args (.bool true) args=true:=
 postW_of
  (by first |rfl|decide|simp[WShape.has,WShape.arms,WShape.armsAll])
  (w_eq_bool (w_res rfl) w_lit) rfl
def attach_call{l:OpenLaw}{n:Nat}{q:Program}{loose:Nh}{XP:(Str->Option Value)->Heap->Prop}{YP:World->Heap->Prop}{d:DefRec}
  (hn:l.most=some n) (hdf:d.params.defaults=[])
  (call: ∀(w:World)(s₀ s₁:Shared)(mg mb:Ni)(fa:Addr)(o:Obj)(pm cd doc:Value)(a:Addr)(vs:Nc)(ns:Nb),
   Ground q loose [] XP w s₀ mg mb s₁.heap->YP w s₁.heap->
   s₁.heap.get? fa=some o->o.data=.func (docDef d.name d.params d.body d.scope pm cd doc)->s₁.heap.CodeRec cd d.name->mg d.name=some (.ref fa)->
   s₁.heap.get? a=some {cls:=.type "list",data:=.seq vs.toArray}->IntsAre vs ns->ns.length<=n->s₁.gens=#[]->
   codeAny (model l.prog w) callerA (.call (.ref fa) ⟨[.ref a],[]⟩) (λr s'=>r=.ok (.ret (.bool true))/\OldK s₁.heap s'.heap/\s'.os=s₁.os/\AllBare s'.gens) s₁):
  WalkO q loose XP YP l.row.toRowW d [] (λf vs=>PySem.call f vs):=by
 intro w s₀ s₁ mg mb G Y fa o pm cd doc dV kV ho hd hcd hD hmg hg args vals as hpre hlay hrd hwl hlo;obtain rfl:dV=.none:=Dflts.none hD hdf;obtain rfl:kV=.none:=Dflts.noKw hD;obtain⟨a,vs,ns,rfl,rfl,hobj,hints,hlen⟩:=QV hn hpre hwl;refine enter_call (codeAny_mono (call w s₀ s₁ mg mb fa o pm cd doc a vs ns G Y ho (fd_plain hd) hcd hmg hobj hints hlen hg) λr s' hq=>?_);obtain⟨rfl,h2,h3,h4⟩:=hq;exact⟨.inl ⟨_,_,[],rfl,λ_=>rfl,.bool true,QW l _,λ_=>⟨List.Pairwise.nil,λ_ hm=>(nomatch hm)⟩⟩,h2,h3,h4⟩
end Att
namespace L2
open PySem PySem.Spec PyProof.Rows
theorem DR: ∀{vs:Nc}{ns:Nb},IntsAre vs ns->Vals (ns.map V.int) vs
 |_,_,.nil=>.nil
 |_,_,.cons n t h=>.cons ⟨t,rfl⟩ (DR h)
def UM(H:Hp):Prop:= ∀b,H b=none\/ ∃o xs,H b=some (.frz o (.lst xs))
def UN{P:Program}{w:World}{K:Od}{mg mb:Ni}{CX:QR}{k:Nat}{fa a:Addr}{fd:FuncData}{x:Str}{sp:Sp}{s₁:Shared}{vs:Nc}{ns:Nb}
  (KX:K.In s₁.heap) (hns:s₁.heap.Ns mainGlobals mg) (hb:s₁.heap.Ns builtinsNs mb) (hbb: ∀x:Str,x≠"__name__"->mb x=bootBuiltins x) (hlim:s₁.heap.NoLimit) (hg:s₁.gens=#[])
  (ha:s₁.heap.get? a=some {cls:=.type "list",data:=.seq vs.toArray}) (hi:IntsAre vs ns) (hl:ns.length<=sizeLine) (hr:Room k callerA)
  (F: ∀base:Heap,K.In base->base.Ns mainGlobals mg->FnOk P w K mg base CX k fa fd [x] sp) (hbind: ∀(s:Shared)(u:Value),BindsTo s fd ⟨[u],[]⟩ [(x,u)])
  (hsp: ∀H:Hp,UM H->SqL K H a (ns.map V.int)->sp [.ref a] H (λv _=>v=.bl true) λ_ _ _=>False)
  (hCX: ∀H e s',CX [] H s₁ (λ_ _ _=>False) e s'->False):
  codeAny (model P w) callerA (.call (.ref fa) ⟨[.ref a],[]⟩) (λr s'=>r=.ok (.ret (.bool true))/\OldK s₁.heap s'.heap/\s'.os=s₁.os/\AllBare s'.gens) s₁:=by
 have rv:=DR hi;have lenV:=hi.length
 have core: ∀H:Hp,UM H->SqL K H a (ns.map V.int)->HOk P w H s₁.heap->(∀b,H b≠none->b=a)->(H a≠none->K.lookup a=none)->
   codeAny (model P w) callerA (.call (.ref fa) ⟨[.ref a],[]⟩) (λr s'=>r=.ok (.ret (.bool true))/\OldK s₁.heap s'.heap/\s'.os=s₁.os/\AllBare s'.gens) s₁:=by
  intro H hO hS hok hA hK;have base_of: ∀{b:Addr}{o:Obj},s₁.heap.get? b=some o->H b=none->(QJ s₁.heap H).get? b=some o:=λe n=>TD e n
  have noA: ∀{b:Addr}{o:Obj}{es:Array DictEntry}{ep:Nat},s₁.heap.get? b=some o->o.data=.dict es ep->H b=none:=λ{b o es ep} e d=>by
   cases q:H b with
   |none=>rfl
   |some u=>
    have e':b=a:=hA b (by rw[q];simp);subst e';rw[ha]at e;cases e;have d':Data.seq vs.toArray _=Data.dict es ep:=d;cases d'
  have nsK: ∀{b:Addr}{m:Ni},s₁.heap.Ns b m->(QJ s₁.heap H).Ns b m:=λ{b m} ⟨o,es,ep,e,d,r⟩=>⟨o,es,ep,base_of e (noA e d),d,r⟩
  have hKb:K.In _:=λb o e=>base_of (KX b o e) (by
   cases q:H b with
   |none=>rfl
   |some u=>
    have e':b=a:=hA b (by rw[q];simp);subst e';rw[hK (by rw[q];simp)]at e;cases e)
  have hM:Mod K mg _:=⟨hKb,nsK hns,⟨mb,nsK hb,hbb⟩,let ⟨mc,h1,h2⟩:=hlim;⟨mc,nsK h1,h2⟩⟩
  have e0:Env0 P w K mg _ callerA [] s₁ H:=⟨rfl,hM,λb o e=>ZD e,Nat.le_of_eq (QK _ _),trivial,λb hb=>absurd (show b∈([]:Ng)from hb) (by simp),hok,.of_eq hg⟩
  refine codeAny_mono ((F _ hKb (nsK hns)).run callerA [] s₁ H ⟨_,[]⟩ [.ref a] [.ref a] _ _ hr e0 (hbind s₁ (.ref a)) (.cons rfl .nil) (hsp H hO hS)) λr s' h=>?_
  cases r with
  |error e=>exact(hCX H e s' h).elim
  |ok fl=>
   cases fl with
   |next=>exact False.elim h
   |brk=>exact False.elim h
   |cont=>exact False.elim h
   |ret u=>
    obtain⟨v,H',os,bare,un,hok',r',q⟩:=h;have q':v=.bl true:=q;subst q';obtain rfl:u=Value.bool true:=r';refine⟨rfl,OldK.of_keep λb o e=>?_,os,bare⟩
    cases q:H b with
    |none=>exact un.keep b o e q (by intro z;exact absurd (show b∈([]:Ng)from z) (by simp)) (by simp)
    |some u=>
     rcases hO b with z|⟨ob,xs,z⟩
     .rw[q]at z;cases z
     .have z2:=un.frzs b ob _ z;obtain⟨e1,_⟩:=hok b _ z;obtain⟨e2,_⟩:=hok' b _ z2;rw[e]at e1;cases e1;exact e2
 cases hk:K.lookup a with
 |some o=>
  have e:=KX a o hk;rw[ha]at e;cases e;refine core (λ_=>none) (λ_=>.inl rfl) (.inr ⟨_,_,_,hk,rfl,rfl,rfl,by rw[sA,lenV];exact hl,by simpa using rv⟩) (λb u z=>by have z':_=some u:=z;cases z') (λb z=>absurd rfl z) λz=>absurd rfl z
 |none=>
  refine core (λb=>if b=a then some _ else none) (λb=>?_) (.inl (.inr ⟨{cls:=.type "list",data:=.seq vs.toArray},iP rfl⟩)) (λb u z=>?_) (λb z=>?_) λ_=>hk
  .by_cases hb:b=a
   .exact .inr ⟨_,_,iP hb⟩
   .exact .inl (iN0 hb)
  .by_cases hb:b=a
   .have z':=(iP hb).symm.trans z;cases z';subst hb;exact⟨ha,by rw[lM0];exact hl,vs,_,rv,ha⟩
   .have z':=(iN0 hb).symm.trans z;cases z'
  .by_cases hb:b=a
   .exact hb
   .exact absurd (iN0 hb) z
def walk_of{l:PySem.W.OpenLaw}{n k:Nat}{q:Program}{loose:Nh}{XP:(Str->Option Value)->Heap->Prop}{YP:World->Heap->Prop}{d:DefRec}{K:Params->PySem.W.Frag}{CX:World->QR}{sp:World->Sp}{x:Str}
  (hn:l.most=some n) (hn2:n<=sizeLine) (hdf:d.params.defaults=[]) (hr:Room k callerA)
  (hY: ∀(w:World)(h:Heap),YP w h->(K w.params).In h)
  (F: ∀(w:World)(mg:Ni)(fa:Addr)(h:Heap),(K w.params).In h->h.Ns mainGlobals mg->mg d.name=some (.ref fa)->
   ∃fd:FuncData,(∀(s:Shared)(u:Value),BindsTo s fd ⟨[u],[]⟩ [(x,u)])/\
    ∀base:Heap,(K w.params).In base->base.Ns mainGlobals mg->FnOk l.prog w (K w.params) mg base (CX w) k fa fd [x] (sp w))
  (hsp: ∀(w:World)(H:Hp)(a:Addr)(ns:Nb),ns.length<=n->UM H->SqL (K w.params) H a (ns.map V.int)->sp w [.ref a] H (λv _=>v=.bl true) λ_ _ _=>False)
  (hCX: ∀(w:World)(H:Hp)(s:Shared)(e:Value)(s':Shared),CX w [] H s (λ_ _ _=>False) e s'->False):
  PySem.W.WalkO q loose XP YP l.row.toRowW d [] (λf vs=>PySem.call f vs):=by
 refine Att.attach_call hn hdf λw s₀ s₁ mg mb fa o pm cd doc a vs ns G Y ho hd hcd hmg hobj hints hlen hg=>?_;have KX:=hY w _ Y;obtain⟨fd,hb,hF⟩:=F w mg fa _ KX G.T.g hmg;exact UN KX G.T.g G.T.b G.T.builtins G.T.nolimit hg hobj hints (Nat.le_trans hlen hn2) hr hF hb (λH hO hS=>hsp w H a ns hlen hO hS) λH e s'=>hCX w H s₁ e s'
def inClass(s:Stmt)(j:Nat):Stmt:=match s with
 |.ClassDef _ _ _ body _ _ _ _ _ _ _=>body.getD j (.Pass ⟨0,0,0,0⟩)
 |_=>.Pass ⟨0,0,0,0⟩
def xC(s:Stmt):Arguments:=match s with
 |.FunctionDef _ a _ _ _ _ _ _ _ _=>a
 |_=>{posonlyargs:=[],args:=[],vararg:=none,kwonlyargs:=[],kw_defaults:=[],kwarg:=none,defaults:=[]}
def yN(s:Stmt):List Stmt:=match s with
 |.FunctionDef _ _ b _ _ _ _ _ _ _=>b
 |_=>[]
def zE(s:Stmt):Scope:=match s with
 |.FunctionDef _ _ _ _ _ _ sc _ _ _=>sc
 |_=>{kind:=.function,names:=[],isGenerator:=false,isCoroutine:=false}
abbrev pF:QR:=λ_ _ _ _ _ _=>False
abbrev E0:XK:=λ_ _ _=>False
def HU{X:Cx}:fD pF X E0:=λ_ _ _ _ _ _ _ h=>h.elim
structure Fun(K:Od)(x qual:Str)(st:Stmt)(f:Addr)(fd:FuncData):Prop where
 ex: ∃(oc:Value)(od:Option Addr)(kV doc pm:Value)(an:Option Addr)(cdv ct:Value)(osl:Array (Option Value)),
  fd=PySem.W.fnOf x qual (xC st) (yN st) (zE st) .none kV doc pm an cdv ct/\K.lookup f=some ⟨oc,od,.func fd,osl⟩/\PySem.W.codeIn K cdv qual=true
 kp:PySem.W.keepIn K (.ref f)=true
section
variable{P:Program}{w:World}{K:Od}{mg:Ni}{base:Heap}
def Fun.ok{x qual:Str}{st:Stmt}{f:Addr}{fd:FuncData}{N ps:Nh}{k:Nat}{sp:Sp}(F:Fun K x qual st f fd)(S:FnScope N ps (zE st))(len: ∀vs H Q E,sp vs H Q E->vs.length=ps.length)
  (hbody: ∀(cdv:Value)(A:Around)(outer:List Env)(s:Shared)(H:Hp)(vs:List V)(Q:VK)(E:XK),Room k (A.deeper (envOfC qual (zE st) s.heap.objs.size f cdv))->sp vs H Q E->
   ∃t,PSs (uN pF P w K mg base N qual (zE st) f cdv A outer s H E).nox (yN st) t/\t {nx:=λ_ H'=>Q .non H',rt:=Q} (start N vs) H):FnOk P w K mg base pF (k+1) f fd ps sp:=by
 obtain⟨oc,od,kV,doc,pm,an,cdv,ct,osl,rfl,lk,hcd⟩:=F.ex;refine UG lk hcd S len λA outer s H vs Q E hr hsp=>?_;obtain⟨t,h,q⟩:=hbody cdv A outer s H vs Q E hr hsp;exact⟨t,h.nox,q⟩
def Fun.binds{x qual:Str}{st:Stmt}{f:Addr}{fd:FuncData}{ps:Nh}(F:Fun K x qual st f fd)
  (h: ∀(kV doc pm:Value)(an:Option Addr)(cdv ct:Value)(us:Nc),us.length=ps.length->bindArgs (PySem.W.fnOf x qual (xC st) (yN st) (zE st) .none kV doc pm an cdv ct) ⟨us,[]⟩=pure (ps.zip us)):Binds K fd ps []:=by
 obtain⟨oc,od,kV,doc,pm,an,cdv,ct,osl,rfl,lk,hcd⟩:=F.ex;exact .all (h kV doc pm an cdv ct)
def lF{x qual:Str}{st:Stmt}{f:Addr}{oc:Value}{od an:Option Addr}{osl:Array (Option Value)}{kV doc pm cdv ct:Value}(l:K.lookup f=some ⟨oc,od,.func (PySem.W.fnOf x qual (xC st) (yN st) (zE st) .none kV doc pm an cdv ct),osl⟩)
  (c:PySem.W.codeIn K cdv qual=true) (k:PySem.W.keepIn K (.ref f)=true):Fun K x qual st f (PySem.W.fnOf x qual (xC st) (yN st) (zE st) .none kV doc pm an cdv ct):=⟨⟨oc,od,kV,doc,pm,an,cdv,ct,osl,rfl,l,c⟩,k⟩
end
section
variable{X:Cx}
def pv(i:Nat){x:Str}{pos:Pos}(hN:X.N[i]? =some x:=by rfl)(hv:ZF X.env.scope x:=by first |exact Or.inl rfl|exact Or.inr (Or.inl rfl)|exact Or.inr (Or.inr rfl))(hd:(x==("__debug__":Str))=false:=by decide)
  (hcd:(x==("__classdict__":Str))=false:=by decide):PE X (.Name x pos) (Jt i):=vN hN hv hd hcd
end
def Same(H H':Hp):Prop:= ∀b o,H b=some o->H' b=some o
def Same.seq{K:Od}{H H':Hp}{a:Addr}{xs:List V}(e:Same H H')(h:SqL K H a xs):SqL K H' a xs:=by
 rcases h with(h|⟨o,h⟩)|h
 .exact .inl (.inl (e _ _ h))
 .exact .inl (.inr ⟨o,e _ _ h⟩)
 .exact .inr h
end L2
set_option maxHeartbeats 4000000
namespace L2
open PySem PySem.Spec PyProof.Rows
def lG(env:Env)(l:List (Str×NameKind))(cs:List (Str×Addr)):List (Str×Addr):=
 l.foldl (λc y=>if y.2==.free then(y.1,(env.cells.lookup y.1).getD 0)::c else c) cs
def FE{α β:Type}{l:List α}{f:α->β->Sem (ForInStep β)}{g:β->α->β}: ∀(c:β),(∀x∈l, ∀c,f x c=pure (.yield (g c x)))->
  forIn l c f=pure (l.foldl g c):=by
 induction l with
 |nil=>intro c _;rfl
 |cons x l ih=>
  intro c h;rw[List.forIn_cons,h x mF0];exact ih _ λy hy=>h y (mO _ hy)
def CQ{scope:Scope}{env:Env}(h: ∀y∈scope.names,y.2=.free-> ∃c,env.cells.lookup y.1=some c):closureFor scope env=pure (lG env scope.names []):=by
 unfold closureFor lG;dsimp only;rw[FE [] ?_]
 .rfl
 .intro y hy c;obtain⟨n,k⟩:=y;by_cases hk:k=.free
  .subst hk;obtain⟨a,ha⟩:=h _ hy rfl;have ha':=ha;simp[cellOf,ha']
  .have e:=by simpa using hk
   simp[e]
theorem uD{env:Env}: ∀(l:List (Str×NameKind))(cs:List (Str×Addr)),(∀y∈l,y.2=.free-> ∃c,env.cells.lookup y.1=some c)->(∀p∈cs,env.cells.lookup p.1=some p.2)->
  ∀p∈lG env l cs,env.cells.lookup p.1=some p.2
 |[],_,_,h=>h
 |(n,k)::l,cs,hl,h=>by
  refine uD l _ (λy hy=>hl y (mO _ hy)) λp hp=>?_;by_cases hk:k=.free
  .subst hk;obtain⟨c,hc⟩:=hl _ mF0 rfl;have hc':=hc;have hp':p∈_::cs:=hp;rcases mC.mp hp' with rfl|hp
   .show env.cells.lookup n=some _;rw[hc'];rfl
   .exact h p hp
  .have hp':p∈(if _=true then _::cs else cs):=hp;rw[iN0 (by simpa using hk)]at hp';exact h p hp'
theorem vU{env:Env}: ∀(l:List (Str×NameKind))(cs:List (Str×Addr))(p:Str×Addr),p∈cs->p∈lG env l cs
 |[],_,_,h=>h
 |_::l,cs,p,h=>by
  refine vU l _ p ?_;show p∈(if _=true then _::cs else cs);split
  .exact mO _ h
  .exact h
theorem lH{env:Env}: ∀(l:List (Str×NameKind))(cs:List (Str×Addr))(n:Str),(n,NameKind.free)∈l-> ∃c,(n,c)∈lG env l cs
 |[],_,_,h=>nomatch h
 |(m,k)::l,cs,n,h=>by
  rcases mC.mp h with e|h
  .have e1:=congrArg Prod.fst e;have e2:=congrArg Prod.snd e;subst e1 e2;exact⟨_,vU l _ _ mF0⟩
  .exact lH l _ n h
theorem jD{β:Type}: ∀{l:List (Str×β)}{n:Str},(∃c,(n,c)∈l)-> ∃c,l.lookup n=some c
 |[],_,h=>let ⟨_,z⟩:=h;nomatch z
 |(m,b)::l,n,h=>by
  by_cases e:n=m
  .subst e;exact⟨b,by simp[lookup_cons]⟩
  .obtain⟨c,hc⟩:=h;rcases mC.mp hc with z|z
   .cases z;exact absurd rfl e
   .obtain⟨c',h'⟩:=jD ⟨c,z⟩;refine⟨c',?_⟩;have e':(n==m)=false:=by simpa using e
    simp[lookup_cons,e',h']
def UO(scope osc:Scope):List (Str×NameKind):=scope.names.map λ(n,k)=>if(k==.free&&osc.kind==.function&&osc.names.lookup n==some .cell)then(n,.cell)else(n,k)
def vV(osc:Scope)(N:Nh)(sc:Scope)(idx:Db):Bool:=
 decide (sc.kind=.function)&&sc.names.all (λy=>decide (sc.names.lookup y.1=some y.2))&&
 sc.names.all (λy=>decide (y.2≠.free) || decide (osc.names.lookup y.1=some .cell) || decide (osc.names.lookup y.1=some .free))&&
 idx.all (λi=>match N[i]? with
  |some y=>(decide (osc.names.lookup y=some .cell) || decide (osc.names.lookup y=some .free))&&decide (sc.names.lookup y=some .free)
  |none=>false)
abbrev SX(env:Env)(sc:Scope)(C:Addr):List (Str×Addr):=cellsFrom (C+1) sc.names (lG env sc.names [])
theorem wH: ∀(l:List (Str×NameKind))(n:Nat)(acc:List (Str×Addr)),cellsFrom n l acc=cellsFrom n l []++acc
 |[],n,acc=>rfl
 |_::l,n,acc=>by
  unfold cellsFrom;split
  .rw[wH l _ _,wH l _ [_],aA];rfl
  .exact wH l n acc
theorem qY: ∀(l:List (Str×NameKind))(n:Nat){x:Str}{c:Addr},(x,c)∈cellsFrom n l []->(x,NameKind.cell)∈l/\n<=c
 |[],n,x,c,h=>nomatch h
 |(y,k)::l,n,x,c,h=>by
  unfold cellsFrom at h;split at h
  .rename_i hk;rw[wH]at h;rcases List.mem_append.mp h with h|h
   .obtain⟨h1,h2⟩:=qY l _ h;exact⟨mO _ h1,by lia⟩
   .have e:=mS.mp h;cases e;have hk':=by simpa using hk
    subst hk';exact⟨mF0,Nat.le_refl _⟩
  .obtain⟨h1,h2⟩:=qY l n h;exact⟨mO _ h1,h2⟩
def pT{l:List (Str×NameKind)}{C:Nat}{x:Str}{c:Addr}(h:(x,c)∈cellsFrom (C+1) l []){n:Nat}(hC:n<=C):n<c:=Nat.lt_of_le_of_lt hC (qY l _ h).2
theorem oP: ∀(l:List (Str×NameKind))(n:Nat){x:Str},(x,NameKind.cell)∈l-> ∃c,(x,c)∈cellsFrom n l []
 |[],n,x,h=>nomatch h
 |(y,k)::l,n,x,h=>by
  unfold cellsFrom;rcases mC.mp h with e|h
  .cases e;rw[wH];exact⟨n,List.mem_append_right _ mF0⟩
  .split
   .obtain⟨c,hc⟩:=oP l _ h;rw[wH];exact⟨c,mem_append_left _ hc⟩
   .exact oP l n h
theorem own_apart: ∀(l:List (Str×NameKind))(n:Nat),(cellsFrom n l []).Pairwise λx y=>x.2≠y.2
 |[],n=>List.Pairwise.nil
 |_::l,n=>by
  unfold cellsFrom;split
  .rw[wH];refine List.pairwise_append.mpr ⟨own_apart l _,List.pairwise_singleton _ _,λa ha b hb e=>?_⟩;rw[mS.mp hb]at e;have:=(qY l _ ha).2;exact Nat.ne_of_gt this e
  .exact own_apart l n
theorem fE{β:Type}(x:Str): ∀(l m:List (Str×β)),(l++m).lookup x=(l.lookup x).or (m.lookup x)
 |[],m=>rfl
 |(y,b)::l,m=>by
  rw[List.cons_append,lookup_cons,lookup_cons]
  cases x==y with
  |true=>rfl
  |false=>exact fE x l m
theorem DS{β:Type}{x:Str}: ∀{l:List (Str×β)},(∀c,(x,c)∉l)->l.lookup x=none
 |[],_=>rfl
 |(y,b)::l,h=>by
  rw[lookup_cons]
  cases e:x==y with
  |true=>rw[beq_iff_eq.mp e]at h;exact absurd mF0 (h b)
  |false=>exact DS λc hc=>h c (mO _ hc)
def cZ{env:Env}{sc:Scope}{C:Addr}{x:Str}{c:Addr}(e:(SX env sc C).lookup x=some c):(x,c)∈cellsFrom (C+1) sc.names []\/(lG env sc.names []).lookup x=some c:=by
 unfold SX at e;rw[wH,fE]at e
 cases z:(cellsFrom _ sc.names []).lookup x with
 |some c'=>rw[z]at e;cases e;exact .inl (PySem.mem_of_lookup z)
 |none=>rw[z]at e;exact .inr e
def Gb{env:Env}{sc:Scope}{C:Addr}{x:Str}{c:Addr}(h:(x,NameKind.cell)∈sc.names)(e:(SX env sc C).lookup x=some c):(x,c)∈cellsFrom (C+1) sc.names []:=by unfold SX at e;rw[wH,fE]at e;obtain⟨c',h'⟩:=jD (oP sc.names _ h);rw[h']at e;cases e;exact PySem.mem_of_lookup h'
theorem ZZ{env:Env}{sc:Scope}{C:Addr}{x:Str}(h:(x,NameKind.cell)∉sc.names):(SX env sc C).lookup x=(lG env sc.names []).lookup x:=by unfold SX;rw[wH,fE,DS λc hc=>h (qY _ _ hc).1];rfl
def sS(σ:St)(idx:Db):St:=idx.map λi=>(σ[i]?).join
def aB(σ:St)(idx:Db):(sS σ idx).length=idx.length:=by unfold sS;rw[lM0]
def yI(X:Cx)(sc:Scope)(T:Nh)(idx:Db)(C:Addr)(s₂:Shared)(H1:Hp)(fp:Ng):Cx where
 prog:=X.prog
 w:=X.w
 K:=X.K
 mg:=X.mg
 base:=X.base
 A:=X.A
 N:=T++idx.map λi=>(X.N[i]?).getD Str.empty
 s₀:=s₂
 H₀:=H1
 env:=compEnvC sc (SX X.env sc C) C X.env
 outer:=X.stack
 stack:=X.stack
 ex:=fp
 fn:=λx=>sc.names.lookup x==some .cell
 calm:=X.calm
 pn:=[]
 xe:=λ_ _=>False
def UP(wi:TI)(g:TG)(tc:Addr->Shared->Hp->List Addr->TT)(te:Addr->Shared->Hp->List Addr->TE)(nt:Nat)(idx:Db):TE:=λσ H Q=>wi σ H λJ H1=> ∃W:Nat->Nat->List V->Hp->Prop,(∃m,W 0 m [] H1)/\ ∀i m ys H2,W i m ys H2->ys.length<=sizeLine/\
 ((J.stop i H2/\ ∀D,H2 D=none->Q (.ref D) (xT H2 D (.lst ys)))\/
   (J.go i H2/\ys.length<sizeLine/\ ∀x H3,J.yld i H2 x H3-> ∀τ:St,τ.length=nt->g x (τ++sS σ idx) H3 λσ4 H4=>(∃τ',σ4=τ'++sS σ idx/\τ'.length=nt)/\
    ∀C s₂ fp,tc C s₂ H1 fp σ4 H4 λb H5=>if b=true then te C s₂ H1 fp σ4 H5 λy H6=> ∃m',m'<m/\W (i+1) m' (ys++[y]) H6 else∃m',m'<m/\W (i+1) m' ys H5))
section
variable{prog:Program}{w:World}{A:Around}{R:Result->Shared->Prop}{s:Shared}
def FF{elt target iter:Expr}{ifs:Oc}{scope:Scope}{pos:Pos}{it acc:Value}{env:Env}(I:Nat->Shared->Prop)
  (turn: ∀n s,I n s->wpAny (model prog w) A (pyNext it) (λr s₁=>match r with
   |none=>R (.ok .next) s₁
   |some v=>wpAny (model prog w) A (letOwnedTupleGo target it v) (λ_ s₁'=>wpAny (model prog w) A (assign target env v) (λ_ s₂=>
     wpAny (model prog w) A (forIn ifs true λc r=>if r=true then do let ok <-isTrue c env (eval c env);pure (ForInStep.yield ok)else pure (ForInStep.yield r)) (λok s₃=>
      if ok=true then wpAny (model prog w) A (eval elt env) (λx s₄=>
       wpAny (model prog w) A (call (.builtin "list.append") [acc,x]) (λ_ s₅=> ∃m,m<n/\I m s₅) (λ_ _=>False) s₄) (λ_ _=>False) s₃
      else∃m,m<n/\I m s₃) (λ_ _=>False) s₂) (λ_ _=>False) s₁') (λ_ _=>False) s₁) (λ_ _=>False) s)
  (n:Nat) (h:I n s):codeAny (model prog w) A (.compLoop (.ListComp elt [⟨target,iter,ifs,0⟩] scope pos) 0 it acc env) R s:=by
 refine codeAny_loop rfl I (λn s hI=>?_) n h;show wpAny _ A _ _ _ s;refine wpAny_noted ?_;have no: ∀{E':VP}(v:Value)(s':Shared),False->E' v s':=λ_ _ z=>z.elim;refine wB (wpAny_standAt (wB (wpAny_mono (turn n s hI) (λr s₁ h₁=>?_) (no))))
 cases r with
 |none=>exact wP h₁
 |some v=>
  refine wB (wpAny_mono h₁ (λ_ s₁' h₁'=>wB (wpAny_mono h₁' (λ_ s₂ h₂=>wB (wpAny_mono h₂ (λok s₃ h₃=>?_) no)) no)) no)
  cases ok with
  |false=>exact wP ⟨rfl,h₃⟩
  |true=>
   exact wB (wB (wpAny_mono h₃ (λx s₄ h₄=>wB (wpAny_mono h₄ (λ_ s₅ h₅=>wP (wP ⟨rfl,h₅⟩)) no)) no))
end
def UQ(X:Cx)(ifs:Oc)(t:TT):Prop:=
 ∀(pins:Nk)(s:Shared)(σ:St)(H:Hp)(Q:Bool->Hp->Prop),Inv X pins σ H s->t σ H Q->
  wpAny (model X.prog X.w) X.A (forIn ifs true λc r=>if r=true then do let ok <-isTrue c X.env (eval c X.env);pure (ForInStep.yield ok)else pure (ForInStep.yield r)) (TP X pins σ Q) X.xe s
def Ku:TT:=λ_ H Q=>Q true H
def UR{X:Cx}:UQ X [] Ku:=λ_ _ _ H _ I h=>wpAny_tests_nil ⟨H,I,h⟩
structure CompF(osc:Scope)(N:Nh)(sc:Scope)(idx:Db):Prop where
 kind:sc.kind=.function
 uni: ∀y∈sc.names,sc.names.lookup y.1=some y.2
 frees: ∀y∈sc.names,y.2=.free->osc.names.lookup y.1=some .cell\/osc.names.lookup y.1=some .free
 cap: ∀i∈idx, ∃y,N[i]? =some y/\(osc.names.lookup y=some .cell\/osc.names.lookup y=some .free)/\sc.names.lookup y=some .free
def CompF.locs{osc:Scope}{N:Nh}{sc:Scope}{idx:Db}(F:CompF osc N sc idx): ∀y∈sc.names,y.2=.local->sc.names.lookup y.1=some .local:=λy hy e=>by rw[F.uni y hy,e]
def Aa{osc:Scope}{N:Nh}{sc:Scope}{idx:Db}(h:vV osc N sc idx=true):CompF osc N sc idx:=by
 unfold vV at h;simp only[aE,List.all_eq_true,decide_eq_true_eq,Bool.or_eq_true]at h;obtain⟨⟨⟨h1,h2⟩,h4⟩,h5⟩:=h;refine⟨h1,λy hy=>h2 y hy,λy hy e=>?_,λi hi=>?_⟩
 .rcases h4 y hy with(z|z)|z
  .exact absurd e z
  .exact .inl z
  .exact .inr z
 .have q:=h5 i hi
  cases e:N[i]? with
  |none=>rw[e]at q;cases q
  |some y=>
   rw[e]at q;simp only[aE,decide_eq_true_eq,Bool.or_eq_true]at q;exact⟨y,rfl,q.1,q.2⟩
def US{sc osc:Scope}{x:Str}(h:(UO sc osc).lookup x=some .cell\/(UO sc osc).lookup x=some .free):(x,NameKind.free)∈sc.names\/(x,NameKind.cell)∈sc.names:=by
 have key: ∀k',(k'=.cell\/k'=.free)->(x,k')∈UO sc osc->(x,NameKind.free)∈sc.names\/(x,NameKind.cell)∈sc.names:=by
  intro k' hk' hm;obtain⟨⟨n,k⟩,hy,e⟩:=mM0.mp hm;dsimp only at e;split at e
  .rename_i hc;cases e;rw[aE,aE]at hc;have:=by simpa using hc.1.1
   subst this;exact .inl hy
  .cases e;rcases hk' with rfl|rfl
   .exact .inr hy
   .exact .inl hy
 rcases h with h|h
 .exact key _ (.inl rfl) (PySem.mem_of_lookup h)
 .exact key _ (.inr rfl) (PySem.mem_of_lookup h)
theorem DT{osc:Scope}{x:Str}: ∀{l:List (Str×NameKind)},l.lookup x=some .free->(l.map λ(n,k)=>if(k==NameKind.free&&osc.kind==.function&&osc.names.lookup n==some .cell)then(n,NameKind.cell)else(n,k)).lookup x=some .cell\/(l.map λ(n,k)=>if(k==NameKind.free&&osc.kind==.function&&osc.names.lookup n==some .cell)then(n,NameKind.cell)else(n,k)).lookup x=some .free
 |[],h=>by simp at h
 |(n,k)::l,h=>by
  have ih:=@DT osc x l;rw[lookup_cons]at h;rw[List.map_cons];by_cases hc:(k==NameKind.free&&osc.kind==.function&&osc.names.lookup n==some .cell)=true
  .dsimp only;rw[iP hc,lookup_cons]
   cases hx:x==n with
   |true=>exact .inl rfl
   |false=>rw[hx]at h;exact ih h
  .dsimp only;rw[iN0 hc,lookup_cons]
   cases hx:x==n with
   |true=>rw[hx]at h;exact .inr h
   |false=>rw[hx]at h;exact ih h
section
variable{X:Cx}{pins:Nk}{σ:St}{H1:Hp}{s₂:Shared}{sc:Scope}{T:Nh}{idx:Db}{C:Addr}{fp:Ng}
def HV(I:Inv X pins σ H1 s₂)(F:CompF X.env.scope X.N sc idx): ∀y∈sc.names,y.2=.free-> ∃c,X.env.cells.lookup y.1=some c:=
 λy hy e=>I.ok.has y.1 (F.frees y hy e)
def kR(I:Inv X pins σ H1 s₂)(F:CompF X.env.scope X.N sc idx){x:Str}{c:Addr}(e:(lG X.env sc.names []).lookup x=some c):X.env.cells.lookup x=some c:=
 uD sc.names [] (HV I F) (λ_ z=>nomatch z) _ (PySem.mem_of_lookup e)
def Ab(I:Inv X pins σ H1 s₂)(F:CompF X.env.scope X.N sc idx){x:Str}{c:Addr}(hx:(x,NameKind.free)∈sc.names)(e:X.env.cells.lookup x=some c):(lG X.env sc.names []).lookup x=some c:=by obtain⟨c',h'⟩:=jD (lH sc.names [] x hx);rw[h'];rw[kR I F h']at e;exact e
def QX(I:Inv X pins σ H1 s₂)(F:CompF X.env.scope X.N sc idx)(hC:s₂.heap.objs.size<=C)(hfp: ∀b∈fp,pB X pins H1 b)(hlt: ∀b∈fp,b<s₂.heap.objs.size):(yI X sc T idx C s₂ H1 fp).Ok where
 mod:=I.ok.mod
 kind:=F.kind
 glob:=I.ok.glob
 blt:=I.ok.blt
 above:=hC
 inj:=λx y c h1 h2=>by
  have low: ∀z,(lG X.env sc.names []).lookup z=some c->c<s₂.heap.objs.size:=λz h=>let ⟨v,q⟩:=I.cell z c (kR I F h);q.lt;rcases cZ h1 with z1|z1<;>rcases cZ h2 with z2|z2
  .exact PySem.name_of_addr (own_apart sc.names (C+1)) z1 z2
  .exact absurd (low y z2) (Nat.not_lt.mpr (le_of_lt (pT z1 hC)))
  .exact absurd (low x z1) (Nat.not_lt.mpr (le_of_lt (pT z2 hC)))
  .exact I.ok.inj x y c (kR I F z1) (kR I F z2)
 has:=λx hx=>by
  have hx':(UO sc X.env.scope).lookup x=some .cell\/(UO sc X.env.scope).lookup x=some .free:=hx;show∃c,(SX X.env sc C).lookup x=some c;unfold SX;rw[wH];rcases US hx' with z|z
  .obtain⟨c,hc⟩:=lH sc.names [] x z;exact jD ⟨c,List.mem_append_right _ hc⟩
  .obtain⟨c,hc⟩:=oP sc.names (C+1) z;exact jD ⟨c,mem_append_left _ hc⟩
 cab:=λx c h e=>by have h':sc.names.lookup x=some .cell:=beq_iff_eq.mp h;exact le_of_lt (pT (Gb (PySem.mem_of_lookup h') e) hC)
 hd:=I.ok.hd
 frames:=I.ok.frames
 stk:=.inl rfl
 exf:=λb hb=>⟨Nat.ne_of_lt (Nat.lt_of_lt_of_le (hlt b hb) hC),λx c e=>by
  rcases cZ e with z|z
  .exact Nat.ne_of_gt (lt_trans (hlt b hb) (pT z hC))
  .exact(hfp b hb).2.2.2.2.1 x c (kR I F z)⟩
 bs:=I.bs
 bsz:=Nat.le_trans I.ok.bsz I.sz
 noex:=λb o e hb=>by
  rcases (hfp b hb).2.2.2.1 with z|z
  .exact I.ok.noex b o e z
  .exact absurd (Nat.lt_of_lt_of_le (Heap.lt_size e) (Nat.le_trans I.ok.bsz z)) (lt_irrefl _)
 exfs:=λb hb z=>by
  rcases mC.mp (I.stkSub b z)with e|e
  .exact(hfp b hb).2.1 e
  .exact(hfp b hb).2.2.1 e
 funs:=I.stack
 frf:=I.stkFree
theorem KU{s₄:Shared}{m:Ni}(I:Inv X pins σ H1 s₂)(F:CompF X.env.scope X.N sc idx)(hC:s₂.heap.objs.size<=C)(hfp: ∀b∈fp,pB X pins H1 b)(hlt: ∀b∈fp,b<s₂.heap.objs.size)
  (kp: ∀b o,s₂.heap.get? b=some o->s₄.heap.get? b=some o) (ho:s₄.os=s₂.os) (hg:s₄.gens=s₂.gens) (hn:s₄.heap.Ns C m) (hcl: ∀x c,(x,c)∈cellsFrom (C+1) sc.names []->s₄.heap.IsCell c none):
  Inv (yI X sc T idx C s₂ H1 fp) [] (T.map (λ_=>none)++sS σ idx) H1 s₄:=by
 have cellK: ∀c v,s₂.heap.IsCell c v->s₄.heap.IsCell c v:=λc v ⟨o,h1,h2⟩=>⟨o,kp c o h1,h2⟩
 refine⟨QX I F hC hfp hlt,ho,by rw[hg];exact I.bare,Un.kept kp,⟨m,hn,λi x v e1 e2 e3=>?_⟩,λx c e=>?_,I.hok.fresh hC,λx c e=>?_,λp hp=>absurd (show p∈([]:List _)from hp) (by simp),I.hok.kept kp,?_⟩
 .have e1':(T++idx.map λi=>(X.N[i]?).getD Str.empty)[i]? =some x:=e1;by_cases hi:i<T.length
  .rw[getElem?_append_left (by simpa using hi),getElem?_map]at e2
   cases z:T[i]? with
   |none=>rw[z]at e2;cases e2
   |some y=>rw[z]at e2;cases e2
  .rw[getElem?_append_right (by simpa using hi)]at e2;rw[getElem?_append_right (by lia)]at e1';rw[lM0]at e2;unfold sS at e2;rw[getElem?_map]at e1' e2
   cases z:idx[i - T.length]? with
   |none=>rw[z]at e2;cases e2
   |some j=>
    rw[z]at e1' e2;have hj:=mem_of_getElem? z;obtain⟨y,hy,k1,k2⟩:=F.cap j hj;have ex:=by have q:(X.N[j]?).getD Str.empty=x:=Option.some.inj e1';rw[hy]at q;exact q
    subst ex
    have ev:σ[j]? =some (some v):=by
     have q:(σ[j]?).join=some v:=Option.some.inj e2
     cases w':σ[j]? with
     |none=>rw[w']at q;cases q
     |some a=>rw[w']at q;have q':a=some v:=q;rw[q']
    obtain⟨m0,hn0,hl0⟩:=I.loc;have vis:ZF X.env.scope y:=k1.elim (λz=>.inr (.inl z)) λz=>.inr (.inr z);obtain⟨u,r,l⟩:=hl0 j y v hy ev vis;refine⟨u,r,?_⟩;rcases l with⟨kl,_⟩|⟨_,c,hc,q⟩
    .have kl':X.env.scope.names.lookup y=some .local:=kl;rcases k1 with z|z<;>rw[z]at kl'<;>cases kl'
    .have nc:(y,NameKind.cell)∉sc.names:=λz=>by have:=F.uni _ z;rw[k2]at this;cases this
     refine .inr ⟨DT k2,c,?_,cellK c _ q⟩;show(SX X.env sc C).lookup y=some c;rw[ZZ nc];exact Ab I F (PySem.mem_of_lookup k2) hc
 .rcases cZ e with z|z
  .exact⟨none,hcl x c z⟩
  .obtain⟨v,q⟩:=I.cell x c (kR I F z);exact⟨v,cellK c v q⟩
 .rcases cZ e with z|z
  .exact I.hok.fresh (le_of_lt (pT z hC))
  .exact I.freeC x c (kR I F z)
 .show(T.map (λ_=>_)++sS σ idx).length=(T++idx.map λi=>(X.N[i]?).getD Str.empty).length;rw[lA,lA,lM0,lM0,aB]
def KW{σ1:St}{H':Hp}{s':Shared}{h':Heap}{D:Addr}{ys:List V}{its:Nc}{n:Nat}(I:Inv X pins σ H1 s₂)(hC:s₂.heap.objs.size<=C)(hfp: ∀b∈fp,pB X pins H1 b)
  (J:Inv (yI X sc T idx C s₂ H1 fp) [] σ1 H' s') (hs:Heap.SameBut C s'.heap h') (hD:s₂.heap.objs.size<=D) (hDC:D≠C) (eD:s'.heap.get? D=some {cls:=.type "list",data:=.seq its.toArray n}) (nD:H' D=none) (r:Vals ys its) (hz:ys.length<=sizeLine):
  Inv X pins σ (xT H' D (.lst ys)) {s' with heap:=h'}:=by
 have old: ∀b o,s₂.heap.get? b=some o->b≠C/\b≠D:=λb o e=>⟨Nat.ne_of_lt (Nat.lt_of_lt_of_le (Heap.lt_size e) hC),Nat.ne_of_lt (Nat.lt_of_lt_of_le (Heap.lt_size e) hD)⟩
 have oldH: ∀b u,H1 b=some u->b≠D:=λb u e=>Nat.ne_of_lt (Nat.lt_of_lt_of_le (I.hok.lt e) hD);have nC:=J.free;have B:Un _ fp H1 H' s₂.heap s'.heap:=J.base;have mv: ∀b o,b≠C->s'.heap.get? b=some o->h'.get? b=some o:=λb o hb e=>(hs.2 b hb).trans e;refine I.call' J.os ⟨λb o e q hb hx=>?_,λb o e q hb hx=>?_,λb o e q hx=>?_,λb o e hx=>?_,λb xs e=>?_,λb o u e=>?_,λb ps e=>?_⟩ ?_ J.bare λb hb=>⟨(hfp b hb).2.2.2.1,(hfp b hb).2.1,(hfp b hb).2.2.2.2.1,(hfp b hb).2.2.2.2.2⟩
 .exact mv b o (old b o e).1 (B.keep b o e q hb hx)
 .obtain⟨sl,z⟩:=B.slot b o e q hb hx;exact⟨sl,mv b _ (old b o e).1 z⟩
 .rw[zI (old b o e).2];exact B.free b o e q hx
 .obtain⟨o',z⟩:=B.there b o e hx;exact⟨o',mv b o' (old b o e).1 z⟩
 .rw[zI (oldH b _ e)];exact B.tups b xs e
 .rw[zI (oldH b _ e)];exact B.frzs b o u e
 .obtain⟨more,z⟩:=B.tbls b ps e;exact⟨more,by rw[zI (oldH b _ e)];exact z⟩
 .intro b u e;by_cases hb:b=D
  .subst hb;rw[zQ]at e;cases e;exact⟨hz,its,n,r,mv b _ hDC eD⟩
  .rw[zI hb]at e;refine(J.hok b u e).stay (λc v hc q=>mv c v ?_ q) (λc q=>by rw[zI (zS q nD)];exact q) λc xs q=>by rw[zI (zS q nD)];exact q
   rcases hc with z|z
   .rw[z];exact zS e nC
   .exact zS z nC
end
section
variable{X:Cx}
def CS{M:Model}{A:Around}{E:VP}{s:Shared}{scope:Scope}{globals:Addr}{closure:List (Str×Addr)}{qual:Str}{outer:Env}{Q:Env->Shared->Prop}
  (hQ:Q (newEnv scope s.heap.objs.size globals (cellsFrom (s.heap.objs.size+1) scope.names closure) qual none .none (some outer) builtinsNs) {s with heap:=pushCells (s.heap.push {cls:=.type "dict",data:=.dict #[]}) scope.names}):
  wpAny M A (newFunctionEnv scope globals closure [] qual none .none (some outer)) Q E s:=by
 simp only[newFunctionEnv,Option.isSome_some,if_true];refine wB (wpAny_alloc ?_);refine wB (wpAny_layCells _ (λname kind cells=>by cases hkc:kind==NameKind.cell<;>simp[hkc]) _ _ _ _ ?_);rw[show({s with heap:=s.heap.push {cls:=.type "dict",data:=.dict #[]}}:Shared).heap.objs.size=s.heap.objs.size+1 from Heap.size_push ..];exact wB (wP (wP hQ))
structure TurnC(C:Cx->Prop)(P:Program)(w:World)(K:Od)(tg:Expr)(J:It)(fp:Ng)(it:Addr)(tn:Nat->Heap->Prop):Prop where
 mem:it∈fp
 obj: ∀i h,tn i h-> ∀b∈fp, ∃o,h.get? b=some o/\ ∀v,o.data≠.cell v
 keep: ∀i h h',tn i h->(∀b∈fp, ∀o,h.get? b=some o->h'.get? b=some o)->tn i h'
 item: ∀(X:Cx),X.prog=P->X.w=w->X.K=K->C X-> ∀(i:Nat)(pins:Nk)(s:Shared)(σ:St)(H:Hp)(E:VP),Inv X pins σ H s->(∀b∈fp,pB X pins H b)->tn i s.heap->J.go i H->
  wpAny (model P w) X.A (pyNext (.ref it)) (λr s1=> ∃u,r=some u/\
   wpAny (model P w) X.A (letOwnedTupleGo tg (.ref it) u) (λ_ s2=> ∃x H',Inv X pins σ H' s2/\RelV x u/\J.yld i H x H'/\tn (i+1) s2.heap/\ ∀b∈fp,H' b=none) E s1) E s
 done: ∀(X:Cx),X.prog=P->X.w=w->X.K=K->C X-> ∀(i:Nat)(pins:Nk)(s:Shared)(σ:St)(H:Hp)(E:VP),Inv X pins σ H s->(∀b∈fp,pB X pins H b)->tn i s.heap->J.stop i H->
  wpAny (model P w) X.A (pyNext (.ref it)) (λr s1=>r=none/\Inv X pins σ H s1) E s
 self: ∀(A:Around)(i:Nat)(s:Shared)(Q:VP)(E:VP),tn i s.heap->Q (.ref it) s->wpAny (model P w) A (pyIter (.ref it)) Q E s
def PIEC(C:Cx->Prop)(X:Cx)(pins:Nk)(σ:St)(tg:Expr)(R:It->Hp->Prop)(itv:Value)(s2:Shared):Prop:=
 ∃(it:Addr)(fp:Ng)(tn:Nat->Heap->Prop)(J:It)(H':Hp),itv=.ref it/\Inv X pins σ H' s2/\TurnC C X.prog X.w X.K tg J fp it tn/\tn 0 s2.heap/\(∀b∈fp,pB X pins H' b)/\R J H'
def Jl(C:Cx->Prop)(X:Cx)(tg iter:Expr)(wi:TI):Prop:=
 ∀(pins:Nk)(s:Shared)(σ:St)(H:Hp)(R:It->Hp->Prop),Inv X pins σ H s->wi σ H R->
  wpAny (model X.prog X.w) X.A (eval iter X.env) (λv s1=>wpAny (model X.prog X.w) X.A (pyIter v) (PIEC C X pins σ tg R) X.xe s1) X.xe s
abbrev Kv(X:Cx):Prop:=X.calm=true
def PI.c{tg iter:Expr}{wi:TI}(h:PI X tg iter wi):Jl Kv X tg iter wi:=λpins s σ H R I q=>
 wpAny_mono (h pins s σ H R I q) (λv s1 z=>wpAny_mono z (λitv s2 ⟨it,fp,tn,J,H',e,I',t,r⟩=>⟨it,fp,tn,J,H',e,I',⟨t.mem,t.obj,t.keep,t.item,t.done,t.self⟩,r⟩) λ_ _ z=>z) λ_ _ z=>z
theorem HW{C:Cx->Prop}{elt tg iter:Expr}{ifs:Oc}{pos:Pos}{sc:Scope}{wi:TI}{g:TG}{tc:Addr->Shared->Hp->List Addr->TT}{te:Addr->Shared->Hp->List Addr->TE}(T:Nh)(idx:Db)
  (hi:Jl C X tg iter wi) (hCx: ∀c s₂ H2 fp pins σ,Inv X pins σ H2 s₂->C (yI X sc T idx c s₂ H2 fp)) (hB:vV X.env.scope X.N sc idx=true)
  (hg: ∀C s₂ H1 fp,PG (yI X sc T idx C s₂ H1 fp) tg g)
  (hc: ∀C s₂ H1 fp,UQ (yI X sc T idx C s₂ H1 fp) ifs (tc C s₂ H1 fp))
  (he: ∀C s₂ H1 fp,PE (yI X sc T idx C s₂ H1 fp) elt (te C s₂ H1 fp))
  (hs: ∀x,foldedSetIterable iter X.env x=pure x:=by intro _;rfl)
  {pins:Nk} {s:Shared} {σ:St} {H:Hp} {Q:VK} {use:Option (Value->Sem Unit)} {Q':VP} (I:Inv X pins σ H s) (h:UP wi g tc te T.length idx σ H Q)
  (fin: ∀(D C:Addr)(s4:Shared)(H':Hp)(r:_),(∀h',Heap.SameBut C s4.heap h'->Inv X pins σ H' {s4 with heap:=h'})->pB X pins H' C->(∃m,s4.heap.Ns C m)->Q (.ref D) H'->
   compPost (model X.prog X.w) X.A X.xe use Q' (.ref D) C (.ok r) s4):
  wpAny (model X.prog X.w) X.A (comprehension (.ListComp elt [⟨tg,iter,ifs,0⟩] sc pos) sc X.env (firstIterPos [⟨tg,iter,ifs,0⟩] pos) (newList []) false (eval iter X.env) use) Q' X.xe s:=by
 have cf:=Aa hB;refine wpAny_comprehension_free rfl hs (CQ (HV I cf)) cf.kind cf.locs ?_;refine wM (hi pins s σ H _ I h) λv s1 h1=>wM h1 λitv s2 h2=>?_;obtain⟨it,fp,tn,J,H2,e,I2,Tn,st2,f2,W,⟨m0,w0⟩,turn⟩:=h2;subst e;have hlt: ∀b∈fp,b<s2.heap.objs.size:=λb hb=>let ⟨o,e,_⟩:=Tn.obj _ _ st2 b hb;Heap.lt_size e;refine wpAny_newObj_type (CS ?_);dsimp only;generalize hH2:s2.heap.push {cls:=.type "list",dict:=none,data:=.seq ([]:Nc).toArray}=HH;generalize hh1:pushCells (HH.push {cls:=.type "dict",data:=.dict #[]}) sc.names=h₁;have hns₁:h₁.Ns HH.objs.size (λ_=>none):=hh1▸(Heap.Ns.new HH (.type "dict")).keeps (pushCells_keeps _ _);have hC:HH.objs.size=s2.heap.objs.size+1:=by rw[<-hH2,Heap.size_push]
 have hDC:s2.heap.objs.size≠HH.objs.size:=by rw[hC];exact Nat.ne_of_lt (Nat.lt_succ_self _)
 have hCle:s2.heap.objs.size<=HH.objs.size:=by rw[hC];exact le_succ _
 have up1: ∀b o,HH.get? b=some o->h₁.get? b=some o:=λb o e=>hh1▸pushCells_keeps _ _ b o (hP0 _ e);have old: ∀b o,s2.heap.get? b=some o->h₁.get? b=some o:=λb o e=>up1 b o (hH2▸hP0 _ e);have eD0:h₁.get? s2.heap.objs.size=some {cls:=.type "list",data:=.seq ([]:Nc).toArray 0}:=up1 _ _ (hH2▸Heap.get?_push_size _ rfl);have hcl: ∀x c,(x,c)∈cellsFrom (HH.objs.size+1) sc.names []->h₁.IsCell c none:=λx c hm=>by have ok:=cellsFrom_ok sc.names (HH.push {cls:=.type "dict",data:=.dict #[]}) 0 [] ⟨λ_ _ hm=>(nomatch hm),List.Pairwise.nil⟩ (zero_le _);rw[Heap.size_push,hh1]at ok;exact(ok.empty x c hm).1
 have nD0:H2 s2.heap.objs.size=none:=I2.hok.fresh (Nat.le_refl _)
 have cD: ∀x c,(SX X.env sc HH.objs.size).lookup x=some c->c≠s2.heap.objs.size:=λx c e=>by
  rcases cZ e with z|z
  .exact Nat.ne_of_gt (pT z hCle)
  .obtain⟨v,q⟩:=I2.cell x c (kR I2 cf z);exact Nat.ne_of_lt q.lt
 have loop: ∀s4:Shared,s4={s2 with heap:=h₁}->
   codeAny (model X.prog X.w) X.A (.compLoop (.ListComp elt [⟨tg,iter,ifs,0⟩] sc pos) 0 (.ref it) (.ref s2.heap.objs.size) (compEnvC sc (SX X.env sc HH.objs.size) HH.objs.size X.env))
    (compPost (model X.prog X.w) X.A X.xe use Q' (.ref s2.heap.objs.size) HH.objs.size) s4:=by
  rintro s4 rfl
  have J0:Inv (yI X sc T idx HH.objs.size s2 H2 fp) [] (T.map (λ_=>none)++sS σ idx) H2 {s2 with heap:=h₁}:=
   KU I2 cf hCle f2 hlt old rfl rfl hns₁ hcl
  refine FF (λk s'=> ∃(i:Nat)(ys:List V)(its:Nc)(n:Nat)(H':Hp)(τ:St),Inv (yI X sc T idx HH.objs.size s2 H2 fp) [] (τ++sS σ idx) H' s'/\τ.length=T.length/\tn i s'.heap/\(∀b∈fp,H' b=none)/\
   s'.heap.get? s2.heap.objs.size=some {cls:=.type "list",data:=.seq its.toArray n}/\H' s2.heap.objs.size=none/\Vals ys its/\W i k ys H') ?_ m0
   ⟨0,[],[],0,H2,_,J0,by rw[lM0],Tn.keep _ _ _ st2 λb _ o e=>old b o e,λb hb=>(f2 b hb).1,eD0,nD0,.nil,w0⟩
  rintro k s3 ⟨i,ys,its,n,H3,τ,I3,hτ,st3,fr3,eD3,nD3,r3,w3⟩;obtain⟨hz,alt⟩:=turn i k ys H3 w3;have hDfs:s2.heap.objs.size∉(yI X sc T idx HH.objs.size s2 H2 fp).fs:=λz=>by obtain⟨_,o,ho,_⟩:=I2.stack.mem (show s2.heap.objs.size∈vK X.stack from z);exact absurd (Heap.lt_size ho) (lt_irrefl _)
  have pinD: ∀{H':Hp}{s':Shared},s'.heap.get? s2.heap.objs.size=some {cls:=.type "list",data:=.seq its.toArray n}->H' s2.heap.objs.size=none->
    ∀p∈[(s2.heap.objs.size,({cls:=.type "list",data:=.seq its.toArray n}:Obj))],s'.heap.get? p.1=some p.2/\H' p.1=none/\p.1≠(yI X sc T idx HH.objs.size s2 H2 fp).env.locals/\p.1∉(yI X sc T idx HH.objs.size s2 H2 fp).fs/\ ∀v,p.2.data≠.cell v:=
   λ{H' s'} e1 e2 p hp=>by
    have ep:p=(s2.heap.objs.size,{cls:=.type "list",data:=.seq its.toArray n}):=by simpa using hp
    subst ep;exact⟨e1,e2,hDC,hDfs,λv z=>by cases z⟩
  have P3:Inv (yI X sc T idx HH.objs.size s2 H2 fp) [_] (τ++sS σ idx) H3 s3:=I3.pins_of (pinD eD3 nD3)
  have stat: ∀{H':Hp},(∀b∈fp,H' b=none)-> ∀b∈fp,pB (yI X sc T idx HH.objs.size s2 H2 fp) [_] H' b:=λ{H'} hn b hb=>by
   have hb2:=hlt b hb;refine⟨hn b hb,Nat.ne_of_lt (Nat.lt_of_lt_of_le hb2 hCle),I3.ok.exfs b hb,.inl hb,λx c e=>?_,λp hp=>?_⟩
   .rcases cZ e with z|z
    .exact Nat.ne_of_gt (lt_trans hb2 (pT z hCle))
    .exact(f2 b hb).2.2.2.2.1 x c (kR I2 cf z)
   have ep:p=(s2.heap.objs.size,({cls:=.type "list",data:=.seq its.toArray n}:Obj)):=by simpa [yI]using hp
   subst ep;exact Nat.ne_of_gt hb2
  rcases alt with⟨stop,q⟩|⟨go,hl2,step⟩
  .refine wM (Tn.done (yI X sc T idx HH.objs.size s2 H2 fp) rfl rfl rfl (hCx _ _ _ _ _ _ I2) i _ s3 _ H3 (λ_ _=>False) P3 (stat fr3) st3 stop) λr s4 ⟨hr,I4⟩=>?_;subst hr;obtain⟨m,hn,_⟩:=id I4.loc;have eD4:=(I4.pin (s2.heap.objs.size,{cls:=.type "list",data:=.seq its.toArray n}) (by simp)).1;exact fin _ _ s4 _ _ (λh' hs'=>KW I2 hCle f2 (I4.pins_of (λp hp=>nomatch hp)) hs' (Nat.le_refl _) hDC eD4 nD3 r3 hz) (I2.fpOk hCle (by rw[zI (Ne.symm hDC)];exact I4.free)) ⟨m,hn⟩ (q _ nD3)
  .refine wM (Tn.item (yI X sc T idx HH.objs.size s2 H2 fp) rfl rfl rfl (hCx _ _ _ _ _ _ I2) i _ s3 _ H3 (λ_ _=>False) P3 (stat fr3) st3 go) λr s4 ⟨u,hr,h4⟩=>?_;subst hr;refine wM h4 λ_ s5 ⟨x,H5,I5,r5,y5,st5,fr5⟩=>?_;have I5':=I5.pinned (stat fr5) (Tn.obj _ _ st5);refine wM (hg HH.objs.size s2 H2 fp _ s5 _ H5 x u _ I5' r5 (step x H5 y5 τ hτ)) λ_ s6 ⟨σ6,H6,I6,⟨τ',e6,l6⟩,q6⟩=>?_;subst e6;refine wM (hc HH.objs.size s2 H2 fp _ s6 _ H6 _ I6 (q6 HH.objs.size s2 fp)) λok s7 ⟨H7,I7,q7⟩=>?_
   have mD:(s2.heap.objs.size,({cls:=.type "list",data:=.seq its.toArray n}:Obj))∈(yI X sc T idx HH.objs.size s2 H2 fp).pn++([(s2.heap.objs.size,{cls:=.type "list",data:=.seq its.toArray n})]++vP fp s5.heap):=
    List.mem_append_right _ (mem_append_left _ (by simp))
   have mF: ∀b∈fp, ∀o,s5.heap.get? b=some o->(b,o)∈(yI X sc T idx HH.objs.size s2 H2 fp).pn++([(s2.heap.objs.size,{cls:=.type "list",data:=.seq its.toArray n})]++vP fp s5.heap):=λb hb o e=>
    List.mem_append_right _ (List.mem_append_right _ (pR hb e))
   cases ok with
   |false=>
    rw[iN0 xF0]at q7 ⊢;obtain⟨m',hm',w7⟩:=q7;refine⟨m',hm',i+1,ys,its,n,H7,τ',I7.pins_of (λp hp=>nomatch hp),l6,Tn.keep _ _ _ st5 λb hb o e=>(I7.pin _ (mF b hb o e)).1,λb hb=>?_,(I7.pin _ mD).1,(I7.pin _ mD).2.1,r3,w7⟩;obtain⟨o,e,d⟩:=Tn.obj _ _ st5 b hb;exact(I7.pin _ (mF b hb o e)).2.1
   |true=>
    rw[iP rfl]at q7 ⊢;refine wM (he HH.objs.size s2 H2 fp _ s7 _ H7 _ I7 q7) λy s8 ⟨yv,H8,I8,r8,m',hm',w8⟩=>?_;have eD8:=(I8.pin _ mD).1;have nD8:=(I8.pin _ mD).2.1;have hl:=r3.length;have q:=PySem.IsL.update eD8 (λz=>z.push y);rw[show its.toArray.push y=(its++[y]).toArray by simp]at q;refine call_meets PySem.F.slot_list_append ⟨_,eD8,rfl⟩ PySem.F.entry_list_append (PySem.F.args_list_append_2 _ _) (PySem.list_append s2.heap.objs.size its.toArray n y (by rw[sA];lia)) ⟨eD8,?_⟩;have I9:Inv (yI X sc T idx HH.objs.size s2 H2 fp) [] (τ'++sS σ idx) H8 s8:=I8.pins_of (λp hp=>nomatch hp);have up: ∀b o,b≠s2.heap.objs.size->s8.heap.get? b=some o->(s8.heap.update s2.heap.objs.size (Obj.mapSeq λz=>z.push y)).get? b=some o:=λb o hb e=>(Heap.get?_update_other s8.heap _ (Ne.symm hb)).trans e;refine⟨m',hm',i+1,_,_,_,H8,τ',I9.turned up nD8 hDC (.inr (Nat.le_refl _)) cD (λp hp=>nomatch hp),l6,?_,λb hb=>?_,q,nD8,r3.append (.cons r8 .nil),w8⟩
    .exact Tn.keep _ _ _ st5 λb hb o e=>up b o (Nat.ne_of_lt (hlt b hb)) (I8.pin _ (mF b hb o e)).1
    .obtain⟨o,e,d⟩:=Tn.obj _ _ st5 b hb;exact(I8.pin _ (mF b hb o e)).2.1
 exact codeAny_compStart_list (loop _ rfl) (Tn.self X.A 0 _ _ _ (Tn.keep _ _ _ st2 λb _ o e=>old b o e) (loop _ rfl))
def Ac{C:Cx->Prop}{elt tg iter:Expr}{ifs:Oc}{pos:Pos}{sc:Scope}{wi:TI}{g:TG}{tc:Addr->Shared->Hp->List Addr->TT}{te:Addr->Shared->Hp->List Addr->TE}(T:Nh)(idx:Db)
  (hi:Jl C X tg iter wi) (hCx: ∀c s₂ H2 fp pins σ,Inv X pins σ H2 s₂->C (yI X sc T idx c s₂ H2 fp)) (hB:vV X.env.scope X.N sc idx=true)
  (hg: ∀C s₂ H1 fp,PG (yI X sc T idx C s₂ H1 fp) tg g)
  (hc: ∀C s₂ H1 fp,UQ (yI X sc T idx C s₂ H1 fp) ifs (tc C s₂ H1 fp))
  (he: ∀C s₂ H1 fp,PE (yI X sc T idx C s₂ H1 fp) elt (te C s₂ H1 fp))
  (hs: ∀x,foldedSetIterable iter X.env x=pure x:=by intro _;rfl):
  PE X (.ListComp elt [⟨tg,iter,ifs,0⟩] sc pos) (UP wi g tc te T.length idx):=by
 intro pins s σ H Q I h;exact HW T idx hi hCx hB hg hc he hs I h λD C s4 H' r J _ ⟨m,hn⟩ q=>⟨m,hn,λh' hs'=>⟨.ref D,H',J h' hs',rfl,q⟩⟩
end
def bH(x:Db):Str:=⟨x.toArray⟩
def bE(x:Db):(bH x).length=x.length:=by simp[bH,Str.length]
def FG(x:Db):(bH x).cps.toList=x:=by simp[bH]
def OA{x y:Db}(h:bH x=bH y):x=y:=by have:=congrArg (λs=>s.cps.toList) h;simpa [bH]using this
def Ad(x y:Db):bH x++bH y=bH (x++y):=by show Str.append _ _=_;simp[Str.append,bH]
theorem Ae(c:Nat):(⟨#[c]⟩:Str)=bH [c]:=rfl
def qZ{α:Type}(xs:List α)(lo hi:Ob):List α:=(xs.drop (HT.sIx xs.length 0 lo)).take (HT.sIx xs.length xs.length hi - HT.sIx xs.length 0 lo)
theorem strIdx(lo hi:Ob)(n:Nat):Builtin.Str.strSliceIndices lo hi 1 n=(List.range (HT.sIx n n hi - HT.sIx n 0 lo)).map (HT.sIx n 0 lo+·):=by
 have e1:(match lo with |none=>(if(1:Int)>0 then(0:Int)else(n:Int) - 1)|some i=>if(1:Int)>0 then max 0 (min (if i<0 then i+(n:Int)else i) (n:Int))else max (-1) (min (if i<0 then i+(n:Int)else i) ((n:Int) - 1)))=((HT.sIx n 0 lo:Nat):Int):=by
  cases lo with
  |none=>simp[HT.sIx]
  |some i=>
   simp only[HT.sIx,show(1:Int)>0 by decide,if_true];by_cases h:i<0
   .simp only[h,if_true];lia
   .simp only[h,iF];lia
 have e2:(match hi with |none=>(if(1:Int)>0 then(n:Int)else -1)|some i=>if(1:Int)>0 then max 0 (min (if i<0 then i+(n:Int)else i) (n:Int))else max (-1) (min (if i<0 then i+(n:Int)else i) ((n:Int) - 1)))=((HT.sIx n n hi:Nat):Int):=by
  cases hi with
  |none=>simp[HT.sIx]
  |some i=>
   simp only[HT.sIx,show(1:Int)>0 by decide,if_true];by_cases h:i<0
   .simp only[h,if_true];lia
   .simp only[h,iF];lia
 rw[<-sliceRange_one];unfold Builtin.Str.strSliceIndices;rw[<-e1, <-e2];cases lo<;>cases hi<;>rfl
theorem QY(x:Db)(lo hi:Ob):Txt.slice (bH x) lo hi=bH (qZ x lo hi):=by
 unfold Txt.slice;rw[strIdx,bE];have hp:=by have:=pick_run (bH x).cps (HT.sIx x.length 0 lo) (HT.sIx x.length x.length hi - HT.sIx x.length 0 lo);exact this
 rw[hp];split
 .rename_i hc;rw[aE]at hc;have hl:=by simpa using hc.2
  have h2:HT.sIx x.length x.length hi<=x.length:=HT.sIx_le _ _ (Nat.le_refl _) _;have h3:HT.sIx x.length 0 lo<=x.length:=HT.sIx_le _ _ (zero_le _) _;have e:HT.sIx x.length 0 lo=0:=by lia
  unfold qZ;rw[hl,e];simp
 .rfl
section
variable{X:Cx}
def rSlS:V->Option Int->Option Int->Hp->VK->Prop:=λx lo hi H Q=> ∃cs,x=.str (bH cs)/\cs.length<=sizeLine/\Q (.str (bH (qZ cs lo hi))) H
def Gc:SlR X rSlS:=by
 intro pins s σ H x v vl vu lo hi sl Q I rx hs pl pu h;obtain⟨cs,rfl,hz,q⟩:=h;obtain⟨t,rfl⟩:=rx;have hl:(Txt.slice (bH cs) lo hi).length<=sizeLine:=Nat.le_trans (Txt.slice_le _ _ _) (by rw[bE];exact hz);rw[<-QY]at q;refine⟨"str",_,slot_str_getitem.lookup,typeIs_str _ _ _,?_⟩;obtain⟨o,ho,hc,hd⟩:=hs
 cases pl with
 |none=>
  cases pu with
  |none=>exact wpAny_getItem_str_slice (l:=none) (u:=none) (st:=none) ⟨o,ho,hc,hd⟩ rfl (post_val_or_str ⟨hl,λt' k=>⟨.str _,H,I.tok _,⟨_,rfl⟩,q⟩⟩)
  |int j uj=>exact wpAny_getItem_str_slice (l:=none) (u:=some (j,uj)) (st:=none) ⟨o,ho,hc,hd⟩ rfl (post_val_or_str ⟨hl,λt' k=>⟨.str _,H,I.tok _,⟨_,rfl⟩,q⟩⟩)
 |int i ui=>
  cases pu with
  |none=>exact wpAny_getItem_str_slice (l:=some (i,ui)) (u:=none) (st:=none) ⟨o,ho,hc,hd⟩ rfl (post_val_or_str ⟨hl,λt' k=>⟨.str _,H,I.tok _,⟨_,rfl⟩,q⟩⟩)
  |int j uj=>exact wpAny_getItem_str_slice (l:=some (i,ui)) (u:=some (j,uj)) (st:=none) ⟨o,ho,hc,hd⟩ rfl (post_val_or_str ⟨hl,λt' k=>⟨.str _,H,I.tok _,⟨_,rfl⟩,q⟩⟩)
def eM:OpR X (compareOp .LtE) (λx y H Q=> ∃i j,x=.str i/\y=.str j/\Q (.bl (!(j.cps.toList<i.cps.toList))) H):=by intro pins s σ H x y v u Q I rx ry h;obtain⟨i,j,rfl,rfl,q⟩:=h;obtain⟨t,rfl⟩:=rx;obtain⟨t',rfl⟩:=ry;exact PySem.P.le_str ⟨.bl _,H,I,rfl,q⟩
def CT(cs:Db)(k:Int):List Nat:=(List.replicate k.toNat cs).flatten
theorem sT(cs:Db): ∀(k:Nat)(acc:Db),List.foldl (λx1 x2=>x1++x2) acc.toArray (List.replicate k cs.toArray)=(acc++(List.replicate k cs).flatten).toArray
 |0,acc=>by simp
 |k+1,acc=>by rw[replicate_succ,replicate_succ,flatten_cons, <-aA, <-sT cs k _];simp
theorem KY:OpR X (binaryOp .Mult) (λx y H Q=> ∃cs k,x=.str (bH cs)/\y=.int k/\0<=k/\k<1000/\cs.length<=1000/\Q (.str (bH (CT cs k))) H):=by
 intro pins s σ H x y v u Q I rx ry h;obtain⟨cs,k,rfl,rfl,h0,h1,hc,q⟩:=h;obtain⟨t,rfl⟩:=rx;obtain⟨t',rfl⟩:=ry;have hs:=sizeLine_eq;have hprod:cs.length * k.toNat<=1000 * 1000:=Nat.mul_le_mul hc (by lia);have e: ∀b,Q (.str b) H->b=bH (CT cs k)->True:=λ_ _ _=>trivial;refine PySem.P.mul_str (by rw[dF0 (by lia),dF0 (by lia)];rfl) (λh2 _=>?_) (λ_ _=>?_) ?_
 .rw[bE];have hk:1<=k:=by lia
  have:(1000:Int)<=(2 ^ 63 - 1) / k:=by
   rw[Int.le_ediv_iff_mul_le (by lia)]
   lia
  lia
 .rw[bE];unfold PySem.Builtin.Str.tooLong;exact dF0 (by lia)
 .have made: ∀(z:Str),z=bH _->z.length<=sizeLine->(Made.str z).post (EP X pins σ Q) s:=λz ez hz=>⟨hz,by rw[ez];exact⟨.str _,H,I.tok _,⟨_,rfl⟩,q⟩⟩
  have hlen:(CT cs k).length=k.toNat * cs.length:=by unfold CT;rw[len_rep]
  by_cases hn:k<1
  .rw[iP hn];have hk:k.toNat=0:=by lia
   refine made _ ?_ (by decide);unfold CT;rw[hk];rfl
  .rw[iN0 hn];by_cases h3:(k==1 || (bH cs).length==0)=true
   .rw[iP h3];refine⟨.str _,H,I,⟨_,rfl⟩,?_⟩
    have:CT cs k=cs:=by
     unfold CT;rw[Bool.or_eq_true]at h3;rcases h3 with h3|h3
     .have:k=1:=by simpa using h3
      subst this;simp
     .rw[bE]at h3;have:cs=[]:=by cases cs with |nil=>rfl|cons _ _=>simp at h3
      subst this;simp
    rw[this]at q;exact q
   .rw[iN0 h3];refine made _ ?_ ?_
    .unfold CT bH;have:=sT cs k.toNat [];rw[List.nil_append]at this;exact congrArg Str.mk this
    .have e3:(List.foldl (λx1 x2=>x1++x2) #[] (List.replicate k.toNat (bH cs).cps))=(CT cs k).toArray:=by have:=sT cs k.toNat [];rw[List.nil_append]at this;exact this
     show(List.foldl (λx1 x2=>x1++x2) #[] _).size<=sizeLine;rw[e3,sA,hlen,Nat.mul_comm]
     lia
def fF:CallR X (.builtin "all") (λxs H Q=> ∃(a:Addr)(bs:Oa),xs=[.ref a]/\SqL X.K H a (bs.map V.bl)/\X.calm=true/\Q (.bl (bs.all id)) H):=by
 intro pins s σ H xs us Q I r h;obtain⟨a,bs,rfl,hq,hc,q⟩:=h;obtain⟨u,rfl,ru⟩:=vals1 r;cases ru;obtain⟨its,rv,pl,hz⟩:=I.list hq;have hlen:its.length=bs.length:=by rw[<-rv.length,lM0]
 refine PySem.call_all_walk (wpAny_pyIter_list pl.isList ?_);have hI:a≠s.heap.objs.size:=by obtain⟨o,ho,_⟩:=pl.isList;exact Nat.ne_of_lt (Heap.lt_size ho)
 have I1: ∀(h':Heap)(tk:Nat),(∀b o,b∉[s.heap.objs.size]->(s.heap.push {cls:=.type "list_iterator",data:=.fields #[.ref a,.int 0 0]}).get? b=some o->h'.get? b=some o)->Inv X pins σ H {s with heap:=h',toks:=tk}:=λh' tk k=>
  I.kept λb o e=>k b o (by simpa using Nat.ne_of_lt (Heap.lt_size e)) (hP0 _ e)
 refine⟨_,_,_,_,_,_,λi=>bs.getD i false,rfl,PySem.Walks.list (by first |exact I.ok.hd hc|exact(I.ok.hd hc)) _ a hI its.toArray,⟨⟨_,Heap.get?_push_size _ rfl,rfl,rfl⟩,pl.isList.at λo e=>hP0 _ e⟩,?_,λh' tk k=>?_⟩
 .intro i v s' Q' E' hv hQ';have hv':=by simpa using hv
  have hi:i<bs.length:=by rw[<-hlen];exact(gS.mp hv').1
  have hb:(bs.map V.bl)[i]? =some (V.bl (bs.getD i false)):=by simp[getD_eq_getElem?_getD,hi]
  obtain⟨u',hu',rv'⟩:=rv.get hb;rw[hv']at hu';cases hu';cases rv';exact wpAny_truthy_bool hQ'
 .refine⟨_,H,I1 h' tk k,?_,q⟩;congr 1;rw[sA,hlen]
  have: ∀(l:Oa),(List.range l.length).all (λi=>l.getD i false)=l.all id:=by
   intro l;rw[Bool.eq_iff_iff,List.all_eq_true,List.all_eq_true];constructor
   .intro h x hx;obtain⟨i,hi,rfl⟩:=List.getElem_of_mem hx;have:=h i (mem_range.mpr hi);simpa [getD_eq_getElem?_getD,hi]using this
   .intro h i hi;have hi':=mem_range.mp hi;have:=h l[i] (getElem_mem hi');simpa [getD_eq_getElem?_getD,hi']using this
  exact this bs
def Kw(x:Db):It:=⟨λi _=>i<x.length,λi H v H'=>H'=H/\ ∃c,x[i]? =some c/\v=.str (bH [c]),λi _=>x.length<=i⟩
def iStr(tl:TE):TI:=λσ H R=>tl σ H λv H1=> ∃x,v=.str (bH x)/\R (Kw x) H1
def HX{P:Program}{w:World}{K:Od}{tg:Expr}(it:Addr)(ty:String)(x:Db)(t:Tok)(hty:ty="str_ascii_iterator"\/ty="str_iterator"):
  Turn P w K tg (Kw x) [it] it (λi h=>h.IsStrIter it ty (bH x) t i) where
 mem:=by simp
 obj:=λi h st b hb=>by
  have e:b=it:=by simpa using hb
  subst e;obtain⟨o,e,c,d⟩:=st;exact⟨o,e,λv z=>by rw[d]at z;cases z⟩
 keep:=λi h h' st k=>let ⟨o,ho,r⟩:=st;⟨o,k it (by simp) o ho,r⟩
 item:=by
  intro X hP hw hK hc i pins s σ H E I hf st hg;subst hP hw hK;obtain⟨f0,f1,f2,f3,f4,f5⟩:=hf it (by simp);have hi:i<x.length:=hg;have hxi:(bH x).cps[i]? =some x[i]:=by simp[bH,hi]
  have fin: ∀(h':Heap),h'.IsStrIter it ty (bH x) t (i+1)->Heap.SameBut it s.heap h'-> ∃u,some (Value.str ⟨#[x[i]]⟩ s.toks)=some u/\
    wpAny (model X.prog X.w) X.A (letOwnedTupleGo tg (.ref it) u) (λ_ s2=> ∃y H',Inv X pins σ H' s2/\RelV y u/\(Kw x).yld i H y H'/\s2.heap.IsStrIter it ty (bH x) t (i+1)/\ ∀b∈[it],H' b=none) E {s with heap:=h',toks:=s.toks+1}:=λh' st' sb=>by
   have I1:Inv X pins σ H {s with heap:=h',toks:=s.toks+1}:=I.turned (λb o hb e=>(sb.2 b hb).trans e) f0 f1 f3 f4 f5;obtain⟨o,e,c,d⟩:=id st';refine⟨_,rfl,NU (s:={s with heap:=h',toks:=s.toks+1}) e c d (by rcases hty with rfl|rfl<;>decide) ⟨.str (bH [x[i]]),H,I1,⟨_,rfl⟩,⟨rfl,x[i],by simp[hi],rfl⟩,st',λb hb=>(hf b hb).1⟩⟩
  rcases hty with rfl|rfl
  .exact wpAny_pyNext_ascii_item st hxi λh' st' sb=>fin h' st' sb
  .exact wpAny_pyNext_wide_item st hxi λh' st' sb=>fin h' st' sb
 done:=by
  intro X hP hw hK hc i pins s σ H E I hf st hg;subst hP hw hK;obtain⟨f0,f1,f2,f3,f4,f5⟩:=hf it (by simp);have hi:x.length<=i:=hg;have hxi:(bH x).cps[i]? =none:=by simp[bH,hi]
  rcases hty with rfl|rfl
  .exact wpAny_pyNext_ascii_end (I.ok.hd hc) st hxi λh' eb=>⟨rfl,I.turned (t':=s.toks) (λb o hb e=>eb b o hb e) f0 f1 f3 f4 f5⟩
  .exact wpAny_pyNext_wide_end (I.ok.hd hc) st hxi λh' eb=>⟨rfl,I.turned (t':=s.toks) (λb o hb e=>eb b o hb e) f0 f1 f3 f4 f5⟩
 self:=λ_ _ _ _ _ st h=>by
  rcases hty with rfl|rfl
  .exact wpAny_pyIter_striter_ascii st h
  .exact wpAny_pyIter_striter_wide st h
def Gd{tg l:Expr}{tl:TE}(hl:PE X l tl):PI X tg l (iStr tl):=by
 intro pins s σ H R I h;refine wM (hl pins s σ H _ I h) λv s1 ⟨x,H1,I1,r1,q1⟩=>?_;obtain⟨cs,e,q⟩:=q1;subst e;obtain⟨t,rfl⟩:=r1
 have fp: ∀(o:Obj), ∀b∈[s1.heap.objs.size],pB X pins H1 b:=λo b hb=>by
  have e:b=s1.heap.objs.size:=by simpa using hb
  subst e;exact I1.fpOk (Nat.le_refl _) (I1.hok.fresh (Nat.le_refl _))
 cases ha:(bH cs).cps.all (· <128)
 .refine wpAny_pyIter_wide ha ?_;exact⟨s1.heap.objs.size,[s1.heap.objs.size],_,_,H1,rfl,I1.kept (t':=s1.toks) λb o e=>hP0 _ e,HX _ "str_iterator" cs t (.inr rfl),⟨_,Heap.get?_push_size _ rfl,rfl,rfl⟩,fp default,q⟩
 .refine wpAny_pyIter_ascii ha ?_;exact⟨s1.heap.objs.size,[s1.heap.objs.size],_,_,H1,rfl,I1.kept (t':=s1.toks) λb o e=>hP0 _ e,HX _ "str_ascii_iterator" cs t (.inl rfl),⟨_,Heap.get?_push_size _ rfl,rfl,rfl⟩,fp default,q⟩
end
section
variable{X:Cx}
def PU(X:Cx)(e:Expr)(t:TE):Prop:= ∀(i:Nat)(x:Str)(pos' pos:Pos),X.N.Nodup->X.N[i]? =some x->Loc X.env.scope x->(X.fn x=true\/X.env.scope.names.lookup x=some .local)->
 swapsWith e (some (.Name x pos')) pos.line X.env=pure true->PS X (.Assign [.Name x pos'] e pos) (Kd t (TQ i))
def Af{C:Cx->Prop}{elt tg iter:Expr}{ifs:Oc}{pos:Pos}{sc:Scope}{wi:TI}{g:TG}{tc:Addr->Shared->Hp->List Addr->TT}{te:Addr->Shared->Hp->List Addr->TE}(T:Nh)(idx:Db)
  (hi:Jl C X tg iter wi) (hCx: ∀c s₂ H2 fp pins σ,Inv X pins σ H2 s₂->C (yI X sc T idx c s₂ H2 fp)) (hB:vV X.env.scope X.N sc idx=true)
  (hg: ∀C s₂ H1 fp,PG (yI X sc T idx C s₂ H1 fp) tg g)
  (hc: ∀C s₂ H1 fp,UQ (yI X sc T idx C s₂ H1 fp) ifs (tc C s₂ H1 fp))
  (he: ∀C s₂ H1 fp,PE (yI X sc T idx C s₂ H1 fp) elt (te C s₂ H1 fp))
  (hs: ∀x,foldedSetIterable iter X.env x=pure x:=by intro _;rfl):
  PU X (.ListComp elt [⟨tg,iter,ifs,0⟩] sc pos) (UP wi g tc te T.length idx):=by
 intro i x pos' spos hN hix hx hf hsw pins s σ H D I h;rw[exec_Assign_Name_used _ _ _ _ hsw];refine wB (wpAny_standAt (wB ?_));refine wB (wM (HW T idx hi hCx hB hg hc he hs I h λDd C s4 H' _ J4 fo hm q=>?_) λ_ s' hq=>wP (wP hq));have I4:=J4 s4.heap (Heap.SameBut.refl _ _);refine wpAny_assign_Name (DH I4 hN hix hx (show RelV (.ref Dd) _ from rfl) (λs' I' ⟨a,hs',ha⟩=>?_) hf);obtain⟨m,hm⟩:=hm
 have hCa:C≠a:=by
  rintro rfl;rcases ha with ha|ha
  .exact fo.2.1 ha
  .exact fo.2.2.2.2.1 x _ ha rfl
 refine⟨m,hm.sameBut hs' hCa,λh' hs''=>⟨_,H',?_,q⟩⟩;exact I'.turned (λb o hb e=>(hs''.2 b hb).trans e) fo.1 fo.2.1 fo.2.2.2.1 fo.2.2.2.2.1 fo.2.2.2.2.2
end
end L2
namespace L2
namespace M
open PySem PySem.Spec PyProof.Rows
def UT{A:Around}{s:Shared}{y x:V}{u v:Value}(ry:RelV y u)(rx:RelV x v)(fy:eK y=true)(fx:eK x=true):SeqAt.RcAt A s u v (ZY y x)/\SeqAt.RcNeAt A s u v (!ZY y x):=by
 cases y with
 |non=>
  cases ry
  cases x with
  |non=>cases rx;exact⟨.none_none,.none_none⟩
  |bl b=>cases rx;exact⟨.none_bool b,.none_bool b⟩
  |int b=>obtain⟨t,rfl⟩:=rx;exact⟨.none_int b t,.none_int b t⟩
  |str b=>obtain⟨t,rfl⟩:=rx;exact⟨.none_str b t,.none_str b t⟩
  |_=>cases fx
 |bl a=>
  cases ry
  cases x with
  |non=>cases rx;exact⟨.bool_none a,.bool_none a⟩
  |bl b=>cases rx;exact⟨.bool_bool a b,.bool_bool a b⟩
  |int b=>obtain⟨t,rfl⟩:=rx;exact⟨.bool_int a b t,.bool_int a b t⟩
  |str b=>obtain⟨t,rfl⟩:=rx;exact⟨.bool_str a b t,.bool_str a b t⟩
  |_=>cases fx
 |int a=>
  obtain⟨t',rfl⟩:=ry
  cases x with
  |non=>cases rx;exact⟨.int_none a t',.int_none a t'⟩
  |bl b=>cases rx;exact⟨.int_bool a t' b,.int_bool a t' b⟩
  |int b=>obtain⟨t,rfl⟩:=rx;exact⟨.int_int a t' b t,.int_int a t' b t⟩
  |str b=>obtain⟨t,rfl⟩:=rx;exact⟨.int_str a t' b t,.int_str a t' b t⟩
  |_=>cases fx
 |str a=>
  obtain⟨t',rfl⟩:=ry
  cases x with
  |non=>cases rx;exact⟨.str_none a t',.str_none a t'⟩
  |bl b=>cases rx;exact⟨.str_bool a t' b,.str_bool a t' b⟩
  |int b=>obtain⟨t,rfl⟩:=rx;exact⟨.str_int a t' b t,.str_int a t' b t⟩
  |str b=>obtain⟨t,rfl⟩:=rx;exact⟨.str_str a t' b t,.str_str a t' b t⟩
  |_=>cases fx
 |_=>cases fy
abbrev Six(A:Around)(s:Shared)(u v:Value):Prop:=SeqAt.EqAt A s u v false/\SeqAt.EqAt A s v u false/\SeqAt.RcAt A s u v false/\SeqAt.RcAt A s v u false/\SeqAt.RcNeAt A s u v true/\SeqAt.RcNeAt A s v u true
def DU{A:Around}{s:Shared}{x:V}{v:Value}{l:Addr}{items:Nd}(rx:RelV x v)(fx:eK x=true)(hl:s.heap.IsList l items)(hu:A.units<cLine):Six A s (.ref l) v:=by
 cases x with
 |non=>cases rx;exact⟨.list_none hl hu,.none_list hl hu,.list_none hl hu,.none_list hl hu,.list_none hl hu,.none_list hl hu⟩
 |bl b=>cases rx;exact⟨.list_bool b hl hu,.bool_list b hl hu,.list_bool b hl hu,.bool_list b hl hu,.list_bool b hl hu,.bool_list b hl hu⟩
 |int b=>obtain⟨t,rfl⟩:=rx;exact⟨.list_int b t hl hu,.int_list b t hl hu,.list_int b t hl hu,.int_list b t hl hu,.list_int b t hl hu,.int_list b t hl hu⟩
 |str b=>obtain⟨t,rfl⟩:=rx;exact⟨.list_str b t hl hu,.str_list b t hl hu,.list_str b t hl hu,.str_list b t hl hu,.list_str b t hl hu,.str_list b t hl hu⟩
 |_=>cases fx
def uE{A:Around}{s:Shared}{x:V}{v:Value}{l:Addr}{items:Nd}(rx:RelV x v)(fx:eK x=true)(hl:s.heap.IsTuple l items)(hu:A.units<cLine):Six A s (.ref l) v:=by
 cases x with
 |non=>cases rx;exact⟨.tuple_none hl hu,.none_tuple hl hu,.tuple_none hl hu,.none_tuple hl hu,.tuple_none hl hu,.none_tuple hl hu⟩
 |bl b=>cases rx;exact⟨.tuple_bool b hl hu,.bool_tuple b hl hu,.tuple_bool b hl hu,.bool_tuple b hl hu,.tuple_bool b hl hu,.bool_tuple b hl hu⟩
 |int b=>obtain⟨t,rfl⟩:=rx;exact⟨.tuple_int b t hl hu,.int_tuple b t hl hu,.tuple_int b t hl hu,.int_tuple b t hl hu,.tuple_int b t hl hu,.int_tuple b t hl hu⟩
 |str b=>obtain⟨t,rfl⟩:=rx;exact⟨.tuple_str b t hl hu,.str_tuple b t hl hu,.tuple_str b t hl hu,.str_tuple b t hl hu,.tuple_str b t hl hu,.str_tuple b t hl hu⟩
 |_=>cases fx
def UU{y:V}(h:eK y=true):ZY y y=true:=by cases y<;>first |rfl|(simp[ZY];done)|exact absurd h xF0
abbrev K3:=Option Key
inductive NK where
 |key (k:K3)|tup (ks:List NK)
instance:DecidableEq NK:=λ_ _=>Classical.propDecidable _
section
variable{prog:Program}{w:World}(knd:KeyKind prog w K3)
mutual
def DV(h:Heap):NK->Value->Prop
 |.key k,v=>knd.is k v=true
 |.tup ks,v=> ∃a o items n,v=.ref a/\h.get? a=some o/\o.cls=.type "tuple"/\o.data=.seq items n/\pC h ks items.toList
def pC(h:Heap):List NK->List Value->Prop
 |[],vs=>vs=[]
 |k::ks,vs=> ∃v r,vs=v::r/\DV h k v/\pC h ks r
end
mutual
def rA:NK->Int
 |.key k=>knd.hash k
 |.tup ks=>reduceHash (Builtin.Tuple.tupleHashOf (vW ks))
def vW:List NK->List Int
 |[]=>[]
 |k::ks=>rA k::vW ks
end
mutual
def vX:NK->Nat
 |.key _=>1
 |.tup ks=>gN ks+1
def gN:List NK->Nat
 |[]=>0
 |k::ks=>vX k+gN ks
end
mutual
def uP:NK->Nat
 |.key _=>0
 |.tup ks=>uF ks+1
def uF:List NK->Nat
 |[]=>0
 |k::ks=>max (uP k) (uF ks)
end
variable{knd}
theorem jK{h:Heap}{k:K3}{v:Value}:DV knd h (.key k) v↔knd.is k v=true:=by unfold DV;exact Iff.rfl
def wN{h:Heap}{ks:List NK}{v:Value}:DV knd h (.tup ks) v↔ ∃a o items n,v=.ref a/\h.get? a=some o/\o.cls=.type "tuple"/\o.data=.seq items n/\pC knd h ks items.toList:=by
 conv=>lhs;unfold DV
theorem kH{h:Heap}{vs:Nc}:pC knd h [] vs↔vs=[]:=by unfold pC;exact Iff.rfl
def yZ{h:Heap}{k:NK}{ks:List NK}{vs:Nc}:pC knd h (k::ks) vs↔ ∃v r,vs=v::r/\DV knd h k v/\pC knd h ks r:=by
 conv=>lhs;unfold pC
mutual
theorem FH{h:Heap}: ∀{x y:NK}{v:Value},DV knd h x v->DV knd h y v->x=y
 |.key k,.key k',v,hx,hy=>by rw[knd.inj v k k' (jK.mp hx) (jK.mp hy)]
 |.key k,.tup ks,v,hx,hy=>by obtain⟨a,o,items,n,rfl,_⟩:=wN.mp hy;have:=knd.byValue _ _ (jK.mp hx);simp[carriedByValue]at this
 |.tup ks,.key k,v,hx,hy=>by obtain⟨a,o,items,n,rfl,_⟩:=wN.mp hx;have:=knd.byValue _ _ (jK.mp hy);simp[carriedByValue]at this
 |.tup ks,.tup ks',v,hx,hy=>by
  obtain⟨a,o,items,n,e,ho,_,hd,hi⟩:=wN.mp hx;obtain⟨a',o',items',n',e',ho',_,hd',hi'⟩:=wN.mp hy;rw[e]at e';cases e';obtain rfl:o=o':=Option.some.inj (ho.symm.trans ho');rw[hd]at hd';injection hd' with h1 _
  subst h1;rw[HY hi hi']
theorem HY{h:Heap}: ∀{xs ys:List NK}{vs:Nc},pC knd h xs vs->pC knd h ys vs->xs=ys
 |[],[],_,_,_=>rfl
 |[],y::ys,vs,hx,hy=>by obtain⟨v,r,e,_⟩:=yZ.mp hy;rw[kH.mp hx]at e;cases e
 |x::xs,[],vs,hx,hy=>by obtain⟨v,r,e,_⟩:=yZ.mp hx;rw[kH.mp hy]at e;cases e
 |x::xs,y::ys,vs,hx,hy=>by obtain⟨v,r,e,h1,h2⟩:=yZ.mp hx;obtain⟨v',r',e',h1',h2'⟩:=yZ.mp hy;rw[e]at e';cases e';rw[FH h1 h1',HY h2 h2']
end
mutual
theorem HZ{h h':Heap}(m: ∀a o items n,h.get? a=some o->o.data=.seq items n->h'.get? a=some o): ∀{x:NK}{v:Value},DV knd h x v->DV knd h' x v
 |.key k,v,hx=>jK.mpr (jK.mp hx)
 |.tup ks,v,hx=>by obtain⟨a,o,items,n,e,ho,hc,hd,hi⟩:=wN.mp hx;exact wN.mpr ⟨a,o,items,n,e,m a o items n ho hd,hc,hd,DW m hi⟩
theorem DW{h h':Heap}(m: ∀a o items n,h.get? a=some o->o.data=.seq items n->h'.get? a=some o): ∀{xs:List NK}{vs:Nc},pC knd h xs vs->pC knd h' xs vs
 |[],vs,hx=>kH.mpr (kH.mp hx)
 |x::xs,vs,hx=>by obtain⟨v,r,e,h1,h2⟩:=yZ.mp hx;exact yZ.mpr ⟨v,r,e,HZ m h1,DW m h2⟩
end
theorem vY: ∀ks:List NK,vW knd ks=ks.map (rA knd)
 |[]=>by unfold vW;rfl
 |k::ks=>by unfold vW;rw[vY ks];rfl
def pU:gN []=0:=by rw[gN]
def lK(k:NK)(ks:List NK):gN (k::ks)=vX k+gN ks:=by rw[gN]
def vZ(k:NK)(ks:List NK):uF (k::ks)=max (uP k) (uF ks):=by rw[uF]
def eO(ks:List NK):uP (.tup ks)=uF ks+1:=by rw[uP]
theorem pG: ∀(xs ys:List NK),gN (xs++ys)=gN xs+gN ys
 |[],ys=>by rw[pU,List.nil_append,Nat.zero_add]
 |x::xs,ys=>by rw[List.cons_append,lK,lK,pG xs ys];lia
def rB{s:Shared}{ks:List NK}{a:Addr}(h:DV knd s.heap (.tup ks) (.ref a)):s.TypeIs (.ref a) "tuple":=by obtain⟨a',o,_,n,e,ho,hc,_⟩:=wN.mp h;cases e;exact⟨o,ho,hc⟩
theorem IA: ∀(n:Nat){A:Around}{E:VP}{s:Shared}{k:NK}{v:Value}{Q:Int->Shared->Prop},uP k<=n->A.units+n<cLine->DV knd s.heap k v->Q (rA knd k) {s with toks:=s.toks+vX k}->wpAny (model prog w) A (pyHash v) Q E s
 |n,A,E,s,.key k,v,Q,_,_,hk,h=>knd.pyHash (jK.mp hk) (by rw[rA,vX]at h;exact h)
 |0,A,E,s,.tup ks,v,Q,hd,_,_,_=>by rw[eO]at hd;lia
 |n+1,A,E,s,.tup ks,v,Q,hdep,hu,hk,h=>by
  obtain⟨a,o,_,m,rfl,ho,hc,hd,hi⟩:=wN.mp hk;have hT:s.TypeIs (.ref a) "tuple":=⟨o,ho,hc⟩
  rw[eO]at hdep
  have hdl: ∀k∈ks,uP k<=n:=by
   have: ∀ks:List NK,uF ks<=n-> ∀k∈ks,uP k<=n:=by
    intro ks
    induction ks with
    |nil=>intro _ k hk;simp at hk
    |cons x xs ih=>
     intro hx k hk;rw[vZ]at hx;rcases mC.mp hk with rfl|hk
     .lia
     .exact ih (by lia) k hk
   exact this ks (by lia)
  rw[rA,vX,vY]at h;unfold pyHash
  first |unfold pyHashByItsType|skip
  first |refine wB (wpAny_cRoomFor_or (.inr (by lia)) ?_)|skip
  refine wB (wpAny_specialOf hT F.slot_tuple_hash.lookup ?_);show wpAny _ _ _ Q E s;rw[iN0 (by rw[beq_builtin_none];exact xF0)];refine wB (wpAny_specialOf hT F.slot_tuple_hash.lookup ?_);show wpAny _ _ _ Q E s;refine wB (wpAny_callSpecialIfBoundUnlessNone?_slot hT F.slot_tuple_hash (wpAny_call_entry F.slot_tuple_hash hT F.entry_tuple_hash ?_ (F.args_tuple_hash_1 _)));show wpAny _ _ (Builtin.Tuple.tupleItemsOf (.ref a) >>= _) _ _ s;refine wB (wpAny_tupleItemsOf ho hd ?_);refine wB ?_;rw[<-Array.forIn_toList]
  refine wpAny_forIn_list _
   (λrest (b:Array Int) s'=> ∃done left,ks=done++left/\pC knd s.heap left rest/\b.toList=done.map (rA knd)/\s'={s with toks:=s.toks+gN done})
   _ ?_ ?_ _ _ ⟨[],ks,rfl,hi,rfl,by rw[pU];rfl⟩
  .rintro x rest b s' ⟨done,left,rfl,hl,hb,rfl⟩
   cases left with
   |nil=>rw[kH]at hl;cases hl
   |cons k ks'=>
    obtain⟨v,r,e,h1,hl'⟩:=yZ.mp hl;cases e;refine wB (IA n (hdl k (by simp)) (show A.units+1+n<cLine by lia) h1 ?_);have e1:gN (done++[k])=gN done+vX k:=by rw[pG,lK,pU];rfl
    first
     |exact wP ⟨done++[k],ks',by simp,hl',by simp[hb],by simp[add_assoc,e1]⟩
     |exact wB _
  .rintro b s' ⟨done,left,rfl,hl,hb,rfl⟩
   cases left with
   |cons k ks'=>obtain⟨v,r,e,_⟩:=yZ.mp hl;cases e
   |nil=>
    rw[aN]at h;show wpAny _ _ (retInt _) _ _ _;rw[hb];refine wpAny_ret_mkInt ?_;show wpAny _ _ (if _=true then _ else _) Q E _;unfold reduceHash at h;by_cases hr:(decide (-(2:Int) ^ 63<=Builtin.Tuple.tupleHashOf (done.map (rA knd)))&&decide (Builtin.Tuple.tupleHashOf (done.map (rA knd))<2 ^ 63))=true
    .rw[iP hr];rw[iP hr]at h;exact wP (by simpa [add_assoc]using h)
    .rw[iN0 hr];rw[iN0 hr]at h;exact wB (wpAny_rule (wP (by simpa [add_assoc]using h)))
end
section
variable{prog:Program}{w:World}
def QZ{A:Around}{E:VP}{s:Shared}{Q:Int->Shared->Prop}(h:Q 0xFCA86420 {s with toks:=s.toks+1}):wpAny (model prog w) A (pyHash .none) Q E s:=by
 have hv:[Value.none].any Value.onHeap=false:=rfl;refine wB ?_;rw[cRoomFor];refine wP ?_;refine wB (wpAny_specialOf (typeIs_none s) F.slot_NoneType_hash.lookup ?_);show wpAny _ _ _ Q E s;refine wB (wpAny_specialOf (typeIs_none s) F.slot_NoneType_hash.lookup ?_);show wpAny _ _ _ Q E s
 refine wB (wpAny_callSpecialIfBoundUnlessNone?_slot (typeIs_none s) F.slot_NoneType_hash
  (wpAny_call_entry F.slot_NoneType_hash (typeIs_none s) F.entry_NoneType_hash
   (wpAny_ret_mkInt ?_) (F.args_NoneType_hash_1 _)))
 show wpAny _ _ (if _=true then _ else _) Q E _;exact wP h
def Kx:K3->Value->Bool
 |some k,v=>qX k v
 |none,v=>v==.none
def eP: ∀{k:K3}{v:Value},Kx k v=true->(∃i t,k=some (.inl i)/\v=Value.int i t)\/(∃x t,k=some (.inr x)/\v=Value.str x t)\/(k=none/\v=.none)
 |some k,v,h=>by
  rcases yW h with⟨i,t,rfl,e⟩|⟨x,t,rfl,e⟩
  .exact .inl ⟨i,t,rfl,e⟩
  .exact .inr (.inl ⟨x,t,rfl,e⟩)
 |none,v,h=>.inr (.inr ⟨rfl,eq_of_beq h⟩)
def mk(prog:Program)(w:World):KeyKind prog w K3 where
 is:=Kx
 hash:=λ|some k=>Jr w k|none=>0xFCA86420
 inj:=λv a b ha hb=>by rcases eP ha with⟨i,t,rfl,rfl⟩|⟨x,t,rfl,rfl⟩|⟨rfl,rfl⟩<;>rcases eP hb with⟨j,u,rfl,e⟩|⟨y,u,rfl,e⟩|⟨rfl,e⟩<;>first |(injection e with e1 _;rw[e1];done)|rfl|exact nomatch e
 byValue:=λk v h=>by rcases eP h with⟨i,t,rfl,rfl⟩|⟨x,t,rfl,rfl⟩|⟨rfl,rfl⟩<;>rfl
 pyHash:=λhv h=>by
  rcases eP hv with⟨i,t,rfl,rfl⟩|⟨x,t,rfl,rfl⟩|⟨rfl,rfl⟩
  .exact wpAny_pyHash_int h
  .exact wpAny_pyHash_str h
  .exact QZ h
 eqBool:=λ{A} {E} {s} {a} {b} {u} {v} {Q} hu hv h=>by
  cases a with
  |some a=>
   cases b with
   |some b=>exact(nY prog w).eqBool hu hv (by rw[show decide (some a=some b)=decide (a=b)from by simp]at h;exact h)
   |none=>
    cases eq_of_beq hv;rw[show decide (some a=none)=false from dF0 λz=>nomatch z]at h;rcases yW (show qX a u=true from hu)with⟨i,t,rfl,rfl⟩|⟨x,t,rfl,rfl⟩
    .exact SeqAt.EqAt.int_none i t _ _ _ _ h
    .exact SeqAt.EqAt.str_none x t _ _ _ _ h
  |none=>
   cases eq_of_beq hu
   cases b with
   |some b=>
    rw[show decide (none=some b)=false from dF0 λz=>nomatch z]at h;rcases yW (show qX b v=true from hv)with⟨i,t,rfl,rfl⟩|⟨x,t,rfl,rfl⟩
    .exact SeqAt.EqAt.none_int i t _ _ _ _ h
    .exact SeqAt.EqAt.none_str x t _ _ _ _ h
   |none=>
    cases eq_of_beq hv;rw[show decide ((none:K3)=none)=true from dT0 rfl]at h;exact SeqAt.EqAt.same _ _ _ _ _ h
 «strs»:=λk x t v h=>by
  rcases eP h with⟨i,u,rfl,e⟩|⟨y,u,rfl,e⟩|⟨rfl,e⟩
  .exact nomatch e
  .injection e with e1 _
   subst e1;cases v<;>rfl
  .exact nomatch e
def Ag(a b:K3):decide (NK.key a=NK.key b)=decide (a=b):=by
 by_cases h:a=b
 .subst h;simp
 .rw[dF0 h,dF0 λz=>h (NK.key.inj z)]
def Ge(a:K3)(b:List NK):decide (NK.key a=NK.tup b)=false:=dF0 λz=>nomatch z
def Gf(a:K3)(b:List NK):decide (NK.tup b=NK.key a)=false:=dF0 λz=>nomatch z
def Gg(a b:List NK):decide (NK.tup a=NK.tup b)=decide (a=b):=by
 by_cases h:a=b
 .subst h;simp
 .rw[dF0 h,dF0 λz=>h (NK.tup.inj z)]
def IB{k:K3}{v:Value}(h:(mk prog w).is k v=true): ∃x:V,RelV x v/\eK x=true:=by
 rcases eP h with⟨i,t,rfl,rfl⟩|⟨x,t,rfl,rfl⟩|⟨rfl,rfl⟩
 .exact⟨.int i,⟨t,rfl⟩,rfl⟩
 .exact⟨.str x,⟨t,rfl⟩,rfl⟩
 .exact⟨.non,rfl,rfl⟩
def RA{A:Around}{E:VP}{s:Shared}{x y:List NK}{a b:Addr}{P:Fin->Shared->Prop}
  (he: ∀k1∈x, ∀k2 u v (Q:Bool->Shared->Prop),DV (mk prog w) s.heap k1 u->DV (mk prog w) s.heap k2 v->Q (decide (k1=k2)) s->wpAny (model prog w) A (eqBool u v) Q E s)
  (hx:DV (mk prog w) s.heap (.tup x) (.ref a)) (hy:DV (mk prog w) s.heap (.tup y) (.ref b)) (h:P (.done (.ret (.bool (decide (x=y))))) s):
  wpAny (model prog w) A (Builtin.«tuple.__eq__» ⟨[.ref a,.ref b],[]⟩) P E s:=by
 have hTb:=rB hy;obtain⟨_,oa,xs,na,e,hoa,_,hda,hia⟩:=wN.mp hx;cases e;obtain⟨_,ob,ys,nb,e,hob,_,hdb,hib⟩:=wN.mp hy;cases e;show wpAny _ _ (isInstance _ _ >>= _) _ _ s;refine wB (wpAny_isInstance hTb isSubtype_tuple_tuple ?_);simp only[Bool.not_true,fT,iF];refine wB (wpAny_tupleItemsOf hoa hda ?_);refine wB (wpAny_tupleItemsOf hob hdb ?_);refine wB ?_
 refine wpAny_forIn_list _
  (λrest r s'=>r.1=none/\s'=s/\ ∃x' y' xs' ys',rest=List.zip xs' ys'/\(∀k∈x',k∈x)/\pC _ s.heap x' xs'/\pC _ s.heap y' ys'/\decide (x'=y')=decide _/\(xs'.length==ys'.length)=(xs.size==ys.size))
  _ ?_ ?_ _ _ ⟨rfl,rfl,x,y,_,_,rfl,λk hk=>hk,hia,hib,rfl,by simp⟩
 .rintro⟨u,v⟩ rest r s' ⟨hr,rfl,x',y',xs',ys',hz,hm,hx',hy',hdec,hlen⟩
  cases x' with
  |nil=>rw[kH.mp hx']at hz;simp at hz
  |cons k1 x''=>
   cases y' with
   |nil=>rw[kH.mp hy']at hz;simp at hz
   |cons k2 y''=>
    obtain⟨u',xs'',rfl,h1,hx''⟩:=yZ.mp hx';obtain⟨v',ys'',rfl,h2,hy''⟩:=yZ.mp hy';simp only[zip_cons_cons,List.cons.injEq,Prod.mk.injEq]at hz;obtain⟨⟨rfl,rfl⟩,rfl⟩:=hz;refine wB (he k1 (hm k1 mF0) k2 _ _ _ h1 h2 ?_);by_cases hk:k1=k2
    .subst hk;rw[dT0 rfl];simp only[Bool.not_true,fT,iF];refine wP ⟨rfl,rfl,x'',y'',xs'',ys'',rfl,λk hk=>hm k (mO _ hk),hx'',hy'',?_,by simpa using hlen⟩;rw[<-hdec];by_cases hxy:x''=y''
     .simp[hxy]
     .simp[hxy]
    .rw[dF0 hk];simp only[Bool.not_false,if_true];have hf:decide (x=y)=false:=by rw[<-hdec];simp[hk]
     rw[hf]at h;exact wB (wP (wP (wP h)))
 .rintro⟨r1,r2⟩ s' ⟨hr,rfl,x',y',xs',ys',hz,hm,hx',hy',hdec,hlen⟩;simp only at hr;subst hr;refine wP ?_
  have hfin:(xs.size==ys.size)=decide (x=y):=by
   rw[<-hdec, <-hlen]
   cases x' with
   |nil=>
    rw[kH.mp hx']
    cases y' with
    |nil=>rw[kH.mp hy'];simp
    |cons k2 y''=>obtain⟨v',ys'',rfl,h2,hy''⟩:=yZ.mp hy';simp
   |cons k1 x''=>
    obtain⟨u',xs'',rfl,h1,hx''⟩:=yZ.mp hx'
    cases y' with
    |nil=>rw[kH.mp hy'];simp
    |cons k2 y''=>obtain⟨v',ys'',rfl,h2,hy''⟩:=yZ.mp hy';simp at hz
  show P (.done (.ret (.bool _))) s';rw[hfin];exact h
theorem AA{n:Nat}: ∀{ks:List NK},uF ks<=n-> ∀k∈ks,uP k<=n
 |[],_,k,hk=>by simp at hk
 |x::xs,hx,k,hk=>by
  rw[vZ]at hx;rcases mC.mp hk with rfl|hk
  .lia
  .exact AA (by lia) k hk
theorem IC: ∀(n:Nat){A:Around}{E:VP}{s:Shared}{x y:NK}{u v:Value}{Q:Bool->Shared->Prop},uP x<=n->A.units+n<cLine->DV (mk prog w) s.heap x u->DV (mk prog w) s.heap y v->Q (decide (x=y)) s->wpAny (model prog w) A (eqBool u v) Q E s
 |n,A,E,s,.key a,.key b,u,v,Q,_,_,hx,hy,h=>(mk prog w).eqBool (jK.mp hx) (jK.mp hy) (by rw[Ag]at h;exact h)
 |n,A,E,s,.key a,.tup b,u,v,Q,_,hu,hx,hy,h=>by obtain⟨z,rz,fz⟩:=IB (jK.mp hx);obtain⟨l,o,_,m,rfl,ho,hc,hd,_⟩:=wN.mp hy;rw[Ge]at h;exact(uE rz fz ⟨o,ho,hc,m,hd⟩ (by lia)).2.1 prog w E Q h
 |n,A,E,s,.tup a,.key b,u,v,Q,_,hu,hx,hy,h=>by obtain⟨z,rz,fz⟩:=IB (jK.mp hy);obtain⟨l,o,_,m,rfl,ho,hc,hd,_⟩:=wN.mp hx;rw[Gf]at h;exact(uE rz fz ⟨o,ho,hc,m,hd⟩ (by lia)).1 prog w E Q h
 |0,A,E,s,.tup a,.tup b,u,v,Q,hd,_,hx,hy,h=>by rw[eO]at hd;lia
 |n+1,A,E,s,.tup x,.tup y,u,v,Q,hd,hu,hx,hy,h=>by
  obtain⟨a,_,_,_,ea,_⟩:=wN.mp hx;obtain⟨b,_,_,_,eb,_⟩:=wN.mp hy;subst ea eb;rw[eO]at hd;rw[Gg]at h;unfold eqBool
  try with_reducible refine wpAny_holding ?_
  show wpAny _ _ _ Q E s;by_cases hab:(Value.ref a==Value.ref b)=true
  .rw[iP hab];have e:a=b:=by have:=eq_of_beq hab;injection this
   subst e;have:x=y:=NK.tup.inj (FH hx hy);subst this;exact wB (wpAny_rule (wP (by simpa using h)))
  .rw[iN0 hab]
   refine wB (wpAny_richCompare_same_room (rB hx) (rB hy) F.slot_tuple_eq
    (wpAny_call_entry F.slot_tuple_eq (rB hx) F.entry_tuple_eq (RA (λk1 hk1 k2 u v Q h1 h2 h3=>IC n (AA (by lia) k1 hk1) (show A.units+1+n<cLine by lia) h1 h2 h3) hx hy ⟨_,rfl,(λe=>nomatch e),wpAny_truthy_bool h⟩) (F.args_tuple_eq_2 _ _)) (by lia))
theorem OB: ∀(n m:Nat){A:Around}{E:VP}{s:Shared}{x:NK}{u:Value}{Q:Bool->Shared->Prop},uP x<=n->n<m->DV (mk prog w) s.heap x u->Q true s->wpAny (model prog w) A (eqIsQuiet m u) Q E s
 |n,m,A,E,s,.key k,u,Q,_,_,hx,h=>by rw[eqIsQuiet_byValue m ((mk prog w).byValue _ _ (jK.mp hx))];exact wP h
 |0,m,A,E,s,.tup ks,u,Q,hd,_,hx,h=>by rw[eO]at hd;lia
 |n+1,0,A,E,s,.tup ks,u,Q,hd,hm,hx,h=>by lia
 |n+1,m+1,A,E,s,.tup ks,u,Q,hdp,hm,hx,h=>by
  obtain⟨a,o,_,j,rfl,ho,hc,hd,hi⟩:=wN.mp hx;have hT:s.TypeIs (.ref a) "tuple":=⟨o,ho,hc⟩
  rw[eO]at hdp;unfold eqIsQuiet;refine wB (wpAny_specialOf hT F.slot_tuple_eq.lookup ?_);show wpAny _ _ _ _ _ s;refine wB (wpAny_isInstance hT isSubtype_tuple_tuple ?_);refine wB (wpAny_seqItems ho hd ?_);refine wB ?_;show wpAny _ _ _ _ _ s;rw[<-Array.forIn_toList];refine wpAny_forIn_list _ (λrest r s'=>r.1=none/\s'=s/\ ∃left,(∀k∈left,k∈ks)/\pC _ s.heap left rest) _ ?_ ?_ _ _ ⟨rfl,rfl,ks,λk hk=>hk,hi⟩
  .rintro v rest r s' ⟨hr,rfl,left,hm',hl⟩
   cases left with
   |nil=>rw[kH]at hl;cases hl
   |cons k left=>
    obtain⟨v',r',e,h1,h2⟩:=yZ.mp hl;cases e;refine wB (OB n m (AA (by lia) k (hm' k mF0)) (by lia) h1 ?_);exact wP ⟨rfl,rfl,left,λk hk=>hm' k (mO _ hk),h2⟩
  .rintro⟨r1,r2⟩ s' ⟨hr,rfl,_⟩;subst hr;exact wP h
end
def UV(prog:Program)(w:World):HeapKind prog w NK where
 is:=λh k a=>DV (mk prog w) h k (.ref a)/\uP k<=4
 hash:=rA (mk prog w)
 draws:=vX
 room:=λA=>A.units+4<cLine
 inj:=λhx hy=>FH hx.1 hy.1
 keeps:=λx ho hd hs=>⟨HZ (λa o' items n e q=>(hs.2 a λz=>by subst z;rw[ho]at e;cases e;rw[hd]at q;cases q).trans e) x.1,x.2⟩
 pyHash:=λhu hk h=>IA 4 hk.2 hu hk.1 h
 eqBool:=λhu hx hy h=>IC 4 hx.2 hu hx.1 hy.1 h
 quiet:=λhk h=>OB 4 8 hk.2 (by decide) hk.1 h
def DN(P:Program)(w:World)(a:Addr)(xs:List (NK×Addr×Value)):HO:=
 .ext λh=>xs.length<=sizeLine/\(a==sysModules)=false/\ ∃o es ep,h.get? a=some o/\o.ExactDict/\o.data=.dict es ep/\es.toList=xs.map (entryOfKey (UV P w))/\(xs.map (·.1)).Nodup
end M
end L2
namespace L2
open PySem PySem.Spec PyProof.Rows
def YX(h:Heap)(e T:Addr)(cls:Value)(d:Option Addr)(fl:Value):Prop:=
 ∃oe vs oT ts,h.get? e=some oe/\oe.cls=cls/\oe.dict=d/\oe.data=.fields vs/\vs[1]? =some (.ref T)/\T≠e/\h.get? T=some oT/\oT.data=.fields ts/\ts[3]? =some fl/\vs[2]? =some .none
def Gh(h:Heap)(e:Addr)(cls:Value)(d:Option Addr):Prop:= ∃oe vs,h.get? e=some oe/\oe.cls=cls/\oe.dict=d/\oe.data=.fields vs/\vs[1]? =some .none/\vs[2]? =some .none
structure Mvd(fs:Ng)(e T:Addr)(h h':Heap):Prop where
 keep: ∀b o,b≠e->b≠T->b∉fs->h.get? b=some o->h'.get? b=some o
 slot: ∀b o,b≠e->b≠T->h.get? b=some o-> ∃sl,h'.get? b=some {o with slots:=sl}
 there: ∀b o,h.get? b=some o-> ∃o',h'.get? b=some o'
def Mvd.new{fs:Ng}{e T T':Addr}{h h1 h2:Heap}(a:Mvd fs e T h h1)(n:h.get? T'=none)(b:Mvd fs e T' h1 h2):Mvd fs e T h h2:=by
 have ne: ∀c o,h.get? c=some o->c≠T':=λc o q z=>by rw[z,n]at q;cases q
 exact⟨λc o h1 h2 h3 q=>b.keep c o h1 (ne c o q) h3 (a.keep c o h1 h2 h3 q),λc o h1 h2 q=>by obtain⟨sl,e1⟩:=a.slot c o h1 h2 q;obtain⟨sl',e2⟩:=b.slot c _ h1 (ne c o q) e1;exact⟨sl',e2⟩,λc o q=>let ⟨o',e1⟩:=a.there c o q;b.there c o' e1⟩
theorem AB(f:Array Value->Array Value)(o:Obj):(Obj.mapFields f o).dict=o.dict:=by obtain⟨c,d,dt,sl⟩:=o;cases dt<;>rfl
section
variable{M:Model}{A:Around}{E:VP}{s:Shared}{base:Heap}{env:Env}{outer:List Env}{L e T:Addr}{cls:Value}{d:Option Addr}{Q:Unit->Shared->Prop}
def UW{oe:Obj}{vs:Nd}{head:Value}{hadNext:Bool}(hfr:A.frames=some (env::outer))(hl:s.heap.FunFrames base (env::outer))(hf:env.frame=some L)
  (he:s.heap.get? e=some oe) (hd:oe.data=.fields vs) (hsz:1<vs.size) (h2:vs[2]? =some .none)
  (h: ∀h' T',s.heap.get? T'=none->Mvd (vK (env::outer)) e e s.heap h'->YX h' e T' oe.cls oe.dict (rawInt L)->Q () {s with heap:=h'}):
  wpAny M A (do let a <-frameOf env;let pl <-entryPlaceOf L hadNext;let b <-EntryCells.newEntry head a .none (rawInt L) .none pl;setField (.ref e) 1 b) Q E s:=by
 have hene:e∉(env::outer).filterMap (·.frame):=λhm=>by obtain⟨_,o,ho,hnf⟩:=hl.mem hm;rw[he]at ho;injection ho with ho;subst ho;exact hnf vs hd
 refine wB (wpAny_frameOf_fun hfr hl hf λh₁ hs₁=>?_);refine wB (wpAny_entryPlaceOf λpl hpl=>?_);unfold EntryCells.newEntry newFields;refine wB (wpAny_newObj_type ?_ (hpl.sizeOk5 _ _ _ _ _));have he₁:h₁.get? e=some oe:=(hs₁.2.1 e hene).trans he;have he₂:=hP0 (h:=h₁) {cls:=.type "traceback",dict:=none,data:=.fields ([head,.ref L,.none,rawInt L,.none]++(if pl.isEmpty then List.replicate 6 Value.none else pl)).toArray} he₁;refine wpAny_setField he₂ hd hsz ?_;have hTe:h₁.objs.size≠e:=Nat.ne_of_gt (Heap.lt_size he₁);have hd₃:=Obj.data_mapFields hd (·.setIfInBounds 1 (Value.ref h₁.objs.size));have he₃:=Heap.get?_update_self (Obj.mapFields (·.setIfInBounds 1 (Value.ref h₁.objs.size))) he₂ (Obj.isFreed_of_fields hd₃)
 have hT₃:=(Heap.get?_update_other (h₁.push {cls:=.type "traceback",dict:=none,data:=.fields ([head,.ref L,.none,rawInt L,.none]++(if pl.isEmpty then List.replicate 6 Value.none else pl)).toArray})
  (Obj.mapFields (·.setIfInBounds 1 (Value.ref h₁.objs.size))) (Ne.symm hTe)).trans (Heap.get?_push_size h₁ rfl)
 have keep: ∀b o,b≠e->h₁.get? b=some o->
   ((h₁.push {cls:=.type "traceback",dict:=none,data:=.fields ([head,.ref L,.none,rawInt L,.none]++(if pl.isEmpty then List.replicate 6 Value.none else pl)).toArray}).update e (Obj.mapFields (·.setIfInBounds 1 (Value.ref h₁.objs.size)))).get? b=some o:=
  λb o hbe hb=>by rw[Heap.get?_update_other _ _ (Ne.symm hbe)];exact hP0 _ hb
 refine h _ h₁.objs.size ?_ ⟨λb o hbe _ hbf hb=>keep b o hbe ((hs₁.2.1 b hbf).trans hb),λb o hbe _ hb=>?_,λb o hb=>?_⟩ ?_
 .cases q:s.heap.get? h₁.objs.size with
  |none=>rfl
  |some o=>
   obtain⟨sl,hs⟩:=hs₁.2.2 _ o q;exact absurd (Heap.lt_size hs) (lt_irrefl _)
 .obtain⟨sl,hs⟩:=hs₁.2.2 b o hb;exact⟨sl,keep b _ hbe hs⟩
 .by_cases hbe:b=e
  .subst hbe;exact⟨_,he₃⟩
  .obtain⟨sl,hs⟩:=hs₁.2.2 b o hb;exact⟨_,keep b _ hbe hs⟩
 .exact⟨_,_,_,_,he₃,Obj.cls_mapFields _ _,AB _ _,hd₃,by simp[hsz],hTe,hT₃,rfl,by first |(simp;done)|(rcases hpl with rfl|⟨_,_,_,_,_,_,_,rfl⟩<;>simp),by rw[Array.getElem?_setIfInBounds_ne (by decide)];exact h2⟩
def KZ(hfr:A.frames=some (env::outer))(hl:s.heap.FunFrames base (env::outer))(hf:env.frame=some L)(hb:Gh s.heap e cls d)
  (h: ∀h' T',s.heap.get? T'=none->Mvd (vK (env::outer)) e e s.heap h'->YX h' e T' cls d (rawInt L)->Q () {s with heap:=h'}):wpAny M A (noteFrame (.ref e) env) Q E s:=by
 obtain⟨oe,vs,he,rfl,rfl,hd,h1,h2⟩:=hb;unfold noteFrame;simp only[hf];refine wB (wpAny_field he hd h1 ?_);rw[iN0 (by decide)];exact UW hfr hl hf he hd (Array.getElem?_eq_some_iff.mp h1).1 h2 h
def setT{oT:Obj}{ts:Nd}{x:Value}{h0:Heap}(hT:h0.get? T=some oT)(hdT:oT.data=.fields ts):Mvd (vK (env::outer)) e T h0 (h0.update T (Obj.mapFields (·.setIfInBounds 3 x))):=by
 have other: ∀b,b≠T->(h0.update T (Obj.mapFields (·.setIfInBounds 3 x))).get? b=h0.get? b:=λb hb=>Heap.get?_update_other _ _ (Ne.symm hb);refine⟨λb o _ hbT _ hb=>(other b hbT).trans hb,λb o _ hbT hb=>⟨o.slots,(other b hbT).trans hb⟩,λb o hb=>?_⟩;by_cases hbT:b=T
 .subst hbT;exact⟨_,Heap.get?_update_self _ hT (Obj.isFreed_of_fields (Obj.data_mapFields hdT _))⟩
 .exact⟨o,(other b hbT).trans hb⟩
def DX(hfr:A.frames=some (env::outer))(hl:s.heap.FunFrames base (env::outer))(hf:env.frame=some L)(hb:YX s.heap e T cls d .none)
  (h: ∀h' T',s.heap.get? T'=none->Mvd (vK (env::outer)) e T s.heap h'->YX h' e T' cls d (rawInt L)->Q () {s with heap:=h'}):wpAny M A (noteFrame (.ref e) env) Q E s:=by
 obtain⟨oe,vs,oT,ts,he,rfl,rfl,hd,h1,hTe,hT,hdT,h3,h2⟩:=hb;unfold noteFrame;simp only[hf];refine wB (wpAny_field he hd h1 ?_);rw[iP (show(Value.ref T !=Value.none)=true from by simp)];refine wB (wpAny_field hT hdT h3 ?_);rw[iN0 (show¬((Value.none==rawInt L)=true)from by simp[rawInt])];refine wB (wpAny_setField hT hdT (Array.getElem?_eq_some_iff.mp h3).1 ?_);have mv:=setT (env:=env) (outer:=outer) (e:=e) (x:=Value.none) hT hdT;have other: ∀b,b≠T->(s.heap.update T (Obj.mapFields (·.setIfInBounds 3 Value.none))).get? b=s.heap.get? b:=λb hb=>Heap.get?_update_other _ _ (Ne.symm hb);have noRecord: ∀b o,s.heap.get? b=some o->(∀vs,o.data≠.fields vs)->b≠T:=λb o hb hnf q=>by rw[q,hT]at hb;injection hb with hb;subst hb;exact hnf ts hdT
 refine UW (s:={s with heap:=s.heap.update T (Obj.mapFields (·.setIfInBounds 3 Value.none))}) hfr (hl.of_keeps λb o hb hnf=>⟨o,(other b (noRecord b o hb hnf)).trans hb,rfl⟩) hf ((other e (Ne.symm hTe)).trans he) hd (Array.getElem?_eq_some_iff.mp h1).1 h2
  λh' T' n m f=>h h' T' ?_ ⟨λb o hbe hbT hbf hb=>m.keep b o hbe hbe hbf (mv.keep b o hbe hbT hbf hb),λb o hbe hbT hb=>?_,λb o hb=>?_⟩ f
 .cases q:s.heap.get? T' with
  |none=>rfl
  |some o=>
   obtain⟨o',hs⟩:=mv.there _ o q;have n':(s.heap.update T (Obj.mapFields (·.setIfInBounds 3 Value.none))).get? T'=none:=n;rw[n']at hs;cases hs
 .obtain⟨sl,e1⟩:=mv.slot b o hbe hbT hb;obtain⟨sl',e2⟩:=m.slot b _ hbe hbe e1;exact⟨sl',e2⟩
 .obtain⟨o',e1⟩:=mv.there b o hb;exact m.there b o' e1
def aC{fl:Value}(hb:YX s.heap e T cls d fl)(h: ∀h',Mvd (vK (env::outer)) e T s.heap h'->YX h' e T cls d .none->Q () {s with heap:=h'}):wpAny M A (setFlight (.ref e) none) Q E s:=by obtain⟨oe,vs,oT,ts,he,rfl,rfl,hd,h1,hTe,hT,hdT,h3,h2⟩:=hb;have hsz3:3<ts.size:=(Array.getElem?_eq_some_iff.mp h3).1;unfold setFlight;refine wB (wpAny_field he hd h1 ?_);rw[iP (show(Value.ref T !=Value.none)=true from by simp)];refine wpAny_setField hT hdT hsz3 (h _ (setT hT hdT) ?_);exact⟨oe,vs,_,_,(Heap.get?_update_other _ _ hTe).trans he,rfl,rfl,hd,h1,hTe,Heap.get?_update_self _ hT (Obj.isFreed_of_fields (Obj.data_mapFields hdT _)),Obj.data_mapFields hdT _,by simp[hsz3],h2⟩
def IE(hfr:A.frames=some (env::outer))(hl:s.heap.FunFrames base (env::outer))(hf:env.frame=some L)(hb:Gh s.heap e cls d)
  (h: ∀h' T',s.heap.get? T'=none->Mvd (vK (env::outer)) e e s.heap h'->YX h' e T' cls d .none->Q () {s with heap:=h'}):wpAny M A (leaving env (.ref e)) Q E s:=by
 unfold leaving;refine wB (KZ hfr hl hf hb λh1 T' n m f=>aC (env:=env) (outer:=outer) f λh2 m2 f2=>h h2 T' n (m.new n m2) f2)
def LA(hfr:A.frames=some (env::outer))(hl:s.heap.FunFrames base (env::outer))(hf:env.frame=some L)(hb:YX s.heap e T cls d .none)
  (h: ∀h' T',s.heap.get? T'=none->Mvd (vK (env::outer)) e T s.heap h'->YX h' e T' cls d .none->Q () {s with heap:=h'}):wpAny M A (leaving env (.ref e)) Q E s:=by
 unfold leaving;refine wB (DX hfr hl hf hb λh1 T' n m f=>aC (env:=env) (outer:=outer) f λh2 m2 f2=>h h2 T' n (m.new n m2) f2)
end
def ObjOk.here{P:Program}{w:World}{H:Hp}{h:Heap}{a:Addr}{o:HO}(x:ObjOk P w H h a o): ∃ob,h.get? a=some ob:=by
 cases o with
 |lst xs=>obtain⟨_,_,_,_,e⟩:=x;exact⟨_,e⟩
 |tup xs=>obtain⟨_,_,_,ob,e,_⟩:=x;exact⟨_,e⟩
 |dK kvs=>obtain⟨_,_,_,_,o,_,_,e,_⟩:=x;exact⟨_,e⟩
 |dT kvs=>obtain⟨_,_,_,_,o,_,_,e,_⟩:=x;exact⟨_,e⟩
 |set S n=>obtain⟨o,_,_,_,e,_⟩:=x;exact⟨_,e⟩
 |ins C dx fs=>obtain⟨_,_,_,e,_⟩:=x;exact⟨_,e⟩
 |own y=>exact x
 |xd fs=>obtain⟨_,⟨_,_,_,e,_⟩,_⟩:=x;exact⟨_,e⟩
 |rng lo hi=>obtain⟨_,_,_,e⟩:=x;exact⟨_,e⟩
 |frz ob u=>obtain⟨e,_⟩:=x;exact⟨_,e⟩
 |tbl ps=>exact⟨_,(show h.get? a=some _ from x)⟩
 |met f y=>exact⟨_,(show h.get? a=some _ from x)⟩
 |ext φ=>obtain⟨_,e,_⟩:=x;exact e
def HOk.none_of{P:Program}{w:World}{H:Hp}{h:Heap}{a:Addr}(x:HOk P w H h)(n:h.get? a=none):H a=none:=by
 cases q:H a with
 |none=>rfl
 |some u=>
  obtain⟨ob,e⟩:=(x a u q).here;rw[n]at e;cases e
section
variable{X:Cx}{pins:Nk}{σ:St}{H:Hp}{s:Shared}
def Inv.older(J:Inv X pins σ H s)(hex:X.ex=[]){b:Addr}(n:s.heap.get? b=none):X.s₀.heap.get? b=none:=by
 cases q:X.s₀.heap.get? b with
 |none=>rfl
 |some o=>
  obtain⟨o',e⟩:=J.base.there b o q (by rw[hex];simp);rw[n]at e;cases e
def Inv.moved{e T:Addr}{h':Heap}(J:Inv X pins σ H s)(hex:X.ex=[])(m:Mvd (vK X.stack) e T s.heap h')(ne:X.s₀.heap.get? e=none)(nT:X.s₀.heap.get? T=none)(he:H e=none)(hT:H T=none):
  Un X.fs [] X.H₀ H X.s₀.heap h'/\HOk X.prog X.w H h':=by
 have nex: ∀b:Addr,b∉X.ex:=λb=>by rw[hex];simp
 have ne1: ∀b o,X.s₀.heap.get? b=some o->b≠e:=λb o q z=>by rw[z,ne]at q;cases q
 have ne2: ∀b o,X.s₀.heap.get? b=some o->b≠T:=λb o q z=>by rw[z,nT]at q;cases q
 refine⟨⟨λb o q n hb _=>?_,λb o q n hb _=>?_,λb o q n _=>J.base.free b o q n (nex b),λb o q _=>?_,J.base.tups,J.base.frzs,J.base.tbls⟩,λb u q=>(J.hok b u q).stay (λc v hc r=>?_) (λ_ q=>q) λ_ _ q=>q⟩
 .refine m.keep b o (ne1 b o q) (ne2 b o q) (λz=>?_) (J.base.keep b o q n hb (nex b));rcases mC.mp (J.stkSub b z)with z|z
  .exact absurd z (Nat.ne_of_lt (Nat.lt_of_lt_of_le (Heap.lt_size q) J.ok.above))
  .exact hb z
 .obtain⟨sl,e1⟩:=J.base.slot b o q n hb (nex b);obtain⟨sl',e2⟩:=m.slot b _ (ne1 b o q) (ne2 b o q) e1;exact⟨sl',e2⟩
 .obtain⟨o',e1⟩:=J.base.there b o q (nex b);exact m.there b o' e1
 .have hc': ∃z,H c=some z:=by
   rcases hc with rfl|hc
   .exact⟨_,q⟩
   .exact⟨_,hc⟩
  obtain⟨z,hz⟩:=hc';refine m.keep c v (λy=>by rw[y,he]at hz;cases hz) (λy=>by rw[y,hT]at hz;cases hz) (λy=>?_) r;rw[J.stkFree c y]at hz;cases hz
end
def DY(P:Program)(w:World):QR:=λouter H s E x s'=> ∃e T C d H',x=.ref e/\s'.os=s.os/\AllBare s'.gens/\Un (vK outer) [] H H' s.heap s'.heap/\HOk P w H' s'.heap/\YX s'.heap e T (.ref C) d .none/\
 s.heap.get? e=none/\s.heap.get? T=none/\H' e=none/\H' T=none/\E (.ref C) d H'
structure XOk(X:Cx)(E:XK):Prop where
 pass:fD (DY X.prog X.w) X E
 born: ∀(pins:Nk)(σ:St)(H:Hp)(s:Shared)(e C:Addr)(d:Option Addr),Inv X pins σ H s->Gh s.heap e (.ref C) d->X.s₀.heap.get? e=none->H e=none->E (.ref C) d H->X.xe (.ref e) s
section
variable{P:Program}{w:World}{K:Od}{mg:Ni}{base:Heap}{N:Nh}{qual:Str}{scope:Scope}{f:Addr}{cd:Value}{A:Around}{outer:List Env}{s:Shared}{H:Hp}{E:XK}
def gO:XOk (uN (DY P w) P w K mg base N qual scope f cd A outer s H E) E:=by
 refine⟨λpins σ H1 s1 x s2 I h=>?_,λpins σ H1 s1 e C d J b ne he q=>?_⟩
 .obtain⟨e,T,C,d,H',rfl,os,bare,un,hok,fl,ne,nT,he,hT,q⟩:=h;have J:Inv _ pins σ H' s2:=I.call' (ch:=[]) os un hok bare (λ_ z=>nomatch z);have ne':=I.older rfl ne;have nT':=I.older rfl nT;refine LA J.ok.frames J.stack rfl fl λh' T' n m f'=>?_;obtain⟨u,hk⟩:=J.moved rfl m ne' nT' he hT;exact⟨e,T',C,d,H',rfl,J.os,J.bare,u,hk,f',ne',J.older rfl n,he,J.hok.none_of n,q⟩
 .refine IE J.ok.frames J.stack rfl b λh' T' n m f'=>?_;obtain⟨u,hk⟩:=J.moved rfl m ne ne he he;exact⟨e,T',C,d,H1,rfl,J.os,J.bare,u,hk,f',ne,J.older rfl n,he,J.hok.none_of n,q⟩
end
abbrev bI:List Value:=[.type "ValueError",.type "Exception",.type "BaseException",.type "object"]
def qn:List Str:=["__class__","__getattribute__","__getattr__","__setattr__","place","number"]
def eQ(h:Heap)(C M:Addr):Prop:=
 ∃nm q N bs hd sn sub ab col dd k0 k1 k2 k3 k5 nw mN,h.get? C=some (excClassObj nm q C N bs (.ref M::bI) hd sn sub ab col dd k0 k1 k2 k3 k5 nw)/\h.Ns N mN/\(∀n∈qn,mN n=none)/\
  ∃nm q N bs hd sn sub ab col dd k0 k1 k2 k3 k5 nw mN,h.get? M=some (excClassObj nm q M N bs bI hd sn sub ab col dd k0 k1 k2 k3 k5 nw)/\h.Ns N mN/\(∀n∈qn,mN n=none)
section
variable{Mo:Model}{A:Around}{E:VP}{h:Heap}{g:Array GenState}{d:Drawn}{t:Nat}{os:OsState}{C M:Addr}
def eR(O:eQ h C M){base:Value}{Q:Bool->Shared->Prop}(hq:Q ((Value.ref C::.ref M::bI).contains base) ⟨h,g,d,t,os⟩):wpAny Mo A (isSubtype (.ref C) base) Q E ⟨h,g,d,t,os⟩:=by obtain⟨nm,q,N,bs,hd,sn,sub,ab,col,dd,k0,k1,k2,k3,k5,nw,mN,hC,_⟩:=O;exact wpAny_isSubtype_exc hC hq
def aD(O:eQ h C M){n:Str}(hn:n∈qn){y:Option Value}(hB:typeLookup (.type "ValueError") n=pure y){Q:Option Value->Shared->Prop}(hq:Q y ⟨h,g,d,t,os⟩):wpAny Mo A (typeLookup (.ref C) n) Q E ⟨h,g,d,t,os⟩:=by
 obtain⟨nm,q,N,bs,hd,sn,sub,ab,col,dd,k0,k1,k2,k3,k5,nw,mN,hC,hN,hmN,_,_,_,_,_,_,_,_,_,_,_,_,_,_,_,_,mM,hM,hNM,hmM⟩:=O;have hrest:lookupAlong bI n=pure y:=by rw[typeLookup_eq,F.excBase_ValueError.mroIs]at hB;exact hB
 rw[typeLookup_eq];refine wB (wpAny_mroOf_exc hC ?_);rw[lookupAlong_cons];refine wB (wpAny_classOwn_exc hC hN ?_);rw[hmN n hn,lookupAlong_cons];refine wB (wpAny_classOwn_exc hM hNM ?_);rw[hmM n hn,hrest];exact wP hq
def UX(O:eQ h C M): ∃o,h.get? C=some o/\o.cls=.type "type"/\ ∃cd,o.data=.cls cd:=by obtain⟨_,_,_,_,_,_,_,_,_,_,_,_,_,_,_,_,_,hC,_⟩:=O;exact⟨_,hC,rfl,_,rfl⟩
end
def qn1:("__class__":Str)∈qn:=.head _
def qn2:("__getattribute__":Str)∈qn:=.tail _ (.head _)
def qn3:("__getattr__":Str)∈qn:=.tail _ t1M
theorem UY:typeLookup (.type "ValueError") "__class__"=pure (some (.builtin "object.__class__")):=by rw[typeLookup_type,builtinLookup_eq_fast];kernel_rfl
theorem Dg:typeLookup (.type "ValueError") "__getattribute__"=pure (some (.builtin "BaseException.__getattribute__")):=by rw[typeLookup_type,builtinLookup_eq_fast];kernel_rfl
theorem IF:typeLookup (.type "ValueError") "__getattr__"=pure none:=by rw[typeLookup_type,builtinLookup_eq_fast];kernel_rfl
section
variable{prog:Program}{w:World}{A:Around}{E:VP}{h:Heap}{g:Array GenState}{d:Drawn}{t:Nat}{os:OsState}{C M a:Addr}{o:Obj}
def LB{R:Result->Shared->Prop}(O:eQ h C M)(hx:h.get? a=some o)(hc:o.cls=.ref C)(hq:R (.ok (.ret (.ref C))) ⟨h,g,d,t,os⟩):
  codeAny (model prog w) A (.call (.builtin "getset_descriptor.__get__") ⟨[.builtin "object.__class__",.ref a,.ref C],[]⟩) R ⟨h,g,d,t,os⟩:=by
 have hT5:(⟨h,g,d,t,os⟩:Shared).TypeIs (.builtin "object.__class__") "getset_descriptor":=F.typeOf_object_class;have ho:(Value.ref C::.ref M::bI).contains (.type (".".intercalate ("object.__class__".cutAt '.').dropLast))=true:=by rw[F.owner_object_class];simp[List.contains_cons]
 refine codeAny_call_builtin F.slot_gs_get.plain F.entry_gs_get (F.slot_gs_get.check _ _ _ _ _ _ _ _ hT5 (F.args_gs_get _ _ _) ?_)
 repeat (any_goals (first |assumption|(with_reducible refine wpAny_loadPart_at hx ?_;rw[hc])|(with_reducible refine eR O ?_;rw[ho])|wp_step))
 refine⟨Code.quiet_builtin _ (by decide+kernel),codeAny_builtin F.entry_object_class ?_⟩
 repeat (any_goals (first |assumption|(with_reducible refine wpAny_loadPart_at hx ?_;rw[hc])|wp_step))
def DZ{Mo:Model}{nameV:Value}{Q:Unit->Shared->Prop}(O:eQ h C M)(hx:h.get? a=some o)(hc:o.cls=.ref C)(hq:Q () ⟨h,g,d,t,os⟩):wpAny Mo A (checkBuiltinCall "BaseException.__getattribute__" ⟨[.ref a,nameV],[]⟩) Q E ⟨h,g,d,t,os⟩:=by
 have hk:builtinKind "BaseException.__getattribute__"=some .slot:=by decide+kernel
 have hs:splitId "BaseException.__getattribute__"=some ("BaseException","__getattribute__"):=by decide+kernel
 have hb:(Value.ref C::.ref M::bI).contains (.type "BaseException")=true:=by simp[List.contains_cons]
 have ha:=F.args_bexc_ga (.ref a) nameV;simp only[checkBuiltinCall,hk,hs];refine wB ?_;unfold isInstance
 repeat (first |(with_reducible refine wpAny_loadPart_at hx ?_;rw[hc])|(with_reducible refine eR O ?_;rw[hb])|wp_step)
 exact hq
def FI{tk:Tok}{Q:Fin->Shared->Prop}(O:eQ h C M)(hx:h.get? a=some o)(hc:o.cls=.ref C)(hq:Q (.done (.ret (.ref C))) ⟨h,g,d,t,os⟩):
  wpAny (model prog w) A (Builtin.«object.__getattribute__» ⟨[.ref a,.str "__class__" tk],[]⟩) Q E ⟨h,g,d,t,os⟩:=by
 have hT5:(⟨h,g,d,t,os⟩:Shared).TypeIs (.builtin "object.__class__") "getset_descriptor":=F.typeOf_object_class;have f5:=F.typeOf_object_class;have f6:=F.slot_gs_get.lookup;have f7:=F.slot_gs_set.lookup
 repeat (any_goals (first |assumption|(with_reducible refine wpAny_loadPart_at hx ?_;rw[hc])|with_reducible refine aD O qn1 UY ?_|wp_step))
 refine LB O hx hc ?_
 repeat (any_goals (first |assumption|wp_step))
def IG{tk:Tok}{R:Result->Shared->Prop}(O:eQ h C M)(hx:h.get? a=some o)(hc:o.cls=.ref C)(hq:R (.ok (.ret (.ref C))) ⟨h,g,d,t,os⟩):
  codeAny (model prog w) A (.call (.builtin "BaseException.__getattribute__") ⟨[.ref a,.str "__class__" tk],[]⟩) R ⟨h,g,d,t,os⟩:=
 codeAny_call_builtin F.attrBase_ValueError.ga.plain F.entry_bexc_ga (DZ O hx hc (FI O hx hc hq))
def RD{tk:Tok}{fill expr:Bool}{Q:VP}(O:eQ h C M)(hx:h.get? a=some o)(hc:o.cls=.ref C)(hq:Q (.ref C) ⟨h,g,d,t,os⟩):
  wpAny (model prog w) A (getAttrBy (.ref a) (.str "__class__" tk) fill expr) Q E ⟨h,g,d,t,os⟩:=by
 have f3:=F.attrBase_ValueError.ga.bind (.ref a);have hx0:(expr&&onTheHeap (Value.builtin "BaseException.__getattribute__"))=false:=by cases expr<;>rfl
 have hx2:(Value.builtin "BaseException.__getattribute__"==Value.builtin "object.__getattribute__")=false:=by decide+kernel
 have hx1:(onTheHeap (Value.ref C)&&Value.builtin "BaseException.__getattribute__"==Value.builtin "object.__getattribute__")=false:=by rw[hx2];rfl
 repeat (any_goals (first |assumption|(with_reducible refine wpAny_loadPart_at hx ?_;rw[hc])|with_reducible refine aD O qn2 Dg ?_|with_reducible refine aD O qn3 IF ?_|wp_step))
 refine IG O hx hc ?_
 repeat (any_goals (first |assumption|wp_step))
def IH{Q:Option Value->Shared->Prop}(O:eQ h C M)(hx:h.get? a=some o)(hc:o.cls=.ref C)(hq:Q (some (.ref C)) ⟨h,g,d,t+1,os⟩):wpAny (model prog w) A (getAttr? (.ref a) "__class__") Q E ⟨h,g,d,t,os⟩:=by
 unfold getAttr? getAttrBy?
 repeat (any_goals (first |assumption|with_reducible apply RD O hx hc|wp_step))
def Ah{D:Addr}{dD:Option Addr}{cD:ClassData}{sD:Array (Option Value)}{oC:Obj}{Q:Fin->Shared->Prop}(O:eQ h C M)(hx:h.get? a=some o)(hc:o.cls=.ref C)(hD:h.get? D=some {cls:=.type "type",dict:=dD,data:=.cls cD,slots:=sD})(hC:h.get? C=some oC)(hCc:oC.cls=.type "type")(hCd: ∃cd,oC.data=.cls cd)(hn:(Value.ref C::.ref M::bI).contains (.ref D)=false)(hq:Q (.done (.ret (.bool false))) ⟨h,g,d,t+1,os⟩):
  wpAny (model prog w) A (Builtin.«isinstance.nested» ⟨[.ref a,.ref D,rawInt 0],[]⟩) Q E ⟨h,g,d,t,os⟩:=by
 have hne:(Value.ref C==Value.ref D)=false:=by rw[List.contains_cons,Bool.or_eq_false_iff]at hn;have:=hn.1;rw[beq_eq_false_iff_ne]at this ⊢;exact this.symm
 obtain⟨cd,hCd⟩:=hCd;obtain⟨c1,c2,c3,c4⟩:=oC;dsimp only at hCc hCd;subst hCc hCd
 repeat (any_goals (first |assumption|(with_reducible refine wpAny_loadPart_at hx ?_;rw[hc])|with_reducible refine wpAny_loadPart_at hD ?_|with_reducible refine wpAny_loadPart_at hC ?_|(with_reducible refine eR O ?_;rw[hn])|with_reducible apply IH O hx hc|wp_step))
def RE{Q:Fin->Shared->Prop}(hx:h.get? a=some o)(hc:o.cls=.ref C)(hq:Q (.done (.ret (.bool true))) ⟨h,g,d,t,os⟩):
  wpAny (model prog w) A (Builtin.«isinstance.nested» ⟨[.ref a,.ref C,rawInt 0],[]⟩) Q E ⟨h,g,d,t,os⟩:=by
 repeat (any_goals (first |assumption|(with_reducible refine wpAny_loadPart_at hx ?_;rw[hc])|wp_step))
def Ai{T:String}{Q:Fin->Shared->Prop}(O:eQ h C M)(hx:h.get? a=some o)(hc:o.cls=.ref C)(hty:typeOf (.type T)=pure (.type "type"))(hn:(Value.ref C::.ref M::bI).contains (.type T)=true)(hq:Q (.done (.ret (.bool true))) ⟨h,g,d,t,os⟩):
  wpAny (model prog w) A (Builtin.«isinstance.nested» ⟨[.ref a,.type T,rawInt 0],[]⟩) Q E ⟨h,g,d,t,os⟩:=by
 have hne:(Value.ref C==Value.type T)=false:=rfl
 repeat (any_goals (first |assumption|(with_reducible refine wpAny_loadPart_at hx ?_;rw[hc])|(with_reducible refine eR O ?_;rw[hn])|wp_step))
end
end L2
namespace L2
namespace M
open PySem PySem.Spec PyProof.Rows
inductive MV where
 |non|bl (b:Bool)|int (i:Int)|str (x:Db)|tup (ds:List MV)|scr (ds:List MV)|loc (l:Nat)|typ (n:String)|obj (c:Str) (ns:Nh) (ds:List MV)
abbrev Og:=List MV
abbrev Oh:=Option MV
abbrev Oj:=List (Nat×List MV)
abbrev Pa:=List (MV×MV)
instance:Inhabited MV:=⟨.non⟩
inductive MO where
 |lst (ds:Og)|dic (kvs:Pa)|ins (c:Str) (fs:List (Str×MV))|rcd (c:Str) (fs:List (Str×MV))|fdc (kvs:Pa)
abbrev Sto:=List MO
def SqF(K:Od)(H:Hp)(a:Addr)(xs:List V):Prop:=
 (∃o,H a=some (.frz o (.lst xs)))\/
  ∃(o:Obj)(its:Nd)(n:Nat),K.lookup a=some o/\o.cls=.type "list"/\o.dict=none/\o.data=.seq its n/\its.size<=sizeLine/\Vals xs its.toList
def SqF.l{K:Od}{H:Hp}{a:Addr}{xs:List V}(h:SqF K H a xs):SqL K H a xs:=by
 rcases h with⟨o,h⟩|h
 .exact .inl (.inr ⟨o,h⟩)
 .exact .inr h
mutual
def Den(K:Od)(α:Ng)(H:Hp):MV->V->Prop
 |.non,v=>v=.non
 |.bl b,v=>v=.bl b
 |.int i,v=>v=.int i
 |.str x,v=>v=.str (bH x)
 |.tup ds,v=> ∃a vs,v=.ref a/\SqT K H a vs/\DenL K α H ds vs
 |.scr ds,v=> ∃a vs,v=.ref a/\SqF K H a vs/\DenL K α H ds vs
 |.loc l,v=> ∃a,v=.ref a/\α[l]? =some a
 |.typ n,v=>v=.ty n
 |.obj c ns ds,v=> ∃a C dx vs o,v=.ref a/\H a=some (.frz o (.ins C dx (ns.zip vs)))/\PySem.W.nsIn K mainGlobals c=some (some (.ref C))/\(PySem.W.clsIn K C).map (·.name)=some c/\ns.length=vs.length/\DenL K α H ds vs
def DenL(K:Od)(α:Ng)(H:Hp):List MV->List V->Prop
 |[],vs=>vs=[]
 |d::ds,vs=> ∃v r,vs=v::r/\Den K α H d v/\DenL K α H ds r
end
structure Ex0(α:Ng)(H:Hp)(α':Ng)(H':Hp):Prop where
 pre: ∃t,α'=α++t
 tup: ∀b xs,H b=some (.tup xs)->H' b=some (.tup xs)
 frz: ∀b o u,H b=some (.frz o u)->H' b=some (.frz o u)
structure Ext(α:Ng)(H:Hp)(α':Ng)(H':Hp):Prop extends Ex0 α H α' H' where
 new: ∀b∈α',b∈α\/H b=none
 keep: ∀b o,H b=some o->b∉α->H' b=some o
 has: ∀b o,H b=some o-> ∃o',H' b=some o'
section
variable{K:Od}{α α' α'':Ng}{H H' H'':Hp}
def Ext.refl(α:Ng)(H:Hp):Ext α H α H:=⟨⟨⟨[],by simp⟩,λ_ _ h=>h,λ_ _ _ h=>h⟩,λb h=>.inl h,λ_ _ h _=>h,λ_ o h=>⟨o,h⟩⟩
def Ex0.grow(α t:Ng)(H:Hp):Ex0 α H (α++t) H:=⟨⟨t,rfl⟩,λ_ _ h=>h,λ_ _ _ h=>h⟩
def Ext.free(x:Ext α H α' H'){b:Addr}(h:H' b=none):H b=none:=by
 cases e:H b with
 |none=>rfl
 |some o=>obtain⟨o',h'⟩:=x.has b o e;rw[h]at h';cases h'
def Ext.out(x:Ext α H α' H'){b:Addr}{o:HO}(h:H b=some o)(n:b∉α):b∉α':=λz=>by
 rcases x.new b z with z|z
 .exact n z
 .rw[h]at z;cases z
def Ext.trans(x:Ext α H α' H')(y:Ext α' H' α'' H''):Ext α H α'' H'' where
 pre:=by obtain⟨t,rfl⟩:=x.pre;obtain⟨u,rfl⟩:=y.pre;exact⟨_,by rw[aA]⟩
 new:=λb h=>(y.new b h).elim (x.new b) λz=>.inr (x.free z)
 keep:=λb o h n=>y.keep b o (x.keep b o h n) (x.out h n)
 has:=λb o h=>let ⟨o',h'⟩:=x.has b o h;y.has b o' h'
 tup:=λb xs h=>y.tup b xs (x.tup b xs h)
 frz:=λb o u h=>y.frz b o u (x.frz b o u h)
def Ex0.at(x:Ex0 α H α' H'){l:Nat}{a:Addr}(h:α[l]? =some a):α'[l]? =some a:=by obtain⟨t,rfl⟩:=x.pre;rw[getElem?_append_left (gS.mp h).1];exact h
def Ex0.sqT(x:Ex0 α H α' H'){a:Addr}{vs:List V}(q:SqT K H a vs):SqT K H' a vs:=by
 rcases q with(q|⟨o,q⟩)|q
 .exact .inl (.inl (x.tup a vs q))
 .exact .inl (.inr ⟨o,x.frz a o _ q⟩)
 .exact .inr q
def Ex0.sqF(x:Ex0 α H α' H'){a:Addr}{vs:List V}(q:SqF K H a vs):SqF K H' a vs:=by
 rcases q with⟨o,q⟩|q
 .exact .inl ⟨o,x.frz a o _ q⟩
 .exact .inr q
mutual
theorem Den.ex0(x:Ex0 α H α' H'): ∀{d:MV}{v:V},Den K α H d v->Den K α' H' d v
 |.non,_,q=>by unfold Den at q ⊢; exact q
 |.bl _,_,q=>by unfold Den at q ⊢; exact q
 |.int _,_,q=>by unfold Den at q ⊢; exact q
 |.str _,_,q=>by unfold Den at q ⊢; exact q
 |.typ _,_,q=>by unfold Den at q ⊢; exact q
 |.obj c ns ds,_,q=>by unfold Den at q ⊢;obtain⟨a,C,dx,vs,o,e,h,hn,hc,hl,l⟩:=q;exact⟨a,C,dx,vs,o,e,x.frz a _ _ h,hn,hc,hl,DenL.ex0 x l⟩
 |.loc _,_,q=>by unfold Den at q ⊢;obtain⟨a,e,h⟩:=q;exact⟨a,e,x.at h⟩
 |.tup ds,_,q=>by unfold Den at q ⊢;obtain⟨a,vs,e,s,l⟩:=q;exact⟨a,vs,e,x.sqT s,DenL.ex0 x l⟩
 |.scr ds,_,q=>by unfold Den at q ⊢;obtain⟨a,vs,e,s,l⟩:=q;exact⟨a,vs,e,x.sqF s,DenL.ex0 x l⟩
theorem DenL.ex0(x:Ex0 α H α' H'): ∀{ds:Og}{vs:List V},DenL K α H ds vs->DenL K α' H' ds vs
 |[],_,q=>by unfold DenL at q ⊢; exact q
 |d::ds,_,q=>by unfold DenL at q ⊢;obtain⟨v,r,e,a,l⟩:=q;exact⟨v,r,e,Den.ex0 x a,DenL.ex0 x l⟩
end
def Den.ext(x:Ext α H α' H'){d:MV}{v:V}(q:Den K α H d v):Den K α' H' d v:=q.ex0 x.toEx0
def DenL.ext(x:Ext α H α' H'){d:Og}{v:List V}(q:DenL K α H d v):DenL K α' H' d v:=q.ex0 x.toEx0
theorem jW:Den K α H .non .non:=by unfold Den;rfl
theorem xX(b:Bool):Den K α H (.bl b) (.bl b):=by unfold Den;rfl
theorem xR(i:Int):Den K α H (.int i) (.int i):=by unfold Den;rfl
theorem cL(x:Db):Den K α H (.str x) (.str (bH x)):=by unfold Den;rfl
theorem OD(n:String):Den K α H (.typ n) (.ty n):=by unfold Den;rfl
def cN{ds:Og}{a:Addr}{vs:List V}(s:SqT K H a vs)(l:DenL K α H ds vs):Den K α H (.tup ds) (.ref a):=by unfold Den;exact⟨a,vs,rfl,s,l⟩
def OE{ds:Og}{a:Addr}{vs:List V}(s:SqF K H a vs)(l:DenL K α H ds vs):Den K α H (.scr ds) (.ref a):=by unfold Den;exact⟨a,vs,rfl,s,l⟩
def aF{l:Nat}{a:Addr}(h:α[l]? =some a):Den K α H (.loc l) (.ref a):=by unfold Den;exact⟨a,rfl,h⟩
def bU{v:V}(d:Den K α H .non v):v=.non:=by unfold Den at d;exact d
def aG{b:Bool}{v:V}(d:Den K α H (.bl b) v):v=.bl b:=by unfold Den at d;exact d
def kY{i:Int}{v:V}(d:Den K α H (.int i) v):v=.int i:=by unfold Den at d;exact d
def jQ{x:Db}{v:V}(d:Den K α H (.str x) v):v=.str (bH x):=by unfold Den at d;exact d
def Aj{c:Str}{ns:Nh}{ds:Og}{a C dx:Addr}{vs:List V}{o:Obj}(h:H a=some (.frz o (.ins C dx (ns.zip vs))))(hn:PySem.W.nsIn K mainGlobals c=some (some (.ref C)))(hc:(PySem.W.clsIn K C).map (·.name)=some c)(hl:ns.length=vs.length)(l:DenL K α H ds vs):Den K α H (.obj c ns ds) (.ref a):=by unfold Den;exact⟨a,C,dx,vs,o,rfl,h,hn,hc,hl,l⟩
def gP{c:Str}{ns:Nh}{ds:Og}{v:V}(d:Den K α H (.obj c ns ds) v): ∃a C dx vs o,v=.ref a/\H a=some (.frz o (.ins C dx (ns.zip vs)))/\PySem.W.nsIn K mainGlobals c=some (some (.ref C))/\(PySem.W.clsIn K C).map (·.name)=some c/\ns.length=vs.length/\DenL K α H ds vs:=by unfold Den at d;exact d
def bV{n:String}{v:V}(d:Den K α H (.typ n) v):v=.ty n:=by unfold Den at d;exact d
def kZ{ds:Og}{v:V}(d:Den K α H (.tup ds) v): ∃a vs,v=.ref a/\SqT K H a vs/\DenL K α H ds vs:=by unfold Den at d;exact d
def gQ{ds:Og}{v:V}(d:Den K α H (.scr ds) v): ∃a vs,v=.ref a/\SqF K H a vs/\DenL K α H ds vs:=by unfold Den at d;exact d
def jX{l:Nat}{v:V}(d:Den K α H (.loc l) v): ∃a,v=.ref a/\α[l]? =some a:=by unfold Den at d;exact d
theorem xN:DenL K α H [] []:=by unfold DenL;rfl
def yX{d:MV}{v:V}{ds:Og}{vs:List V}(a:Den K α H d v)(l:DenL K α H ds vs):DenL K α H (d::ds) (v::vs):=by unfold DenL;exact⟨v,vs,rfl,a,l⟩
def DenL.uncons{d:MV}{ds:Og}{vs:List V}(l:DenL K α H (d::ds) vs): ∃v r,vs=v::r/\Den K α H d v/\DenL K α H ds r:=by unfold DenL at l;exact l
def DenL.isnil{vs:List V}(l:DenL K α H [] vs):vs=[]:=by unfold DenL at l;exact l
theorem DenL.length: ∀{ds:Og}{vs:List V},DenL K α H ds vs->vs.length=ds.length
 |[],_,q=>by rw[q.isnil];rfl
 |d::ds,_,q=>by obtain⟨v,r,rfl,_,l⟩:=q.uncons;rw[lC0,lC0,DenL.length l]
theorem DenL.append: ∀{ds es:Og}{vs us:List V},DenL K α H ds vs->DenL K α H es us->DenL K α H (ds++es) (vs++us)
 |[],_,_,_,q,l=>by rw[q.isnil];exact l
 |d::ds,_,_,_,q,l=>by obtain⟨v,r,rfl,a,l'⟩:=q.uncons;exact yX a (DenL.append l' l)
theorem DenL.drop: ∀{ds:Og}{vs:List V}(n:Nat),DenL K α H ds vs->DenL K α H (ds.drop n) (vs.drop n)
 |_,_,0,q=>q
 |[],_,n+1,q=>by rw[q.isnil];exact xN
 |d::ds,_,n+1,q=>by obtain⟨v,r,rfl,_,l⟩:=q.uncons;exact DenL.drop n l
theorem DenL.take: ∀{ds:Og}{vs:List V}(n:Nat),DenL K α H ds vs->DenL K α H (ds.take n) (vs.take n)
 |_,_,0,q=>xN
 |[],_,n+1,q=>by rw[q.isnil];exact xN
 |d::ds,_,n+1,q=>by obtain⟨v,r,rfl,a,l⟩:=q.uncons;exact yX a (DenL.take n l)
theorem DenL.set{d:MV}{v:V}(a:Den K α H d v): ∀{ds:Og}{vs:List V}(n:Nat),DenL K α H ds vs->DenL K α H (ds.set n d) (vs.set n v)
 |[],_,_,q=>by rw[q.isnil];exact xN
 |e::ds,_,0,q=>by obtain⟨v',r,rfl,a',l⟩:=q.uncons;exact yX a l
 |e::ds,_,n+1,q=>by obtain⟨v',r,rfl,a',l⟩:=q.uncons;exact yX a' (DenL.set a n l)
theorem DenL.get: ∀{ds:Og}{vs:List V}{i:Nat}{v:V},DenL K α H ds vs->vs[i]? =some v-> ∃d,ds[i]? =some d/\Den K α H d v
 |[],_,_,_,q,e=>by rw[q.isnil]at e;simp at e
 |d::ds,_,0,_,q,e=>by obtain⟨v,r,rfl,a,l⟩:=q.uncons;simp at e;subst e;exact⟨d,rfl,a⟩
 |d::ds,_,i+1,_,q,e=>by obtain⟨v,r,rfl,a,l⟩:=q.uncons;obtain⟨d',h1,h2⟩:=DenL.get l (by simpa using e);exact⟨d',by simpa using h1,h2⟩
def DenL.at{ds:Og}{vs:List V}{i:Nat}{d:MV}(q:DenL K α H ds vs)(e:ds[i]? =some d): ∃v,vs[i]? =some v/\Den K α H d v:=by
 have hi:=(gS.mp e).1;have hv:i<vs.length:=by rw[q.length];exact hi
 obtain⟨d',h1,h2⟩:=q.get (gE hv);rw[e]at h1;cases h1;exact⟨_,gE hv,h2⟩
def DenL.cut{ds:Og}{vs:List V}(q:DenL K α H ds vs)(lo hi:Ob):DenL K α H (qZ ds lo hi) (QT vs lo hi):=by unfold qZ QT;rw[q.length];exact(q.drop _).take _
theorem EA: ∀(ns:Nb),DenL K α H (ns.map MV.int) (ns.map V.int)
 |[]=>xN
 |b::bs=>yX (xR b) (EA bs)
end
structure Gm where
 K:PySem.W.Frag
 mg:Str->Option Value
 P:Program
 w:World
abbrev _root_.L2.Cx.g(X:Cx):Gm:=⟨X.K,X.mg,X.prog,X.w⟩
inductive DenF(K:Od)(α:Ng)(H:Hp):List (Str×MV)->List (Str×V)->Prop
 |nil:DenF K α H [] []
 |cons {x:Str} {d:MV} {v:V} {fs gs}:Den K α H d v->DenF K α H fs gs->DenF K α H ((x,d)::fs) ((x,v)::gs)
theorem DenF.ex0{K:Od}{α α':Ng}{H H':Hp}(x:Ex0 α H α' H'): ∀{fs gs},DenF K α H fs gs->DenF K α' H' fs gs
 |_,_,.nil=>.nil
 |_,_,.cons a l=>.cons (a.ex0 x) (DenF.ex0 x l)
def KeyD:MV->Key->Prop
 |.int i,k=>k=.inl i
 |.str x,k=>k=.inr (bH x)
 |_,_=>False
inductive DenK(K:Od)(α:Ng)(H:Hp):List (MV×MV)->List (Key×V)->Prop
 |nil:DenK K α H [] []
 |cons {k:MV} {k':Key} {d:MV} {v:V} {fs gs}:KeyD k k'->Den K α H d v->DenK K α H fs gs->DenK K α H ((k,d)::fs) ((k',v)::gs)
theorem DenK.ex0{K:Od}{α α':Ng}{H H':Hp}(x:Ex0 α H α' H'): ∀{fs gs},DenK K α H fs gs->DenK K α' H' fs gs
 |_,_,.nil=>.nil
 |_,_,.cons k a l=>.cons k (a.ex0 x) (DenK.ex0 x l)
mutual
def Ky:MV->Option NK
 |.non=>some (.key none)
 |.int i=>some (.key (some (.inl i)))
 |.str x=>some (.key (some (.inr (bH x))))
 |.tup ds=>(Dh ds).map .tup
 |_=>none
def Dh:List MV->Option (List NK)
 |[]=>some []
 |d::ds=>(Ky d).bind λk=>(Dh ds).map (k::·)
end
inductive DenN(K:Od)(α:Ng)(H:Hp):List (MV×MV)->List (NK×Addr×Value)->Prop
 |nil:DenN K α H [] []
 |cons {k:MV} {nk:NK} {a:Addr} {d:MV} {v:V} {u:Value} {fs xs}:Ky k=some nk->uP nk<=4->Den K α H k (.ref a)->Den K α H d v->RelV v u->DenN K α H fs xs->DenN K α H ((k,d)::fs) ((nk,a,u)::xs)
theorem DenN.ex0{K:Od}{α α':Ng}{H H':Hp}(x:Ex0 α H α' H'): ∀{fs xs},DenN K α H fs xs->DenN K α' H' fs xs
 |_,_,.nil=>.nil
 |_,_,.cons k e a d r l=>.cons k e (a.ex0 x) (d.ex0 x) r (DenN.ex0 x l)
def ObD(g:Gm)(α:Ng)(H:Hp)(a:Addr):MO->Prop
 |.lst ds=> ∃vs,H a=some (.lst vs)/\DenL g.K α H ds vs
 |.dic kvs=>(∃ks,H a=some (.dK ks)/\DenK g.K α H kvs ks)\/ ∃xs,H a=some (DN g.P g.w a xs)/\DenN g.K α H kvs xs
 |.ins c fs=> ∃C gs,g.mg c=some (.ref C)/\DenF g.K α H fs gs/\
   ∃oe,H a=some (.frz oe (.ext λh=>h.get? a=some oe))/\oe.cls=.ref C/\(fs=[]\/ ∃dx od,oe.dict=some dx/\H dx=some (.frz od (.xd gs))/\ ∃vs,oe.data=.fields vs)
 |.rcd c fs=> ∃C dx gs,PySem.W.nsIn g.K mainGlobals c=some (some (.ref C))/\H a=some (.ins C dx gs)/\DenF g.K α H fs gs
 |.fdc kvs=> ∃oe xs,H a=some (.frz oe (DN g.P g.w a xs))/\DenN g.K α H kvs xs
def ObD.there{g:Gm}{α:Ng}{H:Hp}{a:Addr}{o:MO}(h:ObD g α H a o): ∃ho,H a=some ho/\(∀xs,ho≠.tup xs)/\ ∀ob u,ho=.frz ob u-> ∃φ,u=.ext φ:=by
 cases o with
 |lst ds=>obtain⟨vs,h,_⟩:=h;exact⟨_,h,(λxs z=>by cases z),λ_ _ z=>by cases z⟩
 |dic ds=>
  rcases h with⟨vs,h,_⟩|⟨vs,h,_⟩
  .exact⟨_,h,(λxs z=>by cases z),λ_ _ z=>by cases z⟩
  .exact⟨_,h,(λxs z=>by cases z),λ_ _ z=>by cases z⟩
 |ins c ds=>
  obtain⟨_,_,_,_,_,h,_⟩:=h;exact⟨_,h,(λxs z=>by cases z),λ_ _ z=>by cases z;exact⟨_,rfl⟩⟩
 |rcd c ds=>obtain⟨_,_,_,_,h,_⟩:=h;exact⟨_,h,(λxs z=>by cases z),λ_ _ z=>by cases z⟩
 |fdc kvs=>obtain⟨_,_,h,_⟩:=h;exact⟨_,h,(λxs z=>by cases z),λ_ _ z=>by cases z;exact⟨_,rfl⟩⟩
def ObD.move{g:Gm}{α α':Ng}{H H':Hp}{a:Addr}{o:MO}(h:ObD g α H a o)(x:Ex0 α H α' H')(e:H' a=H a):ObD g α' H' a o:=by
 cases o with
 |lst ds=>obtain⟨vs,h,l⟩:=h;exact⟨vs,e.trans h,l.ex0 x⟩
 |dic ds=>
  rcases h with⟨vs,h,l⟩|⟨vs,h,l⟩
  .exact .inl ⟨vs,e.trans h,l.ex0 x⟩
  .exact .inr ⟨vs,e.trans h,l.ex0 x⟩
 |ins c ds=>
  obtain⟨C,gs,m,l,oe,h,hc,hf⟩:=h;exact⟨C,gs,m,l.ex0 x,oe,e.trans h,hc,hf.imp id λ⟨dx,od,h1,h2,h3⟩=>⟨dx,od,h1,x.frz _ _ _ h2,h3⟩⟩
 |rcd c ds=>obtain⟨C,dx,gs,m,h,l⟩:=h;exact⟨C,dx,gs,m,e.trans h,l.ex0 x⟩
 |fdc kvs=>obtain⟨oe,xs,h,l⟩:=h;exact⟨oe,xs,e.trans h,l.ex0 x⟩
structure Wd(g:Gm)(α:Ng)(S:Sto)(H:Hp):Prop where
 len:α.length=S.length
 nd:α.Nodup
 obj: ∀(l:Nat)(a:Addr)(o:MO),α[l]? =some a->S[l]? =some o->ObD g α H a o
section
variable{g:Gm}{α:Ng}{S:Sto}{H:Hp}
def Wd.of(w:Wd g α S H){l:Nat}{a:Addr}(h:α[l]? =some a): ∃o,S[l]? =some o/\ObD g α H a o:=by
 have hl:l<S.length:=by rw[<-w.len];exact(gS.mp h).1
 exact⟨S[l],gE hl,w.obj l a _ h (gE hl)⟩
def Wd.mem(w:Wd g α S H){a:Addr}(h:a∈α): ∃ho,H a=some ho/\(∀xs,ho≠.tup xs)/\ ∀ob u,ho=.frz ob u-> ∃φ,u=.ext φ:=by obtain⟨l,hl⟩:=List.getElem?_of_mem h;obtain⟨o,_,q⟩:=w.of hl;exact q.there
def Wd.newx(w:Wd g α S H){p:Addr}{o:HO}(hp:H p=none):Ext α H α (xT H p o) where
 pre:=⟨[],by simp⟩
 new:=λb h=>.inl h
 keep:=λb o h _=>by rw[zI (zS h hp)];exact h
 has:=λb o h=>⟨o,by rw[zI (zS h hp)];exact h⟩
 tup:=λb o h=>by rw[zI (zS h hp)];exact h
 frz:=λb o u h=>by rw[zI (zS h hp)];exact h
def Wd.fresh(w:Wd g α S H){p:Addr}(hp:H p=none):p∉α:=λz=>by obtain⟨_,h,_⟩:=w.mem z;rw[hp]at h;cases h
def Wd.new(w:Wd g α S H){p:Addr}{o:HO}(hp:H p=none):Wd g α S (xT H p o):=
 ⟨w.len,w.nd,λl a ob h1 h2=>(w.obj l a ob h1 h2).move (w.newx hp).toEx0 (zI λz=>w.fresh hp (by rw[<-z];exact mem_of_getElem? h1))⟩
def Kz{ho:HO}{a:Addr}(h:H a=some ho)(n: ∀ob u,ho≠.frz ob u:=by intro _ _ z;cases z): ∀ob u,H a≠some (.frz ob u):=λob u z=>n ob u (Option.some.inj (h.symm.trans z))
def Wd.writex(w:Wd g α S H){l:Nat}{a:Addr}{o:HO}(h:α[l]? =some a)(nf: ∀ob u,H a≠some (.frz ob u)):Ext α H α (xT H a o) where
 pre:=⟨[],by simp⟩
 new:=λb h=>.inl h
 keep:=λb o e n=>by rw[zI λz=>n (by rw[z];exact mem_of_getElem? h)];exact e
 has:=λb o e=>by
  by_cases z:b=a
  .subst z;exact⟨_,zQ⟩
  .exact⟨o,by rw[zI z];exact e⟩
 tup:=λb xs e=>by obtain⟨ho,h1,h2,_⟩:=w.mem (mem_of_getElem? h);rw[zI λz=>h2 xs (by subst z;rw[e]at h1;exact(Option.some.inj h1).symm)];exact e
 frz:=λb ob u e=>by rw[zI λz=>nf ob u (by rw[<-z];exact e)];exact e
def Wd.ne(w:Wd g α S H){l m:Nat}{a b:Addr}(h:α[l]? =some a)(h':α[m]? =some b)(n:l≠m):a≠b:=by rintro rfl;obtain⟨h1,e1⟩:=gS.mp h;obtain⟨h2,e2⟩:=gS.mp h';exact n ((getElem_inj w.nd).mp (e1.trans e2.symm))
def Wd.write(w:Wd g α S H){l:Nat}{a:Addr}{o:HO}{ob:MO}(h:α[l]? =some a)(nf: ∀ob u,H a≠some (.frz ob u))(q:ObD g α (xT H a o) a ob):Wd g α (S.set l ob) (xT H a o) where
 len:=by rw[List.length_set];exact w.len
 nd:=w.nd
 obj:=λm b ob' h1 h2=>by
  by_cases e:l=m
  .subst e;rw[h]at h1;have hl:l<S.length:=by rw[<-w.len];exact(gS.mp h).1
   rw[getElem?_set_self hl]at h2;rw[<-Option.some.inj h1, <-Option.some.inj h2];exact q
  .rw[getElem?_set_ne e]at h2;exact(w.obj m b ob' h1 h2).move (w.writex h nf).toEx0 (zI (w.ne h1 h λz=>e z.symm))
def Wd.enterx(w:Wd g α S H){H0:Hp}{α0:Ng}(x:Ext α0 H0 α H){b:Addr}(h0:H0 b=none)(n:b∉α):Ext α0 H0 (α++[b]) H where
 pre:=let ⟨t,e⟩:=x.pre;⟨_,by rw[e,aA]⟩
 new:=λc hc=>(List.mem_append.mp hc).elim (x.new c) λz=>.inr (by rw[mS.mp z];exact h0)
 keep:=x.keep
 has:=x.has
 tup:=x.tup
 frz:=x.frz
theorem Wd.enter(w:Wd g α S H){b:Addr}{ds:Og}{vs:List V}(h:H b=some (.lst vs))(n:b∉α)(l:DenL g.K α H ds vs):Wd g (α++[b]) (S++[.lst ds]) H where
 len:=by rw[lA,lA,w.len];rfl
 nd:=List.nodup_append.mpr ⟨w.nd,by simp,λa ha c hc=>by rw[mS.mp hc];rintro rfl;exact n ha⟩
 obj:=λm a o h1 h2=>by
  by_cases hm:m<α.length
  .rw[getElem?_append_left hm]at h1;rw[getElem?_append_left (by rw[<-w.len];exact hm)]at h2;exact(w.obj m a o h1 h2).move (Ex0.grow α [b] H) rfl
  .have hm':m=α.length:=by
    have:=(gS.mp h1).1;rw[lA,lS]at this
    lia
   subst hm';rw[getElem?_append_right (Nat.le_refl _),sub_self]at h1;rw[getElem?_append_right (by rw[w.len];exact Nat.le_refl _),w.len,sub_self]at h2;cases h1;cases h2;exact⟨vs,h,l.ex0 (Ex0.grow α [b] H)⟩
end
inductive R(β:Type) where
 |ok (b:β) (S:Sto)|exc (c:Str) (fs:List (Str×MV)) (S:Sto)|no
def R.bind{β γ:Type}:R β->(β->Sto->R γ)->R γ
 |.ok b S,k=>k b S
 |.exc c fs S,_=>.exc c fs S
 |.no,_=>.no
theorem R.bind_ok{β γ:Type}(b:β)(S:Sto)(k:β->Sto->R γ):(R.ok b S).bind k=k b S:=rfl
inductive Er where
 |val (d:MV)|new (ds:Og)
instance:Inhabited Er:=⟨.val .non⟩
def DenX(K:Od)(α:Ng)(H:Hp):Er->V->Prop
 |.val d,v=>Den K α H d v
 |.new ds,v=> ∃b vs,v=.ref b/\H b=some (.lst vs)/\b∉α/\DenL K α H ds vs
def DenE(K:Od)(H:Hp)(α':Ng)(H':Hp)(r:Er)(v:V):Prop:=DenX K α' H' r v/\match r with |.new _=> ∀a,v=.ref a->H a=none|_=>True
section
variable{K:Od}{α α':Ng}{H H0 H':Hp}
def DenX.ext(x:Ext α H α' H'): ∀{r:Er}{v:V},DenX K α H r v->DenX K α' H' r v
 |.val d,_,q=>Den.ext x q
 |.new ds,_,⟨b,vs,e,h,n,l⟩=>⟨b,vs,e,x.keep b _ h n,x.out h n,l.ext x⟩
def DenE.val{d:MV}{v:V}(q:Den K α' H' d v):DenE K H α' H' (.val d) v:=⟨q,trivial⟩
def DenE.back(hf: ∀b,H b=none->H0 b=none){r:Er}{v:V}(q:DenE K H α' H' r v):DenE K H0 α' H' r v:=by
 refine⟨q.1,?_⟩
 cases r with
 |new ds=>exact λa e=>hf a (q.2 a e)
 |_=>trivial
def DenE.ext{α'':Ng}{H'':Hp}(x:Ext α' H' α'' H''){r:Er}{v:V}(q:DenE K H α' H' r v):DenE K H α'' H'' r v:=⟨q.1.ext x,q.2⟩
end
section
variable{K:Od}{α:Ng}{H:Hp}{v:V}
def lL(d:DenX K α H (.val .non) v):v=.non:=bU (K:=K) (α:=α) (H:=H) d
def pH{b:Bool}(d:DenX K α H (.val (.bl b)) v):v=.bl b:=aG (K:=K) (α:=α) (H:=H) d
def yY{b:Int}(d:DenX K α H (.val (.int b)) v):v=.int b:=kY (K:=K) (α:=α) (H:=H) d
def jR{b:Db}(d:DenX K α H (.val (.str b)) v):v=.str (bH b):=jQ (K:=K) (α:=α) (H:=H) d
def UZ{b:String}(d:DenX K α H (.val (.typ b)) v):v=.ty b:=bV (K:=K) (α:=α) (H:=H) d
def Gi{c:Str}{ns:Nh}{ds:Og}(d:DenX K α H (.val (.obj c ns ds)) v): ∃a C dx vs o,v=.ref a/\H a=some (.frz o (.ins C dx (ns.zip vs)))/\PySem.W.nsIn K mainGlobals c=some (some (.ref C))/\(PySem.W.clsIn K C).map (·.name)=some c/\ns.length=vs.length/\DenL K α H ds vs:=gP d
def gR{ds:Og}(d:DenX K α H (.val (.tup ds)) v): ∃a vs,v=.ref a/\SqT K H a vs/\DenL K α H ds vs:=kZ d
def AC{ds:Og}(d:DenX K α H (.val (.scr ds)) v): ∃a vs,v=.ref a/\SqF K H a vs/\DenL K α H ds vs:=gQ d
def dA{l:Nat}(d:DenX K α H (.val (.loc l)) v): ∃a,v=.ref a/\α[l]? =some a:=jX (K:=K) (H:=H) d
end
def lN:List Er->List V->List Addr
 |.new _::rs,.ref b::vs=>b::lN rs vs
 |_::rs,_::vs=>lN rs vs
 |_,_=>[]
inductive ArgsE(K:Od)(H:Hp)(α':Ng)(H':Hp):List Er->List V->Prop
 |nil:ArgsE K H α' H' [] []
 |cons {r v rs vs}:DenE K H α' H' r v->(∀ds b,r=.new ds->v=.ref b->b∉lN rs vs)->ArgsE K H α' H' rs vs->ArgsE K H α' H' (r::rs) (v::vs)
theorem ArgsE.nones{K:Od}{H:Hp}{α':Ng}{H':Hp}: ∀{rs vs},ArgsE K H α' H' rs vs-> ∀b∈lN rs vs,H b=none
 |_,_,.nil=>λb h=>by simp[lN]at h
 |.val d::_,v::_,.cons a n l=>λb h=>ArgsE.nones l b (by simpa [lN]using h)
 |.new ds::_,v::_,.cons a n l=>λb h=>by
  obtain⟨c,vs,rfl,_⟩:=a.1;rcases mC.mp h with rfl|h
  .exact a.2 _ rfl
  .exact ArgsE.nones l b h
theorem ArgsE.ext{K:Od}{H:Hp}{α' α'':Ng}{H' H'':Hp}(x:Ext α' H' α'' H''): ∀{rs vs},ArgsE K H α' H' rs vs->ArgsE K H α'' H'' rs vs
 |_,_,.nil=>.nil
 |_,_,.cons a n l=>.cons (a.ext x) n (ArgsE.ext x l)
theorem ArgsE.back{K:Od}{H H0:Hp}{α':Ng}{H':Hp}(hf: ∀b,H b=none->H0 b=none): ∀{rs vs},ArgsE K H α' H' rs vs->ArgsE K H0 α' H' rs vs
 |_,_,.nil=>.nil
 |_,_,.cons a n l=>.cons (a.back hf) n (ArgsE.back hf l)
theorem ArgsE.length{K:Od}{H:Hp}{α':Ng}{H':Hp}: ∀{rs vs},ArgsE K H α' H' rs vs->vs.length=rs.length
 |_,_,.nil=>rfl
 |_,_,.cons _ _ l=>by rw[lC0,lC0,ArgsE.length l]
class Dn (β:Type) (τ:outParam Type) where
 d:Gm->Hp->List Addr->Sto->Hp->β->τ->Prop
 back: ∀{g:Gm}{H H0:Hp}{α':Ng}{S':Sto}{H':Hp}{b:β}{u:τ},(∀b,H b=none->H0 b=none)->d g H α' S' H' b u->d g H0 α' S' H' b u
instance:Dn Er V:=⟨λg H α' _ H' r v=>DenE g.K H α' H' r v,λhf q=>q.back hf⟩
instance:Dn Bool Bool:=⟨λ_ _ _ _ _ b u=>u=b,λ_ q=>q⟩
instance:Dn (List Er) (List V):=⟨λg H α' _ H' r v=>ArgsE g.K H α' H' r v,λhf q=>q.back hf⟩
instance:Dn (Option Int) (Option Int):=⟨λ_ _ _ _ _ b u=>u=b,λ_ q=>q⟩
abbrev XW:=Str->List (Str×MV)->Sto->List Addr->Hp->Prop
abbrev W0:XW:=λ_ _ _ _ _=>False
def Post{β τ:Type}[Dn β τ](g:Gm)(W:XW)(α:Ng)(H:Hp):R β->(τ->Hp->Prop)->Prop
 |.ok b S,Q=> ∀u α' H',Ext α H α' H'->Wd g α' S H'->Dn.d g H α' S H' b u->Q u H'
 |.exc c fs S,_=> ∀α' H',Ext α H α' H'->Wd g α' S H'->W c fs S α' H'
 |.no,_=>False
section
variable{β τ γ υ:Type}[Dn β τ][Dn γ υ]{g:Gm}{W:XW}{α α':Ng}{H H':Hp}
def Post.shift(x:Ext α H α' H'): ∀{m:R β}{Q:τ->Hp->Prop},Post g W α H m Q->Post g W α' H' m Q
 |.ok b S,Q,q=>λu α2 H2 x2 w2 d2=>q u α2 H2 (x.trans x2) w2 (Dn.back (λb h=>x.free h) d2)
 |.exc c fs S,_,q=>λα2 H2 x2 w2=>q α2 H2 (x.trans x2) w2
 |.no,_,q=>q
def Post.bind{m:R β}{k:β->Sto->R γ}{Q:υ->Hp->Prop}{Q':τ->Hp->Prop}(q:Post g W α H (m.bind k) Q)
  (f: ∀u b S1 α1 H1,m=.ok b S1->Ext α H α1 H1->Wd g α1 S1 H1->Dn.d g H α1 S1 H1 b u->Post g W α H (k b S1) Q->Q' u H1):Post g W α H m Q':=by
 cases m with
 |ok b S=>exact λu α1 H1 x w d=>f u b S α1 H1 rfl x w d q
 |exc c fs S=>exact q
 |no=>exact q
def Post.here{b:β}{S:Sto}{Q:τ->Hp->Prop}{u:τ}(q:Post g W α H (.ok b S) Q)(w:Wd g α S H)(d:Dn.d g H α S H b u):Q u H:=q u α H (Ext.refl α H) w d
end
def Post.val{g:Gm}{W:XW}{α:Ng}{H:Hp}{d:MV}{S:Sto}{Q:VK}{v:V}(q:Post g W α H (.ok (Er.val d) S) Q)(w:Wd g α S H)(k:Den g.K α H d v):Q v H:=q.here w (DenE.val k)
def Post.newl{g:Gm}{W:XW}{α:Ng}{H:Hp}{ds:Og}{S:Sto}{Q:VK}{vs:List V}{p:Addr}(q:Post g W α H (.ok (Er.new ds) S) Q)(w:Wd g α S H)(hp:H p=none)(l:DenL g.K α H ds vs):Q (.ref p) (xT H p (.lst vs)):=
 q _ α _ (w.newx hp) (w.new hp) ⟨⟨p,vs,rfl,zQ,w.fresh hp,l.ext (w.newx hp)⟩,λa e=>by cases e;exact hp⟩
def Post.newt{g:Gm}{W:XW}{α:Ng}{H:Hp}{ds:Og}{S:Sto}{Q:VK}{vs:List V}{p:Addr}(q:Post g W α H (.ok (Er.val (.tup ds)) S) Q)(w:Wd g α S H)(hp:H p=none)(l:DenL g.K α H ds vs):Q (.ref p) (xT H p (.tup vs)):=
 q _ α _ (w.newx hp) (w.new hp) (.val (cN (.of zQ) (l.ext (w.newx hp))))
abbrev Rho:=List (Option MV)
structure Slots(K:Od)(α:Ng)(H:Hp)(ρ:Rho)(σ:St):Prop where
 len:σ.length=ρ.length
 slot: ∀(i:Nat)(d:MV),ρ[i]? =some (some d)-> ∃v,σ[i]? =some (some v)/\Den K α H d v
section
variable{K:Od}{α α':Ng}{H H':Hp}{ρ:Rho}{σ:St}
def Slots.ex0(q:Slots K α H ρ σ)(x:Ex0 α H α' H'):Slots K α' H' ρ σ:=⟨q.len,λi d e=>let ⟨v,h1,h2⟩:=q.slot i d e;⟨v,h1,h2.ex0 x⟩⟩
def Slots.ext(q:Slots K α H ρ σ)(x:Ext α H α' H'):Slots K α' H' ρ σ:=q.ex0 x.toEx0
theorem OG{α:Type}{l:List α}{i j:Nat}{x y:α}(h:(l.set i x)[j]? =some y):(j=i/\y=x/\i<l.length)\/(j≠i/\l[j]? =some y):=by
 by_cases hj:i=j
 .subst hj;by_cases hl:i<l.length
  .rw[getElem?_set_self hl]at h;exact .inl ⟨rfl,(Option.some.inj h).symm,hl⟩
  .rw[List.getElem?_eq_none (by rw[List.length_set];lia)]at h;cases h
 .rw[getElem?_set_ne hj]at h;exact .inr ⟨λz=>hj z.symm,h⟩
def Slots.set(q:Slots K α H ρ σ){i:Nat}{d:MV}{v:V}(h:Den K α H d v):Slots K α H (ρ.set i (some d)) (σ.set i (some v)):=by
 refine⟨by rw[List.length_set,List.length_set];exact q.len,λj e z=>?_⟩;rcases OG z with⟨rfl,e',hl⟩|⟨hj,e'⟩
 .cases e';exact⟨v,by rw[getElem?_set_self (by rw[q.len];exact hl)],h⟩
 .obtain⟨u,h1,h2⟩:=q.slot j e e';exact⟨u,by rw[getElem?_set_ne (Ne.symm hj)];exact h1,h2⟩
end
def Jd(X:Cx)(W:XW){β τ:Type}[Dn β τ](P:(St->Hp->(τ->Hp->Prop)->Prop)->Prop)(f:Rho->Sto->R β):Prop:=
 ∃t,P t/\ ∀α ρ S σ H Q,Wd X.g α S H->Slots X.K α H ρ σ->Post X.g W α H (f ρ S) Q->t σ H Q
abbrev yL(X:Cx)(W:XW)(e:Expr)(f:Rho->Sto->R Er):Prop:=Jd X W (PE X e) f
abbrev FK(X:Cx)(W:XW)(e:Expr)(f:Rho->Sto->R Bool):Prop:=Jd X W (PT X e) f
abbrev Mv(X:Cx)(W:XW)(e:Expr)(f:Rho->Sto->R Bool):Prop:=Jd X W (PW X e) f
abbrev CO(X:Cx)(W:XW)(es:Oc)(f:Rho->Sto->R (List Er)):Prop:=Jd X W (PA X es) f
abbrev Jm(X:Cx)(W:XW)(e:Option Expr)(f:Rho->Sto->R (Option Int)):Prop:=Jd X W (PO X e) f
section
variable{X:Cx}{W:XW}{a b c:Expr}{f g h:Rho->Sto->R Er}{pos:Pos}
def Ak:Option (Option MV)->Sto->R Er
 |some (some d),S=>.ok (.val d) S
 |_,_=>.no
def zB(i:Nat){x:Str}(hN:X.N[i]? =some x:=by rfl)(hv:ZF X.env.scope x:=by first |exact Or.inl rfl|exact Or.inr (Or.inl rfl)|exact Or.inr (Or.inr rfl))(hd:(x==("__debug__":Str))=false:=by decide)
  (hcd:(x==("__classdict__":Str))=false:=by decide):yL X W (.Name x pos) (λρ S=>Ak (ρ[i]?) S):=by
 refine⟨_,pv i hN hv hd hcd,λα ρ S σ H Q wd sl q=>?_⟩;dsimp only at q
 cases z:ρ[i]? with
 |none=>rw[z]at q;exact q.elim
 |some o=>
  cases o with
  |none=>rw[z]at q;exact q.elim
  |some d=>
   rw[z]at q;obtain⟨v,h1,h2⟩:=sl.slot i d z;exact⟨v,h1,Post.val q wd h2⟩
def zD{i:Int}{j:Nat}:yL X W (.Constant (.int i) j pos) (λ_ S=>.ok (.val (.int i)) S):=⟨_,TF,λα ρ S σ H Q wd sl q=>Post.val q wd (xR i)⟩
def bK{i:Bool}{j:Nat}:yL X W (.Constant (.bool i) j pos) (λ_ S=>.ok (.val (.bl i)) S):=⟨_,Ju,λα ρ S σ H Q wd sl q=>Post.val q wd (xX i)⟩
def lO{j:Nat}:yL X W (.Constant .none j pos) (λ_ S=>.ok (.val .non) S):=⟨_,Ek,λα ρ S σ H Q wd sl q=>Post.val q wd jW⟩
def xY{x:Str}{j:Nat}(cs:Db)(hx:x=bH cs:=by rfl):yL X W (.Constant (.str x) j pos) (λ_ S=>.ok (.val (.str cs)) S):=
 ⟨_,TH,λα ρ S σ H Q wd sl q=>Post.val q wd (by rw[hx];exact cL cs)⟩
def fG{x:Str}{i:Int}{t:Tok}(hg:Gl X x)(hm:X.mg x=some (.int i t))(hd:(x==("__debug__":Str))=false:=by decide):yL X W (.Name x pos) (λ_ S=>.ok (.val (.int i)) S):=
 ⟨_,EW (v:=.int i) hg hm ⟨t,rfl⟩ hd,λα ρ S σ H Q wd sl q=>Post.val q wd (xR i)⟩
def EB{x:Str}{T:String}(hg:Gl X x)(hm:X.mg x=none)(hv:bootBuiltins x=some (.type T))(hn:x≠"__name__":=by decide)(hd:(x==("__debug__":Str))=false:=by decide):yL X W (.Name x pos) (λ_ S=>.ok (.val (.typ T)) S):=
 ⟨_,NS (v:=.ty T) hg hm hv rfl hn hd,λα ρ S σ H Q wd sl q=>Post.val q wd (OD T)⟩
def AD{i:Int}{j:Nat}{p3:Pos}:yL X W (.UnaryOp .USub (.Constant (.int i) j p3) pos) (λ_ S=>.ok (.val (.int (-i))) S):=
 ⟨_,Kh Fi TF,λα ρ S σ H Q wd sl q=>⟨i,rfl,Post.val q wd (xR (-i))⟩⟩
def EC(X:Cx)(W:XW)(r:R2)(F:Er->Er->Sto->R Er):Prop:= ∀p q x y α S H Q,Wd X.g α S H->DenX X.K α H p x->DenX X.K α H q y->Post X.g W α H (F p q S) Q->r x y H Q
def two{r:R2}{F:Er->Er->Sto->R Er}(hF:EC X W r F){ta tb:TE}(fa: ∀α ρ S σ H Q,Wd X.g α S H->Slots X.K α H ρ σ->Post X.g W α H (f ρ S) Q->ta σ H Q)
  (fb: ∀α ρ S σ H Q,Wd X.g α S H->Slots X.K α H ρ σ->Post X.g W α H (g ρ S) Q->tb σ H Q) {α:Ng} {ρ:Rho} {S:Sto} {σ:St} {H:Hp} {Q:VK} (wd:Wd X.g α S H) (sl:Slots X.K α H ρ σ)
  (q:Post X.g W α H ((f ρ S).bind λp S1=>(g ρ S1).bind λq S2=>F p q S2) Q):ta σ H λx H1=>tb σ H1 λy H2=>r x y H2 Q:=
 fa α ρ S σ H _ wd sl (q.bind λu p S1 α1 H1 e1 x1 w1 d1 q1=>fb α1 ρ S1 σ H1 _ w1 (sl.ext x1) ((q1.shift x1).bind λu2 p2 S2 α2 H2 e2 x2 w2 d2 q2=>
  hF p p2 u u2 α2 S2 H2 Q w2 (d1.1.ext x2) d2.1 (q2.shift x2)))
def AG{op:Operator}{r:R2}{F:Er->Er->Sto->R Er}(ho:OpR X (binaryOp op) r)(hF:EC X W r F)(ha:yL X W a f)(hb:yL X W b g):yL X W (.BinOp a op b pos) (λρ S=>(f ρ S).bind λp S1=>(g ρ S1).bind λq S2=>F p q S2):=by obtain⟨ta,ha,fa⟩:=ha;obtain⟨tb,hb,fb⟩:=hb;exact⟨_,Kg ho ha hb,λα ρ S σ H Q wd sl q=>two hF fa fb wd sl q⟩
def LC{op:CmpOp}{r:R2}{F:Er->Er->Sto->R Er}(ho:OpR X (compareOp op) r)(hF:EC X W r F)(ha:yL X W a f)(hb:yL X W b g)(hm:behindInMarks op b=false:=by first |exact TX _|with_unfolding_all rfl):
  yL X W (.Compare a [op] [b] pos) (λρ S=>(f ρ S).bind λp S1=>(g ρ S1).bind λq S2=>F p q S2):=by
 obtain⟨ta,ha,fa⟩:=ha;obtain⟨tb,hb,fb⟩:=hb;exact⟨_,ZL ho ha hb hm,λα ρ S σ H Q wd sl q=>two hF fa fb wd sl q⟩
def La{r:R2}{F:Er->Er->Sto->R Er}(ho:IxR X r)(hF:EC X W r F)(ha:yL X W a f)(hb:yL X W b g)(hs:FA b:=by exact λ_ _=>rfl):
  yL X W (.Subscript a b pos) (λρ S=>(f ρ S).bind λp S1=>(g ρ S1).bind λq S2=>F p q S2):=by
 obtain⟨ta,ha,fa⟩:=ha;obtain⟨tb,hb,fb⟩:=hb;exact⟨_,Kp ho ha hb hs,λα ρ S σ H Q wd sl q=>two hF fa fb wd sl q⟩
def aV:Er->Sto->R Bool
 |.val (.bl b),S=>.ok b S
 |_,_=>.no
def II{p:Er}{S:Sto}{α:Ng}{H:Hp}{Q:Bool->Hp->Prop}(q:Post X.g W α H (aV p S) Q): ∃k,p=.val (.bl k)/\Post X.g W α H (.ok k S) Q:=by
 unfold aV at q;split at q
 .exact⟨_,rfl,q⟩
 .exact q.elim
def AH{β τ:Type}[Dn β τ]{p:Er}{S:Sto}{α:Ng}{H:Hp}{k:Bool->Sto->R β}{Q:τ->Hp->Prop}(q:Post X.g W α H ((aV p S).bind k) Q): ∃c,p=.val (.bl c)/\Post X.g W α H (k c S) Q:=by
 unfold aV at q;split at q
 .exact⟨_,rfl,q⟩
 .exact q.elim
def pV{op:CmpOp}{r:R2}{F:Er->Er->Sto->R Er}(ho:OpR X (compareOp op) r)(hF:EC X W r F)(ha:yL X W a f)(hb:yL X W b g)(hm:behindInMarks op b=false:=by first |exact TX _|with_unfolding_all rfl):
  FK X W (.Compare a [op] [b] pos) (λρ S=>((f ρ S).bind λp S1=>(g ρ S1).bind λq S2=>F p q S2).bind aV):=by
 obtain⟨ta,ha,fa⟩:=ha;obtain⟨tb,hb,fb⟩:=hb;refine⟨_,ZM ho ha hb hm,λα ρ S σ H Q wd sl q=>?_⟩;refine two hF fa fb wd sl (q.bind λu p S1 α1 H1 e1 x1 w1 d1 q1=>?_);obtain⟨k,rfl,q2⟩:=II (q1.shift x1);exact⟨k,pH d1.1,q2.here w1 rfl⟩
def SY(F G:Er->Er->Sto->R Er)(p q:Er)(S:Sto)(k:Sto->R Er):R Er:=(F p q S).bind λz S1=>(aV z S1).bind λc S2=>if c=true then(k S2).bind λr S3=>G q r S3 else .ok (.val (.bl false)) S2
def chain{r r':R2}{F G:Er->Er->Sto->R Er}(hF:EC X W r F)(hG:EC X W r' G){ta tb tc:TE}(fa: ∀α ρ S σ H Q,Wd X.g α S H->Slots X.K α H ρ σ->Post X.g W α H (f ρ S) Q->ta σ H Q)
  (fb: ∀α ρ S σ H Q,Wd X.g α S H->Slots X.K α H ρ σ->Post X.g W α H (g ρ S) Q->tb σ H Q) (fc: ∀α ρ S σ H Q,Wd X.g α S H->Slots X.K α H ρ σ->Post X.g W α H (h ρ S) Q->tc σ H Q) {α:Ng} {ρ:Rho} {S:Sto} {σ:St} {H:Hp} {Q:VK} (wd:Wd X.g α S H) (sl:Slots X.K α H ρ σ)
  (q:Post X.g W α H ((f ρ S).bind λp S1=>(g ρ S1).bind λq S2=>SY F G p q S2 λS3=>h ρ S3) Q):KH r r' ta tb tc σ H Q:=
 fa α ρ S σ H _ wd sl (q.bind λu p S1 α1 H1 e1 x1 w1 d1 q1=>fb α1 ρ S1 σ H1 _ w1 (sl.ext x1) ((q1.shift x1).bind λu2 p2 S2 α2 H2 e2 x2 w2 d2 q2=>by
  refine hF p p2 u u2 α2 S2 H2 _ w2 (d1.1.ext x2) d2.1 (Post.bind (q2.shift x2) λu3 p3 S3 α3 H3 e3 x3 w3 d3 q3=>?_);obtain⟨k,rfl,q4⟩:=AH (q3.shift x3);refine⟨k,pH d3.1,?_⟩
  cases k with
  |true=>
   rw[iP rfl]at q4 ⊢;exact fc α3 ρ S3 σ H3 _ w3 (((sl.ext x1).ext x2).ext x3) (q4.bind λu5 p5 S5 α5 H5 e5 x5 w5 d5 q5=>hG p2 p5 u2 u5 α5 S5 H5 Q w5 ((d2.1.ext x3).ext x5) d5.1 (q5.shift x5))
  |false=>
   rw[iN0 xF0]at q4 ⊢;exact Post.val q4 w3 (xX false)))
def IK{op op':CmpOp}{r r':R2}{F G:Er->Er->Sto->R Er}(ho:OpR X (compareOp op) r)(ho':OpR X (compareOp op') r')(hF:EC X W r F)(hG:EC X W r' G)(ha:yL X W a f)(hb:yL X W b g)(hc:yL X W c h)
  (hm:lastMarks [op,op'] [b,c]=false:=by with_unfolding_all rfl):
  yL X W (.Compare a [op,op'] [b,c] pos) (λρ S=>(f ρ S).bind λp S1=>(g ρ S1).bind λq S2=>SY F G p q S2 λS3=>h ρ S3):=by
 obtain⟨ta,ha,fa⟩:=ha;obtain⟨tb,hb,fb⟩:=hb;obtain⟨tc,hc,fc⟩:=hc;exact⟨_,TY ho ho' ha hb hc hm,λα ρ S σ H Q wd sl q=>chain hF hG fa fb fc wd sl q⟩
def VA{op op':CmpOp}{r r':R2}{F G:Er->Er->Sto->R Er}(ho:OpR X (compareOp op) r)(ho':OpR X (compareOp op') r')(hF:EC X W r F)(hG:EC X W r' G)(ha:yL X W a f)(hb:yL X W b g)(hc:yL X W c h)
  (hm:lastMarks [op,op'] [b,c]=false:=by with_unfolding_all rfl):
  FK X W (.Compare a [op,op'] [b,c] pos) (λρ S=>((f ρ S).bind λp S1=>(g ρ S1).bind λq S2=>SY F G p q S2 λS3=>h ρ S3).bind aV):=by
 obtain⟨ta,ha,fa⟩:=ha;obtain⟨tb,hb,fb⟩:=hb;obtain⟨tc,hc,fc⟩:=hc;refine⟨_,TZ ho ho' ha hb hc hm,λα ρ S σ H Q wd sl q=>?_⟩;refine chain hF hG fa fb fc wd sl (Q:=λx H'=> ∃k,x=.bl k/\Q k H') (q.bind λu p S1 α1 H1 e1 x1 w1 d1 q1=>?_);obtain⟨k,rfl,q2⟩:=II (q1.shift x1);exact⟨k,pH d1.1,q2.here w1 rfl⟩
def nV:Er->Sto->R Bool
 |.val .non,S=>.ok false S
 |.val (.bl b),S=>.ok b S
 |.val (.int i),S=>.ok (i !=0) S
 |.val (.str x),S=>if x.length<=sizeLine then .ok (!x.isEmpty) S else .no
 |.val (.tup ds),S=>.ok (!ds.isEmpty) S
 |.val (.scr ds),S=>.ok (!ds.isEmpty) S
 |.val (.loc l),S=>match S[l]? with
  |some (.lst ds)=>.ok (!ds.isEmpty) S
  |_=>.no
 |.val (.typ _),_=>.no
 |.val (.obj _ _ _),_=>.no
 |.new ds,S=>.ok (!ds.isEmpty) S
def oQ{ds:Og}{vs:List V}{K:Od}{α:Ng}{H:Hp}(l:DenL K α H ds vs):(!vs.isEmpty)= !ds.isEmpty:=by have:=l.length;cases ds<;>cases vs<;>simp_all
theorem VB{p:Er}{x:V}{S:Sto}{α:Ng}{H:Hp}{Q:Bool->Hp->Prop}(wd:Wd X.g α S H)(d:DenX X.K α H p x)(q:Post X.g W α H (nV p S) Q): ∃k,Fk X.K x H k/\Q k H:=by
 match p,d,q with
 |.val .non,d,q=>cases lL d;exact⟨_,rfl,q.here wd rfl⟩
 |.val (.bl b),d,q=>cases pH d;exact⟨_,rfl,q.here wd rfl⟩
 |.val (.int i),d,q=>cases yY d;exact⟨_,rfl,q.here wd rfl⟩
 |.val (.typ n),d,q=>exact q.elim
 |.val (.obj _ _ _),d,q=>exact q.elim
 |.val (.str z),d,q=>
  cases jR d;have q':Post X.g W α H (if z.length<=sizeLine then R.ok _ S else R.no) Q:=q;split at q'
  .rename_i hz;refine⟨_,⟨by rw[bE];exact hz,?_⟩,q'.here wd rfl⟩;rw[bE]
   cases z with
   |nil=>rfl
   |cons c r=>
    have h0:((r.length:Int)+1)≠0:=by lia
    simp[h0]
  .exact q'.elim
 |.val (.tup ds),d,q=>
  obtain⟨a,vs,rfl,s,l⟩:=gR d;exact⟨_,.inr (.inl ⟨vs,s,(oQ l).symm⟩),q.here wd rfl⟩
 |.val (.scr ds),d,q=>
  obtain⟨a,vs,rfl,s,l⟩:=AC d;exact⟨_,.inl ⟨vs,s.l,(oQ l).symm⟩,q.here wd rfl⟩
 |.val (.loc n),d,q=>
  obtain⟨a,rfl,h⟩:=dA d;obtain⟨o,h1,h2⟩:=wd.of h;have q':Post X.g W α H (match S[n]? with |some (.lst ds)=>R.ok _ S|_=>R.no) Q:=q;rw[h1]at q'
  cases o with
  |lst ds=>
   obtain⟨vs,h3,l⟩:=h2;exact⟨_,.inl ⟨vs,.of h3,(oQ l).symm⟩,q'.here wd rfl⟩
  |dic ds=>exact q'.elim
  |ins c fs=>exact q'.elim
  |rcd c fs=>exact q'.elim
  |fdc _=>exact q'.elim
 |.new ds,⟨a,vs,ex,s,n,l⟩,q=>subst ex;exact⟨_,.inl ⟨vs,.of s,(oQ l).symm⟩,q.here wd rfl⟩
def yU(ha:yL X W a f)(he: ∀whole,isTrue a X.env whole=(do let v <-whole;standAt a.pos;holding [v] (truthy v)):=by intro _;rfl):FK X W a (λρ S=>(f ρ S).bind nV):=by obtain⟨ta,ha,fa⟩:=ha;exact⟨_,UA ha he,λα ρ S σ H Q wd sl q=>fa α ρ S σ H _ wd sl (q.bind λu p S1 α1 H1 e1 x1 w1 d1 q1=>VB w1 d1.1 (q1.shift x1))⟩
end
section
variable{X:Cx}{W:XW}{a b c:Expr}{es:Oc}{f g h:Rho->Sto->R Er}{tf tg:Rho->Sto->R Bool}{pos:Pos}
def fH(p:Er)(S:Sto)(k:Sto->R Er):R Er:=(aV p S).bind λc S1=>if c=true then k S1 else .ok (.val (.bl false)) S1
def orF(p:Er)(S:Sto)(k:Sto->R Er):R Er:=(aV p S).bind λc S1=>if c=true then .ok (.val (.bl true)) S1 else k S1
def gT{op}(ha:yL X W a f):yL X W (.BoolOp op [a] pos) f:=let ⟨t,h,k⟩:=ha;⟨t,En h,k⟩
def jS(ha:yL X W a f)(hb:yL X W (.BoolOp .And (b::es) pos) g):yL X W (.BoolOp .And (a::b::es) pos) (λρ S=>(f ρ S).bind λp S1=>fH p S1 λS2=>g ρ S2):=by
 obtain⟨ta,ha,fa⟩:=ha;obtain⟨tb,hb,fb⟩:=hb;refine⟨_,Eo ha hb,λα ρ S σ H Q wd sl q=>fa α ρ S σ H _ wd sl (q.bind λu p S1 α1 H1 e1 x1 w1 d1 q1=>?_)⟩;obtain⟨k,rfl,q2⟩:=AH (q1.shift x1);refine⟨k,pH d1.1,?_⟩
 cases k with
 |true=>rw[iP rfl]at q2 ⊢; exact fb α1 ρ S1 σ H1 _ w1 (sl.ext x1) q2
 |false=>rw[iN0 xF0]at q2 ⊢; exact Post.val q2 w1 (xX false)
def VC(ha:yL X W a f):yL X W (.UnaryOp .Not a pos) (λρ S=>(f ρ S).bind λp S1=>(aV p S1).bind λk S2=>.ok (.val (.bl !k)) S2):=by obtain⟨ta,ha,fa⟩:=ha;refine⟨_,Ep ha,λα ρ S σ H Q wd sl q=>fa α ρ S σ H _ wd sl (q.bind λu p S1 α1 H1 e1 x1 w1 d1 q1=>?_)⟩;obtain⟨k,rfl,q2⟩:=AH (q1.shift x1);exact⟨k,pH d1.1,Post.val q2 w1 (xX _)⟩
def Lb(hc:FK X W c tf)(ha:yL X W a f)(hb:yL X W b g):yL X W (.IfExp c a b pos) (λρ S=>(tf ρ S).bind λk S1=>if k=true then f ρ S1 else g ρ S1):=by
 obtain⟨tc,hc,fc⟩:=hc;obtain⟨ta,ha,fa⟩:=ha;obtain⟨tb,hb,fb⟩:=hb;refine⟨_,TJ hc ha hb,λα ρ S σ H Q wd sl q=>fc α ρ S σ H _ wd sl (q.bind λu p S1 α1 H1 e1 x1 w1 d1 q1=>?_)⟩;cases d1
 cases u with
 |true=>rw[iP rfl]at q1 ⊢; exact fa α1 ρ S1 σ H1 _ w1 (sl.ext x1) (q1.shift x1)
 |false=>rw[iN0 xF0]at q1 ⊢; exact fb α1 ρ S1 σ H1 _ w1 (sl.ext x1) (q1.shift x1)
def pW(ha:FK X W a tf):Mv X W (.BoolOp .Or [a] pos) tf:=let ⟨t,h,k⟩:=ha;⟨t,El h,k⟩
def uG(ha:FK X W a tf)(hb:Mv X W (.BoolOp .Or (b::es) pos) tg):Mv X W (.BoolOp .Or (a::b::es) pos) (λρ S=>(tf ρ S).bind λk S1=>if k=true then .ok true S1 else tg ρ S1):=by
 obtain⟨ta,ha,fa⟩:=ha;obtain⟨tb,hb,fb⟩:=hb;refine⟨_,Jv ha hb,λα ρ S σ H Q wd sl q=>fa α ρ S σ H _ wd sl (q.bind λu p S1 α1 H1 e1 x1 w1 d1 q1=>?_)⟩;cases d1
 cases u with
 |true=>rw[iP rfl]at q1 ⊢; exact(q1.shift x1).here w1 rfl
 |false=>rw[iN0 xF0]at q1 ⊢; exact fb α1 ρ S1 σ H1 _ w1 (sl.ext x1) (q1.shift x1)
def AI(h:Mv X W a tf):FK X W a tf:=let ⟨t,h,k⟩:=h;⟨t,h.pt,k⟩
theorem kE(ha:FK X W a tf):FK X W (.UnaryOp .Not a pos) (λρ S=>(tf ρ S).bind λk S1=>.ok (!k) S1):=by obtain⟨ta,ha,fa⟩:=ha;refine⟨_,Em ha,λα ρ S σ H Q wd sl q=>fa α ρ S σ H _ wd sl (q.bind λu p S1 α1 H1 e1 x1 w1 d1 q1=>?_)⟩;cases d1;exact(q1.shift x1).here w1 rfl
end
section
variable{K:Od}{H0:Hp}
def zM:List Er->Sto->List MV×Sto
 |[],S=>([],S)
 |.val d::rs,S=>((d::(zM rs S).1),(zM rs S).2)
 |.new xs::rs,S=>((.loc S.length::(zM rs (S++[.lst xs])).1),(zM rs (S++[.lst xs])).2)
def ArgsE.grow{H0:Hp}{α:Ng}{H:Hp}{b:Addr}{rs:List Er}{vs:List V}(q:ArgsE K H0 α H rs vs)(n:b∉lN rs vs):ArgsE K H0 (α++[b]) H rs vs:=by
 induction q with
 |nil=>exact .nil
 |@cons r v rs vs a m l ih=>
  cases r with
  |val d=>exact .cons ⟨Den.ex0 (Ex0.grow α [b] H) a.1,trivial⟩ m (ih (by simpa [lN]using n))
  |new ds=>
   obtain⟨⟨c,us,rfl,h1,h2,h3⟩,h4⟩:=a;have n':=n;refine .cons ⟨⟨c,us,rfl,h1,λz=>?_,h3.ex0 (Ex0.grow α [b] H)⟩,h4⟩ m (ih λz=>n' (mO _ z));rcases List.mem_append.mp z with z|z
   .exact h2 z
   .exact n' (by rw[mS.mp z];exact mF0)
theorem bL{g:Gm}{H0:Hp}{α0:Ng}{H:Hp}: ∀{rs:List Er}{vs:List V}{α:Ng}{S:Sto},Wd g α S H->Ext α0 H0 α H->ArgsE g.K H0 α H rs vs->
  ∃α',Ext α0 H0 α' H/\Ex0 α H α' H/\Wd g α' (zM rs S).2 H/\DenL g.K α' H (zM rs S).1 vs
 |_,_,α,S,w,x,.nil=>⟨α,x,⟨⟨[],by simp⟩,λ_ _ h=>h,λ_ _ _ h=>h⟩,w,xN⟩
 |.val d::rs,v::vs,α,S,w,x,.cons a n l=>by obtain⟨α',x',y',w',l'⟩:=bL w x l;exact⟨α',x',y',w',yX (Den.ex0 y' a.1) l'⟩
 |.new ds::rs,v::vs,α,S,w,x,.cons a n l=>by
  obtain⟨⟨c,us,rfl,h1,h2,h3⟩,h4⟩:=a;obtain⟨α',x',y',w',l'⟩:=bL (w.enter h1 h2 h3) (w.enterx x (h4 c rfl) h2) (l.grow (n ds c rfl rfl));refine⟨α',x',⟨?_,y'.tup,y'.frz⟩,w',yX (aF (y'.at ?_)) l'⟩
  .obtain⟨t,e⟩:=y'.pre;exact⟨_,by rw[e,aA]⟩
  .rw[<-w.len,getElem?_append_right (Nat.le_refl _),sub_self];rfl
theorem cV: ∀(rs:List Er)(S:Sto),(zM rs S).1.length=rs.length
 |[],S=>rfl
 |.val d::rs,S=>by show(d::(zM rs S).1).length=_;rw[lC0,cV rs S];rfl
 |.new ds::rs,S=>by show(_::(zM rs _).1).length=_;rw[lC0,cV rs _];rfl
end
section
variable{X:Cx}{W:XW}{a b c e:Expr}{es:Oc}{f g h:Rho->Sto->R Er}{af:Rho->Sto->R (List Er)}{pos:Pos}
def zC:CO X W [] (λ_ S=>.ok [] S):=⟨_,vR,λα ρ S σ H Q wd sl q=>q.here wd .nil⟩
def zA(ha:yL X W a f)(hr:CO X W es af)(hs:starEach (a::es) X.env=(false,eval a X.env)::starEach es X.env:=by rfl):CO X W (a::es) (λρ S=>(f ρ S).bind λp S1=>(af ρ S1).bind λps S2=>.ok (p::ps) S2):=by
 obtain⟨ta,ha,fa⟩:=ha;obtain⟨tr,hr,fr⟩:=hr;refine⟨_,nZ ha hr hs,λα ρ S σ H Q wd sl q=>fa α ρ S σ H _ wd sl (q.bind λu p S1 α1 H1 e1 x1 w1 d1 q1=>fr α1 ρ S1 σ H1 _ w1 (sl.ext x1) ?_)⟩;have q1':Post X.g W α H _ Q:=q1
 cases z:af ρ S1 with
 |ok ps S2=>
  rw[z]at q1';intro vs α2 H2 x2 w2 d2;refine q1' _ α2 H2 (x1.trans x2) w2 (ArgsE.cons (DenE.ext x2 d1) (λds b er eu hb=>?_) (ArgsE.back (λb h=>x1.free h) d2));subst er eu;obtain⟨⟨c,us,ec,h1,_⟩,_⟩:=d1;cases ec;have:=ArgsE.nones d2 _ hb;rw[h1]at this;cases this
 |exc c fs S2=>rw[z]at q1';exact λα2 H2 x2 w2=>q1' α2 H2 (x1.trans x2) w2
 |no=>rw[z]at q1';exact q1'
def zY(rs:List Er)(S:Sto):R Er:=if rs.length<=sizeLine then .ok (.val (.tup (zM rs S).1)) (zM rs S).2 else .no
def jA(rs:List Er)(S:Sto):R Er:=if rs.length<=sizeLine then .ok (.new (zM rs S).1) (zM rs S).2 else .no
def zL{x1}(h:CO X W es af):yL X W (.Tuple es x1 pos) (λρ S=>(af ρ S).bind zY):=by
 obtain⟨t,h,k⟩:=h;refine⟨_,Fq h,λα ρ S σ H Q wd sl q=>k α ρ S σ H _ wd sl (q.bind λvs rs S1 α1 H1 e1 x1 w1 d1 q1=>?_)⟩;have q1':Post X.g W α H (if rs.length<=sizeLine then R.ok _ (zM rs S1).2 else R.no) Q:=q1;split at q1'
 .rename_i hz;obtain⟨α2,x2,y2,w2,l2⟩:=bL w1 x1 d1;exact⟨by rw[ArgsE.length d1];exact hz,λp hp=>(q1'.shift x2).newt w2 hp l2⟩
 .exact q1'.elim
def yV(h:CO X W es af):yL X W (.List es pos) (λρ S=>(af ρ S).bind jA):=by
 obtain⟨t,h,k⟩:=h;refine⟨_,Fs h,λα ρ S σ H Q wd sl q=>k α ρ S σ H _ wd sl (q.bind λvs rs S1 α1 H1 e1 x1 w1 d1 q1=>?_)⟩;have q1':Post X.g W α H (if rs.length<=sizeLine then R.ok _ (zM rs S1).2 else R.no) Q:=q1;split at q1'
 .rename_i hz;obtain⟨α2,x2,y2,w2,l2⟩:=bL w1 x1 d1;exact⟨by rw[ArgsE.length d1];exact hz,λp hp=>(q1'.shift x2).newl w2 hp l2⟩
 .exact q1'.elim
inductive ArgsX(K:Od)(α:Ng)(H:Hp):List Er->List V->Prop
 |nil:ArgsX K α H [] []
 |cons {r v rs vs}:DenX K α H r v->ArgsX K α H rs vs->ArgsX K α H (r::rs) (v::vs)
theorem ArgsE.x{K:Od}{H0:Hp}{α:Ng}{H:Hp}: ∀{rs vs},ArgsE K H0 α H rs vs->ArgsX K α H rs vs
 |_,_,.nil=>.nil
 |_,_,.cons a _ l=>.cons a.1 (ArgsE.x l)
def AK(X:Cx)(W:XW)(r:List V->Hp->VK->Prop)(F:List Er->Sto->R Er):Prop:= ∀rs vs α S H Q,Wd X.g α S H->ArgsX X.K α H rs vs->Post X.g W α H (F rs S) Q->r vs H Q
def yE{id:String}{r:List V->Hp->VK->Prop}{F:List Er->Sto->R Er}{x:Str}{p:Pos}(hc:CallR X (.builtin id) r)(hF:AK X W r F)(hg:Gl X x)(hm:X.mg x=none)(hv:bootBuiltins x=some (.builtin id))(ha:CO X W (e::es) af)
  (hn:x≠"__name__":=by decide) (hdb:(x==("__debug__":Str))=false:=by decide)
  (he:starEach (e::es) X.env=(false,eval e X.env)::starEach es X.env:=by rfl) (hpl:(backTo pos (starEach es X.env)).any (·.1)=false:=by rfl):yL X W (.Call (.Name x p) (e::es) [] pos) (λρ S=>(af ρ S).bind F):=by
 obtain⟨t,ha,k⟩:=ha;exact⟨_,vS hc hg hm hv ha hn hdb he hpl,λα ρ S σ H Q wd sl q=>k α ρ S σ H _ wd sl (q.bind λvs rs S1 α1 H1 e1 x1 w1 d1 q1=>hF rs vs α1 S1 H1 Q w1 (ArgsE.x d1) (q1.shift x1))⟩
def eS{T:String}{r:List V->Hp->VK->Prop}{F:List Er->Sto->R Er}{x:Str}{p:Pos}(hc:CallR X (.type T) r)(hF:AK X W r F)(hg:Gl X x)(hm:X.mg x=none)(hv:bootBuiltins x=some (.type T))(ha:CO X W (e::es) af)
  (hn:x≠"__name__":=by decide) (hdb:(x==("__debug__":Str))=false:=by decide)
  (he:starEach (e::es) X.env=(false,eval e X.env)::starEach es X.env:=by rfl) (hpl:(backTo pos (starEach es X.env)).any (·.1)=false:=by rfl):yL X W (.Call (.Name x p) (e::es) [] pos) (λρ S=>(af ρ S).bind F):=by
 obtain⟨t,ha,k⟩:=ha;exact⟨_,QS hc hg hm hv ha hn hdb he hpl,λα ρ S σ H Q wd sl q=>k α ρ S σ H _ wd sl (q.bind λvs rs S1 α1 H1 e1 x1 w1 d1 q1=>hF rs vs α1 S1 H1 Q w1 (ArgsE.x d1) (q1.shift x1))⟩
def Gj(X:Cx)(W:XW)(r:V->List V->Hp->VK->Prop)(F:Er->List Er->Sto->R Er):Prop:= ∀p rs x vs α S H0 H Q α0,Wd X.g α S H->Ext α0 H0 α H->DenX X.K α H p x->ArgsE X.K H0 α H rs vs->Post X.g W α0 H0 (F p rs S) Q->r x vs H Q
def TyM(X:Cx)(T:String)(ty:Er->Sto->Bool):Prop:= ∀p x α S H,Wd X.g α S H->DenX X.K α H p x->ty p S=true->tyV X.K T x H
def OH{T:String}{name:Str}{id:String}{r:V->List V->Hp->VK->Prop}{F:Er->List Er->Sto->R Er}{ty:Er->Sto->Bool}{apos:Pos}(pa:PlainAttrs T)(slot:Slot T name id)(hty:typeOf (.builtin id)=pure (.type "method_descriptor"))(hm:MtR X id r)(hF:Gj X W r F)(hT:TyM X T ty)
  (ho:yL X W a f) (ha:CO X W (e::es) af)
  (hbase:attributeBase a name X.env (eval a X.env)=eval a X.env:=by rfl)
  (hfew:((backTo pos (starEach (e::es) X.env)).all (λx=>!x.1)&&(backToKw pos (keywordEach [] X.env)).all (λx=>x.1.isSome)
   &&decide ((e::es).length+([]:List Keyword).length+(if([]:List Keyword).isEmpty then 0 else 1)<30))=true:=by rfl)
  (hline:(apos.endLine==pos.line)=true:=by rfl) (hs:starEach (e::es) X.env=(false,eval e X.env)::starEach es X.env:=by rfl) (hplain:(backTo pos (starEach es X.env)).any (·.1)=false:=by rfl):
  yL X W (.Call (.Attribute a name apos) (e::es) [] pos) (λρ S=>(f ρ S).bind λp S1=>if ty p S1=true then(af ρ S1).bind λrs S2=>F p rs S2 else .no):=by
 obtain⟨to,ho,fo⟩:=ho;obtain⟨t,ha,k⟩:=ha;refine⟨_,Kt pa slot hty hm ho ha hbase hfew hline hs hplain,λα ρ S σ H Q wd sl q=>fo α ρ S σ H _ wd sl (q.bind λu p S1 α1 H1 e1 x1 w1 d1 q1=>?_)⟩;split at q1
 .rename_i hz;exact⟨hT p u α1 S1 H1 w1 d1.1 hz,k α1 ρ S1 σ H1 _ w1 (sl.ext x1) ((q1.shift x1).bind λvs rs S2 α2 H2 e2 x2 w2 d2 q2=>hF p rs u vs α2 S2 H1 H2 Q α1 w2 x2 (d1.1.ext x2) d2 q2)⟩
 .exact q1.elim
def OI:Jm X W none (λ_ S=>.ok none S):=⟨_,ZT,λα ρ S σ H Q wd sl q=>q.here wd rfl⟩
def Jn:Er->Sto->R (Option Int)
 |.val (.int i),S=>.ok (some i) S
 |_,_=>.no
def OJ(ha:yL X W a f):Jm X W (some a) (λρ S=>(f ρ S).bind Jn):=by
 obtain⟨ta,ha,fa⟩:=ha;refine⟨_,ZU ha,λα ρ S σ H Q wd sl q=>fa α ρ S σ H _ wd sl (q.bind λu p S1 α1 H1 e1 x1 w1 d1 q1=>?_)⟩;unfold Jn at q1;split at q1
 .exact⟨_,yY d1.1,(q1.shift x1).here w1 rfl⟩
 .exact q1.elim
def Sl3(X:Cx)(W:XW)(r:V->Option Int->Option Int->Hp->VK->Prop)(F:Er->Option Int->Option Int->Sto->R Er):Prop:= ∀p lo hi x α S H Q,Wd X.g α S H->DenX X.K α H p x->Post X.g W α H (F p lo hi S) Q->r x lo hi H Q
def VD{lo hi:Option Expr}{r:V->Option Int->Option Int->Hp->VK->Prop}{F:Er->Option Int->Option Int->Sto->R Er}{lf hf:Rho->Sto->R (Option Int)}{p2:Pos}(hr:SlR X r)(hF:Sl3 X W r F)(ha:yL X W a f)(hl:Jm X W lo lf)(hh:Jm X W hi hf):
  yL X W (.Subscript a (.Slice lo hi none p2) pos) (λρ S=>(f ρ S).bind λp S1=>(lf ρ S1).bind λl S2=>(hf ρ S2).bind λu S3=>F p l u S3):=by
 obtain⟨ta,ha,fa⟩:=ha;obtain⟨tl,hl,fl⟩:=hl;obtain⟨th,hh,fh⟩:=hh
 refine⟨_,UI hr ha hl hh,λα ρ S σ H Q wd sl q=>fa α ρ S σ H _ wd sl (q.bind λu p S1 α1 H1 e1 x1 w1 d1 q1=>fl α1 ρ S1 σ H1 _ w1 (sl.ext x1) ((q1.shift x1).bind λu2 l S2 α2 H2 e2 x2 w2 d2 q2=>
  fh α2 ρ S2 σ H2 _ w2 ((sl.ext x1).ext x2) ((q2.shift x2).bind λu3 m S3 α3 H3 e3 x3 w3 d3 q3=>?_)))⟩
 cases d2;cases d3;exact hF p u2 u3 u α3 S3 H3 Q w3 ((d1.1.ext x2).ext x3) (q3.shift x3)
end
inductive Fl where
 |next (ρ:Rho)|ret (r:Er)|brk (ρ:Rho)|cont (ρ:Rho)
abbrev AX:=Rho->Sto->R Er
abbrev AY:=Rho->Sto->R Fl
abbrev AZ:=Rho->Sto->R Bool
def PostS(g:Gm)(W:XW)(α:Ng)(H:Hp)(D:Ends):R Fl->Prop
 |.ok (.next ρ) S=> ∀σ α' H',Ext α H α' H'->Wd g α' S H'->Slots g.K α' H' ρ σ->D.nx σ H'
 |.ok (.ret r) S=> ∀v α' H',Ext α H α' H'->Wd g α' S H'->DenE g.K H α' H' r v->D.rt v H'
 |.ok (.brk ρ) S=> ∀σ α' H',Ext α H α' H'->Wd g α' S H'->Slots g.K α' H' ρ σ->D.bk σ H'
 |.ok (.cont ρ) S=> ∀σ α' H',Ext α H α' H'->Wd g α' S H'->Slots g.K α' H' ρ σ->D.ct σ H'
 |.exc c fs S=> ∀α' H',Ext α H α' H'->Wd g α' S H'->W c fs S α' H'
 |.no=>False
section
variable{g:Gm}{W:XW}{α α':Ng}{H H':Hp}{D D':Ends}
def PostS.shift(x:Ext α H α' H'): ∀{m:R Fl},PostS g W α H D m->PostS g W α' H' D m
 |.ok (.next ρ) S,q=>λσ α2 H2 x2 w2 s2=>q σ α2 H2 (x.trans x2) w2 s2
 |.ok (.ret r) S,q=>λv α2 H2 x2 w2 d2=>q v α2 H2 (x.trans x2) w2 (d2.back λb h=>x.free h)
 |.ok (.brk ρ) S,q=>λσ α2 H2 x2 w2 s2=>q σ α2 H2 (x.trans x2) w2 s2
 |.ok (.cont ρ) S,q=>λσ α2 H2 x2 w2 s2=>q σ α2 H2 (x.trans x2) w2 s2
 |.exc c fs S,q=>λα2 H2 x2 w2=>q α2 H2 (x.trans x2) w2
 |.no,q=>q
def PostS.expr{β τ:Type}[Dn β τ]{m:R β}{k:β->Sto->R Fl}{Q':τ->Hp->Prop}(q:PostS g W α H D (m.bind k))
  (f: ∀u b S1 α1 H1,m=.ok b S1->Ext α H α1 H1->Wd g α1 S1 H1->Dn.d g H α1 S1 H1 b u->PostS g W α H D (k b S1)->Q' u H1):Post g W α H m Q':=by
 cases m with
 |ok b S=>exact λu α1 H1 x w d=>f u b S α1 H1 rfl x w d q
 |exc c fs S=>exact q
 |no=>exact q
def PostS.stmt{m:R Fl}{k:Fl->Sto->R Fl}(q:PostS g W α H D (m.bind k))
  (hn: ∀ρ S σ α1 H1,m=.ok (.next ρ) S->Ext α H α1 H1->Wd g α1 S H1->Slots g.K α1 H1 ρ σ->PostS g W α H D (k (.next ρ) S)->D'.nx σ H1)
  (hr: ∀r S v α1 H1,m=.ok (.ret r) S->Ext α H α1 H1->Wd g α1 S H1->DenE g.K H α1 H1 r v->PostS g W α H D (k (.ret r) S)->D'.rt v H1)
  (hb: ∀ρ S σ α1 H1,m=.ok (.brk ρ) S->Ext α H α1 H1->Wd g α1 S H1->Slots g.K α1 H1 ρ σ->PostS g W α H D (k (.brk ρ) S)->D'.bk σ H1)
  (hc: ∀ρ S σ α1 H1,m=.ok (.cont ρ) S->Ext α H α1 H1->Wd g α1 S H1->Slots g.K α1 H1 ρ σ->PostS g W α H D (k (.cont ρ) S)->D'.ct σ H1):PostS g W α H D' m:=by
 cases m with
 |ok fl S=>
  cases fl with
  |next ρ=>exact λσ α1 H1 x w s=>hn ρ S σ α1 H1 rfl x w s q
  |ret r=>exact λv α1 H1 x w d=>hr r S v α1 H1 rfl x w d q
  |brk ρ=>exact λσ α1 H1 x w s=>hb ρ S σ α1 H1 rfl x w s q
  |cont ρ=>exact λσ α1 H1 x w s=>hc ρ S σ α1 H1 rfl x w s q
 |exc c fs S=>exact q
 |no=>exact q
end
def SZ(X:Cx)(W:XW)(st:Stmt)(F:AY):Prop:=
 ∃t,PS X st t/\ ∀α ρ S σ H D,Wd X.g α S H->Slots X.K α H ρ σ->PostS X.g W α H D (F ρ S)->t D σ H
def rC(X:Cx)(W:XW)(st:List Stmt)(F:AY):Prop:=
 ∃t,PSs X st t/\ ∀α ρ S σ H D,Wd X.g α S H->Slots X.K α H ρ σ->PostS X.g W α H D (F ρ S)->t D σ H
def zZ(F G:AY):AY:=λρ S=>(F ρ S).bind λfl S1=>match fl with
 |.next ρ'=>G ρ' S1
 |.ret r=>.ok (.ret r) S1
 |.brk ρ'=>.ok (.brk ρ') S1
 |.cont ρ'=>.ok (.cont ρ') S1
section
variable{X:Cx}{W:XW}{st:Stmt}{sts as bs:List Stmt}{F G:AY}{f g:AX}{tf:AZ}{e c:Expr}{pos:Pos}
def yP:rC X W [] (λρ S=>.ok (.next ρ) S):=⟨_,ZG,λα ρ S σ H D wd sl q=>q σ α H (Ext.refl α H) wd sl⟩
def zK(h:SZ X W st F):rC X W [st] F:=let ⟨t,h,k⟩:=h;⟨t,ZH h,k⟩
def zH(h1:SZ X W st F)(h2:rC X W sts G):rC X W (st::sts) (zZ F G):=by
 obtain⟨t,h1,k1⟩:=h1;obtain⟨u,h2,k2⟩:=h2;refine⟨_,TL h1 h2,λα ρ S σ H D wd sl q=>k1 α ρ S σ H _ wd sl (q.stmt ?_ ?_ ?_ ?_)⟩
 .intro ρ1 S1 σ1 α1 H1 e x1 w1 s1 q1;exact k2 α1 ρ1 S1 σ1 H1 D w1 s1 (PostS.shift x1 q1)
 .intro r S1 v α1 H1 e x1 w1 d1 q1;exact q1 v α1 H1 x1 w1 d1
 .intro ρ1 S1 σ1 α1 H1 e x1 w1 s1 q1;exact q1 σ1 α1 H1 x1 w1 s1
 .intro ρ1 S1 σ1 α1 H1 e x1 w1 s1 q1;exact q1 σ1 α1 H1 x1 w1 s1
def zV(he:yL X W e f):SZ X W (.Return (some e) pos) (λρ S=>(f ρ S).bind λr S1=>.ok (.ret r) S1):=by obtain⟨t,he,k⟩:=he;exact⟨_,Es he,λα ρ S σ H D wd sl q=>k α ρ S σ H _ wd sl (q.expr λu r S1 α1 H1 e x1 w1 d1 q1=>q1 u α1 H1 x1 w1 d1)⟩
def lP:SZ X W st (λ_ _=>.no):=⟨_,TN,λα ρ S σ H D wd sl q=>q.elim⟩
def cO(he:yL X W e f)(hs:swapsWith e none pos.line X.env=pure false:=by rfl):SZ X W (.Expr e pos) (λρ S=>(f ρ S).bind λ_ S1=>.ok (.next ρ) S1):=by obtain⟨t,he,k⟩:=he;exact⟨_,ZI he hs,λα ρ S σ H D wd sl q=>k α ρ S σ H _ wd sl (q.expr λu r S1 α1 H1 e x1 w1 d1 q1=>q1 σ α1 H1 x1 w1 (sl.ext x1))⟩
def xO(hc:FK X W c tf)(ha:rC X W as F)(hb:rC X W bs G):SZ X W (.If c as bs pos) (λρ S=>(tf ρ S).bind λk S1=>if k=true then F ρ S1 else G ρ S1):=by
 obtain⟨tc,hc,kc⟩:=hc;obtain⟨ta,ha,ka⟩:=ha;obtain⟨tb,hb,kb⟩:=hb;refine⟨_,Ka hc ha hb,λα ρ S σ H D wd sl q=>kc α ρ S σ H _ wd sl (q.expr λu p S1 α1 H1 e x1 w1 d1 q1=>?_)⟩;cases d1
 cases u with
 |true=>rw[iP rfl]at q1 ⊢; exact ka α1 ρ S1 σ H1 D w1 (sl.ext x1) (PostS.shift x1 q1)
 |false=>rw[iN0 xF0]at q1 ⊢; exact kb α1 ρ S1 σ H1 D w1 (sl.ext x1) (PostS.shift x1 q1)
instance:Dn Rho St:=⟨λg _ α' _ H' ρ σ=>Slots g.K α' H' ρ σ,λ_ q=>q⟩
def Mw(X:Cx)(W:XW)(tg:Expr)(gf:MV->Rho->Sto->R Rho):Prop:=
 ∃t,PG X tg t/\ ∀α ρ S σ H d v Q,Wd X.g α S H->Slots X.K α H ρ σ->Den X.K α H d v->Post X.g W α H (gf d ρ S) Q->t v σ H Q
def Al(X:Cx)(W:XW)(tgs:Oc)(gf:List MV->Rho->Sto->R Rho):Prop:=
 ∃t,Kb X tgs t/\ ∀α ρ S σ H ds vs Q,Wd X.g α S H->Slots X.K α H ρ σ->DenL X.K α H ds vs->Post X.g W α H (gf ds ρ S) Q->t vs σ H Q
def iW(i:Nat):MV->Rho->Sto->R Rho:=λd ρ S=>.ok (ρ.set i (some d)) S
def jL(i:Nat){x:Str}(hN:X.N.Nodup)(hi:X.N[i]? =some x:=by rfl)(hx:Loc X.env.scope x:=by first |exact Or.inl rfl|exact Or.inr rfl)(hf:X.fn x=true\/X.env.scope.names.lookup x=some .local:=by first |exact .inl rfl|exact .inr rfl|assumption):
  Mw X W (.Name x pos) (iW i):=⟨_,NT hN hi hx hf,λα ρ S σ H d v Q wd sl de q=>Post.here q wd (sl.set de)⟩
def rD:List MV->Rho->Sto->R Rho
 |[],ρ,S=>.ok ρ S
 |_,_,_=>.no
def kI(g1:MV->Rho->Sto->R Rho)(g2:List MV->Rho->Sto->R Rho):List MV->Rho->Sto->R Rho
 |d::ds,ρ,S=>(g1 d ρ S).bind λρ1 S1=>g2 ds ρ1 S1
 |_,_,_=>.no
def FL:Al X W [] rD:=⟨_,ZJ,λα ρ S σ H ds vs Q wd sl de q=>by
 cases ds with
 |nil=>exact⟨de.isnil,Post.here q wd sl⟩
 |cons d ds=>exact q.elim⟩
def aH{es:Oc}{g1:MV->Rho->Sto->R Rho}{g2:List MV->Rho->Sto->R Rho}(h1:Mw X W e g1)(h2:Al X W es g2)(hs:(assignEach (e::es) X.env).map (·.2)=assign e X.env::(assignEach es X.env).map (·.2):=by rfl):Al X W (e::es) (kI g1 g2):=by
 obtain⟨t1,h1,k1⟩:=h1;obtain⟨t2,h2,k2⟩:=h2;refine⟨_,TR h1 h2 hs,λα ρ S σ H ds vs Q wd sl de q=>?_⟩
 cases ds with
 |nil=>exact q.elim
 |cons d ds=>
  obtain⟨v,r,rfl,a,l⟩:=de.uncons;refine⟨v,r,rfl,k1 α ρ S σ H d v _ wd sl a (Post.bind q λu p S1 α1 H1 e x1 w1 d1 q1=>k2 α1 p S1 u H1 ds r Q w1 d1 (l.ext x1) (q1.shift x1))⟩
def YY(n:Nat)(g2:List MV->Rho->Sto->R Rho):MV->Rho->Sto->R Rho
 |.tup ds,ρ,S=>if ds.length=n then g2 ds ρ S else .no
 |_,_,_=>.no
def FM{es:Oc}{k n:Nat}{g2:List MV->Rho->Sto->R Rho}(hc:X.calm=true)(h:Al X W es g2)
  (hn:(assignEach es X.env).length=n:=by rfl) (hst:(assignEach es X.env).findIdx? (·.1)=none:=by rfl):Mw X W (.Tuple es k pos) (YY n g2):=by
 obtain⟨t,h,k⟩:=h;refine⟨_,Ew hc h hn hst,λα ρ S σ H d v Q wd sl de q=>?_⟩;unfold YY at q;split at q
 .split at q
  .rename_i hl;obtain⟨a,vs,rfl,s,l⟩:=kZ de;exact⟨a,vs,rfl,s,by rw[l.length];exact hl,k α ρ S σ H _ vs Q wd sl l q⟩
  .exact q.elim
 .exact q.elim
def fK(r:Er)(S:Sto):R MV:=match r with
 |.val d=>.ok d S
 |.new ds=>.ok (.loc S.length) (S++[.lst ds])
def oR{g:Gm}{H0:Hp}{α0 α:Ng}{H:Hp}{S:Sto}{r:Er}{v:V}(w:Wd g α S H)(x:Ext α0 H0 α H)(d:DenE g.K H0 α H r v):
  ∃d' S' α',fK r S=.ok d' S'/\Ext α0 H0 α' H/\Ex0 α H α' H/\Wd g α' S' H/\Den g.K α' H d' v:=by
 cases r with
 |val d'=>exact⟨d',S,α,rfl,x,⟨⟨[],by simp⟩,λ_ _ h=>h,λ_ _ _ h=>h⟩,w,d.1⟩
 |new ds=>
  obtain⟨⟨c,us,rfl,h1,h2,h3⟩,h4⟩:=d;exact⟨_,_,_,rfl,w.enterx x (h4 c rfl) h2,Ex0.grow α [c] H,w.enter h1 h2 h3,aF (by rw[<-w.len,getElem?_append_right (Nat.le_refl _),sub_self];rfl)⟩
def LD(ρ:Rho)(i:Nat)(r:Er)(S:Sto):R Fl:=(fK r S).bind λd S1=>.ok (.next (ρ.set i (some d))) S1
def yD(i:Nat){x:Str}{pos':Pos}(hN:X.N.Nodup)(he:yL X W e f)(hi:X.N[i]? =some x:=by rfl)(hx:Loc X.env.scope x:=by first |exact Or.inl rfl|exact Or.inr rfl)
  (hs:swapsWith e (some (.Name x pos')) pos.line X.env=pure false:=by rfl) (hf:X.fn x=true\/X.env.scope.names.lookup x=some .local:=by first |exact .inl rfl|exact .inr rfl|assumption):
  SZ X W (.Assign [.Name x pos'] e pos) (λρ S=>(f ρ S).bind (LD ρ i)):=by
 obtain⟨t,he,k⟩:=he;refine⟨_,Ey hN hi hx he hs hf,λα ρ S σ H D wd sl q=>k α ρ S σ H _ wd sl (q.expr λu r S1 α1 H1 e x1 w1 d1 q1=>?_)⟩;obtain⟨d',S',α',e1,x',y',w',de⟩:=oR w1 x1 d1;unfold LD at q1;rw[e1]at q1;exact q1 _ α' H1 x' w' (((sl.ext x1).ex0 y').set de)
def asgF(gf:MV->Rho->Sto->R Rho)(ρ:Rho)(r:Er)(S:Sto):R Fl:=(fK r S).bind λd S1=>(gf d ρ S1).bind λρ' S2=>.ok (.next ρ') S2
structure Wk where
 ds:List MV
 gs:List (Nat×List MV)
def stay(gs:Oj)(S:Sto):Prop:= ∀p∈gs,S[p.1]? =some (.lst p.2)
def Lc(g:Gm)(J:It)(P:List Addr->Sto->Hp->Prop)(ds:Og):Prop:= ∀i α S H,P α S H->Wd g α S H->(i<ds.length->J.go i H/\ ∀x H',J.yld i H x H'->Ext α H α H'/\Wd g α S H'/\P α S H'/\ ∃d,ds[i]? =some d/\Den g.K α H' d x)/\(ds.length<=i->J.stop i H)
structure WkD(g:Gm)(α:Ng)(S:Sto)(H:Hp)(k:Wk)(J:It)(P:List Addr->Sto->Hp->Prop):Prop where
 it:Lc g J P k.ds
 here:P α S H
 stays: ∀α1 S1 H1 α2 S2 H2,P α1 S1 H1->Ext α1 H1 α2 H2->Wd g α2 S2 H2->stay k.gs S2->P α2 S2 H2
 st:stay k.gs S
instance:Dn Wk It:=⟨λg _ α S H k J=> ∃P,WkD g α S H k J P,λ_ q=>q⟩
abbrev PIm(X:Cx)(W:XW)(tg iter:Expr)(f:Rho->Sto->R Wk):Prop:=Jd X W (PI X tg iter) f
variable{tg iter:Expr}
theorem AM{a:Addr}{ds:Og}:Lc X.g (Itl X.K a) (λα S H=> ∃vs,SqL X.K H a vs/\DenL X.K α H ds vs) ds:=by
 intro i α S H ⟨vs,s,l⟩ w;have hl:=l.length;refine⟨λhi=>?_,λhi=>⟨vs,s,by lia⟩⟩;have hv:i<vs.length:=by lia
 refine⟨⟨vs,_,s,gE hv⟩,λx H' y=>?_⟩;obtain⟨rfl,y⟩:=y;obtain⟨d,h1,h2⟩:=l.get (y vs s);exact⟨Ext.refl _ _,w,⟨vs,s,l⟩,d,h1,h2⟩
theorem Am{a:Addr}{ds:Og}:Lc X.g (Itt X.K a) (λα S H=> ∃vs,SqT X.K H a vs/\DenL X.K α H ds vs) ds:=by
 intro i α S H ⟨vs,s,l⟩ w;have hl:=l.length;refine⟨λhi=>?_,λhi=>⟨vs,s,by lia⟩⟩;have hv:i<vs.length:=by lia
 refine⟨⟨vs,_,s,gE hv⟩,λx H' y=>?_⟩;obtain⟨rfl,y⟩:=y;obtain⟨d,h1,h2⟩:=l.get (y vs s);exact⟨Ext.refl _ _,w,⟨vs,s,l⟩,d,h1,h2⟩
def An{x:Db}:Lc X.g (Kw x) (λ_ _ _=>True) (x.map λc=>.str [c]):=by intro i α S H _ w;refine⟨λhi=>⟨show i<x.length by simpa using hi,λv H' y=>?_⟩,λhi=>by show x.length<=i;simpa using hi⟩;obtain⟨rfl,c,h1,h2⟩:=y;refine⟨Ext.refl _ _,w,trivial,.str [c],by rw[getElem?_map,h1];rfl,?_⟩;rw[h2];exact cL [c]
def RF{lo:Int}{n:Nat}:Lc X.g (Ms lo n) (λ_ _ _=>True) ((List.range n).map λk=>.int (lo+(k:Nat))):=by
 intro i α S H _ w;refine⟨λhi=>⟨show i<n by simpa using hi,λv H' y=>?_⟩,λhi=>by show n<=i;simpa using hi⟩;obtain⟨rfl,y⟩:=y;have hi':=by simpa using hi
 refine⟨Ext.refl _ _,w,trivial,_,by rw[getElem?_map,List.getElem?_range hi'];rfl,?_⟩;rw[y];exact xR _
def Di:Er->Sto->R Wk
 |.new ds,S=>.ok ⟨ds,[]⟩ S
 |.val (.scr ds),S=>.ok ⟨ds,[]⟩ S
 |.val (.loc l),S=>match S[l]? with
  |some (.lst ds)=>.ok ⟨ds,[(l,ds)]⟩ S
  |_=>.no
 |_,_=>.no
def jY{S:Sto}:stay [] S:=λp h=>by simp at h
def FN(he:yL X W iter f):PIm X W tg iter (λρ S=>(f ρ S).bind Di):=by
 obtain⟨t,he,k⟩:=he;refine⟨_,ZK he,λα ρ S σ H Rc wd sl q=>k α ρ S σ H _ wd sl (q.bind λu p S1 α1 H1 e x1 w1 d1 q1=>?_)⟩
 replace q1:=q1.shift x1
 unfold Di at q1;split at q1
 .rename_i S0 ds;obtain⟨⟨b,vs,rfl,h1,h2,h3⟩,h4⟩:=d1;refine⟨b,rfl,⟨vs,.of h1⟩,q1.here w1 ⟨λα2 S2 H2=> ∃vs,SqL X.K H2 b vs/\DenL X.K α2 H2 ds vs/\H2 b=some (.lst vs)/\b∉α2,?_,⟨vs,.of h1,h3,h1,h2⟩,?_,jY⟩⟩
  .intro i α2 S2 H2 ⟨vs2,a1,a2,a3,a4⟩ w2;obtain⟨i1,i2⟩:=AM i α2 S2 H2 ⟨vs2,a1,a2⟩ w2;refine⟨λhi=>⟨(i1 hi).1,λx H' y=>?_⟩,i2⟩;obtain⟨j1,j2,j3,j4⟩:=(i1 hi).2 x H' y;obtain⟨rfl,_⟩:=y;exact⟨j1,j2,⟨vs2,a1,a2,a3,a4⟩,j4⟩
  .intro α2 S2 H2 α3 S3 H3 ⟨vs2,a1,a2,a3,a4⟩ x w3 _;exact⟨vs2,.of (x.keep b _ a3 a4),a2.ext x,x.keep b _ a3 a4,x.out a3 a4⟩
 .rename_i S0 ds;obtain⟨a,vs,rfl,s,l⟩:=AC d1.1;refine⟨a,rfl,⟨vs,s.l⟩,q1.here w1 ⟨λα2 S2 H2=> ∃vs,SqL X.K H2 a vs/\DenL X.K α2 H2 ds vs/\SqF X.K H2 a vs,?_,⟨vs,s.l,l,s⟩,?_,jY⟩⟩
  .intro i α2 S2 H2 ⟨vs2,a1,a2,a3⟩ w2;obtain⟨i1,i2⟩:=AM i α2 S2 H2 ⟨vs2,a1,a2⟩ w2;refine⟨λhi=>⟨(i1 hi).1,λx H' y=>?_⟩,i2⟩;obtain⟨j1,j2,j3,j4⟩:=(i1 hi).2 x H' y;obtain⟨rfl,_⟩:=y;exact⟨j1,j2,⟨vs2,a1,a2,a3⟩,j4⟩
  .intro α2 S2 H2 α3 S3 H3 ⟨vs2,a1,a2,a3⟩ x w3 _;exact⟨vs2,(x.sqF a3).l,a2.ext x,x.sqF a3⟩
 .rename_i S0 n;obtain⟨a,rfl,h⟩:=dA d1.1;obtain⟨o,h1,h2⟩:=w1.of h;rw[h1]at q1
  cases o with
  |lst ds=>
   obtain⟨vs,h3,l⟩:=h2;refine⟨a,rfl,⟨vs,.of h3⟩,Post.here q1 w1 ⟨λα2 S2 H2=> ∃vs,SqL X.K H2 a vs/\DenL X.K α2 H2 ds vs/\α2[n]? =some a,?_,⟨vs,.of h3,l,h⟩,?_,?_⟩⟩
   .intro i α2 S2 H2 ⟨vs2,a1,a2,a3⟩ w2;obtain⟨i1,i2⟩:=AM i α2 S2 H2 ⟨vs2,a1,a2⟩ w2;refine⟨λhi=>⟨(i1 hi).1,λx H' y=>?_⟩,i2⟩;obtain⟨j1,j2,j3,j4⟩:=(i1 hi).2 x H' y;obtain⟨rfl,_⟩:=y;exact⟨j1,j2,⟨vs2,a1,a2,a3⟩,j4⟩
   .intro α2 S2 H2 α3 S3 H3 ⟨vs2,a1,a2,a3⟩ x w3 hs;have a3':=x.at a3;have:=w3.obj n a _ a3' (hs (n,ds) (by simp));obtain⟨vs3,b1,b2⟩:=this;exact⟨vs3,.of b1,b2,a3'⟩
   .intro p hp;have:p=(n,ds):=by simpa using hp
    subst this;exact h1
  |dic ds=>exact q1.elim
  |ins c fs=>exact q1.elim
  |rcd c fs=>exact q1.elim
  |fdc _=>exact q1.elim
 .exact q1.elim
def Ld:Er->Sto->R Wk
 |.val (.tup ds),S=>.ok ⟨ds,[]⟩ S
 |_,_=>.no
def VE(he:yL X W iter f):PIm X W tg iter (λρ S=>(f ρ S).bind Ld):=by
 obtain⟨t,he,k⟩:=he;refine⟨_,Ez he,λα ρ S σ H Rc wd sl q=>k α ρ S σ H _ wd sl (q.bind λu p S1 α1 H1 e x1 w1 d1 q1=>?_)⟩
 replace q1:=q1.shift x1
 unfold Ld at q1;split at q1
 .rename_i S0 ds;obtain⟨a,vs,rfl,s,l⟩:=gR d1.1;exact⟨a,rfl,⟨vs,s⟩,q1.here w1 ⟨_,Am,⟨vs,s,l⟩,λα2 S2 H2 α3 S3 H3 ⟨vs2,a1,a2⟩ x w3 _=>⟨vs2,x.sqT a1,a2.ext x⟩,jY⟩⟩
 .exact q1.elim
def itS:Er->Sto->R Wk
 |.val (.str x),S=>.ok ⟨x.map λc=>.str [c],[]⟩ S
 |_,_=>.no
def Gk(he:yL X W iter f):PIm X W tg iter (λρ S=>(f ρ S).bind itS):=by
 obtain⟨t,he,k⟩:=he;refine⟨_,Gd he,λα ρ S σ H Rc wd sl q=>k α ρ S σ H _ wd sl (q.bind λu p S1 α1 H1 e x1 w1 d1 q1=>?_)⟩
 replace q1:=q1.shift x1
 unfold itS at q1;split at q1
 .rename_i S0 x;exact⟨x,jR d1.1,q1.here (u:=Kw x) w1 ⟨_,An,trivial,λ_ _ _ _ _ _ _ _ _ _=>trivial,jY⟩⟩
 .exact q1.elim
def ED:List Er->Sto->R Wk
 |[.val (.int j)],S=>if -(2 ^ 62)<=j/\j<2 ^ 62 then .ok ⟨(List.range j.toNat).map λk=>.int (k:Nat),[]⟩ S else .no
 |_,_=>.no
variable{af:Rho->Sto->R (List Er)}{p:Pos}{a:Expr}
def VF{K:Od}{H0:Hp}{α:Ng}{H:Hp}{r:Er}{vs:List V}(d:ArgsE K H0 α H [r] vs): ∃v,vs=[v]/\DenX K α H r v:=by
 cases d with
 |cons a n l=>cases l;exact⟨_,rfl,a.1⟩
def sU(hg:Gl X "range")(hm:X.mg "range"=none)(ha:CO X W [a] af)(hs:starEach [a] X.env=[(false,eval a X.env)]:=by rfl):PIm X W tg (.Call (.Name "range" p) [a] [] pos) (λρ S=>(af ρ S).bind ED):=by
 obtain⟨t,ha,k⟩:=ha;refine⟨_,QM hg hm ha hs,λα ρ S σ H Rc wd sl q=>k α ρ S σ H _ wd sl (q.bind λvs rs S1 α1 H1 e x1 w1 d1 q1=>?_)⟩
 replace q1:=q1.shift x1
 unfold ED at q1;split at q1
 .split at q1
  .rename_i S0 j hj;obtain⟨v,rfl,dv⟩:=VF d1;cases yY dv;have:=RF (X:=X) (lo:=0) (n:=j.toNat);simp only[Int.zero_add]at this;exact⟨j,rfl,hj.1,hj.2,q1.here w1 ⟨_,this,trivial,λ_ _ _ _ _ _ _ _ _ _=>trivial,jY⟩⟩
  .exact q1.elim
 .exact q1.elim
open Classical in
def eT(gf:MV->Rho->Sto->R Rho)(body:AY)(gs:Oj):List MV->AY
 |[],ρ,S=>.ok (.next ρ) S
 |d::ds,ρ,S=>(gf d ρ S).bind λρ0 S0=>(body ρ0 S0).bind λfl S1=>match fl with
  |.next ρ'=>if stay gs S1 then eT gf body gs ds ρ' S1 else .no
  |.cont ρ'=>if stay gs S1 then eT gf body gs ds ρ' S1 else .no
  |.brk ρ'=>.ok (.next ρ') S1
  |.ret r=>.ok (.ret r) S1
open Classical in
def lQ{itf:Rho->Sto->R Wk}{gf:MV->Rho->Sto->R Rho}(hp:PassesOwn (model X.prog X.w) X.A X.env X.xe)(hc:X.calm=true)(hi:PIm X W tg iter itf)(hg:Mw X W tg gf)(hb:rC X W as F)
  (hs: ∀y,foldedSetIterable iter X.env y=pure y:=by intro _;rfl):SZ X W (.For tg iter as [] pos) (λρ S=>(itf ρ S).bind λk S1=>eT gf F k.gs k.ds ρ S1):=by
 obtain⟨wi,hi,ki⟩:=hi;obtain⟨tg',hg,kg⟩:=hg;obtain⟨tb,hb,kb⟩:=hb;refine⟨_,Fa hp hc hi hg hb hs,λα ρ S σ H D wd sl q=>ki α ρ S σ H _ wd sl (q.expr λJ k S1 α1 H1 e x1 w1 d1 q1=>?_)⟩;obtain⟨P,hP⟩:=d1;have sl1:=sl.ext x1
 replace q1:=PostS.shift x1 q1
 refine⟨λn m σ2 H2=>m=k.ds.length - n/\n<=k.ds.length/\ ∃α2 ρ2 S2,Wd X.g α2 S2 H2/\Slots X.K α2 H2 ρ2 σ2/\P α2 S2 H2/\PostS X.g W α2 H2 D (eT gf F k.gs (k.ds.drop n) ρ2 S2),⟨_,rfl,zero_le _,α1,ρ,S1,w1,sl1,hP.here,by simpa using q1⟩,?_⟩;rintro n m σ2 H2 ⟨rfl,hn,α2,ρ2,S2,w2,sl2,p2,q2⟩;obtain⟨i1,i2⟩:=hP.it n α2 S2 H2 p2 w2;by_cases hlt:n<k.ds.length
 .obtain⟨go,yl⟩:=i1 hlt;refine .inr ⟨go,λσ3 H3=> ∃α3 ρ3 S3,Wd X.g α3 S3 H3/\Slots X.K α3 H3 ρ3 σ3/\P α3 S3 H3/\PostS X.g W α3 H3 D (eT gf F k.gs (k.ds.drop (n+1)) ρ3 S3),λσ3 H3 ⟨α3,ρ3,S3,h3⟩=>⟨k.ds.length - (n+1),by omega,rfl,hlt,α3,ρ3,S3,h3⟩,λv H3 y=>?_⟩;obtain⟨x3,w3,p3,d,hd,dv⟩:=yl v H3 y;have hdrop:k.ds.drop n=d::k.ds.drop (n+1):=by rw[List.drop_eq_getElem_cons hlt];have:=gE hlt;rw[hd]at this;rw[<-Option.some.inj this]
  rw[hdrop]at q2;unfold eT at q2
  replace q2:=PostS.shift x3 q2
  refine kg α2 ρ2 S2 σ2 H3 d v _ w3 (sl2.ext x3) dv (q2.expr λσ4 ρ4 S4 α4 H4 e4 x4 w4 s4 q4=>?_);have p4: ∀α5 S5 H5,Ext α4 H4 α5 H5->Wd X.g α5 S5 H5->stay k.gs S5->P α5 S5 H5:=λα5 S5 H5 x5 w5 s5=>hP.stays α2 S2 H3 α5 S5 H5 p3 (x4.trans x5) w5 s5;refine kb α4 ρ4 S4 σ4 H4 _ w4 s4 ((PostS.shift x4 q4).stmt ?_ ?_ ?_ ?_)
  .intro ρ5 S5 σ5 α5 H5 e5 x5 w5 s5 q5;have q5':PostS X.g W α4 H4 D (if stay k.gs S5 then eT gf F k.gs (k.ds.drop (n+1)) ρ5 S5 else .no):=q5;split at q5'
   .rename_i hst;exact⟨α5,ρ5,S5,w5,s5,p4 α5 S5 H5 x5 w5 hst,PostS.shift x5 q5'⟩
   .exact q5'.elim
  .intro r S5 v5 α5 H5 e5 x5 w5 d5 q5;exact q5 v5 α5 H5 x5 w5 d5
  .intro ρ5 S5 σ5 α5 H5 e5 x5 w5 s5 q5;exact q5 σ5 α5 H5 x5 w5 s5
  .intro ρ5 S5 σ5 α5 H5 e5 x5 w5 s5 q5;have q5':PostS X.g W α4 H4 D (if stay k.gs S5 then eT gf F k.gs (k.ds.drop (n+1)) ρ5 S5 else .no):=q5;split at q5'
   .rename_i hst;exact⟨α5,ρ5,S5,w5,s5,p4 α5 S5 H5 x5 w5 hst,PostS.shift x5 q5'⟩
   .exact q5'.elim
 .have e:n=k.ds.length:=by omega
  subst e;refine .inl ⟨i2 (Nat.le_refl _),?_⟩;rw[List.drop_length]at q2;exact q2 σ2 α2 H2 (Ext.refl _ _) w2 sl2
end
def noX{β:Type}:R β->R β
 |.ok b S=>.ok b S
 |_=>.no
theorem aW{β:Type}(b:β)(S:Sto):noX (R.ok b S)=.ok b S:=rfl
def Post.bindY{β τ γ υ:Type}[Dn β τ][Dn γ υ]{g:Gm}{W:XW}{α α':Ng}{H H':Hp}(x:Ext α H α' H'){m:R β}{k:β->Sto->R γ}{Q:υ->Hp->Prop}{Q':τ->Hp->Prop}(q:Post g W α H ((noX m).bind k) Q)
  (f: ∀u b S1 α1 H1,m=.ok b S1->Ext α' H' α1 H1->Wd g α1 S1 H1->Dn.d g H' α1 S1 H1 b u->Post g W α H (k b S1) Q->Q' u H1):Post g W0 α' H' m Q':=by
 cases m with
 |ok b S=>exact λu α1 H1 x w d=>f u b S α1 H1 rfl x w d q
 |exc c fs S=>exact q.elim
 |no=>exact q
theorem R.bind_assoc{β γ δ:Type}(m:R β)(k1:β->Sto->R γ)(k2:γ->Sto->R δ):(m.bind k1).bind k2=m.bind λb S=>(k1 b S).bind k2:=by cases m<;>rfl
def KE(nt:Nat)(idx:Db)(ρ:Rho):Rho:=List.replicate nt none++idx.map λi=>(ρ[i]?).join
open Classical in
def dB(gf:MV->Rho->Sto->R Rho)(cf:AZ)(ef:AX)(ρb:Rho)(gs:Oj):List MV->Sto->R (List MV)
 |[],S=>.ok [] S
 |d::ds,S=>(noX (gf d ρb S)).bind λρ1 S0=>(noX (cf ρ1 S0)).bind λk S1=>
  if k=true then(noX (ef ρ1 S1)).bind λr S2=>(fK r S2).bind λy S3=>if stay gs S3 then(dB gf cf ef ρb gs ds S3).bind λout S4=>.ok (y::out) S4 else .no
  else if stay gs S1 then dB gf cf ef ρb gs ds S1 else .no
theorem RG{K:Od}{α:Ng}{H:Hp}{ρ:Rho}{σ:St}(q:Slots K α H ρ σ)(nt:Nat)(idx:Db)(τ:St)(hτ:τ.length=nt):Slots K α H (KE nt idx ρ) (τ++sS σ idx):=by
 refine⟨by unfold KE;rw[lA,lA,aB,lM0,List.length_replicate,hτ],λi d e=>?_⟩;unfold KE at e;by_cases hi:i<nt
 .rw[getElem?_append_left (by rw[List.length_replicate];exact hi),List.getElem?_replicate]at e;split at e<;>cases e
 .rw[getElem?_append_right (by rw[List.length_replicate];lia),List.length_replicate,getElem?_map]at e
  cases z:idx[i - nt]? with
  |none=>rw[z]at e;cases e
  |some k=>
   rw[z]at e;have e2:(ρ[k]?).join=some d:=Option.some.inj e
   cases z2:ρ[k]? with
   |none=>rw[z2]at e2;cases e2
   |some o=>
    rw[z2]at e2;have e3:=e2;subst e3;obtain⟨v,h1,h2⟩:=q.slot k d z2;refine⟨v,?_,h2⟩;rw[getElem?_append_right (by lia),hτ];unfold sS;rw[getElem?_map,z];show some (σ[k]?).join=some _;rw[h1];rfl
def Keeps(nt:Nat)(σ:St)(Q:St->Hp->Prop):St->Hp->Prop:=λσ' H'=>σ'.length=σ.length->(∀j,nt<=j->σ'[j]? =σ[j]?)->Q σ' H'
def PGn(nt:Nat)(X:Cx)(W:XW)(tg:Expr)(gf:MV->Rho->Sto->R Rho):Prop:=
 ∃t,PG X tg t/\ ∀α ρ S σ H d v Q,Wd X.g α S H->Slots X.K α H ρ σ->Den X.K α H d v->Post X.g W α H (gf d ρ S) (Keeps nt σ Q)->t v σ H Q
section
variable{X:Cx}{W:XW}{pos:Pos}{nt:Nat}
theorem rE(i:Nat){x:Str}(hN:X.N.Nodup)(hi:X.N[i]? =some x:=by rfl)(hx:Loc X.env.scope x:=by first |exact Or.inl rfl|exact Or.inr rfl)(hf:X.fn x=true\/X.env.scope.names.lookup x=some .local:=by first |exact .inl rfl|exact .inr rfl|assumption)(hlt:i<nt:=by decide):
  PGn nt X W (.Name x pos) (iW i):=⟨_,NT hN hi hx hf,λα ρ S σ H d v Q wd sl de q=>Post.here q wd (sl.set de) (by rw[List.length_set]) λj hj=>by rw[getElem?_set_ne (by lia)]⟩
end
abbrev Gn(X:Cx)(W:XW)(ifs:Oc)(f:AZ):Prop:=Jd X W (UQ X ifs) f
section
variable{X:Cx}{W:XW}{iter:Expr}{c:Expr}{pos:Pos}
def rF:Gn X W [] (λ_ S=>.ok true S):=⟨_,UR,λα ρ S σ H Q wd sl q=>q.here wd rfl⟩
def PIm.cm{tg:Expr}{itf:Rho->Sto->R Wk}(h:PIm X W tg iter itf):Jd X W (Jl Kv X tg iter) itf:=let ⟨t,h,k⟩:=h;⟨t,h.c,k⟩
open Classical in
def Ao{C:Cx->Prop}{elt tg:Expr}{ifs:Oc}{sc:Scope}{itf:Rho->Sto->R Wk}{cf:AZ}{ef:AX}{gf:MV->Rho->Sto->R Rho}(osc:Scope)(N:Nh)(T:Nh)(idx:Db)
  (hi:Jd X W (Jl C X tg iter) itf) (hCx: ∀c s₂ H2 fp pins σ,Inv X pins σ H2 s₂->C (yI X sc T idx c s₂ H2 fp))
  (hg: ∀C s₂ H1 fp,([]++T++idx.map λi=>(N[i]?).getD Str.empty).Nodup->PGn T.length (yI X sc T idx C s₂ H1 fp) W0 tg gf)
  (hc: ∀C s₂ H1 fp,Gn (yI X sc T idx C s₂ H1 fp) W0 ifs cf) (he: ∀C s₂ H1 fp,yL (yI X sc T idx C s₂ H1 fp) W0 elt ef)
  (e1:X.env.scope=osc:=by rfl) (e2:X.N=N:=by rfl) (hB:vV osc N sc idx=true:=by decide+kernel) (hN:([]++T++idx.map λi=>(N[i]?).getD Str.empty).Nodup:=by decide+kernel)
  (hs: ∀y,foldedSetIterable iter X.env y=pure y:=by intro _;rfl):
  Jd (β:=Er) (τ:=V) X W (λt=>PE X (.ListComp elt [⟨tg,iter,ifs,0⟩] sc pos) t/\PU X (.ListComp elt [⟨tg,iter,ifs,0⟩] sc pos) t) (λρ S=>(itf ρ S).bind λk S1=>if k.ds.length<1000000 then(dB gf cf ef (KE T.length idx ρ) k.gs k.ds S1).bind λout S2=>.ok (.new out) S2 else .no):=by
 obtain⟨wi,hi,ki⟩:=hi;subst e1 e2;have big:(1000000:Nat)<sizeLine:=by rw[sizeLine_eq];decide
 have hg': ∃t,(∀C s₂ H1 fp,PG (yI X sc T idx C s₂ H1 fp) tg t)/\ ∀α ρ S σ H d v Q,Wd X.g α S H->Slots X.K α H ρ σ->Den X.K α H d v->Post X.g W0 α H (gf d ρ S) (Keeps T.length σ Q)->t v σ H Q:=by refine⟨λv σ H Q=> ∃α ρ S d,Wd X.g α S H/\Slots X.K α H ρ σ/\Den X.K α H d v/\Post X.g W0 α H (gf d ρ S) (Keeps T.length σ Q),λC s₂ H1 fp pins s σ H v u Q I r ⟨α,ρ,S,d,h1,h2,h3,h4⟩=>?_,λα ρ S σ H d v Q h1 h2 h3 h4=>⟨α,ρ,S,d,h1,h2,h3,h4⟩⟩;obtain⟨t,ht,kt⟩:=hg C s₂ H1 fp hN;exact ht pins s σ H v u Q I r (kt α ρ S σ H d v Q h1 h2 h3 h4)
 obtain⟨tg',hg1,kg⟩:=hg';refine⟨_,⟨Ac T idx hi hCx hB hg1 (λC s₂ H1 fp=>(Classical.choose_spec (hc C s₂ H1 fp)).1) (λC s₂ H1 fp=>(Classical.choose_spec (he C s₂ H1 fp)).1) hs,Af T idx hi hCx hB hg1 (λC s₂ H1 fp=>(Classical.choose_spec (hc C s₂ H1 fp)).1) (λC s₂ H1 fp=>(Classical.choose_spec (he C s₂ H1 fp)).1) hs⟩,λα ρ S σ H Q wd sl q=>ki α ρ S σ H _ wd sl (q.bind λJ k S1 α1 H1 e1 x1 w1 d1 q1=>?_)⟩;obtain⟨P,hP⟩:=d1;split at q1
 .rename_i hlen
  refine⟨λn m ys H2=>m=k.ds.length - n/\n<=k.ds.length/\ys.length<=n/\ ∃α2 S2,Ext α H α2 H2/\Wd X.g α2 S2 H2/\P α2 S2 H2/\ ∃outs,DenL X.K α2 H2 outs ys/\Post X.g W α H ((dB gf cf ef (KE T.length idx ρ) k.gs (k.ds.drop n) S2).bind λo S'=>.ok (Er.new (outs++o)) S') Q,
   ⟨_,rfl,zero_le _,Nat.le_refl _,α1,S1,x1,w1,hP.here,[],xN,by simpa using q1⟩,?_⟩
  rintro n m ys H2 ⟨rfl,hn,hy,α2,S2,x2,w2,p2,outs,l,q2⟩;obtain⟨i1,i2⟩:=hP.it n α2 S2 H2 p2 w2;refine⟨by omega,?_⟩;by_cases hlt:n<k.ds.length
  .obtain⟨go,yl⟩:=i1 hlt;refine .inr ⟨go,by omega,λv H3 y τ hτ=>?_⟩;obtain⟨x3,w3,p3,d,hd,dv⟩:=yl v H3 y;have hdrop:k.ds.drop n=d::k.ds.drop (n+1):=by rw[List.drop_eq_getElem_cons hlt];have:=gE hlt;rw[hd]at this;rw[<-Option.some.inj this]
   rw[hdrop]at q2;unfold dB at q2;have slb:=RG (sl.ext (x2.trans x3)) T.length idx τ hτ;refine kg α2 (KE T.length idx ρ) S2 _ H3 d v _ w3 slb dv ?_;rw[R.bind_assoc]at q2;refine q2.bindY (x2.trans x3) λσ4 ρ4 S4 α4 H4 e4 x4 w4 s4 q4 len4 kp4=>⟨⟨σ4.take T.length,?_,?_⟩,λC s₂ fp=>?_⟩
   .refine List.ext_getElem? λj=>?_;have hl4:σ4.length=T.length+idx.length:=by rw[len4,lA,aB,hτ]
    by_cases hj:j<T.length
    .rw[getElem?_append_left (by rw[lT];omega),List.getElem?_take_of_lt hj]
    .rw[kp4 j (by omega),getElem?_append_right (by omega),getElem?_append_right (by rw[lT];omega),hτ,lT,Nat.min_eq_left (by omega)]
   .rw[lT,len4,lA,aB,hτ];omega
   have x34:Ext α H α4 H4:=(x2.trans x3).trans x4;have p4: ∀α5 S5 H5,Ext α4 H4 α5 H5->Wd X.g α5 S5 H5->stay k.gs S5->P α5 S5 H5:=λα5 S5 H5 x5 w5 s5=>hP.stays α2 S2 H3 α5 S5 H5 p3 (x4.trans x5) w5 s5;rw[R.bind_assoc]at q4;refine(Classical.choose_spec (hc C s₂ H1 fp)).2 α4 ρ4 S4 σ4 H4 _ w4 s4 (q4.bindY x34 λb5 b5' S5 α5 H5 e5 x5 w5 d5 q5=>?_);cases d5
   cases b5 with
   |false=>
    rw[iN0 xF0]at q5 ⊢;split at q5
    .rename_i hst;exact⟨k.ds.length - (n+1),by omega,rfl,hlt,by omega,α5,S5,x34.trans x5,w5,p4 α5 S5 H5 x5 w5 hst,outs,(l.ext (x3.trans x4)).ext x5,q5⟩
    .exact q5.elim
   |true=>
    rw[iP rfl,R.bind_assoc]at q5;rw[iP rfl];refine(Classical.choose_spec (he C s₂ H1 fp)).2 α5 ρ4 S5 σ4 H5 _ w5 (s4.ext x5) (q5.bindY (x34.trans x5) λy6 r6 S6 α6 H6 e6 x6 w6 d6 q6=>?_);obtain⟨d',S',α',e7,x7,y7,w7,de⟩:=oR w6 x6 d6;rw[e7]at q6;have q6:Post X.g W α H ((if stay k.gs S' then(dB gf cf ef (KE T.length idx ρ) k.gs (k.ds.drop (n+1)) S').bind λout S4=>.ok (d'::out) S4 else .no).bind λo S'=>.ok (Er.new (outs++o)) S') Q:=q6;split at q6
    .rename_i hst;refine⟨k.ds.length - (n+1),by omega,rfl,hlt,by rw[lA,lS];omega,α',S',(x34.trans x5).trans x7,w7,p4 α' S' H6 (x5.trans x7) w7 hst,outs++[d'],((l.ext (x3.trans x4)).ext (x5.trans x7)).append (yX de xN),?_⟩;rw[R.bind_assoc]at q6;have e8:(λ(o:Og) (S':Sto)=>R.ok (Er.new ((outs++[d'])++o)) S')=(λ(b:Og) S=>(R.ok (d'::b) S).bind λo S'=>.ok (Er.new (outs++o)) S'):=by funext o S';show _=R.ok (Er.new (outs++(d'::o))) S';rw[aA];rfl
     rw[e8];exact q6
    .exact q6.elim
  .have e:n=k.ds.length:=by omega
   subst e;rw[List.drop_length]at q2;have q3:Post X.g W α H (.ok (Er.new (outs++[])) S2) Q:=q2;rw[aN]at q3;exact .inl ⟨i2 (Nat.le_refl _),λD hD=>(q3.shift x2).newl w2 hD l⟩
 .exact q1.elim
open Classical in
def rG{elt tg:Expr}{ifs:Oc}{sc:Scope}{itf:Rho->Sto->R Wk}{cf:AZ}{ef:AX}{gf:MV->Rho->Sto->R Rho}(osc:Scope)(N:Nh)(T:Nh)(idx:Db)
  (hi:PIm X W tg iter itf) (hcalm:X.calm=true)
  (hg: ∀C s₂ H1 fp,([]++T++idx.map λi=>(N[i]?).getD Str.empty).Nodup->PGn T.length (yI X sc T idx C s₂ H1 fp) W0 tg gf)
  (hc: ∀C s₂ H1 fp,Gn (yI X sc T idx C s₂ H1 fp) W0 ifs cf) (he: ∀C s₂ H1 fp,yL (yI X sc T idx C s₂ H1 fp) W0 elt ef)
  (e1:X.env.scope=osc:=by rfl) (e2:X.N=N:=by rfl) (hB:vV osc N sc idx=true:=by decide+kernel) (hN:([]++T++idx.map λi=>(N[i]?).getD Str.empty).Nodup:=by decide+kernel)
  (hs: ∀y,foldedSetIterable iter X.env y=pure y:=by intro _;rfl):
  yL X W (.ListComp elt [⟨tg,iter,ifs,0⟩] sc pos) (λρ S=>(itf ρ S).bind λk S1=>if k.ds.length<1000000 then(dB gf cf ef (KE T.length idx ρ) k.gs k.ds S1).bind λout S2=>.ok (.new out) S2 else .no):=let ⟨t,h,k⟩:=(Ao osc N T idx (PIm.cm hi) (λ_ _ _ _ _ _ _=>hcalm) hg hc he e1 e2 hB hN hs);⟨t,h.1,k⟩
open Classical in
end
mutual
def lo(n:Nat):MV->Prop
 |.loc l=>l<n
 |.tup ds=>uQ n ds
 |.scr ds=>uQ n ds
 |.obj _ _ ds=>uQ n ds
 |_=>True
def uQ(n:Nat):List MV->Prop
 |[]=>True
 |d::ds=>lo n d/\uQ n ds
end
def loO(n:Nat):MO->Prop
 |.lst ds=>uQ n ds
 |.dic kvs=> ∀p∈kvs,lo n p.1/\lo n p.2
 |.ins _ fs=> ∀p∈fs,lo n p.2
 |.rcd _ fs=> ∀p∈fs,lo n p.2
 |.fdc kvs=> ∀p∈kvs,lo n p.1/\lo n p.2
section
variable{K:Od}{α t:Ng}{H:Hp}
mutual
theorem Den.back: ∀{d:MV}{v:V},Den K (α++t) H d v->lo α.length d->Den K α H d v
 |.non,_,q,_=>by cases bU q;exact jW
 |.bl _,_,q,_=>by cases aG q;exact xX _
 |.int _,_,q,_=>by cases kY q;exact xR _
 |.str _,_,q,_=>by cases jQ q;exact cL _
 |.typ _,_,q,_=>by cases bV q;exact OD _
 |.obj c ns ds,_,q,h=>by obtain⟨a,C,dx,vs,o,rfl,e,hn,hc,hl,l⟩:=gP q;exact Aj e hn hc hl (DenL.back l (by unfold lo at h;exact h))
 |.loc l,_,q,h=>by
  obtain⟨a,rfl,e⟩:=jX q;have hl:l<α.length:=by unfold lo at h;exact h
  rw[getElem?_append_left hl]at e;exact aF e
 |.tup ds,_,q,h=>by obtain⟨a,vs,rfl,s,l⟩:=kZ q;exact cN s (DenL.back l (by unfold lo at h;exact h))
 |.scr ds,_,q,h=>by obtain⟨a,vs,rfl,s,l⟩:=gQ q;exact OE s (DenL.back l (by unfold lo at h;exact h))
theorem DenL.back: ∀{ds:Og}{vs:List V},DenL K (α++t) H ds vs->uQ α.length ds->DenL K α H ds vs
 |[],_,q,_=>by rw[q.isnil];exact xN
 |d::ds,_,q,h=>by obtain⟨v,r,rfl,a,l⟩:=q.uncons;unfold uQ at h;exact yX (Den.back a h.1) (DenL.back l h.2)
end
mutual
theorem Den.lo: ∀{d:MV}{v:V},Den K α H d v->lo α.length d
 |.non,_,q=>by unfold M.lo;trivial
 |.bl _,_,q=>by unfold M.lo;trivial
 |.int _,_,q=>by unfold M.lo;trivial
 |.str _,_,q=>by unfold M.lo;trivial
 |.typ _,_,q=>by unfold M.lo;trivial
 |.obj c ns ds,_,q=>by obtain⟨a,C,dx,vs,o,rfl,e,hn,hc,hl,l⟩:=gP q;unfold M.lo;exact DenL.lo l
 |.loc l,_,q=>by obtain⟨a,rfl,e⟩:=jX q;unfold M.lo;exact(gS.mp e).1
 |.tup ds,_,q=>by obtain⟨a,vs,rfl,s,l⟩:=kZ q;unfold M.lo;exact DenL.lo l
 |.scr ds,_,q=>by obtain⟨a,vs,rfl,s,l⟩:=gQ q;unfold M.lo;exact DenL.lo l
theorem DenL.lo: ∀{ds:Og}{vs:List V},DenL K α H ds vs->uQ α.length ds
 |[],_,q=>by unfold uQ;trivial
 |d::ds,_,q=>by obtain⟨v,r,rfl,a,l⟩:=q.uncons;unfold uQ;exact⟨Den.lo a,DenL.lo l⟩
end
theorem DenK.back: ∀{fs gs},DenK K (α++t) H fs gs->(∀p∈fs,M.lo α.length p.1/\M.lo α.length p.2)->DenK K α H fs gs
 |_,_,.nil,_=>.nil
 |_,_,.cons k a l,h=>.cons k (a.back (h _ mF0).2) (DenK.back l λp hp=>h p (mO _ hp))
def KeyD.lo{n:Nat}{k:MV}{k':Key}(h:KeyD k k'):M.lo n k:=by
 unfold KeyD at h;split at h
 .unfold M.lo;trivial
 .unfold M.lo;trivial
 .exact h.elim
theorem DenK.lo: ∀{fs gs},DenK K α H fs gs-> ∀p∈fs,M.lo α.length p.1/\M.lo α.length p.2
 |_,_,.nil=>λp h=>by simp at h
 |_,_,.cons k a l=>λp h=>(mC.mp h).elim (λe=>by subst e;exact⟨k.lo,a.lo⟩) (DenK.lo l p)
theorem DenN.back: ∀{fs xs},DenN K (α++t) H fs xs->(∀p∈fs,M.lo α.length p.1/\M.lo α.length p.2)->DenN K α H fs xs
 |_,_,.nil,_=>.nil
 |_,_,.cons k e a d r l,h=>.cons k e (a.back (h _ mF0).1) (d.back (h _ mF0).2) r (DenN.back l λp hp=>h p (mO _ hp))
theorem DenN.lo: ∀{fs xs},DenN K α H fs xs-> ∀p∈fs,M.lo α.length p.1/\M.lo α.length p.2
 |_,_,.nil=>λp h=>by simp at h
 |_,_,.cons k e a d r l=>λp h=>(mC.mp h).elim (λz=>by subst z;exact⟨a.lo,d.lo⟩) (DenN.lo l p)
theorem DenF.back: ∀{fs gs},DenF K (α++t) H fs gs->(∀p∈fs,M.lo α.length p.2)->DenF K α H fs gs
 |_,_,.nil,_=>.nil
 |_,_,.cons a l,h=>.cons (a.back (h _ mF0)) (DenF.back l λp hp=>h p (mO _ hp))
theorem DenF.lo: ∀{fs gs},DenF K α H fs gs-> ∀p∈fs,M.lo α.length p.2
 |_,_,.nil=>λp h=>by simp at h
 |_,_,.cons a l=>λp h=>(mC.mp h).elim (λe=>by subst e;exact a.lo) (DenF.lo l p)
def ObD.back{g:Gm}{a:Addr}{o:MO}(q:ObD g (α++t) H a o)(h:loO α.length o):ObD g α H a o:=by
 cases o with
 |lst ds=>obtain⟨vs,h1,l⟩:=q;exact⟨vs,h1,l.back h⟩
 |dic ds=>
  rcases q with⟨vs,h1,l⟩|⟨vs,h1,l⟩
  .exact .inl ⟨vs,h1,l.back h⟩
  .exact .inr ⟨vs,h1,l.back h⟩
 |ins c fs=>obtain⟨C,gs,m,l,r⟩:=q;exact⟨C,gs,m,l.back h,r⟩
 |rcd c fs=>obtain⟨C,dx,gs,m,h1,l⟩:=q;exact⟨C,dx,gs,m,h1,l.back h⟩
 |fdc kvs=>obtain⟨oe,xs,h1,l⟩:=q;exact⟨oe,xs,h1,l.back h⟩
def ObD.lo{g:Gm}{a:Addr}{o:MO}(q:ObD g α H a o):loO α.length o:=by
 cases o with
 |lst ds=>obtain⟨vs,h1,l⟩:=q;exact l.lo
 |dic ds=>
  rcases q with⟨vs,h1,l⟩|⟨vs,h1,l⟩
  .exact l.lo
  .exact l.lo
 |ins c fs=>obtain⟨C,gs,m,l,r⟩:=q;exact l.lo
 |rcd c fs=>obtain⟨C,dx,gs,m,h1,l⟩:=q;exact l.lo
 |fdc kvs=>obtain⟨oe,xs,h1,l⟩:=q;exact l.lo
end
def OK(S S2:Sto):Prop:=S.length<=S2.length/\ ∀l,l<S.length->S2[l]? =S[l]? \/ ∃o,S2[l]? =some o/\loO S.length o
open Classical in
def dC(S:Sto)(r:Er)(S2:Sto):R Er:=
 if OK S S2 then match r with
  |.val (.loc l)=>if l<S.length then .ok r (S2.take S.length)else match S2[l]? with
   |some (.lst ds)=>if uQ S.length ds then .ok (.new ds) (S2.take S.length)else .ok r S2
   |_=>.ok r S2
  |.val d=>if lo S.length d then .ok r (S2.take S.length)else .ok r S2
  |.new ds=>if uQ S.length ds then .ok r (S2.take S.length)else .ok r S2
 else .ok r S2
theorem FO{g:Gm}{α α1 α2 α3:Ng}{H H1 H3:Hp}{S1 S3:Sto}{r:Er}{v:V}(x1:Ext α H α1 H1)(w1:Wd g α1 S1 H1)(h12: ∃t,α2=α1++t)(x2:Ext α H α2 H1)(x3:Ext α2 H1 α3 H3)(w3:Wd g α3 S3 H3)(d:DenE g.K H1 α3 H3 r v):
  ∃r' S' α',dC S1 r S3=.ok r' S'/\Ext α H α' H3/\Wd g α' S' H3/\DenE g.K H α' H3 r' v:=by
 have x23:=x2.trans x3;have dfull:=d.back λb h=>x1.free h;unfold dC;by_cases hc:OK S1 S3
 .rw[iP hc];obtain⟨t,ht⟩: ∃t,α3=α1++t:=by obtain⟨t,e⟩:=h12;obtain⟨u,e'⟩:=x3.pre;exact⟨_,by rw[e',e,aA]⟩
  have hn:=w1.len;have xc:Ext α H α1 H3:=⟨⟨x1.pre,x23.tup,x23.frz⟩,x1.new,x23.keep,x23.has⟩
  have wc:Wd g α1 (S3.take S1.length) H3:=by
   refine⟨by rw[lT,hn,Nat.min_eq_left hc.1],w1.nd,λl a o h1 h2=>?_⟩;have hl:l<S1.length:=by rw[<-hn];exact(gS.mp h1).1
   rw[List.getElem?_take_of_lt hl]at h2;have h1':α3[l]? =some a:=by rw[ht,getElem?_append_left (by rw[hn];exact hl)];exact h1
   have q:=w3.obj l a o h1' h2;rw[ht]at q;refine q.back ?_;rcases hc.2 l hl with e|⟨o',e,lo'⟩
   .rw[e]at h2;exact(w1.obj l a o h1 h2).lo
   .rw[h2]at e;cases e;rw[hn];exact lo'
  have dlo: ∀d,lo S1.length d->Den g.K α3 H3 d v->DenE g.K H α1 H3 _ v:=λd hd q=>.val ((ht▸q:Den g.K _ H3 d v).back (by rw[hn];exact hd))
  cases r with
  |new ds=>
   dsimp only;split
   .rename_i hl;obtain⟨⟨b,vs,rfl,h1,h2,h3⟩,h4⟩:=dfull;exact⟨_,_,α1,rfl,xc,wc,⟨b,vs,rfl,h1,λz=>h2 (by rw[ht];exact mem_append_left _ z),(ht▸h3:DenL g.K _ H3 ds vs).back (by rw[hn];exact hl)⟩,h4⟩
   .exact⟨_,_,α3,rfl,x23,w3,dfull⟩
  |val mv=>
   have dd:Den g.K α3 H3 mv v:=dfull.1
   cases mv with
   |loc l=>
    dsimp only;split
    .rename_i hl;exact⟨_,_,α1,rfl,xc,wc,dlo _ (by unfold lo;exact hl) dd⟩
    .rename_i hl;obtain⟨a,rfl,ha⟩:=jX dd;split
     .rename_i ds hS;split
      .rename_i hlo;obtain⟨vs,h1,h2⟩:=w3.obj l a _ ha hS
       have hna:a∉α1:=λz=>by
        obtain⟨m,hm⟩:=List.getElem?_of_mem z;have hml:m<α1.length:=(gS.mp hm).1;have hm':α3[m]? =some a:=by rw[ht,getElem?_append_left hml];exact hm
        obtain⟨u1,e1⟩:=gS.mp hm';obtain⟨u2,e2⟩:=gS.mp ha;have:=(getElem_inj w3.nd).mp (e1.trans e2.symm)
        lia
       refine⟨_,_,α1,rfl,xc,wc,⟨a,vs,rfl,h1,hna,(ht▸h2:DenL g.K _ H3 ds vs).back (by rw[hn];exact hlo)⟩,λb e=>?_⟩;cases e;rcases x23.new a (mem_of_getElem? ha)with z|z
       .obtain⟨u,eu⟩:=x1.pre;exact absurd (by rw[eu];exact mem_append_left _ z) hna
       .exact z
      .exact⟨_,_,α3,rfl,x23,w3,dfull⟩
     .exact⟨_,_,α3,rfl,x23,w3,dfull⟩
   |non=>dsimp only;split;(· rename_i hl;exact⟨_,_,α1,rfl,xc,wc,dlo _ hl dd⟩);(· exact⟨_,_,α3,rfl,x23,w3,dfull⟩)
   |bl b=>dsimp only;split;(· rename_i hl;exact⟨_,_,α1,rfl,xc,wc,dlo _ hl dd⟩);(· exact⟨_,_,α3,rfl,x23,w3,dfull⟩)
   |int b=>dsimp only;split;(· rename_i hl;exact⟨_,_,α1,rfl,xc,wc,dlo _ hl dd⟩);(· exact⟨_,_,α3,rfl,x23,w3,dfull⟩)
   |str b=>dsimp only;split;(· rename_i hl;exact⟨_,_,α1,rfl,xc,wc,dlo _ hl dd⟩);(· exact⟨_,_,α3,rfl,x23,w3,dfull⟩)
   |typ b=>dsimp only;split;(· rename_i hl;exact⟨_,_,α1,rfl,xc,wc,dlo _ hl dd⟩);(· exact⟨_,_,α3,rfl,x23,w3,dfull⟩)
   |obj b b' b''=>dsimp only;split;(· rename_i hl;exact⟨_,_,α1,rfl,xc,wc,dlo _ hl dd⟩);(· exact⟨_,_,α3,rfl,x23,w3,dfull⟩)
   |tup b=>dsimp only;split;(· rename_i hl;exact⟨_,_,α1,rfl,xc,wc,dlo _ hl dd⟩);(· exact⟨_,_,α3,rfl,x23,w3,dfull⟩)
   |scr b=>dsimp only;split;(· rename_i hl;exact⟨_,_,α1,rfl,xc,wc,dlo _ hl dd⟩);(· exact⟨_,_,α3,rfl,x23,w3,dfull⟩)
 .rw[iN0 hc];exact⟨_,_,α3,rfl,x23,w3,dfull⟩
def IL(g:Gm)(n:Nat)(F:List MV->Sto->R Er):Sp:=λvs H Q _=> ∃α S ds,Wd g α S H/\DenL g.K α H ds vs/\ds.length=n/\Post g W0 α H (F ds S) Q
def zR(n:Nat)(F:List MV->Sto->R Er)(rs:List Er)(S:Sto):R Er:=if rs.length=n then(noX (F (zM rs S).1 (zM rs S).2)).bind λr S2=>dC S r S2 else .no
section
variable{X:Cx}{W:XW}{e:Expr}{es:Oc}{af:Rho->Sto->R (List Er)}{pos:Pos}
def eU{n:Nat}{F:List MV->Sto->R Er}{rs:List Er}{vs:List V}{α α1:Ng}{H H1:Hp}{S1:Sto}{Q:VK}(x1:Ext α H α1 H1)(w1:Wd X.g α1 S1 H1)(d1:ArgsE X.K H α1 H1 rs vs)(q:Post X.g W α H (zR n F rs S1) Q):
  IL X.g n F vs H1 Q E0:=by
 unfold zR at q;split at q
 .rename_i hl;obtain⟨α2,x2,y2,w2,l2⟩:=bL w1 x1 d1;refine⟨α2,_,_,w2,l2,by rw[cV];exact hl,?_⟩
  cases z:F (zM rs S1).1 (zM rs S1).2 with
  |ok r S3=>
   rw[z]at q;intro v α3 H3 x3 w3 d3;obtain⟨r',S',α',e',x',w',d'⟩:=FO x1 w1 y2.pre x2 x3 w3 d3;have q:Post X.g W α H (dC S1 r S3) Q:=q;rw[e']at q;exact q v α' H3 x' w' d'
  |exc c fs S3=>rw[z]at q;exact q.elim
  |no=>rw[z]at q;exact q.elim
 .exact q.elim
def Ap{k n:Nat}{fa:Addr}{fd:FuncData}{ps:Nh}{F:List MV->Sto->R Er}{x:Str}{p:Pos}(G:FnOk X.prog X.w X.K X.mg X.base pF k fa fd ps (IL X.g n F))(hr:Room k X.A)(hg:Gl X x)(hm:X.mg x=some (.ref fa))
  (hk:PySem.W.keepIn X.K (.ref fa)=true) (hb:Binds X.K fd ps []) (ha:CO X W (e::es) af) (hdb:(x==("__debug__":Str))=false:=by decide)
  (he:starEach (e::es) X.env=(false,eval e X.env)::starEach es X.env:=by rfl) (hpl:(backTo pos (starEach es X.env)).any (·.1)=false:=by rfl):
  yL X W (.Call (.Name x p) (e::es) [] pos) (λρ S=>(af ρ S).bind λrs S1=>zR n F rs S1):=by
 obtain⟨t,ha,kk⟩:=ha;refine⟨_,NV G hr hg hm hk hb .nil HU ha hdb he hpl,λα ρ S σ H Q wd sl q=>kk α ρ S σ H _ wd sl (q.bind λvs rs S1 α1 H1 e1 x1 w1 d1 q1=>?_)⟩;rw[aN];exact eU x1 w1 d1 q1
def VG{k:Nat}{fa:Addr}{fd:FuncData}{ps:Nh}{F:List MV->Sto->R Er}{x:Str}{p:Pos}(G:FnOk X.prog X.w X.K X.mg X.base pF k fa fd ps (IL X.g 0 F))(hr:Room k X.A)(hg:Gl X x)(hm:X.mg x=some (.ref fa))
  (hk:PySem.W.keepIn X.K (.ref fa)=true) (hb:Binds X.K fd ps []) (hdb:(x==("__debug__":Str))=false:=by decide):
  yL X W (.Call (.Name x p) [] [] pos) (λρ S=>zR 0 F [] S):=
 ⟨_,UD G hr hg hm hk hb .nil HU hdb,λα ρ S σ H Q wd sl q=>eU (Ext.refl α H) wd .nil q⟩
end
def zT(N:Nh)(ds:Og):Rho:=ds.map some++List.replicate (N.length - ds.length) none
def yA:R Fl->R Er
 |.ok (.next _) S=>.ok (.val .non) S
 |.ok (.ret r) S=>.ok r S
 |.exc c fs S=>.exc c fs S
 |_=>.no
def aI{K:Od}{α:Ng}{N:Nh}{H:Hp}{ds:Og}{vs:List V}(l:DenL K α H ds vs):Slots K α H (zT N ds) (start N vs):=by
 have hlen:=l.length;refine⟨?_,λi d e=>?_⟩
 .unfold start zT;rw[lA,lA,lM0,lM0,List.length_replicate,List.length_replicate,hlen]
 .unfold zT at e;by_cases hi:i<ds.length
  .rw[getElem?_append_left (by simpa using hi),getElem?_map]at e
   cases z:ds[i]? with
   |none=>rw[z]at e;cases e
   |some d'=>
    rw[z]at e;obtain⟨v,h1,h2⟩:=l.at z;have e':=Option.some.inj (Option.some.inj e);subst e';refine⟨v,?_,h2⟩;unfold start;rw[getElem?_append_left (by rw[lM0,hlen];exact hi),getElem?_map,h1];rfl
  .rw[getElem?_append_right (by simpa using hi),List.getElem?_replicate]at e;split at e<;>cases e
section
variable{P:Program}{w:World}{K:Od}{mg:Ni}{base:Heap}
def CU{x qual:Str}{st:Stmt}{f:Addr}{fd:FuncData}{N ps:Nh}{k:Nat}(Fb:AY)(F:Fun K x qual st f fd)(Sc:FnScope N ps (zE st))
  (hbody: ∀(cdv:Value)(A:Around)(outer:List Env)(s:Shared)(H:Hp)(E:XK),Room k (A.deeper (envOfC qual (zE st) s.heap.objs.size f cdv))->
   rC (uN pF P w K mg base N qual (zE st) f cdv A outer s H E).nox W0 (yN st) Fb):
  FnOk P w K mg base pF (k+1) f fd ps (IL ⟨K,mg,P,w⟩ ps.length λds S=>yA (Fb (zT N ds) S)):=by
 refine F.ok Sc (λvs H Q E h=>?_) (λcdv A outer s H vs Q E hr h=>?_)
 .obtain⟨α,S,ds,_,l,hl,_⟩:=h;rw[l.length,hl]
 .obtain⟨α,S,ds,wd,l,hl,q⟩:=h;obtain⟨t,ht,kk⟩:=hbody cdv A outer s H E hr;refine⟨t,ht,kk α _ S _ H _ wd (aI l) ?_⟩;dsimp only at q
  cases z:Fb _ S with
  |ok fl S'=>
   rw[z]at q
   cases fl with
   |next ρ=>exact λσ α' H' x' w' s'=>q .non α' H' x' w' (DenE.val jW)
   |ret r=>exact λv α' H' x' w' d'=>q v α' H' x' w' d'
   |brk ρ=>exact q.elim
   |cont ρ=>exact q.elim
  |exc c fs S'=>rw[z]at q;exact λα' H' x' w'=>q α' H' x' w'
  |no=>rw[z]at q;exact q
end
inductive Vw where
 |fl (v:V)|tp (ds:Og)|ls (ds:Og)
def bW(S:Sto):Er->Option (List MV)
 |.new ds=>some ds
 |.val (.scr ds)=>some ds
 |.val (.loc l)=>match S[l]? with
  |some (.lst ds)=>some ds
  |_=>none
 |_=>none
def FP(S:Sto):Er->Option Vw
 |.val .non=>some (.fl .non)
 |.val (.bl b)=>some (.fl (.bl b))
 |.val (.int i)=>some (.fl (.int i))
 |.val (.str x)=>some (.fl (.str (bH x)))
 |.val (.tup ds)=>some (.tp ds)
 |.val (.typ _)=>none
 |.val (.obj _ _ _)=>none
 |r=>(bW S r).map .ls
def sP(e:MV->MV->Option Bool):List MV->List MV->Option (List Bool)
 |d::ds,f::fs=>(e d f).bind λk=>(sP e ds fs).map (k::·)
 |_,_=>some []
def Gp(e:MV->MV->Option Bool):Vw->Vw->Option Bool
 |.fl x,.fl y=>some (ZY x y)
 |.tp ds,.tp es=>(sP e ds es).map λbs=>bs.all id&&ds.length==es.length
 |.ls ds,.ls es=>if ds.length=es.length then(sP e ds es).map λbs=>bs.all id else some false
 |_,_=>some false
theorem LE(e:MV->MV->Option Bool)(ds es:Og):Gp e (.tp ds) (.tp es)=(sP e ds es).map λbs=>bs.all id&&ds.length==es.length:=rfl
theorem LH(e:MV->MV->Option Bool)(ds es:Og):Gp e (.ls ds) (.ls es)=if ds.length=es.length then(sP e ds es).map λbs=>bs.all id else some false:=rfl
def eqv(S:Sto):Nat->MV->MV->Option Bool
 |0,_,_=>none
 |n+1,a,b=>(FP S (.val a)).bind λx=>(FP S (.val b)).bind λy=>Gp (eqv S n) x y
def uR(S:Sto)(n:Nat)(a b:Er):Option Bool:=(FP S a).bind λx=>(FP S b).bind λy=>Gp (eqv S n) x y
section
variable{X:Cx}{α:Ng}{S:Sto}{H:Hp}
def uH{K:Od}{g:Gm}(hK:g.K=K)(wd:Wd g α S H){r:Er}{ds:Og}{x:V}(e:bW S r=some ds)(d:DenX K α H r x): ∃a vs,x=.ref a/\SqL K H a vs/\DenL K α H ds vs:=by
 subst hK;unfold bW at e;split at e
 .cases e;obtain⟨b,vs,rfl,h,_,l⟩:=d;exact⟨b,vs,rfl,.of h,l⟩
 .cases e;obtain⟨a,vs,rfl,s,l⟩:=AC d;exact⟨a,vs,rfl,s.l,l⟩
 .rename_i n;obtain⟨a,rfl,h⟩:=dA d;split at e
  .rename_i es hS;cases e;obtain⟨vs,h1,l⟩:=wd.obj n a _ h hS;exact⟨a,vs,rfl,.of h1,l⟩
  .cases e
 .cases e
def iL{r:Er}{x y:V}(e:FP S r=some (.fl y))(d:DenX X.K α H r x):x=y/\eK y=true:=by
 unfold FP at e;split at e
 .cases e;exact⟨lL d,rfl⟩
 .cases e;exact⟨pH d,rfl⟩
 .cases e;exact⟨yY d,rfl⟩
 .cases e;exact⟨jR d,rfl⟩
 .cases e
 .cases e
 .cases e
 .cases z:bW S r<;>rw[z]at e<;>cases e
def iO{r:Er}{x:V}{ds:Og}(e:FP S r=some (.tp ds))(d:DenX X.K α H r x): ∃a vs,x=.ref a/\SqT X.K H a vs/\DenL X.K α H ds vs:=by
 unfold FP at e;split at e
 .cases e
 .cases e
 .cases e
 .cases e
 .cases e;exact gR d
 .cases e
 .cases e
 .cases z:bW S r<;>rw[z]at e<;>cases e
def iQ(wd:Wd X.g α S H){r:Er}{x:V}{ds:Og}(e:FP S r=some (.ls ds))(d:DenX X.K α H r x): ∃a vs,x=.ref a/\SqL X.K H a vs/\DenL X.K α H ds vs:=by
 unfold FP at e;split at e
 .cases e
 .cases e
 .cases e
 .cases e
 .cases e
 .cases e
 .cases e
 .cases z:bW S r with
  |none=>rw[z]at e;cases e
  |some es=>rw[z]at e;cases e;exact uH rfl wd z d
theorem oS{e:MV->MV->Option Bool}: ∀{ds es:Og}{bs:Oa},sP e ds es=some bs->bs.length=min ds.length es.length
 |[],_,_,h=>by simp[sP]at h;subst h;simp
 |_::_,[],_,h=>by simp[sP]at h;subst h;simp
 |d::ds,f::fs,bs,h=>by
  unfold sP at h
  cases z:e d f with
  |none=>rw[z]at h;cases h
  |some k=>
   rw[z]at h
   cases z2:sP e ds fs with
   |none=>simp[z2]at h
   |some cs=>
    simp[z2]at h;subst h;simp[oS z2]
theorem FQ{e:MV->MV->Option Bool}: ∀{ds es:Og}{bs:Oa}{j:Nat}{d f:MV},sP e ds es=some bs->ds[j]? =some d->es[j]? =some f->e d f=some (bs.getD j true)
 |[],_,_,_,_,_,h,h1,_=>by simp at h1
 |_::_,[],_,_,_,_,h,_,h2=>by simp at h2
 |d::ds,f::fs,bs,j,d',f',h,h1,h2=>by
  unfold sP at h
  cases z:e d f with
  |none=>rw[z]at h;cases h
  |some k=>
   rw[z]at h
   cases z2:sP e ds fs with
   |none=>simp[z2]at h
   |some cs=>
    simp[z2]at h;subst h
    cases j with
    |zero=>simp at h1 h2;subst h1 h2;simpa using z
    |succ j=>simpa using FQ z2 (by simpa using h1) (by simpa using h2)
def range_all{bs:Oa}{n:Nat}(h:bs.length=n):(List.range n).all (λj=>bs.getD j true)=bs.all id:=by
 subst h;rw[Bool.eq_iff_iff,List.all_eq_true,List.all_eq_true];constructor
 .intro h x hx;obtain⟨i,hi,rfl⟩:=List.getElem_of_mem hx;have:=h i (mem_range.mpr hi);simpa [getD_eq_getElem?_getD,hi]using this
 .intro h i hi;have hi':=mem_range.mp hi;have:=h bs[i] (getElem_mem hi');simpa [getD_eq_getElem?_getD,hi']using this
variable{pins:Nk}{σ:St}{s:Shared}
def rH(I:Inv X pins σ H s){a:Addr}{xs ys:List V}(h:SqL X.K H a xs)(h':SqT X.K H a ys):False:=by obtain⟨_,_,pl,_⟩:=I.list h;obtain⟨_,_,pt,_⟩:=I.tuple h';obtain⟨o,n,e,c,_,_⟩:=pl;obtain⟨o',e',c',_⟩:=pt;rw[e]at e';cases e';rw[c]at c';exact absurd c' (by simp)
theorem VH(I:Inv X pins σ H s)(wd:Wd X.g α S H){e:MV->MV->Option Bool}(he: ∀d f v k,Den X.K α H d v->Den X.K α H f v->e d f=some k->k=true){a b:Er}{x:V}{p q:Vw}{k:Bool}
  (ha:FP S a=some p) (hb:FP S b=some q) (da:DenX X.K α H a x) (db:DenX X.K α H b x) (h:Gp e p q=some k):k=true:=by
 have hp: ∀{ds es:Og}{vs:List V}{bs:Oa},DenL X.K α H ds vs->DenL X.K α H es vs->sP e ds es=some bs->bs.all id=true:=by
  intro ds es vs bs l1 l2 z;rw[List.all_eq_true];intro k hk;obtain⟨i,hi,rfl⟩:=List.getElem_of_mem hk;have hl:=oS z;have h1:i<ds.length:=by lia
  have h2:i<es.length:=by lia
  obtain⟨v,g1,g2⟩:=l1.at (gE h1);obtain⟨v',g3,g4⟩:=l2.at (gE h2);rw[g1]at g3;cases g3;have:=he _ _ _ _ g2 g4 (FQ z (gE h1) (gE h2));simpa [getD_eq_getElem?_getD,hi]using this
 cases p with
 |fl y=>
  obtain⟨rfl,f1⟩:=iL ha da
  cases q with
  |fl z=>obtain⟨rfl,f2⟩:=iL hb db;cases h;exact UU f1
  |tp ds=>obtain⟨a,vs,rfl,_⟩:=iO hb db;exact absurd f1 xF0
  |ls ds=>obtain⟨a,vs,rfl,_⟩:=iQ wd hb db;exact absurd f1 xF0
 |tp ds=>
  obtain⟨a1,vs,rfl,s1,l1⟩:=iO ha da
  cases q with
  |fl z=>obtain⟨rfl,f2⟩:=iL hb db;exact absurd f2 xF0
  |tp es=>
   obtain⟨a2,us,e2,s2,l2⟩:=iO hb db;cases e2;cases I.tuple_inj s1 s2;rw[LE]at h
   cases z:sP e ds es with
   |none=>rw[z]at h;cases h
   |some bs=>
    rw[z]at h;cases h;show(bs.all id&&ds.length==es.length)=true;rw[hp l1 l2 z, <-l1.length, <-l2.length];simp
  |ls es=>obtain⟨a2,us,e2,s2,l2⟩:=iQ wd hb db;cases e2;exact(rH I s2 s1).elim
 |ls ds=>
  obtain⟨a1,vs,rfl,s1,l1⟩:=iQ wd ha da
  cases q with
  |fl z=>obtain⟨rfl,f2⟩:=iL hb db;exact absurd f2 xF0
  |tp es=>obtain⟨a2,us,e2,s2,l2⟩:=iO hb db;cases e2;exact(rH I s1 s2).elim
  |ls es=>
   obtain⟨a2,us,e2,s2,l2⟩:=iQ wd hb db;cases e2;cases I.list_inj s1 s2;rw[LH]at h;rw[iP (by rw[<-l1.length, <-l2.length])]at h
   cases z:sP e ds es with
   |none=>rw[z]at h;cases h
   |some bs=>rw[z]at h;cases h;exact hp l1 l2 z
theorem AN(I:Inv X pins σ H s)(wd:Wd X.g α S H): ∀(n:Nat)(d f:MV)(v:V)(k:Bool),Den X.K α H d v->Den X.K α H f v->eqv S n d f=some k->k=true
 |0,_,_,_,_,_,_,h=>by cases h
 |n+1,d,f,v,k,h1,h2,h=>by
  unfold eqv at h
  cases za:FP S _ with
  |none=>rw[za]at h;cases h
  |some p=>
   cases zb:FP S _ with
   |none=>rw[za,zb]at h;cases h
   |some q=>
    rw[za,zb]at h;exact VH I wd (AN I wd n) za zb h1 h2 h
def rK{e:MV->MV->Option Bool}{A:Around}(he: ∀d f x y u v k,Den X.K α H d x->Den X.K α H f y->RelV x u->RelV y v->e d f=some k->SeqAt.EqAt A s u v k)
  {ds es:Og} {vs us:List V} {its its2:Nc} {bs:Oa} (l1:DenL X.K α H ds vs) (l2:DenL X.K α H es us) (r1:Vals vs its) (r2:Vals us its2) (z:sP e ds es=some bs):
  ∀j (h1:j<its.toArray.size) (h2:j<its2.toArray.size),SeqAt.EqAt A s its.toArray[j] its2.toArray[j] (bs.getD j true):=by
 intro j h1 h2;have g1:j<vs.length:=by rw[r1.length];simpa using h1
 have g2:j<us.length:=by rw[r2.length];simpa using h2
 obtain⟨d,d1,d2⟩:=l1.get (gE g1);obtain⟨f,f1,f2⟩:=l2.get (gE g2);obtain⟨u,u1,u2⟩:=r1.get (gE g1);obtain⟨v,v1,v2⟩:=r2.get (gE g2);have e1:its.toArray[j]=u:=by have:its[j]? =some (its[j]'(by simpa using h1)):=gE _;rw[u1]at this;simpa using(Option.some.inj this).symm
 have e2:its2.toArray[j]=v:=by have:its2[j]? =some (its2[j]'(by simpa using h2)):=gE _;rw[v1]at this;simpa using(Option.some.inj this).symm
 rw[e1,e2];exact he d f _ _ u v _ d2 f2 u2 v2 (FQ z d1 f1)
theorem FR(I:Inv X pins σ H s)(wd:Wd X.g α S H): ∀(n:Nat)(A:Around)(d f:MV)(x y:V)(u v:Value)(k:Bool),A.units+n<cLine->Den X.K α H d x->Den X.K α H f y->RelV x u->RelV y v->eqv S n d f=some k->SeqAt.EqAt A s u v k
 |0,_,_,_,_,_,_,_,_,_,_,_,_,_,h=>by cases h
 |n+1,A,d,f,x,y,u,v,k,hu,h1,h2,rx,ry,h=>by
  have hu0:A.units<cLine:=by lia
  have hsame:=h;unfold eqv at h
  cases za:FP S (.val d)with
  |none=>rw[za]at h;cases h
  |some p=>
   cases zb:FP S (.val f)with
   |none=>rw[za,zb]at h;cases h
   |some q=>
    rw[za,zb]at h;have h:Gp _ p q=some k:=h;have he:=λd f x y u v k a b c d' e=>FR I wd n A.in1 d f x y u v k (show A.units+1+n<cLine by lia) a b c d' e
    cases p with
    |fl x'=>
     obtain⟨rfl,fx⟩:=iL za h1
     cases q with
     |fl y'=>obtain⟨rfl,fy⟩:=iL zb h2;cases h;exact Fx rx ry fx fy
     |tp es=>
      obtain⟨b,us,rfl,s2,l2⟩:=iO zb h2;cases ry;cases h;obtain⟨its,_,pt,_⟩:=I.tuple s2;exact(uE rx fx pt hu0).2.1
     |ls es=>
      obtain⟨b,us,rfl,s2,l2⟩:=iQ wd zb h2;cases ry;cases h;obtain⟨its,_,pl,_⟩:=I.list s2;exact(DU rx fx pl.isList hu0).2.1
    |tp ds=>
     obtain⟨a,vs,rfl,s1,l1⟩:=iO za h1;cases rx;obtain⟨its,r1,pt,_⟩:=I.tuple s1
     cases q with
     |fl y'=>obtain⟨rfl,fy⟩:=iL zb h2;cases h;exact(uE ry fy pt hu0).1
     |tp es=>
      obtain⟨b,us,rfl,s2,l2⟩:=iO zb h2;cases ry;by_cases hab:a=b
      .subst hab;rw[AN I wd (n+1) d f _ k h1 h2 hsame];exact SeqAt.EqAt.same _
      .obtain⟨its2,r2,pt2,_⟩:=I.tuple s2;rw[LE]at h
       cases z:sP (eqv S n) ds es with
       |none=>rw[z]at h;cases h
       |some bs=>
        rw[z]at h;cases h;have:=SeqAt.RcAt.tuples pt pt2 hu0 (rK he l1 l2 r1 r2 z);have hl:=oS z;rw[range_all (by rw[hl];simp[<-r1.length, <-r2.length,l1.length,l2.length])]at this;have e3:(its.toArray.size==its2.toArray.size)=(ds.length==es.length):=by simp[<-r1.length, <-r2.length,l1.length,l2.length]
        rw[e3]at this;exact SeqAt.EqAt.of_refs hab this
     |ls es=>
      obtain⟨b,us,rfl,s2,l2⟩:=iQ wd zb h2;cases ry;cases h;obtain⟨its2,_,pl,_⟩:=I.list s2;exact SeqAt.EqAt.tuple_list pt pl.isList hu0
    |ls ds=>
     obtain⟨a,vs,rfl,s1,l1⟩:=iQ wd za h1;cases rx;obtain⟨its,r1,pl,_⟩:=I.list s1
     cases q with
     |fl y'=>obtain⟨rfl,fy⟩:=iL zb h2;cases h;exact(DU ry fy pl.isList hu0).1
     |tp es=>
      obtain⟨b,us,rfl,s2,l2⟩:=iO zb h2;cases ry;cases h;obtain⟨its2,_,pt,_⟩:=I.tuple s2;exact SeqAt.EqAt.list_tuple pl.isList pt hu0
     |ls es=>
      obtain⟨b,us,rfl,s2,l2⟩:=iQ wd zb h2;cases ry;by_cases hab:a=b
      .subst hab;rw[AN I wd (n+1) d f _ k h1 h2 hsame];exact SeqAt.EqAt.same _
      .obtain⟨its2,r2,pl2,_⟩:=I.list s2;rw[LH]at h;by_cases hl:ds.length=es.length
       .rw[iP hl]at h
        cases z:sP (eqv S n) ds es with
        |none=>rw[z]at h;cases h
        |some bs=>
         rw[z]at h;cases h;have hs:its.toArray.size=its2.toArray.size:=by simp[<-r1.length, <-r2.length,l1.length,l2.length,hl]
         have:=SeqAt.RcAt.lists pl.isList pl2.isList hs hu0 (rK he l1 l2 r1 r2 z);have hl':=oS z;rw[range_all (by rw[hl'];simp[<-r1.length,l1.length,hl])]at this;exact SeqAt.EqAt.of_refs hab this
       .rw[iN0 hl]at h;cases h;exact SeqAt.EqAt.of_refs hab (SeqAt.RcAt.lists_lengths pl.isList pl2.isList (by simpa [<-r1.length, <-r2.length,l1.length,l2.length]using hl) hu0)
theorem Dj{RC:Around->Shared->Value->Value->Bool->Prop}{tr:Bool->Bool}{A:Around}
  (hff: ∀x y u v,RelV x u->RelV y v->eK x=true->eK y=true->RC A s u v (tr (ZY x y)))
  (hfl: ∀x v l items,RelV x v->eK x=true->s.heap.IsList l items->A.units<cLine->RC A s v (.ref l) (tr false)/\RC A s (.ref l) v (tr false))
  (hft: ∀x v l items,RelV x v->eK x=true->s.heap.IsTuple l items->A.units<cLine->RC A s v (.ref l) (tr false)/\RC A s (.ref l) v (tr false))
  (hlt: ∀l b items items2,s.heap.IsList l items->s.heap.IsTuple b items2->A.units<cLine->RC A s (.ref l) (.ref b) (tr false)/\RC A s (.ref b) (.ref l) (tr false))
  (htt: ∀(l b:Addr)(items items2:Nd)(e:Nat->Bool),s.heap.IsTuple l items->s.heap.IsTuple b items2->A.units<cLine->(∀j (h1:j<items.size) (h2:j<items2.size),SeqAt.EqAt A.in1 s items[j] items2[j] (e j))->RC A s (.ref l) (.ref b) (tr ((List.range (min items.size items2.size)).all e&&items.size==items2.size)))
  (hll: ∀(l b:Addr)(items items2:Nd)(e:Nat->Bool),s.heap.IsList l items->s.heap.IsList b items2->items.size=items2.size->A.units<cLine->(∀j (h1:j<items.size) (h2:j<items2.size),SeqAt.EqAt A.in1 s items[j] items2[j] (e j))->RC A s (.ref l) (.ref b) (tr ((List.range items.size).all e)))
  (hln: ∀(l b:Addr)(items items2:Nd),s.heap.IsList l items->s.heap.IsList b items2->(items.size !=items2.size)=true->A.units<cLine->RC A s (.ref l) (.ref b) (tr false))
  (I:Inv X pins σ H s) (wd:Wd X.g α S H) (n:Nat) {a b:Er} {x y:V} {u v:Value} {k:Bool} (hu:A.units+(n+1)<cLine) (h1:DenX X.K α H a x) (h2:DenX X.K α H b y) (rx:RelV x u) (ry:RelV y v) (h:uR S n a b=some k):RC A s u v (tr k):=by
 have hu0:A.units<cLine:=by lia
 unfold uR at h
 cases za:FP S a with
 |none=>rw[za]at h;cases h
 |some p=>
  cases zb:FP S b with
  |none=>rw[za,zb]at h;cases h
  |some q=>
   rw[za,zb]at h;have h:Gp _ p q=some k:=h;have he:=λd f x y u v k a b c d' e=>FR I wd n A.in1 d f x y u v k (show A.units+1+n<cLine by lia) a b c d' e
   cases p with
   |fl x'=>
    obtain⟨rfl,fx⟩:=iL za h1
    cases q with
    |fl y'=>obtain⟨rfl,fy⟩:=iL zb h2;cases h;exact hff _ _ _ _ rx ry fx fy
    |tp es=>
     obtain⟨b,us,rfl,s2,l2⟩:=iO zb h2;cases ry;cases h;obtain⟨its,_,pt,_⟩:=I.tuple s2;exact(hft _ _ _ _ rx fx pt hu0).1
    |ls es=>
     obtain⟨b,us,rfl,s2,l2⟩:=iQ wd zb h2;cases ry;cases h;obtain⟨its,_,pl,_⟩:=I.list s2;exact(hfl _ _ _ _ rx fx pl.isList hu0).1
   |tp ds=>
    obtain⟨a,vs,rfl,s1,l1⟩:=iO za h1;cases rx;obtain⟨its,r1,pt,_⟩:=I.tuple s1
    cases q with
    |fl y'=>obtain⟨rfl,fy⟩:=iL zb h2;cases h;exact(hft _ _ _ _ ry fy pt hu0).2
    |tp es=>
     obtain⟨b,us,rfl,s2,l2⟩:=iO zb h2;cases ry;obtain⟨its2,r2,pt2,_⟩:=I.tuple s2;rw[LE]at h
     cases z:sP _ ds es with
     |none=>rw[z]at h;cases h
     |some bs=>
      rw[z]at h;cases h;have:=htt _ _ _ _ _ pt pt2 hu0 (rK he l1 l2 r1 r2 z);have hl:=oS z;rw[range_all (by rw[hl];simp[<-r1.length, <-r2.length,l1.length,l2.length])]at this;have e3:(its.toArray.size==its2.toArray.size)=(ds.length==es.length):=by simp[<-r1.length, <-r2.length,l1.length,l2.length]
      rw[e3]at this;exact this
    |ls es=>
     obtain⟨b,us,rfl,s2,l2⟩:=iQ wd zb h2;cases ry;cases h;obtain⟨its2,_,pl,_⟩:=I.list s2;exact(hlt _ _ _ _ pl.isList pt hu0).2
   |ls ds=>
    obtain⟨a,vs,rfl,s1,l1⟩:=iQ wd za h1;cases rx;obtain⟨its,r1,pl,_⟩:=I.list s1
    cases q with
    |fl y'=>obtain⟨rfl,fy⟩:=iL zb h2;cases h;exact(hfl _ _ _ _ ry fy pl.isList hu0).2
    |tp es=>
     obtain⟨b,us,rfl,s2,l2⟩:=iO zb h2;cases ry;cases h;obtain⟨its2,_,pt,_⟩:=I.tuple s2;exact(hlt _ _ _ _ pl.isList pt hu0).1
    |ls es=>
     obtain⟨b,us,rfl,s2,l2⟩:=iQ wd zb h2;cases ry;obtain⟨its2,r2,pl2,_⟩:=I.list s2;rw[LH]at h;by_cases hl:ds.length=es.length
     .rw[iP hl]at h
      cases z:sP _ ds es with
      |none=>rw[z]at h;cases h
      |some bs=>
       rw[z]at h;cases h;have hs:its.toArray.size=its2.toArray.size:=by simp[<-r1.length, <-r2.length,l1.length,l2.length,hl]
       have:=hll _ _ _ _ _ pl.isList pl2.isList hs hu0 (rK he l1 l2 r1 r2 z);have hl':=oS z;rw[range_all (by rw[hl'];simp[<-r1.length,l1.length,hl])]at this;exact this
     .rw[iN0 hl]at h;cases h;exact hln _ _ _ _ pl.isList pl2.isList (by simpa [<-r1.length, <-r2.length,l1.length,l2.length]using hl) hu0
def Gq(I:Inv X pins σ H s)(wd:Wd X.g α S H)(n:Nat){A:Around}{a b:Er}{x y:V}{u v:Value}{k:Bool}(hu:A.units+(n+1)<cLine)(h1:DenX X.K α H a x)(h2:DenX X.K α H b y)(rx:RelV x u)(ry:RelV y v)(h:uR S n a b=some k):SeqAt.RcAt A s u v k:=
 Dj (tr:=id) (λ_ _ _ _ a b c d=>(UT a b c d).1) (λ_ _ _ _ a b c d=>⟨(DU a b c d).2.2.2.1,(DU a b c d).2.2.1⟩) (λ_ _ _ _ a b c d=>⟨(uE a b c d).2.2.2.1,(uE a b c d).2.2.1⟩)
  (λ_ _ _ _ a b c=>⟨SeqAt.RcAt.list_tuple a b c,SeqAt.RcAt.tuple_list b a c⟩) (λ_ _ _ _ _ a b c d=>SeqAt.RcAt.tuples a b c d) (λ_ _ _ _ _ a b c d e=>SeqAt.RcAt.lists a b c d e) (λ_ _ _ _ a b c d=>SeqAt.RcAt.lists_lengths a b c d)
  I wd n hu h1 h2 rx ry h
def Gr(I:Inv X pins σ H s)(wd:Wd X.g α S H)(n:Nat){A:Around}{a b:Er}{x y:V}{u v:Value}{k:Bool}(hu:A.units+(n+1)<cLine)(h1:DenX X.K α H a x)(h2:DenX X.K α H b y)(rx:RelV x u)(ry:RelV y v)(h:uR S n a b=some k):SeqAt.RcNeAt A s u v (!k):=
 Dj (λ_ _ _ _ a b c d=>(UT a b c d).2) (λ_ _ _ _ a b c d=>⟨(DU a b c d).2.2.2.2.2,(DU a b c d).2.2.2.2.1⟩) (λ_ _ _ _ a b c d=>⟨(uE a b c d).2.2.2.2.2,(uE a b c d).2.2.2.2.1⟩)
  (λ_ _ _ _ a b c=>⟨SeqAt.RcNeAt.list_tuple a b c,SeqAt.RcNeAt.tuple_list b a c⟩) (λ_ _ _ _ _ a b c d=>SeqAt.RcNeAt.tuples a b c d) (λ_ _ _ _ _ a b c d e=>SeqAt.RcNeAt.lists a b c d e) (λ_ _ _ _ a b c d=>SeqAt.RcNeAt.lists_lengths a b c d)
  I wd n hu h1 h2 rx ry h
theorem OL{α β:Type}: ∀{a c:List α}{b d:List β},a.length=b.length->c.length=d.length->a.zip b=c.zip d->a=c/\b=d
 |[],[],[],[],_,_,_=>⟨rfl,rfl⟩
 |[],_::_,[],_::_,_,_,e=>by simp at e
 |_::_,[],_::_,[],_,_,e=>by simp at e
 |x::a,y::c,z::b,w::d,h1,h2,e=>by simp only[zip_cons_cons,List.cons.injEq,Prod.mk.injEq]at e;obtain⟨rfl,rfl⟩:=OL (by simpa using h1) (by simpa using h2) e.2;exact⟨by rw[e.1.1],by rw[e.1.2]⟩
mutual
theorem Den.inj(I:Inv X pins σ H s)(wd:Wd X.g α S H): ∀{d f:MV}{v:V},Den X.K α H d v->Den X.K α H f v->d=f
 |.non,f,v,h,h'=>by cases bU h;cases f<;>first |rfl|(have:=aG h';cases this;done)|(have:=kY h';cases this;done)|(have:=jQ h';cases this;done)|(have:=bV h';cases this;done)|(obtain⟨_,_,e,_⟩:=kZ h';cases e;done)|(obtain⟨_,_,e,_⟩:=gQ h';cases e;done)|(obtain⟨_,e,_⟩:=jX h';cases e;done)|(obtain⟨_,_,_,_,_,e,_⟩:=gP h';cases e;done)
 |.bl b,f,v,h,h'=>by cases aG h;cases f<;>first |(have:=aG h';cases this;rfl;done)|(have:=bU h';cases this;done)|(have:=kY h';cases this;done)|(have:=jQ h';cases this;done)|(have:=bV h';cases this;done)|(obtain⟨_,_,e,_⟩:=kZ h';cases e;done)|(obtain⟨_,_,e,_⟩:=gQ h';cases e;done)|(obtain⟨_,e,_⟩:=jX h';cases e;done)|(obtain⟨_,_,_,_,_,e,_⟩:=gP h';cases e;done)
 |.int b,f,v,h,h'=>by cases kY h;cases f<;>first |(have:=kY h';cases this;rfl;done)|(have:=bU h';cases this;done)|(have:=aG h';cases this;done)|(have:=jQ h';cases this;done)|(have:=bV h';cases this;done)|(obtain⟨_,_,e,_⟩:=kZ h';cases e;done)|(obtain⟨_,_,e,_⟩:=gQ h';cases e;done)|(obtain⟨_,e,_⟩:=jX h';cases e;done)|(obtain⟨_,_,_,_,_,e,_⟩:=gP h';cases e;done)
 |.str b,f,v,h,h'=>by cases jQ h;cases f<;>first |(have:=jQ h';rw[OA (V.str.inj this)];done)|(have:=bU h';cases this;done)|(have:=aG h';cases this;done)|(have:=kY h';cases this;done)|(have:=bV h';cases this;done)|(obtain⟨_,_,e,_⟩:=kZ h';cases e;done)|(obtain⟨_,_,e,_⟩:=gQ h';cases e;done)|(obtain⟨_,e,_⟩:=jX h';cases e;done)|(obtain⟨_,_,_,_,_,e,_⟩:=gP h';cases e;done)
 |.typ b,f,v,h,h'=>by cases bV h;cases f<;>first |(have:=bV h';cases this;rfl;done)|(have:=bU h';cases this;done)|(have:=aG h';cases this;done)|(have:=kY h';cases this;done)|(have:=jQ h';cases this;done)|(obtain⟨_,_,e,_⟩:=kZ h';cases e;done)|(obtain⟨_,_,e,_⟩:=gQ h';cases e;done)|(obtain⟨_,e,_⟩:=jX h';cases e;done)|(obtain⟨_,_,_,_,_,e,_⟩:=gP h';cases e;done)
 |.tup ds,f,v,h,h'=>by
  obtain⟨a,vs,rfl,s1,l1⟩:=kZ h
  cases f with
  |tup es=>
   obtain⟨a2,us,e2,s2,l2⟩:=kZ h';cases e2;cases I.tuple_inj s1 s2;rw[DenL.inj I wd l1 l2]
  |scr es=>obtain⟨a2,us,e2,s2,l2⟩:=gQ h';cases e2;exact(rH I s2.l s1).elim
  |loc l=>
   obtain⟨a2,e2,h2⟩:=jX h';cases e2;obtain⟨ho,k1,k2,k3⟩:=wd.mem (mem_of_getElem? h2);rcases s1 with(s1|⟨o,s1⟩)|⟨o,its,n,s1,_⟩
   .rw[k1]at s1;exact absurd (Option.some.inj s1) (k2 _)
   .rw[k1]at s1;exact(let ⟨_,z⟩:=k3 _ _ (Option.some.inj s1);by cases z)
   .have:=(I.bs a o (I.mod.kin a o s1)).2;rw[k1]at this;cases this
  |non=>cases bU h'
  |bl b=>cases aG h'
  |int b=>cases kY h'
  |str b=>cases jQ h'
  |typ b=>cases bV h'
  |obj c ns es=>
   obtain⟨a2,C,dx,us,o2,e2,h2,_⟩:=gP h';cases e2;rcases s1 with(s1|⟨o,s1⟩)|⟨o,its,n,s1,_⟩
   .rw[h2]at s1;cases s1
   .rw[h2]at s1;cases s1
   .have:=(I.bs a o (I.mod.kin a o s1)).2;rw[h2]at this;cases this
 |.scr ds,f,v,h,h'=>by
  obtain⟨a,vs,rfl,s1,l1⟩:=gQ h
  cases f with
  |scr es=>
   obtain⟨a2,us,e2,s2,l2⟩:=gQ h';cases e2;cases I.list_inj s1.l s2.l;rw[DenL.inj I wd l1 l2]
  |tup es=>obtain⟨a2,us,e2,s2,l2⟩:=kZ h';cases e2;exact(rH I s1.l s2).elim
  |loc l=>
   obtain⟨a2,e2,h2⟩:=jX h';cases e2;obtain⟨ho,k1,k2,k3⟩:=wd.mem (mem_of_getElem? h2);rcases s1 with⟨o,s1⟩|⟨o,its,n,s1,_⟩
   .rw[k1]at s1;exact(let ⟨_,z⟩:=k3 _ _ (Option.some.inj s1);by cases z)
   .have:=(I.bs a o (I.mod.kin a o s1)).2;rw[k1]at this;cases this
  |non=>cases bU h'
  |bl b=>cases aG h'
  |int b=>cases kY h'
  |str b=>cases jQ h'
  |typ b=>cases bV h'
  |obj c ns es=>
   obtain⟨a2,C,dx,us,o2,e2,h2,_⟩:=gP h';cases e2;rcases s1 with⟨o,s1⟩|⟨o,its,n,s1,_⟩
   .rw[h2]at s1;cases s1
   .have:=(I.bs a o (I.mod.kin a o s1)).2;rw[h2]at this;cases this
 |.loc l,f,v,h,h'=>by
  obtain⟨a,rfl,h1⟩:=jX h;obtain⟨ho,k1,k2,k3⟩:=wd.mem (mem_of_getElem? h1)
  cases f with
  |loc m=>
   obtain⟨a2,e2,h2⟩:=jX h';cases e2;by_cases hlm:l=m
   .rw[hlm]
   .exact absurd rfl (wd.ne h1 h2 hlm)
  |tup es=>
   obtain⟨a2,us,e2,s1,l2⟩:=kZ h';cases e2;rcases s1 with(s1|⟨o,s1⟩)|⟨o,its,n,s1,_⟩
   .rw[k1]at s1;exact absurd (Option.some.inj s1) (k2 _)
   .rw[k1]at s1;exact(let ⟨_,z⟩:=k3 _ _ (Option.some.inj s1);by cases z)
   .have:=(I.bs a o (I.mod.kin a o s1)).2;rw[k1]at this;cases this
  |scr es=>
   obtain⟨a2,us,e2,s1,l2⟩:=gQ h';cases e2;rcases s1 with⟨o,s1⟩|⟨o,its,n,s1,_⟩
   .rw[k1]at s1;exact(let ⟨_,z⟩:=k3 _ _ (Option.some.inj s1);by cases z)
   .have:=(I.bs a o (I.mod.kin a o s1)).2;rw[k1]at this;cases this
  |non=>cases bU h'
  |bl b=>cases aG h'
  |int b=>cases kY h'
  |str b=>cases jQ h'
  |typ b=>cases bV h'
  |obj c ns es=>
   obtain⟨a2,C,dx,us,o2,e2,h2,_⟩:=gP h';cases e2;rw[k1]at h2;exact(let ⟨_,z⟩:=k3 _ _ (Option.some.inj h2);by cases z)
 |.obj c ns ds,f,v,h,h'=>by
  obtain⟨a,C,dx,us,o2,rfl,h2,hn,hc,hl,l1⟩:=gP h
  cases f with
  |obj c' ns' es=>
   obtain⟨a2,C2,dx2,us2,o3,e2,h3,hn2,hc2,hl2,l2⟩:=gP h';cases e2;rw[h2]at h3;injection h3 with h3
   injection h3 with _ h3
   injection h3 with e1 e2 e3
   subst e1;rw[hc]at hc2;cases hc2;obtain⟨rfl,rfl⟩:=OL hl hl2 e3;rw[DenL.inj I wd l1 l2]
  |tup es=>
   obtain⟨a2,us,e2,s1,l2⟩:=kZ h';cases e2;rcases s1 with(s1|⟨o,s1⟩)|⟨o,its,n,s1,_⟩
   .rw[h2]at s1;cases s1
   .rw[h2]at s1;cases s1
   .have:=(I.bs a o (I.mod.kin a o s1)).2;rw[h2]at this;cases this
  |scr es=>
   obtain⟨a2,us,e2,s1,l2⟩:=gQ h';cases e2;rcases s1 with⟨o,s1⟩|⟨o,its,n,s1,_⟩
   .rw[h2]at s1;cases s1
   .have:=(I.bs a o (I.mod.kin a o s1)).2;rw[h2]at this;cases this
  |loc l=>
   obtain⟨a2,e2,h1⟩:=jX h';cases e2;obtain⟨ho,k1,k2,k3⟩:=wd.mem (mem_of_getElem? h1);rw[k1]at h2;exact(let ⟨_,z⟩:=k3 _ _ (Option.some.inj h2);by cases z)
  |non=>cases bU h'
  |bl b=>cases aG h'
  |int b=>cases kY h'
  |str b=>cases jQ h'
  |typ b=>cases bV h'
theorem DenL.inj(I:Inv X pins σ H s)(wd:Wd X.g α S H): ∀{ds fs:Og}{vs:List V},DenL X.K α H ds vs->DenL X.K α H fs vs->ds=fs
 |[],fs,vs,h,h'=>by
  cases h.isnil
  cases fs with
  |nil=>rfl
  |cons f fs=>obtain⟨_,_,e,_⟩:=h'.uncons;cases e
 |d::ds,fs,vs,h,h'=>by
  obtain⟨v,r,rfl,a,l⟩:=h.uncons
  cases fs with
  |nil=>cases h'.isnil
  |cons f fs=>
   obtain⟨v',r',e,a',l'⟩:=h'.uncons;cases e;rw[Den.inj I wd a a',DenL.inj I wd l l']
end
end
inductive LexR(A:Around)(s:Shared):List Value->List Value->Bool->Prop
 |nn:LexR A s [] [] false
 |nc (x xs):LexR A s [] (x::xs) true
 |cn (y ys):LexR A s (y::ys) [] false
 |eq {y x ys xs k}:SeqAt.EqAt A s y x true->LexR A s ys xs k->LexR A s (y::ys) (x::xs) k
 |ne {y x ys xs k}:SeqAt.EqAt A s y x false->(∀(prog:Program)(w:World)(E Q:VP),Q (.bool k) s->wpAny (model prog w) A (richCompare .Lt y x) Q E s)->LexR A s (y::ys) (x::xs) k
section
open PySem.SeqAt
open PySem.AutoSeq1 (wpAny_loadPart')
open PySem.MeetsSeq PySem.MeetsSeq2 PySem.MeetsSeq3
theorem LI(l b:Addr)(its its2:Nd)(n n2:Nat)(dd dd2:Option Addr)(sl sl2:Array (Option Value))(k:Bool):
  Meets (Builtin.«tuple.__lt__» ⟨[.ref l,.ref b],[]⟩)
   (λA R s=>s.heap.get? l=some {cls:=.type "tuple",dict:=dd,data:=.seq its n,slots:=sl}/\s.heap.get? b=some {cls:=.type "tuple",dict:=dd2,data:=.seq its2 n2,slots:=sl2}/\
    LexR A.in1 s its.toList its2.toList k/\R (.ok (.ret (.bool k))) s):=
 .of_wp λprog w A R s h=>by
  obtain⟨hp,g,d,tk,os⟩:=s;obtain⟨hl,hb,hx,h⟩:=h;have f2:=AutoSeq1.sub_tuple_tuple
  wp_walk using wpAny_loadPart' hl,wpAny_loadPart' hb,wpAny_forIn_list _ (λrest b s'=>b.1=none/\s'=⟨hp,g,d,tk,os⟩/\ ∃(vs ws:Nc),rest=vs.zip ws/\
   LexR A.in1 ⟨hp,g,d,tk,os⟩ vs ws k/\vs.length+its2.size=ws.length+its.size) _
  case turn=>
   rintro⟨y,x⟩ rest b s' ⟨hb',rfl,vs,ws,hz,hlx,hlen⟩
   cases hlx with
   |nn=>rw[List.zip_nil_left]at hz;cases hz
   |nc x xs=>rw[List.zip_nil_left]at hz;cases hz
   |cn y ys=>rw[List.zip_nil_right]at hz;cases hz
   |@eq y' x' ys xs k' he hr=>
    rw[zip_cons_cons]at hz;injection hz with hyx hrest
    injection hyx with hy hx
    subst hy hx;simp only[lC0]at hlen;refine wB (he prog w _ _ ?_)
    wp_walk
    exact⟨rfl,rfl,_,_,hrest,hr,by lia⟩
   |@ne y' x' ys xs k' he hr=>
    rw[zip_cons_cons]at hz;injection hz with hyx hrest
    injection hyx with hy hx
    subst hy hx;refine wB (he prog w _ _ ?_);have hri:=hr prog w
    wp_walk using hri
    exact⟨_,rfl,by simpa using h⟩
  case fin=>
   rintro⟨b1,b2⟩ s' ⟨hb',rfl,vs,ws,hz,hlx,hlen⟩;simp only at hb';subst hb'
   have hv:k=decide (its.size<its2.size):=by
    cases hlx with
    |nn=>simp only[List.length_nil]at hlen;exact(dF0 (by lia)).symm
    |nc x xs=>simp only[List.length_nil,lC0]at hlen;exact(dT0 (by lia)).symm
    |cn y ys=>simp only[List.length_nil,lC0]at hlen;exact(dF0 (by lia)).symm
    |eq he hr=>rw[zip_cons_cons]at hz;cases hz
    |ne he hr=>rw[zip_cons_cons]at hz;cases hz
   rw[hv]at h
   wp_walk
   exact⟨_,rfl,by simpa [Builtin.Tuple.tupleCompareSizes]using h⟩
  case h=>
   exact⟨rfl,rfl,_,_,rfl,hx,by simp;lia⟩
end
def VI{A:Around}{s:Shared}{l b:Addr}{its its2:Nd}{k:Bool}(hl:IsTup s.heap l its)(hb:IsTup s.heap b its2)(hx:LexR A.in1 s its.toList its2.toList k)(hu:A.units<cLine)(prog:Program)(w:World)(E Q:VP)(h:Q (.bool k) s):
  wpAny (model prog w) A (richCompare .Lt (.ref l) (.ref b)) Q E s:=by
 obtain⟨⟨cls,dd,data,sl⟩,ho,hc,n,hd⟩:=id hl;obtain⟨⟨cls2,dd2,_,sl2⟩,ho2,hc2,n2,hd2⟩:=id hb;subst hc hd hc2 hd2
 exact richCompare_meets_room ⟨_,ho,rfl⟩ ⟨_,ho2,rfl⟩ PySem.F.slot_tuple_lt PySem.F.entry_tuple_lt (PySem.F.args_tuple_lt_2 _ _) (LI l b its its2 n n2 dd dd2 sl sl2 k)
  ⟨ho,ho2,hx,show Value.bool k≠Value.notImplemented/\Q _ s from⟨(λx=>nomatch x),h⟩⟩ hu
def VJ(e l:MV->MV->Option Bool):List MV->List MV->Option Bool
 |[],[]=>some false
 |[],_::_=>some true
 |_::_,[]=>some false
 |d::ds,f::fs=>(e d f).bind λk=>if k=true then VJ e l ds fs else l d f
def Jo(S:Sto):Nat->MV->MV->Option Bool
 |0,_,_=>none
 |n+1,.int i,.int j=>some (decide (i<j))
 |n+1,.str x,.str y=>some (decide (x<y))
 |n+1,.tup ds,.tup es=>VJ (eqv S n) (Jo S n) ds es
 |_,_,_=>none
section
variable{X:Cx}{α:Ng}{S:Sto}{H:Hp}{pins:Nk}{σ:St}{s:Shared}
theorem Dk{A:Around}{e l:MV->MV->Option Bool}(he: ∀d f x y u v k,Den X.K α H d x->Den X.K α H f y->RelV x u->RelV y v->e d f=some k->SeqAt.EqAt A s u v k)
  (hl: ∀d f x y u v k,Den X.K α H d x->Den X.K α H f y->RelV x u->RelV y v->l d f=some k-> ∀(prog:Program)(w:World)(E Q:VP),Q (.bool k) s->wpAny (model prog w) A (richCompare .Lt u v) Q E s):
  ∀{ds fs:Og}{vs us:List V}{its its2:Nc}{k:Bool},DenL X.K α H ds vs->DenL X.K α H fs us->Vals vs its->Vals us its2->VJ e l ds fs=some k->LexR A s its its2 k
 |[],[],_,_,_,_,k,l1,l2,r1,r2,h=>by cases l1.isnil;cases l2.isnil;cases r1;cases r2;cases h;exact .nn
 |[],f::fs,_,_,_,_,k,l1,l2,r1,r2,h=>by
  cases l1.isnil;obtain⟨v,r,rfl,a,l⟩:=l2.uncons;cases r1
  cases r2 with
  |cons a b=>cases h;exact .nc _ _
 |d::ds,[],_,_,_,_,k,l1,l2,r1,r2,h=>by
  cases l2.isnil;obtain⟨v,r,rfl,a,l⟩:=l1.uncons;cases r2
  cases r1 with
  |cons a b=>cases h;exact .cn _ _
 |d::ds,f::fs,_,_,_,_,k,l1,l2,r1,r2,h=>by
  obtain⟨v,r,rfl,a,l1'⟩:=l1.uncons;obtain⟨v2,r3,rfl,a2,l2'⟩:=l2.uncons
  cases r1 with
  |cons b1 c1=>
   cases r2 with
   |cons b2 c2=>
    unfold VJ at h
    cases z:e d f with
    |none=>rw[z]at h;cases h
    |some kk=>
     rw[z]at h;have h:(if kk=true then VJ e l ds fs else l d f)=some k:=h
     cases kk with
     |true=>
      exact .eq (he d f _ _ _ _ _ a a2 b1 b2 z) (Dk he hl l1' l2' c1 c2 h)
     |false=>
      exact .ne (he d f _ _ _ _ _ a a2 b1 b2 z) (hl d f _ _ _ _ _ a a2 b1 b2 h)
theorem VL(I:Inv X pins σ H s)(wd:Wd X.g α S H): ∀(n:Nat)(A:Around)(d f:MV)(x y:V)(u v:Value)(k:Bool),A.units+n<cLine->Den X.K α H d x->Den X.K α H f y->RelV x u->RelV y v->Jo S n d f=some k->
  ∀(prog:Program)(w:World)(E Q:VP),Q (.bool k) s->wpAny (model prog w) A (richCompare .Lt u v) Q E s
 |0,_,_,_,_,_,_,_,_,_,_,_,_,_,h=>by cases h
 |n+1,A,d,f,x,y,u,v,k,hu,h1,h2,rx,ry,h=>by
  intro prog w E Q hq;unfold Jo at h;split at h
  .cases h
  .cases h;cases kY h1;cases kY h2;obtain⟨t,rfl⟩:=rx;obtain⟨t',rfl⟩:=ry;exact(PyProof.Rows.lt_int hq:wpAny _ A _ Q E s)
  .cases h;cases jQ h1;cases jQ h2;obtain⟨t,rfl⟩:=rx;obtain⟨t',rfl⟩:=ry;refine(PySem.P.lt_str ?_:wpAny _ A _ Q E s);exact hq
  .rename_i n' ds es hn;obtain⟨a,vs,rfl,s1,l1⟩:=kZ h1;obtain⟨b,us,rfl,s2,l2⟩:=kZ h2;cases rx;cases ry;obtain⟨its,r1,pt,_⟩:=I.tuple s1;obtain⟨its2,r2,pt2,_⟩:=I.tuple s2;cases hn;refine VI pt pt2 ?_ (by lia) prog w E Q hq
   exact Dk (λd f x y u v k a b c d' e=>FR I wd n A.in1 d f x y u v k (show A.units+1+n<cLine by lia) a b c d' e)
    (λd f x y u v k a b c d' e=>VL I wd n A.in1 d f x y u v k (show A.units+1+n<cLine by lia) a b c d' e) l1 l2 r1 r2 h
  .cases h
end
section
variable{X:Cx}{W:XW}{a b c e:Expr}{es:Oc}{f g h:AX}{pos:Pos}
def Dl(C:Int->Int->Prop)[∀i j,Decidable (C i j)](g:Int->Int->Int):Er->Er->Sto->R Er
 |.val (.int i),.val (.int j),S=>if C i j then .ok (.val (.int (g i j))) S else .no
 |_,_,_=>.no
def Le(g:Int->Int->Bool):Er->Er->Sto->R Er
 |.val (.int i),.val (.int j),S=>.ok (.val (.bl (g i j))) S
 |_,_,_=>.no
def LK{C C':Int->Int->Prop}[∀i j,Decidable (C i j)]{g:Int->Int->Int}(h: ∀i j,C i j->C' i j):EC X W (rI C' λi j=>.int (g i j)) (Dl C g):=by
 intro p q x y α S H Q wd dp dq post;unfold Dl at post;split at post
 .split at post
  .rename_i hc;exact⟨_,_,yY dp,yY dq,h _ _ hc,Post.val post wd (xR _)⟩
  .exact post.elim
 .exact post.elim
def Aq{g:Int->Int->Int}:EC X W (YW λi j=>.int (g i j)) (Dl (λ_ _=>True) g):=by
 intro p q x y α S H Q wd dp dq post;unfold Dl at post;split at post
 .rw[iP trivial]at post;exact⟨_,_,yY dp,yY dq,Post.val post wd (xR _)⟩
 .exact post.elim
def VM{g:Int->Int->Bool}:EC X W (YW λi j=>.bl (g i j)) (Le g):=by
 intro p q x y α S H Q wd dp dq post;unfold Le at post;split at post
 .exact⟨_,_,yY dp,yY dq,Post.val post wd (xX _)⟩
 .exact post.elim
abbrev Gs:=Dl (λ_ _=>True) λi j=>i - j
def Gu(ha:yL X W a f)(hb:yL X W b g):yL X W (.BinOp a .Sub b pos) (λρ S=>(f ρ S).bind λp S1=>(g ρ S1).bind λq S2=>Gs p q S2):=AG Ff Aq ha hb
def Gv(_ j:Int):Prop:=0<j/\j.natAbs.log2<9000
instance(i j:Int):Decidable (Gv i j):=inferInstanceAs (Decidable (_/\_))
abbrev CV:=Dl Gv λi j=>i / j
theorem VN:OpR X (binaryOp .FloorDiv) (rI Gv λi j=>.int (i / j)):=Mu λi j _ _ _ _ _ hc q=>by have e:=Int.fdiv_eq_ediv_of_nonneg i (Int.le_of_lt hc.1);refine floordiv_int (by have:=hc.1;lia) ?_ (.inl (PyProof.noPylong_of_log2 hc.2));rw[e];exact q
def lR(ha:yL X W a f)(hb:yL X W b g):yL X W (.BinOp a .FloorDiv b pos) (λρ S=>(f ρ S).bind λp S1=>(g ρ S1).bind λq S2=>CV p q S2):=AG VN (LK λi j h=>h) ha hb
abbrev lU:=Dl (λ_ j=>0<j) λi j=>i % j
def jZ(ha:yL X W a f)(hb:yL X W b g):yL X W (.BinOp a .Mod b pos) (λρ S=>(f ρ S).bind λp S1=>(g ρ S1).bind λq S2=>lU p q S2):=AG Fg (LK λi j h=>h) ha hb
def Ar(i j:Int):Prop:=0<=j/\(Builtin.Int.intBits i:Int) * j<=2 ^ 27
instance(i j:Int):Decidable (Ar i j):=inferInstanceAs (Decidable (_/\_))
abbrev uS:=Dl Ar λi j=>i ^ j.toNat
def As:OpR X (binaryOp .Pow) (rI Ar λi j=>.int (i ^ j.toNat)):=Mu λ_ _ _ _ _ _ _ hc q=>pow_int hc.1 hc.2 q
def pX(ha:yL X W a f)(hb:yL X W b g):yL X W (.BinOp a .Pow b pos) (λρ S=>(f ρ S).bind λp S1=>(g ρ S1).bind λq S2=>uS p q S2):=AG As (LK λi j h=>h) ha hb
def shlC(i j:Int):Prop:=0<=j/\j<=1000000/\i.natAbs<2 ^ 64
instance(i j:Int):Decidable (shlC i j):=inferInstanceAs (Decidable (_/\_/\_))
def Au(S:Sto):Er->Option (List MV)
 |.new ds=>some ds
 |.val (.loc l)=>match S[l]? with
  |some (.lst ds)=>some ds
  |_=>none
 |_=>none
def LL{α:Ng}{S:Sto}{H:Hp}(wd:Wd X.g α S H){r:Er}{ds:Og}{x:V}(e:Au S r=some ds)(d:DenX X.K α H r x): ∃a vs,x=.ref a/\H a=some (.lst vs)/\DenL X.K α H ds vs:=by
 unfold Au at e;split at e
 .cases e;obtain⟨b,vs,rfl,h,_,l⟩:=d;exact⟨b,vs,rfl,h,l⟩
 .rename_i n;obtain⟨a,rfl,h⟩:=dA d;split at e
  .rename_i es hS;cases e;obtain⟨vs,h1,l⟩:=wd.obj n a _ h hS;exact⟨a,vs,rfl,h1,l⟩
  .cases e
 .cases e
def OM(p q:Er)(S:Sto):R Er:=match Au S p,Au S q with
 |some x,some y=>if x.length+y.length<=sizeLine then .ok (.new (x++y)) S else .no
 |_,_=>.no
def jE:Er->Er->Sto->R Er
 |.val (.int i),.val (.int j),S=>.ok (.val (.int (i+j))) S
 |.val (.str x),.val (.str y),S=>if x.length+y.length<=sizeLine then .ok (.val (.str (x++y))) S else .no
 |.val (.tup x),.val (.tup y),S=>if x.length+y.length<=sizeLine then .ok (.val (.tup (x++y))) S else .no
 |p,q,S=>OM p q S
def VO:OpR X (binaryOp .Add) (λx y H Q=> ∃a b ys,x=.ref a/\y=.ref b/\SqT X.K H a []/\SqT X.K H b ys/\Q (.ref b) H):=by
 intro pins s σ H x y v u Q I rx ry h;obtain⟨a,b,ys,rfl,rfl,ha,hb,q⟩:=h;cases rx;cases ry;obtain⟨its,r1,p1,_⟩:=I.tuple ha;obtain⟨its2,r2,p2,_⟩:=I.tuple hb;have e0:=r1.nil_iff.mpr rfl;subst e0;obtain⟨⟨cls,dd,data,sl⟩,ho,hc,n,hd⟩:=id p1;obtain⟨⟨cls2,dd2,_,sl2⟩,ho2,hc2,n2,hd2⟩:=id p2;subst hc hd hc2 hd2
 exact concat_meets ⟨_,ho,rfl⟩ ⟨_,ho2,rfl⟩ noFill_tuple_add seq_tuple_add PySem.F.slot_tuple_add PySem.F.entry_tuple_add (PySem.F.args_tuple_add_2 _ _)
  (tuple_addW0 a b _ _ n n2 dd dd2 sl sl2 rfl) ⟨ho,ho2,⟨.ref b,H,I,rfl,q⟩⟩
def xZ(ha:yL X W a f)(hb:yL X W b g):yL X W (.BinOp a .Add b pos) (λρ S=>(f ρ S).bind λp S1=>(g ρ S1).bind λq S2=>jE p q S2):=by
 refine AG (Fe.or (KM.or (Fz.or (ZV.or VO)))) ?_ ha hb;intro p q x y α S H Q wd dp dq post;unfold jE at post;split at post
 .exact .inl ⟨_,_,yY dp,yY dq,Post.val post wd (xR _)⟩
 .split at post
  .rename_i hz;refine .inr (.inl ⟨_,_,jR dp,jR dq,by rw[bE];exact hz,?_⟩);rw[Ad];exact Post.val post wd (cL _)
  .exact post.elim
 .split at post
  .rename_i xx yy hz;obtain⟨a1,vs,rfl,s1,l1⟩:=gR dp;obtain⟨a2,us,rfl,s2,l2⟩:=gR dq;by_cases h0:vs=[]
   .subst h0;have e0:=l1.length;refine .inr (.inr (.inr (.inr ⟨a1,a2,us,rfl,rfl,s1,s2,?_⟩)));have:xx=[]:=by cases xx with |nil=>rfl|cons _ _=>simp at e0
    subst this;exact Post.val post wd (cN s2 l2)
   .refine .inr (.inr (.inr (.inl ⟨a1,a2,vs,us,rfl,rfl,s1,s2,h0,by rw[l1.length,l2.length];exact hz,λh1=>?_,λh1 p hp=>Post.newt post wd hp (l1.append l2)⟩)));subst h1;have e0:=l2.length;have:yy=[]:=by cases yy with |nil=>rfl|cons _ _=>simp at e0
    subst this;rw[aN]at post;exact Post.val post wd (cN s1 l1)
  .exact post.elim
 .unfold OM at post;split at post
  .rename_i ds1 ds2 e1 e2;split at post
   .rename_i hz;obtain⟨a1,vs,rfl,h1,l1⟩:=LL wd e1 dp;obtain⟨a2,us,rfl,h2,l2⟩:=LL wd e2 dq;exact .inr (.inr (.inl ⟨a1,a2,vs,us,rfl,rfl,h1,h2,by rw[l1.length,l2.length];exact hz,λp hp=>Post.newl post wd hp (l1.append l2)⟩))
   .exact post.elim
  .exact post.elim
def mulC(i j:Int):Prop:=(-(2 ^ 64)<i/\i<2 ^ 64)\/(-(2 ^ 64)<j/\j<2 ^ 64)\/(i.natAbs.log2<4000/\j.natAbs.log2<4000)
theorem ON{i:Int}(h:i.natAbs.log2<4000):Builtin.Int.intBits i<=2 ^ 20:=by unfold Builtin.Int.intBits;split<;>lia
def mulC.ok{i j:Int}(h:mulC i j):IntMulOk i j:=by
 rcases h with h|h|⟨h1,h2⟩
 .exact CMul.ok (.inl h)
 .exact CMul.ok (.inr h)
 .exact .of_bits (ON h1) (ON h2)
def Av{X:Cx}:OpR X (binaryOp .Mult) (rI mulC λi j=>.int (i * j)):=Mu λ_ _ _ _ _ _ _ hc q=>mul_int q hc.ok
instance(i j:Int):Decidable (mulC i j):=inferInstanceAs (Decidable (_\/_\/_))
def Dm(p:Er)(k:Int)(S:Sto):R Er:=match Au S p with
 |some x=>if 0<=k/\k<100000/\x.length * k.toNat<=sizeLine then .ok (.new (List.replicate k.toNat x).flatten) S else .no
 |none=>.no
def LM:Er->Er->Sto->R Er
 |.val (.int i),.val (.int j),S=>if mulC i j then .ok (.val (.int (i * j))) S else .no
 |.val (.str x),.val (.int k),S=>if 0<=k/\k<1000/\x.length<=1000 then .ok (.val (.str (CT x k))) S else .no
 |p,.val (.int k),S=>Dm p k S
 |_,_,_=>.no
theorem DenL.rep{K:Od}{α:Ng}{H:Hp}{ds:Og}{vs:List V}(l:DenL K α H ds vs): ∀k:Nat,DenL K α H (List.replicate k ds).flatten (List.replicate k vs).flatten
 |0=>xN
 |k+1=>by rw[replicate_succ];exact l.append (DenL.rep l k)
theorem LN(ha:yL X W a f)(hb:yL X W b g):yL X W (.BinOp a .Mult b pos) (λρ S=>(f ρ S).bind λp S1=>(g ρ S1).bind λq S2=>LM p q S2):=by
 refine AG (Av.or (KY.or Ga)) ?_ ha hb;intro p q x y α S H Q wd dp dq post;unfold LM at post;split at post
 .split at post
  .rename_i hc;exact .inl ⟨_,_,yY dp,yY dq,hc,Post.val post wd (xR _)⟩
  .exact post.elim
 .split at post
  .rename_i hc;exact .inr (.inl ⟨_,_,jR dp,yY dq,hc.1,hc.2.1,hc.2.2,Post.val post wd (cL _)⟩)
  .exact post.elim
 .unfold Dm at post;split at post
  .rename_i ds e1;split at post
   .rename_i hc;obtain⟨a1,vs,rfl,h1,l1⟩:=LL wd e1 dp;exact .inr (.inr ⟨a1,_,vs,rfl,yY dq,h1,by lia,by lia,by rw[l1.length];exact hc.2.2,λp hp=>Post.newl post wd hp (l1.rep _)⟩)
   .exact post.elim
  .exact post.elim
 .exact post.elim
def yK:Nat:=40
def pY(p q:Er)(S:Sto):R Er:=match uR S yK p q with
 |some k=>.ok (.val (.bl k)) S
 |none=>.no
def TC(p q:Er)(S:Sto):R Er:=match uR S yK p q with
 |some k=>.ok (.val (.bl !k)) S
 |none=>.no
theorem VR(hu:X.A.units+64<cLine):OpR X (compareOp .Eq) (λx y H Q=> ∃α S p q k,Wd X.g α S H/\DenX X.K α H p x/\DenX X.K α H q y/\uR S yK p q=some k/\Q (.bl k) H):=by intro pins s σ H x y v u Q I rx ry h;obtain⟨α,S,p,q,k,wd,dp,dq,e,hq⟩:=h;exact Gq I wd yK (by unfold yK;lia) dp dq rx ry e X.prog X.w _ _ ⟨.bl k,H,I,rfl,hq⟩
theorem Gw(hu:X.A.units+64<cLine):OpR X (compareOp .NotEq) (λx y H Q=> ∃α S p q k,Wd X.g α S H/\DenX X.K α H p x/\DenX X.K α H q y/\uR S yK p q=some k/\Q (.bl (!k)) H):=by intro pins s σ H x y v u Q I rx ry h;obtain⟨α,S,p,q,k,wd,dp,dq,e,hq⟩:=h;exact Gr I wd yK (by unfold yK;lia) dp dq rx ry e X.prog X.w _ _ ⟨.bl (!k),H,I,rfl,hq⟩
def OO:EC X W (λx y H Q=> ∃α S p q k,Wd X.g α S H/\DenX X.K α H p x/\DenX X.K α H q y/\uR S yK p q=some k/\Q (.bl k) H) pY:=by
 intro p q x y α S H Q wd dp dq post;unfold pY at post;split at post
 .rename_i k e;exact⟨α,S,p,q,k,wd,dp,dq,e,Post.val post wd (xX _)⟩
 .exact post.elim
def Aw:EC X W (λx y H Q=> ∃α S p q k,Wd X.g α S H/\DenX X.K α H p x/\DenX X.K α H q y/\uR S yK p q=some k/\Q (.bl (!k)) H) TC:=by
 intro p q x y α S H Q wd dp dq post;unfold TC at post;split at post
 .rename_i k e;exact⟨α,S,p,q,k,wd,dp,dq,e,Post.val post wd (xX _)⟩
 .exact post.elim
def lV(hu:X.A.units+64<cLine)(ha:yL X W a f)(hb:yL X W b g):yL X W (.Compare a [.Eq] [b] pos) (λρ S=>(f ρ S).bind λp S1=>(g ρ S1).bind λq S2=>pY p q S2):=LC (VR hu) OO ha hb
def EE(hu:X.A.units+64<cLine)(ha:yL X W a f)(hb:yL X W b g):FK X W (.Compare a [.Eq] [b] pos) (λρ S=>((f ρ S).bind λp S1=>(g ρ S1).bind λq S2=>pY p q S2).bind aV):=pV (VR hu) OO ha hb
def OP(hu:X.A.units+64<cLine)(ha:yL X W a f)(hb:yL X W b g):FK X W (.Compare a [.NotEq] [b] pos) (λρ S=>((f ρ S).bind λp S1=>(g ρ S1).bind λq S2=>TC p q S2).bind aV):=pV (Gw hu) Aw ha hb
def YZ:Er->Er->Sto->R Er
 |.val d,.val f,S=>match Jo S yK d f with
  |some k=>.ok (.val (.bl k)) S
  |none=>.no
 |_,_,_=>.no
theorem LO(hu:X.A.units+64<cLine):OpR X (compareOp .Lt) (λx y H Q=> ∃α S d f k,Wd X.g α S H/\Den X.K α H d x/\Den X.K α H f y/\Jo S yK d f=some k/\Q (.bl k) H):=by intro pins s σ H x y v u Q I rx ry h;obtain⟨α,S,d,f,k,wd,dp,dq,e,hq⟩:=h;exact VL I wd yK X.A d f x y v u k (by unfold yK;lia) dp dq rx ry e X.prog X.w _ _ ⟨.bl k,H,I,rfl,hq⟩
def FS:EC X W (λx y H Q=> ∃α S d f k,Wd X.g α S H/\Den X.K α H d x/\Den X.K α H f y/\Jo S yK d f=some k/\Q (.bl k) H) YZ:=by
 intro p q x y α S H Q wd dp dq post;unfold YZ at post;split at post
 .split at post
  .rename_i k e;exact⟨α,S,_,_,k,wd,dp,dq,e,Post.val post wd (xX _)⟩
  .exact post.elim
 .exact post.elim
def Lf(hu:X.A.units+64<cLine)(ha:yL X W a f)(hb:yL X W b g):yL X W (.Compare a [.Lt] [b] pos) (λρ S=>(f ρ S).bind λp S1=>(g ρ S1).bind λq S2=>YZ p q S2):=LC (LO hu) FS ha hb
def Lg(hu:X.A.units+64<cLine)(ha:yL X W a f)(hb:yL X W b g):FK X W (.Compare a [.Lt] [b] pos) (λρ S=>((f ρ S).bind λp S1=>(g ρ S1).bind λq S2=>YZ p q S2).bind aV):=pV (LO hu) FS ha hb
abbrev Gx:=Le λi j=>decide (j<i)
abbrev geF:=Le λi j=>decide (j<=i)
def IM(ha:yL X W a f)(hb:yL X W b g):FK X W (.Compare a [.Gt] [b] pos) (λρ S=>((f ρ S).bind λp S1=>(g ρ S1).bind λq S2=>Gx p q S2).bind aV):=pV Kj VM ha hb
def Lh(ha:yL X W a f)(hb:yL X W b g):FK X W (.Compare a [.GtE] [b] pos) (λρ S=>((f ρ S).bind λp S1=>(g ρ S1).bind λq S2=>geF p q S2).bind aV):=pV Kk VM ha hb
def HM:Er->Er->Sto->R Er
 |.val (.int i),.val (.int j),S=>.ok (.val (.bl (decide (i<=j)))) S
 |.val (.str x),.val (.str y),S=>.ok (.val (.bl (!decide (y<x)))) S
 |_,_,_=>.no
def AO:EC X W (λx y H Q=>YW (λi j=>.bl (decide (i<=j))) x y H Q\/(∃i j,x=.str i/\y=.str j/\Q (.bl (!decide (j.cps.toList<i.cps.toList))) H)) HM:=by
 intro p q x y α S H Q wd dp dq post;unfold HM at post;split at post
 .exact .inl ⟨_,_,yY dp,yY dq,Post.val post wd (xX _)⟩
 .refine .inr ⟨_,_,jR dp,jR dq,?_⟩;rw[FG,FG];exact Post.val post wd (xX _)
 .exact post.elim
def FT(ha:yL X W a f)(hb:yL X W b g)(hc:yL X W c h)(hm:lastMarks [.LtE,.LtE] [b,c]=false:=by with_unfolding_all rfl):yL X W (.Compare a [.LtE,.LtE] [b,c] pos) (λρ S=>(f ρ S).bind λp S1=>(g ρ S1).bind λq S2=>SY HM HM p q S2 λS3=>h ρ S3):=IK (HP.or eM) (HP.or eM) AO AO ha hb hc hm
def Ax(ha:yL X W a f)(hb:yL X W b g)(hc:yL X W c h)(hm:lastMarks [.LtE,.LtE] [b,c]=false:=by with_unfolding_all rfl):FK X W (.Compare a [.LtE,.LtE] [b,c] pos) (λρ S=>((f ρ S).bind λp S1=>(g ρ S1).bind λq S2=>SY HM HM p q S2 λS3=>h ρ S3).bind aV):=VA (HP.or eM) (HP.or eM) AO AO ha hb hc hm
def Ay(hu:X.A.units+64<cLine)(ha:yL X W a f)(hb:yL X W b g)(hc:yL X W c h)(hm:lastMarks [.LtE,.Lt] [b,c]=false:=by with_unfolding_all rfl):yL X W (.Compare a [.LtE,.Lt] [b,c] pos) (λρ S=>(f ρ S).bind λp S1=>(g ρ S1).bind λq S2=>SY HM YZ p q S2 λS3=>h ρ S3):=IK (HP.or eM) (LO hu) AO FS ha hb hc hm
def RH:Er->Er->Sto->R Er
 |.val .non,.val .non,S=>.ok (.val (.bl true)) S
 |_,.val .non,S=>.ok (.val (.bl false)) S
 |_,_,_=>.no
theorem VS{α:Ng}{H:Hp}{p:Er}{x:V}(d:DenX X.K α H p x)(n:p≠.val .non):decide (x=.non)=false:=by
 cases p with
 |new ds=>obtain⟨b,vs,rfl,_⟩:=d;rfl
 |val m=>
  cases m with
  |non=>exact absurd rfl n
  |bl b=>cases pH d;rfl
  |int b=>cases yY d;rfl
  |str b=>cases jR d;rfl
  |typ b=>cases UZ d;rfl
  |obj b b' b''=>obtain⟨_,_,_,_,_,rfl,_⟩:=Gi d;rfl
  |tup b=>obtain⟨_,_,rfl,_⟩:=gR d;rfl
  |scr b=>obtain⟨_,_,rfl,_⟩:=AC d;rfl
  |loc b=>obtain⟨_,rfl,_⟩:=dA d;rfl
def Az:EC X W (λx y H Q=>y=.non/\Q (.bl (decide (x=.non))) H) RH:=by
 intro p q x y α S H Q wd dp dq post;unfold RH at post;split at post
 .cases lL dp;exact⟨lL dq,Post.val post wd (xX _)⟩
 .rename_i p' S' hn;rw[VS dp (λz=>by first |exact hn z|exact hn z rfl|exact hn _ z|exact hn rfl z)];exact⟨lL dq,Post.val post wd (xX _)⟩
 .exact post.elim
def Li(ha:yL X W a f)(hb:yL X W b g):FK X W (.Compare a [.Is] [b] pos) (λρ S=>((f ρ S).bind λp S1=>(g ρ S1).bind λq S2=>RH p q S2).bind aV):=pV Fj Az ha hb
def getL(ds:Og):Er->Sto->R Er
 |.val (.int i),S=>match lE ds i with |some d=>.ok (.val d) S|none=>.no
 |_,_=>.no
def xS:Er->Er->Sto->R Er
 |.val (.str x),.val (.int i),S=>if x.length<=sizeLine then match lE x i with |some c=>.ok (.val (.str [c])) S|none=>.no else .no
 |.val (.tup ds),q,S=>getL ds q S
 |p,q,S=>match bW S p with |some ds=>getL ds q S|none=>.no
def Ba{K:Od}{α:Ng}{H:Hp}{ds:Og}{vs:List V}{i:Int}{d:MV}(l:DenL K α H ds vs)(e:lE ds i=some d): ∃v,lE vs i=some v/\Den K α H d v:=by
 unfold lE at e ⊢;rw[l.length]
 cases z:HS ds.length i with
 |none=>rw[z]at e;cases e
 |some j=>
  rw[z]at e;obtain⟨v,h1,h2⟩:=l.at e;exact⟨v,h1,h2⟩
def yF(ha:yL X W a f)(hb:yL X W b g)(hs:FA b:=by exact λ_ _=>rfl):yL X W (.Subscript a b pos) (λρ S=>(f ρ S).bind λp S1=>(g ρ S1).bind λq S2=>xS p q S2):=by
 refine La Fw ?_ ha hb hs;intro p q x y α S H Q wd dp dq post;have key: ∀{ds:Og}{vs:List V}{i:Int}{d:MV},DenL X.K α H ds vs->lE ds i=some d->Post X.g W α H _ Q-> ∃v,lE vs i=some v/\Q v H:=λl e post=>by obtain⟨v,h1,h2⟩:=Ba l e;exact⟨v,h1,Post.val post wd h2⟩
 unfold xS at post;split at post
 .split at post
  .rename_i hz;split at post
   .rename_i ch e;refine .inr (.inr ⟨_,_,ch,jR dp,yY dq,by rw[bE];exact hz,by rw[FG];exact e,?_⟩);exact Post.val post wd (cL [ch])
   .exact post.elim
  .exact post.elim
 .unfold getL at post;split at post
  .split at post
   .rename_i d e;obtain⟨a1,vs,rfl,s1,l1⟩:=gR dp;obtain⟨v,h1,h2⟩:=key l1 e post;exact .inr (.inl ⟨a1,vs,_,v,rfl,yY dq,s1,h1,h2⟩)
   .exact post.elim
  .exact post.elim
 .split at post
  .rename_i ds el;unfold getL at post;split at post
   .split at post
    .rename_i d e;obtain⟨a1,vs,rfl,s1,l1⟩:=uH rfl wd el dp;obtain⟨v,h1,h2⟩:=key l1 e post;exact .inl ⟨a1,vs,_,v,rfl,yY dq,s1,h1,h2⟩
    .exact post.elim
   .exact post.elim
  .exact post.elim
end
def CW{prog:Program}{w:World}{A:Around}{E:VP}{s:Shared}{t sl:Addr}{its:Nd}{vl vu:Value}{lo hi:Ob}{Q:VP}(ht:IsTup s.heap t its)(hs:s.heap.IsSliceOf sl vl vu .none)(pl:IsPart vl lo)(pu:IsPart vu hi)
  (h0:HT.sIx its.size 0 lo=0) (h1:HT.sIx its.size its.size hi=its.size) (h:Q (.ref t) s):wpAny (model prog w) A (getItem (.ref t) (.ref sl)) Q E s:=by
 have hTs:s.TypeIs (.ref sl) "slice":=by obtain⟨os,hos,hcs,_⟩:=id hs;exact⟨os,hos,hcs⟩
 have hTt:=ht.typeIs;unfold getItem
 try with_reducible refine wpAny_holding ?_
 first |refine wB _|skip
 refine wB (wpAny_sequenceKey hTt (by decide) ?_);refine wB (wpAny_callSpecial?_slot hTt PyProof.Rows.slot_tuple_getitem (wpAny_call_entry PyProof.Rows.slot_tuple_getitem hTt entry_tuple_getitem ?_ (args_tuple_getitem _ _)));show wpAny _ _ (Builtin.Tuple.tupleItemsOf _ >>= _) _ _ s;refine wB (tupleItemsOf_ ht (wB (wpAny_typeOf hTs ?_)));refine wB (HT.sliceApplied_gen hs pl pu ?_);show wpAny _ _ (if _=true then _ else _) _ _ s;rw[iP (by rw[h0,h1];simp)];refine wB (wB (wpAny_typeOf hTt (wP ?_)));refine wB (wpAny_rule ?_)
 first
  |exact wP ⟨_,rfl,wP h⟩
  |exact wB _
  |exact wB _
section
variable{X:Cx}{W:XW}{a e:Expr}{f h:AX}{pos:Pos}
def Bb:SlR X (λx lo hi H Q=> ∃a xs,x=.ref a/\SqT X.K H a xs/\HT.sIx xs.length 0 lo=0/\HT.sIx xs.length xs.length hi=xs.length/\Q (.ref a) H):=by
 intro pins s σ H x v vl vu lo hi sl Q I rx hs pl pu h;obtain⟨a,xs,rfl,hx,h0,h1,q⟩:=h;cases rx;obtain⟨its,r,ht,hz⟩:=I.tuple hx;have hlen:its.toArray.size=xs.length:=by rw[sA];exact r.length.symm
 exact⟨_,_,PyProof.Rows.slot_tuple_getitem.lookup,ht.typeIs,CW ht hs pl pu (by rw[hlen];exact h0) (by rw[hlen];exact h1) ⟨.ref a,H,I,rfl,q⟩⟩
def VT:Er->Option Int->Option Int->Sto->R Er
 |.val (.str x),lo,hi,S=>if x.length<=sizeLine then .ok (.val (.str (qZ x lo hi))) S else .no
 |.val (.tup ds),lo,hi,S=>.ok (.val (.tup (qZ ds lo hi))) S
 |p,lo,hi,S=>match bW S p with |some ds=>.ok (.new (qZ ds lo hi)) S|none=>.no
def RI{α:Type}{ds:List α}{lo hi:Ob}(h0:HT.sIx ds.length 0 lo=0)(h1:HT.sIx ds.length ds.length hi=ds.length):qZ ds lo hi=ds:=by unfold qZ;rw[h0,h1];simp
def VU{lo hi:Option Expr}{lf hf:Rho->Sto->R (Option Int)}{p2:Pos}(ha:yL X W a f)(hl:Jm X W lo lf)(hh:Jm X W hi hf):yL X W (.Subscript a (.Slice lo hi none p2) pos) (λρ S=>(f ρ S).bind λp S1=>(lf ρ S1).bind λl S2=>(hf ρ S2).bind λu S3=>VT p l u S3):=by
 refine VD (Gc.or (ZX.or (Ft.or Bb))) ?_ ha hl hh;intro p lo hi x α S H Q wd dp post;unfold VT at post;split at post
 .split at post
  .rename_i hz;exact .inl ⟨_,jR dp,hz,Post.val post wd (cL _)⟩
  .exact post.elim
 .rename_i _ _ _ ds;obtain⟨a1,vs,rfl,s1,l1⟩:=gR dp;by_cases hw:HT.sIx vs.length 0 lo=0/\HT.sIx vs.length vs.length hi=vs.length
  .have e:=RI (by rw[<-l1.length];exact hw.1) (by rw[<-l1.length];exact hw.2);rw[e]at post;exact .inr (.inr (.inr ⟨a1,vs,rfl,s1,hw.1,hw.2,Post.val post wd (cN s1 l1)⟩))
  .exact .inr (.inr (.inl ⟨a1,vs,rfl,s1,hw,λp hp=>Post.newt post wd hp (l1.cut lo hi)⟩))
 .split at post
  .rename_i ds el;obtain⟨a1,vs,rfl,s1,l1⟩:=uH rfl wd el dp;exact .inr (.inl ⟨a1,vs,rfl,s1,λp hp=>Post.newl post wd hp (l1.cut lo hi)⟩)
  .exact post.elim
end
section
variable{X:Cx}{W:XW}{a b c e:Expr}{f g h:AX}{pos:Pos}
def CY(S:Sto)(n:Nat)(d:MV):List MV->Option (List Bool)
 |[]=>some []
 |y::ys=>(eqv S n y d).bind λk=>(CY S n d ys).map (k::·)
section
variable{α:Ng}{S:Sto}{H:Hp}{pins:Nk}{σ:St}{s:Shared}
def Bc(X:Cx)(α:Ng)(S:Sto)(H:Hp)(n:Nat)(d:MV)(u:Value):Bool:=open Classical in decide (∃y x,Den X.K α H y x/\RelV x u/\eqv S n y d=some true)
open Classical in
def Bd(I:Inv X pins σ H s)(wd:Wd X.g α S H){n:Nat}{d y:MV}{x:V}{u:Value}{k:Bool}(dy:Den X.K α H y x)(r:RelV x u)(e:eqv S n y d=some k):Bc X α S H n d u=k:=by
 unfold Bc
 cases k with
 |true=>exact dT0 ⟨y,x,dy,r,e⟩
 |false=>
  refine dF0 λ⟨y',x',dy',r',e'⟩=>?_;have ex:=r.inj r';subst ex;rw[dy.inj I wd dy']at e;rw[e]at e';cases e'
theorem FU(I:Inv X pins σ H s)(wd:Wd X.g α S H){n:Nat}{A:Around}{d:MV}{x:V}{v:Value}(hu:A.units+n<cLine)(dd:Den X.K α H d x)(rx:RelV x v): ∀{ys:Og}{vs:List V}{us:Nc}{bs:Oa},DenL X.K α H ys vs->Vals vs us->CY S n d ys=some bs->
  us.map (Bc X α S H n d)=bs/\ ∀u∈us,SeqAt.EqAt A s u v (Bc X α S H n d u)
 |[],_,_,bs,l,r,e=>by cases l.isnil;cases r;cases e;exact⟨rfl,λu hu=>by cases hu⟩
 |y::ys,_,_,bs,l,r,e=>by
  obtain⟨v',r',rfl,dy,l'⟩:=l.uncons
  cases r with
  |cons r1 r2=>
   unfold CY at e
   cases z:eqv S n y d with
   |none=>rw[z]at e;cases e
   |some k=>
    rw[z]at e
    cases z2:CY S n d ys with
    |none=>simp[z2]at e
    |some cs=>
     simp[z2]at e;subst e;obtain⟨h1,h2⟩:=FU I wd hu dd rx l' r2 z2;have h3:=Bd I wd dy r1 z;refine⟨by rw[List.map_cons,h1,h3],λu hu'=>?_⟩;rcases mC.mp hu' with rfl|hu'
     .rw[h3];exact FR I wd n A y d _ _ _ _ k hu dy dd r1 rx z
     .exact h2 u hu'
end
theorem any_map{us:Nc}{f:Value->Bool}{bs:Oa}(h:us.map f=bs):us.toArray.any f=bs.any id:=by subst h;simp[List.any_map]
def itemsOf(S:Sto):Er->Option (List MV)
 |.val (.tup ds)=>some ds
 |r=>bW S r
def IO{α:Ng}{S:Sto}{H:Hp}(wd:Wd X.g α S H){r:Er}{ds:Og}{x:V}(e:itemsOf S r=some ds)(d:DenX X.K α H r x): ∃a vs,x=.ref a/\(SqL X.K H a vs\/SqT X.K H a vs)/\DenL X.K α H ds vs:=by
 unfold itemsOf at e;split at e
 .cases e;obtain⟨a,vs,rfl,s,l⟩:=gR d;exact⟨a,vs,rfl,.inr s,l⟩
 .obtain⟨a,vs,rfl,s,l⟩:=uH rfl wd e d;exact⟨a,vs,rfl,.inl s,l⟩
def sV(neg:Bool)(p q:Er)(S:Sto):R Er:=match p with
 |.val d=>match itemsOf S q with
  |some ys=>match CY S yK d ys with
   |some bs=>.ok (.val (.bl (if neg=true then !bs.any id else bs.any id))) S
   |none=>.no
  |none=>.no
 |.new _=>.no
def IP(neg:Bool):Er->Er->Sto->R Er
 |.val (.str [c]),.val (.str y),S=>.ok (.val (.bl (if neg=true then !decide (c∈y)else decide (c∈y)))) S
 |p,q,S=>sV neg p q S
abbrev Gy(X:Cx)(neg:Bool):R2:=λx y H Q=> ∃α S d q ys bs,Wd X.g α S H/\Den X.K α H d x/\DenX X.K α H q y/\itemsOf S q=some ys/\CY S yK d ys=some bs/\Q (.bl (if neg=true then !bs.any id else bs.any id)) H
theorem Gz(hu:X.A.units+64<cLine):OpR X (compareOp .In) (Gy X false):=by
 intro pins s σ H x y v u Q I rx ry h;obtain⟨α,S,d,q,ys,bs,wd,dd,dq,ei,ea,hq⟩:=h;obtain⟨a,vs,rfl,sq,l⟩:=IO wd ei dq;cases ry;rcases sq with sq|sq
 .obtain⟨its,r,pl,_⟩:=I.list sq;obtain⟨h1,h2⟩:=FU I wd (A:=X.A.in1) (by show X.A.units+1+yK<cLine;unfold yK;lia) dd rx l r ea;refine SeqAt.in_listAt _ pl.isList (λw hw=>h2 w (by simpa using hw)) ⟨.bl _,H,I,rfl,?_⟩;rw[any_map h1];exact hq
 .obtain⟨its,r,pl,_⟩:=I.tuple sq;obtain⟨h1,h2⟩:=FU I wd (A:=X.A.in1) (by show X.A.units+1+yK<cLine;unfold yK;lia) dd rx l r ea;refine SeqAt.in_tupleAt _ pl (λw hw=>h2 w (by simpa using hw)) ⟨.bl _,H,I,rfl,?_⟩;rw[any_map h1];exact hq
def OQ{neg:Bool}:EC X W (λx y H Q=>(∃i j,x=.str i/\y=.str j/\Q (.bl (if neg=true then !(!(Builtin.Str.occurrences j i 0 j.length 1).isEmpty)else !(Builtin.Str.occurrences j i 0 j.length 1).isEmpty)) H)\/Gy X neg x y H Q) (IP neg):=by
 intro p q x y α S H Q wd dp dq post;unfold IP at post;split at post
 .refine .inl ⟨_,_,jR dp,jR dq,?_⟩;rw[<-Ae,PySem.StrLaws.found_one];exact Post.val post wd (xX _)
 .unfold sV at post;split at post
  .rename_i d _;split at post
   .rename_i ys ei;split at post
    .rename_i bs ea;exact .inr ⟨α,S,_,q,ys,bs,wd,dp,dq,ei,ea,Post.val post wd (xX _)⟩
    .exact post.elim
   .exact post.elim
  .exact post.elim
def OpR.imp{f:Value->Value->Sem Value}{r r':R2}(h:OpR X f r)(i: ∀x y H Q,r' x y H Q->r x y H Q):OpR X f r':=λpins s σ H x y v u Q I rx ry q=>h pins s σ H x y v u Q I rx ry (i x y H Q q)
def VV(hu:X.A.units+64<cLine):OpR X (compareOp .In) (λx y H Q=>(∃i j,x=.str i/\y=.str j/\Q (.bl (if(false:Bool)=true then !(!(Builtin.Str.occurrences j i 0 j.length 1).isEmpty)else !(Builtin.Str.occurrences j i 0 j.length 1).isEmpty)) H)\/Gy X false x y H Q):=
 OpR.imp (QO.or (Gz hu)) λx y H Q q=>q.imp (λq=>q) λq=>q
def Lj(hu:X.A.units+64<cLine)(ha:yL X W a f)(hb:yL X W b g)(hm:behindInMarks .In b=false:=by with_unfolding_all rfl):yL X W (.Compare a [.In] [b] pos) (λρ S=>(f ρ S).bind λp S1=>(g ρ S1).bind λq S2=>IP false p q S2):=LC (VV hu) OQ ha hb hm
def VW(hu:X.A.units+64<cLine)(ha:yL X W a f)(hb:yL X W b g)(hm:behindInMarks .In b=false:=by with_unfolding_all rfl):FK X W (.Compare a [.In] [b] pos) (λρ S=>((f ρ S).bind λp S1=>(g ρ S1).bind λq S2=>IP false p q S2).bind aV):=pV (VV hu) OQ ha hb hm
def AQ{K:Od}{α:Ng}{H:Hp}{r:Er}{vs:List V}(d:ArgsX K α H [r] vs): ∃v,vs=[v]/\DenX K α H r v:=by
 cases d with
 |cons a l=>cases l;exact⟨_,rfl,a⟩
def Lk{K:Od}{α:Ng}{H:Hp}{r r':Er}{vs:List V}(d:ArgsX K α H [r,r'] vs): ∃v u,vs=[v,u]/\DenX K α H r v/\DenX K α H r' u:=by
 cases d with
 |cons a l=>obtain⟨u,rfl,l'⟩:=AQ l;exact⟨_,u,rfl,a,l'⟩
def cP:List Er->Sto->R Er
 |[.val (.str x)],S=>if x.length<=sizeLine then .ok (.val (.int x.length)) S else .no
 |[r],S=>match itemsOf S r with |some ds=>.ok (.val (.int ds.length)) S|none=>.no
 |_,_=>.no
def hV:AK X W (λxs H Q=>(∃z,xs=[.str z]/\z.length<=sizeLine/\Q (.int z.length) H)\/ ∃p ys,xs=[.ref p]/\(SqL X.K H p ys\/SqT X.K H p ys)/\Q (.int ys.length) H) cP:=by
 intro rs vs α S H Q wd d post;unfold cP at post;split at post
 .split at post
  .rename_i hz;obtain⟨v,rfl,dv⟩:=AQ d;cases jR dv;refine .inl ⟨_,rfl,by rw[bE];exact hz,?_⟩;exact Post.val post wd (xR _)
  .exact post.elim
 .split at post
  .rename_i ds e;obtain⟨v,rfl,dv⟩:=AQ d;obtain⟨a,us,rfl,sq,l⟩:=IO wd e dv;refine .inr ⟨a,us,rfl,sq,?_⟩;rw[l.length];exact Post.val post wd (xR _)
  .exact post.elim
 .exact post.elim
def xA:CallR X (.builtin "len") (λxs H Q=>(∃z,xs=[.str z]/\z.length<=sizeLine/\Q (.int z.length) H)\/ ∃p ys,xs=[.ref p]/\(SqL X.K H p ys\/SqT X.K H p ys)/\Q (.int ys.length) H):=FD.or FC
def Be:List Er->Sto->R Er
 |[.val (.int i)],S=>.ok (.val (.int (if i<0 then -i else i))) S
 |_,_=>.no
def Ha:AK X W (λxs H Q=> ∃i,xs=[.int i]/\Q (.int (if i<0 then -i else i)) H) Be:=by
 intro rs vs α S H Q wd d post;unfold Be at post;split at post
 .obtain⟨v,rfl,dv⟩:=AQ d;cases yY dv;exact⟨_,rfl,Post.val post wd (xR _)⟩
 .exact post.elim
def rL:List MV->Option (List Bool)
 |[]=>some []
 |.bl b::r=>(rL r).map (b::·)
 |_::_=>none
theorem EF{K:Od}{α:Ng}{H:Hp}: ∀{ds:Og}{bs:Oa}{vs:List V},rL ds=some bs->DenL K α H ds vs->vs=bs.map V.bl
 |[],_,_,e,l=>by cases e;exact l.isnil
 |d::r,bs,_,e,l=>by
  cases d with
  |bl b=>
   unfold rL at e
   cases z:rL r with
   |none=>rw[z]at e;cases e
   |some cs=>
    rw[z]at e;cases e;obtain⟨v,us,rfl,dv,l'⟩:=l.uncons;rw[aG dv,EF z l'];rfl
  |_=>cases e
def LP:List Er->Sto->R Er
 |[r],S=>match (bW S r).bind rL with |some bs=>.ok (.val (.bl (bs.all id))) S|none=>.no
 |_,_=>.no
def LQ(hc:X.calm=true):AK X W (λxs H Q=> ∃(a:Addr)(bs:Oa),xs=[.ref a]/\SqL X.K H a (bs.map V.bl)/\X.calm=true/\Q (.bl (bs.all id)) H) LP:=by
 intro rs vs α S H Q wd d post;unfold LP at post;split at post
 .split at post
  .rename_i bs e;obtain⟨v,rfl,dv⟩:=AQ d
   cases z:bW S _ with
   |none=>rw[z]at e;cases e
   |some ds=>
    rw[z]at e;obtain⟨a1,us,rfl,s,l⟩:=uH rfl wd z dv;refine⟨a1,bs,rfl,?_,hc,Post.val post wd (xX _)⟩;rw[<-EF e l];exact s
  .exact post.elim
 .exact post.elim
def FV(S:Sto):Er->Option String
 |.val .non=>some "NoneType"
 |.val (.bl _)=>some "bool"
 |.val (.int _)=>some "int"
 |.val (.str _)=>some "str"
 |.val (.tup _)=>some "tuple"
 |.val (.typ _)=>none
 |.val (.obj _ _ _)=>none
 |r=>(bW S r).map λ_=>"list"
def Bf(t T:String):Bool:=t==T || (t=="bool"&&T=="int")
def known(T:String):Bool:=T=="int" || T=="bool" || T=="str" || T=="tuple" || T=="list"
def iY:List Er->Sto->R Er
 |[r,.val (.typ T)],S=>match FV S r with
  |some t=>if known T=true then .ok (.val (.bl (Bf t T))) S else .no
  |none=>.no
 |_,_=>.no
theorem cW(K:Od){t T:String}(ht:t="NoneType"\/t="bool"\/t="int"\/t="str"\/t="tuple"\/t="list")(hT:known T=true):PySem.W.kitOne K (.type t) (.type T)=some (Bf t T):=by
 have hT':T="int"\/T="bool"\/T="str"\/T="tuple"\/T="list":=by
  unfold known at hT;simp only[Bool.or_eq_true,beq_iff_eq]at hT;rcases hT with(((h|h)|h)|h)|h
  .exact .inl h
  .exact .inr (.inl h)
  .exact .inr (.inr (.inl h))
  .exact .inr (.inr (.inr (.inl h)))
  .exact .inr (.inr (.inr (.inr h)))
 rcases ht with rfl|rfl|rfl|rfl|rfl|rfl<;>rcases hT' with rfl|rfl|rfl|rfl|rfl<;>kernel_rfl
def eV:CallR X (.builtin "isinstance") (λxs H Q=> ∃α S r x t T,xs=[x,.ty T]/\Wd X.g α S H/\DenX X.K α H r x/\FV S r=some t/\known T=true/\Q (.bl (Bf t T)) H):=by
 intro pins s σ H xs us Q I rr h;obtain⟨α,S,r,x,t,T,rfl,wd,d,et,hk,q⟩:=h;obtain⟨u,w',rfl,rx,rT⟩:=vals2 rr;cases rT;have fin: ∀tk,EP X pins σ Q _ {s with toks:=tk}:=λtk=>⟨.bl _,H,I.tok _,rfl,q⟩
 unfold FV at et;split at et
 .cases et;cases lL d;cases rx;exact PySem.W.kia_one PySem.W.kitx_none I.kIn True.intro (cW X.K (.inl rfl) hk) (λz=>nomatch z) fin
 .cases et;cases pH d;cases rx;exact PySem.W.kia_one PySem.W.kitx_bool I.kIn True.intro (cW X.K (.inr (.inl rfl)) hk) (λz=>nomatch z) fin
 .cases et;cases yY d;obtain⟨t,rfl⟩:=rx;exact PySem.W.kia_one PySem.W.kitx_int I.kIn True.intro (cW X.K (.inr (.inr (.inl rfl))) hk) (λz=>nomatch z) fin
 .cases et;cases jR d;obtain⟨t,rfl⟩:=rx;exact PySem.W.kia_one PySem.W.kitx_str I.kIn True.intro (cW X.K (.inr (.inr (.inr (.inl rfl)))) hk) (λz=>nomatch z) fin
 .cases et;obtain⟨a,vs,rfl,sq,l⟩:=gR d;cases rx;obtain⟨its,r1,p1,_⟩:=I.tuple sq;obtain⟨o,h1,h2,_⟩:=p1;exact PySem.W.kia_one PySem.W.kitx_tuple I.kIn ⟨o,h1,h2⟩ (cW X.K (.inr (.inr (.inr (.inr (.inl rfl))))) hk) (λz=>nomatch z) fin
 .cases et
 .cases et
 .cases z:bW S r with
  |none=>rw[z]at et;cases et
  |some ds=>
   rw[z]at et;cases et;obtain⟨a,vs,rfl,sq,l⟩:=uH rfl wd z d;cases rx;obtain⟨its,r1,p1,_⟩:=I.list sq;obtain⟨o,h1,h2,_⟩:=p1.isList;exact PySem.W.kia_one PySem.W.kitx_list I.kIn ⟨o,h1,h2⟩ (cW X.K (.inr (.inr (.inr (.inr (.inr rfl))))) hk) (λz=>nomatch z) fin
def sW:AK X W (λxs H Q=> ∃α S r x t T,xs=[x,.ty T]/\Wd X.g α S H/\DenX X.K α H r x/\FV S r=some t/\known T=true/\Q (.bl (Bf t T)) H) iY:=by
 intro rs vs α S H Q wd d post;unfold iY at post;split at post
 .split at post
  .rename_i t et;split at post
   .rename_i hk;obtain⟨v,u,rfl,d1,d2⟩:=Lk d;cases UZ d2;exact⟨α,S,_,v,t,_,rfl,wd,d1,et,hk,Post.val post wd (xX _)⟩
   .exact post.elim
  .exact post.elim
 .exact post.elim
def fL:List Er->Sto->R Er
 |[.val (.tup ds)],S=>.ok (.val (.tup ds)) S
 |[r],S=>match bW S r with |some ds=>.ok (.val (.tup ds)) S|none=>.no
 |_,_=>.no
def lW:AK X W (λxs H Q=> ∃p ys,xs=[.ref p]/\((SqL X.K H p ys/\ ∀l,H l=none->Q (.ref l) (xT H l (.tup ys)))\/(SqT X.K H p ys/\Q (.ref p) H))) fL:=by
 intro rs vs α S H Q wd d post;unfold fL at post;split at post
 .obtain⟨v,rfl,dv⟩:=AQ d;obtain⟨a,us,rfl,sq,l⟩:=gR dv;exact⟨a,us,rfl,.inr ⟨sq,Post.val post wd (cN sq l)⟩⟩
 .split at post
  .rename_i ds e;obtain⟨v,rfl,dv⟩:=AQ d;obtain⟨a,us,rfl,sq,l⟩:=uH rfl wd e dv;exact⟨a,us,rfl,.inl ⟨sq,λp hp=>Post.newt post wd hp l⟩⟩
  .exact post.elim
 .exact post.elim
def hW:bootBuiltins "len"=some (.builtin "len"):=by decide+kernel
def Hb:bootBuiltins "abs"=some (.builtin "abs"):=by decide+kernel
def LR:bootBuiltins "all"=some (.builtin "all"):=by decide+kernel
def wZ:bootBuiltins "isinstance"=some (.builtin "isinstance"):=by decide+kernel
def Hc:bootBuiltins "int"=some (.type "int"):=by decide+kernel
def OR:bootBuiltins "bool"=some (.type "bool"):=by decide+kernel
def Hd:bootBuiltins "str"=some (.type "str"):=by decide+kernel
def dE:bootBuiltins "tuple"=some (.type "tuple"):=by decide+kernel
end
section
variable{X:Cx}{W:XW}{a e o:Expr}{es:Oc}{f g h:AX}{af:Rho->Sto->R (List Er)}{pos apos:Pos}
def pI(p:Er)(S:Sto):Bool:=(bW S p).isSome
def VX:TyM X "list" pI:=by
 intro p x α S H wd d h;unfold pI at h
 cases z:bW S p with
 |none=>rw[z]at h;cases h
 |some ds=>
  obtain⟨a,vs,rfl,s,l⟩:=uH rfl wd z d;exact .inl ⟨rfl,vs,s⟩
def strIdx(x y:Db):Option Nat:=(Builtin.Str.occurrences (bH x) (bH y) 0 (bH x).length 1).head?
def RK(p:Er)(S:Sto)(G:List MV->Option (List MV)):R Er:=match p with
 |.val (.loc l)=>match S[l]? with
  |some (.lst ds)=>match G ds with
   |some es=>.ok (.val .non) (S.set l (.lst es))
   |none=>.no
  |_=>.no
 |_=>.no
def RL{α0 α:Ng}{H0 H:Hp}{S:Sto}{p:Er}{x:V}{G:List MV->Option (List MV)}{Q:VK}(wd:Wd X.g α S H)(x0:Ext α0 H0 α H)(dp:DenX X.K α H p x)(post:Post X.g W α0 H0 (RK p S G) Q):
  ∃a vs ds es,x=.ref a/\H a=some (.lst vs)/\DenL X.K α H ds vs/\G ds=some es/\ ∀us,DenL X.K α H es us->Q .non (xT H a (.lst us)):=by
 unfold RK at post;split at post
 .rename_i l;obtain⟨a,rfl,h⟩:=dA dp;obtain⟨ob,h1,h2⟩:=wd.of h;rw[h1]at post
  cases ob with
  |lst ds=>
   obtain⟨vs,h3,l1⟩:=h2;have post:Post X.g W α0 H0 (match G ds with |some es=>R.ok _ _|none=>R.no) Q:=post;split at post
   .rename_i es eg;refine⟨a,vs,ds,es,rfl,h3,l1,eg,λus lu=>?_⟩;have xw:=wd.writex h (Kz h3) (o:=.lst us);exact(post.shift (x0.trans xw)).val (wd.write h (Kz h3) ⟨us,zQ,lu.ext xw⟩) jW
   .exact post.elim
  |dic _=>exact post.elim
  |ins _ _=>exact post.elim
  |rcd _ _=>exact post.elim
  |fdc _=>exact post.elim
 .exact post.elim
def RM:Er->List Er->Sto->R Er
 |p,[r],S=>(fK r S).bind λy S1=>RK p S1 λds=>if ds.length<sizeLine then some (ds++[y])else none
 |_,_,_=>.no
def RN:Gj X W NZ RM:=by
 intro p rs x vs α S H0 H Q α0 wd x0 dp da post
 match rs,da,post with
 |[],_,post=>exact post.elim
 |_::_::_,_,post=>exact post.elim
 |[r],da,post=>
  cases da with
  |cons d n l=>
   cases l;obtain⟨d',S',α',e',x',y',w',dd⟩:=oR wd x0 d;have post:Post X.g W α0 H0 ((fK r S).bind λy S1=>RK p S1 λds=>if ds.length<sizeLine then some _ else none) Q:=post;rw[e']at post
   have dp':DenX X.K α' H p x:=by
    cases p with
    |val m=>exact Den.ex0 y' dp
    |new ds=>exact post.elim
   obtain⟨a,us,ds,es,rfl,h1,l1,eg,k⟩:=RL w' x' dp' post;split at eg
   .rename_i hz;cases eg;exact⟨a,us,_,rfl,rfl,h1,by rw[l1.length];exact hz,k _ (l1.append (yX dd xN))⟩
   .cases eg
def sX(ho:yL X W a f)(ha:CO X W (e::es) af)
  (hbase:attributeBase a "append" X.env (eval a X.env)=eval a X.env:=by rfl)
  (hfew:((backTo pos (starEach (e::es) X.env)).all (λx=>!x.1)&&(backToKw pos (keywordEach [] X.env)).all (λx=>x.1.isSome)
   &&decide ((e::es).length+([]:List Keyword).length+(if([]:List Keyword).isEmpty then 0 else 1)<30))=true:=by rfl)
  (hline:(apos.endLine==pos.line)=true:=by rfl) (hs:starEach (e::es) X.env=(false,eval e X.env)::starEach es X.env:=by rfl) (hplain:(backTo pos (starEach es X.env)).any (·.1)=false:=by rfl):
  yL X W (.Call (.Attribute a "append" apos) (e::es) [] pos) (λρ S=>(f ρ S).bind λp S1=>if pI p S1=true then(af ρ S1).bind λrs S2=>RM p rs S2 else .no):=
 OH PySem.F.plainAttrs_list PySem.F.slot_list_append PySem.F.type_list_append QU RN VX ho ha hbase hfew hline hs hplain
end
def _root_.L2.Inv.turnedL{X:Cx}{pins:Nk}{σ:St}{H:Hp}{s:Shared}{h':Heap}{t':Nat}{fp:Ng}(I:Inv X pins σ H s)(k: ∀b o,b∉fp->s.heap.get? b=some o->h'.get? b=some o)
  (hf: ∀b∈fp,pB X pins H b):Inv X pins σ H {s with heap:=h',toks:=t'}:=by
 have nit: ∀b u,H b=some u->b∉fp:=λb u e z=>by rw[(hf b z).1]at e;cases e
 refine I.step (λb hb=>⟨(hf b hb).2.2.2.1,(hf b hb).2.1,(hf b hb).2.2.2.2.1,(hf b hb).2.2.2.2.2⟩) (λb o _ _ hc e _=>k b o hc e) (λb o _ _ hc e _=>⟨_,k b o hc e⟩) (λ_ _ _ _ n=>n)
  (λb o hc e=>⟨o,k b o hc e⟩) (λ_ _ e=>e) (λ_ _ _ e=>e) (λb ps e=>⟨#[],by rw[e];simp⟩) (λm hm=>?_) (λb u e=>?_) I.bare
 .obtain⟨o,es,ep,ho,r⟩:=hm;exact⟨o,es,ep,k _ o (λz=>(hf _ z).2.1 rfl) ho,r⟩
 .refine(I.hok b u e).stay (λc v hc q=>k c v ?_ q) (λ_ q=>q) λ_ _ q=>q;rcases hc with z|z
  .rw[z];exact nit b u e
  .exact nit c _ z
def IsSub(k:Bool)(h:Heap)(it l:Addr)(i:Nat):Prop:=if k=true then h.IsListIter it l i else h.IsTupleIter it l i
def uI(k:Bool)(h:Heap)(l:Addr)(its:Nd):Prop:=if k=true then h.IsList l its else h.IsTuple l its
def AR(k:Bool)(l:Addr):Obj:={cls:=.type (if k=true then "list_iterator" else "tuple_iterator"),data:=.fields #[.ref l,.int 0 0]}
def IsSub.mk'{k:Bool}{h:Heap}{it l:Addr}(e:h.get? it=some (AR k l)):IsSub k h it l 0:=by
 cases k with
 |true=>exact⟨_,e,rfl,rfl⟩
 |false=>exact⟨_,e,rfl,rfl⟩
def IsSub.there{k:Bool}{h:Heap}{it l:Addr}{i:Nat}(x:IsSub k h it l i): ∃o,h.get? it=some o/\ ∀v,o.data≠.cell v:=by
 cases k with
 |true=>obtain⟨o,e,_,d⟩:=(x:h.IsListIter it l i);exact⟨o,e,λv z=>by rw[d]at z;cases z⟩
 |false=>obtain⟨o,e,_,d⟩:=(x:h.IsTupleIter it l i);exact⟨o,e,λv z=>by rw[d]at z;cases z⟩
def IsSub.move{k:Bool}{h h':Heap}{it l:Addr}{i:Nat}(x:IsSub k h it l i)(f: ∀o,h.get? it=some o->h'.get? it=some o):IsSub k h' it l i:=by
 cases k with
 |true=>obtain⟨o,e,r⟩:=(x:h.IsListIter it l i);exact⟨o,f o e,r⟩
 |false=>obtain⟨o,e,r⟩:=(x:h.IsTupleIter it l i);exact⟨o,f o e,r⟩
section
variable{prog:Program}{w:World}{A:Around}{E:VP}{s:Shared}
def AS{k:Bool}{l:Addr}{its:Nd}{Q:VP}(hl:uI k s.heap l its)(h:Q (.ref s.heap.objs.size) {s with heap:=s.heap.push (AR k l)}):wpAny (model prog w) A (pyIter (.ref l)) Q E s:=by
 cases k with
 |true=>exact wpAny_pyIter_list hl h
 |false=>exact wpAny_pyIter_tuple hl h
def VY{k:Bool}{it l:Addr}{i:Nat}{its:Nd}{x:Value}{Q:VP}(hit:IsSub k s.heap it l i)(hl:uI k s.heap l its)(hx:its[i]? =some x)
  (hQ: ∀h',IsSub k h' it l (i+1)->Heap.SameBut it s.heap h'->Q x {s with heap:=h'}):wpAny (model prog w) A (Builtin.SmallTypes.nextOf (.ref it)) Q E s:=by
 cases k with
 |true=>exact wpAny_nextOf_list_item hit hl hx hQ
 |false=>
  have hit':=hit;obtain⟨o,ho,hc,hd⟩:=id hit';obtain⟨ol,hol,_,nl,hdl⟩:=(hl:s.heap.IsTuple l its)
  refine wB (wpAny_callSpecial?_slot hit'.typeIs F.slot_tuple_iterator_next (wpAny_call_entry F.slot_tuple_iterator_next hit'.typeIs F.entry_tuple_iterator_next ?_ (F.args_tuple_iterator_next_1 _)));show wpAny _ _ (field _ 0 >>= _) _ _ s;refine wB (wpAny_field ho hd rfl ?_);show wpAny _ _ _ _ _ s;show wpAny _ _ _ _ _ s;refine wB (wpAny_field ho hd rfl ?_);show wpAny _ _ _ _ _ s;refine wB (wpAny_seqItems hol hdl ?_);simp only[Int.toNat_natCast,hx];refine wB (wpAny_setField ho hd (by simp) (wP ⟨x,rfl,wP (hQ _ ?_ (Heap.SameBut.update ..))⟩));exact⟨_,Heap.get?_update_self _ ho (Obj.isFreed_of_fields (Obj.data_mapFields hd _)),(Obj.cls_mapFields ..).trans hc,by rw[Obj.data_mapFields hd];simp[rawInt]⟩
def Bg{k:Bool}{it l:Addr}{i:Nat}{its:Nd}{Q:VP}(hh:A.handled=none)(hit:IsSub k s.heap it l i)(hl:uI k s.heap l its)(hx:its[i]? =none)
  (hE: ∀h' e,Heap.ExtBut it s.heap h'->(∃o,h'.get? e=some o/\o.cls=.type "StopIteration")->E (.ref e) {s with heap:=h'}):wpAny (model prog w) A (Builtin.SmallTypes.nextOf (.ref it)) Q E s:=by
 cases k with
 |true=>exact wpAny_nextOf_list_end hh hit hl hx hE
 |false=>
  have hit':s.heap.IsTupleIter it l i:=hit;obtain⟨o,ho,hc,hd⟩:=id hit';obtain⟨ol,hol,_,nl,hdl⟩:=(hl:s.heap.IsTuple l its)
  unfold Builtin.SmallTypes.nextOf;refine wB (wpAny_callSpecial?_slot hit'.typeIs F.slot_tuple_iterator_next (wpAny_call_entry F.slot_tuple_iterator_next hit'.typeIs F.entry_tuple_iterator_next ?_ (F.args_tuple_iterator_next_1 _)));show wpAny _ _ (field (.ref it) 0 >>= _) _ _ s;refine wB (wpAny_field ho hd (x:=.ref l) rfl ?_);show wpAny _ _ _ _ _ s;rw[iN0 (show¬((Value.ref l==Value.none)=true)from xF0)];show wpAny _ _ _ _ _ s;refine wB (wpAny_field ho hd rfl ?_);show wpAny _ _ _ _ _ s;refine wB (wpAny_seqItems hol hdl ?_);simp only[Int.toNat_natCast,hx];refine wB (wpAny_rule (wB (wpAny_setField ho hd (by simp) ?_)));show wpAny _ _ _ _ _ _;refine wB ?_;simp only[newExc,newTuple];refine wB (wpAny_newObj_type ?_ (by size_fits));refine wB (wpAny_of_eq (by first |rfl|(simp only[firstArgMember];rfl)) ?_);refine wpAny_newObj_type ?_ (by size_fits);simp only[raiseNew];refine wB (wpAny_handled ?_)
  first |rw[show A.in1.handled=none from hh]|rw[hh]
  refine wB (wP (wpAny_throw ?_));exact hE _ _ (((Heap.SameBut.update ..).extBut.push _).push _) ⟨_,Heap.get?_push_size _ rfl,rfl⟩
end
def Do(k:Bool)(K:Od)(H:Hp)(a:Addr)(xs:List V):Prop:=if k=true then SqL K H a xs else SqT K H a xs
section
variable{X:Cx}{pins:Nk}{σ:St}{H:Hp}{s:Shared}
def _root_.L2.Inv.seqK(I:Inv X pins σ H s){k:Bool}{a:Addr}{xs:List V}(h:Do k X.K H a xs): ∃its:List Value,Vals xs its/\uI k s.heap a its.toArray/\xs.length<=sizeLine:=by
 cases k with
 |true=>obtain⟨its,r,p,z⟩:=I.list h;exact⟨its,r,p.isList,z⟩
 |false=>obtain⟨its,r,p,z⟩:=I.tuple h;exact⟨its,r,p,z⟩
def _root_.L2.Inv.seqK_inj(I:Inv X pins σ H s){k:Bool}{a:Addr}{xs ys:List V}(h:Do k X.K H a xs)(h':Do k X.K H a ys):xs=ys:=by
 cases k with
 |true=>exact I.list_inj h h'
 |false=>exact I.tuple_inj h h'
end
structure Sr where
 k:Bool
 ds:List MV
 gs:List (Nat×List MV)
def srcOf(S:Sto):Er->Option Sr
 |.val (.tup ds)=>some ⟨false,ds,[]⟩
 |.new ds=>some ⟨true,ds,[]⟩
 |.val (.scr ds)=>some ⟨true,ds,[]⟩
 |.val (.loc l)=>match S[l]? with
  |some (.lst ds)=>some ⟨true,ds,[(l,ds)]⟩
  |_=>none
 |_=>none
structure SrcD(X:Cx)(q:Sr)(l:Addr)(P:List Addr->Sto->Hp->Prop):Prop where
 get: ∀α S H,P α S H-> ∃vs,Do q.k X.K H l vs/\DenL X.K α H q.ds vs
 stays: ∀α1 S1 H1 α2 S2 H2,P α1 S1 H1->Ext α1 H1 α2 H2->Wd X.g α2 S2 H2->stay q.gs S2->P α2 S2 H2
 st: ∀α S H,P α S H->stay q.gs S
def He{X:Cx}{α:Ng}{S:Sto}{H:Hp}(wd:Wd X.g α S H){r:Er}{x:V}{q:Sr}(e:srcOf S r=some q)(d:DenX X.K α H r x): ∃l P,x=.ref l/\P α S H/\SrcD X q l P:=by
 unfold srcOf at e;split at e
 .rename_i ds;cases e;obtain⟨a,vs,rfl,s,l⟩:=gR d;exact⟨a,λα S H=> ∃vs,_,rfl,⟨vs,s,l⟩,λα S H h=>h,λα1 S1 H1 α2 S2 H2 ⟨vs,h1,h2⟩ x w _=>⟨vs,x.sqT h1,h2.ext x⟩,λ_ _ _ _=>jY⟩
 .rename_i ds;cases e;obtain⟨b,vs,rfl,h,n,l⟩:=d
  exact⟨b,λα S H=> ∃vs,H b=some (.lst vs)/\b∉α/\DenL X.K α H ds vs,rfl,⟨vs,h,n,l⟩,λα S H ⟨vs,h1,_,h2⟩=>⟨vs,(SqL.of h1:SqL X.K H b vs),h2⟩,
   λα1 S1 H1 α2 S2 H2 ⟨vs,h1,h2,h3⟩ x w _=>⟨vs,x.keep b _ h1 h2,x.out h1 h2,h3.ext x⟩,λ_ _ _ _=>jY⟩
 .rename_i ds;cases e;obtain⟨a,vs,rfl,s,l⟩:=AC d;exact⟨a,λα S H=> ∃vs,SqF X.K H a vs/\DenL X.K α H ds vs,rfl,⟨vs,s,l⟩,λα S H ⟨vs,h1,h2⟩=>⟨vs,h1.l,h2⟩,λα1 S1 H1 α2 S2 H2 ⟨vs,h1,h2⟩ x w _=>⟨vs,x.sqF h1,h2.ext x⟩,λ_ _ _ _=>jY⟩
 .rename_i n;split at e
  .rename_i ds hS;cases e;obtain⟨a,rfl,h⟩:=dA d;obtain⟨vs,h1,h2⟩:=wd.obj n a _ h hS;refine⟨a,λα S H=> ∃vs,H a=some (.lst vs)/\DenL X.K α H ds vs/\α[n]? =some a/\S[n]? =some _,rfl,⟨vs,h1,h2,h,hS⟩,λα S H ⟨vs,h1,h2,_⟩=>⟨vs,(SqL.of h1:SqL X.K H a vs),h2⟩,?_,?_⟩
   .intro α1 S1 H1 α2 S2 H2 ⟨vs,a1,a2,a3,a4⟩ x w hs;have hs':=hs (n,ds) (by simp);obtain⟨us,b1,b2⟩:=w.obj n a _ (x.at a3) hs';exact⟨us,b1,b2,x.at a3,hs'⟩
   .intro α S H ⟨vs,_,_,_,a4⟩ p hp;have:=by simpa using hp
    subst this;exact a4
  .cases e
 .cases e
def Bh:bootBuiltins "enumerate"=some (.type "enumerate"):=by decide+kernel
structure EnSt(k:Bool)(e it l:Addr)(i:Nat)(h:Heap):Prop where
 e: ∃old,IsEnum h e it i old
 s:IsSub k h it l i
section
variable{prog:Program}{w:World}{A:Around}{E:VP}{s:Shared}{k:Bool}{e it l:Addr}{i:Nat}{its:Nd}
def Bi{x old:Value}{Q:VP}(he:IsEnum s.heap e it i old)(hit:IsSub k s.heap it l i)(hl:uI k s.heap l its)(hx:its[i]? =some x)(hne:e≠it)
  (hQ: ∀h',IsEnumOut h' e it ((i:Int)+1) x s.heap.objs.size->IsSub k h' it l (i+1)->h'.get? s.heap.objs.size=some {cls:=.type "tuple",data:=.seq #[.int i s.toks,x]}->
   (∀b o,b≠e->b≠it->s.heap.get? b=some o->h'.get? b=some o)->Q (.ref s.heap.objs.size) {s with heap:=h',toks:=s.toks+1}):
  wpAny (model prog w) A (Builtin.«enumerate.__next__» ⟨[.ref e],[]⟩) (λfin s'=> ∃v,fin=.done (.ret v)/\Q v s') E s:=by
 obtain⟨hp,g,d,tk,os⟩:=s;show wpAny _ _ (field (.ref e) 2 >>= _) _ _ _;refine wB (wpAny_field he rfl rfl (wB (VY hit hl hx λha ita hsa=>?_)))
 replace hsa:Heap.SameBut it hp ha:=hsa
 have ea:IsEnum ha e it i old:=(hsa.2 e hne).trans he;show wpAny _ _ _ _ _ ⟨ha,g,d,tk,os⟩;refine wB (wpAny_field ea rfl rfl ?_);show wpAny _ _ _ _ _ ⟨ha,g,d,tk,os⟩;refine wB (wpAny_field ea rfl rfl ?_);show wpAny _ _ (mkInt i >>= _) _ _ ⟨ha,g,d,tk,os⟩;refine wB (wpAny_mkInt ?_);show wpAny _ _ _ _ _ ⟨ha,g,d,_,os⟩;refine wB (wpAny_setField_rec ea (by simp) λhb eb hsb=>?_)
 replace hsb:Heap.SameBut e ha hb:=hsb
 replace eb:IsEnum hb e it ((i:Int)+1) old:=eb
 show wpAny _ _ _ _ _ ⟨hb,g,d,_,os⟩;refine wB (wpAny_setField_rec eb (by simp) λhc ec hsc=>?_)
 replace hsc:Heap.SameBut e hb hc:=hsc
 replace ec:IsEnum hc e it ((i:Int)+1) old:=ec
 show wpAny _ _ _ _ _ ⟨hc,g,d,_,os⟩;refine wB (wpAny_newTuple ?_);have hsz:hc.objs.size=hp.objs.size:=by rw[hsc.1,hsb.1,hsa.1]
 have hel:e<hp.objs.size:=Heap.lt_size he;have ed:IsEnum (hc.push {cls:=.type "tuple",data:=.seq #[.int i tk,x]}) e it ((i:Int)+1) old:=hP0 _ ec;have td:(hc.push {cls:=.type "tuple",data:=.seq #[.int i tk,x]}).get? hp.objs.size=some {cls:=.type "tuple",data:=.seq #[.int i tk,x]}:=by rw[<-hsz];exact Heap.get?_push_size _ rfl
 have kd: ∀b o,b≠e->b≠it->hp.get? b=some o->(hc.push {cls:=.type "tuple",data:=.seq #[.int i tk,x]}).get? b=some o:=λb o n1 n2 q=>
  hP0 _ (hsc.extBut b o n1 (hsb.extBut b o n1 (hsa.extBut b o n2 q)))
 have sd:IsSub k (hc.push {cls:=.type "tuple",data:=.seq #[.int i tk,x]}) it l (i+1):=ita.move λo q=>hP0 _ (hsc.extBut _ o (Ne.symm hne) (hsb.extBut _ o (Ne.symm hne) q));generalize hc.push {cls:=.type "tuple",data:=.seq #[.int i tk,x]}=hd at ed td kd sd ⊢;show wpAny _ _ _ _ _ ⟨hd,g,d,_,os⟩;rw[hsz];refine wB ?_;unfold Builtin.SmallTypes.ownedTupleIsFree;refine wB (wpAny_field ed rfl rfl (wP ?_));simp only[if_true];refine wB (wpAny_rule (wB (wpAny_field ed rfl rfl (wB (wpAny_setField_rec ed (by simp) λhf ef hsf=>?_)))))
 replace hsf:Heap.SameBut e hd hf:=hsf
 replace ef:IsEnum hf e it ((i:Int)+1) x:=ef
 show wpAny _ _ _ _ _ ⟨hf,g,d,_,os⟩;refine wB ?_;unfold Builtin.SmallTypes.ownedTupleHandOut;refine wB (wpAny_setField_rec ef (by simp) λhg' eg hsg=>?_)
 replace hsg:Heap.SameBut e hf hg':=hsg
 replace eg:IsEnumOut hg' e it ((i:Int)+1) x hp.objs.size:=eg
 refine wpAny_setField_rec eg (by simp) λhh' eh hsh=>?_
 replace hsh:Heap.SameBut e hg' hh':=hsh
 replace eh:IsEnumOut hh' e it ((i:Int)+1) x hp.objs.size:=eh
 have up: ∀b o,b≠e->hd.get? b=some o->hh'.get? b=some o:=λb o n q=>hsh.extBut b o n (hsg.extBut b o n (hsf.extBut b o n q));exact wB (wpAny_letGo (wP ⟨_,rfl,hQ hh' eh (sd.move λo q=>up _ o (Ne.symm hne) q) (up _ _ (Nat.ne_of_gt hel) td) λb o n1 n2 q=>up b o n1 (kd b o n1 n2 q)⟩))
def LS(k:Bool)(l:Addr)(its:Nd):
  Meets (Builtin.«enumerate.__new__» ⟨[.type "enumerate",.ref l],[]⟩) (λ_ R s=>uI k s.heap l its/\
   R (.ok (.ret (.ref (s.heap.objs.size+1)))) {s with heap:=(s.heap.push (AR k l)).push {cls:=.type "enumerate",data:=.fields #[.none,.bool false,.ref s.heap.objs.size,rawInt 0,.none,.none]}}):=
 .of_wp λprog w A R s h=>by
  obtain⟨hp,g,d,tk,os⟩:=s;obtain⟨hl,h⟩:=h;have hsub:=sub_enumerate;have hL:uI k _ l its:=hl;have z1: ∀(h:Heap)(o:Obj),(h.push o).objs.size=h.objs.size+1:=λh o=>Heap.size_push ..
  wp_walk
  refine wpAny_stack_any λst=>wP ?_;split
  .rename_i c _ _ _ _ _;cases (c==Value.type "enumerate")
   .wp_walk using AS hL
    exact⟨_,rfl,by simp only[z1];exact h⟩
   .wp_walk using AS hL
    exact⟨_,rfl,by simp only[z1];exact h⟩
  .wp_walk using AS hL
   exact⟨_,rfl,by simp only[z1];exact h⟩
end
def EG(K:Od)(F:List MV->Sto->R Er):Sp:=λvs H Q _=> ∃ds,DenL K [] H ds vs/\ds.length=1/\ ∀g:Gm,g.K=K->Post g W0 [] H (F ds []) Q
def VZ{g:Gm}{F:List MV->Sto->R Er}: ∀vs H Q E,EG g.K F vs H Q E->IL g 1 F vs H Q E:=λvs H Q E ⟨ds,l,hl,q⟩=>⟨[],[],ds,⟨rfl,by simp,λl a o h=>by simp at h⟩,l,hl,q g rfl⟩
def Hf{K:Od}{H:Hp}{a:Addr}{xs:List V}(hO:UM H)(h:SqL K H a xs):SqF K H a xs:=by
 rcases h with(h|⟨o,h⟩)|h
 .rcases hO a with z|⟨o,ys,z⟩
  .rw[z]at h;cases h
  .rw[z]at h;cases h
 .exact .inl ⟨o,h⟩
 .exact .inr h
def WA{K:Od}{F:List MV->Sto->R Er}{H:Hp}{a:Addr}{ns:Nb}(hO:UM H)(hS:SqL K H a (ns.map V.int))(h: ∃S,F [.scr (ns.map MV.int)] []=.ok (.val (.bl true)) S):EG K F [.ref a] H (λv _=>v=.bl true) λ_ _ _=>False:=by obtain⟨S,h⟩:=h;refine⟨_,yX (OE (Hf hO hS) (EA ns)) xN,rfl,λg _=>?_⟩;rw[h];exact λv α' H' x w d=>pH d.1
theorem pD{β γ:Type}(b:β)(S:Sto)(k:β->Sto->R γ):(R.ok b S).bind k=k b S:=by have h:=R.bind_ok b S k;exact Eq.trans h rfl
theorem OS(d:MV)(S:Sto):Ak (some (some d)) S=.ok (.val d) S:=rfl
theorem AT{S T:Sto}:OK S (S++T):=⟨by rw[lA];lia,λl hl=>.inl (getElem?_append_left hl)⟩
def AU(n:Nat)(i:Int):lo n (.int i):=by unfold lo;trivial
def Hg(n:Nat)(i:Db):lo n (.str i):=by unfold lo;trivial
def EH(n:Nat)(i:Bool):lo n (.bl i):=by unfold lo;trivial
def AV(n:Nat):lo n .non:=by unfold lo;trivial
def Hh{n:Nat}{ds:Og}(h:uQ n ds):lo n (.tup ds):=by unfold lo;exact h
theorem sY{n:Nat}: ∀{ds:Og},(∀d∈ds,lo n d)->uQ n ds
 |[],_=>by unfold uQ;trivial
 |d::ds,h=>by unfold uQ;exact⟨h d mF0,sY λe he=>h e (mO _ he)⟩
def lX{S T:Sto}{d:MV}(h:lo S.length d)(hn: ∀l,d≠.loc l):dC S (.val d) (S++T)=.ok (.val d) S:=by
 unfold dC;rw[iP AT];have e:(S++T).take S.length=S:=by simp
 cases d with
 |loc l=>exact absurd rfl (hn l)
 |_=>dsimp only;rw[iP h,e]
def WB{S T:Sto}{ds:Og}(h:uQ S.length ds):dC S (.new ds) (S++T)=.ok (.new ds) S:=by
 unfold dC;rw[iP AT];have e:(S++T).take S.length=S:=by simp
 dsimp only;rw[iP h,e]
theorem WC{S T:Sto}{l:Nat}{ds:Og}(hl:S.length<=l)(hS:(S++T)[l]? =some (.lst ds))(h:uQ S.length ds):dC S (.val (.loc l)) (S++T)=.ok (.new ds) S:=by
 unfold dC;rw[iP AT];have e:(S++T).take S.length=S:=by simp
 dsimp only;rw[iN0 (by lia),hS];dsimp only;rw[iP h,e]
def rM{n:Nat}{F:List MV->Sto->R Er}{rs:List Er}{S T:Sto}{d:MV}(hn:rs.length=n)(hF:F (zM rs S).1 (zM rs S).2=.ok (.val d) (S++T))(h:lo S.length d)(hd: ∀l,d≠.loc l):zR n F rs S=.ok (.val d) S:=by unfold zR;rw[iP hn,hF];exact lX h hd
def IQ{n:Nat}{F:List MV->Sto->R Er}{rs:List Er}{S T:Sto}{ds:Og}(hn:rs.length=n)(hF:F (zM rs S).1 (zM rs S).2=.ok (.new ds) (S++T))(h:uQ S.length ds):zR n F rs S=.ok (.new ds) S:=by unfold zR;rw[iP hn,hF];exact WB h
def WD{n:Nat}{F:List MV->Sto->R Er}{rs:List Er}{S T:Sto}{l:Nat}{ds:Og}(hn:rs.length=n)(hF:F (zM rs S).1 (zM rs S).2=.ok (.val (.loc l)) (S++T))(hl:S.length<=l)(hS:(S++T)[l]? =some (.lst ds))(h:uQ S.length ds):zR n F rs S=.ok (.new ds) S:=by unfold zR;rw[iP hn,hF];exact WC hl hS h
def oU{n:Nat}{F:List MV->Sto->R Er}{rs:List Er}{S:Sto}{d:MV}(hn:rs.length=n)(hF:F (zM rs S).1 (zM rs S).2=.ok (.val d) S)(h:lo S.length d)(hd: ∀l,d≠.loc l):zR n F rs S=.ok (.val d) S:=rM hn (by rw[aN];exact hF) h hd
section
variable{S:Sto}
theorem WF(b:Bool)(S:Sto):aV (.val (.bl b)) S=.ok b S:=rfl
theorem as_int(i:Int)(S:Sto):Jn (.val (.int i)) S=.ok (some i) S:=rfl
theorem Hi(b:Bool)(S:Sto):nV (.val (.bl b)) S=.ok b S:=rfl
theorem add_int(i j:Int)(S:Sto):jE (.val (.int i)) (.val (.int j)) S=.ok (.val (.int (i+j))) S:=rfl
theorem sub_int(i j:Int)(S:Sto):Gs (.val (.int i)) (.val (.int j)) S=.ok (.val (.int (i - j))) S:=rfl
def fM{p q:Er}{x y:Og}(h1:Au S p=some x)(h2:Au S q=some y)(h:x.length+y.length<=sizeLine):jE p q S=.ok (.new (x++y)) S:=by
 have e:OM p q S=.ok (.new (x++y)) S:=by unfold OM;rw[h1,h2];exact iP h
 unfold jE;split
 .cases h1
 .cases h1
 .cases h1
 .exact e
theorem Hj{g:Int->Int->Bool}(i j:Int)(S:Sto):Le g (.val (.int i)) (.val (.int j)) S=.ok (.val (.bl (g i j))) S:=rfl
def Bj(i j:Int):ZY (.int i) (.int j)=decide (i=j):=by
 show(i==j)=_;by_cases h:i=j
 .subst h;simp
 .rw[dF0 h];simpa using h
def Bk(x y:Db):ZY (.str (bH x)) (.str (bH y))=decide (x=y):=by
 show(bH x==bH y)=_;by_cases h:x=y
 .subst h;simp
 .rw[dF0 h];have:=λz=>h (OA z);simpa using this
theorem uZ(n:Nat)(i j:Int):eqv S (n+1) (.int i) (.int j)=some (decide (i=j)):=by rw[<-Bj];rfl
theorem vA(n:Nat)(x y:Db):eqv S (n+1) (.str x) (.str y)=some (decide (x=y)):=by rw[<-Bk];rfl
theorem WG(n:Nat)(x:Int)(y:Db):eqv S (n+1) (.int x) (.str y)=some false:=rfl
theorem WH(n:Nat)(x:Db)(y:Int):eqv S (n+1) (.str x) (.int y)=some false:=rfl
theorem Hk(n:Nat)(x y:Bool):eqv S (n+1) (.bl x) (.bl y)=some (x==y):=rfl
theorem Bl(d f:MV):pY (.val d) (.val f) S=match eqv S (yK+1) d f with |some k=>.ok (.val (.bl k)) S|none=>.no:=rfl
theorem Bm(d f:MV):TC (.val d) (.val f) S=match eqv S (yK+1) d f with |some k=>.ok (.val (.bl !k)) S|none=>.no:=rfl
def LT{d f:MV}{k:Bool}(h:eqv S (yK+1) d f=some k):pY (.val d) (.val f) S=.ok (.val (.bl k)) S:=by rw[Bl,h]
def LU{d f:MV}{k:Bool}(h:eqv S (yK+1) d f=some k):TC (.val d) (.val f) S=.ok (.val (.bl !k)) S:=by rw[Bm,h]
def eq_int(i j:Int)(S:Sto):pY (.val (.int i)) (.val (.int j)) S=.ok (.val (.bl (decide (i=j)))) S:=LT (uZ _ i j)
def ne_int(i j:Int)(S:Sto):TC (.val (.int i)) (.val (.int j)) S=.ok (.val (.bl (!decide (i=j)))) S:=LU (uZ _ i j)
theorem lt_int(i j:Int)(S:Sto):YZ (.val (.int i)) (.val (.int j)) S=.ok (.val (.bl (decide (i<j)))) S:=rfl
theorem lt_str(i j:Db)(S:Sto):YZ (.val (.str i)) (.val (.str j)) S=.ok (.val (.bl (decide (i<j)))) S:=rfl
theorem bF{b:Int}(h:0<b)(h2:b<1073741824)(a:Int)(S:Sto):CV (.val (.int a)) (.val (.int b)) S=.ok (.val (.int (a / b))) S:=by
 refine iP ⟨h,?_⟩;have h3:b.natAbs<2 ^ 30:=by omega
 have:=(log2_lt (by omega:b.natAbs≠0)).mpr h3
 lia
def mod_lit{b:Int}(h:0<b)(a:Int)(S:Sto):lU (.val (.int a)) (.val (.int b)) S=.ok (.val (.int (a % b))) S:=iP h
def FW{b:Int}(h: -(2 ^ 64)<b/\b<2 ^ 64)(a:Int)(S:Sto):LM (.val (.int a)) (.val (.int b)) S=.ok (.val (.int (a * b))) S:=iP (Or.inr (Or.inl h))
theorem Bn(ρ:Rho)(i:Nat)(d:MV)(S:Sto):LD ρ i (.val d) S=.ok (.next (ρ.set i (some d))) S:=rfl
theorem Bo(ρ:Rho)(i:Nat)(ds:Og)(S:Sto):LD ρ i (.new ds) S=.ok (.next (ρ.set i (some (.loc S.length)))) (S++[.lst ds]):=rfl
theorem Bp(S:Sto):zM [] S=([],S):=rfl
theorem Bq(d:MV)(rs:List Er)(S:Sto):zM (.val d::rs) S=(d::(zM rs S).1,(zM rs S).2):=rfl
theorem zF{F G:AY}{ρ ρ':Rho}{S S':Sto}(h:F ρ S=.ok (.next ρ') S'):zZ F G ρ S=G ρ' S':=by unfold zZ;rw[h];rfl
theorem wG{F G:AY}{ρ:Rho}{S S':Sto}{r:Er}(h:F ρ S=.ok (.ret r) S'):zZ F G ρ S=.ok (.ret r) S':=by unfold zZ;rw[h];rfl
def AW(S:Sto):stay [] S:=jY
def rN{gf:MV->Rho->Sto->R Rho}{b:AY}{gs:Oj}{d:MV}{ds:Og}{ρ ρ0 ρ':Rho}{S0 S':Sto}(hg:gf d ρ S=.ok ρ0 S0)(h:b ρ0 S0=.ok (.next ρ') S')(hs:stay gs S'):eT gf b gs (d::ds) ρ S=eT gf b gs ds ρ' S':=by
 conv=>lhs;unfold eT
 rw[hg,pD,h,pD];dsimp only;rw[iP hs]
theorem FX{α:Type}{xs:List α}{i:Int}(h0:0<=i)(h1:i<xs.length): ∃c,lE xs i=some c:=by refine⟨xs[i.toNat]'(by lia),?_⟩;unfold lE HS;rw[iP h0,iP h1];exact gE _
def FY{α:Type}{P:α->Prop}{xs:List α}{i:Int}{e:α}(h: ∀e∈xs,P e)(z:lE xs i=some e):P e:=by
 unfold lE at z
 cases q:HS xs.length i with
 |none=>rw[q]at z;cases z
 |some j=>rw[q]at z;exact h e (mem_of_getElem? z)
def ix_tup{ds:Og}{i:Int}{d:MV}(hk:lE ds i=some d):xS (.val (.tup ds)) (.val (.int i)) S=.ok (.val d) S:=by show(match lE ds i with |some d=>R.ok _ S|none=>.no)=_;rw[hk]
def fN{ds:Og}{i:Int}{d:MV}(hk:lE ds i=some d):xS (.new ds) (.val (.int i)) S=.ok (.val d) S:=by show(match lE ds i with |some d=>R.ok _ S|none=>.no)=_;rw[hk]
def LV{l:Nat}{ds:Og}{i:Int}{d:MV}(hS:S[l]? =some (.lst ds))(hk:lE ds i=some d):xS (.val (.loc l)) (.val (.int i)) S=.ok (.val d) S:=by
 have e:bW S (.val (.loc l))=some ds:=by unfold bW;dsimp only;rw[hS]
 show(match bW S _ with |some ds=>getL ds _ S|none=>.no)=_;rw[e];show(match lE ds i with |some d=>R.ok _ S|none=>.no)=_;rw[hk]
def Br{l:Nat}{ds:Og}(hS:S[l]? =some (.lst ds)):cP [.val (.loc l)] S=.ok (.val (.int ds.length)) S:=by
 have e:bW S (.val (.loc l))=some ds:=by unfold bW;dsimp only;rw[hS]
 have e2:itemsOf S (.val (.loc l))=some ds:=by unfold itemsOf;exact e
 show(match itemsOf S _ with |some ds=>R.ok _ S|none=>.no)=_;rw[e2]
def rO{l:Nat}{ds:Og}(hS:S[l]? =some (.lst ds)):bW S (.val (.loc l))=some ds:=by unfold bW;dsimp only;rw[hS]
def rP{l:Nat}{ds:Og}(hS:S[l]? =some (.lst ds)):Au S (.val (.loc l))=some ds:=by unfold Au;dsimp only;rw[hS]
def WI{l:Nat}{ds:Og}(hS:S[l]? =some (.lst ds)):stay [(l,ds)] S:=λp hp=>by
 have:=by simpa using hp
 subst this;exact hS
def LW{j:Int}(h: -(2 ^ 62)<=j/\j<2 ^ 62):ED [.val (.int j)] S=.ok ⟨(List.range j.toNat).map λk=>.int (k:Nat),[]⟩ S:=iP h
def fits{n:Nat}(h:n<=1000000):n<=sizeLine:=by rw[sizeLine_eq];exact Nat.le_trans h (by decide)
def sZ{rs:List Er}(h:rs.length<=1000000):jA rs S=.ok (.new (zM rs S).1) (zM rs S).2:=iP (fits h)
def BA{rs:List Er}(h:rs.length<=1000000):zY rs S=.ok (.val (.tup (zM rs S).1)) (zM rs S).2:=iP (fits h)
def lst0(S:Sto):jA [] S=.ok (.new []) S:=sZ (by simp)
def lst1(a:MV)(S:Sto):jA [.val a] S=.ok (.new [a]) S:=sZ (by simp)
def lst2(a b:MV)(S:Sto):jA [.val a,.val b] S=.ok (.new [a,b]) S:=sZ (by simp)
def lst3(a b c:MV)(S:Sto):jA [.val a,.val b,.val c] S=.ok (.new [a,b,c]) S:=sZ (by simp)
def lst6(a b c d e f:MV)(S:Sto):jA [.val a,.val b,.val c,.val d,.val e,.val f] S=.ok (.new [a,b,c,d,e,f]) S:=sZ (by simp)
def tup2(a b:MV)(S:Sto):zY [.val a,.val b] S=.ok (.val (.tup [a,b])) S:=BA (by simp)
def tup3(a b c:MV)(S:Sto):zY [.val a,.val b,.val c] S=.ok (.val (.tup [a,b,c])) S:=BA (by simp)
theorem Hl(i:Int)(S:Sto):iY [.val (.int i),.val (.typ "str")] S=.ok (.val (.bl false)) S:=rfl
theorem Hm(i:Db)(S:Sto):iY [.val (.str i),.val (.typ "str")] S=.ok (.val (.bl true)) S:=rfl
theorem Hn(i:Int)(S:Sto):iY [.val (.int i),.val (.typ "tuple")] S=.ok (.val (.bl false)) S:=rfl
theorem Ho(i:Db)(S:Sto):iY [.val (.str i),.val (.typ "tuple")] S=.ok (.val (.bl false)) S:=rfl
theorem Hq(i:Og)(S:Sto):iY [.val (.tup i),.val (.typ "tuple")] S=.ok (.val (.bl true)) S:=rfl
theorem Hr(i:Bool)(S:Sto):iY [.val (.bl i),.val (.typ "bool")] S=.ok (.val (.bl true)) S:=rfl
theorem lY{gf:MV->Rho->Sto->R Rho}{cf:AZ}{ef:AX}{ρb:Rho}{gs:Oj}{F:MV->MV}(hs:stay gs S):
  ∀{ds:Og},(∀d∈ds, ∃ρ1,gf d ρb S=.ok ρ1 S/\cf ρ1 S=.ok true S/\ef ρ1 S=.ok (.val (F d)) S)->dB gf cf ef ρb gs ds S=.ok (ds.map F) S
 |[],_=>rfl
 |d::ds,st=>by obtain⟨ρ1,h1,h2,h3⟩:=st d mF0;have e:=lY hs (ds:=ds) λd hd=>st d (mO _ hd);unfold dB;rw[h1,aW,pD,h2,aW,pD,iP rfl,h3,aW,pD];unfold fK;rw[pD,iP hs,e];rfl
def Nm(x:Db):Prop:=1<=x.length/\x.length<=8/\ ∀c∈x,97<=c/\c<=122
def Vl:MV->Prop
 |.int i=> -(10 ^ 30)<i/\i<10 ^ 30
 |.str x=>Nm x
 |_=>False
def Vl.cases{d:MV}(h:Vl d):(∃i,d=.int i/\ -(10 ^ 30)<i/\i<10 ^ 30)\/ ∃x,d=.str x/\Nm x:=by
 cases d with
 |int i=>exact .inl ⟨i,rfl,h⟩
 |str x=>exact .inr ⟨x,rfl,h⟩
 |_=>exact h.elim
end
def Ite(K:Od)(k:Bool)(l:Addr):It:=
 ⟨λi H=> ∃xs x,Do k K H l xs/\xs[i]? =some x,
   λi H v H'=> ∃p x,H p=none/\v=.ref p/\H'=xT H p (.tup [.int (i:Nat),x])/\(∀xs,Do k K H l xs->xs[i]? =some x),
   λi H=> ∃xs,Do k K H l xs/\xs.length<=i⟩
section
variable{prog:Program}{w:World}{A:Around}{E:VP}{s:Shared}{k:Bool}{l:Addr}{its:Nd}
def RO(hl:uI k s.heap l its){Q:VP}
  (h: ∀h',EnSt k (s.heap.objs.size+1) s.heap.objs.size l 0 h'->(∀c o,s.heap.get? c=some o->h'.get? c=some o)->Q (.ref (s.heap.objs.size+1)) {s with heap:=h'}):
  wpAny (model prog w) A (call (.type "enumerate") [.ref l]) Q E s:=by
 refine callType_new F.called_enumerate (by decide) (F.typeCall_enumerate_1 _) (F.newCall_enumerate_1 _) (λobj=>F.args_object_init_2 obj _) F.entry_enumerate_new (LS k l its) ⟨hl,?_⟩;have hz:(s.heap.push (AR k l)).objs.size=s.heap.objs.size+1:=Heap.size_push ..;have he:=by have:=Heap.get?_push_size (s.heap.push (AR k l)) (o:={cls:=.type "enumerate",data:=.fields #[.none,.bool false,.ref s.heap.objs.size,rawInt 0,.none,.none]}) rfl;rw[hz]at this;exact this
 refine⟨⟨_,he,rfl⟩,h _ ⟨⟨_,he⟩,IsSub.mk' (hP0 _ (Heap.get?_push_size _ rfl))⟩ λb o x=>hP0 _ (hP0 _ x)⟩
end
theorem RP{P:Program}{w:World}{K:Od}{elts:Oc}{kt:Nat}{pt:Pos}{k:Bool}{e it l:Addr}(hne:e≠it):
  Turn P w K (.Tuple elts kt pt) (Ite K k l) [e,it] e (λi h=>EnSt k e it l i h) where
 mem:=by simp
 obj:=λi h st b hb=>by
  obtain⟨⟨old,he⟩,hs⟩:=st;have hb':b=e\/b=it:=by simpa using hb
  rcases hb' with rfl|rfl
  .exact⟨_,he,λv q=>by cases q⟩
  .exact hs.there
 keep:=λi h h' st kk=>by obtain⟨⟨old,he⟩,hs⟩:=st;exact⟨⟨old,kk e (by simp) _ he⟩,hs.move λo q=>kk it (by simp) o q⟩
 item:=by
  intro X hP hw hK hc i pins s σ H E I hf st hg;subst hP hw hK;obtain⟨xs,x,q1,hx⟩:=hg;obtain⟨its,r1,p1,_⟩:=I.seqK q1;obtain⟨u,hu,ru⟩:=r1.get hx;obtain⟨⟨old,he⟩,hs⟩:=st;have hT:s.TypeIs (.ref e) "enumerate":=⟨_,he,rfl⟩
  unfold pyNext
  refine wB (wpAny_attempt (wpAny_callSpecial?_slot hT F.slot_enumerate_next (wpAny_call_entry F.slot_enumerate_next hT F.entry_enumerate_next
   (Bi he hs p1 (by simpa using hu) hne λh' a1 a2 a3 a4=>wP ⟨_,rfl,?_⟩) (F.args_enumerate_next_1 _))))
  refine wpAny_letOwnedTupleGo_enum a1 λh2 z2 sb2=>?_;have hpn:H s.heap.objs.size=none:=I.hok.fresh (Nat.le_refl _)
  have I0:Inv X pins σ _ {s with heap:=s.heap.push {cls:=.type "tuple",data:=.seq #[.int i s.toks,u]},toks:=s.toks+1}:=
   I.laid (o:=.tup [.int (i:Nat),x]) (λb o e=>hP0 _ e) (Nat.le_refl _) ⟨by show 2<=sizeLine;decide,_,.cons ⟨_,rfl⟩ (.cons ru .nil),⟨_,Heap.get?_push_size _ rfl,rfl,_,rfl⟩⟩
  have lt: ∀b∈[e,it],b<s.heap.objs.size:=λb hb=>by
   have hb':b=e\/b=it:=by simpa using hb
   rcases hb' with rfl|rfl
   .exact Heap.lt_size he
   .obtain⟨o,eo,_⟩:=hs.there;exact Heap.lt_size eo
  have fr: ∀b∈[e,it],xT H s.heap.objs.size (.tup [.int (i:Nat),x]) b=none:=λb hb=>by rw[zI (Nat.ne_of_lt (lt b hb))];exact(hf b hb).1
  have mv: ∀b o,b∉[e,it]->(s.heap.push {cls:=.type "tuple",data:=.seq #[.int i s.toks,u]}).get? b=some o->h2.get? b=some o:=λb o hb eo=>by
   simp only[mC,nM,or_false,not_or]at hb;refine sb2.extBut _ _ hb.1 ?_;by_cases hbs:b=s.heap.objs.size
   .subst hbs;rw[Heap.get?_push_size _ rfl]at eo;cases eo;exact a3
   .rw[Heap.get?_push_ne _ _ _ hbs]at eo;exact a4 b o hb.1 hb.2 eo
  have I2:=I0.turnedL (t':=s.toks+1) mv λb hb=>let ⟨_,c2,c3,c4,c5,c6⟩:=hf b hb;⟨fr b hb,c2,c3,c4,c5,c6⟩;refine⟨.ref s.heap.objs.size,_,I2,rfl,⟨_,x,hpn,rfl,rfl,λzs hz=>?_⟩,⟨⟨u,?_⟩,?_⟩,fr⟩
  .rw[I.seqK_inj hz q1];exact hx
  .simpa using z2
  .exact a2.move λo eo=>sb2.extBut _ _ (Ne.symm hne) eo
 done:=by
  intro X hP hw hK hc i pins s σ H E I hf st hg;subst hP hw hK;obtain⟨xs,q1,hx⟩:=hg;obtain⟨its,r1,p1,_⟩:=I.seqK q1;obtain⟨⟨old,he⟩,hs⟩:=st;have hT:s.TypeIs (.ref e) "enumerate":=⟨_,he,rfl⟩
  have e1:=r1.length;unfold pyNext;refine wB (wpAny_attempt (wpAny_callSpecial?_slot hT F.slot_enumerate_next (wpAny_call_entry F.slot_enumerate_next hT F.entry_enumerate_next ?_ (F.args_enumerate_next_1 _))));show wpAny _ _ (field (.ref e) 2 >>= _) _ _ _;refine wB (wpAny_field he rfl rfl ?_);refine wB (Bg (I.ok.hd hc) hs p1 (by simp;lia) λh' x hk hx'=>?_);obtain⟨o,ho,hcl⟩:=hx';refine wB (wpAny_isInstance ⟨o,ho,hcl⟩ isSubtype_stop (wP ⟨rfl,?_⟩));refine I.turnedL (λb o hb eo=>?_) hf;simp only[mC,nM,or_false,not_or]at hb;exact hk b o hb.2 eo
 self:=λ_ _ _ _ _ st h=>let ⟨⟨_,he⟩,_⟩:=st;wpAny_pyIter_enum he h
def Ll(K:Od)(ta:TA):TI:=λσ H R=>ta σ H λvs H1=> ∃k l,vs=[.ref l]/\(∃xs,Do k K H1 l xs)/\R (Ite K k l) H1
section
variable{X:Cx}{W:XW}{a:Expr}{elts:Oc}{kt:Nat}{pt p pos:Pos}{ta:TA}{af:Rho->Sto->R (List Er)}
def Bs(hg:Gl X "enumerate")(hm:X.mg "enumerate"=none)(ha:PA X [a] ta)(hs:starEach [a] X.env=[(false,eval a X.env)]:=by rfl):
  PI X (.Tuple elts kt pt) (.Call (.Name "enumerate" p) [a] [] pos) (Ll X.K ta):=by
 intro pins s σ H R I h;refine Call_ (vO I hg hm Bh (PyProof.Rows.callWith_type1 (wM (ha pos pins s σ H _ I h) λus s1 ⟨vs,H1,I1,r1,q1⟩=>?_) (by rw[hs];rfl) (by rfl)));obtain⟨k,l,rfl,⟨xs,c1⟩,q⟩:=q1
 cases r1 with
 |cons r rr=>
  cases rr;cases r;obtain⟨its,v1,p1,_⟩:=I1.seqK c1;refine RO p1 λh' st hk=>let ⟨⟨_,he⟩,_⟩:=id st;wpAny_pyIter_enum he ?_;have I2:Inv X pins σ H1 {s1 with heap:=h'}:=I1.kept hk;refine⟨_,_,_,_,H1,rfl,I2,RP (Nat.ne_of_gt (Nat.lt_succ_self _)),st,λb hb=>?_,q⟩
  have hle:s1.heap.objs.size<=b:=by
   have hb':=by simpa using hb
   rcases hb' with h|h<;>rw[h]<;>(first |exact Nat.le_refl _|exact Nat.le_add_right _ _)
  exact I1.fpOk hle (I1.hok.fresh hle)
def FZ(xs:Og):List MV:=xs.zipIdx.map λp=>.tup [.int (p.2:Nat),p.1]
def itE(rs:List Er)(S:Sto):R Wk:=match rs with
 |[p]=>match srcOf S p with
  |some a=>.ok ⟨FZ a.ds,a.gs⟩ S
  |none=>.no
 |_=>.no
theorem vB(hg:Gl X "enumerate")(hm:X.mg "enumerate"=none)(ha:CO X W [a] af)(hs:starEach [a] X.env=[(false,eval a X.env)]:=by rfl):
  PIm X W (.Tuple elts kt pt) (.Call (.Name "enumerate" p) [a] [] pos) (λρ S=>(af ρ S).bind itE):=by
 obtain⟨t,ha,k⟩:=ha;refine⟨_,Bs hg hm ha hs,λα ρ S σ H Rc wd sl q=>k α ρ S σ H _ wd sl (q.bind λvs rs S1 α1 H1 e x1 w1 d1 q1=>?_)⟩
 replace q1:=q1.shift x1
 unfold itE at q1;split at q1
 .rename_i r1;split at q1
  .rename_i s1 e1;obtain⟨u,rfl,du⟩:=VF d1;obtain⟨l1,P1,rfl,p1,D1⟩:=He w1 e1 du;have g1:=D1.get _ _ _ p1;have hlen:(FZ s1.ds).length=s1.ds.length:=by unfold FZ;rw[lM0,List.length_zipIdx]
   refine⟨s1.k,l1,rfl,⟨_,g1.choose_spec.1⟩,q1.here w1 ⟨λα S H=>P1 α S H,?_,p1,?_,?_⟩⟩
   .intro i α2 S2 H2 b1 w2;obtain⟨us,c1,c2⟩:=D1.get _ _ _ b1;have hl:=c2.length;refine⟨λhi=>?_,λhi=>?_⟩
    .have hi:i<(FZ s1.ds).length:=hi;have h1:i<us.length:=by lia
     refine⟨⟨us,_,c1,gE h1⟩,?_⟩;rintro x H' ⟨pp,xx,hp,rfl,rfl,hx⟩;obtain⟨d,hd,dd⟩:=c2.get (hx us c1);have xn:=w2.newx (o:=.tup [.int (i:Nat),xx]) hp;have wn:=w2.new (o:=.tup [.int (i:Nat),xx]) hp;refine⟨xn,wn,D1.stays _ _ _ _ _ _ b1 xn wn (D1.st _ _ _ b1),.tup [.int (i:Nat),d],?_,?_⟩
     .unfold FZ;rw[getElem?_map,List.getElem?_zipIdx,hd];simp
     .exact cN (.of zQ) (yX (xR _) (yX (dd.ext xn) xN))
    .have hi:(FZ s1.ds).length<=i:=hi;exact⟨us,c1,by lia⟩
   .intro α1 S1 H1 α2 S2 H2 b1 x w hs;exact D1.stays _ _ _ _ _ _ b1 x w hs
   .exact D1.st _ _ _ p1
  .exact q1.elim
 .exact q1.elim
end
instance:DecidableEq MV:=λ_ _=>Classical.propDecidable _
def look(kvs:Pa)(k:MV):Option MV:=(kvs.find? λp=>decide (p.1=k)).map (·.2)
section
variable{X:Cx}{W:XW}{o:Expr}{pos:Pos}
def Hs{pins:Nk}{σ:St}{H:Hp}{s:Shared}(I:Inv X pins σ H s):sysModules<s.heap.objs.size:=lt_trans (by decide) ((I.mod.glob.keeps I.bk).lt)
theorem Wd.put{gg:Gm}{α:Ng}{S:Sto}{H:Hp}{p:Addr}{ho:HO}{m:MO}(w:Wd gg α S H)(hp:H p=none)(q:ObD gg (α++[p]) (xT H p ho) p m):Ext α H (α++[p]) (xT H p ho)/\Wd gg (α++[p]) (S++[m]) (xT H p ho):=by
 have x:=w.newx (o:=ho) hp;have nw:=w.new (o:=ho) hp;have np:=w.fresh hp;refine⟨⟨⟨⟨[p],rfl⟩,x.tup,x.frz⟩,λb hb=>?_,x.keep,x.has⟩,⟨?_,?_,λl c ob h1 h2=>?_⟩⟩
 .rcases List.mem_append.mp hb with h|h
  .exact .inl h
  .rw[mS.mp h];exact .inr hp
 .rw[lA,lA,w.len];rfl
 .exact List.nodup_append.mpr ⟨w.nd,by simp,λa ha c hc=>by rw[mS.mp hc];rintro rfl;exact np ha⟩
 .by_cases hl:l<α.length
  .rw[getElem?_append_left hl]at h1;rw[getElem?_append_left (by rw[<-w.len];exact hl)]at h2;exact(nw.obj l c ob h1 h2).move (Ex0.grow α [p] _) rfl
  .have hl':l=α.length:=by
    have:=(gS.mp h1).1;rw[lA,lS]at this
    lia
   subst hl';rw[getElem?_append_right (Nat.le_refl _),sub_self]at h1;rw[getElem?_append_right (by rw[w.len];exact Nat.le_refl _),w.len,sub_self]at h2;cases h1;cases h2;exact q
def Dp(S:Sto):R Er:=.ok (.val (.loc S.length)) (S++[.dic []])
def WJ:yL X W (.Dict [] [] pos) (λ_ S=>Dp S):=by
 refine⟨λσ H Q=> ∀p,H p=none->Q (.ref p) (xT H p (.dK [])),λpins s σ H Q I h=>?_,λα ρ S σ H Q wd sl q p hp=>?_⟩
 .exact wpAny_Dict_empty ⟨.ref s.heap.objs.size,_,I.laid (o:=.dK []) (λ_ _ q=>hP0 _ q) (Nat.le_refl _)
   ⟨zero_le _,beq_eq_false_iff_ne.mpr (Ne.symm (Nat.ne_of_lt (Hs I))),[],.nil,Heap.DictOf.new s.heap⟩,rfl,h _ (I.hok.fresh (Nat.le_refl _))⟩
 .obtain⟨x,w'⟩:=wd.put (m:=.dic []) hp (.inl ⟨[],zQ,.nil⟩);exact q _ _ _ x w' (DenE.val (aF (by rw[<-wd.len,getElem?_append_right (Nat.le_refl _),sub_self];rfl)))
theorem DenN.length{α:Ng}{H:Hp}: ∀{kvs xs},DenN X.K α H kvs xs->xs.length=kvs.length
 |_,_,.nil=>rfl
 |_,_,.cons _ _ _ _ _ l=>by rw[lC0,lC0,DenN.length l]
end
def OT:MV->V
 |.non=>.non
 |.bl b=>.bl b
 |.int i=>.int i
 |.str x=>.str (bH x)
 |.typ n=>.ty n
 |_=>.non
def GA:MV->Bool
 |.non=>true
 |.bl _=>true
 |.int _=>true
 |.str _=>true
 |_=>false
def WK{K:Od}{α:Ng}{H:Hp}{d:MV}(h:GA d=true):Den K α H d (OT d):=by
 cases d with
 |non=>exact jW
 |bl b=>exact xX b
 |int i=>exact xR i
 |str x=>exact cL x
 |_=>exact absurd h xF0
theorem EI{K:Od}{α:Ng}{H:Hp}: ∀{ds:Og},ds.all GA=true->DenL K α H ds (ds.map OT)
 |[],_=>xN
 |d::ds,h=>by rw[List.all_cons,aE]at h;exact yX (WK h.1) (EI h.2)
structure GTup(K:Od)(mg:Ni)(x:Str)(ds:Og):Prop where
 ex: ∃(a:Addr)(o:Obj)(its:Nd)(n:Nat),mg x=some (.ref a)/\K.lookup a=some o/\o.cls=.type "tuple"/\o.data=.seq its n/\its.size<=sizeLine/\Vals (ds.map OT) its.toList
 fl:ds.all GA=true
def Bt{X:Cx}{W:XW}{x:Str}{ds:Og}{pos:Pos}(hg:Gl X x)(G:GTup X.K X.mg x ds)(hd:(x==("__debug__":Str))=false:=by decide):yL X W (.Name x pos) (λ_ S=>.ok (.val (.tup ds)) S):=by obtain⟨⟨a,o,its,n,hm,lk,hc,hdt,hz,hv⟩,hf⟩:=G;exact⟨_,EW (v:=.ref a) hg hm rfl hd,λα ρ S σ H Q wd sl q=>Post.val q wd (cN (.inr ⟨o,its,n,lk,hc,hdt,hz,hv⟩) (EI hf))⟩
def FsD(g:Gm)(α:Ng)(H:Hp)(d:Option Addr)(fs:List (Str×MV)):Prop:=fs=[]\/ ∃dx gs od,d=some dx/\H dx=some (.frz od (.xd gs))/\DenF g.K α H fs gs
abbrev WE(g:Gm)(E:XK):XW:=λc fs _ α H=> ∀C d,g.mg c=some (.ref C)->FsD g α H d fs->E (.ref C) d H
def fO:MV->Bool
 |.non=>true
 |.bl _=>true
 |.int _=>true
 |.str _=>true
 |_=>false
def RQ{K:Od}{α α':Ng}{H:Hp}: ∀{d:MV}{v:V},fO d=true->Den K α H d v->Den K α' H d v
 |.non,_,_,q=>by cases bU q;exact jW
 |.bl _,_,_,q=>by cases aG q;exact xX _
 |.int _,_,_,q=>by cases kY q;exact xR _
 |.str _,_,_,q=>by cases jQ q;exact cL _
theorem BB{K:Od}{α α':Ng}{H:Hp}: ∀{fs gs},fs.all (λp=>fO p.2)=true->DenF K α H fs gs->DenF K α' H fs gs
 |_,_,_,.nil=>.nil
 |_,_,h,.cons a l=>by rw[List.all_cons,aE]at h;exact .cons (RQ h.1 a) (BB h.2 l)
def Post.wmono{β τ:Type}[Dn β τ]{g:Gm}{W W':XW}{α:Ng}{H:Hp}(f: ∀c fs S α' H',W c fs S α' H'->W' c fs S α' H'): ∀{m:R β}{Q:τ->Hp->Prop},Post g W α H m Q->Post g W' α H m Q
 |.ok b S,Q,q=>q
 |.exc c fs S,_,q=>λα' H' x w=>f _ _ _ _ _ (q α' H' x w)
 |.no,_,q=>q
def oV(K:Od)(C:Addr)(bm:Nc)(init:Option Value):Prop:=
 ∃nm q N bs hd sn sub ab col dd k0 k1 k2 k3 k5,K.lookup C=some (excClassObj nm q C N bs bm hd sn sub ab col dd k0 k1 k2 k3 k5 "ValueError.__new__")/\PySem.W.nsOkIn K N=true/\PySem.W.nsIn K N "__init__"=some init/\(∀n∈qn,PySem.W.nsIn K N n=some none)/\hd=true
def XEach(K:Od)(mg:Ni)(M:Addr):List (Str×Addr)->Prop
 |[]=>True
 |(c,C)::r=>(mg c=some (.ref C)/\ ∃i,oV K C (.ref M::bI) i)/\XEach K mg M r
structure XTab(K:Od)(mg:Ni)(M:Addr)(cs:List (Str×Addr)):Prop where
 m:mg "MendError"=some (.ref M)
 mc:oV K M bI none
 each:XEach K mg M cs
 nd:(M::cs.map (·.2)).Nodup
theorem XEach.at{K:Od}{mg:Ni}{M:Addr}: ∀{cs:List (Str×Addr)},XEach K mg M cs-> ∀{c C},(c,C)∈cs->mg c=some (.ref C)/\ ∃i,oV K C (.ref M::bI) i
 |_::r,h,c',C',z=>by
  rcases mC.mp z with z|z
  .cases z;exact h.1
  .exact XEach.at h.2 z
def rQ{K:Od}{h:Heap}{C M:Addr}{i:Option Value}(X:K.In h)(c:oV K C (.ref M::bI) i)(m:oV K M bI none):eQ h C M:=by
 obtain⟨_,_,N,_,_,_,_,_,_,_,_,_,_,_,_,l,o,_,q⟩:=c;obtain⟨_,_,N',_,_,_,_,_,_,_,_,_,_,_,_,l',o',_,q'⟩:=m
 exact⟨_,_,_,_,_,_,_,_,_,_,_,_,_,_,_,_,_,X _ _ l,.of_isNs (PySem.W.isNs_of_in X o),λn hn=>PySem.W.nsMap_none_of_in X o (q.1 n hn),
  _,_,_,_,_,_,_,_,_,_,_,_,_,_,_,_,_,X _ _ l',.of_isNs (PySem.W.isNs_of_in X o'),λn hn=>PySem.W.nsMap_none_of_in X o' (q'.1 n hn)⟩
section
variable{X:Cx}{E:XK}{e:Expr}{es:Oc}{af:Rho->Sto->R (List Er)}{pos np cpos:Pos}{x:Str}{C M:Addr}
def tB(hx:XOk X E)(hg:Gl X x)(hm:X.mg x=some (.ref C))(hc:oV X.K C (.ref M::bI) none)(hM:oV X.K M bI none)(ha:CO X (WE X.g E) (e::es) af)(hex:X.ex=[]:=by rfl)(hcalm:X.calm=true:=by rfl)
  (hd:(x==("__debug__":Str))=false:=by decide) (he:starEach (e::es) X.env=(false,eval e X.env)::starEach es X.env:=by rfl) (hpl:(backTo cpos (starEach es X.env)).any (·.1)=false:=by rfl):
  SZ X (WE X.g E) (.Raise (some (.Call (.Name x np) (e::es) [] cpos)) none pos) (λρ S=>(af ρ S).bind λrs S1=>if rs.length<=10 then .exc x [] S1 else .no):=by
 obtain⟨ta,ha,fa⟩:=ha;refine⟨λD σ H=>ta σ H λvs H1=>vs.length<=10/\E (.ref C) none H1,λpins s σ H D I h=>?_,λα ρ S σ H D wd sl q=>fa α ρ S σ H _ wd sl (q.expr λvs rs S1 α1 H1 e1 x1 w1 d1 q1=>?_)⟩
 .obtain⟨nm,q,N,bs,hdt,sn,sub,ab,col,dd,k0,k1,k2,k3,k5,lC,oN,iN,_⟩:=hc;obtain⟨_,_,N',_,_,_,_,_,_,_,_,_,_,_,_,lM,oM,iM,_⟩:=hM;have XB:=I.mod.kin;have hN:=Heap.Ns.of_isNs (PySem.W.isNs_of_in XB oN);have hni:=PySem.W.nsMap_none_of_in XB oN iN;have T:OwnTail X.base bI (.ref M::bI):=.own (XB _ _ lM) (.of_isNs (PySem.W.isNs_of_in XB oM)) (PySem.W.nsMap_none_of_in XB oM iM) .base
  refine wpAny_Raise_call_subT (C:=C) (nm:=nm) (q:=q) (N:=N) (bs:=bs) (bm:=.ref M::bI) (hdct:=hdt) (sn:=sn) (sub:=sub) (ab:=ab) (col:=col) (dd:=dd) (k0:=k0) (k1:=k1) (k2:=k2) (k3:=k3) (k5:=k5)
   F.excBase_ValueError (T.hasType F.excBase_ValueError.hasBase) (I.ok.hd hcalm) (by rw[he];exact hpl) hni (bD I hg hm ⟨rfl,?_⟩ hd)
  have hr:=ha cpos pins s σ H _ I h;rw[he]at hr ⊢;refine Calls.evalArgs_plain (wM hr λus s1 ⟨vs,H1,I1,r1,hl,hE⟩=>⟨rfl,by rw[<-r1.length];exact Nat.le_trans hl (by decide),I1.bk _ _ (XB _ _ lC),hN.keeps I1.bk,T.keeps I1.bk,λh' a mk=>?_⟩);obtain⟨t,ht,_,_⟩:=mk.there;exact hx.born pins σ H1 _ a C none (I1.kept (t':=s1.toks) mk.keeps) ⟨_,_,ht,rfl,rfl,rfl,rfl,rfl⟩ (I1.older hex mk.new) (I1.hok.none_of mk.new) hE
 .split at q1
  .rename_i hl;exact⟨by rw[ArgsE.length d1];exact hl,q1 α1 H1 x1 w1 C none hm (.inl rfl)⟩
  .exact q1.elim
end
section
variable{X:Cx}{W:XW}{a:Expr}{f:AX}{pos p p2:Pos}{M:Addr}{cs:List (Str×Addr)}{c2:Str}{D:Addr}
def iZ(ns:Nh)(c2:Str):Er->Sto->R Er
 |.val (.loc l),S=>match S[l]? with
  |some (.ins c _)=>if c∈ns then .ok (.val (.bl (decide (c=c2)))) S else .no
  |_=>.no
 |_,_=>.no
def RS(ns:Nh):Er->Sto->R Er
 |.val (.loc l),S=>match S[l]? with
  |some (.ins c _)=>if c∈ns then .ok (.val (.bl true)) S else .no
  |_=>.no
 |_,_=>.no
def IsX(X:Cx)(M:Addr)(H:Hp)(x:V)(C:Addr):Prop:= ∃aa oe,x=.ref aa/\H aa=some (.frz oe (.ext λh=>h.get? aa=some oe))/\oe.cls=.ref C/\(∃i,oV X.K C (.ref M::bI) i)/\oV X.K M bI none
def WM:CallR X (.builtin "isinstance") (λxs H Q=> ∃x C D,xs=[x,.ref D]/\IsX X M H x C/\(C=D\/(C≠D/\M≠D/\ ∃bm i,oV X.K D bm i))/\Q (.bl (decide (C=D))) H):=by
 intro pins s σ H xs us Q I r h;obtain⟨_,C,D,rfl,⟨aa,oe,rfl,hH,hc,⟨i,cC⟩,cM⟩,hD,q⟩:=h
 obtain⟨u1,us,r1,⟨u2,_,r2,r3,rfl⟩,rfl⟩: ∃u1 us',RelV (.ref aa) u1/\(∃u2 us'',RelV (.ref D) u2/\Vals [] us''/\us'=u2::us'')/\us=u1::us':=by
  cases r with
  |cons r1 r=>cases r with
   |cons r2 r=>exact⟨_,_,r1,⟨_,_,r2,r,rfl⟩,rfl⟩
 cases r1;cases r2;cases r3;have ha:s.heap.get? aa=some oe:=(I.hok aa _ hH).1;have O:=rQ I.kIn cC cM;obtain⟨hp,g,d,tk,os⟩:=s;rcases hD with rfl|⟨n1,n2,bm,i2,cD⟩
 .refine PyProof.Rows.call_isinstance_of (RE ha hc ⟨.bl true,H,I,rfl,?_⟩);simpa using q
 .obtain⟨_,_,_,_,_,_,_,_,_,_,_,_,_,_,_,lD,_⟩:=cD;obtain⟨oC,hC,hCc,hCd⟩:=UX O;refine PyProof.Rows.call_isinstance_of (Ah O ha hc (I.kIn _ _ lD) hC hCc hCd ?_ ⟨.bl false,H,I.tok _,rfl,?_⟩)
  .simp only[List.contains_cons,List.contains_nil,Bool.or_eq_false_iff,beq_eq_false_iff_ne];exact⟨λz=>n1 (by cases z;rfl),λz=>n2 (by cases z;rfl),by simp,by simp,by simp,by simp,trivial⟩
  .simpa [n1]using q
def WN:CallR X (.builtin "isinstance") (λxs H Q=> ∃x C,xs=[x,.ty "ValueError"]/\IsX X M H x C/\Q (.bl true) H):=by
 intro pins s σ H xs us Q I r h;obtain⟨_,C,rfl,⟨aa,oe,rfl,hH,hc,⟨i,cC⟩,cM⟩,q⟩:=h
 obtain⟨u1,us,r1,⟨u2,_,r2,r3,rfl⟩,rfl⟩: ∃u1 us',RelV (.ref aa) u1/\(∃u2 us'',RelV (.ty "ValueError") u2/\Vals [] us''/\us'=u2::us'')/\us=u1::us':=by
  cases r with
  |cons r1 r=>cases r with
   |cons r2 r=>exact⟨_,_,r1,⟨_,_,r2,r,rfl⟩,rfl⟩
 cases r1;cases r2;cases r3;have ha:s.heap.get? aa=some oe:=(I.hok aa _ hH).1;have O:=rQ I.kIn cC cM;obtain⟨hp,g,d,tk,os⟩:=s;exact PyProof.Rows.call_isinstance_of (Ai O ha hc (by kernel_rfl) (by simp[List.contains_cons]) ⟨.bl true,H,I,rfl,q⟩)
def OU{α:Ng}{S:Sto}{H:Hp}{r:Er}{x:V}(T:XTab X.K X.mg M cs)(wd:Wd X.g α S H)(d:DenX X.K α H r x){l:Nat}{c:Str}{fs:List (Str×MV)}(e:r=.val (.loc l))(hl:S[l]? =some (.ins c fs))(hc:c∈cs.map (·.1)):
  ∃C,(c,C)∈cs/\IsX X M H x C:=by
 subst e;obtain⟨aa,rfl,h⟩:=dA d;obtain⟨o,h1,C,gs,hm,hf,oe,hH,hcl,_⟩: ∃o,S[l]? =some o/\ObD X.g α H aa (.ins c fs):=⟨_,hl,wd.obj l aa _ h hl⟩
 obtain⟨⟨c',C'⟩,hm',rfl⟩:=mM0.mp hc;obtain⟨q1,q2⟩:=T.each.at hm';have:C=C':=by have z:X.mg c'=some (.ref C):=hm;rw[q1]at z;cases z;rfl
 subst this;exact⟨C,hm',aa,oe,rfl,hH,hcl,q2,T.mc⟩
theorem XTab.inj{K:Od}{mg:Ni}(T:XTab K mg M cs){c c':Str}{C C':Addr}(h:(c,C)∈cs)(h':(c',C')∈cs)(hn:(cs.map (·.1)).Nodup):(C=C'↔c=c'):=by
 constructor
 .rintro rfl;have nd:=(nodup_cons.mp T.nd).2
  have: ∀(l:List (Str×Addr)),(l.map (·.2)).Nodup->(c,C)∈l->(c',C)∈l->c=c':=by
   intro l
   induction l with
   |nil=>intro _ z;simp at z
   |cons y r ih=>
    intro nd a b;rw[List.map_cons,nodup_cons]at nd;rcases mC.mp a with a1|a1<;>rcases mC.mp b with b1|b1
    .rw[<-b1]at a1;cases a1;rfl
    .exact absurd (show y.2∈r.map (·.2)from by rw[<-a1];exact mM0.mpr ⟨(c',C),b1,rfl⟩) nd.1
    .exact absurd (show y.2∈r.map (·.2)from by rw[<-b1];exact mM0.mpr ⟨(c,C),a1,rfl⟩) nd.1
    .exact ih nd.2 a1 b1
  exact this cs nd h h'
 .rintro rfl;have a:=(T.each.at h).1;rw[(T.each.at h').1]at a;cases a;rfl
def xD{ns:Nh}(T:XTab X.K X.mg M cs)(hn:(cs.map (·.1)).Nodup)(hD:(c2,D)∈cs)(hz:X.mg "isinstance"=none)(hg:Gl X "isinstance")(hg2:Gl X c2)(ha:yL X W a f)(hns:cs.map (·.1)=ns:=by rfl)(hd:(c2==("__debug__":Str))=false:=by decide)
  (he:starEach [a,.Name c2 p2] X.env=(false,eval a X.env)::starEach [.Name c2 p2] X.env:=by rfl) (hp2:(backTo pos (starEach [.Name c2 p2] X.env)).any (·.1)=false:=by rfl):
  yL X W (.Call (.Name "isinstance" p) [a,.Name c2 p2] [] pos) (λρ S=>(f ρ S).bind (iZ ns c2)):=by
 subst hns;obtain⟨ta,ha,fa⟩:=ha;have mD:=(T.each.at hD).1;refine⟨_,vS (WM (M:=M)) hg hz PyProof.Rows.boot_isinstance (nZ ha (nZ (EW (v:=.ref D) hg2 mD rfl hd) vR) he) (by decide) (by decide) he hp2,λα ρ S σ H Q wd sl q=>fa α ρ S σ H _ wd sl (q.bind λu r S1 α1 H1 e1 x1 w1 d1 q1=>?_)⟩
 replace q1:=q1.shift x1
 unfold iZ at q1;split at q1
 .rename_i l;split at q1
  .rename_i c fs hl;split at q1
   .rename_i hc;obtain⟨C,hC,ix⟩:=OU T w1 d1.1 rfl hl hc;refine⟨u,C,D,rfl,ix,?_,?_⟩
    .by_cases z:C=D
     .exact .inl z
     .exact .inr ⟨z,λy=>(nodup_cons.mp T.nd).1 (by rw[y];exact mM0.mpr ⟨_,hD,rfl⟩),_,(T.each.at hD).2⟩
    .have e2:decide (C=D)=decide (c=c2):=decide_eq_decide.mpr (T.inj hC hD hn);rw[e2];exact Post.val q1 w1 (xX _)
   .exact q1.elim
  .exact q1.elim
 .exact q1.elim
def LX{ns:Nh}(T:XTab X.K X.mg M cs)(hz:X.mg "isinstance"=none)(hz2:X.mg "ValueError"=none)(hg:Gl X "isinstance")(hg2:Gl X "ValueError")(ha:yL X W a f)(hns:cs.map (·.1)=ns:=by rfl)
  (he:starEach [a,.Name "ValueError" p2] X.env=(false,eval a X.env)::starEach [.Name "ValueError" p2] X.env:=by rfl) (hp2:(backTo pos (starEach [.Name "ValueError" p2] X.env)).any (·.1)=false:=by rfl):
  yL X W (.Call (.Name "isinstance" p) [a,.Name "ValueError" p2] [] pos) (λρ S=>(f ρ S).bind (RS ns)):=by
 subst hns;obtain⟨ta,ha,fa⟩:=ha;refine⟨_,vS (WN (M:=M)) hg hz PyProof.Rows.boot_isinstance (nZ ha (nZ (NS (v:=.ty "ValueError") hg2 hz2 (by decide+kernel) rfl (by decide) (by decide)) vR) he) (by decide) (by decide) he hp2,λα ρ S σ H Q wd sl q=>fa α ρ S σ H _ wd sl (q.bind λu r S1 α1 H1 e1 x1 w1 d1 q1=>?_)⟩
 replace q1:=q1.shift x1
 unfold RS at q1;split at q1
 .rename_i l;split at q1
  .rename_i c fs hl;split at q1
   .rename_i hc;obtain⟨C,hC,ix⟩:=OU T w1 d1.1 rfl hl hc;exact⟨u,C,rfl,ix,Post.val q1 w1 (xX _)⟩
   .exact q1.elim
  .exact q1.elim
 .exact q1.elim
end
def GB(g:Gm)(n:Nat)(F:List MV->Sto->R Er):Sp:=λvs H Q E=> ∃α S ds,Wd g α S H/\DenL g.K α H ds vs/\ds.length=n/\Post g (WE g E) α H (F ds S) Q
def xE(n:Nat)(F:List MV->Sto->R Er)(rs:List Er)(S:Sto):R Er:=if rs.length=n then(match F (zM rs S).1 (zM rs S).2 with
 |.ok r S2=>dC S r S2
 |.exc c fs S2=>if fs.all (λp=>fO p.2)=true then(dC S (.val .non) S2).bind λ_ S3=>.exc c fs S3 else .no
 |.no=>.no)else .no
section
variable{X:Cx}{E:XK}{e:Expr}{es:Oc}{af:Rho->Sto->R (List Er)}{pos:Pos}
def BC{n:Nat}{F:List MV->Sto->R Er}{rs:List Er}{vs:List V}{α α1:Ng}{H H1:Hp}{S1:Sto}{Q:VK}(x1:Ext α H α1 H1)(w1:Wd X.g α1 S1 H1)(d1:ArgsE X.K H α1 H1 rs vs)(q:Post X.g (WE X.g E) α H (xE n F rs S1) Q):
  GB X.g n F vs H1 Q E:=by
 unfold xE at q;split at q
 .rename_i hl;obtain⟨α2,x2,y2,w2,l2⟩:=bL w1 x1 d1;refine⟨α2,_,_,w2,l2,by rw[cV];exact hl,?_⟩
  cases z:F (zM rs S1).1 (zM rs S1).2 with
  |ok r S3=>
   rw[z]at q;intro v α3 H3 x3 w3 d3;obtain⟨r',S',α',e',x',w',d'⟩:=FO x1 w1 y2.pre x2 x3 w3 d3;have q:Post X.g (WE X.g E) α H (dC S1 r S3) Q:=q;rw[e']at q;exact q v α' H3 x' w' d'
  |exc c fs S3=>
   rw[z]at q;dsimp only at q;split at q
   .rename_i hp;intro α3 H3 x3 w3 C d hC hf;obtain⟨r',S',α',e',x',w',d'⟩:=FO (r:=.val .non) (v:=.non) x1 w1 y2.pre x2 x3 w3 (DenE.val jW);rw[e']at q;exact q α' H3 x' w' C d hC (hf.imp id λ⟨dx,gs,od,h1,h2,h3⟩=>⟨dx,gs,od,h1,h2,BB hp h3⟩)
   .exact q.elim
  |no=>rw[z]at q;exact q.elim
 .exact q.elim
def WO{k n:Nat}{fa:Addr}{fd:FuncData}{ps:Nh}{F:List MV->Sto->R Er}{x:Str}{p:Pos}(hx:XOk X E)(G:FnOk X.prog X.w X.K X.mg X.base (DY X.prog X.w) k fa fd ps (GB X.g n F))(hr:Room k X.A)(hg:Gl X x)(hm:X.mg x=some (.ref fa))
  (hk:PySem.W.keepIn X.K (.ref fa)=true) (hb:Binds X.K fd ps []) (ha:CO X (WE X.g E) (e::es) af) (hdb:(x==("__debug__":Str))=false:=by decide)
  (he:starEach (e::es) X.env=(false,eval e X.env)::starEach es X.env:=by rfl) (hpl:(backTo pos (starEach es X.env)).any (·.1)=false:=by rfl):
  yL X (WE X.g E) (.Call (.Name x p) (e::es) [] pos) (λρ S=>(af ρ S).bind λrs S1=>xE n F rs S1):=by
 obtain⟨t,ha,kk⟩:=ha;refine⟨_,NV G hr hg hm hk hb .nil hx.pass ha hdb he hpl,λα ρ S σ H Q wd sl q=>kk α ρ S σ H _ wd sl (q.bind λvs rs S1 α1 H1 e1 x1 w1 d1 q1=>?_)⟩;rw[aN];exact BC x1 w1 d1 q1
end
section
variable{P:Program}{w:World}{K:Od}{mg:Ni}{base:Heap}
def Ht{x qual:Str}{st:Stmt}{f:Addr}{fd:FuncData}{N ps:Nh}{k:Nat}(Fb:AY)(F:Fun K x qual st f fd)(Sc:FnScope N ps (zE st))
  (hbody: ∀(cdv:Value)(A:Around)(outer:List Env)(s:Shared)(H:Hp)(E:XK),Room k (A.deeper (envOfC qual (zE st) s.heap.objs.size f cdv))->
   rC (uN (DY P w) P w K mg base N qual (zE st) f cdv A outer s H E) (WE ⟨K,mg,P,w⟩ E) (yN st) Fb):
  FnOk P w K mg base (DY P w) (k+1) f fd ps (GB ⟨K,mg,P,w⟩ ps.length λds S=>yA (Fb (zT N ds) S)):=by
 obtain⟨oc,od,kV,doc,pm,an,cdv,ct,osl,rfl,lk,hcd⟩:=F.ex;refine UG lk hcd Sc (λvs H Q E h=>?_) λA outer s H vs Q E hr h=>?_
 .obtain⟨α,S,ds,_,l,hl,_⟩:=h;rw[l.length,hl]
 .obtain⟨α,S,ds,wd,l,hl,q⟩:=h;obtain⟨t,ht,kk⟩:=hbody cdv A outer s H E hr;refine⟨t,ht,kk α (zT N ds) S (start N vs) H _ wd (aI l) ?_⟩;dsimp only at q
  cases z:Fb (zT N ds) S with
  |ok fl S'=>
   rw[z]at q
   cases fl with
   |next ρ=>exact λσ α' H' x' w' s'=>q .non α' H' x' w' (DenE.val jW)
   |ret r=>exact λv α' H' x' w' d'=>q v α' H' x' w' d'
   |brk ρ=>exact q.elim
   |cont ρ=>exact q.elim
  |exc c fs S'=>rw[z]at q;exact λα' H' x' w'=>q α' H' x' w'
  |no=>rw[z]at q;exact q
def _root_.L2.FnOk.noX{k n:Nat}{f:Addr}{fd:FuncData}{ps:Nh}{g:Gm}{F:List MV->Sto->R Er}(G:FnOk P w K mg base (DY P w) k f fd ps (GB g n F)):FnOk P w K mg base pF k f fd ps (IL g n F):=by
 have up: ∀{vs H Q}, ∀{E},IL g n F vs H Q E->GB g n F vs H Q E0:=λ⟨α,S,ds,h1,h2,h3,h4⟩=>⟨α,S,ds,h1,h2,h3,h4.wmono λ_ _ _ _ _ z=>z.elim⟩
 refine⟨λvs H Q E h=>G.len vs H Q E0 (up h),λA outer s H args us vs Q E hr e0 hb hv h=>codeAny_mono (G.run A outer s H args us vs Q E0 hr e0 hb hv (up h)) λr s' hq=>?_⟩
 cases r with
 |error e=>
  obtain⟨_,_,_,_,_,_,_,_,_,_,_,_,_,_,_,z⟩:=hq;exact z
 |ok fl=>cases fl<;>exact hq
end
end M
end L2
namespace L2
open PySem PySem.Spec PyProof.Rows
structure Out(X:Cx)(pins:Nk)(H:Hp)(s:Shared)(b:Addr):Prop where
 s0:X.s₀.heap.get? b=none
 h:H b=none
 pin: ∀p∈X.pn++pins,p.1≠b
 fld: ∃o vs,s.heap.get? b=some o/\o.data=.fields vs
section
variable{X:Cx}{pins:Nk}{σ:St}{H:Hp}{s:Shared}{e T b:Addr}{h':Heap}
def Out.ne(o:Out X pins H s b){c:Addr}{oc:Obj}(hc:s.heap.get? c=some oc)(nf: ∀vs,oc.data≠.fields vs):c≠b:=λz=>by obtain⟨ob,vs,h1,h2⟩:=o.fld;rw[z,h1]at hc;cases hc;exact nf vs h2
def Out.loc(o:Out X pins H s b)(I:Inv X pins σ H s):X.env.locals≠b:=by obtain⟨m,⟨oL,es,ep,h1,h2,_⟩,_⟩:=I.loc;exact o.ne h1 λvs z=>by rw[h2]at z;cases z
def Out.cell(o:Out X pins H s b)(I:Inv X pins σ H s){x:Str}{c:Addr}(hc:X.env.cells.lookup x=some c):c≠b:=by obtain⟨v,oc,h1,h2⟩:=I.cell x c hc;exact o.ne h1 λvs z=>by rw[h2]at z;cases z
def Inv.mvd(J:Inv X pins σ H s)(hex:X.ex=[])(m:Mvd (vK X.stack) e T s.heap h')(oe:Out X pins H s e)(oT:Out X pins H s T):Inv X pins σ H {s with heap:=h'}:=by
 obtain⟨u,hok⟩:=J.moved hex m oe.s0 oT.s0 oe.h oT.h;have ns: ∀mm,s.heap.Ns X.env.locals mm->h'.Ns X.env.locals mm:=λmm hn=>by obtain⟨o,es,ep,ho,r⟩:=hn;obtain⟨sl,e1⟩:=m.slot _ o (oe.loc J) (oT.loc J) ho;exact⟨_,es,ep,e1,r⟩
 have cell: ∀x c,X.env.cells.lookup x=some c-> ∀v,s.heap.IsCell c v->h'.IsCell c v:=λx c hc v hv=>by obtain⟨o,ho,hd⟩:=hv;obtain⟨sl,e1⟩:=m.slot c o (oe.cell J hc) (oT.cell J hc) ho;exact⟨_,e1,hd⟩
 refine⟨J.ok,J.os,J.bare,by rw[hex];exact u,?_,λx c hc=>?_,J.free,J.freeC,λp hp=>?_,hok,J.len⟩
 .obtain⟨mm,hn,hl⟩:=J.loc;refine⟨mm,ns mm hn,λi x v e1 e2 e3=>?_⟩;obtain⟨u,r,l⟩:=hl i x v e1 e2 e3;exact⟨u,r,l.imp id λ⟨k,c,hc,z⟩=>⟨k,c,hc,cell x c hc _ z⟩⟩
 .obtain⟨v,z⟩:=J.cell x c hc;exact⟨v,cell x c hc v z⟩
 .obtain⟨e1,n,ne,nf,dd⟩:=J.pin p hp;refine⟨m.keep p.1 p.2 (oe.pin p hp) (oT.pin p hp) (λz=>?_) e1,n,ne,nf,dd⟩;rcases mC.mp (J.stkSub _ z)with z|z
  .exact ne z
  .exact nf z
def Inv.track{ob:Obj}(J:Inv X pins σ H s)(o:Out X pins H s e)(he:s.heap.get? e=some ob):Inv X pins σ (xT H e (.frz ob (.ext λh=>h.get? e=some ob))) s:=by
 refine⟨J.ok,J.os,J.bare,⟨J.base.keep,J.base.slot,λb ob' q n hx=>?_,J.base.there,λb xs q=>?_,λb o' u q=>?_,λb ps q=>?_⟩,J.loc,J.cell,?_,λx c hc=>?_,λp hp=>?_,λb u q=>?_,J.len⟩
 .rw[zI λz=>by rw[z,o.s0]at q;cases q];exact J.base.free b ob' q n hx
 .rw[zI (zS (J.base.tups b xs q) o.h)];exact J.base.tups b xs q
 .rw[zI (zS (J.base.frzs b o' u q) o.h)];exact J.base.frzs b o' u q
 .obtain⟨mo,z⟩:=J.base.tbls b ps q;exact⟨mo,by rw[zI (zS z o.h)];exact z⟩
 .rw[zI (o.loc J)];exact J.free
 .rw[zI (o.cell J hc)];exact J.freeC x c hc
 .obtain⟨e1,n,ne,nf,dd⟩:=J.pin p hp;exact⟨e1,by rw[zI (o.pin p hp)];exact n,ne,nf,dd⟩
 .by_cases z:b=e
  .subst z;rw[zQ]at q;cases q;exact⟨he,he,⟨ob,he⟩,λh1 h2 p k=>k _ p⟩
  .rw[zI z]at q;exact(J.hok b u q).stay (λ_ _ _ r=>r) (λc r=>by rw[zI (zS r o.h)];exact r) λc xs r=>by rw[zI (zS r o.h)];exact r
structure Hv where
 e:Addr
 H:Hp
 ob:Obj
 u:HO
 h:H e=some (.frz ob u)
 c: ∃vs,ob.data=.fields vs/\vs[2]? =some .none
abbrev Cx.inH(X:Cx)(v:Hv):Cx:={X with A:=X.A.mark (some (.ref v.e)),calm:=false,xe:=λ_ _=>False,H₀:=v.H}
abbrev Cx.inM(X:Cx)(v:Value):Cx:={X with A:=X.A.mark (some v),calm:=false,xe:=λ_ _=>False}
def Inv.inM(I:Inv X pins σ H s)(v:Value):Inv (X.inM v) pins σ H s:=⟨⟨I.ok.mod,I.ok.kind,I.ok.glob,I.ok.blt,I.ok.above,I.ok.inj,I.ok.has,I.ok.cab,λz=>(by cases z),I.ok.frames,I.ok.stk,I.ok.exf,I.ok.bs,I.ok.bsz,I.ok.noex,I.ok.exfs,I.ok.funs,I.ok.frf⟩,I.os,I.bare,I.base,I.loc,I.cell,I.free,I.freeC,I.pin,I.hok,I.len⟩
def HdA(A:Around)(H:Hp):Prop:= ∃e ob u,A.handled=some (.ref e)/\H e=some (.frz ob u)/\ ∃vs,ob.data=.fields vs/\vs[2]? =some .none
abbrev Mx(X:Cx):Prop:=HdA X.A X.H₀
def HdA.now(h:Mx X)(I:Inv X pins σ H s):HdA X.A H:=let ⟨e,ob,u,h1,h2,h3⟩:=h;⟨e,ob,u,h1,I.base.frzs _ _ _ h2,h3⟩
def Lm{v:Hv}:Mx (X.inH v):=⟨v.e,v.ob,v.u,rfl,v.h,v.c⟩
def Inv.inH{v:Hv}(I:Inv X pins σ H s)(hv:v.H=xT X.H₀ v.e (.frz v.ob v.u))(n:X.s₀.heap.get? v.e=none)(hh:H v.e=some (.frz v.ob v.u)):Inv (X.inH v) pins σ H s:=by
 have ne: ∀b o,X.s₀.heap.get? b=some o->v.H b=X.H₀ b:=λb o q=>by rw[hv,zI λz=>by rw[z,n]at q;cases q]
 have ot: ∀b w,v.H b=some w->(∀o u,w≠.frz o u)->X.H₀ b=some w:=λb w q k=>by
  by_cases z:b=v.e
  .rw[z,v.h]at q;exact absurd (Option.some.inj q).symm (k _ _)
  .rw[hv,zI z]at q;exact q
 refine⟨⟨I.ok.mod,I.ok.kind,I.ok.glob,I.ok.blt,I.ok.above,I.ok.inj,I.ok.has,I.ok.cab,λz=>(by cases z),I.ok.frames,I.ok.stk,I.ok.exf,λb o q=>?_,I.ok.bsz,I.ok.noex,I.ok.exfs,I.ok.funs,λb q=>?_⟩,I.os,I.bare,⟨λb o q k=>?_,λb o q k=>?_,λb o q k=>?_,I.base.there,λb xs q=>I.base.tups b xs (ot b _ q λ_ _ z=>by cases z),λb o u q=>?_,λb ps q=>I.base.tbls b ps (ot b _ q λ_ _ z=>by cases z)⟩,I.loc,I.cell,I.free,I.freeC,I.pin,I.hok,I.len⟩
 .obtain⟨a1,a2⟩:=I.ok.bs b o q;exact⟨a1,(ne b o a1).trans a2⟩
 .obtain⟨_,o,ho,_⟩:=I.ok.funs.mem (show b∈vK X.outer from q);exact(ne b o ho).trans (I.ok.frf b q)
 .exact I.base.keep b o q ((ne b o q).symm.trans k)
 .exact I.base.slot b o q ((ne b o q).symm.trans k)
 .exact I.base.free b o q ((ne b o q).symm.trans k)
 .by_cases z:b=v.e
  .subst z;have q:v.H v.e=some (.frz o u):=q;rw[v.h]at q;cases q;exact hh
  .have q:v.H b=some (.frz o u):=q;rw[hv,zI z]at q;exact I.base.frzs b o u q
def Inv.outH{v:Hv}{σ0:St}{H0:Hp}{s0:Shared}(J:Inv X pins σ0 H0 s0)(hv:v.H=xT X.H₀ v.e (.frz v.ob v.u))(n:X.s₀.heap.get? v.e=none)(hn:H0 v.e=none)(I:Inv (X.inH v) pins σ H s):Inv X pins σ H s:=by
 have ne: ∀b o,X.s₀.heap.get? b=some o->v.H b=X.H₀ b:=λb o q=>by rw[hv,zI λz=>by rw[z,n]at q;cases q]
 have ot: ∀b w,X.H₀ b=some w->b≠v.e->v.H b=some w:=λb w q k=>by rw[hv,zI k];exact q
 refine⟨J.ok,I.os,I.bare,⟨λb o q k=>I.base.keep b o q ((ne b o q).trans k),λb o q k=>I.base.slot b o q ((ne b o q).trans k),λb o q k=>I.base.free b o q ((ne b o q).trans k),I.base.there,λb xs q=>I.base.tups b xs (ot b _ q λz=>?_),λb o u q=>I.base.frzs b o u (ot b _ q λz=>?_),λb ps q=>I.base.tbls b ps (ot b _ q λz=>?_)⟩,I.loc,I.cell,I.free,I.freeC,I.pin,I.hok,I.len⟩
 .have:=J.base.tups b xs q;rw[z,hn]at this;cases this
 .have:=J.base.frzs b o u q;rw[z,hn]at this;cases this
 .obtain⟨_,this⟩:=J.base.tbls b ps q;rw[z,hn]at this;cases this
def name_goes{M:Model}{A:Around}{E:VP}{i:Nat}{x:Str}{pos:Pos}{Q:Unit->Shared->Prop}(I:Inv X pins σ H s)(hN:X.N.Nodup)(hi:X.N[i]? =some x)(hk:X.env.kindOf x=some .local)
  (h: ∀s',Inv X pins (σ.set i none) H s'->Q () s'):wpAny M A (do bindName X.env x .none;unbindBehindTheSuite X.env x pos) Q E s:=by
 obtain⟨m,hn,hl⟩:=id I.loc;have hcls:(X.env.scope.kind==.class || (X.env.scope.kind==.module&&X.env.locals !=X.env.globals))=false:=by rw[I.ok.kind];rfl
 refine wpAny_nameGoes_keeps hk hn hcls λh' v hn' hs=>h _ ?_;have keep: ∀b o,b≠X.env.locals->s.heap.get? b=some o->h'.get? b=some o:=λb o z q=>(hs.2 b z).trans q;have neL: ∀b o,X.s₀.heap.get? b=some o->b≠X.env.locals:=λb o e=>Nat.ne_of_lt (Nat.lt_of_lt_of_le (Heap.lt_size e) I.ok.above);obtain⟨oL',_,_,hL',_⟩:=id hn'
 have there: ∀b o,s.heap.get? b=some o-> ∃o',h'.get? b=some o':=λb o q=>by
  by_cases z:b=X.env.locals
  .rw[z];exact⟨_,hL'⟩
  .exact⟨o,keep b o z q⟩
 refine⟨I.ok,I.os,I.bare,⟨λb o e n hb hx=>keep b o (neL b o e) (I.base.keep b o e n hb hx),λb o e n hb hx=>?_,I.base.free,λb o e hx=>?_,I.base.tups,I.base.frzs,I.base.tbls⟩,⟨_,hn',λj y v' e1 e2 e3=>?_⟩,λy c e=>?_,I.free,I.freeC,λp hp=>?_,λb u q=>?_,by rw[List.length_set];exact I.len⟩
 .obtain⟨sl,e1⟩:=I.base.slot b o e n hb hx;exact⟨sl,keep b _ (neL b o e) e1⟩
 .obtain⟨o',e1⟩:=I.base.there b o e hx;exact there b o' e1
 .have hj:j≠i:=λz=>by
   subst z;by_cases hl:j<σ.length
   .rw[getElem?_set_self hl]at e2;cases e2
   .rw[List.getElem?_eq_none (by rw[List.length_set];omega)]at e2;cases e2
  rw[getElem?_set_ne (Ne.symm hj)]at e2;obtain⟨u,r,q⟩:=hl j y v' e1 e2 e3;refine⟨u,r,?_⟩;have hy:y≠x:=λz=>hj (vL hN e1 (z▸hi));rcases q with⟨k,q⟩|⟨k,c,e,z⟩
  .exact .inl ⟨k,by simp[hy,q]⟩
  .exact .inr ⟨k,c,e,z.sameBut hs (I.cne y c e)⟩
 .obtain⟨w',z⟩:=I.cell y c e;exact⟨w',z.sameBut hs (I.cne y c e)⟩
 .obtain⟨e,n,ne,nf,dd⟩:=I.pin p hp;exact⟨keep p.1 p.2 ne e,n,ne,nf,dd⟩
 .refine(I.hok b u q).stay (λc w' hc r=>keep c w' (λz=>?_) r) (λ_ q=>q) λ_ _ q=>q
  have: ∃y,H c=some y:=by
   rcases hc with rfl|hc
   .exact⟨_,q⟩
   .exact⟨_,hc⟩
  obtain⟨y,hy⟩:=this;rw[z,I.free]at hy;cases hy
end
theorem Ln:isSubtype (.type "type") (.type "tuple")=pure false:=by rw[isSubtype_type];kernel_rfl
def LY{Mo:Model}{A:Around}{E:VP}{h:Heap}{g:Array GenState}{d:Drawn}{t:Nat}{os:OsState}{C M e:Addr}{oe:Obj}{Q:Bool->Shared->Prop}(O:eQ h C M)(he:h.get? e=some oe)(hc:oe.cls=.ref C)
  (hq:Q true ⟨h,g,d,t,os⟩):wpAny Mo A (excMatches (.ref e) (.ref M)) Q E ⟨h,g,d,t,os⟩:=by
 have hb:(Value.ref C::.ref M::bI).contains (.ref M)=true:=by simp[List.contains_cons]
 have f:=Ln;have O':=O;obtain⟨_,_,_,_,_,_,_,_,_,_,_,_,_,_,_,_,_,_,_,_,_,_,_,_,_,_,_,_,_,_,_,_,_,_,_,_,_,hM,_⟩:=O;have hm:(Value.ref M::bI).contains (.type "BaseException")=true:=by simp[List.contains_cons]
 unfold excMatches
 repeat (first |(with_reducible refine wpAny_loadPart_at he ?_;rw[hc])|with_reducible refine wpAny_loadPart_at hM ?_|(with_reducible refine eR O' ?_;rw[hb])|(with_reducible refine wpAny_isSubtype_exc hM ?_;rw[hm])|wp_step)
 exact hq
end L2
namespace L2
namespace M
open PySem PySem.Spec PyProof.Rows
def Slots.unset{K:Od}{α:Ng}{H:Hp}{ρ:Rho}{σ:St}(q:Slots K α H ρ σ)(i:Nat):Slots K α H (ρ.set i none) (σ.set i none):=by
 refine⟨by rw[List.length_set,List.length_set];exact q.len,λj d e=>?_⟩;rcases OG e with⟨_,z,_⟩|⟨hj,e'⟩
 .cases z
 .obtain⟨v,h1,h2⟩:=q.slot j d e';exact⟨v,by rw[getElem?_set_ne (Ne.symm hj)];exact h1,h2⟩
def Lo(i:Nat):Fl->Sto->R Fl
 |.next ρ,S=>.ok (.next (ρ.set i none)) S
 |.ret r,S=>.ok (.ret r) S
 |.brk ρ,S=>.ok (.brk (ρ.set i none)) S
 |.cont ρ,S=>.ok (.cont (ρ.set i none)) S
def tD(ns:Nh)(i:Nat)(kn:Er->Sto->R Fl)(Fh:AY)(ρ:Rho):R Er->R Fl
 |.ok r S=>kn r S
 |.exc c fs S=>if c∈ns then(noX (Fh (ρ.set i (some (.loc S.length))) (S++[.ins c fs]))).bind (Lo i)else .no
 |.no=>.no
def E2(X:Cx)(W:XW)(ns:Nh)(i:Nat)(Fh:AY)(ρ:Rho)(α:Ng)(H:Hp)(D:Ends):XK:=λcls d H'=> ∃c fs S2 α' C,cls=.ref C/\X.mg c=some (.ref C)/\Ext α H α' H'/\Wd X.g α' S2 H'/\FsD X.g α' H' d fs/\
 PostS X.g W α H D (if c∈ns then(noX (Fh (ρ.set i (some (.loc S2.length))) (S2++[.ins c fs]))).bind (Lo i)else .no)
section
variable{X:Cx}{W:XW}{M:Addr}{cs:List (Str×Addr)}{pins:Nk}{σ:St}{H H1:Hp}{s s1 s':Shared}{i:Nat}{nm:Str}{Fh:AY}{ρ:Rho}{α:Ng}{D:Ends}{b0:Stmt}{suite:List Stmt}{mp hpos:Pos}
def WP(T:XTab X.K X.mg M cs)(hgm:Gl X "MendError")(hN:X.N.Nodup)(hi:X.N[i]? =some nm)(hk:X.env.kindOf nm=some .local)(hsuite: ∀v,rC (X.inH v) W0 (b0::suite) Fh)(hex:X.ex=[])(hstk:X.stack=X.env::X.outer)(hfm:X.env.frame=some X.env.locals)
  (sl:Slots X.K α H ρ σ) (I1:Inv X pins σ H1 s1) {x:Value} (hq:DY X.prog X.w X.stack H1 s1 (E2 X W (cs.map (·.1)) i Fh ρ α H D) x s'):
  wpAny (model X.prog X.w) X.A (noteFrame x X.env) (λ_ s₂=>wpAny (model X.prog X.w) X.A (setFlight x none) (λ_ s₃=>wpAny (model X.prog X.w) X.A (handleBy x X.env [.ExceptHandler (some (.Name "MendError" mp)) (some nm) (b0::suite) hpos]) (SP X pins D) X.xe s₃) X.xe s₂) X.xe s':=by
 obtain⟨e,Tb,C,d,H',rfl,os,bare,un,hok,fl,ne,nT,he,hT,c,fs,S2,α',C',eC,hmc,xx,w2,hf,q⟩:=hq;cases eC;split at q
 .rename_i hcn;have J:Inv X pins σ H' s':=I1.call' (ch:=[]) os un hok bare (λ_ z=>nomatch z);have hfr:X.A.frames=some (X.env::X.outer):=by rw[<-hstk];exact J.ok.frames
  have hl:s'.heap.FunFrames X.base (X.env::X.outer):=by rw[<-hstk];exact J.stack
  have oe:Out X pins H' s' e:=by obtain⟨ob,vs,_,_,h1,_,_,h2,_⟩:=id fl;exact⟨I1.older hex ne,he,λp hp z=>(by have:=(I1.pin p hp).1;rw[z,ne]at this;cases this),ob,vs,h1,h2⟩
  have oT:Out X pins H' s' Tb:=by obtain⟨_,_,ob,ts,_,_,_,_,_,_,h1,h2,_⟩:=id fl;exact⟨I1.older hex nT,hT,λp hp z=>(by have:=(I1.pin p hp).1;rw[z,nT]at this;cases this),ob,ts,h1,h2⟩
  refine DX hfr hl hfm fl λh3 T3 n3 m3 f3=>?_;rw[<-hstk]at m3;have J3:=J.mvd hex m3 oe oT;have oe3:Out X pins H' {s' with heap:=h3} e:=by obtain⟨ob,vs,_,_,h1,_,_,h2,_⟩:=id f3;exact⟨oe.s0,oe.h,oe.pin,ob,vs,h1,h2⟩
  have oT3:Out X pins H' {s' with heap:=h3} T3:=by obtain⟨_,_,ob,ts,_,_,_,_,_,_,h1,h2,_⟩:=id f3;exact⟨J.older hex n3,J.hok.none_of n3,λp hp z=>(by have:=(J.pin p hp).1;rw[z,n3]at this;cases this),ob,ts,h1,h2⟩
  refine aC (env:=X.env) (outer:=X.outer) f3 λh4 m4 f4=>?_;rw[<-hstk]at m4;have J4:=J3.mvd hex m4 oe3 oT3;have oe4:Out X pins H' {s' with heap:=h4} e:=by obtain⟨ob,vs,_,_,h1,_,_,h2,_⟩:=id f4;exact⟨oe.s0,oe.h,oe.pin,ob,vs,h1,h2⟩
  have oT4:Out X pins H' {s' with heap:=h4} T3:=by obtain⟨_,_,ob,ts,_,_,_,_,_,_,h1,h2,_⟩:=id f4;exact⟨oT3.s0,oT3.h,oT3.pin,ob,ts,h1,h2⟩
  have cls: ∃i,oV X.K C (.ref M::bI) i:=by
   obtain⟨⟨c',C'⟩,hm',rfl⟩:=mM0.mp hcn;obtain⟨q1,q2⟩:=T.each.at hm';have:C=C':=by rw[hmc]at q1;cases q1;rfl
   rw[this];exact q2
  obtain⟨ini,cC⟩:=cls;refine wpAny_handleBy_cons (codeAny_handlers_test (bD (X:=X.inM (.ref e)) (J4.inM (.ref e)) hgm T.m ?_)) (by intro z;cases z);obtain⟨ob4,_,_,_,he4,hc4,_⟩:=id f4;refine LY (rQ J4.kIn cC T.mc) he4 hc4 ?_;refine codeAny_handlers_suite_as ?_;refine aC (env:=X.env) (outer:=X.outer) (s:={s' with heap:=h4}) f4 λh5 m5 f5=>?_;rw[<-hstk]at m5;have J5:=J4.mvd hex m5 oe4 oT4;obtain⟨ob,vs,_,_,h1,hcl,hdx,h2,_,_,_,_,_,h22⟩:=id f5;have oe5:Out X pins H' {s' with heap:=h5} e:=⟨oe.s0,oe.h,oe.pin,ob,vs,h1,h2⟩
  have J6:=J5.track oe5 h1
  have xw:=w2.put (ho:=.frz ob (.ext λh=>h.get? e=some ob)) (m:=.ins c fs) oe.h (by
   rcases hf with rfl|⟨dx,gs,od,hd1,hd2,hd3⟩
   .exact⟨C,[],hmc,.nil,ob,zQ,hcl,.inl rfl⟩
   .have xx0:Ext α' H' α' (xT H' e (.frz ob (.ext λh=>h.get? e=some ob))):=w2.newx oe.h;exact⟨C,gs,hmc,(hd3.ex0 xx0.toEx0).ex0 (Ex0.grow _ _ _),ob,zQ,hcl,.inr ⟨dx,od,hdx.trans hd1,(by rw[zI (zS hd2 oe.h)];exact hd2),vs,h2⟩⟩)
  let V:Hv:=⟨e,xT X.H₀ e (.frz ob (.ext λh=>h.get? e=some ob)),ob,_,zQ,vs,h2,h22⟩
  refine vM (X:=X.inH V) (J6.inH (v:=V) rfl oe.s0 zQ) hN hi (.inl hk) (v:=.ref e) rfl (λs7 J7=>?_) (.inr hk);obtain⟨th,hth,kh⟩:=hsuite V;let D':Ends:={nx:=λσ H=>D.nx (σ.set i none) H,rt:=D.rt,bk:=λσ H=>D.bk (σ.set i none) H,ct:=λσ H=>D.ct (σ.set i none) H}
  have q':PostS X.g W (α'++[e]) (xT H' e (.frz ob (.ext λh=>h.get? e=some ob))) D _:=PostS.shift (xx.trans xw.1) q
  have ht:th D' (σ.set i (some (.ref e))) (xT H' e (.frz ob (.ext λh=>h.get? e=some ob))):=by
   refine kh (α'++[e]) (ρ.set i (some (.loc S2.length))) (S2++[.ins c fs]) _ _ D' xw.2 (((sl.ext xx).ext xw.1).set (aF (by rw[<-w2.len,getElem?_append_right (Nat.le_refl _),sub_self];rfl))) ?_
   cases z:Fh (ρ.set i (some (.loc S2.length))) (S2++[.ins c fs])with
   |ok fl S8=>
    rw[z]at q'
    cases fl with
    |next ρ8=>exact λσ8 α8 H8 x8 w8 s8=>q' (σ8.set i none) α8 H8 x8 w8 (s8.unset i)
    |ret r8=>exact λv8 α8 H8 x8 w8 d8=>q' v8 α8 H8 x8 w8 d8
    |brk ρ8=>exact λσ8 α8 H8 x8 w8 s8=>q' (σ8.set i none) α8 H8 x8 w8 (s8.unset i)
    |cont ρ8=>exact λσ8 α8 H8 x8 w8 s8=>q' (σ8.set i none) α8 H8 x8 w8 (s8.unset i)
   |exc c8 fs8 S8=>rw[z]at q';exact q'.elim
   |no=>rw[z]at q';exact q'.elim
  refine wpAny_mono (hth pins s7 _ _ D' J7 ht) (λf s8 hs=>?_) λ_ _ z=>z.elim;show wpAny _ _ _ _ _ _
  cases f with
  |next=>
   obtain⟨σ8,H8,I8,q8⟩:=hs;exact name_goes (J.outH (v:=V) rfl oe.s0 oe.h I8) hN hi hk λs9 I9=>⟨_,H8,I9,q8⟩
  |brk=>
   obtain⟨σ8,H8,I8,q8⟩:=hs;exact name_goes (J.outH (v:=V) rfl oe.s0 oe.h I8) hN hi hk λs9 I9=>⟨_,H8,I9,q8⟩
  |cont=>
   obtain⟨σ8,H8,I8,q8⟩:=hs;exact name_goes (J.outH (v:=V) rfl oe.s0 oe.h I8) hN hi hk λs9 I9=>⟨_,H8,I9,q8⟩
  |ret u=>
   obtain⟨v8,σ8,H8,I8,r8,q8⟩:=hs;exact name_goes (J.outH (v:=V) rfl oe.s0 oe.h I8) hN hi hk λs9 I9=>⟨v8,_,H8,I9,r8,q8⟩
 .exact q.elim
end
def xcl_mk{K:Od}{C N:Addr}{bm bs sub:Nc}{init:Option Value}{nm q:Str}{hd ab:Bool}{sn:Nh}{col:Option Bool}{dd od:Option Addr}{k0 k1 k2 k3 k5:Option Value}{oc:Value}{es:Array DictEntry}{ep:Nat}{sl:Array (Option Value)}
  (l:K.lookup C=some (excClassObj nm q C N bs bm hd sn sub ab col dd k0 k1 k2 k3 k5 "ValueError.__new__")) (n:K.lookup N=some ⟨oc,od,.dict es ep,sl⟩) (o:(es.toList.all λe=>match e.key with |.str _ _=>true|_=>false)=true)
  (i:PySem.W.nsIn K N "__init__"=some init) (q1:PySem.W.nsIn K N "__class__"=some none) (q2:PySem.W.nsIn K N "__getattribute__"=some none) (q3:PySem.W.nsIn K N "__getattr__"=some none)
  (q4:PySem.W.nsIn K N "__setattr__"=some none) (q5:PySem.W.nsIn K N "place"=some none) (q6:PySem.W.nsIn K N "number"=some none) (hh:hd=true):oV K C bm init:=by
 refine⟨nm,q,N,bs,hd,sn,sub,ab,col,dd,k0,k1,k2,k3,k5,l,?_,i,λy hy=>?_,hh⟩
 .unfold PySem.W.nsOkIn;rw[n];rw[Array.all_toList]at o;exact o
 .simp only[qn,mC,nM,or_false]at hy;rcases hy with rfl|rfl|rfl|rfl|rfl|rfl<;>assumption
section
variable{X:Cx}{W:XW}{a:Expr}{f:AX}{af:Rho->Sto->R (List Er)}{e:Expr}{es:Oc}{pos apos:Pos}
theorem DenL.eraseIdx{K:Od}{α:Ng}{H:Hp}: ∀{ds:Og}{vs:List V}(n:Nat),DenL K α H ds vs->DenL K α H (ds.eraseIdx n) (vs.eraseIdx n)
 |[],_,_,q=>by rw[q.isnil];exact xN
 |d::ds,_,0,q=>by obtain⟨v,r,rfl,_,l⟩:=q.uncons;exact l
 |d::ds,_,n+1,q=>by obtain⟨v,r,rfl,a,l⟩:=q.uncons;exact yX a (DenL.eraseIdx n l)
def RT(p:Er)(rs:List Er)(S:Sto):R Er:=match p,rs with
 |.val (.loc l),[.val (.int i)]=>match S[l]? with
  |some (.lst ds)=>if -(2 ^ 63)<=i/\i<2 ^ 63 then match HS ds.length i with
   |some j=>match ds[j]? with
    |some d=>.ok (.val d) (S.set l (.lst (ds.eraseIdx j)))
    |none=>.no
   |none=>.no
   else .no
  |_=>.no
 |_,_=>.no
def Hu:Gj X W UK RT:=by
 intro p rs x vs α S H0 H Q α0 wd x0 dp da post;unfold RT at post;split at post
 .rename_i l i;obtain⟨a,rfl,h⟩:=dA dp;obtain⟨v,rfl,dv⟩:=VF da;cases yY dv;obtain⟨ob,h1,h2⟩:=wd.of h;rw[h1]at post
  cases ob with
  |lst ds=>
   obtain⟨us,h3,l1⟩:=h2;dsimp only at post;split at post
   .rename_i hb;split at post
    .rename_i j ej;split at post
     .rename_i d ed;obtain⟨y,ey,dy⟩:=l1.at ed;have xw:=wd.writex h (Kz h3) (o:=.lst (us.eraseIdx j));refine⟨a,us,i,j,y,rfl,rfl,h3,hb.1,hb.2,by rw[l1.length];exact(NY ej).1,ey,?_⟩;exact(post.shift (x0.trans xw)).val (wd.write h (Kz h3) ⟨_,zQ,(l1.eraseIdx j).ext xw⟩) (dy.ext xw)
     .exact post.elim
    .exact post.elim
   .exact post.elim
  |dic _=>exact post.elim
  |ins _ _=>exact post.elim
  |rcd _ _=>exact post.elim
  |fdc _=>exact post.elim
 .exact post.elim
def Hw(ho:yL X W a f)(ha:CO X W (e::es) af)
  (hbase:attributeBase a "pop" X.env (eval a X.env)=eval a X.env:=by rfl)
  (hfew:((backTo pos (starEach (e::es) X.env)).all (λx=>!x.1)&&(backToKw pos (keywordEach [] X.env)).all (λx=>x.1.isSome)
   &&decide ((e::es).length+([]:List Keyword).length+(if([]:List Keyword).isEmpty then 0 else 1)<30))=true:=by rfl)
  (hline:(apos.endLine==pos.line)=true:=by rfl) (hs:starEach (e::es) X.env=(false,eval e X.env)::starEach es X.env:=by rfl) (hplain:(backTo pos (starEach es X.env)).any (·.1)=false:=by rfl):
  yL X W (.Call (.Attribute a "pop" apos) (e::es) [] pos) (λρ S=>(f ρ S).bind λp S1=>if pI p S1=true then(af ρ S1).bind λrs S2=>RT p rs S2 else .no):=
 OH PySem.F.plainAttrs_list PySem.F.slot_list_pop PySem.F.type_list_pop UL Hu VX ho ha hbase hfew hline hs hplain
end
section
variable{X:Cx}{H:Hp}{α:Ng}
theorem DenK.length: ∀{kvs:Pa}{xs:List (Key×V)},DenK X.K α H kvs xs->xs.length=kvs.length
 |_,_,.nil=>rfl
 |_,_,.cons _ _ l=>by rw[lC0,lC0,DenK.length l]
end
def inK(k:Key)(l:List Key):Bool:=l.any λj=>decide (j=k)
def WQ(val:Nat->Key):Nat->List Key
 |0=>[]
 |i+1=>if inK (val i) (WQ val i)=true then WQ val i else WQ val i++[val i]
def StrAt(val:Nat->Key)(i:Nat)(v:Value):Prop:=(∃x t,val i=.inr x/\v=.str x t)\/ ∃x t,val i=.inl x/\v=.int x t
def StrAt.is{P:Program}{w:World}{val:Nat->Key}{i:Nat}{v:Value}(h:StrAt val i v):(nY P w).is (val i) v=true/\v.scannable=true:=by
 rcases h with⟨x,t,e,rfl⟩|⟨x,t,e,rfl⟩<;>rw[e]
 .exact⟨tZ P w x t,rfl⟩
 .exact⟨HN P w x t,rfl⟩
def valY(ys:Ch)(i:Nat):Key:=.inr (bH (ys.getD i []))
def VAt(d:Addr)(us:Nc)(ep:Nat)(h:Heap):Prop:= ∃o es,h.get? d=some o/\o.ExactDict/\o.data=.dict es ep/\es.toList.map (·.val)=us
theorem VAt.size{d:Addr}{us:Nc}{ep:Nat}{h:Heap}(x:VAt d us ep h): ∃o es,h.get? d=some o/\o.ExactDict/\o.data=.dict es ep/\es.size=us.length/\ ∀i (hi:i<es.size),us[i]? =some es[i].val:=by obtain⟨o,es,ho,hc,hd,e⟩:=x;refine⟨o,es,ho,hc,hd,by rw[<-e,lM0,Array.length_toList],λi hi=>?_⟩;rw[<-e,getElem?_map,Array.getElem?_toList,Array.getElem?_eq_getElem hi];rfl
end M
end L2
namespace L2
open PySem PySem.Spec PyProof.Rows
section
variable{prog:Program}{w:World}{A:Around}{E:VP}{h:Heap}{g:Array GenState}{d:Drawn}{t:Nat}{os:OsState}
variable{nm q:Str}{C N:Addr}{bs bm bmB:Nc}{hdct:Bool}{sn:Nh}{sub:Nc}{ab:Bool}{col:Option Bool}{dd:Option Addr}{k0 k1 k2 k3 k5:Option Value}{B newId initId:String}
def uT(F:ExcBaseFacts B newId initId bmB)(T:OwnTail h bmB bm){mN:Ni}{rest:Nc}{fI:Addr}{oI:Obj}{Q:Fin->Shared->Prop}
  (hC:h.get? C=some (excClassObj nm q C N bs bm hdct sn sub ab col dd k0 k1 k2 k3 k5 newId)) (hn:h.Ns N mN) (hi:mN "__init__"=some (.ref fI)) (hfI:h.get? fI=some oI) (hfc:oI.cls=.type "function")
  (hq: ∀h' e,Heap.MadeExcOf h h' e (.ref C) rest->wpAny (model prog w) A (call (.ref fI) (.ref e::rest)) (λr s'=>r=.none/\Q (.done (.ret (.ref e))) s') E ⟨h',g,d,t,os⟩) (hrest:rest.length<=sizeLine):
  wpAny (model prog w) A (Builtin.«type.__call__» ⟨.ref C::rest,[]⟩) Q E ⟨h,g,d,t,os⟩:=by
 repeat (first |with_reducible refine wpAny_loadPart_at hC ?_|with_reducible refine wpAny_madeBy_exc hC ?_|wp_step)
 refine codeAny_call_builtin_code (Code.quiet_builtin _ F.quiet) (wpAny_check_new_subT F T hC ?_);refine codeAny_exc_new_subT F T hC ?_ hrest;show wpAny _ _ _ _ _ _;have hC₁:=hP0 {cls:=.ref C,data:=.fields #[.ref h.objs.size,.none,.none,.none,.bool false,.none]} (hP0 {cls:=.type "tuple",data:=.seq rest.toArray} hC);have hfI₁:=hP0 {cls:=.ref C,data:=.fields #[.ref h.objs.size,.none,.none,.none,.bool false,.none]} (hP0 {cls:=.type "tuple",data:=.seq rest.toArray} hfI)
 have hn₁:((h.push {cls:=.type "tuple",data:=.seq rest.toArray}).push {cls:=.ref C,data:=.fields #[.ref h.objs.size,.none,.none,.none,.bool false,.none]}).Ns N mN:=
  let ⟨o,es,ep,e,r⟩:=hn;⟨o,es,ep,hP0 _ (hP0 _ e),r⟩
 have hget:((h.push {cls:=.type "tuple",data:=.seq rest.toArray}).push {cls:=.ref C,data:=.fields #[.ref h.objs.size,.none,.none,.none,.bool false,.none]}).get? (h.objs.size+1)=some {cls:=.ref C,data:=.fields #[.ref h.objs.size,.none,.none,.none,.bool false,.none]}:=by heap_get
 have hcC:(Value.ref C::bm).contains (.ref C)=true:=by simp
 have T₁:=T.keeps (h':=(h.push {cls:=.type "tuple",data:=.seq rest.toArray}).push {cls:=.ref C,data:=.fields #[.ref h.objs.size,.none,.none,.none,.bool false,.none]}) λb o e=>hP0 _ (hP0 _ e);unfold isInstance
 repeat (first |with_reducible refine wpAny_loadPart_at hget ?_|(with_reducible refine wpAny_isSubtype_exc hC₁ ?_;rw[hcC])|wp_step)
 show wpAny _ _ (typeLookup (.ref C) _) _ _ _;refine wpAny_typeLookup_tail hC₁ hn₁ T₁ F.mroIs F.init.lookup ?_;rw[hi];refine wpAny_holding (wB ?_);unfold bindSpecial;refine wB (wpAny_typeOf (T:="function") ⟨_,hfI₁,hfc⟩ ?_);rw[iP (by decide)];refine wP (wB (wpAny_mono (hq _ (h.objs.size+1) ⟨λb o hb=>hP0 _ (hP0 _ hb),Heap.get?_none_of_le (le_succ _),h.objs.size,hget,Heap.get?_none_of_le (Nat.le_refl _),?_⟩) (λr s' hr=>?_) λ_ _ x=>x))
 .exact hP0 _ (Heap.get?_push_at rfl rfl)
 .obtain⟨rfl,hQ⟩:=hr
  wp_walk
  exact hQ
def LZ(F:ExcBaseFacts B newId initId bmB)(T:OwnTail h bmB bm){mN:Ni}{rest:Nc}{fI:Addr}{oI:Obj}{Q:VP}
  (hC:h.get? C=some (excClassObj nm q C N bs bm hdct sn sub ab col dd k0 k1 k2 k3 k5 newId)) (hn:h.Ns N mN) (hi:mN "__init__"=some (.ref fI)) (hfI:h.get? fI=some oI) (hfc:oI.cls=.type "function")
  (hq: ∀h' e,Heap.MadeExcOf h h' e (.ref C) rest->wpAny (model prog w) (A.under (.builtin "type.__call__" ⟨.ref C::rest,[]⟩)) (call (.ref fI) (.ref e::rest)) (λr s'=>r=.none/\Q (.ref e) s') E ⟨h',g,d,t,os⟩) (hrest:rest.length<=sizeLine):
  wpAny (model prog w) A (call (.ref C) rest) Q E ⟨h,g,d,t,os⟩:=by
 have f1:=tc_lookup;have f2:=tc_bind (.ref C);have hT:(⟨h,g,d,t,os⟩:Shared).TypeIs (.ref C) "type":=⟨_,hC,rfl⟩
 refine wpAny_call (codeAny_of_tree ?_);show wpAny _ _ (callAny (.ref C) _) _ _ _
 repeat (any_goals (first |assumption|with_reducible refine wpAny_loadPart_at hC ?_|wp_step))
 refine⟨rfl,?_⟩;refine codeAny_call_builtin_at (Code.quiet_builtin _ (by decide+kernel)) entry_typeCall (wpAny_check_type_call_sub hC (uT (hrest:=hrest) F T hC hn hi hfI hfc λh' e hm=>?_));exact hq h' e hm
end
section
variable{prog:Program}{w:World}{A:Around}{E:VP}{s:Shared}{env:Env}
variable{nm q:Str}{C N:Addr}{bs bm bmB:Nc}{hdct:Bool}{sn:Nh}{sub:Nc}{ab:Bool}{col:Option Bool}{dd:Option Addr}{k0 k1 k2 k3 k5:Option Value}{B newId initId:String}
def BD{M:Model}{x:Sem Value}{Q:Flow->Shared->Prop}(hbase:bm.contains (.type "BaseException")=true)(hh:A.handled=none)
  (h:wpAny M A x (λv s₁=> ∃e dX vs,v=.ref e/\s₁.heap.get? C=some (excClassObj nm q C N bs bm hdct sn sub ab col dd k0 k1 k2 k3 k5 newId)/\s₁.heap.get? e=some {cls:=.ref C,dict:=dX,data:=.fields #[.ref vs,.none,.none,.none,.bool false,.none]}/\E (.ref e) s₁) E s):
  wpAny M A (raiseStmt env (some x) none) Q E s:=by
 have hcB:(Value.ref C::bm).contains (.type "BaseException")=true:=by rw[List.contains_cons,hbase,Bool.or_true]
 unfold raiseStmt;refine wB (wpAny_mono h (λv s₁ h₁=>?_) λ_ _ x=>x);obtain⟨e,dX,vs,rfl,hC,he,hE⟩:=h₁;obtain⟨hp,g,d,tk,os⟩:=s₁
 repeat (first |with_reducible refine wpAny_loadPart_at he ?_|with_reducible refine wpAny_loadPart_at hC ?_|(with_reducible refine wpAny_isSubtype_exc hC ?_;rw[hcB])|wp_step)
 exact wpAny_raiseNew_none hh hE
def IR(F:ExcBaseFacts B newId initId bmB){mN:Ni}{x:Str}{np cpos pos:Pos}{args:Oc}{fI:Addr}{oI:Obj}{Q:Flow->Shared->Prop}
  (hbase:bm.contains (.type "BaseException")=true) (hh:A.handled=none) (hplain:(backTo cpos (starEach args env)).any (·.1)=false) (hi:mN "__init__"=some (.ref fI)) (hfc:oI.cls=.type "function")
  (h:wpAny (model prog w) A (eval (.Name x np) env) (λf s₁=>f=.ref C/\wpAny (model prog w) A (evalArgs (.ref C) true (backTo cpos (starEach args env)) [])
   (λa s₂=>a.kw=[]/\a.pos.length<=sizeLine/\s₂.heap.get? C=some (excClassObj nm q C N bs bm hdct sn sub ab col dd k0 k1 k2 k3 k5 newId)/\s₂.heap.Ns N mN/\OwnTail s₂.heap bmB bm/\s₂.heap.get? fI=some oI/\
    ∀h' e,Heap.MadeExcOf s₂.heap h' e (.ref C) a.pos->wpAny (model prog w) (A.under (.builtin "type.__call__" ⟨.ref C::a.pos,[]⟩)) (call (.ref fI) (.ref e::a.pos))
     (λr s'=>r=.none/\ ∃dX vs,s'.heap.get? C=some (excClassObj nm q C N bs bm hdct sn sub ab col dd k0 k1 k2 k3 k5 newId)/\s'.heap.get? e=some {cls:=.ref C,dict:=dX,data:=.fields #[.ref vs,.none,.none,.none,.bool false,.none]}/\E (.ref e) s') E {s₂ with heap:=h'}) E s₁) E s):
  wpAny (model prog w) A (exec (.Raise (some (.Call (.Name x np) args [] cpos)) none pos) env) Q E s:=by
 rw[arm_exec_Raise]
 first
  |refine wB (wpAny_standAt (BD (C:=C) (nm:=nm) (q:=q) (N:=N) (bs:=bs) (bm:=bm) (hdct:=hdct) (sn:=sn) (sub:=sub) (ab:=ab) (col:=col) (dd:=dd) (k0:=k0) (k1:=k1) (k2:=k2) (k3:=k3) (k5:=k5) (newId:=newId) hbase hh (wB (wpAny_mono (wpAny_Call_ofName (wpAny_mono h (λf s₁ h₁=>?_) λ_ _ x=>x)) (λv s₃ h₃=>wB (wpAny_standAt (wP h₃))) λ_ _ x=>x))))
  |(simp only[evalOpt,Option.map];refine wB (wpAny_standAt (BD (C:=C) (nm:=nm) (q:=q) (N:=N) (bs:=bs) (bm:=bm) (hdct:=hdct) (sn:=sn) (sub:=sub) (ab:=ab) (col:=col) (dd:=dd) (k0:=k0) (k1:=k1) (k2:=k2) (k3:=k3) (k5:=k5) (newId:=newId) hbase hh (wB (wpAny_mono (wpAny_Call_ofName (wpAny_mono h (λf s₁ h₁=>?_) λ_ _ x=>x)) (λv s₃ h₃=>wB (wpAny_standAt (wP h₃))) λ_ _ x=>x)))))
 obtain⟨rfl,h₁⟩:=h₁;unfold callWith;refine wB (wpAny_holding (wpAny_mono h₁ (λa s₂ h₂=>wB (wpAny_standAt ?_)) λ_ _ x=>x));obtain⟨apos,akw⟩:=a;obtain⟨hkw,hlen,hC,hn,T,hfI,h₂⟩:=h₂;obtain rfl:akw=[]:=hkw;obtain⟨hp,g,d,tk,os⟩:=s₂;simp only[hplain];refine wB (wpAny_keeperOf_exc hC ?_);refine wB (LZ (hrest:=hlen) F T hC hn hi hfI hfc λh' e hm=>wpAny_mono (h₂ h' e hm) (λr s' ⟨hr,dX,vs,a1,a2,a4⟩=>⟨hr,wB (wpAny_holding (wpAny_point (wP ⟨e,dX,vs,rfl,a1,a2,a4⟩)))⟩) λ_ _ z=>z)
end
open Builtin Builtin.ObjectAttr
section
variable{prog:Program}{w:World}{A:Around}{E:VP}{h:Heap}{g:Array GenState}{d:Drawn}{t:Nat}{os:OsState}{C M x:Addr}{o:Obj}{v:Value}{name:Str}
variable{nm q:Str}{N:Addr}{bs bm:Nc}{sn:Nh}{sub:Nc}{ab:Bool}{col:Option Bool}{dd:Option Addr}{k0 k1 k2 k3 k5:Option Value}{newId:String}
def MA{Mo:Model}{nameV:Value}{Q:Unit->Shared->Prop}(O:eQ h C M)(hx:h.get? x=some o)(hc:o.cls=.ref C)(hq:Q () ⟨h,g,d,t,os⟩):
  wpAny Mo A (checkBuiltinCall "object.__setattr__" ⟨[.ref x,nameV,v],[]⟩) Q E ⟨h,g,d,t,os⟩:=by
 have SF:=F.store_ValueError;have hcB:(Value.ref C::.ref M::bI).contains (.type "object")=true:=by simp[List.contains_cons]
 have ha:=SF.args (.ref x) nameV v;simp only[checkBuiltinCall,SF.kind,SF.split];refine wB ?_
 .unfold isInstance
  repeat (first |(with_reducible refine wpAny_loadPart_at hx ?_;rw[hc])|(with_reducible refine eR O ?_;rw[hcB])|wp_step)
  exact hq
def SetAt(h h':Heap)(x:Addr)(o:Obj)(name:Str)(v:Value)(dx:Addr):Prop:=
 h.get? dx=none/\dx≠x/\h'.get? x=some {cls:=o.cls,dict:=some dx,data:=o.data,slots:=o.slots}/\h'.Ns1 dx (λy=>if y=name then some v else none)/\ ∀b ob,b≠x->h.get? b=some ob->h'.get? b=some ob
def MB{tk:Tok}{Q:Fin->Shared->Prop}(O:eQ h C M)(hC:h.get? C=some (excClassObj nm q C N bs (.ref M::bI) true sn sub ab col dd k0 k1 k2 k3 k5 newId))(hx:h.get? x=some o)(hc:o.cls=.ref C)(hdn:o.dict=none)(hnc: ∀c,o.data≠.cls c)
  (hn:name∈qn) (hB:typeLookup (.type "ValueError") name=pure none) (hq: ∀h' tk' dx,SetAt h h' x o name v dx->Q (.done (.ret .none)) ⟨h',g,d,tk',os⟩):
  wpAny (model prog w) A (Builtin.«object.__setattr__» ⟨[.ref x,.str name tk,v],[]⟩) Q E ⟨h,g,d,t,os⟩:=by
 have hpass:=F.store_ValueError.passes (.ref x);unfold Builtin.«object.__setattr__»
 repeat (first |rw[refuse_eq]|(rw[refuseLoop_ref,refuseLoop_ref,hpass])|(with_reducible refine wpAny_loadPart_at hx ?_;rw[hc])|with_reducible refine wpAny_mroOf_exc hC ?_|with_reducible refine aD O hn hB ?_|wp_step)
 rw[hdn,iN0 (by simp[typeHasDict])];split
 .rename_i hcd;cases hcd
 split
 .rename_i c hcd;exact absurd hcd (hnc c)
 .have hx₁:(h.push {cls:=.type "dict",data:=.dict #[]}).get? x=some o:=hP0 _ hx;have hxs:x≠h.objs.size:=Nat.ne_of_lt (Heap.lt_size hx);refine wB (wpAny_alloc' ?_);refine wB (wpAny_update' hx₁ ?_);refine wP ?_
  have hgd:((h.push {cls:=.type "dict",data:=.dict #[]}).update x λo=>{cls:=o.cls,dict:=some h.objs.size,data:=o.data,slots:=o.slots}).get? h.objs.size=some {cls:=.type "dict",data:=.dict #[]}:=
   (Heap.get?_update_ne _ _ _ _ hxs.symm).trans (Heap.get?_push_at rfl rfl)
  have hnd:((h.push {cls:=.type "dict",data:=.dict #[]}).update x λo=>{cls:=o.cls,dict:=some h.objs.size,data:=o.data,slots:=o.slots}).Ns h.objs.size (λ_=>none):=
   ⟨_,#[],_,hgd,rfl,λe he=>absurd he (by simp),λ_=>rfl⟩
  show wpAny _ _ (storeInDict h.objs.size (.str name tk) name v) _ _ _;unfold storeInDict newKeyGuard;refine wB (wP (wB (wpAny_nsSet1 (Heap.Ns1.of_empty hnd) λh' hn' hs=>?_)));obtain⟨oD,esD,epD,hoD,hdD,hcD⟩:=hn'.count (Within.cons name v Within.nil);refine wB (wpAny_lookBehind hoD (by rw[hdD];exact pastItsLine_dict (Nat.le_trans hcD (by rw[lC0,List.length_nil,sizeLine_eq];omega))) ?_)
  wp_walk
  refine hq h' _ h.objs.size ⟨Heap.get?_none_of_le (Nat.le_refl _),hxs.symm,?_,hn',λb ob hbx hb=>(hs.2 b (Nat.ne_of_lt (Heap.lt_size hb))).trans ((Heap.get?_update_ne _ _ _ _ hbx).trans (hP0 _ hb))⟩;refine(hs.2 x hxs).trans (Heap.get?_update_self _ hx₁ ?_);have hfr:=(Heap.get?_some_iff.mp hx).2;obtain⟨oc,od,odt,osl⟩:=o;cases odt<;>first |rfl|exact hfr
def RU{Q:Unit->Shared->Prop}(O:eQ h C M)(hC:h.get? C=some (excClassObj nm q C N bs (.ref M::bI) true sn sub ab col dd k0 k1 k2 k3 k5 newId))(hx:h.get? x=some o)(hc:o.cls=.ref C)(hdn:o.dict=none)(hnc: ∀c,o.data≠.cls c)
  (hn:name∈qn) (hB:typeLookup (.type "ValueError") name=pure none) (hq: ∀h' tk' dx,SetAt h h' x o name v dx->Q () ⟨h',g,d,tk',os⟩):wpAny (model prog w) A (setAttr (.ref x) name v) Q E ⟨h,g,d,t,os⟩:=by
 have f3:=F.store_ValueError.slot.bind (.ref x);have q4:("__setattr__":Str)∈qn:=by decide
 unfold setAttr callSpecial? specialOf
 repeat (any_goals (first |assumption|(with_reducible refine wpAny_loadPart_at hx ?_;rw[hc])|with_reducible refine aD O q4 F.store_ValueError.slot.lookup ?_|wp_step))
 refine codeAny_call_builtin F.store_ValueError.slot.plain F.store_ValueError.entry (MA O hx hc (MB O hC hx hc hdn hnc hn hB λh' tk' dx hs=>?_))
 repeat (any_goals (first |assumption|wp_step))
 exact hq h' tk' dx hs
def MC{tk:Tok}{dx:Addr}{mA:Ni}{Q:Fin->Shared->Prop}(O:eQ h C M)(hC:h.get? C=some (excClassObj nm q C N bs bm true sn sub ab col dd k0 k1 k2 k3 k5 newId))(hx:h.get? x=some o)(hc:o.cls=.ref C)(hdx:o.dict=some dx)(hnc: ∀c,o.data≠.cls c)(hns:h.Ns1 dx mA)(hv:mA name=some v)
  (hn:name∈qn) (hB:typeLookup (.type "ValueError") name=pure none) (hq:Q (.done (.ret v)) ⟨h,g,d,t,os⟩):
  wpAny (model prog w) A (Builtin.«object.__getattribute__» ⟨[.ref x,.str name tk],[]⟩) Q E ⟨h,g,d,t,os⟩:=by
 repeat (any_goals (first |assumption|(with_reducible refine wpAny_loadPart_at hx ?_;rw[hc])|with_reducible refine aD O hn hB ?_|wp_step))
 split
 .rename_i c hcd;exact absurd hcd (hnc c)
 unfold instanceDict
 repeat (first |(with_reducible refine wpAny_loadPart_at hx ?_;rw[hc])|with_reducible refine wpAny_loadPart_at hC ?_|wp_step)
 rw[hdx]
 repeat (first |(with_reducible refine wpAny_nsGet hns.ns ?_;rw[hv])|wp_step)
 exact hq
def RV{tk:Tok}{dx:Addr}{mA:Ni}{R:Result->Shared->Prop}(O:eQ h C M)(hC:h.get? C=some (excClassObj nm q C N bs bm true sn sub ab col dd k0 k1 k2 k3 k5 newId))(hx:h.get? x=some o)(hc:o.cls=.ref C)(hdx:o.dict=some dx)(hnc: ∀c,o.data≠.cls c)(hns:h.Ns1 dx mA)(hv:mA name=some v)
  (hn:name∈qn) (hB:typeLookup (.type "ValueError") name=pure none) (hq:R (.ok (.ret v)) ⟨h,g,d,t,os⟩):
  codeAny (model prog w) A (.call (.builtin "BaseException.__getattribute__") ⟨[.ref x,.str name tk],[]⟩) R ⟨h,g,d,t,os⟩:=
 codeAny_call_builtin F.attrBase_ValueError.ga.plain F.entry_bexc_ga (DZ O hx hc (MC O hC hx hc hdx hnc hns hv hn hB hq))
def Bu{tk:Tok}{dx:Addr}{mA:Ni}{fill expr:Bool}{Q:VP}(O:eQ h C M)(hC:h.get? C=some (excClassObj nm q C N bs bm true sn sub ab col dd k0 k1 k2 k3 k5 newId))(hx:h.get? x=some o)(hc:o.cls=.ref C)(hdx:o.dict=some dx)(hnc: ∀c,o.data≠.cls c)(hns:h.Ns1 dx mA)(hv:mA name=some v)
  (hn:name∈qn) (hB:typeLookup (.type "ValueError") name=pure none) (hh:handedOut v=pure v) (hq:Q v ⟨h,g,d,t,os⟩):
  wpAny (model prog w) A (getAttrBy (.ref x) (.str name tk) fill expr) Q E ⟨h,g,d,t,os⟩:=by
 have f3:=F.attrBase_ValueError.ga.bind (.ref x);have hx0:(expr&&onTheHeap (Value.builtin "BaseException.__getattribute__"))=false:=by cases expr<;>rfl
 have hx2:(Value.builtin "BaseException.__getattribute__"==Value.builtin "object.__getattribute__")=false:=by decide+kernel
 have hx1:(onTheHeap (Value.ref C)&&Value.builtin "BaseException.__getattribute__"==Value.builtin "object.__getattribute__")=false:=by rw[hx2];rfl
 repeat (any_goals (first |assumption|(with_reducible refine wpAny_loadPart_at hx ?_;rw[hc])|with_reducible refine aD O qn2 Dg ?_|with_reducible refine aD O qn3 IF ?_|wp_step))
 refine RV O hC hx hc hdx hnc hns hv hn hB ?_
 repeat (any_goals (first |assumption|rw[hh]|wp_step))
def RW{dx:Addr}{mA:Ni}{expr:Bool}{Q:VP}(O:eQ h C M)(hC:h.get? C=some (excClassObj nm q C N bs bm true sn sub ab col dd k0 k1 k2 k3 k5 newId))(hx:h.get? x=some o)(hc:o.cls=.ref C)(hdx:o.dict=some dx)(hnc: ∀c,o.data≠.cls c)(hns:h.Ns1 dx mA)(hv:mA name=some v)
  (hn:name∈qn) (hB:typeLookup (.type "ValueError") name=pure none) (hh:handedOut v=pure v) (hq:Q v ⟨h,g,d,t+1,os⟩):wpAny (model prog w) A (getAttr (.ref x) name expr) Q E ⟨h,g,d,t,os⟩:=by
 unfold getAttr
 repeat (any_goals (first |assumption|with_reducible apply Bu O hC hx hc hdx hnc hns hv hn hB hh|wp_step))
end
theorem dF:typeLookup (.type "ValueError") "place"=pure none:=by rw[typeLookup_type,builtinLookup_eq_fast];kernel_rfl
abbrev EK(C:Addr)(d:Option Addr)(t:Addr):Obj:={cls:=.ref C,dict:=d,data:=.fields #[.ref t,.none,.none,.none,.bool false,.none]}
section
variable{prog:Program}{w:World}{A:Around}{E:VP}{h:Heap}{g:Array GenState}{d:Drawn}{t:Nat}{os:OsState}{C x t0:Addr}{u:Value}
variable{nm q:Str}{N:Addr}{bs bm bmB:Nc}{hdct:Bool}{sn:Nh}{sub:Nc}{ab:Bool}{col:Option Bool}{dd:Option Addr}{k0 k1 k2 k3 k5:Option Value}{B newId initId:String}
def MD(F:ExcBaseFacts B newId initId bmB)(T:OwnTail h bmB bm){Q:VP}(hC:h.get? C=some (excClassObj nm q C N bs bm hdct sn sub ab col dd k0 k1 k2 k3 k5 newId))(hx:h.get? x=some (EK C none t0))
  (hq: ∀h' t1,h'.get? x=some (EK C none t1)->(∀b ob,b≠x->h.get? b=some ob->h'.get? b=some ob)->Q .none ⟨h',g,d,t,os⟩):wpAny (model prog w) A (call (.builtin initId) [.ref x,u]) Q E ⟨h,g,d,t,os⟩:=by
 refine wpAny_call (codeAny_call_builtin F.init.plain F.initEntry (wpAny_check_init_subT F T hC hx rfl ?_))
 wp_walk
 refine hq _ (h.objs.size) ?_ λb ob hb hob=>?_
 .rw[Heap.get?_update_self _ (hP0 _ hx) rfl];rfl
 .rw[Heap.get?_update_other _ _ (Ne.symm hb)];exact hP0 _ hob
end
abbrev Bv:Nat:=10 ^ 100
inductive JL(par:Str):List Expr->Prop
 |nil:JL par []
 |txt {y:Str} {k:Nat} {pos:Pos} {es:Oc}:y.length<=200->JL par es->JL par (.Constant (.str y) k pos::es)
 |fld {p pos:Pos} {es:Oc}:JL par es->JL par (.FormattedValue (.Name par p) (-1) none pos::es)
section
variable{X:Cx}{par:Str}{i:Nat}{pins:Nk}{σ:St}{H:Hp}
def WR(hN:X.N[i]? =some par)(hv:ZF X.env.scope par)(hd:(par==("__debug__":Str))=false)(hcd:(par==("__classdict__":Str))=false){n:Int}(hs:σ[i]? =some (some (.int n)))(hb:n.natAbs<Bv){Q:Str->Shared->Prop}(hq: ∀y s,y.length<=100000->Inv X pins σ H s->Q y s)
  {es:Oc} (hj:JL par es): ∀(acc:Str)(s:Shared),acc.length+200 * es.length<=100000->Inv X pins σ H s->Joins (model X.prog X.w) X.A X.xe (evalEach es X.env) acc Q s:=by
 induction hj with
 |nil=>intro acc s hl I;exact hq acc s (by simpa using hl) I
 |@txt y k pos es hy h ih=>
  intro acc s hl I;rw[lC0]at hl;have sl:(acc++y).length=acc.length+y.length:=PySem.strLen_append ..;refine wM (TH (X:=X) pins s σ H (λv H'=>v=.str y/\H'=H) I ⟨rfl,rfl⟩) λu s1 ⟨v,H',I',r,e1,e2⟩=>?_;subst e1 e2;obtain⟨tk,rfl⟩:=r;exact⟨y,tk,rfl,by rw[sl,sizeLine_eq];omega,ih (acc++y) s1 (by rw[sl];omega) I'⟩
 |@fld p pos es h ih=>
  intro acc s hl I;rw[lC0]at hl;have len:(Str.ofString (toString n)).length<=101:=by rw[PySem.ofString_length];exact int_text_length_le10 (k:=100) (by decide) hb
  have sl:(acc++(toString n:Str)).length<=acc.length+101:=by have:=PySem.strLen_append acc (toString n:Str);rw[this];exact Nat.add_le_add_left len _
  have hlog:n.natAbs.log2<1920:=by
   by_cases z:n.natAbs=0
   .rw[z];decide
   .exact(log2_lt z).mpr (lt_trans hb (by decide+kernel))
  refine wpAny_FormattedValue_plain (wM (vN (X:=X) hN hv hd hcd pins s σ H (λv H'=>v=.int n/\H'=H) I ⟨_,hs,rfl,rfl⟩) λu s1 ⟨v,H',I',r,e1,e2⟩=>?_);subst e1 e2;obtain⟨tk,rfl⟩:=r;exact wpAny_formatField_int hlog ⟨_,_,rfl,by rw[sizeLine_eq];omega,ih _ _ (by omega) (I'.tok _)⟩
def tJ(i:Nat):TE:=λσ H Q=> ∃n,σ[i]? =some (some (.int n))/\n.natAbs<Bv/\ ∀y:Str,Q (.str y) H
def Bw{v1 v2:Expr}{vs:Oc}{pos:Pos}(hN:X.N[i]? =some par)(hv:ZF X.env.scope par)(hd:(par==("__debug__":Str))=false)(hcd:(par==("__classdict__":Str))=false)(h:JL par (v1::v2::vs))(hl:vs.length<=100):PE X (.JoinedStr (v1::v2::vs) pos) (tJ i):=by intro pins s σ H Q I ⟨n,hs,hb,q⟩;refine wpAny_JoinedStr (WR (pins:=pins) (H:=H) hN hv hd hcd hs hb (λy s1 hy I1=>⟨by rw[sizeLine_eq];omega,.str y,H,I1.tok _,⟨_,rfl⟩,q y⟩) h _ s ?_ I);rw[lC0,lC0];show 0+_<=_;omega
end
def Dq(H:Hp)(e:Addr):Hp:=λb=>if b=e then none else H b
def pZ{H:Hp}{e b:Addr}(h:b≠e):Dq H e b=H b:=by unfold Dq;rw[iN0 h]
def IS{H:Hp}{e:Addr}:Dq H e e=none:=by unfold Dq;rw[iP rfl]
def Inv.untrack{X:Cx}{pins:Nk}{σ:St}{H:Hp}{s:Shared}{e:Addr}{φ:Heap->Prop}(J:Inv X pins σ H s)(he:H e=some (.ext φ)):Inv X pins σ (Dq H e) s:=by
 have ne: ∀b u,H b=some u->(∀φ,u≠.ext φ)->b≠e:=λb u q z y=>by rw[y,he]at q;cases q;exact z _ rfl
 have nn: ∀b,H b=none->Dq H e b=none:=λb q=>by unfold Dq;split<;>trivial
 refine⟨J.ok,J.os,J.bare,⟨J.base.keep,J.base.slot,λb ob q n hx=>nn b (J.base.free b ob q n hx),J.base.there,λb xs q=>?_,λb o' u q=>?_,λb ps q=>?_⟩,J.loc,J.cell,nn _ J.free,λx c hc=>nn _ (J.freeC x c hc),λp hp=>?_,λb u q=>?_,J.len⟩
 .rw[pZ (ne b _ (J.base.tups b xs q) λ_ z=>by cases z)];exact J.base.tups b xs q
 .rw[pZ (ne b _ (J.base.frzs b o' u q) λ_ z=>by cases z)];exact J.base.frzs b o' u q
 .obtain⟨mo,z⟩:=J.base.tbls b ps q;exact⟨mo,by rw[pZ (ne b _ z λ_ z=>by cases z)];exact z⟩
 .obtain⟨e1,n,r⟩:=J.pin p hp;exact⟨e1,nn _ n,r⟩
 .by_cases z:b=e
  .rw[z,IS]at q;cases q
  .rw[pZ z]at q;exact(J.hok b u q).stay (λ_ _ _ r=>r) (λc r=>by rw[pZ (ne c _ r λ_ z=>by cases z)];exact r) λc xs r=>by rw[pZ (ne c _ r λ_ z=>by cases z)];exact r
namespace M
structure XIn(K:Od)(M C f:Addr):Prop where
 ex: ∃nm q N bs sn sub ab col dd k0 k1 k2 k3 k5,K.lookup C=some (excClassObj nm q C N bs (.ref M::bI) true sn sub ab col dd k0 k1 k2 k3 k5 "ValueError.__new__")/\PySem.W.nsOkIn K N=true/\PySem.W.nsIn K N "__init__"=some (some (.ref f))/\ ∀n∈qn,PySem.W.nsIn K N n=some none
 fo: ∃o,K.lookup f=some o/\o.cls=.type "function"
def XIn.cl{K:Od}{M C f:Addr}(x:XIn K M C f):oV K C (.ref M::bI) (some (.ref f)):=by obtain⟨nm,q,N,bs,sn,sub,ab,col,dd,k0,k1,k2,k3,k5,a,b,c,d⟩:=x.ex;exact⟨nm,q,N,bs,true,sn,sub,ab,col,dd,k0,k1,k2,k3,k5,a,b,c,d,rfl⟩
structure XMn(K:Od)(M:Addr):Prop where
 ga:PySem.W.specialIn K (.ref M) "__getattribute__"=some (some (.builtin "type.__getattribute__"))
 rd:PySem.W.readsIn K M (.type "type")=true
 init:PySem.W.findCls K (.ref M) (.type "type") "__init__"=some (.val (.builtin "ValueError.__init__"))
def pK(C:Addr)(fld:Str):Sp:=λvs H Q _=> ∃e n t0,vs=[.ref e,.int n]/\n.natAbs<Bv/\H e=some (.ext λh=>h.get? e=some (EK C none t0))/\
 ∀dx od t1,H dx=none->dx≠e->Q .non (xT (xT H dx (.frz od (.xd [(fld,.int n)]))) e (.ext λh=>h.get? e=some (EK C (some dx) t1)))
def Dr{K:Od}{h:Heap}{M:Addr}(X:K.In h)(m:oV K M bI none):OwnTail h bI (.ref M::bI):=by obtain⟨_,_,N',_,_,_,_,_,_,_,_,_,_,_,_,lM,oM,iM,_⟩:=m;exact .own (X _ _ lM) (.of_isNs (PySem.W.isNs_of_in X oM)) (PySem.W.nsMap_none_of_in X oM iM) .base
section
variable{X:Cx}{M C f:Addr}{fld par:Str}{p1 p2 p3 p4 p5 p6 p7 p8 p9 p10:Pos}{v1 v2:Expr}{vs:Oc}
def WS{pl:Sem Bool}(hM:oV X.K M bI none)(XI:XIn X.K M C f)(XM:XMn X.K M)(hmg:X.mg "MendError"=some (.ref M))(hg:Gl X "MendError")(hN0:X.N[0]? =some ("self":Str))(hN1:X.N[1]? =some par)(hv0:ZF X.env.scope "self")(hv1:ZF X.env.scope par)
  (hd:(par==("__debug__":Str))=false) (hcd:(par==("__classdict__":Str))=false) (hj:JL par (v1::v2::vs)) (hl:vs.length<=100) (hf:fld∈qn) (hB:typeLookup (.type "ValueError") fld=pure none) (hcalm:X.calm=true)
  (ht:eval (.Call (.Attribute (.Name "MendError" p1) "__init__" p2) [.Name "self" p3,.JoinedStr (v1::v2::vs) p4] [] p5) X.env=(do
   let ov <-eval (.Name "MendError" p1) X.env
   standAt p2.atName
   let (f,first) <-holding [ov] (getMethod ov "__init__" pl)
   callWith p5 f first (backTo p5 (starEach [.Name "self" p3,.JoinedStr (v1::v2::vs) p4] X.env)) (backToKw p5 (keywordEach [] X.env))))
  (hs1:swapsWith (.Call (.Attribute (.Name "MendError" p1) "__init__" p2) [.Name "self" p3,.JoinedStr (v1::v2::vs) p4] [] p5) none p6.line X.env=pure false) (hs2:swapsWith (.Name par p9) (some (.Attribute (.Name "self" p7) fld p8)) p10.line X.env=pure false)
  (he:starEach [Expr.Name "self" p3,.JoinedStr (v1::v2::vs) p4] X.env=(false,eval (.Name "self" p3) X.env)::starEach [.JoinedStr (v1::v2::vs) p4] X.env:=by rfl) (he2:starEach [Expr.JoinedStr (v1::v2::vs) p4] X.env=(false,eval (.JoinedStr (v1::v2::vs) p4) X.env)::starEach [] X.env:=by rfl)
  (hpl:(backTo p5 (starEach [Expr.JoinedStr (v1::v2::vs) p4] X.env)).any (·.1)=false:=by rfl):
  PSs X [.Expr (.Call (.Attribute (.Name "MendError" p1) "__init__" p2) [.Name "self" p3,.JoinedStr (v1::v2::vs) p4] [] p5) p6,.Assign [.Attribute (.Name "self" p7) fld p8] (.Name par p9) p10]
   (λD σ H=> ∃e n t0,σ[0]? =some (some (.ref e))/\σ[1]? =some (some (.int n))/\n.natAbs<Bv/\H e=some (.ext λh=>h.get? e=some (EK C none t0))/\
    ∀dx od t1,H dx=none->dx≠e->D.nx σ (xT (xT H dx (.frz od (.xd [(fld,.int n)]))) e (.ext λh=>h.get? e=some (EK C (some dx) t1)))):=by
 intro pins s σ H D I ⟨e,n,t0,s0,s1,hb,hH,q⟩;obtain⟨nm,qq,N,bs,sn,sub,ab,col,dd,k0,k1,k2,k3,k5,lC,oN,iN,qN⟩:=XI.ex;refine wpAny_execs_cons (wpAny_Expr_any ?_ I.quiet hs1);refine PySem.W.methodCall_KW (pl:=pl) (bD I hg hmg ?_) ht;refine PySem.W.method_cls I.kIn XM.ga (PySem.W.cls_value I.kIn XM.rd XM.init rfl ?_);refine PyProof.Rows.callWith_builtin1 (wM (nZ (vN (X:=X) hN0 hv0) (nZ (Bw hN1 hv1 hd hcd hj hl) vR he2) he p5 pins _ σ H (λvs H1=> ∃y,vs=[.ref e,.str y]/\H1=H) (I.tok _) ⟨_,s0,n,s1,hb,λy=>⟨y,rfl,rfl⟩⟩) ?_) he hpl;rintro us s2 ⟨vs2,H2,I2,r2,y,e2,e3⟩;subst e2;rw[e3]at I2
 obtain⟨u1,rfl⟩: ∃u1,us=[.ref e,u1]:=by
  cases r2 with
  |cons r1 r=>cases r with
   |cons r2 r=>cases r;cases r1;exact⟨_,rfl⟩
 have hx2:s2.heap.get? e=some (EK C none t0):=(I2.hok e _ hH).1;have mu:Js (H e):=by rw[hH];trivial
 obtain⟨hp2,g2,d2,tk2,os2⟩:=s2;refine MD F.excBase_ValueError (Dr I2.kIn hM) (I2.kIn _ _ lC) hx2 λh3 t1 hx3 k3'=>?_
 have I3:Inv X pins σ (xT H e (.ext λh=>h.get? e=some (EK C none t1))) ⟨h3,g2,d2,tk2,os2⟩:=
  I2.write (t':=tk2) mu (.inl rfl) (λb u hb' hu=>k3' b u hb' hu) ⟨_,hx3⟩ ⟨hx3,⟨_,hx3⟩,λh1 h2 z k=>k _ z⟩
 refine wpAny_execs_cons (plainObj_wpAny_Assign_Attribute ?_ hs2);refine wM (vN (X:=X) hN1 hv1 hd hcd pins _ σ _ (λv H'=>v=.int n/\H'=xT H e (.ext λh=>h.get? e=some (EK C none t1))) I3 ⟨_,s1,rfl,rfl⟩) ?_;rintro u s4 ⟨v4,H4,I4,r4,e4,e5⟩;subst e4 e5;refine wM (vN (X:=X) hN0 hv0 (by decide) (by decide) pins _ σ _ (λv H'=>v=.ref e/\H'=xT H e (.ext λh=>h.get? e=some (EK C none t1))) I4 ⟨_,s0,rfl,rfl⟩) ?_;rintro u5 s5 ⟨v5,H5,I5,r5,e6,e7⟩;subst e6 e7;cases r5;have hx5:s5.heap.get? e=some (EK C none t1):=(I5.hok e _ zQ).1;obtain⟨hp5,g5,d5,tk5,os5⟩:=s5;refine RU (rQ I5.kIn XI.cl hM) (I5.kIn _ _ lC) hx5 rfl rfl (λc z=>by cases z) hf hB λh6 tk6 dx st=>wpAny_execs_nil ?_;obtain⟨n6,ne6,hx6,ns6,k6⟩:=st;obtain⟨od,es6,ep6,hd6,r6⟩:=id ns6;have hHdx:H dx=none:=by have:=I5.hok.none_of n6;rwa [zI ne6]at this
 refine⟨σ,_,?_,q dx od t1 hHdx ne6⟩;have hin: ∀b,b≠e->(xT (xT H dx (.frz od (.xd [(fld,.int n)]))) e (.ext λh=>h.get? e=some (EK C (some dx) t1))) b=xT H dx (.frz od (.xd [(fld,.int n)])) b:=λb hb'=>zI hb';have hol: ∀b o,H b=some o->b≠dx:=λb o z y=>by rw[y,hHdx]at z;cases z
 have base5: ∀b,b≠e->(xT H e (.ext λh=>h.get? e=some (EK C none t1))) b=H b:=λb hb'=>zI hb';refine I5.un (h':=h6) (t':=tk6) ⟨λb o z n' _ _=>k6 b o (λy=>by rw[y,zQ]at n';cases n') z,λb o z n' _ _=>⟨o.slots,k6 b o (λy=>by rw[y,zQ]at n';cases n') z⟩,λb o z n' _=>?_,λb o z _=>?_,λb xs z=>?_,λb o' u' z=>?_,λb ps z=>?_⟩ λb u' z=>?_
 .have hbe:b≠e:=λy=>by rw[y,zQ]at n';cases n'
  rw[base5 b hbe]at n';rw[hin b hbe,zI (λy=>by rw[y]at z;exact absurd (show hp5.get? dx=some o from z) (by rw[n6];simp))];exact n'
 .by_cases hbe:b=e
  .exact⟨_,by rw[hbe];exact hx6⟩
  .exact⟨o,k6 b o hbe z⟩
 .have hbe:b≠e:=λy=>by rw[y,zQ]at z;cases z
  rw[base5 b hbe]at z;rw[hin b hbe,zI (hol b _ z)];exact z
 .have hbe:b≠e:=λy=>by rw[y,zQ]at z;cases z
  rw[base5 b hbe]at z;rw[hin b hbe,zI (hol b _ z)];exact z
 .have hbe:b≠e:=λy=>by rw[y,zQ]at z;cases z
  rw[base5 b hbe]at z;exact⟨#[],by rw[hin b hbe,zI (hol b _ z),z];simp⟩
 .by_cases hbe:b=e
  .subst hbe;rw[zQ]at z;cases z;exact⟨hx6,⟨_,hx6⟩,λh1 h2 z k=>k _ z⟩
  .rw[hin b hbe]at z;by_cases hbd:b=dx
   .subst hbd;rw[zQ]at z;cases z;refine⟨hd6,_,ns6,λy=>?_⟩;obtain⟨tk,rfl⟩:=r4;by_cases hy:y=fld
    .subst hy;rw[iP rfl,List.lookup_cons_self];exact⟨tk,rfl⟩
    .rw[iN0 hy];have:(([(fld,V.int n)]:List (Str×V))).lookup y=none:=by rw[lookup_cons];rw[show(y==fld)=false from by simpa using hy];rfl
     rw[this];trivial
   .rw[zI hbd]at z;have z5:(xT H e (.ext λh=>h.get? e=some (EK C none t1))) b=some u':=by rw[base5 b hbe];exact z
    have ntr: ∀c o,(xT H e (.ext λh=>h.get? e=some (EK C none t1))) c=some o->(∀φ,o≠.ext φ)->(xT (xT H dx (.frz od (.xd [(fld,.int n)]))) e (.ext λh=>h.get? e=some (EK C (some dx) t1))) c=some o:=λc o w ne=>by
     have hce:c≠e:=λy=>by rw[y,zQ]at w;cases w;exact ne _ rfl
     rw[base5 c hce]at w;rw[hin c hce,zI (hol c _ w)];exact w
    refine(I5.hok b u' z5).stay (λc v hc r=>k6 c v ?_ r) (λc w=>ntr c _ w λ_ y=>by cases y) λc xs w=>ntr c _ w λ_ y=>by cases y
    rcases hc with rfl|hc
    .exact hbe
    .intro y;rw[y,zQ]at hc;cases hc
end
section
variable{P:Program}{w:World}{K:Od}{mg:Ni}{base:Heap}{qual:Str}{st:Stmt}{f C M:Addr}{fd:FuncData}{fld par:Str}{p1 p2 p3 p4 p5 p6 p7 p8 p9 p10:Pos}{v1 v2:Expr}{vs:Oc}
def vC{pl:Env->Sem Bool}(Fu:Fun K "__init__" qual st f fd)(Sc:FnScope ["self",par] ["self",par] (zE st))(hM:oV K M bI none)(XI:XIn K M C f)(XM:XMn K M)(hmg:mg "MendError"=some (.ref M))
  (hbd:yN st=[.Expr (.Call (.Attribute (.Name "MendError" p1) "__init__" p2) [.Name "self" p3,.JoinedStr (v1::v2::vs) p4] [] p5) p6,.Assign [.Attribute (.Name "self" p7) fld p8] (.Name par p9) p10])
  (ht: ∀env:Env,eval (.Call (.Attribute (.Name "MendError" p1) "__init__" p2) [.Name "self" p3,.JoinedStr (v1::v2::vs) p4] [] p5) env=(do
   let ov <-eval (.Name "MendError" p1) env
   standAt p2.atName
   let (f,first) <-holding [ov] (getMethod ov "__init__" (pl env))
   callWith p5 f first (backTo p5 (starEach [.Name "self" p3,.JoinedStr (v1::v2::vs) p4] env)) (backToKw p5 (keywordEach [] env))))
  (hs1: ∀env:Env,swapsWith (.Call (.Attribute (.Name "MendError" p1) "__init__" p2) [.Name "self" p3,.JoinedStr (v1::v2::vs) p4] [] p5) none p6.line env=pure false) (hs2: ∀env:Env,swapsWith (.Name par p9) (some (.Attribute (.Name "self" p7) fld p8)) p10.line env=pure false)
  (hg:(zE st).names.lookup ("MendError":Str)=some .globalImplicit) (h0:(zE st).names.lookup ("self":Str)=some .local) (h1:(zE st).names.lookup par=some .local)
  (hd:(par==("__debug__":Str))=false) (hcd:(par==("__classdict__":Str))=false) (hj:JL par (v1::v2::vs)) (hl:vs.length<=100) (hf:fld∈qn) (hB:typeLookup (.type "ValueError") fld=pure none):FnOk P w K mg base pF 1 f fd ["self",par] (pK C fld):=by
 refine Fu.ok (k:=0) Sc (λvs' H Q E ⟨e,n,t0,z,_⟩=>by rw[z];rfl) λcdv A outer s H vs' Q E hr ⟨e,n,t0,z,hb,hH,q⟩=>?_;subst z;rw[hbd];exact⟨_,WS hM XI XM hmg hg rfl rfl (.inl h0) (.inl h1) hd hcd hj hl hf hB rfl (ht _) (hs1 _) (hs2 _),e,n,t0,rfl,rfl,hb,hH,q⟩
end
end M
end L2
namespace L2
section
open PySem PySem.Spec PyProof.Rows
variable{X:Cx}{pins:Nk}{σ:St}{H:Hp}{s:Shared}{e:Addr}
def Inv.trackE{ob:Obj}(J:Inv X pins σ H s)(o:Out X pins H s e)(he:s.heap.get? e=some ob):Inv X pins σ (xT H e (.ext λh=>h.get? e=some ob)) s:=by
 refine⟨J.ok,J.os,J.bare,⟨J.base.keep,J.base.slot,λb ob' q n hx=>?_,J.base.there,λb xs q=>?_,λb o' u q=>?_,λb ps q=>?_⟩,J.loc,J.cell,?_,λx c hc=>?_,λp hp=>?_,λb u q=>?_,J.len⟩
 .rw[zI λz=>by rw[z,o.s0]at q;cases q];exact J.base.free b ob' q n hx
 .rw[zI (zS (J.base.tups b xs q) o.h)];exact J.base.tups b xs q
 .rw[zI (zS (J.base.frzs b o' u q) o.h)];exact J.base.frzs b o' u q
 .obtain⟨mo,z⟩:=J.base.tbls b ps q;exact⟨mo,by rw[zI (zS z o.h)];exact z⟩
 .rw[zI (o.loc J)];exact J.free
 .rw[zI (o.cell J hc)];exact J.freeC x c hc
 .obtain⟨e1,n,ne,nf,dd⟩:=J.pin p hp;exact⟨e1,by rw[zI (o.pin p hp)];exact n,ne,nf,dd⟩
 .by_cases z:b=e
  .subst z;rw[zQ]at q;cases q;exact⟨he,⟨ob,he⟩,λh1 h2 p k=>k _ p⟩
  .rw[zI z]at q;exact(J.hok b u q).stay (λ_ _ _ r=>r) (λc r=>by rw[zI (zS r o.h)];exact r) λc xs r=>by rw[zI (zS r o.h)];exact r
end
namespace M
open PySem PySem.Spec PyProof.Rows
def ME{K:Od}{h:Heap}{N:Addr}{mg:Ni}{n:Str}{v:Value}(X:K.In h)(G:h.Ns N mg)(e:PySem.W.nsIn K N n=some (some v)):mg n=some v:=by
 obtain⟨o,es,ep,ho,hd,_,hf⟩:=G;unfold PySem.W.nsIn at e;split at e
 .rename_i c d es' n' sl q;have:=X _ _ q;rw[ho]at this;cases this;cases hd;split at e
  .rename_i en he;cases e;rw[<-hf];unfold nsFind findBy;rw[<-Array.find?_toList,he];rfl
  .split at e<;>cases e
 .cases e
def Ds(x fld:Str):Er->Sto->R Fl
 |.val (.int n),S=>if n.natAbs<Bv then .exc x [(fld,.int n)] S else .no
 |_,_=>.no
section
variable{X:Cx}{E:XK}{e:Expr}{fe:AX}{pos np cpos:Pos}{x fld par:Str}{C M f:Addr}{fd:FuncData}{k:Nat}
def eW(hx:XOk X E)(hg:Gl X x)(hm:X.mg x=some (.ref C))(hM:oV X.K M bI none)(XI:XIn X.K M C f)(G:FnOk X.prog X.w X.K X.mg X.base pF 1 f fd ["self",par] (pK C fld))(hb:Binds X.K fd ["self",par] [])(hr:Room k X.A)(ha:yL X (WE X.g E) e fe)
  (hk:2<=k:=by decide) (hex:X.ex=[]:=by rfl) (hcalm:X.calm=true:=by rfl) (hd:(x==("__debug__":Str))=false:=by decide) (he:starEach [e] X.env=(false,eval e X.env)::starEach [] X.env:=by rfl) (hpl:(backTo cpos (starEach [] X.env)).any (·.1)=false:=by rfl):
  SZ X (WE X.g E) (.Raise (some (.Call (.Name x np) [e] [] cpos)) none pos) (λρ S=>(fe ρ S).bind (Ds x fld)):=by
 obtain⟨ta,ha,fa⟩:=ha;refine⟨λD σ H=>ta σ H λv H1=> ∃n,v=.int n/\n.natAbs<Bv/\ ∀dx od,H1 dx=none->E (.ref C) (some dx) (xT H1 dx (.frz od (.xd [(fld,.int n)]))),λpins s σ H D I h=>?_,λα ρ S σ H D wd sl q=>fa α ρ S σ H _ wd sl (q.expr λv r S1 α1 H1 e1 x1 w1 d1 q1=>?_)⟩
 .obtain⟨nm,q,N,bs,sn,sub,ab,col,dd,k0,k1,k2,k3,k5,lC,oN,iN,qN⟩:=XI.ex;obtain⟨oI,lI,cI⟩:=XI.fo;have XB:=I.mod.kin;have hN:=Heap.Ns.of_isNs (PySem.W.isNs_of_in XB oN);have hni:=ME XB hN iN;have T:=Dr XB hM
  refine IR (C:=C) (nm:=nm) (q:=q) (N:=N) (bs:=bs) (bm:=.ref M::bI) (hdct:=true) (sn:=sn) (sub:=sub) (ab:=ab) (col:=col) (dd:=dd) (k0:=k0) (k1:=k1) (k2:=k2) (k3:=k3) (k5:=k5) (fI:=f) (oI:=oI)
   F.excBase_ValueError (T.hasType F.excBase_ValueError.hasBase) (I.ok.hd hcalm) (by rw[he];exact hpl) hni cI (bD I hg hm ⟨rfl,?_⟩ hd)
  have hr':=nZ ha vR he cpos pins s σ H (λvs H1=>match vs with |[v]=> ∃n,v=.int n/\n.natAbs<Bv/\ ∀dx od,H1 dx=none->E (.ref C) (some dx) (xT H1 dx (.frz od (.xd [(fld,.int n)])))|_=>False) I h;rw[he]at hr' ⊢;refine Calls.evalArgs_plain (wM hr' λus s1 ⟨vs,H1,I1,r1,hv⟩=>?_)
  obtain⟨v0,rfl,n,rfl,hn,hE⟩: ∃v0,vs=[v0]/\ ∃n,v0=.int n/\n.natAbs<Bv/\ ∀dx od,H1 dx=none->E (.ref C) (some dx) (xT H1 dx (.frz od (.xd [(fld,.int n)]))):=by
   match vs,hv with
   |[v],hv=>exact⟨v,rfl,hv⟩
  have hlen:us.length=1:=by rw[<-r1.length];rfl
  refine⟨rfl,by show us.length<=_;rw[hlen];decide,I1.bk _ _ (XB _ _ lC),hN.keeps I1.bk,T.keeps I1.bk,I1.bk _ _ (XB _ _ lI),λh' a mk=>?_⟩;have J1:Inv X pins σ H1 {s1 with heap:=h'}:=I1.kept (t':=s1.toks) mk.keeps;obtain⟨t0,ht0,_,_⟩:=mk.there;have oa:Out X pins H1 {s1 with heap:=h'} a:=⟨I1.older hex mk.new,I1.hok.none_of mk.new,λp hp z=>(by have:=(I1.pin p hp).1;rw[z,mk.new]at this;cases this),_,_,ht0,rfl⟩
  have J2:=J1.trackE oa ht0;have rv:Vals [.ref a,.int n] (.ref a::us):=.cons rfl r1
  refine wpAny_call (codeAny_mono (G.run _ X.stack _ _ ⟨.ref a::us,[]⟩ (.ref a::us) [.ref a,.int n] (λv H'=>v=.non/\ ∃dx od t1,H1 dx=none/\dx≠a/\H'=xT (xT (xT H1 a (.ext λh=>h.get? a=some (EK C none t0))) dx (.frz od (.xd [(fld,.int n)]))) a (.ext λh=>h.get? a=some (EK C (some dx) t1))) E0
   ((hr.mono hk).make C us []) (J2.env0.make C us []) ?_ rv ⟨a,n,t0,rfl,hn,zQ,λdx od t1 h1 h2=>⟨rfl,dx,od,t1,by rwa [zI h2]at h1,h2,rfl⟩⟩) λr s' hq=>?_)
  .have hh:=hb _ (.ref a::us) J2.kIn (by simp[hlen]);rw[aN]at hh;exact hh
  .cases r with
   |error y=>exact hq.elim
   |ok fl=>
    cases fl with
    |ret u=>
     obtain⟨v3,H3,I3,r3,e3,dx,od,t1,hdx,hne,e4⟩:=J2.after hq;subst e3;have hga:s'.heap.get? a=some (EK C (some dx) t1):=(I3.hok a (.ext λh=>h.get? a=some (EK C (some dx) t1)) (by rw[e4];exact zQ)).1;have I4:=I3.untrack (e:=a) (by rw[e4];exact zQ)
     have eH:Dq H3 a=xT H1 dx (.frz od (.xd [(fld,.int n)])):=by
      funext b;rw[e4];by_cases hba:b=a
      .rw[hba,IS,zI (Ne.symm hne)];exact oa.h.symm
      .rw[pZ hba,zI hba];by_cases hbd:b=dx
       .rw[hbd,zQ,zQ]
       .rw[zI hbd,zI hba,zI hbd]
     rw[eH]at I4;exact⟨r3,_,_,I3.kIn _ _ lC,hga,hx.born pins σ _ s' a C (some dx) I4 ⟨_,_,hga,rfl,rfl,rfl,rfl,rfl⟩ oa.s0 (by rw[zI (Ne.symm hne)];exact oa.h) (hE dx od hdx)⟩
    |next=>exact False.elim hq
    |brk=>exact False.elim hq
    |cont=>exact False.elim hq
 .unfold Ds at q1;split at q1
  .rename_i n;split at q1
   .rename_i hn;exact⟨n,yY d1.1,hn,λdx od hdx=>q1 α1 _ (x1.trans (w1.newx hdx)) (w1.new hdx) C (some dx) hm (.inr ⟨dx,_,od,rfl,zQ,.cons (xR n) .nil⟩)⟩
   .exact q1.elim
  .exact q1.elim
end
def RX(ns:Nh)(fld:Str):Er->Sto->R Er
 |.val (.loc l),S=>match S[l]? with
  |some (.ins c fs)=>if c∈ns then(match fs.lookup fld with
   |some (.int n)=>.ok (.val (.int n)) S
   |_=>.no)else .no
  |_=>.no
 |_,_=>.no
theorem DenF.get{K:Od}{α:Ng}{H:Hp}{y:Str}{d:MV}: ∀{fs gs},DenF K α H fs gs->fs.lookup y=some d-> ∃v,gs.lookup y=some v/\Den K α H d v
 |_,_,.nil,h=>by simp at h
 |_,_,.cons (x:=x) a l,h=>by
  rw[lookup_cons]at h ⊢
  cases q:y==x with
  |true=>rw[q]at h;cases h;exact⟨_,rfl,a⟩
  |false=>rw[q]at h;exact DenF.get l h
section
variable{X:Cx}{W:XW}{a:Expr}{f:AX}{pos:Pos}{M:Addr}{cs:List (Str×Addr)}{fld:Str}
def MF{ns:Nh}(T:XTab X.K X.mg M cs)(hf:fld∈qn)(hB:typeLookup (.type "ValueError") fld=pure none)(ha:yL X W a f)(hns:cs.map (·.1)=ns:=by rfl)
  (hbase:attributeBase a fld X.env (eval a X.env)=eval a X.env:=by rfl) (hgo: ∀o r,letTemporaryGo a o r=pure ():=by intro _ _;rfl):yL X W (.Attribute a fld pos) (λρ S=>(f ρ S).bind (RX ns fld)):=by
 subst hns;obtain⟨ta,ha,fa⟩:=ha
 refine⟨λσ H Q=>ta σ H λv H1=> ∃aa oe dx od gs n C,v=.ref aa/\H1 aa=some (.frz oe (.ext λh=>h.get? aa=some oe))/\oe.cls=.ref C/\oe.dict=some dx/\H1 dx=some (.frz od (.xd gs))/\gs.lookup fld=some (.int n)/\(∃i,oV X.K C (.ref M::bI) i)/\(∀c,oe.data≠.cls c)/\Q (.int n) H1,
  λpins s σ H Q I h=>?_,λα ρ S σ H Q wd sl q=>fa α ρ S σ H _ wd sl (q.bind λu r S1 α1 H1 e1 x1 w1 d1 q1=>?_)⟩
 .rw[arm_eval_Attribute,hbase];refine wB (wM (ha pins s σ H _ I h) λu s1 ⟨v,H1,I1,r1,aa,oe,dx,od,gs,n,C,e1,hH,hc,hdx,hHd,hgs,⟨i,cC⟩,hnc,q⟩=>?_);subst e1;cases r1;refine wB (wpAny_standAt (wB (wpAny_holding ?_)));have hx:s1.heap.get? aa=some oe:=(I1.hok aa _ hH).1;obtain⟨_,mA,hns,hrel⟩:=I1.hok dx _ hHd;have hr2:=hrel fld;rw[hgs]at hr2
  cases hm:mA fld with
  |none=>rw[hm]at hr2;exact hr2.elim
  |some u=>
   rw[hm]at hr2;obtain⟨tk,rfl⟩:=hr2;have O:=rQ I1.kIn cC T.mc;obtain⟨nm,q',N,bs,hdd,sn,sub,ab,col,dd,k0,k1,k2,k3,k5,lC,_,_,_,rfl⟩:=cC;have hC:=I1.kIn _ _ lC;obtain⟨hp,g,d,tk2,os⟩:=s1;refine RW O hC hx hc hdx hnc hns hm hf hB rfl ?_;rw[hgo];exact wB (wP (wP ⟨.int n,H1,I1.tok _,⟨tk,rfl⟩,q⟩))
 .replace q1:=q1.shift x1
  unfold RX at q1;split at q1
  .rename_i l;split at q1
   .rename_i c fs hl;split at q1
    .rename_i hc;split at q1
     .rename_i n hlk;obtain⟨aa,rfl,hα⟩:=dA d1.1;obtain⟨C,gs,hm,hden,oe,hH,hcl,hdx⟩:=w1.obj l aa _ hα hl;obtain⟨⟨c',C'⟩,hm',rfl⟩:=mM0.mp hc;obtain⟨z1,z2⟩:=T.each.at hm';have:C=C':=by have z:X.mg c'=some (.ref C):=hm;rw[z1]at z;cases z;rfl
      subst this;rcases hdx with rfl|⟨dx,od,h1,h2,vs,h3⟩
      .simp at hlk
      .obtain⟨v,hv,hd⟩:=hden.get hlk;rw[kY hd]at hv;exact⟨aa,oe,dx,od,gs,n,C,rfl,hH,hcl,h1,h2,hv,z2,(λc z=>by rw[h3]at z;cases z),Post.val q1 w1 (xR n)⟩
     .exact q1.elim
    .exact q1.elim
   .exact q1.elim
  .exact q1.elim
end
def xin_mk{K:Od}{C N M f:Addr}{bs sub:Nc}{nm q:Str}{ab:Bool}{sn:Nh}{col:Option Bool}{dd od:Option Addr}{k0 k1 k2 k3 k5:Option Value}{oc:Value}{es:Array DictEntry}{ep:Nat}{sl:Array (Option Value)}{fo:Obj}
  (l:K.lookup C=some (excClassObj nm q C N bs (.ref M::bI) true sn sub ab col dd k0 k1 k2 k3 k5 "ValueError.__new__")) (n:K.lookup N=some ⟨oc,od,.dict es ep,sl⟩) (o:(es.toList.all λe=>match e.key with |.str _ _=>true|_=>false)=true)
  (i:PySem.W.nsIn K N "__init__"=some (some (.ref f))) (q1:PySem.W.nsIn K N "__class__"=some none) (q2:PySem.W.nsIn K N "__getattribute__"=some none) (q3:PySem.W.nsIn K N "__getattr__"=some none)
  (q4:PySem.W.nsIn K N "__setattr__"=some none) (q5:PySem.W.nsIn K N "place"=some none) (q6:PySem.W.nsIn K N "number"=some none) (lf:K.lookup f=some fo) (cf:fo.cls=.type "function"):XIn K M C f:=by
 refine⟨⟨nm,q,N,bs,sn,sub,ab,col,dd,k0,k1,k2,k3,k5,l,?_,i,λy hy=>?_⟩,fo,lf,cf⟩
 .unfold PySem.W.nsOkIn;rw[n];rw[Array.all_toList]at o;exact o
 .simp only[qn,mC,nM,or_false]at hy;rcases hy with rfl|rfl|rfl|rfl|rfl|rfl<;>assumption
structure DefM(K:Od)(mg:Ni)(x:Str)(st:Stmt):Prop where
 ex: ∃f fd,mg x=some (.ref f)/\Fun K x x st f fd
def def_mk{K:Od}{mg:Ni}{h:Heap}{x:Str}{st:Stmt}{g:Addr}{od an:Option Addr}{sl:Array (Option Value)}{oc kV dc pm cd ct:Value}(a:PySem.W.nsIn K mainGlobals x=some (some (.ref g)))
  (l:K.lookup g=some ⟨oc,od,.func (PySem.W.fnOf x x (xC st) (yN st) (zE st) .none kV dc pm an cd ct),sl⟩) (c:PySem.W.codeIn K cd x=true) (k:PySem.W.keepIn K (.ref g)=true) (X:K.In h) (GG:h.Ns mainGlobals mg):DefM K mg x st:=⟨_,_,PySem.W.mg_of X GG a,lF l c k⟩
structure Cal(P:Program)(w:World)(K:Od)(mg:Ni)(base:Heap)(CX:QR)(x:Str)(k:Nat)(ps:Nh)(sp:Sp):Prop where
 ex: ∃fa fd,FnOk P w K mg base CX k fa fd ps sp/\mg x=some (.ref fa)/\PySem.W.keepIn K (.ref fa)=true/\Binds K fd ps []
abbrev WT(P:Program)(w:World)(K:Od)(mg:Ni)(base:Heap)(x:Str)(k n:Nat)(ps:Nh)(F:List MV->Sto->R Er):Prop:=Cal P w K mg base pF x k ps (IL ⟨K,mg,P,w⟩ n F)
abbrev Bx(P:Program)(w:World)(K:Od)(mg:Ni)(base:Heap)(x:Str)(k n:Nat)(ps:Nh)(F:List MV->Sto->R Er):Prop:=Cal P w K mg base (DY P w) x k ps (GB ⟨K,mg,P,w⟩ n F)
section
variable{P:Program}{w:World}{K:Od}{mg:Ni}{base:Heap}{x:Str}{st:Stmt}{ps:Nh}{k n:Nat}{F:List MV->Sto->R Er}
abbrev MG(x:Str)(st:Stmt)(ps:Nh):Prop:= ∀(kV doc pm:Value)(an:Option Addr)(cdv ct:Value)(us:Nc),us.length=ps.length->bindArgs (PySem.W.fnOf x x (xC st) (yN st) (zE st) .none kV doc pm an cdv ct) ⟨us,[]⟩=pure (ps.zip us)
def GC(D:DefM K mg x st)(hb:MG x st ps)(h: ∀f fd,Fun K x x st f fd->FnOk P w K mg base pF k f fd ps (IL ⟨K,mg,P,w⟩ n F)):WT P w K mg base x k n ps F:=
 let ⟨f,fd,m,Fu⟩:=D.ex;⟨f,fd,h f fd Fu,m,Fu.kp,Fu.binds hb⟩
def WU(D:DefM K mg x st)(hb:MG x st ps)(h: ∀f fd,Fun K x x st f fd->FnOk P w K mg base (DY P w) k f fd ps (GB ⟨K,mg,P,w⟩ n F)):Bx P w K mg base x k n ps F:=
 let ⟨f,fd,m,Fu⟩:=D.ex;⟨f,fd,h f fd Fu,m,Fu.kp,Fu.binds hb⟩
def Cal.noX(G:Bx P w K mg base x k n ps F):WT P w K mg base x k n ps F:=let ⟨fa,fd,G,m,kp,b⟩:=G.ex;⟨fa,fd,G.noX,m,kp,b⟩
def Hx{l:PySem.W.OpenLaw}{fa:Addr}{p:Str}(D:DefM K mg x st)(hfa:mg x=some (.ref fa))(hb: ∀(kV doc pm:Value)(an:Option Addr)(cdv ct:Value)(s:Shared)(v:Value),BindsTo s (PySem.W.fnOf x x (xC st) (yN st) (zE st) .none kV doc pm an cdv ct) ⟨[v],[]⟩ [(p,v)])
  (h: ∀base f fd,Fun K x x st f fd->FnOk l.prog w K mg base pF k f fd [p] (IL ⟨K,mg,l.prog,w⟩ 1 F)):
  ∃fd:FuncData,(∀(s:Shared)(v:Value),BindsTo s fd ⟨[v],[]⟩ [(p,v)])/\ ∀base:Heap,K.In base->base.Ns mainGlobals mg->FnOk l.prog w K mg base pF k fa fd [p] (EG K F):=by
 obtain⟨f,fd,m,Fu⟩:=D.ex;rw[hfa]at m;cases m;refine⟨fd,?_,λbase _ _=>(h base fa fd Fu).imp λvs H Q E=>VZ (g:=⟨K,mg,_,w⟩) vs H Q E⟩;obtain⟨_,_,_,_,_,_,_,_,_,rfl,_,_⟩:=Fu.ex;exact hb _ _ _ _ _ _
end
section
variable{X:Cx}{W:XW}{E:XK}{e:Expr}{es:Oc}{af:Rho->Sto->R (List Er)}{k n:Nat}{ps:Nh}{F:List MV->Sto->R Er}{x:Str}{p pos:Pos}
def zN(G:WT X.prog X.w X.K X.mg X.base x k n ps F)(hr:Room k X.A)(hg:Gl X x)(ha:CO X W (e::es) af)(hdb:(x==("__debug__":Str))=false:=by decide)
  (he:starEach (e::es) X.env=(false,eval e X.env)::starEach es X.env:=by rfl) (hpl:(backTo pos (starEach es X.env)).any (·.1)=false:=by rfl):yL X W (.Call (.Name x p) (e::es) [] pos) (λρ S=>(af ρ S).bind λrs S1=>zR n F rs S1):=
 let ⟨_,_,G,m,kp,b⟩:=G.ex;Ap G hr hg m kp b ha hdb he hpl
def eX(hx:XOk X E)(G:Bx X.prog X.w X.K X.mg X.base x k n ps F)(hr:Room k X.A)(hg:Gl X x)(ha:CO X (WE X.g E) (e::es) af)(hdb:(x==("__debug__":Str))=false:=by decide)
  (he:starEach (e::es) X.env=(false,eval e X.env)::starEach es X.env:=by rfl) (hpl:(backTo pos (starEach es X.env)).any (·.1)=false:=by rfl):yL X (WE X.g E) (.Call (.Name x p) (e::es) [] pos) (λρ S=>(af ρ S).bind λrs S1=>xE n F rs S1):=
 let ⟨_,_,G,m,kp,b⟩:=G.ex;WO hx G hr hg m kp b ha hdb he hpl
end
end M
end L2
namespace L2
open PySem PySem.Spec PyProof.Rows
structure RoomH(k:Nat)(A:Around):Prop where
 dp:A.depth+3 * k+5<recursionLimit
 un:A.units+16 * k+200<cLine
def RoomH.mono{j k:Nat}{A:Around}(r:RoomH k A)(h:j<=k):RoomH j A:=⟨by have:=r.dp;omega,by have:=r.un;omega⟩
def RoomH.deeper{k:Nat}{A:Around}(r:RoomH (k+1) A)(env:Env):RoomH k (A.deeper env):=
 ⟨by have:=r.dp;show A.depth+1+3 * k+5<_;omega,by have:=r.un;show A.units+3+16 * k+200<_;omega⟩
def RoomH.depth{k:Nat}{A:Around}(r:RoomH k A):A.depth<recursionLimit:=by have:=r.dp;omega
def Room.inH{k:Nat}{A:Around}(r:Room k A)(v:Hv):RoomH k (A.mark (some (.ref v.e))):=⟨r.dp,r.un⟩
structure FnOkH(P:Program)(w:World)(K:Od)(mg:Ni)(base:Heap)(k:Nat)(f:Addr)(fd:FuncData)(ps:Nh)(sp:Sp):Prop where
 len: ∀vs H Q E,sp vs H Q E->vs.length=ps.length
 run: ∀(A:Around)(outer:List Env)(s:Shared)(H:Hp)(args:Args)(us:Nc)(vs:List V)(Q:VK)(E:XK),RoomH k A->HdA A H->Env0 P w K mg base A outer s H->BindsTo s fd args (ps.zip us)->Vals vs us->sp vs H Q E->
  codeAny (model P w) A (.call (.ref f) args) (CR pF outer P w H s Q E) s
def Lp(P:Program)(w:World)(K:Od)(mg:Ni)(base:Heap)(N:Nh)(qual:Str)(scope:Scope)(f:Addr)(cd:Value)(A:Around)(outer:List Env)(s:Shared)(H:Hp):Cx:={uN pF P w K mg base N qual scope f cd A outer s H E0 with calm:=false,xe:=λ_ _=>False}
section
variable{P:Program}{w:World}{K:Od}{mg:Ni}{base:Heap}{k:Nat}{f:Addr}{qual:Str}{scope:Scope}{cdv:Value}{A:Around}{outer:List Env}{s s1:Shared}{H:Hp}{σ:St}{N ps:Nh}{sp:Sp}
def Lq(fr:A.frames=some outer)(I:Inv (uN pF P w K mg base N qual scope f cdv {A with handled:=none} outer s H E0) [] σ H s1):Inv (Lp P w K mg base N qual scope f cdv A outer s H) [] σ H s1:=
 ⟨⟨I.ok.mod,I.ok.kind,I.ok.glob,I.ok.blt,I.ok.above,I.ok.inj,I.ok.has,I.ok.cab,λz=>(by cases z),Around.frames_deeper fr,I.ok.stk,I.ok.exf,I.ok.bs,I.ok.bsz,I.ok.noex,I.ok.exfs,I.ok.funs,I.ok.frf⟩,I.os,I.bare,I.base,I.loc,I.cell,I.free,I.freeC,I.pin,I.hok,I.len⟩
def Hy{x:Str}{st:Stmt}{fd:FuncData}(Fu:Fun K x qual st f fd)(S:FnScope N ps (zE st))(len: ∀vs H Q E,sp vs H Q E->vs.length=ps.length)
  (hbody: ∀(cdv:Value)(A:Around)(outer:List Env)(s:Shared)(H:Hp)(vs:List V)(Q:VK)(E:XK),RoomH k (A.deeper (envOfC qual (zE st) s.heap.objs.size f cdv))->HdA A H->sp vs H Q E->
   ∃t,PSs (Lp P w K mg base N qual (zE st) f cdv A outer s H) (yN st) t/\t {nx:=λ_ H'=>Q .non H',rt:=Q} (start N vs) H):FnOkH P w K mg base (k+1) f fd ps sp:=by
 obtain⟨oc,od,kV,doc,pm,an,cdv,ct,osl,rfl,lk,hcd⟩:=Fu.ex;refine⟨len,λA outer s H args us vs Q E hr hh e0 hb r hsp=>?_⟩;have hl:=len _ _ _ _ hsp;have KX:K.In s.heap:=e0.mod.kin.keeps λb o e=>(e0.bs b o e).1;have lim:s.heap.NoLimit:=e0.mod.nolimit.keeps λb o e=>(e0.bs b o e).1
 have hkind: ∀y∈ps.zip us,(zE st).names.lookup y.1=some .local\/((zE st).names.lookup y.1=some .cell/\((cellsFrom (s.heap.objs.size+1) (zE st).names []).lookup y.1).isSome=true):=λ⟨n,v⟩ hy=>by
  rcases S.par n (of_mem_zip hy).1 with q|q
  .exact .inl q
  .exact .inr ⟨q,PySem.W.cellsFrom_some _ _ _ (.inl q)⟩
 refine codeAny_call_function hr.depth (KX _ _ lk) rfl S.co S.gen rfl (PySem.W.codeRec_of KX hcd) (hb _ _ _ _ ?_);refine wpAny_newFunctionEnv_cells S.kind hkind λenv he s1 x=>?_;subst he;refine⟨lim.keeps x.toInCall.keep,codeAny_func ?_⟩;obtain⟨t,ht,hq⟩:=hbody cdv A outer s H vs Q E (hr.deeper _) hh hsp;have e1:Env0 P w K mg base {A with handled:=none} outer s H:=⟨e0.frames,e0.mod,e0.bs,e0.bsz,e0.funs,e0.frf,e0.hok,e0.bare⟩
 have I:=Lq e0.frames (DP (CX:=pF) (E:=E0) S rfl e1 hl r x);refine wpAny_mono (ht [] s1 (start N vs) H _ I hq) (λfl s' hs=>?_) λe s' hs=>hs.elim
 have fin: ∀{σ':St}{H':Hp}{v:V}{u:Value},Inv (Lp P w K mg base N qual (zE st) f cdv A outer s H) [] σ' H' s'->RelV v u->Q v H'->CE outer P w H s Q u s':=
  λ{σ' H' v u} J rv q=>⟨v,H',J.os,J.bare,J.base,J.hok,rv,q⟩
 cases fl with
 |ret u=>
  obtain⟨v,σ',H',J,rv,q⟩:=hs;exact fin J rv q
 |next=>
  obtain⟨σ',H',J,q⟩:=hs;exact fin (v:=V.non) (u:=Value.none) J rfl q
 |brk=>
  obtain⟨_,_,_,q⟩:=hs;exact False.elim q
 |cont=>
  obtain⟨_,_,_,q⟩:=hs;exact False.elim q
end
namespace M
section
variable{P:Program}{w:World}{K:Od}{mg:Ni}{base:Heap}{x:Str}{st:Stmt}{N ps:Nh}{k n:Nat}{F:List MV->Sto->R Er}
structure CalH(P:Program)(w:World)(K:Od)(mg:Ni)(base:Heap)(x:Str)(k n:Nat)(ps:Nh)(F:List MV->Sto->R Er):Prop where
 ex: ∃fa fd,FnOkH P w K mg base k fa fd ps (IL ⟨K,mg,P,w⟩ n F)/\mg x=some (.ref fa)/\PySem.W.keepIn K (.ref fa)=true/\Binds K fd ps []
def okH{f:Addr}{fd:FuncData}(Fb:AY)(Fu:Fun K x x st f fd)(Sc:FnScope N ps (zE st))
  (hbody: ∀(cdv:Value)(A:Around)(outer:List Env)(s:Shared)(H:Hp),RoomH k (A.deeper (envOfC x (zE st) s.heap.objs.size f cdv))->Mx (Lp P w K mg base N x (zE st) f cdv A outer s H)->rC (Lp P w K mg base N x (zE st) f cdv A outer s H) W0 (yN st) Fb):
  FnOkH P w K mg base (k+1) f fd ps (IL ⟨K,mg,P,w⟩ ps.length λds S=>yA (Fb (zT N ds) S)):=by
 refine Hy Fu Sc (λvs H Q E h=>?_) (λcdv A outer s H vs Q E hr hh h=>?_)
 .obtain⟨α,S,ds,_,l,hl,_⟩:=h;rw[l.length,hl]
 .obtain⟨α,S,ds,wd,l,hl,q⟩:=h;obtain⟨t,ht,kk⟩:=hbody cdv A outer s H hr hh;refine⟨t,ht,kk α (zT N ds) S (start N vs) H _ wd (aI l) ?_⟩;dsimp only at q
  cases z:Fb (zT N ds) S with
  |ok fl S'=>
   rw[z]at q
   cases fl with
   |next ρ=>exact λσ α' H' x' w' s'=>q .non α' H' x' w' (DenE.val jW)
   |ret r=>exact λv α' H' x' w' d'=>q v α' H' x' w' d'
   |brk ρ=>exact q.elim
   |cont ρ=>exact q.elim
  |exc c fs S'=>rw[z]at q;exact λα' H' x' w'=>(q α' H' x' w').elim
  |no=>rw[z]at q;exact q
def okCH(D:DefM K mg x st)(hb:MG x st ps)(h: ∀f fd,Fun K x x st f fd->FnOkH P w K mg base k f fd ps (IL ⟨K,mg,P,w⟩ n F)):CalH P w K mg base x k n ps F:=
 let ⟨f,fd,m,Fu⟩:=D.ex;⟨f,fd,h f fd Fu,m,Fu.kp,Fu.binds hb⟩
end
section
variable{X:Cx}{W:XW}{e:Expr}{es:Oc}{af:Rho->Sto->R (List Er)}{k n:Nat}{ps:Nh}{F:List MV->Sto->R Er}{x:Str}{p pos:Pos}
def tE(G:CalH X.prog X.w X.K X.mg X.base x k n ps F)(hr:RoomH k X.A)(hg:Gl X x)(ha:CO X W (e::es) af)(hh:Mx X:=by exact Lm)(hdb:(x==("__debug__":Str))=false:=by decide)
  (he:starEach (e::es) X.env=(false,eval e X.env)::starEach es X.env:=by rfl) (hpl:(backTo pos (starEach es X.env)).any (·.1)=false:=by rfl):yL X W (.Call (.Name x p) (e::es) [] pos) (λρ S=>(af ρ S).bind λrs S1=>zR n F rs S1):=by
 obtain⟨fa,fd,G,m,kp,b⟩:=G.ex;obtain⟨t,ha,kk⟩:=ha;refine⟨λσ H Q=>t σ H λvs H1=>IL X.g n F vs H1 Q E0,λpins s σ H Q I h=>?_,λα ρ S σ H Q wd sl q=>kk α ρ S σ H _ wd sl (q.bind λvs rs S1 α1 H1 e1 x1 w1 d1 q1=>eU x1 w1 d1 q1)⟩;refine wpAny_Call_Name_kw (bD I hg m ?_ hdb);refine PySem.W.callWith_K (h₀:=X.base) I.ok.mod.kin kp (wM (ha pos pins s σ H _ I h) λus s1 ⟨vs,H1,I1,r,q⟩=>⟨I1.kIn,?_⟩) he hpl;have hl:us.length=ps.length:=by rw[<-r.length];exact G.len _ _ _ _ q
 have hb:=b s1 us I1.kIn (by rw[aN];exact hl);rw[aN]at hb;refine wpAny_call (codeAny_mono (G.run X.A X.stack s1 H1 ⟨us,[]⟩ us vs Q E0 hr (hh.now I1) I1.env0 hb r q) λr s' hq=>?_)
 cases r with
 |error y=>exact hq.elim
 |ok fl=>
  cases fl with
  |ret u=>exact I1.after hq
  |next=>exact False.elim hq
  |brk=>exact False.elim hq
  |cont=>exact False.elim hq
end
def Lr(kvs:Pa)(S:Sto):R Er:=.ok (.val (.loc S.length)) (S++[.dic kvs])
def tF:fillsNumberSlot (.type "tuple") "mul"=pure false:=
 PySem.fillsNumberSlot_seq (id:="tuple.__mul__") (r:=some (.builtin "tuple.__rmul__")) PySem.F.slot_tuple_mul.lookup (by decide+kernel) PySem.F.slot_tuple_rmul.lookup (by decide+kernel)
theorem GD:seqRepeat? (.type "tuple")=pure (some (.builtin "tuple.__mul__")):=by unfold seqRepeat?;rw[PySem.seqSlot_of (T:="tuple") (name:="__mul__") (id:="tuple.__mul__") PySem.F.slot_tuple_mul.lookup (by decide+kernel),PySem.seqSlot_of (T:="tuple") (name:="__rmul__") (id:="tuple.__rmul__") PySem.F.slot_tuple_rmul.lookup (by decide+kernel)];rfl
def MH(a:Int)(t:Tok)(l:Addr)(items:Nd)(n:Nat)(dd:Option Addr)(sl:Array (Option Value)):
  Meets (Builtin.«int.__rmul__» ⟨[.int a t,.ref l],[]⟩) (λ_ R s=>s.heap.get? l=some {cls:=.type "tuple",dict:=dd,data:=.seq items n,slots:=sl}/\R (.ok (.ret Value.notImplemented)) s):=
 .of_wp λprog w A R s h=>by obtain⟨hp,g,d,tk,os⟩:=s;obtain⟨hl,h⟩:=h;wp_walk;exact⟨_,rfl,h⟩
def WV(l:Addr)(items:Nd)(n:Nat)(dd:Option Addr)(sl:Array (Option Value))(x:Int)(u:Tok)(h1:(decide (x< -(2 ^ 63)) || decide (x>=2 ^ 63))=false)(h2:(items.isEmpty || x==1)=true):
  Meets (Builtin.«tuple.__mul__» ⟨[.ref l,.int x u],[]⟩) (λ_ R s=>s.heap.get? l=some {cls:=.type "tuple",dict:=dd,data:=.seq items n,slots:=sl}/\R (.ok (.ret (.ref l))) s):=
 .of_wp λprog w A R s h=>by obtain⟨hp,g,d,tk,os⟩:=s;obtain⟨hl,h⟩:=h;wp_walk;refine wpAny_ite_false (dF0 (by rw[h1];exact xF0)) ?_;wp_walk;exact⟨_,rfl,h⟩
def WW(l:Addr)(items:Nd)(n:Nat)(dd:Option Addr)(sl:Array (Option Value))(x:Int)(u:Tok)(h1:(decide (x< -(2 ^ 63)) || decide (x>=2 ^ 63))=false)(h2:(items.isEmpty || x==1)=false)(h3:(decide (x<=0) || items.isEmpty)=true):
  Meets (Builtin.«tuple.__mul__» ⟨[.ref l,.int x u],[]⟩) (λ_ R s=>s.heap.get? l=some {cls:=.type "tuple",dict:=dd,data:=.seq items n,slots:=sl}/\R (.ok (.ret (.ref s.heap.objs.size))) {s with heap:=s.heap.push {cls:=.type "tuple",data:=.seq #[]}}):=
 .of_wp λprog w A R s h=>by obtain⟨hp,g,d,tk,os⟩:=s;obtain⟨hl,h⟩:=h;wp_walk;refine wpAny_ite_false (dF0 (by rw[h1];exact xF0)) ?_;wp_walk;exact⟨_,rfl,h⟩
def WX(l:Addr)(items:Nd)(n:Nat)(dd:Option Addr)(sl:Array (Option Value))(x:Int)(u:Tok)(h1:(decide (x< -(2 ^ 63)) || decide (x>=2 ^ 63))=false)(h2:(items.isEmpty || x==1)=false)(h3:(decide (x<=0) || items.isEmpty)=false)
  (h4: ¬((items.size:Int) * x>(2 ^ 63 - 1) / 8)) (h5:Builtin.Tuple.tupleTooMany ((items.size:Int) * x)=false) (h6: ¬((List.foldl (λx1 x2=>x1++x2) #[] (List.replicate x.toNat items)).size>sizeLine)):
  Meets (Builtin.«tuple.__mul__» ⟨[.ref l,.int x u],[]⟩) (λ_ R s=>s.heap.get? l=some {cls:=.type "tuple",dict:=dd,data:=.seq items n,slots:=sl}/\R (.ok (.ret (.ref s.heap.objs.size))) {s with heap:=s.heap.push {cls:=.type "tuple",data:=.seq ((List.replicate x.toNat items).foldl (· ++·) #[])}}):=
 .of_wp λprog w A R s h=>by obtain⟨hp,g,d,tk,os⟩:=s;obtain⟨hl,h⟩:=h;wp_walk;refine wpAny_ite_false (dF0 (by rw[h1];exact xF0)) ?_;wp_walk;refine wpAny_ite_false (dF0 h4) ?_;wp_walk;exact⟨_,rfl,h⟩
section
variable{X:Cx}{W:XW}{a b:Expr}{f g:AX}{pos:Pos}
def Ls(K:Od):R2:=λx y H Q=> ∃l k xs,x=.ref l/\y=.int k/\SqT K H l xs/\0<=k/\k<100000/\xs.length * k.toNat<=1000000/\
 ((xs=[]\/k=1)->Q (.ref l) H)/\(¬(xs=[]\/k=1)-> ∀p,H p=none->Q (.ref p) (xT H p (.tup (List.replicate k.toNat xs).flatten)))
def By:OpR X (binaryOp .Mult) (Ls X.K):=by
 intro pins s σ H x y v u Q I rx ry h;obtain⟨l,k,xs,rfl,rfl,hT,h0,h1,hz,q1,q2⟩:=h;cases rx;obtain⟨t,rfl⟩:=ry;obtain⟨its,r1,p1,_⟩:=I.tuple hT;obtain⟨⟨cls,dd,data,sl⟩,ho,hc,n,hd⟩:=id p1;simp only at hc hd;subst hc hd;have hr:(decide (k< -(2 ^ 63)) || decide (k>=2 ^ 63))=false:=by rw[dF0 (by omega),dF0 (by omega)];rfl
 have hlen:its.length=xs.length:=r1.length.symm;have hfit:xs.length * k.toNat<=sizeLine:=Nat.le_trans hz (by rw[sizeLine_eq];omega)
 have fin:wpAny (model X.prog X.w) X.A (call (.builtin "tuple.__mul__") [.ref l,.int k t]) (EP X pins σ Q) X.xe s:=by
  by_cases hs:xs=[]\/k=1
  .refine call_meets PySem.F.slot_tuple_mul ⟨_,ho,rfl⟩ PySem.F.entry_tuple_mul (PySem.F.args_tuple_mul_2 _ _) (WV l its.toArray n dd sl k t hr ?_) ⟨ho,⟨.ref l,H,I,rfl,q1 hs⟩⟩;rcases hs with z|z
   .have e0:its=[]:=r1.nil_iff.mpr z;rw[e0];rfl
   .rw[z];simp
  .have hx:its.toArray.isEmpty=false:=by
    cases its with
    |nil=>exact absurd (.inl (r1.nil_iff.mp rfl)) hs
    |cons a r=>simp
   have hk1:(k==1)=false:=beq_eq_false_iff_ne.mpr λz=>hs (.inr z);by_cases hk:k<=0
   .have hk0:k=0:=by omega
    refine call_meets PySem.F.slot_tuple_mul ⟨_,ho,rfl⟩ PySem.F.entry_tuple_mul (PySem.F.args_tuple_mul_2 _ _) (WW l its.toArray n dd sl k t hr (by rw[hx,hk1];rfl) (by rw[dT0 hk];rfl)) ⟨ho,?_⟩;refine⟨.ref s.heap.objs.size,_,I.laid (t':=s.toks) (o:=.tup (List.replicate k.toNat xs).flatten) (λb ob q=>hP0 _ q) (Nat.le_refl _) ?_,rfl,q2 hs _ (I.hok.fresh (Nat.le_refl _))⟩;rw[hk0];exact⟨zero_le _,[],.nil,IsTup.new _ _⟩
   .have hm:(its.toArray.size:Int) * k=((xs.length * k.toNat:Nat):Int):=by rw[sA,hlen,Int.natCast_mul,Int.toNat_of_nonneg h0]
    refine call_meets PySem.F.slot_tuple_mul ⟨_,ho,rfl⟩ PySem.F.entry_tuple_mul (PySem.F.args_tuple_mul_2 _ _) (WX l its.toArray n dd sl k t hr (by rw[hx,hk1];rfl) (by rw[dF0 hk,hx];rfl) ?_ ?_ ?_) ⟨ho,?_⟩
    .rw[hm];omega
    .rw[hm];exact dF0 (by omega)
    .have:=foldl_rep its k.toNat [];rw[List.nil_append]at this;rw[show(#[]:Nd)=([]:Nc).toArray from rfl,this,sA,len_rep,hlen,Nat.mul_comm];omega
    .have:=foldl_rep its k.toNat [];rw[List.nil_append]at this;rw[show List.foldl (λx1 x2=>x1++x2) #[] (List.replicate k.toNat its.toArray)=_ from this];refine⟨.ref s.heap.objs.size,_,I.laid (t':=s.toks) (o:=.tup (List.replicate k.toNat xs).flatten) (λb ob q=>hP0 _ q) (Nat.le_refl _) ?_,rfl,q2 hs _ (I.hok.fresh (Nat.le_refl _))⟩;exact⟨by rw[len_rep,Nat.mul_comm];exact hfit,_,r1.rep k.toNat,IsTup.new _ _⟩
 exact wpAny_binaryOp_repeat_ref (T:="tuple") (U:="int") (by decide) ⟨_,ho,rfl⟩ (λs'=>typeIs_int s' k t) tF PySem.F.fills_int_mul PySem.F.slot_int_rmul GD PySem.F.slot_int_index.lookup
  (call_meets PySem.F.slot_int_rmul (typeIs_int s k t) PySem.F.entry_int_rmul (PySem.F.args_int_rmul_2 _ _) (MH k t l its.toArray n dd sl) ⟨ho,rfl,⟨_,ho,rfl⟩,fin⟩)
def uK:Er->Er->Sto->R Er
 |.val (.tup x),.val (.int k),S=>if 0<=k/\k<100000/\x.length * k.toNat<=1000000 then .ok (.val (.tup (List.replicate k.toNat x).flatten)) S else .no
 |_,_,_=>.no
def OV(ha:yL X W a f)(hb:yL X W b g):yL X W (.BinOp a .Mult b pos) (λρ S=>(f ρ S).bind λp S1=>(g ρ S1).bind λq S2=>uK p q S2):=by
 refine AG By ?_ ha hb;intro p q x y α S H Q wd dp dq post;unfold uK at post;split at post
 .rename_i xx k;split at post
  .rename_i hc;obtain⟨a1,vs,rfl,s1,l1⟩:=gR dp;refine⟨a1,k,vs,rfl,yY dq,s1,hc.1,hc.2.1,by rw[l1.length];exact hc.2.2,λh=>?_,λ_ p hp=>Post.newt post wd hp (l1.rep _)⟩
   have e:(List.replicate k.toNat xx).flatten=xx:=by
    rcases h with z|z
    .have e0:=l1.length;have:xx=[]:=by cases xx with |nil=>rfl|cons _ _=>rw[z]at e0;simp at e0
     rw[this];simp
    .rw[z];simp
   rw[e]at post;exact Post.val post wd (cN s1 l1)
  .exact post.elim
 .exact post.elim
end
section
variable{α β:Type}
def vJ(i:Nat)(ρ:Rho)(S:Sto):R Er:=Ak (ρ[i]?) S
def kJ(d:MV)(_:Rho)(S:Sto):R Er:=.ok (.val d) S
def bJ(f:Rho->Sto->R α)(F:α->Sto->R β)(ρ:Rho)(S:Sto):R β:=(f ρ S).bind F
def dJ(F:Er->Er->Sto->R Er)(f g:AX)(ρ:Rho)(S:Sto):R Er:=(f ρ S).bind λp S=>(g ρ S).bind λq S=>F p q S
def nJ(f:AX)(ρ:Rho)(S:Sto):R Er:=(f ρ S).bind λp S=>(aV p S).bind λk S=>.ok (.val (.bl !k)) S
def aJ(f g:AX)(ρ:Rho)(S:Sto):R Er:=(f ρ S).bind λp S=>fH p S λS=>g ρ S
def oJ(f g:AX)(ρ:Rho)(S:Sto):R Er:=(f ρ S).bind λp S=>orF p S λS=>g ρ S
def iJ(c:AZ)(f g:Rho->Sto->R α)(ρ:Rho)(S:Sto):R α:=(c ρ S).bind λk S=>if k=true then f ρ S else g ρ S
def mJ(_:Rho)(S:Sto):R (Option Int):=.ok none S
def tJ(F:Er->Option Int->Option Int->Sto->R Er)(f:AX)(g h:Rho->Sto->R (Option Int))(ρ:Rho)(S:Sto):R Er:=(f ρ S).bind λp S=>(g ρ S).bind λl S=>(h ρ S).bind λu S=>F p l u S
def lJ(k:Pa)(_:Rho)(S:Sto):R Er:=Lr k S
def zJ(_:Rho)(S:Sto):R Er:=Dp S
def fJ(n:Nat)(F:List MV->Sto->R Er)(a:Rho->Sto->R (List Er))(ρ:Rho)(S:Sto):R Er:=(a ρ S).bind λr S=>zR n F r S
def xJ(n:Nat)(F:List MV->Sto->R Er)(a:Rho->Sto->R (List Er))(ρ:Rho)(S:Sto):R Er:=(a ρ S).bind λr S=>xE n F r S
def hJ(F:List MV->Sto->R Er)(_:Rho)(S:Sto):R Er:=zR 0 F [] S
def eJ(t:Er->Sto->Bool)(F:Er->List Er->Sto->R Er)(f:AX)(a:Rho->Sto->R (List Er))(ρ:Rho)(S:Sto):R Er:=(f ρ S).bind λp S=>if t p S=true then(a ρ S).bind λr S=>F p r S else .no
def gJ(t:Er->Sto->Bool)(F:Er->List Er->Sto->R Er)(f:AX)(ρ:Rho)(S:Sto):R Er:=(f ρ S).bind λp S=>if t p S=true then F p [] S else .no
def uJ(_:Rho)(S:Sto):R Bool:=.ok true S
def pJ(i:Rho->Sto->R Wk)(g:MV->Rho->Sto->R Rho)(c:AZ)(e:AX)(n:Nat)(I:Db)(ρ:Rho)(S:Sto):R Er:=(i ρ S).bind λk S=>if k.ds.length<1000000 then(dB g c e (KE n I ρ) k.gs k.ds S).bind λo S=>.ok (.new o) S else .no
def jJ(F G:Er->Er->Sto->R Er)(f g h:AX)(ρ:Rho)(S:Sto):R Er:=(f ρ S).bind λp S=>(g ρ S).bind λq S=>SY F G p q S λS=>h ρ S
def qJ(f:AZ)(ρ:Rho)(S:Sto):R Bool:=(f ρ S).bind λk S=>.ok (!k) S
def rJ(f g:AZ)(ρ:Rho)(S:Sto):R Bool:=(f ρ S).bind λk S=>if k=true then g ρ S else .ok false S
def sJ(f g:AZ)(ρ:Rho)(S:Sto):R Bool:=(f ρ S).bind λk S=>if k=true then .ok true S else g ρ S
def wJ(_:Rho)(S:Sto):R (List Er):=.ok [] S
def yJ(f:AX)(g:Rho->Sto->R (List Er))(ρ:Rho)(S:Sto):R (List Er):=(f ρ S).bind λp S=>(g ρ S).bind λl S=>.ok (p::l) S
def AJ(f:AX)(ρ:Rho)(S:Sto):R Fl:=(f ρ S).bind λr S=>.ok (.ret r) S
def BJ(f:AX)(ρ:Rho)(S:Sto):R Fl:=(f ρ S).bind λ_ S=>.ok (.next ρ) S
def CJ(f:AX)(i:Nat)(ρ:Rho)(S:Sto):R Fl:=(f ρ S).bind (LD ρ i)
def DJ(F:Er->Er->MV->Rho->Sto->R Rho)(f g:AX)(d:MV)(ρ:Rho)(S:Sto):R Rho:=(f ρ S).bind λp S=>(g ρ S).bind λq S=>F p q d ρ S
def EJ(f:AX)(g:MV->Rho->Sto->R Rho)(ρ:Rho)(S:Sto):R Fl:=(f ρ S).bind (asgF g ρ)
def FJ(i:Rho->Sto->R Wk)(g:MV->Rho->Sto->R Rho)(b:AY)(ρ:Rho)(S:Sto):R Fl:=(i ρ S).bind λk S=>eT g b k.gs k.ds ρ S
def GJ(a:Rho->Sto->R (List Er))(c:Str)(ρ:Rho)(S:Sto):R Fl:=(a ρ S).bind λr S=>if r.length<=10 then .exc c [] S else .no
def HJ(cs:Nh)(i:Nat)(h:AY)(n:Nat)(F:List MV->Sto->R Er)(a:Rho->Sto->R (List Er))(ρ:Rho)(S:Sto):R Fl:=(noX (a ρ S)).bind λr S=>tD cs i (λ_ S=>.ok (.next ρ) S) h ρ (xE n F r S)
def IJ(cs:Nh)(i j:Nat)(h:AY)(n:Nat)(F:List MV->Sto->R Er)(a:Rho->Sto->R (List Er))(ρ:Rho)(S:Sto):R Fl:=(noX (a ρ S)).bind λr S=>tD cs i (LD ρ j) h ρ (xE n F r S)
def JJ(ρ:Rho)(S:Sto):R Fl:=.ok (.next ρ) S
end
section
variable{p:Pos}{f:AX}
def augF(F:Er->Er->Sto->R Er)(i:Nat)(f:AX)(ρ:Rho)(S:Sto):R Fl:=(Ak (ρ[i]?) S).bind λp S1=>(f ρ S1).bind λq S2=>(F p q S2).bind (LD ρ i)
end
section
variable{X:Cx}{W:XW}{i:Nat}{Fh:AY}{pos:Pos}{e:Expr}{k:Nat}{fa:Addr}{x:Str}{ns:Nh}
def TB(X:Cx)(W:XW)(ns:Nh)(i:Nat)(Fh:AY)(hs:List ExceptHandler)(st:Stmt)(bf:AX):Prop:=
 ∀α ρ S σ H D pins s,Wd X.g α S H->Slots X.K α H ρ σ->PostS X.g W α H D (tD ns i (λ_ S2=>.ok (.next ρ) S2) Fh ρ (bf ρ S))->Inv X pins σ H s->
  wpAny (model X.prog X.w) X.A (exec st X.env) (λf s'=>f=Flow.next/\ ∃H',Inv X pins σ H' s'/\D.nx σ H')
   (λx s1=>wpAny (model X.prog X.w) X.A (noteFrame x X.env) (λ_ s₂=>wpAny (model X.prog X.w) X.A (setFlight x none) (λ_ s₃=>wpAny (model X.prog X.w) X.A (handleBy x X.env hs) (SP X pins D) X.xe s₃) X.xe s₂) X.xe s1) s
def Lu{hs:List ExceptHandler}{c:Expr}{a b:Stmt}{tf:AZ}{fa fb:AX}(hc:FK X.nox W0 c tf)(ha:TB X W ns i Fh hs a fa)(hb:TB X W ns i Fh hs b fb):TB X W ns i Fh hs (.If c [a] [b] pos) (λρ S=>(noX (tf ρ S)).bind λk S1=>if k=true then fa ρ S1 else fb ρ S1):=by
 obtain⟨tc,hc,kc⟩:=hc;intro α ρ S σ H D pins s wd sl q I;dsimp only at q;refine wpAny_If ?_
 have ht:tc σ H λd H1=> ∃α1 S1,Ext α H α1 H1/\Wd X.g α1 S1 H1/\PostS X.g W α H D (tD ns i (λ_ S2=>.ok (.next ρ) S2) Fh ρ (if d=true then fa ρ S1 else fb ρ S1)):=by
  refine kc α ρ S σ H _ wd sl ?_
  cases z:tf ρ S with
  |ok d S1=>
   rw[z]at q;intro u α1 H1 x1 w1 d1;have e:u=d:=d1;subst e;exact⟨α1,S1,x1,w1,q⟩
  |exc c fs S1=>rw[z]at q;exact q.elim
  |no=>rw[z]at q;exact q.elim
 refine wpAny_mono (hc pins s σ H _ (I.wish _) ht) (λd s1 ⟨H1,I1,α1,S1,x1,w1,q1⟩=>?_) λ_ _ z=>z.elim
 have one: ∀(st:Stmt)(f:AX),TB X W ns i Fh hs st f->PostS X.g W α H D (tD ns i (λ_ S2=>.ok (.next ρ) S2) Fh ρ (f ρ S1))->wpAny (model X.prog X.w) X.A (execs [st] X.env) (λf s'=>f=Flow.next/\ ∃H',Inv X pins σ H' s'/\D.nx σ H')
   (λx s1=>wpAny (model X.prog X.w) X.A (noteFrame x X.env) (λ_ s₂=>wpAny (model X.prog X.w) X.A (setFlight x none) (λ_ s₃=>wpAny (model X.prog X.w) X.A (handleBy x X.env hs) (SP X pins D) X.xe s₃) X.xe s₂) X.xe s1) s1:=by
  intro st f h q2;refine wpAny_execs_cons (wpAny_mono (h α1 ρ S1 σ H1 D pins s1 w1 (sl.ext x1) (PostS.shift x1 q2) I1.unwish) (λfl s2 hf=>?_) λ_ _ z=>z);obtain⟨rfl,hf⟩:=hf;exact wpAny_execs_nil ⟨rfl,hf⟩
 cases d with
 |true=>exact one a fa ha q1
 |false=>exact one b fb hb q1
def OW{h0:ExceptHandler}{st:Stmt}{bf:AX}(hb:TB X W ns i Fh [h0] st bf):SZ X W (.Try [st] [h0] [] [] pos) (λρ S=>tD ns i (λ_ S2=>.ok (.next ρ) S2) Fh ρ (bf ρ S)):=by
 refine⟨λD σ H=> ∀pins s,Inv X pins σ H s->wpAny (model X.prog X.w) X.A (exec (.Try [st] [h0] [] [] pos) X.env) (SP X pins D) X.xe s,
  λpins s σ H D I h=>h pins s I,λα ρ S σ H D wd sl q pins s I=>?_⟩
 rw[arm_exec_Try];refine wB (wpAny_standAt (wpAny_tryStmt_except (wpAny_execs_cons (wpAny_mono (hb α ρ S σ H D pins s wd sl q I) (λf s' hf=>?_) λ_ _ z=>z))));obtain⟨rfl,H',I',q'⟩:=hf;exact wpAny_execs_nil (wpAny_execs_nil ⟨σ,H',I',q'⟩)
end
def KJ(n:Nat)(F:List MV->Sto->R Er)(a:Rho->Sto->R (List Er))(ρ:Rho)(S:Sto):R Er:=(noX (a ρ S)).bind λr S=>xE n F r S
def LJ(c:AZ)(f g:AX)(ρ:Rho)(S:Sto):R Er:=(noX (c ρ S)).bind λk S=>if k=true then f ρ S else g ρ S
def MJ(cs:Nh)(i:Nat)(h:AY)(f:AX)(ρ:Rho)(S:Sto):R Fl:=tD cs i (λ_ S=>.ok (.next ρ) S) h ρ (f ρ S)
end M
end L2
namespace L2
open PySem PySem.Spec PyProof.Rows
namespace M
structure OC(K:Od)(c:Str)(C:Addr):Prop where
 ns:PySem.W.nsIn K mainGlobals c=some (some (.ref C))
 nm:(PySem.W.clsIn K C).map (·.name)=some c
 cl:Cls K C
theorem OC.eq{K:Od}{c:Str}{C C':Addr}(o:OC K c C)(h:PySem.W.nsIn K mainGlobals c=some (some (.ref C'))):C'=C:=by have:=o.ns;rw[h]at this;cases this;rfl
section
variable{f:AX}{af:Rho->Sto->R (List Er)}{p:Pos}{m:Str}
def selM(m:Str)(l:List (Str×(List MV->Sto->R Er))):Er->Option (List MV->Sto->R Er)
 |.val (.obj c ns _)=>if m∈ns then none else l.lookup c
 |_=>none
def NJ(m:Str)(n:Nat)(l:List (Str×(List MV->Sto->R Er)))(f:AX)(af:Rho->Sto->R (List Er))(ρ:Rho)(S:Sto):R Er:=(f ρ S).bind λp S=>match selM m l p with
 |some F=>(af ρ S).bind λr S=>zR n F (p::r) S
 |none=>.no
end
def nm_of{K:Od}{C:Addr}{cd:ClassData}{c:Str}(e:PySem.W.clsIn K C=some cd)(h:cd.name=c):(PySem.W.clsIn K C).map (·.name)=some c:=by rw[e];exact congrArg some h
def shrC(i j:Int):Prop:=0<=j
instance(i j:Int):Decidable (shrC i j):=inferInstanceAs (Decidable (_<=_))
section
variable{prog:Program}{w:World}{K:Type}[DecidableEq K]{knd:KeyKind prog w K}
def TSet(knd:KeyKind prog w K)(h:Heap)(a:Addr)(S:K->Bool)(n:Nat)(b:Bool):Prop:=
 ∃o es ep t,h.get? a=some o/\o.ExactSet/\o.data=.set es ep t/\ElemsOf knd es.toList/\(∀k,S k=true↔ ∃e∈es.toList,knd.is k e.2=true)
  /\es.size<scanBound/\t.fits es.size=true/\es.size=n/\t.led=b/\(es.size=0\/t.plain=false)/\(es.toList.map (·.2)).Pairwise (λx y=> ∀k,knd.is k x=true-> ¬knd.is k y=true)
end
abbrev byT(w:World):Bool:=w.params.followText "set-order"
abbrev Lv(P:Program)(w:World)(h:Heap)(D:Addr)(val:Nat->Key)(i:Nat):Prop:=TSet (nY P w) h D (λk=>inK k (WQ val i)) (WQ val i).length (!byT w)
def StrT(val:Nat->Key)(i:Nat)(v:Value):Prop:= ∃x t,val i=.inr x/\v=.str x t
def StrT.is{P:Program}{w:World}{val:Nat->Key}{i:Nat}{v:Value}(h:StrT val i v):(nY P w).is (val i) v=true/\v.scannable=true/\plainKind v=false:=by obtain⟨x,t,e,rfl⟩:=h;rw[e];exact⟨tZ P w x t,rfl,rfl⟩
def SetAt(h:Heap)(D:Addr)(es:Array (Int×Value))(ep:Nat)(t:SetTable):Prop:= ∃o,h.get? D=some o/\o.ExactSet/\o.data=.set es ep t/\t.fits es.size=true
def SetAt.keep{h h':Heap}{D:Addr}{es:Array (Int×Value)}{ep:Nat}{t:SetTable}(x:SetAt h D es ep t)(m: ∀o,h.get? D=some o->h'.get? D=some o):SetAt h' D es ep t:=by obtain⟨o,ho,r⟩:=x;exact⟨o,m o ho,r⟩
end M
end L2
namespace L2
open PySem PySem.Spec PyProof.Rows
variable{X:Cx}{pins:Nk}{σ:St}{H H':Hp}{s:Shared}
namespace M
def setT(P:Program)(w:World)(l:Addr)(ys:Ch):HO:=.ext λh=>Lv P w h l (valY ys) ys.length
section
variable{X:Cx}{W:XW}{e o:Expr}{es:Oc}{f g:AX}{af:Rho->Sto->R (List Er)}{pos apos p pos':Pos}{fld m:Str}{c:Str}{C:Addr}
theorem DenF.look{K:Od}{α:Ng}{H:Hp}{d:MV}: ∀{fs gs},DenF K α H fs gs->fs.lookup fld=some d-> ∃v,gs.lookup fld=some v/\Den K α H d v
 |_,_,.nil,h=>by simp at h
 |(x,_)::_,_,.cons a l,h=>by
  rw[lookup_cons]at h;rw[lookup_cons];by_cases e:(fld==x)=true
  .rw[e]at h ⊢;cases h;exact⟨_,rfl,a⟩
  .have e:(fld==x)=false:=by simpa using e
   rw[e]at h ⊢;exact DenF.look l h
theorem DenF.miss{K:Od}{α:Ng}{H:Hp}: ∀{fs gs},DenF K α H fs gs->fs.lookup fld=none->gs.lookup fld=none
 |_,_,.nil,h=>rfl
 |(x,_)::_,_,.cons a l,h=>by
  rw[lookup_cons]at h;rw[lookup_cons];by_cases e:(fld==x)=true
  .rw[e]at h;cases h
  .have e:(fld==x)=false:=by simpa using e
   rw[e]at h ⊢;exact DenF.miss l h
def Bz(f:Str)(v:MV):List (Str×MV)->List (Str×MV)
 |[]=>[(f,v)]
 |(g,x)::r=>if g=f then(g,v)::r else(g,x)::Bz f v r
theorem DenF.put{K:Od}{α:Ng}{H:Hp}{d:MV}{v:V}(a:Den K α H d v): ∀{fs gs},DenF K α H fs gs->DenF K α H (Bz fld d fs) (iV fld v gs)
 |_,_,.nil=>.cons a .nil
 |(x,_)::_,_,.cons b l=>by
  unfold Bz iV;split
  .exact .cons a l
  .exact .cons b (DenF.put a l)
theorem DenF.len{K:Od}{α:Ng}{H:Hp}: ∀{fs gs},DenF K α H fs gs->gs.length=fs.length
 |_,_,.nil=>rfl
 |_,_,.cons b l=>by rw[lC0,lC0,DenF.len l]
def rR(c:Str):Er->Sto->Option (Nat×List (Str×MV))
 |.val (.loc l),S=>match S[l]? with
  |some (.rcd c' fs)=>if c'=c then some (l,fs)else none
  |_=>none
 |_,_=>none
def IT{α:Ng}{S:Sto}{H:Hp}{r:Er}{u:V}{l:Nat}{fs:List (Str×MV)}(oc:OC X.K c C)(wd:Wd X.g α S H)(d:DenX X.K α H r u)(h:rR c r S=some (l,fs)):r=.val (.loc l)/\ ∃a dx gs,u=.ref a/\α[l]? =some a/\H a=some (.ins C dx gs)/\DenF X.K α H fs gs:=by
 unfold rR at h;split at h
 .rename_i l';split at h
  .rename_i c' fs' hS;split at h
   .rename_i hc;subst hc;cases h;obtain⟨a,rfl,ha⟩:=dA d;obtain⟨C',dx,gs,hn,hH,hF⟩:=wd.obj _ a _ ha hS;cases oc.eq hn;exact⟨rfl,a,dx,gs,rfl,ha,hH,hF⟩
   .cases h
  .cases h
 .cases h
def bM(c fld:Str)(r:Er)(S:Sto):R Er:=match rR c r S with
 |some (_,fs)=>match fs.lookup fld with |some d=>.ok (.val d) S|none=>.no
 |none=>.no
def cQ(T: ∃C,OC X.K c C/\NoAttr X.K C fld)(he:yL X W e f)(hb:attributeBase e fld X.env (eval e X.env)=eval e X.env:=by rfl):yL X W (.Attribute e fld pos) (λρ S=>(f ρ S).bind (bM c fld)):=by
 obtain⟨C,oc,na⟩:=T;obtain⟨t,he,k⟩:=he;refine⟨_,Fn he hb,λα ρ S σ H Q wd sl q=>k α ρ S σ H _ wd sl (q.bind λu r S1 α1 H1 e1 x1 w1 d1 q1=>?_)⟩
 replace q1:=q1.shift x1
 unfold bM at q1;split at q1
 .rename_i l fs hr;obtain⟨rfl,a,dx,gs,rfl,ha,hH,hF⟩:=IT oc w1 d1.1 hr;split at q1
  .rename_i d hd;obtain⟨v,l1,l2⟩:=hF.look hd;exact⟨a,C,dx,gs,v,rfl,hH,oc.cl,na,l1,Post.val q1 w1 l2⟩
  .exact q1.elim
 .exact q1.elim
def OY(c fld:Str)(ρ:Rho)(d:MV)(r:Er)(S:Sto):R Fl:=match rR c r S with
 |some (l,fs)=>if fs.length<1000 then .ok (.next ρ) (S.set l (.rcd c (Bz fld d fs)))else .no
 |none=>.no
def rsJ(c fld:Str)(f g:AX)(ρ:Rho)(S:Sto):R Fl:=(f ρ S).bind λr S=>(fK r S).bind λd S=>(g ρ S).bind (OY c fld ρ d)
def GE(T: ∃C,OC X.K c C/\NoAttr X.K C fld)(he:yL X W e f)(ho:yL X W o g)(hs:swapsWith e (some (.Attribute o fld pos')) pos.line X.env=pure false:=by rfl):
  SZ X W (.Assign [.Attribute o fld pos'] e pos) (λρ S=>(f ρ S).bind λr S=>(fK r S).bind λd S=>(g ρ S).bind (OY c fld ρ d)):=by
 obtain⟨C,oc,na⟩:=T;obtain⟨t,he,k⟩:=he;obtain⟨to,ho,ko⟩:=ho;refine⟨_,Fo ho he hs,λα ρ S σ H D wd sl q=>k α ρ S σ H _ wd sl (q.expr λu r S1 α1 H1 e1 x1 w1 d1 q1=>?_)⟩;obtain⟨d',S',α',e2,x',y',w',de⟩:=oR w1 x1 d1;rw[e2]at q1;have q1:PostS X.g W α H D ((g ρ S').bind (OY c fld ρ d')):=q1;refine ko α' ρ S' σ H1 _ w' ((sl.ext x1).ex0 y') ((q1.shift x').expr λu2 r2 S2 α2 H2 e3 x2 w2 d2 q2=>?_)
 replace q2:=q2.shift x2
 unfold OY at q2;split at q2
 .rename_i l fs hr;obtain⟨rfl,a,dx,gs,rfl,ha,hH,hF⟩:=IT oc w2 d2.1 hr;split at q2
  .rename_i hl;have nf:=Kz (H:=H2) hH;have xw:=w2.writex (o:=.ins C dx (iV fld u gs)) ha nf;refine⟨a,C,dx,gs,rfl,hH,oc.cl,na,by rw[hF.len];exact hl,q2 σ α2 _ xw (w2.write ha nf ⟨C,dx,_,oc.ns,zQ,(DenF.put (de.ext x2) hF).ex0 xw.toEx0⟩) (((((sl.ext x1).ex0 y').ext x2).ext xw))⟩
  .exact q2.elim
 .exact q2.elim
def RJ(c m:Str)(n:Nat)(F:List MV->Sto->R Er)(f:AX)(af:Rho->Sto->R (List Er))(ρ:Rho)(S:Sto):R Er:=(f ρ S).bind λp S=>match rR c p S with
 |some (_,fs)=>if fs.lookup m=none then(af ρ S).bind λr S=>zR n F (p::r) S else .no
 |none=>.no
def Lw(P:Program)(w:World)(K:Od)(mg:Ni)(base:Heap)(m:Str)(k n:Nat)(c:Str)(F:List MV->Sto->R Er):Prop:= ∃C fa fd ps,OC K c C/\Meth K C m fa/\FnOk P w K mg base pF k fa fd ps (IL ⟨K,mg,P,w⟩ n F)/\Binds K fd ps []
def rS{pl:Sem Bool}{k n:Nat}{F:List MV->Sto->R Er}(T:Lw X.prog X.w X.K X.mg X.base m k n c F)(hr:Room k X.A)(he:yL X W o f)(ha:CO X W (e::es) af)
  (hst:starEach (e::es) X.env=(false,eval e X.env)::starEach es X.env:=by rfl) (hpl:(backTo pos (starEach es X.env)).any (·.1)=false:=by rfl)
  (ht:eval (.Call (.Attribute o m apos) (e::es) [] pos) X.env=(do
   let ov <-eval o X.env
   standAt apos.atName
   let (f,first) <-holding [ov] (getMethod ov m pl)
   callWith pos f first (backTo pos (starEach (e::es) X.env)) (backToKw pos (keywordEach [] X.env))):=by rfl):
  yL X W (.Call (.Attribute o m apos) (e::es) [] pos) (RJ c m n F f af):=by
 obtain⟨C,fa,fd,ps,oc,hm,G,hb⟩:=T;obtain⟨to,he,ko⟩:=he;obtain⟨ta,ha,ka⟩:=ha;refine⟨_,ZQ he oc.cl hm G hr hb .nil HU ha hst hpl ht,λα ρ S σ H Q wd sl q=>ko α ρ S σ H _ wd sl (Post.bind q λu r S1 α1 H1 e1 x1 w1 d1 q1=>?_)⟩;split at q1
 .rename_i l fs hr;obtain⟨rfl,a,dx,gs,rfl,hl,hH,hF⟩:=IT oc w1 d1.1 hr;split at q1
  .rename_i hn;refine⟨a,dx,gs,rfl,hH,hF.miss hn,ka α1 ρ S1 σ H1 _ w1 (sl.ext x1) ?_⟩;refine(Post.shift x1 q1).bind λus rs S2 α2 H2 e2 x2 w2 d2 q2=>?_;rw[aN];exact eU x2 w2 (ArgsE.cons (DenE.val (d1.1.ext x2)) (λds b er=>by cases er) d2) q2
  .exact q1.elim
 .exact q1.elim
def WY(c:Str)(n:Nat)(F:List MV->Sto->R Er)(rs:List Er)(S:Sto):R Er:=if rs.length+1=n then
  (noX (F (zM (.val (.loc S.length)::rs) (S++[.rcd c []])).1 (zM (.val (.loc S.length)::rs) (S++[.rcd c []])).2)).bind λr S2=>match r with |.val .non=>.ok (.val (.loc S.length)) S2|_=>.no
 else .no
end
def KX(l:Bool)(K:Od)(α:Ng)(H:Hp)(d:MV)(v:V):Prop:=if l=true then∃es a vs,d=.tup es/\v=.ref a/\H a=some (.lst vs)/\a∉α/\DenL K α H es vs else Den K α H d v
inductive KXL(l:Bool)(K:Od)(α:Ng)(H:Hp):List MV->List V->Prop
 |nil:KXL l K α H [] []
 |cons {d v ds vs}:KX l K α H d v->KXL l K α H ds vs->KXL l K α H (d::ds) (v::vs)
section
variable{l:Bool}{K:Od}{α:Ng}{H H':Hp}
def KX.ext(x:Ext α H α H'){d:MV}{v:V}(h:KX l K α H d v):KX l K α H' d v:=by
 cases l with
 |true=>obtain⟨es,a,vs,e1,e2,h,n,l⟩:=h;exact⟨es,a,vs,e1,e2,x.keep a _ h n,n,DenL.ext x l⟩
 |false=>exact Den.ext x h
theorem KXL.ext(x:Ext α H α H'): ∀{ds:Og}{vs:List V},KXL l K α H ds vs->KXL l K α H' ds vs
 |_,_,.nil=>.nil
 |_,_,.cons h t=>.cons (h.ext x) (KXL.ext x t)
theorem KXL.length: ∀{ds:Og}{vs:List V},KXL l K α H ds vs->vs.length=ds.length
 |_,_,.nil=>rfl
 |_,_,.cons h t=>by rw[lC0,lC0,KXL.length t]
end
open Classical in
def KAt(d:Addr)(us:Nc)(ep:Nat)(h:Heap):Prop:= ∃o es,h.get? d=some o/\o.ExactDict/\o.data=.dict es ep/\es.toList.map (·.key)=us
theorem KAt.size{d:Addr}{us:Nc}{ep:Nat}{h:Heap}(x:KAt d us ep h): ∃o es,h.get? d=some o/\o.ExactDict/\o.data=.dict es ep/\es.size=us.length/\ ∀i (hi:i<es.size),us[i]? =some es[i].key:=by obtain⟨o,es,ho,hc,hd,e⟩:=x;refine⟨o,es,ho,hc,hd,by rw[<-e,lM0,Array.length_toList],λi hi=>?_⟩;rw[<-e,getElem?_map,Array.getElem?_toList,Array.getElem?_eq_getElem hi];rfl
structure FunD(K:Od)(x qual:Str)(st:Stmt)(f:Addr)(fd:FuncData):Prop where
 ex: ∃(oc:Value)(od:Option Addr)(kV doc pm:Value)(an:Option Addr)(cdv ct:Value)(osl:Array (Option Value))(T:Addr)(ot:Value)(odt:Option Addr)(n:Nat)(slt:Array (Option Value)),
  fd=PySem.W.fnOf x qual (xC st) (yN st) (zE st) (.ref T) kV doc pm an cdv ct/\K.lookup f=some ⟨oc,od,.func fd,osl⟩/\PySem.W.codeIn K cdv qual=true/\K.lookup T=some ⟨ot,odt,.seq #[.none] n,slt⟩
def Ca{K:Od}{x qual:Str}{st:Stmt}{f T:Addr}{oc ot:Value}{od an odt:Option Addr}{osl slt:Array (Option Value)}{kV doc pm cdv ct:Value}{n:Nat}(l:K.lookup f=some ⟨oc,od,.func (PySem.W.fnOf x qual (xC st) (yN st) (zE st) (.ref T) kV doc pm an cdv ct),osl⟩)
  (c:PySem.W.codeIn K cdv qual=true) (t:K.lookup T=some ⟨ot,odt,.seq #[.none] n,slt⟩):FunD K x qual st f (PySem.W.fnOf x qual (xC st) (yN st) (zE st) (.ref T) kV doc pm an cdv ct):=⟨⟨oc,od,kV,doc,pm,an,cdv,ct,osl,T,ot,odt,n,slt,rfl,l,c,t⟩⟩
def FunD.binds{K:Od}{x qual:Str}{st:Stmt}{f:Addr}{fd:FuncData}{ps:Nh}{ds:Nc}(F:FunD K x qual st f fd)
  (h: ∀(T:Addr)(kV doc pm:Value)(an:Option Addr)(cdv ct:Value)(us:Nc),us.length+ds.length=ps.length-> ∃k,bindArgs (PySem.W.fnOf x qual (xC st) (yN st) (zE st) (.ref T) kV doc pm an cdv ct) ⟨us,[]⟩=seqItems? (.ref T) >>= k/\k (some #[.none])=pure (ps.zip (us++ds))):Binds K fd ps ds:=by
 obtain⟨oc,od,kV,doc,pm,an,cdv,ct,osl,T,ot,odt,n,slt,rfl,lk,hcd,lt⟩:=F.ex;intro s us hK hl;obtain⟨k,e1,e2⟩:=h T kV doc pm an cdv ct us (by rw[<-lA];exact hl);exact BindsTo.of_defaults rfl (hK _ _ lt) rfl e1 e2
section
variable{P:Program}{w:World}{K:Od}{mg:Ni}{base:Heap}
def okXD{x qual:Str}{st:Stmt}{f:Addr}{fd:FuncData}{N ps:Nh}{k:Nat}(Fb:AY)(F:FunD K x qual st f fd)(Sc:FnScope N ps (zE st))
  (hbody: ∀(cdv:Value)(A:Around)(outer:List Env)(s:Shared)(H:Hp)(E:XK),Room k (A.deeper (envOfC qual (zE st) s.heap.objs.size f cdv))->
   rC (uN (DY P w) P w K mg base N qual (zE st) f cdv A outer s H E) (WE ⟨K,mg,P,w⟩ E) (yN st) Fb):
  FnOk P w K mg base (DY P w) (k+1) f fd ps (GB ⟨K,mg,P,w⟩ ps.length λds S=>yA (Fb (zT N ds) S)):=by
 obtain⟨oc,od,kV,doc,pm,an,cdv,ct,osl,T,ot,odt,n,slt,rfl,lk,hcd,lt⟩:=F.ex;refine UG lk hcd Sc (λvs H Q E h=>?_) λA outer s H vs Q E hr h=>?_
 .obtain⟨α,S,ds,_,l,hl,_⟩:=h;rw[l.length,hl]
 .obtain⟨α,S,ds,wd,l,hl,q⟩:=h;obtain⟨t,ht,kk⟩:=hbody cdv A outer s H E hr;refine⟨t,ht,kk α (zT N ds) S (start N vs) H _ wd (aI l) ?_⟩;dsimp only at q
  cases z:Fb (zT N ds) S with
  |ok fl S'=>
   rw[z]at q
   cases fl with
   |next ρ=>exact λσ α' H' x' w' s'=>q .non α' H' x' w' (DenE.val jW)
   |ret r=>exact λv α' H' x' w' d'=>q v α' H' x' w' d'
   |brk ρ=>exact q.elim
   |cont ρ=>exact q.elim
  |exc c fs S'=>rw[z]at q;exact λα' H' x' w'=>q α' H' x' w'
  |no=>rw[z]at q;exact q
end
def RMtX(P:Program)(w:World)(K:Od)(mg:Ni)(base:Heap)(m:Str)(k n:Nat)(c:Str)(F:List MV->Sto->R Er):Prop:= ∃C fa fd ps,OC K c C/\Meth K C m fa/\FnOk P w K mg base (DY P w) k fa fd ps (GB ⟨K,mg,P,w⟩ n F)/\Binds K fd ps []
def RMtX.noX{P:Program}{w:World}{K:Od}{mg:Ni}{base:Heap}{m:Str}{k n:Nat}{c:Str}{F:List MV->Sto->R Er}(T:RMtX P w K mg base m k n c F):Lw P w K mg base m k n c F:=let ⟨C,fa,fd,ps,oc,hm,G,hb⟩:=T;⟨C,fa,fd,ps,oc,hm,G.noX,hb⟩
def Lx(P:Program)(w:World)(K:Od)(mg:Ni)(base:Heap)(k n:Nat)(c:Str)(F:List MV->Sto->R Er):Prop:= ∃C fi fd ps,OC K c C/\mg c=some (.ref C)/\Mk K C fi/\FnOk P w K mg base (DY P w) k fi fd ps (GB ⟨K,mg,P,w⟩ n F)/\Binds K fd ps []/\Binds K fd ps [.none]
theorem rV: ∀{rs:List Er}{vs:List V},vs.length=rs.length->lN (rs++[.val .non]) (vs++[.non])=lN rs vs
 |[],[],_=>rfl
 |.val _::rs,_::vs,h=>rV (rs:=rs) (vs:=vs) (Nat.succ.inj h)
 |.new _::rs,.ref b::vs,h=>congrArg (b::·) (rV (rs:=rs) (vs:=vs) (Nat.succ.inj h))
 |.new _::rs,.non::vs,h|.new _::rs,.bl _::vs,h|.new _::rs,.int _::vs,h|.new _::rs,.str _::vs,h|.new _::rs,.ty _::vs,h|.new _::rs,.byt _::vs,h|.new _::rs,.flt _::vs,h=>rV (rs:=rs) (vs:=vs) (Nat.succ.inj h)
def ArgsE.non1{K:Od}{H:Hp}{α':Ng}{H':Hp}{rs:List Er}{vs:List V}(h:ArgsE K H α' H' rs vs):ArgsE K H α' H' (rs++[.val .non]) (vs++[.non]):=by
 induction h with
 |nil=>exact .cons (DenE.val jW) (λds b er=>by cases er) .nil
 |cons a n r ih=>exact .cons a (λds b er h1=>by show b∉lN (_++_) (_++_);rw[rV r.length];exact n ds b er h1) ih
section
variable{X:Cx}{W:XW}{e o:Expr}{es:Oc}{f g:AX}{af:Rho->Sto->R (List Er)}{pos apos p:Pos}{m:Str}{c:Str}{C:Addr}
def RZ(c m:Str)(F:List MV->Sto->R Er)(f:AX)(ρ:Rho)(S:Sto):R Er:=(f ρ S).bind λp S=>match rR c p S with
 |some (_,fs)=>if fs.lookup m=none then zR 1 F [p] S else .no
 |none=>.no
def tG{pl:Sem Bool}{k:Nat}{F:List MV->Sto->R Er}(T:Lw X.prog X.w X.K X.mg X.base m k 1 c F)(hr:Room k X.A)(he:yL X W o f)
  (ht:eval (.Call (.Attribute o m apos) [] [] pos) X.env=(do
   let ov <-eval o X.env
   standAt apos.atName
   let (f,first) <-holding [ov] (getMethod ov m pl)
   callWith pos f first (backTo pos (starEach [] X.env)) (backToKw pos (keywordEach [] X.env))):=by rfl):
  yL X W (.Call (.Attribute o m apos) [] [] pos) (RZ c m F f):=by
 obtain⟨C,fa,fd,ps,oc,hm,G,hb⟩:=T;obtain⟨to,he,ko⟩:=he;refine⟨_,UE he oc.cl hm G hr hb .nil HU ht,λα ρ S σ H Q wd sl q=>ko α ρ S σ H _ wd sl (Post.bind q λu r S1 α1 H1 e1 x1 w1 d1 q1=>?_)⟩;split at q1
 .rename_i l fs hr;obtain⟨rfl,a,dx,gs,rfl,hl,hH,hF⟩:=IT oc w1 d1.1 hr;split at q1
  .rename_i hn;refine⟨a,dx,gs,rfl,hH,hF.miss hn,?_⟩;exact eU (Ext.refl _ _) w1 (ArgsE.cons (DenE.val d1.1) (λds b er=>by cases er) .nil) (Post.shift x1 q1)
  .exact q1.elim
 .exact q1.elim
def RY{k n:Nat}{F:List MV->Sto->R Er}(T:Lx X.prog X.w X.K X.mg X.base k n c F)(hr:Room (k+1) X.A)(hg:Gl X c)(ha:CO X W (e::es) af)(hdb:(c==("__debug__":Str))=false:=by decide)
  (hs:starEach (e::es) X.env=(false,eval e X.env)::starEach es X.env:=by rfl) (hpl:(backTo pos (starEach es X.env)).any (·.1)=false:=by rfl):yL X W (.Call (.Name c p) (e::es) [] pos) (λρ S=>(af ρ S).bind λrs S1=>WY c n F (rs++[.val .non]) S1):=by
 obtain⟨C,fi,fd,ps,oc,hm,M',G,_,hb⟩:=T;obtain⟨t,ha,kk⟩:=ha;refine⟨_,ZR (dvs:=[.non]) M' G.noX hr hg hm hb (.cons rfl .nil) HU ha hdb hs hpl,λα ρ S σ H Q wd sl q=>kk α ρ S σ H _ wd sl (q.bind λvs rs S1 α1 H1 e1 x1 w1 d1 q1=>?_)⟩;intro x dx hx hdx hne;unfold WY at q1;split at q1
 .rename_i hl;have xa:=w1.newx (o:=.own x) hdx;have wa:=w1.new (o:=.own x) hdx;have hx':(xT H1 dx (.own x)) x=none:=by rw[zI (Ne.symm hne)];exact hx
  obtain⟨xb,wb⟩:=wa.put (ho:=.ins C dx []) (m:=.rcd c []) hx' ⟨C,dx,[],oc.ns,zQ,.nil⟩;have hat:(α1++[x])[S1.length]? =some x:=by rw[<-w1.len,getElem?_append_right (Nat.le_refl _),sub_self];rfl
  have xx:=x1.trans (xa.trans xb);have da:ArgsE X.K H (α1++[x]) _ (.val (.loc S1.length)::(rs++[.val .non])) (.ref x::(vs++[.non])):=ArgsE.cons (DenE.val (aF hat)) (λds b er=>by cases er) (d1.ext (xa.trans xb)).non1;obtain⟨α2,x2,y2,w2,l2⟩:=bL wb xx da;refine⟨α2,_,_,w2,l2,by rw[cV];exact hl,?_⟩
  cases z:F (zM (.val (.loc S1.length)::(rs++[.val .non])) (S1++[.rcd c []])).1 (zM (.val (.loc S1.length)::(rs++[.val .non])) (S1++[.rcd c []])).2 with
  |ok r S3=>
   rw[z]at q1;intro v α3 H3 x3 w3 d3;have q1:Post X.g W α H (match r with |Er.val .non=>R.ok (Er.val (.loc S1.length)) S3|_=>.no) Q:=q1;split at q1
   .exact⟨lL d3.1,q1 _ α3 H3 (x2.trans x3) w3 (DenE.val (aF (x3.at (y2.at hat))))⟩
   .exact q1.elim
  |exc c fs S3=>rw[z]at q1;exact q1.elim
  |no=>rw[z]at q1;exact q1.elim
 .exact q1.elim
end
section
variable{X:Cx}{W:XW}{k:Nat}{ps:Nh}{F:List MV->Sto->R Er}{x:Str}{p pos:Pos}
def SD(G:WT X.prog X.w X.K X.mg X.base x k 0 ps F)(hr:Room k X.A)(hg:Gl X x)(hdb:(x==("__debug__":Str))=false:=by decide):yL X W (.Call (.Name x p) [] [] pos) (λρ S=>zR 0 F [] S):=
 let ⟨_,_,G,m,kp,b⟩:=G.ex;VG G hr hg m kp b hdb
end
section
variable{X:Cx}{W:XW}{M:Addr}{cs:List (Str×Addr)}{i:Nat}{nm:Str}{Fh:AY}{b0:Stmt}{suite:List Stmt}{mp hpos cpos epos p apos:Pos}{e o:Expr}{es:Oc}{f:AX}{af:Rho->Sto->R (List Er)}{k n:Nat}{fa C:Addr}{fd:FuncData}{ps:Nh}{F:List MV->Sto->R Er}{x c m:Str}{ns:Nh}
def WZ{pins:Nk}{σ:St}{H:Hp}{s:Shared}{Q:VK}{E:XK}{Ex:VP}{to:TE}{ta:TA}{pl:Sem Bool}(he:PE X.nox o to)(oc:Cls X.K C)(hm:Meth X.K C m fa)(G:FnOk X.prog X.w X.K X.mg X.base (DY X.prog X.w) k fa fd ps (GB X.g n F))(hr:Room k X.A)(hb:Binds X.K fd ps [])
  (ha:PA X.nox (e::es) ta) (I:Inv X pins σ H s) (h:to σ H λx H1=> ∃a dx gs,x=.ref a/\H1 a=some (.ins C dx gs)/\gs.lookup m=none/\ta σ H1 λvs H2=>GB X.g n F (x::vs) H2 Q E)
  (hx: ∀H1 s1 x s',Inv X pins σ H1 s1->DY X.prog X.w X.stack H1 s1 E x s'->Ex x s')
  (hst:starEach (e::es) X.env=(false,eval e X.env)::starEach es X.env) (hpl:(backTo cpos (starEach es X.env)).any (·.1)=false)
  (ht:eval (.Call (.Attribute o m apos) (e::es) [] cpos) X.env=(do
   let ov <-eval o X.env
   standAt apos.atName
   let (f,first) <-holding [ov] (getMethod ov m pl)
   callWith cpos f first (backTo cpos (starEach (e::es) X.env)) (backToKw cpos (keywordEach [] X.env)))):
  wpAny (model X.prog X.w) X.A (eval (.Call (.Attribute o m apos) (e::es) [] cpos) X.env) (EP X pins σ Q) Ex s:=by
 refine PySem.W.methodCall_KW (pl:=pl) (wpAny_mono (he pins s σ H _ (I.wish _) h) (λu s1 ⟨x,H1,I1,rx,a,dx,fs,ex,ea,l,q⟩=>?_) λ_ _ z=>z.elim) ht;subst ex;obtain rfl:u=Value.ref a:=rx;refine pS I1.unwish ea oc hm l ?_;refine PySem.W.callWith_K (first:=[.ref a]) (h₀:=X.base) I.ok.mod.kin hm.kp (wpAny_mono (ha cpos pins s1 σ H1 _ I1 q) (λus s2 ⟨vs,H2,I2,r,q2⟩=>⟨I2.unwish.kIn,?_⟩) λ_ _ z=>z.elim) hst hpl;have I3:=I2.unwish;have r3:Vals (.ref a::vs) (.ref a::us):=.cons rfl r;have hl:(Value.ref a::us).length=ps.length:=by rw[<-r3.length];exact G.len _ _ _ _ q2
 refine wpAny_call (codeAny_mono (G.run X.A X.stack s2 H2 ⟨.ref a::us,[]⟩ (.ref a::us) (.ref a::vs) Q E hr I3.env0 ?_ r3 q2) λr s' hq=>?_)
 .have:=hb s2 (.ref a::us) I3.kIn (by rw[aN];exact hl);rw[aN]at this;exact this
 .cases r with
  |error y=>exact hx H2 s2 y s' I3 hq
  |ok fl=>
   cases fl with
   |ret u=>exact I3.after hq
   |next=>exact False.elim hq
   |brk=>exact False.elim hq
   |cont=>exact False.elim hq
def NX(c m:Str)(n:Nat)(F:List MV->Sto->R Er)(f:AX)(af:Rho->Sto->R (List Er))(ρ:Rho)(S:Sto):R Er:=(noX (f ρ S)).bind λp S=>match rR c p S with
 |some (_,fs)=>if fs.lookup m=none then(noX (af ρ S)).bind λr S=>xE n F (p::r) S else .no
 |none=>.no
def IU{pl:Sem Bool}(T:XTab X.K X.mg M cs)(hgm:Gl X "MendError")(hN:X.N.Nodup)(hsuite: ∀v,rC (X.inH v) W0 (b0::suite) Fh)(G:RMtX X.prog X.w X.K X.mg X.base m k n c F)(hr:Room k X.A)(he:yL X.nox W0 o f)
  (ha:CO X.nox W0 (e::es) af) (hns:cs.map (·.1)=ns:=by rfl) (hi:X.N[i]? =some nm:=by rfl) (hk:X.env.kindOf nm=some .local:=by rfl) (hex:X.ex=[]:=by rfl) (hstk:X.stack=X.env::X.outer:=by rfl) (hfm:X.env.frame=some X.env.locals:=by rfl)
  (hst:starEach (e::es) X.env=(false,eval e X.env)::starEach es X.env:=by rfl) (hpl:(backTo cpos (starEach es X.env)).any (·.1)=false:=by rfl) (hs:swapsWith (.Call (.Attribute o m apos) (e::es) [] cpos) none epos.line X.env=pure false:=by rfl)
  (ht:eval (.Call (.Attribute o m apos) (e::es) [] cpos) X.env=(do
   let ov <-eval o X.env
   standAt apos.atName
   let (f,first) <-holding [ov] (getMethod ov m pl)
   callWith cpos f first (backTo cpos (starEach (e::es) X.env)) (backToKw cpos (keywordEach [] X.env))):=by rfl):
  TB X W ns i Fh [.ExceptHandler (some (.Name "MendError" mp)) (some nm) (b0::suite) hpos] (.Expr (.Call (.Attribute o m apos) (e::es) [] cpos) epos) (NX c m n F f af):=by
 subst hns;obtain⟨C,fa,fd,ps,oc,hm,G,hb⟩:=G;obtain⟨to,he,ko⟩:=he;obtain⟨ta,ha,ka⟩:=ha;intro α ρ S σ H D pins s wd sl q I;unfold NX at q;refine wpAny_Expr_any ?_ I.quiet hs
 have hto:to σ H λx H1=> ∃a dx gs,x=.ref a/\H1 a=some (.ins C dx gs)/\gs.lookup m=none/\ta σ H1 λvs H2=>GB X.g n F (x::vs) H2 (λ_ H2=>D.nx σ H2) (E2 X W (cs.map (·.1)) i Fh ρ α H D):=by
  refine ko α ρ S σ H _ wd sl ?_
  cases z:f ρ S with
  |exc c fs S1=>rw[z]at q;exact q.elim
  |no=>rw[z]at q;exact q.elim
  |ok r S1=>
   rw[z]at q;intro u α1 H1 x1 w1 d1
   have q:PostS X.g W α H D (tD (cs.map (·.1)) i (λ_ S2=>.ok (.next ρ) S2) Fh ρ (match rR c r S1 with
    |some (_,fs)=>if fs.lookup m=none then(noX (af ρ S1)).bind λr' S=>xE n F (r::r') S else .no
    |none=>.no)):=q
   cases hrc:rR c r S1 with
   |none=>rw[hrc]at q;exact q.elim
   |some lf=>
    obtain⟨l,fs⟩:=lf;rw[hrc]at q;dsimp only at q;obtain⟨rfl,a,dx,gs,rfl,hla,hH,hF⟩:=IT oc w1 d1.1 hrc;by_cases hn:fs.lookup m=none
    .rw[iP hn]at q;refine⟨a,dx,gs,rfl,hH,hF.miss hn,ka α1 ρ S1 σ H1 _ w1 (sl.ext x1) ?_⟩
     cases z2:af ρ S1 with
     |exc c fs S2=>rw[z2]at q;exact q.elim
     |no=>rw[z2]at q;exact q.elim
     |ok rs S2=>
      rw[z2]at q;intro vs α2 H2 x2 w2 d2;have q:PostS X.g W α H D (tD (cs.map (·.1)) i (λ_ S2=>.ok (.next ρ) S2) Fh ρ (xE n F (.val (.loc l)::rs) S2)):=q;refine BC x2 w2 (ArgsE.cons (DenE.val (d1.1.ext x2)) (λds b er=>by cases er) d2) ?_
      cases z3:xE n F (.val (.loc l)::rs) S2 with
      |ok r3 S3=>rw[z3]at q;exact λu3 α3 H3 x3 w3 d3=>q σ α3 H3 (x1.trans x3) w3 (sl.ext (x1.trans x3))
      |exc c3 fs3 S3=>rw[z3]at q;exact λα3 H3 x3 w3 C3 d3 hC hf=>⟨c3,fs3,S3,α3,C3,rfl,hC,x1.trans x3,w3,hf,q⟩
      |no=>rw[z3]at q;exact q.elim
    .rw[iN0 hn]at q;exact q.elim
 refine wM (WZ he oc.cl hm G hr hb ha I hto (λH1 s1 y s' I1 hq=>WP T hgm hN hi hk hsuite hex hstk hfm sl I1 hq) hst hpl ht) λu s' ⟨v,H',I',_,q'⟩=>?_;exact⟨rfl,H',I',q'⟩
def SE(c:Str)(n:Nat)(F:List MV->Sto->R Er)(rs:List Er)(S:Sto):R Er:=if rs.length+1=n then
  (F (zM (.val (.loc S.length)::rs) (S++[.rcd c []])).1 (zM (.val (.loc S.length)::rs) (S++[.rcd c []])).2).bind λr S2=>match r with |.val .non=>.ok (.val (.loc S.length)) S2|_=>.no
 else .no
def OX(a:Rho->Sto->R (List Er))(g:List Er->Sto->R Er)(ρ:Rho)(S:Sto):R Er:=(noX (a ρ S)).bind g
def XA{pins:Nk}{σ:St}{H:Hp}{s:Shared}{Q:VK}{E:XK}{Ex:VP}{us:Nc}{vs:List V}(M:Mk X.K C fa)(G:FnOk X.prog X.w X.K X.mg X.base (DY X.prog X.w) k fa fd ps (GB X.g n F))(hr:Room (k+1) X.A)(hb:Binds X.K fd ps [])(I:Inv X pins σ H s)(r:Vals vs us)
  (h: ∀x dx,H x=none->H dx=none->dx≠x->GB X.g n F (.ref x::vs) (xT (xT H dx (.own x)) x (.ins C dx [])) (λv H2=>v=.non/\Q (.ref x) H2) E)
  (hx: ∀H1 s1 x s',Inv X pins σ H1 s1->DY X.prog X.w X.stack H1 s1 E x s'->Ex x s'):
  wpAny (model X.prog X.w) X.A (call (.ref C) us) (EP X pins σ Q) Ex s:=by
 have hq:=h _ s.heap.objs.size (I.hok.fresh (le_succ _)) (I.hok.fresh (Nat.le_refl _)) (Nat.ne_of_lt (Nat.lt_succ_self _));have I2:=Inv.made (C:=C) I;have r2:Vals (V.ref (s.heap.objs.size+1)::vs) (.ref (s.heap.objs.size+1)::us):=.cons rfl r;have hl:=by have e:=r2.length;rw[G.len _ _ _ _ hq]at e;exact e.symm
 have hb2:=hb _ (.ref (s.heap.objs.size+1)::us) I2.kIn (by rw[aN];exact hl);rw[aN]at hb2
 refine wpAny_call (HQ I.kIn M.makes M.init (beq_iff_eq.mp M.fn) (codeAny_mono (G.run _ X.stack _ _ ⟨_,[]⟩ _ _ _ E (hr.make C us [])
  (I2.env0.make C us []) hb2 r2 hq) λr s' hq'=>?_))
 cases r with
 |error e=>exact hx _ _ e s' I2 hq'
 |ok fl=>
  cases fl with
  |ret u=>
   obtain⟨v,H',I3,rv,ev,q3⟩:=I2.after hq';subst ev;exact⟨rv,⟨V.ref _,H',I3,rfl,q3⟩⟩
  |next=>exact False.elim hq'
  |brk=>exact False.elim hq'
  |cont=>exact False.elim hq'
def XC(T:XTab X.K X.mg M cs)(hgm:Gl X "MendError")(hN:X.N.Nodup)(hsuite: ∀v,rC (X.inH v) W0 (b0::suite) Fh)(G:Lx X.prog X.w X.K X.mg X.base k n c F)(hr:Room (k+1) X.A)(hg:Gl X c)
  (ha:CO X.nox W0 (e::es) af) (hns:cs.map (·.1)=ns:=by rfl) (hi:X.N[i]? =some nm:=by rfl) (hk:X.env.kindOf nm=some .local:=by rfl) (hex:X.ex=[]:=by rfl) (hstk:X.stack=X.env::X.outer:=by rfl) (hfm:X.env.frame=some X.env.locals:=by rfl)
  (hdb:(c==("__debug__":Str))=false:=by decide) (hst:starEach (e::es) X.env=(false,eval e X.env)::starEach es X.env:=by rfl) (hpl:(backTo cpos (starEach es X.env)).any (·.1)=false:=by rfl) (hs:swapsWith (.Call (.Name c p) (e::es) [] cpos) none epos.line X.env=pure false:=by rfl):
  TB X W ns i Fh [.ExceptHandler (some (.Name "MendError" mp)) (some nm) (b0::suite) hpos] (.Expr (.Call (.Name c p) (e::es) [] cpos) epos) (λρ S=>(noX (af ρ S)).bind (SE c n F)):=by
 subst hns;obtain⟨C,fi,fd,ps,oc,hm,M',G,hb,_⟩:=G;obtain⟨ta,ha,ka⟩:=ha;intro α ρ S σ H D pins s wd sl q I;dsimp only at q;refine wpAny_Expr_any ?_ I.quiet hs
 have hta:ta σ H λvs H1=> ∀x dx,H1 x=none->H1 dx=none->dx≠x->GB X.g n F (.ref x::vs) (xT (xT H1 dx (.own x)) x (.ins C dx [])) (λv H2=>v=.non/\D.nx σ H2) (E2 X W (cs.map (·.1)) i Fh ρ α H D):=by
  refine ka α ρ S σ H _ wd sl ?_
  cases z:af ρ S with
  |exc c fs S1=>rw[z]at q;exact q.elim
  |no=>rw[z]at q;exact q.elim
  |ok rs S1=>
   rw[z]at q;intro vs α1 H1 x1 w1 d1 x dx hx hdx hne;have q:PostS X.g W α H D (tD (cs.map (·.1)) i (λ_ S2=>.ok (.next ρ) S2) Fh ρ (SE c n F rs S1)):=q;unfold SE at q;by_cases hl:rs.length+1=n
   .rw[iP hl]at q;have xa:=w1.newx (o:=.own x) hdx;have wa:=w1.new (o:=.own x) hdx;have hx':(xT H1 dx (.own x)) x=none:=by rw[zI (Ne.symm hne)];exact hx
    obtain⟨xb,wb⟩:=wa.put (ho:=.ins C dx []) (m:=.rcd c []) hx' ⟨C,dx,[],oc.ns,zQ,.nil⟩;have hat:(α1++[x])[S1.length]? =some x:=by rw[<-w1.len,getElem?_append_right (Nat.le_refl _),sub_self];rfl
    have xx:=x1.trans (xa.trans xb);have da:ArgsE X.K H (α1++[x]) _ (.val (.loc S1.length)::rs) (.ref x::vs):=ArgsE.cons (DenE.val (aF hat)) (λds b er=>by cases er) (d1.ext (xa.trans xb));obtain⟨α2,x2,y2,w2,l2⟩:=bL wb xx da;refine⟨α2,_,_,w2,l2,by rw[cV];exact hl,?_⟩
    cases z2:F (zM (.val (.loc S1.length)::rs) (S1++[.rcd c []])).1 (zM (.val (.loc S1.length)::rs) (S1++[.rcd c []])).2 with
    |ok r S3=>
     rw[z2]at q;intro v α3 H3 x3 w3 d3;rw[R.bind_ok]at q;split at q
     .exact⟨lL d3.1,q σ α3 H3 (x2.trans x3) w3 (sl.ext (x2.trans x3))⟩
     .exact q.elim
    |exc c3 fs3 S3=>rw[z2]at q;exact λα3 H3 x3 w3 C3 d3 hC hf=>⟨c3,fs3,S3,α3,C3,rfl,hC,x2.trans x3,w3,hf,q⟩
    |no=>rw[z2]at q;exact q.elim
   .rw[iN0 hl]at q;exact q.elim
 refine wM (Q:=EP X pins σ λ_ H2=>D.nx σ H2) ?_ λu s' ⟨v,H',I',_,q'⟩=>⟨rfl,H',I',q'⟩
 refine wpAny_Call_Name_kw (bD I hg hm ?_ hdb);refine PySem.W.callWith_K (h₀:=X.base) I.ok.mod.kin M'.kp (wpAny_mono (ha cpos pins s σ H _ (I.wish _) hta) (λus s1 ⟨vs,H1,I1,r,q⟩=>⟨I1.unwish.kIn,?_⟩) λ_ _ z=>z.elim) hst hpl;exact XA M' G hr hb I1.unwish r q (λH1 s1 y s' I1 hq=>WP T hgm hN hi hk hsuite hex hstk hfm sl I1 hq)
end
end M
end L2
namespace L2
namespace M
namespace My
open PySem PySem.Spec PyProof.Rows
local macro_rules
 | `(tactic|simp? [$xs,*] $[$l:location]?)=>`(tactic|simp only[List.getElem?_cons_zero,List.getElem?_cons_succ,OS,pD,as_int,WF,Hi,add_int,sub_int,eq_int,Hj,lst0,lst1,lst2,lst3,lst6,tup2,tup3,Hl,Hm,Hn,Ho,Hq,Hr,Bn,Bo,set_cons_zero,set_cons_succ,if_true,Bq,Bp,vJ,kJ,bJ,dJ,nJ,aJ,iJ,mJ,tJ,zJ,fJ,xJ,hJ,eJ,uJ,pJ,jJ,qJ,sJ,wJ,yJ,AJ,BJ,CJ,FJ,GJ,JJ,LJ,MJ,$xs,*] $[$l:location]?)
abbrev wO:List Str:=["thing","least","most"]
abbrev BE:List Str:=["thing","tables","wide"]
abbrev yS:List Str:=["tables","rules","rows"]
abbrev lZ:List Str:=["tables","place","table"]
abbrev pL:List Str:=["tables","rules","place","rule"]
abbrev rW:List Str:=["tables","rows","place","row","seen"]
abbrev aK:List Str:=["self","tables","rules","empty"]
abbrev rX:List Str:=["self","t","cells","place","row"]
abbrev qA:List Str:=["_law_cell","_law_prime","_law_number"]
abbrev rY:List Str:=["_law_e","_law_kinds_here"]
abbrev dG:List Str:=["_law_ledger","_law_way","_law_thing","_law_which","_law_place","_law_kinds_here","_law_told","_law_e"]
abbrev mB:List Str:=["_law_tables","_law_rules","_law_which","_law_place","_law_kinds_here","_law_told","_law_e"]
abbrev mE:List Str:=["_law_cell","_law_far","_law_some"]
abbrev bN:List Str:=["_law_rule","_law_wrong"]
abbrev Dt:List Str:=["_law_script","_law_head","_law_many","_law_tables","_law_ledger","_law_rows","_law_k","_law_due","_law_which","_law_row","_law_far","_law_number","_law_parts"]
abbrev XNS:List Str:=["TooGreat","NoText","NoPlace","NotPlain","NoTable","NoRule","NoRow","Twice","NoQuestion","Double","TooWide","Ring"]
abbrev AF:=AY
abbrev AE:=AX
def fP:AF:=(AJ (aJ (bJ (yJ (vJ 0) (yJ (kJ (.typ "int")) wJ)) iY) (nJ (bJ (yJ (vJ 0) (yJ (kJ (.typ "bool")) wJ)) iY))))
def dH:AF:=(fP)
def wA(ds:Og)(S:Sto):R Er:=yA (dH (zT ["thing"] ds) S)
def bG:AZ:=uJ
def jF:AE:=(jJ HM HM (kJ (.str [97])) (vJ 0) (kJ (.str [122])))
def mG:AF:=(iJ (sJ (qJ (bJ (bJ (yJ (vJ 0) (yJ (kJ (.typ "str")) wJ)) iY) nV)) (qJ (bJ (jJ HM HM (kJ (.int 1)) (bJ (yJ (vJ 0) wJ) cP) (kJ (.int (8)))) aV))) ((AJ (kJ (.bl false)))) (JJ))
def mH:AF:=(AJ (bJ (yJ (pJ (bJ (vJ 0) itS) (iW 0) (bG) (jF) 1 []) wJ) LP))
def tH:AF:=zZ (mG) ((mH))
def oW(ds:Og)(S:Sto):R Er:=yA (tH (zT ["thing"] ds) S)
def hX:AF:=(iJ (bJ (fJ 1 wA (yJ (vJ 0) wJ)) nV) ((AJ (dJ YZ (bJ (yJ (vJ 0) wJ) Be) (dJ uS (kJ (.int 10)) (kJ (.int 30)))))) (JJ))
def fQ:AF:=(AJ (fJ 1 oW (yJ (vJ 0) wJ)))
def qB:AF:=zZ (hX) ((fQ))
def gU(ds:Og)(S:Sto):R Er:=yA (qB (zT ["thing"] ds) S)
def rZ:AF:=(AJ (aJ (bJ (yJ (vJ 0) (yJ (kJ (.typ "tuple")) wJ)) iY) (jJ HM HM (vJ 1) (bJ (yJ (vJ 0) wJ) cP) (vJ 2))))
def qC:AF:=(rZ)
def yQ(ds:Og)(S:Sto):R Er:=yA (qC (zT wO ds) S)
def jB:AF:=(AJ (aJ (fJ 1 wA (yJ (vJ 0) wJ)) (jJ HM YZ (kJ (.int 0)) (vJ 0) (vJ 1))))
def xU:AF:=(jB)
def zO(ds:Og)(S:Sto):R Er:=yA (xU (zT ["thing","bound"] ds) S)
def wQ:AF:=(iJ (sJ (qJ (bJ (fJ 3 yQ (yJ (vJ 0) (yJ (kJ (.int 2)) (yJ (kJ (.int 2)) wJ)))) nV)) (qJ (bJ (fJ 1 wA (yJ (dJ xS (vJ 0) (kJ (.int 0))) wJ)) nV))) ((AJ (kJ (.bl false)))) (JJ))
def fR:AF:=(CJ (dJ xS (vJ 0) (kJ (.int 0))) 1)
def fS:AF:=(AJ (aJ (jJ HM HM (kJ (.int 1)) (vJ 1) (kJ (.int (4)))) (fJ 2 zO (yJ (dJ xS (vJ 0) (kJ (.int 1))) (yJ (dJ jE (vJ 1) (kJ (.int 1))) wJ)))))
def qD:AF:=zZ (wQ) (zZ (fR) ((fS)))
def fU(ds:Og)(S:Sto):R Er:=yA (qD (zT ["thing","wide"] ds) S)
def kL:AF:=(iJ (bJ (fJ 3 yQ (yJ (vJ 0) (yJ (kJ (.int 2)) (yJ (kJ (.int 2)) wJ)))) nV) ((AJ (aJ (dJ pY (dJ xS (vJ 0) (kJ (.int 0))) (kJ (.str [105,115]))) (fJ 1 gU (yJ (dJ xS (vJ 0) (kJ (.int 1))) wJ))))) (JJ))
def bO:AF:=(iJ (sJ (qJ (bJ (fJ 3 yQ (yJ (vJ 0) (yJ (kJ (.int 3)) (yJ (kJ (.int 3)) wJ)))) nV)) (bJ (dJ TC (dJ xS (vJ 0) (kJ (.int 0))) (kJ (.str [99,101,108,108]))) aV)) ((AJ (kJ (.bl false)))) (JJ))
def mI:AF:=(AJ (aJ (fJ 2 zO (yJ (dJ xS (vJ 0) (kJ (.int 1))) (yJ (bJ (yJ (vJ 1) wJ) cP) wJ))) (fJ 2 zO (yJ (dJ xS (vJ 0) (kJ (.int 2))) (yJ (dJ xS (vJ 1) (dJ xS (vJ 0) (kJ (.int 1)))) wJ)))))
def cX:AF:=zZ (kL) (zZ (bO) ((mI)))
def eY(ds:Og)(S:Sto):R Er:=yA (cX (zT ["thing","wides"] ds) S)
def bP:AF:=(iJ (qJ (bJ (fJ 3 yQ (yJ (vJ 0) (yJ (kJ (.int 3)) (yJ (kJ (.int 3)) wJ)))) nV)) ((AJ (kJ (.bl false)))) (JJ))
def mK:AF:=(AJ (aJ (fJ 2 eY (yJ (dJ xS (vJ 0) (kJ (.int 0))) (yJ (vJ 1) wJ))) (aJ (dJ (IP false) (dJ xS (vJ 0) (kJ (.int 1))) (kJ (.tup [.str [115,97,109,101],.str [117,110,108,105,107,101],.str [108,101,115,115]]))) (fJ 2 eY (yJ (dJ xS (vJ 0) (kJ (.int 2))) (yJ (vJ 1) wJ))))))
def eZ:AF:=zZ (bP) ((mK))
def oX(ds:Og)(S:Sto):R Er:=yA (eZ (zT ["thing","wides"] ds) S)
def iR:AZ:=uJ
def bX:AE:=(fJ 2 oX (yJ (vJ 0) (yJ (vJ 1) wJ)))
def pM:AF:=(AJ (aJ (fJ 3 yQ (yJ (vJ 0) (yJ (kJ (.int 1)) (yJ (kJ (.int (3))) wJ)))) (bJ (yJ (pJ (bJ (vJ 0) Ld) (iW 0) (iR) (bX) 1 [1]) wJ) LP)))
def mL:AF:=(pM)
def bQ(ds:Og)(S:Sto):R Er:=yA (mL (zT ["thing","wides"] ds) S)
def hZ:AF:=(iJ (sJ (bJ (dJ TC (bJ (yJ (vJ 0) wJ) cP) (kJ (.int 3))) aV) (qJ (bJ (fJ 2 zO (yJ (dJ xS (vJ 0) (kJ (.int 1))) (yJ (bJ (yJ (vJ 1) wJ) cP) wJ))) nV))) ((AJ (kJ (.bl false)))) (JJ))
def fV:AF:=(AJ (fJ 2 bQ (yJ (dJ xS (vJ 0) (kJ (.int 2))) (yJ (bJ (yJ (dJ xS (dJ xS (vJ 1) (dJ xS (vJ 0) (kJ (.int 1)))) (kJ (.int 0))) wJ) jA) wJ))))
def dI:AF:=zZ (hZ) ((fV))
def fW(ds:Og)(S:Sto):R Er:=yA (dI (zT ["rule","tables"] ds) S)
def mP:AF:=(iJ (sJ (qJ (bJ (bJ (yJ (vJ 0) (yJ (kJ (.typ "tuple")) wJ)) iY) nV)) (bJ (dJ pY (bJ (yJ (vJ 0) wJ) cP) (kJ (.int 0))) aV)) ((AJ (kJ (.bl false)))) (JJ))
def mQ:AF:=(iJ (bJ (dJ pY (dJ xS (vJ 0) (kJ (.int 0))) (kJ (.str [110,101,118,101,114]))) aV) ((AJ (fJ 2 fW (yJ (vJ 0) (yJ (vJ 1) wJ))))) (JJ))
def IV:AF:=(λ_ _=>R.no)
def IW:AF:=(λ_ _=>R.no)
def tI:AF:=zZ (mP) (zZ (mQ) (zZ (IV) ((IW))))
def cY(ds:Og)(S:Sto):R Er:=yA (tI (zT ["thing","tables"] ds) S)
def sB:AZ:=uJ
def fX:AE:=(fJ 1 gU (yJ (vJ 0) wJ))
def dL:AF:=(iJ (sJ (qJ (bJ (fJ 3 yQ (yJ (vJ 0) (yJ (kJ (.int 2)) (yJ (kJ (.int 2)) wJ)))) nV)) (qJ (bJ (fJ 2 zO (yJ (dJ xS (vJ 0) (kJ (.int 0))) (yJ (bJ (yJ (vJ 1) wJ) cP) wJ))) nV))) ((AJ (kJ (.bl false)))) (JJ))
def qE:AF:=(CJ (dJ xS (dJ xS (vJ 1) (dJ xS (vJ 0) (kJ (.int 0)))) (kJ (.int 0))) 2)
def dM:AF:=(AJ (aJ (fJ 3 yQ (yJ (dJ xS (vJ 0) (kJ (.int 1))) (yJ (vJ 2) (yJ (vJ 2) wJ)))) (bJ (yJ (pJ (bJ (dJ xS (vJ 0) (kJ (.int 1))) Ld) (iW 0) (sB) (fX) 1 []) wJ) LP)))
def BF:AF:=zZ (dL) (zZ (qE) ((dM)))
def sC(ds:Og)(S:Sto):R Er:=yA (BF (zT BE ds) S)
def jM:AF:=(iJ (sJ (bJ (dJ Gx (bJ (yJ (vJ 0) wJ) cP) (kJ (.int (4)))) aV) (sJ (bJ (dJ Gx (bJ (yJ (vJ 1) wJ) cP) (kJ (.int (6)))) aV) (bJ (dJ Gx (bJ (yJ (vJ 2) wJ) cP) (kJ (.int (60)))) aV))) ((GJ (yJ (kJ (.str [109,111,114,101,32,116,97,98,108,101,115,44,32,114,117,108,101,115,32,111,114,32,114,111,119,115,32,116,104,97,110,32,97,32,98,111,111,107,32,109,97,121,32,104,97,118,101])) wJ) "TooGreat")) (JJ))
def wC:AF:=(jM)
def wD(ds:Og)(S:Sto):R Er:=yA (wC (zT yS ds) S)
def jT:AY:=(iJ (qJ (bJ (fJ 1 fU (yJ (vJ 2) wJ)) nV)) ((bJ (vJ 1) (Ds "NoTable" "place"))) (JJ))
def xK:AY:=(jT)
def wI:AF:=(iJ (bJ (dJ pY (bJ (yJ (vJ 0) wJ) cP) (kJ (.int 0))) aV) ((bJ (kJ (.int 0)) (Ds "NoTable" "place"))) (JJ))
def gV:AF:=(FJ (bJ (yJ (vJ 0) wJ) itE) (YY 2 (kI (iW 1) (kI (iW 2) rD))) (xK))
def xP:AF:=zZ (wI) ((gV))
def gA(ds:Og)(S:Sto):R Er:=yA (xP (zT lZ ds) S)
def gB:AY:=(iJ (qJ (bJ (fJ 2 cY (yJ (vJ 3) (yJ (vJ 0) wJ))) nV)) ((bJ (vJ 2) (Ds "NoRule" "place"))) (JJ))
def bY:AY:=(gB)
def bZ:AF:=(FJ (bJ (yJ (vJ 1) wJ) itE) (YY 2 (kI (iW 2) (kI (iW 3) rD))) (bY))
def jG:AF:=(bZ)
def kC(ds:Og)(S:Sto):R Er:=yA (jG (zT pL ds) S)
def tK:AY:=(λ_ _=>R.no)
def BG:AY:=(tK)
def tL:AY:=(λ_ _=>R.no)
def tM:AY:=(λ_ _=>R.no)
def BH:AY:=zZ (tL) ((tM))
def dN:AF:=(FJ (bJ (yJ (vJ 1) wJ) itE) (YY 2 (kI (iW 2) (kI (iW 3) rD))) (BG))
def mR:AF:=(CJ zJ 4)
def dO:AF:=(FJ (bJ (yJ (vJ 1) wJ) itE) (YY 2 (kI (iW 2) (kI (iW 3) rD))) (BH))
def fY:AF:=zZ (dN) (zZ (mR) ((dO)))
def cR(ds:Og)(S:Sto):R Er:=yA (fY (zT rW ds) S)
def aL:AF:=(BJ (xJ 3 wD (yJ (vJ 0) (yJ (vJ 1) (yJ (vJ 2) wJ)))))
def aM:AF:=(BJ (xJ 1 gA (yJ (vJ 0) wJ)))
def aO:AF:=(BJ (xJ 2 kC (yJ (vJ 0) (yJ (vJ 1) wJ))))
def mT:AF:=(BJ (xJ 2 cR (yJ (vJ 0) (yJ (vJ 2) wJ))))
def mU:AF:=(AJ (bJ (yJ (bJ (yJ (vJ 0) wJ) fL) (yJ (bJ (yJ (vJ 1) wJ) fL) (yJ (bJ (yJ (vJ 2) wJ) fL) wJ))) zY))
def kS:AF:=zZ (aL) (zZ (aM) (zZ (aO) (zZ (mT) ((mU)))))
def wK(ds:Og)(S:Sto):R Er:=yA (kS (zT yS ds) S)
def xB:AF:=(CJ (xJ 3 wK (yJ (vJ 1) (yJ (iJ (bJ (dJ RH (vJ 2) (kJ .non)) aV) (bJ wJ jA) (vJ 2)) (yJ (bJ wJ jA) wJ)))) 3)
def cH:AF:=(rsJ "Ledger" "tables" (dJ xS (vJ 3) (kJ (.int 0))) (vJ 0))
def cJ:AF:=(rsJ "Ledger" "rules" (dJ xS (vJ 3) (kJ (.int 1))) (vJ 0))
def cK:AF:=(rsJ "Ledger" "rows" (bJ wJ jA) (vJ 0))
def yG:AF:=zZ (xB) (zZ (cH) (zZ (cJ) ((cK))))
def zW(ds:Og)(S:Sto):R Er:=yA (yG (zT aK ds) S)
def dP:AF:=(CJ (bJ (yJ (bJ (vJ 0) (bM "Ledger" "rows")) wJ) cP) 3)
def gC:AF:=(iJ (bJ (dJ geF (vJ 3) (kJ (.int (60)))) aV) ((GJ (yJ (kJ (.str [110,111,32,109,111,114,101,32,114,111,119,115,32,116,104,97,110,32,97,32,98,111,111,107,32,109,97,121,32,104,97,118,101])) wJ) "TooGreat")) (JJ))
def dQ:AF:=(CJ (bJ (yJ (vJ 1) (yJ (vJ 2) wJ)) zY) 4)
def gD:AF:=(iJ (qJ (bJ (fJ 2 sC (yJ (vJ 4) (yJ (bJ (vJ 0) (bM "Ledger" "tables")) wJ))) nV)) ((bJ (vJ 3) (Ds "NoRow" "place"))) (JJ))
def gF:AF:=(iJ (bJ (dJ (IP false) (vJ 4) (bJ (vJ 0) (bM "Ledger" "rows"))) aV) ((bJ (vJ 3) (Ds "Twice" "place"))) (JJ))
def dR:AF:=(BJ (eJ pI RM (bJ (vJ 0) (bM "Ledger" "rows")) (yJ (vJ 4) wJ)))
def mV:AF:=(AJ (vJ 3))
def yH:AF:=zZ (dP) (zZ (gC) (zZ (dQ) (zZ (gD) (zZ (gF) (zZ (dR) ((mV)))))))
def zP(ds:Og)(S:Sto):R Er:=yA (yH (zT rX ds) S)
def jN:AF:=(iJ (qJ (bJ (fJ 2 zO (yJ (vJ 1) (yJ (bJ (yJ (bJ (vJ 0) (bM "Ledger" "rows")) wJ) cP) wJ))) nV)) ((GJ (yJ (kJ (.str [110,111,32,114,111,119,32,104,97,115,32,116,104,105,115,32,110,117,109,98,101,114])) wJ) "NoPlace")) (JJ))
def cA:AF:=(BJ (eJ pI RT (bJ (vJ 0) (bM "Ledger" "rows")) (yJ (vJ 1) wJ)))
def yT:AF:=zZ (jN) ((cA))
def yB(ds:Og)(S:Sto):R Er:=yA (yT (zT ["self","number"] ds) S)
def iS:AF:=(AJ (bJ (yJ (bJ (vJ 0) (bM "Ledger" "tables")) (yJ (bJ (vJ 0) (bM "Ledger" "rules")) (yJ (bJ (yJ (bJ (vJ 0) (bM "Ledger" "rows")) wJ) fL) wJ))) zY))
def xF:AF:=(iS)
def yC(ds:Og)(S:Sto):R Er:=yA (xF (zT ["self"] ds) S)
def gW:AF:=(iJ (bJ (dJ YZ (vJ 1) (bJ (yJ (vJ 0) wJ) cP)) aV) ((AJ (dJ xS (vJ 0) (vJ 1)))) (JJ))
def tN:AF:=(AJ (kJ (.int 0)))
def dS:AF:=zZ (gW) ((tN))
def zU(ds:Og)(S:Sto):R Er:=yA (dS (zT ["_law_script","_law_k"] ds) S)
def fZ:AF:=(iJ (bJ (dJ pY (dJ lU (vJ 0) (kJ (.int 2))) (kJ (.int 0))) aV) ((AJ (dJ lU (dJ CV (vJ 0) (kJ (.int 2))) (dJ uS (dJ uS (kJ (.int 10)) (kJ (.int 60))) (kJ (.int 10)))))) (JJ))
def iA:AF:=(CJ (dJ lU (dJ LM (dJ jE (dJ lU (vJ 0) (kJ (.int 2147483629))) (kJ (.int 7))) (kJ (.int 48271))) (vJ 1)) 2)
def iB:AF:=(AJ (dJ jE (dJ LM (dJ lU (dJ LM (vJ 2) (vJ 2)) (kJ (.int 2147483579))) (kJ (.int 1000003))) (vJ 2)))
def qF:AF:=zZ (fZ) (zZ (iA) ((iB)))
def kM(ds:Og)(S:Sto):R Er:=yA (qF (zT qA ds) S)
def dU:AF:=(CJ (bJ (yJ (bJ (vJ 0) (iZ XNS "TooGreat")) (yJ (bJ (vJ 0) (iZ XNS "NoTable")) (yJ (bJ (vJ 0) (iZ XNS "NoRule")) (yJ (bJ (vJ 0) (iZ XNS "NoRow")) wJ)))) jA) 1)
def dW:AF:=(CJ (dJ jE (vJ 1) (bJ (yJ (bJ (vJ 0) (iZ XNS "Twice")) (yJ (bJ (vJ 0) (iZ XNS "NoText")) (yJ (bJ (vJ 0) (iZ XNS "NoPlace")) (yJ (bJ (vJ 0) (iZ XNS "NotPlain")) wJ)))) jA)) 1)
def dY:AF:=(CJ (dJ jE (vJ 1) (bJ (yJ (bJ (vJ 0) (iZ XNS "NoQuestion")) (yJ (bJ (vJ 0) (iZ XNS "Double")) (yJ (bJ (vJ 0) (iZ XNS "TooWide")) (yJ (bJ (vJ 0) (iZ XNS "Ring")) wJ)))) jA)) 1)
def mW:AF:=(AJ (vJ 1))
def iC:AF:=zZ (dU) (zZ (dW) (zZ (dY) ((mW))))
def wR(ds:Og)(S:Sto):R Er:=yA (iC (zT rY ds) S)
def jU:AY:=(CJ (dJ jE (fJ 1 wR (yJ (vJ 7) wJ)) (bJ (yJ (bJ (vJ 7) (RS XNS)) wJ) jA)) 5)
def jV:AY:=(iJ (bJ (dJ (IP false) (vJ 3) (bJ (yJ (kJ (.int 3)) (yJ (kJ (.int 4)) wJ)) zY)) aV) ((CJ (bJ (vJ 7) (RX XNS "place")) 6)) (JJ))
def kT:AY:=zZ (jU) ((jV))
def dZ:AZ:=uJ
def nE:AE:=(dJ pY (vJ 0) (vJ 1))
def gX:AF:=(CJ (bJ wJ jA) 5)
def fA:AF:=(CJ (vJ 4) 6)
def fB:AF:=(MJ XNS 7 kT (LJ (bJ (dJ pY (vJ 1) (kJ (.int 0))) aV) (NX "Ledger" "put" 3 zP (vJ 0) (yJ (dJ xS (vJ 2) (kJ (.int 0))) (yJ (dJ xS (vJ 2) (kJ (.int 1))) wJ))) (NX "Ledger" "take" 2 yB (vJ 0) (yJ (vJ 2) wJ))))
def gY:AF:=(AJ (aJ (dJ pY (vJ 5) (dJ jE (pJ (bJ (yJ (kJ (.int 12)) wJ) ED) (iW 0) (dZ) (nE) 1 [3]) (bJ (yJ (kJ (.bl true)) wJ) jA))) (aJ (dJ pY (vJ 6) (vJ 4)) (nJ (bJ (yJ (vJ 6) (yJ (kJ (.typ "bool")) wJ)) iY)))))
def nF:AF:=zZ (gX) (zZ (fA) (zZ (fB) ((gY))))
def yM(ds:Og)(S:Sto):R Er:=yA (nF (zT dG ds) S)
def cB:AY:=(CJ (dJ jE (fJ 1 wR (yJ (vJ 6) wJ)) (bJ (yJ (bJ (vJ 6) (RS XNS)) wJ) jA)) 4)
def cE:AY:=(iJ (bJ (dJ Gx (vJ 2) (kJ (.int 0))) aV) ((CJ (bJ (vJ 6) (RX XNS "place")) 5)) (JJ))
def aX:AY:=zZ (cB) ((cE))
def iT:AZ:=uJ
def iU:AE:=(dJ pY (vJ 0) (vJ 1))
def aY:AF:=(CJ (bJ wJ jA) 4)
def pN:AF:=(CJ (vJ 3) 5)
def aZ:AF:=(MJ XNS 6 aX (OX (yJ (vJ 0) (yJ (vJ 1) wJ)) (SE "Ledger" 3 zW)))
def eA:AF:=(AJ (aJ (dJ pY (vJ 4) (dJ jE (pJ (bJ (yJ (kJ (.int 12)) wJ) ED) (iW 0) (iT) (iU) 1 [2]) (bJ (yJ (kJ (.bl true)) wJ) jA))) (dJ pY (vJ 5) (vJ 3))))
def mX:AF:=zZ (aY) (zZ (pN) (zZ (aZ) ((eA))))
def xG(ds:Og)(S:Sto):R Er:=yA (mX (zT mB ds) S)
def gZ:AF:=(CJ (dJ lU (vJ 0) (dJ uS (kJ (.int 10)) (kJ (.int 30)))) 1)
def bA:AF:=(CJ (bJ (yJ (bJ (yJ (kJ (.int 2)) (yJ (bJ (yJ (kJ (.int 1)) wJ) zY) wJ)) zY) (yJ (bJ (yJ (kJ (.int (-1))) (yJ (bJ (yJ (kJ (.int 1)) (yJ (kJ (.int 2)) wJ)) zY) wJ)) zY) (yJ (bJ (yJ (kJ (.int 0)) (yJ (bJ (yJ (kJ (.int 1)) wJ) zY) wJ)) zY) (yJ (bJ (yJ (kJ (.int 0)) (yJ (bJ (yJ (kJ (.int 1)) (yJ (kJ (.int 2)) (yJ (kJ (.int 3)) wJ))) zY) wJ)) zY) (yJ (bJ (yJ (kJ (.int 0)) (yJ (bJ (yJ (kJ (.int 1)) (yJ (kJ (.str [65,98,99])) wJ)) zY) wJ)) zY) (yJ (bJ (yJ (kJ (.int 0)) (yJ (bJ (yJ (kJ (.bl true)) (yJ (kJ (.int 2)) wJ)) zY) wJ)) zY) wJ)))))) jA) 2)
def bB:AF:=(CJ (dJ jE (vJ 2) (bJ (yJ (bJ (yJ (kJ (.int 0)) (yJ (bJ (yJ (dJ jE (dJ uS (kJ (.int 10)) (kJ (.int 30))) (vJ 1)) (yJ (kJ (.int 0)) wJ)) zY) wJ)) zY) (yJ (bJ (yJ (kJ (.int 0)) (yJ (bJ (yJ (kJ (.int 1)) (yJ (bJ (yJ (kJ (.int 2)) wJ) zY) wJ)) zY) wJ)) zY) (yJ (bJ (yJ (kJ .non) (yJ (bJ (yJ (kJ (.int 1)) (yJ (kJ (.int 2)) wJ)) zY) wJ)) zY) (yJ (bJ (yJ (kJ (.bl true)) (yJ (bJ (yJ (kJ (.int 1)) (yJ (kJ (.int 2)) wJ)) zY) wJ)) zY) wJ)))) jA)) 2)
def bC:AF:=(AJ (dJ jE (vJ 2) (bJ (yJ (bJ (yJ (dJ jE (kJ (.int 2)) (vJ 1)) (yJ (bJ (yJ (kJ (.int 1)) (yJ (kJ (.int 2)) wJ)) zY) wJ)) zY) (yJ (bJ (yJ (kJ (.int 0)) (yJ (kJ .non) wJ)) zY) (yJ (bJ (yJ (kJ (.int 0)) (yJ (bJ wJ zY) wJ)) zY) (yJ (bJ (yJ (kJ (.str [48])) (yJ (bJ (yJ (kJ (.int 1)) (yJ (kJ (.int 2)) wJ)) zY) wJ)) zY) wJ)))) jA)))
def nG:AF:=zZ (gZ) (zZ (bA) (zZ (bB) ((bC))))
def gG(ds:Og)(S:Sto):R Er:=yA (nG (zT mE ds) S)
def wU:AF:=(CJ (bJ (yJ (kJ (.str [110,101,118,101,114])) (yJ (kJ (.int 0)) (yJ (bJ (yJ (bJ (yJ (bJ (yJ (kJ (.str [99,101,108,108])) (yJ (kJ (.int 0)) (yJ (kJ (.int 0)) wJ))) zY) (yJ (kJ (.str [115,97,109,101])) (yJ (bJ (yJ (kJ (.str [105,115])) (yJ (kJ (.int 1)) wJ)) zY) wJ))) zY) wJ) zY) wJ))) zY) 0)
def wV:AF:=(CJ (bJ (yJ (bJ (yJ (bJ wJ zY) (yJ (bJ wJ zY) (yJ (kJ (.int 1)) (yJ (kJ (.int 0)) wJ)))) zY) (yJ (bJ (yJ (dJ uK (bJ (yJ (bJ (yJ (kJ (.int 2)) (yJ (kJ (.int 1)) wJ)) zY) wJ) zY) (kJ (.int 5))) (yJ (bJ wJ zY) (yJ (kJ (.int 0)) (yJ (kJ .non) wJ)))) zY) (yJ (bJ (yJ (bJ (yJ (bJ (yJ (kJ (.int 2)) (yJ (kJ (.int 1)) wJ)) zY) (yJ (bJ (yJ (kJ (.int 2)) (yJ (kJ (.int 3)) wJ)) zY) wJ)) zY) (yJ (bJ wJ zY) (yJ (kJ (.int 1)) (yJ (kJ (.int 1)) wJ)))) zY) wJ))) jA) 1)
def wW:AF:=(BJ (eJ pI RM (vJ 1) (yJ (bJ (yJ (bJ (yJ (bJ (yJ (kJ (.int 2)) (yJ (kJ (.int 1)) wJ)) zY) wJ) zY) (yJ (dJ uK (bJ (yJ (vJ 0) wJ) zY) (kJ (.int 7))) (yJ (kJ (.int 0)) (yJ (kJ .non) wJ)))) zY) wJ)))
def wX:AF:=(AJ (dJ jE (vJ 1) (bJ (yJ (bJ (yJ (bJ (yJ (bJ (yJ (kJ (.int 2)) (yJ (kJ (.int 1)) wJ)) zY) wJ) zY) (yJ (bJ (yJ (vJ 0) (yJ (bJ (yJ (kJ (.str [110,101,118,101,114])) (yJ (kJ (.int 1)) (yJ (dJ xS (vJ 0) (kJ (.int 2))) wJ))) zY) wJ)) zY) (yJ (kJ (.int 2)) (yJ (kJ (.int 1)) wJ)))) zY) wJ) jA)))
def kN:AF:=zZ (wU) (zZ (wV) (zZ (wW) ((wX))))
def xV(ds:Og)(S:Sto):R Er:=yA (kN (zT bN ds) S)
def tO:AY:=(BJ (eJ pI RM (vJ 5) (yJ (bJ (yJ (kJ (.int 0)) (yJ (bJ (yJ (vJ 6) (yJ (dJ lU (fJ 2 kM (yJ (dJ jE (fJ 2 zU (yJ (vJ 0) (yJ (kJ (.int 1)) wJ))) (vJ 6)) (yJ (kJ (.int 2147483587)) wJ))) (dJ uS (kJ (.int 10)) (kJ (.int 9)))) wJ)) zY) wJ)) zY) wJ)))
def tP:AY:=(iJ (bJ (dJ TC (RJ "Ledger" "put" 3 zP (vJ 4) (yJ (dJ xS (dJ xS (vJ 5) (vJ 6)) (kJ (.int 0))) (yJ (dJ xS (dJ xS (vJ 5) (vJ 6)) (kJ (.int 1))) wJ))) (vJ 6)) aV) ((AJ (kJ (.bl false)))) (JJ))
def vD:AY:=zZ (tO) ((tP))
def EL:AY:=(iJ (qJ (bJ (fJ 5 yM (yJ (vJ 4) (yJ (kJ (.int 0)) (yJ (vJ 9) (yJ (vJ 8) (yJ (dJ xS (bJ (yJ (vJ 2) (yJ (kJ .non) wJ)) jA) (dJ CV (vJ 2) (kJ (.int 60)))) wJ)))))) nV)) ((AJ (kJ (.bl false)))) (JJ))
def vE:AY:=(EL)
def EM:AY:=(iJ (qJ (bJ (fJ 5 yM (yJ (vJ 4) (yJ (kJ (.int 1)) (yJ (vJ 11) (yJ (kJ (.int 6)) (yJ (kJ .non) wJ)))))) nV)) ((AJ (kJ (.bl false)))) (JJ))
def GF:AY:=(EM)
def EN:AY:=(iJ (qJ (bJ (fJ 4 xG (yJ (dJ xS (vJ 12) (kJ (.int 0))) (yJ (dJ xS (vJ 12) (kJ (.int 1))) (yJ (dJ xS (vJ 12) (kJ (.int 2))) (yJ (dJ xS (vJ 12) (kJ (.int 3))) wJ))))) nV)) ((AJ (kJ (.bl false)))) (JJ))
def GH:AY:=(EN)
def GI:AF:=(CJ (fJ 2 zU (yJ (vJ 0) (yJ (kJ (.int 0)) wJ))) 1)
def GK:AF:=(CJ (dJ xS (bJ (yJ (kJ (.int 0)) (yJ (kJ (.int 1)) (yJ (kJ (.int 59)) (yJ (kJ (.int 60)) (yJ (kJ (.int 60)) (yJ (dJ lU (dJ CV (vJ 1) (kJ (.int 6))) (kJ (.int 61))) wJ)))))) jA) (dJ lU (vJ 1) (kJ (.int 6)))) 2)
def GL:AF:=(CJ (tJ VT (bJ (yJ (bJ (yJ (kJ (.int 2)) (yJ (dJ lU (dJ CV (vJ 1) (kJ (.int 366))) (kJ (.int 3))) wJ)) zY) (yJ (bJ (yJ (kJ (.int 1)) (yJ (kJ (.int 1)) wJ)) zY) wJ)) zY) mJ (bJ (dJ jE (kJ (.int 1)) (dJ lU (dJ CV (vJ 1) (kJ (.int 1098))) (kJ (.int 2)))) Jn)) 3)
def GM:AF:=(CJ (bJ (yJ (vJ 3) wJ) (λrs S=>WY "Ledger" 3 zW (rs++[.val .non]) S)) 4)
def OZ:AF:=(CJ (bJ wJ jA) 5)
def GN:AF:=(FJ (bJ (yJ (vJ 2) wJ) ED) (iW 6) (vD))
def GO:AF:=(CJ (bJ (yJ (vJ 3) (yJ (bJ wJ zY) (yJ (bJ (yJ (vJ 5) wJ) fL) wJ))) zY) 7)
def GP:AF:=(CJ (dJ xS (bJ (yJ (kJ (.int 3)) (yJ (kJ (.int 0)) wJ)) jA) (dJ CV (vJ 2) (kJ (.int 60)))) 8)
def GQ:AF:=(FJ (bJ (fJ 1 gG (yJ (fJ 2 zU (yJ (vJ 0) (yJ (kJ (.int 2)) wJ))) wJ)) Di) (iW 9) (vE))
def sE:AF:=(iJ (bJ (dJ Gx (vJ 2) (kJ (.int 0))) aV) (zZ (CJ (dJ xS (vJ 5) (dJ lU (fJ 2 zU (yJ (vJ 0) (yJ (kJ (.int 3)) wJ))) (vJ 2))) 9) ((iJ (qJ (bJ (fJ 5 yM (yJ (vJ 4) (yJ (kJ (.int 0)) (yJ (vJ 9) (yJ (dJ xS (bJ (yJ (kJ (.int 4)) (yJ (kJ (.int 0)) wJ)) jA) (dJ CV (vJ 2) (kJ (.int 60)))) (yJ (dJ xS (bJ (yJ (vJ 2) (yJ (kJ .non) wJ)) jA) (dJ CV (vJ 2) (kJ (.int 60)))) wJ)))))) nV)) ((AJ (kJ (.bl false)))) (JJ)))) (JJ))
def BI:AF:=(CJ (dJ lU (fJ 2 zU (yJ (vJ 0) (yJ (kJ (.int 4)) wJ))) (dJ uS (kJ (.int 10)) (kJ (.int 30)))) 10)
def BK:AF:=(FJ (bJ (bJ (yJ (vJ 2) (yJ (kJ (.int (-1))) (yJ (dJ jE (dJ jE (vJ 2) (kJ (.int 1))) (vJ 10)) (yJ (dJ Gs (kJ (.int (-2))) (vJ 10)) wJ)))) jA) Di) (iW 11) (GF))
def BL:AF:=(FJ (bJ (hJ xV) Di) (iW 12) (GH))
def BM:AF:=(iJ (bJ (dJ TC (RZ "Ledger" "book" yC (vJ 4)) (vJ 7)) aV) ((AJ (kJ (.bl false)))) (JJ))
def mY:AF:=(iJ (bJ (dJ pY (vJ 2) (kJ (.int 60))) aV) (zZ (BJ (RJ "Ledger" "take" 2 yB (vJ 4) (yJ (dJ lU (fJ 2 zU (yJ (vJ 0) (yJ (kJ (.int 3)) wJ))) (kJ (.int 60))) wJ))) ((AJ (aJ (dJ pY (RJ "Ledger" "put" 3 zP (vJ 4) (yJ (kJ (.int 0)) (yJ (bJ (yJ (kJ (.str [97,110,110])) (yJ (kJ (.str [98,111,98])) wJ)) zY) wJ))) (kJ (.int 59))) (dJ pY (dJ xS (dJ xS (RZ "Ledger" "book" yC (vJ 4)) (kJ (.int 2))) (kJ (.int (-1)))) (bJ (yJ (kJ (.int 0)) (yJ (bJ (yJ (kJ (.str [97,110,110])) (yJ (kJ (.str [98,111,98])) wJ)) zY) wJ)) zY)))))) (JJ))
def BN:AF:=(AJ (aJ (dJ pY (RJ "Ledger" "put" 3 zP (vJ 4) (yJ (kJ (.int 0)) (yJ (bJ (yJ (kJ (.str [97,110,110])) (yJ (kJ (.str [98,111,98])) wJ)) zY) wJ))) (vJ 2)) (dJ pY (tJ VT (dJ xS (RZ "Ledger" "book" yC (vJ 4)) (kJ (.int 2))) mJ (bJ (kJ (.int (-1))) Jn)) (dJ xS (vJ 7) (kJ (.int 2))))))
def XD:AF:=zZ (GI) (zZ (GK) (zZ (GL) (zZ (GM) (zZ (OZ) (zZ (GN) (zZ (GO) (zZ (GP) (zZ (GQ) (zZ (sE) (zZ (BI) (zZ (BK) (zZ (BL) (zZ (BM) (zZ (mY) ((BN))))))))))))))))
def IX(ds:Og)(S:Sto):R Er:=yA (XD (zT Dt ds) S)
theorem Ly(S:Sto):uS (.val (.int 10)) (.val (.int 60)) S=.ok (.val (.int (10 ^ 60))) S:=rfl
theorem p600(S:Sto):uS (.val (.int (10 ^ 60))) (.val (.int 10)) S=.ok (.val (.int ((10 ^ 60) ^ 10))) S:=by show(if Ar (10 ^ 60) 10 then R.ok (Er.val (.int ((10 ^ 60) ^ (10:Int).toNat))) S else .no)=_;rw[iP (by decide+kernel)];rfl
def Hz{a:Int}(h:0<=a/\a<4294967296)(S:Sto):LM (.val (.int a)) (.val (.int a)) S=.ok (.val (.int (a * a))) S:=
 FW ⟨Int.lt_of_lt_of_le (by decide) h.1,Int.lt_trans h.2 (by decide)⟩ a S
def GR{S:Sto}{l:Nat}{ds:Og}{d:MV}(hS:S[l]? =some (.lst ds))(hz:ds.length<1000000):RM (.val (.loc l)) [.val d] S=.ok (.val .non) (S.set l (.lst (ds++[d]))):=by show RK (.val (.loc l)) S (λds=>if ds.length<sizeLine then some (ds++[d])else none)=_;unfold RK;dsimp only;rw[hS];dsimp only;rw[iP (Nat.lt_of_lt_of_le hz (fits (Nat.le_refl _)))]
theorem vF{S:Sto}{l:Nat}{ds:Og}(hS:S[l]? =some (.lst ds)):pI (.val (.loc l)) S=true:=by unfold pI;rw[rO hS];rfl
def tQ{S:Sto}{l:Nat}{ds:Og}(hS:S[l]? =some (.lst ds)):fL [.val (.loc l)] S=.ok (.val (.tup ds)) S:=by show(match bW S (.val (.loc l))with |some ds=>R.ok (Er.val (.tup ds)) S|none=>.no)=_;rw[rO hS]
theorem GS(ds:Og)(S:Sto):cP [.val (.tup ds)] S=.ok (.val (.int ds.length)) S:=rfl
def tbl(p:Int×Int):MV:=.tup [.int p.1,.int p.2]
mutual
def pd:MV->Bool
 |.int _=>true
 |.str _=>true
 |.tup ds=>SH ds
 |_=>false
def SH:List MV->Bool
 |[]=>true
 |d::ds=>pd d&&SH ds
end
mutual
def jO:MV->Nat
 |.tup ds=>nW ds+1
 |_=>0
def nW:List MV->Nat
 |[]=>0
 |d::ds=>max (jO d) (nW ds)
end
def MI(ds:Og):pd (.tup ds)=SH ds:=by rw[pd]
def PB:SH []=true:=by rw[SH]
def sF(d:MV)(ds:Og):SH (d::ds)=(pd d&&SH ds):=by rw[SH]
def kU(ds:Og):jO (.tup ds)=nW ds+1:=by rw[jO]
def xL(d:MV)(ds:Og):nW (d::ds)=max (jO d) (nW ds):=by rw[nW]
def bR:nW []=0:=by rw[nW]
def XE(i:Int):pd (.int i)=true:=by rw[pd]
def Ia(i:Db):pd (.str i)=true:=by rw[pd]
def GT(i:Int):jO (.int i)=0:=by simp[jO]
def PC(i:Db):jO (.str i)=0:=by simp[jO]
theorem PD: ∀{ds:Og},(∀d∈ds,pd d=true)->SH ds=true
 |[],_=>PB
 |d::ds,h=>by rw[sF,h d mF0,PD λe he=>h e (mO _ he)];rfl
theorem GU: ∀{ds:Og},SH ds=true-> ∀d∈ds,pd d=true
 |[],_,d,h=>by simp at h
 |e::ds,hp,d,h=>by
  rw[sF,aE]at hp;rcases mC.mp h with rfl|h
  .exact hp.1
  .exact GU hp.2 d h
theorem vG: ∀{ds:Og}{n:Nat},(∀d∈ds,jO d<=n)->nW ds<=n
 |[],n,_=>by rw[bR];exact zero_le _
 |d::ds,n,h=>by rw[xL];have h1:=h d mF0;have h2:=vG λe he=>h e (mO _ he);omega
theorem sG: ∀{ds:Og}, ∀d∈ds,jO d<=nW ds
 |[],d,h=>by simp at h
 |e::ds,d,h=>by
  rw[xL];rcases mC.mp h with rfl|h
  .exact Nat.le_max_left _ _
  .exact Nat.le_trans (sG d h) (Nat.le_max_right _ _)
def IY{d:MV}(h:pd d=true):(∃i,d=.int i)\/(∃x,d=.str x)\/ ∃ds,d=.tup ds/\SH ds=true:=by
 cases d with
 |int i=>exact .inl ⟨i,rfl⟩
 |str x=>exact .inr (.inl ⟨x,rfl⟩)
 |tup ds=>exact .inr (.inr ⟨ds,rfl,by rw[<-MI];exact h⟩)
 |_=>rw[pd]at h<;>first |cases h|(intros;simp)
def dec_is{p:Prop}[Decidable p]{q:Prop}[Decidable q](h:p↔q):decide p=decide q:=by
 by_cases hq:q
 .rw[dT0 hq,dT0 (h.mpr hq)]
 .rw[dF0 hq,dF0 λz=>hq (h.mp z)]
theorem IZ{e:MV->MV->Option Bool}: ∀{ds es:Og},(∀d∈ds, ∀f∈es,e d f=some (decide (d=f)))-> ∃bs,sP e ds es=some bs/\(bs.all id&&ds.length==es.length)=decide (ds=es)
 |[],[],_=>⟨[],rfl,by simp⟩
 |[],_::_,_=>⟨[],rfl,by simp⟩
 |_::_,[],_=>⟨[],rfl,by simp⟩
 |d::ds,f::es,h=>by
  obtain⟨bs,h1,h2⟩:=IZ (e:=e) (ds:=ds) (es:=es) λa ha b hb=>h a (mO _ ha) b (mO _ hb);refine⟨decide (d=f)::bs,?_,?_⟩
  .unfold sP;rw[h d mF0 f mF0,h1];rfl
  .by_cases hd:d=f
   .subst hd;rw[List.all_cons,dT0 rfl];simp only[id,Bool.true_and,lC0];rw[show(ds.length+1==es.length+1)=(ds.length==es.length) by simp,h2];exact dec_is (by simp)
   .rw[List.all_cons,dF0 hd];rw[dF0 (show¬(d::ds=f::es)from λz=>hd (List.cons.inj z).1)];rfl
theorem JA{S:Sto}: ∀(n:Nat){d e:MV},pd d=true->pd e=true->jO d<n->eqv S n d e=some (decide (d=e))
 |0,d,e,_,_,h=>by omega
 |n+1,d,e,hd,he,h=>by
  rcases IY hd with⟨i,rfl⟩|⟨x,rfl⟩|⟨ds,rfl,pds⟩<;>rcases IY he with⟨j,rfl⟩|⟨y,rfl⟩|⟨es,rfl,pes⟩
  .rw[uZ];exact congrArg some (dec_is (by simp))
  .rw[WG,dF0 (by simp)]
  .rw[dF0 (by simp)];rfl
  .rw[WH,dF0 (by simp)]
  .rw[vA];exact congrArg some (dec_is (by simp))
  .rw[dF0 (by simp)];rfl
  .rw[dF0 (by simp)];rfl
  .rw[dF0 (by simp)];rfl
  .rw[kU]at h;obtain⟨bs,h1,h2⟩:=IZ (e:=eqv S n) (ds:=ds) (es:=es) λa ha b hb=>JA n (GU pds a ha) (GU pes b hb) (by have:=sG a ha;omega);show((sP (eqv S n) ds es).map λbs=>bs.all id&&ds.length==es.length)=_;rw[h1];show some (bs.all id&&ds.length==es.length)=_;rw[h2];exact congrArg some (dec_is (by simp))
theorem JB{S:Sto}{d:MV}(hd:pd d=true): ∀{ys:Og},(∀y∈ys,pd y=true/\jO y<40)->CY S yK d ys=some (ys.map λy=>decide (y=d))
 |[],_=>rfl
 |y::ys,h=>by have h1:=h y mF0;unfold CY;rw[JA yK h1.1 hd (by unfold yK;exact h1.2),JB hd λz hz=>h z (mO _ hz)];rfl
theorem PF(S:Sto):uS (.val (.int 10)) (.val (.int 30)) S=.ok (.val (.int (10 ^ 30))) S:=rfl
theorem le_int(i j:Int)(S:Sto):HM (.val (.int i)) (.val (.int j)) S=.ok (.val (.bl (decide (i<=j)))) S:=rfl
theorem le_str(i j:Db)(S:Sto):HM (.val (.str i)) (.val (.str j)) S=.ok (.val (.bl (!decide (j<i)))) S:=rfl
theorem Ib(i:Int)(S:Sto):iY [.val (.int i),.val (.typ "int")] S=.ok (.val (.bl true)) S:=rfl
theorem Ic(i:Int)(S:Sto):iY [.val (.int i),.val (.typ "bool")] S=.ok (.val (.bl false)) S:=rfl
theorem Id(i:Db)(S:Sto):iY [.val (.str i),.val (.typ "int")] S=.ok (.val (.bl false)) S:=rfl
def yR{n:Nat}{F:List MV->Sto->R Er}{rs:List Er}{S:Sto}{b:Bool}(hn:rs.length=n)(hF:F (zM rs S).1 (zM rs S).2=.ok (.val (.bl b)) S):zR n F rs S=.ok (.val (.bl b)) S:=oU hn hF (EH _ _) (λl=>by simp)
def mZ(i:Int)(S:Sto):zR 1 wA [.val (.int i)] S=.ok (.val (.bl true)) S:=yR rfl (by show yA (dH [some (.int i)] S)=_;unfold dH fP;simp? [Ib,Ic,fH];rfl)
def JC(i:Db)(S:Sto):zR 1 wA [.val (.str i)] S=.ok (.val (.bl false)) S:=yR rfl (by show yA (dH [some (.str i)] S)=_;unfold dH fP;simp? [Id,fH];rfl)
def Cb(ds:Og)(a b:Int)(S:Sto):zR 3 yQ [.val (.tup ds),.val (.int a),.val (.int b)] S=.ok (.val (.bl (decide (a<=ds.length)&&decide ((ds.length:Int)<=b)))) S:=yR rfl (by show yA (qC [some (.tup ds),some (.int a),some (.int b)] S)=_;unfold qC rZ;simp? [fH,GS,SY,le_int];cases decide (a<=(ds.length:Int))<;>rfl)
def PH(i b:Int)(S:Sto):zR 2 zO [.val (.int i),.val (.int b)] S=.ok (.val (.bl (decide (0<=i)&&decide (i<b)))) S:=yR rfl (by show yA (xU [some (.int i),some (.int b)] S)=_;unfold xU jB;simp? [mZ,fH,SY,le_int,lt_int];cases decide (0<=i)<;>rfl)
theorem MK{i b:Int}(h0:0<=i)(h1:i<b)(S:Sto):zR 2 zO [.val (.int i),.val (.int b)] S=.ok (.val (.bl true)) S:=by rw[PH,dT0 h0,dT0 h1];rfl
def SqM(S:Sto)(m:MV)(ds:Og):Prop:=m=.tup ds\/ ∃l,m=.loc l/\S[l]? =some (.lst ds)
def SqM.ix{S:Sto}{m:MV}{ds:Og}{i:Int}{d:MV}(h:SqM S m ds)(hk:lE ds i=some d):xS (.val m) (.val (.int i)) S=.ok (.val d) S:=by
 rcases h with rfl|⟨l,rfl,hS⟩
 .exact ix_tup hk
 .exact LV hS hk
def SqM.len{S:Sto}{m:MV}{ds:Og}(h:SqM S m ds):cP [.val m] S=.ok (.val (.int ds.length)) S:=by
 rcases h with rfl|⟨l,rfl,hS⟩
 .rfl
 .exact Br hS
def SqM.app{S T:Sto}{m:MV}{ds:Og}(h:SqM S m ds):SqM (S++T) m ds:=by
 rcases h with h|⟨l,h,hS⟩
 .exact .inl h
 .exact .inr ⟨l,h,by rw[getElem?_append_left (gS.mp hS).1];exact hS⟩
def SqM.tuple{m:MV}{ds:Og}(h:SqM S m ds):fL [.val m] S=.ok (.val (.tup ds)) S:=by
 rcases h with rfl|⟨l,rfl,hS⟩
 .rfl
 .exact tQ hS
theorem XF(S:Sto)(a b:MO):(S++[a,b])[S.length+1]? =some b:=by rw[getElem?_append_right (by omega),show S.length+1 - S.length=1 by omega];rfl
def Lz{d:MV}(h:Vl d):pd d=true/\jO d<40:=by
 rcases h.cases with⟨i,rfl,_⟩|⟨x,rfl,_⟩
 .exact⟨XE i,by rw[GT];decide⟩
 .exact⟨Ia x,by rw[PC];decide⟩
theorem Cc(neg:Bool)(p:Er)(l:Nat)(S:Sto):IP neg p (.val (.loc l)) S=sV neg p (.val (.loc l)) S:=by
 unfold IP;split
 .rename_i h;cases h
 .rfl
def PJ{S:Sto}{l:Nat}{d:MV}{ys:Og}(neg:Bool)(hS:S[l]? =some (.lst ys))(hd:pd d=true)(h: ∀y∈ys,pd y=true/\jO y<40):IP neg (.val d) (.val (.loc l)) S=.ok (.val (.bl (if neg=true then !decide (d∈ys)else decide (d∈ys)))) S:=by
 have e1:itemsOf S (.val (.loc l))=some ys:=by unfold itemsOf;exact rO hS
 rw[Cc];unfold sV;dsimp only;rw[e1];dsimp only;rw[JB hd h];dsimp only
 have ha:(ys.map λy=>decide (y=d)).any id=decide (d∈ys):=by
  rw[List.any_map];by_cases hm:d∈ys
  .rw[dT0 hm,List.any_eq_true];exact⟨d,hm,by simp⟩
  .rw[dF0 hm];rw[List.any_eq_false];intro y hy;simp only[Function.comp,id,decide_eq_true_eq];rintro rfl;exact hm hy
 rw[ha]
theorem gt_int(i j:Int)(S:Sto):Gx (.val (.int i)) (.val (.int j)) S=.ok (.val (.bl (decide (j<i)))) S:=rfl
def Ie{n:Nat}(h:n<2 ^ 4000):n.log2<4000:=by
 by_cases z:n=0
 .subst z;decide
 .exact(log2_lt z).mpr h
def Ig:((10:Int) ^ 60) ^ 10<((2 ^ 4000:Nat):Int):=by decide+kernel
def PK{n m:Int}(h0:0<=n)(h1:n<m)(h2:m<=((2 ^ 4000:Nat):Int)):n.natAbs.log2<4000:=Ie (by have:n<((2 ^ 4000:Nat):Int):=Int.lt_of_lt_of_le h1 h2;generalize (2 ^ 4000:Nat)=k at this ⊢;omega)
def Ih:(4294967296000000:Int)<=((2 ^ 4000:Nat):Int):=by decide+kernel
theorem mix5(c p:Int)(hp:0<p/\p<4294967296)(S:Sto): ∃n,zR 2 kM [.val (.int c),.val (.int p)] S=.ok (.val (.int n)) S/\n.natAbs.log2<4000:=by
 have hs:zT qA [.int c,.int p]=[some (.int c),some (.int p),none]:=rfl;have h600:(0:Int)<(10 ^ 60) ^ 10:=Int.pow_pos (Int.pow_pos (by decide));have e1:fZ [some (.int c),some (.int p),none] S=if decide (c % 2=0)=true then .ok (.ret (.val (.int (c / 2 % (10 ^ 60) ^ 10)))) S else .ok (.next [some (.int c),some (.int p),none]) S:=by unfold fZ;simp? [mod_lit (show(0:Int)<2 by decide),bF (b:=2) (by decide) (by decide),Ly,p600,mod_lit h600]
 have fin: ∀n,kM [.int c,.int p] S=.ok (.val (.int n)) S->n.natAbs.log2<4000-> ∃n,zR 2 kM [.val (.int c),.val (.int p)] S=.ok (.val (.int n)) S/\n.natAbs.log2<4000:=λn h hn=>⟨n,oU rfl h (AU _ _) (λl=>by simp),hn⟩
 cases hb:decide (c % 2=0)with
 |true=>
  refine fin (c / 2 % (10 ^ 60) ^ 10) ?_ (PK (eN _ (Int.ne_of_gt h600)) (eL _ h600) (Int.le_of_lt Ig));rw[hb,iP rfl]at e1;unfold kM qF;rw[hs,wG e1];rfl
 |false=>
  rw[hb,iN0 xF0]at e1;have hn0:0<=(c % 2147483629+7) * 48271 % p:=eN _ (by omega);have hn1:(c % 2147483629+7) * 48271 % p<p:=eL _ hp.1;have e2:iA [some (.int c),some (.int p),none] S=.ok (.next [some (.int c),some (.int p),some (.int ((c % 2147483629+7) * 48271 % p))]) S:=by unfold iA;simp? [mod_lit (show(0:Int)<2147483629 by decide),FW (show -(2 ^ 64)<(48271:Int)/\(48271:Int)<2 ^ 64 by decide),mod_lit hp.1]
  generalize (c % 2147483629+7) * 48271 % p=m at hn0 hn1 e2;have e3:iB [some (.int c),some (.int p),some (.int m)] S=.ok (.ret (.val (.int (m * m % 2147483579 * 1000003+m)))) S:=by unfold iB;simp? [Hz (a:=m) ⟨hn0,by omega⟩,mod_lit (show(0:Int)<2147483579 by decide),FW (show -(2 ^ 64)<(1000003:Int)/\(1000003:Int)<2 ^ 64 by decide)]
  have h3:0<=m * m % 2147483579:=eN _ (by decide);have h4:m * m % 2147483579<2147483579:=eL _ (by decide);refine fin (m * m % 2147483579 * 1000003+m) ?_ (PK (m:=4294967296000000) (by omega) (by omega) Ih);unfold kM qF;rw[hs,zF e1,zF e2,e3];rfl
mutual
def pq:MV->Bool
 |.int _=>true
 |.str x=>decide (x.length<=1000)
 |.bl _=>true
 |.non=>true
 |.tup ds=>CZ ds&&decide (ds.length<=1000)
 |_=>false
def CZ:List MV->Bool
 |[]=>true
 |d::ds=>pq d&&CZ ds
end
def oA(i:Int):pq (.int i)=true:=by rw[pq]
def Ma(i:Bool):pq (.bl i)=true:=by rw[pq]
def XG:pq .non=true:=by rw[pq]
def Ii{x:Db}(h:x.length<=1000):pq (.str x)=true:=by rw[pq];exact dT0 h
def GV(ds:Og):pq (.tup ds)=(CZ ds&&decide (ds.length<=1000)):=by rw[pq]
def Cd:CZ []=true:=by rw[CZ]
def sH(d:MV)(ds:Og):CZ (d::ds)=(pq d&&CZ ds):=by rw[CZ]
theorem PL: ∀{ds:Og},(∀d∈ds,pq d=true)->CZ ds=true
 |[],_=>Cd
 |d::ds,h=>by rw[sH,h d mF0,PL λe he=>h e (mO _ he)];rfl
theorem PM: ∀{ds:Og},CZ ds=true-> ∀d∈ds,pq d=true
 |[],_,d,h=>by simp at h
 |e::ds,hp,d,h=>by
  rw[sH,aE]at hp;rcases mC.mp h with rfl|h
  .exact hp.1
  .exact PM hp.2 d h
theorem oB{ds:Og}(h: ∀d∈ds,pq d=true)(hl:ds.length<=1000):pq (.tup ds)=true:=by rw[GV,PL h,dT0 hl];rfl
def jH{d:MV}(h:pq d=true):(∃i,d=.int i)\/(∃x,d=.str x/\x.length<=1000)\/(∃b,d=.bl b)\/d=.non\/ ∃ds,d=.tup ds/\(∀e∈ds,pq e=true)/\ds.length<=1000:=by
 cases d with
 |int i=>exact .inl ⟨i,rfl⟩
 |str x=>rw[pq]at h;exact .inr (.inl ⟨x,rfl,of_decide_eq_true h⟩)
 |bl b=>exact .inr (.inr (.inl ⟨b,rfl⟩))
 |non=>exact .inr (.inr (.inr (.inl rfl)))
 |tup ds=>
  rw[GV,aE]at h;exact .inr (.inr (.inr (.inr ⟨ds,rfl,PM h.1,of_decide_eq_true h.2⟩)))
 |_=>rw[pq]at h<;>first |cases h|(intros;simp)
theorem PN{n:Nat}: ∀(k:Nat){d:MV},jO d<k->pq d=true->lo n d
 |0,d,h,_=>by omega
 |k+1,d,hk,h=>by
  rcases jH h with⟨i,rfl⟩|⟨x,rfl,_⟩|⟨b,rfl⟩|rfl|⟨ds,rfl,hp,_⟩
  .exact AU _ _
  .exact Hg _ _
  .exact EH _ _
  .exact AV _
  .rw[kU]at hk;exact Hh (sY λe he=>PN k (by have:=sG e he;omega) (hp e he))
def JD{d:MV}(h:pq d=true)(l:Nat):d≠.loc l:=by rintro rfl;rw[pq]at h<;>first |cases h|(intros;simp)
theorem BO{e:MV->MV->Option Bool}: ∀{ds:Og},(∀d∈ds,e d d=some true)->sP e ds ds=some (ds.map λ_=>true)
 |[],_=>rfl
 |d::ds,h=>by unfold sP;rw[h d mF0,BO λa ha=>h a (mO _ ha)];rfl
theorem EO(ds:Og):(ds.map λ_=>true).all id=true:=by rw[List.all_eq_true];intro b hb;obtain⟨_,_,rfl⟩:=mM0.mp hb;rfl
theorem eqv_refl{S:Sto}: ∀(n:Nat){d:MV},pq d=true->jO d<n->eqv S n d d=some true
 |0,d,_,h=>by omega
 |n+1,d,hd,h=>by
  rcases jH hd with⟨i,rfl⟩|⟨x,rfl,_⟩|⟨b,rfl⟩|rfl|⟨ds,rfl,hp,_⟩
  .rw[uZ,dT0 rfl]
  .rw[vA,dT0 rfl]
  .rw[Hk,beq_self_eq_true]
  .rfl
  .rw[kU]at h;show((sP (eqv S n) ds ds).map λbs=>bs.all id&&ds.length==ds.length)=_;rw[BO λd hd=>eqv_refl n (hp d hd) (by have:=sG d hd;omega)];show some ((ds.map λ_=>true).all id&&ds.length==ds.length)=_;rw[EO,beq_self_eq_true];rfl
theorem XH{S:Sto}(n:Nat){d:MV}(y:Db)(h:pq d=true):eqv S (n+1) d (.str y)=some (decide (d=.str y)):=by
 rcases jH h with⟨i,rfl⟩|⟨x,rfl,_⟩|⟨b,rfl⟩|rfl|⟨ds,rfl,_⟩
 .rw[WG,dF0 (by simp)]
 .rw[vA];exact congrArg some (dec_is (by simp))
 .rw[dF0 (by simp)];rfl
 .rw[dF0 (by simp)];rfl
 .rw[dF0 (by simp)];rfl
theorem Ij{S:Sto}(n:Nat){d:MV}(y:Db)(h:pq d=true):eqv S (n+1) (.str y) d=some (decide (MV.str y=d)):=by
 rcases jH h with⟨i,rfl⟩|⟨x,rfl,_⟩|⟨b,rfl⟩|rfl|⟨ds,rfl,_⟩
 .rw[WH,dF0 (by simp)]
 .rw[vA];exact congrArg some (dec_is (by simp))
 .rw[dF0 (by simp)];rfl
 .rw[dF0 (by simp)];rfl
 .rw[dF0 (by simp)];rfl
def Du{d:MV}(y:Db)(h:pq d=true)(S:Sto):pY (.val d) (.val (.str y)) S=.ok (.val (.bl (decide (d=.str y)))) S:=LT (XH _ y h)
theorem XJ{S:Sto}{d:MV}(h:pq d=true): ∀(ys:Ch),CY S yK d (ys.map MV.str)=some (ys.map λy=>decide (MV.str y=d))
 |[]=>rfl
 |y::ys=>by rw[List.map_cons];unfold CY;rw[show yK=39+1 from rfl,Ij 39 y h, <-show yK=39+1 from rfl,XJ h ys];rfl
def Ik(ys:Ch)(d:MV):(ys.map λy=>decide (MV.str y=d)).any id=decide (d∈ys.map MV.str):=by
 rw[List.any_map];by_cases h:d∈ys.map MV.str
 .rw[dT0 h,List.any_eq_true];obtain⟨y,hy,e⟩:=mM0.mp h;exact⟨y,hy,by simp[e]⟩
 .rw[dF0 h,List.any_eq_false];intro y hy;simp only[Function.comp,id,decide_eq_true_eq];exact λe=>h (mM0.mpr ⟨y,hy,e⟩)
def Il{S:Sto}{d:MV}{q:Er}{ys:Ch}(neg:Bool)(h:pq d=true)(hq:itemsOf S q=some (ys.map MV.str)):sV neg (.val d) q S=.ok (.val (.bl (if neg=true then !decide (d∈ys.map MV.str)else decide (d∈ys.map MV.str)))) S:=by unfold sV;dsimp only;rw[hq];dsimp only;rw[XJ h];dsimp only;rw[Ik]
theorem Mb{S:Sto}{d:MV}{q:Er}{ys:Ch}(neg:Bool)(h:pq d=true)(hq:itemsOf S q=some (ys.map MV.str))(hn: ∀y,q≠.val (.str y)):IP neg (.val d) q S=.ok (.val (.bl (if neg=true then !decide (d∈ys.map MV.str)else decide (d∈ys.map MV.str)))) S:=by
 rw[<-Il neg h hq];unfold IP;split
 .exact absurd rfl (hn _)
 .rfl
def Mz:MV->Bool
 |.int _=>true
 |_=>false
theorem vH{d:MV}(h:pq d=true)(S:Sto):zR 1 wA [.val d] S=.ok (.val (.bl (Mz d))) S:=by
 rcases jH h with⟨i,rfl⟩|⟨x,rfl,_⟩|⟨b,rfl⟩|rfl|⟨ds,rfl,_⟩
 .exact mZ i S
 .exact JC x S
 .exact yR rfl rfl
 .exact yR rfl rfl
 .exact yR rfl rfl
def ZA(c:Nat):Bool:=decide (97<=c)&&decide (c<=122)
def ZC(x:Db):Bool:=decide (1<=x.length)&&decide (x.length<=8)&&x.all ZA
def Ce{x:Db}:ZC x=true↔Nm x:=by unfold ZC Nm ZA;simp only[aE,decide_eq_true_eq,List.all_eq_true,and_assoc]
def nmD:MV->Bool
 |.str x=>ZC x
 |_=>false
def le_a(c:Nat):(!decide ([c]<[97]))=decide (97<=c):=by rw[<-decide_not];refine decide_eq_decide.mpr ?_;rw[List.cons_lt_cons_iff];simp
def le_z(c:Nat):(!decide ([122]<[c]))=decide (c<=122):=by rw[<-decide_not];refine decide_eq_decide.mpr ?_;rw[List.cons_lt_cons_iff];simp
theorem GW{α:Type}(f:α->Bool)(xs:List α)(S:Sto):LP [.new (xs.map λx=>.bl (f x))] S=.ok (.val (.bl (xs.all f))) S:=by
 have h: ∀xs:List α,rL (xs.map λx=>.bl (f x))=some (xs.map f):=by
  intro xs
  induction xs with
  |nil=>rfl
  |cons x xs ih=>rw[List.map_cons,List.map_cons];unfold rL;rw[ih];rfl
 show(match (some (xs.map λx=>MV.bl (f x))).bind rL with |some bs=>R.ok (Er.val (.bl (bs.all id))) S|none=>.no)=_;rw[show(some (xs.map λx=>MV.bl (f x))).bind rL=some (xs.map f)from h xs];show R.ok (Er.val (.bl ((xs.map f).all id))) S=_;rw[List.all_map];rfl
theorem Im{d:MV}(h:pq d=true)(S:Sto):zR 1 oW [.val d] S=.ok (.val (.bl (nmD d))) S:=by
 rcases jH h with⟨i,rfl⟩|⟨x,rfl,hx⟩|⟨b,rfl⟩|rfl|⟨ds,rfl,_⟩
 .exact yR rfl rfl
 .refine yR rfl ?_;have hl: ∀S,cP [.val (.str x)] S=.ok (.val (.int x.length)) S:=λS=>iP (fits (by omega))
  have e1:mG [some (.str x)] S=if(decide (1<=x.length)&&decide (x.length<=8))=true then .ok (.next [some (.str x)]) S else .ok (.ret (.val (.bl false))) S:=by
   unfold mG;simp? [hl,SY,le_int];by_cases h1:1<=x.length
   .by_cases h2:x.length<=8
    .simp only[dT0 h1,dT0 h2,dT0 (show(1:Int)<=(x.length:Int) by omega),dT0 (show(x.length:Int)<=8 by omega)];rfl
    .simp only[dT0 h1,dF0 h2,dT0 (show(1:Int)<=(x.length:Int) by omega),dF0 (show¬(x.length:Int)<=8 by omega)];rfl
   .simp only[dF0 h1,dF0 (show¬(1:Int)<=(x.length:Int) by omega)];rfl
  have hc:dB (iW 0) bG jF (KE 1 [] [some (.str x)]) [] (x.map λc=>.str [c]) S=.ok (x.map λc=>MV.bl (ZA c)) S:=by
   have:=lY (gf:=iW 0) (cf:=bG) (ef:=jF) (ρb:=KE 1 [] [some (.str x)]) (gs:=[]) (ds:=x.map λc=>MV.str [c]) (F:=λd=>match d with |.str [c]=>.bl (ZA c)|_=>.non) (AW S) λd hd=>by obtain⟨c,hc,rfl⟩:=mM0.mp hd;refine⟨[some (.str [c])],rfl,rfl,?_⟩;unfold jF ZA;simp? [SY,le_str,le_a,le_z];cases decide (97<=c)<;>rfl
   rw[this,List.map_map];rfl
  have e2:mH [some (.str x)] S=.ok (.ret (.val (.bl (x.all ZA)))) S:=by unfold mH;simp? [pD];show(((((if(x.map λc=>MV.str [c]).length<1000000 then(dB (iW 0) bG jF (KE 1 [] [some (.str x)]) [] (x.map λc=>.str [c]) S).bind λo S=>R.ok (Er.new o) S else .no).bind λp S1=>R.ok [p] S1).bind LP).bind λr S1=>R.ok (Fl.ret r) S1))=_;rw[iP (by rw[lM0];omega),hc,pD,pD,pD,GW];rfl
  show yA (tH [some (.str x)] S)=.ok (.val (.bl (ZC x))) S;unfold tH ZC
  cases h8:decide (1<=x.length)&&decide (x.length<=8)with
  |true=>
   rw[h8,iP rfl]at e1;rw[zF e1,e2];rfl
  |false=>
   rw[h8,iN0 xF0]at e1;rw[wG e1];rfl
 .exact yR rfl rfl
 .exact yR rfl rfl
 .exact yR rfl rfl
def EQ:MV->Bool
 |.int i=>decide (-(10 ^ 30)<i)&&decide (i<10 ^ 30)
 |.str x=>ZC x
 |_=>false
def Cf{d:MV}:EQ d=true↔Vl d:=by
 cases d with
 |int i=>simp[EQ,Vl]
 |str x=>exact Ce
 |_=>exact⟨λz=>absurd z xF0,λz=>z.elim⟩
theorem PP{d:MV}(h:pq d=true)(S:Sto):zR 1 gU [.val d] S=.ok (.val (.bl (EQ d))) S:=by
 refine yR rfl ?_;have e2:fQ [some d] S=.ok (.ret (.val (.bl (nmD d)))) S:=by unfold fQ;simp? [Im h]
 show yA (qB [some d] S)=_;unfold qB
 cases hi:Mz d with
 |false=>
  have e1:hX [some d] S=.ok (.next [some d]) S:=by unfold hX;simp? [vH h,hi,fT,iF]
  rw[zF e1,e2];cases d<;>first |rfl|cases hi
 |true=>
  obtain⟨i,rfl⟩: ∃i,d=.int i:=by cases d<;>first |exact⟨_,rfl⟩|cases hi
  have habs:Be [.val (.int i)] S=.ok (.val (.int (if i<0 then -i else i))) S:=rfl
  have hlt:decide ((if i<0 then -i else i)<(10:Int) ^ 30)=EQ (.int i):=by
   show _=(decide (-(10 ^ 30)<i)&&decide (i<10 ^ 30))
   rw[<-Bool.decide_and];exact decide_eq_decide.mpr (by split<;>omega)
  rw[wG (show hX [some (.int i)] S=.ok (.ret (.val (.bl (EQ (.int i))))) S by unfold hX;simp? [mZ,habs,PF,lt_int,hlt])];rfl
def ML(a b:Int):MV->Bool
 |.tup ds=>decide (a<=ds.length)&&decide ((ds.length:Int)<=b)
 |_=>false
def kW{d:MV}(h:pq d=true)(a b:Int)(S:Sto):zR 3 yQ [.val d,.val (.int a),.val (.int b)] S=.ok (.val (.bl (ML a b d))) S:=by
 rcases jH h with⟨i,rfl⟩|⟨x,rfl,_⟩|⟨k,rfl⟩|rfl|⟨ds,rfl,_⟩
 .exact yR rfl rfl
 .exact yR rfl rfl
 .exact yR rfl rfl
 .exact yR rfl rfl
 .exact Cb ds a b S
def inB(b:Int):MV->Bool
 |.int i=>decide (0<=i)&&decide (i<b)
 |_=>false
def oY{d:MV}(h:pq d=true)(b:Int)(S:Sto):zR 2 zO [.val d,.val (.int b)] S=.ok (.val (.bl (inB b d))) S:=by
 cases hi:Mz d with
 |false=>
  have e:inB b d=false:=by cases d<;>first |rfl|cases hi
  rw[e];refine yR rfl ?_;show yA (xU [some d,some (.int b)] S)=_;unfold xU jB;simp? [vH h,hi,fH];rfl
 |true=>
  obtain⟨i,rfl⟩: ∃i,d=.int i:=by cases d<;>first |exact⟨_,rfl⟩|cases hi
  exact PH i b S
def pr:MV->Option (MV×MV)
 |.tup [a,b]=>some (a,b)
 |_=>none
def JE{d a b:MV}(h:pr d=some (a,b)):d=.tup [a,b]:=by
 unfold pr at h;split at h
 .cases h;rfl
 .cases h
theorem Dv{d:MV}:ML 2 2 d=(pr d).isSome:=by
 cases d with
 |tup ds=>
  match ds with
  |[]=>rfl
  |[_]=>rfl
  |[_,_]=>rfl
  |_::_::_::r=>
   show(decide ((2:Int)<=((r.length+3:Nat):Int))&&decide (((r.length+3:Nat):Int)<=2))=false;rw[dF0 (show¬(((r.length+3:Nat):Int)<=2) by omega),Bool.and_false]
 |_=>rfl
def Dw{d a b:MV}(h:pq d=true)(e:pr d=some (a,b)):pq a=true/\pq b=true:=by rw[JE e,GV,sH,sH,aE,aE,aE]at h;exact⟨h.1.1,h.1.2.1⟩
def pE:MV->Option (List MV)
 |.tup ds=>some ds
 |_=>none
theorem JF(a b:MV)(S:Sto):xS (.val (.tup [a,b])) (.val (.int 0)) S=.ok (.val a) S:=rfl
theorem SI(a b:MV)(S:Sto):xS (.val (.tup [a,b])) (.val (.int 1)) S=.ok (.val b) S:=rfl
def aP(S:Sto)(o:MO):(S++[o])[S.length]? =some o:=by simp
def XN(S:Sto)(o o':MO):(S++[o]).set S.length o'=S++[o']:=by simp
theorem PQ(ds:Og)(S:Sto):Ld (.val (.tup ds)) S=.ok ⟨ds,[]⟩ S:=rfl
def GX{b:MV}{ds:Og}(h:pE b=some ds):b=.tup ds:=by cases b<;>first |(cases h;rfl)|cases h
def JG{a b:Int}{d:MV}(h:pE d=none):ML a b d=false:=by cases d<;>first |rfl|cases h
theorem ge_int(i j:Int)(S:Sto):geF (.val (.int i)) (.val (.int j)) S=.ok (.val (.bl (decide (j<=i)))) S:=rfl
def SqM.itE{S:Sto}{m:MV}{ds:Og}(h:SqM S m ds): ∃gs,stay gs S/\itE [.val m] S=.ok ⟨FZ ds,gs⟩ S:=by
 rcases h with rfl|⟨l,rfl,hS⟩
 .exact⟨[],AW _,rfl⟩
 .refine⟨[(l,ds)],WI hS,?_⟩;have e:srcOf S (.val (.loc l))=some ⟨true,ds,[(l,ds)]⟩:=by unfold srcOf;dsimp only;rw[hS]
  unfold L2.M.itE;dsimp only;rw[e]
theorem PR{gf:MV->Rho->Sto->R Rho}{b:AY}{gs:Oj}{d:MV}{ds:Og}{ρ ρ0:Rho}{S S0 S':Sto}{c:Str}{fs:List (Str×MV)}(hg:gf d ρ S=.ok ρ0 S0)(h:b ρ0 S0=.exc c fs S'):eT gf b gs (d::ds) ρ S=.exc c fs S':=by unfold eT;rw[hg,pD,h];rfl
theorem cS{F G:AY}{ρ:Rho}{S S':Sto}{c:Str}{fs:List (Str×MV)}(h:F ρ S=.exc c fs S'):zZ F G ρ S=.exc c fs S':=by unfold zZ;rw[h];rfl
def SJ(a b c d:MV)(S:Sto):jA [.val a,.val b,.val c,.val d] S=.ok (.new [a,b,c,d]) S:=sZ (by simp)
def Io(S:Sto):zY [] S=.ok (.val (.tup [])) S:=BA (by simp)
def Td(n:Nat)(d:MV):Prop:=pq d=true/\jO d<=n
def Td.lo{n:Nat}{d:MV}(h:Td n d)(k:Nat):lo k d:=PN (n+1) (Nat.lt_succ_of_le h.2) h.1
theorem at0{α:Type}(d:α)(r:List α):lE (d::r) 0=some d:=by unfold lE HS;rw[iP (Int.le_refl 0),iP (by rw[lC0];omega)];rfl
theorem PV(ds:Og)(l h:Ob)(S:Sto):VT (.val (.tup ds)) l h S=.ok (.val (.tup (qZ ds l h))) S:=rfl
theorem oZ(ns:Nb)(k:Int)(hk:0<=k)(S:Sto): ∃c,zR 2 zU [.val (.scr (ns.map MV.int)),.val (.int k)] S=.ok (.val (.int c)) S:=by
 have hlen:cP [.val (.scr (ns.map MV.int))] S=.ok (.val (.int ns.length)) S:=by show R.ok (Er.val (.int (((ns.map MV.int).length:Nat):Int))) S=_;rw[lM0]
 have e1:gW [some (.scr (ns.map MV.int)),some (.int k)] S=if decide (k<ns.length)=true then(xS (.val (.scr (ns.map MV.int))) (.val (.int k)) S).bind λr S1=>.ok (.ret r) S1 else .ok (.next [some (.scr (ns.map MV.int)),some (.int k)]) S:=by unfold gW;simp? [hlen,lt_int]
 have fin: ∀c,zU [.scr (ns.map MV.int),.int k] S=.ok (.val (.int c)) S-> ∃c,zR 2 zU [.val (.scr (ns.map MV.int)),.val (.int k)] S=.ok (.val (.int c)) S:=λc h=>⟨c,oU rfl h (AU _ _) (λl=>by simp)⟩
 have hs:zT ["_law_script","_law_k"] [.scr (ns.map MV.int),.int k]=[some (.scr (ns.map MV.int)),some (.int k)]:=rfl;by_cases hlt:k<ns.length
 .obtain⟨d,hd⟩:=FX (xs:=ns.map MV.int) (i:=k) hk (by rw[lM0];exact hlt);obtain⟨c,rfl⟩: ∃c,d=.int c:=FY (P:=λd=> ∃c,d=.int c) (λe he=>by obtain⟨c,_,rfl⟩:=mM0.mp he;exact⟨c,rfl⟩) hd;have hix:xS (.val (.scr (ns.map MV.int))) (.val (.int k)) S=.ok (.val (.int c)) S:=by show(match lE (ns.map MV.int) k with |some d=>R.ok (Er.val d) S|none=>.no)=_;rw[hd]
  refine fin c ?_;rw[dT0 hlt,iP rfl,hix,pD]at e1;unfold zU dS;rw[hs,wG e1];rfl
 .refine fin 0 ?_;rw[dF0 hlt,iN0 xF0]at e1;unfold zU dS;rw[hs,zF e1];rfl
def qG{B L:Sto}{n i:Nat}(h:B.length=n):(B++L)[n+i]? =L[i]? :=by rw[getElem?_append_right (by omega),h,Nat.add_sub_cancel_left]
def nH{B L:Sto}{m:Nat}{o:MO}(h:B[m]? =some o):(B++L)[m]? =some o:=by rw[getElem?_append_left (gS.mp h).1];exact h
theorem Ip{ts:Na}{t:Nat}{p:Int×Int}(h:ts[t]? =some p):lE (ts.map tbl) (t:Int)=some (tbl p):=by have hl:t<ts.length:=(gS.mp h).1;unfold lE HS;rw[iP (by omega),iP (by rw[lM0];omega)];show(ts.map tbl)[(t:Int).toNat]? =_;rw[Int.toNat_natCast,getElem?_map,h];rfl
def sIs:List Nat:=[105,115]
def ER:List Nat:=[99,101,108,108]
def Dx(ts:Na)(t:Nat):Int:=((ts[t]?).map (·.1)).getD 0
theorem Iq{ts:Na}{t:Nat}{p:Int×Int}(h:ts[t]? =some p):Dx ts t=p.1:=by unfold Dx;rw[h];rfl
abbrev D5(l:Nat)(th tb:MV)(lp:Nat)(x4:Oh):Rho:=[some (.loc l),some th,some tb,some (.loc lp),x4]
def words3:List (List Nat):=[[115,97,109,101],[117,110,108,105,107,101],[108,101,115,115]]
def SK(a:MV)(S:Sto):zY [.val a] S=.ok (.val (.tup [a])) S:=BA (by simp)
def Ir(a b c d:MV)(S:Sto):zY [.val a,.val b,.val c,.val d] S=.ok (.val (.tup [a,b,c,d])) S:=BA (by simp)
def Mc{d:MV}(y:Db)(h:pq d=true)(S:Sto):TC (.val d) (.val (.str y)) S=.ok (.val (.bl (!decide (d=.str y)))) S:=LU (XH _ y h)
def GY{ds:Og}(h:pq (.tup ds)=true): ∀e∈ds,pq e=true:=by
 rcases jH h with⟨_,z⟩|⟨_,z,_⟩|⟨_,z⟩|z|⟨es,z,htm,_⟩
 .cases z
 .cases z
 .cases z
 .cases z
 .cases z;exact htm
def Md{ds:Og}(h:pq (.tup ds)=true):ds.length<=1000:=by
 rcases jH h with⟨_,z⟩|⟨_,z,_⟩|⟨_,z⟩|z|⟨es,z,_,hl⟩
 .cases z
 .cases z
 .cases z
 .cases z
 .cases z;exact hl
theorem Me(a b c:MV)(S:Sto):xS (.val (.tup [a,b,c])) (.val (.int 0)) S=.ok (.val a) S:=rfl
theorem Cg(a b c:MV)(S:Sto):xS (.val (.tup [a,b,c])) (.val (.int 1)) S=.ok (.val b) S:=rfl
theorem Ci(a b c:MV)(S:Sto):xS (.val (.tup [a,b,c])) (.val (.int 2)) S=.ok (.val c) S:=rfl
def XO{b:Int}{d:MV}(h:inB b d=true): ∃k:Nat,d=.int (k:Nat)/\(k:Int)<b:=by
 cases d with
 |int i=>
  have h':0<=i/\i<b:=by simpa [inB]using h
  exact⟨i.toNat,by rw[Int.toNat_of_nonneg h'.1],by rw[Int.toNat_of_nonneg h'.1];exact h'.2⟩
 |_=>cases h
def Jp(ws:Nb):MV->Int
 |.int k=>(ws[k.toNat]?).getD 0
 |_=>0
def Dy(ws:Nb):MV->Bool
 |.tup [a,b]=>decide (a=.str sIs)&&EQ b
 |.tup [a,b,c]=>decide (a=.str ER)&&(inB ws.length b&&inB (Jp ws b) c)
 |_=>false
theorem Cj{ws:Nb}{k:Nat}(h:k<ws.length):lE (ws.map MV.int) (k:Int)=some (.int (Jp ws (.int (k:Nat)))):=by unfold lE HS;rw[iP (by omega),iP (by rw[lM0];omega)];show(ws.map MV.int)[(k:Int).toNat]? =some (.int (((ws[(k:Int).toNat]?)).getD 0));rw[Int.toNat_natCast,getElem?_map,gE h];rfl
theorem GZ{a b:Int}(ds:Og):ML a b (.tup ds)=(decide (a<=(ds.length:Int))&&decide ((ds.length:Int)<=b)):=rfl
section
variable{ws:Nb}{m d:MV}{S:Sto}
def iD(h:pq d=true)(h2:ML 2 2 d=false)(h3:ML 3 3 d=false):cX [some d,some m] S=.ok (.ret (.val (.bl false))) S:=by
 have e1:kL [some d,some m] S=.ok (.next [some d,some m]) S:=by unfold kL;simp? [kW h,h2,fT,iF]
 have e2:bO [some d,some m] S=.ok (.ret (.val (.bl false))) S:=by unfold bO;simp? [kW h,h3,Bool.not_false]
 unfold cX;rw[zF e1,wG e2]
theorem XQ(hm:SqM S m (ws.map MV.int))(h:pq d=true):zR 2 eY [.val d,.val m] S=.ok (.val (.bl (Dy ws d))) S:=by
 refine yR rfl ?_;show yA (cX [some d,some m] S)=_
 match d,h with
 |.int i,h=>rw[iD h rfl rfl];rfl
 |.str i,h=>rw[iD h rfl rfl];rfl
 |.bl i,h=>rw[iD h rfl rfl];rfl
 |.non,h=>rw[iD h rfl rfl];rfl
 |.loc i,h=>exact absurd rfl (JD h i)
 |.typ i,h=>simp[pq]at h
 |.scr i,h=>simp[pq]at h
 |.tup [],h=>rw[iD h rfl rfl];rfl
 |.tup [a],h=>rw[iD h rfl rfl];rfl
 |.tup [a,b],h=>
  have ha:=GY h a (by simp);have hb:=GY h b (by simp);have e1:kL [some (.tup [a,b]),some m] S=.ok (.ret (.val (.bl (Dy ws (.tup [a,b]))))) S:=by unfold kL;simp? [kW h,show ML 2 2 (.tup [a,b])=true from rfl,JF,SI,Du _ ha,fH,PP hb];show _=R.ok (Fl.ret (.val (.bl (decide (a=.str [105,115])&&EQ b)))) S;cases decide (a=MV.str [105,115])<;>rfl
  unfold cX;rw[wG e1];rfl
 |.tup [a,b,c],h=>
  have ha:=GY h a (by simp);have hb:=GY h b (by simp);have hc:=GY h c (by simp);have e1:kL [some (.tup [a,b,c]),some m] S=.ok (.next [some (.tup [a,b,c]),some m]) S:=by unfold kL;simp? [kW h,show ML 2 2 (.tup [a,b,c])=false from rfl,fT,iF]
  have e2:bO [some (.tup [a,b,c]),some m] S=if decide (a=.str ER)=true then .ok (.next [some (.tup [a,b,c]),some m]) S else .ok (.ret (.val (.bl false))) S:=by unfold bO;simp? [kW h,show ML 3 3 (.tup [a,b,c])=true from rfl,Bool.not_true,fT,iF,Me,Mc _ ha];show _=if decide (a=.str [99,101,108,108])=true then _ else _;cases decide (a=MV.str [99,101,108,108])<;>rfl
  unfold cX;rw[zF e1]
  cases hk:decide (a=MV.str ER)with
  |false=>
   rw[hk,iN0 xF0]at e2;rw[wG e2];show R.ok (Er.val (.bl false)) S=R.ok (Er.val (.bl (decide (a=.str ER)&&(inB ws.length b&&inB (Jp ws b) c)))) S;rw[hk];rfl
  |true=>
   rw[hk,iP rfl]at e2;rw[zF e2]
   have e3:mI [some (.tup [a,b,c]),some m] S=.ok (.ret (.val (.bl (inB ws.length b&&inB (Jp ws b) c)))) S:=by
    unfold mI;have hl:cP [.val m] S=.ok (.val (.int ws.length)) S:=by have:=hm.len;rwa [lM0]at this
    simp? [Cg,Ci,hl,oY hb,fH]
    cases hB:inB ws.length b with
    |false=>rfl
    |true=>
     obtain⟨k,rfl,hk2⟩:=XO hB;simp? [hm.ix (Cj (Int.ofNat_lt.mp hk2)),oY hc];rfl
   rw[e3];show R.ok (Er.val (.bl _)) S=R.ok (Er.val (.bl (decide (a=.str ER)&&(inB ws.length b&&inB (Jp ws b) c)))) S;rw[hk];rfl
 |.tup (a::b::c::e::r),h=>
  rw[iD h (by rw[GZ];simp;omega) (by rw[GZ];simp;omega)];rfl
end
def Mf(ws:Nb):MV->Bool
 |.tup [a,b,c]=>Dy ws a&&(decide (b∈words3.map MV.str)&&Dy ws c)
 |_=>false
def MM(ws:Nb)(d:MV):Bool:=ML 1 3 d&&(match pE d with |some qs=>qs.all (Mf ws)|none=>false)
section
variable{ws:Nb}{m d:MV}{S:Sto}
def aQ(h:pq d=true)(h3:ML 3 3 d=false):eZ [some d,some m] S=.ok (.ret (.val (.bl false))) S:=by
 have e1:bP [some d,some m] S=.ok (.ret (.val (.bl false))) S:=by unfold bP;simp? [kW h,h3,Bool.not_false]
 unfold eZ;rw[wG e1]
theorem Iu(hm:SqM S m (ws.map MV.int))(h:pq d=true):zR 2 oX [.val d,.val m] S=.ok (.val (.bl (Mf ws d))) S:=by
 refine yR rfl ?_;show yA (eZ [some d,some m] S)=_
 match d,h with
 |.int i,h=>rw[aQ h rfl];rfl
 |.str i,h=>rw[aQ h rfl];rfl
 |.bl i,h=>rw[aQ h rfl];rfl
 |.non,h=>rw[aQ h rfl];rfl
 |.loc i,h=>exact absurd rfl (JD h i)
 |.typ i,h=>simp[pq]at h
 |.scr i,h=>simp[pq]at h
 |.tup [],h=>rw[aQ h rfl];rfl
 |.tup [a],h=>rw[aQ h rfl];rfl
 |.tup [a,b],h=>rw[aQ h rfl];rfl
 |.tup (a::b::c::e::r),h=>
  rw[aQ h (by rw[GZ];simp;omega)];rfl
 |.tup [a,b,c],h=>
  have ha:=GY h a (by simp);have hb:=GY h b (by simp);have hc:=GY h c (by simp);have e1:bP [some (.tup [a,b,c]),some m] S=.ok (.next [some (.tup [a,b,c]),some m]) S:=by unfold bP;simp? [kW h,show ML 3 3 (.tup [a,b,c])=true from rfl,Bool.not_true,fT,iF]
  have hw:IP false (.val b) (.val (.tup [.str [115,97,109,101],.str [117,110,108,105,107,101],.str [108,101,115,115]])) S=.ok (.val (.bl (decide (b∈words3.map MV.str)))) S:=by have:=Mb (S:=S) (q:=.val (.tup (words3.map MV.str))) (ys:=words3) false hb rfl (λy hy=>by cases hy);rw[iN0 xF0]at this;exact this
  have e2:mK [some (.tup [a,b,c]),some m] S=.ok (.ret (.val (.bl (Dy ws a&&(decide (b∈words3.map MV.str)&&Dy ws c))))) S:=by
   unfold mK;simp? [Me,Cg,Ci,XQ hm ha,fH]
   cases Dy ws a with
   |false=>rfl
   |true=>
    simp? [hw]
    cases decide (b∈words3.map MV.str)with
    |false=>rfl
    |true=>
     simp? [XQ hm hc];rfl
  unfold eZ;rw[zF e1,e2];rfl
theorem Mg(hm:SqM S m (ws.map MV.int))(h:pq d=true):bQ [d,m] S=.ok (.val (.bl (MM ws d))) S:=by
 show yA (mL [some d,some m] S)=_;unfold mL pM MM
 cases ht:pE d with
 |none=>
  simp? [kW h,JG ht,fH];rfl
 |some qs=>
  have hd:=GX ht;subst hd;have hp:=GY h;have hlen:=Md h;have hc:dB (iW 0) iR bX [none,some m] [] qs S=.ok (qs.map λq=>MV.bl (Mf ws q)) S:=lY (F:=λq=>.bl (Mf ws q)) (AW S) λq hq=>⟨[some q,some m],rfl,rfl,by unfold bX;simp? [Iu hm (hp q hq)]⟩
  have hlt:qs.length<1000000:=by omega
  simp? [kW h,fH]
  cases ML 1 3 (.tup qs)with
  |false=>rfl
  |true=>
   simp? [PQ,hlt,show KE 1 [1] [some (.tup qs),some m]=[none,some m]from rfl,hc,GW,Bool.true_and];rfl
def Iv(h:pq d=true)(S:Sto):zR 2 bQ [.val d,.new (ws.map MV.int)] S=.ok (.val (.bl (MM ws d))) S:=by have hf:=Mg (ws:=ws) (m:=.loc S.length) (S:=S++[.lst (ws.map MV.int)]) (.inr ⟨S.length,rfl,by simp⟩) h;refine rM (T:=[.lst (ws.map MV.int)]) rfl ?_ (EH _ _) (λl=>by simp);rw[show zM [.val d,.new (ws.map MV.int)] S=([d,.loc S.length],S++[.lst (ws.map MV.int)])from rfl];exact hf
end
def tW(ts:Na):MV->Int
 |.int t=>Dx ts t.toNat
 |_=>0
def Iw(ts:Na):List MV->Bool
 |[a,b]=>inB ts.length a&&MM [tW ts a] b
 |_=>false
section
variable{ts:Na}{m:MV}{S:Sto}{w:Db}{ds:Og}
def Mh(hm:SqM S m (ts.map tbl)){t:Nat}(ht:t<ts.length): ∃e,xS (.val m) (.val (.int (t:Nat))) S=.ok (.val e) S/\xS (.val e) (.val (.int 0)) S=.ok (.val (.int (Dx ts t))) S:=by have hgt:ts[t]? =some ts[t]:=gE ht;exact⟨tbl ts[t],hm.ix (Ip hgt),by rw[Iq hgt];rfl⟩
def Iy(hm:SqM S m (ts.map tbl)):cP [.val m] S=.ok (.val (.int ts.length)) S:=by rw[hm.len,lM0]
def Iz(t:Nat):tW ts (.int (t:Nat))=Dx ts t:=by show Dx ts ((t:Int).toNat)=Dx ts t;rw[Int.toNat_natCast]
def Mi(hm:SqM S m (ts.map tbl)){a:MV}(h:inB ts.length a=true): ∃e,xS (.val m) (.val a) S=.ok (.val e) S/\xS (.val e) (.val (.int 0)) S=.ok (.val (.int (tW ts a))) S:=by obtain⟨k,rfl,hk⟩:=XO h;rw[Iz];exact Mh hm (Int.ofNat_lt.mp hk)
def BP(hl:ds.length≠2):dI [some (.tup (.str w::ds)),some m] S=.ok (.ret (.val (.bl false))) S:=by
 have e1:hZ [some (.tup (.str w::ds)),some m] S=.ok (.ret (.val (.bl false))) S:=by unfold hZ;simp? [GS,ne_int,dF0 (show¬(((MV.str w::ds).length:Nat):Int)=3 by rw[lC0];omega),Bool.not_false]
 unfold dI;rw[wG e1]
theorem Ck(hm:SqM S m (ts.map tbl))(h: ∀d∈ds,pq d=true):zR 2 fW [.val (.tup (.str w::ds)),.val m] S=.ok (.val (.bl (Iw ts ds))) S:=by
 refine yR rfl ?_;show yA (dI [some (.tup (.str w::ds)),some m] S)=_
 match ds,h with
 |[],h=>rw[BP (by decide)];rfl
 |[a],h=>rw[BP (by simp)];rfl
 |a::b::c::r,h=>rw[BP (by simp)];rfl
 |[a,b],h=>
  have ha:=h a (by simp);have hb:=h b (by simp);have e1:hZ [some (.tup [.str w,a,b]),some m] S=if inB ts.length a=true then .ok (.next [some (.tup [.str w,a,b]),some m]) S else .ok (.ret (.val (.bl false))) S:=by unfold hZ;simp? [show cP [.val (.tup [.str w,a,b])] S=.ok (.val (.int 3)) S from rfl,ne_int,show decide ((3:Int)=3)=true from rfl,Bool.not_true,fT,iF,Cg,Iy hm,oY ha];cases inB ts.length a<;>rfl
  unfold dI;show yA _=R.ok (Er.val (.bl (inB ts.length a&&MM [tW ts a] b))) S
  cases hB:inB ts.length a with
  |false=>
   rw[hB,iN0 xF0]at e1;rw[wG e1];rfl
  |true=>
   rw[hB,iP rfl]at e1;rw[zF e1];obtain⟨e,ix1,ix2⟩:=Mi hm hB;have hc:=Iv (ws:=[tW ts a]) hb S;rw[show([tW ts a]:Nb).map MV.int=[.int (tW ts a)]from rfl]at hc;have e2:fV [some (.tup [.str w,a,b]),some m] S=.ok (.ret (.val (.bl (MM [tW ts a] b)))) S:=by unfold fV;simp? [Ci,Cg,ix1,ix2];rw[hc];rfl
   rw[e2];rfl
end
def Mj:MV->MV->Bool
 |.int w,b=>decide (1<=w)&&decide (w<=4)&&inB (w+1) b
 |_,_=>false
def DA(d:MV):Bool:=match pr d with
 |some (a,b)=>Mj a b
 |none=>false
theorem Cm{d:MV}(h:pq d=true)(S:Sto):zR 1 fU [.val d] S=.ok (.val (.bl (DA d))) S:=by
 refine yR rfl ?_;show yA (qD [some d,none] S)=_;unfold qD DA;have jt:=kW h 2 2 S;rw[Dv]at jt
 cases hp:pr d with
 |none=>
  rw[hp]at jt;have e1:wQ [some d,none] S=.ok (.ret (.val (.bl false))) S:=by unfold wQ;simp? [jt,Option.isSome_none,Bool.not_false]
  rw[wG e1];rfl
 |some ab=>
  obtain⟨a,b⟩:=ab;rw[hp]at jt;obtain⟨ha,hb⟩:=Dw h hp;have hd:=JE hp;subst hd;dsimp only
  cases hi:Mz a with
  |false=>
   have e1:wQ [some (.tup [a,b]),none] S=.ok (.ret (.val (.bl false))) S:=by unfold wQ;simp? [jt,Option.isSome_some,Bool.not_true,fT,iF,JF,vH ha,hi,Bool.not_false]
   rw[wG e1,show Mj a b=false by cases a<;>first |rfl|cases hi];rfl
  |true=>
   obtain⟨w,rfl⟩: ∃w,a=.int w:=by cases a<;>first |exact⟨_,rfl⟩|cases hi
   have e1:wQ [some (.tup [.int w,b]),none] S=.ok (.next [some (.tup [.int w,b]),none]) S:=by unfold wQ;simp? [jt,Option.isSome_some,Bool.not_true,fT,iF,JF,vH ha,hi]
   have e2:fR [some (.tup [.int w,b]),none] S=.ok (.next [some (.tup [.int w,b]),some (.int w)]) S:=by unfold fR;simp? [JF]
   have e3:fS [some (.tup [.int w,b]),some (.int w)] S=.ok (.ret (.val (.bl (Mj (.int w) b)))) S:=by
    show _=R.ok (Fl.ret (.val (.bl (decide (1<=w)&&decide (w<=4)&&inB (w+1) b)))) S;unfold fS;simp? [SI,SY,le_int,oY hb,fH]
    cases decide (1<=w)with
    |false=>rfl
    |true=>cases decide (w<=4)<;>rfl
   rw[zF e1,zF e2,e3];rfl
def MN(p:MV->Bool):List MV->Nat->Option Nat
 |[],_=>none
 |d::ds,n=>if p d=true then MN p ds (n+1)else some n
abbrev NQ(k:Nat):List (Str×MV):=[("place",.int (k:Nat))]
def JH{c:Str}{k:Nat}(h:k<=1000000)(S:Sto):Ds c "place" (.val (.int (k:Nat))) S=.exc c (NQ k) S:=iP (show(k:Int).natAbs<Bv from Nat.lt_of_le_of_lt (by omega:(k:Int).natAbs<=1000000) (by decide+kernel))
def PX{n:Nat}{F:List MV->Sto->R Er}{rs:List Er}{S T:Sto}(hn:rs.length=n)(hF:F (zM rs S).1 (zM rs S).2=.ok (.val .non) (S++T)):xE n F rs S=.ok (.val .non) S:=by unfold xE;rw[iP hn,hF];exact lX (AV _) (λl=>by simp)
theorem XR{n:Nat}{F:List MV->Sto->R Er}{rs:List Er}{S T:Sto}{c:Str}{k:Nat}(hn:rs.length=n)(hF:F (zM rs S).1 (zM rs S).2=.exc c (NQ k) (S++T)):xE n F rs S=.exc c (NQ k) S:=by unfold xE;rw[iP hn,hF];show(if(NQ k).all (λp=>fO p.2)=true then(dC S (.val .non) (S++T)).bind λ_ S3=>R.exc c (NQ k) S3 else .no)=_;rw[iP (show(NQ k).all (λp=>fO p.2)=true from rfl),lX (AV _) (λl=>by simp)];rfl
section
variable{a b:MV}{S:Sto}
def Co{c:MV}{as bs cs:Og}(ha:SqM S a as)(hb:SqM S b bs)(hc:SqM S c cs)(h1:as.length<=4)(h2:bs.length<=6)(h3:cs.length<=60):xE 3 wD [.val a,.val b,.val c] S=.ok (.val .non) S:=PX (T:=[]) rfl (by show yA (wC [some a,some b,some c] S)=_;unfold wC jM;simp? [ha.len,hb.len,hc.len,gt_int,dF0 (show¬(4:Int)<as.length by omega),dF0 (show¬(6:Int)<bs.length by omega),dF0 (show¬(60:Int)<cs.length by omega),fT,iF,aN];rfl)
end
section
variable{m:MV}{S:Sto}
theorem XS{gs:Oj}(hg:stay gs S): ∀(L:Og)(n:Nat),(∀d∈L,pq d=true)->n+L.length<=1000000-> ∀(p q:Oh), ∃p' q',eT (YY 2 (kI (iW 1) (kI (iW 2) rD))) xK gs ((L.zipIdx n).map λp=>.tup [.int (p.2:Nat),p.1]) [some m,p,q] S=
   match MN DA L n with
   |none=>.ok (.next [some m,p',q']) S
   |some k=>.exc "NoTable" (NQ k) S
 |[],n,_,_,p,q=>⟨p,q,rfl⟩
 |d::L,n,hL,hn,p,q=>by
  rw[lC0]at hn;obtain⟨p',q',ih⟩:=XS hg L (n+1) (λe he=>hL e (mO _ he)) (by omega) (some (.int (n:Nat))) (some d);refine⟨p',q',?_⟩;have ja:=Cm (hL d mF0) S;have g:YY 2 (kI (iW 1) (kI (iW 2) rD)) (.tup [.int (n:Nat),d]) [some m,p,q] S=.ok [some m,some (.int (n:Nat)),some d] S:=rfl;rw[List.zipIdx_cons,List.map_cons];unfold MN
  cases hd:DA d with
  |true=>
   rw[hd]at ja;rw[iP rfl,rN g (ρ':=[some m,some (.int (n:Nat)),some d]) (S':=S) ?_ hg]
   .exact ih
   .unfold xK jT;simp? [ja,Bool.not_true,fT,iF]
  |false=>
   rw[hd]at ja;rw[iN0 xF0];refine PR g ?_;unfold xK jT;simp? [ja,Bool.not_false,JH (show n<=1000000 by omega)]
end
def pO(ts:Og):Option Nat:=if ts.length=0 then some 0 else MN DA ts 0
section
variable{ts:Og}{m:MV}{S:Sto}
theorem JI(hm:SqM S m ts)(hA: ∀d∈ts,pq d=true)(hl:ts.length<=1000):xE 1 gA [.val m] S=match pO ts with
   |none=>.ok (.val .non) S
   |some k=>.exc "NoTable" (NQ k) S:=by
 obtain⟨gs,hg,hit⟩:=hm.itE;obtain⟨p',q',hlp⟩:=XS (m:=m) hg ts 0 hA (by omega) none none;unfold pO;by_cases h0:ts.length=0
 .rw[iP h0];refine XR (T:=[]) rfl ?_;show yA (xP [some m,none,none] S)=_;unfold xP;rw[cS (show wI [some m,none,none] S=.exc "NoTable" (NQ 0) S by unfold wI;simp? [hm.len,dT0 (show(ts.length:Int)=0 by omega)];exact JH (k:=0) (by omega) S),aN];rfl
 .rw[iN0 h0];have e1:wI [some m,none,none] S=.ok (.next [some m,none,none]) S:=by unfold wI;simp? [hm.len,dF0 (show¬(ts.length:Int)=0 by omega),fT,iF]
  have e2:gV [some m,none,none] S=eT (YY 2 (kI (iW 1) (kI (iW 2) rD))) xK gs (FZ ts) [some m,none,none] S:=by unfold gV;simp? [hit]
  rw[show eT (YY 2 (kI (iW 1) (kI (iW 2) rD))) xK gs (FZ ts) [some m,none,none] S=_ from hlp]at e2
  cases hb:MN DA ts 0 with
  |none=>
   rw[hb]at e2;refine PX (T:=[]) rfl ?_;show yA (xP [some m,none,none] S)=_;unfold xP;rw[zF e1,e2,aN];rfl
  |some k=>
   rw[hb]at e2;refine XR (T:=[]) rfl ?_;show yA (xP [some m,none,none] S)=_;unfold xP;rw[zF e1,e2,aN];rfl
end
theorem XU(i:Og)(S:Sto):RH (.val (.tup i)) (.val .non) S=.ok (.val (.bl false)) S:=rfl
def XX{S:Sto}{n:Nat}{c:Str}{fs:List (Str×MV)}(h:S[n]? =some (.ins c fs))(hc:c∈XNS)(c2:Str):iZ XNS c2 (.val (.loc n)) S=.ok (.val (.bl (decide (c=c2)))) S:=by unfold iZ;dsimp only;rw[h];dsimp only;rw[iP hc]
def XY{S:Sto}{n:Nat}{c:Str}{fs:List (Str×MV)}(h:S[n]? =some (.ins c fs))(hc:c∈XNS):RS XNS (.val (.loc n)) S=.ok (.val (.bl true)) S:=by unfold RS;dsimp only;rw[h];dsimp only;rw[iP hc]
theorem MP{S:Sto}{n k:Nat}{c:Str}(h:S[n]? =some (.ins c (NQ k)))(hc:c∈XNS):RX XNS "place" (.val (.loc n)) S=.ok (.val (.int (k:Nat))) S:=by unfold RX;dsimp only;rw[h];dsimp only;rw[iP hc];rfl
def XZ{n:Nat}{F:List MV->Sto->R Er}{rs:List Er}{S T:Sto}{l:Nat}{ds:Og}{as:Og}(hn:rs.length=n)(hE:zM rs S=(as,S))(hF:F as S=.ok (.val (.loc l)) (S++T))(h1:S.length<=l)(h2:(S++T)[l]? =some (.lst ds))(h:uQ S.length ds):zR n F rs S=.ok (.new ds) S:=by
 have hF':F (zM rs S).1 (zM rs S).2=.ok (.val (.loc l)) (S++T):=by rw[hE];exact hF
 exact WD hn hF' h1 h2 h
abbrev bq(c x:Str):MV:=.bl (decide (c=x))
abbrev K4(c:Str):List MV:=[bq c "TooGreat",bq c "NoTable",bq c "NoRule",bq c "NoRow"]
abbrev K8(c:Str):List MV:=[bq c "Twice",bq c "NoText",bq c "NoPlace",bq c "NotPlain"]
abbrev K12(c:Str):List MV:=[bq c "NoQuestion",bq c "Double",bq c "TooWide",bq c "Ring"]
abbrev KL(c:Str):List MV:=K4 c++K8 c++K12 c
def kinds_ok{S:Sto}{n:Nat}{c:Str}{fs:List (Str×MV)}(h:S[n]? =some (.ins c fs))(hc:c∈XNS):zR 1 wR [.val (.loc n)] S=.ok (.new (KL c)) S:=by
 have H: ∀(L:Sto)(c2:Str),iZ XNS c2 (.val (.loc n)) (S++L)=.ok (.val (.bl (decide (c=c2)))) (S++L):=λL c2=>XX (nH h) hc c2;have H0: ∀c2:Str,iZ XNS c2 (.val (.loc n)) S=.ok (.val (.bl (decide (c=c2)))) S:=λc2=>XX h hc c2;have l1: ∀a,(S++[a]).length=S.length+1:=λa=>by rw[lA];rfl
 have l2: ∀a b,(S++[a,b]).length=S.length+2:=λa b=>by rw[lA];rfl
 have e1:dU [some (.loc n),none] S=.ok (.next [some (.loc n),some (.loc S.length)]) (S++[.lst (K4 c)]):=by unfold dU;simp? [H0,SJ]
 have a2:jE (.val (.loc S.length)) (.new (K8 c)) (S++[.lst (K4 c)])=.ok (.new (K4 c++K8 c)) (S++[.lst (K4 c)]):=fM (rP (aP _ _)) rfl (fits (show 4+4<=1000000 by decide));have e2:dW [some (.loc n),some (.loc S.length)] (S++[.lst (K4 c)])=.ok (.next [some (.loc n),some (.loc (S.length+1))]) (S++[.lst (K4 c),.lst (K4 c++K8 c)]):=by unfold dW;simp? [H,SJ,a2,l1,aA];rfl
 have a3:jE (.val (.loc (S.length+1))) (.new (K12 c)) (S++[.lst (K4 c),.lst (K4 c++K8 c)])=.ok (.new (KL c)) (S++[.lst (K4 c),.lst (K4 c++K8 c)]):=fM (rP (XF _ _ _)) rfl (fits (show 8+4<=1000000 by decide));have e3:dY [some (.loc n),some (.loc (S.length+1))] (S++[.lst (K4 c),.lst (K4 c++K8 c)])=.ok (.next [some (.loc n),some (.loc (S.length+2))]) (S++[.lst (K4 c),.lst (K4 c++K8 c),.lst (KL c)]):=by unfold dY;simp? [H,SJ,a3,l2];rw[aA];rfl
 have e4: ∀T,mW [some (.loc n),some (.loc (S.length+2))] T=.ok (.ret (.val (.loc (S.length+2)))) T:=λT=>rfl;refine XZ (T:=[.lst (K4 c),.lst (K4 c++K8 c),.lst (KL c)]) (l:=S.length+2) (as:=[.loc n]) rfl rfl ?_ (by omega) (qG (i:=2) rfl) (sY λe he=>?_)
 .show yA (iC [some (.loc n),none] S)=_;unfold iC;rw[zF e1,zF e2,zF e3,e4];rfl
 .simp only[KL,K4,K8,K12,List.cons_append,List.nil_append,mC,nM,or_false]at he;rcases he with rfl|rfl|rfl|rfl|rfl|rfl|rfl|rfl|rfl|rfl|rfl|rfl<;>exact EH _ _
abbrev WL(w:Int):List MV:=(List.range 12).map λk=>.bl (decide (((k:Nat):Int)=w))
def Dz{d:MV}(h:DA d=true): ∃w k,d=.tup [.int w,.int k]/\1<=w/\w<=4/\0<=k/\k<=w:=by
 unfold DA at h
 cases hp:pr d with
 |none=>rw[hp]at h;cases h
 |some ab=>
  obtain⟨a,b⟩:=ab;rw[hp]at h;rw[JE hp]
  cases a with
  |int w=>
   have h:(decide (1<=w)&&decide (w<=4)&&inB (w+1) b)=true:=h;rw[aE,aE]at h
   cases b with
   |int k=>
    have z:(decide (0<=k)&&decide (k<w+1))=true:=h.2;rw[aE]at z;exact⟨w,k,rfl,of_decide_eq_true h.1.1,of_decide_eq_true h.1.2,of_decide_eq_true z.1,by have:=of_decide_eq_true z.2;omega⟩
   |_=>cases h.2
  |_=>cases h
def DB:MV->Int
 |.tup [.int w,_]=>w
 |_=>0
def SL(ts:Og)(t:Int)(b:MV):Bool:=if 0<=t/\t<ts.length then(match ts[t.toNat]?,pE b with
  |some p,some cs=>decide ((cs.length:Int)=DB p)&&cs.all EQ
  |_,_=>false)else false
def Cp(ts:Og):MV->MV->Bool
 |.int t,b=>SL ts t b
 |_,_=>false
def ES(ts:Og)(d:MV):Bool:=match pr d with
 |some (a,b)=>Cp ts a b
 |none=>false
def Ea{ts:Og}{t:Int}(h0:0<=t)(h1:t<ts.length): ∃p,ts[t.toNat]? =some p/\lE ts t=some p/\p∈ts:=by
 have hl:t.toNat<ts.length:=by omega
 refine⟨ts[t.toNat],gE hl,?_,getElem_mem hl⟩;unfold lE HS;rw[iP h0,iP h1];exact gE hl
theorem ix_w{p:MV}(h:DA p=true)(S:Sto):xS (.val p) (.val (.int 0)) S=.ok (.val (.int (DB p))) S:=by obtain⟨w,k,rfl,_⟩:=Dz h;rfl
section
variable{ts:Og}{m d:MV}{S:Sto}
theorem Eb(hT: ∀p∈ts,DA p=true)(hm:SqM S m ts)(h:pq d=true):zR 2 sC [.val d,.val m] S=.ok (.val (.bl (ES ts d))) S:=by
 refine yR rfl ?_;show yA (BF [some d,some m,none] S)=_;unfold BF ES;have jt:=kW h 2 2 S;rw[Dv]at jt
 cases hp:pr d with
 |none=>
  rw[hp]at jt;have e1:dL [some d,some m,none] S=.ok (.ret (.val (.bl false))) S:=by unfold dL;simp? [jt,Option.isSome_none,Bool.not_false]
  rw[wG e1];rfl
 |some ab=>
  obtain⟨a,b⟩:=ab;rw[hp]at jt;obtain⟨ha,hb⟩:=Dw h hp;have hd:=JE hp;subst hd;have e1:dL [some (.tup [a,b]),some m,none] S=if inB ts.length a=true then .ok (.next [some (.tup [a,b]),some m,none]) S else .ok (.ret (.val (.bl false))) S:=by unfold dL;simp? [jt,Option.isSome_some,Bool.not_true,fT,iF,JF,hm.len,oY ha];cases inB ts.length a<;>rfl
  cases hB:inB ts.length a with
  |false=>
   rw[hB,iN0 xF0]at e1;rw[wG e1]
   have:Cp ts a b=false:=by
    cases a with
    |int t=>
     show SL ts t b=false;unfold SL;rw[iN0];intro z;simp[inB,z.1,z.2]at hB
    |_=>rfl
   dsimp only;rw[this];rfl
  |true=>
   rw[hB,iP rfl]at e1;rw[zF e1];obtain⟨t,rfl⟩: ∃t,a=.int t:=by cases a<;>first |exact⟨_,rfl⟩|cases hB
   have h01:0<=t/\t<ts.length:=by simpa [inB]using hB
   obtain⟨p,q1,q2,q3⟩:=Ea h01.1 h01.2;have e2:qE [some (.tup [.int t,b]),some m,none] S=.ok (.next [some (.tup [.int t,b]),some m,some (.int (DB p))]) S:=by unfold qE;simp? [JF,hm.ix q2,ix_w (hT p q3)]
   rw[zF e2];have ea:Cp ts (.int t) b=(match pE b with |some tms=>decide ((tms.length:Int)=DB p)&&tms.all EQ|none=>false):=by show SL ts t b=_;unfold SL;rw[iP h01,q1];cases pE b<;>rfl
   dsimp only;rw[ea]
   cases hb1:pE b with
   |none=>
    have e3:dM [some (.tup [.int t,b]),some m,some (.int (DB p))] S=.ok (.ret (.val (.bl false))) S:=by unfold dM;simp? [SI,kW hb,JG hb1,fH];rfl
    rw[e3];rfl
   |some tms=>
    have hbe:=GX hb1;subst hbe;rcases jH hb with⟨_,z⟩|⟨_,z,_⟩|⟨_,z⟩|z|⟨ds,z,htm,hlen⟩
    .cases z
    .cases z
    .cases z
    .cases z
    cases z;have hin:ML (DB p) (DB p) (.tup tms)=decide ((tms.length:Int)=DB p):=by show(decide (DB p<=(tms.length:Int))&&decide ((tms.length:Int)<=DB p))=_;rw[<-Bool.decide_and];exact decide_eq_decide.mpr (by omega)
    have hc:dB (iW 0) sB fX [none] [] tms S=.ok (tms.map λd=>MV.bl (EQ d)) S:=lY (F:=λd=>.bl (EQ d)) (AW _) λd hd=>⟨[some d],rfl,rfl,by unfold fX;simp? [PP (htm d hd) S]⟩
    have hlt:tms.length<1000000:=by omega
    have e3:dM [some (.tup [.int t,.tup tms]),some m,some (.int (DB p))] S=.ok (.ret (.val (.bl (decide ((tms.length:Int)=DB p)&&tms.all EQ)))) S:=by
     unfold dM;simp? [SI,kW hb,hin,fH]
     cases decide ((tms.length:Int)=DB p)with
     |false=>rfl
     |true=>
      simp? [PQ,hlt,show KE 1 [] [some (.tup [.int t,.tup tms]),some m,some (.int (DB p))]=[none]from rfl,hc,GW,Bool.true_and]
    rw[e3];rfl
def Ja(hT: ∀p∈ts,DA p=true)(h:ES ts d=true): ∃t cs,d=.tup [.int t,.tup cs]/\cs.length<=4/\ ∀c∈cs,Vl c:=by
 unfold ES at h
 cases hp:pr d with
 |none=>rw[hp]at h;cases h
 |some ab=>
  obtain⟨a,b⟩:=ab;rw[hp]at h;rw[JE hp]
  cases a with
  |int t=>
   have h:SL ts t b=true:=h;unfold SL at h;split at h
   .rename_i h01;obtain⟨p,q1,_,q3⟩:=Ea h01.1 h01.2;rw[q1]at h
    cases hb1:pE b with
    |none=>rw[hb1]at h;cases h
    |some cs=>
     rw[hb1]at h;have h:(decide ((cs.length:Int)=DB p)&&cs.all EQ)=true:=h;rw[aE]at h;obtain⟨w,k,rfl,_,w4,_⟩:=Dz (hT p q3);have hl:(cs.length:Int)=w:=of_decide_eq_true h.1;exact⟨t,cs,by rw[GX hb1],by omega,λc hc=>Cf.mp (List.all_eq_true.mp h.2 c hc)⟩
   .cases h
  |_=>cases h
def YA(hT: ∀p∈ts,DA p=true)(h:ES ts d=true):pd d=true/\jO d<=2:=by
 obtain⟨t,cs,rfl,_,hv⟩:=Ja hT h;have h1:SH cs=true:=PD λc hc=>(Lz (hv c hc)).1
 have h2:nW cs<=0:=vG λc hc=>by
  have:=hv c hc
  cases c with
  |int i=>rw[GT];exact Nat.le_refl _
  |str i=>rw[PC];exact Nat.le_refl _
  |_=>exact this.elim
 refine⟨by rw[MI,sF,sF,XE,MI,h1,PB];rfl,?_⟩;rw[kU,xL,xL,bR,GT,kU];omega
end
section
variable{b m:MV}{S:Sto}
theorem Cq(hb:SqM S b []):xE 2 kC [.val m,.val b] S=.ok (.val .non) S:=by obtain⟨gs,hg,hit⟩:=hb.itE;refine PX (T:=[]) rfl ?_;show yA (jG [some m,some b,none,none] S)=_;unfold jG bZ;simp? [hit,aN];rfl
def cls(w:Int):Str:=if w=1 then "NoTable" else if w=3 then "NoRow" else "Twice"
end
theorem SM{n:Nat}{F:List MV->Sto->R Er}{rs:List Er}{S T:Sto}{c:Str}{fs:List (Str×MV)}(hf:fs.all (λp=>fO p.2)=true)(hn:rs.length=n)(hF:F (zM rs S).1 (zM rs S).2=.exc c fs (S++T)):xE n F rs S=.exc c fs S:=by unfold xE;rw[iP hn,hF];dsimp only;rw[iP hf,lX (AV _) (λl=>by simp)];rfl
theorem xk{β γ:Type}{c:Str}{fs:List (Str×MV)}{S:Sto}{k:β->Sto->R γ}:(R.exc c fs S).bind k=.exc c fs S:=rfl
def MQ{F G:AY}{ρ ρ':Rho}{S S':Sto}{r:R Fl}(h:F ρ S=.ok (.next ρ') S')(k:G ρ' S'=r):zZ F G ρ S=r:=(zF h).trans k
def md{x n:Int}(h:0<n:=by decide):0<=x % n/\x % n<n:=⟨eN _ (by omega),eL _ h⟩
abbrev TG:Str:="TooGreat"
section
variable{as bs:Og}{a b c:MV}{S:Sto}
def YB(ha:SqM S a as)(h:4<as.length):xE 3 wD [.val a,.val b,.val c] S=.exc TG [] S:=SM (T:=[]) rfl rfl (by show yA (wC [some a,some b,some c] S)=_;unfold wC jM;simp? [ha.len,gt_int,dT0 (show(4:Int)<as.length by omega),aN];rfl)
def YC(ha:SqM S a as)(hb:SqM S b bs)(h:as.length<=4)(h2:6<bs.length):xE 3 wD [.val a,.val b,.val c] S=.exc TG [] S:=SM (T:=[]) rfl rfl (by show yA (wC [some a,some b,some c] S)=_;unfold wC jM;simp? [ha.len,hb.len,gt_int,dF0 (show¬(4:Int)<as.length by omega),dT0 (show(6:Int)<bs.length by omega),fT,iF,aN];rfl)
theorem Cr(hb:SqM S b []):xE 2 cR [.val a,.val b] S=.ok (.val .non) S:=by
 obtain⟨gs,hg,hit⟩:=hb.itE;obtain⟨gs2,hg2,hit2⟩:=(hb.app (T:=[.dic []])).itE;have e1:dN [some a,some b,none,none,none] S=.ok (.next [some a,some b,none,none,none]) S:=by unfold dN;simp? [hit];rfl
 have e2:mR [some a,some b,none,none,none] S=.ok (.next [some a,some b,none,none,some (.loc S.length)]) (S++[.dic []]):=rfl;have e3:dO [some a,some b,none,none,some (.loc S.length)] (S++[.dic []])=.ok (.next [some a,some b,none,none,some (.loc S.length)]) (S++[.dic []]):=by unfold dO;simp? [hit2];rfl
 refine PX (T:=[.dic []]) rfl ?_;show yA (fY [some a,some b,none,none,none] S)=_;unfold fY;rw[zF e1,zF e2,e3];rfl
theorem PY(h:xE 3 wD [.val a,.val b,.val c] S=.exc TG [] S):wK [a,b,c] S=.exc TG [] S:=by show yA (kS [some a,some b,some c] S)=_;unfold kS;rw[cS (c:=TG) (fs:=[]) (S':=S) (by unfold aL;simp? [h,xk])];rfl
def Jb(ha:SqM S a as)(hb:SqM S b bs)(hc:SqM S c [])(h4:as.length<=4)(h6:bs.length<=6):aL [some a,some b,some c] S=.ok (.next [some a,some b,some c]) S:=by unfold aL;simp? [Co ha hb hc h4 h6 (zero_le _)]
theorem YD{k:Nat}(ha:SqM S a as)(hb:SqM S b bs)(hc:SqM S c [])(h4:as.length<=4)(h6:bs.length<=6)(hA: ∀d∈as,pq d=true)(ht:pO as=some k):wK [a,b,c] S=.exc "NoTable" (NQ k) S:=by have h:=JI ha hA (by omega);rw[ht]at h;show yA (kS [some a,some b,some c] S)=_;unfold kS;rw[zF (Jb ha hb hc h4 h6),cS (c:="NoTable") (fs:=NQ k) (S':=S) (by unfold aM;simp? [h,xk])];rfl
def Ml(ha:SqM S a as)(h4:as.length<=4)(hA: ∀d∈as,pq d=true)(ht:pO as=none):aM [some a,some b,some c] S=.ok (.next [some a,some b,some c]) S:=by have h:=JI ha hA (by omega);rw[ht]at h;unfold aM;simp? [h]
theorem Cs{k:Nat}(ha:SqM S a as)(hb:SqM S b bs)(hc:SqM S c [])(h4:as.length<=4)(h6:bs.length<=6)(hA: ∀d∈as,pq d=true)(ht:pO as=none)(h:xE 2 kC [.val a,.val b] S=.exc "NoRule" (NQ k) S):wK [a,b,c] S=.exc "NoRule" (NQ k) S:=by show yA (kS [some a,some b,some c] S)=_;unfold kS;rw[zF (Jb ha hb hc h4 h6),zF (Ml ha h4 hA ht),cS (c:="NoRule") (fs:=NQ k) (S':=S) (by unfold aO;simp? [h,xk])];rfl
theorem Mm(ha:SqM S a as)(hb:SqM S b [])(hc:SqM S c [])(h4:as.length<=4)(hA: ∀d∈as,pq d=true)(ht:pO as=none):wK [a,b,c] S=.ok (.val (.tup [.tup as,.tup [],.tup []])) S:=by
 have e3:aO [some a,some b,some c] S=.ok (.next [some a,some b,some c]) S:=by unfold aO;simp? [Cq hb]
 have e4:mT [some a,some b,some c] S=.ok (.next [some a,some b,some c]) S:=by unfold mT;simp? [Cr hc]
 have e5:mU [some a,some b,some c] S=.ok (.ret (.val (.tup [.tup as,.tup [],.tup []]))) S:=by unfold mU;simp? [ha.tuple,hb.tuple,hc.tuple]
 show yA (kS [some a,some b,some c] S)=_;unfold kS;rw[zF (Jb ha hb hc h4 (zero_le _)),zF (Ml ha h4 hA ht),zF e3,zF e4,e5];rfl
end
section
variable{ts:Na}{ds:Og}{m:MV}{S:Sto}
abbrev never:List Nat:=[110,101,118,101,114]
def PZ(hm:SqM S m (ts.map tbl))(h: ∀d∈ds,pq d=true):zR 2 cY [.val (.tup (.str never::ds)),.val m] S=.ok (.val (.bl (Iw ts ds))) S:=yR rfl (by
 have hl:((MV.str never::ds).length:Int)≠0:=by rw[lC0];omega
 show yA (tI [some (.tup (.str never::ds)),some m] S)=_;unfold tI;have e1:mP [some (.tup (.str never::ds)),some m] S=.ok (.next [some (.tup (.str never::ds)),some m]) S:=by unfold mP;simp? [GS,dF0 hl,fT,iF,Bool.not_true]
 have e2:mQ [some (.tup (.str never::ds)),some m] S=.ok (.ret (.val (.bl (Iw ts ds)))) S:=by unfold mQ;simp? [show xS (.val (.tup (.str never::ds))) (.val (.int 0)) S=.ok (.val (.str never)) S from SqM.ix (.inl rfl) (at0 _ _),Du never (Ii (x:=never) (by decide)),decide_true,Ck hm h]
 rw[zF e1,wG e2];rfl)
end
abbrev T1:List MV:=[.tup [.int 2,.int 1]]
abbrev Jq:MV:=.tup [.tup [.tup [.str [99,101,108,108],.int 0,.int 0],.str [115,97,109,101],.tup [.str [105,115],.int 1]]]
abbrev R0:MV:=.tup [.str never,.int 0,Jq]
abbrev R1:MV:=.tup [.str never,.int 1,Jq]
def Jc:pq Jq=true:=by simp[pq,CZ]
section
variable{b m:MV}{S:Sto}
theorem YE(hm:SqM S m T1)(hb:SqM S b [R0,R1]):xE 2 kC [.val m,.val b] S=.exc "NoRule" (NQ 1) S:=by
 obtain⟨gs,hg,hit⟩:=hb.itE
 have pp: ∀i:Int, ∀d∈[MV.int i,Jq],pq d=true:=λi d hd=>by
  rcases mC.mp hd with rfl|hd
  .exact oA _
  .rw[mS.mp hd];exact Jc
 have j0:zR 2 cY [.val R0,.val m] S=.ok (.val (.bl true)) S:=(PZ (ts:=[(2,1)]) hm (pp 0)).trans (by rw[show Iw [(2,1)] [.int 0,Jq]=true by simp[Iw,inB,MM,ML,pE,Mf,Dy,EQ,Jp,tW,Dx,words3,sIs,ER]]);have j1:zR 2 cY [.val R1,.val m] S=.ok (.val (.bl false)) S:=(PZ (ts:=[(2,1)]) hm (pp 1)).trans (by rw[show Iw [(2,1)] [.int 1,Jq]=false by simp[Iw,inB]]);refine SM (T:=[]) rfl rfl ?_;show yA (jG [some m,some b,none,none] S)=_;unfold jG bZ;simp? [hit,aN];show yA (eT _ _ gs [.tup [.int 0,R0],.tup [.int 1,R1]] _ S)=_
 rw[rN (ρ0:=[some m,some b,some (.int 0),some R0]) (ρ':=[some m,some b,some (.int 0),some R0]) (S0:=S) (S':=S) rfl (by unfold bY gB;simp? [j0,Bool.not_true,fT,iF]) hg,
  PR (ρ0:=[some m,some b,some (.int 1),some R1]) (S0:=S) (S':=S) (c:="NoRule") (fs:=NQ 1) rfl (by unfold bY gB;simp? [j1,Bool.not_false];exact JH (k:=1) (by omega) S)]
 rfl
end
abbrev Led(ts:Og)(l:Nat):MO:=.rcd "Ledger" [("tables",.tup ts),("rules",.tup []),("rows",.loc l)]
def Je{n:Nat}{F:List MV->Sto->R Er}{rs:List Er}{S T:Sto}{d:MV}(hn:rs.length=n)(hF:F (zM rs S).1 (zM rs S).2=.ok (.val d) (S++T))(h:lo S.length d)(hd: ∀l,d≠.loc l):xE n F rs S=.ok (.val d) S:=by unfold xE;rw[iP hn,hF];exact lX h hd
section
variable{ts rs:Og}{S:Sto}
theorem Jf(h4:ts.length<=4)(hA: ∀d∈ts,pq d=true)(hd:jO (.tup ts)<9)(ht:pO ts=none):zW [.loc 0,.tup ts,.non] [.rcd "Ledger" []]=.ok (.val .non) [Led ts 1,.lst []]:=by
 have hb:xE 3 wK [.val (.tup ts),.new [],.new []] [MO.rcd "Ledger" []]=.ok (.val (.tup [.tup ts,.tup [],.tup []])) [.rcd "Ledger" []]:=by
  have h:=Mm (S:=[.rcd "Ledger" [],.lst [],.lst []]) (a:=.tup ts) (b:=.loc 1) (c:=.loc 2) (.inl rfl) (.inr ⟨1,rfl,rfl⟩) (.inr ⟨2,rfl,rfl⟩) h4 hA ht;refine Je (T:=[.lst [],.lst []]) rfl h (PN 11 ?_ ?_) (λl=>by simp)
  .rw[kU,xL,xL,xL,bR,kU [],bR];omega
  .refine oB (λd hd=>?_) (by simp);have p0:pq (.tup [])=true:=by simp[pq,CZ]
   simp only[mC,nM,or_false]at hd;rcases hd with rfl|rfl|rfl
   .exact oB hA (by omega)
   .exact p0
   .exact p0
 have e1:xB [some (.loc 0),some (.tup ts),some .non,none] [.rcd "Ledger" []]=.ok (.next [some (.loc 0),some (.tup ts),some .non,some (.tup [.tup ts,.tup [],.tup []])]) [.rcd "Ledger" []]:=by unfold xB;simp? [show∀S,RH (.val .non) (.val .non) S=.ok (.val (.bl true)) S from λ_=>rfl,hb]
 show yA (yG [some (.loc 0),some (.tup ts),some .non,none] _)=_;unfold yG
 rw[zF e1,zF (show cH _ _=.ok (.next [some (.loc 0),some (.tup ts),some .non,some (.tup [.tup ts,.tup [],.tup []])]) [.rcd "Ledger" [("tables",.tup ts)]]from rfl),
  zF (show cJ _ _=.ok (.next [some (.loc 0),some (.tup ts),some .non,some (.tup [.tup ts,.tup [],.tup []])]) [.rcd "Ledger" [("tables",.tup ts),("rules",.tup [])]]from rfl),
  show cK _ _=.ok (.next [some (.loc 0),some (.tup ts),some .non,some (.tup [.tup ts,.tup [],.tup []])]) [Led ts 1,.lst []]from rfl]
 rfl
theorem Ct{n:Nat}{c:Str}{fs:List (Str×MV)}(hf:fs.all (λp=>fO p.2)=true)(h:wK [.tup ts,.tup rs,.loc S.length] (S++[.lst []])=.exc c fs (S++[.lst []])):zW [.loc n,.tup ts,.tup rs] S=.exc c fs S:=by
 have hb:xE 3 wK [.val (.tup ts),.val (.tup rs),.new []] S=.exc c fs S:=SM (T:=[.lst []]) hf rfl h;have e1:xB [some (.loc n),some (.tup ts),some (.tup rs),none] S=.exc c fs S:=by unfold xB;simp? [XU,hb,fT,iF,xk]
 show yA (yG [some (.loc n),some (.tup ts),some (.tup rs),none] _)=_;unfold yG;rw[cS e1];rfl
end
section
variable{ts L:Og}{t cs:MV}{g l:Nat}{S:Sto}
theorem aR(h:S[g]? =some (Led ts l)):bM "Ledger" "rows" (.val (.loc g)) S=.ok (.val (.loc l)) S:=by unfold bM rR;dsimp only;rw[h];dsimp only;rw[iP rfl];rfl
theorem HA(h:S[g]? =some (Led ts l)):bM "Ledger" "tables" (.val (.loc g)) S=.ok (.val (.tup ts)) S:=by unfold bM rR;dsimp only;rw[h];dsimp only;rw[iP rfl];rfl
theorem YF(h:S[g]? =some (Led ts l)):bM "Ledger" "rules" (.val (.loc g)) S=.ok (.val (.tup [])) S:=by unfold bM rR;dsimp only;rw[h];dsimp only;rw[iP rfl];rfl
def QA(h:S[g]? =some (Led ts l))(hl:S[l]? =some (.lst L)):dP [some (.loc g),some t,some cs,none,none] S=.ok (.next [some (.loc g),some t,some cs,some (.int L.length),none]) S:=by unfold dP;simp? [aR h,SqM.len (.inr ⟨l,rfl,hl⟩)]
theorem YG(h:S[g]? =some (Led ts l))(hl:S[l]? =some (.lst L))(h60:60<=L.length):zP [.loc g,t,cs] S=.exc TG [] S:=by show yA (yH [some (.loc g),some t,some cs,none,none] S)=_;unfold yH;rw[zF (QA h hl),cS (c:=TG) (fs:=[]) (S':=S) (by unfold gC;simp? [ge_int,dT0 (show(60:Int)<=L.length by omega)];rfl)];rfl
def YH(h60:L.length<60):gC [some (.loc g),some t,some cs,some (.int L.length),none] S=.ok (.next [some (.loc g),some t,some cs,some (.int L.length),none]) S:=by unfold gC;simp? [ge_int,dF0 (show¬(60:Int)<=L.length by omega),fT,iF]
def YI{k:Oh}:dQ [some (.loc g),some t,some cs,k,none] S=.ok (.next [some (.loc g),some t,some cs,k,some (.tup [t,cs])]) S:=by unfold dQ;simp? [pD]
theorem Jg(h:S[g]? =some (Led ts l))(hl:S[l]? =some (.lst L))(h60:L.length<60)(hT: ∀p∈ts,DA p=true)(hq:pq (.tup [t,cs])=true)(hr:ES ts (.tup [t,cs])=false):zP [.loc g,t,cs] S=.exc "NoRow" (NQ L.length) S:=by have j:=Eb (S:=S) (m:=.tup ts) hT (.inl rfl) hq;rw[hr]at j;show yA (yH [some (.loc g),some t,some cs,none,none] S)=_;unfold yH;rw[zF (QA h hl),zF (YH h60),zF YI,cS (c:="NoRow") (fs:=NQ L.length) (S':=S) (by unfold gD;simp? [HA h,j,Bool.not_false,JH (show L.length<=1000000 by omega)])];rfl
def Ec{k:Oh}(h:S[g]? =some (Led ts l))(hT: ∀p∈ts,DA p=true)(hq:pq (.tup [t,cs])=true)(hr:ES ts (.tup [t,cs])=true):gD [some (.loc g),some t,some cs,k,some (.tup [t,cs])] S=.ok (.next [some (.loc g),some t,some cs,k,some (.tup [t,cs])]) S:=by have j:=Eb (S:=S) (m:=.tup ts) hT (.inl rfl) hq;rw[hr]at j;unfold gD;simp? [HA h,j,Bool.not_true,fT,iF]
theorem SN(h:S[g]? =some (Led ts l))(hl:S[l]? =some (.lst L))(h60:L.length<60)(hT: ∀p∈ts,DA p=true)(hq:pq (.tup [t,cs])=true)(hr:ES ts (.tup [t,cs])=true)(hL: ∀y∈L,pd y=true/\jO y<40)(hi:.tup [t,cs]∈L):zP [.loc g,t,cs] S=.exc "Twice" (NQ L.length) S:=by have j:=PJ (S:=S) false hl (YA hT hr).1 hL;rw[iN0 xF0,dT0 hi]at j;show yA (yH [some (.loc g),some t,some cs,none,none] S)=_;unfold yH;rw[zF (QA h hl),zF (YH h60),zF YI,zF (Ec h hT hq hr),cS (c:="Twice") (fs:=NQ L.length) (S':=S) (by unfold gF;simp? [aR h,j,JH (show L.length<=1000000 by omega)])];rfl
theorem YJ(h:S[g]? =some (Led ts l))(hl:S[l]? =some (.lst L))(h60:L.length<60)(hT: ∀p∈ts,DA p=true)(hq:pq (.tup [t,cs])=true)(hr:ES ts (.tup [t,cs])=true)(hL: ∀y∈L,pd y=true/\jO y<40)(hi:.tup [t,cs]∉L):zP [.loc g,t,cs] S=.ok (.val (.int L.length)) (S.set l (.lst (L++[.tup [t,cs]]))):=by
 have j:=PJ (S:=S) false hl (YA hT hr).1 hL;rw[iN0 xF0,dF0 hi]at j;show yA (yH [some (.loc g),some t,some cs,none,none] S)=_;unfold yH
 rw[zF (QA h hl),zF (YH h60),zF YI,zF (Ec h hT hq hr),
  zF (show gF _ S=.ok (.next [some (.loc g),some t,some cs,some (.int L.length),some (.tup [t,cs])]) S by unfold gF;simp? [aR h,j,fT,iF]),
  zF (show dR _ S=.ok (.next [some (.loc g),some t,some cs,some (.int L.length),some (.tup [t,cs])]) (S.set l (.lst (L++[.tup [t,cs]]))) by unfold dR;simp? [aR h,vF hl,GR hl (show L.length<1000000 by omega)]),
  show mV _ (S.set l (.lst (L++[.tup [t,cs]])))=.ok (.ret (.val (.int L.length))) _ from rfl]
 rfl
theorem Cu{d:MV}(h:S[g]? =some (Led ts l))(hl:S[l]? =some (.lst L))(hq:pq d=true)(hb:inB L.length d=false):yB [.loc g,d] S=.exc "NoPlace" [] S:=by have j:=oY hq (L.length:Int) S;rw[hb]at j;show yA (yT [some (.loc g),some d] S)=_;unfold yT;rw[cS (c:="NoPlace") (fs:=[]) (S':=S) (by unfold jN;simp? [aR h,SqM.len (.inr ⟨l,rfl,hl⟩),j,Bool.not_false];rfl)];rfl
theorem Cv{k:Nat}(h:S[g]? =some (Led ts l))(hl:S[l]? =some (.lst L))(hk:k<L.length)(h6:L.length<=60):yB [.loc g,.int k] S=.ok (.val .non) (S.set l (.lst (L.eraseIdx k))):=by
 have hp:RT (.val (.loc l)) [.val (.int k)] S=.ok (.val L[k]) (S.set l (.lst (L.eraseIdx k))):=by
  unfold RT;dsimp only;rw[hl];dsimp only;rw[iP (by omega)];have hx:HS L.length (k:Int)=some k:=by unfold HS;simp[hk]
  rw[hx];dsimp only;rw[gE hk]
 show yA (yT [some (.loc g),some (.int k)] S)=_;unfold yT
 rw[zF (show jN _ S=.ok (.next [some (.loc g),some (.int k)]) S by unfold jN;simp? [aR h,SqM.len (.inr ⟨l,rfl,hl⟩),MK (show(0:Int)<=k by omega) (show(k:Int)<L.length by omega),Bool.not_true,fT,iF]),
  show cA _ S=.ok (.next [some (.loc g),some (.int k)]) (S.set l (.lst (L.eraseIdx k))) by unfold cA;simp? [aR h,vF hl,hp]]
 rfl
theorem Cw(h:S[g]? =some (Led ts l))(hl:S[l]? =some (.lst L)):yC [.loc g] S=.ok (.val (.tup [.tup ts,.tup [],.tup L])) S:=by show yA (xF [some (.loc g)] S)=_;unfold xF iS;simp? [aR h,HA h,YF h,tQ hl];rfl
end
def Ed{S:Sto}{l:Nat}{ds:Og}(hl:S[l]? =some (.lst ds))(hd: ∀d∈ds,pq d=true/\jO d<40):pY (.val (.loc l)) (.new ds) S=.ok (.val (.bl true)) S:=by
 have e:FP S (.val (.loc l))=some (.ls ds):=by show(bW S (.val (.loc l))).map Vw.ls=_;rw[rO hl];rfl
 have q:uR S yK (.val (.loc l)) (.new ds)=some true:=by unfold uR;rw[e];show(if ds.length=ds.length then(sP (eqv S 40) ds ds).map λbs=>bs.all id else some false)=_;rw[iP rfl,BO λd hd'=>eqv_refl 40 (hd d hd').1 (hd d hd').2];show some ((ds.map λ_=>true).all id)=_;rw[EO]
 unfold pY;rw[q]
def iE{S:Sto}{d:MV}(h:pq d=true)(hd:jO d<40):pY (.val d) (.val d) S=.ok (.val (.bl true)) S:=LT (eqv_refl (yK+1) h (by unfold yK;omega))
def Ee{w:Int}: ∀d∈WL w++[.bl true],pq d=true/\jO d<40:=λd hd=>by
 have: ∃b,d=.bl b:=by
  rcases List.mem_append.mp hd with hd|hd
  .obtain⟨i,_,rfl⟩:=mM0.mp hd;exact⟨_,rfl⟩
  .rw[mS.mp hd];exact⟨_,rfl⟩
 obtain⟨b,rfl⟩:=this;exact⟨Ma b,by simp[jO]⟩
theorem YK{ef:AX}{cf:AZ}{w:Int}{S:Sto}(hc:cf=uJ)(he:ef=dJ pY (vJ 0) (vJ 1)):dB (iW 0) cf ef [none,some (.int w)] [] ((List.range 12).map λk=>MV.int (k:Nat)) S=.ok (WL w) S:=by subst hc he;rw[lY (F:=λd=>match d with |.int i=>.bl (decide (i=w))|_=>.non) (AW _) λd hd=>by obtain⟨i,_,rfl⟩:=mM0.mp hd;refine⟨[some (.int (i:Nat)),some (.int w)],rfl,rfl,?_⟩;simp? [pD],List.map_map];rfl
abbrev RB:AX:=LJ (bJ (dJ pY (vJ 1) (kJ (.int 0))) aV) (NX "Ledger" "put" 3 zP (vJ 0) (yJ (dJ xS (vJ 2) (kJ (.int 0))) (yJ (dJ xS (vJ 2) (kJ (.int 1))) wJ))) (NX "Ledger" "take" 2 yB (vJ 0) (yJ (vJ 2) wJ))
abbrev RR(g th pl:MV)(wy wh:Int)(k t e:Oh):Rho:=[some g,some (.int wy),some th,some (.int wh),some pl,k,t,e]
section
variable{S:Sto}{g th pl:MV}{wy wh:Int}{c:Str}{fs:List (Str×MV)}
theorem QB(hc:c∈XNS)(hk:KL c=WL wh)(hx:RB (RR g th pl wy wh (some (.loc S.length)) (some pl) none) (S++[.lst []])=.exc c fs (S++[.lst []]))
  (hp:(wh=3\/wh=4)/\(∃k:Nat,fs=NQ k/\pl=.int k)\/(wh=0\/wh=6)/\pl=.non):zR 5 yM [.val g,.val (.int wy),.val th,.val (.int wh),.val pl] S=.ok (.val (.bl true)) S:=by
 have l1:(S++[MO.lst []]).length=S.length+1:=by rw[lA];rfl
 have l2: ∀a,(S++[MO.lst [],a]).length=S.length+2:=λa=>by rw[lA];rfl
 have hq:pq pl=true/\jO pl<40/\ ∀S,iY [.val pl,.val (.typ "bool")] S=.ok (.val (.bl false)) S:=by
  rcases hp with⟨_,k,_,rfl⟩|⟨_,rfl⟩
  .exact⟨oA _,by simp[jO],λ_=>rfl⟩
  .exact⟨XG,by simp[jO],λ_=>rfl⟩
 have e1:gX (RR g th pl wy wh none none none) S=.ok (.next (RR g th pl wy wh (some (.loc S.length)) none none)) (S++[.lst []]):=by unfold gX;simp? [pD]
 have e2:fA (RR g th pl wy wh (some (.loc S.length)) none none) (S++[.lst []])=.ok (.next (RR g th pl wy wh (some (.loc S.length)) (some pl) none)) (S++[.lst []]):=rfl;have gi:(S++[MO.lst [],.ins c fs])[S.length+1]? =some (.ins c fs):=qG (i:=1) rfl;have ad:jE (.new (KL c)) (.new [.bl true]) (S++[.lst [],.ins c fs])=.ok (.new (KL c++[.bl true])) (S++[.lst [],.ins c fs]):=fM rfl rfl (fits (show 12+1<=1000000 by decide));have h1:jU (RR g th pl wy wh (some (.loc S.length)) (some pl) (some (.loc (S.length+1)))) (S++[.lst [],.ins c fs])=.ok (.next (RR g th pl wy wh (some (.loc (S.length+2))) (some pl) (some (.loc (S.length+1))))) (S++[.lst [],.ins c fs,.lst (KL c++[.bl true])]):=by unfold jU;simp? [kinds_ok gi hc,XY gi hc,ad,l2];rw[aA];rfl
 generalize hS:S++[.lst [],.ins c fs,.lst (KL c++[.bl true])]=S3 at h1;have gi3:S3[S.length+1]? =some (.ins c fs):=by rw[<-hS];exact qG (i:=1) rfl
 have gl3:S3[S.length+2]? =some (.lst (KL c++[.bl true])):=by rw[<-hS];exact qG (i:=2) rfl
 have h2:jV (RR g th pl wy wh (some (.loc (S.length+2))) (some pl) (some (.loc (S.length+1)))) S3=.ok (.next (RR g th pl wy wh (some (.loc (S.length+2))) (some pl) (some (.loc (S.length+1))))) S3:=by
  unfold jV;rcases hp with⟨rfl|rfl,k,rfl,rfl⟩|⟨rfl|rfl,rfl⟩
  .simp? [show IP false (.val (.int 3)) (.val (.tup [.int 3,.int 4])) S3=.ok (.val (.bl true)) S3 from rfl,MP gi3 hc]
  .simp? [show IP false (.val (.int 4)) (.val (.tup [.int 3,.int 4])) S3=.ok (.val (.bl true)) S3 from rfl,MP gi3 hc]
  .simp? [show IP false (.val (.int 0)) (.val (.tup [.int 3,.int 4])) S3=.ok (.val (.bl false)) S3 from rfl,fT,iF]
  .simp? [show IP false (.val (.int 6)) (.val (.tup [.int 3,.int 4])) S3=.ok (.val (.bl false)) S3 from rfl,fT,iF]
 have hh:kT (RR g th pl wy wh (some (.loc S.length)) (some pl) (some (.loc (S.length+1)))) (S++[.lst [],.ins c fs])=.ok (.next (RR g th pl wy wh (some (.loc (S.length+2))) (some pl) (some (.loc (S.length+1))))) S3:=by unfold kT;rw[zF h1,h2]
 have e3:fB (RR g th pl wy wh (some (.loc S.length)) (some pl) none) (S++[.lst []])=.ok (.next (RR g th pl wy wh (some (.loc (S.length+2))) (some pl) none)) S3:=by show tD XNS 7 _ kT _ (RB (RR g th pl wy wh (some (.loc S.length)) (some pl) none) (S++[.lst []]))=_;rw[hx];unfold tD;dsimp only;rw[iP hc,l1,aA];rw[show [MO.lst []]++[MO.ins c fs]=[.lst [],.ins c fs]from rfl];simp only[set_cons_zero,set_cons_succ];rw[hh];rfl
 rw[hk]at gl3;have ad2:jE (.new (WL wh)) (.new [.bl true]) S3=.ok (.new (WL wh++[.bl true])) S3:=fM rfl rfl (fits (show 12+1<=1000000 by decide));have e4:gY (RR g th pl wy wh (some (.loc (S.length+2))) (some pl) none) S3=.ok (.ret (.val (.bl true))) S3:=by unfold gY;simp? [LW (S:=S3) (j:=12) (by omega),show(12:Int).toNat=12 from rfl,lM0,List.length_range,show((12:Nat)<1000000)=True from by simp,show KE 1 [3] (RR g th pl wy wh (some (.loc (S.length+2))) (some pl) none)=[none,some (.int wh)]from rfl,YK (cf:=dZ) (ef:=nE) (w:=wh) (S:=S3) rfl rfl,ad2,Ed gl3 Ee,iE hq.1 hq.2.1,hq.2.2,fH,Bool.not_false]
 refine rM (T:=[.lst [],.ins c fs,.lst (KL c++[.bl true])]) rfl ?_ (EH _ _) (λl=>by simp);show yA (nF (RR g th pl wy wh none none none) S)=_;unfold nF;rw[zF e1,zF e2,zF e3,e4,hS];rfl
end
abbrev MR(ts rs:Og)(pl:MV)(wh:Int)(k t e:Oh):Rho:=[some (.tup ts),some (.tup rs),some (.int wh),some pl,k,t,e]
section
variable{S:Sto}{ts rs:Og}{pl:MV}{wh:Int}{c:Str}{fs:List (Str×MV)}
theorem oE(hc:c∈XNS)(hk:KL c=WL wh)(hf:fs.all (λp=>fO p.2)=true)(hb: ∀S,wK [.tup ts,.tup rs,.loc S.length] (S++[.lst []])=.exc c fs (S++[.lst []]))
  (hp:0<wh/\(∃k:Nat,fs=NQ k/\pl=.int k)\/wh=0/\pl=.non):zR 4 xG [.val (.tup ts),.val (.tup rs),.val (.int wh),.val pl] S=.ok (.val (.bl true)) S:=by
 have l1:(S++[MO.lst [],.rcd "Ledger" []]).length=S.length+2:=by rw[lA];rfl
 have l2: ∀a,(S++[MO.lst [],.rcd "Ledger" [],a]).length=S.length+3:=λa=>by rw[lA];rfl
 have hq:pq pl=true/\jO pl<40:=by
  rcases hp with⟨_,k,_,rfl⟩|⟨_,rfl⟩
  .exact⟨oA _,by simp[jO]⟩
  .exact⟨XG,by simp[jO]⟩
 have e1:aY (MR ts rs pl wh none none none) S=.ok (.next (MR ts rs pl wh (some (.loc S.length)) none none)) (S++[.lst []]):=by unfold aY;simp? [pD]
 have e2:pN (MR ts rs pl wh (some (.loc S.length)) none none) (S++[.lst []])=.ok (.next (MR ts rs pl wh (some (.loc S.length)) (some pl) none)) (S++[.lst []]):=rfl;have gi:(S++[MO.lst [],.rcd "Ledger" [],.ins c fs])[S.length+2]? =some (.ins c fs):=qG (i:=2) rfl;have ad:jE (.new (KL c)) (.new [.bl true]) (S++[.lst [],.rcd "Ledger" [],.ins c fs])=.ok (.new (KL c++[.bl true])) (S++[.lst [],.rcd "Ledger" [],.ins c fs]):=fM rfl rfl (fits (show 12+1<=1000000 by decide));have h1:cB (MR ts rs pl wh (some (.loc S.length)) (some pl) (some (.loc (S.length+2)))) (S++[.lst [],.rcd "Ledger" [],.ins c fs])=.ok (.next (MR ts rs pl wh (some (.loc (S.length+3))) (some pl) (some (.loc (S.length+2))))) (S++[.lst [],.rcd "Ledger" [],.ins c fs,.lst (KL c++[.bl true])]):=by unfold cB;simp? [kinds_ok gi hc,XY gi hc,ad,l2];rw[aA];rfl
 generalize hS:S++[.lst [],.rcd "Ledger" [],.ins c fs,.lst (KL c++[.bl true])]=S3 at h1;have gi3:S3[S.length+2]? =some (.ins c fs):=by rw[<-hS];exact qG (i:=2) rfl
 have gl3:S3[S.length+3]? =some (.lst (KL c++[.bl true])):=by rw[<-hS];exact qG (i:=3) rfl
 have h2:cE (MR ts rs pl wh (some (.loc (S.length+3))) (some pl) (some (.loc (S.length+2)))) S3=.ok (.next (MR ts rs pl wh (some (.loc (S.length+3))) (some pl) (some (.loc (S.length+2))))) S3:=by
  unfold cE;rcases hp with⟨h0,k,rfl,rfl⟩|⟨rfl,rfl⟩
  .simp? [gt_int,dT0 h0,MP gi3 hc]
  .simp? [gt_int,show decide ((0:Int)<0)=false from rfl,fT,iF]
 have hh:aX (MR ts rs pl wh (some (.loc S.length)) (some pl) (some (.loc (S.length+2)))) (S++[.lst [],.rcd "Ledger" [],.ins c fs])=.ok (.next (MR ts rs pl wh (some (.loc (S.length+3))) (some pl) (some (.loc (S.length+2))))) S3:=by unfold aX;rw[zF h1,h2]
 have hx:OX (yJ (vJ 0) (yJ (vJ 1) wJ)) (SE "Ledger" 3 zW) (MR ts rs pl wh (some (.loc S.length)) (some pl) none) (S++[.lst []])=.exc c fs (S++[.lst [],.rcd "Ledger" []]):=by simp? [OX,aW];unfold SE;rw[iP (show([Er.val (.tup ts),Er.val (.tup rs)]:List Er).length+1=3 from rfl),show zM [Er.val (.loc (S++[MO.lst []]).length),.val (.tup ts),.val (.tup rs)] (S++[.lst []]++[.rcd "Ledger" []])=([.loc (S++[MO.lst []]).length,.tup ts,.tup rs],S++[.lst []]++[.rcd "Ledger" []])from rfl];dsimp only;rw[Ct hf (hb _),xk,aA];rfl
 have e3:aZ (MR ts rs pl wh (some (.loc S.length)) (some pl) none) (S++[.lst []])=.ok (.next (MR ts rs pl wh (some (.loc (S.length+3))) (some pl) none)) S3:=by unfold aZ MJ;rw[hx];unfold tD;dsimp only;rw[iP hc,l1,aA];rw[show [MO.lst [],.rcd "Ledger" []]++[MO.ins c fs]=[.lst [],.rcd "Ledger" [],.ins c fs]from rfl];simp only[set_cons_zero,set_cons_succ];rw[hh];rfl
 rw[hk]at gl3;have ad2:jE (.new (WL wh)) (.new [.bl true]) S3=.ok (.new (WL wh++[.bl true])) S3:=fM rfl rfl (fits (show 12+1<=1000000 by decide));have e4:eA (MR ts rs pl wh (some (.loc (S.length+3))) (some pl) none) S3=.ok (.ret (.val (.bl true))) S3:=by unfold eA;simp? [LW (S:=S3) (j:=12) (by omega),show(12:Int).toNat=12 from rfl,lM0,List.length_range,show((12:Nat)<1000000)=True from by simp,show KE 1 [2] (MR ts rs pl wh (some (.loc (S.length+3))) (some pl) none)=[none,some (.int wh)]from rfl,YK (cf:=iT) (ef:=iU) (w:=wh) (S:=S3) rfl rfl,ad2,Ed gl3 Ee,iE hq.1 hq.2,fH]
 refine rM (T:=[.lst [],.rcd "Ledger" [],.ins c fs,.lst (KL c++[.bl true])]) rfl ?_ (EH _ _) (λl=>by simp);show yA (mX (MR ts rs pl wh none none none) S)=_;unfold mX;rw[zF e1,zF e2,zF e3,e4,hS];rfl
end
abbrev T5:List MV:=[.tup [.int 2,.int 1],.tup [.int 2,.int 1],.tup [.int 2,.int 1],.tup [.int 2,.int 1],.tup [.int 2,.int 1]]
abbrev T2:List MV:=[.tup [.int 2,.int 1],.tup [.int 2,.int 3]]
abbrev R7:List MV:=[R0,R0,R0,R0,R0,R0,R0]
abbrev w1:MV:=.tup [.tup [],.tup [],.int 1,.int 0]
abbrev w2:MV:=.tup [.tup T5,.tup [],.int 0,.non]
abbrev w3:MV:=.tup [.tup T2,.tup [],.int 1,.int 1]
abbrev w4:MV:=.tup [.tup T1,.tup R7,.int 0,.non]
abbrev w5:MV:=.tup [.tup T1,.tup [R0,R1],.int 2,.int 1]
theorem Mn(S:Sto):zR 0 xV [] S=.ok (.new [w1,w2,w3,w4,w5]) S:=by
 have m5: ∀S,uK (.val (.tup T1)) (.val (.int 5)) S=.ok (.val (.tup T5)) S:=λS=>by unfold uK;exact iP (by decide)
 have m7: ∀S,uK (.val (.tup [R0])) (.val (.int 7)) S=.ok (.val (.tup R7)) S:=λS=>by unfold uK;exact iP (by decide)
 have e1:wU [none,none] S=.ok (.next [some R0,none]) S:=by unfold wU;simp? [SK]
 have e2:wV [some R0,none] S=.ok (.next [some R0,some (.loc S.length)]) (S++[.lst [w1,w2,w3]]):=by unfold wV;simp? [Io,SK,Ir,m5]
 have e3:wW [some R0,some (.loc S.length)] (S++[.lst [w1,w2,w3]])=.ok (.next [some R0,some (.loc S.length)]) (S++[.lst [w1,w2,w3,w4]]):=by unfold wW;simp? [vF (aP S (.lst [w1,w2,w3])),SK,Ir,m7,GR (aP S (.lst [w1,w2,w3])) (by decide),XN];rfl
 have ad:jE (.val (.loc S.length)) (.new [w5]) (S++[.lst [w1,w2,w3,w4]])=.ok (.new [w1,w2,w3,w4,w5]) (S++[.lst [w1,w2,w3,w4]]):=fM (rP (aP _ _)) rfl (fits (show 4+1<=1000000 by decide));have e4:wX [some R0,some (.loc S.length)] (S++[.lst [w1,w2,w3,w4]])=.ok (.ret (.new [w1,w2,w3,w4,w5])) (S++[.lst [w1,w2,w3,w4]]):=by unfold wX;simp? [SK,Ir,Ci,ad]
 refine IQ (T:=[.lst [w1,w2,w3,w4]]) rfl ?_ (by simp[uQ,lo]);show yA (kN [none,none] S)=_;unfold kN;rw[zF e1,zF e2,zF e3,e4];rfl
def Jh{w k:Int}:pq (.tup [.int w,.int k])=true:=by simp[pq,CZ]
def m_1(S:Sto):zR 4 xG [.val (.tup []),.val (.tup []),.val (.int 1),.val (.int 0)] S=.ok (.val (.bl true)) S:=
 oE (c:="NoTable") (fs:=NQ 0) (by decide) rfl rfl (λS=>YD (.inl rfl) (.inl rfl) (.inr ⟨_,rfl,aP _ _⟩) (by simp) (by simp) (by simp) rfl) (.inl ⟨by decide,0,rfl,rfl⟩)
def m_2(S:Sto):zR 4 xG [.val (.tup T5),.val (.tup []),.val (.int 0),.val .non] S=.ok (.val (.bl true)) S:=
 oE (c:=TG) (fs:=[]) (by decide) rfl rfl (λS=>PY (YB (.inl rfl) (by decide))) (.inr ⟨rfl,rfl⟩)
def m_3(S:Sto):zR 4 xG [.val (.tup T2),.val (.tup []),.val (.int 1),.val (.int 1)] S=.ok (.val (.bl true)) S:=
 oE (c:="NoTable") (fs:=NQ 1) (by decide) rfl rfl (λS=>YD (.inl rfl) (.inl rfl) (.inr ⟨_,rfl,aP _ _⟩) (by decide) (by simp) (λd hd=>by
  rcases mC.mp hd with rfl|hd
  .exact Jh
  .rw[mS.mp hd];exact Jh) (by decide+kernel)) (.inl ⟨by decide,1,rfl,rfl⟩)
def m_4(S:Sto):zR 4 xG [.val (.tup T1),.val (.tup R7),.val (.int 0),.val .non] S=.ok (.val (.bl true)) S:=
 oE (c:=TG) (fs:=[]) (by decide) rfl rfl (λS=>PY (YC (.inl rfl) (.inl rfl) (by decide) (by decide))) (.inr ⟨rfl,rfl⟩)
def m_5(S:Sto):zR 4 xG [.val (.tup T1),.val (.tup [R0,R1]),.val (.int 2),.val (.int 1)] S=.ok (.val (.bl true)) S:=
 oE (c:="NoRule") (fs:=NQ 1) (by decide) rfl rfl (λS=>Cs (.inl rfl) (.inl rfl) (.inr ⟨_,rfl,aP _ _⟩) (by decide) (by decide) (λd hd=>by rw[mS.mp hd];exact Jh) (by decide+kernel) (YE (.inl rfl) (.inl rfl))) (.inl ⟨by decide,1,rfl,rfl⟩)
section
variable{ts:Og}{g l n:Nat}{S:Sto}{m:Str}{F:List MV->Sto->R Er}{f:AX}{af:Rho->Sto->R (List Er)}{ρ:Rho}{rs:List Er}
abbrev LFs(ts:Og)(l:Nat):List (Str×MV):=[("tables",.tup ts),("rules",.tup []),("rows",.loc l)]
def MS(hS:S[g]? =some (Led ts l)):rR "Ledger" (.val (.loc g)) S=some (g,LFs ts l):=by unfold rR;dsimp only;rw[hS];dsimp only;rw[iP rfl]
abbrev NoM(ts:Og)(l:Nat)(m:Str):Prop:=(LFs ts l).lookup m=none
def Ef(hS:S[g]? =some (Led ts l))(hm:NoM ts l m)(h1:f ρ S=.ok (.val (.loc g)) S)(h2:af ρ S=.ok rs S):NX "Ledger" m n F f af ρ S=xE n F (.val (.loc g)::rs) S:=by unfold NX;rw[h1,aW,pD,MS hS];dsimp only;rw[iP hm,h2,aW,pD]
def QC(hS:S[g]? =some (Led ts l))(hm:NoM ts l m)(h1:f ρ S=.ok (.val (.loc g)) S)(h2:af ρ S=.ok rs S):RJ "Ledger" m n F f af ρ S=zR n F (.val (.loc g)::rs) S:=by unfold RJ;rw[h1,pD,MS hS];dsimp only;rw[iP hm,h2,pD]
def YL(hS:S[g]? =some (Led ts l))(hm:NoM ts l m)(h1:f ρ S=.ok (.val (.loc g)) S):RZ "Ledger" m F f ρ S=zR 1 F [.val (.loc g)] S:=by unfold RZ;rw[h1,pD,MS hS];dsimp only;rw[iP hm]
end
section
variable{ts L:Og}{t cs d pl:MV}{g l:Nat}{wh:Int}{c:Str}{fs:List (Str×MV)}{S:Sto}
def MT(hg:S[g]? =some (Led ts l))(hc:c∈XNS)(hk:KL c=WL wh)(hf:fs.all (λp=>fO p.2)=true)(hx:zP [.loc g,t,cs] (S++[.lst []])=.exc c fs (S++[.lst []]))
  (hp:(wh=3\/wh=4)/\(∃k:Nat,fs=NQ k/\pl=.int k)\/(wh=0\/wh=6)/\pl=.non):zR 5 yM [.val (.loc g),.val (.int 0),.val (.tup [t,cs]),.val (.int wh),.val pl] S=.ok (.val (.bl true)) S:=by
 refine QB hc hk ?_ hp;have h:=Ef (n:=3) (F:=zP) (f:=vJ 0) (af:=yJ (dJ xS (vJ 2) (kJ (.int 0))) (yJ (dJ xS (vJ 2) (kJ (.int 1))) wJ)) (ρ:=RR (.loc g) (.tup [t,cs]) pl 0 wh (some (.loc S.length)) (some pl) none) (rs:=[.val t,.val cs]) (m:="put") (nH (L:=[.lst []]) hg) rfl rfl (by simp? [JF,SI]);rw[SM (n:=3) (rs:=[.val (.loc g),.val t,.val cs]) (T:=[]) hf rfl (by rw[aN];exact hx)]at h;unfold RB LJ;simp? [aW,decide_true];exact h
def Cy(hg:S[g]? =some (Led ts l))(hl:S[l]? =some (.lst L))(hq:pq d=true)(hb:inB L.length d=false):zR 5 yM [.val (.loc g),.val (.int 1),.val d,.val (.int 6),.val .non] S=.ok (.val (.bl true)) S:=by refine QB (c:="NoPlace") (fs:=[]) (by decide) rfl ?_ (.inr ⟨.inr rfl,rfl⟩);have h:=Ef (n:=2) (F:=yB) (f:=vJ 0) (af:=yJ (vJ 2) wJ) (ρ:=RR (.loc g) d .non 1 6 (some (.loc S.length)) (some .non) none) (rs:=[.val d]) (m:="take") (nH (L:=[.lst []]) hg) rfl rfl rfl;rw[SM (n:=2) (rs:=[.val (.loc g),.val d]) (T:=[]) (fs:=[]) rfl rfl (by rw[aN];exact Cu (nH hg) (nH hl) hq hb)]at h;unfold RB LJ;simp? [aW,show decide ((1:Int)=0)=false from rfl,fT,iF];exact h
def QD(hg:S[g]? =some (Led ts l))(hl:S[l]? =some (.lst L))(h60:60<=L.length):zR 5 yM [.val (.loc g),.val (.int 0),.val (.tup [t,cs]),.val (.int 0),.val .non] S=.ok (.val (.bl true)) S:=
 MT (c:=TG) (fs:=[]) hg (by decide) rfl rfl (YG (nH hg) (nH hl) h60) (.inr ⟨.inl rfl,rfl⟩)
def Mp(hg:S[g]? =some (Led ts l))(hl:S[l]? =some (.lst L))(h60:L.length<60)(hT: ∀p∈ts,DA p=true)(hq:pq (.tup [t,cs])=true)(hr:ES ts (.tup [t,cs])=false):zR 5 yM [.val (.loc g),.val (.int 0),.val (.tup [t,cs]),.val (.int 3),.val (.int L.length)] S=.ok (.val (.bl true)) S:=
 MT (c:="NoRow") (fs:=NQ L.length) hg (by decide) rfl rfl (Jg (nH hg) (nH hl) h60 hT hq hr) (.inl ⟨.inl rfl,_,rfl,rfl⟩)
def YM(hg:S[g]? =some (Led ts l))(hl:S[l]? =some (.lst L))(h60:L.length<60)(hT: ∀p∈ts,DA p=true)(hq:pq (.tup [t,cs])=true)(hr:ES ts (.tup [t,cs])=true)(hL: ∀y∈L,pd y=true/\jO y<40)(hi:.tup [t,cs]∈L):zR 5 yM [.val (.loc g),.val (.int 0),.val (.tup [t,cs]),.val (.int 4),.val (.int L.length)] S=.ok (.val (.bl true)) S:=
 MT (c:="Twice") (fs:=NQ L.length) hg (by decide) rfl rfl (SN (nH hg) (nH hl) h60 hT hq hr hL hi) (.inl ⟨.inr rfl,_,rfl,rfl⟩)
end
abbrev Mq:MV:=.tup [.int 1,.int 2]
abbrev nA:List MV:=[.tup [.int 2,.tup [.int 1]],.tup [.int (-1),Mq],.tup [.int 0,.tup [.int 1]],.tup [.int 0,.tup [.int 1,.int 2,.int 3]],.tup [.int 0,.tup [.int 1,.str [65,98,99]]],.tup [.int 0,.tup [.bl true,.int 2]]]
abbrev nB(r:Int):List MV:=[.tup [.int 0,.tup [.int (10 ^ 30+r),.int 0]],.tup [.int 0,.tup [.int 1,.tup [.int 2]]],.tup [.non,Mq],.tup [.bl true,Mq]]
abbrev nC(r:Int):List MV:=[.tup [.int (2+r),Mq],.tup [.int 0,.non],.tup [.int 0,.tup []],.tup [.str [48],Mq]]
theorem MU(x:Int)(S:Sto): ∃r:Int,0<=r/\zR 1 gG [.val (.int x)] S=.ok (.new (nA++nB r++nC r)) S:=by
 refine⟨x % 10 ^ 30,(md (n:=10 ^ 30)).1,?_⟩;generalize hr:x % 10 ^ 30=r;have e1:gZ [some (.int x),none,none] S=.ok (.next [some (.int x),some (.int r),none]) S:=by unfold gZ;simp? [PF,mod_lit (show(0:Int)<10 ^ 30 by decide),hr]
 have e2:bA [some (.int x),some (.int r),none] S=.ok (.next [some (.int x),some (.int r),some (.loc S.length)]) (S++[.lst nA]):=by unfold bA;simp? [SK]
 have a3:jE (.val (.loc S.length)) (.new (nB r)) (S++[.lst nA])=.ok (.new (nA++nB r)) (S++[.lst nA]):=fM (rP (aP _ _)) rfl (fits (show 6+4<=1000000 by decide));have e3:bB [some (.int x),some (.int r),some (.loc S.length)] (S++[.lst nA])=.ok (.next [some (.int x),some (.int r),some (.loc (S.length+1))]) (S++[.lst nA,.lst (nA++nB r)]):=by unfold bB;simp? [SK,PF,SJ,a3,show∀a:MO,(S++[a]).length=S.length+1 from λa=>by rw[lA];rfl];rw[aA];rfl
 have a4:jE (.val (.loc (S.length+1))) (.new (nC r)) (S++[.lst nA,.lst (nA++nB r)])=.ok (.new (nA++nB r++nC r)) (S++[.lst nA,.lst (nA++nB r)]):=fM (rP (XF _ _ _)) rfl (fits (show 10+4<=1000000 by decide));have e4:bC [some (.int x),some (.int r),some (.loc (S.length+1))] (S++[.lst nA,.lst (nA++nB r)])=.ok (.ret (.new (nA++nB r++nC r))) (S++[.lst nA,.lst (nA++nB r)]):=by unfold bC;simp? [Io,SJ,a4]
 refine IQ (T:=[.lst nA,.lst (nA++nB r)]) rfl ?_ (by simp[uQ,lo]);show yA (nG [some (.int x),none,none] S)=_;unfold nG;rw[zF e1,zF e2,zF e3,e4];rfl
def TOk2(ts:Og):Prop:= ∃a:Int,0<=a/\a<=2/\(ts=[.tup [.int 2,.int a]]\/ts=[.tup [.int 2,.int a],.tup [.int 1,.int 1]])
section
variable{ts:Og}(hT:TOk2 ts)
include hT
def TOk2.tb: ∀p∈ts,DA p=true:=by
 obtain⟨a,h0,h2,rfl|rfl⟩:=hT
 .simp[DA,pr,Mj,inB,h0];omega
 .simp[DA,pr,Mj,inB,h0];omega
def TOk2.facts:ts.length<=4/\(∀d∈ts,pq d=true)/\jO (.tup ts)<9/\pO ts=none:=by
 have h:=hT.tb;obtain⟨a,h0,h2,rfl|rfl⟩:=hT
 .simp[pq,CZ,jO,nW,pO,MN,h]
 .simp[pq,CZ,jO,nW,pO,MN,h]
def TOk2.no{r:Int}(hr:0<=r): ∀d∈nA++nB r++nC r, ∃t cs,d=.tup [t,cs]/\pq d=true/\ES ts d=false:=by
 have h1: ¬(1000000000000000000000000000000+r<1000000000000000000000000000000):=by omega
 obtain⟨a,h0,h2,rfl|rfl⟩:=hT
 .simp[pq,CZ,ES,pr,Cp,SL,pE,DB,EQ,ZC,ZA];omega
 .simp[pq,CZ,ES,pr,Cp,SL,pE,DB,EQ,ZC,ZA];omega
end
def BQ{n:Nat}{F:List MV->Sto->R Er}{rs:List Er}{S:Sto}{l:Nat}{ds:Og}{d:MV}(hn:rs.length=n)(hF:F (zM rs S).1 (zM rs S).2=.ok (.val d) (S.set l (.lst ds)))(h:lo S.length d)(hd: ∀l,d≠.loc l)(hs:uQ S.length ds):zR n F rs S=.ok (.val d) (S.set l (.lst ds)):=by
 unfold zR;rw[iP hn,hF,aW,pD];unfold dC
 have hc:OK S (S.set l (.lst ds)):=⟨by rw[List.length_set];exact Nat.le_refl _,λi hi=>by
  by_cases e:l=i
  .subst e;exact .inr ⟨_,getElem?_set_self hi,hs⟩
  .exact .inl (getElem?_set_ne e)⟩
 rw[iP hc];have e:(S.set l (.lst ds)).take S.length=S.set l (.lst ds):=List.take_of_length_le (by rw[List.length_set];exact Nat.le_refl _)
 cases d with
 |loc l=>exact absurd rfl (hd l)
 |_=>dsimp only;rw[iP h,e]
theorem sI{gf:MV->Rho->Sto->R Rho}{body:AY}{ρ:Option MV->Rho}{S:Sto}(hg: ∀x d,gf d (ρ x) S=.ok (ρ (some d)) S): ∀(ds:Og)(x:Oh),(∀d∈ds,body (ρ (some d)) S=.ok (.next (ρ (some d))) S)-> ∃y,eT gf body [] ds (ρ x) S=.ok (.next (ρ y)) S
 |[],x,_=>⟨x,rfl⟩
 |d::ds,x,h=>by obtain⟨y,e⟩:=sI hg ds (some d) λe he=>h e (mO _ he);exact⟨y,by rw[rN (hg x d) (h d mF0) (AW _),e]⟩
def Cz{ds:Og}{d:MV}:lE (ds++[d]) (-1)=some d:=by
 have h:HS (ds++[d]).length (-1)=some ds.length:=by unfold HS;rw[lA];simp;omega
 unfold lE;rw[h];simp
theorem YN{ds:Og}{d:MV}:qZ (ds++[d]) none (some (-1))=ds:=by show((ds++[d]).drop 0).take ((-1+(((ds++[d]).length:Nat):Int)).toNat - 0)=ds;rw[List.drop_zero,show(-1+(((ds++[d]).length:Nat):Int)).toNat - 0=ds.length by rw[lA,lS];omega,List.take_left'];rfl
def QE{S:Sto}{d:MV}(h:pq d=true)(hd:jO d<40):TC (.val d) (.val d) S=.ok (.val (.bl false)) S:=LU (eqv_refl (yK+1) h (by unfold yK;omega))
abbrev row(k v:Int):MV:=.tup [.int 0,.tup [.int k,.int v]]
def RwsOk(L:Og):Prop:= ∀i d,L[i]? =some d-> ∃v:Int,d=row (i:Nat) v/\0<=v/\v<1000000000
def RwsOk.mem{L:Og}(h:RwsOk L){d:MV}(hd:d∈L): ∃(i:Nat)(v:Int),i<L.length/\d=row i v/\0<=v/\v<1000000000:=by obtain⟨i,hi,rfl⟩:=List.mem_iff_getElem.mp hd;obtain⟨v,e,h1,h2⟩:=h i _ (gE hi);exact⟨i,v,hi,e,h1,h2⟩
def qH{k v:Int}:pq (row k v)=true:=by simp[pq,CZ]
def YO{k v:Int}:pd (row k v)=true/\jO (row k v)<40:=by simp[pd,SH,jO,nW]
def RwsOk.pd{L:Og}(h:RwsOk L): ∀y∈L,L2.M.My.pd y=true/\jO y<40:=λy hy=>by obtain⟨i,v,_,rfl,_⟩:=h.mem hy;exact YO
def YQ{ts:Og}(hT:TOk2 ts){k:Nat}{v:Int}(hk:k<=60)(h0:0<=v)(h1:v<1000000000):ES ts (row k v)=true:=by
 obtain⟨a,_,_,rfl|rfl⟩:=hT
 .simp[ES,pr,Cp,SL,pE,DB,EQ];omega
 .simp[ES,pr,Cp,SL,pE,DB,EQ];omega
abbrev ann:MV:=.tup [.str [97,110,110],.str [98,111,98]]
def Ji{ts:Og}(hT:TOk2 ts):ES ts (.tup [.int 0,ann])=true:=by
 obtain⟨a,_,_,rfl|rfl⟩:=hT
 .simp[ES,pr,Cp,SL,pE,DB,EQ,ZC,ZA]
 .simp[ES,pr,Cp,SL,pE,DB,EQ,ZC,ZA]
def HB:pq (.tup [.int 0,ann])=true:=by simp[pq,CZ]
abbrev LF(sc:MV)(h n:Int)(ts:Og)(k du wh rw fa nu pa:Oh):Rho:=[some sc,some (.int h),some (.int n),some (.tup ts),some (.loc 0),some (.loc 2),k,du,wh,rw,fa,nu,pa]
abbrev ST(ts L R:Og):Sto:=[Led ts 1,.lst L,.lst R]
def Jj{L:Og}(h:RwsOk L)(n:Nat):uQ n L:=sY λe he=>by obtain⟨i,v,_,rfl,_⟩:=h.mem he;exact Td.lo (n:=2) ⟨qH,by simp[jO,nW]⟩ n
def JK{L:Og}(h:RwsOk L){v:Int}(h0:0<=v)(h1:v<1000000000):RwsOk (L++[row L.length v]):=λi d e=>by
 by_cases hi:i<L.length
 .rw[getElem?_append_left hi]at e;exact h i d e
 .rw[getElem?_append_right (by omega)]at e;by_cases hz:i - L.length=0
  .rw[hz]at e;have:i=L.length:=by omega
   subst this;exact⟨v,by simpa using e.symm,h0,h1⟩
  .rw[List.getElem?_eq_none (by simp;omega)]at e;cases e
section
variable{ns:Nb}{h n:Int}{ts L:Og}{rw:Oh}
abbrev SC(ns:Nb):MV:=.scr (ns.map MV.int)
def turn(hT:TOk2 ts)(hL:RwsOk L)(h60:L.length<60): ∃v:Int,(0<=v/\v<1000000000)/\vD (LF (SC ns) h n ts (some (.int L.length)) none none none none none none) (ST ts L L)=.ok (.next (LF (SC ns) h n ts (some (.int L.length)) none none none none none none)) (ST ts (L++[row L.length v]) (L++[row L.length v])):=by
 obtain⟨c,hc⟩:=oZ ns 1 (by decide) (ST ts L L);obtain⟨m,hm,_⟩:=mix5 (c+L.length) 2147483587 (by decide) (ST ts L L);refine⟨m % 1000000000,md,?_⟩;generalize hv:m % 1000000000=v;have hv0:0<=v/\v<1000000000:=hv▸md;have e1:tO (LF (SC ns) h n ts (some (.int L.length)) none none none none none none) (ST ts L L)=.ok (.next (LF (SC ns) h n ts (some (.int L.length)) none none none none none none)) (ST ts L (L++[row L.length v])):=by unfold tO;simp? [vF (S:=ST ts L L) (l:=2) rfl,hc,hm,show∀S,uS (.val (.int 10)) (.val (.int 9)) S=.ok (.val (.int 1000000000)) S from λ_=>rfl,mod_lit (show(0:Int)<1000000000 by decide),hv,GR (S:=ST ts L L) (l:=2) rfl (show L.length<1000000 by omega)]
 have hp:=YJ (S:=ST ts L (L++[row L.length v])) (g:=0) (t:=.int 0) (cs:=.tup [.int L.length,.int v]) rfl rfl h60 hT.tb qH (YQ hT (le_of_lt h60) hv0.1 hv0.2) hL.pd (λhi=>by obtain⟨i,w,hi,e,_⟩:=hL.mem hi;simp at e;omega);have hc3:zR 3 zP [.val (.loc 0),.val (.int 0),.val (.tup [.int L.length,.int v])] (ST ts L (L++[row L.length v]))=.ok (.val (.int L.length)) (ST ts (L++[row L.length v]) (L++[row L.length v])):=BQ (n:=3) (F:=zP) (rs:=[.val (.loc 0),.val (.int 0),.val (.tup [.int L.length,.int v])]) (S:=ST ts L (L++[row L.length v])) (l:=1) rfl hp (AU _ _) (λl=>by simp) (Jj (JK hL hv0.1 hv0.2) _);have ix:xS (.val (.loc 2)) (.val (.int L.length)) (ST ts L (L++[row L.length v]))=.ok (.val (row L.length v)) (ST ts L (L++[row L.length v])):=LV rfl (by unfold lE HS;rw[lA,iP (by omega),iP (by rw[lS];omega)];simp);have hj:=QC (S:=ST ts L (L++[row L.length v])) (g:=0) (l:=1) (ts:=ts) (n:=3) (F:=zP) (m:="put") (f:=vJ 4) (af:=yJ (dJ xS (dJ xS (vJ 5) (vJ 6)) (kJ (.int 0))) (yJ (dJ xS (dJ xS (vJ 5) (vJ 6)) (kJ (.int 1))) wJ)) (ρ:=LF (SC ns) h n ts (some (.int L.length)) none none none none none none) (rs:=[.val (.int 0),.val (.tup [.int L.length,.int v])]) rfl rfl rfl (by simp? [ix,JF,SI]);have e2:tP (LF (SC ns) h n ts (some (.int L.length)) none none none none none none) (ST ts L (L++[row L.length v]))=.ok (.next (LF (SC ns) h n ts (some (.int L.length)) none none none none none none)) (ST ts (L++[row L.length v]) (L++[row L.length v])):=by unfold tP iJ;simp only[bJ,dJ,hj,hc3,pD];simp? [QE (oA (L.length:Int)) (show jO (.int (L.length:Int))<40 by simp[jO]),fT,iF]
 unfold vD;rw[zF e1,e2]
end
section
variable{ns:Nb}{h n:Int}{ts:Og}
theorem JM(hT:TOk2 ts): ∀(m:Nat)(L:Og)(x:Oh),RwsOk L->L.length+m<=60-> ∃L' y,L'.length=L.length+m/\RwsOk L'/\eT (iW 6) vD [] ((List.range' L.length m).map λk=>MV.int (k:Nat)) (LF (SC ns) h n ts x none none none none none none) (ST ts L L)=.ok (.next (LF (SC ns) h n ts y none none none none none none)) (ST ts L' L')
 |0,L,x,hL,_=>⟨L,x,rfl,hL,rfl⟩
 |m+1,L,x,hL,h60=>by
  obtain⟨v,⟨v0,v1⟩,e⟩:=turn (ns:=ns) (h:=h) (n:=n) hT hL (by omega);have hl:(L++[row L.length v]).length=L.length+1:=by rw[lA];rfl
  obtain⟨L',y,h1,h2,h3⟩:=JM hT m (L++[row L.length v]) (some (.int L.length)) (JK hL v0 v1) (by omega);refine⟨L',y,by omega,h2,?_⟩;rw[List.range'_succ,List.map_cons,rN (ρ0:=LF (SC ns) h n ts (some (.int L.length)) none none none none none none) rfl e (AW _), <-h3,hl]
end
abbrev LG(ns:Nb)(h:Int)(ts L:Og)(k rw fa nu pa:Oh):Rho:=LF (SC ns) h L.length ts k (some (.tup [.tup ts,.tup [],.tup L])) (some (.int (if L.length<60 then 3 else 0))) rw fa nu pa
section
variable{ns:Nb}{h:Int}{ts L:Og}{k rw fa nu pa:Oh}
def ET(hl:L.length<=60):(L.length:Int) / 60=if L.length<60 then 0 else 1:=by
 split
 .omega
 .omega
def b_2(hT:TOk2 ts)(hl:L.length<=60){r:Int}(hr:0<=r){d:MV}(hd:d∈nA++nB r++nC r):vE (LG ns h ts L k (some d) fa nu pa) (ST ts L L)=.ok (.next (LG ns h ts L k (some d) fa nu pa)) (ST ts L L):=by
 obtain⟨t,cs,rfl,hq,hn⟩:=hT.no hr d hd;unfold vE EL;by_cases h6:L.length<60
 .have e:=Mp (S:=ST ts L L) (g:=0) rfl rfl h6 hT.tb hq hn;have ix: ∀S,xS (.new [.int L.length,.non]) (.val (.int 0)) S=.ok (.val (.int L.length)) S:=λS=>fN rfl;simp? [bF (b:=60) (by decide) (by decide),ET hl,iP h6,ix,e,Bool.not_true,fT,iF]
 .have e:=QD (S:=ST ts L L) (g:=0) (t:=t) (cs:=cs) rfl rfl (by omega);have ix: ∀S,xS (.new [.int L.length,.non]) (.val (.int 1)) S=.ok (.val .non) S:=λS=>fN rfl;simp? [bF (b:=60) (by decide) (by decide),ET hl,iN0 h6,ix,e,Bool.not_true,fT,iF]
def l_9(hT:TOk2 ts)(hl:L.length<=60): ∃y,GQ (LG ns h ts L k rw fa nu pa) (ST ts L L)=.ok (.next (LG ns h ts L k y fa nu pa)) (ST ts L L):=by obtain⟨c,hc⟩:=oZ ns 2 (by decide) (ST ts L L);obtain⟨r,hr,hn⟩:=MU c (ST ts L L);obtain⟨y,hy⟩:=sI (gf:=iW 9) (body:=vE) (ρ:=λx=>LG ns h ts L k x fa nu pa) (S:=ST ts L L) (λ_ _=>rfl) _ rw λd hd=>b_2 hT hl hr hd;refine⟨y,?_⟩;unfold GQ;simp? [hc,hn,show∀ds S,Di (.new ds) S=.ok ⟨ds,[]⟩ S from λ_ _=>rfl];exact hy
def l_10(hT:TOk2 ts)(hL:RwsOk L)(hl:L.length<=60): ∃y,sE (LG ns h ts L k rw fa nu pa) (ST ts L L)=.ok (.next (LG ns h ts L k y fa nu pa)) (ST ts L L):=by
 obtain⟨c,hc⟩:=oZ ns 3 (by decide) (ST ts L L);by_cases h0:L.length=0
 .refine⟨rw,?_⟩;unfold sE;simp? [gt_int,dF0 (show¬(0:Int)<L.length by omega),fT,iF]
 .have hp:(0:Int)<L.length:=by omega
  have hm:=md (x:=c) hp;obtain⟨d,hd⟩:=FX (xs:=L) hm.1 hm.2;have hi:d∈L:=FY (P:=λd=>d∈L) (λe he=>he) hd;obtain⟨i,v,hi60,rfl,v0,v1⟩:=hL.mem hi;have ix:xS (.val (.loc 2)) (.val (.int (c % L.length))) (ST ts L L)=.ok (.val (row i v)) (ST ts L L):=LV rfl hd;refine⟨some (row i v),?_⟩;unfold sE;by_cases h6:L.length<60
  .have e:=YM (S:=ST ts L L) (g:=0) (t:=.int 0) (cs:=.tup [.int i,.int v]) rfl rfl h6 hT.tb qH (YQ hT (by omega) v0 v1) hL.pd hi;have i1: ∀S,xS (.new [.int L.length,.non]) (.val (.int 0)) S=.ok (.val (.int L.length)) S:=λS=>fN rfl;have i2: ∀S,xS (.new [.int 4,.int 0]) (.val (.int 0)) S=.ok (.val (.int 4)) S:=λS=>fN rfl;simp? [gt_int,dT0 hp,hc,mod_lit hp,ix];refine MQ (F:=CJ _ 9) (ρ':=LG ns h ts L k (some (row i v)) fa nu pa) (S':=ST ts L L) ?_ ?_
   .simp? [hc,mod_lit hp,ix]
   .simp? [bF (b:=60) (by decide) (by decide),ET hl,iP h6,i1,i2,e,Bool.not_true,fT,iF]
  .have e:=QD (S:=ST ts L L) (g:=0) (t:=.int 0) (cs:=.tup [.int i,.int v]) rfl rfl (by omega);have i1: ∀S,xS (.new [.int L.length,.non]) (.val (.int 1)) S=.ok (.val .non) S:=λS=>fN rfl;have i2: ∀S,xS (.new [.int 4,.int 0]) (.val (.int 1)) S=.ok (.val (.int 0)) S:=λS=>fN rfl;simp? [gt_int,dT0 hp,hc,mod_lit hp,ix];refine MQ (F:=CJ _ 9) (ρ':=LG ns h ts L k (some (row i v)) fa nu pa) (S':=ST ts L L) ?_ ?_
   .simp? [hc,mod_lit hp,ix]
   .simp? [bF (b:=60) (by decide) (by decide),ET hl,iN0 h6,i1,i2,e,Bool.not_true,fT,iF]
def l_11: ∃r:Int,0<=r/\BI (LG ns h ts L k rw fa nu pa) (ST ts L L)=.ok (.next (LG ns h ts L k rw (some (.int r)) nu pa)) (ST ts L L):=by obtain⟨c,hc⟩:=oZ ns 4 (by decide) (ST ts L L);refine⟨c % 10 ^ 30,(md (n:=10 ^ 30)).1,?_⟩;unfold BI;simp? [hc,PF,mod_lit (show(0:Int)<10 ^ 30 by decide)]
def l_12{r:Int}(hr:0<=r): ∃y,BK (LG ns h ts L k rw (some (.int r)) nu pa) (ST ts L L)=.ok (.next (LG ns h ts L k rw (some (.int r)) y pa)) (ST ts L L):=by
 obtain⟨y,hy⟩:=sI (gf:=iW 11) (body:=GF) (ρ:=λx=>LG ns h ts L k rw (some (.int r)) x pa) (S:=ST ts L L) (λ_ _=>rfl) [.int L.length,.int (-1),.int (L.length+1+r),.int (-2 - r)] nu λd hd=>by
  have hd:pq d=true/\inB L.length d=false:=by simp only[mC,nM,or_false]at hd;rcases hd with rfl|rfl|rfl|rfl<;>refine⟨oA _,?_⟩<;>simp[inB]<;>omega
  unfold GF EM;simp? [Cy (S:=ST ts L L) (g:=0) rfl rfl hd.1 hd.2,Bool.not_true,fT,iF]
 refine⟨y,?_⟩;unfold BK;simp? [SJ,show∀ds S,Di (.new ds) S=.ok ⟨ds,[]⟩ S from λ_ _=>rfl];exact hy
def l_13: ∃y,BL (LG ns h ts L k rw fa nu pa) (ST ts L L)=.ok (.next (LG ns h ts L k rw fa nu y)) (ST ts L L):=by
 obtain⟨y,hy⟩:=sI (gf:=iW 12) (body:=GH) (ρ:=λx=>LG ns h ts L k rw fa nu x) (S:=ST ts L L) (λ_ _=>rfl) [w1,w2,w3,w4,w5] pa λd hd=>by
  have hd: ∃a b c e,d=.tup [a,b,c,e]/\zR 4 xG [.val a,.val b,.val c,.val e] (ST ts L L)=.ok (.val (.bl true)) (ST ts L L):=by
   simp only[mC,nM,or_false]at hd;rcases hd with rfl|rfl|rfl|rfl|rfl
   .exact⟨_,_,_,_,rfl,m_1 _⟩
   .exact⟨_,_,_,_,rfl,m_2 _⟩
   .exact⟨_,_,_,_,rfl,m_3 _⟩
   .exact⟨_,_,_,_,rfl,m_4 _⟩
   .exact⟨_,_,_,_,rfl,m_5 _⟩
  obtain⟨a,b,c,e,rfl,hm⟩:=hd;have i0: ∀S,xS (.val (.tup [a,b,c,e])) (.val (.int 0)) S=.ok (.val a) S:=λ_=>rfl;have i1: ∀S,xS (.val (.tup [a,b,c,e])) (.val (.int 1)) S=.ok (.val b) S:=λ_=>rfl;have i2: ∀S,xS (.val (.tup [a,b,c,e])) (.val (.int 2)) S=.ok (.val c) S:=λ_=>rfl;have i3: ∀S,xS (.val (.tup [a,b,c,e])) (.val (.int 3)) S=.ok (.val e) S:=λ_=>rfl;unfold GH EN;simp? [i0,i1,i2,i3,hm,Bool.not_true,fT,iF]
 refine⟨y,?_⟩;unfold BL;simp? [Mn,show∀ds S,Di (.new ds) S=.ok ⟨ds,[]⟩ S from λ_ _=>rfl];exact hy
end
section
variable{ns:Nb}{h:Int}{ts L R:Og}{k rw fa nu pa:Oh}
def HC(hT:TOk2 ts)(hL: ∀d∈L,pq d=true/\jO d<=8)(hl:L.length<=60):zR 1 yC [.val (.loc 0)] (ST ts L R)=.ok (.val (.tup [.tup ts,.tup [],.tup L])) (ST ts L R):=by
 refine oU rfl (Cw (S:=ST ts L R) (g:=0) rfl rfl) (PN 30 ?_ ?_) (λl=>by simp)
 .have h1:jO (.tup L)<=9:=by rw[kU];exact Nat.succ_le_succ (vG λd hd=>(hL d hd).2)
  have h2:=hT.facts.2.2.1;rw[kU,xL,xL,xL,bR,kU [],bR];omega
 .refine oB (λd hd=>?_) (by simp);simp only[mC,nM,or_false]at hd;rcases hd with rfl|rfl|rfl
  .exact oB hT.facts.2.1 (by have:=hT.facts.1;omega)
  .exact by simp[pq,CZ]
  .exact oB (λd hd=>(hL d hd).1) (by omega)
def MW(hL:RwsOk L): ∀d∈L,pq d=true/\jO d<=8:=λd hd=>by obtain⟨i,v,_,rfl,_⟩:=hL.mem hd;exact⟨qH,by simp[jO,nW]⟩
def YR(hT:TOk2 ts)(hL: ∀d∈L,pq d=true/\jO d<=8)(hl:L.length<=60):pq (.tup [.tup ts,.tup [],.tup L])=true/\jO (.tup [.tup ts,.tup [],.tup L])<40/\pq (.tup L)=true/\jO (.tup L)<40:=by
 have h1:jO (.tup L)<=9:=by rw[kU];exact Nat.succ_le_succ (vG λd hd=>(hL d hd).2)
 have h2:=hT.facts.2.2.1;have h3:pq (.tup L)=true:=oB (λd hd=>(hL d hd).1) (by omega);refine⟨oB (λd hd=>?_) (by simp),?_,h3,by omega⟩
 .simp only[mC,nM,or_false]at hd;rcases hd with rfl|rfl|rfl
  .exact oB hT.facts.2.1 (by have:=hT.facts.1;omega)
  .exact by simp[pq,CZ]
  .exact h3
 .rw[kU,xL,xL,xL,bR,kU [],bR];omega
def l_14(hT:TOk2 ts)(hL:RwsOk L)(hl:L.length<=60):BM (LG ns h ts L k rw fa nu pa) (ST ts L L)=.ok (.next (LG ns h ts L k rw fa nu pa)) (ST ts L L):=by have hz:=YL (S:=ST ts L L) (g:=0) (l:=1) (ts:=ts) (F:=yC) (m:="book") (f:=vJ 4) (ρ:=LG ns h ts L k rw fa nu pa) rfl rfl rfl;have hp:=YR hT (MW hL) hl;unfold BM iJ;simp only[bJ,dJ,hz,HC hT (MW hL) hl,pD];simp? [QE hp.1 hp.2.1,fT,iF]
def QF(hT:TOk2 ts)(hL: ∀d∈L, ∃i v:Int,d=row i v)(hl:L.length<60):zR 3 zP [.val (.loc 0),.val (.int 0),.val ann] (ST ts L R)=.ok (.val (.int L.length)) (ST ts (L++[.tup [.int 0,ann]]) R):=by
 have hp:=YJ (S:=ST ts L R) (g:=0) (t:=.int 0) (cs:=ann) rfl rfl hl hT.tb HB (Ji hT) (λy hy=>by obtain⟨i,v,rfl⟩:=hL y hy;exact YO) (λhi=>by obtain⟨i,v,e⟩:=hL _ hi;simp at e);refine BQ (n:=3) (F:=zP) (rs:=[.val (.loc 0),.val (.int 0),.val ann]) (S:=ST ts L R) (l:=1) rfl hp (AU _ _) (λl=>by simp) (sY λe he=>?_);rcases List.mem_append.mp he with he|he
 .obtain⟨i,v,rfl⟩:=hL e he;exact Td.lo (n:=2) ⟨qH,by simp[jO,nW]⟩ _
 .rw[mS.mp he];exact Td.lo (n:=2) ⟨HB,by simp[jO,nW]⟩ _
def JN(hL: ∀d∈L, ∃i v:Int,d=row i v): ∀d∈L++[.tup [.int 0,ann]],pq d=true/\jO d<=8:=λd hd=>by
 rcases List.mem_append.mp hd with hd|hd
 .obtain⟨i,v,rfl⟩:=hL d hd;exact⟨qH,by simp[jO,nW]⟩
 .rw[mS.mp hd];exact⟨HB,by simp[jO,nW]⟩
def RwsOk.shape(hL:RwsOk L): ∀d∈L, ∃i v:Int,d=row i v:=λd hd=>by obtain⟨i,v,_,e,_⟩:=hL.mem hd;exact⟨i,v,e⟩
def l_16(hT:TOk2 ts)(hL:RwsOk L)(hl:L.length<60):BN (LG ns h ts L k rw fa nu pa) (ST ts L L)=.ok (.ret (.val (.bl true))) (ST ts (L++[.tup [.int 0,ann]]) L):=by have hj:=QC (S:=ST ts L L) (g:=0) (l:=1) (ts:=ts) (n:=3) (F:=zP) (m:="put") (f:=vJ 4) (af:=yJ (kJ (.int 0)) (yJ (bJ (yJ (kJ (.str [97,110,110])) (yJ (kJ (.str [98,111,98])) wJ)) zY) wJ)) (ρ:=LG ns h ts L k rw fa nu pa) (rs:=[.val (.int 0),.val ann]) rfl rfl rfl (by simp? [pD]);have hz:=YL (S:=ST ts (L++[.tup [.int 0,ann]]) L) (g:=0) (l:=1) (ts:=ts) (F:=yC) (m:="book") (f:=vJ 4) (ρ:=LG ns h ts L k rw fa nu pa) rfl rfl rfl;have hb:=HC (R:=L) hT (JN hL.shape) (by rw[lA];exact hl);have hp:=YR hT (MW hL) (le_of_lt hl);have i2: ∀(M:Og) S,xS (.val (.tup [.tup ts,.tup [],.tup M])) (.val (.int 2)) S=.ok (.val (.tup M)) S:=λ_ _=>rfl;unfold BN AJ aJ;simp only[dJ,hj,QF hT hL.shape hl,pD];simp only[vJ,List.getElem?_cons_zero,List.getElem?_cons_succ,OS,pD,iE (oA (L.length:Int)) (show jO (.int (L.length:Int))<40 by simp[jO]),fH,WF,tJ,dJ,if_true];rw[show RZ "Ledger" "book" yC (vJ 4) (LG ns h ts L k rw fa nu pa) (ST ts (L++[.tup [.int 0,ann]]) L)=_ from hz.trans hb];simp? [i2,PV,YN,iE hp.2.2.1 hp.2.2.2]
def Mr(hl:L.length<60):mY (LG ns h ts L k rw fa nu pa) (ST ts L L)=.ok (.next (LG ns h ts L k rw fa nu pa)) (ST ts L L):=by unfold mY;simp? [dF0 (show¬(L.length:Int)=60 by omega),fT,iF]
def l_15(hT:TOk2 ts)(hL:RwsOk L)(hl:L.length=60): ∃S,mY (LG ns h ts L k rw fa nu pa) (ST ts L L)=.ok (.ret (.val (.bl true))) S:=by
 obtain⟨c,hc⟩:=oZ ns 3 (by decide) (ST ts L L);have hm:=md (x:=c) (n:=60);obtain⟨q,hq⟩: ∃q:Nat,c % 60=(q:Nat):=⟨(c % 60).toNat,by omega⟩
 have hq6:q<L.length:=by omega
 generalize hM:L.eraseIdx q=M;have hMl:M.length=59:=by rw[<-hM,List.length_eraseIdx_of_lt hq6];omega
 have hMs: ∀d∈M, ∃i v:Int,d=row i v:=λd hd=>hL.shape d (by rw[<-hM]at hd;exact List.mem_of_mem_eraseIdx hd);have hj:=QC (S:=ST ts L L) (g:=0) (l:=1) (ts:=ts) (n:=2) (F:=yB) (m:="take") (f:=vJ 4) (af:=yJ (dJ lU (fJ 2 zU (yJ (vJ 0) (yJ (kJ (.int 3)) wJ))) (kJ (.int 60))) wJ) (ρ:=LG ns h ts L k rw fa nu pa) (rs:=[.val (.int q)]) rfl rfl rfl (by simp? [hc,mod_lit (show(0:Int)<60 by decide),hq]);have ht:=Cv (S:=ST ts L L) (g:=0) (k:=q) rfl rfl hq6 (by omega);rw[hM]at ht;have hc2:zR 2 yB [.val (.loc 0),.val (.int q)] (ST ts L L)=.ok (.val .non) (ST ts M L):=BQ (n:=2) (F:=yB) (rs:=[.val (.loc 0),.val (.int q)]) (S:=ST ts L L) (l:=1) rfl ht (AV _) (λl=>by simp) (sY λe he=>by obtain⟨i,v,rfl⟩:=hMs e he;exact Td.lo (n:=2) ⟨qH,by simp[jO,nW]⟩ _);have hj2:=QC (S:=ST ts M L) (g:=0) (l:=1) (ts:=ts) (n:=3) (F:=zP) (m:="put") (f:=vJ 4) (af:=yJ (kJ (.int 0)) (yJ (bJ (yJ (kJ (.str [97,110,110])) (yJ (kJ (.str [98,111,98])) wJ)) zY) wJ)) (ρ:=LG ns h ts L k rw fa nu pa) (rs:=[.val (.int 0),.val ann]) rfl rfl rfl (by simp? [pD]);have hz:=YL (S:=ST ts (M++[.tup [.int 0,ann]]) L) (g:=0) (l:=1) (ts:=ts) (F:=yC) (m:="book") (f:=vJ 4) (ρ:=LG ns h ts L k rw fa nu pa) rfl rfl rfl;have hb:=HC (R:=L) hT (JN hMs) (by rw[lA,hMl];decide);have i2: ∀(M:Og) S,xS (.val (.tup [.tup ts,.tup [],.tup M])) (.val (.int 2)) S=.ok (.val (.tup M)) S:=λ_ _=>rfl;have i3: ∀S,xS (.val (.tup (M++[.tup [.int 0,ann]]))) (.val (.int (-1))) S=.ok (.val (.tup [.int 0,ann])) S:=λS=>SqM.ix (.inl rfl) Cz;refine⟨ST ts (M++[.tup [.int 0,ann]]) L,?_⟩;unfold mY iJ;rw[show bJ (dJ pY (vJ 2) (kJ (.int 60))) aV (LG ns h ts L k rw fa nu pa) (ST ts L L)=.ok true (ST ts L L) by simp? [dT0 (show(L.length:Int)=60 by omega)],pD,iP rfl];refine MQ (ρ':=LG ns h ts L k rw fa nu pa) (S':=ST ts M L) ?_ ?_
 .unfold BJ;rw[hj,hc2];rfl
 .unfold AJ aJ;simp only[dJ,hj2,QF hT hMs (show M.length<60 by omega),pD];rw[hMl];simp only[kJ,pD,iE (S:=ST ts (M++[.tup [.int 0,ann]]) L) (oA ((59:Nat):Int)) (show jO (.int ((59:Nat):Int))<40 by simp[jO]),show((59:Nat):Int)=59 from rfl,iE (S:=ST ts (M++[.tup [.int 0,ann]]) L) (oA 59) (show jO (.int 59)<40 by simp[jO]),fH,WF,if_true,dJ];rw[show RZ "Ledger" "book" yC (vJ 4) (LG ns h ts L k rw fa nu pa) (ST ts (M++[.tup [.int 0,ann]]) L)=_ from hz.trans hb];simp? [i2,i3,iE HB (show jO (.tup [.int 0,ann])<40 by simp[jO,nW])]
end
def Da(x:Int)(S:Sto): ∃n:Nat,n<=60/\xS (.new [.int 0,.int 1,.int 59,.int 60,.int 60,.int (x / 6 % 61)]) (.val (.int (x % 6))) S=.ok (.val (.int n)) S:=by
 have hm:=md (x:=x) (n:=6);obtain⟨d,hd⟩:=FX (xs:=[MV.int 0,.int 1,.int 59,.int 60,.int 60,.int (x / 6 % 61)]) hm.1 (by simpa using hm.2)
 obtain⟨n,hn,rfl⟩: ∃n:Nat,n<=60/\d=.int n:=FY (P:=λd=> ∃n:Nat,n<=60/\d=.int n) (λe he=>by
  have h6:=md (x:=x / 6) (n:=61);simp only[mC,nM,or_false]at he;rcases he with rfl|rfl|rfl|rfl|rfl|rfl
  .exact⟨0,by decide,rfl⟩
  .exact⟨1,by decide,rfl⟩
  .exact⟨59,by decide,rfl⟩
  .exact⟨60,by decide,rfl⟩
  .exact⟨60,by decide,rfl⟩
  .exact⟨(x / 6 % 61).toNat,by omega,by congr 1;omega⟩) hd
 exact⟨n,hn,fN hd⟩
theorem tabs_ok(x:Int):TOk2 (qZ [.tup [.int 2,.int (x / 366 % 3)],.tup [.int 1,.int 1]] none (some (1+x / 1098 % 2))):=by
 have h3:=md (x:=x / 366) (n:=3);have h2:=md (x:=x / 1098) (n:=2);refine⟨x / 366 % 3,h3.1,by omega,?_⟩;have:x / 1098 % 2=0\/x / 1098 % 2=1:=by omega
 rcases this with e|e
 .rw[e];exact .inl rfl
 .rw[e];exact .inr rfl
def YS(ns:Nb)(hns:ns.length<=63): ∃S,IX [.scr (ns.map MV.int)] []=.ok (.val (.bl true)) S:=by
 obtain⟨h,hh⟩:=oZ ns 0 (by decide) [];obtain⟨n,hn,hix⟩:=Da h [];have hT:=tabs_ok h;generalize hts:qZ [MV.tup [.int 2,.int (h / 366 % 3)],.tup [.int 1,.int 1]] none (some (1+h / 1098 % 2))=ts at hT;have hf:=hT.facts;have e1:GI [some (SC ns),none,none,none,none,none,none,none,none,none,none,none,none] []=.ok (.next [some (SC ns),some (.int h),none,none,none,none,none,none,none,none,none,none,none]) []:=by unfold GI;simp? [hh]
 have e2:GK [some (SC ns),some (.int h),none,none,none,none,none,none,none,none,none,none,none] []=.ok (.next [some (SC ns),some (.int h),some (.int n),none,none,none,none,none,none,none,none,none,none]) []:=by unfold GK;simp? [bF (b:=6) (by decide) (by decide),mod_lit (show(0:Int)<61 by decide),mod_lit (show(0:Int)<6 by decide),hix]
 have e3:GL [some (SC ns),some (.int h),some (.int n),none,none,none,none,none,none,none,none,none,none] []=.ok (.next [some (SC ns),some (.int h),some (.int n),some (.tup ts),none,none,none,none,none,none,none,none,none]) []:=by unfold GL;simp? [bF (b:=366) (by decide) (by decide),mod_lit (show(0:Int)<3 by decide),bF (b:=1098) (by decide) (by decide),mod_lit (show(0:Int)<2 by decide),PV,show∀(i:Int) S,Jn (.val (.int i)) S=.ok (some i) S from λ_ _=>rfl,hts]
 have e4:GM [some (SC ns),some (.int h),some (.int n),some (.tup ts),none,none,none,none,none,none,none,none,none] []=.ok (.next [some (SC ns),some (.int h),some (.int n),some (.tup ts),some (.loc 0),none,none,none,none,none,none,none,none]) [Led ts 1,.lst []]:=by
  have hi:WY "Ledger" 3 zW [.val (.tup ts),.val .non] []=.ok (.val (.loc 0)) [Led ts 1,.lst []]:=by unfold WY;rw[iP (show([Er.val (.tup ts),Er.val .non]:List Er).length+1=3 from rfl),show zM [.val (.loc (List.length ([]:Sto))),Er.val (.tup ts),.val .non] (([]:Sto)++[.rcd "Ledger" []])=([.loc 0,.tup ts,.non],[.rcd "Ledger" []])from rfl];dsimp only;rw[Jf hf.1 hf.2.1 hf.2.2.1 hf.2.2.2,aW,pD];rfl
  unfold GM;simp? [List.cons_append,List.nil_append,hi]
 have e5:OZ [some (SC ns),some (.int h),some (.int n),some (.tup ts),some (.loc 0),none,none,none,none,none,none,none,none] [Led ts 1,.lst []]=.ok (.next (LF (SC ns) h n ts none none none none none none none)) (ST ts [] []):=rfl;obtain⟨L,k,hLn,hL,hl⟩:=JM (ns:=ns) (h:=h) (n:=n) hT n [] none (λi d e=>by simp at e) (by simpa using hn);have hLn:L.length=n:=by simpa using hLn
 have e6:GN (LF (SC ns) h n ts none none none none none none none) (ST ts [] [])=.ok (.next (LF (SC ns) h n ts k none none none none none none)) (ST ts L L):=by unfold GN;simp? [LW (S:=ST ts [] []) (j:=(n:Int)) (by omega),Int.toNat_natCast,List.range_eq_range'];exact hl
 subst hLn;have e7:GO (LF (SC ns) h L.length ts k none none none none none none) (ST ts L L)=.ok (.next (LF (SC ns) h L.length ts k (some (.tup [.tup ts,.tup [],.tup L])) none none none none none)) (ST ts L L):=by unfold GO;simp? [Io,tQ (S:=ST ts L L) (l:=2) rfl]
 have e8:GP (LF (SC ns) h L.length ts k (some (.tup [.tup ts,.tup [],.tup L])) none none none none none) (ST ts L L)=.ok (.next (LG ns h ts L k none none none none)) (ST ts L L):=by
  unfold GP;by_cases h6:L.length<60
  .simp? [bF (b:=60) (by decide) (by decide),ET hn,iP h6,show∀S,xS (.new [.int 3,.int 0]) (.val (.int 0)) S=.ok (.val (.int 3)) S from λS=>fN rfl];unfold LG;rw[iP h6]
  .simp? [bF (b:=60) (by decide) (by decide),ET hn,iN0 h6,show∀S,xS (.new [.int 3,.int 0]) (.val (.int 1)) S=.ok (.val (.int 0)) S from λS=>fN rfl];unfold LG;rw[iN0 h6]
 obtain⟨y9,e9⟩:=l_9 (ns:=ns) (h:=h) (k:=k) (rw:=none) (fa:=none) (nu:=none) (pa:=none) hT hn;obtain⟨y10,e10⟩:=l_10 (ns:=ns) (h:=h) (k:=k) (rw:=y9) (fa:=none) (nu:=none) (pa:=none) hT hL hn;obtain⟨r,hr,e11⟩:=l_11 (ns:=ns) (h:=h) (ts:=ts) (L:=L) (k:=k) (rw:=y10) (fa:=none) (nu:=none) (pa:=none);obtain⟨y12,e12⟩:=l_12 (ns:=ns) (h:=h) (ts:=ts) (L:=L) (k:=k) (rw:=y10) (nu:=none) (pa:=none) hr;obtain⟨y13,e13⟩:=l_13 (ns:=ns) (h:=h) (ts:=ts) (L:=L) (k:=k) (rw:=y10) (fa:=some (.int r)) (nu:=y12) (pa:=none);have e14:=l_14 (ns:=ns) (h:=h) (k:=k) (rw:=y10) (fa:=some (.int r)) (nu:=y12) (pa:=y13) hT hL hn;show∃S,yA (XD [some (SC ns),none,none,none,none,none,none,none,none,none,none,none,none] [])=_;unfold XD;rw[zF e1,zF e2,zF e3,zF e4,zF e5,zF e6,zF e7,zF e8,zF e9,zF e10,zF e11,zF e12,zF e13,zF e14];by_cases h6:L.length<60
 .rw[zF (Mr h6),l_16 hT hL h6];exact⟨_,rfl⟩
 .obtain⟨S,e⟩:=l_15 (ns:=ns) (h:=h) (k:=k) (rw:=y10) (fa:=some (.int r)) (nu:=y12) (pa:=y13) hT hL (by omega);rw[wG e];exact⟨_,rfl⟩
section
variable{P:Program}{w:World}{K:Od}{mg:Ni}{base:Heap}
abbrev YT(xl:Nat->Addr):List (Str×Addr):=[("TooGreat",xl 0),("NoText",xl 1),("NoPlace",xl 2),("NotPlain",xl 3),("NoTable",xl 4),("NoRule",xl 5),("NoRow",xl 6),("Twice",xl 7),("NoQuestion",xl 8),("Double",xl 9),("TooWide",xl 10),("Ring",xl 11)]
def vI{xl:Nat->Addr}:((YT xl).map (·.1)).Nodup:=show XNS.Nodup from by decide
def top(i:Nat):Stmt:=PySem.Challenge.pw_mendsure_k81_ledgers_that_refuse.main.body.getD i (.Pass ⟨0,0,0,0⟩)
abbrev oF:Stmt:=inClass (top 43) 0
def SO:FnScope ["self","place"] ["self","place"] (zE oF):=fsK (by decide+kernel)
abbrev fC:Stmt:=inClass (top 41) 0
def MX:FnScope ["self","place"] ["self","place"] (zE fC):=fsK (by decide+kernel)
abbrev nI:Stmt:=inClass (top 40) 0
def JO:FnScope ["self","place"] ["self","place"] (zE nI):=fsK (by decide+kernel)
abbrev oG:Stmt:=inClass (top 42) 0
def SQ:FnScope ["self","place"] ["self","place"] (zE oG):=fsK (by decide+kernel)
abbrev qI:Stmt:=top 3
def JP:FnScope ["thing"] ["thing"] (zE qI):=fsK (by decide+kernel)
def JQ(D:DefM K mg "is_whole" qI)(KB:mg "int"=none)(zG:mg "isinstance"=none)(qU:mg "bool"=none):(WT P w K mg base) "is_whole" 1 1 ["thing"] wA:=
 by have h:=GC (P:=P) (w:=w) (base:=base) D (λ_ _ _ _ _ _ us hl=>match us,hl with |[_],_=>rfl) λf fd F=>CU (k:=0) _ F JP λcdv A outer s H E hr=>(zK (zV (jS (yE eV sW rfl zG wZ (zA (zB 0) (zA (EB rfl KB Hc) zC))) (gT (VC (yE eV sW rfl zG wZ (zA (zB 0) (zA (EB rfl qU OR) zC))))))))
    exact h
abbrev pA:Stmt:=top 4
def MY:FnScope ["thing"] ["thing"] (zE pA):=fsK (by decide+kernel)
def MZ(D:DefM K mg "is_name" pA)(KD:mg "str"=none)(zG:mg "isinstance"=none)(wF:mg "len"=none){nR:Tok}(kQ:mg "MOST_LETTERS"=some (.int (8) nR))(sM:mg "all"=none):(WT P w K mg base) "is_name" 1 1 ["thing"] oW:=
 by have h:=GC (P:=P) (w:=w) (base:=base) D (λ_ _ _ _ _ _ us hl=>match us,hl with |[_],_=>rfl) λf fd F=>CU (k:=0) _ F MY λcdv A outer s H E hr=>(zH (xO (AI (uG (kE (yU (yE eV sW rfl zG wZ (zA (zB 0) (zA (EB rfl KD Hd) zC))))) (pW (kE (Ax zD (yE xA hV rfl wF hW (zA (zB 0) zC)) (fG rfl kQ)))))) (zK (zV bK)) yP) (zK (zV (yE fF (LQ rfl) rfl sM LR (zA (rG (zE pA) ["thing"] ["sign"] [] (Gk (zB 0)) rfl (λ_ _ _ _ hN=>(rE 0 hN)) (λ_ _ _ _=>rF) (λ_ _ _ _=>(FT (xY [97]) (zB 0) (xY [122])))) zC)))))
    exact h
abbrev qK:Stmt:=top 5
def JR:FnScope ["thing"] ["thing"] (zE qK):=fsK (by decide+kernel)
def JS(D:DefM K mg "is_value" qK)(nU:(WT P w K mg base) "is_whole" 1 1 ["thing"] wA)(JZ:mg "abs"=none)(SV:(WT P w K mg base) "is_name" 1 1 ["thing"] oW):(WT P w K mg base) "is_value" 2 1 ["thing"] gU:=
 by have h:=GC (P:=P) (w:=w) (base:=base) D (λ_ _ _ _ _ _ us hl=>match us,hl with |[_],_=>rfl) λf fd F=>CU (k:=1) _ F JR λcdv A outer s H E hr=>(zH (xO (yU (zN nU (hr.mono (by decide)) rfl (zA (zB 0) zC))) (zK (zV (Lf hr.units (yE UB Ha rfl JZ Hb (zA (zB 0) zC)) (pX zD zD)))) yP) (zK (zV (zN SV (hr.mono (by decide)) rfl (zA (zB 0) zC)))))
    exact h
abbrev qL:Stmt:=top 60
def JT:FnScope wO wO (zE qL):=fsK (by decide+kernel)
def JU(D:DefM K mg "is_tuple" qL)(wY:mg "tuple"=none)(zG:mg "isinstance"=none)(wF:mg "len"=none):(WT P w K mg base) "is_tuple" 1 3 wO yQ:=
 by have h:=GC (P:=P) (w:=w) (base:=base) D (λ_ _ _ _ _ _ us hl=>match us,hl with |[_,_,_],_=>rfl) λf fd F=>CU (k:=0) _ F JT λcdv A outer s H E hr=>(zK (zV (jS (yE eV sW rfl zG wZ (zA (zB 0) (zA (EB rfl wY dE) zC))) (gT (FT (zB 1) (yE xA hV rfl wF hW (zA (zB 0) zC)) (zB 2))))))
    exact h
abbrev gH:Stmt:=top 61
def qM:FnScope ["thing","bound"] ["thing","bound"] (zE gH):=fsK (by decide+kernel)
def qO(D:DefM K mg "is_number_below" gH)(nU:(WT P w K mg base) "is_whole" 1 1 ["thing"] wA):(WT P w K mg base) "is_number_below" 2 2 ["thing","bound"] zO:=
 by have h:=GC (P:=P) (w:=w) (base:=base) D (λ_ _ _ _ _ _ us hl=>match us,hl with |[_,_],_=>rfl) λf fd F=>CU (k:=1) _ F qM λcdv A outer s H E hr=>(zK (zV (jS (zN nU (hr.mono (by decide)) rfl (zA (zB 0) zC)) (gT (Ay hr.units zD (zB 0) (zB 1))))))
    exact h
abbrev qP:Stmt:=top 62
def uL:FnScope ["thing","wide"] ["thing"] (zE qP):=fsK (by decide+kernel)
def JV(D:DefM K mg "is_table" qP)(xQ:(WT P w K mg base) "is_tuple" 1 3 wO yQ)(nU:(WT P w K mg base) "is_whole" 1 1 ["thing"] wA){oO:Tok}(bS:mg "MOST_WIDE"=some (.int (4) oO))(zX:(WT P w K mg base) "is_number_below" 2 2 ["thing","bound"] zO):(WT P w K mg base) "is_table" 3 1 ["thing"] fU:=
 by have h:=GC (P:=P) (w:=w) (base:=base) D (λ_ _ _ _ _ _ us hl=>match us,hl with |[_],_=>rfl) λf fd F=>CU (k:=2) _ F uL λcdv A outer s H E hr=>(zH (xO (AI (uG (kE (yU (zN xQ (hr.mono (by decide)) rfl (zA (zB 0) (zA zD (zA zD zC)))))) (pW (kE (yU (zN nU (hr.mono (by decide)) rfl (zA (yF (zB 0) zD) zC))))))) (zK (zV bK)) yP) (zH (yD 1 uL.nd (yF (zB 0) zD)) (zK (zV (jS (FT zD (zB 1) (fG rfl bS)) (gT (zN zX (hr.mono (by decide)) rfl (zA (yF (zB 0) zD) (zA (xZ (zB 1) zD) zC)))))))))
    exact h
abbrev tR:Stmt:=top 63
def NA:FnScope ["thing","wides"] ["thing","wides"] (zE tR):=fsK (by decide+kernel)
def NB(D:DefM K mg "is_side" tR)(xQ:(WT P w K mg base) "is_tuple" 1 3 wO yQ)(qW:(WT P w K mg base) "is_value" 2 1 ["thing"] gU)(zX:(WT P w K mg base) "is_number_below" 2 2 ["thing","bound"] zO)(wF:mg "len"=none):(WT P w K mg base) "is_side" 3 2 ["thing","wides"] eY:=
 by have h:=GC (P:=P) (w:=w) (base:=base) D (λ_ _ _ _ _ _ us hl=>match us,hl with |[_,_],_=>rfl) λf fd F=>CU (k:=2) _ F NA λcdv A outer s H E hr=>(zH (xO (yU (zN xQ (hr.mono (by decide)) rfl (zA (zB 0) (zA zD (zA zD zC))))) (zK (zV (jS (lV hr.units (yF (zB 0) zD) (xY [105,115])) (gT (zN qW (hr.mono (by decide)) rfl (zA (yF (zB 0) zD) zC)))))) yP) (zH (xO (AI (uG (kE (yU (zN xQ (hr.mono (by decide)) rfl (zA (zB 0) (zA zD (zA zD zC)))))) (pW (OP hr.units (yF (zB 0) zD) (xY [99,101,108,108]))))) (zK (zV bK)) yP) (zK (zV (jS (zN zX (hr.mono (by decide)) rfl (zA (yF (zB 0) zD) (zA (yE xA hV rfl wF hW (zA (zB 1) zC)) zC))) (gT (zN zX (hr.mono (by decide)) rfl (zA (yF (zB 0) zD) (zA (yF (zB 1) (yF (zB 0) zD)) zC)))))))))
    exact h
abbrev tS:Stmt:=top 64
def NC:FnScope ["thing","wides"] ["thing","wides"] (zE tS):=fsK (by decide+kernel)
def ND(D:DefM K mg "is_test" tS)(xQ:(WT P w K mg base) "is_tuple" 1 3 wO yQ)(EV:(WT P w K mg base) "is_side" 3 2 ["thing","wides"] eY)(sO:GTup K mg "WORDS" [.str [115,97,109,101],.str [117,110,108,105,107,101],.str [108,101,115,115]]):(WT P w K mg base) "is_test" 4 2 ["thing","wides"] oX:=
 by have h:=GC (P:=P) (w:=w) (base:=base) D (λ_ _ _ _ _ _ us hl=>match us,hl with |[_,_],_=>rfl) λf fd F=>CU (k:=3) _ F NC λcdv A outer s H E hr=>(zH (xO (kE (yU (zN xQ (hr.mono (by decide)) rfl (zA (zB 0) (zA zD (zA zD zC)))))) (zK (zV bK)) yP) (zK (zV (jS (zN EV (hr.mono (by decide)) rfl (zA (yF (zB 0) zD) (zA (zB 1) zC))) (jS (Lj hr.units (yF (zB 0) zD) (Bt (ds:=[.str [115,97,109,101],.str [117,110,108,105,107,101],.str [108,101,115,115]]) rfl sO)) (gT (zN EV (hr.mono (by decide)) rfl (zA (yF (zB 0) zD) (zA (zB 1) zC)))))))))
    exact h
abbrev aS:Stmt:=top 65
def HD:FnScope ["thing","wides"] ["thing","wides"] (zE aS):=fsK (by decide+kernel)
def HE(D:DefM K mg "are_tests" aS)(xQ:(WT P w K mg base) "is_tuple" 1 3 wO yQ){iI:Tok}(gL:mg "MOST_TESTS"=some (.int (3) iI))(SW:(WT P w K mg base) "is_test" 4 2 ["thing","wides"] oX)(sM:mg "all"=none):(WT P w K mg base) "are_tests" 5 2 ["thing","wides"] bQ:=
 by have h:=GC (P:=P) (w:=w) (base:=base) D (λ_ _ _ _ _ _ us hl=>match us,hl with |[_,_],_=>rfl) λf fd F=>CU (k:=4) _ F HD λcdv A outer s H E hr=>(zK (zV (jS (zN xQ (hr.mono (by decide)) rfl (zA (zB 0) (zA zD (zA (fG rfl gL) zC)))) (gT (yE fF (LQ rfl) rfl sM LR (zA (rG (zE aS) ["thing","wides"] ["part"] [1] (VE (zB 0)) rfl (λ_ _ _ _ hN=>(rE 0 hN)) (λ_ _ _ _=>rF) (λ_ _ _ _=>(zN SW (hr.mono (by decide)) rfl (zA (zB 0) (zA (zB 1) zC))))) zC))))))
    exact h
abbrev qQ:Stmt:=top 67
def JW:FnScope ["rule","tables"] ["rule","tables"] (zE qQ):=fsK (by decide+kernel)
def JX(D:DefM K mg "is_never" qQ)(wF:mg "len"=none)(zX:(WT P w K mg base) "is_number_below" 2 2 ["thing","bound"] zO)(KA:(WT P w K mg base) "are_tests" 5 2 ["thing","wides"] bQ):(WT P w K mg base) "is_never" 6 2 ["rule","tables"] fW:=
 by have h:=GC (P:=P) (w:=w) (base:=base) D (λ_ _ _ _ _ _ us hl=>match us,hl with |[_,_],_=>rfl) λf fd F=>CU (k:=5) _ F JW λcdv A outer s H E hr=>(zH (xO (AI (uG (OP hr.units (yE xA hV rfl wF hW (zA (zB 0) zC)) zD) (pW (kE (yU (zN zX (hr.mono (by decide)) rfl (zA (yF (zB 0) zD) (zA (yE xA hV rfl wF hW (zA (zB 1) zC)) zC)))))))) (zK (zV bK)) yP) (zK (zV (zN KA (hr.mono (by decide)) rfl (zA (yF (zB 0) zD) (zA (yV (zA (yF (yF (zB 1) (yF (zB 0) zD)) zD) zC)) zC))))))
    exact h
abbrev tT:Stmt:=top 70
def NF:FnScope ["thing","tables"] ["thing","tables"] (zE tT):=fsK (by decide+kernel)
def NG(D:DefM K mg "is_rule" tT)(wY:mg "tuple"=none)(zG:mg "isinstance"=none)(wF:mg "len"=none)(NL:(WT P w K mg base) "is_never" 6 2 ["rule","tables"] fW):(WT P w K mg base) "is_rule" 7 2 ["thing","tables"] cY:=
 by have h:=GC (P:=P) (w:=w) (base:=base) D (λ_ _ _ _ _ _ us hl=>match us,hl with |[_,_],_=>rfl) λf fd F=>CU (k:=6) _ F NF λcdv A outer s H E hr=>(zH (xO (AI (uG (kE (yU (yE eV sW rfl zG wZ (zA (zB 0) (zA (EB rfl wY dE) zC))))) (pW (EE hr.units (yE xA hV rfl wF hW (zA (zB 0) zC)) zD)))) (zK (zV bK)) yP) (zH (xO (EE hr.units (yF (zB 0) zD) (xY [110,101,118,101,114])) (zK (zV (zN NL (hr.mono (by decide)) rfl (zA (zB 0) (zA (zB 1) zC))))) yP) (zH lP (zK lP))))
    exact h
abbrev sK:Stmt:=top 71
def EU:FnScope BE ["thing","tables"] (zE sK):=fsK (by decide+kernel)
def SR(D:DefM K mg "is_row" sK)(xQ:(WT P w K mg base) "is_tuple" 1 3 wO yQ)(zX:(WT P w K mg base) "is_number_below" 2 2 ["thing","bound"] zO)(wF:mg "len"=none)(qW:(WT P w K mg base) "is_value" 2 1 ["thing"] gU)(sM:mg "all"=none):(WT P w K mg base) "is_row" 3 2 ["thing","tables"] sC:=
 by have h:=GC (P:=P) (w:=w) (base:=base) D (λ_ _ _ _ _ _ us hl=>match us,hl with |[_,_],_=>rfl) λf fd F=>CU (k:=2) _ F EU λcdv A outer s H E hr=>(zH (xO (AI (uG (kE (yU (zN xQ (hr.mono (by decide)) rfl (zA (zB 0) (zA zD (zA zD zC)))))) (pW (kE (yU (zN zX (hr.mono (by decide)) rfl (zA (yF (zB 0) zD) (zA (yE xA hV rfl wF hW (zA (zB 1) zC)) zC)))))))) (zK (zV bK)) yP) (zH (yD 2 EU.nd (yF (yF (zB 1) (yF (zB 0) zD)) zD)) (zK (zV (jS (zN xQ (hr.mono (by decide)) rfl (zA (yF (zB 0) zD) (zA (zB 2) (zA (zB 2) zC)))) (gT (yE fF (LQ rfl) rfl sM LR (zA (rG (zE sK) BE ["cell"] [] (VE (yF (zB 0) zD)) rfl (λ_ _ _ _ hN=>(rE 0 hN)) (λ_ _ _ _=>rF) (λ_ _ _ _=>(zN qW (hr.mono (by decide)) rfl (zA (zB 0) zC)))) zC))))))))
    exact h
abbrev eB:Stmt:=top 72
def BR:FnScope yS yS (zE eB):=fsK (by decide+kernel)
def BS(D:DefM K mg "check_sizes" eB){xM:Addr}{xl:Nat->Addr}(XT:XTab K mg xM (YT xl))(wF:mg "len"=none){eI:Tok}(jI:mg "MOST_TABLES"=some (.int (4) eI)){iH:Tok}(gM:mg "MOST_RULES"=some (.int (6) iH)){bT:Tok}(kP:mg "MOST_ROWS"=some (.int (60) bT))(x_TooGreat:oV K (xl 0) (.ref xM::bI) none):(Bx P w K mg base) "check_sizes" 1 3 yS wD:=
 by have h:=WU (P:=P) (w:=w) (base:=base) D (λ_ _ _ _ _ _ us hl=>match us,hl with |[_,_,_],_=>rfl) λf fd F=>Ht (k:=0) _ F BR λcdv A outer s H E hr=>(zK (xO (AI (uG (IM (yE xA hV rfl wF hW (zA (zB 0) zC)) (fG rfl jI)) (uG (IM (yE xA hV rfl wF hW (zA (zB 1) zC)) (fG rfl gM)) (pW (IM (yE xA hV rfl wF hW (zA (zB 2) zC)) (fG rfl kP)))))) (zK (tB gO rfl (XT.each.at (.head _)).1 x_TooGreat XT.mc (zA (xY [109,111,114,101,32,116,97,98,108,101,115,44,32,114,117,108,101,115,32,111,114,32,114,111,119,115,32,116,104,97,110,32,97,32,98,111,111,107,32,109,97,121,32,104,97,118,101]) zC))) yP))
    exact h
abbrev nK:Stmt:=top 73
def cF:FnScope lZ ["tables"] (zE nK):=fsK (by decide+kernel)
def uU(D:DefM K mg "check_tables" nK){xM:Addr}{xl:Nat->Addr}(XT:XTab K mg xM (YT xl))(wF:mg "len"=none){f_NoTable:Addr}{fdI_NoTable:FuncData}(y_NoTable:XIn K xM (xl 4) f_NoTable)(GI_NoTable:FnOk P w K mg base pF 1 f_NoTable fdI_NoTable ["self","place"] (pK (xl 4) "place"))(bI_NoTable:Binds K fdI_NoTable ["self","place"] [])(xI:mg "enumerate"=none)(NP:(WT P w K mg base) "is_table" 3 1 ["thing"] fU):(Bx P w K mg base) "check_tables" 4 1 ["tables"] gA:=
 by have h:=WU (P:=P) (w:=w) (base:=base) D (λ_ _ _ _ _ _ us hl=>match us,hl with |[_],_=>rfl) λf fd F=>Ht (k:=3) _ F cF λcdv A outer s H E hr=>(zH (xO (EE hr.units (yE xA hV rfl wF hW (zA (zB 0) zC)) zD) (zK (eW gO rfl (XT.each.at t4M).1 XT.mc y_NoTable GI_NoTable bI_NoTable hr zD)) yP) (zK (lQ PassesOwn.leaving rfl (vB rfl xI (zA (zB 0) zC)) (FM (n:=2) rfl (aH (jL 1 cF.nd) (aH (jL 2 cF.nd) FL))) (zK (xO (kE (yU (zN NP (hr.mono (by decide)) rfl (zA (zB 2) zC)))) (zK (eW gO rfl (XT.each.at t4M).1 XT.mc y_NoTable GI_NoTable bI_NoTable hr (zB 1))) yP)))))
    exact h
abbrev eE:Stmt:=top 74
def nL:FnScope pL ["tables","rules"] (zE eE):=fsK (by decide+kernel)
def BU(D:DefM K mg "check_rules" eE){xM:Addr}{xl:Nat->Addr}(XT:XTab K mg xM (YT xl))(xI:mg "enumerate"=none)(SS:(WT P w K mg base) "is_rule" 7 2 ["thing","tables"] cY){f_NoRule:Addr}{fdI_NoRule:FuncData}(y_NoRule:XIn K xM (xl 5) f_NoRule)(GI_NoRule:FnOk P w K mg base pF 1 f_NoRule fdI_NoRule ["self","place"] (pK (xl 5) "place"))(bI_NoRule:Binds K fdI_NoRule ["self","place"] []):(Bx P w K mg base) "check_rules" 8 2 ["tables","rules"] kC:=
 by have h:=WU (P:=P) (w:=w) (base:=base) D (λ_ _ _ _ _ _ us hl=>match us,hl with |[_,_],_=>rfl) λf fd F=>Ht (k:=7) _ F nL λcdv A outer s H E hr=>(zK (lQ PassesOwn.leaving rfl (vB rfl xI (zA (zB 1) zC)) (FM (n:=2) rfl (aH (jL 2 nL.nd) (aH (jL 3 nL.nd) FL))) (zK (xO (kE (yU (zN SS (hr.mono (by decide)) rfl (zA (zB 3) (zA (zB 0) zC))))) (zK (eW gO rfl (XT.each.at t5M).1 XT.mc y_NoRule GI_NoRule bI_NoRule hr (zB 2))) yP))))
    exact h
abbrev iG:Stmt:=top 75
def kD:FnScope rW ["tables","rows"] (zE iG):=fsK (by decide+kernel)
def DC(D:DefM K mg "check_rows" iG)(xI:mg "enumerate"=none):(Bx P w K mg base) "check_rows" 1 2 ["tables","rows"] cR:=
 by have h:=WU (P:=P) (w:=w) (base:=base) D (λ_ _ _ _ _ _ us hl=>match us,hl with |[_,_],_=>rfl) λf fd F=>Ht (k:=0) _ F kD λcdv A outer s H E hr=>(zH (lQ PassesOwn.leaving rfl (vB rfl xI (zA (zB 1) zC)) (FM (n:=2) rfl (aH (jL 2 kD.nd) (aH (jL 3 kD.nd) FL))) (zK lP)) (zH (yD 4 kD.nd WJ) (zK (lQ PassesOwn.leaving rfl (vB rfl xI (zA (zB 1) zC)) (FM (n:=2) rfl (aH (jL 2 kD.nd) (aH (jL 3 kD.nd) FL))) (zH lP (zK lP))))))
    exact h
abbrev tU:Stmt:=top 76
def NH:FnScope yS yS (zE tU):=fsK (by decide+kernel)
def NI(D:DefM K mg "book_of" tU)(DG:(Bx P w K mg base) "check_sizes" 1 3 yS wD)(CN:(Bx P w K mg base) "check_tables" 4 1 ["tables"] gA)(DF:(Bx P w K mg base) "check_rules" 8 2 ["tables","rules"] kC)(HL:(Bx P w K mg base) "check_rows" 1 2 ["tables","rows"] cR)(wY:mg "tuple"=none):(Bx P w K mg base) "book_of" 9 3 yS wK:=
 by have h:=WU (P:=P) (w:=w) (base:=base) D (λ_ _ _ _ _ _ us hl=>match us,hl with |[_,_,_],_=>rfl) λf fd F=>Ht (k:=8) _ F NH λcdv A outer s H E hr=>(zH (cO (eX gO DG (hr.mono (by decide)) rfl (zA (zB 0) (zA (zB 1) (zA (zB 2) zC))))) (zH (cO (eX gO CN (hr.mono (by decide)) rfl (zA (zB 0) zC))) (zH (cO (eX gO DF (hr.mono (by decide)) rfl (zA (zB 0) (zA (zB 1) zC)))) (zH (cO (eX gO HL (hr.mono (by decide)) rfl (zA (zB 0) (zA (zB 2) zC)))) (zK (zV (zL (zA (eS jC lW rfl wY dE (zA (zB 0) zC)) (zA (eS jC lW rfl wY dE (zA (zB 1) zC)) (zA (eS jC lW rfl wY dE (zA (zB 2) zC)) zC))))))))))
    exact h
abbrev aT:Stmt:=inClass (top 145) 0
def nN:FnScope aK ["self","tables","rules"] (zE aT):=fsK (by decide+kernel)
def qR{f:Addr}{fd:FuncData}(F:FunD K "__init__" "Ledger.__init__" aT f fd)(SU:(Bx P w K mg base) "book_of" 9 3 yS wK)(rf_Ledger_tables: ∃C,OC K "Ledger" C/\NoAttr K C "tables")(rf_Ledger_rules: ∃C,OC K "Ledger" C/\NoAttr K C "rules")(rf_Ledger_rows: ∃C,OC K "Ledger" C/\NoAttr K C "rows"):FnOk P w K mg base (DY P w) 10 f fd ["self","tables","rules"] (GB ⟨K,mg,P,w⟩ 3 zW):=
 by have h:=okXD (P:=P) (w:=w) (mg:=mg) (base:=base) (k:=9) _ F nN λcdv A outer s H E hr=>(zH (yD 3 nN.nd (eX gO SU (hr.mono (by decide)) rfl (zA (zB 1) (zA (Lb (Li (zB 2) lO) (yV zC) (zB 2)) (zA (yV zC) zC))))) (zH (GE rf_Ledger_tables (yF (zB 3) zD) (zB 0)) (zH (GE rf_Ledger_rules (yF (zB 3) zD) (zB 0)) (zK (GE rf_Ledger_rows (yV zC) (zB 0))))))
    exact h
abbrev sL:Stmt:=inClass (top 145) 1
def eF:FnScope rX ["self","t","cells"] (zE sL):=fsK (by decide+kernel)
def DD{f:Addr}{fd:FuncData}(F:Fun K "put" "Ledger.put" sL f fd){xM:Addr}{xl:Nat->Addr}(XT:XTab K mg xM (YT xl))(rf_Ledger_rows: ∃C,OC K "Ledger" C/\NoAttr K C "rows")(wF:mg "len"=none){bT:Tok}(kP:mg "MOST_ROWS"=some (.int (60) bT))(x_TooGreat:oV K (xl 0) (.ref xM::bI) none)(YV:(WT P w K mg base) "is_row" 3 2 ["thing","tables"] sC)(rf_Ledger_tables: ∃C,OC K "Ledger" C/\NoAttr K C "tables"){f_NoRow:Addr}{fdI_NoRow:FuncData}(y_NoRow:XIn K xM (xl 6) f_NoRow)(GI_NoRow:FnOk P w K mg base pF 1 f_NoRow fdI_NoRow ["self","place"] (pK (xl 6) "place"))(bI_NoRow:Binds K fdI_NoRow ["self","place"] []){f_Twice:Addr}{fdI_Twice:FuncData}(y_Twice:XIn K xM (xl 7) f_Twice)(GI_Twice:FnOk P w K mg base pF 1 f_Twice fdI_Twice ["self","place"] (pK (xl 7) "place"))(bI_Twice:Binds K fdI_Twice ["self","place"] []):FnOk P w K mg base (DY P w) 4 f fd ["self","t","cells"] (GB ⟨K,mg,P,w⟩ 3 zP):=
 by have h:=Ht (P:=P) (w:=w) (mg:=mg) (base:=base) (k:=3) _ F eF λcdv A outer s H E hr=>(zH (yD 3 eF.nd (yE xA hV rfl wF hW (zA (cQ rf_Ledger_rows (zB 0)) zC))) (zH (xO (Lh (zB 3) (fG rfl kP)) (zK (tB gO rfl (XT.each.at (.head _)).1 x_TooGreat XT.mc (zA (xY [110,111,32,109,111,114,101,32,114,111,119,115,32,116,104,97,110,32,97,32,98,111,111,107,32,109,97,121,32,104,97,118,101]) zC))) yP) (zH (yD 4 eF.nd (zL (zA (zB 1) (zA (zB 2) zC)))) (zH (xO (kE (yU (zN YV (hr.mono (by decide)) rfl (zA (zB 4) (zA (cQ rf_Ledger_tables (zB 0)) zC))))) (zK (eW gO rfl (XT.each.at t6M).1 XT.mc y_NoRow GI_NoRow bI_NoRow hr (zB 3))) yP) (zH (xO (VW hr.units (zB 4) (cQ rf_Ledger_rows (zB 0))) (zK (eW gO rfl (XT.each.at t7M).1 XT.mc y_Twice GI_Twice bI_Twice hr (zB 3))) yP) (zH (cO (sX (cQ rf_Ledger_rows (zB 0)) (zA (zB 4) zC))) (zK (zV (zB 3)))))))))
    exact h
abbrev pP:Stmt:=inClass (top 145) 2
def BV:FnScope ["self","number"] ["self","number"] (zE pP):=fsK (by decide+kernel)
def BW{f:Addr}{fd:FuncData}(F:Fun K "take" "Ledger.take" pP f fd){xM:Addr}{xl:Nat->Addr}(XT:XTab K mg xM (YT xl))(zX:(WT P w K mg base) "is_number_below" 2 2 ["thing","bound"] zO)(rf_Ledger_rows: ∃C,OC K "Ledger" C/\NoAttr K C "rows")(wF:mg "len"=none)(x_NoPlace:oV K (xl 2) (.ref xM::bI) none):FnOk P w K mg base (DY P w) 3 f fd ["self","number"] (GB ⟨K,mg,P,w⟩ 2 yB):=
 by have h:=Ht (P:=P) (w:=w) (mg:=mg) (base:=base) (k:=2) _ F BV λcdv A outer s H E hr=>(zH (xO (kE (yU (zN zX (hr.mono (by decide)) rfl (zA (zB 1) (zA (yE xA hV rfl wF hW (zA (cQ rf_Ledger_rows (zB 0)) zC)) zC))))) (zK (tB gO rfl (XT.each.at t2M).1 x_NoPlace XT.mc (zA (xY [110,111,32,114,111,119,32,104,97,115,32,116,104,105,115,32,110,117,109,98,101,114]) zC))) yP) (zK (cO (Hw (cQ rf_Ledger_rows (zB 0)) (zA (zB 1) zC)))))
    exact h
abbrev pQ:Stmt:=inClass (top 145) 3
def CA:FnScope ["self"] ["self"] (zE pQ):=fsK (by decide+kernel)
def CB{f:Addr}{fd:FuncData}(F:Fun K "book" "Ledger.book" pQ f fd)(rf_Ledger_tables: ∃C,OC K "Ledger" C/\NoAttr K C "tables")(rf_Ledger_rules: ∃C,OC K "Ledger" C/\NoAttr K C "rules")(rf_Ledger_rows: ∃C,OC K "Ledger" C/\NoAttr K C "rows")(wY:mg "tuple"=none):FnOk P w K mg base pF 1 f fd ["self"] (IL ⟨K,mg,P,w⟩ 1 yC):=
 by have h:=CU (P:=P) (w:=w) (mg:=mg) (base:=base) (k:=0) _ F CA λcdv A outer s H E hr=>(zK (zV (zL (zA (cQ rf_Ledger_tables (zB 0)) (zA (cQ rf_Ledger_rules (zB 0)) (zA (eS jC lW rfl wY dE (zA (cQ rf_Ledger_rows (zB 0)) zC)) zC))))))
    exact h
abbrev nO:Stmt:=top 147
def uV:FnScope ["_law_script","_law_k"] ["_law_script","_law_k"] (zE nO):=fsK (by decide+kernel)
def uW(D:DefM K mg "_law_cell_at" nO)(wF:mg "len"=none):(WT P w K mg base) "_law_cell_at" 1 2 ["_law_script","_law_k"] zU:=
 by have h:=GC (P:=P) (w:=w) (base:=base) D (λ_ _ _ _ _ _ us hl=>match us,hl with |[_,_],_=>rfl) λf fd F=>CU (k:=0) _ F uV λcdv A outer s H E hr=>(zH (xO (Lg hr.units (zB 1) (yE xA hV rfl wF hW (zA (zB 0) zC))) (zK (zV (yF (zB 0) (zB 1)))) yP) (zK (zV zD)))
    exact h
abbrev qS:Stmt:=top 148
def uM:FnScope qA ["_law_cell","_law_prime"] (zE qS):=fsK (by decide+kernel)
def JY(D:DefM K mg "_law_mix" qS):(WT P w K mg base) "_law_mix" 1 2 ["_law_cell","_law_prime"] kM:=
 by have h:=GC (P:=P) (w:=w) (base:=base) D (λ_ _ _ _ _ _ us hl=>match us,hl with |[_,_],_=>rfl) λf fd F=>CU (k:=0) _ F uM λcdv A outer s H E hr=>(zH (xO (EE hr.units (jZ (zB 0) zD) zD) (zK (zV (jZ (lR (zB 0) zD) (pX (pX zD zD) zD)))) yP) (zH (yD 2 uM.nd (jZ (LN (xZ (jZ (zB 0) zD) zD) zD) (zB 1))) (zK (zV (xZ (LN (jZ (LN (zB 2) (zB 2)) zD) zD) (zB 2))))))
    exact h
abbrev cT:Stmt:=top 149
def xH:FnScope rY ["_law_e"] (zE cT):=fsK (by decide+kernel)
def CC(D:DefM K mg "_law_kinds" cT){xM:Addr}{xl:Nat->Addr}(XT:XTab K mg xM (YT xl))(zG:mg "isinstance"=none):(CalH P w K mg base) "_law_kinds" 1 1 ["_law_e"] wR:=
 by have h:=okCH (P:=P) (w:=w) (base:=base) D (λ_ _ _ _ _ _ us hl=>match us,hl with |[_],_=>rfl) λf fd F=>okH (k:=0) _ F xH λcdv A outer s H hr hh=>(zH (yD 1 xH.nd (yV (zA (xD XT vI (.head _) zG rfl rfl (zB 0)) (zA (xD XT vI t4M zG rfl rfl (zB 0)) (zA (xD XT vI t5M zG rfl rfl (zB 0)) (zA (xD XT vI t6M zG rfl rfl (zB 0)) zC)))))) (zH (yD 1 xH.nd (xZ (zB 1) (yV (zA (xD XT vI t7M zG rfl rfl (zB 0)) (zA (xD XT vI t1M zG rfl rfl (zB 0)) (zA (xD XT vI t2M zG rfl rfl (zB 0)) (zA (xD XT vI t3M zG rfl rfl (zB 0)) zC))))))) (zH (yD 1 xH.nd (xZ (zB 1) (yV (zA (xD XT vI t8M zG rfl rfl (zB 0)) (zA (xD XT vI t9M zG rfl rfl (zB 0)) (zA (xD XT vI t10M zG rfl rfl (zB 0)) (zA (xD XT vI t11M zG rfl rfl (zB 0)) zC))))))) (zK (zV (zB 1))))))
    exact h
def DE(D:DefM K mg "_law_kinds" cT){xM:Addr}{xl:Nat->Addr}(XT:XTab K mg xM (YT xl))(zG:mg "isinstance"=none):(WT P w K mg base) "_law_kinds" 1 1 ["_law_e"] wR:=
 by have h:=GC (P:=P) (w:=w) (base:=base) D (λ_ _ _ _ _ _ us hl=>match us,hl with |[_],_=>rfl) λf fd F=>CU (k:=0) _ F xH λcdv A outer s H E hr=>(zH (yD 1 xH.nd (yV (zA (xD XT vI (.head _) zG rfl rfl (zB 0)) (zA (xD XT vI t4M zG rfl rfl (zB 0)) (zA (xD XT vI t5M zG rfl rfl (zB 0)) (zA (xD XT vI t6M zG rfl rfl (zB 0)) zC)))))) (zH (yD 1 xH.nd (xZ (zB 1) (yV (zA (xD XT vI t7M zG rfl rfl (zB 0)) (zA (xD XT vI t1M zG rfl rfl (zB 0)) (zA (xD XT vI t2M zG rfl rfl (zB 0)) (zA (xD XT vI t3M zG rfl rfl (zB 0)) zC))))))) (zH (yD 1 xH.nd (xZ (zB 1) (yV (zA (xD XT vI t8M zG rfl rfl (zB 0)) (zA (xD XT vI t9M zG rfl rfl (zB 0)) (zA (xD XT vI t10M zG rfl rfl (zB 0)) (zA (xD XT vI t11M zG rfl rfl (zB 0)) zC))))))) (zK (zV (zB 1))))))
    exact h
abbrev gI:Stmt:=top 150
def yO:FnScope dG ["_law_ledger","_law_way","_law_thing","_law_which","_law_place"] (zE gI):=fsK (by decide+kernel)
def uX(D:DefM K mg "_law_refused" gI){xM:Addr}{xl:Nat->Addr}(XT:XTab K mg xM (YT xl))(GH__law_kinds:(CalH P w K mg base) "_law_kinds" 1 1 ["_law_e"] wR)(zG:mg "isinstance"=none)(xW:mg "ValueError"=none)(mt_Ledger_put:RMtX P w K mg base "put" 4 3 "Ledger" zP)(mt_Ledger_take:RMtX P w K mg base "take" 3 2 "Ledger" yB)(cU:mg "range"=none)(qU:mg "bool"=none):(WT P w K mg base) "_law_refused" 5 5 ["_law_ledger","_law_way","_law_thing","_law_which","_law_place"] yM:=
 by have h:=GC (P:=P) (w:=w) (base:=base) D (λ_ _ _ _ _ _ us hl=>match us,hl with |[_,_,_,_,_],_=>rfl) λf fd F=>CU (k:=4) _ F yO λcdv A outer s H E hr=>(zH (yD 5 yO.nd (yV zC)) (zH (yD 6 yO.nd (zB 4)) (zH (OW (Lu (EE hr.units (zB 1) zD) (IU (i:=7) XT rfl yO.nd (λv=>(zH (yD 5 yO.nd (xZ (tE GH__law_kinds ((hr.inH v).mono (by decide)) rfl (zA (zB 7) zC)) (yV (zA (LX XT zG xW rfl rfl (zB 7)) zC)))) (zK (xO (VW hr.units (zB 3) (zL (zA zD (zA zD zC)))) (zK (yD 6 yO.nd (MF XT (by decide) dF (zB 7)))) yP)))) mt_Ledger_put (hr.mono (by decide)) (zB 0) (zA (yF (zB 2) zD) (zA (yF (zB 2) zD) zC))) (IU (i:=7) XT rfl yO.nd (λv=>(zH (yD 5 yO.nd (xZ (tE GH__law_kinds ((hr.inH v).mono (by decide)) rfl (zA (zB 7) zC)) (yV (zA (LX XT zG xW rfl rfl (zB 7)) zC)))) (zK (xO (VW hr.units (zB 3) (zL (zA zD (zA zD zC)))) (zK (yD 6 yO.nd (MF XT (by decide) dF (zB 7)))) yP)))) mt_Ledger_take (hr.mono (by decide)) (zB 0) (zA (zB 2) zC)))) (zK (zV (jS (lV hr.units (zB 5) (xZ (rG (zE gI) dG ["_law_k"] [3] (sU rfl cU (zA zD zC)) rfl (λ_ _ _ _ hN=>(rE 0 hN)) (λ_ _ _ _=>rF) (λ_ _ _ _=>(lV hr.units (zB 0) (zB 1)))) (yV (zA bK zC)))) (jS (lV hr.units (zB 6) (zB 4)) (gT (VC (yE eV sW rfl zG wZ (zA (zB 6) (zA (EB rfl qU OR) zC))))))))))))
    exact h
abbrev aU:Stmt:=top 151
def kX:FnScope mB ["_law_tables","_law_rules","_law_which","_law_place"] (zE aU):=fsK (by decide+kernel)
def HF(D:DefM K mg "_law_made" aU){xM:Addr}{xl:Nat->Addr}(XT:XTab K mg xM (YT xl))(GH__law_kinds:(CalH P w K mg base) "_law_kinds" 1 1 ["_law_e"] wR)(zG:mg "isinstance"=none)(xW:mg "ValueError"=none)(in_Ledger:Lx P w K mg base 10 3 "Ledger" zW)(cU:mg "range"=none):(WT P w K mg base) "_law_made" 12 4 ["_law_tables","_law_rules","_law_which","_law_place"] xG:=
 by have h:=GC (P:=P) (w:=w) (base:=base) D (λ_ _ _ _ _ _ us hl=>match us,hl with |[_,_,_,_],_=>rfl) λf fd F=>CU (k:=11) _ F kX λcdv A outer s H E hr=>(zH (yD 4 kX.nd (yV zC)) (zH (yD 5 kX.nd (zB 3)) (zH (OW (XC (i:=6) XT rfl kX.nd (λv=>(zH (yD 4 kX.nd (xZ (tE GH__law_kinds ((hr.inH v).mono (by decide)) rfl (zA (zB 6) zC)) (yV (zA (LX XT zG xW rfl rfl (zB 6)) zC)))) (zK (xO (IM (zB 2) zD) (zK (yD 5 kX.nd (MF XT (by decide) dF (zB 6)))) yP)))) in_Ledger (hr.mono (by decide)) rfl (zA (zB 0) (zA (zB 1) zC)))) (zK (zV (jS (lV hr.units (zB 4) (xZ (rG (zE aU) mB ["_law_k"] [2] (sU rfl cU (zA zD zC)) rfl (λ_ _ _ _ hN=>(rE 0 hN)) (λ_ _ _ _=>rF) (λ_ _ _ _=>(lV hr.units (zB 0) (zB 1)))) (yV (zA bK zC)))) (gT (lV hr.units (zB 5) (zB 3)))))))))
    exact h
abbrev nP:Stmt:=top 152
def jP:FnScope mE ["_law_cell"] (zE nP):=fsK (by decide+kernel)
def uY(D:DefM K mg "_law_no_rows" nP):(WT P w K mg base) "_law_no_rows" 1 1 ["_law_cell"] gG:=
 by have h:=GC (P:=P) (w:=w) (base:=base) D (λ_ _ _ _ _ _ us hl=>match us,hl with |[_],_=>rfl) λf fd F=>CU (k:=0) _ F jP λcdv A outer s H E hr=>(zH (yD 1 jP.nd (jZ (zB 0) (pX zD zD))) (zH (yD 2 jP.nd (yV (zA (zL (zA zD (zA (zL (zA zD zC)) zC))) (zA (zL (zA AD (zA (zL (zA zD (zA zD zC))) zC))) (zA (zL (zA zD (zA (zL (zA zD zC)) zC))) (zA (zL (zA zD (zA (zL (zA zD (zA zD (zA zD zC)))) zC))) (zA (zL (zA zD (zA (zL (zA zD (zA (xY [65,98,99]) zC))) zC))) (zA (zL (zA zD (zA (zL (zA bK (zA zD zC))) zC))) zC)))))))) (zH (yD 2 jP.nd (xZ (zB 2) (yV (zA (zL (zA zD (zA (zL (zA (xZ (pX zD zD) (zB 1)) (zA zD zC))) zC))) (zA (zL (zA zD (zA (zL (zA zD (zA (zL (zA zD zC)) zC))) zC))) (zA (zL (zA lO (zA (zL (zA zD (zA zD zC))) zC))) (zA (zL (zA bK (zA (zL (zA zD (zA zD zC))) zC))) zC))))))) (zK (zV (xZ (zB 2) (yV (zA (zL (zA (xZ zD (zB 1)) (zA (zL (zA zD (zA zD zC))) zC))) (zA (zL (zA zD (zA lO zC))) (zA (zL (zA zD (zA (zL zC) zC))) (zA (zL (zA (xY [48]) (zA (zL (zA zD (zA zD zC))) zC))) zC)))))))))))
    exact h
abbrev kO:Stmt:=top 153
def kG:FnScope bN [] (zE kO):=fsK (by decide+kernel)
def lB(D:DefM K mg "_law_wrong_ledgers" kO):(WT P w K mg base) "_law_wrong_ledgers" 1 0 [] xV:=
 by have h:=GC (P:=P) (w:=w) (base:=base) D (λ_ _ _ _ _ _ us hl=>match us,hl with |[],_=>rfl) λf fd F=>CU (k:=0) _ F kG λcdv A outer s H E hr=>(zH (yD 0 kG.nd (zL (zA (xY [110,101,118,101,114]) (zA zD (zA (zL (zA (zL (zA (zL (zA (xY [99,101,108,108]) (zA zD (zA zD zC)))) (zA (xY [115,97,109,101]) (zA (zL (zA (xY [105,115]) (zA zD zC))) zC)))) zC)) zC))))) (zH (yD 1 kG.nd (yV (zA (zL (zA (zL zC) (zA (zL zC) (zA zD (zA zD zC))))) (zA (zL (zA (OV (zL (zA (zL (zA zD (zA zD zC))) zC)) zD) (zA (zL zC) (zA zD (zA lO zC))))) (zA (zL (zA (zL (zA (zL (zA zD (zA zD zC))) (zA (zL (zA zD (zA zD zC))) zC))) (zA (zL zC) (zA zD (zA zD zC))))) zC))))) (zH (cO (sX (zB 1) (zA (zL (zA (zL (zA (zL (zA zD (zA zD zC))) zC)) (zA (OV (zL (zA (zB 0) zC)) zD) (zA zD (zA lO zC))))) zC))) (zK (zV (xZ (zB 1) (yV (zA (zL (zA (zL (zA (zL (zA zD (zA zD zC))) zC)) (zA (zL (zA (zB 0) (zA (zL (zA (xY [110,101,118,101,114]) (zA zD (zA (yF (zB 0) zD) zC)))) zC))) (zA zD (zA zD zC))))) zC))))))))
    exact h
abbrev YU:Stmt:=top 154
def gK:FnScope Dt ["_law_script"] (zE YU):=fsK (by decide+kernel)
def Jk{f:Addr}{fd:FuncData}(F:Fun K "law" "law" YU f fd)(wL:(WT P w K mg base) "_law_cell_at" 1 2 ["_law_script","_law_k"] zU)(in_Ledger:Lx P w K mg base 10 3 "Ledger" zW)(cU:mg "range"=none)(NO:(WT P w K mg base) "_law_mix" 1 2 ["_law_cell","_law_prime"] kM)(mt_Ledger_put:RMtX P w K mg base "put" 4 3 "Ledger" zP)(wY:mg "tuple"=none)(CF:(WT P w K mg base) "_law_no_rows" 1 1 ["_law_cell"] gG)(nS:(WT P w K mg base) "_law_refused" 5 5 ["_law_ledger","_law_way","_law_thing","_law_which","_law_place"] yM)(oH:(WT P w K mg base) "_law_wrong_ledgers" 1 0 [] xV)(KC:(WT P w K mg base) "_law_made" 12 4 ["_law_tables","_law_rules","_law_which","_law_place"] xG)(mt_Ledger_book:Lw P w K mg base "book" 1 1 "Ledger" yC)(mt_Ledger_take:RMtX P w K mg base "take" 3 2 "Ledger" yB):FnOk P w K mg base pF 13 f fd ["_law_script"] (IL ⟨K,mg,P,w⟩ 1 IX):=
 by have h:=CU (P:=P) (w:=w) (mg:=mg) (base:=base) (k:=12) _ F gK λcdv A outer s H E hr=>(zH (yD 1 gK.nd (zN wL (hr.mono (by decide)) rfl (zA (zB 0) (zA zD zC)))) (zH (yD 2 gK.nd (yF (yV (zA zD (zA zD (zA zD (zA zD (zA zD (zA (jZ (lR (zB 1) zD) zD) zC))))))) (jZ (zB 1) zD))) (zH (yD 3 gK.nd (VU (zL (zA (zL (zA zD (zA (jZ (lR (zB 1) zD) zD) zC))) (zA (zL (zA zD (zA zD zC))) zC))) OI (OJ (xZ zD (jZ (lR (zB 1) zD) zD))))) (zH (yD 4 gK.nd (RY in_Ledger (hr.mono (by decide)) rfl (zA (zB 3) zC))) (zH (yD 5 gK.nd (yV zC)) (zH (lQ PassesOwn.never rfl (sU rfl cU (zA (zB 2) zC)) (jL 6 gK.nd) (zH (cO (sX (zB 5) (zA (zL (zA zD (zA (zL (zA (zB 6) (zA (jZ (zN NO (hr.mono (by decide)) rfl (zA (xZ (zN wL (hr.mono (by decide)) rfl (zA (zB 0) (zA zD zC))) (zB 6)) (zA zD zC))) (pX zD zD)) zC))) zC))) zC))) (zK (xO (OP hr.units (rS mt_Ledger_put.noX (hr.mono (by decide)) (zB 4) (zA (yF (yF (zB 5) (zB 6)) zD) (zA (yF (yF (zB 5) (zB 6)) zD) zC))) (zB 6)) (zK (zV bK)) yP)))) (zH (yD 7 gK.nd (zL (zA (zB 3) (zA (zL zC) (zA (eS jC lW rfl wY dE (zA (zB 5) zC)) zC))))) (zH (yD 8 gK.nd (yF (yV (zA zD (zA zD zC))) (lR (zB 2) zD))) (zH (lQ PassesOwn.never rfl (FN (zN CF (hr.mono (by decide)) rfl (zA (zN wL (hr.mono (by decide)) rfl (zA (zB 0) (zA zD zC))) zC))) (jL 9 gK.nd) (zK (xO (kE (yU (zN nS (hr.mono (by decide)) rfl (zA (zB 4) (zA zD (zA (zB 9) (zA (zB 8) (zA (yF (yV (zA (zB 2) (zA lO zC))) (lR (zB 2) zD)) zC)))))))) (zK (zV bK)) yP))) (zH (xO (IM (zB 2) zD) (zH (yD 9 gK.nd (yF (zB 5) (jZ (zN wL (hr.mono (by decide)) rfl (zA (zB 0) (zA zD zC))) (zB 2)))) (zK (xO (kE (yU (zN nS (hr.mono (by decide)) rfl (zA (zB 4) (zA zD (zA (zB 9) (zA (yF (yV (zA zD (zA zD zC))) (lR (zB 2) zD)) (zA (yF (yV (zA (zB 2) (zA lO zC))) (lR (zB 2) zD)) zC)))))))) (zK (zV bK)) yP))) yP) (zH (yD 10 gK.nd (jZ (zN wL (hr.mono (by decide)) rfl (zA (zB 0) (zA zD zC))) (pX zD zD))) (zH (lQ PassesOwn.never rfl (FN (yV (zA (zB 2) (zA AD (zA (xZ (xZ (zB 2) zD) (zB 10)) (zA (Gu AD (zB 10)) zC)))))) (jL 11 gK.nd) (zK (xO (kE (yU (zN nS (hr.mono (by decide)) rfl (zA (zB 4) (zA zD (zA (zB 11) (zA zD (zA lO zC)))))))) (zK (zV bK)) yP))) (zH (lQ PassesOwn.never rfl (FN (SD oH (hr.mono (by decide)) rfl)) (jL 12 gK.nd) (zK (xO (kE (yU (zN KC (hr.mono (by decide)) rfl (zA (yF (zB 12) zD) (zA (yF (zB 12) zD) (zA (yF (zB 12) zD) (zA (yF (zB 12) zD) zC))))))) (zK (zV bK)) yP))) (zH (xO (OP hr.units (tG mt_Ledger_book (hr.mono (by decide)) (zB 4)) (zB 7)) (zK (zV bK)) yP) (zH (xO (EE hr.units (zB 2) zD) (zH (cO (rS mt_Ledger_take.noX (hr.mono (by decide)) (zB 4) (zA (jZ (zN wL (hr.mono (by decide)) rfl (zA (zB 0) (zA zD zC))) zD) zC))) (zK (zV (jS (lV hr.units (rS mt_Ledger_put.noX (hr.mono (by decide)) (zB 4) (zA zD (zA (zL (zA (xY [97,110,110]) (zA (xY [98,111,98]) zC))) zC))) zD) (gT (lV hr.units (yF (yF (tG mt_Ledger_book (hr.mono (by decide)) (zB 4)) zD) AD) (zL (zA zD (zA (zL (zA (xY [97,110,110]) (zA (xY [98,111,98]) zC))) zC))))))))) yP) (zK (zV (jS (lV hr.units (rS mt_Ledger_put.noX (hr.mono (by decide)) (zB 4) (zA zD (zA (zL (zA (xY [97,110,110]) (zA (xY [98,111,98]) zC))) zC))) (zB 2)) (gT (lV hr.units (VU (yF (tG mt_Ledger_book (hr.mono (by decide)) (zB 4)) zD) OI (OJ AD)) (yF (zB 7) zD)))))))))))))))))))))
    exact h
end
def all_mk{l:PySem.W.OpenLaw}{w:World}{K:Od}{h:Heap}{mg:Ni}{fa:Addr}(X:K.In h)(GG:h.Ns mainGlobals mg)(hfa:mg "law"=some (.ref fa))
  (D0:DefM K mg "is_whole" qI)
  (D1:DefM K mg "is_name" pA)
  (D2:DefM K mg "is_value" qK)
  (D3:DefM K mg "is_tuple" qL)
  (D4:DefM K mg "is_number_below" gH)
  (D5:DefM K mg "is_table" qP)
  (D6:DefM K mg "is_side" tR)
  (D7:DefM K mg "is_test" tS)
  (D8:DefM K mg "are_tests" aS)
  (D9:DefM K mg "is_never" qQ)
  (D10:DefM K mg "is_rule" tT)
  (D11:DefM K mg "is_row" sK)
  (D12:DefM K mg "check_sizes" eB)
  (D13:DefM K mg "check_tables" nK)
  (D14:DefM K mg "check_rules" eE)
  (D15:DefM K mg "check_rows" iG)
  (D16:DefM K mg "book_of" tU)
  (D21:DefM K mg "_law_cell_at" nO)
  (D22:DefM K mg "_law_mix" qS)
  (D23:DefM K mg "_law_kinds" cT)
  (D24:DefM K mg "_law_refused" gI)
  (D25:DefM K mg "_law_made" aU)
  (D26:DefM K mg "_law_no_rows" nP)
  (D27:DefM K mg "_law_wrong_ledgers" kO)
  (D28:DefM K mg "law" YU)
  {C_Ledger:Addr} (n_Ledger:PySem.W.nsIn K mainGlobals "Ledger"=some (some (.ref C_Ledger)))
  (o_Ledger:(PySem.W.clsIn K C_Ledger).map (·.name)=some "Ledger") (CK:Cls K C_Ledger)
  (eG:NoAttr K C_Ledger "rows")
  (nQ:NoAttr K C_Ledger "rules")
  (cG:NoAttr K C_Ledger "tables")
  {yG:Addr} {odF_Ledger___init__ anF_Ledger___init__:Option Addr} {slF_Ledger___init__:Array (Option Value)} {ocF_Ledger___init__ kVF_Ledger___init__ dcF_Ledger___init__ pmF_Ledger___init__ cdF_Ledger___init__ ctF_Ledger___init__:Value}
  (CG:Mk K C_Ledger yG)
  {T_Ledger___init__:Addr} {oT_Ledger___init__:Value} {dT_Ledger___init__:Option Addr} {nT_Ledger___init__:Nat} {sT_Ledger___init__:Array (Option Value)} (lF_Ledger___init__:K.lookup yG=some ⟨ocF_Ledger___init__,odF_Ledger___init__,.func (PySem.W.fnOf "__init__" "Ledger.__init__" (xC (inClass (top 145) 0)) (yN (inClass (top 145) 0)) (zE (inClass (top 145) 0)) (.ref T_Ledger___init__) kVF_Ledger___init__ dcF_Ledger___init__ pmF_Ledger___init__ anF_Ledger___init__ cdF_Ledger___init__ ctF_Ledger___init__),slF_Ledger___init__⟩) (cF_Ledger___init__:PySem.W.codeIn K cdF_Ledger___init__ "Ledger.__init__"=true) (tF_Ledger___init__:K.lookup T_Ledger___init__=some ⟨oT_Ledger___init__,dT_Ledger___init__,.seq #[.none] nT_Ledger___init__,sT_Ledger___init__⟩)
  {yH:Addr} {odF_Ledger_put anF_Ledger_put:Option Addr} {slF_Ledger_put:Array (Option Value)} {ocF_Ledger_put kVF_Ledger_put dcF_Ledger_put pmF_Ledger_put cdF_Ledger_put ctF_Ledger_put:Value}
  (h_Ledger_put:Meth K C_Ledger "put" yH)
  (lF_Ledger_put:K.lookup yH=some ⟨ocF_Ledger_put,odF_Ledger_put,.func (PySem.W.fnOf "put" "Ledger.put" (xC (inClass (top 145) 1)) (yN (inClass (top 145) 1)) (zE (inClass (top 145) 1)) .none kVF_Ledger_put dcF_Ledger_put pmF_Ledger_put anF_Ledger_put cdF_Ledger_put ctF_Ledger_put),slF_Ledger_put⟩) (cF_Ledger_put:PySem.W.codeIn K cdF_Ledger_put "Ledger.put"=true) (kF_Ledger_put:PySem.W.keepIn K (.ref yH)=true)
  {yT:Addr} {odF_Ledger_take anF_Ledger_take:Option Addr} {slF_Ledger_take:Array (Option Value)} {ocF_Ledger_take kVF_Ledger_take dcF_Ledger_take pmF_Ledger_take cdF_Ledger_take ctF_Ledger_take:Value}
  (h_Ledger_take:Meth K C_Ledger "take" yT)
  (lF_Ledger_take:K.lookup yT=some ⟨ocF_Ledger_take,odF_Ledger_take,.func (PySem.W.fnOf "take" "Ledger.take" (xC (inClass (top 145) 2)) (yN (inClass (top 145) 2)) (zE (inClass (top 145) 2)) .none kVF_Ledger_take dcF_Ledger_take pmF_Ledger_take anF_Ledger_take cdF_Ledger_take ctF_Ledger_take),slF_Ledger_take⟩) (cF_Ledger_take:PySem.W.codeIn K cdF_Ledger_take "Ledger.take"=true) (kF_Ledger_take:PySem.W.keepIn K (.ref yT)=true)
  {xF:Addr} {odF_Ledger_book anF_Ledger_book:Option Addr} {slF_Ledger_book:Array (Option Value)} {ocF_Ledger_book kVF_Ledger_book dcF_Ledger_book pmF_Ledger_book cdF_Ledger_book ctF_Ledger_book:Value}
  (h_Ledger_book:Meth K C_Ledger "book" xF)
  (lF_Ledger_book:K.lookup xF=some ⟨ocF_Ledger_book,odF_Ledger_book,.func (PySem.W.fnOf "book" "Ledger.book" (xC (inClass (top 145) 3)) (yN (inClass (top 145) 3)) (zE (inClass (top 145) 3)) .none kVF_Ledger_book dcF_Ledger_book pmF_Ledger_book anF_Ledger_book cdF_Ledger_book ctF_Ledger_book),slF_Ledger_book⟩) (cF_Ledger_book:PySem.W.codeIn K cdF_Ledger_book "Ledger.book"=true) (kF_Ledger_book:PySem.W.keepIn K (.ref xF)=true)
  {nR:Tok} (kQ:PySem.W.nsIn K mainGlobals "MOST_LETTERS"=some (some (.int (8) nR)))
  {bT:Tok} (kP:PySem.W.nsIn K mainGlobals "MOST_ROWS"=some (some (.int (60) bT)))
  {iH:Tok} (gM:PySem.W.nsIn K mainGlobals "MOST_RULES"=some (some (.int (6) iH)))
  {eI:Tok} (jI:PySem.W.nsIn K mainGlobals "MOST_TABLES"=some (some (.int (4) eI)))
  {iI:Tok} (gL:PySem.W.nsIn K mainGlobals "MOST_TESTS"=some (some (.int (3) iI)))
  {oO:Tok} (bS:PySem.W.nsIn K mainGlobals "MOST_WIDE"=some (some (.int (4) oO)))
  {QG:Addr} {oc_WORDS:Value} {od_WORDS:Option Addr} {its_WORDS:Nd} {n_WORDS:Nat} {sl_WORDS:Array (Option Value)} (sO:PySem.W.nsIn K mainGlobals "WORDS"=some (some (.ref QG))) (HG:K.lookup QG=some ⟨oc_WORDS,od_WORDS,.seq its_WORDS n_WORDS,sl_WORDS⟩) (sN:oc_WORDS=.type "tuple"/\its_WORDS.size<=sizeLine/\Vals ([.str [115,97,109,101],.str [117,110,108,105,107,101],.str [108,101,115,115]].map OT) its_WORDS.toList)
  {C_MendError:Addr} {i_MendError:Option Value} (oK:PySem.W.nsIn K mainGlobals "MendError"=some (some (.ref C_MendError))) (x_MendError:oV K C_MendError bI i_MendError)
  {C_TooGreat:Addr} {i_TooGreat:Option Value} (qV:PySem.W.nsIn K mainGlobals "TooGreat"=some (some (.ref C_TooGreat))) (x_TooGreat:oV K C_TooGreat (.ref C_MendError::bI) i_TooGreat)
  {C_NoText:Addr} {i_NoText:Option Value} (CD:PySem.W.nsIn K mainGlobals "NoText"=some (some (.ref C_NoText))) (x_NoText:oV K C_NoText (.ref C_MendError::bI) i_NoText)
  {C_NoPlace:Addr} {i_NoPlace:Option Value} (tX:PySem.W.nsIn K mainGlobals "NoPlace"=some (some (.ref C_NoPlace))) (x_NoPlace:oV K C_NoPlace (.ref C_MendError::bI) i_NoPlace)
  {C_NotPlain:Addr} {i_NotPlain:Option Value} (qT:PySem.W.nsIn K mainGlobals "NotPlain"=some (some (.ref C_NotPlain))) (x_NotPlain:oV K C_NotPlain (.ref C_MendError::bI) i_NotPlain)
  {C_NoTable:Addr} {i_NoTable:Option Value} (tY:PySem.W.nsIn K mainGlobals "NoTable"=some (some (.ref C_NoTable))) (x_NoTable:oV K C_NoTable (.ref C_MendError::bI) i_NoTable)
  {C_NoRule:Addr} {i_NoRule:Option Value} (CL:PySem.W.nsIn K mainGlobals "NoRule"=some (some (.ref C_NoRule))) (x_NoRule:oV K C_NoRule (.ref C_MendError::bI) i_NoRule)
  {C_NoRow:Addr} {i_NoRow:Option Value} (HK:PySem.W.nsIn K mainGlobals "NoRow"=some (some (.ref C_NoRow))) (x_NoRow:oV K C_NoRow (.ref C_MendError::bI) i_NoRow)
  {C_Twice:Addr} {i_Twice:Option Value} (HI:PySem.W.nsIn K mainGlobals "Twice"=some (some (.ref C_Twice))) (x_Twice:oV K C_Twice (.ref C_MendError::bI) i_Twice)
  {C_NoQuestion:Addr} {i_NoQuestion:Option Value} (iK:PySem.W.nsIn K mainGlobals "NoQuestion"=some (some (.ref C_NoQuestion))) (x_NoQuestion:oV K C_NoQuestion (.ref C_MendError::bI) i_NoQuestion)
  {C_Double:Addr} {i_Double:Option Value} (CI:PySem.W.nsIn K mainGlobals "Double"=some (some (.ref C_Double))) (x_Double:oV K C_Double (.ref C_MendError::bI) i_Double)
  {C_TooWide:Addr} {i_TooWide:Option Value} (tV:PySem.W.nsIn K mainGlobals "TooWide"=some (some (.ref C_TooWide))) (x_TooWide:oV K C_TooWide (.ref C_MendError::bI) i_TooWide)
  {C_Ring:Addr} {i_Ring:Option Value} (NN:PySem.W.nsIn K mainGlobals "Ring"=some (some (.ref C_Ring))) (x_Ring:oV K C_Ring (.ref C_MendError::bI) i_Ring)
  (j_MendError:i_MendError=none)
  (j_TooGreat:i_TooGreat=none)
  (j_NoText:i_NoText=none)
  (j_NoPlace:i_NoPlace=none)
  (j_NotPlain:i_NotPlain=none)
  {I_NoTable:Addr} {odI_NoTable anI_NoTable:Option Addr} {slI_NoTable:Array (Option Value)} {ocI_NoTable kVI_NoTable dcI_NoTable pmI_NoTable cdI_NoTable ctI_NoTable:Value} (y_NoTable:XIn K C_MendError C_NoTable I_NoTable) (lI_NoTable:K.lookup I_NoTable=some ⟨ocI_NoTable,odI_NoTable,.func (PySem.W.fnOf "__init__" "NoTable.__init__" (xC nI) (yN nI) (zE nI) .none kVI_NoTable dcI_NoTable pmI_NoTable anI_NoTable cdI_NoTable ctI_NoTable),slI_NoTable⟩) (cI_NoTable:PySem.W.codeIn K cdI_NoTable "NoTable.__init__"=true) (kI_NoTable:PySem.W.keepIn K (.ref I_NoTable)=true)
  {I_NoRule:Addr} {odI_NoRule anI_NoRule:Option Addr} {slI_NoRule:Array (Option Value)} {ocI_NoRule kVI_NoRule dcI_NoRule pmI_NoRule cdI_NoRule ctI_NoRule:Value} (y_NoRule:XIn K C_MendError C_NoRule I_NoRule) (lI_NoRule:K.lookup I_NoRule=some ⟨ocI_NoRule,odI_NoRule,.func (PySem.W.fnOf "__init__" "NoRule.__init__" (xC fC) (yN fC) (zE fC) .none kVI_NoRule dcI_NoRule pmI_NoRule anI_NoRule cdI_NoRule ctI_NoRule),slI_NoRule⟩) (cI_NoRule:PySem.W.codeIn K cdI_NoRule "NoRule.__init__"=true) (kI_NoRule:PySem.W.keepIn K (.ref I_NoRule)=true)
  {I_NoRow:Addr} {odI_NoRow anI_NoRow:Option Addr} {slI_NoRow:Array (Option Value)} {ocI_NoRow kVI_NoRow dcI_NoRow pmI_NoRow cdI_NoRow ctI_NoRow:Value} (y_NoRow:XIn K C_MendError C_NoRow I_NoRow) (lI_NoRow:K.lookup I_NoRow=some ⟨ocI_NoRow,odI_NoRow,.func (PySem.W.fnOf "__init__" "NoRow.__init__" (xC oG) (yN oG) (zE oG) .none kVI_NoRow dcI_NoRow pmI_NoRow anI_NoRow cdI_NoRow ctI_NoRow),slI_NoRow⟩) (cI_NoRow:PySem.W.codeIn K cdI_NoRow "NoRow.__init__"=true) (kI_NoRow:PySem.W.keepIn K (.ref I_NoRow)=true)
  {I_Twice:Addr} {odI_Twice anI_Twice:Option Addr} {slI_Twice:Array (Option Value)} {ocI_Twice kVI_Twice dcI_Twice pmI_Twice cdI_Twice ctI_Twice:Value} (y_Twice:XIn K C_MendError C_Twice I_Twice) (lI_Twice:K.lookup I_Twice=some ⟨ocI_Twice,odI_Twice,.func (PySem.W.fnOf "__init__" "Twice.__init__" (xC oF) (yN oF) (zE oF) .none kVI_Twice dcI_Twice pmI_Twice anI_Twice cdI_Twice ctI_Twice),slI_Twice⟩) (cI_Twice:PySem.W.codeIn K cdI_Twice "Twice.__init__"=true) (kI_Twice:PySem.W.keepIn K (.ref I_Twice)=true)
  (xm:XMn K C_MendError)
  (xd:[C_MendError,C_TooGreat,C_NoText,C_NoPlace,C_NotPlain,C_NoTable,C_NoRule,C_NoRow,C_Twice,C_NoQuestion,C_Double,C_TooWide,C_Ring].Nodup)
  (xW:PySem.W.nsIn K mainGlobals "ValueError"=some none)
  (JZ:PySem.W.nsIn K mainGlobals "abs"=some none)
  (sM:PySem.W.nsIn K mainGlobals "all"=some none)
  (qU:PySem.W.nsIn K mainGlobals "bool"=some none)
  (xI:PySem.W.nsIn K mainGlobals "enumerate"=some none)
  (KB:PySem.W.nsIn K mainGlobals "int"=some none)
  (zG:PySem.W.nsIn K mainGlobals "isinstance"=some none)
  (wF:PySem.W.nsIn K mainGlobals "len"=some none)
  (cU:PySem.W.nsIn K mainGlobals "range"=some none)
  (KD:PySem.W.nsIn K mainGlobals "str"=some none)
  (wY:PySem.W.nsIn K mainGlobals "tuple"=some none)
  : ∃fd:FuncData,(∀(s:Shared)(v:Value),BindsTo s fd ⟨[v],[]⟩ [("_law_script",v)])/\ ∀base:Heap,K.In base->base.Ns mainGlobals mg->FnOk l.prog w K mg base pF 13 fa fd ["_law_script"] (EG K IX):=by
 have Z_ValueError:=PySem.W.mg_none_of X GG xW;have Z_abs:=PySem.W.mg_none_of X GG JZ;have Z_all:=PySem.W.mg_none_of X GG sM;have Z_bool:=PySem.W.mg_none_of X GG qU;have Z_enumerate:=PySem.W.mg_none_of X GG xI;have Z_int:=PySem.W.mg_none_of X GG KB;have Z_isinstance:=PySem.W.mg_none_of X GG zG;have Z_len:=PySem.W.mg_none_of X GG wF;have Z_range:=PySem.W.mg_none_of X GG cU;have Z_str:=PySem.W.mg_none_of X GG KD;have Z_tuple:=PySem.W.mg_none_of X GG wY;have M_MOST_LETTERS:=PySem.W.mg_of X GG kQ;have M_MOST_ROWS:=PySem.W.mg_of X GG kP;have M_MOST_RULES:=PySem.W.mg_of X GG gM;have M_MOST_TABLES:=PySem.W.mg_of X GG jI;have M_MOST_TESTS:=PySem.W.mg_of X GG gL;have M_MOST_WIDE:=PySem.W.mg_of X GG bS;have M_WORDS:GTup K mg "WORDS" [.str [115,97,109,101],.str [117,110,108,105,107,101],.str [108,101,115,115]]:=⟨⟨_,_,_,_,PySem.W.mg_of X GG sO,HG,sN.1,rfl,sN.2.1,sN.2.2⟩,rfl⟩
 subst j_MendError;subst j_TooGreat;subst j_NoText;subst j_NoPlace;subst j_NotPlain;let xl:Nat->Addr:=λn=>[C_TooGreat,C_NoText,C_NoPlace,C_NotPlain,C_NoTable,C_NoRule,C_NoRow,C_Twice,C_NoQuestion,C_Double,C_TooWide,C_Ring].getD n 0;have XT:XTab K mg C_MendError (YT xl):=⟨PySem.W.mg_of X GG oK,x_MendError,⟨⟨PySem.W.mg_of X GG qV,_,x_TooGreat⟩,⟨PySem.W.mg_of X GG CD,_,x_NoText⟩,⟨PySem.W.mg_of X GG tX,_,x_NoPlace⟩,⟨PySem.W.mg_of X GG qT,_,x_NotPlain⟩,⟨PySem.W.mg_of X GG tY,_,x_NoTable⟩,⟨PySem.W.mg_of X GG CL,_,x_NoRule⟩,⟨PySem.W.mg_of X GG HK,_,x_NoRow⟩,⟨PySem.W.mg_of X GG HI,_,x_Twice⟩,⟨PySem.W.mg_of X GG iK,_,x_NoQuestion⟩,⟨PySem.W.mg_of X GG CI,_,x_Double⟩,⟨PySem.W.mg_of X GG tV,_,x_TooWide⟩,⟨PySem.W.mg_of X GG NN,_,x_Ring⟩,trivial⟩,xd⟩
 have FI_NoTable:=lF (st:=nI) lI_NoTable cI_NoTable kI_NoTable;have bI_NoTable:=FI_NoTable.binds (ps:=["self","place"]) λ_ _ _ _ _ _ us hl=>match us,hl with |[_,_],_=>rfl
 have FI_NoRule:=lF (st:=fC) lI_NoRule cI_NoRule kI_NoRule;have bI_NoRule:=FI_NoRule.binds (ps:=["self","place"]) λ_ _ _ _ _ _ us hl=>match us,hl with |[_,_],_=>rfl
 have FI_NoRow:=lF (st:=oG) lI_NoRow cI_NoRow kI_NoRow;have bI_NoRow:=FI_NoRow.binds (ps:=["self","place"]) λ_ _ _ _ _ _ us hl=>match us,hl with |[_,_],_=>rfl
 have FI_Twice:=lF (st:=oF) lI_Twice cI_Twice kI_Twice;have bI_Twice:=FI_Twice.binds (ps:=["self","place"]) λ_ _ _ _ _ _ us hl=>match us,hl with |[_,_],_=>rfl
 have FF_Ledger___init__:=Ca (st:=inClass (top 145) 0) lF_Ledger___init__ cF_Ledger___init__ tF_Ledger___init__;have bF_Ledger___init__:=FF_Ledger___init__.binds (ps:=["self","tables","rules"]) (ds:=[]) λ_ _ _ _ _ _ _ us hl=>match us,hl with |[_,_,_],_=>⟨_,rfl,rfl⟩
 have bE_Ledger___init__:=FF_Ledger___init__.binds (ps:=["self","tables","rules"]) (ds:=[.none]) λ_ _ _ _ _ _ _ us hl=>match us,hl with |[_,_],_=>⟨_,rfl,rfl⟩
 have FF_Ledger_put:=lF (st:=inClass (top 145) 1) lF_Ledger_put cF_Ledger_put kF_Ledger_put;have bF_Ledger_put:=FF_Ledger_put.binds (ps:=["self","t","cells"]) λ_ _ _ _ _ _ us hl=>match us,hl with |[_,_,_],_=>rfl
 have FF_Ledger_take:=lF (st:=inClass (top 145) 2) lF_Ledger_take cF_Ledger_take kF_Ledger_take;have bF_Ledger_take:=FF_Ledger_take.binds (ps:=["self","number"]) λ_ _ _ _ _ _ us hl=>match us,hl with |[_,_],_=>rfl
 have FF_Ledger_book:=lF (st:=inClass (top 145) 3) lF_Ledger_book cF_Ledger_book kF_Ledger_book;have bF_Ledger_book:=FF_Ledger_book.binds (ps:=["self"]) λ_ _ _ _ _ _ us hl=>match us,hl with |[_],_=>rfl
 have OC_Ledger:OC K "Ledger" C_Ledger:=⟨n_Ledger,o_Ledger,CK⟩
 have rf_Ledger_rows: ∃C,OC K "Ledger" C/\NoAttr K C "rows":=⟨C_Ledger,OC_Ledger,eG⟩
 have rf_Ledger_rules: ∃C,OC K "Ledger" C/\NoAttr K C "rules":=⟨C_Ledger,OC_Ledger,nQ⟩
 have rf_Ledger_tables: ∃C,OC K "Ledger" C/\NoAttr K C "tables":=⟨C_Ledger,OC_Ledger,cG⟩
 refine Hx D28 hfa (λ_ _ _ _ _ _ s v=>.of_eq rfl) λbase f fd F=>?_;have GI_NoTable:FnOk l.prog w K mg base pF 1 I_NoTable _ ["self","place"] (pK C_NoTable "place"):=vC FI_NoTable JO x_MendError y_NoTable xm XT.m rfl (λ_=>rfl) (λ_=>rfl) (λ_=>rfl) rfl rfl rfl (by decide) (by decide) (.txt (by decide) (.fld (.nil))) (by decide) (by decide) dF;have GI_NoRule:FnOk l.prog w K mg base pF 1 I_NoRule _ ["self","place"] (pK C_NoRule "place"):=vC FI_NoRule MX x_MendError y_NoRule xm XT.m rfl (λ_=>rfl) (λ_=>rfl) (λ_=>rfl) rfl rfl rfl (by decide) (by decide) (.txt (by decide) (.fld (.nil))) (by decide) (by decide) dF;have GI_NoRow:FnOk l.prog w K mg base pF 1 I_NoRow _ ["self","place"] (pK C_NoRow "place"):=vC FI_NoRow SQ x_MendError y_NoRow xm XT.m rfl (λ_=>rfl) (λ_=>rfl) (λ_=>rfl) rfl rfl rfl (by decide) (by decide) (.txt (by decide) (.fld (.nil))) (by decide) (by decide) dF;have GI_Twice:FnOk l.prog w K mg base pF 1 I_Twice _ ["self","place"] (pK C_Twice "place"):=vC FI_Twice SO x_MendError y_Twice xm XT.m rfl (λ_=>rfl) (λ_=>rfl) (λ_=>rfl) rfl rfl rfl (by decide) (by decide) (.txt (by decide) (.fld (.txt (by decide) (.nil)))) (by decide) (by decide) dF;have G0:=JQ (P:=l.prog) (w:=w) (base:=base) D0 Z_int Z_isinstance Z_bool;have G1:=MZ (P:=l.prog) (w:=w) (base:=base) D1 Z_str Z_isinstance Z_len M_MOST_LETTERS Z_all;have G2:=JS (P:=l.prog) (w:=w) (base:=base) D2 G0 Z_abs G1;have G3:=JU (P:=l.prog) (w:=w) (base:=base) D3 Z_tuple Z_isinstance Z_len;have G4:=qO (P:=l.prog) (w:=w) (base:=base) D4 G0;have G5:=JV (P:=l.prog) (w:=w) (base:=base) D5 G3 G0 M_MOST_WIDE G4;have G6:=NB (P:=l.prog) (w:=w) (base:=base) D6 G3 G2 G4 Z_len;have G7:=ND (P:=l.prog) (w:=w) (base:=base) D7 G3 G6 M_WORDS;have G8:=HE (P:=l.prog) (w:=w) (base:=base) D8 G3 M_MOST_TESTS G7 Z_all;have G9:=JX (P:=l.prog) (w:=w) (base:=base) D9 Z_len G4 G8;have G10:=NG (P:=l.prog) (w:=w) (base:=base) D10 Z_tuple Z_isinstance Z_len G9;have G11:=SR (P:=l.prog) (w:=w) (base:=base) D11 G3 G4 Z_len G2 Z_all;have G12:=BS (P:=l.prog) (w:=w) (base:=base) D12 XT Z_len M_MOST_TABLES M_MOST_RULES M_MOST_ROWS x_TooGreat;have G13:=uU (P:=l.prog) (w:=w) (base:=base) D13 XT Z_len y_NoTable GI_NoTable bI_NoTable Z_enumerate G5;have G14:=BU (P:=l.prog) (w:=w) (base:=base) D14 XT Z_enumerate G10 y_NoRule GI_NoRule bI_NoRule;have G15:=DC (P:=l.prog) (w:=w) (base:=base) D15 Z_enumerate;have G16:=NI (P:=l.prog) (w:=w) (base:=base) D16 G12 G13 G14 G15 Z_tuple;have GM_Ledger___init__:=qR (P:=l.prog) (w:=w) (mg:=mg) (base:=base) FF_Ledger___init__ G16 rf_Ledger_tables rf_Ledger_rules rf_Ledger_rows;have in_Ledger:Lx l.prog w K mg base 10 3 "Ledger" zW:=⟨C_Ledger,yG,_,_,OC_Ledger,PySem.W.mg_of X GG n_Ledger,CG,GM_Ledger___init__,bF_Ledger___init__,bE_Ledger___init__⟩
 have GM_Ledger_put:=DD (P:=l.prog) (w:=w) (mg:=mg) (base:=base) FF_Ledger_put XT rf_Ledger_rows Z_len M_MOST_ROWS x_TooGreat G11 rf_Ledger_tables y_NoRow GI_NoRow bI_NoRow y_Twice GI_Twice bI_Twice;have mt_Ledger_put:RMtX l.prog w K mg base "put" 4 3 "Ledger" zP:=⟨C_Ledger,yH,_,_,OC_Ledger,h_Ledger_put,GM_Ledger_put,bF_Ledger_put⟩
 have GM_Ledger_take:=BW (P:=l.prog) (w:=w) (mg:=mg) (base:=base) FF_Ledger_take XT G4 rf_Ledger_rows Z_len x_NoPlace;have mt_Ledger_take:RMtX l.prog w K mg base "take" 3 2 "Ledger" yB:=⟨C_Ledger,yT,_,_,OC_Ledger,h_Ledger_take,GM_Ledger_take,bF_Ledger_take⟩
 have GM_Ledger_book:=CB (P:=l.prog) (w:=w) (mg:=mg) (base:=base) FF_Ledger_book rf_Ledger_tables rf_Ledger_rules rf_Ledger_rows Z_tuple;have mt_Ledger_book:Lw l.prog w K mg base "book" 1 1 "Ledger" yC:=⟨C_Ledger,xF,_,_,OC_Ledger,h_Ledger_book,GM_Ledger_book,bF_Ledger_book⟩
 have G21:=uW (P:=l.prog) (w:=w) (base:=base) D21 Z_len;have G22:=JY (P:=l.prog) (w:=w) (base:=base) D22;have GH23:=CC (P:=l.prog) (w:=w) (base:=base) D23 XT Z_isinstance;have G23:=DE (P:=l.prog) (w:=w) (base:=base) D23 XT Z_isinstance;have G24:=uX (P:=l.prog) (w:=w) (base:=base) D24 XT GH23 Z_isinstance Z_ValueError mt_Ledger_put mt_Ledger_take Z_range Z_bool;have G25:=HF (P:=l.prog) (w:=w) (base:=base) D25 XT GH23 Z_isinstance Z_ValueError in_Ledger Z_range;have G26:=uY (P:=l.prog) (w:=w) (base:=base) D26;have G27:=lB (P:=l.prog) (w:=w) (base:=base) D27;exact Jk (P:=l.prog) (w:=w) (base:=base) F G21 in_Ledger Z_range G22 mt_Ledger_put Z_tuple G26 G24 G27 G25 mt_Ledger_book mt_Ledger_take
def walk{l:PySem.W.OpenLaw}{q:Program}{loose:Nh}{XP:(Str->Option Value)->Heap->Prop}{YP:World->Heap->Prop}{d:DefRec}{K:Params->PySem.W.Frag}(hn:l.most=some 63)(hdf:d.params.defaults=[])
  (hY: ∀(w:World)(h:Heap),YP w h->(K w.params).In h)
  (F: ∀(w:World)(mg:Ni)(fa:Addr)(h:Heap),(K w.params).In h->h.Ns mainGlobals mg->mg d.name=some (.ref fa)->
   ∃fd:FuncData,(∀(s:Shared)(u:Value),BindsTo s fd ⟨[u],[]⟩ [("_law_script",u)])/\ ∀base:Heap,(K w.params).In base->base.Ns mainGlobals mg->FnOk l.prog w (K w.params) mg base pF 13 fa fd ["_law_script"] (EG (K w.params) IX)):
  PySem.W.WalkO q loose XP YP l.row.toRowW d [] (λf vs=>PySem.call f vs):=
 L2.walk_of (n:=63) (k:=13) (x:="_law_script") (CX:=λ_=>pF) (sp:=λw=>EG (K w.params) IX) hn (by decide) hdf ⟨rfl,by decide,by decide⟩ hY F
  (λw H a ns hl hO hS=>WA hO hS (YS ns hl)) λ_ _ _ _ _ z=>z
end My
end M
end L2
namespace PySem.W.Fast
def tw12120570890037409588:=0
theorem te12120570890037409588:tw12120570890037409588=0:=rfl
def tw10402495800369832569:=0
theorem te10402495800369832569:tw10402495800369832569=0:=rfl
def tw8823547643258680738:=0
theorem te8823547643258680738:tw8823547643258680738=0:=rfl
def tw16886534270834708173:=0
theorem te16886534270834708173:tw16886534270834708173=0:=rfl
def tw16509489695558333173:=0
theorem te16509489695558333173:tw16509489695558333173=0:=rfl
def tw618715629696182780:=0
theorem te618715629696182780:tw618715629696182780=0:=rfl
def tw11599155191998417609:=0
theorem te11599155191998417609:tw11599155191998417609=0:=rfl
def tw6147924101828070333:=0
theorem te6147924101828070333:tw6147924101828070333=0:=rfl
def tw7544064007407733928:=0
theorem te7544064007407733928:tw7544064007407733928=0:=rfl
def tw5741317779905877439:=0
theorem te5741317779905877439:tw5741317779905877439=0:=rfl
def tw2557604221829406088:=0
theorem te2557604221829406088:tw2557604221829406088=0:=rfl
def tw1155077879555594962:=0
theorem te1155077879555594962:tw1155077879555594962=0:=rfl
def tw7296905295249786453:=0
theorem te7296905295249786453:tw7296905295249786453=0:=rfl
def tw8547574680504391080:=0
theorem te8547574680504391080:tw8547574680504391080=0:=rfl
def tw1392687184137406651:=0
theorem te1392687184137406651:tw1392687184137406651=0:=rfl
def tw1642739537729293005:=0
theorem te1642739537729293005:tw1642739537729293005=0:=rfl
def tw6180762900630383013:=0
theorem te6180762900630383013:tw6180762900630383013=0:=rfl
def tw11093915114998259175:=0
theorem te11093915114998259175:tw11093915114998259175=0:=rfl
def tw11036885246477061831:=0
theorem te11036885246477061831:tw11036885246477061831=0:=rfl
def tw1138020699583583426:=0
theorem te1138020699583583426:tw1138020699583583426=0:=rfl
def tw7206707726885728307:=0
theorem te7206707726885728307:tw7206707726885728307=0:=rfl
def tw2548445694647054126:=0
theorem te2548445694647054126:tw2548445694647054126=0:=rfl
def tw76087333472958518:=0
theorem te76087333472958518:tw76087333472958518=0:=rfl
def tw18022338510169849853:=0
theorem te18022338510169849853:tw18022338510169849853=0:=rfl
def tw14563941912218608439:=0
theorem te14563941912218608439:tw14563941912218608439=0:=rfl
def tw2942461468208733484:=0
theorem te2942461468208733484:tw2942461468208733484=0:=rfl
def tw225067251075696501:=0
theorem te225067251075696501:tw225067251075696501=0:=rfl
def tw6911257155336035597:=0
theorem te6911257155336035597:tw6911257155336035597=0:=rfl
def tw7420328919395042882:=0
theorem te7420328919395042882:tw7420328919395042882=0:=rfl
def tw10718737829951135862:=0
theorem te10718737829951135862:tw10718737829951135862=0:=rfl
def tw17663612016218611928:=0
theorem te17663612016218611928:tw17663612016218611928=0:=rfl
def tw9192322748455314593:=0
theorem te9192322748455314593:tw9192322748455314593=0:=rfl
def tw11337768221139017149:=0
theorem te11337768221139017149:tw11337768221139017149=0:=rfl
def tw1761122624937611038:=0
theorem te1761122624937611038:tw1761122624937611038=0:=rfl
def tw7198585558209270530:=0
theorem te7198585558209270530:tw7198585558209270530=0:=rfl
def tw12607886440701016422:=0
theorem te12607886440701016422:tw12607886440701016422=0:=rfl
def tw4637939288329362819:=0
theorem te4637939288329362819:tw4637939288329362819=0:=rfl
def tw629659681184248882:=0
theorem te629659681184248882:tw629659681184248882=0:=rfl
def tw5454268786929592518:=0
theorem te5454268786929592518:tw5454268786929592518=0:=rfl
def tw8451609309206530473:=0
theorem te8451609309206530473:tw8451609309206530473=0:=rfl
def tw3760108375310750601:=0
theorem te3760108375310750601:tw3760108375310750601=0:=rfl
def tw15365173893268105384:=0
theorem te15365173893268105384:tw15365173893268105384=0:=rfl
def tw2670425367144383082:=0
theorem te2670425367144383082:tw2670425367144383082=0:=rfl
def tw13966943145118073970:=0
theorem te13966943145118073970:tw13966943145118073970=0:=rfl
def tw7026795496407229306:=0
theorem te7026795496407229306:tw7026795496407229306=0:=rfl
def tw12405406846948062784:=0
theorem te12405406846948062784:tw12405406846948062784=0:=rfl
def tw7775315297128875623:=0
theorem te7775315297128875623:tw7775315297128875623=0:=rfl
def tw9110890119331265691:=0
theorem te9110890119331265691:tw9110890119331265691=0:=rfl
def tw14156741121863696717:=0
theorem te14156741121863696717:tw14156741121863696717=0:=rfl
def tw15348143605917359244:=0
theorem te15348143605917359244:tw15348143605917359244=0:=rfl
def tw10858217708484477151:=0
theorem te10858217708484477151:tw10858217708484477151=0:=rfl
def tw14558349976156157485:=0
theorem te14558349976156157485:tw14558349976156157485=0:=rfl
def tw3396598581609528372:=0
theorem te3396598581609528372:tw3396598581609528372=0:=rfl
def tw12980243041757570331:=0
theorem te12980243041757570331:tw12980243041757570331=0:=rfl
def tw12464481725041201199:=0
theorem te12464481725041201199:tw12464481725041201199=0:=rfl
def tw14683925667467442534:=0
theorem te14683925667467442534:tw14683925667467442534=0:=rfl
def tw15945511871360818351:=0
theorem te15945511871360818351:tw15945511871360818351=0:=rfl
def tw14101740744671078488:=0
theorem te14101740744671078488:tw14101740744671078488=0:=rfl
def tw15753903484223790699:=0
theorem te15753903484223790699:tw15753903484223790699=0:=rfl
def tw14665622564178445045:=0
theorem te14665622564178445045:tw14665622564178445045=0:=rfl
def tw11357572589348040437:=0
theorem te11357572589348040437:tw11357572589348040437=0:=rfl
def tw13238878859647849772:=0
theorem te13238878859647849772:tw13238878859647849772=0:=rfl
def tw1401656982854027452:=0
theorem te1401656982854027452:tw1401656982854027452=0:=rfl
def tw14776347062767501656:=0
theorem te14776347062767501656:tw14776347062767501656=0:=rfl
def tw15584368458811756452:=0
theorem te15584368458811756452:tw15584368458811756452=0:=rfl
def tw13537611197006664337:=0
theorem te13537611197006664337:tw13537611197006664337=0:=rfl
def tw10274156909983990473:=0
theorem te10274156909983990473:tw10274156909983990473=0:=rfl
def tw5088741816892952472:=0
theorem te5088741816892952472:tw5088741816892952472=0:=rfl
def tw2938751397210762795:=0
theorem te2938751397210762795:tw2938751397210762795=0:=rfl
def tw6633950610703706407:=0
theorem te6633950610703706407:tw6633950610703706407=0:=rfl
def tw17174896181036128488:=0
theorem te17174896181036128488:tw17174896181036128488=0:=rfl
def tw16617787899425714693:=0
theorem te16617787899425714693:tw16617787899425714693=0:=rfl
def tw17785660340891051697:=0
theorem te17785660340891051697:tw17785660340891051697=0:=rfl
def tw8439374410569385768:=0
theorem te8439374410569385768:tw8439374410569385768=0:=rfl
def tw16317701073270938168:=0
theorem te16317701073270938168:tw16317701073270938168=0:=rfl
def tw17548955470905233282:=0
theorem te17548955470905233282:tw17548955470905233282=0:=rfl
def tw10355539537829299839:=0
theorem te10355539537829299839:tw10355539537829299839=0:=rfl
def tw8005311066570344921:=0
theorem te8005311066570344921:tw8005311066570344921=0:=rfl
def tw1428981568821072593:=0
theorem te1428981568821072593:tw1428981568821072593=0:=rfl
def tw15728169036151367503:=0
theorem te15728169036151367503:tw15728169036151367503=0:=rfl
def tw15278080923104645394:=0
theorem te15278080923104645394:tw15278080923104645394=0:=rfl
def tw3346313825942444415:=0
theorem te3346313825942444415:tw3346313825942444415=0:=rfl
def tw16161267454430449936:=0
theorem te16161267454430449936:tw16161267454430449936=0:=rfl
def tw7990832090138458453:=0
theorem te7990832090138458453:tw7990832090138458453=0:=rfl
def tw8835000267421891379:=0
theorem te8835000267421891379:tw8835000267421891379=0:=rfl
def tw8653408435101872803:=0
theorem te8653408435101872803:tw8653408435101872803=0:=rfl
def tw16316022269615434612:=0
theorem te16316022269615434612:tw16316022269615434612=0:=rfl
def tw16082177153691237256:=0
theorem te16082177153691237256:tw16082177153691237256=0:=rfl
def tw9576841293494595242:=0
theorem te9576841293494595242:tw9576841293494595242=0:=rfl
def tw9671306775387531246:=0
theorem te9671306775387531246:tw9671306775387531246=0:=rfl
def tw2896916909473637740:=0
theorem te2896916909473637740:tw2896916909473637740=0:=rfl
def tw7551705724193381530:=0
theorem te7551705724193381530:tw7551705724193381530=0:=rfl
def tw5223293831475079749:=0
theorem te5223293831475079749:tw5223293831475079749=0:=rfl
def tw5153098226445452817:=0
theorem te5153098226445452817:tw5153098226445452817=0:=rfl
def tw3156075977835462617:=0
theorem te3156075977835462617:tw3156075977835462617=0:=rfl
def tw12948341124874095031:=0
theorem te12948341124874095031:tw12948341124874095031=0:=rfl
def tw8327524994129017286:=0
theorem te8327524994129017286:tw8327524994129017286=0:=rfl
def tw18410348469670440000:=0
theorem te18410348469670440000:tw18410348469670440000=0:=rfl
def tw15710111152281479896:=0
theorem te15710111152281479896:tw15710111152281479896=0:=rfl
def tw15455561111645740238:=0
theorem te15455561111645740238:tw15455561111645740238=0:=rfl
def tw8210876908975030994:=0
theorem te8210876908975030994:tw8210876908975030994=0:=rfl
def tw76131638373893186:=0
theorem te76131638373893186:tw76131638373893186=0:=rfl
def tw13302856020344377580:=0
theorem te13302856020344377580:tw13302856020344377580=0:=rfl
def tw7224786395986125372:=0
theorem te7224786395986125372:tw7224786395986125372=0:=rfl
def tw8310403894521253588:=0
theorem te8310403894521253588:tw8310403894521253588=0:=rfl
def tw7214094574835435597:=0
theorem te7214094574835435597:tw7214094574835435597=0:=rfl
def tw6891097242718387255:=0
theorem te6891097242718387255:tw6891097242718387255=0:=rfl
def tw2046154414430016173:=0
theorem te2046154414430016173:tw2046154414430016173=0:=rfl
def tw8680212730910886110:=0
theorem te8680212730910886110:tw8680212730910886110=0:=rfl
def tw6804203779705847763:=0
theorem te6804203779705847763:tw6804203779705847763=0:=rfl
def tw5072548216173558589:=0
theorem te5072548216173558589:tw5072548216173558589=0:=rfl
def tw10929258432059217444:=0
theorem te10929258432059217444:tw10929258432059217444=0:=rfl
def tw6355352593771929915:=0
theorem te6355352593771929915:tw6355352593771929915=0:=rfl
def tw14923701709999819182:=0
theorem te14923701709999819182:tw14923701709999819182=0:=rfl
def tw5681810974818632121:=0
theorem te5681810974818632121:tw5681810974818632121=0:=rfl
def tw8133446588981643308:=0
theorem te8133446588981643308:tw8133446588981643308=0:=rfl
def tw13113931934312671942:=0
theorem te13113931934312671942:tw13113931934312671942=0:=rfl
def tw14873164964441518088:=0
theorem te14873164964441518088:tw14873164964441518088=0:=rfl
def tw11324090043765253159:=0
theorem te11324090043765253159:tw11324090043765253159=0:=rfl
def tw6371501320723538238:=0
theorem te6371501320723538238:tw6371501320723538238=0:=rfl
def tw10732785497760550074:=0
theorem te10732785497760550074:tw10732785497760550074=0:=rfl
def tw17989035499788703864:=0
theorem te17989035499788703864:tw17989035499788703864=0:=rfl
def tw12767469244170288977:=0
theorem te12767469244170288977:tw12767469244170288977=0:=rfl
def tw6707444980878613894:=0
theorem te6707444980878613894:tw6707444980878613894=0:=rfl
def tw4195661429748665664:=0
theorem te4195661429748665664:tw4195661429748665664=0:=rfl
def tw1616413623264078610:=0
theorem te1616413623264078610:tw1616413623264078610=0:=rfl
def tw3320422712031056082:=0
theorem te3320422712031056082:tw3320422712031056082=0:=rfl
def tw16938093259654608785:=0
theorem te16938093259654608785:tw16938093259654608785=0:=rfl
def tw14156007788535942190:=0
theorem te14156007788535942190:tw14156007788535942190=0:=rfl
def tw2558302827922024950:=0
theorem te2558302827922024950:tw2558302827922024950=0:=rfl
def tw14429398259150935243:=0
theorem te14429398259150935243:tw14429398259150935243=0:=rfl
def tw12648454817361729102:=0
theorem te12648454817361729102:tw12648454817361729102=0:=rfl
def tw7666979736000742819:=0
theorem te7666979736000742819:tw7666979736000742819=0:=rfl
def tw14396974992323631965:=0
theorem te14396974992323631965:tw14396974992323631965=0:=rfl
def tw9854554133464053012:=0
theorem te9854554133464053012:tw9854554133464053012=0:=rfl
def tw9291986252691976106:=0
theorem te9291986252691976106:tw9291986252691976106=0:=rfl
def tw8686004439654146697:=0
theorem te8686004439654146697:tw8686004439654146697=0:=rfl
def tw15678670437525990307:=0
theorem te15678670437525990307:tw15678670437525990307=0:=rfl
def tw12353403645056144976:=0
theorem te12353403645056144976:tw12353403645056144976=0:=rfl
def tw10327471466575867918:=0
theorem te10327471466575867918:tw10327471466575867918=0:=rfl
def tw12519069525529866188:=0
theorem te12519069525529866188:tw12519069525529866188=0:=rfl
def tw15856730388674491883:=0
theorem te15856730388674491883:tw15856730388674491883=0:=rfl
def tw3134975430313477001:=0
theorem te3134975430313477001:tw3134975430313477001=0:=rfl
def tw7984860417584640721:=0
theorem te7984860417584640721:tw7984860417584640721=0:=rfl
def tw16778100909641318900:=0
theorem te16778100909641318900:tw16778100909641318900=0:=rfl
def tw8764082999389256702:=0
theorem te8764082999389256702:tw8764082999389256702=0:=rfl
def tw7074359677153670089:=0
theorem te7074359677153670089:tw7074359677153670089=0:=rfl
def tw6489200509229519774:=0
theorem te6489200509229519774:tw6489200509229519774=0:=rfl
def tw15804743425143323920:=0
theorem te15804743425143323920:tw15804743425143323920=0:=rfl
def tw14300120188406468718:=0
theorem te14300120188406468718:tw14300120188406468718=0:=rfl
def tw6739590715286569813:=0
theorem te6739590715286569813:tw6739590715286569813=0:=rfl
def tw14276208157331033036:=0
theorem te14276208157331033036:tw14276208157331033036=0:=rfl
def tw13743710562179662382:=0
theorem te13743710562179662382:tw13743710562179662382=0:=rfl
def tw9960016747690136168:=0
theorem te9960016747690136168:tw9960016747690136168=0:=rfl
def tw7666848896319720254:=0
theorem te7666848896319720254:tw7666848896319720254=0:=rfl
def tw13183051249936075019:=0
theorem te13183051249936075019:tw13183051249936075019=0:=rfl
def tw11134462962074990099:=0
theorem te11134462962074990099:tw11134462962074990099=0:=rfl
def tw403804826993842954:=0
theorem te403804826993842954:tw403804826993842954=0:=rfl
def tw11379681778996433633:=0
theorem te11379681778996433633:tw11379681778996433633=0:=rfl
def tw3954513159606577633:=0
theorem te3954513159606577633:tw3954513159606577633=0:=rfl
def tw8701040207929363115:=0
theorem te8701040207929363115:tw8701040207929363115=0:=rfl
def tw244953483608765072:=0
theorem te244953483608765072:tw244953483608765072=0:=rfl
def tw9352444499884686091:=0
theorem te9352444499884686091:tw9352444499884686091=0:=rfl
def tw16151780092698389913:=0
theorem te16151780092698389913:tw16151780092698389913=0:=rfl
def tw16568865969075928859:=0
theorem te16568865969075928859:tw16568865969075928859=0:=rfl
def tw17807517355155239425:=0
theorem te17807517355155239425:tw17807517355155239425=0:=rfl
def tw7958700569766649625:=0
theorem te7958700569766649625:tw7958700569766649625=0:=rfl
def tw6115934751221651352:=0
theorem te6115934751221651352:tw6115934751221651352=0:=rfl
def tw15153526597214441585:=0
theorem te15153526597214441585:tw15153526597214441585=0:=rfl
def tw1452084492092764603:=0
theorem te1452084492092764603:tw1452084492092764603=0:=rfl
def tw13666889935916716734:=0
theorem te13666889935916716734:tw13666889935916716734=0:=rfl
def tw5622199083097505380:=0
theorem te5622199083097505380:tw5622199083097505380=0:=rfl
def tw15314447412653042287:=0
theorem te15314447412653042287:tw15314447412653042287=0:=rfl
def tw15097882402871472490:=0
theorem te15097882402871472490:tw15097882402871472490=0:=rfl
def tw5701491592593769021:=0
theorem te5701491592593769021:tw5701491592593769021=0:=rfl
def tw16593852231319424257:=0
theorem te16593852231319424257:tw16593852231319424257=0:=rfl
def tw8490972009509964335:=0
theorem te8490972009509964335:tw8490972009509964335=0:=rfl
def tw4199453423282531574:=0
theorem te4199453423282531574:tw4199453423282531574=0:=rfl
def tw248694101872417192:=0
theorem te248694101872417192:tw248694101872417192=0:=rfl
def tw11223932682185546564:=0
theorem te11223932682185546564:tw11223932682185546564=0:=rfl
def tw9342677633478788600:=0
theorem te9342677633478788600:tw9342677633478788600=0:=rfl
def tw1578850714398114821:=0
theorem te1578850714398114821:tw1578850714398114821=0:=rfl
def tw1650040748950893031:=0
theorem te1650040748950893031:tw1650040748950893031=0:=rfl
def tw18174996146117520039:=0
theorem te18174996146117520039:tw18174996146117520039=0:=rfl
def tw2333050865104935043:=0
theorem te2333050865104935043:tw2333050865104935043=0:=rfl
def tw3414571333028071359:=0
theorem te3414571333028071359:tw3414571333028071359=0:=rfl
def tw13671280595373365567:=0
theorem te13671280595373365567:tw13671280595373365567=0:=rfl
def tw1105437528164713113:=0
theorem te1105437528164713113:tw1105437528164713113=0:=rfl
def tw16577087330048383533:=0
theorem te16577087330048383533:tw16577087330048383533=0:=rfl
def tw2606860671109470672:=0
theorem te2606860671109470672:tw2606860671109470672=0:=rfl
def tw367213107955744802:=0
theorem te367213107955744802:tw367213107955744802=0:=rfl
def tw642067272283994664:=0
theorem te642067272283994664:tw642067272283994664=0:=rfl
def tw5100892343053707169:=0
theorem te5100892343053707169:tw5100892343053707169=0:=rfl
def tw4733946042246465940:=0
theorem te4733946042246465940:tw4733946042246465940=0:=rfl
def tw4255089322426844702:=0
theorem te4255089322426844702:tw4255089322426844702=0:=rfl
def tw7019381459952334508:=0
theorem te7019381459952334508:tw7019381459952334508=0:=rfl
def tw6373485405809684950:=0
theorem te6373485405809684950:tw6373485405809684950=0:=rfl
def tw12461617068886880178:=0
theorem te12461617068886880178:tw12461617068886880178=0:=rfl
def tw10522340625590337588:=0
theorem te10522340625590337588:tw10522340625590337588=0:=rfl
def tw9260442621790908676:=0
theorem te9260442621790908676:tw9260442621790908676=0:=rfl
def tw7760787948043380295:=0
theorem te7760787948043380295:tw7760787948043380295=0:=rfl
def tw18269368535152510969:=0
theorem te18269368535152510969:tw18269368535152510969=0:=rfl
def tw10758662619032147610:=0
theorem te10758662619032147610:tw10758662619032147610=0:=rfl
def tw7928784366406745116:=0
theorem te7928784366406745116:tw7928784366406745116=0:=rfl
def tw3359141531208857176:=0
theorem te3359141531208857176:tw3359141531208857176=0:=rfl
def tw13151193733798492465:=0
theorem te13151193733798492465:tw13151193733798492465=0:=rfl
end PySem.W.Fast
open PySem PySem.W PyProof.Rows
set_option maxRecDepth 100000 in
set_option maxHeartbeats 0 in
theorem PySem.Challenge.cw_mendsure_k81_ledgers_that_refuse_holds : PySem.Challenge.rw_mendsure_k81_ledgers_that_refuse.Holds := by
  w_on; o_law; k_head; (case hw => w_witness2)
  k_fill
  refine L2.M.My.walk (l := PySem.Challenge.rw_mendsure_k81_ledgers_that_refuse) rfl rfl (fun w h Y => PySem.W.kIn_of Y) ?F
  case F =>
    intro w mg fa h KX G hmg
    refine' L2.M.My.all_mk KX G hmg ?D0 ?D1 ?D2 ?D3 ?D4 ?D5 ?D6 ?D7 ?D8 ?D9 ?D10 ?D11 ?D12 ?D13 ?D14 ?D15 ?D16 ?D21 ?D22 ?D23 ?D24 ?D25 ?D26 ?D27 ?D28 ?n_Ledger ?o_Ledger ?CK ?eG ?nQ ?cG ?CG ?lF_Ledger___init__ ?cF_Ledger___init__ ?tF_Ledger___init__ ?h_Ledger_put ?lF_Ledger_put ?cF_Ledger_put ?kF_Ledger_put ?h_Ledger_take ?lF_Ledger_take ?cF_Ledger_take ?kF_Ledger_take ?h_Ledger_book ?lF_Ledger_book ?cF_Ledger_book ?kF_Ledger_book ?kQ ?kP ?gM ?jI ?gL ?bS ?sO ?HG ?sN ?oK ?x_MendError ?qV ?x_TooGreat ?CD ?x_NoText ?tX ?x_NoPlace ?qT ?x_NotPlain ?tY ?x_NoTable ?CL ?x_NoRule ?HK ?x_NoRow ?HI ?x_Twice ?iK ?x_NoQuestion ?CI ?x_Double ?tV ?x_TooWide ?NN ?x_Ring ?j_MendError ?j_TooGreat ?j_NoText ?j_NoPlace ?j_NotPlain ?y_NoTable ?lI_NoTable ?cI_NoTable ?kI_NoTable ?y_NoRule ?lI_NoRule ?cI_NoRule ?kI_NoRule ?y_NoRow ?lI_NoRow ?cI_NoRow ?kI_NoRow ?y_Twice ?lI_Twice ?cI_Twice ?kI_Twice ?xm ?xd ?xW ?JZ ?sM ?qU ?xI ?KB ?zG ?wF ?cU ?KD ?wY
    (case D0 => exact L2.M.def_mk (by k_is) (by k_is) (by k_is) (by k_is) KX G)
    (case D1 => exact L2.M.def_mk (by k_is) (by k_is) (by k_is) (by k_is) KX G)
    (case D2 => exact L2.M.def_mk (by k_is) (by k_is) (by k_is) (by k_is) KX G)
    (case D3 => exact L2.M.def_mk (by k_is) (by k_is) (by k_is) (by k_is) KX G)
    (case D4 => exact L2.M.def_mk (by k_is) (by k_is) (by k_is) (by k_is) KX G)
    (case D5 => exact L2.M.def_mk (by k_is) (by k_is) (by k_is) (by k_is) KX G)
    (case D6 => exact L2.M.def_mk (by k_is) (by k_is) (by k_is) (by k_is) KX G)
    (case D7 => exact L2.M.def_mk (by k_is) (by k_is) (by k_is) (by k_is) KX G)
    (case D8 => exact L2.M.def_mk (by k_is) (by k_is) (by k_is) (by k_is) KX G)
    (case D9 => exact L2.M.def_mk (by k_is) (by k_is) (by k_is) (by k_is) KX G)
    (case D10 => exact L2.M.def_mk (by k_is) (by k_is) (by k_is) (by k_is) KX G)
    (case D11 => exact L2.M.def_mk (by k_is) (by k_is) (by k_is) (by k_is) KX G)
    (case D12 => exact L2.M.def_mk (by k_is) (by k_is) (by k_is) (by k_is) KX G)
    (case D13 => exact L2.M.def_mk (by k_is) (by k_is) (by k_is) (by k_is) KX G)
    (case D14 => exact L2.M.def_mk (by k_is) (by k_is) (by k_is) (by k_is) KX G)
    (case D15 => exact L2.M.def_mk (by k_is) (by k_is) (by k_is) (by k_is) KX G)
    (case D16 => exact L2.M.def_mk (by k_is) (by k_is) (by k_is) (by k_is) KX G)
    (case D21 => exact L2.M.def_mk (by k_is) (by k_is) (by k_is) (by k_is) KX G)
    (case D22 => exact L2.M.def_mk (by k_is) (by k_is) (by k_is) (by k_is) KX G)
    (case D23 => exact L2.M.def_mk (by k_is) (by k_is) (by k_is) (by k_is) KX G)
    (case D24 => exact L2.M.def_mk (by k_is) (by k_is) (by k_is) (by k_is) KX G)
    (case D25 => exact L2.M.def_mk (by k_is) (by k_is) (by k_is) (by k_is) KX G)
    (case D26 => exact L2.M.def_mk (by k_is) (by k_is) (by k_is) (by k_is) KX G)
    (case D27 => exact L2.M.def_mk (by k_is) (by k_is) (by k_is) (by k_is) KX G)
    (case D28 => exact L2.M.def_mk (by k_is) (by k_is) (by k_is) (by k_is) KX G)
    (case n_Ledger => k_is)
    (case o_Ledger => exact L2.M.nm_of (by k_is) (by rfl))
    (case CK => exact ⟨by k_is, by k_is, by k_is, by k_is⟩)
    (case eG => show PySem.W.findIn _ _ _ = _; k_is)
    (case nQ => show PySem.W.findIn _ _ _ = _; k_is)
    (case cG => show PySem.W.findIn _ _ _ = _; k_is)
    (case CG => exact ⟨by k_is, by k_is, by k_is, by k_is⟩)
    (case lF_Ledger___init__ => k_is)
    (case cF_Ledger___init__ => k_is)
    (case tF_Ledger___init__ => k_is)
    (case h_Ledger_put => exact ⟨by k_is, by k_is, by k_is⟩)
    (case lF_Ledger_put => k_is)
    (case cF_Ledger_put => k_is)
    (case kF_Ledger_put => k_is)
    (case h_Ledger_take => exact ⟨by k_is, by k_is, by k_is⟩)
    (case lF_Ledger_take => k_is)
    (case cF_Ledger_take => k_is)
    (case kF_Ledger_take => k_is)
    (case h_Ledger_book => exact ⟨by k_is, by k_is, by k_is⟩)
    (case lF_Ledger_book => k_is)
    (case cF_Ledger_book => k_is)
    (case kF_Ledger_book => k_is)
    (case kQ => k_is)
    (case kP => k_is)
    (case gM => k_is)
    (case jI => k_is)
    (case gL => k_is)
    (case bS => k_is)
    (case sO => k_is)
    (case HG => k_is)
    (case sN => exact ⟨rfl, by decide, .cons ⟨_, rfl⟩ (.cons ⟨_, rfl⟩ (.cons ⟨_, rfl⟩ (.nil)))⟩)
    (case oK => k_is)
    (case x_MendError => exact L2.M.xcl_mk (by k_is) (by k_is) rfl (by k_is) (by k_is) (by k_is) (by k_is) (by k_is) (by k_is) (by k_is) rfl)
    (case qV => k_is)
    (case x_TooGreat => exact L2.M.xcl_mk (by k_is) (by k_is) rfl (by k_is) (by k_is) (by k_is) (by k_is) (by k_is) (by k_is) (by k_is) rfl)
    (case CD => k_is)
    (case x_NoText => exact L2.M.xcl_mk (by k_is) (by k_is) rfl (by k_is) (by k_is) (by k_is) (by k_is) (by k_is) (by k_is) (by k_is) rfl)
    (case tX => k_is)
    (case x_NoPlace => exact L2.M.xcl_mk (by k_is) (by k_is) rfl (by k_is) (by k_is) (by k_is) (by k_is) (by k_is) (by k_is) (by k_is) rfl)
    (case qT => k_is)
    (case x_NotPlain => exact L2.M.xcl_mk (by k_is) (by k_is) rfl (by k_is) (by k_is) (by k_is) (by k_is) (by k_is) (by k_is) (by k_is) rfl)
    (case tY => k_is)
    (case x_NoTable => exact L2.M.xcl_mk (by k_is) (by k_is) rfl (by k_is) (by k_is) (by k_is) (by k_is) (by k_is) (by k_is) (by k_is) rfl)
    (case CL => k_is)
    (case x_NoRule => exact L2.M.xcl_mk (by k_is) (by k_is) rfl (by k_is) (by k_is) (by k_is) (by k_is) (by k_is) (by k_is) (by k_is) rfl)
    (case HK => k_is)
    (case x_NoRow => exact L2.M.xcl_mk (by k_is) (by k_is) rfl (by k_is) (by k_is) (by k_is) (by k_is) (by k_is) (by k_is) (by k_is) rfl)
    (case HI => k_is)
    (case x_Twice => exact L2.M.xcl_mk (by k_is) (by k_is) rfl (by k_is) (by k_is) (by k_is) (by k_is) (by k_is) (by k_is) (by k_is) rfl)
    (case iK => k_is)
    (case x_NoQuestion => exact L2.M.xcl_mk (by k_is) (by k_is) rfl (by k_is) (by k_is) (by k_is) (by k_is) (by k_is) (by k_is) (by k_is) rfl)
    (case CI => k_is)
    (case x_Double => exact L2.M.xcl_mk (by k_is) (by k_is) rfl (by k_is) (by k_is) (by k_is) (by k_is) (by k_is) (by k_is) (by k_is) rfl)
    (case tV => k_is)
    (case x_TooWide => exact L2.M.xcl_mk (by k_is) (by k_is) rfl (by k_is) (by k_is) (by k_is) (by k_is) (by k_is) (by k_is) (by k_is) rfl)
    (case NN => k_is)
    (case x_Ring => exact L2.M.xcl_mk (by k_is) (by k_is) rfl (by k_is) (by k_is) (by k_is) (by k_is) (by k_is) (by k_is) (by k_is) rfl)
    (case j_MendError => rfl)
    (case j_TooGreat => rfl)
    (case j_NoText => rfl)
    (case j_NoPlace => rfl)
    (case j_NotPlain => rfl)
    (case y_NoTable => exact L2.M.xin_mk (by k_is) (by k_is) rfl (by k_is) (by k_is) (by k_is) (by k_is) (by k_is) (by k_is) (by k_is) (by k_is) rfl)
    (case lI_NoTable => k_is)
    (case cI_NoTable => k_is)
    (case kI_NoTable => k_is)
    (case y_NoRule => exact L2.M.xin_mk (by k_is) (by k_is) rfl (by k_is) (by k_is) (by k_is) (by k_is) (by k_is) (by k_is) (by k_is) (by k_is) rfl)
    (case lI_NoRule => k_is)
    (case cI_NoRule => k_is)
    (case kI_NoRule => k_is)
    (case y_NoRow => exact L2.M.xin_mk (by k_is) (by k_is) rfl (by k_is) (by k_is) (by k_is) (by k_is) (by k_is) (by k_is) (by k_is) (by k_is) rfl)
    (case lI_NoRow => k_is)
    (case cI_NoRow => k_is)
    (case kI_NoRow => k_is)
    (case y_Twice => exact L2.M.xin_mk (by k_is) (by k_is) rfl (by k_is) (by k_is) (by k_is) (by k_is) (by k_is) (by k_is) (by k_is) (by k_is) rfl)
    (case lI_Twice => k_is)
    (case cI_Twice => k_is)
    (case kI_Twice => k_is)
    (case xm => exact ⟨by k_is, by k_is, by k_is⟩)
    (case xd => decide)
    (case xW => k_is)
    (case JZ => k_is)
    (case sM => k_is)
    (case qU => k_is)
    (case xI => k_is)
    (case KB => k_is)
    (case zG => k_is)
    (case wF => k_is)
    (case cU => k_is)
    (case KD => k_is)
    (case wY => k_is)
