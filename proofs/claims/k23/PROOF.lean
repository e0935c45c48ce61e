import PyProof.Rows.All
import Wide.All
import OpenK.AllK
import Wide.FinOn
import Lean
import PyProof.EqAt
import PyProof.EqKinds
import PyProof.TupleCall
import PySem.Challenge.RW_mendsure_k23_two_ends_and_their_rows
set_option Elab.async false
set_option linter.all false
set_option hygiene false
set_option compiler.extract_closed false
set_option maxRecDepth 100000
noncomputable section
open List (all_map ext_getElem? filterMap_cons filterMap_cons_some filter_congr filter_eq_self filter_filter find?_cons flatMap_cons forIn_cons forIn_nil getD_eq_getElem?_getD getElem?_append_left getElem?_append_right getElem?_eq_none getElem?_map getElem?_of_mem getElem?_range getElem?_set_ne getElem?_set_self getElem?_take_of_lt getElem_inj getElem_mem getElem_of_mem length_range length_zip length_zipIdx lookup_cons map_congr_left map_drop map_take mem_append_left mem_filterMap mem_flatMap mem_map_of_mem mem_of_getElem? mem_range nodup_append nodup_cons nodup_nil nodup_range of_mem_zip pairwise_cons pairwise_map pairwise_singleton reverse_cons take_of_length_le zipIdx_nil zip_cons_cons zip_nil_left)
open Nat (add_assoc le_of_lt le_succ lt_irrefl lt_of_le_of_lt lt_trans mul_le_mul sub_self zero_le)
open Int (toNat_of_nonneg)
abbrev à:=@Nat.le_refl
abbrev á:=@List.mem_filter
abbrev â:=@PySem.Heap.lt_size
abbrev ã:=@Nat.ne_of_lt
abbrev ä:=@PySem.Heap.get?_push_size
abbrev å:=@Option.some.inj
abbrev æ:=@List.length_range
abbrev ç:=@List.mem_range
abbrev è:=@List.map_cons
abbrev é:=@Nat.lt_of_lt_of_le
abbrev ê:=@List.mem_append
abbrev ë:=@List.getElem?_append_left
abbrev ì:=@of_decide_eq_true
abbrev í:=@Nat.le_trans
abbrev î:=@decide_eq_true_eq
abbrev ï:=@List.map_map
abbrev ð:=@List.getElem?_append_right
abbrev ñ:=@List.length_filter_le
abbrev ò:=@List.getElem?_map
abbrev ó:=@List.all_eq_true
abbrev ô:=@List.mem_of_getElem?
abbrev õ:=@List.getElem?_set_ne
abbrev ö:=@List.mem_append_right
abbrev ø:=@PySem.wpAny_call_entry
abbrev ù:=@List.any_eq_true
abbrev ú:=@Array.length_toList
abbrev û:=@Array.getElem?_toList
abbrev ü:=@Option.isSome_iff_exists
abbrev ý:=@List.map_append
abbrev þ:=@List.any_eq_false
abbrev ÿ:=@List.getD_eq_getElem?_getD
abbrev Ā:=@Classical.choose_spec
abbrev ā:=@PySem.wpAny_mono
abbrev Ă:=@PySem.wpAny_holding
abbrev ă:=@List.getElem?_set_self
abbrev Ą:=@Bool.eq_iff_iff
abbrev ą:=@List.getElem?_eq_none
abbrev Ć:=@PySem.wpAny_truthy_bool
abbrev ć:=@PySem.wpAny_callSpecial?_slot
abbrev Ĉ:=@List.length_nil
abbrev ĉ:=@List.length_drop
abbrev Ċ:=@PySem.wpAny_newObj_type
abbrev ċ:=@Bool.not_eq_true'
abbrev Č:=@List.pairwise_map
abbrev č:=@PySem.Around.under_plainId
abbrev Ď:=@forall_congr'
abbrev ď:=@PySem.sizeLine_eq
abbrev Đ:=@List.mem_append_left
abbrev đ:=@List.length_replicate
abbrev Ē:=@Nat.ne_of_gt
abbrev ē:=@Bool.not_eq_true
abbrev Ĕ:=@PySem.wpAny_field
abbrev ĕ:=@List.lookup_cons
abbrev Ė:=@List.zip_cons_cons
abbrev ė:=@PySem.Heap.size_push
abbrev Ę:=@PySem.codeAny_builtin
abbrev ę:=@List.foldl_cons
abbrev Ě:=@Nat.lt_irrefl
abbrev ě:=@Classical.byContradiction
abbrev Ĝ:=@PyProof.Rows.slot_tuple_getitem
abbrev ĝ:=@Bool.or_eq_true
abbrev Ğ:=@List.Pairwise.imp_of_mem
abbrev ğ:=@Int.toNat_of_nonneg
abbrev Ġ:=@Int.toNat_natCast
abbrev ġ:=@PySem.wpAny_typeNameOfWhole_keyiter
abbrev Ģ:=@beq_eq_false_iff_ne
abbrev ģ:=@Nat.lt_succ_self
abbrev Ĥ:=@PySem.Heap.get?_update_other
abbrev ĥ:=@PyProof.Rows.callWith_type1
abbrev Ħ:=@Nat.zero_add
abbrev ħ:=@List.nodup_append
abbrev Ĩ:=@List.any_map
abbrev ĩ:=@PySem.wpAny_passesOwn
abbrev Ī:=@PySem.F.slot_tuple_iterator_next
abbrev ī:=@List.getElem?_eq_none_iff
abbrev Ĭ:=@PySem.wpAny_rule
abbrev ĭ:=@Array.getElem?_eq_getElem
abbrev Į:=@PySem.codeAny_mono
abbrev į:=@PySem.wpAny_typeOf
abbrev İ:=@PySem.wpAny_isInstance
abbrev ı:=@List.filterMap_cons_none
abbrev Ĳ:=@List.filter_cons
abbrev ĳ:=@decide_eq_decide
abbrev Ĵ:=@List.getElem?_take_of_lt
abbrev ĵ:=@List.filterMap_cons_some
abbrev Ķ:=@PySem.Heap.SameBut.update
abbrev ķ:=@PySem.wpAny_getItem_str_slice
abbrev ĸ:=@Prod.mk.injEq
abbrev Ĺ:=@Bool.true_and
abbrev ĺ:=@List.any_cons
abbrev Ļ:=@List.nil_append
abbrev ļ:=@PySem.wpAny_specialOf
abbrev Ľ:=@List.length_set
abbrev ľ:=@PySem.wpAny_setField_rec
abbrev Ŀ:=@Bool.not_eq_false'
abbrev ŀ:=@List.getElem_mem
abbrev Ł:=@List.ext_getElem?
abbrev ł:=@List.getElem?_range
abbrev Ń:=@List.getElem_of_mem
abbrev ń:=@List.mem_map_of_mem
abbrev Ņ:=PySem.Shared
abbrev ņ:=PySem.Value
abbrev Ň:=PySem.Around
abbrev ň:=PySem.Program
def q8{n:Nat}:n<=n:=Nat.le_refl n
def xF0:¬(false=true):=Bool.false_ne_true

abbrev dF0:=@decide_eq_false
abbrev dT0:=@decide_eq_true
abbrev iP:=@if_pos
abbrev iN:=@if_neg
abbrev mC:=@List.mem_cons
abbrev lC:=@List.length_cons
abbrev mO:=@List.mem_cons_of_mem
abbrev lM:=@List.length_map
abbrev nM:=@List.not_mem_nil
abbrev mS:=@List.mem_singleton
abbrev mF0:=@List.mem_cons_self
abbrev fT0:=@Bool.false_eq_true
abbrev sA:=@List.size_toArray
abbrev lS:=@List.length_singleton
abbrev eL:=@Int.emod_lt_of_pos
abbrev eN:=@Int.emod_nonneg
abbrev aE:=@Bool.and_eq_true
abbrev iF:=@if_false
abbrev aN:=@List.append_nil
abbrev lA:=@List.length_append
abbrev gS:=@List.getElem?_eq_some_iff
abbrev gE:=@List.getElem?_eq_getElem
abbrev wB:=@PySem.wpAny_bind
abbrev wP:=@PySem.wpAny_pure
abbrev hP0:=@PySem.Heap.get?_push_of_some
abbrev mM:=@List.mem_map
abbrev lT:=@List.length_take
abbrev aA:=@List.append_assoc
abbrev VP:=PySem.Value->PySem.Shared->Prop
abbrev U0:=PySem.W.Frag
abbrev R0:=List PySem.Expr
abbrev P0:=Option Int
abbrev O0:=List Bool
abbrev N0:=List (PySem.Addr×PySem.Obj)
abbrev M0:=Array (Int×PySem.Value)
abbrev L1:=PySem.Str->Option PySem.Value
abbrev L0:=List PySem.Str
abbrev K0:=List PySem.Addr
abbrev B9:=Array PySem.Value
abbrev B0:=List PySem.Value
abbrev A0:=List Int
abbrev Za:=List (Int×Int)
abbrev Tk:=List Nat
abbrev Db:=List (List Nat)
local macro_rules
 |`(#[0])=>`(by lia)
namespace L2
open PySem PySem.Spec PyProof.Rows
variable{pins:N0}{us:B0}{E:VP}{pos:Pos}{t':Nat}{Q:Unit->Ņ->Prop}{tg:Expr}{C:Addr}{f:ņ->ņ->Sem ņ}{ps:L0}
abbrev Key:=Sum Int Str
def mL:Key->ņ->Bool
 |.inl k,v=>Value.isInt k v
 |.inr x,v=>Value.isStrOf x v
def D8(w:World):Key->Int
 |.inl k=>hashInt k
 |.inr x=>hashStr w x
def yD: ∀{k:Key}{v:ņ},mL k v=true->(∃i t,k=Sum.inl i/\v=Value.int i t)\/(∃x t,k=Sum.inr x/\v=Value.str x t)
 |.inl i,v,h=>by obtain⟨t,e⟩:=Value.isInt_shape h;exact .inl ⟨i,t,rfl,e⟩
 |.inr x,v,h=>by obtain⟨t,e⟩:=Value.isStrOf_shape h;exact .inr ⟨x,t,rfl,e⟩
def ZQ(i:Int)(t:Tok):mL (.inl i) (.int i t)=true:=by simp[mL,Value.isInt]
def ZR(x:Str)(t:Tok):mL (.inr x) (.str x t)=true:=by simp[mL,Value.isStrOf]
def Tu(a b:Int):decide ((Sum.inl a:Key)=Sum.inl b)=(a==b):=by
 by_cases e:a=b
 .subst e;simp
 .have h: ¬(Sum.inl a:Key)=Sum.inl b:=λq=>e (Sum.inl.inj q);rw[dF0 h];exact(Ģ.mpr e).symm
def Tv(a b:Str):decide ((Sum.inr a:Key)=Sum.inr b)=decide (a=b):=by
 by_cases e:a=b
 .subst e;simp
 .have h: ¬(Sum.inr a:Key)=Sum.inr b:=λq=>e (Sum.inr.inj q);rw[dF0 h,dF0 e]
def Tw(a:Int)(b:Str):decide ((Sum.inl a:Key)=Sum.inr b)=false:=dF0 (λq=>nomatch q)
def Tx(a:Str)(b:Int):decide ((Sum.inr a:Key)=Sum.inl b)=false:=dF0 (λq=>nomatch q)
def jO(prog:ň)(w:World):PySem.KeyKind prog w Key where
 is:=mL
 hash:=D8 w
 inj:=λv a b ha hb=>by
  rcases yD ha with⟨i,t,rfl,rfl⟩|⟨x,t,rfl,rfl⟩
  .rcases yD hb with⟨j,u,rfl,e⟩|⟨y,u,rfl,e⟩
   .injection e with e1 _;rw[e1]
   .exact nomatch e
  .rcases yD hb with⟨j,u,rfl,e⟩|⟨y,u,rfl,e⟩
   .exact nomatch e
   .injection e with e1 _;rw[e1]
 byValue:=λk v h=>by rcases yD h with⟨i,t,rfl,rfl⟩|⟨x,t,rfl,rfl⟩<;>rfl
 pyHash:=λhv h=>by
  rcases yD hv with⟨i,t,rfl,rfl⟩|⟨x,t,rfl,rfl⟩
  .exact wpAny_pyHash_int h
  .exact wpAny_pyHash_str h
 eqBool:=λhu hv h=>by
  rcases yD hu with⟨i,t,rfl,rfl⟩|⟨x,t,rfl,rfl⟩
  .rcases yD hv with⟨j,u,rfl,rfl⟩|⟨y,u,rfl,rfl⟩
   .rw[Tu]at h;exact wpAny_eqBool_int h
   .rw[Tw]at h;exact SeqAt.EqAt.int_str i t y u _ _ _ _ h
  .rcases yD hv with⟨j,u,rfl,rfl⟩|⟨y,u,rfl,rfl⟩
   .rw[Tx]at h;exact SeqAt.EqAt.str_int x t j u _ _ _ _ h
   .rw[Tv]at h;exact wpAny_eqBool_str h
 «strs»:=λk x t v h=>by
  rcases yD h with⟨i,u,rfl,e⟩|⟨y,u,rfl,e⟩
  .exact nomatch e
  .injection e with e1 _
   subst e1;cases v<;>rfl
def CT(prog:ň)(w:World)(i:Int)(t:Tok):(jO prog w).is (.inl i) (.int i t)=true:=ZQ i t
def qM(prog:ň)(w:World)(x:Str)(t:Tok):(jO prog w).is (.inr x) (.str x t)=true:=ZR x t
inductive V where
 |non|bl (b:Bool)|int (i:Int)|str (x:Str)|byt (b:Array UInt8)|flt (b:UInt64)|ref (a:Addr)|ty (n:String)
 deriving DecidableEq
variable{v:V}
def RelV:V->ņ->Prop
 |.non,u=>u=Value.none
 |.bl b,u=>u=Value.bool b
 |.int i,u=> ∃t,u=Value.int i t
 |.str x,u=> ∃t,u=Value.str x t
 |.byt b,u=> ∃t,u=Value.bytes b t
 |.flt b,u=> ∃t,u=Value.float b t
 |.ref a,u=>u=Value.ref a
 |.ty n,u=>u=Value.type n
abbrev Vals:List V->List Value->Prop:=Paired RelV
def Vals.length{xs:List V}(r:Vals xs us):xs.length=us.length:=Paired.length r
theorem Vals.get: ∀{xs:List V}{us:B0}{i:Nat}{x:V},Vals xs us->xs[i]? =some x-> ∃u,us[i]? =some u/\RelV x u
 |_,_,_,_,.nil,e=>by simp at e
 |_,_,0,_,.cons r _,e=>by simp at e;subst e;exact⟨_,rfl,r⟩
 |_,_,i+1,x,.cons _ t,e=>by obtain⟨u,h1,a⟩:=Vals.get t (by simpa using e);exact⟨u,by simpa using h1,a⟩
theorem Vals.set{x:V}{u:ņ}(r:RelV x u): ∀{xs:List V}{us:B0}(i:Nat),Vals xs us->Vals (xs.set i x) (us.set i u)
 |_,_,_,.nil=>.nil
 |_,_,0,.cons _ t=>.cons r t
 |_,_,i+1,.cons q t=>.cons q (Vals.set r i t)
theorem Vals.append: ∀{xs ys:List V}{us ws:B0},Vals xs us->Vals ys ws->Vals (xs++ys) (us++ws)
 |_,_,_,_,.nil,s=>s
 |_,_,_,_,.cons r t,s=>.cons r (Vals.append t s)
theorem Vals.take: ∀{xs:List V}{us:B0}(n:Nat),Vals xs us->Vals (xs.take n) (us.take n)
 |_,_,0,_=>.nil
 |_,_,_+1,.nil=>.nil
 |_,_,n+1,.cons r t=>.cons r (Vals.take n t)
theorem Vals.drop: ∀{xs:List V}{us:B0}(n:Nat),Vals xs us->Vals (xs.drop n) (us.drop n)
 |_,_,0,r=>r
 |_,_,_+1,.nil=>.nil
 |_,_,n+1,.cons _ t=>Vals.drop n t
theorem Vals.none_of: ∀{xs:List V}{us:B0}{i:Nat},Vals xs us->xs[i]? =none->us[i]? =none:=λ{xs us i} r e=>by have h1:=r.length;have a:=ī.mp e;exact ī.mpr #[0]
def RelO:Option V->Option ņ->Prop
 |some v,some u=>RelV v u
 |none,none=>True
 |_,_=>False
def KV{a:Type}:List (a×V)->List (a×ņ)->Prop:=Paired λ(p:a×V) (q:a×ņ)=>p.1=q.1/\RelV p.2 q.2
def kV:Key->V
 |.inl i=>.int i
 |.inr x=>.str x
inductive HO where
 |lst (xs:List V)
 |tup (xs:List V)
 |dK (kvs:List (Key×V))|dT (kvs:List (List Key×V))
 |set (S:Int->Bool) (n:Nat)
 |ins (C dx:Addr) (fs:List (Str×V))
 |own (x:Addr)
 |xd (fs:List (Str×V))
 |met (f x:Addr)
 |rng (lo hi:Int)
 |frz (o:Obj) (u:HO)
 |tbl (ps:B9)
 |ext (φ:Heap->Prop)
variable{o:HO}
abbrev Hp:=Addr->Option HO
variable{H:Hp}
def xG(H:Hp)(a:Addr)(o:HO):Hp:=λb=>if b=a then some o else H b
def zV{a:Addr}:xG H a o a=some o:=by unfold xG;rw[iP rfl]
def zF{a b:Addr}(h:b≠a):xG H a o b=H b:=by unfold xG;rw[iN h]
theorem VS{a:Addr}{u:HO}:xG (xG H a o) a u=xG H a u:=by funext b;unfold xG;split<;>rfl
def zU{a b:Addr}(h:H a=some o)(h':H b=none):a≠b:=by intro e;subst e;rw[h]at h';cases h'
section
variable(P:ň)(w:World)
def ObjOk(H:Hp)(h:Heap)(a:Addr):HO->Prop
 |.lst xs=>xs.length<=sizeLine/\ ∃(its:B0)(n:Nat),Vals xs its/\h.get? a=some {cls:=.type "list",data:=.seq its.toArray n}
 |.tup xs=>xs.length<=sizeLine/\ ∃its:List ņ,Vals xs its/\IsTup h a its.toArray
 |.dK kvs=>kvs.length<=sizeLine/\(a==sysModules)=false/\ ∃vs,KV kvs vs/\h.DictOf (jO P w) a vs
 |.dT kvs=>kvs.length<=sizeLine/\(a==sysModules)=false/\ ∃xs:List (List Key×Addr×ņ),
   Paired (λ(p:List Key×V) (q:List Key×Addr×ņ)=>p.1=q.1/\H q.2.1=some (.tup (p.1.map kV))/\RelV p.2 q.2.2) kvs xs/\
   ∃o es ep,h.get? a=some o/\o.ExactDict/\o.data=.dict es ep/\es.toList=xs.map (entryOfKey (tupleKind (jO P w)))/\(xs.map (·.1)).Nodup
 |.set S n=>h.SetOf (intKind P w) a S n
 |.ins C dx fs=>H dx=some (.own a)/\fs.length<=1000/\dx≠a/\h.get? a=some (PySem.W.instObj C dx)/\
   ∃mA,h.Ns1 dx mA/\(∀f,RelO (fs.lookup f) (mA f))/\PySem.Within mA (fs.map (·.1))
 |.own _=> ∃o,h.get? a=some o
 |.xd fs=> ∃mA,h.Ns1 a mA/\ ∀f,RelO (fs.lookup f) (mA f)
 |.rng lo hi=> ∃t u v,h.get? a=some {cls:=.type "range",data:=.fields #[.int lo t,.int hi u,.int 1 v]}
 |.frz o u=>h.get? a=some o/\ObjOk H h a u
 |.tbl ps=>h.get? a=some {cls:=.none,data:=.fields ps}
 |.met f x=>h.get? a=some (PySem.W.methodObj (.ref f) (.ref x))
 |.ext φ=>φ h/\(∃o,h.get? a=some o)/\ ∀h1 b:Heap,φ h1->(∀o,h1.get? a=some o->b.get? a=some o)->φ b
def HOk(H:Hp)(h:Heap):Prop:= ∀a o,H a=some o->ObjOk P w H h a o
end
section
variable{P:ň}{w:World}{H H':Hp}{h h':Heap}{a:Addr}{o:HO}
def ObjOk.lt(x:ObjOk P w H h a o):a<h.objs.size:=by
 cases o with
 |lst xs=>obtain⟨_,_,_,_,e⟩:=x;exact â e
 |tup xs=>obtain⟨_,_,_,p⟩:=x;exact p.lt
 |dK kvs=>obtain⟨_,_,_,_,o,_,_,e,_⟩:=x;exact â e
 |dT kvs=>obtain⟨_,_,_,_,o,_,_,e,_⟩:=x;exact â e
 |set S n=>obtain⟨o,_,_,_,e,_⟩:=x;exact â e
 |ins C dx fs=>obtain⟨_,_,_,e,_⟩:=x;exact â e
 |own y=>obtain⟨_,e⟩:=x;exact â e
 |xd fs=>obtain⟨_,⟨_,_,_,e,_⟩,_⟩:=x;exact â e
 |rng lo hi=>obtain⟨_,_,_,e⟩:=x;exact â e
 |frz ob u=>obtain⟨e,_⟩:=x;exact â e
 |tbl ps=>exact â x
 |met f y=>exact â x
 |ext φ=>obtain⟨_,⟨_,e⟩,_⟩:=x;exact â e
theorem Paired.mapP{α β:Type}{F G:α->β->Prop}: ∀{d:List α}{c:List β},Paired F d c->(∀a b,F a b->G a b)->Paired G d c
 |_,_,.nil,_=>.nil
 |_,_,.cons r t,f=>.cons (f _ _ r) (Paired.mapP t f)
def ObjOk.stay(x:ObjOk P w H h a o)(k: ∀b u,(b=a\/H b=some (.own a))->h.get? b=some u->h'.get? b=some u)
  (ho: ∀b,H b=some (.own a)->H' b=some (.own a)) (ht: ∀b xs,H b=some (.tup xs)->H' b=some (.tup xs)):ObjOk P w H' h' a o:=by
 induction o with
 |lst xs=>obtain⟨z,its,n,r,e⟩:=x;exact⟨z,its,n,r,k _ _ (.inl rfl) e⟩
 |tup xs=>obtain⟨z,its,r,ob,e,c⟩:=x;exact⟨z,its,r,ob,k _ _ (.inl rfl) e,c⟩
 |dK kvs=>obtain⟨z,y,vs,r,ob,es,ep,e,c⟩:=x;exact⟨z,y,vs,r,ob,es,ep,k _ _ (.inl rfl) e,c⟩
 |dT kvs=>
  obtain⟨z,y,xs,r,ob,es,ep,e,c⟩:=x;exact⟨z,y,xs,Paired.mapP r λp q z=>⟨z.1,ht _ _ z.2.1,z.2.2⟩,ob,es,ep,k _ _ (.inl rfl) e,c⟩
 |set S n=>obtain⟨ob,es,ep,t,e,c⟩:=x;exact⟨ob,es,ep,t,k _ _ (.inl rfl) e,c⟩
 |ins C dx fs=>
  obtain⟨d,z,ne,e,mA,⟨i,es,ep,e2,c⟩,r⟩:=x;exact⟨ho _ d,z,ne,k _ _ (.inl rfl) e,mA,⟨i,es,ep,k _ _ (.inr d) e2,c⟩,r⟩
 |own y=>obtain⟨ob,e⟩:=x;exact⟨ob,k _ _ (.inl rfl) e⟩
 |xd fs=>obtain⟨mA,⟨i,es,ep,e,c⟩,r⟩:=x;exact⟨mA,⟨i,es,ep,k _ _ (.inl rfl) e,c⟩,r⟩
 |rng lo hi=>obtain⟨t,u,v,e⟩:=x;exact⟨t,u,v,k _ _ (.inl rfl) e⟩
 |frz ob u ih=>obtain⟨e,q⟩:=x;exact⟨k _ _ (.inl rfl) e,ih q⟩
 |tbl ps=>
  have e:=x;exact k a _ (.inl rfl) e
 |met f y=>
  have e:h.get? a=some _:=x;show h'.get? a=some _;exact k a _ (.inl rfl) e
 |ext φ=>obtain⟨p,⟨o,e⟩,st⟩:=x;exact⟨st _ _ p λo q=>k _ _ (.inl rfl) q,⟨o,k _ _ (.inl rfl) e⟩,st⟩
def HOk.lt(x:HOk P w H h)(e:H a=some o):a<h.objs.size:=(x a o e).lt
def HOk.fresh(x:HOk P w H h)(e:h.objs.size<=a):H a=none:=by
 cases q:H a with
 |none=>rfl
 |some u=>exact absurd (é (x.lt q) e) (Ě _)
def HOk.kept(x:HOk P w H h)(k: ∀b u,h.get? b=some u->h'.get? b=some u):HOk P w H h':=λa o e=>
 (x a o e).stay (λb u _ q=>k b u q) (λ_ q=>q) λ_ _ q=>q
def HOk.laid(x:HOk P w H h)(k: ∀b u,h.get? b=some u->h'.get? b=some u)(j:h.objs.size<=a)(new:ObjOk P w (xG H a o) h' a o):HOk P w (xG H a o) h':=λb u e=>by
 have i:=x.fresh j;by_cases d:b=a
 .subst d;rw[zV]at e;cases e;exact new
 .rw[zF d]at e;exact(x b u e).stay (λc v _ q=>k c v q) (λc q=>by rw[zF (zU q i)];exact q) λc xs q=>by rw[zF (zU q i)];exact q
end
def Rd(H:Hp)(a:Addr)(u:HO):Prop:=H a=some u\/ ∃o,H a=some (.frz o u)
def Rd.ok{P:ň}{w:World}{h:Heap}{a:Addr}{u:HO}(r:Rd H a u)(x:HOk P w H h):ObjOk P w H h a u:=by
 rcases r with r|⟨o,r⟩
 .exact x a u r
 .obtain⟨_,q⟩:=x a _ r;exact q
def B7:Option HO->Prop
 |some (.lst _)=>True
 |some (.dK _)=>True
 |some (.dT _)=>True
 |some (.set _ _)=>True
 |some (.ins _ _ _)=>True
 |some (.ext _)=>True
 |_=>False
section
variable{P:ň}{w:World}{H:Hp}{h h':Heap}{x e:Addr}{o':HO}
theorem HOk.write(ok:HOk P w H h)(m:B7 (H x))(s:e=x\/H e=some (.own x))(k: ∀b u,b≠e->h.get? b=some u->h'.get? b=some u)(o: ∃u,h'.get? e=some u)
  (new:ObjOk P w (xG H x o') h' x o'):HOk P w (xG H x o') h':=λb u q=>by
 have d: ∀c y,H c=some (.own y)->c≠x:=λc y r z=>by subst z;rw[r]at m;exact m
 have i: ∀c xs,H c=some (.tup xs)->c≠x:=λc xs r z=>by subst z;rw[r]at m;exact m
 by_cases j:b=x
 .subst j;rw[zV]at q;cases q;exact new
 .rw[zF j]at q;by_cases a:b=e
  .have p:H b=some (.own x):=by
    rcases s with z|z
    .exact absurd (a.trans z) j
    .rw[a];exact z
   rw[q]at p;cases p;obtain⟨v,A⟩:=o;exact⟨v,by rw[a];exact A⟩
  .refine(ok b u q).stay (λc v n r=>k c v ?_ r) (λc r=>by rw[zF (d c b r)];exact r) λc xs r=>by rw[zF (i c xs r)];exact r
   rcases n with rfl|n
   .exact a
   .rintro rfl;rcases s with z|z
    .exact d c b n z
    .rw[n]at z;cases z;exact j rfl
end
structure Un(fs ex:K0)(H H':Hp)(h h':Heap):Prop where
 keep: ∀b o,h.get? b=some o->H b=none->b∉fs->b∉ex->h'.get? b=some o
 slot: ∀b o,h.get? b=some o->H b=none->b∈fs->b∉ex-> ∃sl,h'.get? b=some {o with slots:=sl}
 free: ∀b o,h.get? b=some o->H b=none->b∉ex->H' b=none
 there: ∀b o,h.get? b=some o->b∉ex-> ∃o',h'.get? b=some o'
 tups: ∀b xs,H b=some (.tup xs)->H' b=some (.tup xs)
 frzs: ∀b o u,H b=some (.frz o u)->H' b=some (.frz o u)
 tbls: ∀b ps,H b=some (.tbl ps)-> ∃more,H' b=some (.tbl (ps++more))
section
variable{fs ex:K0}{H H1:Hp}{h h1 h':Heap}{a x e:Addr}{o:HO}
def Un.any(u:Un fs ex H H1 h h1){b:Addr}{ob:Obj}(q:h.get? b=some ob)(n:H b=none)(c:b∉ex): ∃sl,h1.get? b=some {ob with slots:=sl}:=by
 by_cases a:b∈fs
 .exact u.slot b ob q n a c
 .exact⟨_,u.keep b ob q n a c⟩
def Un.kept(k: ∀b u,h.get? b=some u->h'.get? b=some u):Un fs ex H H h h':=
 ⟨λb ob q _ _ _=>k b ob q,λb ob q _ _ _=>⟨_,k b ob q⟩,λ_ _ _ n _=>n,λb ob q _=>⟨ob,k b ob q⟩,λ_ _ q=>q,λ_ _ _ q=>q,λ_ ps q=>⟨#[],by rw[q];simp⟩⟩
def Un.refl:Un fs ex H H h h:=Un.kept λ_ _ q=>q
def Un.laid(k: ∀b u,h.get? b=some u->h'.get? b=some u)(hp:h.objs.size<=a)(hn:H a=none):Un fs ex H (xG H a o) h h' where
 keep:=λb u q _ _ _=>k b u q
 slot:=λb u q _ _ _=>⟨_,k b u q⟩
 free:=λb u q n _=>by rw[zF (ã (é (â q) hp))];exact n
 there:=λb u q _=>⟨u,k b u q⟩
 tups:=λb xs q=>by rw[zF (zU q hn)];exact q
 frzs:=λb u xs q=>by rw[zF (zU q hn)];exact q
 tbls:=λb ps q=>⟨#[],by rw[zF (zU q hn),q];simp⟩
def Un.write(c:B7 (H x))(s:e=x\/H e=some (.own x))(k: ∀b u,b≠e->h.get? b=some u->h'.get? b=some u)(i: ∃u,h'.get? e=some u):Un fs ex H (xG H x o) h h':=by
 have m: ∀b,H b=none->b≠x:=λb n z=>by subst z;rw[n]at c;exact c
 have j: ∀b,H b=none->b≠e:=λb n z=>by
  subst z;rcases s with r|r
  .exact m b n r
  .rw[n]at r;cases r
 have d: ∀b u,H b=some u-> ¬B7 (some u)->b≠x:=λb u q p z=>by subst z;rw[q]at c;exact p c
 refine⟨λb u q n _ _=>k b u (j b n) q,λb u q n _ _=>⟨_,k b u (j b n) q⟩,λb u q n _=>by rw[zF (m b n)];exact n,λb u q _=>?_,
  λb xs q=>by rw[zF (d b _ q λz=>z)];exact q,λb u xs q=>by rw[zF (d b _ q λz=>z)];exact q,λb ps q=>⟨#[],by rw[zF (d b _ q λz=>z),q];simp⟩⟩
 by_cases a:b=e
 .subst a;exact i
 .exact⟨u,k b u a q⟩
end
def trk(h:Heap)(H:Hp):List Addr:=(List.range h.objs.size).filter λa=>(H a).isSome
def ZS(h:Heap)(H:Hp):Heap:=PySem.W.hideAll h (trk h H)
def ZT(h:Heap)(H:Hp):(ZS h H).objs.size=h.objs.size:=PySem.W.hideAll_size _ _
def Dt{h:Heap}{b:Addr}{o:Obj}(e:h.get? b=some o)(n:H b=none):(ZS h H).get? b=some o:=
 PySem.W.hideAll_get _ e λa=>by have q:=(á.mp a).2;rw[n]at q;simp at q
def Ku{h:Heap}{b:Addr}{o:Obj}(e:(ZS h H).get? b=some o):h.get? b=some o/\H b=none:=by
 have a:=PySem.W.of_hideAll _ e;refine⟨a,?_⟩
 cases q:H b with
 |none=>rfl
 |some x=>
  have c:b∈trk h H:=á.mpr ⟨ç.mpr (â a),by simp[q]⟩;have z:(ZS h H).get? b=none:=PySem.W.hideAll_none _ c;rw[z]at e;cases e
def Kv(g h:Heap)(L:Addr):List (Addr×Obj):=(List.range h.objs.size).filterMap λa=>if a=L\/(g.get? a).isSome=true then none else(h.get? a).map λo=>(a,o)
def rest(g h:Heap)(L d:Addr):List (Addr×Obj):=(Kv g h L).filter λp=>decide (p.1≠d)
structure Mod(K:U0)(mg:L1)(base:Heap):Prop where
 kin:K.In base
 glob:base.Ns mainGlobals mg
 blt: ∃mb,base.Ns builtinsNs mb/\ ∀x:Str,x≠"__name__"->mb x=bootBuiltins x
 nolimit:base.NoLimit
structure Cx where
 prog:ň
 w:World
 K:PySem.W.Frag
 mg:Str->Option ņ
 base:Heap
 A:Ň
 N:List Str
 s₀:Ņ
 H₀:Hp
 env:Env
 outer:List Env
 stack:List Env
 ex:List Addr
 fn:Str->Bool
 calm:Bool
 pn:List (Addr×Obj)
 xe:VP
variable{X:Cx}
def ZU(l:List Env):List Addr:=l.filterMap (·.frame)
abbrev Cx.fs(X:Cx):List Addr:=ZU X.outer
def D9(sc:Scope)(x:Str):Prop:=sc.names.lookup x=some .local\/sc.names.lookup x=some .cell\/sc.names.lookup x=some .free
def Loc(sc:Scope)(x:Str):Prop:=sc.names.lookup x=some .local\/sc.names.lookup x=some .cell
def Look(a:Env)(h:Heap)(m:L1)(x:Str)(u:ņ):Prop:=
 (a.kindOf x=some .local/\m x=some u)\/((a.kindOf x=some .cell\/a.kindOf x=some .free)/\ ∃c,a.cells.lookup x=some c/\h.IsCell c (some u))
structure Cx.Ok(X:Cx):Prop where
 mod:Mod X.K X.mg X.base
 kind:X.env.scope.kind=.function
 glob:X.env.globals=mainGlobals
 blt:X.env.builtins=builtinsNs
 above:X.s₀.heap.objs.size<=X.env.locals
 inj: ∀x y c,X.env.cells.lookup x=some c->X.env.cells.lookup y=some c->x=y
 has: ∀x,(X.env.kindOf x=some .cell\/X.env.kindOf x=some .free)-> ∃c,X.env.cells.lookup x=some c
 cab: ∀x c,X.fn x=true->X.env.cells.lookup x=some c->X.s₀.heap.objs.size<=c
 hd:X.calm=true->X.A.handled=none
 frames:X.A.frames=some X.stack
 stk:X.stack=X.outer\/(X.stack=X.env::X.outer/\X.env.frame=some X.env.locals)
 exf: ∀b∈X.ex,b≠X.env.locals/\ ∀x c,X.env.cells.lookup x=some c->c≠b
 bs: ∀b o,X.base.get? b=some o->X.s₀.heap.get? b=some o/\X.H₀ b=none
 bsz:X.base.objs.size<=X.s₀.heap.objs.size
 noex: ∀b o,X.base.get? b=some o->b∉X.ex
 exfs: ∀b∈X.ex,b∉X.fs
 funs:X.s₀.heap.FunFrames X.base X.outer
 frf: ∀b∈X.fs,X.H₀ b=none
structure Inv(X:Cx)(pins:N0)(σ:List (Option V))(H:Hp)(s:Ņ):Prop where
 ok:X.Ok
 os:s.os=X.s₀.os
 bare:AllBare s.gens
 base:Un X.fs X.ex X.H₀ H X.s₀.heap s.heap
 loc: ∃m,s.heap.Ns X.env.locals m/\ ∀(i:Nat)(x:Str)(v:V),X.N[i]? =some x->σ[i]? =some (some v)->D9 X.env.scope x-> ∃u,RelV v u/\Look X.env s.heap m x u
 cell: ∀x c,X.env.cells.lookup x=some c-> ∃v,s.heap.IsCell c v
 free:H X.env.locals=none
 freeC: ∀x c,X.env.cells.lookup x=some c->H c=none
 pin: ∀p∈X.pn++pins,s.heap.get? p.1=some p.2/\H p.1=none/\p.1≠X.env.locals/\p.1∉X.fs/\ ∀v,p.2.data≠.cell v
 hok:HOk X.prog X.w H s.heap
 len:σ.length=X.N.length
section
variable{X:Cx}{pins:N0}{σ:List (Option V)}{H H':Hp}{s:Ņ}{h':Heap}
def Cx.Ok.nofr(ok:X.Ok){b:Addr}{o:Obj}(e:X.base.get? b=some o):b∉X.fs:=λa=>by have:=(ok.funs.mem a).1;rw[e]at this;cases this
def Inv.bs(I:Inv X pins σ H s): ∀b o,X.base.get? b=some o->s.heap.get? b=some o/\H b=none:=λb o e=>
 ⟨I.base.keep b o (I.ok.bs b o e).1 (I.ok.bs b o e).2 (I.ok.nofr e) (I.ok.noex b o e),I.base.free b o (I.ok.bs b o e).1 (I.ok.bs b o e).2 (I.ok.noex b o e)⟩
def Inv.bk(I:Inv X pins σ H s): ∀b o,X.base.get? b=some o->s.heap.get? b=some o:=λb o e=>(I.bs b o e).1
def Inv.mod(I:Inv X pins σ H s):Mod X.K X.mg X.base:=I.ok.mod
def Inv.kIn(I:Inv X pins σ H s):X.K.In s.heap:=I.ok.mod.kin.keeps I.bk
def Inv.lt(I:Inv X pins σ H s):X.env.locals<s.heap.objs.size:=let ⟨_,a,_⟩:=I.loc;a.lt
def Inv.sz(I:Inv X pins σ H s):X.s₀.heap.objs.size<=s.heap.objs.size:=í I.ok.above (le_of_lt I.lt)
def Inv.nofs(I:Inv X pins σ H s){a:Addr}(h:s.heap.objs.size<=a):a∉X.fs:=λc=>by obtain⟨_,o,b,_⟩:=I.ok.funs.mem c;exact absurd (é (â b) (í I.sz h)) (Ě _)
def Inv.cne(I:Inv X pins σ H s): ∀x c,X.env.cells.lookup x=some c->c≠X.env.locals:=λx c e z=>by obtain⟨v,o,d,h⟩:=I.cell x c e;obtain⟨m,⟨o',es,ep,a,b,_⟩,_⟩:=I.loc;rw[z,a]at d;cases d;rw[b]at h;cases h
def Inv.funs(I:Inv X pins σ H s):s.heap.FunFrames X.base X.outer:=by
 have all: ∀(l:List Env),(∀b∈ZU l,b∈X.fs)->X.s₀.heap.FunFrames X.base l->s.heap.FunFrames X.base l:=by
  intro l
  induction l with
  |nil=>intro _ _;trivial
  |cons env r ih=>
   intro hs m;obtain⟨j,⟨L,o,d,k,h,i⟩,n⟩:=m;have c:=hs L (by unfold ZU;rw[filterMap_cons,d];exact mF0);obtain⟨sl,e⟩:=I.base.slot L o h (I.ok.frf L c) c λz=>I.ok.exfs L z c;exact⟨j,⟨L,_,d,k,e,i⟩,ih (λb a=>hs b (by unfold ZU;rw[filterMap_cons,d];exact mO _ a)) n⟩
 exact all X.outer (λ_ a=>a) I.ok.funs
def Inv.stack(I:Inv X pins σ H s):s.heap.FunFrames X.base X.stack:=by
 rcases I.ok.stk with e|⟨e,hf⟩
 .rw[e];exact I.funs
 .rw[e];obtain⟨m,a,_⟩:=I.loc;refine .cons (by rw[I.ok.kind];decide) hf a ?_ I.funs;exact Heap.get?_none_of_le (í I.ok.bsz I.ok.above)
def Inv.stkSub(I:Inv X pins σ H s): ∀b∈ZU X.stack,b∈X.env.locals::X.fs:=λb a=>by
 rcases I.ok.stk with e|⟨e,hf⟩
 .rw[e]at a;exact mO _ a
 .rw[e]at a;unfold ZU at a;rw[filterMap_cons,hf]at a;exact a
def Inv.stkFree(I:Inv X pins σ H s): ∀b∈ZU X.stack,H b=none:=λb a=>by
 rcases mC.mp (I.stkSub b a)with e|a
 .rw[e];exact I.free
 .obtain⟨_,o,c,_⟩:=I.ok.funs.mem a;exact I.base.free b o c (I.ok.frf b a) λz=>I.ok.exfs b z a
def Inv.step{K:Array GenState}{L:Drawn}{ch:K0}(I:Inv X pins σ H s)
  (hch: ∀b∈ch,(b∈X.ex\/X.s₀.heap.objs.size<=b)/\b≠X.env.locals/\(∀x c,X.env.cells.lookup x=some c->c≠b)/\ ∀p∈X.pn++pins,p.1≠b)
  (keep: ∀b o,b≠X.env.locals->b∉X.fs->b∉ch->s.heap.get? b=some o->H b=none->h'.get? b=some o)
  (slot: ∀b o,b≠X.env.locals->b∈X.fs->b∉ch->s.heap.get? b=some o->H b=none-> ∃sl,h'.get? b=some {o with slots:=sl}) (free: ∀b o,b∉ch->s.heap.get? b=some o->H b=none->H' b=none)
  (there: ∀b o,b∉ch->s.heap.get? b=some o-> ∃o',h'.get? b=some o')
  (tups: ∀b xs,H b=some (.tup xs)->H' b=some (.tup xs)) (frzs: ∀b o u,H b=some (.frz o u)->H' b=some (.frz o u)) (tbls: ∀b ps,H b=some (.tbl ps)-> ∃D,H' b=some (.tbl (ps++D)))
  (ns: ∀m,s.heap.Ns X.env.locals m->h'.Ns X.env.locals m) (hok:HOk X.prog X.w H' h') (hg:AllBare K):
  Inv X pins σ H' {s with heap:=h',gens:=K,drawn:=L,toks:=t'}:=by
 have C: ∀b o,X.s₀.heap.get? b=some o->b≠X.env.locals:=λb o e=>ã (é (â e) I.ok.above)
 have y: ∀b o,X.s₀.heap.get? b=some o->b∉X.ex->b∉ch:=λb o e a A=>by
  rcases (hch b A).1 with z|z
  .exact a z
  .exact absurd (é (â e) z) (Ě _)
 have h: ∀x c,X.env.cells.lookup x=some c-> ∀v,s.heap.IsCell c v->h'.IsCell c v:=λx c e v ⟨o,B,E⟩=>by
  have j:=λz=>(hch c z).2.2.1 x c e rfl;by_cases G:c∈X.fs
  .obtain⟨sl,q⟩:=slot c o (I.cne x c e) G j B (I.freeC x c e);exact⟨_,q,E⟩
  .exact⟨o,keep c o (I.cne x c e) G j B (I.freeC x c e),E⟩
 refine⟨I.ok,I.os,hg,⟨λb o e n A a=>?_,λb o e n A a=>?_,λb o e n a=>?_,λb o e a=>?_,λb xs e=>tups b xs (I.base.tups b xs e),λb o xs e=>frzs b o xs (I.base.frzs b o xs e),λb ps e=>?_⟩,?_,λx c e=>?_,?_,λx c e=>?_,λp J=>?_,hok,I.len⟩
 .exact keep b o (C b o e) A (y b o e a) (I.base.keep b o e n A a) (I.base.free b o e n a)
 .obtain⟨sl,e1⟩:=I.base.slot b o e n A a;obtain⟨F,e2⟩:=slot b _ (C b o e) A (y b o e a) e1 (I.base.free b o e n a);exact⟨F,e2⟩
 .obtain⟨o',e1⟩:=I.base.there b o e a;exact free b o' (y b o e a) e1 (I.base.free b o e n a)
 .obtain⟨o',e1⟩:=I.base.there b o e a;exact there b o' (y b o e a) e1
 .obtain⟨P,e1⟩:=I.base.tbls b ps e;obtain⟨Q,e2⟩:=tbls b _ e1;exact⟨_,by rw[e2,Array.append_assoc]⟩
 .obtain⟨m,M,N⟩:=I.loc;refine⟨m,ns m M,λi x v e1 e2 O=>?_⟩;obtain⟨u,r,l⟩:=N i x v e1 e2 O;refine⟨u,r,?_⟩;rcases l with l|⟨k,c,e,z⟩
  .exact .inl l
  .exact .inr ⟨k,c,e,h x c e _ z⟩
 .obtain⟨v,z⟩:=I.cell x c e;exact⟨v,h x c e v z⟩
 .obtain⟨m,⟨o,_,_,B,_⟩,_⟩:=I.loc;exact free _ o (λz=>(hch _ z).2.1 rfl) B I.free
 .obtain⟨v,o,B,E⟩:=I.cell x c e;exact free c o (λz=>(hch c z).2.2.1 x c e rfl) B (I.freeC x c e)
 .obtain⟨e,n,ne,nf,d⟩:=I.pin p J;have j:=λz=>(hch p.1 z).2.2.2 p J rfl;exact⟨keep p.1 p.2 ne nf j e n,free p.1 p.2 j e n,ne,nf,d⟩
def Inv.un(I:Inv X pins σ H s)(u:Un X.fs [] H H' s.heap h')(h:HOk X.prog X.w H' h'):Inv X pins σ H' {s with heap:=h',toks:=t'}:=by obtain⟨m,⟨o,es,ep,j,r⟩,_⟩:=id I.loc;obtain⟨sl,p⟩:=u.any j I.free (by simp);exact I.step (ch:=[]) (λ_ z=>nomatch z) (λb o _ c _ e n=>u.keep b o e n c (by simp)) (λb o _ c _ e n=>u.slot b o e n c (by simp)) (λb o _ e n=>u.free b o e n (by simp)) (λb o _ e=>u.there b o e (by simp)) u.tups u.frzs u.tbls (λv k=>by obtain⟨o',d,i,a,q⟩:=k;rw[j]at a;cases a;exact⟨_,d,i,p,q⟩) h I.bare
def Inv.call{v:Array GenState}{B:Drawn}{ch:K0}(I:Inv X pins σ H s)(u:Un (ZU X.stack) ch H H' s.heap h')(j:HOk X.prog X.w H' h')(D:AllBare v)
  (hch: ∀b∈ch,(b∈X.ex\/X.s₀.heap.objs.size<=b)/\b≠X.env.locals/\(∀x c,X.env.cells.lookup x=some c->c≠b)/\ ∀p∈X.pn++pins,p.1≠b):
  Inv X pins σ H' {s with heap:=h',gens:=v,drawn:=B,toks:=t'}:=by
 obtain⟨m,⟨o,es,ep,q,r⟩,_⟩:=id I.loc;obtain⟨sl,i⟩:=u.any q I.free λz=>(hch _ z).2.1 rfl;exact I.step hch (λb o i A a e n=>u.keep b o e n (λz=>(mC.mp (I.stkSub b z)).elim i A) a) (λb o _ _ a e n=>u.any e n a) (λb o a e n=>u.free b o e n a) (λb o a e=>u.there b o e a) u.tups u.frzs u.tbls (λE y=>by obtain⟨o',h,k,d,C⟩:=y;rw[q]at d;cases d;exact⟨_,h,k,i,C⟩) j D
def Inv.turned{it:Addr}(I:Inv X pins σ H s)(k: ∀b o,b≠it->s.heap.get? b=some o->h'.get? b=some o)(y:H it=none)(h:it≠X.env.locals)
  (h1:it∈X.ex\/X.s₀.heap.objs.size<=it) (h2: ∀x c,X.env.cells.lookup x=some c->c≠it) (h3: ∀p∈X.pn++pins,p.1≠it):Inv X pins σ H {s with heap:=h',toks:=t'}:=by
 have d: ∀b u,H b=some u->b≠it:=λb u e z=>by rw[z,y]at e;cases e
 refine I.step (ch:=[it]) (λb w=>?_) (λb o _ _ a e _=>k b o (λz=>a (by simp[z])) e) (λb o _ _ a e _=>⟨_,k b o (λz=>a (by simp[z])) e⟩) (λ_ _ _ _ n=>n)
  (λb o a e=>⟨o,k b o (λz=>a (by simp[z])) e⟩) (λ_ _ e=>e) (λ_ _ _ e=>e) (λb ps e=>⟨#[],by rw[e];simp⟩) (λm i=>?_) (λb u e=>?_) I.bare
 .have e:=by simpa using w
  subst e;exact⟨h1,h,h2,h3⟩
 .obtain⟨o,es,ep,j,r⟩:=i;exact⟨o,es,ep,k _ o (Ne.symm h) j,r⟩
 .refine(I.hok b u e).stay (λc v a q=>k c v ?_ q) (λ_ q=>q) λ_ _ q=>q;rcases a with z|z
  .rw[z];exact d b u e
  .exact d c _ z
def Inv.tok(I:Inv X pins σ H s)(t:Nat):Inv X pins σ H {s with toks:=t}:=I.un Un.refl I.hok
def Inv.kept(I:Inv X pins σ H s)(k: ∀b u,s.heap.get? b=some u->h'.get? b=some u):Inv X pins σ H {s with heap:=h',toks:=t'}:=I.un (Un.kept k) (I.hok.kept k)
def Inv.laid{a:Addr}(I:Inv X pins σ H s)(k: ∀b u,s.heap.get? b=some u->h'.get? b=some u)(c:s.heap.objs.size<=a)(new:ObjOk X.prog X.w (xG H a o) h' a o):
  Inv X pins σ (xG H a o) {s with heap:=h',toks:=t'}:=I.un (Un.laid k c (I.hok.fresh c)) (I.hok.laid k c new)
def Inv.write{x e:Addr}(I:Inv X pins σ H s)(c:B7 (H x))(d:e=x\/H e=some (.own x))(k: ∀b u,b≠e->s.heap.get? b=some u->h'.get? b=some u)(a: ∃u,h'.get? e=some u)
  (new:ObjOk X.prog X.w (xG H x o) h' x o):Inv X pins σ (xG H x o) {s with heap:=h',toks:=t'}:=I.un (Un.write c d k a) (I.hok.write c d k a new)
def Inv.pins_of{a:N0}(I:Inv X pins σ H s)(h: ∀p∈a,s.heap.get? p.1=some p.2/\H p.1=none/\p.1≠X.env.locals/\p.1∉X.fs/\ ∀v,p.2.data≠.cell v):Inv X a σ H s:=
 ⟨I.ok,I.os,I.bare,I.base,I.loc,I.cell,I.free,I.freeC,λp b=>(ê.mp b).elim (λz=>I.pin p (Đ _ z)) (h p),I.hok,I.len⟩
def OD{N:L0}(c:N.Nodup){i j:Nat}{x:Str}(a:N[i]? =some x)(b:N[j]? =some x):i=j:=by obtain⟨h1,e1⟩:=gS.mp a;obtain⟨d,e2⟩:=gS.mp b;exact(getElem_inj c).mp (e1.trans e2.symm)
abbrev z0(X:Cx)(x:Str):Prop:=X.fn x=true\/X.env.scope.names.lookup x=some .local
def IX{M:Model}{A:Ň}{i:Nat}{x:Str}{u:ņ}(I:Inv X pins σ H s)(hN:X.N.Nodup)(hi:X.N[i]? =some x)(D:Loc X.env.scope x)(r:RelV v u)
  (h: ∀s',Inv X pins (σ.set i (some v)) H s'->(∃a,Heap.SameBut a s.heap s'.heap/\(a=X.env.locals\/X.env.cells.lookup x=some a))->Q () s') (hf:z0 X x:=by first |exact .inl rfl|exact .inr rfl|assumption):wpAny M A (storeName X.env x u) Q E s:=by
 obtain⟨m,Z,hl⟩:=id I.loc;have T:(X.env.scope.kind==.class || (X.env.scope.kind==.module&&X.env.locals !=X.env.globals))=false:=by rw[I.ok.kind];rfl
 have G:i<σ.length:=by rw[I.len];exact(gS.mp hi).1
 have cne:=I.cne
 have B: ∀{a:Addr}{h':Heap},(∃o,s.heap.get? a=some o/\H a=none)->Heap.SameBut a s.heap h'->HOk X.prog X.w H h':=λ{a h'} ha hs b ob e=>by
  obtain⟨_,_,F⟩:=ha;refine(I.hok b ob e).stay (λc Y C q=>(hs.2 c ?_).trans q) (λ_ q=>q) λ_ _ q=>q;rintro rfl;rcases C with rfl|C
  .rw[F]at e;cases e
  .rw[F]at C;cases C
 rcases D with hk|hk
 .refine wpAny_storeName_local hk Z (λh' ab hs=>?_) T;obtain⟨oL,_,_,aa,_⟩:=id Z;refine h _ ⟨I.ok,I.os,I.bare,⟨λb o e n L D=>?_,λb o e n L D=>?_,I.base.free,λb o e D=>?_,I.base.tups,I.base.frzs,I.base.tbls⟩,⟨_,ab,λj y v' e1 e2 e3=>?_⟩,λy c e=>?_,I.free,I.freeC,λp hp=>?_,B ⟨oL,aa,I.free⟩ hs,by simpa using I.len⟩ ⟨_,hs,.inl rfl⟩
  .exact(hs.2 b (ã (é (â e) I.ok.above))).trans (I.base.keep b o e n L D)
  .obtain⟨sl,e1⟩:=I.base.slot b o e n L D;exact⟨sl,(hs.2 b (ã (é (â e) I.ok.above))).trans e1⟩
  .obtain⟨o',e1⟩:=I.base.there b o e D;exact⟨o',(hs.2 b (ã (é (â e) I.ok.above))).trans e1⟩
  .by_cases J:j=i
   .subst J;rw[hi]at e1;cases e1;rw[ă G]at e2;cases e2;exact⟨u,r,.inl ⟨hk,by simp⟩⟩
   .rw[õ (Ne.symm J)]at e2;obtain⟨u',r',q⟩:=hl j y v' e1 e2 e3;refine⟨u',r',?_⟩;rcases q with⟨k,e⟩|⟨k,c,e,z⟩
    .refine .inl ⟨k,?_⟩;have:y≠x:=λe=>J (OD hN e1 (e▸hi));simp[this,e]
    .exact .inr ⟨k,c,e,z.sameBut hs (cne y c e)⟩
  .obtain⟨Y,z⟩:=I.cell y c e;exact⟨Y,z.sameBut hs (cne y c e)⟩
  .obtain⟨e,n,ne,nf,d⟩:=I.pin p hp;exact⟨(hs.2 p.1 ne).trans e,n,ne,nf,d⟩
 .have K:X.fn x=true:=by
   rcases hf with z|z
   .exact z
   .rw[z]at hk;cases hk
  obtain⟨c,C⟩:=I.ok.has x (.inl hk);obtain⟨Y,z⟩:=I.cell x c C;refine wpAny_storeName_cell I.ok.kind hk C z (λh' S hs=>?_);obtain⟨oc,O,U⟩:=id z;refine h {s with heap:=h'} ⟨I.ok,I.os,I.bare,⟨λb o e n L D=>?_,λb o e n L D=>?_,I.base.free,λb o e D=>?_,I.base.tups,I.base.frzs,I.base.tbls⟩,⟨m,Z.sameBut hs (Ne.symm (cne x c C)),λj y v' e1 e2 e3=>?_⟩,λy W e=>?_,I.free,I.freeC,λp hp=>?_,B ⟨oc,O,I.freeC x c C⟩ hs,by simpa using I.len⟩ ⟨c,hs,.inr C⟩
  .exact(hs.2 b (ã (é (â e) (I.ok.cab x c K C)))).trans (I.base.keep b o e n L D)
  .obtain⟨sl,e1⟩:=I.base.slot b o e n L D;exact⟨sl,(hs.2 b (ã (é (â e) (I.ok.cab x c K C)))).trans e1⟩
  .obtain⟨o',e1⟩:=I.base.there b o e D;exact⟨o',(hs.2 b (ã (é (â e) (I.ok.cab x c K C)))).trans e1⟩
  .by_cases J:j=i
   .subst J;rw[hi]at e1;cases e1;rw[ă G]at e2;cases e2;exact⟨u,r,.inr ⟨.inl hk,c,C,S⟩⟩
   .rw[õ (Ne.symm J)]at e2;obtain⟨u',r',q⟩:=hl j y v' e1 e2 e3;refine⟨u',r',?_⟩;rcases q with q|⟨k,W,e,z'⟩
    .exact .inl q
    .refine .inr ⟨k,W,e,z'.sameBut hs ?_⟩;rintro rfl;exact J (OD hN e1 (I.ok.inj _ _ _ e C▸hi))
  .by_cases P:W=c
   .subst P;exact⟨_,S⟩
   .obtain⟨w2,z2⟩:=I.cell y W e;exact⟨w2,z2.sameBut hs P⟩
  .obtain⟨e,n,ne,nf,d⟩:=I.pin p hp;refine⟨(hs.2 p.1 ?_).trans e,n,ne,nf,d⟩;intro q;rw[q,O]at e;have q':oc=p.2:=å e;exact d Y (by rw[<-q'];exact U)
def OE{M:Model}{A:Ň}{i:Nat}{x:Str}{u:ņ}(I:Inv X pins σ H s)(a:X.N.Nodup)(hi:X.N[i]? =some x)(b:Loc X.env.scope x)(r:RelV v u)
  (h: ∀s',Inv X pins (σ.set i (some v)) H s'->Q () s') (hf:z0 X x:=by first |exact .inl rfl|exact .inr rfl|assumption):wpAny M A (storeName X.env x u) Q E s:=
 IX I a hi b r (λs' c _=>h s' c) hf
def Inv.call'{s':Ņ}{ch:K0}(I:Inv X pins σ H s)(d:s'.os=s.os)(u:Un (ZU X.stack) ch H H' s.heap s'.heap)(a:HOk X.prog X.w H' s'.heap)(h:AllBare s'.gens)
  (hch: ∀b∈ch,(b∈X.ex\/X.s₀.heap.objs.size<=b)/\b≠X.env.locals/\(∀x c,X.env.cells.lookup x=some c->c≠b)/\ ∀p∈X.pn++pins,p.1≠b):Inv X pins σ H' s':=by
 obtain⟨h',j,i,t',o'⟩:=s';have e:=d;subst e;exact I.call u a h hch
end
abbrev XK:=Value->Option Addr->Hp->Prop
abbrev St:=List (Option V)
variable{σ:St}
abbrev VK:=V->Hp->Prop
abbrev TE:=St->Hp->VK->Prop
abbrev TT:=St->Hp->(Bool->Hp->Prop)->Prop
abbrev TA:=St->Hp->(List V->Hp->Prop)->Prop
structure Ends where
 nx:St->Hp->Prop
 rt:VK
 bk:St->Hp->Prop:=λ_ _=>False
 ct:St->Hp->Prop:=λ_ _=>False
abbrev TS:=Ends->St->Hp->Prop
def EP(X:Cx)(pins:N0)(σ:St)(Q:VK)(u:ņ)(s':Ņ):Prop:= ∃v H',Inv X pins σ H' s'/\RelV v u/\Q v H'
def TP(X:Cx)(pins:N0)(σ:St)(Q:Bool->Hp->Prop)(b:Bool)(s':Ņ):Prop:= ∃H',Inv X pins σ H' s'/\Q b H'
def AP(X:Cx)(pins:N0)(σ:St)(Q:List V->Hp->Prop)(us:B0)(s':Ņ):Prop:= ∃vs H',Inv X pins σ H' s'/\Vals vs us/\Q vs H'
def SP(X:Cx)(pins:N0)(D:Ends)(f:Flow)(s':Ņ):Prop:=
 match f with
 |.next=> ∃a H',Inv X pins a H' s'/\D.nx a H'
 |.brk=> ∃a H',Inv X pins a H' s'/\D.bk a H'
 |.cont=> ∃a H',Inv X pins a H' s'/\D.ct a H'
 |.ret u=> ∃v a H',Inv X pins a H' s'/\RelV v u/\D.rt v H'
def PE(X:Cx)(e:Expr)(t:TE):Prop:=
 ∀(pins:N0)(s:Ņ)(σ:St)(H:Hp)(Q:VK),Inv X pins σ H s->t σ H Q->wpAny (model X.prog X.w) X.A (eval e X.env) (EP X pins σ Q) X.xe s
def PT(X:Cx)(e:Expr)(t:TT):Prop:=
 ∀(pins:N0)(s:Ņ)(σ:St)(H:Hp)(Q:Bool->Hp->Prop),Inv X pins σ H s->t σ H Q->wpAny (model X.prog X.w) X.A (isTrue e X.env (eval e X.env)) (TP X pins σ Q) X.xe s
def PW(X:Cx)(e:Expr)(t:TT):Prop:=
 ∀(a:Sem ņ)(pins:N0)(s:Ņ)(σ:St)(H:Hp)(Q:Bool->Hp->Prop),Inv X pins σ H s->t σ H Q->wpAny (model X.prog X.w) X.A (isTrue e X.env a) (TP X pins σ Q) X.xe s
def PW.pt{e:Expr}{t:TT}(h:PW X e t):PT X e t:=h _
def PA(X:Cx)(es:R0)(t:TA):Prop:=
 ∀(pos:Pos)(pins:N0)(s:Ņ)(σ:St)(H:Hp)(Q:List V->Hp->Prop),Inv X pins σ H s->t σ H Q->wpAny (model X.prog X.w) X.A (spliced (backTo pos (starEach es X.env))) (AP X pins σ Q) X.xe s
def PS(X:Cx)(st:Stmt)(t:TS):Prop:=
 ∀(pins:N0)(s:Ņ)(σ:St)(H:Hp)(D:Ends),Inv X pins σ H s->t D σ H->wpAny (model X.prog X.w) X.A (exec st X.env) (SP X pins D) X.xe s
def PSs(X:Cx)(st:List Stmt)(t:TS):Prop:=
 ∀(pins:N0)(s:Ņ)(σ:St)(H:Hp)(D:Ends),Inv X pins σ H s->t D σ H->wpAny (model X.prog X.w) X.A (execs st X.env) (SP X pins D) X.xe s
def jD{α:Type}{t:Sem α}{Q b:α->Ņ->Prop}{M:Model}{A:Ň}{s:Ņ}(h:wpAny M A t Q E s)(c: ∀a s,Q a s->b a s):wpAny M A t b E s:=ā h c λ_ _ x=>x
section
variable{X:Cx}
def E1(i:Nat):TE:=λσ H Q=> ∃v,σ[i]? =some (some v)/\Q v H
def tC(v:V):TE:=λ_ H Q=>Q v H
def Tz{i:Nat}{x:Str}(o:X.N[i]? =some x)(j:D9 X.env.scope x)(b:(x==("__debug__":Str))=false:=by decide)(d:(x==("__classdict__":Str))=false:=by decide):PE X (.Name x pos) (E1 i):=by
 intro pins s σ H Q I h;obtain⟨v,e,h⟩:=h;obtain⟨m,k,n⟩:=I.loc;obtain⟨u,r,l⟩:=n i x v o e j;have a:EP X pins σ Q u s:=⟨v,H,I,r,h⟩
 rcases l with⟨hk,hm⟩|⟨hk,c,hc,hcell⟩
 .exact wpAny_Name (wpAny_loadName_local I.ok.kind hk k hm a) b
 .rcases hk with hk|hk
  .exact wpAny_Name (wpAny_loadName_cell I.ok.kind hk hc hcell a) b
  .exact wpAny_Name (wpAny_loadName_free I.ok.kind hk hc hcell a d) b
def Du{i j pos}:PE X (.Constant (.int i) j pos) (tC (.int i)):=λ_ _ _ H _ I h=>wpAny_Constant_int ⟨.int i,H,I.tok _,⟨_,rfl⟩,h⟩
def E2{b j pos}:PE X (.Constant (.bool b) j pos) (tC (.bl b)):=λ_ _ _ H _ I h=>Constant_bool ⟨.bl b,H,I,rfl,h⟩
def Ua{j pos}:PE X (.Constant .none j pos) (tC .non):=λ_ _ _ H _ I h=>Constant_none ⟨.non,H,I,rfl,h⟩
def Ub{x j pos}:PE X (.Constant (.str x) j pos) (tC (.str x)):=λ_ _ _ H _ I h=>Calls.Constant_str ⟨.str x,H,I.tok _,⟨_,rfl⟩,h⟩
def Gl(X:Cx)(x:Str):Prop:=X.env.kindOf x=some .globalImplicit
def KQ{s:Ņ}{x:Str}{u:ņ}{Q:VP}(I:Inv X pins σ H s)(b:Gl X x)(a:X.mg x=some u)(h:Q u s)
  (hd:(x==("__debug__":Str))=false:=by decide):wpAny (model X.prog X.w) X.A (eval (.Name x pos) X.env) Q E s:=
 Calls.Name_function_global I.ok.kind b (Calls.loadGlobal_global (by rw[I.ok.glob];exact I.mod.glob.keeps I.bk) a h) hd
def BE{s:Ņ}{x:Str}{u:ņ}{Q:VP}(I:Inv X pins σ H s)(b:Gl X x)(a:X.mg x=none)(c:bootBuiltins x=some u)(h:Q u s)
  (hn:x≠"__name__":=by decide) (hd:(x==("__debug__":Str))=false:=by decide):wpAny (model X.prog X.w) X.A (eval (.Name x pos) X.env) Q E s:=by
 obtain⟨e,h1,d⟩:=I.mod.blt;exact Calls.Name_function_global I.ok.kind b (Calls.loadGlobal_builtin (by rw[I.ok.glob];exact I.mod.glob.keeps I.bk) a (by rw[I.ok.blt];exact h1.keeps I.bk) ((d x hn).trans c) h) hd
def Kw{x:Str}{u:ņ}(c:Gl X x)(b:X.mg x=some u)(r:RelV v u)(a:(x==("__debug__":Str))=false:=by decide):PE X (.Name x pos) (tC v):=
 λ_ _ _ H _ I h=>KQ I c b ⟨v,H,I,r,h⟩ a
def Ky{x:Str}{u:ņ}(c:Gl X x)(b:X.mg x=none)(d:bootBuiltins x=some u)(r:RelV v u)(e:x≠"__name__":=by decide)(a:(x==("__debug__":Str))=false:=by decide):PE X (.Name x pos) (tC v):=
 λ_ _ _ H _ I h=>BE I c b d ⟨v,H,I,r,h⟩ e a
variable{a b:Expr}{ta tb:TE}{pos:Pos}
variable{tA tB':TT}{rest:R0}
def tAnd(t u:TT):TT:=λσ H Q=>t σ H λc H1=>if c=true then u σ H1 Q else Q false H1
def tOr(t u:TT):TT:=λσ H Q=>t σ H λc H1=>if c=true then Q true H1 else u σ H1 Q
def tNot(t:TT):TT:=λσ H Q=>t σ H λc H1=>Q (!c) H1
def Kz(b:PT X a tA):PW X (.BoolOp .And [a] pos) tA:=by
 intro d pins s σ H Q I h;refine isTrue_and (jD (b pins s σ H Q I h) λc i e=>?_)
 cases c with
 |true=>exact isTrue_and_nil e
 |false=>exact e
def Uc(b:PT X a tA):PW X (.BoolOp .Or [a] pos) tA:=by
 intro d pins s σ H Q I h;refine isTrue_or (jD (b pins s σ H Q I h) λc i e=>?_)
 cases c with
 |false=>exact isTrue_or_nil e
 |true=>exact e
def Ud(i:PT X a tA)(j:PW X (.BoolOp .And (b::rest) pos) tB'):PW X (.BoolOp .And (a::b::rest) pos) (tAnd tA tB'):=by
 intro e pins s σ H Q I h;refine isTrue_and (jD (i pins s σ H _ I h) λc k ⟨H1,I1,d⟩=>?_)
 cases c with
 |true=>exact j e pins k σ H1 Q I1 d
 |false=>exact⟨H1,I1,d⟩
def E3(i:PT X a tA)(j:PW X (.BoolOp .Or (b::rest) pos) tB'):PW X (.BoolOp .Or (a::b::rest) pos) (tOr tA tB'):=by
 intro e pins s σ H Q I h;refine isTrue_or (jD (i pins s σ H _ I h) λc k ⟨H1,I1,d⟩=>?_)
 cases c with
 |true=>exact⟨H1,I1,d⟩
 |false=>exact j e pins k σ H1 Q I1 d
def Ue(b:PT X a tA):PT X (.UnaryOp .Not a pos) (tNot tA):=by intro pins s σ H Q I h;exact isTrue_not (b pins s σ H (λc H1=>Q (!c) H1) I h)
def E4(ta tb:TE):TE:=λσ H Q=>ta σ H λx H1=> ∃c,x=.bl c/\if c=true then tb σ H1 Q else Q (.bl false) H1
def tOrV(ta tb:TE):TE:=λσ H Q=>ta σ H λx H1=> ∃c,x=.bl c/\if c=true then Q (.bl true) H1 else tb σ H1 Q
def E5(ta:TE):TE:=λσ H Q=>ta σ H λx H1=> ∃c,x=.bl c/\Q (.bl (!c)) H1
def Ug{op}{t:TE}(h:PE X a t):PE X (.BoolOp op [a] pos) t:=λpins s σ H Q I hw=>BoolOp_one (h pins s σ H Q I hw)
def Uh(e:PE X a ta)(j:PE X (.BoolOp .And (b::rest) pos) tb):PE X (.BoolOp .And (a::b::rest) pos) (E4 ta tb):=by
 intro pins s σ H Q I h;refine BoolOp_and (jD (e pins s σ H _ I h) λv k ⟨x,H1,I1,i,d⟩=>?_);obtain⟨c,rfl,d⟩:=d;cases i;refine Ć ?_
 cases c with
 |true=>exact j pins k σ H1 Q I1 d
 |false=>exact⟨.bl false,H1,I1,rfl,d⟩
def E6(e:PE X a ta)(j:PE X (.BoolOp .Or (b::rest) pos) tb):PE X (.BoolOp .Or (a::b::rest) pos) (tOrV ta tb):=by
 intro pins s σ H Q I h;refine BoolOp_or (jD (e pins s σ H _ I h) λv k ⟨x,H1,I1,i,d⟩=>?_);obtain⟨c,rfl,d⟩:=d;cases i;refine Ć ?_
 cases c with
 |false=>exact j pins k σ H1 Q I1 d
 |true=>exact⟨.bl true,H1,I1,rfl,d⟩
def Ui(d:PE X a ta):PE X (.UnaryOp .Not a pos) (E5 ta):=by intro pins s σ H Q I h;refine UnaryOp_ (jD (d pins s σ H _ I h) λv i ⟨x,H1,I1,e,b⟩=>?_);obtain⟨c,rfl,b⟩:=b;cases e;exact not_of (Ć ⟨.bl (!c),H1,I1,rfl,b⟩)
end
def SqL(K:U0)(H:Hp)(a:Addr)(xs:List V):Prop:=
 Rd H a (.lst xs)\/
  ∃(o:Obj)(its:B9)(n:Nat),K.lookup a=some o/\o.cls=.type "list"/\o.dict=none/\o.data=.seq its n/\its.size<=sizeLine/\Vals xs its.toList
def SqT(K:U0)(H:Hp)(a:Addr)(xs:List V):Prop:=
 Rd H a (.tup xs)\/
  ∃(o:Obj)(its:B9)(n:Nat),K.lookup a=some o/\o.cls=.type "tuple"/\o.data=.seq its n/\its.size<=sizeLine/\Vals xs its.toList
def absV:ņ->Option V
 |.none=>some .non
 |.bool b=>some (.bl b)
 |.int i _=>some (.int i)
 |.str x _=>some (.str x)
 |.bytes b _=>some (.byt b)
 |.float b _=>some (.flt b)
 |.ref a=>some (.ref a)
 |.type n=>some (.ty n)
 |_=>none
theorem RelV.abs{x:V}{u:ņ}(r:RelV x u):absV u=some x:=by
 cases x with
 |non=>cases r;rfl
 |bl _=>cases r;rfl
 |int _=>obtain⟨t,rfl⟩:=r;rfl
 |str _=>obtain⟨t,rfl⟩:=r;rfl
 |byt _=>obtain⟨t,rfl⟩:=r;rfl
 |flt _=>obtain⟨t,rfl⟩:=r;rfl
 |ref _=>cases r;rfl
 |ty _=>cases r;rfl
def RelV.inj{x y:V}{u:ņ}(r:RelV x u)(q:RelV y u):x=y:=å (r.abs.symm.trans q.abs)
theorem Vals.inj: ∀{xs ys:List V}{us:B0},Vals xs us->Vals ys us->xs=ys
 |_,_,_,.nil,.nil=>rfl
 |_,_,_,.cons r t,.cons r' t'=>by rw[r.inj r',Vals.inj t t']
section
variable{X:Cx}{pins:N0}{σ:St}{H:Hp}{s:Ņ}{a:Addr}{xs ys:List V}
def SqL.of{K:U0}(h:H a=some (.lst xs)):SqL K H a xs:=.inl (.inl h)
def SqT.of{K:U0}(h:H a=some (.tup xs)):SqT K H a xs:=.inl (.inl h)
theorem Inv.list(I:Inv X pins σ H s)(h:SqL X.K H a xs): ∃its:List ņ,Vals xs its/\PlainL s.heap a its.toArray/\xs.length<=sizeLine:=by
 rcases h with h|⟨o,its,n,hk,hc,hd,hs,hz,r⟩
 .obtain⟨z,its,n,r,e⟩:=h.ok I.hok;exact⟨its,r,⟨_,n,e,rfl,rfl,rfl⟩,z⟩
 .refine⟨_,r,⟨o,n,I.kIn a o hk,hc,hd,by simpa using hs⟩,?_⟩;have e:=r.length;simp only[ú]at e
  lia
theorem Inv.tuple(I:Inv X pins σ H s)(h:SqT X.K H a xs): ∃its:List ņ,Vals xs its/\IsTup s.heap a its.toArray/\xs.length<=sizeLine:=by
 rcases h with h|⟨o,its,n,hk,hc,hs,hz,r⟩
 .obtain⟨z,its,r,p⟩:=h.ok I.hok;exact⟨its,r,p,z⟩
 .refine⟨_,r,⟨o,I.kIn a o hk,hc,n,by simpa using hs⟩,?_⟩;have e:=r.length;simp only[ú]at e
  lia
def Inv.list_inj(I:Inv X pins σ H s)(h:SqL X.K H a xs)(h':SqL X.K H a ys):xs=ys:=by
 obtain⟨its,r,⟨o,n,e,_,_,d⟩,_⟩:=I.list h;obtain⟨b,j,⟨o',k,c,_,_,i⟩,_⟩:=I.list h';rw[e]at c;cases c;rw[d]at i;injection i with d1 _
 have:=by simpa using congrArg Array.toList d1
 subst this;exact r.inj j
def Inv.tuple_inj(I:Inv X pins σ H s)(h:SqT X.K H a xs)(h':SqT X.K H a ys):xs=ys:=by
 obtain⟨its,r,⟨o,e,_,n,d⟩,_⟩:=I.tuple h;obtain⟨b,j,⟨o',c,_,k,i⟩,_⟩:=I.tuple h';rw[e]at c;cases c;rw[d]at i;injection i with d1 _
 have:=by simpa using congrArg Array.toList d1
 subst this;exact r.inj j
end
abbrev Cx.wish(X:Cx)(E:VP):Cx:={X with xe:=E}
abbrev Cx.nox(X:Cx):Cx:=X.wish λ_ _=>False
def Cx.Ok.wish(ok:X.Ok)(E:VP):(X.wish E).Ok:=
 ⟨ok.mod,ok.kind,ok.glob,ok.blt,ok.above,ok.inj,ok.has,ok.cab,ok.hd,ok.frames,ok.stk,ok.exf,ok.bs,ok.bsz,ok.noex,ok.exfs,ok.funs,ok.frf⟩
def Cx.Ok.unwish(ok:(X.wish E).Ok):X.Ok:=
 ⟨ok.mod,ok.kind,ok.glob,ok.blt,ok.above,ok.inj,ok.has,ok.cab,ok.hd,ok.frames,ok.stk,ok.exf,ok.bs,ok.bsz,ok.noex,ok.exfs,ok.funs,ok.frf⟩
section
variable{X:Cx}{pins:N0}{σ:St}{H:Hp}{s:Ņ}{E:VP}
def Inv.wish(I:Inv X pins σ H s)(E:VP):Inv (X.wish E) pins σ H s:=⟨I.ok.wish E,I.os,I.bare,I.base,I.loc,I.cell,I.free,I.freeC,I.pin,I.hok,I.len⟩
def Inv.unwish(I:Inv (X.wish E) pins σ H s):Inv X pins σ H s:=⟨I.ok.unwish,I.os,I.bare,I.base,I.loc,I.cell,I.free,I.freeC,I.pin,I.hok,I.len⟩
def SP.unwish{D:Ends}{f:Flow}{s':Ņ}(h:SP (X.wish E) pins D f s'):SP X pins D f s':=by
 cases f with
 |next=>obtain⟨a,H',I,q⟩:=h;exact⟨a,H',I.unwish,q⟩
 |brk=>obtain⟨a,H',I,q⟩:=h;exact⟨a,H',I.unwish,q⟩
 |cont=>obtain⟨a,H',I,q⟩:=h;exact⟨a,H',I.unwish,q⟩
 |ret u=>obtain⟨v,a,H',I,r,q⟩:=h;exact⟨v,a,H',I.unwish,r,q⟩
def PSs.nox{st:List Stmt}{t:TS}(h:PSs X.nox st t):PSs X st t:=λpins s σ H D I hw=>
 ā (h pins s σ H D (I.wish _) hw) (λ_ _ q=>q.unwish) λ_ _ z=>False.elim z
end
section
variable{X:Cx}{st:Stmt}{rest:List Stmt}{t u:TS}{e:Expr}{te:TE}{pos:Pos}
def E7:TS:=λD σ H=>D.nx σ H
def tSeq(t u:TS):TS:=λD σ H=>t {D with nx:=u D} σ H
def La:PSs X [] E7:=λ_ _ σ H _ I h=>wpAny_execs_nil ⟨σ,H,I,h⟩
def Dv(h1:PS X st t)(b:PSs X rest u):PSs X (st::rest) (tSeq t u):=by
 intro pins s σ H D I h;refine wpAny_execs_cons (jD (h1 pins s σ H {D with nx:=u D} I h) λf d q=>?_)
 cases f with
 |next=>
  obtain⟨a,H',c,q⟩:=q;exact b pins d a H' D c q
 |ret v=>exact q
 |brk=>exact q
 |cont=>exact q
def VT(h1:PS X st t):PSs X [st] t:=by
 intro pins s σ H D I h;refine wpAny_execs_cons (jD (h1 pins s σ H D I h) λf a q=>?_)
 cases f with
 |next=>exact wpAny_execs_nil q
 |ret v=>exact q
 |brk=>exact q
 |cont=>exact q
def Inv.quiet{s:Ņ}(I:Inv X pins σ H s):interactive X.env=false:=by simp[interactive,I.ok.kind]
def E8(te:TE):TS:=λD σ H=>te σ H λ_ H1=>D.nx σ H1
def Lb(b:PE X e te)(hs:swapsWith e none pos.line X.env=pure false:=by rfl):PS X (.Expr e pos) (E8 te):=by intro pins s σ H D I h;exact wpAny_Expr_any (jD (b pins s σ H _ I h) λv d ⟨x,H1,I1,c,a⟩=>⟨σ,H1,I1,a⟩) I.quiet hs
def tRet(te:TE):TS:=λD σ H=>te σ H D.rt
def Uj(c:PE X e te):PS X (.Return (some e) pos) (tRet te):=by intro pins s σ H D I h;exact wpAny_Return_some (jD (c pins s σ H _ I h) λv d ⟨x,H1,I1,b,a⟩=>⟨x,σ,H1,I1,b,a⟩)
def tIfS(c:TT)(t u:TS):TS:=λD σ H=>c σ H λb H1=>if b=true then t D σ H1 else u D σ H1
def E9{c:Expr}{a b:List Stmt}{i:TT}(n:PT X c i)(k:PSs X a t)(m:PSs X b u):PS X (.If c a b pos) (tIfS i t u):=by
 intro pins s σ H D I h;refine wpAny_If (jD (n pins s σ H _ I h) λd j ⟨H1,I1,e⟩=>?_)
 cases d with
 |true=>exact k pins j σ H1 D I1 e
 |false=>exact m pins j σ H1 D I1 e
def Uk:TS:=λ_ _ _=>False
def Dw:PS X st Uk:=λ_ _ _ _ _ _ h=>h.elim
end
abbrev TG:=V->St->Hp->(St->Hp->Prop)->Prop
abbrev Ul:=List V->St->Hp->(St->Hp->Prop)->Prop
def PG(X:Cx)(a:Expr)(t:TG):Prop:=
 ∀(pins:N0)(s:Ņ)(σ:St)(H:Hp)(v:V)(u:ņ)(Q:St->Hp->Prop),Inv X pins σ H s->RelV v u->t v σ H Q->
  wpAny (model X.prog X.w) X.A (assign a X.env u) (λ_ s'=> ∃b H',Inv X pins b H' s'/\Q b H') X.xe s
def B8(X:Cx)(ts:R0)(t:Ul):Prop:=
 ∀(pins:N0)(s:Ņ)(σ:St)(H:Hp)(vs:List V)(us:B0)(Q:St->Hp->Prop),Inv X pins σ H s->Vals vs us->t vs σ H Q->
  wpAny (model X.prog X.w) X.A (assignInOrder ((assignEach ts X.env).map (·.2)) us) (λ_ s'=> ∃a H',Inv X pins a H' s'/\Q a H') X.xe s
abbrev TSet:=V->V->V->Hp->(Hp->Prop)->Prop
def F3(X:Cx)(t:TSet):Prop:=
 ∀(pins:N0)(s:Ņ)(σ:St)(H:Hp)(o i v:V)(a b u:ņ)(Q:Hp->Prop),Inv X pins σ H s->RelV o a->RelV i b->RelV v u->t o i v H Q->
  wpAny (model X.prog X.w) X.A (setItem a b u) (λ_ s'=> ∃H',Inv X pins σ H' s'/\Q H') X.xe s
section
variable{X:Cx}{pos:Pos}
def Dx(i:Nat):TG:=λv σ H Q=>Q (σ.set i (some v)) H
def VU{i:Nat}{x:Str}(a:X.N.Nodup)(hi:X.N[i]? =some x)(b:Loc X.env.scope x)(d:z0 X x:=by first |exact .inl rfl|exact .inr rfl|assumption):PG X (.Name x pos) (Dx i):=by intro pins s σ H v u Q I r h;exact wpAny_assign_Name (OE I a hi b r (λs' c=>⟨_,H,c,h⟩) d)
def gNil:Ul:=λvs σ H Q=>vs=[]/\Q σ H
def F4(t:TG)(u:Ul):Ul:=λvs σ H Q=> ∃v r,vs=v::r/\t v σ H λa H'=>u r a H' Q
def VV:B8 X [] gNil:=by intro pins s σ H vs us Q I r h;obtain⟨e,h⟩:=h;subst e;exact assignInOrder_nil ⟨σ,H,I,h⟩
def OG{e:Expr}{es:R0}{t:TG}{u:Ul}(h1:PG X e t)(d:B8 X es u)
  (hs:(assignEach (e::es) X.env).map (·.2)=assign e X.env::(assignEach es X.env).map (·.2):=by rfl):B8 X (e::es) (F4 t u):=by
 intro pins s σ H vs us Q I r h;obtain⟨v,i,e1,h⟩:=h;subst e1
 cases r with
 |cons r rr=>
  rw[hs];refine assignInOrder_cons (jD (h1 pins s σ H _ _ _ I r h) λ_ c ⟨a,H1,I1,b⟩=>?_);exact d pins c a H1 _ _ Q I1 rr b
def gTup(K:U0)(n:Nat)(t:Ul):TG:=λv σ H Q=> ∃a xs,v=.ref a/\SqT K H a xs/\xs.length=n/\t xs σ H Q
def Dy{es:R0}{k:Nat}{t:Ul}{n:Nat}(p:X.calm=true)(h:B8 X es t)
  (hn:(assignEach es X.env).length=n:=by rfl) (hst:(assignEach es X.env).findIdx? (·.1)=none:=by rfl):PG X (.Tuple es k pos) (gTup X.K n t):=by
 intro pins s σ H v u Q I r hw;obtain⟨a,xs,e1,d,m,hw⟩:=hw;subst e1;cases r;obtain⟨its,c,i,q⟩:=I.tuple d;refine assign_Tuple_tuple (I.ok.hd p) i (by simp[hn, <-m,c.length]) hst λh' j=>?_;have I1:Inv X pins σ H {s with heap:=h'}:=I.kept λb o e=>j b o (ã (â e)) e;exact h pins _ σ H xs _ Q I1 (by simpa using c) hw
def gSub(to b:TE)(t:TSet):TG:=λv σ H Q=>to σ H λo H1=>b σ H1 λi a=>t o i v a λc=>Q σ c
def Um{o i:Expr}{to c:TE}{t:TSet}(k:PE X o to)(hi:PE X i c)(hs:F3 X t)
  (ha: ∀v,assign (.Subscript o i pos) X.env v=(do
   let a <-holding [v] (eval o X.env);let b <-holding [v,a] (eval i X.env)
   standAt pos
   holding [v,a,b] (setItem a b v)
   release [v,a,b] []):=by intro _;rfl):PG X (.Subscript o i pos) (gSub to c t):=by
 intro pins s σ H v u Q I r h;refine wB (Ă (jD (k pins s σ H _ I h) λa A ⟨x,H1,I1,m,e⟩=>?_));refine wB (Ă (jD (hi pins A σ H1 _ I1 e) λb B ⟨y,q,w,p,n⟩=>?_));refine wB (wpAny_standAt (wB (Ă (jD (hs pins B σ q x y v a b u _ w m p r n) λ_ C ⟨z,d,j⟩=>?_))));exact wpAny_release ⟨σ,z,d,j⟩
def Uo(te:TE)(g:TG):TS:=λD σ H=>te σ H λx H1=>g x σ H1 D.nx
def Uq{e:Expr}{te:TE}{g:TG}(i:PE X e te)(d:PG X tg g)(hs:swapsWithSole [tg] e pos.line X.env=pure false:=by rfl)(hw:swappedStores [tg] e X.env=pure none:=by rfl)
  (h1:(assignEach [tg] X.env).map (·.2)=[assign tg X.env]:=by rfl):PS X (.Assign [tg] e pos) (Uo te g):=by
 intro pins s σ H D I h;refine wpAny_Assign_stores (jD (i pins s σ H _ I h) λv c ⟨x,H1,I1,b,a⟩=>?_) hs hw;rw[h1];exact jD (d pins c σ H1 x v _ I1 b a) λ_ j q=>q
def Ur{i:Nat}{x:Str}{e:Expr}{te:TE}{pos':Pos}(j:X.N.Nodup)(hi:X.N[i]? =some x)(d:Loc X.env.scope x)(k:PE X e te)(hs:swapsWith e (some (.Name x pos')) pos.line X.env=pure false:=by rfl)(m:z0 X x:=by first |exact .inl rfl|exact .inr rfl|assumption):
  PS X (.Assign [.Name x pos'] e pos) (Uo te (Dx i)):=by
 intro pins s σ H D I h;refine wpAny_Assign_Name (jD (k pins s σ H _ I h) λv n ⟨y,H1,I1,b,a⟩=>?_) hs;exact OE I1 j hi d b (λo c=>⟨_,H1,c,a⟩) m
end
section
variable{X:Cx}{pos:Pos}
def Us(c:TT)(tb:TS):TS:=λD σ H=> ∃W:Nat->St->Hp->Prop,(∃m,W m σ H)/\ ∀m σ H,W m σ H->
 c σ H λb H1=>if b=true then∃N:St->Hp->Prop,(∀a H',N a H'-> ∃d,d<m/\W d a H')/\tb {D with nx:=N,ct:=N,bk:=D.nx} σ H1 else D.nx σ H1
def Dz{c:Expr}{body:List Stmt}{B:TT}{tb:TS}(z:PassesOwn (model X.prog X.w) X.A X.env X.xe)(F:PT X c B)(G:PSs X body tb):PS X (.While c body [] pos) (Us B tb):=by
 intro pins s σ H D I h;obtain⟨W,⟨L,J⟩,i⟩:=h;refine wpAny_While (codeAny_whileLoop (λn s'=> ∃j H',Inv X pins j H' s'/\W n j H') ?_ L ⟨σ,H,I,J⟩);rintro n M ⟨d,H1,I1,K⟩;refine ĩ z (jD (F pins M d H1 _ I1 (i n d H1 K)) λb O ⟨C,y,m⟩=>?_)
 cases b with
 |true=>
  obtain⟨N,E,m⟩:=m;refine ĩ z (jD (G pins O d C _ y m) λf P k=>?_)
  cases f with
  |next=>
   obtain⟨a,e,q,u⟩:=k;obtain⟨r,o,p⟩:=E a e u;exact⟨r,o,a,e,q,p⟩
  |cont=>
   obtain⟨a,e,q,u⟩:=k;obtain⟨r,o,p⟩:=E a e u;exact⟨r,o,a,e,q,p⟩
  |brk=>exact k
  |ret v=>exact k
 |false=>
  exact wpAny_execs_nil ⟨d,C,y,m⟩
end
structure It where
 go:Nat->Hp->Prop
 yld:Nat->Hp->V->Hp->Prop
 stop:Nat->Hp->Prop
def vB(X:Cx)(pins:N0)(H:Hp)(b:Addr):Prop:=
 H b=none/\b≠X.env.locals/\b∉X.fs/\(b∈X.ex\/X.s₀.heap.objs.size<=b)/\(∀x c,X.env.cells.lookup x=some c->c≠b)/\ ∀p∈X.pn++pins,p.1≠b
def Inv.fpOk{H':Hp}{s:Ņ}{b:Addr}(I:Inv X pins σ H s)(a:s.heap.objs.size<=b)(d:H' b=none):vB X pins H' b:=by
 refine⟨d,Ē (é I.lt a),I.nofs a,.inr (í I.sz a),λx c e z=>?_,λp h z=>?_⟩
 .obtain⟨v,q⟩:=I.cell x c e;exact absurd (é q.lt (by rw[z];exact a)) (Ě _)
 .exact absurd (é (â (I.pin p h).1) (by rw[z];exact a)) (Ě _)
abbrev Ut(X:Cx):Prop:=X.calm=true
structure TurnC(C:Cx->Prop)(P:ň)(w:World)(K:U0)(tg:Expr)(J:It)(fp:K0)(it:Addr)(tn:Nat->Heap->Prop):Prop where
 mem:it∈fp
 obj: ∀i h,tn i h-> ∀b∈fp, ∃o,h.get? b=some o/\ ∀v,o.data≠.cell v
 keep: ∀i h h',tn i h->(∀b∈fp, ∀o,h.get? b=some o->h'.get? b=some o)->tn i h'
 item: ∀(X:Cx),X.prog=P->X.w=w->X.K=K->C X-> ∀(i:Nat)(pins:N0)(s:Ņ)(σ:St)(H:Hp)(E:VP),Inv X pins σ H s->(∀b∈fp,vB X pins H b)->tn i s.heap->J.go i H->
  wpAny (model P w) X.A (pyNext (.ref it)) (λr s1=> ∃u,r=some u/\
   wpAny (model P w) X.A (letOwnedTupleGo tg (.ref it) u) (λ_ s2=> ∃x H',Inv X pins σ H' s2/\RelV x u/\J.yld i H x H'/\tn (i+1) s2.heap/\ ∀b∈fp,H' b=none) E s1) E s
 done: ∀(X:Cx),X.prog=P->X.w=w->X.K=K->C X-> ∀(i:Nat)(pins:N0)(s:Ņ)(σ:St)(H:Hp)(E:VP),Inv X pins σ H s->(∀b∈fp,vB X pins H b)->tn i s.heap->J.stop i H->
  wpAny (model P w) X.A (pyNext (.ref it)) (λr s1=>r=none/\Inv X pins σ H s1) E s
 self: ∀(A:Ň)(i:Nat)(s:Ņ)(Q:VP)(E:VP),tn i s.heap->Q (.ref it) s->wpAny (model P w) A (pyIter (.ref it)) Q E s
abbrev Turn:=TurnC Ut
abbrev TI:=St->Hp->(It->Hp->Prop)->Prop
def F5(C:Cx->Prop)(X:Cx)(pins:N0)(σ:St)(tg:Expr)(R:It->Hp->Prop)(a:ņ)(d:Ņ):Prop:=
 ∃(it:Addr)(fp:K0)(c:Nat->Heap->Prop)(J:It)(H':Hp),a=.ref it/\Inv X pins σ H' d/\TurnC C X.prog X.w X.K tg J fp it c/\c 0 d.heap/\(∀b∈fp,vB X pins H' b)/\R J H'
abbrev PIE:=F5 Ut
def F6(C:Cx->Prop)(X:Cx)(tg iter:Expr)(a:TI):Prop:=
 ∀(pins:N0)(s:Ņ)(σ:St)(H:Hp)(R:It->Hp->Prop),Inv X pins σ H s->a σ H R->
  wpAny (model X.prog X.w) X.A (eval iter X.env) (λv b=>wpAny (model X.prog X.w) X.A (pyIter v) (F5 C X pins σ tg R) X.xe b) X.xe s
abbrev PI:=F6 Ut
def VW{M:Model}{A:Ň}{s:Ņ}{it:Addr}{u:ņ}{o:Obj}{n:String}{vs:B9}(b:s.heap.get? it=some o)(a:o.cls=.type n)(c:o.data=.fields vs)
  (hn:["enumerate","zip","dict_itemiterator","dict_reverseitemiterator","odict_iterator","itertools.zip_longest","itertools.pairwise"].contains n=false) (hQ:Q () s):wpAny M A (letOwnedTupleGo tg (.ref it) u) Q E s:=by
 cases tg<;>first
  |exact wP hQ
  |(cases u<;>first
    |exact wP hQ
    |(refine wB (wpAny_load b ?_)
      rw[a,c];show wpAny M A (if _=true then _ else _) Q E s;rw[iN (by intro h;rw[hn]at h;cases h)];exact wP hQ))
def Itl(K:U0)(a:Addr):It:=
 ⟨λi H=> ∃xs x,SqL K H a xs/\xs[i]? =some x,λi H x H'=>H'=H/\ ∀xs,SqL K H a xs->xs[i]? =some x,λi H=> ∃xs,SqL K H a xs/\xs.length<=i⟩
def Itt(K:U0)(a:Addr):It:=
 ⟨λi H=> ∃xs x,SqT K H a xs/\xs[i]? =some x,λi H x H'=>H'=H/\ ∀xs,SqT K H a xs->xs[i]? =some x,λi H=> ∃xs,SqT K H a xs/\xs.length<=i⟩
def W2(lo:Int)(n:Nat):It:=⟨λi _=>i<n,λi H x H'=>H'=H/\x=.int (lo+i),λi _=>n<=i⟩
theorem ZV{P:ň}{w:World}{K:U0}(a it:Addr):Turn P w K tg (Itl K a) [it] it (λi h=>h.IsListIter it a i) where
 mem:=by simp
 obj:=λi h st b hb=>by
  have e:=by simpa using hb
  subst e;obtain⟨o,e,c,d⟩:=st;exact⟨o,e,λv z=>by rw[d]at z;cases z⟩
 keep:=λi h h' st k=>st.at λo e=>k it (by simp) o e
 item:=by intro X hP hw hK hc i pins s σ H E I hf st hg;subst hP hw hK;obtain⟨xs,x,hq,hx⟩:=hg;obtain⟨its,rv,p,hz⟩:=I.list hq;obtain⟨u,hu,ru⟩:=rv.get hx;obtain⟨f0,f1,f2,f3,f4,f5⟩:=hf it (by simp);refine wpAny_pyNext_list_item st p.isList (by simpa using hu) λh' st' sb=>?_;have I1:Inv X pins σ H {s with heap:=h'}:=I.turned (λb o hb e=>(sb.2 b hb).trans e) f0 f1 f3 f4 f5;obtain⟨o,e,c,d⟩:=id st';exact⟨u,rfl,VW e c d (by decide) ⟨x,H,I1,ru,⟨rfl,λys hy=>by rw[I.list_inj hy hq];exact hx⟩,st',λb hb=>(hf b hb).1⟩⟩
 done:=by intro X hP hw hK hc i pins s σ H E I hf st hg;subst hP hw hK;obtain⟨xs,hq,hx⟩:=hg;obtain⟨its,rv,p,hz⟩:=I.list hq;obtain⟨f0,f1,f2,f3,f4,f5⟩:=hf it (by simp);have hl:=rv.length;exact wpAny_pyNext_list_end (I.ok.hd hc) st p.isList (by simp;lia) λh' eb=>⟨rfl,I.turned (λb o hb e=>eb b o hb e) f0 f1 f3 f4 f5⟩
 self:=λ_ _ _ _ _ st h=>wpAny_pyIter_listiter st h
theorem RV{P:ň}{w:World}{K:U0}(a it:Addr):Turn P w K tg (Itt K a) [it] it (λi h=>h.IsTupleIter it a i) where
 mem:=by simp
 obj:=λi h st b hb=>by
  have e:=by simpa using hb
  subst e;obtain⟨o,e,c,d⟩:=st;exact⟨o,e,λv z=>by rw[d]at z;cases z⟩
 keep:=λi h h' st k=>st.at λo e=>k it (by simp) o e
 item:=by intro X hP hw hK hc i pins s σ H E I hf st hg;subst hP hw hK;obtain⟨xs,x,hq,hx⟩:=hg;obtain⟨its,rv,p,hz⟩:=I.tuple hq;obtain⟨u,hu,ru⟩:=rv.get hx;obtain⟨f0,f1,f2,f3,f4,f5⟩:=hf it (by simp);refine wpAny_pyNext_tuple_item st p (by simpa using hu) λh' st' sb=>?_;have I1:Inv X pins σ H {s with heap:=h'}:=I.turned (λb o hb e=>(sb.2 b hb).trans e) f0 f1 f3 f4 f5;obtain⟨o,e,c,d⟩:=id st';exact⟨u,rfl,VW e c d (by decide) ⟨x,H,I1,ru,⟨rfl,λys hy=>by rw[I.tuple_inj hy hq];exact hx⟩,st',λb hb=>(hf b hb).1⟩⟩
 done:=by intro X hP hw hK hc i pins s σ H E I hf st hg;subst hP hw hK;obtain⟨xs,hq,hx⟩:=hg;obtain⟨its,rv,p,hz⟩:=I.tuple hq;obtain⟨f0,f1,f2,f3,f4,f5⟩:=hf it (by simp);have hl:=rv.length;exact wpAny_pyNext_tuple_end (I.ok.hd hc) st p (by simp;lia) λh' eb=>⟨rfl,I.turned (λb o hb e=>eb b o hb e) f0 f1 f3 f4 f5⟩
 self:=λ_ _ _ _ _ st h=>wpAny_pyIter_tupleiter st h
theorem RW{P:ň}{w:World}{K:U0}(it:Addr)(lo:Int)(n:Nat):Turn P w K tg (W2 lo n) [it] it (λi h=>IsRangeIter h it (lo+(i:Nat) * 1) ((n:Int) - (i:Nat)) 1) where
 mem:=by simp
 obj:=λi h st b hb=>by
  have e:=by simpa using hb
  subst e;exact⟨_,st,λv z=>by have z':=z;cases z'⟩
 keep:=λi h h' st k=>k it (by simp) _ st
 item:=by intro X hP hw hK hc i pins s σ H E I hf st hg;subst hP hw hK;obtain⟨f0,f1,f2,f3,f4,f5⟩:=hf it (by simp);have W:=Walks.range (prog:=X.prog) (w:=X.w) (I.ok.hd hc) it lo 1 n;refine W.item i s _ _ hg st λv h' tk hv st' kk=>?_;obtain⟨t,rfl⟩:=hv;have I1:Inv X pins σ H {s with heap:=h',toks:=tk}:=I.turned (λb o hb e=>kk b o (by simpa using hb) e) f0 f1 f3 f4 f5;refine⟨_,rfl,VW st' rfl rfl (by decide) ⟨.int _,H,I1,⟨t,?_⟩,⟨rfl,rfl⟩,st',λb hb=>(hf b hb).1⟩⟩;rw[Int.mul_one]
 done:=by intro X hP hw hK hc i pins s σ H E I hf st hg;obtain⟨f0,f1,f2,f3,f4,f5⟩:=hf it (by simp);exact wpAny_pyNext_range_end (I.ok.hd hc) st (by have:n<=i:=hg;lia) λh' eb=>⟨rfl,I.turned (λb o hb e=>eb b o hb e) f0 f1 f3 f4 f5⟩
 self:=λ_ _ _ _ _ st h=>wpAny_pyIter_rangeiter st h
section
variable{X:Cx}{tg:Expr}
def F7(K:U0)(tl:TE):TI:=λσ H R=>tl σ H λx H1=> ∃a,x=.ref a/\(∃xs,SqL K H1 a xs)/\R (Itl K a) H1
def iTup(K:U0)(tl:TE):TI:=λσ H R=>tl σ H λx H1=> ∃a,x=.ref a/\(∃xs,SqT K H1 a xs)/\R (Itt K a) H1
def Lc{l:Expr}{tl:TE}(k:PE X l tl):PI X tg l (F7 X.K tl):=by
 intro pins s σ H R I h;refine jD (k pins s σ H _ I h) λv r ⟨x,H1,I1,d,c⟩=>?_;obtain⟨a,e,⟨xs,i⟩,q⟩:=c;subst e;cases d;obtain⟨its,m,p,n⟩:=I1.list i;refine wpAny_pyIter_list p.isList ?_;refine⟨_,_,_,_,H1,rfl,I1.kept λb o e=>hP0 _ e,ZV a _,⟨_,ä _ rfl,rfl,rfl⟩,λb j=>?_,q⟩;have e:=by simpa using j
 subst e;exact I1.fpOk (à _) (I1.hok.fresh (à _))
def Uu{l:Expr}{tl:TE}(k:PE X l tl):PI X tg l (iTup X.K tl):=by
 intro pins s σ H R I h;refine jD (k pins s σ H _ I h) λv r ⟨x,H1,I1,d,c⟩=>?_;obtain⟨a,e,⟨xs,i⟩,q⟩:=c;subst e;cases d;obtain⟨its,m,p,n⟩:=I1.tuple i;refine wpAny_pyIter_tuple p ?_;refine⟨_,_,_,_,H1,rfl,I1.kept λb o e=>hP0 _ e,RV a _,⟨_,ä _ rfl,rfl,rfl⟩,λb j=>?_,q⟩;have e:=by simpa using j
 subst e;exact I1.fpOk (à _) (I1.hok.fresh (à _))
theorem Ea{s:Ņ}{R:It->Hp->Prop}{lo hi:Int}{t u v:Tok}{tk:Nat}(I:Inv X pins σ H s)(h1: -(2 ^ 62)<=lo)(h:lo<2 ^ 62)(d: -(2 ^ 62)<=hi)(c:hi<2 ^ 62)
  (q:R (W2 lo (hi - lo).toNat) H):wpAny (model X.prog X.w) X.A (pyIter (.ref s.heap.objs.size)) (PIE X pins σ tg R) E {s with heap:=s.heap.push {cls:=.type "range",data:=.fields #[.int lo t,.int hi u,.int 1 v]},toks:=tk}:=by
 refine wpAny_pyIter_range (IsRange.new ..) (small_one h1 h d c) ?_;have I1:Inv X pins σ H {s with heap:=s.heap.push {cls:=.type "range",data:=.fields #[.int lo t,.int hi u,.int 1 v]},toks:=tk}:=I.kept λb o e=>hP0 _ e
 refine⟨_,_,_,_,H,rfl,
  I1.kept λb o e=>hP0 _ e,RW _ lo (hi - lo).toNat,?_,λb a=>?_,q⟩
 .have e1:lo+((0:Nat):Int) * 1=lo:=by simp
  have e2:(((hi - lo).toNat:Nat):Int) - ((0:Nat):Int)=Builtin.Range.rangeSize lo hi 1:=by rw[rangeSize_one];split<;>lia
  show IsRangeIter _ _ _ _ 1;rw[e1,e2];exact ä _ rfl
 .have e:b=(s.heap.push {cls:=.type "range",data:=.fields #[.int lo t,.int hi u,.int 1 v]}).objs.size:=by simpa using a
  subst e;exact I1.fpOk (à _) (I1.hok.fresh (à _))
def F8(ta:TA):TI:=λσ H R=>ta σ H λvs H1=> ∃j:Int,vs=[.int j]/\ -(2 ^ 62)<=j/\j<2 ^ 62/\R (W2 0 j.toNat) H1
theorem ZW{a:Expr}{ta:TA}{p:Pos}(m:Gl X "range")(d:X.mg "range"=none)(c:PA X [a] ta)(hs:starEach [a] X.env=[(false,eval a X.env)]:=by rfl):PI X tg (.Call (.Name "range" p) [a] [] pos) (F8 ta):=by
 intro pins s σ H R I h;refine Call_ (BE I m d boot_range (ĥ (jD (c pos pins s σ H _ I h) λus n ⟨vs,H1,I1,i,b⟩=>?_) hs rfl));obtain⟨j,e,b,k,q⟩:=b;subst e
 cases i with
 |cons r rr=>
  cases rr;obtain⟨t,rfl⟩:=r;exact call_range_1 (Ea I1 #[0] #[0] b k (by simpa using q))
def tFor(d:TI)(g:TG)(tb:TS):TS:=λD σ H=>d σ H λJ H1=> ∃W:Nat->Nat->St->Hp->Prop,(∃m,W 0 m σ H1)/\ ∀i m σ H,W i m σ H->
 (J.stop i H/\D.nx σ H)\/(J.go i H/\ ∃N:St->Hp->Prop,(∀a H',N a H'-> ∃c,c<m/\W (i+1) c a H')/\ ∀x H',J.yld i H x H'->g x σ H' λb e=>tb {D with nx:=N,ct:=N,bk:=D.nx} b e)
def EI(fp:K0)(h:Heap):List (Addr×Obj):=fp.filterMap λb=>(h.get? b).map λo=>(b,o)
def uA{fp:K0}{h:Heap}{b:Addr}{o:Obj}(a:b∈fp)(e:h.get? b=some o):(b,o)∈EI fp h:=mem_filterMap.mpr ⟨b,a,by rw[e];rfl⟩
def ZX{fp:K0}{h:Heap}{p:Addr×Obj}(d:p∈EI fp h):p.1∈fp/\h.get? p.1=some p.2:=by
 obtain⟨b,a,e⟩:=mem_filterMap.mp d
 cases q:h.get? b with
 |none=>rw[q]at e;cases e
 |some o=>
  rw[q]at e;have c:_=p:=å e;subst c;exact⟨a,q⟩
def Inv.pinned{s:Ņ}{fp:K0}(I:Inv X pins σ H s)(j: ∀b∈fp,vB X pins H b)(h: ∀b∈fp, ∃o,s.heap.get? b=some o/\ ∀v,o.data≠.cell v):Inv X (pins++EI fp s.heap) σ H s:=
 I.pins_of λp k=>(ê.mp k).elim (λz=>I.pin p (ö _ z)) λz=>by obtain⟨a,e⟩:=ZX z;obtain⟨i,f1,f2,_⟩:=j p.1 a;obtain⟨o,c,d⟩:=h p.1 a;rw[e]at c;cases c;exact⟨e,i,f1,f2,d⟩
def Inv.unpinned{a:N0}{s:Ņ}(I:Inv X (pins++a) σ H s):Inv X pins σ H s:=I.pins_of λp b=>I.pin p (ö _ (Đ _ b))
def Uv{iter:Expr}{body:List Stmt}{Y:TI}{g:TG}{tb:TS}(K:PassesOwn (model X.prog X.w) X.A X.env X.xe)(hc:X.calm=true)(hi:PI X tg iter Y)(hg:PG X tg g)(y:PSs X body tb)
  (hs: ∀x,foldedSetIterable iter X.env x=pure x:=by intro _;rfl):PS X (.For tg iter body [] pos) (tFor Y g tb):=by
 intro pins s σ H D I h;refine wpAny_For (jD (hi pins s σ H _ I h) λv s1 h1=>jD h1 λaa s2 h2=>?_) hs;obtain⟨it,fp,tn,J,H2,e,I2,T,M,f2,W,⟨m0,w0⟩,G⟩:=h2;subst e;have p: ∀{H':Hp},(∀b∈fp,H' b=none)-> ∀b∈fp,vB X pins H' b:=λhn b y=>⟨hn b y,(f2 b y).2⟩
 refine codeAny_forLoop_any (λn s'=> ∃i q H',Inv X pins q H' s'/\tn i s'.heap/\(∀b∈fp,H' b=none)/\W i n q H') ?_ m0 ⟨0,σ,H2,I2,M,λb y=>(f2 b y).1,w0⟩;rintro n Z ⟨i,c,L,I3,C,F,w3⟩;rcases G i n c L w3 with⟨stop,qn⟩|⟨go,N,hN,step⟩
 .refine ĩ K (jD (T.done X rfl rfl rfl hc i pins Z c L X.xe I3 (p F) C stop) λr s4 ⟨O,I4⟩=>?_);subst O;exact wpAny_execs_nil ⟨c,L,I4,qn⟩
 .refine ĩ K (jD (T.item X rfl rfl rfl hc i pins Z c L X.xe I3 (p F) C go) λr s4 ⟨u,O,h4⟩=>?_);subst O;refine ĩ K (jD h4 λ_ s5 ⟨x,H5,I5,r5,y5,B,S⟩=>?_);have P:=I5.pinned (p S) (T.obj _ _ B);refine ĩ K (jD (hg _ s5 c H5 x u _ P r5 (step x H5 y5)) λ_ s6 ⟨U,H6,I6,q6⟩=>?_);refine ĩ K (jD (y _ s6 U H6 _ I6 q6) λf Q z=>?_);have k: ∀{a:St}{H7:Hp},Inv X _ a H7 Q->N a H7-> ∃m,m<n/\ ∃i q H',Inv X pins q H' Q/\tn i Q.heap/\(∀b∈fp,H' b=none)/\W i m q H':=λ{a H7} j E=>by obtain⟨m',hm,w7⟩:=hN a H7 E;refine⟨m',hm,_,a,H7,j.unpinned,T.keep _ _ _ B λb y o e=>(j.pin (b,o) (ö _ (ö _ (uA y e)))).1,λb y=>?_,w7⟩;obtain⟨o,e,d⟩:=T.obj _ _ B b y;exact(j.pin (b,o) (ö _ (ö _ (uA y e)))).2.1
  cases f with
  |next=>obtain⟨a,H7,j,E⟩:=z;exact k j E
  |cont=>obtain⟨a,H7,j,E⟩:=z;exact k j E
  |brk=>obtain⟨a,H7,j,z⟩:=z;exact⟨a,H7,j.unpinned,z⟩
  |ret v=>obtain⟨x7,a,H7,j,r7,z⟩:=z;exact⟨x7,a,H7,j.unpinned,r7,z⟩
end
abbrev R2:=V->V->Hp->VK->Prop
def OpR(X:Cx)(f:ņ->ņ->Sem ņ)(r:R2):Prop:=
 ∀(pins:N0)(s:Ņ)(σ:St)(H:Hp)(x y:V)(v u:ņ)(Q:VK),Inv X pins σ H s->RelV x v->RelV y u->r x y H Q->
  wpAny (model X.prog X.w) X.A (f v u) (EP X pins σ Q) X.xe s
def UnR(X:Cx)(f:ņ->Sem ņ)(r:V->Hp->VK->Prop):Prop:=
 ∀(pins:N0)(s:Ņ)(σ:St)(H:Hp)(x:V)(v:ņ)(Q:VK),Inv X pins σ H s->RelV x v->r x H Q->
  wpAny (model X.prog X.w) X.A (f v) (EP X pins σ Q) X.xe s
def CallR(X:Cx)(f:ņ)(r:List V->Hp->VK->Prop):Prop:=
 ∀(pins:N0)(s:Ņ)(σ:St)(H:Hp)(xs:List V)(us:B0)(Q:VK),Inv X pins σ H s->Vals xs us->r xs H Q->
  wpAny (model X.prog X.w) X.A (call f us) (EP X pins σ Q) X.xe s
def TruR(X:Cx)(r:V->Hp->(Bool->Hp->Prop)->Prop):Prop:=
 ∀(pins:N0)(s:Ņ)(σ:St)(H:Hp)(x:V)(v:ņ)(Q:Bool->Hp->Prop),Inv X pins σ H s->RelV x v->r x H Q->
  wpAny (model X.prog X.w) X.A (truthy v) (TP X pins σ Q) X.xe s
def W3(r:R2)(ta tb:TE):TE:=λσ H Q=>ta σ H λx H1=>tb σ H1 λy a=>r x y a Q
def tUn(r:V->Hp->VK->Prop)(ta:TE):TE:=λσ H Q=>ta σ H λx H1=>r x H1 Q
def rI(C:Int->Int->Prop)(g:Int->Int->V):R2:=λx y H Q=> ∃i j,x=.int i/\y=.int j/\C i j/\Q (g i j) H
def Se(g:Int->Int->V):R2:=λx y H Q=> ∃i j,x=.int i/\y=.int j/\Q (g i j) H
def rU(g:Int->V):V->Hp->VK->Prop:=λx H Q=> ∃i,x=.int i/\Q (g i) H
section
variable{X:Cx}{a b:Expr}{ta tb:TE}{pos:Pos}
def Uw(i:PE X a ta)(m:PE X b tb){s:Ņ}{R:V->V->Hp->Prop}(I:Inv X pins σ H s)
  (h:ta σ H λx H1=>tb σ H1 λy c=>R x y c) {Q:VP} {f:ņ->ņ->Sem ņ}
  (hf: ∀v u e x y c,Inv X pins σ c e->RelV x v->RelV y u->R x y c->wpAny (model X.prog X.w) X.A (f v u) Q X.xe e):
  wpAny (model X.prog X.w) X.A (eval a X.env) (λv d=>wpAny (model X.prog X.w) X.A (eval b X.env) (λu s₂=>wpAny (model X.prog X.w) X.A (f v u) Q X.xe s₂) X.xe d) X.xe s:=by
 refine jD (i pins s σ H _ I h) λv q ⟨x,H1,I1,k,j⟩=>?_;refine jD (m pins q σ H1 _ I1 j) λu e ⟨y,c,p,o,n⟩=>?_;exact hf v u e x y c p k o n
def Sf{c:Operator}{r:R2}(e:OpR X (binaryOp c) r)(d:PE X a ta)(i:PE X b tb):PE X (.BinOp a c b pos) (W3 r ta tb):=by intro pins s σ H Q I h;exact wpAny_BinOp (Uw d i I h λv u n x y k m o j q=>e pins n σ k x y v u Q m o j q)
def F9{b:UnaryOp}{r:V->Hp->VK->Prop}(e:UnR X (unaryOp b) r)(c:PE X a ta):PE X (.UnaryOp b a pos) (tUn r ta):=by intro pins s σ H Q I h;exact UnaryOp_ (jD (c pins s σ H _ I h) λv j ⟨x,H1,I1,i,d⟩=>e pins j σ H1 x v Q I1 i d)
def opI{C:Int->Int->Prop}{g:Int->Int->Int}
  (rule: ∀(i j:Int)(t u:Tok)(s:Ņ)(Q:VP)(E:VP),C i j->Q (.int (g i j) s.toks) {s with toks:=s.toks+1}->wpAny (model X.prog X.w) X.A (f (.int i t) (.int j u)) Q E s):
  OpR X f (rI C λi j=>.int (g i j)):=by
 intro pins s σ H x y v u Q I c a h;obtain⟨i,j,rfl,rfl,b,q⟩:=h;obtain⟨t,rfl⟩:=c;obtain⟨t',rfl⟩:=a;exact rule i j t t' s _ _ b ⟨.int _,H,I.tok _,⟨_,rfl⟩,q⟩
def G5{g:Int->Int->Int}
  (rule: ∀(i j:Int)(t u:Tok)(s:Ņ)(Q:VP)(E:VP),Q (.int (g i j) s.toks) {s with toks:=s.toks+1}->wpAny (model X.prog X.w) X.A (f (.int i t) (.int j u)) Q E s):
  OpR X f (Se λi j=>.int (g i j)):=by
 intro pins s σ H x y v u Q I b a h;obtain⟨i,j,rfl,rfl,q⟩:=h;obtain⟨t,rfl⟩:=b;obtain⟨t',rfl⟩:=a;exact rule i j t t' s _ _ ⟨.int _,H,I.tok _,⟨_,rfl⟩,q⟩
def G6{g:Int->Int->Bool}
  (rule: ∀(i j:Int)(t u:Tok)(s:Ņ)(Q:VP)(E:VP),Q (.bool (g i j)) s->wpAny (model X.prog X.w) X.A (f (.int i t) (.int j u)) Q E s):
  OpR X f (Se λi j=>.bl (g i j)):=by
 intro pins s σ H x y v u Q I b a h;obtain⟨i,j,rfl,rfl,q⟩:=h;obtain⟨t,rfl⟩:=b;obtain⟨t',rfl⟩:=a;exact rule i j t t' s _ _ ⟨.bl _,H,I,rfl,q⟩
def CMul(i j:Int):Prop:=(-(2 ^ 64)<i/\i<2 ^ 64)\/(-(2 ^ 64)<j/\j<2 ^ 64)
def CMul.ok{i j:Int}(h:CMul i j):IntMulOk i j:=by
 rcases h with⟨h1,h2⟩|⟨h1,h2⟩
 .exact .of_left (intBits_le_64 h1 h2)
 .exact .of_right (intBits_le_64 h1 h2)
def Ux:OpR X (binaryOp .Add) (Se λi j=>.int (i+j)):=G5 λ_ _ _ _ _ _ _ q=>add_int q
def Uy:OpR X (binaryOp .Sub) (Se λi j=>.int (i - j)):=G5 λ_ _ _ _ _ _ _ q=>sub_int q
theorem Uz:OpR X (binaryOp .Mod) (rI (λ_ j=>0<j) λi j=>.int (i % j)):=opI λi j _ _ _ _ _ a q=>by have h1:_<j:=a;exact mod_int' #[0] (by rw[Int.fmod_eq_emod_of_nonneg i #[0]];exact q)
def unI{f:ņ->Sem ņ}{g:Int->Int}
  (rule: ∀(i:Int)(t:Tok)(s:Ņ)(Q:VP)(E:VP),Q (.int (g i) s.toks) {s with toks:=s.toks+1}->wpAny (model X.prog X.w) X.A (f (.int i t)) Q E s):
  UnR X f (rU λi=>.int (g i)):=by
 intro pins s σ H x v Q I a h;obtain⟨i,rfl,q⟩:=h;obtain⟨t,rfl⟩:=a;exact rule i t s _ _ ⟨.int (g i),H,I.tok _,⟨_,rfl⟩,q⟩
def Va:UnR X (unaryOp .USub) (rU λi=>.int (-i)):=unI λ_ _ _ _ _ q=>neg_int q
end
section
variable{X:Cx}{a b:Expr}{ta tb:TE}{pos:Pos}
def KR{s:Ņ}{Q:VK}{k k':Bool}(I:Inv X pins σ H s)(q:Q (.bl k) H)(e:k=k'):EP X pins σ Q (.bool k') s:=by subst e;exact⟨.bl k,H,I,rfl,q⟩
def Sh:OpR X (compareOp .Gt) (Se λi j=>.bl (decide (j<i))):=G6 λ_ _ _ _ _ _ _ q=>gt_int q
def G7:OpR X (compareOp .GtE) (Se λi j=>.bl (decide (j<=i))):=G6 λ_ _ _ _ _ _ _ q=>ge_int q
def ZY:OpR X (compareOp .In) (λx y H Q=> ∃i j,x=.str i/\y=.str j/\Q (.bl (!(Builtin.Str.occurrences j i 0 j.length 1).isEmpty)) H):=by intro pins s σ H x y v u Q I b a h;obtain⟨i,j,rfl,rfl,q⟩:=h;obtain⟨t,rfl⟩:=b;obtain⟨t',rfl⟩:=a;exact in_str (KR I q rfl)
def Eb:OpR X (compareOp .Is) (λx y H Q=>y=.non/\Q (.bl (decide (x=.non))) H):=by
 intro pins s σ H x y v u Q I a b h;obtain⟨rfl,q⟩:=h;cases b;refine is_none_gen (KR I q ?_)
 cases x<;>first
  |(cases a;rfl)
  |(obtain⟨t,rfl⟩:=a;rfl)
def Ld:OpR X (compareOp .IsNot) (λx y H Q=>y=.non/\Q (.bl (!decide (x=.non))) H):=by
 intro pins s σ H x y v u Q I a b h;obtain⟨rfl,q⟩:=h;cases b;refine isnot_none_gen (KR I q ?_)
 cases x<;>first
  |(cases a;rfl)
  |(obtain⟨t,rfl⟩:=a;rfl)
def KS:OpR X (compareOp .NotIn) (λx y H Q=> ∃i j,x=.str i/\y=.str j/\Q (.bl (!(!(Builtin.Str.occurrences j i 0 j.length 1).isEmpty))) H):=by intro pins s σ H x y v u Q I b a h;obtain⟨i,j,rfl,rfl,q⟩:=h;obtain⟨t,rfl⟩:=b;obtain⟨t',rfl⟩:=a;exact notIn_str (KR I q rfl)
def OpR.or{r a:R2}(h:OpR X f r)(h':OpR X f a):OpR X f (λx y H Q=>r x y H Q\/a x y H Q):=by
 intro pins s σ H x y v u Q I b c q;rcases q with q|q
 .exact h pins s σ H x y v u Q I b c q
 .exact h' pins s σ H x y v u Q I b c q
def Ec(b:Expr){a:CmpOp}(h:a≠.In:=by decide)(c:a≠.NotIn:=by decide):behindInMarks a b=false:=by
 have e1:(a==CmpOp.In)=false:=by cases a<;>first |rfl|exact absurd rfl h
 have e2:(a==CmpOp.NotIn)=false:=by cases a<;>first |rfl|exact absurd rfl c
 cases b<;>simp[behindInMarks,e1,e2]
def Lf{c:CmpOp}{r:R2}(i:OpR X (compareOp c) r)(d:PE X a ta)(j:PE X b tb)(e:behindInMarks c b=false):PE X (.Compare a [c] [b] pos) (W3 r ta tb):=by intro pins s σ H Q I h;exact wpAny_Compare1 (Uw d j I h λv u o x y m n p k q=>i pins o σ m x y v u Q n p k q) e
def G8(t:TE):TT:=λσ H Q=>t σ H λx H'=> ∃k,x=.bl k/\Q k H'
def Lg{d:CmpOp}{r:R2}(q:OpR X (compareOp d) r)(j:PE X a ta)(w:PE X b tb)(p:behindInMarks d b=false):PT X (.Compare a [d] [b] pos) (G8 (W3 r ta tb)):=by
 intro pins s σ H Q I h
 refine wpAny_isTrue_Compare1 (jD (j pins s σ H _ I h) λv G ⟨x,H1,I1,o,m⟩=>jD (w pins G σ H1 _ I1 m) λu J ⟨y,D,E,C,B⟩=>
  jD (q pins J σ D x y v u _ E o C B) λc K ⟨z,F,i,A,k,e,n⟩=>?_) p
 subst e;cases A;exact Ć ⟨F,i,n⟩
def Vb(K:U0)(x:V)(H:Hp)(k:Bool):Prop:=
 match x with
 |.non=>k=false
 |.bl b=>k=b
 |.int i=>k=(i !=0)
 |.str y=>y.length<=sizeLine/\k=((y.length:Int) !=0)
 |.byt y=>y.size<=sizeLine/\k=((y.size:Int) !=0)
 |.ref p=>(∃xs,SqL K H p xs/\k= !xs.isEmpty)\/(∃xs,SqT K H p xs/\k= !xs.isEmpty)\/ ∃kvs,H p=some (.dK kvs)/\k= !kvs.isEmpty
 |_=>False
theorem RX{a:Type}{kvs:List (a×V)}{vs:List (a×ņ)}(r:KV kvs vs):(!vs.isEmpty)= !kvs.isEmpty:=by cases r<;>rfl
def EK{xs:List V}{its:B0}(r:Vals xs its):(!its.toArray.isEmpty)= !xs.isEmpty:=by cases r<;>simp
def BF:(sizeLine:Nat)<2 ^ 63:=by rw[ď];decide
theorem Vc:TruR X (λx H Q=> ∃k,Vb X.K x H k/\Q k H):=by
 intro pins s σ H x v Q I d h;obtain⟨k,e,q⟩:=h;have w:=BF;have hs:=ď
 cases x with
 |non=>
  cases d;have a:=e;subst a;exact truthy_none ⟨H,I,q⟩
 |bl b=>
  cases d;have a:=e;subst a;exact Ć ⟨H,I,q⟩
 |int i=>
  obtain⟨t,rfl⟩:=d;have a:k=_:=e;subst a;exact PySem.P.truthy_int ⟨H,I,q⟩
 |str y=>
  obtain⟨t,rfl⟩:=d;obtain⟨u,a⟩:y.length<=sizeLine/\k=_:=e;subst a;exact PySem.P.truthy_str #[0] ⟨H,I.tok _,q⟩
 |byt y=>
  obtain⟨t,rfl⟩:=d;obtain⟨u,a⟩:y.size<=sizeLine/\k=_:=e;subst a;exact PySem.W.truthy_bytes #[0] ⟨H,I.tok _,q⟩
 |ref p=>
  cases d;have a:_\/_\/ ∃kvs,H p=some (.dK kvs)/\k= !kvs.isEmpty:=e;rcases a with⟨xs,hx,a⟩|⟨xs,hx,a⟩|⟨kvs,hx,a⟩
  .subst a;obtain⟨its,r,j,n⟩:=I.list hx;have c:=r.length;exact wpAny_truthy_list j.isList (by simp only[sA];lia) ⟨H,I.tok _,by rw[EK r];exact q⟩
  .subst a;obtain⟨its,r,j,n⟩:=I.tuple hx;have c:=r.length;exact truthy_tuple j (by simp only[sA];lia) ⟨H,I.tok _,by rw[EK r];exact q⟩
  .subst a;obtain⟨n,o,vs,r,m⟩:kvs.length<=sizeLine/\_=false/\ ∃vs,KV kvs vs/\s.heap.DictOf _ p vs:=I.hok p _ hx;have c:kvs.length=vs.length:=Paired.length r;exact wpAny_truthy_dict o m #[0] ⟨H,I.tok _,by rw[RX r];exact q⟩
 |_=>exact e.elim
def Ed(c:PE X a ta)(j: ∀b,isTrue a X.env b=(do let v <-b;standAt a.pos;holding [v] (truthy v))):
  PT X a (λσ H Q=>ta σ H λx H'=> ∃k,Vb X.K x H' k/\Q k H'):=by
 intro pins s σ H Q I h;exact isTrue_plain (jD (c pins s σ H _ I h) λv i ⟨x,H1,I1,e,d⟩=>Vc pins i σ H1 x v Q I1 e d) (j _)
def RY:OpR X (binaryOp .Add) (λx y H Q=> ∃i j,x=.str i/\y=.str j/\i.length+j.length<=sizeLine/\Q (.str (i++j)) H):=by intro pins s σ H x y v u Q I c a h;obtain⟨i,j,rfl,rfl,b,q⟩:=h;obtain⟨t,rfl⟩:=c;obtain⟨t',rfl⟩:=a;exact add_str (λt' tk=>⟨.str _,H,I.tok _,⟨_,rfl⟩,q⟩) b
def vals1{x:V}(r:Vals [x] us): ∃u,us=[u]/\RelV x u:=by
 cases r with
 |cons r1 r2=>cases r2;exact⟨_,rfl,r1⟩
def vals2{x y:V}(r:Vals [x,y] us): ∃u a,us=[u,a]/\RelV x u/\RelV y a:=by
 cases r with
 |cons r1 r2=>
  cases r2 with
  |cons r3 r4=>cases r4;exact⟨_,_,rfl,r1,r3⟩
end
structure ObjM(h:Heap)(x dx C:Addr)(mA:L1):Prop where
 obj:h.get? x=some (PySem.W.instObj C dx)
 ns:h.Ns1 dx mA
 ne:dx≠x
def ZZ{h:Heap}{dx:Addr}{mA:L1}(n:h.Ns1 dx mA): ∃c,h.get? dx=some c/\ ∀name,PySem.W.lookIn name c=some (mA name):=by
 obtain⟨o,es,ep,i,m,k,_,d⟩:=n;refine⟨o,i,λname=>?_⟩;have e:=d name;unfold nsFind findBy at e;rw[<-Array.find?_toList]at e;unfold PySem.W.lookIn;rw[m];dsimp only;split
 .rename_i y q;rw[q]at e;exact congrArg some e
 .rename_i q;rw[q]at e;have a:es.toList.any (·.refKey)=false:=by rw[þ];intro y p;obtain⟨z,t,b⟩:=k y (Array.mem_toList_iff.mp p);simp[DictEntry.refKey,b]
  have j: ¬es.toList.any (·.refKey)=true:=by rw[a];exact xF0
  rw[iN j];exact congrArg some e
def ObjM.look{h:Heap}{x dx:Addr}{mA:L1}(I:ObjM h x dx C mA): ∃a,PySem.W.InstAt h x (PySem.W.instObj C dx) C (some a)/\ ∀name,PySem.W.lookIn name a=some (mA name):=
 let ⟨a,b,c⟩:=ZZ I.ns
 ⟨a,⟨I.obj,rfl,rfl,b⟩,c⟩
section
variable{prog:ň}{w:World}{A:Ň}{E:VP}{s:Ņ}{K:U0}{x dx C f:Addr}{mA:L1}{name:Str}{v:ņ}
def Lh{expr:Bool}{Q:VP}(X:K.In s.heap)(I:ObjM s.heap x dx C mA)(a:PySem.W.plainGet K C name=true)(b:PySem.W.hasDictIn K C=true)
  (ha:PySem.W.findIn K (.ref C) name=some none) (hv:mA name=some v) (hv':PySem.W.handedIn v=true) (h:Q v {s with toks:=s.toks+1}):
  wpAny (model prog w) A (getAttr (.ref x) name expr) Q E s:=by
 obtain⟨d,J,c⟩:=I.look;exact PySem.W.get_value X J (PySem.W.plainGet_of a).1 (PySem.W.findObj_own b ha rfl (by rw[c,hv])) hv' h
def Ee{c:Sem Bool}{Q:ņ×List ņ->Ņ->Prop}(X:K.In s.heap)(I:ObjM s.heap x dx C mA)(a:PySem.W.plainGet K C name=true)
  (hf:PySem.W.findIn K (.ref C) name=some (some (.ref f))) (ht:PySem.W.isFn K (.ref f)=true) (hv:mA name=none) (h:Q (.ref f,[.ref x]) s):
  wpAny (model prog w) A (getMethod (.ref x) name c) Q E s:=by
 obtain⟨b,J,d⟩:=I.look;exact PySem.W.method_fn X J (PySem.W.plainGet_of a).1 (PySem.W.plainGet_of a).2 hf (beq_iff_eq.mp ht) (by show(PySem.W.lookIn name b).map _=some false;rw[d,hv];rfl) h
theorem Li{k:L0}(X:K.In s.heap)(I:ObjM s.heap x dx C mA)
  (hs:PySem.W.findIn K (.ref C) "__setattr__"=some (some (.builtin "object.__setattr__"))) (hp:PySem.W.plainOver K C=true) (ht:PySem.W.takerIn K C name=some none) (hh:PySem.W.hasDictIn K C=true)
  (hw:PySem.Within mA k) (hsz:k.length<=sizeLine)
  (h: ∀h',ObjM h' x dx C (λy=>if y=name then some v else mA y)->Heap.SameBut dx s.heap h'->Q () {s with heap:=h',toks:=s.toks+2}):
  wpAny (model prog w) A (setAttr (.ref x) name v) Q E s:=by
 obtain⟨q,J,z⟩:=I.look;refine PySem.W.set_plain X J hs (PySem.W.osa_open X J hp ht λb=>?_);obtain⟨r,n,j⟩:=PySem.W.any_some hh;have m:=I.obj;refine wB (wP (wB (wB (wpAny_loadPart m (wB (PySem.W.Looks.here (PySem.W.looks_clsIn X n) ?_))))));rw[j];refine wP (wB (wP (wB ?_)));refine wpAny_nsSet1 I.ns λh' a c=>?_;obtain⟨u,o,p,e,i,d⟩:=a.count (PySem.Within.cons name v hw);refine wB (wpAny_lookBehind e (by rw[i];exact pastItsLine_dict (í d (by rw[lC];lia))) ?_);exact wP (h _ ⟨(c.2 _ (Ne.symm I.ne)).trans I.obj,a,I.ne⟩ c)
def Ef{R:Result->Ņ->Prop}{vs:B0}{b:List (Str×ņ)}(X:K.In s.heap)(c:PySem.W.makesIn K C=true)
  (hi:PySem.W.findIn K (.ref C) "__init__"=some (some (.ref f))) (hf:PySem.W.typeIn K (.ref f)=some (.type "function"))
  (h:codeAny (model prog w) (A.under (.builtin "type.__call__" ⟨.ref C::vs,b⟩)) (.call (.ref f) ⟨.ref (s.heap.objs.size+1)::vs,b⟩) (PySem.W.InitBack (s.heap.objs.size+1) R)
   {s with heap:=(s.heap.push PySem.W.emptyDict).push (PySem.W.instObj C s.heap.objs.size)}):
  codeAny (model prog w) A (.call (.ref C) ⟨vs,b⟩) R s:=by
 exact PySem.W.make_core (PySem.W.makes_of X c) (PySem.W.looks_findIn X hi) (λa=>PySem.W.bind_fn X a hf) (.inl rfl) h
end
def tF(f:Str)(v:V):List (Str×V)->List (Str×V)
 |[]=>[(f,v)]
 |(g,x)::r=>if g=f then(g,v)::r else(g,x)::tF f v r
theorem CU(f g:Str)(v:V): ∀fs:List (Str×V),(tF f v fs).lookup g=if g=f then some v else fs.lookup g
 |[]=>by
  show List.lookup g [_]=_;by_cases h:g=f
  .have a:_=true:=beq_iff_eq.mpr h;simp only[List.lookup,a,iP h]
  .have a:_=false:=Ģ.mpr h;simp only[List.lookup,a,iN h]
 |(k,x)::r=>by
  have c:=CU f g v r;rw[show tF f v _=(if k=f then _::r else _::tF f v r)from rfl];by_cases b:k=f
  .rw[iP b];by_cases h:g=k
   .have a:_=true:=beq_iff_eq.mpr h;simp only[List.lookup,a,iP (h.trans b)]
   .have a:_=false:=Ģ.mpr h;simp only[List.lookup,a,iN (λe:g=f=>h (e.trans b.symm))]
  .rw[iN b];by_cases h:g=k
   .have a:_=true:=beq_iff_eq.mpr h;simp only[List.lookup,a,iN (λe:g=f=>b (h.symm.trans e))]
   .have a:_=false:=Ģ.mpr h;simp only[List.lookup,a];exact c
theorem BG(f:Str)(v:V): ∀fs:List (Str×V),f∈(tF f v fs).map (·.1)/\ ∀g,g∈fs.map (·.1)->g∈(tF f v fs).map (·.1)
 |[]=>⟨by simp[tF],λg h=>by simp at h⟩
 |(k,x)::r=>by
  obtain⟨c,b⟩:=BG f v r;rw[show tF f v _=(if k=f then _::r else _::tF f v r)from rfl];by_cases a:k=f
  .rw[iP a];subst a;exact⟨by simp,λg h=>by simpa using h⟩
  .rw[iN a];refine⟨?_,λg h=>?_⟩
   .rw[è];exact mO _ c
   .rw[è]at h ⊢;rcases mC.mp h with e|e
    .exact mC.mpr (.inl e)
    .exact mO _ (b g e)
theorem CV(f:Str)(v:V): ∀fs:List (Str×V),(tF f v fs).length<=fs.length+1
 |[]=>by simp[tF]
 |(k,x)::r=>by
  have b:=CV f v r;rw[show tF f v _=(if k=f then _::r else _::tF f v r)from rfl];by_cases a:k=f
  .rw[iP a,lC,lC];lia
  .rw[iN a,lC,lC];lia
def RelO.some_of{o:Option ņ}(r:RelO (some v) o): ∃u,o=some u/\RelV v u:=by
 cases o with
 |none=>exact r.elim
 |some u=>exact⟨u,rfl,r⟩
def RelO.none_of{o:Option ņ}(r:RelO none o):o=none:=by
 cases o with
 |none=>rfl
 |some u=>exact r.elim
theorem Aa{u:ņ}(r:RelV v u):PySem.W.handedIn u=true:=by
 cases v with
 |non=>cases r;rfl
 |bl b=>cases r;rfl
 |int i=>obtain⟨t,e⟩:=r;cases e;rfl
 |str x=>obtain⟨t,e⟩:=r;cases e;rfl
 |byt b=>obtain⟨t,e⟩:=r;cases e;rfl
 |flt b=>obtain⟨t,e⟩:=r;cases e;rfl
 |ref a=>cases r;rfl
 |ty n=>cases r;rfl
section
variable{P:ň}{w:World}{H:Hp}{h:Heap}{a C dx:Addr}{fs:List (Str×V)}
def Lj(b:HOk P w H h)(e:H a=some (.ins C dx fs)): ∃mA,ObjM h a dx C mA/\(∀f,RelO (fs.lookup f) (mA f))/\PySem.Within mA (fs.map (·.1))/\fs.length<=1000/\H dx=some (.own a):=by
 obtain⟨d,z,ne,ob,mA,n,r,q⟩:=(b a _ e)
 exact⟨mA,⟨ob,n,ne⟩,r,q,z,d⟩
end
structure Cls(K:U0)(C:Addr):Prop where
 pg:PySem.W.plainGet K C Str.empty=true
 hd:PySem.W.hasDictIn K C=true
 po:PySem.W.plainOver K C=true
 sa:PySem.W.findIn K (.ref C) "__setattr__"=some (some (.builtin "object.__setattr__"))
def Cls.get{K:U0}(c:Cls K C)(f:Str):PySem.W.plainGet K C f=true:=c.pg
def NoAttr(K:U0)(C:Addr)(f:Str):Prop:=PySem.W.findIn K (.ref C) f=some none
theorem NoAttr.taker{K:U0}{f:Str}(n:NoAttr K C f):PySem.W.takerIn K C f=some none:=by unfold PySem.W.takerIn;rw[show PySem.W.findIn K _ f=some none from n];rfl
structure Meth(K:U0)(C:Addr)(m:Str)(f:Addr):Prop where
 at_:PySem.W.findIn K (.ref C) m=some (some (.ref f))
 fn:PySem.W.isFn K (.ref f)=true
 kp:PySem.W.keepIn K (.ref f)=true
section
variable{X:Cx}{pins:N0}{σ:St}{H:Hp}{s:Ņ}{a C dx:Addr}{fs:List (Str×V)}{f:Str}{A:Ň}{E:VP}
theorem RZ{y:V}{u:ņ}(I:Inv X pins σ H s)(e:H a=some (.ins C dx fs))(c:Cls X.K C)(n:NoAttr X.K C f)(G:fs.length<1000)(p:RelV y u)
  (h: ∀s',Inv X pins σ (xG H a (.ins C dx (tF f y fs))) s'->Q () s'):wpAny (model X.prog X.w) A (setAttr (.ref a) f u) Q E s:=by
 obtain⟨mA,O,r,i,_,j⟩:=Lj I.hok e;have B:(fs.map (·.1)).length<=sizeLine:=by rw[lM,ď];lia
 refine Li I.kIn O c.sa c.po n.taker c.hd i B λh' d D=>h _ ?_;have v: ∃o,h'.get? dx=some o:=let ⟨o,_,_,m,_⟩:=d.ns;⟨o,m⟩;refine I.write (by rw[e];exact True.intro) (.inr j) (λb q k z=>(D.2 b k).trans z) v ?_;refine⟨by rw[zF O.ne];exact j,?_,O.ne,d.obj,_,d.ns,λg=>?_,λg F=>?_⟩
 .have:=CV f y fs;lia
 .show RelO _ _;rw[CU];by_cases q:g=f
  .rw[iP q,iP q];exact p
  .rw[iN q,iN q];exact r g
 .by_cases q:g=f
  .rw[q];exact(BG f y fs).1
  .refine(BG f y fs).2 g (i g λz=>F ?_);show(if g=f then some u else mA g)=none;rw[iN q];exact z
def Inv.made(I:Inv X pins σ H s):Inv X pins σ (xG (xG H s.heap.objs.size (.own (s.heap.objs.size+1))) (s.heap.objs.size+1) (.ins C s.heap.objs.size []))
  {s with heap:=(s.heap.push PySem.W.emptyDict).push (PySem.W.instObj C s.heap.objs.size)}:=by
 have e1:(s.heap.push PySem.W.emptyDict).get? s.heap.objs.size=some PySem.W.emptyDict:=ä s.heap rfl;have e2:=by have:=ä (s.heap.push PySem.W.emptyDict) (o:=PySem.W.instObj C s.heap.objs.size) rfl;rwa [ė]at this
 have a:(s.heap.push PySem.W.emptyDict).Ns s.heap.objs.size (λ_=>none):=⟨_,#[],_,e1,rfl,(λe c=>absurd c (by simp)),λ_=>rfl⟩
 have I1:=I.laid (o:=.own (s.heap.objs.size+1)) (t':=s.toks) (λb u q=>hP0 _ q) (à _) ⟨_,e1⟩;refine I1.laid (λb u q=>hP0 _ q) (Nat.le_of_eq (ė _ _)) ?_;have ne:s.heap.objs.size≠s.heap.objs.size+1:=ã (ģ _);refine⟨by rw[zF ne,zV],zero_le _,ne,e2,λ_=>none,(Heap.Ns1.of_empty a).at λo q=>hP0 _ q,λ_=>True.intro,λy d=>absurd rfl d⟩
def Lk{prog:ň}{w:World}{a:Env}{e:Expr}{f:Str}{s:Ņ}{Q:VP}(c:attributeBase e f a (eval e a)=eval e a)
  (h:wpAny (model prog w) A (eval e a) (λo b=>wpAny (model prog w) A (getAttr o f true) Q E b) E s):wpAny (model prog w) A (eval (.Attribute e f pos) a) Q E s:=
 Attribute_any_ h (by rw[arm_eval_Attribute,c])
end
def G9(K:U0)(ta tv:TE)(f:Str):TS:=λD σ H=>tv σ H λy H1=>ta σ H1 λx b=> ∃a C dx fs,x=.ref a/\b a=some (.ins C dx fs)/\Cls K C/\NoAttr K C f/\fs.length<1000/\
 D.nx σ (xG b a (.ins C dx (tF f y fs)))
section
variable{X:Cx}{o value:Expr}{f:Str}{pos pos':Pos}{ta tv:TE}
def Vd(p:PE X o ta)(b:PE X value tv)(hs:swapsWith value (some (.Attribute o f pos')) pos.line X.env=pure false):PS X (.Assign [.Attribute o f pos'] value pos) (G9 X.K ta tv f):=by intro pins s σ H D I h;refine plainObj_wpAny_Assign_Attribute (jD (b pins s σ H _ I h) λu v ⟨y,H1,I1,d,q⟩=>jD (p pins v σ H1 _ I1 q) λj A ⟨x,w,e,i,a,C,dx,fs,ex,k,c,n,l,r⟩=>?_) hs;subst ex;obtain rfl:j=Value.ref a:=i;exact RZ e k c n l d λz m=>⟨σ,_,m,r⟩
end
section
variable{H:Hp}
inductive vT(K:U0)(H:Hp):V->ņ->Prop where
 |non:vT K H .non (.type "NoneType")
 |bl (x:Bool):vT K H (.bl x) (.type "bool")
 |int (i:Int):vT K H (.int i) (.type "int")
 |str (x:Str):vT K H (.str x) (.type "str")
 |flt (x:UInt64):vT K H (.flt x) (.type "float")
 |lst {a:Addr} {xs:List V} (e:H a=some (.lst xs)):vT K H (.ref a) (.type "list")
 |frz {a:Addr} {o:Obj} {xs:List V} (e:H a=some (.frz o (.lst xs))):vT K H (.ref a) (.type "list")
 |tup {a:Addr} {xs:List V} (e:H a=some (.tup xs)):vT K H (.ref a) (.type "tuple")
 |dK {a:Addr} {kvs:List (Key×V)} (e:H a=some (.dK kvs)):vT K H (.ref a) (.type "dict")
 |dT {a:Addr} {kvs:List (List Key×V)} (e:H a=some (.dT kvs)):vT K H (.ref a) (.type "dict")
 |ins {a C dx:Addr} {fs:List (Str×V)} (e:H a=some (.ins C dx fs)) (cl:Cls K C) (ha:PySem.W.findIn K (.ref C) "__class__"=some (some (.builtin "object.__class__")))
   (hn:PySem.W.specialIn K (.builtin "object.__class__") "__get__"=some (some (.builtin "getset_descriptor.__get__"))) (htk:PySem.W.takesIn K (.builtin "object.__class__")=some true)
   (hm:PySem.W.mroIn K C (.type "object")=some true):vT K H (.ref a) (.ref C)
end
structure Room(k:Nat)(A:Ň):Prop where
 hd:A.handled=none
 dp:A.depth+3 * k+5<recursionLimit
 un:A.units+16 * k+200<cLine
theorem Room.mono{j k:Nat}{A:Ň}(r:Room k A)(h:j<=k):Room j A:=⟨r.hd,by have:=r.dp;lia,by have:=r.un;lia⟩
theorem Room.deeper{k:Nat}{A:Ň}(r:Room (k+1) A)(a:Env):Room k (A.deeper a):=
 ⟨r.hd,by have:=r.dp;show A.depth+1+3 * k+5<_;lia,by have:=r.un;show A.units+3+16 * k+200<_;lia⟩
theorem Room.in1{k:Nat}{A:Ň}(r:Room (k+1) A):Room k A.in1:=
 ⟨r.hd,by have:=r.dp;show A.depth+3 * k+5<_;lia,by have:=r.un;show A.units+1+16 * k+200<_;lia⟩
def SC{A:Ň}{a:List (Str×ņ)}:(A.under (.builtin "type.__call__" ⟨.ref C::us,a⟩)).depth=A.depth+1:=by
 first |rfl|simp[Code.weight]
def SD{A:Ň}{a:List (Str×ņ)}:(A.under (.builtin "type.__call__" ⟨.ref C::us,a⟩)).units=A.units+1:=by
 first |rfl|simp[Code.cUnits]
theorem Room.make{k:Nat}{A:Ň}(r:Room (k+1) A)(C:Addr)(us:B0)(a:List (Str×ņ)):Room k (A.under (.builtin "type.__call__" ⟨.ref C::us,a⟩)):=
 ⟨r.hd,by have:=r.dp;rw[SC];lia,by have:=r.un;rw[SD];lia⟩
def Room.depth{k:Nat}{A:Ň}(r:Room k A):A.depth<recursionLimit:=by have:=r.dp;omega
def Room.units{k:Nat}{A:Ň}(r:Room k A):A.units+64<cLine:=by have:=r.un;omega
def H9:TA:=λ_ H Q=>Q [] H
def Si(ta:TE)(tr:TA):TA:=λσ H Q=>ta σ H λx H1=>tr σ H1 λxs a=>Q (x::xs) a
section
variable{X:Cx}{e:Expr}{es:R0}{te:TE}{t:TA}{pos:Pos}
def KU:PA X [] H9:=λ_ _ _ _ H Q I h=>Calls.spliced_nil ⟨[],H,I,.nil,h⟩
abbrev q9(X:Cx)(e:Expr)(es:List Expr):Prop:=starEach (e::es) X.env=(false,eval e X.env)::starEach es X.env
def DW(a:PE X e te)(n:PA X es t)(hs:q9 X e es:=by rfl):PA X (e::es) (Si te t):=by intro pos pins s σ H Q I h;rw[hs];show wpAny _ _ _ _ _ s;refine Calls.spliced_cons (jD (a pins s σ H _ I h) λu m ⟨x,H1,I1,c,b⟩=>?_);exact jD (n pos pins m σ H1 _ I1 b) λus o ⟨xs,j,k,i,d⟩=>⟨_,j,k,.cons c i,d⟩
def tTup(t:TA):TE:=λσ H Q=>t σ H λxs H1=>xs.length<=sizeLine/\ ∀p,H1 p=none->Q (.ref p) (xG H1 p (.tup xs))
def tLst(t:TA):TE:=λσ H Q=>t σ H λxs H1=>xs.length<=sizeLine/\ ∀p,H1 p=none->Q (.ref p) (xG H1 p (.lst xs))
def Ve{x1}(h:PA X es t):PE X (.Tuple es x1 pos) (tTup t):=by intro pins s σ H Q I a;refine wpAny_Tuple_spliced (jD (h pos pins s σ H _ I a) λus c ⟨xs,H1,I1,r,z,q⟩=>⟨by rw[<-r.length];exact z,?_⟩);have d:=I1.hok.fresh (à _);refine⟨.ref c.heap.objs.size,_,I1.laid (λb u e=>hP0 _ e) (à _) ?_,rfl,q _ d⟩;exact⟨z,us,r,⟨_,ä _ rfl,rfl,_,rfl⟩⟩
def Vf(h:PA X es t):PE X (.List es pos) (tLst t):=by intro pins s σ H Q I a;refine wpAny_List_spliced (jD (h pos pins s σ H _ I a) λus c ⟨xs,H1,I1,r,z,q⟩=>⟨by rw[<-r.length];exact z,?_⟩);have d:=I1.hok.fresh (à _);refine⟨.ref c.heap.objs.size,_,I1.laid (λb u e=>hP0 _ e) (à _) ?_,rfl,q _ d⟩;exact⟨z,us,0,r,ä _ rfl⟩
end
abbrev Sp:=List V->Hp->VK->XK->Prop
abbrev VX:=List Env->Hp->Shared->XK->VP
variable{CX:VX}
structure Env0(P:ň)(w:World)(K:U0)(mg:L1)(base:Heap)(A:Ň)(outer:List Env)(s:Ņ)(H:Hp):Prop where
 frames:A.frames=some outer
 mod:Mod K mg base
 bs: ∀b o,base.get? b=some o->s.heap.get? b=some o/\H b=none
 bsz:base.objs.size<=s.heap.objs.size
 funs:s.heap.FunFrames base outer
 frf: ∀b∈ZU outer,H b=none
 hok:HOk P w H s.heap
 bare:AllBare s.gens
def CE(a:List Env)(P:ň)(w:World)(H:Hp)(s:Ņ)(Q:VK)(u:ņ)(s':Ņ):Prop:=
 ∃v H',s'.os=s.os/\AllBare s'.gens/\Un (ZU a) [] H H' s.heap s'.heap/\HOk P w H' s'.heap/\RelV v u/\Q v H'
def CR(CX:VX)(a:List Env)(P:ň)(w:World)(H:Hp)(s:Ņ)(Q:VK)(E:XK)(r:Result)(s':Ņ):Prop:=
 match r with
 |.ok (.ret u)=>CE a P w H s Q u s'
 |.ok _=>False
 |.error e=>CX a H s E e s'
structure FnOk(P:ň)(w:World)(K:U0)(mg:L1)(base:Heap)(CX:VX)(k:Nat)(f:Addr)(fd:FuncData)(ps:L0)(sp:Sp):Prop where
 len: ∀vs H Q E,sp vs H Q E->vs.length=ps.length
 run: ∀(A:Ň)(outer:List Env)(s:Ņ)(H:Hp)(args:Args)(us:B0)(vs:List V)(Q:VK)(E:XK),Room k A->Env0 P w K mg base A outer s H->BindsTo s fd args (ps.zip us)->Vals vs us->sp vs H Q E->
  codeAny (model P w) A (.call (.ref f) args) (CR CX outer P w H s Q E) s
def FnOk.mono{P:ň}{w:World}{K:U0}{mg:L1}{base:Heap}{j k:Nat}{f:Addr}{fd:FuncData}{sp:Sp}(F:FnOk P w K mg base CX j f fd ps sp)(h:j<=k):
  FnOk P w K mg base CX k f fd ps sp:=⟨F.len,λA a s H b us vs Q E c=>F.run A a s H b us vs Q E (c.mono h)⟩
def FnOk.imp{P:ň}{w:World}{K:U0}{mg:L1}{base:Heap}{k:Nat}{f:Addr}{fd:FuncData}{sp b:Sp}(F:FnOk P w K mg base CX k f fd ps sp)
  (h: ∀vs H Q E,b vs H Q E->sp vs H Q E):FnOk P w K mg base CX k f fd ps b:=
 ⟨λvs H Q E q=>F.len vs H Q E (h _ _ _ _ q),λA a s H c us vs Q E i j d e hs=>F.run A a s H c us vs Q E i j d e (h _ _ _ _ hs)⟩
def Env0.make{P:ň}{w:World}{K:U0}{mg:L1}{base:Heap}{A:Ň}{a:List Env}{s:Ņ}(e:Env0 P w K mg base A a s H)(C:Addr)(us:B0)(b:List (Str×ņ)):
  Env0 P w K mg base (A.under (.builtin "type.__call__" ⟨.ref C::us,b⟩)) a s H:=⟨by first |exact e.frames|(simpa [Around.under,Code.envs,Code.isFrame,pushEnvs]using e.frames),e.mod,e.bs,e.bsz,e.funs,e.frf,e.hok,e.bare⟩
def Env0.in1{P:ň}{w:World}{K:U0}{mg:L1}{base:Heap}{A:Ň}{a:List Env}{s:Ņ}(e:Env0 P w K mg base A a s H):
  Env0 P w K mg base A.in1 a s H:=⟨e.frames,e.mod,e.bs,e.bsz,e.funs,e.frf,e.hok,e.bare⟩
section
variable{X:Cx}{pins:N0}{σ:St}{H:Hp}{s s':Ņ}
def Inv.env0(I:Inv X pins σ H s):Env0 X.prog X.w X.K X.mg X.base X.A X.stack s H:=
 ⟨I.ok.frames,I.ok.mod,I.bs,í I.ok.bsz I.sz,I.stack,I.stkFree,I.hok,I.bare⟩
def Inv.after{Q:VK}{u:ņ}(I:Inv X pins σ H s)(h:CE X.stack X.prog X.w H s Q u s'):EP X pins σ Q u s':=by obtain⟨v,H',i,a,un,e,r,q⟩:=h;obtain⟨j,g,d,t,c⟩:=s';obtain rfl:c=s.os:=i;exact⟨v,H',I.call un e a (λb z=>absurd z (by simp)),r,q⟩
end
def J2(sp:Sp)(dvs:List V)(E:XK)(t:TA):TE:=λσ H Q=>t σ H λvs H1=>sp (vs++dvs) H1 Q E
def Sj(C:Addr)(sp:Sp)(dvs:List V)(E:XK)(t:TA):TE:=λσ H Q=>t σ H λvs H1=> ∀x dx,H1 x=none->H1 dx=none->dx≠x->
 sp (.ref x::(vs++dvs)) (xG (xG H1 dx (.own x)) x (.ins C dx [])) (λv a=>v=.non/\Q (.ref x) a) E
def Binds(K:U0)(fd:FuncData)(ps:L0)(ds:B0):Prop:=
 ∀(s:Ņ)(us:B0),K.In s.heap->(us++ds).length=ps.length->BindsTo s fd ⟨us,[]⟩ (ps.zip (us++ds))
def Binds.all{K:U0}{fd:FuncData}(h: ∀us:List ņ,us.length=ps.length->bindArgs fd ⟨us,[]⟩=pure (ps.zip us)):Binds K fd ps []:=λs us _ a=>by rw[aN]at a ⊢;exact .of_eq (h us a)
def EL(CX:VX)(X:Cx)(E:XK):Prop:= ∀(pins:N0)(σ:St)(H:Hp)(s:Ņ)(e:ņ)(s':Ņ),Inv X pins σ H s->CX X.stack H s E e s'->X.xe e s'
section
variable{X:Cx}{CX:VX}{k:Nat}{f C:Addr}{fd:FuncData}{ps:L0}{sp:Sp}{dvs:List V}{ds:B0}{E:XK}{x:Str}{p pos:Pos}{e:Expr}{es:R0}{t:TA}
def Eg{s:Ņ}{Q:VK}{vs:List V}(F:FnOk X.prog X.w X.K X.mg X.base CX k f fd ps sp)(c:Room k X.A)(d:Binds X.K fd ps ds)(j:Vals dvs ds)(i:EL CX X E)
  (I:Inv X pins σ H s) (r:Vals vs us) (h:sp (vs++dvs) H Q E):wpAny (model X.prog X.w) X.A (call (.ref f) us) (EP X pins σ Q) X.xe s:=by
 have b:Vals _ _:=r.append j;have m:(us++ds).length=ps.length:=by rw[<-b.length];exact F.len _ _ _ _ h
 refine wpAny_call (Į (F.run X.A X.stack s H ⟨us,[]⟩ _ _ Q E c I.env0 (d s us I.kIn m) b h) λr s' a=>?_)
 cases r with
 |error e=>exact i pins σ H s e s' I a
 |ok fl=>
  cases fl with
  |ret u=>exact I.after a
  |next=>exact False.elim a
  |brk=>exact False.elim a
  |cont=>exact False.elim a
abbrev Q2(X:Cx)(p:Pos)(es:List Expr):Prop:=(backTo p (starEach es X.env)).any (·.1)=false
def Ll(F:FnOk X.prog X.w X.K X.mg X.base CX k f fd ps sp)(j:Room k X.A)(m:Gl X x)(a:X.mg x=some (.ref f))(i:PySem.W.keepIn X.K (.ref f)=true)(b:Binds X.K fd ps ds)(c:Vals dvs ds)(d:EL CX X E)
  (ha:PA X (e::es) t) (hdb:(x==("__debug__":Str))=false:=by decide) (he:q9 X e es:=by rfl) (hpl:Q2 X pos es:=by rfl):
  PE X (.Call (.Name x p) (e::es) [] pos) (J2 sp dvs E t):=by
 intro pins s σ H Q I h;refine wpAny_Call_Name_kw (KQ I m a ?_ hdb);refine PySem.W.callWith_K I.ok.mod.kin i (jD (ha pos pins s σ H _ I h) λus n ⟨vs,H1,I1,r,q⟩=>⟨I1.kIn,?_⟩) he hpl;exact Eg F j b c d I1 r q
structure Mk(K:U0)(C f:Addr):Prop where
 makes:PySem.W.makesIn K C=true
 init:PySem.W.findIn K (.ref C) "__init__"=some (some (.ref f))
 fn:PySem.W.isFn K (.ref f)=true
 kp:PySem.W.keepIn K (.ref C)=true
def Eh{s:Ņ}{Q:VK}{vs:List V}(M:Mk X.K C f)(F:FnOk X.prog X.w X.K X.mg X.base CX k f fd ps sp)(z:Room (k+1) X.A)(n:Binds X.K fd ps ds)(q:Vals dvs ds)
  (hx:EL CX X E) (I:Inv X pins σ H s) (r:Vals vs us)
  (h: ∀x dx,H x=none->H dx=none->dx≠x->sp (.ref x::(vs++dvs)) (xG (xG H dx (.own x)) x (.ins C dx [])) (λv p=>v=.non/\Q (.ref x) p) E):
  wpAny (model X.prog X.w) X.A (call (.ref C) us) (EP X pins σ Q) X.xe s:=by
 have c:=h _ s.heap.objs.size (I.hok.fresh (le_succ _)) (I.hok.fresh (à _)) (ã (ģ _));have b:=Inv.made (C:=C) I;have d:Vals (V.ref (s.heap.objs.size+1)::_) _:=.cons rfl (r.append q);have y:=by have e:=d.length;rw[F.len _ _ _ _ c]at e;exact e.symm
 refine wpAny_call (Ef I.kIn M.makes M.init (beq_iff_eq.mp M.fn) (Į (F.run _ X.stack _ _ ⟨_,[]⟩ _ _ _ E (z.make C us [])
  (b.env0.make C us []) (n _ _ b.kIn y) d c) λr s' a=>?_))
 cases r with
 |error e=>exact hx pins σ _ _ e s' b a
 |ok fl=>
  cases fl with
  |ret u=>
   obtain⟨v,H',i,m,o,j⟩:=b.after a;subst o;exact⟨m,⟨V.ref _,H',i,rfl,j⟩⟩
  |next=>exact False.elim a
  |brk=>exact False.elim a
  |cont=>exact False.elim a
def Lm(M:Mk X.K C f)(F:FnOk X.prog X.w X.K X.mg X.base CX k f fd ps sp)(i:Room (k+1) X.A)(j:Gl X x)(a:X.mg x=some (.ref C))(b:Binds X.K fd ps ds)(c:Vals dvs ds)(d:EL CX X E)
  (ha:PA X (e::es) t) (hdb:(x==("__debug__":Str))=false:=by decide) (he:q9 X e es:=by rfl) (hpl:Q2 X pos es:=by rfl):
  PE X (.Call (.Name x p) (e::es) [] pos) (Sj C sp dvs E t):=by
 intro pins s σ H Q I h;refine wpAny_Call_Name_kw (KQ I j a ?_ hdb);refine PySem.W.callWith_K I.ok.mod.kin M.kp (jD (ha pos pins s σ H _ I h) λus m ⟨vs,H1,I1,r,q⟩=>⟨I1.kIn,?_⟩) he hpl;exact Eh M F i b c d I1 r q
end
structure FnScope(N P:L0)(sc:Scope):Prop where
 kind:sc.kind=.function
 co:sc.isCoroutine=false
 gen:sc.isGenerator=false
 nd:N.Nodup
 pre:N.take P.length=P
 par: ∀x∈P,sc.names.lookup x=some .local\/sc.names.lookup x=some .cell
 nofree: ∀y∈sc.names,y.2≠.free
def fsK{N P:L0}{sc:Scope}(h:N.Nodup/\N.take P.length=P/\(∀x∈P,sc.names.lookup x=some .local\/sc.names.lookup x=some .cell)/\∀y∈sc.names,y.2≠.free)(a:sc.kind=.function:=by rfl)(b:sc.isCoroutine=false:=by rfl)(c:sc.isGenerator=false:=by rfl):FnScope N P sc:=⟨a,b,c,h.1,h.2.1,h.2.2.1,h.2.2.2⟩
theorem IY{a:Str->Option NameKind}{x:Str}: ∀{binds:List (Str×ņ)}{m:L1},(∀v,(x,v)∉binds)->bindL a binds m x=m x
 |[],_,_=>rfl
 |(n,v)::r,m,h=>by
  unfold bindL;rw[IY λw hw=>h w (mO _ hw)];split
  .have:x≠n:=by rintro rfl;exact h v mF0
   simp[this]
  .rfl
theorem IZ{a:Str->Option NameKind}{x:Str}: ∀{binds:List (Str×ņ)}{m:L1},(∀v,(x,v)∉binds)->bindC a binds m x=m x
 |[],_,_=>rfl
 |(n,v)::r,m,h=>by
  unfold bindC;rw[IZ λw hw=>h w (mO _ hw)];split
  .rfl
  .have:x≠n:=by rintro rfl;exact h v mF0
   simp[this]
theorem JA{a:Str->Option NameKind}{x:Str}{v:ņ}: ∀{P:L0}{vs:B0}{i:Nat}{m:L1},P.Nodup->P[i]? =some x->vs[i]? =some v->a x=some .local->
  bindL a (P.zip vs) m x=some v
 |[],_,_,_,_,h,_,_=>by simp at h
 |_::_,[],_,_,_,_,h,_=>by simp at h
 |p::P,w::vs,0,m,nd,h1,h2,hk=>by simp at h1 h2;subst h1;subst h2;show bindL a (_::P.zip vs) m p=_;unfold bindL;rw[IY λv b=>(nodup_cons.mp nd).1 (of_mem_zip b).1,iP hk];simp
 |p::P,w::vs,i+1,m,nd,h1,h2,hk=>by show bindL a _ m x=_;unfold bindL;exact JA (nodup_cons.mp nd).2 (by simpa using h1) (by simpa using h2) hk
theorem JB{a:Str->Option NameKind}{x:Str}{v:ņ}: ∀{P:L0}{vs:B0}{i:Nat}{m:L1},P.Nodup->P[i]? =some x->vs[i]? =some v->a x≠some .local->
  bindC a (P.zip vs) m x=some v
 |[],_,_,_,_,h,_,_=>by simp at h
 |_::_,[],_,_,_,_,h,_=>by simp at h
 |p::P,w::vs,0,m,nd,h1,h2,hk=>by simp at h1 h2;subst h1;subst h2;show bindC a (_::P.zip vs) m p=_;unfold bindC;rw[IZ λv b=>(nodup_cons.mp nd).1 (of_mem_zip b).1,iN hk];simp
 |p::P,w::vs,i+1,m,nd,h1,h2,hk=>by show bindC a _ m x=_;unfold bindC;exact JB (nodup_cons.mp nd).2 (by simpa using h1) (by simpa using h2) hk
def start(N:L0)(vs:List V):St:=vs.map some++List.replicate (N.length - vs.length) none
def HU(CX:VX)(P:ň)(w:World)(K:U0)(mg:L1)(base:Heap)(N:L0)(qual:Str)(scope:Scope)(f:Addr)(cd:ņ)(A:Ň)(outer:List Env)(s:Ņ)(H:Hp)(E:XK):Cx where
 prog:=P
 w:=w
 K:=K
 mg:=mg
 base:=base
 A:=A.deeper (envOfC qual scope s.heap.objs.size f cd)
 N:=N
 s₀:=s
 H₀:=H
 env:=envOfC qual scope s.heap.objs.size f cd
 outer:=outer
 stack:=envOfC qual scope s.heap.objs.size f cd::outer
 ex:=[]
 calm:=true
 fn:=λ_=>true
 pn:=[]
 xe:=λe s'=>wpAny (model P w) (A.deeper (envOfC qual scope s.heap.objs.size f cd)) (leaving (envOfC qual scope s.heap.objs.size f cd) e) (λ_ s''=>CX outer H s E e s'') (λe' s''=>CX outer H s E e' s'') s'
def OH{sc:Scope}{n:Nat}{x:Str}(h:sc.names.lookup x=some .cell): ∃c,(cellsFrom n sc.names []).lookup x=some c:=by have q:=PySem.W.cellsFrom_some sc.names n [] (.inl h);exact ü.mp q
theorem Ab{P:ň}{w:World}{K:U0}{mg:L1}{base:Heap}{N:L0}{qual:Str}{d:Scope}{f:Addr}{D:ņ}{A:Ň}{j:List Env}{s I:Ņ}{E:XK}{vs:List V}
  (S:FnScope N ps d) (hd:A.handled=none) (e0:Env0 P w K mg base A j s H) (hl:vs.length=ps.length) (r:Vals vs us)
  (x:InCallC s s.heap.objs.size (bindL (envOfC qual d s.heap.objs.size f D).kindOf (ps.zip us) λ_=>none) (cellsFrom (s.heap.objs.size+1) d.names []) (bindC (envOfC qual d s.heap.objs.size f D).kindOf (ps.zip us) λ_=>none) I):
  Inv (HU CX P w K mg base N qual d f D A j s H E) [] (start N vs) H I:=by
 have L:=by have:=congrArg List.length S.pre;rw[lT]at this;omega
 obtain⟨h1,tk,rfl,F⟩:=x.done;have n: ∀b:Addr,b∉(HU CX P w K mg base N qual d f D A j s H E).ex:=λb z=>absurd (show b∈([]:K0)from z) (by simp)
 refine⟨⟨e0.mod,S.kind,rfl,rfl,à _,λy z c h1 m=>?_,λy o=>?_,λy c _ h=>?_,λ_=>hd,Around.frames_deeper e0.frames,.inr ⟨rfl,rfl⟩,λb z=>absurd z (n b),e0.bs,e0.bsz,λb _ _=>n b,λb z=>absurd z (n b),e0.funs,e0.frf⟩,
  rfl,e0.bare,Un.kept F,⟨_,x.toInCall.ns,λi y v h1 m O=>?_⟩,λy c h=>⟨_,x.cell y c h⟩,e0.hok.fresh (à _),λy c h=>?_,λp B=>absurd (show p∈([]:List _)from B) (by simp),e0.hok.kept F,?_⟩
 .exact name_of_addr x.apart (PySem.mem_of_lookup h1) (PySem.mem_of_lookup m)
 .have o:=o;rcases o with o|o
  .exact OH o
  .exact absurd rfl (S.nofree _ (PySem.mem_of_lookup o))
 .exact le_of_lt (x.above y c (PySem.mem_of_lookup h))
 .have hi:i<vs.length:=by
   unfold start at m;by_cases hi:i<vs.length
   .exact hi
   .rw[ð (by simpa using hi)]at m;rw[List.getElem?_replicate]at m;split at m<;>cases m
  have M:vs[i]? =some v:=by
   unfold start at m;rw[ë (by simpa using hi),ò]at m
   cases e:vs[i]? with
   |none=>rw[e]at m;cases m
   |some a=>rw[e]at m;cases m;rfl
  obtain⟨u,G,J⟩:=r.get M;have B:ps[i]? =some y:=by rw[<-S.pre,Ĵ (by omega)];exact h1
  have C:ps.Nodup:=by rw[<-S.pre];exact S.nd.sublist (List.take_sublist _ _)
  refine⟨u,J,?_⟩;rcases S.par y (ô B)with k|k
  .exact .inl ⟨k,JA C B G k⟩
  .obtain⟨c,e⟩:=OH k;refine .inr ⟨.inl k,c,e,?_⟩;have q:=x.cell y c e;rw[JB C B G (by show d.names.lookup y≠_;rw[k];decide)]at q;exact q
 .exact e0.hok.fresh (le_of_lt (x.above y c (PySem.mem_of_lookup h)))
 .unfold start;show _=N.length;rw[lA,lM,đ]
  lia
def J3{P:ň}{w:World}{K:U0}{mg:L1}{base:Heap}{k:Nat}{f:Addr}{name qual:Str}{h:Arguments}{body:List Stmt}{a:Scope}{M kV p L d ct X:ņ}{G Y:Option Addr}
  {osl:Array (Option ņ)} {N ps:L0} {sp:Sp} (lk:K.lookup f=some ⟨X,Y,.func (PySem.W.fnOf name qual h body a M kV p L G d ct),osl⟩) (hcd:PySem.W.codeIn K d qual=true) (S:FnScope N ps a)
  (len: ∀vs H Q E,sp vs H Q E->vs.length=ps.length)
  (hbody: ∀(A:Ň)(c:List Env)(s:Ņ)(H:Hp)(vs:List V)(Q:VK)(E:XK),Room k (A.deeper (envOfC qual a s.heap.objs.size f d))->sp vs H Q E->
   ∃t,PSs (HU CX P w K mg base N qual a f d A c s H E) body t/\t {nx:=λ_ H'=>Q .non H',rt:=Q} (start N vs) H):
  FnOk P w K mg base CX (k+1) f (PySem.W.fnOf name qual h body a M kV p L G d ct) ps sp:=by
 refine⟨len,λA c s H T us vs Q E D m Z r B=>?_⟩;have hl:=len _ _ _ _ B;have KX:=m.mod.kin.keeps λb o e=>(m.bs b o e).1;have F:=m.mod.nolimit.keeps λb o e=>(m.bs b o e).1
 have j: ∀y∈ps.zip us,a.names.lookup y.1=some .local\/(a.names.lookup y.1=some .cell/\((cellsFrom (s.heap.objs.size+1) a.names []).lookup y.1).isSome=true):=λ⟨n,v⟩ hy=>by
  rcases S.par n (of_mem_zip hy).1 with q|q
  .exact .inl q
  .exact .inr ⟨q,PySem.W.cellsFrom_some _ _ _ (.inl q)⟩
 refine codeAny_call_function D.depth (KX _ _ lk) rfl S.co S.gen rfl (PySem.W.codeRec_of KX hcd) (Z _ _ _ _ ?_);refine wpAny_newFunctionEnv_cells S.kind j λaa he O x=>?_;subst he;refine⟨F.keeps x.toInCall.keep,codeAny_func ?_⟩;obtain⟨t,U,hq⟩:=hbody A c s H vs Q E (D.deeper _) B;have I:Inv (HU CX P w K mg base N qual a f d A c s H E) [] _ H O:=Ab S D.hd m hl r x;refine ā (U [] O _ H _ I hq) (λfl s' hs=>?_) λe s' hs=>hs
 have z: ∀{i:St}{H':Hp}{v:V}{u:ņ},Inv (HU CX P w K mg base N qual a f d A c s H E) [] i H' s'->RelV v u->Q v H'->CE c P w H s Q u s':=
  λ{i H' v u} J C q=>⟨v,H',J.os,J.bare,J.base,J.hok,C,q⟩
 cases fl with
 |ret u=>
  obtain⟨v,i,H',J,C,q⟩:=hs;exact z J C q
 |next=>
  obtain⟨i,H',J,q⟩:=hs;exact z (v:=V.non) J rfl q
 |brk=>
  obtain⟨_,_,_,q⟩:=hs;exact False.elim q
 |cont=>
  obtain⟨_,_,_,q⟩:=hs;exact False.elim q
section
variable{X:Cx}{x:Str}{p pos:Pos}{e:Expr}{es:R0}{t:TA}{id T:String}{r:List V->Hp->VK->Prop}
def tCB(r:List V->Hp->VK->Prop)(t:TA):TE:=λσ H Q=>t σ H λvs H1=>r vs H1 Q
def OJ(n:CallR X (.builtin id) r)(o:Gl X x)(d:X.mg x=none)(j:bootBuiltins x=some (.builtin id))(b:PA X (e::es) t)(k:x≠"__name__":=by decide)(a:(x==("__debug__":Str))=false:=by decide)
  (he:q9 X e es:=by rfl) (hpl:Q2 X pos es:=by rfl):PE X (.Call (.Name x p) (e::es) [] pos) (tCB r t):=by
 intro pins s σ H Q I h;refine wpAny_Call_Name_kw (BE I o d j ?_ k a);exact PyProof.Rows.callWith_builtin1 (jD (b pos pins s σ H _ I h) λus m ⟨vs,H1,I1,i,c⟩=>n pins m σ H1 vs us Q I1 i c) he hpl
def rX(n:CallR X (.type T) r)(o:Gl X x)(d:X.mg x=none)(j:bootBuiltins x=some (.type T))(b:PA X (e::es) t)(k:x≠"__name__":=by decide)(a:(x==("__debug__":Str))=false:=by decide)
  (he:q9 X e es:=by rfl) (hpl:Q2 X pos es:=by rfl):PE X (.Call (.Name x p) (e::es) [] pos) (tCB r t):=by
 intro pins s σ H Q I h;refine wpAny_Call_Name_kw (BE I o d j ?_ k a);exact ĥ (jD (b pos pins s σ H _ I h) λus m ⟨vs,H1,I1,i,c⟩=>n pins m σ H1 vs us Q I1 i c) he hpl
end
end L2
namespace HT
open PySem PyProof.Rows
section
variable{prog:ň}{w:World}{A:Ň}{E:VP}{s:Ņ}
def cat_tup{t b:Addr}{vs ws:B0}{Q:VP}(r:IsTup s.heap t vs.toArray)(q:IsTup s.heap b ws.toArray)(o:vs≠[])
  (h1:ws=[]->Q (.ref t) s) (h2:ws≠[]->Q (.ref s.heap.objs.size) {s with heap:=s.heap.push {cls:=.type "tuple",data:=.seq (vs++ws).toArray}})
  (hsz:vs.length+ws.length<=sizeLine):wpAny (model prog w) A (binaryOp .Add (.ref t) (.ref b)) Q E s:=by
 obtain⟨⟨cls,p,data,sl⟩,h,v,n,u⟩:=id r;obtain⟨⟨k,d,_,c⟩,a,j,m,i⟩:=id q;subst v u j i;have e:vs.toArray++ws.toArray=(vs++ws).toArray:=by simp
 by_cases hw:ws=[]
 .exact concat_meets ⟨_,h,rfl⟩ ⟨_,a,rfl⟩ noFill_tuple_add seq_tuple_add PySem.F.slot_tuple_add PySem.F.entry_tuple_add (PySem.F.args_tuple_add_2 _ _)
   (tuple_addW1 t b vs.toArray ws.toArray n m p d sl c (by simpa using o) (by simp[hw])) ⟨h,a,h1 hw⟩
 .refine concat_meets ⟨_,h,rfl⟩ ⟨_,a,rfl⟩ noFill_tuple_add seq_tuple_add PySem.F.slot_tuple_add PySem.F.entry_tuple_add (PySem.F.args_tuple_add_2 _ _)
   (tuple_addW2 t b vs.toArray ws.toArray n m p d sl c (by simpa using o) (by simpa using hw) (by rw[sA];exact hsz)) ⟨h,a,?_⟩
  rw[e];exact h2 hw
def sIx(n d:Nat):Option Int->Nat
 |none=>d
 |some v=>if v<0 then(v+(n:Int)).toNat else min v.toNat n
theorem sIx_nat(n d k:Nat):sIx n d (some (k:Int))=min k n:=by show(if(k:Int)<0 then((k:Int)+(n:Int)).toNat else min (k:Int).toNat n)=min k n;rw[iN #[0],Ġ]
theorem sIx_le(n d:Nat)(b:d<=n)(o:P0):sIx n d o<=n:=by
 cases o with
 |none=>exact b
 |some v=>
  show(if v<0 then(v+_).toNat else min v.toNat n)<=n;by_cases a:v<0
  .rw[iP a];lia
  .rw[iN a];exact Nat.min_le_right _ _
theorem VY(v:Int)(n d:Nat):(if v<0 then max (v+(n:Int)) 0 else min v (n:Int))=((sIx n d (some v):Nat):Int):=by
 show _=(((if v<0 then(v+_).toNat else min v.toNat n):Nat):Int)
 by_cases a:v<0
 .simp only[iP a];lia
 .simp only[iN a];lia
theorem SE(lo hi:P0)(n:Nat):Builtin.Slice.sliceAdjust lo hi 1 (n:Int)=(((sIx n 0 lo:Nat):Int),((sIx n n hi:Nat):Int)):=by
 have h1: ¬((1:Int)<0):=by lia
 unfold Builtin.Slice.sliceAdjust;refine Prod.ext ?_ ?_
 .cases lo with
  |none=>rfl
  |some v=>exact VY v n 0
 .cases hi with
  |none=>rfl
  |some v=>exact VY v n n
theorem SF(i j:Nat):Builtin.Slice.slicePlaces (i:Int) (j:Int) 1=j - i:=by
 unfold Builtin.Slice.slicePlaces;have h1:(1:Int)>0:=by lia
 split<;>lia
def EM{v:ņ}{o:P0}{Q:Option Int->Ņ->Prop}(p:IsPart v o)(h:Q o s):wpAny (model prog w) A (Builtin.Slice.slicePartIndex v) Q E s:=by
 cases p with
 |none=>exact slicePart_none h
 |int i t=>exact slicePart_int h
def sliceApplied_gen{sl:Addr}{d c:ņ}{lo hi:P0}{n:Nat}{Q:Int×Int×Nat->Ņ->Prop}(hs:s.heap.IsSliceOf sl d c .none)(i:IsPart d lo)(e:IsPart c hi)
  (h:Q (((sIx n 0 lo:Nat):Int),1,sIx n n hi - sIx n 0 lo) s):wpAny (model prog w) A (Builtin.Slice.sliceApplied (.ref sl) (pure (n:Int))) Q E s:=by
 obtain⟨k,b,j,a⟩:=id hs;refine wB (wB (Ĕ b a rfl (wB (Ĕ b a rfl (wB (Ĕ b a rfl (wP ?_)))))));refine wB (slicePart_none ?_);show wpAny _ _ _ _ _ s;refine wB (EM i (wB (EM e (wB (wP ?_)))));show wpAny _ _ (match Builtin.Slice.sliceAdjust lo hi 1 _ with |(lo,hi)=>pure (lo,_,Builtin.Slice.slicePlaces lo hi 1)) _ _ s;rw[SE lo hi n];show wpAny _ _ (pure _) _ _ s;rw[SF];exact wP h
theorem Ei(xs:B9)(i k:Nat):((List.range k).filterMap λ(m:Nat)=>xs[((i:Int)+(m:Int) * 1).toNat]?).toArray=((xs.toList.drop i).take k).toArray:=by
 have e:(λ(m:Nat)=>xs[((i:Int)+(m:Int) * 1).toNat]?)=λm=>xs[i+m]? :=by
  funext m;have:((i:Int)+(m:Int) * 1).toNat=i+m:=by lia
  rw[this]
 rw[e];have:=pick_run xs i k;rw[List.filterMap_map]at this;have e2:((λx=>xs[x]?)∘λx=>i+x)=λm=>xs[i+m]? :=rfl;rw[e2]at this;rw[this]
def getItem_tuple_cut{t sl:Addr}{a:B9}{m k:ņ}{lo hi:P0}{Q:VP}(c:IsTup s.heap t a)(hs:s.heap.IsSliceOf sl m k .none)(r:IsPart m lo)(p:IsPart k hi)
  (hw: ¬(sIx a.size 0 lo=0/\sIx a.size a.size hi=a.size))
  (h:Q (.ref s.heap.objs.size) {s with heap:=s.heap.push {cls:=.type "tuple",data:=.seq ((a.toList.drop (sIx a.size 0 lo)).take (sIx a.size a.size hi - sIx a.size 0 lo)).toArray}})
  (hsz:a.size<=sizeLine):wpAny (model prog w) A (getItem (.ref t) (.ref sl)) Q E s:=by
 have b:sizeOk (.seq ((a.toList.drop (sIx a.size 0 lo)).take (sIx a.size a.size hi - sIx a.size 0 lo)).toArray):=by show((a.toList.drop (sIx a.size 0 lo)).take _).toArray.size<=sizeLine;rw[sA,lT,ĉ,ú];omega
 have u:sIx a.size a.size hi<=a.size:=sIx_le _ _ (à _) hi;obtain⟨o,d,i,n⟩:=id hs;have e:s.TypeIs (.ref sl) "slice":=⟨o,d,i⟩
 unfold getItem
 try with_reducible refine Ă ?_
 first |refine wB (wP ?_)|skip
 refine wB (wpAny_sequenceKey c.typeIs (by decide) ?_)
 refine wB (ć c.typeIs Ĝ
  (ø Ĝ c.typeIs entry_tuple_getitem ?_ (args_tuple_getitem _ _)))
 show wpAny _ _ (Builtin.Tuple.tupleItemsOf (.ref t) >>= _) _ _ s;refine wB (tupleItemsOf_ c ?_);refine wB (į e ?_);rw[iP (by decide)];refine wB (sliceApplied_gen hs r p ?_);have j: ¬((((sIx a.size 0 lo:Nat):Int)==0&&(1:Int)==1&&(sIx a.size a.size hi - sIx a.size 0 lo)==a.size)=true):=by intro q;rw[aE,aE]at q;have v:((sIx a.size 0 lo:Nat):Int)=0:=eq_of_beq q.1.1;have y:sIx a.size a.size hi - sIx a.size 0 lo=a.size:=eq_of_beq q.2;exact hw ⟨by omega,by omega⟩
 show wpAny _ _ (if _=true then _ else _) _ _ s;rw[iN j,Ei]
 first
  |exact wB (Ċ (wP ⟨_,rfl,wP h⟩) b)
  |exact wB _
  |exact wB _
  |exact wB _
end
end HT
namespace L2
open PySem PySem.Spec PyProof.Rows
variable{xs:List V}
abbrev TO:=St->Hp->(Option Int->Hp->Prop)->Prop
def PO(X:Cx)(e:Option Expr)(t:TO):Prop:=
 ∀(pins:N0)(s:Ņ)(σ:St)(H:Hp)(Q:Option Int->Hp->Prop),Inv X pins σ H s->t σ H Q->
  wpAny (model X.prog X.w) X.A (evalPart e X.env) (λu s'=> ∃o H',Inv X pins σ H' s'/\IsPart u o/\Q o H') X.xe s
def Ln:TO:=λ_ H Q=>Q none H
def J5(t:TE):TO:=λσ H Q=>t σ H λx H1=> ∃i,x=.int i/\Q (some i) H1
section
variable{X:Cx}{e:Expr}{te:TE}{lo hi:Option Expr}{tl th:TO}{pos p2:Pos}
def Lo:PO X none Ln:=by intro pins s σ H Q I h;exact wP ⟨none,H,I,.none,h⟩
def Lp(h:PE X e te):PO X (some e) (J5 te):=by intro pins s σ H Q I hw;refine jD (h pins s σ H _ I hw) λu c ⟨x,H1,I1,b,a⟩=>?_;obtain⟨i,rfl,q⟩:=a;obtain⟨t,rfl⟩:=b;exact⟨_,H1,I1,.int i t,q⟩
def SlR(X:Cx)(r:V->Option Int->Option Int->Hp->VK->Prop):Prop:=
 ∀(pins:N0)(s:Ņ)(σ:St)(H:Hp)(x:V)(v a b:ņ)(lo hi:P0)(sl:Addr)(Q:VK),Inv X pins σ H s->RelV x v->s.heap.IsSliceOf sl a b .none->IsPart a lo->IsPart b hi->r x lo hi H Q->
  ∃T id,typeLookup (.type T) "__getitem__"=pure (some (.builtin id))/\s.TypeIs v T/\wpAny (model X.prog X.w) X.A (getItem v (.ref sl)) (EP X pins σ Q) X.xe s
def SlR.or{r c:V->Option Int->Option Int->Hp->VK->Prop}(h:SlR X r)(h':SlR X c):SlR X (λx lo hi H Q=>r x lo hi H Q\/c x lo hi H Q):=by
 intro pins s σ H x v i a lo hi sl Q I e hs d b q;rcases q with q|q
 .exact h pins s σ H x v i a lo hi sl Q I e hs d b q
 .exact h' pins s σ H x v i a lo hi sl Q I e hs d b q
def tSl(r:V->Option Int->Option Int->Hp->VK->Prop)(te:TE)(tl th:TO):TE:=λσ H Q=>te σ H λx H1=>tl σ H1 λl a=>th σ a λu b=>r x l u b Q
def Ej{r:V->Option Int->Option Int->Hp->VK->Prop}(w:SlR X r)(M:PE X e te)(K:PO X lo tl)(F:PO X hi th):PE X (.Subscript e (.Slice lo hi none p2) pos) (tSl r te tl th):=by intro pins s σ H Q I h;refine Subscript_ (jD (M pins s σ H _ I h) λv G ⟨x,H1,I1,n,j⟩=>?_);refine wpAny_Slice (jD (K pins G σ H1 _ I1 j) λd L ⟨l,E,p,y,D⟩=>jD (F pins L σ E _ p D) λc a ⟨u,i,C,J,k⟩=>?_);refine wP ?_;have m:Inv X pins σ i {a with heap:=a.heap.push {cls:=.type "slice",data:=.fields #[d,c,.none]}}:=C.kept λb ob q=>hP0 _ q;obtain⟨T,id,B,o,z⟩:=w pins {a with heap:=a.heap.push {cls:=.type "slice",data:=.fields #[d,c,.none]}} σ i x v d c l u a.heap.objs.size Q m n (Heap.IsSliceOf.new ..) y J k;show wpAny _ X.A _ _ X.xe {a with heap:=a.heap.push {cls:=.type "slice",data:=.fields #[d,c,.none]}};exact tail_any o B z (by with_unfolding_all rfl)
def Ac(xs:List V)(lo hi:P0):List V:=(xs.drop (HT.sIx xs.length 0 lo)).take (HT.sIx xs.length xs.length hi - HT.sIx xs.length 0 lo)
theorem CW(xs:List V)(lo hi:P0):(Ac xs lo hi).length<=xs.length:=by
 unfold Ac;rw[lT,ĉ]
 lia
def rSlT(K:U0):V->Option Int->Option Int->Hp->VK->Prop:=λx lo hi H Q=> ∃a xs,x=.ref a/\SqT K H a xs/\
 ¬(HT.sIx xs.length 0 lo=0/\HT.sIx xs.length xs.length hi=xs.length)/\ ∀p,H p=none->Q (.ref p) (xG H p (.tup (Ac xs lo hi)))
def Vg:SlR X (rSlT X.K):=by
 intro pins s σ H x v o n lo hi sl Q I m hs k j h;obtain⟨a,xs,rfl,i,hw,q⟩:=h;cases m;obtain⟨its,r,d,e⟩:=I.tuple i;have c:its.toArray.size=xs.length:=by rw[sA];exact r.length.symm
 refine⟨_,_,PyProof.Rows.slot_tuple_getitem.lookup,d.typeIs,?_⟩;refine HT.getItem_tuple_cut d hs k j (by rw[c];exact hw) ?_ (by rw[c];exact e);rw[c];refine⟨.ref s.heap.objs.size,_,I.laid (λb ob q=>hP0 _ q) (à _) ?_,rfl,q _ (I.hok.fresh (à _))⟩;exact⟨í (CW xs lo hi) e,_,(r.drop _).take _,IsTup.new _ _⟩
def J6(K:U0):R2:=λx y H Q=> ∃a b xs ys,x=.ref a/\y=.ref b/\SqT K H a xs/\SqT K H b ys/\xs≠[]/\xs.length+ys.length<=sizeLine/\
 (ys=[]->Q (.ref a) H)/\(ys≠[]-> ∀p,H p=none->Q (.ref p) (xG H p (.tup (xs++ys))))
def Vals.nil_iff{us:B0}(r:Vals xs us):us=[]↔xs=[]:=by
 cases r with
 |nil=>simp
 |cons _ _=>simp
def Lq:OpR X (binaryOp .Add) (J6 X.K):=by intro pins s σ H x y v u Q I n k h;obtain⟨a,b,xs,ys,rfl,rfl,o,p,m,i,j,r⟩:=h;cases n;cases k;obtain⟨its,d,p1,_⟩:=I.tuple o;obtain⟨e,c,p2,_⟩:=I.tuple p;refine HT.cat_tup p1 p2 (λz=>m (d.nil_iff.mp z)) (λz=>⟨.ref a,H,I,rfl,j (c.nil_iff.mp z)⟩) (λz=>?_) (by rw[<-d.length, <-c.length];exact i);refine⟨.ref s.heap.objs.size,_,I.laid (λb ob q=>hP0 _ q) (à _) ?_,rfl,r (λw=>z (c.nil_iff.mpr w)) _ (I.hok.fresh (à _))⟩;exact⟨by rw[lA];exact i,_,d.append c,IsTup.new _ _⟩
end
def Sk(n:Nat)(i:Int):Option Nat:=if 0<=i then(if i<n then some i.toNat else none)else if -(n:Int)<=i then some (i+n).toNat else none
def BA{α:Type}(xs:List α)(i:Int):Option α:=(Sk xs.length i).bind λj=>xs[j]?
theorem Lr{n:Nat}{i:Int}{j:Nat}(h:Sk n i=some j):seqIndex? i n=some j/\j<n/\ -(n:Int)<=i/\i<n:=by
 unfold Sk at h;by_cases a:0<=i
 .rw[iP a]at h;by_cases h1:i<n
  .rw[iP h1]at h;have e:=å h;exact⟨by rw[seqIndex_of a h1,e],by lia,by lia,h1⟩
  .rw[iN h1]at h;cases h
 .rw[iN a]at h;by_cases h1: -(n:Int)<=i
  .rw[iP h1]at h;have e:=å h;exact⟨by rw[seqIndex_neg #[0] h1,e],by lia,h1,by lia⟩
  .rw[iN h1]at h;cases h
def KW{α:Type}{xs:List α}{i:Int}{v:α}(h:BA xs i=some v): ∃j,seqIndex? i xs.length=some j/\xs[j]? =some v/\j<xs.length/\ -(xs.length:Int)<=i/\i<xs.length:=by
 unfold BA at h
 cases e:Sk xs.length i with
 |none=>rw[e]at h;cases h
 |some j=>
  rw[e]at h;obtain⟨h1,b,c,a⟩:=Lr e;exact⟨j,h1,h,b,c,a⟩
def DX(b:Expr):Prop:= ∀o i,subscripted b false o i=operate [o,i] (getItem o i)
def IxR(X:Cx)(r:R2):Prop:=
 ∀(value a:Expr)(pins:N0)(s:Ņ)(σ:St)(H:Hp)(x y:V)(v u:ņ)(Q:VK),Inv X pins σ H s->RelV x v->RelV y u->r x y H Q->
  subscripted a false v u=operate [v,u] (getItem v u)->wpAny (model X.prog X.w) X.A (subscriptTail value a v u) (EP X pins σ Q) X.xe s
def C1(X:Cx)(id:String)(r:V->List V->Hp->VK->Prop):Prop:=
 ∀(pins:N0)(s:Ņ)(σ:St)(H:Hp)(x:V)(xs:List V)(v:ņ)(us:B0)(Q:VK),Inv X pins σ H s->RelV x v->Vals xs us->r x xs H Q->
  wpAny (model X.prog X.w) X.A (call (.builtin id) (v::us)) (EP X pins σ Q) X.xe s
section
variable{X:Cx}{a b:Expr}{ta tb:TE}{pos:Pos}
def IxR.or{r c:R2}(h:IxR X r)(h':IxR X c):IxR X (λx y H Q=>r x y H Q\/c x y H Q):=by
 intro value a pins s σ H x y v u Q I d b q hs;rcases q with q|q
 .exact h value a pins s σ H x y v u Q I d b q hs
 .exact h' value a pins s σ H x y v u Q I d b q hs
def J7{r:R2}(k:IxR X r)(c:PE X a ta)(d:PE X b tb)(hs:DX b):PE X (.Subscript a b pos) (W3 r ta tb):=by intro pins s σ H Q I h;exact Subscript_ (Uw c d I h λv u m x y i j n e q=>k a b pins m σ i x y v u Q j n e q (hs _ _))
def J8(K:U0):R2:=λx y H Q=> ∃p xs i v,x=.ref p/\y=.int i/\SqL K H p xs/\BA xs i=some v/\Q v H
def J9(K:U0):R2:=λx y H Q=> ∃p xs i v,x=.ref p/\y=.int i/\SqT K H p xs/\BA xs i=some v/\Q v H
def K2:R2:=λx y H Q=> ∃z i c,x=.str z/\y=.int i/\z.length<=sizeLine/\BA z.cps.toList i=some c/\Q (.str ⟨#[c]⟩) H
theorem Ls:IxR X (J8 X.K):=by
 intro value e pins s σ H x y v u Q I o n h hs;obtain⟨p,xs,i,z,rfl,rfl,B,F,q⟩:=h;cases o;obtain⟨t,rfl⟩:=n;obtain⟨its,r,d,L⟩:=I.list B;obtain⟨j,h1,A,J,C,E⟩:=KW F;obtain⟨w,k,c⟩:=r.get A;have D:=r.length;have G:=BF;have a:EP X pins σ Q w s:=⟨z,H,I,c,q⟩
 by_cases m:0<=i
 .have b:=by rw[seqIndex_of m E]at h1;exact å h1
  exact item_listR d.isList m #[0] (by rw[b];simpa using k) a hs
 .have b:(i+(its.toArray.size:Int)).toNat=j:=by rw[seqIndex_neg #[0] C]at h1;rw[sA, <-D];exact å h1
  exact subscriptTail_builtinR d.isList.typeIs slot_list_getitem.lookup
   (wpAny_getItem_list_neg d.isList #[0] (by rw[sA]<;>lia) #[0] (by rw[b];simpa using k) ⟨rfl,a⟩) hs
theorem ix_tup:IxR X (J9 X.K):=by
 intro value c pins s σ H x y v u Q I m k h hs;obtain⟨p,xs,i,z,rfl,rfl,o,B,q⟩:=h;cases m;obtain⟨t,rfl⟩:=k;obtain⟨its,r,d,F⟩:=I.tuple o;obtain⟨j,h1,n,E,D,G⟩:=KW B;obtain⟨w,e,a⟩:=r.get n;have A:=r.length;have C:=BF;have b:EP X pins σ Q w s:=⟨z,H,I,a,q⟩
 exact subscriptTail_builtinR d.typeIs slot_tuple_getitem.lookup
  (getItem_tuple d #[0] #[0] (by rw[sA, <-A];exact h1) (by simpa using e) ⟨rfl,b⟩) hs
theorem Vh:IxR X K2:=by
 intro value a pins s σ H x y v u Q I d b h hs;obtain⟨z,i,c,rfl,rfl,w,o,q⟩:=h;obtain⟨t,rfl⟩:=d;obtain⟨t',rfl⟩:=b;obtain⟨j,h1,e,r,k,n⟩:=KW o;have m:z.cps.toList.length=z.length:=by simp[Str.length]
 rw[m]at h1 k n;have p:=BF;exact tail_any (typeIs_str s z t) slot_str_getitem.lookup (getItem_str (by have e1:decide (i< -(2 ^ 63:Int))=false:=dF0 #[0];have e2:decide (i>=2 ^ 63)=false:=dF0 #[0];rw[e1,e2,Bool.or_false]) (by rw[h1];simpa using e) ⟨.str ⟨#[c]⟩,H,I.tok _,⟨_,rfl⟩,q⟩) hs
def rIx(K:U0):R2:=λx y H Q=>J8 K x y H Q\/J9 K x y H Q\/K2 x y H Q
def Vi:IxR X (rIx X.K):=Ls.or (ix_tup.or Vh)
def Inv.lst{pins:N0}{σ:St}{H:Hp}{s:Ņ}{p:Addr}(I:Inv X pins σ H s)(h:H p=some (.lst xs)):
  ∃(its:B0)(n:Nat),Vals xs its/\s.heap.get? p=some {cls:=.type "list",data:=.seq its.toArray n}/\xs.length<=sizeLine:=by
 obtain⟨z,its,n,r,e⟩:=I.hok p _ h;exact⟨its,n,r,e,z⟩
theorem KY(lo hi:P0)(n:Nat):(sliceBounds lo hi none n).1=((HT.sIx n 0 lo:Nat):Int)/\(sliceBounds lo hi none n).2.1=((HT.sIx n n hi:Nat):Int)/\(sliceBounds lo hi none n).2.2=1:=by
 refine⟨?_,?_,rfl⟩
 .cases lo with
  |none=>simp[sliceBounds,HT.sIx]
  |some i=>
   simp only[sliceBounds,HT.sIx,Option.getD_none,if_true];by_cases h:i<0
   .simp only[h,if_true]<;>lia
   .simp only[h,iF]<;>lia
 .cases hi with
  |none=>simp[sliceBounds,HT.sIx]
  |some i=>
   simp only[sliceBounds,HT.sIx,Option.getD_none,if_true];by_cases h:i<0
   .simp only[h,if_true]<;>lia
   .simp only[h,iF]<;>lia
theorem HV(its:B0)(lo hi:P0):slicePick its.toArray lo hi none=((its.drop (HT.sIx its.length 0 lo)).take (HT.sIx its.length its.length hi - HT.sIx its.length 0 lo)).toArray:=by obtain⟨h1,a,b⟩:=KY lo hi its.toArray.size;unfold slicePick;rw[h1,a,b];simp only[sliceRange_one,pick_run]<;>rfl
def rSlL(K:U0):V->Option Int->Option Int->Hp->VK->Prop:=λx lo hi H Q=> ∃a xs,x=.ref a/\SqL K H a xs/\ ∀p,H p=none->Q (.ref p) (xG H p (.lst (Ac xs lo hi)))
theorem Lu:SlR X (rSlL X.K):=by intro pins s σ H x v o n lo hi sl Q I m hs k j h;obtain⟨a,xs,rfl,e,q⟩:=h;cases m;obtain⟨its,r,d,i⟩:=I.list e;have c:=r.length;refine⟨_,_,slot_list_getitem.lookup,d.isList.typeIs,?_⟩;refine wpAny_getItem_list_slice d.isList hs k j .none (by simp) ?_ (by rw[sA]<;>lia);rw[HV, <-c];refine⟨.ref s.heap.objs.size,_,I.laid (λb ob q=>hP0 _ q) (à _) ?_,rfl,q _ (I.hok.fresh (à _))⟩;exact⟨í (CW xs lo hi) i,_,0,(r.drop _).take _,ä _ rfl⟩
def mN:V->Bool
 |.non=>true
 |.bl _=>true
 |.int _=>true
 |.str _=>true
 |_=>false
def eqV:V->V->Bool
 |.non,.non=>true
 |.bl a,.bl b=>a==b
 |.bl a,.int b=>(if a then 1 else 0)==b
 |.int a,.bl b=>a==(if b then 1 else 0)
 |.int a,.int b=>a==b
 |.str a,.str b=>a==b
 |_,_=>false
def Vj{A:Ň}{s:Ņ}{y x:V}{u v:ņ}(e:RelV y u)(c:RelV x v)(h:mN y=true)(d:mN x=true):SeqAt.EqAt A s u v (eqV y x):=by
 cases y with
 |non=>
  cases e
  cases x with
  |non=>cases c;exact SeqAt.EqAt.same _
  |bl b=>cases c;exact SeqAt.EqAt.none_bool b
  |int b=>obtain⟨t,rfl⟩:=c;exact SeqAt.EqAt.none_int b t
  |str b=>obtain⟨t,rfl⟩:=c;exact SeqAt.EqAt.none_str b t
  |_=>exact absurd d xF0
 |bl a=>
  cases e
  cases x with
  |non=>cases c;exact SeqAt.EqAt.bool_none a
  |bl b=>cases c;exact SeqAt.EqAt.bool_bool a b
  |int b=>obtain⟨t,rfl⟩:=c;exact SeqAt.EqAt.bool_int a b t
  |str b=>obtain⟨t,rfl⟩:=c;exact SeqAt.EqAt.bool_str a b t
  |_=>exact absurd d xF0
 |int a=>
  obtain⟨t',rfl⟩:=e
  cases x with
  |non=>cases c;exact SeqAt.EqAt.int_none a t'
  |bl b=>cases c;exact SeqAt.EqAt.int_bool a t' b
  |int b=>obtain⟨t,rfl⟩:=c;exact SeqAt.EqAt.int_int a t' b t
  |str b=>obtain⟨t,rfl⟩:=c;exact SeqAt.EqAt.int_str a t' b t
  |_=>exact absurd d xF0
 |str a=>
  obtain⟨t',rfl⟩:=e
  cases x with
  |non=>cases c;exact SeqAt.EqAt.str_none a t'
  |bl b=>cases c;exact SeqAt.EqAt.str_bool a t' b
  |int b=>obtain⟨t,rfl⟩:=c;exact SeqAt.EqAt.str_int a t' b t
  |str b=>obtain⟨t,rfl⟩:=c;exact SeqAt.EqAt.str_str a t' b t
  |_=>exact absurd d xF0
 |_=>exact absurd h xF0
theorem KZ:CallR X (.builtin "len") (λxs H Q=> ∃p ys,xs=[.ref p]/\(SqL X.K H p ys\/SqT X.K H p ys)/\Q (.int ys.length) H):=by
 intro pins s σ H xs us Q I r h;obtain⟨p,ys,rfl,b,q⟩:=h;obtain⟨u,rfl,i⟩:=vals1 r;cases i;have j:=BF;rcases b with b|b
 .obtain⟨its,c,d,e⟩:=I.list b;have a:=c.length;exact Calls.call_len_list d.isList (by simp only[sA]<;>lia) ⟨.int ys.length,H,I.tok _,⟨_,by rw[sA,a]⟩,q⟩
 .obtain⟨its,c,d,e⟩:=I.tuple b;have a:=c.length;exact len_tuple d (by simp only[sA]<;>lia) ⟨.int ys.length,H,I.tok _,⟨_,by rw[sA,a]⟩,q⟩
theorem LA:CallR X (.builtin "len") (λxs H Q=> ∃z,xs=[.str z]/\z.length<=sizeLine/\Q (.int z.length) H):=by intro pins s σ H xs us Q I r h;obtain⟨z,rfl,b,q⟩:=h;obtain⟨u,rfl,t,rfl⟩:=vals1 r;have a:=BF;exact len_str #[0] ⟨.int z.length,H,I.tok _,⟨_,rfl⟩,q⟩
def CallR.or{f:ņ}{r a:List V->Hp->VK->Prop}(h:CallR X f r)(h':CallR X f a):CallR X f (λxs H Q=>r xs H Q\/a xs H Q):=by
 intro pins s σ H xs us Q I rs q;rcases q with q|q
 .exact h pins s σ H xs us Q I rs q
 .exact h' pins s σ H xs us Q I rs q
theorem LB:CallR X (.type "list") (λxs H Q=> ∃p ys,xs=[.ref p]/\(SqL X.K H p ys\/SqT X.K H p ys)/\ ∀l,H l=none->Q (.ref l) (xG H l (.lst ys))):=by
 intro pins s σ H xs us Q I r h;obtain⟨p,ys,rfl,j,q⟩:=h;obtain⟨u,rfl,A⟩:=vals1 r;cases A
 have i: ∀(its:B0),Vals ys its->ys.length<=sizeLine-> ∀(h':Heap)(a:Nat),_->
   h'.get? s.heap.objs.size=some {cls:=.type "list",dict:=none,data:=.seq its.toArray a,slots:=#[]}->EP X pins σ Q _ {s with heap:=h'}:=λits b k h' a c e=>
  ⟨.ref s.heap.objs.size,_,I.laid c (à _) (show ObjOk X.prog X.w _ h' _ (.lst ys)from⟨k,its,a,b,e⟩),rfl,q _ (I.hok.fresh (à _))⟩
 rcases j with j|j
 .obtain⟨its,b,z,k⟩:=I.list j;have d:=b.length;obtain⟨o,m,y,n,v⟩:=z.isList;exact call_list_seq p (.inl rfl) m y v (λh' a c e=>i its b k h' a c e) (by simp only[sA]<;>lia)
 .obtain⟨its,b,z,k⟩:=I.tuple j;have d:=b.length;obtain⟨o,m,y,n,v⟩:=z;exact call_list_seq p (.inr rfl) m y v (λh' a c e=>i its b k h' a c e) (by simp only[sA]<;>lia)
theorem HW:CallR X (.type "tuple") (λxs H Q=> ∃p ys,xs=[.ref p]/\((SqL X.K H p ys/\ ∀l,H l=none->Q (.ref l) (xG H l (.tup ys)))\/(SqT X.K H p ys/\Q (.ref p) H))):=by
 intro pins s σ H xs us Q I r h;obtain⟨p,ys,rfl,h⟩:=h;obtain⟨u,rfl,m⟩:=vals1 r;cases m;rcases h with⟨hq,q⟩|⟨hq,q⟩
 .obtain⟨its,a,c,d⟩:=I.list hq;have i:=a.length;refine call_tuple_list c.isList (λh' j=>?_) (by simp only[sA]<;>lia);have I1:Inv X pins σ H {s with heap:=h'}:=I.kept j
  have k:Inv X pins σ (xG H h'.objs.size (.tup ys)) {s with heap:=h'.push {cls:=.type "tuple",data:=.seq its.toArray}}:=
   I1.laid (λb o e=>hP0 _ e) (à _) (⟨d,its,a,IsTup.new _ _⟩)
  exact⟨.ref h'.objs.size,_,k,rfl,q _ (I1.hok.fresh (à _))⟩
 .obtain⟨its,a,c,d⟩:=I.tuple hq;exact call_tuple_same c ⟨.ref p,H,I,rfl,q⟩
def tyV(K:U0)(T:String)(x:V)(H:Hp):Prop:=match x with
 |.str _=>T="str"
 |.int _=>T="int"
 |.ref p=>(T="list"/\ ∃xs,SqL K H p xs)\/(T="tuple"/\ ∃o,K.lookup p=some o/\o.cls=.type "tuple"/\o.dict=none)\/
   (T="dict"/\((∃kvs,H p=some (.dK kvs))\/ ∃kvs,H p=some (.dT kvs)))\/(T="set"/\ ∃S n,H p=some (.set S n))
 |_=>False
def Vk{pins:N0}{σ:St}{H:Hp}{s:Ņ}{T:String}{x:V}{v:ņ}(I:Inv X pins σ H s)(r:RelV x v)(b:tyV X.K T x H):
  s.TypeIs v T/\ ∀a,v=.ref a-> ∃ob,s.heap.get? a=some ob/\ob.dict=none:=by
 cases x with
 |str z=>
  obtain⟨t,rfl⟩:=r;cases b;exact⟨typeIs_str s z t,λ_ e=>nomatch e⟩
 |int i=>
  obtain⟨t,rfl⟩:=r;cases b;exact⟨typeIs_int s i t,λ_ e=>nomatch e⟩
 |ref p=>
  cases r;rcases b with⟨rfl,xs,hq⟩|⟨rfl,o,hk,hc,d⟩|⟨rfl,hk⟩|⟨rfl,S,n,hk⟩
  .obtain⟨its,_,h,_⟩:=I.list hq;refine⟨h.isList.typeIs,λa e=>?_⟩;cases e;obtain⟨o,n,e,c,d,_⟩:=h;exact⟨o,e,d⟩
  .refine⟨⟨o,I.kIn p o hk,hc⟩,λa e=>?_⟩;cases e;exact⟨o,I.kIn _ o hk,d⟩
  .have z: ∃o,s.heap.get? p=some o/\o.ExactDict:=by
    rcases hk with⟨kvs,hk⟩|⟨kvs,hk⟩
    .obtain⟨_,_,_,_,o,_,_,e,ex,_⟩:=I.hok p _ hk;exact⟨o,e,ex⟩
    .obtain⟨_,_,_,_,o,_,_,e,ex,_⟩:=I.hok p _ hk;exact⟨o,e,ex⟩
   obtain⟨o,e,ex⟩:=z;refine⟨⟨o,e,ex.1⟩,λa e2=>?_⟩;cases e2;exact⟨o,e,ex.2.1⟩
  .obtain⟨o,_,_,_,e,ex,_⟩:=I.hok p _ hk;refine⟨⟨o,e,ex.1⟩,λa e2=>?_⟩;cases e2;exact⟨o,e,ex.2.1⟩
 |_=>exact False.elim b
def tBM(K:U0)(T:String)(r:V->List V->Hp->VK->Prop)(to:TE)(t:TA):TE:=λσ H Q=>to σ H λx H1=>tyV K T x H1/\t σ H1 λxs a=>r x xs a Q
variable{o e:Expr}{es:R0}{to:TE}{t:TA}{name:Str}{apos cpos:Pos}{T id:String}{r:V->List V->Hp->VK->Prop}
def K4(w:PlainAttrs T)(a:Slot T name id)(b:typeOf (.builtin id)=pure (.type "method_descriptor"))(k:C1 X id r)(m:PE X o to)(i:PA X (e::es) t)
  (hbase:attributeBase o name X.env (eval o X.env)=eval o X.env:=by rfl)
  (hfew:((backTo cpos (starEach (e::es) X.env)).all (λx=>!x.1)&&(backToKw cpos (keywordEach [] X.env)).all (λx=>x.1.isSome)
   &&decide ((e::es).length+([]:List Keyword).length+(if([]:List Keyword).isEmpty then 0 else 1)<30))=true:=by rfl)
  (hline:(apos.endLine==cpos.line)=true:=by rfl) (hs:q9 X e es:=by rfl) (hplain:(backTo cpos (starEach es X.env)).any (·.1)=false:=by rfl):
  PE X (.Call (.Attribute o name apos) (e::es) [] cpos) (tBM X.K T r to t):=by
 intro pins s σ H Q I h;refine wpAny_Call_method_late hbase hfew hline rfl (jD (m pins s σ H _ I h) λv y ⟨x,H1,I1,d,A,j⟩=>?_);obtain⟨h1,B⟩:=Vk I1 d A;refine⟨T,id,w,a,b,h1,B,?_⟩;have c:=i cpos pins y σ H1 _ I1 j;rw[hs]at c ⊢;refine Calls.callWith_builtin (by show(false || (backTo cpos _).any (·.1))=false;rw[hplain]<;>rfl) (Calls.evalArgs_plain ?_);exact jD c λus z ⟨vs,q,u,p,n⟩=>k pins z σ q x vs v us Q u d p n
end
def MtM(X:Cx)(id:String)(r:V->List V->Hp->VK->Prop):Prop:=
 ∀(pins:N0)(s:Ņ)(σ:St)(H:Hp)(x:V)(xs:List V)(v:ņ)(us:B0)(Q:VK),Inv X pins σ H s->RelV x v->Vals xs us->r x xs H Q->
  wpAny (model X.prog X.w) X.A (call (.builtin id) (v::us)) (EP X pins σ Q) X.xe s
def Vals.one: ∀{x:V}{us:B0},Vals [x] us-> ∃u,us=[u]/\RelV x u
 |_,_,.cons r .nil=>⟨_,rfl,r⟩
def Vals.reverse{us:B0}(h:Vals xs us):Vals xs.reverse us.reverse:=by
 induction h with
 |nil=>exact .nil
 |cons r t ih=>rw[reverse_cons,reverse_cons];exact Vals.append ih (.cons r .nil)
theorem Vals.rep{us:B0}(h:Vals xs us): ∀k:Nat,Vals (List.replicate k xs).flatten (List.replicate k us).flatten
 |0=>.nil
 |k+1=>by exact Vals.append h (Vals.rep h k)
section
variable{X:Cx}{pins:N0}{σ:St}{H:Hp}{s:Ņ}{l:Addr}{xs ys:List V}
def Inv.lset{its its':B0}{n:Nat}{f:Array ņ->Array ņ}{t':Nat}(I:Inv X pins σ H s)(a:H l=some (.lst xs))
  (e:s.heap.get? l=some {cls:=.type "list",data:=.seq its.toArray n}) (hf:f its.toArray=its'.toArray) (hv:Vals ys its') (hz:ys.length<=sizeLine):
  Inv X pins σ (xG H l (.lst ys)) {s with heap:=s.heap.update l (Obj.mapSeq f),toks:=t'}:=by
 have q:=PySem.IsL.update e f;rw[hf]at q;refine I.write (by rw[a];exact trivial) (.inl rfl) (λd u b c=>(Ĥ s.heap _ (Ne.symm b)).trans c) ⟨_,q⟩ ?_;exact⟨hz,its',_,hv,q⟩
def Inv.lnew{its:B0}{t':Nat}(I:Inv X pins σ H s)(b:Vals ys its)(a:ys.length<=sizeLine):
  Inv X pins σ (xG H s.heap.objs.size (.lst ys)) {s with heap:=s.heap.push {cls:=.type "list",data:=.seq its.toArray},toks:=t'}:=
 I.laid (λ_ _ q=>hP0 _ q) (à _) ⟨a,its,0,b,ä _ rfl⟩
def Inv.fresh(I:Inv X pins σ H s):H s.heap.objs.size=none:=I.hok.fresh (à _)
def Inv.lstM(I:Inv X pins σ H s)(a:H l=some (.lst xs)):xs.length<=sizeLine/\ ∃(its:B0)(n:Nat),Vals xs its/\xs.length=its.length/\s.heap.get? l=some {cls:=.type "list",data:=.seq its.toArray n}:=by obtain⟨z,its,n,r,e⟩:=I.hok l _ a;exact⟨z,its,n,r,r.length,e⟩
theorem Ek{n:Nat}(h:n<=sizeLine):Builtin.List.listTooLong n=false:=by exact dF0 #[0]
end
section
variable{X:Cx}
def VZ:V->List V->Hp->VK->Prop:=λx vs H Q=> ∃l xs y,x=.ref l/\vs=[y]/\H l=some (.lst xs)/\xs.length<sizeLine/\Q .non (xG H l (.lst (xs++[y])))
theorem Ad:MtM X "list.append" VZ:=by
 intro pins s σ H x vs v us Q I d b h;obtain⟨l,xs,y,rfl,rfl,a,i,q⟩:=h;cases d;obtain⟨u,rfl,c⟩:=b.one;obtain⟨z,its,n,r,j,e⟩:=I.lstM a;refine call_meets F.slot_list_append ⟨_,e,rfl⟩ F.entry_list_append (F.args_list_append_2 _ _) (PySem.list_append l its.toArray n u (by rw[sA];lia)) ⟨e,?_⟩;refine⟨.non,_,I.lset a e (by simp) (r.append (.cons c .nil)) ?_,rfl,q⟩;rw[lA,lS]
 lia
def WA:V->List V->Hp->VK->Prop:=λx vs H Q=> ∃l b xs a,x=.ref l/\vs=[.ref b]/\H l=some (.lst xs)/\H b=some (.lst a)/\xs.length+a.length<=sizeLine/\Q .non (xG H l (.lst (xs++a)))
theorem Ae:MtM X "list.extend" WA:=by
 intro pins s σ H x vs v us Q I p j h;obtain⟨l,b,xs,A,rfl,rfl,i,m,C,q⟩:=h;cases p;obtain⟨u,rfl,o⟩:=j.one;cases o;obtain⟨z,its,n,r,D,e⟩:=I.lstM i;obtain⟨B,a,w,k,y,e2⟩:=I.lstM m;have d:its.toArray.size+a.toArray.size<=sizeLine:=by rw[sA,sA];lia
 have c: ¬(!its.toArray.isEmpty&&Builtin.List.listTooLong (its.toArray.size+a.toArray.size))=true:=by rw[Ek d,Bool.and_false];exact xF0
 refine call_meets F.slot_list_extend ⟨_,e,rfl⟩ F.entry_list_extend (F.args_list_extend_2 _ _)
  (AutoSeq1.list_extend_list_list_0 l its.toArray n b a.toArray w c (by rw[sA];lia) #[0]) ⟨e,e2,?_⟩
 refine⟨.non,_,I.lset i e (by simp) (r.append k) ?_,rfl,q⟩;rw[lA]
 lia
def rCat:R2:=λx y H Q=> ∃l b xs a,x=.ref l/\y=.ref b/\H l=some (.lst xs)/\H b=some (.lst a)/\xs.length+a.length<=sizeLine/\ ∀p,H p=none->Q (.ref p) (xG H p (.lst (xs++a)))
theorem Vm:OpR X (binaryOp .Add) rCat:=by
 intro pins s σ H x y v u Q I j c h;obtain⟨l,b,xs,p,rfl,rfl,m,i,B,q⟩:=h;cases j;cases c;obtain⟨z,its,n,r,C,e⟩:=I.lstM m;obtain⟨A,a,w,d,o,e2⟩:=I.lstM i;refine PySem.P.add_list e e2 ?_ (by rw[sA,sA];lia);have k:its.toArray++a.toArray=(its++a).toArray:=by simp
 rw[k];exact⟨.ref _,_,I.lnew (r.append d) (by rw[lA];lia),rfl,q _ I.fresh⟩
end
end L2
namespace Att
open PySem PySem.W PySem.Calls PyProof.Rows
def DH{P:Params}{h:Heap}: ∀(c:A0)(vs:B0),WellAll P h vs (c.map WData.int)->IntsAre vs c:=by
 intro c
 induction c with
 |nil=>
  intro vs w;cases w;exact .nil
 |cons n c ih=>
  intro vs w
  cases w with
  |cons a b=>
   cases a;exact .cons _ _ (ih _ b)
theorem Af{l:OpenLaw}{n:Nat}(m:l.most=some n){P:Params}{h:Heap}{args:List WData}{b:B0}
  (hpre:l.row.toRowW.claim.pre args=true) (hwl:WellAll P h b args):
  ∃a vs c,b=[Value.ref a]/\args=[WData.list (c.map WData.int)]/\h.get? a=some {cls:=.type "list",data:=.seq vs.toArray}/\IntsAre vs c/\c.length<=n:=by
 have k:=(pre_splitW hpre).1;have p:l.pre.holds [] {args:=args}=true:=(pre_splitW hpre).2;obtain⟨d,r,rfl,h1,u⟩:=hasAllW_cons k;obtain rfl:=hasAllW_nil u;obtain⟨xs,rfl,o⟩:=hasW_list h1;obtain⟨c,rfl⟩:=items_int o
 have e:c.length<=n:=by
  have i:=by have i:=(holds_andW p).1;rw[m]at i;exact i
  have j:=condW_of i (w_not (w_lt w_lit (w_len_list (w_arg rfl))));refine Nat.le_of_not_lt λq=>?_;have s:=by omega
  first
   |(rw[dT0 s]at j;exact absurd j (by decide))
   |(simp at j;lia)
 cases hwl with
 |cons w1 w2=>
  cases w2
  cases w1 with
  |list ho hall=>exact⟨_,_,c,rfl,rfl,ho,DH c _ hall,e⟩
theorem Ag(l:OpenLaw)(args:List WData):l.row.toRowW.claim.post args (.bool true) args=true:=
 postW_of
  (by first |rfl|decide|simp[WShape.has,WShape.arms,WShape.armsAll])
  (w_eq_bool (w_res rfl) w_lit) rfl
def attach_call{l:OpenLaw}{n:Nat}{q:ň}{e:L0}{F:(Str->Option ņ)->Heap->Prop}{D:World->Heap->Prop}{d:DefRec}
  (hn:l.most=some n) (hdf:d.params.defaults=[])
  (call: ∀(w:World)(c b:Ņ)(mg B:L1)(p:Addr)(o:Obj)(z s h:ņ)(a:Addr)(vs:B0)(u:A0),
   Ground q e [] F w c mg B b.heap->D w b.heap->
   b.heap.get? p=some o->o.data=.func (docDef d.name d.params d.body d.scope z s h)->b.heap.CodeRec s d.name->mg d.name=some (.ref p)->
   b.heap.get? a=some {cls:=.type "list",data:=.seq vs.toArray}->IntsAre vs u->u.length<=n->b.gens=#[]->
   codeAny (model l.prog w) callerA (.call (.ref p) ⟨[.ref a],[]⟩) (λr s'=>r=.ok (.ret (.bool true))/\OldK b.heap s'.heap/\s'.os=b.os/\AllBare s'.gens) b):
  WalkO q e F D l.row.toRowW d [] (λf vs=>PySem.call f vs):=by
 intro w c b mg B G Y p o z s h O kV K L y E v N I H as m C U A M;obtain rfl:O=.none:=Dflts.none E hdf;obtain rfl:kV=.none:=Dflts.noKw E;obtain⟨a,vs,u,rfl,rfl,j,i,k⟩:=Af hn m A;refine enter_call (Į (call w c b mg B p o z s h a vs u G Y K (fd_plain L) y v j i k N) λr s' Q=>?_);obtain⟨rfl,P,T,S⟩:=Q;exact⟨.inl ⟨_,_,[],rfl,λ_=>rfl,.bool true,Ag l _,λ_=>⟨List.Pairwise.nil,λ_ J=>(nomatch J)⟩⟩,P,T,S⟩
end Att
namespace L2
open PySem PySem.Spec PyProof.Rows
theorem JC: ∀{vs:B0}{a:A0},IntsAre vs a->Vals (a.map V.int) vs
 |_,_,.nil=>.nil
 |_,_,.cons n t h=>.cons ⟨t,rfl⟩ (JC h)
def El(H:Hp):Prop:= ∀b,H b=none\/ ∃o xs,H b=some (.frz o (.lst xs))
def Em{P:ň}{w:World}{K:U0}{mg O:L1}{CX:VX}{k:Nat}{M a:Addr}{fd:FuncData}{x:Str}{sp:Sp}{c:Ņ}{vs:B0}{I:A0}
  (KX:K.In c.heap) (hns:c.heap.Ns mainGlobals mg) (j:c.heap.Ns builtinsNs O) (hbb: ∀x:Str,x≠"__name__"->O x=bootBuiltins x) (hlim:c.heap.NoLimit) (hg:c.gens=#[])
  (ha:c.heap.get? a=some {cls:=.type "list",data:=.seq vs.toArray}) (hi:IntsAre vs I) (hl:I.length<=sizeLine) (hr:Room k callerA)
  (F: ∀base:Heap,K.In base->base.Ns mainGlobals mg->FnOk P w K mg base CX k M fd [x] sp) (hbind: ∀(s:Ņ)(u:ņ),BindsTo s fd ⟨[u],[]⟩ [(x,u)])
  (hsp: ∀H:Hp,El H->SqL K H a (I.map V.int)->sp [.ref a] H (λv _=>v=.bl true) λ_ _ _=>False)
  (hCX: ∀H e s',CX [] H c (λ_ _ _=>False) e s'->False):
  codeAny (model P w) callerA (.call (.ref M) ⟨[.ref a],[]⟩) (λr s'=>r=.ok (.ret (.bool true))/\OldK c.heap s'.heap/\s'.os=c.os/\AllBare s'.gens) c:=by
 have S:=JC hi;have C:=hi.length
 have y: ∀H:Hp,El H->SqL K H a (I.map V.int)->HOk P w H c.heap->(∀b,H b≠none->b=a)->(H a≠none->K.lookup a=none)->
   codeAny (model P w) callerA (.call (.ref M) ⟨[.ref a],[]⟩) (λr s'=>r=.ok (.ret (.bool true))/\OldK c.heap s'.heap/\s'.os=c.os/\AllBare s'.gens) c:=by
  intro H T X E Q hK;have i: ∀{b:Addr}{o:Obj},c.heap.get? b=some o->H b=none->(ZS c.heap H).get? b=some o:=λe n=>Dt e n
  have J: ∀{b:Addr}{o:Obj}{es:Array DictEntry}{ep:Nat},c.heap.get? b=some o->o.data=.dict es ep->H b=none:=λ{b o es ep} e d=>by
   cases q:H b with
   |none=>rfl
   |some u=>
    have N:b=a:=Q b (by rw[q];simp);subst N;rw[ha]at e;cases e;have Y:Data.seq vs.toArray _=Data.dict es ep:=d;cases Y
  have p: ∀{b:Addr}{m:L1},c.heap.Ns b m->(ZS c.heap H).Ns b m:=λ{b m} ⟨o,es,ep,e,d,r⟩=>⟨o,es,ep,i e (J e d),d,r⟩
  have B:K.In _:=λb o e=>i (KX b o e) (by
   cases q:H b with
   |none=>rfl
   |some u=>
    have N:b=a:=Q b (by rw[q];simp);subst N;rw[hK (by rw[q];simp)]at e;cases e)
  have hM:Mod K mg _:=⟨B,p hns,⟨O,p j,hbb⟩,let ⟨U,h1,h2⟩:=hlim;⟨U,p h1,h2⟩⟩
  have W:Env0 P w K mg _ callerA [] c H:=⟨rfl,hM,λb o e=>Ku e,Nat.le_of_eq (ZT _ _),trivial,λb j=>absurd (show b∈([]:K0)from j) (by simp),E,.of_eq hg⟩
  refine Į ((F _ B (p hns)).run callerA [] c H ⟨_,[]⟩ [.ref a] [.ref a] _ _ hr W (hbind c (.ref a)) (.cons rfl .nil) (hsp H T X)) λr s' h=>?_
  cases r with
  |error e=>exact(hCX H e s' h).elim
  |ok fl=>
   cases fl with
   |next=>exact False.elim h
   |brk=>exact False.elim h
   |cont=>exact False.elim h
   |ret u=>
    obtain⟨v,H',os,D,un,G,r',q⟩:=h;have Z:v=.bl true:=q;subst Z;obtain rfl:u=Value.bool true:=r';refine⟨rfl,OldK.of_keep λb o e=>?_,os,D⟩
    cases q:H b with
    |none=>exact un.keep b o e q (by intro z;exact absurd (show b∈([]:K0)from z) (by simp)) (by simp)
    |some u=>
     rcases T b with z|⟨ob,xs,z⟩
     .rw[q]at z;cases z
     .have z2:=un.frzs b ob _ z;obtain⟨e1,_⟩:=E b _ z;obtain⟨e2,_⟩:=G b _ z2;rw[e]at e1;cases e1;exact e2
 cases L:K.lookup a with
 |some o=>
  have e:=KX a o L;rw[ha]at e;cases e;refine y (λ_=>none) (λ_=>.inl rfl) (.inr ⟨_,_,_,L,rfl,rfl,rfl,by rw[sA,C];exact hl,by simpa using S⟩) (λb u z=>by have A:_=some u:=z;cases A) (λb z=>absurd rfl z) λz=>absurd rfl z
 |none=>
  refine y (λb=>if b=a then some _ else none) (λb=>?_) (.inl (.inr ⟨{cls:=.type "list",data:=.seq vs.toArray},iP rfl⟩)) (λb u z=>?_) (λb z=>?_) λ_=>L
  .by_cases j:b=a
   .exact .inr ⟨_,_,iP j⟩
   .exact .inl (iN j)
  .by_cases j:b=a
   .have A:=(iP j).symm.trans z;cases A;subst j;exact⟨ha,by rw[lM];exact hl,vs,_,S,ha⟩
   .have A:=(iN j).symm.trans z;cases A
  .by_cases j:b=a
   .exact j
   .exact absurd (iN j) z
def walk_of{l:PySem.W.OpenLaw}{n k:Nat}{q:ň}{j:L0}{N:(Str->Option ņ)->Heap->Prop}{B:World->Heap->Prop}{d:DefRec}{K:Params->PySem.W.Frag}{CX:World->VX}{sp:World->Sp}{x:Str}
  (hn:l.most=some n) (hn2:n<=sizeLine) (hdf:d.params.defaults=[]) (hr:Room k callerA)
  (hY: ∀(w:World)(h:Heap),B w h->(K w.params).In h)
  (F: ∀(w:World)(mg:L1)(r:Addr)(h:Heap),(K w.params).In h->h.Ns mainGlobals mg->mg d.name=some (.ref r)->
   ∃fd:FuncData,(∀(s:Ņ)(u:ņ),BindsTo s fd ⟨[u],[]⟩ [(x,u)])/\
    ∀base:Heap,(K w.params).In base->base.Ns mainGlobals mg->FnOk l.prog w (K w.params) mg base (CX w) k r fd [x] (sp w))
  (hsp: ∀(w:World)(H:Hp)(a:Addr)(y:A0),y.length<=n->El H->SqL (K w.params) H a (y.map V.int)->sp w [.ref a] H (λv _=>v=.bl true) λ_ _ _=>False)
  (hCX: ∀(w:World)(H:Hp)(s:Ņ)(e:ņ)(s':Ņ),CX w [] H s (λ_ _ _=>False) e s'->False):
  PySem.W.WalkO q j N B l.row.toRowW d [] (λf vs=>PySem.call f vs):=by
 refine Att.attach_call hn hdf λw A p mg U r o Q S E a vs y G Y O P J z m i c I=>?_;have KX:=hY w _ Y;obtain⟨fd,L,D⟩:=F w mg r _ KX G.T.g z;exact Em KX G.T.g G.T.b G.T.builtins G.T.nolimit I m i (í c hn2) hr D L (λH M C=>hsp w H a y c M C) λH e s'=>hCX w H p e s'
def inClass(s:Stmt)(j:Nat):Stmt:=match s with
 |.ClassDef _ _ _ body _ _ _ _ _ _ _=>body.getD j (.Pass ⟨0,0,0,0⟩)
 |_=>.Pass ⟨0,0,0,0⟩
def wN(s:Stmt):Arguments:=match s with
 |.FunctionDef _ a _ _ _ _ _ _ _ _=>a
 |_=>{posonlyargs:=[],args:=[],vararg:=none,kwonlyargs:=[],kw_defaults:=[],kwarg:=none,defaults:=[]}
def yT(s:Stmt):List Stmt:=match s with
 |.FunctionDef _ _ b _ _ _ _ _ _ _=>b
 |_=>[]
def zE(s:Stmt):Scope:=match s with
 |.FunctionDef _ _ _ _ _ _ sc _ _ _=>sc
 |_=>{kind:=.function,names:=[],isGenerator:=false,isCoroutine:=false}
abbrev rY:VX:=λ_ _ _ _ _ _=>False
abbrev E0:XK:=λ_ _ _=>False
def En{X:Cx}:EL rY X E0:=λ_ _ _ _ _ _ _ h=>h.elim
structure Fun(K:U0)(x qual:Str)(st:Stmt)(f:Addr)(fd:FuncData):Prop where
 ex: ∃(oc:ņ)(od:Option Addr)(kV doc pm:ņ)(an:Option Addr)(cdv ct:ņ)(osl:Array (Option ņ)),
  fd=PySem.W.fnOf x qual (wN st) (yT st) (zE st) .none kV doc pm an cdv ct/\K.lookup f=some ⟨oc,od,.func fd,osl⟩/\PySem.W.codeIn K cdv qual=true
 kp:PySem.W.keepIn K (.ref f)=true
section
variable{P:ň}{w:World}{K:U0}{mg:L1}{base:Heap}
def Fun.ok{x qual:Str}{st:Stmt}{f:Addr}{fd:FuncData}{N ps:L0}{k:Nat}{sp:Sp}(F:Fun K x qual st f fd)(S:FnScope N ps (zE st))(len: ∀vs H Q E,sp vs H Q E->vs.length=ps.length)
  (hbody: ∀(b:ņ)(A:Ň)(a:List Env)(s:Ņ)(H:Hp)(vs:List V)(Q:VK)(E:XK),Room k (A.deeper (envOfC qual (zE st) s.heap.objs.size f b))->sp vs H Q E->
   ∃t,PSs (HU rY P w K mg base N qual (zE st) f b A a s H E).nox (yT st) t/\t {nx:=λ_ H'=>Q .non H',rt:=Q} (start N vs) H):FnOk P w K mg base rY (k+1) f fd ps sp:=by
 obtain⟨o,m,kV,i,r,n,b,p,e,rfl,lk,d⟩:=F.ex;refine J3 lk d S len λA a s H vs Q E j c=>?_;obtain⟨t,h,q⟩:=hbody b A a s H vs Q E j c;exact⟨t,h.nox,q⟩
def Fun.binds{x qual:Str}{st:Stmt}{f:Addr}{fd:FuncData}{ps:L0}(F:Fun K x qual st f fd)
  (h: ∀(kV b e:ņ)(c:Option Addr)(a d:ņ)(us:B0),us.length=ps.length->bindArgs (PySem.W.fnOf x qual (wN st) (yT st) (zE st) .none kV b e c a d) ⟨us,[]⟩=pure (ps.zip us)):Binds K fd ps []:=by
 obtain⟨m,k,kV,b,e,c,a,d,i,rfl,lk,j⟩:=F.ex;exact .all (h kV b e c a d)
def oF{x qual:Str}{st:Stmt}{f:Addr}{j:ņ}{i e:Option Addr}{d:Array (Option ņ)}{kV b h a ct:ņ}(l:K.lookup f=some ⟨j,i,.func (PySem.W.fnOf x qual (wN st) (yT st) (zE st) .none kV b h e a ct),d⟩)
  (c:PySem.W.codeIn K a qual=true) (k:PySem.W.keepIn K (.ref f)=true):Fun K x qual st f (PySem.W.fnOf x qual (wN st) (yT st) (zE st) .none kV b h e a ct):=⟨⟨j,i,kV,b,h,e,a,ct,d,rfl,l,c⟩,k⟩
end
section
variable{X:Cx}
def pv(i:Nat){x:Str}{pos:Pos}(b:X.N[i]? =some x:=by rfl)(c:D9 X.env.scope x:=by first |exact Or.inl rfl|exact Or.inr (Or.inl rfl)|exact Or.inr (Or.inr rfl))(a:(x==("__debug__":Str))=false:=by decide)
  (hcd:(x==("__classdict__":Str))=false:=by decide):PE X (.Name x pos) (E1 i):=Tz b c a hcd
end
def Same(H H':Hp):Prop:= ∀b o,H b=some o->H' b=some o
def Same.seq{K:U0}{H H':Hp}{a:Addr}{xs:List V}(e:Same H H')(h:SqL K H a xs):SqL K H' a xs:=by
 rcases h with(h|⟨o,h⟩)|h
 .exact .inl (.inl (e _ _ h))
 .exact .inl (.inr ⟨o,e _ _ h⟩)
 .exact .inr h
end L2
set_option maxHeartbeats 4000000
namespace L2
open PySem PySem.Spec PyProof.Rows
variable{sc:Scope}{elt iter:Expr}{ifs:R0}{pos:Pos}
def qN(a:Env)(l:List (Str×NameKind))(cs:List (Str×Addr)):List (Str×Addr):=
 l.foldl (λc y=>if y.2==.free then(y.1,(a.cells.lookup y.1).getD 0)::c else c) cs
def LC{α β:Type}{l:List α}{f:α->β->Sem (ForInStep β)}{g:β->α->β}: ∀(c:β),(∀x∈l, ∀c,f x c=pure (.yield (g c x)))->
  forIn l c f=pure (l.foldl g c):=by
 induction l with
 |nil=>intro c _;rfl
 |cons x l ih=>
  intro c h;rw[forIn_cons,h x mF0];exact ih _ λy a=>h y (mO _ a)
def HX{b:Scope}{d:Env}(h: ∀y∈b.names,y.2=.free-> ∃c,d.cells.lookup y.1=some c):closureFor b d=pure (qN d b.names []):=by
 unfold closureFor qN;dsimp only;rw[LC [] ?_]
 .rfl
 .intro y o c;obtain⟨n,k⟩:=y;by_cases j:k=.free
  .subst j;obtain⟨a,m⟩:=h _ o rfl;have i:=m;simp[cellOf,i]
  .have e:=by simpa using j
   simp[e]
theorem CY{a:Env}: ∀(l:List (Str×NameKind))(cs:List (Str×Addr)),(∀y∈l,y.2=.free-> ∃c,a.cells.lookup y.1=some c)->(∀p∈cs,a.cells.lookup p.1=some p.2)->
  ∀p∈qN a l cs,a.cells.lookup p.1=some p.2
 |[],_,_,h=>h
 |(n,k)::l,cs,hl,h=>by
  refine CY l _ (λy m=>hl y (mO _ m)) λp d=>?_;by_cases i:k=.free
  .subst i;obtain⟨c,j⟩:=hl _ mF0 rfl;have e:=j;have b:p∈_::cs:=d;rcases mC.mp b with rfl|d
   .show a.cells.lookup n=some _;rw[e];rfl
   .exact h p d
  .have b:p∈(if _=true then _::cs else cs):=d;rw[iN (by simpa using i)]at b;exact h p b
theorem EN{a:Env}: ∀(l:List (Str×NameKind))(cs:List (Str×Addr))(p:Str×Addr),p∈cs->p∈qN a l cs
 |[],_,_,h=>h
 |_::l,cs,p,h=>by
  refine EN l _ p ?_;show p∈(if _=true then _::cs else cs);split
  .exact mO _ h
  .exact h
theorem qO{a:Env}: ∀(l:List (Str×NameKind))(cs:List (Str×Addr))(n:Str),(n,NameKind.free)∈l-> ∃c,(n,c)∈qN a l cs
 |[],_,_,h=>nomatch h
 |(m,k)::l,cs,n,h=>by
  rcases mC.mp h with e|h
  .have e1:=congrArg Prod.fst e;have e2:=congrArg Prod.snd e;subst e1 e2;exact⟨_,EN l _ _ mF0⟩
  .exact qO l _ n h
theorem hZ{β:Type}: ∀{l:List (Str×β)}{n:Str},(∃c,(n,c)∈l)-> ∃c,l.lookup n=some c
 |[],_,h=>let ⟨_,z⟩:=h;nomatch z
 |(m,b)::l,n,h=>by
  by_cases e:n=m
  .subst e;exact⟨b,by simp[ĕ]⟩
  .obtain⟨c,a⟩:=h;rcases mC.mp a with z|z
   .cases z;exact absurd rfl e
   .obtain⟨i,h'⟩:=hZ ⟨c,z⟩;refine⟨i,?_⟩;have d:(n==m)=false:=by simpa using e
    simp[ĕ,d,h']
def Ah(a b:Scope):List (Str×NameKind):=a.names.map λ(n,k)=>if(k==.free&&b.kind==.function&&b.names.lookup n==some .cell)then(n,.cell)else(n,k)
def qP(a:Scope)(N:L0)(sc:Scope)(idx:Tk):Bool:=
 decide (sc.kind=.function)&&sc.names.all (λy=>decide (sc.names.lookup y.1=some y.2))&&
 sc.names.all (λy=>decide (y.2≠.free) || decide (a.names.lookup y.1=some .cell) || decide (a.names.lookup y.1=some .free))&&
 idx.all (λi=>match N[i]? with
  |some y=>(decide (a.names.lookup y=some .cell) || decide (a.names.lookup y=some .free))&&decide (sc.names.lookup y=some .free)
  |none=>false)
def rlS(sc a:Scope):Scope:={sc with names:=Ah sc a}
abbrev Dj(a:Env)(sc:Scope)(C:Addr):List (Str×Addr):=cellsFrom (C+1) sc.names (qN a sc.names [])
theorem wA: ∀(l:List (Str×NameKind))(n:Nat)(a:List (Str×Addr)),cellsFrom n l a=cellsFrom n l []++a
 |[],n,a=>rfl
 |_::l,n,a=>by
  unfold cellsFrom;split
  .rw[wA l _ _,wA l _ [_],aA];rfl
  .exact wA l n a
theorem vC: ∀(l:List (Str×NameKind))(n:Nat){x:Str}{c:Addr},(x,c)∈cellsFrom n l []->(x,NameKind.cell)∈l/\n<=c
 |[],n,x,c,h=>nomatch h
 |(y,k)::l,n,x,c,h=>by
  unfold cellsFrom at h;split at h
  .rename_i d;rw[wA]at h;rcases ê.mp h with h|h
   .obtain⟨h1,b⟩:=vC l _ h;exact⟨mO _ h1,by lia⟩
   .have e:=mS.mp h;cases e;have a:=by simpa using d
    subst a;exact⟨mF0,à _⟩
  .obtain⟨h1,b⟩:=vC l n h;exact⟨mO _ h1,b⟩
def uB{l:List (Str×NameKind)}{C:Nat}{x:Str}{c:Addr}(h:(x,c)∈cellsFrom (C+1) l []){n:Nat}(a:n<=C):n<c:=lt_of_le_of_lt a (vC l _ h).2
theorem rZ: ∀(l:List (Str×NameKind))(n:Nat){x:Str},(x,NameKind.cell)∈l-> ∃c,(x,c)∈cellsFrom n l []
 |[],n,x,h=>nomatch h
 |(y,k)::l,n,x,h=>by
  unfold cellsFrom;rcases mC.mp h with e|h
  .cases e;rw[wA];exact⟨n,ö _ mF0⟩
  .split
   .obtain⟨c,a⟩:=rZ l _ h;rw[wA];exact⟨c,Đ _ a⟩
   .exact rZ l n h
theorem own_apart: ∀(l:List (Str×NameKind))(n:Nat),(cellsFrom n l []).Pairwise λx y=>x.2≠y.2
 |[],n=>List.Pairwise.nil
 |_::l,n=>by
  unfold cellsFrom;split
  .rw[wA];refine List.pairwise_append.mpr ⟨own_apart l _,pairwise_singleton _ _,λa c b d e=>?_⟩;rw[mS.mp d]at e;have:=(vC l _ c).2;exact Ē this e
  .exact own_apart l n
theorem oG{β:Type}(x:Str): ∀(l m:List (Str×β)),(l++m).lookup x=(l.lookup x).or (m.lookup x)
 |[],m=>rfl
 |(y,b)::l,m=>by
  rw[List.cons_append,ĕ,ĕ]
  cases x==y with
  |true=>rfl
  |false=>exact oG x l m
theorem JD{β:Type}{x:Str}: ∀{l:List (Str×β)},(∀c,(x,c)∉l)->l.lookup x=none
 |[],_=>rfl
 |(y,b)::l,h=>by
  rw[ĕ]
  cases e:x==y with
  |true=>rw[beq_iff_eq.mp e]at h;exact absurd mF0 (h b)
  |false=>exact JD λc a=>h c (mO _ a)
def eV{a:Env}{C:Addr}{x:Str}{c:Addr}(e:(Dj a sc C).lookup x=some c):(x,c)∈cellsFrom (C+1) sc.names []\/(qN a sc.names []).lookup x=some c:=by
 unfold Dj at e;rw[wA,oG]at e
 cases z:(cellsFrom _ sc.names []).lookup x with
 |some c'=>rw[z]at e;cases e;exact .inl (PySem.mem_of_lookup z)
 |none=>rw[z]at e;exact .inr e
def Vn{a:Env}{C:Addr}{x:Str}{c:Addr}(h:(x,NameKind.cell)∈sc.names)(e:(Dj a sc C).lookup x=some c):(x,c)∈cellsFrom (C+1) sc.names []:=by unfold Dj at e;rw[wA,oG]at e;obtain⟨b,h'⟩:=hZ (rZ sc.names _ h);rw[h']at e;cases e;exact PySem.mem_of_lookup h'
theorem Lv{a:Env}{C:Addr}{x:Str}(h:(x,NameKind.cell)∉sc.names):(Dj a sc C).lookup x=(qN a sc.names []).lookup x:=by unfold Dj;rw[wA,oG,JD λc b=>h (vC _ _ b).1];rfl
def BH(σ:St)(idx:Tk):St:=idx.map λi=>(σ[i]?).join
def iM(σ:St)(idx:Tk):(BH σ idx).length=idx.length:=by unfold BH;rw[lM]
def zH(X:Cx)(sc:Scope)(T:L0)(idx:Tk)(C:Addr)(s₂:Ņ)(H1:Hp)(fp:K0):Cx where
 prog:=X.prog
 w:=X.w
 K:=X.K
 mg:=X.mg
 base:=X.base
 A:=X.A
 N:=T++idx.map λi=>(X.N[i]?).getD Str.empty
 s₀:=s₂
 H₀:=H1
 env:=compEnvC sc (Dj X.env sc C) C X.env
 outer:=X.stack
 stack:=X.stack
 ex:=fp
 fn:=λx=>sc.names.lookup x==some .cell
 calm:=X.calm
 pn:=[]
 xe:=λ_ _=>False
def Eo(j:TI)(g:TG)(k:Addr->Ņ->Hp->List Addr->TT)(te:Addr->Ņ->Hp->List Addr->TE)(nt:Nat)(idx:Tk):TE:=λσ H Q=>j σ H λJ H1=> ∃W:Nat->Nat->List V->Hp->Prop,(∃m,W 0 m [] H1)/\ ∀i m ys c,W i m ys c->ys.length<=sizeLine/\
 ((J.stop i c/\ ∀D,c D=none->Q (.ref D) (xG c D (.lst ys)))\/
   (J.go i c/\ys.length<sizeLine/\ ∀x h,J.yld i c x h-> ∀τ:St,τ.length=nt->g x (τ++BH σ idx) h λa n=>(∃d,a=d++BH σ idx/\d.length=nt)/\
    ∀C s₂ fp,k C s₂ H1 fp a n λb H5=>if b=true then te C s₂ H1 fp a H5 λy H6=> ∃e,e<m/\W (i+1) e (ys++[y]) H6 else∃e,e<m/\W (i+1) e ys H5))
section
variable{prog:ň}{w:World}{A:Ň}{R:Result->Ņ->Prop}{s:Ņ}
def LD{a:Expr}{q:Scope}{it y:ņ}{i:Env}(I:Nat->Ņ->Prop)
  (turn: ∀n s,I n s->wpAny (model prog w) A (pyNext it) (λr e=>match r with
   |none=>R (.ok .next) e
   |some v=>wpAny (model prog w) A (letOwnedTupleGo a it v) (λ_ d=>wpAny (model prog w) A (assign a i v) (λ_ s₂=>
     wpAny (model prog w) A (forIn ifs true λc r=>if r=true then do let ok <-isTrue c i (eval c i);pure (ForInStep.yield ok)else pure (ForInStep.yield r)) (λok b=>
      if ok=true then wpAny (model prog w) A (eval elt i) (λx j=>
       wpAny (model prog w) A (call (.builtin "list.append") [y,x]) (λ_ k=> ∃m,m<n/\I m k) (λ_ _=>False) j) (λ_ _=>False) b
      else∃m,m<n/\I m b) (λ_ _=>False) s₂) (λ_ _=>False) d) (λ_ _=>False) e) (λ_ _=>False) s)
  (n:Nat) (h:I n s):codeAny (model prog w) A (.compLoop (.ListComp elt [⟨a,iter,ifs,0⟩] q pos) 0 it y i) R s:=by
 refine codeAny_loop rfl I (λn s F=>?_) n h;show wpAny _ A _ _ _ s;refine wpAny_noted ?_;have no: ∀{E:VP}(v:ņ)(s':Ņ),False->E v s':=λ_ _ z=>z.elim;refine wB (wpAny_standAt (wB (ā (turn n s F) (λr e p=>?_) (no))))
 cases r with
 |none=>exact wP p
 |some v=>
  refine wB (ā p (λ_ d u=>wB (ā u (λ_ s₂ D=>wB (ā D (λok b o=>?_) no)) no)) no)
  cases ok with
  |false=>exact wP ⟨rfl,o⟩
  |true=>
   exact wB (wB (ā o (λx j B=>wB (ā B (λ_ k C=>wP (wP ⟨rfl,C⟩)) no)) no))
end
def Ai(X:Cx)(ifs:R0)(t:TT):Prop:=
 ∀(pins:N0)(s:Ņ)(σ:St)(H:Hp)(Q:Bool->Hp->Prop),Inv X pins σ H s->t σ H Q->
  wpAny (model X.prog X.w) X.A (forIn ifs true λc r=>if r=true then do let ok <-isTrue c X.env (eval c X.env);pure (ForInStep.yield ok)else pure (ForInStep.yield r)) (TP X pins σ Q) X.xe s
def K6:TT:=λ_ H Q=>Q true H
def Ep{X:Cx}:Ai X [] K6:=λ_ _ _ H _ I h=>wpAny_tests_nil ⟨H,I,h⟩
def Es{X:Cx}{c:Expr}{t:TT}(h:PT X c t):Ai X [c] t:=λpins s σ H Q I q=>wpAny_tests_one (h pins s σ H Q I q)
structure CompF(osc:Scope)(N:L0)(sc:Scope)(idx:Tk):Prop where
 kind:sc.kind=.function
 uni: ∀y∈sc.names,sc.names.lookup y.1=some y.2
 frees: ∀y∈sc.names,y.2=.free->osc.names.lookup y.1=some .cell\/osc.names.lookup y.1=some .free
 cap: ∀i∈idx, ∃y,N[i]? =some y/\(osc.names.lookup y=some .cell\/osc.names.lookup y=some .free)/\sc.names.lookup y=some .free
def CompF.locs{a:Scope}{N:L0}{idx:Tk}(F:CompF a N sc idx): ∀y∈sc.names,y.2=.local->sc.names.lookup y.1=some .local:=λy b e=>by rw[F.uni y b,e]
def Lx{a:Scope}{N:L0}{idx:Tk}(h:qP a N sc idx=true):CompF a N sc idx:=by
 unfold qP at h;simp only[aE,ó,î,ĝ]at h;obtain⟨⟨⟨h1,j⟩,d⟩,c⟩:=h;refine⟨h1,λy b=>j y b,λy b e=>?_,λi hi=>?_⟩
 .rcases d y b with(z|z)|z
  .exact absurd e z
  .exact .inl z
  .exact .inr z
 .have q:=c i hi
  cases e:N[i]? with
  |none=>rw[e]at q;cases q
  |some y=>
   rw[e]at q;simp only[aE,î,ĝ]at q;exact⟨y,rfl,q.1,q.2⟩
def Et{a:Scope}{x:Str}(h:(Ah sc a).lookup x=some .cell\/(Ah sc a).lookup x=some .free):(x,NameKind.free)∈sc.names\/(x,NameKind.cell)∈sc.names:=by
 have b: ∀c,(c=.cell\/c=.free)->(x,c)∈Ah sc a->(x,NameKind.free)∈sc.names\/(x,NameKind.cell)∈sc.names:=by
  intro c i m;obtain⟨⟨n,k⟩,d,e⟩:=mM.mp m;dsimp only at e;split at e
  .rename_i j;cases e;rw[aE,aE]at j;have:=by simpa using j.1.1
   subst this;exact .inl d
  .cases e;rcases i with rfl|rfl
   .exact .inr d
   .exact .inl d
 rcases h with h|h
 .exact b _ (.inl rfl) (PySem.mem_of_lookup h)
 .exact b _ (.inr rfl) (PySem.mem_of_lookup h)
theorem JE{a:Scope}{x:Str}: ∀{l:List (Str×NameKind)},l.lookup x=some .free->(l.map λ(n,k)=>if(k==NameKind.free&&a.kind==.function&&a.names.lookup n==some .cell)then(n,NameKind.cell)else(n,k)).lookup x=some .cell\/(l.map λ(n,k)=>if(k==NameKind.free&&a.kind==.function&&a.names.lookup n==some .cell)then(n,NameKind.cell)else(n,k)).lookup x=some .free
 |[],h=>by simp at h
 |(n,k)::l,h=>by
  have c:=@JE a x l;rw[ĕ]at h;rw[è];by_cases d:(k==NameKind.free&&a.kind==.function&&a.names.lookup n==some .cell)=true
  .dsimp only;rw[iP d,ĕ]
   cases b:x==n with
   |true=>exact .inl rfl
   |false=>rw[b]at h;exact c h
  .dsimp only;rw[iN d,ĕ]
   cases b:x==n with
   |true=>rw[b]at h;exact .inr h
   |false=>rw[b]at h;exact c h
section
variable{X:Cx}{pins:N0}{σ:St}{H1:Hp}{s₂:Ņ}{sc:Scope}{T:L0}{idx:Tk}{C:Addr}{fp:K0}
def OL(I:Inv X pins σ H1 s₂)(F:CompF X.env.scope X.N sc idx): ∀y∈sc.names,y.2=.free-> ∃c,X.env.cells.lookup y.1=some c:=
 λy a e=>I.ok.has y.1 (F.frees y a e)
def jP(I:Inv X pins σ H1 s₂)(F:CompF X.env.scope X.N sc idx){x:Str}{c:Addr}(e:(qN X.env sc.names []).lookup x=some c):X.env.cells.lookup x=some c:=
 CY sc.names [] (OL I F) (λ_ z=>nomatch z) _ (PySem.mem_of_lookup e)
def Ly(I:Inv X pins σ H1 s₂)(F:CompF X.env.scope X.N sc idx){x:Str}{c:Addr}(a:(x,NameKind.free)∈sc.names)(e:X.env.cells.lookup x=some c):(qN X.env sc.names []).lookup x=some c:=by obtain⟨b,h'⟩:=hZ (qO sc.names [] x a);rw[h'];rw[jP I F h']at e;exact e
def Aj(I:Inv X pins σ H1 s₂)(F:CompF X.env.scope X.N sc idx)(hC:s₂.heap.objs.size<=C)(hfp: ∀b∈fp,vB X pins H1 b)(hlt: ∀b∈fp,b<s₂.heap.objs.size):(zH X sc T idx C s₂ H1 fp).Ok where
 mod:=I.ok.mod
 kind:=F.kind
 glob:=I.ok.glob
 blt:=I.ok.blt
 above:=hC
 inj:=λx y c h1 h2=>by
  have low: ∀z,(qN X.env sc.names []).lookup z=some c->c<s₂.heap.objs.size:=λz h=>let ⟨v,q⟩:=I.cell z c (jP I F h);q.lt;rcases eV h1 with z1|z1<;>rcases eV h2 with z2|z2
  .exact PySem.name_of_addr (own_apart sc.names (C+1)) z1 z2
  .exact absurd (low y z2) (Nat.not_lt.mpr (le_of_lt (uB z1 hC)))
  .exact absurd (low x z1) (Nat.not_lt.mpr (le_of_lt (uB z2 hC)))
  .exact I.ok.inj x y c (jP I F z1) (jP I F z2)
 has:=λx hx=>by
  have hx':(Ah sc X.env.scope).lookup x=some .cell\/(Ah sc X.env.scope).lookup x=some .free:=hx;show∃c,(Dj X.env sc C).lookup x=some c;unfold Dj;rw[wA];rcases Et hx' with z|z
  .obtain⟨c,hc⟩:=qO sc.names [] x z;exact hZ ⟨c,ö _ hc⟩
  .obtain⟨c,hc⟩:=rZ sc.names (C+1) z;exact hZ ⟨c,Đ _ hc⟩
 cab:=λx c h e=>by have h':sc.names.lookup x=some .cell:=beq_iff_eq.mp h;exact le_of_lt (uB (Vn (PySem.mem_of_lookup h') e) hC)
 hd:=I.ok.hd
 frames:=I.ok.frames
 stk:=.inl rfl
 exf:=λb hb=>⟨ã (é (hlt b hb) hC),λx c e=>by
  rcases eV e with z|z
  .exact Ē (lt_trans (hlt b hb) (uB z hC))
  .exact(hfp b hb).2.2.2.2.1 x c (jP I F z)⟩
 bs:=I.bs
 bsz:=í I.ok.bsz I.sz
 noex:=λb o e hb=>by
  rcases (hfp b hb).2.2.2.1 with z|z
  .exact I.ok.noex b o e z
  .exact absurd (é (â e) (í I.ok.bsz z)) (Ě _)
 exfs:=λb hb z=>by
  rcases mC.mp (I.stkSub b z)with e|e
  .exact(hfp b hb).2.1 e
  .exact(hfp b hb).2.2.1 e
 funs:=I.stack
 frf:=I.stkFree
theorem SH{d:Ņ}{m:L1}(I:Inv X pins σ H1 s₂)(F:CompF X.env.scope X.N sc idx)(E:s₂.heap.objs.size<=C)(B: ∀b∈fp,vB X pins H1 b)(w: ∀b∈fp,b<s₂.heap.objs.size)
  (kp: ∀b o,s₂.heap.get? b=some o->d.heap.get? b=some o) (ho:d.os=s₂.os) (hg:d.gens=s₂.gens) (hn:d.heap.Ns C m) (hcl: ∀x c,(x,c)∈cellsFrom (C+1) sc.names []->d.heap.IsCell c none):
  Inv (zH X sc T idx C s₂ H1 fp) [] (T.map (λ_=>none)++BH σ idx) H1 d:=by
 have h: ∀c v,s₂.heap.IsCell c v->d.heap.IsCell c v:=λc v ⟨o,h1,Q⟩=>⟨o,kp c o h1,Q⟩
 refine⟨Aj I F E B w,ho,by rw[hg];exact I.bare,Un.kept kp,⟨m,hn,λi x v e1 e2 W=>?_⟩,λx c e=>?_,I.hok.fresh E,λx c e=>?_,λp S=>absurd (show p∈([]:List _)from S) (by simp),I.hok.kept kp,?_⟩
 .have k:(T++idx.map λi=>(X.N[i]?).getD Str.empty)[i]? =some x:=e1;by_cases hi:i<T.length
  .rw[ë (by simpa using hi),ò]at e2
   cases z:T[i]? with
   |none=>rw[z]at e2;cases e2
   |some y=>rw[z]at e2;cases e2
  .rw[ð (by simpa using hi)]at e2;rw[ð #[0]]at k;rw[lM]at e2;unfold BH at e2;rw[ò]at k e2
   cases z:idx[i - T.length]? with
   |none=>rw[z]at e2;cases e2
   |some j=>
    rw[z]at k e2;have K:=ô z;obtain⟨y,J,G,D⟩:=F.cap j K;have ex:=by have q:(X.N[j]?).getD Str.empty=x:=å k;rw[J]at q;exact q
    subst ex
    have M:σ[j]? =some (some v):=by
     have q:(σ[j]?).join=some v:=å e2
     cases H:σ[j]? with
     |none=>rw[H]at q;cases q
     |some a=>rw[H]at q;have P:a=some v:=q;rw[P]
    obtain⟨U,O,s⟩:=I.loc;have A:D9 X.env.scope y:=G.elim (λz=>.inr (.inl z)) λz=>.inr (.inr z);obtain⟨u,r,l⟩:=s j y v J M A;refine⟨u,r,?_⟩;rcases l with⟨kl,_⟩|⟨_,c,hc,q⟩
    .have n:X.env.scope.names.lookup y=some .local:=kl;rcases G with z|z<;>rw[z]at n<;>cases n
    .have L:(y,NameKind.cell)∉sc.names:=λz=>by have:=F.uni _ z;rw[D]at this;cases this
     refine .inr ⟨JE D,c,?_,h c _ q⟩;show(Dj X.env sc C).lookup y=some c;rw[Lv L];exact Ly I F (PySem.mem_of_lookup D) hc
 .rcases eV e with z|z
  .exact⟨none,hcl x c z⟩
  .obtain⟨v,q⟩:=I.cell x c (jP I F z);exact⟨v,h c v q⟩
 .rcases eV e with z|z
  .exact I.hok.fresh (le_of_lt (uB z E))
  .exact I.freeC x c (jP I F z)
 .show(T.map (λ_=>_)++BH σ idx).length=(T++idx.map λi=>(X.N[i]?).getD Str.empty).length;rw[lA,lA,lM,lM,iM]
def SI{p:St}{H':Hp}{s':Ņ}{h':Heap}{D:Addr}{ys:List V}{its:B0}{n:Nat}(I:Inv X pins σ H1 s₂)(y:s₂.heap.objs.size<=C)(i: ∀b∈fp,vB X pins H1 b)
  (J:Inv (zH X sc T idx C s₂ H1 fp) [] p H' s') (hs:Heap.SameBut C s'.heap h') (hD:s₂.heap.objs.size<=D) (hDC:D≠C) (eD:s'.heap.get? D=some {cls:=.type "list",data:=.seq its.toArray n}) (nD:H' D=none) (r:Vals ys its) (hz:ys.length<=sizeLine):
  Inv X pins σ (xG H' D (.lst ys)) {s' with heap:=h'}:=by
 have h: ∀b o,s₂.heap.get? b=some o->b≠C/\b≠D:=λb o e=>⟨ã (é (â e) y),ã (é (â e) hD)⟩
 have d: ∀b u,H1 b=some u->b≠D:=λb u e=>ã (é (I.hok.lt e) hD);have s:=J.free;have B:Un _ fp H1 H' s₂.heap s'.heap:=J.base;have m: ∀b o,b≠C->s'.heap.get? b=some o->h'.get? b=some o:=λb o a e=>(hs.2 b a).trans e;refine I.call' J.os ⟨λb o e q a j=>?_,λb o e q a j=>?_,λb o e q j=>?_,λb o e j=>?_,λb xs e=>?_,λb o u e=>?_,λb ps e=>?_⟩ ?_ J.bare λb a=>⟨(i b a).2.2.2.1,(i b a).2.1,(i b a).2.2.2.2.1,(i b a).2.2.2.2.2⟩
 .exact m b o (h b o e).1 (B.keep b o e q a j)
 .obtain⟨sl,z⟩:=B.slot b o e q a j;exact⟨sl,m b _ (h b o e).1 z⟩
 .rw[zF (h b o e).2];exact B.free b o e q j
 .obtain⟨o',z⟩:=B.there b o e j;exact⟨o',m b o' (h b o e).1 z⟩
 .rw[zF (d b _ e)];exact B.tups b xs e
 .rw[zF (d b _ e)];exact B.frzs b o u e
 .obtain⟨k,z⟩:=B.tbls b ps e;exact⟨k,by rw[zF (d b _ e)];exact z⟩
 .intro b u e;by_cases a:b=D
  .subst a;rw[zV]at e;cases e;exact⟨hz,its,n,r,m b _ hDC eD⟩
  .rw[zF a]at e;refine(J.hok b u e).stay (λc v w q=>m c v ?_ q) (λc q=>by rw[zF (zU q nD)];exact q) λc xs q=>by rw[zF (zU q nD)];exact q
   rcases w with z|z
   .rw[z];exact zU e s
   .exact zU z s
end
section
variable{X:Cx}
def HY{M:Model}{A:Ň}{E:VP}{s:Ņ}{a:Scope}{c:Addr}{b:List (Str×Addr)}{qual:Str}{d:Env}{Q:Env->Ņ->Prop}
  (hQ:Q (newEnv a s.heap.objs.size c (cellsFrom (s.heap.objs.size+1) a.names b) qual none .none (some d) builtinsNs) {s with heap:=pushCells (s.heap.push {cls:=.type "dict",data:=.dict #[]}) a.names}):
  wpAny M A (newFunctionEnv a c b [] qual none .none (some d)) Q E s:=by
 simp only[newFunctionEnv,Option.isSome_some,if_true];refine wB (wpAny_alloc ?_);refine wB (wpAny_layCells _ (λname kind h=>by cases e:kind==NameKind.cell<;>simp[e]) _ _ _ _ ?_);rw[show({s with heap:=s.heap.push {cls:=.type "dict",data:=.dict #[]}}:Ņ).heap.objs.size=s.heap.objs.size+1 from ė ..];exact wB (wP (wP hQ))
theorem OM{C:Cx->Prop}{tg:Expr}{wi:TI}{g:TG}{tc:Addr->Ņ->Hp->List Addr->TT}{te:Addr->Ņ->Hp->List Addr->TE}(T:L0)(idx:Tk)
  (hi:F6 C X tg iter wi) (hCx: ∀c s₂ B fp pins σ,Inv X pins σ B s₂->C (zH X sc T idx c s₂ B fp)) (hB:qP X.env.scope X.N sc idx=true)
  (hg: ∀C s₂ H1 fp,PG (zH X sc T idx C s₂ H1 fp) tg g)
  (hc: ∀C s₂ H1 fp,Ai (zH X sc T idx C s₂ H1 fp) ifs (tc C s₂ H1 fp))
  (he: ∀C s₂ H1 fp,PE (zH X sc T idx C s₂ H1 fp) elt (te C s₂ H1 fp))
  (hs: ∀x,foldedSetIterable iter X.env x=pure x:=by intro _;rfl)
  {pins:N0} {s:Ņ} {σ:St} {H:Hp} {Q:VK} {use:Option (ņ->Sem Unit)} {Q':VP} (I:Inv X pins σ H s) (h:Eo wi g tc te T.length idx σ H Q)
  (fin: ∀(D C:Addr)(L:Ņ)(H':Hp)(r:_),(∀h',Heap.SameBut C L.heap h'->Inv X pins σ H' {L with heap:=h'})->vB X pins H' C->(∃m,L.heap.Ns C m)->Q (.ref D) H'->
   compPost (model X.prog X.w) X.A X.xe use Q' (.ref D) C (.ok r) L):
  wpAny (model X.prog X.w) X.A (comprehension (.ListComp elt [⟨tg,iter,ifs,0⟩] sc pos) sc X.env (firstIterPos [⟨tg,iter,ifs,0⟩] pos) (newList []) false (eval iter X.env) use) Q' X.xe s:=by
 have cf:=Lx hB;refine wpAny_comprehension_free rfl hs (HX (OL I cf)) cf.kind cf.locs ?_;refine jD (hi pins s σ H _ I h) λv s1 h1=>jD h1 λa9 a h2=>?_;obtain⟨it,fp,tn,J,B,e,P,G,Z,f2,W,⟨m0,w0⟩,av⟩:=h2;subst e;have ag: ∀b∈fp,b<a.heap.objs.size:=λb j=>let ⟨o,e,_⟩:=G.obj _ _ Z b j;â e;refine Ċ (HY ?_);dsimp only;generalize ai:a.heap.push {cls:=.type "list",dict:=none,data:=.seq ([]:B0).toArray}=HH;generalize aa:pushCells (HH.push {cls:=.type "dict",data:=.dict #[]}) sc.names=h₁;have U:h₁.Ns HH.objs.size (λ_=>none):=aa▸(Heap.Ns.new HH (.type "dict")).keeps (pushCells_keeps _ _);have hC:HH.objs.size=a.heap.objs.size+1:=by rw[<-ai,ė]
 have S:a.heap.objs.size≠HH.objs.size:=by rw[hC];exact ã (ģ _)
 have E:a.heap.objs.size<=HH.objs.size:=by rw[hC];exact le_succ _
 have ar: ∀b o,HH.get? b=some o->h₁.get? b=some o:=λb o e=>aa▸pushCells_keeps _ _ b o (hP0 _ e);have af: ∀b o,a.heap.get? b=some o->h₁.get? b=some o:=λb o e=>ar b o (ai▸hP0 _ e);have a8:h₁.get? a.heap.objs.size=some {cls:=.type "list",data:=.seq ([]:B0).toArray 0}:=ar _ _ (ai▸ä _ rfl);have a6: ∀x c,(x,c)∈cellsFrom (HH.objs.size+1) sc.names []->h₁.IsCell c none:=λx c hm=>by have ok:=cellsFrom_ok sc.names (HH.push {cls:=.type "dict",data:=.dict #[]}) 0 [] ⟨λ_ _ hm=>(nomatch hm),List.Pairwise.nil⟩ (zero_le _);rw[ė,aa]at ok;exact(ok.empty x c hm).1
 have az:B a.heap.objs.size=none:=P.hok.fresh (à _)
 have cD: ∀x c,(Dj X.env sc HH.objs.size).lookup x=some c->c≠a.heap.objs.size:=λx c e=>by
  rcases eV e with z|z
  .exact Ē (uB z E)
  .obtain⟨v,q⟩:=P.cell x c (jP P cf z);exact ã q.lt
 have Y: ∀L:Ņ,L={a with heap:=h₁}->
   codeAny (model X.prog X.w) X.A (.compLoop (.ListComp elt [⟨tg,iter,ifs,0⟩] sc pos) 0 (.ref it) (.ref a.heap.objs.size) (compEnvC sc (Dj X.env sc HH.objs.size) HH.objs.size X.env))
    (compPost (model X.prog X.w) X.A X.xe use Q' (.ref a.heap.objs.size) HH.objs.size) L:=by
  rintro L rfl
  have J0:Inv (zH X sc T idx HH.objs.size a B fp) [] (T.map (λ_=>none)++BH σ idx) B {a with heap:=h₁}:=
   SH P cf E f2 ag af rfl rfl U a6
  refine LD (λk s'=> ∃(i:Nat)(ys:List V)(its:B0)(n:Nat)(H':Hp)(τ:St),Inv (zH X sc T idx HH.objs.size a B fp) [] (τ++BH σ idx) H' s'/\τ.length=T.length/\tn i s'.heap/\(∀b∈fp,H' b=none)/\
   s'.heap.get? a.heap.objs.size=some {cls:=.type "list",data:=.seq its.toArray n}/\H' a.heap.objs.size=none/\Vals ys its/\W i k ys H') ?_ m0
   ⟨0,[],[],0,B,_,J0,by rw[lM],G.keep _ _ _ Z λb _ o e=>af b o e,λb j=>(f2 b j).1,a8,az,.nil,w0⟩
  rintro k s3 ⟨i,ys,its,n,H3,τ,I3,a5,ao,aw,a4,ah,r3,w3⟩;obtain⟨hz,a3⟩:=av i k ys H3 w3;have aq:a.heap.objs.size∉(zH X sc T idx HH.objs.size a B fp).fs:=λz=>by obtain⟨_,o,ho,_⟩:=P.stack.mem (show a.heap.objs.size∈ZU X.stack from z);exact absurd (â ho) (Ě _)
  have au: ∀{H':Hp}{s':Ņ},s'.heap.get? a.heap.objs.size=some {cls:=.type "list",data:=.seq its.toArray n}->H' a.heap.objs.size=none->
    ∀p∈[(a.heap.objs.size,({cls:=.type "list",data:=.seq its.toArray n}:Obj))],s'.heap.get? p.1=some p.2/\H' p.1=none/\p.1≠(zH X sc T idx HH.objs.size a B fp).env.locals/\p.1∉(zH X sc T idx HH.objs.size a B fp).fs/\ ∀v,p.2.data≠.cell v:=
   λ{H' s'} e1 e2 p M=>by
    have ep:p=(a.heap.objs.size,{cls:=.type "list",data:=.seq its.toArray n}):=by simpa using M
    subst ep;exact⟨e1,e2,S,aq,λv z=>by cases z⟩
  have P3:Inv (zH X sc T idx HH.objs.size a B fp) [_] (τ++BH σ idx) H3 s3:=I3.pins_of (au a4 ah)
  have K: ∀{H':Hp},(∀b∈fp,H' b=none)-> ∀b∈fp,vB (zH X sc T idx HH.objs.size a B fp) [_] H' b:=λ{H'} hn b j=>by
   have ab:=ag b j;refine⟨hn b j,ã (é ab E),I3.ok.exfs b j,.inl j,λx c e=>?_,λp M=>?_⟩
   .rcases eV e with z|z
    .exact Ē (lt_trans ab (uB z E))
    .exact(f2 b j).2.2.2.2.1 x c (jP P cf z)
   have ep:p=(a.heap.objs.size,({cls:=.type "list",data:=.seq its.toArray n}:Obj)):=by simpa [zH]using M
   subst ep;exact Ē ab
  rcases a3 with⟨stop,q⟩|⟨go,hl2,step⟩
  .refine jD (G.done (zH X sc T idx HH.objs.size a B fp) rfl rfl rfl (hCx _ _ _ _ _ _ P) i _ s3 _ H3 (λ_ _=>False) P3 (K aw) ao stop) λr L ⟨hr,I4⟩=>?_;subst hr;obtain⟨m,hn,_⟩:=id I4.loc;have a7:=(I4.pin (a.heap.objs.size,{cls:=.type "list",data:=.seq its.toArray n}) (by simp)).1;exact fin _ _ L _ _ (λh' aP=>SI P E f2 (I4.pins_of (λp M=>nomatch M)) aP (à _) S a7 ah r3 hz) (P.fpOk E (by rw[zF (Ne.symm S)];exact I4.free)) ⟨m,hn⟩ (q _ ah)
  .refine jD (G.item (zH X sc T idx HH.objs.size a B fp) rfl rfl rfl (hCx _ _ _ _ _ _ P) i _ s3 _ H3 (λ_ _=>False) P3 (K aw) ao go) λr L ⟨u,hr,h4⟩=>?_;subst hr;refine jD h4 λ_ s5 ⟨x,H5,I5,r5,y5,O,a0⟩=>?_;have ay:=I5.pinned (K a0) (G.obj _ _ O);refine jD (hg HH.objs.size a B fp _ s5 _ H5 x u _ ay r5 (step x H5 y5 τ a5)) λ_ s6 ⟨a',H6,I6,⟨ae,e6,l6⟩,q6⟩=>?_;subst e6;refine jD (hc HH.objs.size a B fp _ s6 _ H6 _ I6 (q6 HH.objs.size a fp)) λok s7 ⟨H7,I7,q7⟩=>?_
   have mD:(a.heap.objs.size,({cls:=.type "list",data:=.seq its.toArray n}:Obj))∈(zH X sc T idx HH.objs.size a B fp).pn++([(a.heap.objs.size,{cls:=.type "list",data:=.seq its.toArray n})]++EI fp s5.heap):=
    ö _ (Đ _ (by simp))
   have mF: ∀b∈fp, ∀o,s5.heap.get? b=some o->(b,o)∈(zH X sc T idx HH.objs.size a B fp).pn++([(a.heap.objs.size,{cls:=.type "list",data:=.seq its.toArray n})]++EI fp s5.heap):=λb j o e=>
    ö _ (ö _ (uA j e))
   cases ok with
   |false=>
    rw[iN xF0]at q7 ⊢;obtain⟨m',ak,w7⟩:=q7;refine⟨m',ak,i+1,ys,its,n,H7,ae,I7.pins_of (λp M=>nomatch M),l6,G.keep _ _ _ O λb j o e=>(I7.pin _ (mF b j o e)).1,λb j=>?_,(I7.pin _ mD).1,(I7.pin _ mD).2.1,r3,w7⟩;obtain⟨o,e,d⟩:=G.obj _ _ O b j;exact(I7.pin _ (mF b j o e)).2.1
   |true=>
    rw[iP rfl]at q7 ⊢;refine jD (he HH.objs.size a B fp _ s7 _ H7 _ I7 q7) λy s8 ⟨yv,H8,I8,r8,m',ak,w8⟩=>?_;have aj:=(I8.pin _ mD).1;have ax:=(I8.pin _ mD).2.1;have hl:=r3.length;have q:=PySem.IsL.update aj (λz=>z.push y);rw[show its.toArray.push y=(its++[y]).toArray by simp]at q;refine call_meets PySem.F.slot_list_append ⟨_,aj,rfl⟩ PySem.F.entry_list_append (PySem.F.args_list_append_2 _ _) (PySem.list_append a.heap.objs.size its.toArray n y (by rw[sA];lia)) ⟨aj,?_⟩;have I9:Inv (zH X sc T idx HH.objs.size a B fp) [] (ae++BH σ idx) H8 s8:=I8.pins_of (λp M=>nomatch M);have up: ∀b o,b≠a.heap.objs.size->s8.heap.get? b=some o->(s8.heap.update a.heap.objs.size (Obj.mapSeq λz=>z.push y)).get? b=some o:=λb o j e=>(Ĥ s8.heap _ (Ne.symm j)).trans e;refine⟨m',ak,i+1,_,_,_,H8,ae,I9.turned up ax S (.inr (à _)) cD (λp M=>nomatch M),l6,?_,λb j=>?_,q,ax,r3.append (.cons r8 .nil),w8⟩
    .exact G.keep _ _ _ O λb j o e=>up b o (ã (ag b j)) (I8.pin _ (mF b j o e)).1
    .obtain⟨o,e,d⟩:=G.obj _ _ O b j;exact(I8.pin _ (mF b j o e)).2.1
 exact codeAny_compStart_list (Y _ rfl) (G.self X.A 0 _ _ _ (G.keep _ _ _ Z λb _ o e=>af b o e) (Y _ rfl))
def Lz{C:Cx->Prop}{tg:Expr}{b:TI}{g:TG}{d:Addr->Ņ->Hp->List Addr->TT}{te:Addr->Ņ->Hp->List Addr->TE}(T:L0)(idx:Tk)
  (hi:F6 C X tg iter b) (hCx: ∀c s₂ e fp pins σ,Inv X pins σ e s₂->C (zH X sc T idx c s₂ e fp)) (hB:qP X.env.scope X.N sc idx=true)
  (hg: ∀C s₂ H1 fp,PG (zH X sc T idx C s₂ H1 fp) tg g)
  (hc: ∀C s₂ H1 fp,Ai (zH X sc T idx C s₂ H1 fp) ifs (d C s₂ H1 fp))
  (he: ∀C s₂ H1 fp,PE (zH X sc T idx C s₂ H1 fp) elt (te C s₂ H1 fp))
  (hs: ∀x,foldedSetIterable iter X.env x=pure x:=by intro _;rfl):
  PE X (.ListComp elt [⟨tg,iter,ifs,0⟩] sc pos) (Eo b g d te T.length idx):=by
 intro pins s σ H Q I h;exact OM T idx hi hCx hB hg hc he hs I h λD C j H' r J _ ⟨m,i⟩ q=>⟨m,i,λh' a=>⟨.ref D,H',J h' a,rfl,q⟩⟩
end
def qE(x:Tk):Str:=⟨x.toArray⟩
def oH(x:Tk):(qE x).length=x.length:=by simp[qE,Str.length]
def Ma(x:Tk):(qE x).cps.toList=x:=by simp[qE]
def vD{x y:Tk}(h:qE x=qE y):x=y:=by have:=congrArg (λs=>s.cps.toList) h;simpa [qE]using this
def Mb(x y:Tk):qE x++qE y=qE (x++y):=by show Str.append _ _=_;simp[Str.append,qE]
theorem Mc(c:Nat):(⟨#[c]⟩:Str)=qE [c]:=rfl
def cN{α:Type}(xs:List α)(lo hi:P0):List α:=(xs.drop (HT.sIx xs.length 0 lo)).take (HT.sIx xs.length xs.length hi - HT.sIx xs.length 0 lo)
theorem strIdx(lo hi:P0)(n:Nat):Builtin.Str.strSliceIndices lo hi 1 n=(List.range (HT.sIx n n hi - HT.sIx n 0 lo)).map (HT.sIx n 0 lo+·):=by
 have e1:(match lo with |none=>(if(1:Int)>0 then(0:Int)else(n:Int) - 1)|some i=>if(1:Int)>0 then max 0 (min (if i<0 then i+(n:Int)else i) (n:Int))else max (-1) (min (if i<0 then i+(n:Int)else i) ((n:Int) - 1)))=((HT.sIx n 0 lo:Nat):Int):=by
  cases lo with
  |none=>simp[HT.sIx]
  |some i=>
   simp only[HT.sIx,show(1:Int)>0 by decide,if_true];by_cases h:i<0
   .simp only[h,if_true];lia
   .simp only[h,iF];lia
 have e2:(match hi with |none=>(if(1:Int)>0 then(n:Int)else -1)|some i=>if(1:Int)>0 then max 0 (min (if i<0 then i+(n:Int)else i) (n:Int))else max (-1) (min (if i<0 then i+(n:Int)else i) ((n:Int) - 1)))=((HT.sIx n n hi:Nat):Int):=by
  cases hi with
  |none=>simp[HT.sIx]
  |some i=>
   simp only[HT.sIx,show(1:Int)>0 by decide,if_true];by_cases h:i<0
   .simp only[h,if_true];lia
   .simp only[h,iF];lia
 rw[<-sliceRange_one];unfold Builtin.Str.strSliceIndices;rw[<-e1, <-e2];cases lo<;>cases hi<;>rfl
theorem Ak(x:Tk)(lo hi:P0):Txt.slice (qE x) lo hi=qE (cN x lo hi):=by
 unfold Txt.slice;rw[strIdx,oH];have b:=by have:=pick_run (qE x).cps (HT.sIx x.length 0 lo) (HT.sIx x.length x.length hi - HT.sIx x.length 0 lo);exact this
 rw[b];split
 .rename_i a;rw[aE]at a;have c:=by simpa using a.2
  have d:HT.sIx x.length x.length hi<=x.length:=HT.sIx_le _ _ (à _) _;have h:HT.sIx x.length 0 lo<=x.length:=HT.sIx_le _ _ (zero_le _) _;have e:HT.sIx x.length 0 lo=0:=by lia
  unfold cN;rw[c,e];simp
 .rfl
section
variable{X:Cx}
def rSlS:V->Option Int->Option Int->Hp->VK->Prop:=λx lo hi H Q=> ∃cs,x=.str (qE cs)/\cs.length<=sizeLine/\Q (.str (qE (cN cs lo hi))) H
def Vo:SlR X rSlS:=by
 intro pins s σ H x v w r lo hi sl Q I p hs n e h;obtain⟨cs,rfl,m,q⟩:=h;obtain⟨t,rfl⟩:=p;have c:(Txt.slice (qE cs) lo hi).length<=sizeLine:=í (Txt.slice_le _ _ _) (by rw[oH];exact m);rw[<-Ak]at q;refine⟨"str",_,slot_str_getitem.lookup,typeIs_str _ _ _,?_⟩;obtain⟨o,a,d,b⟩:=hs
 cases n with
 |none=>
  cases e with
  |none=>exact ķ (l:=none) (u:=none) (st:=none) ⟨o,a,d,b⟩ rfl (post_val_or_str ⟨c,λt' k=>⟨.str _,H,I.tok _,⟨_,rfl⟩,q⟩⟩)
  |int j uj=>exact ķ (l:=none) (u:=some (j,uj)) (st:=none) ⟨o,a,d,b⟩ rfl (post_val_or_str ⟨c,λt' k=>⟨.str _,H,I.tok _,⟨_,rfl⟩,q⟩⟩)
 |int i ui=>
  cases e with
  |none=>exact ķ (l:=some (i,ui)) (u:=none) (st:=none) ⟨o,a,d,b⟩ rfl (post_val_or_str ⟨c,λt' k=>⟨.str _,H,I.tok _,⟨_,rfl⟩,q⟩⟩)
  |int j uj=>exact ķ (l:=some (i,ui)) (u:=some (j,uj)) (st:=none) ⟨o,a,d,b⟩ rfl (post_val_or_str ⟨c,λt' k=>⟨.str _,H,I.tok _,⟨_,rfl⟩,q⟩⟩)
def LE:CallR X (.builtin "all") (λxs H Q=> ∃(a:Addr)(bs:O0),xs=[.ref a]/\SqL X.K H a (bs.map V.bl)/\X.calm=true/\Q (.bl (bs.all id)) H):=by
 intro pins s σ H xs us Q I r h;obtain⟨a,bs,rfl,F,z,q⟩:=h;obtain⟨u,rfl,D⟩:=vals1 r;cases D;obtain⟨its,y,p,N⟩:=I.list F;have c:its.length=bs.length:=by rw[<-y.length,lM]
 refine PySem.call_all_walk (wpAny_pyIter_list p.isList ?_);have E:a≠s.heap.objs.size:=by obtain⟨o,A,_⟩:=p.isList;exact ã (â A)
 have I1: ∀(h':Heap)(tk:Nat),(∀b o,b∉[s.heap.objs.size]->(s.heap.push {cls:=.type "list_iterator",data:=.fields #[.ref a,.int 0 0]}).get? b=some o->h'.get? b=some o)->Inv X pins σ H {s with heap:=h',toks:=tk}:=λh' tk k=>
  I.kept λb o e=>k b o (by simpa using ã (â e)) (hP0 _ e)
 refine⟨_,_,_,_,_,_,λi=>bs.getD i false,rfl,PySem.Walks.list (by first |exact I.ok.hd z|exact(I.ok.hd z)) _ a E its.toArray,⟨⟨_,ä _ rfl,rfl,rfl⟩,p.isList.at λo e=>hP0 _ e⟩,?_,λh' tk k=>?_⟩
 .intro i v s' J M B w;have d:=by simpa using B
  have hi:i<bs.length:=by rw[<-c];exact(gS.mp d).1
  have G:(bs.map V.bl)[i]? =some (V.bl (bs.getD i false)):=by simp[ÿ,hi]
  obtain⟨L,j,n⟩:=y.get G;rw[d]at j;cases j;cases n;exact Ć w
 .refine⟨_,H,I1 h' tk k,?_,q⟩;congr 1;rw[sA,c]
  have: ∀(l:O0),(List.range l.length).all (λi=>l.getD i false)=l.all id:=by
   intro l;rw[Ą,ó,ó];constructor
   .intro h x C;obtain⟨i,hi,rfl⟩:=Ń C;have:=h i (ç.mpr hi);simpa [ÿ,hi]using this
   .intro h i hi;have m:=ç.mp hi;have:=h l[i] (ŀ m);simpa [ÿ,m]using this
  exact this bs
end
section
variable{X:Cx}
def PU(X:Cx)(e:Expr)(t:TE):Prop:= ∀(i:Nat)(x:Str)(pos' pos:Pos),X.N.Nodup->X.N[i]? =some x->Loc X.env.scope x->(X.fn x=true\/X.env.scope.names.lookup x=some .local)->
 swapsWith e (some (.Name x pos')) pos.line X.env=pure true->PS X (.Assign [.Name x pos'] e pos) (Uo t (Dx i))
def Me{C:Cx->Prop}{tg:Expr}{w:TI}{g:TG}{z:Addr->Ņ->Hp->List Addr->TT}{te:Addr->Ņ->Hp->List Addr->TE}(T:L0)(idx:Tk)
  (hi:F6 C X tg iter w) (hCx: ∀c s₂ A fp pins σ,Inv X pins σ A s₂->C (zH X sc T idx c s₂ A fp)) (hB:qP X.env.scope X.N sc idx=true)
  (hg: ∀C s₂ H1 fp,PG (zH X sc T idx C s₂ H1 fp) tg g)
  (hc: ∀C s₂ H1 fp,Ai (zH X sc T idx C s₂ H1 fp) ifs (z C s₂ H1 fp))
  (he: ∀C s₂ H1 fp,PE (zH X sc T idx C s₂ H1 fp) elt (te C s₂ H1 fp))
  (hs: ∀x,foldedSetIterable iter X.env x=pure x:=by intro _;rfl):
  PU X (.ListComp elt [⟨tg,iter,ifs,0⟩] sc pos) (Eo w g z te T.length idx):=by
 intro i x pos' y M v E P u pins s σ H D I h;rw[exec_Assign_Name_used _ _ _ _ u];refine wB (wpAny_standAt (wB ?_));refine wB (jD (OM T idx hi hCx hB hg hc he hs I h λL C F H' _ G d p q=>?_) λ_ s' J=>wP (wP J));have B:=G F.heap (Heap.SameBut.refl _ _);refine wpAny_assign_Name (IX B M v E (show RelV (.ref L) _ from rfl) (λs' O ⟨a,r,j⟩=>?_) P);obtain⟨m,p⟩:=p
 have n:C≠a:=by
  rintro rfl;rcases j with j|j
  .exact d.2.1 j
  .exact d.2.2.2.2.1 x _ j rfl
 refine⟨m,p.sameBut r n,λh' k=>⟨_,H',?_,q⟩⟩;exact O.turned (λb o K e=>(k.2 b K).trans e) d.1 d.2.1 d.2.2.2.1 d.2.2.2.2.1 d.2.2.2.2.2
end
end L2
namespace L2
namespace M
open PySem PySem.Spec PyProof.Rows
variable{v:ņ}
def Eu{A:Ň}{s:Ņ}{y x:V}{u:ņ}(e:RelV y u)(c:RelV x v)(h:mN y=true)(d:mN x=true):SeqAt.RcAt A s u v (eqV y x)/\SeqAt.RcNeAt A s u v (!eqV y x):=by
 cases y with
 |non=>
  cases e
  cases x with
  |non=>cases c;exact⟨.none_none,.none_none⟩
  |bl b=>cases c;exact⟨.none_bool b,.none_bool b⟩
  |int b=>obtain⟨t,rfl⟩:=c;exact⟨.none_int b t,.none_int b t⟩
  |str b=>obtain⟨t,rfl⟩:=c;exact⟨.none_str b t,.none_str b t⟩
  |_=>cases d
 |bl a=>
  cases e
  cases x with
  |non=>cases c;exact⟨.bool_none a,.bool_none a⟩
  |bl b=>cases c;exact⟨.bool_bool a b,.bool_bool a b⟩
  |int b=>obtain⟨t,rfl⟩:=c;exact⟨.bool_int a b t,.bool_int a b t⟩
  |str b=>obtain⟨t,rfl⟩:=c;exact⟨.bool_str a b t,.bool_str a b t⟩
  |_=>cases d
 |int a=>
  obtain⟨t',rfl⟩:=e
  cases x with
  |non=>cases c;exact⟨.int_none a t',.int_none a t'⟩
  |bl b=>cases c;exact⟨.int_bool a t' b,.int_bool a t' b⟩
  |int b=>obtain⟨t,rfl⟩:=c;exact⟨.int_int a t' b t,.int_int a t' b t⟩
  |str b=>obtain⟨t,rfl⟩:=c;exact⟨.int_str a t' b t,.int_str a t' b t⟩
  |_=>cases d
 |str a=>
  obtain⟨t',rfl⟩:=e
  cases x with
  |non=>cases c;exact⟨.str_none a t',.str_none a t'⟩
  |bl b=>cases c;exact⟨.str_bool a t' b,.str_bool a t' b⟩
  |int b=>obtain⟨t,rfl⟩:=c;exact⟨.str_int a t' b t,.str_int a t' b t⟩
  |str b=>obtain⟨t,rfl⟩:=c;exact⟨.str_str a t' b t,.str_str a t' b t⟩
  |_=>cases d
 |_=>cases h
abbrev Six(A:Around)(s:Shared)(u v:Value):Prop:=SeqAt.EqAt A s u v false/\SeqAt.EqAt A s v u false/\SeqAt.RcAt A s u v false/\SeqAt.RcAt A s v u false/\SeqAt.RcNeAt A s u v true/\SeqAt.RcNeAt A s v u true
def JF{A:Ň}{s:Ņ}{x:V}{l:Addr}{d:B9}(e:RelV x v)(h:mN x=true)(c:s.heap.IsList l d)(a:A.units<cLine):Six A s (.ref l) v:=by
 cases x with
 |non=>cases e;exact⟨.list_none c a,.none_list c a,.list_none c a,.none_list c a,.list_none c a,.none_list c a⟩
 |bl b=>cases e;exact⟨.list_bool b c a,.bool_list b c a,.list_bool b c a,.bool_list b c a,.list_bool b c a,.bool_list b c a⟩
 |int b=>obtain⟨t,rfl⟩:=e;exact⟨.list_int b t c a,.int_list b t c a,.list_int b t c a,.int_list b t c a,.list_int b t c a,.int_list b t c a⟩
 |str b=>obtain⟨t,rfl⟩:=e;exact⟨.list_str b t c a,.str_list b t c a,.list_str b t c a,.str_list b t c a,.list_str b t c a,.str_list b t c a⟩
 |_=>cases h
def CZ{A:Ň}{s:Ņ}{x:V}{l:Addr}{d:B9}(e:RelV x v)(h:mN x=true)(c:s.heap.IsTuple l d)(a:A.units<cLine):Six A s (.ref l) v:=by
 cases x with
 |non=>cases e;exact⟨.tuple_none c a,.none_tuple c a,.tuple_none c a,.none_tuple c a,.tuple_none c a,.none_tuple c a⟩
 |bl b=>cases e;exact⟨.tuple_bool b c a,.bool_tuple b c a,.tuple_bool b c a,.bool_tuple b c a,.tuple_bool b c a,.bool_tuple b c a⟩
 |int b=>obtain⟨t,rfl⟩:=e;exact⟨.tuple_int b t c a,.int_tuple b t c a,.tuple_int b t c a,.int_tuple b t c a,.tuple_int b t c a,.int_tuple b t c a⟩
 |str b=>obtain⟨t,rfl⟩:=e;exact⟨.tuple_str b t c a,.str_tuple b t c a,.tuple_str b t c a,.str_tuple b t c a,.tuple_str b t c a,.str_tuple b t c a⟩
 |_=>cases h
def Ew{y:V}(h:mN y=true):eqV y y=true:=by cases y<;>first |rfl|(simp[eqV];done)|exact absurd h xF0
abbrev K3:=Option Key
inductive NK where
 |key (k:K3)|tup (ks:List NK)
instance:DecidableEq NK:=λ_ _=>Classical.propDecidable _
section
variable{prog:ň}{w:World}(knd:KeyKind prog w K3)
mutual
def HZ(h:Heap):NK->ņ->Prop
 |.key k,v=>knd.is k v=true
 |.tup ks,v=> ∃a o b n,v=.ref a/\h.get? a=some o/\o.cls=.type "tuple"/\o.data=.seq b n/\qQ h ks b.toList
def qQ(h:Heap):List NK->List ņ->Prop
 |[],vs=>vs=[]
 |k::ks,vs=> ∃v r,vs=v::r/\HZ h k v/\qQ h ks r
end
mutual
def vE:NK->Int
 |.key k=>knd.hash k
 |.tup ks=>reduceHash (Builtin.Tuple.tupleHashOf (EO ks))
def EO:List NK->List Int
 |[]=>[]
 |k::ks=>vE k::EO ks
end
mutual
def EQ:NK->Nat
 |.key _=>1
 |.tup ks=>cO ks+1
def cO:List NK->Nat
 |[]=>0
 |k::ks=>EQ k+cO ks
end
mutual
def qS:NK->Nat
 |.key _=>0
 |.tup ks=>tN ks+1
def tN:List NK->Nat
 |[]=>0
 |k::ks=>max (qS k) (tN ks)
end
variable{knd}
theorem wO{h:Heap}{k:K3}:HZ knd h (.key k) v↔knd.is k v=true:=by unfold HZ;exact Iff.rfl
def xN{h:Heap}{ks:List NK}:HZ knd h (.tup ks) v↔ ∃a o b n,v=.ref a/\h.get? a=some o/\o.cls=.type "tuple"/\o.data=.seq b n/\qQ knd h ks b.toList:=by
 conv=>lhs;unfold HZ
theorem wW{h:Heap}{vs:B0}:qQ knd h [] vs↔vs=[]:=by unfold qQ;exact Iff.rfl
def yK{h:Heap}{k:NK}{ks:List NK}{vs:B0}:qQ knd h (k::ks) vs↔ ∃v r,vs=v::r/\HZ knd h k v/\qQ knd h ks r:=by
 conv=>lhs;unfold qQ
mutual
theorem LF{h:Heap}: ∀{x y:NK}{v:ņ},HZ knd h x v->HZ knd h y v->x=y
 |.key k,.key k',v,hx,hy=>by rw[knd.inj v k k' (wO.mp hx) (wO.mp hy)]
 |.key k,.tup ks,v,hx,hy=>by obtain⟨a,o,b,n,rfl,_⟩:=xN.mp hy;have:=knd.byValue _ _ (wO.mp hx);simp[carriedByValue]at this
 |.tup ks,.key k,v,hx,hy=>by obtain⟨a,o,b,n,rfl,_⟩:=xN.mp hx;have:=knd.byValue _ _ (wO.mp hy);simp[carriedByValue]at this
 |.tup ks,.tup ks',v,hx,hy=>by
  obtain⟨a,o,b,n,e,p,_,q,hi⟩:=xN.mp hx;obtain⟨s,o',d,r,m,i,_,c,j⟩:=xN.mp hy;rw[e]at m;cases m;obtain rfl:o=o':=å (p.symm.trans i);rw[q]at c;injection c with h1 _
  subst h1;rw[ON hi j]
theorem ON{h:Heap}: ∀{xs ys:List NK}{vs:B0},qQ knd h xs vs->qQ knd h ys vs->xs=ys
 |[],[],_,_,_=>rfl
 |[],y::ys,vs,hx,hy=>by obtain⟨v,r,e,_⟩:=yK.mp hy;rw[wW.mp hx]at e;cases e
 |x::xs,[],vs,hx,hy=>by obtain⟨v,r,e,_⟩:=yK.mp hx;rw[wW.mp hy]at e;cases e
 |x::xs,y::ys,vs,hx,hy=>by obtain⟨v,r,e,h1,d⟩:=yK.mp hx;obtain⟨j,i,c,b,a⟩:=yK.mp hy;rw[e]at c;cases c;rw[LF h1 b,ON d a]
end
mutual
theorem OO{h h':Heap}(m: ∀a o b n,h.get? a=some o->o.data=.seq b n->h'.get? a=some o): ∀{x:NK}{v:ņ},HZ knd h x v->HZ knd h' x v
 |.key k,v,hx=>wO.mpr (wO.mp hx)
 |.tup ks,v,hx=>by obtain⟨a,o,b,n,e,i,d,c,hi⟩:=xN.mp hx;exact xN.mpr ⟨a,o,b,n,e,m a o b n i c,d,c,JG m hi⟩
theorem JG{h h':Heap}(m: ∀a o b n,h.get? a=some o->o.data=.seq b n->h'.get? a=some o): ∀{xs:List NK}{vs:B0},qQ knd h xs vs->qQ knd h' xs vs
 |[],vs,hx=>wW.mpr (wW.mp hx)
 |x::xs,vs,hx=>by obtain⟨v,r,e,h1,c⟩:=yK.mp hx;exact yK.mpr ⟨v,r,e,OO m h1,JG m c⟩
end
theorem ER: ∀a:List NK,EO knd a=a.map (vE knd)
 |[]=>by unfold EO;rfl
 |k::a=>by unfold EO;rw[ER a];rfl
def uC:cO []=0:=by rw[cO]
def qT(k:NK)(ks:List NK):cO (k::ks)=EQ k+cO ks:=by rw[cO]
def ES(k:NK)(ks:List NK):tN (k::ks)=max (qS k) (tN ks):=by rw[tN]
def mP(ks:List NK):qS (.tup ks)=tN ks+1:=by rw[qS]
theorem tO: ∀(xs ys:List NK),cO (xs++ys)=cO xs+cO ys
 |[],ys=>by rw[uC,Ļ,Ħ]
 |x::xs,ys=>by rw[List.cons_append,qT,qT,tO xs ys];lia
def vF{s:Ņ}{ks:List NK}{a:Addr}(h:HZ knd s.heap (.tup ks) (.ref a)):s.TypeIs (.ref a) "tuple":=by obtain⟨d,o,_,n,e,c,b,_⟩:=xN.mp h;cases e;exact⟨o,c,b⟩
theorem OP: ∀(n:Nat){A:Ň}{E:VP}{s:Ņ}{k:NK}{v:ņ}{Q:Int->Ņ->Prop},qS k<=n->A.units+n<cLine->HZ knd s.heap k v->Q (vE knd k) {s with toks:=s.toks+EQ k}->wpAny (model prog w) A (pyHash v) Q E s
 |n,A,E,s,.key k,v,Q,_,_,i,h=>knd.pyHash (wO.mp i) (by rw[vE,EQ]at h;exact h)
 |0,A,E,s,.tup d,v,Q,u,_,_,_=>by rw[mP]at u;lia
 |n+1,A,E,s,.tup d,v,Q,hdep,hu,i,h=>by
  obtain⟨a,o,_,m,rfl,C,G,u,hi⟩:=xN.mp i;have q:s.TypeIs (.ref a) "tuple":=⟨o,C,G⟩
  rw[mP]at hdep
  have z: ∀k∈d,qS k<=n:=by
   have: ∀d:List NK,tN d<=n-> ∀k∈d,qS k<=n:=by
    intro d
    induction d with
    |nil=>intro _ k i;simp at i
    |cons x xs ih=>
     intro D k i;rw[ES]at D;rcases mC.mp i with rfl|i
     .lia
     .exact ih #[0] k i
   exact this d #[0]
  rw[vE,EQ,ER]at h;unfold pyHash
  first |unfold pyHashByItsType|skip
  first |refine wB (wpAny_cRoomFor_or (.inr #[0]) ?_)|skip
  refine wB (ļ q F.slot_tuple_hash.lookup ?_);show wpAny _ _ _ Q E s;rw[iN (by rw[beq_builtin_none];exact xF0)];refine wB (ļ q F.slot_tuple_hash.lookup ?_);show wpAny _ _ _ Q E s;refine wB (wpAny_callSpecialIfBoundUnlessNone?_slot q F.slot_tuple_hash (ø F.slot_tuple_hash q F.entry_tuple_hash ?_ (F.args_tuple_hash_1 _)));show wpAny _ _ (Builtin.Tuple.tupleItemsOf (.ref a) >>= _) _ _ s;refine wB (wpAny_tupleItemsOf C u ?_);refine wB ?_;rw[<-Array.forIn_toList]
  refine wpAny_forIn_list _
   (λrest (b:Array Int) s'=> ∃c left,d=c++left/\qQ knd s.heap left rest/\b.toList=c.map (vE knd)/\s'={s with toks:=s.toks+cO c})
   _ ?_ ?_ _ _ ⟨[],d,rfl,hi,rfl,by rw[uC];rfl⟩
  .rintro x rest b s' ⟨c,left,rfl,j,B,rfl⟩
   cases left with
   |nil=>rw[wW]at j;cases j
   |cons k ks'=>
    obtain⟨v,r,e,h1,y⟩:=yK.mp j;cases e;refine wB (OP n (z k (by simp)) (show A.units+1+n<cLine by lia) h1 ?_);have e1:cO (c++[k])=cO c+EQ k:=by rw[tO,qT,uC];rfl
    first
     |exact wP ⟨c++[k],ks',by simp,y,by simp[B],by simp[add_assoc,e1]⟩
     |exact wB _
  .rintro b s' ⟨c,left,rfl,j,B,rfl⟩
   cases left with
   |cons k ks'=>obtain⟨v,r,e,_⟩:=yK.mp j;cases e
   |nil=>
    rw[aN]at h;show wpAny _ _ (retInt _) _ _ _;rw[B];refine wpAny_ret_mkInt ?_;show wpAny _ _ (if _=true then _ else _) Q E _;unfold reduceHash at h;by_cases p:(decide (-(2:Int) ^ 63<=Builtin.Tuple.tupleHashOf (c.map (vE knd)))&&decide (Builtin.Tuple.tupleHashOf (c.map (vE knd))<2 ^ 63))=true
    .rw[iP p];rw[iP p]at h;exact wP (by simpa [add_assoc]using h)
    .rw[iN p];rw[iN p]at h;exact wB (Ĭ (wP (by simpa [add_assoc]using h)))
end
section
variable{prog:ň}{w:World}
def Al{A:Ň}{E:VP}{s:Ņ}{Q:Int->Ņ->Prop}(h:Q 0xFCA86420 {s with toks:=s.toks+1}):wpAny (model prog w) A (pyHash .none) Q E s:=by
 have a:[Value.none].any Value.onHeap=false:=rfl;refine wB ?_;rw[cRoomFor];refine wP ?_;refine wB (ļ (typeIs_none s) F.slot_NoneType_hash.lookup ?_);show wpAny _ _ _ Q E s;refine wB (ļ (typeIs_none s) F.slot_NoneType_hash.lookup ?_);show wpAny _ _ _ Q E s
 refine wB (wpAny_callSpecialIfBoundUnlessNone?_slot (typeIs_none s) F.slot_NoneType_hash
  (ø F.slot_NoneType_hash (typeIs_none s) F.entry_NoneType_hash
   (wpAny_ret_mkInt ?_) (F.args_NoneType_hash_1 _)))
 show wpAny _ _ (if _=true then _ else _) Q E _;exact wP h
def K7:K3->ņ->Bool
 |some k,v=>mL k v
 |none,v=>v==.none
def mQ: ∀{k:K3}{v:ņ},K7 k v=true->(∃i t,k=some (.inl i)/\v=Value.int i t)\/(∃x t,k=some (.inr x)/\v=Value.str x t)\/(k=none/\v=.none)
 |some k,v,h=>by
  rcases yD h with⟨i,t,rfl,e⟩|⟨x,t,rfl,e⟩
  .exact .inl ⟨i,t,rfl,e⟩
  .exact .inr (.inl ⟨x,t,rfl,e⟩)
 |none,v,h=>.inr (.inr ⟨rfl,eq_of_beq h⟩)
def mk(prog:ň)(w:World):KeyKind prog w K3 where
 is:=K7
 hash:=λ|some k=>D8 w k|none=>0xFCA86420
 inj:=λv a b ha hb=>by rcases mQ ha with⟨i,t,rfl,rfl⟩|⟨x,t,rfl,rfl⟩|⟨rfl,rfl⟩<;>rcases mQ hb with⟨j,u,rfl,e⟩|⟨y,u,rfl,e⟩|⟨rfl,e⟩<;>first |(injection e with e1 _;rw[e1];done)|rfl|exact nomatch e
 byValue:=λk v h=>by rcases mQ h with⟨i,t,rfl,rfl⟩|⟨x,t,rfl,rfl⟩|⟨rfl,rfl⟩<;>rfl
 pyHash:=λhv h=>by
  rcases mQ hv with⟨i,t,rfl,rfl⟩|⟨x,t,rfl,rfl⟩|⟨rfl,rfl⟩
  .exact wpAny_pyHash_int h
  .exact wpAny_pyHash_str h
  .exact Al h
 eqBool:=λ{A} {E} {s} {a} {b} {u} {v} {Q} hu hv h=>by
  cases a with
  |some a=>
   cases b with
   |some b=>exact(jO prog w).eqBool hu hv (by rw[show decide (some a=some b)=decide (a=b)from by simp]at h;exact h)
   |none=>
    cases eq_of_beq hv;rw[show decide (some a=none)=false from dF0 λz=>nomatch z]at h;rcases yD (show mL a u=true from hu)with⟨i,t,rfl,rfl⟩|⟨x,t,rfl,rfl⟩
    .exact SeqAt.EqAt.int_none i t _ _ _ _ h
    .exact SeqAt.EqAt.str_none x t _ _ _ _ h
  |none=>
   cases eq_of_beq hu
   cases b with
   |some b=>
    rw[show decide (none=some b)=false from dF0 λz=>nomatch z]at h;rcases yD (show mL b v=true from hv)with⟨i,t,rfl,rfl⟩|⟨x,t,rfl,rfl⟩
    .exact SeqAt.EqAt.none_int i t _ _ _ _ h
    .exact SeqAt.EqAt.none_str x t _ _ _ _ h
   |none=>
    cases eq_of_beq hv;rw[show decide ((none:K3)=none)=true from dT0 rfl]at h;exact SeqAt.EqAt.same _ _ _ _ _ h
 «strs»:=λk x t v h=>by
  rcases mQ h with⟨i,u,rfl,e⟩|⟨y,u,rfl,e⟩|⟨rfl,e⟩
  .exact nomatch e
  .injection e with e1 _
   subst e1;cases v<;>rfl
  .exact nomatch e
def Mf(a b:K3):decide (NK.key a=NK.key b)=decide (a=b):=by
 by_cases h:a=b
 .subst h;simp
 .rw[dF0 h,dF0 λz=>h (NK.key.inj z)]
def Vq(a:K3)(b:List NK):decide (NK.key a=NK.tup b)=false:=dF0 λz=>nomatch z
def Vr(a:K3)(b:List NK):decide (NK.tup b=NK.key a)=false:=dF0 λz=>nomatch z
def Vs(a b:List NK):decide (NK.tup a=NK.tup b)=decide (a=b):=by
 by_cases h:a=b
 .subst h;simp
 .rw[dF0 h,dF0 λz=>h (NK.tup.inj z)]
def OQ{k:K3}(h:(mk prog w).is k v=true): ∃x:V,RelV x v/\mN x=true:=by
 rcases mQ h with⟨i,t,rfl,rfl⟩|⟨x,t,rfl,rfl⟩|⟨rfl,rfl⟩
 .exact⟨.int i,⟨t,rfl⟩,rfl⟩
 .exact⟨.str x,⟨t,rfl⟩,rfl⟩
 .exact⟨.non,rfl,rfl⟩
def Am{A:Ň}{E:VP}{s:Ņ}{x y:List NK}{a b:Addr}{P:Fin->Ņ->Prop}
  (he: ∀C∈x, ∀H u v (Q:Bool->Ņ->Prop),HZ (mk prog w) s.heap C u->HZ (mk prog w) s.heap H v->Q (decide (C=H)) s->wpAny (model prog w) A (eqBool u v) Q E s)
  (hx:HZ (mk prog w) s.heap (.tup x) (.ref a)) (hy:HZ (mk prog w) s.heap (.tup y) (.ref b)) (h:P (.done (.ret (.bool (decide (x=y))))) s):
  wpAny (model prog w) A (Builtin.«tuple.__eq__» ⟨[.ref a,.ref b],[]⟩) P E s:=by
 have W:=vF hy;obtain⟨_,oa,xs,na,e,X,_,L,S⟩:=xN.mp hx;cases e;obtain⟨_,ob,ys,nb,e,U,_,O,N⟩:=xN.mp hy;cases e;show wpAny _ _ (isInstance _ _ >>= _) _ _ s;refine wB (İ W isSubtype_tuple_tuple ?_);simp only[Bool.not_true,fT0,iF];refine wB (wpAny_tupleItemsOf X L ?_);refine wB (wpAny_tupleItemsOf U O ?_);refine wB ?_
 refine wpAny_forIn_list _
  (λrest r s'=>r.1=none/\s'=s/\ ∃G D n p,rest=List.zip n p/\(∀k∈G,k∈x)/\qQ _ s.heap G n/\qQ _ s.heap D p/\decide (G=D)=decide _/\(n.length==p.length)=(xs.size==ys.size))
  _ ?_ ?_ _ _ ⟨rfl,rfl,x,y,_,_,rfl,λk F=>F,S,N,rfl,by simp⟩
 .rintro⟨u,v⟩ rest r s' ⟨M,rfl,G,D,n,p,B,K,i,c,d,m⟩
  cases G with
  |nil=>rw[wW.mp i]at B;simp at B
  |cons C x''=>
   cases D with
   |nil=>rw[wW.mp c]at B;simp at B
   |cons H y''=>
    obtain⟨Z,z,rfl,h1,q⟩:=yK.mp i;obtain⟨Y,j,rfl,T,o⟩:=yK.mp c;simp only[Ė,List.cons.injEq,ĸ]at B;obtain⟨⟨rfl,rfl⟩,rfl⟩:=B;refine wB (he C (K C mF0) H _ _ _ h1 T ?_);by_cases F:C=H
    .subst F;rw[dT0 rfl];simp only[Bool.not_true,fT0,iF];refine wP ⟨rfl,rfl,x'',y'',z,j,rfl,λk F=>K k (mO _ F),q,o,?_,by simpa using m⟩;rw[<-d];by_cases I:x''=y''
     .simp[I]
     .simp[I]
    .rw[dF0 F];simp only[Bool.not_false,if_true];have hf:decide (x=y)=false:=by rw[<-d];simp[F]
     rw[hf]at h;exact wB (wP (wP (wP h)))
 .rintro⟨r1,r2⟩ s' ⟨M,rfl,G,D,n,p,B,K,i,c,d,m⟩;simp only at M;subst M;refine wP ?_
  have J:(xs.size==ys.size)=decide (x=y):=by
   rw[<-d, <-m]
   cases G with
   |nil=>
    rw[wW.mp i]
    cases D with
    |nil=>rw[wW.mp c];simp
    |cons H y''=>obtain⟨Y,j,rfl,T,o⟩:=yK.mp c;simp
   |cons C x''=>
    obtain⟨Z,z,rfl,h1,q⟩:=yK.mp i
    cases D with
    |nil=>rw[wW.mp c];simp
    |cons H y''=>obtain⟨Y,j,rfl,T,o⟩:=yK.mp c;simp at B
  show P (.done (.ret (.bool _))) s';rw[J];exact h
theorem ET{n:Nat}: ∀{a:List NK},tN a<=n-> ∀k∈a,qS k<=n
 |[],_,k,hk=>by simp at hk
 |x::xs,hx,k,hk=>by
  rw[ES]at hx;rcases mC.mp hk with rfl|hk
  .lia
  .exact ET #[0] k hk
theorem OR: ∀(n:Nat){A:Ň}{E:VP}{s:Ņ}{x y:NK}{u v:ņ}{Q:Bool->Ņ->Prop},qS x<=n->A.units+n<cLine->HZ (mk prog w) s.heap x u->HZ (mk prog w) s.heap y v->Q (decide (x=y)) s->wpAny (model prog w) A (eqBool u v) Q E s
 |n,A,E,s,.key a,.key b,u,v,Q,_,_,hx,hy,h=>(mk prog w).eqBool (wO.mp hx) (wO.mp hy) (by rw[Mf]at h;exact h)
 |n,A,E,s,.key a,.tup b,u,v,Q,_,hu,hx,hy,h=>by obtain⟨z,q,k⟩:=OQ (wO.mp hx);obtain⟨l,o,_,m,rfl,j,p,c,_⟩:=xN.mp hy;rw[Vq]at h;exact(CZ q k ⟨o,j,p,m,c⟩ #[0]).2.1 prog w E Q h
 |n,A,E,s,.tup a,.key b,u,v,Q,_,hu,hx,hy,h=>by obtain⟨z,q,k⟩:=OQ (wO.mp hy);obtain⟨l,o,_,m,rfl,j,p,c,_⟩:=xN.mp hx;rw[Vr]at h;exact(CZ q k ⟨o,j,p,m,c⟩ #[0]).1 prog w E Q h
 |0,A,E,s,.tup a,.tup b,u,v,Q,c,_,hx,hy,h=>by rw[mP]at c;lia
 |n+1,A,E,s,.tup x,.tup y,u,v,Q,c,hu,hx,hy,h=>by
  obtain⟨a,_,_,_,D,_⟩:=xN.mp hx;obtain⟨b,_,_,_,r,_⟩:=xN.mp hy;subst D r;rw[mP]at c;rw[Vs]at h;unfold eqBool
  try with_reducible refine Ă ?_
  show wpAny _ _ _ Q E s;by_cases d:(Value.ref a==Value.ref b)=true
  .rw[iP d];have e:a=b:=by have:=eq_of_beq d;injection this
   subst e;have:x=y:=NK.tup.inj (LF hx hy);subst this;exact wB (Ĭ (wP (by simpa using h)))
  .rw[iN d]
   refine wB (wpAny_richCompare_same_room (vF hx) (vF hy) F.slot_tuple_eq
    (ø F.slot_tuple_eq (vF hx) F.entry_tuple_eq (Am (λB i H u v Q h1 G C=>OR n (ET #[0] B i) (show A.units+1+n<cLine by lia) h1 G C) hx hy ⟨_,rfl,(λe=>nomatch e),Ć h⟩) (F.args_tuple_eq_2 _ _)) #[0])
theorem WB: ∀(n m:Nat){A:Ň}{E:VP}{s:Ņ}{x:NK}{u:ņ}{Q:Bool->Ņ->Prop},qS x<=n->n<m->HZ (mk prog w) s.heap x u->Q true s->wpAny (model prog w) A (eqIsQuiet m u) Q E s
 |n,m,A,E,s,.key k,u,Q,_,_,hx,h=>by rw[eqIsQuiet_byValue m ((mk prog w).byValue _ _ (wO.mp hx))];exact wP h
 |0,m,A,E,s,.tup ks,u,Q,c,_,hx,h=>by rw[mP]at c;lia
 |n+1,0,A,E,s,.tup ks,u,Q,c,hm,hx,h=>by lia
 |n+1,m+1,A,E,s,.tup ks,u,Q,hdp,hm,hx,h=>by
  obtain⟨a,o,_,j,rfl,p,z,c,hi⟩:=xN.mp hx;have y:s.TypeIs (.ref a) "tuple":=⟨o,p,z⟩
  rw[mP]at hdp;unfold eqIsQuiet;refine wB (ļ y F.slot_tuple_eq.lookup ?_);show wpAny _ _ _ _ _ s;refine wB (İ y isSubtype_tuple_tuple ?_);refine wB (wpAny_seqItems p c ?_);refine wB ?_;show wpAny _ _ _ _ _ s;rw[<-Array.forIn_toList];refine wpAny_forIn_list _ (λrest r s'=>r.1=none/\s'=s/\ ∃left,(∀k∈left,k∈ks)/\qQ _ s.heap left rest) _ ?_ ?_ _ _ ⟨rfl,rfl,ks,λk d=>d,hi⟩
  .rintro v rest r s' ⟨q,rfl,left,b,i⟩
   cases left with
   |nil=>rw[wW]at i;cases i
   |cons k left=>
    obtain⟨H,G,e,h1,B⟩:=yK.mp i;cases e;refine wB (WB n m (ET #[0] k (b k mF0)) #[0] h1 ?_);exact wP ⟨rfl,rfl,left,λk d=>b k (mO _ d),B⟩
  .rintro⟨C,D⟩ s' ⟨q,rfl,_⟩;subst q;exact wP h
end
def mT(prog:ň)(w:World):HeapKind prog w NK where
 is:=λh k a=>HZ (mk prog w) h k (.ref a)/\qS k<=4
 hash:=vE (mk prog w)
 draws:=EQ
 room:=λA=>A.units+4<cLine
 inj:=λhx hy=>LF hx.1 hy.1
 keeps:=λx ho hd hs=>⟨OO (λa o' items n e q=>(hs.2 a λz=>by subst z;rw[ho]at e;cases e;rw[hd]at q;cases q).trans e) x.1,x.2⟩
 pyHash:=λhu hk h=>OP 4 hk.2 hu hk.1 h
 eqBool:=λhu hx hy h=>OR 4 hx.2 hu hx.1 hy.1 h
 quiet:=λhk h=>WB 4 8 hk.2 (by decide) hk.1 h
def DN(P:ň)(w:World)(a:Addr)(xs:List (NK×Addr×ņ)):HO:=
 .ext λh=>xs.length<=sizeLine/\(a==sysModules)=false/\ ∃o es ep,h.get? a=some o/\o.ExactDict/\o.data=.dict es ep/\es.toList=xs.map (entryOfKey (mT P w))/\(xs.map (·.1)).Nodup
end M
end L2
namespace L2
open PySem PySem.Spec PyProof.Rows
def Fly(h:Heap)(e T:Addr)(cls:ņ)(d:Option Addr)(c:ņ):Prop:=
 ∃a vs b ts,h.get? e=some a/\a.cls=cls/\a.dict=d/\a.data=.fields vs/\vs[1]? =some (.ref T)/\T≠e/\h.get? T=some b/\b.data=.fields ts/\ts[3]? =some c/\vs[2]? =some .none
structure Mvd(fs:K0)(e T:Addr)(h h':Heap):Prop where
 keep: ∀b o,b≠e->b≠T->b∉fs->h.get? b=some o->h'.get? b=some o
 slot: ∀b o,b≠e->b≠T->h.get? b=some o-> ∃sl,h'.get? b=some {o with slots:=sl}
 there: ∀b o,h.get? b=some o-> ∃o',h'.get? b=some o'
def Mvd.new{fs:K0}{e T i:Addr}{h h1 d:Heap}(a:Mvd fs e T h h1)(n:h.get? i=none)(b:Mvd fs e i h1 d):Mvd fs e T h d:=by
 have ne: ∀c o,h.get? c=some o->c≠i:=λc o q z=>by rw[z,n]at q;cases q
 exact⟨λc o h1 d k q=>b.keep c o h1 (ne c o q) k (a.keep c o h1 d k q),λc o h1 d q=>by obtain⟨sl,e1⟩:=a.slot c o h1 d q;obtain⟨j,e2⟩:=b.slot c _ h1 (ne c o q) e1;exact⟨j,e2⟩,λc o q=>let ⟨o',e1⟩:=a.there c o q;b.there c o' e1⟩
def CXe(P:ň)(w:World):VX:=λa H s E x s'=> ∃e T C d H',x=.ref e/\s'.os=s.os/\AllBare s'.gens/\Un (ZU a) [] H H' s.heap s'.heap/\HOk P w H' s'.heap/\Fly s'.heap e T (.ref C) d .none/\
 s.heap.get? e=none/\s.heap.get? T=none/\H' e=none/\H' T=none/\E (.ref C) d H'
abbrev W4:List Value:=[.type "ValueError",.type "Exception",.type "BaseException",.type "object"]
def qn:List Str:=["__class__","__getattribute__","__getattr__","__setattr__","place","number"]
end L2
namespace L2
namespace M
open PySem PySem.Spec PyProof.Rows
variable{H H' H0:Hp}{α α':K0}{vs xs:List V}{v:V}{β τ γ:Type}{Q:VP}{o:HO}{its:B9}{es:R0}{tg:Expr}{σ:St}
inductive MV where
 |non|bl (b:Bool)|int (i:Int)|str (x:Tk)|tup (ds:List MV)|scr (ds:List MV)|loc (l:Nat)|typ (n:String)|obj (c:Str) (ns:L0) (ds:List MV)
abbrev X1:=List MV
abbrev X2:=Option MV
abbrev X4:=List (Nat×List MV)
abbrev X5:=List (MV×MV)
variable{kvs:X5}
instance:Inhabited MV:=⟨.non⟩
inductive MO where
 |lst (ds:X1)|dic (kvs:X5)|ins (c:Str) (fs:List (Str×MV))|rcd (c:Str) (fs:List (Str×MV))|fdc (kvs:X5)
abbrev Sto:=List MO
variable{S T S1 S':Sto}
def SqF(K:U0)(H:Hp)(a:Addr)(xs:List V):Prop:=
 (∃o,H a=some (.frz o (.lst xs)))\/
  ∃(o:Obj)(its:B9)(n:Nat),K.lookup a=some o/\o.cls=.type "list"/\o.dict=none/\o.data=.seq its n/\its.size<=sizeLine/\Vals xs its.toList
def SqF.l{K:U0}{a:Addr}(h:SqF K H a xs):SqL K H a xs:=by
 rcases h with⟨o,h⟩|h
 .exact .inl (.inr ⟨o,h⟩)
 .exact .inr h
mutual
def Den(K:U0)(α:K0)(H:Hp):MV->V->Prop
 |.non,v=>v=.non
 |.bl b,v=>v=.bl b
 |.int i,v=>v=.int i
 |.str x,v=>v=.str (qE x)
 |.tup ds,v=> ∃a vs,v=.ref a/\SqT K H a vs/\DenL K α H ds vs
 |.scr ds,v=> ∃a vs,v=.ref a/\SqF K H a vs/\DenL K α H ds vs
 |.loc l,v=> ∃a,v=.ref a/\α[l]? =some a
 |.typ n,v=>v=.ty n
 |.obj c ns ds,v=> ∃a C dx vs o,v=.ref a/\H a=some (.frz o (.ins C dx (ns.zip vs)))/\PySem.W.nsIn K mainGlobals c=some (some (.ref C))/\(PySem.W.clsIn K C).map (·.name)=some c/\ns.length=vs.length/\DenL K α H ds vs
def DenL(K:U0)(α:K0)(H:Hp):List MV->List V->Prop
 |[],vs=>vs=[]
 |d::ds,vs=> ∃v r,vs=v::r/\Den K α H d v/\DenL K α H ds r
end
structure Ex0(α:K0)(H:Hp)(α':K0)(H':Hp):Prop where
 pre: ∃t,α'=α++t
 tup: ∀b xs,H b=some (.tup xs)->H' b=some (.tup xs)
 frz: ∀b o u,H b=some (.frz o u)->H' b=some (.frz o u)
structure Ext(α:K0)(H:Hp)(α':K0)(H':Hp):Prop extends Ex0 α H α' H' where
 new: ∀b∈α',b∈α\/H b=none
 keep: ∀b o,H b=some o->b∉α->H' b=some o
 has: ∀b o,H b=some o-> ∃o',H' b=some o'
section
variable{K:U0}{α α' α'':K0}{H H' H'':Hp}
def Ext.refl(α:K0)(H:Hp):Ext α H α H:=⟨⟨⟨[],by simp⟩,λ_ _ h=>h,λ_ _ _ h=>h⟩,λb h=>.inl h,λ_ _ h _=>h,λ_ o h=>⟨o,h⟩⟩
def Ex0.grow(α t:K0)(H:Hp):Ex0 α H (α++t) H:=⟨⟨t,rfl⟩,λ_ _ h=>h,λ_ _ _ h=>h⟩
def Ext.free(x:Ext α H α' H'){b:Addr}(h:H' b=none):H b=none:=by
 cases e:H b with
 |none=>rfl
 |some o=>obtain⟨o',h'⟩:=x.has b o e;rw[h]at h';cases h'
def Ext.out(x:Ext α H α' H'){b:Addr}(h:H b=some o)(n:b∉α):b∉α':=λz=>by
 rcases x.new b z with z|z
 .exact n z
 .rw[h]at z;cases z
def Ext.trans(x:Ext α H α' H')(y:Ext α' H' α'' H''):Ext α H α'' H'' where
 pre:=by obtain⟨t,rfl⟩:=x.pre;obtain⟨u,rfl⟩:=y.pre;exact⟨_,by rw[aA]⟩
 new:=λb h=>(y.new b h).elim (x.new b) λz=>.inr (x.free z)
 keep:=λb o h n=>y.keep b o (x.keep b o h n) (x.out h n)
 has:=λb o h=>let ⟨o',h'⟩:=x.has b o h;y.has b o' h'
 tup:=λb xs h=>y.tup b xs (x.tup b xs h)
 frz:=λb o u h=>y.frz b o u (x.frz b o u h)
def Ex0.at(x:Ex0 α H α' H'){l:Nat}{a:Addr}(h:α[l]? =some a):α'[l]? =some a:=by obtain⟨t,rfl⟩:=x.pre;rw[ë (gS.mp h).1];exact h
def Ex0.sqT(x:Ex0 α H α' H'){a:Addr}(q:SqT K H a vs):SqT K H' a vs:=by
 rcases q with(q|⟨o,q⟩)|q
 .exact .inl (.inl (x.tup a vs q))
 .exact .inl (.inr ⟨o,x.frz a o _ q⟩)
 .exact .inr q
def Ex0.sqF(x:Ex0 α H α' H'){a:Addr}(q:SqF K H a vs):SqF K H' a vs:=by
 rcases q with⟨o,q⟩|q
 .exact .inl ⟨o,x.frz a o _ q⟩
 .exact .inr q
mutual
theorem Den.ex0(x:Ex0 α H α' H'): ∀{d:MV}{v:V},Den K α H d v->Den K α' H' d v
 |.non,_,q=>by unfold Den at q ⊢; exact q
 |.bl _,_,q=>by unfold Den at q ⊢; exact q
 |.int _,_,q=>by unfold Den at q ⊢; exact q
 |.str _,_,q=>by unfold Den at q ⊢; exact q
 |.typ _,_,q=>by unfold Den at q ⊢; exact q
 |.obj c ns ds,_,q=>by unfold Den at q ⊢;obtain⟨a,C,dx,vs,o,e,h,i,b,j,l⟩:=q;exact⟨a,C,dx,vs,o,e,x.frz a _ _ h,i,b,j,DenL.ex0 x l⟩
 |.loc _,_,q=>by unfold Den at q ⊢;obtain⟨a,e,h⟩:=q;exact⟨a,e,x.at h⟩
 |.tup ds,_,q=>by unfold Den at q ⊢;obtain⟨a,vs,e,s,l⟩:=q;exact⟨a,vs,e,x.sqT s,DenL.ex0 x l⟩
 |.scr ds,_,q=>by unfold Den at q ⊢;obtain⟨a,vs,e,s,l⟩:=q;exact⟨a,vs,e,x.sqF s,DenL.ex0 x l⟩
theorem DenL.ex0(x:Ex0 α H α' H'): ∀{ds:X1}{vs:List V},DenL K α H ds vs->DenL K α' H' ds vs
 |[],_,q=>by unfold DenL at q ⊢; exact q
 |d::ds,_,q=>by unfold DenL at q ⊢;obtain⟨v,r,e,a,l⟩:=q;exact⟨v,r,e,Den.ex0 x a,DenL.ex0 x l⟩
end
def Den.ext(x:Ext α H α' H'){d:MV}(q:Den K α H d v):Den K α' H' d v:=q.ex0 x.toEx0
def DenL.ext(x:Ext α H α' H'){d:X1}{v:List V}(q:DenL K α H d v):DenL K α' H' d v:=q.ex0 x.toEx0
theorem DY:Den K α H .non .non:=by unfold Den;rfl
theorem wC(b:Bool):Den K α H (.bl b) (.bl b):=by unfold Den;rfl
theorem wQ(i:Int):Den K α H (.int i) (.int i):=by unfold Den;rfl
theorem sB(x:Tk):Den K α H (.str x) (.str (qE x)):=by unfold Den;rfl
theorem WC(n:String):Den K α H (.typ n) (.ty n):=by unfold Den;rfl
def oI{ds:X1}{a:Addr}(s:SqT K H a vs)(l:DenL K α H ds vs):Den K α H (.tup ds) (.ref a):=by unfold Den;exact⟨a,vs,rfl,s,l⟩
def WD{ds:X1}{a:Addr}(s:SqF K H a vs)(l:DenL K α H ds vs):Den K α H (.scr ds) (.ref a):=by unfold Den;exact⟨a,vs,rfl,s,l⟩
def vG{l:Nat}{a:Addr}(h:α[l]? =some a):Den K α H (.loc l) (.ref a):=by unfold Den;exact⟨a,rfl,h⟩
def nL(d:Den K α H .non v):v=.non:=by unfold Den at d;exact d
def mU{b:Bool}(d:Den K α H (.bl b) v):v=.bl b:=by unfold Den at d;exact d
def yL{i:Int}(d:Den K α H (.int i) v):v=.int i:=by unfold Den at d;exact d
def wD{x:Tk}(d:Den K α H (.str x) v):v=.str (qE x):=by unfold Den at d;exact d
def WF{c:Str}{b:L0}{ds:X1}{a C dx:Addr}{o:Obj}(h:H a=some (.frz o (.ins C dx (b.zip vs))))(e:PySem.W.nsIn K mainGlobals c=some (some (.ref C)))(d:(PySem.W.clsIn K C).map (·.name)=some c)(i:b.length=vs.length)(l:DenL K α H ds vs):Den K α H (.obj c b ds) (.ref a):=by unfold Den;exact⟨a,C,dx,vs,o,rfl,h,e,d,i,l⟩
def cP{c:Str}{b:L0}{ds:X1}(d:Den K α H (.obj c b ds) v): ∃a C dx vs o,v=.ref a/\H a=some (.frz o (.ins C dx (b.zip vs)))/\PySem.W.nsIn K mainGlobals c=some (some (.ref C))/\(PySem.W.clsIn K C).map (·.name)=some c/\b.length=vs.length/\DenL K α H ds vs:=by unfold Den at d;exact d
def nN{n:String}(d:Den K α H (.typ n) v):v=.ty n:=by unfold Den at d;exact d
def yW{ds:X1}(d:Den K α H (.tup ds) v): ∃a vs,v=.ref a/\SqT K H a vs/\DenL K α H ds vs:=by unfold Den at d;exact d
def cQ{ds:X1}(d:Den K α H (.scr ds) v): ∃a vs,v=.ref a/\SqF K H a vs/\DenL K α H ds vs:=by unfold Den at d;exact d
def bM{l:Nat}(d:Den K α H (.loc l) v): ∃a,v=.ref a/\α[l]? =some a:=by unfold Den at d;exact d
theorem yE:DenL K α H [] []:=by unfold DenL;rfl
def zW{d:MV}{ds:X1}(a:Den K α H d v)(l:DenL K α H ds vs):DenL K α H (d::ds) (v::vs):=by unfold DenL;exact⟨v,vs,rfl,a,l⟩
def DenL.uncons{d:MV}{ds:X1}(l:DenL K α H (d::ds) vs): ∃v r,vs=v::r/\Den K α H d v/\DenL K α H ds r:=by unfold DenL at l;exact l
def DenL.isnil(l:DenL K α H [] vs):vs=[]:=by unfold DenL at l;exact l
theorem DenL.length: ∀{ds:X1}{vs:List V},DenL K α H ds vs->vs.length=ds.length
 |[],_,q=>by rw[q.isnil];rfl
 |d::ds,_,q=>by obtain⟨v,r,rfl,_,l⟩:=q.uncons;rw[lC,lC,DenL.length l]
theorem DenL.append: ∀{ds es:X1}{vs us:List V},DenL K α H ds vs->DenL K α H es us->DenL K α H (ds++es) (vs++us)
 |[],_,_,_,q,l=>by rw[q.isnil];exact l
 |d::ds,_,_,_,q,l=>by obtain⟨v,r,rfl,a,b⟩:=q.uncons;exact zW a (DenL.append b l)
theorem DenL.drop: ∀{ds:X1}{vs:List V}(n:Nat),DenL K α H ds vs->DenL K α H (ds.drop n) (vs.drop n)
 |_,_,0,q=>q
 |[],_,n+1,q=>by rw[q.isnil];exact yE
 |d::ds,_,n+1,q=>by obtain⟨v,r,rfl,_,l⟩:=q.uncons;exact DenL.drop n l
theorem DenL.take: ∀{ds:X1}{vs:List V}(n:Nat),DenL K α H ds vs->DenL K α H (ds.take n) (vs.take n)
 |_,_,0,q=>yE
 |[],_,n+1,q=>by rw[q.isnil];exact yE
 |d::ds,_,n+1,q=>by obtain⟨v,r,rfl,a,l⟩:=q.uncons;exact zW a (DenL.take n l)
theorem DenL.reverse: ∀{ds:X1}{vs:List V},DenL K α H ds vs->DenL K α H ds.reverse vs.reverse
 |[],_,q=>by rw[q.isnil];exact yE
 |d::ds,_,q=>by obtain⟨v,r,rfl,a,l⟩:=q.uncons;rw[reverse_cons,reverse_cons];exact(DenL.reverse l).append (zW a yE)
theorem DenL.set{d:MV}(a:Den K α H d v): ∀{ds:X1}{vs:List V}(n:Nat),DenL K α H ds vs->DenL K α H (ds.set n d) (vs.set n v)
 |[],_,_,q=>by rw[q.isnil];exact yE
 |e::ds,_,0,q=>by obtain⟨c,r,rfl,b,l⟩:=q.uncons;exact zW a l
 |e::ds,_,n+1,q=>by obtain⟨c,r,rfl,b,l⟩:=q.uncons;exact zW b (DenL.set a n l)
theorem DenL.get: ∀{ds:X1}{vs:List V}{i:Nat}{v:V},DenL K α H ds vs->vs[i]? =some v-> ∃d,ds[i]? =some d/\Den K α H d v
 |[],_,_,_,q,e=>by rw[q.isnil]at e;simp at e
 |d::ds,_,0,_,q,e=>by obtain⟨v,r,rfl,a,l⟩:=q.uncons;simp at e;subst e;exact⟨d,rfl,a⟩
 |d::ds,_,i+1,_,q,e=>by obtain⟨v,r,rfl,a,l⟩:=q.uncons;obtain⟨b,h1,c⟩:=DenL.get l (by simpa using e);exact⟨b,by simpa using h1,c⟩
def DenL.at{ds:X1}{i:Nat}{d:MV}(q:DenL K α H ds vs)(e:ds[i]? =some d): ∃v,vs[i]? =some v/\Den K α H d v:=by
 have hi:=(gS.mp e).1;have a:i<vs.length:=by rw[q.length];exact hi
 obtain⟨c,h1,b⟩:=q.get (gE a);rw[e]at h1;cases h1;exact⟨_,gE a,b⟩
def DenL.cut{ds:X1}(q:DenL K α H ds vs)(lo hi:P0):DenL K α H (cN ds lo hi) (Ac vs lo hi):=by unfold cN Ac;rw[q.length];exact(q.drop _).take _
theorem mV: ∀(a:A0),DenL K α H (a.map MV.int) (a.map V.int)
 |[]=>yE
 |b::bs=>zW (wQ b) (mV bs)
end
structure Gm where
 K:PySem.W.Frag
 mg:Str->Option ņ
 P:ň
 w:World
abbrev _root_.L2.Cx.g(X:Cx):Gm:=⟨X.K,X.mg,X.prog,X.w⟩
inductive DenF(K:U0)(α:K0)(H:Hp):List (Str×MV)->List (Str×V)->Prop
 |nil:DenF K α H [] []
 |cons {x:Str} {d:MV} {v:V} {fs gs}:Den K α H d v->DenF K α H fs gs->DenF K α H ((x,d)::fs) ((x,v)::gs)
theorem DenF.ex0{K:U0}(x:Ex0 α H α' H'): ∀{fs gs},DenF K α H fs gs->DenF K α' H' fs gs
 |_,_,.nil=>.nil
 |_,_,.cons a l=>.cons (a.ex0 x) (DenF.ex0 x l)
def KeyD:MV->Key->Prop
 |.int i,k=>k=.inl i
 |.str x,k=>k=.inr (qE x)
 |_,_=>False
inductive DenK(K:U0)(α:K0)(H:Hp):List (MV×MV)->List (Key×V)->Prop
 |nil:DenK K α H [] []
 |cons {k:MV} {k':Key} {d:MV} {v:V} {fs gs}:KeyD k k'->Den K α H d v->DenK K α H fs gs->DenK K α H ((k,d)::fs) ((k',v)::gs)
theorem DenK.ex0{K:U0}(x:Ex0 α H α' H'): ∀{fs gs},DenK K α H fs gs->DenK K α' H' fs gs
 |_,_,.nil=>.nil
 |_,_,.cons k a l=>.cons k (a.ex0 x) (DenK.ex0 x l)
mutual
def wK:MV->Option NK
 |.non=>some (.key none)
 |.int i=>some (.key (some (.inl i)))
 |.str x=>some (.key (some (.inr (qE x))))
 |.tup ds=>(jW ds).map .tup
 |_=>none
def jW:List MV->Option (List NK)
 |[]=>some []
 |d::ds=>(wK d).bind λk=>(jW ds).map (k::·)
end
inductive DenN(K:U0)(α:K0)(H:Hp):List (MV×MV)->List (NK×Addr×ņ)->Prop
 |nil:DenN K α H [] []
 |cons {k:MV} {nk:NK} {a:Addr} {d:MV} {v:V} {u:ņ} {fs xs}:wK k=some nk->qS nk<=4->Den K α H k (.ref a)->Den K α H d v->RelV v u->DenN K α H fs xs->DenN K α H ((k,d)::fs) ((nk,a,u)::xs)
theorem DenN.ex0{K:U0}(x:Ex0 α H α' H'): ∀{fs xs},DenN K α H fs xs->DenN K α' H' fs xs
 |_,_,.nil=>.nil
 |_,_,.cons k e a d r l=>.cons k e (a.ex0 x) (d.ex0 x) r (DenN.ex0 x l)
def ObD(g:Gm)(α:K0)(H:Hp)(a:Addr):MO->Prop
 |.lst ds=> ∃vs,H a=some (.lst vs)/\DenL g.K α H ds vs
 |.dic kvs=>(∃d,H a=some (.dK d)/\DenK g.K α H kvs d)\/ ∃xs,H a=some (DN g.P g.w a xs)/\DenN g.K α H kvs xs
 |.ins c fs=> ∃C gs,g.mg c=some (.ref C)/\DenF g.K α H fs gs/\
   ∃b,H a=some (.frz b (.ext λh=>h.get? a=some b))/\b.cls=.ref C/\(fs=[]\/ ∃dx e,b.dict=some dx/\H dx=some (.frz e (.xd gs))/\ ∃vs,b.data=.fields vs)
 |.rcd c fs=> ∃C dx gs,PySem.W.nsIn g.K mainGlobals c=some (some (.ref C))/\H a=some (.ins C dx gs)/\DenF g.K α H fs gs
 |.fdc kvs=> ∃b xs,H a=some (.frz b (DN g.P g.w a xs))/\DenN g.K α H kvs xs
def ObD.there{g:Gm}{a:Addr}{o:MO}(h:ObD g α H a o): ∃b,H a=some b/\(∀xs,b≠.tup xs)/\ ∀ob u,b=.frz ob u-> ∃d,u=.ext d:=by
 cases o with
 |lst ds=>obtain⟨vs,h,_⟩:=h;exact⟨_,h,(λxs z=>by cases z),λ_ _ z=>by cases z⟩
 |dic ds=>
  rcases h with⟨vs,h,_⟩|⟨vs,h,_⟩
  .exact⟨_,h,(λxs z=>by cases z),λ_ _ z=>by cases z⟩
  .exact⟨_,h,(λxs z=>by cases z),λ_ _ z=>by cases z⟩
 |ins c ds=>
  obtain⟨_,_,_,_,_,h,_⟩:=h;exact⟨_,h,(λxs z=>by cases z),λ_ _ z=>by cases z;exact⟨_,rfl⟩⟩
 |rcd c ds=>obtain⟨_,_,_,_,h,_⟩:=h;exact⟨_,h,(λxs z=>by cases z),λ_ _ z=>by cases z⟩
 |fdc kvs=>obtain⟨_,_,h,_⟩:=h;exact⟨_,h,(λxs z=>by cases z),λ_ _ z=>by cases z;exact⟨_,rfl⟩⟩
def ObD.move{g:Gm}{a:Addr}{o:MO}(h:ObD g α H a o)(x:Ex0 α H α' H')(e:H' a=H a):ObD g α' H' a o:=by
 cases o with
 |lst ds=>obtain⟨vs,h,l⟩:=h;exact⟨vs,e.trans h,l.ex0 x⟩
 |dic ds=>
  rcases h with⟨vs,h,l⟩|⟨vs,h,l⟩
  .exact .inl ⟨vs,e.trans h,l.ex0 x⟩
  .exact .inr ⟨vs,e.trans h,l.ex0 x⟩
 |ins c ds=>
  obtain⟨C,gs,m,l,b,h,j,n⟩:=h;exact⟨C,gs,m,l.ex0 x,b,e.trans h,j,n.imp id λ⟨dx,d,h1,k,i⟩=>⟨dx,d,h1,x.frz _ _ _ k,i⟩⟩
 |rcd c ds=>obtain⟨C,dx,gs,m,h,l⟩:=h;exact⟨C,dx,gs,m,e.trans h,l.ex0 x⟩
 |fdc kvs=>obtain⟨b,xs,h,l⟩:=h;exact⟨b,xs,e.trans h,l.ex0 x⟩
structure Wd(g:Gm)(α:K0)(S:Sto)(H:Hp):Prop where
 len:α.length=S.length
 nd:α.Nodup
 obj: ∀(l:Nat)(a:Addr)(o:MO),α[l]? =some a->S[l]? =some o->ObD g α H a o
section
variable{g:Gm}{α:K0}{S:Sto}{H:Hp}
def Wd.at(w:Wd g α S H){l:Nat}{o:MO}(h:S[l]? =some o): ∃a,α[l]? =some a/\ObD g α H a o:=by
 have b:l<α.length:=by rw[w.len];exact(gS.mp h).1
 exact⟨α[l],gE b,w.obj l _ o (gE b) h⟩
def Wd.of(w:Wd g α S H){l:Nat}{a:Addr}(h:α[l]? =some a): ∃o,S[l]? =some o/\ObD g α H a o:=by
 have b:l<S.length:=by rw[<-w.len];exact(gS.mp h).1
 exact⟨S[l],gE b,w.obj l a _ h (gE b)⟩
def Wd.mem(w:Wd g α S H){a:Addr}(h:a∈α): ∃b,H a=some b/\(∀xs,b≠.tup xs)/\ ∀ob u,b=.frz ob u-> ∃c,u=.ext c:=by obtain⟨l,d⟩:=getElem?_of_mem h;obtain⟨o,_,q⟩:=w.of d;exact q.there
def Wd.newx(w:Wd g α S H){p:Addr}(hp:H p=none):Ext α H α (xG H p o) where
 pre:=⟨[],by simp⟩
 new:=λb h=>.inl h
 keep:=λb o h _=>by rw[zF (zU h hp)];exact h
 has:=λb o h=>⟨o,by rw[zF (zU h hp)];exact h⟩
 tup:=λb o h=>by rw[zF (zU h hp)];exact h
 frz:=λb o u h=>by rw[zF (zU h hp)];exact h
def Wd.fresh(w:Wd g α S H){p:Addr}(a:H p=none):p∉α:=λz=>by obtain⟨_,h,_⟩:=w.mem z;rw[a]at h;cases h
def Wd.new(w:Wd g α S H){p:Addr}(b:H p=none):Wd g α S (xG H p o):=
 ⟨w.len,w.nd,λl a ob h1 c=>(w.obj l a ob h1 c).move (w.newx b).toEx0 (zF λz=>w.fresh b (by rw[<-z];exact ô h1))⟩
def C4{b:HO}{a:Addr}(h:H a=some b)(n: ∀ob u,b≠.frz ob u:=by intro _ _ z;cases z): ∀ob u,H a≠some (.frz ob u):=λob u z=>n ob u (å (h.symm.trans z))
def Wd.writex(w:Wd g α S H){l:Nat}{a:Addr}(h:α[l]? =some a)(nf: ∀ob u,H a≠some (.frz ob u)):Ext α H α (xG H a o) where
 pre:=⟨[],by simp⟩
 new:=λb h=>.inl h
 keep:=λb o e n=>by rw[zF λz=>n (by rw[z];exact ô h)];exact e
 has:=λb o e=>by
  by_cases z:b=a
  .subst z;exact⟨_,zV⟩
  .exact⟨o,by rw[zF z];exact e⟩
 tup:=λb xs e=>by obtain⟨ho,h1,h2,_⟩:=w.mem (ô h);rw[zF λz=>h2 xs (by subst z;rw[e]at h1;exact(å h1).symm)];exact e
 frz:=λb ob u e=>by rw[zF λz=>nf ob u (by rw[<-z];exact e)];exact e
def Wd.ne(w:Wd g α S H){l m:Nat}{a b:Addr}(h:α[l]? =some a)(h':α[m]? =some b)(n:l≠m):a≠b:=by rintro rfl;obtain⟨h1,e1⟩:=gS.mp h;obtain⟨c,e2⟩:=gS.mp h';exact n ((getElem_inj w.nd).mp (e1.trans e2.symm))
def Wd.write(w:Wd g α S H){l:Nat}{a:Addr}{ob:MO}(h:α[l]? =some a)(nf: ∀ob u,H a≠some (.frz ob u))(q:ObD g α (xG H a o) a ob):Wd g α (S.set l ob) (xG H a o) where
 len:=by rw[Ľ];exact w.len
 nd:=w.nd
 obj:=λm b ob' h1 h2=>by
  by_cases e:l=m
  .subst e;rw[h]at h1;have hl:l<S.length:=by rw[<-w.len];exact(gS.mp h).1
   rw[ă hl]at h2;rw[<-å h1, <-å h2];exact q
  .rw[õ e]at h2;exact(w.obj m b ob' h1 h2).move (w.writex h nf).toEx0 (zF (w.ne h1 h λz=>e z.symm))
def Wd.enterx(w:Wd g α S H){α0:K0}(x:Ext α0 H0 α H){b:Addr}(h0:H0 b=none)(n:b∉α):Ext α0 H0 (α++[b]) H where
 pre:=let ⟨t,e⟩:=x.pre;⟨_,by rw[e,aA]⟩
 new:=λc hc=>(ê.mp hc).elim (x.new c) λz=>.inr (by rw[mS.mp z];exact h0)
 keep:=x.keep
 has:=x.has
 tup:=x.tup
 frz:=x.frz
theorem Wd.enter(w:Wd g α S H){b:Addr}{ds:X1}(h:H b=some (.lst vs))(n:b∉α)(l:DenL g.K α H ds vs):Wd g (α++[b]) (S++[.lst ds]) H where
 len:=by rw[lA,lA,w.len];rfl
 nd:=ħ.mpr ⟨w.nd,by simp,λa ha c hc=>by rw[mS.mp hc];rintro rfl;exact n ha⟩
 obj:=λm a o h1 h2=>by
  by_cases hm:m<α.length
  .rw[ë hm]at h1;rw[ë (by rw[<-w.len];exact hm)]at h2;exact(w.obj m a o h1 h2).move (Ex0.grow α [b] H) rfl
  .have hm':m=α.length:=by
    have:=(gS.mp h1).1;rw[lA,lS]at this
    lia
   subst hm';rw[ð (à _),sub_self]at h1;rw[ð (by rw[w.len];exact à _),w.len,sub_self]at h2;cases h1;cases h2;exact⟨vs,h,l.ex0 (Ex0.grow α [b] H)⟩
end
inductive R(β:Type) where
 |ok (b:β) (S:Sto)|exc (c:Str) (fs:List (Str×MV)) (S:Sto)|no
def R.bind:R β->(β->Sto->R γ)->R γ
 |.ok b S,k=>k b S
 |.exc c fs S,_=>.exc c fs S
 |.no,_=>.no
theorem R.bind_ok(b:β)(S:Sto)(k:β->Sto->R γ):(R.ok b S).bind k=k b S:=rfl
inductive Er where
 |val (d:MV)|new (ds:X1)
variable{rs:List Er}
instance:Inhabited Er:=⟨.val .non⟩
def DenX(K:U0)(α:K0)(H:Hp):Er->V->Prop
 |.val d,v=>Den K α H d v
 |.new ds,v=> ∃b vs,v=.ref b/\H b=some (.lst vs)/\b∉α/\DenL K α H ds vs
def DenE(K:U0)(H:Hp)(α':K0)(H':Hp)(r:Er)(v:V):Prop:=DenX K α' H' r v/\match r with |.new _=> ∀a,v=.ref a->H a=none|_=>True
section
variable{K:U0}{α α':K0}{H H0 H':Hp}
def DenX.ext(x:Ext α H α' H'): ∀{r:Er}{v:V},DenX K α H r v->DenX K α' H' r v
 |.val d,_,q=>Den.ext x q
 |.new ds,_,⟨b,vs,e,h,n,l⟩=>⟨b,vs,e,x.keep b _ h n,x.out h n,l.ext x⟩
def DenE.val{d:MV}(q:Den K α' H' d v):DenE K H α' H' (.val d) v:=⟨q,trivial⟩
def DenE.back(c: ∀b,H b=none->H0 b=none){r:Er}(q:DenE K H α' H' r v):DenE K H0 α' H' r v:=by
 refine⟨q.1,?_⟩
 cases r with
 |new ds=>exact λa e=>c a (q.2 a e)
 |_=>trivial
def DenE.ext{α'':K0}{H'':Hp}(x:Ext α' H' α'' H''){r:Er}(q:DenE K H α' H' r v):DenE K H α'' H'' r v:=⟨q.1.ext x,q.2⟩
end
section
variable{K:U0}{α:K0}{H:Hp}{v:V}
def oK(d:DenX K α H (.val .non) v):v=.non:=nL (K:=K) (α:=α) (H:=H) d
def qU{b:Bool}(d:DenX K α H (.val (.bl b)) v):v=.bl b:=mU (K:=K) (α:=α) (H:=H) d
def kG{b:Int}(d:DenX K α H (.val (.int b)) v):v=.int b:=yL (K:=K) (α:=α) (H:=H) d
def eW{b:Tk}(d:DenX K α H (.val (.str b)) v):v=.str (qE b):=wD (K:=K) (α:=α) (H:=H) d
def Ex{b:String}(d:DenX K α H (.val (.typ b)) v):v=.ty b:=nN (K:=K) (α:=α) (H:=H) d
def SJ{c:Str}{b:L0}{ds:X1}(d:DenX K α H (.val (.obj c b ds)) v): ∃a C dx vs o,v=.ref a/\H a=some (.frz o (.ins C dx (b.zip vs)))/\PySem.W.nsIn K mainGlobals c=some (some (.ref C))/\(PySem.W.clsIn K C).map (·.name)=some c/\b.length=vs.length/\DenL K α H ds vs:=cP d
def cR{ds:X1}(d:DenX K α H (.val (.tup ds)) v): ∃a vs,v=.ref a/\SqT K H a vs/\DenL K α H ds vs:=yW d
def EU{ds:X1}(d:DenX K α H (.val (.scr ds)) v): ∃a vs,v=.ref a/\SqF K H a vs/\DenL K α H ds vs:=cQ d
def lO{l:Nat}(d:DenX K α H (.val (.loc l)) v): ∃a,v=.ref a/\α[l]? =some a:=bM (K:=K) (H:=H) d
end
def DA:List Er->List V->List Addr
 |.new _::rs,.ref b::vs=>b::DA rs vs
 |_::rs,_::vs=>DA rs vs
 |_,_=>[]
inductive ArgsE(K:U0)(H:Hp)(α':K0)(H':Hp):List Er->List V->Prop
 |nil:ArgsE K H α' H' [] []
 |cons {r v rs vs}:DenE K H α' H' r v->(∀ds b,r=.new ds->v=.ref b->b∉DA rs vs)->ArgsE K H α' H' rs vs->ArgsE K H α' H' (r::rs) (v::vs)
theorem ArgsE.nones{K:U0}: ∀{rs vs},ArgsE K H α' H' rs vs-> ∀b∈DA rs vs,H b=none
 |_,_,.nil=>λb h=>by simp[DA]at h
 |.val d::_,v::_,.cons a n l=>λb h=>ArgsE.nones l b (by simpa [DA]using h)
 |.new ds::_,v::_,.cons a n l=>λb h=>by
  obtain⟨c,vs,rfl,_⟩:=a.1;rcases mC.mp h with rfl|h
  .exact a.2 _ rfl
  .exact ArgsE.nones l b h
theorem ArgsE.back{K:U0}(c: ∀b,H b=none->H0 b=none): ∀{rs vs},ArgsE K H α' H' rs vs->ArgsE K H0 α' H' rs vs
 |_,_,.nil=>.nil
 |_,_,.cons a n l=>.cons (a.back c) n (ArgsE.back c l)
theorem ArgsE.length{K:U0}: ∀{rs vs},ArgsE K H α' H' rs vs->vs.length=rs.length
 |_,_,.nil=>rfl
 |_,_,.cons _ _ l=>by rw[lC,lC,ArgsE.length l]
class Dn (β:Type) (τ:outParam Type) where
 d:Gm->Hp->List Addr->Sto->Hp->β->τ->Prop
 back: ∀{g:Gm}{H H0:Hp}{α':K0}{S':Sto}{H':Hp}{b:β}{u:τ},(∀b,H b=none->H0 b=none)->d g H α' S' H' b u->d g H0 α' S' H' b u
instance:Dn Er V:=⟨λg H α' _ H' r v=>DenE g.K H α' H' r v,λa q=>q.back a⟩
instance:Dn Bool Bool:=⟨λ_ _ _ _ _ b u=>u=b,λ_ q=>q⟩
instance:Dn (List Er) (List V):=⟨λg H α' _ H' r v=>ArgsE g.K H α' H' r v,λa q=>q.back a⟩
instance:Dn (Option Int) (Option Int):=⟨λ_ _ _ _ _ b u=>u=b,λ_ q=>q⟩
abbrev XW:=Str->List (Str×MV)->Sto->List Addr->Hp->Prop
abbrev W0:XW:=λ_ _ _ _ _=>False
def Post[Dn β τ](g:Gm)(W:XW)(α:K0)(H:Hp):R β->(τ->Hp->Prop)->Prop
 |.ok b S,Q=> ∀u α' H',Ext α H α' H'->Wd g α' S H'->Dn.d g H α' S H' b u->Q u H'
 |.exc c fs S,_=> ∀α' H',Ext α H α' H'->Wd g α' S H'->W c fs S α' H'
 |.no,_=>False
section
variable{β τ γ υ:Type}[Dn β τ][Dn γ υ]{g:Gm}{W:XW}{α α':K0}{H H':Hp}
def Post.shift(x:Ext α H α' H'): ∀{m:R β}{Q:τ->Hp->Prop},Post g W α H m Q->Post g W α' H' m Q
 |.ok b S,Q,q=>λu a i e d j=>q u a i (x.trans e) d (Dn.back (λb h=>x.free h) j)
 |.exc c fs S,_,q=>λa i e d=>q a i (x.trans e) d
 |.no,_,q=>q
def Post.bind{m:R β}{k:β->Sto->R γ}{Q:υ->Hp->Prop}{e:τ->Hp->Prop}(q:Post g W α H (m.bind k) Q)
  (f: ∀u b S1 a H1,m=.ok b S1->Ext α H a H1->Wd g a S1 H1->Dn.d g H a S1 H1 b u->Post g W α H (k b S1) Q->e u H1):Post g W α H m e:=by
 cases m with
 |ok b S=>exact λu a H1 x w d=>f u b S a H1 rfl x w d q
 |exc c fs S=>exact q
 |no=>exact q
def Post.here{b:β}{Q:τ->Hp->Prop}{u:τ}(q:Post g W α H (.ok b S) Q)(w:Wd g α S H)(d:Dn.d g H α S H b u):Q u H:=q u α H (Ext.refl α H) w d
end
def Post.val{g:Gm}{W:XW}{d:MV}{Q:VK}(q:Post g W α H (.ok (Er.val d) S) Q)(w:Wd g α S H)(k:Den g.K α H d v):Q v H:=q.here w (DenE.val k)
def Post.newl{g:Gm}{W:XW}{ds:X1}{Q:VK}{p:Addr}(q:Post g W α H (.ok (Er.new ds) S) Q)(w:Wd g α S H)(b:H p=none)(l:DenL g.K α H ds vs):Q (.ref p) (xG H p (.lst vs)):=
 q _ α _ (w.newx b) (w.new b) ⟨⟨p,vs,rfl,zV,w.fresh b,l.ext (w.newx b)⟩,λa e=>by cases e;exact b⟩
def Post.newt{g:Gm}{W:XW}{ds:X1}{Q:VK}{p:Addr}(q:Post g W α H (.ok (Er.val (.tup ds)) S) Q)(w:Wd g α S H)(a:H p=none)(l:DenL g.K α H ds vs):Q (.ref p) (xG H p (.tup vs)):=
 q _ α _ (w.newx a) (w.new a) (.val (oI (.of zV) (l.ext (w.newx a))))
abbrev Rho:=List (Option MV)
variable{gf:MV->Rho->Sto->R Rho}{ρ:Rho}{g2:List MV->Rho->Sto->R Rho}
structure Slots(K:U0)(α:K0)(H:Hp)(ρ:Rho)(σ:St):Prop where
 len:σ.length=ρ.length
 slot: ∀(i:Nat)(d:MV),ρ[i]? =some (some d)-> ∃v,σ[i]? =some (some v)/\Den K α H d v
section
variable{K:U0}{α α':K0}{H H':Hp}{ρ:Rho}{σ:St}
def Slots.ex0(q:Slots K α H ρ σ)(x:Ex0 α H α' H'):Slots K α' H' ρ σ:=⟨q.len,λi d e=>let ⟨v,h1,a⟩:=q.slot i d e;⟨v,h1,a.ex0 x⟩⟩
def Slots.ext(q:Slots K α H ρ σ)(x:Ext α H α' H'):Slots K α' H' ρ σ:=q.ex0 x.toEx0
theorem Mg{α:Type}{l:List α}{i j:Nat}{x y:α}(h:(l.set i x)[j]? =some y):(j=i/\y=x/\i<l.length)\/(j≠i/\l[j]? =some y):=by
 by_cases a:i=j
 .subst a;by_cases b:i<l.length
  .rw[ă b]at h;exact .inl ⟨rfl,(å h).symm,b⟩
  .rw[ą (by rw[Ľ];lia)]at h;cases h
 .rw[õ a]at h;exact .inr ⟨λz=>a z.symm,h⟩
def Slots.set(q:Slots K α H ρ σ){i:Nat}{d:MV}(h:Den K α H d v):Slots K α H (ρ.set i (some d)) (σ.set i (some v)):=by
 refine⟨by rw[Ľ,Ľ];exact q.len,λj e z=>?_⟩;rcases Mg z with⟨rfl,e',hl⟩|⟨hj,e'⟩
 .cases e';exact⟨v,by rw[ă (by rw[q.len];exact hl)],h⟩
 .obtain⟨u,h1,a⟩:=q.slot j e e';exact⟨u,by rw[õ (Ne.symm hj)];exact h1,a⟩
end
def Jd(X:Cx)(W:XW)[Dn β τ](P:(St->Hp->(τ->Hp->Prop)->Prop)->Prop)(f:Rho->Sto->R β):Prop:=
 ∃t,P t/\ ∀α ρ S σ H Q,Wd X.g α S H->Slots X.K α H ρ σ->Post X.g W α H (f ρ S) Q->t σ H Q
abbrev zM(X:Cx)(W:XW)(e:Expr)(f:Rho->Sto->R Er):Prop:=Jd X W (PE X e) f
abbrev pT(X:Cx)(W:XW)(e:Expr)(f:Rho->Sto->R Bool):Prop:=Jd X W (PT X e) f
abbrev Sl(X:Cx)(W:XW)(e:Expr)(f:Rho->Sto->R Bool):Prop:=Jd X W (PW X e) f
abbrev HQ(X:Cx)(W:XW)(es:R0)(f:Rho->Sto->R (List Er)):Prop:=Jd X W (PA X es) f
abbrev Vt(X:Cx)(W:XW)(e:Option Expr)(f:Rho->Sto->R (Option Int)):Prop:=Jd X W (PO X e) f
section
variable{X:Cx}{W:XW}{a b c:Expr}{f g h:Rho->Sto->R Er}{pos:Pos}
def Mh:Option (Option MV)->Sto->R Er
 |some (some d),S=>.ok (.val d) S
 |_,_=>.no
def Vu(i:Nat){x:Str}(e:X.N[i]? =some x:=by rfl)(b:D9 X.env.scope x:=by first |exact Or.inl rfl|exact Or.inr (Or.inl rfl)|exact Or.inr (Or.inr rfl))(a:(x==("__debug__":Str))=false:=by decide)
  (hcd:(x==("__classdict__":Str))=false:=by decide):zM X W (.Name x pos) (λρ S=>Mh (ρ[i]?) S):=by
 refine⟨_,pv i e b a hcd,λα ρ S σ H Q c sl q=>?_⟩;dsimp only at q
 cases z:ρ[i]? with
 |none=>rw[z]at q;exact q.elim
 |some o=>
  cases o with
  |none=>rw[z]at q;exact q.elim
  |some d=>
   rw[z]at q;obtain⟨v,h1,h⟩:=sl.slot i d z;exact⟨v,h1,Post.val q c h⟩
def Vv{i:Int}{j:Nat}:zM X W (.Constant (.int i) j pos) (λ_ S=>.ok (.val (.int i)) S):=⟨_,Du,λα ρ S σ H Q a sl q=>Post.val q a (wQ i)⟩
def K8{i:Bool}{j:Nat}:zM X W (.Constant (.bool i) j pos) (λ_ S=>.ok (.val (.bl i)) S):=⟨_,E2,λα ρ S σ H Q a sl q=>Post.val q a (wC i)⟩
def Vx{j:Nat}:zM X W (.Constant .none j pos) (λ_ S=>.ok (.val .non) S):=⟨_,Ua,λα ρ S σ H Q a sl q=>Post.val q a DY⟩
def Vy{x:Str}{j:Nat}(cs:Tk)(b:x=qE cs:=by rfl):zM X W (.Constant (.str x) j pos) (λ_ S=>.ok (.val (.str cs)) S):=
 ⟨_,Ub,λα ρ S σ H Q a sl q=>Post.val q a (by rw[b];exact sB cs)⟩
def Mi{x:Str}{i:Int}{t:Tok}(c:Gl X x)(b:X.mg x=some (.int i t))(a:(x==("__debug__":Str))=false:=by decide):zM X W (.Name x pos) (λ_ S=>.ok (.val (.int i)) S):=
 ⟨_,Kw (v:=.int i) c b ⟨t,rfl⟩ a,λα ρ S σ H Q d sl q=>Post.val q d (wQ i)⟩
def Sm{x:Str}{T:String}(c:Gl X x)(b:X.mg x=none)(e:bootBuiltins x=some (.type T))(h:x≠"__name__":=by decide)(a:(x==("__debug__":Str))=false:=by decide):zM X W (.Name x pos) (λ_ S=>.ok (.val (.typ T)) S):=
 ⟨_,Ky (v:=.ty T) c b e rfl h a,λα ρ S σ H Q d sl q=>Post.val q d (WC T)⟩
def Vz{i:Int}{j:Nat}{p3:Pos}:zM X W (.UnaryOp .USub (.Constant (.int i) j p3) pos) (λ_ S=>.ok (.val (.int (-i))) S):=
 ⟨_,F9 Va Du,λα ρ S σ H Q a sl q=>⟨i,rfl,Post.val q a (wQ (-i))⟩⟩
def OS(X:Cx)(W:XW)(r:R2)(F:Er->Er->Sto->R Er):Prop:= ∀p q x y α S H Q,Wd X.g α S H->DenX X.K α H p x->DenX X.K α H q y->Post X.g W α H (F p q S) Q->r x y H Q
def two{r:R2}{F:Er->Er->Sto->R Er}(m:OS X W r F){ta tb:TE}(i: ∀α ρ S σ H Q,Wd X.g α S H->Slots X.K α H ρ σ->Post X.g W α H (f ρ S) Q->ta σ H Q)
  (fb: ∀α ρ S σ H Q,Wd X.g α S H->Slots X.K α H ρ σ->Post X.g W α H (g ρ S) Q->tb σ H Q) {α:K0} {ρ:Rho} {S:Sto} {σ:St} {H:Hp} {Q:VK} (wd:Wd X.g α S H) (sl:Slots X.K α H ρ σ)
  (q:Post X.g W α H ((f ρ S).bind λp S1=>(g ρ S1).bind λq S2=>F p q S2) Q):ta σ H λx H1=>tb σ H1 λy a=>r x y a Q:=
 i α ρ S σ H _ wd sl (q.bind λu p S1 b H1 e1 d k s h=>fb b ρ S1 σ H1 _ k (sl.ext d) ((h.shift d).bind λo p2 S2 c a e2 e n v j=>
  m p p2 u o c S2 a Q n (s.1.ext e) v.1 (j.shift e)))
def OT{e:Operator}{r:R2}{F:Er->Er->Sto->R Er}(i:OpR X (binaryOp e) r)(k:OS X W r F)(c:zM X W a f)(d:zM X W b g):zM X W (.BinOp a e b pos) (λρ S=>(f ρ S).bind λp S1=>(g ρ S1).bind λq S2=>F p q S2):=by obtain⟨ta,c,h⟩:=c;obtain⟨tb,d,m⟩:=d;exact⟨_,Sf i c d,λα ρ S σ H Q j sl q=>two k h m j sl q⟩
def uD{e:CmpOp}{r:R2}{F:Er->Er->Sto->R Er}(j:OpR X (compareOp e) r)(m:OS X W r F)(c:zM X W a f)(d:zM X W b g)(h:behindInMarks e b=false:=by first |exact Ec _|with_unfolding_all rfl):
  zM X W (.Compare a [e] [b] pos) (λρ S=>(f ρ S).bind λp S1=>(g ρ S1).bind λq S2=>F p q S2):=by
 obtain⟨ta,c,i⟩:=c;obtain⟨tb,d,n⟩:=d;exact⟨_,Lf j c d h,λα ρ S σ H Q k sl q=>two m i n k sl q⟩
def Sn{r:R2}{F:Er->Er->Sto->R Er}(h:IxR X r)(j:OS X W r F)(c:zM X W a f)(d:zM X W b g)(hs:DX b:=by exact λ_ _=>rfl):
  zM X W (.Subscript a b pos) (λρ S=>(f ρ S).bind λp S1=>(g ρ S1).bind λq S2=>F p q S2):=by
 obtain⟨ta,c,e⟩:=c;obtain⟨tb,d,k⟩:=d;exact⟨_,J7 h c d hs,λα ρ S σ H Q i sl q=>two j e k i sl q⟩
def cX:Er->Sto->R Bool
 |.val (.bl b),S=>.ok b S
 |_,_=>.no
def Ey{p:Er}{Q:Bool->Hp->Prop}(q:Post X.g W α H (cX p S) Q): ∃k,p=.val (.bl k)/\Post X.g W α H (.ok k S) Q:=by
 unfold cX at q;split at q
 .exact⟨_,rfl,q⟩
 .exact q.elim
def EV[Dn β τ]{p:Er}{k:Bool->Sto->R β}{Q:τ->Hp->Prop}(q:Post X.g W α H ((cX p S).bind k) Q): ∃c,p=.val (.bl c)/\Post X.g W α H (k c S) Q:=by
 unfold cX at q;split at q
 .exact⟨_,rfl,q⟩
 .exact q.elim
def eX{e:CmpOp}{r:R2}{F:Er->Er->Sto->R Er}(m:OpR X (compareOp e) r)(y:OS X W r F)(c:zM X W a f)(d:zM X W b g)(j:behindInMarks e b=false:=by first |exact Ec _|with_unfolding_all rfl):
  pT X W (.Compare a [e] [b] pos) (λρ S=>((f ρ S).bind λp S1=>(g ρ S1).bind λq S2=>F p q S2).bind cX):=by
 obtain⟨ta,c,i⟩:=c;obtain⟨tb,d,A⟩:=d;refine⟨_,Lg m c d j,λα ρ S σ H Q n sl q=>?_⟩;refine two y i A n sl (q.bind λu p S1 v H1 e1 w s z h=>?_);obtain⟨k,rfl,o⟩:=Ey (h.shift w);exact⟨k,qU z.1,o.here s rfl⟩
def chF(F G:Er->Er->Sto->R Er)(p q:Er)(S:Sto)(k:Sto->R Er):R Er:=(F p q S).bind λz S1=>(cX z S1).bind λc S2=>if c=true then(k S2).bind λr a=>G q r a else .ok (.val (.bl false)) S2
def qF:Er->Sto->R Bool
 |.val .non,S=>.ok false S
 |.val (.bl b),S=>.ok b S
 |.val (.int i),S=>.ok (i !=0) S
 |.val (.str x),S=>if x.length<=sizeLine then .ok (!x.isEmpty) S else .no
 |.val (.tup ds),S=>.ok (!ds.isEmpty) S
 |.val (.scr ds),S=>.ok (!ds.isEmpty) S
 |.val (.loc l),S=>match S[l]? with
  |some (.lst ds)=>.ok (!ds.isEmpty) S
  |_=>.no
 |.val (.typ _),_=>.no
 |.val (.obj _ _ _),_=>.no
 |.new ds,S=>.ok (!ds.isEmpty) S
def sC{ds:X1}{K:U0}(l:DenL K α H ds vs):(!vs.isEmpty)= !ds.isEmpty:=by have:=l.length;cases ds<;>cases vs<;>simp_all
theorem Ez{p:Er}{x:V}{Q:Bool->Hp->Prop}(j:Wd X.g α S H)(d:DenX X.K α H p x)(q:Post X.g W α H (qF p S) Q): ∃k,Vb X.K x H k/\Q k H:=by
 match p,d,q with
 |.val .non,d,q=>cases oK d;exact⟨_,rfl,q.here j rfl⟩
 |.val (.bl b),d,q=>cases qU d;exact⟨_,rfl,q.here j rfl⟩
 |.val (.int i),d,q=>cases kG d;exact⟨_,rfl,q.here j rfl⟩
 |.val (.typ n),d,q=>exact q.elim
 |.val (.obj _ _ _),d,q=>exact q.elim
 |.val (.str z),d,q=>
  cases eW d;have e:Post X.g W α H (if z.length<=sizeLine then R.ok _ S else R.no) Q:=q;split at e
  .rename_i v;refine⟨_,⟨by rw[oH];exact v,?_⟩,e.here j rfl⟩;rw[oH]
   cases z with
   |nil=>rfl
   |cons c r=>
    have m:((r.length:Int)+1)≠0:=by lia
    simp[m]
  .exact e.elim
 |.val (.tup ds),d,q=>
  obtain⟨a,vs,rfl,s,l⟩:=cR d;exact⟨_,.inr (.inl ⟨vs,s,(sC l).symm⟩),q.here j rfl⟩
 |.val (.scr ds),d,q=>
  obtain⟨a,vs,rfl,s,l⟩:=EU d;exact⟨_,.inl ⟨vs,s.l,(sC l).symm⟩,q.here j rfl⟩
 |.val (.loc n),d,q=>
  obtain⟨a,rfl,h⟩:=lO d;obtain⟨o,h1,w⟩:=j.of h;have e:Post X.g W α H (match S[n]? with |some (.lst ds)=>R.ok _ S|_=>R.no) Q:=q;rw[h1]at e
  cases o with
  |lst ds=>
   obtain⟨vs,u,l⟩:=w;exact⟨_,.inl ⟨vs,.of u,(sC l).symm⟩,e.here j rfl⟩
  |dic ds=>exact e.elim
  |ins c fs=>exact e.elim
  |rcd c fs=>exact e.elim
  |fdc _=>exact e.elim
 |.new ds,⟨a,vs,ex,s,n,l⟩,q=>subst ex;exact⟨_,.inl ⟨vs,.of s,(sC l).symm⟩,q.here j rfl⟩
def Fa(c:zM X W a f)(n: ∀b,isTrue a X.env b=(do let v <-b;standAt a.pos;holding [v] (truthy v)):=by intro _;rfl):pT X W a (λρ S=>(f ρ S).bind qF):=by obtain⟨ta,c,e⟩:=c;exact⟨_,Ed c n,λα ρ S σ H Q h sl q=>e α ρ S σ H _ h sl (q.bind λu p S1 j H1 e1 k i m d=>Ez i m.1 (d.shift k))⟩
end
section
variable{X:Cx}{W:XW}{a b c:Expr}{es:R0}{f g h:Rho->Sto->R Er}{tf tg:Rho->Sto->R Bool}{pos:Pos}
def Fc(p:Er)(S:Sto)(k:Sto->R Er):R Er:=(cX p S).bind λc S1=>if c=true then k S1 else .ok (.val (.bl false)) S1
def orF(p:Er)(S:Sto)(k:Sto->R Er):R Er:=(cX p S).bind λc S1=>if c=true then .ok (.val (.bl true)) S1 else k S1
def Wa{op}(b:zM X W a f):zM X W (.BoolOp op [a] pos) f:=let ⟨t,h,k⟩:=b;⟨t,Ug h,k⟩
def Wb(d:zM X W a f)(e:zM X W (.BoolOp .And (b::es) pos) g):zM X W (.BoolOp .And (a::b::es) pos) (λρ S=>(f ρ S).bind λp S1=>Fc p S1 λS2=>g ρ S2):=by
 obtain⟨ta,d,n⟩:=d;obtain⟨tb,e,s⟩:=e;refine⟨_,Uh d e,λα ρ S σ H Q o sl q=>n α ρ S σ H _ o sl (q.bind λu p S1 h H1 e1 j i r m=>?_)⟩;obtain⟨k,rfl,c⟩:=EV (m.shift j);refine⟨k,qU r.1,?_⟩
 cases k with
 |true=>rw[iP rfl]at c ⊢; exact s h ρ S1 σ H1 _ i (sl.ext j) c
 |false=>rw[iN xF0]at c ⊢; exact Post.val c i (wC false)
def K9(d:zM X W a f)(e:zM X W (.BoolOp .Or (b::es) pos) g):zM X W (.BoolOp .Or (a::b::es) pos) (λρ S=>(f ρ S).bind λp S1=>orF p S1 λS2=>g ρ S2):=by
 obtain⟨ta,d,n⟩:=d;obtain⟨tb,e,s⟩:=e;refine⟨_,E6 d e,λα ρ S σ H Q o sl q=>n α ρ S σ H _ o sl (q.bind λu p S1 h H1 e1 j i r m=>?_)⟩;obtain⟨k,rfl,c⟩:=EV (m.shift j);refine⟨k,qU r.1,?_⟩
 cases k with
 |true=>rw[iP rfl]at c ⊢; exact Post.val c i (wC true)
 |false=>rw[iN xF0]at c ⊢; exact s h ρ S1 σ H1 _ i (sl.ext j) c
def Wc(b:zM X W a f):zM X W (.UnaryOp .Not a pos) (λρ S=>(f ρ S).bind λp S1=>(cX p S1).bind λk S2=>.ok (.val (.bl !k)) S2):=by obtain⟨ta,b,d⟩:=b;refine⟨_,Ui b,λα ρ S σ H Q e sl q=>d α ρ S σ H _ e sl (q.bind λu p S1 j H1 e1 m i n c=>?_)⟩;obtain⟨k,rfl,h⟩:=EV (c.shift m);exact⟨k,qU n.1,Post.val h i (wC _)⟩
def Mj(b:pT X W a tf):Sl X W (.BoolOp .And [a] pos) tf:=let ⟨t,h,k⟩:=b;⟨t,Kz h,k⟩
def We(b:pT X W a tf):Sl X W (.BoolOp .Or [a] pos) tf:=let ⟨t,h,k⟩:=b;⟨t,Uc h,k⟩
theorem Wf(d:pT X W a tf)(e:Sl X W (.BoolOp .And (b::es) pos) tg):Sl X W (.BoolOp .And (a::b::es) pos) (λρ S=>(tf ρ S).bind λk S1=>if k=true then tg ρ S1 else .ok false S1):=by
 obtain⟨ta,d,m⟩:=d;obtain⟨tb,e,r⟩:=e;refine⟨_,Ud d e,λα ρ S σ H Q n sl q=>m α ρ S σ H _ n sl (q.bind λu p S1 h H1 e1 i j o c=>?_)⟩;cases o
 cases u with
 |true=>rw[iP rfl]at c ⊢; exact r h ρ S1 σ H1 _ j (sl.ext i) (c.shift i)
 |false=>rw[iN xF0]at c ⊢; exact(c.shift i).here j rfl
def L3(d:pT X W a tf)(e:Sl X W (.BoolOp .Or (b::es) pos) tg):Sl X W (.BoolOp .Or (a::b::es) pos) (λρ S=>(tf ρ S).bind λk S1=>if k=true then .ok true S1 else tg ρ S1):=by
 obtain⟨ta,d,m⟩:=d;obtain⟨tb,e,r⟩:=e;refine⟨_,E3 d e,λα ρ S σ H Q n sl q=>m α ρ S σ H _ n sl (q.bind λu p S1 h H1 e1 i j o c=>?_)⟩;cases o
 cases u with
 |true=>rw[iP rfl]at c ⊢; exact(c.shift i).here j rfl
 |false=>rw[iN xF0]at c ⊢; exact r h ρ S1 σ H1 _ j (sl.ext i) (c.shift i)
def L4(h:Sl X W a tf):pT X W a tf:=let ⟨t,h,k⟩:=h;⟨t,h.pt,k⟩
theorem Wg(b:pT X W a tf):pT X W (.UnaryOp .Not a pos) (λρ S=>(tf ρ S).bind λk S1=>.ok (!k) S1):=by obtain⟨ta,b,d⟩:=b;refine⟨_,Ue b,λα ρ S σ H Q e sl q=>d α ρ S σ H _ e sl (q.bind λu p S1 i H1 e1 j h m c=>?_)⟩;cases m;exact(c.shift j).here h rfl
end
section
variable{K:U0}{H0:Hp}
def zP:List Er->Sto->List MV×Sto
 |[],S=>([],S)
 |.val d::rs,S=>((d::(zP rs S).1),(zP rs S).2)
 |.new xs::rs,S=>((.loc S.length::(zP rs (S++[.lst xs])).1),(zP rs (S++[.lst xs])).2)
def ArgsE.grow{H0:Hp}{b:Addr}(q:ArgsE K H0 α H rs vs)(n:b∉DA rs vs):ArgsE K H0 (α++[b]) H rs vs:=by
 induction q with
 |nil=>exact .nil
 |@cons r v rs vs a m l ih=>
  cases r with
  |val d=>exact .cons ⟨Den.ex0 (Ex0.grow α [b] H) a.1,trivial⟩ m (ih (by simpa [DA]using n))
  |new ds=>
   obtain⟨⟨c,us,rfl,h1,i,j⟩,h⟩:=a;have e:=n;refine .cons ⟨⟨c,us,rfl,h1,λz=>?_,j.ex0 (Ex0.grow α [b] H)⟩,h⟩ m (ih λz=>e (mO _ z));rcases ê.mp z with z|z
   .exact i z
   .exact e (by rw[mS.mp z];exact mF0)
theorem qV{g:Gm}{H0:Hp}{i:K0}{H:Hp}: ∀{rs:List Er}{vs:List V}{α:K0}{S:Sto},Wd g α S H->Ext i H0 α H->ArgsE g.K H0 α H rs vs->
  ∃α',Ext i H0 α' H/\Ex0 α H α' H/\Wd g α' (zP rs S).2 H/\DenL g.K α' H (zP rs S).1 vs
 |_,_,α,S,w,x,.nil=>⟨α,x,⟨⟨[],by simp⟩,λ_ _ h=>h,λ_ _ _ h=>h⟩,w,yE⟩
 |.val d::rs,v::vs,α,S,w,x,.cons a n l=>by obtain⟨α',k,b,j,m⟩:=qV w x l;exact⟨α',k,b,j,zW (Den.ex0 b a.1) m⟩
 |.new ds::rs,v::vs,α,S,w,x,.cons a n l=>by
  obtain⟨⟨c,us,rfl,h1,o,q⟩,p⟩:=a;obtain⟨α',k,b,j,m⟩:=qV (w.enter h1 o q) (w.enterx x (p c rfl) o) (l.grow (n ds c rfl rfl));refine⟨α',k,⟨?_,b.tup,b.frz⟩,j,zW (vG (b.at ?_)) m⟩
  .obtain⟨t,e⟩:=b.pre;exact⟨_,by rw[e,aA]⟩
  .rw[<-w.len,ð (à _),sub_self];rfl
theorem BI: ∀(rs:List Er)(S:Sto),(zP rs S).1.length=rs.length
 |[],S=>rfl
 |.val d::rs,S=>by show(d::(zP rs S).1).length=_;rw[lC,BI rs S];rfl
 |.new ds::rs,S=>by show(_::(zP rs _).1).length=_;rw[lC,BI rs _];rfl
end
section
variable{X:Cx}{W:XW}{a b c e:Expr}{es:R0}{f g h:Rho->Sto->R Er}{af:Rho->Sto->R (List Er)}{pos:Pos}
def Wh:HQ X W [] (λ_ S=>.ok [] S):=⟨_,KU,λα ρ S σ H Q a sl q=>q.here a .nil⟩
def Ml(m:zM X W a f)(k:HQ X W es af)(hs:q9 X a es:=by rfl):HQ X W (a::es) (λρ S=>(f ρ S).bind λp S1=>(af ρ S1).bind λps S2=>.ok (p::ps) S2):=by
 obtain⟨ta,m,C⟩:=m;obtain⟨I,k,E⟩:=k;refine⟨_,DW m k hs,λα ρ S σ H Q y sl q=>C α ρ S σ H _ y sl (q.bind λu p S1 o H1 e1 j F s w=>E o ρ S1 σ H1 _ F (sl.ext j) ?_)⟩;have d:Post X.g W α H _ Q:=w
 cases z:af ρ S1 with
 |ok ps S2=>
  rw[z]at d;intro vs e n i r v;refine d _ e n (j.trans i) r (ArgsE.cons (DenE.ext i s) (λds b G A D=>?_) (ArgsE.back (λb h=>j.free h) v));subst G A;obtain⟨⟨c,us,B,h1,_⟩,_⟩:=s;cases B;have:=ArgsE.nones v _ D;rw[h1]at this;cases this
 |exc c fs S2=>rw[z]at d;exact λe n i r=>d e n (j.trans i) r
 |no=>rw[z]at d;exact d
def yA(rs:List Er)(S:Sto):R Er:=if rs.length<=sizeLine then .ok (.val (.tup (zP rs S).1)) (zP rs S).2 else .no
def nO(rs:List Er)(S:Sto):R Er:=if rs.length<=sizeLine then .ok (.new (zP rs S).1) (zP rs S).2 else .no
def Wi{b}(h:HQ X W es af):zM X W (.Tuple es b pos) (λρ S=>(af ρ S).bind yA):=by
 obtain⟨t,h,k⟩:=h;refine⟨_,Ve h,λα ρ S σ H Q e sl q=>k α ρ S σ H _ e sl (q.bind λvs rs S1 j H1 e1 b i c d=>?_)⟩;have a:Post X.g W α H (if rs.length<=sizeLine then R.ok _ (zP rs S1).2 else R.no) Q:=d;split at a
 .rename_i m;obtain⟨u,o,v,n,r⟩:=qV i b c;exact⟨by rw[ArgsE.length c];exact m,λp s=>(a.shift o).newt n s r⟩
 .exact a.elim
def Wj(h:HQ X W es af):zM X W (.List es pos) (λρ S=>(af ρ S).bind nO):=by
 obtain⟨t,h,k⟩:=h;refine⟨_,Vf h,λα ρ S σ H Q d sl q=>k α ρ S σ H _ d sl (q.bind λvs rs S1 j H1 e1 i e b c=>?_)⟩;have a:Post X.g W α H (if rs.length<=sizeLine then R.ok _ (zP rs S1).2 else R.no) Q:=c;split at a
 .rename_i m;obtain⟨u,o,v,n,r⟩:=qV e i b;exact⟨by rw[ArgsE.length b];exact m,λp s=>(a.shift o).newl n s r⟩
 .exact a.elim
inductive ArgsX(K:U0)(α:K0)(H:Hp):List Er->List V->Prop
 |nil:ArgsX K α H [] []
 |cons {r v rs vs}:DenX K α H r v->ArgsX K α H rs vs->ArgsX K α H (r::rs) (v::vs)
theorem ArgsE.x{K:U0}: ∀{rs vs},ArgsE K H0 α H rs vs->ArgsX K α H rs vs
 |_,_,.nil=>.nil
 |_,_,.cons a _ l=>.cons a.1 (ArgsE.x l)
def eY(X:Cx)(W:XW)(r:List V->Hp->VK->Prop)(F:List Er->Sto->R Er):Prop:= ∀rs vs α S H Q,Wd X.g α S H->ArgsX X.K α H rs vs->Post X.g W α H (F rs S) Q->r vs H Q
def dZ{id:String}{r:List V->Hp->VK->Prop}{F:List Er->Sto->R Er}{x:Str}{p:Pos}(o:CallR X (.builtin id) r)(j:eY X W r F)(u:Gl X x)(d:X.mg x=none)(h:bootBuiltins x=some (.builtin id))(a:HQ X W (e::es) af)
  (hn:x≠"__name__":=by decide) (hdb:(x==("__debug__":Str))=false:=by decide)
  (he:q9 X e es:=by rfl) (hpl:Q2 X pos es:=by rfl):zM X W (.Call (.Name x p) (e::es) [] pos) (λρ S=>(af ρ S).bind F):=by
 obtain⟨t,a,k⟩:=a;exact⟨_,OJ o u d h a hn hdb he hpl,λα ρ S σ H Q i sl q=>k α ρ S σ H _ i sl (q.bind λvs rs S1 b H1 e1 n m s c=>j rs vs b S1 H1 Q m (ArgsE.x s) (c.shift n))⟩
def mW{T:String}{r:List V->Hp->VK->Prop}{F:List Er->Sto->R Er}{x:Str}{p:Pos}(o:CallR X (.type T) r)(j:eY X W r F)(u:Gl X x)(d:X.mg x=none)(h:bootBuiltins x=some (.type T))(a:HQ X W (e::es) af)
  (hn:x≠"__name__":=by decide) (hdb:(x==("__debug__":Str))=false:=by decide)
  (he:q9 X e es:=by rfl) (hpl:Q2 X pos es:=by rfl):zM X W (.Call (.Name x p) (e::es) [] pos) (λρ S=>(af ρ S).bind F):=by
 obtain⟨t,a,k⟩:=a;exact⟨_,rX o u d h a hn hdb he hpl,λα ρ S σ H Q i sl q=>k α ρ S σ H _ i sl (q.bind λvs rs S1 b H1 e1 n m s c=>j rs vs b S1 H1 Q m (ArgsE.x s) (c.shift n))⟩
def An(X:Cx)(W:XW)(r:V->List V->Hp->VK->Prop)(F:Er->List Er->Sto->R Er):Prop:= ∀p rs x vs α S H0 H Q a,Wd X.g α S H->Ext a H0 α H->DenX X.K α H p x->ArgsE X.K H0 α H rs vs->Post X.g W a H0 (F p rs S) Q->r x vs H Q
def TyM(X:Cx)(T:String)(a:Er->Sto->Bool):Prop:= ∀p x α S H,Wd X.g α S H->DenX X.K α H p x->a p S=true->tyV X.K T x H
def LG{T:String}{name:Str}{id:String}{r:V->List V->Hp->VK->Prop}{F:Er->List Er->Sto->R Er}{n:Er->Sto->Bool}{apos:Pos}(B:PlainAttrs T)(c:Slot T name id)(d:typeOf (.builtin id)=pure (.type "method_descriptor"))(y:C1 X id r)(A:An X W r F)(C:TyM X T n)
  (i:zM X W a f) (j:HQ X W (e::es) af)
  (hbase:attributeBase a name X.env (eval a X.env)=eval a X.env:=by rfl)
  (hfew:((backTo pos (starEach (e::es) X.env)).all (λx=>!x.1)&&(backToKw pos (keywordEach [] X.env)).all (λx=>x.1.isSome)
   &&decide ((e::es).length+([]:List Keyword).length+(if([]:List Keyword).isEmpty then 0 else 1)<30))=true:=by rfl)
  (hline:(apos.endLine==pos.line)=true:=by rfl) (hs:q9 X e es:=by rfl) (hplain:Q2 X pos es:=by rfl):
  zM X W (.Call (.Attribute a name apos) (e::es) [] pos) (λρ S=>(f ρ S).bind λp S1=>if n p S1=true then(af ρ S1).bind λrs S2=>F p rs S2 else .no):=by
 obtain⟨to,i,E⟩:=i;obtain⟨t,j,k⟩:=j;refine⟨_,K4 B c d y i j hbase hfew hline hs hplain,λα ρ S σ H Q z sl q=>E α ρ S σ H _ z sl (q.bind λu p S1 b H1 e1 v s w h=>?_)⟩;split at h
 .rename_i I;exact⟨C p u b S1 H1 s w.1 I,k b ρ S1 σ H1 _ s (sl.ext v) ((h.shift v).bind λvs rs S2 m G e2 o J K D=>A p rs u vs m S2 H1 G Q b J o (w.1.ext o) K D)⟩
 .exact h.elim
def Mm:Vt X W none (λ_ S=>.ok none S):=⟨_,Lo,λα ρ S σ H Q a sl q=>q.here a rfl⟩
def C5:Er->Sto->R (Option Int)
 |.val (.int i),S=>.ok (some i) S
 |_,_=>.no
def Mn(c:zM X W a f):Vt X W (some a) (λρ S=>(f ρ S).bind C5):=by
 obtain⟨ta,c,d⟩:=c;refine⟨_,Lp c,λα ρ S σ H Q e sl q=>d α ρ S σ H _ e sl (q.bind λu p S1 j H1 e1 i h k b=>?_)⟩;unfold C5 at b;split at b
 .exact⟨_,kG k.1,(b.shift i).here h rfl⟩
 .exact b.elim
def Sl3(X:Cx)(W:XW)(r:V->Option Int->Option Int->Hp->VK->Prop)(F:Er->Option Int->Option Int->Sto->R Er):Prop:= ∀p lo hi x α S H Q,Wd X.g α S H->DenX X.K α H p x->Post X.g W α H (F p lo hi S) Q->r x lo hi H Q
def Fe{lo hi:Option Expr}{r:V->Option Int->Option Int->Hp->VK->Prop}{F:Er->Option Int->Option Int->Sto->R Er}{lf s:Rho->Sto->R (Option Int)}{p2:Pos}(E:SlR X r)(C:Sl3 X W r F)(e:zM X W a f)(j:Vt X W lo lf)(d:Vt X W hi s):
  zM X W (.Subscript a (.Slice lo hi none p2) pos) (λρ S=>(f ρ S).bind λp S1=>(lf ρ S1).bind λl S2=>(s ρ S2).bind λu k=>F p l u k):=by
 obtain⟨ta,e,I⟩:=e;obtain⟨tl,j,P⟩:=j;obtain⟨th,d,A⟩:=d
 refine⟨_,Ej E e j d,λα ρ S σ H Q B sl q=>I α ρ S σ H _ B sl (q.bind λu p S1 h H1 e1 i L O v=>P h ρ S1 σ H1 _ L (sl.ext i) ((v.shift i).bind λM l S2 n K e2 c N T J=>
  A n ρ S2 σ K _ N ((sl.ext i).ext c) ((J.shift c).bind λw m k b D U o G z y=>?_)))⟩
 cases T;cases z;exact C p M w u b k D Q G ((O.1.ext c).ext o) (y.shift o)
end
inductive Fl where
 |next (ρ:Rho)|ret (r:Er)|brk (ρ:Rho)|cont (ρ:Rho)
abbrev AX:=Rho->Sto->R Er
abbrev AY:=Rho->Sto->R Fl
abbrev AZ:=Rho->Sto->R Bool
def PostS(g:Gm)(W:XW)(α:K0)(H:Hp)(D:Ends):R Fl->Prop
 |.ok (.next ρ) S=> ∀σ α' H',Ext α H α' H'->Wd g α' S H'->Slots g.K α' H' ρ σ->D.nx σ H'
 |.ok (.ret r) S=> ∀v α' H',Ext α H α' H'->Wd g α' S H'->DenE g.K H α' H' r v->D.rt v H'
 |.ok (.brk ρ) S=> ∀σ α' H',Ext α H α' H'->Wd g α' S H'->Slots g.K α' H' ρ σ->D.bk σ H'
 |.ok (.cont ρ) S=> ∀σ α' H',Ext α H α' H'->Wd g α' S H'->Slots g.K α' H' ρ σ->D.ct σ H'
 |.exc c fs S=> ∀α' H',Ext α H α' H'->Wd g α' S H'->W c fs S α' H'
 |.no=>False
section
variable{g:Gm}{W:XW}{α α':K0}{H H':Hp}{D D':Ends}
def PostS.shift(x:Ext α H α' H'): ∀{m:R Fl},PostS g W α H D m->PostS g W α' H' D m
 |.ok (.next ρ) S,q=>λσ a i e d j=>q σ a i (x.trans e) d j
 |.ok (.ret r) S,q=>λv a i e d k=>q v a i (x.trans e) d (k.back λb h=>x.free h)
 |.ok (.brk ρ) S,q=>λσ a i e d j=>q σ a i (x.trans e) d j
 |.ok (.cont ρ) S,q=>λσ a i e d j=>q σ a i (x.trans e) d j
 |.exc c fs S,q=>λa i e d=>q a i (x.trans e) d
 |.no,q=>q
def PostS.expr[Dn β τ]{m:R β}{k:β->Sto->R Fl}{e:τ->Hp->Prop}(q:PostS g W α H D (m.bind k))
  (f: ∀u b S1 a H1,m=.ok b S1->Ext α H a H1->Wd g a S1 H1->Dn.d g H a S1 H1 b u->PostS g W α H D (k b S1)->e u H1):Post g W α H m e:=by
 cases m with
 |ok b S=>exact λu a H1 x w d=>f u b S a H1 rfl x w d q
 |exc c fs S=>exact q
 |no=>exact q
def PostS.stmt{m:R Fl}{k:Fl->Sto->R Fl}(q:PostS g W α H D (m.bind k))
  (hn: ∀ρ S σ a H1,m=.ok (.next ρ) S->Ext α H a H1->Wd g a S H1->Slots g.K a H1 ρ σ->PostS g W α H D (k (.next ρ) S)->D'.nx σ H1)
  (hr: ∀r S v a H1,m=.ok (.ret r) S->Ext α H a H1->Wd g a S H1->DenE g.K H a H1 r v->PostS g W α H D (k (.ret r) S)->D'.rt v H1)
  (hb: ∀ρ S σ a H1,m=.ok (.brk ρ) S->Ext α H a H1->Wd g a S H1->Slots g.K a H1 ρ σ->PostS g W α H D (k (.brk ρ) S)->D'.bk σ H1)
  (hc: ∀ρ S σ a H1,m=.ok (.cont ρ) S->Ext α H a H1->Wd g a S H1->Slots g.K a H1 ρ σ->PostS g W α H D (k (.cont ρ) S)->D'.ct σ H1):PostS g W α H D' m:=by
 cases m with
 |ok fl S=>
  cases fl with
  |next ρ=>exact λσ a H1 x w s=>hn ρ S σ a H1 rfl x w s q
  |ret r=>exact λv a H1 x w d=>hr r S v a H1 rfl x w d q
  |brk ρ=>exact λσ a H1 x w s=>hb ρ S σ a H1 rfl x w s q
  |cont ρ=>exact λσ a H1 x w s=>hc ρ S σ a H1 rfl x w s q
 |exc c fs S=>exact q
 |no=>exact q
end
def IA(X:Cx)(W:XW)(st:Stmt)(F:AY):Prop:=
 ∃t,PS X st t/\ ∀α ρ S σ H D,Wd X.g α S H->Slots X.K α H ρ σ->PostS X.g W α H D (F ρ S)->t D σ H
def vH(X:Cx)(W:XW)(st:List Stmt)(F:AY):Prop:=
 ∃t,PSs X st t/\ ∀α ρ S σ H D,Wd X.g α S H->Slots X.K α H ρ σ->PostS X.g W α H D (F ρ S)->t D σ H
def zO(F G:AY):AY:=λρ S=>(F ρ S).bind λa S1=>match a with
 |.next ρ'=>G ρ' S1
 |.ret r=>.ok (.ret r) S1
 |.brk ρ'=>.ok (.brk ρ') S1
 |.cont ρ'=>.ok (.cont ρ') S1
section
variable{X:Cx}{W:XW}{st:Stmt}{sts as bs:List Stmt}{F G:AY}{f g:AX}{tf:AZ}{e c:Expr}{pos:Pos}
def Wl:vH X W [] (λρ S=>.ok (.next ρ) S):=⟨_,La,λα ρ S σ H D a sl q=>q σ α H (Ext.refl α H) a sl⟩
def SK(h:IA X W st F):vH X W [st] F:=let ⟨t,h,k⟩:=h;⟨t,VT h,k⟩
def DZ(h1:IA X W st F)(j:vH X W sts G):vH X W (st::sts) (zO F G):=by
 obtain⟨t,h1,k⟩:=h1;obtain⟨u,j,n⟩:=j;refine⟨_,Dv h1 j,λα ρ S σ H D m sl q=>k α ρ S σ H _ m sl (q.stmt ?_ ?_ ?_ ?_)⟩
 .intro ρ1 S1 b a H1 e h d i c;exact n a ρ1 S1 b H1 D d i (PostS.shift h c)
 .intro r S1 v a H1 e h d o c;exact c v a H1 h d o
 .intro ρ1 S1 b a H1 e h d i c;exact c b a H1 h d i
 .intro ρ1 S1 b a H1 e h d i c;exact c b a H1 h d i
def Wm(b:zM X W e f):IA X W (.Return (some e) pos) (λρ S=>(f ρ S).bind λr S1=>.ok (.ret r) S1):=by obtain⟨t,b,k⟩:=b;exact⟨_,Uj b,λα ρ S σ H D d sl q=>k α ρ S σ H _ d sl (q.expr λu r S1 a H1 e i h j c=>c u a H1 i h j)⟩
def Ff:IA X W st (λ_ _=>.no):=⟨_,Dw,λα ρ S σ H D a sl q=>q.elim⟩
def Mo(b:zM X W e f)(hs:swapsWith e none pos.line X.env=pure false:=by rfl):IA X W (.Expr e pos) (λρ S=>(f ρ S).bind λ_ S1=>.ok (.next ρ) S1):=by obtain⟨t,b,k⟩:=b;exact⟨_,Lb b hs,λα ρ S σ H D h sl q=>k α ρ S σ H _ h sl (q.expr λu r S1 a H1 e c i j d=>d σ a H1 c i (sl.ext c))⟩
def L5(j:pT X W c tf)(h:vH X W as F)(i:vH X W bs G):IA X W (.If c as bs pos) (λρ S=>(tf ρ S).bind λk S1=>if k=true then F ρ S1 else G ρ S1):=by
 obtain⟨w,j,v⟩:=j;obtain⟨ta,h,r⟩:=h;obtain⟨tb,i,n⟩:=i;refine⟨_,E9 j h i,λα ρ S σ H D o sl q=>v α ρ S σ H _ o sl (q.expr λu p S1 a H1 e d m s b=>?_)⟩;cases s
 cases u with
 |true=>rw[iP rfl]at b ⊢; exact r a ρ S1 σ H1 D m (sl.ext d) (PostS.shift d b)
 |false=>rw[iN xF0]at b ⊢; exact n a ρ S1 σ H1 D m (sl.ext d) (PostS.shift d b)
instance:Dn Rho St:=⟨λg _ α' _ H' ρ σ=>Slots g.K α' H' ρ σ,λ_ q=>q⟩
def Mp(X:Cx)(W:XW)(tg:Expr)(gf:MV->Rho->Sto->R Rho):Prop:=
 ∃t,PG X tg t/\ ∀α ρ S σ H d v Q,Wd X.g α S H->Slots X.K α H ρ σ->Den X.K α H d v->Post X.g W α H (gf d ρ S) Q->t v σ H Q
def Fg(X:Cx)(W:XW)(a:R0)(gf:List MV->Rho->Sto->R Rho):Prop:=
 ∃t,B8 X a t/\ ∀α ρ S σ H ds vs Q,Wd X.g α S H->Slots X.K α H ρ σ->DenL X.K α H ds vs->Post X.g W α H (gf ds ρ S) Q->t vs σ H Q
def zY(i:Nat):MV->Rho->Sto->R Rho:=λd ρ S=>.ok (ρ.set i (some d)) S
def Mq(i:Nat){x:Str}(c:X.N.Nodup)(hi:X.N[i]? =some x:=by rfl)(e:Loc X.env.scope x:=by first |exact Or.inl rfl|exact Or.inr rfl)(h:z0 X x:=by first |exact .inl rfl|exact .inr rfl|assumption):
  Mp X W (.Name x pos) (zY i):=⟨_,VU c hi e h,λα ρ S σ H d v Q b sl a q=>Post.here q b (sl.set a)⟩
def xB:List MV->Rho->Sto->R Rho
 |[],ρ,S=>.ok ρ S
 |_,_,_=>.no
def zC(a:MV->Rho->Sto->R Rho)(g2:List MV->Rho->Sto->R Rho):List MV->Rho->Sto->R Rho
 |d::ds,ρ,S=>(a d ρ S).bind λρ1 S1=>g2 ds ρ1 S1
 |_,_,_=>.no
def Wn:Fg X W [] xB:=⟨_,VV,λα ρ S σ H ds vs Q b sl a q=>by
 cases ds with
 |nil=>exact⟨a.isnil,Post.here q b sl⟩
 |cons d ds=>exact q.elim⟩
def Mr{h:MV->Rho->Sto->R Rho}(h1:Mp X W e h)(b:Fg X W es g2)(hs:(assignEach (e::es) X.env).map (·.2)=assign e X.env::(assignEach es X.env).map (·.2):=by rfl):Fg X W (e::es) (zC h g2):=by
 obtain⟨y,h1,k⟩:=h1;obtain⟨z,b,s⟩:=b;refine⟨_,OG h1 b hs,λα ρ S σ H ds vs Q m sl n q=>?_⟩
 cases ds with
 |nil=>exact q.elim
 |cons d ds=>
  obtain⟨v,r,rfl,a,l⟩:=n.uncons;refine⟨v,r,rfl,k α ρ S σ H d v _ m sl a (Post.bind q λu p S1 c H1 e i o w j=>s c p S1 u H1 ds r Q o w (l.ext i) (j.shift i))⟩
def qW(n:Nat)(g2:List MV->Rho->Sto->R Rho):MV->Rho->Sto->R Rho
 |.tup ds,ρ,S=>if ds.length=n then g2 ds ρ S else .no
 |_,_,_=>.no
def Wo{k n:Nat}(e:X.calm=true)(h:Fg X W es g2)
  (hn:(assignEach es X.env).length=n:=by rfl) (hst:(assignEach es X.env).findIdx? (·.1)=none:=by rfl):Mp X W (.Tuple es k pos) (qW n g2):=by
 obtain⟨t,h,k⟩:=h;refine⟨_,Dy e h hn hst,λα ρ S σ H d v Q b sl i q=>?_⟩;unfold qW at q;split at q
 .split at q
  .rename_i c;obtain⟨a,vs,rfl,s,l⟩:=yW i;exact⟨a,vs,rfl,s,by rw[l.length];exact c,k α ρ S σ H _ vs Q b sl l q⟩
  .exact q.elim
 .exact q.elim
def kH(r:Er)(S:Sto):R MV:=match r with
 |.val d=>.ok d S
 |.new ds=>.ok (.loc S.length) (S++[.lst ds])
def eO{g:Gm}{a:K0}{r:Er}(w:Wd g α S H)(x:Ext a H0 α H)(d:DenE g.K H0 α H r v):
  ∃b S' α',kH r S=.ok b S'/\Ext a H0 α' H/\Ex0 α H α' H/\Wd g α' S' H/\Den g.K α' H b v:=by
 cases r with
 |val b=>exact⟨b,S,α,rfl,x,⟨⟨[],by simp⟩,λ_ _ h=>h,λ_ _ _ h=>h⟩,w,d.1⟩
 |new ds=>
  obtain⟨⟨c,us,rfl,h1,e,j⟩,i⟩:=d;exact⟨_,_,_,rfl,w.enterx x (i c rfl) e,Ex0.grow α [c] H,w.enter h1 e j,vG (by rw[<-w.len,ð (à _),sub_self];rfl)⟩
def EW(ρ:Rho)(i:Nat)(r:Er)(S:Sto):R Fl:=(kH r S).bind λd S1=>.ok (.next (ρ.set i (some d))) S1
def Wp(i:Nat){x:Str}{pos':Pos}(w:X.N.Nodup)(b:zM X W e f)(hi:X.N[i]? =some x:=by rfl)(p:Loc X.env.scope x:=by first |exact Or.inl rfl|exact Or.inr rfl)
  (hs:swapsWith e (some (.Name x pos')) pos.line X.env=pure false:=by rfl) (hf:z0 X x:=by first |exact .inl rfl|exact .inr rfl|assumption):
  IA X W (.Assign [.Name x pos'] e pos) (λρ S=>(f ρ S).bind (EW ρ i)):=by
 obtain⟨t,b,k⟩:=b;refine⟨_,Ur w hi p b hs hf,λα ρ S σ H D h sl q=>k α ρ S σ H _ h sl (q.expr λu r S1 n H1 e c m v a=>?_)⟩;obtain⟨y,S',α',e1,o,j,d,s⟩:=eO m c v;unfold EW at a;rw[e1]at a;exact a _ α' H1 o d (((sl.ext c).ex0 j).set s)
def Ao(gf:MV->Rho->Sto->R Rho)(ρ:Rho)(r:Er)(S:Sto):R Fl:=(kH r S).bind λd S1=>(gf d ρ S1).bind λa S2=>.ok (.next a) S2
def Wq(d:zM X W e f)(c:Mp X W tg gf)(hs:swapsWithSole [tg] e pos.line X.env=pure false:=by rfl)(hw:swappedStores [tg] e X.env=pure none:=by rfl)
  (h1:(assignEach [tg] X.env).map (·.2)=[assign tg X.env]:=by rfl):IA X W (.Assign [tg] e pos) (λρ S=>(f ρ S).bind (Ao gf ρ)):=by
 obtain⟨t,d,k⟩:=d;obtain⟨J,c,z⟩:=c;refine⟨_,Uq d c hs hw h1,λα ρ S σ H D m sl q=>k α ρ S σ H _ m sl (q.expr λu r S1 E H1 e j C I a=>?_)⟩;obtain⟨i,S',α',e1,p,o,w,v⟩:=eO C j I;unfold Ao at a;rw[e1]at a;have a:PostS X.g W α H D ((gf i ρ S').bind λy S2=>.ok _ S2):=a;exact z α' ρ S' σ H1 i u _ w ((sl.ext j).ex0 o) v ((PostS.shift p a).expr λb n S2 h B e2 s F G A=>A b h B s F G)
structure Wk where
 ds:List MV
 gs:List (Nat×List MV)
def stay(gs:X4)(S:Sto):Prop:= ∀p∈gs,S[p.1]? =some (.lst p.2)
def L8(g:Gm)(J:It)(P:List Addr->Sto->Hp->Prop)(ds:X1):Prop:= ∀i α S H,P α S H->Wd g α S H->(i<ds.length->J.go i H/\ ∀x H',J.yld i H x H'->Ext α H α H'/\Wd g α S H'/\P α S H'/\ ∃d,ds[i]? =some d/\Den g.K α H' d x)/\(ds.length<=i->J.stop i H)
structure WkD(g:Gm)(α:K0)(S:Sto)(H:Hp)(k:Wk)(J:It)(P:List Addr->Sto->Hp->Prop):Prop where
 it:L8 g J P k.ds
 here:P α S H
 stays: ∀α1 S1 H1 α2 S2 H2,P α1 S1 H1->Ext α1 H1 α2 H2->Wd g α2 S2 H2->stay k.gs S2->P α2 S2 H2
 st:stay k.gs S
instance:Dn Wk It:=⟨λg _ α S H k J=> ∃P,WkD g α S H k J P,λ_ q=>q⟩
abbrev OU(X:Cx)(W:XW)(tg iter:Expr)(f:Rho->Sto->R Wk):Prop:=Jd X W (PI X tg iter) f
variable{tg iter:Expr}
theorem EX{a:Addr}{ds:X1}:L8 X.g (Itl X.K a) (λα S H=> ∃vs,SqL X.K H a vs/\DenL X.K α H ds vs) ds:=by
 intro i α S H ⟨vs,s,l⟩ w;have e:=l.length;refine⟨λhi=>?_,λhi=>⟨vs,s,by lia⟩⟩;have b:i<vs.length:=by lia
 refine⟨⟨vs,_,s,gE b⟩,λx H' y=>?_⟩;obtain⟨rfl,y⟩:=y;obtain⟨d,h1,c⟩:=l.get (y vs s);exact⟨Ext.refl _ _,w,⟨vs,s,l⟩,d,h1,c⟩
theorem Mu{a:Addr}{ds:X1}:L8 X.g (Itt X.K a) (λα S H=> ∃vs,SqT X.K H a vs/\DenL X.K α H ds vs) ds:=by
 intro i α S H ⟨vs,s,l⟩ w;have e:=l.length;refine⟨λhi=>?_,λhi=>⟨vs,s,by lia⟩⟩;have b:i<vs.length:=by lia
 refine⟨⟨vs,_,s,gE b⟩,λx H' y=>?_⟩;obtain⟨rfl,y⟩:=y;obtain⟨d,h1,c⟩:=l.get (y vs s);exact⟨Ext.refl _ _,w,⟨vs,s,l⟩,d,h1,c⟩
def Ap{lo:Int}{n:Nat}:L8 X.g (W2 lo n) (λ_ _ _=>True) ((List.range n).map λk=>.int (lo+(k:Nat))):=by
 intro i α S H _ w;refine⟨λhi=>⟨show i<n by simpa using hi,λv H' y=>?_⟩,λhi=>by show n<=i;simpa using hi⟩;obtain⟨rfl,y⟩:=y;have a:=by simpa using hi
 refine⟨Ext.refl _ _,w,trivial,_,by rw[ò,ł a];rfl,?_⟩;rw[y];exact wQ _
def tG:Er->Sto->R Wk
 |.new ds,S=>.ok ⟨ds,[]⟩ S
 |.val (.scr ds),S=>.ok ⟨ds,[]⟩ S
 |.val (.loc l),S=>match S[l]? with
  |some (.lst ds)=>.ok ⟨ds,[(l,ds)]⟩ S
  |_=>.no
 |_,_=>.no
def gA:stay [] S:=λp h=>by simp at h
def Mv(T:zM X W iter f):OU X W tg iter (λρ S=>(f ρ S).bind tG):=by
 obtain⟨t,T,k⟩:=T;refine⟨_,Lc T,λα ρ S σ H Rc wd sl q=>k α ρ S σ H _ wd sl (q.bind λu p S1 aa H1 e x1 M Q v=>?_)⟩
 replace v:=v.shift x1
 unfold tG at v;split at v
 .rename_i S0 ds;obtain⟨⟨b,vs,rfl,h1,N,L⟩,h4⟩:=Q;refine⟨b,rfl,⟨vs,.of h1⟩,v.here M ⟨λd S2 m=> ∃vs,SqL X.K m b vs/\DenL X.K d m ds vs/\m b=some (.lst vs)/\b∉d,?_,⟨vs,.of h1,L,h1,N⟩,?_,gA⟩⟩
  .intro i d S2 m ⟨j,z,w,r,D⟩ J;obtain⟨A,C⟩:=EX i d S2 m ⟨j,z,w⟩ J;refine⟨λhi=>⟨(A hi).1,λx H' y=>?_⟩,C⟩;obtain⟨F,E,U,I⟩:=(A hi).2 x H' y;obtain⟨rfl,_⟩:=y;exact⟨F,E,⟨j,z,w,r,D⟩,I⟩
  .intro d S2 m B Z Y ⟨j,z,w,r,D⟩ x P _;exact⟨j,.of (x.keep b _ r D),w.ext x,x.keep b _ r D,x.out r D⟩
 .rename_i S0 ds;obtain⟨a,vs,rfl,s,l⟩:=EU Q.1;refine⟨a,rfl,⟨vs,s.l⟩,v.here M ⟨λd S2 m=> ∃vs,SqL X.K m a vs/\DenL X.K d m ds vs/\SqF X.K m a vs,?_,⟨vs,s.l,l,s⟩,?_,gA⟩⟩
  .intro i d S2 m ⟨j,z,w,r⟩ J;obtain⟨A,C⟩:=EX i d S2 m ⟨j,z,w⟩ J;refine⟨λhi=>⟨(A hi).1,λx H' y=>?_⟩,C⟩;obtain⟨F,E,U,I⟩:=(A hi).2 x H' y;obtain⟨rfl,_⟩:=y;exact⟨F,E,⟨j,z,w,r⟩,I⟩
  .intro d S2 m B Z Y ⟨j,z,w,r⟩ x P _;exact⟨j,(x.sqF r).l,w.ext x,x.sqF r⟩
 .rename_i S0 n;obtain⟨a,rfl,h⟩:=lO Q.1;obtain⟨o,h1,N⟩:=M.of h;rw[h1]at v
  cases o with
  |lst ds=>
   obtain⟨vs,L,l⟩:=N;refine⟨a,rfl,⟨vs,.of L⟩,Post.here v M ⟨λd S2 m=> ∃vs,SqL X.K m a vs/\DenL X.K d m ds vs/\d[n]? =some a,?_,⟨vs,.of L,l,h⟩,?_,?_⟩⟩
   .intro i d S2 m ⟨j,z,w,r⟩ J;obtain⟨A,C⟩:=EX i d S2 m ⟨j,z,w⟩ J;refine⟨λhi=>⟨(A hi).1,λx H' y=>?_⟩,C⟩;obtain⟨F,E,U,I⟩:=(A hi).2 x H' y;obtain⟨rfl,_⟩:=y;exact⟨F,E,⟨j,z,w,r⟩,I⟩
   .intro d S2 m B Z Y ⟨j,z,w,r⟩ x P hs;have G:=x.at r;have:=P.obj n a _ G (hs (n,ds) (by simp));obtain⟨O,b1,b2⟩:=this;exact⟨O,.of b1,b2,G⟩
   .intro p hp;have:p=(n,ds):=by simpa using hp
    subst this;exact h1
  |dic ds=>exact v.elim
  |ins c fs=>exact v.elim
  |rcd c fs=>exact v.elim
  |fdc _=>exact v.elim
 .exact v.elim
def WG:Er->Sto->R Wk
 |.val (.tup ds),S=>.ok ⟨ds,[]⟩ S
 |_,_=>.no
def Wr(d:zM X W iter f):OU X W tg iter (λρ S=>(f ρ S).bind WG):=by
 obtain⟨t,d,k⟩:=d;refine⟨_,Uu d,λα ρ S σ H y i sl q=>k α ρ S σ H _ i sl (q.bind λu p S1 o H1 e n m r b=>?_)⟩
 replace b:=b.shift n
 unfold WG at b;split at b
 .rename_i S0 ds;obtain⟨a,vs,rfl,s,l⟩:=cR r.1;exact⟨a,rfl,⟨vs,s⟩,b.here m ⟨_,Mu,⟨vs,s,l⟩,λw S2 B h C z ⟨c,v,j⟩ x A _=>⟨c,x.sqT v,j.ext x⟩,gA⟩⟩
 .exact b.elim
def nA:List Er->Sto->R Wk
 |[.val (.int j)],S=>if -(2 ^ 62)<=j/\j<2 ^ 62 then .ok ⟨(List.range j.toNat).map λk=>.int (k:Nat),[]⟩ S else .no
 |_,_=>.no
variable{af:Rho->Sto->R (List Er)}{p:Pos}{a b:Expr}
def JH{K:U0}{r:Er}(d:ArgsE K H0 α H [r] vs): ∃v,vs=[v]/\DenX K α H r v:=by
 cases d with
 |cons a n l=>cases l;exact⟨_,rfl,a.1⟩
def L9{K:U0}{r b:Er}(d:ArgsE K H0 α H [r,b] vs): ∃v u,vs=[v,u]/\DenX K α H r v/\DenX K α H b u:=by
 cases d with
 |cons a n l=>obtain⟨u,rfl,c⟩:=JH l;exact⟨_,u,rfl,a.1,c⟩
def Aq(w:Gl X "range")(h:X.mg "range"=none)(c:HQ X W [a] af)(hs:starEach [a] X.env=[(false,eval a X.env)]:=by rfl):OU X W tg (.Call (.Name "range" p) [a] [] pos) (λρ S=>(af ρ S).bind nA):=by
 obtain⟨t,c,k⟩:=c;refine⟨_,ZW w h c hs,λα ρ S σ H y i sl q=>k α ρ S σ H _ i sl (q.bind λvs rs S1 r H1 e o m u b=>?_)⟩
 replace b:=b.shift o
 unfold nA at b;split at b
 .split at b
  .rename_i S0 j d;obtain⟨v,rfl,s⟩:=JH u;cases kG s;have:=Ap (X:=X) (lo:=0) (n:=j.toNat);simp only[Int.zero_add]at this;exact⟨j,rfl,d.1,d.2,b.here m ⟨_,this,trivial,λ_ _ _ _ _ _ _ _ _ _=>trivial,gA⟩⟩
  .exact b.elim
 .exact b.elim
open Classical in
def gB(gf:MV->Rho->Sto->R Rho)(body:AY)(gs:X4):List MV->AY
 |[],ρ,S=>.ok (.next ρ) S
 |d::ds,ρ,S=>(gf d ρ S).bind λa S0=>(body a S0).bind λb S1=>match b with
  |.next ρ'=>if stay gs S1 then gB gf body gs ds ρ' S1 else .no
  |.cont ρ'=>if stay gs S1 then gB gf body gs ds ρ' S1 else .no
  |.brk ρ'=>.ok (.next ρ') S1
  |.ret r=>.ok (.ret r) S1
open Classical in
def Ws{U:Rho->Sto->R Wk}(hp:PassesOwn (model X.prog X.w) X.A X.env X.xe)(hc:X.calm=true)(hi:OU X W tg iter U)(hg:Mp X W tg gf)(hb:vH X W as F)
  (hs: ∀y,foldedSetIterable iter X.env y=pure y:=by intro _;rfl):IA X W (.For tg iter as [] pos) (λρ S=>(U ρ S).bind λk S1=>gB gf F k.gs k.ds ρ S1):=by
 obtain⟨wi,hi,ki⟩:=hi;obtain⟨ag,hg,kg⟩:=hg;obtain⟨tb,hb,kb⟩:=hb;refine⟨_,Uv hp hc hi hg hb hs,λα ρ S σ H D wd sl q=>ki α ρ S σ H _ wd sl (q.expr λJ k S1 aa H1 e x1 w1 d1 q1=>?_)⟩;obtain⟨P,hP⟩:=d1;have ab:=sl.ext x1
 replace q1:=PostS.shift x1 q1
 refine⟨λn m s Q=>m=k.ds.length - n/\n<=k.ds.length/\ ∃b B S2,Wd X.g b S2 Q/\Slots X.K b Q B s/\P b S2 Q/\PostS X.g W b Q D (gB gf F k.gs (k.ds.drop n) B S2),⟨_,rfl,zero_le _,aa,ρ,S1,w1,ab,hP.here,by simpa using q1⟩,?_⟩;rintro n m s Q ⟨rfl,hn,b,B,S2,w2,Y,p2,L⟩;obtain⟨i1,i2⟩:=hP.it n b S2 Q p2 w2;by_cases z:n<k.ds.length
 .obtain⟨go,yl⟩:=i1 z;refine .inr ⟨go,λT C=> ∃i u Z,Wd X.g i Z C/\Slots X.K i C u T/\P i Z C/\PostS X.g W i C D (gB gf F k.gs (k.ds.drop (n+1)) u Z),λT C ⟨i,u,Z,h3⟩=>⟨k.ds.length - (n+1),by omega,rfl,z,i,u,Z,h3⟩,λv C y=>?_⟩;obtain⟨x3,w3,p3,d,hd,dv⟩:=yl v C y;have G:k.ds.drop n=d::k.ds.drop (n+1):=by rw[List.drop_eq_getElem_cons z];have:=gE z;rw[hd]at this;rw[<-å this]
  rw[G]at L;unfold gB at L
  replace L:=PostS.shift x3 L
  refine kg b B S2 s C d v _ w3 (Y.ext x3) dv (L.expr λaf ae S4 E H4 e4 x4 w4 s4 q4=>?_);have p4: ∀a c H5,Ext E H4 a H5->Wd X.g a c H5->stay k.gs c->P a c H5:=λa c H5 p o I=>hP.stays b S2 C a c H5 p3 (x4.trans p) o I;refine kb E ae S4 af H4 _ w4 s4 ((PostS.shift x4 q4).stmt ?_ ?_ ?_ ?_)
  .intro j c M a H5 e5 p o I O;have h:PostS X.g W E H4 D (if stay k.gs c then gB gf F k.gs (k.ds.drop (n+1)) j c else .no):=O;split at h
   .rename_i N;exact⟨a,j,c,o,I,p4 a c H5 p o N,PostS.shift p h⟩
   .exact h.elim
  .intro r c v5 a H5 e5 p o d5 O;exact O v5 a H5 p o d5
  .intro j c M a H5 e5 p o I O;exact O M a H5 p o I
  .intro j c M a H5 e5 p o I O;have h:PostS X.g W E H4 D (if stay k.gs c then gB gf F k.gs (k.ds.drop (n+1)) j c else .no):=O;split at h
   .rename_i N;exact⟨a,j,c,o,I,p4 a c H5 p o N,PostS.shift p h⟩
   .exact h.elim
 .have e:n=k.ds.length:=by omega
  subst e;refine .inl ⟨i2 (à _),?_⟩;rw[List.drop_length]at L;exact L s b Q (Ext.refl _ _) w2 Y
def eZ(t:AZ)(b:AY):Nat->AY
 |0,_,_=>.no
 |n+1,ρ,S=>(t ρ S).bind λk S1=>if k=true then(b ρ S1).bind λa S2=>match a with
   |.next ρ'=>eZ t b n ρ' S2
   |.cont ρ'=>eZ t b n ρ' S2
   |.brk ρ'=>.ok (.next ρ') S2
   |.ret r=>.ok (.ret r) S2
  else .ok (.next ρ) S1
def Fi(N:Nat)(Z:PassesOwn (model X.prog X.w) X.A X.env X.xe)(E:pT X W c tf)(I:vH X W as F):IA X W (.While c as [] pos) (λρ S=>eZ tf F N ρ S):=by
 obtain⟨tc,E,Y⟩:=E;obtain⟨tb,I,kb⟩:=I;refine⟨_,Dz Z E I,λα ρ S σ H D Q sl q=>⟨λm b H1=> ∃d ρ1 S1,Wd X.g d S1 H1/\Slots X.K d H1 ρ1 b/\PostS X.g W d H1 D (eZ tf F m ρ1 S1),⟨N,α,ρ,S,Q,sl,q⟩,?_⟩⟩;rintro m b H1 ⟨d,ρ1,S1,w1,k,J⟩
 cases m with
 |zero=>exact J.elim
 |succ n=>
  refine Y d ρ1 S1 b H1 _ w1 k (J.expr λu p S2 B L e2 G M d2 y=>?_);cases d2
  replace y:=PostS.shift G y
  cases u with
  |false=>rw[iN xF0]at y ⊢; exact y b B L (Ext.refl _ _) M (k.ext G)
  |true=>
   refine⟨λP H3=> ∃O U S3,_,λaa H' h=>⟨n,ģ n,h⟩,kb B ρ1 S2 b L _ M (k.ext G) (y.stmt ?_ ?_ ?_ ?_)⟩
   .intro e z o a H5 C s i v j;exact⟨a,e,z,i,v,PostS.shift s j⟩
   .intro r z v5 a H5 C s i T j;exact j v5 a H5 s i T
   .intro e z o a H5 C s i v j;exact j o a H5 s i v
   .intro e z o a H5 C s i v j;exact⟨a,e,z,i,v,PostS.shift s j⟩
end
def noX:R β->R β
 |.ok b S=>.ok b S
 |_=>.no
theorem yM(b:β)(S:Sto):noX (R.ok b S)=.ok b S:=rfl
def Post.bindY{υ:Type}[Dn β τ][Dn γ υ]{g:Gm}{W:XW}(x:Ext α H α' H'){m:R β}{k:β->Sto->R γ}{Q:υ->Hp->Prop}{e:τ->Hp->Prop}(q:Post g W α H ((noX m).bind k) Q)
  (f: ∀u b S1 a H1,m=.ok b S1->Ext α' H' a H1->Wd g a S1 H1->Dn.d g H' a S1 H1 b u->Post g W α H (k b S1) Q->e u H1):Post g W0 α' H' m e:=by
 cases m with
 |ok b S=>exact λu a H1 x w d=>f u b S a H1 rfl x w d q
 |exc c fs S=>exact q.elim
 |no=>exact q
theorem R.bind_assoc{d:Type}(m:R β)(a:β->Sto->R γ)(c:γ->Sto->R d):(m.bind a).bind c=m.bind λb S=>(a b S).bind c:=by cases m<;>rfl
def qG(nt:Nat)(idx:Tk)(ρ:Rho):Rho:=List.replicate nt none++idx.map λi=>(ρ[i]?).join
open Classical in
def zT(gf:MV->Rho->Sto->R Rho)(cf:AZ)(ef:AX)(ρb:Rho)(gs:X4):List MV->Sto->R (List MV)
 |[],S=>.ok [] S
 |d::ds,S=>(noX (gf d ρb S)).bind λρ1 S0=>(noX (cf ρ1 S0)).bind λk S1=>
  if k=true then(noX (ef ρ1 S1)).bind λr S2=>(kH r S2).bind λy a=>if stay gs a then(zT gf cf ef ρb gs ds a).bind λout b=>.ok (y::out) b else .no
  else if stay gs S1 then zT gf cf ef ρb gs ds S1 else .no
theorem Ar{K:U0}(q:Slots K α H ρ σ)(nt:Nat)(idx:Tk)(τ:St)(a:τ.length=nt):Slots K α H (qG nt idx ρ) (τ++BH σ idx):=by
 refine⟨by unfold qG;rw[lA,lA,iM,lM,đ,a],λi d e=>?_⟩;unfold qG at e;by_cases hi:i<nt
 .rw[ë (by rw[đ];exact hi),List.getElem?_replicate]at e;split at e<;>cases e
 .rw[ð (by rw[đ];lia),đ,ò]at e
  cases z:idx[i - nt]? with
  |none=>rw[z]at e;cases e
  |some k=>
   rw[z]at e;have e2:(ρ[k]?).join=some d:=å e
   cases b:ρ[k]? with
   |none=>rw[b]at e2;cases e2
   |some o=>
    rw[b]at e2;have c:=e2;subst c;obtain⟨v,h1,h⟩:=q.slot k d b;refine⟨v,?_,h⟩;rw[ð #[0],a];unfold BH;rw[ò,z];show some (σ[k]?).join=some _;rw[h1];rfl
def Keeps(nt:Nat)(σ:St)(Q:St->Hp->Prop):St->Hp->Prop:=λa H'=>a.length=σ.length->(∀j,nt<=j->a[j]? =σ[j]?)->Q a H'
def Fj(nt:Nat)(X:Cx)(W:XW)(tg:Expr)(gf:MV->Rho->Sto->R Rho):Prop:=
 ∃t,PG X tg t/\ ∀α ρ S σ H d v Q,Wd X.g α S H->Slots X.K α H ρ σ->Den X.K α H d v->Post X.g W α H (gf d ρ S) (Keeps nt σ Q)->t v σ H Q
def Fk(nt:Nat)(X:Cx)(W:XW)(a:R0)(gf:List MV->Rho->Sto->R Rho):Prop:=
 ∃t,B8 X a t/\ ∀α ρ S σ H ds vs Q,Wd X.g α S H->Slots X.K α H ρ σ->DenL X.K α H ds vs->Post X.g W α H (gf ds ρ S) (Keeps nt σ Q)->t vs σ H Q
section
variable{X:Cx}{W:XW}{e:Expr}{pos:Pos}{nt:Nat}
theorem Mw(i:Nat){x:Str}(h:X.N.Nodup)(hi:X.N[i]? =some x:=by rfl)(c:Loc X.env.scope x:=by first |exact Or.inl rfl|exact Or.inr rfl)(k:z0 X x:=by first |exact .inl rfl|exact .inr rfl|assumption)(a:i<nt:=by decide):
  Fj nt X W (.Name x pos) (zY i):=⟨_,VU h hi c k,λα ρ S σ H d v Q b sl e q=>Post.here q b (sl.set e) (by rw[Ľ]) λj m=>by rw[õ #[0]]⟩
def Wt:Fk nt X W [] xB:=⟨_,VV,λα ρ S σ H ds vs Q b sl a q=>by
 cases ds with
 |nil=>exact⟨a.isnil,Post.here q b sl rfl λ_ _=>rfl⟩
 |cons d ds=>exact q.elim⟩
def Post.keeps{g:Gm}{W:XW}{m:R Rho}{a:St}{Q:St->Hp->Prop}(h1:a.length=σ.length)(n: ∀j,nt<=j->a[j]? =σ[j]?)(q:Post g W α H m (Keeps nt σ Q)):Post g W α H m (Keeps nt a Q):=by
 cases m with
 |ok b S=>exact λu e H1 x w d k i=>q u e H1 x w d (k.trans h1) λj h=>(i j h).trans (n j h)
 |exc c fs S=>exact q
 |no=>exact q
def Mx{j:MV->Rho->Sto->R Rho}(h1:Fj nt X W e j)(h:Fk nt X W es g2)(hs:(assignEach (e::es) X.env).map (·.2)=assign e X.env::(assignEach es X.env).map (·.2):=by rfl):Fk nt X W (e::es) (zC j g2):=by
 obtain⟨z,h1,c⟩:=h1;obtain⟨A,h,w⟩:=h;refine⟨_,OG h1 h hs,λα ρ S σ H ds vs Q n sl o q=>?_⟩
 cases ds with
 |nil=>exact q.elim
 |cons d ds=>
  obtain⟨v,r,rfl,a,l⟩:=o.uncons;refine⟨v,r,rfl,c α ρ S σ H d v _ n sl a (Post.bind q λu p S1 i H1 e k s y m c b=>w i p S1 u H1 ds r Q s y (l.ext k) (Post.keeps c b (m.shift k)))⟩
def Wu{k n:Nat}(e:X.calm=true)(h:Fk nt X W es g2)
  (hn:(assignEach es X.env).length=n:=by rfl) (hst:(assignEach es X.env).findIdx? (·.1)=none:=by rfl):Fj nt X W (.Tuple es k pos) (qW n g2):=by
 obtain⟨t,h,k⟩:=h;refine⟨_,Dy e h hn hst,λα ρ S σ H d v Q b sl i q=>?_⟩;unfold qW at q;split at q
 .split at q
  .rename_i c;obtain⟨a,vs,rfl,s,l⟩:=yW i;exact⟨a,vs,rfl,s,by rw[l.length];exact c,k α ρ S σ H _ vs Q b sl l q⟩
  .exact q.elim
 .exact q.elim
end
abbrev LH(X:Cx)(W:XW)(ifs:R0)(f:AZ):Prop:=Jd X W (Ai X ifs) f
section
variable{X:Cx}{W:XW}{iter:Expr}{c:Expr}{tf:AZ}{pos:Pos}
def Mz:LH X W [] (λ_ S=>.ok true S):=⟨_,Ep,λα ρ S σ H Q a sl q=>q.here a rfl⟩
def Na(h:pT X W c tf):LH X W [c] tf:=let ⟨t,h,k⟩:=h;⟨t,Es h,k⟩
open Classical in
def WH{C:Cx->Prop}{elt:Expr}{ifs:R0}{sc:Scope}{ab:Rho->Sto->R Wk}{cf:AZ}{ef:AX}(af:Scope)(N:L0)(T:L0)(idx:Tk)
  (hi:Jd X W (F6 C X tg iter) ab) (hCx: ∀c s₂ B fp pins σ,Inv X pins σ B s₂->C (zH X sc T idx c s₂ B fp))
  (hg: ∀C s₂ H1 fp,([]++T++idx.map λi=>(N[i]?).getD Str.empty).Nodup->Fj T.length (zH X sc T idx C s₂ H1 fp) W0 tg gf)
  (hc: ∀C s₂ H1 fp,LH (zH X sc T idx C s₂ H1 fp) W0 ifs cf) (he: ∀C s₂ H1 fp,zM (zH X sc T idx C s₂ H1 fp) W0 elt ef)
  (e1:X.env.scope=af:=by rfl) (e2:X.N=N:=by rfl) (hB:qP af N sc idx=true:=by decide+kernel) (hN:([]++T++idx.map λi=>(N[i]?).getD Str.empty).Nodup:=by decide+kernel)
  (hs: ∀y,foldedSetIterable iter X.env y=pure y:=by intro _;rfl):
  Jd (β:=Er) (τ:=V) X W (λt=>PE X (.ListComp elt [⟨tg,iter,ifs,0⟩] sc pos) t/\PU X (.ListComp elt [⟨tg,iter,ifs,0⟩] sc pos) t) (λρ S=>(ab ρ S).bind λk S1=>if k.ds.length<1000000 then(zT gf cf ef (qG T.length idx ρ) k.gs k.ds S1).bind λout S2=>.ok (.new out) S2 else .no):=by
 obtain⟨wi,hi,ki⟩:=hi;subst e1 e2;have aq:(1000000:Nat)<sizeLine:=by rw[ď];decide
 have ai: ∃t,(∀C s₂ H1 fp,PG (zH X sc T idx C s₂ H1 fp) tg t)/\ ∀α ρ S σ H d v Q,Wd X.g α S H->Slots X.K α H ρ σ->Den X.K α H d v->Post X.g W0 α H (gf d ρ S) (Keeps T.length σ Q)->t v σ H Q:=by refine⟨λv σ H Q=> ∃α ρ S d,Wd X.g α S H/\Slots X.K α H ρ σ/\Den X.K α H d v/\Post X.g W0 α H (gf d ρ S) (Keeps T.length σ Q),λC s₂ H1 fp pins s σ H v u Q I r ⟨α,ρ,S,d,h1,h2,h3,h4⟩=>?_,λα ρ S σ H d v Q h1 h2 h3 h4=>⟨α,ρ,S,d,h1,h2,h3,h4⟩⟩;obtain⟨t,ht,kt⟩:=hg C s₂ H1 fp hN;exact ht pins s σ H v u Q I r (kt α ρ S σ H d v Q h1 h2 h3 h4)
 obtain⟨ar,aa,kg⟩:=ai;refine⟨_,⟨Lz T idx hi hCx hB aa (λC s₂ H1 fp=>(Ā (hc C s₂ H1 fp)).1) (λC s₂ H1 fp=>(Ā (he C s₂ H1 fp)).1) hs,Me T idx hi hCx hB aa (λC s₂ H1 fp=>(Ā (hc C s₂ H1 fp)).1) (λC s₂ H1 fp=>(Ā (he C s₂ H1 fp)).1) hs⟩,λα ρ S σ H Q wd sl q=>ki α ρ S σ H _ wd sl (q.bind λJ k S1 ag H1 e1 x1 w1 d1 q1=>?_)⟩;obtain⟨P,hP⟩:=d1;split at q1
 .rename_i ak
  refine⟨λn m ys B=>m=k.ds.length - n/\n<=k.ds.length/\ys.length<=n/\ ∃p S2,Ext α H p B/\Wd X.g p S2 B/\P p S2 B/\ ∃a,DenL X.K p B a ys/\Post X.g W α H ((zT gf cf ef (qG T.length idx ρ) k.gs (k.ds.drop n) S2).bind λo S'=>.ok (Er.new (a++o)) S') Q,
   ⟨_,rfl,zero_le _,à _,ag,S1,x1,w1,hP.here,[],yE,by simpa using q1⟩,?_⟩
  rintro n m ys B ⟨rfl,hn,hy,p,S2,x2,w2,p2,a,l,Z⟩;obtain⟨i1,i2⟩:=hP.it n p S2 B p2 w2;refine⟨by omega,?_⟩;by_cases w:n<k.ds.length
  .obtain⟨go,yl⟩:=i1 w;refine .inr ⟨go,by omega,λv H3 y τ E=>?_⟩;obtain⟨x3,w3,p3,d,hd,dv⟩:=yl v H3 y;have M:k.ds.drop n=d::k.ds.drop (n+1):=by rw[List.drop_eq_getElem_cons w];have:=gE w;rw[hd]at this;rw[<-å this]
   rw[M]at Z;unfold zT at Z;have aj:=Ar (sl.ext (x2.trans x3)) T.length idx τ E;refine kg p (qG T.length idx ρ) S2 _ H3 d v _ w3 aj dv ?_;rw[R.bind_assoc]at Z;refine Z.bindY (x2.trans x3) λA ae S4 U H4 e4 x4 w4 s4 q4 L ah=>⟨⟨A.take T.length,?_,?_⟩,λC s₂ fp=>?_⟩
   .refine Ł λj=>?_;have ao:A.length=T.length+idx.length:=by rw[L,lA,iM,E]
    by_cases hj:j<T.length
    .rw[ë (by rw[lT];omega),Ĵ hj]
    .rw[ah j (by omega),ð (by omega),ð (by rw[lT];omega),E,lT,Nat.min_eq_left (by omega)]
   .rw[lT,L,lA,iM,E];omega
   have F:Ext α H U H4:=(x2.trans x3).trans x4;have p4: ∀h G H5,Ext U H4 h H5->Wd X.g h G H5->stay k.gs G->P h G H5:=λh G H5 z w5 s5=>hP.stays p S2 H3 h G H5 p3 (x4.trans z) w5 s5;rw[R.bind_assoc]at q4;refine(Ā (hc C s₂ H1 fp)).2 U ae S4 A H4 _ w4 s4 (q4.bindY F λb5 au G h H5 e5 z w5 d5 q5=>?_);cases d5
   cases b5 with
   |false=>
    rw[iN xF0]at q5 ⊢;split at q5
    .rename_i O;exact⟨k.ds.length - (n+1),by omega,rfl,w,by omega,h,G,F.trans z,w5,p4 h G H5 z w5 O,a,(l.ext (x3.trans x4)).ext z,q5⟩
    .exact q5.elim
   |true=>
    rw[iP rfl,R.bind_assoc]at q5;rw[iP rfl];refine(Ā (he C s₂ H1 fp)).2 h ae G A H5 _ w5 (s4.ext z) (q5.bindY (F.trans z) λy6 r6 S6 av H6 e6 x6 w6 d6 Y=>?_);obtain⟨d',S',α',e7,x7,y7,w7,de⟩:=eO w6 x6 d6;rw[e7]at Y;have Y:Post X.g W α H ((if stay k.gs S' then(zT gf cf ef (qG T.length idx ρ) k.gs (k.ds.drop (n+1)) S').bind λout S4=>.ok (d'::out) S4 else .no).bind λo S'=>.ok (Er.new (a++o)) S') Q:=Y;split at Y
    .rename_i O;refine⟨k.ds.length - (n+1),by omega,rfl,w,by rw[lA,lS];omega,α',S',(F.trans z).trans x7,w7,p4 α' S' H6 (z.trans x7) w7 O,a++[d'],((l.ext (x3.trans x4)).ext (z.trans x7)).append (zW de yE),?_⟩;rw[R.bind_assoc]at Y;have e8:(λ(o:X1) (S':Sto)=>R.ok (Er.new ((a++[d'])++o)) S')=(λ(b:X1) S=>(R.ok (d'::b) S).bind λo S'=>.ok (Er.new (a++o)) S'):=by funext o S';show _=R.ok (Er.new (a++(d'::o))) S';rw[aA];rfl
     rw[e8];exact Y
    .exact Y.elim
  .have e:n=k.ds.length:=by omega
   subst e;rw[List.drop_length]at Z;have q3:Post X.g W α H (.ok (Er.new (a++[])) S2) Q:=Z;rw[aN]at q3;exact .inl ⟨i2 (à _),λD hD=>(q3.shift x2).newl w2 hD l⟩
 .exact q1.elim
open Classical in
def WI{elt:Expr}{ifs:R0}{sc:Scope}{b:Rho->Sto->R Wk}{cf:AZ}{ef:AX}(a:Scope)(N:L0)(T:L0)(idx:Tk)
  (hi:OU X W tg iter b) (hcalm:X.calm=true)
  (hg: ∀C s₂ H1 fp,([]++T++idx.map λi=>(N[i]?).getD Str.empty).Nodup->Fj T.length (zH X sc T idx C s₂ H1 fp) W0 tg gf)
  (hc: ∀C s₂ H1 fp,LH (zH X sc T idx C s₂ H1 fp) W0 ifs cf) (he: ∀C s₂ H1 fp,zM (zH X sc T idx C s₂ H1 fp) W0 elt ef)
  (e1:X.env.scope=a:=by rfl) (e2:X.N=N:=by rfl) (hB:qP a N sc idx=true:=by decide+kernel) (hN:([]++T++idx.map λi=>(N[i]?).getD Str.empty).Nodup:=by decide+kernel)
  (hs: ∀y,foldedSetIterable iter X.env y=pure y:=by intro _;rfl):
  zM X W (.ListComp elt [⟨tg,iter,ifs,0⟩] sc pos) (λρ S=>(b ρ S).bind λk S1=>if k.ds.length<1000000 then(zT gf cf ef (qG T.length idx ρ) k.gs k.ds S1).bind λout S2=>.ok (.new out) S2 else .no):=let ⟨t,h,k⟩:=(WH a N T idx hi (λ_ _ _ _ _ _ _=>hcalm) hg hc he e1 e2 hB hN hs);⟨t,h.1,k⟩
open Classical in
def Nb{x:Str}{pos' a:Pos}(i:Nat)(j:X.N.Nodup){elt:Expr}{ifs:R0}{sc:Scope}{c:Rho->Sto->R Wk}{cf:AZ}{ef:AX}(b:Scope)(N:L0)(T:L0)(idx:Tk)
  (hi:OU X W tg iter c) (hcalm:X.calm=true)
  (hg: ∀C s₂ H1 fp,([]++T++idx.map λi=>(N[i]?).getD Str.empty).Nodup->Fj T.length (zH X sc T idx C s₂ H1 fp) W0 tg gf)
  (hc: ∀C s₂ H1 fp,LH (zH X sc T idx C s₂ H1 fp) W0 ifs cf) (he: ∀C s₂ H1 fp,zM (zH X sc T idx C s₂ H1 fp) W0 elt ef)
  (e1:X.env.scope=b:=by rfl) (e2:X.N=N:=by rfl) (hB:qP b N sc idx=true:=by decide+kernel) (hN:([]++T++idx.map λi=>(N[i]?).getD Str.empty).Nodup:=by decide+kernel)
  (hs: ∀y,foldedSetIterable iter X.env y=pure y:=by intro _;rfl)
  (hi2:X.N[i]? =some x:=by rfl) (hx:Loc X.env.scope x:=by first |exact Or.inl rfl|exact Or.inr rfl)
  (hsw:swapsWith (.ListComp elt [⟨tg,iter,ifs,0⟩] sc pos) (some (.Name x pos')) a.line X.env=pure true:=by with_unfolding_all rfl) (hf:z0 X x:=by first |exact .inl rfl|exact .inr rfl|assumption):
  IA X W (.Assign [.Name x pos'] (.ListComp elt [⟨tg,iter,ifs,0⟩] sc pos) a) (λρ S=>((c ρ S).bind λk S1=>if k.ds.length<1000000 then(zT gf cf ef (qG T.length idx ρ) k.gs k.ds S1).bind λout S2=>.ok (.new out) S2 else .no).bind (EW ρ i)):=by
 obtain⟨t,h,k⟩:=(WH b N T idx hi (λ_ _ _ _ _ _ _=>hcalm) hg hc he e1 e2 hB hN hs)
 refine⟨_,h.2 i x pos' a j hi2 hx hf hsw,λα ρ S σ H D n sl q=>k α ρ S σ H _ n sl (q.expr λu r S1 z H1 e m w A d=>?_)⟩;obtain⟨B,S',α',e1,p,o,v,s⟩:=eO w m A;unfold EW at d;rw[e1]at d;exact d _ α' H1 p v (((sl.ext m).ex0 o).set s)
end
mutual
def lo(n:Nat):MV->Prop
 |.loc l=>l<n
 |.tup ds=>uE n ds
 |.scr ds=>uE n ds
 |.obj _ _ ds=>uE n ds
 |_=>True
def uE(n:Nat):List MV->Prop
 |[]=>True
 |d::ds=>lo n d/\uE n ds
end
def loO(n:Nat):MO->Prop
 |.lst ds=>uE n ds
 |.dic kvs=> ∀p∈kvs,lo n p.1/\lo n p.2
 |.ins _ fs=> ∀p∈fs,lo n p.2
 |.rcd _ fs=> ∀p∈fs,lo n p.2
 |.fdc kvs=> ∀p∈kvs,lo n p.1/\lo n p.2
section
variable{K:U0}{α t:K0}{H:Hp}
mutual
theorem Den.back: ∀{d:MV}{v:V},Den K (α++t) H d v->lo α.length d->Den K α H d v
 |.non,_,q,_=>by cases nL q;exact DY
 |.bl _,_,q,_=>by cases mU q;exact wC _
 |.int _,_,q,_=>by cases yL q;exact wQ _
 |.str _,_,q,_=>by cases wD q;exact sB _
 |.typ _,_,q,_=>by cases nN q;exact WC _
 |.obj c ns ds,_,q,h=>by obtain⟨a,C,dx,vs,o,rfl,e,j,i,b,l⟩:=cP q;exact WF e j i b (DenL.back l (by unfold lo at h;exact h))
 |.loc l,_,q,h=>by
  obtain⟨a,rfl,e⟩:=bM q;have b:l<α.length:=by unfold lo at h;exact h
  rw[ë b]at e;exact vG e
 |.tup ds,_,q,h=>by obtain⟨a,vs,rfl,s,l⟩:=yW q;exact oI s (DenL.back l (by unfold lo at h;exact h))
 |.scr ds,_,q,h=>by obtain⟨a,vs,rfl,s,l⟩:=cQ q;exact WD s (DenL.back l (by unfold lo at h;exact h))
theorem DenL.back: ∀{ds:X1}{vs:List V},DenL K (α++t) H ds vs->uE α.length ds->DenL K α H ds vs
 |[],_,q,_=>by rw[q.isnil];exact yE
 |d::ds,_,q,h=>by obtain⟨v,r,rfl,a,l⟩:=q.uncons;unfold uE at h;exact zW (Den.back a h.1) (DenL.back l h.2)
end
mutual
theorem Den.lo: ∀{d:MV}{v:V},Den K α H d v->lo α.length d
 |.non,_,q=>by unfold M.lo;trivial
 |.bl _,_,q=>by unfold M.lo;trivial
 |.int _,_,q=>by unfold M.lo;trivial
 |.str _,_,q=>by unfold M.lo;trivial
 |.typ _,_,q=>by unfold M.lo;trivial
 |.obj c ns ds,_,q=>by obtain⟨a,C,dx,vs,o,rfl,e,h,b,i,l⟩:=cP q;unfold M.lo;exact DenL.lo l
 |.loc l,_,q=>by obtain⟨a,rfl,e⟩:=bM q;unfold M.lo;exact(gS.mp e).1
 |.tup ds,_,q=>by obtain⟨a,vs,rfl,s,l⟩:=yW q;unfold M.lo;exact DenL.lo l
 |.scr ds,_,q=>by obtain⟨a,vs,rfl,s,l⟩:=cQ q;unfold M.lo;exact DenL.lo l
theorem DenL.lo: ∀{ds:X1}{vs:List V},DenL K α H ds vs->uE α.length ds
 |[],_,q=>by unfold uE;trivial
 |d::ds,_,q=>by obtain⟨v,r,rfl,a,l⟩:=q.uncons;unfold uE;exact⟨Den.lo a,DenL.lo l⟩
end
theorem DenK.back: ∀{fs gs},DenK K (α++t) H fs gs->(∀p∈fs,M.lo α.length p.1/\M.lo α.length p.2)->DenK K α H fs gs
 |_,_,.nil,_=>.nil
 |_,_,.cons k a l,h=>.cons k (a.back (h _ mF0).2) (DenK.back l λp b=>h p (mO _ b))
def KeyD.lo{n:Nat}{k:MV}{k':Key}(h:KeyD k k'):M.lo n k:=by
 unfold KeyD at h;split at h
 .unfold M.lo;trivial
 .unfold M.lo;trivial
 .exact h.elim
theorem DenK.lo: ∀{fs gs},DenK K α H fs gs-> ∀p∈fs,M.lo α.length p.1/\M.lo α.length p.2
 |_,_,.nil=>λp h=>by simp at h
 |_,_,.cons k a l=>λp h=>(mC.mp h).elim (λe=>by subst e;exact⟨k.lo,a.lo⟩) (DenK.lo l p)
theorem DenN.back: ∀{fs xs},DenN K (α++t) H fs xs->(∀p∈fs,M.lo α.length p.1/\M.lo α.length p.2)->DenN K α H fs xs
 |_,_,.nil,_=>.nil
 |_,_,.cons k e a d r l,h=>.cons k e (a.back (h _ mF0).1) (d.back (h _ mF0).2) r (DenN.back l λp b=>h p (mO _ b))
theorem DenN.lo: ∀{fs xs},DenN K α H fs xs-> ∀p∈fs,M.lo α.length p.1/\M.lo α.length p.2
 |_,_,.nil=>λp h=>by simp at h
 |_,_,.cons k e a d r l=>λp h=>(mC.mp h).elim (λz=>by subst z;exact⟨a.lo,d.lo⟩) (DenN.lo l p)
theorem DenF.back: ∀{fs gs},DenF K (α++t) H fs gs->(∀p∈fs,M.lo α.length p.2)->DenF K α H fs gs
 |_,_,.nil,_=>.nil
 |_,_,.cons a l,h=>.cons (a.back (h _ mF0)) (DenF.back l λp b=>h p (mO _ b))
theorem DenF.lo: ∀{fs gs},DenF K α H fs gs-> ∀p∈fs,M.lo α.length p.2
 |_,_,.nil=>λp h=>by simp at h
 |_,_,.cons a l=>λp h=>(mC.mp h).elim (λe=>by subst e;exact a.lo) (DenF.lo l p)
def ObD.back{g:Gm}{a:Addr}{o:MO}(q:ObD g (α++t) H a o)(h:loO α.length o):ObD g α H a o:=by
 cases o with
 |lst ds=>obtain⟨vs,h1,l⟩:=q;exact⟨vs,h1,l.back h⟩
 |dic ds=>
  rcases q with⟨vs,h1,l⟩|⟨vs,h1,l⟩
  .exact .inl ⟨vs,h1,l.back h⟩
  .exact .inr ⟨vs,h1,l.back h⟩
 |ins c fs=>obtain⟨C,gs,m,l,r⟩:=q;exact⟨C,gs,m,l.back h,r⟩
 |rcd c fs=>obtain⟨C,dx,gs,m,h1,l⟩:=q;exact⟨C,dx,gs,m,h1,l.back h⟩
 |fdc kvs=>obtain⟨b,xs,h1,l⟩:=q;exact⟨b,xs,h1,l.back h⟩
def ObD.lo{g:Gm}{a:Addr}{o:MO}(q:ObD g α H a o):loO α.length o:=by
 cases o with
 |lst ds=>obtain⟨vs,h1,l⟩:=q;exact l.lo
 |dic ds=>
  rcases q with⟨vs,h1,l⟩|⟨vs,h1,l⟩
  .exact l.lo
  .exact l.lo
 |ins c fs=>obtain⟨C,gs,m,l,r⟩:=q;exact l.lo
 |rcd c fs=>obtain⟨C,dx,gs,m,h1,l⟩:=q;exact l.lo
 |fdc kvs=>obtain⟨b,xs,h1,l⟩:=q;exact l.lo
end
def WJ(S S2:Sto):Prop:=S.length<=S2.length/\ ∀l,l<S.length->S2[l]? =S[l]? \/ ∃o,S2[l]? =some o/\loO S.length o
open Classical in
def bN(S:Sto)(r:Er)(S2:Sto):R Er:=
 if WJ S S2 then match r with
  |.val (.loc l)=>if l<S.length then .ok r (S2.take S.length)else match S2[l]? with
   |some (.lst ds)=>if uE S.length ds then .ok (.new ds) (S2.take S.length)else .ok r S2
   |_=>.ok r S2
  |.val d=>if lo S.length d then .ok r (S2.take S.length)else .ok r S2
  |.new ds=>if uE S.length ds then .ok r (S2.take S.length)else .ok r S2
 else .ok r S2
theorem Nc{g:Gm}{j F i:K0}{H1 w:Hp}{S3:Sto}{r:Er}(J:Ext α H j H1)(P:Wd g j S1 H1)(L: ∃t,F=j++t)(x2:Ext α H F H1)(U:Ext F H1 i w)(s:Wd g i S3 w)(d:DenE g.K H1 i w r v):
  ∃W S' α',bN S1 r S3=.ok W S'/\Ext α H α' w/\Wd g α' S' w/\DenE g.K H α' w W v:=by
 have k:=x2.trans U;have c:=d.back λb h=>J.free h;unfold bN;by_cases I:WJ S1 S3
 .rw[iP I];obtain⟨t,D⟩: ∃t,i=j++t:=by obtain⟨t,e⟩:=L;obtain⟨u,e'⟩:=U.pre;exact⟨_,by rw[e',e,aA]⟩
  have E:=P.len;have A:Ext α H j w:=⟨⟨J.pre,k.tup,k.frz⟩,J.new,k.keep,k.has⟩
  have y:Wd g j (S3.take S1.length) w:=by
   refine⟨by rw[lT,E,Nat.min_eq_left I.1],P.nd,λl a o h1 C=>?_⟩;have n:l<S1.length:=by rw[<-E];exact(gS.mp h1).1
   rw[Ĵ n]at C;have N:i[l]? =some a:=by rw[D,ë (by rw[E];exact n)];exact h1
   have q:=s.obj l a o N C;rw[D]at q;refine q.back ?_;rcases I.2 l n with e|⟨o',e,lo'⟩
   .rw[e]at C;exact(P.obj l a o h1 C).lo
   .rw[C]at e;cases e;rw[E];exact lo'
  have p: ∀d,lo S1.length d->Den g.K i w d v->DenE g.K H j w _ v:=λd Z q=>.val ((D▸q:Den g.K _ w d v).back (by rw[E];exact Z))
  cases r with
  |new ds=>
   dsimp only;split
   .rename_i n;obtain⟨⟨b,vs,rfl,h1,C,h3⟩,h4⟩:=c;exact⟨_,_,j,rfl,A,y,⟨b,vs,rfl,h1,λz=>C (by rw[D];exact Đ _ z),(D▸h3:DenL g.K _ w ds vs).back (by rw[E];exact n)⟩,h4⟩
   .exact⟨_,_,i,rfl,k,s,c⟩
  |val mv=>
   have B:Den g.K i w mv v:=c.1
   cases mv with
   |loc l=>
    dsimp only;split
    .rename_i n;exact⟨_,_,j,rfl,A,y,p _ (by unfold lo;exact n) B⟩
    .rename_i n;obtain⟨a,rfl,O⟩:=bM B;split
     .rename_i ds X;split
      .rename_i M;obtain⟨vs,h1,C⟩:=s.obj l a _ O X
       have G:a∉j:=λz=>by
        obtain⟨m,T⟩:=getElem?_of_mem z;have Q:m<j.length:=(gS.mp T).1;have S:i[m]? =some a:=by rw[D,ë Q];exact T
        obtain⟨u1,e1⟩:=gS.mp S;obtain⟨u2,e2⟩:=gS.mp O;have:=(getElem_inj s.nd).mp (e1.trans e2.symm)
        lia
       refine⟨_,_,j,rfl,A,y,⟨a,vs,rfl,h1,G,(D▸C:DenL g.K _ w ds vs).back (by rw[E];exact M)⟩,λb e=>?_⟩;cases e;rcases k.new a (ô O)with z|z
       .obtain⟨u,Y⟩:=J.pre;exact absurd (by rw[Y];exact Đ _ z) G
       .exact z
      .exact⟨_,_,i,rfl,k,s,c⟩
     .exact⟨_,_,i,rfl,k,s,c⟩
   |non=>dsimp only;split;(· rename_i n;exact⟨_,_,j,rfl,A,y,p _ n B⟩);(· exact⟨_,_,i,rfl,k,s,c⟩)
   |bl b=>dsimp only;split;(· rename_i n;exact⟨_,_,j,rfl,A,y,p _ n B⟩);(· exact⟨_,_,i,rfl,k,s,c⟩)
   |int b=>dsimp only;split;(· rename_i n;exact⟨_,_,j,rfl,A,y,p _ n B⟩);(· exact⟨_,_,i,rfl,k,s,c⟩)
   |str b=>dsimp only;split;(· rename_i n;exact⟨_,_,j,rfl,A,y,p _ n B⟩);(· exact⟨_,_,i,rfl,k,s,c⟩)
   |typ b=>dsimp only;split;(· rename_i n;exact⟨_,_,j,rfl,A,y,p _ n B⟩);(· exact⟨_,_,i,rfl,k,s,c⟩)
   |obj b b' b''=>dsimp only;split;(· rename_i n;exact⟨_,_,j,rfl,A,y,p _ n B⟩);(· exact⟨_,_,i,rfl,k,s,c⟩)
   |tup b=>dsimp only;split;(· rename_i n;exact⟨_,_,j,rfl,A,y,p _ n B⟩);(· exact⟨_,_,i,rfl,k,s,c⟩)
   |scr b=>dsimp only;split;(· rename_i n;exact⟨_,_,j,rfl,A,y,p _ n B⟩);(· exact⟨_,_,i,rfl,k,s,c⟩)
 .rw[iN I];exact⟨_,_,i,rfl,k,s,c⟩
def IB(g:Gm)(n:Nat)(F:List MV->Sto->R Er):Sp:=λvs H Q _=> ∃α S ds,Wd g α S H/\DenL g.K α H ds vs/\ds.length=n/\Post g W0 α H (F ds S) Q
def zK(n:Nat)(F:List MV->Sto->R Er)(rs:List Er)(S:Sto):R Er:=if rs.length=n then(noX (F (zP rs S).1 (zP rs S).2)).bind λr S2=>bN S r S2 else .no
section
variable{X:Cx}{W:XW}{e:Expr}{es:R0}{af:Rho->Sto->R (List Er)}{pos:Pos}
def JI{n:Nat}{F:List MV->Sto->R Er}{a:K0}{H1:Hp}{Q:VK}(e:Ext α H a H1)(d:Wd X.g a S1 H1)(A:ArgsE X.K H a H1 rs vs)(q:Post X.g W α H (zK n F rs S1) Q):
  IB X.g n F vs H1 Q E0:=by
 unfold zK at q;split at q
 .rename_i u;obtain⟨b,y,D,w,C⟩:=qV d e A;refine⟨b,_,_,w,C,by rw[BI];exact u,?_⟩
  cases z:F (zP rs S1).1 (zP rs S1).2 with
  |ok r S3=>
   rw[z]at q;intro v h p j B k;obtain⟨E,S',α',m,s,i,o⟩:=Nc e d D.pre y j B k;have q:Post X.g W α H (bN S1 r S3) Q:=q;rw[m]at q;exact q v α' p s i o
  |exc c fs S3=>rw[z]at q;exact q.elim
  |no=>rw[z]at q;exact q.elim
 .exact q.elim
def Nd{k n:Nat}{b:Addr}{fd:FuncData}{ps:L0}{F:List MV->Sto->R Er}{x:Str}{p:Pos}(G:FnOk X.prog X.w X.K X.mg X.base rY k b fd ps (IB X.g n F))(o:Room k X.A)(s:Gl X x)(d:X.mg x=some (.ref b))
  (hk:PySem.W.keepIn X.K (.ref b)=true) (hb:Binds X.K fd ps []) (a:HQ X W (e::es) af) (hdb:(x==("__debug__":Str))=false:=by decide)
  (he:q9 X e es:=by rfl) (hpl:Q2 X pos es:=by rfl):
  zM X W (.Call (.Name x p) (e::es) [] pos) (λρ S=>(af ρ S).bind λrs S1=>zK n F rs S1):=by
 obtain⟨t,a,u⟩:=a;refine⟨_,Ll G o s d hk hb .nil En a hdb he hpl,λα ρ S σ H Q h sl q=>u α ρ S σ H _ h sl (q.bind λvs rs S1 m H1 e1 j i r c=>?_)⟩;rw[aN];exact JI j i r c
end
def zN(N:L0)(ds:X1):Rho:=ds.map some++List.replicate (N.length - ds.length) none
def zS:R Fl->R Er
 |.ok (.next _) S=>.ok (.val .non) S
 |.ok (.ret r) S=>.ok r S
 |.exc c fs S=>.exc c fs S
 |_=>.no
def OV{K:U0}{N:L0}{ds:X1}(l:DenL K α H ds vs):Slots K α H (zN N ds) (start N vs):=by
 have a:=l.length;refine⟨?_,λi d e=>?_⟩
 .unfold start zN;rw[lA,lA,lM,lM,đ,đ,a]
 .unfold zN at e;by_cases hi:i<ds.length
  .rw[ë (by simpa using hi),ò]at e
   cases z:ds[i]? with
   |none=>rw[z]at e;cases e
   |some d'=>
    rw[z]at e;obtain⟨v,h1,c⟩:=l.at z;have b:=å (å e);subst b;refine⟨v,?_,c⟩;unfold start;rw[ë (by rw[lM,a];exact hi),ò,h1];rfl
  .rw[ð (by simpa using hi),List.getElem?_replicate]at e;split at e<;>cases e
section
variable{P:ň}{w:World}{K:U0}{mg:L1}{base:Heap}
def okM{x qual:Str}{st:Stmt}{f:Addr}{fd:FuncData}{N ps:L0}{k:Nat}(i:AY)(F:Fun K x qual st f fd)(y:FnScope N ps (zE st))
  (hbody: ∀(b:ņ)(A:Ň)(a:List Env)(s:Ņ)(H:Hp)(E:XK),Room k (A.deeper (envOfC qual (zE st) s.heap.objs.size f b))->
   vH (HU rY P w K mg base N qual (zE st) f b A a s H E).nox W0 (yT st) i):
  FnOk P w K mg base rY (k+1) f fd ps (IB ⟨K,mg,P,w⟩ ps.length λds S=>zS (i (zN N ds) S)):=by
 refine F.ok y (λvs H Q E h=>?_) (λb A a s H vs Q E p h=>?_)
 .obtain⟨α,S,ds,_,l,j,_⟩:=h;rw[l.length,j]
 .obtain⟨α,S,ds,m,l,j,q⟩:=h;obtain⟨t,o,u⟩:=hbody b A a s H E p;refine⟨t,o,u α _ S _ H _ m (OV l) ?_⟩;dsimp only at q
  cases z:i _ S with
  |ok fl S'=>
   rw[z]at q
   cases fl with
   |next ρ=>exact λσ α' H' d e s'=>q .non α' H' d e (DenE.val DY)
   |ret r=>exact λv α' H' d e n=>q v α' H' d e n
   |brk ρ=>exact q.elim
   |cont ρ=>exact q.elim
  |exc c fs S'=>rw[z]at q;exact λα' H' d e=>q α' H' d e
  |no=>rw[z]at q;exact q
end
inductive Vw where
 |fl (v:V)|tp (ds:X1)|ls (ds:X1)
def kI(S:Sto):Er->Option (List MV)
 |.new ds=>some ds
 |.val (.scr ds)=>some ds
 |.val (.loc l)=>match S[l]? with
  |some (.lst ds)=>some ds
  |_=>none
 |_=>none
def IC(S:Sto):Er->Option Vw
 |.val .non=>some (.fl .non)
 |.val (.bl b)=>some (.fl (.bl b))
 |.val (.int i)=>some (.fl (.int i))
 |.val (.str x)=>some (.fl (.str (qE x)))
 |.val (.tup ds)=>some (.tp ds)
 |.val (.typ _)=>none
 |.val (.obj _ _ _)=>none
 |r=>(kI S r).map .ls
def DI(e:MV->MV->Option Bool):List MV->List MV->Option (List Bool)
 |d::ds,f::fs=>(e d f).bind λk=>(DI e ds fs).map (k::·)
 |_,_=>some []
def So(e:MV->MV->Option Bool):Vw->Vw->Option Bool
 |.fl x,.fl y=>some (eqV x y)
 |.tp ds,.tp es=>(DI e ds es).map λbs=>bs.all id&&ds.length==es.length
 |.ls ds,.ls es=>if ds.length=es.length then(DI e ds es).map λbs=>bs.all id else some false
 |_,_=>some false
theorem SN(e:MV->MV->Option Bool)(ds es:X1):So e (.tp ds) (.tp es)=(DI e ds es).map λbs=>bs.all id&&ds.length==es.length:=rfl
theorem LI(e:MV->MV->Option Bool)(ds es:X1):So e (.ls ds) (.ls es)=if ds.length=es.length then(DI e ds es).map λbs=>bs.all id else some false:=rfl
def eqv(S:Sto):Nat->MV->MV->Option Bool
 |0,_,_=>none
 |n+1,a,b=>(IC S (.val a)).bind λx=>(IC S (.val b)).bind λy=>So (eqv S n) x y
def vI(S:Sto)(n:Nat)(a b:Er):Option Bool:=(IC S a).bind λx=>(IC S b).bind λy=>So (eqv S n) x y
section
variable{X:Cx}{α:K0}{S:Sto}{H:Hp}
def pU{K:U0}{g:Gm}(j:g.K=K)(i:Wd g α S H){r:Er}{ds:X1}{x:V}(e:kI S r=some ds)(d:DenX K α H r x): ∃a vs,x=.ref a/\SqL K H a vs/\DenL K α H ds vs:=by
 subst j;unfold kI at e;split at e
 .cases e;obtain⟨b,vs,rfl,h,_,l⟩:=d;exact⟨b,vs,rfl,.of h,l⟩
 .cases e;obtain⟨a,vs,rfl,s,l⟩:=EU d;exact⟨a,vs,rfl,s.l,l⟩
 .rename_i n;obtain⟨a,rfl,h⟩:=lO d;split at e
  .rename_i es c;cases e;obtain⟨vs,h1,l⟩:=i.obj n a _ h c;exact⟨a,vs,rfl,.of h1,l⟩
  .cases e
 .cases e
def pV{r:Er}{x y:V}(e:IC S r=some (.fl y))(d:DenX X.K α H r x):x=y/\mN y=true:=by
 unfold IC at e;split at e
 .cases e;exact⟨oK d,rfl⟩
 .cases e;exact⟨qU d,rfl⟩
 .cases e;exact⟨kG d,rfl⟩
 .cases e;exact⟨eW d,rfl⟩
 .cases e
 .cases e
 .cases e
 .cases z:kI S r<;>rw[z]at e<;>cases e
def pW{r:Er}{x:V}{ds:X1}(e:IC S r=some (.tp ds))(d:DenX X.K α H r x): ∃a vs,x=.ref a/\SqT X.K H a vs/\DenL X.K α H ds vs:=by
 unfold IC at e;split at e
 .cases e
 .cases e
 .cases e
 .cases e
 .cases e;exact cR d
 .cases e
 .cases e
 .cases z:kI S r<;>rw[z]at e<;>cases e
def pX(b:Wd X.g α S H){r:Er}{x:V}{ds:X1}(e:IC S r=some (.ls ds))(d:DenX X.K α H r x): ∃a vs,x=.ref a/\SqL X.K H a vs/\DenL X.K α H ds vs:=by
 unfold IC at e;split at e
 .cases e
 .cases e
 .cases e
 .cases e
 .cases e
 .cases e
 .cases e
 .cases z:kI S r with
  |none=>rw[z]at e;cases e
  |some es=>rw[z]at e;cases e;exact pU rfl b z d
theorem sD{e:MV->MV->Option Bool}: ∀{ds es:X1}{bs:O0},DI e ds es=some bs->bs.length=min ds.length es.length
 |[],_,_,h=>by simp[DI]at h;subst h;simp
 |_::_,[],_,h=>by simp[DI]at h;subst h;simp
 |d::ds,f::fs,bs,h=>by
  unfold DI at h
  cases z:e d f with
  |none=>rw[z]at h;cases h
  |some k=>
   rw[z]at h
   cases a:DI e ds fs with
   |none=>simp[a]at h
   |some cs=>
    simp[a]at h;subst h;simp[sD a]
theorem LK{e:MV->MV->Option Bool}: ∀{ds es:X1}{bs:O0}{j:Nat}{d f:MV},DI e ds es=some bs->ds[j]? =some d->es[j]? =some f->e d f=some (bs.getD j true)
 |[],_,_,_,_,_,h,h1,_=>by simp at h1
 |_::_,[],_,_,_,_,h,_,h2=>by simp at h2
 |d::ds,f::fs,bs,j,d',f',h,h1,h2=>by
  unfold DI at h
  cases z:e d f with
  |none=>rw[z]at h;cases h
  |some k=>
   rw[z]at h
   cases a:DI e ds fs with
   |none=>simp[a]at h
   |some cs=>
    simp[a]at h;subst h
    cases j with
    |zero=>simp at h1 h2;subst h1 h2;simpa using z
    |succ j=>simpa using LK a (by simpa using h1) (by simpa using h2)
def range_all{bs:O0}{n:Nat}(h:bs.length=n):(List.range n).all (λj=>bs.getD j true)=bs.all id:=by
 subst h;rw[Ą,ó,ó];constructor
 .intro h x b;obtain⟨i,hi,rfl⟩:=Ń b;have:=h i (ç.mpr hi);simpa [ÿ,hi]using this
 .intro h i hi;have a:=ç.mp hi;have:=h bs[i] (ŀ a);simpa [ÿ,a]using this
variable{pins:N0}{σ:St}{s:Ņ}
def vK(I:Inv X pins σ H s){a:Addr}{ys:List V}(h:SqL X.K H a xs)(h':SqT X.K H a ys):False:=by obtain⟨_,_,i,_⟩:=I.list h;obtain⟨_,_,pt,_⟩:=I.tuple h';obtain⟨o,n,e,c,_,_⟩:=i;obtain⟨o',b,d,_⟩:=pt;rw[e]at b;cases b;rw[c]at d;exact absurd d (by simp)
theorem Fm(I:Inv X pins σ H s)(o:Wd X.g α S H){e:MV->MV->Option Bool}(F: ∀d f v k,Den X.K α H d v->Den X.K α H f v->e d f=some k->k=true){a b:Er}{x:V}{p q:Vw}{k:Bool}
  (ha:IC S a=some p) (hb:IC S b=some q) (da:DenX X.K α H a x) (db:DenX X.K α H b x) (h:So e p q=some k):k=true:=by
 have w: ∀{ds es:X1}{vs:List V}{bs:O0},DenL X.K α H ds vs->DenL X.K α H es vs->DI e ds es=some bs->bs.all id=true:=by
  intro ds es vs bs j c z;rw[ó];intro k C;obtain⟨i,hi,rfl⟩:=Ń C;have G:=sD z;have h1:i<ds.length:=by lia
  have u:i<es.length:=by lia
  obtain⟨v,D,g2⟩:=j.at (gE h1);obtain⟨J,A,B⟩:=c.at (gE u);rw[D]at A;cases A;have:=F _ _ _ _ g2 B (LK z (gE h1) (gE u));simpa [ÿ,hi]using this
 cases p with
 |fl y=>
  obtain⟨rfl,f1⟩:=pV ha da
  cases q with
  |fl z=>obtain⟨rfl,f2⟩:=pV hb db;cases h;exact Ew f1
  |tp ds=>obtain⟨a,vs,rfl,_⟩:=pW hb db;exact absurd f1 xF0
  |ls ds=>obtain⟨a,vs,rfl,_⟩:=pX o hb db;exact absurd f1 xF0
 |tp ds=>
  obtain⟨E,vs,rfl,n,j⟩:=pW ha da
  cases q with
  |fl z=>obtain⟨rfl,f2⟩:=pV hb db;exact absurd f2 xF0
  |tp es=>
   obtain⟨r,us,e2,m,c⟩:=pW hb db;cases e2;cases I.tuple_inj n m;rw[SN]at h
   cases z:DI e ds es with
   |none=>rw[z]at h;cases h
   |some bs=>
    rw[z]at h;cases h;show(bs.all id&&ds.length==es.length)=true;rw[w j c z, <-j.length, <-c.length];simp
  |ls es=>obtain⟨r,us,e2,m,c⟩:=pX o hb db;cases e2;exact(vK I m n).elim
 |ls ds=>
  obtain⟨E,vs,rfl,n,j⟩:=pX o ha da
  cases q with
  |fl z=>obtain⟨rfl,f2⟩:=pV hb db;exact absurd f2 xF0
  |tp es=>obtain⟨r,us,e2,m,c⟩:=pW hb db;cases e2;exact(vK I n m).elim
  |ls es=>
   obtain⟨r,us,e2,m,c⟩:=pX o hb db;cases e2;cases I.list_inj n m;rw[LI]at h;rw[iP (by rw[<-j.length, <-c.length])]at h
   cases z:DI e ds es with
   |none=>rw[z]at h;cases h
   |some bs=>rw[z]at h;cases h;exact w j c z
theorem EY(I:Inv X pins σ H s)(c:Wd X.g α S H): ∀(n:Nat)(d f:MV)(v:V)(k:Bool),Den X.K α H d v->Den X.K α H f v->eqv S n d f=some k->k=true
 |0,_,_,_,_,_,_,h=>by cases h
 |n+1,d,f,v,k,h1,h2,h=>by
  unfold eqv at h
  cases a:IC S _ with
  |none=>rw[a]at h;cases h
  |some p=>
   cases b:IC S _ with
   |none=>rw[a,b]at h;cases h
   |some q=>
    rw[a,b]at h;exact Fm I c (EY I c n) a b h1 h2 h
def vL{e:MV->MV->Option Bool}{A:Ň}(o: ∀d f x y u v k,Den X.K α H d x->Den X.K α H f y->RelV x u->RelV y v->e d f=some k->SeqAt.EqAt A s u v k)
  {ds es:X1} {vs us:List V} {its its2:B0} {bs:O0} (l1:DenL X.K α H ds vs) (l2:DenL X.K α H es us) (r1:Vals vs its) (r2:Vals us its2) (z:DI e ds es=some bs):
  ∀j (h1:j<its.toArray.size) (a:j<its2.toArray.size),SeqAt.EqAt A s its.toArray[j] its2.toArray[j] (bs.getD j true):=by
 intro j h1 a;have b:j<vs.length:=by rw[r1.length];simpa using h1
 have g2:j<us.length:=by rw[r2.length];simpa using a
 obtain⟨d,n,p⟩:=l1.get (gE b);obtain⟨f,f1,f2⟩:=l2.get (gE g2);obtain⟨u,i,h⟩:=r1.get (gE b);obtain⟨v,c,m⟩:=r2.get (gE g2);have e1:its.toArray[j]=u:=by have:its[j]? =some (its[j]'(by simpa using h1)):=gE _;rw[i]at this;simpa using(å this).symm
 have e2:its2.toArray[j]=v:=by have:its2[j]? =some (its2[j]'(by simpa using a)):=gE _;rw[c]at this;simpa using(å this).symm
 rw[e1,e2];exact o d f _ _ u v _ p f2 h m (LK z n f1)
theorem BK(I:Inv X pins σ H s)(G:Wd X.g α S H): ∀(n:Nat)(A:Ň)(d f:MV)(x y:V)(u v:ņ)(k:Bool),A.units+n<cLine->Den X.K α H d x->Den X.K α H f y->RelV x u->RelV y v->eqv S n d f=some k->SeqAt.EqAt A s u v k
 |0,_,_,_,_,_,_,_,_,_,_,_,_,_,h=>by cases h
 |n+1,A,d,f,x,y,u,v,k,hu,h1,h2,rx,ry,h=>by
  have i:A.units<cLine:=by lia
  have o:=h;unfold eqv at h
  cases L:IC S (.val d)with
  |none=>rw[L]at h;cases h
  |some p=>
   cases r:IC S (.val f)with
   |none=>rw[L,r]at h;cases h
   |some q=>
    rw[L,r]at h;have h:So _ p q=some k:=h;have U:=λd f x y u v k a b c W e=>BK I G n A.in1 d f x y u v k (show A.units+1+n<cLine by lia) a b c W e
    cases p with
    |fl x'=>
     obtain⟨rfl,O⟩:=pV L h1
     cases q with
     |fl y'=>obtain⟨rfl,M⟩:=pV r h2;cases h;exact Vj rx ry O M
     |tp es=>
      obtain⟨b,us,rfl,B,w⟩:=pW r h2;cases ry;cases h;obtain⟨its,_,pt,_⟩:=I.tuple B;exact(CZ rx O pt i).2.1
     |ls es=>
      obtain⟨b,us,rfl,B,w⟩:=pX G r h2;cases ry;cases h;obtain⟨its,_,E,_⟩:=I.list B;exact(JF rx O E.isList i).2.1
    |tp ds=>
     obtain⟨a,vs,rfl,T,D⟩:=pW L h1;cases rx;obtain⟨its,C,pt,_⟩:=I.tuple T
     cases q with
     |fl y'=>obtain⟨rfl,M⟩:=pV r h2;cases h;exact(CZ ry M pt i).1
     |tp es=>
      obtain⟨b,us,rfl,B,w⟩:=pW r h2;cases ry;by_cases m:a=b
      .subst m;rw[EY I G (n+1) d f _ k h1 h2 o];exact SeqAt.EqAt.same _
      .obtain⟨j,F,Q,_⟩:=I.tuple B;rw[SN]at h
       cases z:DI (eqv S n) ds es with
       |none=>rw[z]at h;cases h
       |some bs=>
        rw[z]at h;cases h;have:=SeqAt.RcAt.tuples pt Q i (vL U D w C F z);have J:=sD z;rw[range_all (by rw[J];simp[<-C.length, <-F.length,D.length,w.length])]at this;have Y:(its.toArray.size==j.toArray.size)=(ds.length==es.length):=by simp[<-C.length, <-F.length,D.length,w.length]
        rw[Y]at this;exact SeqAt.EqAt.of_refs m this
     |ls es=>
      obtain⟨b,us,rfl,B,w⟩:=pX G r h2;cases ry;cases h;obtain⟨j,_,E,_⟩:=I.list B;exact SeqAt.EqAt.tuple_list pt E.isList i
    |ls ds=>
     obtain⟨a,vs,rfl,T,D⟩:=pX G L h1;cases rx;obtain⟨its,C,E,_⟩:=I.list T
     cases q with
     |fl y'=>obtain⟨rfl,M⟩:=pV r h2;cases h;exact(JF ry M E.isList i).1
     |tp es=>
      obtain⟨b,us,rfl,B,w⟩:=pW r h2;cases ry;cases h;obtain⟨j,_,pt,_⟩:=I.tuple B;exact SeqAt.EqAt.list_tuple E.isList pt i
     |ls es=>
      obtain⟨b,us,rfl,B,w⟩:=pX G r h2;cases ry;by_cases m:a=b
      .subst m;rw[EY I G (n+1) d f _ k h1 h2 o];exact SeqAt.EqAt.same _
      .obtain⟨j,F,N,_⟩:=I.list B;rw[LI]at h;by_cases J:ds.length=es.length
       .rw[iP J]at h
        cases z:DI (eqv S n) ds es with
        |none=>rw[z]at h;cases h
        |some bs=>
         rw[z]at h;cases h;have hs:its.toArray.size=j.toArray.size:=by simp[<-C.length, <-F.length,D.length,w.length,J]
         have:=SeqAt.RcAt.lists E.isList N.isList hs i (vL U D w C F z);have P:=sD z;rw[range_all (by rw[P];simp[<-C.length,D.length,J])]at this;exact SeqAt.EqAt.of_refs m this
       .rw[iN J]at h;cases h;exact SeqAt.EqAt.of_refs m (SeqAt.RcAt.lists_lengths E.isList N.isList (by simpa [<-C.length, <-F.length,D.length,w.length]using J) i)
theorem Sq{D:Ň->Ņ->ņ->ņ->Bool->Prop}{tr:Bool->Bool}{A:Ň}
  (hff: ∀x y u v,RelV x u->RelV y v->mN x=true->mN y=true->D A s u v (tr (eqV x y)))
  (hfl: ∀x v l i,RelV x v->mN x=true->s.heap.IsList l i->A.units<cLine->D A s v (.ref l) (tr false)/\D A s (.ref l) v (tr false))
  (hft: ∀x v l i,RelV x v->mN x=true->s.heap.IsTuple l i->A.units<cLine->D A s v (.ref l) (tr false)/\D A s (.ref l) v (tr false))
  (hlt: ∀l b i m,s.heap.IsList l i->s.heap.IsTuple b m->A.units<cLine->D A s (.ref l) (.ref b) (tr false)/\D A s (.ref b) (.ref l) (tr false))
  (htt: ∀(l b:Addr)(i m:B9)(e:Nat->Bool),s.heap.IsTuple l i->s.heap.IsTuple b m->A.units<cLine->(∀j (h1:j<i.size) (h2:j<m.size),SeqAt.EqAt A.in1 s i[j] m[j] (e j))->D A s (.ref l) (.ref b) (tr ((List.range (min i.size m.size)).all e&&i.size==m.size)))
  (hll: ∀(l b:Addr)(i m:B9)(e:Nat->Bool),s.heap.IsList l i->s.heap.IsList b m->i.size=m.size->A.units<cLine->(∀j (h1:j<i.size) (h2:j<m.size),SeqAt.EqAt A.in1 s i[j] m[j] (e j))->D A s (.ref l) (.ref b) (tr ((List.range i.size).all e)))
  (hln: ∀(l b:Addr)(i m:B9),s.heap.IsList l i->s.heap.IsList b m->(i.size !=m.size)=true->A.units<cLine->D A s (.ref l) (.ref b) (tr false))
  (I:Inv X pins σ H s) (wd:Wd X.g α S H) (n:Nat) {a b:Er} {x y:V} {u v:ņ} {k:Bool} (hu:A.units+(n+1)<cLine) (h1:DenX X.K α H a x) (h2:DenX X.K α H b y) (rx:RelV x u) (ry:RelV y v) (h:vI S n a b=some k):D A s u v (tr k):=by
 have o:A.units<cLine:=by lia
 unfold vI at h
 cases M:IC S a with
 |none=>rw[M]at h;cases h
 |some p=>
  cases w:IC S b with
  |none=>rw[M,w]at h;cases h
  |some q=>
   rw[M,w]at h;have h:So _ p q=some k:=h;have W:=λd f x y u v k a b c Y e=>BK I wd n A.in1 d f x y u v k (show A.units+1+n<cLine by lia) a b c Y e
   cases p with
   |fl x'=>
    obtain⟨rfl,P⟩:=pV M h1
    cases q with
    |fl y'=>obtain⟨rfl,N⟩:=pV w h2;cases h;exact hff _ _ _ _ rx ry P N
    |tp es=>
     obtain⟨b,us,rfl,C,B⟩:=pW w h2;cases ry;cases h;obtain⟨its,_,pt,_⟩:=I.tuple C;exact(hft _ _ _ _ rx P pt o).1
    |ls es=>
     obtain⟨b,us,rfl,C,B⟩:=pX wd w h2;cases ry;cases h;obtain⟨its,_,G,_⟩:=I.list C;exact(hfl _ _ _ _ rx P G.isList o).1
   |tp ds=>
    obtain⟨a,vs,rfl,U,F⟩:=pW M h1;cases rx;obtain⟨its,E,pt,_⟩:=I.tuple U
    cases q with
    |fl y'=>obtain⟨rfl,N⟩:=pV w h2;cases h;exact(hft _ _ _ _ ry N pt o).2
    |tp es=>
     obtain⟨b,us,rfl,C,B⟩:=pW w h2;cases ry;obtain⟨r,J,T,_⟩:=I.tuple C;rw[SN]at h
     cases z:DI _ ds es with
     |none=>rw[z]at h;cases h
     |some bs=>
      rw[z]at h;cases h;have:=htt _ _ _ _ _ pt T o (vL W F B E J z);have L:=sD z;rw[range_all (by rw[L];simp[<-E.length, <-J.length,F.length,B.length])]at this;have Z:(its.toArray.size==r.toArray.size)=(ds.length==es.length):=by simp[<-E.length, <-J.length,F.length,B.length]
      rw[Z]at this;exact this
    |ls es=>
     obtain⟨b,us,rfl,C,B⟩:=pX wd w h2;cases ry;cases h;obtain⟨r,_,G,_⟩:=I.list C;exact(hlt _ _ _ _ G.isList pt o).2
   |ls ds=>
    obtain⟨a,vs,rfl,U,F⟩:=pX wd M h1;cases rx;obtain⟨its,E,G,_⟩:=I.list U
    cases q with
    |fl y'=>obtain⟨rfl,N⟩:=pV w h2;cases h;exact(hfl _ _ _ _ ry N G.isList o).2
    |tp es=>
     obtain⟨b,us,rfl,C,B⟩:=pW w h2;cases ry;cases h;obtain⟨r,_,pt,_⟩:=I.tuple C;exact(hlt _ _ _ _ G.isList pt o).1
    |ls es=>
     obtain⟨b,us,rfl,C,B⟩:=pX wd w h2;cases ry;obtain⟨r,J,O,_⟩:=I.list C;rw[LI]at h;by_cases L:ds.length=es.length
     .rw[iP L]at h
      cases z:DI _ ds es with
      |none=>rw[z]at h;cases h
      |some bs=>
       rw[z]at h;cases h;have hs:its.toArray.size=r.toArray.size:=by simp[<-E.length, <-J.length,F.length,B.length,L]
       have:=hll _ _ _ _ _ G.isList O.isList hs o (vL W F B E J z);have Q:=sD z;rw[range_all (by rw[Q];simp[<-E.length,F.length,L])]at this;exact this
     .rw[iN L]at h;cases h;exact hln _ _ _ _ G.isList O.isList (by simpa [<-E.length, <-J.length,F.length,B.length]using L) o
def Wv(I:Inv X pins σ H s)(i:Wd X.g α S H)(n:Nat){A:Ň}{a b:Er}{x y:V}{u v:ņ}{k:Bool}(m:A.units+(n+1)<cLine)(h1:DenX X.K α H a x)(p:DenX X.K α H b y)(o:RelV x u)(j:RelV y v)(h:vI S n a b=some k):SeqAt.RcAt A s u v k:=
 Sq (tr:=id) (λ_ _ _ _ a b c d=>(Eu a b c d).1) (λ_ _ _ _ a b c d=>⟨(JF a b c d).2.2.2.1,(JF a b c d).2.2.1⟩) (λ_ _ _ _ a b c d=>⟨(CZ a b c d).2.2.2.1,(CZ a b c d).2.2.1⟩)
  (λ_ _ _ _ a b c=>⟨SeqAt.RcAt.list_tuple a b c,SeqAt.RcAt.tuple_list b a c⟩) (λ_ _ _ _ _ a b c d=>SeqAt.RcAt.tuples a b c d) (λ_ _ _ _ _ a b c d e=>SeqAt.RcAt.lists a b c d e) (λ_ _ _ _ a b c d=>SeqAt.RcAt.lists_lengths a b c d)
  I i n m h1 p o j h
def Ww(I:Inv X pins σ H s)(i:Wd X.g α S H)(n:Nat){A:Ň}{a b:Er}{x y:V}{u v:ņ}{k:Bool}(m:A.units+(n+1)<cLine)(h1:DenX X.K α H a x)(p:DenX X.K α H b y)(o:RelV x u)(j:RelV y v)(h:vI S n a b=some k):SeqAt.RcNeAt A s u v (!k):=
 Sq (λ_ _ _ _ a b c d=>(Eu a b c d).2) (λ_ _ _ _ a b c d=>⟨(JF a b c d).2.2.2.2.2,(JF a b c d).2.2.2.2.1⟩) (λ_ _ _ _ a b c d=>⟨(CZ a b c d).2.2.2.2.2,(CZ a b c d).2.2.2.2.1⟩)
  (λ_ _ _ _ a b c=>⟨SeqAt.RcNeAt.list_tuple a b c,SeqAt.RcNeAt.tuple_list b a c⟩) (λ_ _ _ _ _ a b c d=>SeqAt.RcNeAt.tuples a b c d) (λ_ _ _ _ _ a b c d e=>SeqAt.RcNeAt.lists a b c d e) (λ_ _ _ _ a b c d=>SeqAt.RcNeAt.lists_lengths a b c d)
  I i n m h1 p o j h
theorem WK{α β:Type}: ∀{a c:List α}{b d:List β},a.length=b.length->c.length=d.length->a.zip b=c.zip d->a=c/\b=d
 |[],[],[],[],_,_,_=>⟨rfl,rfl⟩
 |[],_::_,[],_::_,_,_,e=>by simp at e
 |_::_,[],_::_,[],_,_,e=>by simp at e
 |x::a,y::c,z::b,w::d,h1,h2,e=>by simp only[Ė,List.cons.injEq,ĸ]at e;obtain⟨rfl,rfl⟩:=WK (by simpa using h1) (by simpa using h2) e.2;exact⟨by rw[e.1.1],by rw[e.1.2]⟩
mutual
theorem Den.inj(I:Inv X pins σ H s)(u:Wd X.g α S H): ∀{d f:MV}{v:V},Den X.K α H d v->Den X.K α H f v->d=f
 |.non,f,v,h,h'=>by cases nL h;cases f<;>first |rfl|(have:=mU h';cases this;done)|(have:=yL h';cases this;done)|(have:=wD h';cases this;done)|(have:=nN h';cases this;done)|(obtain⟨_,_,e,_⟩:=yW h';cases e;done)|(obtain⟨_,_,e,_⟩:=cQ h';cases e;done)|(obtain⟨_,e,_⟩:=bM h';cases e;done)|(obtain⟨_,_,_,_,_,e,_⟩:=cP h';cases e;done)
 |.bl b,f,v,h,h'=>by cases mU h;cases f<;>first |(have:=mU h';cases this;rfl;done)|(have:=nL h';cases this;done)|(have:=yL h';cases this;done)|(have:=wD h';cases this;done)|(have:=nN h';cases this;done)|(obtain⟨_,_,e,_⟩:=yW h';cases e;done)|(obtain⟨_,_,e,_⟩:=cQ h';cases e;done)|(obtain⟨_,e,_⟩:=bM h';cases e;done)|(obtain⟨_,_,_,_,_,e,_⟩:=cP h';cases e;done)
 |.int b,f,v,h,h'=>by cases yL h;cases f<;>first |(have:=yL h';cases this;rfl;done)|(have:=nL h';cases this;done)|(have:=mU h';cases this;done)|(have:=wD h';cases this;done)|(have:=nN h';cases this;done)|(obtain⟨_,_,e,_⟩:=yW h';cases e;done)|(obtain⟨_,_,e,_⟩:=cQ h';cases e;done)|(obtain⟨_,e,_⟩:=bM h';cases e;done)|(obtain⟨_,_,_,_,_,e,_⟩:=cP h';cases e;done)
 |.str b,f,v,h,h'=>by cases wD h;cases f<;>first |(have:=wD h';rw[vD (V.str.inj this)];done)|(have:=nL h';cases this;done)|(have:=mU h';cases this;done)|(have:=yL h';cases this;done)|(have:=nN h';cases this;done)|(obtain⟨_,_,e,_⟩:=yW h';cases e;done)|(obtain⟨_,_,e,_⟩:=cQ h';cases e;done)|(obtain⟨_,e,_⟩:=bM h';cases e;done)|(obtain⟨_,_,_,_,_,e,_⟩:=cP h';cases e;done)
 |.typ b,f,v,h,h'=>by cases nN h;cases f<;>first |(have:=nN h';cases this;rfl;done)|(have:=nL h';cases this;done)|(have:=mU h';cases this;done)|(have:=yL h';cases this;done)|(have:=wD h';cases this;done)|(obtain⟨_,_,e,_⟩:=yW h';cases e;done)|(obtain⟨_,_,e,_⟩:=cQ h';cases e;done)|(obtain⟨_,e,_⟩:=bM h';cases e;done)|(obtain⟨_,_,_,_,_,e,_⟩:=cP h';cases e;done)
 |.tup ds,f,v,h,h'=>by
  obtain⟨a,vs,rfl,i,A⟩:=yW h
  cases f with
  |tup es=>
   obtain⟨p,us,e2,w,q⟩:=yW h';cases e2;cases I.tuple_inj i w;rw[DenL.inj I u A q]
  |scr es=>obtain⟨p,us,e2,w,q⟩:=cQ h';cases e2;exact(vK I w.l i).elim
  |loc l=>
   obtain⟨p,e2,j⟩:=bM h';cases e2;obtain⟨F,k,E,r⟩:=u.mem (ô j);rcases i with(i|⟨o,i⟩)|⟨o,its,n,i,_⟩
   .rw[k]at i;exact absurd (å i) (E _)
   .rw[k]at i;exact(let ⟨_,z⟩:=r _ _ (å i);by cases z)
   .have:=(I.bs a o (I.mod.kin a o i)).2;rw[k]at this;cases this
  |non=>cases nL h'
  |bl b=>cases mU h'
  |int b=>cases yL h'
  |str b=>cases wD h'
  |typ b=>cases nN h'
  |obj c ns es=>
   obtain⟨p,C,dx,us,G,e2,j,_⟩:=cP h';cases e2;rcases i with(i|⟨o,i⟩)|⟨o,its,n,i,_⟩
   .rw[j]at i;cases i
   .rw[j]at i;cases i
   .have:=(I.bs a o (I.mod.kin a o i)).2;rw[j]at this;cases this
 |.scr ds,f,v,h,h'=>by
  obtain⟨a,vs,rfl,i,A⟩:=cQ h
  cases f with
  |scr es=>
   obtain⟨p,us,e2,w,q⟩:=cQ h';cases e2;cases I.list_inj i.l w.l;rw[DenL.inj I u A q]
  |tup es=>obtain⟨p,us,e2,w,q⟩:=yW h';cases e2;exact(vK I i.l w).elim
  |loc l=>
   obtain⟨p,e2,j⟩:=bM h';cases e2;obtain⟨F,k,E,r⟩:=u.mem (ô j);rcases i with⟨o,i⟩|⟨o,its,n,i,_⟩
   .rw[k]at i;exact(let ⟨_,z⟩:=r _ _ (å i);by cases z)
   .have:=(I.bs a o (I.mod.kin a o i)).2;rw[k]at this;cases this
  |non=>cases nL h'
  |bl b=>cases mU h'
  |int b=>cases yL h'
  |str b=>cases wD h'
  |typ b=>cases nN h'
  |obj c ns es=>
   obtain⟨p,C,dx,us,G,e2,j,_⟩:=cP h';cases e2;rcases i with⟨o,i⟩|⟨o,its,n,i,_⟩
   .rw[j]at i;cases i
   .have:=(I.bs a o (I.mod.kin a o i)).2;rw[j]at this;cases this
 |.loc l,f,v,h,h'=>by
  obtain⟨a,rfl,h1⟩:=bM h;obtain⟨F,k,E,r⟩:=u.mem (ô h1)
  cases f with
  |loc m=>
   obtain⟨p,e2,j⟩:=bM h';cases e2;by_cases B:l=m
   .rw[B]
   .exact absurd rfl (u.ne h1 j B)
  |tup es=>
   obtain⟨p,us,e2,i,q⟩:=yW h';cases e2;rcases i with(i|⟨o,i⟩)|⟨o,its,n,i,_⟩
   .rw[k]at i;exact absurd (å i) (E _)
   .rw[k]at i;exact(let ⟨_,z⟩:=r _ _ (å i);by cases z)
   .have:=(I.bs a o (I.mod.kin a o i)).2;rw[k]at this;cases this
  |scr es=>
   obtain⟨p,us,e2,i,q⟩:=cQ h';cases e2;rcases i with⟨o,i⟩|⟨o,its,n,i,_⟩
   .rw[k]at i;exact(let ⟨_,z⟩:=r _ _ (å i);by cases z)
   .have:=(I.bs a o (I.mod.kin a o i)).2;rw[k]at this;cases this
  |non=>cases nL h'
  |bl b=>cases mU h'
  |int b=>cases yL h'
  |str b=>cases wD h'
  |typ b=>cases nN h'
  |obj c ns es=>
   obtain⟨p,C,dx,us,G,e2,j,_⟩:=cP h';cases e2;rw[k]at j;exact(let ⟨_,z⟩:=r _ _ (å j);by cases z)
 |.obj c ns ds,f,v,h,h'=>by
  obtain⟨a,C,dx,us,G,rfl,j,Q,M,P,A⟩:=cP h
  cases f with
  |obj c' ns' es=>
   obtain⟨p,C2,L,O,T,e2,y,N,D,J,q⟩:=cP h';cases e2;rw[j]at y;injection y with y
   injection y with _ y
   injection y with e1 e2 e3
   subst e1;rw[M]at D;cases D;obtain⟨rfl,rfl⟩:=WK P J e3;rw[DenL.inj I u A q]
  |tup es=>
   obtain⟨p,us,e2,i,q⟩:=yW h';cases e2;rcases i with(i|⟨o,i⟩)|⟨o,its,n,i,_⟩
   .rw[j]at i;cases i
   .rw[j]at i;cases i
   .have:=(I.bs a o (I.mod.kin a o i)).2;rw[j]at this;cases this
  |scr es=>
   obtain⟨p,us,e2,i,q⟩:=cQ h';cases e2;rcases i with⟨o,i⟩|⟨o,its,n,i,_⟩
   .rw[j]at i;cases i
   .have:=(I.bs a o (I.mod.kin a o i)).2;rw[j]at this;cases this
  |loc l=>
   obtain⟨p,e2,h1⟩:=bM h';cases e2;obtain⟨F,k,E,r⟩:=u.mem (ô h1);rw[k]at j;exact(let ⟨_,z⟩:=r _ _ (å j);by cases z)
  |non=>cases nL h'
  |bl b=>cases mU h'
  |int b=>cases yL h'
  |str b=>cases wD h'
  |typ b=>cases nN h'
theorem DenL.inj(I:Inv X pins σ H s)(b:Wd X.g α S H): ∀{ds fs:X1}{vs:List V},DenL X.K α H ds vs->DenL X.K α H fs vs->ds=fs
 |[],fs,vs,h,h'=>by
  cases h.isnil
  cases fs with
  |nil=>rfl
  |cons f fs=>obtain⟨_,_,e,_⟩:=h'.uncons;cases e
 |d::ds,fs,vs,h,h'=>by
  obtain⟨v,r,rfl,a,l⟩:=h.uncons
  cases fs with
  |nil=>cases h'.isnil
  |cons f fs=>
   obtain⟨k,j,e,c,i⟩:=h'.uncons;cases e;rw[Den.inj I b a c,DenL.inj I b l i]
end
end
inductive LexR(A:Ň)(s:Ņ):List ņ->List ņ->Bool->Prop
 |nn:LexR A s [] [] false
 |nc (x xs):LexR A s [] (x::xs) true
 |cn (y ys):LexR A s (y::ys) [] false
 |eq {y x ys xs k}:SeqAt.EqAt A s y x true->LexR A s ys xs k->LexR A s (y::ys) (x::xs) k
 |ne {y x ys xs k}:SeqAt.EqAt A s y x false->(∀(prog:ň)(w:World)(E Q:VP),Q (.bool k) s->wpAny (model prog w) A (richCompare .Lt y x) Q E s)->LexR A s (y::ys) (x::xs) k
section
open PySem.SeqAt
open PySem.AutoSeq1 (wpAny_loadPart')
open PySem.MeetsSeq PySem.MeetsSeq2 PySem.MeetsSeq3
theorem SO(l b:Addr)(its e:B9)(n B:Nat)(D p:Option Addr)(sl q:Array (Option ņ))(k:Bool):
  Meets (Builtin.«tuple.__lt__» ⟨[.ref l,.ref b],[]⟩)
   (λA R s=>s.heap.get? l=some {cls:=.type "tuple",dict:=D,data:=.seq its n,slots:=sl}/\s.heap.get? b=some {cls:=.type "tuple",dict:=p,data:=.seq e B,slots:=q}/\
    LexR A.in1 s its.toList e.toList k/\R (.ok (.ret (.bool k))) s):=
 .of_wp λprog w A R s h=>by
  obtain⟨r,g,d,tk,u⟩:=s;obtain⟨C,z,m,h⟩:=h;have f2:=AutoSeq1.sub_tuple_tuple
  wp_walk using wpAny_loadPart' C,wpAny_loadPart' z,wpAny_forIn_list _ (λrest b s'=>b.1=none/\s'=⟨r,g,d,tk,u⟩/\ ∃(vs ws:B0),rest=vs.zip ws/\
   LexR A.in1 ⟨r,g,d,tk,u⟩ vs ws k/\vs.length+e.size=ws.length+its.size) _
  case turn=>
   rintro⟨y,x⟩ rest b s' ⟨i,rfl,vs,ws,c,j,a⟩
   cases j with
   |nn=>rw[zip_nil_left]at c;cases c
   |nc x xs=>rw[zip_nil_left]at c;cases c
   |cn y ys=>rw[List.zip_nil_right]at c;cases c
   |@eq y' x' ys xs k' he hr=>
    rw[Ė]at c;injection c with hyx hrest
    injection hyx with hy m
    subst hy m;simp only[lC]at a;refine wB (he prog w _ _ ?_)
    wp_walk
    exact⟨rfl,rfl,_,_,hrest,hr,by lia⟩
   |@ne y' x' ys xs k' he hr=>
    rw[Ė]at c;injection c with hyx hrest
    injection hyx with hy m
    subst hy m;refine wB (he prog w _ _ ?_);have o:=hr prog w
    wp_walk using o
    exact⟨_,rfl,by simpa using h⟩
  case fin=>
   rintro⟨F,E⟩ s' ⟨i,rfl,vs,ws,c,j,a⟩;simp only at i;subst i
   have v:k=decide (its.size<e.size):=by
    cases j with
    |nn=>simp only[Ĉ]at a;exact(dF0 #[0]).symm
    |nc x xs=>simp only[Ĉ,lC]at a;exact(dT0 #[0]).symm
    |cn y ys=>simp only[Ĉ,lC]at a;exact(dF0 #[0]).symm
    |eq he hr=>rw[Ė]at c;cases c
    |ne he hr=>rw[Ė]at c;cases c
   rw[v]at h
   wp_walk
   exact⟨_,rfl,by simpa [Builtin.Tuple.tupleCompareSizes]using h⟩
  case h=>
   exact⟨rfl,rfl,_,_,rfl,m,by simp;lia⟩
end
def Fn{A:Ň}{s:Ņ}{l b:Addr}{a:B9}{k:Bool}(z:IsTup s.heap l its)(q:IsTup s.heap b a)(y:LexR A.in1 s its.toList a.toList k)(u:A.units<cLine)(prog:ň)(w:World)(E Q:VP)(h:Q (.bool k) s):
  wpAny (model prog w) A (richCompare .Lt (.ref l) (.ref b)) Q E s:=by
 obtain⟨⟨C,D,m,sl⟩,p,B,n,v⟩:=id z;obtain⟨⟨o,j,_,d⟩,c,i,r,e⟩:=id q;subst B v i e
 exact richCompare_meets_room ⟨_,p,rfl⟩ ⟨_,c,rfl⟩ PySem.F.slot_tuple_lt PySem.F.entry_tuple_lt (PySem.F.args_tuple_lt_2 _ _) (SO l b its a n r D j sl d k)
  ⟨p,c,y,show Value.bool k≠Value.notImplemented/\Q _ s from⟨(λx=>nomatch x),h⟩⟩ u
def LL(e l:MV->MV->Option Bool):List MV->List MV->Option Bool
 |[],[]=>some false
 |[],_::_=>some true
 |_::_,[]=>some false
 |d::ds,f::fs=>(e d f).bind λk=>if k=true then LL e l ds fs else l d f
def EA(S:Sto):Nat->MV->MV->Option Bool
 |0,_,_=>none
 |n+1,.int i,.int j=>some (decide (i<j))
 |n+1,.str x,.str y=>some (decide (x<y))
 |n+1,.tup ds,.tup es=>LL (eqv S n) (EA S n) ds es
 |_,_,_=>none
section
variable{X:Cx}{α:K0}{S:Sto}{H:Hp}{pins:N0}{σ:St}{s:Ņ}
theorem Fo{A:Ň}{e l:MV->MV->Option Bool}(m: ∀d f x y u v k,Den X.K α H d x->Den X.K α H f y->RelV x u->RelV y v->e d f=some k->SeqAt.EqAt A s u v k)
  (hl: ∀d f x y u v k,Den X.K α H d x->Den X.K α H f y->RelV x u->RelV y v->l d f=some k-> ∀(prog:ň)(w:World)(E Q:VP),Q (.bool k) s->wpAny (model prog w) A (richCompare .Lt u v) Q E s):
  ∀{ds fs:X1}{vs us:List V}{its c:B0}{k:Bool},DenL X.K α H ds vs->DenL X.K α H fs us->Vals vs its->Vals us c->LL e l ds fs=some k->LexR A s its c k
 |[],[],_,_,_,_,k,l1,l2,r1,r2,h=>by cases l1.isnil;cases l2.isnil;cases r1;cases r2;cases h;exact .nn
 |[],f::fs,_,_,_,_,k,l1,l2,r1,r2,h=>by
  cases l1.isnil;obtain⟨v,r,rfl,a,l⟩:=l2.uncons;cases r1
  cases r2 with
  |cons a b=>cases h;exact .nc _ _
 |d::ds,[],_,_,_,_,k,l1,l2,r1,r2,h=>by
  cases l2.isnil;obtain⟨v,r,rfl,a,l⟩:=l1.uncons;cases r2
  cases r1 with
  |cons a b=>cases h;exact .cn _ _
 |d::ds,f::fs,_,_,_,_,k,l1,l2,r1,r2,h=>by
  obtain⟨v,r,rfl,a,i⟩:=l1.uncons;obtain⟨p,o,rfl,n,j⟩:=l2.uncons
  cases r1 with
  |cons b1 c1=>
   cases r2 with
   |cons b2 c2=>
    unfold LL at h
    cases z:e d f with
    |none=>rw[z]at h;cases h
    |some kk=>
     rw[z]at h;have h:(if kk=true then LL e l ds fs else l d f)=some k:=h
     cases kk with
     |true=>
      exact .eq (m d f _ _ _ _ _ a n b1 b2 z) (Fo m hl i j c1 c2 h)
     |false=>
      exact .ne (m d f _ _ _ _ _ a n b1 b2 z) (hl d f _ _ _ _ _ a n b1 b2 h)
theorem SQ(I:Inv X pins σ H s)(o:Wd X.g α S H): ∀(n:Nat)(A:Ň)(d f:MV)(x y:V)(u v:ņ)(k:Bool),A.units+n<cLine->Den X.K α H d x->Den X.K α H f y->RelV x u->RelV y v->EA S n d f=some k->
  ∀(prog:ň)(w:World)(E Q:VP),Q (.bool k) s->wpAny (model prog w) A (richCompare .Lt u v) Q E s
 |0,_,_,_,_,_,_,_,_,_,_,_,_,_,h=>by cases h
 |n+1,A,d,f,x,y,u,v,k,hu,h1,h2,rx,ry,h=>by
  intro prog w E Q m;unfold EA at h;split at h
  .cases h
  .cases h;cases yL h1;cases yL h2;obtain⟨t,rfl⟩:=rx;obtain⟨t',rfl⟩:=ry;exact(PyProof.Rows.lt_int m:wpAny _ A _ Q E s)
  .cases h;cases wD h1;cases wD h2;obtain⟨t,rfl⟩:=rx;obtain⟨t',rfl⟩:=ry;refine(PySem.P.lt_str ?_:wpAny _ A _ Q E s);exact m
  .rename_i G ds es B;obtain⟨a,vs,rfl,D,r⟩:=yW h1;obtain⟨b,us,rfl,F,C⟩:=yW h2;cases rx;cases ry;obtain⟨its,q,pt,_⟩:=I.tuple D;obtain⟨p,z,j,_⟩:=I.tuple F;cases B;refine Fn pt j ?_ #[0] prog w E Q m
   exact Fo (λd f x y u v k a b c i e=>BK I o n A.in1 d f x y u v k (show A.units+1+n<cLine by lia) a b c i e)
    (λd f x y u v k a b c i e=>SQ I o n A.in1 d f x y u v k (show A.units+1+n<cLine by lia) a b c i e) r C q z h
  .cases h
end
section
variable{X:Cx}{W:XW}{a b c e:Expr}{es:R0}{f g h:AX}{pos:Pos}
def Nf(C:Int->Int->Prop)[∀i j,Decidable (C i j)](g:Int->Int->Int):Er->Er->Sto->R Er
 |.val (.int i),.val (.int j),S=>if C i j then .ok (.val (.int (g i j))) S else .no
 |_,_,_=>.no
def M1(g:Int->Int->Bool):Er->Er->Sto->R Er
 |.val (.int i),.val (.int j),S=>.ok (.val (.bl (g i j))) S
 |_,_,_=>.no
def SR{C b:Int->Int->Prop}[∀i j,Decidable (C i j)]{g:Int->Int->Int}(h: ∀i j,C i j->b i j):OS X W (rI b λi j=>.int (g i j)) (Nf C g):=by
 intro p q x y α S H Q c d k a;unfold Nf at a;split at a
 .split at a
  .rename_i e;exact⟨_,_,kG d,kG k,h _ _ e,Post.val a c (wQ _)⟩
  .exact a.elim
 .exact a.elim
def Ng{g:Int->Int->Int}:OS X W (Se λi j=>.int (g i j)) (Nf (λ_ _=>True) g):=by
 intro p q x y α S H Q b c d a;unfold Nf at a;split at a
 .rw[iP trivial]at a;exact⟨_,_,kG c,kG d,Post.val a b (wQ _)⟩
 .exact a.elim
def SS{g:Int->Int->Bool}:OS X W (Se λi j=>.bl (g i j)) (M1 g):=by
 intro p q x y α S H Q c d b a;unfold M1 at a;split at a
 .exact⟨_,_,kG d,kG b,Post.val a c (wC _)⟩
 .exact a.elim
abbrev Nh:=Nf (λ_ _=>True) λi j=>i - j
def Wx(c:zM X W a f)(d:zM X W b g):zM X W (.BinOp a .Sub b pos) (λρ S=>(f ρ S).bind λp S1=>(g ρ S1).bind λq S2=>Nh p q S2):=OT Uy Ng c d
def M2(_ j:Int):Prop:=0<j/\j.natAbs.log2<9000
instance(i j:Int):Decidable (M2 i j):=inferInstanceAs (Decidable (_/\_))
abbrev divF:=Nf M2 λi j=>i / j
abbrev qH:=Nf (λ_ j=>0<j) λi j=>i % j
def Wy(c:zM X W a f)(d:zM X W b g):zM X W (.BinOp a .Mod b pos) (λρ S=>(f ρ S).bind λp S1=>(g ρ S1).bind λq S2=>qH p q S2):=OT Uz (SR λi j h=>h) c d
def Fp(i j:Int):Prop:=0<=j/\(Builtin.Int.intBits i:Int) * j<=2 ^ 27
instance(i j:Int):Decidable (Fp i j):=inferInstanceAs (Decidable (_/\_))
abbrev Ni:=Nf Fp λi j=>i ^ j.toNat
def Nj:OpR X (binaryOp .Pow) (rI Fp λi j=>.int (i ^ j.toNat)):=opI λ_ _ _ _ _ _ _ a q=>pow_int a.1 a.2 q
def Wz(c:zM X W a f)(d:zM X W b g):zM X W (.BinOp a .Pow b pos) (λρ S=>(f ρ S).bind λp S1=>(g ρ S1).bind λq S2=>Ni p q S2):=OT Nj (SR λi j h=>h) c d
def shlC(i j:Int):Prop:=0<=j/\j<=1000000/\i.natAbs<2 ^ 64
instance(i j:Int):Decidable (shlC i j):=inferInstanceAs (Decidable (_/\_/\_))
def Nk(S:Sto):Er->Option (List MV)
 |.new ds=>some ds
 |.val (.loc l)=>match S[l]? with
  |some (.lst ds)=>some ds
  |_=>none
 |_=>none
def SU(i:Wd X.g α S H){r:Er}{ds:X1}{x:V}(e:Nk S r=some ds)(d:DenX X.K α H r x): ∃a vs,x=.ref a/\H a=some (.lst vs)/\DenL X.K α H ds vs:=by
 unfold Nk at e;split at e
 .cases e;obtain⟨b,vs,rfl,h,_,l⟩:=d;exact⟨b,vs,rfl,h,l⟩
 .rename_i n;obtain⟨a,rfl,h⟩:=lO d;split at e
  .rename_i es c;cases e;obtain⟨vs,h1,l⟩:=i.obj n a _ h c;exact⟨a,vs,rfl,h1,l⟩
  .cases e
 .cases e
def WL(p q:Er)(S:Sto):R Er:=match Nk S p,Nk S q with
 |some x,some y=>if x.length+y.length<=sizeLine then .ok (.new (x++y)) S else .no
 |_,_=>.no
def jC:Er->Er->Sto->R Er
 |.val (.int i),.val (.int j),S=>.ok (.val (.int (i+j))) S
 |.val (.str x),.val (.str y),S=>if x.length+y.length<=sizeLine then .ok (.val (.str (x++y))) S else .no
 |.val (.tup x),.val (.tup y),S=>if x.length+y.length<=sizeLine then .ok (.val (.tup (x++y))) S else .no
 |p,q,S=>WL p q S
def Fq:OpR X (binaryOp .Add) (λx y H Q=> ∃a b ys,x=.ref a/\y=.ref b/\SqT X.K H a []/\SqT X.K H b ys/\Q (.ref b) H):=by
 intro pins s σ H x y v u Q I C z h;obtain⟨a,b,ys,rfl,rfl,D,E,q⟩:=h;cases C;cases z;obtain⟨its,r,p1,_⟩:=I.tuple D;obtain⟨p,M,p2,_⟩:=I.tuple E;have w:=r.nil_iff.mpr rfl;subst w;obtain⟨⟨J,L,m,sl⟩,k,B,n,A⟩:=id p1;obtain⟨⟨o,e,_,i⟩,c,j,G,d⟩:=id p2;subst B A j d
 exact concat_meets ⟨_,k,rfl⟩ ⟨_,c,rfl⟩ noFill_tuple_add seq_tuple_add PySem.F.slot_tuple_add PySem.F.entry_tuple_add (PySem.F.args_tuple_add_2 _ _)
  (tuple_addW0 a b _ _ n G L e sl i rfl) ⟨k,c,⟨.ref b,H,I,rfl,q⟩⟩
def Xa(B:zM X W a f)(E:zM X W b g):zM X W (.BinOp a .Add b pos) (λρ S=>(f ρ S).bind λp S1=>(g ρ S1).bind λq S2=>jC p q S2):=by
 refine OT (Ux.or (RY.or (Vm.or (Lq.or Fq)))) ?_ B E;intro p q x y α S H Q d k m c;unfold jC at c;split at c
 .exact .inl ⟨_,_,kG k,kG m,Post.val c d (wQ _)⟩
 .split at c
  .rename_i i;refine .inr (.inl ⟨_,_,eW k,eW m,by rw[oH];exact i,?_⟩);rw[Mb];exact Post.val c d (sB _)
  .exact c.elim
 .split at c
  .rename_i z w i;obtain⟨n,vs,rfl,s,e⟩:=cR k;obtain⟨j,us,rfl,u,h⟩:=cR m;by_cases v:vs=[]
   .subst v;have o:=e.length;refine .inr (.inr (.inr (.inr ⟨n,j,us,rfl,rfl,s,u,?_⟩)));have:z=[]:=by cases z with |nil=>rfl|cons _ _=>simp at o
    subst this;exact Post.val c d (oI u h)
   .refine .inr (.inr (.inr (.inl ⟨n,j,vs,us,rfl,rfl,s,u,v,by rw[e.length,h.length];exact i,λh1=>?_,λh1 p r=>Post.newt c d r (e.append h)⟩)));subst h1;have o:=h.length;have:w=[]:=by cases w with |nil=>rfl|cons _ _=>simp at o
    subst this;rw[aN]at c;exact Post.val c d (oI s e)
  .exact c.elim
 .unfold WL at c;split at c
  .rename_i D C e1 e2;split at c
   .rename_i i;obtain⟨n,vs,rfl,h1,e⟩:=SU d e1 k;obtain⟨j,us,rfl,A,h⟩:=SU d e2 m;exact .inr (.inr (.inl ⟨n,j,vs,us,rfl,rfl,h1,A,by rw[e.length,h.length];exact i,λp r=>Post.newl c d r (e.append h)⟩))
   .exact c.elim
  .exact c.elim
def mulC(i j:Int):Prop:=(-(2 ^ 64)<i/\i<2 ^ 64)\/(-(2 ^ 64)<j/\j<2 ^ 64)\/(i.natAbs.log2<4000/\j.natAbs.log2<4000)
theorem WM{i:Int}(h:i.natAbs.log2<4000):Builtin.Int.intBits i<=2 ^ 20:=by unfold Builtin.Int.intBits;split<;>lia
def mulC.ok{i j:Int}(h:mulC i j):IntMulOk i j:=by
 rcases h with h|h|⟨h1,h2⟩
 .exact CMul.ok (.inl h)
 .exact CMul.ok (.inr h)
 .exact .of_bits (WM h1) (WM h2)
def Nl{X:Cx}:OpR X (binaryOp .Mult) (rI mulC λi j=>.int (i * j)):=opI λ_ _ _ _ _ _ _ a q=>mul_int q a.ok
instance(i j:Int):Decidable (mulC i j):=inferInstanceAs (Decidable (_\/_\/_))
abbrev tH:=Nf mulC λi j=>i * j
theorem DenL.rep{K:U0}{ds:X1}(l:DenL K α H ds vs): ∀k:Nat,DenL K α H (List.replicate k ds).flatten (List.replicate k vs).flatten
 |0=>yE
 |k+1=>by rw[List.replicate_succ];exact l.append (DenL.rep l k)
def Xb(c:zM X W a f)(d:zM X W b g):zM X W (.BinOp a .Mult b pos) (λρ S=>(f ρ S).bind λp S1=>(g ρ S1).bind λq S2=>tH p q S2):=OT Nl (SR λi j h=>h) c d
def zI:Nat:=40
def uF(p q:Er)(S:Sto):R Er:=match vI S zI p q with
 |some k=>.ok (.val (.bl k)) S
 |none=>.no
def OW(p q:Er)(S:Sto):R Er:=match vI S zI p q with
 |some k=>.ok (.val (.bl !k)) S
 |none=>.no
theorem Fs(m:X.A.units+64<cLine):OpR X (compareOp .Eq) (λx y H Q=> ∃α S p q k,Wd X.g α S H/\DenX X.K α H p x/\DenX X.K α H q y/\vI S zI p q=some k/\Q (.bl k) H):=by intro pins s σ H x y v u Q I i d h;obtain⟨α,S,p,q,k,b,c,j,e,a⟩:=h;exact Wv I b zI (by unfold zI;lia) c j i d e X.prog X.w _ _ ⟨.bl k,H,I,rfl,a⟩
theorem Ft(m:X.A.units+64<cLine):OpR X (compareOp .NotEq) (λx y H Q=> ∃α S p q k,Wd X.g α S H/\DenX X.K α H p x/\DenX X.K α H q y/\vI S zI p q=some k/\Q (.bl (!k)) H):=by intro pins s σ H x y v u Q I i d h;obtain⟨α,S,p,q,k,b,c,j,e,a⟩:=h;exact Ww I b zI (by unfold zI;lia) c j i d e X.prog X.w _ _ ⟨.bl (!k),H,I,rfl,a⟩
def WN:OS X W (λx y H Q=> ∃α S p q k,Wd X.g α S H/\DenX X.K α H p x/\DenX X.K α H q y/\vI S zI p q=some k/\Q (.bl k) H) uF:=by
 intro p q x y α S H Q b d c a;unfold uF at a;split at a
 .rename_i k e;exact⟨α,S,p,q,k,b,d,c,e,Post.val a b (wC _)⟩
 .exact a.elim
def WO:OS X W (λx y H Q=> ∃α S p q k,Wd X.g α S H/\DenX X.K α H p x/\DenX X.K α H q y/\vI S zI p q=some k/\Q (.bl (!k)) H) OW:=by
 intro p q x y α S H Q b d c a;unfold OW at a;split at a
 .rename_i k e;exact⟨α,S,p,q,k,b,d,c,e,Post.val a b (wC _)⟩
 .exact a.elim
def M3(e:X.A.units+64<cLine)(c:zM X W a f)(d:zM X W b g):zM X W (.Compare a [.Eq] [b] pos) (λρ S=>(f ρ S).bind λp S1=>(g ρ S1).bind λq S2=>uF p q S2):=uD (Fs e) WN c d
def M4(e:X.A.units+64<cLine)(c:zM X W a f)(d:zM X W b g):pT X W (.Compare a [.Eq] [b] pos) (λρ S=>((f ρ S).bind λp S1=>(g ρ S1).bind λq S2=>uF p q S2).bind cX):=eX (Fs e) WN c d
def M5(e:X.A.units+64<cLine)(c:zM X W a f)(d:zM X W b g):zM X W (.Compare a [.NotEq] [b] pos) (λρ S=>(f ρ S).bind λp S1=>(g ρ S1).bind λq S2=>OW p q S2):=uD (Ft e) WO c d
def M6(e:X.A.units+64<cLine)(c:zM X W a f)(d:zM X W b g):pT X W (.Compare a [.NotEq] [b] pos) (λρ S=>((f ρ S).bind λp S1=>(g ρ S1).bind λq S2=>OW p q S2).bind cX):=eX (Ft e) WO c d
def Fv:Er->Er->Sto->R Er
 |.val d,.val f,S=>match EA S zI d f with
  |some k=>.ok (.val (.bl k)) S
  |none=>.no
 |_,_,_=>.no
theorem Fw(n:X.A.units+64<cLine):OpR X (compareOp .Lt) (λx y H Q=> ∃α S d f k,Wd X.g α S H/\Den X.K α H d x/\Den X.K α H f y/\EA S zI d f=some k/\Q (.bl k) H):=by intro pins s σ H x y v u Q I j i h;obtain⟨α,S,d,f,k,b,c,m,e,a⟩:=h;exact SQ I b zI X.A d f x y v u k (by unfold zI;lia) c m j i e X.prog X.w _ _ ⟨.bl k,H,I,rfl,a⟩
def WP:OS X W (λx y H Q=> ∃α S d f k,Wd X.g α S H/\Den X.K α H d x/\Den X.K α H f y/\EA S zI d f=some k/\Q (.bl k) H) Fv:=by
 intro p q x y α S H Q b c h a;unfold Fv at a;split at a
 .split at a
  .rename_i k e;exact⟨α,S,_,_,k,b,c,h,e,Post.val a b (wC _)⟩
  .exact a.elim
 .exact a.elim
def M7(e:X.A.units+64<cLine)(c:zM X W a f)(d:zM X W b g):zM X W (.Compare a [.Lt] [b] pos) (λρ S=>(f ρ S).bind λp S1=>(g ρ S1).bind λq S2=>Fv p q S2):=uD (Fw e) WP c d
def M8(e:X.A.units+64<cLine)(c:zM X W a f)(d:zM X W b g):pT X W (.Compare a [.Lt] [b] pos) (λρ S=>((f ρ S).bind λp S1=>(g ρ S1).bind λq S2=>Fv p q S2).bind cX):=eX (Fw e) WP c d
abbrev Nn:=M1 λi j=>decide (j<i)
abbrev M9:=M1 λi j=>decide (j<=i)
def N1(c:zM X W a f)(d:zM X W b g):zM X W (.Compare a [.Gt] [b] pos) (λρ S=>(f ρ S).bind λp S1=>(g ρ S1).bind λq S2=>Nn p q S2):=uD Sh SS c d
def N2(c:zM X W a f)(d:zM X W b g):pT X W (.Compare a [.Gt] [b] pos) (λρ S=>((f ρ S).bind λp S1=>(g ρ S1).bind λq S2=>Nn p q S2).bind cX):=eX Sh SS c d
def N3(c:zM X W a f)(d:zM X W b g):pT X W (.Compare a [.GtE] [b] pos) (λρ S=>((f ρ S).bind λp S1=>(g ρ S1).bind λq S2=>M9 p q S2).bind cX):=eX G7 SS c d
def OX:Er->Er->Sto->R Er
 |.val .non,.val .non,S=>.ok (.val (.bl true)) S
 |_,.val .non,S=>.ok (.val (.bl false)) S
 |_,_,_=>.no
def JK:Er->Er->Sto->R Er
 |.val .non,.val .non,S=>.ok (.val (.bl false)) S
 |_,.val .non,S=>.ok (.val (.bl true)) S
 |_,_,_=>.no
theorem OY{p:Er}{x:V}(d:DenX X.K α H p x)(n:p≠.val .non):decide (x=.non)=false:=by
 cases p with
 |new ds=>obtain⟨b,vs,rfl,_⟩:=d;rfl
 |val m=>
  cases m with
  |non=>exact absurd rfl n
  |bl b=>cases qU d;rfl
  |int b=>cases kG d;rfl
  |str b=>cases eW d;rfl
  |typ b=>cases Ex d;rfl
  |obj b b' b''=>obtain⟨_,_,_,_,_,rfl,_⟩:=SJ d;rfl
  |tup b=>obtain⟨_,_,rfl,_⟩:=cR d;rfl
  |scr b=>obtain⟨_,_,rfl,_⟩:=EU d;rfl
  |loc b=>obtain⟨_,rfl,_⟩:=lO d;rfl
def WQ:OS X W (λx y H Q=>y=.non/\Q (.bl (decide (x=.non))) H) OX:=by
 intro p q x y α S H Q c d e a;unfold OX at a;split at a
 .cases oK d;exact⟨oK e,Post.val a c (wC _)⟩
 .rename_i h S' b;rw[OY d (λz=>by first |exact b z|exact b z rfl|exact b _ z|exact b rfl z)];exact⟨oK e,Post.val a c (wC _)⟩
 .exact a.elim
def Fx:OS X W (λx y H Q=>y=.non/\Q (.bl (!decide (x=.non))) H) JK:=by
 intro p q x y α S H Q c d e a;unfold JK at a;split at a
 .cases oK d;exact⟨oK e,Post.val a c (wC _)⟩
 .rename_i h S' b;rw[OY d (λz=>by first |exact b z|exact b z rfl|exact b _ z|exact b rfl z)];exact⟨oK e,Post.val a c (wC _)⟩
 .exact a.elim
def N4(c:zM X W a f)(d:zM X W b g):zM X W (.Compare a [.Is] [b] pos) (λρ S=>(f ρ S).bind λp S1=>(g ρ S1).bind λq S2=>OX p q S2):=uD Eb WQ c d
def N5(c:zM X W a f)(d:zM X W b g):pT X W (.Compare a [.Is] [b] pos) (λρ S=>((f ρ S).bind λp S1=>(g ρ S1).bind λq S2=>OX p q S2).bind cX):=eX Eb WQ c d
def Fy(c:zM X W a f)(d:zM X W b g):pT X W (.Compare a [.IsNot] [b] pos) (λρ S=>((f ρ S).bind λp S1=>(g ρ S1).bind λq S2=>JK p q S2).bind cX):=eX Ld Fx c d
def getL(ds:X1):Er->Sto->R Er
 |.val (.int i),S=>match BA ds i with |some d=>.ok (.val d) S|none=>.no
 |_,_=>.no
def yC:Er->Er->Sto->R Er
 |.val (.str x),.val (.int i),S=>if x.length<=sizeLine then match BA x i with |some c=>.ok (.val (.str [c])) S|none=>.no else .no
 |.val (.tup ds),q,S=>getL ds q S
 |p,q,S=>match kI S p with |some ds=>getL ds q S|none=>.no
def Np{K:U0}{ds:X1}{i:Int}{d:MV}(l:DenL K α H ds vs)(e:BA ds i=some d): ∃v,BA vs i=some v/\Den K α H d v:=by
 unfold BA at e ⊢;rw[l.length]
 cases z:Sk ds.length i with
 |none=>rw[z]at e;cases e
 |some j=>
  rw[z]at e;obtain⟨v,h1,a⟩:=l.at e;exact⟨v,h1,a⟩
def N6(w:zM X W a f)(z:zM X W b g)(hs:DX b:=by exact λ_ _=>rfl):zM X W (.Subscript a b pos) (λρ S=>(f ρ S).bind λp S1=>(g ρ S1).bind λq S2=>yC p q S2):=by
 refine Sn Vi ?_ w z hs;intro p q x y α S H Q k n r c;have j: ∀{ds:X1}{vs:List V}{i:Int}{d:MV},DenL X.K α H ds vs->BA ds i=some d->Post X.g W α H _ Q-> ∃v,BA vs i=some v/\Q v H:=λl e c=>by obtain⟨v,h1,h⟩:=Np l e;exact⟨v,h1,Post.val c k h⟩
 unfold yC at c;split at c
 .split at c
  .rename_i B;split at c
   .rename_i u e;refine .inr (.inr ⟨_,_,u,eW n,kG r,by rw[oH];exact B,by rw[Ma];exact e,?_⟩);exact Post.val c k (sB [u])
   .exact c.elim
  .exact c.elim
 .unfold getL at c;split at c
  .split at c
   .rename_i d e;obtain⟨s,vs,rfl,o,m⟩:=cR n;obtain⟨v,h1,h⟩:=j m e c;exact .inr (.inl ⟨s,vs,_,v,rfl,kG r,o,h1,h⟩)
   .exact c.elim
  .exact c.elim
 .split at c
  .rename_i ds A;unfold getL at c;split at c
   .split at c
    .rename_i d e;obtain⟨s,vs,rfl,o,m⟩:=pU rfl k A n;obtain⟨v,h1,h⟩:=j m e c;exact .inl ⟨s,vs,_,v,rfl,kG r,o,h1,h⟩
    .exact c.elim
   .exact c.elim
  .exact c.elim
end
def IE{prog:ň}{w:World}{A:Ň}{E:VP}{s:Ņ}{t sl:Addr}{j i:ņ}{lo hi:P0}(e:IsTup s.heap t its)(hs:s.heap.IsSliceOf sl j i .none)(n:IsPart j lo)(m:IsPart i hi)
  (h0:HT.sIx its.size 0 lo=0) (h1:HT.sIx its.size its.size hi=its.size) (h:Q (.ref t) s):wpAny (model prog w) A (getItem (.ref t) (.ref sl)) Q E s:=by
 have c:s.TypeIs (.ref sl) "slice":=by obtain⟨k,b,d,_⟩:=id hs;exact⟨k,b,d⟩
 have a:=e.typeIs;unfold getItem
 try with_reducible refine Ă ?_
 first |refine wB _|skip
 refine wB (wpAny_sequenceKey a (by decide) ?_);refine wB (ć a Ĝ (ø Ĝ a entry_tuple_getitem ?_ (args_tuple_getitem _ _)));show wpAny _ _ (Builtin.Tuple.tupleItemsOf _ >>= _) _ _ s;refine wB (tupleItemsOf_ e (wB (į c ?_)));refine wB (HT.sliceApplied_gen hs n m ?_);show wpAny _ _ (if _=true then _ else _) _ _ s;rw[iP (by rw[h0,h1];simp)];refine wB (wB (į a (wP ?_)));refine wB (Ĭ ?_)
 first
  |exact wP ⟨_,rfl,wP h⟩
  |exact wB _
  |exact wB _
section
variable{X:Cx}{W:XW}{a e:Expr}{f h:AX}{pos:Pos}
def Nq:SlR X (λx lo hi H Q=> ∃a xs,x=.ref a/\SqT X.K H a xs/\HT.sIx xs.length 0 lo=0/\HT.sIx xs.length xs.length hi=xs.length/\Q (.ref a) H):=by
 intro pins s σ H x v o m lo hi sl Q I k hs j i h;obtain⟨a,xs,rfl,e,d,h1,q⟩:=h;cases k;obtain⟨its,r,c,n⟩:=I.tuple e;have b:its.toArray.size=xs.length:=by rw[sA];exact r.length.symm
 exact⟨_,_,PyProof.Rows.slot_tuple_getitem.lookup,c.typeIs,IE c hs j i (by rw[b];exact d) (by rw[b];exact h1) ⟨.ref a,H,I,rfl,q⟩⟩
def SV:Er->Option Int->Option Int->Sto->R Er
 |.val (.str x),lo,hi,S=>if x.length<=sizeLine then .ok (.val (.str (cN x lo hi))) S else .no
 |.val (.tup ds),lo,hi,S=>.ok (.val (.tup (cN ds lo hi))) S
 |p,lo,hi,S=>match kI S p with |some ds=>.ok (.new (cN ds lo hi)) S|none=>.no
def As{α:Type}{ds:List α}{lo hi:P0}(a:HT.sIx ds.length 0 lo=0)(h1:HT.sIx ds.length ds.length hi=ds.length):cN ds lo hi=ds:=by unfold cN;rw[a,h1];simp
def Xc{lo hi:Option Expr}{lf m:Rho->Sto->R (Option Int)}{p2:Pos}(n:zM X W a f)(s:Vt X W lo lf)(v:Vt X W hi m):zM X W (.Subscript a (.Slice lo hi none p2) pos) (λρ S=>(f ρ S).bind λp S1=>(lf ρ S1).bind λl S2=>(m ρ S2).bind λu r=>SV p l u r):=by
 refine Fe (Vo.or (Lu.or (Vg.or Nq))) ?_ n s v;intro p lo hi x α S H Q d j b;unfold SV at b;split at b
 .split at b
  .rename_i q;exact .inl ⟨_,eW j,q,Post.val b d (sB _)⟩
  .exact b.elim
 .rename_i _ _ _ ds;obtain⟨i,vs,rfl,h,c⟩:=cR j;by_cases hw:HT.sIx vs.length 0 lo=0/\HT.sIx vs.length vs.length hi=vs.length
  .have e:=As (by rw[<-c.length];exact hw.1) (by rw[<-c.length];exact hw.2);rw[e]at b;exact .inr (.inr (.inr ⟨i,vs,rfl,h,hw.1,hw.2,Post.val b d (oI h c)⟩))
  .exact .inr (.inr (.inl ⟨i,vs,rfl,h,hw,λp k=>Post.newt b d k (c.cut lo hi)⟩))
 .split at b
  .rename_i ds o;obtain⟨i,vs,rfl,h,c⟩:=pU rfl d o j;exact .inr (.inl ⟨i,vs,rfl,h,λp k=>Post.newl b d k (c.cut lo hi)⟩)
  .exact b.elim
theorem DenL.pick{K:U0}{ds:X1}(l:DenL K α H ds vs): ∀idx:List Nat,DenL K α H (idx.filterMap (ds[·]?)) (idx.filterMap (vs[·]?))
 |[]=>yE
 |i::idx=>by
  cases z:ds[i]? with
  |none=>
   have a:vs[i]? =none:=by rw[ī,l.length];exact ī.mp z
   rw[ı z,ı a];exact DenL.pick l idx
  |some d=>
   obtain⟨v,h1,b⟩:=l.at z;rw[ĵ z,ĵ h1];exact zW b (DenL.pick l idx)
theorem Vals.pick{us:B0}(r:Vals xs us): ∀idx:List Nat,Vals (idx.filterMap (xs[·]?)) (idx.filterMap (us[·]?))
 |[]=>.nil
 |i::idx=>by
  cases z:xs[i]? with
  |none=>rw[ı z,ı (r.none_of z)];exact Vals.pick r idx
  |some d=>
   obtain⟨v,h1,a⟩:=r.get z;rw[ĵ z,ĵ h1];exact .cons a (Vals.pick r idx)
end
section
variable{X:Cx}{W:XW}{a b c e:Expr}{f g h:AX}{pos:Pos}
def OZ(S:Sto)(n:Nat)(d:MV):List MV->Option (List Bool)
 |[]=>some []
 |y::ys=>(eqv S n y d).bind λk=>(OZ S n d ys).map (k::·)
section
variable{α:K0}{S:Sto}{H:Hp}{pins:N0}{σ:St}{s:Ņ}
def Nr(X:Cx)(α:K0)(S:Sto)(H:Hp)(n:Nat)(d:MV)(u:ņ):Bool:=open Classical in decide (∃y x,Den X.K α H y x/\RelV x u/\eqv S n y d=some true)
open Classical in
def Nt(I:Inv X pins σ H s)(h:Wd X.g α S H){n:Nat}{d y:MV}{x:V}{u:ņ}{k:Bool}(b:Den X.K α H y x)(r:RelV x u)(e:eqv S n y d=some k):Nr X α S H n d u=k:=by
 unfold Nr
 cases k with
 |true=>exact dT0 ⟨y,x,b,r,e⟩
 |false=>
  refine dF0 λ⟨j,m,a,i,c⟩=>?_;have ex:=r.inj i;subst ex;rw[b.inj I h a]at e;rw[e]at c;cases c
theorem vM(I:Inv X pins σ H s)(h:Wd X.g α S H){n:Nat}{A:Ň}{d:MV}{x:V}{v:ņ}(b:A.units+n<cLine)(o:Den X.K α H d x)(m:RelV x v): ∀{ys:X1}{vs:List V}{us:B0}{bs:O0},DenL X.K α H ys vs->Vals vs us->OZ S n d ys=some bs->
  us.map (Nr X α S H n d)=bs/\ ∀u∈us,SeqAt.EqAt A s u v (Nr X α S H n d u)
 |[],_,_,bs,l,r,e=>by cases l.isnil;cases r;cases e;exact⟨rfl,λu b=>by cases b⟩
 |y::ys,_,_,bs,l,r,e=>by
  obtain⟨B,w,rfl,i,q⟩:=l.uncons
  cases r with
  |cons r1 r2=>
   unfold OZ at e
   cases z:eqv S n y d with
   |none=>rw[z]at e;cases e
   |some k=>
    rw[z]at e
    cases c:OZ S n d ys with
    |none=>simp[c]at e
    |some cs=>
     simp[c]at e;subst e;obtain⟨h1,p⟩:=vM I h b o m q r2 c;have j:=Nt I h i r1 z;refine⟨by rw[è,h1,j],λu a=>?_⟩;rcases mC.mp a with rfl|a
     .rw[j];exact BK I h n A y d _ _ _ _ k b i o r1 m z
     .exact p u a
end
theorem any_map{us:B0}{f:ņ->Bool}{bs:O0}(h:us.map f=bs):us.toArray.any f=bs.any id:=by subst h;simp[Ĩ]
def itemsOf(S:Sto):Er->Option (List MV)
 |.val (.tup ds)=>some ds
 |r=>kI S r
def vN(b:Wd X.g α S H){r:Er}{ds:X1}{x:V}(e:itemsOf S r=some ds)(d:DenX X.K α H r x): ∃a vs,x=.ref a/\(SqL X.K H a vs\/SqT X.K H a vs)/\DenL X.K α H ds vs:=by
 unfold itemsOf at e;split at e
 .cases e;obtain⟨a,vs,rfl,s,l⟩:=cR d;exact⟨a,vs,rfl,.inr s,l⟩
 .obtain⟨a,vs,rfl,s,l⟩:=pU rfl b e d;exact⟨a,vs,rfl,.inl s,l⟩
def qX(a:Bool)(p q:Er)(S:Sto):R Er:=match p with
 |.val d=>match itemsOf S q with
  |some ys=>match OZ S zI d ys with
   |some bs=>.ok (.val (.bl (if a=true then !bs.any id else bs.any id))) S
   |none=>.no
  |none=>.no
 |.new _=>.no
def SW(a:Bool):Er->Er->Sto->R Er
 |.val (.str [c]),.val (.str y),S=>.ok (.val (.bl (if a=true then !decide (c∈y)else decide (c∈y)))) S
 |p,q,S=>qX a p q S
abbrev Fz(X:Cx)(a:Bool):R2:=λx y H Q=> ∃α S d q ys bs,Wd X.g α S H/\Den X.K α H d x/\DenX X.K α H q y/\itemsOf S q=some ys/\OZ S zI d ys=some bs/\Q (.bl (if a=true then !bs.any id else bs.any id)) H
theorem Xd(B:X.A.units+64<cLine):OpR X (compareOp .In) (Fz X false):=by
 intro pins s σ H x y v u Q I j o h;obtain⟨α,S,d,q,ys,bs,c,n,z,p,k,m⟩:=h;obtain⟨a,vs,rfl,b,l⟩:=vN c p z;cases o;rcases b with b|b
 .obtain⟨its,r,e,_⟩:=I.list b;obtain⟨h1,i⟩:=vM I c (A:=X.A.in1) (by show X.A.units+1+zI<cLine;unfold zI;lia) n j l r k;refine SeqAt.in_listAt _ e.isList (λw hw=>i w (by simpa using hw)) ⟨.bl _,H,I,rfl,?_⟩;rw[any_map h1];exact m
 .obtain⟨its,r,e,_⟩:=I.tuple b;obtain⟨h1,i⟩:=vM I c (A:=X.A.in1) (by show X.A.units+1+zI<cLine;unfold zI;lia) n j l r k;refine SeqAt.in_tupleAt _ e (λw hw=>i w (by simpa using hw)) ⟨.bl _,H,I,rfl,?_⟩;rw[any_map h1];exact m
theorem Au(B:X.A.units+64<cLine):OpR X (compareOp .NotIn) (Fz X true):=by
 intro pins s σ H x y v u Q I j o h;obtain⟨α,S,d,q,ys,bs,c,n,z,p,k,m⟩:=h;obtain⟨a,vs,rfl,b,l⟩:=vN c p z;cases o;rcases b with b|b
 .obtain⟨its,r,e,_⟩:=I.list b;obtain⟨h1,i⟩:=vM I c (A:=X.A.in1) (by show X.A.units+1+zI<cLine;unfold zI;lia) n j l r k;refine SeqAt.notIn_listAt _ e.isList (λw hw=>i w (by simpa using hw)) ⟨.bl _,H,I,rfl,?_⟩;rw[any_map h1];exact m
 .obtain⟨its,r,e,_⟩:=I.tuple b;obtain⟨h1,i⟩:=vM I c (A:=X.A.in1) (by show X.A.units+1+zI<cLine;unfold zI;lia) n j l r k;refine SeqAt.notIn_tupleAt _ e (λw hw=>i w (by simpa using hw)) ⟨.bl _,H,I,rfl,?_⟩;rw[any_map h1];exact m
def LM{b:Bool}:OS X W (λx y H Q=>(∃i j,x=.str i/\y=.str j/\Q (.bl (if b=true then !(!(Builtin.Str.occurrences j i 0 j.length 1).isEmpty)else !(Builtin.Str.occurrences j i 0 j.length 1).isEmpty)) H)\/Fz X b x y H Q) (SW b):=by
 intro p q x y α S H Q c e h a;unfold SW at a;split at a
 .refine .inl ⟨_,_,eW e,eW h,?_⟩;rw[<-Mc,PySem.StrLaws.found_one];exact Post.val a c (wC _)
 .unfold qX at a;split at a
  .rename_i d _;split at a
   .rename_i ys k;split at a
    .rename_i bs m;exact .inr ⟨α,S,_,q,ys,bs,c,e,h,k,m,Post.val a c (wC _)⟩
    .exact a.elim
   .exact a.elim
  .exact a.elim
def OpR.imp{f:ņ->ņ->Sem ņ}{r a:R2}(h:OpR X f r)(i: ∀x y H Q,a x y H Q->r x y H Q):OpR X f a:=λpins s σ H x y v u Q I b c q=>h pins s σ H x y v u Q I b c (i x y H Q q)
def Ga(a:X.A.units+64<cLine):OpR X (compareOp .In) (λx y H Q=>(∃i j,x=.str i/\y=.str j/\Q (.bl (if(false:Bool)=true then !(!(Builtin.Str.occurrences j i 0 j.length 1).isEmpty)else !(Builtin.Str.occurrences j i 0 j.length 1).isEmpty)) H)\/Fz X false x y H Q):=
 OpR.imp (ZY.or (Xd a)) λx y H Q q=>q.imp (λq=>q) λq=>q
def Av(a:X.A.units+64<cLine):OpR X (compareOp .NotIn) (λx y H Q=>(∃i j,x=.str i/\y=.str j/\Q (.bl (if(true:Bool)=true then !(!(Builtin.Str.occurrences j i 0 j.length 1).isEmpty)else !(Builtin.Str.occurrences j i 0 j.length 1).isEmpty)) H)\/Fz X true x y H Q):=
 OpR.imp (KS.or (Au a)) λx y H Q q=>q.imp (λq=>q) λq=>q
def N8(h:X.A.units+64<cLine)(c:zM X W a f)(e:zM X W b g)(d:behindInMarks .In b=false:=by with_unfolding_all rfl):zM X W (.Compare a [.In] [b] pos) (λρ S=>(f ρ S).bind λp S1=>(g ρ S1).bind λq S2=>SW false p q S2):=uD (Ga h) LM c e d
def N9(h:X.A.units+64<cLine)(c:zM X W a f)(e:zM X W b g)(d:behindInMarks .In b=false:=by with_unfolding_all rfl):pT X W (.Compare a [.In] [b] pos) (λρ S=>((f ρ S).bind λp S1=>(g ρ S1).bind λq S2=>SW false p q S2).bind cX):=eX (Ga h) LM c e d
def Gb(h:X.A.units+64<cLine)(c:zM X W a f)(e:zM X W b g)(d:behindInMarks .NotIn b=false:=by with_unfolding_all rfl):pT X W (.Compare a [.NotIn] [b] pos) (λρ S=>((f ρ S).bind λp S1=>(g ρ S1).bind λq S2=>SW true p q S2).bind cX):=eX (Av h) LM c e d
def fA{K:U0}{r:Er}(d:ArgsX K α H [r] vs): ∃v,vs=[v]/\DenX K α H r v:=by
 cases d with
 |cons a l=>cases l;exact⟨_,rfl,a⟩
def O1{K:U0}{r b:Er}(d:ArgsX K α H [r,b] vs): ∃v u,vs=[v,u]/\DenX K α H r v/\DenX K α H b u:=by
 cases d with
 |cons a l=>obtain⟨u,rfl,c⟩:=fA l;exact⟨_,u,rfl,a,c⟩
def fC:List Er->Sto->R Er
 |[.val (.str x)],S=>if x.length<=sizeLine then .ok (.val (.int x.length)) S else .no
 |[r],S=>match itemsOf S r with |some ds=>.ok (.val (.int ds.length)) S|none=>.no
 |_,_=>.no
def Xe:eY X W (λxs H Q=>(∃z,xs=[.str z]/\z.length<=sizeLine/\Q (.int z.length) H)\/ ∃p ys,xs=[.ref p]/\(SqL X.K H p ys\/SqT X.K H p ys)/\Q (.int ys.length) H) fC:=by
 intro rs vs α S H Q c d b;unfold fC at b;split at b
 .split at b
  .rename_i i;obtain⟨v,rfl,h⟩:=fA d;cases eW h;refine .inl ⟨_,rfl,by rw[oH];exact i,?_⟩;exact Post.val b c (wQ _)
  .exact b.elim
 .split at b
  .rename_i ds e;obtain⟨v,rfl,h⟩:=fA d;obtain⟨a,us,rfl,j,l⟩:=vN c e h;refine .inr ⟨a,us,rfl,j,?_⟩;rw[l.length];exact Post.val b c (wQ _)
  .exact b.elim
 .exact b.elim
def Aw:CallR X (.builtin "len") (λxs H Q=>(∃z,xs=[.str z]/\z.length<=sizeLine/\Q (.int z.length) H)\/ ∃p ys,xs=[.ref p]/\(SqL X.K H p ys\/SqT X.K H p ys)/\Q (.int ys.length) H):=LA.or KZ
def iO:List MV->Option (List Bool)
 |[]=>some []
 |.bl b::r=>(iO r).map (b::·)
 |_::_=>none
theorem BL{K:U0}{α:K0}{H:Hp}: ∀{ds:X1}{bs:O0}{vs:List V},iO ds=some bs->DenL K α H ds vs->vs=bs.map V.bl
 |[],_,_,e,l=>by cases e;exact l.isnil
 |d::r,bs,_,e,l=>by
  cases d with
  |bl b=>
   unfold iO at e
   cases z:iO r with
   |none=>rw[z]at e;cases e
   |some cs=>
    rw[z]at e;cases e;obtain⟨v,us,rfl,a,c⟩:=l.uncons;rw[mU a,BL z c];rfl
  |_=>cases e
def SX:List Er->Sto->R Er
 |[r],S=>match (kI S r).bind iO with |some bs=>.ok (.val (.bl (bs.all id))) S|none=>.no
 |_,_=>.no
def SY:List Er->Sto->R Er
 |[r],S=>match (kI S r).bind iO with |some bs=>.ok (.val (.bl (bs.any id))) S|none=>.no
 |_,_=>.no
def Xf(i:X.calm=true):eY X W (λxs H Q=> ∃(a:Addr)(bs:O0),xs=[.ref a]/\SqL X.K H a (bs.map V.bl)/\X.calm=true/\Q (.bl (bs.all id)) H) SX:=by
 intro rs vs α S H Q c d b;unfold SX at b;split at b
 .split at b
  .rename_i bs e;obtain⟨v,rfl,h⟩:=fA d
   cases z:kI S _ with
   |none=>rw[z]at e;cases e
   |some ds=>
    rw[z]at e;obtain⟨j,us,rfl,s,l⟩:=pU rfl c z h;refine⟨j,bs,rfl,?_,i,Post.val b c (wC _)⟩;rw[<-BL e l];exact s
  .exact b.elim
 .exact b.elim
def LN(S:Sto):Er->Option String
 |.val .non=>some "NoneType"
 |.val (.bl _)=>some "bool"
 |.val (.int _)=>some "int"
 |.val (.str _)=>some "str"
 |.val (.tup _)=>some "tuple"
 |.val (.typ _)=>none
 |.val (.obj _ _ _)=>none
 |r=>(kI S r).map λ_=>"list"
def Nu(t T:String):Bool:=t==T || (t=="bool"&&T=="int")
def known(T:String):Bool:=T=="int" || T=="bool" || T=="str" || T=="tuple" || T=="list"
def IF:List Er->Sto->R Er
 |[r,.val (.typ T)],S=>match LN S r with
  |some t=>if known T=true then .ok (.val (.bl (Nu t T))) S else .no
  |none=>.no
 |_,_=>.no
theorem eP(K:U0){t T:String}(c:t="NoneType"\/t="bool"\/t="int"\/t="str"\/t="tuple"\/t="list")(b:known T=true):PySem.W.kitOne K (.type t) (.type T)=some (Nu t T):=by
 have a:T="int"\/T="bool"\/T="str"\/T="tuple"\/T="list":=by
  unfold known at b;simp only[ĝ,beq_iff_eq]at b;rcases b with(((h|h)|h)|h)|h
  .exact .inl h
  .exact .inr (.inl h)
  .exact .inr (.inr (.inl h))
  .exact .inr (.inr (.inr (.inl h)))
  .exact .inr (.inr (.inr (.inr h)))
 rcases c with rfl|rfl|rfl|rfl|rfl|rfl<;>rcases a with rfl|rfl|rfl|rfl|rfl<;>kernel_rfl
def Gc:CallR X (.builtin "isinstance") (λxs H Q=> ∃α S r x t T,xs=[x,.ty T]/\Wd X.g α S H/\DenX X.K α H r x/\LN S r=some t/\known T=true/\Q (.bl (Nu t T)) H):=by
 intro pins s σ H xs us Q I m h;obtain⟨α,S,r,x,t,T,rfl,v,d,b,e,q⟩:=h;obtain⟨u,w,rfl,i,p⟩:=vals2 m;cases p;have c: ∀tk,EP X pins σ Q _ {s with toks:=tk}:=λtk=>⟨.bl _,H,I.tok _,rfl,q⟩
 unfold LN at b;split at b
 .cases b;cases oK d;cases i;exact PySem.W.kia_one PySem.W.kitx_none I.kIn True.intro (eP X.K (.inl rfl) e) (λz=>nomatch z) c
 .cases b;cases qU d;cases i;exact PySem.W.kia_one PySem.W.kitx_bool I.kIn True.intro (eP X.K (.inr (.inl rfl)) e) (λz=>nomatch z) c
 .cases b;cases kG d;obtain⟨t,rfl⟩:=i;exact PySem.W.kia_one PySem.W.kitx_int I.kIn True.intro (eP X.K (.inr (.inr (.inl rfl))) e) (λz=>nomatch z) c
 .cases b;cases eW d;obtain⟨t,rfl⟩:=i;exact PySem.W.kia_one PySem.W.kitx_str I.kIn True.intro (eP X.K (.inr (.inr (.inr (.inl rfl)))) e) (λz=>nomatch z) c
 .cases b;obtain⟨a,vs,rfl,k,l⟩:=cR d;cases i;obtain⟨its,n,p1,_⟩:=I.tuple k;obtain⟨o,h1,j,_⟩:=p1;exact PySem.W.kia_one PySem.W.kitx_tuple I.kIn ⟨o,h1,j⟩ (eP X.K (.inr (.inr (.inr (.inr (.inl rfl))))) e) (λz=>nomatch z) c
 .cases b
 .cases b
 .cases z:kI S r with
  |none=>rw[z]at b;cases b
  |some ds=>
   rw[z]at b;cases b;obtain⟨a,vs,rfl,k,l⟩:=pU rfl v z d;cases i;obtain⟨its,n,p1,_⟩:=I.list k;obtain⟨o,h1,j,_⟩:=p1.isList;exact PySem.W.kia_one PySem.W.kitx_list I.kIn ⟨o,h1,j⟩ (eP X.K (.inr (.inr (.inr (.inr (.inr rfl))))) e) (λz=>nomatch z) c
def Xg:eY X W (λxs H Q=> ∃α S r x t T,xs=[x,.ty T]/\Wd X.g α S H/\DenX X.K α H r x/\LN S r=some t/\known T=true/\Q (.bl (Nu t T)) H) IF:=by
 intro rs vs α S H Q b d a;unfold IF at a;split at a
 .split at a
  .rename_i t c;split at a
   .rename_i e;obtain⟨v,u,rfl,h,i⟩:=O1 d;cases Ex i;exact⟨α,S,_,v,t,_,rfl,b,h,c,e,Post.val a b (wC _)⟩
   .exact a.elim
  .exact a.elim
 .exact a.elim
def lP:List Er->Sto->R Er
 |[.val (.tup ds)],S=>.ok (.val (.tup ds)) S
 |[r],S=>match kI S r with |some ds=>.ok (.val (.tup ds)) S|none=>.no
 |_,_=>.no
def Gd:eY X W (λxs H Q=> ∃p ys,xs=[.ref p]/\((SqL X.K H p ys/\ ∀l,H l=none->Q (.ref l) (xG H l (.tup ys)))\/(SqT X.K H p ys/\Q (.ref p) H))) lP:=by
 intro rs vs α S H Q h d b;unfold lP at b;split at b
 .obtain⟨v,rfl,i⟩:=fA d;obtain⟨a,us,rfl,c,l⟩:=cR i;exact⟨a,us,rfl,.inr ⟨c,Post.val b h (oI c l)⟩⟩
 .split at b
  .rename_i ds e;obtain⟨v,rfl,i⟩:=fA d;obtain⟨a,us,rfl,c,l⟩:=pU rfl h e i;exact⟨a,us,rfl,.inl ⟨c,λp j=>Post.newt b h j l⟩⟩
  .exact b.elim
 .exact b.elim
def PB:List Er->Sto->R Er
 |[r],S=>match itemsOf S r with |some ds=>.ok (.new ds) S|none=>.no
 |_,_=>.no
def Nv:eY X W (λxs H Q=> ∃p ys,xs=[.ref p]/\(SqL X.K H p ys\/SqT X.K H p ys)/\ ∀l,H l=none->Q (.ref l) (xG H l (.lst ys))) PB:=by
 intro rs vs α S H Q c d b;unfold PB at b;split at b
 .split at b
  .rename_i ds e;obtain⟨v,rfl,h⟩:=fA d;obtain⟨a,us,rfl,i,l⟩:=vN c e h;exact⟨a,us,rfl,i,λp j=>Post.newl b c j l⟩
  .exact b.elim
 .exact b.elim
def SZ:bootBuiltins "len"=some (.builtin "len"):=by decide+kernel
def Xh:bootBuiltins "all"=some (.builtin "all"):=by decide+kernel
def Xi:bootBuiltins "any"=some (.builtin "any"):=by decide+kernel
def IG:bootBuiltins "isinstance"=some (.builtin "isinstance"):=by decide+kernel
def Xj:bootBuiltins "int"=some (.type "int"):=by decide+kernel
def Nx:bootBuiltins "bool"=some (.type "bool"):=by decide+kernel
def EZ:bootBuiltins "tuple"=some (.type "tuple"):=by decide+kernel
def WR:bootBuiltins "list"=some (.type "list"):=by decide+kernel
end
section
variable{X:Cx}{W:XW}{a e o:Expr}{es:R0}{f g h:AX}{af:Rho->Sto->R (List Er)}{pos apos:Pos}
def wF(p:Er)(S:Sto):Bool:=(kI S p).isSome
def TB:TyM X "list" wF:=by
 intro p x α S H b d h;unfold wF at h
 cases z:kI S p with
 |none=>rw[z]at h;cases h
 |some ds=>
  obtain⟨a,vs,rfl,s,l⟩:=pU rfl b z d;exact .inl ⟨rfl,vs,s⟩
def strIdx(x y:Tk):Option Nat:=(Builtin.Str.occurrences (qE x) (qE y) 0 (qE x).length 1).head?
def BM(p:Er)(S:Sto)(G:List MV->Option (List MV)):R Er:=match p with
 |.val (.loc l)=>match S[l]? with
  |some (.lst ds)=>match G ds with
   |some es=>.ok (.val .non) (S.set l (.lst es))
   |none=>.no
  |_=>.no
 |_=>.no
def BN{c:K0}{p:Er}{x:V}{G:List MV->Option (List MV)}{Q:VK}(d:Wd X.g α S H)(j:Ext c H0 α H)(n:DenX X.K α H p x)(b:Post X.g W c H0 (BM p S G) Q):
  ∃a vs ds es,x=.ref a/\H a=some (.lst vs)/\DenL X.K α H ds vs/\G ds=some es/\ ∀us,DenL X.K α H es us->Q .non (xG H a (.lst us)):=by
 unfold BM at b;split at b
 .rename_i l;obtain⟨a,rfl,h⟩:=lO n;obtain⟨ob,h1,r⟩:=d.of h;rw[h1]at b
  cases ob with
  |lst ds=>
   obtain⟨vs,e,m⟩:=r;have b:Post X.g W c H0 (match G ds with |some es=>R.ok _ _|none=>R.no) Q:=b;split at b
   .rename_i es k;refine⟨a,vs,ds,es,rfl,e,m,k,λus q=>?_⟩;have i:=d.writex h (C4 e) (o:=.lst us);exact(b.shift (j.trans i)).val (d.write h (C4 e) ⟨us,zV,q.ext i⟩) DY
   .exact b.elim
  |dic _=>exact b.elim
  |ins _ _=>exact b.elim
  |rcd _ _=>exact b.elim
  |fdc _=>exact b.elim
 .exact b.elim
def fD:Er->List Er->Sto->R Er
 |p,[r],S=>(kH r S).bind λy S1=>BM p S1 λds=>if ds.length<sizeLine then some (ds++[y])else none
 |_,_,_=>.no
def Ax:An X W VZ fD:=by
 intro p rs x vs α S H0 H Q e q o z h b
 match rs,h,b with
 |[],_,b=>exact b.elim
 |_::_::_,_,b=>exact b.elim
 |[r],h,b=>
  cases h with
  |cons d n l=>
   cases l;obtain⟨C,S',α',w,u,s,v,B⟩:=eO q o d;have b:Post X.g W e H0 ((kH r S).bind λy S1=>BM p S1 λds=>if ds.length<sizeLine then some _ else none) Q:=b;rw[w]at b
   have i:DenX X.K α' H p x:=by
    cases p with
    |val m=>exact Den.ex0 s z
    |new ds=>exact b.elim
   obtain⟨a,us,ds,es,rfl,h1,j,c,k⟩:=BN v u i b;split at c
   .rename_i A;cases c;exact⟨a,us,_,rfl,rfl,h1,by rw[j.length];exact A,k _ (j.append (zW B yE))⟩
   .cases c
def Ay(c:zM X W a f)(b:HQ X W (e::es) af)
  (hbase:attributeBase a "append" X.env (eval a X.env)=eval a X.env:=by rfl)
  (hfew:((backTo pos (starEach (e::es) X.env)).all (λx=>!x.1)&&(backToKw pos (keywordEach [] X.env)).all (λx=>x.1.isSome)
   &&decide ((e::es).length+([]:List Keyword).length+(if([]:List Keyword).isEmpty then 0 else 1)<30))=true:=by rfl)
  (hline:(apos.endLine==pos.line)=true:=by rfl) (hs:q9 X e es:=by rfl) (hplain:Q2 X pos es:=by rfl):
  zM X W (.Call (.Attribute a "append" apos) (e::es) [] pos) (λρ S=>(f ρ S).bind λp S1=>if wF p S1=true then(af ρ S1).bind λrs S2=>fD p rs S2 else .no):=
 LG PySem.F.plainAttrs_list PySem.F.slot_list_append PySem.F.type_list_append Ad Ax TB c b hbase hfew hline hs hplain
end
def _root_.L2.Inv.turnedL{X:Cx}{pins:N0}{s:Ņ}{h':Heap}{t':Nat}{fp:K0}(I:Inv X pins σ H s)(k: ∀b o,b∉fp->s.heap.get? b=some o->h'.get? b=some o)
  (hf: ∀b∈fp,vB X pins H b):Inv X pins σ H {s with heap:=h',toks:=t'}:=by
 have d: ∀b u,H b=some u->b∉fp:=λb u e z=>by rw[(hf b z).1]at e;cases e
 refine I.step (λb h=>⟨(hf b h).2.2.2.1,(hf b h).2.1,(hf b h).2.2.2.2.1,(hf b h).2.2.2.2.2⟩) (λb o _ _ a e _=>k b o a e) (λb o _ _ a e _=>⟨_,k b o a e⟩) (λ_ _ _ _ n=>n)
  (λb o a e=>⟨o,k b o a e⟩) (λ_ _ e=>e) (λ_ _ _ e=>e) (λb ps e=>⟨#[],by rw[e];simp⟩) (λm i=>?_) (λb u e=>?_) I.bare
 .obtain⟨o,es,ep,j,r⟩:=i;exact⟨o,es,ep,k _ o (λz=>(hf _ z).2.1 rfl) j,r⟩
 .refine(I.hok b u e).stay (λc v a q=>k c v ?_ q) (λ_ q=>q) λ_ _ q=>q;rcases a with z|z
  .rw[z];exact d b u e
  .exact d c _ z
def IsSub(k:Bool)(h:Heap)(it l:Addr)(i:Nat):Prop:=if k=true then h.IsListIter it l i else h.IsTupleIter it l i
def DB(k:Bool)(h:Heap)(l:Addr)(its:B9):Prop:=if k=true then h.IsList l its else h.IsTuple l its
def FA(k:Bool)(l:Addr):Obj:={cls:=.type (if k=true then "list_iterator" else "tuple_iterator"),data:=.fields #[.ref l,.int 0 0]}
def IsSub.mk'{k:Bool}{h:Heap}{it l:Addr}(e:h.get? it=some (FA k l)):IsSub k h it l 0:=by
 cases k with
 |true=>exact⟨_,e,rfl,rfl⟩
 |false=>exact⟨_,e,rfl,rfl⟩
def IsSub.there{k:Bool}{h:Heap}{it l:Addr}{i:Nat}(x:IsSub k h it l i): ∃o,h.get? it=some o/\ ∀v,o.data≠.cell v:=by
 cases k with
 |true=>obtain⟨o,e,_,d⟩:=(x:h.IsListIter it l i);exact⟨o,e,λv z=>by rw[d]at z;cases z⟩
 |false=>obtain⟨o,e,_,d⟩:=(x:h.IsTupleIter it l i);exact⟨o,e,λv z=>by rw[d]at z;cases z⟩
def IsSub.move{k:Bool}{h h':Heap}{it l:Addr}{i:Nat}(x:IsSub k h it l i)(f: ∀o,h.get? it=some o->h'.get? it=some o):IsSub k h' it l i:=by
 cases k with
 |true=>obtain⟨o,e,r⟩:=(x:h.IsListIter it l i);exact⟨o,f o e,r⟩
 |false=>obtain⟨o,e,r⟩:=(x:h.IsTupleIter it l i);exact⟨o,f o e,r⟩
section
variable{prog:ň}{w:World}{A:Ň}{E:VP}{s:Ņ}
def FB{k:Bool}{l:Addr}(a:DB k s.heap l its)(h:Q (.ref s.heap.objs.size) {s with heap:=s.heap.push (FA k l)}):wpAny (model prog w) A (pyIter (.ref l)) Q E s:=by
 cases k with
 |true=>exact wpAny_pyIter_list a h
 |false=>exact wpAny_pyIter_tuple a h
def Ge{k:Bool}{it l:Addr}{i:Nat}{x:ņ}(b:IsSub k s.heap it l i)(m:DB k s.heap l its)(j:its[i]? =some x)
  (hQ: ∀h',IsSub k h' it l (i+1)->Heap.SameBut it s.heap h'->Q x {s with heap:=h'}):wpAny (model prog w) A (Builtin.SmallTypes.nextOf (.ref it)) Q E s:=by
 cases k with
 |true=>exact wpAny_nextOf_list_item b m j hQ
 |false=>
  have a:=b;obtain⟨o,d,n,c⟩:=id a;obtain⟨q,h,_,p,e⟩:=(m:s.heap.IsTuple l its)
  refine wB (ć a.typeIs Ī (ø Ī a.typeIs F.entry_tuple_iterator_next ?_ (F.args_tuple_iterator_next_1 _)));show wpAny _ _ (field _ 0 >>= _) _ _ s;refine wB (Ĕ d c rfl ?_);show wpAny _ _ _ _ _ s;show wpAny _ _ _ _ _ s;refine wB (Ĕ d c rfl ?_);show wpAny _ _ _ _ _ s;refine wB (wpAny_seqItems h e ?_);simp only[Ġ,j];refine wB (wpAny_setField d c (by simp) (wP ⟨x,rfl,wP (hQ _ ?_ (Ķ ..))⟩));exact⟨_,Heap.get?_update_self _ d (Obj.isFreed_of_fields (Obj.data_mapFields c _)),(Obj.cls_mapFields ..).trans n,by rw[Obj.data_mapFields c];simp[rawInt]⟩
def Ny{k:Bool}{it l:Addr}{i:Nat}(m:A.handled=none)(b:IsSub k s.heap it l i)(p:DB k s.heap l its)(n:its[i]? =none)
  (hE: ∀h' e,Heap.ExtBut it s.heap h'->(∃o,h'.get? e=some o/\o.cls=.type "StopIteration")->E (.ref e) {s with heap:=h'}):wpAny (model prog w) A (Builtin.SmallTypes.nextOf (.ref it)) Q E s:=by
 cases k with
 |true=>exact wpAny_nextOf_list_end m b p n hE
 |false=>
  have a:s.heap.IsTupleIter it l i:=b;obtain⟨o,c,r,h⟩:=id a;obtain⟨u,j,_,q,d⟩:=(p:s.heap.IsTuple l its)
  unfold Builtin.SmallTypes.nextOf;refine wB (ć a.typeIs Ī (ø Ī a.typeIs F.entry_tuple_iterator_next ?_ (F.args_tuple_iterator_next_1 _)));show wpAny _ _ (field (.ref it) 0 >>= _) _ _ s;refine wB (Ĕ c h (x:=.ref l) rfl ?_);show wpAny _ _ _ _ _ s;rw[iN (show¬((Value.ref l==Value.none)=true)from xF0)];show wpAny _ _ _ _ _ s;refine wB (Ĕ c h rfl ?_);show wpAny _ _ _ _ _ s;refine wB (wpAny_seqItems j d ?_);simp only[Ġ,n];refine wB (Ĭ (wB (wpAny_setField c h (by simp) ?_)));show wpAny _ _ _ _ _ _;refine wB ?_;simp only[newExc,newTuple];refine wB (Ċ ?_ (by size_fits));refine wB (wpAny_of_eq (by first |rfl|(simp only[firstArgMember];rfl)) ?_);refine Ċ ?_ (by size_fits);simp only[raiseNew];refine wB (wpAny_handled ?_)
  first |rw[show A.in1.handled=none from m]|rw[m]
  refine wB (wP (wpAny_throw ?_));exact hE _ _ (((Ķ ..).extBut.push _).push _) ⟨_,ä _ rfl,rfl⟩
end
def Ss(k:Bool)(K:U0)(H:Hp)(a:Addr)(xs:List V):Prop:=if k=true then SqL K H a xs else SqT K H a xs
section
variable{X:Cx}{pins:N0}{σ:St}{H:Hp}{s:Ņ}
def _root_.L2.Inv.seqK(I:Inv X pins σ H s){k:Bool}{a:Addr}(h:Ss k X.K H a xs): ∃its:List ņ,Vals xs its/\DB k s.heap a its.toArray/\xs.length<=sizeLine:=by
 cases k with
 |true=>obtain⟨its,r,p,z⟩:=I.list h;exact⟨its,r,p.isList,z⟩
 |false=>obtain⟨its,r,p,z⟩:=I.tuple h;exact⟨its,r,p,z⟩
def _root_.L2.Inv.seqK_inj(I:Inv X pins σ H s){k:Bool}{a:Addr}{ys:List V}(h:Ss k X.K H a xs)(h':Ss k X.K H a ys):xs=ys:=by
 cases k with
 |true=>exact I.list_inj h h'
 |false=>exact I.tuple_inj h h'
end
structure Sr where
 k:Bool
 ds:List MV
 gs:List (Nat×List MV)
def srcOf(S:Sto):Er->Option Sr
 |.val (.tup ds)=>some ⟨false,ds,[]⟩
 |.new ds=>some ⟨true,ds,[]⟩
 |.val (.scr ds)=>some ⟨true,ds,[]⟩
 |.val (.loc l)=>match S[l]? with
  |some (.lst ds)=>some ⟨true,ds,[(l,ds)]⟩
  |_=>none
 |_=>none
structure SrcD(X:Cx)(q:Sr)(l:Addr)(P:List Addr->Sto->Hp->Prop):Prop where
 get: ∀α S H,P α S H-> ∃vs,Ss q.k X.K H l vs/\DenL X.K α H q.ds vs
 stays: ∀α1 S1 H1 α2 S2 H2,P α1 S1 H1->Ext α1 H1 α2 H2->Wd X.g α2 S2 H2->stay q.gs S2->P α2 S2 H2
 st: ∀α S H,P α S H->stay q.gs S
def Xk{X:Cx}(y:Wd X.g α S H){r:Er}{x:V}{q:Sr}(e:srcOf S r=some q)(d:DenX X.K α H r x): ∃l P,x=.ref l/\P α S H/\SrcD X q l P:=by
 unfold srcOf at e;split at e
 .rename_i ds;cases e;obtain⟨a,vs,rfl,s,l⟩:=cR d;exact⟨a,λα S H=> ∃vs,_,rfl,⟨vs,s,l⟩,λα S H h=>h,λi S1 H1 j S2 m ⟨vs,h1,c⟩ x w _=>⟨vs,x.sqT h1,c.ext x⟩,λ_ _ _ _=>gA⟩
 .rename_i ds;cases e;obtain⟨b,vs,rfl,h,n,l⟩:=d
  exact⟨b,λα S H=> ∃vs,H b=some (.lst vs)/\b∉α/\DenL X.K α H ds vs,rfl,⟨vs,h,n,l⟩,λα S H ⟨vs,h1,_,c⟩=>⟨vs,(SqL.of h1:SqL X.K H b vs),c⟩,
   λi S1 H1 j S2 m ⟨vs,h1,c,C⟩ x w _=>⟨vs,x.keep b _ h1 c,x.out h1 c,C.ext x⟩,λ_ _ _ _=>gA⟩
 .rename_i ds;cases e;obtain⟨a,vs,rfl,s,l⟩:=EU d;exact⟨a,λα S H=> ∃vs,SqF X.K H a vs/\DenL X.K α H ds vs,rfl,⟨vs,s,l⟩,λα S H ⟨vs,h1,c⟩=>⟨vs,h1.l,c⟩,λi S1 H1 j S2 m ⟨vs,h1,c⟩ x w _=>⟨vs,x.sqF h1,c.ext x⟩,λ_ _ _ _=>gA⟩
 .rename_i n;split at e
  .rename_i ds o;cases e;obtain⟨a,rfl,h⟩:=lO d;obtain⟨vs,h1,c⟩:=y.obj n a _ h o;refine⟨a,λα S H=> ∃vs,H a=some (.lst vs)/\DenL X.K α H ds vs/\α[n]? =some a/\S[n]? =some _,rfl,⟨vs,h1,c,h,o⟩,λα S H ⟨vs,h1,c,_⟩=>⟨vs,(SqL.of h1:SqL X.K H a vs),c⟩,?_,?_⟩
   .intro i S1 H1 j S2 m ⟨vs,E,D,u,v⟩ x w hs;have k:=hs (n,ds) (by simp);obtain⟨us,A,z⟩:=w.obj n a _ (x.at u) k;exact⟨us,A,z,x.at u,k⟩
   .intro α S H ⟨vs,_,_,_,v⟩ p B;have:=by simpa using B
    subst this;exact v
  .cases e
 .cases e
def Nz:bootBuiltins "enumerate"=some (.type "enumerate"):=by decide+kernel
def pairs(xs ys:X1):List MV:=List.zipWith (λx y=>.tup [x,y]) xs ys
structure EnSt(k:Bool)(e it l:Addr)(i:Nat)(h:Heap):Prop where
 e: ∃old,IsEnum h e it i old
 s:IsSub k h it l i
section
variable{prog:ň}{w:World}{A:Ň}{E:VP}{s:Ņ}{k:Bool}{e it l:Addr}{i:Nat}{its:B9}
def Oa{x c:ņ}(Z:IsEnum s.heap e it i c)(M:IsSub k s.heap it l i)(hl:DB k s.heap l its)(hx:its[i]? =some x)(r:e≠it)
  (hQ: ∀h',IsEnumOut h' e it ((i:Int)+1) x s.heap.objs.size->IsSub k h' it l (i+1)->h'.get? s.heap.objs.size=some {cls:=.type "tuple",data:=.seq #[.int i s.toks,x]}->
   (∀b o,b≠e->b≠it->s.heap.get? b=some o->h'.get? b=some o)->Q (.ref s.heap.objs.size) {s with heap:=h',toks:=s.toks+1}):
  wpAny (model prog w) A (Builtin.«enumerate.__next__» ⟨[.ref e],[]⟩) (λW s'=> ∃v,W=.done (.ret v)/\Q v s') E s:=by
 obtain⟨B,g,d,tk,u⟩:=s;show wpAny _ _ (field (.ref e) 2 >>= _) _ _ _;refine wB (Ĕ Z rfl rfl (wB (Ge M hl hx λD P a=>?_)))
 replace a:Heap.SameBut it B D:=a
 have T:IsEnum D e it i c:=(a.2 e r).trans Z;show wpAny _ _ _ _ _ ⟨D,g,d,tk,u⟩;refine wB (Ĕ T rfl rfl ?_);show wpAny _ _ _ _ _ ⟨D,g,d,tk,u⟩;refine wB (Ĕ T rfl rfl ?_);show wpAny _ _ (mkInt i >>= _) _ _ ⟨D,g,d,tk,u⟩;refine wB (wpAny_mkInt ?_);show wpAny _ _ _ _ _ ⟨D,g,d,_,u⟩;refine wB (ľ T (by simp) λJ O j=>?_)
 replace j:Heap.SameBut e D J:=j
 replace O:IsEnum J e it ((i:Int)+1) c:=O
 show wpAny _ _ _ _ _ ⟨J,g,d,_,u⟩;refine wB (ľ O (by simp) λm U h=>?_)
 replace h:Heap.SameBut e J m:=h
 replace U:IsEnum m e it ((i:Int)+1) c:=U
 show wpAny _ _ _ _ _ ⟨m,g,d,_,u⟩;refine wB (wpAny_newTuple ?_);have G:m.objs.size=B.objs.size:=by rw[h.1,j.1,a.1]
 have S:e<B.objs.size:=â Z;have I:IsEnum (m.push {cls:=.type "tuple",data:=.seq #[.int i tk,x]}) e it ((i:Int)+1) c:=hP0 _ U;have td:(m.push {cls:=.type "tuple",data:=.seq #[.int i tk,x]}).get? B.objs.size=some {cls:=.type "tuple",data:=.seq #[.int i tk,x]}:=by rw[<-G];exact ä _ rfl
 have kd: ∀b o,b≠e->b≠it->B.get? b=some o->(m.push {cls:=.type "tuple",data:=.seq #[.int i tk,x]}).get? b=some o:=λb o H X q=>
  hP0 _ (h.extBut b o H (j.extBut b o H (a.extBut b o X q)))
 have sd:IsSub k (m.push {cls:=.type "tuple",data:=.seq #[.int i tk,x]}) it l (i+1):=P.move λo q=>hP0 _ (h.extBut _ o (Ne.symm r) (j.extBut _ o (Ne.symm r) q));generalize m.push {cls:=.type "tuple",data:=.seq #[.int i tk,x]}=hd at I td kd sd ⊢;show wpAny _ _ _ _ _ ⟨hd,g,d,_,u⟩;rw[G];refine wB ?_;unfold Builtin.SmallTypes.ownedTupleIsFree;refine wB (Ĕ I rfl rfl (wP ?_));simp only[if_true];refine wB (Ĭ (wB (Ĕ I rfl rfl (wB (ľ I (by simp) λK ef F=>?_)))))
 replace F:Heap.SameBut e hd K:=F
 replace ef:IsEnum K e it ((i:Int)+1) x:=ef
 show wpAny _ _ _ _ _ ⟨K,g,d,_,u⟩;refine wB ?_;unfold Builtin.SmallTypes.ownedTupleHandOut;refine wB (ľ ef (by simp) λz N y=>?_)
 replace y:Heap.SameBut e K z:=y
 replace N:IsEnumOut z e it ((i:Int)+1) x B.objs.size:=N
 refine ľ N (by simp) λp Y C=>?_
 replace C:Heap.SameBut e z p:=C
 replace Y:IsEnumOut p e it ((i:Int)+1) x B.objs.size:=Y
 have L: ∀b o,b≠e->hd.get? b=some o->p.get? b=some o:=λb o n q=>C.extBut b o n (y.extBut b o n (F.extBut b o n q));exact wB (wpAny_letGo (wP ⟨_,rfl,hQ p Y (sd.move λo q=>L _ o (Ne.symm r) q) (L _ _ (Ē S) td) λb o H X q=>L b o H (kd b o H X q)⟩))
def TC(k:Bool)(l:Addr)(its:B9):
  Meets (Builtin.«enumerate.__new__» ⟨[.type "enumerate",.ref l],[]⟩) (λ_ R s=>DB k s.heap l its/\
   R (.ok (.ret (.ref (s.heap.objs.size+1)))) {s with heap:=(s.heap.push (FA k l)).push {cls:=.type "enumerate",data:=.fields #[.none,.bool false,.ref s.heap.objs.size,rawInt 0,.none,.none]}}):=
 .of_wp λprog w A R s h=>by
  obtain⟨m,g,d,tk,j⟩:=s;obtain⟨i,h⟩:=h;have e:=sub_enumerate;have a:DB k _ l its:=i;have b: ∀(h:Heap)(o:Obj),(h.push o).objs.size=h.objs.size+1:=λh o=>ė ..
  wp_walk
  refine wpAny_stack_any λst=>wP ?_;split
  .rename_i c _ _ _ _ _;cases (c==Value.type "enumerate")
   .wp_walk using FB a
    exact⟨_,rfl,by simp only[b];exact h⟩
   .wp_walk using FB a
    exact⟨_,rfl,by simp only[b];exact h⟩
  .wp_walk using FB a
   exact⟨_,rfl,by simp only[b];exact h⟩
end
def JL(K:U0)(F:List MV->Sto->R Er):Sp:=λvs H Q _=> ∃ds,DenL K [] H ds vs/\ds.length=1/\ ∀g:Gm,g.K=K->Post g W0 [] H (F ds []) Q
def Gf{g:Gm}{F:List MV->Sto->R Er}: ∀vs H Q E,JL g.K F vs H Q E->IB g 1 F vs H Q E:=λvs H Q E ⟨ds,l,b,q⟩=>⟨[],[],ds,⟨rfl,by simp,λl a o h=>by simp at h⟩,l,b,q g rfl⟩
def Xl{K:U0}{a:Addr}(b:El H)(h:SqL K H a xs):SqF K H a xs:=by
 rcases h with(h|⟨o,h⟩)|h
 .rcases b a with z|⟨o,ys,z⟩
  .rw[z]at h;cases h
  .rw[z]at h;cases h
 .exact .inl ⟨o,h⟩
 .exact .inr h
def Gg{K:U0}{F:List MV->Sto->R Er}{a:Addr}{b:A0}(c:El H)(e:SqL K H a (b.map V.int))(h: ∃S,F [.scr (b.map MV.int)] []=.ok (.val (.bl true)) S):JL K F [.ref a] H (λv _=>v=.bl true) λ_ _ _=>False:=by obtain⟨S,h⟩:=h;refine⟨_,zW (WD (Xl c e) (mV b)) yE,rfl,λg _=>?_⟩;rw[h];exact λv α' H' x w d=>qU d.1
theorem gC(b:β)(S:Sto)(k:β->Sto->R γ):(R.ok b S).bind k=k b S:=by have h:=R.bind_ok b S k;exact Eq.trans h rfl
theorem Ob(d:MV)(S:Sto):Mh (some (some d)) S=.ok (.val d) S:=rfl
theorem FC:WJ S (S++T):=⟨by rw[lA];lia,λl a=>.inl (ë a)⟩
def bE(n:Nat)(i:Int):lo n (.int i):=by unfold lo;trivial
def qY(n:Nat)(i:Tk):lo n (.str i):=by unfold lo;trivial
def PC(n:Nat)(i:Bool):lo n (.bl i):=by unfold lo;trivial
def wG{n:Nat}{ds:X1}(h:uE n ds):lo n (.tup ds):=by unfold lo;exact h
theorem yY{n:Nat}: ∀{ds:X1},(∀d∈ds,lo n d)->uE n ds
 |[],_=>by unfold uE;trivial
 |d::ds,h=>by unfold uE;exact⟨h d mF0,yY λe a=>h e (mO _ a)⟩
def Gh{d:MV}(h:lo S.length d)(a: ∀l,d≠.loc l):bN S (.val d) (S++T)=.ok (.val d) S:=by
 unfold bN;rw[iP FC];have e:(S++T).take S.length=S:=by simp
 cases d with
 |loc l=>exact absurd rfl (a l)
 |_=>dsimp only;rw[iP h,e]
def Gi{ds:X1}(h:uE S.length ds):bN S (.new ds) (S++T)=.ok (.new ds) S:=by
 unfold bN;rw[iP FC];have e:(S++T).take S.length=S:=by simp
 dsimp only;rw[iP h,e]
theorem Gj{l:Nat}{ds:X1}(b:S.length<=l)(a:(S++T)[l]? =some (.lst ds))(h:uE S.length ds):bN S (.val (.loc l)) (S++T)=.ok (.new ds) S:=by
 unfold bN;rw[iP FC];have e:(S++T).take S.length=S:=by simp
 dsimp only;rw[iN #[0],a];dsimp only;rw[iP h,e]
def xE{n:Nat}{F:List MV->Sto->R Er}{d:MV}(c:rs.length=n)(b:F (zP rs S).1 (zP rs S).2=.ok (.val d) (S++T))(h:lo S.length d)(a: ∀l,d≠.loc l):zK n F rs S=.ok (.val d) S:=by unfold zK;rw[iP c,b];exact Gh h a
def nB{n:Nat}{F:List MV->Sto->R Er}{ds:X1}(a:rs.length=n)(b:F (zP rs S).1 (zP rs S).2=.ok (.new ds) (S++T))(h:uE S.length ds):zK n F rs S=.ok (.new ds) S:=by unfold zK;rw[iP a,b];exact Gi h
def FD{n:Nat}{F:List MV->Sto->R Er}{l:Nat}{ds:X1}(b:rs.length=n)(c:F (zP rs S).1 (zP rs S).2=.ok (.val (.loc l)) (S++T))(d:S.length<=l)(a:(S++T)[l]? =some (.lst ds))(h:uE S.length ds):zK n F rs S=.ok (.new ds) S:=by unfold zK;rw[iP b,c];exact Gj d a h
def eQ{n:Nat}{F:List MV->Sto->R Er}{d:MV}(c:rs.length=n)(b:F (zP rs S).1 (zP rs S).2=.ok (.val d) S)(h:lo S.length d)(a: ∀l,d≠.loc l):zK n F rs S=.ok (.val d) S:=xE c (by rw[aN];exact b) h a
section
variable{S:Sto}
theorem O2(b:Bool)(S:Sto):cX (.val (.bl b)) S=.ok b S:=rfl
theorem as_int(i:Int)(S:Sto):C5 (.val (.int i)) S=.ok (some i) S:=rfl
theorem Xm(b:Bool)(S:Sto):qF (.val (.bl b)) S=.ok b S:=rfl
theorem add_int(i j:Int)(S:Sto):jC (.val (.int i)) (.val (.int j)) S=.ok (.val (.int (i+j))) S:=rfl
theorem sub_int(i j:Int)(S:Sto):Nh (.val (.int i)) (.val (.int j)) S=.ok (.val (.int (i - j))) S:=rfl
def add_str{x y:Tk}(h:x.length+y.length<=sizeLine):jC (.val (.str x)) (.val (.str y)) S=.ok (.val (.str (x++y))) S:=iP h
def Oc{x y:X1}(h:x.length+y.length<=sizeLine):jC (.val (.tup x)) (.val (.tup y)) S=.ok (.val (.tup (x++y))) S:=iP h
def Gk{p q:Er}{x y:X1}(h1:Nk S p=some x)(a:Nk S q=some y)(h:x.length+y.length<=sizeLine):jC p q S=.ok (.new (x++y)) S:=by
 have e:WL p q S=.ok (.new (x++y)) S:=by unfold WL;rw[h1,a];exact iP h
 unfold jC;split
 .cases h1
 .cases h1
 .cases h1
 .exact e
theorem Xn{g:Int->Int->Bool}(i j:Int)(S:Sto):M1 g (.val (.int i)) (.val (.int j)) S=.ok (.val (.bl (g i j))) S:=rfl
def Od(i j:Int):eqV (.int i) (.int j)=decide (i=j):=by
 show(i==j)=_;by_cases h:i=j
 .subst h;simp
 .rw[dF0 h];simpa using h
def Oe(x y:Tk):eqV (.str (qE x)) (.str (qE y))=decide (x=y):=by
 show(qE x==qE y)=_;by_cases h:x=y
 .subst h;simp
 .rw[dF0 h];have:=λz=>h (vD z);simpa using this
theorem vO(n:Nat)(i j:Int):eqv S (n+1) (.int i) (.int j)=some (decide (i=j)):=by rw[<-Od];rfl
theorem WS(n:Nat)(x y:Tk):eqv S (n+1) (.str x) (.str y)=some (decide (x=y)):=by rw[<-Oe];rfl
theorem Xo(n:Nat)(x:Int)(y:Tk):eqv S (n+1) (.int x) (.str y)=some false:=rfl
theorem Xp(n:Nat)(x:Tk)(y:Int):eqv S (n+1) (.str x) (.int y)=some false:=rfl
theorem Of(d f:MV):uF (.val d) (.val f) S=match eqv S (zI+1) d f with |some k=>.ok (.val (.bl k)) S|none=>.no:=rfl
theorem Og(d f:MV):OW (.val d) (.val f) S=match eqv S (zI+1) d f with |some k=>.ok (.val (.bl !k)) S|none=>.no:=rfl
def TD{d f:MV}{k:Bool}(h:eqv S (zI+1) d f=some k):uF (.val d) (.val f) S=.ok (.val (.bl k)) S:=by rw[Of,h]
def TF{d f:MV}{k:Bool}(h:eqv S (zI+1) d f=some k):OW (.val d) (.val f) S=.ok (.val (.bl !k)) S:=by rw[Og,h]
def eq_int(i j:Int)(S:Sto):uF (.val (.int i)) (.val (.int j)) S=.ok (.val (.bl (decide (i=j)))) S:=TD (vO _ i j)
def ne_int(i j:Int)(S:Sto):OW (.val (.int i)) (.val (.int j)) S=.ok (.val (.bl (!decide (i=j)))) S:=TF (vO _ i j)
theorem lt_int(i j:Int)(S:Sto):Fv (.val (.int i)) (.val (.int j)) S=.ok (.val (.bl (decide (i<j)))) S:=rfl
theorem lt_str(i j:Tk)(S:Sto):Fv (.val (.str i)) (.val (.str j)) S=.ok (.val (.bl (decide (i<j)))) S:=rfl
def mod_lit{b:Int}(h:0<b)(a:Int)(S:Sto):qH (.val (.int a)) (.val (.int b)) S=.ok (.val (.int (a % b))) S:=iP h
def WT{b:Int}(h: -(2 ^ 64)<b/\b<2 ^ 64)(a:Int)(S:Sto):tH (.val (.int a)) (.val (.int b)) S=.ok (.val (.int (a * b))) S:=iP (Or.inr (Or.inl h))
def Gn{a:Int}(h: -(2 ^ 64)<a/\a<2 ^ 64)(b:Int)(S:Sto):tH (.val (.int a)) (.val (.int b)) S=.ok (.val (.int (a * b))) S:=iP (Or.inl h)
def Oh{a b:Int}(h:Fp a b)(S:Sto):Ni (.val (.int a)) (.val (.int b)) S=.ok (.val (.int (a ^ b.toNat))) S:=iP h
theorem Oi(ρ:Rho)(i:Nat)(d:MV)(S:Sto):EW ρ i (.val d) S=.ok (.next (ρ.set i (some d))) S:=rfl
theorem Oj(ρ:Rho)(i:Nat)(ds:X1)(S:Sto):EW ρ i (.new ds) S=.ok (.next (ρ.set i (some (.loc S.length)))) (S++[.lst ds]):=rfl
theorem Ol(S:Sto):zP [] S=([],S):=rfl
theorem Om(d:MV)(rs:List Er)(S:Sto):zP (.val d::rs) S=(d::(zP rs S).1,(zP rs S).2):=rfl
theorem zG{F G:AY}{ρ':Rho}{S:Sto}(h:F ρ S=.ok (.next ρ') S'):zO F G ρ S=G ρ' S':=by unfold zO;rw[h];rfl
theorem gO{F G:AY}{S:Sto}{r:Er}(h:F ρ S=.ok (.ret r) S'):zO F G ρ S=.ok (.ret r) S':=by unfold zO;rw[h];rfl
def xM(S:Sto):stay [] S:=gA
def jE{b:AY}{gs:X4}{d:MV}{ds:X1}{ρ0 ρ':Rho}{S0:Sto}(a:gf d ρ S=.ok ρ0 S0)(h:b ρ0 S0=.ok (.next ρ') S')(hs:stay gs S'):gB gf b gs (d::ds) ρ S=gB gf b gs ds ρ' S':=by
 conv=>lhs;unfold gB
 rw[a,gC,h,gC];dsimp only;rw[iP hs]
def WU{b:AY}{gs:X4}{d:MV}{ds:X1}{ρ0:Rho}{S0:Sto}{r:Er}(a:gf d ρ S=.ok ρ0 S0)(h:b ρ0 S0=.ok (.ret r) S'):gB gf b gs (d::ds) ρ S=.ok (.ret r) S':=by
 conv=>lhs;unfold gB
 rw[a,gC,h,gC]
def TH{t:AZ}{b:AY}{n:Nat}{ρ':Rho}{S2:Sto}(h1:t ρ S=.ok true S1)(a:b ρ S1=.ok (.next ρ') S2):eZ t b (n+1) ρ S=eZ t b n ρ' S2:=by
 conv=>lhs;unfold eZ
 rw[h1,gC,iP rfl,a,gC]
def Az{t:AZ}{b:AY}{n:Nat}(h1:t ρ S=.ok false S1):eZ t b (n+1) ρ S=.ok (.next ρ) S1:=by
 conv=>lhs;unfold eZ
 rw[h1,gC,iN xF0]
theorem On{α:Type}{xs:List α}{i:Int}(a:0<=i)(h1:i<xs.length): ∃c,BA xs i=some c:=by refine⟨xs[i.toNat]'#[0],?_⟩;unfold BA Sk;rw[iP a,iP h1];exact gE _
def Oo{α:Type}{P:α->Prop}{xs:List α}{i:Int}{e:α}(h: ∀e∈xs,P e)(z:BA xs i=some e):P e:=by
 unfold BA at z
 cases q:Sk xs.length i with
 |none=>rw[q]at z;cases z
 |some j=>rw[q]at z;exact h e (ô z)
def ix_tup{ds:X1}{i:Int}{d:MV}(a:BA ds i=some d):yC (.val (.tup ds)) (.val (.int i)) S=.ok (.val d) S:=by show(match BA ds i with |some d=>R.ok _ S|none=>.no)=_;rw[a]
def Gp{ds:X1}{i:Int}{d:MV}(a:BA ds i=some d):yC (.new ds) (.val (.int i)) S=.ok (.val d) S:=by show(match BA ds i with |some d=>R.ok _ S|none=>.no)=_;rw[a]
def Gq{l:Nat}{ds:X1}{i:Int}{d:MV}(a:S[l]? =some (.lst ds))(b:BA ds i=some d):yC (.val (.loc l)) (.val (.int i)) S=.ok (.val d) S:=by
 have e:kI S (.val (.loc l))=some ds:=by unfold kI;dsimp only;rw[a]
 show(match kI S _ with |some ds=>getL ds _ S|none=>.no)=_;rw[e];show(match BA ds i with |some d=>R.ok _ S|none=>.no)=_;rw[b]
def sE{l:Nat}{ds:X1}(a:S[l]? =some (.lst ds)):fC [.val (.loc l)] S=.ok (.val (.int ds.length)) S:=by
 have e:kI S (.val (.loc l))=some ds:=by unfold kI;dsimp only;rw[a]
 have e2:itemsOf S (.val (.loc l))=some ds:=by unfold itemsOf;exact e
 show(match itemsOf S _ with |some ds=>R.ok _ S|none=>.no)=_;rw[e2]
def nE{l:Nat}{ds:X1}(a:S[l]? =some (.lst ds)):kI S (.val (.loc l))=some ds:=by unfold kI;dsimp only;rw[a]
def kL{l:Nat}{ds:X1}(a:S[l]? =some (.lst ds)):tG (.val (.loc l)) S=.ok ⟨ds,[(l,ds)]⟩ S:=by unfold tG;dsimp only;rw[a]
def yN{l:Nat}{ds:X1}(a:S[l]? =some (.lst ds)):stay [(l,ds)] S:=λp b=>by
 have:=by simpa using b
 subst this;exact a
def Gr{j:Int}(h: -(2 ^ 62)<=j/\j<2 ^ 62):nA [.val (.int j)] S=.ok ⟨(List.range j.toNat).map λk=>.int (k:Nat),[]⟩ S:=iP h
def PD{α:Type}{x:List α}{lo hi:P0}{a:α}(h:a∈cN x lo hi):a∈x:=List.mem_of_mem_drop (List.mem_of_mem_take h)
def cutL_map{α:Type}(f:α->β)(x:List α)(lo hi:P0):cN (x.map f) lo hi=(cN x lo hi).map f:=by unfold cN;rw[lM,map_take,map_drop]
def fits{n:Nat}(h:n<=1000000):n<=sizeLine:=by rw[ď];exact í h (by decide)
def FE(h:rs.length<=1000000):nO rs S=.ok (.new (zP rs S).1) (zP rs S).2:=iP (fits h)
def fE(h:rs.length<=1000000):yA rs S=.ok (.val (.tup (zP rs S).1)) (zP rs S).2:=iP (fits h)
def LO(S:Sto):nO [] S=.ok (.new []) S:=FE (by simp)
def Xq(a:MV)(S:Sto):nO [.val a] S=.ok (.new [a]) S:=FE (by simp)
def Gs(a b:MV)(S:Sto):nO [.val a,.val b] S=.ok (.new [a,b]) S:=FE (by simp)
def O3(a b c:MV)(S:Sto):nO [.val a,.val b,.val c] S=.ok (.new [a,b,c]) S:=FE (by simp)
def lst6(a b c d e f:MV)(S:Sto):nO [.val a,.val b,.val c,.val d,.val e,.val f] S=.ok (.new [a,b,c,d,e,f]) S:=FE (by simp)
def tup2(a b:MV)(S:Sto):yA [.val a,.val b] S=.ok (.val (.tup [a,b])) S:=fE (by simp)
def tup3(a b c:MV)(S:Sto):yA [.val a,.val b,.val c] S=.ok (.val (.tup [a,b,c])) S:=fE (by simp)
theorem Xr(i:Int)(S:Sto):IF [.val (.int i),.val (.typ "str")] S=.ok (.val (.bl false)) S:=rfl
theorem Xs(i:Tk)(S:Sto):IF [.val (.str i),.val (.typ "str")] S=.ok (.val (.bl true)) S:=rfl
theorem Xt(i:Int)(S:Sto):IF [.val (.int i),.val (.typ "tuple")] S=.ok (.val (.bl false)) S:=rfl
theorem Xu(i:Tk)(S:Sto):IF [.val (.str i),.val (.typ "tuple")] S=.ok (.val (.bl false)) S:=rfl
theorem Xv(i:X1)(S:Sto):IF [.val (.tup i),.val (.typ "tuple")] S=.ok (.val (.bl true)) S:=rfl
theorem Xw(i:Bool)(S:Sto):IF [.val (.bl i),.val (.typ "bool")] S=.ok (.val (.bl true)) S:=rfl
theorem PF{gf:MV->Rho->Sto->R Rho}{cf:AZ}{ef:AX}{ρb:Rho}{gs:X4}{P:MV->Prop}(hs:stay gs S):
  ∀{ds:X1},(∀d∈ds, ∃ρ1 y,gf d ρb S=.ok ρ1 S/\cf ρ1 S=.ok true S/\ef ρ1 S=.ok (.val y) S/\P y)-> ∃out,zT gf cf ef ρb gs ds S=.ok out S/\out.length=ds.length/\ ∀o∈out,P o
 |[],_=>⟨[],rfl,rfl,λo h=>by simp at h⟩
 |d::ds,st=>by obtain⟨ρ1,y,h1,k,i,b⟩:=st d mF0;obtain⟨out,e,j,m⟩:=PF hs λd c=>st d (mO _ c);refine⟨_,?_,by rw[lC,lC,j],λo a=>(mC.mp a).elim (λz=>z▸b) (m o)⟩;unfold zT;rw[h1,yM,gC,k,yM,gC,i,yM,gC];unfold kH;rw[gC,iP hs,e];rfl
def Nm(x:Tk):Prop:=1<=x.length/\x.length<=8/\ ∀c∈x,97<=c/\c<=122
def Vl:MV->Prop
 |.int i=> -(10 ^ 30)<i/\i<10 ^ 30
 |.str x=>Nm x
 |_=>False
def Vl.cases{d:MV}(h:Vl d):(∃i,d=.int i/\ -(10 ^ 30)<i/\i<10 ^ 30)\/ ∃x,d=.str x/\Nm x:=by
 cases d with
 |int i=>exact .inl ⟨i,rfl,h⟩
 |str x=>exact .inr ⟨x,rfl,h⟩
 |_=>exact h.elim
def Vl.lo{d:MV}(h:Vl d)(n:Nat):lo n d:=by
 rcases h.cases with⟨i,rfl,_⟩|⟨x,rfl,_⟩
 .exact bE n i
 .exact qY n x
end
def Ite(K:U0)(k:Bool)(l:Addr):It:=
 ⟨λi H=> ∃xs x,Ss k K H l xs/\xs[i]? =some x,
   λi H v H'=> ∃p x,H p=none/\v=.ref p/\H'=xG H p (.tup [.int (i:Nat),x])/\(∀xs,Ss k K H l xs->xs[i]? =some x),
   λi H=> ∃xs,Ss k K H l xs/\xs.length<=i⟩
section
variable{prog:ň}{w:World}{A:Ň}{E:VP}{s:Ņ}{k:Bool}{l:Addr}{its:B9}
def Ba(i:DB k s.heap l its)
  (h: ∀h',EnSt k (s.heap.objs.size+1) s.heap.objs.size l 0 h'->(∀c o,s.heap.get? c=some o->h'.get? c=some o)->Q (.ref (s.heap.objs.size+1)) {s with heap:=h'}):
  wpAny (model prog w) A (call (.type "enumerate") [.ref l]) Q E s:=by
 refine callType_new F.called_enumerate (by decide) (F.typeCall_enumerate_1 _) (F.newCall_enumerate_1 _) (λa=>F.args_object_init_2 a _) F.entry_enumerate_new (TC k l its) ⟨i,?_⟩;have e:(s.heap.push (FA k l)).objs.size=s.heap.objs.size+1:=ė ..;have d:=by have:=ä (s.heap.push (FA k l)) (o:={cls:=.type "enumerate",data:=.fields #[.none,.bool false,.ref s.heap.objs.size,rawInt 0,.none,.none]}) rfl;rw[e]at this;exact this
 refine⟨⟨_,d,rfl⟩,h _ ⟨⟨_,d⟩,IsSub.mk' (hP0 _ (ä _ rfl))⟩ λb o x=>hP0 _ (hP0 _ x)⟩
end
theorem Bb{P:ň}{w:World}{K:U0}{elts:R0}{kt:Nat}{pt:Pos}{k:Bool}{e it l:Addr}(hne:e≠it):
  Turn P w K (.Tuple elts kt pt) (Ite K k l) [e,it] e (λi h=>EnSt k e it l i h) where
 mem:=by simp
 obj:=λi h st b hb=>by
  obtain⟨⟨old,he⟩,hs⟩:=st;have hb':b=e\/b=it:=by simpa using hb
  rcases hb' with rfl|rfl
  .exact⟨_,he,λv q=>by cases q⟩
  .exact hs.there
 keep:=λi h h' st kk=>by obtain⟨⟨old,he⟩,hs⟩:=st;exact⟨⟨old,kk e (by simp) _ he⟩,hs.move λo q=>kk it (by simp) o q⟩
 item:=by
  intro X hP hw hK hc i pins s σ H E I hf st hg;subst hP hw hK;obtain⟨xs,x,q1,hx⟩:=hg;obtain⟨its,r1,p1,_⟩:=I.seqK q1;obtain⟨u,hu,ru⟩:=r1.get hx;obtain⟨⟨old,he⟩,hs⟩:=st;have hT:s.TypeIs (.ref e) "enumerate":=⟨_,he,rfl⟩
  unfold pyNext
  refine wB (wpAny_attempt (ć hT F.slot_enumerate_next (ø F.slot_enumerate_next hT F.entry_enumerate_next
   (Oa he hs p1 (by simpa using hu) hne λh' a1 a2 a3 a4=>wP ⟨_,rfl,?_⟩) (F.args_enumerate_next_1 _))))
  refine wpAny_letOwnedTupleGo_enum a1 λh2 z2 sb2=>?_;have hpn:H s.heap.objs.size=none:=I.hok.fresh (à _)
  have I0:Inv X pins σ _ {s with heap:=s.heap.push {cls:=.type "tuple",data:=.seq #[.int i s.toks,u]},toks:=s.toks+1}:=
   I.laid (o:=.tup [.int (i:Nat),x]) (λb o e=>hP0 _ e) (à _) ⟨by show 2<=sizeLine;decide,_,.cons ⟨_,rfl⟩ (.cons ru .nil),⟨_,ä _ rfl,rfl,_,rfl⟩⟩
  have lt: ∀b∈[e,it],b<s.heap.objs.size:=λb hb=>by
   have hb':b=e\/b=it:=by simpa using hb
   rcases hb' with rfl|rfl
   .exact â he
   .obtain⟨o,eo,_⟩:=hs.there;exact â eo
  have fr: ∀b∈[e,it],xG H s.heap.objs.size (.tup [.int (i:Nat),x]) b=none:=λb hb=>by rw[zF (ã (lt b hb))];exact(hf b hb).1
  have mv: ∀b o,b∉[e,it]->(s.heap.push {cls:=.type "tuple",data:=.seq #[.int i s.toks,u]}).get? b=some o->h2.get? b=some o:=λb o hb eo=>by
   simp only[mC,nM,or_false,not_or]at hb;refine sb2.extBut _ _ hb.1 ?_;by_cases hbs:b=s.heap.objs.size
   .subst hbs;rw[ä _ rfl]at eo;cases eo;exact a3
   .rw[Heap.get?_push_ne _ _ _ hbs]at eo;exact a4 b o hb.1 hb.2 eo
  have I2:=I0.turnedL (t':=s.toks+1) mv λb hb=>let ⟨_,c2,c3,c4,c5,c6⟩:=hf b hb;⟨fr b hb,c2,c3,c4,c5,c6⟩;refine⟨.ref s.heap.objs.size,_,I2,rfl,⟨_,x,hpn,rfl,rfl,λzs hz=>?_⟩,⟨⟨u,?_⟩,?_⟩,fr⟩
  .rw[I.seqK_inj hz q1];exact hx
  .simpa using z2
  .exact a2.move λo eo=>sb2.extBut _ _ (Ne.symm hne) eo
 done:=by
  intro X hP hw hK hc i pins s σ H E I hf st hg;subst hP hw hK;obtain⟨xs,q1,hx⟩:=hg;obtain⟨its,r1,p1,_⟩:=I.seqK q1;obtain⟨⟨old,he⟩,hs⟩:=st;have hT:s.TypeIs (.ref e) "enumerate":=⟨_,he,rfl⟩
  have e1:=r1.length;unfold pyNext;refine wB (wpAny_attempt (ć hT F.slot_enumerate_next (ø F.slot_enumerate_next hT F.entry_enumerate_next ?_ (F.args_enumerate_next_1 _))));show wpAny _ _ (field (.ref e) 2 >>= _) _ _ _;refine wB (Ĕ he rfl rfl ?_);refine wB (Ny (I.ok.hd hc) hs p1 (by simp;lia) λh' x hk hx'=>?_);obtain⟨o,ho,hcl⟩:=hx';refine wB (İ ⟨o,ho,hcl⟩ isSubtype_stop (wP ⟨rfl,?_⟩));refine I.turnedL (λb o hb eo=>?_) hf;simp only[mC,nM,or_false,not_or]at hb;exact hk b o hb.2 eo
 self:=λ_ _ _ _ _ st h=>let ⟨⟨_,he⟩,_⟩:=st;wpAny_pyIter_enum he h
def O4(K:U0)(ta:TA):TI:=λσ H R=>ta σ H λvs H1=> ∃k l,vs=[.ref l]/\(∃xs,Ss k K H1 l xs)/\R (Ite K k l) H1
section
variable{X:Cx}{W:XW}{a:Expr}{elts:R0}{kt:Nat}{pt p pos:Pos}{ta:TA}{af:Rho->Sto->R (List Er)}
def Oq(v:Gl X "enumerate")(m:X.mg "enumerate"=none)(w:PA X [a] ta)(hs:starEach [a] X.env=[(false,eval a X.env)]:=by rfl):
  PI X (.Tuple elts kt pt) (.Call (.Name "enumerate" p) [a] [] pos) (O4 X.K ta):=by
 intro pins s σ H R I h;refine Call_ (BE I v m Nz (ĥ (jD (w pos pins s σ H _ I h) λus e ⟨vs,H1,I1,n,j⟩=>?_) (by rw[hs];rfl) (by rfl)));obtain⟨k,l,rfl,⟨xs,i⟩,q⟩:=j
 cases n with
 |cons r rr=>
  cases rr;cases r;obtain⟨its,A,p1,_⟩:=I1.seqK i;refine Ba p1 λh' st o=>let ⟨⟨_,z⟩,_⟩:=id st;wpAny_pyIter_enum z ?_;have u:Inv X pins σ H1 {e with heap:=h'}:=I1.kept o;refine⟨_,_,_,_,H1,rfl,u,Bb (Ē (ģ _)),st,λb y=>?_,q⟩
  have c:e.heap.objs.size<=b:=by
   have d:=by simpa using y
   rcases d with h|h<;>rw[h]<;>(first |exact à _|exact Nat.le_add_right _ _)
  exact I1.fpOk c (I1.hok.fresh c)
def IH(xs:X1):List MV:=xs.zipIdx.map λp=>.tup [.int (p.2:Nat),p.1]
def Bc(rs:List Er)(S:Sto):R Wk:=match rs with
 |[p]=>match srcOf S p with
  |some a=>.ok ⟨IH a.ds,a.gs⟩ S
  |none=>.no
 |_=>.no
theorem Os(N:Gl X "enumerate")(F:X.mg "enumerate"=none)(n:HQ X W [a] af)(hs:starEach [a] X.env=[(false,eval a X.env)]:=by rfl):
  OU X W (.Tuple elts kt pt) (.Call (.Name "enumerate" p) [a] [] pos) (λρ S=>(af ρ S).bind Bc):=by
 obtain⟨t,n,k⟩:=n;refine⟨_,Oq N F n hs,λα ρ S σ H Rc G sl q=>k α ρ S σ H _ G sl (q.bind λvs rs S1 r H1 e P C T b=>?_)⟩
 replace b:=b.shift P
 unfold Bc at b;split at b
 .rename_i Z;split at b
  .rename_i j e1;obtain⟨u,rfl,Q⟩:=JH T;obtain⟨I,J,rfl,p1,c⟩:=Xk C e1 Q;have M:=c.get _ _ _ p1;have z:(IH j.ds).length=j.ds.length:=by unfold IH;rw[lM,length_zipIdx]
   refine⟨j.k,I,rfl,⟨_,M.choose_spec.1⟩,b.here C ⟨λα S H=>J α S H,?_,p1,?_,?_⟩⟩
   .intro i v S2 O h D;obtain⟨us,m,E⟩:=c.get _ _ _ h;have hl:=E.length;refine⟨λhi=>?_,λhi=>?_⟩
    .have hi:i<(IH j.ds).length:=hi;have h1:i<us.length:=by lia
     refine⟨⟨us,_,m,gE h1⟩,?_⟩;rintro x H' ⟨Y,A,B,rfl,rfl,K⟩;obtain⟨d,L,U⟩:=E.get (K us m);have s:=D.newx (o:=.tup [.int (i:Nat),A]) B;have y:=D.new (o:=.tup [.int (i:Nat),A]) B;refine⟨s,y,c.stays _ _ _ _ _ _ h s y (c.st _ _ _ h),.tup [.int (i:Nat),d],?_,?_⟩
     .unfold IH;rw[ò,List.getElem?_zipIdx,L];simp
     .exact oI (.of zV) (zW (wQ _) (zW (U.ext s) yE))
    .have hi:(IH j.ds).length<=i:=hi;exact⟨us,m,by lia⟩
   .intro r S1 H1 v S2 O h x w hs;exact c.stays _ _ _ _ _ _ h x w hs
   .exact c.st _ _ _ p1
  .exact b.elim
 .exact b.elim
end
instance:DecidableEq MV:=λ_ _=>Classical.propDecidable _
def look(kvs:X5)(k:MV):Option MV:=(kvs.find? λp=>decide (p.1=k)).map (·.2)
def putK(kvs:X5)(k d:MV):List (MV×MV):=if(look kvs k).isSome=true then kvs.map (λp=>if p.1=k then(p.1,d)else p)else kvs++[(k,d)]
def FF:MV->Bool
 |.tup _=>true
 |_=>false
theorem PH:wK .non=some (.key none):=by unfold wK;rfl
theorem fF(i:Int):wK (.int i)=some (.key (some (.inl i))):=by unfold wK;rfl
theorem mX(x:Tk):wK (.str x)=some (.key (some (.inr (qE x)))):=by unfold wK;rfl
def fG(ds:X1):wK (.tup ds)=(jW ds).map .tup:=by
 conv=>lhs;unfold wK
theorem sF:jW []=some []:=by unfold jW;rfl
def fH(d:MV)(ds:X1):jW (d::ds)=(wK d).bind λk=>(jW ds).map (k::·):=by
 conv=>lhs;unfold jW
mutual
theorem FG: ∀{d e:MV}{k:NK},wK d=some k->wK e=some k->d=e
 |.int i,e,k,hd,a=>by
  rw[fF]at hd;cases hd
  cases e with
  |int j=>rw[fF]at a;cases a;rfl
  |str x=>rw[mX]at a;cases a
  |tup ds=>rw[fG]at a;cases z:jW ds<;>rw[z]at a<;>cases a
  |_=>unfold wK at a;cases a
 |.str x,e,k,hd,a=>by
  rw[mX]at hd;cases hd
  cases e with
  |int j=>rw[fF]at a;cases a
  |str y=>
   rw[mX]at a;have a:=å a;injection a with a
   injection a with a
   injection a with a
   rw[vD a]
  |tup ds=>rw[fG]at a;cases z:jW ds<;>rw[z]at a<;>cases a
  |_=>unfold wK at a;cases a
 |.tup ds,e,k,hd,a=>by
  rw[fG]at hd
  cases z:jW ds with
  |none=>rw[z]at hd;cases hd
  |some ks=>
   rw[z]at hd;cases hd
   cases e with
   |int j=>rw[fF]at a;cases a
   |str y=>rw[mX]at a;cases a
   |tup es=>
    rw[fG]at a
    cases b:jW es with
    |none=>rw[b]at a;cases a
    |some ks'=>rw[b]at a;cases a;rw[JM z b]
   |_=>unfold wK at a;cases a
 |.non,e,k,hd,a=>by
  rw[PH]at hd;cases hd
  cases e with
  |non=>rfl
  |int j=>rw[fF]at a;cases a
  |str x=>rw[mX]at a;cases a
  |tup ds=>rw[fG]at a;cases z:jW ds<;>rw[z]at a<;>cases a
  |_=>unfold wK at a;cases a
 |.bl _,e,k,hd,a=>by unfold wK at hd;cases hd
 |.scr _,e,k,hd,a=>by unfold wK at hd;cases hd
 |.loc _,e,k,hd,a=>by unfold wK at hd;cases hd
 |.typ _,e,k,hd,a=>by unfold wK at hd;cases hd
 |.obj _ _ _,e,k,hd,a=>by unfold wK at hd;cases hd
theorem JM: ∀{ds es:X1}{b:List NK},jW ds=some b->jW es=some b->ds=es
 |[],es,b,hd,he=>by
  rw[sF]at hd;cases hd
  cases es with
  |nil=>rfl
  |cons e es=>
   rw[fH]at he;cases z:wK e<;>rw[z]at he
   .cases he
   .cases a:jW es<;>rw[a]at he<;>cases he
 |d::ds,es,b,hd,he=>by
  rw[fH]at hd
  cases z:wK d with
  |none=>rw[z]at hd;cases hd
  |some k=>
   rw[z]at hd
   cases a:jW ds with
   |none=>rw[a]at hd;cases hd
   |some ks2=>
    rw[a]at hd
    cases es with
    |nil=>rw[sF]at he;cases he;cases hd
    |cons e es=>
     rw[fH]at he
     cases h:wK e with
     |none=>rw[h]at he;cases he
     |some k'=>
      rw[h]at he
      cases c:jW es with
      |none=>rw[c]at he;cases he
      |some ks4=>
       rw[c]at he;cases hd;cases he;rw[FG z h,JM a c]
end
section
variable{X:Cx}{pins:N0}{σ:St}{H:Hp}{s:Ņ}{α:K0}
mutual
theorem TJ(I:Inv X pins σ H s): ∀{d:MV}{k:NK}{x:V}{u:ņ},wK d=some k->Den X.K α H d x->RelV x u->HZ (mk X.prog X.w) s.heap k u
 |.int i,k,x,u,hk,hd,r=>by rw[fF]at hk;cases hk;cases yL hd;obtain⟨t,rfl⟩:=r;exact wO.mpr (by show mL (.inl i) (.int i t)=true;simp[mL,Value.isInt])
 |.str y,k,x,u,hk,hd,r=>by rw[mX]at hk;cases hk;cases wD hd;obtain⟨t,rfl⟩:=r;exact wO.mpr (by show mL (.inr (qE y)) (.str (qE y) t)=true;simp[mL,Value.isStrOf])
 |.tup ds,k,x,u,hk,hd,r=>by
  rw[fG]at hk
  cases z:jW ds with
  |none=>rw[z]at hk;cases hk
  |some ks=>
   rw[z]at hk;cases hk;obtain⟨a,vs,rfl,h,l⟩:=yW hd;cases r;obtain⟨its,e,pt,_⟩:=I.tuple h;obtain⟨o,c,j,n,b⟩:=pt;exact xN.mpr ⟨a,o,its.toArray,n,rfl,c,j,b,by simpa using WV I z l e⟩
 |.non,k,x,u,hk,hd,r=>by rw[PH]at hk;cases hk;cases nL hd;cases r;exact wO.mpr rfl
 |.bl _,k,x,u,hk,hd,r=>by unfold wK at hk;cases hk
 |.scr _,k,x,u,hk,hd,r=>by unfold wK at hk;cases hk
 |.loc _,k,x,u,hk,hd,r=>by unfold wK at hk;cases hk
 |.typ _,k,x,u,hk,hd,r=>by unfold wK at hk;cases hk
 |.obj _ _ _,k,x,u,hk,hd,r=>by unfold wK at hk;cases hk
theorem WV(I:Inv X pins σ H s): ∀{ds:X1}{b:List NK}{xs:List V}{us:B0},jW ds=some b->DenL X.K α H ds xs->Vals xs us->qQ (mk X.prog X.w) s.heap b us
 |[],b,xs,us,hk,hd,r=>by rw[sF]at hk;cases hk;cases hd.isnil;cases r;exact wW.mpr rfl
 |d::ds,b,xs,us,hk,hd,r=>by
  rw[fH]at hk;obtain⟨v,vs,rfl,a,l⟩:=hd.uncons
  cases r with
  |cons r1 r2=>
   cases z:wK d with
   |none=>rw[z]at hk;cases hk
   |some k=>
    rw[z]at hk
    cases c:jW ds with
    |none=>rw[c]at hk;cases hk
    |some ks2=>
     rw[c]at hk;cases hk;exact yK.mpr ⟨_,_,rfl,TJ I z a r1,WV I c l r2⟩
end
def DD(X:Cx)(H:Hp)(d:Addr)(xs:List (NK×Addr×ņ)):Prop:=H d=some (DN X.prog X.w d xs)\/(xs=[]/\H d=some (.dK []))
def DD.nf{d:Addr}{xs:List (NK×Addr×ņ)}(h:DD X H d xs): ∀ob u,H d≠some (.frz ob u):=h.elim (λz=>C4 z) λz=>by first |exact C4 z.2|exact z.elim
def O5{S:Sto}{d:Addr}(ob:ObD X.g α H d (.dic kvs))(b:kvs.all (λp=>FF p.1)=true): ∃xs,DD X H d xs/\DenN X.K α H kvs xs:=by
 rcases ob with⟨ks,h,l⟩|⟨xs,h,l⟩
 .cases l with
  |nil=>exact⟨[],.inr ⟨rfl,h⟩,.nil⟩
  |@cons k k' dd v fs gs hkd a l=>
   rw[List.all_cons,aE]at b
   cases k with
   |tup ds=>exact absurd hkd (by unfold KeyD;exact λz=>z)
   |_=>exact absurd b.1 xF0
 .exact⟨xs,.inl h,l⟩
theorem WW(I:Inv X pins σ H s): ∀{kvs:X5}{xs:List (NK×Addr×ņ)},DenN X.K α H kvs xs-> ∀x∈xs,(mT X.prog X.w).is s.heap x.1 x.2.1
 |_,_,.nil=>λx b=>by simp at b
 |_,_,.cons k e a d r l=>λx b=>by
  rcases mC.mp b with rfl|b
  .exact⟨TJ I k a rfl,e⟩
  .exact WW I l x b
def EB(I:Inv X pins σ H s){xs:List (NK×Addr×ņ)}{d:Addr}(h:DD X H d xs)(l:DenN X.K α H kvs xs):s.heap.DictOfH (mT X.prog X.w) d xs/\xs.length<=sizeLine/\(d==sysModules)=false:=by
 rcases h with h|⟨rfl,h⟩
 .obtain⟨⟨q,hs,o,es,ep,c,j,i,k,r⟩,_⟩:=(I.hok d _ h)
  exact⟨⟨o,es,ep,c,j,i,k,WW I l,r⟩,q,hs⟩
 .obtain⟨_,hs,vs,n,o,es,ep,c,j,i,_,m,_⟩:=(I.hok d _ h)
  cases n;have k:es.toList=[]:=by cases e:es.toList with |nil=>rfl|cons a b=>rw[e]at m;cases m
  exact⟨⟨o,es,ep,c,j,i,by rw[k];rfl,λx p=>by simp at p,nodup_nil⟩,zero_le _,hs⟩
def sG(p:MV×MV)(kvs:X5)(k:MV):look (p::kvs) k=if p.1=k then some p.2 else look kvs k:=by
 unfold look;rw[find?_cons];by_cases h:p.1=k
 .rw[dT0 h,iP h];rfl
 .rw[dF0 h,iN h]
def TL(x:NK×Addr×ņ)(xs:List (NK×Addr×ņ))(k:NK):atKey (x::xs) k=if x.1=k then some x.2 else atKey xs k:=by
 unfold atKey;rw[find?_cons];by_cases h:x.1=k
 .rw[dT0 h,iP h];rfl
 .rw[dF0 h,iN h]
theorem WX: ∀{kvs:X5}{xs:List (NK×Addr×ņ)}{k:MV}{nk:NK},DenN X.K α H kvs xs->wK k=some nk->(atKey xs nk).isSome=(look kvs k).isSome
 |_,_,k,nk,.nil,hk=>rfl
 |_,_,k,nk,.cons (k:=k') (nk:=nk') hk' e a d r l,hk=>by
  rw[sG,TL];by_cases h:k'=k
  .subst h;have:=by rw[hk]at hk';exact(å hk').symm
   rw[iP this,iP rfl];rfl
  .have:nk'≠nk:=λz=>h (FG hk' (by rw[hk,z]));rw[iN this,iN h];exact WX l hk
theorem LP: ∀{kvs:X5}{xs:List (NK×Addr×ņ)}{k d:MV}{nk:NK}{v:V}{u:ņ},DenN X.K α H kvs xs->wK k=some nk->Den X.K α H d v->RelV v u->DenN X.K α H (kvs.map λp=>if p.1=k then(p.1,d)else p) (xs.map (putAt nk u))
 |_,_,k,d,nk,v,u,.nil,hk,hd,r=>.nil
 |_,_,k,d,nk,v,u,.cons (k:=k') (nk:=nk') hk' e a dd rr l,hk,hd,r=>by
  rw[è,è];unfold putAt;by_cases h:k'=k
  .have b:=by subst h;rw[hk]at hk';exact(å hk').symm
   rw[iP h,iP b];exact .cons hk' e a hd r (LP l hk hd r)
  .have b:nk'≠nk:=λz=>h (FG hk' (by rw[hk,z]));rw[iN h,iN b];exact .cons hk' e a dd rr (LP l hk hd r)
theorem DenN.append: ∀{kvs b:X5}{xs c:List (NK×Addr×ņ)},DenN X.K α H kvs xs->DenN X.K α H b c->DenN X.K α H (kvs++b) (xs++c)
 |_,_,_,_,.nil,h=>h
 |_,_,_,_,.cons hk e a d r l,h=>.cons hk e a d r (DenN.append l h)
def Ot{xs:List (NK×Addr×ņ)}{k d:MV}{nk:NK}{a:Addr}{u:ņ}(l:DenN X.K α H kvs xs)(c:wK k=some nk)(e:qS nk<=4)(j:Den X.K α H k (.ref a))(i:Den X.K α H d v)(r:RelV v u):DenN X.K α H (putK kvs k d) (storedH xs nk a u):=by
 unfold putK;have b:=WX l c;by_cases h:(look kvs k).isSome=true
 .rw[iP h];rw[h]at b;obtain⟨p,n⟩:=ü.mp b;rw[storedH_old n];exact LP l c i r
 .rw[iN h]
  have m:atKey xs nk=none:=by
   cases z:atKey xs nk with
   |none=>rfl
   |some p=>rw[z]at b;exact absurd b.symm h
  rw[storedH_new m];exact l.append (.cons c e j i r .nil)
end
section
variable{X:Cx}{W:XW}{a b o i:Expr}{f g:AX}{pos:Pos}
def Gu{pins:N0}{s:Ņ}(I:Inv X pins σ H s):sysModules<s.heap.objs.size:=lt_trans (by decide) ((I.mod.glob.keeps I.bk).lt)
theorem Wd.put{k:Gm}{p:Addr}{d:HO}{m:MO}(w:Wd k α S H)(i:H p=none)(q:ObD k (α++[p]) (xG H p d) p m):Ext α H (α++[p]) (xG H p d)/\Wd k (α++[p]) (S++[m]) (xG H p d):=by
 have x:=w.newx (o:=d) i;have u:=w.new (o:=d) i;have y:=w.fresh i;refine⟨⟨⟨⟨[p],rfl⟩,x.tup,x.frz⟩,λb s=>?_,x.keep,x.has⟩,⟨?_,?_,λl c ob h1 e=>?_⟩⟩
 .rcases ê.mp s with h|h
  .exact .inl h
  .rw[mS.mp h];exact .inr i
 .rw[lA,lA,w.len];rfl
 .exact ħ.mpr ⟨w.nd,by simp,λa r c v=>by rw[mS.mp v];rintro rfl;exact y r⟩
 .by_cases n:l<α.length
  .rw[ë n]at h1;rw[ë (by rw[<-w.len];exact n)]at e;exact(u.obj l c ob h1 e).move (Ex0.grow α [p] _) rfl
  .have j:l=α.length:=by
    have:=(gS.mp h1).1;rw[lA,lS]at this
    lia
   subst j;rw[ð (à _),sub_self]at h1;rw[ð (by rw[w.len];exact à _),w.len,sub_self]at e;cases h1;cases e;exact q
def Su(S:Sto):R Er:=.ok (.val (.loc S.length)) (S++[.dic []])
def Gv:zM X W (.Dict [] [] pos) (λ_ S=>Su S):=by
 refine⟨λσ H Q=> ∀p,H p=none->Q (.ref p) (xG H p (.dK [])),λpins s σ H Q I h=>?_,λα ρ S σ H Q a sl q p c=>?_⟩
 .exact wpAny_Dict_empty ⟨.ref s.heap.objs.size,_,I.laid (o:=.dK []) (λ_ _ q=>hP0 _ q) (à _)
   ⟨zero_le _,Ģ.mpr (Ne.symm (ã (Gu I))),[],.nil,Heap.DictOf.new s.heap⟩,rfl,h _ (I.hok.fresh (à _))⟩
 .obtain⟨x,b⟩:=a.put (m:=.dic []) c (.inl ⟨[],zV,.nil⟩);exact q _ _ _ x b (DenE.val (vG (by rw[<-a.len,ð (à _),sub_self];rfl)))
def vP(S:Sto):Er->Option (Nat×List (MV×MV))
 |.val (.loc l)=>match S[l]? with
  |some (.dic kvs)=>if kvs.all (λp=>FF p.1)=true then some (l,kvs)else none
  |_=>none
 |_=>none
def keyOk(k:MV):Bool:=FF k&&(match wK k with |some nk=>decide (qS nk<=4)|none=>false)
def Gw{k:MV}(h:keyOk k=true): ∃a,wK k=some a/\qS a<=4/\FF k=true:=by
 unfold keyOk at h;rw[aE]at h
 cases z:wK k with
 |none=>rw[z]at h;exact absurd h.2 xF0
 |some a=>rw[z]at h;exact⟨a,rfl,ì h.2,h.1⟩
def TN(b:Wd X.g α S H){r:Er}{x:V}{l:Nat}(e:vP S r=some (l,kvs))(d:DenX X.K α H r x):
  ∃c xs,x=.ref c/\α[l]? =some c/\S[l]? =some (.dic kvs)/\DD X H c xs/\DenN X.K α H kvs xs:=by
 unfold vP at e;split at e
 .rename_i n;obtain⟨c,rfl,h⟩:=lO d;split at e
  .rename_i k a;split at e
   .rename_i j;obtain⟨rfl,rfl⟩:=Prod.mk.inj (å e);obtain⟨xs,i,l⟩:=O5 (S:=S) (b.obj _ c _ h a) j;exact⟨c,xs,rfl,h,a,i,l⟩
   .cases e
  .cases e
 .cases e
def Ou{k:MV}{x:V}(h:FF k=true)(d:Den X.K α H k x): ∃a,x=.ref a:=by
 cases k with
 |tup ds=>obtain⟨a,_,rfl,_⟩:=yW d;exact⟨a,rfl⟩
 |_=>exact absurd h xF0
def O6(X:Cx):TSet:=λo i v H Q=> ∃(α:K0)(kvs:X5)(xs:List (NK×Addr×ņ))(a d:Addr)(k:MV)(b:NK),o=.ref d/\i=.ref a/\DD X H d xs/\DenN X.K α H kvs xs/\wK k=some b/\qS b<=4/\Den X.K α H k (.ref a)/\xs.length<sizeLine/\
 ∀u,RelV v u->Q (xG H d (DN X.prog X.w d (storedH xs b a u)))
def TQ{xs:List (NK×Addr×ņ)}{k:NK}{a:Addr}{u:ņ}:(storedH xs k a u).length<=xs.length+1:=by
 cases h:atKey xs k with
 |none=>rw[storedH_new h,lA];exact à _
 |some p=>rw[storedH_old h,lM];exact le_succ _
theorem Bd(hu:X.A.units+64<cLine):F3 X (O6 X):=by
 intro pins s σ H o i v ov iv u Q I Y F E h;obtain⟨α,kvs,xs,a,d,k,M,rfl,rfl,C,l,G,e,S,hz,q⟩:=h;cases Y;cases F;obtain⟨D,B,hs⟩:=EB I C l;refine wpAny_setItem_heap (knd:=mT X.prog X.w) (show X.A.units+1+4<cLine by omega) ⟨TJ I G S rfl,e⟩ D (λh' p m=>⟨_,?_,q u E⟩) B;have L:B7 (H d):=by rcases C with z|⟨_,z⟩<;>rw[z]<;>exact trivial
 obtain⟨ob,es,ep,c,N,J,Z,_,K⟩:=p;refine I.write L (.inl rfl) (λb uo T W=>(m.2 b T).trans W) ⟨ob,c⟩ ?_;refine⟨⟨by have:=TQ (xs:=xs) (k:=M) (a:=a) (u:=u);lia,hs,ob,es,ep,c,N,J,Z,K⟩,⟨ob,c⟩,?_⟩;rintro h1 h2 ⟨P,U,o',j,y,n,r⟩ O;exact⟨P,U,o',j,y,O o' n,r⟩
def vQ(p q:Er)(d:MV)(ρ:Rho)(S:Sto):R Rho:=match q with
 |.val k=>match vP S p with
  |some (l,kvs)=>if keyOk k=true/\kvs.length<1000000 then .ok ρ (S.set l (.dic (putK kvs k d)))else .no
  |none=>.no
 |_=>.no
theorem DenN.length: ∀{kvs xs},DenN X.K α H kvs xs->xs.length=kvs.length
 |_,_,.nil=>rfl
 |_,_,.cons _ _ _ _ _ l=>by rw[lC,lC,DenN.length l]
def Ov(Y:X.A.units+64<cLine)(n:zM X W o f)(hi:zM X W i g)
  (ha: ∀v,assign (.Subscript o i pos) X.env v=(do
   let j <-holding [v] (eval o X.env);let F <-holding [v,j] (eval i X.env)
   standAt pos
   holding [v,j,F] (setItem j F v)
   release [v,j,F] []):=by intro _;rfl):Mp X W (.Subscript o i pos) (λd ρ S=>(f ρ S).bind λp S1=>(g ρ S1).bind λq S2=>vQ p q d ρ S2):=by
 obtain⟨to,n,U⟩:=n;obtain⟨ti,hi,fi⟩:=hi;refine⟨_,Um n hi (Bd Y) ha,λα ρ S σ H d v Q O sl T q=>U α ρ S σ H _ O sl (q.bind λu p S1 y H1 e1 m w1 d1 N=>fi y ρ S1 σ H1 _ w1 (sl.ext m) ((N.shift m).bind λu2 p2 S2 b H2 e2 h B G a=>?_))⟩
 replace a:=a.shift h
 have C:=DenX.ext h d1.1;have z:=(T.ext m).ext h;unfold vQ at a;split at a
 .rename_i k;split at a
  .rename_i l kvs e;split at a
   .rename_i I;obtain⟨J,h1,L,Z⟩:=Gw I.1;obtain⟨c,xs,rfl,K,hS,E,D⟩:=TN B e C;obtain⟨M,rfl⟩:=Ou Z G.1;refine⟨b,kvs,xs,M,c,k,J,rfl,rfl,E,D,h1,L,G.1,?_,λu P=>?_⟩
    .rw[D.length];exact é I.2 (fits (à _))
    .have s:=B.writex K E.nf (o:=DN X.prog X.w c (storedH xs J M u));have r:=((sl.ext m).ext h).ext s;exact a σ b _ s (B.write K E.nf (.inr ⟨_,zV,(Ot D h1 L G.1 z P).ex0 s.toEx0⟩)) r
   .exact a.elim
  .exact a.elim
 .exact a.elim
end
def FsD(g:Gm)(α:K0)(H:Hp)(d:Option Addr)(fs:List (Str×MV)):Prop:=fs=[]\/ ∃dx gs a,d=some dx/\H dx=some (.frz a (.xd gs))/\DenF g.K α H fs gs
abbrev WE(g:Gm)(E:XK):XW:=λc fs _ α H=> ∀C d,g.mg c=some (.ref C)->FsD g α H d fs->E (.ref C) d H
def Xx:MV->Bool
 |.non=>true
 |.bl _=>true
 |.int _=>true
 |.str _=>true
 |_=>false
def Post.wmono[Dn β τ]{g:Gm}{W a:XW}(f: ∀c fs S α' H',W c fs S α' H'->a c fs S α' H'): ∀{m:R β}{Q:τ->Hp->Prop},Post g W α H m Q->Post g a α H m Q
 |.ok b S,Q,q=>q
 |.exc c fs S,_,q=>λα' H' x w=>f _ _ _ _ _ (q α' H' x w)
 |.no,_,q=>q
def XCl(K:U0)(C:Addr)(k:B0)(a:Option ņ):Prop:=
 ∃m q N bs d r b e c p s h i o j,K.lookup C=some (excClassObj m q C N bs k d r b e c p s h i o j "ValueError.__new__")/\PySem.W.nsOkIn K N=true/\PySem.W.nsIn K N "__init__"=some a/\(∀n∈qn,PySem.W.nsIn K N n=some none)/\d=true
def XEach(K:U0)(mg:L1)(M:Addr):List (Str×Addr)->Prop
 |[]=>True
 |(c,C)::r=>(mg c=some (.ref C)/\ ∃i,XCl K C (.ref M::W4) i)/\XEach K mg M r
theorem XEach.at{K:U0}{mg:L1}{M:Addr}: ∀{cs:List (Str×Addr)},XEach K mg M cs-> ∀{c C},(c,C)∈cs->mg c=some (.ref C)/\ ∃i,XCl K C (.ref M::W4) i
 |_::r,h,c',C',z=>by
  rcases mC.mp z with z|z
  .cases z;exact h.1
  .exact XEach.at h.2 z
def spX(g:Gm)(n:Nat)(F:List MV->Sto->R Er):Sp:=λvs H Q E=> ∃α S ds,Wd g α S H/\DenL g.K α H ds vs/\ds.length=n/\Post g (WE g E) α H (F ds S) Q
def WY(n:Nat)(F:List MV->Sto->R Er)(rs:List Er)(S:Sto):R Er:=if rs.length=n then(match F (zP rs S).1 (zP rs S).2 with
 |.ok r S2=>bN S r S2
 |.exc c fs S2=>if fs.all (λp=>Xx p.2)=true then(bN S (.val .non) S2).bind λ_ a=>.exc c fs a else .no
 |.no=>.no)else .no
section
variable{P:ň}{w:World}{K:U0}{mg:L1}{base:Heap}
def _root_.L2.FnOk.noX{k n:Nat}{f:Addr}{fd:FuncData}{ps:L0}{g:Gm}{F:List MV->Sto->R Er}(G:FnOk P w K mg base (CXe P w) k f fd ps (spX g n F)):FnOk P w K mg base rY k f fd ps (IB g n F):=by
 have c: ∀{vs H Q}, ∀{E},IB g n F vs H Q E->spX g n F vs H Q E0:=λ⟨α,S,ds,h1,u,p,o⟩=>⟨α,S,ds,h1,u,p,o.wmono λ_ _ _ _ _ z=>z.elim⟩
 refine⟨λvs H Q E h=>G.len vs H Q E0 (c h),λA a s H b us vs Q E q j i m h=>Į (G.run A a s H b us vs Q E0 q j i m (c h)) λr s' d=>?_⟩
 cases r with
 |error e=>
  obtain⟨_,_,_,_,_,_,_,_,_,_,_,_,_,_,_,z⟩:=d;exact z
 |ok fl=>cases fl<;>exact d
end
end M
end L2
namespace L2
open PySem PySem.Spec PyProof.Rows
structure Out(X:Cx)(pins:N0)(H:Hp)(s:Ņ)(b:Addr):Prop where
 s0:X.s₀.heap.get? b=none
 h:H b=none
 pin: ∀p∈X.pn++pins,p.1≠b
 fld: ∃o vs,s.heap.get? b=some o/\o.data=.fields vs
section
variable{X:Cx}{pins:N0}{σ:St}{H:Hp}{s:Ņ}{e b:Addr}
def Out.ne(o:Out X pins H s b){c:Addr}{d:Obj}(a:s.heap.get? c=some d)(nf: ∀vs,d.data≠.fields vs):c≠b:=λz=>by obtain⟨ob,vs,h1,e⟩:=o.fld;rw[z,h1]at a;cases a;exact nf vs e
def Out.loc(o:Out X pins H s b)(I:Inv X pins σ H s):X.env.locals≠b:=by obtain⟨m,⟨c,es,ep,h1,a,_⟩,_⟩:=I.loc;exact o.ne h1 λvs z=>by rw[a]at z;cases z
def HdA(A:Ň)(H:Hp):Prop:= ∃e ob u,A.handled=some (.ref e)/\H e=some (.frz ob u)/\ ∃vs,ob.data=.fields vs/\vs[2]? =some .none
end
end L2
namespace L2
namespace M
open PySem PySem.Spec PyProof.Rows
def endF(i:Nat):Fl->Sto->R Fl
 |.next ρ,S=>.ok (.next (ρ.set i none)) S
 |.ret r,S=>.ok (.ret r) S
 |.brk ρ,S=>.ok (.brk (ρ.set i none)) S
 |.cont ρ,S=>.ok (.cont (ρ.set i none)) S
def Xy(b:L0)(i:Nat)(kn:Er->Sto->R Fl)(a:AY)(ρ:Rho):R Er->R Fl
 |.ok r S=>kn r S
 |.exc c fs S=>if c∈b then(noX (a (ρ.set i (some (.loc S.length))) (S++[.ins c fs]))).bind (endF i)else .no
 |.no=>.no
end M
end L2
namespace Srt
open PySem PyProof.Rows
section
variable{M:Model}{A:Ň}{E:VP}{s:Ņ}{σ:Type}
def PJ{x:String}{Q:Unit->σ->Prop}{st:σ}(h:Q () st):wpS M A E s (liftM (rule x):StateT σ Sem Unit) Q st:=wpS_lift (Ĭ ⟨rfl,h⟩)
end
end Srt
set_option autoImplicit false
namespace Srt
variable{β:Type}{le:β->β->Prop}
structure Two(le:β->β->Prop)(T out xs ys:List β):Prop where
 hx:(out++xs).Pairwise le
 hy:(out++ys).Pairwise le
 pm:(out++(xs++ys)).Perm T
structure TwoR(le:β->β->Prop)(T xs ys R:List β):Prop where
 hx:(xs++R).Pairwise le
 hy:(ys++R).Pairwise le
 pm:(xs++ys++R).Perm T
end Srt
namespace Srt
open PySem PyProof.Rows
abbrev SM:=StateT SortSt Sem
abbrev G3:=Option (Option Nat)×Nat×Nat
end Srt
namespace Srt
open PySem PyProof.Rows
section
variable{M:Model}{A:Ň}{E:VP}{s:Ņ}
structure Cmp(M:Model)(A:Ň)(E:VP)(s:Ņ)(kd:SortKind)(D:Keyed->Prop)(lt:Keyed->Keyed->Bool):Prop where
 go: ∀x y,D x->D y-> ∀st:SortSt,kindOf st=kd-> ∀Q:Option Bool->SortSt->Prop,Q (some (lt x y)) st->wpS M A E s (lt' x y) Q st
 tr: ∀x y z,lt y x=false->lt z y=false->lt z x=false
 as: ∀x y,lt x y=true->lt y x=false
variable{kd:SortKind}{D:Keyed->Prop}{lt:Keyed->Keyed->Bool}
abbrev Le(lt:Keyed->Keyed->Bool)(x y:Keyed):Prop:=lt y x=false
def Cmp.rf(C:Cmp M A E s kd D lt)(x:Keyed):Le lt x x:=by
 show lt x x=false
 cases h:lt x x with
 |false=>rfl
 |true=>exact absurd h (by rw[C.as x x h];simp)
def SL(lt:Keyed->Keyed->Bool)(l:List Keyed)(b n:Nat):Prop:= ∀i j x y,i<=j->j<n->l[b+i]? =some x->l[b+j]? =some y->lt y x=false
def WZ{st:SortSt}{v:Array Keyed}{i:Nat}{Q:Keyed->SortSt->Prop}{x:Keyed}(e:v.toList[i]? =some x)(h:Q x st):wpS M A E s (elem' v i) Q st:=by
 rw[elem'_eq];have:v[i]? =some x:=by rw[<-û];exact e
 rw[this];exact wpS_pure h
def Sv{v:Array Keyed}{i:Nat}(h:i<v.size): ∃x,v.toList[i]? =some x:=⟨v.toList[i]'(by simpa using h),gE _⟩
end
end Srt
namespace Srt
open PySem PyProof.Rows
abbrev V:=Array Keyed
abbrev L6:=Option V×V×Nat×Nat×Nat×Nat
abbrev L7:=Option V×V×Nat×Nat×Nat×Nat×Nat
abbrev dnL(a b o:V)(i j:Nat):V:=o++a.extract i a.size++b.extract j b.size
abbrev laL(a b o:V)(i j:Nat):V:=o++b.extract j b.size++a.extract i a.size
def one1(a b:V)(g:Nat)(c:L6):SM (ForInStep L6):=
 elem' b c.2.2.2.1 >>= λy=>elem' a c.2.2.1 >>= λx=>lt' y x >>= λr=>match r with
  |some q=>if q=true then elem' b c.2.2.2.1 >>= λy=>
     if(c.2.2.2.1+1==b.size)=true then pure (.done (some (dnL a b (c.2.1.push y) c.2.2.1 (c.2.2.2.1+1)),c.2.1.push y,c.2.2.1,c.2.2.2.1+1,0,c.2.2.2.2.2+1))
     else if c.2.2.2.2.2+1>=g then pure (.done (none,c.2.1.push y,c.2.2.1,c.2.2.2.1+1,0,c.2.2.2.2.2+1))
     else pure (.yield (none,c.2.1.push y,c.2.2.1,c.2.2.2.1+1,0,c.2.2.2.2.2+1))
    else elem' a c.2.2.1 >>= λx=>
     if(c.2.2.1+1+1==a.size)=true then pure (.done (some (laL a b (c.2.1.push x) (c.2.2.1+1) c.2.2.2.1),c.2.1.push x,c.2.2.1+1,c.2.2.2.1,c.2.2.2.2.1+1,0))
     else if c.2.2.2.2.1+1>=g then pure (.done (none,c.2.1.push x,c.2.2.1+1,c.2.2.2.1,c.2.2.2.2.1+1,0))
     else pure (.yield (none,c.2.1.push x,c.2.2.1+1,c.2.2.2.1,c.2.2.2.2.1+1,0))
  |_=>pure (.done (some (dnL a b c.2.1 c.2.2.1 c.2.2.2.1),c.2.1,c.2.2.1,c.2.2.2.1,c.2.2.2.2.1,c.2.2.2.2.2))
def in1(a b:V)(t g:Nat)(c:L6):SM L6:=forIn [0:t] c λ_ c=>one1 a b g c
end Srt
namespace Srt
open PySem PyProof.Rows
def Sg(st a:SortSt):Prop:= ∃g,a=SortSt.mk' (kindOf st) (arrOf st) (pendingOf st) g (failedOf st)
theorem Sg.kind{st a:SortSt}(h:Sg st a):kindOf a=kindOf st:=by obtain⟨g,rfl⟩:=h;rfl
section
variable{lt:Keyed->Keyed->Bool}{a b:V}
abbrev TwoA(lt:Keyed->Keyed->Bool)(a b o:V)(i j:Nat):Prop:=Two (Le lt) (a.toList++b.toList) o.toList (a.toList.drop i) (b.toList.drop j)
def FinA(lt:Keyed->Keyed->Bool)(a b r:V):Prop:=r.toList.Pairwise (Le lt)/\r.toList.Perm (a.toList++b.toList)
def TwoA.len{o:V}{i j:Nat}(h:TwoA lt a b o i j):o.size+((a.size - i)+(b.size - j))=a.size+b.size:=by have:=h.pm.length_eq;simpa [lA,ĉ]using this
def I1(lt:Keyed->Keyed->Bool)(a b o:V)(i j:Nat):Prop:=i+1<a.size/\j<b.size/\TwoA lt a b o i j
def N7(lt:Keyed->Keyed->Bool)(a b:V)(n:Nat)(c:L7):Prop:= ∃o i j g p q,c=(none,o,i,j,g,p,q)/\I1 lt a b o i j/\n<=o.size
def P7(lt:Keyed->Keyed->Bool)(a b:V)(n:Nat)(c:L7):Prop:=(∃r e,c=(some r,e)/\FinA lt a b r)\/N7 lt a b n c
end
end Srt
namespace Srt
open PySem PyProof.Rows
abbrev H5:=Option V×Nat×Nat×V×Nat
abbrev H6:=Option V×Nat×Nat×V×Nat×Nat
abbrev H7:=Option V×Nat×Nat×V×Nat×Nat×Nat
section
variable{lt:Keyed->Keyed->Bool}{a b:V}
abbrev TwoH(lt:Keyed->Keyed->Bool)(a b o:V)(i j:Nat):Prop:=TwoR (Le lt) (a.toList++b.toList) (a.toList.take i) (b.toList.take j) o.toList.reverse
theorem TwoH.len{o:V}{i j:Nat}(h:TwoH lt a b o i j)(h1:i<=a.size)(c:j<=b.size):o.size+(i+j)=a.size+b.size:=by
 have:=h.pm.length_eq;simp only[lA,lT,List.length_reverse,ú]at this
 lia
def J1(lt:Keyed->Keyed->Bool)(a b o:V)(i j:Nat):Prop:=1<=i/\i<=a.size/\2<=j/\j<=b.size/\TwoH lt a b o i j
def R6(lt:Keyed->Keyed->Bool)(a b:V)(n:Nat)(c:H6):Prop:= ∃i j o p q,c=(none,i,j,o,p,q)/\J1 lt a b o i j/\n<=o.size
def S6(lt:Keyed->Keyed->Bool)(a b:V)(n:Nat)(c:H6):Prop:=(∃r e,c=(some r,e)/\FinA lt a b r)\/R6 lt a b n c
end
end Srt
namespace Srt
open PySem PyProof.Rows
variable{m:Nat}{v:V}
abbrev C2:=Option (Option Nat)×Nat
abbrev C3:=Option (Option Nat)×Nat×Nat
def Xz(lo a n:Nat):SM C2:=forIn [a:n] ((none,a):C2) λ_ c=>ltAt' (lo+c.2) (lo+c.2 - 1) >>= λo=>match o with
 |some q=>if q=true then pure (.done (none,c.2))else pure (.yield (none,c.2+1))
 |_=>pure (.done (some none,c.2))
def tl3(lo m n:Nat):SM (Option Nat):=reverseSlice' lo (lo+m) >>= λ_=>Xz lo m n >>= λc=>match c.1 with
 |some r=>pure r
 |none=>pure (some c.2)
def Ya(lo a n:Nat):SM C3:=forIn [a:n] ((none,a,0):C3) λ_ c=>ltAt' (lo+c.2.1) (lo+c.2.1 - 1) >>= λo=>match o with
 |some q=>if q=true then
    if c.2.2>0 then reverseSlice' (lo+c.2.1 - (c.2.2+1)) (lo+c.2.1) >>= λ_=>pure (.yield (none,c.2.1+1,0))else pure (.yield (none,c.2.1+1,0))
   else ltAt' (lo+c.2.1 - 1) (lo+c.2.1) >>= λo=>match o with
    |some q=>if q=true then pure (.done (none,c.2.1,c.2.2))else pure (.yield (none,c.2.1+1,c.2.2+1))
    |_=>pure (.done (some none,c.2.1,c.2.2))
 |_=>pure (.done (some none,c.2.1,c.2.2))
def Yb(lo m n:Nat):SM (Option Nat):=liftM (rule "list.sort.descending-run") >>= λ_=>Ya lo (m+1) n >>= λc=>match c.1 with
 |some r=>pure r
 |none=>if c.2.2>0 then reverseSlice' (lo+c.2.1 - (c.2.2+1)) (lo+c.2.1) >>= λ_=>tl3 lo c.2.1 n else tl3 lo c.2.1 n
def O8(lo n:Nat):SM (Option Nat):=Xz lo 1 n >>= λc=>match c.1 with
 |some r=>pure r
 |none=>if(c.2==n)=true then pure (some c.2)else if c.2>1 then ltAt' lo (lo+c.2 - 1) >>= λo=>(match o with
    |some q=>if q=true then pure (some c.2)else reverseSlice' lo (lo+c.2) >>= λ_=>Yb lo c.2 n
    |_=>pure none)
   else Yb lo c.2 n
theorem II(lo n:Nat):countRun' lo n=O8 lo n:=by kernel_rfl
def binI(lo k:Nat):SM (Option Bool×Nat×Nat):=forIn [0:k] ((none,0,k):Option Bool×Nat×Nat) λ_ c=>
 if c.2.1>=c.2.2 then pure (.done (none,c.2.1,c.2.2))else ltAt' (lo+k) (lo+(c.2.1+c.2.2) / 2) >>= λo=>match o with
  |some q=>if q=true then pure (.yield (none,c.2.1,(c.2.1+c.2.2) / 2))else pure (.yield (none,(c.2.1+c.2.2) / 2+1,c.2.2))
  |_=>pure (.done (some false,c.2.1,c.2.2))
def O9(lo n ok:Nat):SM Bool:=(forIn [max ok 1:n] ((none,()):Option Bool×Unit) λk _=>binI lo k >>= λc=>match c.1 with
  |some r=>pure (.done (some r,()))
  |none=>moveDown' (lo+k) (lo+c.2.1) >>= λ_=>pure (.yield (none,()))) >>= λc=>match c.1 with
 |some r=>pure r
 |none=>pure true
theorem DL(lo n ok:Nat):binarySort' lo n ok=O9 lo n ok:=by kernel_rfl
def Kx(d:Keyed)(v:V)(i:Nat):Keyed:=(v[i]?).getD d
def qZ{d:Keyed}{u:V}{i j:Nat}(h:v[i]? =u[j]?):Kx d v i=Kx d u j:=by unfold Kx;rw[h]
def BO{d:Keyed}{i j:Nat}(a:j<=v.size)(k:Nat):Kx d (mirror v i j ((j - i) / 2)) k=if i<=k/\k<j then Kx d v (i+j - 1 - k)else Kx d v k:=by
 have e:=getElem?_mirror_all (i:=i) a k;by_cases h1:i<=k/\k<j
 .rw[iP h1]at e ⊢; exact qZ e
 .rw[iN h1]at e ⊢; exact qZ e
def JN{d:Keyed}{a:Nat}(hs:a<v.size)(c:m<=a)(k:Nat):
  Kx d (bubble v a m) k=if k=a - m then Kx d v a else if a - m<k/\k<=a then Kx d v (k - 1)else Kx d v k:=by
 have e:=getElem?_bubble hs m c k;by_cases h1:k=a - m
 .rw[iP h1]at e ⊢; exact qZ e
 .rw[iN h1]at e ⊢;by_cases b:a - m<k/\k<=a
  .rw[iP b]at e ⊢; exact qZ e
  .rw[iN b]at e ⊢; exact qZ e
structure SB(a₀:V)(kd:SortKind)(pd:Array (Nat×Nat×Nat))(f:V)(lo:Nat)(st:SortSt):Prop where
 pm:(arrOf st).Perm a₀
 kind:kindOf st=kd
 fl:failedOf st=none
 pd:pendingOf st=pd
 fx: ∀i,i<lo->(arrOf st)[i]? =f[i]?
section
variable{M:Model}{A:Ň}{E:VP}{s:Ņ}{kd:SortKind}{D:Keyed->Prop}{lt:Keyed->Keyed->Bool}{a₀ f:V}{pd:Array (Nat×Nat×Nat)}{lo:Nat}{st:SortSt}{d:Keyed}
def SB.size(h:SB a₀ kd pd f lo st):(arrOf st).size=a₀.size:=h.pm.size_eq
theorem SB.rev(h:SB a₀ kd pd f lo st){i j:Nat}(hi:lo<=i)(a:j<=a₀.size):SB a₀ kd pd f lo (setArr st (mirror (arrOf st) i j ((j - i) / 2))):=
 ⟨(mirror_perm _ _ _ _).trans h.pm,h.kind,h.fl,h.pd,λk b=>by show _[k]? =_;rw[getElem?_mirror_all (by rw[h.size];exact a),iN #[0]];exact h.fx k b⟩
theorem SB.bub(h:SB a₀ kd pd f lo st){i:Nat}(hi:lo+m<=i)(a:i<a₀.size):SB a₀ kd pd f lo (setArr st (bubble (arrOf st) i m)):=
 ⟨(bubble_perm _ _ _).trans h.pm,h.kind,h.fl,h.pd,λk b=>by show _[k]? =_;rw[getElem?_bubble (by rw[h.size];exact a) _ #[0],iN #[0],iN #[0]];exact h.fx k b⟩
def vR(C:Cmp M A E s kd D lt)(h:SB a₀ kd pd f lo st)(b: ∀x,x∈a₀.toList->D x){i j:Nat}(hi:i<a₀.size)(c:j<a₀.size){Q:Option Bool->SortSt->Prop}
  (hq:Q (some (lt (Kx d (arrOf st) i) (Kx d (arrOf st) j))) st):wpS M A E s (ltAt' i j) Q st:=by
 obtain⟨x,ex⟩:=Sv (by rw[h.size];exact hi);obtain⟨y,a⟩:=Sv (by rw[h.size];exact c);have e:=(Array.perm_iff_toList_perm.mp h.pm).mem_iff.mp (ô ex);have k:=(Array.perm_iff_toList_perm.mp h.pm).mem_iff.mp (ô a);have e1:Kx d (arrOf st) i=x:=by unfold Kx;rw[<-û,ex];rfl
 have e2:Kx d (arrOf st) j=y:=by unfold Kx;rw[<-û,a];rfl
 rw[e1,e2]at hq;refine wpS_bind (wpS_get ?_);exact wpS_bind (WZ ex (wpS_bind (WZ a (C.go x y (b x e) (b y k) st h.kind _ hq))))
def LQ{i j:Nat}{Q:Unit->SortSt->Prop}(h:Q () (setArr st (mirror (arrOf st) i j ((j - i) / 2)))):wpS M A E s (reverseSlice' i j) Q st:=by rw[reverseSlice'_eq];exact wpS_modify h
def Up(lt:Keyed->Keyed->Bool)(d:Keyed)(v:V)(lo n:Nat):Prop:= ∀i j,i<=j->j<n->Le lt (Kx d v (lo+i)) (Kx d v (lo+j))
def Dn(lt:Keyed->Keyed->Bool)(d:Keyed)(v:V)(lo n:Nat):Prop:= ∀i j,i<=j->j<n->Le lt (Kx d v (lo+j)) (Kx d v (lo+i))
theorem Up.step(C:Cmp M A E s kd D lt){x:Nat}(hs:Up lt d v lo x)(m:1<=x)(h:lt (Kx d v (lo+x)) (Kx d v (lo+x - 1))=false):Up lt d v lo (x+1):=by
 intro i j c k;by_cases e:j<x
 .exact hs i j c e
 .have a:j=x:=by lia
  subst a;by_cases b:i=j
  .subst b;exact C.rf _
  .have:=hs i (j - 1) #[0] #[0];rw[show lo+(j - 1)=lo+j - 1 by lia]at this;exact C.tr _ _ _ this h
theorem XA(C:Cmp M A E s kd D lt)(p: ∀x,x∈a₀.toList->D x)(h:SB a₀ kd pd f lo st){a n:Nat}(r:lo+n<=a₀.size)(q:1<=a)(i:a<=n)(hs:Up lt d (arrOf st) lo a){Q:C2->SortSt->Prop}
  (hq: ∀m,a<=m->m<=n->Up lt d (arrOf st) lo m->(m=n\/lt (Kx d (arrOf st) (lo+m)) (Kx d (arrOf st) (lo+m - 1))=true)->Q (none,m) st):wpS M A E s (Xz lo a n) Q st:=by
 refine wpS_forRange (I:=λx c e=>e=st/\c=(none,x)/\Up lt d _ lo x) ?_ ?_ ⟨rfl,rfl,hs⟩
 .rintro x c e j o ⟨rfl,rfl,b⟩;refine wpS_bind (vR (d:=d) C h p #[0] #[0] ?_)
  cases k:lt _ _ with
  |true=>exact wpS_pure (hq x j #[0] b (.inr k))
  |false=>exact wpS_pure ⟨rfl,rfl,b.step C #[0] k⟩
 .rintro c e ⟨rfl,rfl,b⟩;rw[show max a n=n by lia]at b ⊢;exact hq n i (à _) b (.inl rfl)
theorem Up.of_mirror(h:SB a₀ kd pd f lo st)(a:lo+m<=a₀.size)(hs:Dn lt d (arrOf st) lo m):Up lt d (mirror (arrOf st) lo (lo+m) ((lo+m - lo) / 2)) lo m:=by intro i j b c;rw[BO (by rw[h.size];exact a),BO (by rw[h.size];exact a),iP (by omega),iP #[0]];have:=hs (m - 1 - j) (m - 1 - i) (by omega) (by omega);rw[show lo+(m - 1 - j)=lo+(lo+m) - 1 - (lo+j) by omega,show lo+_=lo+(lo+m) - 1 - (lo+i) by omega]at this;exact this
theorem Gx(C:Cmp M A E s kd D lt)(e: ∀x,x∈a₀.toList->D x)(h:SB a₀ kd pd f lo st){n:Nat}(o:lo+n<=a₀.size)(h1:1<=m)(c:m<=n)(hs:Dn lt d (arrOf st) lo m){Q:Option Nat->SortSt->Prop}
  (hq: ∀m a,SB a₀ kd pd f lo a->1<=m->m<=n->Up lt d (arrOf a) lo m->Q (some m) a):wpS M A E s (tl3 lo m n) Q st:=by
 refine wpS_bind (LQ ?_);have h':=h.rev (j:=lo+m) (à _) #[0];exact wpS_bind (XA C e h' o h1 c (Up.of_mirror h #[0] hs) λk p b i _=>wpS_pure (hq k _ h' #[0] b i))
def P2(lt:Keyed->Keyed->Bool)(d:Keyed)(v:V)(i j:Nat):Prop:= ∀k l,i<=k->k<j->i<=l->l<j->Le lt (Kx d v k) (Kx d v l)
def Dn.mirror(C:Cmp M A E s kd D lt)(h:SB a₀ kd pd f lo st){i j n:Nat}(e:j<=a₀.size)(c:P2 lt d (arrOf st) i j)(hs:Dn lt d (arrOf st) lo n):Dn lt d (mirror (arrOf st) i j ((j - i) / 2)) lo n:=by
 have a: ∀k,Le lt (Kx d (PyProof.Rows.mirror (arrOf st) i j ((j - i) / 2)) k) (Kx d (arrOf st) k)/\Le lt (Kx d (arrOf st) k) (Kx d (PyProof.Rows.mirror (arrOf st) i j ((j - i) / 2)) k):=by
  intro k;rw[BO (by rw[h.size];exact e)];split
  .exact⟨c _ _ (by omega) (by omega) (by omega) (by omega),c _ _ (by omega) (by omega) (by omega) (by omega)⟩
  .exact⟨C.rf _,C.rf _⟩
 intro p q b m;exact C.tr _ _ _ (a _).1 (C.tr _ _ _ (hs p q b m) (a _).2)
theorem Ow(C:Cmp M A E s kd D lt)(L: ∀x,x∈a₀.toList->D x)(h:SB a₀ kd pd f lo st){a n:Nat}(Y:lo+n<=a₀.size)(h1:1<=a)(B:a<=n)(hs:Dn lt d (arrOf st) lo a){Q:C3->SortSt->Prop}
  (hq: ∀m e b,SB a₀ kd pd f lo b->a<=m->m<=n->Dn lt d (arrOf b) lo m->e+1<=m->P2 lt d (arrOf b) (lo+m - (e+1)) (lo+m)->Q (none,m,e) b):wpS M A E s (Ya lo a n) Q st:=by
 unfold Ya
 refine wpS_forRange (I:=λx c b=> ∃e,c=(none,x,e)/\SB a₀ kd pd f lo b/\Dn lt d (arrOf b) lo x/\e+1<=x/\P2 lt d (arrOf b) (lo+x - (e+1)) (lo+x)) ?_ ?_
  ⟨0,rfl,h,hs,by lia,λk l h1 S U T=>by rw[show k=l by lia];exact C.rf _⟩
 .rintro x c b F O ⟨e,rfl,q,o,p,r⟩;dsimp only;have one: ∀v:V,P2 lt d v (lo+(x+1) - (0+1)) (lo+(x+1)):=λv k l h1 S U T=>by rw[show k=l by lia];exact C.rf _
  refine wpS_bind (vR (d:=d) C q L #[0] #[0] ?_)
  cases H:lt _ _ with
  |true=>
   have J:Dn lt d (arrOf b) lo (x+1):=by
    intro i j w N;by_cases z:j<x
    .exact o i j w z
    .have u:j=x:=by lia
     subst u;by_cases y:i=j
     .subst y;exact C.rf _
     .have:=o i (j - 1) #[0] #[0];rw[show lo+(j - 1)=lo+j - 1 by lia]at this;exact C.tr _ _ _ (C.as _ _ H) this
   dsimp only;rw[iP rfl];by_cases K:e>0
   .rw[iP K];refine wpS_bind (LQ (wpS_pure ⟨0,rfl,q.rev #[0] #[0],J.mirror C q #[0] r,by lia,one _⟩))
   .rw[iN K];exact wpS_pure ⟨0,rfl,q,J,by lia,one _⟩
  |false=>
   dsimp only;rw[iN (by simp)];refine wpS_bind (vR (d:=d) C q L #[0] #[0] ?_)
   cases G:lt _ _ with
   |true=>exact wpS_pure (hq x e b q F #[0] o p r)
   |false=>
    refine wpS_pure ⟨_,rfl,q,λi j w N=>?_,by lia,λk l W k2 Z X=>?_⟩
    .by_cases z:j<x
     .exact o i j w z
     .have u:j=x:=by lia
      subst u;by_cases y:i=j
      .subst y;exact C.rf _
      .have:=o i (j - 1) #[0] #[0];rw[show lo+(j - 1)=lo+j - 1 by lia]at this;exact C.tr _ _ _ G this
    .by_cases P:k=lo+x
     .subst P;by_cases cl:l=lo+x
      .subst cl;exact C.rf _
      .exact C.tr _ _ _ G (r _ _ #[0] #[0] #[0] #[0])
     .by_cases cl:l=lo+x
      .subst cl;exact C.tr _ _ _ (r k _ #[0] #[0] #[0] #[0]) H
      .exact r _ _ #[0] #[0] #[0] #[0]
 .rintro c b ⟨e,rfl,q,o,p,r⟩;rw[show max a n=n by lia]at o p r ⊢;exact hq n e b q B (à _) o p r
theorem XB(C:Cmp M A E s kd D lt)(i: ∀x,x∈a₀.toList->D x)(h:SB a₀ kd pd f lo st){n:Nat}(b:lo+n<=a₀.size)(q:m+1<=n)(hs:Dn lt d (arrOf st) lo (m+1)){Q:Option Nat->SortSt->Prop}
  (hq: ∀m a,SB a₀ kd pd f lo a->1<=m->m<=n->Up lt d (arrOf a) lo m->Q (some m) a):wpS M A E s (Yb lo m n) Q st:=by
 refine wpS_bind (PJ ?_);refine wpS_bind (Ow C i h b #[0] q hs λk e a c u j p v r=>?_);by_cases o:e>0
 .rw[iP o];exact wpS_bind (LQ (Gx C i (c.rev #[0] #[0]) b #[0] j (p.mirror C c #[0] r) hq))
 .rw[iN o];exact Gx C i c b #[0] j p hq
theorem Ox(C:Cmp M A E s kd D lt)(o: ∀x,x∈a₀.toList->D x)(h:SB a₀ kd pd f lo st){n:Nat}(r:lo+n<=a₀.size)(h1:1<=n){Q:Option Nat->SortSt->Prop}
  (hq: ∀m b,SB a₀ kd pd f lo b->1<=m->m<=n->Up lt d (arrOf b) lo m->Q (some m) b):wpS M A E s (countRun' lo n) Q st:=by
 rw[II];unfold O8;refine wpS_bind (XA (d:=d) C o h r (à 1) h1 (λi j c v=>by rw[show i=j by lia];exact C.rf _) λm y z hs u=>?_);dsimp only;by_cases q:m=n
 .rw[iP (by simpa using q)];exact wpS_pure (hq m st h y z hs)
 .rw[iN (by simpa using q)];have e:=u.resolve_left q;by_cases w:m>1
  .rw[iP w];refine wpS_bind (vR (d:=d) C h o #[0] #[0] ?_)
   cases H:lt _ _ with
   |true=>exact wpS_pure (hq m st h y z hs)
   |false=>
    have all:P2 lt d (arrOf st) lo (lo+m):=by intro k l J L N K;have B:=hs 0 (l - lo) #[0] #[0];have F:=hs (k - lo) (m - 1) #[0] #[0];rw[show lo+0=lo by lia,show lo+_=l by lia]at B;rw[show lo+(k - lo)=k by lia,show lo+(m - 1)=lo+m - 1 by lia]at F;exact C.tr _ _ _ F (C.tr _ _ _ H B)
    have G:Dn lt d (arrOf st) lo (m+1):=by
     intro i j c v;by_cases I:j<m
     .exact all _ _ #[0] #[0] #[0] #[0]
     .have p:j=m:=by lia
      subst p;by_cases a:i=j
      .subst a;exact C.rf _
      .exact C.tr _ _ _ (C.as _ _ e) (all _ _ #[0] #[0] #[0] #[0])
    dsimp only;rw[iN (by simp)];exact wpS_bind (LQ (XB C o (h.rev (à _) #[0]) r #[0] (G.mirror C h #[0] all) hq))
  .rw[iN w];have:m=1:=by lia
   subst this;refine XB C o h r #[0] (λi j c v=>?_) hq;by_cases a:i=j
   .subst a;exact C.rf _
   .rw[show i=0 by lia,show j=1 by lia];exact C.as _ _ e
theorem Oy(C:Cmp M A E s kd D lt)(P: ∀x,x∈a₀.toList->D x)(h:SB a₀ kd pd f lo st){n ok:Nat}(T:lo+n<=a₀.size)(S:ok<=n)(hs:Up lt d (arrOf st) lo ok){Q:Bool->SortSt->Prop}
  (hq: ∀a,SB a₀ kd pd f lo a->Up lt d (arrOf a) lo n->Q true a):wpS M A E s (binarySort' lo n ok) Q st:=by
 rw[DL];unfold O9
 refine wpS_bind (wpS_mono (wpS_forRange (I:=λk c a=>c=(none,())/\SB a₀ kd pd f lo a/\Up lt d (arrOf a) lo (min k n))
  (Q:=λc a=>c=(none,())/\SB a₀ kd pd f lo a/\Up lt d (arrOf a) lo n) ?_ ?_ ?_) ?_)
 .rintro k c a N K ⟨rfl,p,e⟩;rw[show min k n=k by lia]at e;unfold binI
  refine wpS_bind (wpS_mono (wpS_forRange (I:=λx c b=>b=a/\ ∃l r,c=(none,l,r)/\l<=r/\r<=k/\r - l<=k - x/\
    (∀i,i<l->Le lt (Kx d (arrOf a) (lo+i)) (Kx d (arrOf a) (lo+k)))/\(∀i,r<=i->i<k->Le lt (Kx d (arrOf a) (lo+k)) (Kx d (arrOf a) (lo+i))))
   (Q:=λc b=>b=a/\ ∃l r,c=(none,l,r)/\l<=k/\
    (∀i,i<l->Le lt (Kx d (arrOf a) (lo+i)) (Kx d (arrOf a) (lo+k)))/\(∀i,l<=i->i<k->Le lt (Kx d (arrOf a) (lo+k)) (Kx d (arrOf a) (lo+i)))) ?_ ?_ ?_) ?_)
  .rintro x c b _ O ⟨rfl,l,r,rfl,z,q,H,m,o⟩;dsimp only;by_cases y:l>=r
   .rw[iP y];have:l=r:=by lia
    subst this;exact wpS_pure ⟨rfl,l,l,rfl,q,m,o⟩
   .rw[iN y];refine wpS_bind (vR (d:=d) C p P #[0] #[0] ?_)
    cases F:lt _ _ with
    |true=>exact wpS_pure ⟨rfl,l,_,rfl,by lia,by lia,by lia,m,λi h1 B=>C.tr _ _ _ (C.as _ _ F) (e _ _ h1 B)⟩
    |false=>exact wpS_pure ⟨rfl,_,r,rfl,by lia,by lia,by lia,λi h1=>C.tr _ _ _ (e i ((l+r) / 2) #[0] #[0]) F,o⟩
  .rintro c b ⟨rfl,l,r,rfl,z,q,H,m,o⟩;have:l=r:=by lia
   subst this;exact⟨rfl,l,l,rfl,q,m,o⟩
  .exact⟨rfl,0,k,rfl,by lia,by lia,by lia,λi hi=>by lia,λi h1 B=>by lia⟩
  .rintro c b ⟨rfl,l,r,rfl,J,m,o⟩;dsimp only;rw[moveDown'_eq];have v:lo+k<(arrOf b).size:=by rw[p.size];lia
   refine wpS_bind (wpS_modify (wpS_pure ⟨rfl,?_,?_⟩))
   .exact p.bub #[0] #[0]
   .rw[show min (k+1) n=k+1 by lia];intro i j w G;show Le lt _ _;rw[JN v #[0],JN v #[0],show lo+k - _=lo+l by lia];have u: ∀i,1<=i->lo+i - 1=lo+(i - 1):=λi hi=>by lia
    repeat' split
    all_goals first
     |(exfalso;lia)
     |exact C.rf _
     |exact m _ #[0]
     |(rw[u _ #[0]];exact o _ #[0] #[0])
     |exact o _ #[0] #[0]
     |exact e _ _ #[0] #[0]
     |(rw[u i #[0]];exact e _ _ #[0] #[0])
     |(rw[u j #[0]];exact e _ _ #[0] #[0])
     |(rw[u i #[0],u j #[0]];exact e _ _ #[0] #[0])
     |(rw[u i #[0]];exact m _ #[0])
 .rintro c a ⟨L,p,e⟩;refine⟨L,p,?_⟩;rwa [show min _ n=n by lia]at e
 .refine⟨rfl,h,λi j w G=>?_⟩;by_cases h1:ok=0
  .rw[show i=j by lia];exact C.rf _
  .exact hs i j w #[0]
 .rintro c a ⟨rfl,p,e⟩;exact wpS_pure (hq a p e)
end
end Srt
namespace Srt
open PySem PyProof.Rows
section
variable{kd:SortKind}{lt:Keyed->Keyed->Bool}{a₀:V}{pd:Array (Nat×Nat×Nat)}{lo:Nat}{st:SortSt}{d:Keyed}
def Up.sl{v:V}{n:Nat}(h:Up lt d v lo n):SL lt v.toList lo n:=by
 intro i j x y h1 b a c;have e1:Kx d v (lo+i)=x:=by unfold Kx;rw[<-û,a];rfl
 have e2:Kx d v (lo+j)=y:=by unfold Kx;rw[<-û,c];rfl
 have:=h i j h1 b;rw[e1,e2]at this;exact this
theorem SL.pw{l:List Keyed}{n:Nat}(h:SL lt l lo n):((l.drop lo).take n).Pairwise (Le lt):=by rw[List.pairwise_iff_getElem];intro i j hi a b;rw[lT]at hi a;rw[List.getElem_take,List.getElem_take,List.getElem_drop,List.getElem_drop];exact h i j _ _ #[0] #[0] (gE _) (gE _)
structure Out(a₀:V)(kd:SortKind)(lt:Keyed->Keyed->Bool)(n:Nat)(st:SortSt):Prop where
 pm:(arrOf st).toList.Perm a₀.toList
 kind:kindOf st=kd
 fl:failedOf st=none
 pd: ∃w,pendingOf st=#[(0,n,w)]
 so:(arrOf st).toList.Pairwise (Le lt)
end
end Srt
namespace Srt
open PySem PyProof.Rows
abbrev U2:=Option Unit×Nat
abbrev U1:=Option Unit×Unit
def psh(lo n:Nat):SM (ForInStep U2):=(modify λs=>setPending s ((pendingOf s).push (lo,n,0))) >>= λ_=>pure (.yield (none,lo+n))
def nxt(N lo n:Nat):SM (ForInStep U2):=get >>= λst=>match (pendingOf st).back? with
 |some (a,b,_)=>(forIn [0:N] ((none,()):U1) λ_ _=>get >>= λst=>(match (if(pendingOf st).size>1 then(pendingOf st)[(pendingOf st).size - 2]? else none)with
   |some (_,_,z)=>if z<=power' N (2 * a+b) (2 * a+b+b+n) N then pure (.done (none,()))else mergeAt' ((pendingOf st).size - 2) >>= λq=>if(!q)=true then pure (.done (some (),()))else pure (.yield (none,()))
   |_=>pure (.done (none,())))) >>= λc=>(match c.1 with
  |some r=>pure (.done (some r,lo))
  |none=>(modify λs=>setPending s ((pendingOf s).modify ((pendingOf s).size - 1) λ(u,v,_)=>(u,v,power' N (2 * a+b) (2 * a+b+b+n) N))) >>= λ_=>psh lo n)
 |_=>psh lo n
def runs(N r:Nat):SM U2:=forIn [0:N] ((none,0):U2) λ_ c=>if c.2>=N then pure (.done (none,c.2))else countRun' c.2 (N - c.2) >>= λo=>match o with
 |some m=>if m<r then liftM (rule "list.sort.binary-insertion") >>= λ_=>binarySort' c.2 (min (N - c.2) r) m >>= λq=>if(!q)=true then pure (.done (some (),c.2))else nxt N c.2 (min (N - c.2) r)
   else nxt N c.2 m
 |_=>pure (.done (some (),c.2))
def P4(N:Nat):SM U1:=forIn [0:N] ((none,()):U1) λ_ _=>get >>= λst=>if(pendingOf st).size<=1 then pure (.done (none,()))else
 mergeAt' (if Option.any (λx=>decide (x<((pendingOf st)[(pendingOf st).size - 2+1]?).elim 0 λx=>x.2.1)) (if(pendingOf st).size - 2>0 then Option.map (λx=>x.2.1) (pendingOf st)[(pendingOf st).size - 2 - 1]? else none)=true
  then(pendingOf st).size - 2 - 1 else(pendingOf st).size - 2) >>= λq=>if(!q)=true then pure (.done (some (),()))else pure (.yield (none,()))
def sRun:SM Unit:=get >>= λst=>runs (arrOf st).size (minRun' (arrOf st).size (arrOf st).size 0) >>= λc=>match c.1 with
 |some r=>pure r
 |none=>P4 (arrOf st).size >>= λc=>match c.1 with
  |some r=>pure r
  |none=>pure ()
theorem IK:sortRuns'=sRun:=by kernel_rfl
section
variable{M:Model}{A:Ň}{E:VP}{s:Ņ}{kd:SortKind}{lt:Keyed->Keyed->Bool}{a₀ f:V}{pd:Array (Nat×Nat×Nat)}{lo:Nat}{st:SortSt}
theorem SB.free{a:Array (Nat×Nat×Nat)}(h:SB a₀ kd pd f lo st)(g:V):SB a₀ kd a g 0 (setPending st a):=⟨h.pm,h.kind,h.fl,rfl,λ_ hi=>by lia⟩
def Yc{lo n:Nat}{Q:ForInStep U2->SortSt->Prop}(h:Q (.yield (none,lo+n)) (setPending st ((pendingOf st).push (lo,n,0)))):wpS M A E s (psh lo n) Q st:=
 wpS_bind (wpS_modify (wpS_pure h))
def W6(a₀:V)(lt:Keyed->Keyed->Bool)(st:SortSt):Prop:=(arrOf st).toList.Perm a₀.toList/\failedOf st=none/\(arrOf st).toList.Pairwise (Le lt)
end
end Srt
namespace Srt
open PySem PyProof.Rows
section
variable{M:Model}{A:Ň}{E:VP}{s:Ņ}{kd:SortKind}{D:Keyed->Prop}{lt:Keyed->Keyed->Bool}{a₀:V}{pd:Array (Nat×Nat×Nat)}{st:SortSt}{d:Keyed}
theorem Gy{N:Nat}(a:2<=N)(h:N<64):minRun' N N 0=N:=by
 obtain⟨g,rfl⟩: ∃g,N=g+1:=⟨N - 1,by lia⟩
 rw[minRun'_succ,iP h]
def W7(a₀:V)(kd:SortKind)(lt:Keyed->Keyed->Bool)(st:SortSt):Prop:=SB a₀ kd #[(0,a₀.size,0)] a₀ 0 st/\SL lt (arrOf st).toList 0 a₀.size
theorem Gz(C:Cmp M A E s kd D lt)(u: ∀x,x∈a₀.toList->D x)(d:Keyed)(J:2<=a₀.size)(h:SB a₀ kd #[] a₀ 0 st){Q:U2->SortSt->Prop}
  (hq: ∀a,W7 a₀ kd lt a->Q (none,a₀.size) a):wpS M A E s (runs a₀.size a₀.size) Q st:=by
 refine wpS_forRange (I:=λx c a=>(x=0/\c=_/\SB a₀ kd #[] a₀ 0 a)\/(1<=x/\c=(none,a₀.size)/\W7 a₀ kd lt a)) ?_ ?_ (.inl ⟨rfl,rfl,h⟩)
 .rintro x c a _ z (⟨rfl,rfl,B⟩|⟨G,rfl,p⟩)
  .dsimp only;rw[iN #[0]]
   have v: ∀b,SB a₀ kd #[] a₀ 0 b->Up lt d (arrOf b) 0 a₀.size-> ∀R:ForInStep U2->SortSt->Prop,(∀a,W7 a₀ kd lt a->R (.yield (none,a₀.size)) a)->wpS M A E s (nxt a₀.size 0 a₀.size) R b:=by
    intro b i j R H;refine wpS_bind (wpS_get ?_);have w:(pendingOf b).back? =none:=by rw[i.pd];rfl
    rw[w];dsimp only;refine Yc ?_;have e:(pendingOf b).push (0,a₀.size,0)=#[(0,a₀.size,0)]:=by rw[i.pd];rfl
    rw[e,Ħ];exact H _ ⟨i.free a₀,j.sl⟩
   refine wpS_bind (Ox (d:=d) C u B #[0] #[0] λm b i y F j=>?_);dsimp only;by_cases r:m<a₀.size
   .rw[iP r];refine wpS_bind (PJ ?_);rw[Nat.sub_zero,Nat.min_self];refine wpS_bind (Oy C u i #[0] #[0] j λk n o=>?_);rw[iN (by simp)];exact v k n o _ λ_ q=>.inr ⟨by lia,rfl,q⟩
   .rw[iN r];obtain rfl:m=a₀.size:=by lia
    exact v b i j _ λ_ q=>.inr ⟨by lia,rfl,q⟩
  .dsimp only;rw[iP (à _)];exact wpS_pure (hq a p)
 .rintro c a (⟨z,_⟩|⟨_,rfl,p⟩)
  .lia
  .exact hq a p
theorem Ha(e:2<=a₀.size)(h:W7 a₀ kd lt st){Q:U1->SortSt->Prop}(b: ∀a,W6 a₀ lt a->Q (none,()) a):wpS M A E s (P4 a₀.size) Q st:=by
 have d:W6 a₀ lt st:=⟨Array.perm_iff_toList_perm.mp h.1.pm,h.1.fl,by have:=h.2.pw;rwa [List.drop_zero,take_of_length_le (by rw[ú,h.1.size];lia)]at this⟩
 refine wpS_forRange (I:=λ_ c a=>c=_/\a=st) ?_ ?_ ⟨rfl,rfl⟩
 .rintro x c a _ _ ⟨rfl,rfl⟩;refine wpS_bind (wpS_get ?_);rw[iP (by rw[h.1.pd];simp)];exact wpS_pure (b _ d)
 .rintro c a ⟨rfl,rfl⟩;exact b _ d
theorem LR(C:Cmp M A E s kd D lt)(j: ∀x,x∈(arrOf st).toList->D x)(d:Keyed)(e:2<=(arrOf st).size)(c:(arrOf st).size<64)(h:kindOf st=kd)(o:pendingOf st=#[])(n:failedOf st=none)
  {Q:Unit->SortSt->Prop} (hq: ∀a,W6 (arrOf st) lt a->Q () a):wpS M A E s sortRuns' Q st:=by
 rw[IK];refine wpS_bind (wpS_get ?_);rw[Gy e c];refine wpS_bind (Gz C j d e ⟨Array.Perm.refl _,h,n,o,λ_ hi=>by lia⟩ λi m=>?_);refine wpS_bind (Ha e m λb k=>?_);exact wpS_pure (hq b k)
end
end Srt
namespace Srt
open PySem PyProof.Rows
abbrev Rn:=Nat×Nat×Nat
def RunsOk(lt:Keyed->Keyed->Bool)(l:List Keyed):Nat->List Rn->Nat->Prop
 |p,[],q=>p=q
 |p,r::rs,q=>r.1=p/\1<=r.2.1/\SL lt l p r.2.1/\RunsOk lt l (p+r.2.1) rs q
section
variable{lt:Keyed->Keyed->Bool}{l:List Keyed}
theorem RunsOk.le: ∀{rs:List Rn}{p q:Nat},RunsOk lt l p rs q->p+rs.length<=q
 |[],p,q,h=>by cases h;exact à _
 |r::rs,p,q,h=>by
  have:=RunsOk.le h.2.2.2;have:=h.2.1;rw[lC]
  lia
end
section
variable{kd:SortKind}{lt:Keyed->Keyed->Bool}{a₀:V}{st:SortSt}
structure ST(a₀:V)(kd:SortKind)(lt:Keyed->Keyed->Bool)(rs:List Rn)(q:Nat)(st:SortSt):Prop where
 pm:(arrOf st).toList.Perm a₀.toList
 kind:kindOf st=kd
 fl:failedOf st=none
 pd:pendingOf st=rs.toArray
 ok:RunsOk lt (arrOf st).toList 0 rs q
 le:q<=a₀.size
def ST.size{rs:List Rn}{q:Nat}(h:ST a₀ kd lt rs q st):(arrOf st).size=a₀.size:=by have:=h.pm.length_eq;simpa using this
end
end Srt
namespace Srt
open PySem PyProof.Rows
section
variable{A:Ň}{E:VP}{s:Ņ}
def Oz{α β:Type}{f:α->Sem β}{g:α->β}{M:Model}(l:List α)(h: ∀x,x∈l->wpAny M A (f x) (λr s'=>s'=s/\r=g x) E s):wpAny M A (l.mapM f) (λr s'=>s'=s/\r=l.map g) E s:=by
 induction l with
 |nil=>rw[List.mapM_nil];exact wP ⟨rfl,rfl⟩
 |cons x l ih=>
  rw[List.mapM_cons];refine wB (ā (h x mF0) (λr s' a=>?_) λ_ _ e=>e);rw[a.1,a.2];refine wB (ā (ih λy b=>h y (mO _ b)) (λr s' a=>?_) λ_ _ e=>e);rw[a.1,a.2];exact wP ⟨rfl,rfl⟩
def PK{α β:Type}{f:α->Sem β}{g:α->β}{M:Model}{l:List α}(h: ∀x,x∈l->wpAny M A (f x) (λr s'=>s'=s/\r=g x) E s):wpAny M A (l.toArray.mapM f) (λr s'=>s'=s/\r=(l.map g).toArray) E s:=by rw[List.mapM_toArray];show wpAny M A _ _ E s;refine wB (ā (Oz l h) (λr s' a=>?_) λ_ _ e=>e);obtain⟨rfl,rfl⟩:=a;exact wP ⟨rfl,rfl⟩
def TupAt(h:Heap)(a:Addr)(its:B0):Prop:= ∃o n,h.get? a=some o/\o.cls=.type "tuple"/\o.data=.seq its.toArray n
def Hb{M:Model}{a:Addr}{its:B0}(h:TupAt s.heap a its):wpAny M A (firstOfTuple' (.ref a)) (λr s'=>s'=s/\r=its[0]?) E s:=by obtain⟨o,n,h1,c,b⟩:=h;refine wB (į ⟨o,h1,c⟩ ?_);refine wB (listItems_at h1 b ?_);exact wP ⟨rfl,by simp⟩
end
end Srt
namespace Srt
open PySem PyProof.Rows
inductive LexS(A:Ň)(s:Ņ):List ņ->List ņ->Bool->Prop
 |nn:LexS A s [] [] false
 |nc (x xs):LexS A s [] (x::xs) true
 |cn (y ys):LexS A s (y::ys) [] false
 |eq {y x ys xs k}:SeqAt.EqAt A s y x true->LexS A s ys xs k->LexS A s (y::ys) (x::xs) k
 |ne {y x ys xs k}:SeqAt.EqAt A s y x false->(∀(prog:ň)(w:World)(E Q:VP),Q (.bool k) s->wpAny (model prog w) A (richCompare .Lt y x) Q E s)->LexS A s (y::ys) (x::xs) k
section
variable{prog:ň}{w:World}{A:Ň}{E:VP}{s:Ņ}
def TR{b:Bool}{Q:Bool->Ņ->Prop}(h:Q b s):wpAny (model prog w) A (truthOfDropped (.bool b)) Q E s:=Ć h
def wp_lt{kd:SortKind}{x y:Keyed}{k:Bool}{st:SortSt}(a:kindOf st=kd)(h: ∀(E:VP)(Q:Bool->Ņ->Prop),Q k s->wpAny (model prog w) A (keyLt' kd x.1 y.1) Q E s){Q:Option Bool->SortSt->Prop}(b:Q (some k) st):
  wpS (model prog w) A E s (lt' x y) Q st:=by
 rw[lt'_eq];refine wpS_bind (wpS_get ?_);rw[a];refine wpS_bind (wpS_lift (wpAny_attempt (h _ _ ⟨rfl,?_⟩)));exact wpS_pure b
end
end Srt
namespace Srt
open PySem PyProof.Rows
section
variable{prog:ň}{w:World}{A:Ň}{E:VP}{s:Ņ}
theorem Hc{m n:Nat}{k:Bool}(vs ws:B0)(i:Nat)(a:LexS A s vs ws k):1<=i->vs.length+n=ws.length+m->
   wpAny (model prog w) A (forIn ((vs.zip ws).zipIdx i) ((none,()):Option Bool×Unit) λz _=>eqBool z.1.1 z.1.2 >>= λe=>if(!e)=true then oneLt' (true&&z.2==0) z.1.1 z.1.2 >>= λr=>pure (.done (some r,()))else pure (.yield (none,())))
    (λr s'=>s'=s/\(r=(some k,())\/(r=(none,())/\k=decide (m<n)))) E s:=by
 induction a generalizing i with
 |nn=>intro hi h;rw[zip_nil_left,zipIdx_nil];exact wP ⟨rfl,.inr ⟨rfl,(dF0 (by simp at h;lia)).symm⟩⟩
 |nc x xs=>intro hi h;rw[zip_nil_left,zipIdx_nil];exact wP ⟨rfl,.inr ⟨rfl,(dT0 (by simp at h;lia)).symm⟩⟩
 |cn y ys=>intro hi h;rw[List.zip_nil_right,zipIdx_nil];exact wP ⟨rfl,.inr ⟨rfl,(dF0 (by simp at h;lia)).symm⟩⟩
 |eq he hr ih=>
  intro hi h;rw[Ė,List.zipIdx_cons,forIn_cons];refine wB (wB (he prog w E _ ?_));exact wP (ih _ #[0] (by simpa using(by simp at h;lia)))
 |ne he hr=>
  intro hi h;refine wB (wB (he prog w E _ ?_));simp only[Ĺ];rw[show(i==0)=false by simp;lia];refine wB (wB (hr prog w E _ (TR ?_)));exact wP (wP ⟨rfl,.inl rfl⟩)
end
end Srt
namespace Srt
open PySem PyProof.Rows
section
variable{prog:ň}{w:World}{A:Ň}{E:VP}{s:Ņ}
def sort_plainS{a:Addr}{vs:B0}{L:Nat}{P:PySem.Fin->Ņ->Prop}(n:s.heap.get? a=some (seqObj "list" vs.toArray L))(T:vs.length<64)
  (hk: ∀d:Ņ,d={s with heap:=((s.heap.update a (Obj.mapSeq λ_=>#[])).push (seqObj "tuple" vs.toArray 0)).push (seqObj "list" #[] 0)}-> ∃(kd:SortKind)(D:Keyed->Prop)(lt:Keyed->Keyed->Bool),
   (2<=vs.length->wpAny (model prog w) A (keyKind' vs.toArray) (λk s'=>s'=d/\k=kd) E d/\Cmp (model prog w) A E d kd D lt/\ ∀p,p∈vs.zip vs->D p)/\
   ∀out:List Keyed,out.Perm (vs.zip vs)->out.Pairwise (Le lt)->P (.done (.ret .none)) {d with heap:=d.heap.update a (Obj.mapSeq λ_=>(out.map (·.2)).toArray)}):
  wpAny (model prog w) A (Builtin.«list.sort» ⟨[.ref a],[]⟩) P E s:=by
 unfold Builtin.«list.sort»;dsimp only;rw[iN (by simp),iN (by simp)];rw[forIn_nil];refine wB (wP ?_);have e1:List.lookup (Str.ofString "key") ([]:List (Str×ņ))=none:=rfl;have e2:List.lookup (Str.ofString "reverse") ([]:List (Str×ņ))=none:=rfl;rw[e1,e2];refine wB (wP ?_);have Y:a<s.heap.objs.size:=â n;refine wB (listItems_at n rfl ?_);refine wB (listUpdate_at n rfl ?_);obtain⟨q,G⟩: ∃q,(s.heap.update a (Obj.mapSeq λ_=>#[])).get? a=some (seqObj "list" #[] q):=⟨_,get?_update_seq n (λ_=>#[])⟩
 dsimp only;refine wB (seqEpoch_at G rfl ?_);refine wB (wpAny_newTuple ?_);refine wB (wpAny_newList ?_);refine Ă ?_;rw[iN (by simp)];dsimp only;generalize i:({s with heap:=((s.heap.update a (Obj.mapSeq λ_=>#[])).push (seqObj "tuple" vs.toArray 0)).push (seqObj "list" #[] 0)}:Ņ)=d;have z:d.heap.get? a=some (seqObj "list" #[] q):=by rw[<-i];exact hP0 _ (hP0 _ G)
 obtain⟨kd,D,lt,J,O⟩:=hk d i.symm;rw[iN (by simp)];refine wB (wP ?_);rw[iN (by simp)]
 have m: ∀st:SortSt,failedOf st=none->(arrOf st).toList.Perm (vs.zip vs)->(arrOf st).toList.Pairwise (Le lt)->
   wpAny (model prog w) A (do
    let e <-seqEpoch a
    Builtin.List.listUpdate (.ref a) λ_=>(arrOf st).map (·.2)
    if(e !=q)=true then rule "list.sort.modified" >>= λ_=>raiseErrorWords "ValueError" "list modified during sort" >>= λ(_:Unit)=>ret .none else ret .none) P E d:=by
  intro st hf j hs;refine wB (seqEpoch_at z rfl ?_);have C:((arrOf st).map (·.2)).size<=sizeLine+1:=by rw[Array.size_map, <-ú,j.length_eq,length_zip];have:=ď;omega
  refine wB (listUpdate_at z rfl ?_);rw[iN (by simp)];have U:(arrOf st).map (·.2)=((arrOf st).toList.map (·.2)).toArray:=by rw[<-Array.toList_map]
  rw[U];exact wP (O _ j hs)
 by_cases b:vs.toArray.size<2
 .rw[iP b,iP b];refine wB (wP ?_);rw[StateT.run_pure];refine wB (wP ?_);rw[iN (by simp)];have S:(vs.zip vs).length<=1:=by rw[length_zip];simp at b;omega
  refine m _ rfl ?_ ?_
  .show(vs.toArray.zip vs.toArray).toList.Perm _;simp
  .show(vs.toArray.zip vs.toArray).toList.Pairwise _;have:(vs.toArray.zip vs.toArray).toList=vs.zip vs:=by simp
   rw[this]
   match vs.zip vs,S with
   |[],_=>exact .nil
   |[x],_=>exact pairwise_singleton _ _
   |x::y::r,h=>simp at h
 .rw[iN b,iN b];obtain⟨K,W,N⟩:=J (by simp at b;omega);refine wB (ā K (λk s' u=>?_) λ_ _ e=>e);obtain⟨rfl,rfl⟩:=u;have o:(arrOf (SortSt.mk' k (vs.toArray.zip vs.toArray) #[] 7 none)).toList=vs.zip vs:=by show(vs.toArray.zip vs.toArray).toList=_;simp
  have B:(arrOf (SortSt.mk' k (vs.toArray.zip vs.toArray) #[] 7 none)).size=vs.length:=by rw[<-ú,o,length_zip,Nat.min_self]
  refine wB (ā (LR (st:=SortSt.mk' k (vs.toArray.zip vs.toArray) #[] 7 none) W (λp j=>N p (by rw[o]at j;exact j)) (.none,.none) (by rw[B];simp at b;omega) (by rw[B];exact T) rfl rfl rfl
   (Q:=λ_ c=>W6 _ lt c) λc h=>h) (λr Z M=>?_) λ_ _ e=>e)
  obtain⟨⟨⟩,c⟩:=r;obtain⟨rfl,X,H,I⟩:=M;dsimp only;rw[iN (by simp)];have F:=m c H (by rw[<-o];exact X) I;have v:failedOf c=none:=H;unfold failedOf at v;rw[v];exact F
end
end Srt
namespace Srt
open PySem PyProof.Rows
section
variable{A:Ň}{E:VP}{s:Ņ}
def PL{M:Model}{l:B0}(i:l≠[])(h: ∀x,x∈l-> ∃z tk,x=.int z tk):wpAny M A (oneTypeOnly' l.toArray) (λr s'=>s'=s/\r=some (.type "int")) E s:=by
 refine wB (ā (PK (g:=λ_=>Value.type "int") λx d=>?_) (λr s' b=>?_) λ_ _ e=>e)
 .obtain⟨z,tk,rfl⟩:=h x d;exact wP ⟨rfl,rfl⟩
 .obtain⟨rfl,rfl⟩:=b
  match l,i with
  |x::l,_=>
   have c:(List.map (λ_=>Value.type "int") (x::l)).toArray[0]? =some (Value.type "int"):=by simp
   have a:((List.map (λ_=>Value.type "int") (x::l)).toArray.all λx=>x==Value.type "int")=true:=by simp only[List.all_toArray,all_map,ó];intro _ _;rfl
   rw[c];dsimp only;rw[a];exact wP ⟨rfl,rfl⟩
def wp_kindI{M:Model}{c:B0}(p:c≠[])(h: ∀x,x∈c-> ∃a its z tk r,x=.ref a/\TupAt s.heap a its/\its=.int z tk::r):
  wpAny M A (keyKind' c.toArray) (λk s'=>s'=s/\k=tuples' true) E s:=by
 have m: ∀x, ∃y:Option ņ,x∈c->(∃z tk,y=some (.int z tk))/\ ∀M:Model,wpAny M A (firstOfTuple' x) (λr s'=>s'=s/\r=y) E s:=by
  intro x;by_cases d:x∈c
  .obtain⟨a,its,z,tk,r,rfl,h1,rfl⟩:=h x d;exact⟨some _,λ_=>⟨⟨z,tk,rfl⟩,λM=>Hb h1⟩⟩
  .exact⟨none,λz=>absurd z d⟩
 let g:=λx=>Classical.choose (m x);have gs: ∀x,x∈c->(∃z tk,g x=some _)/\ ∀M:Model,wpAny M A _ (λr s'=>s'=s/\r=g x) E s:=λx d=>Ā (m x) d;refine wB (ā (PK λx d=>(gs x d).2 M) (λr s' j=>?_) λ_ _ e=>e);obtain⟨rfl,rfl⟩:=j;rw[iP (by simp only[List.all_toArray,all_map,ó];intro x d;obtain⟨⟨b,i,e⟩,_⟩:=gs x d;show(g x).isSome=true;rw[e];rfl)];refine wB (Ĭ ?_);have ef:(c.map g).toArray.filterMap id=((c.map g).filterMap id).toArray:=by simp
 rw[ef];refine wB (ā (PL ?_ ?_) (λr s' j=>?_) λ_ _ e=>e)
 .match c,p,gs with
  |x::l,_,gs=>
   obtain⟨⟨b,i,e⟩,_⟩:=gs x mF0;rw[è,e];simp
 .intro x d;obtain⟨y,q,e⟩:=mem_filterMap.mp d;obtain⟨z,o,n⟩:=mM.mp q;obtain⟨⟨b,i,e2⟩,_⟩:=gs z o;have:some x=some (Value.int b i):=by rw[<-e2,n];exact e.symm
  cases this;exact⟨b,i,rfl⟩
 .obtain⟨rfl,rfl⟩:=j;refine wP ⟨rfl,?_⟩;have:((some (Value.type "int")).any λx=>x !=Value.type "tuple")=true:=by rfl
  rw[this]
end
end Srt
namespace Srt
open PySem PyProof.Rows
section
variable{prog:ň}{w:World}{A:Ň}{E:VP}{s:Ņ}
theorem wp_keyLtI{l b:Addr}{x y:Int}{t u:Tok}{r a:B0}{e k:Bool}{Q:Bool->Ņ->Prop}(i:TupAt s.heap l (.int x t::r))(c:TupAt s.heap b (.int y u::a))(o:SeqAt.EqAt A s (.int x t) (.int y u) e)
  (hx:if e=true then LexS A s r a k else k=decide (x<y)) (hq:Q k s):
  wpAny (model prog w) A (keyLt' (tuples' true) (.ref l) (.ref b)) Q E s:=by
 obtain⟨z,D,p,_,d⟩:=i;obtain⟨C,B,v,_,j⟩:=c;refine wB (listItems_at p d (wB (listItems_at v j ?_)));simp only[sA];refine wB ?_;rw[Ė,List.zipIdx_cons,forIn_cons];refine wB (wB (o prog w E _ ?_))
 cases e with
 |true=>
  refine wP ?_;refine ā (Hc r a 1 hx (m:=(Value.int x t::r).length) (n:=(Value.int y u::a).length) (à _) (by simp only[lC];lia)) (λq s' h=>?_) λ_ _ e=>e;obtain⟨rfl,rfl|⟨rfl,e⟩⟩:=h
  .exact wP hq
  .dsimp only;rw[<-e];exact wP hq
 |false=>
  subst hx;refine wB (oneLt_int ?_);exact wP (wP (wP hq))
end
end Srt
namespace L2
namespace M
open PySem PySem.Spec PyProof.Rows
variable{kvs:List (Key×V)}{vs:List (Key×ņ)}
mutual
def iQ:MV->Bool
 |.int _=>true
 |.str _=>true
 |.tup ds=>DC ds
 |_=>false
def DC:List MV->Bool
 |[]=>true
 |d::ds=>iQ d&&DC ds
end
def JO{α β:Type}{g:α->β}{p m:List β}(h:p.Perm m): ∀l:List α,l.map g=p-> ∃c:List α,c.Perm l/\c.map g=m:=by
 induction h with
 |nil=>intro l e;exact⟨l,.refl _,e⟩
 |cons x _ ih=>
  intro l e
  cases l with
  |nil=>cases e
  |cons a l=>
   injection e with e1 e2
   obtain⟨c,j,d⟩:=ih l e2;exact⟨_,j.cons a,by rw[è,e1,d]⟩
 |swap x y t=>
  intro l e
  match l,e with
  |a::b::l,e=>
   injection e with e1 e2
   injection e2 with e2 e3
   exact⟨_,.swap _ _ _,by rw[è,è,e1,e2,e3]⟩
 |trans _ _ ih1 ih2=>
  intro l e;obtain⟨k,p1,i⟩:=ih1 l e;obtain⟨o,p2,n⟩:=ih2 k i;exact⟨o,p2.trans p1,n⟩
section
variable{X:Cx}{α:K0}{H:Hp}{pins:N0}{σ:St}{s:Ņ}
mutual
theorem XC(I:Inv X pins σ H s): ∀{d b:MV}{v:V},iQ d=true->iQ b=true->Den X.K α H d v->Den X.K α H b v->d=b
 |.int i,b,v,_,h',q,q'=>by
  cases yL q
  cases b with
  |int j=>cases yL q';rfl
  |str x=>cases wD q'
  |tup ds=>obtain⟨a,vs,e,_⟩:=yW q';cases e
  |_=>simp[iQ]at h'
 |.str x,b,v,_,h',q,q'=>by
  have e:=wD q
  cases b with
  |int j=>rw[yL q']at e;cases e
  |str y=>rw[wD q']at e;injection e with e;rw[vD e]
  |tup ds=>obtain⟨a,vs,c,_⟩:=yW q';rw[c]at e;cases e
  |_=>simp[iQ]at h'
 |.tup ds,b,v,h,h',q,q'=>by
  obtain⟨a,vs,e,t,l⟩:=yW q
  cases b with
  |int j=>rw[yL q']at e;cases e
  |str y=>rw[wD q']at e;cases e
  |tup es=>
   obtain⟨n,k,c,t',m⟩:=yW q';rw[e]at c;cases c;have:=I.tuple_inj t t';subst this;rw[PM I (by unfold iQ at h;exact h) (by unfold iQ at h';exact h') l m]
  |_=>simp[iQ]at h'
theorem PM(I:Inv X pins σ H s): ∀{ds es:X1}{vs:List V},DC ds=true->DC es=true->DenL X.K α H ds vs->DenL X.K α H es vs->ds=es
 |[],[],_,_,_,_,_=>rfl
 |[],e::es,_,_,_,q,q'=>by obtain⟨v,r,e,_⟩:=q'.uncons;rw[q.isnil]at e;cases e
 |d::ds,[],_,_,_,q,q'=>by obtain⟨v,r,e,_⟩:=q.uncons;rw[q'.isnil]at e;cases e
 |d::ds,e::es,_,h,h',q,q'=>by obtain⟨v,r,rfl,a,l⟩:=q.uncons;obtain⟨k,j,b,c,i⟩:=q'.uncons;cases b;unfold DC at h h';rw[aE]at h h';rw[XC I h.1 h'.1 a c,PM I h.2 h'.2 l i]
end
def P5{A:Ň}{xs ys:B0}{k:Bool}(h:LexR A s xs ys k):Srt.LexS A s xs ys k:=by
 induction h with
 |nn=>exact .nn
 |nc x xs=>exact .nc x xs
 |cn x xs=>exact .cn x xs
 |eq a _ ih=>exact .eq a ih
 |ne a b=>exact .ne a b
def TU(I:Inv X pins σ H s){ds:X1}{x:V}{u:ņ}(d:Den X.K α H (.tup ds) x)(r:RelV x u): ∃a vs its,u=.ref a/\DenL X.K α H ds vs/\Vals vs its/\Srt.TupAt s.heap a its/\IsTup s.heap a its.toArray:=by obtain⟨a,vs,rfl,t,l⟩:=yW d;cases r;obtain⟨its,b,pt,_⟩:=I.tuple t;obtain⟨o,h1,e,n,c⟩:=id pt;exact⟨a,vs,its,rfl,l,b,⟨o,n,h1,e,c⟩,pt⟩
end
structure OrdD(S:Sto)(ks:X1):Prop where
 any: ∀a,a∈ks-> ∀b,b∈ks-> ∃t,EA S zI a b=some t
 tr: ∀a,a∈ks-> ∀b,b∈ks-> ∀c,c∈ks->EA S zI b a=some false->EA S zI c b=some false->EA S zI c a=some false
 as: ∀a,a∈ks-> ∀b,b∈ks->EA S zI a b=some true->EA S zI b a=some false
section
variable{X:Cx}{α:K0}{S:Sto}{H:Hp}{pins:N0}{σ:St}{s:Ņ}{ps:L0}
def Be{e:Addr}{ys:List V}{its:B0}{n:Nat}(J:Inv X pins σ H s)(f:vB X pins H e)(i:X.s₀.heap.objs.size<=e)(y:s.heap.get? e=some (seqObj "list" its.toArray n))(j:Vals ys its)(v:ys.length<=sizeLine):Inv X pins σ (xG H e (.lst ys)) s:=by
 have w: ∀o,X.s₀.heap.get? e≠some o:=λo z=>absurd (é (â z) i) (Ě _);refine⟨J.ok,J.os,J.bare,⟨J.base.keep,J.base.slot,λb a q n m=>?_,J.base.there,λb xs q=>?_,λb o' u q=>?_,λb ps q=>?_⟩,J.loc,J.cell,?_,λx c d=>?_,λp h=>?_,λb u q=>?_,J.len⟩
 .rw[zF λz=>w a (by rw[<-z];exact q)];exact J.base.free b a q n m
 .rw[zF (zU (J.base.tups b xs q) f.1)];exact J.base.tups b xs q
 .rw[zF (zU (J.base.frzs b o' u q) f.1)];exact J.base.frzs b o' u q
 .obtain⟨k,z⟩:=J.base.tbls b ps q;exact⟨k,by rw[zF (zU z f.1)];exact z⟩
 .rw[zF (Ne.symm f.2.1)];exact J.free
 .rw[zF (f.2.2.2.2.1 x c d)];exact J.freeC x c d
 .obtain⟨e1,n,ne,nf,A⟩:=J.pin p h;exact⟨e1,by rw[zF (f.2.2.2.2.2 p h)];exact n,ne,nf,A⟩
 .by_cases z:b=e
  .subst z;rw[zV]at q;cases q;exact⟨v,its,n,j,y⟩
  .rw[zF z]at q;exact(J.hok b u q).stay (λ_ _ _ r=>r) (λc r=>by rw[zF (zU r f.1)];exact r) λc xs r=>by rw[zF (zU r f.1)];exact r
def TV(K:U0)(α:K0)(H:Hp)(a:X1)(u:ņ):MV:=
 open Classical in if h: ∃d v,d∈a/\Den K α H d v/\RelV v u then Classical.choose h else a.headD .non
def ltV(K:U0)(α:K0)(H:Hp)(S:Sto)(a:X1)(p q:Keyed):Bool:=(EA S zI (TV K α H a p.1) (TV K α H a q.1)).getD false
def cY{K:U0}{a:X1}(b:a≠[])(u:ņ):TV K α H a u∈a:=by
 unfold TV;split
 .rename_i h;obtain⟨v,h1,_⟩:=Ā h;exact h1
 .match a,b with
  |x::l,_=>exact mF0
def FH{K:U0}{a:X1}{u:ņ}(h: ∃d v,d∈a/\Den K α H d v/\RelV v u): ∃v,Den K α H (TV K α H a u) v/\RelV v u:=by unfold TV;rw[dif_pos h];obtain⟨v,_,b,c⟩:=Ā h;exact⟨v,b,c⟩
def He(I:Inv X pins σ H s){b:X1}{kvs:List V}{ks:B0}(e: ∀d,d∈b->iQ d=true)(q:DenL X.K α H b kvs)(w:Vals kvs ks){i:Nat}{u:ņ}{a:MV}(o:ks[i]? =some u)(k:b[i]? =some a):
  TV X.K α H b u=a:=by
 obtain⟨v,n,j⟩:=q.at k;obtain⟨y,c,r⟩:=w.get n;rw[o]at c;cases c;have h:=ô k;have ne:b≠[]:=λz=>by rw[z]at h;cases h
 obtain⟨A,m,p⟩:=FH ⟨a,v,h,j,r⟩;rw[p.inj r]at m;exact XC I (e _ (cY ne u)) (e a h) m j
end
theorem Bf{ks its:B0}{N:Nat}(h1:ks.length=N)(a:its.length=N):(List.range N).map (λi=>((ks[i]?).getD .none,(its[i]?).getD .none))=ks.zip its:=by
 apply Ł;intro i;rw[ò];by_cases hi:i<N
 .have e:(ks.zip its)[i]? =some (ks[i]'#[0],its[i]'#[0]):=by rw[List.getElem?_zip_eq_some];exact⟨gE _,gE _⟩
  rw[ł hi,e];show some ((ks[i]?).getD .none,(its[i]?).getD .none)=_;rw[gE #[0],gE #[0]];rfl
 .rw[ą (by rw[æ];lia),ą (by rw[length_zip];lia)];rfl
theorem FK{β:Type}{l:List β}{d:β}{idx:Tk}(h: ∀i,i∈idx->i<l.length):idx.map (λi=>(l[i]?).getD d)=idx.filterMap (l[·]?):=by
 induction idx with
 |nil=>rfl
 |cons i idx ih=>
  have hi:=h i mF0;rw[è,ĵ (gE hi),ih λj a=>h j (mO _ a),gE hi];rfl
def XD(S:Sto)(ds b r:X1):Prop:= ∃idx:List Nat,idx.Perm (List.range ds.length)/\idx.Pairwise (λi j=> ∀a c,b[i]? =some a->b[j]? =some c->EA S zI c a=some false)/\r=idx.filterMap (ds[·]?)
open Classical in
open Classical in
section
variable{X:Cx}{a b o i:Expr}{pins:N0}{σ:St}{H:Hp}{s:Ņ}{α:K0}
def DM(kvs:List (Key×V))(k:Key)(v:V):List (Key×V):=if(kvs.any λa=>decide (a.1=k))=true then kvs.map (λa=>if a.1=k then(a.1,v)else a)else kvs++[(k,v)]
def PN(kvs:List (Key×V))(k:Key)(v:V):(DM kvs k v).length<=kvs.length+1:=by
 unfold DM;split
 .rw[lM];exact le_succ _
 .rw[lA];exact à _
def Yd(r:KV kvs vs)(k:Key):(kvs.any λa=>decide (a.1=k))=vs.any λa=>decide (a.1=k):=by
 induction r with
 |nil=>rfl
 |cons h t ih=>rw[ĺ,ĺ,ih,h.1]
def Pa(r:KV kvs vs)(k:Key){y:V}{u:ņ}(b:RelV y u):KV (kvs.map λa=>if a.1=k then(a.1,y)else a) (vs.map λa=>if a.1=k then(a.1,u)else a):=by
 induction r with
 |nil=>exact .nil
 |@cons p q ps qs h t ih=>
  rw[è,è];refine .cons ?_ ih;by_cases e:p.1=k
  .rw[iP e,iP (h.1.symm.trans e)];exact⟨h.1,b⟩
  .rw[iN e,iN λz=>e (h.1.trans z)];exact h
def Pb(r:KV kvs vs){p:Key×V}{q:Key×ņ}(h:p.1=q.1/\RelV p.2 q.2):KV (kvs++[p]) (vs++[q]):=by
 induction r with
 |nil=>exact .cons h .nil
 |cons h' t ih=>exact .cons h' ih
def Hf(r:KV kvs vs)(k:Key){y:V}{u:ņ}(a:RelV y u):KV (DM kvs k y) (stored vs k u):=by
 unfold DM stored;rw[Yd r k];by_cases e:(vs.any λb=>decide (b.1=k))=true
 .rw[iP e,iP e];exact Pa r k a
 .rw[iN e,iN e];exact Pb r ⟨rfl,a⟩
def EC{k:MV}{a b:Key}(h:KeyD k a)(h':KeyD k b):a=b:=by
 cases k with
 |int i=>exact Eq.trans h h'.symm
 |str x=>exact Eq.trans h h'.symm
 |_=>exact False.elim h
def vS{k k':MV}{a:Key}(h:KeyD k a)(h':KeyD k' a):k=k':=by
 cases k with
 |int i=>
  have e:=h;subst e
  cases k' with
  |int j=>have b:(Sum.inl i:Key)=.inl j:=h';cases b;rfl
  |str y=>have b:(Sum.inl i:Key)=.inr _:=h';cases b
  |_=>exact False.elim h'
 |str x=>
  have e:a=.inr _:=h;subst e
  cases k' with
  |int j=>have b:(Sum.inr _:Key)=.inl j:=h';cases b
  |str y=>
   have b:(Sum.inr _:Key)=.inr _:=h';injection b with b
   rw[vD b]
  |_=>exact False.elim h'
 |_=>exact False.elim h
theorem PP: ∀{kvs:X5}{b:List (Key×V)}{k:MV}{k':Key},DenK X.K α H kvs b->KeyD k k'->(b.any λd=>decide (d.1=k'))=(look kvs k).isSome
 |_,_,k,k',.nil,hk=>rfl
 |_,_,k,k',.cons (k:=c) (k':=c') hc a l,hk=>by
  rw[sG,ĺ];by_cases h:c=k
  .subst h;rw[iP rfl,dT0 (EC hc hk)];rfl
  .have e: ¬c'=k':=λz=>h (vS hc (z.symm▸hk));rw[iN h,dF0 e];exact PP l hk
theorem FL: ∀{kvs:X5}{e:List (Key×V)}{k d:MV}{k':Key}{v:V},DenK X.K α H kvs e->KeyD k k'->Den X.K α H d v->DenK X.K α H (kvs.map λp=>if p.1=k then(p.1,d)else p) (e.map λb=>if b.1=k' then(b.1,v)else b)
 |_,_,k,d,k',v,.nil,hk,hd=>.nil
 |_,_,k,d,k',v,.cons (k:=c) (k':=c') hc a l,hk,hd=>by
  rw[è,è];by_cases h:c=k
  .subst h;rw[iP rfl,iP (EC hc hk)];exact .cons hc hd (FL l hk hd)
  .have i: ¬c'=k':=λz=>h (vS hc (z.symm▸hk));rw[iN h,iN i];exact .cons hc a (FL l hk hd)
theorem DenK.append: ∀{kvs b:X5}{xs c:List (Key×V)},DenK X.K α H kvs xs->DenK X.K α H b c->DenK X.K α H (kvs++b) (xs++c)
 |_,_,_,_,.nil,h=>h
 |_,_,_,_,.cons hk a l,h=>.cons hk a (DenK.append l h)
theorem DenK.length: ∀{kvs:X5}{xs:List (Key×V)},DenK X.K α H kvs xs->xs.length=kvs.length
 |_,_,.nil=>rfl
 |_,_,.cons _ _ l=>by rw[lC,lC,DenK.length l]
def PQ{kvs:X5}{ks:List (Key×V)}{k d:MV}{k':Key}{v:V}(l:DenK X.K α H kvs ks)(a:KeyD k k')(b:Den X.K α H d v):DenK X.K α H (putK kvs k d) (DM ks k' v):=by
 unfold putK DM;rw[PP l a];by_cases h:(look kvs k).isSome=true
 .rw[iP h,iP h];exact FL l a b
 .rw[iN h,iN h];exact l.append (.cons a b .nil)
def DK(X:Cx)(H:Hp)(d:Addr)(ks:List (Key×V)):Prop:=H d=some (.dK ks)\/(ks=[]/\H d=some (DN X.prog X.w d []))
def DK.nf{d:Addr}{ks:List (Key×V)}(h:DK X H d ks): ∀ob u,H d≠some (.frz ob u):=h.elim (λz=>C4 z) λz=>by first |exact C4 z.2|exact z.elim
def aR(I:Inv X pins σ H s){ks:List (Key×V)}{d:Addr}(h:DK X H d ks):ks.length<=sizeLine/\(d==sysModules)=false/\ ∃vs,KV ks vs/\s.heap.DictOf (jO X.prog X.w) d vs:=by
 rcases h with h|⟨rfl,h⟩
 .exact(I.hok d _ h)
 .obtain⟨⟨n,hs,o,es,ep,c,j,i,k,m⟩,_⟩:=(I.hok d _ h)
  have a:=k;refine⟨zero_le _,hs,[],.nil,o,es,ep,c,j,i,λe b=>?_,by rw[a];exact .nil,nodup_nil⟩;rw[<-Array.mem_toList_iff,a]at b;exact absurd b (by simp)
theorem BP: ∀{kvs:X5}{b:List (Key×V)},DenK X.K α H kvs b->DenL X.K α H (kvs.map (·.1)) (b.map λp=>kV p.1)
 |_,_,.nil=>yE
 |_,_,.cons (k:=c) (k':=c') hc a l=>by
  refine zW ?_ (BP l)
  cases c with
  |int i=>rw[show c'=.inl i from hc];exact wQ i
  |str x=>rw[show c'=.inr _ from hc];exact sB x
  |_=>exact False.elim hc
end
def Bg(k:Key)(l:List Key):Bool:=l.any λj=>decide (j=k)
def aS(val:Nat->Key):Nat->List Key
 |0=>[]
 |i+1=>if Bg (val i) (aS val i)=true then aS val i else aS val i++[val i]
theorem sH(val:Nat->Key)(i:Nat):aS val (i+1)=if Bg (val i) (aS val i)=true then aS val i else aS val i++[val i]:=rfl
theorem LS(val:Nat->Key): ∀i,(aS val i).length<=i
 |0=>à _
 |i+1=>by
  have a:=LS val i;rw[sH];split
  .exact í a (le_succ _)
  .rw[lA];exact Nat.succ_le_succ a
def PR(val:Nat->Key)(i:Nat)(k:Key):Bg k (aS val (i+1))=(Bg k (aS val i) || decide (k=val i)):=by
 rw[sH];by_cases h:Bg (val i) (aS val i)=true
 .rw[iP h];by_cases e:k=val i
  .rw[e,h];rfl
  .rw[dF0 e,Bool.or_false]
 .rw[iN h];unfold Bg;rw[List.any_append,ĺ,List.any_nil,Bool.or_false];by_cases e:val i=k
  .rw[dT0 e,dT0 e.symm]
  .rw[dF0 e,dF0 λz=>e z.symm]
theorem Hg(val:Nat->Key)(i:Nat):(aS val (i+1)).length=if Bg (val i) (aS val i)=true then(aS val i).length else(aS val i).length+1:=by
 rw[sH];split
 .rfl
 .rw[lA];rfl
abbrev KSet(P:Program)(w:World)(h:Heap)(D:Addr)(val:Nat->Key)(i:Nat):Prop:=h.SetOf (jO P w) D (λk=>Bg k (aS val i)) (aS val i).length
def KSet.move{P:ň}{w:World}{h h':Heap}{D:Addr}{val:Nat->Key}{i:Nat}(x:KSet P w h D val i)(m: ∀o,h.get? D=some o->h'.get? D=some o):KSet P w h' D val i:=by obtain⟨o,es,ep,t,a,r⟩:=x;exact⟨o,es,ep,t,m o a,r⟩
def StrAt(val:Nat->Key)(i:Nat)(v:ņ):Prop:=(∃x t,val i=.inr x/\v=.str x t)\/ ∃x t,val i=.inl x/\v=.int x t
def StrAt.is{P:ň}{w:World}{val:Nat->Key}{i:Nat}{v:ņ}(h:StrAt val i v):(jO P w).is (val i) v=true/\v.scannable=true:=by
 rcases h with⟨x,t,e,rfl⟩|⟨x,t,e,rfl⟩<;>rw[e]
 .exact⟨qM P w x t,rfl⟩
 .exact⟨CT P w x t,rfl⟩
section
variable{P:ň}{w:World}{A:Ň}{R:Result->Ņ->Prop}{I D:Addr}{fp wr:K0}{G:Array GenState->Array GenState->Prop}{n:Nat}{Pv:Nat->ņ->Prop}{St:Nat->Ņ->Prop}{val:Nat->Key}
theorem JP(W:PySem.WalksS P w A.in1 I fp wr G n Pv St)(c:D∉fp)(y: ∀i v,Pv i v->StrAt val i v)(a:n+1<scanBound):
  ∀(k i:Nat)(s:Ņ),i+k=n->St i s->KSet P w s.heap D val i->
   (∀s',PySem.Moved (D::wr) G s s'->KSet P w s'.heap D val n->R (.ok (.ret .none)) s')->codeAny (model P w) A (.builtin "set.update.loop" ⟨[.ref D,.ref I],[]⟩) R s
 |0,i,s,hk,st,hs,q=>by have e:i=n:=hk;subst e;refine Ę F.entry_set_update_loop ?_;rw[č F.plain_set_update_loop _];show wpAny _ A.in1 _ _ _ s;refine wB (W.done s _ _ st λs' m=>?_);exact wP (q s' (m.mono λb a=>.tail _ a) (hs.move λo=>m.heap D o λz=>c (W.sub _ z)))
 |k+1,i,s,hk,st,hs,q=>by
  refine Ę F.entry_set_update_loop ?_;rw[č F.plain_set_update_loop _];show wpAny _ A.in1 _ _ _ s;refine wB (W.item i s _ _ #[0] st λv s' C p m=>?_);obtain⟨hi,j⟩:=(y i v C).is;have h:KSet P w s'.heap D val i:=hs.move λo=>m.heap D o λz=>c (W.sub _ z);have le:=LS val i;show wpAny _ A.in1 _ _ _ s';refine wB (Ă ?_);unfold setAdd;refine Ă (wB ((jO P w).pyHash hi ?_));refine wpAny_setAddHashed_of hi j h #[0] λJ B u=>?_;have d:KSet P w J D val (i+1):=by unfold KSet;rw[show(λk=>Bg k _)=(λk=>Bg k (aS val i) || decide (k=val i))from funext (PR val i),Hg];exact u
  refine wP ⟨plainId_quiet F.plain_set_update_loop _,JP W c y a k (i+1) _ #[0] (W.frame _ s' _ _ p (le_succ _) λb a o e=>?_) d λH E r=>?_⟩
  .rw[B.2 b λz=>c (z▸a)];exact e
  .refine q H (PySem.Moved.trans W.gtrans ((m.mono λb a=>.tail _ a).then_heap (le_succ _) λb o a e=>?_) E) r;rw[B.2 b λz=>a (by rw[z];exact .head _)];exact e
end
section
variable{P:ň}{w:World}
abbrev jF(a:Bool):Obj:={cls:=.type "set",dict:=none,data:=.set #[] 0 (.fresh 0 0 a)}
def P6{h:Heap}{a:Addr}{b:Bool}{val:Nat->Key}(d:h.get? a=some (jF b)):KSet P w h a val 0:=
 ⟨_,#[],0,_,d,⟨rfl,rfl,rfl⟩,rfl,λe c=>absurd c (by simp),λk=>⟨λz=>absurd z xF0,λ⟨e,c,_⟩=>absurd c (by simp)⟩,by unfold scanBound;decide,rfl,rfl⟩
end
section
variable{P:ň}{w:World}{A:Ň}{E:VP}{s:Ņ}
def FM{l:Addr}{a:B9}{val:Nat->Key}{Q:VP}(hh:A.handled=none)(U:s.heap.IsTuple l a)(Y: ∀(i:Nat)(v:ņ),a[i]? =some v->StrAt val i v)(hb:a.size+1<scanBound)
  (h: ∀(h':Heap)(tk:Nat),KSet P w h' s.heap.objs.size val a.size->(∀b o,s.heap.get? b=some o->h'.get? b=some o)->Q (.ref s.heap.objs.size) {s with heap:=h',toks:=tk}):
  wpAny (model P w) A (call (.type "set") [.ref l]) Q E s:=by
 obtain⟨c,tl,N⟩:=F.called_set.mro;have B:=F.called_set.made;have M:=F.called_set.sub;refine wpAny_call (codeAny_of_tree ?_);show wpAny _ _ (callAny (.type "set") _) _ _ _;refine wP ⟨Code.quiet_builtin _ (by decide+kernel),Ę F.entry_type_call ?_⟩;rw[Around.under_plain (weight_type_call_type "set" [.ref l] []) rfl];have h1:=F.called_set.notType;have h2:=F.called_set.canCreate;have ae:=F.typeCall_set_1 (.ref l)
 repeat (any_goals (first |assumption|wp_step))
 refine Į (code_set_new_1 (.ref l) (E:=E) (Q₁:=λob T=> ∃d:Bool,ob=.ref s.heap.objs.size/\T={s with heap:=s.heap.push (jF d)}) λd=>⟨d,rfl,rfl⟩) λr T y=>?_
 cases r with
 |error e=>exact y
 |ok fl=>
  cases fl with
  |ret ob=>
   obtain⟨d,rfl,rfl⟩:=y;have L:(s.heap.push (jF d)).get? s.heap.objs.size=some (jF d):=ä _ rfl;have hT:Shared.TypeIs {s with heap:=s.heap.push (jF d)} (.ref s.heap.objs.size) "set":=⟨_,L,rfl⟩
   have aa:=F.called_set.init.lookup;have ag:=F.called_set.init.bind (.ref s.heap.objs.size)
   repeat (any_goals (first |assumption|wp_step))
   refine Į (codeAny_call_builtin (R:=wants (λr W=>r=.none/\ ∃h' tk,W={s with heap:=h',toks:=tk}/\KSet P w h' s.heap.objs.size val a.size/\ ∀b o,s.heap.get? b=some o->h'.get? b=some o) E)
    F.called_set.init.plain F.entry_set_init (check_set_init_1 hT ?_)) λr2 W j=>?_
   .have q:(s.heap.push (jF d)).IsTuple l a:=U.push _;obtain⟨⟨oc,od,ab,os⟩,p,K,Z,G⟩:=U;cases K;cases G;have O:(s.heap.push (jF d)).get? l=some {cls:=.type "tuple",dict:=od,data:=.seq a Z,slots:=os}:=hP0 _ p;have X:=PySem.F.sub_tuple_set;have S:=PySem.F.sub_tuple_frozenset;have af:(Value.type "tuple"==Value.type "dict")=false:=by decide
    have lt:l<s.heap.objs.size:=â p;unfold Builtin.«set.__init__» noKeywords Builtin.Frozenset.updateFrom;generalize C:pyIter=PI
    wp_walk
    subst C;refine wpAny_pyIter_tuple q ?_;refine wB (wpAny_runValue ?_);have h3:A.in1.in1.in1.handled=none:=by simp[hh]
    have J:l<(s.heap.push (jF d)).objs.size:=by rw[ė];exact Nat.lt_succ_of_lt lt
    have out:s.heap.objs.size∉[(s.heap.push (jF d)).objs.size,l]:=by
     rw[ė];intro z;rcases mC.mp z with z|z
     .exact absurd z (ã (ģ _))
     .exact absurd (mS.mp z) (Ē lt)
    refine JP ((Walks.tuple h3 _ l (ã J) a).toS) (D:=s.heap.objs.size) (val:=val) out Y hb a.size 0 _ (Ħ _) ⟨⟨_,ä _ rfl,rfl,rfl⟩,q.push _⟩ ?hS0 ?hR
    case hS0=>
     have gg:((s.heap.push (jF d)).push {cls:=.type "tuple_iterator",data:=.fields #[.ref l,.int 0 0]}).get? s.heap.objs.size=some (jF d):=hP0 _ L;exact P6 gg
    case hR=>
     intro s' m k;obtain⟨h',g',d',H,u⟩:=s';have e1:g'=s.gens:=m.gens;have e2:d'=s.drawn:=m.drawn;have e3:u=s.os:=m.os;subst e1;subst e2;subst e3;show wpAny _ _ _ _ _ _;refine wP ?_;show wpAny _ _ (ret Value.none) _ _ _;refine wP ⟨rfl,h',H,rfl,k,λb o e=>?_⟩;have n:=â e;refine m.heap b o (λz=>?_) (hP0 _ (hP0 _ e));rcases mC.mp z with z|z
     .exact absurd z (ã n)
     .rw[ė]at z;exact absurd (mS.mp z) (ã (Nat.lt_succ_of_lt n))
   .cases r2 with
    |error e=>exact j
    |ok fl2=>
     cases fl2 with
     |ret r=>
      obtain⟨rfl,h',tk,rfl,k,I⟩:=j
      repeat (any_goals (first |assumption|wp_step))
      exact h _ _ k I
     |_=>exact j.elim
  |_=>exact y.elim
end
def Hh:bootBuiltins "set"=some (.type "set"):=by decide+kernel
section
variable{X:Cx}{o e:Expr}{es:R0}{apos pos:Pos}{to:TE}{t:TA}{T:String}{name:Str}{id:String}{r:V->List V->Hp->VK->Prop}
def vT(X:Cx)(T:String)(b:V->Hp->Prop):Prop:= ∀(pins:N0)(s:Ņ)(σ:St)(H:Hp)(x:V)(v:ņ),Inv X pins σ H s->RelV x v->b x H->s.TypeIs v T/\ ∀a,v=.ref a-> ∃ob,s.heap.get? a=some ob/\ob.dict=none
def Hi{k:V->Hp->Prop}(d:vT X T k)(A:PlainAttrs T)(a:Slot T name id)(b:typeOf (.builtin id)=pure (.type "method_descriptor"))(q:C1 X id r)(u:PE X o to)(n:PA X (e::es) t)
  (hbase:attributeBase o name X.env (eval o X.env)=eval o X.env)
  (hfew:((backTo pos (starEach (e::es) X.env)).all (λx=>!x.1)&&(backToKw pos (keywordEach [] X.env)).all (λx=>x.1.isSome)
   &&decide ((e::es).length+([]:List Keyword).length+(if([]:List Keyword).isEmpty then 0 else 1)<30))=true)
  (hline:(apos.endLine==pos.line)=true) (hs:starEach (e::es) X.env=(false,eval e X.env)::starEach es X.env) (hplain:(backTo pos (starEach es X.env)).any (·.1)=false):
  PE X (.Call (.Attribute o name apos) (e::es) [] pos) (λσ H Q=>to σ H λx H1=>k x H1/\t σ H1 λvs c=>r x vs c Q):=by
 intro pins s σ H Q I h;refine wpAny_Call_method_late hbase hfew hline rfl (jD (u pins s σ H _ I h) λv m ⟨x,H1,I1,j,C,p⟩=>?_);obtain⟨h1,D⟩:=d pins m σ H1 x v I1 j C;refine⟨T,id,A,a,b,h1,D,?_⟩;have i:=n pos pins m σ H1 _ I1 p;rw[hs]at i ⊢;refine Calls.callWith_builtin (by show(false || (backTo pos _).any (·.1))=false;rw[hplain]<;>rfl) (Calls.evalArgs_plain ?_);exact jD i λus B ⟨vs,c,z,y,w⟩=>q pins B σ c x vs v us Q z j y w
end
def VAt(d:Addr)(us:B0)(ep:Nat)(h:Heap):Prop:= ∃o es,h.get? d=some o/\o.ExactDict/\o.data=.dict es ep/\es.toList.map (·.val)=us
def VAt.at{d:Addr}{us:B0}{ep:Nat}{h h':Heap}(x:VAt d us ep h)(m: ∀o,h.get? d=some o->h'.get? d=some o):VAt d us ep h':=let ⟨o,es,a,r⟩:=x;⟨o,es,m o a,r⟩
theorem VAt.size{d:Addr}{us:B0}{ep:Nat}{h:Heap}(x:VAt d us ep h): ∃o es,h.get? d=some o/\o.ExactDict/\o.data=.dict es ep/\es.size=us.length/\ ∀i (hi:i<es.size),us[i]? =some es[i].val:=by obtain⟨o,es,b,a,c,e⟩:=x;refine⟨o,es,b,a,c,by rw[<-e,lM,ú],λi hi=>?_⟩;rw[<-e,ò,û,ĭ hi];rfl
section
variable{X:Cx}{W:XW}{a b:Expr}{f g:AX}{pos:Pos}
def Hj(a:Bool)(p q:Er)(S:Sto):R Er:=match p,q with
 |.val (.bl x),.val (.bl y)=>.ok (.val (.bl (if a=true then !(x==y)else x==y))) S
 |_,_=>.no
abbrev P8(a:Bool):R2:=λx y H Q=> ∃c d,x=.bl c/\y=.bl d/\Q (.bl (if a=true then !(c==d)else c==d)) H
theorem Hk(c d:Bool):(Value.bool c==Value.bool d)=(c==d):=by cases c<;>cases d<;>rfl
theorem Ye:OpR X (compareOp .Is) (P8 false):=by intro pins s σ H x y v u Q I b a h;obtain⟨c,d,rfl,rfl,q⟩:=h;cases b;cases a;refine wpAny_is_plain rfl ⟨.bl (c==d),H,I,?_,q⟩;rw[Hk];rfl
def Pd{b:Bool}:OS X W (P8 b) (Hj b):=by
 intro p q x y α S H Q d e c a;unfold Hj at a;split at a
 .exact⟨_,_,qU e,qU c,Post.val a d (wC _)⟩
 .exact a.elim
def Yf(c:zM X W a f)(d:zM X W b g):zM X W (.Compare a [.Is] [b] pos) (λρ S=>(f ρ S).bind λp S1=>(g ρ S1).bind λq S2=>Hj false p q S2):=uD Ye Pd c d
end
end M
end L2
namespace L2
open PySem PySem.Spec PyProof.Rows
open Builtin Builtin.ObjectAttr
section
variable{h:Heap}{x:Addr}{o:Obj}{v:ņ}{name:Str}
def SetAt(h h':Heap)(x:Addr)(o:Obj)(name:Str)(v:ņ)(dx:Addr):Prop:=
 h.get? dx=none/\dx≠x/\h'.get? x=some {cls:=o.cls,dict:=some dx,data:=o.data,slots:=o.slots}/\h'.Ns1 dx (λy=>if y=name then some v else none)/\ ∀b ob,b≠x->h.get? b=some ob->h'.get? b=some ob
end
abbrev BIG:Nat:=10 ^ 100
section
variable{i:Nat}{σ:St}{H:Hp}
def tJ(i:Nat):TE:=λσ H Q=> ∃n,σ[i]? =some (some (.int n))/\n.natAbs<BIG/\ ∀y:Str,Q (.str y) H
end
namespace M
structure XIn(K:U0)(M C f:Addr):Prop where
 ex: ∃nm q N bs sn sub ab col dd k0 k1 k2 k3 k5,K.lookup C=some (excClassObj nm q C N bs (.ref M::W4) true sn sub ab col dd k0 k1 k2 k3 k5 "ValueError.__new__")/\PySem.W.nsOkIn K N=true/\PySem.W.nsIn K N "__init__"=some (some (.ref f))/\ ∀n∈qn,PySem.W.nsIn K N n=some none
 fo: ∃o,K.lookup f=some o/\o.cls=.type "function"
def XIn.cl{K:U0}{M C f:Addr}(x:XIn K M C f):XCl K C (.ref M::W4) (some (.ref f)):=by obtain⟨n,q,N,bs,r,e,i,h,p,s,j,k,o,m,a,b,c,d⟩:=x.ex;exact⟨n,q,N,bs,true,r,e,i,h,p,s,j,k,o,m,a,b,c,d,rfl⟩
structure DefM(K:U0)(mg:L1)(x:Str)(st:Stmt):Prop where
 ex: ∃f fd,mg x=some (.ref f)/\Fun K x x st f fd
def def_mk{K:U0}{mg:L1}{h:Heap}{x:Str}{st:Stmt}{g:Addr}{d i:Option Addr}{sl:Array (Option ņ)}{m kV e j b ct:ņ}(a:PySem.W.nsIn K mainGlobals x=some (some (.ref g)))
  (l:K.lookup g=some ⟨m,d,.func (PySem.W.fnOf x x (wN st) (yT st) (zE st) .none kV e j i b ct),sl⟩) (c:PySem.W.codeIn K b x=true) (k:PySem.W.keepIn K (.ref g)=true) (X:K.In h) (GG:h.Ns mainGlobals mg):DefM K mg x st:=⟨_,_,PySem.W.mg_of X GG a,oF l c k⟩
structure Cal(P:ň)(w:World)(K:U0)(mg:L1)(base:Heap)(CX:VX)(x:Str)(k:Nat)(ps:L0)(sp:Sp):Prop where
 ex: ∃fa fd,FnOk P w K mg base CX k fa fd ps sp/\mg x=some (.ref fa)/\PySem.W.keepIn K (.ref fa)=true/\Binds K fd ps []
abbrev Hl(P:Program)(w:World)(K:U0)(mg:L1)(base:Heap)(x:Str)(k n:Nat)(ps:L0)(F:List MV->Sto->R Er):Prop:=Cal P w K mg base rY x k ps (IB ⟨K,mg,P,w⟩ n F)
abbrev P9(P:Program)(w:World)(K:U0)(mg:L1)(base:Heap)(x:Str)(k n:Nat)(ps:L0)(F:List MV->Sto->R Er):Prop:=Cal P w K mg base (CXe P w) x k ps (spX ⟨K,mg,P,w⟩ n F)
section
variable{P:ň}{w:World}{K:U0}{mg:L1}{base:Heap}{x:Str}{st:Stmt}{ps:L0}{k n:Nat}{F:List MV->Sto->R Er}
abbrev Hm(x:Str)(st:Stmt)(ps:L0):Prop:= ∀(kV a e:Value)(d:Option Addr)(b c:Value)(us:B0),us.length=ps.length->bindArgs (PySem.W.fnOf x x (wN st) (yT st) (zE st) .none kV a e d b c) ⟨us,[]⟩=pure (ps.zip us)
def okC(D:DefM K mg x st)(b:Hm x st ps)(h: ∀f fd,Fun K x x st f fd->FnOk P w K mg base rY k f fd ps (IB ⟨K,mg,P,w⟩ n F)):Hl P w K mg base x k n ps F:=
 let ⟨f,fd,m,a⟩:=D.ex;⟨f,fd,h f fd a,m,a.kp,a.binds b⟩
def Cal.noX(G:P9 P w K mg base x k n ps F):Hl P w K mg base x k n ps F:=let ⟨a,fd,G,m,c,b⟩:=G.ex;⟨a,fd,G.noX,m,c,b⟩
def Yg{l:PySem.W.OpenLaw}{a:Addr}{p:Str}(D:DefM K mg x st)(d:mg x=some (.ref a))(i: ∀(kV c o:ņ)(j:Option Addr)(b n:ņ)(s:Ņ)(v:ņ),BindsTo s (PySem.W.fnOf x x (wN st) (yT st) (zE st) .none kV c o j b n) ⟨[v],[]⟩ [(p,v)])
  (h: ∀base f fd,Fun K x x st f fd->FnOk l.prog w K mg base rY k f fd [p] (IB ⟨K,mg,l.prog,w⟩ 1 F)):
  ∃fd:FuncData,(∀(s:Ņ)(v:ņ),BindsTo s fd ⟨[v],[]⟩ [(p,v)])/\ ∀base:Heap,K.In base->base.Ns mainGlobals mg->FnOk l.prog w K mg base rY k a fd [p] (JL K F):=by
 obtain⟨f,fd,m,e⟩:=D.ex;rw[d]at m;cases m;refine⟨fd,?_,λbase _ _=>(h base a fd e).imp λvs H Q E=>Gf (g:=⟨K,mg,_,w⟩) vs H Q E⟩;obtain⟨_,_,_,_,_,_,_,_,_,rfl,_,_⟩:=e.ex;exact i _ _ _ _ _ _
end
section
variable{X:Cx}{W:XW}{e:Expr}{es:R0}{af:Rho->Sto->R (List Er)}{k n:Nat}{ps:L0}{F:List MV->Sto->R Er}{x:Str}{p pos:Pos}
def Hn(G:Hl X.prog X.w X.K X.mg X.base x k n ps F)(h:Room k X.A)(i:Gl X x)(c:HQ X W (e::es) af)(a:(x==("__debug__":Str))=false:=by decide)
  (he:q9 X e es:=by rfl) (hpl:Q2 X pos es:=by rfl):zM X W (.Call (.Name x p) (e::es) [] pos) (λρ S=>(af ρ S).bind λrs S1=>zK n F rs S1):=
 let ⟨_,_,G,m,d,b⟩:=G.ex;Nd G h i m d b c a he hpl
end
end M
end L2
namespace L2
open PySem PySem.Spec PyProof.Rows
structure RoomH(k:Nat)(A:Ň):Prop where
 dp:A.depth+3 * k+5<recursionLimit
 un:A.units+16 * k+200<cLine
def RoomH.depth{k:Nat}{A:Ň}(r:RoomH k A):A.depth<recursionLimit:=by have:=r.dp;omega
def RoomH.units{k:Nat}{A:Ň}(r:RoomH k A):A.units+64<cLine:=by have:=r.un;omega
structure FnOkH(P:ň)(w:World)(K:U0)(mg:L1)(base:Heap)(k:Nat)(f:Addr)(fd:FuncData)(ps:L0)(sp:Sp):Prop where
 len: ∀vs H Q E,sp vs H Q E->vs.length=ps.length
 run: ∀(A:Ň)(outer:List Env)(s:Ņ)(H:Hp)(args:Args)(us:B0)(vs:List V)(Q:VK)(E:XK),RoomH k A->HdA A H->Env0 P w K mg base A outer s H->BindsTo s fd args (ps.zip us)->Vals vs us->sp vs H Q E->
  codeAny (model P w) A (.call (.ref f) args) (CR rY outer P w H s Q E) s
namespace M
section
variable{P:ň}{w:World}{K:U0}{mg:L1}{base:Heap}{x:Str}{ps:L0}{k n:Nat}{F:List MV->Sto->R Er}
structure CalH(P:ň)(w:World)(K:U0)(mg:L1)(base:Heap)(x:Str)(k n:Nat)(ps:L0)(F:List MV->Sto->R Er):Prop where
 ex: ∃fa fd,FnOkH P w K mg base k fa fd ps (IB ⟨K,mg,P,w⟩ n F)/\mg x=some (.ref fa)/\PySem.W.keepIn K (.ref fa)=true/\Binds K fd ps []
end
def Q3(kvs:X5)(S:Sto):R Er:=.ok (.val (.loc S.length)) (S++[.dic kvs])
section
variable{X:Cx}{o e:Expr}{es:R0}
def gD(ks:List (Key×V))(k:Key):Option V:=(ks.find? λp=>decide (p.1=k)).map (·.2)
theorem vU: ∀{d:List (Key×V)}{vs:List (Key×ņ)}(r:KV d vs)(k:Key),(∀v,gD d k=some v-> ∃u,valueAt vs k=some u/\RelV v u)/\(gD d k=none->valueAt vs k=none)
 |_,_,.nil,k=>⟨λv h=>(nomatch h),λ_=>rfl⟩
 |(a,x)::d,(b,u)::vs,.cons ⟨h1,h2⟩ l,k=>by
  cases h1;have e:=vU l k;unfold gD valueAt;by_cases c:a=k
  .simp only[find?_cons,c];exact⟨λv h=>⟨u,rfl,by cases h;exact h2⟩,λh=>nomatch h⟩
  .simp only[find?_cons,c];exact e
theorem mY{α:K0}{H:Hp}: ∀{kvs:X5}{a:List (Key×V)}{k:MV}{k':Key},DenK X.K α H kvs a->KeyD k k'->(∀d,look kvs k=some d-> ∃v,gD a k'=some v/\Den X.K α H d v)/\(look kvs k=none->gD a k'=none)
 |_,_,_,_,.nil,_=>⟨λd h=>(nomatch h),λ_=>rfl⟩
 |_,_,k,k',.cons (k:=k0) (k':=k0') (v:=v0) h1 h2 l,hk=>by
  have b:=mY l hk;rw[sG];unfold gD;by_cases c:k0=k
  .subst c;have:=EC h1 hk;simp only[find?_cons,this];exact⟨λd h=>⟨v0,rfl,by cases h;exact h2⟩,λh=>nomatch h⟩
  .have e: ¬k0'=k':=λz=>c (vS h1 (z▸hk));simp only[find?_cons,e,iN c];exact b
def TyK(X:Cx)(x:V)(H:Hp):Prop:= ∃d a,x=.ref d/\DK X H d a
def LT:vT X "dict" (TyK X):=by intro pins s σ H x v I h ⟨d,k,e,i⟩;subst e;cases h;obtain⟨_,hs,vs,j,o,es,ep,b,c,_⟩:=aR I i;exact⟨⟨o,b,c.1⟩,λa e=>by cases e;exact⟨o,b,c.2.1⟩⟩
end
section
variable{α β:Type}
def vJ(i:Nat)(ρ:Rho)(S:Sto):R Er:=Mh (ρ[i]?) S
def kJ(d:MV)(_:Rho)(S:Sto):R Er:=.ok (.val d) S
def bJ(f:Rho->Sto->R α)(F:α->Sto->R β)(ρ:Rho)(S:Sto):R β:=(f ρ S).bind F
def dJ(F:Er->Er->Sto->R Er)(f g:AX)(ρ:Rho)(S:Sto):R Er:=(f ρ S).bind λp S=>(g ρ S).bind λq S=>F p q S
def nJ(f:AX)(ρ:Rho)(S:Sto):R Er:=(f ρ S).bind λp S=>(cX p S).bind λk S=>.ok (.val (.bl !k)) S
def aJ(f g:AX)(ρ:Rho)(S:Sto):R Er:=(f ρ S).bind λp S=>Fc p S λS=>g ρ S
def oJ(f g:AX)(ρ:Rho)(S:Sto):R Er:=(f ρ S).bind λp S=>orF p S λS=>g ρ S
def iJ(c:AZ)(f g:Rho->Sto->R α)(ρ:Rho)(S:Sto):R α:=(c ρ S).bind λk S=>if k=true then f ρ S else g ρ S
def mJ(_:Rho)(S:Sto):R (Option Int):=.ok none S
def tJ(F:Er->Option Int->Option Int->Sto->R Er)(f:AX)(g h:Rho->Sto->R (Option Int))(ρ:Rho)(S:Sto):R Er:=(f ρ S).bind λp S=>(g ρ S).bind λl S=>(h ρ S).bind λu S=>F p l u S
def lJ(k:X5)(_:Rho)(S:Sto):R Er:=Q3 k S
def zJ(_:Rho)(S:Sto):R Er:=Su S
def fJ(n:Nat)(F:List MV->Sto->R Er)(a:Rho->Sto->R (List Er))(ρ:Rho)(S:Sto):R Er:=(a ρ S).bind λr S=>zK n F r S
def xJ(n:Nat)(F:List MV->Sto->R Er)(a:Rho->Sto->R (List Er))(ρ:Rho)(S:Sto):R Er:=(a ρ S).bind λr S=>WY n F r S
def hJ(F:List MV->Sto->R Er)(_:Rho)(S:Sto):R Er:=zK 0 F [] S
def eJ(t:Er->Sto->Bool)(F:Er->List Er->Sto->R Er)(f:AX)(a:Rho->Sto->R (List Er))(ρ:Rho)(S:Sto):R Er:=(f ρ S).bind λp S=>if t p S=true then(a ρ S).bind λr S=>F p r S else .no
def gJ(t:Er->Sto->Bool)(F:Er->List Er->Sto->R Er)(f:AX)(ρ:Rho)(S:Sto):R Er:=(f ρ S).bind λp S=>if t p S=true then F p [] S else .no
def uJ(_:Rho)(S:Sto):R Bool:=.ok true S
def pJ(i:Rho->Sto->R Wk)(g:MV->Rho->Sto->R Rho)(c:AZ)(e:AX)(n:Nat)(I:Tk)(ρ:Rho)(S:Sto):R Er:=(i ρ S).bind λk S=>if k.ds.length<1000000 then(zT g c e (qG n I ρ) k.gs k.ds S).bind λo S=>.ok (.new o) S else .no
def jJ(F G:Er->Er->Sto->R Er)(f g h:AX)(ρ:Rho)(S:Sto):R Er:=(f ρ S).bind λp S=>(g ρ S).bind λq S=>chF F G p q S λS=>h ρ S
def qJ(f:AZ)(ρ:Rho)(S:Sto):R Bool:=(f ρ S).bind λk S=>.ok (!k) S
def rJ(f g:AZ)(ρ:Rho)(S:Sto):R Bool:=(f ρ S).bind λk S=>if k=true then g ρ S else .ok false S
def sJ(f g:AZ)(ρ:Rho)(S:Sto):R Bool:=(f ρ S).bind λk S=>if k=true then .ok true S else g ρ S
def wJ(_:Rho)(S:Sto):R (List Er):=.ok [] S
def yJ(f:AX)(g:Rho->Sto->R (List Er))(ρ:Rho)(S:Sto):R (List Er):=(f ρ S).bind λp S=>(g ρ S).bind λl S=>.ok (p::l) S
def AJ(f:AX)(ρ:Rho)(S:Sto):R Fl:=(f ρ S).bind λr S=>.ok (.ret r) S
def BJ(f:AX)(ρ:Rho)(S:Sto):R Fl:=(f ρ S).bind λ_ S=>.ok (.next ρ) S
def CJ(f:AX)(i:Nat)(ρ:Rho)(S:Sto):R Fl:=(f ρ S).bind (EW ρ i)
def DJ(F:Er->Er->MV->Rho->Sto->R Rho)(f g:AX)(d:MV)(ρ:Rho)(S:Sto):R Rho:=(f ρ S).bind λp S=>(g ρ S).bind λq S=>F p q d ρ S
def EJ(f:AX)(g:MV->Rho->Sto->R Rho)(ρ:Rho)(S:Sto):R Fl:=(f ρ S).bind (Ao g ρ)
def FJ(i:Rho->Sto->R Wk)(g:MV->Rho->Sto->R Rho)(b:AY)(ρ:Rho)(S:Sto):R Fl:=(i ρ S).bind λk S=>gB g b k.gs k.ds ρ S
def GJ(a:Rho->Sto->R (List Er))(c:Str)(ρ:Rho)(S:Sto):R Fl:=(a ρ S).bind λr S=>if r.length<=10 then .exc c [] S else .no
def HJ(cs:L0)(i:Nat)(h:AY)(n:Nat)(F:List MV->Sto->R Er)(a:Rho->Sto->R (List Er))(ρ:Rho)(S:Sto):R Fl:=(noX (a ρ S)).bind λr S=>Xy cs i (λ_ S=>.ok (.next ρ) S) h ρ (WY n F r S)
def IJ(cs:L0)(i j:Nat)(h:AY)(n:Nat)(F:List MV->Sto->R Er)(a:Rho->Sto->R (List Er))(ρ:Rho)(S:Sto):R Fl:=(noX (a ρ S)).bind λr S=>Xy cs i (EW ρ j) h ρ (WY n F r S)
def JJ(ρ:Rho)(S:Sto):R Fl:=.ok (.next ρ) S
end
section
variable{X:Cx}{W:XW}{a e:Expr}{p:Pos}{f:AX}
def augF(F:Er->Er->Sto->R Er)(i:Nat)(f:AX)(ρ:Rho)(S:Sto):R Fl:=(Mh (ρ[i]?) S).bind λp S1=>(f ρ S1).bind λq S2=>(F p q S2).bind (EW ρ i)
def intsOf:List MV->Option (List Int)
 |[]=>some []
 |.int i::ds=>(intsOf ds).map (i::·)
 |_::_=>none
theorem ints_of{K:U0}{α:K0}{H:Hp}: ∀{ds:X1}{c:A0}{vs:List V}{us:B0},intsOf ds=some c->DenL K α H ds vs->Vals vs us->IntsAre us c
 |[],c,vs,us,e,d,r=>by cases e;rw[d.isnil]at r;cases r;exact .nil
 |x::ds,c,vs,us,e,d,r=>by
  obtain⟨v,j,rfl,h,i⟩:=d.uncons
  cases r with
  |cons a b=>
   cases x<;>first |(cases e)|skip
   unfold intsOf at e
   cases z:intsOf ds with
   |none=>rw[z]at e;cases e
   |some ms=>
    rw[z]at e;cases e;cases yL h;obtain⟨t,rfl⟩:=a;exact .cons _ _ (ints_of z i b)
theorem eR: ∀{us:B0}{a:A0},IntsAre us a->Vals (a.map V.int) us
 |_,_,.nil=>.nil
 |_,_,.cons n t h=>.cons ⟨t,rfl⟩ (eR h)
theorem Bh:CallR X (.builtin "sorted") (λxs H Q=> ∃l vs ds c α,xs=[.ref l]/\SqL X.K H l vs/\intsOf ds=some c/\DenL X.K α H ds vs/\ds.length<64/\ ∀p,H p=none->Q (.ref p) (xG H p (.lst ((PySem.W.sortI c).map V.int)))):=by
 intro pins s σ H xs us Q I r h;obtain⟨l,vs,ds,c,α,rfl,z,hi,i,D,q⟩:=h;obtain⟨u,rfl,v⟩:=vals1 r;cases v;obtain⟨its,d,p,_⟩:=I.list z;have k:=ints_of hi i d;have a:its.length<64:=by have:=d.length;have:=i.length;lia
 refine sorted_ints p.isList k a λout C m j n=>?_;obtain⟨e,B⟩:=sortedAll_at s.heap its out;have y:=PySem.W.eq_sortI j n;subst y;refine⟨.ref _,_,I.laid (λb o e=>sortedAll_old e) (le_succ _) (show ObjOk X.prog X.w _ _ _ (.lst _)from⟨?_,_,e,eR m,?_⟩),rfl,q _ (I.hok.fresh (le_succ _))⟩
 .have e1:=(eR m).length;have e2:=j.length_eq;have A:=(eR k).length;have:=ď;rw[lM]at e1 A ⊢
  lia
 .rw[Array.toArray_toList];exact B
def uG:bootBuiltins "sorted"=some (.builtin "sorted"):=by decide+kernel
def PV(rs:List Er)(S:Sto):R Er:=match rs with
 |[p]=>match kI S p with
  |some ds=>if ds.length<64 then(match intsOf ds with |some ns=>.ok (.new ((PySem.W.sortI ns).map MV.int)) S|none=>.no)else .no
  |none=>.no
 |_=>.no
def Pe:eY X W (λxs H Q=> ∃l vs ds b α,xs=[.ref l]/\SqL X.K H l vs/\intsOf ds=some b/\DenL X.K α H ds vs/\ds.length<64/\ ∀p,H p=none->Q (.ref p) (xG H p (.lst ((PySem.W.sortI b).map V.int)))) PV:=by
 intro rs vs α S H Q c d a;unfold PV at a;split at a
 .split at a
  .rename_i ds e;split at a
   .rename_i i;split at a
    .rename_i b hi;obtain⟨v,rfl,h⟩:=fA d;obtain⟨l,us,rfl,h1,j⟩:=pU rfl c e h;exact⟨l,us,ds,b,α,rfl,h1,hi,j,i,λp k=>Post.newl a c k (mV _)⟩
    .exact a.elim
   .exact a.elim
  .exact a.elim
 .exact a.elim
end
def KJ(n:Nat)(F:List MV->Sto->R Er)(a:Rho->Sto->R (List Er))(ρ:Rho)(S:Sto):R Er:=(noX (a ρ S)).bind λr S=>WY n F r S
def LJ(c:AZ)(f g:AX)(ρ:Rho)(S:Sto):R Er:=(noX (c ρ S)).bind λk S=>if k=true then f ρ S else g ρ S
def MJ(cs:L0)(i:Nat)(h:AY)(f:AX)(ρ:Rho)(S:Sto):R Fl:=Xy cs i (λ_ S=>.ok (.next ρ) S) h ρ (f ρ S)
section
variable{X:Cx}{a:Expr}{ta:TA}{pos2 p3:Pos}
def Ho(r:Addr)(j:Int):HO:=.ext λh=> ∃t u v,IsRange h r 0 j 1 t u v
def Yh(w:Gl X "range")(m:X.mg "range"=none)(i:PA X [a] ta)(hs:starEach [a] X.env=[(false,eval a X.env)]:=by rfl):
  PE X (.Call (.Name "range" p3) [a] [] pos2) (λσ H Q=>ta σ H λvs H1=> ∃j:Int,vs=[.int j]/\ ∀r,H1 r=none->Q (.ref r) (xG H1 r (Ho r j))):=by
 intro pins s σ H Q I h;refine Call_ (BE I w m boot_range (ĥ (jD (i pos2 pins s σ H _ I h) λus d ⟨vs,H1,I1,n,k⟩=>?_) hs rfl));obtain⟨j,rfl,q⟩:=k;obtain⟨u,rfl,t,rfl⟩:=vals1 n;refine call_range_1 ?_;have c:=I1.hok.fresh (à _);refine⟨.ref d.heap.objs.size,_,I1.laid (o:=Ho d.heap.objs.size j) (λb o e=>hP0 _ e) (à _) ⟨⟨_,_,_,IsRange.new ..⟩,⟨_,ä _ rfl⟩,?_⟩,rfl,q _ c⟩;rintro h1 z ⟨t,u,v,p⟩ y;exact⟨t,u,v,y _ p⟩
def IL{prog:ň}{w:World}{A:Ň}{E:VP}{s:Ņ}{Q:List ņ->Ņ->Prop}{r:Addr}{a b c:Int}{t u v:Tok}{n:Nat}(J:A.handled=none)(C:IsRange s.heap r a b c t u v)(k:Builtin.Range.small a b c=true)
  (hn:Builtin.Range.rangeSize a b c=n) (hlen:n<=2 ^ 24) (hQ: ∀h' tk d,(∀b o,s.heap.get? b=some o->h'.get? b=some o)->ItemsOf (λi v=> ∃t,v=.int (a+i * c) t) d n->Q d.toList {s with heap:=h',toks:=tk}):
  wpAny (model prog w) A (collect (.ref r)) Q E s:=by
 unfold collect;refine wB (wpAny_runValue (Ę F.entry_proto_collect ?_));rw[č F.plain_proto_collect _];show wpAny _ A.in1 _ _ _ s;refine wB (Ċ ?_);refine wP ⟨plainId_quiet F.plain_list_iadd _,Ę F.entry_list_iadd ?_⟩;rw[č F.plain_list_iadd _];show wpAny _ A.in1 _ _ _ _;have H:(s.heap.push {cls:=.type "list",data:=.seq ([]:B0).toArray}).get? s.heap.objs.size=some {cls:=.type "list",data:=.seq #[] 0}:=ä _ rfl
 have m: ∀h' tk d j,(∀b o,b≠s.heap.objs.size->(s.heap.push {cls:=.type "list",data:=.seq ([]:B0).toArray}).get? b=some o->h'.get? b=some o)->h'.get? s.heap.objs.size=some {cls:=.type "list",dict:=none,data:=.seq d j,slots:=#[]}->ItemsOf (λi v=> ∃t,v=.int (a+i * c) t) d n->
   wpAny (model prog w) A (match Value.ref s.heap.objs.size with
   |Value.ref a=>do
    match (<-load a).data with
     |Data.seq xs _=>pure xs.toList
     |_=>unsupported "internal:collect"
   |_=>unsupported "internal:collect") Q E {s with heap:=h',toks:=tk}:=by
  intro h' tk d j I B q;show wpAny _ A _ _ _ _;refine wB (wpAny_load B ?_);refine wP ?_;exact hQ h' tk d (λb o e=>I b o (ã (â e)) (hP0 _ e)) q
 refine ā (wpAny_extend_range (R:=λG s'=>G=.ok _/\ ∃h' tk d j,s'={s with heap:=h',toks:=tk}/\(∀b o,b≠s.heap.objs.size->(s.heap.push {cls:=.type "list",data:=.seq ([]:B0).toArray}).get? b=some o->h'.get? b=some o)/\h'.get? s.heap.objs.size=some {cls:=.type "list",dict:=none,data:=.seq d j,slots:=#[]}/\ItemsOf (λi v=> ∃t,v=.int (a+i * c) t) d n)
  J (hP0 _ C) k hn hlen s.heap.objs.size (.ref s.heap.objs.size) 0 H λh' tk d j z y p=>⟨rfl,h',tk,d,j,rfl,z,y,p⟩) (λD s' h=>?_) (λe s' h=>?_)
 .cases D with
  |done f=>
   obtain⟨e,h',tk,d,j,rfl,z,y,p⟩:=h;cases e;exact m h' tk d j z y p
  |again j=>exact⟨h.1,Į h.2 λr K C=>by obtain⟨rfl,h',tk,d,j,rfl,z,y,p⟩:=C;exact m h' tk d j z y p⟩
 .exact absurd h.1 (by simp)
end
section
variable{prog:ň}{w:World}{A:Ň}{E:VP}{s:Ņ}{r:Addr}{a b c:Int}{t u v:Tok}{n:Nat}
def PX{Q₁:VP}(H:A.handled=none)(B:IsRange s.heap r a b c t u v)(j:Builtin.Range.small a b c=true)(G:Builtin.Range.rangeSize a b c=n)(p:n<=2 ^ 24)
  (h: ∀(h':Heap)(tk:Nat)(m:B9),(∀b o,s.heap.get? b=some o->h'.get? b=some o)->ItemsOf (λi v=> ∃t,v=.int (a+i * c) t) m n->Q₁ (.ref h'.objs.size) {s with heap:=h'.push {cls:=.type "tuple",data:=.seq m},toks:=tk}):
  codeAny (model prog w) A (.call (.builtin "tuple.__new__") ⟨[.type "tuple",.ref r],[]⟩) (wants Q₁ E) s:=by
 refine codeAny_of_tree ?_;show wpAny _ A.in1 _ _ _ s;refine wB (wpAny_of_eq (F.newCall_tuple_1 _) (wP ⟨plainId_quiet F.plain_tuple_new _,Ę F.entry_tuple_new ?_⟩));rw[č F.plain_tuple_new _];have z:=sub_tuple_self;have y:=init_tuple_lookup;have C:=madeHere_tuple;have q:s.TypeIs (.ref r) "range":=⟨_,B,rfl⟩
 wp_walk using į q,IL (A:=A.in1) H B j G p
 intro h' tk d D k;show wpAny _ _ (Builtin.Tuple.tupleExact d.toList.toArray >>= λv=>ret v) _ _ _;unfold Builtin.Tuple.tupleExact;refine wB (Ċ ?_ (by show d.toList.toArray.size<=sizeLine;simp only[Array.toArray_toList];rw[k.1,ď];omega));refine wP ?_;have e:d.toList.toArray=d:=by simp
 rw[e];exact h h' tk d D k
def BQ{Q:VP}(C:A.handled=none)(B:IsRange s.heap r a b c t u v)(h:Builtin.Range.small a b c=true)(z:Builtin.Range.rangeSize a b c=n)(p:n<=2 ^ 24)
  (hQ: ∀(h':Heap)(tk:Nat)(k:B9),(∀b o,s.heap.get? b=some o->h'.get? b=some o)->ItemsOf (λi v=> ∃t,v=.int (a+i * c) t) k n->Q (.ref h'.objs.size) {s with heap:=h'.push {cls:=.type "tuple",data:=.seq k},toks:=tk}):
  wpAny (model prog w) A (call (.type "tuple") [.ref r]) Q E s:=by
 refine callType_codes (Q₁:=λj d=>d.TypeIs j "tuple"/\Q j d) F.called_tuple (F.typeCall_tuple_1 _) F.entry_object_init
  (PX C B h z p λh' tk q y m=>⟨⟨_,ä _ rfl,rfl⟩,hQ h' tk q y m⟩) λj d e=>?_
 exact⟨e.1,F.args_object_init_2 j _,object_init_meets F.called_tuple.init.lookup F.called_tuple.made (by decide) prog w A.in1 _ d ⟨e.1,rfl,e.2⟩⟩
end
section
variable{X:Cx}{W:XW}{a:Expr}{af:Rho->Sto->R (List Er)}{pos pos2 p2 p3:Pos}
abbrev Pf(j:Int):List Int:=(List.range j.toNat).map Int.ofNat
theorem TX{a:B9}{j:Int}(h:ItemsOf (λi v=> ∃t,v=Value.int (0+i * 1) t) a j.toNat):Vals ((Pf j).map V.int) a.toList:=by
 obtain⟨h1,m⟩:=h;refine ?_
 have b: ∀(l:B0)(k:Nat),(∀i v,l[i]? =some v-> ∃t,v=Value.int ((k+i:Nat):Int) t)->Vals (((List.range' k l.length).map Int.ofNat).map V.int) l:=by
  intro l
  induction l with
  |nil=>intro k _;exact .nil
  |cons x l ih=>
   intro k d;obtain⟨t,rfl⟩:=d 0 x rfl;refine .cons ⟨t,rfl⟩ (ih _ λi v c=>?_);obtain⟨t',e⟩:=d (i+1) v c;exact⟨t',by rw[e,show k+_=k+1+i by lia]⟩
 have:=b a.toList 0 λi v c=>by
  obtain⟨t,e⟩:=m i v (by rw[<-û];exact c);refine⟨t,e.trans ?_⟩;congr 1
  lia
 rw[ú,h1, <-List.range_eq_range']at this;exact this
def Hq{j:Int}:Builtin.Range.rangeSize 0 j 1=j.toNat:=by rw[rangeSize_one];split<;>omega
theorem Bi:CallR X (.type "tuple") (λxs H Q=> ∃r j,xs=[.ref r]/\H r=some (Ho r j)/\ -1000000<=j/\j<=1000000/\X.calm=true/\ ∀p,H p=none->Q (.ref p) (xG H p (.tup ((Pf j).map V.int)))):=by
 intro pins s σ H xs us Q I r h;obtain⟨d,j,rfl,m,A,z,n,q⟩:=h;obtain⟨_,rfl,w⟩:=vals1 r;cases w;obtain⟨⟨t,u,v,y⟩,_⟩:=(I.hok d _ m)
 refine BQ (I.ok.hd n) y (small_one (by decide) (by decide) #[0] #[0]) Hq #[0] λh' tk c i a=>?_;have I1:Inv X pins σ H {s with heap:=h',toks:=tk}:=I.kept i
 have k:Inv X pins σ (xG H h'.objs.size (.tup _)) {s with heap:=h'.push {cls:=.type "tuple",data:=.seq c},toks:=tk}:=
  I1.laid (λb o e=>hP0 _ e) (à _) (⟨?_,_,TX a,?_⟩)
 .exact⟨.ref h'.objs.size,_,k,rfl,q _ (I1.hok.fresh (à _))⟩
 .rw[lM,lM,æ,ď]
  lia
 .have:=IsTup.new h' c;simpa using this
def PY(rs:List Er)(S:Sto):R Er:=match rs with
 |[.val (.int j)]=>if -1000000<=j/\j<=1000000 then .ok (.val (.tup ((Pf j).map MV.int))) S else .no
 |_=>.no
def Pg(w:X.calm=true)(y:Gl X "tuple")(n:X.mg "tuple"=none)(e:Gl X "range")(c:X.mg "range"=none)(d:HQ X W [a] af)(hs:starEach [a] X.env=[(false,eval a X.env)]:=by rfl)
  (he1:starEach [.Call (.Name "range" p3) [a] [] pos2] X.env=(false,eval (.Call (.Name "range" p3) [a] [] pos2) X.env)::starEach [] X.env:=by rfl) (hpl1:(backTo pos (starEach [] X.env)).any (·.1)=false:=by rfl):
  zM X W (.Call (.Name "tuple" p2) [.Call (.Name "range" p3) [a] [] pos2] [] pos) (λρ S=>(af ρ S).bind PY):=by
 obtain⟨t,d,k⟩:=d;refine⟨_,rX Bi y n EZ (DW (Yh e c d hs) KU he1) (by decide) (by decide) he1 hpl1,λα ρ S σ H Q s sl q=>k α ρ S σ H _ s sl (q.bind λvs rs S1 B H1 e1 A m E b=>?_)⟩
 replace b:=b.shift A
 unfold PY at b;split at b
 .split at b
  .rename_i j h;obtain⟨u,rfl,D⟩:=JH E;cases kG D;refine⟨j,rfl,λv i=>?_⟩;have C:=m.newx (o:=Ho v j) i;have r:=m.new (o:=Ho v j) i;exact⟨v,j,rfl,zV,h.1,h.2,w,λp z=>(b.shift C).newt r z (mV _)⟩
  .exact b.elim
 .exact b.elim
end
end M
end L2
namespace L2
open PySem PySem.Spec PyProof.Rows
section
variable{X:Cx}{pins:N0}{σ:St}{H:Hp}{s:Ņ}{a C dx:Addr}{fs:List (Str×V)}{f:Str}{v:V}{A:Ň}{E:VP}{o:Obj}
def XE(I:Inv X pins σ H s)(e:H a=some (.frz o (.ins C dx fs))): ∃mA,ObjM s.heap a dx C mA/\ ∀f,RelO (fs.lookup f) (mA f):=by
 obtain⟨_,d,z,ne,ob,mA,n,r,q⟩:=(I.hok a _ e)
 exact⟨mA,⟨ob,n,ne⟩,r⟩
def PZ{b:Bool}{Q:VP}(I:Inv X pins σ H s)(e:H a=some (.frz o (.ins C dx fs)))(c:Cls X.K C)(n:NoAttr X.K C f)(l:fs.lookup f=some v)
  (h: ∀u s',Inv X pins σ H s'->RelV v u->Q u s'):wpAny (model X.prog X.w) A (getAttr (.ref a) f b) Q E s:=by
 obtain⟨mA,O,r⟩:=XE I e;obtain⟨u,i,d⟩:=RelO.some_of (by rw[<-l];exact r f);exact Lh I.kIn O (c.get f) c.hd n i (Aa d) (h u _ (I.tok _) d)
def QA{m:Str}{g:Addr}{b:Sem Bool}{Q:ņ×List ņ->Ņ->Prop}(I:Inv X pins σ H s)(e:H a=some (.frz o (.ins C dx fs)))(c:Cls X.K C)(k:Meth X.K C m g)(l:fs.lookup m=none)
  (h:Q (.ref g,[.ref a]) s):wpAny (model X.prog X.w) A (getMethod (.ref a) m b) Q E s:=by
 obtain⟨mA,O,r⟩:=XE I e;have d:=RelO.none_of (by rw[<-l];exact r m);exact Ee I.kIn O (c.get m) k.at_ k.fn d h
def Inv.freeze(I:Inv X pins σ H s)(e:H a=some (.ins C dx fs)):Inv X pins σ (xG H a (.frz (PySem.W.instObj C dx) (.ins C dx fs))) s:=by
 obtain⟨d,z,ne,ob,mA,n,r,q⟩:=(I.hok a _ e)
 exact I.write (by rw[e];exact True.intro) (.inl rfl) (λ_ _ _ q=>q) ⟨_,ob⟩ ⟨ob,by rw[zF ne];exact d,z,ne,ob,mA,n,r,q⟩
end
namespace M
structure OC(K:U0)(c:Str)(C:Addr):Prop where
 ns:PySem.W.nsIn K mainGlobals c=some (some (.ref C))
 nm:(PySem.W.clsIn K C).map (·.name)=some c
 cl:Cls K C
theorem OC.eq{K:U0}{c:Str}{C a:Addr}(o:OC K c C)(h:PySem.W.nsIn K mainGlobals c=some (some (.ref a))):a=C:=by have:=o.ns;rw[h]at this;cases this;rfl
section
variable{X:Cx}{W:XW}{a e:Expr}{es:R0}{f g:AX}{af:Rho->Sto->R (List Er)}{pos apos p:Pos}{fld m:Str}
def tP(cs:L0)(fld:Str):Er->Sto->R Er
 |.val (.obj c ns ds),S=>if c∈cs then(match (ns.zip ds).lookup fld with |some d=>.ok (.val d) S|none=>.no)else .no
 |_,_=>.no
theorem FN{K:U0}{α:K0}{H:Hp}{fld:Str}{d:MV}: ∀{b:L0}{ds:X1}{vs:List V},DenL K α H ds vs->(b.zip ds).lookup fld=some d-> ∃v,(b.zip vs).lookup fld=some v/\Den K α H d v
 |[],_,_,_,h=>by simp at h
 |n::b,[],_,_,h=>by simp at h
 |n::b,x::ds,vs,l,h=>by
  obtain⟨v,r,rfl,a,i⟩:=l.uncons;rw[Ė,ĕ]at h;rw[Ė];by_cases e:fld==n
  .rw[e]at h;cases h;exact⟨v,by rw[ĕ,e],a⟩
  .have e:(fld==n)=false:=by simpa using e
   rw[e]at h;obtain⟨w,h1,c⟩:=FN i h;exact⟨w,by rw[ĕ,e];exact h1,c⟩
def Ph{cs:L0}(T: ∀c∈cs, ∃C,OC X.K c C/\NoAttr X.K C fld)(i:zM X W e f)(G:attributeBase e fld X.env (eval e X.env)=eval e X.env:=by rfl):zM X W (.Attribute e fld pos) (λρ S=>(f ρ S).bind (tP cs fld)):=by
 obtain⟨t,i,k⟩:=i;refine⟨λσ H Q=>t σ H λx H1=> ∃a o C dx fs v,x=.ref a/\H1 a=some (.frz o (.ins C dx fs))/\Cls X.K C/\NoAttr X.K C fld/\fs.lookup fld=some v/\Q v H1,λpins s σ H Q I h=>?_,λα ρ S σ H Q m sl q=>k α ρ S σ H _ m sl (q.bind λu r S1 L H1 e1 M J P b=>?_)⟩
 .refine Lk G (jD (i pins s σ H _ I h) λu s1 ⟨x,H1,I1,B,a,o,C,dx,fs,v,ex,D,c,n,l,q⟩=>?_);subst ex;obtain rfl:u=Value.ref a:=B;exact PZ I1 D c n l λU s2 w A=>⟨v,H1,w,A,q⟩
 .replace b:=b.shift M
  unfold tP at b;split at b
  .rename_i c ns ds;split at b
   .rename_i z;split at b
    .rename_i d y;obtain⟨a,C,dx,vs,o,rfl,h1,F,h3,Y,O⟩:=SJ P.1;obtain⟨Z,j,N⟩:=T c z;cases j.eq F;obtain⟨v,p,E⟩:=FN O y;exact⟨a,o,C,dx,_,v,rfl,h1,j.cl,N,p,Post.val b J E⟩
    .exact b.elim
   .exact b.elim
  .exact b.elim
def Q4(K:U0)(fld:Str):Sp:=λvs H Q _=> ∃x C dx fs v,vs=[.ref x,v]/\H x=some (.ins C dx fs)/\Cls K C/\NoAttr K C fld/\fs.length<1000/\Q .non (xG H x (.ins C dx (tF fld v fs)))
def Bj(c fld:Str):Er->Sto->R Er
 |.val d,S=>.ok (.val (.obj c [fld] [d])) S
 |_,_=>.no
def Pi{C L:Addr}{fd:FuncData}{c x:Str}{k:Nat}(m:OC X.K x C)(na:NoAttr X.K C fld)(n:Mk X.K C L)(F:FnOk X.prog X.w X.K X.mg X.base rY k L fd ["self",c] (Q4 X.K fld))(Z:Binds X.K fd ["self",c] [])(U:Room (k+1) X.A)(Y:Gl X x)(N:X.mg x=some (.ref C))(D:zM X W e f)(j:(x==("__debug__":Str))=false:=by decide)
  (hs:starEach [e] X.env=(false,eval e X.env)::starEach [] X.env:=by rfl) (hpl:(backTo pos (starEach [] X.env)).any (·.1)=false:=by rfl):zM X W (.Call (.Name x p) [e] [] pos) (λρ S=>(f ρ S).bind (Bj x fld)):=by
 obtain⟨t,D,kk⟩:=D;refine⟨λσ H Q=>Sj C (Q4 X.K fld) [] E0 (Si t H9) σ H λy B=> ∃x dx v,y=.ref x/\B x=some (.ins C dx [(fld,v)])/\Q (.ref x) (xG B x (.frz (PySem.W.instObj C dx) (.ins C dx [(fld,v)]))),λpins s σ H Q I h=>?_,λα ρ S σ H Q O sl q=>kk α ρ S σ H _ O sl (q.bind λu r S1 aa H1 e1 x1 J d1 a=>?_)⟩
 .refine jD (Lm n F U Y N Z .nil En (DW D KU hs) j hs hpl pins s σ H _ I h) λu s' ⟨y,B,T,P,x,dx,v,ex,e,q⟩=>?_;subst ex;exact⟨_,_,T.freeze e,P,q⟩
 .replace a:=a.shift x1
  unfold Bj at a;split at a
  .rename_i d;intro y dx hy b z;refine⟨y,C,dx,[],u,rfl,zV,m.cl,na,by decide,rfl,y,dx,u,rfl,zV,?_⟩;rw[VS,VS];have M:=J.newx (o:=.own y) b;have E:=J.new (o:=.own y) b;have i:(xG H1 dx (.own y)) y=none:=by rw[zF (Ne.symm z)];exact hy
   have G:=E.newx (o:=.frz (PySem.W.instObj C dx) (.ins C dx [(fld,u)])) i;have wb:=E.new (o:=.frz (PySem.W.instObj C dx) (.ins C dx [(fld,u)])) i;exact Post.val (a.shift (M.trans G)) wb (WF zV m.ns m.nm rfl (zW ((d1.1.ext M).ext G) yE))
  .exact a.elim
def QB(m:Str)(l:List (Str×(List MV->Sto->R Er))):Er->Option (List MV->Sto->R Er)
 |.val (.obj c ns _)=>if m∈ns then none else l.lookup c
 |_=>none
def NJ(m:Str)(n:Nat)(l:List (Str×(List MV->Sto->R Er)))(f:AX)(af:Rho->Sto->R (List Er))(ρ:Rho)(S:Sto):R Er:=(f ρ S).bind λp S=>match QB m l p with
 |some F=>(af ρ S).bind λr S=>zK n F (p::r) S
 |none=>.no
theorem lookup_mem{β:Type}{c:Str}{b:β}: ∀{l:List (Str×β)},l.lookup c=some b->(c,b)∈l
 |[],h=>by simp at h
 |(d,x)::l,h=>by
  rw[ĕ]at h;by_cases e:c==d
  .rw[e]at h;cases h;have:=by simpa using e
   rw[this];exact mF0
  .have e:(c==d)=false:=by simpa using e
   rw[e]at h;exact mO _ (lookup_mem h)
theorem FO{β:Type}{m:Str}: ∀{a:L0}{vs:List β},m∉a->(a.zip vs).lookup m=none
 |[],_,_=>by simp
 |n::a,[],_=>by simp
 |n::a,v::vs,h=>by
  rw[Ė,ĕ];have e:(m==n)=false:=by have:m≠n:=λz=>h (by rw[z];exact mF0);simpa using this
  rw[e];exact FO λz=>h (mO _ z)
def MtOk(X:Cx)(m:Str)(k n:Nat)(c:Str)(F:List MV->Sto->R Er):Prop:= ∃C a fd ps,OC X.K c C/\Meth X.K C m a/\FnOk X.prog X.w X.K X.mg X.base rY k a fd ps (IB X.g n F)/\Binds X.K fd ps []
def FP{o:Expr}{pl:Sem Bool}{k n:Nat}{l:List (Str×(List MV->Sto->R Er))}(T: ∀q∈l,MtOk X m k n q.1 q.2)(Y:Room k X.A)(G:zM X W o f)(B:HQ X W (e::es) af)
  (hst:q9 X e es:=by rfl) (hpl:Q2 X pos es:=by rfl)
  (ht:eval (.Call (.Attribute o m apos) (e::es) [] pos) X.env=(do
   let M <-eval o X.env
   standAt apos.atName
   let (f,first) <-holding [M] (getMethod M m pl)
   callWith pos f first (backTo pos (starEach (e::es) X.env)) (backToKw pos (keywordEach [] X.env))):=by rfl):
  zM X W (.Call (.Attribute o m apos) (e::es) [] pos) (NJ m n l f af):=by
 obtain⟨to,G,ko⟩:=G;obtain⟨ta,B,ka⟩:=B;refine⟨λσ H Q=>to σ H λx H1=> ∃a ob C dx fs g fd ps sp,x=.ref a/\H1 a=some (.frz ob (.ins C dx fs))/\Cls X.K C/\Meth X.K C m g/\fs.lookup m=none/\FnOk X.prog X.w X.K X.mg X.base rY k g fd ps sp/\Binds X.K fd ps []/\ta σ H1 λvs E=>sp (x::vs) E Q E0,λpins s σ H Q I h=>?_,λα ρ S σ H Q U sl q=>ko α ρ S σ H _ U sl (Post.bind q λu r S1 y H1 e1 N w1 P i=>?_)⟩
 .refine PySem.W.methodCall_KW (jD (G pins s σ H _ I h) λu s1 ⟨x,H1,I1,rx,a,ob,C,dx,fs,g,fd,ps,sp,ex,ea,c,p,l,F,D,q⟩=>?_) ht;subst ex;obtain rfl:u=Value.ref a:=rx;refine QA I1 ea c p l ?_;refine PySem.W.callWith_K I.ok.mod.kin p.kp (jD (B pos pins s1 σ H1 _ I1 q) λus s2 ⟨vs,E,J,r,v⟩=>⟨J.kIn,?_⟩) hst hpl;exact Eg (vs:=.ref a::vs) F Y D .nil En J (.cons rfl r) (by rw[aN];exact v)
 .unfold QB at i
  cases r with
  |new ds=>exact i.elim
  |val d=>
   cases d with
   |obj c ns ds=>
    dsimp only at i;by_cases j:m∈ns
    .rw[iP j]at i;exact i.elim
    .rw[iN j]at i
     cases z:l.lookup c with
     |none=>rw[z]at i;exact i.elim
     |some F=>
      rw[z]at i;dsimp only at i;obtain⟨a,C,dx,vs,ob,rfl,h1,Z,h3,h4,h5⟩:=SJ P.1;obtain⟨C',g,fd,ps,O,p,hF,D⟩:=T _ (lookup_mem z);cases O.eq Z;refine⟨a,ob,C,dx,_,g,fd,ps,_,rfl,h1,O.cl,p,FO j,hF,D,ka y ρ S1 σ H1 _ w1 (sl.ext N) ?_⟩;refine(Post.shift N i).bind λus rs S2 aa E e2 L w2 d2 v=>?_;exact JI L w2 (ArgsE.cons (DenE.val (P.1.ext L)) (λds b er=>by cases er) d2) v
   |_=>exact i.elim
structure OI(K:U0)(C:Addr):Prop where
 ha:PySem.W.findIn K (.ref C) "__class__"=some (some (.builtin "object.__class__"))
 hn:PySem.W.specialIn K (.builtin "object.__class__") "__get__"=some (some (.builtin "getset_descriptor.__get__"))
 htk:PySem.W.takesIn K (.builtin "object.__class__")=some true
 hm:PySem.W.mroIn K C (.type "object")=some true
end
section
variable(P:ň)(w:World)(K:U0)(mg:L1)(base:Heap)
def Sw(x fld:Str):Prop:= ∃C b fd a,OC K x C/\NoAttr K C fld/\Mk K C b/\FnOk P w K mg base rY 1 b fd ["self",a] (Q4 K fld)/\Binds K fd ["self",a] []/\mg x=some (.ref C)
def Sx(m:Str)(k n:Nat)(l:List (Str×(List MV->Sto->R Er))):Prop:= ∀q∈l, ∃C a fd ps,OC K q.1 C/\Meth K C m a/\FnOk P w K mg base rY k a fd ps (IB ⟨K,mg,P,w⟩ n q.2)/\Binds K fd ps []
def FlB(cs:L0)(fld:Str):Prop:= ∀c∈cs, ∃C,OC K c C/\NoAttr K C fld
end
section
variable{X:Cx}{W:XW}{e:Expr}{f:AX}{pos p:Pos}{fld x:Str}
def FQ(B:Sw X.prog X.w X.K X.mg X.base x fld)(h:Room 2 X.A)(i:Gl X x)(j:zM X W e f)(a:(x==("__debug__":Str))=false:=by decide)
  (hs:starEach [e] X.env=(false,eval e X.env)::starEach [] X.env:=by rfl) (hpl:(backTo pos (starEach [] X.env)).any (·.1)=false:=by rfl):zM X W (.Call (.Name x p) [e] [] pos) (λρ S=>(f ρ S).bind (Bj x fld)):=by
 obtain⟨C,n,fd,b,k,m,mk,F,d,c⟩:=B;exact Pi k m mk F d h i c j a hs hpl
def Pj{P:ň}{w:World}{K:U0}{mg:L1}{base:Heap}{qual:Str}{st:Stmt}{f:Addr}{fd:FuncData}{b:Str}(F:Fun K "__init__" qual st f fd)(j:FnScope ["self",b] ["self",b] (zE st))
  (hbody: ∀(c:ņ)(A:Ň)(a:List Env)(s:Ņ)(H:Hp)(E:XK),PSs (HU rY P w K mg base ["self",b] qual (zE st) f c A a s H E).nox (yT st) (G9 K (λσ H Q=> ∃v,σ[0]? =some (some v)/\Q v H) (λσ H Q=> ∃v,σ[1]? =some (some v)/\Q v H) fld)):
  FnOk P w K mg base rY 1 f fd ["self",b] (Q4 K fld):=by
 refine F.ok j (λvs H Q E h=>?_) λc A a s H vs Q E k h=>?_
 .obtain⟨_,_,_,_,_,rfl,_⟩:=h;rfl
 .obtain⟨x,C,dx,fs,v,rfl,h1,i,e,d,q⟩:=h;exact⟨_,hbody c A a s H E,v,rfl,_,rfl,x,C,dx,fs,rfl,h1,i,e,d,q⟩
end
def nm_of{K:U0}{C:Addr}{a:ClassData}{c:Str}(e:PySem.W.clsIn K C=some a)(h:a.name=c):(PySem.W.clsIn K C).map (·.name)=some c:=by rw[e];exact congrArg some h
section
variable{X:Cx}{W:XW}{a e:Expr}{es:R0}{pos apos:Pos}{f:AX}{af:Rho->Sto->R (List Er)}
def TZ:Er->List Er->Sto->R Er
 |p,[r],S=>match Nk S r with
  |some zs=>BM p S λds=>if ds.length+zs.length<=sizeLine then some (ds++zs)else none
  |none=>.no
 |_,_,_=>.no
def Bl:An X W WA TZ:=by
 intro p rs x vs α S H0 H Q e i o s h a
 match rs,h,a with
 |[],_,a=>exact a.elim
 |_::_::_,_,a=>exact a.elim
 |[r],h,a=>
  have a:Post X.g W e H0 (match Nk S r with |some m=>BM p S λds=>if ds.length+m.length<=sizeLine then some _ else none|none=>.no) Q:=a;split at a
  .rename_i m w;obtain⟨v,rfl,u⟩:=JH h;obtain⟨b,us,rfl,q,n⟩:=SU i w u;obtain⟨c,ws,ds,es,rfl,h1,j,d,k⟩:=BN i o s a;split at d
   .rename_i y;cases d;exact⟨c,b,ws,us,rfl,rfl,h1,q,by rw[j.length,n.length];exact y,k _ (j.append n)⟩
   .cases d
  .exact a.elim
def Bm(c:zM X W a f)(b:HQ X W (e::es) af)
  (hbase:attributeBase a "extend" X.env (eval a X.env)=eval a X.env:=by rfl)
  (hfew:((backTo pos (starEach (e::es) X.env)).all (λx=>!x.1)&&(backToKw pos (keywordEach [] X.env)).all (λx=>x.1.isSome)
   &&decide ((e::es).length+([]:List Keyword).length+(if([]:List Keyword).isEmpty then 0 else 1)<30))=true:=by rfl)
  (hline:(apos.endLine==pos.line)=true:=by rfl) (hs:q9 X e es:=by rfl) (hplain:Q2 X pos es:=by rfl):
  zM X W (.Call (.Attribute a "extend" apos) (e::es) [] pos) (λρ S=>(f ρ S).bind λp S1=>if wF p S1=true then(af ρ S1).bind λrs S2=>TZ p rs S2 else .no):=
 LG PySem.F.plainAttrs_list PySem.F.slot_list_extend PySem.F.type_list_extend Ae Bl TB c b hbase hfew hline hs hplain
end
theorem args_sorted1(a:ņ):argsOk "sorted" ⟨[a],[]⟩:=by unfold argsOk;kernel_rfl
theorem UA(a:ņ):argsOk "list.sort" ⟨[a],[]⟩:=by unfold argsOk;kernel_rfl
open Classical in
def _root_.L2.Room.u128{k:Nat}{A:Ň}(r:Room k A):A.units+128<cLine:=by have:=r.un;omega
section
variable{X:Cx}{α:K0}{S:Sto}{H:Hp}{pins:N0}{σ:St}{s:Ņ}{k:Nat}
def JQ(d:MV):Prop:= ∃x r,d=.tup (.int x::r)
theorem Pk(I:Inv X pins σ H s)(m:Wd X.g α S H){A:Ň}(hu:A.units+64<cLine){d f:MV}{x y:V}{u v:ņ}{k:Bool}(kd:JQ d)(kf:JQ f)(h1:Den X.K α H d x)(Y:Den X.K α H f y)(P:RelV x u)(M:RelV y v)
  (h:EA S zI d f=some k) (prog:ň) (w:World) (E:VP) (Q:Bool->Ņ->Prop) (hq:Q k s):wpAny (model prog w) A (keyLt' (tuples' true) u v) Q E s:=by
 obtain⟨o,p,rfl⟩:=kd;obtain⟨n,r,rfl⟩:=kf;obtain⟨a1,T,q,rfl,L,N,J,_⟩:=TU I h1 P;obtain⟨a2,O,B,rfl,W,v2,t2,_⟩:=TU I Y M;obtain⟨w1,q1,rfl,C,Z⟩:=L.uncons;obtain⟨w2,q2,rfl,F,m2⟩:=W.uncons
 cases N with
 |@cons _ u1 _ us1 rv1 rr1=>
  cases v2 with
  |@cons _ u2 _ us2 rv2 rr2=>
   have h':(eqv S 39 (.int o) (.int n)).bind (λk=>if k=true then LL _ _ p r else EA S 39 _ _)=some k:=h;have D:eqv S 39 _ _=some _:=vO 38 o n;have U:=BK I m 39 A _ _ _ _ _ _ _ #[0] C F rv1 rv2 D;cases yL C;cases yL F;obtain⟨G,rfl⟩:=rv1;obtain⟨aa,rfl⟩:=rv2;rw[D]at h';refine Srt.wp_keyLtI J t2 U ?_ hq
   cases z:decide (o=n)with
   |true=>
    rw[z]at h';have i:LL _ _ p r=some k:=h'
    exact P5 (Fo (λd f x y u v k a b c j e=>BK I m 39 A d f x y u v k #[0] a b c j e)
     (λd f x y u v k a b c j e=>SQ I m 39 A d f x y u v k #[0] a b c j e) Z m2 rr1 rr2 i)
   |false=>
    rw[z]at h';have i:_=some k:=h';cases i;rfl
theorem Q5(I:Inv X pins σ H s)(wd:Wd X.g α S H){A:Ň}(hu:A.units+64<cLine){kds:X1}(hne:kds≠[])(hkind: ∀d,d∈kds->JQ d)(ho:OrdD S kds){E':VP}:
  Srt.Cmp (model X.prog X.w) A E' s (tuples' true) (λp=> ∃d v,d∈kds/\Den X.K α H d v/\RelV v p.1) (ltV X.K α H S kds) where
 go x y hx hy st hk Q hq:=by
  obtain⟨v1,d1,r1⟩:=FH hx;obtain⟨v2,d2,r2⟩:=FH hy;obtain⟨t,ht⟩:=ho.any _ (cY hne x.1) _ (cY hne y.1);have e:ltV X.K α H S kds x y=t:=by unfold ltV;rw[ht];rfl
  rw[e]at hq;exact Srt.wp_lt hk (λE Q hq=>Pk I wd hu (hkind _ (cY hne x.1)) (hkind _ (cY hne y.1)) d1 d2 r1 r2 ht X.prog X.w E Q hq) hq
 tr x y z h1 h2:=by unfold ltV at h1 h2 ⊢;have mx:=cY (K:=X.K) (α:=α) (H:=H) hne x.1;have my:=cY (K:=X.K) (α:=α) (H:=H) hne y.1;have mz:=cY (K:=X.K) (α:=α) (H:=H) hne z.1;obtain⟨t1,e1⟩:=ho.any _ my _ mx;obtain⟨t2,e2⟩:=ho.any _ mz _ my;rw[e1]at h1;rw[e2]at h2;have h1:=h1;have h2:=h2;subst h1 h2;rw[ho.tr _ mx _ my _ mz e1 e2];rfl
 as x y h:=by unfold ltV at h ⊢;have mx:=cY (K:=X.K) (α:=α) (H:=H) hne x.1;have my:=cY (K:=X.K) (α:=α) (H:=H) hne y.1;obtain⟨t1,e1⟩:=ho.any _ mx _ my;rw[e1]at h;have h:=h;subst h;rw[ho.as _ mx _ my e1];rfl
def Yi(I:Inv X pins σ H s){A:Ň}{b:X1}{kvs:List V}{ks:B0}(j:b≠[])(c: ∀d,d∈b->JQ d)(m:DenL X.K α H b kvs)(e:Vals kvs ks){p:VP}:
  wpAny (model X.prog X.w) A (keyKind' ks.toArray) (λq s'=>s'=s/\q=tuples' true) p s:=by
 have ne:ks≠[]:=λz=>by have h1:=e.length;have h:=m.length;rw[z]at h1;exact j (List.length_eq_zero_iff.mp (by rw[<-h,h1];rfl))
 have all: ∀u,u∈ks-> ∃d v,d∈b/\Den X.K α H d v/\RelV v u:=by
  intro u k;obtain⟨i,hi⟩:=getElem?_of_mem k;have n:i<kvs.length:=by rw[e.length];exact(gS.mp hi).1
  obtain⟨G,h1,r⟩:=e.get (gE n);rw[hi]at h1;cases h1;obtain⟨d,h,y⟩:=m.get (gE n);exact⟨d,_,ô h,y,r⟩
 refine Srt.wp_kindI ne λu k=>?_;obtain⟨d,v,md,C,r⟩:=all u k;obtain⟨x,D,rfl⟩:=c d md;obtain⟨a,vs,its,rfl,l,o,t,_⟩:=TU I C r;obtain⟨F,E,rfl,B,_⟩:=l.uncons
 cases o with
 |@cons _ u1 _ us1 rv rr'=>
  cases yL B;obtain⟨tk,rfl⟩:=rv;exact⟨a,_,_,tk,us1,rfl,t,rfl⟩
end
section
variable{X:Cx}{α:K0}{S:Sto}{H:Hp}{pins:N0}{σ:St}{s:Ņ}
theorem Bn(hu:X.A.units+128<cLine)(I:Inv X pins σ H s)(wd:Wd X.g α S H){l:Addr}{xs:List V}{ds:X1}(hl:SqL X.K H l xs)(D:DenL X.K α H ds xs)
  (hlen:ds.length<64) (hpu: ∀d,d∈ds->iQ d=true) (hkd:2<=ds.length-> ∀d,d∈ds->JQ d) (hord:OrdD S ds) {Q:VK}
  (hQ: ∀(idx:Tk)(p:Addr)(ys:List V),idx.Perm (List.range ds.length)->idx.Pairwise (λi j=> ∀a c,ds[i]? =some a->ds[j]? =some c->EA S zI c a=some false)->H p=none->
   DenL X.K α H (idx.filterMap (ds[·]?)) ys->Q (.ref p) (xG H p (.lst ys))):wpAny (model X.prog X.w) X.A (call (.builtin "sorted") [.ref l]) (EP X pins σ Q) X.xe s:=by
 obtain⟨its,C,⟨o,n0,e0,U,_,O⟩,_⟩:=I.list hl;have T:s.heap.IsList l its.toArray:=⟨o,e0,U,n0,O⟩
 have k:its.length=ds.length:=by rw[<-C.length,D.length]
 have ae:=ď;refine call_function_entry_kw kind_sorted plain_sorted entry_sorted (args_sorted1 _) ?_;unfold Builtin.«sorted»;refine wB (wP ?_);refine wB (collect_list T ?_ #[0]);refine wB (wpAny_newList ?_);generalize G:(s.heap.push (seqObj "list" #[] 0)).update s.heap.objs.size (Obj.mapSeq (· ++its.toArray))=h1;have af:h1.objs.size=s.heap.objs.size+1:=by rw[<-G,Heap.size_update,size_push']
 have k1: ∀b u,s.heap.get? b=some u->h1.get? b=some u:=λb u e=>by rw[<-G,Ĥ _ _ (Ē (â e))];exact hP0 _ e
 have y:(h1.push (seqObj "list" its.toArray 0)).get? h1.objs.size=some (seqObj "list" its.toArray 0):=ä _ rfl;show wpAny _ _ _ _ _ {s with heap:=h1.push (seqObj "list" its.toArray 0)};dsimp only;generalize hL:h1.objs.size=L at *;have N:s.heap.objs.size<=L:=by lia
 refine wB (Ă (wpAny_call_entry_kw slot_list_sort ⟨_,y,rfl⟩ entry_list_sort (Srt.sort_plainS y #[0] λE n=>?_) (UA _)));dsimp only at n;generalize P:h1.push (seqObj "list" its.toArray 0)=h2 at *;have fL:vB X pins H L:=I.fpOk N (I.hok.fresh N);have k3: ∀b u,s.heap.get? b=some u->E.heap.get? b=some u:=λb u e=>by rw[n];refine hP0 _ (hP0 _ ?_);rw[Ĥ _ _ (Ē (é (â e) N)), <-P];exact hP0 _ (k1 b u e)
 have M:Inv X pins σ H E:=by have:=I.kept (t':=s.toks) k3;rw[n]at this ⊢;exact this
 have aa:X.A.in1.in1.units+64<cLine:=by show X.A.units+1+1+64<cLine;lia
 obtain⟨q,gL⟩: ∃q,E.heap.get? L=some (seqObj "list" #[] q):=by rw[n];exact⟨_,hP0 _ (hP0 _ (get?_update_seq y (λ_=>#[])))⟩
 refine⟨tuples' true,(λp=> ∃d v,d∈ds/\Den X.K α H d v/\RelV v p.1),ltV X.K α H S ds,λB=>?_,λout op os=>?_⟩
 .have ne:ds≠[]:=λz=>by rw[k,z]at B;exact absurd B (by decide)
  have m:=hkd (k▸B);refine⟨Yi M ne m D C,Q5 M wd aa ne m hord,λp hp=>?_⟩;have W:p.1∈its:=(of_mem_zip hp).1;obtain⟨i,hi⟩:=getElem?_of_mem W;have J:i<xs.length:=by rw[C.length];exact(gS.mp hi).1
  obtain⟨u',F,r⟩:=C.get (gE J);rw[hi]at F;cases F;obtain⟨d,ab,Y⟩:=D.get (gE J);exact⟨d,_,ô ab,Y,r⟩
 .obtain⟨idx,ip,ie⟩:=JO op.symm (List.range ds.length) (Bf k k);have ib: ∀i,i∈idx->i<ds.length:=λi hi=>ç.mp (ip.mem_iff.mp hi);have eo:out.map (·.2)=idx.filterMap (its[·]?):=by rw[<-ie,ï];exact FK λi hi=>by rw[k];exact ib i hi
  have po:idx.Pairwise (λi j=> ∀a c,ds[i]? =some a->ds[j]? =some c->EA S zI c a=some false):=by rw[<-ie,Č]at os;refine Ğ (λ{i j} hi hj h a c ha hc=>?_) os;have ui:its[i]? =some (its[i]'(by rw[k];exact ib i hi)):=gE _;have uj:its[j]? =some (its[j]'(by rw[k];exact ib j hj)):=gE _;have h':(EA S zI _ _).getD false=false:=h;rw[ui,uj]at h';simp only[Option.getD_some]at h';rw[He M hpu D C ui ha,He M hpu D C uj hc]at h';obtain⟨t,ht⟩:=hord.any c (ô hc) a (ô ha);rw[ht]at h';have h':t=false:=h';rw[ht,h']
  have vy:=Vals.pick C idx;refine⟨_,rfl,wP ⟨_,rfl,.ref L,_,?_,rfl,hQ idx L _ ip po (I.hok.fresh N) (D.pick idx)⟩⟩;obtain⟨f0,f1,f2,f3,f4,f5⟩:=fL
  have I6:Inv X pins σ H {E with heap:=E.heap.update L (Obj.mapSeq λ_=>(out.map (·.2)).toArray)}:=
   M.turned (λb o hb e=>(Ĥ _ _ (Ne.symm hb)).trans e) f0 f1 f3 f4 f5
  obtain⟨n',Z⟩: ∃n',(E.heap.update L (Obj.mapSeq λ_=>(out.map (·.2)).toArray)).get? L=some _:=⟨_,by have:=get?_update_seq gL (λ_=>(out.map (·.2)).toArray);rw[eo]at this ⊢;exact this⟩
  refine Be I6 ⟨f0,f1,f2,f3,f4,f5⟩ (í I.sz N) Z vy ?_
  .have:=List.length_filterMap_le (xs[·]?) idx;have h3:=ip.length_eq;rw[æ]at h3
   lia
end
structure SrtJ(S:Sto)(ds:X1):Prop where
 len:ds.length<64
 pu: ∀d,d∈ds->iQ d=true
 kind:2<=ds.length-> ∀d,d∈ds->JQ d
 ord:OrdD S ds
open Classical in
def pY(rs:List Er)(S:Sto):R Er:=match rs with
 |[p]=>match kI S p with
  |some ds=>if h: ∃r,SrtJ S ds/\ ∀a,XD S ds ds a->a=r then .ok (.new (Classical.choose h)) S else .no
  |none=>.no
 |_=>.no
def Pl{p:Er}{S:Sto}{ds r:X1}(e:kI S p=some ds)(ok:SrtJ S ds)(u: ∀a,XD S ds ds a->a=r)(ex:XD S ds ds r):pY [p] S=.ok (.new r) S:=by
 unfold pY;dsimp only;rw[e];dsimp only;have h: ∃r,SrtJ S ds/\ ∀a,XD S ds ds a->a=r:=⟨r,ok,u⟩
 rw[dif_pos h];obtain⟨_,b⟩:=Ā h;rw[<-b r ex]
section
variable{X:Cx}{W:XW}
def Bp(d:X.A.units+128<cLine):CallR X (.builtin "sorted") (λxs H Q=> ∃α S l vs ds,xs=[.ref l]/\Wd X.g α S H/\SqL X.K H l vs/\DenL X.K α H ds vs/\SrtJ S ds/\
  ∀(idx:Tk)(p:Addr)(ys:List V),idx.Perm (List.range ds.length)->idx.Pairwise (λi j=> ∀a c,ds[i]? =some a->ds[j]? =some c->EA S zI c a=some false)->H p=none->DenL X.K α H (idx.filterMap (ds[·]?)) ys->Q (.ref p) (xG H p (.lst ys))):=by
 intro pins s σ H xs us Q I r h;obtain⟨α,S,l,vs,ds,rfl,b,e,m,ok,q⟩:=h;obtain⟨u,rfl,k⟩:=vals1 r;cases k;exact Bn d I b e m ok.len ok.pu ok.kind ok.ord q
def Pm:eY X W (λxs H Q=> ∃α S l vs ds,xs=[.ref l]/\Wd X.g α S H/\SqL X.K H l vs/\DenL X.K α H ds vs/\SrtJ S ds/\
  ∀(idx:Tk)(p:Addr)(ys:List V),idx.Perm (List.range ds.length)->idx.Pairwise (λi j=> ∀a c,ds[i]? =some a->ds[j]? =some c->EA S zI c a=some false)->H p=none->DenL X.K α H (idx.filterMap (ds[·]?)) ys->Q (.ref p) (xG H p (.lst ys))) pY:=by
 intro rs vs α S H Q k d b;unfold pY at b;split at b
 .split at b
  .rename_i ds e;split at b
   .rename_i h;obtain⟨v,rfl,r⟩:=fA d;obtain⟨l,us,rfl,h1,o⟩:=pU rfl k e r;obtain⟨ok,u⟩:=Ā h;refine⟨α,S,l,us,ds,rfl,k,h1,o,ok,λidx p ys w n q m=>?_⟩;have s:=u _ ⟨idx,w,n,rfl⟩;rw[s]at m;exact Post.newl b k q m
   .exact b.elim
  .exact b.elim
 .exact b.elim
end
section
variable{X:Cx}{W:XW}{a b i e:Expr}{f g:AX}{pos:Pos}{α:K0}{H:Hp}{pins:N0}{σ:St}{s:Ņ}
def Yj:MV->Option Key
 |.int i=>some (.inl i)
 |.str x=>some (.inr (qE x))
 |_=>none
def Bq: ∀{k:MV}{a:Key},Yj k=some a->KeyD k a
 |.int i,_,h=>by cases h;exact rfl
 |.str x,_,h=>by cases h;exact rfl
 |.non,_,h=>nomatch h
 |.bl _,_,h=>nomatch h
 |.tup _,_,h=>nomatch h
 |.scr _,_,h=>nomatch h
 |.loc _,_,h=>nomatch h
 |.typ _,_,h=>nomatch h
 |.obj _ _ _,_,h=>nomatch h
def Br: ∀{k:MV}{a:Key}{v:V},Yj k=some a->Den X.K α H k v->v=kV a
 |.int i,_,_,h,d=>by cases h;exact yL d
 |.str x,_,_,h,d=>by cases h;exact wD d
 |.non,_,_,h,_=>nomatch h
 |.bl _,_,_,h,_=>nomatch h
 |.tup _,_,_,h,_=>nomatch h
 |.scr _,_,_,h,_=>nomatch h
 |.loc _,_,_,h,_=>nomatch h
 |.typ _,_,_,h,_=>nomatch h
 |.obj _ _ _,_,_,h,_=>nomatch h
def JR: ∀{k:Key}{u:ņ},RelV (kV k) u->(jO X.prog X.w).is k u=true
 |.inl i,_,h=>by obtain⟨t,rfl⟩:=(h: ∃t,_=_);exact CT _ _ i t
 |.inr x,_,h=>by obtain⟨t,rfl⟩:=(h: ∃t,_=_);exact qM _ _ x t
theorem Pn: ∀{k:Key}{u:ņ},RelV (kV k) u->(keyPart u).isSome=true
 |.inl i,_,h=>by obtain⟨t,rfl⟩:=(h: ∃t,_=_);rfl
 |.inr x,_,h=>by obtain⟨t,rfl⟩:=(h: ∃t,_=_);rfl
def tI(k:MV):Bool:=(Yj k).isSome
def Q6{kvs:X5}{d:Addr}(ob:ObD X.g α H d (.dic kvs))(i:kvs.all (λp=>tI p.1)=true): ∃b,DK X H d b/\DenK X.K α H kvs b:=by
 rcases ob with⟨b,h,l⟩|⟨xs,h,l⟩
 .exact⟨b,.inl h,l⟩
 .cases l with
  |nil=>exact⟨[],.inr ⟨rfl,h⟩,.nil⟩
  |@cons k nk a d v u fs xs hn e ha hd r l=>
   rw[List.all_cons,aE]at i;obtain⟨j,c⟩:=ü.mp i.1;have:=Br c ha;cases j<;>cases this
def uH(S:Sto):Er->Option (Nat×List (MV×MV))
 |.val (.loc l)=>match S[l]? with
  |some (.dic kvs)=>if kvs.all (λp=>tI p.1)=true then some (l,kvs)else none
  |_=>none
 |_=>none
def Po{S:Sto}(j:Wd X.g α S H){r:Er}{x:V}{l:Nat}{kvs:X5}(e:uH S r=some (l,kvs))(d:DenX X.K α H r x):
  ∃c a,x=.ref c/\α[l]? =some c/\S[l]? =some (.dic kvs)/\DK X H c a/\DenK X.K α H kvs a/\kvs.all (λp=>tI p.1)=true:=by
 unfold uH at e;split at e
 .rename_i n;obtain⟨c,rfl,h⟩:=lO d;split at e
  .rename_i a b;split at e
   .rename_i i;obtain⟨rfl,rfl⟩:=Prod.mk.inj (å e);obtain⟨xs,k,l⟩:=Q6 (j.obj _ c _ h b) i;exact⟨c,xs,rfl,h,b,k,l,i⟩
   .cases e
  .cases e
 .cases e
def Hr{ks:List (Key×V)}{d:Addr}(a:DK X H d ks):B7 (H d):=by rcases a with z|⟨_,z⟩<;>rw[z]<;>exact trivial
def Hs{prog:ň}{w:World}{e:Type}[DecidableEq e]{knd:KeyKind prog w e}{A:Ň}{E:VP}{s:Ņ}{d:Addr}{k:e}{a:ņ}{f:e->Option ņ}{Q:VP}(b:knd.is k a=true)(j:(d==sysModules)=false)(c:s.heap.MapOf knd d f)
  (h:Q (.bool !(f k).isSome) {s with toks:=s.toks+1}):wpAny (model prog w) A (compareOp .NotIn a (.ref d)) Q E s:=by
 show wpAny _ _ _ Q E s;refine wB ?_;unfold contains
 try with_reducible refine Ă ?_
 refine wB (ļ c.typeIs slot_dict_contains.lookup ?_);show wpAny _ _ _ _ E s
 refine wB (wpAny_callSpecialUnlessNone?_slot c.typeIs slot_dict_contains
  (ø slot_dict_contains c.typeIs entry_dict_contains ?_ (args_dict_contains _ _)))
 show wpAny _ _ (dictGet d a >>= _) _ _ s;refine wB (wpAny_dictGet_of b c ?_)
 cases i:f k with
 |some v=>
  rw[i]at h;show wpAny _ _ _ _ _ _;exact wP ⟨_,rfl,Ć (wP h)⟩
 |none=>
  rw[i]at h;show wpAny _ _ _ _ _ _;exact wB (wpAny_pendingKey_other j (wP ⟨_,rfl,Ć (wP h)⟩))
abbrev Yk(X:Cx)(a:Bool):R2:=λx y H Q=> ∃(b:List (Key×V))(d:Addr)(k:Key),x=kV k/\y=.ref d/\DK X H d b/\
 Q (.bl (if a=true then !(gD b k).isSome else(gD b k).isSome)) H
theorem look_same{ks:List (Key×V)}{vs:List (Key×ņ)}(r:KV ks vs)(k:Key):(valueAt vs k).isSome=(gD ks k).isSome:=by
 obtain⟨a,b⟩:=vU r k
 cases h:gD ks k with
 |none=>rw[b h];rfl
 |some v=>obtain⟨u,e,_⟩:=a v h;rw[e];rfl
def Yl:OpR X (compareOp .In) (Yk X false):=by intro pins s σ H x y v u Q I i c h;obtain⟨e,d,k,rfl,rfl,j,q⟩:=h;cases c;obtain⟨_,hs,vs,a,b⟩:=aR I j;refine wpAny_in_of (JR i) hs b.mapOf ?_;rw[look_same a k];exact⟨.bl (gD e k).isSome,H,I.kept (λ_ _ z=>z),rfl,q⟩
def Bs:OpR X (compareOp .NotIn) (Yk X true):=by intro pins s σ H x y v u Q I i c h;obtain⟨e,d,k,rfl,rfl,j,q⟩:=h;cases c;obtain⟨_,hs,vs,a,b⟩:=aR I j;refine Hs (JR i) hs b.mapOf ?_;rw[look_same a k];exact⟨.bl !(gD e k).isSome,H,I.kept (λ_ _ z=>z),rfl,q⟩
def FR(a:Bool)(p q:Er)(S:Sto):R Er:=match p with
 |.val k=>match uH S q with
  |some (_,kvs)=>if tI k=true then .ok (.val (.bl (if a=true then !(look kvs k).isSome else(look kvs k).isSome))) S else .no
  |none=>.no
 |_=>.no
theorem Bt{kvs:X5}{ks:List (Key×V)}{k:MV}{k':Key}(l:DenK X.K α H kvs ks)(b:KeyD k k'):(gD ks k').isSome=(look kvs k).isSome:=by
 obtain⟨a,g2⟩:=mY l b
 cases h:look kvs k with
 |none=>rw[g2 h];rfl
 |some v=>obtain⟨u,e,_⟩:=a v h;rw[e];rfl
def XF{d:Bool}:OS X W (Yk X d) (FR d):=by
 intro p q x y α S H Q h j o a;unfold FR at a;split at a
 .rename_i k;split at a
  .rename_i l kvs e;split at a
   .rename_i m;obtain⟨c,n,rfl,_,_,s,r,_⟩:=Po h e o;obtain⟨i,b⟩:=ü.mp m;refine⟨n,c,i,Br b j,rfl,s,?_⟩;rw[Bt r (Bq b)];exact Post.val a h (wC _)
   .exact a.elim
  .exact a.elim
 .exact a.elim
def Ym(c:zM X W a f)(e:zM X W b g)(d:behindInMarks .In b=false:=by with_unfolding_all rfl):pT X W (.Compare a [.In] [b] pos) (λρ S=>((f ρ S).bind λp S1=>(g ρ S1).bind λq S2=>FR false p q S2).bind cX):=eX Yl XF c e d
def Bu(c:zM X W a f)(e:zM X W b g)(d:behindInMarks .NotIn b=false:=by with_unfolding_all rfl):pT X W (.Compare a [.NotIn] [b] pos) (λρ S=>((f ρ S).bind λp S1=>(g ρ S1).bind λq S2=>FR true p q S2).bind cX):=eX Bs XF c e d
end
section
variable{X:Cx}{W:XW}{a b o i e:Expr}{es:R0}{f:AX}{af:Rho->Sto->R (List Er)}{apos pos:Pos}{α:K0}{H:Hp}{pins:N0}{σ:St}{s:Ņ}
def FS(ks:List (Key×V))(k:Key):List (Key×V):=ks.filter λa=>decide (a.1≠k)
def Bv(ks:List (Key×V))(k:Key):(FS ks k).length<=ks.length:=ñ _ _
theorem XG: ∀{e:List (Key×V)}{vs:List (Key×ņ)},KV e vs-> ∀(k:Key),KV (FS e k) (without vs k)
 |_,_,.nil,k=>.nil
 |(a,x)::e,(b,u)::vs,.cons ⟨h1,h2⟩ l,k=>by
  cases h1;have d:=XG l k;unfold FS without at d ⊢;by_cases c:a=k
  .simp only[Ĳ,c,ne_eq];exact d
  .simp only[Ĳ,c,ne_eq,if_true];exact .cons ⟨rfl,h2⟩ d
def Ht(kvs:X5)(k:MV):List (MV×MV):=kvs.filter λp=>!decide (p.1=k)
theorem JS: ∀{kvs:X5}{b:List (Key×V)}{k:MV}{k':Key},DenK X.K α H kvs b->KeyD k k'->DenK X.K α H (Ht kvs k) (FS b k')
 |_,_,_,_,.nil,_=>.nil
 |_,_,k,k',.cons (k:=k0) (k':=k0') h1 h2 l,hk=>by
  have a:=JS l hk;unfold Ht FS at a ⊢;by_cases c:k0=k
  .subst c;have e:=EC h1 hk;simp only[Ĳ,e,ne_eq];exact a
  .have d: ¬k0'=k':=λz=>c (vS h1 (z▸hk));simp only[Ĳ,c,d,ne_eq,if_true];exact .cons h1 h2 a
def Sy(X:Cx):V->List V->Hp->VK->Prop:=λx vs H Q=> ∃(a:List (Key×V))(d:Addr)(k:Key)(y:V),x=.ref d/\vs=[kV k,y]/\DK X H d a/\
 (∀v,gD a k=some v->Q v (xG H d (.dK (FS a k))))/\(gD a k=none->Q y H)
theorem Pp:C1 X "dict.pop" (Sy X):=by
 intro pins s σ H x vs v us Q I M E h;obtain⟨m,d,k,y,rfl,rfl,B,D,W⟩:=h;obtain⟨u1,Y,rfl,C,J⟩:=vals2 E;cases M;have O:s.TypeIs _ "dict":=(LT pins s σ H (.ref d) _ I rfl ⟨d,m,rfl,B⟩).1;obtain⟨z,hs,vs,o,w⟩:=aR I B;have hl:m.length=vs.length:=Paired.length o;obtain⟨G,P⟩:=vU o k;have a:=JR (X:=X) C;have c:=Pn C;refine ø PySem.F.slot_dict_pop O PySem.F.entry_dict_pop ?_ (PySem.F.args_dict_pop_3 _ _ _);unfold Builtin.«dict.pop»;refine wB ?_;unfold Builtin.Dict.keyAndDefault;refine wB (wpAny_notOrdered_dict w.typeIs ?_);show wpAny _ _ _ _ _ s;refine wP ?_;simp only[c,if_true];refine wB (wP ?_);simp only[fT0,iF]
 cases j:gD m k with
 |some v=>
  obtain⟨u,e,L⟩:=G v j;refine wB (wpAny_takeOut_pairs a w (λK=>by rw[K]at e;exact nomatch e) λN _ n h' i r=>?_);have A:N.val=u:=by rw[e]at n;injection n with n;exact n.symm
  simp only[Option.isNone_some,fT0,iF];refine wB (wpAny_letGo (wP ⟨_,rfl,v,_,?_,by rw[A];exact L,D v j⟩));have p: ∃q,h'.get? d=some q:=let ⟨q,_,_,T,_⟩:=i;⟨q,T⟩;exact I.write (Hr B) (.inl rfl) (λb Z S U=>(r.2 b S).trans U) p ⟨by have:=Bv m k;lia,hs,_,XG o k,i⟩
 |none=>
  have e:=P j;refine wB (wpAny_takeOut_pairs_none a w e ?_);simp only[Option.isNone_none,if_true];refine wB (wpAny_missedRemoval_other hs ?_);exact wB (Ĭ (wP ⟨Y,rfl,y,H,I.tok _,J,W j⟩))
def JT(p:Er)(rs:List Er)(S:Sto):R Er:=match rs with
 |[.val k,.val y]=>match uH S p with
  |some (l,kvs)=>if tI k=true then(match look kvs k with |some d=>.ok (.val d) (S.set l (.dic (Ht kvs k)))|none=>.ok (.val y) S)else .no
  |none=>.no
 |_=>.no
def Pq:An X W (Sy X) JT:=by
 intro p rs x vs α S H0 H Q B j q F C a;unfold JT at a;split at a
 .rename_i k y
  cases C with
  |cons dk n1 l1=>
   cases l1 with
   |cons dy n2 l2=>
    cases l2;split at a
    .rename_i l kvs D;split at a
     .rename_i m;obtain⟨c,r,rfl,u,I,e,A,_⟩:=Po j D F;obtain⟨z,i⟩:=ü.mp m;have s:=Bq i;obtain⟨w,g2⟩:=mY A s;have E:=Br i dk.1;subst E;refine⟨r,c,z,_,rfl,rfl,e,λv b=>?_,λb=>?_⟩
      .cases h:look kvs k with
       |some d=>
        obtain⟨G,e1,e2⟩:=w d h;rw[e1]at b;cases b;rw[h]at a;have n:=j.writex u e.nf (o:=.dK (FS r z));exact(Post.shift (q.trans n) a).val (j.write u e.nf (.inl ⟨_,zV,(JS A s).ex0 n.toEx0⟩)) (e2.ext n)
       |none=>rw[g2 h]at b;cases b
      .cases h:look kvs k with
       |some d=>obtain⟨G,e1,e2⟩:=w d h;rw[e1]at b;cases b
       |none=>
        rw[h]at a;exact(Post.shift q a).val j dy.1
     .exact a.elim
    .exact a.elim
 .exact a.elim
def FT(p:Er)(S:Sto):Bool:=(uH S p).isSome
def Pr(d:zM X W o f)(h:HQ X W (e::es) af)
  (hbase:attributeBase o "pop" X.env (eval o X.env)=eval o X.env:=by rfl)
  (hfew:((backTo pos (starEach (e::es) X.env)).all (λx=>!x.1)&&(backToKw pos (keywordEach [] X.env)).all (λx=>x.1.isSome)
   &&decide ((e::es).length+([]:List Keyword).length+(if([]:List Keyword).isEmpty then 0 else 1)<30))=true:=by rfl)
  (hline:(apos.endLine==pos.line)=true:=by rfl) (hs:q9 X e es:=by rfl) (hplain:Q2 X pos es:=by rfl):
  zM X W (.Call (.Attribute o "pop" apos) (e::es) [] pos) (λρ S=>(f ρ S).bind λp S1=>if FT p S1=true then(af ρ S1).bind λrs S2=>JT p rs S2 else .no):=by
 obtain⟨to,d,y⟩:=d;obtain⟨t,h,k⟩:=h;refine⟨_,Hi LT PySem.F.plainAttrs_dict PySem.F.slot_dict_pop PySem.F.type_dict_pop Pp d h hbase hfew hline hs hplain,λα ρ S σ H Q v sl q=>y α ρ S σ H _ v sl (q.bind λu p S1 a H1 e1 r n s b=>?_)⟩;split at b
 .rename_i i;obtain⟨⟨l,kvs⟩,i⟩:=ü.mp i;obtain⟨c,xs,rfl,_,_,B,_⟩:=Po n i s.1;exact⟨⟨c,xs,rfl,B⟩,k a ρ S1 σ H1 _ n (sl.ext r) ((b.shift r).bind λvs rs S2 j z e2 m A C w=>Pq p rs _ vs j S2 H1 z Q a A m (s.1.ext m) C w)⟩
 .exact b.elim
def JU{ks:List (Key×V)}{vs:List (Key×ņ)}: ∀{us:B0},KV ks vs->us.length=vs.length->(∀(j:Nat)(v:ņ),us[j]? =some v-> ∃(k:Key)(x:ņ),vs[j]? =some (k,x)/\(jO X.prog X.w).is k v=true)->Vals (ks.map λp=>kV p.1) us:=by
 intro us n
 induction n generalizing us with
 |nil=>intro c _;cases us with
  |nil=>exact .nil
  |cons a b=>simp at c
 |@cons p q ps qs h t ih=>
  intro c d
  cases us with
  |nil=>simp at c
  |cons a b=>
   obtain⟨k,x,e,hi⟩:=d 0 a rfl;simp only[List.getElem?_cons_zero,Option.some.injEq]at e;subst e;rw[è];refine .cons ?_ (ih (by simpa using c) λj v m=>by simpa using d (j+1) v (by simpa using m));rw[h.1];rcases yD hi with⟨i,t,e1,e2⟩|⟨i,t,e1,e2⟩
   .subst e2;rw[show k=.inl i from e1];exact⟨t,rfl⟩
   .subst e2;rw[show k=.inr i from e1];exact⟨t,rfl⟩
end
section
variable{prog:ň}{w:World}{A:Ň}{E:VP}{s:Ņ}{r d:Addr}{n:Nat}{P:Nat->ņ->Prop}{OK:Heap->Prop}
def Bw{Q₁:VP}(K:PySem.W.KdlSrc prog w "dict" r d n P OK)(z:A.handled=none)(j:OK s.heap)(q:n<=sizeLine)
  (h: ∀(h':Heap)(tk:Nat)(i:B9),(∀b o,s.heap.get? b=some o->h'.get? b=some o)->ItemsOf P i n->Q₁ (.ref h'.objs.size) {s with heap:=h'.push {cls:=.type "tuple",data:=.seq i},toks:=tk}):
  codeAny (model prog w) A (.call (.builtin "tuple.__new__") ⟨[.type "tuple",.ref r],[]⟩) (wants Q₁ E) s:=by
 refine codeAny_of_tree ?_;show wpAny _ A.in1 _ _ _ s;refine wB (wpAny_of_eq (F.newCall_tuple_1 _) (wP ⟨plainId_quiet F.plain_tuple_new _,Ę F.entry_tuple_new ?_⟩));rw[č F.plain_tuple_new _];have p:=sub_tuple_self;have m:=init_tuple_lookup;have u:=madeHere_tuple;have k:s.TypeIs (.ref r) "dict":=K.type s j
 wp_walk using į k,PySem.W.kdu_collect (A:=A.in1) K z j q
 intro h' tk a y c;show wpAny _ _ (Builtin.Tuple.tupleExact a.toList.toArray >>= λv=>ret v) _ _ _;unfold Builtin.Tuple.tupleExact;refine wB (Ċ ?_ (by show a.toList.toArray.size<=sizeLine;simp only[Array.toArray_toList];rw[c.1];exact q));refine wP ?_;have e:a.toList.toArray=a:=by simp
 rw[e];exact h h' tk a y c
def FU{Q:VP}(K:PySem.W.KdlSrc prog w "dict" r d n P OK)(q:A.handled=none)(k:OK s.heap)(m:n<=sizeLine)
  (hQ: ∀(h':Heap)(tk:Nat)(h:B9),(∀b o,s.heap.get? b=some o->h'.get? b=some o)->ItemsOf P h n->Q (.ref h'.objs.size) {s with heap:=h'.push {cls:=.type "tuple",data:=.seq h},toks:=tk}):
  wpAny (model prog w) A (call (.type "tuple") [.ref r]) Q E s:=by
 refine callType_codes (Q₁:=λe a=>a.TypeIs e "tuple"/\Q e a) F.called_tuple (F.typeCall_tuple_1 _) F.entry_object_init
  (Bw K q k m λh' tk j p i=>⟨⟨_,ä _ rfl,rfl⟩,hQ h' tk j p i⟩) λe a c=>?_
 exact⟨c.1,F.args_object_init_2 e _,object_init_meets F.called_tuple.init.lookup F.called_tuple.made (by decide) prog w A.in1 _ a ⟨c.1,rfl,c.2⟩⟩
theorem UB{Q:VP}(K:PySem.W.KdlSrc prog w "dict" r d n P OK)(z:A.handled=none)(j:OK s.heap)(q:n<64){k:A0}(v: ∀a:Array ņ,ItemsOf P a n->IntsAre a.toList k)
  (h: ∀(h':Heap)(tk:Nat)(out:B9)(c:A0),(∀b o,s.heap.get? b=some o->h'.get? b=some o)->IntsAre out.toList c->c.Perm k->c.Pairwise (· <=·)-> ∀(vs:B0),Q (.ref h'.objs.size) {s with heap:=sortedHeap (h'.push (seqObj "list" vs.toArray 0)) h'.objs.size vs out,toks:=tk}):
  wpAny (model prog w) A (call (.builtin "sorted") [.ref r]) Q E s:=by
 refine Calls.call_function_entry kind_sorted plain_sorted entry_sorted (args_sorted1 _) ?_;refine wB (wP ?_);refine wB (PySem.W.kdu_collect K z j (by rw[ď];lia) λh' tk a p e=>?_);have u:a.toList.length=n:=by rw[ú];exact e.1
 refine wB (wpAny_newList ?_ (by rw[ď];lia));have i:(h'.push (seqObj "list" a.toList.toArray 0)).get? h'.objs.size=some _:=ä _ rfl;show wpAny _ _ _ _ _ {s with heap:=h'.push _,toks:=tk};refine wB (Ă (ø slot_list_sort ⟨_,i,rfl⟩ entry_list_sort (list_sort_tree i (v a e) (by rw[u];exact q) λout c y B m=>⟨_,rfl,?_⟩) (args_list_sort _)));refine wP ⟨_,rfl,h h' tk out c p y B m a.toList⟩
end
section
variable{X:Cx}{W:XW}{α:K0}{H:Hp}
theorem Bx:CallR X (.type "tuple") (λxs H Q=> ∃d k,xs=[.ref d]/\DK X H d k/\X.calm=true/\ ∀l,H l=none->Q (.ref l) (xG H l (.tup (k.map λp=>kV p.1)))):=by
 intro pins s σ H xs us Q I r h;obtain⟨d,k,rfl,E,B,q⟩:=h;obtain⟨u,rfl,C⟩:=vals1 r;cases C;obtain⟨z,w,vs,i,D⟩:=aR I E;obtain⟨ep,m⟩:=D.dictAt;have F:=Paired.length i;refine FU (PySem.W.kdl_dict w) (I.ok.hd B) m #[0] λh' tk c y a=>?_;have n:Vals _ c.toList:=JU i (by rw[ú];exact a.1) λj v e=>a.2 j v (by rw[<-û];exact e);have I1:Inv X pins σ H {s with heap:=h',toks:=tk}:=I.kept y
 have A:Inv X pins σ (xG H h'.objs.size (.tup _)) {s with heap:=h'.push {cls:=.type "tuple",data:=.seq c},toks:=tk}:=
  I1.laid (λb o e=>hP0 _ e) (à _) (⟨by rw[lM];exact z,_,n,by have:=IsTup.new h' c;simpa using this⟩)
 exact⟨.ref h'.objs.size,_,A,rfl,q _ (I1.hok.fresh (à _))⟩
def JV:List Er->Sto->R Er
 |[r],S=>match uH S r with |some (_,kvs)=>.ok (.val (.tup (kvs.map (·.1)))) S|none=>.no
 |_,_=>.no
def Ps(k:X.calm=true):eY X W (λxs H Q=> ∃d b,xs=[.ref d]/\DK X H d b/\X.calm=true/\ ∀l,H l=none->Q (.ref l) (xG H l (.tup (b.map λp=>kV p.1)))) JV:=by
 intro rs vs α S H Q h d a;unfold JV at a;split at a
 .split at a
  .rename_i n kvs e;obtain⟨v,rfl,i⟩:=fA d;obtain⟨c,b,rfl,h1,q,o,m,_⟩:=Po h e i;exact⟨c,b,rfl,o,k,λl j=>Post.newt a h j (BP m)⟩
  .exact a.elim
 .exact a.elim
theorem QC: ∀{ds:X1}{a:A0},intsOf ds=some a->a.length=ds.length
 |[],a,h=>by cases h;rfl
 |x::ds,a,hi=>by
  cases x<;>first |(cases hi;done)|skip
  unfold intsOf at hi
  cases b:intsOf ds with
  |none=>rw[b]at hi;cases hi
  |some ms=>rw[b]at hi;cases hi;rw[lC,lC,QC b]
theorem By:CallR X (.builtin "sorted") (λxs H Q=> ∃d m ds y α,xs=[.ref d]/\DK X H d m/\intsOf ds=some y/\DenL X.K α H ds (m.map λp=>kV p.1)/\ds.length<64/\X.calm=true/\ ∀p,H p=none->Q (.ref p) (xG H p (.lst ((PySem.W.sortI y).map V.int)))):=by
 intro pins s σ H xs us Q I r h;obtain⟨d,m,ds,y,α,rfl,T,hi,k,U,J,q⟩:=h;obtain⟨u,rfl,L⟩:=vals1 r;cases L;obtain⟨z,F,vs,c,O⟩:=aR I T;obtain⟨ep,n⟩:=O.dictAt;have Y:=Paired.length c;have i:vs.length<64:=by have:=k.length;rw[lM]at this;lia
 refine UB (PySem.W.kdl_dict F) (I.ok.hd J) n i (λN a=>ints_of hi k (JU c (by rw[ú];exact a.1) λj v e=>a.2 j v (by rw[<-û];exact e))) λh' tk out P G D B E us=>?_;have M:=PySem.W.eq_sortI B E;subst M;have I1:Inv X pins σ H {s with heap:=h',toks:=tk}:=I.kept G;obtain⟨e,S⟩:=sortedHeap_at (ä _ rfl);refine⟨.ref h'.objs.size,_,I1.laid (λb o A=>?_) (à _) (show ObjOk X.prog X.w _ _ _ (.lst _)from⟨?_,_,e,eR D,?_⟩),rfl,q _ (I1.hok.fresh (à _))⟩
 .have C:=â A;rw[sortedHeap_old (ã C) (by rw[size_push'];exact Nat.lt_succ_of_lt C)];exact hP0 _ A
 .have e1:=(eR D).length;have e2:=B.length_eq;have Z:=QC hi;have:=ď;rw[lM]
  lia
 .rw[Array.toArray_toList];exact S
def JW(rs:List Er)(S:Sto):R Er:=match rs with
 |[p]=>match uH S p with
  |some (_,kvs)=>if kvs.length<64 then(match intsOf (kvs.map (·.1))with |some ns=>.ok (.new ((PySem.W.sortI ns).map MV.int)) S|none=>.no)else .no
  |none=>.no
 |_=>.no
def Pt(m:X.calm=true):eY X W (λxs H Q=> ∃d b ds h α,xs=[.ref d]/\DK X H d b/\intsOf ds=some h/\DenL X.K α H ds (b.map λp=>kV p.1)/\ds.length<64/\X.calm=true/\ ∀p,H p=none->Q (.ref p) (xG H p (.lst ((PySem.W.sortI h).map V.int)))) JW:=by
 intro rs vs α S H Q i d a;unfold JW at a;split at a
 .split at a
  .rename_i n kvs e;split at a
   .rename_i k;split at a
    .rename_i h hi;obtain⟨v,rfl,j⟩:=fA d;obtain⟨c,b,rfl,h1,s,q,o,_⟩:=Po i e j;exact⟨c,b,_,h,α,rfl,q,hi,BP o,by rw[lM];exact k,m,λp r=>Post.newl a i r (mV _)⟩
    .exact a.elim
   .exact a.elim
  .exact a.elim
 .exact a.elim
def Yn(i:X.calm=true):eY X W (λxs H Q=> ∃(a:Addr)(bs:O0),xs=[.ref a]/\SqL X.K H a (bs.map V.bl)/\X.calm=true/\Q (.bl (bs.any id)) H) SY:=by
 intro rs vs α S H Q c d b;unfold SY at b;split at b
 .split at b
  .rename_i bs e;obtain⟨v,rfl,h⟩:=fA d
   cases z:kI S _ with
   |none=>rw[z]at e;cases e
   |some ds=>
    rw[z]at e;obtain⟨j,us,rfl,s,l⟩:=pU rfl c z h;refine⟨j,bs,rfl,?_,i,Post.val b c (wC _)⟩;rw[<-BL e l];exact s
  .exact b.elim
 .exact b.elim
end
section
variable{X:Cx}{a b:Expr}
def LU:CallR X (.builtin "any") (λxs H Q=> ∃(a:Addr)(bs:O0),xs=[.ref a]/\SqL X.K H a (bs.map V.bl)/\X.calm=true/\Q (.bl (bs.any id)) H):=by
 intro pins s σ H xs us Q I r h;obtain⟨a,bs,rfl,F,z,q⟩:=h;obtain⟨u,rfl,D⟩:=vals1 r;cases D;obtain⟨its,y,p,N⟩:=I.list F;have c:its.length=bs.length:=by rw[<-y.length,lM]
 refine PySem.call_any_walk (wpAny_pyIter_list p.isList ?_);have E:a≠s.heap.objs.size:=by obtain⟨o,A,_⟩:=p.isList;exact ã (â A)
 have I1: ∀(h':Heap)(tk:Nat),(∀b o,b∉[s.heap.objs.size]->(s.heap.push {cls:=.type "list_iterator",data:=.fields #[.ref a,.int 0 0]}).get? b=some o->h'.get? b=some o)->Inv X pins σ H {s with heap:=h',toks:=tk}:=λh' tk k=>
  I.kept λb o e=>k b o (by simpa using ã (â e)) (hP0 _ e)
 refine⟨s.heap.objs.size,[s.heap.objs.size,a],[s.heap.objs.size],its.toArray.size,_,_,λi=>bs.getD i false,rfl,PySem.Walks.list (by first |exact I.ok.hd z|exact(I.ok.hd z)) _ a E its.toArray,⟨⟨_,ä _ rfl,rfl,rfl⟩,p.isList.at λo e=>hP0 _ e⟩,?_,λh' tk k=>?_⟩
 .intro i v s' J M B w;have d:=by simpa using B
  have hi:i<bs.length:=by rw[<-c];exact(gS.mp d).1
  have G:(bs.map V.bl)[i]? =some (V.bl (bs.getD i false)):=by simp[ÿ,hi]
  obtain⟨L,j,n⟩:=y.get G;rw[d]at j;cases j;cases n;exact Ć w
 .refine⟨.bl _,H,I1 h' tk k,?_,q⟩;congr 1;rw[sA,c]
  have: ∀(l:O0),(List.range l.length).any (λi=>l.getD i false)=l.any id:=by
   intro l;rw[Ą,ù,ù];constructor
   .rintro⟨i,hi,h⟩;have m:=ç.mp hi;exact⟨l[i],ŀ m,by simpa [ÿ,m]using h⟩
   .rintro⟨x,C,h⟩;obtain⟨i,hi,rfl⟩:=Ń C;exact⟨i,ç.mpr hi,by simpa [ÿ,hi]using h⟩
  exact this bs
def shrC(i j:Int):Prop:=0<=j
instance(i j:Int):Decidable (shrC i j):=inferInstanceAs (Decidable (_<=_))
end
end M
end L2
namespace PySem
def LV:typeLookup (.type "list") "keys"=pure none:=am_miss_of_fast (by decide+kernel)
def getAttr?_miss_list{prog:ň}{w:World}{A:Ň}{E:VP}{s:Ņ}{a:Addr}{o:Obj}{xs:B9}{k:Nat}{name:Str}{Q:Option ņ->Ņ->Prop}
  (hx:s.heap.get? a=some o) (hc:o.cls=.type "list") (hdat:o.data=.seq xs k) (hd:o.dict=none) (hmiss:typeLookup (.type "list") name=pure none) (hname:(["__module__","__name__","__qualname__","__doc__","__annotations__"]:L0).contains name=false) (hA:A.handled=none)
  (h: ∀h' tk,(∀b o,s.heap.get? b=some o->h'.get? b=some o)->Q none {s with heap:=h',toks:=tk}) (hsz:name.length+100<=sizeLine:=by size_fits):
  wpAny (model prog w) A (getAttr? (.ref a) name) Q E s:=by
 obtain⟨c,n,p,sl⟩:=o;simp only at hc hdat hd;subst hc hdat hd;obtain⟨r,g,d,tk,q⟩:=s;have m: ∀j,(⟨r,g,d,j,q⟩:Ņ).TypeIs (.ref a) "list":=λ_=>⟨_,hx,rfl⟩
 have f1:=sub_AttributeError;have y:=F.slot_list_getattribute.lookup;have z:=F.slot_list_getattribute.bind (.ref a);have u:=am_list_getattr_none;unfold getAttr? getAttrBy? getAttrBy
 repeat (any_goals (first |assumption|exact m _|((with_reducible show wpAny _ _ (call (Value.builtin "list.__getattribute__") _ _) _ _ _);refine call_meets F.slot_list_getattribute (m _) am_entry_list_getattribute (F.args_list_getattribute_2 _ _) (meets_getattribute_miss_list a xs k sl name _ hmiss hname hsz) ⟨hx,hA,λh' j e i=>?_⟩)|wp_step))
 obtain⟨t',v,B⟩:=i.there;show wpAny _ _ (getattributeRaised _ _ _ _ _ _ _) _ _ _;unfold getattributeRaised
 repeat (any_goals (first |assumption|wp_step))
 exact h _ _ i.keeps
namespace F
def entry_dict_update_loop:entryFor table "dict.update.loop"=some Builtin.«dict.update.loop»:=entryFor_of_tree (by kernel_rfl)
def plain_dict_update_loop:plainId "dict.update.loop"=true:=by decide+kernel
end F
open PyProof.Rows
section
variable{prog:ň}{w:World}{K:Type}[DecidableEq K]{knd:KeyKind prog w K}{A:Ň}{E:VP}{s:Ņ}{R:Result->Ņ->Prop}
def UC(knd:KeyKind prog w K)(h:Heap)(c:K×ņ)(v:ņ):Prop:= ∃a b,v=.ref a/\IsTup h a #[b,c.2]/\knd.is c.1 b=true
theorem vV{I D:Addr}{fp:K0}{n:Nat}{P:Nat->ņ->Prop}{St:Nat->Heap->Prop}(W:Walks prog w A.in1 I fp [I] n P St)(E:D∉fp)(kvs:List (K×ņ))(Y:kvs.length=n)(hz:n<=sizeLine){c:Heap}
  (hP: ∀i v,P i v-> ∃L,kvs[i]? =some L/\UC knd c L v) (hI:c.get? I=none) (hD:c.get? D=none):
  ∀(k i:Nat)(j:Int)(s:Ņ),n - i=k->i<=n->St i s.heap->s.heap.DictOf knd D (merged [] (kvs.take i))->(∀b o,c.get? b=some o->s.heap.get? b=some o)->
   (∀h' tk,(∀b o,c.get? b=some o->h'.get? b=some o)->h'.DictOf knd D (merged [] kvs)->R (.ok (.ret .none)) {s with heap:=h',toks:=tk})->
   codeAny (model prog w) A (.builtin "dict.update.loop" ⟨[.ref D,.ref I,rawInt j,.none],[]⟩) R s:=by
 have G:D≠I:=λe=>E (e▸W.sub _ (mS.mpr rfl));intro k
 induction k with
 |zero=>
  intro i j s hk hi r J d S;have U:i=n:=by lia
  subst U;refine Ę F.entry_dict_update_loop ?_;rw[č F.plain_dict_update_loop _];show wpAny _ A.in1 _ _ _ s;refine wB (W.done s _ _ r λh' tk p=>?_);show wpAny _ A.in1 _ _ _ _;refine wB (wP ?_);rw[<-Y,List.take_length]at J;refine wP (S h' tk (λb o e=>?_) ?_)
  .exact p b o (λh=>by rw[mS.mp h,hI]at e;cases e) (d b o e)
  .obtain⟨o,es,ep,u,rest⟩:=J;exact⟨o,es,ep,p D o (λh=>G (mS.mp h)) u,rest⟩
 |succ k ih=>
  intro i j s hk hi r J d S;have y:i<n:=by lia
  refine Ę F.entry_dict_update_loop ?_;rw[č F.plain_dict_update_loop _];show wpAny _ A.in1 (pyNext (.ref I) >>= _) _ _ s;refine wB (W.item i s _ _ y r λv h' tk T H p=>?_);obtain⟨L,M,a,aa,rfl,hT,z⟩:=hP i v T;have m: ∀b o,c.get? b=some o->h'.get? b=some o:=λb o e=>p b o (λh=>by rw[mS.mp h,hI]at e;cases e) (d b o e);have Q:h'.DictOf knd D (merged [] (kvs.take i)):=by obtain⟨o,es,ep,u,rest⟩:=J;exact⟨o,es,ep,p D o (λh=>G (mS.mp h)) u,rest⟩
  obtain⟨o,u,hc,nn,C⟩:=hT.keeps m;have N:Shared.TypeIs {s with heap:=h',toks:=tk} (.ref a) "tuple":=⟨o,u,hc⟩
  refine wB (Ă ?_);refine wB (wpAny_tryCatch ?_);unfold Builtin.Dict.pairItems;refine wB (į N ?_);rw[iP (by decide)];refine wB ?_;show wpAny _ _ _ _ _ _;refine wB (wpAny_load u ?_);rw[C];refine wP (wP ?_);show wpAny _ _ _ _ _ _;refine Ă ?_;have Z:=merged_length_le [] (kvs.take i);have ab:(kvs.take i).length<=n:=by rw[<-Y];exact List.length_take_le' i kvs
  refine wpAny_dictSet_pairs z Q λh2 O B=>?_;have q: ∀b o,c.get? b=some o->h2.get? b=some o:=λb o e=>by rw[B.2 b (λh=>by rw[h,hD]at e;cases e)];exact m b o e
  refine wP ⟨plainId_quiet F.plain_dict_update_loop _,ih (i+1) (j+1) _ #[0] y (W.frame _ _ _ H λb hb o e=>?_) ?_ q λh3 X k3 d3=>S h3 X k3 d3⟩
  .rw[B.2 b (λh=>E (h▸hb))];exact e
  .rw[merged_take_succ _ _ _ _ M];exact O
def DO{l:Addr}{its:B9}{o:Obj}{c:Nat}{kvs:List (K×ņ)}{Q:VP}(C:A.handled=none)(G:s.heap.get? l=some o)(z:o.cls=.type "list")(L:o.dict=none)(d:o.data=.seq its c)(q:its.size=kvs.length)(N:its.size<=sizeLine)
  (hP: ∀(i:Nat) v,its[i]? =some v-> ∃H,kvs[i]? =some H/\UC knd s.heap H v)
  (h: ∀h' tk,(∀b o,s.heap.get? b=some o->h'.get? b=some o)->h'.DictOf knd s.heap.objs.size (merged [] kvs)->Q (.ref s.heap.objs.size) {s with heap:=h',toks:=tk}):
  wpAny (model prog w) A (call (.type "dict") [.ref l]) Q E s:=by
 refine callType_codes (Q₁:=λu j=>u=.ref s.heap.objs.size/\j={s with heap:=s.heap.push {cls:=.type "dict",data:=.dict #[]}}) F.kt_called_dict (F.kt_typeCall_dict_1 _) F.entry_dict_init (kt_code_dict_new _ ⟨rfl,rfl⟩) ?_;rintro u j ⟨rfl,rfl⟩;have a:(s.heap.push {cls:=.type "dict",data:=.dict #[]}).DictOf knd s.heap.objs.size []:=Heap.DictOf.new s.heap;have m:(s.heap.push {cls:=.type "dict",data:=.dict #[]}).get? l=some o:=hP0 _ G;have B:=â G;refine⟨a.typeIs,F.args_dict_init_2 _ _,?_⟩;unfold Builtin.«dict.__init__»;refine wB ?_;unfold Builtin.Dict.selfAndRest;refine wB (wpAny_notOrdered_dict a.typeIs ?_);show wpAny _ _ _ _ _ _;refine wP ?_;show wpAny _ _ (Builtin.Dict.updateFrom "dict.__init__" s.heap.objs.size (.ref l) [] .none) _ _ _;unfold Builtin.Dict.updateFrom;refine wB (į ⟨o,m,z⟩ ?_);rw[iP (by decide)];refine wB (getAttr?_miss_list m z d L LV (by decide+kernel) C (λh1 I y=>?_) (by decide+kernel));rw[iP (show(none:Option ņ).isNone=true from rfl)];refine wB (Ĭ ?_);have n:=y l o m;refine wB (wpAny_pyIter_list ⟨o,n,z,c,d⟩ ?_);have M:l≠h1.objs.size:=ã (â n);have r:s.heap.objs.size<h1.objs.size:=by obtain⟨p,_,_,k,_⟩:=a;exact â (y _ _ k)
 refine wP ⟨plainId_quiet F.plain_dict_update_loop _,vV (Walks.list (by first |exact C|exact C) h1.objs.size l M its) ?_ kvs q.symm N hP ?_ ?_ _ 0 0 _ rfl (zero_le _) ⟨⟨_,ä _ rfl,rfl,rfl⟩,⟨o,hP0 _ n,z,c,d⟩⟩ ?_ ?_ λh' tk J D=>?_⟩
 .rw[mC,mS];rintro(e|e)
  .exact ã r e
  .exact ã B e.symm
 .cases k:s.heap.get? h1.objs.size with
  |none=>rfl
  |some p=>exact absurd (â k) (Nat.lt_asymm r)
 .cases k:s.heap.get? s.heap.objs.size with
  |none=>rfl
  |some p=>exact absurd (â k) (Ě _)
 .obtain⟨p,es,ep,k,rest⟩:=a;exact⟨p,es,ep,hP0 _ (y _ _ k),rest⟩
 .intro b p e;exact hP0 _ (y _ _ (hP0 _ e))
 .exact⟨rfl,h h' tk J D⟩
end
end PySem
namespace L2
namespace M
open PySem PySem.Spec PyProof.Rows
variable{ep:Nat}{tg:Expr}
section
variable{X:Cx}{W:XW}{α:K0}{H:Hp}{pins:N0}{σ:St}{s:Ņ}
def QD(ps:List (Key×V)):List (Key×V):=ps.foldl (λa p=>DM a p.1 p.2) []
inductive PairsV(K:U0)(H:Hp):List V->List (Key×V)->Prop
 |nil:PairsV K H [] []
 |cons {a:Addr} {k:Key} {v:V} {vs ps}:SqT K H a [kV k,v]->PairsV K H vs ps->PairsV K H (.ref a::vs) ((k,v)::ps)
def Pu{ps:List (Key×V)}{b:List (Key×ņ)}(r:KV ps b): ∀{as:List (Key×V)}{bs:List (Key×ņ)},KV as bs->KV (ps.foldl (λa p=>DM a p.1 p.2) as) (merged bs b):=by
 induction r with
 |nil=>intro as bs h;exact h
 |@cons p q ps b h t ih=>
  intro as bs c;rw[ę];show KV _ _;rw[h.1];exact ih (Hf c _ h.2)
def pairs_of(I:Inv X pins σ H s){vs:List V}{ps:List (Key×V)}(r:PairsV X.K H vs ps): ∀{us:B0},Vals vs us-> ∃b:List (Key×ņ),KV ps b/\b.length=us.length/\ ∀(i:Nat) v,us[i]? =some v-> ∃c,b[i]? =some c/\UC (jO X.prog X.w) s.heap c v:=by
 induction r with
 |nil=>intro us h;cases h;exact⟨[],.nil,rfl,λi v h=>by simp at h⟩
 |@cons a k v vs ps hq t ih=>
  intro us h
  cases h with
  |@cons _ u _ us ru rt=>
   cases ru;obtain⟨b,h1,q,j⟩:=ih rt;obtain⟨its,m,p,y⟩:=I.tuple hq;obtain⟨n,o,rfl,d,e⟩:=vals2 m;refine⟨(k,o)::b,.cons ⟨rfl,e⟩ h1,by rw[lC,lC,q],λi w hw=>?_⟩
   cases i with
   |zero=>
    cases hw;exact⟨_,rfl,a,n,rfl,p,JR d⟩
   |succ i=>exact j i w hw
theorem Bz(ps:List (Key×V)):(QD ps).length<=ps.length:=by
 have: ∀(ps as:List (Key×V)),(ps.foldl (λa p=>DM a p.1 p.2) as).length<=as.length+ps.length:=by
  intro ps
  induction ps with
  |nil=>intro as;exact à _
  |cons p ps ih=>
   intro as;rw[ę,lC];have:=ih (DM as p.1 p.2);have:=PN as p.1 p.2
   lia
 have:=this ps [];rw[Ĉ,Ħ]at this;exact this
def UD{K:U0}{vs:List V}{ps:List (Key×V)}(r:PairsV K H vs ps):ps.length=vs.length:=by
 induction r with
 |nil=>rfl
 |cons _ _ ih=>rw[lC,lC,ih]
theorem Ca:CallR X (.type "dict") (λxs H Q=> ∃l vs ps,xs=[.ref l]/\SqL X.K H l vs/\PairsV X.K H vs ps/\X.calm=true/\ ∀d,H d=none->Q (.ref d) (xG H d (.dK (QD ps)))):=by intro pins s σ H xs us Q I r h;obtain⟨l,vs,ps,rfl,D,k,A,q⟩:=h;obtain⟨u,rfl,B⟩:=vals1 r;cases B;obtain⟨its,j,⟨o,n,m,c,y,a⟩,G⟩:=I.list D;obtain⟨F,h1,C,E⟩:=pairs_of I k j;have J:=j.length;refine DO (I.ok.hd A) m c y a (by rw[sA,C]) (by rw[sA];lia) (λi v e=>E i v (by simpa using e)) λh' tk z b=>?_;have p:=UD k;have L:=Bz ps;refine⟨.ref s.heap.objs.size,_,I.laid z (à _) (show ObjOk X.prog X.w _ h' _ (.dK (QD ps))from⟨by lia,Ģ.mpr (Ne.symm (ã (Gu I))),_,Pu h1 .nil,b⟩),rfl,q _ (I.hok.fresh (à _))⟩
def oM:List MV->Option (List (MV×MV))
 |[]=>some []
 |.tup [k,v]::r=>if tI k=true then(oM r).map ((k,v)::·)else none
 |_::_=>none
def Sz(ps:X5):List (MV×MV):=ps.foldl (λa p=>putK a p.1 p.2) []
theorem FV{K:U0}: ∀{ds:X1}{kvs:X5}{vs:List V},oM ds=some kvs->DenL X.K α H ds vs-> ∃ps,PairsV X.K H vs ps/\DenK X.K α H kvs ps
 |[],kvs,vs,e,l=>by cases e;rw[l.isnil];exact⟨[],.nil,.nil⟩
 |d::ds,kvs,vs,e,l=>by
  obtain⟨v,r,rfl,n,m⟩:=l.uncons;unfold oM at e;split at e
  .cases (by assumption:d::ds=[])
  .rename_i k y B i;obtain⟨rfl,rfl⟩:=List.cons.inj i;split at e
   .rename_i h
    cases z:oM ds with
    |none=>rw[z]at e;cases e
    |some ms=>
     rw[z]at e;cases e;obtain⟨ps,p1,p2⟩:=FV (K:=K) z m;obtain⟨a,us,rfl,hs,o⟩:=yW n;obtain⟨w,s,rfl,p,c⟩:=o.uncons;obtain⟨C,u,rfl,q,j⟩:=c.uncons;have e2:=j.isnil;subst e2;obtain⟨A,b⟩:=ü.mp h;have e1:=Br b p;subst e1;exact⟨_,.cons hs p1,.cons (Bq b) q p2⟩
   .cases e
  .cases e
theorem JX: ∀{kvs:X5}{ps:List (Key×V)},DenK X.K α H kvs ps-> ∀{as:X5}{bs:List (Key×V)},DenK X.K α H as bs->DenK X.K α H (kvs.foldl (λb p=>putK b p.1 p.2) as) (ps.foldl (λb p=>DM b p.1 p.2) bs)
 |_,_,.nil,as,bs,h=>h
 |_,_,.cons hk a l,as,bs,h=>by exact JX l (PQ h hk a)
def XH:List Er->Sto->R Er
 |[r],S=>match (kI S r).bind oM with |some kvs=>.ok (.val (.loc S.length)) (S++[.dic (Sz kvs)])|none=>.no
 |_,_=>.no
def Pw:bootBuiltins "dict"=some (.type "dict"):=by decide+kernel
def Px(n:X.calm=true):eY X W (λxs H Q=> ∃l vs ps,xs=[.ref l]/\SqL X.K H l vs/\PairsV X.K H vs ps/\X.calm=true/\ ∀d,H d=none->Q (.ref d) (xG H d (.dK (QD ps)))) XH:=by
 intro rs vs α S H Q b d a;unfold XH at a;split at a
 .split at a
  .rename_i kvs e;obtain⟨v,rfl,k⟩:=fA d
   cases z:kI S _ with
   |none=>rw[z]at e;cases e
   |some ds=>
    rw[z]at e;obtain⟨q,us,rfl,j,l⟩:=pU rfl b z k;obtain⟨ps,p1,p2⟩:=FV (K:=X.K) e l;refine⟨q,us,ps,rfl,j,p1,n,λp h=>?_⟩;have c:=b.newx (o:=.dK (QD ps)) h;obtain⟨x,i⟩:=b.put (m:=.dic _) h (.inl ⟨_,zV,(JX p2 .nil).ex0 ⟨⟨[p],rfl⟩,c.tup,c.frz⟩⟩);exact a _ _ _ x i (DenE.val (vG (by rw[<-b.len,ð (à _),sub_self];rfl)))
  .exact a.elim
 .exact a.elim
end
section
variable{X:Cx}{W:XW}
theorem Cb:CallR X (.builtin "len") (λxs H Q=> ∃d a,xs=[.ref d]/\DK X H d a/\Q (.int a.length) H):=by intro pins s σ H vs us Q I b h;obtain⟨d,a,rfl,k,q⟩:=h;obtain⟨n,rfl,c⟩:=vals1 b;cases c;obtain⟨z,hs,vs,e,i⟩:=aR I k;have j:=Paired.length e;have m:=ď;refine PySem.call_len_dict hs i #[0] ⟨.int a.length,H,(I.tok _).tok _,by rw[j];exact⟨_,rfl⟩,q⟩
def QE:List Er->Sto->R Er
 |[r],S=>match uH S r with
  |some (_,kvs)=>.ok (.val (.int kvs.length)) S
  |none=>.no
 |_,_=>.no
def Py:eY X W (λxs H Q=> ∃d b,xs=[.ref d]/\DK X H d b/\Q (.int b.length) H) QE:=by
 intro rs vs α S H Q i d a;unfold QE at a;split at a
 .split at a
  .rename_i l kvs e;obtain⟨v,rfl,k⟩:=fA d;obtain⟨c,b,rfl,h1,n,h,m,_⟩:=Po i e k;have j:=DenK.length m;refine⟨c,b,rfl,h,?_⟩;rw[j];exact Post.val a i (wQ _)
  .exact a.elim
 .exact a.elim
end
section
variable{X:Cx}
def valZ(ys:A0)(i:Nat):Key:=.inl (ys.getD i 0)
def iR(ys:A0):Nat:=(aS (valZ ys) ys.length).length
def UE(P:ň)(w:World)(l:Addr)(ys:A0):HO:=.ext λh=>KSet P w h l (valZ ys) ys.length
theorem XI: ∀{ys:A0}{us:B0},Vals (ys.map V.int) us->us.length=ys.length/\ ∀(i:Nat)(v:ņ),us[i]? =some v->StrAt (valZ ys) i v
 |[],us,r=>by cases r;exact⟨rfl,λi v h=>by simp at h⟩
 |y::ys,us,r=>by
  cases r with
  |cons r1 r2=>
   obtain⟨t,rfl⟩:=r1;obtain⟨h1,a⟩:=XI r2;refine⟨by rw[lC,lC,h1],λi v h=>?_⟩
   cases i with
   |zero=>
    simp at h;exact .inr ⟨y,t,rfl,h.symm⟩
   |succ i=>exact a i v (by simpa using h)
theorem Cc:CallR X (.builtin "len") (λxs H Q=> ∃l ys,xs=[.ref l]/\ys.length<4000/\H l=some (UE X.prog X.w l ys)/\Q (.int (iR ys:Nat)) H):=by
 intro pins s σ H xs us Q I r h;obtain⟨l,ys,rfl,y,p,q⟩:=h;obtain⟨u,rfl,j⟩:=vals1 r;cases j;obtain⟨hs,_⟩:=(I.hok l _ p)
 obtain⟨o,es,ep,t,d,b,e,k,c,m,v,n⟩:=hs;have a:iR ys=es.size:=n.symm;rw[a]at q;have i:es.size<4096:=m;exact call_len_set d b e v #[0] ⟨.int _,H,I.tok _,⟨_,rfl⟩,q⟩
theorem JY{K:U0}{α:K0}{H:Hp}: ∀{ds:X1}{ys:A0}{vs:List V},intsOf ds=some ys->DenL K α H ds vs->vs=ys.map V.int
 |[],ys,vs,h,d=>by cases h;rw[d.isnil];rfl
 |x::ds,ys,vs,h,d=>by
  obtain⟨v,r,rfl,a,l⟩:=d.uncons
  cases x with
  |int x=>
   unfold intsOf at h
   cases z:intsOf ds with
   |none=>rw[z]at h;cases h
   |some zs=>
    rw[z]at h;cases h;rw[è,yL a,JY z l]
  |_=>cases h
end
def mZ{α:Type}(xs:List α)(k:Nat)(y:α):List α:=xs.take (min k xs.length)++y::xs.drop (min k xs.length)
section
variable{X:Cx}{W:XW}{a e:Expr}{es:R0}{f:AX}{af:Rho->Sto->R (List Er)}{pos apos:Pos}
def Q7:V->List V->Hp->VK->Prop:=λx vs H Q=> ∃l xs i y,x=.ref l/\vs=[.int i,y]/\H l=some (.lst xs)/\0<=i/\i<1000000/\xs.length<sizeLine/\Q .non (xG H l (.lst (mZ xs i.toNat y)))
def Hu: ∀{xs:List V}{us:B0}(k:Nat){y:V}{u:ņ},Vals xs us->RelV y u->Vals (mZ xs k y) (mZ us k u):=by
 intro xs us k y u r a;unfold mZ;rw[r.length]
 have b: ∀(n:Nat){xs:List V}{us:B0},Vals xs us->Vals (xs.take n++y::xs.drop n) (us.take n++u::us.drop n):=by
  intro n
  induction n with
  |zero=>intro xs us r;exact .cons a r
  |succ n ih=>
   intro xs us r
   cases r with
   |nil=>exact .cons a .nil
   |cons r1 r2=>exact .cons r1 (ih r2)
 exact b _ r
def Yo:C1 X "list.insert" Q7:=by
 intro pins s σ H x vs v us Q I k c h;obtain⟨l,xs,i,y,rfl,rfl,b,m,h1,o,q⟩:=h;cases k;obtain⟨u,a,rfl,d,j⟩:=vals2 c;obtain⟨t,rfl⟩:=d;obtain⟨z,its,n,r,p,e⟩:=I.lstM b
 refine call_meets F.slot_list_insert ⟨_,e,rfl⟩ F.entry_list_insert (F.args_list_insert_3 _ _ _)
  (AutoSeq1.list_insert_list_int_val_1 l its.toArray n i t a (by unfold Builtin.List.listFitsIndex;simp;omega) (by rw[sA];omega)) ⟨e,?_⟩
 refine⟨.non,_,I.lset (its':=mZ its i.toNat a) b e ?_ (Hu i.toNat r j) ?_,rfl,q⟩
 .show(its.toArray.extract 0 (if i<0 then(i+(its.toArray.size:Int)).toNat else min i.toNat its.toArray.size)).push a++its.toArray.extract (if i<0 then(i+(its.toArray.size:Int)).toNat else min i.toNat its.toArray.size)=(mZ its i.toNat a).toArray;rw[iN (by omega),sA];unfold mZ;apply Array.ext';simp;exact take_of_length_le (by simp)
 .unfold mZ;rw[lA,lC,lT,ĉ];omega
def Hv:Er->List Er->Sto->R Er
 |p,[.val (.int i),.val d],S=>BM p S λds=>if 0<=i/\i<1000000/\ds.length<sizeLine then some (mZ ds i.toNat d)else none
 |_,_,_=>.no
def Hw{K:U0}{α:K0}{H:Hp}{d:MV}{y:V}(b:Den K α H d y){ds:X1}{vs:List V}(l:DenL K α H ds vs)(k:Nat):DenL K α H (mZ ds k d) (mZ vs k y):=by
 unfold mZ;rw[l.length]
 have e: ∀(n:Nat){ds:X1}{vs:List V},DenL K α H ds vs->DenL K α H (ds.take n++d::ds.drop n) (vs.take n++y::vs.drop n):=by
  intro n
  induction n with
  |zero=>intro ds vs l;exact zW b l
  |succ n ih=>
   intro ds vs l
   cases ds with
   |nil=>
    cases l.isnil;exact zW b yE
   |cons a ds=>
    obtain⟨v,r,rfl,c,h⟩:=l.uncons;exact zW c (ih h)
 exact e _ l
def Yp:An X W Q7 Hv:=by
 intro p rs x vs α S H0 H Q s q n r o b;unfold Hv at b;split at b
 .rename_i i d;obtain⟨u,v,rfl,j,e⟩:=L9 o;obtain⟨a,us,ds,es,rfl,h1,m,c,k⟩:=BN q n r b;split at c
  .rename_i h;cases c;have j:Den X.K α H (.int i) u:=j;have e:Den X.K α H d v:=e;obtain rfl:u=.int i:=yL j;exact⟨a,us,i,v,rfl,rfl,h1,h.1,h.2.1,by rw[m.length];exact h.2.2,k _ (Hw e m i.toNat)⟩
  .cases c
 .exact b.elim
def Yq(c:zM X W a f)(b:HQ X W (e::es) af)
  (hbase:attributeBase a "insert" X.env (eval a X.env)=eval a X.env:=by rfl)
  (hfew:((backTo pos (starEach (e::es) X.env)).all (λx=>!x.1)&&(backToKw pos (keywordEach [] X.env)).all (λx=>x.1.isSome)
   &&decide ((e::es).length+([]:List Keyword).length+(if([]:List Keyword).isEmpty then 0 else 1)<30))=true:=by rfl)
  (hline:(apos.endLine==pos.line)=true:=by rfl) (hs:q9 X e es:=by rfl) (hplain:Q2 X pos es:=by rfl):
  zM X W (.Call (.Attribute a "insert" apos) (e::es) [] pos) (λρ S=>(f ρ S).bind λp S1=>if wF p S1=true then(af ρ S1).bind λrs S2=>Hv p rs S2 else .no):=
 LG PySem.F.plainAttrs_list PySem.F.slot_list_insert PySem.F.type_list_insert Yo Yp TB c b hbase hfew hline hs hplain
end
section
variable{prog:ň}{w:World}{K:Type}[DecidableEq K]{knd:KeyKind prog w K}
def TSet(knd:KeyKind prog w K)(h:Heap)(a:Addr)(S:K->Bool)(n:Nat)(b:Bool):Prop:=
 ∃o es ep t,h.get? a=some o/\o.ExactSet/\o.data=.set es ep t/\ElemsOf knd es.toList/\(∀k,S k=true↔ ∃e∈es.toList,knd.is k e.2=true)
  /\es.size<scanBound/\t.fits es.size=true/\es.size=n/\t.led=b/\(es.size=0\/t.plain=false)/\(es.toList.map (·.2)).Pairwise (λx y=> ∀k,knd.is k x=true-> ¬knd.is k y=true)
end
def StrT(val:Nat->Key)(i:Nat)(v:ņ):Prop:= ∃x t,val i=.inr x/\v=.str x t
def StrT.is{P:ň}{w:World}{val:Nat->Key}{i:Nat}{v:ņ}(h:StrT val i v):(jO P w).is (val i) v=true/\v.scannable=true/\plainKind v=false:=by obtain⟨x,t,e,rfl⟩:=h;rw[e];exact⟨qM P w x t,rfl,rfl⟩
section
variable{α:Type}
theorem FW: ∀(l:List α)(i:Nat)(hi:i<l.length),(l[i]::l.eraseIdx i).Perm l
 |x::l,0,_=>.refl _
 |x::l,i+1,hi=>by
  have a:=by simpa using hi
  have:=FW l i a;exact(List.Perm.swap x l[i] _).trans (this.cons x)
def SetAt(h:Heap)(D:Addr)(es:M0)(ep:Nat)(t:SetTable):Prop:= ∃o,h.get? D=some o/\o.ExactSet/\o.data=.set es ep t/\t.fits es.size=true
end
theorem XJ{α:Type}(next:Nat->Nat): ∀(a k:Nat)(left:List α)(out:Array α),left.length=a->(pickOrder.go next a k left out).toList.Perm (out.toList++left)
 |0,k,left,out,h=>by have e:=List.eq_nil_of_length_eq_zero h;subst e;unfold pickOrder.go;rw[aN]
 |a+1,k,left,out,h=>by
  have hi:next k % left.length<left.length:=Nat.mod_lt _ #[0]
  unfold pickOrder.go;rw[gE hi];refine(XJ next a _ _ _ (by rw[List.length_eraseIdx_of_lt hi,h];rfl)).trans ?_;rw[Array.toList_push,aA];exact(FW left _ hi).append_left out.toList
def Cd{α:Type}(next:Nat->Nat)(xs:Array α):(pickOrder next xs).toList.Perm xs.toList:=by
 have:=XJ next xs.size 0 xs.toList #[] (by simp)
 simpa [pickOrder]using this
def SetAt.keep{h h':Heap}{D:Addr}{es:M0}{t:SetTable}(x:SetAt h D es ep t)(m: ∀o,h.get? D=some o->h'.get? D=some o):SetAt h' D es ep t:=by obtain⟨o,a,r⟩:=x;exact⟨o,m o a,r⟩
section
variable{X:Cx}{W:XW}{o e:Expr}{es:R0}{f:AX}{af:Rho->Sto->R (List Er)}{apos pos:Pos}
def rSX(X:Cx):V->List V->Hp->VK->Prop:=λx vs H Q=> ∃(a:List (Key×V))(d:Addr)(k:Key)(y:V),x=.ref d/\vs=[kV k,y]/\DK X H d a/\a.length<sizeLine/\(∀v,gD a k=some v->Q v H)/\(gD a k=none->Q y (xG H d (.dK (DM a k y))))
theorem Yr:C1 X "dict.setdefault" (rSX X):=by
 intro pins s σ H x vs v us Q I G B h;obtain⟨i,d,k,y,rfl,rfl,p,Y,A,P⟩:=h;obtain⟨u1,S,rfl,C,w⟩:=vals2 B;cases G;have z:s.TypeIs _ "dict":=(LT pins s σ H (.ref d) _ I rfl ⟨d,i,rfl,p⟩).1;obtain⟨_,hs,ws,j,N⟩:=aR I p;have Z:=Paired.length j;obtain⟨r,J⟩:=vU j k;have W:=PN i k y;refine ø PySem.F.slot_dict_setdefault z PySem.F.entry_dict_setdefault ?_ (PySem.F.args_dict_setdefault_3 _ _ _);unfold Builtin.«dict.setdefault»;refine wB ?_;unfold Builtin.Dict.keyAndDefault;refine wB (wpAny_notOrdered_dict z ?_);show wpAny _ _ _ _ _ s;refine wP ?_;show wpAny _ _ (if _=true then _ else _) _ _ s;rw[iN (by rw[hs];exact xF0)];refine wB (kt_dictSetDefault_pairs (JR C) N (λu n=>?_) (λD h' c m=>?_) #[0])
 .cases a:gD i k with
  |some v=>
   obtain⟨K,e,E⟩:=r v a;rw[n]at e;cases e;exact wP ⟨u,rfl,v,H,I.tok _,E,A v a⟩
  |none=>rw[J a]at n;cases n
 .cases a:gD i k with
  |some v=>
   obtain⟨K,e,_⟩:=r v a;rw[D]at e;cases e
  |none=>
   have T: ∃q,h'.get? d=some q:=let ⟨q,_,_,M,_⟩:=c;⟨q,M⟩;exact wP ⟨S,rfl,y,_,I.write (o:=.dK _) (Hr p) (.inl rfl) (λb U L O=>(m.2 b L).trans O) T ⟨by lia,hs,_,Hf j _ w,c⟩,w,P a⟩
def Ce(p:Er)(k y:MV)(S1:Sto):R Er:=match uH S1 p with
 |some (l,kvs)=>if tI k=true/\kvs.length<1000000 then(match look kvs k with
  |some d=>.ok (.val d) S1
  |none=>.ok (.val y) (S1.set l (.dic (putK kvs k y))))else .no
 |none=>.no
def UF(p:Er)(rs:List Er)(S:Sto):R Er:=match rs with
 |[.val k,r]=>(kH r S).bind λy S1=>Ce p k y S1
 |_=>.no
def Ys:An X W (rSX X) UF:=by
 intro p rs x vs α S H0 H Q n F E N q a
 match rs,q,a with
 |[],_,a=>exact a.elim
 |[.val _],_,a=>exact a.elim
 |.new _::_,_,a=>exact a.elim
 |.val _::_::_::_,_,a=>exact a.elim
 |[.val k,r],q,a=>
  cases q with
  |cons dk n1 l1=>
   cases l1 with
   |cons d n2 l2=>
    cases l2;obtain⟨G,S',α',M,A,w,i,D⟩:=eO F E d;have a:Post X.g W n H0 ((kH r S).bind λy S1=>Ce p k y S1) Q:=a;rw[M]at a;have a:Post X.g W n H0 (Ce p k G S') Q:=a;unfold Ce at a;split at a
    .rename_i l kvs C;split at a
     .rename_i z
      have s:DenX X.K α' H p x:=by
       cases p with
       |val m=>exact Den.ex0 w N
       |new ds=>cases C
      obtain⟨c,I,rfl,o,P,b,u,_⟩:=Po i C s;obtain⟨J,h⟩:=ü.mp z.1;obtain⟨B,g2⟩:=mY u (Bq h);have L:=Br h (Den.ex0 w dk.1);subst L;refine⟨I,c,J,_,rfl,rfl,b,?_,λv e=>?_,λe=>?_⟩
      .rw[u.length];exact é z.2 (fits (à _))
      .cases j:look kvs k with
       |some d2=>
        obtain⟨O,e1,e2⟩:=B d2 j;rw[e1]at e;cases e;rw[j]at a;exact(Post.shift A a).val i e2
       |none=>rw[g2 j]at e;cases e
      .cases j:look kvs k with
       |some d2=>obtain⟨O,e1,e2⟩:=B d2 j;rw[e1]at e;cases e
       |none=>
        rw[j]at a;exact(Post.shift (A.trans (i.writex o b.nf)) a).val (i.write o b.nf (.inl ⟨_,zV,(PQ u (Bq h) D).ex0 (i.writex o b.nf).toEx0⟩)) (D.ext (i.writex o b.nf))
     .exact a.elim
    .exact a.elim
def Yt(d:zM X W o f)(h:HQ X W (e::es) af)
  (hbase:attributeBase o "setdefault" X.env (eval o X.env)=eval o X.env:=by rfl)
  (hfew:((backTo pos (starEach (e::es) X.env)).all (λx=>!x.1)&&(backToKw pos (keywordEach [] X.env)).all (λx=>x.1.isSome)
   &&decide ((e::es).length+([]:List Keyword).length+(if([]:List Keyword).isEmpty then 0 else 1)<30))=true:=by rfl)
  (hline:(apos.endLine==pos.line)=true:=by rfl) (hs:q9 X e es:=by rfl) (hplain:Q2 X pos es:=by rfl):
  zM X W (.Call (.Attribute o "setdefault" apos) (e::es) [] pos) (λρ S=>(f ρ S).bind λp S1=>if FT p S1=true then(af ρ S1).bind λrs S2=>UF p rs S2 else .no):=by
 obtain⟨to,d,y⟩:=d;obtain⟨t,h,k⟩:=h;refine⟨_,Hi LT PySem.F.plainAttrs_dict PySem.F.slot_dict_setdefault PySem.F.type_dict_setdefault Yr d h hbase hfew hline hs hplain,λα ρ S σ H Q v sl q=>y α ρ S σ H _ v sl (q.bind λu p S1 a H1 e1 r n s b=>?_)⟩;split at b
 .rename_i i;obtain⟨⟨l,kvs⟩,i⟩:=ü.mp i;obtain⟨c,xs,rfl,_,_,B,_⟩:=Po n i s.1;exact⟨⟨c,xs,rfl,B⟩,k a ρ S1 σ H1 _ n (sl.ext r) ((b.shift r).bind λvs rs S2 j z e2 m A C w=>Ys p rs _ vs j S2 H1 z Q a A m (s.1.ext m) C w)⟩
 .exact b.elim
end
theorem DenF.len{K:U0}{α:K0}{H:Hp}: ∀{fs gs},DenF K α H fs gs->gs.length=fs.length
 |_,_,.nil=>rfl
 |_,_,.cons b l=>by rw[lC,lC,DenF.len l]
section
variable{X:Cx}{W:XW}{a b:Expr}{f g:AX}{pos:Pos}
def Q8(X:Cx):R2:=λx y H Q=> ∃(a:List (Key×V))(d:Addr)(k:Key)(v:V),x=.ref d/\y=kV k/\DK X H d a/\gD a k=some v/\Q v H
def Hx:IxR X (Q8 X):=by intro value b pins s σ H x y u v Q I o n h a;obtain⟨r,d,k,e,rfl,rfl,p,m,q⟩:=h;cases o;obtain⟨_,hs,ws,j,c⟩:=aR I p;obtain⟨w,e1,i⟩:=(vU j k).1 e m;exact subscriptTail_builtinR c.typeIs slot_dict_getitem.lookup (wpAny_getItem_of (JR n) c.mapOf e1 ⟨rfl,e,H,I.tok _,i,q⟩) a
def LW(p q:Er)(S:Sto):R Er:=match uH S p,q with
 |some (_,kvs),.val k=>if tI k=true then(match look kvs k with |some d=>.ok (.val d) S|none=>.no)else .no
 |_,_=>.no
def Pz:OS X W (Q8 X) LW:=by
 intro p q x y α S H Q i r v a;unfold LW at a;split at a
 .rename_i l kvs k n;obtain⟨c,j,rfl,A,z,h,w,_⟩:=Po i n r;split at a
  .rename_i e;obtain⟨m,b⟩:=ü.mp e;have o:=Br b v;subst o;split at a
   .rename_i d s;obtain⟨u,e1,e2⟩:=(mY w (Bq b)).1 d s;exact⟨j,c,m,u,rfl,rfl,h,e1,Post.val a i e2⟩
   .exact a.elim
  .exact a.elim
 .exact a.elim
def Yu(c:zM X W a f)(d:zM X W b g)(hs:DX b:=by exact λ_ _=>rfl):zM X W (.Subscript a b pos) (λρ S=>(f ρ S).bind λp S1=>(g ρ S1).bind λq S2=>LW p q S2):=Sn Hx Pz c d hs
end
section
variable{X:Cx}{pins:N0}{σ:St}{H:Hp}{s:Ņ}{α:K0}{o:Expr}
def _root_.L2.Inv.freezeD{d:Addr}{ob:Obj}{kvs:X5}{xs:List (NK×Addr×ņ)}(I:Inv X pins σ H s)(j:DD X H d xs)(N:DenN X.K α H kvs xs)(C:s.heap.get? d=some ob):Inv X pins σ (xG H d (.frz ob (DN X.prog X.w d xs))) s:=by
 obtain⟨⟨o',es,ep,m,F,D,P,S,E⟩,O,hs⟩:=EB I j N;have a: ∀i,H d≠some (.tup i):=λi e=>by rcases j with h|⟨_,h⟩<;>(rw[h]at e;cases e)
 have q: ∀b,H d≠some (.own b):=λb e=>by rcases j with h|⟨_,h⟩<;>(rw[h]at e;cases e)
 have k: ∀b,H d≠some (.tbl b):=λb e=>by rcases j with h|⟨_,h⟩<;>(rw[h]at e;cases e)
 have p:H d≠none:=λe=>by rcases j with h|⟨_,h⟩<;>(rw[h]at e;cases e)
 have ne: ∀{b:Addr}{v:HO},H b=some v->H d≠some v->b≠d:=λe n z=>n (z▸e);refine I.step (ch:=[]) (λ_ z=>nomatch z) (λb o _ _ _ e _=>e) (λb o _ _ _ e _=>⟨_,e⟩) (λb o _ e n=>?_) (λb o _ e=>⟨o,e⟩) (λb i e=>?_) (λb o u e=>?_) (λb ps e=>?_) (λ_ z=>z) (λb u e=>?_) I.bare
 .rw[zF (λz=>p (by rw[<-z];exact n))];exact n
 .rw[zF (ne e (a i))];exact e
 .rw[zF (ne e (j.nf o u))];exact e
 .exact⟨#[],by rw[zF (ne e (k ps)),e];simp⟩
 .by_cases B:b=d
  .subst B;rw[zV]at e;cases e;refine⟨C,⟨O,hs,o',es,ep,m,F,D,P,E⟩,⟨_,m⟩,?_⟩;rintro h1 T ⟨Q,M,L,y,A,G,r⟩ J;exact⟨Q,M,L,y,A,J _ G,r⟩
  .rw[zF B]at e;exact(I.hok b u e).stay (λ_ _ _ r=>r) (λc r=>by rw[zF (ne r (q b))];exact r) λc i r=>by rw[zF (ne r (a i))];exact r
theorem DenN.at'{α:K0}{H:Hp}{K:U0}: ∀{kvs:X5}{xs:List (NK×Addr×ņ)}{i:Nat}{b:MV×MV},DenN K α H kvs xs->kvs[i]? =some b-> ∃x,xs[i]? =some x/\Den K α H b.1 (.ref x.2.1)
 |_,_,0,_,.cons hk e a d r l,h=>by cases h;exact⟨_,rfl,a⟩
 |_,_,i+1,_,.cons hk e a d r l,h=>DenN.at' (i:=i) l h
end
def KX(l:Bool)(K:U0)(α:K0)(H:Hp)(d:MV)(v:V):Prop:=if l=true then∃es a vs,d=.tup es/\v=.ref a/\H a=some (.lst vs)/\a∉α/\DenL K α H es vs else Den K α H d v
inductive KXL(l:Bool)(K:U0)(α:K0)(H:Hp):List MV->List V->Prop
 |nil:KXL l K α H [] []
 |cons {d v ds vs}:KX l K α H d v->KXL l K α H ds vs->KXL l K α H (d::ds) (v::vs)
section
variable{l:Bool}{K:U0}{α:K0}{H:Hp}
theorem KXL.length: ∀{ds:X1}{vs:List V},KXL l K α H ds vs->vs.length=ds.length
 |_,_,.nil=>rfl
 |_,_,.cons h t=>by rw[lC,lC,KXL.length t]
theorem KXL.append: ∀{ds es:X1}{vs us:List V},KXL l K α H ds vs->KXL l K α H es us->KXL l K α H (ds++es) (vs++us)
 |_,_,_,_,.nil,h=>h
 |_,_,_,_,.cons a t,h=>.cons a (KXL.append t h)
theorem KXL.at: ∀{ds:X1}{vs:List V}{i:Nat}{d:MV},KXL l K α H ds vs->ds[i]? =some d-> ∃v,vs[i]? =some v/\KX l K α H d v
 |_,_,0,_,.cons h t,e=>by cases e;exact⟨_,rfl,h⟩
 |_,_,i+1,_,.cons h t,e=>KXL.at (i:=i) t e
end
open Classical in
def KAt(d:Addr)(us:B0)(ep:Nat)(h:Heap):Prop:= ∃o es,h.get? d=some o/\o.ExactDict/\o.data=.dict es ep/\es.toList.map (·.key)=us
def KAt.at{d:Addr}{us:B0}{h h':Heap}(x:KAt d us ep h)(m: ∀o,h.get? d=some o->h'.get? d=some o):KAt d us ep h':=let ⟨o,es,a,r⟩:=x;⟨o,es,m o a,r⟩
theorem KAt.size{d:Addr}{us:B0}{h:Heap}(x:KAt d us ep h): ∃o es,h.get? d=some o/\o.ExactDict/\o.data=.dict es ep/\es.size=us.length/\ ∀i (hi:i<es.size),us[i]? =some es[i].key:=by obtain⟨o,es,b,a,c,e⟩:=x;refine⟨o,es,b,a,c,by rw[<-e,lM,ú],λi hi=>?_⟩;rw[<-e,ò,û,ĭ hi];rfl
section
variable{P:ň}{w:World}{A:Ň}{E:VP}{s:Ņ}{d it:Addr}{us:B0}{ep i:Nat}
def JZ{Q:VP}(hs:(d==sysModules)=false)(i:KAt d us ep s.heap)
  (hQ:Q (.ref s.heap.objs.size) {s with heap:=s.heap.push {cls:=.type "dict_keyiterator",data:=.fields #[.ref d,.int 0 0,.int us.length 0,.int ep 0]}}):wpAny (model P w) A (pyIter (.ref d)) Q E s:=by
 obtain⟨o,es,b,h,a,e,_⟩:=i.size;have c:s.TypeIs (.ref d) "dict":=⟨o,b,h.1⟩
 refine wpAny_pyIter_slot c PySem.F.slot_dict_iter (ø PySem.F.slot_dict_iter c PySem.F.entry_dict_iter ?_ (PySem.F.args_dict_iter_1 _));refine wB ?_;refine wB (wpAny_notOrdered_dict c ?_);show wpAny _ _ _ _ _ s;refine wP ?_;show wpAny _ _ (Builtin.Dict.showsAll d >>= _) _ _ s;unfold Builtin.Dict.showsAll;rw[iN (by rw[hs];exact xF0)];refine wB (wP ?_);refine wB (wpAny_dictEntries b a ?_);refine wB (wpAny_dictEpoch b a ?_);refine wB (Ċ (wP ⟨_,rfl,_,_,⟨_,ä _ rfl,rfl⟩,PySem.F.slot_dict_keyiterator_next.lookup,?_⟩));simpa [rawInt,e]using hQ
theorem QF{x:ņ}{Q:Option ņ->Ņ->Prop}(a:s.heap.IsKeyIter it d i us.length ep)(u:KAt d us ep s.heap)(r:us[i]? =some x)
  (hQ: ∀h',h'.IsKeyIter it d (i+1) us.length ep->Heap.SameBut it s.heap h'->Q (some x) {s with heap:=h'}):wpAny (model P w) A (pyNext (.ref it)) Q E s:=by
 obtain⟨o,p,y,n⟩:=id a;obtain⟨B,es,j,z,m,h,k⟩:=u.size;have q:i<us.length:=(gS.mp r).1;have c:i<es.size:=by rw[h];exact q
 have v:es[i].key=x:=by have:=k i c;rw[r]at this;exact(å this).symm
 unfold pyNext;refine wB (wpAny_attempt (ć a.typeIs PySem.F.slot_dict_keyiterator_next (ø PySem.F.slot_dict_keyiterator_next a.typeIs PySem.F.entry_dict_keyiterator_next ?_ (PySem.F.args_dict_keyiterator_next_1 _))));refine wB (wP (wB (wB ?_)))
 first |refine wB (ġ a.typeIs (wP ?_))|refine wB _
 refine wB (wpAny_fieldsOf p n ?_);have e:Builtin.Dict_items.ownsTuple "dict_keyiterator"=false:=by decide
 simp only[e,fT0,iF];show wpAny _ _ (if _=true then _ else _) _ _ s;rw[iN (show¬((Value.ref d==Value.none)=true)from xF0)];refine wB (wP (wB (wpAny_dictEntries j m ?_)));rw[iN (by rw[h];simp)];refine wB (wP (wB (wpAny_dictEpoch j m ?_)));rw[iN (by simp)];refine wP ?_;simp only[show¬((i:Int)<0)from by lia,iF,Ġ,ĭ c];refine wB ?_
 first |refine wB (ġ a.typeIs (wP ?_))|refine wB _
 refine wB (wpAny_isOneOf_keyiter a.typeIs ?_);show wpAny _ _ (setField (.ref it) 1 (rawInt ((i:Int)+1)) >>= _) _ _ s;refine wB (wpAny_setField p n (by simp) ?_)
 have b:(s.heap.update it (Obj.mapFields (·.setIfInBounds 1 (rawInt ((i:Int)+1))))).IsKeyIter it d (i+1) us.length ep:=
  ⟨_,Heap.get?_update_self _ p (Obj.isFreed_of_fields (Obj.data_mapFields n _)),(Obj.cls_mapFields ..).trans y,by rw[Obj.data_mapFields n];simp[rawInt]⟩
 refine wB (Ă ?_);refine wB (wpAny_isOneOf_keyiter b.typeIs ?_);show wpAny _ _ (pure es[i].key) _ _ _;exact wP (wP ⟨_,rfl,wP (v▸hQ _ b (Ķ ..))⟩)
theorem QG{Q:Option ņ->Ņ->Prop}(u:A.handled=none)(a:s.heap.IsKeyIter it d i us.length ep)(p:KAt d us ep s.heap)(q:us.length<=i)
  (hQ: ∀h',Heap.ExtBut it s.heap h'->Q none {s with heap:=h'}):wpAny (model P w) A (pyNext (.ref it)) Q E s:=by
 obtain⟨o,k,y,m⟩:=id a;obtain⟨v,es,e,r,h,c,n⟩:=p.size;have j:es.size<=i:=by rw[c];exact q
 unfold pyNext;refine wB (wpAny_attempt (ć a.typeIs PySem.F.slot_dict_keyiterator_next (ø PySem.F.slot_dict_keyiterator_next a.typeIs PySem.F.entry_dict_keyiterator_next ?_ (PySem.F.args_dict_keyiterator_next_1 _))));refine wB (wP (wB (wB ?_)))
 first |refine wB (ġ a.typeIs (wP ?_))|refine wB _
 refine wB (wpAny_fieldsOf k m ?_);have b:Builtin.Dict_items.ownsTuple "dict_keyiterator"=false:=by decide
 simp only[b,fT0,iF];show wpAny _ _ (if _=true then _ else _) _ _ s;rw[iN (show¬((Value.ref d==Value.none)=true)from xF0)];refine wB (wP (wB (wpAny_dictEntries e h ?_)));rw[iN (by rw[c];simp)];refine wB (wP (wB (wpAny_dictEpoch e h ?_)));rw[iN (by simp)];refine wP ?_;simp only[show¬((i:Int)<0)from by lia,iF,Ġ,Array.getElem?_eq_none j];refine wB ?_
 first |refine wB (ġ a.typeIs (wP ?_))|refine wB _
 show wpAny _ _ (setField (.ref it) 0 .none >>= _) _ _ s;refine wB (wpAny_setField k m (by simp) ?_);show wpAny _ _ _ _ _ _;refine wB ?_;simp only[newExc,newTuple];refine wB (Ċ ?_ (by size_fits));refine wB (wpAny_of_eq (by first |rfl|(simp only[firstArgMember];rfl)) ?_);refine Ċ ?_ (by size_fits);simp only[raiseNew];refine wB (wpAny_handled ?_);rw[show A.in1.handled=none from u];refine wB (wP (wpAny_throw ?_));refine wB (İ ⟨_,ä _ rfl,rfl⟩ isSubtype_stop ?_);exact wP (hQ _ (((Ķ ..).extBut.push _).push _))
def Cf(hh:A.handled=none)(I:Addr)(hne:d≠I)(us:B0)(ep:Nat):Walks P w A I [I,d] [I] us.length (λi x=>us[i]? =some x) (λi h=>h.IsKeyIter I d i us.length ep/\KAt d us ep h) where
 sub:=λb hb=>by simp at hb;simp[hb]
 frame:=λ_ _ _ st hk=>⟨st.1.at λo e=>hk I (by simp) o e,st.2.at λo e=>hk d (by simp) o e⟩
 item:=λi s Q E hi st hQ=>by have hx:=gE hi;refine QF st.1 st.2 hx λh' hit' hs'=>?_;exact hQ _ h' s.toks hx ⟨hit',st.2.at λo e=>hs'.extBut d o hne e⟩ λb o hb e=>hs'.extBut b o (λh=>hb (by simp[h])) e
 done:=λs Q E st hQ=>QG hh st.1 st.2 (à _) λh' he'=>hQ h' s.toks λb o hb e=>he' b o (λh=>hb (by simp[h])) e
 self:=λ_ _ _ _ st hQ=>wpAny_pyIter_keyiter st.1 hQ
def Hy(us:B0)(ep:Nat):PySem.W.KdlSrc P w "dict" d d us.length (λi x=>us[i]? =some x) (λh=>(d==sysModules)=false/\KAt d us ep h) where
 type:=λ_ hm=>let ⟨o,_,ho,hc,_⟩:=hm.2;⟨o,ho,hc.1⟩
 there:=λ_ hm=>⟨let ⟨_,_,ho,_⟩:=hm.2;â ho,let ⟨_,_,ho,_⟩:=hm.2;â ho⟩
 keep:=λ_ _ hm hk=>⟨hm.1,hm.2.at λo e=>hk d (.inl rfl) o e⟩
 notList:=by decide
 notTuple:=by decide
 hint:=λ_ _ _ _ hm hq=>PySem.W.kdl_hint_dict (let ⟨o,_,ho,hc,_⟩:=hm.2;⟨o,ho,hc.1⟩) hq
 iter:=λ_ _ hh hm=>⟨_,_,(λ_ _ hq=>JZ hm.1 hm.2 hq),Cf hh _ (ã (let ⟨_,_,ho,_⟩:=hm.2;â ho)) us ep,⟨⟨_,ä _ rfl,rfl,rfl⟩,hm.2.at λo e=>hP0 _ e⟩⟩
end
section
variable{X:Cx}{W:XW}
theorem QH{K:U0}{α:K0}{H:Hp}: ∀{kvs:X5}{xs:List (NK×Addr×ņ)},DenN K α H kvs xs->DenL K α H (kvs.map (·.1)) (xs.map λx=>V.ref x.2.1)
 |_,_,.nil=>yE
 |_,_,.cons hk e a d r l=>zW a (QH l)
theorem QI: ∀(xs:List (NK×Addr×ņ)),Vals (xs.map λx=>V.ref x.2.1) (xs.map λx=>Value.ref x.2.1)
 |[]=>.nil
 |x::xs=>.cons rfl (QI xs)
theorem UG:CallR X (.type "list") (λxs H Q=> ∃d b α kvs,xs=[.ref d]/\DD X H d b/\DenN X.K α H kvs b/\X.calm=true/\ ∀p,H p=none->Q (.ref p) (xG H p (.lst (b.map λx=>V.ref x.2.1)))):=by
 intro pins s σ H xs us Q I r h;obtain⟨d,b,α,kvs,rfl,G,F,A,q⟩:=h;obtain⟨u,rfl,B⟩:=vals1 r;cases B;obtain⟨⟨o,es,ep,n,i,y,J,_,_⟩,k,hs⟩:=EB I G F;have E:KAt d (b.map λx=>Value.ref x.2.1) ep s.heap:=⟨o,es,n,i,y,by rw[J,ï];rfl⟩
 refine PySem.W.kdl_call (Hy _ ep) (I.ok.hd A) ⟨hs,E⟩ (by rw[lM];exact k) λh' tk c D z v a=>?_
 have C:c.toList=b.map λx=>Value.ref x.2.1:=by
  refine Ł λj=>?_;by_cases m:j<c.size
  .have e:=ĭ m;rw[û,e];exact(a.2 j _ e).symm
  .have e:(b.map λx=>Value.ref x.2.1).length<=j:=by have:=a.1;lia
   rw[û,Array.getElem?_eq_none #[0],ą e]
 refine⟨.ref s.heap.objs.size,_,I.laid z (à _) (show ObjOk X.prog X.w _ h' _ (.lst _)from⟨by rw[lM];exact k,c.toList,D,by rw[C];exact QI b,?_⟩),rfl,q _ (I.hok.fresh (à _))⟩;exact v
def BR:List Er->Sto->R Er
 |[r],S=>match vP S r with |some (_,kvs)=>.ok (.new (kvs.map (·.1))) S|none=>.no
 |_,_=>.no
def Hz(k:X.calm=true):eY X W (λxs H Q=> ∃d b α kvs,xs=[.ref d]/\DD X H d b/\DenN X.K α H kvs b/\X.calm=true/\ ∀p,H p=none->Q (.ref p) (xG H p (.lst (b.map λx=>V.ref x.2.1)))) BR:=by
 intro rs vs α S H Q h d a;unfold BR at a;split at a
 .split at a
  .rename_i n kvs e;obtain⟨v,rfl,j⟩:=fA d;obtain⟨c,xs,rfl,o,r,m,i⟩:=TN h e j;exact⟨c,xs,α,kvs,rfl,m,i,k,λp q=>a.newl h q (QH i)⟩
  .exact a.elim
 .exact a.elim
end
mutual
def HR:Expr->List Str
 |.Name x _=>[x]
 |.Tuple es _ _=>Q9 es
 |_=>[]
def Q9:List Expr->List Str
 |[]=>[]
 |e::es=>HR e++Q9 es
end
section
variable{X:Cx}{W:XW}{iter:Expr}{pos:Pos}
abbrev gnN(T:L0)(N:L0)(idx:Tk):List Str:=[]++T++idx.map λi=>(N[i]?).getD Str.empty
def Ia{elt:Expr}{ifs:R0}{sc a:Scope}{N ps:L0}{idx:Tk}{b:Rho->Sto->R Wk}{cf:AZ}{ef:AX}{gf:MV->Rho->Sto->R Rho}(S0:FnScope N ps a)
  (hi:OU X W tg iter b) (hg: ∀C s₂ H1 fp,(gnN (HR tg) N idx).Nodup->Fj (HR tg).length (zH X sc (HR tg) idx C s₂ H1 fp) W0 tg gf)
  (hc: ∀C s₂ H1 fp,LH (zH X sc (HR tg) idx C s₂ H1 fp) W0 ifs cf) (he: ∀C s₂ H1 fp,zM (zH X sc (HR tg) idx C s₂ H1 fp) W0 elt ef)
  (hcalm:X.calm=true:=by rfl) (e1:X.env.scope=a:=by rfl) (e2:X.N=N:=by rfl) (hB:qP a N sc idx=true:=by decide+kernel) (hN:(gnN (HR tg) N idx).Nodup:=by decide+kernel)
  (hs: ∀y,foldedSetIterable iter X.env y=pure y:=by intro _;rfl):
  zM X W (.ListComp elt [⟨tg,iter,ifs,0⟩] sc pos) (λρ S=>(b ρ S).bind λk S1=>if k.ds.length<1000000 then(zT gf cf ef (qG (HR tg).length idx ρ) k.gs k.ds S1).bind λout S2=>.ok (.new out) S2 else .no):=WI a N _ idx hi hcalm hg hc he e1 e2 hB hN hs
def Ib{x:Str}{pos' b:Pos}{i:Nat}{elt:Expr}{ifs:R0}{sc a:Scope}{N ps:L0}{idx:Tk}{c:Rho->Sto->R Wk}{cf:AZ}{ef:AX}{gf:MV->Rho->Sto->R Rho}(S0:FnScope N ps a)
  (hi:OU X W tg iter c) (hg: ∀C s₂ H1 fp,(gnN (HR tg) N idx).Nodup->Fj (HR tg).length (zH X sc (HR tg) idx C s₂ H1 fp) W0 tg gf)
  (hc: ∀C s₂ H1 fp,LH (zH X sc (HR tg) idx C s₂ H1 fp) W0 ifs cf) (he: ∀C s₂ H1 fp,zM (zH X sc (HR tg) idx C s₂ H1 fp) W0 elt ef)
  (hcalm:X.calm=true:=by rfl) (e1:X.env.scope=a:=by rfl) (e2:X.N=N:=by rfl) (hB:qP a N sc idx=true:=by decide+kernel) (hN:(gnN (HR tg) N idx).Nodup:=by decide+kernel)
  (hs: ∀y,foldedSetIterable iter X.env y=pure y:=by intro _;rfl)
  (hi2:X.N[i]? =some x:=by rfl) (hx:Loc X.env.scope x:=by first |exact Or.inl rfl|exact Or.inr rfl)
  (hsw:swapsWith (.ListComp elt [⟨tg,iter,ifs,0⟩] sc pos) (some (.Name x pos')) b.line X.env=pure true:=by with_unfolding_all rfl) (hf:z0 X x:=by first |exact .inl rfl|exact .inr rfl|assumption):
  IA X W (.Assign [.Name x pos'] (.ListComp elt [⟨tg,iter,ifs,0⟩] sc pos) b) (λρ S=>((c ρ S).bind λk S1=>if k.ds.length<1000000 then(zT gf cf ef (qG (HR tg).length idx ρ) k.gs k.ds S1).bind λout S2=>.ok (.new out) S2 else .no).bind (EW ρ i)):=Nb i (by rw[e2];exact S0.nd) a N _ idx hi hcalm hg hc he e1 e2 hB hN hs hi2 hx hsw hf
end
section
variable{P:ň}{w:World}{K:U0}{mg:L1}{base:Heap}{x qual:Str}{st:Stmt}{ps N:L0}{k:Nat}
abbrev ScK(N ps:L0)(sc:Scope):Prop:=N.Nodup/\N.take ps.length=ps/\(∀x∈ps,sc.names.lookup x=some .local\/sc.names.lookup x=some .cell)/\ ∀y∈sc.names,y.2≠.free
def R1{f:Addr}{fd:FuncData}(i:AY)(F:Fun K x qual st f fd)
  (h: ∀(e:ņ)(A:Ň)(d:List Env)(s:Ņ)(H:Hp)(E:XK),N.Nodup->FnScope N ps (zE st)->Room k (A.deeper (envOfC qual (zE st) s.heap.objs.size f e))->vH (HU rY P w K mg base N qual (zE st) f e A d s H E).nox W0 (yT st) i)
  (h4:ScK N ps (zE st):=by decide+kernel) (a:(zE st).kind=.function:=by rfl) (b:(zE st).isCoroutine=false:=by rfl) (c:(zE st).isGenerator=false:=by rfl):
  FnOk P w K mg base rY (k+1) f fd ps (IB ⟨K,mg,P,w⟩ ps.length λds S=>zS (i (zN N ds) S)):=
 have j:FnScope N ps _:=⟨a,b,c,h4.1,h4.2.1,h4.2.2.1,h4.2.2.2⟩
 okM i F j λe A d s H E m=>h e A d s H E j.nd j m
def Yv:Nat->(List ņ->Prop)->Prop
 |0,p=>p []
 |n+1,p=> ∀a,Yv n λl=>p (a::l)
theorem R3: ∀(us:B0){p:List ņ->Prop},Yv us.length p->p us
 |[],_,h=>h
 |a::l,_,h=>R3 l (h a)
def forN{n:Nat}{p:List ņ->Prop}(h:Yv n p)(us:B0)(e:us.length=n):p us:=R3 us (e▸h)
def R4(i:AY)(D:DefM K mg x st)
  (h: ∀(f:Addr)(e:ņ)(A:Ň)(d:List Env)(s:Ņ)(H:Hp)(E:XK),N.Nodup->FnScope N ps (zE st)->Room k (A.deeper (envOfC x (zE st) s.heap.objs.size f e))->vH (HU rY P w K mg base N x (zE st) f e A d s H E).nox W0 (yT st) i)
  (hb:Hm x st ps:=by exact λ_ _ _ _ _ _=>forN (by(repeat intro _);rfl))
  (h4:ScK N ps (zE st):=by decide+kernel) (a:(zE st).kind=.function:=by rfl) (b:(zE st).isCoroutine=false:=by rfl) (c:(zE st).isGenerator=false:=by rfl):
  Hl P w K mg base x (k+1) ps.length ps λds S=>zS (i (zN N ds) S):=
 okC D hb λf _ F=>R1 i F (h f) h4 a b c
end
section
variable{prog:ň}{w:World}{K:Type}[DecidableEq K]{knd:KeyKind prog w K}{A:Ň}{E:VP}{s:Ņ}
def LX{h:Heap}{a:Addr}{S S':K->Bool}{n b:Nat}(d:h.SetOf knd a S n)(e: ∀k,S k=S' k)(c:n=b):h.SetOf knd a S' b:=by rw[<-funext e, <-c];exact d
def Qa{k:K}{l:List K}{b:Bool}(h:k∈l↔b=true):decide (k∈l)=b:=by rw[Ą,î];exact h
theorem FX{β γ:Type}{f:β->γ->Sem (ForInStep γ)}{b:γ}: ∀(l:List β),(∀x∈l, ∀Q:ForInStep γ->Ņ->Prop,Q (.yield b) s->wpAny (model prog w) A (f x b) Q E s)->
  ∀Q:γ->Ņ->Prop,Q b s->wpAny (model prog w) A (forIn l b f) Q E s
 |[],_,Q,q=>by rw[forIn_nil];exact wP q
 |x::l,h,Q,q=>by rw[forIn_cons];exact wB (h x (.head _) _ (FX l (λy a=>h y (.tail _ a)) Q q))
def UH{Q:Bool->Ņ->Prop}(l:K0)(h: ∀a∈l, ∃S n,s.heap.SetOf knd a S n)(q:Q true s):wpAny (model prog w) A (setsQuiet l) Q E s:=by
 refine wB (FX l (λa c v k=>?_) _ (wP q));obtain⟨S,n,o,es,ep,t,d,_,j,b,_,r,p,_⟩:=h a c;refine wB (wpAny_setEntries_of d j p ?_);rw[<-Array.forIn_toList];refine wB (FX es.toList (λe m u i=>?_) _ ?_)
 .obtain⟨y,x⟩:=e;have hs:=(b _ m).2;cases x<;>first |(exact wP i)|(cases hs)
 .exact wP k
theorem QJ{a o r:Addr}{C:Obj}{es:M0}{t:SetTable}{T R:K->Bool}{n m:Nat}{Q:Array (Int×ņ)->Ņ->Prop}
  (ha:s.heap.get? a=some C) (hex:C.ExactSet) (hd:C.data=.set es ep t) (hel:ElemsOf knd es.toList) (i:es.size<scanBound) (hf:t.fits es.size=true) (ho:s.heap.SetOf knd o T n) (hr:s.heap.SetOf knd r R m)
  (q: ∀h' d,d.toList.Perm es.toList->Heap.SameBut r s.heap h'->h'.SetOf knd r R m->Q d {s with heap:=h'}):
  wpAny (model prog w) A (setWalkUnseen a [o,r] (some r)) Q E s:=by
 have G: ∀d,d.toList.Perm es.toList->Q d s:=λd p=>q s.heap d p (Heap.SameBut.refl r s.heap) hr;have L:s.heap.SetOf knd a (λk=>es.toList.any λe=>knd.is k e.2) es.size:=⟨C,es,ep,t,ha,hex,hd,hel,λk=>by rw[ù],i,hf,rfl⟩
 unfold setWalkUnseen;refine wB (wpAny_setState_of ha hd hf ?_);unfold setsByText;refine wB (wB (wpAny_askSetting (wP ?_)));dsimp only;by_cases c:((model prog w).w.params.followText "set-order" || (t.led&&t.plain) || decide (es.size<=1))=true
 .rw[iP c];unfold setWalk setsByText;refine wB (wpAny_setState_of ha hd hf ?_);refine wB (wB (wpAny_askSetting (wP ?_)));dsimp only;by_cases b:(model prog w).w.params.followText "set-order"=true
  .rw[iP b];exact wB (wpAny_askSetting (wP (G _ (Cd _ _))))
  .rw[iN b];have h:(t.led&&t.plain)=true\/es.size<=1:=by rw[Bool.or_assoc,ĝ,ĝ,î]at c;exact c.resolve_left b
   show wpAny _ _ (if(!t.plain&&decide (es.size>1))=true then _ else _) _ _ _
   rw[iN (by
    rcases h with h|h
    .rw[(aE _ _▸h:t.led=true/\t.plain=true).2];exact xF0
    .rw[dF0 #[0],Bool.and_false];exact xF0)]
   refine wB ?_;show wpAny _ _ (if _=true then _ else _) _ _ _
   rw[iN (by
    rcases h with h|h
    .rw[(aE _ _▸h:t.led=true/\t.plain=true).1];exact xF0
    .rw[dF0 #[0],Bool.and_false];exact xF0)]
   exact wP (wP (G _ (.refl _)))
 .rw[iN c];refine wB (UH (knd:=knd) [a,o,r] (λb i=>?_) ?_)
  .rcases mC.mp i with rfl|i
   .exact⟨_,_,L⟩
   .rcases mC.mp i with rfl|i
    .exact⟨_,_,ho⟩
    .rw[mS.mp i];exact⟨_,_,hr⟩
  .show wpAny _ _ (rule _ >>= _) _ _ _;refine wB (Ĭ ?_);obtain⟨or,M,J,F,u,z,j,v,D,y,B,H⟩:=hr;refine wB (wpAny_setState_of u j B ?_);dsimp only;split
   .refine wB (wpAny_storeSet_of u j ?_ (fits_of_scanBound y));obtain⟨_,I⟩:=SetOf_store (t':={F with led:=F.led&&t.led,plain:=F.plain&&t.plain}) u z j v D y B;rw[H]at I;exact wP (q _ _ (.refl _) (Ķ _ r _) I)
   .exact wP (G _ (.refl _))
abbrev Ic(knd:KeyKind prog w K)(h:Heap)(a:Addr)(l:List K):Prop:=h.SetOf knd a (λk=>decide (k∈l)) l.length
theorem FY{id:String}{a o r:Addr}{T:K->Bool}{n ep:Nat}{f:(Int×ņ)->PUnit->Sem (ForInStep PUnit)}(G:r≠o)(B:r≠a)
  (hf: ∀(e:Int×ņ)(s:Ņ)(Q:ForInStep PUnit->Ņ->Prop),wpAny (model prog w) A (setFind o e.2 e.1) (λx M=>
    if x.isSome=true then wpAny (model prog w) A (Builtin.Frozenset.unchanged id a ep) (λ_ I=>Q (.yield PUnit.unit) I) E M
    else wpAny (model prog w) A (setAddHashed r e.2 e.1) (λ_ M=>wpAny (model prog w) A (Builtin.Frozenset.unchanged id a ep) (λ_ I=>Q (.yield PUnit.unit) I) E M) E M) E s->wpAny (model prog w) A (f e PUnit.unit) Q E s):
  ∀(l:List (Int×ņ))(c:List K)(s:Ņ)(Q:PUnit->Ņ->Prop),ElemsOf knd l->c.length+l.length<scanBound->c.Nodup->Ic knd s.heap r c->s.heap.SetOf knd o T n->
   (∃H es t,s.heap.get? a=some H/\H.data=.set es ep t/\t.fits es.size=true)->
   (∀h' b,b.Nodup->(∀k,k∈b↔k∈c\/(T k=false/\ ∃e∈l,knd.is k e.2=true))->Heap.SameBut r s.heap h'->Ic knd h' r b->Q PUnit.unit {s with heap:=h'})->
   wpAny (model prog w) A (forIn l PUnit.unit f) Q E s
 |[],c,s,Q,_,_,nd,hr,ho,ha,q=>by rw[forIn_nil];refine wP (q s.heap c nd (λk=>⟨.inl,λz=>z.elim _root_.id λz=>?_⟩) (Heap.SameBut.refl _ _) hr);obtain⟨_,e,he,_⟩:=z;cases he
 |e::l,c,s,Q,hel,hb,nd,hr,ho,ha,q=>by
  rw[forIn_cons];obtain⟨⟨k,J,hh⟩,C⟩:=hel.head;have S:c.length+1<scanBound:=by rw[lC]at hb;lia
  refine wB (hf e s _ ?_);rw[hh];refine wpAny_setFind_of J C ho λx N=>?_;rw[N];have i: ∀d,knd.is d e.2=true↔d=k:=λd=>⟨λz=>knd.inj _ _ _ z J,λz=>z▸J⟩
  have P: ∀(h':Heap)(b:List K),b.Nodup->b.length<=c.length+1->(∀d,d∈b↔d∈c\/(T d=false/\d=k))->Heap.SameBut r s.heap h'->Ic knd h' r b->
    wpAny (model prog w) A (Builtin.Frozenset.unchanged id a ep) (λ_ s'=>wpAny (model prog w) A (forIn l PUnit.unit f) Q E s') E {s with heap:=h'}:=by
   intro h' b Z aa Y p h;obtain⟨H,es,t,h1,L,h3⟩:=ha;have F:h'.get? a=some H:=by rw[p.2 a λz=>B z.symm];exact h1
   unfold Builtin.Frozenset.unchanged;refine wB (wpAny_setEpoch_of F L h3 ?_);rw[iN (by simp)];refine wP ?_;obtain⟨oo,U,W,to,X,O⟩:=ho;refine FY G B hf l b _ Q hel.tail (by rw[lC]at hb;lia) Z h ⟨oo,U,W,to,by rw[p.2 o λz=>G z.symm];exact X,O⟩ ⟨H,es,t,F,L,h3⟩ λL D n2 m2 I r2=>q L D n2 (λd=>?_) (p.trans I) r2;rw[m2,Y];constructor
   .rintro((z|⟨u,m⟩)|⟨u,y,j,m⟩)
    .exact .inl z
    .exact .inr ⟨u,e,.head _,(i d).mpr m⟩
    .exact .inr ⟨u,y,.tail _ j,m⟩
   .rintro(z|⟨u,y,j,m⟩)
    .exact .inl (.inl z)
    .rcases mC.mp j with rfl|j
     .exact .inl (.inr ⟨u,(i d).mp m⟩)
     .exact .inr ⟨u,y,j,m⟩
  cases hT:T k with
  |true=>
   rw[iP rfl];refine P s.heap c nd #[0] (λd=>⟨.inl,λz=>z.elim _root_.id λz=>?_⟩) (Heap.SameBut.refl _ _) hr;rw[z.2,hT]at z;cases z.1
  |false=>
   rw[iN xF0];refine wpAny_setAddHashed_of J C hr S λh' p h=>?_;by_cases v:k∈c
   .refine P h' c nd #[0] (λd=>⟨.inl,λz=>z.elim _root_.id λz=>z.2▸v⟩) p (LX h (λd=>?_) (iP (dT0 v)));by_cases z:d∈c
    .rw[dT0 z];rfl
    .rw[dF0 z,dF0 λ(y:d=k)=>z (y▸v)];rfl
   .refine P h' (c++[k]) (ħ.mpr ⟨nd,by simp,λx N y j z=>v (by rw[mS.mp j]at z;exact z▸N)⟩) (by simp) (λd=>?_) p (LX h (λd=>?_) ?_)
    .rw[ê,mS];exact⟨λz=>z.elim .inl λz=>.inr ⟨z▸hT,z⟩,λz=>z.elim .inl λz=>.inr z.2⟩
    .rw[<-Bool.decide_or];exact ĳ.mpr (by rw[ê,mS])
    .rw[iN (by rw[î];exact v),lA];rfl
def LY{a:Addr}{S:K->Bool}{n:Nat}{Q:Bool->Ņ->Prop}(h:s.heap.SetOf knd a S n)(q:Q true s):wpAny (model prog w) A (Builtin.Frozenset.isAnySet (.ref a)) Q E s:=by refine wB (İ h.typeIs (b:=true) (by rw[isSubtype_type];kernel_rfl) ?_);exact wP q
def size_of{a:Addr}{S:K->Bool}{n:Nat}{Q:Nat->Ņ->Prop}(h:s.heap.SetOf knd a S n)(q:Q n s):wpAny (model prog w) A (Builtin.Frozenset.sizeOf a) Q E s:=by obtain⟨o,es,ep,t,b,_,d,_,_,_,c,e⟩:=h;exact wB (wpAny_setEntries_of b d c (wP (e▸q)))
def Qb{id:String}{a o:Addr}{S T:K->Bool}{n m:Nat}{Q:VP}(O:s.heap.SetOf knd a S n)(F:s.heap.SetOf knd o T m)(N: ¬n / 4>m)
  (q: ∀h' l,l.Nodup->(∀k,k∈l↔S k=true/\T k=false)->(∀b u,s.heap.get? b=some u->h'.get? b=some u)->Ic knd h' s.heap.objs.size l->Q (.ref s.heap.objs.size) {s with heap:=h'}):
  wpAny (model prog w) A (Builtin.Frozenset.difference id a (.ref o)) Q E s:=by
 unfold Builtin.Frozenset.difference;refine wB (LY F ?_);refine wB (wP ?_);refine wB (size_of F ?_);refine wB (size_of O ?_);rw[iN N];refine wB ?_;refine wB (İ O.typeIs (b:=true) (by rw[isSubtype_type];kernel_rfl) ?_);refine wP ?_;refine wB (wpAny_newSet_of (knd:=knd) λaa hr=>?_);refine wB (wP ?_);obtain⟨oa,es,ep,t,B,P,H,j,y,hb,hf,hn⟩:=O;obtain⟨oo,v,r,to,L,i⟩:=F;have c: ∀(x:Obj) b u,s.heap.get? b=some u->(s.heap.push x).get? b=some u:=λx b u e=>hP0 _ e;have X:=â B;have M:=â L;refine wB (wpAny_setEpoch_of (c _ _ _ B) H hf ?_);refine wB (Ă ?_);refine wB ?_;rw[iP rfl];refine QJ (c _ _ _ B) P H j hb hf ⟨oo,v,r,to,c _ _ _ L,i⟩ hr λh' G C Y J=>?_;rw[<-Array.forIn_toList];have p:s.heap.objs.size≠o:=λz=>Ě _ (z▸M);have h:s.heap.objs.size≠a:=λz=>Ě _ (z▸X)
 refine wB (FY (id:=id) p h ?_ G.toList [] _ _ (j.perm C) (by rw[C.length_eq,ú];simpa using hb) nodup_nil (LX J (λk=>by simp) rfl)
  ⟨oo,v,r,to,by rw[Y.2 o λz=>p z.symm];exact c _ _ _ L,i⟩ ⟨oa,es,t,by rw[Y.2 a λz=>h z.symm];exact c _ _ _ B,H,hf⟩ λD U nd mem I hl=>?_)
 .intro e s1 Q1 h1;refine wB (Ă ?_);rw[iP rfl];refine wB (ā h1 (λx s2 D=>?_) λ_ _ z=>z);refine wB (wP ?_)
  cases x with
  |some _=>exact wP (wB (ā D (λ_ _ z=>wP z) λ_ _ z=>z))
  |none=>exact wB (ā D (λ_ s3 h3=>wP (wB (ā h3 (λ_ _ z=>wP z) λ_ _ z=>z))) λ_ _ z=>z)
 .refine wP (wP (q D U nd (λk=>?_) (λb u e=>?_) hl))
  .rw[mem,y];constructor
   .rintro(z|⟨z1,e,Z,W⟩)
    .cases z
    .exact⟨⟨e,C.mem_iff.mp Z,W⟩,z1⟩
   .rintro⟨⟨e,Z,W⟩,z1⟩;exact .inr ⟨z1,e,C.mem_iff.mpr Z,W⟩
  .have d:=â e;rw[I.2 b (ã d),Y.2 b (ã d)];exact c _ _ _ e
def IM:entryFor table "set.__sub__"=some Builtin.«frozenset.__sub__»:=entryFor_alias (id':="frozenset.__sub__") (by kernel_rfl) rfl (by decide+kernel) (by kernel_rfl)
def Id{a o:Addr}{S T:K->Bool}{n m:Nat}{Q:VP}(c:s.heap.SetOf knd a S n)(d:s.heap.SetOf knd o T m)(e: ¬n / 4>m)
  (q: ∀h' l,l.Nodup->(∀k,k∈l↔S k=true/\T k=false)->(∀b u,s.heap.get? b=some u->h'.get? b=some u)->Ic knd h' s.heap.objs.size l->Q (.ref s.heap.objs.size) {s with heap:=h'}):
  wpAny (model prog w) A (binaryOp .Sub (.ref a) (.ref o)) Q E s:=by
 refine wpAny_binaryOp_same c.typeIs d.typeIs F.fills_set_sub F.slot_set_sub (ø F.slot_set_sub c.typeIs IM ?_ (F.args_set_sub_2 _ _));show wpAny _ _ (Builtin.Frozenset.slot1 "__sub__" _ >>= _) _ _ _;rw[show Builtin.Frozenset.slot1 "__sub__" ⟨_,[]⟩=pure _ from rfl];refine wB (wP ?_);refine wB (wB (LY c (LY d ?_)));refine wB (wP ?_);exact wB (Qb c d e λh' l i mem h j=>wP ⟨_,rfl,nofun,q h' l i mem h j⟩)
end
section
variable{X:Cx}{W:XW}{e1 e2:Expr}{f1 f2:Rho->Sto->R (List Er)}{p1 p2 p3 pos pos1 pos2 pos3:Pos}
theorem XM{val:Nat->Key}{k:Key}: ∀{n:Nat},Bg k (aS val n)=true↔ ∃i,i<n/\val i=k
 |0=>⟨λz=>absurd z xF0,λ⟨i,h,_⟩=>absurd h (Nat.not_lt_zero _)⟩
 |n+1=>by rw[PR,ĝ,î,XM];exact⟨λz=>z.elim (λ⟨i,h,e⟩=>⟨i,by lia,e⟩) λz=>⟨n,by lia,z.symm⟩,λ⟨i,h,e⟩=>if y:i=n then .inr (y▸e.symm)else .inl ⟨i,by lia,e⟩⟩
def FZ{k:Key}{l:List Key}:Bg k l=true↔k∈l:=by unfold Bg;rw[ù];exact⟨λ⟨x,a,e⟩=>ì e▸a,λh=>⟨k,h,dT0 rfl⟩⟩
theorem UI(val:Nat->Key): ∀n,(aS val n).Nodup
 |0=>nodup_nil
 |n+1=>by
  rw[sH];split
  .exact UI val n
  .rename_i h;exact ħ.mpr ⟨UI val n,by simp,λx a y b z=>h (FZ.mpr (by rw[mS.mp b]at z;exact z▸a))⟩
def QK{ys:A0}{k:Key}:k∈aS (valZ ys) ys.length↔ ∃y∈ys,k=.inl y:=by
 rw[<-FZ,XM];unfold valZ;constructor
 .rintro⟨i,h,e⟩;exact⟨_,ŀ h,by rw[<-e,ÿ,gE h];rfl⟩
 .rintro⟨y,a,rfl⟩;obtain⟨i,h,e⟩:=List.mem_iff_getElem.mp a;exact⟨i,h,by rw[ÿ,gE h,e];rfl⟩
theorem KA:CallR X (.type "set") (λxs H Q=> ∃a ys,xs=[.ref a]/\SqT X.K H a (ys.map V.int)/\ys.length<4000/\X.calm=true/\ ∀l,H l=none->Q (.ref l) (xG H l (UE X.prog X.w l ys))):=by
 intro pins s σ H xs us Q I r h;obtain⟨a,ys,rfl,m,n,e,q⟩:=h;obtain⟨u,rfl,j⟩:=vals1 r;cases j;obtain⟨its,d,p,A⟩:=I.tuple m;obtain⟨e1,e2⟩:=XI d;have sz:its.toArray.size=ys.length:=by rw[sA];exact e1
 refine FM (I.ok.hd e) p (λi v h=>e2 i v (by simpa using h)) (by rw[sz];unfold scanBound;lia) λh' tk hs b=>?_;rw[sz]at hs;refine⟨.ref s.heap.objs.size,_,I.laid (o:=UE X.prog X.w s.heap.objs.size ys) b (à _) ⟨hs,?_,λh1 y z k=>z.move k⟩,rfl,q _ (I.hok.fresh (à _))⟩;obtain⟨o,_,_,_,c,_⟩:=hs;exact⟨o,c⟩
def tQ(ys zs:A0):List Int:=ys.filter λy=>!zs.contains y
def vW{ys zs:A0}{y:Int}:y∈tQ ys zs↔y∈ys/\y∉zs:=by unfold tQ;rw[á,ċ, <-ē,List.contains_iff_mem]
def R5(X:Cx):R2:=λx y H Q=> ∃b c ys a,x=.ref b/\y=.ref c/\H b=some (UE X.prog X.w b ys)/\H c=some (UE X.prog X.w c a)/\ ¬iR ys / 4>iR a/\
 ∀l,H l=none->Q (.ref l) (xG H l (UE X.prog X.w l (tQ ys a)))
def Qc:OpR X (binaryOp .Sub) (R5 X):=by
 intro pins s σ H x y v u Q I D B h;obtain⟨r,F,ys,c,rfl,rfl,h1,i,C,q⟩:=h;cases D;cases B;obtain⟨A,_⟩:=(I.hok r _ h1)
 obtain⟨K,_⟩:=(I.hok F _ i)
 refine Id A K C λh' l p mem j J=>?_
 have d: ∀k,k∈l↔k∈aS _ (tQ ys c).length:=λk=>by
  rw[mem k,FZ, <-ē,FZ,QK,QK,QK];constructor
  .rintro⟨⟨y,a,rfl⟩,n⟩;exact⟨y,vW.mpr ⟨a,λz=>n ⟨y,z,rfl⟩⟩,rfl⟩
  .rintro⟨y,a,rfl⟩;have a:=vW.mp a;exact⟨⟨y,a.1,rfl⟩,λ⟨z,G,e⟩=>a.2 (by cases e;exact G)⟩
 have hs:KSet X.prog X.w h' s.heap.objs.size (valZ (tQ ys c)) (tQ ys c).length:=by refine LX J (λk=>?_) (Nat.le_antisymm (p.length_le_of_subset λk b=>(d k).mp b) ((UI _ _).length_le_of_subset λk b=>(d k).mpr b));exact Qa (by rw[FZ];exact d k)
 refine⟨.ref s.heap.objs.size,_,I.laid (o:=UE X.prog X.w s.heap.objs.size _) j (à _) ⟨hs,?_,λh1 i z E=>z.move E⟩,rfl,q _ (I.hok.fresh (à _))⟩;obtain⟨o,_,_,_,m,_⟩:=hs;exact⟨o,m⟩
def UJ:List Er->Option (List Int)
 |[.val (.tup x)]=>(intsOf x).bind λys=>if ys.length<4000 then some ys else none
 |_=>none
def QL(ys zs:A0)(S:Sto):R Er:=if¬iR ys / 4>iR zs then .ok (.val (.int (iR (tQ ys zs):Nat))) S else .no
def R7(f1 f2:Rho->Sto->R (List Er)):AX:=λρ S=>(f1 ρ S).bind λa S1=>(UJ a).elim .no λys=>(f2 ρ S1).bind λc S2=>(UJ c).elim .no λb=>QL ys b S2
def Qd(M:X.calm=true)(hg:Gl X "len")(T:X.mg "len"=none)(p:Gl X "set")(n:X.mg "set"=none)(i:HQ X W [e1] f1)(e:HQ X W [e2] f2)
  (he1:starEach [e1] X.env=(false,eval e1 X.env)::starEach [] X.env:=by rfl) (hp1:(backTo pos1 (starEach [] X.env)).any (·.1)=false:=by rfl)
  (he2:starEach [e2] X.env=(false,eval e2 X.env)::starEach [] X.env:=by rfl) (hp2:(backTo pos2 (starEach [] X.env)).any (·.1)=false:=by rfl)
  (he:starEach [.BinOp (.Call (.Name "set" p1) [e1] [] pos1) .Sub (.Call (.Name "set" p2) [e2] [] pos2) pos3] X.env=(false,eval (.BinOp (.Call (.Name "set" p1) [e1] [] pos1) .Sub (.Call (.Name "set" p2) [e2] [] pos2) pos3) X.env)::starEach [] X.env:=by rfl)
  (hp:(backTo pos (starEach [] X.env)).any (·.1)=false:=by rfl):
  zM X W (.Call (.Name "len" p3) [.BinOp (.Call (.Name "set" p1) [e1] [] pos1) .Sub (.Call (.Name "set" p2) [e2] [] pos2) pos3] [] pos) (R7 f1 f2):=by
 obtain⟨t1,i,U⟩:=i;obtain⟨t2,e,k2⟩:=e
 refine⟨_,OJ Cc hg T SZ (DW (Sf Qc (rX KA p n Hh i (by decide) (by decide) he1 hp1) (rX KA p n Hh e (by decide) (by decide) he2 hp2)) KU he) (by decide) (by decide) he hp,
  λα ρ S σ H Q Y sl q=>U α ρ S σ H _ Y sl (q.bind λvs P S1 D H1 e1 J o d1 j=>?_)⟩
 replace j:=j.shift J
 have I: ∀{r:List Er}{vs:List V}{α:K0}{H0 H:Hp}{S:Sto}{ys:A0},UJ r=some ys->Wd X.g α S H->Dn.d X.g H0 α S H r vs-> ∃a,vs=[.ref a]/\SqT X.K H a (ys.map V.int)/\ys.length<4000:=by
  intro r vs α H0 H S ys h w d;unfold UJ at h;split at h
  .rename_i x;obtain⟨y,e1,e2⟩:=Option.bind_eq_some_iff.mp h;split at e2
   .rename_i B;cases e2;obtain⟨u,rfl,du⟩:=JH d;obtain⟨E,us,rfl,s,Z⟩:=cR du;rw[JY e1 Z]at s;exact⟨E,rfl,s,B⟩
   .cases e2
  .cases h
 cases h1:UJ P with
 |none=>rw[h1]at j;exact j.elim
 |some ys=>
  rw[h1]at j;obtain⟨E,rfl,s,L⟩:=I h1 o d1;refine⟨E,ys,rfl,s,L,M,λl v=>k2 D ρ S1 σ _ _ (o.new v) (sl.ext (J.trans (o.newx v))) ((j.shift (o.newx v)).bind λaa r2 S2 F N e2 G A d2 b=>?_)⟩
  replace b:=b.shift G
  cases C:UJ r2 with
  |none=>rw[C]at b;exact b.elim
  |some y=>
   rw[C]at b;obtain⟨a2,rfl,s2,n2⟩:=I C A d2;change Post X.g W F N (QL ys y S2) Q at b;unfold QL at b;split at b
   .rename_i B;have m:N l=some _:=G.keep _ _ zV λz=>o.fresh v z;refine⟨a2,y,rfl,s2,n2,M,λl2 c=>⟨l,l2,ys,y,rfl,rfl,?_,zV,B,λO k=>⟨O,_,rfl,?_,zV,?_⟩⟩⟩
    .rw[zF (zU m c)];exact m
    .exact lt_of_le_of_lt (ñ _ _) L
    .exact(b.shift ((A.newx c).trans ((A.new c).newx k))).val ((A.new c).new k) (wQ _)
   .exact b.elim
end
def R8(P:ň)(w:World)(d:Addr)(o:Obj)(xs:List (NK×Addr×ņ)):It:=
 ⟨λi H=>H d=some (.frz o (DN P w d xs))/\i<xs.length,
   λi H v H'=>H'=H/\ ∃x,xs[i]? =some x/\v=.ref x.2.1,
   λi H=>H d=some (.frz o (DN P w d xs))/\xs.length<=i⟩
def Cg{P:ň}{w:World}{K:U0}{d it:Addr}{o:Obj}{es:Array DictEntry}{xs:List (NK×Addr×ņ)}(hc0:o.ExactDict)(hdat:o.data=.dict es ep)(hes:es.toList=xs.map (entryOfKey (mT P w))):
  Turn P w K tg (R8 P w d o xs) [it] it (λi h=>h.IsKeyIter it d i xs.length ep) where
 mem:=by simp
 obj:=λi h st b hb=>by cases mS.mp hb;obtain⟨o,e,c,d⟩:=st;exact⟨o,e,λv z=>by rw[d]at z;cases z⟩
 keep:=λi h h' st k=>st.at λo e=>k it (by simp) o e
 item:=by
  intro X hP hw hK hc i pins s σ H E I hf st hg;subst hP hw hK;obtain⟨hd,hi⟩:=hg;obtain⟨hod,_⟩:=(I.hok d _ hd)
  have va:KAt d (xs.map λx=>Value.ref x.2.1) ep s.heap:=⟨o,es,hod,hc0,hdat,by rw[hes,ï];rfl⟩
  obtain⟨f0,f1,f2,f3,f4,f5⟩:=hf it (by simp);rw[<-lM]at st ⊢;refine QF st va (by rw[ò,gE hi];rfl) λh' st' sb=>?_;have I1:Inv X pins σ H {s with heap:=h'}:=I.turned (λb o hb e=>(sb.2 b hb).trans e) f0 f1 f3 f4 f5;obtain⟨o',e,c,dd⟩:=id st';exact⟨_,rfl,VW e c dd (by decide) ⟨.ref xs[i].2.1,H,I1,rfl,⟨rfl,_,gE hi,rfl⟩,st',λb hb=>(hf b hb).1⟩⟩
 done:=by
  intro X hP hw hK hc i pins s σ H E I hf st hg;subst hP hw hK;obtain⟨hd,hi⟩:=hg;obtain⟨hod,_⟩:=(I.hok d _ hd)
  have va:KAt d (xs.map λx=>Value.ref x.2.1) ep s.heap:=⟨o,es,hod,hc0,hdat,by rw[hes,ï];rfl⟩
  obtain⟨f0,f1,f2,f3,f4,f5⟩:=hf it (by simp);rw[<-lM]at st;exact QG (I.ok.hd hc) st va (by rw[lM];exact hi) λh' eb=>⟨rfl,I.turned (λb o hb e=>eb b o hb e) f0 f1 f3 f4 f5⟩
 self:=λ_ _ _ _ _ st h=>wpAny_pyIter_keyiter st h
section
variable{X:Cx}{W:XW}{tg e:Expr}{te:TE}{f:AX}
def R9(X:Cx)(R:It->Hp->Prop)(x:V)(H:Hp):Prop:= ∃d xs α kvs,x=.ref d/\DenN X.K α H kvs xs/\
 ((DD X H d xs/\ ∀o,R (R8 X.prog X.w d o xs) (xG H d (.frz o (DN X.prog X.w d xs))))\/ ∃o,H d=some (.frz o (DN X.prog X.w d xs))/\R (R8 X.prog X.w d o xs) H)
def Qe(i:PE X e te):PI X tg e (λσ H R=>te σ H λx H1=>R9 X R x H1):=by
 intro pins s σ H R I h;refine jD (i pins s σ H _ I h) λv n ⟨x,H1,I1,E,D⟩=>?_;obtain⟨d,xs,α,kvs,rfl,C,q⟩:=D;cases E
 have B: ∀(c:Obj)(es:Array DictEntry)(ep:Nat),n.heap.get? d=some c->c.ExactDict->c.data=.dict es ep->es.toList=xs.map (entryOfKey (mT X.prog X.w))->(d==sysModules)=false->
   (∀h',(∀b o,n.heap.get? b=some o->h'.get? b=some o)-> ∃u,(∀b,b≠d->u b=H1 b)/\Inv X pins σ u {n with heap:=h'}/\R (R8 X.prog X.w d c xs) u)->wpAny (model X.prog X.w) X.A (pyIter (.ref d)) (PIE X pins σ tg R) X.xe n:=by
  intro c es ep a m j i hs k;have L:KAt d (xs.map λx=>Value.ref x.2.1) ep n.heap:=⟨c,es,a,m,j,by rw[i,ï];rfl⟩
  refine JZ hs L ?_;rw[lM];obtain⟨u,z,J,q⟩:=k _ λb o e=>hP0 _ e;refine⟨_,_,_,_,_,rfl,J,Cg m j i,⟨_,ä _ rfl,rfl,rfl⟩,λb y=>?_,q⟩;cases mS.mp y;have G:=Ē (â a);obtain⟨_,O,M,P,F,Q⟩:=I1.fpOk (à _) (I1.hok.fresh (à n.heap.objs.size));exact⟨by rw[z _ G];exact I1.hok.fresh (à _),O,M,P,F,Q⟩
 rcases q with⟨dd,q⟩|⟨o,ho,q⟩
 .obtain⟨⟨c,es,ep,a,m,j,i,S,K⟩,N,hs⟩:=EB I1 dd C;exact B c es ep a m j i hs λh' r=>⟨_,λb y=>zF y,(I1.kept r).freezeD dd C (r d c a),q c⟩
 .obtain⟨a,⟨N,hs,o',es,ep,p,m,j,i,K⟩,_⟩:=(I1.hok d _ ho)
  rw[a]at p;cases p;exact B o es ep a m j i hs λh' r=>⟨H1,λ_ _=>rfl,I1.kept r,q⟩
def XN(S:Sto):Er->Option (List (MV×MV))
 |.val (.loc l)=>match S[l]? with |some (.fdc kvs)=>some kvs|_=>none
 |_=>none
def LZ(p:Er)(S:Sto):R Wk:=match vP S p with
 |some (l,kvs)=>.ok ⟨kvs.map (·.1),[]⟩ (S.set l (.fdc kvs))
 |none=>match XN S p with
  |some kvs=>.ok ⟨kvs.map (·.1),[]⟩ S
  |none=>.no
theorem QM{c:Addr}{ob:Obj}{xs:List (NK×Addr×ņ)}{kvs:X5}:L8 X.g (R8 X.prog X.w c ob xs) (λ(α:K0) (S:Sto) (H:Hp)=>H c=some (.frz ob (DN X.prog X.w c xs))/\DenN X.K α H kvs xs) (kvs.map (·.1)):=by
 intro i o S2 p ⟨h,e⟩ m;have j:=e.length;refine⟨λhi=>?_,λhi=>⟨h,by rw[lM]at hi;lia⟩⟩;rw[lM]at hi;refine⟨⟨h,by lia⟩,?_⟩;rintro _ _ ⟨rfl,x,k,rfl⟩;obtain⟨d,b⟩: ∃d,kvs[i]? =some d:=⟨_,gE hi⟩
 obtain⟨q,a,n⟩:=e.at' b;rw[k]at a;cases a;exact⟨Ext.refl _ _,m,⟨h,e⟩,d.1,by rw[ò,b];rfl,n⟩
def Qf(v:zM X W e f):OU X W tg e (λρ S=>(f ρ S).bind LZ):=by
 obtain⟨t,v,k⟩:=v;refine⟨_,Qe v,λα ρ S σ H M F sl q=>k α ρ S σ H _ F sl (q.bind λu p S1 b H1 e1 K i D h=>?_)⟩
 replace h:=h.shift K
 unfold LZ at h;split at h
 .rename_i l kvs I;obtain⟨c,xs,rfl,d,A,s,j⟩:=TN i I D.1;refine⟨c,xs,b,kvs,rfl,j,.inl ⟨s,λob=>?_⟩⟩;have C:=i.writex d s.nf (o:=.frz ob (DN X.prog X.w c xs));have m:=j.ex0 C.toEx0;have G:=i.write d s.nf (ob:=.fdc kvs) ⟨ob,xs,zV,m⟩;exact(h.shift C).here G ⟨_,QM,⟨zV,m⟩,λb S1 H1 y S2 J ⟨r,n⟩ x w _=>⟨x.frz _ _ _ r,n.ex0 x.toEx0⟩,gA⟩
 .split at h
  .rename_i kvs ef;unfold XN at ef;split at ef
   .rename_i l;split at ef
    .rename_i z A;cases ef;obtain⟨a,rfl,d⟩:=lO D.1;obtain⟨ob,e2,L⟩:=i.of d;rw[A]at e2;cases e2;obtain⟨E,xs,B,j⟩:=L;exact⟨a,xs,b,kvs,rfl,j,.inr ⟨E,B,h.here i ⟨_,QM,⟨B,j⟩,λb S1 H1 y S2 J ⟨r,n⟩ x w _=>⟨x.frz _ _ _ r,n.ex0 x.toEx0⟩,gA⟩⟩⟩
    .cases ef
   .cases ef
  .exact h.elim
end
section
variable{W:XW}{iter:Expr}{pos:Pos}
def Ie{d:Cx}{b:Scope}{e:L0}{a:Tk}{i:Addr}{j:Ņ}{H0:Hp}{c:K0}{elt:Expr}{ifs:R0}{sc h:Scope}{N ps:L0}{idx:Tk}{m:Rho->Sto->R Wk}{cf:AZ}{ef:AX}{gf:MV->Rho->Sto->R Rho}(S0:FnScope N ps h)
  (hi:OU (zH d b e a i j H0 c) W tg iter m) (hg: ∀C s₂ H1 fp,(gnN (HR tg) (gnN e N a) idx).Nodup->Fj (HR tg).length (zH (zH d b e a i j H0 c) sc (HR tg) idx C s₂ H1 fp) W0 tg gf)
  (hc: ∀C s₂ H1 fp,LH (zH (zH d b e a i j H0 c) sc (HR tg) idx C s₂ H1 fp) W0 ifs cf) (he: ∀C s₂ H1 fp,zM (zH (zH d b e a i j H0 c) sc (HR tg) idx C s₂ H1 fp) W0 elt ef)
  (hcalm:d.calm=true:=by rfl) (e1:d.env.scope=h:=by rfl) (e2:d.N=N:=by rfl) (hB:qP (rlS b h) (gnN e N a) sc idx=true:=by decide+kernel) (hN:(gnN (HR tg) (gnN e N a) idx).Nodup:=by decide+kernel)
  (hs: ∀y,foldedSetIterable iter (zH d b e a i j H0 c).env y=pure y:=by intro _;rfl):
  zM (zH d b e a i j H0 c) W (.ListComp elt [⟨tg,iter,ifs,0⟩] sc pos) (λρ S=>(m ρ S).bind λk S1=>if k.ds.length<1000000 then(zT gf cf ef (qG (HR tg).length idx ρ) k.gs k.ds S1).bind λout S2=>.ok (.new out) S2 else .no):=by
 subst e1 e2;exact WI _ _ _ idx hi hcalm hg hc he rfl rfl hB hN hs
end
end M
end L2
namespace L2
namespace M
namespace My
open PySem PySem.Spec PyProof.Rows
variable{S S0 S':Sto}{tk:List (Nat×List Nat)}{α:Type}{ts:Za}{ms:X1}{f:Addr}{fd:FuncData}{ws:A0}{Hd sm C:Tk}{rs:List Er}{m lk lf:Nat}{told:Db}{low:Int}
local macro_rules
 | `(tactic|simp? [$xs,*] $[$l:location]?)=>`(tactic|simp only[List.getElem?_cons_zero,List.getElem?_cons_succ,Ob,gC,as_int,O2,Xm,add_int,sub_int,eq_int,Xn,LO,Xq,Gs,O3,lst6,tup2,tup3,Xr,Xs,Xt,Xu,Xv,Xw,Oi,Oj,List.set_cons_zero,List.set_cons_succ,if_true,Om,Ol,vJ,kJ,bJ,dJ,nJ,aJ,oJ,iJ,mJ,tJ,zJ,fJ,eJ,uJ,pJ,qJ,rJ,sJ,wJ,yJ,AJ,BJ,CJ,DJ,EJ,FJ,JJ,NJ,$xs,*] $[$l:location]?)
local macro_rules
 |`(#[$x])=>`(some (.loc $x))
 |`(#[$x,0])=>`(some (.int $x))
 |`(#[$x,1])=>`(.val (.loc $x))
 |`(#[$x,2])=>`(some (.lst $x))
 |`(#[$x,3])=>`(some (.tup $x))
 |`(#[$x,4])=>`(some (.str $x))
 |`(#[$x,5])=>`(.val (.int $x))
 |`(#[$x,6])=>`(.val (.tup $x))
 |`(#[$x,7])=>`(some (.dic $x))
 |`(#[$x,8])=>`(($x).map MV.str)
 |`(#[])=>`(by lia)
 |`(#[$x,$s,0])=>`(.ok (.next $x) $s)
 |`(#[$x,$s,1])=>`(.ok (.val $x) $s)
 |`(#[$x,$s,2])=>`(.ok (.new $x) $s)
abbrev GA:List Str:=["_law_cell","_law_k","_law_number"]
abbrev Dk:List Str:=["Rule","Never","Apart","Tie"]
abbrev AF:=AY
abbrev AE:=AX
def vX:AF:=(AJ (aJ (bJ (yJ (vJ 0) (yJ (kJ (.typ "int")) wJ)) IF) (nJ (bJ (yJ (vJ 0) (yJ (kJ (.typ "bool")) wJ)) IF))))
def GB:AF:=(vX)
def fI(ds:X1)(S:Sto):R Er:=zS (GB (zN ["thing"] ds) S)
def wH:AF:=(iJ (bJ (dJ uF (dJ yC (vJ 0) (kJ (.int 0))) (kJ (.str [105,115]))) cX) ((AJ (dJ yC (vJ 0) (kJ (.int 1))))) (JJ))
def bO:AF:=(AJ (dJ yC (dJ yC (dJ yC (vJ 1) (dJ yC (vJ 0) (kJ (.int 1)))) (kJ (.int 1))) (dJ yC (vJ 0) (kJ (.int 2)))))
def aT:AF:=zO (wH) ((bO))
def bP(ds:X1)(S:Sto):R Er:=zS (aT (zN ["side","looked_at"] ds) S)
def iS:AF:=(CJ (fJ 2 bP (yJ (dJ yC (vJ 1) (kJ (.int 0))) (yJ (vJ 0) wJ))) 2)
def iT:AF:=(CJ (fJ 2 bP (yJ (dJ yC (vJ 1) (kJ (.int 2))) (yJ (vJ 0) wJ))) 3)
def iU:AF:=(iJ (bJ (dJ uF (dJ yC (vJ 1) (kJ (.int 1))) (kJ (.str [115,97,109,101]))) cX) ((AJ (dJ uF (vJ 2) (vJ 3)))) (JJ))
def iV:AF:=(iJ (bJ (dJ uF (dJ yC (vJ 1) (kJ (.int 1))) (kJ (.str [117,110,108,105,107,101]))) cX) ((AJ (dJ OW (vJ 2) (vJ 3)))) (JJ))
def iW:AF:=(AJ (aJ (fJ 1 fI (yJ (vJ 2) wJ)) (aJ (fJ 1 fI (yJ (vJ 3) wJ)) (dJ Fv (vJ 2) (vJ 3)))))
def sI:AF:=zO (iS) (zO (iT) (zO (iU) (zO (iV) ((iW)))))
def sK(ds:X1)(S:Sto):R Er:=zS (sI (zN ["looked_at","test","left","right"] ds) S)
def bQ:AZ:=uJ
def kM:AE:=(fJ 2 sK (yJ (vJ 1) (yJ (vJ 0) wJ)))
def nP:AF:=(AJ (bJ (yJ (pJ (bJ (vJ 1) WG) (zY 0) (bQ) (kM) 1 [0]) wJ) SX))
def cZ:AF:=(nP)
def gF(ds:X1)(S:Sto):R Er:=zS (cZ (zN ["looked_at","tests"] ds) S)
def fM:AZ:=uJ
def bR:AE:=(dJ yC (dJ yC (vJ 1) (kJ (.int 1))) (vJ 0))
def oN:AF:=(AJ (pJ (bJ (vJ 1) WG) (zY 0) (fM) (bR) 1 [0]))
def oO:AF:=(oN)
def fO(ds:X1)(S:Sto):R Er:=zS (oO (zN ["row","columns"] ds) S)
def tR:AF:=(AJ (kJ (.bl false)))
def yO:AF:=(tR)
def bF(ds:X1)(S:Sto):R Er:=zS (yO (zN ["self","row"] ds) S)
def aQ:AF:=(AJ (kJ (.bl false)))
def zQ:AF:=(aQ)
def yU(ds:X1)(S:Sto):R Er:=zS (zQ (zN ["self","row","other"] ds) S)
def rA:AF:=(AJ (kJ (.bl false)))
def yG:AF:=(rA)
def jQ(ds:X1)(S:Sto):R Er:=zS (yG (zN ["self","row","rows"] ds) S)
def fP:AF:=(AJ (aJ (dJ uF (dJ yC (vJ 1) (kJ (.int 0))) (dJ yC (bJ (vJ 0) (tP Dk "parts")) (kJ (.int 1)))) (fJ 2 gF (yJ (bJ (yJ (vJ 1) wJ) nO) (yJ (dJ yC (bJ (vJ 0) (tP Dk "parts")) (kJ (.int 2))) wJ)))))
def yZ:AF:=(fP)
def oP(ds:X1)(S:Sto):R Er:=zS (yZ (zN ["self","row"] ds) S)
def bG:AF:=(λ_ _=>R.no)
def bH:AF:=(λ_ _=>R.no)
def zZ:AF:=zO (bG) ((bH))
def qI(ds:X1)(S:Sto):R Er:=zS (zZ (zN ["self","row","other"] ds) S)
def nF:AF:=(λ_ _=>R.no)
def yB:AF:=(nF)
def fQ(ds:X1)(S:Sto):R Er:=zS (yB (zN ["self","row","other"] ds) S)
def nQ:AY:=(iJ (rJ (bJ (dJ uF (dJ yC (vJ 4) (kJ (.int 0))) (dJ yC (bJ (vJ 0) (tP Dk "parts")) (kJ (.int 3)))) cX) (bJ (dJ uF (fJ 2 fO (yJ (vJ 4) (yJ (dJ yC (bJ (vJ 0) (tP Dk "parts")) (kJ (.int 4))) wJ))) (vJ 3)) cX)) ((AJ (kJ (.bl false)))) (JJ))
def gG:AY:=(nQ)
def kD:AF:=(iJ (bJ (dJ OW (dJ yC (vJ 1) (kJ (.int 0))) (dJ yC (bJ (vJ 0) (tP Dk "parts")) (kJ (.int 1)))) cX) ((AJ (kJ (.bl false)))) (JJ))
def dA:AF:=(CJ (fJ 2 fO (yJ (vJ 1) (yJ (dJ yC (bJ (vJ 0) (tP Dk "parts")) (kJ (.int 2))) wJ))) 3)
def dB:AF:=(FJ (bJ (vJ 2) tG) (zY 4) (gG))
def tS:AF:=(AJ (kJ (.bl true)))
def yP:AF:=zO (kD) (zO (dA) (zO (dB) ((tS))))
def iY(ds:X1)(S:Sto):R Er:=zS (yP (zN ["self","row","rows","asked","other"] ds) S)
def wL:AF:=(iJ (bJ (dJ uF (dJ yC (vJ 0) (kJ (.int 0))) (kJ (.str [110,101,118,101,114]))) cX) ((AJ (bJ (vJ 0) (Bj "Never" "parts")))) (JJ))
def bI:AF:=(iJ (bJ (dJ uF (dJ yC (vJ 0) (kJ (.int 0))) (kJ (.str [97,112,97,114,116]))) cX) ((AJ (bJ (vJ 0) (Bj "Apart" "parts")))) (JJ))
def DE:AF:=(AJ (bJ (vJ 0) (Bj "Tie" "parts")))
def eS:AF:=zO (wL) (zO (bI) ((DE)))
def sM(ds:X1)(S:Sto):R Er:=zS (eS (zN ["parts"] ds) S)
def fR:AZ:=uJ
def bS:AE:=(fJ 1 sM (yJ (vJ 0) wJ))
def aU:AF:=(AJ (pJ (bJ (dJ yC (vJ 0) (kJ (.int 1))) WG) (zY 0) (fR) (bS) 1 []))
def oQ:AF:=(aU)
def xH(ds:X1)(S:Sto):R Er:=zS (oQ (zN ["book"] ds) S)
def oR:AF:=(AJ (bJ (yJ (bJ (yJ (dJ yC (vJ 0) (kJ (.int 2))) wJ) fC) wJ) PY))
def oS:AF:=(oR)
def cT(ds:X1)(S:Sto):R Er:=zS (oS (zN ["book"] ds) S)
def fS:AZ:=uJ
def bT:AE:=(bJ (yJ (vJ 1) (yJ (vJ 0) wJ)) yA)
def fU:AY:=(BJ (eJ wF TZ (vJ 1) (yJ (pJ (bJ (tJ SV (vJ 0) (bJ (dJ jC (vJ 2) (kJ (.int 1))) C5) mJ) WG) (zY 0) (fS) (bT) 1 [3]) wJ)))
def aV:AY:=(fU)
def aW:AF:=(CJ (bJ wJ nO) 1)
def aX:AF:=(FJ (bJ (yJ (vJ 0) wJ) Bc) (qW 2 (zC (zY 2) (zC (zY 3) xB))) (aV))
def vY:AF:=(AJ (vJ 1))
def oU:AF:=zO (aW) (zO (aX) ((vY)))
def cU(ds:X1)(S:Sto):R Er:=zS (oU (zN ["rows","pairs","place","i"] ds) S)
def uI:AF:=(AJ (bJ (yJ (dJ yC (vJ 1) (kJ (.int 0))) (yJ (tJ SV (dJ yC (vJ 1) (kJ (.int 1))) mJ (bJ (dJ yC (dJ yC (vJ 0) (dJ yC (vJ 1) (kJ (.int 0)))) (kJ (.int 1))) C5)) wJ)) yA))
def vZ:AF:=(uI)
def rB(ds:X1)(S:Sto):R Er:=zS (vZ (zN ["tables","row"] ds) S)
def dC:List (Str×(List MV->Sto->R Er)):=[("Rule",bF),("Never",oP),("Apart",bF),("Tie",bF)]
def gH:List (Str×(List MV->Sto->R Er)):=[("Rule",jQ),("Never",jQ),("Apart",jQ),("Tie",iY)]
def jX:AZ:=uJ
def xO:AE:=(dJ yC (dJ yC (vJ 1) (kJ (.int 2))) (vJ 0))
def xP:AZ:=(bJ (NJ "bars" 2 dC (vJ 1) (yJ (vJ 3) wJ)) qF)
def xQ:AE:=(bJ (yJ (kJ (.str [110,101,118,101,114])) (yJ (vJ 2) (yJ (vJ 0) wJ))) yA)
def xR:AZ:=(bJ (NJ "lacks" 3 gH (vJ 1) (yJ (vJ 3) (yJ (vJ 4) wJ))) qF)
def xS:AE:=(bJ (yJ (kJ (.str [116,105,101])) (yJ (vJ 2) (yJ (vJ 0) wJ))) yA)
def kN:AF:=(CJ (dJ yC (dJ yC (vJ 0) (kJ (.int 2))) (vJ 3)) 4)
def kO:AF:=(CJ (pJ (bJ (vJ 2) WG) (zY 0) (jX) (xO) 1 [0]) 5)
def kP:AF:=(CJ (pJ (bJ (yJ (vJ 1) wJ) Bc) (qW 2 (zC (zY 0) (zC (zY 1) xB))) (xP) (xQ) 2 [3,4]) 6)
def kQ:AF:=(AJ (dJ jC (vJ 6) (pJ (bJ (yJ (vJ 1) wJ) Bc) (qW 2 (zC (zY 0) (zC (zY 1) xB))) (xR) (xS) 2 [3,4,5])))
def gP:AF:=zO (kN) (zO (kO) (zO (kP) ((kQ))))
def wX(ds:X1)(S:Sto):R Er:=zS (gP (zN ["book","rules","rows","i","row","within","barred"] ds) S)
def xI:List (Str×(List MV->Sto->R Er)):=[("Rule",yU),("Never",yU),("Apart",fQ),("Tie",yU)]
def xT:AZ:=(bJ (NJ "parts_them" 3 xI (vJ 1) (yJ (vJ 4) (yJ (vJ 5) wJ))) qF)
def xU:AE:=(bJ (yJ (kJ (.str [97,112,97,114,116])) (yJ (vJ 2) (yJ (vJ 3) (yJ (vJ 0) wJ)))) yA)
def kR:AF:=(CJ (dJ yC (dJ yC (vJ 0) (kJ (.int 2))) (vJ 2)) 4)
def kS:AF:=(CJ (dJ yC (dJ yC (vJ 0) (kJ (.int 2))) (vJ 3)) 5)
def kT:AF:=(CJ (pJ (bJ (yJ (vJ 1) wJ) Bc) (qW 2 (zC (zY 0) (zC (zY 1) xB))) (xT) (xU) 2 [2,3,4,5]) 6)
def kU:AF:=(iJ (bJ (dJ uF (fJ 2 rB (yJ (dJ yC (vJ 0) (kJ (.int 0))) (yJ (vJ 4) wJ))) (fJ 2 rB (yJ (dJ yC (vJ 0) (kJ (.int 0))) (yJ (vJ 5) wJ)))) cX) ((BJ (eJ wF fD (vJ 6) (yJ (bJ (yJ (kJ (.str [107,101,121])) (yJ (vJ 2) (yJ (vJ 3) wJ))) yA) wJ)))) (JJ))
def iZ:AF:=(AJ (vJ 6))
def gQ:AF:=zO (kR) (zO (kS) (zO (kT) (zO (kU) ((iZ)))))
def yX(ds:X1)(S:Sto):R Er:=zS (gQ (zN ["book","rules","i","j","row","other","parted"] ds) S)
def oV:AY:=(BJ (eJ wF TZ (vJ 3) (yJ (fJ 4 wX (yJ (vJ 0) (yJ (vJ 2) (yJ (vJ 1) (yJ (vJ 4) wJ))))) wJ)))
def oW:AY:=(oV)
def oX:AY:=(BJ (eJ wF TZ (vJ 3) (yJ (fJ 4 yX (yJ (vJ 0) (yJ (vJ 2) (yJ (vJ 4) (yJ (vJ 5) wJ))))) wJ)))
def oY:AY:=(oX)
def uK:AF:=(CJ (fJ 1 xH (yJ (vJ 0) wJ)) 2)
def uL:AF:=(CJ (bJ wJ nO) 3)
def uM:AF:=(FJ (bJ (vJ 1) WG) (zY 4) (oW))
def uN:AF:=(FJ (bJ (fJ 1 cU (yJ (vJ 1) wJ)) tG) (qW 2 (zC (zY 4) (zC (zY 5) xB))) (oY))
def uO:AF:=(AJ (bJ (yJ (vJ 3) wJ) pY))
def AA:AF:=zO (uK) (zO (uL) (zO (uM) (zO (uN) ((uO)))))
def AB(ds:X1)(S:Sto):R Er:=zS (AA (zN ["book","rows","rules","found","i","j"] ds) S)
def GC:AF:=(AJ (dJ uF (bJ (yJ (fJ 2 AB (yJ (vJ 0) (yJ (vJ 1) wJ))) wJ) fC) (kJ (.int 0))))
def MA:AF:=(GC)
def GD(ds:X1)(S:Sto):R Er:=zS (MA (zN ["book","rows"] ds) S)
def dD:AZ:=(qJ (bJ (NJ "lacks" 3 gH (vJ 2) (yJ (vJ 3) (yJ (bJ (yJ (vJ 1) wJ) nO) wJ))) qF))
def lQ:AE:=(vJ 0)
def dE:AY:=(iJ (bJ (NJ "lacks" 3 gH (vJ 2) (yJ (vJ 4) (yJ (bJ wJ nO) wJ))) qF) ((BJ (eJ wF fD (vJ 1) (yJ (bJ (yJ (vJ 3) (yJ (pJ (bJ (yJ (dJ yC (vJ 0) (kJ (.int 2))) wJ) Bc) (qW 2 (zC (zY 0) (zC (zY 1) xB))) (dD) (lQ) 2 [2,4]) wJ)) yA) wJ)))) (JJ))
def bK:AY:=(dE)
def lR:AY:=(FJ (bJ (yJ (dJ yC (vJ 0) (kJ (.int 2))) wJ) Bc) (qW 2 (zC (zY 3) (zC (zY 4) xB))) (bK))
def lB:AY:=(lR)
def lD:AF:=(CJ (bJ wJ nO) 1)
def lE:AF:=(FJ (bJ (fJ 1 xH (yJ (vJ 0) wJ)) tG) (zY 2) (lB))
def lF:AF:=(AJ (vJ 1))
def sN:AF:=zO (lD) (zO (lE) ((lF)))
def jR(ds:X1)(S:Sto):R Er:=zS (sN (zN ["book","ties","rule","i","row"] ds) S)
def jS:AY:=(iJ (bJ (dJ (FR false) (vJ 2) (vJ 0)) cX) ((AJ (kJ (.bl true)))) (JJ))
def jG:AY:=(jS)
def wI:AF:=(FJ (bJ (vJ 1) tG) (zY 2) (jG))
def rC:AF:=(AJ (kJ (.bl false)))
def aY:AF:=zO (wI) ((rC))
def aZ(ds:X1)(S:Sto):R Er:=zS (aY (zN ["kept","some","number"] ds) S)
def xC:AZ:=(rJ (bJ (dJ (FR false) (vJ 0) (vJ 2)) cX) (qJ (bJ (fJ 2 aZ (yJ (vJ 2) (yJ (vJ 1) wJ))) qF)))
def wR:AE:=(vJ 0)
def jT:AF:=(AJ (pJ (bJ (vJ 0) tG) (qW 2 (zC (zY 0) (zC (zY 1) xB))) (xC) (wR) 2 [1]))
def bU:AF:=(jT)
def jH(ds:X1)(S:Sto):R Er:=zS (bU (zN ["ties","kept"] ds) S)
def bV:AZ:=uJ
def kW:AE:=(bJ (yJ (vJ 0) (yJ (kJ (.bl true)) wJ)) yA)
def bW:AY:=(BJ (eJ FT JT (vJ 2) (yJ (vJ 4) (yJ (kJ .non) wJ))))
def wY:AY:=(bW)
def kX:AY:=(FJ (bJ (vJ 3) tG) (zY 4) (wY))
def kY:AY:=(CJ (fJ 2 jH (yJ (vJ 0) (yJ (vJ 2) wJ))) 3)
def wZ:AY:=zO (kX) ((kY))
def jU:AZ:=(bJ (vJ 3) qF)
def gR:AF:=(CJ (bJ (yJ (pJ (bJ (vJ 1) tG) (zY 0) (bV) (kW) 1 []) wJ) XH) 2)
def gT:AF:=(CJ (fJ 2 jH (yJ (vJ 0) (yJ (vJ 2) wJ))) 3)
def nS:AF:=(λρ S=>eZ (jU) (wZ) 10000 ρ S)
def gU:AF:=(AJ (bJ (yJ (vJ 2) wJ) JV))
def dF:AF:=zO (gR) (zO (gT) (zO (nS) ((gU))))
def yF(ds:X1)(S:Sto):R Er:=zS (dF (zN ["ties","rows","kept","untied","i"] ds) S)
def uP:AZ:=uJ
def oZ:AE:=(NJ "bars" 2 dC (vJ 0) (yJ (dJ yC (dJ yC (vJ 2) (kJ (.int 2))) (vJ 1)) wJ))
def pA:AZ:=(qJ (bJ (bJ (yJ (pJ (bJ (vJ 2) tG) (zY 0) (uP) (oZ) 1 [0,1]) wJ) SY) qF))
def uQ:AE:=(vJ 0)
def AC:AF:=(CJ (fJ 1 xH (yJ (vJ 0) wJ)) 2)
def AD:AF:=(CJ (pJ (bJ (vJ 1) WG) (zY 0) (pA) (uQ) 1 [0,2]) 3)
def AG:AF:=(AJ (fJ 2 yF (yJ (fJ 1 jR (yJ (vJ 0) wJ)) (yJ (vJ 3) wJ))))
def MB:AF:=zO (AC) (zO (AD) ((AG)))
def BS(ds:X1)(S:Sto):R Er:=zS (MB (zN ["book","rows","rules","allowed"] ds) S)
def dG:AZ:=(bJ (fJ 4 yX (yJ (vJ 2) (yJ (vJ 3) (yJ (vJ 0) (yJ (vJ 1) wJ))))) qF)
def dH:AE:=(bJ (yJ (vJ 0) (yJ (vJ 1) wJ)) yA)
def rD:AF:=(CJ (fJ 1 xH (yJ (vJ 0) wJ)) 1)
def rE:AF:=(AJ (pJ (bJ (fJ 1 cU (yJ (fJ 2 BS (yJ (vJ 0) (yJ (fJ 1 cT (yJ (vJ 0) wJ)) wJ))) wJ)) tG) (qW 2 (zC (zY 0) (zC (zY 1) xB))) (dG) (dH) 2 [0,1]))
def sO:AF:=zO (rD) ((rE))
def sP(ds:X1)(S:Sto):R Er:=zS (sO (zN ["book","rules"] ds) S)
def lU:AY:=(BJ (eJ wF fD (eJ FT UF (vJ 1) (yJ (vJ 2) (yJ (bJ wJ nO) wJ))) (yJ (vJ 3) wJ)))
def lV:AY:=(BJ (eJ wF fD (eJ FT UF (vJ 1) (yJ (vJ 3) (yJ (bJ wJ nO) wJ))) (yJ (vJ 2) wJ)))
def lG:AY:=zO (lU) ((lV))
def rF:AF:=(CJ zJ 1)
def rG:AF:=(FJ (bJ (fJ 1 sP (yJ (vJ 0) wJ)) tG) (qW 2 (zC (zY 2) (zC (zY 3) xB))) (lG))
def rH:AF:=(AJ (vJ 1))
def BU:AF:=zO (rF) (zO (rG) ((rH)))
def eU(ds:X1)(S:Sto):R Er:=zS (BU (zN ["book","foes","i","j"] ds) S)
def nT:AF:=(iJ (bJ (dJ Nn (bJ (yJ (vJ 0) wJ) QE) (kJ (.int (15)))) cX) ((λ_ _=>R.no)) (JJ))
def dI:AF:=(nT)
def dL(ds:X1)(S:Sto):R Er:=zS (dI (zN ["foes"] ds) S)
def dM:AZ:=uJ
def gI:AE:=(dJ (SW false) (vJ 0) (vJ 1))
def lW:AZ:=uJ
def dN:AE:=(oJ (dJ (SW false) (vJ 0) (vJ 1)) (bJ (yJ (pJ (bJ (dJ LW (vJ 2) (vJ 0)) tG) (zY 0) (dM) (gI) 1 [1]) wJ) SY))
def rK:AF:=(AJ (bJ (yJ (pJ (bJ (vJ 1) tG) (zY 0) (lW) (dN) 1 [0,2]) wJ) SX))
def sQ:AF:=(rK)
def sR(ds:X1)(S:Sto):R Er:=zS (sQ (zN ["rows","known","foes"] ds) S)
def xV:AZ:=(bJ (dJ (SW true) (vJ 0) (dJ LW (vJ 1) (vJ 2))) cX)
def jY:AE:=(vJ 0)
def jZ:AY:=(CJ (bJ (yJ (pJ (bJ (vJ 5) WG) (zY 0) (xV) (jY) 1 [0,3]) wJ) lP) 6)
def hV:AY:=(iJ (bJ (dJ OW (vJ 6) (vJ 5)) cX) ((EJ (kJ (.bl true)) (DJ vQ (vJ 4) (vJ 5)))) (JJ))
def hX:AY:=(iJ (bJ (fJ 3 sR (yJ (dJ jC (vJ 6) (bJ (yJ (vJ 3) wJ) yA)) (yJ (vJ 1) (yJ (vJ 0) wJ)))) qF) ((EJ (kJ (.bl true)) (DJ vQ (vJ 4) (dJ jC (vJ 6) (bJ (yJ (vJ 3) wJ) yA))))) (JJ))
def xF:AY:=zO (jZ) (zO (hV) ((hX)))
def xW:AY:=(BJ (eJ wF fD (vJ 1) (yJ (vJ 3) wJ)))
def xX:AY:=(CJ zJ 4)
def xY:AY:=(FJ (bJ (vJ 2) tG) (zY 5) (xF))
def xZ:AY:=(CJ (bJ (yJ (vJ 4) wJ) BR) 2)
def kZ:AY:=zO (xW) (zO (xX) (zO (xY) ((xZ))))
def bX:AF:=(CJ (bJ wJ nO) 1)
def bY:AF:=(CJ (bJ (yJ (bJ wJ yA) wJ) nO) 2)
def bZ:AF:=(FJ (bJ (bJ (yJ (vJ 0) wJ) JW) tG) (zY 3) (kZ))
def cA:AF:=(AJ (vJ 2))
def gV:AF:=zO (bX) (zO (bY) (zO (bZ) ((cA))))
def gW(ds:X1)(S:Sto):R Er:=zS (gV (zN ["foes","known","told","newest","grown","rows","left"] ds) S)
def rL:AF:=(AJ (dJ uF (R7 (yJ (vJ 1) wJ) (yJ (vJ 0) wJ)) (kJ (.int 0))))
def sS:AF:=(rL)
def cV(ds:X1)(S:Sto):R Er:=zS (sS (zN ["rows","some"] ds) S)
def jI:AF:=(AJ (aJ (dJ Nn (bJ (yJ (vJ 0) wJ) fC) (bJ (yJ (vJ 1) wJ) fC)) (fJ 2 cV (yJ (vJ 0) (yJ (vJ 1) wJ)))))
def wU:AF:=(jI)
def wV(ds:X1)(S:Sto):R Er:=zS (wU (zN ["rows","some"] ds) S)
def eA:AZ:=(bJ (dJ (FR true) (vJ 0) (vJ 1)) cX)
def pB:AE:=(vJ 0)
def pC:AY:=(EJ (kJ (.bl true)) (DJ vQ (vJ 4) (fJ 2 yF (yJ (vJ 3) (yJ (bJ (yJ (dJ jC (vJ 2) (bJ (yJ (vJ 5) wJ) PB)) wJ) PV) wJ)))))
def fV:AY:=(pC)
def pD:AZ:=uJ
def eB:AE:=(fJ 2 wV (yJ (vJ 0) (yJ (vJ 1) wJ)))
def eC:AZ:=(qJ (bJ (bJ (yJ (pJ (bJ (vJ 1) LZ) (zY 0) (pD) (eB) 1 [0]) wJ) SY) qF))
def pE:AE:=(vJ 0)
def uR:AF:=(CJ (fJ 1 eU (yJ (vJ 0) wJ)) 1)
def uS:AF:=(BJ (fJ 1 dL (yJ (vJ 1) wJ)))
def pF:AF:=(CJ (pJ (bJ (fJ 2 BS (yJ (vJ 0) (yJ (fJ 1 cT (yJ (vJ 0) wJ)) wJ))) WG) (zY 0) (eA) (pB) 1 [1]) 2)
def fW:AF:=(CJ (fJ 1 jR (yJ (vJ 0) wJ)) 3)
def pG:AF:=(CJ zJ 4)
def uT:AF:=(FJ (bJ (fJ 1 gW (yJ (vJ 1) wJ)) tG) (zY 5) (fV))
def pH:AF:=(AJ (bJ (yJ (pJ (bJ (vJ 4) LZ) (zY 0) (eC) (pE) 1 [4]) wJ) pY))
def AH:AF:=zO (uR) (zO (uS) (zO (pF) (zO (fW) (zO (pG) (zO (uT) ((pH)))))))
def nG(ds:X1)(S:Sto):R Er:=zS (AH (zN ["book","foes","unharmed","ties","found","rows"] ds) S)
def jA:AY:=(iJ (bJ (fJ 2 cV (yJ (vJ 2) (yJ (vJ 1) wJ))) qF) ((AJ (vJ 2))) (JJ))
def kC:AY:=(jA)
def gX:AF:=(FJ (bJ (fJ 1 nG (yJ (vJ 0) wJ)) tG) (zY 2) (kC))
def nU:AF:=(AJ (kJ .non))
def dO:AF:=zO (gX) ((nU))
def gK(ds:X1)(S:Sto):R Er:=zS (dO (zN ["book","rows","told"] ds) S)
def jV:AF:=(iJ (bJ (dJ Fv (vJ 1) (bJ (yJ (vJ 0) wJ) fC)) cX) ((AJ (dJ yC (vJ 0) (vJ 1)))) (JJ))
def oA:AF:=(AJ (kJ (.int 0)))
def cB:AF:=zO (jV) ((oA))
def yQ(ds:X1)(S:Sto):R Er:=zS (cB (zN ["_law_script","_law_k"] ds) S)
def eE:AF:=(CJ (dJ qH (dJ jC (dJ jC (dJ jC (dJ qH (vJ 0) (kJ (.int 2147483647))) (dJ tH (dJ tH (kJ (.int 7919)) (vJ 1)) (vJ 1))) (dJ tH (kJ (.int 101)) (vJ 1))) (kJ (.int 11))) (kJ (.int 2147483647))) 2)
def eF:AF:=(CJ (dJ qH (dJ jC (dJ jC (dJ tH (vJ 2) (vJ 2)) (dJ tH (kJ (.int 48271)) (vJ 2))) (kJ (.int 13))) (kJ (.int 2147483647))) 2)
def eG:AF:=(AJ (dJ qH (dJ jC (dJ jC (dJ tH (vJ 2) (vJ 2)) (dJ tH (kJ (.int 69621)) (vJ 2))) (kJ (.int 7))) (kJ (.int 2147483629))))
def uU:AF:=zO (eE) (zO (eF) ((eG)))
def zX(ds:X1)(S:Sto):R Er:=zS (uU (zN GA ds) S)
def nV:AY:=(BJ (eJ wF fD (vJ 3) (yJ (bJ (yJ (kJ (.int 0)) (yJ (bJ (yJ (dJ jC (dJ jC (vJ 6) (vJ 7)) (kJ (.int 1))) (yJ (dJ jC (dJ jC (vJ 6) (vJ 7)) (kJ (.int 1))) (yJ (dJ jC (vJ 6) (vJ 7)) wJ))) yA) wJ)) yA) wJ)))
def nW:AY:=(BJ (eJ wF fD (vJ 4) (yJ (bJ (yJ (vJ 5) (yJ (vJ 7) wJ)) yA) wJ)))
def dP:AY:=zO (nV) ((nW))
def nY:AY:=(CJ (dJ jC (vJ 1) (dJ tH (kJ (.int 100)) (vJ 5))) 6)
def nZ:AY:=(BJ (eJ wF fD (vJ 3) (yJ (bJ (yJ (kJ (.int 0)) (yJ (bJ (yJ (vJ 1) (yJ (vJ 6) (yJ (vJ 6) wJ))) yA) wJ)) yA) wJ)))
def aB:AY:=(BJ (eJ wF fD (vJ 4) (yJ (bJ (yJ (vJ 5) (yJ (kJ (.int (-1))) wJ)) yA) wJ)))
def aC:AY:=(FJ (bJ (yJ (dJ qH (fJ 2 zX (yJ (dJ yC (vJ 0) (kJ (.int 1))) (yJ (dJ jC (kJ (.int 4)) (vJ 5)) wJ))) (kJ (.int 7))) wJ) nA) (zY 7) (dP))
def dQ:AY:=zO (nY) (zO (nZ) (zO (aB) ((aC))))
def aD:AY:=(BJ (eJ wF fD (vJ 3) (yJ (bJ (yJ (kJ (.int 1)) (yJ (bJ (yJ (vJ 1) (yJ (dJ jC (kJ (.str [107])) (dJ yC (kJ (.str [97,98,99,100,101,102,103,104])) (vJ 7))) wJ)) yA) wJ)) yA) wJ)))
def aF:AY:=(BJ (eJ wF fD (vJ 4) (yJ (bJ (yJ (kJ (.int (-1))) (yJ (vJ 7) wJ)) yA) wJ)))
def dR:AY:=zO (aD) ((aF))
def aG:AY:=(BJ (eJ wF fD (vJ 3) (yJ (bJ (yJ (kJ (.int 2)) (yJ (bJ (yJ (dJ yC (kJ (.str [97,98,99,100,101,102,103,104])) (vJ 7)) wJ) yA) wJ)) yA) wJ)))
def aH:AY:=(BJ (eJ wF fD (vJ 4) (yJ (bJ (yJ (kJ (.int (-2))) (yJ (vJ 7) wJ)) yA) wJ)))
def dS:AY:=zO (aG) ((aH))
def aI:AZ:=uJ
def gY:AE:=(bJ (yJ (fJ 2 zX (yJ (dJ yC (vJ 1) (kJ (.int 3))) (yJ (dJ jC (kJ (.int 40)) (vJ 0)) wJ))) (yJ (vJ 0) wJ)) yA)
def aK:AZ:=uJ
def gZ:AE:=(dJ yC (vJ 2) (vJ 1))
def aL:AZ:=uJ
def bA:AE:=(dJ yC (vJ 2) (vJ 1))
def dU:AF:=(CJ (dJ Nh (dJ qH (fJ 2 zX (yJ (dJ yC (vJ 0) (kJ (.int 0))) (yJ (kJ (.int 1)) wJ))) (dJ yC (bJ (yJ (kJ (.int 9)) (yJ (dJ Ni (kJ (.int 10)) (kJ (.int 9))) wJ)) nO) (dJ qH (fJ 2 zX (yJ (dJ yC (vJ 0) (kJ (.int 0))) (yJ (kJ (.int 2)) wJ))) (kJ (.int 2))))) (kJ (.int 3))) 1)
def lX:AF:=(CJ (dJ jC (kJ (.int 2)) (dJ qH (fJ 2 zX (yJ (dJ yC (vJ 0) (kJ (.int 1))) (yJ (kJ (.int 3)) wJ))) (kJ (.int 2)))) 2)
def lY:AF:=(CJ (bJ wJ nO) 3)
def lZ:AF:=(CJ (bJ wJ nO) 4)
def mB:AF:=(FJ (bJ (yJ (vJ 2) wJ) nA) (zY 5) (dQ))
def mE:AF:=(FJ (bJ (yJ (dJ qH (fJ 2 zX (yJ (dJ yC (vJ 0) (kJ (.int 2))) (yJ (kJ (.int 5)) wJ))) (kJ (.int 9))) wJ) nA) (zY 7) (dR))
def mG:AF:=(FJ (bJ (yJ (dJ qH (fJ 2 zX (yJ (dJ yC (vJ 0) (kJ (.int 2))) (yJ (kJ (.int 6)) wJ))) (kJ (.int 9))) wJ) nA) (zY 7) (dS))
def mH:AF:=(CJ (bJ (yJ (pJ (bJ (yJ (bJ (yJ (vJ 3) wJ) fC) wJ) nA) (zY 0) (aI) (gY) 1 [0]) wJ) pY) 8)
def mI:AF:=(AJ (bJ (yJ (vJ 1) (yJ (vJ 2) (yJ (pJ (bJ (vJ 8) tG) (qW 2 (zC (zY 0) (zC (zY 1) xB))) (aK) (gZ) 2 [3]) (yJ (pJ (bJ (vJ 8) tG) (qW 2 (zC (zY 0) (zC (zY 1) xB))) (aL) (bA) 2 [4]) wJ)))) yA))
def lH:AF:=zO (dU) (zO (lX) (zO (lY) (zO (lZ) (zO (mB) (zO (mE) (zO (mG) (zO (mH) ((mI)))))))))
def lI(ds:X1)(S:Sto):R Er:=zS (lH (zN ["_law_cells","_law_low","_law_ends","_law_rows","_law_marks","_law_k","_law_here","_law_j","_law_order"] ds) S)
def jB:AZ:=(rJ (bJ (dJ M9 (dJ yC (vJ 0) (kJ (.int 0))) (kJ (.int 0))) cX) (bJ (dJ M9 (dJ yC (vJ 0) (kJ (.int 1))) (kJ (.int 0))) cX))
def cC:AE:=(vJ 0)
def bB:AF:=(CJ (bJ (yJ (pJ (bJ (vJ 0) tG) (zY 0) (jB) (cC) 1 []) wJ) pY) 2)
def xD:AF:=(iJ (sJ (bJ (dJ uF (vJ 2) (bJ wJ nO)) cX) (bJ (dJ Nn (dJ qH (fJ 2 zX (yJ (dJ yC (vJ 1) (kJ (.int 4))) (yJ (kJ (.int 7)) wJ))) (kJ (.int 3))) (kJ (.int 0))) cX)) ((AJ (kJ .non))) (JJ))
def bC:AF:=(AJ (dJ yC (vJ 2) (dJ qH (fJ 2 zX (yJ (dJ yC (vJ 1) (kJ (.int 4))) (yJ (kJ (.int 8)) wJ))) (bJ (yJ (vJ 2) wJ) fC))))
def dW:AF:=zO (bB) (zO (xD) ((bC)))
def gM(ds:X1)(S:Sto):R Er:=zS (dW (zN ["_law_marks","_law_cells","_law_some"] ds) S)
def cE:AF:=(CJ (bJ (yJ (bJ (yJ (kJ (.str [116,105,101])) (yJ (kJ (.int 0)) (yJ (bJ (yJ (kJ (.int 2)) wJ) yA) (yJ (kJ (.int 0)) (yJ (bJ (yJ (kJ (.int 1)) wJ) yA) wJ))))) yA) (yJ (bJ (yJ (kJ (.str [116,105,101])) (yJ (kJ (.int 1)) (yJ (bJ (yJ (kJ (.int 0)) wJ) yA) (yJ (kJ (.int 0)) (yJ (bJ (yJ (kJ (.int 0)) wJ) yA) wJ))))) yA) wJ)) nO) 2)
def cF:AF:=(iJ (bJ (dJ JK (vJ 1) (kJ .non)) cX) (zO (CJ (bJ (yJ (bJ (yJ (kJ (.str [99,101,108,108])) (yJ (kJ (.int 0)) (yJ (kJ (.int 1)) wJ))) yA) (yJ (kJ (.str [115,97,109,101])) (yJ (bJ (yJ (kJ (.str [105,115])) (yJ (dJ jC (dJ jC (dJ jC (vJ 0) (dJ tH (kJ (.int 100)) (dJ yC (vJ 1) (kJ (.int 0))))) (dJ yC (vJ 1) (kJ (.int 1)))) (kJ (.int 1))) wJ)) yA) wJ))) yA) 3) ((BJ (eJ wF Hv (vJ 2) (yJ (kJ (.int 1)) (yJ (bJ (yJ (kJ (.str [110,101,118,101,114])) (yJ (kJ (.int 0)) (yJ (bJ (yJ (vJ 3) wJ) yA) wJ))) yA) wJ)))))) (JJ))
def fX:AF:=(AJ (bJ (yJ (vJ 2) wJ) lP))
def cG:AF:=zO (cE) (zO (cF) ((fX)))
def eH(ds:X1)(S:Sto):R Er:=zS (cG (zN ["_law_low","_law_barred_here","_law_rules_here","_law_test"] ds) S)
def cH:AY:=(EJ (dJ yC (vJ 0) (vJ 6)) (qW 2 (zC (zY 7) (zC (zY 8) xB))))
def jK:AY:=(iJ (sJ (bJ (dJ Fv (vJ 7) (kJ (.int 0))) cX) (rJ (bJ (dJ uF (vJ 7) (vJ 4)) cX) (sJ (bJ (dJ OX (vJ 2) (kJ .non)) cX) (sJ (bJ (dJ OW (dJ yC (vJ 2) (kJ (.int 0))) (vJ 4)) cX) (bJ (dJ Fv (vJ 8) (dJ yC (vJ 2) (kJ (.int 1)))) cX))))) ((BJ (eJ wF fD (vJ 5) (yJ (vJ 6) wJ)))) (JJ))
def eI:AY:=zO (cH) ((jK))
def fY:AY:=(CJ (bJ wJ nO) 5)
def fZ:AY:=(FJ (bJ (yJ (bJ (yJ (vJ 0) wJ) fC) wJ) nA) (zY 6) (eI))
def iA:AY:=(BJ (eJ wF fD (vJ 3) (yJ (bJ (yJ (vJ 5) wJ) lP) wJ)))
def eK:AY:=zO (fY) (zO (fZ) ((iA)))
def pI:AF:=(CJ (bJ wJ nO) 3)
def pK:AF:=(FJ (bJ (yJ (vJ 1) wJ) nA) (zY 4) (eK))
def pM:AF:=(AJ (vJ 3))
def pN:AF:=zO (pI) (zO (pK) ((pM)))
def pO(ds:X1)(S:Sto):R Er:=zS (pN (zN ["_law_marks","_law_ends","_law_barred_here","_law_due_here","_law_k","_law_some","_law_i","_law_end","_law_j"] ds) S)
def BV:AZ:=uJ
def sT:AE:=(fJ 2 yQ (yJ (vJ 1) (yJ (vJ 0) wJ)))
def sU:AZ:=(bJ (dJ uF (dJ yC (vJ 0) (kJ (.int 0))) (kJ (.int (-2)))) cX)
def BW:AE:=(vJ 0)
def CA:AZ:=uJ
def sV:AE:=(dJ (Hj false) (fJ 2 GD (yJ (vJ 1) (yJ (vJ 0) wJ))) (kJ (.bl true)))
def sW:AZ:=(bJ (dJ uF (dJ yC (dJ yC (vJ 1) (vJ 0)) (kJ (.int 0))) (vJ 2)) cX)
def CB:AE:=(vJ 0)
def sX:AZ:=(bJ (dJ (SW false) (dJ yC (vJ 1) (vJ 0)) (bJ (yJ (bJ (yJ (kJ (.int 0)) (yJ (kJ (.int (-1))) wJ)) yA) (yJ (bJ (yJ (kJ (.int 1)) (yJ (kJ (.int (-1))) wJ)) yA) wJ)) yA)) cX)
def CC:AE:=(vJ 0)
def MC:AF:=(CJ (pJ (bJ (yJ (kJ (.int 5)) wJ) nA) (zY 0) (BV) (sT) 1 [0]) 1)
def MD:AF:=(EJ (fJ 1 lI (yJ (vJ 1) wJ)) (qW 4 (zC (zY 2) (zC (zY 3) (zC (zY 4) (zC (zY 5) xB))))))
def ME:AF:=(CJ (fJ 2 gM (yJ (vJ 5) (yJ (vJ 1) wJ))) 6)
def MF:AF:=(CJ (bJ (yJ (bJ (yJ (bJ (yJ (kJ (.int 3)) (yJ (kJ (.int 1)) wJ)) yA) (yJ (bJ (yJ (kJ (.int 2)) (yJ (kJ (.int 2)) wJ)) yA) (yJ (bJ (yJ (kJ (.int 1)) (yJ (kJ (.int 0)) wJ)) yA) wJ))) yA) (yJ (fJ 2 eH (yJ (vJ 2) (yJ (vJ 6) wJ))) (yJ (bJ (yJ (vJ 4) wJ) lP) wJ))) yA) 7)
def MG:AF:=(CJ (pJ (bJ (vJ 5) tG) (zY 0) (sU) (BW) 1 []) 8)
def MH:AF:=(iJ (bJ (dJ Nn (bJ (yJ (vJ 8) wJ) fC) (kJ (.int 1))) cX) ((CJ (bJ (yJ (bJ (yJ (bJ (yJ (kJ (.int 3)) (yJ (kJ (.int 1)) wJ)) yA) (yJ (bJ (yJ (kJ (.int 2)) (yJ (kJ (.int 2)) wJ)) yA) (yJ (bJ (yJ (kJ (.int 1)) (yJ (kJ (.int 1)) wJ)) yA) wJ))) yA) (yJ (dJ yC (vJ 7) (kJ (.int 1))) (yJ (dJ yC (vJ 7) (kJ (.int 2))) wJ))) yA) 7)) (JJ))
def MI:AF:=(CJ (fJ 3 pO (yJ (vJ 5) (yJ (vJ 3) (yJ (vJ 6) wJ)))) 9)
def MK:AF:=(iJ (sJ (bJ (dJ OW (fJ 1 nG (yJ (vJ 7) wJ)) (bJ (yJ (vJ 9) wJ) pY)) cX) (qJ (bJ (bJ (yJ (pJ (bJ (vJ 9) tG) (zY 0) (CA) (sV) 1 [7]) wJ) SX) qF))) ((AJ (kJ (.bl false)))) (JJ))
def ML:AF:=(CJ (dJ qH (fJ 2 zX (yJ (dJ yC (vJ 1) (kJ (.int 4))) (yJ (kJ (.int 9)) wJ))) (vJ 3)) 10)
def GE:AF:=(CJ (bJ (yJ (pJ (bJ (dJ yC (vJ 9) (vJ 10)) WG) (zY 0) (sW) (CB) 1 [5,10]) wJ) lP) 11)
def GF:AF:=(iJ (bJ (dJ OW (fJ 2 gK (yJ (vJ 7) (yJ (tJ SV (vJ 11) (bJ (dJ Nh (kJ (.int (-1))) (dJ qH (fJ 2 zX (yJ (dJ yC (vJ 1) (kJ (.int 4))) (yJ (kJ (.int 10)) wJ))) (bJ (yJ (vJ 11) wJ) fC))) C5) mJ) wJ))) (dJ yC (vJ 9) (vJ 10))) cX) ((AJ (kJ (.bl false)))) (JJ))
def GH:AF:=(CJ (bJ (yJ (pJ (bJ (yJ (bJ (yJ (vJ 5) wJ) fC) wJ) nA) (zY 0) (sX) (CC) 1 [5]) wJ) lP) 12)
def GI:AF:=(AJ (dJ OX (fJ 2 gK (yJ (vJ 7) (yJ (vJ 12) wJ))) (kJ .non)))
def XO:AF:=zO (MC) (zO (MD) (zO (ME) (zO (MF) (zO (MG) (zO (MH) (zO (MI) (zO (MK) (zO (ML) (zO (GE) (zO (GF) (zO (GH) ((GI)))))))))))))
def QN(ds:X1)(S:Sto):R Er:=zS (XO (zN ["_law_script","_law_cells","_law_low","_law_ends","_law_rows","_law_marks","_law_barred_here","_law_book","_law_free_rows","_law_due_here","_law_k","_law_chain","_law_both_ends"] ds) S)
section
variable{α β:Type}{ρ:Rho}{S S1 S2:Sto}{f g h:AX}{p q:Er}{d:MV}{r:R α}{z:R Er}{y:R Fl}
theorem ev_v{i:Nat}(e:ρ[i]? =some (some d)):vJ i ρ S=#[d,S,1]:=by unfold vJ;rw[e];rfl
def ev_b{f:Rho->Sto->R β}{F:β->Sto->R α}{a:β}(e:f ρ S=.ok a S1)(k:F a S1=r):bJ f F ρ S=r:=by unfold bJ;rw[e];exact k
def ev_d{F:Er->Er->Sto->R Er}(e:f ρ S=.ok p S1)(e2:g ρ S1=.ok q S2)(k:F p q S2=z):dJ F f g ρ S=z:=by unfold dJ;rw[e,gC,e2];exact k
def S7{c:AZ}{f g:Rho->Sto->R α}{k:Bool}(e:c ρ S=.ok k S1)(h:(if k=true then f ρ S1 else g ρ S1)=r):iJ c f g ρ S=r:=by unfold iJ;rw[e];exact h
def ev_f{n:Nat}{F:List MV->Sto->R Er}{a:Rho->Sto->R (List Er)}(e:a ρ S=.ok rs S1)(k:zK n F rs S1=z):fJ n F a ρ S=z:=by unfold fJ;rw[e];exact k
def ev_e{t:Er->Sto->Bool}{F:Er->List Er->Sto->R Er}{a:Rho->Sto->R (List Er)}(e:f ρ S=.ok p S1)(b:t p S1=true)(e2:a ρ S1=.ok rs S2)(k:F p rs S2=z):eJ t F f a ρ S=z:=by unfold eJ;rw[e,gC,iP b,e2];exact k
def ev_p{i:Rho->Sto->R Wk}{g:MV->Rho->Sto->R Rho}{c:AZ}{n:Nat}{I:Tk}{k:Wk}{o:X1}(e:i ρ S=.ok k S1)(a:k.ds.length<1000000)(e2:zT g c f (qG n I ρ) k.gs k.ds S1=.ok o S2)(h:#[o,S2,2]=z):pJ i g c f n I ρ S=z:=by unfold pJ;rw[e,gC,iP a,e2];exact h
theorem ev_q{f:AZ}{k:Bool}(e:f ρ S=.ok k S1):qJ f ρ S=.ok (!k) S1:=by unfold qJ;rw[e];rfl
theorem ev_y{g:Rho->Sto->R (List Er)}{l:List Er}(e:f ρ S=.ok p S1)(e2:g ρ S1=.ok l S2):yJ f g ρ S=.ok (p::l) S2:=by unfold yJ;rw[e,gC,e2];rfl
def ev_A(e:f ρ S=.ok p S1)(k:.ok (.ret p) S1=y):AJ f ρ S=y:=by unfold AJ;rw[e];exact k
def ev_B(e:f ρ S=.ok p S1)(k:#[ρ,S1,0]=y):BJ f ρ S=y:=by unfold BJ;rw[e];exact k
def ev_C{i:Nat}(e:f ρ S=.ok p S1)(k:EW ρ i p S1=y):CJ f i ρ S=y:=by unfold CJ;rw[e];exact k
def ev_F{i:Rho->Sto->R Wk}{g:MV->Rho->Sto->R Rho}{b:AY}{k:Wk}(e:i ρ S=.ok k S1)(h:gB g b k.gs k.ds ρ S1=y):FJ i g b ρ S=y:=by unfold FJ;rw[e];exact h
end
section
variable{a b:Int}{S:Sto}
def modA(h:0<b:=by first |decide|omega):qH #[a,5] #[b,5] S=.ok #[a % b,5] S:=mod_lit h a S
def mulA(h: -(2 ^ 64)<a/\a<2 ^ 64:=by decide):tH #[a,5] #[b,5] S=.ok #[a * b,5] S:=Gn h b S
def mulB(h:0<=b/\b<4294967296:=by first |exact mdl|decide|omega):tH #[a,5] #[b,5] S=.ok #[a * b,5] S:=WT ⟨by omega,by omega⟩ a S
end
local macro_rules
 | `(tactic|exists 7,$[$hs],*)=>`(tactic|first
  |(with_reducible first $[|exact $hs ..]*)
  |((with_reducible first |apply ev_v|apply ev_b|apply ev_d|apply ev_y|apply ev_f|apply ev_C|apply ev_A|apply S7|apply ite_t|apply ite_f|apply ev_F|apply ev_p|apply ev_e|apply ev_B|apply ev_r|apply ev_s|apply ev_q|apply ev_a|apply ev_o|apply ev_n|apply ev_t|apply ev_g|apply ev_E|apply ev_D)<;>exists 7,$[$hs],*)
  |(with_reducible first |exact eq_int .. |exact tup2 .. |exact tup3 .. |exact LO .. |exact Xq .. |exact Gs .. |exact O3 ..)
  |(with_reducible show qH _ _ _=_);exact modA
  |(with_reducible show divF _ _ _=_);exact divA
  |(with_reducible show tH _ _ _=_);(first |exact mulA|exact mulB)
  |(with_reducible show nA _ _=_);exact Gr (by omega)
  |(with_reducible show zT _ _ _ _ _ _ _=_);(first $[|exact $hs]*)
  |(with_reducible show gB _ _ _ _ _ _=_);(first $[|exact $hs]*)
  |(with_reducible first $[|exact of_eq_true $hs]* $[|refine ite_d $hs ?_]* $[|refine ite_n $hs ?_]* $[|refine(iP $hs).trans ?_]* $[|refine(iN $hs).trans ?_]*)<;>exists 7,$[$hs],*
  |exact rfl)
def eM{l:Nat}{ds:X1}{d:MV}(a:S[l]? =#[ds,2])(b:ds.length<1000000):fD #[l,1] [.val d] S=#[.non,S.set l (.lst (ds++[d])),1]:=by show BM #[l,1] S (λds=>if ds.length<sizeLine then some _ else none)=_;unfold BM;dsimp only;rw[a];dsimp only;rw[iP (é b (fits (à _)))]
theorem xA{l:Nat}{ds:X1}(a:S[l]? =#[ds,2]):wF #[l,1] S=true:=by unfold wF;rw[nE a];rfl
def get_set{l:Nat}{o o':MO}(h:S[l]? =some o):(S.set l o')[l]? =some o':=ă (gS.mp h).1
def cW{l:Nat}{o':MO}(h:l≠m):(S.set l o')[m]? =S[m]? :=õ h
def CD{l:Nat}{ds:X1}(a:S[l]? =#[ds,2]):lP [#[l,1]] S=.ok #[ds,6] S:=by show(match kI S _ with |some ds=>R.ok _ S|none=>.no)=_;rw[nE a]
theorem MM(ds:X1)(S:Sto):fC [#[ds,6]] S=.ok #[ds.length,5] S:=rfl
theorem XQ(gf:MV->Rho->Sto->R Rho)(ρ:Rho)(d:MV)(S:Sto):Ao gf ρ (.val d) S=(gf d ρ S).bind λa S2=>#[a,S2,0]:=rfl
def GK{a:Int}(h:0<=a/\a<4294967296)(b:Int)(S:Sto):tH #[b,5] #[a,5] S=.ok #[b * a,5] S:=
 WT ⟨Int.lt_of_lt_of_le (by decide) h.1,Int.lt_trans h.2 (by decide)⟩ b S
theorem iB(c k:Int)(e:0<=k/\k<100000)(S:Sto): ∃n,0<=n/\zK 2 zX [#[c,5],#[k,5]] S=.ok #[n,5] S:=by
 have hs:zN GA [.int c,.int k]=[#[c,0],#[k,0],none]:=rfl;have a:0<=k/\k<4294967296:=⟨e.1,by omega⟩
 have e1:eE [#[c,0],#[k,0],none] S=#[[#[c,0],#[k,0],#[(c % 2147483647+7919 * k * k+101 * k+11) % 2147483647,0]],S,0]:=by unfold eE;exists 7,mod_lit (show _<2147483647 by decide),GK a
 have b:0<=(c % 2147483647+7919 * k * k+101 * k+11) % 2147483647:=eN _ (by decide);have h1:(c % 2147483647+7919 * k * k+101 * k+11) % 2147483647<2147483647:=eL _ (by decide);generalize (c % 2147483647+7919 * k * k+101 * k+11) % 2147483647=m at b h1 e1;have e2:eF [#[c,0],#[k,0],#[m,0]] S=#[[#[c,0],#[k,0],#[(m * m+48271 * m+13) % 2147483647,0]],S,0]:=by unfold eF;exists 7,mod_lit (show _<2147483647 by decide),GK ⟨b,by omega⟩
 have d:0<=(m * m+48271 * m+13) % 2147483647:=eN _ (by decide);have i:(m * m+48271 * m+13) % 2147483647<2147483647:=eL _ (by decide);generalize (m * m+48271 * m+13) % 2147483647=p at d i e2;have h:eG [#[c,0],#[k,0],#[p,0]] S=.ok (.ret #[(p * p+69621 * p+7) % 2147483629,5]) S:=by unfold eG;exists 7,mod_lit (show _<2147483629 by decide),GK ⟨d,by omega⟩
 refine⟨(p * p+69621 * p+7) % 2147483629,eN _ (by decide),eQ rfl ?_ (bE _ _) (λl=>by simp)⟩;show zX [.int c,.int k] S=_;unfold zX uU;rw[hs,zG e1,zG e2,h];rfl
mutual
def pd:MV->Bool
 |.int _=>true
 |.str _=>true
 |.tup ds=>UK ds
 |_=>false
def UK:List MV->Bool
 |[]=>true
 |d::ds=>pd d&&UK ds
end
mutual
def GL:MV->Nat
 |.tup ds=>AI ds+1
 |_=>0
def AI:List MV->Nat
 |[]=>0
 |d::ds=>max (GL d) (AI ds)
end
def MN(ds:X1):pd (.tup ds)=UK ds:=by rw[pd]
def XR:UK []=true:=by rw[UK]
def oB(d:MV)(ds:X1):UK (d::ds)=(pd d&&UK ds):=by rw[UK]
def ED(ds:X1):GL (.tup ds)=AI ds+1:=by rw[GL]
def oC(d:MV)(ds:X1):AI (d::ds)=max (GL d) (AI ds):=by rw[AI]
def GM:AI []=0:=by rw[AI]
def UL(i:Int):pd (.int i)=true:=by rw[pd]
def Yw(i:Tk):pd (.str i)=true:=by rw[pd]
def EE(i:Int):GL (.int i)=0:=by simp[GL]
def Qg(i:Tk):GL (.str i)=0:=by simp[GL]
theorem XS: ∀{ds:X1},(∀d∈ds,pd d=true)->UK ds=true
 |[],_=>XR
 |d::ds,h=>by rw[oB,h d mF0,XS λe a=>h e (mO _ a)];rfl
theorem MP: ∀{ds:X1},UK ds=true-> ∀d∈ds,pd d=true
 |[],_,d,h=>by simp at h
 |e::ds,hp,d,h=>by
  rw[oB,aE]at hp;rcases mC.mp h with rfl|h
  .exact hp.1
  .exact MP hp.2 d h
theorem XT: ∀{ds:X1}{n:Nat},(∀d∈ds,GL d<=n)->AI ds<=n
 |[],n,_=>by rw[GM];exact zero_le _
 |d::ds,n,h=>by
  rw[oC];have h1:=h d mF0;have b:=XT λe a=>h e (mO _ a)
  lia
theorem QO: ∀{ds:X1}, ∀d∈ds,GL d<=AI ds
 |[],d,h=>by simp at h
 |e::ds,d,h=>by
  rcases mC.mp h with rfl|h
  .exact Nat.le_max_left _ _
  .exact í (QO d h) (Nat.le_max_right _ _)
def QP{d:MV}(h:pd d=true):(∃i,d=.int i)\/(∃x,d=.str x)\/ ∃ds,d=.tup ds/\UK ds=true:=by
 cases d with
 |int i=>exact .inl ⟨i,rfl⟩
 |str x=>exact .inr (.inl ⟨x,rfl⟩)
 |tup ds=>exact .inr (.inr ⟨ds,rfl,by rw[<-MN];exact h⟩)
 |_=>rw[pd]at h<;>first |cases h|(intros;simp)
def dec_is{p:Prop}[Decidable p]{q:Prop}[Decidable q](h:p↔q):decide p=decide q:=by
 by_cases a:q
 .rw[dT0 a,dT0 (h.mpr a)]
 .rw[dF0 a,dF0 λz=>a (h.mp z)]
theorem AK{e:MV->MV->Option Bool}: ∀{ds es:X1},(∀d∈ds, ∀f∈es,e d f=some (decide (d=f)))-> ∃bs,DI e ds es=some bs/\(bs.all id&&ds.length==es.length)=decide (ds=es)
 |[],[],_=>⟨[],rfl,by simp⟩
 |[],_::_,_=>⟨[],rfl,by simp⟩
 |_::_,[],_=>⟨[],rfl,by simp⟩
 |d::ds,f::es,h=>by
  obtain⟨bs,h1,k⟩:=AK λa i b j=>h a (mO _ i) b (mO _ j);refine⟨decide (d=f)::bs,?_,?_⟩
  .unfold DI;rw[h d mF0 f mF0,h1];rfl
  .by_cases c:d=f
   .subst c;rw[List.all_cons,dT0 rfl];simp only[id,Ĺ,lC];rw[show(ds.length+1==es.length+1)=(ds.length==es.length) by simp,k];exact dec_is (by simp)
   .rw[dF0 c];rw[dF0 (λz=>c (List.cons.inj z).1)];rfl
theorem iC{S:Sto}: ∀(n:Nat){d e:MV},pd d=true->pd e=true->GL d<n->eqv S n d e=some (decide (d=e))
 |0,d,e,_,_,h=>by lia
 |n+1,d,e,hd,he,h=>by
  rcases QP hd with⟨i,rfl⟩|⟨x,rfl⟩|⟨ds,rfl,pds⟩<;>rcases QP he with⟨j,rfl⟩|⟨y,rfl⟩|⟨es,rfl,pes⟩
  .rw[vO];exact congrArg some (dec_is (by simp))
  .rw[Xo,dF0 (by simp)]
  .rw[dF0 (by simp)];rfl
  .rw[Xp,dF0 (by simp)]
  .rw[WS];exact congrArg some (dec_is (by simp))
  .rw[dF0 (by simp)];rfl
  .rw[dF0 (by simp)];rfl
  .rw[dF0 (by simp)];rfl
  .rw[ED]at h;obtain⟨bs,h1,m⟩:=AK λa c b k=>iC n (MP pds a c) (MP pes b k) (by have:=QO a c;lia);show((DI _ ds es).map λbs=>bs.all id&&ds.length==es.length)=_;rw[h1];show some (bs.all id&&ds.length==es.length)=_;rw[m];exact congrArg some (dec_is (by simp))
theorem XU{d e:MV}(b:pd d=true)(a:pd e=true)(h:GL d<40):uF (.val d) (.val e) S=#[.bl (decide (d=e)),S,1]:=TD (iC _ b a (by unfold zI;lia))
theorem AM{S:Sto}{d:MV}(a:pd d=true): ∀{ys:X1},(∀y∈ys,pd y=true/\GL y<40)->OZ S zI d ys=some (ys.map λy=>decide (y=d))
 |[],_=>rfl
 |y::ys,h=>by have h1:=h y mF0;unfold OZ;rw[iC zI h1.1 a (by unfold zI;exact h1.2),AM a λz b=>h z (mO _ b)];rfl
theorem Qh(a:Bool)(p:Er)(l:Nat)(S:Sto):SW a p #[l,1] S=qX a p #[l,1] S:=by
 unfold SW;split
 .rename_i h;cases h
 .rfl
def Qi{l:Nat}{d:MV}{ys:X1}(a:Bool)(e:S[l]? =#[ys,2])(i:pd d=true)(h: ∀y∈ys,pd y=true/\GL y<40):SW a (.val d) #[l,1] S=#[.bl (if a=true then !decide (d∈ys)else decide (d∈ys)),S,1]:=by
 have e1:itemsOf S #[l,1]=some ys:=by unfold itemsOf;exact nE e
 rw[Qh];unfold qX;rw[e1];dsimp only;rw[AM i h];dsimp only
 have c:(ys.map λy=>decide (y=d)).any id=decide (d∈ys):=by
  rw[Ĩ];by_cases b:d∈ys
  .rw[dT0 b,ù];exact⟨d,b,by simp⟩
  .rw[dF0 b];rw[þ];intro y j;simp only[Function.comp,id,î];rintro rfl;exact b j
 rw[c]
theorem uV{l:Nat}{ds:X1}(h:S[l]? =#[ds,2]):uF #[l,1] (.new []) S=#[.bl ds.isEmpty,S,1]:=by
 have a:IC S #[l,1]=some (.ls ds):=by show(kI S _).map Vw.ls=_;rw[nE h];rfl
 unfold uF vI;rw[a];cases ds<;>rfl
theorem Ci(ds:List α)(j:Nat):cN ds (some (j:Int)) none=ds.drop j:=by
 unfold cN;rw[HT.sIx_nat];by_cases h:j<=ds.length
 .rw[Nat.min_eq_left h,take_of_length_le (by rw[ĉ];exact à _)]
 .rw[Nat.min_eq_right #[],List.drop_of_length_le (à _),List.drop_of_length_le #[],List.take_nil]
def QQ{n:Nat}{F:List MV->Sto->R Er}{T:Sto}{r:Er}{ds:X1}{as:X1}{S2:Sto}(b:rs.length=n)(c:zP rs S=(as,S2))(e:F as S2=.ok r (S++T))(d:r=.new ds\/ ∃l,r=#[l,1]/\S.length<=l/\(S++T)[l]? =#[ds,2])(h:uE S.length ds):zK n F rs S=#[ds,S,2]:=by
 have a:F (zP rs S).1 (zP rs S).2=.ok r (S++T):=by rw[c];exact e
 rcases d with rfl|⟨l,rfl,h1,h2⟩
 .exact nB b a h
 .exact FD b a h1 h2 h
def rM{d:MV}(h:Vl d):pd d=true/\GL d=0:=by
 rcases h.cases with⟨i,rfl,_⟩|⟨x,rfl,_⟩
 .exact⟨UL i,EE i⟩
 .exact⟨Yw x,Qg x⟩
theorem adds{x y:Tk}(h:x.length+y.length<=1000)(S:Sto):jC (.val (.str x)) (.val (.str y)) S=#[.str (x++y),S,1]:=add_str (fits #[])
theorem Ig(S:Sto)(a b:MO):(S++[a,b])[S.length+1]? =some b:=by rw[ð #[],show S.length+1 - S.length=1 by lia];rfl
def tbl(p:Int×Int):MV:=.tup [.int p.1,.int p.2]
def zB(r:Nat×List MV):MV:=.tup [.int r.1,.tup r.2]
def qL(ts:Za)(r:Nat×List MV):Prop:= ∃p,ts[r.1]? =some p/\(r.2.length:Int)=p.1/\ ∀d∈r.2,Vl d
def SqM(S:Sto)(m:MV)(ds:X1):Prop:=m=.tup ds\/ ∃l,m=.loc l/\S[l]? =#[ds,2]
def SqM.ix{m:MV}{ds:X1}{i:Int}{d:MV}(h:SqM S m ds)(a:BA ds i=some d):yC (.val m) #[i,5] S=#[d,S,1]:=by
 rcases h with rfl|⟨l,rfl,hS⟩
 .exact ix_tup a
 .exact Gq hS a
def SqM.len{m:MV}{ds:X1}(h:SqM S m ds):fC [.val m] S=.ok #[ds.length,5] S:=by
 rcases h with rfl|⟨l,rfl,hS⟩
 .rfl
 .exact sE hS
def C6(ts:Za)(t:Nat):Int:=((ts[t]?).map (·.1)).getD 0
theorem UM{t:Nat}{p:Int×Int}(h:ts[t]? =some p):C6 ts t=p.1:=by unfold C6;rw[h];rfl
inductive Side where
 |isv (v:MV)|cell (k j:Nat)
def sIs:List Nat:=[105,115]
def S8:List Nat:=[99,101,108,108]
def tT:Side->MV
 |.isv v=>.tup [.str sIs,v]
 |.cell k j=>.tup [.str S8,.int k,.int j]
def Cj(ws:A0):Side->Prop
 |.isv v=>Vl v
 |.cell k j=> ∃w,ws[k]? =some w/\(j:Int)<w
def zA(t:Nat):MV:=.int (t:Nat)
def XX{b:Side}(h:Cj ws b)(n:Nat):lo n (tT b):=by
 cases b with
 |isv v=>exact wG (yY λe a=>by simp at a;rcases a with rfl|rfl;(exact qY _ _);exact Vl.lo h n)
 |cell k j=>exact wG (yY λe a=>by simp at a;rcases a with rfl|rfl|rfl<;>first |exact qY _ _|exact bE _ _)
structure Test where
 l:Side
 w:List Nat
 r:Side
def Ih:List (List Nat):=[[115,97,109,101],[117,110,108,105,107,101],[108,101,115,115]]
def testM(t:Test):MV:=.tup [tT t.l,.str t.w,tT t.r]
def Qj(ws:A0)(t:Test):Prop:=Cj ws t.l/\t.w∈Ih/\Cj ws t.r
def Qk{t:Test}(h:Qj ws t)(n:Nat):lo n (testM t):=wG (yY λe a=>by
 simp only[mC,nM,or_false]at a;rcases a with rfl|rfl|rfl
 .exact XX h.1 n
 .exact qY _ _
 .exact XX h.2.2 n)
inductive Rule where
 |never (t:Nat) (qs:List Test)|apart (t u:Nat) (qs:List Test)|tie (t:Nat) (cs:Tk) (u:Nat) (ds:Tk)
def rN:List Nat:=[110,101,118,101,114]
def CF:List Nat:=[97,112,97,114,116]
def QR:List Nat:=[116,105,101]
def zR:Rule->MV
 |.never t qs=>.tup [.str rN,.int (t:Nat),.tup (qs.map testM)]
 |.apart t u qs=>.tup [.str CF,.int (t:Nat),.int (u:Nat),.tup (qs.map testM)]
 |.tie t cs u ds=>.tup [.str QR,.int (t:Nat),.tup (cs.map zA),.int (u:Nat),.tup (ds.map zA)]
def nH(ts:Za):Rule->Prop
 |.never t qs=>t<ts.length/\1<=qs.length/\qs.length<=3/\ ∀q∈qs,Qj [C6 ts t] q
 |.apart _ _ _=>False
 |.tie t cs u ds=>t<ts.length/\u<ts.length/\1<=cs.length/\cs.length<=3/\ds.length=cs.length/\(∀c∈cs,(c:Int)<C6 ts t)/\ ∀d∈ds,(d:Int)<C6 ts u
def MQ{r:Rule}(h:nH ts r)(n:Nat):lo n (zR r):=by
 have b: ∀(cs:Tk),lo n (.tup (cs.map zA)):=λcs=>wG (yY λe a=>by obtain⟨c,_,rfl⟩:=mM.mp a;exact bE _ _)
 cases r with
 |never t qs=>
  refine wG (yY λe a=>?_);simp only[mC,nM,or_false]at a;rcases a with rfl|rfl|rfl
  .exact qY _ _
  .exact bE _ _
  .exact wG (yY λe a=>by obtain⟨q,d,rfl⟩:=mM.mp a;exact Qk (h.2.2.2 q d) n)
 |apart t u qs=>exact h.elim
 |tie t cs u ds=>
  refine wG (yY λe a=>?_);simp only[mC,nM,or_false]at a;rcases a with rfl|rfl|rfl|rfl|rfl
  .exact qY _ _
  .exact bE _ _
  .exact b cs
  .exact bE _ _
  .exact b ds
def Yx(a:MV)(S:Sto):yA [.val a] S=.ok #[[a],6] S:=fE (by simp)
def tup5(a b c d e:MV)(S:Sto):yA [.val a,.val b,.val c,.val d,.val e] S=.ok #[[a,b,c,d,e],6] S:=fE (by simp)
def iD(rs:X4):Side->MV
 |.isv v=>v
 |.cell k j=>((rs[k]?).bind λr=>r.2[j]?).getD .non
def Ck(ws:A0)(rs:X4):Prop:= ∀(k:Nat)(w:Int),ws[k]? =some w-> ∃r:Nat×List MV,rs[k]? =some r/\(r.2.length:Int)=w/\ ∀d∈r.2,Vl d
theorem sY{xs:List α}{k:Nat}{x:α}(h:xs[k]? =some x):BA xs (k:Int)=some x:=by have a:=(gS.mp h).1;unfold BA Sk;rw[iP #[],iP #[]];show xs[(k:Int).toNat]? =_;rw[Ġ,h]
theorem XY{rs:X4}(d:Ck ws rs){k j:Nat}(h:Cj ws (.cell k j)): ∃(r:Nat×List MV)(v:MV),rs[k]? =some r/\r.2[j]? =some v/\Vl v/\iD rs (.cell k j)=v:=by
 obtain⟨w,h1,i⟩:=h;obtain⟨r,b,e,c⟩:=d k w h1;have a:j<r.2.length:=by lia
 refine⟨r,_,b,gE a,c _ (ŀ a),?_⟩;show((rs[k]?).bind λr=>r.2[j]?).getD .non=_;rw[b];show(r.2[j]?).getD .non=_;rw[gE a];rfl
def GN{rs:X4}(c:Ck ws rs){a:Side}(h:Cj ws a):Vl (iD rs a):=by
 cases a with
 |isv v=>exact h
 |cell k j=>obtain⟨r,v,_,_,d,b⟩:=XY c h;rw[b];exact d
def Ii{d:MV}(h:Vl d)(l:Nat):d≠.loc l:=by rcases h.cases with⟨i,rfl,_⟩|⟨x,rfl,_⟩<;>simp
def Ql(x y:Tk)(S:Sto):uF (.val (.str x)) (.val (.str y)) S=#[.bl (decide (x=y)),S,1]:=TD (WS _ x y)
def eqV{a b:MV}(c:Vl a)(d:Vl b)(S:Sto):uF (.val a) (.val b) S=#[.bl (decide (a=b)),S,1]:=XU (rM c).1 (rM d).1 (by rw[(rM c).2];decide)
def neV{a b:MV}(c:Vl a)(d:Vl b)(S:Sto):OW (.val a) (.val b) S=#[.bl (!decide (a=b)),S,1]:=TF (iC _ (rM c).1 (rM d).1 (by rw[(rM c).2];exact Nat.succ_pos _))
theorem AN{rs:X4}(c:Ck ws rs){a:Side}(h:Cj ws a){m:MV}(e:SqM S m (rs.map zB)):zK 2 bP [.val (tT a),.val m] S=#[iD rs a,S,1]:=by
 have b:=GN c h;refine eQ rfl ?_ (b.lo _) (Ii b);show zS (aT [some _,some m] S)=_;unfold aT
 cases a with
 |isv v=>
  have e1:wH [some (tT (.isv v)),some m] S=.ok (.ret (.val v)) S:=by unfold wH;exists 7,ix_tup rfl,ix_tup rfl,Ql
  rw[gO e1];rfl
 |cell k j=>
  obtain⟨r,v,h1,n,o,i⟩:=XY c h;have e1:wH [some (tT (.cell k j)),some m] S=#[[some (tT (.cell k j)),some m],S,0]:=by unfold wH;exists 7,ix_tup rfl,Ql
  have d:BA _ _=some (zB r):=sY (by rw[ò,h1];rfl);have e2:bO [some (tT (.cell k j)),some m] S=.ok (.ret (.val v)) S:=by unfold bO;exists 7,show yC (.val (tT (.cell k j))) #[1,5] S=.ok _ S from ix_tup rfl,show yC (.val (tT (.cell k j))) #[2,5] S=.ok _ S from ix_tup rfl,e.ix d,show yC (.val (zB r)) #[1,5] S=.ok _ S from ix_tup rfl,ix_tup (sY n)
  rw[zG e1,e2,i];rfl
def ltV:MV->MV->Bool
 |.int i,.int j=>decide (i<j)
 |_,_=>false
def tU:List Nat:=[115,97,109,101]
def MS:List Nat:=[117,110,108,105,107,101]
def rO(rs:X4)(q:Test):Bool:=if q.w=tU then decide (iD rs q.l=iD rs q.r)else if q.w=MS then !decide (iD rs q.l=iD rs q.r)else ltV (iD rs q.l) (iD rs q.r)
def MT{n:Nat}{F:List MV->Sto->R Er}{T:Sto}{b:Bool}(c:rs.length=n)(a:F (zP rs S).1 (zP rs S).2=#[.bl b,S++T,1]):zK n F rs S=#[.bl b,S,1]:=xE c a (PC _ _) (λl=>by simp)
def iE{n:Nat}{F:List MV->Sto->R Er}{b:Bool}(c:rs.length=n)(a:F (zP rs S).1 (zP rs S).2=#[.bl b,S,1]):zK n F rs S=#[.bl b,S,1]:=eQ c a (PC _ _) (λl=>by simp)
def XZ{d:MV}(h:Vl d)(S:Sto):zK 1 fI [.val d] S=#[.bl (match d with |.int _=>true|_=>false),S,1]:=iE rfl (by
 rcases h.cases with⟨i,rfl,_⟩|⟨x,rfl,_⟩
 .show zS _=_;rfl
 .show zS _=_;rfl)
def Cm{rs:X4}(n:Ck ws rs){q:Test}(h:Qj ws q){m:MV}(p:SqM S m (rs.map zB)):zK 2 sK [.val m,.val (testM q)] S=#[.bl (rO rs q),S,1]:=iE rfl (by
 have c:=GN n h.1;have d:=GN n h.2.2;have z: ∀S,yC (.val (testM q)) #[0,5] S=.ok _ S:=λS=>ix_tup rfl;have s: ∀S,yC (.val (testM q)) #[1,5] S=.ok _ S:=λS=>ix_tup rfl;have u: ∀S,yC (.val (testM q)) #[2,5] S=.ok _ S:=λS=>ix_tup rfl;show zS (sI [some m,some _,none,none] S)=_;have e1:iS [some m,some (testM q),none,none] S=#[[some m,some (testM q),some (iD rs q.l),none],S,0]:=by unfold iS;simp? [z,AN n h.1 p]
 have e2:iT [some m,some (testM q),some (iD rs q.l),none] S=#[[some m,some (testM q),some (iD rs q.l),some (iD rs q.r)],S,0]:=by unfold iT;simp? [u,AN n h.2.2 p]
 unfold rO;generalize iD rs q.l=a at c e1 e2;generalize iD rs q.r=b at d e2;have e:iU [some m,some (testM q),some a,some b] S=if decide (q.w=tU)=true then .ok (.ret (.val (.bl (decide (a=b))))) S else #[[some m,some (testM q),some a,some b],S,0]:=by unfold iU;simp? [s,Ql,eqV c d];rfl
 have k:iV [some m,some (testM q),some a,some b] S=if decide (q.w=MS)=true then .ok (.ret (.val (.bl (!decide (a=b))))) S else #[[some m,some (testM q),some a,some b],S,0]:=by unfold iV;simp? [s,Ql,neV c d];rfl
 have v:iW [some m,some (testM q),some a,some b] S=.ok (.ret (.val (.bl (ltV a b)))) S:=by unfold iW;rcases c.cases with⟨i,rfl,_⟩|⟨x,rfl,_⟩<;>rcases d.cases with⟨j,rfl,_⟩|⟨y,rfl,_⟩<;>(simp? [XZ c,XZ d,Fc,lt_int];rfl)
 unfold sI;rw[zG e1,zG e2];by_cases h1:q.w=tU
 .rw[dT0 h1,iP rfl]at e;rw[gO e,iP h1];rfl
 .rw[dF0 h1,iN xF0]at e;rw[zG e,iN h1];by_cases o:q.w=MS
  .rw[dT0 o,iP rfl]at k;rw[gO k,iP o];rfl
  .rw[dF0 o,iN xF0]at k;rw[zG k,iN o,v];rfl)
theorem yV{α:Type}{f g:α->MV}{S:Sto}{gf:MV->Rho->Sto->R Rho}{cf:AZ}{ef:AX}{ρb:Rho}{gs:X4}(hs:stay gs S):
  ∀{ds:List α},(∀d∈ds, ∃ρ1,gf (f d) ρb S=.ok ρ1 S/\cf ρ1 S=.ok true S/\ef ρ1 S=#[g d,S,1])->zT gf cf ef ρb gs (ds.map f) S=.ok (ds.map g) S
 |[],_=>rfl
 |d::ds,st=>by obtain⟨ρ1,h1,c,b⟩:=st d mF0;have e:=yV hs λd a=>st d (mO _ a);rw[è];unfold zT;rw[h1,yM,gC,c,yM,gC,b,yM,gC];unfold kH;rw[gC,iP hs,e];rfl
theorem MU(f:α->Bool)(xs:List α)(S:Sto):SX [.new (xs.map λx=>.bl (f x))] S=#[.bl (xs.all f),S,1]:=by
 have h: ∀xs:List α,iO (xs.map λx=>.bl (f x))=some (xs.map f):=by
  intro xs
  induction xs with
  |nil=>rfl
  |cons x xs ih=>rw[è];unfold iO;rw[ih];rfl
 show(match (some _).bind iO with |some bs=>R.ok _ S|none=>.no)=_;rw[show(some _).bind iO=some _ from h xs];show R.ok _ S=_;rw[all_map];rfl
theorem dX(ds:X1)(S:Sto):WG #[ds,6] S=.ok ⟨ds,[]⟩ S:=rfl
theorem S9{rs:X4}(e:Ck ws rs){a:List Test}(i:a.length<=3)(h: ∀q∈a,Qj ws q)(S:Sto):zK 2 gF [.new (rs.map zB),#[a.map testM,6]] S=#[.bl (a.all (rO rs)),S,1]:=MT rfl (by
 show zS (cZ [#[S.length],#[a.map testM,3]] (S++[.lst (rs.map zB)]))=_;have c:SqM (S++[.lst (rs.map zB)]) (.loc S.length) (rs.map zB):=.inr ⟨_,rfl,by simp⟩;have b:zT (zY 0) bQ kM [none,#[S.length]] [] (a.map testM) _=.ok (a.map λq=>.bl (rO rs q)) (S++[.lst (rs.map zB)]):=yV (xM _) λq d=>⟨_,rfl,rfl,by unfold kM;exists 7,Cm e (h q d) c⟩
 unfold cZ nP;simp? [dX,show((a.map testM).length<1000000)=True from eq_true (by rw[lM];lia),show qG 1 [0] [#[S.length],#[a.map testM,3]]=[none,#[S.length]]from rfl,b,MU];rfl)
theorem ge_int(i j:Int)(S:Sto):M9 #[i,5] #[j,5] S=#[.bl (decide (j<=i)),S,1]:=rfl
abbrev H7(ts rw:MV)(a b c d e:X2):Rho:=[some ts,some rw,a,b,c,d,e]
def rs1{a:Nat×List MV}(h:qL ts a){t:Nat}(e:a.1=t):Ck [C6 ts t] [a]:=λk w b=>by
 obtain⟨p,h1,d,c⟩:=h
 match k,b with
 |0,b=>
  cases b;subst e;exact⟨a,rfl,by rw[UM h1];exact d,c⟩
abbrev ob(c:Str)(d:MV):MV:=.obj c ["parts"] [d]
theorem UN(a:Nat×List MV)(S:Sto):yC (.val (zB a)) #[0,5] S=.ok #[(a.1:Nat),5] S:=ix_tup rfl
theorem row1(a:Nat×List MV)(S:Sto):yC (.val (zB a)) #[1,5] S=.ok #[a.2,6] S:=ix_tup rfl
theorem fN(d:MV)(S:Sto):tP Dk "parts" (.val (ob "Never" d)) S=#[d,S,1]:=rfl
theorem fT(d:MV)(S:Sto):tP Dk "parts" (.val (ob "Tie" d)) S=#[d,S,1]:=rfl
abbrev Ij(m:Str)(n:Nat)(a:List (Str×(List MV->Sto->R Er)))(d:MV)(xs:List Er)(b:Bool)(S:Sto):Prop:=
 ∃F,QB m a (.val d)=some F/\zK n F (.val d::xs) S=#[.bl b,S,1]/\True
theorem UO{t:Nat}{b:List Test}(h:nH ts (.never t b)){a:Nat×List MV}(i:qL ts a)(S:Sto):Ij "bars" 2 dC (ob "Never" (zR (.never t b))) [.val (zB a)] (decide ((a.1:Int)=t)&&b.all (rO [a])) S:=by
 have m: ∀S,yC (.val (zR (.never t b))) #[0,5] S=#[.str rN,S,1]:=λS=>ix_tup rfl;have d: ∀S,yC (.val (zR (.never t b))) #[1,5] S=.ok #[(t:Nat),5] S:=λS=>ix_tup rfl;have k: ∀S,yC (.val (zR (.never t b))) #[2,5] S=.ok #[b.map testM,6] S:=λS=>ix_tup rfl;refine⟨oP,rfl,iE rfl ?_,trivial⟩
 .show zS (yZ [some (ob "Never" (zR (.never t b))),some (zB a)] S)=_;unfold yZ fP
  cases c:decide ((a.1:Int)=t)with
  |false=>simp? [UN,fN,d,c,Fc];rfl
  |true=>
   have e:a.1=t:=by have:=ì c;omega
   have j:zK 2 gF [.new [zB a],#[b.map testM,6]] S=#[.bl (b.all (rO [a])),S,1]:=S9 (rs:=[a]) (rs1 i e) h.2.2.1 h.2.2.2 S;simp? [UN,fN,d,c,Fc,k,j];rfl
def YA{x:Tk}{b:X1}{c:Str}(hs:QB "bars" dC (.val (ob c (.tup (.str x::b))))=some bF)(a:MV)(S:Sto):Ij "bars" 2 dC (ob c (.tup (.str x::b))) [.val a] false S:=by exact⟨bF,hs,iE rfl rfl,trivial⟩
def Ik{l:Nat}{xs ys:X1}(m:S[l]? =#[ys,2])(i: ∀d∈xs,Vl d)(o: ∀d∈ys,Vl d):uF (.new xs) #[l,1] S=#[.bl (decide (xs=ys)),S,1]:=by
 have k:IC S #[l,1]=some (.ls ys):=by show(kI S _).map Vw.ls=_;rw[nE m];rfl
 have e:vI S zI (.new xs) #[l,1]=some (decide (xs=ys)):=by
  unfold vI;rw[k,show IC S _=some _ from rfl];show So _ (.ls xs) (.ls ys)=_;obtain⟨bs,h1,n⟩:=AK λa h b j=>iC zI (rM (i a h)).1 (rM (o b j)).1 (by rw[(rM (i a h)).2];decide);rw[LI];by_cases c:xs.length=ys.length
  .rw[iP c,h1];show some _=_;rw[<-n,c];simp
  .rw[iN c,dF0 λz=>c (by rw[z])]
 unfold uF;rw[e]
def yH(a:Nat×List MV)(cs:Tk):List MV:=cs.map λc=>(a.2[c]?).getD .non
def YB{a:Nat×List MV}(b: ∀d∈a.2,Vl d){c:Nat}(h:c<a.2.length):BA a.2 (c:Int)=some ((a.2[c]?).getD .non)/\Vl ((a.2[c]?).getD .non):=by have e:=gE h;rw[e];exact⟨sY e,b _ (ŀ h)⟩
def GO{a:Nat×List MV}(e: ∀d∈a.2,Vl d){cs:Tk}(h: ∀c∈cs,c<a.2.length): ∀d∈yH a cs,Vl d:=λd i=>by obtain⟨c,b,rfl⟩:=mM.mp i;exact(YB e (h c b)).2
def UP{a:Nat×List MV}(j: ∀d∈a.2,Vl d){cs:Tk}(h: ∀c∈cs,c<a.2.length)(S:Sto){cf:AZ}{ef:AX}(e:cf=λ_ S=>.ok true S)(b: ∀(c:Nat),ef [some (zA c),some (zB a)] S=yC #[a.2,6] (.val (zA c)) S):zT (zY 0) cf ef [none,some (zB a)] [] (cs.map zA) S=.ok (yH a cs) S:=yV (xM S) λc i=>⟨[some _,some _],rfl,by rw[e],by rw[b];exact ix_tup (YB j (h c i)).1⟩
theorem YC{a:Nat×List MV}(b: ∀d∈a.2,Vl d){cs:Tk}(j:cs.length<=3)(h: ∀c∈cs,c<a.2.length)(S:Sto):zK 2 fO [.val (zB a),#[cs.map zA,6]] S=#[yH a cs,S,2]:=nB rfl (by
 show zS (oO [some _,some _] S)=_;have e:=UP b h S (cf:=fM) (ef:=bR) rfl λc=>by unfold bR;exists 7,row1
 unfold oO oN;simp? [dX,show((cs.map zA).length<1000000)=True from eq_true (by rw[lM];lia),show qG 1 [0] [some _,some _]=[none,some _]from rfl,e];rw[aN];rfl) (yY λd i=>(GO b h d i).lo _)
theorem xK{α:Type}{f:α->MV}{p:α->Bool}{S:Sto}{gf:MV->Rho->Sto->R Rho}{cf:AZ}{ef:AX}{ρb:Rho}{gs:X4}(hs:stay gs S):
  ∀{ds:List α},(∀d∈ds, ∃ρ1,gf (f d) ρb S=.ok ρ1 S/\cf ρ1 S=.ok (p d) S/\ef ρ1 S=#[f d,S,1])->zT gf cf ef ρb gs (ds.map f) S=.ok ((ds.filter p).map f) S
 |[],_=>rfl
 |d::ds,st=>by
  obtain⟨ρ1,h1,b,h⟩:=st d mF0;have e:=xK hs λd c=>st d (mO _ c);rw[è];unfold zT
  cases a:p d with
  |true=>
   rw[h1,yM,gC,b,yM,gC,a,h,yM,gC];unfold kH;rw[gC,iP hs,e,List.filter_cons_of_pos a];rfl
  |false=>
   rw[h1,yM,gC,b,yM,gC,a,iN xF0,iP hs,e,List.filter_cons_of_neg (by rw[a];exact xF0)]
section
variable{ts:Za}{t u:Nat}{cs ds:Tk}
theorem QS(h:nH ts (.tie t cs u ds)){a:Nat×List MV}(d:qL ts a):(a.1=t-> ∀c∈cs,c<a.2.length)/\(a.1=u-> ∀c∈ds,c<a.2.length):=by
 obtain⟨p,h1,i,_⟩:=d;refine⟨λe c b=>?_,λe c b=>?_⟩
 .have:=h.2.2.2.2.2.1 c b;rw[<-e,UM h1]at this
  lia
 .have:=h.2.2.2.2.2.2 c b;rw[<-e,UM h1]at this
  lia
def Ta(u:Nat)(ds:Tk)(a:X1)(o:Nat×List MV):Bool:=decide ((o.1:Int)=u)&&decide (yH o ds=a)
abbrev LkB(d a:MV)(c e:Nat)(b:Bool)(S:Sto):Prop:=
 ∃F,QB "lacks" gH (.val d)=some F/\(∃T,F [d,a,.loc c] S=#[.bl b,S++T,1])/\True
abbrev K5(d a:MV)(l:Nat)(x y:X2):Rho:=[some d,some a,#[l],x,y]
theorem Co(h:nH ts (.tie t cs u ds)){a:Nat×List MV}(C:qL ts a){os:X4}(M: ∀o∈os,qL ts o)(P:os.length<1000){b s:Nat}(e:S[b]? =#[os.map zB,2])(n:S[s]? =#[os.map zB,2]):
  LkB (ob "Tie" (zR (.tie t cs u ds))) (zB a) b s (decide ((a.1:Int)=t)&& !os.any (Ta u ds (yH a cs))) S:=by
 have X: ∀S,yC (.val (zR (.tie t cs u ds))) #[0,5] S=#[.str QR,S,1]:=λS=>ix_tup rfl;have I: ∀S,yC (.val (zR (.tie t cs u ds))) #[1,5] S=.ok #[(t:Nat),5] S:=λS=>ix_tup rfl;have N: ∀S,yC (.val (zR (.tie t cs u ds))) #[2,5] S=.ok #[cs.map zA,6] S:=λS=>ix_tup rfl;have L: ∀S,yC (.val (zR (.tie t cs u ds))) #[3,5] S=.ok #[(u:Nat),5] S:=λS=>ix_tup rfl;have Q: ∀S,yC (.val (zR (.tie t cs u ds))) #[4,5] S=.ok #[ds.map zA,6] S:=λS=>ix_tup rfl;have q: ∀{o:Nat×List MV},qL ts o-> ∀d∈o.2,Vl d:=λ⟨_,_,_,z⟩=>z;have H:cs.length<=3:=h.2.2.2.1;have E:ds.length<=3:=by have:=h.2.2.2.2.1;omega
 have F:b<S.length:=(gS.mp e).1;have G:s<S.length:=(gS.mp n).1
 cases A:decide ((a.1:Int)=t)with
 |false=>
  rw[Bool.false_and];refine⟨iY,rfl,⟨[],?_⟩,trivial⟩
  .rw[aN];show zS (yP (K5 (ob "Tie" (zR (.tie t cs u ds))) (zB a) b none none) S)=_;have e1:kD (K5 (ob "Tie" (zR (.tie t cs u ds))) (zB a) b none none) S=.ok (.ret (.val (.bl false))) S:=by unfold kD;simp? [UN,fT,I,ne_int,A];rfl
   unfold yP;rw[gO e1];rfl
 |true=>
  have O:a.1=t:=by have:=ì A;omega
  have i:=(QS h C).1 O;have k:=GO (q C) i;have K:(S++[MO.lst (yH a cs)])[b]? =#[os.map zB,2]:=by rw[ë F];exact e
  have g2:(S++[MO.lst (yH a cs)])[s]? =#[os.map zB,2]:=by rw[ë G];exact n
  have W:(S++[MO.lst (yH a cs)])[S.length]? =#[yH a cs,2]:=by simp
  rw[Ĺ];refine⟨iY,rfl,⟨[.lst (yH a cs)],?_⟩,trivial⟩
  .show zS (yP (K5 (ob "Tie" (zR (.tie t cs u ds))) (zB a) b none none) S)=_;have e1:kD (K5 (ob "Tie" (zR (.tie t cs u ds))) (zB a) b none none) S=#[K5 (ob "Tie" (zR (.tie t cs u ds))) (zB a) b none none,S,0]:=by unfold kD;simp? [UN,fT,I,ne_int,A];rfl
   have e2:dA (K5 (ob "Tie" (zR (.tie t cs u ds))) (zB a) b none none) S=#[K5 (ob "Tie" (zR (.tie t cs u ds))) (zB a) b #[S.length] none,S++[.lst (yH a cs)],0]:=by unfold dA;simp? [fT,N,YC (q C) H i]
   have j: ∀{o:Nat×List MV},qL ts o->gG (K5 (ob "Tie" (zR (.tie t cs u ds))) (zB a) b #[S.length] (some (zB o))) (S++[.lst (yH a cs)])=if Ta u ds (yH a cs) o=true then .ok (.ret (.val (.bl false))) (S++[.lst (yH a cs)])else #[K5 (ob "Tie" (zR (.tie t cs u ds))) (zB a) b #[S.length] (some (zB o)),S++[.lst (yH a cs)],0]:=λ{o} B=>by
    unfold gG nQ Ta
    cases h1:decide ((o.1:Int)=u)with
    |false=>simp? [UN,fT,L,h1];rfl
    |true=>
     have T:o.1=u:=by have:=ì h1;omega
     have m:=(QS h B).2 T;simp? [UN,fT,L,h1,Q,YC (q B) E m,Ik W (GO (q B) m) k];cases decide (yH o ds=yH a cs)<;>rfl
   have p: ∀(l:X4)(y:X2),(∀o∈l,qL ts o)-> ∃ρ,gB (zY 4) gG [(b,os.map zB)] (l.map zB) (K5 (ob "Tie" (zR (.tie t cs u ds))) (zB a) b #[S.length] y) (S++[.lst (yH a cs)])=if l.any (Ta u ds (yH a cs))=true then .ok (.ret (.val (.bl false))) (S++[.lst (yH a cs)])else #[ρ,S++[.lst (yH a cs)],0]:=by
    intro l
    induction l with
    |nil=>exact λy _=>⟨_,rfl⟩
    |cons o l ih=>
     intro y v;have r:=j (v o mF0)
     cases c:Ta u ds (yH a cs) o with
     |true=>
      rw[c,iP rfl]at r;refine⟨[],?_⟩;rw[è,WU rfl r,ĺ,c,Bool.true_or,iP rfl]
     |false=>
      rw[c,iN xF0]at r;obtain⟨ρ,D⟩:=ih (some (zB o)) λz U=>v z (mO _ U);refine⟨ρ,?_⟩;rw[è,jE rfl r (yN K),D,ĺ,c,Bool.false_or]
   obtain⟨ρ,v⟩:=p os none M;have w:dB (K5 (ob "Tie" (zR (.tie t cs u ds))) (zB a) b #[S.length] none) (S++[.lst (yH a cs)])=if os.any (Ta u ds (yH a cs))=true then .ok (.ret (.val (.bl false))) (S++[.lst (yH a cs)])else #[ρ,S++[.lst (yH a cs)],0]:=by unfold dB;simp? [kL K];exact v
   unfold yP;rw[zG e1,zG e2]
   cases J:os.any (Ta u ds (yH a cs))with
   |true=>rw[J,iP rfl]at w;rw[gO w];rfl
   |false=>rw[J,iN xF0]at w;rw[zG w];rfl
end
def QT{x:Tk}{b:X1}{c:Str}(hs:QB "lacks" gH (.val (ob c (.tup (.str x::b))))=some jQ)(a:MV)(d e:Nat)(S:Sto):
  LkB (ob c (.tup (.str x::b))) a d e false S:=by
 exact⟨jQ,hs,⟨[],by rw[aN];rfl⟩,trivial⟩
theorem Qm(a:A0)(k:Int)(o:0<=k)(S:Sto): ∃c,zK 2 yQ [.val (.scr (a.map MV.int)),#[k,5]] S=.ok #[c,5] S:=by
 have j:fC [.val (.scr (a.map MV.int))] S=.ok #[a.length,5] S:=by show R.ok _ S=_;rw[lM]
 have e1:jV [some (.scr (a.map MV.int)),#[k,0]] S=if decide (k<a.length)=true then(yC (.val (.scr (a.map MV.int))) #[k,5] S).bind λr S1=>.ok (.ret r) S1 else #[[some (.scr (a.map MV.int)),#[k,0]],S,0]:=by unfold jV;exists 7,j,lt_int
 have i: ∀c,yQ [.scr (a.map MV.int),.int k] S=.ok _ S-> ∃c,zK 2 yQ [.val _,.val _] S=#[_,S,1]:=λc h=>⟨c,eQ rfl h (bE _ _) (λl=>by simp)⟩
 have hs:zN ["_law_script","_law_k"] [.scr (a.map MV.int),.int k]=[some _,some _]:=rfl;by_cases b:k<a.length
 .obtain⟨d,n⟩:=On (xs:=a.map MV.int) o (by rw[lM];exact b);obtain⟨c,rfl⟩: ∃c,d=.int c:=Oo (P:=λd=> ∃c,d=.int c) (λe p=>by obtain⟨c,_,rfl⟩:=mM.mp p;exact⟨c,rfl⟩) n;have m:yC (.val (.scr (a.map MV.int))) #[k,5] S=.ok #[c,5] S:=by show(match BA _ k with |some d=>R.ok (Er.val d) S|none=>.no)=_;rw[n]
  refine i c ?_;rw[dT0 b,iP rfl,m,gC]at e1;unfold yQ cB;rw[hs,gO e1];rfl
 .refine i 0 ?_;rw[dF0 b,iN xF0]at e1;unfold yQ cB;rw[hs,zG e1];rfl
def T1:Rule->Str
 |.never _ _=>"Never"
 |.apart _ _ _=>"Apart"
 |.tie _ _ _ _=>"Tie"
def Tb{c:Str}{d:MV}{n:Nat}(h:lo n d):lo n (ob c d):=by exact yY λe a=>by rw[mS.mp a];exact h
theorem made{r:Rule}(h:nH ts r)(S:Sto):zK 1 sM [.val (zR r)] S=#[ob (T1 r) (zR r),S,1]:=by
 refine eQ rfl ?_ (Tb (MQ h _)) (λl=>by simp)
 .show zS (eS [some _] S)=_
  cases r with
  |never t qs=>
   have a: ∀S,yC (.val (zR (.never t qs))) #[0,5] S=.ok _ S:=λS=>ix_tup rfl;have e1:wL [some (zR (.never t qs))] S=.ok (.ret (.val (ob "Never" (zR (.never t qs))))) S:=by unfold wL;exists 7,a,Ql
   unfold eS;rw[gO e1];rfl
  |apart t u qs=>
   have a: ∀S,yC (.val (zR (.apart t u qs))) #[0,5] S=.ok _ S:=λS=>ix_tup rfl;have e1:wL [some (zR (.apart t u qs))] S=#[[some (zR (.apart t u qs))],S,0]:=by unfold wL;exists 7,a,Ql
   have e2:bI [some (zR (.apart t u qs))] S=.ok (.ret (.val (ob "Apart" (zR (.apart t u qs))))) S:=by unfold bI;exists 7,a,Ql
   unfold eS;rw[zG e1,gO e2];rfl
  |tie t cs u ds=>
   have a: ∀S,yC (.val (zR (.tie t cs u ds))) #[0,5] S=.ok _ S:=λS=>ix_tup rfl;have e1:wL [some (zR (.tie t cs u ds))] S=#[[some (zR (.tie t cs u ds))],S,0]:=by unfold wL;exists 7,a,Ql
   have e2:bI [some (zR (.tie t cs u ds))] S=#[[some (zR (.tie t cs u ds))],S,0]:=by unfold bI;exists 7,a,Ql
   unfold eS;rw[zG e1,zG e2];rfl
theorem Il(ds:X1)(S:Sto):PB [#[ds,6]] S=#[ds,S,2]:=rfl
theorem YD(ds:X1)(a b:P0)(S:Sto):SV #[ds,6] a b S=.ok #[cN ds a b,6] S:=rfl
abbrev Row:=Nat×List MV
def lK:Rule->Row->Bool
 |.never t qs,a=>decide ((a.1:Int)=t)&&qs.all (rO [a])
 |_,_=>false
def KB:Rule->Row->Bool
 |.tie t _ _ _,a=>decide ((a.1:Int)=t)
 |_,_=>false
def KC:Rule->Row->Row->Bool
 |.tie _ cs u ds,a,o=>Ta u ds (yH a cs) o
 |_,_,_=>false
def yR(r:Rule)(a:Row)(os:List Row):Bool:=KB r a&& !os.any (KC r a)
abbrev bL(r:Rule):MV:=ob (T1 r) (zR r)
def YE{r:Rule}(h:nH ts r){a:Row}(b:qL ts a)(S:Sto):Ij "bars" 2 dC (bL r) [.val (zB a)] (lK r a) S:=by
 cases r with
 |never t qs=>exact UO h b S
 |apart t u qs=>exact YA (x:=CF) rfl (zB a) S
 |tie t cs u ds=>exact YA (x:=QR) rfl (zB a) S
def QU{r:Rule}(h:nH ts r){a:Row}(j:qL ts a){os:List Row}(k: ∀o∈os,qL ts o)(i:os.length<1000){b c:Nat}(e:S[b]? =#[os.map zB,2])(d:S[c]? =#[os.map zB,2]):
  LkB (bL r) (zB a) b c (yR r a os) S:=by
 cases r with
 |never t qs=>exact QT (x:=rN) rfl (zB a) b c S
 |apart t u qs=>exact QT (x:=CF) rfl (zB a) b c S
 |tie t cs u ds=>exact Co h j k i e d
abbrev kd(K:Tk):List (MV×MV):=K.map λi=>(zA i,MV.bl true)
theorem YF(k:Nat)(K:Tk):kd (k::K)=(zA k,.bl true)::kd K:=rfl
def Yy(A B:Tk):kd (A++B)=kd A++kd B:=ý
theorem Qn(K:Tk):(kd K).map (·.1)=K.map zA:=by rw[ï];rfl
theorem ky(i:Nat):tI (zA i)=true:=rfl
def pP{a b:Nat}(h:zA a=zA b):a=b:=by
 unfold zA at h;injection h with h
 omega
theorem kd_all(K:Tk):(kd K).all (λp=>tI p.1)=true:=by rw[ó];intro p a;obtain⟨i,_,rfl⟩:=mM.mp a;rfl
def YG{l:Nat}{K:Tk}(h:S[l]? =#[kd K,7]):uH S #[l,1]=some (l,kd K):=by unfold uH;dsimp only;rw[h];exact iP (kd_all K)
theorem MW: ∀(K:Tk)(i:Nat),look (kd K) (zA i)=if i∈K then some (.bl true)else none
 |[],i=>by rw[iN (by simp)];rfl
 |k::K,i=>by
  rw[YF,sG];by_cases h:k=i
  .subst h;rw[iP rfl,iP (by simp)]
  .rw[iN (λz=>h (pP z)),MW K i];by_cases a:i∈K
   .rw[iP a,iP (mO _ a)]
   .rw[iN a,iN (λz=>(mC.mp z).elim (λe=>h e.symm) a)]
theorem QV(K:Tk)(i:Nat):(look (kd K) (zA i)).isSome=decide (i∈K):=by
 rw[MW];by_cases h:i∈K
 .rw[iP h,dT0 h];rfl
 .rw[iN h,dF0 h];rfl
def YH{l:Nat}{K:Tk}(h:S[l]? =#[kd K,7])(a:Bool)(i:Nat):FR a (.val (zA i)) #[l,1] S=#[.bl (if a=true then !decide (i∈K)else decide (i∈K)),S,1]:=by unfold FR;rw[YG h];show(if tI _=true then _ else _)=_;rw[iP (ky i),QV]
theorem Yz(K:Tk)(i:Nat):putK (kd K) (zA i) (.bl true)=kd (if i∈K then K else K++[i]):=by
 unfold putK;rw[QV];by_cases h:i∈K
 .rw[dT0 h,iP h];show _=_;rw[ï];refine map_congr_left λk _=>?_;show(if zA k=zA i then _ else _)=_;split<;>rfl
 .rw[dF0 h,iN h,Yy];rfl
def Zb(K:Tk)(i:Nat):Ht (kd K) (zA i)=kd (K.filter λk=>!decide (k=i)):=by
 unfold Ht;show _=_;rw[List.filter_map];congr 1;refine filter_congr λk _=>?_;show(!decide _)=_;by_cases h:k=i
 .subst h;rw[dT0 rfl,dT0 rfl]
 .rw[dF0 h,dF0 λz=>h (pP z)]
def set_same{l:Nat}{o:MO}(h:S[l]? =some o):S.set l o=S:=by obtain⟨a,rfl⟩:=gS.mp h;exact List.set_getElem_self a
def Zc{l:Nat}{K:Tk}(h:S[l]? =#[kd K,7])(i:Nat): ∃d,JT #[l,1] [.val (zA i),.val .non] S=#[d,S.set l (.dic (kd (K.filter λk=>!decide (k=i)))),1]:=by
 unfold JT;rw[YG h];show∃d,(if tI _=true then _ else _)=_;rw[MW,Zb];by_cases hi:i∈K
 .rw[iP hi];exact⟨_,rfl⟩
 .rw[iN hi];have e:(K.filter λk=>!decide _)=K:=filter_eq_self.mpr λk a=>by rw[dF0 (show¬k=i from λz=>hi (z▸a))];rfl
  rw[e,set_same h];exact⟨_,rfl⟩
theorem Qo{l:Nat}{K:Tk}(h:S[l]? =#[kd K,7]):FT #[l,1] S=true:=by unfold FT;rw[YG h];rfl
theorem QW: ∀(K:Tk),oM (K.map λi=>.tup [zA i,.bl true])=some (kd K)
 |[]=>rfl
 |k::K=>by rw[è];unfold oM;rw[QW K];rfl
theorem YI: ∀(K A:Tk),(A++K).Nodup->(kd K).foldl (λa p=>putK a p.1 p.2) (kd A)=kd (A++K)
 |[],A,_=>by rw[aN];rfl
 |k::K,A,h=>by
  rw[YF,ę];show(kd K).foldl _ _=_;have c:=λb=>by have:=(ħ.mp h).2.2 k b k mF0;exact this rfl
  rw[Yz,iN c,YI K _ (by rw[aA];exact h),aA];rfl
theorem Zd{K:Tk}(h:K.Nodup)(S:Sto):XH [.new (K.map λi=>.tup [zA i,.bl true])] S=.ok #[S.length,1] (S++[.dic (kd K)]):=by show(match (kI S _).bind oM with |some kvs=>R.ok _ _|none=>.no)=_;rw[show(kI S (.new _)).bind oM=some _ from QW K];show R.ok _ _=_;unfold Sz;rw[show((kd K).foldl (λa p=>putK a p.1 p.2) [])=kd _ from YI K [] (by simpa using h)];rfl
def Ze{l:Nat}{K:Tk}(h:S[l]? =#[kd K,7]):JV [#[l,1]] S=.ok #[K.map zA,6] S:=by unfold JV;dsimp only;rw[YG h];show R.ok _ S=_;rw[Qn]
theorem AO: ∀(K:Tk),intsOf (K.map zA)=some (K.map Int.ofNat)
 |[]=>rfl
 |k::K=>by show(intsOf _).map _=_;rw[AO K];rfl
def zD(ts:Za)(rls:List Rule)(rs:List Row):MV:=.tup [.tup (ts.map tbl),.tup (rls.map zR),.tup (rs.map zB)]
def Im{rls:List Rule}(h: ∀r∈rls,nH ts r)(n:Nat):lo n (.tup (rls.map zR)):=wG (yY λd b=>by obtain⟨r,a,rfl⟩:=mM.mp b;exact MQ (h r a) _)
theorem CG(ds:X1)(S:Sto):lP [.new ds] S=.ok #[ds,6] S:=rfl
def tup3(a b c:MV)(S:Sto):yA [.val a,.val b,.val c] S=.ok #[[a,b,c],6] S:=fE (by simp)
theorem GP{α:Type}{f:α->MV}{p:α->Bool}{gf:MV->Rho->Sto->R Rho}{body:AY}{gs:X4}{S:Sto}{r:Er}(I:Rho->Prop)(hs:stay gs S):
  ∀{ds:List α},(∀d∈ds, ∀ρ,I ρ-> ∃c,gf (f d) ρ S=.ok c S/\(p d=true->body c S=.ok (.ret r) S)/\(p d=false-> ∃a,I a/\body c S=#[a,S,0]))-> ∀ρ,I ρ->
   (ds.any p=true->gB gf body gs (ds.map f) ρ S=.ok (.ret r) S)/\(ds.any p=false-> ∃a,I a/\gB gf body gs (ds.map f) ρ S=#[a,S,0])
 |[],_,ρ,h=>⟨(λz=>nomatch z),λ_=>⟨ρ,h,rfl⟩⟩
 |d::ds,st,ρ,h=>by
  obtain⟨c,g,y,n⟩:=st d mF0 ρ h;rw[ĺ,è]
  cases e:p d with
  |true=>exact⟨λ_=>WU g (y e),λz=>nomatch z⟩
  |false=>
   obtain⟨a,h',b⟩:=n e;rw[jE g b hs];exact GP I hs (λd i=>st d (mO _ i)) a h'
section
variable{ts:Za}{rls:List Rule}{rs:List Row}
def yI(rs:List Row)(i:Nat):Row:=(rs[i]?).getD (0,[])
def lL{i:Nat}(h:i<rs.length):yI rs i∈rs:=by unfold yI;rw[gE h];exact ŀ h
def GQ{i:Nat}(h:i<rs.length)(S:Sto):yC #[rs.map zB,6] (.val (zA i)) S=#[zB (yI rs i),S,1]:=ix_tup (sY (by unfold yI;rw[ò,gE h];rfl))
theorem book1(S:Sto):yC (.val (zD ts rls rs)) #[1,5] S=.ok #[rls.map zR,6] S:=ix_tup rfl
theorem AQ(S:Sto):yC (.val (zD ts rls rs)) #[2,5] S=.ok #[rs.map zB,6] S:=ix_tup rfl
def Qp(rls:List Rule)(rs:List Row)(a:Tk):Bool:=a.any λi=>rls.any λr=>lK r (yI rs i) || yR r (yI rs i) (a.map (yI rs))
end
theorem sZ(h: ∀(m:Nat)(o:MO),S[m]? =some o->S'[m]? =some o):S.length<=S'.length:=by
 by_cases z:S.length=0
 .lia
 .have a:S.length - 1<S.length:=by lia
  have:=(gS.mp (h _ _ (gE a))).1
  lia
def YJ(h: ∀(m:Nat)(o:MO),S[m]? =some o->S'[m]? =some o):WJ S S':=⟨sZ h,λl a=>.inl (by rw[h l _ (gE a),gE a])⟩
def Io(h: ∀(m:Nat)(o:MO),S[m]? =some o->S'[m]? =some o): ∀(m:Nat)(o:MO),S[m]? =some o->(S'.take S.length)[m]? =some o:=λm o a=>by rw[Ĵ (gS.mp a).1];exact h m o a
abbrev Old(S S':Sto):Prop:= ∀(m:Nat)(o:MO),S[m]? =some o->S'[m]? =some o
def Old.app(S T:Sto):Old S (S++T):=λm o h=>by rw[ë (gS.mp h).1];exact h
theorem Old.set(h:Old S S'){l:Nat}(b:S.length<=l)(o:MO):Old S (S'.set l o):=λm u a=>by have:=(gS.mp a).1;rw[õ #[]];exact h m u a
def Old.trans{a:Sto}(h:Old S S')(h':Old S' a):Old S a:=λm o e=>h' m o (h m o e)
theorem Old.is(h:Old S S'): ∃T,S'=S++T:=by
 refine⟨S'.drop S.length,?_⟩
 have e:S'.take S.length=S:=by
  apply Ł;intro m;by_cases a:m<S.length
  .rw[Ĵ a,h m _ (gE a),gE a]
  .rw[ą (by rw[lT];lia),ą #[]]
 conv=>lhs;rw[<-List.take_append_drop S.length S',e]
inductive TsAt(S:Sto):List MV->List (Nat×List Nat)->Prop
 |nil:TsAt S [] []
 |cons {p i:Nat} {srv:Tk} {ms:X1} {tk:List (Nat×List Nat)}:S[p]? =#[srv.map zA,2]->srv.length<=100->TsAt S ms tk->TsAt S (.tup [zA i,.loc p]::ms) ((i,srv)::tk)
def TsAt.mono(h:TsAt S ms tk)(o: ∀(m:Nat)(ds:X1),S[m]? =#[ds,2]->(∃i,MV.tup [i,.loc m]∈ms)->S'[m]? =#[ds,2]):TsAt S' ms tk:=by
 induction h with
 |nil=>exact .nil
 |@cons p i srv ms tk h1 h2 _ ih=>exact .cons (o _ _ h1 ⟨_,mF0⟩) h2 (ih λm ds e ⟨j,a⟩=>o m ds e ⟨j,mO _ a⟩)
def TsAt.snoc(h:TsAt S ms tk){p i:Nat}{a:Tk}(b:S[p]? =#[a.map zA,2])(c:a.length<=100):TsAt S (ms++[.tup [zA i,.loc p]]) (tk++[(i,a)]):=by
 induction h with
 |nil=>exact .cons b c .nil
 |cons h1 h2 _ ih=>exact .cons h1 h2 ih
def TsAt.length(h:TsAt S ms tk):ms.length=tk.length:=by
 induction h with
 |nil=>rfl
 |cons _ _ _ ih=>rw[lC,lC,ih]
def TsAt.shape(h:TsAt S ms tk): ∀d∈ms, ∃i p,d=.tup [zA i,.loc p]:=by
 induction h with
 |nil=>intro d a;cases a
 |@cons p i srv ms tk h1 h2 _ ih=>intro d a;rcases mC.mp a with e|e;(· exact⟨i,p,e⟩);(· exact ih d e)
theorem oE{α β:Type}{f:α->MV}{gf:MV->Rho->Sto->R Rho}{body:AY}{gs:X4}(J:Nat->β->Rho->Sto->Prop)(step:β->α->β):
  ∀{ds:List α}(k:Nat),(∀j d,ds[j]? =some d-> ∀b ρ S,J (k+j) b ρ S-> ∃a S',((gf (f d) ρ S).bind λe S0=>body e S0)=#[a,S',0]/\stay gs S'/\J (k+j+1) (step b d) a S')-> ∀b ρ S,J k b ρ S->
   ∃a S',gB gf body gs (ds.map f) ρ S=#[a,S',0]/\J (k+ds.length) (ds.foldl step b) a S'
 |[],k,_,b,ρ,S,h=>⟨ρ,S,rfl,h⟩
 |d::ds,k,st,b,ρ,S,h=>by
  obtain⟨ρ1,S1,e1,q,r⟩:=st 0 d rfl b ρ S h;obtain⟨i,S2,e2,n⟩:=oE J step _ (λj o p b ρ S m=>by have:=st (j+1) o p b ρ S (by rw[show k+_=k+1+j by lia];exact m);rw[show k+_=k+1+j by lia]at this;exact this) _ ρ1 S1 r;refine⟨i,S2,?_,by rw[lC,show k+_=k+1+ds.length by lia];exact n⟩;rw[è]
  cases z:gf (f d) ρ S with
  |ok e S0=>
   rw[z,gC]at e1;rw[jE z e1 q,e2]
  |exc c fs S0=>rw[z]at e1;cases e1
  |no=>rw[z]at e1;cases e1
section
variable{ts:Za}{rls:List Rule}{rs:List Row}
def Zf(h: ∀r∈rls,nH ts r)(n:Nat):uE n (rls.map bL):=yY λd b=>by obtain⟨r,a,rfl⟩:=mM.mp b;exact Tb (MQ (h r a) _)
def EF(h: ∀r∈rls,nH ts r)(c:rls.length<=100)(S:Sto):zK 1 xH [.val (zD ts rls rs)] S=#[rls.map bL,S,2]:=nB rfl (by
 show zS (oQ [some _] S)=_;have b:zT (zY 0) fR bS [none] [] _ S=.ok (rls.map bL) S:=yV (xM _) λr a=>⟨[some (zR r)],rfl,rfl,by unfold bS;simp? [made (h r a)]⟩
 have e1:aU [some (zD ts rls rs)] S=.ok (.ret (.new (rls.map bL))) S:=by unfold aU;exists 7,book1,dX,show((rls.map zR).length<1000000)=True from eq_true (by rw[lM];omega),b
 unfold oQ;rw[e1,aN];rfl) (Zf h _)
theorem Cp:IH (rs.map zB)=(List.range rs.length).map λi=>.tup [zA i,zB (yI rs i)]:=by
 unfold IH;apply Ł;intro m;by_cases a:m<rs.length
 .simp only[ò,List.getElem?_zipIdx,ł a,Option.map_some,Ħ];unfold yI;rw[gE a];rfl
 .rw[ą (by rw[lM,length_zipIdx,lM];lia),ą (by rw[lM,æ];lia)]
def Ip(b: ∀r∈rls,nH ts r){r:Rule}(c:r∈rls){a:Row}(d:qL ts a){os:List Row}(e: ∀o∈os,qL ts o)(i:os.length<1000)(S:Sto):
  ∃F,QB "lacks" gH (.val (bL r))=some F/\zK 3 F [.val (bL r),.val (zB a),.new (os.map zB)] S=#[.bl (yR r a os),S,1]:=by
 have g:(S++[MO.lst (os.map zB)])[S.length]? =#[os.map zB,2]:=by simp
 obtain⟨F,h1,⟨T,h⟩,_⟩:=QU (b r c) d e i g g;exact⟨F,h1,MT rfl (by show F [bL r,zB a,.loc S.length] (S++[.lst _])=_;rw[h,aA])⟩
def IO(rs:List Row)(r:Rule)(i:Nat):List Nat:=(List.range rs.length).filter λj=>!yR r (yI rs i) [yI rs j]
def MX(rs:List Row)(r:Rule)(i:Nat):List (Nat×List Nat):=if yR r (yI rs i) []=true then [(i,IO rs r i)]else []
end
theorem iG{α:Type}{f g:α->MV}{p:α->Bool}{S:Sto}{gf:MV->Rho->Sto->R Rho}{cf:AZ}{ef:AX}{ρb:Rho}{gs:X4}(hs:stay gs S):
  ∀{ds:List α},(∀d∈ds, ∃ρ1,gf (f d) ρb S=.ok ρ1 S/\cf ρ1 S=.ok (p d) S/\ef ρ1 S=#[g d,S,1])->zT gf cf ef ρb gs (ds.map f) S=.ok ((ds.filter p).map g) S
 |[],_=>rfl
 |d::ds,st=>by
  obtain⟨ρ1,h1,b,h⟩:=st d mF0;have e:=iG hs λd c=>st d (mO _ c);rw[è];unfold zT
  cases a:p d with
  |true=>
   rw[h1,yM,gC,b,yM,gC,a,h,yM,gC];unfold kH;rw[gC,iP hs,e,List.filter_cons_of_pos a];rfl
  |false=>
   rw[h1,yM,gC,b,yM,gC,a,iN xF0,iP hs,e,List.filter_cons_of_neg (by rw[a];exact xF0)]
section
variable{ts:Za}{rls:List Rule}{rs:List Row}
structure TI(S0:Sto)(tk:List (Nat×List Nat))(c:Nat)(S':Sto):Prop where
 ex: ∃ms,S'[S0.length]? =#[ms,2]/\TsAt S' ms tk/\ ∀p i,MV.tup [i,.loc p]∈ms->S0.length<p
 old:Old S0 S'
 len:tk.length<=c
abbrev T5(b:MV)(l:Nat)(x y z:X2):Rho:=[some b,#[l],x,y,z]
def QX(S:Sto):Bc [#[rs.map zB,6]] S=.ok ⟨(List.range rs.length).map λi=>.tup [zA i,zB (yI rs i)],[]⟩ S:=by show R.ok _ S=_;rw[Cp]
def Iq(b: ∀r∈rls,nH ts r)(d: ∀r∈rs,qL ts r){r:Rule}(e:r∈rls){i:Nat}(hi:i<rs.length)(S:Sto):
  zT (qW 2 (zC (zY 0) (zC (zY 1) xB))) dD lQ [none,none,some (bL r),some (zB (yI rs i))] [] ((List.range rs.length).map λi=>.tup [zA i,zB (yI rs i)]) S=.ok ((IO rs r i).map zA) S:=
 iG (xM _) λj c=>by rw[ç]at c;obtain⟨F,h1,k⟩:=Ip b e (d _ (lL hi)) (os:=[yI rs j]) (λo h=>by rw[mS.mp h];exact d _ (lL c)) (show 1<1000 by decide) S;refine⟨_,rfl,?_,rfl⟩;have a:zK 3 F [.val _,.val _,.new [zB _]] S=.ok _ S:=k;unfold dD;simp? [Xq,h1,a]
theorem Ir(d: ∀r∈rls,nH ts r)(z: ∀r∈rs,qL ts r)(B:rs.length<=100){r:Rule}(y:r∈rls){i:Nat}(hi:i<rs.length){c:Nat}(D:c<100000)(h:TI S0 tk c S):
  ∃S',bK (T5 (zD ts rls rs) S0.length (some (bL r)) (some (zA i)) (some (zB (yI rs i)))) S=#[T5 (zD ts rls rs) S0.length (some (bL r)) (some (zA i)) (some (zB (yI rs i))),S',0]/\TI S0 (tk++MX rs r i) (c+1) S':=by
 obtain⟨F,h1,C⟩:=Ip d y (z _ (lL hi)) (os:=[]) (λo h=>by cases h) (by decide) S;have a:zK 3 F [.val (bL r),.val (zB (yI rs i)),.new []] S=.ok _ S:=C;unfold MX
 cases v:yR r (yI rs i) []with
 |false=>
  rw[v]at a;refine⟨S,?_,by rw[iN xF0,aN];exact⟨h.ex,h.old,by have:=h.len;lia⟩⟩;unfold bK dE;simp? [LO,h1,a];rfl
 |true=>
  rw[v]at a;rw[iP rfl];obtain⟨ms,q,g2,w⟩:=h.ex;have k:S0.length<S.length:=(gS.mp q).1;have s:(IO rs r i).length<=100:=í (ñ _ _) (by rw[æ];exact B);have n:(S++[MO.lst ((IO rs r i).map zA)])[S0.length]? =#[ms,2]:=by rw[ë k];exact q
  refine⟨(S++[MO.lst ((IO rs r i).map zA)]).set S0.length (.lst (ms++[.tup [zA i,.loc S.length]])),?_,?_⟩
  .unfold bK dE;simp? [LO,h1,a,xA q,AQ,QX,show(((List.range rs.length).map λi=>MV.tup [zA i,zB (yI rs i)]).length<1000000)=True from eq_true (by rw[lM,æ];lia),show qG 2 [2,4] (T5 (zD ts rls rs) S0.length (some (bL r)) (some (zA i)) _)=[none,none,some (bL r),some (zB (yI rs i))]from rfl,Iq d z y hi];rw[show yA [.val (zA i),.new _] S=.ok #[[zA i,.loc S.length],6] (S++[.lst ((IO rs r i).map zA)])from fE (by simp)];simp? [eM n (by rw[g2.length];have:=h.len;lia)]
  .have u:Old S (S++[MO.lst ((IO rs r i).map zA)]):=Old.app _ _;refine⟨⟨_,ă (by rw[lA];lia),?_,λp j b=>?_⟩,(h.old.trans u).set (à _) _,by rw[lA,lS];have:=h.len;lia⟩
   .refine TsAt.snoc (g2.mono λm ds e ⟨j,A⟩=>?_) ?_ s
    .rw[õ (by have:=w m j A;lia)];exact u m _ e
    .rw[õ #[]];simp
   .rcases ê.mp b with b|b
    .exact w p j b
    .have:=mS.mp b;injection this with this
     injection this with _ this
     injection this with this _
     injection this with this
     lia
end
section
variable{ts:Za}{rls:List Rule}{rs:List Row}
def cI(rls:List Rule)(rs:List Row):List (Nat×List Nat):=rls.foldl (λb r=>(List.range rs.length).foldl (λb i=>b++MX rs r i) b) []
def Tc(S:Sto)(r:Er)(tk:List (Nat×List Nat)):Prop:=(r=.new []/\tk=[])\/ ∃l ms,r=#[l,1]/\S[l]? =#[ms,2]/\TsAt S ms tk
theorem Iu(w: ∀r∈rls,nH ts r)(N: ∀r∈rs,qL ts r)(D:rs.length<=100)(E:rls.length<=100)(S:Sto):
  ∃r S',zK 1 jR [.val (zD ts rls rs)] S=.ok r S'/\Old S S'/\Tc S' r (cI rls rs)/\(cI rls rs).length<=100000:=by
 have e1:lD [some (zD ts rls rs),none,none,none,none] S=#[T5 (zD ts rls rs) S.length none none none,S++[.lst []],0]:=by unfold lD;exists 7,rfl
 have q: ∀{r:Rule},r∈rls-> ∀(c:Nat),c<=50000-> ∀(b:List (Nat×List Nat))(ρ:Rho)(S1:Sto),_/\TI S b c S1->
   ∃a S',gB _ bK [] _ ρ S1=#[a,S',0]/\_/\TI S _ (c+rs.length) S':=λ{r} B c W b ρ S1 h=>by
  have:=oE (gf:=qW 2 (zC (zY 3) (zC (zY 4) xB))) (gs:=[]) (λk b ρ S1=>(∃y z,ρ=T5 (zD ts rls rs) S.length (some (bL r)) y z)/\TI S b k S1) (λb i=>b++MX rs r i) c (λj i A b ρ S1 ⟨⟨y,z,e⟩,C⟩=>by subst e;obtain⟨s,v⟩:=gS.mp A;rw[æ]at s;rw[List.getElem_range]at v;subst v;obtain⟨S',I,P⟩:=Ir w N D B s #[] C;refine⟨T5 (zD ts rls rs) S.length (some (bL r)) (some (zA j)) (some (zB (yI rs j))),S',?_,xM _,⟨_,_,rfl⟩,P⟩;rw[show qW 2 _ (.tup [zA j,zB (yI rs j)]) _ S1=.ok _ S1 from rfl,gC];exact I) b ρ S1 h;obtain⟨a,S',f1,f2,m⟩:=this;rw[æ]at m;exact⟨a,S',f1,f2,m⟩
 obtain⟨a,S',f1,⟨x,y,z,e⟩,m⟩:=oE (gf:=zY 2) (body:=lB) (λk b ρ S1=>(∃x y z,ρ=T5 (zD ts rls rs) S.length x y z)/\TI S b (k * rs.length) S1) (λb r=>(List.range rs.length).foldl (λb i=>b++MX rs r i) b) 0 (λj r A b ρ S1 ⟨⟨x,y,z,e⟩,C⟩=>by subst e;have B:r∈rls:=ô A;have s:=(gS.mp A).1;have O:(0+j) * rs.length<=50000:=í (mul_le_mul (show 0+j<=100 by lia) D) (by decide);obtain⟨a,S',f1,⟨K,J,rfl⟩,m⟩:=q B ((0+j) * rs.length) O b _ S1 ⟨⟨_,_,rfl⟩,C⟩;refine⟨T5 (zD ts rls rs) S.length (some (bL r)) K J,S',?_,xM _,⟨_,_,_,rfl⟩,by rw[show(0+j+1) * rs.length=(0+j) * rs.length+rs.length by rw[Nat.add_mul,Nat.one_mul]];exact m⟩;rw[show zY 2 (bL r) (T5 (zD ts rls rs) S.length x y z) S1=.ok _ S1 from rfl,gC];unfold lB lR;simp? [AQ,QX];exact f1) [] _ (S++[.lst []]) ⟨⟨_,_,_,rfl⟩,⟨⟨[],by simp,.nil,λp i h=>by cases h⟩,Old.app _ _,zero_le _⟩⟩;subst e;have e2:lE (T5 (zD ts rls rs) S.length none none none) (S++[.lst []])=#[T5 (zD ts rls rs) S.length x y z,S',0]:=by unfold lE;simp? [EF w E,show∀ds S,tG (.new ds) S=.ok ⟨ds,[]⟩ S from λ_ _=>rfl];exact f1
 have U:lF (T5 (zD ts rls rs) S.length x y z) S'=.ok (.ret #[S.length,1]) S':=by unfold lF;exists 7,rfl
 have L:jR [zD ts rls rs] S=.ok #[S.length,1] S':=by show zS (sN [some (zD ts rls rs),none,none,none,none] S)=_;unfold sN;rw[zG e1,zG e2,U];rfl
 have n:(cI rls rs).length<=100000:=í m.len (í (mul_le_mul (show 0+rls.length<=100 by lia) D) (by decide));obtain⟨ms,G,g2,Q⟩:=m.ex;have o:zK 1 jR [.val (zD ts rls rs)] S=bN S #[S.length,1] S':=by unfold zK;rw[iP (show [Er.val (zD ts rls rs)].length=1 from rfl)];show((noX (jR [zD ts rls rs] S)).bind λr S2=>bN S r S2)=_;rw[L,yM,gC]
 rw[o];unfold bN;rw[iP (YJ m.old)];dsimp only;rw[iN (Ě _),G];dsimp only;by_cases F:ms=[]
 .subst F;refine⟨.new [],_,by rw[iP (yY λd M=>by cases M)],Io m.old,.inl ⟨rfl,?_⟩,n⟩;have:=g2.length;exact List.eq_nil_of_length_eq_zero this.symm
 .refine⟨_,S',by
   rw[iN];intro u
   cases ms with
   |nil=>exact F rfl
   |cons d r=>
    obtain⟨i,p,rfl⟩:=g2.shape d mF0;have X:=Q p _ mF0;unfold uE at u;have h1:=u.1;unfold lo at h1;unfold uE at h1;have H:=h1.2;unfold uE at H;have T:=H.1;unfold lo at T
    lia,m.old,.inr ⟨S.length,ms,rfl,G,g2⟩,n⟩
end
def HS(tk:List (Nat×List Nat))(K:Tk):List Nat:=(tk.filter λt=>decide (t.1∈K)&& !t.2.any λj=>decide (j∈K)).map (·.1)
theorem T2{p:Nat}{K a:Tk}(k:S[lk]? =#[kd K,7])(e:S[p]? =#[a.map zA,2]):zK 2 aZ [#[lk,1],#[p,1]] S=#[.bl (a.any λj=>decide (j∈K)),S,1]:=by
 refine iE rfl ?_;show zS (aY [some _,some _,none] S)=_
 obtain⟨m,b⟩:=GP (p:=λj=>decide (j∈K)) (gf:=zY 2) (body:=jG) (λρ=> ∃y,ρ=[#[lk],#[p],y]) (yN e) (λj _ ρ ⟨y,c⟩=>by
  subst c;refine⟨[some _,some _,some (zA j)],rfl,λh=>?_,λh=>⟨[some _,some _,some (zA j)],⟨_,rfl⟩,?_⟩⟩
  .unfold jG jS;simp? [YH k,h];rfl
  .unfold jG jS;simp? [YH k,h];rfl) [some _,some _,none] ⟨_,rfl⟩
 unfold aY
 cases i:a.any λj=>decide (j∈K)with
 |true=>
  have e1:wI [#[lk],#[p],none] S=.ok (.ret (.val (.bl true))) S:=by unfold wI;simp? [kL e];exact m i
  rw[gO e1];rfl
 |false=>
  obtain⟨d,_,b⟩:=b i;have e1:wI [#[lk],#[p],none] S=#[d,S,0]:=by unfold wI;exists 7,kL e,b
  rw[zG e1];rfl
def Qq{K:Tk}(b:S[lk]? =#[kd K,7]){gs:X4}(hs:stay gs S)(h:TsAt S ms tk):
  zT (qW 2 (zC (zY 0) (zC (zY 1) xB))) xC wR [none,none,#[lk]] gs ms S=.ok ((HS tk K).map zA) S:=by
 induction h with
 |nil=>rfl
 |@cons p i srv ms tk h1 h2 _ ih=>
  have d:qW 2 (zC (zY 0) (zC (zY 1) xB)) (.tup [zA i,.loc p]) [none,none,some _] S=.ok [some _,some _,#[lk]] S:=rfl
  have c:xC [some (zA i),#[p],#[lk]] S=.ok (decide (i∈K)&& !srv.any λj=>decide (j∈K)) S:=by
   unfold xC
   cases hi:decide (i∈K)with
   |false=>simp? [YH b,hi];rfl
   |true=>
    simp? [YH b,hi,T2 b h1];rfl
  unfold HS at ih ⊢;unfold zT
  cases a:(decide (i∈K)&& !srv.any λj=>decide (j∈K))with
  |true=>
   rw[d,yM,gC,c,yM,gC,a,show wR [some _,some _,some _] S=.ok _ S from rfl,yM,gC];unfold kH;rw[gC,iP hs,ih,List.filter_cons_of_pos (by exact a)];rfl
  |false=>
   rw[d,yM,gC,c,yM,gC,a,iN xF0,iP hs,ih,List.filter_cons_of_neg (by rw[a];exact xF0)]
def pQ(K:Tk)(n:Nat):uE n (K.map zA):=yY λd a=>by obtain⟨i,_,rfl⟩:=mM.mp a;exact bE _ _
def QY{lt:Nat}{K:Tk}(b:S[lk]? =#[kd K,7])(a:S[lt]? =#[ms,2])(h:TsAt S ms tk)(c:tk.length<=100000):zK 2 jH [#[lt,1],#[lk,1]] S=#[(HS tk K).map zA,S,2]:=nB rfl (by
 show zS (bU [some _,some _] S)=_;have e1:jT [#[lt],#[lk]] S=.ok (.ret (.new ((HS tk K).map zA))) S:=by unfold jT;exists 7,kL a,show(ms.length<1000000)=True from eq_true (by rw[h.length];omega),Qq b (yN a) h
 unfold bU;rw[e1,aN];rfl) (pQ _ _)
def UQ{K:Tk}{i:Nat}:i∈HS tk K↔i∈K/\ ∃a,(i,a)∈tk/\ ∀j∈a,j∉K:=by
 unfold HS;rw[mM];constructor
 .rintro⟨⟨k,a⟩,b,rfl⟩;rw[á,aE,î,ċ,þ]at b;exact⟨b.2.1,a,b.1,λj c=>by have:=b.2.2 j c;rwa [î]at this⟩
 .rintro⟨hi,a,b,hs⟩;refine⟨(i,a),?_,rfl⟩;rw[á,aE,î,ċ,þ];exact⟨b,hi,λj c=>by rw[î];exact hs j c⟩
abbrev W5(a b:MV)(lk:Nat)(u x:X2):Rho:=[some a,some b,#[lk],u,x]
theorem T4{a b:MV}{lk c:Nat}{U:Tk}(i:lk≠c): ∀(us:Tk)(K:Tk)(S:Sto)(x:X2),S[lk]? =#[kd K,7]->S[c]? =#[U.map zA,2]->
  ∃m,gB (zY 4) wY [(c,U.map zA)] (us.map zA) (W5 a b lk #[c] x) S=#[W5 a b lk #[c] m,S.set lk (.dic (kd (K.filter λk=>!decide (k∈us)))),0]
 |[],K,S,x,hk,hu=>by
  refine⟨x,?_⟩;have e:(K.filter λk=>!decide (k∈([]:Tk)))=K:=filter_eq_self.mpr λk _=>by simp
  rw[e,set_same hk];rfl
 |u::us,K,S,x,hk,hu=>by
  obtain⟨d,o⟩:=Zc hk u;have n:wY (W5 a b lk #[c] (some (zA u))) S=#[W5 a b lk #[c] (some (zA u)),S.set lk (.dic (kd (K.filter λk=>!decide (k=u)))),0]:=by unfold wY bW;exists 7,Qo hk,o
  have j:(S.set lk _)[lk]? =some (.dic (kd (K.filter λk=>!decide (k=u)))):=get_set hk;have h:(S.set lk (.dic (kd (K.filter λk=>!decide (k=u)))))[c]? =#[U.map zA,2]:=by rw[cW i];exact hu
  obtain⟨m,h'⟩:=T4 i us _ _ _ j h;refine⟨m,?_⟩;rw[è,jE rfl n (yN h),h',List.set_set,filter_filter];congr 5;funext k;by_cases h1:k=u
  .subst h1;simp
  .by_cases p:k∈us<;>simp[h1,p]
def jL(tk:List (Nat×List Nat))(A K:Tk):Prop:=(∃p,K=A.filter p)/\HS tk K=[]/\ ∀P:Nat->Prop,(∀i,P i->i∈A)->(∀t∈tk,P t.1-> ∃j∈t.2,P j)-> ∀i,P i->i∈K
def Qr{l:Nat}{ds:X1}(h:S[l]? =#[ds,2]):qF #[l,1] S=.ok (!ds.isEmpty) S:=by unfold qF;dsimp only;rw[h]
theorem Cq{S3:Sto}{lt:Nat}{b:MV}(B:S3[lt]? =#[ms,2])(hT:TsAt S3 ms tk)(hl:tk.length<=100000):
  ∀(n:Nat)(K:Tk)(S:Sto)(d:Nat)(x:X2),K.length<n->Old S3 S->S[S3.length]? =#[kd K,7]->S3.length<d->S[d]? =#[(HS tk K).map zA,2]->
   ∃w H o S',eZ jU wZ n (W5 (.loc lt) b S3.length #[d] x) S=#[W5 (.loc lt) b S3.length H o,S',0]/\Old S3 S'/\S'[S3.length]? =#[kd w,7]/\jL tk K w:=by
 intro n
 induction n with
 |zero=>intro K S d x h;lia
 |succ n ih=>
  intro K S d x hn U C Y L;have y:jU (W5 (.loc lt) b S3.length #[d] x) S=.ok (!((HS tk K).map zA).isEmpty) S:=by unfold jU;exists 7,Qr L
  cases v:HS tk K with
  |nil=>
   rw[v]at y;refine⟨K,_,x,S,Az y,U,C,⟨λ_=>true,(filter_eq_self.mpr λ_ _=>rfl).symm⟩,v,λP h1 _ i hi=>h1 i hi⟩
  |cons u us=>
   rw[v]at y;obtain⟨o,G⟩:=T4 #[] (HS tk K) K S x C L;have a:(S.set S3.length (.dic (kd (K.filter λk=>!decide (k∈HS tk K)))))[S3.length]? =some _:=get_set C;have c:Old S3 (S.set S3.length (.dic (kd (K.filter λk=>!decide (k∈HS tk K))))):=U.set (à _) _;generalize r:(K.filter λk=>!decide (k∈HS tk K))=K1 at G a c;generalize Z:S.set S3.length (.dic (kd K1))=S1 at G a c;have J:=c _ _ B;have D:TsAt S1 ms tk:=hT.mono λm ds e _=>c m _ e;have b1:kX (W5 (.loc lt) b S3.length #[d] x) S=#[W5 (.loc lt) b S3.length #[d] o,S1,0]:=by unfold kX;exists 7,kL L,G
   have b2:kY (W5 (.loc lt) b S3.length #[d] o) S1=#[W5 (.loc lt) b S3.length #[S1.length] o,S1++[.lst ((HS tk K1).map zA)],0]:=by unfold kY;exists 7,QY a J D hl
   have hB:wZ (W5 (.loc lt) b S3.length #[d] x) S=#[W5 (.loc lt) b S3.length #[S1.length] o,S1++[.lst ((HS tk K1).map zA)],0]:=by unfold wZ;rw[zG b1,b2]
   have s:S3.length<S1.length:=(gS.mp a).1;have z: ∀i∈HS tk K,i∈K:=λi hi=>(UQ.mp hi).1
   have Q:K1.length<K.length:=by
    rw[<-r];have N:u∈K:=z u (by rw[v];exact mF0);have F:u∈HS tk K:=by rw[v];exact mF0
    refine Nat.lt_of_le_of_ne (ñ _ _) λe=>?_;have:=List.length_filter_eq_length_iff.mp e u N;rw[dT0 F]at this;cases this
   obtain⟨w,H,A,S',w1,w2,w3,⟨p,E⟩,W,w6⟩:=ih K1 (S1++[.lst ((HS tk K1).map zA)]) S1.length o #[] (c.trans (Old.app _ _)) (Old.app _ _ _ _ a) s (by simp);refine⟨w,H,A,S',?_,w2,w3,⟨λk=>(!decide (k∈HS tk K))&&p k,?_⟩,W,λP h1 T i hi=>w6 P (λj O=>?_) T i hi⟩
   .rw[TH y hB];exact w1
   .rw[E, <-r,filter_filter];congr 1;funext k;exact Bool.and_comm _ _
   .rw[<-r,á];refine⟨h1 j O,?_⟩;rw[ċ,decide_eq_false_iff_not];intro X;obtain⟨_,M,B,hs⟩:=UQ.mp X;obtain⟨q,hq,I⟩:=T (j,M) B O;exact hs q hq (h1 q I)
theorem GR{S3:Sto}{lt la:Nat}{A:Tk}(h:S3[lt]? =#[ms,2])(n:TsAt S3 ms tk)(k:tk.length<=100000)(d:S3[la]? =#[A.map zA,2])(s:A.Nodup)(p:A.length<=100):
  ∃K T,yF [.loc lt,.loc la] S3=.ok #[K.map zA,6] (S3++T)/\jL tk A K:=by
 have w:zT (zY 0) bV kW [none] [(la,A.map zA)] (A.map zA) S3=.ok (A.map λi=>.tup [zA i,.bl true]) S3:=yV (yN d) λi _=>⟨_,rfl,rfl,by unfold kW;exists 7,show∀a b S,yA [.val a,.val b] S=.ok #[[a,b],6] S from λa b S=>fE (by simp)⟩
 have e1:gR [#[lt],#[la],none,none,none] S3=#[W5 (.loc lt) (.loc la) S3.length none none,S3++[.dic (kd A)],0]:=by unfold gR;simp? [kL d,show((A.map zA).length<1000000)=True from eq_true (by rw[lM];lia),show qG 1 [] [#[lt],#[la],none,none,none]=[none]from rfl,w,Zd s]
 have c:Old S3 (S3++[.dic (kd A)]):=Old.app _ _;have j:(S3++[MO.dic (kd A)])[S3.length]? =#[kd A,7]:=by simp
 have e2:gT (W5 (.loc lt) (.loc la) S3.length none none) (S3++[.dic (kd A)])=#[W5 (.loc lt) (.loc la) S3.length #[(S3++[MO.dic (kd A)]).length] none,S3++[.dic (kd A)]++[.lst ((HS tk A).map zA)],0]:=by unfold gT;exists 7,QY j (c _ _ h) (n.mono λm ds e _=>c m _ e) k
 obtain⟨K,o,u,S',r,v,z,q⟩:=Cq h n k 10000 A (S3++[.dic (kd A)]++[.lst ((HS tk A).map zA)]) (S3++[MO.dic (kd A)]).length none #[] (c.trans (Old.app _ _)) (Old.app _ _ _ _ j) (by rw[lA];exact ģ _) (by simp);obtain⟨T,rfl⟩:=v.is;refine⟨K,T,?_,q⟩;show zS (dF [#[lt],#[la],none,none,none] S3)=_;have y:gU (W5 (.loc lt) (.loc la) S3.length o u) (S3++T)=.ok (.ret #[K.map zA,6]) (S3++T):=by unfold gU;exists 7,Ze z
 unfold dF;rw[zG e1,zG e2,zG (show nS _ _=_ from r),y];rfl
def Zg{r:Er}{la:Nat}{A:Tk}(h:Tc S r tk)(i:tk.length<=100000)(d:S[la]? =#[A.map zA,2])(e:A.Nodup)(b:A.length<=100):
  ∃K,zK 2 yF [r,#[la,1]] S=.ok #[K.map zA,6] S/\jL tk A K:=by
 have a: ∀K:List Nat,lo S.length (.tup (K.map zA)):=λK=>wG (pQ K _);rcases h with⟨rfl,rfl⟩|⟨l,ms,rfl,g1,g2⟩
 .obtain⟨K,T,h1,c⟩:=GR (S3:=S++[.lst []]) (lt:=S.length) (la:=la) (A:=A) (ms:=[]) (by simp) .nil (zero_le _) (Old.app _ _ _ _ d) e b;refine⟨K,xE (T:=[.lst []]++T) rfl ?_ (a K) (λl=>by simp),c⟩;show yF [.loc S.length,.loc la] (S++[.lst []])=_;rw[h1,aA]
 .obtain⟨K,T,h1,c⟩:=GR g1 g2 i d e b;exact⟨K,xE (T:=T) rfl h1 (a K) (λl=>by simp),c⟩
theorem MY(f:α->Bool)(xs:List α)(S:Sto):SY [.new (xs.map λx=>.bl (f x))] S=#[.bl (xs.any f),S,1]:=by
 have h: ∀xs:List α,iO (xs.map λx=>.bl (f x))=some (xs.map f):=by
  intro xs
  induction xs with
  |nil=>rfl
  |cons x xs ih=>rw[è];unfold iO;rw[ih];rfl
 show(match (some _).bind iO with |some bs=>R.ok _ S|none=>.no)=_;rw[show(some _).bind iO=some _ from h xs];show R.ok _ S=_;rw[Ĩ];rfl
section
variable{ts:Za}{rls:List Rule}{rs:List Row}
def gN(rls:List Rule)(rs:List Row)(some:Tk):List Nat:=some.filter λi=>!rls.any λr=>lK r (yI rs i)
abbrev U4(b m:MV)(x y:X2):Rho:=[some b,some m,x,y]
theorem UR(b: ∀r∈rls,nH ts r)(k: ∀r∈rs,qL ts r)(p:rs.length<=100)(e:rls.length<=100)(hs: ∀i∈sm,i<rs.length)(o:sm.Nodup)(B:sm.length<=100)(S:Sto):
  ∃K,zK 2 BS [.val (zD ts rls rs),#[sm.map zA,6]] S=.ok #[K.map zA,6] S/\jL (cI rls rs) (gN rls rs sm) K:=by
 have e1:AC (U4 (zD ts rls rs) (.tup (sm.map zA)) none none) S=#[U4 (zD ts rls rs) (.tup (sm.map zA)) #[S.length] none,S++[.lst (rls.map bL)],0]:=by unfold AC;simp? [EF b e]
 have j:(S++[MO.lst (rls.map bL)])[S.length]? =#[rls.map bL,2]:=by simp
 have a: ∀{i:Nat},i<rs.length->zT (zY 0) uP oZ [none,some (zA i),some (zD ts rls rs)] [(S.length,rls.map bL)] (rls.map bL) (S++[.lst (rls.map bL)])=.ok (rls.map λr=>.bl (lK r (yI rs i))) (S++[.lst (rls.map bL)]):=λ{i} hi=>
  yV (yN j) λr s=>by obtain⟨F,h1,D,_⟩:=YE (b r s) (k _ (lL hi)) (S++[.lst (rls.map bL)]);refine⟨_,rfl,rfl,?_⟩;unfold oZ;simp? [AQ,GQ hi,h1,D]
 have c:zT (zY 0) pA uQ [none,some (zD ts rls rs),#[S.length]] [] (sm.map zA) (S++[.lst (rls.map bL)])=.ok ((gN rls rs sm).map zA) (S++[.lst (rls.map bL)]):=xK (xM _) λi hi=>by refine⟨_,rfl,?_,rfl⟩;unfold pA;exists 7,kL j,show((rls.map bL).length<1000000)=True from eq_true (by rw[lM];omega),a (hs i hi),MY
 have e2:AD (U4 (zD ts rls rs) (.tup (sm.map zA)) #[S.length] none) (S++[.lst (rls.map bL)])=#[U4 (zD ts rls rs) (.tup (sm.map zA)) #[S.length] #[(S++[MO.lst (rls.map bL)]).length],S++[.lst (rls.map bL)]++[.lst ((gN rls rs sm).map zA)],0]:=by unfold AD;exists 7,dX,show((sm.map zA).length<1000000)=True from eq_true (by rw[lM];omega),c
 generalize d:S++[.lst (rls.map bL)]++[.lst ((gN rls rs sm).map zA)]=S2 at e2;have A:Old S S2:=by rw[<-d,aA];exact Old.app _ _
 have w:S2[(S++[MO.lst (rls.map bL)]).length]? =#[(gN rls rs sm).map zA,2]:=by rw[<-d];simp
 obtain⟨r,u,m,h,q,z⟩:=Iu b k p e S2;obtain⟨K,n,v⟩:=Zg q z (h _ _ w) (o.sublist List.filter_sublist) (í (ñ _ _) B);obtain⟨T,C⟩:=(A.trans h).is;have y:AG (U4 (zD ts rls rs) (.tup (sm.map zA)) #[S.length] #[(S++[MO.lst (rls.map bL)]).length]) S2=.ok (.ret #[K.map zA,6]) u:=by unfold AG;exists 7,m,n
 refine⟨K,xE (T:=T) rfl ?_ (wG (pQ K _)) (λl=>by simp),v⟩;show zS (MB (U4 (zD ts rls rs) (.tup (sm.map zA)) none none) S)=_;unfold MB;rw[zG e1,zG e2,y,C];rfl
theorem YK{t:Nat×List Nat}:t∈cI rls rs↔ ∃r∈rls, ∃i,i<rs.length/\yR r (yI rs i) []=true/\t=(i,IO rs r i):=by
 have f1: ∀{α β:Type}(g:α->List β)(l:List α)(b:List β),l.foldl (λb i=>b++g i) b=b++l.flatMap g:=by
  intro α β g l
  induction l with
  |nil=>intro b;simp
  |cons x l ih=>intro b;rw[ę,ih,flatMap_cons,aA]
 have e:cI rls rs=rls.flatMap λr=>(List.range rs.length).flatMap (MX rs r):=by unfold cI;rw[show(λ(b:List _) r=>(List.range rs.length).foldl (λb i=>b++MX rs r i) b)=λb r=>b++(List.range rs.length).flatMap _ from funext λb=>funext λr=>f1 _ _ _,f1];rfl
 rw[e,mem_flatMap];constructor
 .rintro⟨r,a,h⟩;obtain⟨i,hi,h⟩:=mem_flatMap.mp h;rw[ç]at hi;unfold MX at h;split at h
  .rename_i c;exact⟨r,a,i,hi,c,mS.mp h⟩
  .cases h
 .rintro⟨r,a,i,hi,c,rfl⟩;refine⟨r,a,mem_flatMap.mpr ⟨i,ç.mpr hi,?_⟩⟩;unfold MX;rw[iP c];exact mS.mpr rfl
def Iv(r:Rule)(a:Row):yR r a []=KB r a:=by unfold yR;simp
def YL{r:Rule}{i j:Nat}(h:KB r (yI rs i)=true):j∈IO rs r i↔j<rs.length/\KC r (yI rs i) (yI rs j)=true:=by unfold IO yR;rw[á,h];simp
def Iw{a:Tk}(n: ∀i∈a,i<rs.length):Qp rls rs a=false↔(∀i∈a,(rls.any λr=>lK r (yI rs i))=false)/\ ∀t∈cI rls rs,t.1∈a-> ∃j∈t.2,j∈a:=by
 unfold Qp;rw[þ];constructor
 .intro h;have h': ∀i∈a, ∀r∈rls,lK r _=false/\yR r _ _=false:=λi hi r b=>by have:=h i hi;rw[ē,þ]at this;have:=this r b;rw[ē,Bool.or_eq_false_iff]at this;exact this
  refine⟨λi hi=>þ.mpr λr b=>by rw[(h' i hi r b).1];exact xF0,λt o e=>?_⟩;obtain⟨r,b,i,hi,c,rfl⟩:=YK.mp o;rw[Iv]at c;have k:=(h' i e r b).2;unfold yR at k;rw[c,Ĺ,Ŀ,Ĩ,ù]at k;obtain⟨j,d,hs⟩:=k;exact⟨j,(YL c).mpr ⟨n j d,hs⟩,d⟩
 .rintro⟨h1,p⟩ i hi;rw[ē,þ];intro r b;rw[ē,Bool.or_eq_false_iff];refine⟨by have:=þ.mp (h1 i hi) r b;rwa [ē]at this,?_⟩;unfold yR
  cases c:KB r _ with
  |false=>rfl
  |true=>
   rw[Ĺ,Ŀ,Ĩ,ù];obtain⟨j,d,m⟩:=p _ (YK.mpr ⟨r,b,i,n i hi,by rw[Iv];exact c,rfl⟩) hi;exact⟨j,m,((YL c).mp d).2⟩
end
def QZ{x:Tk}{d:X1}{c:Str}(hs:QB "parts_them" xI (.val (ob c (.tup (.str x::d))))=some yU)(a b:MV)(S:Sto):Ij "parts_them" 3 xI (ob c (.tup (.str x::d))) [.val a,.val b] false S:=by exact⟨yU,hs,iE rfl rfl,trivial⟩
def mK:Rule->Row->Row->Bool
 |.apart t u qs,a,b=>(decide ((a.1:Int)=t)&&decide ((b.1:Int)=u)&&qs.all (rO [a,b])) || (decide ((b.1:Int)=t)&&decide ((a.1:Int)=u)&&qs.all (rO [b,a]))
 |_,_,_=>false
def Iy{r:Rule}(h:nH ts r){a b:Row}(c:qL ts a)(d:qL ts b)(S:Sto):Ij "parts_them" 3 xI (bL r) [.val (zB a),.val (zB b)] (mK r a b) S:=by
 cases r with
 |never t qs=>exact QZ (x:=rN) rfl (zB a) (zB b) S
 |apart t u qs=>exact h.elim
 |tie t cs u ds=>exact QZ (x:=QR) rfl (zB a) (zB b) S
def GS{β:Type}(T:List β):(List.range T.length).filterMap (T[·]?)=T:=by
 induction T with
 |nil=>rfl
 |cons t T ih=>
  rw[lC,List.range_succ_eq_map,filterMap_cons,List.filterMap_map];show t::List.filterMap (λi=>_[i+1]?) _=_;simp only[List.getElem?_cons_succ];rw[ih]
theorem KD: ∀{ds:X1},(∀d∈ds,iQ d=true)->DC ds=true
 |[],_=>by unfold DC;rfl
 |d::ds,h=>by unfold DC;rw[h d mF0,KD λx a=>h x (mO _ a)];rfl
abbrev Bk:=List Nat×List Nat
def IP(b:Bk):MV:=.tup (.str b.1::b.2.map zA)
theorem RA{S:Sto}{n:Nat}: ∀(a ms:Tk),LL (eqv S (n+1)) (EA S (n+1)) (a.map zA) (ms.map zA)=some (decide (a<ms))
 |[],[]=>rfl
 |[],m::ms=>by rw[dT0 (List.nil_lt_cons m ms)];rfl
 |k::a,[]=>by rw[dF0 (List.not_lt_nil _)];rfl
 |k::a,m::ms=>by
  show((eqv S _ _ _).bind λz=>if z=true then LL _ _ _ _ else EA S _ _ _)=_;rw[show eqv S _ (zA k) (zA m)=some _ from vO n k m];show(if decide _=true then _ else _)=_;rw[ĳ.mpr List.cons_lt_cons_iff];by_cases h:k=m
  .subst h;rw[RA a ms];simp
  .rw[iN (by rw[î];lia)];show some _=_;congr 1;exact dec_is #[]
section
variable{ts:Za}{rls:List Rule}{rs:List Row}
def W8(ts:Za)(t:Nat):Int:=((ts[t]?).getD (0,0)).2
def GT(ts:Za)(a:Row):MV:=.tup [zA a.1,.tup (cN a.2 none (some (W8 ts a.1)))]
theorem US{a:Row}(h:qL ts a):pd (GT ts a)=true/\GL (GT ts a)<=2:=by
 obtain⟨p,_,_,e⟩:=h;have c: ∀d∈cN a.2 none (some (W8 ts a.1)),Vl d:=λd b=>e d (PD b);have h1:UK _=true:=XS λd b=>(rM (c d b)).1;have i:AI _<=0:=XT λd b=>by rw[(rM (c d b)).2];exact à _
 unfold GT zA;refine⟨by rw[MN,oB,oB,MN,h1];rfl,?_⟩;rw[ED,oC,oC,GM,EE,ED]
 lia
def Zh{a:Row}(h:qL ts a)(n:Nat):lo n (GT ts a):=wG (yY λd b=>by
 obtain⟨p,_,_,c⟩:=h;simp only[mC,nM,or_false]at b;rcases b with rfl|rfl
 .exact bE _ _
 .exact wG (yY λd b=>by
   have:=c d (PD b);rcases this.cases with⟨i,rfl,_⟩|⟨x,rfl,_⟩
   .exact bE _ _
   .exact qY _ _))
theorem Zi{a:Row}(h:qL ts a)(S:Sto):yC #[ts.map tbl,6] #[(a.1:Nat),5] S=.ok #[[.int ((ts[a.1]?).getD (0,0)).1,.int (W8 ts a.1)],6] S:=by obtain⟨p,b,_,_⟩:=h;refine ix_tup (sY ?_);rw[ò];unfold W8;rw[b];rfl
theorem Td(S:Sto):yC (.val (zD ts rls rs)) #[0,5] S=.ok #[ts.map tbl,6] S:=ix_tup rfl
def tup2(a b:MV)(S:Sto):yA [.val a,.val b] S=.ok #[[a,b],6] S:=fE (by simp)
theorem YM{a:Row}(h:qL ts a)(S:Sto):zK 2 rB [#[ts.map tbl,6],.val (zB a)] S=#[GT ts a,S,1]:=by refine eQ rfl ?_ (Zh h _) (λl=>by simp[GT]);show zS (vZ [some _,some _] S)=_;unfold vZ uI;simp? [UN,Zi h,ix_tup (ds:=[.int ((ts[a.1]?).getD _).1,.int _]) (i:=1) rfl,tup2];rfl
def UT(ts:Za)(a b:Row):Bool:=decide (GT ts a=GT ts b)
theorem YN{a b:Row}(c:qL ts a)(d:qL ts b)(S:Sto):uF (.val (GT ts a)) (.val (GT ts b)) S=#[.bl (UT ts a b),S,1]:=XU (US c).1 (US d).1 (by have:=(US c).2;lia)
def BB(rls:List Rule)(k:Nat):Rule:=(rls[k]?).getD (.tie 0 [] 0 [])
def tB{k:Nat}(h:k<rls.length):BB rls k∈rls:=by unfold BB;rw[gE h];exact ŀ h
theorem YO(f:α->MV)(l:List α)(g:Nat->α)(b: ∀k (h:k<l.length),g k=l[k]):IH (l.map f)=(List.range l.length).map λi=>.tup [zA i,f (g i)]:=by
 unfold IH;apply Ł;intro m;by_cases a:m<l.length
 .simp only[ò,List.getElem?_zipIdx,ł a,Option.map_some,gE a,Ħ];rw[b m a];rfl
 .rw[ą (by rw[lM,length_zipIdx,lM];lia),ą (by rw[lM,æ];lia)]
theorem MZ(k:Nat)(h:k<rls.length):BB rls k=rls[k]:=by unfold BB;rw[gE h];rfl
end
def YQ{l:Nat}{ds zs:X1}(a:S[l]? =#[ds,2])(b:ds.length+zs.length<=1000000):TZ #[l,1] [.new zs] S=#[.non,S.set l (.lst (ds++zs)),1]:=by show _=_;show BM #[l,1] S (λds=>if ds.length+zs.length<=sizeLine then some _ else none)=_;unfold BM;dsimp only;rw[a];dsimp only;rw[iP (fits b)]
def T6(b:Bk)(n:Nat):lo n (IP b):=wG (yY λd a=>by
 rcases mC.mp a with rfl|a
 .exact qY _ _
 .obtain⟨i,_,rfl⟩:=mM.mp a;exact bE _ _)
def Iz(l:List Bk)(n:Nat):uE n (l.map IP):=yY λd a=>by obtain⟨b,_,rfl⟩:=mM.mp a;exact T6 b n
def NA{f:α->MV}{l:List α}{g:Nat->α}(a: ∀k (h:k<l.length),g k=l[k]){p:Nat}(h:S[p]? =#[l.map f,2]):Bc [#[p,1]] S=.ok ⟨(List.range l.length).map λi=>.tup [zA i,f (g i)],[(p,l.map f)]⟩ S:=by
 have e:srcOf S #[p,1]=some ⟨true,l.map f,[(p,l.map f)]⟩:=by unfold srcOf;dsimp only;rw[h]
 unfold Bc;dsimp only;rw[e];show R.ok _ S=_;rw[YO f l g a]
def Qs{f:α->MV}{l:List α}{g:Nat->α}(a: ∀k (h:k<l.length),g k=l[k])(S:Sto):Bc [#[l.map f,6]] S=.ok ⟨(List.range l.length).map λi=>.tup [zA i,f (g i)],[]⟩ S:=by show R.ok _ S=_;rw[YO f l g a]
def Qt:List Nat:=[107,101,121]
section
variable{ts:Za}{rls:List Rule}{rs:List Row}
def Cr(rls:List Rule)(rs:List Row)(sm:Tk)(i:Nat):List Bk:=((List.range rls.length).filter λk=>lK (BB rls k) (yI rs i)).map (λk=>(rN,[i,k]))++((List.range rls.length).filter λk=>yR (BB rls k) (yI rs i) (sm.map (yI rs))).map λk=>(QR,[i,k])
def GU(ts:Za)(rls:List Rule)(rs:List Row)(i j:Nat):List Bk:=((List.range rls.length).filter λk=>mK (BB rls k) (yI rs i) (yI rs j)).map (λk=>(CF,[i,j,k]))++if UT ts (yI rs i) (yI rs j)=true then [(Qt,[i,j])]else []
abbrev O7(ts:Za)(rls:List Rule)(rs:List Row)(sm:Tk)(a i:Nat)(x y z:X2):Rho:=[some (zD ts rls rs),#[a],#[sm.map zA,3],some (zA i),x,y,z]
theorem T7(e: ∀r∈rls,nH ts r)(K: ∀r∈rs,qL ts r)(D:rls.length<=100)(hs: ∀i∈sm,i<rs.length)(Q:sm.length<=200){i:Nat}(hi:i<rs.length){a:Nat}(I:S[a]? =#[rls.map bL,2]):
  zK 4 wX [.val (zD ts rls rs),#[a,1],#[sm.map zA,6],.val (zA i)] S=#[(Cr rls rs sm i).map IP,S,2]:=by
 have L:=K _ (lL hi);have u:a<S.length:=(gS.mp I).1;have e1:kN (O7 ts rls rs sm a i none none none) S=#[O7 ts rls rs sm a i (some (zB (yI rs i))) none none,S,0]:=by unfold kN;simp? [AQ,GQ hi]
 have H:zT (zY 0) jX xO [none,some (zD ts rls rs)] [] (sm.map zA) S=.ok ((sm.map (yI rs)).map zB) S:=by rw[ï];exact yV (g:=λj=>zB (yI rs j)) (xM _) λj s=>⟨[some (zA j),some (zD ts rls rs)],rfl,rfl,by unfold xO;simp? [AQ,GQ (hs j s)]⟩
 have e2:kO (O7 ts rls rs sm a i (some (zB (yI rs i))) none none) S=#[O7 ts rls rs sm a i (some (zB (yI rs i))) #[S.length] none,S++[.lst ((sm.map (yI rs)).map zB)],0]:=by unfold kO;simp? [dX,show((sm.map zA).length<1000000)=True from eq_true (by rw[lM];omega),show qG 1 [0] (O7 ts rls rs sm a i (some (zB (yI rs i))) none none)=[none,some (zD ts rls rs)]from rfl,H]
 have w:(S++[MO.lst ((sm.map (yI rs)).map zB)])[S.length]? =#[(sm.map (yI rs)).map zB,2]:=by simp
 have n:(S++[MO.lst ((sm.map (yI rs)).map zB)])[a]? =#[rls.map bL,2]:=by rw[ë u];exact I
 have N: ∀o∈sm.map (yI rs),qL ts o:=λo h=>by obtain⟨j,s,rfl⟩:=mM.mp h;exact K _ (lL (hs j s))
 generalize v:S++[MO.lst ((sm.map (yI rs)).map zB)]=S1 at e2 w n;have b:(((List.range rls.length).map λk=>MV.tup [zA k,bL (BB rls k)]).length<1000000)=True:=eq_true (by rw[lM,æ];omega)
 have B:zT (qW 2 (zC (zY 0) (zC (zY 1) xB))) xP xQ [none,none,some (zA i),some (zB (yI rs i))] [(a,rls.map bL)] ((List.range rls.length).map λk=>MV.tup [zA k,bL (BB rls k)]) S1=.ok (((List.range rls.length).filter λk=>lK (BB rls k) (yI rs i)).map λk=>IP (rN,[i,k])) S1:=iG (yN n) λk d=>by
  rw[ç]at d;obtain⟨F,h1,y,_⟩:=YE (e _ (tB d)) L S1;refine⟨[some (zA k),some (bL (BB rls k)),some (zA i),some (zB (yI rs i))],rfl,?_,?_⟩
  .unfold xP;simp? [h1,y]
  .unfold xQ;simp? [tup3];rfl
 have G:kP (O7 ts rls rs sm a i (some (zB (yI rs i))) #[S.length] none) S1=#[O7 ts rls rs sm a i (some (zB (yI rs i))) #[S.length] #[S1.length],S1++[.lst (((List.range rls.length).filter λk=>lK (BB rls k) (yI rs i)).map λk=>IP (rN,[i,k]))],0]:=by unfold kP;simp? [NA (g:=BB rls) MZ n,b,show qG 2 [3,4] (O7 ts rls rs sm a i (some (zB (yI rs i))) #[S.length] none)=[none,none,some (zA i),some (zB (yI rs i))]from rfl,B]
 generalize M:(((List.range rls.length).filter λk=>lK (BB rls k) (yI rs i)).map λk=>IP (rN,[i,k]))=bs at G;have O:bs.length<=100:=by rw[<-M,lM];exact í (ñ _ _) (by rw[æ];exact D)
 have J:(S1++[MO.lst bs])[S1.length]? =#[bs,2]:=by simp
 have c: ∀{m:Nat}{o:MO},S1[m]? =some o->(S1++[MO.lst bs])[m]? =some o:=λ{m o} h=>by rw[ë (gS.mp h).1];exact h
 generalize A:S1++[MO.lst bs]=S2 at G J c
 have C:zT (qW 2 (zC (zY 0) (zC (zY 1) xB))) xR xS [none,none,some (zA i),some (zB (yI rs i)),#[S.length]] [(a,rls.map bL)] ((List.range rls.length).map λk=>MV.tup [zA k,bL (BB rls k)]) S2=.ok (((List.range rls.length).filter λk=>yR (BB rls k) (yI rs i) (sm.map (yI rs))).map λk=>IP (QR,[i,k])) S2:=iG (yN (c n)) λk d=>by
  rw[ç]at d;obtain⟨F,h1,⟨T,y⟩,_⟩:=QU (e _ (tB d)) L N (by rw[lM];omega) (c w) (c w);have E:zK 3 F [.val (bL (BB rls k)),.val (zB (yI rs i)),#[S.length,1]] S2=#[.bl (yR (BB rls k) (yI rs i) (sm.map (yI rs))),S2,1]:=MT (T:=T) rfl y;refine⟨[some (zA k),some (bL (BB rls k)),some (zA i),some (zB (yI rs i)),#[S.length]],rfl,?_,?_⟩
  .unfold xR;simp? [h1,E]
  .unfold xS;simp? [tup3];rfl
 have z:(Cr rls rs sm i).map IP=bs++((List.range rls.length).filter λk=>yR (BB rls k) (yI rs i) (sm.map (yI rs))).map λk=>IP (QR,[i,k]):=by unfold Cr;rw[ý,ï,ï, <-M];rfl
 have P:kQ (O7 ts rls rs sm a i (some (zB (yI rs i))) #[S.length] #[S1.length]) S2=.ok (.ret (.new ((Cr rls rs sm i).map IP))) S2:=by rw[z];unfold kQ;simp? [NA (g:=BB rls) MZ (c n),b,show qG 2 [3,4,5] (O7 ts rls rs sm a i (some (zB (yI rs i))) #[S.length] #[S1.length])=[none,none,some (zA i),some (zB (yI rs i)),#[S.length]]from rfl,C,Gk (S:=S2) (p:=#[S1.length,1]) (q:=.new (((List.range rls.length).filter λk=>yR (BB rls k) (yI rs i) (sm.map (yI rs))).map λk=>IP (QR,[i,k]))) (x:=bs) (nE J) rfl (fits (by rw[lM];have:=ñ (λk=>yR (BB rls k) (yI rs i) (sm.map (yI rs))) (List.range rls.length);rw[æ]at this;omega))]
 refine nB (T:=[.lst ((sm.map (yI rs)).map zB),.lst bs]) rfl ?_ (Iz _ _);show zS (gP (O7 ts rls rs sm a i none none none) S)=_;unfold gP;rw[zG e1,zG e2,zG G,P, <-A, <-v,aA];rfl
abbrev P7(ts:Za)(rls:List Rule)(rs:List Row)(a i j:Nat)(x y z:X2):Rho:=[some (zD ts rls rs),#[a],some (zA i),some (zA j),x,y,z]
theorem Te(o: ∀r∈rls,nH ts r)(v: ∀r∈rs,qL ts r)(n:rls.length<=100){i j:Nat}(hi:i<rs.length)(p:j<rs.length){a:Nat}(q:S[a]? =#[rls.map bL,2]):
  zK 4 yX [.val (zD ts rls rs),#[a,1],.val (zA i),.val (zA j)] S=#[(GU ts rls rs i j).map IP,S,2]:=by
 have d:=v _ (lL hi);have h:=v _ (lL p);have e1:kR (P7 ts rls rs a i j none none none) S=#[P7 ts rls rs a i j (some (zB (yI rs i))) none none,S,0]:=by unfold kR;simp? [AQ,GQ hi]
 have e2:kS (P7 ts rls rs a i j (some (zB (yI rs i))) none none) S=#[P7 ts rls rs a i j (some (zB (yI rs i))) (some (zB (yI rs j))) none,S,0]:=by unfold kS;simp? [AQ,GQ p]
 have m:(((List.range rls.length).map λk=>MV.tup [zA k,bL (BB rls k)]).length<1000000)=True:=eq_true (by rw[lM,æ];lia)
 have s:zT (qW 2 (zC (zY 0) (zC (zY 1) xB))) xT xU [none,none,some (zA i),some (zA j),some (zB (yI rs i)),some (zB (yI rs j))] [(a,rls.map bL)] ((List.range rls.length).map λk=>MV.tup [zA k,bL (BB rls k)]) S=.ok (((List.range rls.length).filter λk=>mK (BB rls k) (yI rs i) (yI rs j)).map λk=>IP (CF,[i,j,k])) S:=iG (yN q) λk b=>by
  rw[ç]at b;obtain⟨F,h1,A,_⟩:=Iy (o _ (tB b)) d h S;refine⟨_,rfl,?_,?_⟩
  .unfold xT;simp? [h1,A]
  .unfold xU;exists 7,tup4
 generalize c:(((List.range rls.length).filter λk=>mK (BB rls k) (yI rs i) (yI rs j)).map λk=>IP (CF,[i,j,k]))=ps at s;have w:ps.length<=100:=by rw[<-c,lM];exact í (ñ _ _) (by rw[æ];exact n)
 have y:kT (P7 ts rls rs a i j (some (zB (yI rs i))) (some (zB (yI rs j))) none) S=#[P7 ts rls rs a i j (some (zB (yI rs i))) (some (zB (yI rs j))) #[S.length],S++[.lst ps],0]:=by unfold kT;exists 7,NA MZ q,m,s
 have u:(S++[MO.lst ps])[S.length]? =#[ps,2]:=by simp
 have z:kU (P7 ts rls rs a i j (some (zB (yI rs i))) (some (zB (yI rs j))) #[S.length]) (S++[.lst ps])=#[P7 ts rls rs a i j (some (zB (yI rs i))) (some (zB (yI rs j))) #[S.length],S++[.lst ((GU ts rls rs i j).map IP)],0]:=by
  unfold kU
  cases b:UT ts (yI rs i) (yI rs j)with
  |false=>
   have e:(GU ts rls rs i j).map IP=ps:=by unfold GU;rw[b,iN xF0,aN,ï, <-c];rfl
   rw[e];simp? [Td,YM d,YM h,YN d h,b];rfl
  |true=>
   have e:(GU ts rls rs i j).map IP=ps++[IP (Qt,[i,j])]:=by unfold GU;rw[b,iP rfl,ý,ï, <-c];rfl
   rw[e];simp? [Td,YM d,YM h,YN d h,b,xA u,tup3,eM u #[]];rw[show List.set (S++[MO.lst ps]) S.length _=S++[MO.lst (ps++[IP (Qt,[i,j])])] by simp[IP,Qt]]
 refine QQ (T:=[.lst ((GU ts rls rs i j).map IP)]) rfl rfl ?_ (.inr ⟨_,rfl,à _,by simp⟩) (Iz _ _);show zS (gQ (P7 ts rls rs a i j none none none) S)=_;unfold gQ;rw[zG e1,zG e2,zG y,zG z];rfl
end
def CI(sm:Tk)(k:Nat):Nat:=(sm[k]?).getD 0
def Cs{β:Type}(g:α->List β)(l:List α): ∀(b:List β),l.foldl (λb i=>b++g i) b=b++l.flatMap g:=by
 induction l with
 |nil=>intro b;simp
 |cons x l ih=>intro b;rw[ę,ih,flatMap_cons,aA]
def xL:List Nat->List (Nat×Nat)
 |[]=>[]
 |x::t=>t.map (λj=>(x,j))++xL t
theorem RB: ∀(sm:Tk),(List.range sm.length).flatMap (λp=>(sm.drop (p+1)).map λj=>(CI sm p,j))=xL sm
 |[]=>rfl
 |x::t=>by rw[lC,List.range_succ_eq_map,flatMap_cons,List.flatMap_map];show t.map (λj=>_)++_=_;rw[show xL _=t.map (λj=>_)++xL t from rfl, <-RB t];rfl
theorem pairs_len: ∀(sm:Tk),(xL sm).length<=sm.length * sm.length
 |[]=>à _
 |x::t=>by
  have a:=pairs_len t;rw[show xL _=t.map (λj=>_)++xL t from rfl,lA,lM,lC];rw[Nat.add_mul,Nat.mul_add]
  lia
theorem CK: ∀{sm:Tk}{p:Nat×Nat},p∈xL sm->p.1∈sm/\p.2∈sm
 |x::t,p,h=>by
  rcases ê.mp h with h|h
  .obtain⟨j,a,rfl⟩:=mM.mp h;exact⟨mF0,mO _ a⟩
  .have:=CK h;exact⟨mO _ this.1,mO _ this.2⟩
def nK(p:Nat×Nat):MV:=.tup [zA p.1,zA p.2]
abbrev G4(sm:Tk)(l:Nat)(x y:X2):Rho:=[#[sm.map zA,3],#[l],x,y]
theorem YR(C:sm.length<=200)(S:Sto):zK 1 cU [#[sm.map zA,6]] S=#[(xL sm).map nK,S,2]:=by
 have e1:aW [#[sm.map zA,3],none,none,none] S=#[G4 sm S.length none none,S++[.lst []],0]:=by unfold aW;exists 7,rfl
 obtain⟨z,S',f,⟨x,y,a⟩,n,_⟩:=oE (gf:=qW 2 (zC (zY 2) (zC (zY 3) xB))) (body:=aV) (gs:=[]) (λk (b:List (Nat×Nat)) ρ S'=>(∃x y,ρ=G4 sm S.length x y)/\S'=S++[.lst (b.map nK)]/\b.length<=k * 200) (λb p=>b++(sm.drop (p+1)).map λj=>(CI sm p,j)) (ds:=List.range sm.length) 0 (λj p u b ρ S1 ⟨⟨x,y,a⟩,m,B⟩=>by
  subst a m;obtain⟨o,c⟩:=gS.mp u;rw[æ]at o;rw[List.getElem_range]at c;subst c;have r:(S++[MO.lst (b.map nK)])[S.length]? =#[b.map nK,2]:=by simp
  have w:zT (zY 0) fS bT [none,some (zA (CI sm j))] [] ((sm.drop (j+1)).map zA) (S++[.lst (b.map nK)])=.ok ((sm.drop (j+1)).map λq=>nK (CI sm j,q)) (S++[.lst (b.map nK)]):=yV (xM _) λq _=>⟨_,rfl,rfl,by unfold bT;simp? [tup2];rfl⟩
  have i:cN (sm.map zA) (some ((j:Nat)+1)) none=(sm.drop (j+1)).map zA:=by rw[cutL_map,show((j:Nat):Int)+1=((j+1:Nat):Int)from rfl,Ci]
  have A:((sm.drop (j+1)).map λq=>nK (CI sm j,q)).length<=200:=by rw[lM,ĉ];omega
  refine⟨G4 sm S.length (some (zA j)) (some (zA (CI sm j))),_,?_,xM _,⟨_,_,rfl⟩,rfl,by rw[lA,lM,ĉ];rw[show(0+j+1) * 200=(0+j) * 200+200 by lia];omega⟩;rw[show qW 2 (zC (zY 2) (zC (zY 3) xB)) (.tup [zA j,zA (CI sm j)]) (G4 sm S.length x y) (S++[.lst (b.map nK)])=.ok _ (S++[.lst (b.map nK)])from rfl,gC];unfold aV fU;simp? [xA r,show∀S,jC (.val (zA j)) #[1,5] S=.ok #[(j:Nat)+1,5] S from λ_=>rfl,YD,i,dX,show(((sm.drop (j+1)).map zA).length<1000000)=True from eq_true (by rw[lM,ĉ];omega),show qG 1 [3] (G4 sm S.length (some (zA j)) (some (zA (CI sm j))))=[none,some (zA (CI sm j))]from rfl,w,YQ (zs:=(sm.drop (j+1)).map λq=>nK (CI sm j,q)) r (by rw[lM (as:=b)];lia)];rw[ý,ï];rw[show List.set (S++[MO.lst (b.map nK)]) S.length _=S++[MO.lst (b.map nK++(sm.drop (j+1)).map λq=>nK (CI sm j,q))] by simp];rfl) [] (G4 sm S.length none none) (S++[.lst []]) ⟨⟨_,_,rfl⟩,rfl,zero_le _⟩
 subst a n;rw[Cs,Ļ,RB]at f;have e2:aX (G4 sm S.length none none) (S++[.lst []])=#[G4 sm S.length x y,S++[.lst ((xL sm).map nK)],0]:=by unfold aX;simp? [Qs (f:=zA) (l:=sm) (g:=CI sm) (λk h=>by unfold CI;rw[gE h];rfl)];exact f
 refine QQ (T:=[.lst ((xL sm).map nK)]) (S2:=S) rfl rfl ?_ (.inr ⟨S.length,rfl,à _,by simp⟩) (yY λd v=>by obtain⟨p,_,rfl⟩:=mM.mp v;exact wG (yY λe s=>by simp only[mC,nM,or_false]at s;rcases s with rfl|rfl<;>exact bE _ _));show zS (oU [#[sm.map zA,3],none,none,none] S)=_;unfold oU;rw[zG e1,zG e2];rfl
section
variable{ts:Za}{rls:List Rule}{rs:List Row}
abbrev Z6(ts:Za)(rls:List Rule)(rs:List Row)(sm:Tk)(l:Nat)(x y:X2):Rho:=[some (zD ts rls rs),#[sm.map zA,3],#[l],#[l+1],x,y]
end
def T8(f:Nat->Nat->Bool)(R:Tk):Prop:= ∀i∈R, ∀j∈R,f i j=false
def pZ(f:Nat->Nat->Bool)(R kn:Tk):Bool:=kn.all λi=>decide (i∈R) || R.any λj=>f i j
def rP(l:Db)(x:Tk):List (List Nat):=if x∈l then l else l++[x]
def jM(f:Nat->Nat->Bool)(n:Nat)(R:Tk):List Nat:=R.filter λi=>!f n i
def RD(f:Nat->Nat->Bool)(kn:Tk)(n:Nat)(b:Db)(R:Tk):List (List Nat):=
 let a:=if jM f n R≠R then rP b R else b
 if pZ f (jM f n R++[n]) (kn++[n])=true then rP a (jM f n R++[n])else a
def grow(f:Nat->Nat->Bool)(kn:Tk)(n:Nat)(told:Db):List (List Nat):=told.foldl (RD f kn n) []
def rQ{l:Db}{x y:Tk}:y∈rP l x↔y∈l\/y=x:=by
 unfold rP;split
 .rename_i h;exact⟨.inl,λz=>z.elim id λz=>z▸h⟩
 .rw[ê,mS]
theorem rR(l:Db)(x:Tk):(rP l x).length<=l.length+1:=by
 unfold rP;split
 .lia
 .rw[lA];simp
theorem Qu{f:Nat->Nat->Bool}{kn:Tk}{n:Nat}{a:Db}{R y:Tk}:y∈RD f kn n a R↔y∈a\/(jM f n R≠R/\y=R)\/(pZ f (jM f n R++[n]) (kn++[n])=true/\y=jM f n R++[n]):=by
 unfold RD;by_cases h1:jM f n R≠R<;>by_cases b:pZ f (jM f n R++[n]) (kn++[n])=true
 .rw[iP h1,iP b,rQ,rQ];grind
 .rw[iP h1,iN b,rQ];grind
 .rw[iP b,rQ];grind
 .rw[iN b];grind
theorem RE{f:Nat->Nat->Bool}{kn:Tk}{n:Nat}{y:Tk}: ∀{told a:Db},y∈told.foldl (RD f kn n) a↔y∈a\/ ∃R∈told,(jM f n R≠R/\y=R)\/(pZ f (jM f n R++[n]) (kn++[n])=true/\y=jM f n R++[n])
 |[],a=>by simp
 |R::told,a=>by
  rw[ę,RE,Qu]
  grind
theorem GV{f:Nat->Nat->Bool}{kn:Tk}{n:Nat}: ∀(told a:Db),(told.foldl (RD f kn n) a).length<=a.length+2 * told.length
 |[],a=>by simp
 |R::told,a=>by
  rw[ę];have h:=GV (f:=f) (kn:=kn) (n:=n) told (RD f kn n a R);have d:(RD f kn n a R).length<=a.length+2:=by unfold RD;have c:=rR a R;have b:=rR (if jM f n R≠R then rP a R else a) (jM f n R++[n]);split<;>split at b<;>grind
  rw[lC]
  lia
def cJ{f:Nat->Nat->Bool}{R kn:Tk}:pZ f R kn=true↔ ∀i∈kn,i∈R\/ ∃j∈R,f i j=true:=by unfold pZ;simp[ù]
theorem UU{f:Nat->Nat->Bool}(a: ∀i,f i i=false)(b: ∀i j,f i j=f j i): ∀(n P:Tk),T8 f P-> ∃Q,(∀i∈P,i∈Q)/\(∀i∈Q,i∈P\/i∈n)/\T8 f Q/\pZ f Q n=true
 |[],P,h=>⟨P,λ_ h=>h,λ_ h=>.inl h,h,rfl⟩
 |k::n,P,h=>by
  by_cases c: ∃j∈P,f k j=true
  .obtain⟨Q,m,q,p,o⟩:=UU a b n P h;refine⟨Q,m,λi hi=>(q i hi).imp id λz=>.tail _ z,p,cJ.mpr λi hi=>?_⟩;rcases mC.mp hi with rfl|hi
   .obtain⟨j,d,e⟩:=c;exact .inr ⟨j,m j d,e⟩
   .exact cJ.mp o i hi
  .have r: ∀j∈P,f k j=false:=λj d=>by
    cases e:f k j with
    |false=>rfl
    |true=>exact absurd ⟨j,d,e⟩ c
   obtain⟨Q,m,q,p,o⟩:=UU a b n (k::P) (λi hi j d=>by
    rcases mC.mp hi with e1|h1<;>rcases mC.mp d with e2|h2
    .rw[e1,e2];exact a _
    .rw[e1];exact r j h2
    .rw[e2,b];exact r i h1
    .exact h i h1 j h2)
   refine⟨Q,λi hi=>m i (.tail _ hi),λi hi=>?_,p,cJ.mpr λi hi=>?_⟩
   .rcases q i hi with z|z
    .rcases mC.mp z with rfl|z
     .exact .inr (.head _)
     .exact .inl z
    .exact .inr (.tail _ z)
   .rcases mC.mp hi with rfl|hi
    .exact .inl (m _ (.head _))
    .exact cJ.mp o i hi
structure Pc(f:Nat->Nat->Bool)(kn:Tk)(told:Db):Prop where
 sub: ∀R∈told,R.Sublist kn
 ind: ∀R∈told,T8 f R
 full: ∀R∈told,pZ f R kn=true
 cov: ∀P:List Nat,(∀i∈P,i∈kn)->T8 f P-> ∃R∈told, ∀i∈P,i∈R
def Zj(f:Nat->Nat->Bool):Pc f [] [[]] where
 sub:=λR h=>by rw[mS.mp h];exact .refl _
 ind:=λR h=>by rw[mS.mp h];exact λi hi=>by cases hi
 full:=λR h=>rfl
 cov:=λP h _=>⟨[],.head _,λi hi=>h i hi⟩
def Qv{f:Nat->Nat->Bool}(o: ∀i,f i i=false)(q: ∀i j,f i j=f j i){kn:Tk}(h:Pc f kn told)(n:Nat):Pc f (kn++[n]) (grow f kn n told):=by
 have m: ∀R:List Nat,(jM f n R).Sublist R:=λR=>List.filter_sublist;have a: ∀(R:Tk)(i:Nat),i∈jM f n R↔i∈R/\f n i=false:=λR i=>by unfold jM;rw[á,ċ]
 have k: ∀y,y∈grow f kn n told↔ ∃R∈told,(jM f n R≠R/\y=R)\/(pZ f (jM f n R++[n]) (kn++[n])=true/\y=jM f n R++[n]):=λy=>by unfold grow;rw[RE];simp
 have p: ∀R∈told,T8 f _:=λR d i hi j b=>by
  rcases ê.mp hi with hi|hi<;>rcases ê.mp b with b|b
  .exact h.ind R d i ((a R i).mp hi).1 j ((a R j).mp b).1
  .rw[mS.mp b,q];exact((a R i).mp hi).2
  .rw[mS.mp hi];exact((a R j).mp b).2
  .rw[mS.mp hi,mS.mp b];exact o n
 refine⟨λy r=>?_,λy r=>?_,λy r=>?_,λP D F=>?_⟩
 .obtain⟨R,d,⟨_,rfl⟩|⟨_,rfl⟩⟩:=(k y).mp r
  .exact(h.sub _ d).trans (List.sublist_append_left _ _)
  .exact((m R).trans (h.sub R d)).append (.refl _)
 .obtain⟨R,d,⟨_,rfl⟩|⟨_,rfl⟩⟩:=(k y).mp r
  .exact h.ind _ d
  .exact p R d
 .obtain⟨R,d,⟨c,rfl⟩|⟨c,rfl⟩⟩:=(k y).mp r
  .refine cJ.mpr λi hi=>?_;rcases ê.mp hi with hi|hi
   .exact cJ.mp (h.full _ d) i hi
   .rw[mS.mp hi]
    have: ∃j∈y,f n j=true:=by
     refine ě λz=>c (filter_eq_self.mpr λj b=>?_)
     cases e:f n j with
     |false=>rfl
     |true=>exact absurd ⟨j,b,e⟩ z
    exact .inr this
  .exact c
 .obtain⟨Q,B,E,s,A⟩:=UU o q _ P F;have C: ∀i∈Q,i∈kn++[n]:=λi hi=>(E i hi).elim (D i) id;by_cases u:n∈Q
  .obtain⟨R,d,hs⟩:=h.cov _ (λi hi=>ì (á.mp hi).2) λi hi j b=>s i (á.mp hi).1 j (á.mp b).1
   have w: ∀i∈Q,i∈jM f n R++[n]:=λi hi=>by
    by_cases e:i=n
    .rw[e];simp
    .have v:i∈kn:=by
      rcases ê.mp (C i hi)with z|z
      .exact z
      .exact absurd (mS.mp z) e
     exact Đ _ ((a R i).mpr ⟨hs i (á.mpr ⟨hi,dT0 v⟩),s n u i hi⟩)
   refine⟨_,(k _).mpr ⟨R,d,.inr ⟨cJ.mpr λi hi=>?_,rfl⟩⟩,λi hi=>w i (B i hi)⟩;exact(cJ.mp A i hi).imp (w i) λ⟨j,b,e⟩=>⟨j,w j b,e⟩
  .have v: ∀i∈Q,i∈kn:=λi hi=>by
    rcases ê.mp (C i hi)with z|z
    .exact z
    .rw[mS.mp z]at hi;exact absurd hi u
   obtain⟨R,d,hs⟩:=h.cov Q v s;have G: ∃j∈Q,f n j=true:=(cJ.mp A n (by simp)).resolve_left u;refine⟨R,(k R).mpr ⟨R,d,.inl ⟨λz=>?_,rfl⟩⟩,λi hi=>hs i (B i hi)⟩;obtain⟨j,b,e⟩:=G;have:=hs j b;rw[<-z,a,e]at this;exact absurd this.2 (by decide)
def OB(m:Nat)(K:Tk):Prop:=K=(List.range m).filter λi=>decide (i∈K)
def YS{A B:Tk}(a:OB m A)(b:OB m B)(h: ∀i,i∈A↔i∈B):A=B:=by rw[a,b];refine filter_congr λi _=>ĳ.mpr (h i)
def GW{A:Tk}(h:OB m A):A.Nodup:=by rw[h];exact nodup_range.filter _
def DP(O K:Tk):Bool:=decide (K.length<O.length)&&K.all λi=>decide (i∈O)
def NB{O K:Tk}:DP O K=true↔K.length<O.length/\ ∀i∈K,i∈O:=by unfold DP;simp
def zL{F G:AY}{ρ ρ':Rho}{r:R Fl}(h:F ρ S=#[ρ',S',0])(k:G ρ' S'=r):zO F G ρ S=r:=(zG h).trans k
theorem aM{X:R Fl}{r:Er}(h:X=.ok (.ret r) S):zS X=.ok r S:=by rw[h];rfl
theorem NC{gf:MV->Rho->Sto->R Rho}{body:AY}{n:Nat}(I:Nat->Rho->Sto->Prop): ∀(L:X1)(i:Nat){ρ:Rho}{S:Sto},i+L.length<=n->I i ρ S->(∀d∈L, ∀i,i<n-> ∀ρ S,I i ρ S-> ∃b a S',gf d ρ S=.ok b S/\body b S=#[a,S',0]/\I (i+1) a S')-> ∃a S',gB gf body [] L ρ S=#[a,S',0]/\I (i+L.length) a S'
 |[],i,ρ,S,_,h,_=>⟨ρ,S,rfl,h⟩
 |d::L,i,ρ,S,hn,h,st=>by rw[lC]at hn ⊢;obtain⟨b,ρ1,S1,h1,o,j⟩:=st d mF0 i (by omega) ρ S h;obtain⟨a,S',c,k⟩:=NC I L (i+1) (by omega) j λe m=>st e (mO _ m);exact⟨a,S',by rw[jE h1 o (xM _),c],by rw[show i+(L.length+1)=i+1+L.length by omega];exact k⟩
def md{x n:Int}(h:0<n:=by decide):0<=x % n/\x % n<n:=⟨eN _ (by omega),eL _ h⟩
section
variable{gf:MV->Rho->Sto->R Rho}{cf:AZ}{ef:AX}{ρb ρ1:Rho}{gs:X4}{d y:MV}{ds out:X1}{S S1 S2:Sto}
theorem Ja(h1:gf d ρb S=.ok ρ1 S)(b:cf ρ1 S=.ok true S)(c:ef ρ1 S=#[y,S1,1])(a:stay gs S1)(e:zT gf cf ef ρb gs ds S1=.ok out S2):zT gf cf ef ρb gs (d::ds) S=.ok (y::out) S2:=by unfold zT;rw[h1,yM,gC,b,yM,gC,iP rfl,c,yM,gC];unfold kH;rw[gC,iP a,e];rfl
end
def lN{A K:Tk}(h:jL tk A K):(∀i∈K,i∈A)/\ ∀t∈tk,t.1∈K-> ∃j∈t.2,j∈K:=by obtain⟨⟨p,e⟩,k,_⟩:=h;refine⟨λi hi=>by rw[e]at hi;exact(á.mp hi).1,λt d c=>?_⟩;refine ě λz=>?_;have:=UQ.mpr ⟨c,t.2,d,λj b a=>z ⟨j,b,a⟩⟩;rw[k]at this;cases this
def CL{A K a:Tk}(h:jL tk A K)(h':jL tk A a):K=a:=by
 have c: ∀i,i∈K↔i∈a:=λi=>⟨h'.2.2 (λi=>i∈K) (lN h).1 (lN h).2 i,h.2.2 (λi=>i∈a) (lN h').1 (lN h').2 i⟩
 obtain⟨⟨p,e⟩,_⟩:=h;obtain⟨⟨d,b⟩,_⟩:=h';rw[e,b];refine filter_congr λi hi=>?_;have:=c i;rw[e,b,á,á]at this;rw[Ą];exact⟨λz=>(this.mp ⟨hi,z⟩).2,λz=>(this.mpr ⟨hi,z⟩).2⟩
section
variable{ts:Za}{rls:List Rule}{rs:List Row}
theorem Jb(a:rs.length<=100)(S:Sto):zK 1 cT [.val (zD ts rls rs)] S=.ok #[(List.range rs.length).map zA,6] S:=by refine xE (T:=[]) rfl ?_ (wG (pQ _ _)) (λl=>by simp);show zS (oS [some _] S)=_;unfold oS oR;simp? [AQ,MM,lM];unfold PY;dsimp only;rw[iP #[],aN];unfold Pf;rw[ï];rfl
def Qw(ts:Za)(rls:List Rule)(rs:List Row)(p:Nat×Nat):Bool:=!(GU ts rls rs p.1 p.2).isEmpty
theorem Ct(c: ∀r∈rls,nH ts r)(q: ∀r∈rs,qL ts r)(j:rs.length<=100)(b:rls.length<=100)(m:jL (cI rls rs) (gN rls rs (List.range rs.length)) Hd)(S:Sto):
  zK 1 sP [.val (zD ts rls rs)] S=#[((xL Hd).filter (Qw ts rls rs)).map nK,S,2]:=by
 have a: ∀i∈Hd,i<rs.length:=λi hi=>ç.mp (á.mp ((lN m).1 i hi)).1;have k:Hd.Nodup:=by obtain⟨⟨p,e⟩,_⟩:=m;rw[e];exact(nodup_range.filter _).filter _
 have h:Hd.length<=100:=í (k.length_le_of_subset λi hi=>ç.mpr (a i hi)) (by rw[æ];exact j);refine nB (T:=[.lst (rls.map bL)]) rfl ?_ (yY λd v=>?_)
 .show zS (sO [some (zD ts rls rs),none] S)=_;unfold sO;refine aM (zL (ρ':=[some (zD ts rls rs),#[S.length]]) (S':=S++[.lst (rls.map bL)]) ?_ ?_)
  .unfold rD;simp? [EF c b]
  .have z:(S++[MO.lst (rls.map bL)])[S.length]? =#[rls.map bL,2]:=by simp
   obtain⟨K,o,y⟩:=UR c q j b (λi hi=>ç.mp hi) nodup_range (by rw[æ];exact j) (S++[.lst (rls.map bL)]);rw[CL y m]at o
   have w:zT (qW 2 (zC (zY 0) (zC (zY 1) xB))) dG dH [none,none,some (zD ts rls rs),#[S.length]] [] _ (S++[.lst (rls.map bL)])=.ok (((xL Hd).filter (Qw ts rls rs)).map nK) _:=xK (xM _) λp A=>by
    have n:=CK A;refine⟨_,rfl,?_,?_⟩
    .unfold dG;simp? [Te c q b (a _ n.1) (a _ n.2) z];unfold Qw;cases GU ts rls rs p.1 p.2<;>rfl
    .unfold dH;exists 7,rfl
   have u:=pairs_len Hd;have B:Hd.length * Hd.length<=100 * 100:=mul_le_mul h h;unfold rE;simp? [Jb j,o,YR (show Hd.length<=200 by lia)];rw[show tG _ _=.ok ⟨_,[]⟩ _ from rfl,gC];dsimp only;rw[iP (by rw[lM];lia),show qG 2 [0,1] [some (zD ts rls rs),some (MV.loc S.length)]=[none,none,some (zD ts rls rs),#[S.length]]from rfl,w];rfl
 .obtain⟨p,_,rfl⟩:=mM.mp v;exact wG (yY λe s=>by simp only[mC,nM,or_false]at s;rcases s with rfl|rfl<;>exact bE _ _)
end
abbrev ND(F:List (Nat×Nat×List Nat)):List (MV×MV):=F.map λx=>(zA x.1,MV.loc x.2.1)
def Zk(F:List (Nat×Nat×List Nat))(a b:Nat):Prop:= ∃x∈F,x.1=a/\b∈x.2.2
structure FoeAt(S0:Sto)(l:Nat)(F:List (Nat×Nat×List Nat))(S:Sto):Prop where
 dic:S[l]? =#[ND F,7]
 pl: ∀x∈F,S[x.2.1]? =#[x.2.2.map zA,2]
 pn:F.Pairwise λx y=>x.2.1≠y.2.1
 kn:F.Pairwise λx y=>x.1≠y.1
 lo:S0.length<=l/\ ∀x∈F,S0.length<=x.2.1
 old:Old S0 S
theorem YT{β:Type}{g:β->Nat}: ∀{F:List β},F.Pairwise (λx y=>g x≠g y)-> ∀x∈F, ∀y∈F,g x=g y->x=y
 |[],_,x,hx,_,_,_=>by cases hx
 |a::F,h,x,hx,y,hy,e=>by
  obtain⟨h1,b⟩:=pairwise_cons.mp h;rcases mC.mp hx with e1|hx'<;>rcases mC.mp hy with e2|hy'
  .rw[e1,e2]
  .rw[e1]at e;exact absurd e (h1 y hy')
  .rw[e2]at e;exact absurd e.symm (h1 x hx')
  .exact YT b x hx' y hy' e
theorem Zl(F:List (Nat×Nat×List Nat)):(ND F).all (λp=>tI p.1)=true:=by rw[ó];intro p a;obtain⟨x,_,rfl⟩:=mM.mp a;rfl
def uW{l:Nat}{F:List (Nat×Nat×List Nat)}(h:S[l]? =#[ND F,7]):uH S #[l,1]=some (l,ND F):=by unfold uH;dsimp only;rw[h];exact iP (Zl F)
def KE{F:List (Nat×Nat×List Nat)}(kn:F.Pairwise λx y=>x.1≠y.1){x:Nat×Nat×List Nat}(a:x∈F):look (ND F) (zA x.1)=#[x.2.1]:=by
 induction F with
 |nil=>cases a
 |cons y F ih=>
  obtain⟨h1,b⟩:=pairwise_cons.mp kn;unfold look at ih ⊢;rw[show ND _=_::ND F from rfl,find?_cons];rcases mC.mp a with rfl|a
  .rw[dT0 rfl];rfl
  .rw[dF0 λz=>h1 x a (pP z)];exact ih b a
def CN{F:List (Nat×Nat×List Nat)}{i:Nat}(h: ∀x∈F,x.1≠i):look (ND F) (zA i)=none:=by
 unfold look;rw[List.find?_eq_none.mpr]
 .rfl
 .intro p b;obtain⟨x,a,rfl⟩:=mM.mp b;rw[î];exact λz=>h x a (pP z)
theorem YU{l:Nat}{F:List (Nat×Nat×List Nat)}(h:FoeAt S0 l F S)(L:F.length<10000)(J: ∀x∈F,x.2.2.length<10000)(i j:Nat):
  ∃p S1 S2 v ds,UF #[l,1] [.val (zA i),.new []] S=.ok #[p,1] S1/\S1[p]? =#[ds,2]/\fD #[p,1] [.val (zA j)] S1=#[.non,S2,1]/\FoeAt S0 l v S2/\(∀a b,Zk v a b↔Zk F a b\/(a=i/\b=j))/\
   v.length<=F.length+1/\(∀x∈v,x.2.2≠[]\/x∈F)/\ ∀x∈v,x.2.2.length<=1\/ ∃y∈F,x.2.2.length<=y.2.2.length+1:=by
 have r:Old S (S++[.lst []]):=Old.app _ _;have E:uH (S++[.lst []]) #[l,1]=some (l,ND F):=uW (r _ _ h.dic);have s:tI (zA i)=true/\(ND F).length<1000000:=⟨rfl,by rw[lM];lia⟩
 by_cases c: ∃x∈F,x.1=i
 .obtain⟨x,n,rfl⟩:=c;have B:(S++[MO.lst []])[x.2.1]? =#[x.2.2.map zA,2]:=r _ _ (h.pl x n);have H:x.2.1≠l:=λz=>by have:=h.pl x n;rw[z,h.dic]at this;cases this
  have I:=J x n;refine⟨x.2.1,_,_,F.map λy=>if y.1=x.1 then(y.1,y.2.1,y.2.2++[j])else y,_,?_,B,eM B (by rw[lM];lia),?_,?_,by rw[lM];lia,?_,?_⟩
  .unfold UF kH;dsimp only;rw[gC];unfold Ce;rw[E];dsimp only;rw[iP s,KE h.kn n]
  .have K: ∀y∈F,y.1=x.1->y=x:=λy d e=>YT h.kn y d x n e;have G: ∀y∈F,y.2.1=x.2.1->y=x:=λy d e=>YT h.pn y d x n e;have o: ∀y:Nat×Nat×List Nat,(if y.1=x.1 then(y.1,y.2.1,y.2.2++[j])else y).1=y.1/\(if y.1=x.1 then(y.1,y.2.1,y.2.2++[j])else y).2.1=y.2.1:=λy=>by split<;>exact⟨rfl,rfl⟩
   refine⟨?_,λy d=>?_,?_,?_,⟨h.lo.1,λy d=>?_⟩,?_⟩
   .rw[õ H,r _ _ h.dic];unfold ND;rw[ï];congr 2;exact map_congr_left λy _=>by show _=(zA _,MV.loc _);rw[(o y).1,(o y).2]
   .obtain⟨z,m,rfl⟩:=mM.mp d;by_cases e:z.1=x.1
    .rw[iP e];cases K z m e;show _[x.2.1]? =_;rw[ă (gS.mp B).1,ý];rfl
    .rw[iN e,õ λq=>e (by rw[G z m q.symm])];exact r _ _ (h.pl z m)
   .exact Č.mpr (h.pn.imp λ{a b} q=>by rw[(o a).2,(o b).2];exact q)
   .exact Č.mpr (h.kn.imp λ{a b} q=>by rw[(o a).1,(o b).1];exact q)
   .obtain⟨z,m,rfl⟩:=mM.mp d;rw[(o z).2];exact h.lo.2 z m
   .exact(h.old.trans r).set (h.lo.2 x n) _
  .intro a b;constructor
   .rintro⟨y,d,rfl,k⟩;obtain⟨z,m,rfl⟩:=mM.mp d;by_cases e:z.1=x.1
    .rw[iP e]at k ⊢;rcases ê.mp k with k|k
     .exact .inl ⟨z,m,rfl,k⟩
     .exact .inr ⟨e,mS.mp k⟩
    .rw[iN e]at k ⊢;exact .inl ⟨z,m,rfl,k⟩
   .rintro(⟨z,m,rfl,k⟩|⟨rfl,rfl⟩)
    .refine⟨_,mM.mpr ⟨z,m,rfl⟩,?_,?_⟩
     .split<;>rfl
     .split
      .exact Đ _ k
      .exact k
    .refine⟨_,mM.mpr ⟨x,n,rfl⟩,?_,?_⟩
     .rw[iP rfl]
     .rw[iP rfl];exact ö _ (.head _)
  .intro y d;obtain⟨z,m,rfl⟩:=mM.mp d;split
   .exact .inl (by simp)
   .exact .inr m
  .intro y d;obtain⟨z,m,rfl⟩:=mM.mp d;refine .inr ⟨z,m,?_⟩;split
   .rw[lA];simp
   .lia
 .have w: ∀x∈F,x.1≠i:=λx n e=>c ⟨x,n,e⟩;have M:l<S.length:=(gS.mp h.dic).1;have C: ∀x∈F,x.2.1<S.length:=λx n=>(gS.mp (h.pl x n)).1;have u:S0.length<=S.length:=sZ h.old;have D:((S++[MO.lst []]).set l (.dic (ND F++[(zA i,.loc S.length)])))[S.length]? =#[[],2]:=by rw[õ #[]];simp
  refine⟨_,_,_,F++[(i,S.length,[j])],[],?_,D,eM D (by decide),?_,?_,by rw[lA];simp,?_,?_⟩
  .unfold UF kH;dsimp only;rw[gC];unfold Ce;rw[E];dsimp only;rw[iP s,CN w];unfold putK;rw[CN w];rfl
  .refine⟨?_,λy d=>?_,?_,?_,⟨h.lo.1,λy d=>?_⟩,?_⟩
   .rw[õ #[],ă (by rw[lA];simp;lia)];unfold ND;rw[ý];rfl
   .rcases ê.mp d with d|d
    .have:=C y d;rw[õ #[],õ λz=>by have:=h.pl y d;rw[<-z,h.dic]at this;cases this];exact r _ _ (h.pl y d)
    .rw[mS.mp d];show(List.set _ S.length _)[S.length]? =_;rw[ă (by rw[Ľ,lA];simp)];rfl
   .exact List.pairwise_append.mpr ⟨h.pn,pairwise_singleton _ _,λa A b k=>by rw[mS.mp k];have:=C a A;show a.2.1≠S.length;lia⟩
   .exact List.pairwise_append.mpr ⟨h.kn,pairwise_singleton _ _,λa A b k=>by rw[mS.mp k];exact w a A⟩
   .rcases ê.mp d with d|d
    .exact h.lo.2 y d
    .rw[mS.mp d];exact u
   .exact((h.old.trans r).set h.lo.1 _).set u _
  .intro a b;unfold Zk;constructor
   .rintro⟨y,d,rfl,k⟩;rcases ê.mp d with d|d
    .exact .inl ⟨y,d,rfl,k⟩
    .rw[mS.mp d]at k ⊢;exact .inr ⟨rfl,mS.mp k⟩
   .rintro(⟨y,d,rfl,k⟩|⟨rfl,rfl⟩)
    .exact⟨y,Đ _ d,rfl,k⟩
    .exact⟨_,ö _ (.head _),rfl,.head _⟩
  .intro y d;rcases ê.mp d with d|d
   .exact .inr d
   .rw[mS.mp d];exact .inl (by simp)
  .intro y d;rcases ê.mp d with d|d
   .exact .inr ⟨y,d,by lia⟩
   .rw[mS.mp d];exact .inl (à _)
section
variable{ts:Za}{rls:List Rule}{rs:List Row}
abbrev Zm(b:MV)(l:Nat)(x y:X2):Rho:=[some b,#[l],x,y]
structure FoI(S0:Sto)(k:Nat)(done:List (Nat×Nat))(S:Sto)(F:List (Nat×Nat×List Nat)):Prop where
 at':FoeAt S0 S0.length F S
 fr: ∀a b,Zk F a b↔(a,b)∈done\/(b,a)∈done
 ne: ∀x∈F,x.2.2≠[]
 len:F.length<=2 * k
 ll: ∀x∈F,x.2.2.length<=2 * k
theorem Jc{k:Nat}{d:List (Nat×Nat)}{F:List (Nat×Nat×List Nat)}(h:FoI S0 k d S F)(N:k<4500)(p:Nat×Nat)(b:MV):
  ∃S' L,lG (Zm b S0.length (some (zA p.1)) (some (zA p.2))) S=#[Zm b S0.length (some (zA p.1)) (some (zA p.2)),S',0]/\FoI S0 (k+1) (d++[p]) S' L:=by
 obtain⟨M,S1,S2,C,E,J,A,o,i,I,T,j,G⟩:=YU h.at' (by have:=h.len;lia) (λx c=>by have:=h.ll x c;lia) p.1 p.2
 have e: ∀x∈C,x.2.2.length<=2 * k+1:=λx c=>by
  rcases G x c with z|⟨y,hy,z⟩
  .lia
  .have:=h.ll y hy;lia
 obtain⟨O,P,m,q,D,u,s,r,H,v,Q,K,B⟩:=YU i (by have:=h.len;lia) (λx c=>by have:=e x c;lia) p.2 p.1;have n:FT #[S0.length,1] S=true:=by unfold FT;rw[uW h.at'.dic];rfl
 have w:FT #[S0.length,1] S2=true:=by unfold FT;rw[uW i.dic];rfl
 refine⟨m,q,?_,⟨H,λa b=>?_,λx c=>?_,by have:=h.len;lia,λx c=>?_⟩⟩
 .unfold lG;refine zL (ρ':=Zm b S0.length (some (zA p.1)) (some (zA p.2))) (S':=S2) ?_ ?_
  .unfold lU;exists 7,n,J,xA A,o
  .unfold lV;exists 7,w,u,xA s,r
 .rw[v,I,h.fr,ê,ê,mS,mS];obtain⟨p1,p2⟩:=p
  grind
 .rcases K x c with z|z
  .exact z
  .rcases j x z with z|z
   .exact z
   .exact h.ne x z
 .rcases B x c with z|⟨y,hy,z⟩
  .lia
  .have:=e y hy;lia
theorem Zn(v: ∀r∈rls,nH ts r)(G: ∀r∈rs,qL ts r)(C:rs.length<=60)(u:rls.length<=100)(w:jL (cI rls rs) (gN rls rs (List.range rs.length)) Hd)(S:Sto):
  ∃F S',zK 1 eU [.val (zD ts rls rs)] S=.ok #[S.length,1] S'/\FoI S 3600 ((xL Hd).filter (Qw ts rls rs)) S' F:=by
 generalize m:(xL Hd).filter (Qw ts rls rs)=cl
 have D:cl.length<=3600:=by
  have h1:=pairs_len Hd;have o: ∀i∈Hd,i<rs.length:=λi hi=>ç.mp (á.mp ((lN w).1 i hi)).1;have n:Hd.Nodup:=by obtain⟨⟨p,e⟩,_⟩:=w;rw[e];exact(nodup_range.filter _).filter _
  have z:Hd.length<=60:=í (n.length_le_of_subset λi hi=>ç.mpr (o i hi)) (by rw[æ];exact C);have L:Hd.length * Hd.length<=60 * 60:=mul_le_mul z z;have I:=ñ (Qw ts rls rs) (xL Hd);rw[m]at I
  lia
 obtain⟨ρ',S',f1,⟨x,y,rfl⟩,F,d⟩:=oE (gf:=qW 2 (zC (zY 2) (zC (zY 3) xB))) (λk h ρ S1=>(∃x y,ρ=Zm (zD ts rls rs) S.length x y)/\ ∃F,FoI S k h S1 F) (λh p=>h++[p]) (ds:=cl) 0 (λj p A h ρ S1 ⟨⟨x,y,s⟩,F,q⟩=>by subst s;have E:=(gS.mp A).1;obtain⟨S',K,B,H⟩:=Jc q #[] p (zD ts rls rs);refine⟨Zm (zD ts rls rs) S.length (some (zA p.1)) (some (zA p.2)),S',?_,xM _,⟨_,_,rfl⟩,K,H⟩;rw[show qW 2 _ (nK p) _ S1=.ok _ S1 from rfl,gC];exact B) [] _ (S++[.dic []]) ⟨⟨_,_,rfl⟩,[],⟨⟨by simp,λx c=>(nomatch c),.nil,.nil,⟨à _,λx c=>(nomatch c)⟩,Old.app _ _⟩,λa b=>by unfold Zk;simp,λx c=>(nomatch c),zero_le _,λx c=>(nomatch c)⟩⟩
 have J: ∀(l b:List (Nat×Nat)),l.foldl (λh p=>h++[p]) b=b++l:=λl=>by
  induction l with
  |nil=>intro b;simp
  |cons a l ih=>intro b;rw[ę,ih,aA];rfl
 rw[J,Ļ]at d;refine⟨F,S',?_,⟨d.at',d.fr,d.ne,by have:=d.len;lia,λx c=>by have:=d.ll x c;lia⟩⟩
 have q:eU [zD ts rls rs] S=.ok #[S.length,1] S':=by
  show zS _=_;unfold BU;refine aM (zL (ρ':=Zm (zD ts rls rs) S.length none none) (S':=S++[.dic []]) ?_ (zL (ρ':=Zm (zD ts rls rs) S.length x y) (S':=S') ?_ ?_))
  .unfold rF;simp? [gC];rfl
  .unfold rG;simp? [Ct v G #[] u w,m,show∀ds S,tG (.new ds) S=.ok ⟨ds,[]⟩ S from λ_ _=>rfl];exact f1
  .unfold rH;simp? [gC]
 unfold zK;rw[iP (show [Er.val (zD ts rls rs)].length=1 from rfl)];show((noX (eU [zD ts rls rs] S)).bind λr S2=>bN S r S2)=_;rw[q,yM,gC];unfold bN;rw[iP (YJ d.at'.old)];dsimp only;rw[iN (Ě _),d.at'.dic]
end
def YV{i:Nat}{R:Tk}:zA i∈R.map zA↔i∈R:=⟨λh=>by obtain⟨j,a,e⟩:=mM.mp h;exact pP e▸a,λh=>mM.mpr ⟨i,h,rfl⟩⟩
def YW{R:Tk}: ∀y∈R.map zA,pd y=true/\GL y<40:=λy a=>by obtain⟨i,_,rfl⟩:=mM.mp a;exact⟨rfl,by show GL (MV.int _)<40;unfold GL;decide⟩
def YX{l:Nat}{R:Tk}(a:Bool)(h:S[l]? =#[R.map zA,2])(i:Nat):SW a (.val (zA i)) #[l,1] S=#[.bl (if a=true then !decide (i∈R)else decide (i∈R)),S,1]:=by rw[Qi a h rfl YW,ĳ.mpr (YV)]
def YY(a:Bool)(i:Nat)(R:Tk)(S:Sto):SW a (.val (zA i)) #[R.map zA,6] S=#[.bl (if a=true then !decide (i∈R)else decide (i∈R)),S,1]:=by
 have:=YX (S:=[.lst _]) (l:=0) (R:=R) a rfl i;show qX a (.val _) #[_,6] S=_;unfold qX;rw[show itemsOf S _=some _ from rfl];dsimp only;rw[AM rfl YW];dsimp only;have b:((R.map zA).map λy=>decide (y=zA i)).any id=decide (i∈R):=by rw[Ĩ,Ą,ù,î, <-YV];exact⟨λ⟨y,d,e⟩=>by have:y=zA i:=ì e;exact this▸d,λc=>⟨_,c,dT0 rfl⟩⟩
 rw[b]
def UV(F:List (Nat×Nat×List Nat))(i:Nat):List Nat:=((F.find? λx=>decide (x.1=i)).map (·.2.2)).getD []
def fB(F:List (Nat×Nat×List Nat))(i j:Nat):Bool:=decide (j∈UV F i)
theorem Je{F:List (Nat×Nat×List Nat)}(kn:F.Pairwise λx y=>x.1≠y.1){x:Nat×Nat×List Nat}(a:x∈F):UV F x.1=x.2.2:=by
 unfold UV
 cases e:F.find? λy=>decide (y.1=x.1)with
 |none=>exact absurd (dT0 rfl) (List.find?_eq_none.mp e x a)
 |some y=>
  have h1:=List.find?_some e;rw[YT kn y (List.mem_of_find?_eq_some e) x a (ì h1)];rfl
def UW{F:List (Nat×Nat×List Nat)}(kn:F.Pairwise λx y=>x.1≠y.1){i j:Nat}:fB F i j=true↔Zk F i j:=by
 unfold fB Zk;rw[î];constructor
 .intro h;unfold UV at h
  cases e:F.find? λy=>decide (y.1=i)with
  |none=>rw[e]at h;cases h
  |some y=>
   rw[e]at h;have h1:=List.find?_some e;exact⟨y,List.mem_of_find?_eq_some e,ì h1,h⟩
 .rintro⟨x,b,rfl,a⟩;rw[Je kn b];exact a
def YZ{l:Nat}{F:List (Nat×Nat×List Nat)}(h:FoeAt S0 l F S){i:Nat}(hi:i∈F.map (·.1)): ∃p,LW #[l,1] (.val (zA i)) S=.ok #[p,1] S/\S[p]? =#[(UV F i).map zA,2]:=by obtain⟨x,a,rfl⟩:=mM.mp hi;refine⟨_,?_,by rw[Je h.kn a];exact h.pl x a⟩;unfold LW;rw[uW h.dic];dsimp only;rw[iP (show tI _=true from rfl),KE h.kn a]
def Jf(A B:Tk):(A.any λj=>decide (j∈B))=B.any λj=>decide (j∈A):=by rw[Ą,ù,ù];exact⟨λ⟨j,h,e⟩=>⟨j,ì e,dT0 h⟩,λ⟨j,h,e⟩=>⟨j,ì e,dT0 h⟩⟩
theorem Zo{l:Nat}{F:List (Nat×Nat×List Nat)}(h:FoeAt S0 l F S)(n: ∀x∈F,x.2.2.length<=8000){kn:Tk}(d:S[lk]? =#[kn.map zA,2])(e:kn.length<=1000)(a: ∀i∈kn,i∈F.map (·.1))(R:Tk):
  zK 3 sR [#[R.map zA,6],#[lk,1],#[l,1]] S=#[.bl (pZ (fB F) R kn),S,1]:=by
 refine xE (T:=[]) rfl ?_ (PC _ _) (λl=>by simp);show zS (sQ [#[R.map zA,3],#[lk],#[l]] S)=_;unfold sQ rK
 have q:zT (zY 0) lW dN [none,some _,#[l]] [(lk,kn.map zA)] (kn.map zA) S=.ok (kn.map λi=>.bl (decide (i∈R) || R.any λj=>fB F i j)) S:=yV (yN d) λi hi=>by
  refine⟨[some (zA i),#[R.map zA,3],#[l]],rfl,rfl,?_⟩;obtain⟨p,p1,p2⟩:=YZ h (a i hi);have m:(UV F i).length<=8000:=by obtain⟨x,c,rfl⟩:=mM.mp (a i hi);rw[Je h.kn c];exact n x c
  have b:zT (zY 0) dM gI [none,#[R.map zA,3]] [_] _ S=.ok ((UV F i).map λj=>.bl (decide (j∈R))) S:=yV (yN p2) λj r=>by refine⟨[some (zA j),some _],rfl,rfl,?_⟩;unfold gI;simp? [YY];rfl
  unfold dN;simp? [YY]
  cases s:decide (i∈R)with
  |true=>rfl
  |false=>
   rw[show qG 1 [1] [some (zA i),some _,#[l]]=[none,some _]from rfl];show((((LW _ (Er.val (zA i)) S).bind tG).bind λk S=>if k.ds.length<1000000 then(zT (zY 0) dM gI [none,some _] k.gs k.ds S).bind λo S=>.ok (Er.new o) S else .no).bind λp S=>.ok [p] S).bind SY=_;rw[p1,gC,kL p2,gC];dsimp only;rw[iP (by rw[lM];lia),b,gC,gC,gC,MY,Jf];rfl
 simp? [kL d,show((kn.map zA).length<1000000)=True from eq_true (by rw[lM];lia),show qG 1 [0,2] [#[R.map zA,3],#[lk],#[l]]=[none,#[R.map zA,3],#[l]]from rfl,q,MU];rw[aN];rfl
abbrev yS(R:Tk):MV:=.tup (R.map zA)
def iH(A:Db):List (MV×MV):=A.map λR=>(yS R,MV.bl true)
def ZA{A B:Tk}(h:yS A=yS B):A=B:=by
 have h:=by injection h
 exact(List.map_inj_right λa b e=>pP e).mp h
theorem NF: ∀R:List Nat,jW (R.map zA)=some (R.map λi:Nat=>NK.key (some (Sum.inl (i:Int))))/\tN (R.map λi:Nat=>NK.key (some (Sum.inl (i:Int))))=0
 |[]=>⟨sF,rfl⟩
 |i::R=>by obtain⟨h1,a⟩:=NF R;rw[è,fH,show wK (zA i)=some _ from fF _,h1];refine⟨rfl,?_⟩;show max 0 _=0;rw[a];rfl
theorem Qx(R:Tk):keyOk (yS R)=true:=by unfold keyOk;rw[fG,(NF R).1];show(true&&decide _)=true;rw[show qS _=tN _+1 from rfl,(NF R).2];rfl
theorem NG{l:Nat}{A:Db}(h:S[l]? =#[iH A,7]):vP S #[l,1]=some (l,iH A):=by unfold vP;dsimp only;rw[h];refine iP (ó.mpr λp a=>?_);obtain⟨R,_,rfl⟩:=mM.mp a;rfl
def Jg(A:Db)(R:Tk):(look (iH A) (yS R)).isSome=decide (R∈A):=by
 induction A with
 |nil=>rfl
 |cons a A ih=>
  unfold look at ih ⊢;rw[show iH _=_::iH A from rfl,find?_cons];by_cases e:a=R
  .rw[dT0 (by rw[e]),dT0 (by rw[e];exact .head _)];rfl
  .rw[dF0 λz=>e (ZA z)];rw[ih];exact ĳ.mpr ⟨λz=>.tail _ z,λz=>(mC.mp z).resolve_left λy=>e y.symm⟩
theorem Qy(A:Db)(R:Tk):putK (iH A) (yS R) (.bl true)=iH (rP A R):=by
 unfold putK rP;rw[Jg];by_cases h:R∈A
 .rw[iP (dT0 h),iP h];unfold iH;rw[ï];refine map_congr_left λB _=>?_;show _=_;exact ite_self _
 .rw[iN (by rw[î];exact h),iN h];unfold iH;rw[ý];rfl
def NH{l:Nat}{A:Db}(h:S[l]? =#[iH A,7])(a:A.length<1000000)(R:Tk)(ρ:Rho):vQ #[l,1] (.val (yS R)) (.bl true) ρ S=.ok ρ (S.set l (.dic (iH (rP A R)))):=by unfold vQ;rw[NG h];dsimp only;rw[iP ⟨Qx R,by unfold iH;rw[lM];exact a⟩,Qy]
theorem Jh{l:Nat}{A:Db}(h:S[l]? =#[iH A,7]):BR [#[l,1]] S=#[A.map yS,S,2]:=by unfold BR;dsimp only;rw[NG h];dsimp only;unfold iH;rw[ï];rfl
def Ji{l:Nat}{A:Db}(h:S[l]? =#[iH A,7]):LZ #[l,1] S=.ok ⟨A.map yS,[]⟩ (S.set l (.fdc (iH A))):=by unfold LZ;rw[NG h];dsimp only;rw[show(iH A).map (·.1)=A.map yS by unfold iH;rw[ï];rfl]
def Jj{l:Nat}{A:Db}(h:S[l]? =some (.fdc (iH A))):LZ #[l,1] S=.ok ⟨A.map yS,[]⟩ S:=by unfold LZ;rw[show vP S _=none by unfold vP;dsimp only;rw[h]];rw[show XN S _=some _ by unfold XN;dsimp only;rw[h]];dsimp only;rw[show(iH A).map (·.1)=A.map yS by unfold iH;rw[ï];rfl]
abbrev Jk(lf lk:Nat)(a:X2)(n:Nat)(lg:Nat)(x y:X2):Rho:=[#[lf],#[lk],a,some (zA n),#[lg],x,y]
theorem ZC(R:Tk):pd (yS R)=true/\GL (yS R)<40:=by
 have h: ∀R:List Nat,UK (R.map zA)=true/\AI (R.map zA)<=0:=λR=>by
  induction R with
  |nil=>exact⟨rfl,à _⟩
  |cons i R ih=>
   rw[è];exact⟨by unfold UK;rw[ih.1];rfl,by unfold AI;rw[show GL _=0 from rfl];have:=ih.2;lia⟩
 exact⟨by show UK _=true;exact(h R).1,by have:=(h R).2;show AI _+1<40;lia⟩
theorem Jl(A B:Tk)(S:Sto):OW (.val (yS A)) (.val (yS B)) S=#[.bl (decide (A≠B)),S,1]:=by
 rw[TF (iC _ (ZC A).1 (ZC B).1 (by have:=(ZC A).2;unfold zI;lia))];by_cases e:A=B
 .rw[dT0 (by rw[e]),dF0 (λz=>z e)];rfl
 .rw[dF0 (λz=>e (ZA z)),dT0 e];rfl
def FoeAt.setG{lg:Nat}{F:List (Nat×Nat×List Nat)}{kv:X5}(h:FoeAt S0 lf F S)(hg:S[lg]? =#[kv,7])(hne:lg≠lf)(hl:S0.length<=lg)(o:MO):FoeAt S0 lf F (S.set lg o) where
 dic:=by rw[õ hne];exact h.dic
 pl:=λx hx=>by rw[õ λz=>by have:=h.pl x hx;rw[<-z,hg]at this;cases this];exact h.pl x hx
 pn:=h.pn
 kn:=h.kn
 lo:=h.lo
 old:=h.old.set hl _
theorem Cu{F:List (Nat×Nat×List Nat)}(h:FoeAt S0 lf F S){n:Nat}(a:n∈F.map (·.1))(R:Tk):
  zT (zY 0) xV jY [none,#[lf],some (zA n)] [] (R.map zA) S=.ok ((jM (fB F) n R).map zA) S:=xK (xM _) λi hi=>by
 obtain⟨p,p1,p2⟩:=YZ h a;refine⟨_,rfl,?_,rfl⟩;unfold xV;simp? [p1,YX true p2];rfl
theorem T9{lg n:Nat}{F:List (Nat×Nat×List Nat)}(h:FoeAt S0 lf F S)(r: ∀x∈F,x.2.2.length<=8000){kn:Tk}(m:S[lk]? =#[(kn++[n]).map zA,2])(o:kn.length<=900)(a: ∀i∈kn++[n],i∈F.map (·.1))
  {acc:Db} (hg:S[lg]? =#[iH acc,7]) (hal:acc.length<=900000) (hlg:lg≠lf) (hl0:S0.length<=lg) (R:Tk) (hR:R.length<=1000) (td y:X2):
  xF (Jk lf lk td n lg (some (yS R)) y) S=#[Jk lf lk td n lg (some (yS R)) (some (yS (jM (fB F) n R))),S.set lg (.dic (iH (RD (fB F) kn n acc R))),0]:=by
 have q:n∈F.map (·.1):=a n (by simp);generalize b:jM (fB F) n R=A;have s:A.length<=1000:=by rw[<-b];exact í (ñ _ _) hR
 have c:lg<S.length:=(gS.mp hg).1;unfold xF;refine zL (ρ':=Jk lf lk td n lg (some (yS R)) (some (yS A))) (S':=S) ?_ ?_
 .unfold jZ;simp? [dX,show((R.map zA).length<1000000)=True from eq_true (by rw[lM];lia),show qG 1 [0,3] (Jk lf lk td n lg (some (yS R)) y)=[none,#[lf],some (zA n)]from rfl,Cu h q R,b,CG]
 .refine zL (ρ':=Jk lf lk td n lg (some (yS R)) (some (yS A))) (S':=S.set lg (.dic (iH (if A≠R then rP acc R else acc)))) ?_ ?_
  .unfold hV;by_cases e:A≠R
   .rw[iP e];simp? [Jl,dT0 e];show((vQ _ (.val (yS R)) (.bl true) _ S).bind λρ S=>.ok (Fl.next ρ) S)=_;rw[NH hg #[]];rfl
   .rw[iN e,set_same hg];simp? [Jl,dF0 e];rfl
  .generalize k:(if A≠R then rP acc R else acc)=B;have d:B.length<1000000:=by rw[<-k];have:=rR acc R;split<;>lia
   have u:(S.set lg _)[lg]? =#[iH B,7]:=ă c;have h1:FoeAt S0 lf F (S.set lg (.dic (iH B))):=h.setG hg hlg hl0 _;have p:(S.set lg (MO.dic (iH B)))[lk]? =#[(kn++[n]).map zA,2]:=by rw[õ λz=>by rw[z,m]at hg;cases hg];exact m
   have j: ∀S,jC (.val (yS A)) #[[zA n],6] S=#[yS (A++[n]),S,1]:=λS=>by rw[Oc (fits (by rw[lM];simp;lia)),show yS (A++[n])=.tup (A.map zA++[zA n]) by unfold yS;rw[ý];rfl]
   unfold hX;simp? [show∀S,yA [.val (zA n)] S=.ok _ S from λS=>fE (by simp),j,Zo h1 r p (by rw[lA];simp;lia) a (A++[n])];have es:RD (fB F) kn n acc R=if pZ (fB F) (A++[n]) (kn++[n])=true then rP B (A++[n])else B:=by unfold RD;rw[b,k]
   rw[es]
   cases v:pZ (fB F) (A++[n]) (kn++[n])with
   |true=>
    rw[iP rfl,iP rfl];unfold Ao kH;simp? [show∀S,yA [.val (zA n)] S=.ok _ S from λS=>fE (by simp),j,NH u d,List.set_set]
   |false=>rfl
def Qz(f:Nat->Nat->Bool)(kn:Tk)(n:Nat)(a:Db)(R:Tk):(RD f kn n a R).length<=a.length+2:=by have:=GV (f:=f) (kn:=kn) (n:=n) [R] a;simpa using this
theorem ZD{S0:Sto}{lf lk lg n:Nat}{F:List (Nat×Nat×List Nat)}(u: ∀x∈F,x.2.2.length<=8000){kn:Tk}(e:kn.length<=900)(j: ∀i∈kn++[n],i∈F.map (·.1))(c:lg≠lf)(b:S0.length<=lg)(k:X2){gs:X4}:
  ∀(d a:Db)(S:Sto)(x y:X2),FoeAt S0 lf F S->S[lk]? =#[(kn++[n]).map zA,2]->S[lg]? =#[iH a,7]->a.length+2 * d.length<=900000->(∀R∈d,R.length<=1000)->(∀o,stay gs (S.set lg o))->
   ∃q p,gB (zY 5) xF gs (d.map yS) (Jk lf lk k n lg x y) S=#[Jk lf lk k n lg q p,S.set lg (.dic (iH (d.foldl (RD (fB F) kn n) a))),0]
 |[],a,S,x,y,h,hk,hg,hl,hR,hs=>⟨x,y,by rw[List.foldl_nil,set_same hg];rfl⟩
 |R::d,a,S,x,y,h,hk,hg,hl,hR,hs=>by
  rw[lC]at hl;have m:=(gS.mp hg).1;have s:=T9 h u hk e j hg #[] c b R (hR R (.head _)) k y;have r:=Qz (fB F) kn n a R;generalize w:RD _ kn n a R=B at s r
  obtain⟨q,p,f⟩:=ZD u e j c b k d B _ _ _ (h.setG hg c b _)
   (by rw[õ λz=>by rw[z,hk]at hg;cases hg];exact hk) (ă m) #[] (λQ v=>hR Q (.tail _ v)) (λo=>by rw[List.set_set];exact hs o)
  refine⟨q,p,?_⟩;rw[è,jE rfl s (hs _),f,List.set_set,ę,w]
theorem Cv{l:A0}:iR l=0↔l=[]:=by
 constructor
 .intro h
  cases l with
  |nil=>rfl
  |cons y l=>
   have:_∈aS _ (y::l).length:=QK.mpr ⟨y,.head _,rfl⟩;rw[List.length_eq_zero_iff.mp h]at this;cases this
 .rintro rfl;rfl
def Ra(l:A0):iR l<=l.length:=LS _ _
def Rb{l:A0}(h:l.Nodup):l.length<=iR l:=by
 have b:(l.map (Sum.inl:Int->Key)).Nodup:=Č.mpr (h.imp λq e=>q (Sum.inl.inj e));have:=b.length_le_of_subset λk a=>by obtain⟨y,c,rfl⟩:=mM.mp a;exact QK.mpr ⟨y,c,rfl⟩
 rw[lM]at this;exact this
theorem Jm{O K:Tk}(n:O.Nodup)(h1:O.length<=1000)(r:K.length<=1000)(d:K.length / 4<=O.length)(S:Sto):zK 2 cV [.val (yS O),.val (yS K)] S=#[.bl (K.all λi=>decide (i∈O)),S,1]:=by
 have a: ∀R:List Nat,R.length<=1000->UJ [.val (yS R)]=some (R.map Int.ofNat):=λR h=>by show(intsOf (R.map zA)).bind _=_;rw[AO];exact iP (by rw[lM];lia)
 refine xE (T:=[]) rfl ?_ (PC _ _) (λl=>by simp);show zS (sS [some (yS O),some (yS K)] S)=_;unfold sS rL
 have m: ¬iR (K.map Int.ofNat) / 4>iR (O.map Int.ofNat):=by
  have o:=Ra (K.map Int.ofNat);have u:=Rb (Č.mpr (n.imp λq e=>q (Int.ofNat.inj e)));rw[lM]at o u
  lia
 have hs:R7 (yJ (vJ 1) wJ) (yJ (vJ 0) wJ) [some (yS O),some (yS K)] S=.ok #[(iR (tQ (K.map Int.ofNat) (O.map Int.ofNat)):Nat),5] S:=by unfold R7;simp? [a K r,a O h1];show QL _ _ S=_;unfold QL;rw[iP m]
 have p:decide ((iR (tQ (K.map Int.ofNat) (O.map Int.ofNat)):Int)=0)=K.all λi=>decide (i∈O):=by
  rw[Ą,î,ó,Int.natCast_eq_zero,Cv];constructor
  .intro h i hi;refine dT0 (ě λz=>?_);have:Int.ofNat i∈tQ _ (O.map Int.ofNat):=vW.mpr ⟨mM.mpr ⟨i,hi,rfl⟩,λq=>z (by obtain⟨j,b,e⟩:=mM.mp q;exact Int.ofNat.inj e▸b)⟩;rw[h]at this;cases this
  .intro h;refine List.eq_nil_iff_forall_not_mem.mpr λy s=>?_;obtain⟨c,k⟩:=vW.mp s;obtain⟨i,hi,rfl⟩:=mM.mp c;exact k (mM.mpr ⟨i,ì (h i hi),rfl⟩)
 simp? [hs,eq_int,p];rw[aN];rfl
theorem Zp{O K:Tk}(a:O.Nodup)(h1:O.length<=1000)(b:K.length<=1000)(S:Sto):zK 2 wV [.val (yS O),.val (yS K)] S=#[.bl (DP O K),S,1]:=by
 refine xE (T:=[]) rfl ?_ (PC _ _) (λl=>by simp);show zS (wU [some (yS O),some (yS K)] S)=_;unfold wU jI;simp? [MM,lM];unfold DP;rw[aN];by_cases c:K.length<O.length
 .rw[dT0 (Int.ofNat_lt.mpr c),dT0 c];show zS ((zK 2 cV [Er.val (yS O),Er.val (yS K)] S).bind λr S=>.ok (Fl.ret r) S)=_;rw[Jm a h1 b #[]];rfl
 .rw[dF0 (λz=>c (Int.ofNat_lt.mp z)),dF0 c];rfl
theorem Re{l:Nat}{F:List (Nat×Nat×List Nat)}{L:Tk}(h:S[l]? =#[ND F,7])(j:F.length<64)(i:L.Perm (F.map (·.1)))(hs:L.Pairwise (· <=·)):JW [#[l,1]] S=#[L.map zA,S,2]:=by
 unfold JW;dsimp only;rw[uW h];dsimp only;have d:(ND F).map (·.1)=(F.map (·.1)).map zA:=by unfold ND;rw[ï,ï];rfl
 rw[iP (by rw[lM];exact j),d,AO];have e:L.map Int.ofNat=PySem.W.sortI _:=PySem.W.eq_sortI (i.map _) (Č.mpr (hs.imp λ{a b} c=>Int.ofNat_le.mpr c));show R.ok _ S=_;rw[<-e,ï];rfl
def EG{l:Db}(h:l.Nodup)(x:Tk):(rP l x).Nodup:=by
 unfold rP;split
 .exact h
 .rename_i c;exact ħ.mpr ⟨h,by simp,λa d b i e=>c (by rw[mS.mp i]at e;exact e▸d)⟩
theorem ZE{f:Nat->Nat->Bool}{kn:Tk}{n:Nat}: ∀(told:Db){a:Db},a.Nodup->(told.foldl (RD f kn n) a).Nodup
 |[],a,h=>h
 |R::told,a,h=>by refine ZE told ?_;unfold RD;split<;>split<;>first |exact EG (EG h _) _|exact EG h _|exact h
structure PcN(f:Nat->Nat->Bool)(kn:Tk)(told:Db):Prop where
 pc:Pc f kn told
 nd:told.Nodup
 le:told.length<=2 ^ kn.length
abbrev psS(f:Nat->Nat->Bool)(b:List Nat×List (List Nat))(n:Nat):List Nat×List (List Nat):=(b.1++[n],grow f b.1 n b.2)
theorem Jn{f:Nat->Nat->Bool}(a: ∀i,f i i=false)(b: ∀i j,f i j=f j i){kn:Tk}(h:PcN f kn told)(n:Nat):PcN f (kn++[n]) (grow f kn n told):=
 ⟨Qv a b h.pc n,ZE told .nil,by
  have h1:(grow f kn n told).length<=_:=GV told [];have c:=h.le;rw[lA,lS];rw[Ĉ]at h1
  lia⟩
def FoeAt.mono{l:Nat}{F:List (Nat×Nat×List Nat)}(h:FoeAt S0 l F S)(o:Old S S'):FoeAt S0 l F S':=⟨o _ _ h.dic,λx a=>o _ _ (h.pl x a),h.pn,h.kn,h.lo,h.old.trans o⟩
def NI(A:Db)(n:Nat):uE n (A.map yS):=yY λd a=>by obtain⟨R,_,rfl⟩:=mM.mp a;exact wG (pQ R n)
abbrev Kn(lf lk lt:Nat)(n g x y:X2):Rho:=[#[lf],#[lk],#[lt],n,g,x,y]
def PsJ(F:List (Nat×Nat×List Nat))(lf:Nat)(S:Sto)(L:Tk)(k:Nat)(b:List Nat×List (List Nat))(ρ:Rho)(S':Sto):Prop:=
 ∃lt n g x y,ρ=Kn lf S.length lt n g x y/\Old S S'/\S'[S.length]? =#[b.1.map zA,2]/\S.length<lt/\S'[lt]? =#[b.2.map yS,2]/\b.1=L.take k/\PcN (fB F) b.1 b.2
theorem Rf{F:List (Nat×Nat×List Nat)}(h:FoeAt S0 lf F S)(w: ∀i,fB F i i=false)(D: ∀i j,fB F i j=fB F j i)(hL: ∀x∈F,x.2.2.length<=8000){L:Tk}(hl:L.length<=8)(W: ∀i∈L,i∈F.map (·.1)){j n:Nat}(s:L[j]? =some n){b:List Nat×List (List Nat)}{ρ:Rho}(J:PsJ F lf S L j b ρ S'):
  ∃e d,((zY 3 (zA n) ρ S').bind λv S0=>kZ v S0)=#[e,d,0]/\PsJ F lf S L (j+1) (psS (fB F) b n) e d:=by
 obtain⟨lt,N,g,x,y,rfl,o,m,I,M,A,P⟩:=J;have T:j<L.length:=(gS.mp s).1;have C:b.1.length<=8:=by rw[A,lT];lia
 have X:b.2.length<=256:=í P.le (Nat.pow_le_pow_right (by decide) C);have ab:S.length<S'.length:=(gS.mp m).1;have aa:lf<S.length:=(gS.mp h.dic).1;have Y:S0.length<=S.length:=sZ h.old
 have Z: ∀i∈b.1++[n],i∈L:=λi hi=>by
  rcases ê.mp hi with hi|hi
  .rw[A]at hi;exact List.mem_of_mem_take hi
  .rw[mS.mp hi];exact ô s
 have u:(S'.set S.length (.lst ((b.1++[n]).map zA)))[S.length]? =#[(b.1++[n]).map zA,2]:=get_set m;have k:(S'.set S.length (.lst ((b.1++[n]).map zA)))[lt]? =#[b.2.map yS,2]:=by rw[cW #[]];exact M
 have z:Old S (S'.set S.length (.lst ((b.1++[n]).map zA))):=o.set (à _) _;have e1:xW (Kn lf S.length lt (some (zA n)) g x y) S'=#[Kn lf S.length lt (some (zA n)) g x y,S'.set S.length (.lst ((b.1++[n]).map zA)),0]:=by unfold xW;simp? [xA m,eM m (by rw[lM];lia)];rw[ý];rfl
 generalize K:S'.set S.length (.lst ((b.1++[n]).map zA))=S1 at u k z e1;have Q:lt<S1.length:=(gS.mp k).1;have e2:xX (Kn lf S.length lt (some (zA n)) g x y) S1=#[Jk lf S.length #[lt] n S1.length x y,S1++[MO.dic []],0]:=by unfold xX;simp? [gC];rfl
 have c:Old S1 (S1++[MO.dic []]):=Old.app _ _;have g2:(S1++[MO.dic []])[S1.length]? =#[iH [],7]:=by simp[iH]
 obtain⟨q,p,B⟩:=ZD hL #[] (λi hi=>W i (Z i hi)) #[] #[] #[lt] (gs:=[(lt,b.2.map yS)]) b.2 [] (S1++[MO.dic []]) x y (h.mono (z.trans c)) (c _ _ u) g2 (by rw[Ĉ];lia) (λR U=>by have:=(P.pc.sub R U).length_le;lia) (λo=>yN (by rw[cW #[]];exact c _ _ k));rw[show b.2.foldl (RD (fB F) b.1 n) []=grow (fB F) b.1 n b.2 from rfl]at B;generalize hG:grow (fB F) b.1 n b.2=G at B;have a:xY (Jk lf S.length #[lt] n S1.length x y) (S1++[MO.dic []])=#[Jk lf S.length #[lt] n S1.length q p,(S1++[MO.dic []]).set S1.length (MO.dic (iH G)),0]:=by unfold xY;exists 7,kL (c _ _ k),B
 have E:((S1++[MO.dic []]).set S1.length (MO.dic (iH G)))[S1.length]? =#[iH G,7]:=get_set g2;have r:Old S1 ((S1++[MO.dic []]).set S1.length (MO.dic (iH G))):=c.set (à _) _;generalize O:(S1++[MO.dic []]).set S1.length (MO.dic (iH G))=S3 at a E r;have e4:xZ (Jk lf S.length #[lt] n S1.length q p) S3=#[Kn lf S.length S3.length (some (zA n)) #[S1.length] q p,S3++[.lst (G.map yS)],0]:=by unfold xZ;exists 7,Jh E
 have H:Old S3 (S3++[.lst (G.map yS)]):=Old.app _ _;refine⟨Kn lf S.length S3.length (some (zA n)) #[S1.length] q p,_,?_,_,_,_,_,_,rfl,z.trans (r.trans H),H _ _ (r _ _ u),?_,?_,?_,?_⟩
 .rw[show zY 3 (zA n) (Kn lf S.length lt N g x y) S'=.ok (Kn lf S.length lt (some (zA n)) g x y) S' from rfl,gC];unfold kZ;rw[zG e1,zG e2,zG a,e4]
 .have:=sZ r;lia
 .show _=some (MO.lst ((grow (fB F) b.1 n b.2).map yS));rw[hG];simp
 .show b.1++[n]=_;rw[A,List.take_add_one,s];rfl
 .exact Jn w D P n
theorem Rg{F:List (Nat×Nat×List Nat)}(h:FoeAt S0 lf F S)(d: ∀i,fB F i i=false)(p: ∀i j,fB F i j=fB F j i)(C: ∀x∈F,x.2.2.length<=8000)(A:F.length<=8){L:Tk}(k:L.Perm (F.map (·.1)))(hs:L.Pairwise (· <=·)):
  ∃told,PcN (fB F) L told/\zK 1 gW [#[lf,1]] S=#[told.map yS,S,2]:=by
 have D:L.length<=8:=by rw[k.length_eq,lM];exact A
 generalize a:S++[.lst []]++[.lst [.tup []]]=S2;have s:Old S S2:=by rw[<-a,aA];exact Old.app _ _
 obtain⟨ρ',S',e,lt,n,g,x,y,rfl,o,z,w,q,m,P⟩:=oE (PsJ F lf S L) (psS (fB F)) 0 (λj n v b ρ S' J=>by rw[Ħ]at J ⊢;obtain⟨ρ',c,e,B⟩:=Rf h d p C D (λi hi=>k.mem_iff.mp hi) v J;exact⟨ρ',c,e,xM _,B⟩) ([],[[]]) _ S2 ⟨S.length+1,_,_,_,_,rfl,s,by rw[<-a];simp,by lia,by rw[<-a];simp,rfl,Zj _,by simp,by simp⟩;generalize E:L.foldl (psS (fB F)) ([],[[]])=r at z q m P;rw[Ħ,List.take_length]at m;refine⟨r.2,m▸P,?_⟩;obtain⟨T,u⟩:=o.is;refine FD rfl ?_ #[] (u▸q) (NI _ _);rw[<-u];show zS (gV [#[lf],none,none,none,none,none,none] S)=_;unfold gV;refine aM (zL (ρ':=[#[lf],#[S.length],none,none,none,none,none]) (S':=S++[.lst []]) ?_ (zL (ρ':=Kn lf S.length (S.length+1) none none none none) (S':=S2) ?_ (zL (ρ':=Kn lf S.length lt n g x y) (S':=S') ?_ ?_)))
 .unfold bX;exists 7,rfl
 .unfold bY;simp? [show∀S,yA [] S=.ok _ S from λS=>rfl,show∀S,nO [#[[],6]] S=.ok _ S from λS=>rfl];rw[a,lA];rfl
 .unfold bZ;exists 7,Re (s _ _ h.dic) (by omega) k hs,show∀ds S,tG (.new ds) S=.ok ⟨ds,[]⟩ S from λ_ _=>rfl,e
 .unfold cA;exists 7,rfl
def U3(S:Sto)(a b:Tk):EA S zI (yS a) (yS b)=some (decide (a<b)):=RA (n:=38) a b
def DQ(T:Db):List (List Nat):=T.mergeSort λa b=>decide (a<=b)
def kE(T:Db):(DQ T).Perm T:=List.mergeSort_perm _ _
def NL(T:Db):(DQ T).Pairwise λa b=>a<=b:=by have:=List.pairwise_mergeSort (le:=λa b:List Nat=>decide (a<=b)) (λa b c h1 d=>dT0 (List.le_trans (ì h1) (ì d))) (λa b=>by rw[ĝ,decide_eq_true_iff,decide_eq_true_iff];exact List.le_total _ _) T;exact this.imp λh=>ì h
def KF{T R:Db}(p:R.Perm T)(q:R.Pairwise λa b=>a<=b):R=DQ T:=
 List.Perm.eq_of_pairwise (λa b _ _ h1 c=>List.le_antisymm h1 c) q (NL T) (p.trans (kE T).symm)
def NN{T:Db}(L:T.length<64)(H:2<=T.length->[]∉T){p:Er}(K:kI S p=some (T.map yS)):pY [p] S=#[(DQ T).map yS,S,2]:=by
 have mem: ∀k∈T.map yS, ∃t∈T,k=yS t:=λk F=>by obtain⟨t,h1,e⟩:=mM.mp F;exact⟨t,h1,e.symm⟩
 have at': ∀{m:Nat}{k:MV},_[m]? =some k-> ∃t,T[m]? =some t/\k=yS t:=λh=>by rw[ò]at h;obtain⟨t,h1,e⟩:=Option.map_eq_some_iff.mp h;exact⟨t,h1,e.symm⟩
 have ok:SrtJ S (T.map yS):=by
  refine⟨by rw[lM];exact L,λd w=>?_,λe d w=>?_,⟨λa n b o=>?_,λa n b o c s h1 e=>?_,λa n b o h1=>?_⟩⟩
  .obtain⟨t,r,rfl⟩:=mem d w;unfold yS iQ;exact KD λx G=>by obtain⟨y,_,rfl⟩:=mM.mp G;unfold zA iQ;rfl
  .obtain⟨t,r,rfl⟩:=mem d w;rw[lM]at e
   cases t with
   |nil=>exact absurd r (H e)
   |cons x t=>exact⟨_,_,rfl⟩
  .obtain⟨t,r,rfl⟩:=mem a n;obtain⟨u,C,rfl⟩:=mem b o;exact⟨_,U3 S t u⟩
  .obtain⟨t,r,rfl⟩:=mem a n;obtain⟨u,C,rfl⟩:=mem b o;obtain⟨v,J,rfl⟩:=mem c s;rw[U3]at h1 e ⊢;have h1:=of_decide_eq_false (å h1);have e:=of_decide_eq_false (å e);rw[dF0 (List.not_lt.mpr (List.le_trans (List.not_lt.mp h1) (List.not_lt.mp e)))]
  .obtain⟨t,r,rfl⟩:=mem a n;obtain⟨u,C,rfl⟩:=mem b o;rw[U3]at h1 ⊢;rw[dF0 (List.not_lt.mpr (List.le_of_lt (ì (å h1))))]
 refine Pl K ok (λN h=>?_) ?_
 .obtain⟨idx,p,q,rfl⟩:=h;rw[lM]at p;rw[<-KF (R:=idx.filterMap _) (by have:=p.filterMap (T[·]?);rwa [GS]at this) (by rw[List.pairwise_filterMap];refine q.imp λ{i j} h b o c s=>?_;have h':=h _ _ (by rw[ò,o];rfl) (by rw[ò,s];rfl);rw[U3]at h';exact List.not_lt.mp (of_decide_eq_false (å h'))),List.map_filterMap];congr 1;funext i;rw[ò]
 .obtain⟨idx,A,B⟩:=JO (kE T).symm (g:=λi=>(T[i]?).getD []) _ (by rw[FK λi hi=>ç.mp hi,GS]);have I: ∀i,i∈idx->i<T.length:=λi hi=>ç.mp (A.mem_iff.mp hi);refine⟨idx,by rw[lM];exact A,?_,?_⟩
  .have D:=NL T;rw[<-B,Č]at D;refine Ğ (λ{i j} hi M h a c n s=>?_) D;obtain⟨t,z,rfl⟩:=at' n;obtain⟨u,E,rfl⟩:=at' s;rw[z,E]at h;rw[U3,dF0 (List.not_lt.mpr (show t<=u from h))]
  .rw[<-B,FK I,List.map_filterMap];congr 1;funext i;rw[ò]
theorem tD: ∀{sm:Tk},sm.Pairwise (· <·)-> ∀{a b:Nat},(a,b)∈xL sm↔a∈sm/\b∈sm/\a<b
 |[],_,a,b=>by simp[xL]
 |x::sm,h,a,b=>by
  obtain⟨h1,m⟩:=pairwise_cons.mp h;unfold xL;rw[ê,tD m,mM,mC,mC];constructor
  .rintro(⟨j,k,e⟩|⟨c,d,i⟩)
   .cases e;exact⟨.inl rfl,.inr k,h1 _ k⟩
   .exact⟨.inr c,.inr d,i⟩
  .rintro⟨rfl|c,rfl|d,i⟩
   .exact absurd i (Ě _)
   .exact .inl ⟨b,d,rfl⟩
   .exact absurd (h1 _ c) #[]
   .exact .inr ⟨c,d,i⟩
section
variable{ts:Za}{rls:List Rule}{rs:List Row}
def RT(ts:Za)(rls:List Rule)(rs:List Row)(i j:Nat):Bool:=UT ts (yI rs i) (yI rs j) || rls.any λr=>mK r (yI rs i) (yI rs j)
def Rh(p:Rule->Bool):((List.range rls.length).filter λk=>p (BB rls k)).isEmpty= !rls.any p:=by
 rw[Ą,List.isEmpty_iff,ċ,þ,List.filter_eq_nil_iff];constructor
 .intro h r b;obtain⟨k,a,rfl⟩:=Ń b;rw[<-MZ k a];exact h k (ç.mpr a)
 .intro h k a;exact h _ (tB (ç.mp a))
def Jo(i j:Nat):Qw ts rls rs (i,j)=RT ts rls rs i j:=by
 unfold Qw GU RT
 cases UT ts _ _ with
 |true=>simp
 |false=>rw[iN xF0,aN,List.isEmpty_map,Rh λr=>mK r _ _,Bool.not_not,Bool.false_or]
def Cw(r:Rule)(a b:Row):mK r a b=mK r b a:=by
 cases r with
 |never t qs=>rfl
 |tie t cs u ds=>rfl
 |apart t u qs=>exact Bool.or_comm _ _
def NO(i j:Nat):RT ts rls rs i j=RT ts rls rs j i:=by unfold RT UT;rw[show(λr=>mK r _ _)=λr=>mK r _ _ from funext λr=>Cw r _ _,ĳ.mpr (eq_comm)]
def Ko(ts:Za)(rls:List Rule)(rs:List Row)(P:Tk):Bool:=(P.all λi=>P.all λj=>!(decide (i<j)&&RT ts rls rs i j))&& !Qp rls rs P
def Jp{P:Tk}(a: ∀i∈P,i<rs.length):Ko ts rls rs P=true↔(∀i∈P, ∀j∈P,i<j->RT ts rls rs i j=false)/\(∀i∈P,(rls.any λr=>lK r (yI rs i))=false)/\ ∀t∈cI rls rs,t.1∈P-> ∃j∈t.2,j∈P:=by unfold Ko;rw[aE,ċ,Iw a];refine and_congr ?_ Iff.rfl;rw[ó];refine Ď λi=>Ď λhi=>?_;rw[ó];refine Ď λj=>Ď λb=>?_;by_cases h:i<j<;>simp[h]
structure Md(ts:Za)(rls:List Rule)(rs:List Row)(Hd:Tk)(f:Nat->Nat->Bool)(C:Tk)(told:Db):Prop where
 h:jL (cI rls rs) (gN rls rs (List.range rs.length)) Hd
 fi: ∀i j,f i j=true↔i∈Hd/\j∈Hd/\i≠j/\RT ts rls rs i j=true
 c: ∀i,i∈C↔ ∃j,f i j=true
 pc:Pc f (Hd.filter λi=>decide (i∈C)) told
def Dl(Hd C R:Tk):List Nat:=Hd.filter λi=>!decide (i∈C) || decide (i∈R)
def Tf(h:jL (cI rls rs) (gN rls rs (List.range rs.length)) Hd):Hd.Pairwise (· <·)/\ ∀i∈Hd,i<rs.length/\(rls.any λr=>lK r (yI rs i))=false:=by
 refine⟨?_,λi hi=>?_⟩
 .obtain⟨⟨p,rfl⟩,_⟩:=h;exact(List.pairwise_lt_range.filter _).filter _
 .have:=á.mp ((lN h).1 i hi);exact⟨ç.mp this.1,by simpa using this.2⟩
def Zq{R K:Tk}{f:Nat->Nat->Bool}(M:Md ts rls rs Hd f C told)(a:jL (cI rls rs) (Dl Hd C R) K):OB rs.length K:=by
 have e: ∃p,K=(List.range rs.length).filter p:=by obtain⟨⟨p,e⟩,_⟩:=a;obtain⟨⟨q,e2⟩,_⟩:=M.h;rw[e,Dl,e2,gN,filter_filter,filter_filter,filter_filter];exact⟨_,rfl⟩
 obtain⟨p,e⟩:=e;rw[e];refine filter_congr λi hi=>?_;rw[Ą,î,á];exact⟨λz=>⟨hi,z⟩,λz=>z.2⟩
def GX{R:Tk}{i:Nat}:i∈Dl Hd C R↔i∈Hd/\(i∈C->i∈R):=by unfold Dl;by_cases h:i∈C<;>simp[h]
def Ri{R K:Tk}{f:Nat->Nat->Bool}(M:Md ts rls rs Hd f C told)(p:R∈told)(o:jL (cI rls rs) (Dl Hd C R) K):Ko ts rls rs K=true:=by
 obtain⟨d,n⟩:=lN o;have k:=(Tf M.h).2;have a:=λi hi=>(GX.mp (d i hi)).1;refine(Jp λi hi=>(k i (a i hi)).1).mpr ⟨λi hi j b m=>?_,λi hi=>(k i (a i hi)).2,n⟩
 cases e:RT ts rls rs i j with
 |false=>rfl
 |true=>
  have f1:=(M.fi i j).mpr ⟨a i hi,a j b,ã m,e⟩;have f2:=(M.fi j i).mpr ⟨a j b,a i hi,(ã m).symm,by rw[NO];exact e⟩;have:=M.pc.ind R p i ((GX.mp (d i hi)).2 ((M.c i).mpr ⟨j,f1⟩)) j ((GX.mp (d j b)).2 ((M.c j).mpr ⟨i,f2⟩));rw[f1]at this;cases this
def Zr{P:Tk}{f:Nat->Nat->Bool}(M:Md ts rls rs Hd f C told)(m:OB rs.length P)(q:Ko ts rls rs P=true): ∃R∈told, ∀K,jL (cI rls rs) (Dl Hd C R) K-> ∀i∈P,i∈K:=by
 have lt: ∀i∈P,i<rs.length:=λi hi=>by rw[m]at hi;exact ç.mp (á.mp hi).1
 obtain⟨k,g2,d⟩:=(Jp lt).mp q;have c:=M.h.2.2 (λi=>i∈P) (λi hi=>á.mpr ⟨ç.mpr (lt i hi),by rw[g2 i hi];rfl⟩) d
 obtain⟨R,r,hs⟩:=M.pc.cov _ (λi hi=>by
  obtain⟨h1,s⟩:=á.mp hi
  exact á.mpr ⟨c i h1,s⟩) λi hi j a=>by
   have hi:=(á.mp hi).1;have a:=(á.mp a).1
   cases e:f i j with
   |false=>rfl
   |true=>
    obtain⟨_,_,n,b⟩:=(M.fi i j).mp e;rcases Nat.lt_or_gt_of_ne n with z|z
    .rw[k i hi j a z]at b;cases b
    .rw[NO,k j a i hi z]at b;cases b
 exact⟨R,r,λK o=>o.2.2 (λi=>i∈P) (λi hi=>GX.mpr ⟨c i hi,λp=>hs i (á.mpr ⟨hi,dT0 p⟩)⟩) d⟩
end
theorem Jq(F:List (Nat×Nat×List Nat))(i:Nat):(look (ND F) (zA i)).isSome=decide (i∈F.map (·.1)):=by
 by_cases c: ∃x∈F,x.1=i
 .obtain⟨x,a,rfl⟩:=c;rw[dT0 (ń a)];unfold look;rw[Option.isSome_map,List.find?_isSome];exact⟨_,ń a,dT0 rfl⟩
 .rw[CN λx a e=>c ⟨x,a,e⟩,dF0 λh=>by obtain⟨x,a,e⟩:=mM.mp h;exact c ⟨x,a,e⟩];rfl
def Zs{l:Nat}{F:List (Nat×Nat×List Nat)}(h:S[l]? =#[ND F,7])(a:Bool)(i:Nat):FR a (.val (zA i)) #[l,1] S=#[.bl (if a=true then !decide (i∈F.map (·.1))else decide (i∈F.map (·.1))),S,1]:=by unfold FR;rw[uW h];show(if tI _=true then _ else _)=_;rw[iP (ky i),Jq]
theorem Rj{l:Nat}{F:List (Nat×Nat×List Nat)}(h:S[l]? =#[ND F,7])(a:F.length<=8):zK 1 dL [#[l,1]] S=#[.non,S,1]:=by
 have e:QE [#[l,1]] S=.ok #[(F.length:Nat),5] S:=by unfold QE;dsimp only;rw[uW h];show R.ok _ S=_;rw[lM]
 refine xE (T:=[]) rfl ?_ (by unfold lo;trivial) (λl=>by simp);show zS (dI [some _] S)=_;unfold dI nT;simp? [e,show∀(i j:Int) _,Nn #[i,5] #[j,5] S=.ok _ S from λ_ _ _=>rfl,dF0 (show¬(15:Int)<(F.length:Nat) by lia)];rw[aN];rfl
def ZF{lt:Nat}{A:Tk}(c:S[lt]? =#[ms,2])(b:TsAt S ms tk)(i:tk.length<=100000)(d:A.Nodup)(a:A.length<=100):
  ∃K,zK 2 yF [#[lt,1],.new (A.map zA)] S=#[yS K,S,1]/\jL tk A K:=by
 obtain⟨K,T,h1,e⟩:=GR (S3:=S++[.lst (A.map zA)]) (la:=S.length) (A:=A) (Old.app _ _ _ _ c) (b.mono λm ds h _=>Old.app _ _ _ _ h) i (by simp) d a;refine⟨K,xE (T:=[.lst (A.map zA)]++T) rfl ?_ (wG (pQ K _)) (λl=>by simp),e⟩;show yF [.loc lt,.loc S.length] (S++[.lst (A.map zA)])=_;rw[h1,aA]
theorem Rk{T L:Tk}(d:L.Perm T)(hs:L.Pairwise (· <=·))(h:T.length<64)(S:Sto):PV [.new (T.map zA)] S=#[L.map zA,S,2]:=by show(if(T.map zA).length<64 then(match intsOf _ with |some ns=>R.ok _ S|none=>.no)else .no)=_;rw[iP (by rw[lM];exact h),AO];have e:L.map Int.ofNat=PySem.W.sortI _:=PySem.W.eq_sortI (d.map _) (Č.mpr (hs.imp λ{a b} c=>Int.ofNat_le.mpr c));show R.ok _ S=_;rw[<-e,ï];rfl
abbrev RU(b:MV)(f u t g x:X2):Rho:=[some b,f,u,t,g,x]
theorem ZG{tk:List (Nat×List Nat)}(E:tk.length<=100000){Hd C:Tk}(q:Hd.Pairwise (· <·))(G:Hd.length<=60){b:MV}{f:X2}{n lt lg:Nat}{ms:X1}(p:n≠lg)(r:lt≠lg):
  ∀(m d:Db)(S:Sto)(x:X2),S[n]? =some (.lst ((Hd.filter λi=>!decide (i∈C)).map zA))->S[lt]? =#[ms,2]->(∀o,TsAt (S.set lg o) ms tk)->S[lg]? =#[iH d,7]->d.length+m.length<=1000->d.Nodup->(∀R∈m,R.Sublist (Hd.filter λi=>decide (i∈C)))->
   ∃v j,gB (zY 5) fV [] (m.map yS) (RU b f #[n] #[lt] #[lg] x) S=#[RU b f #[n] #[lt] #[lg] v,S.set lg (.dic (iH j)),0]/\j.Nodup/\j.length<=d.length+m.length/\ ∀K,K∈j↔K∈d\/ ∃R∈m,jL tk (Dl Hd C R) K
 |[],d,S,x,_,_,_,hg,_,hn,_=>⟨x,d,by rw[set_same hg];rfl,hn,à _,λK=>by simp⟩
 |R::m,d,S,x,hu,ht,hT,hg,hal,hn,hR=>by
  rw[lC]at hal;have s:=hR R (.head _)
  have w:(Dl Hd C R).Perm ((Hd.filter λi=>!decide (i∈C))++R):=by
   have P:R.Nodup:=(q.imp ã).sublist (s.trans List.filter_sublist);have D: ∀i∈R,i∈Hd/\i∈C:=λi hi=>by simpa using á.mp (s.subset hi)
   refine(List.perm_ext_iff_of_nodup ((q.imp ã).filter _) (ħ.mpr ⟨(q.imp ã).filter _,P,λa M c J e=>?_⟩)).mpr λi=>?_
   .have:=(á.mp M).2;rw[e,dT0 (D c J).2]at this;cases this
   .show i∈Dl Hd C R↔_;rw[GX,ê,á];constructor
    .rintro⟨h1,k⟩;by_cases h:i∈C
     .exact .inr (k h)
     .exact .inl ⟨h1,by simp[h]⟩
    .rintro(⟨h1,k⟩|h)
     .exact⟨h1,λz=>by rw[dT0 z]at k;cases k⟩
     .exact⟨(D i h).1,λ_=>h⟩
  have B:(Dl Hd C R).length<=60:=í (ñ _ _) G;have u:(Dl Hd C R).Pairwise (· <·):=q.filter _;have A:TsAt S ms tk:=by have:=hT (.dic (iH d));rwa [set_same hg]at this
  obtain⟨K,I,F⟩:=ZF ht A E (u.imp ã) #[]
  have H:fV (RU b f #[n] #[lt] #[lg] (some (yS R))) S=#[RU b f #[n] #[lt] #[lg] (some (yS R)),S.set lg (.dic (iH (rP d K))),0]:=by
   have O:jC #[n,1] (.new (R.map zA)) S=#[((Hd.filter λi=>!decide (i∈C))++R).map zA,S,2]:=by
    rw[ý];refine Gk (by unfold Nk;dsimp only;rw[hu]) rfl (fits ?_);have:=w.length_eq;rw[lA]at this;rw[lM,lM]
    lia
   unfold fV pC EJ Ao kH;simp? [Il,O,Rk w (u.imp le_of_lt) (by rw[<-w.length_eq];lia),I,NH hg #[]]
  obtain⟨v,j,f1,f2,T,L⟩:=ZG E q G p r m (rP d K) _ (some (yS R)) (by rw[cW p.symm];exact hu) (by rw[cW r.symm];exact ht) (λo=>by rw[List.set_set];exact hT o) (get_set hg) (by have:=rR d K;lia) (EG hn K) (λQ N=>hR Q (.tail _ N));refine⟨v,j,?_,f2,by have:=rR d K;rw[lC];lia,λQ=>?_⟩
  .rw[è,jE rfl H (xM _),f1,List.set_set]
  .rw[L,rQ];constructor
   .rintro((h|rfl)|⟨y,h1,k⟩)
    .exact .inl h
    .exact .inr ⟨R,.head _,F⟩
    .exact .inr ⟨y,.tail _ h1,k⟩
   .rintro(h|⟨y,h1,k⟩)
    .exact .inl (.inl h)
    .rcases mC.mp h1 with rfl|h1
     .exact .inl (.inr (CL k F))
     .exact .inr ⟨y,h1,k⟩
section
variable{ts:Za}{rls:List Rule}{rs:List Row}
def Zt{d:Db}(p:d.Nodup):2<=(d.filter λK=>!d.any λO=>DP O K).length->[]∉d.filter λK=>!d.any λO=>DP O K:=λn h=>by
 generalize m:(d.filter λK=>!d.any λO=>DP O K)=T at n h;have b:T.Nodup:=by rw[<-m];exact p.filter _
 have q: ∃K∈T,K≠[]:=by
  match T,n,b with
  |a::c::T,_,b=>
   by_cases e:a=[]
   .exact⟨c,by simp,λz=>by rw[e,z]at b;simp at b⟩
   .exact⟨a,.head _,e⟩
 obtain⟨K,o,j⟩:=q;rw[<-m]at h o;have k:=(á.mp h).2;rw[ċ,þ]at k;exact k K (á.mp o).1 (NB.mpr ⟨by rw[Ĉ];exact List.length_pos_iff.mpr j,λi hi=>(nomatch hi)⟩)
theorem Zu{a:Db}(n: ∀K∈a,K.Nodup)(e: ∀K∈a,K.length<=1000)(m:a.length<64)(k:a.Nodup){b:MV}{f u t x:X2}{lg:Nat}(i:S[lg]? =#[iH a,7]):
  pH (RU b f u t #[lg] x) S=.ok (.ret (.new ((DQ (a.filter λK=>!a.any λO=>DP O K)).map yS))) (S.set lg (.fdc (iH a))):=by
 have j:(S.set lg _)[lg]? =some (.fdc (iH a)):=get_set i;have d:=Ji i;generalize S.set lg _=S1 at j d ⊢;have lk:((a.map yS).length<1000000)=True:=eq_true (by rw[lM];lia)
 have p:zT (zY 0) eC pE [none,some _] [] _ S1=.ok ((a.filter λK=>!a.any λO=>DP O K).map yS) S1:=xK (xM _) λK o=>by
  refine⟨_,rfl,?_,rfl⟩;have c:zT (zY 0) pD eB [none,some (yS K)] [] _ S1=.ok (a.map λO=>.bl (DP O K)) S1:=yV (xM _) λO h=>by refine⟨[some (yS O),some (yS K)],rfl,rfl,?_⟩;unfold eB;simp? [Zp (n O h) (e O h) (e K o)]
  unfold eC;exists 7,Jj j,lk,c,MY
 unfold pH;simp? [d,lk,show qG 1 [4] (RU b f u t _ x)=[none,some _]from rfl,p];rw[NN (lt_of_le_of_lt (ñ _ _) m) (Zt k) rfl];rfl
def Rl(a: ∀r∈rls,nH ts r)(i: ∀r∈rs,qL ts r)(j:rs.length<=100)(b:rls.length<=100)(S:Sto)(f u:X2):
  ∃lt ms S',fW (RU (zD ts rls rs) f u none none none) S=#[RU (zD ts rls rs) f u #[lt] none none,S',0]/\Old S S'/\S'[lt]? =#[ms,2]/\TsAt S' ms (cI rls rs)/\(cI rls rs).length<=100000:=by
 obtain⟨r,S1,c,h,k,d⟩:=Iu a i j b S;rcases k with⟨rfl,e⟩|⟨l,ms,rfl,g1,g2⟩
 .refine⟨S1.length,[],S1++[.lst []],?_,h.trans (Old.app _ _),by simp,by rw[e];exact .nil,d⟩;unfold fW;exists 7,c
 .refine⟨l,ms,S1,?_,h,g1,g2,d⟩;unfold fW;exists 7,c
theorem Jr(A: ∀r∈rls,nH ts r)(hR: ∀r∈rs,qL ts r)(hn:rs.length<=60)(y:rls.length<=100){E:Tk}(hE:E.length<=5)(ae: ∀i j,i<rs.length->j<rs.length->i≠j->RT ts rls rs i j=true->i∈E)(S:Sto):
  ∃p:List (List Nat),p.Nodup/\(∀K∈p,OB rs.length K)/\(∀K∈p,Ko ts rls rs K=true)/\(∀P,OB rs.length P->Ko ts rls rs P=true-> ∃K∈p, ∀i∈P,i∈K)/\p.length<64/\
   zK 1 nG [.val (zD ts rls rs)] S=#[(DQ (p.filter λK=>!p.any λO=>DP O K)).map yS,S,2]:=by
 obtain⟨Hd,aq,hH⟩:=UR A hR (show rs.length<=100 by lia) y (λi hi=>ç.mp hi) nodup_range (by rw[æ];lia) [];obtain⟨u,L⟩:=Tf hH;have G:Hd.Nodup:=u.imp ã;have ag:Hd.length<=60:=í (G.length_le_of_subset λi hi=>ç.mpr (L i hi).1) (by rw[æ];exact hn);obtain⟨F,S1,f1,q⟩:=Zn A hR (hn) y hH S
 have W: ∀i j,fB F i j=true↔i∈Hd/\j∈Hd/\i≠j/\RT ts rls rs i j=true:=λi j=>by
  rw[UW q.at'.kn,q.fr,á,á,tD u,tD u,Jo,Jo,NO (ts:=ts) j i];constructor
  .rintro(⟨⟨h1,k,N⟩,B⟩|⟨⟨h1,k,N⟩,B⟩)
   .exact⟨h1,k,ã N,B⟩
   .exact⟨k,h1,(ã N).symm,B⟩
  .rintro⟨h1,k,N,B⟩;rcases Nat.lt_or_gt_of_ne N with z|z
   .exact .inl ⟨⟨h1,k,z⟩,B⟩
   .exact .inr ⟨⟨k,h1,z⟩,B⟩
 have aa: ∀i,fB F i i=false:=λi=>by
  cases e:fB F i i with
  |false=>rfl
  |true=>exact absurd rfl ((W i i).mp e).2.2.1
 have ak: ∀i j,fB F i j=fB F j i:=λi j=>by rw[Ą,W,W,NO (ts:=ts) j i];exact⟨λ⟨a,b,c,d⟩=>⟨b,a,c.symm,d⟩,λ⟨a,b,c,d⟩=>⟨b,a,c.symm,d⟩⟩
 generalize Z:F.map (·.1)=C
 have hc: ∀i,i∈C↔ ∃j,fB F i j=true:=λi=>by
  rw[<-Z];constructor
  .intro h;obtain⟨x,U,rfl⟩:=mM.mp h;obtain⟨j,D⟩:=List.exists_mem_of_ne_nil _ (q.ne x U);exact⟨j,(UW q.at'.kn).mpr ⟨x,U,rfl,D⟩⟩
  .rintro⟨j,D⟩;obtain⟨x,U,rfl,_⟩:=(UW q.at'.kn).mp D;exact ń U
 have ch: ∀i∈C,i∈Hd:=λi hi=>by obtain⟨j,D⟩:=(hc i).mp hi;exact((W i j).mp D).1
 have X:C.Nodup:=by rw[<-Z];exact Č.mpr q.at'.kn
 have pL:(Hd.filter λi=>decide (i∈C)).Perm (F.map (·.1)):=by rw[Z];refine(List.perm_ext_iff_of_nodup (G.filter _) X).mpr λi=>?_;rw[á,î];exact⟨λh=>h.2,λh=>⟨ch i h,h⟩⟩
 have aj:F.length<=5:=by
  have:=X.length_le_of_subset λi hi=>by obtain⟨j,D⟩:=(hc i).mp hi;obtain⟨h1,k,N,B⟩:=(W i j).mp D;exact ae i j (L i h1).1 (L j k).1 N B
  rw[<-Z,lM]at this
  lia
 have ah:(Hd.filter λi=>decide (i∈C)).Pairwise (· <·):=u.filter _;have ao:S.length<S1.length:=(gS.mp q.at'.dic).1;generalize I:S1++[.lst ((Hd.filter λi=>!decide (i∈C)).map zA)]=S2;have J:Old S1 S2:=by rw[<-I];exact Old.app _ _
 have u2:S2[S1.length]? =some (.lst ((Hd.filter λi=>!decide (i∈C)).map zA)):=by rw[<-I];simp
 have e3:pF (RU (zD ts rls rs) #[S.length] none none none none) S1=#[RU (zD ts rls rs) #[S.length] #[S1.length] none none none,S2,0]:=by
  obtain⟨K,k1,k2⟩:=UR A hR (show rs.length<=100 by lia) y (λi hi=>ç.mp hi) nodup_range (by rw[æ];lia) S1;rw[CL k2 hH]at k1;have ab:zT (zY 0) eA pB [none,#[S.length]] [] (Hd.map zA) S1=.ok ((Hd.filter λi=>!decide (i∈C)).map zA) S1:=xK (xM _) λi hi=>by refine⟨_,rfl,?_,rfl⟩;unfold eA;simp? [Zs q.at'.dic,Z]
  unfold pF;simp? [Jb (show rs.length<=100 by lia),k1,dX,show((Hd.map zA).length<1000000)=True from eq_true (by rw[lM];lia),show qG 1 [1] (RU (zD ts rls rs) #[S.length] none none none none)=[none,#[S.length]]from rfl,ab];rw[I]
 obtain⟨lt,ms,n,e4,w,t3,T3,Y⟩:=Rl A hR (show rs.length<=100 by lia) y S2 #[S.length] #[S1.length];have s:Old n (n++[MO.dic []]):=Old.app _ _;have e5:pG (RU (zD ts rls rs) #[S.length] #[S1.length] #[lt] none none) n=#[RU (zD ts rls rs) #[S.length] #[S1.length] #[lt] #[n.length] none,n++[MO.dic []],0]:=by unfold pG;simp? [gC];rfl
 obtain⟨told,P,p1⟩:=Rg (q.at'.mono (J.trans (w.trans s))) aa ak (λx U=>by have:=q.ll x U;lia) (show F.length<=8 by lia) pL (ah.imp le_of_lt);have g4:(n++[MO.dic []])[n.length]? =#[iH [],7]:=by simp[iH]
 have tl:told.length<64:=lt_of_le_of_lt (í P.le (Nat.pow_le_pow_right (by decide) (show _<=5 by rw[pL.length_eq,lM];exact aj))) (by decide);have u3:=w _ _ u2;have ul:=(gS.mp u3).1;have ai:=(gS.mp t3).1;obtain⟨x',p,q1,q2,q3,q4⟩:=ZG Y u ag (lt:=lt) (lg:=n.length) (ms:=ms) (C:=C) (ã ul) (ã ai) told [] (n++[MO.dic []]) none (s _ _ u3) (s _ _ t3) (λo=>T3.mono λm ds h _=>by have hm:=(gS.mp h).1;rw[cW #[]];exact s _ _ h) g4 (by rw[Ĉ];lia) .nil P.pc.sub;rw[Ĉ,Ħ]at q3;have kk: ∀K,K∈p↔ ∃R∈told,jL (cI rls rs) (Dl Hd C R) K:=λK=>by rw[q4];simp
 have M:Md ts rls rs Hd (fB F) C told:=⟨hH,W,hc,P.pc⟩
 have H: ∀K∈p,OB rs.length K:=λK v=>by obtain⟨R,_,h⟩:=(kk K).mp v;exact Zq M h
 refine⟨p,q2,H,λK v=>by obtain⟨R,h1,k⟩:=(kk K).mp v;exact Ri M h1 k,λQ h1 k=>?_,by lia,?_⟩
 .obtain⟨R,af,hs⟩:=Zr M h1 k;obtain⟨K,_,v⟩:=ZF t3 T3 Y (G.filter _) (í (ñ _ _) #[]);exact⟨K,(kk K).mpr ⟨R,af,v⟩,hs K v⟩
 .have o4:Old S ((n++[MO.dic []]).set n.length (.fdc (iH p))):=(q.at'.old.trans (J.trans (w.trans s))).set (by have:=sZ J;have:=sZ w;lia) _;obtain⟨T,hT⟩:=o4.is;refine nB (T:=T) rfl ?_ (NI _ _);rw[<-hT];show zS (AH (RU (zD ts rls rs) none none none none none) S)=_;unfold AH;refine aM (zL (ρ':=RU (zD ts rls rs) #[S.length] none none none none) (S':=S1) ?_ (zL (S':=S1) ?_ (zL e3 (zL e4 (zL e5 (zL (ρ':=RU (zD ts rls rs) #[S.length] #[S1.length] #[lt] #[n.length] x') (S':=(n++[MO.dic []]).set n.length (.dic (iH p))) ?_ ?_))))))
  .unfold uR;exists 7,f1
  .unfold uS;exists 7,Rj q.at'.dic #[]
  .unfold uT;exists 7,p1,show∀ds S,tG (.new ds) S=.ok ⟨ds,[]⟩ S from λ_ _=>rfl,q1
  .rw[Zu (λK v=>GW (H K v)) (λK v=>?_) #[] q2 (get_set g4),List.set_set];have:=congrArg List.length (H K v);have k:=ñ (λi=>decide (i∈K)) (List.range rs.length);rw[æ]at k
   lia
end
theorem Zv{r:List Nat->Bool}{k c:Db}(M:k.Nodup)(d: ∀K∈k,OB m K)(w: ∀K∈k,r K=true)(E: ∀P,OB m P->r P=true-> ∃K∈k, ∀i∈P,i∈K)(T:c.Nodup)(n: ∀D∈c,OB m D)(F: ∀D∈c,r D=true)(y: ∀P,OB m P->r P=true-> ∃D∈c, ∀i∈P,i∈D)(H: ∀D∈c, ∀D'∈c,(∀i∈D,i∈D')->D=D'):
  (k.filter λK=>!k.any λO=>DP O K).Perm c:=by
 have le: ∀{A B:Tk},OB m A->(∀i∈A,i∈B)->A.length<=B.length:=λq h=>(GW q).length_le_of_subset h
 have eq: ∀{A B:Tk},OB m A->OB m B->(∀i∈A,i∈B)-> ¬A.length<B.length->A=B:=λ{A B} q N h U=>YS q N λi=>⟨h i,λhi=>ě λz=>U ((nodup_cons.mpr ⟨z,GW q⟩).length_le_of_subset λj s=>by
  rcases mC.mp s with rfl|s
  .exact hi
  .exact h j s)⟩
 refine(List.perm_ext_iff_of_nodup (M.filter _) T).mpr λK=>?_;rw[á,ċ,þ];constructor
 .rintro⟨h1,Q⟩;obtain⟨D,p,I⟩:=y K (d K h1) (w K h1);obtain⟨b,a,o⟩:=E D (n D p) (F D p);rw[eq (d K h1) (n D p) I λz=>Q b a (NB.mpr ⟨é z (le (n D p) o),λi hi=>o i (I i hi)⟩)];exact p
 .intro h;obtain⟨b,a,o⟩:=E K (n K h) (F K h);obtain⟨D',u,J⟩:=y b (d b a) (w b a);have e:=H K h D' u λi hi=>J i (o i hi);have e2:b=K:=YS (d b a) (n K h) λi=>⟨λz=>e▸J i z,o i⟩
  refine⟨e2▸a,λO C z=>?_⟩;obtain⟨X,S⟩:=NB.mp z;obtain⟨L,v,G⟩:=y O (d O C) (w O C);have W:=H K h L v λi hi=>G i (S i hi);have:=le (d O C) (B:=K) λi hi=>W▸G i hi
  lia
abbrev wM:=Int×Int
variable{L:List wM}
def aO(m:wM):MV:=.tup [.int m.1,.int m.2]
def cL(low:Int)(m:wM):Row:=
 if 0<=m.1 then(0,[.int (if m.2= -1 then low else low+100 * m.1+m.2+1),.int (low+100 * m.1+m.2+1),.int (low+100 * m.1+if m.2= -1 then 0 else m.2)])
 else if m.1= -1 then(1,[.int low,.str [107,97+m.2.toNat]])else(2,[.str [97+m.2.toNat]])
def BC(m:wM):Prop:=(0<=m.1/\m.1<3/\ -1<=m.2/\m.2<6)\/((m.1= -1\/m.1= -2)/\0<=m.2/\m.2<8)
structure MkOk(e:Nat)(L:List wM):Prop where
 nd:L.Nodup
 dom: ∀m∈L,BC m/\m.1<e
 top: ∀k:Int,0<=k->k<e->(k, -1)∈L
 dn: ∀m∈L,0<=m.1->0<=m.2->(m.1,m.2 - 1)∈L
 len:L.length<=40
 e2:2<=e
 e3:e<=3
def Dm(f:Bool):List (Int×Int):=[(3,1),(2,2),(1,if f=true then 1 else 0)]
def Cy:Rule:=.tie 0 [2] 0 [1]
def Do:Rule:=.tie 1 [0] 0 [0]
def C7(low:Int)(b:wM):Rule:=.never 0 [⟨.cell 0 1,tU,.isv (.int (low+100 * b.1+b.2+1))⟩]
def NP(low:Int):Option wM->List Rule
 |none=>[Cy,Do]
 |some b=>[Cy,C7 low b,Do]
def Zw(m:wM):wM:=(m.1,if m.2= -1 then -1 else m.2 - 1)
def IQ(L:List wM)(b:Option wM):Prop:= ∀x,b=some x->x∈L/\0<=x.1/\0<=x.2
theorem GY{b:Option wM}{r:Rule}:r∈NP low b↔r=Cy\/r=Do\/ ∃x,b=some x/\r=C7 low x:=by
 cases b with
 |none=>simp[NP]
 |some b=>simp[NP];grind
section
variable{low:Int}{m q:wM}{f:Bool}
def Js(h:0<=m.1):cL low m=(0,[.int (if m.2= -1 then low else low+100 * m.1+m.2+1),.int (low+100 * m.1+m.2+1),.int (low+100 * m.1+if m.2= -1 then 0 else m.2)]):=iP h
theorem U5(h:m.1= -1):cL low m=(1,[.int low,.str [107,97+m.2.toNat]]):=by unfold cL;rw[iN #[],iP h]
theorem rw2(h:m.1= -2):cL low m=(2,[.str [97+m.2.toNat]]):=by unfold cL;rw[iN #[],iN #[]]
theorem mk3(h:BC m):0<=m.1\/m.1= -1\/m.1= -2:=by unfold BC at h;lia
theorem Tg(h:BC m)(i: -4<=low)(e:low<1000000000):qL (Dm f) (cL low m):=by
 rcases mk3 h with c|c|c
 .rw[Js c];refine⟨(3,1),rfl,rfl,λd a=>?_⟩;unfold BC at h;simp only[mC,nM,or_false]at a;rcases a with rfl|rfl|rfl
  .split<;>exact⟨by lia,by lia⟩
  .exact⟨by lia,by lia⟩
  .split<;>exact⟨by lia,by lia⟩
 .rw[U5 c];refine⟨(2,2),rfl,rfl,λd a=>?_⟩;unfold BC at h;simp only[mC,nM,or_false]at a;rcases a with rfl|rfl
  .exact⟨by lia,by lia⟩
  .exact⟨by simp,by simp,λc b=>by simp at b;lia⟩
 .rw[rw2 c];refine⟨(1,_),rfl,rfl,λd a=>?_⟩;unfold BC at h;rw[mS.mp a];exact⟨by simp,by simp,λc b=>by simp at b;lia⟩
theorem UX{b:Option wM}(e: ∀x,b=some x->BC x/\0<=x.1)(k: -4<=low)(j:low<1000000000): ∀r∈NP low b,nH (Dm f) r:=λr d=>by
 rcases GY.mp d with rfl|rfl|⟨x,hx,rfl⟩
 .exact⟨(by decide:0<3),(by decide:0<3),by decide,by decide,rfl,λc a=>by rw[mS.mp a];exact(by decide:(2:Int)<3),λc a=>by rw[mS.mp a];exact(by decide:(1:Int)<3)⟩
 .exact⟨(by decide:1<3),(by decide:0<3),by decide,by decide,rfl,λc a=>by rw[mS.mp a];exact(by decide:(0:Int)<2),λc a=>by rw[mS.mp a];exact(by decide:(0:Int)<3)⟩
 .obtain⟨h1,i⟩:=e x hx;unfold BC at h1;refine⟨(by decide:0<3),à 1,show 1<=3 by decide,λq h=>?_⟩;rw[mS.mp h];exact⟨⟨3,rfl,by decide⟩,show tU∈Ih by decide,⟨by lia,by lia⟩⟩
theorem Th:KB Cy (cL low m)=decide (0<=m.1):=by
 by_cases h:0<=m.1
 .rw[Js h,dT0 h];rfl
 .rw[dF0 h];unfold cL;rw[iN h];split<;>rfl
theorem Ti:KB Do (cL low m)=decide (m.1= -1):=by
 by_cases h:m.1= -1
 .rw[U5 h,dT0 h];rfl
 .rw[dF0 h];unfold cL;rw[iN h];split<;>rfl
def NQ{a b:Int}:[MV.int a]=[MV.int b]↔a=b:=⟨λh=>by injection h with h _;injection h,λh=>by rw[h]⟩
theorem rwN(c: ¬0<=m.1): ¬((cL low m).1:Int)=(0:Nat):=by unfold cL;rw[iN c];split<;>(dsimp only;lia)
theorem U6(d:BC m)(e:BC q)(h:0<=m.1):KC Cy (cL low m) (cL low q)=decide (q=Zw m):=by
 by_cases c:0<=q.1
 .rw[Js h,Js c];show decide ([MV.int (low+100 * q.1+q.2+1)]=[MV.int (low+100 * m.1+if m.2= -1 then 0 else m.2)])=_;refine dec_is (NQ.trans ?_);obtain⟨a,b⟩:=m;obtain⟨x,y⟩:=q;unfold Zw;unfold BC at d e;rw[ĸ];dsimp only at *;split<;>lia
 .rw[dF0 (by rintro rfl;exact c h)];show(decide _&&_)=false;rw[dF0 (rwN c)];rfl
theorem U7(a:BC q)(h:m.1= -1):KC Do (cL low m) (cL low q)=decide (0<=q.1/\q.2= -1):=by
 by_cases c:0<=q.1
 .rw[U5 h,Js c];show decide ([MV.int (if q.2= -1 then low else low+100 * q.1+q.2+1)]=[MV.int low])=_;refine dec_is (NQ.trans ?_);unfold BC at a;split<;>lia
 .rw[dF0 λz=>c z.1];show(decide _&&_)=false;rw[dF0 (rwN c)];rfl
theorem ZH{b:wM}(h:BC b)(e:0<=b.1)(d:BC m):lK (C7 low b) (cL low m)=decide (m=b):=by
 by_cases c:0<=m.1
 .rw[Js c];show(rO [_] ⟨.cell 0 1,tU,.isv (.int (low+100 * b.1+b.2+1))⟩&&true)=_;unfold rO;rw[iP rfl,Bool.and_true];show decide (MV.int (low+100 * m.1+m.2+1)=MV.int (low+100 * b.1+b.2+1))=_;refine dec_is ((Iff.of_eq (MV.int.injEq _ _)).trans ?_);obtain⟨a,c⟩:=m;obtain⟨x,y⟩:=b;unfold BC at d h;rw[ĸ];dsimp only at *
  lia
 .rw[dF0 (by rintro rfl;exact c e)];show(decide _&&_)=false;rw[dF0 (rwN c)];rfl
end
def ZI{a b:Tk}:MV.str a=MV.str b↔a=b:=⟨λh=>by injection h,λh=>by rw[h]⟩
theorem U8{m q:wM}{f:Bool}(i:BC m)(j:BC q)(k:m.1= -2->q.1= -2->f=true)(h:m≠q)(e:UT (Dm f) (cL low m) (cL low q)=true):(0<=m.1/\m.2= -1)/\0<=q.1/\q.2= -1:=by
 have e:=ì e;unfold GT at e;injection e with e
 injection e with e1 e2
 injection e2 with e2 _
 injection e2 with e2
 have e1:=pP e1;obtain⟨a,b⟩:=m;obtain⟨x,y⟩:=q;rcases mk3 i with c|c|c<;>rcases mk3 j with d|d|d<;>unfold BC at i j<;>dsimp only at * <;>simp only[Js,U5,rw2,c,d]at e1 e2<;>try (cases e1;done)
 .have e2:[MV.int (if b= -1 then low else low+100 * a+b+1)]=[MV.int (if y= -1 then low else low+100 * x+y+1)]:=e2;have e2:=NQ.mp e2;rw[ne_eq,ĸ]at h;split at e2<;>split at e2<;>lia
 .have e2:[MV.int low,.str [107,97+b.toNat]]=[MV.int low,.str [107,97+y.toNat]]:=e2;injection e2 with _ e2
  injection e2 with e2 _
  have e2:=ZI.mp e2;simp only[List.cons.injEq,and_true,true_and]at e2;rw[ne_eq,ĸ]at h
  lia
 .have e2:cN [MV.str [97+b.toNat]] none (some (if f=true then 1 else 0))=cN [MV.str [97+y.toNat]] none (some (if f=true then 1 else 0)):=e2;rw[k c d,iP rfl]at e2;have e2:[MV.str [97+b.toNat]]=[MV.str [97+y.toNat]]:=e2;injection e2 with e2 _
  have e2:=ZI.mp e2;simp only[List.cons.injEq,and_true]at e2;rw[ne_eq,ĸ]at h
  lia
abbrev mA(L:List wM)(i:Nat):wM:=(L[i]?).getD (0,0)
theorem DF{i:Nat}(h:i<L.length):L[i]? =some (mA L i):=by unfold mA;rw[gE h];rfl
def cK{i:Nat}(h:i<L.length):mA L i∈L:=ô (DF h)
def NS(n:L.Nodup){i j:Nat}(hi:i<L.length)(a:j<L.length)(e:mA L i=mA L j):i=j:=by have h1:=DF hi;rw[e]at h1;obtain⟨_,c⟩:=gS.mp h1;obtain⟨_,b⟩:=gS.mp (DF a);exact(getElem_inj n).mp (c.trans b.symm)
def GZ{m:wM}(h:m∈L): ∃i,i<L.length/\mA L i=m:=by obtain⟨i,hi,rfl⟩:=Ń h;exact⟨i,hi,by unfold mA;rw[gE hi];rfl⟩
theorem DS{i:Nat}(h:i<L.length):yI (L.map (cL low)) i=cL low (mA L i):=by unfold yI;rw[ò,DF h];rfl
def fK(L:List wM):Bool:=decide (1<(L.filter λm=>decide (m.1= -2)).length)
def Zx: ∀{l:List α}{a b:α},a∈l->b∈l->a≠b->1<l.length
 |[x],a,b,ha,hb,h=>absurd ((mS.mp ha).trans (mS.mp hb).symm) h
 |_::_::_,_,_,_,_,_=>by simp
def UY{rls:List Rule}{rs:List Row}{P:Tk}:Ko ts rls rs P=true↔(∀i∈P, ∀j∈P,i<j->RT ts rls rs i j=false)/\ ∀i∈P, ∀r∈rls,lK r (yI rs i)=false/\yR r (yI rs i) (P.map (yI rs))=false:=by
 unfold Ko Qp;rw[aE,ó];refine and_congr (Ď λi=>Ď λhi=>?_) ?_
 .rw[ó];refine Ď λj=>Ď λa=>?_;by_cases h:i<j<;>simp[h]
 .rw[ċ,þ];refine Ď λi=>Ď λhi=>?_;rw[ē,þ];refine Ď λr=>Ď λb=>?_;rw[ē,Bool.or_eq_false_iff]
abbrev W9(L:List wM)(low:Int)(b:Option wM):Nat->Nat->Bool:=RT (Dm (fK L)) (NP low b) (L.map (cL low))
abbrev gdK(L:List wM)(low:Int)(b:Option wM):List Nat->Bool:=Ko (Dm (fK L)) (NP low b) (L.map (cL low))
def Dp(k:Int)(b:Option wM)(m:wM):Bool:=decide (m.1<0) || (decide (m.1=k)&&(match b with |none=>true|some x=>!decide (x.1=k) || decide (m.2<x.2)))
def dK(L:List wM)(b:Option wM)(k:Nat):List Nat:=(List.range L.length).filter λi=>Dp k b (mA L i)
theorem bD{k:Int}{b:Option wM}{m:wM}:Dp k b m=true↔m.1<0\/m.1=k/\ ∀x,b=some x->x.1=k->m.2<x.2:=by
 unfold Dp
 cases b with
 |none=>simp
 |some x=>simp;grind
def jN{b:Option wM}{k i:Nat}:i∈dK L b k↔i<L.length/\Dp k b (mA L i)=true:=by unfold dK;rw[á,ç]
def UZ{b:Option wM}{k:Nat}:OB L.length (dK L b k):=by
 unfold OB
 conv=>lhs;unfold dK
 refine filter_congr λi hi=>?_;rw[Ą,î,jN];exact⟨λh=>⟨ç.mp hi,h⟩,λh=>h.2⟩
section
variable{e:Nat}{L:List wM}{low:Int}{b:Option wM}
def U9(h:MkOk e L){i j:Nat}(hi:i<L.length)(k:j<L.length)(m:i≠j)(d:W9 L low b i j=true):(0<=(mA L i).1/\(mA L i).2= -1)/\0<=(mA L j).1/\(mA L j).2= -1:=by
 have n:mA L i≠mA L j:=λz=>m (NS h.nd hi k z);unfold W9 RT at d;rw[DS hi,DS k,ĝ]at d;rcases d with d|d
 .exact U8 (h.dom _ (cK hi)).1 (h.dom _ (cK k)).1 (λa c=>dT0 (Zx (á.mpr ⟨cK hi,dT0 a⟩) (á.mpr ⟨cK k,dT0 c⟩) n)) n d
 .obtain⟨r,o,z⟩:=ù.mp d;rcases GY.mp o with rfl|rfl|⟨x,_,rfl⟩<;>cases z
theorem ends_K(h:MkOk e L):((List.range L.length).filter λi=>decide (0<=(mA L i).1/\(mA L i).2= -1)).length<=5:=by
 have o:(((List.range L.length).filter λi=>decide (0<=(mA L i).1/\(mA L i).2= -1)).map (mA L)).Nodup:=Č.mpr (Ğ (λ{a c} k p d z=>d (NS h.nd (ç.mp (á.mp k).1) (ç.mp (á.mp p).1) z)) (nodup_range.filter _))
 have:=o.length_le_of_subset (l₂:=[((0:Int),(-1:Int)),(1, -1),(2, -1)]) λm n=>by
  obtain⟨i,hi,rfl⟩:=mM.mp n;obtain⟨h1,b⟩:=á.mp hi;have b:=ì b;have j:=(h.dom _ (cK (ç.mp h1))).1;generalize mA L i=m at b j;obtain⟨x,y⟩:=m;unfold BC at j;dsimp only at b j;obtain⟨b,rfl⟩:=b;have:x=0\/x=1\/x=2:=by lia
  rcases this with rfl|rfl|rfl<;>simp
 rw[lM]at this;exact í this (by decide)
def V1(h:MkOk e L){P:Tk}(a: ∀i∈P,i<L.length){i:Nat}(hi:i∈P)(c:0<=(mA L i).1):yR Cy (yI (L.map (cL low)) i) (P.map (yI (L.map (cL low))))=false↔ ∃j∈P,mA L j=Zw (mA L i):=by unfold yR;rw[DS (a i hi),Th,dT0 c,Ĺ,Ŀ,Ĩ,ù];refine exists_congr λj=>and_congr_right λb=>?_;show KC _ _ (yI _ j)=true↔_;rw[DS (a j b),U6 (h.dom _ (cK (a i hi))).1 (h.dom _ (cK (a j b))).1 c,î]
def lk_1(h:MkOk e L){P:Tk}(a: ∀i∈P,i<L.length){i:Nat}(hi:i∈P)(c:(mA L i).1= -1):yR Do (yI (L.map (cL low)) i) (P.map (yI (L.map (cL low))))=false↔ ∃j∈P,0<=(mA L j).1/\(mA L j).2= -1:=by unfold yR;rw[DS (a i hi),Ti,dT0 c,Ĺ,Ŀ,Ĩ,ù];refine exists_congr λj=>and_congr_right λb=>?_;show KC _ _ (yI _ j)=true↔_;rw[DS (a j b),U7 (h.dom _ (cK (a j b))).1 c,î]
theorem Jt(h:MkOk e L)(p:IQ L b){k:Nat}(u:k<e):gdK L low b (dK L b k)=true:=by
 have lt: ∀i∈dK L b k,i<L.length:=λi hi=>(jN.mp hi).1;refine UY.mpr ⟨λi hi j o v=>?_,λi hi r A=>?_⟩
 .cases z:RT _ _ _ i j with
  |false=>rfl
  |true=>
   obtain⟨⟨E,G⟩,D,F⟩:=U9 h (lt i hi) (lt j o) (ã v) z;have a:=bD.mp (jN.mp hi).2;have n:=bD.mp (jN.mp o).2;exact absurd (NS h.nd (lt i hi) (lt j o) (Prod.ext #[] #[])) (ã v)
 .have a:=bD.mp (jN.mp hi).2;have s:=h.dom _ (cK (lt i hi));rcases GY.mp A with rfl|rfl|⟨x,c,rfl⟩
  .refine⟨rfl,?_⟩;by_cases d:0<=(mA L i).1
   .refine(V1 h lt hi d).mpr ?_
    have y:Zw (mA L i)∈L:=by
     unfold Zw;split
     .rename_i z;have:=cK (lt i hi);rw[<-z];exact this
     .refine h.dn _ (cK (lt i hi)) d ?_;have:=s.1;unfold BC at this
      lia
    obtain⟨j,q,m⟩:=GZ y;refine⟨j,jN.mpr ⟨q,bD.mpr ?_⟩,m⟩;rw[m];unfold Zw;rcases a with a|⟨a,n⟩
    .lia
    .refine .inr ⟨a,λx c u=>?_⟩;have:=n x c u;have:=(p x c).2.2;dsimp only;split<;>lia
   .unfold yR;rw[DS (lt i hi),Th,dF0 d];rfl
  .refine⟨rfl,?_⟩;by_cases d:(mA L i).1= -1
   .refine(lk_1 h lt hi d).mpr ?_;obtain⟨j,q,m⟩:=GZ (h.top k #[] #[]);refine⟨j,jN.mpr ⟨q,bD.mpr ?_⟩,by rw[m];exact⟨Int.natCast_nonneg _,rfl⟩⟩;rw[m];refine .inr ⟨rfl,λx c _=>?_⟩;have:=(p x c).2.2;dsimp only
    lia
   .unfold yR;rw[DS (lt i hi),Ti,dF0 d];rfl
  .refine⟨?_,rfl⟩;obtain⟨w,B,C⟩:=p x c;rw[DS (lt i hi),ZH (h.dom x w).1 B s.1];refine dF0 λz=>?_;rw[z]at a;rcases a with a|⟨a,n⟩
   .lia
   .have:=n x c a;lia
theorem V2(h:MkOk e L)(Q:IQ L b){P:Tk}(p: ∀i∈P,i<L.length)(M:gdK L low b P=true): ∃k,k<e/\ ∀i∈P,i∈dK L b k:=by
 obtain⟨H,g2⟩:=UY.mp M;have I:=λi hi=>(h.dom _ (cK (p i hi))).1;have s: ∀i∈P,0<=(mA L i).1->0<=(mA L i).2-> ∃j∈P,mA L j=((mA L i).1,(mA L i).2 - 1):=λi hi d h1=>by obtain⟨j,o,e⟩:=(V1 h p hi d).mp (g2 i hi Cy (GY.mpr (.inl rfl))).2;refine⟨j,o,e.trans ?_⟩;unfold Zw;rw[iN #[]]
 have m: ∀(n:Nat), ∀i∈P,0<=(mA L i).1->(mA L i).2+1=n-> ∃j∈P,mA L j=((mA L i).1, -1):=λn=>by
  induction n with
  |zero=>exact λi hi d h1=>⟨i,hi,Prod.ext rfl (by dsimp only;lia)⟩
  |succ n ih=>
   intro i hi d h1;obtain⟨j,o,e⟩:=s i hi d #[];obtain⟨q,A,e2⟩:=ih j o (by rw[e];exact d) (by rw[e];dsimp only;lia);exact⟨q,A,by rw[e2,e]⟩
 have m: ∀i∈P,0<=(mA L i).1-> ∃j∈P,mA L j=((mA L i).1, -1):=λi hi d=>m ((mA L i).2+1).toNat i hi d (by have:=I i hi;unfold BC at this;lia)
 have u: ∀x,b=some x-> ∀(n:Nat), ∀i∈P,(mA L i).1=x.1->(mA L i).2=x.2+n->False:=λx v n=>by
  obtain⟨E,S,W⟩:=Q x v
  induction n with
  |zero=>
   intro i hi d h1;have:=(g2 i hi _ (GY.mpr (.inr (.inr ⟨x,v,rfl⟩)))).1;rw[DS (p i hi),ZH (h.dom x E).1 S (I i hi)]at this;exact of_decide_eq_false this (Prod.ext d #[])
  |succ n ih=>
   intro i hi d h1;obtain⟨j,o,e⟩:=s i hi #[] #[];exact ih j o (by rw[e];exact d) (by rw[e];dsimp only;lia)
 have u: ∀x,b=some x-> ∀i∈P,(mA L i).1=x.1->(mA L i).2<x.2:=λx v i hi d=>Int.not_le.mp λz=>u x v ((mA L i).2 - x.2).toNat i hi d #[];by_cases c: ∃i∈P,0<=(mA L i).1
 .obtain⟨i,hi,d⟩:=c;obtain⟨j,o,B⟩:=m i hi d;have X:=(h.dom _ (cK (p i hi))).2;refine⟨(mA L i).1.toNat,by lia,λq A=>jN.mpr ⟨p q A,bD.mpr ?_⟩⟩;rw[ğ d];by_cases G:(mA L q).1<0
  .exact .inl G
  .obtain⟨r,D,C⟩:=m q A #[]
   have y:(mA L q).1=(mA L i).1:=by
    refine ě λz=>?_;have F:r≠j:=λw=>z (by have:=C.symm.trans ((congrArg (mA L) w).trans B);exact(Prod.mk.inj this).1);have pt: ∀a∈P, ∀c∈P,0<=(mA L a).1->0<=(mA L c).1->(mA L a).2= -1->(mA L c).2= -1->W9 L low b a c=true:=λa O c K J N T E=>by unfold W9 RT;rw[DS (p a O),DS (p c K),Js J,Js N,T,E];exact Bool.or_eq_true_iff.mpr (.inl (dT0 rfl))
    rcases Nat.lt_or_gt_of_ne F with w|w
    .exact xF0 ((H r D j o w).symm.trans (pt r D j o (by rw[C];dsimp only;lia) (by rw[B];exact d) (by rw[C]) (by rw[B])))
    .exact xF0 ((H j o r D w).symm.trans (pt j o r D (by rw[B];exact d) (by rw[C];dsimp only;lia) (by rw[B]) (by rw[C])))
   exact .inr ⟨y,λx v U=>u x v q A #[]⟩
 .exact⟨0,by have:=h.e2;lia,λi hi=>jN.mpr ⟨p i hi,bD.mpr (.inl (Int.not_le.mp λz=>c ⟨i,hi,z⟩))⟩⟩
theorem Ju(h:MkOk e L)(d:IQ L b){k:Nat}(n:k<e): ∃i∈dK L b k,mA L i=((k:Int), -1):=by
 obtain⟨j,c,a⟩:=GZ (h.top k #[] #[]);refine⟨j,jN.mpr ⟨c,bD.mpr ?_⟩,a⟩;rw[a];refine .inr ⟨rfl,λx m _=>?_⟩;have:=(d x m).2.2;dsimp only
 lia
theorem Tj(h:MkOk e L)(a:IQ L b){k l:Nat}(c:k<e)(hs: ∀i∈dK L b k,i∈dK L b l):k=l:=by
 obtain⟨i,hi,d⟩:=Ju h a c;have:=bD.mp (jN.mp (hs i hi)).2;rw[d]at this;dsimp only at this
 lia
def KG(L:List wM)(b:Option wM)(e:Nat):List (List Nat):=(List.range e).map (dK L b)
def V3(h:MkOk e L)(k:IQ L b):(KG L b e).Nodup:=Č.mpr (Ğ (λ{a c} j m d z=>d (Tj h k (ç.mp j) (λi hi=>z▸hi))) nodup_range)
def iI{D:Tk}:D∈KG L b e↔ ∃k,k<e/\D=dK L b k:=by unfold KG;rw[mM];exact⟨λ⟨k,h1,a⟩=>⟨k,ç.mp h1,a.symm⟩,λ⟨k,h1,a⟩=>⟨k,ç.mpr h1,a.symm⟩⟩
def Zy{K:Tk}(h:OB m K): ∀i∈K,i<m:=λi hi=>by rw[h]at hi;exact ç.mp (á.mp hi).1
theorem Jv(h:MkOk e L)(a:IQ L b)(s: -4<=low)(w:low<1000000000)(S:Sto):
  zK 1 nG [.val (zD (Dm (fK L)) (NP low b) (L.map (cL low)))] S=#[(DQ (KG L b e)).map yS,S,2]:=by
 have o: ∀r∈L.map (cL low),qL (Dm (fK L)) r:=λr o=>by obtain⟨m,z,rfl⟩:=mM.mp o;exact Tg (h.dom m z).1 s w
 have q: ∀r∈NP low b,nH (Dm (fK L)) r:=UX (λx v=>⟨(h.dom x (a x v).1).1,(a x v).2.1⟩) s w;have C:=h.len;have H:(L.map (cL low)).length=L.length:=lM _;obtain⟨J,A,y,E,u,K,B⟩:=Jr q o #[] (by cases b<;>simp[NP]) (ends_K h) (λi j hi I p G=>á.mpr ⟨ç.mpr #[],dT0 (U9 h #[] #[] p G).1⟩) S;rw[H]at y u;rw[B]
 have:=Zv A y E u (V3 h a) (λD d=>by obtain⟨k,_,rfl⟩:=iI.mp d;exact UZ) (λD d=>by obtain⟨k,c,rfl⟩:=iI.mp d;exact Jt h a c) (λP h1 F=>by
  obtain⟨k,c,hs⟩:=V2 h a (Zy h1) F;exact⟨_,iI.mpr ⟨k,c,rfl⟩,hs⟩) (λD d D' n hs=>by
  obtain⟨k,c,rfl⟩:=iI.mp d;obtain⟨l,s,rfl⟩:=iI.mp n;rw[Tj h a c hs])
 rw[KF ((kE _).trans this) (NL _)]
end
theorem VA(ds:X1)(S:Sto):tG (.new ds) S=.ok ⟨ds,[]⟩ S:=rfl
section
variable{ts:Za}{rls:List Rule}{rs:List Row}
theorem Cz(k: ∀r∈rls,nH ts r)(q: ∀r∈rs,qL ts r)(j:rls.length<=100)(hs: ∀i∈sm,i<rs.length)(A:sm.length<=120)(h1: ∀i∈sm,Cr rls rs sm i=[])(z: ∀p∈xL sm,GU ts rls rs p.1 p.2=[])(S:Sto):
  zK 2 AB [.val (zD ts rls rs),#[sm.map zA,6]] S=#[[],S,2]:=by
 generalize b:S++[MO.lst (rls.map bL),.lst []]=S2;have o:S2[S.length]? =#[rls.map bL,2]:=by rw[<-b];simp
 have gf:S2[S.length+1]? =#[[],2]:=by rw[<-b];exact Ig S _ _
 have n:TZ #[S.length+1,1] [.new []] S2=#[.non,S2,1]:=by rw[YQ gf (by decide)];exact congrArg _ (set_same gf)
 obtain⟨ρ1,S',f1,⟨x,y,rfl⟩,a⟩:=NC (gf:=zY 4) (body:=oW) (λ_ ρ S'=>(∃x y,ρ=Z6 ts rls rs sm S.length x y)/\S'=S2) (sm.map zA) 0 (à _) ⟨⟨none,none,rfl⟩,rfl⟩ λd m _ _ ρ S' ⟨⟨x,y,e⟩,a⟩=>by
  obtain⟨i,hi,rfl⟩:=mM.mp m;subst e a;have c:zK 4 wX [.val (zD ts rls rs),#[S.length,1],#[sm.map zA,6],.val (zA i)] S'=#[[],S',2]:=by rw[T7 k q j hs #[] (hs i hi) o,h1 i hi];rfl
  refine⟨_,Z6 ts rls rs sm S.length (some (zA i)) y,S',rfl,?_,⟨_,_,rfl⟩,rfl⟩;unfold oW oV;simp? [xA gf,c,n]
 rw[a]at f1
 obtain⟨v,S',f2,⟨w,u,rfl⟩,a⟩:=NC (gf:=qW 2 (zC (zY 4) (zC (zY 5) xB))) (body:=oY) (λ_ ρ S'=>(∃x y,ρ=Z6 ts rls rs sm S.length x y)/\S'=S2) ((xL sm).map nK) 0 (à _) ⟨⟨x,y,rfl⟩,rfl⟩ λd m _ _ ρ S' ⟨⟨x,y,e⟩,a⟩=>by
  obtain⟨p,s,rfl⟩:=mM.mp m;subst e a;obtain⟨p1,p2⟩:=CK s;have c:zK 4 yX [.val (zD ts rls rs),#[S.length,1],.val (zA p.1),.val (zA p.2)] S'=#[[],S',2]:=by rw[Te k q j (hs _ p1) (hs _ p2) o,z p s];rfl
  refine⟨_,Z6 ts rls rs sm S.length (some (zA p.1)) (some (zA p.2)),S',rfl,?_,⟨_,_,rfl⟩,rfl⟩;unfold oY oX;simp? [xA gf,c,n]
 rw[a]at f2;refine nB (T:=[MO.lst (rls.map bL),.lst []]) rfl ?_ trivial;rw[b];show zS (AA [some (zD ts rls rs),#[sm.map zA,3],none,none,none,none] S)=_;unfold AA;refine aM (zL (ρ':=[some (zD ts rls rs),#[sm.map zA,3],#[S.length],none,none,none]) (S':=S++[.lst (rls.map bL)]) ?_ (zL (ρ':=Z6 ts rls rs sm S.length none none) (S':=S2) ?_ (zL (ρ':=Z6 ts rls rs sm S.length x y) (S':=S2) ?_ (zL (ρ':=Z6 ts rls rs sm S.length w u) (S':=S2) ?_ ?_))))
 .unfold uK;simp? [EF k j]
 .unfold uL;simp? [LO];rw[lA,aA, <-b];rfl
 .unfold uM;simp? [dX];exact f1
 .unfold uN;simp? [YR (sm:=sm) #[],VA];exact f2
 .unfold uO;simp? [NN (T:=[]) (by decide) (λh=>absurd h (by decide)) (nE gf),(kE []).eq_nil];rfl
theorem Rm(d: ∀r∈rls,nH ts r)(n: ∀r∈rs,qL ts r)(b:rls.length<=100)(hs: ∀i∈sm,i<rs.length)(hw:sm.Pairwise (· <·))(h:sm.length<=120)(m:Ko ts rls rs sm=true)(S:Sto):
  zK 2 GD [.val (zD ts rls rs),#[sm.map zA,6]] S=#[.bl true,S,1]:=by
 obtain⟨j,g2⟩:=UY.mp m
 have c:=Cz d n b hs h (λi hi=>by
  unfold Cr;rw[List.filter_eq_nil_iff.mpr λk a=>by rw[(g2 i hi _ (tB (ç.mp a))).1];exact xF0,List.filter_eq_nil_iff.mpr λk a=>by rw[(g2 i hi _ (tB (ç.mp a))).2];exact xF0];rfl) (λp q=>by
  obtain⟨h1,o,e⟩:=(tD hw).mp q;have:=j _ h1 _ o e;rw[<-Jo]at this;unfold Qw at this;rw[Ŀ]at this;exact List.isEmpty_iff.mp this) S
 refine iE rfl ?_;show zS (MA [some (zD ts rls rs),#[sm.map zA,3]] S)=_;unfold MA GC;simp? [c,show∀ds S,fC [.new ds] S=.ok #[(ds.length:Nat),5] S from λ_ _=>rfl];rfl
end
def Jw{bk:MV}{T:Db}{K:Tk}(b: ∀S,zK 1 nG [.val bk] S=#[T.map yS,S,2])(m: ∀O∈T,O.Nodup/\O.length<=1000/\K.length / 4<=O.length)(k:K.length<=1000){D:Tk}(h: ∀O∈T,(K.all λi=>decide (i∈O))=true->O=D)(S:Sto):
  zK 2 gK [.val bk,.val (yS K)] S=#[if(T.any λO=>K.all λi=>decide (i∈O))=true then yS D else .non,S,1]:=by
 obtain⟨f1,f2⟩:=GP (f:=yS) (p:=λO=>K.all λi=>decide (i∈O)) (gf:=zY 2) (body:=kC) (gs:=[]) (S:=S) (r:=.val (yS D)) (λρ=> ∃x,ρ=[some bk,some (yS K),x]) (xM _) (ds:=T) (λO d ρ ⟨x,a⟩=>by
  subst a;obtain⟨h1,n,j⟩:=m O d;have c:=Jm h1 n k j S;refine⟨[some bk,some (yS K),some (yS O)],rfl,λz=>?_,λz=>⟨[some bk,some (yS K),some (yS O)],⟨_,rfl⟩,?_⟩⟩
  .rw[z]at c;rw[<-h O d z];unfold kC jA;simp? [c]
  .rw[z]at c;unfold kC jA;simp? [c];rfl) [some bk,some (yS K),none] ⟨_,rfl⟩
 refine xE (T:=[]) rfl ?_ (by split;exact wG (pQ D _);(unfold lo;trivial)) (λl=>by split<;>simp);rw[aN];show zS (dO [some bk,some (yS K),none] S)=_;unfold dO
 cases z:T.any λO=>K.all λi=>decide (i∈O)with
 |true=>
  rw[iP rfl];refine aM (gO ?_);unfold gX;simp? [b,VA];exact f1 z
 |false=>
  obtain⟨ρ',⟨x,rfl⟩,e⟩:=f2 z;rw[iN xF0];refine aM (zL (ρ':=[some bk,some (yS K),x]) (S':=S) ?_ ?_)
  .unfold gX;simp? [b,VA];exact e
  .unfold nU;simp? [gC]
def dY(S:Sto)(o:MO):(S++[o])[S.length]? =some o:=by simp
def CO{X:Sto}{k:Nat}{o:MO}(h:S[k]? =some o):(S++X)[k]? =some o:=by rw[ë (gS.mp h).1];exact h
theorem NT{n:Nat}(h:n<=1000)(S:Sto):nA [.val (zA n)] S=.ok ⟨(List.range n).map zA,[]⟩ S:=by show nA [#[(n:Int),5]] S=_;rw[Gr #[],Ġ];rfl
def VB(p:Nat×Nat):List wM:=((p.1:Int), -1)::(List.range p.2).map λj:Nat=>((p.1:Int),(j:Int))
def Tl(cs:List (Nat×Nat))(a b:Nat):List wM:=cs.flatMap VB++(List.range a).map (λj:Nat=>((-1:Int),(j:Int)))++(List.range b).map λj:Nat=>((-2:Int),(j:Int))
def ZJ(p:Nat×Nat):(VB p).length=p.2+1:=by unfold VB;rw[lC,lM,æ]
theorem tE{p:Nat×Nat}{m:wM}:m∈VB p↔m.1=p.1/\ -1<=m.2/\m.2<p.2:=by
 obtain⟨x,y⟩:=m;unfold VB;rw[mC,mM];constructor
 .rintro(h|⟨j,a,h⟩)
  .cases h;dsimp only;lia
  .cases h;have:=ç.mp a;dsimp only;lia
 .rintro⟨h1,d,b⟩;dsimp only at *;by_cases c:y= -1
  .exact .inl (by rw[h1,c])
  .exact .inr ⟨y.toNat,ç.mpr #[],by rw[h1,ğ #[]]⟩
theorem EH{cs:List (Nat×Nat)}{a b:Nat}{m:wM}:m∈Tl cs a b↔(∃p∈cs,m.1=p.1/\ -1<=m.2/\m.2<p.2)\/(m.1= -1/\0<=m.2/\m.2<a)\/m.1= -2/\0<=m.2/\m.2<b:=by
 have d: ∀(c:Int)(n:Nat),(m∈(List.range n).map λj:Nat=>(c,(j:Int)))↔m.1=c/\0<=m.2/\m.2<n:=λc n=>by
  obtain⟨x,y⟩:=m;rw[mM];constructor
  .rintro⟨j,e,h⟩;cases h;have:=ç.mp e;dsimp only;lia
  .rintro⟨h1,k,i⟩;dsimp only at *;exact⟨y.toNat,ç.mpr #[],by rw[h1,ğ #[]]⟩
 unfold Tl;rw[ê,ê,d,d,mem_flatMap,or_assoc];refine or_congr (exists_congr λp=>and_congr_right λ_=>tE) Iff.rfl
theorem Zz{cs:List (Nat×Nat)}{a b e:Nat}(h1:cs.map (·.1)=List.range e)(v: ∀p∈cs,p.2<=6)(B:a<=8)(C:b<=8)(e2:2<=e)(A:e<=3):MkOk e (Tl cs a b):=by
 have lt: ∀p∈cs,p.1<e:=λp i=>ç.mp (h1▸ń i);have u: ∀(c:Int)(n:Nat),((List.range n).map λj:Nat=>(c,(j:Int))).Nodup:=λc n=>Č.mpr (nodup_range.imp λ{x y} o z=>o (by cases z;rfl));have cl:cs.length=e:=by have:=congrArg List.length h1;rwa [lM,æ]at this
 refine⟨?_,λm s=>?_,λk H F=>?_,λm s G D=>?_,?_,e2,A⟩
 .unfold Tl;refine ħ.mpr ⟨ħ.mpr ⟨?_,u _ _,λx d y r z=>?_⟩,u _ _,λx d y r z=>?_⟩
  .refine List.pairwise_flatMap.mpr ⟨λp i=>?_,?_⟩
   .unfold VB;refine nodup_cons.mpr ⟨λz=>?_,u _ _⟩;obtain⟨j,_,h⟩:=mM.mp z;cases h
   .have:(cs.map (·.1)).Nodup:=h1▸nodup_range;refine(Č.mp this).imp λ{p q} o x d y r z=>o ?_;have:=(tE.mp d).1;have:=(tE.mp r).1;rw[z]at *
    lia
  .obtain⟨p,i,d⟩:=mem_flatMap.mp d;have:=(tE.mp d).1;obtain⟨j,_,rfl⟩:=mM.mp r;rw[z]at this;dsimp only at this
   lia
  .obtain⟨j,_,rfl⟩:=mM.mp r;rcases ê.mp d with d|d
   .obtain⟨p,i,d⟩:=mem_flatMap.mp d;have:=(tE.mp d).1;rw[z]at this;dsimp only at this
    lia
   .obtain⟨j,_,rfl⟩:=mM.mp d;cases z
 .unfold BC;rcases EH.mp s with⟨p,i,q1,q2,q3⟩|h|h
  .have:=lt p i;have:=v p i
   lia
  .lia
  .lia
 .obtain⟨p,i,E⟩: ∃p∈cs,(p.1:Int)=k:=by have:k.toNat∈cs.map (·.1):=h1▸ç.mpr #[];obtain⟨p,i,z⟩:=mM.mp this;exact⟨p,i,by lia⟩
  exact EH.mpr (.inl ⟨p,i,by dsimp only;lia,by dsimp only;lia,by dsimp only;lia⟩)
 .refine EH.mpr ?_;rcases EH.mp s with⟨p,i,q1,q2,q3⟩|h|h
  .exact .inl ⟨p,i,q1,by dsimp only;lia,by dsimp only;lia⟩
  .lia
  .lia
 .unfold Tl;rw[lA,lA,lM,lM,æ,æ]
  have: ∀(l:List (Nat×Nat)),(∀p∈l,p.2<=6)->(l.flatMap VB).length<=7 * l.length:=λl=>by
   induction l with
   |nil=>intro _;simp
   |cons p l ih=>
    intro h;have:=ih λq w=>h q (.tail _ w);have:=h p (.head _);rw[flatMap_cons,lA,lC,ZJ]
    lia
  have:=this cs v
  lia
def MkOk.perm{e:Nat}{M:List wM}(h:MkOk e L)(p:M.Perm L):MkOk e M:=⟨p.nodup_iff.mpr h.nd,λm c=>h.dom m (p.mem_iff.mp c),λk a b=>p.mem_iff.mpr (h.top k a b),λm c a b=>p.mem_iff.mpr (h.dn m (p.mem_iff.mp c) a b),by rw[p.length_eq];exact h.len,h.e2,h.e3⟩
theorem NU{St:List wM->Sto}{ρ:Option MV->Rho}{body:AY}{g:Nat->wM}(c: ∀x d S,zY 7 d (ρ x) S=.ok (ρ (some d)) S): ∀(a:Tk)(ms:List wM)(x:X2),ms.length+a.length<=1000->(∀j∈a, ∀ms:List wM,ms.length<1000->body (ρ (some (zA j))) (St ms)=#[ρ (some (zA j)),St (ms++[g j]),0])->
  ∃b,gB (zY 7) body [] (a.map zA) (ρ x) (St ms)=#[ρ b,St (ms++a.map g),0]
 |[],ms,x,_,_=>⟨x,by rw[show([]:Tk).map g=[]from rfl,aN];rfl⟩
 |j::a,ms,x,hl,st=>by rw[lC]at hl;obtain⟨b,e⟩:=NU c a (ms++[g j]) (some (zA j)) (by rw[lA,lS];lia) λi hi=>st i (.tail _ hi);refine⟨b,?_⟩;rw[è,jE (c _ _ _) (st j (.head _) ms #[]) (xM _),e,aA];rfl
abbrev MR(lc:Nat)(low:Int)(e n:Nat)(k h j o:X2):Rho:=[#[lc],#[low,0],some (zA e),#[n],#[n+1],k,h,j,o]
abbrev Ms(S:Sto)(rs:List Row)(ms:List wM):Sto:=S++[.lst (rs.map zB),.lst (ms.map aO)]
abbrev Mt(S:Sto)(low:Int)(ms:List wM):Sto:=Ms S (ms.map (cL low)) ms
section
variable{S:Sto}{rs:List Row}{ms:List wM}
def VC:(Ms S rs ms)[S.length]? =#[rs.map zB,2]:=by simp[Ms]
def Da:(Ms S rs ms)[S.length+1]? =#[ms.map aO,2]:=Ig S _ _
theorem Ro(h:rs.length<1000)(r:Row):fD #[S.length,1] [.val (zB r)] (Ms S rs ms)=#[.non,Ms S (rs++[r]) ms,1]:=by rw[eM VC (by rw[lM];lia)];unfold Ms;rw[ý];simp
theorem Rp(h:ms.length<1000)(m:wM):fD #[S.length+1,1] [.val (aO m)] (Ms S rs ms)=#[.non,Ms S rs (ms++[m]),1]:=by rw[eM Da (by rw[lM];lia)];unfold Ms;rw[ý];simp
theorem VD{ρ:Rho}{F G:AY}{m:wM}(h1:F ρ (Mt S low ms)=#[ρ,Ms S (ms.map (cL low)++[cL low m]) ms,0])(a:G ρ (Ms S (ms.map (cL low)++[cL low m]) ms)=#[ρ,Ms S (ms.map (cL low)++[cL low m]) (ms++[m]),0]):zO F G ρ (Mt S low ms)=#[ρ,Mt S low (ms++[m]),0]:=by rw[zG h1,a];unfold Mt;rw[ý];rfl
end
theorem V4(j:Nat)(a:j<8)(S:Sto):yC (.val (.str [97,98,99,100,101,102,103,104])) (.val (zA j)) S=#[.str [97+j],S,1]:=by
 have:j=0\/j=1\/j=2\/j=3\/j=4\/j=5\/j=6\/j=7:=by lia
 rcases this with rfl|rfl|rfl|rfl|rfl|rfl|rfl|rfl<;>rfl
section
variable{S:Sto}{lc e:Nat}{low:Int}
theorem A1{k:Nat}(a:Tk)(ms:List wM)(x:X2)(d:ms.length+a.length<=1000):
  ∃c,gB (zY 7) dP [] (a.map zA) (MR lc low e S.length (some (zA k)) #[low+100 * (k:Int),0] x none) (Mt S low ms)=#[MR lc low e S.length (some (zA k)) #[low+100 * (k:Int),0] c none,Mt S low (ms++a.map λj:Nat=>((k:Int),(j:Int))),0]:=
 NU (St:=Mt S low) (ρ:=λx=>MR lc low e S.length (some (zA k)) #[low+100 * (k:Int),0] x none) (λ_ _ _=>rfl) a ms x d λj _ ms b=>by
  have r:MV.tup [.int 0,.tup [.int (low+100 * (k:Int)+(j:Int)+1),.int (low+100 * (k:Int)+(j:Int)+1),.int (low+100 * (k:Int)+(j:Int))]]=zB (cL low ((k:Int),(j:Int))):=by rw[Js (Int.natCast_nonneg k)];dsimp only;rw[iN (show¬(j:Int)= -1 by lia),iN (show¬(j:Int)= -1 by lia)];rfl
  unfold dP;refine VD ?_ ?_
  .unfold nV;simp? [show zA j=.int (j:Int)from rfl,tup3,tup2,xA (VC (S:=S)),r,Ro (S:=S) (rs:=ms.map (cL low)) (by rw[lM];exact b)]
  .unfold nW;simp? [tup2,xA (Da (S:=S)),show MV.tup [zA k,zA j]=aO ((k:Int),(j:Int))from rfl,Rp (S:=S) b]
def A2(a:Tk)(d: ∀j∈a,j<8)(ms:List wM)(k h x:X2)(m:ms.length+a.length<=1000):
  ∃i,gB (zY 7) dR [] (a.map zA) (MR lc low e S.length k h x none) (Mt S low ms)=#[MR lc low e S.length k h i none,Mt S low (ms++a.map λj:Nat=>((-1:Int),(j:Int))),0]:=
 NU (St:=Mt S low) (ρ:=λx=>MR lc low e S.length k h x none) (λ_ _ _=>rfl) a ms x m λj b ms c=>by
  have r:MV.tup [.int 1,.tup [.int low,.str ([107]++[97+j])]]=zB (cL low ((-1:Int),(j:Int))):=by rw[U5 rfl];rfl
  unfold dR;refine VD ?_ ?_
  .unfold aD;simp? [V4 j (d j b),adds (show [107].length+[97+j].length<=1000 by simp),tup2,xA (VC (S:=S)),r,Ro (S:=S) (rs:=ms.map (cL low)) (by rw[lM];exact c)]
  .unfold aF;simp? [tup2,xA (Da (S:=S)),show MV.tup [.int (-1),zA j]=aO ((-1:Int),(j:Int))from rfl,Rp (S:=S) c]
def A3(a:Tk)(d: ∀j∈a,j<8)(ms:List wM)(k h x:X2)(m:ms.length+a.length<=1000):
  ∃i,gB (zY 7) dS [] (a.map zA) (MR lc low e S.length k h x none) (Mt S low ms)=#[MR lc low e S.length k h i none,Mt S low (ms++a.map λj:Nat=>((-2:Int),(j:Int))),0]:=
 NU (St:=Mt S low) (ρ:=λx=>MR lc low e S.length k h x none) (λ_ _ _=>rfl) a ms x m λj b ms c=>by
  have r:MV.tup [.int 2,.tup [.str [97+j]]]=zB (cL low ((-2:Int),(j:Int))):=by rw[rw2 rfl];rfl
  unfold dS;refine VD ?_ ?_
  .unfold aG;simp? [V4 j (d j b),Yx,tup2,xA (VC (S:=S)),r,Ro (S:=S) (rs:=ms.map (cL low)) (by rw[lM];exact c)]
  .unfold aH;simp? [tup2,xA (Da (S:=S)),show MV.tup [.int (-2),zA j]=aO ((-2:Int),(j:Int))from rfl,Rp (S:=S) c]
theorem Jx{s:Int}(o: ∀X,yC #[lc,1] #[1,5] (S++X)=.ok #[s,5] (S++X)): ∀(b:Tk)(ms:List wM)(k h x:X2),(∀k∈b,k<10)->ms.length+10 * b.length<=500->
  ∃j h' i, ∃cs:List (Nat×Nat),cs.map (·.1)=b/\(∀p∈cs,p.2<=6)/\gB (zY 5) dQ [] (b.map zA) (MR lc low e S.length k h x none) (Mt S low ms)=#[MR lc low e S.length j h' i none,Mt S low (ms++cs.flatMap VB),0]
 |[],ms,k,h,x,_,_=>⟨k,h,x,[],rfl,λp d=>(nomatch d),by rw[List.flatMap_nil,aN];rfl⟩
 |q::b,ms,k,h,x,h10,hl=>by
  rw[lC]at hl;have C:=h10 q (.head _);have r:MV.tup [.int 0,.tup [.int low,.int (low+100 * (q:Int)),.int (low+100 * (q:Int))]]=zB (cL low ((q:Int), -1)):=by rw[Js (Int.natCast_nonneg q)];dsimp only;rw[iP rfl,iP rfl,Int.add_zero,show low+100 * (q:Int)+ -1+1=low+100 * (q:Int) by lia];rfl
  obtain⟨n,D,A⟩:=iB s (4+(q:Int)) ⟨by lia,by lia⟩ (Mt S low (ms++[((q:Int), -1)]));have E:=md (x:=n) (n:=7);obtain⟨c,w⟩: ∃c:Nat,(c:Int)=n % 7:=⟨(n % 7).toNat,by lia⟩
  obtain⟨i,z⟩:=A1 (S:=S) (lc:=lc) (e:=e) (low:=low) (k:=q) (List.range c) (ms++[((q:Int), -1)]) x (by rw[lA,lS,æ];lia)
  obtain⟨j,h',m,cs,y,B,u⟩:=Jx o b (ms++VB (q,c)) (some (zA q)) #[low+100 * (q:Int),0] i (λk v=>h10 k (.tail _ v)) (by
   rw[lA,ZJ];dsimp only
   lia)
  refine⟨j,h',m,(q,c)::cs,by rw[è,y],λp d=>?_,?_⟩
  .rcases mC.mp d with rfl|d
   .dsimp only;lia
   .exact B p d
  .rw[è,jE (ρ0:=MR lc low e S.length (some (zA q)) h x none) (ρ':=MR lc low e S.length (some (zA q)) #[low+100 * (q:Int),0] i none) (S':=Mt S low (ms++VB (q,c))) rfl ?_ (xM _),u,flatMap_cons,aA];unfold dQ;refine zL (ρ':=MR lc low e S.length (some (zA q)) #[low+100 * (q:Int),0] x none) (S':=Mt S low ms) ?_ (zL (ρ':=MR lc low e S.length (some (zA q)) #[low+100 * (q:Int),0] x none) (S':=Ms S (ms.map (cL low)++[cL low ((q:Int), -1)]) ms) ?_ (zL (ρ':=MR lc low e S.length (some (zA q)) #[low+100 * (q:Int),0] x none) (S':=Mt S low (ms++[((q:Int), -1)])) ?_ ?_))
   .unfold nY;simp? [show zA q=.int (q:Int)from rfl,GK (a:=(q:Int)) ⟨by lia,by lia⟩]
   .unfold nZ;simp? [tup3,tup2,xA (VC (S:=S)),r,Ro (S:=S) (rs:=ms.map (cL low)) (by rw[lM];lia)]
   .unfold aB;simp? [tup2,xA (Da (S:=S)),show MV.tup [zA q,.int (-1)]=aO ((q:Int), -1)from rfl,Rp (S:=S) (ms:=ms) #[]];unfold Mt;rw[ý];rfl
   .unfold aC;simp? [o,show zA q=.int (q:Int)from rfl,A,mod_lit (show(0:Int)<7 by decide), <-w,show MV.int (c:Int)=zA c from rfl,NT (n:=c) #[]];rw[show MV.int (q:Int)=zA q from rfl,z,aA];rfl
end
theorem Dc{n:Nat}{F:List MV->Sto->R Er}{S2:Sto}{d:MV}(c:rs.length=n)(b:F (zP rs S).1 (zP rs S).2=#[d,S2,1])(a: ∀l,d≠.loc l)(h: ¬lo S.length d):zK n F rs S=#[d,S2,1]:=by
 unfold zK;rw[iP c,b];show bN S (.val d) S2=_;unfold bN;split
 .split
  .rename_i l e;cases e;exact absurd rfl (a l)
  .rename_i e;cases e;rw[iN h]
  .rename_i e;cases e
 .rfl
theorem Jy{T:List (Nat×Nat)}(i:T.length<64){p:Er}(c:kI S p=some (T.map nK)): ∃Q:List (Nat×Nat),Q.Perm T/\pY [p] S=#[Q.map nK,S,2]:=by
 have b:=kE (T.map λp=>[p.1,p.2]);have d: ∀x∈DQ (T.map λp=>[p.1,p.2]), ∃p:Nat×Nat,x=[p.1,p.2]:=λx a=>by obtain⟨p,_,rfl⟩:=mM.mp (b.mem_iff.mp a);exact⟨p,rfl⟩
 have bk:=b.map λx=>(x.headD 0,x.tail.headD 0)
 rw[ï,List.map_id'']at bk
 .refine⟨_,bk,?_⟩;rw[NN (T:=T.map λp=>[p.1,p.2]) (by rw[lM];exact i) (λ_ h=>by obtain⟨p,_,e⟩:=mM.mp h;cases e) (by rw[c,ï];rfl),ï];refine congrArg (λx=>R.ok (Er.new x) S) (map_congr_left λx a=>?_);obtain⟨p,rfl⟩:=d x a;rfl
 .exact λ_=>rfl
theorem RF{S:Sto}{gf:MV->Rho->Sto->R Rho}{cf:AZ}{ef:AX}{ρb:Rho}:
  ∀{ks:Tk},(∀k∈ks, ∃ρ1 m,gf (zA k) ρb S=.ok ρ1 S/\cf ρ1 S=.ok true S/\ef ρ1 S=#[nK (m,k),S,1])-> ∃T:List (Nat×Nat),T.map (·.2)=ks/\zT gf cf ef ρb [] (ks.map zA) S=.ok (T.map nK) S
 |[],_=>⟨[],rfl,rfl⟩
 |k::ks,st=>by obtain⟨ρ1,m,h1,c,b⟩:=st k (.head _);obtain⟨T,h,e⟩:=RF (ks:=ks) λd a=>st d (.tail _ a);exact⟨(m,k)::T,by rw[è,h],Ja h1 c b (xM _) e⟩
theorem A4(L:List wM):(List.range L.length).map (mA L)=L:=by
 refine Ł λi=>?_;rw[ò];by_cases h:i<L.length
 .rw[ł h,DF h];rfl
 .rw[ą (by rw[æ];lia),ą #[]];rfl
def uX{f:α->MV}{l:Nat}{L:List α}(h:S[l]? =#[L.map f,2]){i:Nat}{a:α}(hi:L[i]? =some a):yC #[l,1] (.val (zA i)) S=#[f a,S,1]:=Gq h (sY (by rw[ò,hi];rfl))
theorem Jz{lc:Nat}{cs:A0}(a:S[lc]? =#[cs.map MV.int,2])(c:cs.length=5)(j:Nat)(b:j<5)(X:Sto):yC #[lc,1] #[(j:Int),5] (S++X)=.ok #[(cs[j]?).getD 0,5] (S++X):=uX (f:=MV.int) (CO a) (by rw[gE (show j<cs.length by lia)];rfl)
theorem pk2(S:Sto)(p:Nat×Nat)(x:X2):qW 2 (zC (zY 0) (zC (zY 1) xB)) (nK p) [none,none,x] S=.ok [some (zA p.1),some (zA p.2),x] S:=rfl
theorem Rq{lc:Nat}{cs:A0}(hS:S[lc]? =#[cs.map MV.int,2])(h5:cs.length=5): ∃low e L o1 o2 D, -4<=low/\low<1000000000/\MkOk e L/\zK 1 lI [#[lc,1]] S=.ok #[[.int low,zA e,.loc (S.length+3),.loc (S.length+4)],6] (S++[o1,o2,D,.lst ((L.map (cL low)).map zB),.lst (L.map aO)]):=by
 have G:=Jz hS h5;have s:=G 0 (by decide) [];have v:=G 1 (by decide);have A:=G 2 (by decide);have I:=G 3 (by decide);rw[aN]at s;generalize (cs[0]?).getD 0=x0 at s;generalize (cs[1]?).getD 0=x1 at v;generalize (cs[2]?).getD 0=x2 at A;generalize (cs[3]?).getD 0=x3 at I;have s:yC #[lc,1] #[0,5] S=.ok #[x0,5] S:=s;have v: ∀X,yC #[lc,1] #[1,5] (S++X)=.ok #[x1,5] (S++X):=v;have A: ∀X,yC #[lc,1] #[2,5] (S++X)=.ok #[x2,5] (S++X):=A;have I: ∀X,yC #[lc,1] #[3,5] (S++X)=.ok #[x3,5] (S++X):=I;have w:=v [];rw[aN]at w;obtain⟨F,p1,e1⟩:=iB x0 1 (by decide) S;obtain⟨N,p2,e2⟩:=iB x0 2 (by decide) S;obtain⟨M,p3,e3⟩:=iB x1 3 (by decide) S;have C:Ni #[10,5] #[9,5] S=.ok #[10 ^ 9,5] S:=Oh (by unfold Fp;decide+kernel) S
 obtain⟨low,f1,P,Z⟩: ∃low:Int,dU [#[lc],none,none,none,none,none,none,none,none] S=#[[#[lc],#[low,0],none,none,none,none,none,none,none],S,0]/\ -4<=low/\low<1000000000:=by
  have q2:=md (x:=N) (n:=2);have O:N % 2=0\/N % 2=1:=by lia
  unfold dU;rcases O with z|z
  .have r:=md (x:=F) (n:=9);refine⟨F % 9 - 3,?_,by lia,by lia⟩;simp? [s,e1,e2,C,Gs,mod_lit (show(0:Int)<2 by decide),z,Gp (S:=S) (ds:=[.int 9,.int (10 ^ 9)]) (i:=0) (d:=.int 9) rfl,mod_lit (show(0:Int)<9 by decide)]
  .have r:=md (x:=F) (n:=10 ^ 9);refine⟨F % 10 ^ 9 - 3,?_,by lia,by lia⟩;simp? [s,e1,e2,C,Gs,mod_lit (show(0:Int)<2 by decide),z,Gp (S:=S) (ds:=[.int 9,.int (10 ^ 9)]) (i:=1) (d:=.int (10 ^ 9)) rfl,mod_lit (show(0:Int)<10 ^ 9 by decide)]
 have q3:=md (x:=M) (n:=2);obtain⟨e,he⟩: ∃e:Nat,(e:Int)=2+M % 2:=⟨(2+M % 2).toNat,by lia⟩
 obtain⟨u,h',x',q,a1,a2,a3⟩:=Jx (e:=e) (low:=low) v (List.range e) [] none none none (λk H=>by have:=ç.mp H;lia) (by rw[æ,Ĉ];lia);rw[Ļ]at a3;obtain⟨U,p5,e5⟩:=iB x2 5 (by decide) (Mt S low (q.flatMap VB));have q5:=md (x:=U) (n:=9);obtain⟨a,ha⟩: ∃a:Nat,(a:Int)=U % 9:=⟨(U % 9).toNat,by lia⟩
 have aa:q.length=e:=by have:=congrArg List.length a1;rwa [lM,æ]at this
 have R4: ∀b,b<=8->MkOk e (Tl q a b):=λb Y=>Zz a1 a2 #[] Y #[] #[];have l0:=(R4 0 (by decide)).len;unfold Tl at l0;rw[lA,lA,lM,lM,æ,æ]at l0;obtain⟨B,a4⟩:=A2 (S:=S) (lc:=lc) (e:=e) (low:=low) (List.range a) (λj J=>by have:=ç.mp J;lia) (q.flatMap VB) u h' x' (by rw[æ];lia);generalize y:q.flatMap VB++(List.range a).map (λj:Nat=>((-1:Int),(j:Int)))=ms1 at a4;obtain⟨W,p6,e6⟩:=iB x2 6 (by decide) (Mt S low ms1);have q6:=md (x:=W) (n:=9);obtain⟨b,Y⟩: ∃b:Nat,(b:Int)=W % 9:=⟨(W % 9).toNat,by lia⟩
 obtain⟨y',a5⟩:=A3 (S:=S) (lc:=lc) (e:=e) (low:=low) (List.range b) (λj J=>by have:=ç.mp J;lia) ms1 u h' B (by rw[æ, <-y,lA,lM,æ];lia);have ok:=R4 b #[];rw[show Tl q a b=ms1++(List.range b).map (λj:Nat=>((-2:Int),(j:Int))) by rw[<-y];rfl]at ok;generalize ms1++(List.range b).map (λj:Nat=>((-2:Int),(j:Int)))=ms at a5 ok;have ab:=ok.len;obtain⟨T,t1,t2⟩:=RF (S:=Mt S low ms) (gf:=zY 0) (cf:=aI) (ef:=gY) (ρb:=[none,#[lc]]) (ks:=List.range ms.length) λk H=>by have H:=ç.mp H;obtain⟨m,hm,e⟩:=iB x3 (40+(k:Int)) ⟨by lia,by lia⟩ (Mt S low ms);refine⟨[some (zA k),#[lc]],m.toNat,rfl,rfl,?_⟩;unfold gY;simp? [I,show zA k=.int (k:Int)from rfl,e,tup2];show R.ok (Er.val (.tup [.int m,.int (k:Int)])) _=R.ok (Er.val (.tup [.int (m.toNat:Int),.int (k:Int)])) _;rw[ğ hm]
 have ae:T.length=ms.length:=by have:=congrArg List.length t1;rwa [lM,æ]at this
 obtain⟨Q,q1,q2⟩:=Jy (T:=T) #[] (p:=.new (T.map nK)) (S:=Mt S low ms) rfl;have qp:(Q.map (·.2)).Perm (List.range ms.length):=by rw[<-t1];exact q1.map _
 have ql: ∀p∈Q,ms[p.2]? =some (mA ms p.2):=λp E=>DF (ç.mp (qp.mem_iff.mp (ń E)));have pL:(Q.map λp=>mA ms p.2).Perm ms:=by have:=qp.map (mA ms);rw[A4,ï]at this;exact this
 generalize o:Mt S low ms++[.lst (Q.map nK)]=S3;have r3:S3[S.length]? =#[(ms.map (cL low)).map zB,2]:=by rw[<-o];exact CO VC
 have K:S3[S.length+1]? =#[ms.map aO,2]:=by rw[<-o];exact CO Da
 have sl:(Mt S low ms).length=S.length+2:=by simp[Ms]
 have D:S3[S.length+2]? =#[Q.map nK,2]:=by rw[<-o, <-sl];exact dY _ _
 have s3:S3.length=S.length+3:=by rw[<-o,lA,sl];rfl
 have g1:zT (qW 2 (zC (zY 0) (zC (zY 1) xB))) aK gZ [none,none,#[S.length]] [(S.length+2,Q.map nK)] (Q.map nK) S3=.ok (((Q.map λp=>mA ms p.2).map (cL low)).map zB) S3:=by
  rw[ï,ï];refine yV (yN D) λp E=>⟨_,pk2 _ _ _,rfl,?_⟩
  unfold gZ;simp? [uX (f:=zB) r3 (i:=p.2) (a:=cL low (mA ms p.2)) (by rw[ò,ql p E];rfl)];rfl
 have g2:zT (qW 2 (zC (zY 0) (zC (zY 1) xB))) aL bA [none,none,#[S.length+1]] [(S.length+2,Q.map nK)] (Q.map nK) S3=.ok ((Q.map λp=>mA ms p.2).map aO) S3:=by
  rw[ï];refine yV (yN D) λp E=>⟨_,pk2 _ _ _,rfl,?_⟩
  unfold bA;simp? [uX (f:=aO) K (i:=p.2) (ql p E)];rfl
 have R1:=ok.perm pL
 have hQ:(Q.map nK).length<1000000:=by
  have:=pL.length_eq;rw[lM]at this ⊢
  lia
 generalize (Q.map λp=>mA ms p.2)=L at g1 g2 R1;refine⟨low,e,L,.lst ((ms.map (cL low)).map zB),.lst (ms.map aO),.lst (Q.map nK),P,Z,R1,?_⟩;refine Dc rfl ?_ (λl=>by simp) (λz=>?_)
 .show zS (lH [#[lc],none,none,none,none,none,none,none,none] S)=_;unfold lH;refine aM (zL f1 (zL (ρ':=[#[lc],#[low,0],some (zA e),none,none,none,none,none,none]) (S':=S) ?_ (zL (ρ':=[#[lc],#[low,0],some (zA e),#[S.length],none,none,none,none,none]) (S':=S++[.lst []]) ?_ (zL (ρ':=MR lc low e S.length none none none none) (S':=Mt S low []) ?_ (zL (ρ':=MR lc low e S.length u h' x' none) (S':=Mt S low (q.flatMap VB)) ?_ (zL (ρ':=MR lc low e S.length u h' B none) (S':=Mt S low ms1) ?_ (zL (ρ':=MR lc low e S.length u h' y' none) (S':=Mt S low ms) ?_ (zL (ρ':=MR lc low e S.length u h' y' #[S.length+2]) (S':=S3) ?_ ?_))))))))
  .unfold lX;simp? [w,e3,mod_lit (show(0:Int)<2 by decide), <-he];rfl
  .unfold lY;simp? [LO]
  .unfold lZ;simp? [LO];rw[lA,aA];rfl
  .unfold mB;simp? [NT (n:=e) #[]];exact a3
  .unfold mE;simp? [A,e5,mod_lit (show(0:Int)<9 by decide), <-ha,show MV.int (a:Int)=zA a from rfl,NT (n:=a) #[]];exact a4
  .unfold mG;simp? [A,e6,mod_lit (show(0:Int)<9 by decide), <-Y,show MV.int (b:Int)=zA b from rfl,NT (n:=b) #[]];exact a5
  .have ln:fC [#[S.length,1]] (Mt S low ms)=#[zA ms.length,Mt S low ms,1]:=by have:=sE (VC (S:=S) (rs:=ms.map (cL low)) (ms:=ms));rw[lM,lM]at this;exact this
   unfold mH;simp? [ln,NT (n:=ms.length) #[],show((List.range ms.length).map zA).length<1000000 by rw[lM,æ];lia,show∀a b c d e f g h i:Option MV,qG 1 [0] [a,b,c,d,e,f,g,h,i]=[none,a]from λ_ _ _ _ _ _ _ _ _=>rfl,t2,q2];rw[sl,o]
  .have tn: ∀ds es:List MV,yA [#[low,5],.val (zA e),.new ds,.new es] S3=.ok #[[.int low,zA e,.loc (S.length+3),.loc (S.length+4)],6] (S3++[.lst ds,.lst es]):=λds es=>by rw[fE (by simp)];show R.ok (Er.val (.tup [_,_,.loc S3.length,.loc (S3++[MO.lst ds]).length])) ((S3++[MO.lst ds])++[MO.lst es])=_;rw[lA,s3,aA];rfl
   unfold mI;simp? [kL D,hQ,show∀a b c d e f g h i:Option MV,qG 2 [3] [a,b,c,d,e,f,g,h,i]=[none,none,d]from λ_ _ _ _ _ _ _ _ _=>rfl,show∀a b c d e f g h i:Option MV,qG 2 [4] [a,b,c,d,e,f,g,h,i]=[none,none,e]from λ_ _ _ _ _ _ _ _ _=>rfl,g1,g2,tn];rw[<-o];unfold Mt Ms;rw[aA,aA];rfl
 .unfold lo uE at z;have z2:=z.2;unfold uE at z2;have z3:=z2.2;unfold uE at z3;have z4:=z3.1;unfold lo at z4
  lia
def BD:Option wM->MV
 |none=>.non
 |some m=>aO m
theorem Ka(m:wM)(S:Sto):yC (.val (aO m)) #[0,5] S=.ok #[m.1,5] S:=ix_tup rfl
theorem A5(m:wM)(S:Sto):yC (.val (aO m)) #[1,5] S=.ok #[m.2,5] S:=ix_tup rfl
theorem A6{lc o e:Nat}{cs:A0}(O:S[lc]? =#[cs.map MV.int,2])(h5:cs.length=5)(h:MkOk e L)(k:S[o]? =#[L.map aO,2]): ∃b,IQ L b/\zK 2 gM [#[o,1],#[lc,1]] S=#[BD b,S,1]:=by
 have aa:=h.len;have g:zT (zY 0) jB cC [none] [(o,L.map aO)] (L.map aO) S=.ok ((L.filter λm=>decide (0<=m.1/\0<=m.2)).map aO) S:=xK (yN k) λm ab=>by refine⟨[some (aO m)],rfl,?_,rfl⟩;unfold jB;by_cases c:0<=m.1<;>by_cases d:0<=m.2<;>simp? [Ka,A5,show∀(i j:Int),M9 #[i,5] #[j,5] S=#[.bl (decide (j<=i)),S,1] from λ_ _=>rfl,dT0,dF0,c,d]<;>simp[c,d]
 have K:(L.filter λm=>decide (0<=m.1/\0<=m.2)).map aO=((L.filter λm=>decide (0<=m.1/\0<=m.2)).map λm=>(m.1.toNat,m.2.toNat)).map nK:=by rw[ï];refine map_congr_left λm k=>?_;have:=ì (á.mp k).2;show MV.tup [_,_]=.tup [.int (m.1.toNat:Nat),.int (m.2.toNat:Nat)];rw[ğ this.1,ğ this.2]
 have v: ∀m∈L.filter λm=>decide (0<=m.1/\0<=m.2),m∈L/\0<=m.1/\0<=m.2:=λm k=>⟨(á.mp k).1,ì (á.mp k).2⟩
 have C:=ñ (λm:wM=>decide (0<=m.1/\0<=m.2)) L;generalize (L.filter λm=>decide (0<=m.1/\0<=m.2))=F at g K v C;obtain⟨Q,N,q2⟩:=Jy (by rw[lM];lia) (p:=.new (F.map aO)) (S:=S) (congrArg some K);have W: ∀p∈Q, ∃m,nK p=aO m/\m∈L/\0<=m.1/\0<=m.2:=λp y=>by obtain⟨m,k,rfl⟩:=mM.mp (N.mem_iff.mp y);obtain⟨D,w⟩:=v m k;refine⟨m,?_,D,w⟩;show MV.tup [.int (m.1.toNat:Nat),.int (m.2.toNat:Nat)]=.tup [_,_];rw[ğ w.1,ğ w.2]
 have f1:bB [#[o],#[lc],none] S=#[[#[o],#[lc],#[S.length]],S++[.lst (Q.map nK)],0]:=by unfold bB;simp? [kL k,show(L.map aO).length<1000000 by rw[lM];lia,show∀a b c:Option MV,qG 1 [] [a,b,c]=[none]from λ_ _ _=>rfl,g,q2]
 have s:(S++[MO.lst (Q.map nK)])[S.length]? =#[Q.map nK,2]:=dY _ _;have u:=Jz O h5 4 (by decide) [.lst (Q.map nK)];generalize (cs[4]?).getD 0=x4 at u;have u:yC #[lc,1] #[4,5] (S++[.lst (Q.map nK)])=.ok #[x4,5] (S++[.lst (Q.map nK)]):=u;obtain⟨Z,p7,H⟩:=iB x4 7 (by decide) (S++[.lst (Q.map nK)]);obtain⟨B,p8,P⟩:=iB x4 8 (by decide) (S++[.lst (Q.map nK)]);have q: ∀b,IQ L b->zO xD bC [#[o],#[lc],#[S.length]] (S++[.lst (Q.map nK)])=.ok (.ret (.val (BD b))) (S++[.lst (Q.map nK)])-> ∃b,IQ L b/\zK 2 gM [#[o,1],#[lc,1]] S=#[BD b,S,1]:=λb hb X=>by refine⟨b,hb,xE (T:=[.lst (Q.map nK)]) rfl ?_ (by cases b<;>(unfold BD;first |(unfold lo;trivial)|exact wG (yY λd G=>by simp at G;rcases G with rfl|rfl<;>exact bE _ _))) (λl z=>by cases b<;>cases z)⟩;show zS (dW [#[o],#[lc],none] S)=_;unfold dW;exact aM (zL f1 X)
 have I: ∀(i j:Int) S,Nn #[i,5] #[j,5] S=#[.bl (decide (j<i)),S,1]:=λ_ _ _=>rfl;have J:IQ L none:=λx A=>by cases A
 cases E:Q with
 |nil=>
  rw[E]at q s;refine q none J (gO ?_);unfold xD;simp? [uV s];rfl
 |cons q0 Q0=>
  have ne:(Q.map nK).isEmpty=false:=by rw[E];rfl
  by_cases c:0<Z % 3
  .refine q none J (gO ?_);unfold xD;simp? [uV s,ne,u,H,mod_lit (show(0:Int)<3 by decide),I,dT0 c];rfl
  .have hl:0<Q.length:=by rw[E];simp
   have r:=md (x:=B) (n:=(Q.length:Int)) #[];obtain⟨j,M⟩: ∃j:Nat,(j:Int)=B % (Q.length:Int):=⟨(B % (Q.length:Int)).toNat,by lia⟩
   obtain⟨p,y⟩: ∃p,Q[j]? =some p:=⟨_,gE #[]⟩
   obtain⟨m,D,w,U⟩:=W p (ô y);refine q (some m) (λx A=>by cases A;exact⟨w,U⟩) (zL (ρ':=[#[o],#[lc],#[S.length]]) (S':=S++[.lst (Q.map nK)]) ?_ ?_)
   .unfold xD;simp? [uV s,ne,u,H,mod_lit (show(0:Int)<3 by decide),I,dF0 c];rfl
   .have Y:fC [#[S.length,1]] (S++[.lst (Q.map nK)])=.ok #[(Q.length:Nat),5] (S++[.lst (Q.map nK)]):=by rw[sE s,lM]
    unfold bC;simp? [u,P,Y,mod_lit (b:=(Q.length:Int)) #[], <-M];rw[show MV.int (j:Int)=zA j from rfl,uX (f:=nK) s y,D];rfl
theorem Kb{b:Option wM}(d: ∀x,b=some x->BC x/\0<=x.1)(h: -4<=low)(i:low<1000000000)(S:Sto):zK 2 eH [#[low,5],.val (BD b)] S=.ok #[(NP low b).map zR,6] S:=by
 have f1:cE [#[low,0],some (BD b),none,none] S=#[[#[low,0],some (BD b),#[S.length],none],S++[.lst ([Cy,Do].map zR)],0]:=by unfold cE;simp? [Yx,tup5,Gs];rfl
 have e:(S++[MO.lst ([Cy,Do].map zR)])[S.length]? =#[[Cy,Do].map zR,2]:=dY _ _
 obtain⟨y,f2⟩: ∃y,cF [#[low,0],some (BD b),#[S.length],none] (S++[.lst ([Cy,Do].map zR)])=#[[#[low,0],some (BD b),#[S.length],y],S++[.lst ((NP low b).map zR)],0]:=by
  unfold cF
  cases b with
  |none=>
   refine⟨none,?_⟩;simp? [show∀T,JK (.val (BD none)) (.val .non) T=#[.bl false,T,1] from λ_=>rfl];rfl
  |some x=>
   obtain⟨h1,j⟩:=d x rfl;unfold BC at h1;refine⟨some (testM ⟨.cell 0 1,tU,.isv (.int (low+100 * x.1+x.2+1))⟩),?_⟩;have c:Hv #[S.length,1] [#[1,5],.val (zR (C7 low x))] (S++[.lst ([Cy,Do].map zR)])=#[.non,S++[.lst ((NP low (some x)).map zR)],1]:=by show BM #[S.length,1] _ (λds=>if(0:Int)<=1/\(1:Int)<1000000/\ds.length<sizeLine then some (mZ ds (1:Int).toNat (zR (C7 low x)))else none)=_;unfold BM;dsimp only;rw[e];dsimp only;rw[iP ⟨by decide,by decide,é (show 2<1000000 by decide) (fits (à _))⟩];simp;rfl
   have e1:MV.tup [.tup [.str [99,101,108,108],.int 0,.int 1],.str [115,97,109,101],.tup [.str [105,115],.int (low+100 * x.1+x.2+1)]]=testM ⟨.cell 0 1,tU,.isv (.int (low+100 * x.1+x.2+1))⟩:=rfl;have e2:MV.tup [.str [110,101,118,101,114],.int 0,.tup [testM ⟨.cell 0 1,tU,.isv (.int (low+100 * x.1+x.2+1))⟩]]=zR (C7 low x):=rfl;simp? [show∀T,JK (.val (BD (some x))) (.val .non) T=#[.bl true,T,1] from λ_=>rfl];refine zL (ρ':=[#[low,0],some (BD (some x)),#[S.length],some (testM ⟨.cell 0 1,tU,.isv (.int (low+100 * x.1+x.2+1))⟩)]) (S':=S++[.lst ([Cy,Do].map zR)]) ?_ ?_
   .simp? [show BD (some x)=aO x from rfl,Ka,A5,GK (a:=x.1) ⟨by lia,by lia⟩,tup2,tup3,e1]
   .simp? [Yx,tup3,e2,xA e,c]
 have g2:(S++[MO.lst ((NP low b).map zR)])[S.length]? =#[(NP low b).map zR,2]:=dY _ _;refine xE (T:=[.lst ((NP low b).map zR)]) rfl ?_ (Im (ts:=Dm true) (UX d h i) _) (λl=>by simp);show zS (cG [#[low,0],some (BD b),none,none] S)=_;unfold cG;refine aM (zL f1 (zL f2 ?_));unfold fX;simp? [CD g2]
abbrev DR(c e:Nat)(b:Option wM)(d k s i a j:X2):Rho:=[#[c],some (zA e),some (BD b),d,k,s,i,a,j]
theorem lti(i j:Int)(S:Sto):Fv #[i,5] #[j,5] S=#[.bl (decide (i<j)),S,1]:=rfl
theorem Kc{o e k:Nat}{b:Option wM}{d:X2}{L:List wM}{S:Sto}(u:S[o]? =#[L.map aO,2]): ∀(is a:Tk)(x y z:X2),(∀i∈is,i<L.length)->a.length+is.length<=1000->
  ∃s r p,gB (zY 6) eI [] (is.map zA) (DR o e b d (some (zA k)) #[S.length] x y z) (S++[.lst (a.map zA)])=#[DR o e b d (some (zA k)) #[S.length] s r p,S++[.lst ((a++is.filter λi=>Dp k b (mA L i)).map zA)],0]
 |[],a,x,y,z,_,_=>⟨x,y,z,by rw[List.filter_nil,aN];rfl⟩
 |i::is,a,x,y,z,hi,hl=>by
  rw[lC]at hl;have e1: ∀X y z,cH (DR o e b d (some (zA k)) #[S.length] (some (zA i)) y z) (S++X)=#[DR o e b d (some (zA k)) #[S.length] (some (zA i)) #[(mA L i).1,0] #[(mA L i).2,0],S++X,0]:=λX y z=>by unfold cH;simp? [uX (f:=aO) (CO u) (DF (hi i (.head _))),XQ];rfl
  have v: ∀T,OX (.val (BD b)) (.val .non) T=#[.bl b.isNone,T,1]:=λT=>by cases b<;>rfl
  have e2: ∀X,jK (DR o e b d (some (zA k)) #[S.length] (some (zA i)) #[(mA L i).1,0] #[(mA L i).2,0]) (S++X)=(if Dp k b (mA L i)=true then(BJ (eJ wF fD (vJ 5) (yJ (vJ 6) wJ))) (DR o e b d (some (zA k)) #[S.length] (some (zA i)) #[(mA L i).1,0] #[(mA L i).2,0]) (S++X)else #[DR o e b d (some (zA k)) #[S.length] (some (zA i)) #[(mA L i).1,0] #[(mA L i).2,0],S++X,0]):=λX=>by
   unfold jK;refine S7 (k:=Dp k b (mA L i)) (S1:=S++X) ?_ rfl;generalize mA L i=m;unfold Dp
   cases b with
   |none=>
    simp? [lti,eq_int,v,show zA k=.int (k:Int)from rfl];cases decide (m.1<0)<;>cases decide (m.1=k)<;>rfl
   |some q=>
    simp? [lti,eq_int,ne_int,v,show zA k=.int (k:Int)from rfl,show BD (some q)=aO q from rfl,Ka,A5];cases decide (m.1<0)<;>cases decide (m.1=k)<;>cases decide (q.1=k)<;>cases decide (m.2<q.2)<;>rfl
  have C: ∃n,n.length<=a.length+1/\n++is.filter (λi=>Dp k b (mA L i))=a++(i::is).filter (λi=>Dp k b (mA L i))/\jK (DR o e b d (some (zA k)) #[S.length] (some (zA i)) #[(mA L i).1,0] #[(mA L i).2,0]) (S++[.lst (a.map zA)])=#[DR o e b d (some (zA k)) #[S.length] (some (zA i)) #[(mA L i).1,0] #[(mA L i).2,0],S++[.lst (n.map zA)],0]:=by
   by_cases c:Dp k b (mA L i)=true
   .refine⟨a++[i],by rw[lA];exact à _,?_,?_⟩
    .rw[Ĳ,iP c,aA];rfl
    .have A:fD #[S.length,1] [.val (zA i)] (S++[.lst (a.map zA)])=#[.non,S++[.lst ((a++[i]).map zA)],1]:=by rw[eM (dY S (.lst (a.map zA))) (by rw[lM];lia),ý];simp
     rw[e2,iP c];simp? [xA (dY S (.lst (a.map zA))),A]
   .exact⟨a,le_succ _,by rw[Ĳ,iN c],by rw[e2,iN c]⟩
  obtain⟨n,h1,D,B⟩:=C;obtain⟨s,r,p,h⟩:=Kc (e:=e) (k:=k) (b:=b) (d:=d) u is n (some (zA i)) #[(mA L i).1,0] #[(mA L i).2,0] (λj w=>hi j (.tail _ w)) #[];refine⟨s,r,p,?_⟩;rw[è,jE (b:=eI) (ρ0:=DR o e b d (some (zA k)) #[S.length] (some (zA i)) y z) rfl (zL (e1 _ y z) B) (xM _),h,D]
theorem ZK{p e c:Nat}{b:Option wM}{L:List wM}(F:L.length<=40){S:Sto}(B:S[p]? =#[L.map aO,2])(C:c=S.length): ∀(w:Tk)(a:Db)(S':Sto)(k s i u j:X2),Old S S'->S'[c]? =#[a.map yS,2]->a.length+w.length<=1000->
  ∃h A s' y m z,gB (zY 4) eK [] (w.map zA) (DR p e b #[c] k s i u j) S'=#[DR p e b #[c] A s' y m z,h,0]/\Old S h/\h[c]? =#[(a++w.map (dK L b)).map yS,2]
 |[],a,S',k,s,i,u,j,o,hd,_=>⟨S',k,s,i,u,j,rfl,o,by rw[List.map_nil,aN];exact hd⟩
 |q::w,a,S',k,s,i,u,j,o,hd,hl=>by
  rw[lC]at hl;have I:c<S'.length:=(gS.mp hd).1;have M: ∀X,fC [#[p,1]] (S'++X)=#[zA L.length,S'++X,1]:=λX=>by have:=sE (CO (X:=X) (o _ _ B));rw[lM]at this;exact this
  obtain⟨y,m,z,f⟩:=Kc (e:=e) (k:=q) (b:=b) (d:=#[c]) (o _ _ B) (List.range L.length) [] i u j (λi hi=>ç.mp hi) (by rw[æ,Ĉ];lia);rw[Ļ]at f;have r:(S'++[MO.lst ((dK L b q).map zA)])[c]? =#[a.map yS,2]:=CO hd;have G:Old S ((S'++[MO.lst ((dK L b q).map zA)]).set c (.lst ((a++[dK L b q]).map yS))):=(o.trans (Old.app _ _)).set #[] _;obtain⟨h,A,s',E,v,D,K,J,H⟩:=ZK (e:=e) F B C w (a++[dK L b q]) _ (some (zA q)) #[S'.length] y m z G (get_set r) (by rw[lA,lS];lia);refine⟨h,A,s',E,v,D,?_,J,by rw[H,aA];rfl⟩;rw[è,jE (b:=eK) (ρ0:=DR p e b #[c] (some (zA q)) s i u j) rfl (zL (ρ':=DR p e b #[c] (some (zA q)) #[S'.length] i u j) (S':=S'++[.lst []]) ?_ (zL (ρ':=DR p e b #[c] (some (zA q)) #[S'.length] y m z) (S':=S'++[.lst ((dK L b q).map zA)]) ?_ ?_)) (xM _),K]
  .unfold fY;simp? [LO]
  .unfold fZ;simp? [M,NT (n:=L.length) #[]];exact f
  .unfold iA;simp? [xA r,CD (dY S' (.lst ((dK L b q).map zA))),eM (d:=yS (dK L b q)) r (by rw[lM];lia)];rw[ý];rfl
theorem A7{a e:Nat}{b:Option wM}(h:MkOk e L)(d:S[a]? =#[L.map aO,2]):zK 3 pO [#[a,1],.val (zA e),.val (BD b)] S=#[(KG L b e).map yS,S,2]:=by
 have p:=h.e3;obtain⟨S',k,s,i,m,j,f,o,g⟩:=ZK (e:=e) (b:=b) h.len d rfl (List.range e) [] (S++[.lst []]) none none none none none (Old.app _ _) (dY _ _) (by rw[æ,Ĉ];lia);rw[Ļ]at g;obtain⟨T,c⟩:=o.is;refine FD rfl ?_ (à _) (c▸g) (NI _ _);rw[<-c];show zS (pN (DR a e b none none none none none none) S)=_;unfold pN;refine aM (zL (ρ':=DR a e b #[S.length] none none none none none) (S':=S++[.lst []]) ?_ (zL (ρ':=DR a e b #[S.length] k s i m j) (S':=S') ?_ ?_))
 .unfold pI;simp? [LO]
 .unfold pK;simp? [NT (n:=e) #[]];exact f
 .unfold pM;simp? [gC]
theorem Rr{ds:X1}(a: ∀d∈ds,pd d=true/\GL d<zI)(S:Sto):OW (.new ds) (.new ds) S=#[.bl false,S,1]:=by
 obtain⟨bs,h1,c⟩:=AK λd b f e=>iC (S:=S) zI (a d b).1 (a f e).1 (a d b).2;rw[dT0 rfl,aE]at c;have:vI S zI (.new ds) (.new ds)=some true:=by show(if ds.length=ds.length then(DI _ ds ds).map λbs=>bs.all id else some false)=_;rw[iP rfl,h1];show some (bs.all id)=_;rw[c.1]
 unfold OW;rw[this];rfl
def V5(xs:List α)(S:Sto):SX [.new (xs.map λ_=>.bl true)] S=#[.bl true,S,1]:=by rw[MU λ_=>true,ó.mpr λ_ _=>rfl]
def cutL_map{β:Type}(f:α->β)(xs:List α)(a b:P0):cN (xs.map f) a b=(cN xs a b).map f:=by unfold cN;rw[lM,map_take,map_drop]
theorem Rt{xs:List α}{r:Int}(a:0<=r)(h1:r<xs.length): ∃j,j<xs.length/\cN xs (some (-1 - r)) none=xs.drop j:=by
 have e:HT.sIx xs.length 0 (some (-1 - r))=(xs.length - 1 - r).toNat:=by unfold HT.sIx;split<;>lia
 refine⟨(xs.length - 1 - r).toNat,by lia,?_⟩;unfold cN;rw[e,take_of_length_le (by rw[ĉ];exact à _)]
def To(m:wM):pd (aO m)=true/\GL (aO m)<40:=by unfold aO;rw[MN,ED,oB,oB,XR,oC,oC,GM,UL,UL,EE,EE];decide
def A8{m q:wM}(h:aO m=aO q):m=q:=by
 injection h with h
 injection h with h1 h2
 injection h1 with h1
 injection h2 with h2 _
 injection h2 with h2
 exact Prod.ext h1 h2
theorem V6(m:wM)(M:List wM)(S:Sto):SW false (.val (aO m)) #[M.map aO,6] S=#[.bl (decide (m∈M)),S,1]:=by
 show qX false (.val _) #[_,6] S=_;unfold qX;rw[show itemsOf S _=some _ from rfl];dsimp only;rw[AM (To m).1 λy a=>by obtain⟨q,_,rfl⟩:=mM.mp a;exact To q];dsimp only;have b:((M.map aO).map λy=>decide (y=aO m)).any id=decide (m∈M):=by rw[Ĩ,Ą,ù,î];exact⟨λ⟨y,a,e⟩=>by obtain⟨q,d,rfl⟩:=mM.mp a;exact A8 (ì e)▸d,λc=>⟨_,ń c,dT0 rfl⟩⟩
 rw[b];rfl
theorem RG: ∀{o:X1},(∀y∈o, ∃i:Int,y=.int i)-> ∃ys:List Int,o=ys.map MV.int
 |[],_=>⟨[],rfl⟩
 |a::o,h=>by obtain⟨x,rfl⟩:=h a (.head _);obtain⟨ys,rfl⟩:=RG λy b=>h y (.tail _ b);exact⟨x::ys,rfl⟩
def ZL{M:List wM}(k:L.Nodup){K:Tk}(o:K.Nodup)(h: ∀i∈K,i<L.length/\mA L i∈M):K.length<=M.length:=by
 have n:(K.map (mA L)).Nodup:=Č.mpr (Ğ (λ{a c} d e b z=>b (NS k (h a d).1 (h c e).1 z)) o);have:=n.length_le_of_subset λm j=>by obtain⟨i,hi,rfl⟩:=mM.mp j;exact(h i hi).2
 rwa [lM]at this
abbrev Lw(sc:MV)(a b c d e f g h i j k l:X2):Rho:=[some sc,a,b,c,d,e,f,g,h,i,j,k,l]
theorem Kd(ns:A0)(h:ns.length<=63): ∃S,QN [.scr (ns.map MV.int)] []=#[.bl true,S,1]:=by
 generalize ag:MV.scr (ns.map MV.int)=sc;obtain⟨out,aq,A,ah⟩:=PF (S:=[]) (gf:=zY 0) (cf:=BV) (ef:=sT) (ρb:=[none,some sc]) (gs:=[]) (P:=λy=> ∃i:Int,y=.int i) (xM _) (ds:=(List.range 5).map zA) λd hd=>by obtain⟨k,H,rfl⟩:=mM.mp hd;obtain⟨c,hc⟩:=Qm ns (k:Int) #[] [];rw[ag]at hc;refine⟨[some (zA k),some sc],.int c,rfl,rfl,?_,⟨c,rfl⟩⟩;unfold sT;simp? [show zA k=.int (k:Int)from rfl,hc]
 obtain⟨cs,rfl⟩:=RG ah;rw[lM,lM,æ]at A;have ar:([MO.lst (cs.map MV.int)]:Sto)[0]? =#[cs.map MV.int,2]:=rfl;obtain⟨low,e,L,o1,o2,o3,G,hh,ok,cm⟩:=Rq (S:=[MO.lst (cs.map MV.int)]) ar A;generalize s:[MO.lst (cs.map MV.int)]++[o1,o2,o3,.lst ((L.map (cL low)).map zB),.lst (L.map aO)]=S2 at cm;have k0:S2[0]? =#[cs.map MV.int,2]:=by rw[<-s];rfl
 have k4:S2[4]? =#[(L.map (cL low)).map zB,2]:=by rw[<-s];rfl
 have X:S2[5]? =#[L.map aO,2]:=by rw[<-s];rfl
 have l2:S2.length=6:=by rw[<-s];rfl
 obtain⟨b,I,cb⟩:=A6 k0 A ok X;have au:=ok.len;have aw:=ok.e2;have ax:=ok.e3;have Q: ∀x,b=some x->BC x/\0<=x.1:=λx hx=>⟨(ok.dom x (I x hx).1).1,(I x hx).2.1⟩
 have cr:=Kb Q G hh S2;generalize w:zD (Dm (fK L)) (NP low b) (L.map (cL low))=bk;have ai:zT (zY 0) sU BW [none] [(5,L.map aO)] (L.map aO) S2=.ok ((L.filter λm=>decide (m.1= -2)).map aO) S2:=xK (yN X) λm N=>by refine⟨[some (aO m)],rfl,?_,rfl⟩;unfold sU;simp? [Ka,eq_int]
 generalize p:S2++[.lst ((L.filter λm=>decide (m.1= -2)).map aO)]=S3;have E:Old S2 S3:=by rw[<-p];exact Old.app _ _
 have k6:S3[6]? =some (.lst ((L.filter λm=>decide (m.1= -2)).map aO)):=by rw[<-p, <-l2];exact dY _ _
 have l3:S3.length=7:=by rw[<-p,lA,l2];rfl
 have cd:=A7 (b:=b) ok (E _ _ X);generalize F:S3++[.lst ((KG L b e).map yS)]=S4;have U:Old S3 S4:=by rw[<-F];exact Old.app _ _
 have k7:S4[7]? =#[(KG L b e).map yS,2]:=by rw[<-F, <-l3];exact dY _ _
 have k0:=U _ _ (E _ _ k0);have m5:=U _ _ (E _ _ X);have cM:=Jv (e:=e) ok I G hh;rw[w]at cM;have dl:(KG L b e).length=e:=by unfold KG;rw[lM,æ]
 have dn: ∀O∈KG L b e,O.Nodup/\O.length<=1000/\1<=O.length:=λO o=>by obtain⟨k,H,rfl⟩:=iI.mp o;obtain⟨i,hi,_⟩:=Ju ok I H;have:=ñ (λi=>Dp k b (mA L i)) (List.range L.length);rw[æ]at this;exact⟨GW UZ,í this #[],List.length_pos_of_mem hi⟩
 have cS:=NN (T:=KG L b e) #[] (λ_ z=>by have:=(dn _ z).2.2;simp at this) (nE k7);have af:zT (zY 0) CA sV [none,some bk] [(7,(KG L b e).map yS)] ((KG L b e).map yS) S4=.ok ((KG L b e).map λ_=>.bl true) S4:=yV (yN k7) λO o=>by refine⟨[some (yS O),some bk],rfl,rfl,?_⟩;obtain⟨k,H,rfl⟩:=iI.mp o;have c:=Rm (UX Q G hh) (λr hr=>by obtain⟨m,N,rfl⟩:=mM.mp hr;exact Tg (ok.dom m N).1 G hh) (by cases b<;>simp[NP]) (λi hi=>by rw[lM];exact(jN.mp hi).1) (List.pairwise_lt_range.filter _) (by have:=(dn _ o).2.1;exact í (ñ _ _) (by rw[æ];lia)) (Jt (low:=low) ok I H) S4;rw[w]at c;have c:zK 2 GD [.val bk,.val (yS (dK L b k))] S4=#[.bl true,S4,1]:=c;unfold sV;simp? [c];rfl
 have J:=Jz k0 A 4 (by decide) [];rw[aN]at J;generalize (cs[4]?).getD 0=x4 at J;have J:yC #[0,1] #[4,5] S4=.ok #[x4,5] S4:=J;obtain⟨m9,p9,e9⟩:=iB x4 9 (by decide) S4;obtain⟨ak,av,ao⟩:=iB x4 10 (by decide) S4;have r9:=md (x:=m9) (n:=(e:Int)) #[];obtain⟨k,H⟩: ∃k:Nat,(k:Int)=m9 % (e:Int):=⟨(m9 % (e:Int)).toNat,by lia⟩
 have u:k<e:=by lia
 have dk:yC #[7,1] (.val (zA k)) S4=#[yS (dK L b k),S4,1]:=uX (f:=yS) k7 (by unfold KG;rw[ò,ł u];rfl);have mi: ∀i,i<L.length->yC #[5,1] (.val (zA i)) S4=#[aO (mA L i),S4,1]:=λi hi=>uX (f:=aO) m5 (DF hi);have Y:zT (zY 0) sW CB [none,#[5],some (zA k)] [] ((dK L b k).map zA) S4=.ok (((dK L b k).filter λi=>decide ((mA L i).1=k)).map zA) S4:=xK (xM _) λi hi=>by refine⟨[some (zA i),#[5],some (zA k)],rfl,?_,rfl⟩;unfold sW;simp? [mi i (jN.mp hi).1,Ka,show zA k=.int (k:Int)from rfl,eq_int]
 have v: ∀i∈(dK L b k).filter λi=>decide ((mA L i).1=k),i∈dK L b k/\(mA L i).1=k:=λi hi=>⟨(á.mp hi).1,ì (á.mp hi).2⟩
 have C:((dK L b k).filter λi=>decide ((mA L i).1=k)).Nodup:=List.Pairwise.filter _ (GW UZ);have aj:0<((dK L b k).filter λi=>decide ((mA L i).1=k)).length:=by obtain⟨i,hi,ei⟩:=Ju ok I u;exact List.length_pos_of_mem (á.mpr ⟨hi,dT0 (by rw[ei])⟩)
 generalize ((dK L b k).filter λi=>decide ((mA L i).1=k))=Ch at Y v C aj;have c7:Ch.length<=7:=ZL (M:=VB (k,6)) ok.nd C λi hi=>by obtain⟨h1,q⟩:=v i hi;have h3:=(jN.mp h1).1;have:=(ok.dom _ (cK h3)).1;unfold BC at this;exact⟨h3,tE.mpr ⟨q,by lia,by dsimp only;lia⟩⟩
 have ab:=md (x:=ak) (n:=(Ch.length:Int)) #[];obtain⟨j,hj,ej⟩:=Rt (xs:=Ch) ab.1 ab.2
 have cw:=Jw (bk:=bk) (T:=DQ (KG L b e)) (K:=Ch.drop j) cM (λO o=>by
  obtain⟨h1,q,h3⟩:=dn O ((kE _).mem_iff.mp o);exact⟨h1,q,by rw[ĉ];lia⟩) (by rw[ĉ];lia) (D:=dK L b k) (λO o z=>by
  obtain⟨l,G,rfl⟩:=iI.mp ((kE _).mem_iff.mp o);have N:Ch[j]∈Ch.drop j:=List.mem_iff_getElem?.mpr ⟨0,by rw[List.getElem?_drop];exact gE hj⟩;have h1:=ì (ó.mp z _ N);have q:=(v _ (List.mem_of_mem_drop N)).2;have h3:=bD.mp (jN.mp h1).2;rw[show l=k by lia]) S4
 rw[iP (ù.mpr ⟨dK L b k,(kE _).mem_iff.mpr (iI.mpr ⟨k,u,rfl⟩),ó.mpr λi hi=>dT0 (v i (List.mem_of_mem_drop hi)).1⟩)]at cw;have ae:zT (zY 0) sX CC [none,#[5]] [] ((List.range L.length).map zA) S4=.ok (((List.range L.length).filter λi=>decide (mA L i∈[((0:Int),(-1:Int)),(1, -1)])).map zA) S4:=xK (xM _) λi hi=>by refine⟨[some (zA i),#[5]],rfl,?_,rfl⟩;unfold sX;simp? [mi i (ç.mp hi),tup2,show MV.tup [.tup [.int 0,.int (-1)],.tup [.int 1,.int (-1)]]=.tup (([((0:Int),(-1:Int)),(1, -1)]:List wM).map aO)from rfl,V6]
 have B: ∀i,i∈(List.range L.length).filter (λi=>decide (mA L i∈[((0:Int),(-1:Int)),(1, -1)]))↔i<L.length/\mA L i∈[((0:Int),(-1:Int)),(1, -1)]:=λi=>by rw[á,ç,î]
 have W:((List.range L.length).filter λi=>decide (mA L i∈[((0:Int),(-1:Int)),(1, -1)])).Nodup:=nodup_range.filter _;generalize ((List.range L.length).filter λi=>decide (mA L i∈[((0:Int),(-1:Int)),(1, -1)]))=Bo at ae B W;have b2:Bo.length<=2:=ZL ok.nd W λi hi=>(B i).mp hi
 have aa: ∀O∈DQ (KG L b e),(Bo.all λi=>decide (i∈O))=true->False:=λO o z=>by
  obtain⟨l,G,rfl⟩:=iI.mp ((kE _).mem_iff.mp o);obtain⟨i0,a1,a2⟩:=GZ (ok.top 0 #[] #[]);obtain⟨i1,a3,a4⟩:=GZ (ok.top 1 #[] #[]);have h1:=bD.mp (jN.mp (ì (ó.mp z i0 ((B i0).mpr ⟨a1,by rw[a2];simp⟩)))).2;have q:=bD.mp (jN.mp (ì (ó.mp z i1 ((B i1).mpr ⟨a3,by rw[a4];simp⟩)))).2;rw[a2]at h1;rw[a4]at q;dsimp only at h1 q
  lia
 have Z:=Jw (bk:=bk) (T:=DQ (KG L b e)) (K:=Bo) cM (λO o=>by obtain⟨h1,q,h3⟩:=dn O ((kE _).mem_iff.mp o);exact⟨h1,q,by lia⟩) #[] (D:=[]) (λO o z=>(aa O o z).elim) S4;rw[iN (λz=>by obtain⟨O,o,z⟩:=ù.mp z;exact aa O o z)]at Z;refine⟨S4,?_⟩;show zS (XO (Lw sc none none none none none none none none none none none none) [])=_;unfold XO;refine aM (zL (ρ':=Lw sc #[0] none none none none none none none none none none none) (S':=[MO.lst (cs.map MV.int)]) ?_ (zL (ρ':=Lw sc #[0] #[low,0] (some (zA e)) #[4] #[5] none none none none none none none) (S':=S2) ?_ (zL (ρ':=Lw sc #[0] #[low,0] (some (zA e)) #[4] #[5] (some (BD b)) none none none none none none) (S':=S2) ?_ (zL (ρ':=Lw sc #[0] #[low,0] (some (zA e)) #[4] #[5] (some (BD b)) (some (zD (Dm false) (NP low b) (L.map (cL low)))) none none none none none) (S':=S2) ?_ (zL (ρ':=Lw sc #[0] #[low,0] (some (zA e)) #[4] #[5] (some (BD b)) (some (zD (Dm false) (NP low b) (L.map (cL low)))) #[6] none none none none) (S':=S3) ?_ (zL (ρ':=Lw sc #[0] #[low,0] (some (zA e)) #[4] #[5] (some (BD b)) (some bk) #[6] none none none none) (S':=S3) ?_ (zL (ρ':=Lw sc #[0] #[low,0] (some (zA e)) #[4] #[5] (some (BD b)) (some bk) #[6] #[7] none none none) (S':=S4) ?_ (zL (ρ':=Lw sc #[0] #[low,0] (some (zA e)) #[4] #[5] (some (BD b)) (some bk) #[6] #[7] none none none) (S':=S4) ?_ (zL (ρ':=Lw sc #[0] #[low,0] (some (zA e)) #[4] #[5] (some (BD b)) (some bk) #[6] #[7] (some (zA k)) none none) (S':=S4) ?_ (zL (ρ':=Lw sc #[0] #[low,0] (some (zA e)) #[4] #[5] (some (BD b)) (some bk) #[6] #[7] (some (zA k)) (some (yS Ch)) none) (S':=S4) ?_ (zL (ρ':=Lw sc #[0] #[low,0] (some (zA e)) #[4] #[5] (some (BD b)) (some bk) #[6] #[7] (some (zA k)) (some (yS Ch)) none) (S':=S4) ?_ (zL (ρ':=Lw sc #[0] #[low,0] (some (zA e)) #[4] #[5] (some (BD b)) (some bk) #[6] #[7] (some (zA k)) (some (yS Ch)) (some (yS Bo))) (S':=S4) ?_ ?_))))))))))))
 .unfold MC;simp? [show nA [#[5,5]] []=.ok ⟨(List.range 5).map zA,[]⟩ []from NT (n:=5) (by decide) [],show((List.range 5).map zA).length<1000000 by decide,show∀a b c d e f g h i j k l m:Option MV,qG 1 [0] [a,b,c,d,e,f,g,h,i,j,k,l,m]=[none,a]from λ_ _ _ _ _ _ _ _ _ _ _ _ _=>rfl,aq];rfl
 .unfold MD;simp? [cm,XQ];rfl
 .unfold ME;simp? [cb]
 .unfold MF;simp? [cr,CD k4,tup2,tup3];rfl
 .unfold MG;simp? [kL X,show(L.map aO).length<1000000 by rw[lM];lia,show∀a b c d e f g h i j k l m:Option MV,qG 1 [] [a,b,c,d,e,f,g,h,i,j,k,l,m]=[none]from λ_ _ _ _ _ _ _ _ _ _ _ _ _=>rfl,ai];rw[p,l2]
 .have ln:fC [#[6,1]] S3=#[.int ((L.filter λm=>decide (m.1= -2)).length:Nat),S3,1]:=by rw[sE k6,lM]
  have gt: ∀(i j:Int) S,Nn #[i,5] #[j,5] S=#[.bl (decide (j<i)),S,1]:=λ_ _ _=>rfl;unfold MH;by_cases c:1<(L.filter λm=>decide (m.1= -2)).length
  .have hf:fK L=true:=dT0 c;simp? [ln,gt,dT0 (show(1:Int)<((L.filter λm=>decide (m.1= -2)).length:Nat) by lia),tup2,tup3,book1,AQ];rw[<-w,hf];rfl
  .have hf:fK L=false:=dF0 c;simp? [ln,gt,dF0 (show¬(1:Int)<((L.filter λm=>decide (m.1= -2)).length:Nat) by lia)];rw[<-w,hf];rfl
 .unfold MI;simp? [cd];rw[F,l3]
 .have nq:=Rr (ds:=(DQ (KG L b e)).map yS) (λd hd=>by obtain⟨O,_,rfl⟩:=mM.mp hd;exact ZC O) S4;unfold MK;simp? [cM,cS,nq,kL k7,show((KG L b e).map yS).length<1000000 by rw[lM];lia,show∀a b c d e f g h i j k l m:Option MV,qG 1 [7] [a,b,c,d,e,f,g,h,i,j,k,l,m]=[none,h]from λ_ _ _ _ _ _ _ _ _ _ _ _ _=>rfl,af,V5];rfl
 .unfold ML;simp? [J,e9,show zA e=.int (e:Int)from rfl,mod_lit (b:=(e:Int)) #[], <-H];rfl
 .unfold GE;simp? [dk,dX,show((dK L b k).map zA).length<1000000 by rw[lM];have:=(dn _ (iI.mpr ⟨k,u,rfl⟩)).2.1;lia,show∀a b c d e f g h i j k l m:Option MV,qG 1 [5,10] [a,b,c,d,e,f,g,h,i,j,k,l,m]=[none,f,k]from λ_ _ _ _ _ _ _ _ _ _ _ _ _=>rfl,Y,CG]
 .unfold GF;simp? [J,ao,MM,lM,mod_lit (b:=(Ch.length:Int)) #[],YD,cutL_map,ej,cw,dk,Jl];simp
 .have ln:fC [#[5,1]] S4=#[zA L.length,S4,1]:=by rw[sE m5,lM];rfl
  unfold GH;simp? [ln,NT (n:=L.length) #[],show((List.range L.length).map zA).length<1000000 by rw[lM,æ];lia,show∀a b c d e f g h i j k l m:Option MV,qG 1 [5] [a,b,c,d,e,f,g,h,i,j,k,l,m]=[none,f]from λ_ _ _ _ _ _ _ _ _ _ _ _ _=>rfl,ae,CG]
 .unfold GI;simp? [Z];rfl
section
variable{P:ň}{w:World}{K:U0}{mg:L1}{base:Heap}
def top(i:Nat):Stmt:=PySem.Challenge.pw_mendsure_k23_two_ends_and_their_rows.main.body.getD i (.Pass ⟨0,0,0,0⟩)
local macro_rules
 | `(tactic|exists 1,$t)=>`(tactic|with_reducible show $t)
 | `(tactic|exists 7,$t)=>`(tactic|exists 1,zM _ _ _ $t)
 | `(tactic|exists 8,$t)=>`(tactic|exists 1,OU _ _ _ _ (bJ _ $t))
 | `(tactic|exists 3,$t)=>`(tactic|exists 1,zM _ _ (.Call (.Name $t _) _ _ _) _)
 | `(tactic|exists 4,$t)=>`(tactic|exists 1,zM _ _ (.Call (.Attribute _ $t _) _ _ _) _)
 | `(tactic|exists 5,$t)=>`(tactic|exists 1,zM _ _ (.BinOp _ $t _ _) _)
 | `(tactic|exists 6,$t)=>`(tactic|exists 1,zM _ _ (.Compare _ [$t] _ _) _)
 | `(tactic|and_intros)=>`(tactic|repeat' (first |(exists 1,IA _ _ _ (λ_ _=>R.no);exact Ff)|(exists 1,vH _ _ [_] _;refine SK ?_)|(exists 1,vH _ _ (_::_) _;refine DZ ?_ ?_)|(exists 1,vH _ _ [] _;exact Wl)|(exists 1,IA _ _ (.Assign _ (.ListComp _ _ _ _) _) _;refine Ib ‹_› ?_ (λ_ _ _ _ _=>?_) (λ_ _ _ _=>?_) (λ_ _ _ _=>?_))|(exists 1,IA _ _ (.Assign [.Name _ _] _ _) _;refine Wp _ ‹_› ?_)|(exists 1,IA _ _ (.Assign _ _ _) _;refine Wq ?_ ?_)|(exists 1,IA _ _ (.Return _ _) _;refine Wm ?_)|(exists 1,IA _ _ (.For _ _ _ _ _) _;refine Ws PassesOwn.never rfl ?_ ?_ ?_)|(exists 1,IA _ _ (.If _ _ _ _) _;refine L5 ?_ ?_ ?_)|(exists 1,IA _ _ (.Expr _ _) _;refine Mo ?_)|(exists 1,IA _ _ (.While _ _ _ _) _;refine Fi _ PassesOwn.never ?_ ?_)|(exists 1,zM _ _ (.Name _ _) _;first |(exists 1,zM _ _ (.Name _ _) (vJ _);exact Vu _)|exact Sm rfl ‹_› Xj|exact Sm rfl ‹_› Nx|exact Mi rfl ‹_›)|(exists 1,zM _ _ (.Constant _ _ _) _;first |exact Vv|exact Vy _|exact K8|exact Vx)|(exists 1,zM _ _ (.UnaryOp _ _ _) _;first |exact Vz|refine Wc ?_)|(exists 1,zM _ _ (.List _ _) _;refine Wj ?_)|(exists 1,zM _ _ (.Tuple _ _ _) _;refine Wi ?_)|(exists 1,zM _ _ (.BinOp _ _ _ _) _;first |(exists 5,.Add;refine Xa ?_ ?_)|(exists 5,.Mod;refine Wy ?_ ?_)|(exists 5,.Mult;refine Xb ?_ ?_)|(exists 5,.Sub;refine Wx ?_ ?_)|(exists 5,.Pow;refine Wz ?_ ?_))|(exists 1,zM _ _ (.Compare _ _ _ _) _;first |(exists 6,.Eq;refine M3 (Room.units ‹_›) ?_ ?_)|(exists 6,.In;refine N8 (Room.units ‹_›) ?_ ?_)|(exists 6,.Is;(exists 1,zM _ _ (.Compare _ _ _ _) (dJ (Hj _) _ _);refine Yf ?_ ?_))|(exists 6,.Is;(exists 1,zM _ _ (.Compare _ _ _ _) (dJ OX _ _);refine N4 ?_ ?_))|(exists 6,.NotEq;refine M5 (Room.units ‹_›) ?_ ?_)|(exists 6,.Lt;refine M7 (Room.units ‹_›) ?_ ?_)|(exists 6,.Gt;refine N1 ?_ ?_))|(exists 1,zM _ _ (.Subscript _ _ _) _;first |(exists 1,zM _ _ (.Subscript _ _ _) (dJ yC _ _);refine N6 ?_ ?_)|(exists 1,zM _ _ (.Subscript _ _ _) (tJ SV _ _ _);refine Xc ?_ ?_ ?_)|(exists 1,zM _ _ (.Subscript _ _ _) (dJ LW _ _);refine Yu ?_ ?_))|(exists 1,zM (zH _ _ _ _ _ _ _ _) _ (.ListComp _ _ _ _) _;refine Ie ‹_› ?_ (λ_ _ _ _ _=>?_) (λ_ _ _ _=>?_) (λ_ _ _ _=>?_))|(exists 1,zM _ _ (.ListComp _ _ _ _) _;refine Ia ‹_› ?_ (λ_ _ _ _ _=>?_) (λ_ _ _ _=>?_) (λ_ _ _ _=>?_))|(exists 1,zM _ _ (.Attribute _ _ _) _;refine Ph ‹_› ?_)|(exists 1,zM _ _ (.Dict _ _ _) _;exact Gv)|(exists 1,zM _ _ (.BoolOp _ _ _) _;first |refine Wa ?_|refine Wb ?_ ?_|refine K9 ?_ ?_)|(exists 1,zM _ _ (.Call (.Attribute _ _ _) _ _ _) _;first |(exists 4,"append";refine Ay ?_ ?_)|(exists 4,"extend";refine Bm ?_ ?_)|(exists 4,"lacks";refine FP ‹_› (Room.mono ‹_› (by decide)) ?_ ?_)|(exists 4,"bars";refine FP ‹_› (Room.mono ‹_› (by decide)) ?_ ?_)|(exists 4,"setdefault";refine Yt ?_ ?_)|(exists 4,"parts_them";refine FP ‹_› (Room.mono ‹_› (by decide)) ?_ ?_)|(exists 4,"pop";refine Pr ?_ ?_)|(exists 4,"insert";refine Yq ?_ ?_))|(exists 1,zM _ _ (.Call (.Name _ _) _ _ _) _;first |(exists 3,"len";refine dZ Aw Xe rfl ‹_› SZ ?_)|(exists 3,"tuple";refine mW HW Gd rfl ‹_› EZ ?_)|(exists 1,zM _ _ (.Call (.Name "sorted" _) _ _ _) (bJ _ pY);refine dZ (Bp (Room.u128 ‹_›)) Pm rfl ‹_› uG ?_)|(exists 3,"all";refine dZ LE (Xf rfl) rfl ‹_› Xh ?_)|(exists 3,"any";refine dZ LU (Yn rfl) rfl ‹_› Xi ?_)|(exists 3,"isinstance";refine dZ Gc Xg rfl ‹_› IG ?_)|(exists 3,"Never";refine FQ ‹_› (Room.mono ‹_› (by decide)) rfl ?_)|(exists 3,"Apart";refine FQ ‹_› (Room.mono ‹_› (by decide)) rfl ?_)|(exists 3,"Tie";refine FQ ‹_› (Room.mono ‹_› (by decide)) rfl ?_)|(exists 1,zM _ _ (.Call (.Name "tuple" _) _ _ _) (bJ _ PY);refine Pg rfl rfl ‹_› rfl ‹_› ?_)|(exists 3,"dict";refine mW Ca (Px rfl) rfl ‹_› Pw ?_)|(exists 1,zM _ _ (.Call (.Name "tuple" _) _ _ _) (bJ _ JV);refine mW Bx (Ps rfl) rfl ‹_› EZ ?_)|(exists 3,"len";refine dZ Cb Py rfl ‹_› SZ ?_)|(exists 1,zM _ _ (.Call (.Name "sorted" _) _ _ _) (bJ _ JW);refine dZ By (Pt rfl) rfl ‹_› uG ?_)|(exists 1,zM _ _ (.Call (.Name "list" _) _ _ _) (bJ _ BR);refine mW UG (Hz rfl) rfl ‹_› WR ?_)|(exists 1,zM _ _ (.Call (.Name "len" _) _ _ _) (R7 _ _);refine Qd rfl rfl ‹_› rfl ‹_› ?_ ?_)|(exists 1,zM _ _ (.Call (.Name "list" _) _ _ _) (bJ _ PB);refine mW LB Nv rfl ‹_› WR ?_)|(exists 1,zM _ _ (.Call (.Name "sorted" _) _ _ _) (bJ _ PV);refine dZ Bh Pe rfl ‹_› uG ?_)|refine Hn ‹_› (Room.mono ‹_› (by decide)) rfl ?_)|(exists 1,pT _ _ (.Compare _ _ _ _) _;first |(exists 1,pT _ _ (.Compare _ [.Eq] _ _) _;refine M4 (Room.units ‹_›) ?_ ?_)|(exists 1,pT _ _ (.Compare _ [.NotEq] _ _) _;refine M6 (Room.units ‹_›) ?_ ?_)|(exists 1,pT _ _ (.Compare _ [.Gt] _ _) _;refine N2 ?_ ?_)|(exists 1,pT _ _ (.Compare _ [.Lt] _ _) _;refine M8 (Room.units ‹_›) ?_ ?_)|(exists 1,pT _ _ (.Compare _ [.In] _ _) _;refine Ym ?_ ?_)|(exists 1,pT _ _ (.Compare _ [.GtE] _ _) _;refine N3 ?_ ?_)|(exists 1,pT _ _ (.Compare _ [.In] _ _) _;refine N9 (Room.units ‹_›) ?_ ?_)|(exists 1,pT _ _ (.Compare _ [.NotIn] _ _) _;refine Gb (Room.units ‹_›) ?_ ?_)|(exists 1,pT _ _ (.Compare _ [.NotIn] _ _) _;refine Bu ?_ ?_)|(exists 1,pT _ _ (.Compare _ [.IsNot] _ _) _;refine Fy ?_ ?_)|(exists 1,pT _ _ (.Compare _ [.Is] _ _) _;refine N5 ?_ ?_))|(exists 1,pT _ _ (.UnaryOp _ _ _) _;refine Wg ?_)|(exists 1,pT _ _ (.BoolOp _ _ _) _;refine L4 ?_)|(exists 1,pT _ _ _ _;refine Fa ?_)|(exists 1,Sl _ _ _ _;first |refine L3 ?_ ?_|refine We ?_|refine Mj ?_|refine Wf ?_ ?_)|(exists 1,HQ _ _ _ _;first |refine Ml ?_ ?_|exact Wh)|(exists 1,Vt _ _ _ _;first |refine Mn ?_|exact Mm)|(exists 1,LH _ _ _ _;first |exact Mz|refine Na ?_)|(exists 1,OU _ _ _ _ _;first |(exists 8,tG;refine Mv ?_)|(exists 8,WG;refine Wr ?_)|(exists 8,nA;refine Aq rfl ‹_› ?_)|(exists 8,Bc;refine Os rfl ‹_› ?_)|(exists 8,LZ;refine Qf ?_))|(exists 1,Mp _ _ (.Name _ _) _;exact Mq _ ‹_›)|(exists 1,Mp _ _ _ _;first |refine Wo rfl ?_|(exists 1,Mp _ _ _ (DJ vQ _ _);refine Ov (Room.units ‹_›) ?_ ?_))|(exists 1,Fg _ _ _ _;first |refine Mr ?_ ?_|exact Wn)|(exists 1,Fj _ _ _ (.Name _ _) _;exact Mw _ ‹_›)|(exists 1,Fj _ _ _ _ _;refine Wu rfl ?_)|(exists 1,Fk _ _ _ _ _;first |refine Mx ?_ ?_|exact Wt)))
 | `(tactic|exists 2,$f:ident,$xs:ident,*)=>`(tactic|(refine R4 $f ‹_› (λ_ _ _ _ _ _ _ _ _ _=>?_);delta $f $xs*; (first |refine SK ?_|refine DZ ?_ ?_);and_intros))
 | `(tactic|exists 0,$f:ident,$xs:ident,*)=>`(tactic|(refine R1 $f ‹_› (λ_ _ _ _ _ _ _ _ _=>?_);delta $f $xs*; (first |refine SK ?_|refine DZ ?_ ?_);and_intros))
def Ke:FnScope ["self","parts"] ["self","parts"] (zE (inClass (top 7) 0)):=fsK (by decide+kernel)
def RH(D:DefM K mg "is_whole" (top 1))(a:mg "int"=none)(b:mg "isinstance"=none)(c:mg "bool"=none):Hl P w K mg base "is_whole" 1 1 ["thing"] fI:=by exists 2,GB,vX
def IR(D:DefM K mg "side_value" (top 3)):Hl P w K mg base "side_value" 1 2 ["side","looked_at"] bP:=by exists 2,aT,wH,bO
def VE(D:DefM K mg "fulfils" (top 4))(b:Hl P w K mg base "side_value" 1 2 ["side","looked_at"] bP)(a:Hl P w K mg base "is_whole" 1 1 ["thing"] fI):Hl P w K mg base "fulfils" 2 2 ["looked_at","test"] sK:=by exists 2,sI,iS,iT,iU,iV,iW
def HB(D:DefM K mg "fulfils_all" (top 5))(b:Hl P w K mg base "fulfils" 2 2 ["looked_at","test"] sK)(a:mg "all"=none):Hl P w K mg base "fulfils_all" 3 2 ["looked_at","tests"] gF:=by exists 2,cZ,nP,bQ,kM
def RI(D:DefM K mg "cells_in" (top 6)):Hl P w K mg base "cells_in" 1 2 ["row","columns"] fO:=by exists 2,oO,oN,fM,bR
abbrev RJ:Stmt:=inClass (top 7) 1
def NV(F:Fun K "bars" "Rule.bars" RJ f fd):FnOk P w K mg base rY 1 f fd ["self","row"] (IB ⟨K,mg,P,w⟩ 2 bF):=by exists 0,yO,tR
abbrev AS:Stmt:=inClass (top 7) 2
def uY(F:Fun K "parts_them" "Rule.parts_them" AS f fd):FnOk P w K mg base rY 1 f fd ["self","row","other"] (IB ⟨K,mg,P,w⟩ 3 yU):=by exists 0,zQ,aQ
abbrev NW:Stmt:=inClass (top 7) 3
def IS(F:Fun K "lacks" "Rule.lacks" NW f fd):FnOk P w K mg base rY 1 f fd ["self","row","rows"] (IB ⟨K,mg,P,w⟩ 3 jQ):=by exists 0,yG,rA
abbrev NY:Stmt:=inClass (top 8) 0
def IT(F:Fun K "bars" "Never.bars" NY f fd)(a:FlB K Dk "parts")(b:Hl P w K mg base "fulfils_all" 3 2 ["looked_at","tests"] gF):FnOk P w K mg base rY 4 f fd ["self","row"] (IB ⟨K,mg,P,w⟩ 2 oP):=by exists 0,yZ,fP
abbrev qK:Stmt:=inClass (top 9) 0
def pR(F:Fun K "parts_in_turn" "Apart.parts_in_turn" qK f fd):FnOk P w K mg base rY 1 f fd ["self","row","other"] (IB ⟨K,mg,P,w⟩ 3 qI):=by exists 0,zZ,bG,bH
abbrev uZ:Stmt:=inClass (top 9) 1
def tK(F:Fun K "parts_them" "Apart.parts_them" uZ f fd):FnOk P w K mg base rY 1 f fd ["self","row","other"] (IB ⟨K,mg,P,w⟩ 3 fQ):=by exists 0,yB,nF
abbrev RK:Stmt:=inClass (top 10) 0
def NZ(F:Fun K "lacks" "Tie.lacks" RK f fd)(a:FlB K Dk "parts")(b:Hl P w K mg base "cells_in" 1 2 ["row","columns"] fO):FnOk P w K mg base rY 2 f fd ["self","row","rows"] (IB ⟨K,mg,P,w⟩ 3 iY):=by exists 0,yP,kD,dA,dB,tS,gG,nQ
def VF(D:DefM K mg "rule_of" (top 11))(a:Sw P w K mg base "Never" "parts")(b:Sw P w K mg base "Apart" "parts")(c:Sw P w K mg base "Tie" "parts"):Hl P w K mg base "rule_of" 3 1 ["parts"] sM:=by exists 2,eS,wL,bI,DE
def RL(D:DefM K mg "rules_of" (top 13))(a:Hl P w K mg base "rule_of" 3 1 ["parts"] sM):Hl P w K mg base "rules_of" 4 1 ["book"] xH:=by exists 2,oQ,aU,fR,bS
def RM(D:DefM K mg "all_rows" (top 14))(b:mg "len"=none)(a:mg "tuple"=none)(c:mg "range"=none):Hl P w K mg base "all_rows" 1 1 ["book"] cT:=by exists 2,oS,oR
def RN(D:DefM K mg "pairs_of" (top 15))(a:mg "enumerate"=none):Hl P w K mg base "pairs_of" 1 1 ["rows"] cU:=by exists 2,oU,aW,aX,vY,aV,fU,fS,bT
def De(D:DefM K mg "key_of" (top 16)):Hl P w K mg base "key_of" 1 2 ["tables","row"] rB:=by exists 2,vZ,uI
def CP(D:DefM K mg "breaks_of_one" (top 17))(c:mg "enumerate"=none)(b:Sx P w K mg base "bars" 4 2 dC)(a:Sx P w K mg base "lacks" 2 3 gH):Hl P w K mg base "breaks_of_one" 5 4 ["book","rules","rows","i"] wX:=by exists 2,gP,kN,kO,kP,kQ,jX,xO,xP,xQ,xR,xS
def CQ(D:DefM K mg "breaks_of_two" (top 18))(c:mg "enumerate"=none)(a:Sx P w K mg base "parts_them" 1 3 xI)(b:Hl P w K mg base "key_of" 1 2 ["tables","row"] rB):Hl P w K mg base "breaks_of_two" 2 4 ["book","rules","i","j"] yX:=by exists 2,gQ,kR,kS,kT,kU,iZ,xT,xU
def Df(D:DefM K mg "breaks" (top 19))(e:Hl P w K mg base "rules_of" 4 1 ["book"] xH)(d:Hl P w K mg base "breaks_of_one" 5 4 ["book","rules","rows","i"] wX)(a:Hl P w K mg base "pairs_of" 1 1 ["rows"] cU)(c:Hl P w K mg base "breaks_of_two" 2 4 ["book","rules","i","j"] yX)(b:mg "sorted"=none):Hl P w K mg base "breaks" 6 2 ["book","rows"] AB:=by exists 2,AA,uK,uL,uM,uN,uO,oW,oY,oV,oX
def Ru(D:DefM K mg "good" (top 20))(b:Hl P w K mg base "breaks" 6 2 ["book","rows"] AB)(a:mg "len"=none):Hl P w K mg base "good" 7 2 ["book","rows"] GD:=by exists 2,MA,GC
def VG(D:DefM K mg "ties_of" (top 21))(b:Hl P w K mg base "rules_of" 4 1 ["book"] xH)(c:mg "enumerate"=none)(a:Sx P w K mg base "lacks" 2 3 gH):Hl P w K mg base "ties_of" 5 1 ["book"] jR:=by exists 2,sN,lD,lE,lF,lB,lR,bK,dE,dD,lQ
def IU(D:DefM K mg "has_one_of" (top 22)):Hl P w K mg base "has_one_of" 1 2 ["kept","some"] aZ:=by exists 2,aY,wI,rC,jG,jS
def DT(D:DefM K mg "untied_among" (top 23))(a:Hl P w K mg base "has_one_of" 1 2 ["kept","some"] aZ):Hl P w K mg base "untied_among" 2 2 ["ties","kept"] jH:=by exists 2,bU,jT,xC,wR
def HG(D:DefM K mg "tied_within" (top 24))(b:mg "dict"=none)(c:Hl P w K mg base "untied_among" 2 2 ["ties","kept"] jH)(a:mg "tuple"=none):Hl P w K mg base "tied_within" 3 2 ["ties","rows"] yF:=by exists 2,dF,gR,gT,nS,gU,bV,kW,wZ,kX,kY,wY,bW
def Rv(D:DefM K mg "held" (top 25))(d:Hl P w K mg base "rules_of" 4 1 ["book"] xH)(a:Sx P w K mg base "bars" 4 2 dC)(b:mg "any"=none)(e:Hl P w K mg base "tied_within" 3 2 ["ties","rows"] yF)(c:Hl P w K mg base "ties_of" 5 1 ["book"] jR):Hl P w K mg base "held" 6 2 ["book","rows"] BS:=by exists 2,MB,AC,AD,AG,pA,uQ,uP,oZ
def VH(D:DefM K mg "clashes" (top 26))(e:Hl P w K mg base "rules_of" 4 1 ["book"] xH)(a:Hl P w K mg base "pairs_of" 1 1 ["rows"] cU)(b:Hl P w K mg base "held" 6 2 ["book","rows"] BS)(d:Hl P w K mg base "all_rows" 1 1 ["book"] cT)(c:Hl P w K mg base "breaks_of_two" 2 4 ["book","rules","i","j"] yX):Hl P w K mg base "clashes" 7 1 ["book"] sP:=by exists 2,sO,rD,rE,dG,dH
def VI(D:DefM K mg "foes_of" (top 32))(a:Hl P w K mg base "clashes" 7 1 ["book"] sP):Hl P w K mg base "foes_of" 8 1 ["book"] eU:=by exists 2,BU,rF,rG,rH,lG,lU,lV
def HI(D:DefM K mg "check_width" (top 33))(b:mg "len"=none){a:Tok}(c:mg "MOST_CLASHING"=some (.int (15) a)):Hl P w K mg base "check_width" 1 1 ["foes"] dL:=by exists 2,dI,nT
def VJ(D:DefM K mg "is_full" (top 34))(a:mg "any"=none)(b:mg "all"=none):Hl P w K mg base "is_full" 1 3 ["rows","known","foes"] sR:=by exists 2,sQ,rK,lW,dN,dM,gI
def CS(D:DefM K mg "peaceful_sets" (top 35))(b:mg "sorted"=none)(c:mg "tuple"=none)(d:Hl P w K mg base "is_full" 1 3 ["rows","known","foes"] sR)(a:mg "list"=none):Hl P w K mg base "peaceful_sets" 2 1 ["foes"] gW:=by exists 2,gV,bX,bY,bZ,cA,kZ,xW,xX,xY,xZ,xF,jZ,hV,hX,xV,jY
def VL(D:DefM K mg "has_all" (top 36))(b:mg "len"=none)(a:mg "set"=none):Hl P w K mg base "has_all" 1 2 ["rows","some"] cV:=by exists 2,sS,rL
def tL(D:DefM K mg "has_all_and_more" (top 37))(a:mg "len"=none)(b:Hl P w K mg base "has_all" 1 2 ["rows","some"] cV):Hl P w K mg base "has_all_and_more" 2 2 ["rows","some"] wV:=by exists 2,wU,jI
def Dg(D:DefM K mg "mended" (top 38))(m:Hl P w K mg base "foes_of" 8 1 ["book"] eU)(k:Hl P w K mg base "check_width" 1 1 ["foes"] dL)(j:Hl P w K mg base "held" 6 2 ["book","rows"] BS)(d:Hl P w K mg base "all_rows" 1 1 ["book"] cT)(e:Hl P w K mg base "ties_of" 5 1 ["book"] jR)(c:Hl P w K mg base "peaceful_sets" 2 1 ["foes"] gW)(n:Hl P w K mg base "tied_within" 3 2 ["ties","rows"] yF)(h:mg "list"=none)(i:mg "sorted"=none)(b:Hl P w K mg base "has_all_and_more" 2 2 ["rows","some"] wV)(a:mg "any"=none):Hl P w K mg base "mended" 9 1 ["book"] nG:=by exists 2,AH,uR,uS,pF,fW,pG,uT,pH,eA,pB,fV,eC,pE,pC,pD,eB
def HK(D:DefM K mg "mended_with" (top 39))(a:Hl P w K mg base "mended" 9 1 ["book"] nG)(b:Hl P w K mg base "has_all" 1 2 ["rows","some"] cV):Hl P w K mg base "mended_with" 10 2 ["book","rows"] gK:=by exists 2,dO,gX,nU,kC,jA
def DU(D:DefM K mg "_law_cell_at" (top 41))(a:mg "len"=none):Hl P w K mg base "_law_cell_at" 1 2 ["_law_script","_law_k"] yQ:=by exists 2,cB,jV,oA
def RR(D:DefM K mg "_law_mix" (top 42)):Hl P w K mg base "_law_mix" 1 2 ["_law_cell","_law_k"] zX:=by exists 2,uU,eE,eF,eG
def OA(D:DefM K mg "_law_made" (top 43))(d:Hl P w K mg base "_law_mix" 1 2 ["_law_cell","_law_k"] zX)(a:mg "range"=none)(c:mg "len"=none)(b:mg "sorted"=none):Hl P w K mg base "_law_made" 2 1 ["_law_cells"] lI:=by exists 2,lH,dU,lX,lY,lZ,mB,mE,mG,mH,mI,dQ,dR,dS,aI,gY,aK,gZ,aL,bA,nY,nZ,aB,aC,aD,aF,aG,aH,dP,nV,nW
def HM(D:DefM K mg "_law_barred" (top 44))(c:mg "sorted"=none)(b:Hl P w K mg base "_law_mix" 1 2 ["_law_cell","_law_k"] zX)(a:mg "len"=none):Hl P w K mg base "_law_barred" 2 2 ["_law_marks","_law_cells"] gM:=by exists 2,dW,bB,xD,bC,jB,cC
def IV(D:DefM K mg "_law_rules" (top 45))(a:mg "tuple"=none):Hl P w K mg base "_law_rules" 1 2 ["_law_low","_law_barred_here"] eH:=by refine R4 cG ‹_› (λ_ _ _ _ _ _ _ _ _ _=>?_);delta cG cE cF fX;refine DZ ?_ ?_;and_intros
def RS(D:DefM K mg "_law_due" (top 46))(c:mg "range"=none)(b:mg "len"=none)(a:mg "tuple"=none):Hl P w K mg base "_law_due" 1 3 ["_law_marks","_law_ends","_law_barred_here"] pO:=by exists 2,pN,pI,pK,pM,eK,fY,fZ,iA,eI,cH,jK
def A9(F:Fun K "law" "law" (top 47) f fd)(c:mg "range"=none)(p:Hl P w K mg base "_law_cell_at" 1 2 ["_law_script","_law_k"] yQ)(h:Hl P w K mg base "_law_made" 2 1 ["_law_cells"] lI)(d:Hl P w K mg base "_law_barred" 2 2 ["_law_marks","_law_cells"] gM)(j:Hl P w K mg base "_law_rules" 1 2 ["_law_low","_law_barred_here"] eH)(e:mg "tuple"=none)(i:mg "len"=none)(m:Hl P w K mg base "_law_due" 1 3 ["_law_marks","_law_ends","_law_barred_here"] pO)(q:Hl P w K mg base "mended" 9 1 ["book"] nG)(n:mg "sorted"=none)(a:Hl P w K mg base "good" 7 2 ["book","rows"] GD)(o:mg "all"=none)(k:Hl P w K mg base "_law_mix" 1 2 ["_law_cell","_law_k"] zX)(b:Hl P w K mg base "mended_with" 10 2 ["book","rows"] gK):FnOk P w K mg base rY 11 f fd ["_law_script"] (IB ⟨K,mg,P,w⟩ 1 QN):=by exists 0,XO,MC,MD,ME,MF,MG,MH,MI,MK,ML,GE,GF,GH,GI,BV,sT,sU,BW,CA,sV,sW,CB,sX,CC
end
abbrev mgN:=@PySem.W.mg_none_of
abbrev nNo(K:PySem.W.Frag)(x:Str):Prop:=PySem.W.nsIn K mainGlobals x=some none
def all_mk{l:PySem.W.OpenLaw}{w:World}{K:U0}{h:Heap}{mg:L1}{fa:Addr}(X:K.In h)(GG:h.Ns mainGlobals mg)(bq:mg "law"=some (.ref fa))(D0:DefM K mg "is_whole" (top 1))(D1:DefM K mg "side_value" (top 3))(D2:DefM K mg "fulfils" (top 4))(D3:DefM K mg "fulfils_all" (top 5))(D4:DefM K mg "cells_in" (top 6))(D12:DefM K mg "rule_of" (top 11))(D13:DefM K mg "rules_of" (top 13))(D14:DefM K mg "all_rows" (top 14))(D15:DefM K mg "pairs_of" (top 15))(D16:DefM K mg "key_of" (top 16))(D17:DefM K mg "breaks_of_one" (top 17))(D18:DefM K mg "breaks_of_two" (top 18))(D19:DefM K mg "breaks" (top 19))(D20:DefM K mg "good" (top 20))(D21:DefM K mg "ties_of" (top 21))(D22:DefM K mg "has_one_of" (top 22))(D23:DefM K mg "untied_among" (top 23))(D24:DefM K mg "tied_within" (top 24))(D25:DefM K mg "held" (top 25))(D26:DefM K mg "clashes" (top 26))(D27:DefM K mg "foes_of" (top 32))(D28:DefM K mg "check_width" (top 33))(D29:DefM K mg "is_full" (top 34))(D30:DefM K mg "peaceful_sets" (top 35))(D31:DefM K mg "has_all" (top 36))(D32:DefM K mg "has_all_and_more" (top 37))(D33:DefM K mg "mended" (top 38))(D34:DefM K mg "mended_with" (top 39))(D35:DefM K mg "_law_cell_at" (top 41))(D36:DefM K mg "_law_mix" (top 42))(D37:DefM K mg "_law_made" (top 43))(D38:DefM K mg "_law_barred" (top 44))(D39:DefM K mg "_law_rules" (top 45))(D40:DefM K mg "_law_due" (top 46))(D41:DefM K mg "law" (top 47))
  {q0d:Addr} (q4m:PySem.W.nsIn K mainGlobals "Rule"=some (some (.ref q0d)))
  {q0c:Addr} (q4i:PySem.W.nsIn K mainGlobals "Never"=some (some (.ref q0c)))
  {q0b:Addr} (q4j:PySem.W.nsIn K mainGlobals "Apart"=some (some (.ref q0b)))
  {q0e:Addr} (q4n:PySem.W.nsIn K mainGlobals "Tie"=some (some (.ref q0e)))
  (q4q:(PySem.W.clsIn K q0d).map (·.name)=some "Rule") (B3:Cls K q0d)
  (Kj:NoAttr K q0d "parts") (q4u:OI K q0d)
  (q4o:(PySem.W.clsIn K q0c).map (·.name)=some "Never") (Rx:Cls K q0c)
  (ZO:NoAttr K q0c "parts") (q4s:OI K q0c)
  (q4p:(PySem.W.clsIn K q0b).map (·.name)=some "Apart") (Sd:Cls K q0b)
  (ZP:NoAttr K q0b "parts") (q4t:OI K q0b)
  (q4r:(PySem.W.clsIn K q0e).map (·.name)=some "Tie") (V9:Cls K q0e)
  (Tq:NoAttr K q0e "parts") (q4v:OI K q0e)
  {q0a:Addr} {q1w q1x:Option Addr} {q1y:Array (Option ņ)} {q1z q2a q2b q2c q0i q2d:ņ}
  (B1:Mk K q0d q0a)
  (Sb:Mk K q0c q0a)
  (Rw:Mk K q0b q0a)
  (V7:Mk K q0e q0a)
  (q2f:K.lookup q0a=some ⟨q1z,q1w,.func (PySem.W.fnOf "__init__" "Rule.__init__" (wN (inClass (top 7) 0)) (yT (inClass (top 7) 0)) (zE (inClass (top 7) 0)) .none q2a q2b q2c q1x q0i q2d),q1y⟩) (q2g:PySem.W.codeIn K q0i "Rule.__init__"=true) (q2h:PySem.W.keepIn K (.ref q0a)=true)
  {yO:Addr} {q2z q3a:Option Addr} {q3b:Array (Option ņ)} {q3c q3d q3e q3f q1e q3g:ņ}
  (q4g:Meth K q0d "bars" yO)
  (q3x:Meth K q0b "bars" yO)
  (q4l:Meth K q0e "bars" yO)
  (q3y:K.lookup yO=some ⟨q3c,q2z,.func (PySem.W.fnOf "bars" "Rule.bars" (wN (inClass (top 7) 1)) (yT (inClass (top 7) 1)) (zE (inClass (top 7) 1)) .none q3d q3e q3f q3a q1e q3g),q3b⟩) (q3z:PySem.W.codeIn K q1e "Rule.bars"=true) (q4a:PySem.W.keepIn K (.ref yO)=true)
  {zQ:Addr} {q1g q1h:Option Addr} {q1i:Array (Option ņ)} {q1j q1k q1l q1m q0h q1n:ņ}
  (q2e:Meth K q0d "parts_them" zQ)
  (q1r:Meth K q0c "parts_them" zQ)
  (q2i:Meth K q0e "parts_them" zQ)
  (q1s:K.lookup zQ=some ⟨q1j,q1g,.func (PySem.W.fnOf "parts_them" "Rule.parts_them" (wN (inClass (top 7) 2)) (yT (inClass (top 7) 2)) (zE (inClass (top 7) 2)) .none q1k q1l q1m q1h q0h q1n),q1i⟩) (q1t:PySem.W.codeIn K q0h "Rule.parts_them"=true) (q1u:PySem.W.keepIn K (.ref zQ)=true)
  {yG:Addr} {q2j q2k:Option Addr} {q2l:Array (Option ņ)} {q2m q2n q2o q2p q0u q2q:ņ}
  (q4b:Meth K q0d "lacks" yG)
  (q3h:Meth K q0c "lacks" yG)
  (q3i:Meth K q0b "lacks" yG)
  (q3j:K.lookup yG=some ⟨q2m,q2j,.func (PySem.W.fnOf "lacks" "Rule.lacks" (wN (inClass (top 7) 3)) (yT (inClass (top 7) 3)) (zE (inClass (top 7) 3)) .none q2n q2o q2p q2k q0u q2q),q2l⟩) (q3k:PySem.W.codeIn K q0u "Rule.lacks"=true) (q3l:PySem.W.keepIn K (.ref yG)=true)
  {yZ:Addr} {q2r q2s:Option Addr} {q2t:Array (Option ņ)} {q2u q2v q2w q2x q0v q2y:ņ}
  (q4c:Meth K q0c "bars" yZ)
  (q3m:K.lookup yZ=some ⟨q2u,q2r,.func (PySem.W.fnOf "bars" "Never.bars" (wN (inClass (top 8) 0)) (yT (inClass (top 8) 0)) (zE (inClass (top 8) 0)) .none q2v q2w q2x q2s q0v q2y),q2t⟩) (q3n:PySem.W.codeIn K q0v "Never.bars"=true) (q3o:PySem.W.keepIn K (.ref yZ)=true)
  {zZ:Addr} {q0j q0k:Option Addr} {q0l:Array (Option ņ)} {q0m q0n q0o q0p q0f q0q:ņ}
  (q4k:Meth K q0b "parts_in_turn" zZ)
  (q0r:K.lookup zZ=some ⟨q0m,q0j,.func (PySem.W.fnOf "parts_in_turn" "Apart.parts_in_turn" (wN (inClass (top 9) 0)) (yT (inClass (top 9) 0)) (zE (inClass (top 9) 0)) .none q0n q0o q0p q0k q0f q0q),q0l⟩) (q0s:PySem.W.codeIn K q0f "Apart.parts_in_turn"=true) (q0t:PySem.W.keepIn K (.ref zZ)=true)
  {yB:Addr} {q0w q0x:Option Addr} {q0y:Array (Option ņ)} {q0z q1a q1b q1c q0g q1d:ņ}
  (q1v:Meth K q0b "parts_them" yB)
  (q1o:K.lookup yB=some ⟨q0z,q0w,.func (PySem.W.fnOf "parts_them" "Apart.parts_them" (wN (inClass (top 9) 1)) (yT (inClass (top 9) 1)) (zE (inClass (top 9) 1)) .none q1a q1b q1c q0x q0g q1d),q0y⟩) (q1p:PySem.W.codeIn K q0g "Apart.parts_them"=true) (q1q:PySem.W.keepIn K (.ref yB)=true)
  {yP:Addr} {q3p q3q:Option Addr} {q3r:Array (Option ņ)} {q3s q3t q3u q3v q1f q3w:ņ}
  (q4h:Meth K q0e "lacks" yP)
  (q4d:K.lookup yP=some ⟨q3s,q3p,.func (PySem.W.fnOf "lacks" "Tie.lacks" (wN (inClass (top 10) 0)) (yT (inClass (top 10) 0)) (zE (inClass (top 10) 0)) .none q3t q3u q3v q3q q1f q3w),q3r⟩) (q4e:PySem.W.codeIn K q1f "Tie.lacks"=true) (q4f:PySem.W.keepIn K (.ref yP)=true)
  {aP:Tok} (qD:PySem.W.nsIn K mainGlobals "MOST_CLASHING"=some (some (.int (15) aP)))
  (ZM:nNo K "all")
  (ZN:nNo K "any")
  (Kh:nNo K "bool")
  (Kl:nNo K "dict")
  (nI:nNo K "enumerate")
  (Tr:nNo K "int")
  (AV:nNo K "isinstance")
  (rW:nNo K "len")
  (VO:nNo K "list")
  (AW:nNo K "range")
  (Tt:nNo K "set")
  (iL:nNo K "sorted")
  (pS:nNo K "tuple")
  : ∃fd:FuncData,(∀(s:Ņ)(v:ņ),BindsTo s fd ⟨[v],[]⟩ [("_law_script",v)])/\ ∀base:Heap,K.In base->base.Ns mainGlobals mg->FnOk l.prog w K mg base rY 11 fa fd ["_law_script"] (JL K QN):=by
 have ao:=mgN X GG ZM;have aj:=mgN X GG ZN;have ax:=mgN X GG Kh;have aw:=mgN X GG Kl;have k:=mgN X GG nI;have a3:=mgN X GG Tr;have ab:=mgN X GG AV;have y:=mgN X GG rW;have ar:=mgN X GG VO;have O:=mgN X GG AW;have az:=mgN X GG Tt;have m:=mgN X GG iL;have z:=mgN X GG pS;have T:=PySem.W.mg_of X GG qD;have p:=oF (st:=inClass (top 7) 0) q2f q2g q2h;have a:=p.binds (ps:=["self","parts"]) λ_ _ _ _ _ _ us hl=>match us,hl with |[_,_],_=>rfl
 have M:=oF (st:=inClass (top 7) 1) q3y q3z q4a;have r:=M.binds (ps:=["self","row"]) λ_ _ _ _ _ _ us hl=>match us,hl with |[_,_],_=>rfl
 have j:=oF (st:=inClass (top 7) 2) q1s q1t q1u;have d:=j.binds (ps:=["self","row","other"]) λ_ _ _ _ _ _ us hl=>match us,hl with |[_,_,_],_=>rfl
 have G:=oF (st:=inClass (top 7) 3) q3j q3k q3l;have o:=G.binds (ps:=["self","row","rows"]) λ_ _ _ _ _ _ us hl=>match us,hl with |[_,_,_],_=>rfl
 have L:=oF (st:=inClass (top 8) 0) q3m q3n q3o;have Y:=L.binds (ps:=["self","row"]) λ_ _ _ _ _ _ us hl=>match us,hl with |[_,_],_=>rfl
 have e:=oF (st:=inClass (top 9) 0) q0r q0s q0t;have ag:=e.binds (ps:=["self","row","other"]) λ_ _ _ _ _ _ us hl=>match us,hl with |[_,_,_],_=>rfl
 have i:=oF (st:=inClass (top 9) 1) q1o q1p q1q;have J:=i.binds (ps:=["self","row","other"]) λ_ _ _ _ _ _ us hl=>match us,hl with |[_,_,_],_=>rfl
 have N:=oF (st:=inClass (top 10) 0) q4d q4e q4f;have Z:=N.binds (ps:=["self","row","rows"]) λ_ _ _ _ _ _ us hl=>match us,hl with |[_,_,_],_=>rfl
 have I:OC K "Rule" q0d:=⟨q4m,q4q,B3⟩
 have B:OC K "Never" q0c:=⟨q4i,q4o,Rx⟩
 have C:OC K "Apart" q0b:=⟨q4j,q4p,Sd⟩
 have Q:OC K "Tie" q0e:=⟨q4n,q4r,V9⟩
 have ah:FlB K Dk "parts":=λc hc=>by
  simp only[Dk,mC,nM,or_false]at hc;rcases hc with rfl|rfl|rfl|rfl
  .exact⟨q0d,I,Kj⟩
  .exact⟨q0c,B,ZO⟩
  .exact⟨q0b,C,ZP⟩
  .exact⟨q0e,Q,Tq⟩
 refine Yg D41 bq (λ_ _ _ _ _ _ s v=>.of_eq rfl) λbase f fd F=>?_;have S:FnOk l.prog w K mg base rY 1 q0a _ ["self","parts"] (Q4 K "parts"):=Pj p Ke λb6 A b5 s H E=>VT (Vd (pv 0) (pv 1) rfl);have a4:Sw l.prog w K mg base "Rule" "parts":=⟨q0d,q0a,_,"parts",I,Kj,B1,S,a,PySem.W.mg_of X GG q4m⟩
 have ak:Sw l.prog w K mg base "Never" "parts":=⟨q0c,q0a,_,"parts",B,ZO,Sb,S,a,PySem.W.mg_of X GG q4i⟩
 have aq:Sw l.prog w K mg base "Apart" "parts":=⟨q0b,q0a,_,"parts",C,ZP,Rw,S,a,PySem.W.mg_of X GG q4j⟩
 have av:Sw l.prog w K mg base "Tie" "parts":=⟨q0e,q0a,_,"parts",Q,Tq,V7,S,a,PySem.W.mg_of X GG q4n⟩
 have G0:=RH (P:=l.prog) (w:=w) (base:=base) D0 a3 ab ax;have G1:=IR (P:=l.prog) (w:=w) (base:=base) D1;have G2:=VE D2 G1 G0;have G3:=HB D3 G2 ao;have G4:=RI (P:=l.prog) (w:=w) (base:=base) D4;have u:=NV (P:=l.prog) (w:=w) (mg:=mg) (base:=base) M;have b:=uY (P:=l.prog) (w:=w) (mg:=mg) (base:=base) j;have n:=IS (P:=l.prog) (w:=w) (mg:=mg) (base:=base) G;have U:=IT (P:=l.prog) (w:=w) (mg:=mg) (base:=base) L ah G3;have af:=pR (P:=l.prog) (w:=w) (mg:=mg) (base:=base) e;have D:=tK (P:=l.prog) (w:=w) (mg:=mg) (base:=base) i;have ae:=NZ (P:=l.prog) (w:=w) (mg:=mg) (base:=base) N ah G4;have bp:=VF (P:=l.prog) (w:=w) (base:=base) D12 ak aq av;have ay:=RL (P:=l.prog) (w:=w) (base:=base) D13 bp;have a':=RM (P:=l.prog) (w:=w) (base:=base) D14 y z O;have a6:=RN (P:=l.prog) (w:=w) (base:=base) D15 k;have bj:=De (P:=l.prog) (w:=w) (base:=base) D16
 have au:Sx l.prog w K mg base "bars" 4 2 dC:=λq hq=>by
  simp only[dC,mC,nM,or_false]at hq;rcases hq with rfl|rfl|rfl|rfl
  .exact⟨q0d,yO,_,_,I,q4g,u.mono (by decide),r⟩
  .exact⟨q0c,yZ,_,_,B,q4c,U.mono (by decide),Y⟩
  .exact⟨q0b,yO,_,_,C,q3x,u.mono (by decide),r⟩
  .exact⟨q0e,yO,_,_,Q,q4l,u.mono (by decide),r⟩
 have ai:Sx l.prog w K mg base "lacks" 2 3 gH:=λq hq=>by
  simp only[gH,mC,nM,or_false]at hq;rcases hq with rfl|rfl|rfl|rfl
  .exact⟨q0d,yG,_,_,I,q4b,n.mono (by decide),o⟩
  .exact⟨q0c,yG,_,_,B,q3h,n.mono (by decide),o⟩
  .exact⟨q0b,yG,_,_,C,q3i,n.mono (by decide),o⟩
  .exact⟨q0e,yP,_,_,Q,q4h,ae.mono (by decide),Z⟩
 have bc:=CP (P:=l.prog) (w:=w) (base:=base) D17 k au ai
 have aa:Sx l.prog w K mg base "parts_them" 1 3 xI:=λq hq=>by
  simp only[xI,mC,nM,or_false]at hq;rcases hq with rfl|rfl|rfl|rfl
  .exact⟨q0d,zQ,_,_,I,q2e,b.mono (by decide),d⟩
  .exact⟨q0c,zQ,_,_,B,q1r,b.mono (by decide),d⟩
  .exact⟨q0b,yB,_,_,C,q1v,D.mono (by decide),J⟩
  .exact⟨q0e,zQ,_,_,Q,q2i,b.mono (by decide),d⟩
 have a9:=CQ (P:=l.prog) (w:=w) (base:=base) D18 k aa bj;have bg:=Df (P:=l.prog) (w:=w) (base:=base) D19 ay bc a6 a9 m;have b2:=Ru (P:=l.prog) (w:=w) (base:=base) D20 bg y;have a5:=VG (P:=l.prog) (w:=w) (base:=base) D21 ay k ai;have bw:=IU (P:=l.prog) (w:=w) (base:=base) D22;have bu:=DT (P:=l.prog) (w:=w) (base:=base) D23 bw;have ba:=HG (P:=l.prog) (w:=w) (base:=base) D24 aw bu z;have a7:=Rv (P:=l.prog) (w:=w) (base:=base) D25 ay au aj ba a5;have bz:=VH (P:=l.prog) (w:=w) (base:=base) D26 ay a6 a7 a' a9;have br:=VI (P:=l.prog) (w:=w) (base:=base) D27 bz;have b1:=HI (P:=l.prog) (w:=w) (base:=base) D28 y T;have bh:=VJ (P:=l.prog) (w:=w) (base:=base) D29 aj ao;have bl:=CS (P:=l.prog) (w:=w) (base:=base) D30 m z bh ar;have a8:=VL (P:=l.prog) (w:=w) (base:=base) D31 y az;have b0:=tL (P:=l.prog) (w:=w) (base:=base) D32 y a8;have bb:=Dg (P:=l.prog) (w:=w) (base:=base) D33 br b1 a7 a' a5 bl ba ar m b0 aj;have bo:=HK (P:=l.prog) (w:=w) (base:=base) D34 bb a8;have bf:=DU (P:=l.prog) (w:=w) (base:=base) D35 y;have a0:=RR (P:=l.prog) (w:=w) (base:=base) D36;have b3:=OA (P:=l.prog) (w:=w) (base:=base) D37 a0 O y m;have bt:=HM (P:=l.prog) (w:=w) (base:=base) D38 m a0 y;have bx:=IV (P:=l.prog) (w:=w) (base:=base) D39 z;have b4:=RS (P:=l.prog) (w:=w) (base:=base) D40 O y z;exact A9 (P:=l.prog) (w:=w) (base:=base) F O bf b3 bt bx z y b4 bb m b2 ao a0 bo
def walk{l:PySem.W.OpenLaw}{q:ň}{b:L0}{v:(Str->Option ņ)->Heap->Prop}{i:World->Heap->Prop}{d:DefRec}{K:Params->PySem.W.Frag}(m:l.most=some 63)(c:d.params.defaults=[])
  (hY: ∀(w:World)(h:Heap),i w h->(K w.params).In h)
  (F: ∀(w:World)(mg:L1)(e:Addr)(h:Heap),(K w.params).In h->h.Ns mainGlobals mg->mg d.name=some (.ref e)->
   ∃fd:FuncData,(∀(s:Ņ)(u:ņ),BindsTo s fd ⟨[u],[]⟩ [("_law_script",u)])/\ ∀base:Heap,(K w.params).In base->base.Ns mainGlobals mg->FnOk l.prog w (K w.params) mg base rY 11 e fd ["_law_script"] (JL (K w.params) QN)):
  PySem.W.WalkO q b v i l.row.toRowW d [] (λf vs=>PySem.call f vs):=
 L2.walk_of (n:=63) (k:=11) (x:="_law_script") (CX:=λ_=>rY) (sp:=λw=>JL (K w.params) QN) m (by decide) c ⟨rfl,by decide,by decide⟩ hY F
  (λw H a p o r j=>Gg r j (Kd p o)) λ_ _ _ _ _ z=>z
end My
end M
end L2
namespace PySem.W.Fast
def tw4333395376524090153:=0
theorem te4333395376524090153:tw4333395376524090153=0:=rfl
def tw3529349979086891917:=0
theorem te3529349979086891917:tw3529349979086891917=0:=rfl
def tw5448975235072599600:=0
theorem te5448975235072599600:tw5448975235072599600=0:=rfl
def tw7488388567009183894:=0
theorem te7488388567009183894:tw7488388567009183894=0:=rfl
def tw4938308153161881735:=0
theorem te4938308153161881735:tw4938308153161881735=0:=rfl
def tw14375184847644567112:=0
theorem te14375184847644567112:tw14375184847644567112=0:=rfl
def tw7240493605564432036:=0
theorem te7240493605564432036:tw7240493605564432036=0:=rfl
def tw4640137579418687215:=0
theorem te4640137579418687215:tw4640137579418687215=0:=rfl
def tw6314821055533789876:=0
theorem te6314821055533789876:tw6314821055533789876=0:=rfl
def tw5041157604686064678:=0
theorem te5041157604686064678:tw5041157604686064678=0:=rfl
def tw6132702406708220234:=0
theorem te6132702406708220234:tw6132702406708220234=0:=rfl
def tw2812005585963244258:=0
theorem te2812005585963244258:tw2812005585963244258=0:=rfl
def tw400254553736688710:=0
theorem te400254553736688710:tw400254553736688710=0:=rfl
def tw12862010573096153169:=0
theorem te12862010573096153169:tw12862010573096153169=0:=rfl
def tw7715648466042001203:=0
theorem te7715648466042001203:tw7715648466042001203=0:=rfl
def tw11209796611867470169:=0
theorem te11209796611867470169:tw11209796611867470169=0:=rfl
def tw53056118510390656:=0
theorem te53056118510390656:tw53056118510390656=0:=rfl
def tw2041550918919179349:=0
theorem te2041550918919179349:tw2041550918919179349=0:=rfl
def tw4215549092872094307:=0
theorem te4215549092872094307:tw4215549092872094307=0:=rfl
def tw6886629802515166015:=0
theorem te6886629802515166015:tw6886629802515166015=0:=rfl
def tw553076214856124672:=0
theorem te553076214856124672:tw553076214856124672=0:=rfl
def tw921550836536250461:=0
theorem te921550836536250461:tw921550836536250461=0:=rfl
end PySem.W.Fast
open PySem PySem.W PyProof.Rows
set_option maxRecDepth 100000 in
set_option maxHeartbeats 0 in
theorem PySem.Challenge.cw_mendsure_k23_two_ends_and_their_rows_holds : PySem.Challenge.rw_mendsure_k23_two_ends_and_their_rows.Holds := by
  w_on; o_law; k_head; (case hw => w_witness2)
  k_fill
  refine L2.M.My.walk (l := PySem.Challenge.rw_mendsure_k23_two_ends_and_their_rows) rfl rfl (fun w h Y => PySem.W.kIn_of Y) ?F
  case F =>
    intro w mg b h KX G a
    refine' L2.M.My.all_mk KX G a ?_ ?_ ?_ ?_ ?_ ?_ ?_ ?_ ?_ ?_ ?_ ?_ ?_ ?_ ?_ ?_ ?_ ?_ ?_ ?_ ?_ ?_ ?_ ?_ ?_ ?_ ?_ ?_ ?_ ?_ ?_ ?_ ?_ ?_ ?_ ?_ ?_ ?_ ?_ ?_ ?_ ?_ ?_ ?_ ?_ ?_ ?_ ?_ ?_ ?_ ?_ ?_ ?_ ?_ ?_ ?_ ?_ ?_ ?_ ?_ ?_ ?_ ?_ ?_ ?_ ?_ ?_ ?_ ?_ ?_ ?_ ?_ ?_ ?_ ?_ ?_ ?_ ?_ ?_ ?_ ?_ ?_ ?_ ?_ ?_ ?_ ?_ ?_ ?_ ?_ ?_ ?_ ?_ ?_ ?_ ?_ ?_ ?_ ?_ ?_ ?_ ?_ ?_ ?_ ?_ ?_ ?_ ?_ ?_ ?_
    any_goals first | (exact L2.M.def_mk (by k_is) (by k_is) (by k_is) (by k_is) KX G) | (k_is) | (exact L2.M.nm_of (by k_is) (by rfl)) | (exact ⟨by k_is, by k_is, by k_is, by k_is⟩) | (show PySem.W.findIn _ _ _ = _; k_is) | (exact ⟨by k_is, by k_is, by k_is⟩) | (show PySem.W.nsIn _ _ _ = _; k_is)
