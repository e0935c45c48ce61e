import PyProof.Rows.All
import Wide.All
import OpenK.AllK
import Wide.FinOn
import Lean
import PyProof.EqAt
import PyProof.EqKinds
import PyProof.TupleCall
import PySem.Challenge.RW_mendsure_k20_all_mended_books
set_option Elab.async false
set_option linter.all false
set_option hygiene false
set_option compiler.extract_closed false
local macro_rules|`(↑0)=>`(S.length)
local macro_rules|`(↑1)=>`(s.heap.objs.size)
local macro_rules|`(↑2)=>`(Inv X pins σ H s)
local macro_rules|`(↑3)=>`(zD ts rls rs)
local macro_rules|`(↑4)=>`(rs.length)
local macro_rules|`(↑5)=>`(.tup (ts.map tbl))
local macro_rules|`(↑6)=>`(model X.prog X.w)
local macro_rules|`(↑7)=>`(by decide)
local macro_rules|`(↑8)=>`(List MV->Sto->R Er)
local macro_rules|`(↑9)=>`(model prog w)
local macro_rules|`(↑10)=>`((e::es).length+([]:List Keyword).length+(if([]:List Keyword).isEmpty then 0 else 1)<30)
local macro_rules|`(↑11)=>`(List (Nat×Nat×List Nat))
local macro_rules|`(↑12)=>`(zF (.tie t cs u ds))
local macro_rules|`(↑13)=>`(Rho->Sto->R (List Er))
local macro_rules|`(↑14)=>`(.ListComp elt [⟨tg,iter,ifs,0⟩] sc pos)
local macro_rules|`(↑15)=>`(zM X sc T idx C s₂ H1 fp)
local macro_rules|`(↑16)=>`(Qd P w K mg base "_law_take" 1 2 ["_law_well_here","_law_many"] zC)
local macro_rules|`(↑17)=>`(MV->Rho->Sto->R Rho)
local macro_rules|`(↑18)=>`(zF (.apart t u qs))
local macro_rules|`(↑19)=>`(Keyed->Keyed->Bool)
local macro_rules|`(↑20)=>`(dJ zU (vJ 0) (kJ (.int 2)))
local macro_rules|`(↑21)=>`(kJ (.int 1))
local macro_rules|`(↑22)=>`(∀b o,s.heap.get? b=some o->h'.get? b=some o)
local macro_rules|`(↑23)=>`(ds.length)
local macro_rules|`(↑24)=>`(List (Key×V))
local macro_rules|`(↑25)=>`( ∀r∈rls,jF ts r)
local macro_rules|`(↑26)=>`(is.map MV.int)
local macro_rules|`(↑27)=>`(kJ (.int 0))
local macro_rules|`(↑28)=>`(x==("__debug__":Str))
local macro_rules|`(↑29)=>`(.scr (e.map MV.int))
local macro_rules|`(↑30)=>`( ∀r∈rs,aD ts r)
local macro_rules|`(↑31)=>`(List (NK×Addr×ņ))
local macro_rules|`(↑32)=>`( ∀b∈ch,(b∈X.ex\/X.s₀.heap.objs.size<=b)/\b≠X.env.locals/\(∀x c,X.env.cells.lookup x=some c->c≠b)/\ ∀p∈X.pn++pins,p.1≠b)
local macro_rules|`(↑33)=>`(xs.length)
local macro_rules|`(↑34)=>`(.ret (.val (.bl false)))
local macro_rules|`(↑35)=>`(.tup (th.map zA))
local macro_rules|`(↑36)=>`(its.toArray)
local macro_rules|`(↑37)=>`(X.A.units+64<cLine)
local macro_rules|`(tactic|rw[20])=>`(tactic|intro pins s σ H Q I h)
local macro_rules|`(tactic|rw[21])=>`(tactic|intro pins s σ H xs us Q I r h)
local macro_rules|`(tactic|rw[22])=>`(tactic|obtain⟨f0,f1,f2,f3,f4,f5⟩:=hf it (by simp))
local macro_rules|`(tactic|rw[23])=>`(tactic|obtain⟨h1,c⟩:=FO I e (A:=X.A.in1) (by show X.A.units+1+zQ<cLine;unfold zQ;lia) n m l r k)
set_option maxRecDepth 100000
noncomputable section
set_option bootstrap.genMatcherCode false
open List (all_map drop_length ext_getElem? filterMap_cons filterMap_cons_some filter_congr filter_cons_of_neg filter_cons_of_pos filter_eq_self filter_filter find?_cons flatMap_cons forIn_cons forIn_nil getD_eq_getElem?_getD getElem?_append_left getElem?_append_right getElem?_eq_none getElem?_map getElem?_of_mem getElem?_range getElem?_set_ne getElem?_set_self getElem?_take_of_lt getElem_inj getElem_mem getElem_of_mem getElem_range length_range length_zip length_zipIdx lookup_cons mem_append_left mem_filterMap mem_flatMap mem_map_of_mem mem_of_getElem? mem_of_mem_take mem_range nodup_append nodup_cons nodup_nil nodup_range of_mem_zip pairwise_cons pairwise_map pairwise_singleton reverse_cons set_append_left take_of_length_le zipIdx_nil zip_cons_cons zip_nil_left)
open Nat (add_assoc le_of_lt le_of_succ_le le_succ lt_irrefl lt_of_le_of_lt lt_trans min_eq_left mul_le_mul pow_le_pow_right sub_self testBit_lt_two_pow zero_le)
abbrev à:=@Nat.le_refl
abbrev á:=@PySem.Heap.lt_size
abbrev â:=@Nat.ne_of_lt
abbrev ã:=@Option.some.inj
abbrev ä:=@PySem.Heap.get?_push_size
abbrev å:=@List.mem_filter
abbrev æ:=@List.mem_append
abbrev ç:=@List.getElem?_append_left
abbrev è:=@List.length_range
abbrev é:=@Nat.lt_of_lt_of_le
abbrev ê:=@List.map_cons
abbrev ë:=@decide_eq_true_eq
abbrev ì:=@Nat.le_trans
abbrev í:=@List.getElem?_set_ne
abbrev î:=@List.getElem?_append_right
abbrev ï:=@List.length_filter_le
abbrev ð:=@List.getElem?_map
abbrev ñ:=@List.mem_of_getElem?
abbrev ò:=@List.mem_range
abbrev ó:=@of_decide_eq_true
abbrev ô:=@List.getElem?_set_self
abbrev õ:=@List.mem_append_right
abbrev ö:=@PySem.wpAny_call_entry
abbrev ø:=@List.all_eq_true
abbrev ù:=@List.length_set
abbrev ú:=@Array.length_toList
abbrev û:=@List.map_map
abbrev ü:=@List.any_eq_true
abbrev ý:=@List.any_eq_false
abbrev þ:=@Array.getElem?_toList
abbrev ÿ:=@Option.isSome_iff_exists
abbrev Ā:=@Bool.eq_iff_iff
abbrev ā:=@List.getD_eq_getElem?_getD
abbrev Ă:=@Classical.choose_spec
abbrev ă:=@PySem.wpAny_mono
abbrev Ą:=@PySem.wpAny_holding
abbrev ą:=@Bool.not_eq_true'
abbrev Ć:=@List.map_append
abbrev ć:=@PySem.wpAny_truthy_bool
abbrev Ĉ:=@PySem.wpAny_callSpecial?_slot
abbrev ĉ:=@List.length_nil
abbrev Ċ:=@PySem.sizeLine_eq
abbrev ċ:=@Classical.byContradiction
abbrev Č:=@PySem.wpAny_newObj_type
abbrev č:=@List.set_set
abbrev Ď:=@List.mem_append_left
abbrev ď:=@List.foldl_cons
abbrev Đ:=@List.length_drop
abbrev đ:=@List.getElem?_eq_none
abbrev Ē:=@PySem.Around.under_plainId
abbrev ē:=@Int.toNat_natCast
abbrev Ĕ:=@List.length_replicate
abbrev ĕ:=@Nat.lt_irrefl
abbrev Ė:=@Nat.ne_of_gt
abbrev ė:=@Nat.lt_succ_self
abbrev Ę:=@Bool.not_eq_true
abbrev ę:=@PySem.wpAny_field
abbrev Ě:=@List.lookup_cons
abbrev ě:=@List.zip_cons_cons
abbrev Ĝ:=@PySem.Heap.size_push
abbrev ĝ:=@PyProof.Rows.callWith_type1
abbrev Ğ:=@PySem.codeAny_builtin
abbrev ğ:=@PySem.Heap.get?_update_other
abbrev Ġ:=@List.pairwise_map
abbrev ġ:=@decide_eq_decide
abbrev Ģ:=@PyProof.Rows.slot_tuple_getitem
abbrev ģ:=@List.nodup_append
abbrev Ĥ:=@Bool.true_and
abbrev ĥ:=@List.any_cons
abbrev Ħ:=@PySem.wpAny_typeNameOfWhole_keyiter
abbrev ħ:=@beq_eq_false_iff_ne
abbrev Ĩ:=@List.getElem_mem
abbrev ĩ:=@Nat.zero_add
abbrev Ī:=@PySem.wpAny_passesOwn
abbrev ī:=@Bool.or_eq_true
abbrev Ĭ:=@PySem.F.slot_tuple_iterator_next
abbrev ĭ:=@List.perm_ext_iff_of_nodup
abbrev Į:=@List.take_of_length_le
abbrev į:=@List.getElem?_eq_none_iff
abbrev İ:=@PySem.wpAny_rule
abbrev ı:=@Array.getElem?_eq_getElem
abbrev Ĳ:=@Bool.not_false
abbrev ĳ:=@PySem.codeAny_mono
abbrev Ĵ:=@PySem.wpAny_typeOf
abbrev ĵ:=@PySem.wpAny_isInstance
abbrev Ķ:=@List.filterMap_cons_none
abbrev ķ:=@List.Pairwise.imp_of_mem
abbrev ĸ:=@List.getElem?_take_of_lt
abbrev Ĺ:=@List.filterMap_cons_some
abbrev ĺ:=@PySem.Heap.SameBut.update
abbrev Ļ:=@PySem.wpAny_getItem_str_slice
abbrev ļ:=@Int.eq_ofNat_of_zero_le
abbrev Ľ:=@PySem.wpAny_specialOf
abbrev ľ:=@PySem.wpAny_setField_rec
abbrev Ŀ:=@List.filter_cons_of_pos
abbrev ŀ:=@List.filter_cons_of_neg
abbrev Ł:=@List.set_append_left
abbrev ł:=@Nat.testBit_lt_two_pow
abbrev Ń:=@List.ext_getElem?
abbrev ń:=@List.getElem_of_mem
abbrev Ņ:=PySem.Shared
abbrev ņ:=PySem.Value
abbrev Ň:=PySem.Around
abbrev ň:=PySem.Program
def q0{n:Nat}:n<=n:=Nat.le_refl n
def xF0:¬(false=true):=Bool.false_ne_true

abbrev dF0:=@decide_eq_false
abbrev dT0:=@decide_eq_true
abbrev iP:=@if_pos
abbrev iN:=@if_neg
abbrev mC:=@List.mem_cons
abbrev lC:=@List.length_cons
abbrev mO:=@List.mem_cons_of_mem
abbrev lM:=@List.length_map
abbrev nM:=@List.not_mem_nil
abbrev mS:=@List.mem_singleton
abbrev mF0:=@List.mem_cons_self
abbrev fT0:=@Bool.false_eq_true
abbrev sA:=@List.size_toArray
abbrev lS:=@List.length_singleton
abbrev eL:=@Int.emod_lt_of_pos
abbrev eN:=@Int.emod_nonneg
abbrev aE:=@Bool.and_eq_true
abbrev iF:=@if_false
abbrev aN:=@List.append_nil
abbrev lA:=@List.length_append
abbrev gS:=@List.getElem?_eq_some_iff
abbrev gE:=@List.getElem?_eq_getElem
abbrev wB:=@PySem.wpAny_bind
abbrev wP:=@PySem.wpAny_pure
abbrev hP0:=@PySem.Heap.get?_push_of_some
abbrev mM:=@List.mem_map
abbrev lT:=@List.length_take
abbrev aA:=@List.append_assoc
abbrev VP:=PySem.Value->PySem.Shared->Prop
abbrev Q0:=PySem.W.Frag
abbrev P0:=List PySem.Expr
abbrev O0:=Option Int
abbrev N0:=List Bool
abbrev M0:=List (PySem.Addr×PySem.Obj)
abbrev L1:=Array (Int×PySem.Value)
abbrev L0:=PySem.Str->Option PySem.Value
abbrev K0:=List PySem.Str
abbrev B9:=List PySem.Addr
abbrev B0:=Array PySem.Value
abbrev A0:=List PySem.Value
abbrev Za:=List Int
abbrev Tk:=List (Int×Int)
abbrev Db:=List Nat
abbrev Ch:=List (List Nat)
set_option bootstrap.genMatcherCode true in
local macro_rules
 |`(#[0])=>`(by lia)
namespace L2
open PySem PySem.Spec PyProof.Rows
variable{pins:M0}{us:A0}{E:VP}{pos:Pos}{t':Nat}{Q:Unit->Ņ->Prop}{tg:Expr}{C:Addr}{f:ņ->ņ->Sem ņ}{ps:K0}
abbrev Key:=Sum Int Str
noncomputable def tD:Key->ņ->Bool
 |.inl k,v=>Value.isInt k v
 |.inr x,v=>Value.isStrOf x v
noncomputable def zDS(w:World):Key->Int
 |.inl k=>hashInt k
 |.inr x=>hashStr w x
def yK: ∀{k:Key}{v:ņ},tD k v=true->(∃i t,k=Sum.inl i/\v=Value.int i t)\/(∃x t,k=Sum.inr x/\v=Value.str x t)
 |.inl i,v,h=>by obtain⟨t,e⟩:=Value.isInt_shape h;exact .inl ⟨i,t,rfl,e⟩
 |.inr x,v,h=>by obtain⟨t,e⟩:=Value.isStrOf_shape h;exact .inr ⟨x,t,rfl,e⟩
def Ig(i:Int)(t:Tok):tD (.inl i) (.int i t)=true:=by simp[tD,Value.isInt]
def Ih(x:Str)(t:Tok):tD (.inr x) (.str x t)=true:=by simp[tD,Value.isStrOf]
def M3(a b:Int):decide ((Sum.inl a:Key)=Sum.inl b)=(a==b):=by
 by_cases e:a=b
 .subst e;simp
 .have h: ¬(Sum.inl a:Key)=Sum.inl b:=λq=>e (Sum.inl.inj q);rw[dF0 h];exact(ħ.mpr e).symm
def M4(a b:Str):decide ((Sum.inr a:Key)=Sum.inr b)=decide (a=b):=by
 by_cases e:a=b
 .subst e;simp
 .have h: ¬(Sum.inr a:Key)=Sum.inr b:=λq=>e (Sum.inr.inj q);rw[dF0 h,dF0 e]
def M5(a:Int)(b:Str):decide ((Sum.inl a:Key)=Sum.inr b)=false:=dF0 (λq=>nomatch q)
def M6(a:Str)(b:Int):decide ((Sum.inr a:Key)=Sum.inl b)=false:=dF0 (λq=>nomatch q)
def bI(prog:ň)(w:World):PySem.KeyKind prog w Key where
 is:=tD
 hash:=zDS w
 inj:=λv a b ha hb=>by
  rcases yK ha with⟨i,t,rfl,rfl⟩|⟨x,t,rfl,rfl⟩
  .rcases yK hb with⟨j,u,rfl,e⟩|⟨y,u,rfl,e⟩
   .injection e with e1 _;rw[e1]
   .exact nomatch e
  .rcases yK hb with⟨j,u,rfl,e⟩|⟨y,u,rfl,e⟩
   .exact nomatch e
   .injection e with e1 _;rw[e1]
 byValue:=λk v h=>by rcases yK h with⟨i,t,rfl,rfl⟩|⟨x,t,rfl,rfl⟩<;>rfl
 pyHash:=λhv h=>by
  rcases yK hv with⟨i,t,rfl,rfl⟩|⟨x,t,rfl,rfl⟩
  .exact wpAny_pyHash_int h
  .exact wpAny_pyHash_str h
 eqBool:=λhu hv h=>by
  rcases yK hu with⟨i,t,rfl,rfl⟩|⟨x,t,rfl,rfl⟩
  .rcases yK hv with⟨j,u,rfl,rfl⟩|⟨y,u,rfl,rfl⟩
   .rw[M3]at h;exact wpAny_eqBool_int h
   .rw[M5]at h;exact SeqAt.EqAt.int_str i t y u _ _ _ _ h
  .rcases yK hv with⟨j,u,rfl,rfl⟩|⟨y,u,rfl,rfl⟩
   .rw[M6]at h;exact SeqAt.EqAt.str_int x t j u _ _ _ _ h
   .rw[M4]at h;exact wpAny_eqBool_str h
 «strs»:=λk x t v h=>by
  rcases yK h with⟨i,u,rfl,e⟩|⟨y,u,rfl,e⟩
  .exact nomatch e
  .injection e with e1 _
   subst e1;cases v<;>rfl
def JF(prog:ň)(w:World)(i:Int)(t:Tok):(bI prog w).is (.inl i) (.int i t)=true:=Ig i t
def AC(prog:ň)(w:World)(x:Str)(t:Tok):(bI prog w).is (.inr x) (.str x t)=true:=Ih x t
inductive V where
 |non|bl (b:Bool)|int (i:Int)|str (x:Str)|byt (b:Array UInt8)|flt (b:UInt64)|ref (a:Addr)|ty (n:String)
 deriving DecidableEq
variable{v:V}
def RelV:V->ņ->Prop
 |.non,u=>u=Value.none
 |.bl b,u=>u=Value.bool b
 |.int i,u=> ∃t,u=Value.int i t
 |.str x,u=> ∃t,u=Value.str x t
 |.byt b,u=> ∃t,u=Value.bytes b t
 |.flt b,u=> ∃t,u=Value.float b t
 |.ref a,u=>u=Value.ref a
 |.ty n,u=>u=Value.type n
abbrev Vals:List V->List Value->Prop:=Paired RelV
def Vals.length{xs:List V}(r:Vals xs us):↑33=us.length:=Paired.length r
theorem Vals.get: ∀{xs:List V}{us:A0}{i:Nat}{x:V},Vals xs us->xs[i]? =some x-> ∃u,us[i]? =some u/\RelV x u
 |_,_,_,_,.nil,e=>by simp at e
 |_,_,0,_,.cons r _,e=>by simp at e;subst e;exact⟨_,rfl,r⟩
 |_,_,i+1,x,.cons _ t,e=>by obtain⟨u,h1,a⟩:=Vals.get t (by simpa using e);exact⟨u,by simpa using h1,a⟩
theorem Vals.set{x:V}{u:ņ}(r:RelV x u): ∀{xs:List V}{us:A0}(i:Nat),Vals xs us->Vals (xs.set i x) (us.set i u)
 |_,_,_,.nil=>.nil
 |_,_,0,.cons _ t=>.cons r t
 |_,_,i+1,.cons q t=>.cons q (Vals.set r i t)
theorem Vals.append: ∀{xs ys:List V}{us ws:A0},Vals xs us->Vals ys ws->Vals (xs++ys) (us++ws)
 |_,_,_,_,.nil,s=>s
 |_,_,_,_,.cons r t,s=>.cons r (Vals.append t s)
theorem Vals.take: ∀{xs:List V}{us:A0}(n:Nat),Vals xs us->Vals (xs.take n) (us.take n)
 |_,_,0,_=>.nil
 |_,_,_+1,.nil=>.nil
 |_,_,n+1,.cons r t=>.cons r (Vals.take n t)
theorem Vals.drop: ∀{xs:List V}{us:A0}(n:Nat),Vals xs us->Vals (xs.drop n) (us.drop n)
 |_,_,0,r=>r
 |_,_,_+1,.nil=>.nil
 |_,_,n+1,.cons _ t=>Vals.drop n t
theorem Vals.none_of: ∀{xs:List V}{us:A0}{i:Nat},Vals xs us->xs[i]? =none->us[i]? =none:=λ{xs us i} r e=>by have h1:=r.length;have a:=į.mp e;exact į.mpr #[0]
def RelO:Option V->Option ņ->Prop
 |some v,some u=>RelV v u
 |none,none=>True
 |_,_=>False
def KV{a:Type}:List (a×V)->List (a×ņ)->Prop:=Paired λ(p:a×V) (q:a×ņ)=>p.1=q.1/\RelV p.2 q.2
noncomputable def kV:Key->V
 |.inl i=>.int i
 |.inr x=>.str x
inductive HO where
 |lst (xs:List V)
 |tup (xs:List V)
 |dK (kvs:List (Key×V))|dT (kvs:List (List Key×V))
 |set (S:Int->Bool) (n:Nat)
 |ins (C dx:Addr) (fs:List (Str×V))
 |own (x:Addr)
 |xd (fs:List (Str×V))
 |met (f x:Addr)
 |rng (lo hi:Int)
 |frz (o:Obj) (u:HO)
 |tbl (ps:B0)
 |ext (φ:Heap->Prop)
variable{o:HO}
abbrev Hp:=Addr->Option HO
variable{H:Hp}
noncomputable def xY(H:Hp)(a:Addr)(o:HO):Hp:=λb=>if b=a then some o else H b
def zX{a:Addr}:xY H a o a=some o:=by unfold xY;rw[iP rfl]
def zL{a b:Addr}(h:b≠a):xY H a o b=H b:=by unfold xY;rw[iN h]
theorem Eb{a:Addr}{u:HO}:xY (xY H a o) a u=xY H a u:=by funext b;unfold xY;split<;>rfl
def zZ{a b:Addr}(h:H a=some o)(h':H b=none):a≠b:=by intro e;subst e;rw[h]at h';cases h'
section
variable(P:ň)(w:World)
def ObjOk(H:Hp)(h:Heap)(a:Addr):HO->Prop
 |.lst xs=>xs.length<=sizeLine/\ ∃(its:A0)(n:Nat),Vals xs its/\h.get? a=some {cls:=.type "list",data:=.seq its.toArray n}
 |.tup xs=>xs.length<=sizeLine/\ ∃its:List ņ,Vals xs its/\IsTup h a its.toArray
 |.dK kvs=>kvs.length<=sizeLine/\(a==sysModules)=false/\ ∃vs,KV kvs vs/\h.DictOf (bI P w) a vs
 |.dT kvs=>kvs.length<=sizeLine/\(a==sysModules)=false/\ ∃xs:List (List Key×Addr×ņ),
   Paired (λ(p:List Key×V) (q:List Key×Addr×ņ)=>p.1=q.1/\H q.2.1=some (.tup (p.1.map kV))/\RelV p.2 q.2.2) kvs xs/\
   ∃o es ep,h.get? a=some o/\o.ExactDict/\o.data=.dict es ep/\es.toList=xs.map (entryOfKey (tupleKind (bI P w)))/\(xs.map (·.1)).Nodup
 |.set S n=>h.SetOf (intKind P w) a S n
 |.ins C dx fs=>H dx=some (.own a)/\fs.length<=1000/\dx≠a/\h.get? a=some (PySem.W.instObj C dx)/\
   ∃mA,h.Ns1 dx mA/\(∀f,RelO (fs.lookup f) (mA f))/\PySem.Within mA (fs.map (·.1))
 |.own _=> ∃o,h.get? a=some o
 |.xd fs=> ∃mA,h.Ns1 a mA/\ ∀f,RelO (fs.lookup f) (mA f)
 |.rng lo hi=> ∃t u v,h.get? a=some {cls:=.type "range",data:=.fields #[.int lo t,.int hi u,.int 1 v]}
 |.frz o u=>h.get? a=some o/\ObjOk H h a u
 |.tbl ps=>h.get? a=some {cls:=.none,data:=.fields ps}
 |.met f x=>h.get? a=some (PySem.W.methodObj (.ref f) (.ref x))
 |.ext φ=>φ h/\(∃o,h.get? a=some o)/\ ∀h1 b:Heap,φ h1->(∀o,h1.get? a=some o->b.get? a=some o)->φ b
def HOk(H:Hp)(h:Heap):Prop:= ∀a o,H a=some o->ObjOk P w H h a o
end
section
variable{P:ň}{w:World}{H H':Hp}{h h':Heap}{a:Addr}{o:HO}
def ObjOk.lt(x:ObjOk P w H h a o):a<h.objs.size:=by
 cases o with
 |lst xs=>obtain⟨_,_,_,_,e⟩:=x;exact á e
 |tup xs=>obtain⟨_,_,_,p⟩:=x;exact p.lt
 |dK kvs=>obtain⟨_,_,_,_,o,_,_,e,_⟩:=x;exact á e
 |dT kvs=>obtain⟨_,_,_,_,o,_,_,e,_⟩:=x;exact á e
 |set S n=>obtain⟨o,_,_,_,e,_⟩:=x;exact á e
 |ins C dx fs=>obtain⟨_,_,_,e,_⟩:=x;exact á e
 |own y=>obtain⟨_,e⟩:=x;exact á e
 |xd fs=>obtain⟨_,⟨_,_,_,e,_⟩,_⟩:=x;exact á e
 |rng lo hi=>obtain⟨_,_,_,e⟩:=x;exact á e
 |frz ob u=>obtain⟨e,_⟩:=x;exact á e
 |tbl ps=>exact á x
 |met f y=>exact á x
 |ext φ=>obtain⟨_,⟨_,e⟩,_⟩:=x;exact á e
theorem Paired.mapP{α β:Type}{F G:α->β->Prop}: ∀{d:List α}{c:List β},Paired F d c->(∀a b,F a b->G a b)->Paired G d c
 |_,_,.nil,_=>.nil
 |_,_,.cons r t,f=>.cons (f _ _ r) (Paired.mapP t f)
def ObjOk.stay(x:ObjOk P w H h a o)(k: ∀b u,(b=a\/H b=some (.own a))->h.get? b=some u->h'.get? b=some u)
  (ho: ∀b,H b=some (.own a)->H' b=some (.own a)) (ht: ∀b xs,H b=some (.tup xs)->H' b=some (.tup xs)):ObjOk P w H' h' a o:=by
 induction o with
 |lst xs=>obtain⟨z,its,n,r,e⟩:=x;exact⟨z,its,n,r,k _ _ (.inl rfl) e⟩
 |tup xs=>obtain⟨z,its,r,ob,e,c⟩:=x;exact⟨z,its,r,ob,k _ _ (.inl rfl) e,c⟩
 |dK kvs=>obtain⟨z,y,vs,r,ob,es,ep,e,c⟩:=x;exact⟨z,y,vs,r,ob,es,ep,k _ _ (.inl rfl) e,c⟩
 |dT kvs=>
  obtain⟨z,y,xs,r,ob,es,ep,e,c⟩:=x;exact⟨z,y,xs,Paired.mapP r λp q z=>⟨z.1,ht _ _ z.2.1,z.2.2⟩,ob,es,ep,k _ _ (.inl rfl) e,c⟩
 |set S n=>obtain⟨ob,es,ep,t,e,c⟩:=x;exact⟨ob,es,ep,t,k _ _ (.inl rfl) e,c⟩
 |ins C dx fs=>
  obtain⟨d,z,ne,e,mA,⟨i,es,ep,e2,c⟩,r⟩:=x;exact⟨ho _ d,z,ne,k _ _ (.inl rfl) e,mA,⟨i,es,ep,k _ _ (.inr d) e2,c⟩,r⟩
 |own y=>obtain⟨ob,e⟩:=x;exact⟨ob,k _ _ (.inl rfl) e⟩
 |xd fs=>obtain⟨mA,⟨i,es,ep,e,c⟩,r⟩:=x;exact⟨mA,⟨i,es,ep,k _ _ (.inl rfl) e,c⟩,r⟩
 |rng lo hi=>obtain⟨t,u,v,e⟩:=x;exact⟨t,u,v,k _ _ (.inl rfl) e⟩
 |frz ob u ih=>obtain⟨e,q⟩:=x;exact⟨k _ _ (.inl rfl) e,ih q⟩
 |tbl ps=>
  have e:=x;exact k a _ (.inl rfl) e
 |met f y=>
  have e:h.get? a=some _:=x;show h'.get? a=some _;exact k a _ (.inl rfl) e
 |ext φ=>obtain⟨p,⟨o,e⟩,st⟩:=x;exact⟨st _ _ p λo q=>k _ _ (.inl rfl) q,⟨o,k _ _ (.inl rfl) e⟩,st⟩
def HOk.lt(x:HOk P w H h)(e:H a=some o):a<h.objs.size:=(x a o e).lt
def HOk.fresh(x:HOk P w H h)(e:h.objs.size<=a):H a=none:=by
 cases q:H a with
 |none=>rfl
 |some u=>exact absurd (é (x.lt q) e) (ĕ _)
def HOk.kept(x:HOk P w H h)(k: ∀b u,h.get? b=some u->h'.get? b=some u):HOk P w H h':=λa o e=>
 (x a o e).stay (λb u _ q=>k b u q) (λ_ q=>q) λ_ _ q=>q
def HOk.laid(x:HOk P w H h)(k: ∀b u,h.get? b=some u->h'.get? b=some u)(j:h.objs.size<=a)(new:ObjOk P w (xY H a o) h' a o):HOk P w (xY H a o) h':=λb u e=>by
 have i:=x.fresh j;by_cases d:b=a
 .subst d;rw[zX]at e;cases e;exact new
 .rw[zL d]at e;exact(x b u e).stay (λc v _ q=>k c v q) (λc q=>by rw[zL (zZ q i)];exact q) λc xs q=>by rw[zL (zZ q i)];exact q
end
def Rd(H:Hp)(a:Addr)(u:HO):Prop:=H a=some u\/ ∃o,H a=some (.frz o u)
def Rd.ok{P:ň}{w:World}{h:Heap}{a:Addr}{u:HO}(r:Rd H a u)(x:HOk P w H h):ObjOk P w H h a u:=by
 rcases r with r|⟨o,r⟩
 .exact x a u r
 .obtain⟨_,q⟩:=x a _ r;exact q
def zDI:Option HO->Prop
 |some (.lst _)=>True
 |some (.dK _)=>True
 |some (.dT _)=>True
 |some (.set _ _)=>True
 |some (.ins _ _ _)=>True
 |some (.ext _)=>True
 |_=>False
section
variable{P:ň}{w:World}{H:Hp}{h h':Heap}{x e:Addr}{o':HO}
theorem HOk.write(ok:HOk P w H h)(m:zDI (H x))(p:e=x\/H e=some (.own x))(k: ∀b u,b≠e->h.get? b=some u->h'.get? b=some u)(o: ∃u,h'.get? e=some u)
  (new:ObjOk P w (xY H x o') h' x o'):HOk P w (xY H x o') h':=λb u q=>by
 have d: ∀c y,H c=some (.own y)->c≠x:=λc y r z=>by subst z;rw[r]at m;exact m
 have i: ∀c xs,H c=some (.tup xs)->c≠x:=λc xs r z=>by subst z;rw[r]at m;exact m
 by_cases n:b=x
 .subst n;rw[zX]at q;cases q;exact new
 .rw[zL n]at q;by_cases a:b=e
  .have s:H b=some (.own x):=by
    rcases p with z|z
    .exact absurd (a.trans z) n
    .rw[a];exact z
   rw[q]at s;cases s;obtain⟨v,A⟩:=o;exact⟨v,by rw[a];exact A⟩
  .refine(ok b u q).stay (λc v j r=>k c v ?_ r) (λc r=>by rw[zL (d c b r)];exact r) λc xs r=>by rw[zL (i c xs r)];exact r
   rcases j with rfl|j
   .exact a
   .rintro rfl;rcases p with z|z
    .exact d c b j z
    .rw[j]at z;cases z;exact n rfl
end
structure Un(fs ex:B9)(H H':Hp)(h h':Heap):Prop where
 keep: ∀b o,h.get? b=some o->H b=none->b∉fs->b∉ex->h'.get? b=some o
 slot: ∀b o,h.get? b=some o->H b=none->b∈fs->b∉ex-> ∃sl,h'.get? b=some {o with slots:=sl}
 free: ∀b o,h.get? b=some o->H b=none->b∉ex->H' b=none
 there: ∀b o,h.get? b=some o->b∉ex-> ∃o',h'.get? b=some o'
 tups: ∀b xs,H b=some (.tup xs)->H' b=some (.tup xs)
 frzs: ∀b o u,H b=some (.frz o u)->H' b=some (.frz o u)
 tbls: ∀b ps,H b=some (.tbl ps)-> ∃more,H' b=some (.tbl (ps++more))
section
variable{fs ex:B9}{H H1:Hp}{h h1 h':Heap}{a x e:Addr}{o:HO}
def Un.any(u:Un fs ex H H1 h h1){b:Addr}{ob:Obj}(q:h.get? b=some ob)(n:H b=none)(c:b∉ex): ∃sl,h1.get? b=some {ob with slots:=sl}:=by
 by_cases a:b∈fs
 .exact u.slot b ob q n a c
 .exact⟨_,u.keep b ob q n a c⟩
def Un.kept(k: ∀b u,h.get? b=some u->h'.get? b=some u):Un fs ex H H h h':=
 ⟨λb ob q _ _ _=>k b ob q,λb ob q _ _ _=>⟨_,k b ob q⟩,λ_ _ _ n _=>n,λb ob q _=>⟨ob,k b ob q⟩,λ_ _ q=>q,λ_ _ _ q=>q,λ_ ps q=>⟨#[],by rw[q];simp⟩⟩
def Un.refl:Un fs ex H H h h:=Un.kept λ_ _ q=>q
def Un.laid(k: ∀b u,h.get? b=some u->h'.get? b=some u)(hp:h.objs.size<=a)(hn:H a=none):Un fs ex H (xY H a o) h h' where
 keep:=λb u q _ _ _=>k b u q
 slot:=λb u q _ _ _=>⟨_,k b u q⟩
 free:=λb u q n _=>by rw[zL (â (é (á q) hp))];exact n
 there:=λb u q _=>⟨u,k b u q⟩
 tups:=λb xs q=>by rw[zL (zZ q hn)];exact q
 frzs:=λb u xs q=>by rw[zL (zZ q hn)];exact q
 tbls:=λb ps q=>⟨#[],by rw[zL (zZ q hn),q];simp⟩
def Un.write(c:zDI (H x))(p:e=x\/H e=some (.own x))(k: ∀b u,b≠e->h.get? b=some u->h'.get? b=some u)(i: ∃u,h'.get? e=some u):Un fs ex H (xY H x o) h h':=by
 have m: ∀b,H b=none->b≠x:=λb n z=>by subst z;rw[n]at c;exact c
 have j: ∀b,H b=none->b≠e:=λb n z=>by
  subst z;rcases p with r|r
  .exact m b n r
  .rw[n]at r;cases r
 have d: ∀b u,H b=some u-> ¬zDI (some u)->b≠x:=λb u q s z=>by subst z;rw[q]at c;exact s c
 refine⟨λb u q n _ _=>k b u (j b n) q,λb u q n _ _=>⟨_,k b u (j b n) q⟩,λb u q n _=>by rw[zL (m b n)];exact n,λb u q _=>?_,
  λb xs q=>by rw[zL (d b _ q λz=>z)];exact q,λb u xs q=>by rw[zL (d b _ q λz=>z)];exact q,λb ps q=>⟨#[],by rw[zL (d b _ q λz=>z),q];simp⟩⟩
 by_cases a:b=e
 .subst a;exact i
 .exact⟨u,k b u a q⟩
end
noncomputable def trk(h:Heap)(H:Hp):List Addr:=(List.range h.objs.size).filter λa=>(H a).isSome
def Ii(h:Heap)(H:Hp):Heap:=PySem.W.hideAll h (trk h H)
def Ij(h:Heap)(H:Hp):(Ii h H).objs.size=h.objs.size:=PySem.W.hideAll_size _ _
def Ml{h:Heap}{b:Addr}{o:Obj}(e:h.get? b=some o)(n:H b=none):(Ii h H).get? b=some o:=
 PySem.W.hideAll_get _ e λa=>by have q:=(å.mp a).2;rw[n]at q;simp at q
def Tt{h:Heap}{b:Addr}{o:Obj}(e:(Ii h H).get? b=some o):h.get? b=some o/\H b=none:=by
 have a:=PySem.W.of_hideAll _ e;refine⟨a,?_⟩
 cases q:H b with
 |none=>rfl
 |some x=>
  have c:b∈trk h H:=å.mpr ⟨ò.mpr (á a),by simp[q]⟩;have z:(Ii h H).get? b=none:=PySem.W.hideAll_none _ c;rw[z]at e;cases e
noncomputable def Tu(g h:Heap)(L:Addr):List (Addr×Obj):=(List.range h.objs.size).filterMap λa=>if a=L\/(g.get? a).isSome=true then none else(h.get? a).map λo=>(a,o)
def rest(g h:Heap)(L d:Addr):List (Addr×Obj):=(Tu g h L).filter λp=>decide (p.1≠d)
structure Mod(K:Q0)(mg:L0)(base:Heap):Prop where
 kin:K.In base
 glob:base.Ns mainGlobals mg
 blt: ∃mb,base.Ns builtinsNs mb/\ ∀x:Str,x≠"__name__"->mb x=bootBuiltins x
 nolimit:base.NoLimit
structure Cx where
 prog:ň
 w:World
 K:PySem.W.Frag
 mg:Str->Option ņ
 base:Heap
 A:Ň
 N:List Str
 s₀:Ņ
 H₀:Hp
 env:Env
 outer:List Env
 stack:List Env
 ex:List Addr
 fn:Str->Bool
 calm:Bool
 pn:List (Addr×Obj)
 xe:VP
variable{X:Cx}
noncomputable def Ik(l:List Env):List Addr:=l.filterMap (·.frame)
abbrev Cx.fs(X:Cx):List Addr:=Ik X.outer
def zDT(sc:Scope)(x:Str):Prop:=sc.names.lookup x=some .local\/sc.names.lookup x=some .cell\/sc.names.lookup x=some .free
def Loc(sc:Scope)(x:Str):Prop:=sc.names.lookup x=some .local\/sc.names.lookup x=some .cell
def Look(a:Env)(h:Heap)(m:L0)(x:Str)(u:ņ):Prop:=
 (a.kindOf x=some .local/\m x=some u)\/((a.kindOf x=some .cell\/a.kindOf x=some .free)/\ ∃c,a.cells.lookup x=some c/\h.IsCell c (some u))
structure Cx.Ok(X:Cx):Prop where
 mod:Mod X.K X.mg X.base
 kind:X.env.scope.kind=.function
 glob:X.env.globals=mainGlobals
 blt:X.env.builtins=builtinsNs
 above:X.s₀.heap.objs.size<=X.env.locals
 inj: ∀x y c,X.env.cells.lookup x=some c->X.env.cells.lookup y=some c->x=y
 has: ∀x,(X.env.kindOf x=some .cell\/X.env.kindOf x=some .free)-> ∃c,X.env.cells.lookup x=some c
 cab: ∀x c,X.fn x=true->X.env.cells.lookup x=some c->X.s₀.heap.objs.size<=c
 hd:X.calm=true->X.A.handled=none
 frames:X.A.frames=some X.stack
 stk:X.stack=X.outer\/(X.stack=X.env::X.outer/\X.env.frame=some X.env.locals)
 exf: ∀b∈X.ex,b≠X.env.locals/\ ∀x c,X.env.cells.lookup x=some c->c≠b
 bs: ∀b o,X.base.get? b=some o->X.s₀.heap.get? b=some o/\X.H₀ b=none
 bsz:X.base.objs.size<=X.s₀.heap.objs.size
 noex: ∀b o,X.base.get? b=some o->b∉X.ex
 exfs: ∀b∈X.ex,b∉X.fs
 funs:X.s₀.heap.FunFrames X.base X.outer
 frf: ∀b∈X.fs,X.H₀ b=none
structure Inv(X:Cx)(pins:M0)(σ:List (Option V))(H:Hp)(s:Ņ):Prop where
 ok:X.Ok
 os:s.os=X.s₀.os
 bare:AllBare s.gens
 base:Un X.fs X.ex X.H₀ H X.s₀.heap s.heap
 loc: ∃m,s.heap.Ns X.env.locals m/\ ∀(i:Nat)(x:Str)(v:V),X.N[i]? =some x->σ[i]? =some (some v)->zDT X.env.scope x-> ∃u,RelV v u/\Look X.env s.heap m x u
 cell: ∀x c,X.env.cells.lookup x=some c-> ∃v,s.heap.IsCell c v
 free:H X.env.locals=none
 freeC: ∀x c,X.env.cells.lookup x=some c->H c=none
 pin: ∀p∈X.pn++pins,s.heap.get? p.1=some p.2/\H p.1=none/\p.1≠X.env.locals/\p.1∉X.fs/\ ∀v,p.2.data≠.cell v
 hok:HOk X.prog X.w H s.heap
 len:σ.length=X.N.length
section
variable{X:Cx}{pins:M0}{σ:List (Option V)}{H H':Hp}{s:Ņ}{h':Heap}
def Cx.Ok.nofr(ok:X.Ok){b:Addr}{o:Obj}(e:X.base.get? b=some o):b∉X.fs:=λa=>by have:=(ok.funs.mem a).1;rw[e]at this;cases this
def Inv.bs(I:↑2): ∀b o,X.base.get? b=some o->s.heap.get? b=some o/\H b=none:=λb o e=>
 ⟨I.base.keep b o (I.ok.bs b o e).1 (I.ok.bs b o e).2 (I.ok.nofr e) (I.ok.noex b o e),I.base.free b o (I.ok.bs b o e).1 (I.ok.bs b o e).2 (I.ok.noex b o e)⟩
def Inv.bk(I:↑2): ∀b o,X.base.get? b=some o->s.heap.get? b=some o:=λb o e=>(I.bs b o e).1
def Inv.mod(I:↑2):Mod X.K X.mg X.base:=I.ok.mod
def Inv.kIn(I:↑2):X.K.In s.heap:=I.ok.mod.kin.keeps I.bk
def Inv.lt(I:↑2):X.env.locals<s.heap.objs.size:=let ⟨_,a,_⟩:=I.loc;a.lt
def Inv.sz(I:↑2):X.s₀.heap.objs.size<=s.heap.objs.size:=ì I.ok.above (le_of_lt I.lt)
def Inv.nofs(I:↑2){a:Addr}(h:↑1<=a):a∉X.fs:=λb=>by obtain⟨_,o,c,_⟩:=I.ok.funs.mem b;exact absurd (é (á c) (ì I.sz h)) (ĕ _)
def Inv.cne(I:↑2): ∀x c,X.env.cells.lookup x=some c->c≠X.env.locals:=λx c e z=>by obtain⟨v,o,d,h⟩:=I.cell x c e;obtain⟨m,⟨o',es,ep,b,a,_⟩,_⟩:=I.loc;rw[z,b]at d;cases d;rw[a]at h;cases h
def Inv.funs(I:↑2):s.heap.FunFrames X.base X.outer:=by
 have all: ∀(l:List Env),(∀b∈Ik l,b∈X.fs)->X.s₀.heap.FunFrames X.base l->s.heap.FunFrames X.base l:=by
  intro l
  induction l with
  |nil=>intro _ _;trivial
  |cons env r ih=>
   intro hs k;obtain⟨i,⟨L,o,d,j,m,h⟩,n⟩:=k;have c:=hs L (by unfold Ik;rw[filterMap_cons,d];exact mF0);obtain⟨sl,e⟩:=I.base.slot L o m (I.ok.frf L c) c λz=>I.ok.exfs L z c;exact⟨i,⟨L,_,d,j,e,h⟩,ih (λb a=>hs b (by unfold Ik;rw[filterMap_cons,d];exact mO _ a)) n⟩
 exact all X.outer (λ_ a=>a) I.ok.funs
def Inv.stack(I:↑2):s.heap.FunFrames X.base X.stack:=by
 rcases I.ok.stk with e|⟨e,hf⟩
 .rw[e];exact I.funs
 .rw[e];obtain⟨m,a,_⟩:=I.loc;refine .cons (by rw[I.ok.kind];decide) hf a ?_ I.funs;exact Heap.get?_none_of_le (ì I.ok.bsz I.ok.above)
def Inv.stkSub(I:↑2): ∀b∈Ik X.stack,b∈X.env.locals::X.fs:=λb a=>by
 rcases I.ok.stk with e|⟨e,hf⟩
 .rw[e]at a;exact mO _ a
 .rw[e]at a;unfold Ik at a;rw[filterMap_cons,hf]at a;exact a
def Inv.stkFree(I:↑2): ∀b∈Ik X.stack,H b=none:=λb a=>by
 rcases mC.mp (I.stkSub b a)with e|a
 .rw[e];exact I.free
 .obtain⟨_,o,c,_⟩:=I.ok.funs.mem a;exact I.base.free b o c (I.ok.frf b a) λz=>I.ok.exfs b z a
def Inv.step{K:Array GenState}{O:Drawn}{ch:B9}(I:↑2)
  (hch:↑32)
  (keep: ∀b o,b≠X.env.locals->b∉X.fs->b∉ch->s.heap.get? b=some o->H b=none->h'.get? b=some o)
  (slot: ∀b o,b≠X.env.locals->b∈X.fs->b∉ch->s.heap.get? b=some o->H b=none-> ∃sl,h'.get? b=some {o with slots:=sl}) (free: ∀b o,b∉ch->s.heap.get? b=some o->H b=none->H' b=none)
  (there: ∀b o,b∉ch->s.heap.get? b=some o-> ∃o',h'.get? b=some o')
  (tups: ∀b xs,H b=some (.tup xs)->H' b=some (.tup xs)) (frzs: ∀b o u,H b=some (.frz o u)->H' b=some (.frz o u)) (tbls: ∀b ps,H b=some (.tbl ps)-> ∃C,H' b=some (.tbl (ps++C)))
  (ns: ∀m,s.heap.Ns X.env.locals m->h'.Ns X.env.locals m) (hok:HOk X.prog X.w H' h') (hg:AllBare K):
  Inv X pins σ H' {s with heap:=h',gens:=K,drawn:=O,toks:=t'}:=by
 have D: ∀b o,X.s₀.heap.get? b=some o->b≠X.env.locals:=λb o e=>â (é (á e) I.ok.above)
 have y: ∀b o,X.s₀.heap.get? b=some o->b∉X.ex->b∉ch:=λb o e a A=>by
  rcases (hch b A).1 with z|z
  .exact a z
  .exact absurd (é (á e) z) (ĕ _)
 have j: ∀x c,X.env.cells.lookup x=some c-> ∀v,s.heap.IsCell c v->h'.IsCell c v:=λx c e v ⟨o,B,E⟩=>by
  have h:=λz=>(hch c z).2.2.1 x c e rfl;by_cases G:c∈X.fs
  .obtain⟨sl,q⟩:=slot c o (I.cne x c e) G h B (I.freeC x c e);exact⟨_,q,E⟩
  .exact⟨o,keep c o (I.cne x c e) G h B (I.freeC x c e),E⟩
 refine⟨I.ok,I.os,hg,⟨λb o e n A a=>?_,λb o e n A a=>?_,λb o e n a=>?_,λb o e a=>?_,λb xs e=>tups b xs (I.base.tups b xs e),λb o xs e=>frzs b o xs (I.base.frzs b o xs e),λb ps e=>?_⟩,?_,λx c e=>?_,?_,λx c e=>?_,λp J=>?_,hok,I.len⟩
 .exact keep b o (D b o e) A (y b o e a) (I.base.keep b o e n A a) (I.base.free b o e n a)
 .obtain⟨sl,e1⟩:=I.base.slot b o e n A a;obtain⟨F,e2⟩:=slot b _ (D b o e) A (y b o e a) e1 (I.base.free b o e n a);exact⟨F,e2⟩
 .obtain⟨o',e1⟩:=I.base.there b o e a;exact free b o' (y b o e a) e1 (I.base.free b o e n a)
 .obtain⟨o',e1⟩:=I.base.there b o e a;exact there b o' (y b o e a) e1
 .obtain⟨Q,e1⟩:=I.base.tbls b ps e;obtain⟨P,e2⟩:=tbls b _ e1;exact⟨_,by rw[e2,Array.append_assoc]⟩
 .obtain⟨m,M,N⟩:=I.loc;refine⟨m,ns m M,λi x v e1 e2 L=>?_⟩;obtain⟨u,r,l⟩:=N i x v e1 e2 L;refine⟨u,r,?_⟩;rcases l with l|⟨k,c,e,z⟩
  .exact .inl l
  .exact .inr ⟨k,c,e,j x c e _ z⟩
 .obtain⟨v,z⟩:=I.cell x c e;exact⟨v,j x c e v z⟩
 .obtain⟨m,⟨o,_,_,B,_⟩,_⟩:=I.loc;exact free _ o (λz=>(hch _ z).2.1 rfl) B I.free
 .obtain⟨v,o,B,E⟩:=I.cell x c e;exact free c o (λz=>(hch c z).2.2.1 x c e rfl) B (I.freeC x c e)
 .obtain⟨e,n,ne,nf,d⟩:=I.pin p J;have h:=λz=>(hch p.1 z).2.2.2 p J rfl;exact⟨keep p.1 p.2 ne nf h e n,free p.1 p.2 h e n,ne,nf,d⟩
def Inv.un(I:Inv X pins σ H s)(u:Un X.fs [] H H' s.heap h')(h:HOk X.prog X.w H' h'):Inv X pins σ H' {s with heap:=h',toks:=t'}:=by obtain⟨m,⟨o,es,ep,j,r⟩,_⟩:=id I.loc;obtain⟨sl,p⟩:=u.any j I.free (by simp);exact I.step (ch:=[]) (λ_ z=>nomatch z) (λb o _ d _ e n=>u.keep b o e n d (by simp)) (λb o _ d _ e n=>u.slot b o e n d (by simp)) (λb o _ e n=>u.free b o e n (by simp)) (λb o _ e=>u.there b o e (by simp)) u.tups u.frzs u.tbls (λv k=>by obtain⟨o',i,c,a,q⟩:=k;rw[j]at a;cases a;exact⟨_,i,c,p,q⟩) h I.bare
def Inv.call{q:Array GenState}{C:Drawn}{ch:B9}(I:↑2)(u:Un (Ik X.stack) ch H H' s.heap h')(i:HOk X.prog X.w H' h')(y:AllBare q)
  (hch:↑32):
  Inv X pins σ H' {s with heap:=h',gens:=q,drawn:=C,toks:=t'}:=by
 obtain⟨m,⟨o,es,ep,v,r⟩,_⟩:=id I.loc;obtain⟨sl,j⟩:=u.any v I.free λz=>(hch _ z).2.1 rfl;exact I.step hch (λb o j B a e n=>u.keep b o e n (λz=>(mC.mp (I.stkSub b z)).elim j B) a) (λb o _ _ a e n=>u.any e n a) (λb o a e n=>u.free b o e n a) (λb o a e=>u.there b o e a) u.tups u.frzs u.tbls (λE A=>by obtain⟨o',k,h,d,D⟩:=A;rw[v]at d;cases d;exact⟨_,k,h,j,D⟩) i y
def Inv.turned{it:Addr}(I:↑2)(k: ∀b o,b≠it->s.heap.get? b=some o->h'.get? b=some o)(w:H it=none)(h:it≠X.env.locals)
  (h1:it∈X.ex\/X.s₀.heap.objs.size<=it) (h2: ∀x c,X.env.cells.lookup x=some c->c≠it) (h3: ∀p∈X.pn++pins,p.1≠it):Inv X pins σ H {s with heap:=h',toks:=t'}:=by
 have d: ∀b u,H b=some u->b≠it:=λb u e z=>by rw[z,w]at e;cases e
 refine I.step (ch:=[it]) (λb j=>?_) (λb o _ _ a e _=>k b o (λz=>a (by simp[z])) e) (λb o _ _ a e _=>⟨_,k b o (λz=>a (by simp[z])) e⟩) (λ_ _ _ _ n=>n)
  (λb o a e=>⟨o,k b o (λz=>a (by simp[z])) e⟩) (λ_ _ e=>e) (λ_ _ _ e=>e) (λb ps e=>⟨#[],by rw[e];simp⟩) (λm i=>?_) (λb u e=>?_) I.bare
 .have e:=by simpa using j
  subst e;exact⟨h1,h,h2,h3⟩
 .obtain⟨o,es,ep,y,r⟩:=i;exact⟨o,es,ep,k _ o (Ne.symm h) y,r⟩
 .refine(I.hok b u e).stay (λc v a q=>k c v ?_ q) (λ_ q=>q) λ_ _ q=>q;rcases a with z|z
  .rw[z];exact d b u e
  .exact d c _ z
def Inv.tok(I:↑2)(t:Nat):Inv X pins σ H {s with toks:=t}:=I.un Un.refl I.hok
def Inv.kept(I:↑2)(k: ∀b u,s.heap.get? b=some u->h'.get? b=some u):Inv X pins σ H {s with heap:=h',toks:=t'}:=I.un (Un.kept k) (I.hok.kept k)
def Inv.laid{a:Addr}(I:↑2)(k: ∀b u,s.heap.get? b=some u->h'.get? b=some u)(c:↑1<=a)(new:ObjOk X.prog X.w (xY H a o) h' a o):
  Inv X pins σ (xY H a o) {s with heap:=h',toks:=t'}:=I.un (Un.laid k c (I.hok.fresh c)) (I.hok.laid k c new)
def Inv.write{x e:Addr}(I:↑2)(c:zDI (H x))(d:e=x\/H e=some (.own x))(k: ∀b u,b≠e->s.heap.get? b=some u->h'.get? b=some u)(a: ∃u,h'.get? e=some u)
  (new:ObjOk X.prog X.w (xY H x o) h' x o):Inv X pins σ (xY H x o) {s with heap:=h',toks:=t'}:=I.un (Un.write c d k a) (I.hok.write c d k a new)
def Inv.pins_of{a:M0}(I:↑2)(h: ∀p∈a,s.heap.get? p.1=some p.2/\H p.1=none/\p.1≠X.env.locals/\p.1∉X.fs/\ ∀v,p.2.data≠.cell v):Inv X a σ H s:=
 ⟨I.ok,I.os,I.bare,I.base,I.loc,I.cell,I.free,I.freeC,λp b=>(æ.mp b).elim (λz=>I.pin p (Ď _ z)) (h p),I.hok,I.len⟩
def WV{N:K0}(c:N.Nodup){i j:Nat}{x:Str}(a:N[i]? =some x)(b:N[j]? =some x):i=j:=by obtain⟨h1,e1⟩:=gS.mp a;obtain⟨d,e2⟩:=gS.mp b;exact(getElem_inj c).mp (e1.trans e2.symm)
abbrev Q2(X:Cx)(x:Str):Prop:=X.fn x=true\/X.env.scope.names.lookup x=some .local
def QV{M:Model}{A:Ň}{i:Nat}{x:Str}{u:ņ}(I:↑2)(hN:X.N.Nodup)(hi:X.N[i]? =some x)(D:Loc X.env.scope x)(r:RelV v u)
  (h: ∀s',Inv X pins (σ.set i (some v)) H s'->(∃a,Heap.SameBut a s.heap s'.heap/\(a=X.env.locals\/X.env.cells.lookup x=some a))->Q () s') (hf:Q2 X x:=by first |exact .inl rfl|exact .inr rfl|assumption):wpAny M A (storeName X.env x u) Q E s:=by
 obtain⟨m,hn,hl⟩:=id I.loc;have T:(X.env.scope.kind==.class || (X.env.scope.kind==.module&&X.env.locals !=X.env.globals))=false:=by rw[I.ok.kind];rfl
 have G:i<σ.length:=by rw[I.len];exact(gS.mp hi).1
 have cne:=I.cne
 have B: ∀{a:Addr}{h':Heap},(∃o,s.heap.get? a=some o/\H a=none)->Heap.SameBut a s.heap h'->HOk X.prog X.w H h':=λ{a h'} ha hs b ob e=>by
  obtain⟨_,_,F⟩:=ha;refine(I.hok b ob e).stay (λc W C q=>(hs.2 c ?_).trans q) (λ_ q=>q) λ_ _ q=>q;rintro rfl;rcases C with rfl|C
  .rw[F]at e;cases e
  .rw[F]at C;cases C
 rcases D with hk|hk
 .refine wpAny_storeName_local hk hn (λh' Z hs=>?_) T;obtain⟨oL,_,_,aa,_⟩:=id hn;refine h _ ⟨I.ok,I.os,I.bare,⟨λb o e n J D=>?_,λb o e n J D=>?_,I.base.free,λb o e D=>?_,I.base.tups,I.base.frzs,I.base.tbls⟩,⟨_,Z,λj y v' e1 e2 e3=>?_⟩,λy c e=>?_,I.free,I.freeC,λp hp=>?_,B ⟨oL,aa,I.free⟩ hs,by simpa using I.len⟩ ⟨_,hs,.inl rfl⟩
  .exact(hs.2 b (â (é (á e) I.ok.above))).trans (I.base.keep b o e n J D)
  .obtain⟨sl,e1⟩:=I.base.slot b o e n J D;exact⟨sl,(hs.2 b (â (é (á e) I.ok.above))).trans e1⟩
  .obtain⟨o',e1⟩:=I.base.there b o e D;exact⟨o',(hs.2 b (â (é (á e) I.ok.above))).trans e1⟩
  .by_cases L:j=i
   .subst L;rw[hi]at e1;cases e1;rw[ô G]at e2;cases e2;exact⟨u,r,.inl ⟨hk,by simp⟩⟩
   .rw[í (Ne.symm L)]at e2;obtain⟨u',r',q⟩:=hl j y v' e1 e2 e3;refine⟨u',r',?_⟩;rcases q with⟨k,e⟩|⟨k,c,e,z⟩
    .refine .inl ⟨k,?_⟩;have:y≠x:=λe=>L (WV hN e1 (e▸hi));simp[this,e]
    .exact .inr ⟨k,c,e,z.sameBut hs (cne y c e)⟩
  .obtain⟨W,z⟩:=I.cell y c e;exact⟨W,z.sameBut hs (cne y c e)⟩
  .obtain⟨e,n,ne,nf,d⟩:=I.pin p hp;exact⟨(hs.2 p.1 ne).trans e,n,ne,nf,d⟩
 .have K:X.fn x=true:=by
   rcases hf with z|z
   .exact z
   .rw[z]at hk;cases hk
  obtain⟨c,C⟩:=I.ok.has x (.inl hk);obtain⟨W,z⟩:=I.cell x c C;refine wpAny_storeName_cell I.ok.kind hk C z (λh' O hs=>?_);obtain⟨oc,P,S⟩:=id z;refine h {s with heap:=h'} ⟨I.ok,I.os,I.bare,⟨λb o e n J D=>?_,λb o e n J D=>?_,I.base.free,λb o e D=>?_,I.base.tups,I.base.frzs,I.base.tbls⟩,⟨m,hn.sameBut hs (Ne.symm (cne x c C)),λj y v' e1 e2 e3=>?_⟩,λy Y e=>?_,I.free,I.freeC,λp hp=>?_,B ⟨oc,P,I.freeC x c C⟩ hs,by simpa using I.len⟩ ⟨c,hs,.inr C⟩
  .exact(hs.2 b (â (é (á e) (I.ok.cab x c K C)))).trans (I.base.keep b o e n J D)
  .obtain⟨sl,e1⟩:=I.base.slot b o e n J D;exact⟨sl,(hs.2 b (â (é (á e) (I.ok.cab x c K C)))).trans e1⟩
  .obtain⟨o',e1⟩:=I.base.there b o e D;exact⟨o',(hs.2 b (â (é (á e) (I.ok.cab x c K C)))).trans e1⟩
  .by_cases L:j=i
   .subst L;rw[hi]at e1;cases e1;rw[ô G]at e2;cases e2;exact⟨u,r,.inr ⟨.inl hk,c,C,O⟩⟩
   .rw[í (Ne.symm L)]at e2;obtain⟨u',r',q⟩:=hl j y v' e1 e2 e3;refine⟨u',r',?_⟩;rcases q with q|⟨k,Y,e,z'⟩
    .exact .inl q
    .refine .inr ⟨k,Y,e,z'.sameBut hs ?_⟩;rintro rfl;exact L (WV hN e1 (I.ok.inj _ _ _ e C▸hi))
  .by_cases U:Y=c
   .subst U;exact⟨_,O⟩
   .obtain⟨w2,z2⟩:=I.cell y Y e;exact⟨w2,z2.sameBut hs U⟩
  .obtain⟨e,n,ne,nf,d⟩:=I.pin p hp;refine⟨(hs.2 p.1 ?_).trans e,n,ne,nf,d⟩;intro q;rw[q,P]at e;have q':oc=p.2:=ã e;exact d W (by rw[<-q'];exact S)
def WW{M:Model}{A:Ň}{i:Nat}{x:Str}{u:ņ}(I:↑2)(b:X.N.Nodup)(hi:X.N[i]? =some x)(c:Loc X.env.scope x)(r:RelV v u)
  (h: ∀s',Inv X pins (σ.set i (some v)) H s'->Q () s') (hf:Q2 X x:=by first |exact .inl rfl|exact .inr rfl|assumption):wpAny M A (storeName X.env x u) Q E s:=
 QV I b hi c r (λs' a _=>h s' a) hf
def Inv.call'{s':Ņ}{ch:B9}(I:↑2)(h:s'.os=s.os)(u:Un (Ik X.stack) ch H H' s.heap s'.heap)(a:HOk X.prog X.w H' s'.heap)(d:AllBare s'.gens)
  (hch:↑32):Inv X pins σ H' s':=by
 obtain⟨h',i,j,t',o'⟩:=s';have e:=h;subst e;exact I.call u a d hch
end
abbrev XK:=Value->Option Addr->Hp->Prop
abbrev St:=List (Option V)
variable{σ:St}
abbrev VK:=V->Hp->Prop
abbrev TE:=St->Hp->VK->Prop
abbrev TT:=St->Hp->(Bool->Hp->Prop)->Prop
abbrev TA:=St->Hp->(List V->Hp->Prop)->Prop
structure Ends where
 nx:St->Hp->Prop
 rt:VK
 bk:St->Hp->Prop:=λ_ _=>False
 ct:St->Hp->Prop:=λ_ _=>False
abbrev TS:=Ends->St->Hp->Prop
def EP(X:Cx)(pins:M0)(σ:St)(Q:VK)(u:ņ)(s':Ņ):Prop:= ∃v H',Inv X pins σ H' s'/\RelV v u/\Q v H'
def TP(X:Cx)(pins:M0)(σ:St)(Q:Bool->Hp->Prop)(b:Bool)(s':Ņ):Prop:= ∃H',Inv X pins σ H' s'/\Q b H'
def AP(X:Cx)(pins:M0)(σ:St)(Q:List V->Hp->Prop)(us:A0)(s':Ņ):Prop:= ∃vs H',Inv X pins σ H' s'/\Vals vs us/\Q vs H'
def SP(X:Cx)(pins:M0)(D:Ends)(f:Flow)(s':Ņ):Prop:=
 match f with
 |.next=> ∃a H',Inv X pins a H' s'/\D.nx a H'
 |.brk=> ∃a H',Inv X pins a H' s'/\D.bk a H'
 |.cont=> ∃a H',Inv X pins a H' s'/\D.ct a H'
 |.ret u=> ∃v a H',Inv X pins a H' s'/\RelV v u/\D.rt v H'
def PE(X:Cx)(e:Expr)(t:TE):Prop:=
 ∀(pins:M0)(s:Ņ)(σ:St)(H:Hp)(Q:VK),Inv X pins σ H s->t σ H Q->wpAny ↑6 X.A (eval e X.env) (EP X pins σ Q) X.xe s
def PT(X:Cx)(e:Expr)(t:TT):Prop:=
 ∀(pins:M0)(s:Ņ)(σ:St)(H:Hp)(Q:Bool->Hp->Prop),Inv X pins σ H s->t σ H Q->wpAny ↑6 X.A (isTrue e X.env (eval e X.env)) (TP X pins σ Q) X.xe s
def PW(X:Cx)(e:Expr)(t:TT):Prop:=
 ∀(a:Sem ņ)(pins:M0)(s:Ņ)(σ:St)(H:Hp)(Q:Bool->Hp->Prop),Inv X pins σ H s->t σ H Q->wpAny ↑6 X.A (isTrue e X.env a) (TP X pins σ Q) X.xe s
def PW.pt{e:Expr}{t:TT}(h:PW X e t):PT X e t:=h _
def PA(X:Cx)(es:P0)(t:TA):Prop:=
 ∀(pos:Pos)(pins:M0)(s:Ņ)(σ:St)(H:Hp)(Q:List V->Hp->Prop),Inv X pins σ H s->t σ H Q->wpAny ↑6 X.A (spliced (backTo pos (starEach es X.env))) (AP X pins σ Q) X.xe s
def PS(X:Cx)(st:Stmt)(t:TS):Prop:=
 ∀(pins:M0)(s:Ņ)(σ:St)(H:Hp)(D:Ends),Inv X pins σ H s->t D σ H->wpAny ↑6 X.A (exec st X.env) (SP X pins D) X.xe s
def PSs(X:Cx)(st:List Stmt)(t:TS):Prop:=
 ∀(pins:M0)(s:Ņ)(σ:St)(H:Hp)(D:Ends),Inv X pins σ H s->t D σ H->wpAny ↑6 X.A (execs st X.env) (SP X pins D) X.xe s
def hZ{α:Type}{t:Sem α}{Q b:α->Ņ->Prop}{M:Model}{A:Ň}{s:Ņ}(h:wpAny M A t Q E s)(c: ∀a s,Q a s->b a s):wpAny M A t b E s:=ă h c λ_ _ x=>x
section
variable{X:Cx}
def zDU(i:Nat):TE:=λσ H Q=> ∃v,σ[i]? =some (some v)/\Q v H
def tC(v:V):TE:=λ_ H Q=>Q v H
def M7{i:Nat}{x:Str}(j:X.N[i]? =some x)(k:zDT X.env.scope x)(b:↑28=false:=by decide)(d:(x==("__classdict__":Str))=false:=by decide):PE X (.Name x pos) (zDU i):=by
 rw[20];obtain⟨v,e,h⟩:=h;obtain⟨m,n,o⟩:=I.loc;obtain⟨u,r,l⟩:=o i x v j e k;have a:EP X pins σ Q u s:=⟨v,H,I,r,h⟩
 rcases l with⟨hk,hm⟩|⟨hk,c,hc,hcell⟩
 .exact wpAny_Name (wpAny_loadName_local I.ok.kind hk n hm a) b
 .rcases hk with hk|hk
  .exact wpAny_Name (wpAny_loadName_cell I.ok.kind hk hc hcell a) b
  .exact wpAny_Name (wpAny_loadName_free I.ok.kind hk hc hcell a d) b
def Mm{i j pos}:PE X (.Constant (.int i) j pos) (tC (.int i)):=λ_ _ _ H _ I h=>wpAny_Constant_int ⟨.int i,H,I.tok _,⟨_,rfl⟩,h⟩
def zDV{b j pos}:PE X (.Constant (.bool b) j pos) (tC (.bl b)):=λ_ _ _ H _ I h=>Constant_bool ⟨.bl b,H,I,rfl,h⟩
def M8{j pos}:PE X (.Constant .none j pos) (tC .non):=λ_ _ _ H _ I h=>Constant_none ⟨.non,H,I,rfl,h⟩
def M9{x j pos}:PE X (.Constant (.str x) j pos) (tC (.str x)):=λ_ _ _ H _ I h=>Calls.Constant_str ⟨.str x,H,I.tok _,⟨_,rfl⟩,h⟩
def Gl(X:Cx)(x:Str):Prop:=X.env.kindOf x=some .globalImplicit
def SZ{s:Ņ}{x:Str}{u:ņ}{Q:VP}(I:↑2)(a:Gl X x)(b:X.mg x=some u)(h:Q u s)
  (hd:↑28=false:=by decide):wpAny ↑6 X.A (eval (.Name x pos) X.env) Q E s:=
 Calls.Name_function_global I.ok.kind a (Calls.loadGlobal_global (by rw[I.ok.glob];exact I.mod.glob.keeps I.bk) b h) hd
def DX{s:Ņ}{x:Str}{u:ņ}{Q:VP}(I:↑2)(b:Gl X x)(d:X.mg x=none)(c:bootBuiltins x=some u)(h:Q u s)
  (hn:x≠"__name__":=by decide) (hd:↑28=false:=by decide):wpAny ↑6 X.A (eval (.Name x pos) X.env) Q E s:=by
 obtain⟨e,h1,a⟩:=I.mod.blt;exact Calls.Name_function_global I.ok.kind b (Calls.loadGlobal_builtin (by rw[I.ok.glob];exact I.mod.glob.keeps I.bk) d (by rw[I.ok.blt];exact h1.keeps I.bk) ((a x hn).trans c) h) hd
def Tv{x:Str}{u:ņ}(a:Gl X x)(b:X.mg x=some u)(r:RelV v u)(c:↑28=false:=by decide):PE X (.Name x pos) (tC v):=
 λ_ _ _ H _ I h=>SZ I a b ⟨v,H,I,r,h⟩ c
def Tw{x:Str}{u:ņ}(a:Gl X x)(c:X.mg x=none)(b:bootBuiltins x=some u)(r:RelV v u)(e:x≠"__name__":=by decide)(d:↑28=false:=by decide):PE X (.Name x pos) (tC v):=
 λ_ _ _ H _ I h=>DX I a c b ⟨v,H,I,r,h⟩ e d
variable{a b:Expr}{ta tb:TE}{pos:Pos}
variable{tA tB':TT}{rest:P0}
def tAnd(t u:TT):TT:=λσ H Q=>t σ H λc H1=>if c=true then u σ H1 Q else Q false H1
def tOr(t u:TT):TT:=λσ H Q=>t σ H λc H1=>if c=true then Q true H1 else u σ H1 Q
def tNot(t:TT):TT:=λσ H Q=>t σ H λc H1=>Q (!c) H1
def Tx(b:PT X a tA):PW X (.BoolOp .And [a] pos) tA:=by
 intro d pins s σ H Q I h;refine isTrue_and (hZ (b pins s σ H Q I h) λc i e=>?_)
 cases c with
 |true=>exact isTrue_and_nil e
 |false=>exact e
def N1(b:PT X a tA):PW X (.BoolOp .Or [a] pos) tA:=by
 intro d pins s σ H Q I h;refine isTrue_or (hZ (b pins s σ H Q I h) λc i e=>?_)
 cases c with
 |false=>exact isTrue_or_nil e
 |true=>exact e
def N2(i:PT X a tA)(j:PW X (.BoolOp .And (b::rest) pos) tB'):PW X (.BoolOp .And (a::b::rest) pos) (tAnd tA tB'):=by
 intro e pins s σ H Q I h;refine isTrue_and (hZ (i pins s σ H _ I h) λc k ⟨H1,I1,d⟩=>?_)
 cases c with
 |true=>exact j e pins k σ H1 Q I1 d
 |false=>exact⟨H1,I1,d⟩
def zDW(i:PT X a tA)(j:PW X (.BoolOp .Or (b::rest) pos) tB'):PW X (.BoolOp .Or (a::b::rest) pos) (tOr tA tB'):=by
 intro e pins s σ H Q I h;refine isTrue_or (hZ (i pins s σ H _ I h) λc k ⟨H1,I1,d⟩=>?_)
 cases c with
 |true=>exact⟨H1,I1,d⟩
 |false=>exact j e pins k σ H1 Q I1 d
def N3(b:PT X a tA):PT X (.UnaryOp .Not a pos) (tNot tA):=by rw[20];exact isTrue_not (b pins s σ H (λc H1=>Q (!c) H1) I h)
def zDX(ta tb:TE):TE:=λσ H Q=>ta σ H λx H1=> ∃c,x=.bl c/\if c=true then tb σ H1 Q else Q (.bl false) H1
def tOrV(ta tb:TE):TE:=λσ H Q=>ta σ H λx H1=> ∃c,x=.bl c/\if c=true then Q (.bl true) H1 else tb σ H1 Q
def zDY(ta:TE):TE:=λσ H Q=>ta σ H λx H1=> ∃c,x=.bl c/\Q (.bl (!c)) H1
def N4{op}{t:TE}(h:PE X a t):PE X (.BoolOp op [a] pos) t:=λpins s σ H Q I hw=>BoolOp_one (h pins s σ H Q I hw)
def N5(e:PE X a ta)(i:PE X (.BoolOp .And (b::rest) pos) tb):PE X (.BoolOp .And (a::b::rest) pos) (zDX ta tb):=by
 rw[20];refine BoolOp_and (hZ (e pins s σ H _ I h) λv k ⟨x,H1,I1,j,d⟩=>?_);obtain⟨c,rfl,d⟩:=d;cases j;refine ć ?_
 cases c with
 |true=>exact i pins k σ H1 Q I1 d
 |false=>exact⟨.bl false,H1,I1,rfl,d⟩
def zDZ(e:PE X a ta)(i:PE X (.BoolOp .Or (b::rest) pos) tb):PE X (.BoolOp .Or (a::b::rest) pos) (tOrV ta tb):=by
 rw[20];refine BoolOp_or (hZ (e pins s σ H _ I h) λv k ⟨x,H1,I1,j,d⟩=>?_);obtain⟨c,rfl,d⟩:=d;cases j;refine ć ?_
 cases c with
 |false=>exact i pins k σ H1 Q I1 d
 |true=>exact⟨.bl true,H1,I1,rfl,d⟩
def N6(d:PE X a ta):PE X (.UnaryOp .Not a pos) (zDY ta):=by rw[20];refine UnaryOp_ (hZ (d pins s σ H _ I h) λv i ⟨x,H1,I1,e,b⟩=>?_);obtain⟨c,rfl,b⟩:=b;cases e;exact not_of (ć ⟨.bl (!c),H1,I1,rfl,b⟩)
end
def SqL(K:Q0)(H:Hp)(a:Addr)(xs:List V):Prop:=
 Rd H a (.lst xs)\/
  ∃(o:Obj)(its:B0)(n:Nat),K.lookup a=some o/\o.cls=.type "list"/\o.dict=none/\o.data=.seq its n/\its.size<=sizeLine/\Vals xs its.toList
def SqT(K:Q0)(H:Hp)(a:Addr)(xs:List V):Prop:=
 Rd H a (.tup xs)\/
  ∃(o:Obj)(its:B0)(n:Nat),K.lookup a=some o/\o.cls=.type "tuple"/\o.data=.seq its n/\its.size<=sizeLine/\Vals xs its.toList
noncomputable def absV:ņ->Option V
 |.none=>some .non
 |.bool b=>some (.bl b)
 |.int i _=>some (.int i)
 |.str x _=>some (.str x)
 |.bytes b _=>some (.byt b)
 |.float b _=>some (.flt b)
 |.ref a=>some (.ref a)
 |.type n=>some (.ty n)
 |_=>none
theorem RelV.abs{x:V}{u:ņ}(r:RelV x u):absV u=some x:=by
 cases x with
 |non=>cases r;rfl
 |bl _=>cases r;rfl
 |int _=>obtain⟨t,rfl⟩:=r;rfl
 |str _=>obtain⟨t,rfl⟩:=r;rfl
 |byt _=>obtain⟨t,rfl⟩:=r;rfl
 |flt _=>obtain⟨t,rfl⟩:=r;rfl
 |ref _=>cases r;rfl
 |ty _=>cases r;rfl
def RelV.inj{x y:V}{u:ņ}(r:RelV x u)(q:RelV y u):x=y:=ã (r.abs.symm.trans q.abs)
theorem Vals.inj: ∀{xs ys:List V}{us:A0},Vals xs us->Vals ys us->xs=ys
 |_,_,_,.nil,.nil=>rfl
 |_,_,_,.cons r t,.cons r' t'=>by rw[r.inj r',Vals.inj t t']
section
variable{X:Cx}{pins:M0}{σ:St}{H:Hp}{s:Ņ}{a:Addr}{xs ys:List V}
def SqL.of{K:Q0}(h:H a=some (.lst xs)):SqL K H a xs:=.inl (.inl h)
def SqT.of{K:Q0}(h:H a=some (.tup xs)):SqT K H a xs:=.inl (.inl h)
theorem Inv.list(I:↑2)(h:SqL X.K H a xs): ∃its:List ņ,Vals xs its/\PlainL s.heap a ↑36/\↑33<=sizeLine:=by
 rcases h with h|⟨o,its,n,hk,hc,hd,hs,hz,r⟩
 .obtain⟨z,its,n,r,e⟩:=h.ok I.hok;exact⟨its,r,⟨_,n,e,rfl,rfl,rfl⟩,z⟩
 .refine⟨_,r,⟨o,n,I.kIn a o hk,hc,hd,by simpa using hs⟩,?_⟩;have e:=r.length;simp only[ú]at e
  lia
theorem Inv.tuple(I:↑2)(h:SqT X.K H a xs): ∃its:List ņ,Vals xs its/\IsTup s.heap a ↑36/\↑33<=sizeLine:=by
 rcases h with h|⟨o,its,n,hk,hc,hs,hz,r⟩
 .obtain⟨z,its,r,p⟩:=h.ok I.hok;exact⟨its,r,p,z⟩
 .refine⟨_,r,⟨o,I.kIn a o hk,hc,n,by simpa using hs⟩,?_⟩;have e:=r.length;simp only[ú]at e
  lia
def Inv.list_inj(I:↑2)(h:SqL X.K H a xs)(h':SqL X.K H a ys):xs=ys:=by
 obtain⟨its,r,⟨o,n,e,_,_,d⟩,_⟩:=I.list h;obtain⟨c,j,⟨o',k,b,_,_,i⟩,_⟩:=I.list h';rw[e]at b;cases b;rw[d]at i;injection i with d1 _
 have:=by simpa using congrArg Array.toList d1
 subst this;exact r.inj j
def Inv.tuple_inj(I:↑2)(h:SqT X.K H a xs)(h':SqT X.K H a ys):xs=ys:=by
 obtain⟨its,r,⟨o,e,_,n,d⟩,_⟩:=I.tuple h;obtain⟨c,j,⟨o',b,_,k,i⟩,_⟩:=I.tuple h';rw[e]at b;cases b;rw[d]at i;injection i with d1 _
 have:=by simpa using congrArg Array.toList d1
 subst this;exact r.inj j
end
abbrev Cx.wish(X:Cx)(E:VP):Cx:={X with xe:=E}
abbrev Cx.nox(X:Cx):Cx:=X.wish λ_ _=>False
def Cx.Ok.wish(ok:X.Ok)(E:VP):(X.wish E).Ok:=
 ⟨ok.mod,ok.kind,ok.glob,ok.blt,ok.above,ok.inj,ok.has,ok.cab,ok.hd,ok.frames,ok.stk,ok.exf,ok.bs,ok.bsz,ok.noex,ok.exfs,ok.funs,ok.frf⟩
def Cx.Ok.unwish(ok:(X.wish E).Ok):X.Ok:=
 ⟨ok.mod,ok.kind,ok.glob,ok.blt,ok.above,ok.inj,ok.has,ok.cab,ok.hd,ok.frames,ok.stk,ok.exf,ok.bs,ok.bsz,ok.noex,ok.exfs,ok.funs,ok.frf⟩
section
variable{X:Cx}{pins:M0}{σ:St}{H:Hp}{s:Ņ}{E:VP}
def Inv.wish(I:↑2)(E:VP):Inv (X.wish E) pins σ H s:=⟨I.ok.wish E,I.os,I.bare,I.base,I.loc,I.cell,I.free,I.freeC,I.pin,I.hok,I.len⟩
def Inv.unwish(I:Inv (X.wish E) pins σ H s):Inv X pins σ H s:=⟨I.ok.unwish,I.os,I.bare,I.base,I.loc,I.cell,I.free,I.freeC,I.pin,I.hok,I.len⟩
def SP.unwish{D:Ends}{f:Flow}{s':Ņ}(h:SP (X.wish E) pins D f s'):SP X pins D f s':=by
 cases f with
 |next=>obtain⟨a,H',I,q⟩:=h;exact⟨a,H',I.unwish,q⟩
 |brk=>obtain⟨a,H',I,q⟩:=h;exact⟨a,H',I.unwish,q⟩
 |cont=>obtain⟨a,H',I,q⟩:=h;exact⟨a,H',I.unwish,q⟩
 |ret u=>obtain⟨v,a,H',I,r,q⟩:=h;exact⟨v,a,H',I.unwish,r,q⟩
def PSs.nox{st:List Stmt}{t:TS}(h:PSs X.nox st t):PSs X st t:=λpins s σ H D I hw=>
 ă (h pins s σ H D (I.wish _) hw) (λ_ _ q=>q.unwish) λ_ _ z=>False.elim z
end
section
variable{X:Cx}{st:Stmt}{rest:List Stmt}{t u:TS}{e:Expr}{te:TE}{pos:Pos}
def zEA:TS:=λD σ H=>D.nx σ H
def tSeq(t u:TS):TS:=λD σ H=>t {D with nx:=u D} σ H
def Tz:PSs X [] zEA:=λ_ _ σ H _ I h=>wpAny_execs_nil ⟨σ,H,I,h⟩
def Mn(h1:PS X st t)(b:PSs X rest u):PSs X (st::rest) (tSeq t u):=by
 intro pins s σ H D I h;refine wpAny_execs_cons (hZ (h1 pins s σ H {D with nx:=u D} I h) λf d q=>?_)
 cases f with
 |next=>
  obtain⟨a,H',c,q⟩:=q;exact b pins d a H' D c q
 |ret v=>exact q
 |brk=>exact q
 |cont=>exact q
def Ec(h1:PS X st t):PSs X [st] t:=by
 intro pins s σ H D I h;refine wpAny_execs_cons (hZ (h1 pins s σ H D I h) λf a q=>?_)
 cases f with
 |next=>exact wpAny_execs_nil q
 |ret v=>exact q
 |brk=>exact q
 |cont=>exact q
def Inv.quiet{s:Ņ}(I:↑2):interactive X.env=false:=by simp[interactive,I.ok.kind]
def zEB(te:TE):TS:=λD σ H=>te σ H λ_ H1=>D.nx σ H1
def Ua(a:PE X e te)(hs:swapsWith e none pos.line X.env=pure false:=by rfl):PS X (.Expr e pos) (zEB te):=by intro pins s σ H D I h;exact wpAny_Expr_any (hZ (a pins s σ H _ I h) λv d ⟨x,H1,I1,c,b⟩=>⟨σ,H1,I1,b⟩) I.quiet hs
def tRet(te:TE):TS:=λD σ H=>te σ H D.rt
def N8(a:PE X e te):PS X (.Return (some e) pos) (tRet te):=by intro pins s σ H D I h;exact wpAny_Return_some (hZ (a pins s σ H _ I h) λv d ⟨x,H1,I1,c,b⟩=>⟨x,σ,H1,I1,c,b⟩)
def tIfS(c:TT)(t u:TS):TS:=λD σ H=>c σ H λb H1=>if b=true then t D σ H1 else u D σ H1
def zEC{c:Expr}{a b:List Stmt}{j:TT}(k:PT X c j)(m:PSs X a t)(n:PSs X b u):PS X (.If c a b pos) (tIfS j t u):=by
 intro pins s σ H D I h;refine wpAny_If (hZ (k pins s σ H _ I h) λd i ⟨H1,I1,e⟩=>?_)
 cases d with
 |true=>exact m pins i σ H1 D I1 e
 |false=>exact n pins i σ H1 D I1 e
def O1:TS:=λ_ _ _=>False
def Mo:PS X st O1:=λ_ _ _ _ _ _ h=>h.elim
end
abbrev TG:=V->St->Hp->(St->Hp->Prop)->Prop
abbrev O2:=List V->St->Hp->(St->Hp->Prop)->Prop
def PG(X:Cx)(a:Expr)(t:TG):Prop:=
 ∀(pins:M0)(s:Ņ)(σ:St)(H:Hp)(v:V)(u:ņ)(Q:St->Hp->Prop),Inv X pins σ H s->RelV v u->t v σ H Q->
  wpAny ↑6 X.A (assign a X.env u) (λ_ s'=> ∃b H',Inv X pins b H' s'/\Q b H') X.xe s
def zDJ(X:Cx)(ts:P0)(t:O2):Prop:=
 ∀(pins:M0)(s:Ņ)(σ:St)(H:Hp)(vs:List V)(us:A0)(Q:St->Hp->Prop),Inv X pins σ H s->Vals vs us->t vs σ H Q->
  wpAny ↑6 X.A (assignInOrder ((assignEach ts X.env).map (·.2)) us) (λ_ s'=> ∃a H',Inv X pins a H' s'/\Q a H') X.xe s
abbrev TSet:=V->V->V->Hp->(Hp->Prop)->Prop
def O3(X:Cx)(t:TSet):Prop:=
 ∀(pins:M0)(s:Ņ)(σ:St)(H:Hp)(o i v:V)(a b u:ņ)(Q:Hp->Prop),Inv X pins σ H s->RelV o a->RelV i b->RelV v u->t o i v H Q->
  wpAny ↑6 X.A (setItem a b u) (λ_ s'=> ∃H',Inv X pins σ H' s'/\Q H') X.xe s
section
variable{X:Cx}{pos:Pos}
def Mp(i:Nat):TG:=λv σ H Q=>Q (σ.set i (some v)) H
def Ed{i:Nat}{x:Str}(b:X.N.Nodup)(hi:X.N[i]? =some x)(c:Loc X.env.scope x)(d:Q2 X x:=by first |exact .inl rfl|exact .inr rfl|assumption):PG X (.Name x pos) (Mp i):=by intro pins s σ H v u Q I r h;exact wpAny_assign_Name (WW I b hi c r (λs' a=>⟨_,H,a,h⟩) d)
def gNil:O2:=λvs σ H Q=>vs=[]/\Q σ H
def zED(t:TG)(u:O2):O2:=λvs σ H Q=> ∃v r,vs=v::r/\t v σ H λa H'=>u r a H' Q
def Ee:zDJ X [] gNil:=by intro pins s σ H vs us Q I r h;obtain⟨e,h⟩:=h;subst e;exact assignInOrder_nil ⟨σ,H,I,h⟩
def WX{e:Expr}{es:P0}{t:TG}{u:O2}(h1:PG X e t)(b:zDJ X es u)
  (hs:(assignEach (e::es) X.env).map (·.2)=assign e X.env::(assignEach es X.env).map (·.2):=by rfl):zDJ X (e::es) (zED t u):=by
 intro pins s σ H vs us Q I r h;obtain⟨v,i,e1,h⟩:=h;subst e1
 cases r with
 |cons r rr=>
  rw[hs];refine assignInOrder_cons (hZ (h1 pins s σ H _ _ _ I r h) λ_ d ⟨a,H1,I1,c⟩=>?_);exact b pins d a H1 _ _ Q I1 rr c
def gTup(K:Q0)(n:Nat)(t:O2):TG:=λv σ H Q=> ∃a xs,v=.ref a/\SqT K H a xs/\↑33=n/\t xs σ H Q
def Mq{es:P0}{k:Nat}{t:O2}{n:Nat}(d:X.calm=true)(h:zDJ X es t)
  (hn:(assignEach es X.env).length=n:=by rfl) (hst:(assignEach es X.env).findIdx? (·.1)=none:=by rfl):PG X (.Tuple es k pos) (gTup X.K n t):=by
 intro pins s σ H v u Q I r hw;obtain⟨a,xs,e1,j,m,hw⟩:=hw;subst e1;cases r;obtain⟨its,c,p,q⟩:=I.tuple j;refine assign_Tuple_tuple (I.ok.hd d) p (by simp[hn, <-m,c.length]) hst λh' i=>?_;have I1:Inv X pins σ H {s with heap:=h'}:=I.kept λb o e=>i b o (â (á e)) e;exact h pins _ σ H xs _ Q I1 (by simpa using c) hw
def gSub(to c:TE)(t:TSet):TG:=λv σ H Q=>to σ H λo H1=>c σ H1 λi a=>t o i v a λb=>Q σ b
def Mr{o i:Expr}{to c:TE}{t:TSet}(A:PE X o to)(hi:PE X i c)(hs:O3 X t)
  (ha: ∀v,assign (.Subscript o i pos) X.env v=(do
   let a <-holding [v] (eval o X.env);let b <-holding [v,a] (eval i X.env)
   standAt pos
   holding [v,a,b] (setItem a b v)
   release [v,a,b] []):=by intro _;rfl):PG X (.Subscript o i pos) (gSub to c t):=by
 intro pins s σ H v u Q I r h;refine wB (Ą (hZ (A pins s σ H _ I h) λa q ⟨x,H1,I1,p,j⟩=>?_));refine wB (Ą (hZ (hi pins q σ H1 _ I1 j) λb k ⟨y,w,m,n,d⟩=>?_));refine wB (wpAny_standAt (wB (Ą (hZ (hs pins k σ w x y v a b u _ m p n r d) λ_ C ⟨z,e,B⟩=>?_))));exact wpAny_release ⟨σ,z,e,B⟩
def O4(te:TE)(g:TG):TS:=λD σ H=>te σ H λx H1=>g x σ H1 D.nx
def O5{e:Expr}{te:TE}{g:TG}(a:PE X e te)(b:PG X tg g)(hs:swapsWithSole [tg] e pos.line X.env=pure false:=by rfl)(hw:swappedStores [tg] e X.env=pure none:=by rfl)
  (h1:(assignEach [tg] X.env).map (·.2)=[assign tg X.env]:=by rfl):PS X (.Assign [tg] e pos) (O4 te g):=by
 intro pins s σ H D I h;refine wpAny_Assign_stores (hZ (a pins s σ H _ I h) λv i ⟨x,H1,I1,d,c⟩=>?_) hs hw;rw[h1];exact hZ (b pins i σ H1 x v _ I1 d c) λ_ j q=>q
def O6{i:Nat}{x:Str}{e:Expr}{te:TE}{pos':Pos}(b:X.N.Nodup)(hi:X.N[i]? =some x)(d:Loc X.env.scope x)(a:PE X e te)(hs:swapsWith e (some (.Name x pos')) pos.line X.env=pure false:=by rfl)(m:Q2 X x:=by first |exact .inl rfl|exact .inr rfl|assumption):
  PS X (.Assign [.Name x pos'] e pos) (O4 te (Mp i)):=by
 intro pins s σ H D I h;refine wpAny_Assign_Name (hZ (a pins s σ H _ I h) λv o ⟨y,H1,I1,k,c⟩=>?_) hs;exact WW I1 b hi d k (λn j=>⟨_,H1,j,c⟩) m
end
section
variable{X:Cx}{pos:Pos}
noncomputable def O7(c:TT)(tb:TS):TS:=λD σ H=> ∃W:Nat->St->Hp->Prop,(∃m,W m σ H)/\ ∀m σ H,W m σ H->
 c σ H λb H1=>if b=true then∃N:St->Hp->Prop,(∀a H',N a H'-> ∃d,d<m/\W d a H')/\tb {D with nx:=N,ct:=N,bk:=D.nx} σ H1 else D.nx σ H1
def Ms{c:Expr}{body:List Stmt}{E:TT}{tb:TS}(B:PassesOwn ↑6 X.A X.env X.xe)(L:PT X c E)(F:PSs X body tb):PS X (.While c body [] pos) (O7 E tb):=by
 intro pins s σ H D I h;obtain⟨W,⟨M,K⟩,i⟩:=h;refine wpAny_While (codeAny_whileLoop (λn s'=> ∃e H',Inv X pins e H' s'/\W n e H') ?_ M ⟨σ,H,I,K⟩);rintro n J ⟨d,H1,I1,O⟩;refine Ī B (hZ (L pins J d H1 _ I1 (i n d H1 O)) λb G ⟨z,C,k⟩=>?_)
 cases b with
 |true=>
  obtain⟨N,y,k⟩:=k;refine Ī B (hZ (F pins G d z _ C k) λf P m=>?_)
  cases f with
  |next=>
   obtain⟨a,j,o,u⟩:=m;obtain⟨p,r,q⟩:=y a j u;exact⟨p,r,a,j,o,q⟩
  |cont=>
   obtain⟨a,j,o,u⟩:=m;obtain⟨p,r,q⟩:=y a j u;exact⟨p,r,a,j,o,q⟩
  |brk=>exact m
  |ret v=>exact m
 |false=>
  exact wpAny_execs_nil ⟨d,z,C,k⟩
end
structure It where
 go:Nat->Hp->Prop
 yld:Nat->Hp->V->Hp->Prop
 stop:Nat->Hp->Prop
def FA(X:Cx)(pins:M0)(H:Hp)(b:Addr):Prop:=
 H b=none/\b≠X.env.locals/\b∉X.fs/\(b∈X.ex\/X.s₀.heap.objs.size<=b)/\(∀x c,X.env.cells.lookup x=some c->c≠b)/\ ∀p∈X.pn++pins,p.1≠b
def Inv.fpOk{H':Hp}{s:Ņ}{b:Addr}(I:↑2)(a:↑1<=b)(h:H' b=none):FA X pins H' b:=by
 refine⟨h,Ė (é I.lt a),I.nofs a,.inr (ì I.sz a),λx c e z=>?_,λp d z=>?_⟩
 .obtain⟨v,q⟩:=I.cell x c e;exact absurd (é q.lt (by rw[z];exact a)) (ĕ _)
 .exact absurd (é (á (I.pin p d).1) (by rw[z];exact a)) (ĕ _)
abbrev O8(X:Cx):Prop:=X.calm=true
structure TurnC(C:Cx->Prop)(P:ň)(w:World)(K:Q0)(tg:Expr)(J:It)(fp:B9)(it:Addr)(tn:Nat->Heap->Prop):Prop where
 mem:it∈fp
 obj: ∀i h,tn i h-> ∀b∈fp, ∃o,h.get? b=some o/\ ∀v,o.data≠.cell v
 keep: ∀i h h',tn i h->(∀b∈fp, ∀o,h.get? b=some o->h'.get? b=some o)->tn i h'
 item: ∀(X:Cx),X.prog=P->X.w=w->X.K=K->C X-> ∀(i:Nat)(pins:M0)(s:Ņ)(σ:St)(H:Hp)(E:VP),Inv X pins σ H s->(∀b∈fp,FA X pins H b)->tn i s.heap->J.go i H->
  wpAny (model P w) X.A (pyNext (.ref it)) (λr s1=> ∃u,r=some u/\
   wpAny (model P w) X.A (letOwnedTupleGo tg (.ref it) u) (λ_ s2=> ∃x H',Inv X pins σ H' s2/\RelV x u/\J.yld i H x H'/\tn (i+1) s2.heap/\ ∀b∈fp,H' b=none) E s1) E s
 done: ∀(X:Cx),X.prog=P->X.w=w->X.K=K->C X-> ∀(i:Nat)(pins:M0)(s:Ņ)(σ:St)(H:Hp)(E:VP),Inv X pins σ H s->(∀b∈fp,FA X pins H b)->tn i s.heap->J.stop i H->
  wpAny (model P w) X.A (pyNext (.ref it)) (λr s1=>r=none/\Inv X pins σ H s1) E s
 self: ∀(A:Ň)(i:Nat)(s:Ņ)(Q:VP)(E:VP),tn i s.heap->Q (.ref it) s->wpAny (model P w) A (pyIter (.ref it)) Q E s
abbrev Turn:=TurnC O8
abbrev TI:=St->Hp->(It->Hp->Prop)->Prop
def zEE(C:Cx->Prop)(X:Cx)(pins:M0)(σ:St)(tg:Expr)(R:It->Hp->Prop)(a:ņ)(c:Ņ):Prop:=
 ∃(it:Addr)(fp:B9)(d:Nat->Heap->Prop)(J:It)(H':Hp),a=.ref it/\Inv X pins σ H' c/\TurnC C X.prog X.w X.K tg J fp it d/\d 0 c.heap/\(∀b∈fp,FA X pins H' b)/\R J H'
abbrev PIE:=zEE O8
def zEF(C:Cx->Prop)(X:Cx)(tg iter:Expr)(a:TI):Prop:=
 ∀(pins:M0)(s:Ņ)(σ:St)(H:Hp)(R:It->Hp->Prop),Inv X pins σ H s->a σ H R->
  wpAny ↑6 X.A (eval iter X.env) (λv b=>wpAny ↑6 X.A (pyIter v) (zEE C X pins σ tg R) X.xe b) X.xe s
abbrev PI:=zEF O8
def WY{M:Model}{A:Ň}{s:Ņ}{it:Addr}{u:ņ}{o:Obj}{n:String}{vs:B0}(b:s.heap.get? it=some o)(a:o.cls=.type n)(c:o.data=.fields vs)
  (hn:["enumerate","zip","dict_itemiterator","dict_reverseitemiterator","odict_iterator","itertools.zip_longest","itertools.pairwise"].contains n=false) (hQ:Q () s):wpAny M A (letOwnedTupleGo tg (.ref it) u) Q E s:=by
 cases tg<;>first
  |exact wP hQ
  |(cases u<;>first
    |exact wP hQ
    |(refine wB (wpAny_load b ?_)
      rw[a,c];show wpAny M A (if _=true then _ else _) Q E s;rw[iN (by intro h;rw[hn]at h;cases h)];exact wP hQ))
def Itl(K:Q0)(a:Addr):It:=
 ⟨λi H=> ∃xs x,SqL K H a xs/\xs[i]? =some x,λi H x H'=>H'=H/\ ∀xs,SqL K H a xs->xs[i]? =some x,λi H=> ∃xs,SqL K H a xs/\↑33<=i⟩
def Itt(K:Q0)(a:Addr):It:=
 ⟨λi H=> ∃xs x,SqT K H a xs/\xs[i]? =some x,λi H x H'=>H'=H/\ ∀xs,SqT K H a xs->xs[i]? =some x,λi H=> ∃xs,SqT K H a xs/\↑33<=i⟩
def zHK(lo:Int)(n:Nat):It:=⟨λi _=>i<n,λi H x H'=>H'=H/\x=.int (lo+i),λi _=>n<=i⟩
theorem Il{P:ň}{w:World}{K:Q0}(a it:Addr):Turn P w K tg (Itl K a) [it] it (λi h=>h.IsListIter it a i) where
 mem:=by simp
 obj:=λi h st b hb=>by
  have e:=by simpa using hb
  subst e;obtain⟨o,e,c,d⟩:=st;exact⟨o,e,λv z=>by rw[d]at z;cases z⟩
 keep:=λi h h' st k=>st.at λo e=>k it (by simp) o e
 item:=by intro X hP hw hK hc i pins s σ H E I hf st hg;subst hP hw hK;obtain⟨xs,x,hq,hx⟩:=hg;obtain⟨its,rv,p,hz⟩:=I.list hq;obtain⟨u,hu,ru⟩:=rv.get hx;rw[22];refine wpAny_pyNext_list_item st p.isList (by simpa using hu) λh' st' sb=>?_;have I1:Inv X pins σ H {s with heap:=h'}:=I.turned (λb o hb e=>(sb.2 b hb).trans e) f0 f1 f3 f4 f5;obtain⟨o,e,c,d⟩:=id st';exact⟨u,rfl,WY e c d ↑7 ⟨x,H,I1,ru,⟨rfl,λys hy=>by rw[I.list_inj hy hq];exact hx⟩,st',λb hb=>(hf b hb).1⟩⟩
 done:=by intro X hP hw hK hc i pins s σ H E I hf st hg;subst hP hw hK;obtain⟨xs,hq,hx⟩:=hg;obtain⟨its,rv,p,hz⟩:=I.list hq;rw[22];have hl:=rv.length;exact wpAny_pyNext_list_end (I.ok.hd hc) st p.isList (by simp;lia) λh' eb=>⟨rfl,I.turned (λb o hb e=>eb b o hb e) f0 f1 f3 f4 f5⟩
 self:=λ_ _ _ _ _ st h=>wpAny_pyIter_listiter st h
theorem Au{P:ň}{w:World}{K:Q0}(a it:Addr):Turn P w K tg (Itt K a) [it] it (λi h=>h.IsTupleIter it a i) where
 mem:=by simp
 obj:=λi h st b hb=>by
  have e:=by simpa using hb
  subst e;obtain⟨o,e,c,d⟩:=st;exact⟨o,e,λv z=>by rw[d]at z;cases z⟩
 keep:=λi h h' st k=>st.at λo e=>k it (by simp) o e
 item:=by intro X hP hw hK hc i pins s σ H E I hf st hg;subst hP hw hK;obtain⟨xs,x,hq,hx⟩:=hg;obtain⟨its,rv,p,hz⟩:=I.tuple hq;obtain⟨u,hu,ru⟩:=rv.get hx;rw[22];refine wpAny_pyNext_tuple_item st p (by simpa using hu) λh' st' sb=>?_;have I1:Inv X pins σ H {s with heap:=h'}:=I.turned (λb o hb e=>(sb.2 b hb).trans e) f0 f1 f3 f4 f5;obtain⟨o,e,c,d⟩:=id st';exact⟨u,rfl,WY e c d ↑7 ⟨x,H,I1,ru,⟨rfl,λys hy=>by rw[I.tuple_inj hy hq];exact hx⟩,st',λb hb=>(hf b hb).1⟩⟩
 done:=by intro X hP hw hK hc i pins s σ H E I hf st hg;subst hP hw hK;obtain⟨xs,hq,hx⟩:=hg;obtain⟨its,rv,p,hz⟩:=I.tuple hq;rw[22];have hl:=rv.length;exact wpAny_pyNext_tuple_end (I.ok.hd hc) st p (by simp;lia) λh' eb=>⟨rfl,I.turned (λb o hb e=>eb b o hb e) f0 f1 f3 f4 f5⟩
 self:=λ_ _ _ _ _ st h=>wpAny_pyIter_tupleiter st h
theorem Av{P:ň}{w:World}{K:Q0}(it:Addr)(lo:Int)(n:Nat):Turn P w K tg (zHK lo n) [it] it (λi h=>IsRangeIter h it (lo+(i:Nat) * 1) ((n:Int) - (i:Nat)) 1) where
 mem:=by simp
 obj:=λi h st b hb=>by
  have e:=by simpa using hb
  subst e;exact⟨_,st,λv z=>by have z':=z;cases z'⟩
 keep:=λi h h' st k=>k it (by simp) _ st
 item:=by intro X hP hw hK hc i pins s σ H E I hf st hg;subst hP hw hK;rw[22];have W:=Walks.range (prog:=X.prog) (w:=X.w) (I.ok.hd hc) it lo 1 n;refine W.item i s _ _ hg st λv h' tk hv st' kk=>?_;obtain⟨t,rfl⟩:=hv;have I1:Inv X pins σ H {s with heap:=h',toks:=tk}:=I.turned (λb o hb e=>kk b o (by simpa using hb) e) f0 f1 f3 f4 f5;refine⟨_,rfl,WY st' rfl rfl ↑7 ⟨.int _,H,I1,⟨t,?_⟩,⟨rfl,rfl⟩,st',λb hb=>(hf b hb).1⟩⟩;rw[Int.mul_one]
 done:=by intro X hP hw hK hc i pins s σ H E I hf st hg;rw[22];exact wpAny_pyNext_range_end (I.ok.hd hc) st (by have:n<=i:=hg;lia) λh' eb=>⟨rfl,I.turned (λb o hb e=>eb b o hb e) f0 f1 f3 f4 f5⟩
 self:=λ_ _ _ _ _ st h=>wpAny_pyIter_rangeiter st h
section
variable{X:Cx}{tg:Expr}
def zEG(K:Q0)(tl:TE):TI:=λσ H R=>tl σ H λx H1=> ∃a,x=.ref a/\(∃xs,SqL K H1 a xs)/\R (Itl K a) H1
def iTup(K:Q0)(tl:TE):TI:=λσ H R=>tl σ H λx H1=> ∃a,x=.ref a/\(∃xs,SqT K H1 a xs)/\R (Itt K a) H1
def Ub{l:Expr}{tl:TE}(k:PE X l tl):PI X tg l (zEG X.K tl):=by
 intro pins s σ H R I h;refine hZ (k pins s σ H _ I h) λv m ⟨x,H1,I1,i,c⟩=>?_;obtain⟨a,e,⟨xs,j⟩,q⟩:=c;subst e;cases i;obtain⟨its,n,p,r⟩:=I1.list j;refine wpAny_pyIter_list p.isList ?_;refine⟨_,_,_,_,H1,rfl,I1.kept λb o e=>hP0 _ e,Il a _,⟨_,ä _ rfl,rfl,rfl⟩,λb d=>?_,q⟩;have e:=by simpa using d
 subst e;exact I1.fpOk (à _) (I1.hok.fresh (à _))
def O9{l:Expr}{tl:TE}(k:PE X l tl):PI X tg l (iTup X.K tl):=by
 intro pins s σ H R I h;refine hZ (k pins s σ H _ I h) λv m ⟨x,H1,I1,i,c⟩=>?_;obtain⟨a,e,⟨xs,j⟩,q⟩:=c;subst e;cases i;obtain⟨its,n,p,r⟩:=I1.tuple j;refine wpAny_pyIter_tuple p ?_;refine⟨_,_,_,_,H1,rfl,I1.kept λb o e=>hP0 _ e,Au a _,⟨_,ä _ rfl,rfl,rfl⟩,λb d=>?_,q⟩;have e:=by simpa using d
 subst e;exact I1.fpOk (à _) (I1.hok.fresh (à _))
theorem Mt{s:Ņ}{R:It->Hp->Prop}{lo hi:Int}{t u v:Tok}{tk:Nat}(I:↑2)(h1: -(2 ^ 62)<=lo)(c:lo<2 ^ 62)(h: -(2 ^ 62)<=hi)(a:hi<2 ^ 62)
  (q:R (zHK lo (hi - lo).toNat) H):wpAny ↑6 X.A (pyIter (.ref ↑1)) (PIE X pins σ tg R) E {s with heap:=s.heap.push {cls:=.type "range",data:=.fields #[.int lo t,.int hi u,.int 1 v]},toks:=tk}:=by
 refine wpAny_pyIter_range (IsRange.new ..) (small_one h1 c h a) ?_;have I1:Inv X pins σ H {s with heap:=s.heap.push {cls:=.type "range",data:=.fields #[.int lo t,.int hi u,.int 1 v]},toks:=tk}:=I.kept λb o e=>hP0 _ e
 refine⟨_,_,_,_,H,rfl,
  I1.kept λb o e=>hP0 _ e,Av _ lo (hi - lo).toNat,?_,λb d=>?_,q⟩
 .have e1:lo+((0:Nat):Int) * 1=lo:=by simp
  have e2:(((hi - lo).toNat:Nat):Int) - ((0:Nat):Int)=Builtin.Range.rangeSize lo hi 1:=by rw[rangeSize_one];split<;>lia
  show IsRangeIter _ _ _ _ 1;rw[e1,e2];exact ä _ rfl
 .have e:b=(s.heap.push {cls:=.type "range",data:=.fields #[.int lo t,.int hi u,.int 1 v]}).objs.size:=by simpa using d
  subst e;exact I1.fpOk (à _) (I1.hok.fresh (à _))
def zEH(ta:TA):TI:=λσ H R=>ta σ H λvs H1=> ∃j:Int,vs=[.int j]/\ -(2 ^ 62)<=j/\j<2 ^ 62/\R (zHK 0 j.toNat) H1
theorem Im{a:Expr}{ta:TA}{p:Pos}(d:Gl X "range")(k:X.mg "range"=none)(i:PA X [a] ta)(hs:starEach [a] X.env=[(false,eval a X.env)]:=by rfl):PI X tg (.Call (.Name "range" p) [a] [] pos) (zEH ta):=by
 intro pins s σ H R I h;refine Call_ (DX I d k boot_range (ĝ (hZ (i pos pins s σ H _ I h) λus n ⟨vs,H1,I1,m,b⟩=>?_) hs rfl));obtain⟨j,e,b,c,q⟩:=b;subst e
 cases m with
 |cons r rr=>
  cases rr;obtain⟨t,rfl⟩:=r;exact call_range_1 (Mt I1 #[0] #[0] b c (by simpa using q))
def tFor(e:TI)(g:TG)(tb:TS):TS:=λD σ H=>e σ H λJ H1=> ∃W:Nat->Nat->St->Hp->Prop,(∃m,W 0 m σ H1)/\ ∀i m σ H,W i m σ H->
 (J.stop i H/\D.nx σ H)\/(J.go i H/\ ∃N:St->Hp->Prop,(∀a H',N a H'-> ∃c,c<m/\W (i+1) c a H')/\ ∀x H',J.yld i H x H'->g x σ H' λb d=>tb {D with nx:=N,ct:=N,bk:=D.nx} b d)
noncomputable def LO(fp:B9)(h:Heap):List (Addr×Obj):=fp.filterMap λb=>(h.get? b).map λo=>(b,o)
def DY{fp:B9}{h:Heap}{b:Addr}{o:Obj}(a:b∈fp)(e:h.get? b=some o):(b,o)∈LO fp h:=mem_filterMap.mpr ⟨b,a,by rw[e];rfl⟩
def Io{fp:B9}{h:Heap}{p:Addr×Obj}(c:p∈LO fp h):p.1∈fp/\h.get? p.1=some p.2:=by
 obtain⟨b,d,e⟩:=mem_filterMap.mp c
 cases q:h.get? b with
 |none=>rw[q]at e;cases e
 |some o=>
  rw[q]at e;have a:_=p:=ã e;subst a;exact⟨d,q⟩
def Inv.pinned{s:Ņ}{fp:B9}(I:↑2)(k: ∀b∈fp,FA X pins H b)(j: ∀b∈fp, ∃o,s.heap.get? b=some o/\ ∀v,o.data≠.cell v):Inv X (pins++LO fp s.heap) σ H s:=
 I.pins_of λp h=>(æ.mp h).elim (λz=>I.pin p (õ _ z)) λz=>by obtain⟨c,e⟩:=Io z;obtain⟨i,f1,f2,_⟩:=k p.1 c;obtain⟨o,a,d⟩:=j p.1 c;rw[e]at a;cases a;exact⟨e,i,f1,f2,d⟩
def Inv.unpinned{a:M0}{s:Ņ}(I:Inv X (pins++a) σ H s):Inv X pins σ H s:=I.pins_of λp b=>I.pin p (õ _ (Ď _ b))
def P2{iter:Expr}{body:List Stmt}{wi:TI}{g:TG}{tb:TS}(E:PassesOwn ↑6 X.A X.env X.xe)(hc:X.calm=true)(hi:PI X tg iter wi)(hg:PG X tg g)(c:PSs X body tb)
  (hs: ∀x,foldedSetIterable iter X.env x=pure x:=by intro _;rfl):PS X (.For tg iter body [] pos) (tFor wi g tb):=by
 intro pins s σ H D I h;refine wpAny_For (hZ (hi pins s σ H _ I h) λv s1 h1=>hZ h1 λaa s2 h2=>?_) hs;obtain⟨it,fp,Y,J,H2,e,I2,T,U,f2,W,⟨m0,w0⟩,F⟩:=h2;subst e;have k: ∀{H':Hp},(∀b∈fp,H' b=none)-> ∀b∈fp,FA X pins H' b:=λhn b c=>⟨hn b c,(f2 b c).2⟩
 refine codeAny_forLoop_any (λn s'=> ∃i p H',Inv X pins p H' s'/\Y i s'.heap/\(∀b∈fp,H' b=none)/\W i n p H') ?_ m0 ⟨0,σ,H2,I2,U,λb c=>(f2 b c).1,w0⟩;rintro n s3 ⟨i,j,L,Z,G,K,w3⟩;rcases F i n j L w3 with⟨stop,qn⟩|⟨go,N,hN,step⟩
 .refine Ī E (hZ (T.done X rfl rfl rfl hc i pins s3 j L X.xe Z (k K) G stop) λr s4 ⟨M,I4⟩=>?_);subst M;exact wpAny_execs_nil ⟨j,L,I4,qn⟩
 .refine Ī E (hZ (T.item X rfl rfl rfl hc i pins s3 j L X.xe Z (k K) G go) λr s4 ⟨u,M,h4⟩=>?_);subst M;refine Ī E (hZ h4 λ_ s5 ⟨x,H5,I5,r5,y5,B,O⟩=>?_);have P:=I5.pinned (k O) (T.obj _ _ B);refine Ī E (hZ (hg _ s5 j H5 x u _ P r5 (step x H5 y5)) λ_ s6 ⟨S,H6,I6,q6⟩=>?_);refine Ī E (hZ (c _ s6 S H6 _ I6 q6) λf Q z=>?_);have y: ∀{a:St}{H7:Hp},Inv X _ a H7 Q->N a H7-> ∃m,m<n/\ ∃i p H',Inv X pins p H' Q/\Y i Q.heap/\(∀b∈fp,H' b=none)/\W i m p H':=λ{a H7} q C=>by obtain⟨m',hm,w7⟩:=hN a H7 C;refine⟨m',hm,_,a,H7,q.unpinned,T.keep _ _ _ B λb c o e=>(q.pin (b,o) (õ _ (õ _ (DY c e)))).1,λb c=>?_,w7⟩;obtain⟨o,e,d⟩:=T.obj _ _ B b c;exact(q.pin (b,o) (õ _ (õ _ (DY c e)))).2.1
  cases f with
  |next=>obtain⟨a,H7,q,C⟩:=z;exact y q C
  |cont=>obtain⟨a,H7,q,C⟩:=z;exact y q C
  |brk=>obtain⟨a,H7,q,z⟩:=z;exact⟨a,H7,q.unpinned,z⟩
  |ret v=>obtain⟨x7,a,H7,q,r7,z⟩:=z;exact⟨x7,a,H7,q.unpinned,r7,z⟩
end
abbrev R2:=V->V->Hp->VK->Prop
def OpR(X:Cx)(f:ņ->ņ->Sem ņ)(r:R2):Prop:=
 ∀(pins:M0)(s:Ņ)(σ:St)(H:Hp)(x y:V)(v u:ņ)(Q:VK),Inv X pins σ H s->RelV x v->RelV y u->r x y H Q->
  wpAny ↑6 X.A (f v u) (EP X pins σ Q) X.xe s
def UnR(X:Cx)(f:ņ->Sem ņ)(r:V->Hp->VK->Prop):Prop:=
 ∀(pins:M0)(s:Ņ)(σ:St)(H:Hp)(x:V)(v:ņ)(Q:VK),Inv X pins σ H s->RelV x v->r x H Q->
  wpAny ↑6 X.A (f v) (EP X pins σ Q) X.xe s
def CallR(X:Cx)(f:ņ)(r:List V->Hp->VK->Prop):Prop:=
 ∀(pins:M0)(s:Ņ)(σ:St)(H:Hp)(xs:List V)(us:A0)(Q:VK),Inv X pins σ H s->Vals xs us->r xs H Q->
  wpAny ↑6 X.A (call f us) (EP X pins σ Q) X.xe s
def TruR(X:Cx)(r:V->Hp->(Bool->Hp->Prop)->Prop):Prop:=
 ∀(pins:M0)(s:Ņ)(σ:St)(H:Hp)(x:V)(v:ņ)(Q:Bool->Hp->Prop),Inv X pins σ H s->RelV x v->r x H Q->
  wpAny ↑6 X.A (truthy v) (TP X pins σ Q) X.xe s
def zHL(r:R2)(ta tb:TE):TE:=λσ H Q=>ta σ H λx H1=>tb σ H1 λy a=>r x y a Q
def tUn(r:V->Hp->VK->Prop)(ta:TE):TE:=λσ H Q=>ta σ H λx H1=>r x H1 Q
def rI(C:Int->Int->Prop)(g:Int->Int->V):R2:=λx y H Q=> ∃i j,x=.int i/\y=.int j/\C i j/\Q (g i j) H
def Uc(g:Int->Int->V):R2:=λx y H Q=> ∃i j,x=.int i/\y=.int j/\Q (g i j) H
def rU(g:Int->V):V->Hp->VK->Prop:=λx H Q=> ∃i,x=.int i/\Q (g i) H
section
variable{X:Cx}{a b:Expr}{ta tb:TE}{pos:Pos}
def P4(k:PE X a ta)(m:PE X b tb){s:Ņ}{R:V->V->Hp->Prop}(I:↑2)
  (h:ta σ H λx H1=>tb σ H1 λy c=>R x y c) {Q:VP} {f:ņ->ņ->Sem ņ}
  (hf: ∀v u e x y c,Inv X pins σ c e->RelV x v->RelV y u->R x y c->wpAny ↑6 X.A (f v u) Q X.xe e):
  wpAny ↑6 X.A (eval a X.env) (λv d=>wpAny ↑6 X.A (eval b X.env) (λu s₂=>wpAny ↑6 X.A (f v u) Q X.xe s₂) X.xe d) X.xe s:=by
 refine hZ (k pins s σ H _ I h) λv q ⟨x,H1,I1,p,j⟩=>?_;refine hZ (m pins q σ H1 _ I1 j) λu e ⟨y,c,n,o,i⟩=>?_;exact hf v u e x y c n p o i
def E4{c:Operator}{r:R2}(n:OpR X (binaryOp c) r)(d:PE X a ta)(e:PE X b tb):PE X (.BinOp a c b pos) (zHL r ta tb):=by rw[20];exact wpAny_BinOp (P4 d e I h λv u i x y m k o j q=>n pins i σ m x y v u Q k o j q)
def zEI{b:UnaryOp}{r:V->Hp->VK->Prop}(e:UnR X (unaryOp b) r)(d:PE X a ta):PE X (.UnaryOp b a pos) (tUn r ta):=by rw[20];exact UnaryOp_ (hZ (d pins s σ H _ I h) λv j ⟨x,H1,I1,i,c⟩=>e pins j σ H1 x v Q I1 i c)
def zDK{C:Int->Int->Prop}{g:Int->Int->Int}
  (rule: ∀(i j:Int)(t u:Tok)(s:Ņ)(Q:VP)(E:VP),C i j->Q (.int (g i j) s.toks) {s with toks:=s.toks+1}->wpAny ↑6 X.A (f (.int i t) (.int j u)) Q E s):
  OpR X f (rI C λi j=>.int (g i j)):=by
 intro pins s σ H x y v u Q I c b h;obtain⟨i,j,rfl,rfl,a,q⟩:=h;obtain⟨t,rfl⟩:=c;obtain⟨t',rfl⟩:=b;exact rule i j t t' s _ _ a ⟨.int _,H,I.tok _,⟨_,rfl⟩,q⟩
def P5{g:Int->Int->Int}
  (rule: ∀(i j:Int)(t u:Tok)(s:Ņ)(Q:VP)(E:VP),Q (.int (g i j) s.toks) {s with toks:=s.toks+1}->wpAny ↑6 X.A (f (.int i t) (.int j u)) Q E s):
  OpR X f (Uc λi j=>.int (g i j)):=by
 intro pins s σ H x y v u Q I b a h;obtain⟨i,j,rfl,rfl,q⟩:=h;obtain⟨t,rfl⟩:=b;obtain⟨t',rfl⟩:=a;exact rule i j t t' s _ _ ⟨.int _,H,I.tok _,⟨_,rfl⟩,q⟩
def zEJ{g:Int->Int->Bool}
  (rule: ∀(i j:Int)(t u:Tok)(s:Ņ)(Q:VP)(E:VP),Q (.bool (g i j)) s->wpAny ↑6 X.A (f (.int i t) (.int j u)) Q E s):
  OpR X f (Uc λi j=>.bl (g i j)):=by
 intro pins s σ H x y v u Q I b a h;obtain⟨i,j,rfl,rfl,q⟩:=h;obtain⟨t,rfl⟩:=b;obtain⟨t',rfl⟩:=a;exact rule i j t t' s _ _ ⟨.bl _,H,I,rfl,q⟩
def CPow(i j:Int):Prop:=0<=j/\j<=1000000/\i.natAbs<2 ^ 64
def CMul(i j:Int):Prop:=(-(2 ^ 64)<i/\i<2 ^ 64)\/(-(2 ^ 64)<j/\j<2 ^ 64)
def CMul.ok{i j:Int}(h:CMul i j):IntMulOk i j:=by
 rcases h with⟨h1,h2⟩|⟨h1,h2⟩
 .exact .of_left (intBits_le_64 h1 h2)
 .exact .of_right (intBits_le_64 h1 h2)
def Aw(k:Nat):(0:Int)<=2 ^ k:=by rw[two_pow_cast];exact Int.natCast_nonneg _
def P6:OpR X (binaryOp .Add) (Uc λi j=>.int (i+j)):=P5 λ_ _ _ _ _ _ _ q=>add_int q
def P8:OpR X (binaryOp .Sub) (Uc λi j=>.int (i - j)):=P5 λ_ _ _ _ _ _ _ q=>sub_int q
theorem P9:OpR X (binaryOp .Mod) (rI (λ_ j=>0<j) λi j=>.int (i % j)):=zDK λi j _ _ _ _ _ a q=>by have h1:_<j:=a;exact mod_int' #[0] (by rw[Int.fmod_eq_emod_of_nonneg i #[0]];exact q)
def Q3:OpR X (binaryOp .LShift) (rI CPow λi j=>.int (i * 2 ^ j.toNat)):=zDK λ_ _ _ _ _ _ _ a q=>lshift_int_small a.1 a.2.1 a.2.2 q
def Q4:OpR X (binaryOp .RShift) (rI (λ_ j=>0<=j) λi j=>.int (i / 2 ^ j.toNat)):=zDK λi j _ _ _ _ _ a q=>
 rshift_int a (by rw[Int.fdiv_eq_ediv_of_nonneg i (Aw _)];exact q)
def Q5:OpR X (binaryOp .BitAnd) (Uc λi j=>.int (Builtin.bitAnd i j)):=P5 λ_ _ _ _ _ _ _ q=>and_int q
def unI{f:ņ->Sem ņ}{g:Int->Int}
  (rule: ∀(i:Int)(t:Tok)(s:Ņ)(Q:VP)(E:VP),Q (.int (g i) s.toks) {s with toks:=s.toks+1}->wpAny ↑6 X.A (f (.int i t)) Q E s):
  UnR X f (rU λi=>.int (g i)):=by
 intro pins s σ H x v Q I a h;obtain⟨i,rfl,q⟩:=h;obtain⟨t,rfl⟩:=a;exact rule i t s _ _ ⟨.int (g i),H,I.tok _,⟨_,rfl⟩,q⟩
def Q6:UnR X (unaryOp .USub) (rU λi=>.int (-i)):=unI λ_ _ _ _ _ q=>neg_int q
end
section
variable{X:Cx}{a b:Expr}{ta tb:TE}{pos:Pos}
def Mu{s:Ņ}{Q:VK}{k k':Bool}(I:↑2)(q:Q (.bl k) H)(e:k=k'):EP X pins σ Q (.bool k') s:=by subst e;exact⟨.bl k,H,I,rfl,q⟩
def E5:OpR X (compareOp .Gt) (Uc λi j=>.bl (decide (j<i))):=zEJ λ_ _ _ _ _ _ _ q=>gt_int q
def zEK:OpR X (compareOp .GtE) (Uc λi j=>.bl (decide (j<=i))):=zEJ λ_ _ _ _ _ _ _ q=>ge_int q
def Ip:OpR X (compareOp .In) (λx y H Q=> ∃i j,x=.str i/\y=.str j/\Q (.bl (!(Builtin.Str.occurrences j i 0 j.length 1).isEmpty)) H):=by intro pins s σ H x y v u Q I b a h;obtain⟨i,j,rfl,rfl,q⟩:=h;obtain⟨t,rfl⟩:=b;obtain⟨t',rfl⟩:=a;exact in_str (Mu I q rfl)
def TB:OpR X (compareOp .NotIn) (λx y H Q=> ∃i j,x=.str i/\y=.str j/\Q (.bl (!(!(Builtin.Str.occurrences j i 0 j.length 1).isEmpty))) H):=by intro pins s σ H x y v u Q I b a h;obtain⟨i,j,rfl,rfl,q⟩:=h;obtain⟨t,rfl⟩:=b;obtain⟨t',rfl⟩:=a;exact notIn_str (Mu I q rfl)
def OpR.or{r a:R2}(h:OpR X f r)(h':OpR X f a):OpR X f (λx y H Q=>r x y H Q\/a x y H Q):=by
 intro pins s σ H x y v u Q I b c q;rcases q with q|q
 .exact h pins s σ H x y v u Q I b c q
 .exact h' pins s σ H x y v u Q I b c q
def Mv(b:Expr){a:CmpOp}(h:a≠.In:=by decide)(c:a≠.NotIn:=by decide):behindInMarks a b=false:=by
 have e1:(a==CmpOp.In)=false:=by cases a<;>first |rfl|exact absurd rfl h
 have e2:(a==CmpOp.NotIn)=false:=by cases a<;>first |rfl|exact absurd rfl c
 cases b<;>simp[behindInMarks,e1,e2]
def Ud{c:CmpOp}{r:R2}(o:OpR X (compareOp c) r)(d:PE X a ta)(i:PE X b tb)(e:behindInMarks c b=false):PE X (.Compare a [c] [b] pos) (zHL r ta tb):=by rw[20];exact wpAny_Compare1 (P4 d i I h λv u j x y n m p k q=>o pins j σ n x y v u Q m p k q) e
def zEL(t:TE):TT:=λσ H Q=>t σ H λx H'=> ∃k,x=.bl k/\Q k H'
def Ue{d:CmpOp}{r:R2}(G:OpR X (compareOp d) r)(o:PE X a ta)(q:PE X b tb)(p:behindInMarks d b=false):PT X (.Compare a [d] [b] pos) (zEL (zHL r ta tb)):=by
 rw[20]
 refine wpAny_isTrue_Compare1 (hZ (o pins s σ H _ I h) λv D ⟨x,H1,I1,C,n⟩=>hZ (q pins D σ H1 _ I1 n) λu w ⟨y,E,A,B,i⟩=>
  hZ (G pins w σ E x y v u _ A C B i) λc K ⟨z,F,j,m,k,e,J⟩=>?_) p
 subst e;cases m;exact ć ⟨F,j,J⟩
def Q7(K:Q0)(x:V)(H:Hp)(k:Bool):Prop:=
 match x with
 |.non=>k=false
 |.bl b=>k=b
 |.int i=>k=(i !=0)
 |.str y=>y.length<=sizeLine/\k=((y.length:Int) !=0)
 |.byt y=>y.size<=sizeLine/\k=((y.size:Int) !=0)
 |.ref p=>(∃xs,SqL K H p xs/\k= !xs.isEmpty)\/(∃xs,SqT K H p xs/\k= !xs.isEmpty)\/ ∃kvs,H p=some (.dK kvs)/\k= !kvs.isEmpty
 |_=>False
theorem Ax{a:Type}{kvs:List (a×V)}{vs:List (a×ņ)}(r:KV kvs vs):(!vs.isEmpty)= !kvs.isEmpty:=by cases r<;>rfl
def LP{xs:List V}{its:A0}(r:Vals xs its):(!its.toArray.isEmpty)= !xs.isEmpty:=by cases r<;>simp
def DZ:(sizeLine:Nat)<2 ^ 63:=by rw[Ċ];decide
theorem Q8:TruR X (λx H Q=> ∃k,Q7 X.K x H k/\Q k H):=by
 intro pins s σ H x v Q I d h;obtain⟨k,e,q⟩:=h;have w:=DZ;have hs:=Ċ
 cases x with
 |non=>
  cases d;have a:=e;subst a;exact truthy_none ⟨H,I,q⟩
 |bl b=>
  cases d;have a:=e;subst a;exact ć ⟨H,I,q⟩
 |int i=>
  obtain⟨t,rfl⟩:=d;have a:k=_:=e;subst a;exact PySem.P.truthy_int ⟨H,I,q⟩
 |str y=>
  obtain⟨t,rfl⟩:=d;obtain⟨o,a⟩:y.length<=sizeLine/\k=_:=e;subst a;exact PySem.P.truthy_str #[0] ⟨H,I.tok _,q⟩
 |byt y=>
  obtain⟨t,rfl⟩:=d;obtain⟨o,a⟩:y.size<=sizeLine/\k=_:=e;subst a;exact PySem.W.truthy_bytes #[0] ⟨H,I.tok _,q⟩
 |ref p=>
  cases d;have a:_\/_\/ ∃kvs,H p=some (.dK kvs)/\k= !kvs.isEmpty:=e;rcases a with⟨xs,hx,a⟩|⟨xs,hx,a⟩|⟨kvs,hx,a⟩
  .subst a;obtain⟨its,r,j,n⟩:=I.list hx;have c:=r.length;exact wpAny_truthy_list j.isList (by simp only[sA];lia) ⟨H,I.tok _,by rw[LP r];exact q⟩
  .subst a;obtain⟨its,r,j,n⟩:=I.tuple hx;have c:=r.length;exact truthy_tuple j (by simp only[sA];lia) ⟨H,I.tok _,by rw[LP r];exact q⟩
  .subst a;obtain⟨n,u,vs,r,m⟩:kvs.length<=sizeLine/\_=false/\ ∃vs,KV kvs vs/\s.heap.DictOf _ p vs:=I.hok p _ hx;have c:kvs.length=vs.length:=Paired.length r;exact wpAny_truthy_dict u m #[0] ⟨H,I.tok _,by rw[Ax r];exact q⟩
 |_=>exact e.elim
def Mw(e:PE X a ta)(c: ∀b,isTrue a X.env b=(do let v <-b;standAt a.pos;holding [v] (truthy v))):
  PT X a (λσ H Q=>ta σ H λx H'=> ∃k,Q7 X.K x H' k/\Q k H'):=by
 rw[20];exact isTrue_plain (hZ (e pins s σ H _ I h) λv j ⟨x,H1,I1,i,d⟩=>Q8 pins j σ H1 x v Q I1 i d) (c _)
def Ay:OpR X (binaryOp .Add) (λx y H Q=> ∃i j,x=.str i/\y=.str j/\i.length+j.length<=sizeLine/\Q (.str (i++j)) H):=by intro pins s σ H x y v u Q I b a h;obtain⟨i,j,rfl,rfl,c,q⟩:=h;obtain⟨t,rfl⟩:=b;obtain⟨t',rfl⟩:=a;exact add_str (λt' tk=>⟨.str _,H,I.tok _,⟨_,rfl⟩,q⟩) c
def vals1{x:V}(r:Vals [x] us): ∃u,us=[u]/\RelV x u:=by
 cases r with
 |cons r1 r2=>cases r2;exact⟨_,rfl,r1⟩
def vals2{x y:V}(r:Vals [x,y] us): ∃u a,us=[u,a]/\RelV x u/\RelV y a:=by
 cases r with
 |cons r1 r2=>
  cases r2 with
  |cons r3 r4=>cases r4;exact⟨_,_,rfl,r1,r3⟩
def Iq(b:X.calm=true):CallR X (.builtin "min") (λxs H Q=> ∃i j,xs=[.int i,.int j]/\Q (.int (if j<i then j else i)) H):=by
 rw[21];obtain⟨i,j,rfl,q⟩:=h;obtain⟨u,c,rfl,⟨t,rfl⟩,⟨t',rfl⟩⟩:=vals2 r;refine min_two_ints (I.ok.hd b) λh' tk k=>⟨_,H,I.kept k,?_,q⟩
 by_cases a:j<i
 .rw[iP a,iP a];exact⟨_,rfl⟩
 .rw[iN a,iN a];exact⟨_,rfl⟩
end
structure ObjM(h:Heap)(x dx C:Addr)(mA:L0):Prop where
 obj:h.get? x=some (PySem.W.instObj C dx)
 ns:h.Ns1 dx mA
 ne:dx≠x
def Ir{h:Heap}{dx:Addr}{mA:L0}(n:h.Ns1 dx mA): ∃c,h.get? dx=some c/\ ∀name,PySem.W.lookIn name c=some (mA name):=by
 obtain⟨o,es,ep,m,d,k,_,i⟩:=n;refine⟨o,m,λname=>?_⟩;have e:=i name;unfold nsFind findBy at e;rw[<-Array.find?_toList]at e;unfold PySem.W.lookIn;rw[d];dsimp only;split
 .rename_i y q;rw[q]at e;exact congrArg some e
 .rename_i q;rw[q]at e;have a:es.toList.any (·.refKey)=false:=by rw[ý];intro y j;obtain⟨z,t,b⟩:=k y (Array.mem_toList_iff.mp j);simp[DictEntry.refKey,b]
  have p: ¬es.toList.any (·.refKey)=true:=by rw[a];exact xF0
  rw[iN p];exact congrArg some e
def ObjM.look{h:Heap}{x dx:Addr}{mA:L0}(I:ObjM h x dx C mA): ∃a,PySem.W.InstAt h x (PySem.W.instObj C dx) C (some a)/\ ∀name,PySem.W.lookIn name a=some (mA name):=
 let ⟨a,c,b⟩:=Ir I.ns
 ⟨a,⟨I.obj,rfl,rfl,c⟩,b⟩
section
variable{prog:ň}{w:World}{A:Ň}{E:VP}{s:Ņ}{K:Q0}{x dx C f:Addr}{mA:L0}{name:Str}{v:ņ}
def Ug{expr:Bool}{Q:VP}(X:K.In s.heap)(I:ObjM s.heap x dx C mA)(a:PySem.W.plainGet K C name=true)(c:PySem.W.hasDictIn K C=true)
  (ha:PySem.W.findIn K (.ref C) name=some none) (hv:mA name=some v) (hv':PySem.W.handedIn v=true) (h:Q v {s with toks:=s.toks+1}):
  wpAny ↑9 A (getAttr (.ref x) name expr) Q E s:=by
 obtain⟨d,J,b⟩:=I.look;exact PySem.W.get_value X J (PySem.W.plainGet_of a).1 (PySem.W.findObj_own c ha rfl (by rw[b,hv])) hv' h
def Mx{b:Sem Bool}{Q:ņ×List ņ->Ņ->Prop}(X:K.In s.heap)(I:ObjM s.heap x dx C mA)(a:PySem.W.plainGet K C name=true)
  (hf:PySem.W.findIn K (.ref C) name=some (some (.ref f))) (ht:PySem.W.isFn K (.ref f)=true) (hv:mA name=none) (h:Q (.ref f,[.ref x]) s):
  wpAny ↑9 A (getMethod (.ref x) name b) Q E s:=by
 obtain⟨d,J,c⟩:=I.look;exact PySem.W.method_fn X J (PySem.W.plainGet_of a).1 (PySem.W.plainGet_of a).2 hf (beq_iff_eq.mp ht) (by show(PySem.W.lookIn name d).map _=some false;rw[c,hv];rfl) h
theorem Uh{k:K0}(X:K.In s.heap)(I:ObjM s.heap x dx C mA)
  (hs:PySem.W.findIn K (.ref C) "__setattr__"=some (some (.builtin "object.__setattr__"))) (hp:PySem.W.plainOver K C=true) (ht:PySem.W.takerIn K C name=some none) (hh:PySem.W.hasDictIn K C=true)
  (hw:PySem.Within mA k) (hsz:k.length<=sizeLine)
  (h: ∀h',ObjM h' x dx C (λy=>if y=name then some v else mA y)->Heap.SameBut dx s.heap h'->Q () {s with heap:=h',toks:=s.toks+2}):
  wpAny ↑9 A (setAttr (.ref x) name v) Q E s:=by
 obtain⟨z,J,u⟩:=I.look;refine PySem.W.set_plain X J hs (PySem.W.osa_open X J hp ht λb=>?_);obtain⟨q,m,i⟩:=PySem.W.any_some hh;have n:=I.obj;refine wB (wP (wB (wB (wpAny_loadPart n (wB (PySem.W.Looks.here (PySem.W.looks_clsIn X m) ?_))))));rw[i];refine wP (wB (wP (wB ?_)));refine wpAny_nsSet1 I.ns λh' a c=>?_;obtain⟨r,o,p,j,e,d⟩:=a.count (PySem.Within.cons name v hw);refine wB (wpAny_lookBehind j (by rw[e];exact pastItsLine_dict (ì d (by rw[lC];lia))) ?_);exact wP (h _ ⟨(c.2 _ (Ne.symm I.ne)).trans I.obj,a,I.ne⟩ c)
def Mz{R:Result->Ņ->Prop}{vs:A0}{b:List (Str×ņ)}(X:K.In s.heap)(c:PySem.W.makesIn K C=true)
  (hi:PySem.W.findIn K (.ref C) "__init__"=some (some (.ref f))) (hf:PySem.W.typeIn K (.ref f)=some (.type "function"))
  (h:codeAny ↑9 (A.under (.builtin "type.__call__" ⟨.ref C::vs,b⟩)) (.call (.ref f) ⟨.ref (↑1+1)::vs,b⟩) (PySem.W.InitBack (↑1+1) R)
   {s with heap:=(s.heap.push PySem.W.emptyDict).push (PySem.W.instObj C ↑1)}):
  codeAny ↑9 A (.call (.ref C) ⟨vs,b⟩) R s:=by
 exact PySem.W.make_core (PySem.W.makes_of X c) (PySem.W.looks_findIn X hi) (λa=>PySem.W.bind_fn X a hf) (.inl rfl) h
end
noncomputable def CZ(f:Str)(v:V):List (Str×V)->List (Str×V)
 |[]=>[(f,v)]
 |(g,x)::r=>if g=f then(g,v)::r else(g,x)::CZ f v r
theorem JG(f g:Str)(v:V): ∀fs:List (Str×V),(CZ f v fs).lookup g=if g=f then some v else fs.lookup g
 |[]=>by
  show List.lookup g [_]=_;by_cases h:g=f
  .have a:_=true:=beq_iff_eq.mpr h;simp only[List.lookup,a,iP h]
  .have a:_=false:=ħ.mpr h;simp only[List.lookup,a,iN h]
 |(k,x)::r=>by
  have c:=JG f g v r;rw[show CZ f v _=(if k=f then _::r else _::CZ f v r)from rfl];by_cases b:k=f
  .rw[iP b];by_cases h:g=k
   .have a:_=true:=beq_iff_eq.mpr h;simp only[List.lookup,a,iP (h.trans b)]
   .have a:_=false:=ħ.mpr h;simp only[List.lookup,a,iN (λe:g=f=>h (e.trans b.symm))]
  .rw[iN b];by_cases h:g=k
   .have a:_=true:=beq_iff_eq.mpr h;simp only[List.lookup,a,iN (λe:g=f=>b (h.symm.trans e))]
   .have a:_=false:=ħ.mpr h;simp only[List.lookup,a];exact c
theorem HP(f:Str)(v:V): ∀fs:List (Str×V),f∈(CZ f v fs).map (·.1)/\ ∀g,g∈fs.map (·.1)->g∈(CZ f v fs).map (·.1)
 |[]=>⟨by simp[CZ],λg h=>by simp at h⟩
 |(k,x)::r=>by
  obtain⟨b,c⟩:=HP f v r;rw[show CZ f v _=(if k=f then _::r else _::CZ f v r)from rfl];by_cases a:k=f
  .rw[iP a];subst a;exact⟨by simp,λg h=>by simpa using h⟩
  .rw[iN a];refine⟨?_,λg h=>?_⟩
   .rw[ê];exact mO _ b
   .rw[ê]at h ⊢;rcases mC.mp h with e|e
    .exact mC.mpr (.inl e)
    .exact mO _ (c g e)
theorem JH(f:Str)(v:V): ∀fs:List (Str×V),(CZ f v fs).length<=fs.length+1
 |[]=>by simp[CZ]
 |(k,x)::r=>by
  have b:=JH f v r;rw[show CZ f v _=(if k=f then _::r else _::CZ f v r)from rfl];by_cases a:k=f
  .rw[iP a,lC,lC];lia
  .rw[iN a,lC,lC];lia
def RelO.some_of{o:Option ņ}(r:RelO (some v) o): ∃u,o=some u/\RelV v u:=by
 cases o with
 |none=>exact r.elim
 |some u=>exact⟨u,rfl,r⟩
def RelO.none_of{o:Option ņ}(r:RelO none o):o=none:=by
 cases o with
 |none=>rfl
 |some u=>exact r.elim
theorem Iu{u:ņ}(r:RelV v u):PySem.W.handedIn u=true:=by
 cases v with
 |non=>cases r;rfl
 |bl b=>cases r;rfl
 |int i=>obtain⟨t,e⟩:=r;cases e;rfl
 |str x=>obtain⟨t,e⟩:=r;cases e;rfl
 |byt b=>obtain⟨t,e⟩:=r;cases e;rfl
 |flt b=>obtain⟨t,e⟩:=r;cases e;rfl
 |ref a=>cases r;rfl
 |ty n=>cases r;rfl
section
variable{P:ň}{w:World}{H:Hp}{h:Heap}{a C dx:Addr}{fs:List (Str×V)}
def Ui(b:HOk P w H h)(e:H a=some (.ins C dx fs)): ∃mA,ObjM h a dx C mA/\(∀f,RelO (fs.lookup f) (mA f))/\PySem.Within mA (fs.map (·.1))/\fs.length<=1000/\H dx=some (.own a):=by
 obtain⟨d,z,ne,ob,mA,n,r,q⟩:=(b a _ e)
 exact⟨mA,⟨ob,n,ne⟩,r,q,z,d⟩
end
structure Cls(K:Q0)(C:Addr):Prop where
 pg:PySem.W.plainGet K C Str.empty=true
 hd:PySem.W.hasDictIn K C=true
 po:PySem.W.plainOver K C=true
 sa:PySem.W.findIn K (.ref C) "__setattr__"=some (some (.builtin "object.__setattr__"))
def Cls.get{K:Q0}(c:Cls K C)(f:Str):PySem.W.plainGet K C f=true:=c.pg
def NoAttr(K:Q0)(C:Addr)(f:Str):Prop:=PySem.W.findIn K (.ref C) f=some none
theorem NoAttr.taker{K:Q0}{f:Str}(n:NoAttr K C f):PySem.W.takerIn K C f=some none:=by unfold PySem.W.takerIn;rw[show PySem.W.findIn K _ f=some none from n];rfl
structure Meth(K:Q0)(C:Addr)(m:Str)(f:Addr):Prop where
 at_:PySem.W.findIn K (.ref C) m=some (some (.ref f))
 fn:PySem.W.isFn K (.ref f)=true
 kp:PySem.W.keepIn K (.ref f)=true
section
variable{X:Cx}{pins:M0}{σ:St}{H:Hp}{s:Ņ}{a C dx:Addr}{fs:List (Str×V)}{f:Str}{A:Ň}{E:VP}
theorem Az{y:V}{u:ņ}(I:↑2)(e:H a=some (.ins C dx fs))(c:Cls X.K C)(n:NoAttr X.K C f)(G:fs.length<1000)(D:RelV y u)
  (h: ∀s',Inv X pins σ (xY H a (.ins C dx (CZ f y fs))) s'->Q () s'):wpAny ↑6 A (setAttr (.ref a) f u) Q E s:=by
 obtain⟨mA,O,r,i,_,j⟩:=Ui I.hok e;have F:(fs.map (·.1)).length<=sizeLine:=by rw[lM,Ċ];lia
 refine Uh I.kIn O c.sa c.po n.taker c.hd i F λh' d v=>h _ ?_;have p: ∃o,h'.get? dx=some o:=let ⟨o,_,_,m,_⟩:=d.ns;⟨o,m⟩;refine I.write (by rw[e];exact True.intro) (.inr j) (λb q B z=>(v.2 b B).trans z) p ?_;refine⟨by rw[zL O.ne];exact j,?_,O.ne,d.obj,_,d.ns,λg=>?_,λg k=>?_⟩
 .have:=JH f y fs;lia
 .show RelO _ _;rw[JG];by_cases q:g=f
  .rw[iP q,iP q];exact D
  .rw[iN q,iN q];exact r g
 .by_cases q:g=f
  .rw[q];exact(HP f y fs).1
  .refine(HP f y fs).2 g (i g λz=>k ?_);show(if g=f then some u else mA g)=none;rw[iN q];exact z
def Inv.made(I:↑2):Inv X pins σ (xY (xY H ↑1 (.own (↑1+1))) (↑1+1) (.ins C ↑1 []))
  {s with heap:=(s.heap.push PySem.W.emptyDict).push (PySem.W.instObj C ↑1)}:=by
 have e1:(s.heap.push PySem.W.emptyDict).get? ↑1=some PySem.W.emptyDict:=ä s.heap rfl;have e2:=by have:=ä (s.heap.push PySem.W.emptyDict) (o:=PySem.W.instObj C ↑1) rfl;rwa [Ĝ]at this
 have d:(s.heap.push PySem.W.emptyDict).Ns ↑1 (λ_=>none):=⟨_,#[],_,e1,rfl,(λe a=>absurd a (by simp)),λ_=>rfl⟩
 have I1:=I.laid (o:=.own (↑1+1)) (t':=s.toks) (λb u q=>hP0 _ q) (à _) ⟨_,e1⟩;refine I1.laid (λb u q=>hP0 _ q) (Nat.le_of_eq (Ĝ _ _)) ?_;have ne:↑1≠↑1+1:=â (ė _);refine⟨by rw[zL ne,zX],zero_le _,ne,e2,λ_=>none,(Heap.Ns1.of_empty d).at λo q=>hP0 _ q,λ_=>True.intro,λy c=>absurd rfl c⟩
def Uj{prog:ň}{w:World}{a:Env}{e:Expr}{f:Str}{s:Ņ}{Q:VP}(c:attributeBase e f a (eval e a)=eval e a)
  (h:wpAny ↑9 A (eval e a) (λo b=>wpAny ↑9 A (getAttr o f true) Q E b) E s):wpAny ↑9 A (eval (.Attribute e f pos) a) Q E s:=
 Attribute_any_ h (by rw[arm_eval_Attribute,c])
end
def zEM(K:Q0)(ta tv:TE)(f:Str):TS:=λD σ H=>tv σ H λy H1=>ta σ H1 λx b=> ∃a C dx fs,x=.ref a/\b a=some (.ins C dx fs)/\Cls K C/\NoAttr K C f/\fs.length<1000/\
 D.nx σ (xY b a (.ins C dx (CZ f y fs)))
section
variable{X:Cx}{o value:Expr}{f:Str}{pos pos':Pos}{ta tv:TE}
def Q9(e:PE X o ta)(m:PE X value tv)(hs:swapsWith value (some (.Attribute o f pos')) pos.line X.env=pure false):PS X (.Assign [.Attribute o f pos'] value pos) (zEM X.K ta tv f):=by intro pins s σ H D I h;refine plainObj_wpAny_Assign_Attribute (hZ (m pins s σ H _ I h) λu i ⟨y,H1,I1,p,q⟩=>hZ (e pins i σ H1 _ I1 q) λv w ⟨x,A,r,k,a,C,dx,fs,ex,j,c,n,l,b⟩=>?_) hs;subst ex;obtain rfl:v=Value.ref a:=k;exact Az r j c n l p λz d=>⟨σ,_,d,b⟩
end
section
variable{H:Hp}
inductive FY(K:Q0)(H:Hp):V->ņ->Prop where
 |non:FY K H .non (.type "NoneType")
 |bl (x:Bool):FY K H (.bl x) (.type "bool")
 |int (i:Int):FY K H (.int i) (.type "int")
 |str (x:Str):FY K H (.str x) (.type "str")
 |flt (x:UInt64):FY K H (.flt x) (.type "float")
 |lst {a:Addr} {xs:List V} (e:H a=some (.lst xs)):FY K H (.ref a) (.type "list")
 |frz {a:Addr} {o:Obj} {xs:List V} (e:H a=some (.frz o (.lst xs))):FY K H (.ref a) (.type "list")
 |tup {a:Addr} {xs:List V} (e:H a=some (.tup xs)):FY K H (.ref a) (.type "tuple")
 |dK {a:Addr} {kvs:List (Key×V)} (e:H a=some (.dK kvs)):FY K H (.ref a) (.type "dict")
 |dT {a:Addr} {kvs:List (List Key×V)} (e:H a=some (.dT kvs)):FY K H (.ref a) (.type "dict")
 |ins {a C dx:Addr} {fs:List (Str×V)} (e:H a=some (.ins C dx fs)) (cl:Cls K C) (ha:PySem.W.findIn K (.ref C) "__class__"=some (some (.builtin "object.__class__")))
   (hn:PySem.W.specialIn K (.builtin "object.__class__") "__get__"=some (some (.builtin "getset_descriptor.__get__"))) (htk:PySem.W.takesIn K (.builtin "object.__class__")=some true)
   (hm:PySem.W.mroIn K C (.type "object")=some true):FY K H (.ref a) (.ref C)
end
structure Room(k:Nat)(A:Ň):Prop where
 hd:A.handled=none
 dp:A.depth+3 * k+5<recursionLimit
 un:A.units+16 * k+200<cLine
theorem Room.mono{j k:Nat}{A:Ň}(r:Room k A)(h:j<=k):Room j A:=⟨r.hd,by have:=r.dp;lia,by have:=r.un;lia⟩
theorem Room.deeper{k:Nat}{A:Ň}(r:Room (k+1) A)(a:Env):Room k (A.deeper a):=
 ⟨r.hd,by have:=r.dp;show A.depth+1+3 * k+5<_;lia,by have:=r.un;show A.units+3+16 * k+200<_;lia⟩
theorem Room.in1{k:Nat}{A:Ň}(r:Room (k+1) A):Room k A.in1:=
 ⟨r.hd,by have:=r.dp;show A.depth+3 * k+5<_;lia,by have:=r.un;show A.units+1+16 * k+200<_;lia⟩
def Ba{A:Ň}{a:List (Str×ņ)}:(A.under (.builtin "type.__call__" ⟨.ref C::us,a⟩)).depth=A.depth+1:=by
 first |rfl|simp[Code.weight]
def Bb{A:Ň}{a:List (Str×ņ)}:(A.under (.builtin "type.__call__" ⟨.ref C::us,a⟩)).units=A.units+1:=by
 first |rfl|simp[Code.cUnits]
theorem Room.make{k:Nat}{A:Ň}(r:Room (k+1) A)(C:Addr)(us:A0)(a:List (Str×ņ)):Room k (A.under (.builtin "type.__call__" ⟨.ref C::us,a⟩)):=
 ⟨r.hd,by have:=r.dp;rw[Ba];lia,by have:=r.un;rw[Bb];lia⟩
def Room.depth{k:Nat}{A:Ň}(r:Room k A):A.depth<recursionLimit:=by have:=r.dp;omega
def Room.units{k:Nat}{A:Ň}(r:Room k A):A.units+64<cLine:=by have:=r.un;omega
def zEN:TA:=λ_ H Q=>Q [] H
def E6(ta:TE)(tr:TA):TA:=λσ H Q=>ta σ H λx H1=>tr σ H1 λxs a=>Q (x::xs) a
section
variable{X:Cx}{e:Expr}{es:P0}{te:TE}{t:TA}{pos:Pos}
def TC:PA X [] zEN:=λ_ _ _ _ H Q I h=>Calls.spliced_nil ⟨[],H,I,.nil,h⟩
abbrev q8(X:Cx)(e:Expr)(es:List Expr):Prop:=starEach (e::es) X.env=(false,eval e X.env)::starEach es X.env
def KW(c:PE X e te)(n:PA X es t)(hs:q8 X e es:=by rfl):PA X (e::es) (E6 te t):=by intro pos pins s σ H Q I h;rw[hs];show wpAny _ _ _ _ _ s;refine Calls.spliced_cons (hZ (c pins s σ H _ I h) λu k ⟨x,H1,I1,j,b⟩=>?_);exact hZ (n pos pins k σ H1 _ I1 b) λus o ⟨xs,m,d,i,a⟩=>⟨_,m,d,.cons j i,a⟩
def tTup(t:TA):TE:=λσ H Q=>t σ H λxs H1=>↑33<=sizeLine/\ ∀p,H1 p=none->Q (.ref p) (xY H1 p (.tup xs))
def tLst(t:TA):TE:=λσ H Q=>t σ H λxs H1=>↑33<=sizeLine/\ ∀p,H1 p=none->Q (.ref p) (xY H1 p (.lst xs))
def R1{x1}(h:PA X es t):PE X (.Tuple es x1 pos) (tTup t):=by intro pins s σ H Q I a;refine wpAny_Tuple_spliced (hZ (h pos pins s σ H _ I a) λus c ⟨xs,H1,I1,r,z,q⟩=>⟨by rw[<-r.length];exact z,?_⟩);have d:=I1.hok.fresh (à _);refine⟨.ref c.heap.objs.size,_,I1.laid (λb u e=>hP0 _ e) (à _) ?_,rfl,q _ d⟩;exact⟨z,us,r,⟨_,ä _ rfl,rfl,_,rfl⟩⟩
def R3(h:PA X es t):PE X (.List es pos) (tLst t):=by intro pins s σ H Q I a;refine wpAny_List_spliced (hZ (h pos pins s σ H _ I a) λus c ⟨xs,H1,I1,r,z,q⟩=>⟨by rw[<-r.length];exact z,?_⟩);have d:=I1.hok.fresh (à _);refine⟨.ref c.heap.objs.size,_,I1.laid (λb u e=>hP0 _ e) (à _) ?_,rfl,q _ d⟩;exact⟨z,us,0,r,ä _ rfl⟩
end
abbrev Sp:=List V->Hp->VK->XK->Prop
abbrev Ef:=List Env->Hp->Shared->XK->VP
variable{CX:Ef}
structure Env0(P:ň)(w:World)(K:Q0)(mg:L0)(base:Heap)(A:Ň)(outer:List Env)(s:Ņ)(H:Hp):Prop where
 frames:A.frames=some outer
 mod:Mod K mg base
 bs: ∀b o,base.get? b=some o->s.heap.get? b=some o/\H b=none
 bsz:base.objs.size<=↑1
 funs:s.heap.FunFrames base outer
 frf: ∀b∈Ik outer,H b=none
 hok:HOk P w H s.heap
 bare:AllBare s.gens
def CE(a:List Env)(P:ň)(w:World)(H:Hp)(s:Ņ)(Q:VK)(u:ņ)(s':Ņ):Prop:=
 ∃v H',s'.os=s.os/\AllBare s'.gens/\Un (Ik a) [] H H' s.heap s'.heap/\HOk P w H' s'.heap/\RelV v u/\Q v H'
def CR(CX:Ef)(a:List Env)(P:ň)(w:World)(H:Hp)(s:Ņ)(Q:VK)(E:XK)(r:Result)(s':Ņ):Prop:=
 match r with
 |.ok (.ret u)=>CE a P w H s Q u s'
 |.ok _=>False
 |.error e=>CX a H s E e s'
structure FnOk(P:ň)(w:World)(K:Q0)(mg:L0)(base:Heap)(CX:Ef)(k:Nat)(f:Addr)(fd:FuncData)(ps:K0)(sp:Sp):Prop where
 len: ∀vs H Q E,sp vs H Q E->vs.length=ps.length
 run: ∀(A:Ň)(outer:List Env)(s:Ņ)(H:Hp)(args:Args)(us:A0)(vs:List V)(Q:VK)(E:XK),Room k A->Env0 P w K mg base A outer s H->BindsTo s fd args (ps.zip us)->Vals vs us->sp vs H Q E->
  codeAny (model P w) A (.call (.ref f) args) (CR CX outer P w H s Q E) s
def FnOk.mono{P:ň}{w:World}{K:Q0}{mg:L0}{base:Heap}{j k:Nat}{f:Addr}{fd:FuncData}{sp:Sp}(F:FnOk P w K mg base CX j f fd ps sp)(h:j<=k):
  FnOk P w K mg base CX k f fd ps sp:=⟨F.len,λA a s H b us vs Q E c=>F.run A a s H b us vs Q E (c.mono h)⟩
def FnOk.imp{P:ň}{w:World}{K:Q0}{mg:L0}{base:Heap}{k:Nat}{f:Addr}{fd:FuncData}{sp b:Sp}(F:FnOk P w K mg base CX k f fd ps sp)
  (h: ∀vs H Q E,b vs H Q E->sp vs H Q E):FnOk P w K mg base CX k f fd ps b:=
 ⟨λvs H Q E q=>F.len vs H Q E (h _ _ _ _ q),λA a s H c us vs Q E j d i e hs=>F.run A a s H c us vs Q E j d i e (h _ _ _ _ hs)⟩
def Env0.make{P:ň}{w:World}{K:Q0}{mg:L0}{base:Heap}{A:Ň}{a:List Env}{s:Ņ}(e:Env0 P w K mg base A a s H)(C:Addr)(us:A0)(b:List (Str×ņ)):
  Env0 P w K mg base (A.under (.builtin "type.__call__" ⟨.ref C::us,b⟩)) a s H:=⟨by first |exact e.frames|(simpa [Around.under,Code.envs,Code.isFrame,pushEnvs]using e.frames),e.mod,e.bs,e.bsz,e.funs,e.frf,e.hok,e.bare⟩
def Env0.in1{P:ň}{w:World}{K:Q0}{mg:L0}{base:Heap}{A:Ň}{a:List Env}{s:Ņ}(e:Env0 P w K mg base A a s H):
  Env0 P w K mg base A.in1 a s H:=⟨e.frames,e.mod,e.bs,e.bsz,e.funs,e.frf,e.hok,e.bare⟩
section
variable{X:Cx}{pins:M0}{σ:St}{H:Hp}{s s':Ņ}
def Inv.env0(I:↑2):Env0 X.prog X.w X.K X.mg X.base X.A X.stack s H:=
 ⟨I.ok.frames,I.ok.mod,I.bs,ì I.ok.bsz I.sz,I.stack,I.stkFree,I.hok,I.bare⟩
def Inv.after{Q:VK}{u:ņ}(I:↑2)(h:CE X.stack X.prog X.w H s Q u s'):EP X pins σ Q u s':=by obtain⟨v,H',i,a,un,c,r,q⟩:=h;obtain⟨j,g,d,t,e⟩:=s';obtain rfl:e=s.os:=i;exact⟨v,H',I.call un c a (λb z=>absurd z (by simp)),r,q⟩
end
def zEO(sp:Sp)(dvs:List V)(E:XK)(t:TA):TE:=λσ H Q=>t σ H λvs H1=>sp (vs++dvs) H1 Q E
def E7(C:Addr)(sp:Sp)(dvs:List V)(E:XK)(t:TA):TE:=λσ H Q=>t σ H λvs H1=> ∀x dx,H1 x=none->H1 dx=none->dx≠x->
 sp (.ref x::(vs++dvs)) (xY (xY H1 dx (.own x)) x (.ins C dx [])) (λv a=>v=.non/\Q (.ref x) a) E
def Binds(K:Q0)(fd:FuncData)(ps:K0)(ds:A0):Prop:=
 ∀(s:Ņ)(us:A0),K.In s.heap->(us++ds).length=ps.length->BindsTo s fd ⟨us,[]⟩ (ps.zip (us++ds))
def Binds.all{K:Q0}{fd:FuncData}(h: ∀us:List ņ,us.length=ps.length->bindArgs fd ⟨us,[]⟩=pure (ps.zip us)):Binds K fd ps []:=λs us _ a=>by rw[aN]at a ⊢;exact .of_eq (h us a)
def LQ(CX:Ef)(X:Cx)(E:XK):Prop:= ∀(pins:M0)(σ:St)(H:Hp)(s:Ņ)(e:ņ)(s':Ņ),Inv X pins σ H s->CX X.stack H s E e s'->X.xe e s'
section
variable{X:Cx}{CX:Ef}{k:Nat}{f C:Addr}{fd:FuncData}{ps:K0}{sp:Sp}{dvs:List V}{ds:A0}{E:XK}{x:Str}{p pos:Pos}{e:Expr}{es:P0}{t:TA}
def Na{s:Ņ}{Q:VK}{vs:List V}(F:FnOk X.prog X.w X.K X.mg X.base CX k f fd ps sp)(j:Room k X.A)(i:Binds X.K fd ps ds)(d:Vals dvs ds)(m:LQ CX X E)
  (I:↑2) (r:Vals vs us) (h:sp (vs++dvs) H Q E):wpAny ↑6 X.A (call (.ref f) us) (EP X pins σ Q) X.xe s:=by
 have b:Vals _ _:=r.append d;have c:(us++ds).length=ps.length:=by rw[<-b.length];exact F.len _ _ _ _ h
 refine wpAny_call (ĳ (F.run X.A X.stack s H ⟨us,[]⟩ _ _ Q E j I.env0 (i s us I.kIn c) b h) λr s' a=>?_)
 cases r with
 |error e=>exact m pins σ H s e s' I a
 |ok fl=>
  cases fl with
  |ret u=>exact I.after a
  |next=>exact False.elim a
  |brk=>exact False.elim a
  |cont=>exact False.elim a
abbrev q9(X:Cx)(p:Pos)(es:List Expr):Prop:=(backTo p (starEach es X.env)).any (·.1)=false
def Uk(F:FnOk X.prog X.w X.K X.mg X.base CX k f fd ps sp)(m:Room k X.A)(a:Gl X x)(c:X.mg x=some (.ref f))(j:PySem.W.keepIn X.K (.ref f)=true)(d:Binds X.K fd ps ds)(b:Vals dvs ds)(i:LQ CX X E)
  (ha:PA X (e::es) t) (hdb:↑28=false:=by decide) (he:q8 X e es:=by rfl) (hpl:q9 X pos es:=by rfl):
  PE X (.Call (.Name x p) (e::es) [] pos) (zEO sp dvs E t):=by
 rw[20];refine wpAny_Call_Name_kw (SZ I a c ?_ hdb);refine PySem.W.callWith_K I.ok.mod.kin j (hZ (ha pos pins s σ H _ I h) λus n ⟨vs,H1,I1,r,q⟩=>⟨I1.kIn,?_⟩) he hpl;exact Na F m d b i I1 r q
structure Mk(K:Q0)(C f:Addr):Prop where
 makes:PySem.W.makesIn K C=true
 init:PySem.W.findIn K (.ref C) "__init__"=some (some (.ref f))
 fn:PySem.W.isFn K (.ref f)=true
 kp:PySem.W.keepIn K (.ref C)=true
def Nb{s:Ņ}{Q:VK}{vs:List V}(M:Mk X.K C f)(F:FnOk X.prog X.w X.K X.mg X.base CX k f fd ps sp)(z:Room (k+1) X.A)(m:Binds X.K fd ps ds)(j:Vals dvs ds)
  (hx:LQ CX X E) (I:↑2) (r:Vals vs us)
  (h: ∀x dx,H x=none->H dx=none->dx≠x->sp (.ref x::(vs++dvs)) (xY (xY H dx (.own x)) x (.ins C dx [])) (λv n=>v=.non/\Q (.ref x) n) E):
  wpAny ↑6 X.A (call (.ref C) us) (EP X pins σ Q) X.xe s:=by
 have d:=h _ ↑1 (I.hok.fresh (le_succ _)) (I.hok.fresh (à _)) (â (ė _));have b:=Inv.made (C:=C) I;have c:Vals (V.ref (↑1+1)::_) _:=.cons rfl (r.append j);have o:=by have e:=c.length;rw[F.len _ _ _ _ d]at e;exact e.symm
 refine wpAny_call (Mz I.kIn M.makes M.init (beq_iff_eq.mp M.fn) (ĳ (F.run _ X.stack _ _ ⟨_,[]⟩ _ _ _ E (z.make C us [])
  (b.env0.make C us []) (m _ _ b.kIn o) c d) λr s' a=>?_))
 cases r with
 |error e=>exact hx pins σ _ _ e s' b a
 |ok fl=>
  cases fl with
  |ret u=>
   obtain⟨v,H',i,y,q,p⟩:=b.after a;subst q;exact⟨y,⟨V.ref _,H',i,rfl,p⟩⟩
  |next=>exact False.elim a
  |brk=>exact False.elim a
  |cont=>exact False.elim a
def Ul(M:Mk X.K C f)(F:FnOk X.prog X.w X.K X.mg X.base CX k f fd ps sp)(j:Room (k+1) X.A)(a:Gl X x)(c:X.mg x=some (.ref C))(d:Binds X.K fd ps ds)(b:Vals dvs ds)(i:LQ CX X E)
  (ha:PA X (e::es) t) (hdb:↑28=false:=by decide) (he:q8 X e es:=by rfl) (hpl:q9 X pos es:=by rfl):
  PE X (.Call (.Name x p) (e::es) [] pos) (E7 C sp dvs E t):=by
 rw[20];refine wpAny_Call_Name_kw (SZ I a c ?_ hdb);refine PySem.W.callWith_K I.ok.mod.kin M.kp (hZ (ha pos pins s σ H _ I h) λus m ⟨vs,H1,I1,r,q⟩=>⟨I1.kIn,?_⟩) he hpl;exact Nb M F j d b i I1 r q
end
structure FnScope(N P:K0)(sc:Scope):Prop where
 kind:sc.kind=.function
 co:sc.isCoroutine=false
 gen:sc.isGenerator=false
 nd:N.Nodup
 pre:N.take P.length=P
 par: ∀x∈P,sc.names.lookup x=some .local\/sc.names.lookup x=some .cell
 nofree: ∀y∈sc.names,y.2≠.free
def fsK{N P:K0}{sc:Scope}(h:N.Nodup/\N.take P.length=P/\(∀x∈P,sc.names.lookup x=some .local\/sc.names.lookup x=some .cell)/\∀y∈sc.names,y.2≠.free)(a:sc.kind=.function:=by rfl)(b:sc.isCoroutine=false:=by rfl)(c:sc.isGenerator=false:=by rfl):FnScope N P sc:=⟨a,b,c,h.1,h.2.1,h.2.2.1,h.2.2.2⟩
theorem QW{a:Str->Option NameKind}{x:Str}: ∀{binds:List (Str×ņ)}{m:L0},(∀v,(x,v)∉binds)->bindL a binds m x=m x
 |[],_,_=>rfl
 |(n,v)::r,m,h=>by
  unfold bindL;rw[QW λw hw=>h w (mO _ hw)];split
  .have:x≠n:=by rintro rfl;exact h v mF0
   simp[this]
  .rfl
theorem QX{a:Str->Option NameKind}{x:Str}: ∀{binds:List (Str×ņ)}{m:L0},(∀v,(x,v)∉binds)->bindC a binds m x=m x
 |[],_,_=>rfl
 |(n,v)::r,m,h=>by
  unfold bindC;rw[QX λw hw=>h w (mO _ hw)];split
  .rfl
  .have:x≠n:=by rintro rfl;exact h v mF0
   simp[this]
theorem QY{a:Str->Option NameKind}{x:Str}{v:ņ}: ∀{P:K0}{vs:A0}{i:Nat}{m:L0},P.Nodup->P[i]? =some x->vs[i]? =some v->a x=some .local->
  bindL a (P.zip vs) m x=some v
 |[],_,_,_,_,h,_,_=>by simp at h
 |_::_,[],_,_,_,_,h,_=>by simp at h
 |p::P,w::vs,0,m,nd,h1,h2,hk=>by simp at h1 h2;subst h1;subst h2;show bindL a (_::P.zip vs) m p=_;unfold bindL;rw[QW λv b=>(nodup_cons.mp nd).1 (of_mem_zip b).1,iP hk];simp
 |p::P,w::vs,i+1,m,nd,h1,h2,hk=>by show bindL a _ m x=_;unfold bindL;exact QY (nodup_cons.mp nd).2 (by simpa using h1) (by simpa using h2) hk
theorem QZ{a:Str->Option NameKind}{x:Str}{v:ņ}: ∀{P:K0}{vs:A0}{i:Nat}{m:L0},P.Nodup->P[i]? =some x->vs[i]? =some v->a x≠some .local->
  bindC a (P.zip vs) m x=some v
 |[],_,_,_,_,h,_,_=>by simp at h
 |_::_,[],_,_,_,_,h,_=>by simp at h
 |p::P,w::vs,0,m,nd,h1,h2,hk=>by simp at h1 h2;subst h1;subst h2;show bindC a (_::P.zip vs) m p=_;unfold bindC;rw[QX λv b=>(nodup_cons.mp nd).1 (of_mem_zip b).1,iN hk];simp
 |p::P,w::vs,i+1,m,nd,h1,h2,hk=>by show bindC a _ m x=_;unfold bindC;exact QZ (nodup_cons.mp nd).2 (by simpa using h1) (by simpa using h2) hk
noncomputable def start(N:K0)(vs:List V):St:=vs.map some++List.replicate (N.length - vs.length) none
noncomputable def PL(CX:Ef)(P:ň)(w:World)(K:Q0)(mg:L0)(base:Heap)(N:K0)(qual:Str)(scope:Scope)(f:Addr)(cd:ņ)(A:Ň)(outer:List Env)(s:Ņ)(H:Hp)(E:XK):Cx where
 prog:=P
 w:=w
 K:=K
 mg:=mg
 base:=base
 A:=A.deeper (envOfC qual scope ↑1 f cd)
 N:=N
 s₀:=s
 H₀:=H
 env:=envOfC qual scope ↑1 f cd
 outer:=outer
 stack:=envOfC qual scope ↑1 f cd::outer
 ex:=[]
 calm:=true
 fn:=λ_=>true
 pn:=[]
 xe:=λe s'=>wpAny (model P w) (A.deeper (envOfC qual scope ↑1 f cd)) (leaving (envOfC qual scope ↑1 f cd) e) (λ_ s''=>CX outer H s E e s'') (λe' s''=>CX outer H s E e' s'') s'
def WZ{sc:Scope}{n:Nat}{x:Str}(h:sc.names.lookup x=some .cell): ∃c,(cellsFrom n sc.names []).lookup x=some c:=by have q:=PySem.W.cellsFrom_some sc.names n [] (.inl h);exact ÿ.mp q
theorem Iv{P:ň}{w:World}{K:Q0}{mg:L0}{base:Heap}{N:K0}{qual:Str}{d:Scope}{f:Addr}{D:ņ}{A:Ň}{j:List Env}{s G:Ņ}{E:XK}{vs:List V}
  (S:FnScope N ps d) (hd:A.handled=none) (e0:Env0 P w K mg base A j s H) (hl:vs.length=ps.length) (r:Vals vs us)
  (x:InCallC s ↑1 (bindL (envOfC qual d ↑1 f D).kindOf (ps.zip us) λ_=>none) (cellsFrom (↑1+1) d.names []) (bindC (envOfC qual d ↑1 f D).kindOf (ps.zip us) λ_=>none) G):
  Inv (PL CX P w K mg base N qual d f D A j s H E) [] (start N vs) H G:=by
 have M:=by have:=congrArg List.length S.pre;rw[lT]at this;omega
 obtain⟨h1,tk,rfl,F⟩:=x.done;have n: ∀b:Addr,b∉(PL CX P w K mg base N qual d f D A j s H E).ex:=λb z=>absurd (show b∈([]:B9)from z) (by simp)
 refine⟨⟨e0.mod,S.kind,rfl,rfl,à _,λy z c h1 m=>?_,λy o=>?_,λy c _ h=>?_,λ_=>hd,Around.frames_deeper e0.frames,.inr ⟨rfl,rfl⟩,λb z=>absurd z (n b),e0.bs,e0.bsz,λb _ _=>n b,λb z=>absurd z (n b),e0.funs,e0.frf⟩,
  rfl,e0.bare,Un.kept F,⟨_,x.toInCall.ns,λi y v h1 m O=>?_⟩,λy c h=>⟨_,x.cell y c h⟩,e0.hok.fresh (à _),λy c h=>?_,λp B=>absurd (show p∈([]:List _)from B) (by simp),e0.hok.kept F,?_⟩
 .exact name_of_addr x.apart (PySem.mem_of_lookup h1) (PySem.mem_of_lookup m)
 .have o:=o;rcases o with o|o
  .exact WZ o
  .exact absurd rfl (S.nofree _ (PySem.mem_of_lookup o))
 .exact le_of_lt (x.above y c (PySem.mem_of_lookup h))
 .have hi:i<vs.length:=by
   unfold start at m;by_cases hi:i<vs.length
   .exact hi
   .rw[î (by simpa using hi)]at m;rw[List.getElem?_replicate]at m;split at m<;>cases m
  have J:vs[i]? =some v:=by
   unfold start at m;rw[ç (by simpa using hi),ð]at m
   cases e:vs[i]? with
   |none=>rw[e]at m;cases m
   |some a=>rw[e]at m;cases m;rfl
  obtain⟨u,I,L⟩:=r.get J;have B:ps[i]? =some y:=by rw[<-S.pre,ĸ (by omega)];exact h1
  have C:ps.Nodup:=by rw[<-S.pre];exact S.nd.sublist (List.take_sublist _ _)
  refine⟨u,L,?_⟩;rcases S.par y (ñ B)with k|k
  .exact .inl ⟨k,QY C B I k⟩
  .obtain⟨c,e⟩:=WZ k;refine .inr ⟨.inl k,c,e,?_⟩;have q:=x.cell y c e;rw[QZ C B I (by show d.names.lookup y≠_;rw[k];decide)]at q;exact q
 .exact e0.hok.fresh (le_of_lt (x.above y c (PySem.mem_of_lookup h)))
 .unfold start;show _=N.length;rw[lA,lM,Ĕ]
  lia
def zEP{P:ň}{w:World}{K:Q0}{mg:L0}{base:Heap}{k:Nat}{f:Addr}{name qual:Str}{h:Arguments}{body:List Stmt}{a:Scope}{G kV B T d ct oc:ņ}{M od:Option Addr}
  {osl:Array (Option ņ)} {N ps:K0} {sp:Sp} (lk:K.lookup f=some ⟨oc,od,.func (PySem.W.fnOf name qual h body a G kV B T M d ct),osl⟩) (hcd:PySem.W.codeIn K d qual=true) (S:FnScope N ps a)
  (len: ∀vs H Q E,sp vs H Q E->vs.length=ps.length)
  (hbody: ∀(A:Ň)(c:List Env)(s:Ņ)(H:Hp)(vs:List V)(Q:VK)(E:XK),Room k (A.deeper (envOfC qual a ↑1 f d))->sp vs H Q E->
   ∃t,PSs (PL CX P w K mg base N qual a f d A c s H E) body t/\t {nx:=λ_ H'=>Q .non H',rt:=Q} (start N vs) H):
  FnOk P w K mg base CX (k+1) f (PySem.W.fnOf name qual h body a G kV B T M d ct) ps sp:=by
 refine⟨len,λA c s H O us vs Q E F p X r m=>?_⟩;have hl:=len _ _ _ _ m;have KX:=p.mod.kin.keeps λb o e=>(p.bs b o e).1;have C:=p.mod.nolimit.keeps λb o e=>(p.bs b o e).1
 have j: ∀y∈ps.zip us,a.names.lookup y.1=some .local\/(a.names.lookup y.1=some .cell/\((cellsFrom (↑1+1) a.names []).lookup y.1).isSome=true):=λ⟨n,v⟩ hy=>by
  rcases S.par n (of_mem_zip hy).1 with q|q
  .exact .inl q
  .exact .inr ⟨q,PySem.W.cellsFrom_some _ _ _ (.inl q)⟩
 refine codeAny_call_function F.depth (KX _ _ lk) rfl S.co S.gen rfl (PySem.W.codeRec_of KX hcd) (X _ _ _ _ ?_);refine wpAny_newFunctionEnv_cells S.kind j λaa U L x=>?_;subst U;refine⟨C.keeps x.toInCall.keep,codeAny_func ?_⟩;obtain⟨t,ht,Y⟩:=hbody A c s H vs Q E (F.deeper _) m;have I:Inv (PL CX P w K mg base N qual a f d A c s H E) [] _ H L:=Iv S F.hd p hl r x;refine ă (ht [] L _ H _ I Y) (λZ s' hs=>?_) λe s' hs=>hs
 have z: ∀{i:St}{H':Hp}{v:V}{u:ņ},Inv (PL CX P w K mg base N qual a f d A c s H E) [] i H' s'->RelV v u->Q v H'->CE c P w H s Q u s':=
  λ{i H' v u} J D q=>⟨v,H',J.os,J.bare,J.base,J.hok,D,q⟩
 cases Z with
 |ret u=>
  obtain⟨v,i,H',J,D,q⟩:=hs;exact z J D q
 |next=>
  obtain⟨i,H',J,q⟩:=hs;exact z (v:=V.non) J rfl q
 |brk=>
  obtain⟨_,_,_,q⟩:=hs;exact False.elim q
 |cont=>
  obtain⟨_,_,_,q⟩:=hs;exact False.elim q
section
variable{X:Cx}{x:Str}{p pos:Pos}{e:Expr}{es:P0}{t:TA}{id T:String}{r:List V->Hp->VK->Prop}
def tCB(r:List V->Hp->VK->Prop)(t:TA):TE:=λσ H Q=>t σ H λvs H1=>r vs H1 Q
def XA(b:CallR X (.builtin id) r)(c:Gl X x)(k:X.mg x=none)(d:bootBuiltins x=some (.builtin id))(j:PA X (e::es) t)(o:x≠"__name__":=by decide)(a:↑28=false:=by decide)
  (he:q8 X e es:=by rfl) (hpl:q9 X pos es:=by rfl):PE X (.Call (.Name x p) (e::es) [] pos) (tCB r t):=by
 rw[20];refine wpAny_Call_Name_kw (DX I c k d ?_ o a);exact PyProof.Rows.callWith_builtin1 (hZ (j pos pins s σ H _ I h) λus n ⟨vs,H1,I1,m,i⟩=>b pins n σ H1 vs us Q I1 m i) he hpl
def BR(b:CallR X (.type T) r)(c:Gl X x)(k:X.mg x=none)(d:bootBuiltins x=some (.type T))(j:PA X (e::es) t)(o:x≠"__name__":=by decide)(a:↑28=false:=by decide)
  (he:q8 X e es:=by rfl) (hpl:q9 X pos es:=by rfl):PE X (.Call (.Name x p) (e::es) [] pos) (tCB r t):=by
 rw[20];refine wpAny_Call_Name_kw (DX I c k d ?_ o a);exact ĝ (hZ (j pos pins s σ H _ I h) λus n ⟨vs,H1,I1,m,i⟩=>b pins n σ H1 vs us Q I1 m i) he hpl
end
end L2
namespace HT
open PySem PyProof.Rows
section
variable{prog:ň}{w:World}{A:Ň}{E:VP}{s:Ņ}
def cat_tup{t b:Addr}{vs ws:A0}{Q:VP}(v:IsTup s.heap t vs.toArray)(u:IsTup s.heap b ws.toArray)(k:vs≠[])
  (h1:ws=[]->Q (.ref t) s) (h2:ws≠[]->Q (.ref ↑1) {s with heap:=s.heap.push {cls:=.type "tuple",data:=.seq (vs++ws).toArray}})
  (hsz:vs.length+ws.length<=sizeLine):wpAny ↑9 A (binaryOp .Add (.ref t) (.ref b)) Q E s:=by
 obtain⟨⟨cls,p,data,sl⟩,h,q,n,r⟩:=id v;obtain⟨⟨o,c,_,d⟩,a,j,m,i⟩:=id u;subst q r j i;have e:vs.toArray++ws.toArray=(vs++ws).toArray:=by simp
 by_cases hw:ws=[]
 .exact concat_meets ⟨_,h,rfl⟩ ⟨_,a,rfl⟩ noFill_tuple_add seq_tuple_add PySem.F.slot_tuple_add PySem.F.entry_tuple_add (PySem.F.args_tuple_add_2 _ _)
   (tuple_addW1 t b vs.toArray ws.toArray n m p c sl d (by simpa using k) (by simp[hw])) ⟨h,a,h1 hw⟩
 .refine concat_meets ⟨_,h,rfl⟩ ⟨_,a,rfl⟩ noFill_tuple_add seq_tuple_add PySem.F.slot_tuple_add PySem.F.entry_tuple_add (PySem.F.args_tuple_add_2 _ _)
   (tuple_addW2 t b vs.toArray ws.toArray n m p c sl d (by simpa using k) (by simpa using hw) (by rw[sA];exact hsz)) ⟨h,a,?_⟩
  rw[e];exact h2 hw
noncomputable def sIx(n d:Nat):Option Int->Nat
 |none=>d
 |some v=>if v<0 then(v+(n:Int)).toNat else min v.toNat n
theorem sIx_nat(n d k:Nat):sIx n d (some (k:Int))=min k n:=by show(if(k:Int)<0 then((k:Int)+(n:Int)).toNat else min (k:Int).toNat n)=min k n;rw[iN #[0],ē]
theorem sIx_le(n d:Nat)(b:d<=n)(o:O0):sIx n d o<=n:=by
 cases o with
 |none=>exact b
 |some v=>
  show(if v<0 then(v+_).toNat else min v.toNat n)<=n;by_cases a:v<0
  .rw[iP a];lia
  .rw[iN a];exact Nat.min_le_right _ _
theorem Eg(v:Int)(n d:Nat):(if v<0 then max (v+(n:Int)) 0 else min v (n:Int))=((sIx n d (some v):Nat):Int):=by
 show _=(((if v<0 then(v+_).toNat else min v.toNat n):Nat):Int)
 by_cases a:v<0
 .simp only[iP a];lia
 .simp only[iN a];lia
theorem Bc(lo hi:O0)(n:Nat):Builtin.Slice.sliceAdjust lo hi 1 (n:Int)=(((sIx n 0 lo:Nat):Int),((sIx n n hi:Nat):Int)):=by
 have h1: ¬((1:Int)<0):=by lia
 unfold Builtin.Slice.sliceAdjust;refine Prod.ext ?_ ?_
 .cases lo with
  |none=>rfl
  |some v=>exact Eg v n 0
 .cases hi with
  |none=>rfl
  |some v=>exact Eg v n n
theorem Bd(i j:Nat):Builtin.Slice.slicePlaces (i:Int) (j:Int) 1=j - i:=by
 unfold Builtin.Slice.slicePlaces;have h1:(1:Int)>0:=by lia
 split<;>lia
def LR{v:ņ}{o:O0}{Q:Option Int->Ņ->Prop}(p:IsPart v o)(h:Q o s):wpAny ↑9 A (Builtin.Slice.slicePartIndex v) Q E s:=by
 cases p with
 |none=>exact slicePart_none h
 |int i t=>exact slicePart_int h
def sliceApplied_gen{sl:Addr}{c d:ņ}{lo hi:O0}{n:Nat}{Q:Int×Int×Nat->Ņ->Prop}(hs:s.heap.IsSliceOf sl c d .none)(e:IsPart c lo)(j:IsPart d hi)
  (h:Q (((sIx n 0 lo:Nat):Int),1,sIx n n hi - sIx n 0 lo) s):wpAny ↑9 A (Builtin.Slice.sliceApplied (.ref sl) (pure (n:Int))) Q E s:=by
 obtain⟨k,b,i,a⟩:=id hs;refine wB (wB (ę b a rfl (wB (ę b a rfl (wB (ę b a rfl (wP ?_)))))));refine wB (slicePart_none ?_);show wpAny _ _ _ _ _ s;refine wB (LR e (wB (LR j (wB (wP ?_)))));show wpAny _ _ (match Builtin.Slice.sliceAdjust lo hi 1 _ with |(lo,hi)=>pure (lo,_,Builtin.Slice.slicePlaces lo hi 1)) _ _ s;rw[Bc lo hi n];show wpAny _ _ (pure _) _ _ s;rw[Bd];exact wP h
theorem Nc(xs:B0)(i k:Nat):((List.range k).filterMap λ(m:Nat)=>xs[((i:Int)+(m:Int) * 1).toNat]?).toArray=((xs.toList.drop i).take k).toArray:=by
 have e:(λ(m:Nat)=>xs[((i:Int)+(m:Int) * 1).toNat]?)=λm=>xs[i+m]? :=by
  funext m;have:((i:Int)+(m:Int) * 1).toNat=i+m:=by lia
  rw[this]
 rw[e];have:=pick_run xs i k;rw[List.filterMap_map]at this;have e2:((λx=>xs[x]?)∘λx=>i+x)=λm=>xs[i+m]? :=rfl;rw[e2]at this;rw[this]
def getItem_tuple_cut{t sl:Addr}{a:B0}{k m:ņ}{lo hi:O0}{Q:VP}(c:IsTup s.heap t a)(hs:s.heap.IsSliceOf sl k m .none)(o:IsPart k lo)(p:IsPart m hi)
  (hw: ¬(sIx a.size 0 lo=0/\sIx a.size a.size hi=a.size))
  (h:Q (.ref ↑1) {s with heap:=s.heap.push {cls:=.type "tuple",data:=.seq ((a.toList.drop (sIx a.size 0 lo)).take (sIx a.size a.size hi - sIx a.size 0 lo)).toArray}})
  (hsz:a.size<=sizeLine):wpAny ↑9 A (getItem (.ref t) (.ref sl)) Q E s:=by
 have b:sizeOk (.seq ((a.toList.drop (sIx a.size 0 lo)).take (sIx a.size a.size hi - sIx a.size 0 lo)).toArray):=by show((a.toList.drop (sIx a.size 0 lo)).take _).toArray.size<=sizeLine;rw[sA,lT,Đ,ú];omega
 have y:sIx a.size a.size hi<=a.size:=sIx_le _ _ (à _) hi;obtain⟨r,j,e,n⟩:=id hs;have d:s.TypeIs (.ref sl) "slice":=⟨r,j,e⟩
 unfold getItem
 try with_reducible refine Ą ?_
 first |refine wB (wP ?_)|skip
 refine wB (wpAny_sequenceKey c.typeIs ↑7 ?_)
 refine wB (Ĉ c.typeIs Ģ
  (ö Ģ c.typeIs entry_tuple_getitem ?_ (args_tuple_getitem _ _)))
 show wpAny _ _ (Builtin.Tuple.tupleItemsOf (.ref t) >>= _) _ _ s;refine wB (tupleItemsOf_ c ?_);refine wB (Ĵ d ?_);rw[iP ↑7];refine wB (sliceApplied_gen hs o p ?_);have i: ¬((((sIx a.size 0 lo:Nat):Int)==0&&(1:Int)==1&&(sIx a.size a.size hi - sIx a.size 0 lo)==a.size)=true):=by intro q;rw[aE,aE]at q;have v:((sIx a.size 0 lo:Nat):Int)=0:=eq_of_beq q.1.1;have u:sIx a.size a.size hi - sIx a.size 0 lo=a.size:=eq_of_beq q.2;exact hw ⟨by omega,by omega⟩
 show wpAny _ _ (if _=true then _ else _) _ _ s;rw[iN i,Nc]
 first
  |exact wB (Č (wP ⟨_,rfl,wP h⟩) b)
  |exact wB _
  |exact wB _
  |exact wB _
end
end HT
namespace L2
open PySem PySem.Spec PyProof.Rows
variable{xs:List V}
abbrev TO:=St->Hp->(Option Int->Hp->Prop)->Prop
def PO(X:Cx)(e:Option Expr)(t:TO):Prop:=
 ∀(pins:M0)(s:Ņ)(σ:St)(H:Hp)(Q:Option Int->Hp->Prop),Inv X pins σ H s->t σ H Q->
  wpAny ↑6 X.A (evalPart e X.env) (λu s'=> ∃o H',Inv X pins σ H' s'/\IsPart u o/\Q o H') X.xe s
def Um:TO:=λ_ H Q=>Q none H
def zEQ(t:TE):TO:=λσ H Q=>t σ H λx H1=> ∃i,x=.int i/\Q (some i) H1
section
variable{X:Cx}{e:Expr}{te:TE}{lo hi:Option Expr}{tl th:TO}{pos p2:Pos}
def Uo:PO X none Um:=by rw[20];exact wP ⟨none,H,I,.none,h⟩
def Uq(h:PE X e te):PO X (some e) (zEQ te):=by intro pins s σ H Q I hw;refine hZ (h pins s σ H _ I hw) λu c ⟨x,H1,I1,b,a⟩=>?_;obtain⟨i,rfl,q⟩:=a;obtain⟨t,rfl⟩:=b;exact⟨_,H1,I1,.int i t,q⟩
def SlR(X:Cx)(r:V->Option Int->Option Int->Hp->VK->Prop):Prop:=
 ∀(pins:M0)(s:Ņ)(σ:St)(H:Hp)(x:V)(v a b:ņ)(lo hi:O0)(sl:Addr)(Q:VK),Inv X pins σ H s->RelV x v->s.heap.IsSliceOf sl a b .none->IsPart a lo->IsPart b hi->r x lo hi H Q->
  ∃T id,typeLookup (.type T) "__getitem__"=pure (some (.builtin id))/\s.TypeIs v T/\wpAny ↑6 X.A (getItem v (.ref sl)) (EP X pins σ Q) X.xe s
def SlR.or{r i:V->Option Int->Option Int->Hp->VK->Prop}(h:SlR X r)(h':SlR X i):SlR X (λx lo hi H Q=>r x lo hi H Q\/i x lo hi H Q):=by
 intro pins s σ H x v a b lo hi sl Q I e hs c d q;rcases q with q|q
 .exact h pins s σ H x v a b lo hi sl Q I e hs c d q
 .exact h' pins s σ H x v a b lo hi sl Q I e hs c d q
def tSl(r:V->Option Int->Option Int->Hp->VK->Prop)(te:TE)(tl th:TO):TE:=λσ H Q=>te σ H λx H1=>tl σ H1 λl a=>th σ a λu b=>r x l u b Q
def Nd{r:V->Option Int->Option Int->Hp->VK->Prop}(C:SlR X r)(m:PE X e te)(L:PO X lo tl)(M:PO X hi th):PE X (.Subscript e (.Slice lo hi none p2) pos) (tSl r te tl th):=by rw[20];refine Subscript_ (hZ (m pins s σ H _ I h) λv w ⟨x,H1,I1,o,E⟩=>?_);refine wpAny_Slice (hZ (L pins w σ H1 _ I1 E) λc n ⟨l,y,G,J,j⟩=>hZ (M pins n σ y _ G j) λd a ⟨u,i,k,K,z⟩=>?_);refine wP ?_;have F:Inv X pins σ i {a with heap:=a.heap.push {cls:=.type "slice",data:=.fields #[c,d,.none]}}:=k.kept λb ob q=>hP0 _ q;obtain⟨T,id,p,B,D⟩:=C pins {a with heap:=a.heap.push {cls:=.type "slice",data:=.fields #[c,d,.none]}} σ i x v c d l u a.heap.objs.size Q F o (Heap.IsSliceOf.new ..) J K z;show wpAny _ X.A _ _ X.xe {a with heap:=a.heap.push {cls:=.type "slice",data:=.fields #[c,d,.none]}};exact tail_any B p D (by with_unfolding_all rfl)
def Iw(xs:List V)(lo hi:O0):List V:=(xs.drop (HT.sIx ↑33 0 lo)).take (HT.sIx ↑33 ↑33 hi - HT.sIx ↑33 0 lo)
theorem JI(xs:List V)(lo hi:O0):(Iw xs lo hi).length<=xs.length:=by
 unfold Iw;rw[lT,Đ]
 lia
def rSlT(K:Q0):V->Option Int->Option Int->Hp->VK->Prop:=λx lo hi H Q=> ∃a xs,x=.ref a/\SqT K H a xs/\
 ¬(HT.sIx ↑33 0 lo=0/\HT.sIx ↑33 ↑33 hi=↑33)/\ ∀p,H p=none->Q (.ref p) (xY H p (.tup (Iw xs lo hi)))
def R4:SlR X (rSlT X.K):=by
 intro pins s σ H x v n o lo hi sl Q I m hs j k h;obtain⟨a,xs,rfl,i,hw,q⟩:=h;cases m;obtain⟨its,r,d,e⟩:=I.tuple i;have c:its.toArray.size=xs.length:=by rw[sA];exact r.length.symm
 refine⟨_,_,PyProof.Rows.slot_tuple_getitem.lookup,d.typeIs,?_⟩;refine HT.getItem_tuple_cut d hs j k (by rw[c];exact hw) ?_ (by rw[c];exact e);rw[c];refine⟨.ref ↑1,_,I.laid (λb ob q=>hP0 _ q) (à _) ?_,rfl,q _ (I.hok.fresh (à _))⟩;exact⟨ì (JI xs lo hi) e,_,(r.drop _).take _,IsTup.new _ _⟩
def zER(K:Q0):R2:=λx y H Q=> ∃a b xs ys,x=.ref a/\y=.ref b/\SqT K H a xs/\SqT K H b ys/\xs≠[]/\↑33+ys.length<=sizeLine/\
 (ys=[]->Q (.ref a) H)/\(ys≠[]-> ∀p,H p=none->Q (.ref p) (xY H p (.tup (xs++ys))))
def Vals.nil_iff{us:A0}(r:Vals xs us):us=[]↔xs=[]:=by
 cases r with
 |nil=>simp
 |cons _ _=>simp
def Ur:OpR X (binaryOp .Add) (zER X.K):=by intro pins s σ H x y v u Q I n p h;obtain⟨a,b,xs,ys,rfl,rfl,k,m,r,i,o,j⟩:=h;cases n;cases p;obtain⟨its,d,p1,_⟩:=I.tuple k;obtain⟨e,c,p2,_⟩:=I.tuple m;refine HT.cat_tup p1 p2 (λz=>r (d.nil_iff.mp z)) (λz=>⟨.ref a,H,I,rfl,o (c.nil_iff.mp z)⟩) (λz=>?_) (by rw[<-d.length, <-c.length];exact i);refine⟨.ref ↑1,_,I.laid (λb ob q=>hP0 _ q) (à _) ?_,rfl,j (λw=>z (c.nil_iff.mpr w)) _ (I.hok.fresh (à _))⟩;exact⟨by rw[lA];exact i,_,d.append c,IsTup.new _ _⟩
end
noncomputable def XB(n:Nat)(i:Int):Option Nat:=if 0<=i then(if i<n then some i.toNat else none)else if -(n:Int)<=i then some (i+n).toNat else none
def uA{α:Type}(xs:List α)(i:Int):Option α:=(XB ↑33 i).bind λj=>xs[j]?
theorem Eh{n:Nat}{i:Int}{j:Nat}(h:XB n i=some j):seqIndex? i n=some j/\j<n/\ -(n:Int)<=i/\i<n:=by
 unfold XB at h;by_cases a:0<=i
 .rw[iP a]at h;by_cases h1:i<n
  .rw[iP h1]at h;have e:=ã h;exact⟨by rw[seqIndex_of a h1,e],by lia,by lia,h1⟩
  .rw[iN h1]at h;cases h
 .rw[iN a]at h;by_cases h1: -(n:Int)<=i
  .rw[iP h1]at h;have e:=ã h;exact⟨by rw[seqIndex_neg #[0] h1,e],by lia,h1,by lia⟩
  .rw[iN h1]at h;cases h
def TD{α:Type}{xs:List α}{i:Int}{v:α}(h:uA xs i=some v): ∃j,seqIndex? i ↑33=some j/\xs[j]? =some v/\j<↑33/\ -(xs.length:Int)<=i/\i<xs.length:=by
 unfold uA at h
 cases e:XB ↑33 i with
 |none=>rw[e]at h;cases h
 |some j=>
  rw[e]at h;obtain⟨h1,b,c,a⟩:=Eh e;exact⟨j,h1,h,b,c,a⟩
def KY(b:Expr):Prop:= ∀o i,subscripted b false o i=operate [o,i] (getItem o i)
def IxR(X:Cx)(r:R2):Prop:=
 ∀(value a:Expr)(pins:M0)(s:Ņ)(σ:St)(H:Hp)(x y:V)(v u:ņ)(Q:VK),Inv X pins σ H s->RelV x v->RelV y u->r x y H Q->
  subscripted a false v u=operate [v,u] (getItem v u)->wpAny ↑6 X.A (subscriptTail value a v u) (EP X pins σ Q) X.xe s
def E8(X:Cx)(id:String)(r:V->List V->Hp->VK->Prop):Prop:=
 ∀(pins:M0)(s:Ņ)(σ:St)(H:Hp)(x:V)(xs:List V)(v:ņ)(us:A0)(Q:VK),Inv X pins σ H s->RelV x v->Vals xs us->r x xs H Q->
  wpAny ↑6 X.A (call (.builtin id) (v::us)) (EP X pins σ Q) X.xe s
section
variable{X:Cx}{a b:Expr}{ta tb:TE}{pos:Pos}
def IxR.or{r d:R2}(h:IxR X r)(h':IxR X d):IxR X (λx y H Q=>r x y H Q\/d x y H Q):=by
 intro value a pins s σ H x y v u Q I c b q hs;rcases q with q|q
 .exact h value a pins s σ H x y v u Q I c b q hs
 .exact h' value a pins s σ H x y v u Q I c b q hs
def zES{r:R2}(n:IxR X r)(c:PE X a ta)(d:PE X b tb)(hs:KY b):PE X (.Subscript a b pos) (zHL r ta tb):=by rw[20];exact Subscript_ (P4 c d I h λv u e x y k j m i q=>n a b pins e σ k x y v u Q j m i q (hs _ _))
def zET(K:Q0):R2:=λx y H Q=> ∃p xs i v,x=.ref p/\y=.int i/\SqL K H p xs/\uA xs i=some v/\Q v H
def zEU(K:Q0):R2:=λx y H Q=> ∃p xs i v,x=.ref p/\y=.int i/\SqT K H p xs/\uA xs i=some v/\Q v H
def zEV:R2:=λx y H Q=> ∃z i c,x=.str z/\y=.int i/\z.length<=sizeLine/\uA z.cps.toList i=some c/\Q (.str ⟨#[c]⟩) H
theorem Us:IxR X (zET X.K):=by
 intro value b pins s σ H x y v u Q I B E h hs;obtain⟨p,xs,i,z,rfl,rfl,A,o,q⟩:=h;cases B;obtain⟨t,rfl⟩:=E;obtain⟨its,r,d,L⟩:=I.list A;obtain⟨j,h1,n,G,C,D⟩:=TD o;obtain⟨w,m,c⟩:=r.get n;have F:=r.length;have J:=DZ;have a:EP X pins σ Q w s:=⟨z,H,I,c,q⟩
 by_cases k:0<=i
 .have e:=by rw[seqIndex_of k D]at h1;exact ã h1
  exact item_listR d.isList k #[0] (by rw[e];simpa using m) a hs
 .have e:(i+(its.toArray.size:Int)).toNat=j:=by rw[seqIndex_neg #[0] C]at h1;rw[sA, <-F];exact ã h1
  exact subscriptTail_builtinR d.isList.typeIs slot_list_getitem.lookup
   (wpAny_getItem_list_neg d.isList #[0] (by rw[sA]<;>lia) #[0] (by rw[e];simpa using m) ⟨rfl,a⟩) hs
theorem ix_tup:IxR X (zEU X.K):=by
 intro value a pins s σ H x y v u Q I n A h hs;obtain⟨p,xs,i,z,rfl,rfl,m,k,q⟩:=h;cases n;obtain⟨t,rfl⟩:=A;obtain⟨its,r,d,G⟩:=I.tuple m;obtain⟨j,h1,e,C,D,E⟩:=TD k;obtain⟨w,o,c⟩:=r.get e;have B:=r.length;have F:=DZ;have b:EP X pins σ Q w s:=⟨z,H,I,c,q⟩
 exact subscriptTail_builtinR d.typeIs slot_tuple_getitem.lookup
  (getItem_tuple d #[0] #[0] (by rw[sA, <-B];exact h1) (by simpa using o) ⟨rfl,b⟩) hs
theorem ix_str:IxR X zEV:=by
 intro value a pins s σ H x y v u Q I e n h hs;obtain⟨z,i,c,rfl,rfl,w,d,q⟩:=h;obtain⟨t,rfl⟩:=e;obtain⟨t',rfl⟩:=n;obtain⟨j,h1,b,p,k,m⟩:=TD d;have o:z.cps.toList.length=z.length:=by simp[Str.length]
 rw[o]at h1 k m;have r:=DZ;exact tail_any (typeIs_str s z t) slot_str_getitem.lookup (getItem_str (by have e1:decide (i< -(2 ^ 63:Int))=false:=dF0 #[0];have e2:decide (i>=2 ^ 63)=false:=dF0 #[0];rw[e1,e2,Bool.or_false]) (by rw[h1];simpa using b) ⟨.str ⟨#[c]⟩,H,I.tok _,⟨_,rfl⟩,q⟩) hs
def rIx(K:Q0):R2:=λx y H Q=>zET K x y H Q\/zEU K x y H Q\/zEV x y H Q
def R5:IxR X (rIx X.K):=Us.or (ix_tup.or ix_str)
def Be(its:A0)(n j:Nat)(u:ņ):Obj.mapSeq (·.setIfInBounds j u) {cls:=.type "list",data:=.seq ↑36 n}={cls:=.type "list",data:=.seq (its.set j u).toArray n}:=by simp[Obj.mapSeq]
def Inv.lst{pins:M0}{σ:St}{H:Hp}{s:Ņ}{p:Addr}(I:↑2)(h:H p=some (.lst xs)):
  ∃(its:A0)(n:Nat),Vals xs its/\s.heap.get? p=some {cls:=.type "list",data:=.seq ↑36 n}/\↑33<=sizeLine:=by
 obtain⟨z,its,n,r,e⟩:=I.hok p _ h;exact⟨its,n,r,e,z⟩
def Inv.lstUpd{pins:M0}{σ:St}{H:Hp}{s:Ņ}{p:Addr}{ys:List V}{its a:A0}{n c:Nat}{f:Obj->Obj}(I:↑2)(h:H p=some (.lst xs))
  (ho:s.heap.get? p=some {cls:=.type "list",data:=.seq ↑36 n}) (hf:f {cls:=.type "list",data:=.seq ↑36 n}={cls:=.type "list",data:=.seq a.toArray c}) (r:Vals ys a) (hz:ys.length<=sizeLine) (t:Nat):
  Inv X pins σ (xY H p (.lst ys)) {s with heap:=s.heap.update p f,toks:=t}:=by
 have e:(s.heap.update p f).get? p=some {cls:=.type "list",data:=.seq a.toArray c}:=by rw[Heap.get?_update_self f ho (by rw[hf]<;>rfl),hf]
 refine I.write (by rw[h];trivial) (.inl rfl) (λb u d q=>(ğ _ _ (Ne.symm d)).trans q) ⟨_,e⟩ ?_;exact⟨hz,a,c,r,e⟩
def zEW:V->V->V->Hp->(Hp->Prop)->Prop:=λo i v H Q=> ∃p xs k j,o=.ref p/\i=.int k/\H p=some (.lst xs)/\XB ↑33 k=some j/\Q (xY H p (.lst (xs.set j v)))
theorem set_list:O3 X zEW:=by
 intro pins s σ H o i v G J u Q I A B z h;obtain⟨p,xs,k,j,rfl,rfl,y,C,q⟩:=h;cases A;obtain⟨t,rfl⟩:=B;obtain⟨its,n,r,c,D⟩:=I.lst y;obtain⟨h1,E,e,m⟩:=Eh C;have b:=r.length;have F:=DZ
 have d:Inv X pins σ _ {s with heap:=s.heap.update p _}:=
  I.lstUpd y c (Be its n j u) (r.set z j) (by rw[ù];exact D) s.toks
 by_cases w:0<=k
 .have a:=by rw[seqIndex_of w m]at h1;exact ã h1
  exact PySem.W.ki_setAt c w #[0] (by rw[sA, <-b];exact m) (by rw[a];exact⟨_,d,q⟩)
 .have a:(k+(its.toArray.size:Int)).toNat=j:=by rw[seqIndex_neg #[0] e]at h1;rw[sA, <-b];exact ã h1
  exact PySem.W.ki_setBack c #[0] (by rw[sA, <-b];exact e) #[0] (by rw[a];exact⟨_,d,q⟩)
theorem TF(lo hi:O0)(n:Nat):(sliceBounds lo hi none n).1=((HT.sIx n 0 lo:Nat):Int)/\(sliceBounds lo hi none n).2.1=((HT.sIx n n hi:Nat):Int)/\(sliceBounds lo hi none n).2.2=1:=by
 refine⟨?_,?_,rfl⟩
 .cases lo with
  |none=>simp[sliceBounds,HT.sIx]
  |some i=>
   simp only[sliceBounds,HT.sIx,Option.getD_none,if_true];by_cases h:i<0
   .simp only[h,if_true]<;>lia
   .simp only[h,iF]<;>lia
 .cases hi with
  |none=>simp[sliceBounds,HT.sIx]
  |some i=>
   simp only[sliceBounds,HT.sIx,Option.getD_none,if_true];by_cases h:i<0
   .simp only[h,if_true]<;>lia
   .simp only[h,iF]<;>lia
theorem PM(its:A0)(lo hi:O0):slicePick ↑36 lo hi none=((its.drop (HT.sIx its.length 0 lo)).take (HT.sIx its.length its.length hi - HT.sIx its.length 0 lo)).toArray:=by obtain⟨h1,a,b⟩:=TF lo hi its.toArray.size;unfold slicePick;rw[h1,a,b];simp only[sliceRange_one,pick_run]<;>rfl
def rSlL(K:Q0):V->Option Int->Option Int->Hp->VK->Prop:=λx lo hi H Q=> ∃a xs,x=.ref a/\SqL K H a xs/\ ∀p,H p=none->Q (.ref p) (xY H p (.lst (Iw xs lo hi)))
theorem Ut:SlR X (rSlL X.K):=by intro pins s σ H x v n o lo hi sl Q I k hs i j h;obtain⟨a,xs,rfl,e,q⟩:=h;cases k;obtain⟨its,r,d,m⟩:=I.list e;have c:=r.length;refine⟨_,_,slot_list_getitem.lookup,d.isList.typeIs,?_⟩;refine wpAny_getItem_list_slice d.isList hs i j .none (by simp) ?_ (by rw[sA]<;>lia);rw[PM, <-c];refine⟨.ref ↑1,_,I.laid (λb ob q=>hP0 _ q) (à _) ?_,rfl,q _ (I.hok.fresh (à _))⟩;exact⟨ì (JI xs lo hi) m,_,0,(r.drop _).take _,ä _ rfl⟩
def tE:V->Bool
 |.non=>true
 |.bl _=>true
 |.int _=>true
 |.str _=>true
 |_=>false
noncomputable def eqV:V->V->Bool
 |.non,.non=>true
 |.bl a,.bl b=>a==b
 |.bl a,.int b=>(if a then 1 else 0)==b
 |.int a,.bl b=>a==(if b then 1 else 0)
 |.int a,.int b=>a==b
 |.str a,.str b=>a==b
 |_,_=>false
def R8{A:Ň}{s:Ņ}{y x:V}{u v:ņ}(d:RelV y u)(c:RelV x v)(h:tE y=true)(e:tE x=true):SeqAt.EqAt A s u v (eqV y x):=by
 cases y with
 |non=>
  cases d
  cases x with
  |non=>cases c;exact SeqAt.EqAt.same _
  |bl b=>cases c;exact SeqAt.EqAt.none_bool b
  |int b=>obtain⟨t,rfl⟩:=c;exact SeqAt.EqAt.none_int b t
  |str b=>obtain⟨t,rfl⟩:=c;exact SeqAt.EqAt.none_str b t
  |_=>exact absurd e xF0
 |bl a=>
  cases d
  cases x with
  |non=>cases c;exact SeqAt.EqAt.bool_none a
  |bl b=>cases c;exact SeqAt.EqAt.bool_bool a b
  |int b=>obtain⟨t,rfl⟩:=c;exact SeqAt.EqAt.bool_int a b t
  |str b=>obtain⟨t,rfl⟩:=c;exact SeqAt.EqAt.bool_str a b t
  |_=>exact absurd e xF0
 |int a=>
  obtain⟨t',rfl⟩:=d
  cases x with
  |non=>cases c;exact SeqAt.EqAt.int_none a t'
  |bl b=>cases c;exact SeqAt.EqAt.int_bool a t' b
  |int b=>obtain⟨t,rfl⟩:=c;exact SeqAt.EqAt.int_int a t' b t
  |str b=>obtain⟨t,rfl⟩:=c;exact SeqAt.EqAt.int_str a t' b t
  |_=>exact absurd e xF0
 |str a=>
  obtain⟨t',rfl⟩:=d
  cases x with
  |non=>cases c;exact SeqAt.EqAt.str_none a t'
  |bl b=>cases c;exact SeqAt.EqAt.str_bool a t' b
  |int b=>obtain⟨t,rfl⟩:=c;exact SeqAt.EqAt.str_int a t' b t
  |str b=>obtain⟨t,rfl⟩:=c;exact SeqAt.EqAt.str_str a t' b t
  |_=>exact absurd e xF0
 |_=>exact absurd h xF0
theorem TH:CallR X (.builtin "len") (λxs H Q=> ∃p ys,xs=[.ref p]/\(SqL X.K H p ys\/SqT X.K H p ys)/\Q (.int ys.length) H):=by
 rw[21];obtain⟨p,ys,rfl,b,q⟩:=h;obtain⟨u,rfl,e⟩:=vals1 r;cases e;have j:=DZ;rcases b with b|b
 .obtain⟨its,d,c,i⟩:=I.list b;have a:=d.length;exact Calls.call_len_list c.isList (by simp only[sA]<;>lia) ⟨.int ys.length,H,I.tok _,⟨_,by rw[sA,a]⟩,q⟩
 .obtain⟨its,d,c,i⟩:=I.tuple b;have a:=d.length;exact len_tuple c (by simp only[sA]<;>lia) ⟨.int ys.length,H,I.tok _,⟨_,by rw[sA,a]⟩,q⟩
theorem TJ:CallR X (.builtin "len") (λxs H Q=> ∃z,xs=[.str z]/\z.length<=sizeLine/\Q (.int z.length) H):=by rw[21];obtain⟨z,rfl,b,q⟩:=h;obtain⟨u,rfl,t,rfl⟩:=vals1 r;have a:=DZ;exact len_str #[0] ⟨.int z.length,H,I.tok _,⟨_,rfl⟩,q⟩
def CallR.or{f:ņ}{r a:List V->Hp->VK->Prop}(h:CallR X f r)(h':CallR X f a):CallR X f (λxs H Q=>r xs H Q\/a xs H Q):=by
 intro pins s σ H xs us Q I rs q;rcases q with q|q
 .exact h pins s σ H xs us Q I rs q
 .exact h' pins s σ H xs us Q I rs q
theorem TL:CallR X (.type "list") (λxs H Q=> ∃p ys,xs=[.ref p]/\(SqL X.K H p ys\/SqT X.K H p ys)/\ ∀l,H l=none->Q (.ref l) (xY H l (.lst ys))):=by
 rw[21];obtain⟨p,ys,rfl,d,q⟩:=h;obtain⟨u,rfl,A⟩:=vals1 r;cases A
 have j: ∀(its:A0),Vals ys its->ys.length<=sizeLine-> ∀(h':Heap)(b:Nat),_->
   h'.get? ↑1=some {cls:=.type "list",dict:=none,data:=.seq ↑36 b,slots:=#[]}->EP X pins σ Q _ {s with heap:=h'}:=λits a k h' b i e=>
  ⟨.ref ↑1,_,I.laid i (à _) (show ObjOk X.prog X.w _ h' _ (.lst ys)from⟨k,its,b,a,e⟩),rfl,q _ (I.hok.fresh (à _))⟩
 rcases d with d|d
 .obtain⟨its,a,y,k⟩:=I.list d;have c:=a.length;obtain⟨o,z,v,n,m⟩:=y.isList;exact call_list_seq p (.inl rfl) z v m (λh' b i e=>j its a k h' b i e) (by simp only[sA]<;>lia)
 .obtain⟨its,a,y,k⟩:=I.tuple d;have c:=a.length;obtain⟨o,z,v,n,m⟩:=y;exact call_list_seq p (.inr rfl) z v m (λh' b i e=>j its a k h' b i e) (by simp only[sA]<;>lia)
theorem PN:CallR X (.type "tuple") (λxs H Q=> ∃p ys,xs=[.ref p]/\((SqL X.K H p ys/\ ∀l,H l=none->Q (.ref l) (xY H l (.tup ys)))\/(SqT X.K H p ys/\Q (.ref p) H))):=by
 rw[21];obtain⟨p,ys,rfl,h⟩:=h;obtain⟨u,rfl,k⟩:=vals1 r;cases k;rcases h with⟨hq,q⟩|⟨hq,q⟩
 .obtain⟨its,c,a,i⟩:=I.list hq;have d:=c.length;refine call_tuple_list a.isList (λh' m=>?_) (by simp only[sA]<;>lia);have I1:Inv X pins σ H {s with heap:=h'}:=I.kept m
  have j:Inv X pins σ (xY H h'.objs.size (.tup ys)) {s with heap:=h'.push {cls:=.type "tuple",data:=.seq ↑36}}:=
   I1.laid (λb o e=>hP0 _ e) (à _) (⟨i,its,c,IsTup.new _ _⟩)
  exact⟨.ref h'.objs.size,_,j,rfl,q _ (I1.hok.fresh (à _))⟩
 .obtain⟨its,c,a,i⟩:=I.tuple hq;exact call_tuple_same a ⟨.ref p,H,I,rfl,q⟩
def zHM(K:Q0)(T:String)(x:V)(H:Hp):Prop:=match x with
 |.str _=>T="str"
 |.int _=>T="int"
 |.ref p=>(T="list"/\ ∃xs,SqL K H p xs)\/(T="tuple"/\ ∃o,K.lookup p=some o/\o.cls=.type "tuple"/\o.dict=none)\/
   (T="dict"/\((∃kvs,H p=some (.dK kvs))\/ ∃kvs,H p=some (.dT kvs)))\/(T="set"/\ ∃S n,H p=some (.set S n))
 |_=>False
def Nf{pins:M0}{σ:St}{H:Hp}{s:Ņ}{T:String}{x:V}{v:ņ}(I:↑2)(r:RelV x v)(b:zHM X.K T x H):
  s.TypeIs v T/\ ∀a,v=.ref a-> ∃ob,s.heap.get? a=some ob/\ob.dict=none:=by
 cases x with
 |str z=>
  obtain⟨t,rfl⟩:=r;cases b;exact⟨typeIs_str s z t,λ_ e=>nomatch e⟩
 |int i=>
  obtain⟨t,rfl⟩:=r;cases b;exact⟨typeIs_int s i t,λ_ e=>nomatch e⟩
 |ref p=>
  cases r;rcases b with⟨rfl,xs,hq⟩|⟨rfl,o,hk,hc,d⟩|⟨rfl,hk⟩|⟨rfl,S,n,hk⟩
  .obtain⟨its,_,h,_⟩:=I.list hq;refine⟨h.isList.typeIs,λa e=>?_⟩;cases e;obtain⟨o,n,e,c,d,_⟩:=h;exact⟨o,e,d⟩
  .refine⟨⟨o,I.kIn p o hk,hc⟩,λa e=>?_⟩;cases e;exact⟨o,I.kIn _ o hk,d⟩
  .have z: ∃o,s.heap.get? p=some o/\o.ExactDict:=by
    rcases hk with⟨kvs,hk⟩|⟨kvs,hk⟩
    .obtain⟨_,_,_,_,o,_,_,e,ex,_⟩:=I.hok p _ hk;exact⟨o,e,ex⟩
    .obtain⟨_,_,_,_,o,_,_,e,ex,_⟩:=I.hok p _ hk;exact⟨o,e,ex⟩
   obtain⟨o,e,ex⟩:=z;refine⟨⟨o,e,ex.1⟩,λa e2=>?_⟩;cases e2;exact⟨o,e,ex.2.1⟩
  .obtain⟨o,_,_,_,e,ex,_⟩:=I.hok p _ hk;refine⟨⟨o,e,ex.1⟩,λa e2=>?_⟩;cases e2;exact⟨o,e,ex.2.1⟩
 |_=>exact False.elim b
def tBM0(K:Q0)(T:String)(r:V->List V->Hp->VK->Prop)(to:TE):TE:=λσ H Q=>to σ H λx H1=>zHM K T x H1/\r x [] H1 Q
def tBM(K:Q0)(T:String)(r:V->List V->Hp->VK->Prop)(to:TE)(t:TA):TE:=λσ H Q=>to σ H λx H1=>zHM K T x H1/\t σ H1 λxs a=>r x xs a Q
variable{o e:Expr}{es:P0}{to:TE}{t:TA}{name:Str}{apos cpos:Pos}{T id:String}{r:V->List V->Hp->VK->Prop}
def R9(n:PlainAttrs T)(a:Slot T name id)(b:typeOf (.builtin id)=pure (.type "method_descriptor"))(i:E8 X id r)(m:PE X o to)
  (hbase:attributeBase o name X.env (eval o X.env)=eval o X.env:=by rfl) (hline:(apos.endLine==cpos.line)=true:=by rfl):PE X (.Call (.Attribute o name apos) [] [] cpos) (tBM0 X.K T r to):=by
 rw[20];refine wpAny_Call_method0_late hbase hline (hZ (m pins s σ H _ I h) λv k ⟨x,H1,I1,c,j,e⟩=>?_);obtain⟨h1,d⟩:=Nf I1 c j;exact⟨T,id,n,a,b,h1,d,Calls.callWith_builtin rfl (PySem.evalArgs_none (i pins k σ H1 x [] v [] Q I1 c .nil e))⟩
def zEX(B:PlainAttrs T)(a:Slot T name id)(b:typeOf (.builtin id)=pure (.type "method_descriptor"))(n:E8 X id r)(A:PE X o to)(m:PA X (e::es) t)
  (hbase:attributeBase o name X.env (eval o X.env)=eval o X.env:=by rfl)
  (hfew:((backTo cpos (starEach (e::es) X.env)).all (λx=>!x.1)&&(backToKw cpos (keywordEach [] X.env)).all (λx=>x.1.isSome)
   &&decide ↑10)=true:=by rfl)
  (hline:(apos.endLine==cpos.line)=true:=by rfl) (hs:q8 X e es:=by rfl) (hplain:(backTo cpos (starEach es X.env)).any (·.1)=false:=by rfl):
  PE X (.Call (.Attribute o name apos) (e::es) [] cpos) (tBM X.K T r to t):=by
 rw[20];refine wpAny_Call_method_late hbase hfew hline rfl (hZ (A pins s σ H _ I h) λv y ⟨x,H1,I1,d,q,k⟩=>?_);obtain⟨h1,j⟩:=Nf I1 d q;refine⟨T,id,B,a,b,h1,j,?_⟩;have c:=m cpos pins y σ H1 _ I1 k;rw[hs]at c ⊢;refine Calls.callWith_builtin (by show(false || (backTo cpos _).any (·.1))=false;rw[hplain]<;>rfl) (Calls.evalArgs_plain ?_);exact hZ c λus p ⟨vs,z,u,w,i⟩=>n pins p σ z x vs v us Q u d w i
end
def MtM(X:Cx)(id:String)(r:V->List V->Hp->VK->Prop):Prop:=
 ∀(pins:M0)(s:Ņ)(σ:St)(H:Hp)(x:V)(xs:List V)(v:ņ)(us:A0)(Q:VK),Inv X pins σ H s->RelV x v->Vals xs us->r x xs H Q->
  wpAny ↑6 X.A (call (.builtin id) (v::us)) (EP X pins σ Q) X.xe s
def Vals.one: ∀{x:V}{us:A0},Vals [x] us-> ∃u,us=[u]/\RelV x u
 |_,_,.cons r .nil=>⟨_,rfl,r⟩
theorem Vals.zero: ∀{us:A0},Vals [] us->us=[]
 |_,.nil=>rfl
def Vals.reverse{us:A0}(h:Vals xs us):Vals xs.reverse us.reverse:=by
 induction h with
 |nil=>exact .nil
 |cons r t ih=>rw[reverse_cons,reverse_cons];exact Vals.append ih (.cons r .nil)
theorem Vals.rep{us:A0}(h:Vals xs us): ∀k:Nat,Vals (List.replicate k xs).flatten (List.replicate k us).flatten
 |0=>.nil
 |k+1=>by exact Vals.append h (Vals.rep h k)
section
variable{X:Cx}{pins:M0}{σ:St}{H:Hp}{s:Ņ}{l:Addr}{xs ys:List V}
def Inv.lset{its a:A0}{n:Nat}{f:Array ņ->Array ņ}{t':Nat}(I:↑2)(d:H l=some (.lst xs))
  (e:s.heap.get? l=some {cls:=.type "list",data:=.seq ↑36 n}) (hf:f ↑36=a.toArray) (hv:Vals ys a) (hz:ys.length<=sizeLine):
  Inv X pins σ (xY H l (.lst ys)) {s with heap:=s.heap.update l (Obj.mapSeq f),toks:=t'}:=by
 have q:=PySem.IsL.update e f;rw[hf]at q;refine I.write (by rw[d];exact trivial) (.inl rfl) (λh u b c=>(ğ s.heap _ (Ne.symm b)).trans c) ⟨_,q⟩ ?_;exact⟨hz,a,_,hv,q⟩
def Inv.lnew{its:A0}{t':Nat}(I:↑2)(a:Vals ys its)(b:ys.length<=sizeLine):
  Inv X pins σ (xY H ↑1 (.lst ys)) {s with heap:=s.heap.push {cls:=.type "list",data:=.seq ↑36},toks:=t'}:=
 I.laid (λ_ _ q=>hP0 _ q) (à _) ⟨b,its,0,a,ä _ rfl⟩
def Inv.fresh(I:↑2):H ↑1=none:=I.hok.fresh (à _)
def Inv.lstM(I:↑2)(a:H l=some (.lst xs)):↑33<=sizeLine/\ ∃(its:A0)(n:Nat),Vals xs its/\↑33=its.length/\s.heap.get? l=some {cls:=.type "list",data:=.seq ↑36 n}:=by obtain⟨z,its,n,r,e⟩:=I.hok l _ a;exact⟨z,its,n,r,r.length,e⟩
theorem Ng{n:Nat}(h:n<=sizeLine):Builtin.List.listTooLong n=false:=by exact dF0 #[0]
end
section
variable{X:Cx}
def Ei:V->List V->Hp->VK->Prop:=λx vs H Q=> ∃l xs y,x=.ref l/\vs=[y]/\H l=some (.lst xs)/\↑33<sizeLine/\Q .non (xY H l (.lst (xs++[y])))
theorem Iy:MtM X "list.append" Ei:=by
 intro pins s σ H x vs v us Q I c d h;obtain⟨l,xs,y,rfl,rfl,a,j,q⟩:=h;cases c;obtain⟨u,rfl,b⟩:=d.one;obtain⟨z,its,n,r,i,e⟩:=I.lstM a;refine call_meets F.slot_list_append ⟨_,e,rfl⟩ F.entry_list_append (F.args_list_append_2 _ _) (PySem.list_append l ↑36 n u (by rw[sA];lia)) ⟨e,?_⟩;refine⟨.non,_,I.lset a e (by simp) (r.append (.cons b .nil)) ?_,rfl,q⟩;rw[lA,lS]
 lia
def Ej:V->List V->Hp->VK->Prop:=λx vs H Q=> ∃l b xs a,x=.ref l/\vs=[.ref b]/\H l=some (.lst xs)/\H b=some (.lst a)/\↑33+a.length<=sizeLine/\Q .non (xY H l (.lst (xs++a)))
theorem Iz:MtM X "list.extend" Ej:=by
 intro pins s σ H x vs v us Q I k m h;obtain⟨l,b,xs,B,rfl,rfl,i,w,D,q⟩:=h;cases k;obtain⟨u,rfl,p⟩:=m.one;cases p;obtain⟨z,its,n,r,C,e⟩:=I.lstM i;obtain⟨A,a,o,j,y,e2⟩:=I.lstM w;have d:its.toArray.size+a.toArray.size<=sizeLine:=by rw[sA,sA];lia
 have c: ¬(!its.toArray.isEmpty&&Builtin.List.listTooLong (its.toArray.size+a.toArray.size))=true:=by rw[Ng d,Bool.and_false];exact xF0
 refine call_meets F.slot_list_extend ⟨_,e,rfl⟩ F.entry_list_extend (F.args_list_extend_2 _ _)
  (AutoSeq1.list_extend_list_list_0 l ↑36 n b a.toArray o c (by rw[sA];lia) #[0]) ⟨e,e2,?_⟩
 refine⟨.non,_,I.lset i e (by simp) (r.append j) ?_,rfl,q⟩;rw[lA]
 lia
def Nh:V->List V->Hp->VK->Prop:=λx vs H Q=> ∃l xs,x=.ref l/\vs=[]/\H l=some (.lst xs)/\Q .non (xY H l (.lst []))
def Ni:MtM X "list.clear" Nh:=by intro pins s σ H x vs v us Q I c d h;obtain⟨l,xs,rfl,rfl,b,q⟩:=h;cases c;have a:=d.zero;subst a;obtain⟨z,its,n,r,i,e⟩:=I.lstM b;refine call_meets F.slot_list_clear ⟨_,e,rfl⟩ F.entry_list_clear (F.args_list_clear_1 _) (AutoSeq1.list_clear_list_0 l ↑36 n (by rw[sA];omega)) ⟨e,?_⟩;exact⟨.non,_,I.lset b e rfl .nil (zero_le _),rfl,q⟩
def rCat:R2:=λx y H Q=> ∃l b xs a,x=.ref l/\y=.ref b/\H l=some (.lst xs)/\H b=some (.lst a)/\↑33+a.length<=sizeLine/\ ∀p,H p=none->Q (.ref p) (xY H p (.lst (xs++a)))
theorem S7:OpR X (binaryOp .Add) rCat:=by
 intro pins s σ H x y v u Q I i j h;obtain⟨l,b,xs,A,rfl,rfl,m,k,C,q⟩:=h;cases i;cases j;obtain⟨z,its,n,r,B,e⟩:=I.lstM m;obtain⟨p,a,w,c,o,e2⟩:=I.lstM k;refine PySem.P.add_list e e2 ?_ (by rw[sA,sA];lia);have d:↑36++a.toArray=(its++a).toArray:=by simp
 rw[d];exact⟨.ref _,_,I.lnew (r.append c) (by rw[lA];lia),rfl,q _ I.fresh⟩
end
end L2
namespace Att
open PySem PySem.W PySem.Calls PyProof.Rows
def KI{P:Params}{h:Heap}: ∀(c:Za)(vs:A0),WellAll P h vs (c.map WData.int)->IntsAre vs c:=by
 intro c
 induction c with
 |nil=>
  intro vs w;cases w;exact .nil
 |cons n c ih=>
  intro vs w
  cases w with
  |cons a b=>
   cases a;exact .cons _ _ (ih _ b)
theorem Ja{l:OpenLaw}{n:Nat}(s:l.most=some n){P:Params}{h:Heap}{args:List WData}{b:A0}
  (hpre:l.row.toRowW.claim.pre args=true) (hwl:WellAll P h b args):
  ∃a vs c,b=[Value.ref a]/\args=[WData.list (c.map WData.int)]/\h.get? a=some {cls:=.type "list",data:=.seq vs.toArray}/\IntsAre vs c/\c.length<=n:=by
 have k:=(pre_splitW hpre).1;have m:l.pre.holds [] {args:=args}=true:=(pre_splitW hpre).2;obtain⟨d,r,rfl,h1,o⟩:=hasAllW_cons k;obtain rfl:=hasAllW_nil o;obtain⟨xs,rfl,p⟩:=hasW_list h1;obtain⟨c,rfl⟩:=items_int p
 have e:c.length<=n:=by
  have i:=by have i:=(holds_andW m).1;rw[s]at i;exact i
  have j:=condW_of i (w_not (w_lt w_lit (w_len_list (w_arg rfl))));refine Nat.le_of_not_lt λq=>?_;have u:=by omega
  first
   |(rw[dT0 u]at j;exact absurd j (by decide))
   |(simp at j;lia)
 cases hwl with
 |cons w1 w2=>
  cases w2
  cases w1 with
  |list ho hall=>exact⟨_,_,c,rfl,rfl,ho,KI c _ hall,e⟩
theorem Jb(l:OpenLaw)(args:List WData):l.row.toRowW.claim.post args (.bool true) args=true:=
 postW_of
  (by first |rfl|decide|simp[WShape.has,WShape.arms,WShape.armsAll])
  (w_eq_bool (w_res rfl) w_lit) rfl
def attach_call{l:OpenLaw}{n:Nat}{q:ň}{e:K0}{I:(Str->Option ņ)->Heap->Prop}{H:World->Heap->Prop}{d:DefRec}
  (hn:l.most=some n) (hdf:d.params.defaults=[])
  (call: ∀(w:World)(c b:Ņ)(mg y:L0)(p:Addr)(o:Obj)(B s h:ņ)(a:Addr)(vs:A0)(u:Za),
   Ground q e [] I w c mg y b.heap->H w b.heap->
   b.heap.get? p=some o->o.data=.func (docDef d.name d.params d.body d.scope B s h)->b.heap.CodeRec s d.name->mg d.name=some (.ref p)->
   b.heap.get? a=some {cls:=.type "list",data:=.seq vs.toArray}->IntsAre vs u->u.length<=n->b.gens=#[]->
   codeAny (model l.prog w) callerA (.call (.ref p) ⟨[.ref a],[]⟩) (λr s'=>r=.ok (.ret (.bool true))/\OldK b.heap s'.heap/\s'.os=b.os/\AllBare s'.gens) b):
  WalkO q e I H l.row.toRowW d [] (λf vs=>PySem.call f vs):=by
 intro w c b mg y G Y p o B s h K kV T L v C z P F D as m E S A U;obtain rfl:K=.none:=Dflts.none C hdf;obtain rfl:kV=.none:=Dflts.noKw C;obtain⟨a,vs,u,rfl,rfl,k,i,j⟩:=Ja hn m A;refine enter_call (ĳ (call w c b mg y p o B s h a vs u G Y T (fd_plain L) v z k i j P) λr s' M=>?_);obtain⟨rfl,J,N,O⟩:=M;exact⟨.inl ⟨_,_,[],rfl,λ_=>rfl,.bool true,Jb l _,λ_=>⟨List.Pairwise.nil,λ_ Q=>(nomatch Q)⟩⟩,J,N,O⟩
end Att
namespace L2
open PySem PySem.Spec PyProof.Rows
theorem RA: ∀{vs:A0}{a:Za},IntsAre vs a->Vals (a.map V.int) vs
 |_,_,.nil=>.nil
 |_,_,.cons n t h=>.cons ⟨t,rfl⟩ (RA h)
def Nj(H:Hp):Prop:= ∀b,H b=none\/ ∃o xs,H b=some (.frz o (.lst xs))
def Nk{P:ň}{w:World}{K:Q0}{mg M:L0}{CX:Ef}{k:Nat}{O a:Addr}{fd:FuncData}{x:Str}{sp:Sp}{c:Ņ}{vs:A0}{I:Za}
  (KX:K.In c.heap) (hns:c.heap.Ns mainGlobals mg) (j:c.heap.Ns builtinsNs M) (hbb: ∀x:Str,x≠"__name__"->M x=bootBuiltins x) (hlim:c.heap.NoLimit) (hg:c.gens=#[])
  (ha:c.heap.get? a=some {cls:=.type "list",data:=.seq vs.toArray}) (hi:IntsAre vs I) (hl:I.length<=sizeLine) (hr:Room k callerA)
  (F: ∀base:Heap,K.In base->base.Ns mainGlobals mg->FnOk P w K mg base CX k O fd [x] sp) (hbind: ∀(s:Ņ)(u:ņ),BindsTo s fd ⟨[u],[]⟩ [(x,u)])
  (hsp: ∀H:Hp,Nj H->SqL K H a (I.map V.int)->sp [.ref a] H (λv _=>v=.bl true) λ_ _ _=>False)
  (hCX: ∀H e s',CX [] H c (λ_ _ _=>False) e s'->False):
  codeAny (model P w) callerA (.call (.ref O) ⟨[.ref a],[]⟩) (λr s'=>r=.ok (.ret (.bool true))/\OldK c.heap s'.heap/\s'.os=c.os/\AllBare s'.gens) c:=by
 have Q:=RA hi;have G:=hi.length
 have y: ∀H:Hp,Nj H->SqL K H a (I.map V.int)->HOk P w H c.heap->(∀b,H b≠none->b=a)->(H a≠none->K.lookup a=none)->
   codeAny (model P w) callerA (.call (.ref O) ⟨[.ref a],[]⟩) (λr s'=>r=.ok (.ret (.bool true))/\OldK c.heap s'.heap/\s'.os=c.os/\AllBare s'.gens) c:=by
  intro H T Y D S W;have i: ∀{b:Addr}{o:Obj},c.heap.get? b=some o->H b=none->(Ii c.heap H).get? b=some o:=λe n=>Ml e n
  have J: ∀{b:Addr}{o:Obj}{es:Array DictEntry}{ep:Nat},c.heap.get? b=some o->o.data=.dict es ep->H b=none:=λ{b o es ep} e d=>by
   cases q:H b with
   |none=>rfl
   |some u=>
    have N:b=a:=S b (by rw[q];simp);subst N;rw[ha]at e;cases e;have d':Data.seq vs.toArray _=Data.dict es ep:=d;cases d'
  have p: ∀{b:Addr}{m:L0},c.heap.Ns b m->(Ii c.heap H).Ns b m:=λ{b m} ⟨o,es,ep,e,d,r⟩=>⟨o,es,ep,i e (J e d),d,r⟩
  have B:K.In _:=λb o e=>i (KX b o e) (by
   cases q:H b with
   |none=>rfl
   |some u=>
    have N:b=a:=S b (by rw[q];simp);subst N;rw[W (by rw[q];simp)]at e;cases e)
  have hM:Mod K mg _:=⟨B,p hns,⟨M,p j,hbb⟩,let ⟨mc,h1,U⟩:=hlim;⟨mc,p h1,U⟩⟩
  have e0:Env0 P w K mg _ callerA [] c H:=⟨rfl,hM,λb o e=>Tt e,Nat.le_of_eq (Ij _ _),trivial,λb j=>absurd (show b∈([]:B9)from j) (by simp),D,.of_eq hg⟩
  refine ĳ ((F _ B (p hns)).run callerA [] c H ⟨_,[]⟩ [.ref a] [.ref a] _ _ hr e0 (hbind c (.ref a)) (.cons rfl .nil) (hsp H T Y)) λr s' h=>?_
  cases r with
  |error e=>exact(hCX H e s' h).elim
  |ok fl=>
   cases fl with
   |next=>exact False.elim h
   |brk=>exact False.elim h
   |cont=>exact False.elim h
   |ret u=>
    obtain⟨v,H',os,E,un,C,Z,q⟩:=h;have X:v=.bl true:=q;subst X;obtain rfl:u=Value.bool true:=Z;refine⟨rfl,OldK.of_keep λb o e=>?_,os,E⟩
    cases q:H b with
    |none=>exact un.keep b o e q (by intro z;exact absurd (show b∈([]:B9)from z) (by simp)) (by simp)
    |some u=>
     rcases T b with z|⟨ob,xs,z⟩
     .rw[q]at z;cases z
     .have z2:=un.frzs b ob _ z;obtain⟨e1,_⟩:=D b _ z;obtain⟨e2,_⟩:=C b _ z2;rw[e]at e1;cases e1;exact e2
 cases L:K.lookup a with
 |some o=>
  have e:=KX a o L;rw[ha]at e;cases e;refine y (λ_=>none) (λ_=>.inl rfl) (.inr ⟨_,_,_,L,rfl,rfl,rfl,by rw[sA,G];exact hl,by simpa using Q⟩) (λb u z=>by have A:_=some u:=z;cases A) (λb z=>absurd rfl z) λz=>absurd rfl z
 |none=>
  refine y (λb=>if b=a then some _ else none) (λb=>?_) (.inl (.inr ⟨{cls:=.type "list",data:=.seq vs.toArray},iP rfl⟩)) (λb u z=>?_) (λb z=>?_) λ_=>L
  .by_cases j:b=a
   .exact .inr ⟨_,_,iP j⟩
   .exact .inl (iN j)
  .by_cases j:b=a
   .have A:=(iP j).symm.trans z;cases A;subst j;exact⟨ha,by rw[lM];exact hl,vs,_,Q,ha⟩
   .have A:=(iN j).symm.trans z;cases A
  .by_cases j:b=a
   .exact j
   .exact absurd (iN j) z
def walk_of{l:PySem.W.OpenLaw}{n k:Nat}{q:ň}{j:K0}{N:(Str->Option ņ)->Heap->Prop}{B:World->Heap->Prop}{d:DefRec}{K:Params->PySem.W.Frag}{CX:World->Ef}{sp:World->Sp}{x:Str}
  (hn:l.most=some n) (hn2:n<=sizeLine) (hdf:d.params.defaults=[]) (hr:Room k callerA)
  (hY: ∀(w:World)(h:Heap),B w h->(K w.params).In h)
  (F: ∀(w:World)(mg:L0)(r:Addr)(h:Heap),(K w.params).In h->h.Ns mainGlobals mg->mg d.name=some (.ref r)->
   ∃fd:FuncData,(∀(s:Ņ)(u:ņ),BindsTo s fd ⟨[u],[]⟩ [(x,u)])/\
    ∀base:Heap,(K w.params).In base->base.Ns mainGlobals mg->FnOk l.prog w (K w.params) mg base (CX w) k r fd [x] (sp w))
  (hsp: ∀(w:World)(H:Hp)(a:Addr)(y:Za),y.length<=n->Nj H->SqL (K w.params) H a (y.map V.int)->sp w [.ref a] H (λv _=>v=.bl true) λ_ _ _=>False)
  (hCX: ∀(w:World)(H:Hp)(s:Ņ)(e:ņ)(s':Ņ),CX w [] H s (λ_ _ _=>False) e s'->False):
  PySem.W.WalkO q j N B l.row.toRowW d [] (λf vs=>PySem.call f vs):=by
 refine Att.attach_call hn hdf λw A m mg P r o S Q L a vs y G Y U O D z p i c I=>?_;have KX:=hY w _ Y;obtain⟨fd,C,J⟩:=F w mg r _ KX G.T.g z;exact Nk KX G.T.g G.T.b G.T.builtins G.T.nolimit I p i (ì c hn2) hr J C (λH M E=>hsp w H a y c M E) λH e s'=>hCX w H m e s'
noncomputable def inClass(s:Stmt)(j:Nat):Stmt:=match s with
 |.ClassDef _ _ _ body _ _ _ _ _ _ _=>body.getD j (.Pass ⟨0,0,0,0⟩)
 |_=>.Pass ⟨0,0,0,0⟩
noncomputable def kP(s:Stmt):Arguments:=match s with
 |.FunctionDef _ a _ _ _ _ _ _ _ _=>a
 |_=>{posonlyargs:=[],args:=[],vararg:=none,kwonlyargs:=[],kw_defaults:=[],kwarg:=none,defaults:=[]}
def yZ(s:Stmt):List Stmt:=match s with
 |.FunctionDef _ _ b _ _ _ _ _ _ _=>b
 |_=>[]
noncomputable def zK(s:Stmt):Scope:=match s with
 |.FunctionDef _ _ _ _ _ _ sc _ _ _=>sc
 |_=>{kind:=.function,names:=[],isGenerator:=false,isCoroutine:=false}
abbrev BS:Ef:=λ_ _ _ _ _ _=>False
abbrev E0:XK:=λ_ _ _=>False
def Nl{X:Cx}:LQ BS X E0:=λ_ _ _ _ _ _ _ h=>h.elim
structure Fun(K:Q0)(x qual:Str)(st:Stmt)(f:Addr)(fd:FuncData):Prop where
 ex: ∃(oc:ņ)(od:Option Addr)(kV doc pm:ņ)(an:Option Addr)(cdv ct:ņ)(osl:Array (Option ņ)),
  fd=PySem.W.fnOf x qual (kP st) (yZ st) (zK st) .none kV doc pm an cdv ct/\K.lookup f=some ⟨oc,od,.func fd,osl⟩/\PySem.W.codeIn K cdv qual=true
 kp:PySem.W.keepIn K (.ref f)=true
section
variable{P:ň}{w:World}{K:Q0}{mg:L0}{base:Heap}
def Fun.ok{x qual:Str}{st:Stmt}{f:Addr}{fd:FuncData}{N ps:K0}{k:Nat}{sp:Sp}(F:Fun K x qual st f fd)(S:FnScope N ps (zK st))(len: ∀vs H Q E,sp vs H Q E->vs.length=ps.length)
  (hbody: ∀(b:ņ)(A:Ň)(a:List Env)(s:Ņ)(H:Hp)(vs:List V)(Q:VK)(E:XK),Room k (A.deeper (envOfC qual (zK st) ↑1 f b))->sp vs H Q E->
   ∃t,PSs (PL BS P w K mg base N qual (zK st) f b A a s H E).nox (yZ st) t/\t {nx:=λ_ H'=>Q .non H',rt:=Q} (start N vs) H):FnOk P w K mg base BS (k+1) f fd ps sp:=by
 obtain⟨m,r,kV,i,p,o,b,n,e,rfl,lk,d⟩:=F.ex;refine zEP lk d S len λA a s H vs Q E j c=>?_;obtain⟨t,h,q⟩:=hbody b A a s H vs Q E j c;exact⟨t,h.nox,q⟩
def Fun.binds{x qual:Str}{st:Stmt}{f:Addr}{fd:FuncData}{ps:K0}(F:Fun K x qual st f fd)
  (h: ∀(kV a e:ņ)(d:Option Addr)(b c:ņ)(us:A0),us.length=ps.length->bindArgs (PySem.W.fnOf x qual (kP st) (yZ st) (zK st) .none kV a e d b c) ⟨us,[]⟩=pure (ps.zip us)):Binds K fd ps []:=by
 obtain⟨k,m,kV,a,e,d,b,c,i,rfl,lk,j⟩:=F.ex;exact .all (h kV a e d b c)
def uB{x qual:Str}{st:Stmt}{f:Addr}{i:ņ}{j h:Option Addr}{d:Array (Option ņ)}{kV b e a ct:ņ}(l:K.lookup f=some ⟨i,j,.func (PySem.W.fnOf x qual (kP st) (yZ st) (zK st) .none kV b e h a ct),d⟩)
  (c:PySem.W.codeIn K a qual=true) (k:PySem.W.keepIn K (.ref f)=true):Fun K x qual st f (PySem.W.fnOf x qual (kP st) (yZ st) (zK st) .none kV b e h a ct):=⟨⟨i,j,kV,b,e,h,a,ct,d,rfl,l,c⟩,k⟩
end
section
variable{X:Cx}
def pv(i:Nat){x:Str}{pos:Pos}(b:X.N[i]? =some x:=by rfl)(c:zDT X.env.scope x:=by first |exact Or.inl rfl|exact Or.inr (Or.inl rfl)|exact Or.inr (Or.inr rfl))(a:↑28=false:=by decide)
  (hcd:(x==("__classdict__":Str))=false:=by decide):PE X (.Name x pos) (zDU i):=M7 b c a hcd
end
end L2
set_option maxHeartbeats 4000000
namespace L2
open PySem PySem.Spec PyProof.Rows
variable{sc:Scope}{elt iter:Expr}{ifs:P0}{pos:Pos}
noncomputable def AD(a:Env)(l:List (Str×NameKind))(cs:List (Str×Addr)):List (Str×Addr):=
 l.foldl (λc y=>if y.2==.free then(y.1,(a.cells.lookup y.1).getD 0)::c else c) cs
def TN{α β:Type}{l:List α}{f:α->β->Sem (ForInStep β)}{g:β->α->β}: ∀(c:β),(∀x∈l, ∀c,f x c=pure (.yield (g c x)))->
  forIn l c f=pure (l.foldl g c):=by
 induction l with
 |nil=>intro c _;rfl
 |cons x l ih=>
  intro c h;rw[forIn_cons,h x mF0];exact ih _ λy a=>h y (mO _ a)
def PQ{b:Scope}{d:Env}(h: ∀y∈b.names,y.2=.free-> ∃c,d.cells.lookup y.1=some c):closureFor b d=pure (AD d b.names []):=by
 unfold closureFor AD;dsimp only;rw[TN [] ?_]
 .rfl
 .intro y o c;obtain⟨n,k⟩:=y;by_cases j:k=.free
  .subst j;obtain⟨a,m⟩:=h _ o rfl;have i:=m;simp[cellOf,i]
  .have e:=by simpa using j
   simp[e]
theorem JK{a:Env}: ∀(l:List (Str×NameKind))(cs:List (Str×Addr)),(∀y∈l,y.2=.free-> ∃c,a.cells.lookup y.1=some c)->(∀p∈cs,a.cells.lookup p.1=some p.2)->
  ∀p∈AD a l cs,a.cells.lookup p.1=some p.2
 |[],_,_,h=>h
 |(n,k)::l,cs,hl,h=>by
  refine JK l _ (λy m=>hl y (mO _ m)) λp d=>?_;by_cases i:k=.free
  .subst i;obtain⟨c,j⟩:=hl _ mF0 rfl;have e:=j;have b:p∈_::cs:=d;rcases mC.mp b with rfl|d
   .show a.cells.lookup n=some _;rw[e];rfl
   .exact h p d
  .have b:p∈(if _=true then _::cs else cs):=d;rw[iN (by simpa using i)]at b;exact h p b
theorem LS{a:Env}: ∀(l:List (Str×NameKind))(cs:List (Str×Addr))(p:Str×Addr),p∈cs->p∈AD a l cs
 |[],_,_,h=>h
 |_::l,cs,p,h=>by
  refine LS l _ p ?_;show p∈(if _=true then _::cs else cs);split
  .exact mO _ h
  .exact h
theorem AG{a:Env}: ∀(l:List (Str×NameKind))(cs:List (Str×Addr))(n:Str),(n,NameKind.free)∈l-> ∃c,(n,c)∈AD a l cs
 |[],_,_,h=>nomatch h
 |(m,k)::l,cs,n,h=>by
  rcases mC.mp h with e|h
  .have e1:=congrArg Prod.fst e;have e2:=congrArg Prod.snd e;subst e1 e2;exact⟨_,LS l _ _ mF0⟩
  .exact AG l _ n h
theorem cP{β:Type}: ∀{l:List (Str×β)}{n:Str},(∃c,(n,c)∈l)-> ∃c,l.lookup n=some c
 |[],_,h=>let ⟨_,z⟩:=h;nomatch z
 |(m,b)::l,n,h=>by
  by_cases e:n=m
  .subst e;exact⟨b,by simp[Ě]⟩
  .obtain⟨c,a⟩:=h;rcases mC.mp a with z|z
   .cases z;exact absurd rfl e
   .obtain⟨d,h'⟩:=cP ⟨c,z⟩;refine⟨d,?_⟩;have i:(n==m)=false:=by simpa using e
    simp[Ě,i,h']
noncomputable def Jc(a b:Scope):List (Str×NameKind):=a.names.map λ(n,k)=>if(k==.free&&b.kind==.function&&b.names.lookup n==some .cell)then(n,.cell)else(n,k)
noncomputable def AH(a:Scope)(N:K0)(sc:Scope)(idx:Db):Bool:=
 decide (sc.kind=.function)&&sc.names.all (λy=>decide (sc.names.lookup y.1=some y.2))&&
 sc.names.all (λy=>decide (y.2≠.free) || decide (a.names.lookup y.1=some .cell) || decide (a.names.lookup y.1=some .free))&&
 idx.all (λi=>match N[i]? with
  |some y=>(decide (a.names.lookup y=some .cell) || decide (a.names.lookup y=some .free))&&decide (sc.names.lookup y=some .free)
  |none=>false)
def rlS(sc a:Scope):Scope:={sc with names:=Jc sc a}
abbrev Lz(a:Env)(sc:Scope)(C:Addr):List (Str×Addr):=cellsFrom (C+1) sc.names (AD a sc.names [])
theorem kD: ∀(l:List (Str×NameKind))(n:Nat)(a:List (Str×Addr)),cellsFrom n l a=cellsFrom n l []++a
 |[],n,a=>rfl
 |_::l,n,a=>by
  unfold cellsFrom;split
  .rw[kD l _ _,kD l _ [_],aA];rfl
  .exact kD l n a
theorem FB: ∀(l:List (Str×NameKind))(n:Nat){x:Str}{c:Addr},(x,c)∈cellsFrom n l []->(x,NameKind.cell)∈l/\n<=c
 |[],n,x,c,h=>nomatch h
 |(y,k)::l,n,x,c,h=>by
  unfold cellsFrom at h;split at h
  .rename_i d;rw[kD]at h;rcases æ.mp h with h|h
   .obtain⟨h1,b⟩:=FB l _ h;exact⟨mO _ h1,by lia⟩
   .have e:=mS.mp h;cases e;have a:=by simpa using d
    subst a;exact⟨mF0,à _⟩
  .obtain⟨h1,b⟩:=FB l n h;exact⟨mO _ h1,b⟩
def EA{l:List (Str×NameKind)}{C:Nat}{x:Str}{c:Addr}(h:(x,c)∈cellsFrom (C+1) l []){n:Nat}(a:n<=C):n<c:=lt_of_le_of_lt a (FB l _ h).2
theorem BU: ∀(l:List (Str×NameKind))(n:Nat){x:Str},(x,NameKind.cell)∈l-> ∃c,(x,c)∈cellsFrom n l []
 |[],n,x,h=>nomatch h
 |(y,k)::l,n,x,h=>by
  unfold cellsFrom;rcases mC.mp h with e|h
  .cases e;rw[kD];exact⟨n,õ _ mF0⟩
  .split
   .obtain⟨c,a⟩:=BU l _ h;rw[kD];exact⟨c,Ď _ a⟩
   .exact BU l n h
theorem own_apart: ∀(l:List (Str×NameKind))(n:Nat),(cellsFrom n l []).Pairwise λx y=>x.2≠y.2
 |[],n=>List.Pairwise.nil
 |_::l,n=>by
  unfold cellsFrom;split
  .rw[kD];refine List.pairwise_append.mpr ⟨own_apart l _,pairwise_singleton _ _,λa c b d e=>?_⟩;rw[mS.mp d]at e;have:=(FB l _ c).2;exact Ė this e
  .exact own_apart l n
theorem uC{β:Type}(x:Str): ∀(l m:List (Str×β)),(l++m).lookup x=(l.lookup x).or (m.lookup x)
 |[],m=>rfl
 |(y,b)::l,m=>by
  rw[List.cons_append,Ě,Ě]
  cases x==y with
  |true=>rfl
  |false=>exact uC x l m
theorem RB{β:Type}{x:Str}: ∀{l:List (Str×β)},(∀c,(x,c)∉l)->l.lookup x=none
 |[],_=>rfl
 |(y,b)::l,h=>by
  rw[Ě]
  cases e:x==y with
  |true=>rw[beq_iff_eq.mp e]at h;exact absurd mF0 (h b)
  |false=>exact RB λc a=>h c (mO _ a)
def pW{a:Env}{C:Addr}{x:Str}{c:Addr}(e:(Lz a sc C).lookup x=some c):(x,c)∈cellsFrom (C+1) sc.names []\/(AD a sc.names []).lookup x=some c:=by
 unfold Lz at e;rw[kD,uC]at e
 cases z:(cellsFrom _ sc.names []).lookup x with
 |some c'=>rw[z]at e;cases e;exact .inl (PySem.mem_of_lookup z)
 |none=>rw[z]at e;exact .inr e
def S8{a:Env}{C:Addr}{x:Str}{c:Addr}(h:(x,NameKind.cell)∈sc.names)(e:(Lz a sc C).lookup x=some c):(x,c)∈cellsFrom (C+1) sc.names []:=by unfold Lz at e;rw[kD,uC]at e;obtain⟨b,h'⟩:=cP (BU sc.names _ h);rw[h']at e;cases e;exact PySem.mem_of_lookup h'
theorem Uu{a:Env}{C:Addr}{x:Str}(h:(x,NameKind.cell)∉sc.names):(Lz a sc C).lookup x=(AD a sc.names []).lookup x:=by unfold Lz;rw[kD,uC,RB λc b=>h (FB _ _ b).1];rfl
noncomputable def HQ(σ:St)(idx:Db):St:=idx.map λi=>(σ[i]?).join
def rE(σ:St)(idx:Db):(HQ σ idx).length=idx.length:=by unfold HQ;rw[lM]
def zM(X:Cx)(sc:Scope)(T:K0)(idx:Db)(C:Addr)(s₂:Ņ)(H1:Hp)(fp:B9):Cx where
 prog:=X.prog
 w:=X.w
 K:=X.K
 mg:=X.mg
 base:=X.base
 A:=X.A
 N:=T++idx.map λi=>(X.N[i]?).getD Str.empty
 s₀:=s₂
 H₀:=H1
 env:=compEnvC sc (Lz X.env sc C) C X.env
 outer:=X.stack
 stack:=X.stack
 ex:=fp
 fn:=λx=>sc.names.lookup x==some .cell
 calm:=X.calm
 pn:=[]
 xe:=λ_ _=>False
def Nn(k:TI)(g:TG)(n:Addr->Ņ->Hp->List Addr->TT)(te:Addr->Ņ->Hp->List Addr->TE)(nt:Nat)(idx:Db):TE:=λσ H Q=>k σ H λJ H1=> ∃W:Nat->Nat->List V->Hp->Prop,(∃m,W 0 m [] H1)/\ ∀i m ys c,W i m ys c->ys.length<=sizeLine/\
 ((J.stop i c/\ ∀D,c D=none->Q (.ref D) (xY c D (.lst ys)))\/
   (J.go i c/\ys.length<sizeLine/\ ∀x h,J.yld i c x h-> ∀τ:St,τ.length=nt->g x (τ++HQ σ idx) h λa j=>(∃e,a=e++HQ σ idx/\e.length=nt)/\
    ∀C s₂ fp,n C s₂ H1 fp a j λb H5=>if b=true then te C s₂ H1 fp a H5 λy H6=> ∃d,d<m/\W (i+1) d (ys++[y]) H6 else∃d,d<m/\W (i+1) d ys H5))
section
variable{prog:ň}{w:World}{A:Ň}{R:Result->Ņ->Prop}{s:Ņ}
def TQ{a:Expr}{u:Scope}{it D:ņ}{e:Env}(I:Nat->Ņ->Prop)
  (turn: ∀n s,I n s->wpAny (model prog w) A (pyNext it) (λr d=>match r with
   |none=>R (.ok .next) d
   |some v=>wpAny (model prog w) A (letOwnedTupleGo a it v) (λ_ b=>wpAny (model prog w) A (assign a e v) (λ_ s₂=>
     wpAny ↑9 A (forIn ifs true λc r=>if r=true then do let ok <-isTrue c e (eval c e);pure (ForInStep.yield ok)else pure (ForInStep.yield r)) (λok i=>
      if ok=true then wpAny ↑9 A (eval elt e) (λx o=>
       wpAny ↑9 A (call (.builtin "list.append") [D,x]) (λ_ p=> ∃m,m<n/\I m p) (λ_ _=>False) o) (λ_ _=>False) i
      else∃m,m<n/\I m i) (λ_ _=>False) s₂) (λ_ _=>False) b) (λ_ _=>False) d) (λ_ _=>False) s)
  (n:Nat) (h:I n s):codeAny ↑9 A (.compLoop (.ListComp elt [⟨a,iter,ifs,0⟩] u pos) 0 it D e) R s:=by
 refine codeAny_loop rfl I (λn s F=>?_) n h;show wpAny _ A _ _ _ s;refine wpAny_noted ?_;have no: ∀{E:VP}(v:ņ)(s':Ņ),False->E v s':=λ_ _ z=>z.elim;refine wB (wpAny_standAt (wB (ă (turn n s F) (λr d j=>?_) (no))))
 cases r with
 |none=>exact wP j
 |some v=>
  refine wB (ă j (λ_ b q=>wB (ă q (λ_ s₂ C=>wB (ă C (λok i k=>?_) no)) no)) no)
  cases ok with
  |false=>exact wP ⟨rfl,k⟩
  |true=>
   exact wB (wB (ă k (λx o y=>wB (ă y (λ_ p B=>wP (wP ⟨rfl,B⟩)) no)) no))
end
def Je(X:Cx)(ifs:P0)(t:TT):Prop:=
 ∀(pins:M0)(s:Ņ)(σ:St)(H:Hp)(Q:Bool->Hp->Prop),Inv X pins σ H s->t σ H Q->
  wpAny ↑6 X.A (forIn ifs true λc r=>if r=true then do let ok <-isTrue c X.env (eval c X.env);pure (ForInStep.yield ok)else pure (ForInStep.yield r)) (TP X pins σ Q) X.xe s
def zEY:TT:=λ_ H Q=>Q true H
def Np{X:Cx}:Je X [] zEY:=λ_ _ _ H _ I h=>wpAny_tests_nil ⟨H,I,h⟩
def Nq{X:Cx}{c:Expr}{t:TT}(h:PT X c t):Je X [c] t:=λpins s σ H Q I q=>wpAny_tests_one (h pins s σ H Q I q)
structure CompF(osc:Scope)(N:K0)(sc:Scope)(idx:Db):Prop where
 kind:sc.kind=.function
 uni: ∀y∈sc.names,sc.names.lookup y.1=some y.2
 frees: ∀y∈sc.names,y.2=.free->osc.names.lookup y.1=some .cell\/osc.names.lookup y.1=some .free
 cap: ∀i∈idx, ∃y,N[i]? =some y/\(osc.names.lookup y=some .cell\/osc.names.lookup y=some .free)/\sc.names.lookup y=some .free
def CompF.locs{a:Scope}{N:K0}{idx:Db}(F:CompF a N sc idx): ∀y∈sc.names,y.2=.local->sc.names.lookup y.1=some .local:=λy b e=>by rw[F.uni y b,e]
def Uv{a:Scope}{N:K0}{idx:Db}(h:AH a N sc idx=true):CompF a N sc idx:=by
 unfold AH at h;simp only[aE,ø,ë,ī]at h;obtain⟨⟨⟨h1,d⟩,c⟩,j⟩:=h;refine⟨h1,λy b=>d y b,λy b e=>?_,λi hi=>?_⟩
 .rcases c y b with(z|z)|z
  .exact absurd e z
  .exact .inl z
  .exact .inr z
 .have q:=j i hi
  cases e:N[i]? with
  |none=>rw[e]at q;cases q
  |some y=>
   rw[e]at q;simp only[aE,ë,ī]at q;exact⟨y,rfl,q.1,q.2⟩
def Nr{a:Scope}{x:Str}(h:(Jc sc a).lookup x=some .cell\/(Jc sc a).lookup x=some .free):(x,NameKind.free)∈sc.names\/(x,NameKind.cell)∈sc.names:=by
 have b: ∀c,(c=.cell\/c=.free)->(x,c)∈Jc sc a->(x,NameKind.free)∈sc.names\/(x,NameKind.cell)∈sc.names:=by
  intro c i m;obtain⟨⟨n,k⟩,d,e⟩:=mM.mp m;dsimp only at e;split at e
  .rename_i j;cases e;rw[aE,aE]at j;have:=by simpa using j.1.1
   subst this;exact .inl d
  .cases e;rcases i with rfl|rfl
   .exact .inr d
   .exact .inl d
 rcases h with h|h
 .exact b _ (.inl rfl) (PySem.mem_of_lookup h)
 .exact b _ (.inr rfl) (PySem.mem_of_lookup h)
theorem RD{a:Scope}{x:Str}: ∀{l:List (Str×NameKind)},l.lookup x=some .free->(l.map λ(n,k)=>if(k==NameKind.free&&a.kind==.function&&a.names.lookup n==some .cell)then(n,NameKind.cell)else(n,k)).lookup x=some .cell\/(l.map λ(n,k)=>if(k==NameKind.free&&a.kind==.function&&a.names.lookup n==some .cell)then(n,NameKind.cell)else(n,k)).lookup x=some .free
 |[],h=>by simp at h
 |(n,k)::l,h=>by
  have d:=@RD a x l;rw[Ě]at h;rw[ê];by_cases c:(k==NameKind.free&&a.kind==.function&&a.names.lookup n==some .cell)=true
  .dsimp only;rw[iP c,Ě]
   cases b:x==n with
   |true=>exact .inl rfl
   |false=>rw[b]at h;exact d h
  .dsimp only;rw[iN c,Ě]
   cases b:x==n with
   |true=>rw[b]at h;exact .inr h
   |false=>rw[b]at h;exact d h
section
variable{X:Cx}{pins:M0}{σ:St}{H1:Hp}{s₂:Ņ}{sc:Scope}{T:K0}{idx:Db}{C:Addr}{fp:B9}
def XC(I:Inv X pins σ H1 s₂)(F:CompF X.env.scope X.N sc idx): ∀y∈sc.names,y.2=.free-> ∃c,X.env.cells.lookup y.1=some c:=
 λy a e=>I.ok.has y.1 (F.frees y a e)
def bK(I:Inv X pins σ H1 s₂)(F:CompF X.env.scope X.N sc idx){x:Str}{c:Addr}(e:(AD X.env sc.names []).lookup x=some c):X.env.cells.lookup x=some c:=
 JK sc.names [] (XC I F) (λ_ z=>nomatch z) _ (PySem.mem_of_lookup e)
def Uw(I:Inv X pins σ H1 s₂)(F:CompF X.env.scope X.N sc idx){x:Str}{c:Addr}(a:(x,NameKind.free)∈sc.names)(e:X.env.cells.lookup x=some c):(AD X.env sc.names []).lookup x=some c:=by obtain⟨b,h'⟩:=cP (AG sc.names [] x a);rw[h'];rw[bK I F h']at e;exact e
def Jf(I:Inv X pins σ H1 s₂)(F:CompF X.env.scope X.N sc idx)(hC:s₂.heap.objs.size<=C)(hfp: ∀b∈fp,FA X pins H1 b)(hlt: ∀b∈fp,b<s₂.heap.objs.size):(zM X sc T idx C s₂ H1 fp).Ok where
 mod:=I.ok.mod
 kind:=F.kind
 glob:=I.ok.glob
 blt:=I.ok.blt
 above:=hC
 inj:=λx y c h1 h2=>by
  have low: ∀z,(AD X.env sc.names []).lookup z=some c->c<s₂.heap.objs.size:=λz h=>let ⟨v,q⟩:=I.cell z c (bK I F h);q.lt;rcases pW h1 with z1|z1<;>rcases pW h2 with z2|z2
  .exact PySem.name_of_addr (own_apart sc.names (C+1)) z1 z2
  .exact absurd (low y z2) (Nat.not_lt.mpr (le_of_lt (EA z1 hC)))
  .exact absurd (low x z1) (Nat.not_lt.mpr (le_of_lt (EA z2 hC)))
  .exact I.ok.inj x y c (bK I F z1) (bK I F z2)
 has:=λx hx=>by
  have hx':(Jc sc X.env.scope).lookup x=some .cell\/(Jc sc X.env.scope).lookup x=some .free:=hx;show∃c,(Lz X.env sc C).lookup x=some c;unfold Lz;rw[kD];rcases Nr hx' with z|z
  .obtain⟨c,hc⟩:=AG sc.names [] x z;exact cP ⟨c,õ _ hc⟩
  .obtain⟨c,hc⟩:=BU sc.names (C+1) z;exact cP ⟨c,Ď _ hc⟩
 cab:=λx c h e=>by have h':sc.names.lookup x=some .cell:=beq_iff_eq.mp h;exact le_of_lt (EA (S8 (PySem.mem_of_lookup h') e) hC)
 hd:=I.ok.hd
 frames:=I.ok.frames
 stk:=.inl rfl
 exf:=λb hb=>⟨â (é (hlt b hb) hC),λx c e=>by
  rcases pW e with z|z
  .exact Ė (lt_trans (hlt b hb) (EA z hC))
  .exact(hfp b hb).2.2.2.2.1 x c (bK I F z)⟩
 bs:=I.bs
 bsz:=ì I.ok.bsz I.sz
 noex:=λb o e hb=>by
  rcases (hfp b hb).2.2.2.1 with z|z
  .exact I.ok.noex b o e z
  .exact absurd (é (á e) (ì I.ok.bsz z)) (ĕ _)
 exfs:=λb hb z=>by
  rcases mC.mp (I.stkSub b z)with e|e
  .exact(hfp b hb).2.1 e
  .exact(hfp b hb).2.2.1 e
 funs:=I.stack
 frf:=I.stkFree
theorem Bf{d:Ņ}{m:L0}(I:Inv X pins σ H1 s₂)(F:CompF X.env.scope X.N sc idx)(A:s₂.heap.objs.size<=C)(B: ∀b∈fp,FA X pins H1 b)(w: ∀b∈fp,b<s₂.heap.objs.size)
  (kp: ∀b o,s₂.heap.get? b=some o->d.heap.get? b=some o) (ho:d.os=s₂.os) (hg:d.gens=s₂.gens) (hn:d.heap.Ns C m) (hcl: ∀x c,(x,c)∈cellsFrom (C+1) sc.names []->d.heap.IsCell c none):
  Inv ↑15 [] (T.map (λ_=>none)++HQ σ idx) H1 d:=by
 have h: ∀c v,s₂.heap.IsCell c v->d.heap.IsCell c v:=λc v ⟨o,h1,K⟩=>⟨o,kp c o h1,K⟩
 refine⟨Jf I F A B w,ho,by rw[hg];exact I.bare,Un.kept kp,⟨m,hn,λi x v e1 e2 W=>?_⟩,λx c e=>?_,I.hok.fresh A,λx c e=>?_,λp P=>absurd (show p∈([]:List _)from P) (by simp),I.hok.kept kp,?_⟩
 .have k:(T++idx.map λi=>(X.N[i]?).getD Str.empty)[i]? =some x:=e1;by_cases hi:i<T.length
  .rw[ç (by simpa using hi),ð]at e2
   cases z:T[i]? with
   |none=>rw[z]at e2;cases e2
   |some y=>rw[z]at e2;cases e2
  .rw[î (by simpa using hi)]at e2;rw[î #[0]]at k;rw[lM]at e2;unfold HQ at e2;rw[ð]at k e2
   cases z:idx[i - T.length]? with
   |none=>rw[z]at e2;cases e2
   |some j=>
    rw[z]at k e2;have S:=ñ z;obtain⟨y,J,H,s⟩:=F.cap j S;have ex:=by have q:(X.N[j]?).getD Str.empty=x:=ã k;rw[J]at q;exact q
    subst ex
    have M:σ[j]? =some (some v):=by
     have q:(σ[j]?).join=some v:=ã e2
     cases G:σ[j]? with
     |none=>rw[G]at q;cases q
     |some a=>rw[G]at q;have L:a=some v:=q;rw[L]
    obtain⟨U,Q,E⟩:=I.loc;have D:zDT X.env.scope y:=H.elim (λz=>.inr (.inl z)) λz=>.inr (.inr z);obtain⟨u,r,l⟩:=E j y v J M D;refine⟨u,r,?_⟩;rcases l with⟨kl,_⟩|⟨_,c,hc,q⟩
    .have n:X.env.scope.names.lookup y=some .local:=kl;rcases H with z|z<;>rw[z]at n<;>cases n
    .have O:(y,NameKind.cell)∉sc.names:=λz=>by have:=F.uni _ z;rw[s]at this;cases this
     refine .inr ⟨RD s,c,?_,h c _ q⟩;show(Lz X.env sc C).lookup y=some c;rw[Uu O];exact Uw I F (PySem.mem_of_lookup s) hc
 .rcases pW e with z|z
  .exact⟨none,hcl x c z⟩
  .obtain⟨v,q⟩:=I.cell x c (bK I F z);exact⟨v,h c v q⟩
 .rcases pW e with z|z
  .exact I.hok.fresh (le_of_lt (EA z A))
  .exact I.freeC x c (bK I F z)
 .show(T.map (λ_=>_)++HQ σ idx).length=(T++idx.map λi=>(X.N[i]?).getD Str.empty).length;rw[lA,lA,lM,lM,rE]
def Bg{p:St}{H':Hp}{s':Ņ}{h':Heap}{D:Addr}{ys:List V}{its:A0}{n:Nat}(I:Inv X pins σ H1 s₂)(y:s₂.heap.objs.size<=C)(h: ∀b∈fp,FA X pins H1 b)
  (J:Inv ↑15 [] p H' s') (hs:Heap.SameBut C s'.heap h') (hD:s₂.heap.objs.size<=D) (hDC:D≠C) (eD:s'.heap.get? D=some {cls:=.type "list",data:=.seq ↑36 n}) (nD:H' D=none) (r:Vals ys its) (hz:ys.length<=sizeLine):
  Inv X pins σ (xY H' D (.lst ys)) {s' with heap:=h'}:=by
 have i: ∀b o,s₂.heap.get? b=some o->b≠C/\b≠D:=λb o e=>⟨â (é (á e) y),â (é (á e) hD)⟩
 have d: ∀b u,H1 b=some u->b≠D:=λb u e=>â (é (I.hok.lt e) hD);have s:=J.free;have B:Un _ fp H1 H' s₂.heap s'.heap:=J.base;have k: ∀b o,b≠C->s'.heap.get? b=some o->h'.get? b=some o:=λb o a e=>(hs.2 b a).trans e;refine I.call' J.os ⟨λb o e q a j=>?_,λb o e q a j=>?_,λb o e q j=>?_,λb o e j=>?_,λb xs e=>?_,λb o u e=>?_,λb ps e=>?_⟩ ?_ J.bare λb a=>⟨(h b a).2.2.2.1,(h b a).2.1,(h b a).2.2.2.2.1,(h b a).2.2.2.2.2⟩
 .exact k b o (i b o e).1 (B.keep b o e q a j)
 .obtain⟨sl,z⟩:=B.slot b o e q a j;exact⟨sl,k b _ (i b o e).1 z⟩
 .rw[zL (i b o e).2];exact B.free b o e q j
 .obtain⟨o',z⟩:=B.there b o e j;exact⟨o',k b o' (i b o e).1 z⟩
 .rw[zL (d b _ e)];exact B.tups b xs e
 .rw[zL (d b _ e)];exact B.frzs b o u e
 .obtain⟨m,z⟩:=B.tbls b ps e;exact⟨m,by rw[zL (d b _ e)];exact z⟩
 .intro b u e;by_cases a:b=D
  .subst a;rw[zX]at e;cases e;exact⟨hz,its,n,r,k b _ hDC eD⟩
  .rw[zL a]at e;refine(J.hok b u e).stay (λc v w q=>k c v ?_ q) (λc q=>by rw[zL (zZ q nD)];exact q) λc xs q=>by rw[zL (zZ q nD)];exact q
   rcases w with z|z
   .rw[z];exact zZ e s
   .exact zZ z s
end
section
variable{X:Cx}
def PR{M:Model}{A:Ň}{E:VP}{s:Ņ}{a:Scope}{b:Addr}{c:List (Str×Addr)}{qual:Str}{d:Env}{Q:Env->Ņ->Prop}
  (hQ:Q (newEnv a ↑1 b (cellsFrom (↑1+1) a.names c) qual none .none (some d) builtinsNs) {s with heap:=pushCells (s.heap.push {cls:=.type "dict",data:=.dict #[]}) a.names}):
  wpAny M A (newFunctionEnv a b c [] qual none .none (some d)) Q E s:=by
 simp only[newFunctionEnv,Option.isSome_some,if_true];refine wB (wpAny_alloc ?_);refine wB (wpAny_layCells _ (λname kind e=>by cases h:kind==NameKind.cell<;>simp[h]) _ _ _ _ ?_);rw[show({s with heap:=s.heap.push {cls:=.type "dict",data:=.dict #[]}}:Ņ).heap.objs.size=↑1+1 from Ĝ ..];exact wB (wP (wP hQ))
theorem XD{C:Cx->Prop}{tg:Expr}{wi:TI}{g:TG}{tc:Addr->Ņ->Hp->List Addr->TT}{te:Addr->Ņ->Hp->List Addr->TE}(T:K0)(idx:Db)
  (hi:zEF C X tg iter wi) (hCx: ∀c s₂ B fp pins σ,Inv X pins σ B s₂->C (zM X sc T idx c s₂ B fp)) (hB:AH X.env.scope X.N sc idx=true)
  (hg: ∀C s₂ H1 fp,PG ↑15 tg g)
  (hc: ∀C s₂ H1 fp,Je ↑15 ifs (tc C s₂ H1 fp))
  (he: ∀C s₂ H1 fp,PE ↑15 elt (te C s₂ H1 fp))
  (hs: ∀x,foldedSetIterable iter X.env x=pure x:=by intro _;rfl)
  {pins:M0} {s:Ņ} {σ:St} {H:Hp} {Q:VK} {use:Option (ņ->Sem Unit)} {Q':VP} (I:↑2) (h:Nn wi g tc te T.length idx σ H Q)
  (fin: ∀(D C:Addr)(O:Ņ)(H':Hp)(r:_),(∀h',Heap.SameBut C O.heap h'->Inv X pins σ H' {O with heap:=h'})->FA X pins H' C->(∃m,O.heap.Ns C m)->Q (.ref D) H'->
   compPost ↑6 X.A X.xe use Q' (.ref D) C (.ok r) O):
  wpAny ↑6 X.A (comprehension ↑14 sc X.env (firstIterPos [⟨tg,iter,ifs,0⟩] pos) (newList []) false (eval iter X.env) use) Q' X.xe s:=by
 have cf:=Uv hB;refine wpAny_comprehension_free rfl hs (PQ (XC I cf)) cf.kind cf.locs ?_;refine hZ (hi pins s σ H _ I h) λv s1 h1=>hZ h1 λba a h2=>?_;obtain⟨it,fp,tn,J,B,e,P,K,aj,f2,W,⟨m0,w0⟩,av⟩:=h2;subst e;have ah: ∀b∈fp,b<a.heap.objs.size:=λb j=>let ⟨o,e,_⟩:=K.obj _ _ aj b j;á e;refine Č (PR ?_);dsimp only;generalize ae:a.heap.push {cls:=.type "list",dict:=none,data:=.seq ([]:A0).toArray}=HH;generalize Z:pushCells (HH.push {cls:=.type "dict",data:=.dict #[]}) sc.names=h₁;have U:h₁.Ns HH.objs.size (λ_=>none):=Z▸(Heap.Ns.new HH (.type "dict")).keeps (pushCells_keeps _ _);have hC:HH.objs.size=a.heap.objs.size+1:=by rw[<-ae,Ĝ]
 have S:a.heap.objs.size≠HH.objs.size:=by rw[hC];exact â (ė _)
 have E:a.heap.objs.size<=HH.objs.size:=by rw[hC];exact le_succ _
 have ao: ∀b o,HH.get? b=some o->h₁.get? b=some o:=λb o e=>Z▸pushCells_keeps _ _ b o (hP0 _ e);have ai: ∀b o,a.heap.get? b=some o->h₁.get? b=some o:=λb o e=>ao b o (ae▸hP0 _ e);have a6:h₁.get? a.heap.objs.size=some {cls:=.type "list",data:=.seq ([]:A0).toArray 0}:=ao _ _ (ae▸ä _ rfl);have a3: ∀x c,(x,c)∈cellsFrom (HH.objs.size+1) sc.names []->h₁.IsCell c none:=λx c hm=>by have ok:=cellsFrom_ok sc.names (HH.push {cls:=.type "dict",data:=.dict #[]}) 0 [] ⟨λ_ _ hm=>(nomatch hm),List.Pairwise.nil⟩ (zero_le _);rw[Ĝ,Z]at ok;exact(ok.empty x c hm).1
 have a5:B a.heap.objs.size=none:=P.hok.fresh (à _)
 have cD: ∀x c,(Lz X.env sc HH.objs.size).lookup x=some c->c≠a.heap.objs.size:=λx c e=>by
  rcases pW e with z|z
  .exact Ė (EA z E)
  .obtain⟨v,q⟩:=P.cell x c (bK P cf z);exact â q.lt
 have Y: ∀O:Ņ,O={a with heap:=h₁}->
   codeAny ↑6 X.A (.compLoop ↑14 0 (.ref it) (.ref a.heap.objs.size) (compEnvC sc (Lz X.env sc HH.objs.size) HH.objs.size X.env))
    (compPost ↑6 X.A X.xe use Q' (.ref a.heap.objs.size) HH.objs.size) O:=by
  rintro O rfl
  have J0:Inv (zM X sc T idx HH.objs.size a B fp) [] (T.map (λ_=>none)++HQ σ idx) B {a with heap:=h₁}:=
   Bf P cf E f2 ah ai rfl rfl U a3
  refine TQ (λk s'=> ∃(i:Nat)(ys:List V)(its:A0)(n:Nat)(H':Hp)(τ:St),Inv (zM X sc T idx HH.objs.size a B fp) [] (τ++HQ σ idx) H' s'/\τ.length=T.length/\tn i s'.heap/\(∀b∈fp,H' b=none)/\
   s'.heap.get? a.heap.objs.size=some {cls:=.type "list",data:=.seq ↑36 n}/\H' a.heap.objs.size=none/\Vals ys its/\W i k ys H') ?_ m0
   ⟨0,[],[],0,B,_,J0,by rw[lM],K.keep _ _ _ aj λb _ o e=>ai b o e,λb j=>(f2 b j).1,a6,a5,.nil,w0⟩
  rintro k s3 ⟨i,ys,its,n,H3,τ,I3,a7,ax,au,a9,ab,r3,w3⟩;obtain⟨hz,ay⟩:=av i k ys H3 w3;have aq:a.heap.objs.size∉(zM X sc T idx HH.objs.size a B fp).fs:=λz=>by obtain⟨_,o,ho,_⟩:=P.stack.mem (show a.heap.objs.size∈Ik X.stack from z);exact absurd (á ho) (ĕ _)
  have ar: ∀{H':Hp}{s':Ņ},s'.heap.get? a.heap.objs.size=some {cls:=.type "list",data:=.seq ↑36 n}->H' a.heap.objs.size=none->
    ∀p∈[(a.heap.objs.size,({cls:=.type "list",data:=.seq ↑36 n}:Obj))],s'.heap.get? p.1=some p.2/\H' p.1=none/\p.1≠(zM X sc T idx HH.objs.size a B fp).env.locals/\p.1∉(zM X sc T idx HH.objs.size a B fp).fs/\ ∀v,p.2.data≠.cell v:=
   λ{H' s'} e1 e2 p G=>by
    have ep:p=(a.heap.objs.size,{cls:=.type "list",data:=.seq ↑36 n}):=by simpa using G
    subst ep;exact⟨e1,e2,S,aq,λv z=>by cases z⟩
  have P3:Inv (zM X sc T idx HH.objs.size a B fp) [_] (τ++HQ σ idx) H3 s3:=I3.pins_of (ar a9 ab)
  have L: ∀{H':Hp},(∀b∈fp,H' b=none)-> ∀b∈fp,FA (zM X sc T idx HH.objs.size a B fp) [_] H' b:=λ{H'} hn b j=>by
   have ag:=ah b j;refine⟨hn b j,â (é ag E),I3.ok.exfs b j,.inl j,λx c e=>?_,λp G=>?_⟩
   .rcases pW e with z|z
    .exact Ė (lt_trans ag (EA z E))
    .exact(f2 b j).2.2.2.2.1 x c (bK P cf z)
   have ep:p=(a.heap.objs.size,({cls:=.type "list",data:=.seq ↑36 n}:Obj)):=by simpa [zM]using G
   subst ep;exact Ė ag
  rcases ay with⟨stop,q⟩|⟨go,hl2,step⟩
  .refine hZ (K.done (zM X sc T idx HH.objs.size a B fp) rfl rfl rfl (hCx _ _ _ _ _ _ P) i _ s3 _ H3 (λ_ _=>False) P3 (L au) ax stop) λr O ⟨hr,I4⟩=>?_;subst hr;obtain⟨m,hn,_⟩:=id I4.loc;have a8:=(I4.pin (a.heap.objs.size,{cls:=.type "list",data:=.seq its.toArray n}) (by simp)).1;exact fin _ _ O _ _ (λh' a4=>Bg P E f2 (I4.pins_of (λp G=>nomatch G)) a4 (à _) S a8 ab r3 hz) (P.fpOk E (by rw[zL (Ne.symm S)];exact I4.free)) ⟨m,hn⟩ (q _ ab)
  .refine hZ (K.item (zM X sc T idx HH.objs.size a B fp) rfl rfl rfl (hCx _ _ _ _ _ _ P) i _ s3 _ H3 (λ_ _=>False) P3 (L au) ax go) λr O ⟨u,hr,h4⟩=>?_;subst hr;refine hZ h4 λ_ s5 ⟨x,H5,I5,r5,y5,M,az⟩=>?_;have a0:=I5.pinned (L az) (K.obj _ _ M);refine hZ (hg HH.objs.size a B fp _ s5 _ H5 x u _ a0 r5 (step x H5 y5 τ a7)) λ_ s6 ⟨a',H6,I6,⟨af,e6,l6⟩,q6⟩=>?_;subst e6;refine hZ (hc HH.objs.size a B fp _ s6 _ H6 _ I6 (q6 HH.objs.size a fp)) λok s7 ⟨H7,I7,q7⟩=>?_
   have mD:(a.heap.objs.size,({cls:=.type "list",data:=.seq ↑36 n}:Obj))∈(zM X sc T idx HH.objs.size a B fp).pn++([(a.heap.objs.size,{cls:=.type "list",data:=.seq ↑36 n})]++LO fp s5.heap):=
    õ _ (Ď _ (by simp))
   have mF: ∀b∈fp, ∀o,s5.heap.get? b=some o->(b,o)∈(zM X sc T idx HH.objs.size a B fp).pn++([(a.heap.objs.size,{cls:=.type "list",data:=.seq ↑36 n})]++LO fp s5.heap):=λb j o e=>
    õ _ (õ _ (DY j e))
   cases ok with
   |false=>
    rw[iN xF0]at q7 ⊢;obtain⟨m',aa,w7⟩:=q7;refine⟨m',aa,i+1,ys,its,n,H7,af,I7.pins_of (λp G=>nomatch G),l6,K.keep _ _ _ M λb j o e=>(I7.pin _ (mF b j o e)).1,λb j=>?_,(I7.pin _ mD).1,(I7.pin _ mD).2.1,r3,w7⟩;obtain⟨o,e,d⟩:=K.obj _ _ M b j;exact(I7.pin _ (mF b j o e)).2.1
   |true=>
    rw[iP rfl]at q7 ⊢;refine hZ (he HH.objs.size a B fp _ s7 _ H7 _ I7 q7) λy s8 ⟨yv,H8,I8,r8,m',aa,w8⟩=>?_;have ak:=(I8.pin _ mD).1;have aw:=(I8.pin _ mD).2.1;have hl:=r3.length;have q:=PySem.IsL.update ak (λz=>z.push y);rw[show its.toArray.push y=(its++[y]).toArray by simp]at q;refine call_meets PySem.F.slot_list_append ⟨_,ak,rfl⟩ PySem.F.entry_list_append (PySem.F.args_list_append_2 _ _) (PySem.list_append a.heap.objs.size its.toArray n y (by rw[sA];lia)) ⟨ak,?_⟩;have I9:Inv (zM X sc T idx HH.objs.size a B fp) [] (af++HQ σ idx) H8 s8:=I8.pins_of (λp G=>nomatch G);have up: ∀b o,b≠a.heap.objs.size->s8.heap.get? b=some o->(s8.heap.update a.heap.objs.size (Obj.mapSeq λz=>z.push y)).get? b=some o:=λb o j e=>(ğ s8.heap _ (Ne.symm j)).trans e;refine⟨m',aa,i+1,_,_,_,H8,af,I9.turned up aw S (.inr (à _)) cD (λp G=>nomatch G),l6,?_,λb j=>?_,q,aw,r3.append (.cons r8 .nil),w8⟩
    .exact K.keep _ _ _ M λb j o e=>up b o (â (ah b j)) (I8.pin _ (mF b j o e)).1
    .obtain⟨o,e,d⟩:=K.obj _ _ M b j;exact(I8.pin _ (mF b j o e)).2.1
 exact codeAny_compStart_list (Y _ rfl) (K.self X.A 0 _ _ _ (K.keep _ _ _ aj λb _ o e=>ai b o e) (Y _ rfl))
def Ux{C:Cx->Prop}{tg:Expr}{b:TI}{g:TG}{e:Addr->Ņ->Hp->List Addr->TT}{te:Addr->Ņ->Hp->List Addr->TE}(T:K0)(idx:Db)
  (hi:zEF C X tg iter b) (hCx: ∀c s₂ d fp pins σ,Inv X pins σ d s₂->C (zM X sc T idx c s₂ d fp)) (hB:AH X.env.scope X.N sc idx=true)
  (hg: ∀C s₂ H1 fp,PG ↑15 tg g)
  (hc: ∀C s₂ H1 fp,Je ↑15 ifs (e C s₂ H1 fp))
  (he: ∀C s₂ H1 fp,PE ↑15 elt (te C s₂ H1 fp))
  (hs: ∀x,foldedSetIterable iter X.env x=pure x:=by intro _;rfl):
  PE X ↑14 (Nn b g e te T.length idx):=by
 rw[20];exact XD T idx hi hCx hB hg hc he hs I h λD C j H' r J _ ⟨m,i⟩ q=>⟨m,i,λh' a=>⟨.ref D,H',J h' a,rfl,q⟩⟩
end
noncomputable def mK(x:Db):Str:=⟨x.toArray⟩
def oR(x:Db):(mK x).length=x.length:=by simp[mK,Str.length]
def Uy(x:Db):(mK x).cps.toList=x:=by simp[mK]
def FC{x y:Db}(h:mK x=mK y):x=y:=by have:=congrArg (λs=>s.cps.toList) h;simpa [mK]using this
def TR(x y:Db):mK x++mK y=mK (x++y):=by show Str.append _ _=_;simp[Str.append,mK]
theorem Uz(c:Nat):(⟨#[c]⟩:Str)=mK [c]:=rfl
def cQ{α:Type}(xs:List α)(lo hi:O0):List α:=(xs.drop (HT.sIx ↑33 0 lo)).take (HT.sIx ↑33 ↑33 hi - HT.sIx ↑33 0 lo)
theorem strIdx(lo hi:O0)(n:Nat):Builtin.Str.strSliceIndices lo hi 1 n=(List.range (HT.sIx n n hi - HT.sIx n 0 lo)).map (HT.sIx n 0 lo+·):=by
 have e1:(match lo with |none=>(if(1:Int)>0 then(0:Int)else(n:Int) - 1)|some i=>if(1:Int)>0 then max 0 (min (if i<0 then i+(n:Int)else i) (n:Int))else max (-1) (min (if i<0 then i+(n:Int)else i) ((n:Int) - 1)))=((HT.sIx n 0 lo:Nat):Int):=by
  cases lo with
  |none=>simp[HT.sIx]
  |some i=>
   simp only[HT.sIx,show(1:Int)>0 by decide,if_true];by_cases h:i<0
   .simp only[h,if_true];lia
   .simp only[h,iF];lia
 have e2:(match hi with |none=>(if(1:Int)>0 then(n:Int)else -1)|some i=>if(1:Int)>0 then max 0 (min (if i<0 then i+(n:Int)else i) (n:Int))else max (-1) (min (if i<0 then i+(n:Int)else i) ((n:Int) - 1)))=((HT.sIx n n hi:Nat):Int):=by
  cases hi with
  |none=>simp[HT.sIx]
  |some i=>
   simp only[HT.sIx,show(1:Int)>0 by decide,if_true];by_cases h:i<0
   .simp only[h,if_true];lia
   .simp only[h,iF];lia
 rw[<-sliceRange_one];unfold Builtin.Str.strSliceIndices;rw[<-e1, <-e2];cases lo<;>cases hi<;>rfl
theorem Jg(x:Db)(lo hi:O0):Txt.slice (mK x) lo hi=mK (cQ x lo hi):=by
 unfold Txt.slice;rw[strIdx,oR];have b:=by have:=pick_run (mK x).cps (HT.sIx x.length 0 lo) (HT.sIx x.length x.length hi - HT.sIx x.length 0 lo);exact this
 rw[b];split
 .rename_i a;rw[aE]at a;have c:=by simpa using a.2
  have d:HT.sIx x.length x.length hi<=x.length:=HT.sIx_le _ _ (à _) _;have h:HT.sIx x.length 0 lo<=x.length:=HT.sIx_le _ _ (zero_le _) _;have e:HT.sIx x.length 0 lo=0:=by lia
  unfold cQ;rw[c,e];simp
 .rfl
section
variable{X:Cx}
def rSlS:V->Option Int->Option Int->Hp->VK->Prop:=λx lo hi H Q=> ∃cs,x=.str (mK cs)/\cs.length<=sizeLine/\Q (.str (mK (cQ cs lo hi))) H
def S9:SlR X rSlS:=by
 intro pins s σ H x v r w lo hi sl Q I n hs m e h;obtain⟨cs,rfl,p,q⟩:=h;obtain⟨t,rfl⟩:=n;have c:(Txt.slice (mK cs) lo hi).length<=sizeLine:=ì (Txt.slice_le _ _ _) (by rw[oR];exact p);rw[<-Jg]at q;refine⟨"str",_,slot_str_getitem.lookup,typeIs_str _ _ _,?_⟩;obtain⟨o,d,a,b⟩:=hs
 cases m with
 |none=>
  cases e with
  |none=>exact Ļ (l:=none) (u:=none) (st:=none) ⟨o,d,a,b⟩ rfl (post_val_or_str ⟨c,λt' k=>⟨.str _,H,I.tok _,⟨_,rfl⟩,q⟩⟩)
  |int j uj=>exact Ļ (l:=none) (u:=some (j,uj)) (st:=none) ⟨o,d,a,b⟩ rfl (post_val_or_str ⟨c,λt' k=>⟨.str _,H,I.tok _,⟨_,rfl⟩,q⟩⟩)
 |int i ui=>
  cases e with
  |none=>exact Ļ (l:=some (i,ui)) (u:=none) (st:=none) ⟨o,d,a,b⟩ rfl (post_val_or_str ⟨c,λt' k=>⟨.str _,H,I.tok _,⟨_,rfl⟩,q⟩⟩)
  |int j uj=>exact Ļ (l:=some (i,ui)) (u:=some (j,uj)) (st:=none) ⟨o,d,a,b⟩ rfl (post_val_or_str ⟨c,λt' k=>⟨.str _,H,I.tok _,⟨_,rfl⟩,q⟩⟩)
def TU:CallR X (.builtin "all") (λxs H Q=> ∃(a:Addr)(bs:N0),xs=[.ref a]/\SqL X.K H a (bs.map V.bl)/\X.calm=true/\Q (.bl (bs.all id)) H):=by
 rw[21];obtain⟨a,bs,rfl,B,z,q⟩:=h;obtain⟨u,rfl,F⟩:=vals1 r;cases F;obtain⟨its,y,w,N⟩:=I.list B;have c:its.length=bs.length:=by rw[<-y.length,lM]
 refine PySem.call_all_walk (wpAny_pyIter_list w.isList ?_);have C:a≠s.heap.objs.size:=by obtain⟨o,G,_⟩:=w.isList;exact â (á G)
 have I1: ∀(h':Heap)(tk:Nat),(∀b o,b∉[↑1]->(s.heap.push {cls:=.type "list_iterator",data:=.fields #[.ref a,.int 0 0]}).get? b=some o->h'.get? b=some o)->Inv X pins σ H {s with heap:=h',toks:=tk}:=λh' tk k=>
  I.kept λb o e=>k b o (by simpa using â (á e)) (hP0 _ e)
 refine⟨_,_,_,_,_,_,λi=>bs.getD i false,rfl,PySem.Walks.list (by first |exact I.ok.hd z|exact(I.ok.hd z)) _ a C ↑36,⟨⟨_,ä _ rfl,rfl,rfl⟩,w.isList.at λo e=>hP0 _ e⟩,?_,λh' tk k=>?_⟩
 .intro i v s' M J D n;have m:=by simpa using D
  have hi:i<bs.length:=by rw[<-c];exact(gS.mp m).1
  have A:(bs.map V.bl)[i]? =some (V.bl (bs.getD i false)):=by simp[ā,hi]
  obtain⟨L,d,p⟩:=y.get A;rw[m]at d;cases d;cases p;exact ć n
 .refine⟨_,H,I1 h' tk k,?_,q⟩;congr 1;rw[sA,c]
  have: ∀(l:N0),(List.range l.length).all (λi=>l.getD i false)=l.all id:=by
   intro l;rw[Ā,ø,ø];constructor
   .intro h x E;obtain⟨i,hi,rfl⟩:=ń E;have:=h i (ò.mpr hi);simpa [ā,hi]using this
   .intro h i hi;have j:=ò.mp hi;have:=h l[i] (Ĩ j);simpa [ā,j]using this
  exact this bs
end
section
variable{X:Cx}
def PU(X:Cx)(e:Expr)(t:TE):Prop:= ∀(i:Nat)(x:Str)(pos' pos:Pos),X.N.Nodup->X.N[i]? =some x->Loc X.env.scope x->(X.fn x=true\/X.env.scope.names.lookup x=some .local)->
 swapsWith e (some (.Name x pos')) pos.line X.env=pure true->PS X (.Assign [.Name x pos'] e pos) (O4 t (Mp i))
def Va{C:Cx->Prop}{tg:Expr}{y:TI}{g:TG}{A:Addr->Ņ->Hp->List Addr->TT}{te:Addr->Ņ->Hp->List Addr->TE}(T:K0)(idx:Db)
  (hi:zEF C X tg iter y) (hCx: ∀c s₂ z fp pins σ,Inv X pins σ z s₂->C (zM X sc T idx c s₂ z fp)) (hB:AH X.env.scope X.N sc idx=true)
  (hg: ∀C s₂ H1 fp,PG ↑15 tg g)
  (hc: ∀C s₂ H1 fp,Je ↑15 ifs (A C s₂ H1 fp))
  (he: ∀C s₂ H1 fp,PE ↑15 elt (te C s₂ H1 fp))
  (hs: ∀x,foldedSetIterable iter X.env x=pure x:=by intro _;rfl):
  PU X ↑14 (Nn y g A te T.length idx):=by
 intro i x pos' w B n M J v pins s σ H D I h;rw[exec_Assign_Name_used _ _ _ _ v];refine wB (wpAny_standAt (wB ?_));refine wB (hZ (XD T idx hi hCx hB hg hc he hs I h λP C O H' _ K d p q=>?_) λ_ s' F=>wP (wP F));have L:=K O.heap (Heap.SameBut.refl _ _);refine wpAny_assign_Name (QV L B n M (show RelV (.ref P) _ from rfl) (λs' G ⟨a,u,j⟩=>?_) J);obtain⟨m,p⟩:=p
 have r:C≠a:=by
  rintro rfl;rcases j with j|j
  .exact d.2.1 j
  .exact d.2.2.2.2.1 x _ j rfl
 refine⟨m,p.sameBut u r,λh' k=>⟨_,H',?_,q⟩⟩;exact G.turned (λb o E e=>(k.2 b E).trans e) d.1 d.2.1 d.2.2.2.1 d.2.2.2.2.1 d.2.2.2.2.2
end
end L2
namespace L2
namespace M
open PySem PySem.Spec PyProof.Rows
variable{v:ņ}
def Nt{A:Ň}{s:Ņ}{y x:V}{u:ņ}(d:RelV y u)(c:RelV x v)(h:tE y=true)(e:tE x=true):SeqAt.RcAt A s u v (eqV y x)/\SeqAt.RcNeAt A s u v (!eqV y x):=by
 cases y with
 |non=>
  cases d
  cases x with
  |non=>cases c;exact⟨.none_none,.none_none⟩
  |bl b=>cases c;exact⟨.none_bool b,.none_bool b⟩
  |int b=>obtain⟨t,rfl⟩:=c;exact⟨.none_int b t,.none_int b t⟩
  |str b=>obtain⟨t,rfl⟩:=c;exact⟨.none_str b t,.none_str b t⟩
  |_=>cases e
 |bl a=>
  cases d
  cases x with
  |non=>cases c;exact⟨.bool_none a,.bool_none a⟩
  |bl b=>cases c;exact⟨.bool_bool a b,.bool_bool a b⟩
  |int b=>obtain⟨t,rfl⟩:=c;exact⟨.bool_int a b t,.bool_int a b t⟩
  |str b=>obtain⟨t,rfl⟩:=c;exact⟨.bool_str a b t,.bool_str a b t⟩
  |_=>cases e
 |int a=>
  obtain⟨t',rfl⟩:=d
  cases x with
  |non=>cases c;exact⟨.int_none a t',.int_none a t'⟩
  |bl b=>cases c;exact⟨.int_bool a t' b,.int_bool a t' b⟩
  |int b=>obtain⟨t,rfl⟩:=c;exact⟨.int_int a t' b t,.int_int a t' b t⟩
  |str b=>obtain⟨t,rfl⟩:=c;exact⟨.int_str a t' b t,.int_str a t' b t⟩
  |_=>cases e
 |str a=>
  obtain⟨t',rfl⟩:=d
  cases x with
  |non=>cases c;exact⟨.str_none a t',.str_none a t'⟩
  |bl b=>cases c;exact⟨.str_bool a t' b,.str_bool a t' b⟩
  |int b=>obtain⟨t,rfl⟩:=c;exact⟨.str_int a t' b t,.str_int a t' b t⟩
  |str b=>obtain⟨t,rfl⟩:=c;exact⟨.str_str a t' b t,.str_str a t' b t⟩
  |_=>cases e
 |_=>cases h
abbrev Six(A:Around)(s:Shared)(u v:Value):Prop:=SeqAt.EqAt A s u v false/\SeqAt.EqAt A s v u false/\SeqAt.RcAt A s u v false/\SeqAt.RcAt A s v u false/\SeqAt.RcNeAt A s u v true/\SeqAt.RcNeAt A s v u true
def RE{A:Ň}{s:Ņ}{x:V}{l:Addr}{d:B0}(e:RelV x v)(h:tE x=true)(a:s.heap.IsList l d)(c:A.units<cLine):Six A s (.ref l) v:=by
 cases x with
 |non=>cases e;exact⟨.list_none a c,.none_list a c,.list_none a c,.none_list a c,.list_none a c,.none_list a c⟩
 |bl b=>cases e;exact⟨.list_bool b a c,.bool_list b a c,.list_bool b a c,.bool_list b a c,.list_bool b a c,.bool_list b a c⟩
 |int b=>obtain⟨t,rfl⟩:=e;exact⟨.list_int b t a c,.int_list b t a c,.list_int b t a c,.int_list b t a c,.list_int b t a c,.int_list b t a c⟩
 |str b=>obtain⟨t,rfl⟩:=e;exact⟨.list_str b t a c,.str_list b t a c,.list_str b t a c,.str_list b t a c,.list_str b t a c,.str_list b t a c⟩
 |_=>cases h
def JL{A:Ň}{s:Ņ}{x:V}{l:Addr}{d:B0}(e:RelV x v)(h:tE x=true)(a:s.heap.IsTuple l d)(c:A.units<cLine):Six A s (.ref l) v:=by
 cases x with
 |non=>cases e;exact⟨.tuple_none a c,.none_tuple a c,.tuple_none a c,.none_tuple a c,.tuple_none a c,.none_tuple a c⟩
 |bl b=>cases e;exact⟨.tuple_bool b a c,.bool_tuple b a c,.tuple_bool b a c,.bool_tuple b a c,.tuple_bool b a c,.bool_tuple b a c⟩
 |int b=>obtain⟨t,rfl⟩:=e;exact⟨.tuple_int b t a c,.int_tuple b t a c,.tuple_int b t a c,.int_tuple b t a c,.tuple_int b t a c,.int_tuple b t a c⟩
 |str b=>obtain⟨t,rfl⟩:=e;exact⟨.tuple_str b t a c,.str_tuple b t a c,.tuple_str b t a c,.str_tuple b t a c,.tuple_str b t a c,.str_tuple b t a c⟩
 |_=>cases h
def Nu{y:V}(h:tE y=true):eqV y y=true:=by cases y<;>first |rfl|(simp[eqV];done)|exact absurd h xF0
abbrev K3:=Option Key
inductive NK where
 |key (k:K3)|tup (ks:List NK)
instance:DecidableEq NK:=λ_ _=>Classical.propDecidable _
section
variable{prog:ň}{w:World}(knd:KeyKind prog w K3)
mutual
def PV(h:Heap):NK->ņ->Prop
 |.key k,v=>knd.is k v=true
 |.tup ks,v=> ∃a o b n,v=.ref a/\h.get? a=some o/\o.cls=.type "tuple"/\o.data=.seq b n/\AI h ks b.toList
def AI(h:Heap):List NK->List ņ->Prop
 |[],vs=>vs=[]
 |k::ks,vs=> ∃v r,vs=v::r/\PV h k v/\AI h ks r
end
mutual
def FD:NK->Int
 |.key k=>knd.hash k
 |.tup ks=>reduceHash (Builtin.Tuple.tupleHashOf (LT ks))
def LT:List NK->List Int
 |[]=>[]
 |k::ks=>FD k::LT ks
end
mutual
def LU:NK->Nat
 |.key _=>1
 |.tup ks=>fE ks+1
def fE:List NK->Nat
 |[]=>0
 |k::ks=>LU k+fE ks
end
mutual
def AK:NK->Nat
 |.key _=>0
 |.tup ks=>DE ks+1
def DE:List NK->Nat
 |[]=>0
 |k::ks=>max (AK k) (DE ks)
end
variable{knd}
theorem kQ{h:Heap}{k:K3}:PV knd h (.key k) v↔knd.is k v=true:=by unfold PV;exact Iff.rfl
def wN{h:Heap}{c:List NK}:PV knd h (.tup c) v↔ ∃a o b n,v=.ref a/\h.get? a=some o/\o.cls=.type "tuple"/\o.data=.seq b n/\AI knd h c b.toList:=by
 conv=>lhs;unfold PV
theorem jH{h:Heap}{vs:A0}:AI knd h [] vs↔vs=[]:=by unfold AI;exact Iff.rfl
def yU{h:Heap}{k:NK}{a:List NK}{vs:A0}:AI knd h (k::a) vs↔ ∃v r,vs=v::r/\PV knd h k v/\AI knd h a r:=by
 conv=>lhs;unfold AI
mutual
theorem TV{h:Heap}: ∀{x y:NK}{v:ņ},PV knd h x v->PV knd h y v->x=y
 |.key k,.key k',v,hx,hy=>by rw[knd.inj v k k' (kQ.mp hx) (kQ.mp hy)]
 |.key k,.tup ks,v,hx,hy=>by obtain⟨a,o,b,n,rfl,_⟩:=wN.mp hy;have:=knd.byValue _ _ (kQ.mp hx);simp[carriedByValue]at this
 |.tup ks,.key k,v,hx,hy=>by obtain⟨a,o,b,n,rfl,_⟩:=wN.mp hx;have:=knd.byValue _ _ (kQ.mp hy);simp[carriedByValue]at this
 |.tup ks,.tup ks',v,hx,hy=>by
  obtain⟨a,o,b,n,e,q,_,p,hi⟩:=wN.mp hx;obtain⟨s,o',d,r,m,i,_,c,j⟩:=wN.mp hy;rw[e]at m;cases m;obtain rfl:o=o':=ã (q.symm.trans i);rw[p]at c;injection c with h1 _
  subst h1;rw[XE hi j]
theorem XE{h:Heap}: ∀{xs ys:List NK}{vs:A0},AI knd h xs vs->AI knd h ys vs->xs=ys
 |[],[],_,_,_=>rfl
 |[],y::ys,vs,hx,hy=>by obtain⟨v,r,e,_⟩:=yU.mp hy;rw[jH.mp hx]at e;cases e
 |x::xs,[],vs,hx,hy=>by obtain⟨v,r,e,_⟩:=yU.mp hx;rw[jH.mp hy]at e;cases e
 |x::xs,y::ys,vs,hx,hy=>by obtain⟨v,r,e,h1,d⟩:=yU.mp hx;obtain⟨i,j,c,a,b⟩:=yU.mp hy;rw[e]at c;cases c;rw[TV h1 a,XE d b]
end
mutual
theorem XF{h h':Heap}(m: ∀a o b n,h.get? a=some o->o.data=.seq b n->h'.get? a=some o): ∀{x:NK}{v:ņ},PV knd h x v->PV knd h' x v
 |.key k,v,hx=>kQ.mpr (kQ.mp hx)
 |.tup ks,v,hx=>by obtain⟨a,o,b,n,e,i,d,c,hi⟩:=wN.mp hx;exact wN.mpr ⟨a,o,b,n,e,m a o b n i c,d,c,RF m hi⟩
theorem RF{h h':Heap}(m: ∀a o b n,h.get? a=some o->o.data=.seq b n->h'.get? a=some o): ∀{xs:List NK}{vs:A0},AI knd h xs vs->AI knd h' xs vs
 |[],vs,hx=>jH.mpr (jH.mp hx)
 |x::xs,vs,hx=>by obtain⟨v,r,e,h1,c⟩:=yU.mp hx;exact yU.mpr ⟨v,r,e,XF m h1,RF m c⟩
end
theorem LV: ∀a:List NK,LT knd a=a.map (FD knd)
 |[]=>by unfold LT;rfl
 |k::a=>by unfold LT;rw[LV a];rfl
def EB:fE []=0:=by rw[fE]
def AM(k:NK)(a:List NK):fE (k::a)=LU k+fE a:=by rw[fE]
def LW(k:NK)(a:List NK):DE (k::a)=max (AK k) (DE a):=by rw[DE]
def tF(a:List NK):AK (.tup a)=DE a+1:=by rw[AK]
theorem DF: ∀(xs ys:List NK),fE (xs++ys)=fE xs+fE ys
 |[],ys=>by rw[EB,List.nil_append,ĩ]
 |x::xs,ys=>by rw[List.cons_append,AM,AM,DF xs ys];lia
def FE{s:Ņ}{d:List NK}{a:Addr}(h:PV knd s.heap (.tup d) (.ref a)):s.TypeIs (.ref a) "tuple":=by obtain⟨i,o,_,n,e,c,b,_⟩:=wN.mp h;cases e;exact⟨o,c,b⟩
theorem XG: ∀(n:Nat){A:Ň}{E:VP}{s:Ņ}{k:NK}{v:ņ}{Q:Int->Ņ->Prop},AK k<=n->A.units+n<cLine->PV knd s.heap k v->Q (FD knd k) {s with toks:=s.toks+LU k}->wpAny ↑9 A (pyHash v) Q E s
 |n,A,E,s,.key k,v,Q,_,_,i,h=>knd.pyHash (kQ.mp i) (by rw[FD,LU]at h;exact h)
 |0,A,E,s,.tup d,v,Q,u,_,_,_=>by rw[tF]at u;lia
 |n+1,A,E,s,.tup d,v,Q,hdep,hu,i,h=>by
  obtain⟨a,o,_,m,rfl,C,D,u,hi⟩:=wN.mp i;have p:s.TypeIs (.ref a) "tuple":=⟨o,C,D⟩
  rw[tF]at hdep
  have B: ∀k∈d,AK k<=n:=by
   have: ∀d:List NK,DE d<=n-> ∀k∈d,AK k<=n:=by
    intro d
    induction d with
    |nil=>intro _ k i;simp at i
    |cons x xs ih=>
     intro G k i;rw[LW]at G;rcases mC.mp i with rfl|i
     .lia
     .exact ih #[0] k i
   exact this d #[0]
  rw[FD,LU,LV]at h;unfold pyHash
  first |unfold pyHashByItsType|skip
  first |refine wB (wpAny_cRoomFor_or (.inr #[0]) ?_)|skip
  refine wB (Ľ p F.slot_tuple_hash.lookup ?_);show wpAny _ _ _ Q E s;rw[iN (by rw[beq_builtin_none];exact xF0)];refine wB (Ľ p F.slot_tuple_hash.lookup ?_);show wpAny _ _ _ Q E s;refine wB (wpAny_callSpecialIfBoundUnlessNone?_slot p F.slot_tuple_hash (ö F.slot_tuple_hash p F.entry_tuple_hash ?_ (F.args_tuple_hash_1 _)));show wpAny _ _ (Builtin.Tuple.tupleItemsOf (.ref a) >>= _) _ _ s;refine wB (wpAny_tupleItemsOf C u ?_);refine wB ?_;rw[<-Array.forIn_toList]
  refine wpAny_forIn_list _
   (λrest (b:Array Int) s'=> ∃c left,d=c++left/\AI knd s.heap left rest/\b.toList=c.map (FD knd)/\s'={s with toks:=s.toks+fE c})
   _ ?_ ?_ _ _ ⟨[],d,rfl,hi,rfl,by rw[EB];rfl⟩
  .rintro x rest b s' ⟨c,left,rfl,j,y,rfl⟩
   cases left with
   |nil=>rw[jH]at j;cases j
   |cons k ks'=>
    obtain⟨v,r,e,h1,z⟩:=yU.mp j;cases e;refine wB (XG n (B k (by simp)) (show A.units+1+n<cLine by lia) h1 ?_);have e1:fE (c++[k])=fE c+LU k:=by rw[DF,AM,EB];rfl
    first
     |exact wP ⟨c++[k],ks',by simp,z,by simp[y],by simp[add_assoc,e1]⟩
     |exact wB _
  .rintro b s' ⟨c,left,rfl,j,y,rfl⟩
   cases left with
   |cons k ks'=>obtain⟨v,r,e,_⟩:=yU.mp j;cases e
   |nil=>
    rw[aN]at h;show wpAny _ _ (retInt _) _ _ _;rw[y];refine wpAny_ret_mkInt ?_;show wpAny _ _ (if _=true then _ else _) Q E _;unfold reduceHash at h;by_cases q:(decide (-(2:Int) ^ 63<=Builtin.Tuple.tupleHashOf (c.map (FD knd)))&&decide (Builtin.Tuple.tupleHashOf (c.map (FD knd))<2 ^ 63))=true
    .rw[iP q];rw[iP q]at h;exact wP (by simpa [add_assoc]using h)
    .rw[iN q];rw[iN q]at h;exact wB (İ (wP (by simpa [add_assoc]using h)))
end
section
variable{prog:ň}{w:World}
def Jh{A:Ň}{E:VP}{s:Ņ}{Q:Int->Ņ->Prop}(h:Q 0xFCA86420 {s with toks:=s.toks+1}):wpAny ↑9 A (pyHash .none) Q E s:=by
 have a:[Value.none].any Value.onHeap=false:=rfl;refine wB ?_;rw[cRoomFor];refine wP ?_;refine wB (Ľ (typeIs_none s) F.slot_NoneType_hash.lookup ?_);show wpAny _ _ _ Q E s;refine wB (Ľ (typeIs_none s) F.slot_NoneType_hash.lookup ?_);show wpAny _ _ _ Q E s
 refine wB (wpAny_callSpecialIfBoundUnlessNone?_slot (typeIs_none s) F.slot_NoneType_hash
  (ö F.slot_NoneType_hash (typeIs_none s) F.entry_NoneType_hash
   (wpAny_ret_mkInt ?_) (F.args_NoneType_hash_1 _)))
 show wpAny _ _ (if _=true then _ else _) Q E _;exact wP h
def zEZ:K3->ņ->Bool
 |some k,v=>tD k v
 |none,v=>v==.none
def tG: ∀{k:K3}{v:ņ},zEZ k v=true->(∃i t,k=some (.inl i)/\v=Value.int i t)\/(∃x t,k=some (.inr x)/\v=Value.str x t)\/(k=none/\v=.none)
 |some k,v,h=>by
  rcases yK h with⟨i,t,rfl,e⟩|⟨x,t,rfl,e⟩
  .exact .inl ⟨i,t,rfl,e⟩
  .exact .inr (.inl ⟨x,t,rfl,e⟩)
 |none,v,h=>.inr (.inr ⟨rfl,eq_of_beq h⟩)
def mk(prog:ň)(w:World):KeyKind prog w K3 where
 is:=zEZ
 hash:=λ|some k=>zDS w k|none=>0xFCA86420
 inj:=λv a b ha hb=>by rcases tG ha with⟨i,t,rfl,rfl⟩|⟨x,t,rfl,rfl⟩|⟨rfl,rfl⟩<;>rcases tG hb with⟨j,u,rfl,e⟩|⟨y,u,rfl,e⟩|⟨rfl,e⟩<;>first |(injection e with e1 _;rw[e1];done)|rfl|exact nomatch e
 byValue:=λk v h=>by rcases tG h with⟨i,t,rfl,rfl⟩|⟨x,t,rfl,rfl⟩|⟨rfl,rfl⟩<;>rfl
 pyHash:=λhv h=>by
  rcases tG hv with⟨i,t,rfl,rfl⟩|⟨x,t,rfl,rfl⟩|⟨rfl,rfl⟩
  .exact wpAny_pyHash_int h
  .exact wpAny_pyHash_str h
  .exact Jh h
 eqBool:=λ{A} {E} {s} {a} {b} {u} {v} {Q} hu hv h=>by
  cases a with
  |some a=>
   cases b with
   |some b=>exact(bI prog w).eqBool hu hv (by rw[show decide (some a=some b)=decide (a=b)from by simp]at h;exact h)
   |none=>
    cases eq_of_beq hv;rw[show decide (some a=none)=false from dF0 λz=>nomatch z]at h;rcases yK (show tD a u=true from hu)with⟨i,t,rfl,rfl⟩|⟨x,t,rfl,rfl⟩
    .exact SeqAt.EqAt.int_none i t _ _ _ _ h
    .exact SeqAt.EqAt.str_none x t _ _ _ _ h
  |none=>
   cases eq_of_beq hu
   cases b with
   |some b=>
    rw[show decide (none=some b)=false from dF0 λz=>nomatch z]at h;rcases yK (show tD b v=true from hv)with⟨i,t,rfl,rfl⟩|⟨x,t,rfl,rfl⟩
    .exact SeqAt.EqAt.none_int i t _ _ _ _ h
    .exact SeqAt.EqAt.none_str x t _ _ _ _ h
   |none=>
    cases eq_of_beq hv;rw[show decide ((none:K3)=none)=true from dT0 rfl]at h;exact SeqAt.EqAt.same _ _ _ _ _ h
 «strs»:=λk x t v h=>by
  rcases tG h with⟨i,u,rfl,e⟩|⟨y,u,rfl,e⟩|⟨rfl,e⟩
  .exact nomatch e
  .injection e with e1 _
   subst e1;cases v<;>rfl
  .exact nomatch e
def Vb(a b:K3):decide (NK.key a=NK.key b)=decide (a=b):=by
 by_cases h:a=b
 .subst h;simp
 .rw[dF0 h,dF0 λz=>h (NK.key.inj z)]
def T1(a:K3)(b:List NK):decide (NK.key a=NK.tup b)=false:=dF0 λz=>nomatch z
def T2(a:K3)(b:List NK):decide (NK.tup b=NK.key a)=false:=dF0 λz=>nomatch z
def T4(a b:List NK):decide (NK.tup a=NK.tup b)=decide (a=b):=by
 by_cases h:a=b
 .subst h;simp
 .rw[dF0 h,dF0 λz=>h (NK.tup.inj z)]
def XH{k:K3}(h:(mk prog w).is k v=true): ∃x:V,RelV x v/\tE x=true:=by
 rcases tG h with⟨i,t,rfl,rfl⟩|⟨x,t,rfl,rfl⟩|⟨rfl,rfl⟩
 .exact⟨.int i,⟨t,rfl⟩,rfl⟩
 .exact⟨.str x,⟨t,rfl⟩,rfl⟩
 .exact⟨.non,rfl,rfl⟩
def Ji{A:Ň}{E:VP}{s:Ņ}{x y:List NK}{a b:Addr}{P:Fin->Ņ->Prop}
  (he: ∀F∈x, ∀C u v (Q:Bool->Ņ->Prop),PV (mk prog w) s.heap F u->PV (mk prog w) s.heap C v->Q (decide (F=C)) s->wpAny ↑9 A (eqBool u v) Q E s)
  (hx:PV (mk prog w) s.heap (.tup x) (.ref a)) (hy:PV (mk prog w) s.heap (.tup y) (.ref b)) (h:P (.done (.ret (.bool (decide (x=y))))) s):
  wpAny ↑9 A (Builtin.«tuple.__eq__» ⟨[.ref a,.ref b],[]⟩) P E s:=by
 have X:=FE hy;obtain⟨_,oa,xs,na,e,N,_,S,K⟩:=wN.mp hx;cases e;obtain⟨_,ob,ys,nb,e,M,_,W,U⟩:=wN.mp hy;cases e;show wpAny _ _ (isInstance _ _ >>= _) _ _ s;refine wB (ĵ X isSubtype_tuple_tuple ?_);simp only[Bool.not_true,fT0,iF];refine wB (wpAny_tupleItemsOf N S ?_);refine wB (wpAny_tupleItemsOf M W ?_);refine wB ?_
 refine wpAny_forIn_list _
  (λrest r s'=>r.1=none/\s'=s/\ ∃G H p o,rest=List.zip p o/\(∀k∈G,k∈x)/\AI _ s.heap G p/\AI _ s.heap H o/\decide (G=H)=decide _/\(p.length==o.length)=(xs.size==ys.size))
  _ ?_ ?_ _ _ ⟨rfl,rfl,x,y,_,_,rfl,λk D=>D,K,U,rfl,by simp⟩
 .rintro⟨u,v⟩ rest r s' ⟨O,rfl,G,H,p,o,q,T,n,c,d,j⟩
  cases G with
  |nil=>rw[jH.mp n]at q;simp at q
  |cons F x''=>
   cases H with
   |nil=>rw[jH.mp c]at q;simp at q
   |cons C y''=>
    obtain⟨u',z,rfl,h1,B⟩:=yU.mp n;obtain⟨Y,i,rfl,L,m⟩:=yU.mp c;simp only[ě,List.cons.injEq,Prod.mk.injEq]at q;obtain⟨⟨rfl,rfl⟩,rfl⟩:=q;refine wB (he F (T F mF0) C _ _ _ h1 L ?_);by_cases D:F=C
    .subst D;rw[dT0 rfl];simp only[Bool.not_true,fT0,iF];refine wP ⟨rfl,rfl,x'',y'',z,i,rfl,λk D=>T k (mO _ D),B,m,?_,by simpa using j⟩;rw[<-d];by_cases J:x''=y''
     .simp[J]
     .simp[J]
    .rw[dF0 D];simp only[Ĳ,if_true];have Z:decide (x=y)=false:=by rw[<-d];simp[D]
     rw[Z]at h;exact wB (wP (wP (wP h)))
 .rintro⟨r1,r2⟩ s' ⟨O,rfl,G,H,p,o,q,T,n,c,d,j⟩;simp only at O;subst O;refine wP ?_
  have I:(xs.size==ys.size)=decide (x=y):=by
   rw[<-d, <-j]
   cases G with
   |nil=>
    rw[jH.mp n]
    cases H with
    |nil=>rw[jH.mp c];simp
    |cons C y''=>obtain⟨Y,i,rfl,L,m⟩:=yU.mp c;simp
   |cons F x''=>
    obtain⟨u',z,rfl,h1,B⟩:=yU.mp n
    cases H with
    |nil=>rw[jH.mp c];simp
    |cons C y''=>obtain⟨Y,i,rfl,L,m⟩:=yU.mp c;simp at q
  show P (.done (.ret (.bool _))) s';rw[I];exact h
theorem LX{n:Nat}: ∀{a:List NK},DE a<=n-> ∀k∈a,AK k<=n
 |[],_,k,hk=>by simp at hk
 |x::xs,hx,k,hk=>by
  rw[LW]at hx;rcases mC.mp hk with rfl|hk
  .lia
  .exact LX #[0] k hk
theorem XI: ∀(n:Nat){A:Ň}{E:VP}{s:Ņ}{x y:NK}{u v:ņ}{Q:Bool->Ņ->Prop},AK x<=n->A.units+n<cLine->PV (mk prog w) s.heap x u->PV (mk prog w) s.heap y v->Q (decide (x=y)) s->wpAny ↑9 A (eqBool u v) Q E s
 |n,A,E,s,.key a,.key b,u,v,Q,_,_,hx,hy,h=>(mk prog w).eqBool (kQ.mp hx) (kQ.mp hy) (by rw[Vb]at h;exact h)
 |n,A,E,s,.key a,.tup b,u,v,Q,_,hu,hx,hy,h=>by obtain⟨z,k,q⟩:=XH (kQ.mp hx);obtain⟨l,o,_,m,rfl,p,i,c,_⟩:=wN.mp hy;rw[T1]at h;exact(JL k q ⟨o,p,i,m,c⟩ #[0]).2.1 prog w E Q h
 |n,A,E,s,.tup a,.key b,u,v,Q,_,hu,hx,hy,h=>by obtain⟨z,k,q⟩:=XH (kQ.mp hy);obtain⟨l,o,_,m,rfl,p,i,c,_⟩:=wN.mp hx;rw[T2]at h;exact(JL k q ⟨o,p,i,m,c⟩ #[0]).1 prog w E Q h
 |0,A,E,s,.tup a,.tup b,u,v,Q,c,_,hx,hy,h=>by rw[tF]at c;lia
 |n+1,A,E,s,.tup x,.tup y,u,v,Q,c,hu,hx,hy,h=>by
  obtain⟨a,_,_,_,G,_⟩:=wN.mp hx;obtain⟨b,_,_,_,C,_⟩:=wN.mp hy;subst G C;rw[tF]at c;rw[T4]at h;unfold eqBool
  try with_reducible refine Ą ?_
  show wpAny _ _ _ Q E s;by_cases d:(Value.ref a==Value.ref b)=true
  .rw[iP d];have e:a=b:=by have:=eq_of_beq d;injection this
   subst e;have:x=y:=NK.tup.inj (TV hx hy);subst this;exact wB (İ (wP (by simpa using h)))
  .rw[iN d]
   refine wB (wpAny_richCompare_same_room (FE hx) (FE hy) F.slot_tuple_eq
    (ö F.slot_tuple_eq (FE hx) F.entry_tuple_eq (Ji (λB j H u v Q h1 r D=>XI n (LX #[0] B j) (show A.units+1+n<cLine by lia) h1 r D) hx hy ⟨_,rfl,(λe=>nomatch e),ć h⟩) (F.args_tuple_eq_2 _ _)) #[0])
theorem Ek: ∀(n m:Nat){A:Ň}{E:VP}{s:Ņ}{x:NK}{u:ņ}{Q:Bool->Ņ->Prop},AK x<=n->n<m->PV (mk prog w) s.heap x u->Q true s->wpAny ↑9 A (eqIsQuiet m u) Q E s
 |n,m,A,E,s,.key k,u,Q,_,_,hx,h=>by rw[eqIsQuiet_byValue m ((mk prog w).byValue _ _ (kQ.mp hx))];exact wP h
 |0,m,A,E,s,.tup ks,u,Q,c,_,hx,h=>by rw[tF]at c;lia
 |n+1,0,A,E,s,.tup ks,u,Q,c,hm,hx,h=>by lia
 |n+1,m+1,A,E,s,.tup ks,u,Q,hdp,hm,hx,h=>by
  obtain⟨a,o,_,j,rfl,y,B,c,hi⟩:=wN.mp hx;have p:s.TypeIs (.ref a) "tuple":=⟨o,y,B⟩
  rw[tF]at hdp;unfold eqIsQuiet;refine wB (Ľ p F.slot_tuple_eq.lookup ?_);show wpAny _ _ _ _ _ s;refine wB (ĵ p isSubtype_tuple_tuple ?_);refine wB (wpAny_seqItems y c ?_);refine wB ?_;show wpAny _ _ _ _ _ s;rw[<-Array.forIn_toList];refine wpAny_forIn_list _ (λrest r s'=>r.1=none/\s'=s/\ ∃left,(∀k∈left,k∈ks)/\AI _ s.heap left rest) _ ?_ ?_ _ _ ⟨rfl,rfl,ks,λk d=>d,hi⟩
  .rintro v rest r s' ⟨q,rfl,left,b,i⟩
   cases left with
   |nil=>rw[jH]at i;cases i
   |cons k left=>
    obtain⟨C,H,e,h1,z⟩:=yU.mp i;cases e;refine wB (Ek n m (LX #[0] k (b k mF0)) #[0] h1 ?_);exact wP ⟨rfl,rfl,left,λk d=>b k (mO _ d),z⟩
  .rintro⟨G,D⟩ s' ⟨q,rfl,_⟩;subst q;exact wP h
end
def tH(prog:ň)(w:World):HeapKind prog w NK where
 is:=λh k a=>PV (mk prog w) h k (.ref a)/\AK k<=4
 hash:=FD (mk prog w)
 draws:=LU
 room:=λA=>A.units+4<cLine
 inj:=λhx hy=>TV hx.1 hy.1
 keeps:=λx ho hd hs=>⟨XF (λa o' items n e q=>(hs.2 a λz=>by subst z;rw[ho]at e;cases e;rw[hd]at q;cases q).trans e) x.1,x.2⟩
 pyHash:=λhu hk h=>XG 4 hk.2 hu hk.1 h
 eqBool:=λhu hx hy h=>XI 4 hx.2 hu hx.1 hy.1 h
 quiet:=λhk h=>Ek 4 8 hk.2 ↑7 hk.1 h
noncomputable def DN(P:ň)(w:World)(a:Addr)(xs:↑31):HO:=
 .ext λh=>↑33<=sizeLine/\(a==sysModules)=false/\ ∃o es ep,h.get? a=some o/\o.ExactDict/\o.data=.dict es ep/\es.toList=xs.map (entryOfKey (tH P w))/\(xs.map (·.1)).Nodup
end M
end L2
namespace L2
open PySem PySem.Spec PyProof.Rows
def Fly(h:Heap)(e T:Addr)(cls:ņ)(d:Option Addr)(c:ņ):Prop:=
 ∃a vs b ts,h.get? e=some a/\a.cls=cls/\a.dict=d/\a.data=.fields vs/\vs[1]? =some (.ref T)/\T≠e/\h.get? T=some b/\b.data=.fields ts/\ts[3]? =some c/\vs[2]? =some .none
structure Mvd(fs:B9)(e T:Addr)(h h':Heap):Prop where
 keep: ∀b o,b≠e->b≠T->b∉fs->h.get? b=some o->h'.get? b=some o
 slot: ∀b o,b≠e->b≠T->h.get? b=some o-> ∃sl,h'.get? b=some {o with slots:=sl}
 there: ∀b o,h.get? b=some o-> ∃o',h'.get? b=some o'
def Mvd.new{fs:B9}{e T j:Addr}{h h1 d:Heap}(a:Mvd fs e T h h1)(n:h.get? j=none)(b:Mvd fs e j h1 d):Mvd fs e T h d:=by
 have ne: ∀c o,h.get? c=some o->c≠j:=λc o q z=>by rw[z,n]at q;cases q
 exact⟨λc o h1 d k q=>b.keep c o h1 (ne c o q) k (a.keep c o h1 d k q),λc o h1 d q=>by obtain⟨sl,e1⟩:=a.slot c o h1 d q;obtain⟨i,e2⟩:=b.slot c _ h1 (ne c o q) e1;exact⟨i,e2⟩,λc o q=>let ⟨o',e1⟩:=a.there c o q;b.there c o' e1⟩
def CXe(P:ň)(w:World):Ef:=λa H s E x s'=> ∃e T C d H',x=.ref e/\s'.os=s.os/\AllBare s'.gens/\Un (Ik a) [] H H' s.heap s'.heap/\HOk P w H' s'.heap/\Fly s'.heap e T (.ref C) d .none/\
 s.heap.get? e=none/\s.heap.get? T=none/\H' e=none/\H' T=none/\E (.ref C) d H'
noncomputable abbrev zHN:List Value:=[.type "ValueError",.type "Exception",.type "BaseException",.type "object"]
noncomputable def qn:List Str:=["__class__","__getattribute__","__getattr__","__setattr__","place","number"]
end L2
namespace L2
namespace M
open PySem PySem.Spec PyProof.Rows
variable{H H' H0:Hp}{α α':B9}{vs xs:List V}{v:V}{β τ γ:Type}{j:Nat}{Q:VP}{o:HO}{its:B0}{es:P0}{tg:Expr}{σ:St}
inductive MV where
 |non|bl (b:Bool)|int (i:Int)|str (x:Db)|tup (ds:List MV)|scr (ds:List MV)|loc (l:Nat)|typ (n:String)|obj (c:Str) (ns:K0) (ds:List MV)
abbrev U0:=List MV
abbrev V0:=Option MV
abbrev Z0:=List (Nat×List MV)
abbrev zA0:=List (MV×MV)
instance:Inhabited MV:=⟨.non⟩
inductive MO where
 |lst (ds:U0)|dic (kvs:zA0)|ins (c:Str) (fs:List (Str×MV))|rcd (c:Str) (fs:List (Str×MV))|fdc (kvs:zA0)
abbrev Sto:=List MO
variable{S T S1 S':Sto}
def SqF(K:Q0)(H:Hp)(a:Addr)(xs:List V):Prop:=
 (∃o,H a=some (.frz o (.lst xs)))\/
  ∃(o:Obj)(its:B0)(n:Nat),K.lookup a=some o/\o.cls=.type "list"/\o.dict=none/\o.data=.seq its n/\its.size<=sizeLine/\Vals xs its.toList
def SqF.l{K:Q0}{a:Addr}(h:SqF K H a xs):SqL K H a xs:=by
 rcases h with⟨o,h⟩|h
 .exact .inl (.inr ⟨o,h⟩)
 .exact .inr h
mutual
def Den(K:Q0)(α:B9)(H:Hp):MV->V->Prop
 |.non,v=>v=.non
 |.bl b,v=>v=.bl b
 |.int i,v=>v=.int i
 |.str x,v=>v=.str (mK x)
 |.tup ds,v=> ∃a vs,v=.ref a/\SqT K H a vs/\DenL K α H ds vs
 |.scr ds,v=> ∃a vs,v=.ref a/\SqF K H a vs/\DenL K α H ds vs
 |.loc l,v=> ∃a,v=.ref a/\α[l]? =some a
 |.typ n,v=>v=.ty n
 |.obj c ns ds,v=> ∃a C dx vs o,v=.ref a/\H a=some (.frz o (.ins C dx (ns.zip vs)))/\PySem.W.nsIn K mainGlobals c=some (some (.ref C))/\(PySem.W.clsIn K C).map (·.name)=some c/\ns.length=vs.length/\DenL K α H ds vs
def DenL(K:Q0)(α:B9)(H:Hp):List MV->List V->Prop
 |[],vs=>vs=[]
 |d::ds,vs=> ∃v r,vs=v::r/\Den K α H d v/\DenL K α H ds r
end
structure Ex0(α:B9)(H:Hp)(α':B9)(H':Hp):Prop where
 pre: ∃t,α'=α++t
 tup: ∀b xs,H b=some (.tup xs)->H' b=some (.tup xs)
 frz: ∀b o u,H b=some (.frz o u)->H' b=some (.frz o u)
structure Ext(α:B9)(H:Hp)(α':B9)(H':Hp):Prop extends Ex0 α H α' H' where
 new: ∀b∈α',b∈α\/H b=none
 keep: ∀b o,H b=some o->b∉α->H' b=some o
 has: ∀b o,H b=some o-> ∃o',H' b=some o'
section
variable{K:Q0}{α α' α'':B9}{H H' H'':Hp}
def Ext.refl(α:B9)(H:Hp):Ext α H α H:=⟨⟨⟨[],by simp⟩,λ_ _ h=>h,λ_ _ _ h=>h⟩,λb h=>.inl h,λ_ _ h _=>h,λ_ o h=>⟨o,h⟩⟩
def Ex0.grow(α t:B9)(H:Hp):Ex0 α H (α++t) H:=⟨⟨t,rfl⟩,λ_ _ h=>h,λ_ _ _ h=>h⟩
def Ext.free(x:Ext α H α' H'){b:Addr}(h:H' b=none):H b=none:=by
 cases e:H b with
 |none=>rfl
 |some o=>obtain⟨o',h'⟩:=x.has b o e;rw[h]at h';cases h'
def Ext.out(x:Ext α H α' H'){b:Addr}(h:H b=some o)(n:b∉α):b∉α':=λz=>by
 rcases x.new b z with z|z
 .exact n z
 .rw[h]at z;cases z
def Ext.trans(x:Ext α H α' H')(y:Ext α' H' α'' H''):Ext α H α'' H'' where
 pre:=by obtain⟨t,rfl⟩:=x.pre;obtain⟨u,rfl⟩:=y.pre;exact⟨_,by rw[aA]⟩
 new:=λb h=>(y.new b h).elim (x.new b) λz=>.inr (x.free z)
 keep:=λb o h n=>y.keep b o (x.keep b o h n) (x.out h n)
 has:=λb o h=>let ⟨o',h'⟩:=x.has b o h;y.has b o' h'
 tup:=λb xs h=>y.tup b xs (x.tup b xs h)
 frz:=λb o u h=>y.frz b o u (x.frz b o u h)
def Ex0.at(x:Ex0 α H α' H'){l:Nat}{a:Addr}(h:α[l]? =some a):α'[l]? =some a:=by obtain⟨t,rfl⟩:=x.pre;rw[ç (gS.mp h).1];exact h
def Ex0.sqT(x:Ex0 α H α' H'){a:Addr}(q:SqT K H a vs):SqT K H' a vs:=by
 rcases q with(q|⟨o,q⟩)|q
 .exact .inl (.inl (x.tup a vs q))
 .exact .inl (.inr ⟨o,x.frz a o _ q⟩)
 .exact .inr q
def Ex0.sqF(x:Ex0 α H α' H'){a:Addr}(q:SqF K H a vs):SqF K H' a vs:=by
 rcases q with⟨o,q⟩|q
 .exact .inl ⟨o,x.frz a o _ q⟩
 .exact .inr q
mutual
theorem Den.ex0(x:Ex0 α H α' H'): ∀{d:MV}{v:V},Den K α H d v->Den K α' H' d v
 |.non,_,q=>by unfold Den at q ⊢; exact q
 |.bl _,_,q=>by unfold Den at q ⊢; exact q
 |.int _,_,q=>by unfold Den at q ⊢; exact q
 |.str _,_,q=>by unfold Den at q ⊢; exact q
 |.typ _,_,q=>by unfold Den at q ⊢; exact q
 |.obj c ns ds,_,q=>by unfold Den at q ⊢;obtain⟨a,C,dx,vs,o,e,h,j,b,i,l⟩:=q;exact⟨a,C,dx,vs,o,e,x.frz a _ _ h,j,b,i,DenL.ex0 x l⟩
 |.loc _,_,q=>by unfold Den at q ⊢;obtain⟨a,e,h⟩:=q;exact⟨a,e,x.at h⟩
 |.tup ds,_,q=>by unfold Den at q ⊢;obtain⟨a,vs,e,s,l⟩:=q;exact⟨a,vs,e,x.sqT s,DenL.ex0 x l⟩
 |.scr ds,_,q=>by unfold Den at q ⊢;obtain⟨a,vs,e,s,l⟩:=q;exact⟨a,vs,e,x.sqF s,DenL.ex0 x l⟩
theorem DenL.ex0(x:Ex0 α H α' H'): ∀{ds:U0}{vs:List V},DenL K α H ds vs->DenL K α' H' ds vs
 |[],_,q=>by unfold DenL at q ⊢; exact q
 |d::ds,_,q=>by unfold DenL at q ⊢;obtain⟨v,r,e,a,l⟩:=q;exact⟨v,r,e,Den.ex0 x a,DenL.ex0 x l⟩
end
def Den.ext(x:Ext α H α' H'){d:MV}(q:Den K α H d v):Den K α' H' d v:=q.ex0 x.toEx0
def DenL.ext(x:Ext α H α' H'){d:U0}{v:List V}(q:DenL K α H d v):DenL K α' H' d v:=q.ex0 x.toEx0
theorem KZ:Den K α H .non .non:=by unfold Den;rfl
theorem nO(b:Bool):Den K α H (.bl b) (.bl b):=by unfold Den;rfl
theorem xZ(i:Int):Den K α H (.int i) (.int i):=by unfold Den;rfl
theorem uD(x:Db):Den K α H (.str x) (.str (mK x)):=by unfold Den;rfl
theorem El(n:String):Den K α H (.typ n) (.ty n):=by unfold Den;rfl
def uE{ds:U0}{a:Addr}(s:SqT K H a vs)(l:DenL K α H ds vs):Den K α H (.tup ds) (.ref a):=by unfold Den;exact⟨a,vs,rfl,s,l⟩
def Em{ds:U0}{a:Addr}(s:SqF K H a vs)(l:DenL K α H ds vs):Den K α H (.scr ds) (.ref a):=by unfold Den;exact⟨a,vs,rfl,s,l⟩
def FF{l:Nat}{a:Addr}(h:α[l]? =some a):Den K α H (.loc l) (.ref a):=by unfold Den;exact⟨a,rfl,h⟩
def mT(d:Den K α H .non v):v=.non:=by unfold Den at d;exact d
def tI{b:Bool}(d:Den K α H (.bl b) v):v=.bl b:=by unfold Den at d;exact d
def xB{i:Int}(d:Den K α H (.int i) v):v=.int i:=by unfold Den at d;exact d
def wH{x:Db}(d:Den K α H (.str x) v):v=.str (mK x):=by unfold Den at d;exact d
def En{c:Str}{b:K0}{ds:U0}{a C dx:Addr}{o:Obj}(h:H a=some (.frz o (.ins C dx (b.zip vs))))(i:PySem.W.nsIn K mainGlobals c=some (some (.ref C)))(d:(PySem.W.clsIn K C).map (·.name)=some c)(e:b.length=vs.length)(l:DenL K α H ds vs):Den K α H (.obj c b ds) (.ref a):=by unfold Den;exact⟨a,C,dx,vs,o,rfl,h,i,d,e,l⟩
def fF{c:Str}{b:K0}{ds:U0}(d:Den K α H (.obj c b ds) v): ∃a C dx vs o,v=.ref a/\H a=some (.frz o (.ins C dx (b.zip vs)))/\PySem.W.nsIn K mainGlobals c=some (some (.ref C))/\(PySem.W.clsIn K C).map (·.name)=some c/\b.length=vs.length/\DenL K α H ds vs:=by unfold Den at d;exact d
def mU{n:String}(d:Den K α H (.typ n) v):v=.ty n:=by unfold Den at d;exact d
def xC{ds:U0}(d:Den K α H (.tup ds) v): ∃a vs,v=.ref a/\SqT K H a vs/\DenL K α H ds vs:=by unfold Den at d;exact d
def fG{ds:U0}(d:Den K α H (.scr ds) v): ∃a vs,v=.ref a/\SqF K H a vs/\DenL K α H ds vs:=by unfold Den at d;exact d
def aF{l:Nat}(d:Den K α H (.loc l) v): ∃a,v=.ref a/\α[l]? =some a:=by unfold Den at d;exact d
theorem yL:DenL K α H [] []:=by unfold DenL;rfl
def yH{d:MV}{ds:U0}(a:Den K α H d v)(l:DenL K α H ds vs):DenL K α H (d::ds) (v::vs):=by unfold DenL;exact⟨v,vs,rfl,a,l⟩
def DenL.uncons{d:MV}{ds:U0}(l:DenL K α H (d::ds) vs): ∃v r,vs=v::r/\Den K α H d v/\DenL K α H ds r:=by unfold DenL at l;exact l
def DenL.isnil(l:DenL K α H [] vs):vs=[]:=by unfold DenL at l;exact l
theorem DenL.length: ∀{ds:U0}{vs:List V},DenL K α H ds vs->vs.length=↑23
 |[],_,q=>by rw[q.isnil];rfl
 |d::ds,_,q=>by obtain⟨v,r,rfl,_,l⟩:=q.uncons;rw[lC,lC,DenL.length l]
theorem DenL.append: ∀{ds es:U0}{vs us:List V},DenL K α H ds vs->DenL K α H es us->DenL K α H (ds++es) (vs++us)
 |[],_,_,_,q,l=>by rw[q.isnil];exact l
 |d::ds,_,_,_,q,l=>by obtain⟨v,r,rfl,a,b⟩:=q.uncons;exact yH a (DenL.append b l)
theorem DenL.drop: ∀{ds:U0}{vs:List V}(n:Nat),DenL K α H ds vs->DenL K α H (ds.drop n) (vs.drop n)
 |_,_,0,q=>q
 |[],_,n+1,q=>by rw[q.isnil];exact yL
 |d::ds,_,n+1,q=>by obtain⟨v,r,rfl,_,l⟩:=q.uncons;exact DenL.drop n l
theorem DenL.take: ∀{ds:U0}{vs:List V}(n:Nat),DenL K α H ds vs->DenL K α H (ds.take n) (vs.take n)
 |_,_,0,q=>yL
 |[],_,n+1,q=>by rw[q.isnil];exact yL
 |d::ds,_,n+1,q=>by obtain⟨v,r,rfl,a,l⟩:=q.uncons;exact yH a (DenL.take n l)
theorem DenL.reverse: ∀{ds:U0}{vs:List V},DenL K α H ds vs->DenL K α H ds.reverse vs.reverse
 |[],_,q=>by rw[q.isnil];exact yL
 |d::ds,_,q=>by obtain⟨v,r,rfl,a,l⟩:=q.uncons;rw[reverse_cons,reverse_cons];exact(DenL.reverse l).append (yH a yL)
theorem DenL.set{d:MV}(a:Den K α H d v): ∀{ds:U0}{vs:List V}(n:Nat),DenL K α H ds vs->DenL K α H (ds.set n d) (vs.set n v)
 |[],_,_,q=>by rw[q.isnil];exact yL
 |e::ds,_,0,q=>by obtain⟨c,r,rfl,b,l⟩:=q.uncons;exact yH a l
 |e::ds,_,n+1,q=>by obtain⟨c,r,rfl,b,l⟩:=q.uncons;exact yH b (DenL.set a n l)
theorem DenL.get: ∀{ds:U0}{vs:List V}{i:Nat}{v:V},DenL K α H ds vs->vs[i]? =some v-> ∃d,ds[i]? =some d/\Den K α H d v
 |[],_,_,_,q,e=>by rw[q.isnil]at e;simp at e
 |d::ds,_,0,_,q,e=>by obtain⟨v,r,rfl,a,l⟩:=q.uncons;simp at e;subst e;exact⟨d,rfl,a⟩
 |d::ds,_,i+1,_,q,e=>by obtain⟨v,r,rfl,a,l⟩:=q.uncons;obtain⟨c,h1,b⟩:=DenL.get l (by simpa using e);exact⟨c,by simpa using h1,b⟩
def DenL.at{ds:U0}{i:Nat}{d:MV}(q:DenL K α H ds vs)(e:ds[i]? =some d): ∃v,vs[i]? =some v/\Den K α H d v:=by
 have hi:=(gS.mp e).1;have a:i<vs.length:=by rw[q.length];exact hi
 obtain⟨c,h1,b⟩:=q.get (gE a);rw[e]at h1;cases h1;exact⟨_,gE a,b⟩
def DenL.cut{ds:U0}(q:DenL K α H ds vs)(lo hi:O0):DenL K α H (cQ ds lo hi) (Iw vs lo hi):=by unfold cQ Iw;rw[q.length];exact(q.drop _).take _
theorem tK: ∀(a:Za),DenL K α H (a.map MV.int) (a.map V.int)
 |[]=>yL
 |b::bs=>yH (xZ b) (tK bs)
end
structure Gm where
 K:PySem.W.Frag
 mg:Str->Option ņ
 P:ň
 w:World
abbrev _root_.L2.Cx.g(X:Cx):Gm:=⟨X.K,X.mg,X.prog,X.w⟩
inductive DenF(K:Q0)(α:B9)(H:Hp):List (Str×MV)->List (Str×V)->Prop
 |nil:DenF K α H [] []
 |cons {x:Str} {d:MV} {v:V} {fs gs}:Den K α H d v->DenF K α H fs gs->DenF K α H ((x,d)::fs) ((x,v)::gs)
theorem DenF.ex0{K:Q0}(x:Ex0 α H α' H'): ∀{fs b},DenF K α H fs b->DenF K α' H' fs b
 |_,_,.nil=>.nil
 |_,_,.cons a l=>.cons (a.ex0 x) (DenF.ex0 x l)
def KeyD:MV->Key->Prop
 |.int i,k=>k=.inl i
 |.str x,k=>k=.inr (mK x)
 |_,_=>False
inductive DenK(K:Q0)(α:B9)(H:Hp):List (MV×MV)->List (Key×V)->Prop
 |nil:DenK K α H [] []
 |cons {k:MV} {k':Key} {d:MV} {v:V} {fs gs}:KeyD k k'->Den K α H d v->DenK K α H fs gs->DenK K α H ((k,d)::fs) ((k',v)::gs)
theorem DenK.ex0{K:Q0}(x:Ex0 α H α' H'): ∀{fs b},DenK K α H fs b->DenK K α' H' fs b
 |_,_,.nil=>.nil
 |_,_,.cons k a l=>.cons k (a.ex0 x) (DenK.ex0 x l)
mutual
def kM:MV->Option NK
 |.non=>some (.key none)
 |.int i=>some (.key (some (.inl i)))
 |.str x=>some (.key (some (.inr (mK x))))
 |.tup ds=>(cE ds).map .tup
 |_=>none
def cE:List MV->Option (List NK)
 |[]=>some []
 |d::ds=>(kM d).bind λk=>(cE ds).map (k::·)
end
inductive DenN(K:Q0)(α:B9)(H:Hp):List (MV×MV)->List (NK×Addr×ņ)->Prop
 |nil:DenN K α H [] []
 |cons {k:MV} {nk:NK} {a:Addr} {d:MV} {v:V} {u:ņ} {fs xs}:kM k=some nk->AK nk<=4->Den K α H k (.ref a)->Den K α H d v->RelV v u->DenN K α H fs xs->DenN K α H ((k,d)::fs) ((nk,a,u)::xs)
theorem DenN.ex0{K:Q0}(x:Ex0 α H α' H'): ∀{fs xs},DenN K α H fs xs->DenN K α' H' fs xs
 |_,_,.nil=>.nil
 |_,_,.cons k e a d r l=>.cons k e (a.ex0 x) (d.ex0 x) r (DenN.ex0 x l)
def ObD(g:Gm)(α:B9)(H:Hp)(a:Addr):MO->Prop
 |.lst ds=> ∃vs,H a=some (.lst vs)/\DenL g.K α H ds vs
 |.dic kvs=>(∃e,H a=some (.dK e)/\DenK g.K α H kvs e)\/ ∃xs,H a=some (DN g.P g.w a xs)/\DenN g.K α H kvs xs
 |.ins c fs=> ∃C d,g.mg c=some (.ref C)/\DenF g.K α H fs d/\
   ∃b,H a=some (.frz b (.ext λh=>h.get? a=some b))/\b.cls=.ref C/\(fs=[]\/ ∃dx i,b.dict=some dx/\H dx=some (.frz i (.xd d))/\ ∃vs,b.data=.fields vs)
 |.rcd c fs=> ∃C dx d,PySem.W.nsIn g.K mainGlobals c=some (some (.ref C))/\H a=some (.ins C dx d)/\DenF g.K α H fs d
 |.fdc kvs=> ∃b xs,H a=some (.frz b (DN g.P g.w a xs))/\DenN g.K α H kvs xs
def ObD.there{g:Gm}{a:Addr}{o:MO}(h:ObD g α H a o): ∃b,H a=some b/\(∀xs,b≠.tup xs)/\ ∀ob u,b=.frz ob u-> ∃d,u=.ext d:=by
 cases o with
 |lst ds=>obtain⟨vs,h,_⟩:=h;exact⟨_,h,(λxs z=>by cases z),λ_ _ z=>by cases z⟩
 |dic ds=>
  rcases h with⟨vs,h,_⟩|⟨vs,h,_⟩
  .exact⟨_,h,(λxs z=>by cases z),λ_ _ z=>by cases z⟩
  .exact⟨_,h,(λxs z=>by cases z),λ_ _ z=>by cases z⟩
 |ins c ds=>
  obtain⟨_,_,_,_,_,h,_⟩:=h;exact⟨_,h,(λxs z=>by cases z),λ_ _ z=>by cases z;exact⟨_,rfl⟩⟩
 |rcd c ds=>obtain⟨_,_,_,_,h,_⟩:=h;exact⟨_,h,(λxs z=>by cases z),λ_ _ z=>by cases z⟩
 |fdc kvs=>obtain⟨_,_,h,_⟩:=h;exact⟨_,h,(λxs z=>by cases z),λ_ _ z=>by cases z;exact⟨_,rfl⟩⟩
def ObD.move{g:Gm}{a:Addr}{o:MO}(h:ObD g α H a o)(x:Ex0 α H α' H')(e:H' a=H a):ObD g α' H' a o:=by
 cases o with
 |lst ds=>obtain⟨vs,h,l⟩:=h;exact⟨vs,e.trans h,l.ex0 x⟩
 |dic ds=>
  rcases h with⟨vs,h,l⟩|⟨vs,h,l⟩
  .exact .inl ⟨vs,e.trans h,l.ex0 x⟩
  .exact .inr ⟨vs,e.trans h,l.ex0 x⟩
 |ins c ds=>
  obtain⟨C,d,m,l,b,h,i,p⟩:=h;exact⟨C,d,m,l.ex0 x,b,e.trans h,i,p.imp id λ⟨dx,k,h1,j,n⟩=>⟨dx,k,h1,x.frz _ _ _ j,n⟩⟩
 |rcd c ds=>obtain⟨C,dx,d,m,h,l⟩:=h;exact⟨C,dx,d,m,e.trans h,l.ex0 x⟩
 |fdc kvs=>obtain⟨b,xs,h,l⟩:=h;exact⟨b,xs,e.trans h,l.ex0 x⟩
structure Wd(g:Gm)(α:B9)(S:Sto)(H:Hp):Prop where
 len:α.length=↑0
 nd:α.Nodup
 obj: ∀(l:Nat)(a:Addr)(o:MO),α[l]? =some a->S[l]? =some o->ObD g α H a o
section
variable{g:Gm}{α:B9}{S:Sto}{H:Hp}
def Wd.at(w:Wd g α S H){l:Nat}{o:MO}(h:S[l]? =some o): ∃a,α[l]? =some a/\ObD g α H a o:=by
 have b:l<α.length:=by rw[w.len];exact(gS.mp h).1
 exact⟨α[l],gE b,w.obj l _ o (gE b) h⟩
def Wd.of(w:Wd g α S H){l:Nat}{a:Addr}(h:α[l]? =some a): ∃o,S[l]? =some o/\ObD g α H a o:=by
 have b:l<S.length:=by rw[<-w.len];exact(gS.mp h).1
 exact⟨S[l],gE b,w.obj l a _ h (gE b)⟩
def Wd.mem(w:Wd g α S H){a:Addr}(h:a∈α): ∃b,H a=some b/\(∀xs,b≠.tup xs)/\ ∀ob u,b=.frz ob u-> ∃d,u=.ext d:=by obtain⟨l,c⟩:=getElem?_of_mem h;obtain⟨o,_,q⟩:=w.of c;exact q.there
def Wd.newx(w:Wd g α S H){p:Addr}(hp:H p=none):Ext α H α (xY H p o) where
 pre:=⟨[],by simp⟩
 new:=λb h=>.inl h
 keep:=λb o h _=>by rw[zL (zZ h hp)];exact h
 has:=λb o h=>⟨o,by rw[zL (zZ h hp)];exact h⟩
 tup:=λb o h=>by rw[zL (zZ h hp)];exact h
 frz:=λb o u h=>by rw[zL (zZ h hp)];exact h
def Wd.fresh(w:Wd g α S H){p:Addr}(a:H p=none):p∉α:=λz=>by obtain⟨_,h,_⟩:=w.mem z;rw[a]at h;cases h
def Wd.new(w:Wd g α S H){p:Addr}(b:H p=none):Wd g α S (xY H p o):=
 ⟨w.len,w.nd,λl a ob h1 c=>(w.obj l a ob h1 c).move (w.newx b).toEx0 (zL λz=>w.fresh b (by rw[<-z];exact ñ h1))⟩
def E9{b:HO}{a:Addr}(h:H a=some b)(n: ∀ob u,b≠.frz ob u:=by intro _ _ z;cases z): ∀ob u,H a≠some (.frz ob u):=λob u z=>n ob u (ã (h.symm.trans z))
def Wd.writex(w:Wd g α S H){l:Nat}{a:Addr}(h:α[l]? =some a)(nf: ∀ob u,H a≠some (.frz ob u)):Ext α H α (xY H a o) where
 pre:=⟨[],by simp⟩
 new:=λb h=>.inl h
 keep:=λb o e n=>by rw[zL λz=>n (by rw[z];exact ñ h)];exact e
 has:=λb o e=>by
  by_cases z:b=a
  .subst z;exact⟨_,zX⟩
  .exact⟨o,by rw[zL z];exact e⟩
 tup:=λb xs e=>by obtain⟨ho,h1,h2,_⟩:=w.mem (ñ h);rw[zL λz=>h2 xs (by subst z;rw[e]at h1;exact(ã h1).symm)];exact e
 frz:=λb ob u e=>by rw[zL λz=>nf ob u (by rw[<-z];exact e)];exact e
def Wd.ne(w:Wd g α S H){l m:Nat}{a b:Addr}(h:α[l]? =some a)(h':α[m]? =some b)(n:l≠m):a≠b:=by rintro rfl;obtain⟨h1,e1⟩:=gS.mp h;obtain⟨c,e2⟩:=gS.mp h';exact n ((getElem_inj w.nd).mp (e1.trans e2.symm))
def Wd.write(w:Wd g α S H){l:Nat}{a:Addr}{ob:MO}(h:α[l]? =some a)(nf: ∀ob u,H a≠some (.frz ob u))(q:ObD g α (xY H a o) a ob):Wd g α (S.set l ob) (xY H a o) where
 len:=by rw[ù];exact w.len
 nd:=w.nd
 obj:=λm b ob' h1 h2=>by
  by_cases e:l=m
  .subst e;rw[h]at h1;have hl:l<S.length:=by rw[<-w.len];exact(gS.mp h).1
   rw[ô hl]at h2;rw[<-ã h1, <-ã h2];exact q
  .rw[í e]at h2;exact(w.obj m b ob' h1 h2).move (w.writex h nf).toEx0 (zL (w.ne h1 h λz=>e z.symm))
def Wd.enterx(w:Wd g α S H){α0:B9}(x:Ext α0 H0 α H){b:Addr}(h0:H0 b=none)(n:b∉α):Ext α0 H0 (α++[b]) H where
 pre:=let ⟨t,e⟩:=x.pre;⟨_,by rw[e,aA]⟩
 new:=λc hc=>(æ.mp hc).elim (x.new c) λz=>.inr (by rw[mS.mp z];exact h0)
 keep:=x.keep
 has:=x.has
 tup:=x.tup
 frz:=x.frz
theorem Wd.enter(w:Wd g α S H){b:Addr}{ds:U0}(h:H b=some (.lst vs))(n:b∉α)(l:DenL g.K α H ds vs):Wd g (α++[b]) (S++[.lst ds]) H where
 len:=by rw[lA,lA,w.len];rfl
 nd:=ģ.mpr ⟨w.nd,by simp,λa ha c hc=>by rw[mS.mp hc];rintro rfl;exact n ha⟩
 obj:=λm a o h1 h2=>by
  by_cases hm:m<α.length
  .rw[ç hm]at h1;rw[ç (by rw[<-w.len];exact hm)]at h2;exact(w.obj m a o h1 h2).move (Ex0.grow α [b] H) rfl
  .have hm':m=α.length:=by
    have:=(gS.mp h1).1;rw[lA,lS]at this
    lia
   subst hm';rw[î (à _),sub_self]at h1;rw[î (by rw[w.len];exact à _),w.len,sub_self]at h2;cases h1;cases h2;exact⟨vs,h,l.ex0 (Ex0.grow α [b] H)⟩
end
inductive R(β:Type) where
 |ok (b:β) (S:Sto)|exc (c:Str) (fs:List (Str×MV)) (S:Sto)|no
def R.bind:R β->(β->Sto->R γ)->R γ
 |.ok b S,k=>k b S
 |.exc c fs S,_=>.exc c fs S
 |.no,_=>.no
theorem R.bind_ok(b:β)(S:Sto)(k:β->Sto->R γ):(R.ok b S).bind k=k b S:=rfl
inductive Er where
 |val (d:MV)|new (ds:U0)
variable{rs:List Er}
instance:Inhabited Er:=⟨.val .non⟩
def DenX(K:Q0)(α:B9)(H:Hp):Er->V->Prop
 |.val d,v=>Den K α H d v
 |.new ds,v=> ∃b vs,v=.ref b/\H b=some (.lst vs)/\b∉α/\DenL K α H ds vs
def DenE(K:Q0)(H:Hp)(α':B9)(H':Hp)(r:Er)(v:V):Prop:=DenX K α' H' r v/\match r with |.new _=> ∀a,v=.ref a->H a=none|_=>True
section
variable{K:Q0}{α α':B9}{H H0 H':Hp}
def DenX.ext(x:Ext α H α' H'): ∀{r:Er}{v:V},DenX K α H r v->DenX K α' H' r v
 |.val d,_,q=>Den.ext x q
 |.new ds,_,⟨b,vs,e,h,n,l⟩=>⟨b,vs,e,x.keep b _ h n,x.out h n,l.ext x⟩
def DenE.val{d:MV}(q:Den K α' H' d v):DenE K H α' H' (.val d) v:=⟨q,trivial⟩
def DenE.back(c: ∀b,H b=none->H0 b=none){r:Er}(q:DenE K H α' H' r v):DenE K H0 α' H' r v:=by
 refine⟨q.1,?_⟩
 cases r with
 |new ds=>exact λa e=>c a (q.2 a e)
 |_=>trivial
def DenE.ext{α'':B9}{H'':Hp}(x:Ext α' H' α'' H''){r:Er}(q:DenE K H α' H' r v):DenE K H α'' H'' r v:=⟨q.1.ext x,q.2⟩
end
section
variable{K:Q0}{α:B9}{H:Hp}{v:V}
def Bh(d:DenX K α H (.val .non) v):v=.non:=mT (K:=K) (α:=α) (H:=H) d
def JM{b:Bool}(d:DenX K α H (.val (.bl b)) v):v=.bl b:=tI (K:=K) (α:=α) (H:=H) d
def xP{b:Int}(d:DenX K α H (.val (.int b)) v):v=.int b:=xB (K:=K) (α:=α) (H:=H) d
def mV{b:Db}(d:DenX K α H (.val (.str b)) v):v=.str (mK b):=wH (K:=K) (α:=α) (H:=H) d
def T7{b:String}(d:DenX K α H (.val (.typ b)) v):v=.ty b:=mU (K:=K) (α:=α) (H:=H) d
def Nv{c:Str}{b:K0}{ds:U0}(d:DenX K α H (.val (.obj c b ds)) v): ∃a C dx vs o,v=.ref a/\H a=some (.frz o (.ins C dx (b.zip vs)))/\PySem.W.nsIn K mainGlobals c=some (some (.ref C))/\(PySem.W.clsIn K C).map (·.name)=some c/\b.length=vs.length/\DenL K α H ds vs:=fF d
def mW{ds:U0}(d:DenX K α H (.val (.tup ds)) v): ∃a vs,v=.ref a/\SqT K H a vs/\DenL K α H ds vs:=xC d
def TX{ds:U0}(d:DenX K α H (.val (.scr ds)) v): ∃a vs,v=.ref a/\SqF K H a vs/\DenL K α H ds vs:=fG d
def sN{l:Nat}(d:DenX K α H (.val (.loc l)) v): ∃a,v=.ref a/\α[l]? =some a:=aF (K:=K) (H:=H) d
end
noncomputable def JN:List Er->List V->List Addr
 |.new _::rs,.ref b::vs=>b::JN rs vs
 |_::rs,_::vs=>JN rs vs
 |_,_=>[]
inductive ArgsE(K:Q0)(H:Hp)(α':B9)(H':Hp):List Er->List V->Prop
 |nil:ArgsE K H α' H' [] []
 |cons {r v rs vs}:DenE K H α' H' r v->(∀ds b,r=.new ds->v=.ref b->b∉JN rs vs)->ArgsE K H α' H' rs vs->ArgsE K H α' H' (r::rs) (v::vs)
theorem ArgsE.nones{K:Q0}: ∀{rs vs},ArgsE K H α' H' rs vs-> ∀b∈JN rs vs,H b=none
 |_,_,.nil=>λb h=>by simp[JN]at h
 |.val d::_,v::_,.cons a n l=>λb h=>ArgsE.nones l b (by simpa [JN]using h)
 |.new ds::_,v::_,.cons a n l=>λb h=>by
  obtain⟨c,vs,rfl,_⟩:=a.1;rcases mC.mp h with rfl|h
  .exact a.2 _ rfl
  .exact ArgsE.nones l b h
theorem ArgsE.back{K:Q0}(c: ∀b,H b=none->H0 b=none): ∀{rs vs},ArgsE K H α' H' rs vs->ArgsE K H0 α' H' rs vs
 |_,_,.nil=>.nil
 |_,_,.cons a n l=>.cons (a.back c) n (ArgsE.back c l)
theorem ArgsE.length{K:Q0}: ∀{rs vs},ArgsE K H α' H' rs vs->vs.length=↑4
 |_,_,.nil=>rfl
 |_,_,.cons _ _ l=>by rw[lC,lC,ArgsE.length l]
class Dn (β:Type) (τ:outParam Type) where
 d:Gm->Hp->List Addr->Sto->Hp->β->τ->Prop
 back: ∀{g:Gm}{H H0:Hp}{α':B9}{S':Sto}{H':Hp}{b:β}{u:τ},(∀b,H b=none->H0 b=none)->d g H α' S' H' b u->d g H0 α' S' H' b u
instance:Dn Er V:=⟨λg H α' _ H' r v=>DenE g.K H α' H' r v,λa q=>q.back a⟩
instance:Dn Bool Bool:=⟨λ_ _ _ _ _ b u=>u=b,λ_ q=>q⟩
instance:Dn (List Er) (List V):=⟨λg H α' _ H' r v=>ArgsE g.K H α' H' r v,λa q=>q.back a⟩
instance:Dn (Option Int) (Option Int):=⟨λ_ _ _ _ _ b u=>u=b,λ_ q=>q⟩
abbrev XW:=Str->List (Str×MV)->Sto->List Addr->Hp->Prop
abbrev W0:XW:=λ_ _ _ _ _=>False
def Post[Dn β τ](g:Gm)(W:XW)(α:B9)(H:Hp):R β->(τ->Hp->Prop)->Prop
 |.ok b S,Q=> ∀u α' H',Ext α H α' H'->Wd g α' S H'->Dn.d g H α' S H' b u->Q u H'
 |.exc c fs S,_=> ∀α' H',Ext α H α' H'->Wd g α' S H'->W c fs S α' H'
 |.no,_=>False
section
variable{β τ γ υ:Type}[Dn β τ][Dn γ υ]{g:Gm}{W:XW}{α α':B9}{H H':Hp}
def Post.shift(x:Ext α H α' H'): ∀{m:R β}{Q:τ->Hp->Prop},Post g W α H m Q->Post g W α' H' m Q
 |.ok b S,Q,q=>λu a d e i j=>q u a d (x.trans e) i (Dn.back (λb h=>x.free h) j)
 |.exc c fs S,_,q=>λa d e i=>q a d (x.trans e) i
 |.no,_,q=>q
def Post.bind{m:R β}{k:β->Sto->R γ}{Q:υ->Hp->Prop}{e:τ->Hp->Prop}(q:Post g W α H (m.bind k) Q)
  (f: ∀u b S1 a H1,m=.ok b S1->Ext α H a H1->Wd g a S1 H1->Dn.d g H a S1 H1 b u->Post g W α H (k b S1) Q->e u H1):Post g W α H m e:=by
 cases m with
 |ok b S=>exact λu a H1 x w d=>f u b S a H1 rfl x w d q
 |exc c fs S=>exact q
 |no=>exact q
def Post.here{b:β}{Q:τ->Hp->Prop}{u:τ}(q:Post g W α H (.ok b S) Q)(w:Wd g α S H)(d:Dn.d g H α S H b u):Q u H:=q u α H (Ext.refl α H) w d
end
def Post.val{g:Gm}{W:XW}{d:MV}{Q:VK}(q:Post g W α H (.ok (Er.val d) S) Q)(w:Wd g α S H)(k:Den g.K α H d v):Q v H:=q.here w (DenE.val k)
def Post.newl{g:Gm}{W:XW}{ds:U0}{Q:VK}{p:Addr}(q:Post g W α H (.ok (Er.new ds) S) Q)(w:Wd g α S H)(b:H p=none)(l:DenL g.K α H ds vs):Q (.ref p) (xY H p (.lst vs)):=
 q _ α _ (w.newx b) (w.new b) ⟨⟨p,vs,rfl,zX,w.fresh b,l.ext (w.newx b)⟩,λa e=>by cases e;exact b⟩
def Post.newt{g:Gm}{W:XW}{ds:U0}{Q:VK}{p:Addr}(q:Post g W α H (.ok (Er.val (.tup ds)) S) Q)(w:Wd g α S H)(a:H p=none)(l:DenL g.K α H ds vs):Q (.ref p) (xY H p (.tup vs)):=
 q _ α _ (w.newx a) (w.new a) (.val (uE (.of zX) (l.ext (w.newx a))))
abbrev Rho:=List (Option MV)
variable{gf:↑17}{ρ:Rho}{g2:List MV->Rho->Sto->R Rho}
structure Slots(K:Q0)(α:B9)(H:Hp)(ρ:Rho)(σ:St):Prop where
 len:σ.length=ρ.length
 slot: ∀(i:Nat)(d:MV),ρ[i]? =some (some d)-> ∃v,σ[i]? =some (some v)/\Den K α H d v
section
variable{K:Q0}{α α':B9}{H H':Hp}{ρ:Rho}{σ:St}
def Slots.ex0(q:Slots K α H ρ σ)(x:Ex0 α H α' H'):Slots K α' H' ρ σ:=⟨q.len,λi d e=>let ⟨v,h1,a⟩:=q.slot i d e;⟨v,h1,a.ex0 x⟩⟩
def Slots.ext(q:Slots K α H ρ σ)(x:Ext α H α' H'):Slots K α' H' ρ σ:=q.ex0 x.toEx0
theorem Vc{α:Type}{l:List α}{i:Nat}{x y:α}(h:(l.set i x)[j]? =some y):(j=i/\y=x/\i<l.length)\/(j≠i/\l[j]? =some y):=by
 by_cases a:i=j
 .subst a;by_cases b:i<l.length
  .rw[ô b]at h;exact .inl ⟨rfl,(ã h).symm,b⟩
  .rw[đ (by rw[ù];lia)]at h;cases h
 .rw[í a]at h;exact .inr ⟨λz=>a z.symm,h⟩
def Slots.set(q:Slots K α H ρ σ){i:Nat}{d:MV}(h:Den K α H d v):Slots K α H (ρ.set i (some d)) (σ.set i (some v)):=by
 refine⟨by rw[ù,ù];exact q.len,λj e z=>?_⟩;rcases Vc z with⟨rfl,e',hl⟩|⟨hj,e'⟩
 .cases e';exact⟨v,by rw[ô (by rw[q.len];exact hl)],h⟩
 .obtain⟨u,h1,a⟩:=q.slot j e e';exact⟨u,by rw[í (Ne.symm hj)];exact h1,a⟩
end
def Jd(X:Cx)(W:XW)[Dn β τ](P:(St->Hp->(τ->Hp->Prop)->Prop)->Prop)(f:Rho->Sto->R β):Prop:=
 ∃t,P t/\ ∀α ρ S σ H Q,Wd X.g α S H->Slots X.K α H ρ σ->Post X.g W α H (f ρ S) Q->t σ H Q
abbrev zN(X:Cx)(W:XW)(e:Expr)(f:Rho->Sto->R Er):Prop:=Jd X W (PE X e) f
abbrev BV(X:Cx)(W:XW)(e:Expr)(f:Rho->Sto->R Bool):Prop:=Jd X W (PT X e) f
abbrev F3(X:Cx)(W:XW)(e:Expr)(f:Rho->Sto->R Bool):Prop:=Jd X W (PW X e) f
abbrev LY(X:Cx)(W:XW)(es:P0)(f:↑13):Prop:=Jd X W (PA X es) f
abbrev T9(X:Cx)(W:XW)(e:Option Expr)(f:Rho->Sto->R (Option Int)):Prop:=Jd X W (PO X e) f
section
variable{X:Cx}{W:XW}{a b c:Expr}{f g h:Rho->Sto->R Er}{pos:Pos}
noncomputable def Vd:Option (Option MV)->Sto->R Er
 |some (some d),S=>.ok (.val d) S
 |_,_=>.no
def U3(i:Nat){x:Str}(c:X.N[i]? =some x:=by rfl)(e:zDT X.env.scope x:=by first |exact Or.inl rfl|exact Or.inr (Or.inl rfl)|exact Or.inr (Or.inr rfl))(h:↑28=false:=by decide)
  (hcd:(x==("__classdict__":Str))=false:=by decide):zN X W (.Name x pos) (λρ S=>Vd (ρ[i]?) S):=by
 refine⟨_,pv i c e h hcd,λα ρ S σ H Q b sl q=>?_⟩;dsimp only at q
 cases z:ρ[i]? with
 |none=>rw[z]at q;exact q.elim
 |some o=>
  cases o with
  |none=>rw[z]at q;exact q.elim
  |some d=>
   rw[z]at q;obtain⟨v,h1,a⟩:=sl.slot i d z;exact⟨v,h1,Post.val q b a⟩
def U5{i:Int}:zN X W (.Constant (.int i) j pos) (λ_ S=>.ok (.val (.int i)) S):=⟨_,Mm,λα ρ S σ H Q a sl q=>Post.val q a (xZ i)⟩
def zFA{i:Bool}:zN X W (.Constant (.bool i) j pos) (λ_ S=>.ok (.val (.bl i)) S):=⟨_,zDV,λα ρ S σ H Q a sl q=>Post.val q a (nO i)⟩
def U6:zN X W (.Constant .none j pos) (λ_ S=>.ok (.val .non) S):=⟨_,M8,λα ρ S σ H Q a sl q=>Post.val q a KZ⟩
def U7{x:Str}(cs:Db)(b:x=mK cs:=by rfl):zN X W (.Constant (.str x) j pos) (λ_ S=>.ok (.val (.str cs)) S):=
 ⟨_,M9,λα ρ S σ H Q a sl q=>Post.val q a (by rw[b];exact uD cs)⟩
def Ve{x:Str}{i:Int}{t:Tok}(b:Gl X x)(c:X.mg x=some (.int i t))(d:↑28=false:=by decide):zN X W (.Name x pos) (λ_ S=>.ok (.val (.int i)) S):=
 ⟨_,Tv (v:=.int i) b c ⟨t,rfl⟩ d,λα ρ S σ H Q a sl q=>Post.val q a (xZ i)⟩
def XJ{x:Str}{T:String}(b:Gl X x)(d:X.mg x=none)(c:bootBuiltins x=some (.type T))(h:x≠"__name__":=by decide)(e:↑28=false:=by decide):zN X W (.Name x pos) (λ_ S=>.ok (.val (.typ T)) S):=
 ⟨_,Tw (v:=.ty T) b d c rfl h e,λα ρ S σ H Q a sl q=>Post.val q a (El T)⟩
def U8{i:Int}{p3:Pos}:zN X W (.UnaryOp .USub (.Constant (.int i) j p3) pos) (λ_ S=>.ok (.val (.int (-i))) S):=
 ⟨_,zEI Q6 Mm,λα ρ S σ H Q a sl q=>⟨i,rfl,Post.val q a (xZ (-i))⟩⟩
def Eo(X:Cx)(W:XW)(r:R2)(F:Er->Er->Sto->R Er):Prop:= ∀p q x y α S H Q,Wd X.g α S H->DenX X.K α H p x->DenX X.K α H q y->Post X.g W α H (F p q S) Q->r x y H Q
def two{r:R2}{F:Er->Er->Sto->R Er}(m:Eo X W r F){ta tb:TE}(k: ∀α ρ S σ H Q,Wd X.g α S H->Slots X.K α H ρ σ->Post X.g W α H (f ρ S) Q->ta σ H Q)
  (fb: ∀α ρ S σ H Q,Wd X.g α S H->Slots X.K α H ρ σ->Post X.g W α H (g ρ S) Q->tb σ H Q) {α:B9} {ρ:Rho} {S:Sto} {σ:St} {H:Hp} {Q:VK} (wd:Wd X.g α S H) (sl:Slots X.K α H ρ σ)
  (q:Post X.g W α H ((f ρ S).bind λp S1=>(g ρ S1).bind λq S2=>F p q S2) Q):ta σ H λx H1=>tb σ H1 λy b=>r x y b Q:=
 k α ρ S σ H _ wd sl (q.bind λu p S1 a H1 e1 e o i j=>fb a ρ S1 σ H1 _ o (sl.ext e) ((j.shift e).bind λs p2 S2 c b e2 d n v h=>
  m p p2 u s c S2 b Q n (i.1.ext d) v.1 (h.shift d)))
def FG{e:Operator}{r:R2}{F:Er->Er->Sto->R Er}(m:OpR X (binaryOp e) r)(j:Eo X W r F)(c:zN X W a f)(d:zN X W b g):zN X W (.BinOp a e b pos) (λρ S=>(f ρ S).bind λp S1=>(g ρ S1).bind λq S2=>F p q S2):=by obtain⟨ta,c,i⟩:=c;obtain⟨tb,d,k⟩:=d;exact⟨_,E4 m c d,λα ρ S σ H Q h sl q=>two j i k h sl q⟩
def LZ{e:CmpOp}{r:R2}{F:Er->Er->Sto->R Er}(n:OpR X (compareOp e) r)(k:Eo X W r F)(c:zN X W a f)(d:zN X W b g)(j:behindInMarks e b=false:=by first |exact Mv _|with_unfolding_all rfl):
  zN X W (.Compare a [e] [b] pos) (λρ S=>(f ρ S).bind λp S1=>(g ρ S1).bind λq S2=>F p q S2):=by
 obtain⟨ta,c,i⟩:=c;obtain⟨tb,d,m⟩:=d;exact⟨_,Ud n c d j,λα ρ S σ H Q h sl q=>two k i m h sl q⟩
def F4{r:R2}{F:Er->Er->Sto->R Er}(j:IxR X r)(i:Eo X W r F)(c:zN X W a f)(d:zN X W b g)(hs:KY b:=by exact λ_ _=>rfl):
  zN X W (.Subscript a b pos) (λρ S=>(f ρ S).bind λp S1=>(g ρ S1).bind λq S2=>F p q S2):=by
 obtain⟨ta,c,h⟩:=c;obtain⟨tb,d,k⟩:=d;exact⟨_,zES j c d hs,λα ρ S σ H Q e sl q=>two i h k e sl q⟩
noncomputable def hX:Er->Sto->R Bool
 |.val (.bl b),S=>.ok b S
 |_,_=>.no
def Nx{p:Er}{Q:Bool->Hp->Prop}(q:Post X.g W α H (hX p S) Q): ∃k,p=.val (.bl k)/\Post X.g W α H (.ok k S) Q:=by
 unfold hX at q;split at q
 .exact⟨_,rfl,q⟩
 .exact q.elim
def MA[Dn β τ]{p:Er}{k:Bool->Sto->R β}{Q:τ->Hp->Prop}(q:Post X.g W α H ((hX p S).bind k) Q): ∃c,p=.val (.bl c)/\Post X.g W α H (k c S) Q:=by
 unfold hX at q;split at q
 .exact⟨_,rfl,q⟩
 .exact q.elim
def uF{e:CmpOp}{r:R2}{F:Er->Er->Sto->R Er}(y:OpR X (compareOp e) r)(v:Eo X W r F)(c:zN X W a f)(d:zN X W b g)(s:behindInMarks e b=false:=by first |exact Mv _|with_unfolding_all rfl):
  BV X W (.Compare a [e] [b] pos) (λρ S=>((f ρ S).bind λp S1=>(g ρ S1).bind λq S2=>F p q S2).bind hX):=by
 obtain⟨ta,c,o⟩:=c;obtain⟨tb,d,A⟩:=d;refine⟨_,Ue y c d s,λα ρ S σ H Q m sl q=>?_⟩;refine two v o A m sl (q.bind λu p S1 i H1 e1 z w j n=>?_);obtain⟨k,rfl,h⟩:=Nx (n.shift z);exact⟨k,JM j.1,h.here w rfl⟩
def chF(F G:Er->Er->Sto->R Er)(p q:Er)(S:Sto)(k:Sto->R Er):R Er:=(F p q S).bind λz S1=>(hX z S1).bind λc S2=>if c=true then(k S2).bind λr S3=>G q r S3 else .ok (.val (.bl false)) S2
noncomputable def mX:Er->Sto->R Bool
 |.val .non,S=>.ok false S
 |.val (.bl b),S=>.ok b S
 |.val (.int i),S=>.ok (i !=0) S
 |.val (.str x),S=>if x.length<=sizeLine then .ok (!x.isEmpty) S else .no
 |.val (.tup ds),S=>.ok (!ds.isEmpty) S
 |.val (.scr ds),S=>.ok (!ds.isEmpty) S
 |.val (.loc l),S=>match S[l]? with
  |some (.lst ds)=>.ok (!ds.isEmpty) S
  |_=>.no
 |.val (.typ _),_=>.no
 |.val (.obj _ _ _),_=>.no
 |.new ds,S=>.ok (!ds.isEmpty) S
def BW{ds:U0}{K:Q0}(l:DenL K α H ds vs):(!vs.isEmpty)= !ds.isEmpty:=by have:=l.length;cases ds<;>cases vs<;>simp_all
theorem Ny{p:Er}{x:V}{Q:Bool->Hp->Prop}(j:Wd X.g α S H)(d:DenX X.K α H p x)(q:Post X.g W α H (mX p S) Q): ∃k,Q7 X.K x H k/\Q k H:=by
 match p,d,q with
 |.val .non,d,q=>cases Bh d;exact⟨_,rfl,q.here j rfl⟩
 |.val (.bl b),d,q=>cases JM d;exact⟨_,rfl,q.here j rfl⟩
 |.val (.int i),d,q=>cases xP d;exact⟨_,rfl,q.here j rfl⟩
 |.val (.typ n),d,q=>exact q.elim
 |.val (.obj _ _ _),d,q=>exact q.elim
 |.val (.str z),d,q=>
  cases mV d;have e:Post X.g W α H (if z.length<=sizeLine then R.ok _ S else R.no) Q:=q;split at e
  .rename_i w;refine⟨_,⟨by rw[oR];exact w,?_⟩,e.here j rfl⟩;rw[oR]
   cases z with
   |nil=>rfl
   |cons c r=>
    have m:((r.length:Int)+1)≠0:=by lia
    simp[m]
  .exact e.elim
 |.val (.tup ds),d,q=>
  obtain⟨a,vs,rfl,s,l⟩:=mW d;exact⟨_,.inr (.inl ⟨vs,s,(BW l).symm⟩),q.here j rfl⟩
 |.val (.scr ds),d,q=>
  obtain⟨a,vs,rfl,s,l⟩:=TX d;exact⟨_,.inl ⟨vs,s.l,(BW l).symm⟩,q.here j rfl⟩
 |.val (.loc n),d,q=>
  obtain⟨a,rfl,h⟩:=sN d;obtain⟨o,h1,u⟩:=j.of h;have e:Post X.g W α H (match S[n]? with |some (.lst ds)=>R.ok _ S|_=>R.no) Q:=q;rw[h1]at e
  cases o with
  |lst ds=>
   obtain⟨vs,v,l⟩:=u;exact⟨_,.inl ⟨vs,.of v,(BW l).symm⟩,e.here j rfl⟩
  |dic ds=>exact e.elim
  |ins c fs=>exact e.elim
  |rcd c fs=>exact e.elim
  |fdc _=>exact e.elim
 |.new ds,⟨a,vs,ex,s,n,l⟩,q=>subst ex;exact⟨_,.inl ⟨vs,.of s,(BW l).symm⟩,q.here j rfl⟩
def Nz(c:zN X W a f)(i: ∀b,isTrue a X.env b=(do let v <-b;standAt a.pos;holding [v] (truthy v)):=by intro _;rfl):BV X W a (λρ S=>(f ρ S).bind mX):=by obtain⟨ta,c,k⟩:=c;exact⟨_,Mw c i,λα ρ S σ H Q h sl q=>k α ρ S σ H _ h sl (q.bind λu p S1 d H1 e1 n m e j=>Ny m e.1 (j.shift n))⟩
end
section
variable{X:Cx}{W:XW}{a b c:Expr}{es:P0}{f g h:Rho->Sto->R Er}{tf tg:Rho->Sto->R Bool}{pos:Pos}
def Bi(p:Er)(S:Sto)(k:Sto->R Er):R Er:=(hX p S).bind λc S1=>if c=true then k S1 else .ok (.val (.bl false)) S1
def orF(p:Er)(S:Sto)(k:Sto->R Er):R Er:=(hX p S).bind λc S1=>if c=true then .ok (.val (.bl true)) S1 else k S1
def V1{op}(b:zN X W a f):zN X W (.BoolOp op [a] pos) f:=let ⟨t,h,k⟩:=b;⟨t,N4 h,k⟩
def V2(e:zN X W a f)(h:zN X W (.BoolOp .And (b::es) pos) g):zN X W (.BoolOp .And (a::b::es) pos) (λρ S=>(f ρ S).bind λp S1=>Bi p S1 λS2=>g ρ S2):=by
 obtain⟨ta,e,r⟩:=e;obtain⟨tb,h,s⟩:=h;refine⟨_,N5 e h,λα ρ S σ H Q n sl q=>r α ρ S σ H _ n sl (q.bind λu p S1 d H1 e1 j i m o=>?_)⟩;obtain⟨k,rfl,c⟩:=MA (o.shift j);refine⟨k,JM m.1,?_⟩
 cases k with
 |true=>rw[iP rfl]at c ⊢; exact s d ρ S1 σ H1 _ i (sl.ext j) c
 |false=>rw[iN xF0]at c ⊢; exact Post.val c i (nO false)
def zFB(e:zN X W a f)(h:zN X W (.BoolOp .Or (b::es) pos) g):zN X W (.BoolOp .Or (a::b::es) pos) (λρ S=>(f ρ S).bind λp S1=>orF p S1 λS2=>g ρ S2):=by
 obtain⟨ta,e,r⟩:=e;obtain⟨tb,h,s⟩:=h;refine⟨_,zDZ e h,λα ρ S σ H Q n sl q=>r α ρ S σ H _ n sl (q.bind λu p S1 d H1 e1 j i m o=>?_)⟩;obtain⟨k,rfl,c⟩:=MA (o.shift j);refine⟨k,JM m.1,?_⟩
 cases k with
 |true=>rw[iP rfl]at c ⊢; exact Post.val c i (nO true)
 |false=>rw[iN xF0]at c ⊢; exact s d ρ S1 σ H1 _ i (sl.ext j) c
def V3(b:zN X W a f):zN X W (.UnaryOp .Not a pos) (λρ S=>(f ρ S).bind λp S1=>(hX p S1).bind λk S2=>.ok (.val (.bl !k)) S2):=by obtain⟨ta,b,j⟩:=b;refine⟨_,N6 b,λα ρ S σ H Q h sl q=>j α ρ S σ H _ h sl (q.bind λu p S1 d H1 e1 n m e i=>?_)⟩;obtain⟨k,rfl,c⟩:=MA (i.shift n);exact⟨k,JM e.1,Post.val c m (nO _)⟩
def Vf(b:BV X W a tf):F3 X W (.BoolOp .And [a] pos) tf:=let ⟨t,h,k⟩:=b;⟨t,Tx h,k⟩
def V4(b:BV X W a tf):F3 X W (.BoolOp .Or [a] pos) tf:=let ⟨t,h,k⟩:=b;⟨t,N1 h,k⟩
theorem V5(e:BV X W a tf)(h:F3 X W (.BoolOp .And (b::es) pos) tg):F3 X W (.BoolOp .And (a::b::es) pos) (λρ S=>(tf ρ S).bind λk S1=>if k=true then tg ρ S1 else .ok false S1):=by
 obtain⟨ta,e,o⟩:=e;obtain⟨tb,h,r⟩:=h;refine⟨_,N2 e h,λα ρ S σ H Q n sl q=>o α ρ S σ H _ n sl (q.bind λu p S1 d H1 e1 i j m c=>?_)⟩;cases m
 cases u with
 |true=>rw[iP rfl]at c ⊢; exact r d ρ S1 σ H1 _ j (sl.ext i) (c.shift i)
 |false=>rw[iN xF0]at c ⊢; exact(c.shift i).here j rfl
def zFC(e:BV X W a tf)(h:F3 X W (.BoolOp .Or (b::es) pos) tg):F3 X W (.BoolOp .Or (a::b::es) pos) (λρ S=>(tf ρ S).bind λk S1=>if k=true then .ok true S1 else tg ρ S1):=by
 obtain⟨ta,e,o⟩:=e;obtain⟨tb,h,r⟩:=h;refine⟨_,zDW e h,λα ρ S σ H Q n sl q=>o α ρ S σ H _ n sl (q.bind λu p S1 d H1 e1 i j m c=>?_)⟩;cases m
 cases u with
 |true=>rw[iP rfl]at c ⊢; exact(c.shift i).here j rfl
 |false=>rw[iN xF0]at c ⊢; exact r d ρ S1 σ H1 _ j (sl.ext i) (c.shift i)
def zFD(h:F3 X W a tf):BV X W a tf:=let ⟨t,h,k⟩:=h;⟨t,h.pt,k⟩
theorem V6(b:BV X W a tf):BV X W (.UnaryOp .Not a pos) (λρ S=>(tf ρ S).bind λk S1=>.ok (!k) S1):=by obtain⟨ta,b,i⟩:=b;refine⟨_,N3 b,λα ρ S σ H Q e sl q=>i α ρ S σ H _ e sl (q.bind λu p S1 c H1 e1 m j d h=>?_)⟩;cases d;exact(h.shift m).here j rfl
end
section
variable{K:Q0}{H0:Hp}
noncomputable def zO:List Er->Sto->List MV×Sto
 |[],S=>([],S)
 |.val d::rs,S=>((d::(zO rs S).1),(zO rs S).2)
 |.new xs::rs,S=>((.loc S.length::(zO rs (S++[.lst xs])).1),(zO rs (S++[.lst xs])).2)
def ArgsE.grow{H0:Hp}{b:Addr}(q:ArgsE K H0 α H rs vs)(n:b∉JN rs vs):ArgsE K H0 (α++[b]) H rs vs:=by
 induction q with
 |nil=>exact .nil
 |@cons r v rs vs a m l ih=>
  cases r with
  |val d=>exact .cons ⟨Den.ex0 (Ex0.grow α [b] H) a.1,trivial⟩ m (ih (by simpa [JN]using n))
  |new ds=>
   obtain⟨⟨c,us,rfl,h1,i,j⟩,h⟩:=a;have e:=n;refine .cons ⟨⟨c,us,rfl,h1,λz=>?_,j.ex0 (Ex0.grow α [b] H)⟩,h⟩ m (ih λz=>e (mO _ z));rcases æ.mp z with z|z
   .exact i z
   .exact e (by rw[mS.mp z];exact mF0)
theorem AN{g:Gm}{H0:Hp}{i:B9}{H:Hp}: ∀{rs:List Er}{vs:List V}{α:B9}{S:Sto},Wd g α S H->Ext i H0 α H->ArgsE g.K H0 α H rs vs->
  ∃α',Ext i H0 α' H/\Ex0 α H α' H/\Wd g α' (zO rs S).2 H/\DenL g.K α' H (zO rs S).1 vs
 |_,_,α,S,w,x,.nil=>⟨α,x,⟨⟨[],by simp⟩,λ_ _ h=>h,λ_ _ _ h=>h⟩,w,yL⟩
 |.val d::rs,v::vs,α,S,w,x,.cons a n l=>by obtain⟨α',m,b,k,j⟩:=AN w x l;exact⟨α',m,b,k,yH (Den.ex0 b a.1) j⟩
 |.new ds::rs,v::vs,α,S,w,x,.cons a n l=>by
  obtain⟨⟨c,us,rfl,h1,o,q⟩,p⟩:=a;obtain⟨α',m,b,k,j⟩:=AN (w.enter h1 o q) (w.enterx x (p c rfl) o) (l.grow (n ds c rfl rfl));refine⟨α',m,⟨?_,b.tup,b.frz⟩,k,yH (FF (b.at ?_)) j⟩
  .obtain⟨t,e⟩:=b.pre;exact⟨_,by rw[e,aA]⟩
  .rw[<-w.len,î (à _),sub_self];rfl
theorem HR: ∀(rs:List Er)(S:Sto),(zO rs S).1.length=↑4
 |[],S=>rfl
 |.val d::rs,S=>by show(d::(zO rs S).1).length=_;rw[lC,HR rs S];rfl
 |.new ds::rs,S=>by show(_::(zO rs _).1).length=_;rw[lC,HR rs _];rfl
end
section
variable{X:Cx}{W:XW}{a b c e:Expr}{es:P0}{f g h:Rho->Sto->R Er}{af:↑13}{pos:Pos}
def V7:LY X W [] (λ_ S=>.ok [] S):=⟨_,TC,λα ρ S σ H Q a sl q=>q.here a .nil⟩
def Vg(k:zN X W a f)(n:LY X W es af)(hs:q8 X a es:=by rfl):LY X W (a::es) (λρ S=>(f ρ S).bind λp S1=>(af ρ S1).bind λps S2=>.ok (p::ps) S2):=by
 obtain⟨ta,k,E⟩:=k;obtain⟨I,n,G⟩:=n;refine⟨_,KW k n hs,λα ρ S σ H Q B sl q=>E α ρ S σ H _ B sl (q.bind λu p S1 o H1 e1 j F s D=>G o ρ S1 σ H1 _ F (sl.ext j) ?_)⟩;have d:Post X.g W α H _ Q:=D
 cases z:af ρ S1 with
 |ok ps S2=>
  rw[z]at d;intro vs e m i r v;refine d _ e m (j.trans i) r (ArgsE.cons (DenE.ext i s) (λds b C A w=>?_) (ArgsE.back (λb h=>j.free h) v));subst C A;obtain⟨⟨c,us,y,h1,_⟩,_⟩:=s;cases y;have:=ArgsE.nones v _ w;rw[h1]at this;cases this
 |exc c fs S2=>rw[z]at d;exact λe m i r=>d e m (j.trans i) r
 |no=>rw[z]at d;exact d
def wM(rs:List Er)(S:Sto):R Er:=if ↑4<=sizeLine then .ok (.val (.tup (zO rs S).1)) (zO rs S).2 else .no
def kR(rs:List Er)(S:Sto):R Er:=if ↑4<=sizeLine then .ok (.new (zO rs S).1) (zO rs S).2 else .no
def V8{b}(h:LY X W es af):zN X W (.Tuple es b pos) (λρ S=>(af ρ S).bind wM):=by
 obtain⟨t,h,k⟩:=h;refine⟨_,R1 h,λα ρ S σ H Q e sl q=>k α ρ S σ H _ e sl (q.bind λvs rs S1 i H1 e1 b r c m=>?_)⟩;have a:Post X.g W α H (if ↑4<=sizeLine then R.ok _ (zO rs S1).2 else R.no) Q:=m;split at a
 .rename_i u;obtain⟨s,n,v,o,d⟩:=AN r b c;exact⟨by rw[ArgsE.length c];exact u,λp j=>(a.shift n).newt o j d⟩
 .exact a.elim
def V9(h:LY X W es af):zN X W (.List es pos) (λρ S=>(af ρ S).bind kR):=by
 obtain⟨t,h,k⟩:=h;refine⟨_,R3 h,λα ρ S σ H Q d sl q=>k α ρ S σ H _ d sl (q.bind λvs rs S1 e H1 e1 u o b j=>?_)⟩;have a:Post X.g W α H (if ↑4<=sizeLine then R.ok _ (zO rs S1).2 else R.no) Q:=j;split at a
 .rename_i s;obtain⟨r,m,v,n,c⟩:=AN o u b;exact⟨by rw[ArgsE.length b];exact s,λp i=>(a.shift m).newl n i c⟩
 .exact a.elim
inductive ArgsX(K:Q0)(α:B9)(H:Hp):List Er->List V->Prop
 |nil:ArgsX K α H [] []
 |cons {r v rs vs}:DenX K α H r v->ArgsX K α H rs vs->ArgsX K α H (r::rs) (v::vs)
theorem ArgsE.x{K:Q0}: ∀{rs vs},ArgsE K H0 α H rs vs->ArgsX K α H rs vs
 |_,_,.nil=>.nil
 |_,_,.cons a _ l=>.cons a.1 (ArgsE.x l)
def oO(X:Cx)(W:XW)(r:List V->Hp->VK->Prop)(F:List Er->Sto->R Er):Prop:= ∀rs vs α S H Q,Wd X.g α S H->ArgsX X.K α H rs vs->Post X.g W α H (F rs S) Q->r vs H Q
def aG{id:String}{r:List V->Hp->VK->Prop}{F:List Er->Sto->R Er}{x:Str}{p:Pos}(c:CallR X (.builtin id) r)(o:oO X W r F)(j:Gl X x)(n:X.mg x=none)(m:bootBuiltins x=some (.builtin id))(b:LY X W (e::es) af)
  (hn:x≠"__name__":=by decide) (hdb:↑28=false:=by decide)
  (he:q8 X e es:=by rfl) (hpl:q9 X pos es:=by rfl):zN X W (.Call (.Name x p) (e::es) [] pos) (λρ S=>(af ρ S).bind F):=by
 obtain⟨t,b,k⟩:=b;exact⟨_,XA c j n m b hn hdb he hpl,λα ρ S σ H Q h sl q=>k α ρ S σ H _ h sl (q.bind λvs rs S1 a H1 e1 u s d i=>o rs vs a S1 H1 Q s (ArgsE.x d) (i.shift u))⟩
def tL{T:String}{r:List V->Hp->VK->Prop}{F:List Er->Sto->R Er}{x:Str}{p:Pos}(c:CallR X (.type T) r)(o:oO X W r F)(j:Gl X x)(n:X.mg x=none)(m:bootBuiltins x=some (.type T))(b:LY X W (e::es) af)
  (hn:x≠"__name__":=by decide) (hdb:↑28=false:=by decide)
  (he:q8 X e es:=by rfl) (hpl:q9 X pos es:=by rfl):zN X W (.Call (.Name x p) (e::es) [] pos) (λρ S=>(af ρ S).bind F):=by
 obtain⟨t,b,k⟩:=b;exact⟨_,BR c j n m b hn hdb he hpl,λα ρ S σ H Q h sl q=>k α ρ S σ H _ h sl (q.bind λvs rs S1 a H1 e1 u s d i=>o rs vs a S1 H1 Q s (ArgsE.x d) (i.shift u))⟩
def XM(X:Cx)(W:XW)(r:V->List V->Hp->VK->Prop)(F:Er->List Er->Sto->R Er):Prop:= ∀p rs x vs α S H0 H Q a,Wd X.g α S H->Ext a H0 α H->DenX X.K α H p x->ArgsE X.K H0 α H rs vs->Post X.g W a H0 (F p rs S) Q->r x vs H Q
def TyM(X:Cx)(T:String)(a:Er->Sto->Bool):Prop:= ∀p x α S H,Wd X.g α S H->DenX X.K α H p x->a p S=true->zHM X.K T x H
def TZ{T:String}{name:Str}{id:String}{r:V->List V->Hp->VK->Prop}{F:Er->List Er->Sto->R Er}{v:Er->Sto->Bool}{apos:Pos}(C:PlainAttrs T)(c:Slot T name id)(j:typeOf (.builtin id)=pure (.type "method_descriptor"))(E:E8 X id r)(G:XM X W r F)(z:TyM X T v)
  (i:zN X W a f) (d:LY X W (e::es) af)
  (hbase:attributeBase a name X.env (eval a X.env)=eval a X.env:=by rfl)
  (hfew:((backTo pos (starEach (e::es) X.env)).all (λx=>!x.1)&&(backToKw pos (keywordEach [] X.env)).all (λx=>x.1.isSome)
   &&decide ↑10)=true:=by rfl)
  (hline:(apos.endLine==pos.line)=true:=by rfl) (hs:q8 X e es:=by rfl) (hplain:q9 X pos es:=by rfl):
  zN X W (.Call (.Attribute a name apos) (e::es) [] pos) (λρ S=>(f ρ S).bind λp S1=>if v p S1=true then(af ρ S1).bind λrs S2=>F p rs S2 else .no):=by
 obtain⟨to,i,A⟩:=i;obtain⟨t,d,k⟩:=d;refine⟨_,zEX C c j E i d hbase hfew hline hs hplain,λα ρ S σ H Q D sl q=>A α ρ S σ H _ D sl (q.bind λu p S1 b H1 e1 s w n h=>?_)⟩;split at h
 .rename_i J;exact⟨z p u b S1 H1 w n.1 J,k b ρ S1 σ H1 _ w (sl.ext s) ((h.shift s).bind λvs rs S2 m B e2 o I K y=>G p rs u vs m S2 H1 B Q b I o (n.1.ext o) K y)⟩
 .exact h.elim
def Oa{T:String}{name:Str}{id:String}{r:V->List V->Hp->VK->Prop}{F:Er->List Er->Sto->R Er}{j:Er->Sto->Bool}{apos:Pos}(w:PlainAttrs T)(c:Slot T name id)(h:typeOf (.builtin id)=pure (.type "method_descriptor"))(n:E8 X id r)(o:XM X W r F)(s:TyM X T j)
  (e:zN X W a f) (hbase:attributeBase a name X.env (eval a X.env)=eval a X.env:=by rfl) (hline:(apos.endLine==pos.line)=true:=by rfl):
  zN X W (.Call (.Attribute a name apos) [] [] pos) (λρ S=>(f ρ S).bind λp S1=>if j p S1=true then F p [] S1 else .no):=by
 obtain⟨to,e,v⟩:=e;refine⟨_,R9 w c h n e hbase hline,λα ρ S σ H Q m sl q=>v α ρ S σ H _ m sl (q.bind λu p S1 b H1 e1 y k i d=>?_)⟩;split at d
 .rename_i z;exact⟨s p u b S1 H1 k i.1 z,o p [] u [] b S1 H1 H1 Q b k (Ext.refl _ _) i.1 .nil (d.shift y)⟩
 .exact d.elim
def Vh:T9 X W none (λ_ S=>.ok none S):=⟨_,Uo,λα ρ S σ H Q a sl q=>q.here a rfl⟩
noncomputable def Ob:Er->Sto->R (Option Int)
 |.val (.int i),S=>.ok (some i) S
 |_,_=>.no
def Vi(c:zN X W a f):T9 X W (some a) (λρ S=>(f ρ S).bind Ob):=by
 obtain⟨ta,c,i⟩:=c;refine⟨_,Uq c,λα ρ S σ H Q h sl q=>i α ρ S σ H _ h sl (q.bind λu p S1 d H1 e1 k j e b=>?_)⟩;unfold Ob at b;split at b
 .exact⟨_,xP e.1,(b.shift k).here j rfl⟩
 .exact b.elim
def Sl3(X:Cx)(W:XW)(r:V->Option Int->Option Int->Hp->VK->Prop)(F:Er->Option Int->Option Int->Sto->R Er):Prop:= ∀p lo hi x α S H Q,Wd X.g α S H->DenX X.K α H p x->Post X.g W α H (F p lo hi S) Q->r x lo hi H Q
def Oc{lo hi:Option Expr}{r:V->Option Int->Option Int->Hp->VK->Prop}{F:Er->Option Int->Option Int->Sto->R Er}{lf n:Rho->Sto->R (Option Int)}{p2:Pos}(A:SlR X r)(K:Sl3 X W r F)(b:zN X W a f)(j:T9 X W lo lf)(d:T9 X W hi n):
  zN X W (.Subscript a (.Slice lo hi none p2) pos) (λρ S=>(f ρ S).bind λp S1=>(lf ρ S1).bind λl S2=>(n ρ S2).bind λu S3=>F p l u S3):=by
 obtain⟨ta,b,J⟩:=b;obtain⟨tl,j,y⟩:=j;obtain⟨th,d,D⟩:=d
 refine⟨_,Nd A b j d,λα ρ S σ H Q E sl q=>J α ρ S σ H _ E sl (q.bind λu p S1 i H1 e1 h M v G=>y i ρ S1 σ H1 _ M (sl.ext h) ((G.shift h).bind λN l S2 k w e2 c L P s=>
  D k ρ S2 σ w _ L ((sl.ext h).ext c) ((s.shift c).bind λB m S3 e O T o C I z=>?_)))⟩
 cases P;cases I;exact K p N B u e S3 O Q C ((v.1.ext c).ext o) (z.shift o)
end
inductive Fl where
 |next (ρ:Rho)|ret (r:Er)|brk (ρ:Rho)|cont (ρ:Rho)
abbrev AX:=Rho->Sto->R Er
abbrev AY:=Rho->Sto->R Fl
abbrev AZ:=Rho->Sto->R Bool
def PostS(g:Gm)(W:XW)(α:B9)(H:Hp)(D:Ends):R Fl->Prop
 |.ok (.next ρ) S=> ∀σ α' H',Ext α H α' H'->Wd g α' S H'->Slots g.K α' H' ρ σ->D.nx σ H'
 |.ok (.ret r) S=> ∀v α' H',Ext α H α' H'->Wd g α' S H'->DenE g.K H α' H' r v->D.rt v H'
 |.ok (.brk ρ) S=> ∀σ α' H',Ext α H α' H'->Wd g α' S H'->Slots g.K α' H' ρ σ->D.bk σ H'
 |.ok (.cont ρ) S=> ∀σ α' H',Ext α H α' H'->Wd g α' S H'->Slots g.K α' H' ρ σ->D.ct σ H'
 |.exc c fs S=> ∀α' H',Ext α H α' H'->Wd g α' S H'->W c fs S α' H'
 |.no=>False
section
variable{g:Gm}{W:XW}{α α':B9}{H H':Hp}{D D':Ends}
def PostS.shift(x:Ext α H α' H'): ∀{m:R Fl},PostS g W α H D m->PostS g W α' H' D m
 |.ok (.next ρ) S,q=>λσ a d e i j=>q σ a d (x.trans e) i j
 |.ok (.ret r) S,q=>λv a d e i k=>q v a d (x.trans e) i (k.back λb h=>x.free h)
 |.ok (.brk ρ) S,q=>λσ a d e i j=>q σ a d (x.trans e) i j
 |.ok (.cont ρ) S,q=>λσ a d e i j=>q σ a d (x.trans e) i j
 |.exc c fs S,q=>λa d e i=>q a d (x.trans e) i
 |.no,q=>q
def PostS.expr[Dn β τ]{m:R β}{k:β->Sto->R Fl}{e:τ->Hp->Prop}(q:PostS g W α H D (m.bind k))
  (f: ∀u b S1 a H1,m=.ok b S1->Ext α H a H1->Wd g a S1 H1->Dn.d g H a S1 H1 b u->PostS g W α H D (k b S1)->e u H1):Post g W α H m e:=by
 cases m with
 |ok b S=>exact λu a H1 x w d=>f u b S a H1 rfl x w d q
 |exc c fs S=>exact q
 |no=>exact q
def PostS.stmt{m:R Fl}{k:Fl->Sto->R Fl}(q:PostS g W α H D (m.bind k))
  (hn: ∀ρ S σ a H1,m=.ok (.next ρ) S->Ext α H a H1->Wd g a S H1->Slots g.K a H1 ρ σ->PostS g W α H D (k (.next ρ) S)->D'.nx σ H1)
  (hr: ∀r S v a H1,m=.ok (.ret r) S->Ext α H a H1->Wd g a S H1->DenE g.K H a H1 r v->PostS g W α H D (k (.ret r) S)->D'.rt v H1)
  (hb: ∀ρ S σ a H1,m=.ok (.brk ρ) S->Ext α H a H1->Wd g a S H1->Slots g.K a H1 ρ σ->PostS g W α H D (k (.brk ρ) S)->D'.bk σ H1)
  (hc: ∀ρ S σ a H1,m=.ok (.cont ρ) S->Ext α H a H1->Wd g a S H1->Slots g.K a H1 ρ σ->PostS g W α H D (k (.cont ρ) S)->D'.ct σ H1):PostS g W α H D' m:=by
 cases m with
 |ok fl S=>
  cases fl with
  |next ρ=>exact λσ a H1 x w s=>hn ρ S σ a H1 rfl x w s q
  |ret r=>exact λv a H1 x w d=>hr r S v a H1 rfl x w d q
  |brk ρ=>exact λσ a H1 x w s=>hb ρ S σ a H1 rfl x w s q
  |cont ρ=>exact λσ a H1 x w s=>hc ρ S σ a H1 rfl x w s q
 |exc c fs S=>exact q
 |no=>exact q
end
def PX(X:Cx)(W:XW)(st:Stmt)(F:AY):Prop:=
 ∃t,PS X st t/\ ∀α ρ S σ H D,Wd X.g α S H->Slots X.K α H ρ σ->PostS X.g W α H D (F ρ S)->t D σ H
def FH(X:Cx)(W:XW)(st:List Stmt)(F:AY):Prop:=
 ∃t,PSs X st t/\ ∀α ρ S σ H D,Wd X.g α S H->Slots X.K α H ρ σ->PostS X.g W α H D (F ρ S)->t D σ H
noncomputable def zI(F G:AY):AY:=λρ S=>(F ρ S).bind λa S1=>match a with
 |.next ρ'=>G ρ' S1
 |.ret r=>.ok (.ret r) S1
 |.brk ρ'=>.ok (.brk ρ') S1
 |.cont ρ'=>.ok (.cont ρ') S1
section
variable{X:Cx}{W:XW}{st:Stmt}{sts as bs:List Stmt}{F G:AY}{f g:AX}{tf:AZ}{e c:Expr}{pos:Pos}
def W1:FH X W [] (λρ S=>.ok (.next ρ) S):=⟨_,Tz,λα ρ S σ H D a sl q=>q σ α H (Ext.refl α H) a sl⟩
def Bj(h:PX X W st F):FH X W [st] F:=let ⟨t,h,k⟩:=h;⟨t,Ec h,k⟩
def UA(h1:PX X W st F)(k:FH X W sts G):FH X W (st::sts) (zI F G):=by
 obtain⟨t,h1,m⟩:=h1;obtain⟨u,k,p⟩:=k;refine⟨_,Mn h1 k,λα ρ S σ H D o sl q=>m α ρ S σ H _ o sl (q.stmt ?_ ?_ ?_ ?_)⟩
 .intro h S1 b a H1 e i d j c;exact p a h S1 b H1 D d j (PostS.shift i c)
 .intro r S1 v a H1 e i d n c;exact c v a H1 i d n
 .intro h S1 b a H1 e i d j c;exact c b a H1 i d j
 .intro h S1 b a H1 e i d j c;exact c b a H1 i d j
def W2(a:zN X W e f):PX X W (.Return (some e) pos) (λρ S=>(f ρ S).bind λr S1=>.ok (.ret r) S1):=by obtain⟨t,a,k⟩:=a;exact⟨_,N8 a,λα ρ S σ H D d sl q=>k α ρ S σ H _ d sl (q.expr λu r S1 b H1 e j i c h=>h u b H1 j i c)⟩
def Od:PX X W st (λ_ _=>.no):=⟨_,Mo,λα ρ S σ H D a sl q=>q.elim⟩
def Vj(a:zN X W e f)(hs:swapsWith e none pos.line X.env=pure false:=by rfl):PX X W (.Expr e pos) (λρ S=>(f ρ S).bind λ_ S1=>.ok (.next ρ) S1):=by obtain⟨t,a,k⟩:=a;exact⟨_,Ua a hs,λα ρ S σ H D d sl q=>k α ρ S σ H _ d sl (q.expr λu r S1 b H1 e c i j h=>h σ b H1 c i (sl.ext c))⟩
def zFE(h:BV X W c tf)(i:FH X W as F)(j:FH X W bs G):PX X W (.If c as bs pos) (λρ S=>(tf ρ S).bind λk S1=>if k=true then F ρ S1 else G ρ S1):=by
 obtain⟨w,h,s⟩:=h;obtain⟨ta,i,v⟩:=i;obtain⟨tb,j,r⟩:=j;refine⟨_,zEC h i j,λα ρ S σ H D o sl q=>s α ρ S σ H _ o sl (q.expr λu p S1 a H1 e d m n b=>?_)⟩;cases n
 cases u with
 |true=>rw[iP rfl]at b ⊢; exact v a ρ S1 σ H1 D m (sl.ext d) (PostS.shift d b)
 |false=>rw[iN xF0]at b ⊢; exact r a ρ S1 σ H1 D m (sl.ext d) (PostS.shift d b)
instance:Dn Rho St:=⟨λg _ α' _ H' ρ σ=>Slots g.K α' H' ρ σ,λ_ q=>q⟩
def Oe(X:Cx)(W:XW)(tg:Expr)(gf:↑17):Prop:=
 ∃t,PG X tg t/\ ∀α ρ S σ H d v Q,Wd X.g α S H->Slots X.K α H ρ σ->Den X.K α H d v->Post X.g W α H (gf d ρ S) Q->t v σ H Q
def Of(X:Cx)(W:XW)(a:P0)(gf:List MV->Rho->Sto->R Rho):Prop:=
 ∃t,zDJ X a t/\ ∀α ρ S σ H ds vs Q,Wd X.g α S H->Slots X.K α H ρ σ->DenL X.K α H ds vs->Post X.g W α H (gf ds ρ S) Q->t vs σ H Q
noncomputable def zY(i:Nat):MV->Rho->Sto->R Rho:=λd ρ S=>.ok (ρ.set i (some d)) S
def Vk(i:Nat){x:Str}(b:X.N.Nodup)(hi:X.N[i]? =some x:=by rfl)(e:Loc X.env.scope x:=by first |exact Or.inl rfl|exact Or.inr rfl)(h:Q2 X x:=by first |exact .inl rfl|exact .inr rfl|assumption):
  Oe X W (.Name x pos) (zY i):=⟨_,Ed b hi e h,λα ρ S σ H d v Q a sl c q=>Post.here q a (sl.set c)⟩
def gA:List MV->Rho->Sto->R Rho
 |[],ρ,S=>.ok ρ S
 |_,_,_=>.no
noncomputable def zR(b:↑17)(g2:List MV->Rho->Sto->R Rho):List MV->Rho->Sto->R Rho
 |d::ds,ρ,S=>(b d ρ S).bind λa S1=>g2 ds a S1
 |_,_,_=>.no
def W3:Of X W [] gA:=⟨_,Ee,λα ρ S σ H ds vs Q a sl b q=>by
 cases ds with
 |nil=>exact⟨b.isnil,Post.here q a sl⟩
 |cons d ds=>exact q.elim⟩
def Vm{i:↑17}(h1:Oe X W e i)(b:Of X W es g2)(hs:(assignEach (e::es) X.env).map (·.2)=assign e X.env::(assignEach es X.env).map (·.2):=by rfl):Of X W (e::es) (zR i g2):=by
 obtain⟨y,h1,m⟩:=h1;obtain⟨z,b,k⟩:=b;refine⟨_,WX h1 b hs,λα ρ S σ H ds vs Q n sl w q=>?_⟩
 cases ds with
 |nil=>exact q.elim
 |cons d ds=>
  obtain⟨v,r,rfl,a,l⟩:=w.uncons;refine⟨v,r,rfl,m α ρ S σ H d v _ n sl a (Post.bind q λu p S1 c H1 e h s j o=>k c p S1 u H1 ds r Q s j (l.ext h) (o.shift h))⟩
noncomputable def HM(n:Nat)(g2:List MV->Rho->Sto->R Rho):MV->Rho->Sto->R Rho
 |.tup ds,ρ,S=>if ds.length=n then g2 ds ρ S else .no
 |_,_,_=>.no
def W4{k n:Nat}(b:X.calm=true)(h:Of X W es g2)
  (hn:(assignEach es X.env).length=n:=by rfl) (hst:(assignEach es X.env).findIdx? (·.1)=none:=by rfl):Oe X W (.Tuple es k pos) (HM n g2):=by
 obtain⟨t,h,k⟩:=h;refine⟨_,Mq b h hn hst,λα ρ S σ H d v Q c sl e q=>?_⟩;unfold HM at q;split at q
 .split at q
  .rename_i i;obtain⟨a,vs,rfl,s,l⟩:=xC e;exact⟨a,vs,rfl,s,by rw[l.length];exact i,k α ρ S σ H _ vs Q c sl l q⟩
  .exact q.elim
 .exact q.elim
noncomputable def wI(r:Er)(S:Sto):R MV:=match r with
 |.val d=>.ok d S
 |.new ds=>.ok (.loc S.length) (S++[.lst ds])
def pR{g:Gm}{a:B9}{r:Er}(w:Wd g α S H)(x:Ext a H0 α H)(d:DenE g.K H0 α H r v):
  ∃b S' α',wI r S=.ok b S'/\Ext a H0 α' H/\Ex0 α H α' H/\Wd g α' S' H/\Den g.K α' H b v:=by
 cases r with
 |val b=>exact⟨b,S,α,rfl,x,⟨⟨[],by simp⟩,λ_ _ h=>h,λ_ _ _ h=>h⟩,w,d.1⟩
 |new ds=>
  obtain⟨⟨c,us,rfl,h1,e,j⟩,i⟩:=d;exact⟨_,_,_,rfl,w.enterx x (i c rfl) e,Ex0.grow α [c] H,w.enter h1 e j,FF (by rw[<-w.len,î (à _),sub_self];rfl)⟩
def MB(ρ:Rho)(i:Nat)(r:Er)(S:Sto):R Fl:=(wI r S).bind λd S1=>.ok (.next (ρ.set i (some d))) S1
def W6(i:Nat){x:Str}{pos':Pos}(m:X.N.Nodup)(a:zN X W e f)(hi:X.N[i]? =some x:=by rfl)(o:Loc X.env.scope x:=by first |exact Or.inl rfl|exact Or.inr rfl)
  (hs:swapsWith e (some (.Name x pos')) pos.line X.env=pure false:=by rfl) (hf:Q2 X x:=by first |exact .inl rfl|exact .inr rfl|assumption):
  PX X W (.Assign [.Name x pos'] e pos) (λρ S=>(f ρ S).bind (MB ρ i)):=by
 obtain⟨t,a,k⟩:=a;refine⟨_,O6 m hi o a hs hf,λα ρ S σ H D h sl q=>k α ρ S σ H _ h sl (q.expr λu r S1 j H1 e c p d b=>?_)⟩;obtain⟨y,S',α',e1,s,w,n,v⟩:=pR p c d;unfold MB at b;rw[e1]at b;exact b _ α' H1 s n (((sl.ext c).ex0 w).set v)
def XN(gf:↑17)(ρ:Rho)(r:Er)(S:Sto):R Fl:=(wI r S).bind λd S1=>(gf d ρ S1).bind λρ' S2=>.ok (.next ρ') S2
def W8(b:zN X W e f)(d:Oe X W tg gf)(hs:swapsWithSole [tg] e pos.line X.env=pure false:=by rfl)(hw:swappedStores [tg] e X.env=pure none:=by rfl)
  (h1:(assignEach [tg] X.env).map (·.2)=[assign tg X.env]:=by rfl):PX X W (.Assign [tg] e pos) (λρ S=>(f ρ S).bind (XN gf ρ)):=by
 obtain⟨t,b,k⟩:=b;obtain⟨w,d,z⟩:=d;refine⟨_,O5 b d hs hw h1,λα ρ S σ H D A sl q=>k α ρ S σ H _ A sl (q.expr λu r S1 B H1 e i E n a=>?_)⟩;obtain⟨j,S',α',e1,F,I,s,G⟩:=pR E i n;unfold XN at a;rw[e1]at a;have a:PostS X.g W α H D ((gf j ρ S').bind λρ' S2=>.ok _ S2):=a;exact z α' ρ S' σ H1 j u _ s ((sl.ext i).ex0 I) G ((PostS.shift F a).expr λc o S2 h y e2 p C v m=>m c h y p C v)
structure Wk where
 ds:List MV
 gs:List (Nat×List MV)
def stay(gs:Z0)(S:Sto):Prop:= ∀p∈gs,S[p.1]? =some (.lst p.2)
def zDL(g:Gm)(J:It)(P:List Addr->Sto->Hp->Prop)(ds:U0):Prop:= ∀i α S H,P α S H->Wd g α S H->(i<↑23->J.go i H/\ ∀x H',J.yld i H x H'->Ext α H α H'/\Wd g α S H'/\P α S H'/\ ∃d,ds[i]? =some d/\Den g.K α H' d x)/\(↑23<=i->J.stop i H)
structure WkD(g:Gm)(α:B9)(S:Sto)(H:Hp)(k:Wk)(J:It)(P:List Addr->Sto->Hp->Prop):Prop where
 it:zDL g J P k.ds
 here:P α S H
 stays: ∀α1 S1 H1 α2 S2 H2,P α1 S1 H1->Ext α1 H1 α2 H2->Wd g α2 S2 H2->stay k.gs S2->P α2 S2 H2
 st:stay k.gs S
instance:Dn Wk It:=⟨λg _ α S H k J=> ∃P,WkD g α S H k J P,λ_ q=>q⟩
abbrev UB(X:Cx)(W:XW)(tg iter:Expr)(f:Rho->Sto->R Wk):Prop:=Jd X W (PI X tg iter) f
variable{tg iter:Expr}
theorem MC{a:Addr}{ds:U0}:zDL X.g (Itl X.K a) (λα S H=> ∃vs,SqL X.K H a vs/\DenL X.K α H ds vs) ds:=by
 intro i α S H ⟨vs,s,l⟩ w;have e:=l.length;refine⟨λhi=>?_,λhi=>⟨vs,s,by lia⟩⟩;have c:i<vs.length:=by lia
 refine⟨⟨vs,_,s,gE c⟩,λx H' y=>?_⟩;obtain⟨rfl,y⟩:=y;obtain⟨d,h1,b⟩:=l.get (y vs s);exact⟨Ext.refl _ _,w,⟨vs,s,l⟩,d,h1,b⟩
theorem Vn{a:Addr}{ds:U0}:zDL X.g (Itt X.K a) (λα S H=> ∃vs,SqT X.K H a vs/\DenL X.K α H ds vs) ds:=by
 intro i α S H ⟨vs,s,l⟩ w;have e:=l.length;refine⟨λhi=>?_,λhi=>⟨vs,s,by lia⟩⟩;have c:i<vs.length:=by lia
 refine⟨⟨vs,_,s,gE c⟩,λx H' y=>?_⟩;obtain⟨rfl,y⟩:=y;obtain⟨d,h1,b⟩:=l.get (y vs s);exact⟨Ext.refl _ _,w,⟨vs,s,l⟩,d,h1,b⟩
def Jj{lo:Int}{n:Nat}:zDL X.g (zHK lo n) (λ_ _ _=>True) ((List.range n).map λk=>.int (lo+(k:Nat))):=by
 intro i α S H _ w;refine⟨λhi=>⟨show i<n by simpa using hi,λv H' y=>?_⟩,λhi=>by show n<=i;simpa using hi⟩;obtain⟨rfl,y⟩:=y;have a:=by simpa using hi
 refine⟨Ext.refl _ _,w,trivial,_,by rw[ð,getElem?_range a];rfl,?_⟩;rw[y];exact xZ _
noncomputable def AA:Er->Sto->R Wk
 |.new ds,S=>.ok ⟨ds,[]⟩ S
 |.val (.scr ds),S=>.ok ⟨ds,[]⟩ S
 |.val (.loc l),S=>match S[l]? with
  |some (.lst ds)=>.ok ⟨ds,[(l,ds)]⟩ S
  |_=>.no
 |_,_=>.no
def gU:stay [] S:=λp h=>by simp at h
def Vo(T:zN X W iter f):UB X W tg iter (λρ S=>(f ρ S).bind AA):=by
 obtain⟨t,T,k⟩:=T;refine⟨_,Ub T,λα ρ S σ H Rc wd sl q=>k α ρ S σ H _ wd sl (q.bind λu p S1 aa H1 e x1 L O v=>?_)⟩
 replace v:=v.shift x1
 unfold AA at v;split at v
 .rename_i S0 ds;obtain⟨⟨b,vs,rfl,h1,N,M⟩,h4⟩:=O;refine⟨b,rfl,⟨vs,.of h1⟩,v.here L ⟨λd S2 m=> ∃vs,SqL X.K m b vs/\DenL X.K d m ds vs/\m b=some (.lst vs)/\b∉d,?_,⟨vs,.of h1,M,h1,N⟩,?_,gU⟩⟩
  .intro i d S2 m ⟨j,z,w,r,G⟩ F;obtain⟨A,J⟩:=MC i d S2 m ⟨j,z,w⟩ F;refine⟨λhi=>⟨(A hi).1,λx H' y=>?_⟩,J⟩;obtain⟨D,B,U,I⟩:=(A hi).2 x H' y;obtain⟨rfl,_⟩:=y;exact⟨D,B,⟨j,z,w,r,G⟩,I⟩
  .intro d S2 m C S3 Y ⟨j,z,w,r,G⟩ x Q _;exact⟨j,.of (x.keep b _ r G),w.ext x,x.keep b _ r G,x.out r G⟩
 .rename_i S0 ds;obtain⟨a,vs,rfl,s,l⟩:=TX O.1;refine⟨a,rfl,⟨vs,s.l⟩,v.here L ⟨λd S2 m=> ∃vs,SqL X.K m a vs/\DenL X.K d m ds vs/\SqF X.K m a vs,?_,⟨vs,s.l,l,s⟩,?_,gU⟩⟩
  .intro i d S2 m ⟨j,z,w,r⟩ F;obtain⟨A,J⟩:=MC i d S2 m ⟨j,z,w⟩ F;refine⟨λhi=>⟨(A hi).1,λx H' y=>?_⟩,J⟩;obtain⟨D,B,U,I⟩:=(A hi).2 x H' y;obtain⟨rfl,_⟩:=y;exact⟨D,B,⟨j,z,w,r⟩,I⟩
  .intro d S2 m C S3 Y ⟨j,z,w,r⟩ x Q _;exact⟨j,(x.sqF r).l,w.ext x,x.sqF r⟩
 .rename_i S0 n;obtain⟨a,rfl,h⟩:=sN O.1;obtain⟨o,h1,N⟩:=L.of h;rw[h1]at v
  cases o with
  |lst ds=>
   obtain⟨vs,M,l⟩:=N;refine⟨a,rfl,⟨vs,.of M⟩,Post.here v L ⟨λd S2 m=> ∃vs,SqL X.K m a vs/\DenL X.K d m ds vs/\d[n]? =some a,?_,⟨vs,.of M,l,h⟩,?_,?_⟩⟩
   .intro i d S2 m ⟨j,z,w,r⟩ F;obtain⟨A,J⟩:=MC i d S2 m ⟨j,z,w⟩ F;refine⟨λhi=>⟨(A hi).1,λx H' y=>?_⟩,J⟩;obtain⟨D,B,U,I⟩:=(A hi).2 x H' y;obtain⟨rfl,_⟩:=y;exact⟨D,B,⟨j,z,w,r⟩,I⟩
   .intro d S2 m C S3 Y ⟨j,z,w,r⟩ x Q hs;have E:=x.at r;have:=Q.obj n a _ E (hs (n,ds) (by simp));obtain⟨P,b1,Z⟩:=this;exact⟨P,.of b1,Z,E⟩
   .intro p hp;have:p=(n,ds):=by simpa using hp
    subst this;exact h1
  |dic ds=>exact v.elim
  |ins c fs=>exact v.elim
  |rcd c fs=>exact v.elim
  |fdc _=>exact v.elim
 .exact v.elim
noncomputable def XO:Er->Sto->R Wk
 |.val (.tup ds),S=>.ok ⟨ds,[]⟩ S
 |_,_=>.no
def W9(c:zN X W iter f):UB X W tg iter (λρ S=>(f ρ S).bind XO):=by
 obtain⟨t,c,k⟩:=c;refine⟨_,O9 c,λα ρ S σ H B n sl q=>k α ρ S σ H _ n sl (q.bind λu p S1 o H1 e m v h b=>?_)⟩
 replace b:=b.shift m
 unfold XO at b;split at b
 .rename_i S0 ds;obtain⟨a,vs,rfl,s,l⟩:=mW h.1;exact⟨a,rfl,⟨vs,s⟩,b.here v ⟨_,Vn,⟨vs,s,l⟩,λw S2 y j S3 A ⟨d,i,r⟩ x z _=>⟨d,x.sqT i,r.ext x⟩,gU⟩⟩
 .exact b.elim
noncomputable def cR:List Er->Sto->R Wk
 |[.val (.int j)],S=>if -(2 ^ 62)<=j/\j<2 ^ 62 then .ok ⟨(List.range j.toNat).map λk=>.int (k:Nat),[]⟩ S else .no
 |_,_=>.no
variable{af:↑13}{p:Pos}{a b:Expr}
def MD{K:Q0}{r:Er}(d:ArgsE K H0 α H [r] vs): ∃v,vs=[v]/\DenX K α H r v:=by
 cases d with
 |cons a n l=>cases l;exact⟨_,rfl,a.1⟩
def zFF{K:Q0}{r b:Er}(d:ArgsE K H0 α H [r,b] vs): ∃v u,vs=[v,u]/\DenX K α H r v/\DenX K α H b u:=by
 cases d with
 |cons a n l=>obtain⟨u,rfl,c⟩:=MD l;exact⟨_,u,rfl,a.1,c⟩
def Jk(o:Gl X "range")(r:X.mg "range"=none)(c:LY X W [a] af)(hs:starEach [a] X.env=[(false,eval a X.env)]:=by rfl):UB X W tg (.Call (.Name "range" p) [a] [] pos) (λρ S=>(af ρ S).bind cR):=by
 obtain⟨t,c,k⟩:=c;refine⟨_,Im o r c hs,λα ρ S σ H y i sl q=>k α ρ S σ H _ i sl (q.bind λvs rs S1 m H1 e u s h b=>?_)⟩
 replace b:=b.shift u
 unfold cR at b;split at b
 .split at b
  .rename_i S0 j d;obtain⟨v,rfl,w⟩:=MD h;cases xP w;have:=Jj (X:=X) (lo:=0) (n:=j.toNat);simp only[Int.zero_add]at this;exact⟨j,rfl,d.1,d.2,b.here s ⟨_,this,trivial,λ_ _ _ _ _ _ _ _ _ _=>trivial,gU⟩⟩
  .exact b.elim
 .exact b.elim
open Classical in
noncomputable def cF(gf:↑17)(body:AY)(gs:Z0):List MV->AY
 |[],ρ,S=>.ok (.next ρ) S
 |d::ds,ρ,S=>(gf d ρ S).bind λa S0=>(body a S0).bind λb S1=>match b with
  |.next ρ'=>if stay gs S1 then cF gf body gs ds ρ' S1 else .no
  |.cont ρ'=>if stay gs S1 then cF gf body gs ds ρ' S1 else .no
  |.brk ρ'=>.ok (.next ρ') S1
  |.ret r=>.ok (.ret r) S1
open Classical in
def X1{Y:Rho->Sto->R Wk}(hp:PassesOwn ↑6 X.A X.env X.xe)(hc:X.calm=true)(hi:UB X W tg iter Y)(hg:Oe X W tg gf)(hb:FH X W as F)
  (hs: ∀y,foldedSetIterable iter X.env y=pure y:=by intro _;rfl):PX X W (.For tg iter as [] pos) (λρ S=>(Y ρ S).bind λk S1=>cF gf F k.gs k.ds ρ S1):=by
 obtain⟨wi,hi,ki⟩:=hi;obtain⟨ag,hg,kg⟩:=hg;obtain⟨tb,hb,kb⟩:=hb;refine⟨_,P2 hp hc hi hg hb hs,λα ρ S σ H D wd sl q=>ki α ρ S σ H _ wd sl (q.expr λJ k S1 ab H1 e x1 w1 d1 q1=>?_)⟩;obtain⟨P,hP⟩:=d1;have af:=sl.ext x1
 replace q1:=PostS.shift x1 q1
 refine⟨λn m u I=>m=k.ds.length - n/\n<=k.ds.length/\ ∃b B S2,Wd X.g b S2 I/\Slots X.K b I B u/\P b S2 I/\PostS X.g W b I D (cF gf F k.gs (k.ds.drop n) B S2),⟨_,rfl,zero_le _,ab,ρ,S1,w1,af,hP.here,by simpa using q1⟩,?_⟩;rintro n m u I ⟨rfl,hn,b,B,S2,w2,T,p2,G⟩;obtain⟨i1,i2⟩:=hP.it n b S2 I p2 w2;by_cases C:n<k.ds.length
 .obtain⟨go,yl⟩:=i1 C;refine .inr ⟨go,λU E=> ∃i s S3,Wd X.g i S3 E/\Slots X.K i E s U/\P i S3 E/\PostS X.g W i E D (cF gf F k.gs (k.ds.drop (n+1)) s S3),λU E ⟨i,s,S3,h3⟩=>⟨k.ds.length - (n+1),by omega,rfl,C,i,s,S3,h3⟩,λv E y=>?_⟩;obtain⟨x3,w3,p3,d,hd,dv⟩:=yl v E y;have N:k.ds.drop n=d::k.ds.drop (n+1):=by rw[List.drop_eq_getElem_cons C];have:=gE C;rw[hd]at this;rw[<-ã this]
  rw[N]at G;unfold cF at G
  replace G:=PostS.shift x3 G
  refine kg b B S2 u E d v _ w3 (T.ext x3) dv (G.expr λaa ae S4 z Z e4 x4 w4 s4 q4=>?_);have p4: ∀a c H5,Ext z Z a H5->Wd X.g a c H5->stay k.gs c->P a c H5:=λa c H5 o p M=>hP.stays b S2 E a c H5 p3 (x4.trans o) p M;refine kb z ae S4 aa Z _ w4 s4 ((PostS.shift x4 q4).stmt ?_ ?_ ?_ ?_)
  .intro j c O a H5 e5 o p M L;have h:PostS X.g W z Z D (if stay k.gs c then cF gf F k.gs (k.ds.drop (n+1)) j c else .no):=L;split at h
   .rename_i Q;exact⟨a,j,c,p,M,p4 a c H5 o p Q,PostS.shift o h⟩
   .exact h.elim
  .intro r c v5 a H5 e5 o p d5 L;exact L v5 a H5 o p d5
  .intro j c O a H5 e5 o p M L;exact L O a H5 o p M
  .intro j c O a H5 e5 o p M L;have h:PostS X.g W z Z D (if stay k.gs c then cF gf F k.gs (k.ds.drop (n+1)) j c else .no):=L;split at h
   .rename_i Q;exact⟨a,j,c,p,M,p4 a c H5 o p Q,PostS.shift o h⟩
   .exact h.elim
 .have e:n=k.ds.length:=by omega
  subst e;refine .inl ⟨i2 (à _),?_⟩;rw[drop_length]at G;exact G u b I (Ext.refl _ _) w2 T
noncomputable def pX(t:AZ)(b:AY):Nat->AY
 |0,_,_=>.no
 |n+1,ρ,S=>(t ρ S).bind λk S1=>if k=true then(b ρ S1).bind λa S2=>match a with
   |.next ρ'=>pX t b n ρ' S2
   |.cont ρ'=>pX t b n ρ' S2
   |.brk ρ'=>.ok (.next ρ') S2
   |.ret r=>.ok (.ret r) S2
  else .ok (.next ρ) S1
def Og(N:Nat)(hp:PassesOwn ↑6 X.A X.env X.xe)(I:BV X W c tf)(G:FH X W as F):PX X W (.While c as [] pos) (λρ S=>pX tf F N ρ S):=by
 obtain⟨tc,I,U⟩:=I;obtain⟨tb,G,Q⟩:=G;refine⟨_,Ms hp I G,λα ρ S σ H D wd sl q=>⟨λm e H1=> ∃d b S1,Wd X.g d S1 H1/\Slots X.K d H1 b e/\PostS X.g W d H1 D (pX tf F m b S1),⟨N,α,ρ,S,wd,sl,q⟩,?_⟩⟩;rintro m e H1 ⟨d,b,S1,w1,j,M⟩
 cases m with
 |zero=>exact M.elim
 |succ n=>
  refine U d b S1 e H1 _ w1 j (M.expr λu p S2 C L e2 E O d2 y=>?_);cases d2
  replace y:=PostS.shift E y
  cases u with
  |false=>rw[iN xF0]at y ⊢; exact y e C L (Ext.refl _ _) O (j.ext E)
  |true=>
   refine⟨λT H3=> ∃Z P S3,_,λaa H' h=>⟨n,ė n,h⟩,Q C b S2 e L _ O (j.ext E) (y.stmt ?_ ?_ ?_ ?_)⟩
   .intro i B k a H5 J o v z s;exact⟨a,i,B,v,z,PostS.shift o s⟩
   .intro r B Y a H5 J o v d5 s;exact s Y a H5 o v d5
   .intro i B k a H5 J o v z s;exact s k a H5 o v z
   .intro i B k a H5 J o v z s;exact⟨a,i,B,v,z,PostS.shift o s⟩
end
noncomputable def noX:R β->R β
 |.ok b S=>.ok b S
 |_=>.no
theorem yC(b:β)(S:Sto):noX (R.ok b S)=.ok b S:=rfl
def Post.bindY{υ:Type}[Dn β τ][Dn γ υ]{g:Gm}{W:XW}(x:Ext α H α' H'){m:R β}{k:β->Sto->R γ}{Q:υ->Hp->Prop}{e:τ->Hp->Prop}(q:Post g W α H ((noX m).bind k) Q)
  (f: ∀u b S1 a H1,m=.ok b S1->Ext α' H' a H1->Wd g a S1 H1->Dn.d g H' a S1 H1 b u->Post g W α H (k b S1) Q->e u H1):Post g W0 α' H' m e:=by
 cases m with
 |ok b S=>exact λu a H1 x w d=>f u b S a H1 rfl x w d q
 |exc c fs S=>exact q.elim
 |no=>exact q
theorem R.bind_assoc{d:Type}(m:R β)(a:β->Sto->R γ)(c:γ->Sto->R d):(m.bind a).bind c=m.bind λb S=>(a b S).bind c:=by cases m<;>rfl
noncomputable def AB(nt:Nat)(idx:Db)(ρ:Rho):Rho:=List.replicate nt none++idx.map λi=>(ρ[i]?).join
open Classical in
def zV(gf:↑17)(cf:AZ)(ef:AX)(ρb:Rho)(gs:Z0):List MV->Sto->R (List MV)
 |[],S=>.ok [] S
 |d::ds,S=>(noX (gf d ρb S)).bind λa S0=>(noX (cf a S0)).bind λk S1=>
  if k=true then(noX (ef a S1)).bind λr S2=>(wI r S2).bind λy S3=>if stay gs S3 then(zV gf cf ef ρb gs ds S3).bind λout b=>.ok (y::out) b else .no
  else if stay gs S1 then zV gf cf ef ρb gs ds S1 else .no
theorem Jl{K:Q0}(q:Slots K α H ρ σ)(nt:Nat)(idx:Db)(τ:St)(a:τ.length=nt):Slots K α H (AB nt idx ρ) (τ++HQ σ idx):=by
 refine⟨by unfold AB;rw[lA,lA,rE,lM,Ĕ,a],λi d e=>?_⟩;unfold AB at e;by_cases hi:i<nt
 .rw[ç (by rw[Ĕ];exact hi),List.getElem?_replicate]at e;split at e<;>cases e
 .rw[î (by rw[Ĕ];lia),Ĕ,ð]at e
  cases z:idx[i - nt]? with
  |none=>rw[z]at e;cases e
  |some k=>
   rw[z]at e;have e2:(ρ[k]?).join=some d:=ã e
   cases b:ρ[k]? with
   |none=>rw[b]at e2;cases e2
   |some o=>
    rw[b]at e2;have h:=e2;subst h;obtain⟨v,h1,c⟩:=q.slot k d b;refine⟨v,?_,c⟩;rw[î #[0],a];unfold HQ;rw[ð,z];show some (σ[k]?).join=some _;rw[h1];rfl
def Keeps(nt:Nat)(σ:St)(Q:St->Hp->Prop):St->Hp->Prop:=λa H'=>a.length=σ.length->(∀j,nt<=j->a[j]? =σ[j]?)->Q a H'
def Oh(nt:Nat)(X:Cx)(W:XW)(tg:Expr)(gf:↑17):Prop:=
 ∃t,PG X tg t/\ ∀α ρ S σ H d v Q,Wd X.g α S H->Slots X.K α H ρ σ->Den X.K α H d v->Post X.g W α H (gf d ρ S) (Keeps nt σ Q)->t v σ H Q
def Oi(nt:Nat)(X:Cx)(W:XW)(a:P0)(gf:List MV->Rho->Sto->R Rho):Prop:=
 ∃t,zDJ X a t/\ ∀α ρ S σ H ds vs Q,Wd X.g α S H->Slots X.K α H ρ σ->DenL X.K α H ds vs->Post X.g W α H (gf ds ρ S) (Keeps nt σ Q)->t vs σ H Q
section
variable{X:Cx}{W:XW}{e:Expr}{pos:Pos}{nt:Nat}
theorem Vq(i:Nat){x:Str}(b:X.N.Nodup)(hi:X.N[i]? =some x:=by rfl)(c:Loc X.env.scope x:=by first |exact Or.inl rfl|exact Or.inr rfl)(k:Q2 X x:=by first |exact .inl rfl|exact .inr rfl|assumption)(e:i<nt:=by decide):
  Oh nt X W (.Name x pos) (zY i):=⟨_,Ed b hi c k,λα ρ S σ H d v Q a sl h q=>Post.here q a (sl.set h) (by rw[ù]) λj m=>by rw[í #[0]]⟩
def X2:Oi nt X W [] gA:=⟨_,Ee,λα ρ S σ H ds vs Q a sl b q=>by
 cases ds with
 |nil=>exact⟨b.isnil,Post.here q a sl rfl λ_ _=>rfl⟩
 |cons d ds=>exact q.elim⟩
def Post.keeps{g:Gm}{W:XW}{m:R Rho}{a:St}{Q:St->Hp->Prop}(h1:a.length=σ.length)(k: ∀j,nt<=j->a[j]? =σ[j]?)(q:Post g W α H m (Keeps nt σ Q)):Post g W α H m (Keeps nt a Q):=by
 cases m with
 |ok b S=>exact λu e H1 x w d i n=>q u e H1 x w d (i.trans h1) λj h=>(n j h).trans (k j h)
 |exc c fs S=>exact q
 |no=>exact q
def Vr{k:↑17}(h1:Oh nt X W e k)(b:Oi nt X W es g2)(hs:(assignEach (e::es) X.env).map (·.2)=assign e X.env::(assignEach es X.env).map (·.2):=by rfl):Oi nt X W (e::es) (zR k g2):=by
 obtain⟨z,h1,h⟩:=h1;obtain⟨A,b,n⟩:=b;refine⟨_,WX h1 b hs,λα ρ S σ H ds vs Q o sl y q=>?_⟩
 cases ds with
 |nil=>exact q.elim
 |cons d ds=>
  obtain⟨v,r,rfl,a,l⟩:=y.uncons;refine⟨v,r,rfl,h α ρ S σ H d v _ o sl a (Post.bind q λu p S1 i H1 e j w m s h c=>n i p S1 u H1 ds r Q w m (l.ext j) (Post.keeps h c (s.shift j)))⟩
def X3{k n:Nat}(b:X.calm=true)(h:Oi nt X W es g2)
  (hn:(assignEach es X.env).length=n:=by rfl) (hst:(assignEach es X.env).findIdx? (·.1)=none:=by rfl):Oh nt X W (.Tuple es k pos) (HM n g2):=by
 obtain⟨t,h,k⟩:=h;refine⟨_,Mq b h hn hst,λα ρ S σ H d v Q c sl e q=>?_⟩;unfold HM at q;split at q
 .split at q
  .rename_i i;obtain⟨a,vs,rfl,s,l⟩:=xC e;exact⟨a,vs,rfl,s,by rw[l.length];exact i,k α ρ S σ H _ vs Q c sl l q⟩
  .exact q.elim
 .exact q.elim
end
abbrev UC(X:Cx)(W:XW)(ifs:P0)(f:AZ):Prop:=Jd X W (Je X ifs) f
section
variable{X:Cx}{W:XW}{iter:Expr}{c:Expr}{tf:AZ}{pos:Pos}
def Vs:UC X W [] (λ_ S=>.ok true S):=⟨_,Np,λα ρ S σ H Q a sl q=>q.here a rfl⟩
def Vt(h:BV X W c tf):UC X W [c] tf:=let ⟨t,h,k⟩:=h;⟨t,Nq h,k⟩
open Classical in
def Ep{C:Cx->Prop}{elt:Expr}{ifs:P0}{sc:Scope}{ae:Rho->Sto->R Wk}{cf:AZ}{ef:AX}(ab:Scope)(N:K0)(T:K0)(idx:Db)
  (hi:Jd X W (zEF C X tg iter) ae) (hCx: ∀c s₂ F fp pins σ,Inv X pins σ F s₂->C (zM X sc T idx c s₂ F fp))
  (hg: ∀C s₂ H1 fp,([]++T++idx.map λi=>(N[i]?).getD Str.empty).Nodup->Oh T.length ↑15 W0 tg gf)
  (hc: ∀C s₂ H1 fp,UC ↑15 W0 ifs cf) (he: ∀C s₂ H1 fp,zN ↑15 W0 elt ef)
  (e1:X.env.scope=ab:=by rfl) (e2:X.N=N:=by rfl) (hB:AH ab N sc idx=true:=by decide+kernel) (hN:([]++T++idx.map λi=>(N[i]?).getD Str.empty).Nodup:=by decide+kernel)
  (hs: ∀y,foldedSetIterable iter X.env y=pure y:=by intro _;rfl):
  Jd (β:=Er) (τ:=V) X W (λt=>PE X ↑14 t/\PU X ↑14 t) (λρ S=>(ae ρ S).bind λk S1=>if k.ds.length<1000000 then(zV gf cf ef (AB T.length idx ρ) k.gs k.ds S1).bind λout S2=>.ok (.new out) S2 else .no):=by
 obtain⟨wi,hi,ki⟩:=hi;subst e1 e2;have ao:(1000000:Nat)<sizeLine:=by rw[Ċ];decide
 have ag: ∃t,(∀C s₂ H1 fp,PG ↑15 tg t)/\ ∀α ρ S σ H d v Q,Wd X.g α S H->Slots X.K α H ρ σ->Den X.K α H d v->Post X.g W0 α H (gf d ρ S) (Keeps T.length σ Q)->t v σ H Q:=by refine⟨λv σ H Q=> ∃α ρ S d,Wd X.g α S H/\Slots X.K α H ρ σ/\Den X.K α H d v/\Post X.g W0 α H (gf d ρ S) (Keeps T.length σ Q),λC s₂ H1 fp pins s σ H v u Q I r ⟨α,ρ,S,d,h1,h2,h3,h4⟩=>?_,λα ρ S σ H d v Q h1 h2 h3 h4=>⟨α,ρ,S,d,h1,h2,h3,h4⟩⟩;obtain⟨t,ht,kt⟩:=hg C s₂ H1 fp hN;exact ht pins s σ H v u Q I r (kt α ρ S σ H d v Q h1 h2 h3 h4)
 obtain⟨ar,aa,kg⟩:=ag;refine⟨_,⟨Ux T idx hi hCx hB aa (λC s₂ H1 fp=>(Ă (hc C s₂ H1 fp)).1) (λC s₂ H1 fp=>(Ă (he C s₂ H1 fp)).1) hs,Va T idx hi hCx hB aa (λC s₂ H1 fp=>(Ă (hc C s₂ H1 fp)).1) (λC s₂ H1 fp=>(Ă (he C s₂ H1 fp)).1) hs⟩,λα ρ S σ H Q wd sl q=>ki α ρ S σ H _ wd sl (q.bind λJ k S1 aj H1 e1 x1 w1 d1 q1=>?_)⟩;obtain⟨P,hP⟩:=d1;split at q1
 .rename_i ak
  refine⟨λn m ys F=>m=k.ds.length - n/\n<=k.ds.length/\ys.length<=n/\ ∃p S2,Ext α H p F/\Wd X.g p S2 F/\P p S2 F/\ ∃a,DenL X.K p F a ys/\Post X.g W α H ((zV gf cf ef (AB T.length idx ρ) k.gs (k.ds.drop n) S2).bind λo S'=>.ok (Er.new (a++o)) S') Q,
   ⟨_,rfl,zero_le _,à _,aj,S1,x1,w1,hP.here,[],yL,by simpa using q1⟩,?_⟩
  rintro n m ys F ⟨rfl,hn,hy,p,S2,x2,w2,p2,a,l,Z⟩;obtain⟨i1,i2⟩:=hP.it n p S2 F p2 w2;refine⟨by omega,?_⟩;by_cases w:n<k.ds.length
  .obtain⟨go,yl⟩:=i1 w;refine .inr ⟨go,by omega,λv H3 y τ G=>?_⟩;obtain⟨x3,w3,p3,d,hd,dv⟩:=yl v H3 y;have O:k.ds.drop n=d::k.ds.drop (n+1):=by rw[List.drop_eq_getElem_cons w];have:=gE w;rw[hd]at this;rw[<-ã this]
   rw[O]at Z;unfold zV at Z;have ah:=Jl (sl.ext (x2.trans x3)) T.length idx τ G;refine kg p (AB T.length idx ρ) S2 _ H3 d v _ w3 ah dv ?_;rw[R.bind_assoc]at Z;refine Z.bindY (x2.trans x3) λA af S4 M H4 e4 x4 w4 s4 q4 L ai=>⟨⟨A.take T.length,?_,?_⟩,λC s₂ fp=>?_⟩
   .refine Ń λj=>?_;have aq:A.length=T.length+idx.length:=by rw[L,lA,rE,G]
    by_cases hj:j<T.length
    .rw[ç (by rw[lT];omega),ĸ hj]
    .rw[ai j (by omega),î (by omega),î (by rw[lT];omega),G,lT,min_eq_left (by omega)]
   .rw[lT,L,lA,rE,G];omega
   have E:Ext α H M H4:=(x2.trans x3).trans x4;have p4: ∀h B H5,Ext M H4 h H5->Wd X.g h B H5->stay k.gs B->P h B H5:=λh B H5 z w5 s5=>hP.stays p S2 H3 h B H5 p3 (x4.trans z) w5 s5;rw[R.bind_assoc]at q4;refine(Ă (hc C s₂ H1 fp)).2 M af S4 A H4 _ w4 s4 (q4.bindY E λb5 au B h H5 e5 z w5 d5 q5=>?_);cases d5
   cases b5 with
   |false=>
    rw[iN xF0]at q5 ⊢;split at q5
    .rename_i Y;exact⟨k.ds.length - (n+1),by omega,rfl,w,by omega,h,B,E.trans z,w5,p4 h B H5 z w5 Y,a,(l.ext (x3.trans x4)).ext z,q5⟩
    .exact q5.elim
   |true=>
    rw[iP rfl,R.bind_assoc]at q5;rw[iP rfl];refine(Ă (he C s₂ H1 fp)).2 h af B A H5 _ w5 (s4.ext z) (q5.bindY (E.trans z) λy6 r6 S6 av H6 e6 x6 w6 d6 U=>?_);obtain⟨d',S',α',e7,x7,y7,w7,de⟩:=pR w6 x6 d6;rw[e7]at U;have U:Post X.g W α H ((if stay k.gs S' then(zV gf cf ef (AB T.length idx ρ) k.gs (k.ds.drop (n+1)) S').bind λout S4=>.ok (d'::out) S4 else .no).bind λo S'=>.ok (Er.new (a++o)) S') Q:=U;split at U
    .rename_i Y;refine⟨k.ds.length - (n+1),by omega,rfl,w,by rw[lA,lS];omega,α',S',(E.trans z).trans x7,w7,p4 α' S' H6 (z.trans x7) w7 Y,a++[d'],((l.ext (x3.trans x4)).ext (z.trans x7)).append (yH de yL),?_⟩;rw[R.bind_assoc]at U;have e8:(λ(o:U0) (S':Sto)=>R.ok (Er.new ((a++[d'])++o)) S')=(λ(b:U0) S=>(R.ok (d'::b) S).bind λo S'=>.ok (Er.new (a++o)) S'):=by funext o S';show _=R.ok (Er.new (a++(d'::o))) S';rw[aA];rfl
     rw[e8];exact U
    .exact U.elim
  .have e:n=k.ds.length:=by omega
   subst e;rw[drop_length]at Z;have q3:Post X.g W α H (.ok (Er.new (a++[])) S2) Q:=Z;rw[aN]at q3;exact .inl ⟨i2 (à _),λD hD=>(q3.shift x2).newl w2 hD l⟩
 .exact q1.elim
open Classical in
def Es{elt:Expr}{ifs:P0}{sc:Scope}{b:Rho->Sto->R Wk}{cf:AZ}{ef:AX}(a:Scope)(N:K0)(T:K0)(idx:Db)
  (hi:UB X W tg iter b) (hcalm:X.calm=true)
  (hg: ∀C s₂ H1 fp,([]++T++idx.map λi=>(N[i]?).getD Str.empty).Nodup->Oh T.length ↑15 W0 tg gf)
  (hc: ∀C s₂ H1 fp,UC ↑15 W0 ifs cf) (he: ∀C s₂ H1 fp,zN ↑15 W0 elt ef)
  (e1:X.env.scope=a:=by rfl) (e2:X.N=N:=by rfl) (hB:AH a N sc idx=true:=by decide+kernel) (hN:([]++T++idx.map λi=>(N[i]?).getD Str.empty).Nodup:=by decide+kernel)
  (hs: ∀y,foldedSetIterable iter X.env y=pure y:=by intro _;rfl):
  zN X W ↑14 (λρ S=>(b ρ S).bind λk S1=>if k.ds.length<1000000 then(zV gf cf ef (AB T.length idx ρ) k.gs k.ds S1).bind λout S2=>.ok (.new out) S2 else .no):=let ⟨t,h,k⟩:=(Ep a N T idx hi (λ_ _ _ _ _ _ _=>hcalm) hg hc he e1 e2 hB hN hs);⟨t,h.1,k⟩
open Classical in
def Vu{x:Str}{pos' a:Pos}(i:Nat)(j:X.N.Nodup){elt:Expr}{ifs:P0}{sc:Scope}{c:Rho->Sto->R Wk}{cf:AZ}{ef:AX}(b:Scope)(N:K0)(T:K0)(idx:Db)
  (hi:UB X W tg iter c) (hcalm:X.calm=true)
  (hg: ∀C s₂ H1 fp,([]++T++idx.map λi=>(N[i]?).getD Str.empty).Nodup->Oh T.length ↑15 W0 tg gf)
  (hc: ∀C s₂ H1 fp,UC ↑15 W0 ifs cf) (he: ∀C s₂ H1 fp,zN ↑15 W0 elt ef)
  (e1:X.env.scope=b:=by rfl) (e2:X.N=N:=by rfl) (hB:AH b N sc idx=true:=by decide+kernel) (hN:([]++T++idx.map λi=>(N[i]?).getD Str.empty).Nodup:=by decide+kernel)
  (hs: ∀y,foldedSetIterable iter X.env y=pure y:=by intro _;rfl)
  (hi2:X.N[i]? =some x:=by rfl) (hx:Loc X.env.scope x:=by first |exact Or.inl rfl|exact Or.inr rfl)
  (hsw:swapsWith ↑14 (some (.Name x pos')) a.line X.env=pure true:=by with_unfolding_all rfl) (hf:Q2 X x:=by first |exact .inl rfl|exact .inr rfl|assumption):
  PX X W (.Assign [.Name x pos'] ↑14 a) (λρ S=>((c ρ S).bind λk S1=>if k.ds.length<1000000 then(zV gf cf ef (AB T.length idx ρ) k.gs k.ds S1).bind λout S2=>.ok (.new out) S2 else .no).bind (MB ρ i)):=by
 obtain⟨t,h,k⟩:=(Ep b N T idx hi (λ_ _ _ _ _ _ _=>hcalm) hg hc he e1 e2 hB hN hs)
 refine⟨_,h.2 i x pos' a j hi2 hx hf hsw,λα ρ S σ H D p sl q=>k α ρ S σ H _ p sl (q.expr λu r S1 s H1 e m v n d=>?_)⟩;obtain⟨B,S',α',e1,w,A,o,z⟩:=pR v m n;unfold MB at d;rw[e1]at d;exact d _ α' H1 w o (((sl.ext m).ex0 A).set z)
end
mutual
def lo(n:Nat):MV->Prop
 |.loc l=>l<n
 |.tup ds=>HN n ds
 |.scr ds=>HN n ds
 |.obj _ _ ds=>HN n ds
 |_=>True
def HN(n:Nat):List MV->Prop
 |[]=>True
 |d::ds=>lo n d/\HN n ds
end
def loO(n:Nat):MO->Prop
 |.lst ds=>HN n ds
 |.dic kvs=> ∀p∈kvs,lo n p.1/\lo n p.2
 |.ins _ fs=> ∀p∈fs,lo n p.2
 |.rcd _ fs=> ∀p∈fs,lo n p.2
 |.fdc kvs=> ∀p∈kvs,lo n p.1/\lo n p.2
section
variable{K:Q0}{α t:B9}{H:Hp}
mutual
theorem Den.back: ∀{d:MV}{v:V},Den K (α++t) H d v->lo α.length d->Den K α H d v
 |.non,_,q,_=>by cases mT q;exact KZ
 |.bl _,_,q,_=>by cases tI q;exact nO _
 |.int _,_,q,_=>by cases xB q;exact xZ _
 |.str _,_,q,_=>by cases wH q;exact uD _
 |.typ _,_,q,_=>by cases mU q;exact El _
 |.obj c ns ds,_,q,h=>by obtain⟨a,C,dx,vs,o,rfl,e,j,i,b,l⟩:=fF q;exact En e j i b (DenL.back l (by unfold lo at h;exact h))
 |.loc l,_,q,h=>by
  obtain⟨a,rfl,e⟩:=aF q;have b:l<α.length:=by unfold lo at h;exact h
  rw[ç b]at e;exact FF e
 |.tup ds,_,q,h=>by obtain⟨a,vs,rfl,s,l⟩:=xC q;exact uE s (DenL.back l (by unfold lo at h;exact h))
 |.scr ds,_,q,h=>by obtain⟨a,vs,rfl,s,l⟩:=fG q;exact Em s (DenL.back l (by unfold lo at h;exact h))
theorem DenL.back: ∀{ds:U0}{vs:List V},DenL K (α++t) H ds vs->HN α.length ds->DenL K α H ds vs
 |[],_,q,_=>by rw[q.isnil];exact yL
 |d::ds,_,q,h=>by obtain⟨v,r,rfl,a,l⟩:=q.uncons;unfold HN at h;exact yH (Den.back a h.1) (DenL.back l h.2)
end
mutual
theorem Den.lo: ∀{d:MV}{v:V},Den K α H d v->lo α.length d
 |.non,_,q=>by unfold M.lo;trivial
 |.bl _,_,q=>by unfold M.lo;trivial
 |.int _,_,q=>by unfold M.lo;trivial
 |.str _,_,q=>by unfold M.lo;trivial
 |.typ _,_,q=>by unfold M.lo;trivial
 |.obj c ns ds,_,q=>by obtain⟨a,C,dx,vs,o,rfl,e,i,b,h,l⟩:=fF q;unfold M.lo;exact DenL.lo l
 |.loc l,_,q=>by obtain⟨a,rfl,e⟩:=aF q;unfold M.lo;exact(gS.mp e).1
 |.tup ds,_,q=>by obtain⟨a,vs,rfl,s,l⟩:=xC q;unfold M.lo;exact DenL.lo l
 |.scr ds,_,q=>by obtain⟨a,vs,rfl,s,l⟩:=fG q;unfold M.lo;exact DenL.lo l
theorem DenL.lo: ∀{ds:U0}{vs:List V},DenL K α H ds vs->HN α.length ds
 |[],_,q=>by unfold HN;trivial
 |d::ds,_,q=>by obtain⟨v,r,rfl,a,l⟩:=q.uncons;unfold HN;exact⟨Den.lo a,DenL.lo l⟩
end
theorem DenK.back: ∀{fs b},DenK K (α++t) H fs b->(∀p∈fs,M.lo α.length p.1/\M.lo α.length p.2)->DenK K α H fs b
 |_,_,.nil,_=>.nil
 |_,_,.cons k a l,h=>.cons k (a.back (h _ mF0).2) (DenK.back l λp c=>h p (mO _ c))
def KeyD.lo{n:Nat}{k:MV}{k':Key}(h:KeyD k k'):M.lo n k:=by
 unfold KeyD at h;split at h
 .unfold M.lo;trivial
 .unfold M.lo;trivial
 .exact h.elim
theorem DenK.lo: ∀{fs b},DenK K α H fs b-> ∀p∈fs,M.lo α.length p.1/\M.lo α.length p.2
 |_,_,.nil=>λp h=>by simp at h
 |_,_,.cons k a l=>λp h=>(mC.mp h).elim (λe=>by subst e;exact⟨k.lo,a.lo⟩) (DenK.lo l p)
theorem DenN.back: ∀{fs xs},DenN K (α++t) H fs xs->(∀p∈fs,M.lo α.length p.1/\M.lo α.length p.2)->DenN K α H fs xs
 |_,_,.nil,_=>.nil
 |_,_,.cons k e a d r l,h=>.cons k e (a.back (h _ mF0).1) (d.back (h _ mF0).2) r (DenN.back l λp b=>h p (mO _ b))
theorem DenN.lo: ∀{fs xs},DenN K α H fs xs-> ∀p∈fs,M.lo α.length p.1/\M.lo α.length p.2
 |_,_,.nil=>λp h=>by simp at h
 |_,_,.cons k e a d r l=>λp h=>(mC.mp h).elim (λz=>by subst z;exact⟨a.lo,d.lo⟩) (DenN.lo l p)
theorem DenF.back: ∀{fs b},DenF K (α++t) H fs b->(∀p∈fs,M.lo α.length p.2)->DenF K α H fs b
 |_,_,.nil,_=>.nil
 |_,_,.cons a l,h=>.cons (a.back (h _ mF0)) (DenF.back l λp c=>h p (mO _ c))
theorem DenF.lo: ∀{fs b},DenF K α H fs b-> ∀p∈fs,M.lo α.length p.2
 |_,_,.nil=>λp h=>by simp at h
 |_,_,.cons a l=>λp h=>(mC.mp h).elim (λe=>by subst e;exact a.lo) (DenF.lo l p)
def ObD.back{g:Gm}{a:Addr}{o:MO}(q:ObD g (α++t) H a o)(h:loO α.length o):ObD g α H a o:=by
 cases o with
 |lst ds=>obtain⟨vs,h1,l⟩:=q;exact⟨vs,h1,l.back h⟩
 |dic ds=>
  rcases q with⟨vs,h1,l⟩|⟨vs,h1,l⟩
  .exact .inl ⟨vs,h1,l.back h⟩
  .exact .inr ⟨vs,h1,l.back h⟩
 |ins c fs=>obtain⟨C,b,m,l,r⟩:=q;exact⟨C,b,m,l.back h,r⟩
 |rcd c fs=>obtain⟨C,dx,b,m,h1,l⟩:=q;exact⟨C,dx,b,m,h1,l.back h⟩
 |fdc kvs=>obtain⟨d,xs,h1,l⟩:=q;exact⟨d,xs,h1,l.back h⟩
def ObD.lo{g:Gm}{a:Addr}{o:MO}(q:ObD g α H a o):loO α.length o:=by
 cases o with
 |lst ds=>obtain⟨vs,h1,l⟩:=q;exact l.lo
 |dic ds=>
  rcases q with⟨vs,h1,l⟩|⟨vs,h1,l⟩
  .exact l.lo
  .exact l.lo
 |ins c fs=>obtain⟨C,b,m,l,r⟩:=q;exact l.lo
 |rcd c fs=>obtain⟨C,dx,b,m,h1,l⟩:=q;exact l.lo
 |fdc kvs=>obtain⟨d,xs,h1,l⟩:=q;exact l.lo
end
def FK(S S2:Sto):Prop:=↑0<=S2.length/\ ∀l,l<↑0->S2[l]? =S[l]? \/ ∃o,S2[l]? =some o/\loO ↑0 o
open Classical in
noncomputable def gV(S:Sto)(r:Er)(S2:Sto):R Er:=
 if FK S S2 then match r with
  |.val (.loc l)=>if l<S.length then .ok r (S2.take S.length)else match S2[l]? with
   |some (.lst ds)=>if HN S.length ds then .ok (.new ds) (S2.take S.length)else .ok r S2
   |_=>.ok r S2
  |.val d=>if lo S.length d then .ok r (S2.take S.length)else .ok r S2
  |.new ds=>if HN S.length ds then .ok r (S2.take S.length)else .ok r S2
 else .ok r S2
theorem Vv{g:Gm}{j F i:B9}{H1 w:Hp}{S3:Sto}{r:Er}(I:Ext α H j H1)(O:Wd g j S1 H1)(M: ∃t,F=j++t)(Y:Ext α H F H1)(W:Ext F H1 i w)(s:Wd g i S3 w)(d:DenE g.K H1 i w r v):
  ∃T S' α',gV S1 r S3=.ok T S'/\Ext α H α' w/\Wd g α' S' w/\DenE g.K H α' w T v:=by
 have k:=Y.trans W;have c:=d.back λb h=>I.free h;unfold gV;by_cases J:FK S1 S3
 .rw[iP J];obtain⟨t,D⟩: ∃t,i=j++t:=by obtain⟨t,e⟩:=M;obtain⟨u,e'⟩:=W.pre;exact⟨_,by rw[e',e,aA]⟩
  have E:=O.len;have A:Ext α H j w:=⟨⟨I.pre,k.tup,k.frz⟩,I.new,k.keep,k.has⟩
  have y:Wd g j (S3.take S1.length) w:=by
   refine⟨by rw[lT,E,min_eq_left J.1],O.nd,λl a o h1 C=>?_⟩;have n:l<S1.length:=by rw[<-E];exact(gS.mp h1).1
   rw[ĸ n]at C;have Q:i[l]? =some a:=by rw[D,ç (by rw[E];exact n)];exact h1
   have q:=s.obj l a o Q C;rw[D]at q;refine q.back ?_;rcases J.2 l n with e|⟨o',e,lo'⟩
   .rw[e]at C;exact(O.obj l a o h1 C).lo
   .rw[C]at e;cases e;rw[E];exact lo'
  have p: ∀d,lo S1.length d->Den g.K i w d v->DenE g.K H j w _ v:=λd X q=>.val ((D▸q:Den g.K _ w d v).back (by rw[E];exact X))
  cases r with
  |new ds=>
   dsimp only;split
   .rename_i n;obtain⟨⟨b,vs,rfl,h1,C,h3⟩,h4⟩:=c;exact⟨_,_,j,rfl,A,y,⟨b,vs,rfl,h1,λz=>C (by rw[D];exact Ď _ z),(D▸h3:DenL g.K _ w ds vs).back (by rw[E];exact n)⟩,h4⟩
   .exact⟨_,_,i,rfl,k,s,c⟩
  |val mv=>
   have B:Den g.K i w mv v:=c.1
   cases mv with
   |loc l=>
    dsimp only;split
    .rename_i n;exact⟨_,_,j,rfl,A,y,p _ (by unfold lo;exact n) B⟩
    .rename_i n;obtain⟨a,rfl,L⟩:=aF B;split
     .rename_i ds hS;split
      .rename_i S;obtain⟨vs,h1,C⟩:=s.obj l a _ L hS
       have G:a∉j:=λz=>by
        obtain⟨m,U⟩:=getElem?_of_mem z;have N:m<j.length:=(gS.mp U).1;have P:i[m]? =some a:=by rw[D,ç N];exact U
        obtain⟨u1,e1⟩:=gS.mp P;obtain⟨u2,e2⟩:=gS.mp L;have:=(getElem_inj s.nd).mp (e1.trans e2.symm)
        lia
       refine⟨_,_,j,rfl,A,y,⟨a,vs,rfl,h1,G,(D▸C:DenL g.K _ w ds vs).back (by rw[E];exact S)⟩,λb e=>?_⟩;cases e;rcases k.new a (ñ L)with z|z
       .obtain⟨u,Z⟩:=I.pre;exact absurd (by rw[Z];exact Ď _ z) G
       .exact z
      .exact⟨_,_,i,rfl,k,s,c⟩
     .exact⟨_,_,i,rfl,k,s,c⟩
   |non=>dsimp only;split;(· rename_i n;exact⟨_,_,j,rfl,A,y,p _ n B⟩);(· exact⟨_,_,i,rfl,k,s,c⟩)
   |bl b=>dsimp only;split;(· rename_i n;exact⟨_,_,j,rfl,A,y,p _ n B⟩);(· exact⟨_,_,i,rfl,k,s,c⟩)
   |int b=>dsimp only;split;(· rename_i n;exact⟨_,_,j,rfl,A,y,p _ n B⟩);(· exact⟨_,_,i,rfl,k,s,c⟩)
   |str b=>dsimp only;split;(· rename_i n;exact⟨_,_,j,rfl,A,y,p _ n B⟩);(· exact⟨_,_,i,rfl,k,s,c⟩)
   |typ b=>dsimp only;split;(· rename_i n;exact⟨_,_,j,rfl,A,y,p _ n B⟩);(· exact⟨_,_,i,rfl,k,s,c⟩)
   |obj b b' b''=>dsimp only;split;(· rename_i n;exact⟨_,_,j,rfl,A,y,p _ n B⟩);(· exact⟨_,_,i,rfl,k,s,c⟩)
   |tup b=>dsimp only;split;(· rename_i n;exact⟨_,_,j,rfl,A,y,p _ n B⟩);(· exact⟨_,_,i,rfl,k,s,c⟩)
   |scr b=>dsimp only;split;(· rename_i n;exact⟨_,_,j,rfl,A,y,p _ n B⟩);(· exact⟨_,_,i,rfl,k,s,c⟩)
 .rw[iN J];exact⟨_,_,i,rfl,k,s,c⟩
def PY(g:Gm)(n:Nat)(F:↑8):Sp:=λvs H Q _=> ∃α S ds,Wd g α S H/\DenL g.K α H ds vs/\↑23=n/\Post g W0 α H (F ds S) Q
def zH(n:Nat)(F:↑8)(rs:List Er)(S:Sto):R Er:=if ↑4=n then(noX (F (zO rs S).1 (zO rs S).2)).bind λr S2=>gV S r S2 else .no
section
variable{X:Cx}{W:XW}{e:Expr}{es:P0}{af:↑13}{pos:Pos}
def RG{n:Nat}{F:↑8}{a:B9}{H1:Hp}{Q:VK}(e:Ext α H a H1)(d:Wd X.g a S1 H1)(i:ArgsE X.K H a H1 rs vs)(q:Post X.g W α H (zH n F rs S1) Q):
  PY X.g n F vs H1 Q E0:=by
 unfold zH at q;split at q
 .rename_i y;obtain⟨b,m,B,p,h⟩:=AN d e i;refine⟨b,_,_,p,h,by rw[HR];exact y,?_⟩
  cases z:F (zO rs S1).1 (zO rs S1).2 with
  |ok r S3=>
   rw[z]at q;intro v w u A D k;obtain⟨E,S',α',j,s,o,C⟩:=Vv e d B.pre m A D k;have q:Post X.g W α H (gV S1 r S3) Q:=q;rw[j]at q;exact q v α' u s o C
  |exc c fs S3=>rw[z]at q;exact q.elim
  |no=>rw[z]at q;exact q.elim
 .exact q.elim
def Vx{k n:Nat}{b:Addr}{fd:FuncData}{ps:K0}{F:↑8}{x:Str}{p:Pos}(G:FnOk X.prog X.w X.K X.mg X.base BS k b fd ps (PY X.g n F))(s:Room k X.A)(j:Gl X x)(m:X.mg x=some (.ref b))
  (hk:PySem.W.keepIn X.K (.ref b)=true) (hb:Binds X.K fd ps []) (a:LY X W (e::es) af) (hdb:↑28=false:=by decide)
  (he:q8 X e es:=by rfl) (hpl:q9 X pos es:=by rfl):
  zN X W (.Call (.Name x p) (e::es) [] pos) (λρ S=>(af ρ S).bind λrs S1=>zH n F rs S1):=by
 obtain⟨t,a,r⟩:=a;refine⟨_,Uk G s j m hk hb .nil Nl a hdb he hpl,λα ρ S σ H Q d sl q=>r α ρ S σ H _ d sl (q.bind λvs rs S1 h H1 e1 u o c i=>?_)⟩;rw[aN];exact RG u o c i
end
noncomputable def zG(N:K0)(ds:U0):Rho:=ds.map some++List.replicate (N.length - ↑23) none
noncomputable def zP:R Fl->R Er
 |.ok (.next _) S=>.ok (.val .non) S
 |.ok (.ret r) S=>.ok r S
 |.exc c fs S=>.exc c fs S
 |_=>.no
def XQ{K:Q0}{N:K0}{ds:U0}(l:DenL K α H ds vs):Slots K α H (zG N ds) (start N vs):=by
 have a:=l.length;refine⟨?_,λi d e=>?_⟩
 .unfold start zG;rw[lA,lA,lM,lM,Ĕ,Ĕ,a]
 .unfold zG at e;by_cases hi:i<↑23
  .rw[ç (by simpa using hi),ð]at e
   cases z:ds[i]? with
   |none=>rw[z]at e;cases e
   |some d'=>
    rw[z]at e;obtain⟨v,h1,b⟩:=l.at z;have c:=ã (ã e);subst c;refine⟨v,?_,b⟩;unfold start;rw[ç (by rw[lM,a];exact hi),ð,h1];rfl
  .rw[î (by simpa using hi),List.getElem?_replicate]at e;split at e<;>cases e
section
variable{P:ň}{w:World}{K:Q0}{mg:L0}{base:Heap}
def okM{x qual:Str}{st:Stmt}{f:Addr}{fd:FuncData}{N ps:K0}{k:Nat}(i:AY)(F:Fun K x qual st f fd)(p:FnScope N ps (zK st))
  (hbody: ∀(b:ņ)(A:Ň)(a:List Env)(s:Ņ)(H:Hp)(E:XK),Room k (A.deeper (envOfC qual (zK st) ↑1 f b))->
   FH (PL BS P w K mg base N qual (zK st) f b A a s H E).nox W0 (yZ st) i):
  FnOk P w K mg base BS (k+1) f fd ps (PY ⟨K,mg,P,w⟩ ps.length λds S=>zP (i (zG N ds) S)):=by
 refine F.ok p (λvs H Q E h=>?_) (λb A a s H vs Q E n h=>?_)
 .obtain⟨α,S,ds,_,l,j,_⟩:=h;rw[l.length,j]
 .obtain⟨α,S,ds,o,l,j,q⟩:=h;obtain⟨t,m,y⟩:=hbody b A a s H E n;refine⟨t,m,y α _ S _ H _ o (XQ l) ?_⟩;dsimp only at q
  cases z:i _ S with
  |ok fl S'=>
   rw[z]at q
   cases fl with
   |next ρ=>exact λσ α' H' e d s'=>q .non α' H' e d (DenE.val KZ)
   |ret r=>exact λv α' H' e d u=>q v α' H' e d u
   |brk ρ=>exact q.elim
   |cont ρ=>exact q.elim
  |exc c fs S'=>rw[z]at q;exact λα' H' e d=>q α' H' e d
  |no=>rw[z]at q;exact q
end
inductive Vw where
 |fl (v:V)|tp (ds:U0)|ls (ds:U0)
noncomputable def kS(S:Sto):Er->Option (List MV)
 |.new ds=>some ds
 |.val (.scr ds)=>some ds
 |.val (.loc l)=>match S[l]? with
  |some (.lst ds)=>some ds
  |_=>none
 |_=>none
def ME(S:Sto):Er->Option Vw
 |.val .non=>some (.fl .non)
 |.val (.bl b)=>some (.fl (.bl b))
 |.val (.int i)=>some (.fl (.int i))
 |.val (.str x)=>some (.fl (.str (mK x)))
 |.val (.tup ds)=>some (.tp ds)
 |.val (.typ _)=>none
 |.val (.obj _ _ _)=>none
 |r=>(kS S r).map .ls
noncomputable def KL(e:MV->MV->Option Bool):List MV->List MV->Option (List Bool)
 |d::ds,f::fs=>(e d f).bind λk=>(KL e ds fs).map (k::·)
 |_,_=>some []
def F5(e:MV->MV->Option Bool):Vw->Vw->Option Bool
 |.fl x,.fl y=>some (eqV x y)
 |.tp ds,.tp es=>(KL e ds es).map λbs=>bs.all id&&ds.length==es.length
 |.ls ds,.ls es=>if ds.length=es.length then(KL e ds es).map λbs=>bs.all id else some false
 |_,_=>some false
theorem Bl(e:MV->MV->Option Bool)(ds es:U0):F5 e (.tp ds) (.tp es)=(KL e ds es).map λbs=>bs.all id&&↑23==es.length:=rfl
theorem UD(e:MV->MV->Option Bool)(ds es:U0):F5 e (.ls ds) (.ls es)=if ↑23=es.length then(KL e ds es).map λbs=>bs.all id else some false:=rfl
def eqv(S:Sto):Nat->MV->MV->Option Bool
 |0,_,_=>none
 |n+1,a,b=>(ME S (.val a)).bind λx=>(ME S (.val b)).bind λy=>F5 (eqv S n) x y
def FL(S:Sto)(n:Nat)(a b:Er):Option Bool:=(ME S a).bind λx=>(ME S b).bind λy=>F5 (eqv S n) x y
section
variable{X:Cx}{α:B9}{S:Sto}{H:Hp}
def tN{K:Q0}{g:Gm}(i:g.K=K)(c:Wd g α S H){r:Er}{ds:U0}{x:V}(e:kS S r=some ds)(d:DenX K α H r x): ∃a vs,x=.ref a/\SqL K H a vs/\DenL K α H ds vs:=by
 subst i;unfold kS at e;split at e
 .cases e;obtain⟨b,vs,rfl,h,_,l⟩:=d;exact⟨b,vs,rfl,.of h,l⟩
 .cases e;obtain⟨a,vs,rfl,s,l⟩:=TX d;exact⟨a,vs,rfl,s.l,l⟩
 .rename_i n;obtain⟨a,rfl,h⟩:=sN d;split at e
  .rename_i es j;cases e;obtain⟨vs,h1,l⟩:=c.obj n a _ h j;exact⟨a,vs,rfl,.of h1,l⟩
  .cases e
 .cases e
def vL{r:Er}{x y:V}(e:ME S r=some (.fl y))(d:DenX X.K α H r x):x=y/\tE y=true:=by
 unfold ME at e;split at e
 .cases e;exact⟨Bh d,rfl⟩
 .cases e;exact⟨JM d,rfl⟩
 .cases e;exact⟨xP d,rfl⟩
 .cases e;exact⟨mV d,rfl⟩
 .cases e
 .cases e
 .cases e
 .cases z:kS S r<;>rw[z]at e<;>cases e
def vM{r:Er}{x:V}{ds:U0}(e:ME S r=some (.tp ds))(d:DenX X.K α H r x): ∃a vs,x=.ref a/\SqT X.K H a vs/\DenL X.K α H ds vs:=by
 unfold ME at e;split at e
 .cases e
 .cases e
 .cases e
 .cases e
 .cases e;exact mW d
 .cases e
 .cases e
 .cases z:kS S r<;>rw[z]at e<;>cases e
def vN(b:Wd X.g α S H){r:Er}{x:V}{ds:U0}(e:ME S r=some (.ls ds))(d:DenX X.K α H r x): ∃a vs,x=.ref a/\SqL X.K H a vs/\DenL X.K α H ds vs:=by
 unfold ME at e;split at e
 .cases e
 .cases e
 .cases e
 .cases e
 .cases e
 .cases e
 .cases e
 .cases z:kS S r with
  |none=>rw[z]at e;cases e
  |some es=>rw[z]at e;cases e;exact tN rfl b z d
theorem CA{e:MV->MV->Option Bool}: ∀{ds es:U0}{bs:N0},KL e ds es=some bs->bs.length=min ↑23 es.length
 |[],_,_,h=>by simp[KL]at h;subst h;simp
 |_::_,[],_,h=>by simp[KL]at h;subst h;simp
 |d::ds,f::fs,bs,h=>by
  unfold KL at h
  cases z:e d f with
  |none=>rw[z]at h;cases h
  |some k=>
   rw[z]at h
   cases a:KL e ds fs with
   |none=>simp[a]at h
   |some cs=>
    simp[a]at h;subst h;simp[CA a]
theorem UE{e:MV->MV->Option Bool}: ∀{ds es:U0}{bs:N0}{j:Nat}{d f:MV},KL e ds es=some bs->ds[j]? =some d->es[j]? =some f->e d f=some (bs.getD j true)
 |[],_,_,_,_,_,h,h1,_=>by simp at h1
 |_::_,[],_,_,_,_,h,_,h2=>by simp at h2
 |d::ds,f::fs,bs,j,d',f',h,h1,h2=>by
  unfold KL at h
  cases z:e d f with
  |none=>rw[z]at h;cases h
  |some k=>
   rw[z]at h
   cases a:KL e ds fs with
   |none=>simp[a]at h
   |some cs=>
    simp[a]at h;subst h
    cases j with
    |zero=>simp at h1 h2;subst h1 h2;simpa using z
    |succ j=>simpa using UE a (by simpa using h1) (by simpa using h2)
def range_all{bs:N0}{n:Nat}(h:bs.length=n):(List.range n).all (λj=>bs.getD j true)=bs.all id:=by
 subst h;rw[Ā,ø,ø];constructor
 .intro h x b;obtain⟨i,hi,rfl⟩:=ń b;have:=h i (ò.mpr hi);simpa [ā,hi]using this
 .intro h i hi;have a:=ò.mp hi;have:=h bs[i] (Ĩ a);simpa [ā,a]using this
variable{pins:M0}{σ:St}{s:Ņ}
def FM(I:↑2){a:Addr}{ys:List V}(h:SqL X.K H a xs)(h':SqT X.K H a ys):False:=by obtain⟨_,_,i,_⟩:=I.list h;obtain⟨_,_,pt,_⟩:=I.tuple h';obtain⟨o,n,e,c,_,_⟩:=i;obtain⟨o',b,d,_⟩:=pt;rw[e]at b;cases b;rw[c]at d;exact absurd d (by simp)
theorem Oj(I:↑2)(o:Wd X.g α S H){e:MV->MV->Option Bool}(C: ∀d f v k,Den X.K α H d v->Den X.K α H f v->e d f=some k->k=true){a b:Er}{x:V}{p q:Vw}{k:Bool}
  (ha:ME S a=some p) (hb:ME S b=some q) (da:DenX X.K α H a x) (db:DenX X.K α H b x) (h:F5 e p q=some k):k=true:=by
 have A: ∀{ds es:U0}{vs:List V}{bs:N0},DenL X.K α H ds vs->DenL X.K α H es vs->KL e ds es=some bs->bs.all id=true:=by
  intro ds es vs bs j c z;rw[ø];intro k E;obtain⟨i,hi,rfl⟩:=ń E;have J:=CA z;have h1:i<ds.length:=by lia
  have u:i<es.length:=by lia
  obtain⟨v,F,g2⟩:=j.at (gE h1);obtain⟨G,w,B⟩:=c.at (gE u);rw[F]at w;cases w;have:=C _ _ _ _ g2 B (UE z (gE h1) (gE u));simpa [ā,hi]using this
 cases p with
 |fl y=>
  obtain⟨rfl,f1⟩:=vL ha da
  cases q with
  |fl z=>obtain⟨rfl,f2⟩:=vL hb db;cases h;exact Nu f1
  |tp ds=>obtain⟨a,vs,rfl,_⟩:=vM hb db;exact absurd f1 xF0
  |ls ds=>obtain⟨a,vs,rfl,_⟩:=vN o hb db;exact absurd f1 xF0
 |tp ds=>
  obtain⟨D,vs,rfl,n,j⟩:=vM ha da
  cases q with
  |fl z=>obtain⟨rfl,f2⟩:=vL hb db;exact absurd f2 xF0
  |tp es=>
   obtain⟨r,us,e2,m,c⟩:=vM hb db;cases e2;cases I.tuple_inj n m;rw[Bl]at h
   cases z:KL e ds es with
   |none=>rw[z]at h;cases h
   |some bs=>
    rw[z]at h;cases h;show(bs.all id&&↑23==es.length)=true;rw[A j c z, <-j.length, <-c.length];simp
  |ls es=>obtain⟨r,us,e2,m,c⟩:=vN o hb db;cases e2;exact(FM I m n).elim
 |ls ds=>
  obtain⟨D,vs,rfl,n,j⟩:=vN o ha da
  cases q with
  |fl z=>obtain⟨rfl,f2⟩:=vL hb db;exact absurd f2 xF0
  |tp es=>obtain⟨r,us,e2,m,c⟩:=vM hb db;cases e2;exact(FM I n m).elim
  |ls es=>
   obtain⟨r,us,e2,m,c⟩:=vN o hb db;cases e2;cases I.list_inj n m;rw[UD]at h;rw[iP (by rw[<-j.length, <-c.length])]at h
   cases z:KL e ds es with
   |none=>rw[z]at h;cases h
   |some bs=>rw[z]at h;cases h;exact A j c z
theorem MF(I:↑2)(c:Wd X.g α S H): ∀(n:Nat)(d f:MV)(v:V)(k:Bool),Den X.K α H d v->Den X.K α H f v->eqv S n d f=some k->k=true
 |0,_,_,_,_,_,_,h=>by cases h
 |n+1,d,f,v,k,h1,h2,h=>by
  unfold eqv at h
  cases a:ME S _ with
  |none=>rw[a]at h;cases h
  |some p=>
   cases b:ME S _ with
   |none=>rw[a,b]at h;cases h
   |some q=>
    rw[a,b]at h;exact Oj I c (MF I c n) a b h1 h2 h
def FN{e:MV->MV->Option Bool}{A:Ň}(i: ∀d f x y u v k,Den X.K α H d x->Den X.K α H f y->RelV x u->RelV y v->e d f=some k->SeqAt.EqAt A s u v k)
  {ds es:U0} {vs us:List V} {its its2:A0} {bs:N0} (l1:DenL X.K α H ds vs) (l2:DenL X.K α H es us) (r1:Vals vs its) (r2:Vals us its2) (z:KL e ds es=some bs):
  ∀j (h1:j<its.toArray.size) (a:j<its2.toArray.size),SeqAt.EqAt A s its.toArray[j] its2.toArray[j] (bs.getD j true):=by
 intro j h1 a;have b:j<vs.length:=by rw[r1.length];simpa using h1
 have g2:j<us.length:=by rw[r2.length];simpa using a
 obtain⟨d,h,p⟩:=l1.get (gE b);obtain⟨f,f1,f2⟩:=l2.get (gE g2);obtain⟨u,o,n⟩:=r1.get (gE b);obtain⟨v,c,m⟩:=r2.get (gE g2);have e1:its.toArray[j]=u:=by have:its[j]? =some (its[j]'(by simpa using h1)):=gE _;rw[o]at this;simpa using(ã this).symm
 have e2:its2.toArray[j]=v:=by have:its2[j]? =some (its2[j]'(by simpa using a)):=gE _;rw[c]at this;simpa using(ã this).symm
 rw[e1,e2];exact i d f _ _ u v _ p f2 n m (UE z h f1)
theorem HS(I:↑2)(G:Wd X.g α S H): ∀(n:Nat)(A:Ň)(d f:MV)(x y:V)(u v:ņ)(k:Bool),A.units+n<cLine->Den X.K α H d x->Den X.K α H f y->RelV x u->RelV y v->eqv S n d f=some k->SeqAt.EqAt A s u v k
 |0,_,_,_,_,_,_,_,_,_,_,_,_,_,h=>by cases h
 |n+1,A,d,f,x,y,u,v,k,hu,h1,h2,rx,ry,h=>by
  have i:A.units<cLine:=by lia
  have B:=h;unfold eqv at h
  cases L:ME S (.val d)with
  |none=>rw[L]at h;cases h
  |some p=>
   cases w:ME S (.val f)with
   |none=>rw[L,w]at h;cases h
   |some q=>
    rw[L,w]at h;have h:F5 _ p q=some k:=h;have U:=λd f x y u v k a b c Y e=>HS I G n A.in1 d f x y u v k (show A.units+1+n<cLine by lia) a b c Y e
    cases p with
    |fl x'=>
     obtain⟨rfl,O⟩:=vL L h1
     cases q with
     |fl y'=>obtain⟨rfl,M⟩:=vL w h2;cases h;exact R8 rx ry O M
     |tp es=>
      obtain⟨b,us,rfl,o,r⟩:=vM w h2;cases ry;cases h;obtain⟨its,_,pt,_⟩:=I.tuple o;exact(JL rx O pt i).2.1
     |ls es=>
      obtain⟨b,us,rfl,o,r⟩:=vN G w h2;cases ry;cases h;obtain⟨its,_,E,_⟩:=I.list o;exact(RE rx O E.isList i).2.1
    |tp ds=>
     obtain⟨a,vs,rfl,P,C⟩:=vM L h1;cases rx;obtain⟨its,D,pt,_⟩:=I.tuple P
     cases q with
     |fl y'=>obtain⟨rfl,M⟩:=vL w h2;cases h;exact(JL ry M pt i).1
     |tp es=>
      obtain⟨b,us,rfl,o,r⟩:=vM w h2;cases ry;by_cases m:a=b
      .subst m;rw[MF I G (n+1) d f _ k h1 h2 B];exact SeqAt.EqAt.same _
      .obtain⟨j,F,Q,_⟩:=I.tuple o;rw[Bl]at h
       cases z:KL (eqv S n) ds es with
       |none=>rw[z]at h;cases h
       |some bs=>
        rw[z]at h;cases h;have:=SeqAt.RcAt.tuples pt Q i (FN U C r D F z);have J:=CA z;rw[range_all (by rw[J];simp[<-D.length, <-F.length,C.length,r.length])]at this;have W:(its.toArray.size==j.toArray.size)=(↑23==es.length):=by simp[<-D.length, <-F.length,C.length,r.length]
        rw[W]at this;exact SeqAt.EqAt.of_refs m this
     |ls es=>
      obtain⟨b,us,rfl,o,r⟩:=vN G w h2;cases ry;cases h;obtain⟨j,_,E,_⟩:=I.list o;exact SeqAt.EqAt.tuple_list pt E.isList i
    |ls ds=>
     obtain⟨a,vs,rfl,P,C⟩:=vN G L h1;cases rx;obtain⟨its,D,E,_⟩:=I.list P
     cases q with
     |fl y'=>obtain⟨rfl,M⟩:=vL w h2;cases h;exact(RE ry M E.isList i).1
     |tp es=>
      obtain⟨b,us,rfl,o,r⟩:=vM w h2;cases ry;cases h;obtain⟨j,_,pt,_⟩:=I.tuple o;exact SeqAt.EqAt.list_tuple E.isList pt i
     |ls es=>
      obtain⟨b,us,rfl,o,r⟩:=vN G w h2;cases ry;by_cases m:a=b
      .subst m;rw[MF I G (n+1) d f _ k h1 h2 B];exact SeqAt.EqAt.same _
      .obtain⟨j,F,N,_⟩:=I.list o;rw[UD]at h;by_cases J:↑23=es.length
       .rw[iP J]at h
        cases z:KL (eqv S n) ds es with
        |none=>rw[z]at h;cases h
        |some bs=>
         rw[z]at h;cases h;have hs:its.toArray.size=j.toArray.size:=by simp[<-D.length, <-F.length,C.length,r.length,J]
         have:=SeqAt.RcAt.lists E.isList N.isList hs i (FN U C r D F z);have T:=CA z;rw[range_all (by rw[T];simp[<-D.length,C.length,J])]at this;exact SeqAt.EqAt.of_refs m this
       .rw[iN J]at h;cases h;exact SeqAt.EqAt.of_refs m (SeqAt.RcAt.lists_lengths E.isList N.isList (by simpa [<-D.length, <-F.length,C.length,r.length]using J) i)
theorem F6{B:Ň->Ņ->ņ->ņ->Bool->Prop}{tr:Bool->Bool}{A:Ň}
  (hff: ∀x y u v,RelV x u->RelV y v->tE x=true->tE y=true->B A s u v (tr (eqV x y)))
  (hfl: ∀x v l i,RelV x v->tE x=true->s.heap.IsList l i->A.units<cLine->B A s v (.ref l) (tr false)/\B A s (.ref l) v (tr false))
  (hft: ∀x v l i,RelV x v->tE x=true->s.heap.IsTuple l i->A.units<cLine->B A s v (.ref l) (tr false)/\B A s (.ref l) v (tr false))
  (hlt: ∀l b i m,s.heap.IsList l i->s.heap.IsTuple b m->A.units<cLine->B A s (.ref l) (.ref b) (tr false)/\B A s (.ref b) (.ref l) (tr false))
  (htt: ∀(l b:Addr)(i m:B0)(e:Nat->Bool),s.heap.IsTuple l i->s.heap.IsTuple b m->A.units<cLine->(∀j (h1:j<i.size) (h2:j<m.size),SeqAt.EqAt A.in1 s i[j] m[j] (e j))->B A s (.ref l) (.ref b) (tr ((List.range (min i.size m.size)).all e&&i.size==m.size)))
  (hll: ∀(l b:Addr)(i m:B0)(e:Nat->Bool),s.heap.IsList l i->s.heap.IsList b m->i.size=m.size->A.units<cLine->(∀j (h1:j<i.size) (h2:j<m.size),SeqAt.EqAt A.in1 s i[j] m[j] (e j))->B A s (.ref l) (.ref b) (tr ((List.range i.size).all e)))
  (hln: ∀(l b:Addr)(i m:B0),s.heap.IsList l i->s.heap.IsList b m->(i.size !=m.size)=true->A.units<cLine->B A s (.ref l) (.ref b) (tr false))
  (I:↑2) (wd:Wd X.g α S H) (n:Nat) {a b:Er} {x y:V} {u v:ņ} {k:Bool} (hu:A.units+(n+1)<cLine) (h1:DenX X.K α H a x) (h2:DenX X.K α H b y) (rx:RelV x u) (ry:RelV y v) (h:FL S n a b=some k):B A s u v (tr k):=by
 have o:A.units<cLine:=by lia
 unfold FL at h
 cases M:ME S a with
 |none=>rw[M]at h;cases h
 |some p=>
  cases D:ME S b with
  |none=>rw[M,D]at h;cases h
  |some q=>
   rw[M,D]at h;have h:F5 _ p q=some k:=h;have W:=λd f x y u v k a b c Z e=>HS I wd n A.in1 d f x y u v k (show A.units+1+n<cLine by lia) a b c Z e
   cases p with
   |fl x'=>
    obtain⟨rfl,P⟩:=vL M h1
    cases q with
    |fl y'=>obtain⟨rfl,N⟩:=vL D h2;cases h;exact hff _ _ _ _ rx ry P N
    |tp es=>
     obtain⟨b,us,rfl,w,C⟩:=vM D h2;cases ry;cases h;obtain⟨its,_,pt,_⟩:=I.tuple w;exact(hft _ _ _ _ rx P pt o).1
    |ls es=>
     obtain⟨b,us,rfl,w,C⟩:=vN wd D h2;cases ry;cases h;obtain⟨its,_,G,_⟩:=I.list w;exact(hfl _ _ _ _ rx P G.isList o).1
   |tp ds=>
    obtain⟨a,vs,rfl,Q,E⟩:=vM M h1;cases rx;obtain⟨its,F,pt,_⟩:=I.tuple Q
    cases q with
    |fl y'=>obtain⟨rfl,N⟩:=vL D h2;cases h;exact(hft _ _ _ _ ry N pt o).2
    |tp es=>
     obtain⟨b,us,rfl,w,C⟩:=vM D h2;cases ry;obtain⟨r,J,T,_⟩:=I.tuple w;rw[Bl]at h
     cases z:KL _ ds es with
     |none=>rw[z]at h;cases h
     |some bs=>
      rw[z]at h;cases h;have:=htt _ _ _ _ _ pt T o (FN W E C F J z);have L:=CA z;rw[range_all (by rw[L];simp[<-F.length, <-J.length,E.length,C.length])]at this;have Y:(its.toArray.size==r.toArray.size)=(↑23==es.length):=by simp[<-F.length, <-J.length,E.length,C.length]
      rw[Y]at this;exact this
    |ls es=>
     obtain⟨b,us,rfl,w,C⟩:=vN wd D h2;cases ry;cases h;obtain⟨r,_,G,_⟩:=I.list w;exact(hlt _ _ _ _ G.isList pt o).2
   |ls ds=>
    obtain⟨a,vs,rfl,Q,E⟩:=vN wd M h1;cases rx;obtain⟨its,F,G,_⟩:=I.list Q
    cases q with
    |fl y'=>obtain⟨rfl,N⟩:=vL D h2;cases h;exact(hfl _ _ _ _ ry N G.isList o).2
    |tp es=>
     obtain⟨b,us,rfl,w,C⟩:=vM D h2;cases ry;cases h;obtain⟨r,_,pt,_⟩:=I.tuple w;exact(hlt _ _ _ _ G.isList pt o).1
    |ls es=>
     obtain⟨b,us,rfl,w,C⟩:=vN wd D h2;cases ry;obtain⟨r,J,O,_⟩:=I.list w;rw[UD]at h;by_cases L:↑23=es.length
     .rw[iP L]at h
      cases z:KL _ ds es with
      |none=>rw[z]at h;cases h
      |some bs=>
       rw[z]at h;cases h;have hs:its.toArray.size=r.toArray.size:=by simp[<-F.length, <-J.length,E.length,C.length,L]
       have:=hll _ _ _ _ _ G.isList O.isList hs o (FN W E C F J z);have U:=CA z;rw[range_all (by rw[U];simp[<-F.length,E.length,L])]at this;exact this
     .rw[iN L]at h;cases h;exact hln _ _ _ _ G.isList O.isList (by simpa [<-F.length, <-J.length,E.length,C.length]using L) o
def X4(I:↑2)(j:Wd X.g α S H)(n:Nat){A:Ň}{a b:Er}{x y:V}{u v:ņ}{k:Bool}(p:A.units+(n+1)<cLine)(h1:DenX X.K α H a x)(i:DenX X.K α H b y)(o:RelV x u)(m:RelV y v)(h:FL S n a b=some k):SeqAt.RcAt A s u v k:=
 F6 (tr:=id) (λ_ _ _ _ a b c d=>(Nt a b c d).1) (λ_ _ _ _ a b c d=>⟨(RE a b c d).2.2.2.1,(RE a b c d).2.2.1⟩) (λ_ _ _ _ a b c d=>⟨(JL a b c d).2.2.2.1,(JL a b c d).2.2.1⟩)
  (λ_ _ _ _ a b c=>⟨SeqAt.RcAt.list_tuple a b c,SeqAt.RcAt.tuple_list b a c⟩) (λ_ _ _ _ _ a b c d=>SeqAt.RcAt.tuples a b c d) (λ_ _ _ _ _ a b c d e=>SeqAt.RcAt.lists a b c d e) (λ_ _ _ _ a b c d=>SeqAt.RcAt.lists_lengths a b c d)
  I j n p h1 i o m h
def X5(I:↑2)(j:Wd X.g α S H)(n:Nat){A:Ň}{a b:Er}{x y:V}{u v:ņ}{k:Bool}(p:A.units+(n+1)<cLine)(h1:DenX X.K α H a x)(i:DenX X.K α H b y)(o:RelV x u)(m:RelV y v)(h:FL S n a b=some k):SeqAt.RcNeAt A s u v (!k):=
 F6 (λ_ _ _ _ a b c d=>(Nt a b c d).2) (λ_ _ _ _ a b c d=>⟨(RE a b c d).2.2.2.2.2,(RE a b c d).2.2.2.2.1⟩) (λ_ _ _ _ a b c d=>⟨(JL a b c d).2.2.2.2.2,(JL a b c d).2.2.2.2.1⟩)
  (λ_ _ _ _ a b c=>⟨SeqAt.RcNeAt.list_tuple a b c,SeqAt.RcNeAt.tuple_list b a c⟩) (λ_ _ _ _ _ a b c d=>SeqAt.RcNeAt.tuples a b c d) (λ_ _ _ _ _ a b c d e=>SeqAt.RcNeAt.lists a b c d e) (λ_ _ _ _ a b c d=>SeqAt.RcNeAt.lists_lengths a b c d)
  I j n p h1 i o m h
theorem Et{α β:Type}: ∀{a c:List α}{b d:List β},a.length=b.length->c.length=d.length->a.zip b=c.zip d->a=c/\b=d
 |[],[],[],[],_,_,_=>⟨rfl,rfl⟩
 |[],_::_,[],_::_,_,_,e=>by simp at e
 |_::_,[],_::_,[],_,_,e=>by simp at e
 |x::a,y::c,z::b,w::d,h1,h2,e=>by simp only[ě,List.cons.injEq,Prod.mk.injEq]at e;obtain⟨rfl,rfl⟩:=Et (by simpa using h1) (by simpa using h2) e.2;exact⟨by rw[e.1.1],by rw[e.1.2]⟩
mutual
theorem Den.inj(I:↑2)(u:Wd X.g α S H): ∀{d f:MV}{v:V},Den X.K α H d v->Den X.K α H f v->d=f
 |.non,f,v,h,h'=>by cases mT h;cases f<;>first |rfl|(have:=tI h';cases this;done)|(have:=xB h';cases this;done)|(have:=wH h';cases this;done)|(have:=mU h';cases this;done)|(obtain⟨_,_,e,_⟩:=xC h';cases e;done)|(obtain⟨_,_,e,_⟩:=fG h';cases e;done)|(obtain⟨_,e,_⟩:=aF h';cases e;done)|(obtain⟨_,_,_,_,_,e,_⟩:=fF h';cases e;done)
 |.bl b,f,v,h,h'=>by cases tI h;cases f<;>first |(have:=tI h';cases this;rfl;done)|(have:=mT h';cases this;done)|(have:=xB h';cases this;done)|(have:=wH h';cases this;done)|(have:=mU h';cases this;done)|(obtain⟨_,_,e,_⟩:=xC h';cases e;done)|(obtain⟨_,_,e,_⟩:=fG h';cases e;done)|(obtain⟨_,e,_⟩:=aF h';cases e;done)|(obtain⟨_,_,_,_,_,e,_⟩:=fF h';cases e;done)
 |.int b,f,v,h,h'=>by cases xB h;cases f<;>first |(have:=xB h';cases this;rfl;done)|(have:=mT h';cases this;done)|(have:=tI h';cases this;done)|(have:=wH h';cases this;done)|(have:=mU h';cases this;done)|(obtain⟨_,_,e,_⟩:=xC h';cases e;done)|(obtain⟨_,_,e,_⟩:=fG h';cases e;done)|(obtain⟨_,e,_⟩:=aF h';cases e;done)|(obtain⟨_,_,_,_,_,e,_⟩:=fF h';cases e;done)
 |.str b,f,v,h,h'=>by cases wH h;cases f<;>first |(have:=wH h';rw[FC (V.str.inj this)];done)|(have:=mT h';cases this;done)|(have:=tI h';cases this;done)|(have:=xB h';cases this;done)|(have:=mU h';cases this;done)|(obtain⟨_,_,e,_⟩:=xC h';cases e;done)|(obtain⟨_,_,e,_⟩:=fG h';cases e;done)|(obtain⟨_,e,_⟩:=aF h';cases e;done)|(obtain⟨_,_,_,_,_,e,_⟩:=fF h';cases e;done)
 |.typ b,f,v,h,h'=>by cases mU h;cases f<;>first |(have:=mU h';cases this;rfl;done)|(have:=mT h';cases this;done)|(have:=tI h';cases this;done)|(have:=xB h';cases this;done)|(have:=wH h';cases this;done)|(obtain⟨_,_,e,_⟩:=xC h';cases e;done)|(obtain⟨_,_,e,_⟩:=fG h';cases e;done)|(obtain⟨_,e,_⟩:=aF h';cases e;done)|(obtain⟨_,_,_,_,_,e,_⟩:=fF h';cases e;done)
 |.tup ds,f,v,h,h'=>by
  obtain⟨a,vs,rfl,i,A⟩:=xC h
  cases f with
  |tup es=>
   obtain⟨p,us,e2,w,q⟩:=xC h';cases e2;cases I.tuple_inj i w;rw[DenL.inj I u A q]
  |scr es=>obtain⟨p,us,e2,w,q⟩:=fG h';cases e2;exact(FM I w.l i).elim
  |loc l=>
   obtain⟨p,e2,j⟩:=aF h';cases e2;obtain⟨G,k,B,r⟩:=u.mem (ñ j);rcases i with(i|⟨o,i⟩)|⟨o,its,n,i,_⟩
   .rw[k]at i;exact absurd (ã i) (B _)
   .rw[k]at i;exact(let ⟨_,z⟩:=r _ _ (ã i);by cases z)
   .have:=(I.bs a o (I.mod.kin a o i)).2;rw[k]at this;cases this
  |non=>cases mT h'
  |bl b=>cases tI h'
  |int b=>cases xB h'
  |str b=>cases wH h'
  |typ b=>cases mU h'
  |obj c ns es=>
   obtain⟨p,C,dx,us,F,e2,j,_⟩:=fF h';cases e2;rcases i with(i|⟨o,i⟩)|⟨o,its,n,i,_⟩
   .rw[j]at i;cases i
   .rw[j]at i;cases i
   .have:=(I.bs a o (I.mod.kin a o i)).2;rw[j]at this;cases this
 |.scr ds,f,v,h,h'=>by
  obtain⟨a,vs,rfl,i,A⟩:=fG h
  cases f with
  |scr es=>
   obtain⟨p,us,e2,w,q⟩:=fG h';cases e2;cases I.list_inj i.l w.l;rw[DenL.inj I u A q]
  |tup es=>obtain⟨p,us,e2,w,q⟩:=xC h';cases e2;exact(FM I i.l w).elim
  |loc l=>
   obtain⟨p,e2,j⟩:=aF h';cases e2;obtain⟨G,k,B,r⟩:=u.mem (ñ j);rcases i with⟨o,i⟩|⟨o,its,n,i,_⟩
   .rw[k]at i;exact(let ⟨_,z⟩:=r _ _ (ã i);by cases z)
   .have:=(I.bs a o (I.mod.kin a o i)).2;rw[k]at this;cases this
  |non=>cases mT h'
  |bl b=>cases tI h'
  |int b=>cases xB h'
  |str b=>cases wH h'
  |typ b=>cases mU h'
  |obj c ns es=>
   obtain⟨p,C,dx,us,F,e2,j,_⟩:=fF h';cases e2;rcases i with⟨o,i⟩|⟨o,its,n,i,_⟩
   .rw[j]at i;cases i
   .have:=(I.bs a o (I.mod.kin a o i)).2;rw[j]at this;cases this
 |.loc l,f,v,h,h'=>by
  obtain⟨a,rfl,h1⟩:=aF h;obtain⟨G,k,B,r⟩:=u.mem (ñ h1)
  cases f with
  |loc m=>
   obtain⟨p,e2,j⟩:=aF h';cases e2;by_cases D:l=m
   .rw[D]
   .exact absurd rfl (u.ne h1 j D)
  |tup es=>
   obtain⟨p,us,e2,i,q⟩:=xC h';cases e2;rcases i with(i|⟨o,i⟩)|⟨o,its,n,i,_⟩
   .rw[k]at i;exact absurd (ã i) (B _)
   .rw[k]at i;exact(let ⟨_,z⟩:=r _ _ (ã i);by cases z)
   .have:=(I.bs a o (I.mod.kin a o i)).2;rw[k]at this;cases this
  |scr es=>
   obtain⟨p,us,e2,i,q⟩:=fG h';cases e2;rcases i with⟨o,i⟩|⟨o,its,n,i,_⟩
   .rw[k]at i;exact(let ⟨_,z⟩:=r _ _ (ã i);by cases z)
   .have:=(I.bs a o (I.mod.kin a o i)).2;rw[k]at this;cases this
  |non=>cases mT h'
  |bl b=>cases tI h'
  |int b=>cases xB h'
  |str b=>cases wH h'
  |typ b=>cases mU h'
  |obj c ns es=>
   obtain⟨p,C,dx,us,F,e2,j,_⟩:=fF h';cases e2;rw[k]at j;exact(let ⟨_,z⟩:=r _ _ (ã j);by cases z)
 |.obj c ns ds,f,v,h,h'=>by
  obtain⟨a,C,dx,us,F,rfl,j,Q,N,P,A⟩:=fF h
  cases f with
  |obj c' ns' es=>
   obtain⟨p,C2,O,M,T,e2,y,L,E,J,q⟩:=fF h';cases e2;rw[j]at y;injection y with y
   injection y with _ y
   injection y with e1 e2 e3
   subst e1;rw[N]at E;cases E;obtain⟨rfl,rfl⟩:=Et P J e3;rw[DenL.inj I u A q]
  |tup es=>
   obtain⟨p,us,e2,i,q⟩:=xC h';cases e2;rcases i with(i|⟨o,i⟩)|⟨o,its,n,i,_⟩
   .rw[j]at i;cases i
   .rw[j]at i;cases i
   .have:=(I.bs a o (I.mod.kin a o i)).2;rw[j]at this;cases this
  |scr es=>
   obtain⟨p,us,e2,i,q⟩:=fG h';cases e2;rcases i with⟨o,i⟩|⟨o,its,n,i,_⟩
   .rw[j]at i;cases i
   .have:=(I.bs a o (I.mod.kin a o i)).2;rw[j]at this;cases this
  |loc l=>
   obtain⟨p,e2,h1⟩:=aF h';cases e2;obtain⟨G,k,B,r⟩:=u.mem (ñ h1);rw[k]at j;exact(let ⟨_,z⟩:=r _ _ (ã j);by cases z)
  |non=>cases mT h'
  |bl b=>cases tI h'
  |int b=>cases xB h'
  |str b=>cases wH h'
  |typ b=>cases mU h'
theorem DenL.inj(I:↑2)(b:Wd X.g α S H): ∀{ds fs:U0}{vs:List V},DenL X.K α H ds vs->DenL X.K α H fs vs->ds=fs
 |[],fs,vs,h,h'=>by
  cases h.isnil
  cases fs with
  |nil=>rfl
  |cons f fs=>obtain⟨_,_,e,_⟩:=h'.uncons;cases e
 |d::ds,fs,vs,h,h'=>by
  obtain⟨v,r,rfl,a,l⟩:=h.uncons
  cases fs with
  |nil=>cases h'.isnil
  |cons f fs=>
   obtain⟨j,k,e,i,c⟩:=h'.uncons;cases e;rw[Den.inj I b a i,DenL.inj I b l c]
end
end
inductive LexR(A:Ň)(s:Ņ):List ņ->List ņ->Bool->Prop
 |nn:LexR A s [] [] false
 |nc (x xs):LexR A s [] (x::xs) true
 |cn (y ys):LexR A s (y::ys) [] false
 |eq {y x ys xs k}:SeqAt.EqAt A s y x true->LexR A s ys xs k->LexR A s (y::ys) (x::xs) k
 |ne {y x ys xs k}:SeqAt.EqAt A s y x false->(∀(prog:ň)(w:World)(E Q:VP),Q (.bool k) s->wpAny (model prog w) A (richCompare .Lt y x) Q E s)->LexR A s (y::ys) (x::xs) k
section
open PySem.SeqAt
open PySem.AutoSeq1 (wpAny_loadPart')
open PySem.MeetsSeq PySem.MeetsSeq2 PySem.MeetsSeq3
theorem Bm(l b:Addr)(its e:B0)(n B:Nat)(C p:Option Addr)(sl q:Array (Option ņ))(k:Bool):
  Meets (Builtin.«tuple.__lt__» ⟨[.ref l,.ref b],[]⟩)
   (λA R s=>s.heap.get? l=some {cls:=.type "tuple",dict:=C,data:=.seq its n,slots:=sl}/\s.heap.get? b=some {cls:=.type "tuple",dict:=p,data:=.seq e B,slots:=q}/\
    LexR A.in1 s its.toList e.toList k/\R (.ok (.ret (.bool k))) s):=
 .of_wp λprog w A R s h=>by
  obtain⟨r,g,d,tk,u⟩:=s;obtain⟨D,v,m,h⟩:=h;have f2:=AutoSeq1.sub_tuple_tuple
  wp_walk using wpAny_loadPart' D,wpAny_loadPart' v,wpAny_forIn_list _ (λrest b s'=>b.1=none/\s'=⟨r,g,d,tk,u⟩/\ ∃(vs ws:A0),rest=vs.zip ws/\
   LexR A.in1 ⟨r,g,d,tk,u⟩ vs ws k/\vs.length+e.size=ws.length+its.size) _
  case turn=>
   rintro⟨y,x⟩ rest b s' ⟨i,rfl,vs,ws,c,j,a⟩
   cases j with
   |nn=>rw[zip_nil_left]at c;cases c
   |nc x xs=>rw[zip_nil_left]at c;cases c
   |cn y ys=>rw[List.zip_nil_right]at c;cases c
   |@eq y' x' ys xs k' he hr=>
    rw[ě]at c;injection c with hyx hrest
    injection hyx with hy m
    subst hy m;simp only[lC]at a;refine wB (he prog w _ _ ?_)
    wp_walk
    exact⟨rfl,rfl,_,_,hrest,hr,by lia⟩
   |@ne y' x' ys xs k' he hr=>
    rw[ě]at c;injection c with hyx hrest
    injection hyx with hy m
    subst hy m;refine wB (he prog w _ _ ?_);have o:=hr prog w
    wp_walk using o
    exact⟨_,rfl,by simpa using h⟩
  case fin=>
   rintro⟨F,E⟩ s' ⟨i,rfl,vs,ws,c,j,a⟩;simp only at i;subst i
   have z:k=decide (its.size<e.size):=by
    cases j with
    |nn=>simp only[ĉ]at a;exact(dF0 #[0]).symm
    |nc x xs=>simp only[ĉ,lC]at a;exact(dT0 #[0]).symm
    |cn y ys=>simp only[ĉ,lC]at a;exact(dF0 #[0]).symm
    |eq he hr=>rw[ě]at c;cases c
    |ne he hr=>rw[ě]at c;cases c
   rw[z]at h
   wp_walk
   exact⟨_,rfl,by simpa [Builtin.Tuple.tupleCompareSizes]using h⟩
  case h=>
   exact⟨rfl,rfl,_,_,rfl,m,by simp;lia⟩
end
def Ol{A:Ň}{s:Ņ}{l b:Addr}{a:B0}{k:Bool}(C:IsTup s.heap l its)(y:IsTup s.heap b a)(z:LexR A.in1 s its.toList a.toList k)(D:A.units<cLine)(prog:ň)(w:World)(E Q:VP)(h:Q (.bool k) s):
  wpAny ↑9 A (richCompare .Lt (.ref l) (.ref b)) Q E s:=by
 obtain⟨⟨u,B,p,sl⟩,o,q,n,v⟩:=id C;obtain⟨⟨m,e,_,j⟩,c,i,r,d⟩:=id y;subst q v i d
 exact richCompare_meets_room ⟨_,o,rfl⟩ ⟨_,c,rfl⟩ PySem.F.slot_tuple_lt PySem.F.entry_tuple_lt (PySem.F.args_tuple_lt_2 _ _) (Bm l b its a n r B e sl j k)
  ⟨o,c,z,show Value.bool k≠Value.notImplemented/\Q _ s from⟨(λx=>nomatch x),h⟩⟩ D
noncomputable def UF(e l:MV->MV->Option Bool):List MV->List MV->Option Bool
 |[],[]=>some false
 |[],_::_=>some true
 |_::_,[]=>some false
 |d::ds,f::fs=>(e d f).bind λk=>if k=true then UF e l ds fs else l d f
def LA(S:Sto):Nat->MV->MV->Option Bool
 |0,_,_=>none
 |n+1,.int i,.int j=>some (decide (i<j))
 |n+1,.str x,.str y=>some (decide (x<y))
 |n+1,.tup ds,.tup es=>UF (eqv S n) (LA S n) ds es
 |_,_,_=>none
section
variable{X:Cx}{α:B9}{S:Sto}{H:Hp}{pins:M0}{σ:St}{s:Ņ}
theorem Om{A:Ň}{e l:MV->MV->Option Bool}(i: ∀d f x y u v k,Den X.K α H d x->Den X.K α H f y->RelV x u->RelV y v->e d f=some k->SeqAt.EqAt A s u v k)
  (hl: ∀d f x y u v k,Den X.K α H d x->Den X.K α H f y->RelV x u->RelV y v->l d f=some k-> ∀(prog:ň)(w:World)(E Q:VP),Q (.bool k) s->wpAny ↑9 A (richCompare .Lt u v) Q E s):
  ∀{ds fs:U0}{vs us:List V}{its c:A0}{k:Bool},DenL X.K α H ds vs->DenL X.K α H fs us->Vals vs its->Vals us c->UF e l ds fs=some k->LexR A s its c k
 |[],[],_,_,_,_,k,l1,l2,r1,r2,h=>by cases l1.isnil;cases l2.isnil;cases r1;cases r2;cases h;exact .nn
 |[],f::fs,_,_,_,_,k,l1,l2,r1,r2,h=>by
  cases l1.isnil;obtain⟨v,r,rfl,a,l⟩:=l2.uncons;cases r1
  cases r2 with
  |cons a b=>cases h;exact .nc _ _
 |d::ds,[],_,_,_,_,k,l1,l2,r1,r2,h=>by
  cases l2.isnil;obtain⟨v,r,rfl,a,l⟩:=l1.uncons;cases r2
  cases r1 with
  |cons a b=>cases h;exact .cn _ _
 |d::ds,f::fs,_,_,_,_,k,l1,l2,r1,r2,h=>by
  obtain⟨v,r,rfl,a,m⟩:=l1.uncons;obtain⟨p,o,rfl,j,n⟩:=l2.uncons
  cases r1 with
  |cons b1 c1=>
   cases r2 with
   |cons b2 c2=>
    unfold UF at h
    cases z:e d f with
    |none=>rw[z]at h;cases h
    |some kk=>
     rw[z]at h;have h:(if kk=true then UF e l ds fs else l d f)=some k:=h
     cases kk with
     |true=>
      exact .eq (i d f _ _ _ _ _ a j b1 b2 z) (Om i hl m n c1 c2 h)
     |false=>
      exact .ne (i d f _ _ _ _ _ a j b1 b2 z) (hl d f _ _ _ _ _ a j b1 b2 h)
theorem Bn(I:↑2)(p:Wd X.g α S H): ∀(n:Nat)(A:Ň)(d f:MV)(x y:V)(u v:ņ)(k:Bool),A.units+n<cLine->Den X.K α H d x->Den X.K α H f y->RelV x u->RelV y v->LA S n d f=some k->
  ∀(prog:ň)(w:World)(E Q:VP),Q (.bool k) s->wpAny ↑9 A (richCompare .Lt u v) Q E s
 |0,_,_,_,_,_,_,_,_,_,_,_,_,_,h=>by cases h
 |n+1,A,d,f,x,y,u,v,k,hu,h1,h2,rx,ry,h=>by
  intro prog w E Q i;unfold LA at h;split at h
  .cases h
  .cases h;cases xB h1;cases xB h2;obtain⟨t,rfl⟩:=rx;obtain⟨t',rfl⟩:=ry;exact(PyProof.Rows.lt_int i:wpAny _ A _ Q E s)
  .cases h;cases wH h1;cases wH h2;obtain⟨t,rfl⟩:=rx;obtain⟨t',rfl⟩:=ry;refine(PySem.P.lt_str ?_:wpAny _ A _ Q E s);exact i
  .rename_i G ds es F;obtain⟨a,vs,rfl,C,q⟩:=xC h1;obtain⟨b,us,rfl,r,D⟩:=xC h2;cases rx;cases ry;obtain⟨its,B,pt,_⟩:=I.tuple C;obtain⟨o,z,j,_⟩:=I.tuple r;cases F;refine Ol pt j ?_ #[0] prog w E Q i
   exact Om (λd f x y u v k a b c m e=>HS I p n A.in1 d f x y u v k (show A.units+1+n<cLine by lia) a b c m e)
    (λd f x y u v k a b c m e=>Bn I p n A.in1 d f x y u v k (show A.units+1+n<cLine by lia) a b c m e) q D B z h
  .cases h
end
section
variable{X:Cx}{W:XW}{a b c e:Expr}{es:P0}{f g h:AX}{pos:Pos}
noncomputable def Ma(C:Int->Int->Prop)[∀i j,Decidable (C i j)](g:Int->Int->Int):Er->Er->Sto->R Er
 |.val (.int i),.val (.int j),S=>if C i j then .ok (.val (.int (g i j))) S else .no
 |_,_,_=>.no
noncomputable def zFG(g:Int->Int->Bool):Er->Er->Sto->R Er
 |.val (.int i),.val (.int j),S=>.ok (.val (.bl (g i j))) S
 |_,_,_=>.no
def HU{C b:Int->Int->Prop}[∀i j,Decidable (C i j)]{g:Int->Int->Int}(h: ∀i j,C i j->b i j):Eo X W (rI b λi j=>.int (g i j)) (Ma C g):=by
 intro p q x y α S H Q d k e a;unfold Ma at a;split at a
 .split at a
  .rename_i c;exact⟨_,_,xP k,xP e,h _ _ c,Post.val a d (xZ _)⟩
  .exact a.elim
 .exact a.elim
def Eu{g:Int->Int->Int}:Eo X W (Uc λi j=>.int (g i j)) (Ma (λ_ _=>True) g):=by
 intro p q x y α S H Q b d c a;unfold Ma at a;split at a
 .rw[iP trivial]at a;exact⟨_,_,xP d,xP c,Post.val a b (xZ _)⟩
 .exact a.elim
def Bo{g:Int->Int->Bool}:Eo X W (Uc λi j=>.bl (g i j)) (zFG g):=by
 intro p q x y α S H Q b d c a;unfold zFG at a;split at a
 .exact⟨_,_,xP d,xP c,Post.val a b (nO _)⟩
 .exact a.elim
abbrev Jm:=Ma (λ_ _=>True) λi j=>i - j
def X6(d:zN X W a f)(c:zN X W b g):zN X W (.BinOp a .Sub b pos) (λρ S=>(f ρ S).bind λp S1=>(g ρ S1).bind λq S2=>Jm p q S2):=FG P8 Eu d c
def Vy(_ j:Int):Prop:=0<j/\j.natAbs.log2<9000
instance(i j:Int):Decidable (Vy i j):=inferInstanceAs (Decidable (_/\_))
abbrev PZ:=Ma Vy λi j=>i / j
theorem On:OpR X (binaryOp .FloorDiv) (rI Vy λi j=>.int (i / j)):=zDK λi j _ _ _ _ _ a q=>by have e:=Int.fdiv_eq_ediv_of_nonneg i (Int.le_of_lt a.1);refine floordiv_int (by have:=a.1;lia) ?_ (.inl (PyProof.noPylong_of_log2 a.2));rw[e];exact q
def X7(c:zN X W a f)(d:zN X W b g):zN X W (.BinOp a .FloorDiv b pos) (λρ S=>(f ρ S).bind λp S1=>(g ρ S1).bind λq S2=>PZ p q S2):=FG On (HU λi j h=>h) c d
abbrev KM:=Ma (λ_ j=>0<j) λi j=>i % j
def X8(c:zN X W a f)(d:zN X W b g):zN X W (.BinOp a .Mod b pos) (λρ S=>(f ρ S).bind λp S1=>(g ρ S1).bind λq S2=>KM p q S2):=FG P9 (HU λi j h=>h) c d
def X9(i j:Int):Prop:=0<=j/\(Builtin.Int.intBits i:Int) * j<=2 ^ 27
instance(i j:Int):Decidable (X9 i j):=inferInstanceAs (Decidable (_/\_))
abbrev Vz:=Ma X9 λi j=>i ^ j.toNat
def Wa:OpR X (binaryOp .Pow) (rI X9 λi j=>.int (i ^ j.toNat)):=zDK λ_ _ _ _ _ _ _ a q=>pow_int a.1 a.2 q
def Y1(c:zN X W a f)(d:zN X W b g):zN X W (.BinOp a .Pow b pos) (λρ S=>(f ρ S).bind λp S1=>(g ρ S1).bind λq S2=>Vz p q S2):=FG Wa (HU λi j h=>h) c d
def Y2(i j:Int):Prop:=0<=j/\j<=1000000/\i.natAbs<2 ^ 64
instance(i j:Int):Decidable (Y2 i j):=inferInstanceAs (Decidable (_/\_/\_))
abbrev Y3:=Ma Y2 λi j=>i * 2 ^ j.toNat
def Y4(c:zN X W a f)(d:zN X W b g):zN X W (.BinOp a .LShift b pos) (λρ S=>(f ρ S).bind λp S1=>(g ρ S1).bind λq S2=>Y3 p q S2):=FG Q3 (HU λi j h=>h) c d
noncomputable def Wb(S:Sto):Er->Option (List MV)
 |.new ds=>some ds
 |.val (.loc l)=>match S[l]? with
  |some (.lst ds)=>some ds
  |_=>none
 |_=>none
def Bp(i:Wd X.g α S H){r:Er}{ds:U0}{x:V}(e:Wb S r=some ds)(d:DenX X.K α H r x): ∃a vs,x=.ref a/\H a=some (.lst vs)/\DenL X.K α H ds vs:=by
 unfold Wb at e;split at e
 .cases e;obtain⟨b,vs,rfl,h,_,l⟩:=d;exact⟨b,vs,rfl,h,l⟩
 .rename_i n;obtain⟨a,rfl,h⟩:=sN d;split at e
  .rename_i es c;cases e;obtain⟨vs,h1,l⟩:=i.obj n a _ h c;exact⟨a,vs,rfl,h1,l⟩
  .cases e
 .cases e
def Ew(p q:Er)(S:Sto):R Er:=match Wb S p,Wb S q with
 |some x,some y=>if x.length+y.length<=sizeLine then .ok (.new (x++y)) S else .no
 |_,_=>.no
def wK:Er->Er->Sto->R Er
 |.val (.int i),.val (.int j),S=>.ok (.val (.int (i+j))) S
 |.val (.str x),.val (.str y),S=>if x.length+y.length<=sizeLine then .ok (.val (.str (x++y))) S else .no
 |.val (.tup x),.val (.tup y),S=>if x.length+y.length<=sizeLine then .ok (.val (.tup (x++y))) S else .no
 |p,q,S=>Ew p q S
def Oo:OpR X (binaryOp .Add) (λx y H Q=> ∃a b ys,x=.ref a/\y=.ref b/\SqT X.K H a []/\SqT X.K H b ys/\Q (.ref b) H):=by
 intro pins s σ H x y v u Q I B J h;obtain⟨a,b,ys,rfl,rfl,r,z,q⟩:=h;cases B;cases J;obtain⟨its,A,p1,_⟩:=I.tuple r;obtain⟨k,M,p2,_⟩:=I.tuple z;have D:=A.nil_iff.mpr rfl;subst D;obtain⟨⟨G,L,p,sl⟩,o,C,n,w⟩:=id p1;obtain⟨⟨m,e,_,j⟩,c,i,E,d⟩:=id p2;subst C w i d
 exact concat_meets ⟨_,o,rfl⟩ ⟨_,c,rfl⟩ noFill_tuple_add seq_tuple_add PySem.F.slot_tuple_add PySem.F.entry_tuple_add (PySem.F.args_tuple_add_2 _ _)
  (tuple_addW0 a b _ _ n E L e sl j rfl) ⟨o,c,⟨.ref b,H,I,rfl,q⟩⟩
def Y5(B:zN X W a f)(C:zN X W b g):zN X W (.BinOp a .Add b pos) (λρ S=>(f ρ S).bind λp S1=>(g ρ S1).bind λq S2=>wK p q S2):=by
 refine FG (P6.or (Ay.or (S7.or (Ur.or Oo)))) ?_ B C;intro p q x y α S H Q d k n c;unfold wK at c;split at c
 .exact .inl ⟨_,_,xP k,xP n,Post.val c d (xZ _)⟩
 .split at c
  .rename_i i;refine .inr (.inl ⟨_,_,mV k,mV n,by rw[oR];exact i,?_⟩);rw[TR];exact Post.val c d (uD _)
  .exact c.elim
 .split at c
  .rename_i z v i;obtain⟨j,vs,rfl,r,e⟩:=mW k;obtain⟨m,us,rfl,o,h⟩:=mW n;by_cases w:vs=[]
   .subst w;have s:=e.length;refine .inr (.inr (.inr (.inr ⟨j,m,us,rfl,rfl,r,o,?_⟩)));have:z=[]:=by cases z with |nil=>rfl|cons _ _=>simp at s
    subst this;exact Post.val c d (uE o h)
   .refine .inr (.inr (.inr (.inl ⟨j,m,vs,us,rfl,rfl,r,o,w,by rw[e.length,h.length];exact i,λh1=>?_,λh1 p u=>Post.newt c d u (e.append h)⟩)));subst h1;have s:=h.length;have:v=[]:=by cases v with |nil=>rfl|cons _ _=>simp at s
    subst this;rw[aN]at c;exact Post.val c d (uE r e)
  .exact c.elim
 .unfold Ew at c;split at c
  .rename_i E D e1 e2;split at c
   .rename_i i;obtain⟨j,vs,rfl,h1,e⟩:=Bp d e1 k;obtain⟨m,us,rfl,A,h⟩:=Bp d e2 n;exact .inr (.inr (.inl ⟨j,m,vs,us,rfl,rfl,h1,A,by rw[e.length,h.length];exact i,λp u=>Post.newl c d u (e.append h)⟩))
   .exact c.elim
  .exact c.elim
def mulC(i j:Int):Prop:=(-(2 ^ 64)<i/\i<2 ^ 64)\/(-(2 ^ 64)<j/\j<2 ^ 64)\/(i.natAbs.log2<4000/\j.natAbs.log2<4000)
theorem Ex{i:Int}(h:i.natAbs.log2<4000):Builtin.Int.intBits i<=2 ^ 20:=by unfold Builtin.Int.intBits;split<;>lia
def mulC.ok{i j:Int}(h:mulC i j):IntMulOk i j:=by
 rcases h with h|h|⟨h1,h2⟩
 .exact CMul.ok (.inl h)
 .exact CMul.ok (.inr h)
 .exact .of_bits (Ex h1) (Ex h2)
def Wc{X:Cx}:OpR X (binaryOp .Mult) (rI mulC λi j=>.int (i * j)):=zDK λ_ _ _ _ _ _ _ a q=>mul_int q a.ok
instance(i j:Int):Decidable (mulC i j):=inferInstanceAs (Decidable (_\/_\/_))
abbrev vW:=Ma mulC λi j=>i * j
theorem DenL.rep{K:Q0}{ds:U0}(l:DenL K α H ds vs): ∀k:Nat,DenL K α H (List.replicate k ds).flatten (List.replicate k vs).flatten
 |0=>yL
 |k+1=>by rw[List.replicate_succ];exact l.append (DenL.rep l k)
def Y6(c:zN X W a f)(d:zN X W b g):zN X W (.BinOp a .Mult b pos) (λρ S=>(f ρ S).bind λp S1=>(g ρ S1).bind λq S2=>vW p q S2):=FG Wc (HU λi j h=>h) c d
def zQ:Nat:=40
def fD(p q:Er)(S:Sto):R Er:=match FL S zQ p q with
 |some k=>.ok (.val (.bl k)) S
 |none=>.no
def HV(p q:Er)(S:Sto):R Er:=match FL S zQ p q with
 |some k=>.ok (.val (.bl !k)) S
 |none=>.no
theorem Oq(m:↑37):OpR X (compareOp .Eq) (λx y H Q=> ∃α S p q k,Wd X.g α S H/\DenX X.K α H p x/\DenX X.K α H q y/\FL S zQ p q=some k/\Q (.bl k) H):=by intro pins s σ H x y v u Q I j b h;obtain⟨α,S,p,q,k,a,i,d,e,c⟩:=h;exact X4 I a zQ (by unfold zQ;lia) i d j b e X.prog X.w _ _ ⟨.bl k,H,I,rfl,c⟩
theorem Os(m:↑37):OpR X (compareOp .NotEq) (λx y H Q=> ∃α S p q k,Wd X.g α S H/\DenX X.K α H p x/\DenX X.K α H q y/\FL S zQ p q=some k/\Q (.bl (!k)) H):=by intro pins s σ H x y v u Q I j b h;obtain⟨α,S,p,q,k,a,i,d,e,c⟩:=h;exact X5 I a zQ (by unfold zQ;lia) i d j b e X.prog X.w _ _ ⟨.bl (!k),H,I,rfl,c⟩
def Ey:Eo X W (λx y H Q=> ∃α S p q k,Wd X.g α S H/\DenX X.K α H p x/\DenX X.K α H q y/\FL S zQ p q=some k/\Q (.bl k) H) fD:=by
 intro p q x y α S H Q b d c a;unfold fD at a;split at a
 .rename_i k e;exact⟨α,S,p,q,k,b,d,c,e,Post.val a b (nO _)⟩
 .exact a.elim
def Ez:Eo X W (λx y H Q=> ∃α S p q k,Wd X.g α S H/\DenX X.K α H p x/\DenX X.K α H q y/\FL S zQ p q=some k/\Q (.bl (!k)) H) HV:=by
 intro p q x y α S H Q b d c a;unfold HV at a;split at a
 .rename_i k e;exact⟨α,S,p,q,k,b,d,c,e,Post.val a b (nO _)⟩
 .exact a.elim
def zFH(e:↑37)(c:zN X W a f)(d:zN X W b g):zN X W (.Compare a [.Eq] [b] pos) (λρ S=>(f ρ S).bind λp S1=>(g ρ S1).bind λq S2=>fD p q S2):=LZ (Oq e) Ey c d
def zFI(e:↑37)(c:zN X W a f)(d:zN X W b g):BV X W (.Compare a [.Eq] [b] pos) (λρ S=>((f ρ S).bind λp S1=>(g ρ S1).bind λq S2=>fD p q S2).bind hX):=uF (Oq e) Ey c d
def zFJ(e:↑37)(c:zN X W a f)(d:zN X W b g):zN X W (.Compare a [.NotEq] [b] pos) (λρ S=>(f ρ S).bind λp S1=>(g ρ S1).bind λq S2=>HV p q S2):=LZ (Os e) Ez c d
def zFK(e:↑37)(c:zN X W a f)(d:zN X W b g):BV X W (.Compare a [.NotEq] [b] pos) (λρ S=>((f ρ S).bind λp S1=>(g ρ S1).bind λq S2=>HV p q S2).bind hX):=uF (Os e) Ez c d
def We:Er->Er->Sto->R Er
 |.val d,.val f,S=>match LA S zQ d f with
  |some k=>.ok (.val (.bl k)) S
  |none=>.no
 |_,_,_=>.no
theorem Ot(n:↑37):OpR X (compareOp .Lt) (λx y H Q=> ∃α S d f k,Wd X.g α S H/\Den X.K α H d x/\Den X.K α H f y/\LA S zQ d f=some k/\Q (.bl k) H):=by intro pins s σ H x y v u Q I m b h;obtain⟨α,S,d,f,k,a,j,i,e,c⟩:=h;exact Bn I a zQ X.A d f x y v u k (by unfold zQ;lia) j i m b e X.prog X.w _ _ ⟨.bl k,H,I,rfl,c⟩
def Fa:Eo X W (λx y H Q=> ∃α S d f k,Wd X.g α S H/\Den X.K α H d x/\Den X.K α H f y/\LA S zQ d f=some k/\Q (.bl k) H) We:=by
 intro p q x y α S H Q b h c a;unfold We at a;split at a
 .split at a
  .rename_i k e;exact⟨α,S,_,_,k,b,h,c,e,Post.val a b (nO _)⟩
  .exact a.elim
 .exact a.elim
def zFL(e:↑37)(c:zN X W a f)(d:zN X W b g):zN X W (.Compare a [.Lt] [b] pos) (λρ S=>(f ρ S).bind λp S1=>(g ρ S1).bind λq S2=>We p q S2):=LZ (Ot e) Fa c d
def zFM(e:↑37)(c:zN X W a f)(d:zN X W b g):BV X W (.Compare a [.Lt] [b] pos) (λρ S=>((f ρ S).bind λp S1=>(g ρ S1).bind λq S2=>We p q S2).bind hX):=uF (Ot e) Fa c d
abbrev zFN:=zFG λi j=>decide (j<i)
abbrev geF:=zFG λi j=>decide (j<=i)
def zFO(d:zN X W a f)(c:zN X W b g):zN X W (.Compare a [.Gt] [b] pos) (λρ S=>(f ρ S).bind λp S1=>(g ρ S1).bind λq S2=>zFN p q S2):=LZ E5 Bo d c
def zFP(d:zN X W a f)(c:zN X W b g):BV X W (.Compare a [.Gt] [b] pos) (λρ S=>((f ρ S).bind λp S1=>(g ρ S1).bind λq S2=>zFN p q S2).bind hX):=uF E5 Bo d c
def zFQ(d:zN X W a f)(c:zN X W b g):BV X W (.Compare a [.GtE] [b] pos) (λρ S=>((f ρ S).bind λp S1=>(g ρ S1).bind λq S2=>geF p q S2).bind hX):=uF zEK Bo d c
def getL(ds:U0):Er->Sto->R Er
 |.val (.int i),S=>match uA ds i with |some d=>.ok (.val d) S|none=>.no
 |_,_=>.no
def zU:Er->Er->Sto->R Er
 |.val (.str x),.val (.int i),S=>if x.length<=sizeLine then match uA x i with |some c=>.ok (.val (.str [c])) S|none=>.no else .no
 |.val (.tup ds),q,S=>getL ds q S
 |p,q,S=>match kS S p with |some ds=>getL ds q S|none=>.no
def Wf{K:Q0}{ds:U0}{i:Int}{d:MV}(l:DenL K α H ds vs)(e:uA ds i=some d): ∃v,uA vs i=some v/\Den K α H d v:=by
 unfold uA at e ⊢;rw[l.length]
 cases z:XB ↑23 i with
 |none=>rw[z]at e;cases e
 |some j=>
  rw[z]at e;obtain⟨v,h1,a⟩:=l.at e;exact⟨v,h1,a⟩
def zFR(w:zN X W a f)(z:zN X W b g)(hs:KY b:=by exact λ_ _=>rfl):zN X W (.Subscript a b pos) (λρ S=>(f ρ S).bind λp S1=>(g ρ S1).bind λq S2=>zU p q S2):=by
 refine F4 R5 ?_ w z hs;intro p q x y α S H Q r o s c;have j: ∀{ds:U0}{vs:List V}{i:Int}{d:MV},DenL X.K α H ds vs->uA ds i=some d->Post X.g W α H _ Q-> ∃v,uA vs i=some v/\Q v H:=λl e c=>by obtain⟨v,h1,h⟩:=Wf l e;exact⟨v,h1,Post.val c r h⟩
 unfold zU at c;split at c
 .split at c
  .rename_i B;split at c
   .rename_i u e;refine .inr (.inr ⟨_,_,u,mV o,xP s,by rw[oR];exact B,by rw[Uy];exact e,?_⟩);exact Post.val c r (uD [u])
   .exact c.elim
  .exact c.elim
 .unfold getL at c;split at c
  .split at c
   .rename_i d e;obtain⟨m,vs,rfl,n,k⟩:=mW o;obtain⟨v,h1,h⟩:=j k e c;exact .inr (.inl ⟨m,vs,_,v,rfl,xP s,n,h1,h⟩)
   .exact c.elim
  .exact c.elim
 .split at c
  .rename_i ds A;unfold getL at c;split at c
   .split at c
    .rename_i d e;obtain⟨m,vs,rfl,n,k⟩:=tN rfl r A o;obtain⟨v,h1,h⟩:=j k e c;exact .inl ⟨m,vs,_,v,rfl,xP s,n,h1,h⟩
    .exact c.elim
   .exact c.elim
  .exact c.elim
end
def QA{prog:ň}{w:World}{A:Ň}{E:VP}{s:Ņ}{t sl:Addr}{e i:ņ}{lo hi:O0}(j:IsTup s.heap t its)(hs:s.heap.IsSliceOf sl e i .none)(k:IsPart e lo)(m:IsPart i hi)
  (h0:HT.sIx its.size 0 lo=0) (h1:HT.sIx its.size its.size hi=its.size) (h:Q (.ref t) s):wpAny ↑9 A (getItem (.ref t) (.ref sl)) Q E s:=by
 have b:s.TypeIs (.ref sl) "slice":=by obtain⟨n,d,c,_⟩:=id hs;exact⟨n,d,c⟩
 have a:=j.typeIs;unfold getItem
 try with_reducible refine Ą ?_
 first |refine wB _|skip
 refine wB (wpAny_sequenceKey a ↑7 ?_);refine wB (Ĉ a Ģ (ö Ģ a entry_tuple_getitem ?_ (args_tuple_getitem _ _)));show wpAny _ _ (Builtin.Tuple.tupleItemsOf _ >>= _) _ _ s;refine wB (tupleItemsOf_ j (wB (Ĵ b ?_)));refine wB (HT.sliceApplied_gen hs k m ?_);show wpAny _ _ (if _=true then _ else _) _ _ s;rw[iP (by rw[h0,h1];simp)];refine wB (wB (Ĵ a (wP ?_)));refine wB (İ ?_)
 first
  |exact wP ⟨_,rfl,wP h⟩
  |exact wB _
  |exact wB _
section
variable{X:Cx}{W:XW}{a e:Expr}{f h:AX}{pos:Pos}
def Wg:SlR X (λx lo hi H Q=> ∃a xs,x=.ref a/\SqT X.K H a xs/\HT.sIx ↑33 0 lo=0/\HT.sIx ↑33 ↑33 hi=↑33/\Q (.ref a) H):=by
 intro pins s σ H x v m n lo hi sl Q I k hs i j h;obtain⟨a,xs,rfl,e,d,h1,q⟩:=h;cases k;obtain⟨its,r,c,o⟩:=I.tuple e;have b:its.toArray.size=xs.length:=by rw[sA];exact r.length.symm
 exact⟨_,_,PyProof.Rows.slot_tuple_getitem.lookup,c.typeIs,QA c hs i j (by rw[b];exact d) (by rw[b];exact h1) ⟨.ref a,H,I,rfl,q⟩⟩
def EC:Er->Option Int->Option Int->Sto->R Er
 |.val (.str x),lo,hi,S=>if x.length<=sizeLine then .ok (.val (.str (cQ x lo hi))) S else .no
 |.val (.tup ds),lo,hi,S=>.ok (.val (.tup (cQ ds lo hi))) S
 |p,lo,hi,S=>match kS S p with |some ds=>.ok (.new (cQ ds lo hi)) S|none=>.no
def Jn{α:Type}{ds:List α}{lo hi:O0}(a:HT.sIx ↑23 0 lo=0)(h1:HT.sIx ↑23 ↑23 hi=↑23):cQ ds lo hi=ds:=by unfold cQ;rw[a,h1];simp
def Y7{lo hi:Option Expr}{lf m:Rho->Sto->R (Option Int)}{p2:Pos}(n:zN X W a f)(q:T9 X W lo lf)(o:T9 X W hi m):zN X W (.Subscript a (.Slice lo hi none p2) pos) (λρ S=>(f ρ S).bind λp S1=>(lf ρ S1).bind λl S2=>(m ρ S2).bind λu S3=>EC p l u S3):=by
 refine Oc (S9.or (Ut.or (R4.or Wg))) ?_ n q o;intro p lo hi x α S H Q d k b;unfold EC at b;split at b
 .split at b
  .rename_i s;exact .inl ⟨_,mV k,s,Post.val b d (uD _)⟩
  .exact b.elim
 .rename_i _ _ _ ds;obtain⟨i,vs,rfl,h,c⟩:=mW k;by_cases hw:HT.sIx vs.length 0 lo=0/\HT.sIx vs.length vs.length hi=vs.length
  .have e:=Jn (by rw[<-c.length];exact hw.1) (by rw[<-c.length];exact hw.2);rw[e]at b;exact .inr (.inr (.inr ⟨i,vs,rfl,h,hw.1,hw.2,Post.val b d (uE h c)⟩))
  .exact .inr (.inr (.inl ⟨i,vs,rfl,h,hw,λp j=>Post.newt b d j (c.cut lo hi)⟩))
 .split at b
  .rename_i ds r;obtain⟨i,vs,rfl,h,c⟩:=tN rfl d r k;exact .inr (.inl ⟨i,vs,rfl,h,λp j=>Post.newl b d j (c.cut lo hi)⟩)
  .exact b.elim
theorem DenL.pick{K:Q0}{ds:U0}(l:DenL K α H ds vs): ∀idx:List Nat,DenL K α H (idx.filterMap (ds[·]?)) (idx.filterMap (vs[·]?))
 |[]=>yL
 |i::idx=>by
  cases z:ds[i]? with
  |none=>
   have b:vs[i]? =none:=by rw[į,l.length];exact į.mp z
   rw[Ķ z,Ķ b];exact DenL.pick l idx
  |some d=>
   obtain⟨v,h1,a⟩:=l.at z;rw[Ĺ z,Ĺ h1];exact yH a (DenL.pick l idx)
theorem Vals.pick{us:A0}(r:Vals xs us): ∀idx:List Nat,Vals (idx.filterMap (xs[·]?)) (idx.filterMap (us[·]?))
 |[]=>.nil
 |i::idx=>by
  cases z:xs[i]? with
  |none=>rw[Ķ z,Ķ (r.none_of z)];exact Vals.pick r idx
  |some d=>
   obtain⟨v,h1,a⟩:=r.get z;rw[Ĺ z,Ĺ h1];exact .cons a (Vals.pick r idx)
end
section
variable{X:Cx}{W:XW}{a b c e:Expr}{f g h:AX}{pos:Pos}
def XR(S:Sto)(n:Nat)(d:MV):List MV->Option (List Bool)
 |[]=>some []
 |y::ys=>(eqv S n y d).bind λk=>(XR S n d ys).map (k::·)
section
variable{α:B9}{S:Sto}{H:Hp}{pins:M0}{σ:St}{s:Ņ}
def Wh(X:Cx)(α:B9)(S:Sto)(H:Hp)(n:Nat)(d:MV)(u:ņ):Bool:=open Classical in decide (∃y x,Den X.K α H y x/\RelV x u/\eqv S n y d=some true)
open Classical in
def Wi(I:↑2)(h:Wd X.g α S H){n:Nat}{d y:MV}{x:V}{u:ņ}{k:Bool}(c:Den X.K α H y x)(r:RelV x u)(e:eqv S n y d=some k):Wh X α S H n d u=k:=by
 unfold Wh
 cases k with
 |true=>exact dT0 ⟨y,x,c,r,e⟩
 |false=>
  refine dF0 λ⟨m,j,a,i,b⟩=>?_;have ex:=r.inj i;subst ex;rw[c.inj I h a]at e;rw[e]at b;cases b
theorem FO(I:↑2)(h:Wd X.g α S H){n:Nat}{A:Ň}{d:MV}{x:V}{v:ņ}(b:A.units+n<cLine)(j:Den X.K α H d x)(m:RelV x v): ∀{ys:U0}{vs:List V}{us:A0}{bs:N0},DenL X.K α H ys vs->Vals vs us->XR S n d ys=some bs->
  us.map (Wh X α S H n d)=bs/\ ∀u∈us,SeqAt.EqAt A s u v (Wh X α S H n d u)
 |[],_,_,bs,l,r,e=>by cases l.isnil;cases r;cases e;exact⟨rfl,λu b=>by cases b⟩
 |y::ys,_,_,bs,l,r,e=>by
  obtain⟨w,B,rfl,i,p⟩:=l.uncons
  cases r with
  |cons r1 r2=>
   unfold XR at e
   cases z:eqv S n y d with
   |none=>rw[z]at e;cases e
   |some k=>
    rw[z]at e
    cases c:XR S n d ys with
    |none=>simp[c]at e
    |some cs=>
     simp[c]at e;subst e;obtain⟨h1,q⟩:=FO I h b j m p r2 c;have o:=Wi I h i r1 z;refine⟨by rw[ê,h1,o],λu a=>?_⟩;rcases mC.mp a with rfl|a
     .rw[o];exact HS I h n A y d _ _ _ _ k b i j r1 m z
     .exact q u a
end
theorem any_map{us:A0}{f:ņ->Bool}{bs:N0}(h:us.map f=bs):us.toArray.any f=bs.any id:=by subst h;simp[List.any_map]
def itemsOf(S:Sto):Er->Option (List MV)
 |.val (.tup ds)=>some ds
 |r=>kS S r
def FP(b:Wd X.g α S H){r:Er}{ds:U0}{x:V}(e:itemsOf S r=some ds)(d:DenX X.K α H r x): ∃a vs,x=.ref a/\(SqL X.K H a vs\/SqT X.K H a vs)/\DenL X.K α H ds vs:=by
 unfold itemsOf at e;split at e
 .cases e;obtain⟨a,vs,rfl,s,l⟩:=mW d;exact⟨a,vs,rfl,.inr s,l⟩
 .obtain⟨a,vs,rfl,s,l⟩:=tN rfl b e d;exact⟨a,vs,rfl,.inl s,l⟩
def AO(a:Bool)(p q:Er)(S:Sto):R Er:=match p with
 |.val d=>match itemsOf S q with
  |some ys=>match XR S zQ d ys with
   |some bs=>.ok (.val (.bl (if a=true then !bs.any id else bs.any id))) S
   |none=>.no
  |none=>.no
 |.new _=>.no
def UG(a:Bool):Er->Er->Sto->R Er
 |.val (.str [c]),.val (.str y),S=>.ok (.val (.bl (if a=true then !decide (c∈y)else decide (c∈y)))) S
 |p,q,S=>AO a p q S
abbrev Ou(X:Cx)(a:Bool):R2:=λx y H Q=> ∃α S d q ys bs,Wd X.g α S H/\Den X.K α H d x/\DenX X.K α H q y/\itemsOf S q=some ys/\XR S zQ d ys=some bs/\Q (.bl (if a=true then !bs.any id else bs.any id)) H
theorem Y8(B:↑37):OpR X (compareOp .In) (Ou X false):=by
 intro pins s σ H x y v u Q I m p h;obtain⟨α,S,d,q,ys,bs,e,n,z,o,k,j⟩:=h;obtain⟨a,vs,rfl,b,l⟩:=FP e o z;cases p;rcases b with b|b
 .obtain⟨its,r,i,_⟩:=I.list b;rw[23];refine SeqAt.in_listAt _ i.isList (λw hw=>c w (by simpa using hw)) ⟨.bl _,H,I,rfl,?_⟩;rw[any_map h1];exact j
 .obtain⟨its,r,i,_⟩:=I.tuple b;rw[23];refine SeqAt.in_tupleAt _ i (λw hw=>c w (by simpa using hw)) ⟨.bl _,H,I,rfl,?_⟩;rw[any_map h1];exact j
theorem Jo(B:↑37):OpR X (compareOp .NotIn) (Ou X true):=by
 intro pins s σ H x y v u Q I m p h;obtain⟨α,S,d,q,ys,bs,e,n,z,o,k,j⟩:=h;obtain⟨a,vs,rfl,b,l⟩:=FP e o z;cases p;rcases b with b|b
 .obtain⟨its,r,i,_⟩:=I.list b;rw[23];refine SeqAt.notIn_listAt _ i.isList (λw hw=>c w (by simpa using hw)) ⟨.bl _,H,I,rfl,?_⟩;rw[any_map h1];exact j
 .obtain⟨its,r,i,_⟩:=I.tuple b;rw[23];refine SeqAt.notIn_tupleAt _ i (λw hw=>c w (by simpa using hw)) ⟨.bl _,H,I,rfl,?_⟩;rw[any_map h1];exact j
def UH{b:Bool}:Eo X W (λx y H Q=>(∃i j,x=.str i/\y=.str j/\Q (.bl (if b=true then !(!(Builtin.Str.occurrences j i 0 j.length 1).isEmpty)else !(Builtin.Str.occurrences j i 0 j.length 1).isEmpty)) H)\/Ou X b x y H Q) (UG b):=by
 intro p q x y α S H Q c h e a;unfold UG at a;split at a
 .refine .inl ⟨_,_,mV h,mV e,?_⟩;rw[<-Uz,PySem.StrLaws.found_one];exact Post.val a c (nO _)
 .unfold AO at a;split at a
  .rename_i d _;split at a
   .rename_i ys k;split at a
    .rename_i bs m;exact .inr ⟨α,S,_,q,ys,bs,c,h,e,k,m,Post.val a c (nO _)⟩
    .exact a.elim
   .exact a.elim
  .exact a.elim
def OpR.imp{f:ņ->ņ->Sem ņ}{r a:R2}(h:OpR X f r)(i: ∀x y H Q,a x y H Q->r x y H Q):OpR X f a:=λpins s σ H x y v u Q I b c q=>h pins s σ H x y v u Q I b c (i x y H Q q)
def Ov(a:↑37):OpR X (compareOp .In) (λx y H Q=>(∃i j,x=.str i/\y=.str j/\Q (.bl (if(false:Bool)=true then !(!(Builtin.Str.occurrences j i 0 j.length 1).isEmpty)else !(Builtin.Str.occurrences j i 0 j.length 1).isEmpty)) H)\/Ou X false x y H Q):=
 OpR.imp (Ip.or (Y8 a)) λx y H Q q=>q.imp (λq=>q) λq=>q
def Jp(a:↑37):OpR X (compareOp .NotIn) (λx y H Q=>(∃i j,x=.str i/\y=.str j/\Q (.bl (if(true:Bool)=true then !(!(Builtin.Str.occurrences j i 0 j.length 1).isEmpty)else !(Builtin.Str.occurrences j i 0 j.length 1).isEmpty)) H)\/Ou X true x y H Q):=
 OpR.imp (TB.or (Jo a)) λx y H Q q=>q.imp (λq=>q) λq=>q
def zFS(h:↑37)(c:zN X W a f)(e:zN X W b g)(d:behindInMarks .In b=false:=by with_unfolding_all rfl):zN X W (.Compare a [.In] [b] pos) (λρ S=>(f ρ S).bind λp S1=>(g ρ S1).bind λq S2=>UG false p q S2):=LZ (Ov h) UH c e d
def zFT(h:↑37)(c:zN X W a f)(e:zN X W b g)(d:behindInMarks .In b=false:=by with_unfolding_all rfl):BV X W (.Compare a [.In] [b] pos) (λρ S=>((f ρ S).bind λp S1=>(g ρ S1).bind λq S2=>UG false p q S2).bind hX):=uF (Ov h) UH c e d
def Ow(h:↑37)(c:zN X W a f)(e:zN X W b g)(d:behindInMarks .NotIn b=false:=by with_unfolding_all rfl):BV X W (.Compare a [.NotIn] [b] pos) (λρ S=>((f ρ S).bind λp S1=>(g ρ S1).bind λq S2=>UG true p q S2).bind hX):=uF (Jp h) UH c e d
def pY{K:Q0}{r:Er}(d:ArgsX K α H [r] vs): ∃v,vs=[v]/\DenX K α H r v:=by
 cases d with
 |cons a l=>cases l;exact⟨_,rfl,a⟩
def F7{K:Q0}{r b:Er}(d:ArgsX K α H [r,b] vs): ∃v u,vs=[v,u]/\DenX K α H r v/\DenX K α H b u:=by
 cases d with
 |cons a l=>obtain⟨u,rfl,c⟩:=pY l;exact⟨_,u,rfl,a,c⟩
def cS:List Er->Sto->R Er
 |[.val (.str x)],S=>if x.length<=sizeLine then .ok (.val (.int x.length)) S else .no
 |[r],S=>match itemsOf S r with |some ds=>.ok (.val (.int ds.length)) S|none=>.no
 |_,_=>.no
def Y9:oO X W (λxs H Q=>(∃z,xs=[.str z]/\z.length<=sizeLine/\Q (.int z.length) H)\/ ∃p ys,xs=[.ref p]/\(SqL X.K H p ys\/SqT X.K H p ys)/\Q (.int ys.length) H) cS:=by
 intro rs vs α S H Q c d b;unfold cS at b;split at b
 .split at b
  .rename_i i;obtain⟨v,rfl,h⟩:=pY d;cases mV h;refine .inl ⟨_,rfl,by rw[oR];exact i,?_⟩;exact Post.val b c (xZ _)
  .exact b.elim
 .split at b
  .rename_i ds e;obtain⟨v,rfl,h⟩:=pY d;obtain⟨a,us,rfl,j,l⟩:=FP c e h;refine .inr ⟨a,us,rfl,j,?_⟩;rw[l.length];exact Post.val b c (xZ _)
  .exact b.elim
 .exact b.elim
def Jq:CallR X (.builtin "len") (λxs H Q=>(∃z,xs=[.str z]/\z.length<=sizeLine/\Q (.int z.length) H)\/ ∃p ys,xs=[.ref p]/\(SqL X.K H p ys\/SqT X.K H p ys)/\Q (.int ys.length) H):=TJ.or TH
noncomputable def rF:List MV->Option (List Bool)
 |[]=>some []
 |.bl b::r=>(rF r).map (b::·)
 |_::_=>none
theorem HW{K:Q0}{α:B9}{H:Hp}: ∀{ds:U0}{bs:N0}{vs:List V},rF ds=some bs->DenL K α H ds vs->vs=bs.map V.bl
 |[],_,_,e,l=>by cases e;exact l.isnil
 |d::r,bs,_,e,l=>by
  cases d with
  |bl b=>
   unfold rF at e
   cases z:rF r with
   |none=>rw[z]at e;cases e
   |some cs=>
    rw[z]at e;cases e;obtain⟨v,us,rfl,c,a⟩:=l.uncons;rw[tI c,HW z a];rfl
  |_=>cases e
def Ox:List Er->Sto->R Er
 |[r],S=>match (kS S r).bind rF with |some bs=>.ok (.val (.bl (bs.all id))) S|none=>.no
 |_,_=>.no
def Bq:List Er->Sto->R Er
 |[r],S=>match (kS S r).bind rF with |some bs=>.ok (.val (.bl (bs.any id))) S|none=>.no
 |_,_=>.no
def Z1(h:X.calm=true):oO X W (λxs H Q=> ∃(a:Addr)(bs:N0),xs=[.ref a]/\SqL X.K H a (bs.map V.bl)/\X.calm=true/\Q (.bl (bs.all id)) H) Ox:=by
 intro rs vs α S H Q c d b;unfold Ox at b;split at b
 .split at b
  .rename_i bs e;obtain⟨v,rfl,i⟩:=pY d
   cases z:kS S _ with
   |none=>rw[z]at e;cases e
   |some ds=>
    rw[z]at e;obtain⟨j,us,rfl,s,l⟩:=tN rfl c z i;refine⟨j,bs,rfl,?_,h,Post.val b c (nO _)⟩;rw[<-HW e l];exact s
  .exact b.elim
 .exact b.elim
def HX(S:Sto):Er->Option String
 |.val .non=>some "NoneType"
 |.val (.bl _)=>some "bool"
 |.val (.int _)=>some "int"
 |.val (.str _)=>some "str"
 |.val (.tup _)=>some "tuple"
 |.val (.typ _)=>none
 |.val (.obj _ _ _)=>none
 |r=>(kS S r).map λ_=>"list"
noncomputable def Wj(t T:String):Bool:=t==T || (t=="bool"&&T=="int")
noncomputable def known(T:String):Bool:=T=="int" || T=="bool" || T=="str" || T=="tuple" || T=="list"
def oS:List Er->Sto->R Er
 |[r,.val (.typ T)],S=>match HX S r with
  |some t=>if known T=true then .ok (.val (.bl (Wj t T))) S else .no
  |none=>.no
 |_,_=>.no
theorem pS(K:Q0){t T:String}(c:t="NoneType"\/t="bool"\/t="int"\/t="str"\/t="tuple"\/t="list")(b:known T=true):PySem.W.kitOne K (.type t) (.type T)=some (Wj t T):=by
 have a:T="int"\/T="bool"\/T="str"\/T="tuple"\/T="list":=by
  unfold known at b;simp only[ī,beq_iff_eq]at b;rcases b with(((h|h)|h)|h)|h
  .exact .inl h
  .exact .inr (.inl h)
  .exact .inr (.inr (.inl h))
  .exact .inr (.inr (.inr (.inl h)))
  .exact .inr (.inr (.inr (.inr h)))
 rcases c with rfl|rfl|rfl|rfl|rfl|rfl<;>rcases a with rfl|rfl|rfl|rfl|rfl<;>kernel_rfl
def Oy:CallR X (.builtin "isinstance") (λxs H Q=> ∃α S r x t T,xs=[x,.ty T]/\Wd X.g α S H/\DenX X.K α H r x/\HX S r=some t/\known T=true/\Q (.bl (Wj t T)) H):=by
 intro pins s σ H xs us Q I n h;obtain⟨α,S,r,x,t,T,rfl,p,d,b,e,q⟩:=h;obtain⟨u,w,rfl,i,v⟩:=vals2 n;cases v;have c: ∀tk,EP X pins σ Q _ {s with toks:=tk}:=λtk=>⟨.bl _,H,I.tok _,rfl,q⟩
 unfold HX at b;split at b
 .cases b;cases Bh d;cases i;exact PySem.W.kia_one PySem.W.kitx_none I.kIn True.intro (pS X.K (.inl rfl) e) (λz=>nomatch z) c
 .cases b;cases JM d;cases i;exact PySem.W.kia_one PySem.W.kitx_bool I.kIn True.intro (pS X.K (.inr (.inl rfl)) e) (λz=>nomatch z) c
 .cases b;cases xP d;obtain⟨t,rfl⟩:=i;exact PySem.W.kia_one PySem.W.kitx_int I.kIn True.intro (pS X.K (.inr (.inr (.inl rfl))) e) (λz=>nomatch z) c
 .cases b;cases mV d;obtain⟨t,rfl⟩:=i;exact PySem.W.kia_one PySem.W.kitx_str I.kIn True.intro (pS X.K (.inr (.inr (.inr (.inl rfl)))) e) (λz=>nomatch z) c
 .cases b;obtain⟨a,vs,rfl,k,l⟩:=mW d;cases i;obtain⟨its,m,p1,_⟩:=I.tuple k;obtain⟨o,h1,j,_⟩:=p1;exact PySem.W.kia_one PySem.W.kitx_tuple I.kIn ⟨o,h1,j⟩ (pS X.K (.inr (.inr (.inr (.inr (.inl rfl))))) e) (λz=>nomatch z) c
 .cases b
 .cases b
 .cases z:kS S r with
  |none=>rw[z]at b;cases b
  |some ds=>
   rw[z]at b;cases b;obtain⟨a,vs,rfl,k,l⟩:=tN rfl p z d;cases i;obtain⟨its,m,p1,_⟩:=I.list k;obtain⟨o,h1,j,_⟩:=p1.isList;exact PySem.W.kia_one PySem.W.kitx_list I.kIn ⟨o,h1,j⟩ (pS X.K (.inr (.inr (.inr (.inr (.inr rfl))))) e) (λz=>nomatch z) c
def Z2:oO X W (λxs H Q=> ∃α S r x t T,xs=[x,.ty T]/\Wd X.g α S H/\DenX X.K α H r x/\HX S r=some t/\known T=true/\Q (.bl (Wj t T)) H) oS:=by
 intro rs vs α S H Q b d a;unfold oS at a;split at a
 .split at a
  .rename_i t e;split at a
   .rename_i h;obtain⟨v,u,rfl,c,i⟩:=F7 d;cases T7 i;exact⟨α,S,_,v,t,_,rfl,b,c,e,h,Post.val a b (nO _)⟩
   .exact a.elim
  .exact a.elim
 .exact a.elim
def aH:List Er->Sto->R Er
 |[.val (.tup ds)],S=>.ok (.val (.tup ds)) S
 |[r],S=>match kS S r with |some ds=>.ok (.val (.tup ds)) S|none=>.no
 |_,_=>.no
def Oz:oO X W (λxs H Q=> ∃p ys,xs=[.ref p]/\((SqL X.K H p ys/\ ∀l,H l=none->Q (.ref l) (xY H l (.tup ys)))\/(SqT X.K H p ys/\Q (.ref p) H))) aH:=by
 intro rs vs α S H Q h d b;unfold aH at b;split at b
 .obtain⟨v,rfl,i⟩:=pY d;obtain⟨a,us,rfl,c,l⟩:=mW i;exact⟨a,us,rfl,.inr ⟨c,Post.val b h (uE c l)⟩⟩
 .split at b
  .rename_i ds e;obtain⟨v,rfl,i⟩:=pY d;obtain⟨a,us,rfl,c,l⟩:=tN rfl h e i;exact⟨a,us,rfl,.inl ⟨c,λp j=>Post.newt b h j l⟩⟩
  .exact b.elim
 .exact b.elim
def RH:List Er->Sto->R Er
 |[r],S=>match itemsOf S r with |some ds=>.ok (.new ds) S|none=>.no
 |_,_=>.no
def Wm:oO X W (λxs H Q=> ∃p ys,xs=[.ref p]/\(SqL X.K H p ys\/SqT X.K H p ys)/\ ∀l,H l=none->Q (.ref l) (xY H l (.lst ys))) RH:=by
 intro rs vs α S H Q c d b;unfold RH at b;split at b
 .split at b
  .rename_i ds e;obtain⟨v,rfl,i⟩:=pY d;obtain⟨a,us,rfl,j,l⟩:=FP c e i;exact⟨a,us,rfl,j,λp h=>Post.newl b c h l⟩
  .exact b.elim
 .exact b.elim
def Br:bootBuiltins "len"=some (.builtin "len"):=by decide+kernel
def Z3:bootBuiltins "all"=some (.builtin "all"):=by decide+kernel
def Z4:bootBuiltins "any"=some (.builtin "any"):=by decide+kernel
def QB:bootBuiltins "isinstance"=some (.builtin "isinstance"):=by decide+kernel
def Z5:bootBuiltins "int"=some (.type "int"):=by decide+kernel
def Wn:bootBuiltins "bool"=some (.type "bool"):=by decide+kernel
def Z6:bootBuiltins "str"=some (.type "str"):=by decide+kernel
def FQ:bootBuiltins "tuple"=some (.type "tuple"):=by decide+kernel
def UI:bootBuiltins "list"=some (.type "list"):=by decide+kernel
end
section
variable{X:Cx}{W:XW}{a e o i:Expr}{es:P0}{f g h:AX}{af:↑13}{pos apos:Pos}
noncomputable def MG:Er->Sto->Bool
 |.val (.str _),_=>true
 |_,_=>false
def ty_str:TyM X "str" MG:=by
 intro p x α S H a d h;unfold MG at h;split at h
 .cases mV d;rfl
 .cases h
def aI(p:Er)(S:Sto):Bool:=(kS S p).isSome
def Bs:TyM X "list" aI:=by
 intro p x α S H b d h;unfold aI at h
 cases z:kS S p with
 |none=>rw[z]at h;cases h
 |some ds=>
  obtain⟨a,vs,rfl,s,l⟩:=tN rfl b z d;exact .inl ⟨rfl,vs,s⟩
def strIdx(x y:Db):Option Nat:=(Builtin.Str.occurrences (mK x) (mK y) 0 (mK x).length 1).head?
noncomputable def HY(p:Er)(S:Sto)(G:List MV->Option (List MV)):R Er:=match p with
 |.val (.loc l)=>match S[l]? with
  |some (.lst ds)=>match G ds with
   |some es=>.ok (.val .non) (S.set l (.lst es))
   |none=>.no
  |_=>.no
 |_=>.no
def HZ{c:B9}{p:Er}{x:V}{G:List MV->Option (List MV)}{Q:VK}(d:Wd X.g α S H)(q:Ext c H0 α H)(r:DenX X.K α H p x)(b:Post X.g W c H0 (HY p S G) Q):
  ∃a vs ds es,x=.ref a/\H a=some (.lst vs)/\DenL X.K α H ds vs/\G ds=some es/\ ∀us,DenL X.K α H es us->Q .non (xY H a (.lst us)):=by
 unfold HY at b;split at b
 .rename_i l;obtain⟨a,rfl,h⟩:=sN r;obtain⟨ob,h1,j⟩:=d.of h;rw[h1]at b
  cases ob with
  |lst ds=>
   obtain⟨vs,e,n⟩:=j;have b:Post X.g W c H0 (match G ds with |some es=>R.ok _ _|none=>R.no) Q:=b;split at b
   .rename_i es k;refine⟨a,vs,ds,es,rfl,e,n,k,λus m=>?_⟩;have i:=d.writex h (E9 e) (o:=.lst us);exact(b.shift (q.trans i)).val (d.write h (E9 e) ⟨us,zX,m.ext i⟩) KZ
   .exact b.elim
  |dic _=>exact b.elim
  |ins _ _=>exact b.elim
  |rcd _ _=>exact b.elim
  |fdc _=>exact b.elim
 .exact b.elim
def FR:Er->List Er->Sto->R Er
 |p,[r],S=>(wI r S).bind λy S1=>HY p S1 λds=>if ds.length<sizeLine then some (ds++[y])else none
 |_,_,_=>.no
def Jr:XM X W Ei FR:=by
 intro p rs x vs α S H0 H Q c v q u h b
 match rs,h,b with
 |[],_,b=>exact b.elim
 |_::_::_,_,b=>exact b.elim
 |[r],h,b=>
  cases h with
  |cons d n l=>
   cases l;obtain⟨C,S',α',w,z,B,o,A⟩:=pR v q d;have b:Post X.g W c H0 ((wI r S).bind λy S1=>HY p S1 λds=>if ↑23<sizeLine then some _ else none) Q:=b;rw[w]at b
   have i:DenX X.K α' H p x:=by
    cases p with
    |val m=>exact Den.ex0 B u
    |new ds=>exact b.elim
   obtain⟨a,us,ds,es,rfl,h1,j,e,k⟩:=HZ o z i b;split at e
   .rename_i s;cases e;exact⟨a,us,_,rfl,rfl,h1,by rw[j.length];exact s,k _ (j.append (yH A yL))⟩
   .cases e
def Js(c:zN X W a f)(b:LY X W (e::es) af)
  (hbase:attributeBase a "append" X.env (eval a X.env)=eval a X.env:=by rfl)
  (hfew:((backTo pos (starEach (e::es) X.env)).all (λx=>!x.1)&&(backToKw pos (keywordEach [] X.env)).all (λx=>x.1.isSome)
   &&decide ↑10)=true:=by rfl)
  (hline:(apos.endLine==pos.line)=true:=by rfl) (hs:q8 X e es:=by rfl) (hplain:q9 X pos es:=by rfl):
  zN X W (.Call (.Attribute a "append" apos) (e::es) [] pos) (λρ S=>(f ρ S).bind λp S1=>if aI p S1=true then(af ρ S1).bind λrs S2=>FR p rs S2 else .no):=
 TZ PySem.F.plainAttrs_list PySem.F.slot_list_append PySem.F.type_list_append Iy Jr Bs c b hbase hfew hline hs hplain
def Pa:Er->List Er->Sto->R Er
 |p,[],S=>HY p S λ_=>some []
 |_,_,_=>.no
def Pb:XM X W Nh Pa:=by
 intro p rs x vs α S H0 H Q c e i j h b
 match rs,h,b with
 |_::_,_,b=>exact b.elim
 |[],.nil,b=>
  have b:Post X.g W c H0 (HY p S λ_=>some []) Q:=b;obtain⟨a,us,ds,es,rfl,h1,m,d,k⟩:=HZ e i j b;cases d;exact⟨a,us,rfl,rfl,h1,k [] yL⟩
def Pd(d:zN X W a f)(b:attributeBase a "clear" X.env (eval a X.env)=eval a X.env:=by rfl)(c:(apos.endLine==pos.line)=true:=by rfl):
  zN X W (.Call (.Attribute a "clear" apos) [] [] pos) (λρ S=>(f ρ S).bind λp S1=>if aI p S1=true then Pa p [] S1 else .no):=
 Oa PySem.F.plainAttrs_list PySem.F.slot_list_clear PySem.F.type_list_clear Ni Pb Bs d b c
def RI(p q:Er)(d:MV)(ρ:Rho)(S:Sto):R Rho:=match p,q with
 |.val (.loc l),.val (.int k)=>match S[l]? with
  |some (.lst ds)=>match XB ds.length k with
   |some j=>.ok ρ (S.set l (.lst (ds.set j d)))
   |none=>.no
  |_=>.no
 |_,_=>.no
def Z7(B:zN X W o f)(hi:zN X W i g)
  (ha: ∀v,assign (.Subscript o i pos) X.env v=(do
   let n <-holding [v] (eval o X.env);let A <-holding [v,n] (eval i X.env)
   standAt pos
   holding [v,n,A] (setItem n A v)
   release [v,n,A] []):=by intro _;rfl):Oe X W (.Subscript o i pos) (λd ρ S=>(f ρ S).bind λp S1=>(g ρ S1).bind λq S2=>RI p q d ρ S2):=by
 obtain⟨to,B,J⟩:=B;obtain⟨T,hi,P⟩:=hi;refine⟨_,Mr B hi set_list ha,λα ρ S σ H d v Q L sl O q=>J α ρ S σ H _ L sl (q.bind λu p S1 w H1 e1 m N G M=>P w ρ S1 σ H1 _ N (sl.ext m) ((M.shift m).bind λU p2 S2 c K e2 e y F b=>?_))⟩
 replace b:=b.shift e
 have r:=DenX.ext e G.1;unfold RI at b;split at b
 .rename_i l k;obtain⟨a,rfl,h⟩:=sN r;cases xP F.1;obtain⟨ob,h1,E⟩:=y.of h;rw[h1]at b
  cases ob with
  |lst ds=>
   obtain⟨vs,s,D⟩:=E;have b:Post X.g W c K (match XB ds.length k with |some j=>R.ok ρ _|none=>R.no) Q:=b;split at b
   .rename_i j I;have z:=y.writex h (E9 s) (o:=.lst (vs.set j v));have C:=((sl.ext m).ext e).ext z;exact⟨a,vs,k,j,rfl,rfl,s,by rw[D.length];exact I,b σ c _ z (y.write h (E9 s) ⟨_,zX,(D.set ((O.ext m).ext e) j).ext z⟩) C⟩
   .exact b.elim
  |dic _=>exact b.elim
  |ins _ _=>exact b.elim
  |rcd _ _=>exact b.elim
  |fdc _=>exact b.elim
 .exact b.elim
end
def _root_.L2.Inv.turnedL{X:Cx}{pins:M0}{s:Ņ}{h':Heap}{t':Nat}{fp:B9}(I:↑2)(k: ∀b o,b∉fp->s.heap.get? b=some o->h'.get? b=some o)
  (hf: ∀b∈fp,FA X pins H b):Inv X pins σ H {s with heap:=h',toks:=t'}:=by
 have d: ∀b u,H b=some u->b∉fp:=λb u e z=>by rw[(hf b z).1]at e;cases e
 refine I.step (λb h=>⟨(hf b h).2.2.2.1,(hf b h).2.1,(hf b h).2.2.2.2.1,(hf b h).2.2.2.2.2⟩) (λb o _ _ a e _=>k b o a e) (λb o _ _ a e _=>⟨_,k b o a e⟩) (λ_ _ _ _ n=>n)
  (λb o a e=>⟨o,k b o a e⟩) (λ_ _ e=>e) (λ_ _ _ e=>e) (λb ps e=>⟨#[],by rw[e];simp⟩) (λm i=>?_) (λb u e=>?_) I.bare
 .obtain⟨o,es,ep,j,r⟩:=i;exact⟨o,es,ep,k _ o (λz=>(hf _ z).2.1 rfl) j,r⟩
 .refine(I.hok b u e).stay (λc v a q=>k c v ?_ q) (λ_ q=>q) λ_ _ q=>q;rcases a with z|z
  .rw[z];exact d b u e
  .exact d c _ z
def IsSub(k:Bool)(h:Heap)(it l:Addr)(i:Nat):Prop:=if k=true then h.IsListIter it l i else h.IsTupleIter it l i
def JO(k:Bool)(h:Heap)(l:Addr)(its:B0):Prop:=if k=true then h.IsList l its else h.IsTuple l its
noncomputable def MH(k:Bool)(l:Addr):Obj:={cls:=.type (if k=true then "list_iterator" else "tuple_iterator"),data:=.fields #[.ref l,.int 0 0]}
def IsSub.mk'{k:Bool}{h:Heap}{it l:Addr}(e:h.get? it=some (MH k l)):IsSub k h it l 0:=by
 cases k with
 |true=>exact⟨_,e,rfl,rfl⟩
 |false=>exact⟨_,e,rfl,rfl⟩
def IsSub.there{k:Bool}{h:Heap}{it l:Addr}{i:Nat}(x:IsSub k h it l i): ∃o,h.get? it=some o/\ ∀v,o.data≠.cell v:=by
 cases k with
 |true=>obtain⟨o,e,_,d⟩:=(x:h.IsListIter it l i);exact⟨o,e,λv z=>by rw[d]at z;cases z⟩
 |false=>obtain⟨o,e,_,d⟩:=(x:h.IsTupleIter it l i);exact⟨o,e,λv z=>by rw[d]at z;cases z⟩
def IsSub.move{k:Bool}{h h':Heap}{it l:Addr}{i:Nat}(x:IsSub k h it l i)(f: ∀o,h.get? it=some o->h'.get? it=some o):IsSub k h' it l i:=by
 cases k with
 |true=>obtain⟨o,e,r⟩:=(x:h.IsListIter it l i);exact⟨o,f o e,r⟩
 |false=>obtain⟨o,e,r⟩:=(x:h.IsTupleIter it l i);exact⟨o,f o e,r⟩
section
variable{prog:ň}{w:World}{A:Ň}{E:VP}{s:Ņ}
def MI{k:Bool}{l:Addr}(a:JO k s.heap l its)(h:Q (.ref ↑1) {s with heap:=s.heap.push (MH k l)}):wpAny ↑9 A (pyIter (.ref l)) Q E s:=by
 cases k with
 |true=>exact wpAny_pyIter_list a h
 |false=>exact wpAny_pyIter_tuple a h
def Pe{k:Bool}{it l:Addr}{i:Nat}{x:ņ}(c:IsSub k s.heap it l i)(m:JO k s.heap l its)(j:its[i]? =some x)
  (hQ: ∀h',IsSub k h' it l (i+1)->Heap.SameBut it s.heap h'->Q x {s with heap:=h'}):wpAny ↑9 A (Builtin.SmallTypes.nextOf (.ref it)) Q E s:=by
 cases k with
 |true=>exact wpAny_nextOf_list_item c m j hQ
 |false=>
  have a:=c;obtain⟨o,d,n,b⟩:=id a;obtain⟨p,e,_,q,h⟩:=(m:s.heap.IsTuple l its)
  refine wB (Ĉ a.typeIs Ĭ (ö Ĭ a.typeIs F.entry_tuple_iterator_next ?_ (F.args_tuple_iterator_next_1 _)));show wpAny _ _ (field _ 0 >>= _) _ _ s;refine wB (ę d b rfl ?_);show wpAny _ _ _ _ _ s;show wpAny _ _ _ _ _ s;refine wB (ę d b rfl ?_);show wpAny _ _ _ _ _ s;refine wB (wpAny_seqItems e h ?_);simp only[ē,j];refine wB (wpAny_setField d b (by simp) (wP ⟨x,rfl,wP (hQ _ ?_ (ĺ ..))⟩));exact⟨_,Heap.get?_update_self _ d (Obj.isFreed_of_fields (Obj.data_mapFields b _)),(Obj.cls_mapFields ..).trans n,by rw[Obj.data_mapFields b];simp[rawInt]⟩
def Wo{k:Bool}{it l:Addr}{i:Nat}(d:A.handled=none)(b:IsSub k s.heap it l i)(p:JO k s.heap l its)(n:its[i]? =none)
  (hE: ∀h' e,Heap.ExtBut it s.heap h'->(∃o,h'.get? e=some o/\o.cls=.type "StopIteration")->E (.ref e) {s with heap:=h'}):wpAny ↑9 A (Builtin.SmallTypes.nextOf (.ref it)) Q E s:=by
 cases k with
 |true=>exact wpAny_nextOf_list_end d b p n hE
 |false=>
  have a:s.heap.IsTupleIter it l i:=b;obtain⟨o,m,q,c⟩:=id a;obtain⟨r,h,_,u,j⟩:=(p:s.heap.IsTuple l its)
  unfold Builtin.SmallTypes.nextOf;refine wB (Ĉ a.typeIs Ĭ (ö Ĭ a.typeIs F.entry_tuple_iterator_next ?_ (F.args_tuple_iterator_next_1 _)));show wpAny _ _ (field (.ref it) 0 >>= _) _ _ s;refine wB (ę m c (x:=.ref l) rfl ?_);show wpAny _ _ _ _ _ s;rw[iN (show¬((Value.ref l==Value.none)=true)from xF0)];show wpAny _ _ _ _ _ s;refine wB (ę m c rfl ?_);show wpAny _ _ _ _ _ s;refine wB (wpAny_seqItems h j ?_);simp only[ē,n];refine wB (İ (wB (wpAny_setField m c (by simp) ?_)));show wpAny _ _ _ _ _ _;refine wB ?_;simp only[newExc,newTuple];refine wB (Č ?_ (by size_fits));refine wB (wpAny_of_eq (by first |rfl|(simp only[firstArgMember];rfl)) ?_);refine Č ?_ (by size_fits);simp only[raiseNew];refine wB (wpAny_handled ?_)
  first |rw[show A.in1.handled=none from d]|rw[d]
  refine wB (wP (wpAny_throw ?_));exact hE _ _ (((ĺ ..).extBut.push _).push _) ⟨_,ä _ rfl,rfl⟩
end
def F8(k:Bool)(K:Q0)(H:Hp)(a:Addr)(xs:List V):Prop:=if k=true then SqL K H a xs else SqT K H a xs
section
variable{X:Cx}{pins:M0}{σ:St}{H:Hp}{s:Ņ}
def _root_.L2.Inv.seqK(I:↑2){k:Bool}{a:Addr}(h:F8 k X.K H a xs): ∃its:List ņ,Vals xs its/\JO k s.heap a ↑36/\↑33<=sizeLine:=by
 cases k with
 |true=>obtain⟨its,r,p,z⟩:=I.list h;exact⟨its,r,p.isList,z⟩
 |false=>obtain⟨its,r,p,z⟩:=I.tuple h;exact⟨its,r,p,z⟩
def _root_.L2.Inv.seqK_inj(I:↑2){k:Bool}{a:Addr}{ys:List V}(h:F8 k X.K H a xs)(h':F8 k X.K H a ys):xs=ys:=by
 cases k with
 |true=>exact I.list_inj h h'
 |false=>exact I.tuple_inj h h'
end
structure Sr where
 k:Bool
 ds:List MV
 gs:List (Nat×List MV)
noncomputable def srcOf(S:Sto):Er->Option Sr
 |.val (.tup ds)=>some ⟨false,ds,[]⟩
 |.new ds=>some ⟨true,ds,[]⟩
 |.val (.scr ds)=>some ⟨true,ds,[]⟩
 |.val (.loc l)=>match S[l]? with
  |some (.lst ds)=>some ⟨true,ds,[(l,ds)]⟩
  |_=>none
 |_=>none
structure SrcD(X:Cx)(q:Sr)(l:Addr)(P:List Addr->Sto->Hp->Prop):Prop where
 get: ∀α S H,P α S H-> ∃vs,F8 q.k X.K H l vs/\DenL X.K α H q.ds vs
 stays: ∀α1 S1 H1 α2 S2 H2,P α1 S1 H1->Ext α1 H1 α2 H2->Wd X.g α2 S2 H2->stay q.gs S2->P α2 S2 H2
 st: ∀α S H,P α S H->stay q.gs S
def Z8{X:Cx}(A:Wd X.g α S H){r:Er}{x:V}{q:Sr}(e:srcOf S r=some q)(d:DenX X.K α H r x): ∃l P,x=.ref l/\P α S H/\SrcD X q l P:=by
 unfold srcOf at e;split at e
 .rename_i ds;cases e;obtain⟨a,vs,rfl,s,l⟩:=mW d;exact⟨a,λα S H=> ∃vs,_,rfl,⟨vs,s,l⟩,λα S H h=>h,λi S1 H1 j S2 m ⟨vs,h1,c⟩ x w _=>⟨vs,x.sqT h1,c.ext x⟩,λ_ _ _ _=>gU⟩
 .rename_i ds;cases e;obtain⟨b,vs,rfl,h,n,l⟩:=d
  exact⟨b,λα S H=> ∃vs,H b=some (.lst vs)/\b∉α/\DenL X.K α H ds vs,rfl,⟨vs,h,n,l⟩,λα S H ⟨vs,h1,_,c⟩=>⟨vs,(SqL.of h1:SqL X.K H b vs),c⟩,
   λi S1 H1 j S2 m ⟨vs,h1,c,z⟩ x w _=>⟨vs,x.keep b _ h1 c,x.out h1 c,z.ext x⟩,λ_ _ _ _=>gU⟩
 .rename_i ds;cases e;obtain⟨a,vs,rfl,s,l⟩:=TX d;exact⟨a,λα S H=> ∃vs,SqF X.K H a vs/\DenL X.K α H ds vs,rfl,⟨vs,s,l⟩,λα S H ⟨vs,h1,c⟩=>⟨vs,h1.l,c⟩,λi S1 H1 j S2 m ⟨vs,h1,c⟩ x w _=>⟨vs,x.sqF h1,c.ext x⟩,λ_ _ _ _=>gU⟩
 .rename_i n;split at e
  .rename_i ds o;cases e;obtain⟨a,rfl,h⟩:=sN d;obtain⟨vs,h1,c⟩:=A.obj n a _ h o;refine⟨a,λα S H=> ∃vs,H a=some (.lst vs)/\DenL X.K α H ds vs/\α[n]? =some a/\S[n]? =some _,rfl,⟨vs,h1,c,h,o⟩,λα S H ⟨vs,h1,c,_⟩=>⟨vs,(SqL.of h1:SqL X.K H a vs),c⟩,?_,?_⟩
   .intro i S1 H1 j S2 m ⟨vs,D,E,u,v⟩ x w hs;have k:=hs (n,ds) (by simp);obtain⟨us,C,y⟩:=w.obj n a _ (x.at u) k;exact⟨us,C,y,x.at u,k⟩
   .intro α S H ⟨vs,_,_,_,v⟩ p B;have:=by simpa using B
    subst this;exact v
  .cases e
 .cases e
def Wp:bootBuiltins "enumerate"=some (.type "enumerate"):=by decide+kernel
noncomputable def pairs(xs ys:U0):List MV:=List.zipWith (λx y=>.tup [x,y]) xs ys
structure EnSt(k:Bool)(e it l:Addr)(i:Nat)(h:Heap):Prop where
 e: ∃old,IsEnum h e it i old
 s:IsSub k h it l i
section
variable{prog:ň}{w:World}{A:Ň}{E:VP}{s:Ņ}{k:Bool}{e it l:Addr}{i:Nat}{its:B0}
def Wq{x a:ņ}(N:IsEnum s.heap e it i a)(Z:IsSub k s.heap it l i)(hl:JO k s.heap l its)(hx:its[i]? =some x)(r:e≠it)
  (hQ: ∀h',IsEnumOut h' e it ((i:Int)+1) x ↑1->IsSub k h' it l (i+1)->h'.get? ↑1=some {cls:=.type "tuple",data:=.seq #[.int i s.toks,x]}->
   (∀b o,b≠e->b≠it->s.heap.get? b=some o->h'.get? b=some o)->Q (.ref ↑1) {s with heap:=h',toks:=s.toks+1}):
  wpAny ↑9 A (Builtin.«enumerate.__next__» ⟨[.ref e],[]⟩) (λU s'=> ∃v,U=.done (.ret v)/\Q v s') E s:=by
 obtain⟨C,g,d,tk,u⟩:=s;show wpAny _ _ (field (.ref e) 2 >>= _) _ _ _;refine wB (ę N rfl rfl (wB (Pe Z hl hx λy aa j=>?_)))
 replace j:Heap.SameBut it C y:=j
 have T:IsEnum y e it i a:=(j.2 e r).trans N;show wpAny _ _ _ _ _ ⟨y,g,d,tk,u⟩;refine wB (ę T rfl rfl ?_);show wpAny _ _ _ _ _ ⟨y,g,d,tk,u⟩;refine wB (ę T rfl rfl ?_);show wpAny _ _ (mkInt i >>= _) _ _ ⟨y,g,d,tk,u⟩;refine wB (wpAny_mkInt ?_);show wpAny _ _ _ _ _ ⟨y,g,d,_,u⟩;refine wB (ľ T (by simp) λI M h=>?_)
 replace h:Heap.SameBut e y I:=h
 replace M:IsEnum I e it ((i:Int)+1) a:=M
 show wpAny _ _ _ _ _ ⟨I,g,d,_,u⟩;refine wB (ľ M (by simp) λp S c=>?_)
 replace c:Heap.SameBut e I p:=c
 replace S:IsEnum p e it ((i:Int)+1) a:=S
 show wpAny _ _ _ _ _ ⟨p,g,d,_,u⟩;refine wB (wpAny_newTuple ?_);have G:p.objs.size=C.objs.size:=by rw[c.1,h.1,j.1]
 have L:e<C.objs.size:=á N;have K:IsEnum (p.push {cls:=.type "tuple",data:=.seq #[.int i tk,x]}) e it ((i:Int)+1) a:=hP0 _ S;have td:(p.push {cls:=.type "tuple",data:=.seq #[.int i tk,x]}).get? C.objs.size=some {cls:=.type "tuple",data:=.seq #[.int i tk,x]}:=by rw[<-G];exact ä _ rfl
 have kd: ∀b o,b≠e->b≠it->C.get? b=some o->(p.push {cls:=.type "tuple",data:=.seq #[.int i tk,x]}).get? b=some o:=λb o H Y q=>
  hP0 _ (c.extBut b o H (h.extBut b o H (j.extBut b o Y q)))
 have sd:IsSub k (p.push {cls:=.type "tuple",data:=.seq #[.int i tk,x]}) it l (i+1):=aa.move λo q=>hP0 _ (c.extBut _ o (Ne.symm r) (h.extBut _ o (Ne.symm r) q));generalize p.push {cls:=.type "tuple",data:=.seq #[.int i tk,x]}=hd at K td kd sd ⊢;show wpAny _ _ _ _ _ ⟨hd,g,d,_,u⟩;rw[G];refine wB ?_;unfold Builtin.SmallTypes.ownedTupleIsFree;refine wB (ę K rfl rfl (wP ?_));simp only[if_true];refine wB (İ (wB (ę K rfl rfl (wB (ľ K (by simp) λJ O F=>?_)))))
 replace F:Heap.SameBut e hd J:=F
 replace O:IsEnum J e it ((i:Int)+1) x:=O
 show wpAny _ _ _ _ _ ⟨J,g,d,_,u⟩;refine wB ?_;unfold Builtin.SmallTypes.ownedTupleHandOut;refine wB (ľ O (by simp) λz X B=>?_)
 replace B:Heap.SameBut e J z:=B
 replace X:IsEnumOut z e it ((i:Int)+1) x C.objs.size:=X
 refine ľ X (by simp) λm W D=>?_
 replace D:Heap.SameBut e z m:=D
 replace W:IsEnumOut m e it ((i:Int)+1) x C.objs.size:=W
 have P: ∀b o,b≠e->hd.get? b=some o->m.get? b=some o:=λb o n q=>D.extBut b o n (B.extBut b o n (F.extBut b o n q));exact wB (wpAny_letGo (wP ⟨_,rfl,hQ m W (sd.move λo q=>P _ o (Ne.symm r) q) (P _ _ (Ė L) td) λb o H Y q=>P b o H (kd b o H Y q)⟩))
def Bt(k:Bool)(l:Addr)(its:B0):
  Meets (Builtin.«enumerate.__new__» ⟨[.type "enumerate",.ref l],[]⟩) (λ_ R s=>JO k s.heap l its/\
   R (.ok (.ret (.ref (↑1+1)))) {s with heap:=(s.heap.push (MH k l)).push {cls:=.type "enumerate",data:=.fields #[.none,.bool false,.ref ↑1,rawInt 0,.none,.none]}}):=
 .of_wp λprog w A R s h=>by
  obtain⟨j,g,d,tk,m⟩:=s;obtain⟨i,h⟩:=h;have e:=sub_enumerate;have b:JO k _ l its:=i;have a: ∀(h:Heap)(o:Obj),(h.push o).objs.size=h.objs.size+1:=λh o=>Ĝ ..
  wp_walk
  refine wpAny_stack_any λst=>wP ?_;split
  .rename_i c _ _ _ _ _;cases (c==Value.type "enumerate")
   .wp_walk using MI b
    exact⟨_,rfl,by simp only[a];exact h⟩
   .wp_walk using MI b
    exact⟨_,rfl,by simp only[a];exact h⟩
  .wp_walk using MI b
   exact⟨_,rfl,by simp only[a];exact h⟩
end
def RJ(K:Q0)(F:↑8):Sp:=λvs H Q _=> ∃ds,DenL K [] H ds vs/\↑23=1/\ ∀g:Gm,g.K=K->Post g W0 [] H (F ds []) Q
def Pf{g:Gm}{F:↑8}: ∀vs H Q E,RJ g.K F vs H Q E->PY g 1 F vs H Q E:=λvs H Q E ⟨ds,l,b,q⟩=>⟨[],[],ds,⟨rfl,by simp,λl a o h=>by simp at h⟩,l,b,q g rfl⟩
def Z9{K:Q0}{a:Addr}(b:Nj H)(h:SqL K H a xs):SqF K H a xs:=by
 rcases h with(h|⟨o,h⟩)|h
 .rcases b a with z|⟨o,ys,z⟩
  .rw[z]at h;cases h
  .rw[z]at h;cases h
 .exact .inl ⟨o,h⟩
 .exact .inr h
def Pg{K:Q0}{F:↑8}{a:Addr}{b:Za}(c:Nj H)(e:SqL K H a (b.map V.int))(h: ∃S,F [.scr (b.map MV.int)] []=.ok (.val (.bl true)) S):RJ K F [.ref a] H (λv _=>v=.bl true) λ_ _ _=>False:=by obtain⟨S,h⟩:=h;refine⟨_,yH (Em (Z9 c e) (tK b)) yL,rfl,λg _=>?_⟩;rw[h];exact λv α' H' x w d=>JM d.1
theorem xQ(b:β)(S:Sto)(k:β->Sto->R γ):(R.ok b S).bind k=k b S:=by have h:=R.bind_ok b S k;exact Eq.trans h rfl
theorem Wr(d:MV)(S:Sto):Vd (some (some d)) S=.ok (.val d) S:=rfl
theorem MK:FK S (S++T):=⟨by rw[lA];lia,λl a=>.inl (ç a)⟩
def xD(n:Nat)(i:Int):lo n (.int i):=by unfold lo;trivial
def sO(n:Nat)(i:Db):lo n (.str i):=by unfold lo;trivial
def ML(n:Nat)(i:Bool):lo n (.bl i):=by unfold lo;trivial
def yO{n:Nat}{ds:U0}(h:HN n ds):lo n (.tup ds):=by unfold lo;exact h
theorem yD{n:Nat}: ∀{ds:U0},(∀d∈ds,lo n d)->HN n ds
 |[],_=>by unfold HN;trivial
 |d::ds,h=>by unfold HN;exact⟨h d mF0,yD λe a=>h e (mO _ a)⟩
def Ph{d:MV}(h:lo ↑0 d)(a: ∀l,d≠.loc l):gV S (.val d) (S++T)=.ok (.val d) S:=by
 unfold gV;rw[iP MK];have e:(S++T).take ↑0=S:=by simp
 cases d with
 |loc l=>exact absurd rfl (a l)
 |_=>dsimp only;rw[iP h,e]
def Pi{ds:U0}(h:HN ↑0 ds):gV S (.new ds) (S++T)=.ok (.new ds) S:=by
 unfold gV;rw[iP MK];have e:(S++T).take ↑0=S:=by simp
 dsimp only;rw[iP h,e]
theorem Pj{l:Nat}{ds:U0}(b:↑0<=l)(a:(S++T)[l]? =some (.lst ds))(h:HN ↑0 ds):gV S (.val (.loc l)) (S++T)=.ok (.new ds) S:=by
 unfold gV;rw[iP MK];have e:(S++T).take ↑0=S:=by simp
 dsimp only;rw[iN #[0],a];dsimp only;rw[iP h,e]
def yT{n:Nat}{F:↑8}{d:MV}(c:↑4=n)(b:F (zO rs S).1 (zO rs S).2=.ok (.val d) (S++T))(h:lo ↑0 d)(a: ∀l,d≠.loc l):zH n F rs S=.ok (.val d) S:=by unfold zH;rw[iP c,b];exact Ph h a
def aK{n:Nat}{F:↑8}{ds:U0}(b:↑4=n)(a:F (zO rs S).1 (zO rs S).2=.ok (.new ds) (S++T))(h:HN ↑0 ds):zH n F rs S=.ok (.new ds) S:=by unfold zH;rw[iP b,a];exact Pi h
def XS{n:Nat}{F:↑8}{l:Nat}{ds:U0}(d:↑4=n)(c:F (zO rs S).1 (zO rs S).2=.ok (.val (.loc l)) (S++T))(b:↑0<=l)(a:(S++T)[l]? =some (.lst ds))(h:HN ↑0 ds):zH n F rs S=.ok (.new ds) S:=by unfold zH;rw[iP d,c];exact Pj b a h
def nU{n:Nat}{F:↑8}{d:MV}(c:↑4=n)(b:F (zO rs S).1 (zO rs S).2=.ok (.val d) S)(h:lo ↑0 d)(a: ∀l,d≠.loc l):zH n F rs S=.ok (.val d) S:=yT c (by rw[aN];exact b) h a
theorem XT{gf:↑17}{body:AY}{gs:Z0}{L:U0}(I:Nat->Rho->Sto->Prop)
  (st: ∀i d,L[i]? =some d-> ∀ρ S,I i ρ S-> ∃ρ' S',((gf d ρ S).bind λa S0=>body a S0)=.ok (.next ρ') S'/\stay gs S'/\I (i+1) ρ' S'):
  ∀(n i:Nat){ρ:Rho}{S:Sto},n+i=L.length->I i ρ S-> ∃ρ' S',cF gf body gs (L.drop i) ρ S=.ok (.next ρ') S'/\I L.length ρ' S'
 |0,i,ρ,S,hn,h=>by
  have e:i=L.length:=by lia
  subst e;rw[drop_length];exact⟨ρ,S,rfl,h⟩
 |n+1,i,ρ,S,hn,h=>by
  have hi:i<L.length:=by lia
  obtain⟨k,S1,e,hs,h1⟩:=st i L[i] (gE hi) ρ S h;obtain⟨b,S2,e2,j⟩:=XT I st n _ #[0] h1;refine⟨b,S2,?_,j⟩;rw[List.drop_eq_getElem_cons hi];unfold cF
  cases z:gf L[i] ρ S with
  |ok a S0=>
   rw[z]at e;have e:body a S0=.ok _ S1:=e;show(body a S0).bind _=_;rw[e,xQ];dsimp only;rw[iP hs];exact e2
  |exc c fs S0=>rw[z]at e;cases e
  |no=>rw[z]at e;cases e
theorem IA{body:AY}{gs:Z0}{L:U0}(I:Nat->Rho->Sto->Prop)
  (st: ∀i d,L[i]? =some d-> ∀ρ S,I i ρ S-> ∃ρ' S',((gf d ρ S).bind λa S0=>body a S0)=.ok (.next ρ') S'/\stay gs S'/\I (i+1) ρ' S') {ρ:Rho} {S:Sto} (h:I 0 ρ S):
  ∃ρ' S',cF gf body gs L ρ S=.ok (.next ρ') S'/\I L.length ρ' S':=XT I st L.length 0 #[0] h
section
variable{S:Sto}
theorem zFU(b:Bool)(S:Sto):hX (.val (.bl b)) S=.ok b S:=rfl
theorem as_int(i:Int)(S:Sto):Ob (.val (.int i)) S=.ok (some i) S:=rfl
theorem zAA(b:Bool)(S:Sto):mX (.val (.bl b)) S=.ok b S:=rfl
theorem add_int(i j:Int)(S:Sto):wK (.val (.int i)) (.val (.int j)) S=.ok (.val (.int (i+j))) S:=rfl
theorem sub_int(i j:Int)(S:Sto):Jm (.val (.int i)) (.val (.int j)) S=.ok (.val (.int (i - j))) S:=rfl
def add_str{x y:Db}(h:x.length+y.length<=sizeLine):wK (.val (.str x)) (.val (.str y)) S=.ok (.val (.str (x++y))) S:=iP h
def Ws{x y:U0}(h:x.length+y.length<=sizeLine):wK (.val (.tup x)) (.val (.tup y)) S=.ok (.val (.tup (x++y))) S:=iP h
def Pk{p q:Er}{x y:U0}(h1:Wb S p=some x)(a:Wb S q=some y)(h:x.length+y.length<=sizeLine):wK p q S=.ok (.new (x++y)) S:=by
 have e:Ew p q S=.ok (.new (x++y)) S:=by unfold Ew;rw[h1,a];exact iP h
 unfold wK;split
 .cases h1
 .cases h1
 .cases h1
 .exact e
theorem zAB{g:Int->Int->Bool}(i j:Int)(S:Sto):zFG g (.val (.int i)) (.val (.int j)) S=.ok (.val (.bl (g i j))) S:=rfl
def Wt(i j:Int):eqV (.int i) (.int j)=decide (i=j):=by
 show(i==j)=_;by_cases h:i=j
 .subst h;simp
 .rw[dF0 h];simpa using h
def Wu(x y:Db):eqV (.str (mK x)) (.str (mK y))=decide (x=y):=by
 show(mK x==mK y)=_;by_cases h:x=y
 .subst h;simp
 .rw[dF0 h];have:=λz=>h (FC z);simpa using this
theorem CB(n:Nat)(i j:Int):eqv S (n+1) (.int i) (.int j)=some (decide (i=j)):=by rw[<-Wt];rfl
theorem uG(n:Nat)(x y:Db):eqv S (n+1) (.str x) (.str y)=some (decide (x=y)):=by rw[<-Wu];rfl
theorem zAC(n:Nat)(x:Int)(y:Db):eqv S (n+1) (.int x) (.str y)=some false:=rfl
theorem zAD(n:Nat)(x:Db)(y:Int):eqv S (n+1) (.str x) (.int y)=some false:=rfl
theorem Wv(d f:MV):fD (.val d) (.val f) S=match eqv S (zQ+1) d f with |some k=>.ok (.val (.bl k)) S|none=>.no:=rfl
theorem Ww(d f:MV):HV (.val d) (.val f) S=match eqv S (zQ+1) d f with |some k=>.ok (.val (.bl !k)) S|none=>.no:=rfl
def Bu{d f:MV}{k:Bool}(h:eqv S (zQ+1) d f=some k):fD (.val d) (.val f) S=.ok (.val (.bl k)) S:=by rw[Wv,h]
def sP{d f:MV}{k:Bool}(h:eqv S (zQ+1) d f=some k):HV (.val d) (.val f) S=.ok (.val (.bl !k)) S:=by rw[Ww,h]
def eq_int(i j:Int)(S:Sto):fD (.val (.int i)) (.val (.int j)) S=.ok (.val (.bl (decide (i=j)))) S:=Bu (CB _ i j)
def ne_int(i j:Int)(S:Sto):HV (.val (.int i)) (.val (.int j)) S=.ok (.val (.bl (!decide (i=j)))) S:=sP (CB _ i j)
theorem lt_int(i j:Int)(S:Sto):We (.val (.int i)) (.val (.int j)) S=.ok (.val (.bl (decide (i<j)))) S:=rfl
theorem lt_str(i j:Db)(S:Sto):We (.val (.str i)) (.val (.str j)) S=.ok (.val (.bl (decide (i<j)))) S:=rfl
theorem FS{b:Int}(h:0<b)(d:b<1073741824)(a:Int)(S:Sto):PZ (.val (.int a)) (.val (.int b)) S=.ok (.val (.int (a / b))) S:=by
 refine iP ⟨h,?_⟩;have c:b.natAbs<2 ^ 30:=by omega
 have:=(Nat.log2_lt (by omega:b.natAbs≠0)).mpr c
 lia
def mod_lit{b:Int}(h:0<b)(a:Int)(S:Sto):KM (.val (.int a)) (.val (.int b)) S=.ok (.val (.int (a % b))) S:=iP h
def Fc{b:Int}(h: -(2 ^ 64)<b/\b<2 ^ 64)(a:Int)(S:Sto):vW (.val (.int a)) (.val (.int b)) S=.ok (.val (.int (a * b))) S:=iP (Or.inr (Or.inl h))
def FT{a:Int}(h: -(2 ^ 64)<a/\a<2 ^ 64)(b:Int)(S:Sto):vW (.val (.int a)) (.val (.int b)) S=.ok (.val (.int (a * b))) S:=iP (Or.inl h)
theorem Wx(ρ:Rho)(i:Nat)(d:MV)(S:Sto):MB ρ i (.val d) S=.ok (.next (ρ.set i (some d))) S:=rfl
theorem Wy(ρ:Rho)(i:Nat)(ds:U0)(S:Sto):MB ρ i (.new ds) S=.ok (.next (ρ.set i (some (.loc ↑0)))) (S++[.lst ds]):=rfl
theorem Wz(S:Sto):zO [] S=([],S):=rfl
theorem Xa(d:MV)(rs:List Er)(S:Sto):zO (.val d::rs) S=(d::(zO rs S).1,(zO rs S).2):=rfl
theorem zB{F G:AY}{ρ':Rho}{S:Sto}(h:F ρ S=.ok (.next ρ') S'):zI F G ρ S=G ρ' S':=by unfold zI;rw[h];rfl
theorem yG{F G:AY}{S:Sto}{r:Er}(h:F ρ S=.ok (.ret r) S'):zI F G ρ S=.ok (.ret r) S':=by unfold zI;rw[h];rfl
def yP(S:Sto):stay [] S:=gU
def jI{b:AY}{gs:Z0}{d:MV}{ds:U0}{a ρ':Rho}{S0:Sto}(c:gf d ρ S=.ok a S0)(h:b a S0=.ok (.next ρ') S')(hs:stay gs S'):cF gf b gs (d::ds) ρ S=cF gf b gs ds ρ' S':=by
 conv=>lhs;unfold cF
 rw[c,xQ,h,xQ];dsimp only;rw[iP hs]
def FU{b:AY}{gs:Z0}{d:MV}{ds:U0}{a:Rho}{S0:Sto}{r:Er}(c:gf d ρ S=.ok a S0)(h:b a S0=.ok (.ret r) S'):cF gf b gs (d::ds) ρ S=.ok (.ret r) S':=by
 conv=>lhs;unfold cF
 rw[c,xQ,h,xQ]
def Bv{t:AZ}{b:AY}{n:Nat}{ρ':Rho}{S2:Sto}(h1:t ρ S=.ok true S1)(a:b ρ S1=.ok (.next ρ') S2):pX t b (n+1) ρ S=pX t b n ρ' S2:=by
 conv=>lhs;unfold pX
 rw[h1,xQ,iP rfl,a,xQ]
def Jt{t:AZ}{b:AY}{n:Nat}(h1:t ρ S=.ok false S1):pX t b (n+1) ρ S=.ok (.next ρ) S1:=by
 conv=>lhs;unfold pX
 rw[h1,xQ,iN xF0]
theorem fQ{α:Type}{xs:List α}{i:Int}(a:0<=i)(h1:i<↑33): ∃c,uA xs i=some c:=by refine⟨xs[i.toNat]'#[0],?_⟩;unfold uA XB;rw[iP a,iP h1];exact gE _
theorem Xb{α:Type}{xs:List α}{i:Int}(a: -(xs.length:Int)<=i)(h1:i<↑33): ∃c,uA xs i=some c:=by
 by_cases h:0<=i
 .exact fQ h h1
 .refine⟨xs[(i+↑33).toNat]'#[0],?_⟩;unfold uA XB;rw[iN h,iP a];exact gE _
def fR{α:Type}{P:α->Prop}{xs:List α}{i:Int}{e:α}(h: ∀e∈xs,P e)(z:uA xs i=some e):P e:=by
 unfold uA at z
 cases q:XB ↑33 i with
 |none=>rw[q]at z;cases z
 |some j=>rw[q]at z;exact h e (ñ z)
def ix_str{x:Db}{i:Int}{c:Nat}(h:x.length<=sizeLine)(a:uA x i=some c):zU (.val (.str x)) (.val (.int i)) S=.ok (.val (.str [c])) S:=by show(if x.length<=sizeLine then match uA x i with |some c=>R.ok _ S|none=>.no else .no)=_;rw[iP h,a]
def ix_tup{ds:U0}{i:Int}{d:MV}(a:uA ds i=some d):zU (.val (.tup ds)) (.val (.int i)) S=.ok (.val d) S:=by show(match uA ds i with |some d=>R.ok _ S|none=>.no)=_;rw[a]
def MM{ds:U0}{i:Int}{d:MV}(a:uA ds i=some d):zU (.new ds) (.val (.int i)) S=.ok (.val d) S:=by show(match uA ds i with |some d=>R.ok _ S|none=>.no)=_;rw[a]
def AQ{l:Nat}{ds:U0}{i:Int}{d:MV}(a:S[l]? =some (.lst ds))(b:uA ds i=some d):zU (.val (.loc l)) (.val (.int i)) S=.ok (.val d) S:=by
 have e:kS S (.val (.loc l))=some ds:=by unfold kS;dsimp only;rw[a]
 show(match kS S _ with |some ds=>getL ds _ S|none=>.no)=_;rw[e];show(match uA ds i with |some d=>R.ok _ S|none=>.no)=_;rw[b]
def Fe{l:Nat}{ds:U0}(a:S[l]? =some (.lst ds)):cS [.val (.loc l)] S=.ok (.val (.int ↑23)) S:=by
 have e:kS S (.val (.loc l))=some ds:=by unfold kS;dsimp only;rw[a]
 have e2:itemsOf S (.val (.loc l))=some ds:=by unfold itemsOf;exact e
 show(match itemsOf S _ with |some ds=>R.ok _ S|none=>.no)=_;rw[e2]
def aL{l:Nat}{ds:U0}(a:S[l]? =some (.lst ds)):kS S (.val (.loc l))=some ds:=by unfold kS;dsimp only;rw[a]
def yV{l:Nat}{ds:U0}(a:S[l]? =some (.lst ds)):AA (.val (.loc l)) S=.ok ⟨ds,[(l,ds)]⟩ S:=by unfold AA;dsimp only;rw[a]
def yQ{l:Nat}{ds:U0}(a:S[l]? =some (.lst ds)):stay [(l,ds)] S:=λp b=>by
 have:=by simpa using b
 subst this;exact a
def fH{j:Int}(h: -(2 ^ 62)<=j/\j<2 ^ 62):cR [.val (.int j)] S=.ok ⟨(List.range j.toNat).map λk=>.int (k:Nat),[]⟩ S:=iP h
def cut_str{x:Db}(h:x.length<=sizeLine)(lo hi:O0):EC (.val (.str x)) lo hi S=.ok (.val (.str (cQ x lo hi))) S:=iP h
theorem Pl{α:Type}(x:List α)(lo hi:O0):(cQ x lo hi).length<=x.length:=by
 unfold cQ;rw[lT,Đ]
 lia
def XU{α:Type}{x:List α}{lo hi:O0}{a:α}(h:a∈cQ x lo hi):a∈x:=List.mem_of_mem_drop (mem_of_mem_take h)
def MN{α:Type}(f:α->β)(x:List α)(lo hi:O0):cQ (x.map f) lo hi=(cQ x lo hi).map f:=by unfold cQ;rw[lM,List.map_take,List.map_drop]
def fits{n:Nat}(h:n<=1000000):n<=sizeLine:=by rw[Ċ];exact ì h ↑7
def ED(h:↑4<=1000000):kR rs S=.ok (.new (zO rs S).1) (zO rs S).2:=iP (fits h)
def pZ(h:↑4<=1000000):wM rs S=.ok (.val (.tup (zO rs S).1)) (zO rs S).2:=iP (fits h)
def Pm(S:Sto):kR [] S=.ok (.new []) S:=ED (by simp)
def Xc(a:MV)(S:Sto):kR [.val a] S=.ok (.new [a]) S:=ED (by simp)
def zFV(a b:MV)(S:Sto):kR [.val a,.val b] S=.ok (.new [a,b]) S:=ED (by simp)
def zFW(a b c:MV)(S:Sto):kR [.val a,.val b,.val c] S=.ok (.new [a,b,c]) S:=ED (by simp)
def lst6(a b c d e f:MV)(S:Sto):kR [.val a,.val b,.val c,.val d,.val e,.val f] S=.ok (.new [a,b,c,d,e,f]) S:=ED (by simp)
def tup2(a b:MV)(S:Sto):wM [.val a,.val b] S=.ok (.val (.tup [a,b])) S:=pZ (by simp)
def tup3(a b c:MV)(S:Sto):wM [.val a,.val b,.val c] S=.ok (.val (.tup [a,b,c])) S:=pZ (by simp)
theorem zAE(i:Int)(S:Sto):oS [.val (.int i),.val (.typ "str")] S=.ok (.val (.bl false)) S:=rfl
theorem zAF(i:Db)(S:Sto):oS [.val (.str i),.val (.typ "str")] S=.ok (.val (.bl true)) S:=rfl
theorem zAG(i:Int)(S:Sto):oS [.val (.int i),.val (.typ "tuple")] S=.ok (.val (.bl false)) S:=rfl
theorem zAH(i:Db)(S:Sto):oS [.val (.str i),.val (.typ "tuple")] S=.ok (.val (.bl false)) S:=rfl
theorem zAI(i:U0)(S:Sto):oS [.val (.tup i),.val (.typ "tuple")] S=.ok (.val (.bl true)) S:=rfl
theorem zAJ(i:Bool)(S:Sto):oS [.val (.bl i),.val (.typ "bool")] S=.ok (.val (.bl true)) S:=rfl
theorem XX{gf:↑17}{cf:AZ}{ef:AX}{ρb:Rho}{gs:Z0}{P:MV->Prop}(hs:stay gs S):
  ∀{ds:U0},(∀d∈ds, ∃a y,gf d ρb S=.ok a S/\cf a S=.ok true S/\ef a S=.ok (.val y) S/\P y)-> ∃out,zV gf cf ef ρb gs ds S=.ok out S/\out.length=↑23/\ ∀o∈out,P o
 |[],_=>⟨[],rfl,rfl,λo h=>by simp at h⟩
 |d::ds,st=>by obtain⟨a,y,h1,c,k,b⟩:=st d mF0;obtain⟨out,e,m,i⟩:=XX hs λd j=>st d (mO _ j);refine⟨_,?_,by rw[lC,lC,m],λo n=>(mC.mp n).elim (λz=>z▸b) (i o)⟩;unfold zV;rw[h1,yC,xQ,c,yC,xQ,k,yC,xQ];unfold wI;rw[xQ,iP hs,e];rfl
theorem RK{gf:↑17}{cf:AZ}{ef:AX}{ρb:Rho}{gs:Z0}(hs:stay gs S):
  ∀{ds:U0},(∀d∈ds, ∃a,gf d ρb S=.ok a S/\cf a S=.ok false S)->zV gf cf ef ρb gs ds S=.ok [] S
 |[],_=>rfl
 |d::ds,st=>by obtain⟨a,h1,b⟩:=st d mF0;have e:=RK hs (ef:=ef) λd c=>st d (mO _ c);unfold zV;rw[h1,yC,xQ,b,yC,xQ,iN xF0,iP hs,e]
def Nm(x:Db):Prop:=1<=x.length/\x.length<=8/\ ∀c∈x,97<=c/\c<=122
def Vl:MV->Prop
 |.int i=> -(10 ^ 30)<i/\i<10 ^ 30
 |.str x=>Nm x
 |_=>False
def Vl.cases{d:MV}(h:Vl d):(∃i,d=.int i/\ -(10 ^ 30)<i/\i<10 ^ 30)\/ ∃x,d=.str x/\Nm x:=by
 cases d with
 |int i=>exact .inl ⟨i,rfl,h⟩
 |str x=>exact .inr ⟨x,rfl,h⟩
 |_=>exact h.elim
def Vl.lo{d:MV}(h:Vl d)(n:Nat):lo n d:=by
 rcases h.cases with⟨i,rfl,_⟩|⟨x,rfl,_⟩
 .exact xD n i
 .exact sO n x
end
def Ite(K:Q0)(k:Bool)(l:Addr):It:=
 ⟨λi H=> ∃xs x,F8 k K H l xs/\xs[i]? =some x,
   λi H v H'=> ∃p x,H p=none/\v=.ref p/\H'=xY H p (.tup [.int (i:Nat),x])/\(∀xs,F8 k K H l xs->xs[i]? =some x),
   λi H=> ∃xs,F8 k K H l xs/\↑33<=i⟩
section
variable{prog:ň}{w:World}{A:Ň}{E:VP}{s:Ņ}{k:Bool}{l:Addr}{its:B0}
def Ju(e:JO k s.heap l its)
  (h: ∀h',EnSt k (↑1+1) ↑1 l 0 h'->(∀c o,s.heap.get? c=some o->h'.get? c=some o)->Q (.ref (↑1+1)) {s with heap:=h'}):
  wpAny ↑9 A (call (.type "enumerate") [.ref l]) Q E s:=by
 refine callType_new F.called_enumerate ↑7 (F.typeCall_enumerate_1 _) (F.newCall_enumerate_1 _) (λa=>F.args_object_init_2 a _) F.entry_enumerate_new (Bt k l its) ⟨e,?_⟩;have i:(s.heap.push (MH k l)).objs.size=↑1+1:=Ĝ ..;have d:=by have:=ä (s.heap.push (MH k l)) (o:={cls:=.type "enumerate",data:=.fields #[.none,.bool false,.ref ↑1,rawInt 0,.none,.none]}) rfl;rw[i]at this;exact this
 refine⟨⟨_,d,rfl⟩,h _ ⟨⟨_,d⟩,IsSub.mk' (hP0 _ (ä _ rfl))⟩ λb o x=>hP0 _ (hP0 _ x)⟩
end
theorem Jv{P:ň}{w:World}{K:Q0}{elts:P0}{kt:Nat}{pt:Pos}{k:Bool}{e it l:Addr}(hne:e≠it):
  Turn P w K (.Tuple elts kt pt) (Ite K k l) [e,it] e (λi h=>EnSt k e it l i h) where
 mem:=by simp
 obj:=λi h st b hb=>by
  obtain⟨⟨old,he⟩,hs⟩:=st;have hb':b=e\/b=it:=by simpa using hb
  rcases hb' with rfl|rfl
  .exact⟨_,he,λv q=>by cases q⟩
  .exact hs.there
 keep:=λi h h' st kk=>by obtain⟨⟨old,he⟩,hs⟩:=st;exact⟨⟨old,kk e (by simp) _ he⟩,hs.move λo q=>kk it (by simp) o q⟩
 item:=by
  intro X hP hw hK hc i pins s σ H E I hf st hg;subst hP hw hK;obtain⟨xs,x,q1,hx⟩:=hg;obtain⟨its,r1,p1,_⟩:=I.seqK q1;obtain⟨u,hu,ru⟩:=r1.get hx;obtain⟨⟨old,he⟩,hs⟩:=st;have hT:s.TypeIs (.ref e) "enumerate":=⟨_,he,rfl⟩
  unfold pyNext
  refine wB (wpAny_attempt (Ĉ hT F.slot_enumerate_next (ö F.slot_enumerate_next hT F.entry_enumerate_next
   (Wq he hs p1 (by simpa using hu) hne λh' a1 a2 a3 a4=>wP ⟨_,rfl,?_⟩) (F.args_enumerate_next_1 _))))
  refine wpAny_letOwnedTupleGo_enum a1 λh2 z2 sb2=>?_;have hpn:H ↑1=none:=I.hok.fresh (à _)
  have I0:Inv X pins σ _ {s with heap:=s.heap.push {cls:=.type "tuple",data:=.seq #[.int i s.toks,u]},toks:=s.toks+1}:=
   I.laid (o:=.tup [.int (i:Nat),x]) (λb o e=>hP0 _ e) (à _) ⟨by show 2<=sizeLine;decide,_,.cons ⟨_,rfl⟩ (.cons ru .nil),⟨_,ä _ rfl,rfl,_,rfl⟩⟩
  have lt: ∀b∈[e,it],b<s.heap.objs.size:=λb hb=>by
   have hb':b=e\/b=it:=by simpa using hb
   rcases hb' with rfl|rfl
   .exact á he
   .obtain⟨o,eo,_⟩:=hs.there;exact á eo
  have fr: ∀b∈[e,it],xY H ↑1 (.tup [.int (i:Nat),x]) b=none:=λb hb=>by rw[zL (â (lt b hb))];exact(hf b hb).1
  have mv: ∀b o,b∉[e,it]->(s.heap.push {cls:=.type "tuple",data:=.seq #[.int i s.toks,u]}).get? b=some o->h2.get? b=some o:=λb o hb eo=>by
   simp only[mC,nM,or_false,not_or]at hb;refine sb2.extBut _ _ hb.1 ?_;by_cases hbs:b=↑1
   .subst hbs;rw[ä _ rfl]at eo;cases eo;exact a3
   .rw[Heap.get?_push_ne _ _ _ hbs]at eo;exact a4 b o hb.1 hb.2 eo
  have I2:=I0.turnedL (t':=s.toks+1) mv λb hb=>let ⟨_,c2,c3,c4,c5,c6⟩:=hf b hb;⟨fr b hb,c2,c3,c4,c5,c6⟩;refine⟨.ref ↑1,_,I2,rfl,⟨_,x,hpn,rfl,rfl,λzs hz=>?_⟩,⟨⟨u,?_⟩,?_⟩,fr⟩
  .rw[I.seqK_inj hz q1];exact hx
  .simpa using z2
  .exact a2.move λo eo=>sb2.extBut _ _ (Ne.symm hne) eo
 done:=by
  intro X hP hw hK hc i pins s σ H E I hf st hg;subst hP hw hK;obtain⟨xs,q1,hx⟩:=hg;obtain⟨its,r1,p1,_⟩:=I.seqK q1;obtain⟨⟨old,he⟩,hs⟩:=st;have hT:s.TypeIs (.ref e) "enumerate":=⟨_,he,rfl⟩
  have e1:=r1.length;unfold pyNext;refine wB (wpAny_attempt (Ĉ hT F.slot_enumerate_next (ö F.slot_enumerate_next hT F.entry_enumerate_next ?_ (F.args_enumerate_next_1 _))));show wpAny _ _ (field (.ref e) 2 >>= _) _ _ _;refine wB (ę he rfl rfl ?_);refine wB (Wo (I.ok.hd hc) hs p1 (by simp;lia) λh' x hk hx'=>?_);obtain⟨o,ho,hcl⟩:=hx';refine wB (ĵ ⟨o,ho,hcl⟩ isSubtype_stop (wP ⟨rfl,?_⟩));refine I.turnedL (λb o hb eo=>?_) hf;simp only[mC,nM,or_false,not_or]at hb;exact hk b o hb.2 eo
 self:=λ_ _ _ _ _ st h=>let ⟨⟨_,he⟩,_⟩:=st;wpAny_pyIter_enum he h
def zFX(K:Q0)(ta:TA):TI:=λσ H R=>ta σ H λvs H1=> ∃k l,vs=[.ref l]/\(∃xs,F8 k K H1 l xs)/\R (Ite K k l) H1
section
variable{X:Cx}{W:XW}{a:Expr}{elts:P0}{kt:Nat}{pt p pos:Pos}{ta:TA}{af:↑13}
def Xd(v:Gl X "enumerate")(y:X.mg "enumerate"=none)(j:PA X [a] ta)(hs:starEach [a] X.env=[(false,eval a X.env)]:=by rfl):
  PI X (.Tuple elts kt pt) (.Call (.Name "enumerate" p) [a] [] pos) (zFX X.K ta):=by
 intro pins s σ H R I h;refine Call_ (DX I v y Wp (ĝ (hZ (j pos pins s σ H _ I h) λus e ⟨vs,H1,I1,n,w⟩=>?_) (by rw[hs];rfl) (by rfl)));obtain⟨k,l,rfl,⟨xs,u⟩,q⟩:=w
 cases n with
 |cons r rr=>
  cases rr;cases r;obtain⟨its,A,p1,_⟩:=I1.seqK u;refine Ju p1 λh' st o=>let ⟨⟨_,i⟩,_⟩:=id st;wpAny_pyIter_enum i ?_;have z:Inv X pins σ H1 {e with heap:=h'}:=I1.kept o;refine⟨_,_,_,_,H1,rfl,z,Jv (Ė (ė _)),st,λb m=>?_,q⟩
  have c:e.heap.objs.size<=b:=by
   have d:=by simpa using m
   rcases d with h|h<;>rw[h]<;>(first |exact à _|exact Nat.le_add_right _ _)
  exact I1.fpOk c (I1.hok.fresh c)
noncomputable def QC(xs:U0):List MV:=xs.zipIdx.map λp=>.tup [.int (p.2:Nat),p.1]
def Pn(rs:List Er)(S:Sto):R Wk:=match rs with
 |[p]=>match srcOf S p with
  |some a=>.ok ⟨QC a.ds,a.gs⟩ S
  |none=>.no
 |_=>.no
theorem Xe(N:Gl X "enumerate")(O:X.mg "enumerate"=none)(m:LY X W [a] af)(hs:starEach [a] X.env=[(false,eval a X.env)]:=by rfl):
  UB X W (.Tuple elts kt pt) (.Call (.Name "enumerate" p) [a] [] pos) (λρ S=>(af ρ S).bind Pn):=by
 obtain⟨t,m,k⟩:=m;refine⟨_,Xd N O m hs,λα ρ S σ H Rc M sl q=>k α ρ S σ H _ M sl (q.bind λvs rs S1 r H1 e L D G b=>?_)⟩
 replace b:=b.shift L
 unfold Pn at b;split at b
 .rename_i Y;split at b
  .rename_i h e1;obtain⟨u,rfl,T⟩:=MD G;obtain⟨J,F,rfl,p1,c⟩:=Z8 D e1 T;have P:=c.get _ _ _ p1;have A:(QC h.ds).length=h.ds.length:=by unfold QC;rw[lM,length_zipIdx]
   refine⟨h.k,J,rfl,⟨_,P.choose_spec.1⟩,b.here D ⟨λα S H=>F α S H,?_,p1,?_,?_⟩⟩
   .intro i v S2 K j C;obtain⟨us,n,y⟩:=c.get _ _ _ j;have hl:=y.length;refine⟨λhi=>?_,λhi=>?_⟩
    .have hi:i<(QC h.ds).length:=hi;have h1:i<us.length:=by lia
     refine⟨⟨us,_,n,gE h1⟩,?_⟩;rintro x H' ⟨Z,E,B,rfl,rfl,Q⟩;obtain⟨d,I,U⟩:=y.get (Q us n);have s:=C.newx (o:=.tup [.int (i:Nat),E]) B;have z:=C.new (o:=.tup [.int (i:Nat),E]) B;refine⟨s,z,c.stays _ _ _ _ _ _ j s z (c.st _ _ _ j),.tup [.int (i:Nat),d],?_,?_⟩
     .unfold QC;rw[ð,List.getElem?_zipIdx,I];simp
     .exact uE (.of zX) (yH (xZ _) (yH (U.ext s) yL))
    .have hi:(QC h.ds).length<=i:=hi;exact⟨us,n,by lia⟩
   .intro r S1 H1 v S2 K j x w hs;exact c.stays _ _ _ _ _ _ j x w hs
   .exact c.st _ _ _ p1
  .exact b.elim
 .exact b.elim
end
instance:DecidableEq MV:=λ_ _=>Classical.propDecidable _
def look(kvs:zA0)(k:MV):Option MV:=(kvs.find? λp=>decide (p.1=k)).map (·.2)
def putK(kvs:zA0)(k d:MV):List (MV×MV):=if(look kvs k).isSome=true then kvs.map (λp=>if p.1=k then(p.1,d)else p)else kvs++[(k,d)]
noncomputable def MP:MV->Bool
 |.tup _=>true
 |_=>false
theorem XY:kM .non=some (.key none):=by unfold kM;rfl
theorem qA(i:Int):kM (.int i)=some (.key (some (.inl i))):=by unfold kM;rfl
theorem tO(x:Db):kM (.str x)=some (.key (some (.inr (mK x)))):=by unfold kM;rfl
def qB(ds:U0):kM (.tup ds)=(cE ds).map .tup:=by
 conv=>lhs;unfold kM
theorem CC:cE []=some []:=by unfold cE;rfl
def qC(d:MV)(ds:U0):cE (d::ds)=(kM d).bind λk=>(cE ds).map (k::·):=by
 conv=>lhs;unfold cE
mutual
theorem MQ: ∀{d e:MV}{k:NK},kM d=some k->kM e=some k->d=e
 |.int i,e,k,hd,a=>by
  rw[qA]at hd;cases hd
  cases e with
  |int j=>rw[qA]at a;cases a;rfl
  |str x=>rw[tO]at a;cases a
  |tup ds=>rw[qB]at a;cases z:cE ds<;>rw[z]at a<;>cases a
  |_=>unfold kM at a;cases a
 |.str x,e,k,hd,a=>by
  rw[tO]at hd;cases hd
  cases e with
  |int j=>rw[qA]at a;cases a
  |str y=>
   rw[tO]at a;have a:=ã a;injection a with a
   injection a with a
   injection a with a
   rw[FC a]
  |tup ds=>rw[qB]at a;cases z:cE ds<;>rw[z]at a<;>cases a
  |_=>unfold kM at a;cases a
 |.tup ds,e,k,hd,a=>by
  rw[qB]at hd
  cases z:cE ds with
  |none=>rw[z]at hd;cases hd
  |some ks=>
   rw[z]at hd;cases hd
   cases e with
   |int j=>rw[qA]at a;cases a
   |str y=>rw[tO]at a;cases a
   |tup es=>
    rw[qB]at a
    cases b:cE es with
    |none=>rw[b]at a;cases a
    |some ks'=>rw[b]at a;cases a;rw[RL z b]
   |_=>unfold kM at a;cases a
 |.non,e,k,hd,a=>by
  rw[XY]at hd;cases hd
  cases e with
  |non=>rfl
  |int j=>rw[qA]at a;cases a
  |str x=>rw[tO]at a;cases a
  |tup ds=>rw[qB]at a;cases z:cE ds<;>rw[z]at a<;>cases a
  |_=>unfold kM at a;cases a
 |.bl _,e,k,hd,a=>by unfold kM at hd;cases hd
 |.scr _,e,k,hd,a=>by unfold kM at hd;cases hd
 |.loc _,e,k,hd,a=>by unfold kM at hd;cases hd
 |.typ _,e,k,hd,a=>by unfold kM at hd;cases hd
 |.obj _ _ _,e,k,hd,a=>by unfold kM at hd;cases hd
theorem RL: ∀{ds es:U0}{b:List NK},cE ds=some b->cE es=some b->ds=es
 |[],es,b,hd,he=>by
  rw[CC]at hd;cases hd
  cases es with
  |nil=>rfl
  |cons e es=>
   rw[qC]at he;cases z:kM e<;>rw[z]at he
   .cases he
   .cases a:cE es<;>rw[a]at he<;>cases he
 |d::ds,es,b,hd,he=>by
  rw[qC]at hd
  cases z:kM d with
  |none=>rw[z]at hd;cases hd
  |some k=>
   rw[z]at hd
   cases a:cE ds with
   |none=>rw[a]at hd;cases hd
   |some ks2=>
    rw[a]at hd
    cases es with
    |nil=>rw[CC]at he;cases he;cases hd
    |cons e es=>
     rw[qC]at he
     cases h:kM e with
     |none=>rw[h]at he;cases he
     |some k'=>
      rw[h]at he
      cases c:cE es with
      |none=>rw[c]at he;cases he
      |some ks4=>
       rw[c]at he;cases hd;cases he;rw[MQ z h,RL a c]
end
section
variable{X:Cx}{pins:M0}{σ:St}{H:Hp}{s:Ņ}{α:B9}
mutual
theorem Bw(I:↑2): ∀{d:MV}{k:NK}{x:V}{u:ņ},kM d=some k->Den X.K α H d x->RelV x u->PV (mk X.prog X.w) s.heap k u
 |.int i,k,x,u,hk,hd,r=>by rw[qA]at hk;cases hk;cases xB hd;obtain⟨t,rfl⟩:=r;exact kQ.mpr (by show tD (.inl i) (.int i t)=true;simp[tD,Value.isInt])
 |.str y,k,x,u,hk,hd,r=>by rw[tO]at hk;cases hk;cases wH hd;obtain⟨t,rfl⟩:=r;exact kQ.mpr (by show tD (.inr (mK y)) (.str (mK y) t)=true;simp[tD,Value.isStrOf])
 |.tup ds,k,x,u,hk,hd,r=>by
  rw[qB]at hk
  cases z:cE ds with
  |none=>rw[z]at hk;cases hk
  |some ks=>
   rw[z]at hk;cases hk;obtain⟨a,vs,rfl,j,l⟩:=xC hd;cases r;obtain⟨its,h,pt,_⟩:=I.tuple j;obtain⟨o,e,c,n,b⟩:=pt;exact wN.mpr ⟨a,o,↑36,n,rfl,e,c,b,by simpa using Ff I z l h⟩
 |.non,k,x,u,hk,hd,r=>by rw[XY]at hk;cases hk;cases mT hd;cases r;exact kQ.mpr rfl
 |.bl _,k,x,u,hk,hd,r=>by unfold kM at hk;cases hk
 |.scr _,k,x,u,hk,hd,r=>by unfold kM at hk;cases hk
 |.loc _,k,x,u,hk,hd,r=>by unfold kM at hk;cases hk
 |.typ _,k,x,u,hk,hd,r=>by unfold kM at hk;cases hk
 |.obj _ _ _,k,x,u,hk,hd,r=>by unfold kM at hk;cases hk
theorem Ff(I:↑2): ∀{ds:U0}{b:List NK}{xs:List V}{us:A0},cE ds=some b->DenL X.K α H ds xs->Vals xs us->AI (mk X.prog X.w) s.heap b us
 |[],b,xs,us,hk,hd,r=>by rw[CC]at hk;cases hk;cases hd.isnil;cases r;exact jH.mpr rfl
 |d::ds,b,xs,us,hk,hd,r=>by
  rw[qC]at hk;obtain⟨v,vs,rfl,a,l⟩:=hd.uncons
  cases r with
  |cons r1 r2=>
   cases z:kM d with
   |none=>rw[z]at hk;cases hk
   |some k=>
    rw[z]at hk
    cases c:cE ds with
    |none=>rw[c]at hk;cases hk
    |some ks2=>
     rw[c]at hk;cases hk;exact yU.mpr ⟨_,_,rfl,Bw I z a r1,Ff I c l r2⟩
end
def DD(X:Cx)(H:Hp)(d:Addr)(xs:↑31):Prop:=H d=some (DN X.prog X.w d xs)\/(xs=[]/\H d=some (.dK []))
def DD.nf{d:Addr}{xs:↑31}(h:DD X H d xs): ∀ob u,H d≠some (.frz ob u):=h.elim (λz=>E9 z) λz=>by first |exact E9 z.2|exact z.elim
def zFY{S:Sto}{kvs:zA0}{d:Addr}(ob:ObD X.g α H d (.dic kvs))(b:kvs.all (λp=>MP p.1)=true): ∃xs,DD X H d xs/\DenN X.K α H kvs xs:=by
 rcases ob with⟨ks,h,l⟩|⟨xs,h,l⟩
 .cases l with
  |nil=>exact⟨[],.inr ⟨rfl,h⟩,.nil⟩
  |@cons k k' dd v fs gs hkd a l=>
   rw[List.all_cons,aE]at b
   cases k with
   |tup ds=>exact absurd hkd (by unfold KeyD;exact λz=>z)
   |_=>exact absurd b.1 xF0
 .exact⟨xs,.inl h,l⟩
theorem Fg(I:↑2): ∀{kvs:zA0}{xs:↑31},DenN X.K α H kvs xs-> ∀x∈xs,(tH X.prog X.w).is s.heap x.1 x.2.1
 |_,_,.nil=>λx b=>by simp at b
 |_,_,.cons k e a d r l=>λx b=>by
  rcases mC.mp b with rfl|b
  .exact⟨Bw I k a rfl,e⟩
  .exact Fg I l x b
def LB(I:↑2){kvs:zA0}{xs:↑31}{d:Addr}(h:DD X H d xs)(l:DenN X.K α H kvs xs):s.heap.DictOfH (tH X.prog X.w) d xs/\↑33<=sizeLine/\(d==sysModules)=false:=by
 rcases h with h|⟨rfl,h⟩
 .obtain⟨⟨r,hs,o,es,ep,k,c,i,e,p⟩,_⟩:=(I.hok d _ h)
  exact⟨⟨o,es,ep,k,c,i,e,Fg I l,p⟩,r,hs⟩
 .obtain⟨_,hs,vs,q,o,es,ep,k,c,i,_,m,_⟩:=(I.hok d _ h)
  cases q;have e:es.toList=[]:=by cases j:es.toList with |nil=>rfl|cons a b=>rw[j]at m;cases m
  exact⟨⟨o,es,ep,k,c,i,by rw[e];rfl,λx n=>by simp at n,nodup_nil⟩,zero_le _,hs⟩
def CD(p:MV×MV)(kvs:zA0)(k:MV):look (p::kvs) k=if p.1=k then some p.2 else look kvs k:=by
 unfold look;rw[find?_cons];by_cases h:p.1=k
 .rw[dT0 h,iP h];rfl
 .rw[dF0 h,iN h]
def Bx(x:NK×Addr×ņ)(xs:↑31)(k:NK):atKey (x::xs) k=if x.1=k then some x.2 else atKey xs k:=by
 unfold atKey;rw[find?_cons];by_cases h:x.1=k
 .rw[dT0 h,iP h];rfl
 .rw[dF0 h,iN h]
theorem Fi: ∀{kvs:zA0}{xs:↑31}{k:MV}{nk:NK},DenN X.K α H kvs xs->kM k=some nk->(atKey xs nk).isSome=(look kvs k).isSome
 |_,_,k,nk,.nil,hk=>rfl
 |_,_,k,nk,.cons (k:=k') (nk:=nk') hk' e a d r l,hk=>by
  rw[CD,Bx];by_cases h:k'=k
  .subst h;have:=by rw[hk]at hk';exact(ã hk').symm
   rw[iP this,iP rfl];rfl
  .have:nk'≠nk:=λz=>h (MQ hk' (by rw[hk,z]));rw[iN this,iN h];exact Fi l hk
theorem UJ: ∀{kvs:zA0}{xs:↑31}{k d:MV}{nk:NK}{v:V}{u:ņ},DenN X.K α H kvs xs->kM k=some nk->Den X.K α H d v->RelV v u->DenN X.K α H (kvs.map λp=>if p.1=k then(p.1,d)else p) (xs.map (putAt nk u))
 |_,_,k,d,nk,v,u,.nil,hk,hd,r=>.nil
 |_,_,k,d,nk,v,u,.cons (k:=k') (nk:=nk') hk' e a dd rr l,hk,hd,r=>by
  rw[ê,ê];unfold putAt;by_cases h:k'=k
  .have b:=by subst h;rw[hk]at hk';exact(ã hk').symm
   rw[iP h,iP b];exact .cons hk' e a hd r (UJ l hk hd r)
  .have b:nk'≠nk:=λz=>h (MQ hk' (by rw[hk,z]));rw[iN h,iN b];exact .cons hk' e a dd rr (UJ l hk hd r)
theorem DenN.append: ∀{kvs b:zA0}{xs c:↑31},DenN X.K α H kvs xs->DenN X.K α H b c->DenN X.K α H (kvs++b) (xs++c)
 |_,_,_,_,.nil,h=>h
 |_,_,_,_,.cons hk e a d r l,h=>.cons hk e a d r (DenN.append l h)
def Xf{kvs:zA0}{xs:↑31}{k d:MV}{nk:NK}{a:Addr}{u:ņ}(l:DenN X.K α H kvs xs)(c:kM k=some nk)(e:AK nk<=4)(m:Den X.K α H k (.ref a))(i:Den X.K α H d v)(r:RelV v u):DenN X.K α H (putK kvs k d) (storedH xs nk a u):=by
 unfold putK;have b:=Fi l c;by_cases h:(look kvs k).isSome=true
 .rw[iP h];rw[h]at b;obtain⟨p,j⟩:=ÿ.mp b;rw[storedH_old j];exact UJ l c i r
 .rw[iN h]
  have n:atKey xs nk=none:=by
   cases z:atKey xs nk with
   |none=>rfl
   |some p=>rw[z]at b;exact absurd b.symm h
  rw[storedH_new n];exact l.append (.cons c e m i r .nil)
end
section
variable{X:Cx}{W:XW}{a b o i:Expr}{f g:AX}{pos:Pos}
def Po{pins:M0}{s:Ņ}(I:↑2):sysModules<s.heap.objs.size:=lt_trans ↑7 ((I.mod.glob.keeps I.bk).lt)
theorem Wd.put{k:Gm}{p:Addr}{d:HO}{m:MO}(w:Wd k α S H)(i:H p=none)(q:ObD k (α++[p]) (xY H p d) p m):Ext α H (α++[p]) (xY H p d)/\Wd k (α++[p]) (S++[m]) (xY H p d):=by
 have x:=w.newx (o:=d) i;have y:=w.new (o:=d) i;have s:=w.fresh i;refine⟨⟨⟨⟨[p],rfl⟩,x.tup,x.frz⟩,λb v=>?_,x.keep,x.has⟩,⟨?_,?_,λl c ob h1 e=>?_⟩⟩
 .rcases æ.mp v with h|h
  .exact .inl h
  .rw[mS.mp h];exact .inr i
 .rw[lA,lA,w.len];rfl
 .exact ģ.mpr ⟨w.nd,by simp,λa u c r=>by rw[mS.mp r];rintro rfl;exact s u⟩
 .by_cases n:l<α.length
  .rw[ç n]at h1;rw[ç (by rw[<-w.len];exact n)]at e;exact(y.obj l c ob h1 e).move (Ex0.grow α [p] _) rfl
  .have j:l=α.length:=by
    have:=(gS.mp h1).1;rw[lA,lS]at this
    lia
   subst j;rw[î (à _),sub_self]at h1;rw[î (by rw[w.len];exact à _),w.len,sub_self]at e;cases h1;cases e;exact q
noncomputable def F9(S:Sto):R Er:=.ok (.val (.loc ↑0)) (S++[.dic []])
def Pp:zN X W (.Dict [] [] pos) (λ_ S=>F9 S):=by
 refine⟨λσ H Q=> ∀p,H p=none->Q (.ref p) (xY H p (.dK [])),λpins s σ H Q I h=>?_,λα ρ S σ H Q a sl q p b=>?_⟩
 .exact wpAny_Dict_empty ⟨.ref ↑1,_,I.laid (o:=.dK []) (λ_ _ q=>hP0 _ q) (à _)
   ⟨zero_le _,ħ.mpr (Ne.symm (â (Po I))),[],.nil,Heap.DictOf.new s.heap⟩,rfl,h _ (I.hok.fresh (à _))⟩
 .obtain⟨x,c⟩:=a.put (m:=.dic []) b (.inl ⟨[],zX,.nil⟩);exact q _ _ _ x c (DenE.val (FF (by rw[<-a.len,î (à _),sub_self];rfl)))
def FV(S:Sto):Er->Option (Nat×List (MV×MV))
 |.val (.loc l)=>match S[l]? with
  |some (.dic kvs)=>if kvs.all (λp=>MP p.1)=true then some (l,kvs)else none
  |_=>none
 |_=>none
def keyOk(k:MV):Bool:=MP k&&(match kM k with |some nk=>decide (AK nk<=4)|none=>false)
def Pq{k:MV}(h:keyOk k=true): ∃a,kM k=some a/\AK a<=4/\MP k=true:=by
 unfold keyOk at h;rw[aE]at h
 cases z:kM k with
 |none=>rw[z]at h;exact absurd h.2 xF0
 |some a=>rw[z]at h;exact⟨a,rfl,ó h.2,h.1⟩
def By(b:Wd X.g α S H){r:Er}{x:V}{l:Nat}{kvs:zA0}(e:FV S r=some (l,kvs))(d:DenX X.K α H r x):
  ∃c xs,x=.ref c/\α[l]? =some c/\S[l]? =some (.dic kvs)/\DD X H c xs/\DenN X.K α H kvs xs:=by
 unfold FV at e;split at e
 .rename_i n;obtain⟨c,rfl,h⟩:=sN d;split at e
  .rename_i k a;split at e
   .rename_i j;obtain⟨rfl,rfl⟩:=Prod.mk.inj (ã e);obtain⟨xs,i,l⟩:=zFY (S:=S) (b.obj _ c _ h a) j;exact⟨c,xs,rfl,h,a,i,l⟩
   .cases e
  .cases e
 .cases e
def Xg{k:MV}{x:V}(h:MP k=true)(d:Den X.K α H k x): ∃a,x=.ref a:=by
 cases k with
 |tup ds=>obtain⟨a,_,rfl,_⟩:=xC d;exact⟨a,rfl⟩
 |_=>exact absurd h xF0
def zFZ(X:Cx):TSet:=λo i v H Q=> ∃(α:B9)(kvs:zA0)(xs:↑31)(a d:Addr)(k:MV)(b:NK),o=.ref d/\i=.ref a/\DD X H d xs/\DenN X.K α H kvs xs/\kM k=some b/\AK b<=4/\Den X.K α H k (.ref a)/\↑33<sizeLine/\
 ∀u,RelV v u->Q (xY H d (DN X.prog X.w d (storedH xs b a u)))
def Bz{xs:↑31}{k:NK}{a:Addr}{u:ņ}:(storedH xs k a u).length<=↑33+1:=by
 cases h:atKey xs k with
 |none=>rw[storedH_new h,lA];exact à _
 |some p=>rw[storedH_old h,lM];exact le_succ _
theorem Jw(hu:↑37):O3 X (zFZ X):=by
 intro pins s σ H o i v ov iv u Q I N Y M h;obtain⟨α,kvs,xs,a,d,k,Z,rfl,rfl,C,l,K,e,F,hz,q⟩:=h;cases N;cases Y;obtain⟨U,j,hs⟩:=LB I C l;refine wpAny_setItem_heap (knd:=tH X.prog X.w) (show X.A.units+1+4<cLine by omega) ⟨Bw I K F rfl,e⟩ U (λh' n y=>⟨_,?_,q u M⟩) j;have D:zDI (H d):=by rcases C with z|⟨_,z⟩<;>rw[z]<;>exact trivial
 obtain⟨ob,es,ep,B,O,G,E,_,W⟩:=n;refine I.write D (.inl rfl) (λb uo J T=>(y.2 b J).trans T) ⟨ob,B⟩ ?_;refine⟨⟨by have:=Bz (xs:=xs) (k:=Z) (a:=a) (u:=u);lia,hs,ob,es,ep,B,O,G,E,W⟩,⟨ob,B⟩,?_⟩;rintro h1 h2 ⟨L,P,o',m,c,p,r⟩ S;exact⟨L,P,o',m,c,S o' p,r⟩
def DG(p q:Er)(d:MV)(ρ:Rho)(S:Sto):R Rho:=match q with
 |.val k=>match FV S p with
  |some (l,kvs)=>if keyOk k=true/\kvs.length<1000000 then .ok ρ (S.set l (.dic (putK kvs k d)))else .no
  |none=>.no
 |_=>.no
theorem DenN.length: ∀{kvs xs},DenN X.K α H kvs xs->↑33=kvs.length
 |_,_,.nil=>rfl
 |_,_,.cons _ _ _ _ _ l=>by rw[lC,lC,DenN.length l]
def Xh(hu:↑37)(F:zN X W o f)(hi:zN X W i g)
  (ha: ∀v,assign (.Subscript o i pos) X.env v=(do
   let m <-holding [v] (eval o X.env);let D <-holding [v,m] (eval i X.env)
   standAt pos
   holding [v,m,D] (setItem m D v)
   release [v,m,D] []):=by intro _;rfl):Oe X W (.Subscript o i pos) (λd ρ S=>(f ρ S).bind λp S1=>(g ρ S1).bind λq S2=>DG p q d ρ S2):=by
 obtain⟨to,F,O⟩:=F;obtain⟨ti,hi,fi⟩:=hi;refine⟨_,Mr F hi (Jw hu) ha,λα ρ S σ H d v Q T sl Z q=>O α ρ S σ H _ T sl (q.bind λu p S1 y H1 e1 j Y N U=>fi y ρ S1 σ H1 _ Y (sl.ext j) ((U.shift j).bind λu2 p2 S2 b H2 e2 h B n a=>?_))⟩
 replace a:=a.shift h
 have r:=DenX.ext h N.1;have s:=(Z.ext j).ext h;unfold DG at a;split at a
 .rename_i k;split at a
  .rename_i l kvs e;split at a
   .rename_i J;obtain⟨L,h1,I,P⟩:=Pq J.1;obtain⟨c,xs,rfl,K,hS,E,z⟩:=By B e r;obtain⟨M,rfl⟩:=Xg P n.1;refine⟨b,kvs,xs,M,c,k,L,rfl,rfl,E,z,h1,I,n.1,?_,λu ru=>?_⟩
    .rw[z.length];exact é J.2 (fits (à _))
    .have C:=B.writex K E.nf (o:=DN X.prog X.w c (storedH xs L M u));have G:=((sl.ext j).ext h).ext C;exact a σ b _ C (B.write K E.nf (.inr ⟨_,zX,(Xf z h1 I n.1 s ru).ex0 C.toEx0⟩)) G
   .exact a.elim
  .exact a.elim
 .exact a.elim
end
def FsD(g:Gm)(α:B9)(H:Hp)(d:Option Addr)(fs:List (Str×MV)):Prop:=fs=[]\/ ∃dx a b,d=some dx/\H dx=some (.frz b (.xd a))/\DenF g.K α H fs a
abbrev WE(g:Gm)(E:XK):XW:=λc fs _ α H=> ∀C d,g.mg c=some (.ref C)->FsD g α H d fs->E (.ref C) d H
noncomputable def zAK:MV->Bool
 |.non=>true
 |.bl _=>true
 |.int _=>true
 |.str _=>true
 |_=>false
def Post.wmono[Dn β τ]{g:Gm}{W a:XW}(f: ∀c fs S α' H',W c fs S α' H'->a c fs S α' H'): ∀{m:R β}{Q:τ->Hp->Prop},Post g W α H m Q->Post g a α H m Q
 |.ok b S,Q,q=>q
 |.exc c fs S,_,q=>λα' H' x w=>f _ _ _ _ _ (q α' H' x w)
 |.no,_,q=>q
def XCl(K:Q0)(C:Addr)(j:A0)(a:Option ņ):Prop:=
 ∃p q N bs d i c h b o s e k m r,K.lookup C=some (excClassObj p q C N bs j d i c h b o s e k m r "ValueError.__new__")/\PySem.W.nsOkIn K N=true/\PySem.W.nsIn K N "__init__"=some a/\(∀n∈qn,PySem.W.nsIn K N n=some none)/\d=true
def XEach(K:Q0)(mg:L0)(M:Addr):List (Str×Addr)->Prop
 |[]=>True
 |(c,C)::r=>(mg c=some (.ref C)/\ ∃i,XCl K C (.ref M::zHN) i)/\XEach K mg M r
theorem XEach.at{K:Q0}{mg:L0}{M:Addr}: ∀{cs:List (Str×Addr)},XEach K mg M cs-> ∀{c C},(c,C)∈cs->mg c=some (.ref C)/\ ∃i,XCl K C (.ref M::zHN) i
 |_::r,h,c',C',z=>by
  rcases mC.mp z with z|z
  .cases z;exact h.1
  .exact XEach.at h.2 z
def spX(g:Gm)(n:Nat)(F:↑8):Sp:=λvs H Q E=> ∃α S ds,Wd g α S H/\DenL g.K α H ds vs/\↑23=n/\Post g (WE g E) α H (F ds S) Q
def Fj(n:Nat)(F:List MV->Sto->R Er)(rs:List Er)(S:Sto):R Er:=if rs.length=n then(match F (zO rs S).1 (zO rs S).2 with
 |.ok r S2=>gV S r S2
 |.exc c fs S2=>if fs.all (λp=>zAK p.2)=true then(gV S (.val .non) S2).bind λ_ S3=>.exc c fs S3 else .no
 |.no=>.no)else .no
section
variable{P:ň}{w:World}{K:Q0}{mg:L0}{base:Heap}
def _root_.L2.FnOk.noX{k n:Nat}{f:Addr}{fd:FuncData}{ps:K0}{g:Gm}{F:↑8}(G:FnOk P w K mg base (CXe P w) k f fd ps (spX g n F)):FnOk P w K mg base BS k f fd ps (PY g n F):=by
 have c: ∀{vs H Q}, ∀{E},PY g n F vs H Q E->spX g n F vs H Q E0:=λ⟨α,S,ds,h1,i,q,j⟩=>⟨α,S,ds,h1,i,q,j.wmono λ_ _ _ _ _ z=>z.elim⟩
 refine⟨λvs H Q E h=>G.len vs H Q E0 (c h),λA a s H b us vs Q E u m p o h=>ĳ (G.run A a s H b us vs Q E0 u m p o (c h)) λr s' d=>?_⟩
 cases r with
 |error e=>
  obtain⟨_,_,_,_,_,_,_,_,_,_,_,_,_,_,_,z⟩:=d;exact z
 |ok fl=>cases fl<;>exact d
end
end M
end L2
namespace L2
open PySem PySem.Spec PyProof.Rows
structure Out(X:Cx)(pins:M0)(H:Hp)(s:Ņ)(b:Addr):Prop where
 s0:X.s₀.heap.get? b=none
 h:H b=none
 pin: ∀p∈X.pn++pins,p.1≠b
 fld: ∃o vs,s.heap.get? b=some o/\o.data=.fields vs
section
variable{X:Cx}{pins:M0}{σ:St}{H:Hp}{s:Ņ}{e b:Addr}
def Out.ne(o:Out X pins H s b){c:Addr}{d:Obj}(a:s.heap.get? c=some d)(nf: ∀vs,d.data≠.fields vs):c≠b:=λz=>by obtain⟨ob,vs,h1,e⟩:=o.fld;rw[z,h1]at a;cases a;exact nf vs e
def Out.loc(o:Out X pins H s b)(I:↑2):X.env.locals≠b:=by obtain⟨m,⟨c,es,ep,h1,a,_⟩,_⟩:=I.loc;exact o.ne h1 λvs z=>by rw[a]at z;cases z
def HdA(A:Ň)(H:Hp):Prop:= ∃e ob u,A.handled=some (.ref e)/\H e=some (.frz ob u)/\ ∃vs,ob.data=.fields vs/\vs[2]? =some .none
end
end L2
namespace L2
namespace M
open PySem PySem.Spec PyProof.Rows
noncomputable def endF(i:Nat):Fl->Sto->R Fl
 |.next ρ,S=>.ok (.next (ρ.set i none)) S
 |.ret r,S=>.ok (.ret r) S
 |.brk ρ,S=>.ok (.brk (ρ.set i none)) S
 |.cont ρ,S=>.ok (.cont (ρ.set i none)) S
def zAL(b:K0)(i:Nat)(kn:Er->Sto->R Fl)(a:AY)(ρ:Rho):R Er->R Fl
 |.ok r S=>kn r S
 |.exc c fs S=>if c∈b then(noX (a (ρ.set i (some (.loc S.length))) (S++[.ins c fs]))).bind (endF i)else .no
 |.no=>.no
end M
end L2
namespace Srt
open PySem PyProof.Rows
def Fk:Bool->Keyed->Array Keyed->Nat->Nat->Nat->StateT SortSt Sem (Option Nat):=sortPriv% PySem.Builtin.gallop
def QD:Nat->StateT SortSt Sem Unit:=sortPriv% PySem.Builtin.setMinGallop
section
variable{M:Model}{A:Ň}{E:VP}{s:Ņ}{σ:Type}
def XZ{x:String}{Q:Unit->σ->Prop}{st:σ}(h:Q () st):wpS M A E s (liftM (rule x):StateT σ Sem Unit) Q st:=wpS_lift (İ ⟨rfl,h⟩)
end
end Srt
set_option autoImplicit false
namespace Srt
variable{β:Type}{le:β->β->Prop}
structure Two(le:β->β->Prop)(T out xs ys:List β):Prop where
 hx:(out++xs).Pairwise le
 hy:(out++ys).Pairwise le
 pm:(out++(xs++ys)).Perm T
structure TwoR(le:β->β->Prop)(T xs ys R:List β):Prop where
 hx:(xs++R).Pairwise le
 hy:(ys++R).Pairwise le
 pm:(xs++ys++R).Perm T
end Srt
namespace Srt
open PySem PyProof.Rows
abbrev SM:=StateT SortSt Sem
abbrev G3:=Option (Option Nat)×Nat×Nat
end Srt
namespace Srt
open PySem PyProof.Rows
section
variable{M:Model}{A:Ň}{E:VP}{s:Ņ}
structure Cmp(M:Model)(A:Ň)(E:VP)(s:Ņ)(kd:SortKind)(D:Keyed->Prop)(lt:Keyed->Keyed->Bool):Prop where
 go: ∀x y,D x->D y-> ∀st:SortSt,kindOf st=kd-> ∀Q:Option Bool->SortSt->Prop,Q (some (lt x y)) st->wpS M A E s (lt' x y) Q st
 tr: ∀x y z,lt y x=false->lt z y=false->lt z x=false
 as: ∀x y,lt x y=true->lt y x=false
variable{kd:SortKind}{D:Keyed->Prop}{lt:↑19}
abbrev Le(lt:↑19)(x y:Keyed):Prop:=lt y x=false
def Cmp.rf(C:Cmp M A E s kd D lt)(x:Keyed):Le lt x x:=by
 show lt x x=false
 cases h:lt x x with
 |false=>rfl
 |true=>exact absurd h (by rw[C.as x x h];simp)
def SL(lt:↑19)(l:List Keyed)(b n:Nat):Prop:= ∀i j x y,i<=j->j<n->l[b+i]? =some x->l[b+j]? =some y->lt y x=false
def Fm{st:SortSt}{v:Array Keyed}{i:Nat}{Q:Keyed->SortSt->Prop}{x:Keyed}(e:v.toList[i]? =some x)(h:Q x st):wpS M A E s (elem' v i) Q st:=by
 rw[elem'_eq];have:v[i]? =some x:=by rw[<-þ];exact e
 rw[this];exact wpS_pure h
def G5{v:Array Keyed}{i:Nat}(h:i<v.size): ∃x,v.toList[i]? =some x:=⟨v.toList[i]'(by simpa using h),gE _⟩
end
end Srt
namespace Srt
open PySem PyProof.Rows
abbrev V:=Array Keyed
abbrev L6:=Option V×V×Nat×Nat×Nat×Nat
abbrev L7:=Option V×V×Nat×Nat×Nat×Nat×Nat
noncomputable abbrev dnL(a b o:V)(i j:Nat):V:=o++a.extract i a.size++b.extract j b.size
noncomputable abbrev laL(a b o:V)(i j:Nat):V:=o++b.extract j b.size++a.extract i a.size
def one1(a b:V)(g:Nat)(c:L6):SM (ForInStep L6):=
 elem' b c.2.2.2.1 >>= λy=>elem' a c.2.2.1 >>= λx=>lt' y x >>= λr=>match r with
  |some q=>if q=true then elem' b c.2.2.2.1 >>= λy=>
     if(c.2.2.2.1+1==b.size)=true then pure (.done (some (dnL a b (c.2.1.push y) c.2.2.1 (c.2.2.2.1+1)),c.2.1.push y,c.2.2.1,c.2.2.2.1+1,0,c.2.2.2.2.2+1))
     else if c.2.2.2.2.2+1>=g then pure (.done (none,c.2.1.push y,c.2.2.1,c.2.2.2.1+1,0,c.2.2.2.2.2+1))
     else pure (.yield (none,c.2.1.push y,c.2.2.1,c.2.2.2.1+1,0,c.2.2.2.2.2+1))
    else elem' a c.2.2.1 >>= λx=>
     if(c.2.2.1+1+1==a.size)=true then pure (.done (some (laL a b (c.2.1.push x) (c.2.2.1+1) c.2.2.2.1),c.2.1.push x,c.2.2.1+1,c.2.2.2.1,c.2.2.2.2.1+1,0))
     else if c.2.2.2.2.1+1>=g then pure (.done (none,c.2.1.push x,c.2.2.1+1,c.2.2.2.1,c.2.2.2.2.1+1,0))
     else pure (.yield (none,c.2.1.push x,c.2.2.1+1,c.2.2.2.1,c.2.2.2.2.1+1,0))
  |_=>pure (.done (some (dnL a b c.2.1 c.2.2.1 c.2.2.2.1),c.2.1,c.2.2.1,c.2.2.2.1,c.2.2.2.2.1,c.2.2.2.2.2))
def in1(a b:V)(t g:Nat)(c:L6):SM L6:=forIn [0:t] c λ_ c=>one1 a b g c
end Srt
namespace Srt
open PySem PyProof.Rows
def Sg(st a:SortSt):Prop:= ∃g,a=SortSt.mk' (kindOf st) (arrOf st) (pendingOf st) g (failedOf st)
theorem Sg.kind{st a:SortSt}(h:Sg st a):kindOf a=kindOf st:=by obtain⟨g,rfl⟩:=h;rfl
section
variable{lt:↑19}{a b:V}
abbrev TwoA(lt:↑19)(a b o:V)(i j:Nat):Prop:=Two (Le lt) (a.toList++b.toList) o.toList (a.toList.drop i) (b.toList.drop j)
def FinA(lt:↑19)(a b r:V):Prop:=r.toList.Pairwise (Le lt)/\r.toList.Perm (a.toList++b.toList)
def TwoA.len{o:V}{i j:Nat}(h:TwoA lt a b o i j):o.size+((a.size - i)+(b.size - j))=a.size+b.size:=by have:=h.pm.length_eq;simpa [lA,Đ]using this
def I1(lt:↑19)(a b o:V)(i j:Nat):Prop:=i+1<a.size/\j<b.size/\TwoA lt a b o i j
def N7(lt:↑19)(a b:V)(n:Nat)(c:L7):Prop:= ∃o i j g p q,c=(none,o,i,j,g,p,q)/\I1 lt a b o i j/\n<=o.size
def P7(lt:↑19)(a b:V)(n:Nat)(c:L7):Prop:=(∃r e,c=(some r,e)/\FinA lt a b r)\/N7 lt a b n c
end
end Srt
namespace Srt
open PySem PyProof.Rows
abbrev H5:=Option V×Nat×Nat×V×Nat
abbrev H6:=Option V×Nat×Nat×V×Nat×Nat
abbrev H7:=Option V×Nat×Nat×V×Nat×Nat×Nat
noncomputable abbrev zGA(a b o:V)(i j:Nat):V:=a.extract 0 i++b.extract 0 j++o.reverse
abbrev fbH(a b o:V)(i j:Nat):V:=b.extract 0 j++a.extract 0 i++o.reverse
def hw4(a b o:V)(i j g p q:Nat):SM (ForInStep H7):=
 elem' a (i - 1) >>= λx=>if(i - 1==0)=true then pure (.done (some (zGA a b (o.push x) (i - 1) j),i - 1,j,o.push x,g,p,q))
  else if(decide (p<7)&&decide (q<7))=true then pure (.done (none,i - 1,j,o.push x,g,p,q))else pure (.yield (none,i - 1,j,o.push x,g,p,q))
def zHO(a b o:V)(i j g p q:Nat):SM (ForInStep H7):=
 elem' b (j - 1) >>= λy=>if(j - 1==1)=true then pure (.done (some (fbH a b (o.push y) i (j - 1)),i,j - 1,o.push y,g,p,q))
  else elem' a (i - 1) >>= λx=>Fk true x b 0 (j - 1) (j - 1 - 1) >>= λr=>match r with
   |some k=>if j - 1 - k>0 then
      if(k==1)=true then pure (.done (some (fbH a b (o.push y++(b.extract k (j - 1)).reverse) i k),i,k,o.push y++(b.extract k (j - 1)).reverse,g,p,j - 1 - k))
      else if(k==0)=true then pure (.done (some (zGA a b (o.push y++(b.extract k (j - 1)).reverse) i k),i,k,o.push y++(b.extract k (j - 1)).reverse,g,p,j - 1 - k))
      else hw4 a b (o.push y++(b.extract k (j - 1)).reverse) i k g p (j - 1 - k)
     else hw4 a b (o.push y) i (j - 1) g p (j - 1 - k)
   |_=>pure (.done (some (zGA a b (o.push y) i (j - 1)),i,j - 1,o.push y,g,p,q))
def zHP(a b o:V)(i j g p q:Nat):SM (ForInStep H7):=
 QD g >>= λ_=>elem' b (j - 1) >>= λy=>Fk false y a 0 i (i - 1) >>= λr=>match r with
  |some k=>if i - k>0 then
     if(k==0)=true then pure (.done (some (zGA a b (o++(a.extract k i).reverse) k j),k,j,o++(a.extract k i).reverse,g,i - k,q))
     else zHO a b (o++(a.extract k i).reverse) k j g (i - k) q
    else zHO a b o i j g (i - k) q
  |_=>pure (.done (some (zGA a b o i j),i,j,o,g,p,q))
section
variable{lt:↑19}{a b:V}
abbrev TwoH(lt:↑19)(a b o:V)(i j:Nat):Prop:=TwoR (Le lt) (a.toList++b.toList) (a.toList.take i) (b.toList.take j) o.toList.reverse
theorem TwoH.len{o:V}{i j:Nat}(h:TwoH lt a b o i j)(h1:i<=a.size)(c:j<=b.size):o.size+(i+j)=a.size+b.size:=by
 have:=h.pm.length_eq;simp only[lA,lT,List.length_reverse,ú]at this
 lia
def J1(lt:↑19)(a b o:V)(i j:Nat):Prop:=1<=i/\i<=a.size/\2<=j/\j<=b.size/\TwoH lt a b o i j
def R6(lt:↑19)(a b:V)(n:Nat)(c:H6):Prop:= ∃i j o p q,c=(none,i,j,o,p,q)/\J1 lt a b o i j/\n<=o.size
def S6(lt:↑19)(a b:V)(n:Nat)(c:H6):Prop:=(∃r e,c=(some r,e)/\FinA lt a b r)\/R6 lt a b n c
def R7(lt:↑19)(a b:V)(n:Nat)(c:H7):Prop:= ∃i j o g p q,c=(none,i,j,o,g,p,q)/\J1 lt a b o i j/\n<=o.size
end
end Srt
namespace Srt
open PySem PyProof.Rows
variable{j:Nat}{v:V}
abbrev C2:=Option (Option Nat)×Nat
abbrev C3:=Option (Option Nat)×Nat×Nat
def zAM(lo a n:Nat):SM C2:=forIn [a:n] ((none,a):C2) λ_ c=>ltAt' (lo+c.2) (lo+c.2 - 1) >>= λo=>match o with
 |some q=>if q=true then pure (.done (none,c.2))else pure (.yield (none,c.2+1))
 |_=>pure (.done (some none,c.2))
def tl3(lo m n:Nat):SM (Option Nat):=reverseSlice' lo (lo+m) >>= λ_=>zAM lo m n >>= λc=>match c.1 with
 |some r=>pure r
 |none=>pure (some c.2)
def zAN(lo a n:Nat):SM C3:=forIn [a:n] ((none,a,0):C3) λ_ c=>ltAt' (lo+c.2.1) (lo+c.2.1 - 1) >>= λo=>match o with
 |some q=>if q=true then
    if c.2.2>0 then reverseSlice' (lo+c.2.1 - (c.2.2+1)) (lo+c.2.1) >>= λ_=>pure (.yield (none,c.2.1+1,0))else pure (.yield (none,c.2.1+1,0))
   else ltAt' (lo+c.2.1 - 1) (lo+c.2.1) >>= λo=>match o with
    |some q=>if q=true then pure (.done (none,c.2.1,c.2.2))else pure (.yield (none,c.2.1+1,c.2.2+1))
    |_=>pure (.done (some none,c.2.1,c.2.2))
 |_=>pure (.done (some none,c.2.1,c.2.2))
def zAO(lo m n:Nat):SM (Option Nat):=liftM (rule "list.sort.descending-run") >>= λ_=>zAN lo (m+1) n >>= λc=>match c.1 with
 |some r=>pure r
 |none=>if c.2.2>0 then reverseSlice' (lo+c.2.1 - (c.2.2+1)) (lo+c.2.1) >>= λ_=>tl3 lo c.2.1 n else tl3 lo c.2.1 n
def zGB(lo n:Nat):SM (Option Nat):=zAM lo 1 n >>= λc=>match c.1 with
 |some r=>pure r
 |none=>if(c.2==n)=true then pure (some c.2)else if c.2>1 then ltAt' lo (lo+c.2 - 1) >>= λo=>(match o with
    |some q=>if q=true then pure (some c.2)else reverseSlice' lo (lo+c.2) >>= λ_=>zAO lo c.2 n
    |_=>pure none)
   else zAO lo c.2 n
theorem QE(lo n:Nat):countRun' lo n=zGB lo n:=by kernel_rfl
def binI(lo k:Nat):SM (Option Bool×Nat×Nat):=forIn [0:k] ((none,0,k):Option Bool×Nat×Nat) λ_ c=>
 if c.2.1>=c.2.2 then pure (.done (none,c.2.1,c.2.2))else ltAt' (lo+k) (lo+(c.2.1+c.2.2) / 2) >>= λo=>match o with
  |some q=>if q=true then pure (.yield (none,c.2.1,(c.2.1+c.2.2) / 2))else pure (.yield (none,(c.2.1+c.2.2) / 2+1,c.2.2))
  |_=>pure (.done (some false,c.2.1,c.2.2))
def zGC(lo n ok:Nat):SM Bool:=(forIn [max ok 1:n] ((none,()):Option Bool×Unit) λk _=>binI lo k >>= λc=>match c.1 with
  |some r=>pure (.done (some r,()))
  |none=>moveDown' (lo+k) (lo+c.2.1) >>= λ_=>pure (.yield (none,()))) >>= λc=>match c.1 with
 |some r=>pure r
 |none=>pure true
theorem KN(lo n ok:Nat):binarySort' lo n ok=zGC lo n ok:=by kernel_rfl
noncomputable def Kx(d:Keyed)(v:V)(i:Nat):Keyed:=(v[i]?).getD d
def AR{d:Keyed}{u:V}{i:Nat}(h:v[i]? =u[j]?):Kx d v i=Kx d u j:=by unfold Kx;rw[h]
def IB{d:Keyed}{i:Nat}(a:j<=v.size)(k:Nat):Kx d (mirror v i j ((j - i) / 2)) k=if i<=k/\k<j then Kx d v (i+j - 1 - k)else Kx d v k:=by
 have e:=getElem?_mirror_all (i:=i) a k;by_cases h1:i<=k/\k<j
 .rw[iP h1]at e ⊢; exact AR e
 .rw[iN h1]at e ⊢; exact AR e
def RM{d:Keyed}{a m:Nat}(hs:a<v.size)(c:m<=a)(k:Nat):
  Kx d (bubble v a m) k=if k=a - m then Kx d v a else if a - m<k/\k<=a then Kx d v (k - 1)else Kx d v k:=by
 have e:=getElem?_bubble hs m c k;by_cases h1:k=a - m
 .rw[iP h1]at e ⊢; exact AR e
 .rw[iN h1]at e ⊢;by_cases b:a - m<k/\k<=a
  .rw[iP b]at e ⊢; exact AR e
  .rw[iN b]at e ⊢; exact AR e
structure SB(a₀:V)(kd:SortKind)(pd:Array (Nat×Nat×Nat))(f:V)(lo:Nat)(st:SortSt):Prop where
 pm:(arrOf st).Perm a₀
 kind:kindOf st=kd
 fl:failedOf st=none
 pd:pendingOf st=pd
 fx: ∀i,i<lo->(arrOf st)[i]? =f[i]?
section
variable{M:Model}{A:Ň}{E:VP}{s:Ņ}{kd:SortKind}{D:Keyed->Prop}{lt:↑19}{a₀ f:V}{pd:Array (Nat×Nat×Nat)}{lo:Nat}{st:SortSt}{d:Keyed}
def SB.size(h:SB a₀ kd pd f lo st):(arrOf st).size=a₀.size:=h.pm.size_eq
theorem SB.rev(h:SB a₀ kd pd f lo st){i:Nat}(hi:lo<=i)(b:j<=a₀.size):SB a₀ kd pd f lo (setArr st (mirror (arrOf st) i j ((j - i) / 2))):=
 ⟨(mirror_perm _ _ _ _).trans h.pm,h.kind,h.fl,h.pd,λk a=>by show _[k]? =_;rw[getElem?_mirror_all (by rw[h.size];exact b),iN #[0]];exact h.fx k a⟩
theorem SB.bub(h:SB a₀ kd pd f lo st){i m:Nat}(hi:lo+m<=i)(b:i<a₀.size):SB a₀ kd pd f lo (setArr st (bubble (arrOf st) i m)):=
 ⟨(bubble_perm _ _ _).trans h.pm,h.kind,h.fl,h.pd,λk a=>by show _[k]? =_;rw[getElem?_bubble (by rw[h.size];exact b) _ #[0],iN #[0],iN #[0]];exact h.fx k a⟩
def FW(C:Cmp M A E s kd D lt)(h:SB a₀ kd pd f lo st)(b: ∀x,x∈a₀.toList->D x){i:Nat}(hi:i<a₀.size)(e:j<a₀.size){Q:Option Bool->SortSt->Prop}
  (hq:Q (some (lt (Kx d (arrOf st) i) (Kx d (arrOf st) j))) st):wpS M A E s (ltAt' i j) Q st:=by
 obtain⟨x,ex⟩:=G5 (by rw[h.size];exact hi);obtain⟨y,a⟩:=G5 (by rw[h.size];exact e);have c:=(Array.perm_iff_toList_perm.mp h.pm).mem_iff.mp (ñ ex);have k:=(Array.perm_iff_toList_perm.mp h.pm).mem_iff.mp (ñ a);have e1:Kx d (arrOf st) i=x:=by unfold Kx;rw[<-þ,ex];rfl
 have e2:Kx d (arrOf st) j=y:=by unfold Kx;rw[<-þ,a];rfl
 rw[e1,e2]at hq;refine wpS_bind (wpS_get ?_);exact wpS_bind (Fm ex (wpS_bind (Fm a (C.go x y (b x c) (b y k) st h.kind _ hq))))
def UK{i:Nat}{Q:Unit->SortSt->Prop}(h:Q () (setArr st (mirror (arrOf st) i j ((j - i) / 2)))):wpS M A E s (reverseSlice' i j) Q st:=by rw[reverseSlice'_eq];exact wpS_modify h
def Up(lt:↑19)(d:Keyed)(v:V)(lo n:Nat):Prop:= ∀i j,i<=j->j<n->Le lt (Kx d v (lo+i)) (Kx d v (lo+j))
def Dn(lt:↑19)(d:Keyed)(v:V)(lo n:Nat):Prop:= ∀i j,i<=j->j<n->Le lt (Kx d v (lo+j)) (Kx d v (lo+i))
theorem Up.step(C:Cmp M A E s kd D lt){x:Nat}(hs:Up lt d v lo x)(m:1<=x)(h:lt (Kx d v (lo+x)) (Kx d v (lo+x - 1))=false):Up lt d v lo (x+1):=by
 intro i j a k;by_cases b:j<x
 .exact hs i j a b
 .have c:j=x:=by lia
  subst c;by_cases e:i=j
  .subst e;exact C.rf _
  .have:=hs i (j - 1) #[0] #[0];rw[show lo+(j - 1)=lo+j - 1 by lia]at this;exact C.tr _ _ _ this h
theorem Fn(C:Cmp M A E s kd D lt)(p: ∀x,x∈a₀.toList->D x)(h:SB a₀ kd pd f lo st){a n:Nat}(r:lo+n<=a₀.size)(q:1<=a)(j:a<=n)(hs:Up lt d (arrOf st) lo a){Q:C2->SortSt->Prop}
  (hq: ∀m,a<=m->m<=n->Up lt d (arrOf st) lo m->(m=n\/lt (Kx d (arrOf st) (lo+m)) (Kx d (arrOf st) (lo+m - 1))=true)->Q (none,m) st):wpS M A E s (zAM lo a n) Q st:=by
 refine wpS_forRange (I:=λx c e=>e=st/\c=(none,x)/\Up lt d _ lo x) ?_ ?_ ⟨rfl,rfl,hs⟩
 .rintro x c e i o ⟨rfl,rfl,b⟩;refine wpS_bind (FW (d:=d) C h p #[0] #[0] ?_)
  cases k:lt _ _ with
  |true=>exact wpS_pure (hq x i #[0] b (.inr k))
  |false=>exact wpS_pure ⟨rfl,rfl,b.step C #[0] k⟩
 .rintro c e ⟨rfl,rfl,b⟩;rw[show max a n=n by lia]at b ⊢;exact hq n j (à _) b (.inl rfl)
theorem Up.of_mirror(h:SB a₀ kd pd f lo st){m:Nat}(a:lo+m<=a₀.size)(hs:Dn lt d (arrOf st) lo m):Up lt d (mirror (arrOf st) lo (lo+m) ((lo+m - lo) / 2)) lo m:=by intro i j b c;rw[IB (by rw[h.size];exact a),IB (by rw[h.size];exact a),iP (by omega),iP #[0]];have:=hs (m - 1 - j) (m - 1 - i) (by omega) (by omega);rw[show lo+(m - 1 - j)=lo+(lo+m) - 1 - (lo+j) by omega,show lo+_=lo+(lo+m) - 1 - (lo+i) by omega]at this;exact this
theorem Pr(C:Cmp M A E s kd D lt)(c: ∀x,x∈a₀.toList->D x)(h:SB a₀ kd pd f lo st){m n:Nat}(i:lo+n<=a₀.size)(h1:1<=m)(b:m<=n)(hs:Dn lt d (arrOf st) lo m){Q:Option Nat->SortSt->Prop}
  (hq: ∀m a,SB a₀ kd pd f lo a->1<=m->m<=n->Up lt d (arrOf a) lo m->Q (some m) a):wpS M A E s (tl3 lo m n) Q st:=by
 refine wpS_bind (UK ?_);have h':=h.rev (j:=lo+m) (à _) #[0];exact wpS_bind (Fn C c h' i h1 b (Up.of_mirror h #[0] hs) λk p e o _=>wpS_pure (hq k _ h' #[0] e o))
def zGD(lt:↑19)(d:Keyed)(v:V)(i j:Nat):Prop:= ∀k l,i<=k->k<j->i<=l->l<j->Le lt (Kx d v k) (Kx d v l)
def Dn.mirror(C:Cmp M A E s kd D lt)(h:SB a₀ kd pd f lo st){i n:Nat}(e:j<=a₀.size)(c:zGD lt d (arrOf st) i j)(hs:Dn lt d (arrOf st) lo n):Dn lt d (mirror (arrOf st) i j ((j - i) / 2)) lo n:=by
 have a: ∀k,Le lt (Kx d (PyProof.Rows.mirror (arrOf st) i j ((j - i) / 2)) k) (Kx d (arrOf st) k)/\Le lt (Kx d (arrOf st) k) (Kx d (PyProof.Rows.mirror (arrOf st) i j ((j - i) / 2)) k):=by
  intro k;rw[IB (by rw[h.size];exact e)];split
  .exact⟨c _ _ (by omega) (by omega) (by omega) (by omega),c _ _ (by omega) (by omega) (by omega) (by omega)⟩
  .exact⟨C.rf _,C.rf _⟩
 intro p q b m;exact C.tr _ _ _ (a _).1 (C.tr _ _ _ (hs p q b m) (a _).2)
theorem Xi(C:Cmp M A E s kd D lt)(G: ∀x,x∈a₀.toList->D x)(h:SB a₀ kd pd f lo st){a n:Nat}(hn:lo+n<=a₀.size)(h1:1<=a)(F:a<=n)(hs:Dn lt d (arrOf st) lo a){Q:C3->SortSt->Prop}
  (hq: ∀m e b,SB a₀ kd pd f lo b->a<=m->m<=n->Dn lt d (arrOf b) lo m->e+1<=m->zGD lt d (arrOf b) (lo+m - (e+1)) (lo+m)->Q (none,m,e) b):wpS M A E s (zAN lo a n) Q st:=by
 unfold zAN
 refine wpS_forRange (I:=λx c b=> ∃e,c=(none,x,e)/\SB a₀ kd pd f lo b/\Dn lt d (arrOf b) lo x/\e+1<=x/\zGD lt d (arrOf b) (lo+x - (e+1)) (lo+x)) ?_ ?_
  ⟨0,rfl,h,hs,by lia,λk l h1 N O P=>by rw[show k=l by lia];exact C.rf _⟩
 .rintro x c b B S ⟨e,rfl,p,o,q,r⟩;dsimp only;have one: ∀v:V,zGD lt d v (lo+(x+1) - (0+1)) (lo+(x+1)):=λv k l h1 N O P=>by rw[show k=l by lia];exact C.rf _
  refine wpS_bind (FW (d:=d) C p G #[0] #[0] ?_)
  cases L:lt _ _ with
  |true=>
   have K:Dn lt d (arrOf b) lo (x+1):=by
    intro i j y U;by_cases z:j<x
    .exact o i j y z
    .have u:j=x:=by lia
     subst u;by_cases w:i=j
     .subst w;exact C.rf _
     .have:=o i (j - 1) #[0] #[0];rw[show lo+(j - 1)=lo+j - 1 by lia]at this;exact C.tr _ _ _ (C.as _ _ L) this
   dsimp only;rw[iP rfl];by_cases H:e>0
   .rw[iP H];refine wpS_bind (UK (wpS_pure ⟨0,rfl,p.rev #[0] #[0],K.mirror C p #[0] r,by lia,one _⟩))
   .rw[iN H];exact wpS_pure ⟨0,rfl,p,K,by lia,one _⟩
  |false=>
   dsimp only;rw[iN (by simp)];refine wpS_bind (FW (d:=d) C p G #[0] #[0] ?_)
   cases J:lt _ _ with
   |true=>exact wpS_pure (hq x e b p B #[0] o q r)
   |false=>
    refine wpS_pure ⟨_,rfl,p,λi j y U=>?_,by lia,λk l Z W X Y=>?_⟩
    .by_cases z:j<x
     .exact o i j y z
     .have u:j=x:=by lia
      subst u;by_cases w:i=j
      .subst w;exact C.rf _
      .have:=o i (j - 1) #[0] #[0];rw[show lo+(j - 1)=lo+j - 1 by lia]at this;exact C.tr _ _ _ J this
    .by_cases T:k=lo+x
     .subst T;by_cases cl:l=lo+x
      .subst cl;exact C.rf _
      .exact C.tr _ _ _ J (r _ _ #[0] #[0] #[0] #[0])
     .by_cases cl:l=lo+x
      .subst cl;exact C.tr _ _ _ (r k _ #[0] #[0] #[0] #[0]) L
      .exact r _ _ #[0] #[0] #[0] #[0]
 .rintro c b ⟨e,rfl,p,o,q,r⟩;rw[show max a n=n by lia]at o q r ⊢;exact hq n e b p F (à _) o q r
theorem Fo(C:Cmp M A E s kd D lt)(b: ∀x,x∈a₀.toList->D x)(h:SB a₀ kd pd f lo st){m n:Nat}(c:lo+n<=a₀.size)(q:m+1<=n)(hs:Dn lt d (arrOf st) lo (m+1)){Q:Option Nat->SortSt->Prop}
  (hq: ∀m a,SB a₀ kd pd f lo a->1<=m->m<=n->Up lt d (arrOf a) lo m->Q (some m) a):wpS M A E s (zAO lo m n) Q st:=by
 refine wpS_bind (XZ ?_);refine wpS_bind (Xi C b h c #[0] q hs λk e a i v j o u r=>?_);by_cases p:e>0
 .rw[iP p];exact wpS_bind (UK (Pr C b (i.rev #[0] #[0]) c #[0] j (o.mirror C i #[0] r) hq))
 .rw[iN p];exact Pr C b i c #[0] j o hq
theorem Xj(C:Cmp M A E s kd D lt)(o: ∀x,x∈a₀.toList->D x)(h:SB a₀ kd pd f lo st){n:Nat}(r:lo+n<=a₀.size)(h1:1<=n){Q:Option Nat->SortSt->Prop}
  (hq: ∀m a,SB a₀ kd pd f lo a->1<=m->m<=n->Up lt d (arrOf a) lo m->Q (some m) a):wpS M A E s (countRun' lo n) Q st:=by
 rw[QE];unfold zGB;refine wpS_bind (Fn (d:=d) C o h r (à 1) h1 (λi j e F=>by rw[show i=j by lia];exact C.rf _) λm B w hs u=>?_);dsimp only;by_cases q:m=n
 .rw[iP (by simpa using q)];exact wpS_pure (hq m st h B w hs)
 .rw[iN (by simpa using q)];have c:=u.resolve_left q;by_cases v:m>1
  .rw[iP v];refine wpS_bind (FW (d:=d) C h o #[0] #[0] ?_)
   cases H:lt _ _ with
   |true=>exact wpS_pure (hq m st h B w hs)
   |false=>
    have all:zGD lt d (arrOf st) lo (lo+m):=by intro k l K L N J;have z:=hs 0 (l - lo) #[0] #[0];have y:=hs (k - lo) (m - 1) #[0] #[0];rw[show lo+0=lo by lia,show lo+_=l by lia]at z;rw[show lo+(k - lo)=k by lia,show lo+(m - 1)=lo+m - 1 by lia]at y;exact C.tr _ _ _ y (C.tr _ _ _ H z)
    have G:Dn lt d (arrOf st) lo (m+1):=by
     intro i j e F;by_cases I:j<m
     .exact all _ _ #[0] #[0] #[0] #[0]
     .have p:j=m:=by lia
      subst p;by_cases b:i=j
      .subst b;exact C.rf _
      .exact C.tr _ _ _ (C.as _ _ c) (all _ _ #[0] #[0] #[0] #[0])
    dsimp only;rw[iN (by simp)];exact wpS_bind (UK (Fo C o (h.rev (à _) #[0]) r #[0] (G.mirror C h #[0] all) hq))
  .rw[iN v];have:m=1:=by lia
   subst this;refine Fo C o h r #[0] (λi j e F=>?_) hq;by_cases b:i=j
   .subst b;exact C.rf _
   .rw[show i=0 by lia,show j=1 by lia];exact C.as _ _ c
theorem Xk(C:Cmp M A E s kd D lt)(H: ∀x,x∈a₀.toList->D x)(h:SB a₀ kd pd f lo st){n ok:Nat}(T:lo+n<=a₀.size)(O:ok<=n)(hs:Up lt d (arrOf st) lo ok){Q:Bool->SortSt->Prop}
  (hq: ∀a,SB a₀ kd pd f lo a->Up lt d (arrOf a) lo n->Q true a):wpS M A E s (binarySort' lo n ok) Q st:=by
 rw[KN];unfold zGC
 refine wpS_bind (wpS_mono (wpS_forRange (I:=λk c a=>c=(none,())/\SB a₀ kd pd f lo a/\Up lt d (arrOf a) lo (min k n))
  (Q:=λc a=>c=(none,())/\SB a₀ kd pd f lo a/\Up lt d (arrOf a) lo n) ?_ ?_ ?_) ?_)
 .rintro k c a S N ⟨rfl,q,e⟩;rw[show min k n=k by lia]at e;unfold binI
  refine wpS_bind (wpS_mono (wpS_forRange (I:=λx c b=>b=a/\ ∃l r,c=(none,l,r)/\l<=r/\r<=k/\r - l<=k - x/\
    (∀i,i<l->Le lt (Kx d (arrOf a) (lo+i)) (Kx d (arrOf a) (lo+k)))/\(∀i,r<=i->i<k->Le lt (Kx d (arrOf a) (lo+k)) (Kx d (arrOf a) (lo+i))))
   (Q:=λc b=>b=a/\ ∃l r,c=(none,l,r)/\l<=k/\
    (∀i,i<l->Le lt (Kx d (arrOf a) (lo+i)) (Kx d (arrOf a) (lo+k)))/\(∀i,l<=i->i<k->Le lt (Kx d (arrOf a) (lo+k)) (Kx d (arrOf a) (lo+i)))) ?_ ?_ ?_) ?_)
  .rintro x c b _ G ⟨rfl,l,r,rfl,z,p,L,o,m⟩;dsimp only;by_cases w:l>=r
   .rw[iP w];have:l=r:=by lia
    subst this;exact wpS_pure ⟨rfl,l,l,rfl,p,o,m⟩
   .rw[iN w];refine wpS_bind (FW (d:=d) C q H #[0] #[0] ?_)
    cases F:lt _ _ with
    |true=>exact wpS_pure ⟨rfl,l,_,rfl,by lia,by lia,by lia,o,λi h1 B=>C.tr _ _ _ (C.as _ _ F) (e _ _ h1 B)⟩
    |false=>exact wpS_pure ⟨rfl,_,r,rfl,by lia,by lia,by lia,λi h1=>C.tr _ _ _ (e i ((l+r) / 2) #[0] #[0]) F,m⟩
  .rintro c b ⟨rfl,l,r,rfl,z,p,L,o,m⟩;have:l=r:=by lia
   subst this;exact⟨rfl,l,l,rfl,p,o,m⟩
  .exact⟨rfl,0,k,rfl,by lia,by lia,by lia,λi hi=>by lia,λi h1 B=>by lia⟩
  .rintro c b ⟨rfl,l,r,rfl,J,o,m⟩;dsimp only;rw[moveDown'_eq];have v:lo+k<(arrOf b).size:=by rw[q.size];lia
   refine wpS_bind (wpS_modify (wpS_pure ⟨rfl,?_,?_⟩))
   .exact q.bub #[0] #[0]
   .rw[show min (k+1) n=k+1 by lia];intro i j y P;show Le lt _ _;rw[RM v #[0],RM v #[0],show lo+k - _=lo+l by lia];have u: ∀i,1<=i->lo+i - 1=lo+(i - 1):=λi hi=>by lia
    repeat' split
    all_goals first
     |(exfalso;lia)
     |exact C.rf _
     |exact o _ #[0]
     |(rw[u _ #[0]];exact m _ #[0] #[0])
     |exact m _ #[0] #[0]
     |exact e _ _ #[0] #[0]
     |(rw[u i #[0]];exact e _ _ #[0] #[0])
     |(rw[u j #[0]];exact e _ _ #[0] #[0])
     |(rw[u i #[0],u j #[0]];exact e _ _ #[0] #[0])
     |(rw[u i #[0]];exact o _ #[0])
 .rintro c a ⟨K,q,e⟩;refine⟨K,q,?_⟩;rwa [show min _ n=n by lia]at e
 .refine⟨rfl,h,λi j y P=>?_⟩;by_cases h1:ok=0
  .rw[show i=j by lia];exact C.rf _
  .exact hs i j y #[0]
 .rintro c a ⟨rfl,q,e⟩;exact wpS_pure (hq a q e)
end
end Srt
namespace Srt
open PySem PyProof.Rows
section
variable{kd:SortKind}{lt:↑19}{a₀:V}{pd:Array (Nat×Nat×Nat)}{lo:Nat}{st:SortSt}{d:Keyed}
def Up.sl{v:V}{n:Nat}(h:Up lt d v lo n):SL lt v.toList lo n:=by
 intro i j x y h1 a c b;have e1:Kx d v (lo+i)=x:=by unfold Kx;rw[<-þ,c];rfl
 have e2:Kx d v (lo+j)=y:=by unfold Kx;rw[<-þ,b];rfl
 have:=h i j h1 a;rw[e1,e2]at this;exact this
theorem SL.pw{l:List Keyed}{n:Nat}(h:SL lt l lo n):((l.drop lo).take n).Pairwise (Le lt):=by rw[List.pairwise_iff_getElem];intro i j hi b a;rw[lT]at hi b;rw[List.getElem_take,List.getElem_take,List.getElem_drop,List.getElem_drop];exact h i j _ _ #[0] #[0] (gE _) (gE _)
structure Out(a₀:V)(kd:SortKind)(lt:Keyed->Keyed->Bool)(n:Nat)(st:SortSt):Prop where
 pm:(arrOf st).toList.Perm a₀.toList
 kind:kindOf st=kd
 fl:failedOf st=none
 pd: ∃w,pendingOf st=#[(0,n,w)]
 so:(arrOf st).toList.Pairwise (Le lt)
end
end Srt
namespace Srt
open PySem PyProof.Rows
abbrev U2:=Option Unit×Nat
abbrev U1:=Option Unit×Unit
def psh(lo n:Nat):SM (ForInStep U2):=(modify λs=>setPending s ((pendingOf s).push (lo,n,0))) >>= λ_=>pure (.yield (none,lo+n))
def nxt(N lo n:Nat):SM (ForInStep U2):=get >>= λst=>match (pendingOf st).back? with
 |some (a,b,_)=>(forIn [0:N] ((none,()):U1) λ_ _=>get >>= λst=>(match (if(pendingOf st).size>1 then(pendingOf st)[(pendingOf st).size - 2]? else none)with
   |some (_,_,z)=>if z<=power' N (2 * a+b) (2 * a+b+b+n) N then pure (.done (none,()))else mergeAt' ((pendingOf st).size - 2) >>= λq=>if(!q)=true then pure (.done (some (),()))else pure (.yield (none,()))
   |_=>pure (.done (none,())))) >>= λc=>(match c.1 with
  |some r=>pure (.done (some r,lo))
  |none=>(modify λs=>setPending s ((pendingOf s).modify ((pendingOf s).size - 1) λ(u,v,_)=>(u,v,power' N (2 * a+b) (2 * a+b+b+n) N))) >>= λ_=>psh lo n)
 |_=>psh lo n
def runs(N r:Nat):SM U2:=forIn [0:N] ((none,0):U2) λ_ c=>if c.2>=N then pure (.done (none,c.2))else countRun' c.2 (N - c.2) >>= λo=>match o with
 |some m=>if m<r then liftM (rule "list.sort.binary-insertion") >>= λ_=>binarySort' c.2 (min (N - c.2) r) m >>= λq=>if(!q)=true then pure (.done (some (),c.2))else nxt N c.2 (min (N - c.2) r)
   else nxt N c.2 m
 |_=>pure (.done (some (),c.2))
def zGE(N:Nat):SM U1:=forIn [0:N] ((none,()):U1) λ_ _=>get >>= λst=>if(pendingOf st).size<=1 then pure (.done (none,()))else
 mergeAt' (if Option.any (λx=>decide (x<((pendingOf st)[(pendingOf st).size - 2+1]?).elim 0 λx=>x.2.1)) (if(pendingOf st).size - 2>0 then Option.map (λx=>x.2.1) (pendingOf st)[(pendingOf st).size - 2 - 1]? else none)=true
  then(pendingOf st).size - 2 - 1 else(pendingOf st).size - 2) >>= λq=>if(!q)=true then pure (.done (some (),()))else pure (.yield (none,()))
def sRun:SM Unit:=get >>= λst=>runs (arrOf st).size (minRun' (arrOf st).size (arrOf st).size 0) >>= λc=>match c.1 with
 |some r=>pure r
 |none=>zGE (arrOf st).size >>= λc=>match c.1 with
  |some r=>pure r
  |none=>pure ()
theorem QF:sortRuns'=sRun:=by kernel_rfl
section
variable{M:Model}{A:Ň}{E:VP}{s:Ņ}{kd:SortKind}{lt:↑19}{a₀ f:V}{pd:Array (Nat×Nat×Nat)}{lo:Nat}{st:SortSt}
theorem SB.free{a:Array (Nat×Nat×Nat)}(h:SB a₀ kd pd f lo st)(g:V):SB a₀ kd a g 0 (setPending st a):=⟨h.pm,h.kind,h.fl,rfl,λ_ hi=>by lia⟩
def zAP{lo n:Nat}{Q:ForInStep U2->SortSt->Prop}(h:Q (.yield (none,lo+n)) (setPending st ((pendingOf st).push (lo,n,0)))):wpS M A E s (psh lo n) Q st:=
 wpS_bind (wpS_modify (wpS_pure h))
def zHQ(a₀:V)(lt:↑19)(st:SortSt):Prop:=(arrOf st).toList.Perm a₀.toList/\failedOf st=none/\(arrOf st).toList.Pairwise (Le lt)
end
end Srt
namespace Srt
open PySem PyProof.Rows
section
variable{M:Model}{A:Ň}{E:VP}{s:Ņ}{kd:SortKind}{D:Keyed->Prop}{lt:↑19}{a₀:V}{pd:Array (Nat×Nat×Nat)}{st:SortSt}{d:Keyed}
theorem Ps{N:Nat}(a:2<=N)(h:N<64):minRun' N N 0=N:=by
 obtain⟨g,rfl⟩: ∃g,N=g+1:=⟨N - 1,by lia⟩
 rw[minRun'_succ,iP h]
def zHR(a₀:V)(kd:SortKind)(lt:↑19)(st:SortSt):Prop:=SB a₀ kd #[(0,a₀.size,0)] a₀ 0 st/\SL lt (arrOf st).toList 0 a₀.size
theorem Pt(C:Cmp M A E s kd D lt)(u: ∀x,x∈a₀.toList->D x)(d:Keyed)(J:2<=a₀.size)(h:SB a₀ kd #[] a₀ 0 st){Q:U2->SortSt->Prop}
  (hq: ∀a,zHR a₀ kd lt a->Q (none,a₀.size) a):wpS M A E s (runs a₀.size a₀.size) Q st:=by
 refine wpS_forRange (I:=λx c a=>(x=0/\c=_/\SB a₀ kd #[] a₀ 0 a)\/(1<=x/\c=(none,a₀.size)/\zHR a₀ kd lt a)) ?_ ?_ (.inl ⟨rfl,rfl,h⟩)
 .rintro x c a _ B (⟨rfl,rfl,H⟩|⟨F,rfl,p⟩)
  .dsimp only;rw[iN #[0]]
   have r: ∀b,SB a₀ kd #[] a₀ 0 b->Up lt d (arrOf b) 0 a₀.size-> ∀R:ForInStep U2->SortSt->Prop,(∀a,zHR a₀ kd lt a->R (.yield (none,a₀.size)) a)->wpS M A E s (nxt a₀.size 0 a₀.size) R b:=by
    intro b i j R G;refine wpS_bind (wpS_get ?_);have y:(pendingOf b).back? =none:=by rw[i.pd];rfl
    rw[y];dsimp only;refine zAP ?_;have e:(pendingOf b).push (0,a₀.size,0)=#[(0,a₀.size,0)]:=by rw[i.pd];rfl
    rw[e,ĩ];exact G _ ⟨i.free a₀,j.sl⟩
   refine wpS_bind (Xj (d:=d) C u H #[0] #[0] λm b i w z j=>?_);dsimp only;by_cases v:m<a₀.size
   .rw[iP v];refine wpS_bind (XZ ?_);rw[Nat.sub_zero,Nat.min_self];refine wpS_bind (Xk C u i #[0] #[0] j λo k n=>?_);rw[iN (by simp)];exact r o k n _ λ_ q=>.inr ⟨by lia,rfl,q⟩
   .rw[iN v];obtain rfl:m=a₀.size:=by lia
    exact r b i j _ λ_ q=>.inr ⟨by lia,rfl,q⟩
  .dsimp only;rw[iP (à _)];exact wpS_pure (hq a p)
 .rintro c a (⟨B,_⟩|⟨_,rfl,p⟩)
  .lia
  .exact hq a p
theorem Pu(e:2<=a₀.size)(h:zHR a₀ kd lt st){Q:U1->SortSt->Prop}(d: ∀a,zHQ a₀ lt a->Q (none,()) a):wpS M A E s (zGE a₀.size) Q st:=by
 have b:zHQ a₀ lt st:=⟨Array.perm_iff_toList_perm.mp h.1.pm,h.1.fl,by have:=h.2.pw;rwa [List.drop_zero,Į (by rw[ú,h.1.size];lia)]at this⟩
 refine wpS_forRange (I:=λ_ c a=>c=_/\a=st) ?_ ?_ ⟨rfl,rfl⟩
 .rintro x c a _ _ ⟨rfl,rfl⟩;refine wpS_bind (wpS_get ?_);rw[iP (by rw[h.1.pd];simp)];exact wpS_pure (d _ b)
 .rintro c a ⟨rfl,rfl⟩;exact d _ b
theorem UL(C:Cmp M A E s kd D lt)(n: ∀x,x∈(arrOf st).toList->D x)(d:Keyed)(c:2<=(arrOf st).size)(b:(arrOf st).size<64)(h:kindOf st=kd)(j:pendingOf st=#[])(o:failedOf st=none)
  {Q:Unit->SortSt->Prop} (hq: ∀a,zHQ (arrOf st) lt a->Q () a):wpS M A E s sortRuns' Q st:=by
 rw[QF];refine wpS_bind (wpS_get ?_);rw[Ps c b];refine wpS_bind (Pt C n d c ⟨Array.Perm.refl _,h,o,j,λ_ hi=>by lia⟩ λi k=>?_);refine wpS_bind (Pu c k λe m=>?_);exact wpS_pure (hq e m)
end
end Srt
namespace Srt
open PySem PyProof.Rows
abbrev Rn:=Nat×Nat×Nat
def RunsOk(lt:↑19)(l:List Keyed):Nat->List Rn->Nat->Prop
 |p,[],q=>p=q
 |p,r::rs,q=>r.1=p/\1<=r.2.1/\SL lt l p r.2.1/\RunsOk lt l (p+r.2.1) rs q
section
variable{lt:↑19}{l:List Keyed}
theorem RunsOk.le: ∀{rs:List Rn}{p q:Nat},RunsOk lt l p rs q->p+↑4<=q
 |[],p,q,h=>by cases h;exact à _
 |r::rs,p,q,h=>by
  have:=RunsOk.le h.2.2.2;have:=h.2.1;rw[lC]
  lia
end
section
variable{kd:SortKind}{lt:↑19}{a₀:V}{st:SortSt}
structure ST(a₀:V)(kd:SortKind)(lt:Keyed->Keyed->Bool)(rs:List Rn)(q:Nat)(st:SortSt):Prop where
 pm:(arrOf st).toList.Perm a₀.toList
 kind:kindOf st=kd
 fl:failedOf st=none
 pd:pendingOf st=rs.toArray
 ok:RunsOk lt (arrOf st).toList 0 rs q
 le:q<=a₀.size
def ST.size{rs:List Rn}{q:Nat}(h:ST a₀ kd lt rs q st):(arrOf st).size=a₀.size:=by have:=h.pm.length_eq;simpa using this
end
end Srt
namespace Srt
open PySem PyProof.Rows
section
variable{A:Ň}{E:VP}{s:Ņ}
def Xl{α β:Type}{f:α->Sem β}{g:α->β}{M:Model}(l:List α)(h: ∀x,x∈l->wpAny M A (f x) (λr s'=>s'=s/\r=g x) E s):wpAny M A (l.mapM f) (λr s'=>s'=s/\r=l.map g) E s:=by
 induction l with
 |nil=>rw[List.mapM_nil];exact wP ⟨rfl,rfl⟩
 |cons x l ih=>
  rw[List.mapM_cons];refine wB (ă (h x mF0) (λr s' a=>?_) λ_ _ e=>e);rw[a.1,a.2];refine wB (ă (ih λy b=>h y (mO _ b)) (λr s' a=>?_) λ_ _ e=>e);rw[a.1,a.2];exact wP ⟨rfl,rfl⟩
def YA{α β:Type}{f:α->Sem β}{g:α->β}{M:Model}{l:List α}(h: ∀x,x∈l->wpAny M A (f x) (λr s'=>s'=s/\r=g x) E s):wpAny M A (l.toArray.mapM f) (λr s'=>s'=s/\r=(l.map g).toArray) E s:=by rw[List.mapM_toArray];show wpAny M A _ _ E s;refine wB (ă (Xl l h) (λr s' a=>?_) λ_ _ e=>e);obtain⟨rfl,rfl⟩:=a;exact wP ⟨rfl,rfl⟩
def TupAt(h:Heap)(a:Addr)(its:A0):Prop:= ∃o n,h.get? a=some o/\o.cls=.type "tuple"/\o.data=.seq ↑36 n
def Pw{M:Model}{a:Addr}{its:A0}(h:TupAt s.heap a its):wpAny M A (firstOfTuple' (.ref a)) (λr s'=>s'=s/\r=its[0]?) E s:=by obtain⟨o,n,h1,b,c⟩:=h;refine wB (Ĵ ⟨o,h1,b⟩ ?_);refine wB (listItems_at h1 c ?_);exact wP ⟨rfl,by simp⟩
end
end Srt
namespace Srt
open PySem PyProof.Rows
inductive LexS(A:Ň)(s:Ņ):List ņ->List ņ->Bool->Prop
 |nn:LexS A s [] [] false
 |nc (x xs):LexS A s [] (x::xs) true
 |cn (y ys):LexS A s (y::ys) [] false
 |eq {y x ys xs k}:SeqAt.EqAt A s y x true->LexS A s ys xs k->LexS A s (y::ys) (x::xs) k
 |ne {y x ys xs k}:SeqAt.EqAt A s y x false->(∀(prog:ň)(w:World)(E Q:VP),Q (.bool k) s->wpAny (model prog w) A (richCompare .Lt y x) Q E s)->LexS A s (y::ys) (x::xs) k
section
variable{prog:ň}{w:World}{A:Ň}{E:VP}{s:Ņ}
def Ca{b:Bool}{Q:Bool->Ņ->Prop}(h:Q b s):wpAny ↑9 A (truthOfDropped (.bool b)) Q E s:=ć h
def wp_lt{kd:SortKind}{x y:Keyed}{k:Bool}{st:SortSt}(b:kindOf st=kd)(h: ∀(E:VP)(Q:Bool->Ņ->Prop),Q k s->wpAny ↑9 A (keyLt' kd x.1 y.1) Q E s){Q:Option Bool->SortSt->Prop}(a:Q (some k) st):
  wpS ↑9 A E s (lt' x y) Q st:=by
 rw[lt'_eq];refine wpS_bind (wpS_get ?_);rw[b];refine wpS_bind (wpS_lift (wpAny_attempt (h _ _ ⟨rfl,?_⟩)));exact wpS_pure a
end
end Srt
namespace Srt
open PySem PyProof.Rows
section
variable{prog:ň}{w:World}{A:Ň}{E:VP}{s:Ņ}
theorem Px{m n:Nat}{k:Bool}(vs ws:A0)(i:Nat)(a:LexS A s vs ws k):1<=i->vs.length+n=ws.length+m->
   wpAny ↑9 A (forIn ((vs.zip ws).zipIdx i) ((none,()):Option Bool×Unit) λz _=>eqBool z.1.1 z.1.2 >>= λe=>if(!e)=true then oneLt' (true&&z.2==0) z.1.1 z.1.2 >>= λr=>pure (.done (some r,()))else pure (.yield (none,())))
    (λr s'=>s'=s/\(r=(some k,())\/(r=(none,())/\k=decide (m<n)))) E s:=by
 induction a generalizing i with
 |nn=>intro hi h;rw[zip_nil_left,zipIdx_nil];exact wP ⟨rfl,.inr ⟨rfl,(dF0 (by simp at h;lia)).symm⟩⟩
 |nc x xs=>intro hi h;rw[zip_nil_left,zipIdx_nil];exact wP ⟨rfl,.inr ⟨rfl,(dT0 (by simp at h;lia)).symm⟩⟩
 |cn y ys=>intro hi h;rw[List.zip_nil_right,zipIdx_nil];exact wP ⟨rfl,.inr ⟨rfl,(dF0 (by simp at h;lia)).symm⟩⟩
 |eq he hr ih=>
  intro hi h;rw[ě,List.zipIdx_cons,forIn_cons];refine wB (wB (he prog w E _ ?_));exact wP (ih _ #[0] (by simpa using(by simp at h;lia)))
 |ne he hr=>
  intro hi h;refine wB (wB (he prog w E _ ?_));simp only[Ĥ];rw[show(i==0)=false by simp;lia];refine wB (wB (hr prog w E _ (Ca ?_)));exact wP (wP ⟨rfl,.inl rfl⟩)
end
end Srt
namespace Srt
open PySem PyProof.Rows
section
variable{prog:ň}{w:World}{A:Ň}{E:VP}{s:Ņ}
def sort_plainS{a:Addr}{vs:A0}{T:Nat}{P:PySem.Fin->Ņ->Prop}(n:s.heap.get? a=some (seqObj "list" vs.toArray T))(W:vs.length<64)
  (hk: ∀d:Ņ,d={s with heap:=((s.heap.update a (Obj.mapSeq λ_=>#[])).push (seqObj "tuple" vs.toArray 0)).push (seqObj "list" #[] 0)}-> ∃(kd:SortKind)(D:Keyed->Prop)(lt:↑19),
   (2<=vs.length->wpAny ↑9 A (keyKind' vs.toArray) (λk s'=>s'=d/\k=kd) E d/\Cmp ↑9 A E d kd D lt/\ ∀p,p∈vs.zip vs->D p)/\
   ∀out:List Keyed,out.Perm (vs.zip vs)->out.Pairwise (Le lt)->P (.done (.ret .none)) {d with heap:=d.heap.update a (Obj.mapSeq λ_=>(out.map (·.2)).toArray)}):
  wpAny ↑9 A (Builtin.«list.sort» ⟨[.ref a],[]⟩) P E s:=by
 unfold Builtin.«list.sort»;dsimp only;rw[iN (by simp),iN (by simp)];rw[forIn_nil];refine wB (wP ?_);have e1:List.lookup (Str.ofString "key") ([]:List (Str×ņ))=none:=rfl;have e2:List.lookup (Str.ofString "reverse") ([]:List (Str×ņ))=none:=rfl;rw[e1,e2];refine wB (wP ?_);have Y:a<s.heap.objs.size:=á n;refine wB (listItems_at n rfl ?_);refine wB (listUpdate_at n rfl ?_);obtain⟨q,B⟩: ∃q,(s.heap.update a (Obj.mapSeq λ_=>#[])).get? a=some (seqObj "list" #[] q):=⟨_,get?_update_seq n (λ_=>#[])⟩
 dsimp only;refine wB (seqEpoch_at B rfl ?_);refine wB (wpAny_newTuple ?_);refine wB (wpAny_newList ?_);refine Ą ?_;rw[iN (by simp)];dsimp only;generalize m:({s with heap:=((s.heap.update a (Obj.mapSeq λ_=>#[])).push (seqObj "tuple" vs.toArray 0)).push (seqObj "list" #[] 0)}:Ņ)=d;have C:d.heap.get? a=some (seqObj "list" #[] q):=by rw[<-m];exact hP0 _ (hP0 _ B)
 obtain⟨kd,D,lt,I,K⟩:=hk d m.symm;rw[iN (by simp)];refine wB (wP ?_);rw[iN (by simp)]
 have i: ∀st:SortSt,failedOf st=none->(arrOf st).toList.Perm (vs.zip vs)->(arrOf st).toList.Pairwise (Le lt)->
   wpAny ↑9 A (do
    let e <-seqEpoch a
    Builtin.List.listUpdate (.ref a) λ_=>(arrOf st).map (·.2)
    if(e !=q)=true then rule "list.sort.modified" >>= λ_=>raiseErrorWords "ValueError" "list modified during sort" >>= λ(_:Unit)=>ret .none else ret .none) P E d:=by
  intro st hf j hs;refine wB (seqEpoch_at C rfl ?_);have z:((arrOf st).map (·.2)).size<=sizeLine+1:=by rw[Array.size_map, <-ú,j.length_eq,length_zip];have:=Ċ;omega
  refine wB (listUpdate_at C rfl ?_);rw[iN (by simp)];have U:(arrOf st).map (·.2)=((arrOf st).toList.map (·.2)).toArray:=by rw[<-Array.toList_map]
  rw[U];exact wP (K _ j hs)
 by_cases b:vs.toArray.size<2
 .rw[iP b,iP b];refine wB (wP ?_);rw[StateT.run_pure];refine wB (wP ?_);rw[iN (by simp)];have X:(vs.zip vs).length<=1:=by rw[length_zip];simp at b;omega
  refine i _ rfl ?_ ?_
  .show(vs.toArray.zip vs.toArray).toList.Perm _;simp
  .show(vs.toArray.zip vs.toArray).toList.Pairwise _;have:(vs.toArray.zip vs.toArray).toList=vs.zip vs:=by simp
   rw[this]
   match vs.zip vs,X with
   |[],_=>exact .nil
   |[x],_=>exact pairwise_singleton _ _
   |x::y::r,h=>simp at h
 .rw[iN b,iN b];obtain⟨O,L,M⟩:=I (by simp at b;omega);refine wB (ă O (λk s' u=>?_) λ_ _ e=>e);obtain⟨rfl,rfl⟩:=u;have o:(arrOf (SortSt.mk' k (vs.toArray.zip vs.toArray) #[] 7 none)).toList=vs.zip vs:=by show(vs.toArray.zip vs.toArray).toList=_;simp
  have G:(arrOf (SortSt.mk' k (vs.toArray.zip vs.toArray) #[] 7 none)).size=vs.length:=by rw[<-ú,o,length_zip,Nat.min_self]
  refine wB (ă (UL (st:=SortSt.mk' k (vs.toArray.zip vs.toArray) #[] 7 none) L (λp j=>M p (by rw[o]at j;exact j)) (.none,.none) (by rw[G];simp at b;omega) (by rw[G];exact W) rfl rfl rfl
   (Q:=λ_ c=>zHQ _ lt c) λc h=>h) (λr Z N=>?_) λ_ _ e=>e)
  obtain⟨⟨⟩,c⟩:=r;obtain⟨rfl,J,H,S⟩:=N;dsimp only;rw[iN (by simp)];have F:=i c H (by rw[<-o];exact J) S;have v:failedOf c=none:=H;unfold failedOf at v;rw[v];exact F
end
end Srt
namespace Srt
open PySem PyProof.Rows
section
variable{A:Ň}{E:VP}{s:Ņ}
def YB{M:Model}{l:A0}(c:l≠[])(h: ∀x,x∈l-> ∃z tk,x=.int z tk):wpAny M A (oneTypeOnly' l.toArray) (λr s'=>s'=s/\r=some (.type "int")) E s:=by
 refine wB (ă (YA (g:=λ_=>Value.type "int") λx d=>?_) (λr s' i=>?_) λ_ _ e=>e)
 .obtain⟨z,tk,rfl⟩:=h x d;exact wP ⟨rfl,rfl⟩
 .obtain⟨rfl,rfl⟩:=i
  match l,c with
  |x::l,_=>
   have b:(List.map (λ_=>Value.type "int") (x::l)).toArray[0]? =some (Value.type "int"):=by simp
   have a:((List.map (λ_=>Value.type "int") (x::l)).toArray.all λx=>x==Value.type "int")=true:=by simp only[List.all_toArray,all_map,ø];intro _ _;rfl
   rw[b];dsimp only;rw[a];exact wP ⟨rfl,rfl⟩
def wp_kindI{M:Model}{c:A0}(u:c≠[])(h: ∀x,x∈c-> ∃a its z tk r,x=.ref a/\TupAt s.heap a its/\its=.int z tk::r):
  wpAny M A (keyKind' c.toArray) (λk s'=>s'=s/\k=tuples' true) E s:=by
 have n: ∀x, ∃y:Option ņ,x∈c->(∃z tk,y=some (.int z tk))/\ ∀M:Model,wpAny M A (firstOfTuple' x) (λr s'=>s'=s/\r=y) E s:=by
  intro x;by_cases d:x∈c
  .obtain⟨a,its,z,tk,r,rfl,h1,rfl⟩:=h x d;exact⟨some _,λ_=>⟨⟨z,tk,rfl⟩,λM=>Pw h1⟩⟩
  .exact⟨none,λz=>absurd z d⟩
 let g:=λx=>Classical.choose (n x);have j: ∀x,x∈c->(∃z tk,g x=some _)/\ ∀M:Model,wpAny M A _ (λr s'=>s'=s/\r=g x) E s:=λx d=>Ă (n x) d;refine wB (ă (YA λx d=>(j x d).2 M) (λr s' m=>?_) λ_ _ e=>e);obtain⟨rfl,rfl⟩:=m;rw[iP (by simp only[List.all_toArray,all_map,ø];intro x d;obtain⟨⟨b,i,e⟩,_⟩:=j x d;show(g x).isSome=true;rw[e];rfl)];refine wB (İ ?_);have o:(c.map g).toArray.filterMap id=((c.map g).filterMap id).toArray:=by simp
 rw[o];refine wB (ă (YB ?_ ?_) (λr s' m=>?_) λ_ _ e=>e)
 .match c,u,j with
  |x::l,_,j=>
   obtain⟨⟨b,i,e⟩,_⟩:=j x mF0;rw[ê,e];simp
 .intro x d;obtain⟨y,q,e⟩:=mem_filterMap.mp d;obtain⟨z,v,p⟩:=mM.mp q;obtain⟨⟨b,i,e2⟩,_⟩:=j z v;have:some x=some (Value.int b i):=by rw[<-e2,p];exact e.symm
  cases this;exact⟨b,i,rfl⟩
 .obtain⟨rfl,rfl⟩:=m;refine wP ⟨rfl,?_⟩;have:((some (Value.type "int")).any λx=>x !=Value.type "tuple")=true:=by rfl
  rw[this]
end
end Srt
namespace Srt
open PySem PyProof.Rows
section
variable{prog:ň}{w:World}{A:Ň}{E:VP}{s:Ņ}
theorem wp_keyLtI{l b:Addr}{x y:Int}{t u:Tok}{r a:A0}{e k:Bool}{Q:Bool->Ņ->Prop}(v:TupAt s.heap l (.int x t::r))(i:TupAt s.heap b (.int y u::a))(c:SeqAt.EqAt A s (.int x t) (.int y u) e)
  (hx:if e=true then LexS A s r a k else k=decide (x<y)) (hq:Q k s):
  wpAny ↑9 A (keyLt' (tuples' true) (.ref l) (.ref b)) Q E s:=by
 obtain⟨B,D,o,_,d⟩:=v;obtain⟨z,C,j,_,p⟩:=i;refine wB (listItems_at o d (wB (listItems_at j p ?_)));simp only[sA];refine wB ?_;rw[ě,List.zipIdx_cons,forIn_cons];refine wB (wB (c prog w E _ ?_))
 cases e with
 |true=>
  refine wP ?_;refine ă (Px r a 1 hx (m:=(Value.int x t::r).length) (n:=(Value.int y u::a).length) (à _) (by simp only[lC];lia)) (λq s' h=>?_) λ_ _ e=>e;obtain⟨rfl,rfl|⟨rfl,e⟩⟩:=h
  .exact wP hq
  .dsimp only;rw[<-e];exact wP hq
 |false=>
  subst hx;refine wB (oneLt_int ?_);exact wP (wP (wP hq))
end
end Srt
namespace L2
namespace M
open PySem PySem.Spec PyProof.Rows
variable{kvs:↑24}{vs:List (Key×ņ)}
mutual
def rG:MV->Bool
 |.int _=>true
 |.str _=>true
 |.tup ds=>JP ds
 |_=>false
def JP:List MV->Bool
 |[]=>true
 |d::ds=>rG d&&JP ds
end
def RN{α β:Type}{g:α->β}{p m:List β}(h:p.Perm m): ∀l:List α,l.map g=p-> ∃c:List α,c.Perm l/\c.map g=m:=by
 induction h with
 |nil=>intro l e;exact⟨l,.refl _,e⟩
 |cons x _ ih=>
  intro l e
  cases l with
  |nil=>cases e
  |cons a l=>
   injection e with e1 e2
   obtain⟨c,k,d⟩:=ih l e2;exact⟨_,k.cons a,by rw[ê,e1,d]⟩
 |swap x y t=>
  intro l e
  match l,e with
  |a::b::l,e=>
   injection e with e1 e2
   injection e2 with e2 e3
   exact⟨_,.swap _ _ _,by rw[ê,ê,e1,e2,e3]⟩
 |trans _ _ ih1 ih2=>
  intro l e;obtain⟨o,p1,n⟩:=ih1 l e;obtain⟨i,p2,j⟩:=ih2 o n;exact⟨i,p2.trans p1,j⟩
section
variable{X:Cx}{α:B9}{H:Hp}{pins:M0}{σ:St}{s:Ņ}
mutual
theorem Fp(I:↑2): ∀{d b:MV}{v:V},rG d=true->rG b=true->Den X.K α H d v->Den X.K α H b v->d=b
 |.int i,b,v,_,h',q,q'=>by
  cases xB q
  cases b with
  |int j=>cases xB q';rfl
  |str x=>cases wH q'
  |tup ds=>obtain⟨a,vs,e,_⟩:=xC q';cases e
  |_=>simp[rG]at h'
 |.str x,b,v,_,h',q,q'=>by
  have e:=wH q
  cases b with
  |int j=>rw[xB q']at e;cases e
  |str y=>rw[wH q']at e;injection e with e;rw[FC e]
  |tup ds=>obtain⟨a,vs,c,_⟩:=xC q';rw[c]at e;cases e
  |_=>simp[rG]at h'
 |.tup ds,b,v,h,h',q,q'=>by
  obtain⟨a,vs,e,t,l⟩:=xC q
  cases b with
  |int j=>rw[xB q']at e;cases e
  |str y=>rw[wH q']at e;cases e
  |tup es=>
   obtain⟨n,m,c,t',k⟩:=xC q';rw[e]at c;cases c;have:=I.tuple_inj t t';subst this;rw[YC I (by unfold rG at h;exact h) (by unfold rG at h';exact h') l k]
  |_=>simp[rG]at h'
theorem YC(I:↑2): ∀{ds es:U0}{vs:List V},JP ds=true->JP es=true->DenL X.K α H ds vs->DenL X.K α H es vs->ds=es
 |[],[],_,_,_,_,_=>rfl
 |[],e::es,_,_,_,q,q'=>by obtain⟨v,r,e,_⟩:=q'.uncons;rw[q.isnil]at e;cases e
 |d::ds,[],_,_,_,q,q'=>by obtain⟨v,r,e,_⟩:=q.uncons;rw[q'.isnil]at e;cases e
 |d::ds,e::es,_,h,h',q,q'=>by obtain⟨v,r,rfl,a,l⟩:=q.uncons;obtain⟨j,k,c,i,b⟩:=q'.uncons;cases c;unfold JP at h h';rw[aE]at h h';rw[Fp I h.1 h'.1 a i,YC I h.2 h'.2 l b]
end
def zGF{A:Ň}{xs ys:A0}{k:Bool}(h:LexR A s xs ys k):Srt.LexS A s xs ys k:=by
 induction h with
 |nn=>exact .nn
 |nc x xs=>exact .nc x xs
 |cn x xs=>exact .cn x xs
 |eq a _ ih=>exact .eq a ih
 |ne a b=>exact .ne a b
def Cb(I:↑2){ds:U0}{x:V}{u:ņ}(d:Den X.K α H (.tup ds) x)(r:RelV x u): ∃a vs its,u=.ref a/\DenL X.K α H ds vs/\Vals vs its/\Srt.TupAt s.heap a its/\IsTup s.heap a its.toArray:=by obtain⟨a,vs,rfl,t,l⟩:=xC d;cases r;obtain⟨its,e,pt,_⟩:=I.tuple t;obtain⟨o,h1,b,n,c⟩:=id pt;exact⟨a,vs,its,rfl,l,e,⟨o,n,h1,b,c⟩,pt⟩
end
structure OrdD(S:Sto)(ks:U0):Prop where
 any: ∀a,a∈ks-> ∀b,b∈ks-> ∃t,LA S zQ a b=some t
 tr: ∀a,a∈ks-> ∀b,b∈ks-> ∀c,c∈ks->LA S zQ b a=some false->LA S zQ c b=some false->LA S zQ c a=some false
 as: ∀a,a∈ks-> ∀b,b∈ks->LA S zQ a b=some true->LA S zQ b a=some false
section
variable{X:Cx}{α:B9}{S:Sto}{H:Hp}{pins:M0}{σ:St}{s:Ņ}{ps:K0}
def Jx{e:Addr}{ys:List V}{its:A0}{n:Nat}(J:↑2)(f:FA X pins H e)(i:X.s₀.heap.objs.size<=e)(k:s.heap.get? e=some (seqObj "list" ↑36 n))(m:Vals ys its)(A:ys.length<=sizeLine):Inv X pins σ (xY H e (.lst ys)) s:=by
 have y: ∀o,X.s₀.heap.get? e≠some o:=λo z=>absurd (é (á z) i) (ĕ _);refine⟨J.ok,J.os,J.bare,⟨J.base.keep,J.base.slot,λb a q n v=>?_,J.base.there,λb xs q=>?_,λb o' u q=>?_,λb ps q=>?_⟩,J.loc,J.cell,?_,λx c d=>?_,λp h=>?_,λb u q=>?_,J.len⟩
 .rw[zL λz=>y a (by rw[<-z];exact q)];exact J.base.free b a q n v
 .rw[zL (zZ (J.base.tups b xs q) f.1)];exact J.base.tups b xs q
 .rw[zL (zZ (J.base.frzs b o' u q) f.1)];exact J.base.frzs b o' u q
 .obtain⟨j,z⟩:=J.base.tbls b ps q;exact⟨j,by rw[zL (zZ z f.1)];exact z⟩
 .rw[zL (Ne.symm f.2.1)];exact J.free
 .rw[zL (f.2.2.2.2.1 x c d)];exact J.freeC x c d
 .obtain⟨e1,n,ne,nf,w⟩:=J.pin p h;exact⟨e1,by rw[zL (f.2.2.2.2.2 p h)];exact n,ne,nf,w⟩
 .by_cases z:b=e
  .subst z;rw[zX]at q;cases q;exact⟨A,its,n,m,k⟩
  .rw[zL z]at q;exact(J.hok b u q).stay (λ_ _ _ r=>r) (λc r=>by rw[zL (zZ r f.1)];exact r) λc xs r=>by rw[zL (zZ r f.1)];exact r
def Cc(K:Q0)(α:B9)(H:Hp)(a:U0)(u:ņ):MV:=
 open Classical in if h: ∃d v,d∈a/\Den K α H d v/\RelV v u then Classical.choose h else a.headD .non
def ltV(K:Q0)(α:B9)(H:Hp)(S:Sto)(a:U0)(p q:Keyed):Bool:=(LA S zQ (Cc K α H a p.1) (Cc K α H a q.1)).getD false
def fS{K:Q0}{a:U0}(b:a≠[])(u:ņ):Cc K α H a u∈a:=by
 unfold Cc;split
 .rename_i h;obtain⟨v,h1,_⟩:=Ă h;exact h1
 .match a,b with
  |x::l,_=>exact mF0
def MR{K:Q0}{a:U0}{u:ņ}(h: ∃d v,d∈a/\Den K α H d v/\RelV v u): ∃v,Den K α H (Cc K α H a u) v/\RelV v u:=by unfold Cc;rw[dif_pos h];obtain⟨v,_,b,c⟩:=Ă h;exact⟨v,b,c⟩
def Py(I:↑2){b:U0}{kvs:List V}{m:A0}(c: ∀d,d∈b->rG d=true)(p:DenL X.K α H b kvs)(q:Vals kvs m){i:Nat}{u:ņ}{a:MV}(w:m[i]? =some u)(j:b[i]? =some a):
  Cc X.K α H b u=a:=by
 obtain⟨v,o,k⟩:=p.at j;obtain⟨B,e,r⟩:=q.get o;rw[w]at e;cases e;have h:=ñ j;have ne:b≠[]:=λz=>by rw[z]at h;cases h
 obtain⟨A,n,y⟩:=MR ⟨a,v,h,k,r⟩;rw[y.inj r]at n;exact Fp I (c _ (fS ne u)) (c a h) n k
end
theorem Jy{a its:A0}{N:Nat}(h1:a.length=N)(b:its.length=N):(List.range N).map (λi=>((a[i]?).getD .none,(its[i]?).getD .none))=a.zip its:=by
 apply Ń;intro i;rw[ð];by_cases hi:i<N
 .have e:(a.zip its)[i]? =some (a[i]'#[0],its[i]'#[0]):=by rw[List.getElem?_zip_eq_some];exact⟨gE _,gE _⟩
  rw[getElem?_range hi,e];show some ((a[i]?).getD .none,(its[i]?).getD .none)=_;rw[gE #[0],gE #[0]];rfl
 .rw[đ (by rw[è];lia),đ (by rw[length_zip];lia)];rfl
theorem MS{β:Type}{l:List β}{d:β}{idx:Db}(h: ∀i,i∈idx->i<l.length):idx.map (λi=>(l[i]?).getD d)=idx.filterMap (l[·]?):=by
 induction idx with
 |nil=>rfl
 |cons i idx ih=>
  have hi:=h i mF0;rw[ê,Ĺ (gE hi),ih λj a=>h j (mO _ a),gE hi];rfl
def Fq(S:Sto)(ds b r:U0):Prop:= ∃idx:List Nat,idx.Perm (List.range ↑23)/\idx.Pairwise (λi j=> ∀a c,b[i]? =some a->b[j]? =some c->LA S zQ c a=some false)/\r=idx.filterMap (ds[·]?)
open Classical in
open Classical in
section
variable{X:Cx}{a b o i:Expr}{pins:M0}{σ:St}{H:Hp}{s:Ņ}{α:B9}
noncomputable def KO(kvs:↑24)(k:Key)(v:V):List (Key×V):=if(kvs.any λa=>decide (a.1=k))=true then kvs.map (λa=>if a.1=k then(a.1,v)else a)else kvs++[(k,v)]
def YD(kvs:↑24)(k:Key)(v:V):(KO kvs k v).length<=kvs.length+1:=by
 unfold KO;split
 .rw[lM];exact le_succ _
 .rw[lA];exact à _
def zAQ(r:KV kvs vs)(k:Key):(kvs.any λa=>decide (a.1=k))=vs.any λa=>decide (a.1=k):=by
 induction r with
 |nil=>rfl
 |cons h t ih=>rw[ĥ,ĥ,ih,h.1]
def Xm(r:KV kvs vs)(k:Key){y:V}{u:ņ}(b:RelV y u):KV (kvs.map λa=>if a.1=k then(a.1,y)else a) (vs.map λa=>if a.1=k then(a.1,u)else a):=by
 induction r with
 |nil=>exact .nil
 |@cons p q ps qs h t ih=>
  rw[ê,ê];refine .cons ?_ ih;by_cases e:p.1=k
  .rw[iP e,iP (h.1.symm.trans e)];exact⟨h.1,b⟩
  .rw[iN e,iN λz=>e (h.1.trans z)];exact h
def Xn(r:KV kvs vs){p:Key×V}{q:Key×ņ}(h:p.1=q.1/\RelV p.2 q.2):KV (kvs++[p]) (vs++[q]):=by
 induction r with
 |nil=>exact .cons h .nil
 |cons h' t ih=>exact .cons h' ih
def Pz(r:KV kvs vs)(k:Key){y:V}{u:ņ}(a:RelV y u):KV (KO kvs k y) (stored vs k u):=by
 unfold KO stored;rw[zAQ r k];by_cases e:(vs.any λb=>decide (b.1=k))=true
 .rw[iP e,iP e];exact Xm r k a
 .rw[iN e,iN e];exact Xn r ⟨rfl,a⟩
def LC{k:MV}{a b:Key}(h:KeyD k a)(h':KeyD k b):a=b:=by
 cases k with
 |int i=>exact Eq.trans h h'.symm
 |str x=>exact Eq.trans h h'.symm
 |_=>exact False.elim h
def FX{k k':MV}{a:Key}(h:KeyD k a)(h':KeyD k' a):k=k':=by
 cases k with
 |int i=>
  have e:=h;subst e
  cases k' with
  |int j=>have b:(Sum.inl i:Key)=.inl j:=h';cases b;rfl
  |str y=>have b:(Sum.inl i:Key)=.inr _:=h';cases b
  |_=>exact False.elim h'
 |str x=>
  have e:a=.inr _:=h;subst e
  cases k' with
  |int j=>have b:(Sum.inr _:Key)=.inl j:=h';cases b
  |str y=>
   have b:(Sum.inr _:Key)=.inr _:=h';injection b with b
   rw[FC b]
  |_=>exact False.elim h'
 |_=>exact False.elim h
theorem YE: ∀{kvs:zA0}{b:↑24}{k:MV}{k':Key},DenK X.K α H kvs b->KeyD k k'->(b.any λd=>decide (d.1=k'))=(look kvs k).isSome
 |_,_,k,k',.nil,hk=>rfl
 |_,_,k,k',.cons (k:=c) (k':=c') hc a l,hk=>by
  rw[CD,ĥ];by_cases h:c=k
  .subst h;rw[iP rfl,dT0 (LC hc hk)];rfl
  .have e: ¬c'=k':=λz=>h (FX hc (z.symm▸hk));rw[iN h,dF0 e];exact YE l hk
theorem MT: ∀{kvs:zA0}{e:↑24}{k d:MV}{k':Key}{v:V},DenK X.K α H kvs e->KeyD k k'->Den X.K α H d v->DenK X.K α H (kvs.map λp=>if p.1=k then(p.1,d)else p) (e.map λb=>if b.1=k' then(b.1,v)else b)
 |_,_,k,d,k',v,.nil,hk,hd=>.nil
 |_,_,k,d,k',v,.cons (k:=c) (k':=c') hc a l,hk,hd=>by
  rw[ê,ê];by_cases h:c=k
  .subst h;rw[iP rfl,iP (LC hc hk)];exact .cons hc hd (MT l hk hd)
  .have i: ¬c'=k':=λz=>h (FX hc (z.symm▸hk));rw[iN h,iN i];exact .cons hc a (MT l hk hd)
theorem DenK.append: ∀{kvs b:zA0}{xs c:↑24},DenK X.K α H kvs xs->DenK X.K α H b c->DenK X.K α H (kvs++b) (xs++c)
 |_,_,_,_,.nil,h=>h
 |_,_,_,_,.cons hk a l,h=>.cons hk a (DenK.append l h)
theorem DenK.length: ∀{kvs:zA0}{xs:↑24},DenK X.K α H kvs xs->↑33=kvs.length
 |_,_,.nil=>rfl
 |_,_,.cons _ _ l=>by rw[lC,lC,DenK.length l]
def YF{kvs:zA0}{c:↑24}{k d:MV}{k':Key}{v:V}(l:DenK X.K α H kvs c)(a:KeyD k k')(b:Den X.K α H d v):DenK X.K α H (putK kvs k d) (KO c k' v):=by
 unfold putK KO;rw[YE l a];by_cases h:(look kvs k).isSome=true
 .rw[iP h,iP h];exact MT l a b
 .rw[iN h,iN h];exact l.append (.cons a b .nil)
def DK(X:Cx)(H:Hp)(d:Addr)(a:↑24):Prop:=H d=some (.dK a)\/(a=[]/\H d=some (DN X.prog X.w d []))
def DK.nf{d:Addr}{a:↑24}(h:DK X H d a): ∀ob u,H d≠some (.frz ob u):=h.elim (λz=>E9 z) λz=>by first |exact E9 z.2|exact z.elim
def oU(I:↑2){b:↑24}{d:Addr}(h:DK X H d b):b.length<=sizeLine/\(d==sysModules)=false/\ ∃vs,KV b vs/\s.heap.DictOf (bI X.prog X.w) d vs:=by
 rcases h with h|⟨rfl,h⟩
 .exact(I.hok d _ h)
 .obtain⟨⟨p,hs,o,es,ep,m,i,k,j,n⟩,_⟩:=(I.hok d _ h)
  have a:=j;refine⟨zero_le _,hs,[],.nil,o,es,ep,m,i,k,λe c=>?_,by rw[a];exact .nil,nodup_nil⟩;rw[<-Array.mem_toList_iff,a]at c;exact absurd c (by simp)
theorem IC: ∀{kvs:zA0}{b:↑24},DenK X.K α H kvs b->DenL X.K α H (kvs.map (·.1)) (b.map λp=>kV p.1)
 |_,_,.nil=>yL
 |_,_,.cons (k:=c) (k':=c') hc a l=>by
  refine yH ?_ (IC l)
  cases c with
  |int i=>rw[show c'=.inl i from hc];exact xZ i
  |str x=>rw[show c'=.inr _ from hc];exact uD x
  |_=>exact False.elim hc
end
noncomputable def Jz(k:Key)(l:List Key):Bool:=l.any λj=>decide (j=k)
def oV(val:Nat->Key):Nat->List Key
 |0=>[]
 |i+1=>if Jz (val i) (oV val i)=true then oV val i else oV val i++[val i]
theorem CF(val:Nat->Key)(i:Nat):oV val (i+1)=if Jz (val i) (oV val i)=true then oV val i else oV val i++[val i]:=rfl
theorem UM(val:Nat->Key): ∀i,(oV val i).length<=i
 |0=>à _
 |i+1=>by
  have a:=UM val i;rw[CF];split
  .exact ì a (le_succ _)
  .rw[lA];exact Nat.succ_le_succ a
def YG(val:Nat->Key)(i:Nat)(k:Key):Jz k (oV val (i+1))=(Jz k (oV val i) || decide (k=val i)):=by
 rw[CF];by_cases h:Jz (val i) (oV val i)=true
 .rw[iP h];by_cases e:k=val i
  .rw[e,h];rfl
  .rw[dF0 e,Bool.or_false]
 .rw[iN h];unfold Jz;rw[List.any_append,ĥ,List.any_nil,Bool.or_false];by_cases e:val i=k
  .rw[dT0 e,dT0 e.symm]
  .rw[dF0 e,dF0 λz=>e z.symm]
theorem Qa(val:Nat->Key)(i:Nat):(oV val (i+1)).length=if Jz (val i) (oV val i)=true then(oV val i).length else(oV val i).length+1:=by
 rw[CF];split
 .rfl
 .rw[lA];rfl
abbrev KSet(P:Program)(w:World)(h:Heap)(D:Addr)(val:Nat->Key)(i:Nat):Prop:=h.SetOf (bI P w) D (λk=>Jz k (oV val i)) (oV val i).length
def KSet.move{P:ň}{w:World}{h h':Heap}{D:Addr}{val:Nat->Key}{i:Nat}(x:KSet P w h D val i)(m: ∀o,h.get? D=some o->h'.get? D=some o):KSet P w h' D val i:=by obtain⟨o,es,ep,t,a,r⟩:=x;exact⟨o,es,ep,t,m o a,r⟩
def StrAt(val:Nat->Key)(i:Nat)(v:ņ):Prop:=(∃x t,val i=.inr x/\v=.str x t)\/ ∃x t,val i=.inl x/\v=.int x t
def StrAt.is{P:ň}{w:World}{val:Nat->Key}{i:Nat}{v:ņ}(h:StrAt val i v):(bI P w).is (val i) v=true/\v.scannable=true:=by
 rcases h with⟨x,t,e,rfl⟩|⟨x,t,e,rfl⟩<;>rw[e]
 .exact⟨AC P w x t,rfl⟩
 .exact⟨JF P w x t,rfl⟩
section
variable{P:ň}{w:World}{A:Ň}{R:Result->Ņ->Prop}{I D:Addr}{fp wr:B9}{G:Array GenState->Array GenState->Prop}{n:Nat}{Pv:Nat->ņ->Prop}{St:Nat->Ņ->Prop}{val:Nat->Key}
theorem RO(W:PySem.WalksS P w A.in1 I fp wr G n Pv St)(c:D∉fp)(y: ∀i v,Pv i v->StrAt val i v)(a:n+1<scanBound):
  ∀(k i:Nat)(s:Ņ),i+k=n->St i s->KSet P w s.heap D val i->
   (∀s',PySem.Moved (D::wr) G s s'->KSet P w s'.heap D val n->R (.ok (.ret .none)) s')->codeAny (model P w) A (.builtin "set.update.loop" ⟨[.ref D,.ref I],[]⟩) R s
 |0,i,s,hk,st,hs,q=>by have e:i=n:=hk;subst e;refine Ğ F.entry_set_update_loop ?_;rw[Ē F.plain_set_update_loop _];show wpAny _ A.in1 _ _ _ s;refine wB (W.done s _ _ st λs' m=>?_);exact wP (q s' (m.mono λb a=>.tail _ a) (hs.move λo=>m.heap D o λz=>c (W.sub _ z)))
 |k+1,i,s,hk,st,hs,q=>by
  refine Ğ F.entry_set_update_loop ?_;rw[Ē F.plain_set_update_loop _];show wpAny _ A.in1 _ _ _ s;refine wB (W.item i s _ _ #[0] st λv s' J u m=>?_);obtain⟨hi,r⟩:=(y i v J).is;have h:KSet P w s'.heap D val i:=hs.move λo=>m.heap D o λz=>c (W.sub _ z);have le:=UM val i;show wpAny _ A.in1 _ _ _ s';refine wB (Ą ?_);unfold setAdd;refine Ą (wB ((bI P w).pyHash hi ?_));refine wpAny_setAddHashed_of hi r h #[0] λC B j=>?_;have p:KSet P w C D val (i+1):=by unfold KSet;rw[show(λk=>Jz k _)=(λk=>Jz k (oV val i) || decide (k=val i))from funext (YG val i),Qa];exact j
  refine wP ⟨plainId_quiet F.plain_set_update_loop _,RO W c y a k (i+1) _ #[0] (W.frame _ s' _ _ u (le_succ _) λb a o e=>?_) p λH E d=>?_⟩
  .rw[B.2 b λz=>c (z▸a)];exact e
  .refine q H (PySem.Moved.trans W.gtrans ((m.mono λb a=>.tail _ a).then_heap (le_succ _) λb o a e=>?_) E) d;rw[B.2 b λz=>a (by rw[z];exact .head _)];exact e
end
section
variable{P:ň}{w:World}
noncomputable abbrev gW(a:Bool):Obj:={cls:=.type "set",dict:=none,data:=.set #[] 0 (.fresh 0 0 a)}
def zGG{h:Heap}{a:Addr}{c:Bool}{val:Nat->Key}(d:h.get? a=some (gW c)):KSet P w h a val 0:=
 ⟨_,#[],0,_,d,⟨rfl,rfl,rfl⟩,rfl,λe b=>absurd b (by simp),λk=>⟨λz=>absurd z xF0,λ⟨e,b,_⟩=>absurd b (by simp)⟩,by unfold scanBound;decide,rfl,rfl⟩
end
section
variable{P:ň}{w:World}{A:Ň}{E:VP}{s:Ņ}
def MU{l:Addr}{a:B0}{val:Nat->Key}{Q:VP}(hh:A.handled=none)(U:s.heap.IsTuple l a)(hv: ∀(i:Nat)(v:ņ),a[i]? =some v->StrAt val i v)(Z:a.size+1<scanBound)
  (h: ∀(h':Heap)(tk:Nat),KSet P w h' ↑1 val a.size->↑22->Q (.ref ↑1) {s with heap:=h',toks:=tk}):
  wpAny (model P w) A (call (.type "set") [.ref l]) Q E s:=by
 obtain⟨c,tl,T⟩:=F.called_set.mro;have I:=F.called_set.made;have O:=F.called_set.sub;refine wpAny_call (codeAny_of_tree ?_);show wpAny _ _ (callAny (.type "set") _) _ _ _;refine wP ⟨Code.quiet_builtin _ (by decide+kernel),Ğ F.entry_type_call ?_⟩;rw[Around.under_plain (weight_type_call_type "set" [.ref l] []) rfl];have h1:=F.called_set.notType;have h2:=F.called_set.canCreate;have ab:=F.typeCall_set_1 (.ref l)
 repeat (any_goals (first |assumption|wp_step))
 refine ĳ (code_set_new_1 (.ref l) (E:=E) (Q₁:=λob M=> ∃d:Bool,ob=.ref ↑1/\M={s with heap:=s.heap.push (gW d)}) λd=>⟨d,rfl,rfl⟩) λr M B=>?_
 cases r with
 |error e=>exact B
 |ok fl=>
  cases fl with
  |ret ob=>
   obtain⟨d,rfl,rfl⟩:=B;have S:(s.heap.push (gW d)).get? ↑1=some (gW d):=ä _ rfl;have hT:Shared.TypeIs {s with heap:=s.heap.push (gW d)} (.ref ↑1) "set":=⟨_,S,rfl⟩
   have ae:=F.called_set.init.lookup;have aa:=F.called_set.init.bind (.ref ↑1)
   repeat (any_goals (first |assumption|wp_step))
   refine ĳ (codeAny_call_builtin (R:=wants (λr L=>r=.none/\ ∃h' tk,L={s with heap:=h',toks:=tk}/\KSet P w h' ↑1 val a.size/\ ∀b o,s.heap.get? b=some o->h'.get? b=some o) E)
    F.called_set.init.plain F.entry_set_init (check_set_init_1 hT ?_)) λr2 L j=>?_
   .have p:(s.heap.push (gW d)).IsTuple l a:=U.push _;obtain⟨⟨oc,od,Y,os⟩,n,G,nl,H⟩:=U;cases G;cases H;have N:(s.heap.push (gW d)).get? l=some {cls:=.type "tuple",dict:=od,data:=.seq a nl,slots:=os}:=hP0 _ n;have X:=PySem.F.sub_tuple_set;have W:=PySem.F.sub_tuple_frozenset;have af:(Value.type "tuple"==Value.type "dict")=false:=by decide
    have lt:l<s.heap.objs.size:=á n;unfold Builtin.«set.__init__» noKeywords Builtin.Frozenset.updateFrom;generalize y:pyIter=PI
    wp_walk
    subst y;refine wpAny_pyIter_tuple p ?_;refine wB (wpAny_runValue ?_);have h3:A.in1.in1.in1.handled=none:=by simp[hh]
    have u:l<(s.heap.push (gW d)).objs.size:=by rw[Ĝ];exact Nat.lt_succ_of_lt lt
    have out:↑1∉[(s.heap.push (gW d)).objs.size,l]:=by
     rw[Ĝ];intro z;rcases mC.mp z with z|z
     .exact absurd z (â (ė _))
     .exact absurd (mS.mp z) (Ė lt)
    refine RO ((Walks.tuple h3 _ l (â u) a).toS) (D:=↑1) (val:=val) out hv Z a.size 0 _ (ĩ _) ⟨⟨_,ä _ rfl,rfl,rfl⟩,p.push _⟩ ?hS0 ?hR
    case hS0=>
     have gg:((s.heap.push (gW d)).push {cls:=.type "tuple_iterator",data:=.fields #[.ref l,.int 0 0]}).get? ↑1=some (gW d):=hP0 _ S;exact zGG gg
    case hR=>
     intro s' m k;obtain⟨h',g',d',C,J⟩:=s';have e1:g'=s.gens:=m.gens;have e2:d'=s.drawn:=m.drawn;have e3:J=s.os:=m.os;subst e1;subst e2;subst e3;show wpAny _ _ _ _ _ _;refine wP ?_;show wpAny _ _ (ret Value.none) _ _ _;refine wP ⟨rfl,h',C,rfl,k,λb o e=>?_⟩;have q:=á e;refine m.heap b o (λz=>?_) (hP0 _ (hP0 _ e));rcases mC.mp z with z|z
     .exact absurd z (â q)
     .rw[Ĝ]at z;exact absurd (mS.mp z) (â (Nat.lt_succ_of_lt q))
   .cases r2 with
    |error e=>exact j
    |ok fl2=>
     cases fl2 with
     |ret r=>
      obtain⟨rfl,h',tk,rfl,k,K⟩:=j
      repeat (any_goals (first |assumption|wp_step))
      exact h _ _ k K
     |_=>exact j.elim
  |_=>exact B.elim
end
def Qb:bootBuiltins "set"=some (.type "set"):=by decide+kernel
section
variable{X:Cx}{o e:Expr}{es:P0}{apos pos:Pos}{to:TE}{t:TA}{T:String}{name:Str}{id:String}{r:V->List V->Hp->VK->Prop}
def FY(X:Cx)(T:String)(b:V->Hp->Prop):Prop:= ∀(pins:M0)(s:Ņ)(σ:St)(H:Hp)(x:V)(v:ņ),Inv X pins σ H s->RelV x v->b x H->s.TypeIs v T/\ ∀a,v=.ref a-> ∃ob,s.heap.get? a=some ob/\ob.dict=none
def Qc{m:V->Hp->Prop}(b:FY X T m)(D:PlainAttrs T)(a:Slot T name id)(d:typeOf (.builtin id)=pure (.type "method_descriptor"))(w:E8 X id r)(C:PE X o to)(u:PA X (e::es) t)
  (hbase:attributeBase o name X.env (eval o X.env)=eval o X.env)
  (hfew:((backTo pos (starEach (e::es) X.env)).all (λx=>!x.1)&&(backToKw pos (keywordEach [] X.env)).all (λx=>x.1.isSome)
   &&decide ↑10)=true)
  (hline:(apos.endLine==pos.line)=true) (hs:starEach (e::es) X.env=(false,eval e X.env)::starEach es X.env) (hplain:(backTo pos (starEach es X.env)).any (·.1)=false):
  PE X (.Call (.Attribute o name apos) (e::es) [] pos) (λσ H Q=>to σ H λx H1=>m x H1/\t σ H1 λvs c=>r x vs c Q):=by
 rw[20];refine wpAny_Call_method_late hbase hfew hline rfl (hZ (C pins s σ H _ I h) λv k ⟨x,H1,I1,j,z,q⟩=>?_);obtain⟨h1,p⟩:=b pins k σ H1 x v I1 j z;refine⟨T,id,D,a,d,h1,p,?_⟩;have i:=u pos pins k σ H1 _ I1 q;rw[hs]at i ⊢;refine Calls.callWith_builtin (by show(false || (backTo pos _).any (·.1))=false;rw[hplain]<;>rfl) (Calls.evalArgs_plain ?_);exact hZ i λus y ⟨vs,c,A,B,n⟩=>w pins y σ c x vs v us Q A j B n
end
def VAt(d:Addr)(us:A0)(ep:Nat)(h:Heap):Prop:= ∃o es,h.get? d=some o/\o.ExactDict/\o.data=.dict es ep/\es.toList.map (·.val)=us
def VAt.at{d:Addr}{us:A0}{ep:Nat}{h h':Heap}(x:VAt d us ep h)(m: ∀o,h.get? d=some o->h'.get? d=some o):VAt d us ep h':=let ⟨o,es,a,r⟩:=x;⟨o,es,m o a,r⟩
theorem VAt.size{d:Addr}{us:A0}{ep:Nat}{h:Heap}(x:VAt d us ep h): ∃o es,h.get? d=some o/\o.ExactDict/\o.data=.dict es ep/\es.size=us.length/\ ∀i (hi:i<es.size),us[i]? =some es[i].val:=by obtain⟨o,es,b,a,c,e⟩:=x;refine⟨o,es,b,a,c,by rw[<-e,lM,ú],λi hi=>?_⟩;rw[<-e,ð,þ,ı hi];rfl
end M
end L2
namespace L2
open PySem PySem.Spec PyProof.Rows
open Builtin Builtin.ObjectAttr
section
variable{h:Heap}{x:Addr}{o:Obj}{v:ņ}{name:Str}
def SetAt(h h':Heap)(x:Addr)(o:Obj)(name:Str)(v:ņ)(dx:Addr):Prop:=
 h.get? dx=none/\dx≠x/\h'.get? x=some {cls:=o.cls,dict:=some dx,data:=o.data,slots:=o.slots}/\h'.Ns1 dx (λy=>if y=name then some v else none)/\ ∀b ob,b≠x->h.get? b=some ob->h'.get? b=some ob
end
noncomputable abbrev BIG:Nat:=10 ^ 100
section
variable{i:Nat}{σ:St}{H:Hp}
def tJ(i:Nat):TE:=λσ H Q=> ∃n,σ[i]? =some (some (.int n))/\n.natAbs<BIG/\ ∀y:Str,Q (.str y) H
end
namespace M
structure XIn(K:Q0)(M C f:Addr):Prop where
 ex: ∃nm q N bs sn sub ab col dd k0 k1 k2 k3 k5,K.lookup C=some (excClassObj nm q C N bs (.ref M::zHN) true sn sub ab col dd k0 k1 k2 k3 k5 "ValueError.__new__")/\PySem.W.nsOkIn K N=true/\PySem.W.nsIn K N "__init__"=some (some (.ref f))/\ ∀n∈qn,PySem.W.nsIn K N n=some none
 fo: ∃o,K.lookup f=some o/\o.cls=.type "function"
def XIn.cl{K:Q0}{M C f:Addr}(x:XIn K M C f):XCl K C (.ref M::zHN) (some (.ref f)):=by obtain⟨p,q,N,bs,k,h,j,e,o,s,i,m,n,r,a,b,c,d⟩:=x.ex;exact⟨p,q,N,bs,true,k,h,j,e,o,s,i,m,n,r,a,b,c,d,rfl⟩
structure DefM(K:Q0)(mg:L0)(x:Str)(st:Stmt):Prop where
 ex: ∃f fd,mg x=some (.ref f)/\Fun K x x st f fd
def def_mk{K:Q0}{mg:L0}{h:Heap}{x:Str}{st:Stmt}{g:Addr}{m i:Option Addr}{sl:Array (Option ņ)}{d kV e j b ct:ņ}(a:PySem.W.nsIn K mainGlobals x=some (some (.ref g)))
  (l:K.lookup g=some ⟨d,m,.func (PySem.W.fnOf x x (kP st) (yZ st) (zK st) .none kV e j i b ct),sl⟩) (c:PySem.W.codeIn K b x=true) (k:PySem.W.keepIn K (.ref g)=true) (X:K.In h) (GG:h.Ns mainGlobals mg):DefM K mg x st:=⟨_,_,PySem.W.mg_of X GG a,uB l c k⟩
structure Cal(P:ň)(w:World)(K:Q0)(mg:L0)(base:Heap)(CX:Ef)(x:Str)(k:Nat)(ps:K0)(sp:Sp):Prop where
 ex: ∃fa fd,FnOk P w K mg base CX k fa fd ps sp/\mg x=some (.ref fa)/\PySem.W.keepIn K (.ref fa)=true/\Binds K fd ps []
abbrev Qd(P:Program)(w:World)(K:Q0)(mg:L0)(base:Heap)(x:Str)(k n:Nat)(ps:K0)(F:↑8):Prop:=Cal P w K mg base BS x k ps (PY ⟨K,mg,P,w⟩ n F)
abbrev zGH(P:Program)(w:World)(K:Q0)(mg:L0)(base:Heap)(x:Str)(k n:Nat)(ps:K0)(F:↑8):Prop:=Cal P w K mg base (CXe P w) x k ps (spX ⟨K,mg,P,w⟩ n F)
section
variable{P:ň}{w:World}{K:Q0}{mg:L0}{base:Heap}{x:Str}{st:Stmt}{ps:K0}{k n:Nat}{F:↑8}
abbrev Qe(x:Str)(st:Stmt)(ps:K0):Prop:= ∀(kV b c:Value)(e:Option Addr)(a d:Value)(us:A0),us.length=ps.length->bindArgs (PySem.W.fnOf x x (kP st) (yZ st) (zK st) .none kV b c e a d) ⟨us,[]⟩=pure (ps.zip us)
def okC(D:DefM K mg x st)(b:Qe x st ps)(h: ∀f fd,Fun K x x st f fd->FnOk P w K mg base BS k f fd ps (PY ⟨K,mg,P,w⟩ n F)):Qd P w K mg base x k n ps F:=
 let ⟨f,fd,m,a⟩:=D.ex;⟨f,fd,h f fd a,m,a.kp,a.binds b⟩
def Cal.noX(G:zGH P w K mg base x k n ps F):Qd P w K mg base x k n ps F:=let ⟨c,fd,G,m,a,b⟩:=G.ex;⟨c,fd,G.noX,m,a,b⟩
def zAR{l:PySem.W.OpenLaw}{a:Addr}{p:Str}(D:DefM K mg x st)(d:mg x=some (.ref a))(i: ∀(kV b o:ņ)(n:Option Addr)(c j:ņ)(s:Ņ)(v:ņ),BindsTo s (PySem.W.fnOf x x (kP st) (yZ st) (zK st) .none kV b o n c j) ⟨[v],[]⟩ [(p,v)])
  (h: ∀base f fd,Fun K x x st f fd->FnOk l.prog w K mg base BS k f fd [p] (PY ⟨K,mg,l.prog,w⟩ 1 F)):
  ∃fd:FuncData,(∀(s:Ņ)(v:ņ),BindsTo s fd ⟨[v],[]⟩ [(p,v)])/\ ∀base:Heap,K.In base->base.Ns mainGlobals mg->FnOk l.prog w K mg base BS k a fd [p] (RJ K F):=by
 obtain⟨f,fd,m,e⟩:=D.ex;rw[d]at m;cases m;refine⟨fd,?_,λbase _ _=>(h base a fd e).imp λvs H Q E=>Pf (g:=⟨K,mg,_,w⟩) vs H Q E⟩;obtain⟨_,_,_,_,_,_,_,_,_,rfl,_,_⟩:=e.ex;exact i _ _ _ _ _ _
end
section
variable{X:Cx}{W:XW}{e:Expr}{es:P0}{af:↑13}{k n:Nat}{ps:K0}{F:↑8}{x:Str}{p pos:Pos}
def Qf(G:Qd X.prog X.w X.K X.mg X.base x k n ps F)(h:Room k X.A)(c:Gl X x)(d:LY X W (e::es) af)(a:↑28=false:=by decide)
  (he:q8 X e es:=by rfl) (hpl:q9 X pos es:=by rfl):zN X W (.Call (.Name x p) (e::es) [] pos) (λρ S=>(af ρ S).bind λrs S1=>zH n F rs S1):=
 let ⟨_,_,G,m,i,b⟩:=G.ex;Vx G h c m i b d a he hpl
end
end M
end L2
namespace L2
open PySem PySem.Spec PyProof.Rows
structure RoomH(k:Nat)(A:Ň):Prop where
 dp:A.depth+3 * k+5<recursionLimit
 un:A.units+16 * k+200<cLine
def RoomH.depth{k:Nat}{A:Ň}(r:RoomH k A):A.depth<recursionLimit:=by have:=r.dp;omega
def RoomH.units{k:Nat}{A:Ň}(r:RoomH k A):A.units+64<cLine:=by have:=r.un;omega
structure FnOkH(P:ň)(w:World)(K:Q0)(mg:L0)(base:Heap)(k:Nat)(f:Addr)(fd:FuncData)(ps:K0)(sp:Sp):Prop where
 len: ∀vs H Q E,sp vs H Q E->vs.length=ps.length
 run: ∀(A:Ň)(outer:List Env)(s:Ņ)(H:Hp)(args:Args)(us:A0)(vs:List V)(Q:VK)(E:XK),RoomH k A->HdA A H->Env0 P w K mg base A outer s H->BindsTo s fd args (ps.zip us)->Vals vs us->sp vs H Q E->
  codeAny (model P w) A (.call (.ref f) args) (CR BS outer P w H s Q E) s
namespace M
section
variable{P:ň}{w:World}{K:Q0}{mg:L0}{base:Heap}{x:Str}{ps:K0}{k n:Nat}{F:↑8}
structure CalH(P:ň)(w:World)(K:Q0)(mg:L0)(base:Heap)(x:Str)(k n:Nat)(ps:K0)(F:List MV->Sto->R Er):Prop where
 ex: ∃fa fd,FnOkH P w K mg base k fa fd ps (PY ⟨K,mg,P,w⟩ n F)/\mg x=some (.ref fa)/\PySem.W.keepIn K (.ref fa)=true/\Binds K fd ps []
end
noncomputable def Xo:List Er->Sto->R Er
 |[.val (.int i),.val (.int j)],S=>.ok (.val (.int (if j<i then j else i))) S
 |_,_=>.no
section
variable{X:Cx}{W:XW}
def zAS:oO X W (λxs H Q=> ∃i j,xs=[.int i,.int j]/\Q (.int (if j<i then j else i)) H) Xo:=by
 intro rs vs α S H Q b d a;unfold Xo at a;split at a
 .obtain⟨v,u,rfl,e,c⟩:=F7 d;cases xP e;cases xP c;exact⟨_,_,rfl,Post.val a b (xZ _)⟩
 .exact a.elim
end
def zAT:bootBuiltins "min"=some (.builtin "min"):=by decide+kernel
noncomputable def zGI(kvs:zA0)(S:Sto):R Er:=.ok (.val (.loc ↑0)) (S++[.dic kvs])
section
variable{X:Cx}{o e:Expr}{es:P0}
noncomputable def cT(a:↑24)(k:Key):Option V:=(a.find? λp=>decide (p.1=k)).map (·.2)
theorem FZ: ∀{d:↑24}{vs:List (Key×ņ)}(r:KV d vs)(k:Key),(∀v,cT d k=some v-> ∃u,valueAt vs k=some u/\RelV v u)/\(cT d k=none->valueAt vs k=none)
 |_,_,.nil,k=>⟨λv h=>(nomatch h),λ_=>rfl⟩
 |(a,x)::d,(b,u)::vs,.cons ⟨h1,h2⟩ l,k=>by
  cases h1;have e:=FZ l k;unfold cT valueAt;by_cases c:a=k
  .simp only[find?_cons,c];exact⟨λv h=>⟨u,rfl,by cases h;exact h2⟩,λh=>nomatch h⟩
  .simp only[find?_cons,c];exact e
theorem tP{α:B9}{H:Hp}: ∀{kvs:zA0}{a:↑24}{k:MV}{k':Key},DenK X.K α H kvs a->KeyD k k'->(∀d,look kvs k=some d-> ∃v,cT a k'=some v/\Den X.K α H d v)/\(look kvs k=none->cT a k'=none)
 |_,_,_,_,.nil,_=>⟨λd h=>(nomatch h),λ_=>rfl⟩
 |_,_,k,k',.cons (k:=k0) (k':=k0') (v:=v0) h1 h2 l,hk=>by
  have b:=tP l hk;rw[CD];unfold cT;by_cases c:k0=k
  .subst c;have:=LC h1 hk;simp only[find?_cons,this];exact⟨λd h=>⟨v0,rfl,by cases h;exact h2⟩,λh=>nomatch h⟩
  .have e: ¬k0'=k':=λz=>c (FX h1 (z▸hk));simp only[find?_cons,e,iN c];exact b
def TyK(X:Cx)(x:V)(H:Hp):Prop:= ∃d a,x=.ref d/\DK X H d a
def UN:FY X "dict" (TyK X):=by intro pins s σ H x v I i ⟨d,k,e,h⟩;subst e;cases i;obtain⟨_,hs,vs,j,o,es,ep,c,b,_⟩:=oU I h;exact⟨⟨o,c,b.1⟩,λa e=>by cases e;exact⟨o,c,b.2.1⟩⟩
end
section
variable{α β:Type}
def vJ(i:Nat)(ρ:Rho)(S:Sto):R Er:=Vd (ρ[i]?) S
def kJ(d:MV)(_:Rho)(S:Sto):R Er:=.ok (.val d) S
noncomputable def bJ(f:Rho->Sto->R α)(F:α->Sto->R β)(ρ:Rho)(S:Sto):R β:=(f ρ S).bind F
noncomputable def dJ(F:Er->Er->Sto->R Er)(f g:AX)(ρ:Rho)(S:Sto):R Er:=(f ρ S).bind λp S=>(g ρ S).bind λq S=>F p q S
def nJ(f:AX)(ρ:Rho)(S:Sto):R Er:=(f ρ S).bind λp S=>(hX p S).bind λk S=>.ok (.val (.bl !k)) S
def aJ(f g:AX)(ρ:Rho)(S:Sto):R Er:=(f ρ S).bind λp S=>Bi p S λS=>g ρ S
def oJ(f g:AX)(ρ:Rho)(S:Sto):R Er:=(f ρ S).bind λp S=>orF p S λS=>g ρ S
noncomputable def iJ(c:AZ)(f g:Rho->Sto->R α)(ρ:Rho)(S:Sto):R α:=(c ρ S).bind λk S=>if k=true then f ρ S else g ρ S
def mJ(_:Rho)(S:Sto):R (Option Int):=.ok none S
noncomputable def tJ(F:Er->Option Int->Option Int->Sto->R Er)(f:AX)(g h:Rho->Sto->R (Option Int))(ρ:Rho)(S:Sto):R Er:=(f ρ S).bind λp S=>(g ρ S).bind λl S=>(h ρ S).bind λu S=>F p l u S
def lJ(k:zA0)(_:Rho)(S:Sto):R Er:=zGI k S
def zJ(_:Rho)(S:Sto):R Er:=F9 S
def fJ(n:Nat)(F:↑8)(a:↑13)(ρ:Rho)(S:Sto):R Er:=(a ρ S).bind λr S=>zH n F r S
def xJ(n:Nat)(F:↑8)(a:↑13)(ρ:Rho)(S:Sto):R Er:=(a ρ S).bind λr S=>Fj n F r S
def hJ(F:↑8)(_:Rho)(S:Sto):R Er:=zH 0 F [] S
noncomputable def eJ(t:Er->Sto->Bool)(F:Er->List Er->Sto->R Er)(f:AX)(a:↑13)(ρ:Rho)(S:Sto):R Er:=(f ρ S).bind λp S=>if t p S=true then(a ρ S).bind λr S=>F p r S else .no
noncomputable def gJ(t:Er->Sto->Bool)(F:Er->List Er->Sto->R Er)(f:AX)(ρ:Rho)(S:Sto):R Er:=(f ρ S).bind λp S=>if t p S=true then F p [] S else .no
def uJ(_:Rho)(S:Sto):R Bool:=.ok true S
def pJ(i:Rho->Sto->R Wk)(g:↑17)(c:AZ)(e:AX)(n:Nat)(I:Db)(ρ:Rho)(S:Sto):R Er:=(i ρ S).bind λk S=>if k.ds.length<1000000 then(zV g c e (AB n I ρ) k.gs k.ds S).bind λo S=>.ok (.new o) S else .no
def jJ(F G:Er->Er->Sto->R Er)(f g h:AX)(ρ:Rho)(S:Sto):R Er:=(f ρ S).bind λp S=>(g ρ S).bind λq S=>chF F G p q S λS=>h ρ S
noncomputable def qJ(f:AZ)(ρ:Rho)(S:Sto):R Bool:=(f ρ S).bind λk S=>.ok (!k) S
noncomputable def rJ(f g:AZ)(ρ:Rho)(S:Sto):R Bool:=(f ρ S).bind λk S=>if k=true then g ρ S else .ok false S
noncomputable def sJ(f g:AZ)(ρ:Rho)(S:Sto):R Bool:=(f ρ S).bind λk S=>if k=true then .ok true S else g ρ S
def wJ(_:Rho)(S:Sto):R (List Er):=.ok [] S
noncomputable def yJ(f:AX)(g:↑13)(ρ:Rho)(S:Sto):R (List Er):=(f ρ S).bind λp S=>(g ρ S).bind λl S=>.ok (p::l) S
def AJ(f:AX)(ρ:Rho)(S:Sto):R Fl:=(f ρ S).bind λr S=>.ok (.ret r) S
noncomputable def BJ(f:AX)(ρ:Rho)(S:Sto):R Fl:=(f ρ S).bind λ_ S=>.ok (.next ρ) S
def CJ(f:AX)(i:Nat)(ρ:Rho)(S:Sto):R Fl:=(f ρ S).bind (MB ρ i)
noncomputable def DJ(F:Er->Er->MV->Rho->Sto->R Rho)(f g:AX)(d:MV)(ρ:Rho)(S:Sto):R Rho:=(f ρ S).bind λp S=>(g ρ S).bind λq S=>F p q d ρ S
def EJ(f:AX)(g:↑17)(ρ:Rho)(S:Sto):R Fl:=(f ρ S).bind (XN g ρ)
def FJ(i:Rho->Sto->R Wk)(g:↑17)(b:AY)(ρ:Rho)(S:Sto):R Fl:=(i ρ S).bind λk S=>cF g b k.gs k.ds ρ S
noncomputable def GJ(a:↑13)(c:Str)(ρ:Rho)(S:Sto):R Fl:=(a ρ S).bind λr S=>if r.length<=10 then .exc c [] S else .no
def HJ(cs:K0)(i:Nat)(h:AY)(n:Nat)(F:↑8)(a:↑13)(ρ:Rho)(S:Sto):R Fl:=(noX (a ρ S)).bind λr S=>zAL cs i (λ_ S=>.ok (.next ρ) S) h ρ (Fj n F r S)
def IJ(cs:K0)(i j:Nat)(h:AY)(n:Nat)(F:↑8)(a:↑13)(ρ:Rho)(S:Sto):R Fl:=(noX (a ρ S)).bind λr S=>zAL cs i (MB ρ j) h ρ (Fj n F r S)
def JJ(ρ:Rho)(S:Sto):R Fl:=.ok (.next ρ) S
end
section
variable{X:Cx}{W:XW}{a e:Expr}{p:Pos}{f:AX}
def augF(F:Er->Er->Sto->R Er)(i:Nat)(f:AX)(ρ:Rho)(S:Sto):R Fl:=(Vd (ρ[i]?) S).bind λp S1=>(f ρ S1).bind λq S2=>(F p q S2).bind (MB ρ i)
noncomputable def intsOf:List MV->Option (List Int)
 |[]=>some []
 |.int i::ds=>(intsOf ds).map (i::·)
 |_::_=>none
theorem ints_of{K:Q0}{α:B9}{H:Hp}: ∀{ds:U0}{c:Za}{vs:List V}{us:A0},intsOf ds=some c->DenL K α H ds vs->Vals vs us->IntsAre us c
 |[],c,vs,us,e,d,r=>by cases e;rw[d.isnil]at r;cases r;exact .nil
 |x::ds,c,vs,us,e,d,r=>by
  obtain⟨v,j,rfl,i,h⟩:=d.uncons
  cases r with
  |cons a b=>
   cases x<;>first |(cases e)|skip
   unfold intsOf at e
   cases z:intsOf ds with
   |none=>rw[z]at e;cases e
   |some ms=>
    rw[z]at e;cases e;cases xB i;obtain⟨t,rfl⟩:=a;exact .cons _ _ (ints_of z h b)
theorem pT: ∀{us:A0}{a:Za},IntsAre us a->Vals (a.map V.int) us
 |_,_,.nil=>.nil
 |_,_,.cons n t h=>.cons ⟨t,rfl⟩ (pT h)
theorem Ka:CallR X (.builtin "sorted") (λxs H Q=> ∃l vs ds c α,xs=[.ref l]/\SqL X.K H l vs/\intsOf ds=some c/\DenL X.K α H ds vs/\↑23<64/\ ∀p,H p=none->Q (.ref p) (xY H p (.lst ((PySem.W.sortI c).map V.int)))):=by
 rw[21];obtain⟨l,vs,ds,c,α,rfl,C,hi,d,D,q⟩:=h;obtain⟨u,rfl,z⟩:=vals1 r;cases z;obtain⟨its,j,p,_⟩:=I.list C;have m:=ints_of hi d j;have a:its.length<64:=by have:=j.length;have:=d.length;lia
 refine sorted_ints p.isList m a λout v i k A=>?_;obtain⟨e,n⟩:=sortedAll_at s.heap its out;have y:=PySem.W.eq_sortI k A;subst y;refine⟨.ref _,_,I.laid (λb o e=>sortedAll_old e) (le_succ _) (show ObjOk X.prog X.w _ _ _ (.lst _)from⟨?_,_,e,pT i,?_⟩),rfl,q _ (I.hok.fresh (le_succ _))⟩
 .have e1:=(pT i).length;have e2:=k.length_eq;have B:=(pT m).length;have:=Ċ;rw[lM]at e1 B ⊢
  lia
 .rw[Array.toArray_toList];exact n
def EE:bootBuiltins "sorted"=some (.builtin "sorted"):=by decide+kernel
def YH(rs:List Er)(S:Sto):R Er:=match rs with
 |[p]=>match kS S p with
  |some ds=>if ds.length<64 then(match intsOf ds with |some ns=>.ok (.new ((PySem.W.sortI ns).map MV.int)) S|none=>.no)else .no
  |none=>.no
 |_=>.no
def Xp:oO X W (λxs H Q=> ∃l vs ds b α,xs=[.ref l]/\SqL X.K H l vs/\intsOf ds=some b/\DenL X.K α H ds vs/\↑23<64/\ ∀p,H p=none->Q (.ref p) (xY H p (.lst ((PySem.W.sortI b).map V.int)))) YH:=by
 intro rs vs α S H Q c d a;unfold YH at a;split at a
 .split at a
  .rename_i ds e;split at a
   .rename_i k;split at a
    .rename_i b hi;obtain⟨v,rfl,j⟩:=pY d;obtain⟨l,us,rfl,h1,h⟩:=tN rfl c e j;exact⟨l,us,ds,b,α,rfl,h1,hi,h,k,λp i=>Post.newl a c i (tK _)⟩
    .exact a.elim
   .exact a.elim
  .exact a.elim
 .exact a.elim
end
def KJ(n:Nat)(F:↑8)(a:↑13)(ρ:Rho)(S:Sto):R Er:=(noX (a ρ S)).bind λr S=>Fj n F r S
def LJ(c:AZ)(f g:AX)(ρ:Rho)(S:Sto):R Er:=(noX (c ρ S)).bind λk S=>if k=true then f ρ S else g ρ S
def MJ(cs:K0)(i:Nat)(h:AY)(f:AX)(ρ:Rho)(S:Sto):R Fl:=zAL cs i (λ_ S=>.ok (.next ρ) S) h ρ (f ρ S)
section
variable{X:Cx}{a:Expr}{ta:TA}{pos2 p3:Pos}
def Qg(r:Addr)(j:Int):HO:=.ext λh=> ∃t u v,IsRange h r 0 j 1 t u v
def zAU(m:Gl X "range")(p:X.mg "range"=none)(n:PA X [a] ta)(hs:starEach [a] X.env=[(false,eval a X.env)]:=by rfl):
  PE X (.Call (.Name "range" p3) [a] [] pos2) (λσ H Q=>ta σ H λvs H1=> ∃j:Int,vs=[.int j]/\ ∀r,H1 r=none->Q (.ref r) (xY H1 r (Qg r j))):=by
 rw[20];refine Call_ (DX I m p boot_range (ĝ (hZ (n pos2 pins s σ H _ I h) λus d ⟨vs,H1,I1,w,k⟩=>?_) hs rfl));obtain⟨j,rfl,q⟩:=k;obtain⟨u,rfl,t,rfl⟩:=vals1 w;refine call_range_1 ?_;have c:=I1.hok.fresh (à _);refine⟨.ref d.heap.objs.size,_,I1.laid (o:=Qg d.heap.objs.size j) (λb o e=>hP0 _ e) (à _) ⟨⟨_,_,_,IsRange.new ..⟩,⟨_,ä _ rfl⟩,?_⟩,rfl,q _ c⟩;rintro h1 z ⟨t,u,v,y⟩ i;exact⟨t,u,v,i _ y⟩
def QG{prog:ň}{w:World}{A:Ň}{E:VP}{s:Ņ}{Q:List ņ->Ņ->Prop}{r:Addr}{a b c:Int}{t u v:Tok}{n:Nat}(I:A.handled=none)(C:IsRange s.heap r a b c t u v)(k:Builtin.Range.small a b c=true)
  (hn:Builtin.Range.rangeSize a b c=n) (hlen:n<=2 ^ 24) (hQ: ∀h' tk d,↑22->ItemsOf (λi v=> ∃t,v=.int (a+i * c) t) d n->Q d.toList {s with heap:=h',toks:=tk}):
  wpAny ↑9 A (collect (.ref r)) Q E s:=by
 unfold collect;refine wB (wpAny_runValue (Ğ F.entry_proto_collect ?_));rw[Ē F.plain_proto_collect _];show wpAny _ A.in1 _ _ _ s;refine wB (Č ?_);refine wP ⟨plainId_quiet F.plain_list_iadd _,Ğ F.entry_list_iadd ?_⟩;rw[Ē F.plain_list_iadd _];show wpAny _ A.in1 _ _ _ _;have K:(s.heap.push {cls:=.type "list",data:=.seq ([]:A0).toArray}).get? ↑1=some {cls:=.type "list",data:=.seq #[] 0}:=ä _ rfl
 have m: ∀h' tk d j,(∀b o,b≠↑1->(s.heap.push {cls:=.type "list",data:=.seq ([]:A0).toArray}).get? b=some o->h'.get? b=some o)->h'.get? ↑1=some {cls:=.type "list",dict:=none,data:=.seq d j,slots:=#[]}->ItemsOf (λi v=> ∃t,v=.int (a+i * c) t) d n->
   wpAny (model prog w) A (match Value.ref s.heap.objs.size with
   |Value.ref a=>do
    match (<-load a).data with
     |Data.seq xs _=>pure xs.toList
     |_=>unsupported "internal:collect"
   |_=>unsupported "internal:collect") Q E {s with heap:=h',toks:=tk}:=by
  intro h' tk d j J B z;show wpAny _ A _ _ _ _;refine wB (wpAny_load B ?_);refine wP ?_;exact hQ h' tk d (λb o e=>J b o (â (á e)) (hP0 _ e)) z
 refine ă (wpAny_extend_range (R:=λG s'=>G=.ok _/\ ∃h' tk d j,s'={s with heap:=h',toks:=tk}/\(∀b o,b≠↑1->(s.heap.push {cls:=.type "list",data:=.seq ([]:A0).toArray}).get? b=some o->h'.get? b=some o)/\h'.get? ↑1=some {cls:=.type "list",dict:=none,data:=.seq d j,slots:=#[]}/\ItemsOf (λi v=> ∃t,v=.int (a+i * c) t) d n)
  I (hP0 _ C) k hn hlen ↑1 (.ref ↑1) 0 K λh' tk d j p y q=>⟨rfl,h',tk,d,j,rfl,p,y,q⟩) (λD s' h=>?_) (λe s' h=>?_)
 .cases D with
  |done f=>
   obtain⟨e,h',tk,d,j,rfl,p,y,q⟩:=h;cases e;exact m h' tk d j p y q
  |again j=>exact⟨h.1,ĳ h.2 λr H C=>by obtain⟨rfl,h',tk,d,j,rfl,p,y,q⟩:=C;exact m h' tk d j p y q⟩
 .exact absurd h.1 (by simp)
end
section
variable{prog:ň}{w:World}{A:Ň}{E:VP}{s:Ņ}{r:Addr}{a b c:Int}{t u v:Tok}{n:Nat}
def YI{Q₁:VP}(D:A.handled=none)(B:IsRange s.heap r a b c t u v)(j:Builtin.Range.small a b c=true)(H:Builtin.Range.rangeSize a b c=n)(p:n<=2 ^ 24)
  (h: ∀(h':Heap)(tk:Nat)(m:B0),↑22->ItemsOf (λi v=> ∃t,v=.int (a+i * c) t) m n->Q₁ (.ref h'.objs.size) {s with heap:=h'.push {cls:=.type "tuple",data:=.seq m},toks:=tk}):
  codeAny ↑9 A (.call (.builtin "tuple.__new__") ⟨[.type "tuple",.ref r],[]⟩) (wants Q₁ E) s:=by
 refine codeAny_of_tree ?_;show wpAny _ A.in1 _ _ _ s;refine wB (wpAny_of_eq (F.newCall_tuple_1 _) (wP ⟨plainId_quiet F.plain_tuple_new _,Ğ F.entry_tuple_new ?_⟩));rw[Ē F.plain_tuple_new _];have z:=sub_tuple_self;have y:=init_tuple_lookup;have C:=madeHere_tuple;have q:s.TypeIs (.ref r) "range":=⟨_,B,rfl⟩
 wp_walk using Ĵ q,QG (A:=A.in1) D B j H p
 intro h' tk d G k;show wpAny _ _ (Builtin.Tuple.tupleExact d.toList.toArray >>= λv=>ret v) _ _ _;unfold Builtin.Tuple.tupleExact;refine wB (Č ?_ (by show d.toList.toArray.size<=sizeLine;simp only[Array.toArray_toList];rw[k.1,Ċ];omega));refine wP ?_;have e:d.toList.toArray=d:=by simp
 rw[e];exact h h' tk d G k
def IE{Q:VP}(y:A.handled=none)(C:IsRange s.heap r a b c t u v)(h:Builtin.Range.small a b c=true)(B:Builtin.Range.rangeSize a b c=n)(m:n<=2 ^ 24)
  (hQ: ∀(h':Heap)(tk:Nat)(k:B0),↑22->ItemsOf (λi v=> ∃t,v=.int (a+i * c) t) k n->Q (.ref h'.objs.size) {s with heap:=h'.push {cls:=.type "tuple",data:=.seq k},toks:=tk}):
  wpAny ↑9 A (call (.type "tuple") [.ref r]) Q E s:=by
 refine callType_codes (Q₁:=λj d=>d.TypeIs j "tuple"/\Q j d) F.called_tuple (F.typeCall_tuple_1 _) F.entry_object_init
  (YI y C h B m λh' tk q z p=>⟨⟨_,ä _ rfl,rfl⟩,hQ h' tk q z p⟩) λj d e=>?_
 exact⟨e.1,F.args_object_init_2 j _,object_init_meets F.called_tuple.init.lookup F.called_tuple.made ↑7 prog w A.in1 _ d ⟨e.1,rfl,e.2⟩⟩
end
section
variable{X:Cx}{W:XW}{a:Expr}{af:↑13}{pos pos2 p2 p3:Pos}
noncomputable abbrev Xq(j:Int):List Int:=(List.range j.toNat).map Int.ofNat
theorem Cd{a:B0}{j:Int}(h:ItemsOf (λi v=> ∃t,v=Value.int (0+i * 1) t) a j.toNat):Vals ((Xq j).map V.int) a.toList:=by
 obtain⟨h1,m⟩:=h;refine ?_
 have c: ∀(l:A0)(k:Nat),(∀i v,l[i]? =some v-> ∃t,v=Value.int ((k+i:Nat):Int) t)->Vals (((List.range' k l.length).map Int.ofNat).map V.int) l:=by
  intro l
  induction l with
  |nil=>intro k _;exact .nil
  |cons x l ih=>
   intro k d;obtain⟨t,rfl⟩:=d 0 x rfl;refine .cons ⟨t,rfl⟩ (ih _ λi v b=>?_);obtain⟨t',e⟩:=d (i+1) v b;exact⟨t',by rw[e,show k+_=k+1+i by lia]⟩
 have:=c a.toList 0 λi v b=>by
  obtain⟨t,e⟩:=m i v (by rw[<-þ];exact b);refine⟨t,e.trans ?_⟩;congr 1
  lia
 rw[ú,h1, <-List.range_eq_range']at this;exact this
def Qh{j:Int}:Builtin.Range.rangeSize 0 j 1=j.toNat:=by rw[rangeSize_one];split<;>omega
theorem Kb:CallR X (.type "tuple") (λxs H Q=> ∃r j,xs=[.ref r]/\H r=some (Qg r j)/\ -1000000<=j/\j<=1000000/\X.calm=true/\ ∀p,H p=none->Q (.ref p) (xY H p (.tup ((Xq j).map V.int)))):=by
 rw[21];obtain⟨d,j,rfl,m,z,A,n,q⟩:=h;obtain⟨_,rfl,k⟩:=vals1 r;cases k;obtain⟨⟨t,u,v,y⟩,_⟩:=(I.hok d _ m)
 refine IE (I.ok.hd n) y (small_one ↑7 ↑7 #[0] #[0]) Qh #[0] λh' tk a i c=>?_;have I1:Inv X pins σ H {s with heap:=h',toks:=tk}:=I.kept i
 have w:Inv X pins σ (xY H h'.objs.size (.tup _)) {s with heap:=h'.push {cls:=.type "tuple",data:=.seq a},toks:=tk}:=
  I1.laid (λb o e=>hP0 _ e) (à _) (⟨?_,_,Cd c,?_⟩)
 .exact⟨.ref h'.objs.size,_,w,rfl,q _ (I1.hok.fresh (à _))⟩
 .rw[lM,lM,è,Ċ]
  lia
 .have:=IsTup.new h' a;simpa using this
def YJ(rs:List Er)(S:Sto):R Er:=match rs with
 |[.val (.int j)]=>if -1000000<=j/\j<=1000000 then .ok (.val (.tup ((Xq j).map MV.int))) S else .no
 |_=>.no
def Xr(w:X.calm=true)(A:Gl X "tuple")(C:X.mg "tuple"=none)(d:Gl X "range")(e:X.mg "range"=none)(c:LY X W [a] af)(hs:starEach [a] X.env=[(false,eval a X.env)]:=by rfl)
  (he1:starEach [.Call (.Name "range" p3) [a] [] pos2] X.env=(false,eval (.Call (.Name "range" p3) [a] [] pos2) X.env)::starEach [] X.env:=by rfl) (hpl1:(backTo pos (starEach [] X.env)).any (·.1)=false:=by rfl):
  zN X W (.Call (.Name "tuple" p2) [.Call (.Name "range" p3) [a] [] pos2] [] pos) (λρ S=>(af ρ S).bind YJ):=by
 obtain⟨t,c,k⟩:=c;refine⟨_,BR Kb A C FQ (KW (zAU d e c hs) TC he1) ↑7 ↑7 he1 hpl1,λα ρ S σ H Q y sl q=>k α ρ S σ H _ y sl (q.bind λvs rs S1 z H1 e1 s i n b=>?_)⟩
 replace b:=b.shift s
 unfold YJ at b;split at b
 .split at b
  .rename_i j m;obtain⟨u,rfl,D⟩:=MD n;cases xP D;refine⟨j,rfl,λv h=>?_⟩;have E:=i.newx (o:=Qg v j) h;have r:=i.new (o:=Qg v j) h;exact⟨v,j,rfl,zX,m.1,m.2,w,λp B=>(b.shift E).newt r B (tK _)⟩
  .exact b.elim
 .exact b.elim
end
end M
end L2
namespace L2
open PySem PySem.Spec PyProof.Rows
section
variable{X:Cx}{pins:M0}{σ:St}{H:Hp}{s:Ņ}{a C dx:Addr}{fs:List (Str×V)}{f:Str}{v:V}{A:Ň}{E:VP}{o:Obj}
def Fs(I:↑2)(e:H a=some (.frz o (.ins C dx fs))): ∃mA,ObjM s.heap a dx C mA/\ ∀f,RelO (fs.lookup f) (mA f):=by
 obtain⟨_,d,z,ne,ob,mA,n,r,q⟩:=(I.hok a _ e)
 exact⟨mA,⟨ob,n,ne⟩,r⟩
def YK{b:Bool}{Q:VP}(I:↑2)(e:H a=some (.frz o (.ins C dx fs)))(c:Cls X.K C)(n:NoAttr X.K C f)(l:fs.lookup f=some v)
  (h: ∀u s',Inv X pins σ H s'->RelV v u->Q u s'):wpAny ↑6 A (getAttr (.ref a) f b) Q E s:=by
 obtain⟨mA,O,r⟩:=Fs I e;obtain⟨u,i,d⟩:=RelO.some_of (by rw[<-l];exact r f);exact Ug I.kIn O (c.get f) c.hd n i (Iu d) (h u _ (I.tok _) d)
def YL{m:Str}{g:Addr}{b:Sem Bool}{Q:ņ×List ņ->Ņ->Prop}(I:↑2)(e:H a=some (.frz o (.ins C dx fs)))(c:Cls X.K C)(k:Meth X.K C m g)(l:fs.lookup m=none)
  (h:Q (.ref g,[.ref a]) s):wpAny ↑6 A (getMethod (.ref a) m b) Q E s:=by
 obtain⟨mA,O,r⟩:=Fs I e;have d:=RelO.none_of (by rw[<-l];exact r m);exact Mx I.kIn O (c.get m) k.at_ k.fn d h
def Inv.freeze(I:↑2)(e:H a=some (.ins C dx fs)):Inv X pins σ (xY H a (.frz (PySem.W.instObj C dx) (.ins C dx fs))) s:=by
 obtain⟨d,z,ne,ob,mA,n,r,q⟩:=(I.hok a _ e)
 exact I.write (by rw[e];exact True.intro) (.inl rfl) (λ_ _ _ q=>q) ⟨_,ob⟩ ⟨ob,by rw[zL ne];exact d,z,ne,ob,mA,n,r,q⟩
end
namespace M
structure OC(K:Q0)(c:Str)(C:Addr):Prop where
 ns:PySem.W.nsIn K mainGlobals c=some (some (.ref C))
 nm:(PySem.W.clsIn K C).map (·.name)=some c
 cl:Cls K C
theorem OC.eq{K:Q0}{c:Str}{C a:Addr}(o:OC K c C)(h:PySem.W.nsIn K mainGlobals c=some (some (.ref a))):a=C:=by have:=o.ns;rw[h]at this;cases this;rfl
section
variable{X:Cx}{W:XW}{a e:Expr}{es:P0}{f g:AX}{af:↑13}{pos apos p:Pos}{fld m:Str}
noncomputable def rH(cs:K0)(fld:Str):Er->Sto->R Er
 |.val (.obj c ns ds),S=>if c∈cs then(match (ns.zip ds).lookup fld with |some d=>.ok (.val d) S|none=>.no)else .no
 |_,_=>.no
theorem MW{K:Q0}{α:B9}{H:Hp}{fld:Str}{d:MV}: ∀{b:K0}{ds:U0}{vs:List V},DenL K α H ds vs->(b.zip ds).lookup fld=some d-> ∃v,(b.zip vs).lookup fld=some v/\Den K α H d v
 |[],_,_,_,h=>by simp at h
 |n::b,[],_,_,h=>by simp at h
 |n::b,x::ds,vs,l,h=>by
  obtain⟨v,r,rfl,a,c⟩:=l.uncons;rw[ě,Ě]at h;rw[ě];by_cases e:fld==n
  .rw[e]at h;cases h;exact⟨v,by rw[Ě,e],a⟩
  .have e:(fld==n)=false:=by simpa using e
   rw[e]at h;obtain⟨w,h1,i⟩:=MW c h;exact⟨w,by rw[Ě,e];exact h1,i⟩
def Xs{cs:K0}(T: ∀c∈cs, ∃C,OC X.K c C/\NoAttr X.K C fld)(i:zN X W e f)(z:attributeBase e fld X.env (eval e X.env)=eval e X.env:=by rfl):zN X W (.Attribute e fld pos) (λρ S=>(f ρ S).bind (rH cs fld)):=by
 obtain⟨t,i,k⟩:=i;refine⟨λσ H Q=>t σ H λx H1=> ∃a o C dx fs v,x=.ref a/\H1 a=some (.frz o (.ins C dx fs))/\Cls X.K C/\NoAttr X.K C fld/\fs.lookup fld=some v/\Q v H1,λpins s σ H Q I h=>?_,λα ρ S σ H Q G sl q=>k α ρ S σ H _ G sl (q.bind λu r S1 J H1 e1 E O p b=>?_)⟩
 .refine Uj z (hZ (i pins s σ H _ I h) λu Y ⟨x,H1,I1,D,a,o,C,dx,fs,v,ex,A,c,n,l,q⟩=>?_);subst ex;obtain rfl:u=Value.ref a:=D;exact YK I1 A c n l λu' U M P=>⟨v,H1,M,P,q⟩
 .replace b:=b.shift E
  unfold rH at b;split at b
  .rename_i c ns ds;split at b
   .rename_i F;split at b
    .rename_i d w;obtain⟨a,C,dx,vs,o,rfl,h1,m,Z,h4,L⟩:=Nv p.1;obtain⟨C',j,B⟩:=T c F;cases j.eq m;obtain⟨v,y,N⟩:=MW L w;exact⟨a,o,C,dx,_,v,rfl,h1,j.cl,B,y,Post.val b O N⟩
    .exact b.elim
   .exact b.elim
  .exact b.elim
def zGJ(K:Q0)(fld:Str):Sp:=λvs H Q _=> ∃x C dx fs v,vs=[.ref x,v]/\H x=some (.ins C dx fs)/\Cls K C/\NoAttr K C fld/\fs.length<1000/\Q .non (xY H x (.ins C dx (CZ fld v fs)))
noncomputable def Kc(c fld:Str):Er->Sto->R Er
 |.val d,S=>.ok (.val (.obj c [fld] [d])) S
 |_,_=>.no
def Xt{C M:Addr}{fd:FuncData}{b x:Str}{k:Nat}(z:OC X.K x C)(T:NoAttr X.K C fld)(m:Mk X.K C M)(F:FnOk X.prog X.w X.K X.mg X.base BS k M fd ["self",b] (zGJ X.K fld))(O:Binds X.K fd ["self",b] [])(U:Room (k+1) X.A)(hg:Gl X x)(hm:X.mg x=some (.ref C))(j:zN X W e f)(B:↑28=false:=by decide)
  (hs:starEach [e] X.env=(false,eval e X.env)::starEach [] X.env:=by rfl) (hpl:(backTo pos (starEach [] X.env)).any (·.1)=false:=by rfl):zN X W (.Call (.Name x p) [e] [] pos) (λρ S=>(f ρ S).bind (Kc x fld)):=by
 obtain⟨t,j,kk⟩:=j;refine⟨λσ H Q=>E7 C (zGJ X.K fld) [] E0 (E6 t zEN) σ H λy n=> ∃x dx v,y=.ref x/\n x=some (.ins C dx [(fld,v)])/\Q (.ref x) (xY n x (.frz (PySem.W.instObj C dx) (.ins C dx [(fld,v)]))),λpins s σ H Q I h=>?_,λα ρ S σ H Q Z sl q=>kk α ρ S σ H _ Z sl (q.bind λu r S1 aa H1 e1 Y L N a=>?_)⟩
 .refine hZ (Ul m F U hg hm O .nil Nl (KW j TC hs) B hs hpl pins s σ H _ I h) λu s' ⟨y,n,I2,ry,x,dx,v,ex,e,q⟩=>?_;subst ex;exact⟨_,_,I2.freeze e,ry,q⟩
 .replace a:=a.shift Y
  unfold Kc at a;split at a
  .rename_i d;intro y dx hy i D;refine⟨y,C,dx,[],u,rfl,zX,z.cl,T,by decide,rfl,y,dx,u,rfl,zX,?_⟩;rw[Eb,Eb];have G:=L.newx (o:=.own y) i;have E:=L.new (o:=.own y) i;have c:(xY H1 dx (.own y)) y=none:=by rw[zL (Ne.symm D)];exact hy
   have J:=E.newx (o:=.frz (PySem.W.instObj C dx) (.ins C dx [(fld,u)])) c;have P:=E.new (o:=.frz (PySem.W.instObj C dx) (.ins C dx [(fld,u)])) c;exact Post.val (a.shift (G.trans J)) P (En zX z.ns z.nm rfl (yH ((N.1.ext G).ext J) yL))
  .exact a.elim
def UO(m:Str)(l:List (Str×↑8)):Er->Option ↑8
 |.val (.obj c ns _)=>if m∈ns then none else l.lookup c
 |_=>none
noncomputable def NJ(m:Str)(n:Nat)(l:List (Str×(List MV->Sto->R Er)))(f:AX)(af:Rho->Sto->R (List Er))(ρ:Rho)(S:Sto):R Er:=(f ρ S).bind λp S=>match UO m l p with
 |some F=>(af ρ S).bind λr S=>zH n F (p::r) S
 |none=>.no
theorem lookup_mem{β:Type}{c:Str}{b:β}: ∀{l:List (Str×β)},l.lookup c=some b->(c,b)∈l
 |[],h=>by simp at h
 |(d,x)::l,h=>by
  rw[Ě]at h;by_cases e:c==d
  .rw[e]at h;cases h;have:=by simpa using e
   rw[this];exact mF0
  .have e:(c==d)=false:=by simpa using e
   rw[e]at h;exact mO _ (lookup_mem h)
theorem MX{β:Type}{m:Str}: ∀{a:K0}{vs:List β},m∉a->(a.zip vs).lookup m=none
 |[],_,_=>by simp
 |n::a,[],_=>by simp
 |n::a,v::vs,h=>by
  rw[ě,Ě];have e:(m==n)=false:=by have:m≠n:=λz=>h (by rw[z];exact mF0);simpa using this
  rw[e];exact MX λz=>h (mO _ z)
def MtOk(X:Cx)(m:Str)(k n:Nat)(c:Str)(F:↑8):Prop:= ∃C a fd ps,OC X.K c C/\Meth X.K C m a/\FnOk X.prog X.w X.K X.mg X.base BS k a fd ps (PY X.g n F)/\Binds X.K fd ps []
def GA{o:Expr}{pl:Sem Bool}{k n:Nat}{l:List (Str×↑8)}(T: ∀q∈l,MtOk X m k n q.1 q.2)(Z:Room k X.A)(G:zN X W o f)(y:LY X W (e::es) af)
  (hst:q8 X e es:=by rfl) (hpl:q9 X pos es:=by rfl)
  (ht:eval (.Call (.Attribute o m apos) (e::es) [] pos) X.env=(do
   let P <-eval o X.env
   standAt apos.atName
   let (f,first) <-holding [P] (getMethod P m pl)
   callWith pos f first (backTo pos (starEach (e::es) X.env)) (backToKw pos (keywordEach [] X.env))):=by rfl):
  zN X W (.Call (.Attribute o m apos) (e::es) [] pos) (NJ m n l f af):=by
 obtain⟨to,G,ko⟩:=G;obtain⟨ta,y,ka⟩:=y;refine⟨λσ H Q=>to σ H λx H1=> ∃a ob C dx fs g fd ps sp,x=.ref a/\H1 a=some (.frz ob (.ins C dx fs))/\Cls X.K C/\Meth X.K C m g/\fs.lookup m=none/\FnOk X.prog X.w X.K X.mg X.base BS k g fd ps sp/\Binds X.K fd ps []/\ta σ H1 λvs D=>sp (x::vs) D Q E0,λpins s σ H Q I h=>?_,λα ρ S σ H Q wd sl q=>ko α ρ S σ H _ wd sl (Post.bind q λu r S1 E H1 e1 M w1 J i=>?_)⟩
 .refine PySem.W.methodCall_KW (hZ (G pins s σ H _ I h) λu s1 ⟨x,H1,I1,rx,a,ob,C,dx,fs,g,fd,ps,sp,ex,Y,c,p,l,F,B,q⟩=>?_) ht;subst ex;obtain rfl:u=Value.ref a:=rx;refine YL I1 Y c p l ?_;refine PySem.W.callWith_K I.ok.mod.kin p.kp (hZ (y pos pins s1 σ H1 _ I1 q) λus s2 ⟨vs,D,O,r,v⟩=>⟨O.kIn,?_⟩) hst hpl;exact Na (vs:=.ref a::vs) F Z B .nil Nl O (.cons rfl r) (by rw[aN];exact v)
 .unfold UO at i
  cases r with
  |new ds=>exact i.elim
  |val d=>
   cases d with
   |obj c ns ds=>
    dsimp only at i;by_cases j:m∈ns
    .rw[iP j]at i;exact i.elim
    .rw[iN j]at i
     cases z:l.lookup c with
     |none=>rw[z]at i;exact i.elim
     |some F=>
      rw[z]at i;dsimp only at i;obtain⟨a,C,dx,vs,ob,rfl,h1,U,h3,h4,h5⟩:=Nv J.1;obtain⟨C',g,fd,ps,N,p,hF,B⟩:=T _ (lookup_mem z);cases N.eq U;refine⟨a,ob,C,dx,_,g,fd,ps,_,rfl,h1,N.cl,p,MX j,hF,B,ka E ρ S1 σ H1 _ w1 (sl.ext M) ?_⟩;refine(Post.shift M i).bind λus rs S2 aa D e2 L w2 d2 v=>?_;exact RG L w2 (ArgsE.cons (DenE.val (J.1.ext L)) (λds b er=>by cases er) d2) v
   |_=>exact i.elim
structure OI(K:Q0)(C:Addr):Prop where
 ha:PySem.W.findIn K (.ref C) "__class__"=some (some (.builtin "object.__class__"))
 hn:PySem.W.specialIn K (.builtin "object.__class__") "__get__"=some (some (.builtin "getset_descriptor.__get__"))
 htk:PySem.W.takesIn K (.builtin "object.__class__")=some true
 hm:PySem.W.mroIn K C (.type "object")=some true
end
noncomputable def vO(y:Db):List (List Nat)->List Nat
 |[]=>[]
 |[x]=>x
 |x::r=>x++y++vO y r
theorem YM(y:Db): ∀a:List (List Nat),Str.join (mK y) (a.map mK)=mK (vO y a)
 |[]=>rfl
 |[x]=>rfl
 |x::z::r=>by show mK x++mK y++Str.join _ _=mK (x++y++vO y _);rw[YM y _,TR,TR]
theorem Ft{y:Str}: ∀(l:K0)(n k:Nat),(∀z∈l,z.length+y.length<=1000)->l.length<=k->l.foldl (λa z=>a+z.length+y.length) n<=n+1000 * k
 |[],n,k,_,_=>Nat.le_add_right _ _
 |z::l,n,0,_,h=>by simp at h
 |z::l,n,k+1,hz,h=>by
  rw[ď];have h1:=Ft l (n+z.length+y.length) k (λw hw=>hz w (mO _ hw)) (by simpa using h);have b:=hz z mF0
  lia
theorem joinOk_of{y:Db}{zs:Ch}(c:y.length<=100)(h1:zs.length<=1000)(a: ∀z∈zs,z.length<=900):JoinOk (mK y) (zs.map mK)=true:=by
 unfold JoinOk;rw[ą];unfold Builtin.Str.tooLong;rw[List.foldl_toArray,decide_eq_false_iff_not]
 have:=Ft (y:=mK y) (zs.map mK) 0 1000 (λz b=>by
  obtain⟨w,hw,rfl⟩:=mM.mp b;have:=a w hw;rw[oR,oR]
  lia) (by rw[lM];exact h1)
 rw[Ċ]
 lia
noncomputable def uH:List MV->Option (List (List Nat))
 |[]=>some []
 |.str x::ds=>(uH ds).map (x::·)
 |_::_=>none
theorem Fv{K:Q0}{α:B9}{H:Hp}: ∀{ds:U0}{c:Ch}{vs:List V}{us:A0},uH ds=some c->DenL K α H ds vs->Vals vs us-> ∃l:List (Str×Tok),us=strValues l/\l.map (·.1)=c.map mK
 |[],c,vs,us,e,d,r=>by cases e;rw[d.isnil]at r;cases r;exact⟨[],rfl,rfl⟩
 |x::ds,c,vs,us,e,d,r=>by
  obtain⟨v,m,rfl,j,h⟩:=d.uncons
  cases r with
  |cons a b=>
   cases x<;>first |(cases e)|skip
   rename_i i;unfold uH at e
   cases z:uH ds with
   |none=>rw[z]at e;cases e
   |some ms=>
    rw[z]at e;cases e;cases wH j;obtain⟨t,rfl⟩:=a;obtain⟨l,rfl,k⟩:=Fv z h b;exact⟨(mK i,t)::l,rfl,by rw[ê,k];rfl⟩
section
variable{X:Cx}{W:XW}{a e:Expr}{es:P0}{f:AX}{af:↑13}{apos pos:Pos}
def Xu:E8 X "str.join" (λx xs H Q=> ∃y l vs ds a α,x=.str (mK y)/\xs=[.ref l]/\SqL X.K H l vs/\uH ds=some a/\DenL X.K α H ds vs/\(y.length<=100/\a.length<=1000/\ ∀z∈a,z.length<=900)/\Q (.str (mK (vO y a))) H):=by
 intro pins s σ H x xs v us Q I e rs h;obtain⟨y,l,vs,ds,a,α,rfl,rfl,m,n,c,b,q⟩:=h;obtain⟨t,rfl⟩:=e;obtain⟨u,rfl,d⟩:=vals1 rs;cases d;obtain⟨its,i,p,_⟩:=I.list m;obtain⟨ps,rfl,j⟩:=Fv n c i;refine PySem.SC.join p.isList j (joinOk_of b.1 b.2.1 b.2.2) λt' k=>⟨.str _,H,I.tok _,⟨t',?_⟩,q⟩
 show Value.str (Builtin.Str.glued _ _) t'=_;rw[StrLaws.glued_eq_join,YM]
open Classical in
def RP:Er->List Er->Sto->R Er
 |.val (.str y),[r],S=>match kS S r with
  |some ds=>match uH ds with
   |some zs=>if y.length<=100/\zs.length<=1000/\ ∀z∈zs,z.length<=900 then .ok (.val (.str (vO y zs))) S else .no
   |none=>.no
  |none=>.no
 |_,_,_=>.no
def Xv:XM X W (λx xs H Q=> ∃y l vs ds b α,x=.str (mK y)/\xs=[.ref l]/\SqL X.K H l vs/\uH ds=some b/\DenL X.K α H ds vs/\(y.length<=100/\b.length<=1000/\ ∀z∈b,z.length<=900)/\Q (.str (mK (vO y b))) H) RP:=by
 intro p rs x vs α S H0 H Q k c m n j a
 replace a:=a.shift m
 unfold RP at a;split at a
 .split at a
  .rename_i ds e;split at a
   .rename_i b o;split at a
    .rename_i d;obtain⟨v,rfl,i⟩:=MD j;obtain⟨l,us,rfl,h1,h⟩:=tN rfl c e i;exact⟨_,l,us,ds,b,α,mV n,rfl,h1,o,h,d,Post.val a c (uD _)⟩
    .exact a.elim
   .exact a.elim
  .exact a.elim
 .exact a.elim
def Xw(c:zN X W a f)(b:LY X W (e::es) af)
  (hbase:attributeBase a "join" X.env (eval a X.env)=eval a X.env:=by rfl)
  (hfew:((backTo pos (starEach (e::es) X.env)).all (λx=>!x.1)&&(backToKw pos (keywordEach [] X.env)).all (λx=>x.1.isSome)
   &&decide ↑10)=true:=by rfl)
  (hline:(apos.endLine==pos.line)=true:=by rfl) (hs:q8 X e es:=by rfl) (hplain:q9 X pos es:=by rfl):
  zN X W (.Call (.Attribute a "join" apos) (e::es) [] pos) (λρ S=>(f ρ S).bind λp S1=>if MG p S1=true then(af ρ S1).bind λrs S2=>RP p rs S2 else .no):=
 TZ PySem.F.plainAttrs_str PySem.F.slot_str_join PySem.F.type_str_join Xu Xv ty_str c b hbase hfew hline hs hplain
end
section
variable(P:ň)(w:World)(K:Q0)(mg:L0)(base:Heap)
def G6(x fld:Str):Prop:= ∃C b fd a,OC K x C/\NoAttr K C fld/\Mk K C b/\FnOk P w K mg base BS 1 b fd ["self",a] (zGJ K fld)/\Binds K fd ["self",a] []/\mg x=some (.ref C)
def G7(m:Str)(k n:Nat)(l:List (Str×↑8)):Prop:= ∀q∈l, ∃C a fd ps,OC K q.1 C/\Meth K C m a/\FnOk P w K mg base BS k a fd ps (PY ⟨K,mg,P,w⟩ n q.2)/\Binds K fd ps []
def zHS(cs:K0)(fld:Str):Prop:= ∀c∈cs, ∃C,OC K c C/\NoAttr K C fld
end
section
variable{X:Cx}{W:XW}{e:Expr}{f:AX}{pos p:Pos}{fld x:Str}
def MY(B:G6 X.prog X.w X.K X.mg X.base x fld)(m:Room 2 X.A)(d:Gl X x)(c:zN X W e f)(a:↑28=false:=by decide)
  (hs:starEach [e] X.env=(false,eval e X.env)::starEach [] X.env:=by rfl) (hpl:(backTo pos (starEach [] X.env)).any (·.1)=false:=by rfl):zN X W (.Call (.Name x p) [e] [] pos) (λρ S=>(f ρ S).bind (Kc x fld)):=by
 obtain⟨C,n,fd,b,h,j,mk,F,k,i⟩:=B;exact Xt h j mk F k m d i c a hs hpl
def Xx{P:ň}{w:World}{K:Q0}{mg:L0}{base:Heap}{qual:Str}{st:Stmt}{f:Addr}{fd:FuncData}{b:Str}(F:Fun K "__init__" qual st f fd)(j:FnScope ["self",b] ["self",b] (zK st))
  (hbody: ∀(c:ņ)(A:Ň)(a:List Env)(s:Ņ)(H:Hp)(E:XK),PSs (PL BS P w K mg base ["self",b] qual (zK st) f c A a s H E).nox (yZ st) (zEM K (λσ H Q=> ∃v,σ[0]? =some (some v)/\Q v H) (λσ H Q=> ∃v,σ[1]? =some (some v)/\Q v H) fld)):
  FnOk P w K mg base BS 1 f fd ["self",b] (zGJ K fld):=by
 refine F.ok j (λvs H Q E h=>?_) λc A a s H vs Q E k h=>?_
 .obtain⟨_,_,_,_,_,rfl,_⟩:=h;rfl
 .obtain⟨x,C,dx,fs,v,rfl,h1,d,i,e,q⟩:=h;exact⟨_,hbody c A a s H E,v,rfl,_,rfl,x,C,dx,fs,rfl,h1,d,i,e,q⟩
end
def nm_of{K:Q0}{C:Addr}{a:ClassData}{c:Str}(e:PySem.W.clsIn K C=some a)(h:a.name=c):(PySem.W.clsIn K C).map (·.name)=some c:=by rw[e];exact congrArg some h
section
variable{X:Cx}{W:XW}{a e:Expr}{es:P0}{pos apos:Pos}{f:AX}{af:↑13}
def Xy:Er->List Er->Sto->R Er
 |p,[r],S=>match Wb S r with
  |some zs=>HY p S λds=>if ds.length+zs.length<=sizeLine then some (ds++zs)else none
  |none=>.no
 |_,_,_=>.no
def Kd:XM X W Ej Xy:=by
 intro p rs x vs α S H0 H Q d m q s h a
 match rs,h,a with
 |[],_,a=>exact a.elim
 |_::_::_,_,a=>exact a.elim
 |[r],h,a=>
  have a:Post X.g W d H0 (match Wb S r with |some n=>HY p S λds=>if ds.length+n.length<=sizeLine then some _ else none|none=>.no) Q:=a;split at a
  .rename_i n y;obtain⟨v,rfl,w⟩:=MD h;obtain⟨b,us,rfl,o,j⟩:=Bp m y w;obtain⟨c,ws,ds,es,rfl,h1,i,e,k⟩:=HZ m q s a;split at e
   .rename_i u;cases e;exact⟨c,b,ws,us,rfl,rfl,h1,o,by rw[i.length,j.length];exact u,k _ (i.append j)⟩
   .cases e
  .exact a.elim
def Ke(c:zN X W a f)(b:LY X W (e::es) af)
  (hbase:attributeBase a "extend" X.env (eval a X.env)=eval a X.env:=by rfl)
  (hfew:((backTo pos (starEach (e::es) X.env)).all (λx=>!x.1)&&(backToKw pos (keywordEach [] X.env)).all (λx=>x.1.isSome)
   &&decide ↑10)=true:=by rfl)
  (hline:(apos.endLine==pos.line)=true:=by rfl) (hs:q8 X e es:=by rfl) (hplain:q9 X pos es:=by rfl):
  zN X W (.Call (.Attribute a "extend" apos) (e::es) [] pos) (λρ S=>(f ρ S).bind λp S1=>if aI p S1=true then(af ρ S1).bind λrs S2=>Xy p rs S2 else .no):=
 TZ PySem.F.plainAttrs_list PySem.F.slot_list_extend PySem.F.type_list_extend Iz Kd Bs c b hbase hfew hline hs hplain
end
theorem args_sorted1(a:ņ):argsOk "sorted" ⟨[a],[]⟩:=by unfold argsOk;kernel_rfl
theorem Ce(a:ņ):argsOk "list.sort" ⟨[a],[]⟩:=by unfold argsOk;kernel_rfl
open Classical in
def _root_.L2.Room.u128{k:Nat}{A:Ň}(r:Room k A):A.units+128<cLine:=by have:=r.un;omega
section
variable{X:Cx}{α:B9}{S:Sto}{H:Hp}{pins:M0}{σ:St}{s:Ņ}{k:Nat}
def RQ(d:MV):Prop:= ∃x r,d=.tup (.int x::r)
theorem Xz(I:↑2)(n:Wd X.g α S H){A:Ň}(hu:A.units+64<cLine){d f:MV}{x y:V}{u v:ņ}{k:Bool}(kd:RQ d)(Z:RQ f)(h1:Den X.K α H d x)(J:Den X.K α H f y)(O:RelV x u)(ry:RelV y v)
  (h:LA S zQ d f=some k) (prog:ň) (w:World) (E:VP) (Q:Bool->Ņ->Prop) (hq:Q k s):wpAny ↑9 A (keyLt' (tuples' true) u v) Q E s:=by
 obtain⟨m,C,rfl⟩:=kd;obtain⟨j,B,rfl⟩:=Z;obtain⟨a1,W,q,rfl,L,G,t1,_⟩:=Cb I h1 O;obtain⟨a2,aa,D,rfl,T,M,t2,_⟩:=Cb I J ry;obtain⟨w1,q1,rfl,p,m1⟩:=L.uncons;obtain⟨w2,q2,rfl,F,Y⟩:=T.uncons
 cases G with
 |@cons _ u1 _ us1 rv1 rr1=>
  cases M with
  |@cons _ u2 _ us2 rv2 rr2=>
   have h':(eqv S 39 (.int m) (.int j)).bind (λk=>if k=true then UF _ _ C B else LA S 39 _ _)=some k:=h;have r:eqv S 39 _ _=some _:=CB 38 m j;have N:=HS I n 39 A _ _ _ _ _ _ _ #[0] p F rv1 rv2 r;cases xB p;cases xB F;obtain⟨P,rfl⟩:=rv1;obtain⟨U,rfl⟩:=rv2;rw[r]at h';refine Srt.wp_keyLtI t1 t2 N ?_ hq
   cases z:decide (m=j)with
   |true=>
    rw[z]at h';have i:UF _ _ C B=some k:=h'
    exact zGF (Om (λd f x y u v k a b c o e=>HS I n 39 A d f x y u v k #[0] a b c o e)
     (λd f x y u v k a b c o e=>Bn I n 39 A d f x y u v k #[0] a b c o e) m1 Y rr1 rr2 i)
   |false=>
    rw[z]at h';have i:_=some k:=h';cases i;rfl
theorem zGK(I:↑2)(wd:Wd X.g α S H){A:Ň}(hu:A.units+64<cLine){kds:U0}(hne:kds≠[])(hkind: ∀d,d∈kds->RQ d)(ho:OrdD S kds){E':VP}:
  Srt.Cmp ↑6 A E' s (tuples' true) (λp=> ∃d v,d∈kds/\Den X.K α H d v/\RelV v p.1) (ltV X.K α H S kds) where
 go x y hx hy st hk Q hq:=by
  obtain⟨v1,d1,r1⟩:=MR hx;obtain⟨v2,d2,r2⟩:=MR hy;obtain⟨t,ht⟩:=ho.any _ (fS hne x.1) _ (fS hne y.1);have e:ltV X.K α H S kds x y=t:=by unfold ltV;rw[ht];rfl
  rw[e]at hq;exact Srt.wp_lt hk (λE Q hq=>Xz I wd hu (hkind _ (fS hne x.1)) (hkind _ (fS hne y.1)) d1 d2 r1 r2 ht X.prog X.w E Q hq) hq
 tr x y z h1 h2:=by unfold ltV at h1 h2 ⊢;have mx:=fS (K:=X.K) (α:=α) (H:=H) hne x.1;have my:=fS (K:=X.K) (α:=α) (H:=H) hne y.1;have mz:=fS (K:=X.K) (α:=α) (H:=H) hne z.1;obtain⟨t1,e1⟩:=ho.any _ my _ mx;obtain⟨t2,e2⟩:=ho.any _ mz _ my;rw[e1]at h1;rw[e2]at h2;have h1:=h1;have h2:=h2;subst h1 h2;rw[ho.tr _ mx _ my _ mz e1 e2];rfl
 as x y h:=by unfold ltV at h ⊢;have mx:=fS (K:=X.K) (α:=α) (H:=H) hne x.1;have my:=fS (K:=X.K) (α:=α) (H:=H) hne y.1;obtain⟨t1,e1⟩:=ho.any _ mx _ my;rw[e1]at h;have h:=h;subst h;rw[ho.as _ mx _ my e1];rfl
def zAV(I:↑2){A:Ň}{b:U0}{kvs:List V}{e:A0}(m:b≠[])(c: ∀d,d∈b->RQ d)(n:DenL X.K α H b kvs)(k:Vals kvs e){B:VP}:
  wpAny ↑6 A (keyKind' e.toArray) (λq s'=>s'=s/\q=tuples' true) B s:=by
 have ne:e≠[]:=λz=>by have h1:=k.length;have h:=n.length;rw[z]at h1;exact m (List.length_eq_zero_iff.mp (by rw[<-h,h1];rfl))
 have all: ∀u,u∈e-> ∃d v,d∈b/\Den X.K α H d v/\RelV v u:=by
  intro u j;obtain⟨i,hi⟩:=getElem?_of_mem j;have o:i<kvs.length:=by rw[k.length];exact(gS.mp hi).1
  obtain⟨L,h1,r⟩:=k.get (gE o);rw[hi]at h1;cases h1;obtain⟨d,h,C⟩:=n.get (gE o);exact⟨d,_,ñ h,C,r⟩
 refine Srt.wp_kindI ne λu j=>?_;obtain⟨d,v,y,E,r⟩:=all u j;obtain⟨x,J,rfl⟩:=c d y;obtain⟨a,vs,its,rfl,l,D,t,_⟩:=Cb I E r;obtain⟨F,G,rfl,p,_⟩:=l.uncons
 cases D with
 |@cons _ u1 _ us1 rv rr'=>
  cases xB p;obtain⟨tk,rfl⟩:=rv;exact⟨a,_,_,tk,us1,rfl,t,rfl⟩
end
section
variable{X:Cx}{α:B9}{S:Sto}{H:Hp}{pins:M0}{σ:St}{s:Ņ}
theorem Kf(hu:X.A.units+128<cLine)(I:↑2)(wd:Wd X.g α S H){l:Addr}{xs:List V}{ds:U0}(hl:SqL X.K H l xs)(E:DenL X.K α H ds xs)
  (hlen:↑23<64) (hpu: ∀d,d∈ds->rG d=true) (hkd:2<=↑23-> ∀d,d∈ds->RQ d) (hord:OrdD S ds) {Q:VK}
  (hQ: ∀(idx:Db)(p:Addr)(ys:List V),idx.Perm (List.range ↑23)->idx.Pairwise (λi j=> ∀a c,ds[i]? =some a->ds[j]? =some c->LA S zQ c a=some false)->H p=none->
   DenL X.K α H (idx.filterMap (ds[·]?)) ys->Q (.ref p) (xY H p (.lst ys))):wpAny ↑6 X.A (call (.builtin "sorted") [.ref l]) (EP X pins σ Q) X.xe s:=by
 obtain⟨its,B,⟨o,n0,e0,aa,_,Y⟩,_⟩:=I.list hl;have W:s.heap.IsList l its.toArray:=⟨o,e0,aa,n0,Y⟩
 have k:its.length=ds.length:=by rw[<-B.length,E.length]
 have af:=Ċ;refine call_function_entry_kw kind_sorted plain_sorted entry_sorted (args_sorted1 _) ?_;unfold Builtin.«sorted»;refine wB (wP ?_);refine wB (collect_list W ?_ #[0]);refine wB (wpAny_newList ?_);generalize F:(s.heap.push (seqObj "list" #[] 0)).update s.heap.objs.size (Obj.mapSeq (· ++its.toArray))=h1;have ag:h1.objs.size=↑1+1:=by rw[<-F,Heap.size_update,size_push']
 have k1: ∀b u,s.heap.get? b=some u->h1.get? b=some u:=λb u e=>by rw[<-F,ğ _ _ (Ė (á e))];exact hP0 _ e
 have C:(h1.push (seqObj "list" ↑36 0)).get? h1.objs.size=some (seqObj "list" ↑36 0):=ä _ rfl;show wpAny _ _ _ _ _ {s with heap:=h1.push (seqObj "list" ↑36 0)};dsimp only;generalize hL:h1.objs.size=L at *;have G:↑1<=L:=by lia
 refine wB (Ą (wpAny_call_entry_kw slot_list_sort ⟨_,C,rfl⟩ entry_list_sort (Srt.sort_plainS C #[0] λD n=>?_) (Ce _)));dsimp only at n;generalize P:h1.push (seqObj "list" its.toArray 0)=h2 at *;have fL:FA X pins H L:=I.fpOk G (I.hok.fresh G);have k3: ∀b u,s.heap.get? b=some u->D.heap.get? b=some u:=λb u e=>by rw[n];refine hP0 _ (hP0 _ ?_);rw[ğ _ _ (Ė (é (á e) G)), <-P];exact hP0 _ (k1 b u e)
 have M:Inv X pins σ H D:=by have:=I.kept (t':=s.toks) k3;rw[n]at this ⊢;exact this
 have O:X.A.in1.in1.units+64<cLine:=by show X.A.units+1+1+64<cLine;lia
 obtain⟨q,gL⟩: ∃q,D.heap.get? L=some (seqObj "list" #[] q):=by rw[n];exact⟨_,hP0 _ (hP0 _ (get?_update_seq C (λ_=>#[])))⟩
 refine⟨tuples' true,(λp=> ∃d v,d∈ds/\Den X.K α H d v/\RelV v p.1),ltV X.K α H S ds,λy=>?_,λout op os=>?_⟩
 .have ne:ds≠[]:=λz=>by rw[k,z]at y;exact absurd y ↑7
  have m:=hkd (k▸y);refine⟨zAV M ne m E B,zGK M wd O ne m hord,λp hp=>?_⟩;have ab:p.1∈its:=(of_mem_zip hp).1;obtain⟨i,hi⟩:=getElem?_of_mem ab;have N:i<xs.length:=by rw[B.length];exact(gS.mp hi).1
  obtain⟨u',J,r⟩:=B.get (gE N);rw[hi]at J;cases J;obtain⟨d,U,ae⟩:=E.get (gE N);exact⟨d,_,ñ U,ae,r⟩
 .obtain⟨idx,T,ie⟩:=RN op.symm (List.range ↑23) (Jy k k);have ib: ∀i,i∈idx->i<ds.length:=λi hi=>ò.mp (T.mem_iff.mp hi);have eo:out.map (·.2)=idx.filterMap (its[·]?):=by rw[<-ie,û];exact MS λi hi=>by rw[k];exact ib i hi
  have po:idx.Pairwise (λi j=> ∀a c,ds[i]? =some a->ds[j]? =some c->LA S zQ c a=some false):=by rw[<-ie,Ġ]at os;refine ķ (λ{i j} hi hj h a c ha hc=>?_) os;have ui:its[i]? =some (its[i]'(by rw[k];exact ib i hi)):=gE _;have uj:its[j]? =some (its[j]'(by rw[k];exact ib j hj)):=gE _;have h':(LA S zQ _ _).getD false=false:=h;rw[ui,uj]at h';simp only[Option.getD_some]at h';rw[Py M hpu E B ui ha,Py M hpu E B uj hc]at h';obtain⟨t,ht⟩:=hord.any c (ñ hc) a (ñ ha);rw[ht]at h';have h':t=false:=h';rw[ht,h']
  have vy:=Vals.pick B idx;refine⟨_,rfl,wP ⟨_,rfl,.ref L,_,?_,rfl,hQ idx L _ T po (I.hok.fresh G) (E.pick idx)⟩⟩;obtain⟨f0,f1,f2,f3,f4,f5⟩:=fL
  have I6:Inv X pins σ H {D with heap:=D.heap.update L (Obj.mapSeq λ_=>(out.map (·.2)).toArray)}:=
   M.turned (λb o hb e=>(ğ _ _ (Ne.symm hb)).trans e) f0 f1 f3 f4 f5
  obtain⟨n',Z⟩: ∃n',(D.heap.update L (Obj.mapSeq λ_=>(out.map (·.2)).toArray)).get? L=some _:=⟨_,by have:=get?_update_seq gL (λ_=>(out.map (·.2)).toArray);rw[eo]at this ⊢;exact this⟩
  refine Jx I6 ⟨f0,f1,f2,f3,f4,f5⟩ (ì I.sz G) Z vy ?_
  .have:=List.length_filterMap_le (xs[·]?) idx;have h3:=T.length_eq;rw[è]at h3
   lia
end
structure SrtJ(S:Sto)(ds:U0):Prop where
 len:↑23<64
 pu: ∀d,d∈ds->rG d=true
 kind:2<=↑23-> ∀d,d∈ds->RQ d
 ord:OrdD S ds
open Classical in
def JQ(rs:List Er)(S:Sto):R Er:=match rs with
 |[p]=>match kS S p with
  |some ds=>if h: ∃r,SrtJ S ds/\ ∀a,Fq S ds ds a->a=r then .ok (.new (Classical.choose h)) S else .no
  |none=>.no
 |_=>.no
def Ya{p:Er}{S:Sto}{ds r:U0}(e:kS S p=some ds)(ok:SrtJ S ds)(u: ∀a,Fq S ds ds a->a=r)(ex:Fq S ds ds r):JQ [p] S=.ok (.new r) S:=by
 unfold JQ;dsimp only;rw[e];dsimp only;have h: ∃r,SrtJ S ds/\ ∀a,Fq S ds ds a->a=r:=⟨r,ok,u⟩
 rw[dif_pos h];obtain⟨_,b⟩:=Ă h;rw[<-b r ex]
section
variable{X:Cx}{W:XW}
def Kg(m:X.A.units+128<cLine):CallR X (.builtin "sorted") (λxs H Q=> ∃α S l vs ds,xs=[.ref l]/\Wd X.g α S H/\SqL X.K H l vs/\DenL X.K α H ds vs/\SrtJ S ds/\
  ∀(idx:Db)(p:Addr)(ys:List V),idx.Perm (List.range ↑23)->idx.Pairwise (λi j=> ∀a c,ds[i]? =some a->ds[j]? =some c->LA S zQ c a=some false)->H p=none->DenL X.K α H (idx.filterMap (ds[·]?)) ys->Q (.ref p) (xY H p (.lst ys))):=by
 rw[21];obtain⟨α,S,l,vs,ds,rfl,d,e,b,ok,q⟩:=h;obtain⟨u,rfl,k⟩:=vals1 r;cases k;exact Kf m I d e b ok.len ok.pu ok.kind ok.ord q
def Yb:oO X W (λxs H Q=> ∃α S l vs ds,xs=[.ref l]/\Wd X.g α S H/\SqL X.K H l vs/\DenL X.K α H ds vs/\SrtJ S ds/\
  ∀(idx:Db)(p:Addr)(ys:List V),idx.Perm (List.range ↑23)->idx.Pairwise (λi j=> ∀a c,ds[i]? =some a->ds[j]? =some c->LA S zQ c a=some false)->H p=none->DenL X.K α H (idx.filterMap (ds[·]?)) ys->Q (.ref p) (xY H p (.lst ys))) JQ:=by
 intro rs vs α S H Q k d b;unfold JQ at b;split at b
 .split at b
  .rename_i ds e;split at b
   .rename_i h;obtain⟨v,rfl,w⟩:=pY d;obtain⟨l,us,rfl,h1,n⟩:=tN rfl k e w;obtain⟨ok,u⟩:=Ă h;refine⟨α,S,l,us,ds,rfl,k,h1,n,ok,λidx p ys r s q m=>?_⟩;have o:=u _ ⟨idx,r,s,rfl⟩;rw[o]at m;exact Post.newl b k q m
   .exact b.elim
  .exact b.elim
 .exact b.elim
end
section
variable{X:Cx}{W:XW}{a b i e:Expr}{f g:AX}{pos:Pos}{α:B9}{H:Hp}{pins:M0}{σ:St}{s:Ņ}
def zAW:MV->Option Key
 |.int i=>some (.inl i)
 |.str x=>some (.inr (mK x))
 |_=>none
def Kh: ∀{k:MV}{a:Key},zAW k=some a->KeyD k a
 |.int i,_,h=>by cases h;exact rfl
 |.str x,_,h=>by cases h;exact rfl
 |.non,_,h=>nomatch h
 |.bl _,_,h=>nomatch h
 |.tup _,_,h=>nomatch h
 |.scr _,_,h=>nomatch h
 |.loc _,_,h=>nomatch h
 |.typ _,_,h=>nomatch h
 |.obj _ _ _,_,h=>nomatch h
def Ki: ∀{k:MV}{a:Key}{v:V},zAW k=some a->Den X.K α H k v->v=kV a
 |.int i,_,_,h,d=>by cases h;exact xB d
 |.str x,_,_,h,d=>by cases h;exact wH d
 |.non,_,_,h,_=>nomatch h
 |.bl _,_,_,h,_=>nomatch h
 |.tup _,_,_,h,_=>nomatch h
 |.scr _,_,_,h,_=>nomatch h
 |.loc _,_,_,h,_=>nomatch h
 |.typ _,_,_,h,_=>nomatch h
 |.obj _ _ _,_,_,h,_=>nomatch h
def RR: ∀{k:Key}{u:ņ},RelV (kV k) u->(bI X.prog X.w).is k u=true
 |.inl i,_,h=>by obtain⟨t,rfl⟩:=(h: ∃t,_=_);exact JF _ _ i t
 |.inr x,_,h=>by obtain⟨t,rfl⟩:=(h: ∃t,_=_);exact AC _ _ x t
theorem Yc: ∀{k:Key}{u:ņ},RelV (kV k) u->(keyPart u).isSome=true
 |.inl i,_,h=>by obtain⟨t,rfl⟩:=(h: ∃t,_=_);rfl
 |.inr x,_,h=>by obtain⟨t,rfl⟩:=(h: ∃t,_=_);rfl
def DA(k:MV):Bool:=(zAW k).isSome
def zGL{kvs:zA0}{d:Addr}(ob:ObD X.g α H d (.dic kvs))(i:kvs.all (λp=>DA p.1)=true): ∃b,DK X H d b/\DenK X.K α H kvs b:=by
 rcases ob with⟨b,h,l⟩|⟨xs,h,l⟩
 .exact⟨b,.inl h,l⟩
 .cases l with
  |nil=>exact⟨[],.inr ⟨rfl,h⟩,.nil⟩
  |@cons k nk a d v u fs xs hn e ha hd r l=>
   rw[List.all_cons,aE]at i;obtain⟨j,c⟩:=ÿ.mp i.1;have:=Ki c ha;cases j<;>cases this
def EF(S:Sto):Er->Option (Nat×List (MV×MV))
 |.val (.loc l)=>match S[l]? with
  |some (.dic kvs)=>if kvs.all (λp=>DA p.1)=true then some (l,kvs)else none
  |_=>none
 |_=>none
def Yd{S:Sto}(j:Wd X.g α S H){r:Er}{x:V}{l:Nat}{kvs:zA0}(e:EF S r=some (l,kvs))(d:DenX X.K α H r x):
  ∃c a,x=.ref c/\α[l]? =some c/\S[l]? =some (.dic kvs)/\DK X H c a/\DenK X.K α H kvs a/\kvs.all (λp=>DA p.1)=true:=by
 unfold EF at e;split at e
 .rename_i n;obtain⟨c,rfl,h⟩:=sN d;split at e
  .rename_i a b;split at e
   .rename_i i;obtain⟨rfl,rfl⟩:=Prod.mk.inj (ã e);obtain⟨xs,k,l⟩:=zGL (j.obj _ c _ h b) i;exact⟨c,xs,rfl,h,b,k,l,i⟩
   .cases e
  .cases e
 .cases e
def Qi{a:↑24}{d:Addr}(b:DK X H d a):zDI (H d):=by rcases b with z|⟨_,z⟩<;>rw[z]<;>exact trivial
def Qj{prog:ň}{w:World}{c:Type}[DecidableEq c]{knd:KeyKind prog w c}{A:Ň}{E:VP}{s:Ņ}{d:Addr}{k:c}{a:ņ}{f:c->Option ņ}{Q:VP}(b:knd.is k a=true)(j:(d==sysModules)=false)(e:s.heap.MapOf knd d f)
  (h:Q (.bool !(f k).isSome) {s with toks:=s.toks+1}):wpAny ↑9 A (compareOp .NotIn a (.ref d)) Q E s:=by
 show wpAny _ _ _ Q E s;refine wB ?_;unfold contains
 try with_reducible refine Ą ?_
 refine wB (Ľ e.typeIs slot_dict_contains.lookup ?_);show wpAny _ _ _ _ E s
 refine wB (wpAny_callSpecialUnlessNone?_slot e.typeIs slot_dict_contains
  (ö slot_dict_contains e.typeIs entry_dict_contains ?_ (args_dict_contains _ _)))
 show wpAny _ _ (dictGet d a >>= _) _ _ s;refine wB (wpAny_dictGet_of b e ?_)
 cases i:f k with
 |some v=>
  rw[i]at h;show wpAny _ _ _ _ _ _;exact wP ⟨_,rfl,ć (wP h)⟩
 |none=>
  rw[i]at h;show wpAny _ _ _ _ _ _;exact wB (wpAny_pendingKey_other j (wP ⟨_,rfl,ć (wP h)⟩))
abbrev zAX(X:Cx)(a:Bool):R2:=λx y H Q=> ∃(b:↑24)(d:Addr)(k:Key),x=kV k/\y=.ref d/\DK X H d b/\
 Q (.bl (if a=true then !(cT b k).isSome else(cT b k).isSome)) H
theorem look_same{a:↑24}{vs:List (Key×ņ)}(r:KV a vs)(k:Key):(valueAt vs k).isSome=(cT a k).isSome:=by
 obtain⟨c,b⟩:=FZ r k
 cases h:cT a k with
 |none=>rw[b h];rfl
 |some v=>obtain⟨u,e,_⟩:=c v h;rw[e];rfl
def zAY:OpR X (compareOp .In) (zAX X false):=by intro pins s σ H x y v u Q I i c h;obtain⟨j,d,k,rfl,rfl,e,q⟩:=h;cases c;obtain⟨_,hs,vs,a,b⟩:=oU I e;refine wpAny_in_of (RR i) hs b.mapOf ?_;rw[look_same a k];exact⟨.bl (cT j k).isSome,H,I.kept (λ_ _ z=>z),rfl,q⟩
def Kj:OpR X (compareOp .NotIn) (zAX X true):=by intro pins s σ H x y v u Q I i c h;obtain⟨j,d,k,rfl,rfl,e,q⟩:=h;cases c;obtain⟨_,hs,vs,a,b⟩:=oU I e;refine Qj (RR i) hs b.mapOf ?_;rw[look_same a k];exact⟨.bl !(cT j k).isSome,H,I.kept (λ_ _ z=>z),rfl,q⟩
def MZ(a:Bool)(p q:Er)(S:Sto):R Er:=match p with
 |.val k=>match EF S q with
  |some (_,kvs)=>if DA k=true then .ok (.val (.bl (if a=true then !(look kvs k).isSome else(look kvs k).isSome))) S else .no
  |none=>.no
 |_=>.no
theorem Kk{kvs:zA0}{a:↑24}{k:MV}{k':Key}(l:DenK X.K α H kvs a)(b:KeyD k k'):(cT a k').isSome=(look kvs k).isSome:=by
 obtain⟨c,g2⟩:=tP l b
 cases h:look kvs k with
 |none=>rw[g2 h];rfl
 |some v=>obtain⟨u,e,_⟩:=c v h;rw[e];rfl
def Fw{b:Bool}:Eo X W (zAX X b) (MZ b):=by
 intro p q x y α S H Q h n m a;unfold MZ at a;split at a
 .rename_i k;split at a
  .rename_i l kvs e;split at a
   .rename_i j;obtain⟨c,r,rfl,_,_,o,i,_⟩:=Yd h e m;obtain⟨s,d⟩:=ÿ.mp j;refine⟨r,c,s,Ki d n,rfl,o,?_⟩;rw[Kk i (Kh d)];exact Post.val a h (nO _)
   .exact a.elim
  .exact a.elim
 .exact a.elim
def zAZ(c:zN X W a f)(e:zN X W b g)(d:behindInMarks .In b=false:=by with_unfolding_all rfl):BV X W (.Compare a [.In] [b] pos) (λρ S=>((f ρ S).bind λp S1=>(g ρ S1).bind λq S2=>MZ false p q S2).bind hX):=uF zAY Fw c e d
def Kl(c:zN X W a f)(e:zN X W b g)(d:behindInMarks .NotIn b=false:=by with_unfolding_all rfl):BV X W (.Compare a [.NotIn] [b] pos) (λρ S=>((f ρ S).bind λp S1=>(g ρ S1).bind λq S2=>MZ true p q S2).bind hX):=uF Kj Fw c e d
end
section
variable{X:Cx}{W:XW}{a b o i e:Expr}{es:P0}{f:AX}{af:↑13}{apos pos:Pos}{α:B9}{H:Hp}{pins:M0}{σ:St}{s:Ņ}
noncomputable def NA(a:↑24)(k:Key):List (Key×V):=a.filter λb=>decide (b.1≠k)
def Km(a:↑24)(k:Key):(NA a k).length<=a.length:=ï _ _
theorem Fx: ∀{d:↑24}{vs:List (Key×ņ)},KV d vs-> ∀(k:Key),KV (NA d k) (without vs k)
 |_,_,.nil,k=>.nil
 |(a,x)::d,(b,u)::vs,.cons ⟨h1,h2⟩ l,k=>by
  cases h1;have e:=Fx l k;unfold NA without at e ⊢;by_cases c:a=k
  .simp only[List.filter_cons,c,ne_eq];exact e
  .simp only[List.filter_cons,c,ne_eq,if_true];exact .cons ⟨rfl,h2⟩ e
def Qk(kvs:zA0)(k:MV):List (MV×MV):=kvs.filter λp=>!decide (p.1=k)
theorem RS: ∀{kvs:zA0}{b:↑24}{k:MV}{k':Key},DenK X.K α H kvs b->KeyD k k'->DenK X.K α H (Qk kvs k) (NA b k')
 |_,_,_,_,.nil,_=>.nil
 |_,_,k,k',.cons (k:=k0) (k':=k0') h1 h2 l,hk=>by
  have a:=RS l hk;unfold Qk NA at a ⊢;by_cases c:k0=k
  .subst c;have e:=LC h1 hk;simp only[List.filter_cons,e,ne_eq];exact a
  .have d: ¬k0'=k':=λz=>c (FX h1 (z▸hk));simp only[List.filter_cons,c,d,ne_eq,if_true];exact .cons h1 h2 a
def G8(X:Cx):V->List V->Hp->VK->Prop:=λx vs H Q=> ∃(a:↑24)(d:Addr)(k:Key)(y:V),x=.ref d/\vs=[kV k,y]/\DK X H d a/\
 (∀v,cT a k=some v->Q v (xY H d (.dK (NA a k))))/\(cT a k=none->Q y H)
theorem Ye:E8 X "dict.pop" (G8 X):=by
 intro pins s σ H x vs v us Q I N O h;obtain⟨n,d,k,y,rfl,rfl,r,S,D⟩:=h;obtain⟨u1,W,rfl,C,K⟩:=vals2 O;cases N;have L:s.TypeIs _ "dict":=(UN pins s σ H (.ref d) _ I rfl ⟨d,n,rfl,r⟩).1;obtain⟨z,hs,vs,B,o⟩:=oU I r;have hl:n.length=vs.length:=Paired.length B;obtain⟨G,P⟩:=FZ B k;have a:=RR (X:=X) C;have c:=Yc C;refine ö PySem.F.slot_dict_pop L PySem.F.entry_dict_pop ?_ (PySem.F.args_dict_pop_3 _ _ _);unfold Builtin.«dict.pop»;refine wB ?_;unfold Builtin.Dict.keyAndDefault;refine wB (wpAny_notOrdered_dict o.typeIs ?_);show wpAny _ _ _ _ _ s;refine wP ?_;simp only[c,if_true];refine wB (wP ?_);simp only[fT0,iF]
 cases m:cT n k with
 |some v=>
  obtain⟨u,e,Y⟩:=G v m;refine wB (wpAny_takeOut_pairs a o (λU=>by rw[U]at e;exact nomatch e) λE _ j h' i w=>?_);have A:E.val=u:=by rw[e]at j;injection j with j;exact j.symm
  simp only[Option.isNone_some,fT0,iF];refine wB (wpAny_letGo (wP ⟨_,rfl,v,_,?_,by rw[A];exact Y,S v m⟩));have p: ∃q,h'.get? d=some q:=let ⟨q,_,_,M,_⟩:=i;⟨q,M⟩;exact I.write (Qi r) (.inl rfl) (λb Z J T=>(w.2 b J).trans T) p ⟨by have:=Km n k;lia,hs,_,Fx B k,i⟩
 |none=>
  have e:=P m;refine wB (wpAny_takeOut_pairs_none a o e ?_);simp only[Option.isNone_none,if_true];refine wB (wpAny_missedRemoval_other hs ?_);exact wB (İ (wP ⟨W,rfl,y,H,I.tok _,K,D m⟩))
def RT(p:Er)(rs:List Er)(S:Sto):R Er:=match rs with
 |[.val k,.val y]=>match EF S p with
  |some (l,kvs)=>if DA k=true then(match look kvs k with |some d=>.ok (.val d) (S.set l (.dic (Qk kvs k)))|none=>.ok (.val y) S)else .no
  |none=>.no
 |_=>.no
def Yf:XM X W (G8 X) RT:=by
 intro p rs x vs α S H0 H Q C j q E G a;unfold RT at a;split at a
 .rename_i k y
  cases G with
  |cons dk n1 l1=>
   cases l1 with
   |cons dy n2 l2=>
    cases l2;split at a
    .rename_i l kvs F;split at a
     .rename_i m;obtain⟨c,z,rfl,s,I,b,u,_⟩:=Yd j F E;obtain⟨A,i⟩:=ÿ.mp m;have r:=Kh i;obtain⟨w,g2⟩:=tP u r;have D:=Ki i dk.1;subst D;refine⟨z,c,A,_,rfl,rfl,b,λv e=>?_,λe=>?_⟩
      .cases h:look kvs k with
       |some d=>
        obtain⟨B,e1,e2⟩:=w d h;rw[e1]at e;cases e;rw[h]at a;have n:=j.writex s b.nf (o:=.dK (NA z A));exact(Post.shift (q.trans n) a).val (j.write s b.nf (.inl ⟨_,zX,(RS u r).ex0 n.toEx0⟩)) (e2.ext n)
       |none=>rw[g2 h]at e;cases e
      .cases h:look kvs k with
       |some d=>obtain⟨B,e1,e2⟩:=w d h;rw[e1]at e;cases e
       |none=>
        rw[h]at a;exact(Post.shift q a).val j dy.1
     .exact a.elim
    .exact a.elim
 .exact a.elim
def NB(p:Er)(S:Sto):Bool:=(EF S p).isSome
def Yg(h:zN X W o f)(b:LY X W (e::es) af)
  (hbase:attributeBase o "pop" X.env (eval o X.env)=eval o X.env:=by rfl)
  (hfew:((backTo pos (starEach (e::es) X.env)).all (λx=>!x.1)&&(backToKw pos (keywordEach [] X.env)).all (λx=>x.1.isSome)
   &&decide ↑10)=true:=by rfl)
  (hline:(apos.endLine==pos.line)=true:=by rfl) (hs:q8 X e es:=by rfl) (hplain:q9 X pos es:=by rfl):
  zN X W (.Call (.Attribute o "pop" apos) (e::es) [] pos) (λρ S=>(f ρ S).bind λp S1=>if NB p S1=true then(af ρ S1).bind λrs S2=>RT p rs S2 else .no):=by
 obtain⟨to,h,w⟩:=h;obtain⟨t,b,k⟩:=b;refine⟨_,Qc UN PySem.F.plainAttrs_dict PySem.F.slot_dict_pop PySem.F.type_dict_pop Ye h b hbase hfew hline hs hplain,λα ρ S σ H Q z sl q=>w α ρ S σ H _ z sl (q.bind λu p S1 a H1 e1 r s m d=>?_)⟩;split at d
 .rename_i j;obtain⟨⟨l,kvs⟩,j⟩:=ÿ.mp j;obtain⟨c,xs,rfl,_,_,B,_⟩:=Yd s j m.1;exact⟨⟨c,xs,rfl,B⟩,k a ρ S1 σ H1 _ s (sl.ext r) ((d.shift r).bind λvs rs S2 i y e2 n A C v=>Yf p rs _ vs i S2 H1 y Q a A n (m.1.ext n) C v)⟩
 .exact d.elim
def RU{m:↑24}{vs:List (Key×ņ)}: ∀{us:A0},KV m vs->us.length=vs.length->(∀(j:Nat)(v:ņ),us[j]? =some v-> ∃(k:Key)(x:ņ),vs[j]? =some (k,x)/\(bI X.prog X.w).is k v=true)->Vals (m.map λp=>kV p.1) us:=by
 intro us o
 induction o generalizing us with
 |nil=>intro c _;cases us with
  |nil=>exact .nil
  |cons a b=>simp at c
 |@cons p q ps qs h t ih=>
  intro c d
  cases us with
  |nil=>simp at c
  |cons a b=>
   obtain⟨k,x,e,hi⟩:=d 0 a rfl;simp only[List.getElem?_cons_zero,Option.some.injEq]at e;subst e;rw[ê];refine .cons ?_ (ih (by simpa using c) λj v n=>by simpa using d (j+1) v (by simpa using n));rw[h.1];rcases yK hi with⟨i,t,e1,e2⟩|⟨i,t,e1,e2⟩
   .subst e2;rw[show k=.inl i from e1];exact⟨t,rfl⟩
   .subst e2;rw[show k=.inr i from e1];exact⟨t,rfl⟩
end
section
variable{prog:ň}{w:World}{A:Ň}{E:VP}{s:Ņ}{r d:Addr}{n:Nat}{P:Nat->ņ->Prop}{OK:Heap->Prop}
def Kn{Q₁:VP}(K:PySem.W.KdlSrc prog w "dict" r d n P OK)(y:A.handled=none)(j:OK s.heap)(q:n<=sizeLine)
  (h: ∀(h':Heap)(tk:Nat)(i:B0),↑22->ItemsOf P i n->Q₁ (.ref h'.objs.size) {s with heap:=h'.push {cls:=.type "tuple",data:=.seq i},toks:=tk}):
  codeAny ↑9 A (.call (.builtin "tuple.__new__") ⟨[.type "tuple",.ref r],[]⟩) (wants Q₁ E) s:=by
 refine codeAny_of_tree ?_;show wpAny _ A.in1 _ _ _ s;refine wB (wpAny_of_eq (F.newCall_tuple_1 _) (wP ⟨plainId_quiet F.plain_tuple_new _,Ğ F.entry_tuple_new ?_⟩));rw[Ē F.plain_tuple_new _];have p:=sub_tuple_self;have m:=init_tuple_lookup;have u:=madeHere_tuple;have k:s.TypeIs (.ref r) "dict":=K.type s j
 wp_walk using Ĵ k,PySem.W.kdu_collect (A:=A.in1) K y j q
 intro h' tk a z c;show wpAny _ _ (Builtin.Tuple.tupleExact a.toList.toArray >>= λv=>ret v) _ _ _;unfold Builtin.Tuple.tupleExact;refine wB (Č ?_ (by show a.toList.toArray.size<=sizeLine;simp only[Array.toArray_toList];rw[c.1];exact q));refine wP ?_;have e:a.toList.toArray=a:=by simp
 rw[e];exact h h' tk a z c
def NC{Q:VP}(K:PySem.W.KdlSrc prog w "dict" r d n P OK)(p:A.handled=none)(j:OK s.heap)(q:n<=sizeLine)
  (hQ: ∀(h':Heap)(tk:Nat)(h:B0),↑22->ItemsOf P h n->Q (.ref h'.objs.size) {s with heap:=h'.push {cls:=.type "tuple",data:=.seq h},toks:=tk}):
  wpAny ↑9 A (call (.type "tuple") [.ref r]) Q E s:=by
 refine callType_codes (Q₁:=λe a=>a.TypeIs e "tuple"/\Q e a) F.called_tuple (F.typeCall_tuple_1 _) F.entry_object_init
  (Kn K p j q λh' tk k m i=>⟨⟨_,ä _ rfl,rfl⟩,hQ h' tk k m i⟩) λe a c=>?_
 exact⟨c.1,F.args_object_init_2 e _,object_init_meets F.called_tuple.init.lookup F.called_tuple.made ↑7 prog w A.in1 _ a ⟨c.1,rfl,c.2⟩⟩
theorem Cf{Q:VP}(K:PySem.W.KdlSrc prog w "dict" r d n P OK)(p:A.handled=none)(j:OK s.heap)(v:n<64){k:Za}(y: ∀a:Array ņ,ItemsOf P a n->IntsAre a.toList k)
  (h: ∀(h':Heap)(tk:Nat)(out:B0)(c:Za),↑22->IntsAre out.toList c->c.Perm k->c.Pairwise (· <=·)-> ∀(vs:A0),Q (.ref h'.objs.size) {s with heap:=sortedHeap (h'.push (seqObj "list" vs.toArray 0)) h'.objs.size vs out,toks:=tk}):
  wpAny ↑9 A (call (.builtin "sorted") [.ref r]) Q E s:=by
 refine Calls.call_function_entry kind_sorted plain_sorted entry_sorted (args_sorted1 _) ?_;refine wB (wP ?_);refine wB (PySem.W.kdu_collect K p j (by rw[Ċ];lia) λh' tk a u e=>?_);have z:a.toList.length=n:=by rw[ú];exact e.1
 refine wB (wpAny_newList ?_ (by rw[Ċ];lia));have i:(h'.push (seqObj "list" a.toList.toArray 0)).get? h'.objs.size=some _:=ä _ rfl;show wpAny _ _ _ _ _ {s with heap:=h'.push _,toks:=tk};refine wB (Ą (ö slot_list_sort ⟨_,i,rfl⟩ entry_list_sort (list_sort_tree i (y a e) (by rw[z];exact v) λout c q m B=>⟨_,rfl,?_⟩) (args_list_sort _)));refine wP ⟨_,rfl,h h' tk out c u q m B a.toList⟩
end
section
variable{X:Cx}{W:XW}{α:B9}{H:Hp}
theorem Ko:CallR X (.type "tuple") (λxs H Q=> ∃d m,xs=[.ref d]/\DK X H d m/\X.calm=true/\ ∀l,H l=none->Q (.ref l) (xY H l (.tup (m.map λp=>kV p.1)))):=by
 rw[21];obtain⟨d,m,rfl,E,C,q⟩:=h;obtain⟨u,rfl,A⟩:=vals1 r;cases A;obtain⟨z,w,vs,i,n⟩:=oU I E;obtain⟨ep,k⟩:=n.dictAt;have F:=Paired.length i;refine NC (PySem.W.kdl_dict w) (I.ok.hd C) k #[0] λh' tk c y a=>?_;have B:Vals _ c.toList:=RU i (by rw[ú];exact a.1) λj v e=>a.2 j v (by rw[<-þ];exact e);have I1:Inv X pins σ H {s with heap:=h',toks:=tk}:=I.kept y
 have D:Inv X pins σ (xY H h'.objs.size (.tup _)) {s with heap:=h'.push {cls:=.type "tuple",data:=.seq c},toks:=tk}:=
  I1.laid (λb o e=>hP0 _ e) (à _) (⟨by rw[lM];exact z,_,B,by have:=IsTup.new h' c;simpa using this⟩)
 exact⟨.ref h'.objs.size,_,D,rfl,q _ (I1.hok.fresh (à _))⟩
def RV:List Er->Sto->R Er
 |[r],S=>match EF S r with |some (_,kvs)=>.ok (.val (.tup (kvs.map (·.1)))) S|none=>.no
 |_,_=>.no
def Yh(i:X.calm=true):oO X W (λxs H Q=> ∃d b,xs=[.ref d]/\DK X H d b/\X.calm=true/\ ∀l,H l=none->Q (.ref l) (xY H l (.tup (b.map λp=>kV p.1)))) RV:=by
 intro rs vs α S H Q h d a;unfold RV at a;split at a
 .split at a
  .rename_i n kvs e;obtain⟨v,rfl,o⟩:=pY d;obtain⟨c,b,rfl,h1,q,k,j,_⟩:=Yd h e o;exact⟨c,b,rfl,k,i,λl m=>Post.newt a h m (IC j)⟩
  .exact a.elim
 .exact a.elim
theorem YN: ∀{ds:U0}{a:Za},intsOf ds=some a->a.length=↑23
 |[],a,h=>by cases h;rfl
 |x::ds,a,hi=>by
  cases x<;>first |(cases hi;done)|skip
  unfold intsOf at hi
  cases b:intsOf ds with
  |none=>rw[b]at hi;cases hi
  |some ms=>rw[b]at hi;cases hi;rw[lC,lC,YN b]
theorem Kp:CallR X (.builtin "sorted") (λxs H Q=> ∃d y ds n α,xs=[.ref d]/\DK X H d y/\intsOf ds=some n/\DenL X.K α H ds (y.map λp=>kV p.1)/\↑23<64/\X.calm=true/\ ∀p,H p=none->Q (.ref p) (xY H p (.lst ((PySem.W.sortI n).map V.int)))):=by
 rw[21];obtain⟨d,y,ds,n,α,rfl,T,hi,k,Z,S,q⟩:=h;obtain⟨u,rfl,N⟩:=vals1 r;cases N;obtain⟨z,L,vs,c,F⟩:=oU I T;obtain⟨ep,m⟩:=F.dictAt;have Y:=Paired.length c;have i:vs.length<64:=by have:=k.length;rw[lM]at this;lia
 refine Cf (PySem.W.kdl_dict L) (I.ok.hd S) m i (λO a=>ints_of hi k (RU c (by rw[ú];exact a.1) λj v e=>a.2 j v (by rw[<-þ];exact e))) λh' tk out G M C D P us=>?_;have J:=PySem.W.eq_sortI D P;subst J;have I1:Inv X pins σ H {s with heap:=h',toks:=tk}:=I.kept M;obtain⟨e,E⟩:=sortedHeap_at (ä _ rfl);refine⟨.ref h'.objs.size,_,I1.laid (λb o A=>?_) (à _) (show ObjOk X.prog X.w _ _ _ (.lst _)from⟨?_,_,e,pT C,?_⟩),rfl,q _ (I1.hok.fresh (à _))⟩
 .have B:=á A;rw[sortedHeap_old (â B) (by rw[size_push'];exact Nat.lt_succ_of_lt B)];exact hP0 _ A
 .have e1:=(pT C).length;have e2:=D.length_eq;have U:=YN hi;have:=Ċ;rw[lM]
  lia
 .rw[Array.toArray_toList];exact E
def RW(rs:List Er)(S:Sto):R Er:=match rs with
 |[p]=>match EF S p with
  |some (_,kvs)=>if kvs.length<64 then(match intsOf (kvs.map (·.1))with |some ns=>.ok (.new ((PySem.W.sortI ns).map MV.int)) S|none=>.no)else .no
  |none=>.no
 |_=>.no
def Yi(j:X.calm=true):oO X W (λxs H Q=> ∃d h ds b α,xs=[.ref d]/\DK X H d h/\intsOf ds=some b/\DenL X.K α H ds (h.map λp=>kV p.1)/\↑23<64/\X.calm=true/\ ∀p,H p=none->Q (.ref p) (xY H p (.lst ((PySem.W.sortI b).map V.int)))) RW:=by
 intro rs vs α S H Q i d a;unfold RW at a;split at a
 .split at a
  .rename_i n kvs e;split at a
   .rename_i r;split at a
    .rename_i b hi;obtain⟨v,rfl,q⟩:=pY d;obtain⟨c,h,rfl,h1,s,o,k,_⟩:=Yd i e q;exact⟨c,h,_,b,α,rfl,o,hi,IC k,by rw[lM];exact r,j,λp m=>Post.newl a i m (tK _)⟩
    .exact a.elim
   .exact a.elim
  .exact a.elim
 .exact a.elim
def zBA(h:X.calm=true):oO X W (λxs H Q=> ∃(a:Addr)(bs:N0),xs=[.ref a]/\SqL X.K H a (bs.map V.bl)/\X.calm=true/\Q (.bl (bs.any id)) H) Bq:=by
 intro rs vs α S H Q c d b;unfold Bq at b;split at b
 .split at b
  .rename_i bs e;obtain⟨v,rfl,i⟩:=pY d
   cases z:kS S _ with
   |none=>rw[z]at e;cases e
   |some ds=>
    rw[z]at e;obtain⟨j,us,rfl,s,l⟩:=tN rfl c z i;refine⟨j,bs,rfl,?_,h,Post.val b c (nO _)⟩;rw[<-HW e l];exact s
  .exact b.elim
 .exact b.elim
end
section
variable{X:Cx}{W:XW}{a b:Expr}{f g:AX}{pos:Pos}
def UP:CallR X (.builtin "any") (λxs H Q=> ∃(a:Addr)(bs:N0),xs=[.ref a]/\SqL X.K H a (bs.map V.bl)/\X.calm=true/\Q (.bl (bs.any id)) H):=by
 rw[21];obtain⟨a,bs,rfl,B,z,q⟩:=h;obtain⟨u,rfl,F⟩:=vals1 r;cases F;obtain⟨its,y,w,N⟩:=I.list B;have c:its.length=bs.length:=by rw[<-y.length,lM]
 refine PySem.call_any_walk (wpAny_pyIter_list w.isList ?_);have C:a≠s.heap.objs.size:=by obtain⟨o,G,_⟩:=w.isList;exact â (á G)
 have I1: ∀(h':Heap)(tk:Nat),(∀b o,b∉[↑1]->(s.heap.push {cls:=.type "list_iterator",data:=.fields #[.ref a,.int 0 0]}).get? b=some o->h'.get? b=some o)->Inv X pins σ H {s with heap:=h',toks:=tk}:=λh' tk k=>
  I.kept λb o e=>k b o (by simpa using â (á e)) (hP0 _ e)
 refine⟨↑1,[↑1,a],[↑1],its.toArray.size,_,_,λi=>bs.getD i false,rfl,PySem.Walks.list (by first |exact I.ok.hd z|exact(I.ok.hd z)) _ a C ↑36,⟨⟨_,ä _ rfl,rfl,rfl⟩,w.isList.at λo e=>hP0 _ e⟩,?_,λh' tk k=>?_⟩
 .intro i v s' M J D n;have m:=by simpa using D
  have hi:i<bs.length:=by rw[<-c];exact(gS.mp m).1
  have A:(bs.map V.bl)[i]? =some (V.bl (bs.getD i false)):=by simp[ā,hi]
  obtain⟨L,d,p⟩:=y.get A;rw[m]at d;cases d;cases p;exact ć n
 .refine⟨.bl _,H,I1 h' tk k,?_,q⟩;congr 1;rw[sA,c]
  have: ∀(l:N0),(List.range l.length).any (λi=>l.getD i false)=l.any id:=by
   intro l;rw[Ā,ü,ü];constructor
   .rintro⟨i,hi,h⟩;have j:=ò.mp hi;exact⟨l[i],Ĩ j,by simpa [ā,j]using h⟩
   .rintro⟨x,E,h⟩;obtain⟨i,hi,rfl⟩:=ń E;exact⟨i,ò.mpr hi,by simpa [ā,hi]using h⟩
  exact this bs
def Yj(i j:Int):Prop:=0<=j
instance(i j:Int):Decidable (Yj i j):=inferInstanceAs (Decidable (_<=_))
abbrev zBB:=Ma Yj λi j=>i / 2 ^ j.toNat
def zBC(c:zN X W a f)(d:zN X W b g):zN X W (.BinOp a .RShift b pos) (λρ S=>(f ρ S).bind λp S1=>(g ρ S1).bind λq S2=>zBB p q S2):=FG Q4 (HU λi j h=>h) c d
end
end M
end L2
namespace PySem
def UQ:typeLookup (.type "list") "keys"=pure none:=am_miss_of_fast (by decide+kernel)
def getAttr?_miss_list{prog:ň}{w:World}{A:Ň}{E:VP}{s:Ņ}{a:Addr}{o:Obj}{xs:B0}{k:Nat}{name:Str}{Q:Option ņ->Ņ->Prop}
  (hx:s.heap.get? a=some o) (hc:o.cls=.type "list") (hdat:o.data=.seq xs k) (hd:o.dict=none) (hmiss:typeLookup (.type "list") name=pure none) (hname:(["__module__","__name__","__qualname__","__doc__","__annotations__"]:K0).contains name=false) (hA:A.handled=none)
  (h: ∀h' tk,↑22->Q none {s with heap:=h',toks:=tk}) (hsz:name.length+100<=sizeLine:=by size_fits):
  wpAny ↑9 A (getAttr? (.ref a) name) Q E s:=by
 obtain⟨c,n,p,sl⟩:=o;simp only at hc hdat hd;subst hc hdat hd;obtain⟨q,g,d,tk,r⟩:=s;have m: ∀i,(⟨q,g,d,i,r⟩:Ņ).TypeIs (.ref a) "list":=λ_=>⟨_,hx,rfl⟩
 have f1:=sub_AttributeError;have y:=F.slot_list_getattribute.lookup;have B:=F.slot_list_getattribute.bind (.ref a);have z:=am_list_getattr_none;unfold getAttr? getAttrBy? getAttrBy
 repeat (any_goals (first |assumption|exact m _|((with_reducible show wpAny _ _ (call (Value.builtin "list.__getattribute__") _ _) _ _ _);refine call_meets F.slot_list_getattribute (m _) am_entry_list_getattribute (F.args_list_getattribute_2 _ _) (meets_getattribute_miss_list a xs k sl name _ hmiss hname hsz) ⟨hx,hA,λh' i e j=>?_⟩)|wp_step))
 obtain⟨t',v,u⟩:=j.there;show wpAny _ _ (getattributeRaised _ _ _ _ _ _ _) _ _ _;unfold getattributeRaised
 repeat (any_goals (first |assumption|wp_step))
 exact h _ _ j.keeps
namespace F
def entry_dict_update_loop:entryFor table "dict.update.loop"=some Builtin.«dict.update.loop»:=entryFor_of_tree (by kernel_rfl)
def plain_dict_update_loop:plainId "dict.update.loop"=true:=by decide+kernel
end F
open PyProof.Rows
section
variable{prog:ň}{w:World}{K:Type}[DecidableEq K]{knd:KeyKind prog w K}{A:Ň}{E:VP}{s:Ņ}{R:Result->Ņ->Prop}
def Cg(knd:KeyKind prog w K)(h:Heap)(c:K×ņ)(v:ņ):Prop:= ∃a b,v=.ref a/\IsTup h a #[b,c.2]/\knd.is c.1 b=true
theorem GB{I D:Addr}{fp:B9}{n:Nat}{P:Nat->ņ->Prop}{St:Nat->Heap->Prop}(W:Walks prog w A.in1 I fp [I] n P St)(y:D∉fp)(kvs:List (K×ņ))(Z:kvs.length=n)(hz:n<=sizeLine){c:Heap}
  (hP: ∀i v,P i v-> ∃X,kvs[i]? =some X/\Cg knd c X v) (hI:c.get? I=none) (hD:c.get? D=none):
  ∀(k i:Nat)(j:Int)(s:Ņ),n - i=k->i<=n->St i s.heap->s.heap.DictOf knd D (merged [] (kvs.take i))->(∀b o,c.get? b=some o->s.heap.get? b=some o)->
   (∀h' tk,(∀b o,c.get? b=some o->h'.get? b=some o)->h'.DictOf knd D (merged [] kvs)->R (.ok (.ret .none)) {s with heap:=h',toks:=tk})->
   codeAny ↑9 A (.builtin "dict.update.loop" ⟨[.ref D,.ref I,rawInt j,.none],[]⟩) R s:=by
 have B:D≠I:=λe=>y (e▸W.sub _ (mS.mpr rfl));intro k
 induction k with
 |zero=>
  intro i j s hk hi r J d S;have N:i=n:=by lia
  subst N;refine Ğ F.entry_dict_update_loop ?_;rw[Ē F.plain_dict_update_loop _];show wpAny _ A.in1 _ _ _ s;refine wB (W.done s _ _ r λh' tk p=>?_);show wpAny _ A.in1 _ _ _ _;refine wB (wP ?_);rw[<-Z,List.take_length]at J;refine wP (S h' tk (λb o e=>?_) ?_)
  .exact p b o (λh=>by rw[mS.mp h,hI]at e;cases e) (d b o e)
  .obtain⟨o,es,ep,u,rest⟩:=J;exact⟨o,es,ep,p D o (λh=>B (mS.mp h)) u,rest⟩
 |succ k ih=>
  intro i j s hk hi r J d S;have z:i<n:=by lia
  refine Ğ F.entry_dict_update_loop ?_;rw[Ē F.plain_dict_update_loop _];show wpAny _ A.in1 (pyNext (.ref I) >>= _) _ _ s;refine wB (W.item i s _ _ z r λv h' tk L H p=>?_);obtain⟨X,T,a,aa,rfl,hT,E⟩:=hP i v L;have m: ∀b o,c.get? b=some o->h'.get? b=some o:=λb o e=>p b o (λh=>by rw[mS.mp h,hI]at e;cases e) (d b o e);have M:h'.DictOf knd D (merged [] (kvs.take i)):=by obtain⟨o,es,ep,u,rest⟩:=J;exact⟨o,es,ep,p D o (λh=>B (mS.mp h)) u,rest⟩
  obtain⟨o,u,hc,nn,C⟩:=hT.keeps m;have Q:Shared.TypeIs {s with heap:=h',toks:=tk} (.ref a) "tuple":=⟨o,u,hc⟩
  refine wB (Ą ?_);refine wB (wpAny_tryCatch ?_);unfold Builtin.Dict.pairItems;refine wB (Ĵ Q ?_);rw[iP ↑7];refine wB ?_;show wpAny _ _ _ _ _ _;refine wB (wpAny_load u ?_);rw[C];refine wP (wP ?_);show wpAny _ _ _ _ _ _;refine Ą ?_;have Y:=merged_length_le [] (kvs.take i);have ab:(kvs.take i).length<=n:=by rw[<-Z];exact List.length_take_le' i kvs
  refine wpAny_dictSet_pairs E M λh2 O G=>?_;have q: ∀b o,c.get? b=some o->h2.get? b=some o:=λb o e=>by rw[G.2 b (λh=>by rw[h,hD]at e;cases e)];exact m b o e
  refine wP ⟨plainId_quiet F.plain_dict_update_loop _,ih (i+1) (j+1) _ #[0] z (W.frame _ _ _ H λb hb o e=>?_) ?_ q λh3 U k3 d3=>S h3 U k3 d3⟩
  .rw[G.2 b (λh=>y (h▸hb))];exact e
  .rw[merged_take_succ _ _ _ _ T];exact O
def KP{l:Addr}{its:B0}{o:Obj}{c:Nat}{kvs:List (K×ņ)}{Q:VP}(D:A.handled=none)(G:s.heap.get? l=some o)(y:o.cls=.type "list")(I:o.dict=none)(d:o.data=.seq its c)(q:its.size=kvs.length)(M:its.size<=sizeLine)
  (hP: ∀(i:Nat) v,its[i]? =some v-> ∃H,kvs[i]? =some H/\Cg knd s.heap H v)
  (h: ∀h' tk,↑22->h'.DictOf knd ↑1 (merged [] kvs)->Q (.ref ↑1) {s with heap:=h',toks:=tk}):
  wpAny ↑9 A (call (.type "dict") [.ref l]) Q E s:=by
 refine callType_codes (Q₁:=λr j=>r=.ref ↑1/\j={s with heap:=s.heap.push {cls:=.type "dict",data:=.dict #[]}}) F.kt_called_dict (F.kt_typeCall_dict_1 _) F.entry_dict_init (kt_code_dict_new _ ⟨rfl,rfl⟩) ?_;rintro r j ⟨rfl,rfl⟩;have a:(s.heap.push {cls:=.type "dict",data:=.dict #[]}).DictOf knd ↑1 []:=Heap.DictOf.new s.heap;have m:(s.heap.push {cls:=.type "dict",data:=.dict #[]}).get? l=some o:=hP0 _ G;have C:=á G;refine⟨a.typeIs,F.args_dict_init_2 _ _,?_⟩;unfold Builtin.«dict.__init__»;refine wB ?_;unfold Builtin.Dict.selfAndRest;refine wB (wpAny_notOrdered_dict a.typeIs ?_);show wpAny _ _ _ _ _ _;refine wP ?_;show wpAny _ _ (Builtin.Dict.updateFrom "dict.__init__" ↑1 (.ref l) [] .none) _ _ _;unfold Builtin.Dict.updateFrom;refine wB (Ĵ ⟨o,m,y⟩ ?_);rw[iP ↑7];refine wB (getAttr?_miss_list m y d I UQ (by decide+kernel) D (λh1 N z=>?_) (by decide+kernel));rw[iP (show(none:Option ņ).isNone=true from rfl)];refine wB (İ ?_);have n:=z l o m;refine wB (wpAny_pyIter_list ⟨o,n,y,c,d⟩ ?_);have L:l≠h1.objs.size:=â (á n);have p:↑1<h1.objs.size:=by obtain⟨u,_,_,k,_⟩:=a;exact á (z _ _ k)
 refine wP ⟨plainId_quiet F.plain_dict_update_loop _,GB (Walks.list (by first |exact D|exact D) h1.objs.size l L its) ?_ kvs q.symm M hP ?_ ?_ _ 0 0 _ rfl (zero_le _) ⟨⟨_,ä _ rfl,rfl,rfl⟩,⟨o,hP0 _ n,y,c,d⟩⟩ ?_ ?_ λh' tk J B=>?_⟩
 .rw[mC,mS];rintro(e|e)
  .exact â p e
  .exact â C e.symm
 .cases k:s.heap.get? h1.objs.size with
  |none=>rfl
  |some u=>exact absurd (á k) (Nat.lt_asymm p)
 .cases k:s.heap.get? ↑1 with
  |none=>rfl
  |some u=>exact absurd (á k) (ĕ _)
 .obtain⟨u,es,ep,k,rest⟩:=a;exact⟨u,es,ep,hP0 _ (z _ _ k),rest⟩
 .intro b u e;exact hP0 _ (z _ _ (hP0 _ e))
 .exact⟨rfl,h h' tk J B⟩
end
end PySem
namespace L2
namespace M
open PySem PySem.Spec PyProof.Rows
section
variable{X:Cx}{W:XW}{α:B9}{H:Hp}{pins:M0}{σ:St}{s:Ņ}
def YO(ps:↑24):List (Key×V):=ps.foldl (λa p=>KO a p.1 p.2) []
inductive PairsV(K:Q0)(H:Hp):List V->List (Key×V)->Prop
 |nil:PairsV K H [] []
 |cons {a:Addr} {k:Key} {v:V} {vs ps}:SqT K H a [kV k,v]->PairsV K H vs ps->PairsV K H (.ref a::vs) ((k,v)::ps)
def Yk{ps:↑24}{qs:List (Key×ņ)}(r:KV ps qs): ∀{as:↑24}{bs:List (Key×ņ)},KV as bs->KV (ps.foldl (λa p=>KO a p.1 p.2) as) (merged bs qs):=by
 induction r with
 |nil=>intro as bs h;exact h
 |@cons p q ps qs h t ih=>
  intro as bs b;rw[ď];show KV _ _;rw[h.1];exact ih (Pz b _ h.2)
def pairs_of(I:↑2){vs:List V}{ps:↑24}(r:PairsV X.K H vs ps): ∀{us:A0},Vals vs us-> ∃qs:List (Key×ņ),KV ps qs/\qs.length=us.length/\ ∀(i:Nat) v,us[i]? =some v-> ∃b,qs[i]? =some b/\Cg (bI X.prog X.w) s.heap b v:=by
 induction r with
 |nil=>intro us h;cases h;exact⟨[],.nil,rfl,λi v h=>by simp at h⟩
 |@cons a k v vs ps hq t ih=>
  intro us h
  cases h with
  |@cons _ u _ us ru rt=>
   cases ru;obtain⟨qs,h1,d,j⟩:=ih rt;obtain⟨its,p,m,q⟩:=I.tuple hq;obtain⟨o,n,rfl,e,c⟩:=vals2 p;refine⟨(k,n)::qs,.cons ⟨rfl,c⟩ h1,by rw[lC,lC,d],λi w hw=>?_⟩
   cases i with
   |zero=>
    cases hw;exact⟨_,rfl,a,o,rfl,m,RR e⟩
   |succ i=>exact j i w hw
theorem Kq(ps:↑24):(YO ps).length<=ps.length:=by
 have: ∀(ps as:↑24),(ps.foldl (λa p=>KO a p.1 p.2) as).length<=as.length+ps.length:=by
  intro ps
  induction ps with
  |nil=>intro as;exact à _
  |cons p ps ih=>
   intro as;rw[ď,lC];have:=ih (KO as p.1 p.2);have:=YD as p.1 p.2
   lia
 have:=this ps [];rw[ĉ,ĩ]at this;exact this
def Ci{K:Q0}{vs:List V}{ps:↑24}(r:PairsV K H vs ps):ps.length=vs.length:=by
 induction r with
 |nil=>rfl
 |cons _ _ ih=>rw[lC,lC,ih]
theorem Kr:CallR X (.type "dict") (λxs H Q=> ∃l vs ps,xs=[.ref l]/\SqL X.K H l vs/\PairsV X.K H vs ps/\X.calm=true/\ ∀d,H d=none->Q (.ref d) (xY H d (.dK (YO ps)))):=by rw[21];obtain⟨l,vs,ps,rfl,y,k,C,q⟩:=h;obtain⟨u,rfl,A⟩:=vals1 r;cases A;obtain⟨its,j,⟨o,n,E,c,p,a⟩,J⟩:=I.list y;obtain⟨qs,h1,m,B⟩:=pairs_of I k j;have G:=j.length;refine KP (I.ok.hd C) E c p a (by rw[sA,m]) (by rw[sA];lia) (λi v e=>B i v (by simpa using e)) λh' tk z b=>?_;have D:=Ci k;have F:=Kq ps;refine⟨.ref ↑1,_,I.laid z (à _) (show ObjOk X.prog X.w _ h' _ (.dK (YO ps))from⟨by lia,ħ.mpr (Ne.symm (â (Po I))),_,Yk h1 .nil,b⟩),rfl,q _ (I.hok.fresh (à _))⟩
def uI:List MV->Option (List (MV×MV))
 |[]=>some []
 |.tup [k,v]::r=>if DA k=true then(uI r).map ((k,v)::·)else none
 |_::_=>none
def G9(ps:zA0):List (MV×MV):=ps.foldl (λa p=>putK a p.1 p.2) []
theorem ND{K:Q0}: ∀{ds:U0}{kvs:zA0}{vs:List V},uI ds=some kvs->DenL X.K α H ds vs-> ∃ps,PairsV X.K H vs ps/\DenK X.K α H kvs ps
 |[],kvs,vs,e,l=>by cases e;rw[l.isnil];exact⟨[],.nil,.nil⟩
 |d::ds,kvs,vs,e,l=>by
  obtain⟨v,r,rfl,p,m⟩:=l.uncons;unfold uI at e;split at e
  .cases (by assumption:d::ds=[])
  .rename_i k y B h;obtain⟨rfl,rfl⟩:=List.cons.inj h;split at e
   .rename_i j
    cases z:uI ds with
    |none=>rw[z]at e;cases e
    |some ms=>
     rw[z]at e;cases e;obtain⟨ps,p1,p2⟩:=ND (K:=K) z m;obtain⟨a,us,rfl,hs,o⟩:=xC p;obtain⟨s,A,rfl,c,i⟩:=o.uncons;obtain⟨u,w,rfl,q,n⟩:=i.uncons;have e2:=n.isnil;subst e2;obtain⟨C,b⟩:=ÿ.mp j;have e1:=Ki b c;subst e1;exact⟨_,.cons hs p1,.cons (Kh b) q p2⟩
   .cases e
  .cases e
theorem RX: ∀{kvs:zA0}{ps:↑24},DenK X.K α H kvs ps-> ∀{as:zA0}{bs:↑24},DenK X.K α H as bs->DenK X.K α H (kvs.foldl (λb p=>putK b p.1 p.2) as) (ps.foldl (λb p=>KO b p.1 p.2) bs)
 |_,_,.nil,as,bs,h=>h
 |_,_,.cons hk a l,as,bs,h=>by exact RX l (YF h hk a)
def Fy:List Er->Sto->R Er
 |[r],S=>match (kS S r).bind uI with |some kvs=>.ok (.val (.loc S.length)) (S++[.dic (G9 kvs)])|none=>.no
 |_,_=>.no
def Yl:bootBuiltins "dict"=some (.type "dict"):=by decide+kernel
def Ym(i:X.calm=true):oO X W (λxs H Q=> ∃l vs ps,xs=[.ref l]/\SqL X.K H l vs/\PairsV X.K H vs ps/\X.calm=true/\ ∀d,H d=none->Q (.ref d) (xY H d (.dK (YO ps)))) Fy:=by
 intro rs vs α S H Q b d a;unfold Fy at a;split at a
 .split at a
  .rename_i kvs e;obtain⟨v,rfl,j⟩:=pY d
   cases z:kS S _ with
   |none=>rw[z]at e;cases e
   |some ds=>
    rw[z]at e;obtain⟨n,us,rfl,q,l⟩:=tN rfl b z j;obtain⟨ps,p1,p2⟩:=ND (K:=X.K) e l;refine⟨n,us,ps,rfl,q,p1,i,λp c=>?_⟩;have h:=b.newx (o:=.dK (YO ps)) c;obtain⟨x,k⟩:=b.put (m:=.dic _) c (.inl ⟨_,zX,(RX p2 .nil).ex0 ⟨⟨[p],rfl⟩,h.tup,h.frz⟩⟩);exact a _ _ _ x k (DenE.val (FF (by rw[<-b.len,î (à _),sub_self];rfl)))
  .exact a.elim
 .exact a.elim
end
section
variable{X:Cx}{W:XW}
theorem Kt:CallR X (.builtin "len") (λxs H Q=> ∃d a,xs=[.ref d]/\DK X H d a/\Q (.int a.length) H):=by intro pins s σ H vs us Q I k h;obtain⟨d,a,rfl,i,q⟩:=h;obtain⟨n,rfl,e⟩:=vals1 k;cases e;obtain⟨z,hs,vs,b,c⟩:=oU I i;have j:=Paired.length b;have m:=Ċ;refine PySem.call_len_dict hs c #[0] ⟨.int a.length,H,(I.tok _).tok _,by rw[j];exact⟨_,rfl⟩,q⟩
def YQ:List Er->Sto->R Er
 |[r],S=>match EF S r with
  |some (_,kvs)=>.ok (.val (.int kvs.length)) S
  |none=>.no
 |_,_=>.no
def Yn:oO X W (λxs H Q=> ∃d b,xs=[.ref d]/\DK X H d b/\Q (.int b.length) H) YQ:=by
 intro rs vs α S H Q i d a;unfold YQ at a;split at a
 .split at a
  .rename_i l kvs e;obtain⟨v,rfl,m⟩:=pY d;obtain⟨c,b,rfl,h1,n,h,j,_⟩:=Yd i e m;have k:=DenK.length j;refine⟨c,b,rfl,h,?_⟩;rw[k];exact Post.val a i (xZ _)
  .exact a.elim
 .exact a.elim
end
section
variable{X:Cx}
noncomputable def valZ(ys:Za)(i:Nat):Key:=.inl (ys.getD i 0)
def rK(ys:Za):Nat:=(oV (valZ ys) ys.length).length
def Cj(P:ň)(w:World)(l:Addr)(ys:Za):HO:=.ext λh=>KSet P w h l (valZ ys) ys.length
theorem Fz: ∀{ys:Za}{us:A0},Vals (ys.map V.int) us->us.length=ys.length/\ ∀(i:Nat)(v:ņ),us[i]? =some v->StrAt (valZ ys) i v
 |[],us,r=>by cases r;exact⟨rfl,λi v h=>by simp at h⟩
 |y::ys,us,r=>by
  cases r with
  |cons r1 r2=>
   obtain⟨t,rfl⟩:=r1;obtain⟨h1,a⟩:=Fz r2;refine⟨by rw[lC,lC,h1],λi v h=>?_⟩
   cases i with
   |zero=>
    simp at h;exact .inr ⟨y,t,rfl,h.symm⟩
   |succ i=>exact a i v (by simpa using h)
theorem Ku:CallR X (.builtin "len") (λxs H Q=> ∃l ys,xs=[.ref l]/\ys.length<4000/\H l=some (Cj X.prog X.w l ys)/\Q (.int (rK ys:Nat)) H):=by
 rw[21];obtain⟨l,ys,rfl,y,p,q⟩:=h;obtain⟨u,rfl,m⟩:=vals1 r;cases m;obtain⟨hs,_⟩:=(I.hok l _ p)
 obtain⟨o,es,ep,t,v,a,e,d,c,i,n,j⟩:=hs;have b:rK ys=es.size:=j.symm;rw[b]at q;have k:es.size<4096:=i;exact call_len_set v a e n #[0] ⟨.int _,H,I.tok _,⟨_,rfl⟩,q⟩
theorem RY{K:Q0}{α:B9}{H:Hp}: ∀{ds:U0}{ys:Za}{vs:List V},intsOf ds=some ys->DenL K α H ds vs->vs=ys.map V.int
 |[],ys,vs,h,d=>by cases h;rw[d.isnil];rfl
 |x::ds,ys,vs,h,d=>by
  obtain⟨v,r,rfl,a,l⟩:=d.uncons
  cases x with
  |int x=>
   unfold intsOf at h
   cases z:intsOf ds with
   |none=>rw[z]at h;cases h
   |some zs=>
    rw[z]at h;cases h;rw[ê,xB a,RY z l]
  |_=>cases h
end
section
variable{prog:ň}{w:World}{K:Type}[DecidableEq K]{knd:KeyKind prog w K}
def TSet(knd:KeyKind prog w K)(h:Heap)(a:Addr)(S:K->Bool)(n:Nat)(b:Bool):Prop:=
 ∃o es ep t,h.get? a=some o/\o.ExactSet/\o.data=.set es ep t/\ElemsOf knd es.toList/\(∀k,S k=true↔ ∃e∈es.toList,knd.is k e.2=true)
  /\es.size<scanBound/\t.fits es.size=true/\es.size=n/\t.led=b/\(es.size=0\/t.plain=false)/\(es.toList.map (·.2)).Pairwise (λx y=> ∀k,knd.is k x=true-> ¬knd.is k y=true)
end
def StrT(val:Nat->Key)(i:Nat)(v:ņ):Prop:= ∃x t,val i=.inr x/\v=.str x t
def StrT.is{P:ň}{w:World}{val:Nat->Key}{i:Nat}{v:ņ}(h:StrT val i v):(bI P w).is (val i) v=true/\v.scannable=true/\plainKind v=false:=by obtain⟨x,t,e,rfl⟩:=h;rw[e];exact⟨AC P w x t,rfl,rfl⟩
section
variable{α:Type}
theorem NF: ∀(l:List α)(i:Nat)(hi:i<l.length),(l[i]::l.eraseIdx i).Perm l
 |x::l,0,_=>.refl _
 |x::l,i+1,hi=>by
  have a:=by simpa using hi
  have:=NF l i a;exact(List.Perm.swap x l[i] _).trans (this.cons x)
def SetAt(h:Heap)(D:Addr)(es:L1)(ep:Nat)(t:SetTable):Prop:= ∃o,h.get? D=some o/\o.ExactSet/\o.data=.set es ep t/\t.fits es.size=true
end
theorem Ga{α:Type}(next:Nat->Nat): ∀(a k:Nat)(left:List α)(out:Array α),left.length=a->(pickOrder.go next a k left out).toList.Perm (out.toList++left)
 |0,k,left,out,h=>by have e:=List.eq_nil_of_length_eq_zero h;subst e;unfold pickOrder.go;rw[aN]
 |a+1,k,left,out,h=>by
  have hi:next k % left.length<left.length:=Nat.mod_lt _ #[0]
  unfold pickOrder.go;rw[gE hi];refine(Ga next a _ _ _ (by rw[List.length_eraseIdx_of_lt hi,h];rfl)).trans ?_;rw[Array.toList_push,aA];exact(NF left _ hi).append_left out.toList
def Kv{α:Type}(next:Nat->Nat)(xs:Array α):(pickOrder next xs).toList.Perm xs.toList:=by
 have:=Ga next xs.size 0 xs.toList #[] (by simp)
 simpa [pickOrder]using this
def SetAt.keep{h h':Heap}{D:Addr}{es:L1}{ep:Nat}{t:SetTable}(x:SetAt h D es ep t)(m: ∀o,h.get? D=some o->h'.get? D=some o):SetAt h' D es ep t:=by obtain⟨o,a,r⟩:=x;exact⟨o,m o a,r⟩
section
variable{X:Cx}{W:XW}{o e:Expr}{es:P0}{f:AX}{af:↑13}{apos pos:Pos}
def rSX(X:Cx):V->List V->Hp->VK->Prop:=λx vs H Q=> ∃(a:↑24)(d:Addr)(k:Key)(y:V),x=.ref d/\vs=[kV k,y]/\DK X H d a/\a.length<sizeLine/\(∀v,cT a k=some v->Q v H)/\(cT a k=none->Q y (xY H d (.dK (KO a k y))))
theorem zBD:E8 X "dict.setdefault" (rSX X):=by
 intro pins s σ H x vs v us Q I J K h;obtain⟨i,d,k,y,rfl,rfl,j,hz,N,A⟩:=h;obtain⟨Y,S,rfl,E,w⟩:=vals2 K;cases J;have z:s.TypeIs _ "dict":=(UN pins s σ H (.ref d) _ I rfl ⟨d,i,rfl,j⟩).1;obtain⟨_,hs,ws,p,C⟩:=oU I j;have Z:=Paired.length p;obtain⟨r,L⟩:=FZ p k;have W:=YD i k y;refine ö PySem.F.slot_dict_setdefault z PySem.F.entry_dict_setdefault ?_ (PySem.F.args_dict_setdefault_3 _ _ _);unfold Builtin.«dict.setdefault»;refine wB ?_;unfold Builtin.Dict.keyAndDefault;refine wB (wpAny_notOrdered_dict z ?_);show wpAny _ _ _ _ _ s;refine wP ?_;show wpAny _ _ (if _=true then _ else _) _ _ s;rw[iN (by rw[hs];exact xF0)];refine wB (kt_dictSetDefault_pairs (RR E) C (λu n=>?_) (λP h' c m=>?_) #[0])
 .cases a:cT i k with
  |some v=>
   obtain⟨M,e,T⟩:=r v a;rw[n]at e;cases e;exact wP ⟨u,rfl,v,H,I.tok _,T,N v a⟩
  |none=>rw[L a]at n;cases n
 .cases a:cT i k with
  |some v=>
   obtain⟨M,e,_⟩:=r v a;rw[P]at e;cases e
  |none=>
   have B: ∃q,h'.get? d=some q:=let ⟨q,_,_,G,_⟩:=c;⟨q,G⟩;exact wP ⟨S,rfl,y,_,I.write (o:=.dK _) (Qi j) (.inl rfl) (λb U D O=>(m.2 b D).trans O) B ⟨by lia,hs,_,Pz p _ w,c⟩,w,A a⟩
def Kw(p:Er)(k y:MV)(S1:Sto):R Er:=match EF S1 p with
 |some (l,kvs)=>if DA k=true/\kvs.length<1000000 then(match look kvs k with
  |some d=>.ok (.val d) S1
  |none=>.ok (.val y) (S1.set l (.dic (putK kvs k y))))else .no
 |none=>.no
def Ck(p:Er)(rs:List Er)(S:Sto):R Er:=match rs with
 |[.val k,r]=>(wI r S).bind λy S1=>Kw p k y S1
 |_=>.no
def zBE:XM X W (rSX X) Ck:=by
 intro p rs x vs α S H0 H Q n J F I s a
 match rs,s,a with
 |[],_,a=>exact a.elim
 |[.val _],_,a=>exact a.elim
 |.new _::_,_,a=>exact a.elim
 |.val _::_::_::_,_,a=>exact a.elim
 |[.val k,r],s,a=>
  cases s with
  |cons dk n1 l1=>
   cases l1 with
   |cons d n2 l2=>
    cases l2;obtain⟨O,S',α',L,B,D,i,C⟩:=pR J F d;have a:Post X.g W n H0 ((wI r S).bind λy S1=>Kw p k y S1) Q:=a;rw[L]at a;have a:Post X.g W n H0 (Kw p k O S') Q:=a;unfold Kw at a;split at a
    .rename_i l kvs z;split at a
     .rename_i w
      have u:DenX X.K α' H p x:=by
       cases p with
       |val m=>exact Den.ex0 D I
       |new ds=>cases z
      obtain⟨c,M,rfl,o,P,b,q,_⟩:=Yd i z u;obtain⟨N,h⟩:=ÿ.mp w.1;obtain⟨A,g2⟩:=tP q (Kh h);have G:=Ki h (Den.ex0 D dk.1);subst G;refine⟨M,c,N,_,rfl,rfl,b,?_,λv e=>?_,λe=>?_⟩
      .rw[q.length];exact é w.2 (fits (à _))
      .cases j:look kvs k with
       |some d2=>
        obtain⟨E,e1,e2⟩:=A d2 j;rw[e1]at e;cases e;rw[j]at a;exact(Post.shift B a).val i e2
       |none=>rw[g2 j]at e;cases e
      .cases j:look kvs k with
       |some d2=>obtain⟨E,e1,e2⟩:=A d2 j;rw[e1]at e;cases e
       |none=>
        rw[j]at a;exact(Post.shift (B.trans (i.writex o b.nf)) a).val (i.write o b.nf (.inl ⟨_,zX,(YF q (Kh h) C).ex0 (i.writex o b.nf).toEx0⟩)) (C.ext (i.writex o b.nf))
     .exact a.elim
    .exact a.elim
def zBF(h:zN X W o f)(b:LY X W (e::es) af)
  (hbase:attributeBase o "setdefault" X.env (eval o X.env)=eval o X.env:=by rfl)
  (hfew:((backTo pos (starEach (e::es) X.env)).all (λx=>!x.1)&&(backToKw pos (keywordEach [] X.env)).all (λx=>x.1.isSome)
   &&decide ↑10)=true:=by rfl)
  (hline:(apos.endLine==pos.line)=true:=by rfl) (hs:q8 X e es:=by rfl) (hplain:q9 X pos es:=by rfl):
  zN X W (.Call (.Attribute o "setdefault" apos) (e::es) [] pos) (λρ S=>(f ρ S).bind λp S1=>if NB p S1=true then(af ρ S1).bind λrs S2=>Ck p rs S2 else .no):=by
 obtain⟨to,h,w⟩:=h;obtain⟨t,b,k⟩:=b;refine⟨_,Qc UN PySem.F.plainAttrs_dict PySem.F.slot_dict_setdefault PySem.F.type_dict_setdefault zBD h b hbase hfew hline hs hplain,λα ρ S σ H Q z sl q=>w α ρ S σ H _ z sl (q.bind λu p S1 a H1 e1 r s m d=>?_)⟩;split at d
 .rename_i j;obtain⟨⟨l,kvs⟩,j⟩:=ÿ.mp j;obtain⟨c,xs,rfl,_,_,B,_⟩:=Yd s j m.1;exact⟨⟨c,xs,rfl,B⟩,k a ρ S1 σ H1 _ s (sl.ext r) ((d.shift r).bind λvs rs S2 i y e2 n A C v=>zBE p rs _ vs i S2 H1 y Q a A n (m.1.ext n) C v)⟩
 .exact d.elim
end
section
variable{X:Cx}{W:XW}{a b:Expr}{f g:AX}{pos:Pos}
abbrev Gb:=Ma (λ_ _=>True) λi j=>Builtin.bitAnd i j
def Yo(d:zN X W a f)(c:zN X W b g):zN X W (.BinOp a .BitAnd b pos) (λρ S=>(f ρ S).bind λp S1=>(g ρ S1).bind λq S2=>Gb p q S2):=FG Q5 Eu d c
end
theorem DenF.len{K:Q0}{α:B9}{H:Hp}: ∀{fs a},DenF K α H fs a->a.length=fs.length
 |_,_,.nil=>rfl
 |_,_,.cons b l=>by rw[lC,lC,DenF.len l]
section
variable{X:Cx}{W:XW}{a b:Expr}{f g:AX}{pos:Pos}
def zGM(X:Cx):R2:=λx y H Q=> ∃(a:↑24)(d:Addr)(k:Key)(v:V),x=.ref d/\y=kV k/\DK X H d a/\cT a k=some v/\Q v H
def Ql:IxR X (zGM X):=by intro value a pins s σ H x y u v Q I p m h b;obtain⟨w,d,k,e,rfl,rfl,o,j,q⟩:=h;cases p;obtain⟨_,hs,ws,i,c⟩:=oU I o;obtain⟨r,e1,n⟩:=(FZ i k).1 e j;exact subscriptTail_builtinR c.typeIs slot_dict_getitem.lookup (wpAny_getItem_of (RR m) c.mapOf e1 ⟨rfl,e,H,I.tok _,n,q⟩) b
def UR(p q:Er)(S:Sto):R Er:=match EF S p,q with
 |some (_,kvs),.val k=>if DA k=true then(match look kvs k with |some d=>.ok (.val d) S|none=>.no)else .no
 |_,_=>.no
def Yp:Eo X W (zGM X) UR:=by
 intro p q x y α S H Q i n s a;unfold UR at a;split at a
 .rename_i l kvs k r;obtain⟨c,v,rfl,A,z,e,o,_⟩:=Yd i r n;split at a
  .rename_i h;obtain⟨w,b⟩:=ÿ.mp h;have m:=Ki b s;subst m;split at a
   .rename_i d u;obtain⟨j,e1,e2⟩:=(tP o (Kh b)).1 d u;exact⟨v,c,w,j,rfl,rfl,e,e1,Post.val a i e2⟩
   .exact a.elim
  .exact a.elim
 .exact a.elim
def zBG(c:zN X W a f)(d:zN X W b g)(hs:KY b:=by exact λ_ _=>rfl):zN X W (.Subscript a b pos) (λρ S=>(f ρ S).bind λp S1=>(g ρ S1).bind λq S2=>UR p q S2):=F4 Ql Yp c d hs
end
section
variable{X:Cx}{pins:M0}{σ:St}{H:Hp}{s:Ņ}{α:B9}{o:Expr}
def _root_.L2.Inv.freezeD{d:Addr}{ob:Obj}{kvs:zA0}{xs:↑31}(I:↑2)(j:DD X H d xs)(P:DenN X.K α H kvs xs)(O:s.heap.get? d=some ob):Inv X pins σ (xY H d (.frz ob (DN X.prog X.w d xs))) s:=by
 obtain⟨⟨o',es,ep,p,F,D,C,T,N⟩,Q,hs⟩:=LB I j P;have a: ∀i,H d≠some (.tup i):=λi e=>by rcases j with h|⟨_,h⟩<;>(rw[h]at e;cases e)
 have q: ∀b,H d≠some (.own b):=λb e=>by rcases j with h|⟨_,h⟩<;>(rw[h]at e;cases e)
 have k: ∀b,H d≠some (.tbl b):=λb e=>by rcases j with h|⟨_,h⟩<;>(rw[h]at e;cases e)
 have m:H d≠none:=λe=>by rcases j with h|⟨_,h⟩<;>(rw[h]at e;cases e)
 have ne: ∀{b:Addr}{v:HO},H b=some v->H d≠some v->b≠d:=λe n z=>n (z▸e);refine I.step (ch:=[]) (λ_ z=>nomatch z) (λb o _ _ _ e _=>e) (λb o _ _ _ e _=>⟨_,e⟩) (λb o _ e n=>?_) (λb o _ e=>⟨o,e⟩) (λb i e=>?_) (λb o u e=>?_) (λb ps e=>?_) (λ_ z=>z) (λb u e=>?_) I.bare
 .rw[zL (λz=>m (by rw[<-z];exact n))];exact n
 .rw[zL (ne e (a i))];exact e
 .rw[zL (ne e (j.nf o u))];exact e
 .exact⟨#[],by rw[zL (ne e (k ps)),e];simp⟩
 .by_cases B:b=d
  .subst B;rw[zX]at e;cases e;refine⟨O,⟨Q,hs,o',es,ep,p,F,D,C,N⟩,⟨_,p⟩,?_⟩;rintro h1 S ⟨E,J,G,A,y,M,r⟩ L;exact⟨E,J,G,A,y,L _ M,r⟩
  .rw[zL B]at e;exact(I.hok b u e).stay (λ_ _ _ r=>r) (λc r=>by rw[zL (ne r (q b))];exact r) λc i r=>by rw[zL (ne r (a i))];exact r
theorem DenN.at'{α:B9}{H:Hp}{K:Q0}: ∀{kvs:zA0}{xs:↑31}{i:Nat}{b:MV×MV},DenN K α H kvs xs->kvs[i]? =some b-> ∃x,xs[i]? =some x/\Den K α H b.1 (.ref x.2.1)
 |_,_,0,_,.cons hk e a d r l,h=>by cases h;exact⟨_,rfl,a⟩
 |_,_,i+1,_,.cons hk e a d r l,h=>DenN.at' (i:=i) l h
end
def KX(l:Bool)(K:Q0)(α:B9)(H:Hp)(d:MV)(v:V):Prop:=if l=true then∃es a vs,d=.tup es/\v=.ref a/\H a=some (.lst vs)/\a∉α/\DenL K α H es vs else Den K α H d v
inductive KXL(l:Bool)(K:Q0)(α:B9)(H:Hp):List MV->List V->Prop
 |nil:KXL l K α H [] []
 |cons {d v ds vs}:KX l K α H d v->KXL l K α H ds vs->KXL l K α H (d::ds) (v::vs)
section
variable{l:Bool}{K:Q0}{α:B9}{H:Hp}
theorem KXL.length: ∀{ds:U0}{vs:List V},KXL l K α H ds vs->vs.length=↑23
 |_,_,.nil=>rfl
 |_,_,.cons h t=>by rw[lC,lC,KXL.length t]
theorem KXL.append: ∀{ds es:U0}{vs us:List V},KXL l K α H ds vs->KXL l K α H es us->KXL l K α H (ds++es) (vs++us)
 |_,_,_,_,.nil,h=>h
 |_,_,_,_,.cons a t,h=>.cons a (KXL.append t h)
theorem KXL.at: ∀{ds:U0}{vs:List V}{i:Nat}{d:MV},KXL l K α H ds vs->ds[i]? =some d-> ∃v,vs[i]? =some v/\KX l K α H d v
 |_,_,0,_,.cons h t,e=>by cases e;exact⟨_,rfl,h⟩
 |_,_,i+1,_,.cons h t,e=>KXL.at (i:=i) t e
end
open Classical in
def KAt(d:Addr)(us:A0)(ep:Nat)(h:Heap):Prop:= ∃o es,h.get? d=some o/\o.ExactDict/\o.data=.dict es ep/\es.toList.map (·.key)=us
def KAt.at{d:Addr}{us:A0}{ep:Nat}{h h':Heap}(x:KAt d us ep h)(m: ∀o,h.get? d=some o->h'.get? d=some o):KAt d us ep h':=let ⟨o,es,a,r⟩:=x;⟨o,es,m o a,r⟩
theorem KAt.size{d:Addr}{us:A0}{ep:Nat}{h:Heap}(x:KAt d us ep h): ∃o es,h.get? d=some o/\o.ExactDict/\o.data=.dict es ep/\es.size=us.length/\ ∀i (hi:i<es.size),us[i]? =some es[i].key:=by obtain⟨o,es,b,a,c,e⟩:=x;refine⟨o,es,b,a,c,by rw[<-e,lM,ú],λi hi=>?_⟩;rw[<-e,ð,þ,ı hi];rfl
section
variable{P:ň}{w:World}{A:Ň}{E:VP}{s:Ņ}{d it:Addr}{us:A0}{ep i:Nat}
def RZ{Q:VP}(hs:(d==sysModules)=false)(i:KAt d us ep s.heap)
  (hQ:Q (.ref ↑1) {s with heap:=s.heap.push {cls:=.type "dict_keyiterator",data:=.fields #[.ref d,.int 0 0,.int us.length 0,.int ep 0]}}):wpAny (model P w) A (pyIter (.ref d)) Q E s:=by
 obtain⟨o,es,e,h,a,c,_⟩:=i.size;have b:s.TypeIs (.ref d) "dict":=⟨o,e,h.1⟩
 refine wpAny_pyIter_slot b PySem.F.slot_dict_iter (ö PySem.F.slot_dict_iter b PySem.F.entry_dict_iter ?_ (PySem.F.args_dict_iter_1 _));refine wB ?_;refine wB (wpAny_notOrdered_dict b ?_);show wpAny _ _ _ _ _ s;refine wP ?_;show wpAny _ _ (Builtin.Dict.showsAll d >>= _) _ _ s;unfold Builtin.Dict.showsAll;rw[iN (by rw[hs];exact xF0)];refine wB (wP ?_);refine wB (wpAny_dictEntries e a ?_);refine wB (wpAny_dictEpoch e a ?_);refine wB (Č (wP ⟨_,rfl,_,_,⟨_,ä _ rfl,rfl⟩,PySem.F.slot_dict_keyiterator_next.lookup,?_⟩));simpa [rawInt,c]using hQ
theorem YR{x:ņ}{Q:Option ņ->Ņ->Prop}(a:s.heap.IsKeyIter it d i us.length ep)(y:KAt d us ep s.heap)(r:us[i]? =some x)
  (hQ: ∀h',h'.IsKeyIter it d (i+1) us.length ep->Heap.SameBut it s.heap h'->Q (some x) {s with heap:=h'}):wpAny (model P w) A (pyNext (.ref it)) Q E s:=by
 obtain⟨o,q,u,n⟩:=id a;obtain⟨B,es,h,z,j,e,m⟩:=y.size;have p:i<us.length:=(gS.mp r).1;have b:i<es.size:=by rw[e];exact p
 have v:es[i].key=x:=by have:=m i b;rw[r]at this;exact(ã this).symm
 unfold pyNext;refine wB (wpAny_attempt (Ĉ a.typeIs PySem.F.slot_dict_keyiterator_next (ö PySem.F.slot_dict_keyiterator_next a.typeIs PySem.F.entry_dict_keyiterator_next ?_ (PySem.F.args_dict_keyiterator_next_1 _))));refine wB (wP (wB (wB ?_)))
 first |refine wB (Ħ a.typeIs (wP ?_))|refine wB _
 refine wB (wpAny_fieldsOf q n ?_);have k:Builtin.Dict_items.ownsTuple "dict_keyiterator"=false:=by decide
 simp only[k,fT0,iF];show wpAny _ _ (if _=true then _ else _) _ _ s;rw[iN (show¬((Value.ref d==Value.none)=true)from xF0)];refine wB (wP (wB (wpAny_dictEntries h j ?_)));rw[iN (by rw[e];simp)];refine wB (wP (wB (wpAny_dictEpoch h j ?_)));rw[iN (by simp)];refine wP ?_;simp only[show¬((i:Int)<0)from by lia,iF,ē,ı b];refine wB ?_
 first |refine wB (Ħ a.typeIs (wP ?_))|refine wB _
 refine wB (wpAny_isOneOf_keyiter a.typeIs ?_);show wpAny _ _ (setField (.ref it) 1 (rawInt ((i:Int)+1)) >>= _) _ _ s;refine wB (wpAny_setField q n (by simp) ?_)
 have c:(s.heap.update it (Obj.mapFields (·.setIfInBounds 1 (rawInt ((i:Int)+1))))).IsKeyIter it d (i+1) us.length ep:=
  ⟨_,Heap.get?_update_self _ q (Obj.isFreed_of_fields (Obj.data_mapFields n _)),(Obj.cls_mapFields ..).trans u,by rw[Obj.data_mapFields n];simp[rawInt]⟩
 refine wB (Ą ?_);refine wB (wpAny_isOneOf_keyiter c.typeIs ?_);show wpAny _ _ (pure es[i].key) _ _ _;exact wP (wP ⟨_,rfl,wP (v▸hQ _ c (ĺ ..))⟩)
theorem YS{Q:Option ņ->Ņ->Prop}(r:A.handled=none)(a:s.heap.IsKeyIter it d i us.length ep)(p:KAt d us ep s.heap)(q:us.length<=i)
  (hQ: ∀h',Heap.ExtBut it s.heap h'->Q none {s with heap:=h'}):wpAny (model P w) A (pyNext (.ref it)) Q E s:=by
 obtain⟨o,m,v,k⟩:=id a;obtain⟨y,es,c,u,e,b,n⟩:=p.size;have j:es.size<=i:=by rw[b];exact q
 unfold pyNext;refine wB (wpAny_attempt (Ĉ a.typeIs PySem.F.slot_dict_keyiterator_next (ö PySem.F.slot_dict_keyiterator_next a.typeIs PySem.F.entry_dict_keyiterator_next ?_ (PySem.F.args_dict_keyiterator_next_1 _))));refine wB (wP (wB (wB ?_)))
 first |refine wB (Ħ a.typeIs (wP ?_))|refine wB _
 refine wB (wpAny_fieldsOf m k ?_);have h:Builtin.Dict_items.ownsTuple "dict_keyiterator"=false:=by decide
 simp only[h,fT0,iF];show wpAny _ _ (if _=true then _ else _) _ _ s;rw[iN (show¬((Value.ref d==Value.none)=true)from xF0)];refine wB (wP (wB (wpAny_dictEntries c e ?_)));rw[iN (by rw[b];simp)];refine wB (wP (wB (wpAny_dictEpoch c e ?_)));rw[iN (by simp)];refine wP ?_;simp only[show¬((i:Int)<0)from by lia,iF,ē,Array.getElem?_eq_none j];refine wB ?_
 first |refine wB (Ħ a.typeIs (wP ?_))|refine wB _
 show wpAny _ _ (setField (.ref it) 0 .none >>= _) _ _ s;refine wB (wpAny_setField m k (by simp) ?_);show wpAny _ _ _ _ _ _;refine wB ?_;simp only[newExc,newTuple];refine wB (Č ?_ (by size_fits));refine wB (wpAny_of_eq (by first |rfl|(simp only[firstArgMember];rfl)) ?_);refine Č ?_ (by size_fits);simp only[raiseNew];refine wB (wpAny_handled ?_);rw[show A.in1.handled=none from r];refine wB (wP (wpAny_throw ?_));refine wB (ĵ ⟨_,ä _ rfl,rfl⟩ isSubtype_stop ?_);exact wP (hQ _ (((ĺ ..).extBut.push _).push _))
def Ky(hh:A.handled=none)(I:Addr)(hne:d≠I)(us:A0)(ep:Nat):Walks P w A I [I,d] [I] us.length (λi x=>us[i]? =some x) (λi h=>h.IsKeyIter I d i us.length ep/\KAt d us ep h) where
 sub:=λb hb=>by simp at hb;simp[hb]
 frame:=λ_ _ _ st hk=>⟨st.1.at λo e=>hk I (by simp) o e,st.2.at λo e=>hk d (by simp) o e⟩
 item:=λi s Q E hi st hQ=>by have hx:=gE hi;refine YR st.1 st.2 hx λh' hit' hs'=>?_;exact hQ _ h' s.toks hx ⟨hit',st.2.at λo e=>hs'.extBut d o hne e⟩ λb o hb e=>hs'.extBut b o (λh=>hb (by simp[h])) e
 done:=λs Q E st hQ=>YS hh st.1 st.2 (à _) λh' he'=>hQ h' s.toks λb o hb e=>he' b o (λh=>hb (by simp[h])) e
 self:=λ_ _ _ _ st hQ=>wpAny_pyIter_keyiter st.1 hQ
def Qm(us:A0)(ep:Nat):PySem.W.KdlSrc P w "dict" d d us.length (λi x=>us[i]? =some x) (λh=>(d==sysModules)=false/\KAt d us ep h) where
 type:=λ_ hm=>let ⟨o,_,ho,hc,_⟩:=hm.2;⟨o,ho,hc.1⟩
 there:=λ_ hm=>⟨let ⟨_,_,ho,_⟩:=hm.2;á ho,let ⟨_,_,ho,_⟩:=hm.2;á ho⟩
 keep:=λ_ _ hm hk=>⟨hm.1,hm.2.at λo e=>hk d (.inl rfl) o e⟩
 notList:=by decide
 notTuple:=by decide
 hint:=λ_ _ _ _ hm hq=>PySem.W.kdl_hint_dict (let ⟨o,_,ho,hc,_⟩:=hm.2;⟨o,ho,hc.1⟩) hq
 iter:=λ_ _ hh hm=>⟨_,_,(λ_ _ hq=>RZ hm.1 hm.2 hq),Ky hh _ (â (let ⟨_,_,ho,_⟩:=hm.2;á ho)) us ep,⟨⟨_,ä _ rfl,rfl,rfl⟩,hm.2.at λo e=>hP0 _ e⟩⟩
end
section
variable{X:Cx}{W:XW}
theorem YT{K:Q0}{α:B9}{H:Hp}: ∀{kvs:zA0}{xs:↑31},DenN K α H kvs xs->DenL K α H (kvs.map (·.1)) (xs.map λx=>V.ref x.2.1)
 |_,_,.nil=>yL
 |_,_,.cons hk e a d r l=>yH a (YT l)
theorem YU: ∀(xs:↑31),Vals (xs.map λx=>V.ref x.2.1) (xs.map λx=>Value.ref x.2.1)
 |[]=>.nil
 |x::xs=>.cons rfl (YU xs)
theorem Cm:CallR X (.type "list") (λxs H Q=> ∃d a α kvs,xs=[.ref d]/\DD X H d a/\DenN X.K α H kvs a/\X.calm=true/\ ∀p,H p=none->Q (.ref p) (xY H p (.lst (a.map λx=>V.ref x.2.1)))):=by
 rw[21];obtain⟨d,a,α,kvs,rfl,E,J,C,q⟩:=h;obtain⟨u,rfl,B⟩:=vals1 r;cases B;obtain⟨⟨o,es,ep,F,i,v,n,_,_⟩,k,hs⟩:=LB I E J;have m:KAt d (a.map λx=>Value.ref x.2.1) ep s.heap:=⟨o,es,F,i,v,by rw[n,û];rfl⟩
 refine PySem.W.kdl_call (Qm _ ep) (I.ok.hd C) ⟨hs,m⟩ (by rw[lM];exact k) λh' tk c D y z b=>?_
 have A:c.toList=a.map λx=>Value.ref x.2.1:=by
  refine Ń λj=>?_;by_cases G:j<c.size
  .have e:=ı G;rw[þ,e];exact(b.2 j _ e).symm
  .have e:(a.map λx=>Value.ref x.2.1).length<=j:=by have:=b.1;lia
   rw[þ,Array.getElem?_eq_none #[0],đ e]
 refine⟨.ref ↑1,_,I.laid y (à _) (show ObjOk X.prog X.w _ h' _ (.lst _)from⟨by rw[lM];exact k,c.toList,D,by rw[A];exact YU a,?_⟩),rfl,q _ (I.hok.fresh (à _))⟩;exact z
def IF:List Er->Sto->R Er
 |[r],S=>match FV S r with |some (_,kvs)=>.ok (.new (kvs.map (·.1))) S|none=>.no
 |_,_=>.no
def Qn(j:X.calm=true):oO X W (λxs H Q=> ∃d b α kvs,xs=[.ref d]/\DD X H d b/\DenN X.K α H kvs b/\X.calm=true/\ ∀p,H p=none->Q (.ref p) (xY H p (.lst (b.map λx=>V.ref x.2.1)))) IF:=by
 intro rs vs α S H Q i d a;unfold IF at a;split at a
 .split at a
  .rename_i n kvs e;obtain⟨v,rfl,o⟩:=pY d;obtain⟨c,xs,rfl,q,r,m,h⟩:=By i e o;exact⟨c,xs,α,kvs,rfl,m,h,j,λp k=>a.newl i k (YT h)⟩
  .exact a.elim
 .exact a.elim
end
mutual
def PJ:Expr->List Str
 |.Name x _=>[x]
 |.Tuple es _ _=>zGN es
 |_=>[]
def zGN:List Expr->List Str
 |[]=>[]
 |e::es=>PJ e++zGN es
end
section
variable{X:Cx}{W:XW}{iter:Expr}{pos:Pos}
noncomputable abbrev gnN(T:K0)(N:K0)(idx:Db):List Str:=[]++T++idx.map λi=>(N[i]?).getD Str.empty
def Qo{elt tg:Expr}{ifs:P0}{sc a:Scope}{N ps:K0}{idx:Db}{b:Rho->Sto->R Wk}{cf:AZ}{ef:AX}{gf:↑17}(S0:FnScope N ps a)
  (hi:UB X W tg iter b) (hg: ∀C s₂ H1 fp,(gnN (PJ tg) N idx).Nodup->Oh (PJ tg).length (zM X sc (PJ tg) idx C s₂ H1 fp) W0 tg gf)
  (hc: ∀C s₂ H1 fp,UC (zM X sc (PJ tg) idx C s₂ H1 fp) W0 ifs cf) (he: ∀C s₂ H1 fp,zN (zM X sc (PJ tg) idx C s₂ H1 fp) W0 elt ef)
  (hcalm:X.calm=true:=by rfl) (e1:X.env.scope=a:=by rfl) (e2:X.N=N:=by rfl) (hB:AH a N sc idx=true:=by decide+kernel) (hN:(gnN (PJ tg) N idx).Nodup:=by decide+kernel)
  (hs: ∀y,foldedSetIterable iter X.env y=pure y:=by intro _;rfl):
  zN X W ↑14 (λρ S=>(b ρ S).bind λk S1=>if k.ds.length<1000000 then(zV gf cf ef (AB (PJ tg).length idx ρ) k.gs k.ds S1).bind λout S2=>.ok (.new out) S2 else .no):=Es a N _ idx hi hcalm hg hc he e1 e2 hB hN hs
def Qp{x:Str}{pos' b:Pos}{i:Nat}{elt tg:Expr}{ifs:P0}{sc a:Scope}{N ps:K0}{idx:Db}{c:Rho->Sto->R Wk}{cf:AZ}{ef:AX}{gf:↑17}(S0:FnScope N ps a)
  (hi:UB X W tg iter c) (hg: ∀C s₂ H1 fp,(gnN (PJ tg) N idx).Nodup->Oh (PJ tg).length (zM X sc (PJ tg) idx C s₂ H1 fp) W0 tg gf)
  (hc: ∀C s₂ H1 fp,UC (zM X sc (PJ tg) idx C s₂ H1 fp) W0 ifs cf) (he: ∀C s₂ H1 fp,zN (zM X sc (PJ tg) idx C s₂ H1 fp) W0 elt ef)
  (hcalm:X.calm=true:=by rfl) (e1:X.env.scope=a:=by rfl) (e2:X.N=N:=by rfl) (hB:AH a N sc idx=true:=by decide+kernel) (hN:(gnN (PJ tg) N idx).Nodup:=by decide+kernel)
  (hs: ∀y,foldedSetIterable iter X.env y=pure y:=by intro _;rfl)
  (hi2:X.N[i]? =some x:=by rfl) (hx:Loc X.env.scope x:=by first |exact Or.inl rfl|exact Or.inr rfl)
  (hsw:swapsWith ↑14 (some (.Name x pos')) b.line X.env=pure true:=by with_unfolding_all rfl) (hf:Q2 X x:=by first |exact .inl rfl|exact .inr rfl|assumption):
  PX X W (.Assign [.Name x pos'] ↑14 b) (λρ S=>((c ρ S).bind λk S1=>if k.ds.length<1000000 then(zV gf cf ef (AB (PJ tg).length idx ρ) k.gs k.ds S1).bind λout S2=>.ok (.new out) S2 else .no).bind (MB ρ i)):=Vu i (by rw[e2];exact S0.nd) a N _ idx hi hcalm hg hc he e1 e2 hB hN hs hi2 hx hsw hf
end
section
variable{P:ň}{w:World}{K:Q0}{mg:L0}{base:Heap}{x qual:Str}{st:Stmt}{ps N:K0}{k:Nat}
abbrev ScK(N ps:K0)(sc:Scope):Prop:=N.Nodup/\N.take ps.length=ps/\(∀x∈ps,sc.names.lookup x=some .local\/sc.names.lookup x=some .cell)/\ ∀y∈sc.names,y.2≠.free
def okL{f:Addr}{fd:FuncData}(j:AY)(F:Fun K x qual st f fd)
  (h: ∀(e:ņ)(A:Ň)(d:List Env)(s:Ņ)(H:Hp)(E:XK),N.Nodup->FnScope N ps (zK st)->Room k (A.deeper (envOfC qual (zK st) ↑1 f e))->FH (PL BS P w K mg base N qual (zK st) f e A d s H E).nox W0 (yZ st) j)
  (h4:ScK N ps (zK st):=by decide+kernel) (a:(zK st).kind=.function:=by rfl) (b:(zK st).isCoroutine=false:=by rfl) (c:(zK st).isGenerator=false:=by rfl):
  FnOk P w K mg base BS (k+1) f fd ps (PY ⟨K,mg,P,w⟩ ps.length λds S=>zP (j (zG N ds) S)):=
 have i:FnScope N ps _:=⟨a,b,c,h4.1,h4.2.1,h4.2.2.1,h4.2.2.2⟩
 okM j F i λe A d s H E m=>h e A d s H E i.nd i m
def zBH:Nat->(List ņ->Prop)->Prop
 |0,p=>p []
 |n+1,p=> ∀a,zBH n λl=>p (a::l)
theorem zGO: ∀(us:A0){p:List ņ->Prop},zBH us.length p->p us
 |[],_,h=>h
 |a::l,_,h=>zGO l (h a)
def forN{n:Nat}{p:List ņ->Prop}(h:zBH n p)(us:A0)(e:us.length=n):p us:=zGO us (e▸h)
def okA(i:AY)(D:DefM K mg x st)
  (h: ∀(f:Addr)(e:ņ)(A:Ň)(d:List Env)(s:Ņ)(H:Hp)(E:XK),N.Nodup->FnScope N ps (zK st)->Room k (A.deeper (envOfC x (zK st) ↑1 f e))->FH (PL BS P w K mg base N x (zK st) f e A d s H E).nox W0 (yZ st) i)
  (hb:Qe x st ps:=by exact λ_ _ _ _ _ _=>forN (by(repeat intro _);rfl))
  (h4:ScK N ps (zK st):=by decide+kernel) (a:(zK st).kind=.function:=by rfl) (b:(zK st).isCoroutine=false:=by rfl) (c:(zK st).isGenerator=false:=by rfl):
  Qd P w K mg base x (k+1) ps.length ps λds S=>zP (i (zG N ds) S):=
 okC D hb λf _ F=>okL i F (h f) h4 a b c
end
end M
end L2
namespace L2
open PySem PySem.Spec PyProof.Rows
def zHT(lo:Int)(n:Nat):It:=⟨λi _=>i<n,λi H x H'=>H'=H/\x=.int (lo - i),λi _=>n<=i⟩
theorem YV{P:ň}{w:World}{K:Q0}{tg:Expr}(it:Addr)(lo:Int)(n:Nat):Turn P w K tg (zHT lo n) [it] it (λi h=>IsRangeIter h it (lo+(i:Nat) * (-1)) ((n:Int) - (i:Nat)) (-1)) where
 mem:=by simp
 obj:=λi h st b hb=>by
  have e:=by simpa using hb
  subst e;exact⟨_,st,λv z=>by have z':=z;cases z'⟩
 keep:=λi h h' st k=>k it (by simp) _ st
 item:=by intro X hP hw hK hc i pins s σ H E I hf st hg;subst hP hw hK;rw[22];have W:=Walks.range (prog:=X.prog) (w:=X.w) (I.ok.hd hc) it lo (-1) n;refine W.item i s _ _ hg st λv h' tk hv st' kk=>?_;obtain⟨t,rfl⟩:=hv;have I1:Inv X pins σ H {s with heap:=h',toks:=tk}:=I.turned (λb o hb e=>kk b o (by simpa using hb) e) f0 f1 f3 f4 f5;refine⟨_,rfl,WY st' rfl rfl ↑7 ⟨.int _,H,I1,⟨t,?_⟩,⟨rfl,rfl⟩,st',λb hb=>(hf b hb).1⟩⟩;rw[show lo+_ * (-1)=lo - i by lia]
 done:=by intro X hP hw hK hc i pins s σ H E I hf st hg;rw[22];exact wpAny_pyNext_range_end (I.ok.hd hc) st (by have:n<=i:=hg;lia) λh' eb=>⟨rfl,I.turned (λb o hb e=>eb b o hb e) f0 f1 f3 f4 f5⟩
 self:=λ_ _ _ _ _ st h=>wpAny_pyIter_rangeiter st h
section
variable{X:Cx}{tg:Expr}
def Kz{pins:M0}{σ:St}{H:Hp}{s:Ņ}{R:It->Hp->Prop}{E:VP}{lo hi:Int}{t u v:Tok}{tk:Nat}(I:↑2)(h1: -(2 ^ 62)<=lo)(c:lo<2 ^ 62)(h: -(2 ^ 62)<=hi)(a:hi<2 ^ 62)
  (q:R (zHT lo (lo - hi).toNat) H):wpAny ↑6 X.A (pyIter (.ref ↑1)) (PIE X pins σ tg R) E {s with heap:=s.heap.push {cls:=.type "range",data:=.fields #[.int lo t,.int hi u,.int (-1) v]},toks:=tk}:=by
 refine wpAny_pyIter_range (IsRange.new ..) (PySem.W.small_down h1 c h a) ?_;have I1:Inv X pins σ H {s with heap:=s.heap.push {cls:=.type "range",data:=.fields #[.int lo t,.int hi u,.int (-1) v]},toks:=tk}:=I.kept λb o e=>hP0 _ e
 refine⟨_,_,_,_,H,rfl,
  I1.kept λb o e=>hP0 _ e,YV _ lo (lo - hi).toNat,?_,λb d=>?_,q⟩
 .show IsRangeIter _ _ _ _ (-1);rw[show lo+_ * (-1)=lo by simp,show _ - _=Builtin.Range.rangeSize lo hi (-1) by rw[PySem.W.rangeSize_downNat];simp];exact ä _ rfl
 .have e:b=(s.heap.push {cls:=.type "range",data:=.fields #[.int lo t,.int hi u,.int (-1) v]}).objs.size:=by simpa using d
  subst e;exact I1.fpOk (à _) (I1.hok.fresh (à _))
def zGP(ta:TA):TI:=λσ H R=>ta σ H λvs H1=> ∃i j:Int,vs=[.int i,.int j,.int (-1)]/\(-(2 ^ 62)<=i/\i<2 ^ 62/\ -(2 ^ 62)<=j/\j<2 ^ 62)/\R (zHT i (i - j).toNat) H1
theorem La{a b c:Expr}{ta:TA}{p pos:Pos}(n:Gl X "range")(v:X.mg "range"=none)(u:PA X [a,b,c] ta)(hs:starEach [a,b,c] X.env=[(false,eval a X.env),(false,eval b X.env),(false,eval c X.env)]:=by rfl)(d:starEach [b,c] X.env=[(false,eval b X.env),(false,eval c X.env)]:=by rfl):
  PI X tg (.Call (.Name "range" p) [a,b,c] [] pos) (zGP ta):=by
 intro pins s σ H R I h;refine Call_ (DX I n v boot_range (ĝ (hZ (u pos pins s σ H _ I h) λus A ⟨vs,H1,I1,w,k⟩=>?_) (by rw[hs,d]) (by rw[d];rfl)));obtain⟨i,j,e,⟨k,m,z,o⟩,q⟩:=k;subst e
 cases w with
 |cons r rr=>
  cases rr with
  |cons r' rr=>
   cases rr with
   |cons r'' rr=>
    cases rr;obtain⟨t,rfl⟩:=r;obtain⟨t',rfl⟩:=r';obtain⟨y,rfl⟩:=r'';exact call_range_3 ↑7 (Kz I1 k m z o q) (Or.inl (PyProof.noPylong_small #[0]))
end
namespace M
section
variable{X:Cx}{W:XW}{tg a b c:Expr}{p pos:Pos}{af:↑13}
def Co{lo:Int}{n:Nat}:zDL X.g (zHT lo n) (λ_ _ _=>True) ((List.range n).map λk=>.int (lo - (k:Nat))):=by
 intro i α S H _ w;refine⟨λhi=>⟨show i<n by simpa using hi,λv H' y=>?_⟩,λhi=>by show n<=i;simpa using hi⟩;obtain⟨rfl,y⟩:=y;have a:=by simpa using hi
 refine⟨Ext.refl _ _,w,trivial,_,by rw[ð,getElem?_range a];rfl,?_⟩;rw[y];exact xZ _
noncomputable def YW:List Er->Sto->R Wk
 |[.val (.int i),.val (.int j),.val (.int s)],S=>if s= -1/\ -(2 ^ 62)<=i/\i<2 ^ 62/\ -(2 ^ 62)<=j/\j<2 ^ 62 then .ok ⟨(List.range (i - j).toNat).map λk=>.int (i - (k:Nat)),[]⟩ S else .no
 |_,_=>.no
def Lb(z:Gl X "range")(A:X.mg "range"=none)(h:LY X W [a,b,c] af)(hs:starEach [a,b,c] X.env=[(false,eval a X.env),(false,eval b X.env),(false,eval c X.env)]:=by rfl)(m:starEach [b,c] X.env=[(false,eval b X.env),(false,eval c X.env)]:=by rfl):UB X W tg (.Call (.Name "range" p) [a,b,c] [] pos) (λρ S=>(af ρ S).bind YW):=by
 obtain⟨t,h,k⟩:=h;refine⟨_,La z A h hs m,λα ρ S σ H E w sl q=>k α ρ S σ H _ w sl (q.bind λvs rs S1 y H1 e r B o d=>?_)⟩
 replace d:=d.shift r
 unfold YW at d;split at d
 .split at d
  .rename_i S0 i j s n;obtain⟨rfl,n⟩:=n
   cases o with
   |cons d0 n0 l=>
    obtain⟨v,u,rfl,D,C⟩:=zFF l;cases xP d0.1;cases xP D;cases xP C;exact⟨i,j,rfl,n,d.here B ⟨_,Co,trivial,λ_ _ _ _ _ _ _ _ _ _=>trivial,gU⟩⟩
  .exact d.elim
 .exact d.elim
end
section
variable{prog:ň}{w:World}{K:Type}[DecidableEq K]{knd:KeyKind prog w K}{A:Ň}{E:VP}{s:Ņ}
def US{h:Heap}{a:Addr}{S S':K->Bool}{n b:Nat}(c:h.SetOf knd a S n)(e: ∀k,S k=S' k)(d:n=b):h.SetOf knd a S' b:=by rw[<-funext e, <-d];exact c
def Yq{k:K}{l:List K}{b:Bool}(h:k∈l↔b=true):decide (k∈l)=b:=by rw[Ā,ë];exact h
theorem NG{β γ:Type}{f:β->γ->Sem (ForInStep γ)}{b:γ}: ∀(l:List β),(∀x∈l, ∀Q:ForInStep γ->Ņ->Prop,Q (.yield b) s->wpAny ↑9 A (f x b) Q E s)->
  ∀Q:γ->Ņ->Prop,Q b s->wpAny ↑9 A (forIn l b f) Q E s
 |[],_,Q,q=>by rw[forIn_nil];exact wP q
 |x::l,h,Q,q=>by rw[forIn_cons];exact wB (h x (.head _) _ (NG l (λy a=>h y (.tail _ a)) Q q))
def Cp{Q:Bool->Ņ->Prop}(l:B9)(h: ∀a∈l, ∃S n,s.heap.SetOf knd a S n)(q:Q true s):wpAny ↑9 A (setsQuiet l) Q E s:=by
 refine wB (NG l (λa i v k=>?_) _ (wP q));obtain⟨S,n,o,es,ep,t,m,_,j,b,_,r,p,_⟩:=h a i;refine wB (wpAny_setEntries_of m j p ?_);rw[<-Array.forIn_toList];refine wB (NG es.toList (λe d y c=>?_) _ ?_)
 .obtain⟨u,x⟩:=e;have hs:=(b _ d).2;cases x<;>first |(exact wP c)|(cases hs)
 .exact wP k
theorem YX{a o r:Addr}{C:Obj}{es:L1}{ep:Nat}{t:SetTable}{T R:K->Bool}{n m:Nat}{Q:Array (Int×ņ)->Ņ->Prop}
  (ha:s.heap.get? a=some C) (hex:C.ExactSet) (hd:C.data=.set es ep t) (hel:ElemsOf knd es.toList) (i:es.size<scanBound) (hf:t.fits es.size=true) (ho:s.heap.SetOf knd o T n) (hr:s.heap.SetOf knd r R m)
  (q: ∀h' d,d.toList.Perm es.toList->Heap.SameBut r s.heap h'->h'.SetOf knd r R m->Q d {s with heap:=h'}):
  wpAny ↑9 A (setWalkUnseen a [o,r] (some r)) Q E s:=by
 have H: ∀d,d.toList.Perm es.toList->Q d s:=λd p=>q s.heap d p (Heap.SameBut.refl r s.heap) hr;have L:s.heap.SetOf knd a (λk=>es.toList.any λe=>knd.is k e.2) es.size:=⟨C,es,ep,t,ha,hex,hd,hel,λk=>by rw[ü],i,hf,rfl⟩
 unfold setWalkUnseen;refine wB (wpAny_setState_of ha hd hf ?_);unfold setsByText;refine wB (wB (wpAny_askSetting (wP ?_)));dsimp only;by_cases c:((model prog w).w.params.followText "set-order" || (t.led&&t.plain) || decide (es.size<=1))=true
 .rw[iP c];unfold setWalk setsByText;refine wB (wpAny_setState_of ha hd hf ?_);refine wB (wB (wpAny_askSetting (wP ?_)));dsimp only;by_cases b:(model prog w).w.params.followText "set-order"=true
  .rw[iP b];exact wB (wpAny_askSetting (wP (H _ (Kv _ _))))
  .rw[iN b];have h:(t.led&&t.plain)=true\/es.size<=1:=by rw[Bool.or_assoc,ī,ī,ë]at c;exact c.resolve_left b
   show wpAny _ _ (if(!t.plain&&decide (es.size>1))=true then _ else _) _ _ _
   rw[iN (by
    rcases h with h|h
    .rw[(aE _ _▸h:t.led=true/\t.plain=true).2];exact xF0
    .rw[dF0 #[0],Bool.and_false];exact xF0)]
   refine wB ?_;show wpAny _ _ (if _=true then _ else _) _ _ _
   rw[iN (by
    rcases h with h|h
    .rw[(aE _ _▸h:t.led=true/\t.plain=true).1];exact xF0
    .rw[dF0 #[0],Bool.and_false];exact xF0)]
   exact wP (wP (H _ (.refl _)))
 .rw[iN c];refine wB (Cp (knd:=knd) [a,o,r] (λb i=>?_) ?_)
  .rcases mC.mp i with rfl|i
   .exact⟨_,_,L⟩
   .rcases mC.mp i with rfl|i
    .exact⟨_,_,ho⟩
    .rw[mS.mp i];exact⟨_,_,hr⟩
  .show wpAny _ _ (rule _ >>= _) _ _ _;refine wB (İ ?_);obtain⟨or,M,J,D,u,v,j,B,G,z,y,F⟩:=hr;refine wB (wpAny_setState_of u j y ?_);dsimp only;split
   .refine wB (wpAny_storeSet_of u j ?_ (fits_of_scanBound z));obtain⟨_,I⟩:=SetOf_store (t':={D with led:=D.led&&t.led,plain:=D.plain&&t.plain}) u v j B G z y;rw[F]at I;exact wP (q _ _ (.refl _) (ĺ _ r _) I)
   .exact wP (H _ (.refl _))
abbrev Qq(knd:KeyKind prog w K)(h:Heap)(a:Addr)(l:List K):Prop:=h.SetOf knd a (λk=>decide (k∈l)) l.length
theorem NH{id:String}{a o r:Addr}{T:K->Bool}{n ep:Nat}{f:(Int×ņ)->PUnit->Sem (ForInStep PUnit)}(v:r≠o)(I:r≠a)
  (hf: ∀(e:Int×ņ)(s:Ņ)(Q:ForInStep PUnit->Ņ->Prop),wpAny ↑9 A (setFind o e.2 e.1) (λx M=>
    if x.isSome=true then wpAny ↑9 A (Builtin.Frozenset.unchanged id a ep) (λ_ C=>Q (.yield PUnit.unit) C) E M
    else wpAny ↑9 A (setAddHashed r e.2 e.1) (λ_ M=>wpAny ↑9 A (Builtin.Frozenset.unchanged id a ep) (λ_ C=>Q (.yield PUnit.unit) C) E M) E M) E s->wpAny ↑9 A (f e PUnit.unit) Q E s):
  ∀(l:List (Int×ņ))(c:List K)(s:Ņ)(Q:PUnit->Ņ->Prop),ElemsOf knd l->c.length+l.length<scanBound->c.Nodup->Qq knd s.heap r c->s.heap.SetOf knd o T n->
   (∃B es t,s.heap.get? a=some B/\B.data=.set es ep t/\t.fits es.size=true)->
   (∀h' b,b.Nodup->(∀k,k∈b↔k∈c\/(T k=false/\ ∃e∈l,knd.is k e.2=true))->Heap.SameBut r s.heap h'->Qq knd h' r b->Q PUnit.unit {s with heap:=h'})->
   wpAny ↑9 A (forIn l PUnit.unit f) Q E s
 |[],c,s,Q,_,_,nd,hr,ho,ha,q=>by rw[forIn_nil];refine wP (q s.heap c nd (λk=>⟨.inl,λz=>z.elim _root_.id λz=>?_⟩) (Heap.SameBut.refl _ _) hr);obtain⟨_,e,he,_⟩:=z;cases he
 |e::l,c,s,Q,hel,hb,nd,hr,ho,ha,q=>by
  rw[forIn_cons];obtain⟨⟨k,L,hh⟩,D⟩:=hel.head;have O:c.length+1<scanBound:=by rw[lC]at hb;lia
  refine wB (hf e s _ ?_);rw[hh];refine wpAny_setFind_of L D ho λx X=>?_;rw[X];have i: ∀d,knd.is d e.2=true↔d=k:=λd=>⟨λz=>knd.inj _ _ _ z L,λz=>z▸L⟩
  have P: ∀(h':Heap)(b:List K),b.Nodup->b.length<=c.length+1->(∀d,d∈b↔d∈c\/(T d=false/\d=k))->Heap.SameBut r s.heap h'->Qq knd h' r b->
    wpAny ↑9 A (Builtin.Frozenset.unchanged id a ep) (λ_ s'=>wpAny ↑9 A (forIn l PUnit.unit f) Q E s') E {s with heap:=h'}:=by
   intro h' b N aa Y m h;obtain⟨B,es,t,h1,J,h3⟩:=ha;have H:h'.get? a=some B:=by rw[m.2 a λz=>I z.symm];exact h1
   unfold Builtin.Frozenset.unchanged;refine wB (wpAny_setEpoch_of H J h3 ?_);rw[iN (by simp)];refine wP ?_;obtain⟨oo,W,S,to,Z,U⟩:=ho;refine NH v I hf l b _ Q hel.tail (by rw[lC]at hb;lia) N h ⟨oo,W,S,to,by rw[m.2 o λz=>v z.symm];exact Z,U⟩ ⟨B,es,t,H,J,h3⟩ λJ F n2 m2 C r2=>q J F n2 (λd=>?_) (m.trans C) r2;rw[m2,Y];constructor
   .rintro((z|⟨p,u⟩)|⟨p,y,j,u⟩)
    .exact .inl z
    .exact .inr ⟨p,e,.head _,(i d).mpr u⟩
    .exact .inr ⟨p,y,.tail _ j,u⟩
   .rintro(z|⟨p,y,j,u⟩)
    .exact .inl (.inl z)
    .rcases mC.mp j with rfl|j
     .exact .inl (.inr ⟨p,(i d).mp u⟩)
     .exact .inr ⟨p,y,j,u⟩
  cases hT:T k with
  |true=>
   rw[iP rfl];refine P s.heap c nd #[0] (λd=>⟨.inl,λz=>z.elim _root_.id λz=>?_⟩) (Heap.SameBut.refl _ _) hr;rw[z.2,hT]at z;cases z.1
  |false=>
   rw[iN xF0];refine wpAny_setAddHashed_of L D hr O λh' m h=>?_;by_cases G:k∈c
   .refine P h' c nd #[0] (λd=>⟨.inl,λz=>z.elim _root_.id λz=>z.2▸G⟩) m (US h (λd=>?_) (iP (dT0 G)));by_cases z:d∈c
    .rw[dT0 z];rfl
    .rw[dF0 z,dF0 λ(y:d=k)=>z (y▸G)];rfl
   .refine P h' (c++[k]) (ģ.mpr ⟨nd,by simp,λx X y j z=>G (by rw[mS.mp j]at z;exact z▸X)⟩) (by simp) (λd=>?_) m (US h (λd=>?_) ?_)
    .rw[æ,mS];exact⟨λz=>z.elim .inl λz=>.inr ⟨z▸hT,z⟩,λz=>z.elim .inl λz=>.inr z.2⟩
    .rw[<-Bool.decide_or];exact ġ.mpr (by rw[æ,mS])
    .rw[iN (by rw[ë];exact G),lA];rfl
def UT{a:Addr}{S:K->Bool}{n:Nat}{Q:Bool->Ņ->Prop}(h:s.heap.SetOf knd a S n)(q:Q true s):wpAny ↑9 A (Builtin.Frozenset.isAnySet (.ref a)) Q E s:=by refine wB (ĵ h.typeIs (b:=true) (by rw[isSubtype_type];kernel_rfl) ?_);exact wP q
def size_of{a:Addr}{S:K->Bool}{n:Nat}{Q:Nat->Ņ->Prop}(h:s.heap.SetOf knd a S n)(q:Q n s):wpAny ↑9 A (Builtin.Frozenset.sizeOf a) Q E s:=by obtain⟨o,es,ep,t,b,_,c,_,_,_,d,e⟩:=h;exact wB (wpAny_setEntries_of b c d (wP (e▸q)))
def Yr{id:String}{a o:Addr}{S T:K->Bool}{n m:Nat}{Q:VP}(G:s.heap.SetOf knd a S n)(ho:s.heap.SetOf knd o T m)(U: ¬n / 4>m)
  (q: ∀h' l,l.Nodup->(∀k,k∈l↔S k=true/\T k=false)->(∀b u,s.heap.get? b=some u->h'.get? b=some u)->Qq knd h' ↑1 l->Q (.ref ↑1) {s with heap:=h'}):
  wpAny ↑9 A (Builtin.Frozenset.difference id a (.ref o)) Q E s:=by
 unfold Builtin.Frozenset.difference;refine wB (UT ho ?_);refine wB (wP ?_);refine wB (size_of ho ?_);refine wB (size_of G ?_);rw[iN U];refine wB ?_;refine wB (ĵ G.typeIs (b:=true) (by rw[isSubtype_type];kernel_rfl) ?_);refine wP ?_;refine wB (wpAny_newSet_of (knd:=knd) λab hr=>?_);refine wB (wP ?_);obtain⟨oa,es,ep,t,C,J,H,d,y,hb,O,hn⟩:=G;obtain⟨oo,r,j,to,I,p⟩:=ho;have c: ∀(x:Obj) b u,s.heap.get? b=some u->(s.heap.push x).get? b=some u:=λx b u e=>hP0 _ e;have Z:=á C;have aa:=á I;refine wB (wpAny_setEpoch_of (c _ _ _ C) H O ?_);refine wB (Ą ?_);refine wB ?_;rw[iP rfl];refine YX (c _ _ _ C) J H d hb O ⟨oo,r,j,to,c _ _ _ I,p⟩ hr λh' N D L Y=>?_;rw[<-Array.forIn_toList];have h:↑1≠o:=λz=>ĕ _ (z▸aa);have v:↑1≠a:=λz=>ĕ _ (z▸Z)
 refine wB (NH (id:=id) h v ?_ N.toList [] _ _ (d.perm D) (by rw[D.length_eq,ú];simpa using hb) nodup_nil (US Y (λk=>by simp) rfl)
  ⟨oo,r,j,to,by rw[L.2 o λz=>h z.symm];exact c _ _ _ I,p⟩ ⟨oa,es,t,by rw[L.2 a λz=>v z.symm];exact c _ _ _ C,H,O⟩ λB P nd mem W hl=>?_)
 .intro e s1 Q1 h1;refine wB (Ą ?_);rw[iP rfl];refine wB (ă h1 (λx s2 B=>?_) λ_ _ z=>z);refine wB (wP ?_)
  cases x with
  |some _=>exact wP (wB (ă B (λ_ _ z=>wP z) λ_ _ z=>z))
  |none=>exact wB (ă B (λ_ s3 h3=>wP (wB (ă h3 (λ_ _ z=>wP z) λ_ _ z=>z))) λ_ _ z=>z)
 .refine wP (wP (q B P nd (λk=>?_) (λb u e=>?_) hl))
  .rw[mem,y];constructor
   .rintro(z|⟨M,e,F,X⟩)
    .cases z
    .exact⟨⟨e,D.mem_iff.mp F,X⟩,M⟩
   .rintro⟨⟨e,F,X⟩,M⟩;exact .inr ⟨M,e,D.mem_iff.mpr F,X⟩
  .have i:=á e;rw[W.2 b (â i),L.2 b (â i)];exact c _ _ _ e
def QH:entryFor table "set.__sub__"=some Builtin.«frozenset.__sub__»:=entryFor_alias (id':="frozenset.__sub__") (by kernel_rfl) rfl (by decide+kernel) (by kernel_rfl)
def Qr{a o:Addr}{S T:K->Bool}{n m:Nat}{Q:VP}(c:s.heap.SetOf knd a S n)(d:s.heap.SetOf knd o T m)(e: ¬n / 4>m)
  (q: ∀h' l,l.Nodup->(∀k,k∈l↔S k=true/\T k=false)->(∀b u,s.heap.get? b=some u->h'.get? b=some u)->Qq knd h' ↑1 l->Q (.ref ↑1) {s with heap:=h'}):
  wpAny ↑9 A (binaryOp .Sub (.ref a) (.ref o)) Q E s:=by
 refine wpAny_binaryOp_same c.typeIs d.typeIs F.fills_set_sub F.slot_set_sub (ö F.slot_set_sub c.typeIs QH ?_ (F.args_set_sub_2 _ _));show wpAny _ _ (Builtin.Frozenset.slot1 "__sub__" _ >>= _) _ _ _;rw[show Builtin.Frozenset.slot1 "__sub__" ⟨_,[]⟩=pure _ from rfl];refine wB (wP ?_);refine wB (wB (UT c (UT d ?_)));refine wB (wP ?_);exact wB (Yr c d e λh' l h mem j i=>wP ⟨_,rfl,nofun,q h' l h mem j i⟩)
end
section
variable{X:Cx}{W:XW}{e1 e2:Expr}{f1 f2:↑13}{p1 p2 p3 pos pos1 pos2 pos3:Pos}
theorem Gc{val:Nat->Key}{k:Key}: ∀{n:Nat},Jz k (oV val n)=true↔ ∃i,i<n/\val i=k
 |0=>⟨λz=>absurd z xF0,λ⟨i,h,_⟩=>absurd h (Nat.not_lt_zero _)⟩
 |n+1=>by rw[YG,ī,ë,Gc];exact⟨λz=>z.elim (λ⟨i,h,e⟩=>⟨i,by lia,e⟩) λz=>⟨n,by lia,z.symm⟩,λ⟨i,h,e⟩=>if y:i=n then .inr (y▸e.symm)else .inl ⟨i,by lia,e⟩⟩
def NI{k:Key}{l:List Key}:Jz k l=true↔k∈l:=by unfold Jz;rw[ü];exact⟨λ⟨x,a,e⟩=>ó e▸a,λh=>⟨k,h,dT0 rfl⟩⟩
theorem Cq(val:Nat->Key): ∀n,(oV val n).Nodup
 |0=>nodup_nil
 |n+1=>by
  rw[CF];split
  .exact Cq val n
  .rename_i h;exact ģ.mpr ⟨Cq val n,by simp,λx b y a z=>h (NI.mpr (by rw[mS.mp a]at z;exact z▸b))⟩
def YY{ys:Za}{k:Key}:k∈oV (valZ ys) ys.length↔ ∃y∈ys,k=.inl y:=by
 rw[<-NI,Gc];unfold valZ;constructor
 .rintro⟨i,h,e⟩;exact⟨_,Ĩ h,by rw[<-e,ā,gE h];rfl⟩
 .rintro⟨y,a,rfl⟩;obtain⟨i,h,e⟩:=List.mem_iff_getElem.mp a;exact⟨i,h,by rw[ā,gE h,e];rfl⟩
theorem SD:CallR X (.type "set") (λxs H Q=> ∃a ys,xs=[.ref a]/\SqT X.K H a (ys.map V.int)/\ys.length<4000/\X.calm=true/\ ∀l,H l=none->Q (.ref l) (xY H l (Cj X.prog X.w l ys))):=by
 rw[21];obtain⟨a,ys,rfl,b,y,j,q⟩:=h;obtain⟨u,rfl,c⟩:=vals1 r;cases c;obtain⟨its,d,p,A⟩:=I.tuple b;obtain⟨e1,e2⟩:=Fz d;have sz:its.toArray.size=ys.length:=by rw[sA];exact e1
 refine MU (I.ok.hd j) p (λi v h=>e2 i v (by simpa using h)) (by rw[sz];unfold scanBound;lia) λh' tk hs e=>?_;rw[sz]at hs;refine⟨.ref ↑1,_,I.laid (o:=Cj X.prog X.w ↑1 ys) e (à _) ⟨hs,?_,λh1 n z k=>z.move k⟩,rfl,q _ (I.hok.fresh (à _))⟩;obtain⟨o,_,_,_,m,_⟩:=hs;exact⟨o,m⟩
noncomputable def DH(ys zs:Za):List Int:=ys.filter λy=>!zs.contains y
def GC{ys zs:Za}{y:Int}:y∈DH ys zs↔y∈ys/\y∉zs:=by unfold DH;rw[å,ą, <-Ę,List.contains_iff_mem]
def zGQ(X:Cx):R2:=λx y H Q=> ∃c a ys b,x=.ref c/\y=.ref a/\H c=some (Cj X.prog X.w c ys)/\H a=some (Cj X.prog X.w a b)/\ ¬rK ys / 4>rK b/\
 ∀l,H l=none->Q (.ref l) (xY H l (Cj X.prog X.w l (DH ys b)))
def Ys:OpR X (binaryOp .Sub) (zGQ X):=by
 intro pins s σ H x y v u Q I A F h;obtain⟨j,C,ys,d,rfl,rfl,h1,i,G,q⟩:=h;cases A;cases F;obtain⟨D,_⟩:=(I.hok j _ h1)
 obtain⟨m,_⟩:=(I.hok C _ i)
 refine Qr D m G λh' l p mem B J=>?_
 have c: ∀k,k∈l↔k∈oV _ (DH ys d).length:=λk=>by
  rw[mem k,NI, <-Ę,NI,YY,YY,YY];constructor
  .rintro⟨⟨y,a,rfl⟩,n⟩;exact⟨y,GC.mpr ⟨a,λz=>n ⟨y,z,rfl⟩⟩,rfl⟩
  .rintro⟨y,a,rfl⟩;have a:=GC.mp a;exact⟨⟨y,a.1,rfl⟩,λ⟨z,r,e⟩=>a.2 (by cases e;exact r)⟩
 have hs:KSet X.prog X.w h' ↑1 (valZ (DH ys d)) (DH ys d).length:=by refine US J (λk=>?_) (Nat.le_antisymm (p.length_le_of_subset λk b=>(c k).mp b) ((Cq _ _).length_le_of_subset λk b=>(c k).mpr b));exact Yq (by rw[NI];exact c k)
 refine⟨.ref ↑1,_,I.laid (o:=Cj X.prog X.w ↑1 _) B (à _) ⟨hs,?_,λh1 i z E=>z.move E⟩,rfl,q _ (I.hok.fresh (à _))⟩;obtain⟨o,_,_,_,K,_⟩:=hs;exact⟨o,K⟩
def Cr:List Er->Option (List Int)
 |[.val (.tup x)]=>(intsOf x).bind λys=>if ys.length<4000 then some ys else none
 |_=>none
def YZ(ys zs:Za)(S:Sto):R Er:=if¬rK ys / 4>rK zs then .ok (.val (.int (rK (DH ys zs):Nat))) S else .no
def zGR(f1 f2:↑13):AX:=λρ S=>(f1 ρ S).bind λc S1=>(Cr c).elim .no λys=>(f2 ρ S1).bind λb S2=>(Cr b).elim .no λa=>YZ ys a S2
def Yt(N:X.calm=true)(hg:Gl X "len")(hm:X.mg "len"=none)(p:Gl X "set")(o:X.mg "set"=none)(i:LY X W [e1] f1)(e:LY X W [e2] f2)
  (he1:starEach [e1] X.env=(false,eval e1 X.env)::starEach [] X.env:=by rfl) (hp1:(backTo pos1 (starEach [] X.env)).any (·.1)=false:=by rfl)
  (he2:starEach [e2] X.env=(false,eval e2 X.env)::starEach [] X.env:=by rfl) (hp2:(backTo pos2 (starEach [] X.env)).any (·.1)=false:=by rfl)
  (he:starEach [.BinOp (.Call (.Name "set" p1) [e1] [] pos1) .Sub (.Call (.Name "set" p2) [e2] [] pos2) pos3] X.env=(false,eval (.BinOp (.Call (.Name "set" p1) [e1] [] pos1) .Sub (.Call (.Name "set" p2) [e2] [] pos2) pos3) X.env)::starEach [] X.env:=by rfl)
  (hp:(backTo pos (starEach [] X.env)).any (·.1)=false:=by rfl):
  zN X W (.Call (.Name "len" p3) [.BinOp (.Call (.Name "set" p1) [e1] [] pos1) .Sub (.Call (.Name "set" p2) [e2] [] pos2) pos3] [] pos) (zGR f1 f2):=by
 obtain⟨t1,i,Y⟩:=i;obtain⟨t2,e,U⟩:=e
 refine⟨_,XA Ku hg hm Br (KW (E4 Ys (BR SD p o Qb i ↑7 ↑7 he1 hp1) (BR SD p o Qb e ↑7 ↑7 he2 hp2)) TC he) ↑7 ↑7 he hp,
  λα ρ S σ H Q Z sl q=>Y α ρ S σ H _ Z sl (q.bind λvs r1 S1 C H1 e1 J m O j=>?_)⟩
 replace j:=j.shift J
 have L: ∀{r:List Er}{vs:List V}{α:B9}{H0 H:Hp}{S:Sto}{ys:Za},Cr r=some ys->Wd X.g α S H->Dn.d X.g H0 α S H r vs-> ∃a,vs=[.ref a]/\SqT X.K H a (ys.map V.int)/\ys.length<4000:=by
  intro r vs α H0 H S ys h w d;unfold Cr at h;split at h
  .rename_i x;obtain⟨s,e1,e2⟩:=Option.bind_eq_some_iff.mp h;split at e2
   .rename_i D;cases e2;obtain⟨u,rfl,du⟩:=MD d;obtain⟨E,us,rfl,v,P⟩:=mW du;rw[RY e1 P]at v;exact⟨E,rfl,v,D⟩
   .cases e2
  .cases h
 cases h1:Cr r1 with
 |none=>rw[h1]at j;exact j.elim
 |some ys=>
  rw[h1]at j;obtain⟨E,rfl,v,M⟩:=L h1 m O;refine⟨E,ys,rfl,v,M,N,λl A=>U C ρ S1 σ _ _ (m.new A) (sl.ext (J.trans (m.newx A))) ((j.shift (m.newx A)).bind λaa r2 S2 F I e2 G y d2 b=>?_)⟩
  replace b:=b.shift G
  cases B:Cr r2 with
  |none=>rw[B]at b;exact b.elim
  |some s=>
   rw[B]at b;obtain⟨a2,rfl,T,n2⟩:=L B y d2;change Post X.g W F I (YZ ys s S2) Q at b;unfold YZ at b;split at b
   .rename_i D;have n:I l=some _:=G.keep _ _ zX λz=>m.fresh A z;refine⟨a2,s,rfl,T,n2,N,λl2 c=>⟨l,l2,ys,s,rfl,rfl,?_,zX,D,λl3 k=>⟨l3,_,rfl,?_,zX,?_⟩⟩⟩
    .rw[zL (zZ n c)];exact n
    .exact lt_of_le_of_lt (ï _ _) M
    .exact(b.shift ((y.newx c).trans ((y.new c).newx k))).val ((y.new c).new k) (xZ _)
   .exact b.elim
end
def zGS(P:ň)(w:World)(d:Addr)(o:Obj)(xs:↑31):It:=
 ⟨λi H=>H d=some (.frz o (DN P w d xs))/\i<↑33,
   λi H v H'=>H'=H/\ ∃x,xs[i]? =some x/\v=.ref x.2.1,
   λi H=>H d=some (.frz o (DN P w d xs))/\↑33<=i⟩
def Lc{P:ň}{w:World}{K:Q0}{tg:Expr}{d it:Addr}{o:Obj}{es:Array DictEntry}{ep:Nat}{xs:↑31}(hc0:o.ExactDict)(hdat:o.data=.dict es ep)(hes:es.toList=xs.map (entryOfKey (tH P w))):
  Turn P w K tg (zGS P w d o xs) [it] it (λi h=>h.IsKeyIter it d i ↑33 ep) where
 mem:=by simp
 obj:=λi h st b hb=>by cases mS.mp hb;obtain⟨o,e,c,d⟩:=st;exact⟨o,e,λv z=>by rw[d]at z;cases z⟩
 keep:=λi h h' st k=>st.at λo e=>k it (by simp) o e
 item:=by
  intro X hP hw hK hc i pins s σ H E I hf st hg;subst hP hw hK;obtain⟨hd,hi⟩:=hg;obtain⟨hod,_⟩:=(I.hok d _ hd)
  have va:KAt d (xs.map λx=>Value.ref x.2.1) ep s.heap:=⟨o,es,hod,hc0,hdat,by rw[hes,û];rfl⟩
  rw[22];rw[<-lM]at st ⊢;refine YR st va (by rw[ð,gE hi];rfl) λh' st' sb=>?_;have I1:Inv X pins σ H {s with heap:=h'}:=I.turned (λb o hb e=>(sb.2 b hb).trans e) f0 f1 f3 f4 f5;obtain⟨o',e,c,dd⟩:=id st';exact⟨_,rfl,WY e c dd ↑7 ⟨.ref xs[i].2.1,H,I1,rfl,⟨rfl,_,gE hi,rfl⟩,st',λb hb=>(hf b hb).1⟩⟩
 done:=by
  intro X hP hw hK hc i pins s σ H E I hf st hg;subst hP hw hK;obtain⟨hd,hi⟩:=hg;obtain⟨hod,_⟩:=(I.hok d _ hd)
  have va:KAt d (xs.map λx=>Value.ref x.2.1) ep s.heap:=⟨o,es,hod,hc0,hdat,by rw[hes,û];rfl⟩
  rw[22];rw[<-lM]at st;exact YS (I.ok.hd hc) st va (by rw[lM];exact hi) λh' eb=>⟨rfl,I.turned (λb o hb e=>eb b o hb e) f0 f1 f3 f4 f5⟩
 self:=λ_ _ _ _ _ st h=>wpAny_pyIter_keyiter st h
section
variable{X:Cx}{W:XW}{tg e:Expr}{te:TE}{f:AX}
def zGT(X:Cx)(R:It->Hp->Prop)(x:V)(H:Hp):Prop:= ∃d xs α kvs,x=.ref d/\DenN X.K α H kvs xs/\
 ((DD X H d xs/\ ∀o,R (zGS X.prog X.w d o xs) (xY H d (.frz o (DN X.prog X.w d xs))))\/ ∃o,H d=some (.frz o (DN X.prog X.w d xs))/\R (zGS X.prog X.w d o xs) H)
def Yu(i:PE X e te):PI X tg e (λσ H R=>te σ H λx H1=>zGT X R x H1):=by
 intro pins s σ H R I h;refine hZ (i pins s σ H _ I h) λv m ⟨x,H1,I1,K,N⟩=>?_;obtain⟨d,xs,α,kvs,rfl,C,q⟩:=N;cases K
 have B: ∀(c:Obj)(es:Array DictEntry)(ep:Nat),m.heap.get? d=some c->c.ExactDict->c.data=.dict es ep->es.toList=xs.map (entryOfKey (tH X.prog X.w))->(d==sysModules)=false->
   (∀h',(∀b o,m.heap.get? b=some o->h'.get? b=some o)-> ∃r,(∀b,b≠d->r b=H1 b)/\Inv X pins σ r {m with heap:=h'}/\R (zGS X.prog X.w d c xs) r)->wpAny ↑6 X.A (pyIter (.ref d)) (PIE X pins σ tg R) X.xe m:=by
  intro c es ep a n j i hs k;have D:KAt d (xs.map λx=>Value.ref x.2.1) ep m.heap:=⟨c,es,a,n,j,by rw[i,û];rfl⟩
  refine RZ hs D ?_;rw[lM];obtain⟨r,y,P,q⟩:=k _ λb o e=>hP0 _ e;refine⟨_,_,_,_,_,rfl,P,Lc n j i,⟨_,ä _ rfl,rfl,rfl⟩,λb z=>?_,q⟩;cases mS.mp z;have L:=Ė (á a);obtain⟨_,F,J,E,G,O⟩:=I1.fpOk (à _) (I1.hok.fresh (à m.heap.objs.size));exact⟨by rw[y _ L];exact I1.hok.fresh (à _),F,J,E,G,O⟩
 rcases q with⟨dd,q⟩|⟨o,ho,q⟩
 .obtain⟨⟨c,es,ep,a,n,j,i,S,Q⟩,M,hs⟩:=LB I1 dd C;exact B c es ep a n j i hs λh' u=>⟨_,λb z=>zL z,(I1.kept u).freezeD dd C (u d c a),q c⟩
 .obtain⟨a,⟨M,hs,o',es,ep,p,n,j,i,Q⟩,_⟩:=(I1.hok d _ ho)
  rw[a]at p;cases p;exact B o es ep a n j i hs λh' u=>⟨H1,λ_ _=>rfl,I1.kept u,q⟩
noncomputable def Gd(S:Sto):Er->Option (List (MV×MV))
 |.val (.loc l)=>match S[l]? with |some (.fdc kvs)=>some kvs|_=>none
 |_=>none
def NL(p:Er)(S:Sto):R Wk:=match FV S p with
 |some (l,kvs)=>.ok ⟨kvs.map (·.1),[]⟩ (S.set l (.fdc kvs))
 |none=>match Gd S p with
  |some kvs=>.ok ⟨kvs.map (·.1),[]⟩ S
  |none=>.no
theorem ZA{c:Addr}{ob:Obj}{xs:↑31}{kvs:zA0}:zDL X.g (zGS X.prog X.w c ob xs) (λ(α:B9) (S:Sto) (H:Hp)=>H c=some (.frz ob (DN X.prog X.w c xs))/\DenN X.K α H kvs xs) (kvs.map (·.1)):=by
 intro i o S2 p ⟨e,d⟩ m;have j:=d.length;refine⟨λhi=>?_,λhi=>⟨e,by rw[lM]at hi;lia⟩⟩;rw[lM]at hi;refine⟨⟨e,by lia⟩,?_⟩;rintro _ _ ⟨rfl,x,k,rfl⟩;obtain⟨h,a⟩: ∃h,kvs[i]? =some h:=⟨_,gE hi⟩
 obtain⟨q,b,n⟩:=d.at' a;rw[k]at b;cases b;exact⟨Ext.refl _ _,m,⟨e,d⟩,h.1,by rw[ð,a];rfl,n⟩
def Yv(r:zN X W e f):UB X W tg e (λρ S=>(f ρ S).bind NL):=by
 obtain⟨t,r,k⟩:=r;refine⟨_,Yu r,λα ρ S σ H N I sl q=>k α ρ S σ H _ I sl (q.bind λu p S1 d H1 e1 G n B h=>?_)⟩
 replace h:=h.shift G
 unfold NL at h;split at h
 .rename_i l kvs K;obtain⟨c,xs,rfl,b,D,y,m⟩:=By n K B.1;refine⟨c,xs,d,kvs,rfl,m,.inl ⟨y,λob=>?_⟩⟩;have E:=n.writex b y.nf (o:=.frz ob (DN X.prog X.w c xs));have j:=m.ex0 E.toEx0;have J:=n.write b y.nf (ob:=.fdc kvs) ⟨ob,xs,zX,j⟩;exact(h.shift E).here J ⟨_,ZA,⟨zX,j⟩,λd S1 H1 A S2 F ⟨v,s⟩ x w _=>⟨x.frz _ _ _ v,s.ex0 x.toEx0⟩,gU⟩
 .split at h
  .rename_i kvs i;unfold Gd at i;split at i
   .rename_i l;split at i
    .rename_i z D;cases i;obtain⟨a,rfl,b⟩:=sN B.1;obtain⟨ob,e2,M⟩:=n.of b;rw[D]at e2;cases e2;obtain⟨L,xs,C,m⟩:=M;exact⟨a,xs,d,kvs,rfl,m,.inr ⟨L,C,h.here n ⟨_,ZA,⟨C,m⟩,λd S1 H1 A S2 F ⟨v,s⟩ x w _=>⟨x.frz _ _ _ v,s.ex0 x.toEx0⟩,gU⟩⟩⟩
    .cases i
   .cases i
  .exact h.elim
end
section
variable{W:XW}{iter:Expr}{pos:Pos}
def Qs{e:Cx}{b:Scope}{d:K0}{a:Db}{i:Addr}{j:Ņ}{H0:Hp}{c:B9}{elt tg:Expr}{ifs:P0}{sc h:Scope}{N ps:K0}{idx:Db}{m:Rho->Sto->R Wk}{cf:AZ}{ef:AX}{gf:↑17}(S0:FnScope N ps h)
  (hi:UB (zM e b d a i j H0 c) W tg iter m) (hg: ∀C s₂ H1 fp,(gnN (PJ tg) (gnN d N a) idx).Nodup->Oh (PJ tg).length (zM (zM e b d a i j H0 c) sc (PJ tg) idx C s₂ H1 fp) W0 tg gf)
  (hc: ∀C s₂ H1 fp,UC (zM (zM e b d a i j H0 c) sc (PJ tg) idx C s₂ H1 fp) W0 ifs cf) (he: ∀C s₂ H1 fp,zN (zM (zM e b d a i j H0 c) sc (PJ tg) idx C s₂ H1 fp) W0 elt ef)
  (hcalm:e.calm=true:=by rfl) (e1:e.env.scope=h:=by rfl) (e2:e.N=N:=by rfl) (hB:AH (rlS b h) (gnN d N a) sc idx=true:=by decide+kernel) (hN:(gnN (PJ tg) (gnN d N a) idx).Nodup:=by decide+kernel)
  (hs: ∀y,foldedSetIterable iter (zM e b d a i j H0 c).env y=pure y:=by intro _;rfl):
  zN (zM e b d a i j H0 c) W ↑14 (λρ S=>(m ρ S).bind λk S1=>if k.ds.length<1000000 then(zV gf cf ef (AB (PJ tg).length idx ρ) k.gs k.ds S1).bind λout S2=>.ok (.new out) S2 else .no):=by
 subst e1 e2;exact Es _ _ _ idx hi hcalm hg hc he rfl rfl hB hN hs
end
end M
end L2
namespace L2
namespace M
namespace My
open PySem PySem.Spec PyProof.Rows
variable{S S0 S' T:Sto}{tk:List (Nat×List Nat)}{α:Type}{ws:Za}{rs:List Er}{lp j lf lk:Nat}{ms vs:U0}{f:Nat->Nat->Bool}{fd:FuncData}{Hd th L C:Db}{told Ks:Ch}{ρ:Rho}
set_option bootstrap.genMatcherCode true in
local macro_rules
 | `(tactic|simp? [$xs,*] $[$l:location]?)=>`(tactic|simp only[List.getElem?_cons_zero,List.getElem?_cons_succ,Wr,xQ,as_int,zFU,zAA,add_int,sub_int,eq_int,zAB,Pm,Xc,zFV,zFW,lst6,tup2,tup3,zAE,zAF,zAG,zAH,zAI,zAJ,Wx,Wy,List.set_cons_zero,List.set_cons_succ,if_true,Xa,Wz,vJ,kJ,bJ,dJ,nJ,aJ,oJ,iJ,mJ,tJ,zJ,fJ,eJ,gJ,uJ,pJ,qJ,rJ,sJ,wJ,yJ,AJ,BJ,CJ,DJ,EJ,FJ,JJ,NJ,$xs,*] $[$l:location]?)
set_option bootstrap.genMatcherCode true in
local macro_rules
 |`(#[$x])=>`(some (.loc $x))
 |`(#[$x,0])=>`(some (.int $x))
 |`(#[$x,1])=>`(.val (.loc $x))
 |`(#[$x,2])=>`(some (.lst $x))
 |`(#[$x,3])=>`(some (.tup $x))
 |`(#[$x,4])=>`(some (.str $x))
 |`(#[$x,5])=>`(.val (.int $x))
 |`(#[$x,6])=>`(.val (.tup $x))
 |`(#[$x,7])=>`(some (.dic $x))
 |`(#[$x,8])=>`(($x).map MV.str)
 |`(#[])=>`(by lia)
 |`(#[$x,$s,0])=>`(.ok (.next $x) $s)
 |`(#[$x,$s,1])=>`(.ok (.val $x) $s)
 |`(#[$x,$s,2])=>`(.ok (.new $x) $s)
abbrev NN:List Str:=["_law_cell","_law_k","_law_number"]
abbrev AS:List Str:=["_law_well_here","_law_many","_law_found"]
abbrev JR:List Str:=["_law_cell","_law_k","_law_found","_law_j"]
abbrev JS:List Str:=["_law_well_here","_law_pool_here","_law_letters","_law_names","_law_word_here","_law_way","_law_at"]
abbrev JT:List Str:=["_law_cell","_law_well_here","_law_pool_here","_law_k","_law_way","_law_value_here"]
abbrev DI:List Str:=["_law_cell","_law_well_here","_law_tables_here","_law_k","_law_wide","_law_key_here"]
abbrev NO:List Str:=["_law_cell","_law_tables_here","_law_pool_here","_law_well_here","_law_t"]
abbrev JU:List Str:=["_law_cells","_law_tables_here","_law_pool_here","_law_most","_law_rows_here","_law_cell","_law_row_here"]
abbrev JV:List Str:=["_law_well_here","_law_there","_law_tables_here","_law_pool_here","_law_k"]
abbrev GD:List Str:=["_law_well_here","_law_there","_law_tables_here","_law_pool_here","_law_tests_here","_law_k","_law_left","_law_right"]
abbrev JW:List Str:=["_law_cell","_law_tables_here","_law_pool_here","_law_well_here","_law_way","_law_t","_law_u","_law_many","_law_columns","_law_others"]
abbrev JX:List Str:=["_law_script","_law_most","_law_room","_law_pool_here","_law_tables_here","_law_many","_law_rules","_law_cells","_law_k"]
abbrev uK:List Str:=["_law_side_here","_law_rows_here"]
abbrev sQ:List Str:=["_law_rule_here","_law_row_here"]
abbrev EG:List Str:=["_law_bits","_law_many"]
noncomputable abbrev ZC:List Str:=["Rule","Never","Apart","Tie"]
abbrev AF:=AY
abbrev AE:=AX
def GE:AF:=(AJ (aJ (bJ (yJ (vJ 0) (yJ (kJ (.typ "int")) wJ)) oS) (nJ (bJ (yJ (vJ 0) (yJ (kJ (.typ "bool")) wJ)) oS))))
def NP:AF:=(GE)
def qD(ds:U0)(S:Sto):R Er:=zP (NP (zG ["thing"] ds) S)
def kE:AF:=(iJ (bJ (dJ fD (dJ zU (vJ 0) ↑27) (kJ (.str [105,115]))) hX) ((AJ (dJ zU (vJ 0) ↑21))) (JJ))
def aM:AF:=(AJ (dJ zU (dJ zU (dJ zU (vJ 1) (dJ zU (vJ 0) ↑21)) ↑21) ↑20))
def oW:AF:=zI (kE) ((aM))
def aO(ds:U0)(S:Sto):R Er:=zP (oW (zG ["side","looked_at"] ds) S)
def rL:AF:=(CJ (fJ 2 aO (yJ (dJ zU (vJ 1) ↑27) (yJ (vJ 0) wJ))) 2)
def rM:AF:=(CJ (fJ 2 aO (yJ (dJ zU (vJ 1) (kJ (.int 2))) (yJ (vJ 0) wJ))) 3)
def rN:AF:=(iJ (bJ (dJ fD (dJ zU (vJ 1) ↑21) (kJ (.str [115,97,109,101]))) hX) ((AJ (dJ fD (vJ 2) (vJ 3)))) (JJ))
def rO:AF:=(iJ (bJ (dJ fD (dJ zU (vJ 1) ↑21) (kJ (.str [117,110,108,105,107,101]))) hX) ((AJ (dJ HV (vJ 2) (vJ 3)))) (JJ))
def rP:AF:=(AJ (aJ (fJ 1 qD (yJ (vJ 2) wJ)) (aJ (fJ 1 qD (yJ (vJ 3) wJ)) (dJ We (vJ 2) (vJ 3)))))
def CG:AF:=zI (rL) (zI (rM) (zI (rN) (zI (rO) ((rP)))))
def CI(ds:U0)(S:Sto):R Er:=zP (CG (zG ["looked_at","test","left","right"] ds) S)
def aP:AZ:=uJ
def gC:AE:=(fJ 2 CI (yJ (vJ 1) (yJ (vJ 0) wJ)))
def mY:AF:=(AJ (bJ (yJ (pJ (bJ (vJ 1) XO) (zY 0) (aP) (gC) 1 [0]) wJ) Ox))
def fU:AF:=(mY)
def xK(ds:U0)(S:Sto):R Er:=zP (fU (zG ["looked_at","tests"] ds) S)
def qE:AZ:=uJ
def aQ:AE:=(dJ zU (dJ zU (vJ 1) ↑21) (vJ 0))
def uL:AF:=(AJ (pJ (bJ (vJ 1) XO) (zY 0) (qE) (aQ) 1 [0]))
def uM:AF:=(uL)
def qF(ds:U0)(S:Sto):R Er:=zP (uM (zG ["row","columns"] ds) S)
def DL:AF:=(AJ (kJ (.bl false)))
def yW:AF:=(DL)
def mL(ds:U0)(S:Sto):R Er:=zP (yW (zG ["self","row"] ds) S)
def oP:AF:=(AJ (kJ (.bl false)))
def zT:AF:=(oP)
def wA(ds:U0)(S:Sto):R Er:=zP (zT (zG ["self","row","other"] ds) S)
def AT:AF:=(AJ (kJ (.bl false)))
def yR:AF:=(AT)
def aR(ds:U0)(S:Sto):R Er:=zP (yR (zG ["self","row","rows"] ds) S)
def qG:AF:=(AJ (aJ (dJ fD (dJ zU (vJ 1) ↑27) (dJ zU (bJ (vJ 0) (rH ZC "parts")) ↑21)) (fJ 2 xK (yJ (bJ (yJ (vJ 1) wJ) kR) (yJ (dJ zU (bJ (vJ 0) (rH ZC "parts")) (kJ (.int 2))) wJ)))))
def xH:AF:=(qG)
def GF(ds:U0)(S:Sto):R Er:=zP (xH (zG ["self","row"] ds) S)
def xA:AF:=(iJ (sJ (bJ (dJ HV (dJ zU (vJ 1) ↑27) (dJ zU (bJ (vJ 0) (rH ZC "parts")) ↑21)) hX) (bJ (dJ HV (dJ zU (vJ 2) ↑27) (dJ zU (bJ (vJ 0) (rH ZC "parts")) (kJ (.int 2)))) hX)) ((AJ (kJ (.bl false)))) (JJ))
def kG:AF:=(AJ (fJ 2 xK (yJ (bJ (yJ (vJ 1) (yJ (vJ 2) wJ)) kR) (yJ (dJ zU (bJ (vJ 0) (rH ZC "parts")) (kJ (.int 3))) wJ))))
def zS:AF:=zI (xA) ((kG))
def xU(ds:U0)(S:Sto):R Er:=zP (zS (zG ["self","row","other"] ds) S)
def xM:List (Str×↑8):=[("Apart",xU)]
def gX:AF:=(AJ (oJ (NJ "parts_in_turn" 3 xM (vJ 0) (yJ (vJ 1) (yJ (vJ 2) wJ))) (NJ "parts_in_turn" 3 xM (vJ 0) (yJ (vJ 2) (yJ (vJ 1) wJ)))))
def yA:AF:=(gX)
def qH(ds:U0)(S:Sto):R Er:=zP (yA (zG ["self","row","other"] ds) S)
def mZ:AY:=(iJ (rJ (bJ (dJ fD (dJ zU (vJ 4) ↑27) (dJ zU (bJ (vJ 0) (rH ZC "parts")) (kJ (.int 3)))) hX) (bJ (dJ fD (fJ 2 qF (yJ (vJ 4) (yJ (dJ zU (bJ (vJ 0) (rH ZC "parts")) (kJ (.int 4))) wJ))) (vJ 3)) hX)) ((AJ (kJ (.bl false)))) (JJ))
def cU:AY:=(mZ)
def jP:AF:=(iJ (bJ (dJ HV (dJ zU (vJ 1) ↑27) (dJ zU (bJ (vJ 0) (rH ZC "parts")) ↑21)) hX) ((AJ (kJ (.bl false)))) (JJ))
def fV:AF:=(CJ (fJ 2 qF (yJ (vJ 1) (yJ (dJ zU (bJ (vJ 0) (rH ZC "parts")) (kJ (.int 2))) wJ))) 3)
def fW:AF:=(FJ (bJ (vJ 2) AA) (zY 4) (cU))
def DM:AF:=(AJ (kJ (.bl true)))
def yX:AF:=zI (jP) (zI (fV) (zI (fW) ((DM))))
def rQ(ds:U0)(S:Sto):R Er:=zP (yX (zG ["self","row","rows","asked","other"] ds) S)
def kN:AF:=(iJ (bJ (dJ fD (dJ zU (vJ 0) ↑27) (kJ (.str [110,101,118,101,114]))) hX) ((AJ (bJ (vJ 0) (Kc "Never" "parts")))) (JJ))
def nV:AF:=(iJ (bJ (dJ fD (dJ zU (vJ 0) ↑27) (kJ (.str [97,112,97,114,116]))) hX) ((AJ (bJ (vJ 0) (Kc "Apart" "parts")))) (JJ))
def JY:AF:=(AJ (bJ (vJ 0) (Kc "Tie" "parts")))
def pU:AF:=zI (kN) (zI (nV) ((JY)))
def CK(ds:U0)(S:Sto):R Er:=zP (pU (zG ["parts"] ds) S)
def qI:AZ:=uJ
def aS:AE:=(fJ 1 CK (yJ (vJ 0) wJ))
def oX:AF:=(AJ (pJ (bJ (dJ zU (vJ 0) ↑21) XO) (zY 0) (qI) (aS) 1 []))
def uN:AF:=(oX)
def gY(ds:U0)(S:Sto):R Er:=zP (uN (zG ["book"] ds) S)
def uO:AF:=(AJ (bJ (yJ (bJ (yJ ↑20 wJ) cS) wJ) YJ))
def uP:AF:=(uO)
def fI(ds:U0)(S:Sto):R Er:=zP (uP (zG ["book"] ds) S)
def qK:AZ:=uJ
def aT:AE:=(bJ (yJ (vJ 1) (yJ (vJ 0) wJ)) wM)
def qL:AY:=(BJ (eJ aI Xy (vJ 1) (yJ (pJ (bJ (tJ EC (vJ 0) (bJ (dJ wK (vJ 2) ↑21) Ob) mJ) XO) (zY 0) (qK) (aT) 1 [3]) wJ)))
def oY:AY:=(qL)
def oZ:AF:=(CJ (bJ wJ kR) 1)
def pA:AF:=(FJ (bJ (yJ (vJ 0) wJ) Pn) (HM 2 (zR (zY 2) (zR (zY 3) gA))) (oY))
def GH:AF:=(AJ (vJ 1))
def uQ:AF:=zI (oZ) (zI (pA) ((GH)))
def uR(ds:U0)(S:Sto):R Er:=zP (uQ (zG ["rows","pairs","place","i"] ds) S)
def EH:AF:=(AJ (bJ (yJ (dJ zU (vJ 1) ↑27) (yJ (tJ EC (dJ zU (vJ 1) ↑21) mJ (bJ (dJ zU (dJ zU (vJ 0) (dJ zU (vJ 1) ↑27)) ↑21) Ob)) wJ)) wM))
def GI:AF:=(EH)
def AU(ds:U0)(S:Sto):R Er:=zP (GI (zG ["tables","row"] ds) S)
def xL:List (Str×↑8):=[("Rule",wA),("Never",wA),("Apart",qH),("Tie",wA)]
def wO:AZ:=(bJ (NJ "parts_them" 3 xL (vJ 1) (yJ (vJ 4) (yJ (vJ 5) wJ))) mX)
def wQ:AE:=(bJ (yJ (kJ (.str [97,112,97,114,116])) (yJ (vJ 2) (yJ (vJ 3) (yJ (vJ 0) wJ)))) wM)
def gD:AF:=(CJ (dJ zU ↑20 (vJ 2)) 4)
def gF:AF:=(CJ (dJ zU ↑20 (vJ 3)) 5)
def gG:AF:=(CJ (pJ (bJ (yJ (vJ 1) wJ) Pn) (HM 2 (zR (zY 0) (zR (zY 1) gA))) (wO) (wQ) 2 [2,3,4,5]) 6)
def gH:AF:=(iJ (bJ (dJ fD (fJ 2 AU (yJ (dJ zU (vJ 0) ↑27) (yJ (vJ 4) wJ))) (fJ 2 AU (yJ (dJ zU (vJ 0) ↑27) (yJ (vJ 5) wJ)))) hX) ((BJ (eJ aI FR (vJ 6) (yJ (bJ (yJ (kJ (.str [107,101,121])) (yJ (vJ 2) (yJ (vJ 3) wJ))) wM) wJ)))) (JJ))
def rR:AF:=(AJ (vJ 6))
def dA:AF:=zI (gD) (zI (gF) (zI (gG) (zI (gH) ((rR)))))
def dB(ds:U0)(S:Sto):R Er:=zP (dA (zG ["book","rules","i","j","row","other","parted"] ds) S)
def mN:List (Str×↑8):=[("Rule",aR),("Never",aR),("Apart",aR),("Tie",rQ)]
def fX:AZ:=(qJ (bJ (NJ "lacks" 3 mN (vJ 2) (yJ (vJ 3) (yJ (bJ (yJ (vJ 1) wJ) kR) wJ))) mX))
def sR:AE:=(vJ 0)
def fY:AY:=(iJ (bJ (NJ "lacks" 3 mN (vJ 2) (yJ (vJ 4) (yJ (bJ wJ kR) wJ))) mX) ((BJ (eJ aI FR (vJ 1) (yJ (bJ (yJ (vJ 3) (yJ (pJ (bJ (yJ ↑20 wJ) Pn) (HM 2 (zR (zY 0) (zR (zY 1) gA))) (fX) (sR) 2 [2,4]) wJ)) wM) wJ)))) (JJ))
def nW:AY:=(fY)
def sS:AY:=(FJ (bJ (yJ ↑20 wJ) Pn) (HM 2 (zR (zY 3) (zR (zY 4) gA))) (nW))
def rS:AY:=(sS)
def rV:AF:=(CJ (bJ wJ kR) 1)
def rW:AF:=(FJ (bJ (fJ 1 gY (yJ (vJ 0) wJ)) AA) (zY 2) (rS))
def rX:AF:=(AJ (vJ 1))
def CL:AF:=zI (rV) (zI (rW) ((rX)))
def bL(ds:U0)(S:Sto):R Er:=zP (CL (zG ["book","ties","rule","i","row"] ds) S)
def bM:AY:=(iJ (bJ (dJ (MZ false) (vJ 2) (vJ 0)) hX) ((AJ (kJ (.bl true)))) (JJ))
def gZ:AY:=(bM)
def kH:AF:=(FJ (bJ (vJ 1) AA) (zY 2) (gZ))
def AV:AF:=(AJ (kJ (.bl false)))
def pB:AF:=zI (kH) ((AV))
def pC(ds:U0)(S:Sto):R Er:=zP (pB (zG ["kept","some","number"] ds) S)
def xR:AZ:=(rJ (bJ (dJ (MZ false) (vJ 0) (vJ 2)) hX) (qJ (bJ (fJ 2 pC (yJ (vJ 2) (yJ (vJ 1) wJ))) mX)))
def kT:AE:=(vJ 0)
def bN:AF:=(AJ (pJ (bJ (vJ 0) AA) (HM 2 (zR (zY 0) (zR (zY 1) gA))) (xR) (kT) 2 [1]))
def aU:AF:=(bN)
def bA(ds:U0)(S:Sto):R Er:=zP (aU (zG ["ties","kept"] ds) S)
def aV:AZ:=uJ
def gI:AE:=(bJ (yJ (vJ 0) (yJ (kJ (.bl true)) wJ)) wM)
def aW:AY:=(BJ (eJ NB RT (vJ 2) (yJ (vJ 4) (yJ (kJ .non) wJ))))
def jK:AY:=(aW)
def gK:AY:=(FJ (bJ (vJ 3) AA) (zY 4) (jK))
def gM:AY:=(CJ (fJ 2 bA (yJ (vJ 0) (yJ (vJ 2) wJ))) 3)
def jL:AY:=zI (gK) ((gM))
def bO:AZ:=(bJ (vJ 3) mX)
def dC:AF:=(CJ (bJ (yJ (pJ (bJ (vJ 1) AA) (zY 0) (aV) (gI) 1 []) wJ) Fy) 2)
def dD:AF:=(CJ (fJ 2 bA (yJ (vJ 0) (yJ (vJ 2) wJ))) 3)
def oA:AF:=(λρ S=>pX (bO) (jL) 10000 ρ S)
def dE:AF:=(AJ (bJ (yJ (vJ 2) wJ) RV))
def fZ:AF:=zI (dC) (zI (dD) (zI (oA) ((dE))))
def yN(ds:U0)(S:Sto):R Er:=zP (fZ (zG ["ties","rows","kept","untied","i"] ds) S)
def rY:List (Str×↑8):=[("Rule",mL),("Never",GF),("Apart",mL),("Tie",mL)]
def EI:AZ:=uJ
def uS:AE:=(NJ "bars" 2 rY (vJ 0) (yJ (dJ zU (dJ zU (vJ 2) (kJ (.int 2))) (vJ 1)) wJ))
def uT:AZ:=(qJ (bJ (bJ (yJ (pJ (bJ (vJ 2) AA) (zY 0) (EI) (uS) 1 [0,1]) wJ) Bq) mX))
def EK:AE:=(vJ 0)
def GK:AF:=(CJ (fJ 1 gY (yJ (vJ 0) wJ)) 2)
def GL:AF:=(CJ (pJ (bJ (vJ 1) XO) (zY 0) (uT) (EK) 1 [0,2]) 3)
def GM:AF:=(AJ (fJ 2 yN (yJ (fJ 1 bL (yJ (vJ 0) wJ)) (yJ (vJ 3) wJ))))
def UU:AF:=zI (GK) (zI (GL) ((GM)))
def IG(ds:U0)(S:Sto):R Er:=zP (UU (zG ["book","rows","rules","allowed"] ds) S)
def iA:AZ:=(bJ (fJ 4 dB (yJ (vJ 2) (yJ (vJ 3) (yJ (vJ 0) (yJ (vJ 1) wJ))))) mX)
def iB:AE:=(bJ (yJ (vJ 0) (yJ (vJ 1) wJ)) wM)
def AW:AF:=(CJ (fJ 1 gY (yJ (vJ 0) wJ)) 1)
def BA:AF:=(AJ (pJ (bJ (fJ 1 uR (yJ (fJ 2 IG (yJ (vJ 0) (yJ (fJ 1 fI (yJ (vJ 0) wJ)) wJ))) wJ)) AA) (HM 2 (zR (zY 0) (zR (zY 1) gA))) (iA) (iB) 2 [0,1]))
def CN:AF:=zI (AW) ((BA))
def CO(ds:U0)(S:Sto):R Er:=zP (CN (zG ["book","rules"] ds) S)
def sT:AY:=(BJ (eJ aI FR (eJ NB Ck (vJ 1) (yJ (vJ 2) (yJ (bJ wJ kR) wJ))) (yJ (vJ 3) wJ)))
def sU:AY:=(BJ (eJ aI FR (eJ NB Ck (vJ 1) (yJ (vJ 3) (yJ (bJ wJ kR) wJ))) (yJ (vJ 2) wJ)))
def rZ:AY:=zI (sT) ((sU))
def BB:AF:=(CJ zJ 1)
def BC:AF:=(FJ (bJ (fJ 1 CO (yJ (vJ 0) wJ)) AA) (HM 2 (zR (zY 2) (zR (zY 3) gA))) (rZ))
def BD:AF:=(AJ (vJ 1))
def IH:AF:=zI (BB) (zI (BC) ((BD)))
def pV(ds:U0)(S:Sto):R Er:=zP (IH (zG ["book","foes","i","j"] ds) S)
def oB:AF:=(iJ (bJ (dJ zFN (bJ (yJ (vJ 0) wJ) YQ) (kJ (.int (15)))) hX) ((λ_ _=>R.no)) (JJ))
def iC:AF:=(oB)
def iD(ds:U0)(S:Sto):R Er:=zP (iC (zG ["foes"] ds) S)
def iE:AZ:=uJ
def cV:AE:=(dJ (UG false) (vJ 0) (vJ 1))
def sV:AZ:=uJ
def iG:AE:=(oJ (dJ (UG false) (vJ 0) (vJ 1)) (bJ (yJ (pJ (bJ (dJ UR (vJ 2) (vJ 0)) AA) (zY 0) (iE) (cV) 1 [1]) wJ) Bq))
def BE:AF:=(AJ (bJ (yJ (pJ (bJ (vJ 1) AA) (zY 0) (sV) (iG) 1 [0,2]) wJ) Ox))
def CP:AF:=(BE)
def CQ(ds:U0)(S:Sto):R Er:=zP (CP (zG ["rows","known","foes"] ds) S)
def wR:AZ:=(bJ (dJ (UG true) (vJ 0) (dJ UR (vJ 1) (vJ 2))) hX)
def cG:AE:=(vJ 0)
def cH:AY:=(CJ (bJ (yJ (pJ (bJ (vJ 5) XO) (zY 0) (wR) (cG) 1 [0,3]) wJ) aH) 6)
def cI:AY:=(iJ (bJ (dJ HV (vJ 6) (vJ 5)) hX) ((EJ (kJ (.bl true)) (DJ DG (vJ 4) (vJ 5)))) (JJ))
def cJ:AY:=(iJ (bJ (fJ 3 CQ (yJ (dJ wK (vJ 6) (bJ (yJ (vJ 3) wJ) wM)) (yJ (vJ 1) (yJ (vJ 0) wJ)))) mX) ((EJ (kJ (.bl true)) (DJ DG (vJ 4) (dJ wK (vJ 6) (bJ (yJ (vJ 3) wJ) wM))))) (JJ))
def wC:AY:=zI (cH) (zI (cI) ((cJ)))
def wU:AY:=(BJ (eJ aI FR (vJ 1) (yJ (vJ 3) wJ)))
def wV:AY:=(CJ zJ 4)
def wW:AY:=(FJ (bJ (vJ 2) AA) (zY 5) (wC))
def wX:AY:=(CJ (bJ (yJ (vJ 4) wJ) IF) 2)
def gN:AY:=zI (wU) (zI (wV) (zI (wW) ((wX))))
def aX:AF:=(CJ (bJ wJ kR) 1)
def aY:AF:=(CJ (bJ (yJ (bJ wJ wM) wJ) kR) 2)
def aZ:AF:=(FJ (bJ (bJ (yJ (vJ 0) wJ) RW) AA) (zY 3) (gN))
def eA:AF:=(AJ (vJ 2))
def dF:AF:=zI (aX) (zI (aY) (zI (aZ) ((eA))))
def dG(ds:U0)(S:Sto):R Er:=zP (dF (zG ["foes","known","told","newest","grown","rows","left"] ds) S)
def BF:AF:=(AJ (dJ fD (zGR (yJ (vJ 1) wJ) (yJ (vJ 0) wJ)) ↑27))
def CS:AF:=(BF)
def tQ(ds:U0)(S:Sto):R Er:=zP (CS (zG ["rows","some"] ds) S)
def bB:AF:=(AJ (aJ (dJ zFN (bJ (yJ (vJ 0) wJ) cS) (bJ (yJ (vJ 1) wJ) cS)) (fJ 2 tQ (yJ (vJ 0) (yJ (vJ 1) wJ)))))
def kU:AF:=(bB)
def kW(ds:U0)(S:Sto):R Er:=zP (kU (zG ["rows","some"] ds) S)
def pD:AZ:=(bJ (dJ (MZ true) (vJ 0) (vJ 1)) hX)
def uU:AE:=(vJ 0)
def uV:AY:=(EJ (kJ (.bl true)) (DJ DG (vJ 4) (fJ 2 yN (yJ (vJ 3) (yJ (bJ (yJ (dJ wK (vJ 2) (bJ (yJ (vJ 5) wJ) RH)) wJ) YH) wJ)))))
def qM:AY:=(uV)
def uW:AZ:=uJ
def pE:AE:=(fJ 2 kW (yJ (vJ 0) (yJ (vJ 1) wJ)))
def pF:AZ:=(qJ (bJ (bJ (yJ (pJ (bJ (vJ 1) NL) (zY 0) (uW) (pE) 1 [0]) wJ) Bq) mX))
def uX:AE:=(vJ 0)
def EL:AF:=(CJ (fJ 1 pV (yJ (vJ 0) wJ)) 1)
def EM:AF:=(BJ (fJ 1 iD (yJ (vJ 1) wJ)))
def uY:AF:=(CJ (pJ (bJ (fJ 2 IG (yJ (vJ 0) (yJ (fJ 1 fI (yJ (vJ 0) wJ)) wJ))) XO) (zY 0) (pD) (uU) 1 [1]) 2)
def qN:AF:=(CJ (fJ 1 bL (yJ (vJ 0) wJ)) 3)
def uZ:AF:=(CJ zJ 4)
def EN:AF:=(FJ (bJ (fJ 1 dG (yJ (vJ 1) wJ)) AA) (zY 5) (qM))
def vA:AF:=(AJ (bJ (yJ (pJ (bJ (vJ 4) NL) (zY 0) (pF) (uX) 1 [4]) wJ) JQ))
def GN:AF:=zI (EL) (zI (EM) (zI (uY) (zI (qN) (zI (uZ) (zI (EN) ((vA)))))))
def qO(ds:U0)(S:Sto):R Er:=zP (GN (zG ["book","foes","unharmed","ties","found","rows"] ds) S)
def oC:AF:=(AJ (bJ (yJ (fJ 1 qO (yJ (vJ 0) wJ)) wJ) cS))
def iH:AF:=(oC)
def iI(ds:U0)(S:Sto):R Er:=zP (iH (zG ["book"] ds) S)
def bP:AF:=(iJ (bJ (dJ We (vJ 1) (bJ (yJ (vJ 0) wJ) cS)) hX) ((AJ (dJ zU (vJ 0) (vJ 1)))) (JJ))
def tR:AF:=(AJ ↑27)
def eB:AF:=zI (bP) ((tR))
def zW(ds:U0)(S:Sto):R Er:=zP (eB (zG ["_law_script","_law_k"] ds) S)
def pG:AF:=(CJ (dJ KM (dJ wK (dJ wK (dJ wK (dJ KM (vJ 0) (kJ (.int 2147483647))) (dJ vW (dJ vW (kJ (.int 7919)) (vJ 1)) (vJ 1))) (dJ vW (kJ (.int 101)) (vJ 1))) (kJ (.int 11))) (kJ (.int 2147483647))) 2)
def pH:AF:=(CJ (dJ KM (dJ wK (dJ wK (dJ vW (vJ 2) (vJ 2)) (dJ vW (kJ (.int 48271)) (vJ 2))) (kJ (.int 13))) (kJ (.int 2147483647))) 2)
def pI:AF:=(AJ (dJ KM (dJ wK (dJ wK (dJ vW (vJ 2) (vJ 2)) (dJ vW (kJ (.int 69621)) (vJ 2))) (kJ (.int 7))) (kJ (.int 2147483629))))
def EO:AF:=zI (pG) (zI (pH) ((pI)))
def kX(ds:U0)(S:Sto):R Er:=zP (EO (zG NN ds) S)
def jQ:AF:=(CJ (dJ KM (dJ zU (vJ 0) ↑27) (vJ 1)) 2)
def jR:AF:=(EJ (dJ PZ (dJ zU (vJ 0) ↑27) (vJ 1)) (DJ RI (vJ 0) ↑27))
def DO:AF:=(AJ (vJ 2))
def sB:AF:=zI (jQ) (zI (jR) ((DO)))
def zC(ds:U0)(S:Sto):R Er:=zP (sB (zG AS ds) S)
def oE:AY:=(CJ (dJ wK (dJ vW (vJ 2) (kJ (.int 2147483629))) (fJ 2 kX (yJ (dJ PZ (vJ 0) (kJ (.int 2))) (yJ (dJ wK (dJ wK (kJ (.int 100)) (dJ vW (kJ (.int 6)) (vJ 1))) (vJ 3)) wJ)))) 2)
def iK:AY:=(oE)
def iL:AF:=(iJ (bJ (dJ fD (dJ KM (vJ 0) (kJ (.int 2))) ↑27) hX) ((AJ (bJ (yJ (dJ PZ (vJ 0) (kJ (.int 2))) wJ) kR))) (JJ))
def sW:AF:=(CJ ↑27 2)
def iM:AF:=(FJ (bJ (yJ (kJ (.int 6)) wJ) cR) (zY 3) (iK))
def iO:AF:=(AJ (bJ (yJ (vJ 2) wJ) kR))
def sC:AF:=zI (iL) (zI (sW) (zI (iM) ((iO))))
def yF(ds:U0)(S:Sto):R Er:=zP (sC (zG JR ds) S)
def dH:AZ:=(bJ (bJ (yJ (vJ 0) (yJ (kJ (.typ "str")) wJ)) oS) mX)
def oF:AE:=(vJ 0)
def oG:AZ:=uJ
def dI:AE:=(dJ zU (vJ 2) (fJ 2 zC (yJ (vJ 1) (yJ (kJ (.int 26)) wJ))))
def sX:AF:=(CJ (kJ (.str [97,98,99,100,101,102,103,104,105,106,107,108,109,110,111,112,113,114,115,116,117,118,119,120,121,122])) 2)
def iQ:AF:=(CJ (pJ (bJ (vJ 1) AA) (zY 0) (dH) (oF) 1 []) 3)
def iR:AF:=(CJ (eJ MG RP (kJ (.str [])) (yJ (pJ (bJ (yJ (dJ wK ↑21 (fJ 2 zC (yJ (vJ 0) (yJ (kJ (.int 8)) wJ)))) wJ) cR) (zY 0) (oG) (dI) 1 [0,2]) wJ)) 4)
def iS:AF:=(CJ (fJ 2 zC (yJ (vJ 0) (yJ (kJ (.int 3)) wJ))) 5)
def iT:AF:=(iJ (sJ (bJ (dJ fD (vJ 5) ↑27) hX) (bJ (dJ fD (vJ 3) (bJ wJ kR)) hX)) ((AJ (vJ 4))) (JJ))
def iU:AF:=(iJ (bJ (dJ fD (vJ 5) ↑21) hX) ((AJ (tJ EC (dJ wK (dJ zU (vJ 3) (kJ (.int (-1)))) (vJ 4)) mJ (bJ (bJ (yJ (kJ (.int 8)) (yJ (dJ wK (bJ (yJ (dJ zU (vJ 3) (kJ (.int (-1)))) wJ) cS) ↑21) wJ)) Xo) Ob)))) (JJ))
def iV:AF:=(CJ (fJ 2 zC (yJ (vJ 0) (yJ (bJ (yJ (dJ zU (vJ 3) (kJ (.int (-1)))) wJ) cS) wJ))) 6)
def iW:AF:=(AJ (dJ wK (dJ wK (tJ EC (dJ zU (vJ 3) (kJ (.int (-1)))) mJ (bJ (vJ 6) Ob)) (dJ zU (vJ 4) ↑27)) (tJ EC (dJ zU (vJ 3) (kJ (.int (-1)))) (bJ (dJ wK (vJ 6) ↑21) Ob) mJ)))
def nY:AF:=zI (sX) (zI (iQ) (zI (iR) (zI (iS) (zI (iT) (zI (iU) (zI (iV) ((iW))))))))
def bC(ds:U0)(S:Sto):R Er:=zP (nY (zG JS ds) S)
def dL:AY:=(CJ (fJ 2 zC (yJ (vJ 1) (yJ (kJ (.int 4)) wJ))) 4)
def dM:AY:=(CJ (dJ Jm (fJ 2 zC (yJ (vJ 1) (yJ (kJ (.int 9)) wJ))) (kJ (.int 4))) 5)
def jM:AY:=(iJ (bJ (dJ fD (vJ 4) ↑27) hX) ((CJ (dJ wK (dJ Jm (fJ 2 zC (yJ (vJ 1) (yJ (dJ Jm (dJ vW (kJ (.int 2)) (dJ Vz (kJ (.int 10)) (kJ (.int 30)))) ↑21) wJ))) (dJ Vz (kJ (.int 10)) (kJ (.int 30)))) ↑21) 5)) (JJ))
def jN:AY:=(iJ (sJ (bJ (dJ fD (vJ 4) ↑21) hX) (bJ (dJ fD (vJ 4) (kJ (.int 2))) hX)) ((CJ (fJ 2 bC (yJ (vJ 1) (yJ (vJ 2) wJ))) 5)) (JJ))
def dN:AY:=(iJ (bJ (dJ (UG true) (vJ 5) (vJ 2)) hX) ((BJ (eJ aI FR (vJ 2) (yJ (vJ 5) wJ)))) (JJ))
def cW:AY:=zI (dL) (zI (dM) (zI (jM) (zI (jN) ((dN)))))
def iY:AF:=(CJ (fJ 2 yF (yJ (vJ 0) (yJ ↑21 wJ))) 1)
def iZ:AF:=(CJ (bJ wJ kR) 2)
def lB:AF:=(FJ (bJ (yJ (dJ wK (kJ (.int 2)) (fJ 2 zC (yJ (vJ 1) (yJ (kJ (.int 3)) wJ)))) wJ) cR) (zY 3) (cW))
def lD:AF:=(AJ (vJ 2))
def BG:AF:=zI (iY) (zI (iZ) (zI (lB) ((lD))))
def nZ(ds:U0)(S:Sto):R Er:=zP (BG (zG JT ds) S)
def gO:AY:=(CJ (dJ wK ↑21 (fJ 2 zC (yJ (vJ 1) (yJ (kJ (.int 4)) wJ)))) 4)
def gP:AY:=(CJ (dJ zU (bJ (yJ ↑27 (yJ ↑21 (yJ ↑21 (yJ (vJ 4) (yJ (fJ 2 zC (yJ (vJ 1) (yJ (dJ wK (vJ 4) ↑21) wJ))) wJ))))) kR) (fJ 2 zC (yJ (vJ 1) (yJ (kJ (.int 5)) wJ)))) 5)
def gQ:AY:=(BJ (eJ aI FR (vJ 2) (yJ (bJ (yJ (vJ 4) (yJ (vJ 5) wJ)) wM) wJ)))
def dO:AY:=zI (gO) (zI (gP) ((gQ)))
def dP:AF:=(CJ (fJ 2 yF (yJ (vJ 0) (yJ (kJ (.int 2)) wJ))) 1)
def dQ:AF:=(CJ (bJ wJ kR) 2)
def dR:AF:=(FJ (bJ (yJ (dJ wK ↑21 (fJ 2 zC (yJ (vJ 1) (yJ (kJ (.int 4)) wJ)))) wJ) cR) (zY 3) (dO))
def dS:AF:=(AJ (bJ (yJ (vJ 2) wJ) aH))
def sY:AF:=zI (dP) (zI (dQ) (zI (dR) ((dS))))
def jS(ds:U0)(S:Sto):R Er:=zP (sY (zG DI ds) S)
def qP:AZ:=uJ
def eC:AE:=(dJ zU (vJ 1) (fJ 2 zC (yJ (vJ 2) (yJ (bJ (yJ (vJ 1) wJ) cS) wJ))))
def pK:AF:=(CJ (fJ 2 yF (yJ (vJ 0) (yJ (kJ (.int 3)) wJ))) 3)
def pM:AF:=(CJ (fJ 2 zC (yJ (vJ 3) (yJ (bJ (yJ (vJ 1) wJ) cS) wJ))) 4)
def pN:AF:=(AJ (bJ (yJ (vJ 4) (yJ (bJ (yJ (pJ (bJ (yJ (dJ zU (dJ zU (vJ 1) (vJ 4)) ↑27) wJ) cR) (zY 0) (qP) (eC) 1 [2,3]) wJ) aH) wJ)) wM))
def EQ:AF:=zI (pK) (zI (pM) ((pN)))
def fK(ds:U0)(S:Sto):R Er:=zP (EQ (zG NO ds) S)
def dU:AY:=(CJ (fJ 3 fK (yJ (vJ 5) (yJ (vJ 1) (yJ (vJ 2) wJ)))) 6)
def xE:AY:=(iJ (rJ (bJ (dJ (UG true) (vJ 6) (vJ 4)) hX) (bJ (dJ We (bJ (yJ (vJ 4) wJ) cS) (vJ 3)) hX)) ((BJ (eJ aI FR (vJ 4) (yJ (vJ 6) wJ)))) (JJ))
def wL:AY:=zI (dU) ((xE))
def lE:AF:=(CJ (bJ wJ kR) 4)
def lF:AF:=(FJ (bJ (vJ 0) AA) (zY 5) (wL))
def lG:AF:=(AJ (bJ (yJ (vJ 4) wJ) aH))
def BH:AF:=zI (lE) (zI (lF) ((lG)))
def aB(ds:U0)(S:Sto):R Er:=zP (BH (zG JU ds) S)
def jT:AF:=(iJ (bJ (dJ fD (fJ 2 zC (yJ (vJ 0) (yJ (kJ (.int 3)) wJ))) ↑27) hX) ((AJ (bJ (yJ (kJ (.str [105,115])) (yJ (dJ zU (vJ 3) (fJ 2 zC (yJ (vJ 0) (yJ (bJ (yJ (vJ 3) wJ) cS) wJ)))) wJ)) wM))) (JJ))
def lH:AF:=(CJ (fJ 2 zC (yJ (vJ 0) (yJ (bJ (yJ (vJ 1) wJ) cS) wJ))) 4)
def lI:AF:=(AJ (bJ (yJ (kJ (.str [99,101,108,108])) (yJ (vJ 4) (yJ (fJ 2 zC (yJ (vJ 0) (yJ (dJ zU (dJ zU (vJ 2) (dJ zU (vJ 1) (vJ 4))) ↑27) wJ))) wJ))) wM))
def sD:AF:=zI (jT) (zI (lH) ((lI)))
def wD(ds:U0)(S:Sto):R Er:=zP (sD (zG JV ds) S)
def bQ:AY:=(CJ (fJ 4 wD (yJ (vJ 0) (yJ (vJ 1) (yJ (vJ 2) (yJ (vJ 3) wJ))))) 6)
def bR:AY:=(CJ (fJ 4 wD (yJ (vJ 0) (yJ (vJ 1) (yJ (vJ 2) (yJ (vJ 3) wJ))))) 7)
def bS:AY:=(BJ (eJ aI FR (vJ 4) (yJ (bJ (yJ (vJ 6) (yJ (dJ zU (bJ (yJ (kJ (.str [115,97,109,101])) (yJ (kJ (.str [117,110,108,105,107,101])) (yJ (kJ (.str [108,101,115,115])) (yJ (kJ (.str [115,97,109,101])) wJ)))) kR) (fJ 2 zC (yJ (vJ 0) (yJ (kJ (.int 4)) wJ)))) (yJ (vJ 7) wJ))) wM) wJ)))
def bD:AY:=zI (bQ) (zI (bR) ((bS)))
def eE:AF:=(CJ (bJ wJ kR) 4)
def eF:AF:=(FJ (bJ (yJ (dJ zU (bJ (yJ ↑21 (yJ ↑21 (yJ (kJ (.int 2)) (yJ (kJ (.int 3)) wJ)))) kR) (fJ 2 zC (yJ (vJ 0) (yJ (kJ (.int 4)) wJ)))) wJ) cR) (zY 5) (bD))
def eG:AF:=(AJ (bJ (yJ (vJ 4) wJ) aH))
def vB:AF:=zI (eE) (zI (eF) ((eG)))
def xI(ds:U0)(S:Sto):R Er:=zP (vB (zG GD ds) S)
def oH:AZ:=uJ
def dW:AE:=(fJ 2 zC (yJ (vJ 2) (yJ (dJ zU (dJ zU (vJ 1) (vJ 3)) ↑27) wJ)))
def oI:AZ:=uJ
def dX:AE:=(fJ 2 zC (yJ (vJ 2) (yJ (dJ zU (dJ zU (vJ 1) (vJ 3)) ↑27) wJ)))
def lK:AF:=(CJ (fJ 2 yF (yJ (vJ 0) (yJ (kJ (.int 4)) wJ))) 3)
def lL:AF:=(CJ (fJ 2 zC (yJ (vJ 3) (yJ (kJ (.int 3)) wJ))) 4)
def lN:AF:=(CJ (fJ 2 zC (yJ (vJ 3) (yJ (bJ (yJ (vJ 1) wJ) cS) wJ))) 5)
def lO:AF:=(CJ (fJ 2 zC (yJ (vJ 3) (yJ (bJ (yJ (vJ 1) wJ) cS) wJ))) 6)
def jU:AF:=(iJ (bJ (dJ fD (vJ 4) ↑27) hX) ((AJ (bJ (yJ (kJ (.str [110,101,118,101,114])) (yJ (vJ 5) (yJ (fJ 4 xI (yJ (vJ 3) (yJ (bJ (yJ (vJ 5) wJ) wM) (yJ (vJ 1) (yJ (vJ 2) wJ))))) wJ))) wM))) (JJ))
def jV:AF:=(iJ (bJ (dJ fD (vJ 4) ↑21) hX) ((AJ (bJ (yJ (kJ (.str [97,112,97,114,116])) (yJ (vJ 5) (yJ (vJ 6) (yJ (fJ 4 xI (yJ (vJ 3) (yJ (bJ (yJ (vJ 5) (yJ (vJ 6) wJ)) wM) (yJ (vJ 1) (yJ (vJ 2) wJ))))) wJ)))) wM))) (JJ))
def lP:AF:=(CJ (dJ zU (bJ (yJ ↑21 (yJ (kJ (.int 2)) (yJ ↑21 (yJ (kJ (.int 3)) (yJ ↑21 wJ))))) kR) (fJ 2 zC (yJ (vJ 3) (yJ (kJ (.int 5)) wJ)))) 7)
def lQ:AF:=(CJ (bJ (yJ (pJ (bJ (yJ (vJ 7) wJ) cR) (zY 0) (oH) (dW) 1 [1,3,5]) wJ) aH) 8)
def lR:AF:=(CJ (bJ (yJ (pJ (bJ (yJ (vJ 7) wJ) cR) (zY 0) (oI) (dX) 1 [1,3,6]) wJ) aH) 9)
def eH:AF:=(AJ (bJ (yJ (kJ (.str [116,105,101])) (yJ (vJ 5) (yJ (vJ 8) (yJ (vJ 6) (yJ (vJ 9) wJ))))) wM))
def mP:AF:=zI (lK) (zI (lL) (zI (lN) (zI (lO) (zI (jU) (zI (jV) (zI (lP) (zI (lQ) (zI (lR) ((eH))))))))))
def wF(ds:U0)(S:Sto):R Er:=zP (mP (zG JW ds) S)
def oK:AZ:=uJ
def dY:AE:=(fJ 3 wF (yJ (fJ 2 zW (yJ (vJ 1) (yJ (dJ wK (kJ (.int 3)) (vJ 0)) wJ))) (yJ (vJ 3) (yJ (vJ 2) wJ))))
def oM:AY:=(BJ (eJ aI FR (vJ 7) (yJ (dJ wK ↑21 (dJ vW (kJ (.int 2)) (fJ 2 kX (yJ (fJ 2 zW (yJ (vJ 0) (yJ (kJ (.int 2)) wJ))) (yJ (dJ wK (kJ (.int 30)) (vJ 8)) wJ))))) wJ)))
def lU:AY:=(oM)
def lV:AF:=(CJ (fJ 1 nZ (yJ (fJ 2 zW (yJ (vJ 0) (yJ ↑27 wJ))) wJ)) 3)
def lW:AF:=(CJ (fJ 1 jS (yJ (fJ 2 zW (yJ (vJ 0) (yJ ↑21 wJ))) wJ)) 4)
def lX:AF:=(CJ (fJ 2 zC (yJ (fJ 2 yF (yJ (fJ 2 zW (yJ (vJ 0) (yJ (kJ (.int 2)) wJ))) (yJ (kJ (.int 5)) wJ))) (yJ (dJ zU (bJ (yJ (kJ (.int 2)) (yJ (kJ (.int 3)) (yJ (kJ (.int 5)) (yJ (kJ (.int 7)) wJ)))) kR) (vJ 2)) wJ))) 5)
def lY:AF:=(CJ (bJ (yJ (pJ (bJ (yJ (vJ 5) wJ) cR) (zY 0) (oK) (dY) 1 [0,3,4]) wJ) aH) 6)
def lZ:AF:=(CJ (bJ (yJ (tJ EC (vJ 0) (bJ (dJ wK (kJ (.int 3)) (vJ 5)) Ob) mJ) wJ) RH) 7)
def mB:AF:=(FJ (bJ (yJ (dJ KM (fJ 2 kX (yJ (fJ 2 zW (yJ (vJ 0) (yJ (kJ (.int 2)) wJ))) (yJ (kJ (.int 6)) wJ))) (dJ wK (vJ 1) ↑21)) wJ) cR) (zY 8) (lU))
def mE:AF:=(AJ (bJ (yJ (vJ 4) (yJ (vJ 6) (yJ (fJ 4 aB (yJ (tJ EC (vJ 7) mJ (bJ (dJ vW (kJ (.int 2)) (vJ 1)) Ob)) (yJ (vJ 4) (yJ (vJ 3) (yJ (vJ 1) wJ))))) wJ))) wM))
def BI:AF:=zI (lV) (zI (lW) (zI (lX) (zI (lY) (zI (lZ) (zI (mB) ((mE)))))))
def aC(ds:U0)(S:Sto):R Er:=zP (BI (zG JX ds) S)
def kI:AF:=(iJ (bJ (dJ fD (dJ zU (vJ 0) ↑27) (kJ (.str [105,115]))) hX) ((AJ (dJ zU (vJ 0) ↑21))) (JJ))
def eI:AF:=(AJ (dJ zU (dJ zU (dJ zU (vJ 1) (dJ zU (vJ 0) ↑21)) ↑21) ↑20))
def pO:AF:=zI (kI) ((eI))
def eK(ds:U0)(S:Sto):R Er:=zP (pO (zG uK ds) S)
def dZ:AY:=(CJ (fJ 2 eK (yJ (vJ 2) (yJ (vJ 1) wJ))) 5)
def nA:AY:=(CJ (fJ 2 eK (yJ (vJ 4) (yJ (vJ 1) wJ))) 6)
def nB:AY:=(iJ (sJ (rJ (bJ (dJ fD (vJ 3) (kJ (.str [115,97,109,101]))) hX) (bJ (dJ HV (vJ 5) (vJ 6)) hX)) (rJ (bJ (dJ fD (vJ 3) (kJ (.str [117,110,108,105,107,101]))) hX) (bJ (dJ fD (vJ 5) (vJ 6)) hX))) ((AJ (kJ (.bl false)))) (JJ))
def nE:AY:=(iJ (rJ (bJ (dJ fD (vJ 3) (kJ (.str [108,101,115,115]))) hX) (sJ (bJ (bJ (yJ (vJ 5) (yJ (kJ (.typ "str")) wJ)) oS) mX) (sJ (bJ (bJ (yJ (vJ 6) (yJ (kJ (.typ "str")) wJ)) oS) mX) (bJ (dJ geF (vJ 5) (vJ 6)) hX)))) ((AJ (kJ (.bl false)))) (JJ))
def cX:AY:=zI (dZ) (zI (nA) (zI (nB) ((nE))))
def mG:AF:=(FJ (bJ (vJ 0) XO) (HM 3 (zR (zY 2) (zR (zY 3) (zR (zY 4) gA)))) (cX))
def DP:AF:=(AJ (kJ (.bl true)))
def sE:AF:=zI (mG) ((DP))
def kO(ds:U0)(S:Sto):R Er:=zP (sE (zG ["_law_tests_here","_law_rows_here","_law_left","_law_word_here","_law_right","_law_one","_law_other"] ds) S)
def nF:AF:=(AJ (aJ (dJ fD (dJ zU (vJ 0) ↑27) (kJ (.str [110,101,118,101,114]))) (aJ (dJ fD (dJ zU (vJ 1) ↑27) (dJ zU (vJ 0) ↑21)) (fJ 2 kO (yJ ↑20 (yJ (bJ (yJ (vJ 1) wJ) wM) wJ))))))
def jW:AF:=(nF)
def jX(ds:U0)(S:Sto):R Er:=zP (jW (zG sQ ds) S)
def eM:AY:=(iJ (rJ (bJ (dJ fD (dJ zU (vJ 3) ↑27) (dJ zU (vJ 0) ↑21)) hX) (rJ (bJ (dJ fD (dJ zU (vJ 4) ↑27) ↑20) hX) (bJ (fJ 2 kO (yJ (dJ zU (vJ 0) (kJ (.int 3))) (yJ (bJ (yJ (vJ 3) (yJ (vJ 4) wJ)) wM) wJ))) mX))) ((AJ (kJ (.bl true)))) (JJ))
def nG:AY:=(eM)
def xW:AF:=(iJ (bJ (dJ HV (dJ zU (vJ 0) ↑27) (kJ (.str [97,112,97,114,116]))) hX) ((AJ (kJ (.bl false)))) (JJ))
def nH:AF:=(FJ (bJ (bJ (yJ (bJ (yJ (vJ 1) (yJ (vJ 2) wJ)) wM) (yJ (bJ (yJ (vJ 2) (yJ (vJ 1) wJ)) wM) wJ)) kR) AA) (HM 2 (zR (zY 3) (zR (zY 4) gA))) (nG))
def vP:AF:=(AJ (kJ (.bl false)))
def jY:AF:=zI (xW) (zI (nH) ((vP)))
def jZ(ds:U0)(S:Sto):R Er:=zP (jY (zG ["_law_rule_here","_law_row_here","_law_other","_law_one","_law_two"] ds) S)
def qQ:AZ:=uJ
def kY:AE:=(dJ zU (dJ zU (vJ 1) ↑21) (vJ 0))
def nP:AZ:=uJ
def kZ:AE:=(dJ zU (dJ zU (vJ 1) ↑21) (vJ 0))
def jA:AZ:=(rJ (bJ (dJ fD (dJ zU (vJ 0) ↑27) (dJ zU (vJ 1) (kJ (.int 3)))) hX) (bJ (dJ fD (pJ (bJ (dJ zU (vJ 1) (kJ (.int 4))) XO) (zY 0) (nP) (kZ) 1 [0]) (vJ 2)) hX))
def nQ:AE:=(vJ 0)
def yM:AF:=(iJ (sJ (bJ (dJ HV (dJ zU (vJ 0) ↑27) (kJ (.str [116,105,101]))) hX) (bJ (dJ HV (dJ zU (vJ 1) ↑27) (dJ zU (vJ 0) ↑21)) hX)) ((AJ (kJ (.bl false)))) (JJ))
def bT:AF:=(CJ (pJ (bJ ↑20 XO) (zY 0) (qQ) (kY) 1 [1]) 3)
def bU:AF:=(AJ (dJ fD (pJ (bJ (vJ 2) AA) (zY 0) (jA) (nQ) 1 [0,3]) (bJ wJ kR)))
def yY:AF:=zI (yM) (zI (bT) ((bU)))
def eO(ds:U0)(S:Sto):R Er:=zP (yY (zG ["_law_rule_here","_law_row_here","_law_rows_here","_law_due"] ds) S)
def pP:AF:=(EJ (dJ zU ↑20 (vJ 1)) (HM 2 (zR (zY 2) (zR (zY 3) gA))))
def pQ:AF:=(AJ (bJ (yJ (vJ 2) (yJ (tJ EC (vJ 3) mJ (bJ (dJ zU (dJ zU (dJ zU (vJ 0) ↑27) (vJ 2)) ↑21) Ob)) wJ)) wM))
def vC:AF:=zI (pP) ((pQ))
def qS(ds:U0)(S:Sto):R Er:=zP (vC (zG ["_law_book_here","_law_i","_law_t","_law_cells"] ds) S)
def bV:AZ:=(bJ (fJ 3 jZ (yJ (vJ 0) (yJ (dJ zU (vJ 1) ↑27) (yJ (dJ zU (vJ 1) ↑21) wJ)))) mX)
def fM:AE:=(vJ 0)
def bW:AY:=(CJ (bJ (yJ (dJ zU ↑20 (vJ 2)) (yJ (dJ zU ↑20 (vJ 3)) wJ)) wM) 4)
def bX:AY:=(CJ (pJ (bJ (dJ zU (vJ 0) ↑21) XO) (zY 0) (bV) (fM) 1 [4]) 5)
def fO:AY:=(iJ (sJ (bJ (dJ fD (fJ 2 qS (yJ (vJ 0) (yJ (vJ 2) wJ))) (fJ 2 qS (yJ (vJ 0) (yJ (vJ 3) wJ)))) hX) (bJ (dJ HV (vJ 5) (bJ wJ kR)) hX)) ((EJ (kJ (.bl true)) (DJ DG (vJ 1) (bJ (yJ (vJ 3) (yJ (vJ 2) wJ)) wM)))) (JJ))
def eP:AY:=zI (bW) (zI (bX) ((fO)))
def fP:AY:=(FJ (bJ (yJ (vJ 2) wJ) cR) (zY 3) (eP))
def eQ:AY:=(fP)
def qT:AF:=(CJ zJ 1)
def qU:AF:=(FJ (bJ (yJ (bJ (yJ ↑20 wJ) cS) wJ) cR) (zY 2) (eQ))
def qV:AF:=(AJ (vJ 1))
def vD:AF:=zI (qT) (zI (qU) ((qV)))
def bY(ds:U0)(S:Sto):R Er:=zP (vD (zG ["_law_book_here","_law_pairs_here","_law_i","_law_j","_law_rows_here","_law_parted_here"] ds) S)
def jB:AY:=(iJ (rJ (bJ (dJ (UG false) (dJ zU (vJ 3) ↑27) (vJ 2)) hX) (bJ (dJ (UG false) (dJ zU (vJ 3) ↑21) (vJ 2)) hX)) ((AJ (kJ (.bl false)))) (JJ))
def xN:AY:=(jB)
def nS:AZ:=uJ
def jC:AE:=(dJ zU (dJ zU (vJ 1) (kJ (.int 2))) (vJ 0))
def jD:AY:=(iJ (sJ (bJ (fJ 2 jX (yJ (vJ 6) (yJ (dJ zU ↑20 (vJ 5)) wJ))) mX) (bJ (fJ 3 eO (yJ (vJ 6) (yJ (dJ zU ↑20 (vJ 5)) (yJ (vJ 4) wJ)))) mX)) ((AJ (kJ (.bl false)))) (JJ))
def kL:AY:=(jD)
def jE:AY:=(FJ (bJ (dJ zU (vJ 0) ↑21) XO) (zY 6) (kL))
def xO:AY:=(jE)
def bZ:AF:=(FJ (bJ (vJ 1) NL) (zY 3) (xN))
def cA:AF:=(CJ (pJ (bJ (vJ 2) AA) (zY 0) (nS) (jC) 1 [0]) 4)
def cB:AF:=(FJ (bJ (vJ 2) AA) (zY 5) (xO))
def tS:AF:=(AJ (kJ (.bl true)))
def eR:AF:=zI (bZ) (zI (cA) (zI (cB) ((tS))))
def bE(ds:U0)(S:Sto):R Er:=zP (eR (zG ["_law_book_here","_law_pairs_here","_law_some","_law_pair","_law_rows_here","_law_i","_law_rule_here"] ds) S)
def eS:AZ:=(bJ (dJ fD (dJ KM (dJ zBB (vJ 1) (vJ 0)) (kJ (.int 2))) ↑21) hX)
def qW:AE:=(vJ 0)
def vE:AF:=(AJ (pJ (bJ (yJ (vJ 1) wJ) cR) (zY 0) (eS) (qW) 1 [0]))
def vF:AF:=(vE)
def qX(ds:U0)(S:Sto):R Er:=zP (vF (zG EG ds) S)
def wY:AZ:=(bJ (dJ fD (dJ Gb (vJ 0) (vJ 1)) (vJ 1)) hX)
def cK:AE:=(vJ 0)
def wZ:AZ:=(bJ (dJ HV (dJ Gb (vJ 0) (vJ 1)) (vJ 0)) hX)
def cL:AE:=(vJ 0)
def cM:AY:=(iJ (bJ (dJ fD (pJ (bJ (vJ 3) AA) (zY 0) (wY) (cK) 1 [4]) (bJ wJ kR)) hX) ((iJ (bJ (fJ 3 bE (yJ (vJ 0) (yJ (vJ 1) (yJ (fJ 2 qX (yJ (vJ 4) (yJ (vJ 2) wJ))) wJ)))) mX) ((CJ (dJ wK (pJ (bJ (vJ 3) AA) (zY 0) (wZ) (cL) 1 [4]) (bJ (yJ (vJ 4) wJ) kR)) 3)) (JJ))) (JJ))
def wG:AY:=(cM)
def cN:AZ:=uJ
def kC:AE:=(bJ (yJ (fJ 2 qX (yJ (vJ 0) (yJ (vJ 1) wJ))) wJ) aH)
def eT:AF:=(CJ (fJ 1 bY (yJ (vJ 0) wJ)) 1)
def eU:AF:=(CJ (bJ (yJ ↑20 wJ) cS) 2)
def eV:AF:=(CJ (bJ wJ kR) 3)
def eW:AF:=(FJ (bJ (yJ (dJ Jm (dJ Y3 ↑21 (vJ 2)) ↑21) (yJ (kJ (.int (-1))) (yJ (kJ (.int (-1))) wJ))) YW) (zY 4) (wG))
def eX:AF:=(AJ (bJ (yJ (pJ (bJ (vJ 3) AA) (zY 0) (cN) (kC) 1 [2]) wJ) JQ))
def nI:AF:=zI (eT) (zI (eU) (zI (eV) (zI (eW) ((eX)))))
def nK(ds:U0)(S:Sto):R Er:=zP (nI (zG ["_law_book_here","_law_pairs_here","_law_many","_law_found","_law_bits"] ds) S)
def CT:AZ:=(bJ (bJ (yJ (vJ 0) (yJ (kJ (.typ "bool")) wJ)) oS) mX)
def II:AE:=(vJ 0)
def IK:AY:=(iJ (sJ (qJ (bJ (bJ (yJ (vJ 5) (yJ (kJ (.typ "tuple")) wJ)) oS) mX)) (bJ (dJ HV (pJ (bJ (vJ 5) XO) (zY 0) (CT) (II) 1 []) (bJ wJ kR)) hX)) ((AJ (kJ (.bl false)))) (JJ))
def LD:AY:=(IK)
def IL:AY:=(CJ (fJ 1 qO (yJ (vJ 1) wJ)) 4)
def IM:AY:=(iJ (sJ (qJ (bJ (bJ (yJ (vJ 4) (yJ (kJ (.typ "list")) wJ)) oS) mX)) (bJ (dJ HV (vJ 4) (vJ 2)) hX)) ((AJ (kJ (.bl false)))) (JJ))
def IO:AY:=(FJ (bJ (vJ 4) AA) (zY 5) (LD))
def IP:AY:=(BJ (gJ aI Pa (vJ 4)))
def GO:AY:=zI (IL) (zI (IM) (zI (IO) ((IP))))
def UV:AF:=(CJ (fJ 3 aC (yJ (vJ 0) (yJ (kJ (.int 8)) (yJ (kJ (.int 2)) wJ)))) 1)
def UW:AF:=(CJ (fJ 1 nK (yJ (vJ 1) wJ)) 2)
def UX:AF:=(FJ (bJ (yJ (kJ (.int 2)) wJ) cR) (zY 3) (GO))
def UY:AF:=(CJ (fJ 1 iI (yJ (vJ 1) wJ)) 6)
def UZ:AF:=(AJ (aJ (bJ (yJ (vJ 6) (yJ (kJ (.typ "int")) wJ)) oS) (aJ (nJ (bJ (yJ (vJ 6) (yJ (kJ (.typ "bool")) wJ)) oS)) (dJ fD (vJ 6) (bJ (yJ (vJ 2) wJ) cS)))))
def Ge:AF:=zI (UV) (zI (UW) (zI (UX) (zI (UY) ((UZ)))))
def ZD(ds:U0)(S:Sto):R Er:=zP (Ge (zG ["_law_script","_law_book_here","_law_due","_law_turn","_law_found","_law_some","_law_many"] ds) S)
section
variable{α β:Type}{ρ ρ':Rho}{S S1 S2 S3:Sto}{f g h:AX}{p q:Er}{d:MV}{r:R α}{z:R Er}{y:R Fl}
theorem ev_v{i:Nat}(e:ρ[i]? =some (some d)):vJ i ρ S=#[d,S,1]:=by unfold vJ;rw[e];rfl
def ev_b{f:Rho->Sto->R β}{F:β->Sto->R α}{a:β}(e:f ρ S=.ok a S1)(k:F a S1=r):bJ f F ρ S=r:=by unfold bJ;rw[e];exact k
def ev_d{F:Er->Er->Sto->R Er}(e:f ρ S=.ok p S1)(e2:g ρ S1=.ok q S2)(k:F p q S2=z):dJ F f g ρ S=z:=by unfold dJ;rw[e,xQ,e2];exact k
def ev_i{c:AZ}{f g:Rho->Sto->R α}{k:Bool}(e:c ρ S=.ok k S1)(h:(if k=true then f ρ S1 else g ρ S1)=r):iJ c f g ρ S=r:=by unfold iJ;rw[e];exact h
def ev_t{F:Er->Option Int->Option Int->Sto->R Er}{g h:Rho->Sto->R (Option Int)}{a b:O0}(e:f ρ S=.ok p S1)(e2:g ρ S1=.ok a S2)(c:h ρ S2=.ok b S3)(k:F p a b S3=z):tJ F f g h ρ S=z:=by unfold tJ;rw[e,xQ,e2,xQ,c];exact k
def ev_f{n:Nat}{F:↑8}{a:↑13}(e:a ρ S=.ok rs S1)(k:zH n F rs S1=z):fJ n F a ρ S=z:=by unfold fJ;rw[e];exact k
def ev_e{t:Er->Sto->Bool}{F:Er->List Er->Sto->R Er}{a:↑13}(e:f ρ S=.ok p S1)(b:t p S1=true)(e2:a ρ S1=.ok rs S2)(k:F p rs S2=z):eJ t F f a ρ S=z:=by unfold eJ;rw[e,xQ,iP b,e2];exact k
def ev_g{t:Er->Sto->Bool}{F:Er->List Er->Sto->R Er}(e:f ρ S=.ok p S1)(a:t p S1=true)(k:F p [] S1=z):gJ t F f ρ S=z:=by unfold gJ;rw[e,xQ,iP a];exact k
def ev_p{i:Rho->Sto->R Wk}{g:↑17}{c:AZ}{n:Nat}{I:Db}{k:Wk}{o:U0}(e:i ρ S=.ok k S1)(a:k.ds.length<1000000)(e2:zV g c f (AB n I ρ) k.gs k.ds S1=.ok o S2)(h:#[o,S2,2]=z):pJ i g c f n I ρ S=z:=by unfold pJ;rw[e,xQ,iP a,e2];exact h
theorem ev_q{f:AZ}{k:Bool}(e:f ρ S=.ok k S1):qJ f ρ S=.ok (!k) S1:=by unfold qJ;rw[e];rfl
theorem ev_y{g:↑13}{l:List Er}(e:f ρ S=.ok p S1)(e2:g ρ S1=.ok l S2):yJ f g ρ S=.ok (p::l) S2:=by unfold yJ;rw[e,xQ,e2];rfl
def ev_A(e:f ρ S=.ok p S1)(k:.ok (.ret p) S1=y):AJ f ρ S=y:=by unfold AJ;rw[e];exact k
def ev_B(e:f ρ S=.ok p S1)(k:#[ρ,S1,0]=y):BJ f ρ S=y:=by unfold BJ;rw[e];exact k
def ev_C{i:Nat}(e:f ρ S=.ok p S1)(k:MB ρ i p S1=y):CJ f i ρ S=y:=by unfold CJ;rw[e];exact k
def ev_D{F:Er->Er->MV->Rho->Sto->R Rho}{r:R Rho}(e:f ρ S=.ok p S1)(e2:g ρ S1=.ok q S2)(k:F p q d ρ S2=r):DJ F f g d ρ S=r:=by unfold DJ;rw[e,xQ,e2];exact k
def ev_E{g:↑17}(e:f ρ S=#[d,S1,1])(k:g d ρ S1=.ok ρ' S2)(h:#[ρ',S2,0]=y):EJ f g ρ S=y:=by unfold EJ;rw[e];show(g d ρ S1).bind _=_;rw[k];exact h
def ev_F{i:Rho->Sto->R Wk}{g:↑17}{b:AY}{k:Wk}(e:i ρ S=.ok k S1)(h:cF g b k.gs k.ds ρ S1=y):FJ i g b ρ S=y:=by unfold FJ;rw[e];exact h
end
section
variable{a b:Int}{S:Sto}
def modA(h:0<b:=by first |decide|omega):KM #[a,5] #[b,5] S=.ok #[a % b,5] S:=mod_lit h a S
def divA(h:0<b/\b<1073741824:=by first |decide|omega):PZ #[a,5] #[b,5] S=.ok #[a / b,5] S:=FS h.1 h.2 a S
def mulA(h: -(2 ^ 64)<a/\a<2 ^ 64:=by decide):vW #[a,5] #[b,5] S=.ok #[a * b,5] S:=FT h b S
def mulB(h:0<=b/\b<4294967296:=by first |exact mdl|decide|omega):vW #[a,5] #[b,5] S=.ok #[a * b,5] S:=Fc ⟨by omega,by omega⟩ a S
end
set_option bootstrap.genMatcherCode true in
local macro_rules
 | `(tactic|exists 7,$[$hs],*)=>`(tactic|first
  |(with_reducible first $[|exact $hs ..]*)
  |((with_reducible first |apply ev_v|apply ev_b|apply ev_d|apply ev_y|apply ev_f|apply ev_C|apply ev_A|apply ev_i|apply ite_t|apply ite_f|apply ev_F|apply ev_p|apply ev_e|apply ev_B|apply ev_r|apply ev_s|apply ev_q|apply ev_a|apply ev_o|apply ev_n|apply ev_t|apply ev_g|apply ev_E|apply ev_D)<;>exists 7,$[$hs],*)
  |(with_reducible first |exact eq_int .. |exact tup2 .. |exact tup3 .. |exact Pm .. |exact Xc .. |exact zFV .. |exact zFW ..)
  |(with_reducible show KM _ _ _=_);exact modA
  |(with_reducible show PZ _ _ _=_);exact divA
  |(with_reducible show vW _ _ _=_);(first |exact mulA|exact mulB)
  |(with_reducible show cR _ _=_);exact fH (by omega)
  |(with_reducible show zV _ _ _ _ _ _ _=_);(first $[|exact $hs]*)
  |(with_reducible show cF _ _ _ _ _ _=_);(first $[|exact $hs]*)
  |(with_reducible first $[|exact of_eq_true $hs]* $[|refine ite_d $hs ?_]* $[|refine ite_n $hs ?_]* $[|refine(iP $hs).trans ?_]* $[|refine(iN $hs).trans ?_]*)<;>exists 7,$[$hs],*
  |exact rfl)
def mH{l:Nat}{ds:U0}{d:MV}(a:S[l]? =#[ds,2])(b:↑23<1000000):FR #[l,1] [.val d] S=#[.non,S.set l (.lst (ds++[d])),1]:=by show HY #[l,1] S (λds=>if ↑23<sizeLine then some _ else none)=_;unfold HY;dsimp only;rw[a];dsimp only;rw[iP (é b (fits (à _)))]
theorem nL{l:Nat}{ds:U0}(a:S[l]? =#[ds,2]):aI #[l,1] S=true:=by unfold aI;rw[aL a];rfl
def ZE{l:Nat}{ds:U0}{k:Int}{d:MV}(a:S[l]? =#[ds,2])(b:XB ↑23 k=some j):RI #[l,1] #[k,5] d ρ S=.ok ρ (S.set l (.lst (ds.set j d))):=by unfold RI;dsimp only;rw[a];dsimp only;rw[b]
def get_set{l:Nat}{o o':MO}(h:S[l]? =some o):(S.set l o')[l]? =some o':=ô (gS.mp h).1
def yI{l m:Nat}{o':MO}(h:l≠m):(S.set l o')[m]? =S[m]? :=í h
def IQ{l:Nat}{ds:U0}(a:S[l]? =#[ds,2]):aH [#[l,1]] S=.ok #[ds,6] S:=by show(match kS S _ with |some ds=>R.ok _ S|none=>.no)=_;rw[aL a]
theorem vG(ds:U0)(S:Sto):cS [#[ds,6]] S=.ok #[↑23,5] S:=rfl
theorem VA(gf:↑17)(ρ:Rho)(d:MV)(S:Sto):XN gf ρ (.val d) S=(gf d ρ S).bind λρ' S2=>#[ρ',S2,0]:=rfl
def NQ{n:Nat}{F:↑8}{d:MV}{l:Nat}{x:Int}(k:↑4=n)(j:F (zO rs S).1 (zO rs S).2=#[d,S.set l (.lst [.int x]),1])(h:lo ↑0 d)(i: ∀l,d≠.loc l):zH n F rs S=#[d,S.set l (.lst [.int x]),1]:=by
 unfold zH;rw[iP k,j,yC,xQ]
 have a:FK S (S.set l (.lst [.int x])):=by
  refine⟨by rw[ù];exact à _,λm c=>?_⟩;by_cases e:l=m
  .subst e;exact .inr ⟨_,ô c,yD λe b=>by rw[mS.mp b];exact xD _ _⟩
  .exact .inl (í e)
 unfold gV;rw[iP a];have e:(S.set l (.lst [.int x])).take ↑0=S.set l (.lst [.int x]):=by rw[Į (by rw[ù];exact à _)]
 cases d with
 |loc m=>exact absurd rfl (i m)
 |_=>dsimp only;rw[iP h,e]
theorem pp30(S:Sto):Vz #[10,5] #[30,5] S=.ok #[10 ^ 30,5] S:=rfl
def Yw{b:Int}(h:Vy 0 b)(a:Int)(S:Sto):PZ #[a,5] #[b,5] S=.ok #[a / b,5] S:=iP h
theorem ZF{l:Nat}{x n:Int}(b:S[l]? =#[[.int x],2])(d:0<n)(e: ∀(a:Int)(S:Sto),PZ #[a,5] #[n,5] S=.ok #[a / n,5] S):zH 2 zC [#[l,1],#[n,5]] S=.ok #[x % n,5] (S.set l (.lst [.int (x / n)])):=by
 have hs:zG AS [.loc l,.int n]=[some _,some _,none]:=rfl;have c:uA [MV.int x] 0=some _:=rfl;have e1:jQ [#[l],#[n,0],none] S=#[[#[l],#[n,0],#[x % n,0]],S,0]:=by unfold jQ;exists 7,AQ b c,mod_lit d
 have e2:jR [#[l],#[n,0],#[x % n,0]] S=#[[#[l],#[n,0],#[x % n,0]],S.set l (.lst [.int (x / n)]),0]:=by unfold jR;exists 7,AQ b c,e,VA,ZE b (show XB [MV.int x].length 0=some 0 from rfl)
 refine NQ rfl ?_ (xD _ _) (λl=>by simp);show zC [.loc l,.int n] S=_;unfold zC sB;rw[hs,zB e1,zB e2];rfl
def sF{l:Nat}{x n:Int}(b:S[l]? =#[[.int x],2])(a:0<n)(h1:n<1073741824):zH 2 zC [#[l,1],#[n,5]] S=.ok #[x % n,5] (S.set l (.lst [.int (x / n)])):=ZF b a (FS a h1)
theorem Cs(c k:Int)(i:0<=k/\k<100000)(S:Sto): ∃n,0<=n/\zH 2 kX [#[c,5],#[k,5]] S=.ok #[n,5] S:=by
 have hs:zG NN [.int c,.int k]=[#[c,0],#[k,0],none]:=rfl;have a:0<=k/\k<4294967296:=⟨i.1,by omega⟩
 have e1:pG [#[c,0],#[k,0],none] S=#[[#[c,0],#[k,0],#[(c % 2147483647+7919 * k * k+101 * k+11) % 2147483647,0]],S,0]:=by unfold pG;exists 7,mod_lit (show _<2147483647 by decide),mul_31 a
 have b:0<=(c % 2147483647+7919 * k * k+101 * k+11) % 2147483647:=eN _ ↑7;have h1:(c % 2147483647+7919 * k * k+101 * k+11) % 2147483647<2147483647:=eL _ ↑7;generalize (c % 2147483647+7919 * k * k+101 * k+11) % 2147483647=m at b h1 e1;have e2:pH [#[c,0],#[k,0],#[m,0]] S=#[[#[c,0],#[k,0],#[(m * m+48271 * m+13) % 2147483647,0]],S,0]:=by unfold pH;exists 7,mod_lit (show _<2147483647 by decide),mul_31 ⟨b,by omega⟩
 have d:0<=(m * m+48271 * m+13) % 2147483647:=eN _ ↑7;have e:(m * m+48271 * m+13) % 2147483647<2147483647:=eL _ ↑7;generalize (m * m+48271 * m+13) % 2147483647=p at d e e2;have h:pI [#[c,0],#[k,0],#[p,0]] S=.ok (.ret #[(p * p+69621 * p+7) % 2147483629,5]) S:=by unfold pI;exists 7,mod_lit (show _<2147483629 by decide),mul_31 ⟨d,by omega⟩
 refine⟨(p * p+69621 * p+7) % 2147483629,eN _ ↑7,nU rfl ?_ (xD _ _) (λl=>by simp)⟩;show kX [.int c,.int k] S=_;unfold kX EO;rw[hs,zB e1,zB e2,h];rfl
theorem GP(c k:Int)(w:0<=k/\k<100)(S:Sto): ∃t,zH 2 yF [#[c,5],#[k,5]] S=#[[.int t],S,2]:=by
 have hs:zG JR [.int c,.int k]=[#[c,0],#[k,0],none,none]:=rfl;have e1:iL [#[c,0],#[k,0],none,none] S=if decide (c % 2=0)=true then .ok (.ret (.new [.int (c / 2)])) S else #[[#[c,0],#[k,0],none,none],S,0]:=by unfold iL;exists 7,mod_lit (show(0:Int)<2 by decide),FS (show(0:Int)<2 by decide) ↑7
 have m: ∀t,yF [.int c,.int k] S=#[[.int t],S,2]-> ∃t,zH 2 yF [#[c,5],#[k,5]] S=#[[.int t],S,2]:=λt h=>⟨t,aK rfl (by rw[aN];exact h) (yD λe r=>by rw[mS.mp r];exact xD _ _)⟩
 cases q:decide (c % 2=0)with
 |true=>
  rw[q,iP rfl]at e1;refine m (c / 2) ?_;unfold yF sC;rw[hs,yG e1];rfl
 |false=>
  rw[q,iN xF0]at e1;have e2:sW [#[c,0],#[k,0],none,none] S=#[[#[c,0],#[k,0],#[0,0],none],S,0]:=rfl
  obtain⟨ρ',S',e,t,b,a,o⟩:=IA (L:=(List.range 6).map λk=>MV.int (k:Nat)) (gf:=zY 3) (body:=iK)
   (λi ρ S'=> ∃(t:Int)(b:V0),ρ=[#[c,0],#[k,0],#[t,0],b]/\S'=S) (λi d hi ρ S1 ⟨t,b,a,p⟩=>by subst a p;obtain⟨j,y,rfl⟩:=mM.mp (ñ hi);rw[ò]at y;obtain⟨n,_,v⟩:=Cs (c / 2) (100+6 * k+(j:Nat)) ⟨by omega,by omega⟩ S1;refine⟨[#[c,0],#[k,0],#[t * 2147483629+n,0],#[(j:Nat),0]],S1,?_,yP _,_,_,rfl,rfl⟩;rw[show zY 3 _ [#[c,0],#[k,0],#[t,0],b] S1=.ok [#[c,0],#[k,0],#[t,0],some _] S1 from rfl,xQ];unfold iK oE;exists 7,Fc (show -(2 ^ 64)<(2147483629:Int)/\_<2 ^ 64 by decide),FS (show(0:Int)<2 by decide) ↑7,mul_31 ⟨w.1,by omega⟩,v) ⟨_,_,rfl,rfl⟩
  subst a o;have u:iM [#[c,0],#[k,0],#[0,0],none] S'=#[[#[c,0],#[k,0],#[t,0],b],S',0]:=by unfold iM;simp? [fH (j:=6) ↑7];exact e
  have s:iO [#[c,0],#[k,0],#[t,0],b] S'=.ok (.ret (.new [.int t])) S':=by unfold iO;exists 7,rfl
  refine m t ?_;unfold yF sC;rw[hs,zB e1,zB e2,zB u,s];rfl
mutual
def pd:MV->Bool
 |.int _=>true
 |.str _=>true
 |.tup ds=>Ct ds
 |_=>false
def Ct:List MV->Bool
 |[]=>true
 |d::ds=>pd d&&Ct ds
end
mutual
def LE:MV->Nat
 |.tup ds=>GQ ds+1
 |_=>0
def GQ:List MV->Nat
 |[]=>0
 |d::ds=>max (LE d) (GQ ds)
end
def NS(ds:U0):pd (.tup ds)=Ct ds:=by rw[pd]
def Yx:Ct []=true:=by rw[Ct]
def tT(d:MV)(ds:U0):Ct (d::ds)=(pd d&&Ct ds):=by rw[Ct]
def GR(ds:U0):LE (.tup ds)=GQ ds+1:=by rw[LE]
def tU(d:MV)(ds:U0):GQ (d::ds)=max (LE d) (GQ ds):=by rw[GQ]
def NT:GQ []=0:=by rw[GQ]
def zBI(i:Int):pd (.int i)=true:=by rw[pd]
def zBJ(i:Db):pd (.str i)=true:=by rw[pd]
def VB(i:Int):LE (.int i)=0:=by simp[LE]
def Yy(i:Db):LE (.str i)=0:=by simp[LE]
theorem VC: ∀{ds:U0},(∀d∈ds,pd d=true)->Ct ds=true
 |[],_=>Yx
 |d::ds,h=>by rw[tT,h d mF0,VC λe a=>h e (mO _ a)];rfl
theorem VD: ∀{ds:U0},Ct ds=true-> ∀d∈ds,pd d=true
 |[],_,d,h=>by simp at h
 |e::ds,hp,d,h=>by
  rw[tT,aE]at hp;rcases mC.mp h with rfl|h
  .exact hp.1
  .exact VD hp.2 d h
theorem VE: ∀{ds:U0}{n:Nat},(∀d∈ds,LE d<=n)->GQ ds<=n
 |[],n,_=>by rw[NT];exact zero_le _
 |d::ds,n,h=>by
  rw[tU];have h1:=h d mF0;have b:=VE λe a=>h e (mO _ a)
  lia
theorem ZG: ∀{ds:U0}, ∀d∈ds,LE d<=GQ ds
 |[],d,h=>by simp at h
 |e::ds,d,h=>by
  rcases mC.mp h with rfl|h
  .exact Nat.le_max_left _ _
  .exact ì (ZG d h) (Nat.le_max_right _ _)
def ZH{d:MV}(h:pd d=true):(∃i,d=.int i)\/(∃x,d=.str x)\/ ∃ds,d=.tup ds/\Ct ds=true:=by
 cases d with
 |int i=>exact .inl ⟨i,rfl⟩
 |str x=>exact .inr (.inl ⟨x,rfl⟩)
 |tup ds=>exact .inr (.inr ⟨ds,rfl,by rw[<-NS];exact h⟩)
 |_=>rw[pd]at h<;>first |cases h|(intros;simp)
def dec_is{p:Prop}[Decidable p]{q:Prop}[Decidable q](h:p↔q):decide p=decide q:=by
 by_cases a:q
 .rw[dT0 a,dT0 (h.mpr a)]
 .rw[dF0 a,dF0 λz=>a (h.mp z)]
theorem GS{e:MV->MV->Option Bool}: ∀{ds es:U0},(∀d∈ds, ∀f∈es,e d f=some (decide (d=f)))-> ∃bs,KL e ds es=some bs/\(bs.all id&&↑23==es.length)=decide (ds=es)
 |[],[],_=>⟨[],rfl,by simp⟩
 |[],_::_,_=>⟨[],rfl,by simp⟩
 |_::_,[],_=>⟨[],rfl,by simp⟩
 |d::ds,f::es,h=>by
  obtain⟨bs,h1,i⟩:=GS λa j b k=>h a (mO _ j) b (mO _ k);refine⟨decide (d=f)::bs,?_,?_⟩
  .unfold KL;rw[h d mF0 f mF0,h1];rfl
  .by_cases c:d=f
   .subst c;rw[List.all_cons,dT0 rfl];simp only[id,Ĥ,lC];rw[show(↑23+1==es.length+1)=(↑23==es.length) by simp,i];exact dec_is (by simp)
   .rw[dF0 c];rw[dF0 (λz=>c (List.cons.inj z).1)];rfl
theorem qY{S:Sto}: ∀(n:Nat){d e:MV},pd d=true->pd e=true->LE d<n->eqv S n d e=some (decide (d=e))
 |0,d,e,_,_,h=>by lia
 |n+1,d,e,hd,he,h=>by
  rcases ZH hd with⟨i,rfl⟩|⟨x,rfl⟩|⟨ds,rfl,pds⟩<;>rcases ZH he with⟨j,rfl⟩|⟨y,rfl⟩|⟨es,rfl,pes⟩
  .rw[CB];exact congrArg some (dec_is (by simp))
  .rw[zAC,dF0 (by simp)]
  .rw[dF0 (by simp)];rfl
  .rw[zAD,dF0 (by simp)]
  .rw[uG];exact congrArg some (dec_is (by simp))
  .rw[dF0 (by simp)];rfl
  .rw[dF0 (by simp)];rfl
  .rw[dF0 (by simp)];rfl
  .rw[GR]at h;obtain⟨bs,h1,k⟩:=GS λa c b m=>qY n (VD pds a c) (VD pes b m) (by have:=ZG a c;lia);show((KL _ ds es).map λbs=>bs.all id&&↑23==es.length)=_;rw[h1];show some (bs.all id&&↑23==es.length)=_;rw[k];exact congrArg some (dec_is (by simp))
theorem Gf{d e:MV}(a:pd d=true)(b:pd e=true)(h:LE d<40):fD (.val d) (.val e) S=#[.bl (decide (d=e)),S,1]:=Bu (qY _ a b (by unfold zQ;lia))
theorem GT{S:Sto}{d:MV}(a:pd d=true): ∀{ys:U0},(∀y∈ys,pd y=true/\LE y<40)->XR S zQ d ys=some (ys.map λy=>decide (y=d))
 |[],_=>rfl
 |y::ys,h=>by have h1:=h y mF0;unfold XR;rw[qY zQ h1.1 a (by unfold zQ;exact h1.2),GT a λz b=>h z (mO _ b)];rfl
def Cu{l:Nat}{d:MV}{ys:U0}(b:S[l]? =#[ys,2])(e:pd d=true)(hs: ∀x,d≠.str x)(h: ∀y∈ys,pd y=true/\LE y<40):UG true (.val d) #[l,1] S=#[.bl (!decide (d∈ys)),S,1]:=by
 have e1:itemsOf S #[l,1]=some ys:=by unfold itemsOf;exact aL b
 have e2:AO true (.val d) #[l,1] S=#[.bl (!decide (d∈ys)),S,1]:=by
  unfold AO;rw[e1];dsimp only;rw[GT e h];dsimp only;rw[iP rfl];congr 4;rw[List.any_map];by_cases a:d∈ys
  .rw[dT0 a,ü];exact⟨d,a,by simp⟩
  .rw[dF0 a];rw[ý];intro y c;simp only[Function.comp,id,ë];rintro rfl;exact a c
 cases d with
 |str x=>exact absurd rfl (hs x)
 |_=>exact e2
theorem Ld{n:Nat}{F:↑8}{d:MV}{l:Nat}{x:Int}(o:↑4=n)(k:F (zO rs S).1 (zO rs S).2=#[d,S.set l (.lst [.int x])++T,1])(h:lo ↑0 d)(j: ∀l,d≠.loc l):zH n F rs S=#[d,S.set l (.lst [.int x]),1]:=by
 unfold zH;rw[iP o,k,yC,xQ];have b:(S.set l (.lst [.int x])).length=S.length:=ù
 have c:FK S (S.set l (.lst [.int x])++T):=by
  refine⟨by rw[lA];lia,λm a=>?_⟩;rw[ç (by rw[b];exact a)];by_cases e:l=m
  .subst e;exact .inr ⟨_,ô a,yD λe i=>by rw[mS.mp i];exact xD _ _⟩
  .exact .inl (í e)
 unfold gV;rw[iP c];have e:(S.set l (.lst [.int x])++T).take ↑0=S.set l (.lst [.int x]):=by rw[<-b];simp
 cases d with
 |loc m=>exact absurd rfl (j m)
 |_=>dsimp only;rw[iP h,e]
theorem LF{gf:↑17}{cf:AZ}{ef:AX}{ρb:Rho}{gs:Z0}{P:MV->Prop}{I:Sto->Prop}:
  ∀{ds:U0}{S:Sto},(∀d∈ds, ∀S,I S-> ∃a y S',gf d ρb S=.ok a S/\cf a S=.ok true S/\ef a S=#[y,S',1]/\P y/\I S'/\stay gs S')->I S-> ∃out S',zV gf cf ef ρb gs ds S=.ok out S'/\I S'/\out.length=↑23/\ ∀o∈out,P o
 |[],S,_,h=>⟨[],S,rfl,h,rfl,λo h=>by simp at h⟩
 |d::ds,S,st,h=>by obtain⟨a,y,S1,h1,c,m,b,j,n⟩:=st d mF0 S h;obtain⟨out,S2,e,r,p,i⟩:=LF (λd k=>st d (mO _ k)) j;refine⟨_,S2,?_,r,by rw[lC,lC,p],λo q=>(mC.mp q).elim (λz=>z▸b) (i o)⟩;unfold zV;rw[h1,yC,xQ,c,yC,xQ,m,yC,xQ];unfold wI;rw[xQ,iP n,e];rfl
noncomputable abbrev SN(S:Sto)(x:Int):Sto:=S++[MO.lst [.int x]]
def Gg(S:Sto)(x:Int):(SN S x)[↑0]? =#[[.int x],2]:=by simp
def VF(S:Sto)(x y:Int):List.set (SN S x) ↑0 (MO.lst [.int y])=SN S y:=by simp
def vH(S:Sto)(x:Int){n:Int}(a:0<n)(h1:n<1073741824):zH 2 zC [#[↑0,1],#[n,5]] (SN S x)=.ok #[x % n,5] (SN S (x / n)):=by have:=sF (Gg S x) a h1;rw[VF]at this;exact this
theorem tV(x:Int){n:Nat}(h:0<n): ∃t:Nat,x % (n:Int)=t/\t<n:=by have b:0<=x % (n:Int):=eN _ #[];have h1:x % _<n:=eL _ #[];obtain⟨t,a⟩:=ļ b;exact⟨t,a,by lia⟩
theorem GU{S:Sto}{gf:↑17}{cf:AZ}{ef:AX}{ρb:Rho}{gs:Z0}{p:MV->Bool}(hs:stay gs S):
  ∀{ds:U0},(∀d∈ds, ∃a,gf d ρb S=.ok a S/\cf a S=.ok (p d) S/\ef a S=#[d,S,1])->zV gf cf ef ρb gs ds S=.ok (ds.filter p) S
 |[],_=>rfl
 |d::ds,st=>by
  obtain⟨a,h1,c,i⟩:=st d mF0;have e:=GU hs λd h=>st d (mO _ h);unfold zV
  cases b:p d with
  |true=>
   rw[h1,yC,xQ,c,yC,xQ,b,i,yC,xQ];unfold wI;rw[xQ,iP hs,e,Ŀ b];rfl
  |false=>
   rw[h1,yC,xQ,c,yC,xQ,b,iN xF0,iP hs,e,ŀ (by rw[b];exact xF0)]
theorem Yz(a:Bool)(p:Er)(l:Nat)(S:Sto):UG a p #[l,1] S=AO a p #[l,1] S:=by
 unfold UG;split
 .rename_i h;cases h
 .rfl
def Gh{l:Nat}{d:MV}{ys:U0}(a:Bool)(c:S[l]? =#[ys,2])(j:pd d=true)(h: ∀y∈ys,pd y=true/\LE y<40):UG a (.val d) #[l,1] S=#[.bl (if a=true then !decide (d∈ys)else decide (d∈ys)),S,1]:=by
 have e1:itemsOf S #[l,1]=some ys:=by unfold itemsOf;exact aL c
 rw[Yz];unfold AO;rw[e1];dsimp only;rw[GT j h];dsimp only
 have e:(ys.map λy=>decide (y=d)).any id=decide (d∈ys):=by
  rw[List.any_map];by_cases b:d∈ys
  .rw[dT0 b,ü];exact⟨d,b,by simp⟩
  .rw[dF0 b];rw[ý];intro y i;simp only[Function.comp,id,ë];rintro rfl;exact b i
 rw[e]
theorem Cv{l:Nat}{ds:U0}(h:S[l]? =#[ds,2]):fD #[l,1] (.new []) S=#[.bl ds.isEmpty,S,1]:=by
 have a:ME S #[l,1]=some (.ls ds):=by show(kS S _).map Vw.ls=_;rw[aL h];rfl
 unfold fD FL;rw[a];cases ds<;>rfl
theorem SE(ds:List α)(j:Nat):cQ ds none (some (j:Int))=ds.take j:=by
 unfold cQ;rw[HT.sIx_nat,show HT.sIx ↑23 0 none=0 from rfl,List.drop_zero,Nat.sub_zero];by_cases h:j<=↑23
 .rw[min_eq_left h]
 .rw[Nat.min_eq_right #[],Į (à _),Į #[]]
theorem SF(ds:List α)(j:Nat):cQ ds (some (j:Int)) none=ds.drop j:=by
 unfold cQ;rw[HT.sIx_nat];by_cases h:j<=↑23
 .rw[min_eq_left h,Į (by rw[Đ];exact à _)]
 .rw[Nat.min_eq_right #[],List.drop_of_length_le (à _),List.drop_of_length_le #[],List.take_nil]
noncomputable abbrev Wl(S:Sto)(l:Nat)(x:Int):Sto:=S.set l (.lst [.int x])
def Cw{l:Nat}(h:l<↑0)(x:Int):(Wl S l x)[l]? =#[[.int x],2]:=ô h
def Qt{l m:Nat}(h:l≠m)(x:Int):(Wl S l x)[m]? =S[m]? :=í h
def Qu(S:Sto)(l:Nat)(x y:Int):(Wl S l x).set l (.lst [.int y])=Wl S l y:=č ..
def vI(S:Sto)(l:Nat)(x:Int):(Wl S l x).length=S.length:=ù ..
def Gi(S:Sto)(x:Int):S++[.lst [.int x]]=Wl (S++[.lst []]) ↑0 x:=by simp[Wl]
def IR{l:Nat}(h:l<↑0)(x:Int)(T:Sto):Wl S l x++T=Wl (S++T) l x:=by unfold Wl;rw[Ł _ _ h]
theorem Qv{l:Nat}(h:l<↑0)(x:Int)(o o':MO):(Wl (S++[o]) l x).set ↑0 o'=Wl (S++[o']) l x:=by unfold Wl;rw[Ł _ _ h,Ł _ _ h];rw[List.set_append_right _ _ (by rw[ù];exact à _),ù,sub_self];rfl
def LG{l:Nat}(h:l<↑0)(x:Int)(o:MO):(Wl (S++[o]) l x)[↑0]? =some o:=by rw[Qt (â h)];simp
def zBK{l:Nat}(x:Int)(T:Sto):FK S (Wl S l x++T):=by
 refine⟨by rw[lA,vI];exact Nat.le_add_right _ _,λm a=>?_⟩;rw[ç (by rw[vI];exact a)];by_cases e:l=m
 .subst e;exact .inr ⟨_,Cw a x,yD λe b=>by rw[mS.mp b];exact xD _ _⟩
 .exact .inl (Qt e x)
def Zb{l:Nat}(y x:Int)(T:Sto):FK (Wl S l y) (Wl S l x++T):=by have:=zBK (S:=Wl S l y) (l:=l) x T;rw[show Wl _ l x=Wl S l x from Qu S l y x]at this;exact this
def Zc(S:Sto)(l:Nat)(x:Int)(T:Sto){n:Nat}(h:n=↑0):(Wl S l x++T).take n=Wl S l x:=by rw[h,List.take_append_of_le_length (by rw[vI];exact à _),Į (by rw[vI];exact à _)]
def Zd{n:Nat}{F:↑8}{l:Nat}{x y:Int}{d:MV}(c:↑4=n)(b:F (zO rs (Wl S l x)).1 (zO rs (Wl S l x)).2=#[d,Wl S l y++T,1])(h:lo ↑0 d)(a: ∀l,d≠.loc l):zH n F rs (Wl S l x)=#[d,Wl S l y,1]:=by
 unfold zH;rw[iP c,b,yC,xQ];unfold gV;rw[iP (Zb x y T)];have e:=Zc S l y T (vI S l x);have h':lo (Wl S l x).length d:=by rw[vI];exact h
 cases d with
 |loc m=>exact absurd rfl (a m)
 |_=>dsimp only;rw[iP h',e]
def NU{n:Nat}{F:↑8}{r:Er}{ds:U0}{as:U0}{S2:Sto}(b:↑4=n)(c:zO rs S=(as,S2))(d:F as S2=.ok r (S++T))(e:r=.new ds\/ ∃l,r=#[l,1]/\↑0<=l/\(S++T)[l]? =#[ds,2])(h:HN ↑0 ds):zH n F rs S=#[ds,S,2]:=by
 have a:F (zO rs S).1 (zO rs S).2=.ok r (S++T):=by rw[c];exact d
 rcases e with rfl|⟨l,rfl,h1,h2⟩
 .exact aK b a h
 .exact XS b a h1 h2 h
def BK{l:Nat}{x n:Int}(b:l<↑0)(a:0<n)(h1:n<1073741824):zH 2 zC [#[l,1],#[n,5]] (Wl S l x)=.ok #[x % n,5] (Wl S l (x / n)):=by have:=sF (Cw b x) a h1;rw[Qu]at this;exact this
noncomputable def abc:List Nat:=[97,98,99,100,101,102,103,104,105,106,107,108,109,110,111,112,113,114,115,116,117,118,119,120,121,122]
def oQ{d:MV}(h:Vl d):pd d=true/\LE d=0:=by
 rcases h.cases with⟨i,rfl,_⟩|⟨x,rfl,_⟩
 .exact⟨zBI i,VB i⟩
 .exact⟨zBJ x,Yy x⟩
theorem len_str{x:Db}(h:x.length<=1000)(S:Sto):cS [.val (.str x)] S=.ok #[x.length,5] S:=iP (fits #[])
theorem adds{x y:Db}(h:x.length+y.length<=1000)(S:Sto):wK (.val (.str x)) (.val (.str y)) S=#[.str (x++y),S,1]:=add_str (fits #[])
theorem zBL(x:Db)(S:Sto):MG (.val (.str x)) S=true:=rfl
def NV(x:Db)(r:Ch):vO [] (x::r)=x++vO [] r:=by
 cases r with
 |nil=>show x=x++[];rw[aN]
 |cons y r=>show x++[]++vO [] _=_;rw[aN]
theorem Gj: ∀{ds:U0},(∀d∈ds, ∃c,d=MV.str [c]/\97<=c/\c<=122)-> ∃b,uH ds=some b/\b.length=↑23/\(∀z∈b,z.length=1)/\(vO [] b).length=↑23/\ ∀c∈vO [] b,97<=c/\c<=122
 |[],_=>⟨[],rfl,rfl,by simp,rfl,by intro c i;simp[vO]at i⟩
 |d::ds,h=>by
  obtain⟨c,rfl,i⟩:=h d mF0;obtain⟨b,h1,m,o,k,n⟩:=Gj λe a=>h e (mO _ a);refine⟨[c]::b,?_,by rw[lC,lC,m],λz j=>?_,by rw[NV,lA,k];simp[Nat.add_comm],λe a=>?_⟩
  .unfold uH;rw[h1];rfl
  .rcases mC.mp j with rfl|j
   .rfl
   .exact o z j
  .rw[NV]at a;rcases æ.mp a with a|a
   .rw[mS.mp a];exact i
   .exact n e a
theorem Ze{ds:U0}(h: ∀d∈ds, ∃c,d=MV.str [c]/\97<=c/\c<=122)(m:↑23<=8)(S:Sto): ∃w:List Nat,w.length=↑23/\(∀c∈w,97<=c/\c<=122)/\RP (.val (.str [])) [.new ds] S=#[.str w,S,1]:=by obtain⟨k,h1,j,e,a,b⟩:=Gj h;refine⟨_,a,b,?_⟩;unfold RP;dsimp only;rw[show kS S _=some ds from rfl];dsimp only;rw[h1];dsimp only;rw[iP ⟨by show 0<=100;decide,by lia,λz i=>by rw[e z i];decide⟩]
def zBM:MV->Bool
 |.str _=>true
 |_=>false
noncomputable abbrev W7(l lp:Nat)(a d b c x6:V0):Rho:=[#[l],#[lp],a,d,b,c,x6]
def Zf{l:Nat}{x:Int}(O:l<↑0)(Q:l≠lp)(Y: ∀d∈vs,Vl d)(ae:vs.length<1000)(hP:S[lp]? =#[vs,2]):
  ∃y N,Nm y/\zH 2 bC [#[l,1],#[lp,1]] (Wl S l x)=#[.str y,Wl S l N,1]:=by
 have hs:zG JS [.loc l,.loc lp]=W7 l lp none none none none none:=rfl;have B:(Wl S l x)[lp]? =#[vs,2]:=by rw[Qt Q];exact hP
 have e1:sX (W7 l lp none none none none none) (Wl S l x)=#[W7 l lp #[abc,4] none none none none,Wl S l x,0]:=rfl;have r:zV (zY 0) dH oF [none] [(lp,vs)] vs (Wl S l x)=.ok (vs.filter zBM) (Wl S l x):=GU (yQ B) λd o=>⟨[some d],rfl,by unfold dH;rcases (Y d o).cases with⟨i,rfl,_⟩|⟨y,rfl,_⟩<;>(simp? [xQ];rfl),rfl⟩
 have U: ∀d∈vs.filter zBM, ∃q,d=.str q/\Nm q:=λd o=>by
  have Z:=å.mp o;rcases (Y d Z.1).cases with⟨i,rfl,_⟩|⟨y,rfl,L⟩
  .have:=Z.2;cases this
  .exact⟨y,rfl,L⟩
 generalize vs.filter zBM=ns at U r;have m:l<(S++[MO.lst ns]).length:=by rw[lA];omega
 have e2:iQ (W7 l lp #[abc,4] none none none none) (Wl S l x)=#[W7 l lp #[abc,4] #[↑0] none none none,Wl (S++[.lst ns]) l x,0]:=by unfold iQ;simp? [yV B,show(vs.length<1000000)=True from eq_true (by omega),show AB 1 [] (W7 l lp #[abc,4] none none none none)=[none]from rfl,r,vI,IR O]
 have C: ∀z,(Wl (S++[MO.lst ns]) l z)[↑0]? =#[ns,2]:=λz=>LG O z _;have ab:0<=x % 8:=eN _ ↑7;have af:x % 8<8:=eL _ ↑7;obtain⟨out,S',e,⟨b,rfl⟩,J,K⟩:=LF (gf:=zY 0) (cf:=oG) (ef:=dI) (ρb:=[none,#[l],#[abc,4]]) (gs:=[]) (P:=λy=> ∃c,y=MV.str [c]/\97<=c/\c<=122) (I:=λS'=> ∃z,S'=Wl (S++[.lst ns]) l z) (ds:=(List.range (1+x % 8).toNat).map λk=>MV.int (k:Nat)) (S:=Wl (S++[.lst ns]) l (x / 8)) (λd o S1 ⟨z,hz⟩=>by subst hz;obtain⟨k,X⟩:=fQ (xs:=abc) (i:=z % 26) (eN _ ↑7) (by have:=eL z (show(0:Int)<26 by decide);show z % 26<26;exact this);refine⟨[some d,#[l],#[abc,4]],.str [k],Wl (S++[.lst ns]) l (z / 26),rfl,rfl,?_,⟨k,rfl,fR (P:=λk=>97<=k/\k<=122) ↑7 X⟩,⟨_,rfl⟩,yP _⟩;unfold dI;exists 7,BK m (show(0:Int)<26 by decide) ↑7,ix_str (show abc.length<=sizeLine by rw[Ċ];decide) X) ⟨_,rfl⟩;rw[lM,è]at J;obtain⟨w,aa,zHP,zHO⟩:=Ze K (by omega) (Wl (S++[.lst ns]) l b);have p:Nm w:=⟨by omega,by omega,zHP⟩
 have M:iR (W7 l lp #[abc,4] #[↑0] none none none) (Wl (S++[.lst ns]) l x)=#[W7 l lp #[abc,4] #[↑0] #[w,4] none none,Wl (S++[.lst ns]) l b,0]:=by unfold iR;exists 7,zBL,BK m (show(0:Int)<8 by decide) ↑7,fH (S:=Wl (S++[.lst ns]) l (x / 8)) (j:=1+x % 8) (by omega),show(((List.range (1+x % 8).toNat).map λk=>MV.int (k:Nat)).length<1000000)=True from eq_true (by rw[lM,è];omega),e,zHO
 have H:iS (W7 l lp #[abc,4] #[↑0] #[w,4] none none) (Wl (S++[.lst ns]) l b)=#[W7 l lp #[abc,4] #[↑0] #[w,4] #[b % 3,0] none,Wl (S++[.lst ns]) l (b / 3),0]:=by unfold iS;exists 7,BK m (show(0:Int)<3 by decide) ↑7
 have D:iT (W7 l lp #[abc,4] #[↑0] #[w,4] #[b % 3,0] none) (Wl (S++[.lst ns]) l (b / 3))=if(decide (b % 3=0) || ns.isEmpty)=true then .ok (.ret (.val (.str w))) (Wl (S++[.lst ns]) l (b / 3))else #[W7 l lp #[abc,4] #[↑0] #[w,4] #[b % 3,0] none,Wl (S++[.lst ns]) l (b / 3),0]:=by unfold iT;cases v:decide (b % 3=0)<;>cases hn:ns.isEmpty<;>(simp? [v,Cv (C _),hn];rfl)
 have s: ∀y z,Nm y->nY (W7 l lp none none none none none) (Wl S l x)=.ok (.ret (.val (.str y))) (Wl (S++[.lst ns]) l z)-> ∃y N,Nm y/\zH 2 bC [#[l,1],#[lp,1]] (Wl S l x)=#[.str y,Wl S l N,1]:=λy z L h=>by refine⟨y,z,L,Zd (T:=[.lst ns]) rfl ?_ (sO _ _) (λl=>by simp)⟩;show bC [.loc l,.loc lp] (Wl S l x)=_;unfold bC;rw[hs,h,IR O];rfl
 cases v:(decide (b % 3=0) || ns.isEmpty)with
 |true=>
  rw[v,iP rfl]at D;refine s w (b / 3) p ?_;unfold nY;rw[zB e1,zB e2,zB M,zB H,yG D]
 |false=>
  rw[v,iN xF0]at D;have E:ns≠[]:=λz=>by rw[z]at v;simp at v
  obtain⟨d,o⟩:=Xb (xs:=ns) (i:= -1) (by have:=List.length_pos_iff.mpr E;omega) (by omega);obtain⟨q,rfl,A⟩:=fR (P:=λd=> ∃q,d=MV.str q/\Nm q) U o;have q1:=A.1;have q2:=A.2.1;have w1:=p.1;have w2:=p.2.1;have u: ∀z,zU #[↑0,1] #[-1,5] (Wl (S++[MO.lst ns]) l z)=#[.str q,Wl (S++[MO.lst ns]) l z,1]:=λz=>AQ (C z) o;have W: ∀S,cS [.val (.str q)] S=.ok #[q.length,5] S:=len_str (by omega);have F: ∀S,Xo [#[8,5],#[(q.length:Int)+1,5]] S=.ok #[(min 8 (q.length+1):Nat),5] S:=λS=>by show R.ok (Er.val (.int (if(q.length:Int)+1<8 then(q.length:Int)+1 else 8))) S=_;congr 3;split<;>omega
  have G:iU (W7 l lp #[abc,4] #[↑0] #[w,4] #[b % 3,0] none) (Wl (S++[.lst ns]) l (b / 3))=if decide (b % 3=1)=true then .ok (.ret (.val (.str ((q++w).take (min 8 (q.length+1)))))) (Wl (S++[.lst ns]) l (b / 3))else #[W7 l lp #[abc,4] #[↑0] #[w,4] #[b % 3,0] none,Wl (S++[.lst ns]) l (b / 3),0]:=by unfold iU;simp? [u,adds (x:=q) (y:=w) (by omega),W,F,cut_str (S:=Wl (S++[MO.lst ns]) l (b / 3)) (fits (show(q++w).length<=1000000 by rw[lA];omega)),SE]
  cases h1:decide (b % 3=1)with
  |true=>
   rw[h1,iP rfl]at G;refine s ((q++w).take (min 8 (q.length+1))) (b / 3) ⟨?_,?_,λc r=>?_⟩ ?_
   .rw[lT,lA];omega
   .rw[lT];omega
   .rcases æ.mp (mem_of_mem_take r)with h|h
    .exact A.2.2 c h
    .exact zHP c h
   .unfold nY;rw[zB e1,zB e2,zB M,zB H,zB D,yG G]
  |false=>
   rw[h1,iN xF0]at G;obtain⟨t,ht,ag⟩:=tV (b / 3) (n:=q.length) (by omega);have e7:iV (W7 l lp #[abc,4] #[↑0] #[w,4] #[b % 3,0] none) (Wl (S++[.lst ns]) l (b / 3))=#[W7 l lp #[abc,4] #[↑0] #[w,4] #[b % 3,0] #[(t:Nat),0],Wl (S++[.lst ns]) l (b / 3 / (q.length:Int)),0]:=by unfold iV;simp? [u,W,BK (x:=b / 3) m (show(0:Int)<(q.length:Int) by omega) (by omega),ht]
   obtain⟨c,r⟩:=fQ (xs:=w) (i:=0) ↑7 (by omega);have e8:iW (W7 l lp #[abc,4] #[↑0] #[w,4] #[b % 3,0] #[(t:Nat),0]) (Wl (S++[.lst ns]) l (b / 3 / (q.length:Int)))=.ok (.ret (.val (.str (q.take t++[c]++q.drop (t+1))))) (Wl (S++[.lst ns]) l (b / 3 / (q.length:Int))):=by have c2:cQ q (some ((t:Int)+1)) none=q.drop (t+1):=SF q (t+1);unfold iW;simp? [u,cut_str (fits (show q.length<=1000000 by omega)),SE,c2,ix_str (S:=Wl (S++[MO.lst ns]) l (b / 3 / (q.length:Int))) (fits (show w.length<=1000000 by omega)) r,adds (x:=q.take t) (y:=[c]) (by rw[lT,lS];omega),adds (x:=q.take t++[c]) (y:=q.drop (t+1)) (by rw[lA,lT,Đ,lS];omega)]
   refine s (q.take t++[c]++q.drop (t+1)) (b / 3 / (q.length:Int)) ⟨?_,?_,λa ha=>?_⟩ ?_
   .simp only[lA,lS];omega
   .simp only[lA,lS,lT,Đ];omega
   .rcases æ.mp ha with h|h
    .rcases æ.mp h with h|h
     .exact A.2.2 a (mem_of_mem_take h)
     .rw[mS.mp h];exact fR (P:=λk=>97<=k/\k<=122) zHP r
    .exact A.2.2 a (List.mem_of_mem_drop h)
   .unfold nY;rw[zB e1,zB e2,zB M,zB H,zB D,zB G,zB e7,e8]
theorem zBN(S:Sto)(a b:MO):(S++[a,b])[↑0+1]? =some b:=by rw[î #[],show ↑0+1 - ↑0=1 by lia];rfl
def zBO{l:Nat}{x n:Int}(c:l<↑0)(b:0<n)(d: ∀(a:Int)(S:Sto),PZ #[a,5] #[n,5] S=.ok #[a / n,5] S):zH 2 zC [#[l,1],#[n,5]] (Wl S l x)=.ok #[x % n,5] (Wl S l (x / n)):=by have:=ZF (Cw c x) b d;rw[Qu]at this;exact this
abbrev PP(c:MV)(l m:Nat)(k w v:V0):Rho:=[some c,#[l],#[m],k,w,v]
section
variable{S:Sto}{l m:Nat}{x:Int}{vs:U0}{k w v:V0}{c:MV}
theorem po3{n v:Int}(d:l<↑0)(b:Vl (.int v)): ∃a z,Vl (.int a)/\jM (PP c l m k #[n,0] #[v,0]) (Wl S l x)=#[PP c l m k #[n,0] #[a,0],Wl S l z,0]:=by
 have h1:x % _<2 * 10 ^ 30 - 1:=eL _ ↑7;have e:jM (PP c l m k #[n,0] #[v,0]) (Wl S l x)=if decide (n=0)=true then #[PP c l m k #[n,0] #[x % (2 * 10 ^ 30 - 1) - 10 ^ 30+1,0],Wl S l (x / (2 * 10 ^ 30 - 1)),0]else #[PP c l m k #[n,0] #[v,0],Wl S l x,0]:=by unfold jM;simp? [pp30,FT (show -_<(2:Int)/\_<2 ^ 64 by decide),zBO d (show _<2 * 10 ^ 30 - 1 by decide) (Yw (by decide+kernel))]
 by_cases h:n=0
 .rw[dT0 h]at e;exact⟨_,_,⟨by lia,by lia⟩,e⟩
 .rw[dF0 h]at e;exact⟨v,x,b,e⟩
def po4{n:Int}{v:MV}(q:l<↑0)(b:l≠m)(s: ∀d∈vs,Vl d)(a:vs.length<1000)(u:S[m]? =#[vs,2])(p:Vl v): ∃i z,Vl i/\jN (PP c l m k #[n,0] (some v)) (Wl S l x)=#[PP c l m k #[n,0] (some i),Wl S l z,0]:=by
 obtain⟨y,z,r,j⟩:=Zf (x:=x) q b s a u;have e:jN (PP c l m k #[n,0] (some v)) (Wl S l x)=if(decide (n=1) || decide (n=2))=true then #[PP c l m k #[n,0] #[y,4],Wl S l z,0]else #[PP c l m k #[n,0] (some v),Wl S l x,0]:=by unfold jN;cases h1:decide (n=1)<;>cases o:decide (n=2)<;>(simp? [h1,o,j,fT0,iF];try rfl)
 cases h:(decide (n=1) || decide (n=2))with
 |true=>
  rw[h]at e;exact⟨_,_,show Vl (.str y)from r,e⟩
 |false=>
  rw[h]at e;exact⟨v,x,p,e⟩
theorem Lf(s:l<↑0)(o: ∀d∈vs,Vl d)(H:vs.length<100): ∃a D E z,(∀d∈a,Vl d)/\a.length<=vs.length+1/\1<=a.length/\cW (PP c l ↑0 k w v) (Wl (S++[.lst vs]) l x)=#[PP c l ↑0 k D E,Wl (S++[.lst a]) l z,0]:=by
 have e:l<(S++[MO.lst vs]).length:=by rw[lA];lia
 have u:Vl (.int (x / 4 % 9 - 4)):=by have G:0<=x / 4 % 9:=eN _ ↑7;have h1:x / 4 % 9<9:=eL _ ↑7;exact⟨by lia,by lia⟩
 have e1:dL (PP c l ↑0 k w v) (Wl (S++[.lst vs]) l x)=#[PP c l ↑0 k #[x % 4,0] v,Wl (S++[.lst vs]) l (x / 4),0]:=by unfold dL;exists 7,BK e (show(0:Int)<4 by decide) ↑7
 have e2:dM (PP c l ↑0 k #[x % 4,0] v) (Wl (S++[.lst vs]) l (x / 4))=#[PP c l ↑0 k #[x % 4,0] #[x / 4 % 9 - 4,0],Wl (S++[.lst vs]) l (x / 4 / 9),0]:=by unfold dM;exists 7,BK e (show(0:Int)<9 by decide) ↑7
 obtain⟨I,F,r,C⟩:=po3 (c:=c) (k:=k) (n:=x % 4) e u;obtain⟨b,i,m,B⟩:=po4 (c:=c) (k:=k) (n:=x % 4) (x:=F) (vs:=vs) e (â s) o #[] (by simp) r;have q:(Wl (S++[.lst vs]) l i)[↑0]? =#[vs,2]:=LG s i _;have p:dN (PP c l ↑0 k #[x % 4,0] (some b)) (Wl (S++[.lst vs]) l i)=if(!decide (b∈vs))=true then #[PP c l ↑0 k #[x % 4,0] (some b),Wl (S++[.lst (vs++[b])]) l i,0]else #[PP c l ↑0 k #[x % 4,0] (some b),Wl (S++[.lst vs]) l i,0]:=by unfold dN;simp? [Gh true q (oQ m).1 λy A=>⟨(oQ (o y A)).1,by rw[(oQ (o y A)).2];decide⟩,nL q,mH q (show vs.length<1000000 by lia),Qv s]
 by_cases h:b∈vs
 .rw[dT0 h,Bool.not_true,iN xF0]at p;refine⟨vs,#[x % 4,0],some b,i,o,le_succ _,List.length_pos_of_mem h,?_⟩;unfold cW;rw[zB e1,zB e2,zB C,zB B,p]
 .rw[dF0 h,Ĳ,iP rfl]at p;refine⟨vs++[b],#[x % 4,0],some b,i,λd j=>?_,by rw[lA];exact à _,by rw[lA];exact Nat.le_add_left _ _,?_⟩
  .rcases æ.mp j with j|j
   .exact o d j
   .rw[mS.mp j];exact m
  .unfold cW;rw[zB e1,zB e2,zB C,zB B,p]
end
def H9(vs:U0):Prop:=1<=vs.length/\vs.length<=4/\ ∀d∈vs,Vl d
theorem Zg(q:Int)(S:Sto): ∃vs,H9 vs/\zH 1 nZ [#[q,5]] S=#[vs,S,2]:=by
 obtain⟨t,hw⟩:=GP q 1 ⟨by decide,by decide⟩ S;have h:↑0<(S++[MO.lst []]).length:=by rw[lA];exact ė _
 have H:0<=t % 3:=eN _ ↑7;have K:t % 3<3:=eL _ ↑7;have hs:zG JT [.int q]=[#[q,0],none,none,none,none,none]:=rfl;have e1:iY [#[q,0],none,none,none,none,none] S=#[[#[q,0],#[↑0],none,none,none,none],Wl (S++[.lst []]) ↑0 t,0]:=by unfold iY;simp? [hw];rw[Gi]
 have e2:iZ [#[q,0],#[↑0],none,none,none,none] (Wl (S++[.lst []]) ↑0 t)=#[PP (.int q) ↑0 (↑0+1) none none none,Wl (S++[.lst []]++[.lst []]) ↑0 t,0]:=by unfold iZ;simp? [vI,IR h];rw[lA];rfl
 have o:((List.range (2+t % 3).toNat).map λk=>MV.int (k:Nat)).length=(2+t % 3).toNat:=by rw[lM,è]
 obtain⟨ρ',S',e,vs,z,n,a,b,m,r,p,h1,C⟩:=IA (L:=(List.range (2+t % 3).toNat).map λk=>MV.int (k:Nat)) (gf:=zY 3) (gs:=[])
  (λi ρ S'=> ∃(vs:U0)(z:Int)(n a b:V0),ρ=PP (.int q) ↑0 (↑0+1) n a b/\S'=Wl (S++[.lst []]++[.lst vs]) ↑0 z/\(∀d∈vs,Vl d)/\vs.length<=i/\(i=0\/1<=vs.length)) (λi d hi ρ S1 ⟨vs,z,n,a,b,m,s,p,h1,C⟩=>by
   subst m s;have J:i<5:=by have:=(gS.mp hi).1;omega
   obtain⟨A,N,F,I,y,P,B,D⟩:=Lf (c:=.int q) (l:=↑0) (x:=z) (vs:=vs) (k:=some d) (w:=a) (v:=b) h p #[];rw[lA]at D;refine⟨_,_,?_,yP _,A,I,some d,N,F,rfl,rfl,y,by lia,.inr B⟩;rw[show zY 3 d (PP (.int q) ↑0 (↑0+1) n a b) (Wl (S++[.lst []]++[.lst vs]) ↑0 z)=.ok (PP (.int q) ↑0 (↑0+1) (some d) a b) (Wl (S++[.lst []]++[.lst vs]) ↑0 z)from rfl,xQ];exact D) ⟨[],t / 3,none,none,none,rfl,rfl,by simp,à _,.inl rfl⟩
 subst m r;rw[o]at h1 C;have u:↑0<(S++[MO.lst []]++[MO.lst []]).length:=by simp only[lA,lC,ĉ];lia
 have O:lB (PP (.int q) ↑0 (↑0+1) none none none) (Wl (S++[.lst []]++[.lst []]) ↑0 t)=#[PP (.int q) ↑0 (↑0+1) n a b,Wl (S++[.lst []]++[.lst vs]) ↑0 z,0]:=by unfold lB;exists 7,BK u (show(0:Int)<3 by decide) ↑7,fH (j:=2+t % 3) (by omega),e
 have G:lD (PP (.int q) ↑0 (↑0+1) n a b) (Wl (S++[.lst []]++[.lst vs]) ↑0 z)=.ok (.ret #[↑0+1,1]) (Wl (S++[.lst []]++[.lst vs]) ↑0 z):=by unfold lD;exists 7,rfl
 have M:nZ [.int q] S=.ok #[↑0+1,1] (S++[.lst [.int z],.lst vs]):=by unfold nZ BG;rw[hs,zB e1,zB e2,zB O,G];show R.ok _ _=_;congr 1;rw[<-IR h, <-Gi,aA];rfl
 refine⟨vs,⟨by lia,by lia,p⟩,NU rfl (show zO [#[q,5]] S=([.int q],S)from rfl) M (.inr ⟨_,rfl,le_succ _,?_⟩) (yD λd E=>(p d E).lo _)⟩;exact zBN S _ _
noncomputable def tbl(p:Int×Int):MV:=.tup [.int p.1,.int p.2]
def Qw(ts:Tk):Prop:=1<=ts.length/\ts.length<=4/\ ∀p∈ts,1<=p.1/\p.1<=4/\0<=p.2/\p.2<=p.1
def zGU(a b c d e:MV)(S:Sto):kR [.val a,.val b,.val c,.val d,.val e] S=#[[a,b,c,d,e],S,2]:=ED (by simp)
noncomputable abbrev T6(c:MV)(l m:Nat)(k w y:V0):Rho:=[some c,#[l],#[m],k,w,y]
theorem Qx{l:Nat}{x:Int}{c:MV}{k w y:V0}{ts:Tk}(q:l<↑0)(B:ts.length<1000):
  ∃p r u z,(1<=p.1/\p.1<=4/\0<=p.2/\p.2<=p.1)/\dO (T6 c l ↑0 k w y) (Wl (S++[.lst (ts.map tbl)]) l x)=#[T6 c l ↑0 k r u,Wl (S++[.lst ((ts++[p]).map tbl)]) l z,0]:=by
 have b:l<(S++[MO.lst (ts.map tbl)]).length:=by rw[lA];lia
 have v:0<=x % 4:=eN _ ↑7;have h1:x % 4<4:=eL _ ↑7;have j:(0:Int)<1+x % 4+1:=by omega
 have A:0<=x / 4 % (1+x % 4+1):=eN _ (by omega);have C:x / 4 % (1+x % 4+1)<1+x % 4+1:=eL _ j;have e1:gO (T6 c l ↑0 k w y) (Wl (S++[.lst (ts.map tbl)]) l x)=#[T6 c l ↑0 k #[1+x % 4,0] y,Wl (S++[.lst (ts.map tbl)]) l (x / 4),0]:=by unfold gO;exists 7,BK b (show(0:Int)<4 by decide) ↑7
 have o: ∀z,(Wl (S++[.lst (ts.map tbl)]) l z)[↑0]? =#[ts.map tbl,2]:=λz=>LG q z _;obtain⟨d,m⟩:=fQ (xs:=[MV.int 0,.int 1,.int 1,.int (1+x % 4),.int (x / 4 % (1+x % 4+1))]) (i:=x / 4 / (1+x % 4+1) % 5) (eN _ ↑7) (eL _ ↑7);obtain⟨a,rfl,n⟩: ∃a,d=.int a/\0<=a/\a<=1+x % 4:=fR (P:=λd=> ∃a,d=MV.int a/\0<=a/\a<=1+x % 4) (λe h=>by simp only[mC,nM,or_false]at h;rcases h with rfl|rfl|rfl|rfl|rfl<;>exact⟨_,rfl,by omega,by omega⟩) m;have e2:gP (T6 c l ↑0 k #[1+x % 4,0] y) (Wl (S++[.lst (ts.map tbl)]) l (x / 4))=#[T6 c l ↑0 k #[1+x % 4,0] #[a,0],Wl (S++[.lst (ts.map tbl)]) l (x / 4 / (1+x % 4+1) / 5),0]:=by unfold gP;exists 7,BK (x:=x / 4) b j (by omega),zGU,BK b (show(0:Int)<5 by decide) ↑7,MM m
 have s:gQ (T6 c l ↑0 k #[1+x % 4,0] #[a,0]) (Wl (S++[.lst (ts.map tbl)]) l (x / 4 / (1+x % 4+1) / 5))=#[T6 c l ↑0 k #[1+x % 4,0] #[a,0],Wl (S++[.lst ((ts++[(1+x % 4,a)]).map tbl)]) l (x / 4 / (1+x % 4+1) / 5),0]:=by unfold gQ;simp? [nL (o (x / 4 / (1+x % 4+1) / 5)),mH (o (x / 4 / (1+x % 4+1) / 5)) (by rw[lM];lia),Qv q];rw[Ć];rfl
 refine⟨(1+x % 4,a),#[1+x % 4,0],#[a,0],x / 4 / (1+x % 4+1) / 5,⟨by show 1<=1+x % 4;omega,by show 1+x % 4<=4;omega,n.1,n.2⟩,?_⟩;unfold dO;rw[zB e1,zB e2,s]
def Qy{ts:Tk}(n:Nat):lo n ↑5:=yO (yD λd b=>by obtain⟨p,_,rfl⟩:=mM.mp b;exact yO (yD λe a=>by simp at a;rcases a with rfl|rfl<;>exact xD _ _))
theorem Lg(q:Int)(S:Sto): ∃ts,Qw ts/\zH 1 jS [#[q,5]] S=.ok #[ts.map tbl,6] S:=by
 obtain⟨t,hw⟩:=GP q 2 ⟨by decide,by decide⟩ S;have a:↑0<(S++[MO.lst []]).length:=by rw[lA];exact ė _
 have F:0<=t % 4:=eN _ ↑7;have J:t % 4<4:=eL _ ↑7;have hs:zG DI [.int q]=[#[q,0],none,none,none,none,none]:=rfl;have e1:dP [#[q,0],none,none,none,none,none] S=#[[#[q,0],#[↑0],none,none,none,none],Wl (S++[.lst []]) ↑0 t,0]:=by unfold dP;simp? [hw];rw[Gi]
 have e2:dQ [#[q,0],#[↑0],none,none,none,none] (Wl (S++[.lst []]) ↑0 t)=#[T6 (.int q) ↑0 (↑0+1) none none none,Wl (S++[.lst []]++[.lst []]) ↑0 t,0]:=by unfold dQ;simp? [vI,IR a];rw[lA];rfl
 have r:((List.range (1+t % 4).toNat).map λk=>MV.int (k:Nat)).length=(1+t % 4).toNat:=by rw[lM,è]
 obtain⟨ρ',S',e,ts,z,o,b,m,n,s,v,h1⟩:=IA (L:=(List.range (1+t % 4).toNat).map λk=>MV.int (k:Nat)) (gf:=zY 3) (gs:=[])
  (λi ρ S'=> ∃(ts:Tk)(z:Int)(o b m:V0),ρ=T6 (.int q) ↑0 (↑0+1) o b m/\S'=Wl (S++[.lst []]++[.lst (ts.map tbl)]) ↑0 z/\(∀p∈ts,1<=p.1/\p.1<=4/\0<=p.2/\p.2<=p.1)/\ts.length=i) (λi d hi ρ S1 ⟨ts,z,o,b,m,n,u,v,h1⟩=>by
   subst n u;have H:i<5:=by have:=(gS.mp hi).1;omega
   obtain⟨p,K,N,G,I,C⟩:=Qx (S:=S++[.lst []]) (l:=↑0) (x:=z) (c:=.int q) (ts:=ts) (k:=some d) (w:=b) (y:=m) a #[];rw[lA]at C;refine⟨_,_,?_,yP _,ts++[p],G,some d,K,N,rfl,rfl,λq D=>?_,by rw[lA,h1];rfl⟩
   .rw[show zY 3 d (T6 (.int q) ↑0 (↑0+1) o b m) (Wl (S++[.lst []]++[.lst (ts.map tbl)]) ↑0 z)=.ok (T6 (.int q) ↑0 (↑0+1) (some d) b m) (Wl (S++[.lst []]++[.lst (ts.map tbl)]) ↑0 z)from rfl,xQ];exact C
   .rcases æ.mp D with h|h
    .exact v q h
    .rw[mS.mp h];exact I) ⟨[],t / 4,none,none,none,rfl,rfl,by simp,rfl⟩
 subst n s;rw[r]at h1;have A:↑0<(S++[MO.lst []]++[MO.lst []]).length:=by simp only[lA,lC,ĉ];lia
 have M:dR (T6 (.int q) ↑0 (↑0+1) none none none) (Wl (S++[.lst []]++[.lst []]) ↑0 t)=#[T6 (.int q) ↑0 (↑0+1) o b m,Wl (S++[.lst []]++[.lst (ts.map tbl)]) ↑0 z,0]:=by unfold dR;exists 7,BK A (show(0:Int)<4 by decide) ↑7,fH (j:=1+t % 4) (by omega),e
 have B:(Wl (S++[.lst []]++[.lst (ts.map tbl)]) ↑0 z)[↑0+1]? =#[ts.map tbl,2]:=by have:=LG (l:=↑0) a z (.lst (ts.map tbl));rw[lA]at this;exact this
 have E:dS (T6 (.int q) ↑0 (↑0+1) o b m) (Wl (S++[.lst []]++[.lst (ts.map tbl)]) ↑0 z)=.ok (.ret #[ts.map tbl,6]) (Wl (S++[.lst []]++[.lst (ts.map tbl)]) ↑0 z):=by unfold dS;exists 7,IQ B
 refine⟨ts,⟨by lia,by lia,v⟩,yT (T:=[.lst [.int z],.lst (ts.map tbl)]) rfl ?_ (Qy _) (λl=>by simp)⟩;show jS [.int q] S=_;unfold jS sY;rw[hs,zB e1,zB e2,zB M,E];show R.ok _ _=_;congr 1;rw[<-IR a, <-Gi,aA];rfl
noncomputable def zE(r:Nat×List MV):MV:=.tup [.int r.1,.tup r.2]
def aD(ts:Tk)(r:Nat×List MV):Prop:= ∃p,ts[r.1]? =some p/\(r.2.length:Int)=p.1/\ ∀d∈r.2,Vl d
theorem Qz{ts:Tk}{r:Nat×List MV}(h:aD ts r):pd (zE r)=true/\LE (zE r)<=2:=by
 obtain⟨p,_,_,b⟩:=h;have h1:=VC λd a=>(oQ (b d a)).1;have c:=VE λd a=>by rw[(oQ (b d a)).2];exact à _
 unfold zE;refine⟨by rw[NS,tT,tT,NS,h1];rfl,?_⟩;rw[GR,tU,tU,NT,VB,GR]
 lia
theorem Ra{r q:Nat×List MV}(h:zE r=zE q):r=q:=by
 injection h with h
 injection h with h1 h2
 injection h2 with h2 _
 injection h1 with h1
 injection h2 with h2
 exact Prod.ext #[] h2
def Cy{ts:Tk}{r:Nat×List MV}(h:aD ts r)(n:Nat):lo n (zE r):=by
 obtain⟨p,_,_,c⟩:=h;refine yO (yD λd a=>?_);simp only[mC,nM,or_false]at a;rcases a with rfl|rfl
 .exact xD _ _
 .exact yO (yD λe b=>(c e b).lo n)
theorem Rb{ts:Tk}{t:Nat}{p:Int×Int}(h:ts[t]? =some p):uA (ts.map tbl) (t:Int)=some (tbl p):=by have a:=(gS.mp h).1;unfold uA XB;rw[iP #[],iP (by rw[lM];lia)];show _[(t:Int).toNat]? =_;rw[ē,ð,h];rfl
def SqM(S:Sto)(m:MV)(ds:U0):Prop:=m=.tup ds\/ ∃l,m=.loc l/\S[l]? =#[ds,2]
def SqM.ix{m:MV}{ds:U0}{i:Int}{d:MV}(h:SqM S m ds)(a:uA ds i=some d):zU (.val m) #[i,5] S=#[d,S,1]:=by
 rcases h with rfl|⟨l,rfl,hS⟩
 .exact ix_tup a
 .exact AQ hS a
def SqM.len{m:MV}{ds:U0}(h:SqM S m ds):cS [.val m] S=.ok #[↑23,5] S:=by
 rcases h with rfl|⟨l,rfl,hS⟩
 .rfl
 .exact Fe hS
noncomputable def ER(ts:Tk)(t:Nat):Int:=((ts[t]?).map (·.1)).getD 0
theorem sZ{ts:Tk}{t:Nat}{p:Int×Int}(h:ts[t]? =some p):ER ts t=p.1:=by unfold ER;rw[h];rfl
def Cz{ts:Tk}(a:Qw ts){t:Nat}(h:t<ts.length):1<=ER ts t/\ER ts t<=4:=by have:=a.2.2 ts[t] (Ĩ h);rw[sZ (gE h)];exact⟨this.1,this.2.1⟩
def VG{ts:Tk}{t:Nat}(b:t<ts.length)(S:Sto): ∃e,zU #[ts.map tbl,6] #[(t:Nat),5] S=#[e,S,1]/\zU (.val e) #[0,5] S=.ok #[ER ts t,5] S:=by have a:=gE b;exact⟨_,ix_tup (Rb a),by rw[sZ a];rfl⟩
theorem zBP{ts:Tk}(o:Qw ts)(c:Int)(q:H9 vs)(z:S[lp]? =#[vs,2]):
  ∃r,aD ts r/\zH 3 fK [#[c,5],#[ts.map tbl,6],#[lp,1]] S=#[zE r,S,1]:=by
 obtain⟨n,J⟩:=GP c 3 ⟨by decide,by decide⟩ S;have u:lp<S.length:=(gS.mp z).1;have h: ∀x,(SN S x)[lp]? =#[vs,2]:=λx=>by rw[ç u];exact z
 have F:0<ts.length:=o.1;have B:=o.2.1;have D:=q.1;have C:=q.2.1;have b: ∀S,cS [#[ts.map tbl,6]] S=.ok #[ts.length,5] S:=λS=>by rw[vG,lM]
 have hs:zG NO [.int c,.tup (ts.map tbl),.loc lp]=[#[c,0],#[ts.map tbl,3],#[lp],none,none]:=rfl;have e1:pK [#[c,0],#[ts.map tbl,3],#[lp],none,none] S=#[[#[c,0],#[ts.map tbl,3],#[lp],#[↑0],none],SN S n,0]:=by unfold pK;exists 7,J
 obtain⟨t,E,a⟩:=tV n F;have e2:pM [#[c,0],#[ts.map tbl,3],#[lp],#[↑0],none] (SN S n)=#[[#[c,0],#[ts.map tbl,3],#[lp],#[↑0],#[(t:Nat),0]],SN S (n / ts.length),0]:=by unfold pM;simp? [b,vH S n (n:=(ts.length:Int)) (by omega) (by omega)];rw[E]
 have hw:=Cz o a;obtain⟨out,S',e,⟨m,rfl⟩,p,s⟩:=LF (gf:=zY 0) (cf:=qP) (ef:=eC) (ρb:=[none,#[lp],#[↑0]]) (gs:=[]) (P:=Vl) (I:=λS'=> ∃y,S'=SN S y) (λd M S1 ⟨y,G⟩=>by subst G;obtain⟨v,A⟩:=fQ (xs:=vs) (i:=y % (vs.length:Int)) (eN _ (by omega)) (eL _ (by omega));refine⟨_,v,SN S (y / (vs.length:Int)),rfl,rfl,?_,fR q.2.2 A,⟨_,rfl⟩,yP _⟩;unfold eC;simp? [SqM.len (S:=SN S y) (.inr ⟨lp,rfl,h y⟩),vH S y (n:=(vs.length:Int)) (by omega) (by omega),AQ (h _) A]) ⟨_,rfl⟩;rw[lM,è]at p;have H:pN [#[c,0],#[ts.map tbl,3],#[lp],#[↑0],#[(t:Nat),0]] (SN S (n / ts.length))=.ok (.ret (.val (zE (t,out)))) (SN S m):=by obtain⟨N,K,L⟩:=VG a (SN S (n / ts.length));unfold pN;exists 7,K,L,fH (j:=ER ts t) (by omega),show(((List.range (ER ts t).toNat).map λk=>MV.int (k:Nat)).length<1000000)=True from eq_true (by rw[lM,è];omega),e,show aH [.new out] (SN S m)=.ok #[out,6] (SN S m)from rfl
 have w:aD ts (t,out):=⟨ts[t],gE a,by have:=sZ (gE a);show(out.length:Int)=_;omega,s⟩
 refine⟨(t,out),w,yT (T:=[.lst [.int m]]) rfl ?_ (Cy w _) (λl=>by unfold zE;simp)⟩;show fK [.int c,.tup (ts.map tbl),.loc lp] S=_;unfold fK EQ;rw[hs,zB e1,zB e2,H];rfl
noncomputable abbrev R7(lc:Nat)(tb:MV)(lp:Nat)(w:Int)(lr:Nat)(a x6:V0):Rho:=[#[lc],some tb,#[lp],#[w,0],#[lr],a,x6]
theorem Lh{ts:Tk}(C:Qw ts){c w:Int}{lc lr:Nat}{x6:V0}{rs:Z0}(D:H9 vs)(E:S[lp]? =#[vs,2])(s:S[lr]? =#[rs.map zE,2])
  (hR:↑30) (hn:rs.Nodup) (hl:(rs.length:Int)<=w) (h9:w<=900): ∃(p:V0)(b:Z0),wL (R7 lc ↑5 lp w lr #[c,0] x6) S=#[R7 lc ↑5 lp w lr #[c,0] p,S.set lr (.lst (b.map zE)),0]/\(∀r∈b,aD ts r)/\b.Nodup/\(b.length:Int)<=w:=by
 obtain⟨r,A,n⟩:=zBP C c D E;have e1:dU (R7 lc ↑5 lp w lr #[c,0] x6) S=#[R7 lc ↑5 lp w lr #[c,0] (some (zE r)),S,0]:=by unfold dU;exists 7,n
 have o:UG true (.val (zE r)) _ S=.ok _ S:=Cu s (Qz A).1 (λx=>by unfold zE;simp) λy G=>by obtain⟨q,k,rfl⟩:=mM.mp G;have:=Qz (hR q k);exact⟨this.1,by lia⟩
 have i:cS [#[lr,1]] S=.ok _ S:=SqM.len (.inr ⟨lr,rfl,s⟩);have d:zE r∈rs.map zE↔r∈rs:=⟨λh=>by obtain⟨q,k,e⟩:=mM.mp h;rw[<-Ra e];exact k,λh=>mem_map_of_mem h⟩
 have m:xE _ S=.ok _ S-> ∃(p:V0)(b:List _),wL _ S=#[R7 lc ↑5 lp w lr #[c,0] p,S.set lr (.lst (b.map zE)),0]/\(∀r∈b,aD ts r)/\b.Nodup/\(b.length:Int)<=w:=λe2=>by
  refine⟨some (zE r),rs,?_,hR,hn,hl⟩;unfold wL;rw[zB e1,e2]
  have u:S.set lr (.lst (rs.map zE))=S:=by
   refine Ń λj=>?_;by_cases e:lr=j
   .subst e;rw[get_set s,s]
   .rw[yI e]
  rw[u]
 by_cases v:r∈rs
 .refine m ?_;unfold xE;simp? [o,dT0 (d.mpr v)];rfl
 .by_cases hw:((rs.map zE).length:Int)<w
  .have e2:xE (R7 lc ↑5 lp w lr #[c,0] (some (zE r))) S=#[R7 lc ↑5 lp w lr #[c,0] (some (zE r)),S.set lr (.lst ((rs++[r]).map zE)),0]:=by unfold xE;simp? [o,dF0 (λz=>v (d.mp z)),i,lt_int,dT0 hw,Ĳ,nL s,mH s (by rw[lM];lia)];rw[Ć];rfl
   refine⟨some (zE r),rs++[r],?_,?_,?_,?_⟩
   .unfold wL;rw[zB e1,e2]
   .intro q k;rw[æ,mS]at k;rcases k with k|rfl
    .exact hR q k
    .exact A
   .exact ģ.mpr ⟨hn,by simp,λa B c F=>by rw[mS.mp F];rintro rfl;exact v B⟩
   .rw[lM]at hw;rw[lA,lS];lia
  .refine m ?_;unfold xE;simp? [o,dF0 (λz=>v (d.mp z)),i,lt_int,dF0 hw,Ĳ];rfl
def Zh{ts:Tk}(D:Qw ts)(is:Za){w:Int}(hw:0<=w/\w<=900)(E:H9 vs)(A:S[lp]? =#[vs,2]):
  ∃rs:List (Nat×List MV),(∀r∈rs,aD ts r)/\rs.Nodup/\(rs.length:Int)<=w/\zH 4 aB [.new ↑26,#[ts.map tbl,6],#[lp,1],#[w,5]] S=.ok #[rs.map zE,6] S:=by
 have y:lp<S.length:=(gS.mp A).1;have hs:zG JU [.loc ↑0,.tup (ts.map tbl),.loc lp,.int w]=[#[↑0],#[ts.map tbl,3],#[lp],#[w,0],none,none,none]:=rfl;have e1:lE [#[↑0],#[ts.map tbl,3],#[lp],#[w,0],none,none,none] (S++[.lst ↑26])=#[R7 ↑0 ↑5 lp w (↑0+1) none none,S++[.lst ↑26]++[.lst []],0]:=by unfold lE;simp? [xQ];rw[lA];rfl
 obtain⟨ρ',S',e,h,x6,rs,b,o,k,n,u⟩:=IA (L:=is.map MV.int) (gf:=zY 5) (body:=wL) (gs:=[(↑0,is.map MV.int)]) (S:=S++[.lst ↑26]++[.lst []])
  (λi ρ S'=> ∃(h x6:V0)(rs:Z0),ρ=R7 ↑0 ↑5 lp w (↑0+1) h x6/\S'=S++[.lst ↑26]++[.lst (rs.map zE)]/\(∀r∈rs,aD ts r)/\rs.Nodup/\(rs.length:Int)<=w) (λi d hi ρ S1 ⟨h,x6,rs,b,p,k,n,u⟩=>by
   subst b p;obtain⟨c,_,rfl⟩:=mM.mp (ñ hi);obtain⟨z,a,C,m,v,s⟩:=Lh D (c:=c) (w:=w) (lc:=↑0) (lp:=lp) (lr:=↑0+1) (S:=S++[.lst ↑26]++[.lst (rs.map zE)]) (x6:=x6) (rs:=rs) E (by rw[aA,ç y];exact A) (by simp) k n u hw.2;refine⟨_,S++[.lst ↑26]++[.lst (a.map zE)],?_,yQ (by simp),#[c,0],z,a,rfl,rfl,m,v,s⟩;rw[show zY 5 (.int c) (R7 ↑0 ↑5 lp w (↑0+1) h x6) (S++[.lst ↑26]++[.lst (rs.map zE)])=.ok (R7 ↑0 ↑5 lp w (↑0+1) #[c,0] x6) (S++[.lst ↑26]++[.lst (rs.map zE)])from rfl,xQ,C];have j:List.set (S++[MO.lst ↑26]++[MO.lst (rs.map zE)]) (↑0+1) (MO.lst (a.map zE))=S++[MO.lst ↑26]++[MO.lst (a.map zE)]:=by simp
   rw[j])
  ⟨none,none,[],rfl,rfl,λr q=>by simp at q,by simp,hw.1⟩
 subst b o;have e2:lF (R7 ↑0 ↑5 lp w (↑0+1) none none) (S++[.lst ↑26]++[.lst []])=#[R7 ↑0 ↑5 lp w (↑0+1) h x6,S++[.lst ↑26]++[.lst (rs.map zE)],0]:=by unfold lF;exists 7,yV (S:=S++[.lst ↑26]++[.lst []]) (l:=↑0) (ds:=is.map MV.int) (by simp),e
 have F:lG (R7 ↑0 ↑5 lp w (↑0+1) h x6) (S++[.lst ↑26]++[.lst (rs.map zE)])=.ok (.ret #[rs.map zE,6]) (S++[.lst ↑26]++[.lst (rs.map zE)]):=by unfold lG;exists 7,IQ (S:=S++[.lst ↑26]++[.lst (rs.map zE)]) (l:=↑0+1) (ds:=rs.map zE) (by simp)
 refine⟨rs,k,n,u,yT (T:=[.lst ↑26,.lst (rs.map zE)]) rfl ?_ (yO (yD λd B=>?_)) (λl=>by simp)⟩
 .show aB [.loc ↑0,.tup (ts.map tbl),.loc lp,.int w] (S++[.lst ↑26])=_;unfold aB BH;rw[hs,zB e1,zB e2,F];rw[aA];rfl
 .obtain⟨r,q,rfl⟩:=mM.mp B;exact Cy (k r q) _
def zBQ(a b c d:MV)(S:Sto):kR [.val a,.val b,.val c,.val d] S=#[[a,b,c,d],S,2]:=ED (by simp)
inductive Side where
 |isv (v:MV)|cell (k j:Nat)
variable{sd:Side}
noncomputable def sIs:List Nat:=[105,115]
noncomputable def zGV:List Nat:=[99,101,108,108]
def yE:Side->MV
 |.isv v=>.tup [.str sIs,v]
 |.cell k j=>.tup [.str zGV,.int k,.int j]
def VH(ws:Za):Side->Prop
 |.isv v=>Vl v
 |.cell k j=> ∃w,ws[k]? =some w/\(j:Int)<w
noncomputable def zA(t:Nat):MV:=.int (t:Nat)
def zBR(ts:Tk)(th:Db):Prop:=1<=th.length/\th.length<=2/\ ∀t∈th,t<ts.length
theorem zBS{k t:Nat}(h:th[k]? =some t):uA (th.map zA) (k:Int)=some (zA t):=by have a:=(gS.mp h).1;unfold uA XB;rw[iP #[],iP (by rw[lM];lia)];show _[(k:Int).toNat]? =_;rw[ē,ð,h];rfl
def LH(h:VH ws sd)(n:Nat):lo n (yE sd):=by
 cases sd with
 |isv v=>exact yO (yD λe a=>by simp at a;rcases a with rfl|rfl;(exact sO _ _);exact Vl.lo h n)
 |cell k j=>exact yO (yD λe a=>by simp at a;rcases a with rfl|rfl|rfl<;>first |exact sO _ _|exact xD _ _)
def NW(sd:Side)(l:Nat):yE sd≠.loc l:=by cases sd<;>(intro h;cases h)
noncomputable abbrev D5(l:Nat)(th tb:MV)(lp:Nat)(a:V0):Rho:=[#[l],some th,some tb,#[lp],a]
theorem Gk{ts:Tk}(G:Qw ts)(d:zBR ts th){l:Nat}{x:Int}(q:l≠lp)(m:H9 vs)(C:S[lp]? =#[vs,2])(w:S[l]? =#[[.int x],2]):
  ∃sd L,VH (th.map (ER ts)) sd/\zH 4 wD [#[l,1],#[th.map zA,6],#[ts.map tbl,6],#[lp,1]] S=#[yE sd,S.set l (.lst [.int L]),1]:=by
 have hs:zG JV [.loc l,.tup (th.map zA),.tup (ts.map tbl),.loc lp]=D5 l ↑35 ↑5 lp none:=rfl;have F:=sF (n:=3) w ↑7 ↑7;have i:=get_set (o':=.lst [.int (x / 3)]) w;have u:(S.set l (.lst [.int (x / 3)]))[lp]? =#[vs,2]:=by rw[yI q];exact C
 cases B:decide (x % 3=0)with
 |true=>
  have p:=sF (n:=(vs.length:Int)) i (by have:=m.1;lia) (by have:=m.2.1;lia);rw[č]at p;have z:(S.set l (.lst [.int (x / 3 / (vs.length:Int))]))[lp]? =#[vs,2]:=by rw[yI q];exact C
  obtain⟨v,o⟩:=fQ (xs:=vs) (eN _ (by have:=m.1;lia)) (eL _ (by have:=m.1;lia));have A:=fR m.2.2 o;refine⟨.isv v,x / 3 / (vs.length:Int),A,NQ rfl ?_ (LH (ws:=[]) (sd:=.isv v) A _) (NW _)⟩;have e1:jT (D5 l ↑35 ↑5 lp none) S=.ok (.ret (.val (yE (.isv v)))) (S.set l (.lst [.int (x / 3 / (vs.length:Int))])):=by unfold jT;exists 7,F,B,Fe u,p,AQ z o
  show wD [.loc l,.tup (th.map zA),.tup (ts.map tbl),.loc lp] S=_;unfold wD sD;rw[hs,yG e1];rfl
 |false=>
  have e1:jT (D5 l ↑35 ↑5 lp none) S=#[D5 l ↑35 ↑5 lp none,S.set l (.lst [.int (x / 3)]),0]:=by unfold jT;simp? [F,B];rfl
  have D:(0:Int)<(th.length:Int):=by have:=d.1;lia
  have h: ∀S,cS [#[th.map zA,6]] S=.ok #[th.length,5] S:=λS=>by rw[vG,lM]
  have p:=sF i D (by have:=d.2.1;lia);rw[č]at p;have I:0<=x / 3 % (th.length:Int):=eN _ #[];have h1:x / 3 % (th.length:Int)<th.length:=eL _ D;obtain⟨k,H⟩:=ļ I;have r:k<th.length:=by lia
  have e2:lH (D5 l ↑35 ↑5 lp none) (S.set l (.lst [.int (x / 3)]))=#[D5 l ↑35 ↑5 lp #[(k:Nat),0],S.set l (.lst [.int (x / 3 / th.length)]),0]:=by unfold lH;simp? [h,p];rw[H]
  have a:th[k]? =some th[k]:=gE r;have c:=d.2.2 th[k] (Ĩ r);generalize th[k]=t at a c;have b:ts[t]? =some ts[t]:=gE c;have s:=Cz G c;rw[sZ b]at s;have y:=get_set (o':=.lst [.int (x / 3 / th.length)]) w;have E:=sF (n:=ts[t].1) y #[] #[];rw[č]at E;have J:0<=x / 3 / th.length % ts[t].1:=eN _ #[];have N:x / 3 / th.length % ts[t].1<ts[t].1:=eL _ #[];obtain⟨j,M⟩:=ļ J;have e:VH (th.map (ER ts)) (.cell k j):=⟨_,by rw[ð,a];show some (ER ts t)=_;rw[sZ b],by lia⟩
  refine⟨_,x / 3 / th.length / ts[t].1,e,NQ rfl ?_ (LH e _) (NW _)⟩;have K:lI (D5 l ↑35 ↑5 lp #[(k:Nat),0]) (S.set l (.lst [.int (x / 3 / th.length)]))=.ok (.ret (.val (yE (.cell k j)))) (S.set l (.lst [.int (x / 3 / th.length / ts[t].1)])):=by unfold lI;simp? [ix_tup (show uA (th.map zA) (k:Int)=#[t,0]from zBS a),ix_tup (Rb b)];rw[show zU (.val (tbl ts[t])) #[0,5] _=#[.int ts[t].1,_,1] from rfl];simp? [E];rw[M];rfl
  show wD [.loc l,.tup (th.map zA),.tup (ts.map tbl),.loc lp] S=_;unfold wD sD;rw[hs,zB e1,zB e2,K];rfl
structure Test where
 l:Side
 w:List Nat
 r:Side
variable{qs:List Test}
noncomputable def VI:List (List Nat):=[[115,97,109,101],[117,110,108,105,107,101],[108,101,115,115]]
def testM(t:Test):MV:=.tup [yE t.l,.str t.w,yE t.r]
def NY(ws:Za)(t:Test):Prop:=VH ws t.l/\t.w∈VI/\VH ws t.r
def VJ{t:Test}(h:NY ws t)(n:Nat):lo n (testM t):=yO (yD λe a=>by
 simp only[mC,nM,or_false]at a;rcases a with rfl|rfl|rfl
 .exact LH h.1 n
 .exact sO _ _
 .exact LH h.2.2 n)
noncomputable abbrev T8(l:Nat)(th tb:MV)(lp lt:Nat)(a x6 x7:V0):Rho:=[#[l],some th,some tb,#[lp],#[lt],a,x6,x7]
theorem Li{ts:Tk}(D:Qw ts)(m:zBR ts th){l lt:Nat}{x:Int}{a x6 x7:V0}(h:l≠lp)(k:l≠lt)(E:H9 vs)(F:S[lp]? =#[vs,2])(y:S[l]? =#[[.int x],2])
  (hQ:S[lt]? =#[qs.map testM,2]) (hql:qs.length<1000): ∃(q:Test)(L:Int)(J M:V0),NY (th.map (ER ts)) q/\bD (T8 l ↑35 ↑5 lp lt a x6 x7) S=#[T8 l ↑35 ↑5 lp lt a J M,(S.set l (.lst [.int L])).set lt (.lst ((qs++[q]).map testM)),0]:=by
 obtain⟨c,o,p,I⟩:=Gk D m h E F y;have u:=get_set (o':=.lst [.int o]) y;have r:(S.set l (.lst [.int o]))[lp]? =#[vs,2]:=by rw[yI h];exact F
 have e1:bQ (T8 l ↑35 ↑5 lp lt a x6 x7) S=#[T8 l ↑35 ↑5 lp lt a (some (yE c)) x7,S.set l (.lst [.int o]),0]:=by unfold bQ;exists 7,I
 obtain⟨j,b,s,H⟩:=Gk D m h E r u;rw[č]at H;have A:=get_set (o':=.lst [.int b]) y;have e2:bR (T8 l ↑35 ↑5 lp lt a (some (yE c)) x7) (S.set l (.lst [.int o]))=#[T8 l ↑35 ↑5 lp lt a (some (yE c)) (some (yE j)),S.set l (.lst [.int b]),0]:=by unfold bR;exists 7,H
 have G:=sF (n:=4) A ↑7 ↑7;rw[č]at G;obtain⟨d,C⟩:=fQ (xs:=[MV.str [115,97,109,101],MV.str [117,110,108,105,107,101],MV.str [108,101,115,115],MV.str [115,97,109,101]]) (i:=b % 4) (eN _ ↑7) (eL _ ↑7);obtain⟨w,rfl,hw⟩: ∃w,d=.str w/\w∈VI:=fR (P:=λd=> ∃w,d=MV.str w/\w∈VI) (λe B=>by simp only[mC,nM,or_false]at B;rcases B with rfl|rfl|rfl|rfl<;>exact⟨_,rfl,by decide⟩) C;have z:(S.set l (.lst [.int b]))[lt]? =#[qs.map testM,2]:=by rw[yI k];exact hQ
 have v:(S.set l (.lst [.int (b / 4)]))[lt]? =#[qs.map testM,2]:=by rw[yI k];exact hQ
 have K:bS (T8 l ↑35 ↑5 lp lt a (some (yE c)) (some (yE j))) (S.set l (.lst [.int b]))=#[T8 l ↑35 ↑5 lp lt a (some (yE c)) (some (yE j)),(S.set l (.lst [.int (b / 4)])).set lt (.lst ((qs++[Test.mk c w j]).map testM)),0]:=by unfold bS;simp? [nL z,zBQ,G,MM C,mH v (by rw[lM];lia)];rw[Ć];rfl
 refine⟨⟨c,w,j⟩,b / 4,some (yE c),some (yE j),⟨p,hw,s⟩,?_⟩;unfold bD;rw[zB e1,zB e2,K]
theorem ZI{ts:Tk}(hT:Qw ts)(E:zBR ts th){l:Nat}{x:Int}(A:l≠lp)(hV:H9 vs)(U:S[lp]? =#[vs,2])(I:S[l]? =#[[.int x],2]):
  ∃(qs:List Test)(a:Int),1<=qs.length/\qs.length<=3/\(∀q∈qs,NY (th.map (ER ts)) q)/\zH 4 xI [#[l,1],#[th.map zA,6],#[ts.map tbl,6],#[lp,1]] S=.ok #[qs.map testM,6] (S.set l (.lst [.int a])):=by
 have B:l<S.length:=(gS.mp I).1;have N:lp<S.length:=(gS.mp U).1;have hs:zG GD [.loc l,.tup (th.map zA),.tup (ts.map tbl),.loc lp]=[#[l],#[th.map zA,3],#[ts.map tbl,3],#[lp],none,none,none,none]:=rfl;have e1:eE [#[l],#[th.map zA,3],#[ts.map tbl,3],#[lp],none,none,none,none] S=#[T8 l ↑35 ↑5 lp ↑0 none none none,S++[.lst []],0]:=by unfold eE;exists 7,rfl
 have J:(S++[MO.lst []])[l]? =#[[.int x],2]:=by rw[ç B];exact I
 have X:=sF (n:=4) J ↑7 ↑7;have u: ∀(y:Int)(M:List Test),List.set (S++[MO.lst (M.map testM)]) l (MO.lst [.int y])=S.set l (.lst [.int y])++[.lst (M.map testM)]:=λy M=>Ł _ _ B;rw[show S++[MO.lst []]=S++[MO.lst (([]:List Test).map testM)]from rfl,u]at X;obtain⟨m,W⟩:=fQ (xs:=[MV.int 1,MV.int 1,MV.int 2,MV.int 3]) (i:=x % 4) (eN _ ↑7) (by have:=eL x (show(0:Int)<4 by decide);show x % 4<4;exact this);obtain⟨K,rfl,m1,m3⟩: ∃v,m=.int v/\1<=v/\v<=3:=fR (P:=λe=> ∃v,e=.int v/\(1:Int)<=v/\v<=3) (by intro e O;simp only[mC,nM,or_false]at O;rcases O with rfl|rfl|rfl|rfl<;>exact⟨_,rfl,by decide,by decide⟩) W;have r:((List.range K.toNat).map λk=>MV.int (k:Nat)).length=K.toNat:=by rw[lM,è]
 obtain⟨ρ',S',e,w,x6,x7,a,qs,j,D,o,h⟩:=IA (L:=(List.range K.toNat).map λk=>MV.int (k:Nat)) (gf:=zY 5) (body:=bD) (gs:=[])
  (λi ρ S'=> ∃(w x6 x7:V0)(a:Int)(qs:List Test),ρ=T8 l ↑35 ↑5 lp ↑0 w x6 x7/\S'=S.set l (.lst [.int a])++[.lst (qs.map testM)]/\qs.length=i/\ ∀q∈qs,NY (th.map (ER ts)) q) (λi d hi ρ S1 ⟨w,x6,x7,a,qs,j,G,o,h⟩=>by
   subst j G;have aa:i<4:=by have:=(gS.mp hi).1;lia
   have b:(S.set l (.lst [.int a])).length=S.length:=ù;have Z:(S.set l (.lst [.int a])++[MO.lst (qs.map testM)])[lp]? =#[vs,2]:=by rw[ç (by rw[b];exact N),yI A];exact U
   have a2:(S.set l (.lst [.int a])++[MO.lst (qs.map testM)])[l]? =#[[.int a],2]:=by rw[ç (by rw[b];exact B)];exact get_set I
   have a3:(S.set l (.lst [.int a])++[MO.lst (qs.map testM)])[↑0]? =#[qs.map testM,2]:=by rw[<-b];simp
   obtain⟨q,c,y6,y7,H,Q⟩:=Li hT E (x6:=x6) (x7:=x7) (qs:=qs) A #[] hV Z a2 a3 #[];have s:List.set (List.set (S.set l (.lst [.int a])++[MO.lst (qs.map testM)]) l (MO.lst [.int c])) ↑0 (MO.lst ((qs++[q]).map testM))=S.set l (.lst [.int c])++[.lst ((qs++[q]).map testM)]:=by rw[Ł _ _ (by rw[b];exact B),č];have F:(S.set l (.lst [.int c])).length=S.length:=ù;rw[<-F];simp
   rw[s]at Q;refine⟨_,_,?_,yP _,some d,y6,y7,c,qs++[q],rfl,rfl,by rw[lA,o];rfl,?_⟩
   .rw[show zY 5 d _ _=.ok (T8 l ↑35 ↑5 lp ↑0 (some d) x6 x7) (S.set l (.lst [.int a])++[MO.lst (qs.map testM)])from rfl,xQ,Q]
   .intro z C;rw[æ,mS]at C;rcases C with C|rfl
    .exact h z C
    .exact H) ⟨none,none,none,x / 4,[],rfl,rfl,rfl,λp hp=>by simp at hp⟩
 subst j D;rw[r]at o;have e2:eF (T8 l ↑35 ↑5 lp ↑0 none none none) (S++[MO.lst []])=#[T8 l ↑35 ↑5 lp ↑0 w x6 x7,S.set l (.lst [.int a])++[.lst (qs.map testM)],0]:=by unfold eF;rw[show S++[MO.lst []]=S++[MO.lst (([]:List Test).map testM)]from rfl];simp? [zBQ,X,MM W];rw[fH #[],xQ];exact e
 have b:(S.set l (.lst [.int a])).length=S.length:=ù;have e3:eG (T8 l ↑35 ↑5 lp ↑0 w x6 x7) (S.set l (.lst [.int a])++[.lst (qs.map testM)])=.ok (.ret #[qs.map testM,6]) (S.set l (.lst [.int a])++[.lst (qs.map testM)]):=by unfold eG;exists 7,IQ (ds:=qs.map testM) (by rw[<-b];simp)
 refine⟨qs,a,by lia,by lia,h,Ld (T:=[.lst (qs.map testM)]) rfl ?_ (yO (yD λd Y=>?_)) (λl=>by simp)⟩
 .show xI [.loc l,.tup (th.map zA),.tup (ts.map tbl),.loc lp] S=_;unfold xI vB;rw[hs,zB e1,zB e2,e3];rfl
 .obtain⟨q,H,rfl⟩:=mM.mp Y;exact VJ (h q H) _
inductive Rule where
 |never (t:Nat) (qs:List Test)|apart (t u:Nat) (qs:List Test)|tie (t:Nat) (cs:Db) (u:Nat) (ds:Db)
noncomputable def Re:List Nat:=[110,101,118,101,114]
noncomputable def ES:List Nat:=[97,112,97,114,116]
noncomputable def Da:List Nat:=[116,105,101]
def zF:Rule->MV
 |.never t qs=>.tup [.str Re,.int (t:Nat),.tup (qs.map testM)]
 |.apart t u qs=>.tup [.str ES,.int (t:Nat),.int (u:Nat),.tup (qs.map testM)]
 |.tie t cs u ds=>.tup [.str Da,.int (t:Nat),.tup (cs.map zA),.int (u:Nat),.tup (ds.map zA)]
def jF(ts:Tk):Rule->Prop
 |.never t qs=>t<ts.length/\1<=qs.length/\qs.length<=3/\ ∀q∈qs,NY [ER ts t] q
 |.apart t u qs=>t<ts.length/\u<ts.length/\1<=qs.length/\qs.length<=3/\ ∀q∈qs,NY [ER ts t,ER ts u] q
 |.tie t cs u ds=>t<ts.length/\u<ts.length/\1<=cs.length/\cs.length<=3/\ds.length=cs.length/\(∀c∈cs,(c:Int)<ER ts t)/\ ∀d∈ds,(d:Int)<ER ts u
def LI{ts:Tk}{r:Rule}(h:jF ts r)(n:Nat):lo n (zF r):=by
 have d: ∀(cs:Db),lo n (.tup (cs.map zA)):=λcs=>yO (yD λe a=>by obtain⟨c,_,rfl⟩:=mM.mp a;exact xD _ _)
 cases r with
 |never t qs=>
  refine yO (yD λe a=>?_);simp only[mC,nM,or_false]at a;rcases a with rfl|rfl|rfl
  .exact sO _ _
  .exact xD _ _
  .exact yO (yD λe a=>by obtain⟨q,b,rfl⟩:=mM.mp a;exact VJ (h.2.2.2 q b) n)
 |apart t u qs=>
  refine yO (yD λe a=>?_);simp only[mC,nM,or_false]at a;rcases a with rfl|rfl|rfl|rfl
  .exact sO _ _
  .exact xD _ _
  .exact xD _ _
  .exact yO (yD λe a=>by obtain⟨q,b,rfl⟩:=mM.mp a;exact VJ (h.2.2.2.2 q b) n)
 |tie t cs u ds=>
  refine yO (yD λe a=>?_);simp only[mC,nM,or_false]at a;rcases a with rfl|rfl|rfl|rfl|rfl
  .exact sO _ _
  .exact xD _ _
  .exact d cs
  .exact xD _ _
  .exact d ds
def Dc(r:Rule)(l:Nat):zF r≠.loc l:=by cases r<;>(intro h;cases h)
noncomputable abbrev U9(c:MV)(tb:MV)(lp l:Nat)(k t u:V0)(x7 a b:V0):Rho:=[some c,some tb,#[lp],#[l],k,t,u,x7,a,b]
def zGW(a:MV)(S:Sto):wM [.val a] S=.ok #[[a],6] S:=pZ (by simp)
def zGX(a b c d:MV)(S:Sto):wM [.val a,.val b,.val c,.val d] S=.ok #[[a,b,c,d],6] S:=pZ (by simp)
def tup5(a b c d e:MV)(S:Sto):wM [.val a,.val b,.val c,.val d,.val e] S=.ok #[[a,b,c,d,e],6] S:=pZ (by simp)
theorem Gn{ts:Tk}(s:Qw ts){t:Nat}(u:t<ts.length){ef:AX}{ρb:Rho}{x:Int}{mi:Int}
  (hef: ∀(d:MV)(y:Int),ef (ρb.set 0 (some d)) (SN S y)=zH 2 zC [#[↑0,1],#[ER ts t,5]] (SN S y)): ∃(cs:Db)(m:Int),zV (zY 0) (λρ S=>(R.ok true S)) ef ρb [] ((List.range mi.toNat).map λk=>MV.int (k:Nat)) (SN S x)=.ok (cs.map zA) (SN S m)/\cs.length=mi.toNat/\ ∀c∈cs,(c:Int)<ER ts t:=by
 have hw:=Cz s u;obtain⟨out,S',e,⟨m,rfl⟩,p,r⟩:=LF (gf:=zY 0) (cf:=λρ S=>(R.ok true S)) (ef:=ef) (P:=λy=> ∃c:Nat,y=zA c/\(c:Int)<ER ts t) (I:=λS'=> ∃y,S'=SN S y) (λd n S1 ⟨y,j⟩=>by subst j;have q:0<=y % ER ts t:=eN _ #[];have h1:y % ER ts t<ER ts t:=eL _ #[];obtain⟨c,i⟩:=ļ q;refine⟨_,.int (y % ER ts t),SN S (y / ER ts t),rfl,rfl,?_,⟨c,by rw[i];rfl,by lia⟩,⟨_,rfl⟩,yP _⟩;rw[hef,vH S y #[] #[]]) ⟨x,rfl⟩
 have: ∀(o:U0),(∀y∈o, ∃c:Nat,y=zA c/\(c:Int)<ER ts t)-> ∃cs:List Nat,o=cs.map zA/\ ∀c∈cs,(c:Int)<ER ts t:=by
  intro o
  induction o with
  |nil=>exact λ_=>⟨[],rfl,λc i=>by simp at i⟩
  |cons a o ih=>
   intro h;obtain⟨c,rfl,i⟩:=h a mF0;obtain⟨cs,rfl,b⟩:=ih λy j=>h y (mO _ j);exact⟨_,rfl,λd n=>(mC.mp n).elim (λe=>e▸i) (b d)⟩
 obtain⟨cs,rfl,b⟩:=this out r;exact⟨cs,m,e,by rw[lM,lM,è]at p;exact p,b⟩
theorem Zi{ts:Tk}(s:Qw ts)(c:Int)(hV:H9 vs)(hP:S[lp]? =#[vs,2]):
  ∃r,jF ts r/\zH 3 wF [#[c,5],#[ts.map tbl,6],#[lp,1]] S=#[zF r,S,1]:=by
 obtain⟨n,hn⟩:=GP c 4 ⟨by decide,by decide⟩ S;have Z:lp<S.length:=(gS.mp hP).1;have A:↑0≠lp:=by omega
 have D: ∀x,(SN S x)[lp]? =#[vs,2]:=λx=>by rw[ç Z];exact hP
 have hp:0<ts.length:=s.1;have aa:=s.2.1;have j: ∀S,cS [#[ts.map tbl,6]] S=.ok #[ts.length,5] S:=λS=>by rw[vG,lM]
 have p: ∀(r:Rule)(x:Int),jF ts r->wF [.int c,.tup (ts.map tbl),.loc lp] S=#[zF r,SN S x,1]-> ∃r,jF ts r/\zH 3 wF [#[c,5],#[ts.map tbl,6],#[lp,1]] S=#[zF r,S,1]:=
  λr x hr h=>⟨r,hr,yT (T:=[.lst [.int x]]) rfl h (LI hr _) (Dc r)⟩
 have hs:zG JW [.int c,.tup (ts.map tbl),.loc lp]=[#[c,0],#[ts.map tbl,3],#[lp],none,none,none,none,none,none,none]:=rfl;have e1:lK [#[c,0],#[ts.map tbl,3],#[lp],none,none,none,none,none,none,none] S=#[U9 (.int c) ↑5 lp ↑0 none none none none none none,SN S n,0]:=by unfold lK;exists 7,hn
 have e2:lL (U9 (.int c) ↑5 lp ↑0 none none none none none none) (SN S n)=#[U9 (.int c) ↑5 lp ↑0 #[n % 3,0] none none none none none,SN S (n / 3),0]:=by unfold lL;exists 7,vH S n (n:=3) ↑7 ↑7
 obtain⟨t,ht,a⟩:=tV (n / 3) hp;have L:lN (U9 (.int c) ↑5 lp ↑0 #[n % 3,0] none none none none none) (SN S (n / 3))=#[U9 (.int c) ↑5 lp ↑0 #[n % 3,0] #[(t:Nat),0] none none none none,SN S (n / 3 / ts.length),0]:=by unfold lN;simp? [j,vH S (n / 3) (n:=(ts.length:Int)) (by omega) (by omega)];rw[ht]
 obtain⟨u,hu,b⟩:=tV (n / 3 / ts.length) hp;have E:lO (U9 (.int c) ↑5 lp ↑0 #[n % 3,0] #[(t:Nat),0] none none none none) (SN S (n / 3 / ts.length))=#[U9 (.int c) ↑5 lp ↑0 #[n % 3,0] #[(t:Nat),0] #[(u:Nat),0] none none none,SN S (n / 3 / ts.length / ts.length),0]:=by unfold lO;simp? [j,vH S (n / 3 / ts.length) (n:=(ts.length:Int)) (by omega) (by omega)];rw[hu]
 generalize n / 3 / ts.length / ts.length=x4 at E
 cases hb:decide (n % 3=0)with
 |true=>
  obtain⟨qs,q,Y,J,X,C⟩:=ZI s (th:=[t]) ⟨by simp,by simp,λz I=>by rw[mS.mp I];exact a⟩ A hV (D x4) (Gg S x4);rw[VF]at C;have G:jU (U9 (.int c) ↑5 lp ↑0 #[n % 3,0] #[(t:Nat),0] #[(u:Nat),0] none none none) (SN S x4)=.ok (.ret (.val (zF (.never t qs)))) (SN S q):=by unfold jU;have o:zH 4 xI [#[↑0,1],#[[.int (t:Nat)],6],#[ts.map tbl,6],#[lp,1]] (SN S x4)=.ok #[qs.map testM,6] (SN S q):=C;exists 7,hb,zGW,o
  refine p (.never t qs) q ⟨a,Y,J,X⟩ ?_;unfold wF mP;rw[hs,zB e1,zB e2,zB L,zB E,yG G];rfl
 |false=>
  have G:jU (U9 (.int c) ↑5 lp ↑0 #[n % 3,0] #[(t:Nat),0] #[(u:Nat),0] none none none) (SN S x4)=#[U9 (.int c) ↑5 lp ↑0 #[n % 3,0] #[(t:Nat),0] #[(u:Nat),0] none none none,SN S x4,0]:=by unfold jU;simp? [hb];rfl
  cases w:decide (n % 3=1)with
  |true=>
   obtain⟨qs,q,Y,J,X,C⟩:=ZI s (th:=[t,u]) ⟨by simp,by simp,λz I=>by simp at I;rcases I with rfl|rfl;(exact a);exact b⟩ A hV (D x4) (Gg S x4);rw[VF]at C;have O:jV (U9 (.int c) (.tup (ts.map tbl)) lp ↑0 #[n % 3,0] #[(t:Nat),0] #[(u:Nat),0] none none none) (SN S x4)=.ok (.ret (.val ↑18)) (SN S q):=by unfold jV;have o:zH 4 xI [#[↑0,1],#[[.int (t:Nat),.int (u:Nat)],6],#[ts.map tbl,6],#[lp,1]] (SN S x4)=.ok #[qs.map testM,6] (SN S q):=C;exists 7,w,zGX,o
   refine p (.apart t u qs) q ⟨a,b,Y,J,X⟩ ?_;unfold wF mP;rw[hs,zB e1,zB e2,zB L,zB E,zB G,yG O];rfl
  |false=>
   have O:jV (U9 (.int c) ↑5 lp ↑0 #[n % 3,0] #[(t:Nat),0] #[(u:Nat),0] none none none) (SN S x4)=#[U9 (.int c) ↑5 lp ↑0 #[n % 3,0] #[(t:Nat),0] #[(u:Nat),0] none none none,SN S x4,0]:=by unfold jV;simp? [w];rfl
   obtain⟨m,hm⟩:=fQ (xs:=[MV.int 1,MV.int 2,MV.int 1,MV.int 3,MV.int 1]) (i:=x4 % 5) (eN _ ↑7) (by have:=eL x4 (show(0:Int)<5 by decide);show x4 % 5<5;exact this);obtain⟨mi,rfl,m1,m3⟩: ∃v,m=.int v/\1<=v/\v<=3:=fR (P:=λe=> ∃v,e=.int v/\(1:Int)<=v/\v<=3) (by intro e he;simp only[mC,nM,or_false]at he;rcases he with rfl|rfl|rfl|rfl|rfl<;>exact⟨_,rfl,by decide,by decide⟩) hm;have e7:lP (U9 (.int c) (.tup (ts.map tbl)) lp ↑0 #[n % 3,0] #[(t:Nat),0] #[(u:Nat),0] none none none) (SN S x4)=#[U9 (.int c) ↑5 lp ↑0 #[n % 3,0] #[(t:Nat),0] #[(u:Nat),0] #[mi,0] none none,SN S (x4 / 5),0]:=by unfold lP;exists 7,zGU,vH S x4 (n:=5) ↑7 ↑7,MM hm
   obtain⟨cs,H,W,ab,Q⟩:=Gn s a (ρb:=[none,#[ts.map tbl,3],#[↑0],#[(t:Nat),0]]) (S:=S) (x:=x4 / 5) (mi:=mi) (λd y=>by obtain⟨e,M,i2⟩:=VG a (SN S y);show dW [some d,#[ts.map tbl,3],#[↑0],#[(t:Nat),0]] (SN S y)=_;unfold dW;exists 7,M,i2);have B:((List.range mi.toNat).map λk=>MV.int (k:Nat)).length<1000000:=by rw[lM,è];omega
   have e8:lQ (U9 (.int c) ↑5 lp ↑0 #[n % 3,0] #[(t:Nat),0] #[(u:Nat),0] #[mi,0] none none) (SN S (x4 / 5))=#[U9 (.int c) ↑5 lp ↑0 #[n % 3,0] #[(t:Nat),0] #[(u:Nat),0] #[mi,0] #[cs.map zA,3] none,SN S H,0]:=by unfold lQ;simp? [fH (S:=SN S (x4 / 5)) (show -(2 ^ 62)<=mi/\mi<2 ^ 62 by omega)];rw[iP B];rw[show AB 1 [1,3,5] _=[none,#[ts.map tbl,3],#[↑0],#[(t:Nat),0]]from rfl];rw[show oH=(λρ S=>(R.ok true S))from rfl,W];rfl
   obtain⟨ds,F,U,ae,K⟩:=Gn s b (ρb:=[none,#[ts.map tbl,3],#[↑0],#[(u:Nat),0]]) (S:=S) (x:=H) (mi:=mi) (λd y=>by obtain⟨e,M,i2⟩:=VG b (SN S y);show dX [some d,#[ts.map tbl,3],#[↑0],#[(u:Nat),0]] (SN S y)=_;unfold dX;exists 7,M,i2);have e9:lR (U9 (.int c) ↑5 lp ↑0 #[n % 3,0] #[(t:Nat),0] #[(u:Nat),0] #[mi,0] #[cs.map zA,3] none) (SN S H)=#[U9 (.int c) ↑5 lp ↑0 #[n % 3,0] #[(t:Nat),0] #[(u:Nat),0] #[mi,0] #[cs.map zA,3] #[ds.map zA,3],SN S F,0]:=by unfold lR;simp? [fH (S:=SN S H) (show -(2 ^ 62)<=mi/\mi<2 ^ 62 by omega)];rw[iP B];rw[show AB 1 [1,3,6] _=[none,#[ts.map tbl,3],#[↑0],#[(u:Nat),0]]from rfl];rw[show oI=(λρ S=>(R.ok true S))from rfl,U];rfl
   have N:eH (U9 (.int c) ↑5 lp ↑0 #[n % 3,0] #[(t:Nat),0] #[(u:Nat),0] #[mi,0] #[cs.map zA,3] #[ds.map zA,3]) (SN S F)=.ok (.ret (.val ↑12)) (SN S F):=by unfold eH;simp? [tup5];rfl
   refine p (.tie t cs u ds) F ⟨a,b,by omega,by omega,by omega,Q,K⟩ ?_;unfold wF mP;rw[hs,zB e1,zB e2,zB L,zB E,zB G,zB O,zB e7,zB e8,zB e9,N];rfl
noncomputable def gR(rs:Z0):Side->MV
 |.isv v=>v
 |.cell k j=>((rs[k]?).bind λr=>r.2[j]?).getD .non
def NZ(ws:Za)(rs:Z0):Prop:= ∀(k:Nat)(w:Int),ws[k]? =some w-> ∃r:Nat×List MV,rs[k]? =some r/\(r.2.length:Int)=w/\ ∀d∈r.2,Vl d
theorem mI{xs:List α}{k:Nat}{x:α}(h:xs[k]? =some x):uA xs (k:Int)=some x:=by have a:=(gS.mp h).1;unfold uA XB;rw[iP #[],iP #[]];show xs[(k:Int).toNat]? =_;rw[ē,h]
theorem VL{rs:Z0}(c:NZ ws rs){k:Nat}(h:VH ws (.cell k j)): ∃(r:Nat×List MV)(v:MV),rs[k]? =some r/\r.2[j]? =some v/\Vl v/\gR rs (.cell k j)=v:=by
 obtain⟨w,h1,i⟩:=h;obtain⟨r,b,e,d⟩:=c k w h1;have a:j<r.2.length:=by lia
 refine⟨r,_,b,gE a,d _ (Ĩ a),?_⟩;show((rs[k]?).bind λr=>r.2[j]?).getD .non=_;rw[b];show(r.2[j]?).getD .non=_;rw[gE a];rfl
def tW{rs:Z0}(b:NZ ws rs)(h:VH ws sd):Vl (gR rs sd):=by
 cases sd with
 |isv v=>exact h
 |cell k j=>obtain⟨r,v,_,_,c,a⟩:=VL b h;rw[a];exact c
def ZJ{d:MV}(h:Vl d)(l:Nat):d≠.loc l:=by rcases h.cases with⟨i,rfl,_⟩|⟨x,rfl,_⟩<;>simp
def WU(x y:Db)(S:Sto):fD (.val (.str x)) (.val (.str y)) S=#[.bl (decide (x=y)),S,1]:=Bu (uG _ x y)
def eqV{a b:MV}(c:Vl a)(d:Vl b)(S:Sto):fD (.val a) (.val b) S=#[.bl (decide (a=b)),S,1]:=Gf (oQ c).1 (oQ d).1 (by rw[(oQ c).2];decide)
def neV{a b:MV}(c:Vl a)(d:Vl b)(S:Sto):HV (.val a) (.val b) S=#[.bl (!decide (a=b)),S,1]:=sP (qY _ (oQ c).1 (oQ d).1 (by rw[(oQ c).2];exact Nat.succ_pos _))
theorem GV{rs:Z0}(a:NZ ws rs)(h:VH ws sd){m:MV}(i:SqM S m (rs.map zE)):zH 2 aO [.val (yE sd),.val m] S=#[gR rs sd,S,1]:=by
 have b:=tW a h;refine nU rfl ?_ (b.lo _) (ZJ b);show zP (oW [some _,some m] S)=_;unfold oW
 cases sd with
 |isv v=>
  have e1:kE [some (yE (.isv v)),some m] S=.ok (.ret (.val v)) S:=by unfold kE;exists 7,ix_tup rfl,ix_tup rfl,WU
  rw[yG e1];rfl
 |cell k j=>
  obtain⟨r,v,h1,d,n,c⟩:=VL a h;have e1:kE [some (yE (.cell k j)),some m] S=#[[some (yE (.cell k j)),some m],S,0]:=by unfold kE;exists 7,ix_tup rfl,WU
  have e:uA _ _=some (zE r):=mI (by rw[ð,h1];rfl);have e2:aM [some (yE (.cell k j)),some m] S=.ok (.ret (.val v)) S:=by unfold aM;exists 7,show zU (.val (yE (.cell k j))) #[1,5] S=.ok _ S from ix_tup rfl,show zU (.val (yE (.cell k j))) #[2,5] S=.ok _ S from ix_tup rfl,i.ix e,show zU (.val (zE r)) #[1,5] S=.ok _ S from ix_tup rfl,ix_tup (mI d)
  rw[zB e1,e2,c];rfl
theorem GW{rs:Z0}(a:NZ ws rs)(h:VH ws sd){m:MV}(i:SqM S m (rs.map zE)):zH 2 eK [.val (yE sd),.val m] S=#[gR rs sd,S,1]:=by
 have b:=tW a h;refine nU rfl ?_ (b.lo _) (ZJ b);show zP (pO [some _,some m] S)=_;unfold pO
 cases sd with
 |isv v=>
  have e1:kI [some (yE (.isv v)),some m] S=.ok (.ret (.val v)) S:=by unfold kI;exists 7,ix_tup rfl,ix_tup rfl,WU
  rw[yG e1];rfl
 |cell k j=>
  obtain⟨r,v,h1,d,n,c⟩:=VL a h;have e1:kI [some (yE (.cell k j)),some m] S=#[[some (yE (.cell k j)),some m],S,0]:=by unfold kI;exists 7,ix_tup rfl,WU
  have e:uA _ (k:Int)=some (zE r):=mI (by rw[ð,h1];rfl);have e2:eI [some (yE (.cell k j)),some m] S=.ok (.ret (.val v)) S:=by unfold eI;exists 7,show zU (.val (yE (.cell k j))) #[1,5] S=.ok _ S from ix_tup rfl,show zU (.val (yE (.cell k j))) #[2,5] S=.ok _ S from ix_tup rfl,i.ix e,show zU (.val (zE r)) #[1,5] S=.ok _ S from ix_tup rfl,ix_tup (mI d)
  rw[zB e1,e2,c];rfl
def ltV:MV->MV->Bool
 |.int i,.int j=>decide (i<j)
 |_,_=>false
noncomputable def SH:List Nat:=[115,97,109,101]
noncomputable def GX:List Nat:=[117,110,108,105,107,101]
def jO(rs:Z0)(q:Test):Bool:=if q.w=SH then decide (gR rs q.l=gR rs q.r)else if q.w=GX then !decide (gR rs q.l=gR rs q.r)else ltV (gR rs q.l) (gR rs q.r)
theorem zBT(i:Int)(S:Sto):oS [#[i,5],.val (.typ "int")] S=#[.bl true,S,1]:=rfl
theorem zBU(i:Int)(S:Sto):oS [#[i,5],.val (.typ "bool")] S=#[.bl false,S,1]:=rfl
def VM{n:Nat}{F:↑8}{b:Bool}(c:↑4=n)(a:F (zO rs S).1 (zO rs S).2=#[.bl b,S++T,1]):zH n F rs S=#[.bl b,S,1]:=yT c a (ML _ _) (λl=>by simp)
def xS{n:Nat}{F:↑8}{b:Bool}(c:↑4=n)(a:F (zO rs S).1 (zO rs S).2=#[.bl b,S,1]):zH n F rs S=#[.bl b,S,1]:=nU c a (ML _ _) (λl=>by simp)
def Gp{d:MV}(h:Vl d)(S:Sto):zH 1 qD [.val d] S=#[.bl (match d with |.int _=>true|_=>false),S,1]:=xS rfl (by
 rcases h.cases with⟨i,rfl,_⟩|⟨x,rfl,_⟩
 .show zP _=_;rfl
 .show zP _=_;rfl)
def Lj{rs:Z0}(o:NZ ws rs){q:Test}(h:NY ws q){m:MV}(p:SqM S m (rs.map zE)):zH 2 CI [.val m,.val (testM q)] S=#[.bl (jO rs q),S,1]:=xS rfl (by
 have c:=tW o h.1;have d:=tW o h.2.2;have v: ∀S,zU (.val (testM q)) #[0,5] S=.ok _ S:=λS=>ix_tup rfl;have s: ∀S,zU (.val (testM q)) #[1,5] S=.ok _ S:=λS=>ix_tup rfl;have z: ∀S,zU (.val (testM q)) #[2,5] S=.ok _ S:=λS=>ix_tup rfl;show zP (CG [some m,some _,none,none] S)=_;have e1:rL [some m,some (testM q),none,none] S=#[[some m,some (testM q),some (gR rs q.l),none],S,0]:=by unfold rL;simp? [v,GV o h.1 p]
 have e2:rM [some m,some (testM q),some (gR rs q.l),none] S=#[[some m,some (testM q),some (gR rs q.l),some (gR rs q.r)],S,0]:=by unfold rM;simp? [z,GV o h.2.2 p]
 unfold jO;generalize gR rs q.l=a at c e1 e2;generalize gR rs q.r=b at d e2;have n:rN [some m,some (testM q),some a,some b] S=if decide (q.w=SH)=true then .ok (.ret (.val (.bl (decide (a=b))))) S else #[[some m,some (testM q),some a,some b],S,0]:=by unfold rN;simp? [s,WU,eqV c d];rfl
 have k:rO [some m,some (testM q),some a,some b] S=if decide (q.w=GX)=true then .ok (.ret (.val (.bl (!decide (a=b))))) S else #[[some m,some (testM q),some a,some b],S,0]:=by unfold rO;simp? [s,WU,neV c d];rfl
 have u:rP [some m,some (testM q),some a,some b] S=.ok (.ret (.val (.bl (ltV a b)))) S:=by unfold rP;rcases c.cases with⟨i,rfl,_⟩|⟨x,rfl,_⟩<;>rcases d.cases with⟨j,rfl,_⟩|⟨y,rfl,_⟩<;>(simp? [Gp c,Gp d,Bi,lt_int];rfl)
 unfold CG;rw[zB e1,zB e2];by_cases h1:q.w=SH
 .rw[dT0 h1,iP rfl]at n;rw[yG n,iP h1];rfl
 .rw[dF0 h1,iN xF0]at n;rw[zB n,iN h1];by_cases e:q.w=GX
  .rw[dT0 e,iP rfl]at k;rw[yG k,iP e];rfl
  .rw[dF0 e,iN xF0]at k;rw[zB k,iN e,u];rfl)
theorem xX{α:Type}{f g:α->MV}{S:Sto}{gf:↑17}{cf:AZ}{ef:AX}{ρb:Rho}{gs:Z0}(hs:stay gs S):
  ∀{ds:List α},(∀d∈ds, ∃a,gf (f d) ρb S=.ok a S/\cf a S=.ok true S/\ef a S=#[g d,S,1])->zV gf cf ef ρb gs (ds.map f) S=.ok (ds.map g) S
 |[],_=>rfl
 |d::ds,st=>by obtain⟨a,h1,b,h⟩:=st d mF0;have e:=xX hs λd c=>st d (mO _ c);rw[ê];unfold zV;rw[h1,yC,xQ,b,yC,xQ,h,yC,xQ];unfold wI;rw[xQ,iP hs,e];rfl
theorem Gq(f:α->Bool)(xs:List α)(S:Sto):Ox [.new (xs.map λx=>.bl (f x))] S=#[.bl (xs.all f),S,1]:=by
 have h: ∀xs:List α,rF (xs.map λx=>.bl (f x))=some (xs.map f):=by
  intro xs
  induction xs with
  |nil=>rfl
  |cons x xs ih=>rw[ê];unfold rF;rw[ih];rfl
 show(match (some _).bind rF with |some bs=>R.ok _ S|none=>.no)=_;rw[show(some _).bind rF=some _ from h xs];show R.ok _ S=_;rw[all_map];rfl
theorem cC(ds:U0)(S:Sto):XO #[ds,6] S=.ok ⟨ds,[]⟩ S:=rfl
theorem J2{rs:Z0}(b:NZ ws rs)(e:qs.length<=3)(h: ∀q∈qs,NY ws q)(S:Sto):zH 2 xK [.new (rs.map zE),#[qs.map testM,6]] S=#[.bl (qs.all (jO rs)),S,1]:=VM rfl (by
 show zP (fU [#[↑0],#[qs.map testM,3]] (S++[.lst (rs.map zE)]))=_;have c:SqM (S++[.lst (rs.map zE)]) (.loc ↑0) (rs.map zE):=.inr ⟨_,rfl,by simp⟩;have a:zV (zY 0) aP gC [none,#[↑0]] [] (qs.map testM) _=.ok (qs.map λq=>.bl (jO rs q)) (S++[.lst (rs.map zE)]):=xX (yP _) λq d=>⟨_,rfl,rfl,by unfold gC;exists 7,Lj b (h q d) c⟩
 unfold fU mY;simp? [cC,show((qs.map testM).length<1000000)=True from eq_true (by rw[lM];lia),show AB 1 [0] [#[↑0],#[qs.map testM,3]]=[none,#[↑0]]from rfl,a,Gq];rfl)
theorem ge_int(i j:Int)(S:Sto):geF #[i,5] #[j,5] S=#[.bl (decide (j<=i)),S,1]:=rfl
noncomputable abbrev H7(ts rw:MV)(a b c d e:V0):Rho:=[some ts,some rw,a,b,c,d,e]
theorem Lk{rs:Z0}(p:NZ ws rs){q:Test}(h:NY ws q){ts m:MV}(u:SqM S m (rs.map zE)){d e:V0}: ∃A v,cX (H7 ts m (some (yE q.l)) #[q.w,4] (some (yE q.r)) d e) S=if jO rs q=true then #[H7 ts m (some (yE q.l)) #[q.w,4] (some (yE q.r)) A v,S,0] else .ok ↑34 S:=by
 have n:=tW p h.1;have o:=tW p h.2.2;have e1:dZ (H7 ts m (some (yE q.l)) #[q.w,4] (some (yE q.r)) d e) S=#[H7 ts m (some (yE q.l)) #[q.w,4] (some (yE q.r)) (some (gR rs q.l)) e,S,0]:=by unfold dZ;simp? [GW p h.1 u]
 have e2:nA (H7 ts m (some (yE q.l)) #[q.w,4] (some (yE q.r)) (some (gR rs q.l)) e) S=#[H7 ts m (some (yE q.l)) #[q.w,4] (some (yE q.r)) (some (gR rs q.l)) (some (gR rs q.r)),S,0]:=by unfold nA;simp? [GW p h.2.2 u]
 refine⟨some (gR rs q.l),some (gR rs q.r),?_⟩;unfold cX;rw[zB e1,zB e2];unfold jO;generalize gR rs q.l=a at n;generalize gR rs q.r=b at o;have hw:=h.2.1;generalize q.w=w at hw;simp only[VI,mC,nM,or_false]at hw;have k:nB (H7 ts m (some (yE q.l)) #[w,4] (some (yE q.r)) (some a) (some b)) S=if((decide (w=[115,97,109,101])&& !decide (a=b)) || (decide (w=[117,110,108,105,107,101])&&decide (a=b)))=true then .ok ↑34 S else #[H7 ts m (some (yE q.l)) #[w,4] (some (yE q.r)) (some a) (some b),S,0]:=by unfold nB;simp? [WU,neV n o,eqV n o];cases decide (w=[115,97,109,101])<;>cases decide (w=[117,110,108,105,107,101])<;>cases decide (a=b)<;>rfl
 have s:nE (H7 ts m (some (yE q.l)) #[w,4] (some (yE q.r)) (some a) (some b)) S=if(decide (w=[108,101,115,115])&& !ltV a b)=true then .ok ↑34 S else #[H7 ts m (some (yE q.l)) #[w,4] (some (yE q.r)) (some a) (some b),S,0]:=by
  unfold nE
  cases c:decide (w=[108,101,115,115])with
  |false=>simp? [WU,c];rfl
  |true=>
   rcases n.cases with⟨i,rfl,_⟩|⟨x,rfl,_⟩<;>rcases o.cases with⟨j,rfl,_⟩|⟨y,rfl,_⟩
   .simp? [WU,c,ge_int,fT0,iF];by_cases z:i<j
    .rw[dF0 #[],show ltV (.int i) (.int j)=true from dT0 z];rfl
    .rw[dT0 #[],show ltV (.int i) (.int j)=false from dF0 z];rfl
   all_goals (simp? [WU,c,fT0,iF];rfl)
 rcases hw with rfl|rfl|rfl
 .rw[iP (show [115,97,109,101]=SH from rfl)]
  cases c:decide (a=b)with
  |true=>
   rw[c]at k;rw[zB k,s];rfl
  |false=>
   rw[c]at k;rw[yG k];rfl
 .rw[iN (show¬[117,110,108,105,107,101]=SH by decide),iP (show [117,110,108,105,107,101]=GX from rfl)]
  cases c:decide (a=b)with
  |false=>
   rw[c]at k;rw[zB k,s];rfl
  |true=>
   rw[c]at k;rw[yG k];rfl
 .rw[iN (show¬[108,101,115,115]=SH by decide),iN (show¬[108,101,115,115]=GX by decide)];rw[zB k,s];cases ltV a b<;>rfl
theorem SI{ws:Za}{rs:Z0}(o:NZ ws rs){ts m:MV}{S:Sto}(n:SqM S m (rs.map zE)): ∀(qs:List Test)(a b c d e:V0),(∀q∈qs,NY ws q)-> ∃ρ,cF (HM 3 (zR (zY 2) (zR (zY 3) (zR (zY 4) gA)))) cX [] (qs.map testM) (H7 ts m a b c d e) S=if qs.all (jO rs)=true then #[ρ,S,0] else .ok ↑34 S
 |[],a,b,c,d,e,_=>⟨_,rfl⟩
 |q::qs,a,b,c,d,e,h=>by
  obtain⟨s,p,j⟩:=Lk o (h q mF0) n;have k:HM 3 (zR (zY 2) (zR (zY 3) (zR (zY 4) gA))) (testM q) (H7 ts m a b c d e) S=.ok _ S:=rfl
  cases i:jO rs q with
  |true=>
   rw[i]at j;obtain⟨ρ,r⟩:=SI o n qs _ _ _ s p λz u=>h z (mO _ u);refine⟨ρ,?_⟩;rw[ê,jI k j (yP S),r,List.all_cons,i,Ĥ]
  |false=>
   rw[i]at j;refine⟨H7 ts m a b c d e,?_⟩;rw[ê,FU k j,List.all_cons,i,Bool.false_and,iN xF0]
def Rf{rs:Z0}(b:NZ ws rs)(h: ∀q∈qs,NY ws q)(S:Sto):zH 2 kO [#[qs.map testM,6],#[rs.map zE,6]] S=#[.bl (qs.all (jO rs)),S,1]:=xS rfl (by
 obtain⟨ρ,c⟩:=SI b (.inl rfl) qs none none none none none h;show zP (sE (H7 _ _ none none none none none) S)=_;have e1:mG (H7 (.tup (qs.map testM)) (.tup (rs.map zE)) none none none none none) S=if qs.all (jO rs)=true then #[ρ,S,0] else .ok ↑34 S:=by unfold mG;exact c
 unfold sE
 cases a:qs.all _ with
 |true=>rw[a]at e1;rw[zB e1];rfl
 |false=>rw[a]at e1;rw[yG e1];rfl)
def rs1{ts:Tk}{a:Nat×List MV}(h:aD ts a){t:Nat}(e:a.1=t):NZ [ER ts t] [a]:=λk w b=>by
 obtain⟨p,h1,c,d⟩:=h
 match k,b with
 |0,b=>
  cases b;subst e;exact⟨a,rfl,by rw[sZ h1];exact c,d⟩
def rs2{ts:Tk}{a b:Nat×List MV}(h:aD ts a)(i:aD ts b){t u:Nat}(m:a.1=t)(e:b.1=u):NZ [ER ts t,ER ts u] [a,b]:=λk w c=>by
 obtain⟨p,h1,d,n⟩:=h;obtain⟨q,j,g2,o⟩:=i
 match k,c with
 |0,c=>
  cases c;subst m;exact⟨a,rfl,by rw[sZ h1];exact d,n⟩
 |1,c=>
  cases c;subst e;exact⟨b,rfl,by rw[sZ j];exact g2,o⟩
noncomputable abbrev ob(c:Str)(d:MV):MV:=.obj c ["parts"] [d]
theorem BL(a:Nat×List MV)(S:Sto):zU (.val (zE a)) #[0,5] S=.ok #[(a.1:Nat),5] S:=ix_tup rfl
theorem zBV(a:Nat×List MV)(S:Sto):zU (.val (zE a)) #[1,5] S=.ok #[a.2,6] S:=ix_tup rfl
theorem fN(d:MV)(S:Sto):rH ZC "parts" (.val (ob "Never" d)) S=#[d,S,1]:=rfl
theorem fA(d:MV)(S:Sto):rH ZC "parts" (.val (ob "Apart" d)) S=#[d,S,1]:=rfl
theorem fT(d:MV)(S:Sto):rH ZC "parts" (.val (ob "Tie" d)) S=#[d,S,1]:=rfl
abbrev Ll(m:Str)(n:Nat)(a:List (Str×↑8))(G:↑8)(d c:MV)(xs:List Er)(b:Bool)(S:Sto):Prop:=
 ∃F,UO m a (.val d)=some F/\zH n F (.val d::xs) S=#[.bl b,S,1]/\zH n G (.val c::xs) S=#[.bl b,S,1]
theorem De{ts:Tk}{t:Nat}(h:jF ts (.never t qs)){a:Nat×List MV}(i:aD ts a)(S:Sto):Ll "bars" 2 rY jX (ob "Never" (zF (.never t qs))) (zF (.never t qs)) [.val (zE a)] (decide ((a.1:Int)=t)&&qs.all (jO [a])) S:=by
 have j: ∀S,zU (.val (zF (.never t qs))) #[0,5] S=.ok _ S:=λS=>ix_tup rfl;have c: ∀S,zU (.val (zF (.never t qs))) #[1,5] S=.ok _ S:=λS=>ix_tup rfl;have k: ∀S,zU (.val (zF (.never t qs))) #[2,5] S=.ok _ S:=λS=>ix_tup rfl;refine⟨_,rfl,xS rfl ?_,xS rfl ?_⟩
 .show zP (xH [some _,some (zE a)] S)=_;unfold xH qG
  cases b:decide ((a.1:Int)=t)with
  |false=>simp? [BL,fN,c,b,Bi];rfl
  |true=>
   have e:a.1=t:=by have:=ó b;lia
   have d:zH 2 xK [.new [zE a],.val _] S=.ok _ S:=J2 (rs1 i e) h.2.2.1 h.2.2.2 S;simp? [BL,fN,c,b,Bi,k,d];rfl
 .show zP (jW [some _,some (zE a)] S)=_;unfold jW nF
  cases b:decide ((a.1:Int)=t)with
  |false=>simp? [BL,j,c,WU,b,Bi];rfl
  |true=>
   have e:a.1=t:=by have:=ó b;lia
   have d:zH 2 kO [.val _,#[[zE a],6]] S=.ok _ S:=Rf (rs1 i e) h.2.2.2 S;simp? [BL,j,c,k,WU,b,Bi,zGW,d];rfl
theorem Gs{x:Db}{b:U0}{c:Str}(hs:UO "bars" rY (.val (ob c (.tup (.str x::b))))=some mL){e:MV}(d: ∃y ms,e=.tup (.str y::ms)/\y≠Re)(a:MV)(S:Sto):Ll "bars" 2 rY jX (ob c (.tup (.str x::b))) e [.val a] false S:=by obtain⟨y,ms,rfl,h⟩:=d;refine⟨_,hs,xS rfl rfl,xS rfl ?_⟩;show zP (jW [some _,some a] S)=_;unfold jW nF;simp? [ix_tup (ds:=.str y::ms) (i:=0) (mI rfl),WU,show decide (y=[110,101,118,101,114])=false from dF0 h];rfl
theorem Gu{ts:Tk}{t u:Nat}(h:jF ts (.apart t u qs)){a b:Nat×List MV}(j:aD ts a)(m:aD ts b)(S:Sto):zH 3 xU [.val (ob "Apart" ↑18),.val (zE a),.val (zE b)] S=#[.bl (decide ((a.1:Int)=t)&&decide ((b.1:Int)=u)&&qs.all (jO [a,b])),S,1]:=xS rfl (by
 have k: ∀S,zU (.val ↑18) #[1,5] S=.ok _ S:=λS=>ix_tup rfl;have n: ∀S,zU (.val ↑18) #[2,5] S=.ok _ S:=λS=>ix_tup rfl;have i: ∀S,zU (.val ↑18) #[3,5] S=.ok _ S:=λS=>ix_tup rfl;show zP (zS [some _,some _,some _] S)=_;have e1:xA [some (ob "Apart" ↑18),some (zE a),some (zE b)] S=if(decide ((a.1:Int)=t)&&decide ((b.1:Int)=u))=true then #[[some (ob "Apart" ↑18),some (zE a),some (zE b)],S,0] else .ok ↑34 S:=by unfold xA;cases c:decide ((a.1:Int)=t)<;>cases d:decide ((b.1:Int)=u)<;>(simp? [BL,fA,k,n,ne_int,c,d];rfl)
 unfold zS
 cases c:(decide ((a.1:Int)=t)&&decide ((b.1:Int)=u))with
 |false=>rw[c,iN xF0]at e1;rw[yG e1];rfl
 |true=>
  rw[c,iP rfl]at e1;rw[zB e1];rw[aE,ë,ë]at c;have e:zH 2 xK [.new [zE a,zE b],.val _] S=.ok _ S:=J2 (rs2 j m #[] #[]) h.2.2.2.1 h.2.2.2.2 S;unfold kG;simp? [fA,i,e];rfl)
theorem ZK{ts:Tk}{t u:Nat}(h:jF ts (.apart t u qs)){a b:Nat×List MV}(j:aD ts a)(m:aD ts b)(S:Sto):Ll "parts_them" 3 xL jZ (ob "Apart" ↑18) ↑18 [.val (zE a),.val (zE b)] ((decide ((a.1:Int)=t)&&decide ((b.1:Int)=u)&&qs.all (jO [a,b])) || (decide ((b.1:Int)=t)&&decide ((a.1:Int)=u)&&qs.all (jO [b,a]))) S:=by
 have C: ∀S,zU (.val ↑18) #[0,5] S=#[.str ES,S,1]:=λS=>ix_tup rfl;have r: ∀S,zU (.val ↑18) #[1,5] S=.ok #[(t:Nat),5] S:=λS=>ix_tup rfl;have w: ∀S,zU (.val ↑18) #[2,5] S=.ok #[(u:Nat),5] S:=λS=>ix_tup rfl;have A: ∀S,zU (.val ↑18) #[3,5] S=.ok #[qs.map testM,6] S:=λS=>ix_tup rfl;refine⟨_,rfl,xS rfl ?_,xS rfl ?_⟩
 .show zP (yA [some (ob "Apart" ↑18),some (zE a),some (zE b)] S)=_;unfold yA gX;have hs:UO "parts_in_turn" xM (.val (ob "Apart" ↑18))=some xU:=rfl;cases i:(decide ((a.1:Int)=t)&&decide ((b.1:Int)=u)&&qs.all (jO [a,b]))<;>(simp? [hs,Gu h j m,Gu h m j,i,orF];rfl)
 .show zP (jY [some ↑18,some (zE a),some (zE b),none,none] S)=_;have e1:xW [some ↑18,some (zE a),some (zE b),none,none] S=#[[some ↑18,some (zE a),some (zE b),none,none],S,0]:=by unfold xW;exists 7,C,sP (uG _ ES [97,112,97,114,116])
  have e: ∀{c d:Nat×List MV}{p q:MV},aD ts c->aD ts d->nG [some ↑18,some p,some q,some (zE c),some (zE d)] S=if(decide ((c.1:Int)=t)&&decide ((d.1:Int)=u)&&qs.all (jO [c,d]))=true then .ok (.ret (.val (.bl true))) S else .ok _ S:=λ{c d p q} z B=>by
   unfold nG eM
   cases h1:decide ((c.1:Int)=t)with
   |false=>simp? [BL,r,h1];rfl
   |true=>
    cases o:decide ((d.1:Int)=u)with
    |false=>simp? [BL,r,w,h1,o];rfl
    |true=>
     rw[ë]at h1 o;have s:zH 2 kO [#[qs.map testM,6],#[[zE c,zE d],6]] S=#[.bl (qs.all (jO [c,d])),S,1]:=Rf (rs2 z B #[] #[]) h.2.2.2.2 S;simp? [BL,r,w,A,dT0 h1,dT0 o,s];cases qs.all (jO [c,d])<;>rfl
  have g: ∀(c d:Nat×List MV)(p q:MV)(x y:V0),HM 2 (zR (zY 3) (zR (zY 4) gA)) (.tup [zE c,zE d]) [some ↑18,some p,some q,x,y] S=.ok [some ↑18,some p,some q,some (zE c),some (zE d)] S:=λc d p q x y=>rfl
  have e2:nH [some ↑18,some (zE a),some (zE b),none,none] S=if((decide ((a.1:Int)=t)&&decide ((b.1:Int)=u)&&qs.all (jO [a,b])) || (decide ((b.1:Int)=t)&&decide ((a.1:Int)=u)&&qs.all (jO [b,a])))=true then .ok (.ret (.val (.bl true))) S else #[[some ↑18,some (zE a),some (zE b),some (zE b),some (zE a)],S,0]:=by
   have k:=e (p:=zE a) (q:=zE b) j m;have n:=e (p:=zE a) (q:=zE b) m j;unfold nH;simp? [show∀ds S,AA (.new ds) S=.ok ⟨ds,[]⟩ S from λ_ _=>rfl]
   cases i:(decide ((a.1:Int)=t)&&decide ((b.1:Int)=u)&&qs.all (jO [a,b]))with
   |true=>rw[i,iP rfl]at k;rw[FU (g a b _ _ none none) k];rfl
   |false=>
    rw[i,iN xF0]at k;rw[jI (g a b _ _ none none) k (yP S)]
    cases v:(decide ((b.1:Int)=t)&&decide ((a.1:Int)=u)&&qs.all (jO [b,a]))with
    |true=>rw[v,iP rfl]at n;rw[FU (g b a _ _ _ _) n];rfl
    |false=>rw[v,iN xF0]at n;rw[jI (g b a _ _ _ _) n (yP S)];rfl
  unfold jY;rw[zB e1]
  cases i:(_ || _)with
  |true=>rw[i,iP rfl]at e2;rw[yG e2];rfl
  |false=>rw[i,iN xF0]at e2;rw[zB e2];rfl
theorem ZL{x:Db}{d:U0}{c:Str}(hs:UO "parts_them" xL (.val (ob c (.tup (.str x::d))))=some wA){h:MV}(e: ∃y ms,h=.tup (.str y::ms)/\y≠ES)(a b:MV)(S:Sto):Ll "parts_them" 3 xL jZ (ob c (.tup (.str x::d))) h [.val a,.val b] false S:=by
 obtain⟨y,ms,rfl,j⟩:=e;refine⟨_,hs,xS rfl rfl,xS rfl ?_⟩;show zP (jY [some _,some a,some b,none,none] S)=_;have e1:xW [#[(.str y::ms),3],some a,some b,none,none] S=.ok ↑34 S:=by unfold xW;simp? [ix_tup (ds:=.str y::ms) (i:=0) (mI rfl),sP (uG _ y [97,112,97,114,116]),show decide (y=[97,112,97,114,116])=false from dF0 j];rfl
 unfold jY;rw[yG e1];rfl
def ZM{l:Nat}{xs ys:U0}(k:S[l]? =#[ys,2])(i: ∀d∈xs,Vl d)(o: ∀d∈ys,Vl d):fD (.new xs) #[l,1] S=#[.bl (decide (xs=ys)),S,1]:=by
 have m:ME S #[l,1]=some (.ls ys):=by show(kS S _).map Vw.ls=_;rw[aL k];rfl
 have e:FL S zQ (.new xs) #[l,1]=some (decide (xs=ys)):=by
  unfold FL;rw[m,show ME S _=some _ from rfl];show F5 _ (.ls xs) (.ls ys)=_;obtain⟨bs,h1,j⟩:=GS λa h b n=>qY zQ (oQ (i a h)).1 (oQ (o b n)).1 (by rw[(oQ (i a h)).2];decide);rw[UD];by_cases c:↑33=ys.length
  .rw[iP c,h1];show some _=_;rw[<-j,c];simp
  .rw[iN c,dF0 λz=>c (by rw[z])]
 unfold fD;rw[e]
noncomputable def yB(a:Nat×List MV)(cs:Db):List MV:=cs.map λc=>(a.2[c]?).getD .non
def Gv{a:Nat×List MV}(b: ∀d∈a.2,Vl d){c:Nat}(h:c<a.2.length):uA a.2 (c:Int)=some ((a.2[c]?).getD .non)/\Vl ((a.2[c]?).getD .non):=by have e:=gE h;rw[e];exact⟨mI e,b _ (Ĩ h)⟩
def GY{a:Nat×List MV}(e: ∀d∈a.2,Vl d){cs:Db}(h: ∀c∈cs,c<a.2.length): ∀d∈yB a cs,Vl d:=λd i=>by obtain⟨c,b,rfl⟩:=mM.mp i;exact(Gv e (h c b)).2
def ET{a:Nat×List MV}(j: ∀d∈a.2,Vl d){cs:Db}(h: ∀c∈cs,c<a.2.length)(S:Sto){cf:AZ}{ef:AX}(e:cf=λ_ S=>.ok true S)(b: ∀(c:Nat),ef [some (zA c),some (zE a)] S=zU #[a.2,6] (.val (zA c)) S):zV (zY 0) cf ef [none,some (zE a)] [] (cs.map zA) S=.ok (yB a cs) S:=xX (yP S) λc i=>⟨[some _,some _],rfl,by rw[e],by rw[b];exact ix_tup (Gv j (h c i)).1⟩
theorem Gw{a:Nat×List MV}(b: ∀d∈a.2,Vl d){cs:Db}(j:cs.length<=3)(h: ∀c∈cs,c<a.2.length)(S:Sto):zH 2 qF [.val (zE a),#[cs.map zA,6]] S=#[yB a cs,S,2]:=aK rfl (by
 show zP (uM [some _,some _] S)=_;have e:=ET b h S (cf:=qE) (ef:=aQ) rfl λc=>by unfold aQ;exists 7,zBV
 unfold uM uL;simp? [cC,show((cs.map zA).length<1000000)=True from eq_true (by rw[lM];lia),show AB 1 [0] [some _,some _]=[none,some _]from rfl,e];rw[aN];rfl) (yD λd i=>(GY b h d i).lo _)
theorem xT{α:Type}{f:α->MV}{p:α->Bool}{S:Sto}{gf:↑17}{cf:AZ}{ef:AX}{ρb:Rho}{gs:Z0}(hs:stay gs S):
  ∀{ds:List α},(∀d∈ds, ∃a,gf (f d) ρb S=.ok a S/\cf a S=.ok (p d) S/\ef a S=#[f d,S,1])->zV gf cf ef ρb gs (ds.map f) S=.ok ((ds.filter p).map f) S
 |[],_=>rfl
 |d::ds,st=>by
  obtain⟨a,h1,c,i⟩:=st d mF0;have e:=xT hs λd h=>st d (mO _ h);rw[ê];unfold zV
  cases b:p d with
  |true=>
   rw[h1,yC,xQ,c,yC,xQ,b,i,yC,xQ];unfold wI;rw[xQ,iP hs,e,Ŀ b];rfl
  |false=>
   rw[h1,yC,xQ,c,yC,xQ,b,iN xF0,iP hs,e,ŀ (by rw[b];exact xF0)]
theorem LK(ds:U0)(S:Sto):fD (.new ds) (.new []) S=#[.bl ds.isEmpty,S,1]:=by cases ds<;>rfl
section
variable{ts:Tk}{t u:Nat}{cs ds:Db}
theorem OA(h:jF ts (.tie t cs u ds)){a:Nat×List MV}(d:aD ts a):(a.1=t-> ∀c∈cs,c<a.2.length)/\(a.1=u-> ∀c∈ds,c<a.2.length):=by
 obtain⟨p,h1,i,_⟩:=d;refine⟨λe c b=>?_,λe c b=>?_⟩
 .have:=h.2.2.2.2.2.1 c b;rw[<-e,sZ h1]at this
  lia
 .have:=h.2.2.2.2.2.2 c b;rw[<-e,sZ h1]at this
  lia
def Rg(u:Nat)(ds:Db)(a:U0)(o:Nat×List MV):Bool:=decide ((o.1:Int)=u)&&decide (yB o ds=a)
abbrev LkB(d h a:MV)(e c:Nat)(b:Bool)(S:Sto):Prop:=
 ∃F,UO "lacks" mN (.val d)=some F/\(∃T,F [d,a,.loc e] S=#[.bl b,S++T,1])/\zH 3 eO [.val h,.val a,#[c,1]] S=#[.bl b,S,1]
noncomputable abbrev K5(d a:MV)(l:Nat)(x y:V0):Rho:=[some d,some a,#[l],x,y]
theorem Lm(h:jF ts (.tie t cs u ds)){a:Nat×List MV}(D:aD ts a){os:Z0}(ho: ∀o∈os,aD ts o)(aa:os.length<1000){b e:Nat}(w:S[b]? =#[os.map zE,2])(B:S[e]? =#[os.map zE,2]):
  LkB (ob "Tie" ↑12) ↑12 (zE a) b e (decide ((a.1:Int)=t)&& !os.any (Rg u ds (yB a cs))) S:=by
 have U: ∀S,zU (.val ↑12) #[0,5] S=#[.str Da,S,1]:=λS=>ix_tup rfl;have E: ∀S,zU (.val ↑12) #[1,5] S=.ok #[(t:Nat),5] S:=λS=>ix_tup rfl;have W: ∀S,zU (.val ↑12) #[2,5] S=.ok #[cs.map zA,6] S:=λS=>ix_tup rfl;have C: ∀S,zU (.val ↑12) #[3,5] S=.ok #[(u:Nat),5] S:=λS=>ix_tup rfl;have Z: ∀S,zU (.val ↑12) #[4,5] S=.ok #[ds.map zA,6] S:=λS=>ix_tup rfl;have n: ∀{o:Nat×List MV},aD ts o-> ∀d∈o.2,Vl d:=λ⟨_,_,_,z⟩=>z;have M:cs.length<=3:=h.2.2.2.1;have N:↑23<=3:=by have:=h.2.2.2.2.1;omega
 have L:b<S.length:=(gS.mp w).1;have Q:e<S.length:=(gS.mp B).1
 cases s:decide ((a.1:Int)=t)with
 |false=>
  rw[Bool.false_and];refine⟨rQ,rfl,⟨[],?_⟩,xS rfl ?_⟩
  .rw[aN];show zP (yX (K5 (ob "Tie" ↑12) (zE a) b none none) S)=_;have e1:jP (K5 (ob "Tie" ↑12) (zE a) b none none) S=.ok ↑34 S:=by unfold jP;simp? [BL,fT,E,ne_int,s];rfl
   unfold yX;rw[yG e1];rfl
  .show zP (yY [some ↑12,some (zE a),#[e],none] S)=_;have e1:yM [some ↑12,some (zE a),#[e],none] S=.ok ↑34 S:=by unfold yM;simp? [U,E,BL,sP (S:=S) (uG _ Da [116,105,101]),ne_int,s];rfl
   unfold yY;rw[yG e1];rfl
 |true=>
  have ea:a.1=t:=by have:=ó s;omega
  have q:=(OA h D).1 ea;have k:=GY (n D) q;have X:(S++[MO.lst (yB a cs)])[b]? =#[os.map zE,2]:=by rw[ç L];exact w
  have g2:(S++[MO.lst (yB a cs)])[e]? =#[os.map zE,2]:=by rw[ç Q];exact B
  have gd:(S++[MO.lst (yB a cs)])[↑0]? =#[yB a cs,2]:=by simp
  rw[Ĥ];refine⟨rQ,rfl,⟨[.lst (yB a cs)],?_⟩,VM (T:=[.lst (yB a cs)]) rfl ?_⟩
  .show zP (yX (K5 (ob "Tie" ↑12) (zE a) b none none) S)=_;have e1:jP (K5 (ob "Tie" ↑12) (zE a) b none none) S=#[K5 (ob "Tie" ↑12) (zE a) b none none,S,0]:=by unfold jP;simp? [BL,fT,E,ne_int,s];rfl
   have e2:fV (K5 (ob "Tie" ↑12) (zE a) b none none) S=#[K5 (ob "Tie" ↑12) (zE a) b #[↑0] none,S++[.lst (yB a cs)],0]:=by unfold fV;simp? [fT,W,Gw (n D) M q]
   have A: ∀{o:Nat×List MV},aD ts o->cU (K5 (ob "Tie" ↑12) (zE a) b #[↑0] (some (zE o))) (S++[.lst (yB a cs)])=if Rg u ds (yB a cs) o=true then .ok ↑34 (S++[.lst (yB a cs)])else .ok _ (S++[.lst (yB a cs)]):=λ{o} m=>by
    unfold cU mZ Rg
    cases h1:decide ((o.1:Int)=u)with
    |false=>simp? [BL,fT,C,h1];rfl
    |true=>
     have K:o.1=u:=by have:=ó h1;omega
     have i:=(OA h m).2 K;simp? [BL,fT,C,h1,Z,Gw (n m) N i,ZM gd (GY (n m) i) k];cases decide (yB o ds=yB a cs)<;>rfl
   have v: ∀(l:Z0)(y:V0),(∀o∈l,aD ts o)-> ∃ρ,cF (zY 4) cU [(b,os.map zE)] (l.map zE) (K5 (ob "Tie" ↑12) (zE a) b #[↑0] y) (S++[.lst (yB a cs)])=if l.any (Rg u ds (yB a cs))=true then .ok ↑34 (S++[.lst (yB a cs)])else #[ρ,S++[.lst (yB a cs)],0]:=by
    intro l
    induction l with
    |nil=>exact λy _=>⟨_,rfl⟩
    |cons o l ih=>
     intro y H;have F:=A (H o mF0)
     cases j:Rg u ds (yB a cs) o with
     |true=>
      rw[j,iP rfl]at F;refine⟨[],?_⟩;rw[ê,FU rfl F,ĥ,j,Bool.true_or,iP rfl]
     |false=>
      rw[j,iN xF0]at F;obtain⟨ρ,I⟩:=ih (some (zE o)) λz hz=>H z (mO _ hz);refine⟨ρ,?_⟩;rw[ê,jI rfl F (yQ X),I,ĥ,j,Bool.false_or]
   obtain⟨ρ,H⟩:=v os none ho;have r:fW (K5 (ob "Tie" ↑12) (zE a) b #[↑0] none) (S++[.lst (yB a cs)])=if os.any (Rg u ds (yB a cs))=true then .ok ↑34 (S++[.lst (yB a cs)])else #[ρ,S++[.lst (yB a cs)],0]:=by unfold fW;exists 7,yV X,H
   unfold yX;rw[zB e1,zB e2]
   cases Y:os.any (Rg u ds (yB a cs))with
   |true=>rw[Y,iP rfl]at r;rw[yG r];rfl
   |false=>rw[Y,iN xF0]at r;rw[zB r];rfl
  .show zP (yY [some ↑12,some (zE a),#[e],none] S)=_;have e1:yM [some ↑12,some (zE a),#[e],none] S=#[[some ↑12,some (zE a),#[e],none],S,0]:=by unfold yM;simp? [U,E,BL,sP (S:=S) (uG _ Da [116,105,101]),ne_int,s];rfl
   have O:=ET (n D) q S (ef:=kY) rfl λc=>by unfold kY;exists 7,zBV
   have e2:bT [some ↑12,some (zE a),#[e],none] S=#[[some ↑12,some (zE a),#[e],#[↑0]],S++[.lst (yB a cs)],0]:=by unfold bT;exists 7,W,cC,show((cs.map zA).length<1000000)=True from eq_true (by rw[lM];omega),O
   have J:zV (zY 0) jA nQ [none,some ↑12,#[↑0]] [(e,os.map zE)] (os.map zE) (S++[.lst (yB a cs)])=.ok ((os.filter (Rg u ds (yB a cs))).map zE) (S++[.lst (yB a cs)]):=xT (yQ g2) λo hm=>⟨_,rfl,by
    unfold jA Rg;have m:=ho o hm
    cases h1:decide ((o.1:Int)=u)with
    |false=>simp? [BL,C,h1];rfl
    |true=>
     have K:o.1=u:=by have:=ó h1;omega
     have i:=(OA h m).2 K;have P:=ET (n m) i (S++[.lst (yB a cs)]) (cf:=nP) (ef:=kZ) rfl λc=>by unfold kZ;simp? [zBV]
     simp? [BL,C,h1,Z,cC,show((ds.map zA).length<1000000)=True from eq_true (by rw[lM];omega),show AB 1 [0] [some (zE o),some ↑12,#[↑0]]=[none,some (zE o)]from rfl,P,ZM gd (GY (n m) i) k];cases decide (yB o ds=yB a cs)<;>rfl,rfl⟩
   have he: ∀(l:Z0)(p:(Nat×List MV)->Bool),((l.filter p).map zE).isEmpty= !l.any p:=λl p=>by
    induction l with
    |nil=>rfl
    |cons o l ih=>
     cases G:p o with
     |true=>rw[Ŀ G,ĥ,G];rfl
     |false=>rw[ŀ (by rw[G];exact xF0),ĥ,G,Bool.false_or];exact ih
   have r:bU [some ↑12,some (zE a),#[e],#[↑0]] (S++[.lst (yB a cs)])=.ok (.ret (.val (.bl (!os.any (Rg u ds (yB a cs)))))) (S++[.lst (yB a cs)]):=by unfold bU;simp? [yV g2,show((os.map zE).length<1000000)=True from eq_true (by rw[lM];omega),show AB 1 [0,3] [some ↑12,some (zE a),#[e],#[↑0]]=[none,some ↑12,#[↑0]]from rfl,J,LK,he]
   unfold yY;rw[zB e1,zB e2,r];rfl
end
theorem ZN{x:Db}{b:U0}{c:Str}(hs:UO "lacks" mN (.val (ob c (.tup (.str x::b))))=some aR){h:MV}(d: ∃y ms,h=.tup (.str y::ms)/\y≠Da)(a:MV)(k e:Nat)(S:Sto):
  LkB (ob c (.tup (.str x::b))) h a k e false S:=by
 obtain⟨y,ms,rfl,j⟩:=d;refine⟨_,hs,⟨[],by rw[aN];rfl⟩,xS rfl ?_⟩;show zP (yY [some _,some a,some _,none] S)=_;have e1:yM [#[(.str y::ms),3],some a,#[e],none] S=.ok ↑34 S:=by unfold yM;simp? [ix_tup (ds:=.str y::ms) (i:=0) (mI rfl),sP (uG _ y [116,105,101]),show decide (y=[116,105,101])=false from dF0 j];rfl
 unfold yY;rw[yG e1];rfl
theorem CU(a:Za)(k:Int)(p:0<=k)(S:Sto): ∃c,zH 2 zW [.val (.scr (a.map MV.int)),#[k,5]] S=.ok #[c,5] S:=by
 have j:cS [.val (.scr (a.map MV.int))] S=.ok #[a.length,5] S:=by show R.ok _ S=_;rw[lM]
 have e1:bP [some (.scr (a.map MV.int)),#[k,0]] S=if decide (k<a.length)=true then(zU (.val (.scr (a.map MV.int))) #[k,5] S).bind λr S1=>.ok (.ret r) S1 else #[[some (.scr (a.map MV.int)),#[k,0]],S,0]:=by unfold bP;exists 7,j,lt_int
 have i: ∀c,zW [.scr (a.map MV.int),.int k] S=.ok _ S-> ∃c,zH 2 zW [.val _,.val _] S=#[_,S,1]:=λc h=>⟨c,nU rfl h (xD _ _) (λl=>by simp)⟩
 have hs:zG ["_law_script","_law_k"] [.scr (a.map MV.int),.int k]=[some _,some _]:=rfl;by_cases b:k<a.length
 .obtain⟨d,n⟩:=fQ (xs:=a.map MV.int) p (by rw[lM];exact b);obtain⟨c,rfl⟩: ∃c,d=.int c:=fR (P:=λd=> ∃c,d=.int c) (λe o=>by obtain⟨c,_,rfl⟩:=mM.mp o;exact⟨c,rfl⟩) n;have m:zU (.val (.scr (a.map MV.int))) #[k,5] S=.ok #[c,5] S:=by show(match uA _ k with |some d=>R.ok (Er.val d) S|none=>.no)=_;rw[n]
  refine i c ?_;rw[dT0 b,iP rfl,m,xQ]at e1;unfold zW eB;rw[hs,yG e1];rfl
 .refine i 0 ?_;rw[dF0 b,iN xF0]at e1;unfold zW eB;rw[hs,zB e1];rfl
noncomputable def zGY:Rule->Str
 |.never _ _=>"Never"
 |.apart _ _ _=>"Apart"
 |.tie _ _ _ _=>"Tie"
def J3{c:Str}{d:MV}{n:Nat}(h:lo n d):lo n (ob c d):=by exact yD λe a=>by rw[mS.mp a];exact h
theorem made{ts:Tk}{r:Rule}(h:jF ts r)(S:Sto):zH 1 CK [.val (zF r)] S=#[ob (zGY r) (zF r),S,1]:=by
 refine nU rfl ?_ (J3 (LI h _)) (λl=>by simp)
 .show zP (pU [some _] S)=_
  cases r with
  |never t qs=>
   have a: ∀S,zU (.val (zF (.never t qs))) #[0,5] S=.ok _ S:=λS=>ix_tup rfl;have e1:kN [some (zF (.never t qs))] S=.ok (.ret (.val (ob "Never" (zF (.never t qs))))) S:=by unfold kN;exists 7,a,WU
   unfold pU;rw[yG e1];rfl
  |apart t u qs=>
   have a: ∀S,zU (.val ↑18) #[0,5] S=.ok _ S:=λS=>ix_tup rfl;have e1:kN [some ↑18] S=#[[some ↑18],S,0]:=by unfold kN;exists 7,a,WU
   have e2:nV [some ↑18] S=.ok (.ret (.val (ob "Apart" ↑18))) S:=by unfold nV;exists 7,a,WU
   unfold pU;rw[zB e1,yG e2];rfl
  |tie t cs u ds=>
   have a: ∀S,zU (.val ↑12) #[0,5] S=.ok _ S:=λS=>ix_tup rfl;have e1:kN [some ↑12] S=#[[some ↑12],S,0]:=by unfold kN;exists 7,a,WU
   have e2:nV [some ↑12] S=#[[some ↑12],S,0]:=by unfold nV;exists 7,a,WU
   unfold pU;rw[zB e1,zB e2];rfl
theorem Rh(ds:U0)(S:Sto):RH [#[ds,6]] S=#[ds,S,2]:=rfl
theorem Gx(ds:U0)(a b:O0)(S:Sto):EC #[ds,6] a b S=.ok #[cQ ds a b,6] S:=rfl
abbrev Row:=Nat×List MV
def BM:Rule->Row->Bool
 |.never t qs,a=>decide ((a.1:Int)=t)&&qs.all (jO [a])
 |_,_=>false
noncomputable def Gy:Rule->Row->Bool
 |.tie t _ _ _,a=>decide ((a.1:Int)=t)
 |_,_=>false
def J5:Rule->Row->Row->Bool
 |.tie _ cs u ds,a,o=>Rg u ds (yB a cs) o
 |_,_,_=>false
def nT(r:Rule)(a:Row)(os:List Row):Bool:=Gy r a&& !os.any (J5 r a)
abbrev qZ(r:Rule):MV:=ob (zGY r) (zF r)
def Gz{ts:Tk}{r:Rule}(h:jF ts r){a:Row}(b:aD ts a)(S:Sto):Ll "bars" 2 rY jX (qZ r) (zF r) [.val (zE a)] (BM r a) S:=by
 cases r with
 |never t qs=>exact De h b S
 |apart t u qs=>exact Gs rfl ⟨_,_,rfl,by decide⟩ _ S
 |tie t cs u ds=>exact Gs rfl ⟨Da,_,rfl,by decide⟩ _ S
def ZO{ts:Tk}{r:Rule}(h:jF ts r){a:Row}(j:aD ts a){os:List Row}(k: ∀o∈os,aD ts o)(d:os.length<1000){c b:Nat}(e:S[c]? =#[os.map zE,2])(i:S[b]? =#[os.map zE,2]):
  LkB (qZ r) (zF r) (zE a) c b (nT r a os) S:=by
 cases r with
 |never t qs=>exact ZN rfl ⟨_,_,rfl,by decide⟩ _ c b S
 |apart t u qs=>exact ZN rfl ⟨_,_,rfl,by decide⟩ _ c b S
 |tie t cs u ds=>exact Lm h j k d e i
def rA:Rule->Row->Row->Bool
 |.apart t u qs,a,b=>(decide ((a.1:Int)=t)&&decide ((b.1:Int)=u)&&qs.all (jO [a,b])) || (decide ((b.1:Int)=t)&&decide ((a.1:Int)=u)&&qs.all (jO [b,a]))
 |_,_,_=>false
def ZP{ts:Tk}{r:Rule}(h:jF ts r){a b:Row}(c:aD ts a)(d:aD ts b)(S:Sto):Ll "parts_them" 3 xL jZ (qZ r) (zF r) [.val (zE a),.val (zE b)] (rA r a b) S:=by
 cases r with
 |never t qs=>exact ZL rfl ⟨_,_,rfl,by decide⟩ _ _ S
 |apart t u qs=>exact ZK h c d S
 |tie t cs u ds=>exact ZL rfl ⟨Da,_,rfl,by decide⟩ _ _ S
theorem Ri(S:Sto)(x:Int){n:Int}(b:0<n)(h1:n<1073741824):zH 2 zC [.new [.int x],#[n,5]] S=.ok #[x % n,5] S:=by
 have a:_[↑0]? =some _:=Gg S x;have hs:zG AS [.loc ↑0,.int n]=[some _,some _,none]:=rfl;have c:uA [MV.int x] 0=some _:=rfl;have e1:jQ [#[↑0],#[n,0],none] (SN S x)=#[[#[↑0],#[n,0],#[x % n,0]],SN S x,0]:=by unfold jQ;exists 7,AQ a c,mod_lit b
 have e2:jR [#[↑0],#[n,0],#[x % n,0]] (SN S x)=#[[#[↑0],#[n,0],#[x % n,0]],SN S (x / n),0]:=by unfold jR;simp? [AQ a c,FS b h1,VA,ZE a (show XB [MV.int x].length 0=some 0 from rfl)];rw[VF]
 refine yT (T:=[.lst [.int (x / n)]]) rfl ?_ (xD _ _) (λl=>by simp);show zC [.loc ↑0,.int n] (SN S x)=_;unfold zC sB;rw[hs,zB e1,zB e2];rfl
def zD(ts:Tk)(rls:List Rule)(rs:List Row):MV:=.tup [.tup (ts.map tbl),.tup (rls.map zF),.tup (rs.map zE)]
theorem GZ: ∀{ts:Tk}{o:U0},(∀d∈o, ∃r,jF ts r/\d=zF r)-> ∃rls:List Rule,o=rls.map zF/\ ∀r∈rls,jF ts r
 |ts,[],_=>⟨[],rfl,λr h=>by simp at h⟩
 |ts,d::o,h=>by obtain⟨r,c,rfl⟩:=h d mF0;obtain⟨rls,rfl,b⟩:=GZ λe a=>h e (mO _ a);exact⟨_,rfl,λq i=>(mC.mp i).elim (λe=>e▸c) (b q)⟩
def Zj{ts:Tk}{rs:List Row}(h:↑30)(n:Nat):lo n (.tup (rs.map zE)):=yO (yD λd a=>by obtain⟨r,b,rfl⟩:=mM.mp a;exact Cy (h r b) _)
def Rj{ts:Tk}{rls:List Rule}(h:↑25)(n:Nat):lo n (.tup (rls.map zF)):=yO (yD λd a=>by obtain⟨r,b,rfl⟩:=mM.mp a;exact LI (h r b) _)
def Zk{ts:Tk}{rls:List Rule}{rs:List Row}(h1:↑25)(b:↑30)(n:Nat):lo n ↑3:=yO (yD λd a=>by
 simp only[mC,nM,or_false]at a;rcases a with rfl|rfl|rfl
 .exact Qy n
 .exact Rj h1 n
 .exact Zj b n)
theorem IS(ds:U0)(S:Sto):aH [.new ds] S=.ok #[ds,6] S:=rfl
noncomputable abbrev N9(q:MV)(c a b x6 x7 d:V0):Rho:=[some q,#[8,0],#[2,0],c,a,b,x6,x7,d]
def tup3(a b c:MV)(S:Sto):wM [.val a,.val b,.val c] S=.ok #[[a,b,c],6] S:=pZ (by simp)
theorem Zl(e:Za)(h:e.length<=63): ∃ts rls rs,Qw ts/\(∀r∈rls,jF ts r)/\(∀r∈rs,aD ts r)/\↑4<=8/\rls.length<=4/\
  zH 3 aC [.val ↑29,#[8,5],#[2,5]] []=#[zD ts rls rs,[],1]:=by
 have hs:zG JX [.scr (e.map MV.int),.int 8,.int 2]=N9 ↑29 none none none none none none:=rfl;obtain⟨c0,h0⟩:=CU e 0 ↑7 [];obtain⟨vs,J,hp⟩:=Zg c0 [];have e1:lV (N9 ↑29 none none none none none none) []=#[N9 ↑29 #[0] none none none none none,[.lst vs],0]:=by unfold lV;exists 7,h0,hp
 obtain⟨c1,h1⟩:=CU e 1 ↑7 [.lst vs];obtain⟨ts,v,ht⟩:=Lg c1 [.lst vs];have e2:lW (N9 ↑29 #[0] none none none none none) [.lst vs]=#[N9 ↑29 #[0] #[ts.map tbl,3] none none none none,[.lst vs],0]:=by unfold lW;exists 7,h1,ht
 obtain⟨X,U⟩:=CU e 2 ↑7 [.lst vs];obtain⟨t,hw⟩:=GP X 5 ⟨by decide,by decide⟩ [.lst vs];obtain⟨m,N,af⟩:=tV t (n:=5) ↑7;have p:=Ri [.lst vs] t (n:=5) ↑7 ↑7;rw[show((5:Nat):Int)=5 from rfl]at N;rw[N]at p;have e3:lX (N9 ↑29 #[0] #[ts.map tbl,3] none none none none) [.lst vs]=#[N9 ↑29 #[0] #[ts.map tbl,3] #[(m:Nat),0] none none none,[.lst vs],0]:=by unfold lX;exists 7,U,hw,zBQ,MM (S:=[.lst vs]) (i:=2) (d:=.int 5) rfl,p
 obtain⟨out,q1,Q,q3⟩:=XX (gf:=zY 0) (cf:=oK) (ef:=dY) (ρb:=[none,some ↑29,#[0],#[ts.map tbl,3]]) (gs:=[]) (S:=[.lst vs]) (P:=λy=> ∃r,jF ts r/\y=zF r) (yP _) (ds:=(List.range m).map λk=>MV.int (k:Nat)) (λd Y=>by obtain⟨k,I,rfl⟩:=mM.mp Y;obtain⟨c,F⟩:=CU e (3+(k:Nat)) #[] [.lst vs];obtain⟨r,u,C⟩:=Zi v c (lp:=0) (S:=[.lst vs]) J rfl;refine⟨_,zF r,rfl,rfl,?_,r,u,rfl⟩;unfold dY;exists 7,F,C);obtain⟨rls,rfl,q⟩:=GZ q3;rw[lM,lM,è]at Q;have Z:lY (N9 ↑29 #[0] #[ts.map tbl,3] #[(m:Nat),0] none none none) [.lst vs]=#[N9 ↑29 #[0] #[ts.map tbl,3] #[(m:Nat),0] #[rls.map zF,3] none none,[.lst vs],0]:=by unfold lY;simp? [fH (S:=[.lst vs]) (j:=(m:Nat)) ⟨by lia,by lia⟩,show(((List.range m).map λk=>MV.int (k:Nat)).length<1000000)=True from eq_true (by rw[lM,è];lia),show AB 1 [0,3,4] (N9 ↑29 #[0] #[ts.map tbl,3] #[(m:Nat),0] none none none)=[none,some ↑29,#[0],#[ts.map tbl,3]]from rfl,show((m:Nat):Int).toNat=m from rfl,q1,IS]
 have cs: ∀(a b:O0)(S:Sto),EC (.val ↑29) a b S=#[(cQ e a b).map MV.int,S,2]:=λa b S=>by rw[<-MN];rfl
 have cl: ∀(a b:O0),(cQ e a b).length<=63:=λa b=>ì (Pl e a b) h;have K:lZ (N9 ↑29 #[0] #[ts.map tbl,3] #[(m:Nat),0] #[rls.map zF,3] none none) [.lst vs]=#[N9 ↑29 #[0] #[ts.map tbl,3] #[(m:Nat),0] #[rls.map zF,3] #[1] none,[.lst vs,.lst ((cQ e (some (3+(m:Nat))) none).map MV.int)],0]:=by unfold lZ;exists 7,cs
 generalize G:cQ e (some (3+(m:Nat))) none=cc at K;have M:cc.length<=63:=by rw[<-G];exact cl _ _
 obtain⟨d2,B⟩:=CU e 2 ↑7 [.lst vs,.lst (cc.map MV.int)];obtain⟨H,ae,E⟩:=Cs d2 6 ⟨by decide,by decide⟩ [.lst vs,.lst (cc.map MV.int)];obtain⟨j,O,W⟩:=tV H (n:=9) ↑7;rw[show((9:Nat):Int)=9 from rfl]at O
 obtain⟨ρ',S',A,s,is,o,D,ab⟩:=IA (gf:=zY 8) (body:=lU) (gs:=[])
  (λi ρ S'=> ∃(s:V0)(is:Za),ρ=N9 ↑29 #[0] #[ts.map tbl,3] #[(m:Nat),0] #[rls.map zF,3] #[1] s/\S'=[.lst vs,.lst ↑26]/\is.length<=63+i) (λi d hi ρ S1 ⟨s,is,o,z,hl⟩=>by
   subst o z;obtain⟨k,I,rfl⟩:=mM.mp (ñ hi);rw[ò]at I;have aa:i<j:=by have:=(gS.mp hi).1;rw[lM,è]at this;exact this
   obtain⟨c,F⟩:=CU e 2 ↑7 [.lst vs,.lst ↑26];obtain⟨y,_,hy⟩:=Cs c (30+(k:Nat)) ⟨by lia,by lia⟩ [.lst vs,.lst ↑26];refine⟨_,_,?_,yP _,#[(k:Nat),0],is++[1+2 * y],rfl,rfl,by rw[lA,lS];lia⟩;rw[show zY 8 (.int (k:Nat)) _ [.lst vs,.lst ↑26]=.ok _ [.lst vs,.lst ↑26]from rfl,xQ];unfold lU oM;simp? [F,hy,FT (show -(2 ^ 64)<(2:Int)/\(2:Int)<2 ^ 64 by decide),nL (S:=[.lst vs,.lst ↑26]) (l:=1) (ds:=is.map MV.int) rfl,mH (S:=[.lst vs,.lst ↑26]) (l:=1) (ds:=is.map MV.int) rfl (by rw[lM];lia)];rw[Ć];rfl) ⟨none,cc,rfl,rfl,by lia⟩
 subst o D;have e6:mB (N9 ↑29 #[0] #[ts.map tbl,3] #[(m:Nat),0] #[rls.map zF,3] #[1] none) [.lst vs,.lst (cc.map MV.int)]=#[N9 ↑29 #[0] #[ts.map tbl,3] #[(m:Nat),0] #[rls.map zF,3] #[1] s,[.lst vs,.lst ↑26],0]:=by unfold mB;simp? [B,E,mod_lit (show(0:Int)<8+1 by decide),show H % (8+1:Int)=(j:Nat)from O,fH (S:=[.lst vs,.lst (cc.map MV.int)]) (j:=(j:Nat)) ⟨by lia,by lia⟩,show((j:Nat):Int).toNat=j from rfl];exact A
 obtain⟨rs,L,_,ag,u⟩:=Zh v (cQ is none (some 16)) (w:=8) ⟨by decide,by decide⟩ (lp:=0) (S:=[.lst vs,.lst ↑26]) J rfl;have e7:mE (N9 ↑29 #[0] #[ts.map tbl,3] #[(m:Nat),0] #[rls.map zF,3] #[1] s) [.lst vs,.lst ↑26]=.ok (.ret (.val ↑3)) [.lst vs,.lst ↑26]:=by rw[<-MN]at u;unfold mE;simp? [FT (show -(2 ^ 64)<(2:Int)/\(2:Int)<2 ^ 64 by decide),show EC #[1,1] none (some (2 * 8:Int)) [.lst vs,.lst ↑26]=#[cQ ↑26 none (some 16),[.lst vs,.lst ↑26],2]from rfl,u,tup3];rfl
 refine⟨ts,rls,rs,v,q,L,by lia,by lia,yT (T:=[.lst vs,.lst ↑26]) rfl ?_ (Zk q L _) (λl=>by simp[zD])⟩
 .show aC [.scr (e.map MV.int),.int 8,.int 2] []=_;unfold aC BI;rw[hs,zB e1,zB e2,zB e3,zB Z,zB K,zB e6,e7];rfl
def OB{β:Type}(T:List β):(List.range T.length).filterMap (T[·]?)=T:=by
 induction T with
 |nil=>rfl
 |cons t T ih=>
  rw[lC,List.range_succ_eq_map,filterMap_cons,List.filterMap_map];show t::List.filterMap (λi=>_[i+1]?) _=_;simp only[List.getElem?_cons_succ];rw[ih]
theorem SJ: ∀{ds:U0},(∀d∈ds,rG d=true)->JP ds=true
 |[],_=>by unfold JP;rfl
 |d::ds,h=>by unfold JP;rw[h d mF0,SJ λx a=>h x (mO _ a)];rfl
abbrev Bk:=List Nat×List Nat
def Mb(b:Bk):MV:=.tup (.str b.1::b.2.map zA)
theorem ZQ{S:Sto}{n:Nat}: ∀(a ms:Db),UF (eqv S (n+1)) (LA S (n+1)) (a.map zA) (ms.map zA)=some (decide (a<ms))
 |[],[]=>rfl
 |[],m::ms=>by rw[dT0 (List.nil_lt_cons m ms)];rfl
 |k::a,[]=>by rw[dF0 (List.not_lt_nil _)];rfl
 |k::a,m::ms=>by
  show((eqv S _ _ _).bind λz=>if z=true then UF _ _ _ _ else LA S _ _ _)=_;rw[show eqv S _ (zA k) (zA m)=some _ from CB n k m];show(if decide _=true then _ else _)=_;rw[ġ.mpr List.cons_lt_cons_iff];by_cases h:k=m
  .subst h;rw[ZQ a ms];simp
  .rw[iN (by rw[ë];lia)];show some _=_;congr 1;exact dec_is #[]
theorem tX{α:Type}{f:α->MV}{p:α->Bool}{gf:↑17}{body:AY}{gs:Z0}{S:Sto}{r:Er}(I:Rho->Prop)(hs:stay gs S):
  ∀{ds:List α},(∀d∈ds, ∀ρ,I ρ-> ∃a,gf (f d) ρ S=.ok a S/\(p d=true->body a S=.ok (.ret r) S)/\(p d=false-> ∃ρ',I ρ'/\body a S=#[ρ',S,0]))-> ∀ρ,I ρ->
   (ds.any p=true->cF gf body gs (ds.map f) ρ S=.ok (.ret r) S)/\(ds.any p=false-> ∃ρ',I ρ'/\cF gf body gs (ds.map f) ρ S=#[ρ',S,0])
 |[],_,ρ,h=>⟨(λz=>nomatch z),λ_=>⟨ρ,h,rfl⟩⟩
 |d::ds,st,ρ,h=>by
  obtain⟨a,g,y,n⟩:=st d mF0 ρ h;rw[ĥ,ê]
  cases c:p d with
  |true=>exact⟨λ_=>FU g (y c),λz=>nomatch z⟩
  |false=>
   obtain⟨ρ',h',b⟩:=n c;rw[jI g b hs];exact tX I hs (λd e=>st d (mO _ e)) ρ' h'
theorem mQ{α β:Type}{f:α->MV}{gf:↑17}{body:AY}{gs:Z0}(J:Nat->β->Rho->Sto->Prop)(step:β->α->β):
  ∀{ds:List α}(k:Nat),(∀j d,ds[j]? =some d-> ∀b ρ S,J (k+j) b ρ S-> ∃ρ' S',((gf (f d) ρ S).bind λa S0=>body a S0)=#[ρ',S',0]/\stay gs S'/\J (k+j+1) (step b d) ρ' S')-> ∀b ρ S,J k b ρ S->
   ∃ρ' S',cF gf body gs (ds.map f) ρ S=#[ρ',S',0]/\J (k+↑23) (ds.foldl step b) ρ' S'
 |[],k,_,b,ρ,S,h=>⟨ρ,S,rfl,h⟩
 |d::ds,k,st,b,ρ,S,h=>by
  obtain⟨i,S1,e1,p,n⟩:=st 0 d rfl b ρ S h;obtain⟨e,S2,e2,m⟩:=mQ J step _ (λj r o b ρ S q=>by have:=st (j+1) r o b ρ S (by rw[show k+_=k+1+j by lia];exact q);rw[show k+_=k+1+j by lia]at this;exact this) _ i S1 n;refine⟨e,S2,?_,by rw[lC,show k+_=k+1+↑23 by lia];exact m⟩;rw[ê]
  cases z:gf (f d) ρ S with
  |ok a S0=>
   rw[z,xQ]at e1;rw[jI z e1 p,e2]
  |exc c fs S0=>rw[z]at e1;cases e1
  |no=>rw[z]at e1;cases e1
theorem EU{α:Type}{f g:α->MV}{p:α->Bool}{S:Sto}{gf:↑17}{cf:AZ}{ef:AX}{ρb:Rho}{gs:Z0}(hs:stay gs S):
  ∀{ds:List α},(∀d∈ds, ∃a,gf (f d) ρb S=.ok a S/\cf a S=.ok (p d) S/\ef a S=#[g d,S,1])->zV gf cf ef ρb gs (ds.map f) S=.ok ((ds.filter p).map g) S
 |[],_=>rfl
 |d::ds,st=>by
  obtain⟨a,h1,c,i⟩:=st d mF0;have e:=EU hs λd h=>st d (mO _ h);rw[ê];unfold zV
  cases b:p d with
  |true=>
   rw[h1,yC,xQ,c,yC,xQ,b,i,yC,xQ];unfold wI;rw[xQ,iP hs,e,Ŀ b];rfl
  |false=>
   rw[h1,yC,xQ,c,yC,xQ,b,iN xF0,iP hs,e,ŀ (by rw[b];exact xF0)]
def sG(K:Db)(n:Nat):HN n (K.map zA):=yD λd a=>by obtain⟨i,_,rfl⟩:=mM.mp a;exact xD _ _
section
variable{ts:Tk}{rls:List Rule}{rs:List Row}
noncomputable def xG(rs:List Row)(i:Nat):Row:=(rs[i]?).getD (0,[])
def eY{i:Nat}(h:i<↑4):xG rs i∈rs:=by unfold xG;rw[gE h];exact Ĩ h
def tB{i:Nat}(h:i<↑4)(S:Sto):zU #[rs.map zE,6] (.val (zA i)) S=#[zE (xG rs i),S,1]:=ix_tup (mI (by unfold xG;rw[ð,gE h];rfl))
theorem book1(S:Sto):zU (.val ↑3) #[1,5] S=.ok #[rls.map zF,6] S:=ix_tup rfl
theorem sH(S:Sto):zU (.val ↑3) #[2,5] S=.ok #[rs.map zE,6] S:=ix_tup rfl
def zBW(h:↑25)(n:Nat):HN n (rls.map qZ):=yD λd a=>by obtain⟨r,b,rfl⟩:=mM.mp a;exact J3 (LI (h r b) _)
def VN(h:↑25)(c:rls.length<=100)(S:Sto):zH 1 gY [.val ↑3] S=#[rls.map qZ,S,2]:=aK rfl (by
 show zP (uN [some _] S)=_;have a:zV (zY 0) qI aS [none] [] _ S=.ok (rls.map qZ) S:=xX (yP _) λr b=>⟨[some (zF r)],rfl,rfl,by unfold aS;simp? [made (h r b)]⟩
 have e1:oX [some ↑3] S=.ok (.ret (.new (rls.map qZ))) S:=by unfold oX;exists 7,book1,cC,show((rls.map zF).length<1000000)=True from eq_true (by rw[lM];omega),a
 unfold uN;rw[e1,aN];rfl) (zBW h _)
noncomputable def zHU(ts:Tk)(t:Nat):Int:=((ts[t]?).getD (0,0)).2
def IT(ts:Tk)(a:Row):MV:=.tup [zA a.1,.tup (cQ a.2 none (some (zHU ts a.1)))]
theorem Df{a:Row}(h:aD ts a):pd (IT ts a)=true/\LE (IT ts a)<=2:=by
 obtain⟨p,_,_,e⟩:=h;have c: ∀d∈cQ a.2 none (some (zHU ts a.1)),Vl d:=λd b=>e d (XU b);have h1:Ct _=true:=VC λd b=>(oQ (c d b)).1;have i:GQ _<=0:=VE λd b=>by rw[(oQ (c d b)).2];exact à _
 unfold IT zA;refine⟨by rw[NS,tT,tT,NS,h1];rfl,?_⟩;rw[GR,tU,tU,NT,VB,GR]
 lia
def Rk{a:Row}(h:aD ts a)(n:Nat):lo n (IT ts a):=yO (yD λd b=>by
 obtain⟨p,_,_,c⟩:=h;simp only[mC,nM,or_false]at b;rcases b with rfl|rfl
 .exact xD _ _
 .exact yO (yD λd b=>by
   have:=c d (XU b);rcases this.cases with⟨i,rfl,_⟩|⟨x,rfl,_⟩
   .exact xD _ _
   .exact sO _ _))
theorem Rl{a:Row}(h:aD ts a)(S:Sto):zU #[ts.map tbl,6] #[(a.1:Nat),5] S=.ok #[[.int ((ts[a.1]?).getD (0,0)).1,.int (zHU ts a.1)],6] S:=by obtain⟨p,b,_,_⟩:=h;refine ix_tup (mI ?_);rw[ð];unfold zHU;rw[b];rfl
theorem Rm(S:Sto):zU (.val ↑3) #[0,5] S=.ok #[ts.map tbl,6] S:=ix_tup rfl
def tup2(a b:MV)(S:Sto):wM [.val a,.val b] S=.ok #[[a,b],6] S:=pZ (by simp)
theorem Ha{a:Row}(h:aD ts a)(S:Sto):zH 2 AU [#[ts.map tbl,6],.val (zE a)] S=#[IT ts a,S,1]:=by refine nU rfl ?_ (Rk h _) (λl=>by simp[IT]);show zP (GI [some _,some _] S)=_;unfold GI EH;simp? [BL,Rl h,ix_tup (ds:=[.int ((ts[a.1]?).getD _).1,.int _]) (i:=1) rfl,tup2];rfl
theorem IU(a:↑30){i:Nat}(hi:i<↑4)(S:Sto):zH 2 qS [.val ↑3,.val (zA i)] S=#[IT ts (xG rs i),S,1]:=by
 have h:=a _ (eY hi);refine nU rfl ?_ (Rk h _) (λl=>by simp[IT]);show zP (vC [some _,some _,none,none] S)=_;have e1:pP [some ↑3,some (zA i),none,none] S=#[[some ↑3,some (zA i),#[((xG rs i).1:Nat),0],#[(xG rs i).2,3]],S,0]:=by unfold pP;simp? [sH,tB hi,VA];rfl
 have e2:pQ [some ↑3,some (zA i),#[((xG rs i).1:Nat),0],#[(xG rs i).2,3]] S=.ok (.ret (.val (IT ts (xG rs i)))) S:=by unfold pQ;simp? [Rm,Rl h,ix_tup (ds:=[.int ((ts[(xG rs i).1]?).getD _).1,.int _]) (i:=1) rfl,Gx,tup2];rfl
 unfold vC;rw[zB e1,e2];rfl
def ZR(ts:Tk)(a b:Row):Bool:=decide (IT ts a=IT ts b)
theorem HA{a b:Row}(c:aD ts a)(d:aD ts b)(S:Sto):fD (.val (IT ts a)) (.val (IT ts b)) S=#[.bl (ZR ts a b),S,1]:=Gf (Df c).1 (Df d).1 (by have:=(Df c).2;lia)
noncomputable def Ti(rls:List Rule)(k:Nat):Rule:=(rls[k]?).getD (.tie 0 [] 0 [])
def Hb{k:Nat}(h:k<rls.length):Ti rls k∈rls:=by unfold Ti;rw[gE h];exact Ĩ h
theorem Hc(f:α->MV)(l:List α)(g:Nat->α)(b: ∀k (h:k<l.length),g k=l[k]):QC (l.map f)=(List.range l.length).map λi=>.tup [zA i,f (g i)]:=by
 unfold QC;apply Ń;intro m;by_cases a:m<l.length
 .simp only[ð,List.getElem?_zipIdx,getElem?_range a,Option.map_some,gE a,ĩ];rw[b m a];rfl
 .rw[đ (by rw[lM,length_zipIdx,lM];lia),đ (by rw[lM,è];lia)]
theorem Ro(k:Nat)(h:k<rls.length):Ti rls k=rls[k]:=by unfold Ti;rw[gE h];rfl
end
def Zm{l:Nat}{ds zs:U0}(a:S[l]? =#[ds,2])(b:↑23+zs.length<=1000000):Xy #[l,1] [.new zs] S=#[.non,S.set l (.lst (ds++zs)),1]:=by show _=_;show HY #[l,1] S (λds=>if ↑23+zs.length<=sizeLine then some _ else none)=_;unfold HY;dsimp only;rw[a];dsimp only;rw[iP (fits b)]
def zGZ(b:Bk)(n:Nat):lo n (Mb b):=yO (yD λd a=>by
 rcases mC.mp a with rfl|a
 .exact sO _ _
 .obtain⟨i,_,rfl⟩:=mM.mp a;exact xD _ _)
def zBX(l:List Bk)(n:Nat):HN n (l.map Mb):=yD λd a=>by obtain⟨b,_,rfl⟩:=mM.mp a;exact zGZ b n
def Zn{f:α->MV}{l:List α}{g:Nat->α}(a: ∀k (h:k<l.length),g k=l[k]){p:Nat}(h:S[p]? =#[l.map f,2]):Pn [#[p,1]] S=.ok ⟨(List.range l.length).map λi=>.tup [zA i,f (g i)],[(p,l.map f)]⟩ S:=by
 have e:srcOf S #[p,1]=some ⟨true,l.map f,[(p,l.map f)]⟩:=by unfold srcOf;dsimp only;rw[h]
 unfold Pn;dsimp only;rw[e];show R.ok _ S=_;rw[Hc f l g a]
def Zo{f:α->MV}{l:List α}{g:Nat->α}(a: ∀k (h:k<l.length),g k=l[k])(S:Sto):Pn [#[l.map f,6]] S=.ok ⟨(List.range l.length).map λi=>.tup [zA i,f (g i)],[]⟩ S:=by show R.ok _ S=_;rw[Hc f l g a]
noncomputable def Zp:List Nat:=[107,101,121]
section
variable{ts:Tk}{rls:List Rule}{rs:List Row}
def QI(ts:Tk)(rls:List Rule)(rs:List Row)(i j:Nat):List Bk:=((List.range rls.length).filter λk=>rA (Ti rls k) (xG rs i) (xG rs j)).map (λk=>(ES,[i,j,k]))++if ZR ts (xG rs i) (xG rs j)=true then [(Zp,[i,j])]else []
abbrev P7(ts:Tk)(rls:List Rule)(rs:List Row)(lr i j:Nat)(x y z:V0):Rho:=[some ↑3,#[lr],some (zA i),some (zA j),x,y,z]
theorem zHA(m:↑25)(q:↑30)(n:rls.length<=100){i:Nat}(hi:i<↑4)(s:j<↑4){lr:Nat}(u:S[lr]? =#[rls.map qZ,2]):
  zH 4 dB [.val ↑3,#[lr,1],.val (zA i),.val (zA j)] S=#[(QI ts rls rs i j).map Mb,S,2]:=by
 have c:=q _ (eY hi);have d:=q _ (eY s);have e1:gD (P7 ts rls rs lr i j none none none) S=#[P7 ts rls rs lr i j (some (zE (xG rs i))) none none,S,0]:=by unfold gD;simp? [sH,tB hi]
 have e2:gF (P7 ts rls rs lr i j (some (zE (xG rs i))) none none) S=#[P7 ts rls rs lr i j (some (zE (xG rs i))) (some (zE (xG rs j))) none,S,0]:=by unfold gF;simp? [sH,tB s]
 have h:(((List.range rls.length).map λk=>MV.tup [zA k,qZ (Ti rls k)]).length<1000000)=True:=eq_true (by rw[lM,è];lia)
 have o:zV (HM 2 (zR (zY 0) (zR (zY 1) gA))) wO wQ [none,none,some (zA i),some (zA j),some (zE (xG rs i)),some (zE (xG rs j))] [(lr,rls.map qZ)] ((List.range rls.length).map λk=>MV.tup [zA k,qZ (Ti rls k)]) S=.ok (((List.range rls.length).filter λk=>rA (Ti rls k) (xG rs i) (xG rs j)).map λk=>Mb (ES,[i,j,k])) S:=EU (yQ u) λk b=>by
  rw[ò]at b;obtain⟨F,h1,v,_⟩:=ZP (m _ (Hb b)) c d S;refine⟨_,rfl,?_,?_⟩
  .unfold wO;simp? [h1,v]
  .unfold wQ;exists 7,zGX
 generalize a:(((List.range rls.length).filter λk=>rA (Ti rls k) (xG rs i) (xG rs j)).map λk=>Mb (ES,[i,j,k]))=ps at o;have w:ps.length<=100:=by rw[<-a,lM];exact ì (ï _ _) (by rw[è];exact n)
 have z:gG (P7 ts rls rs lr i j (some (zE (xG rs i))) (some (zE (xG rs j))) none) S=#[P7 ts rls rs lr i j (some (zE (xG rs i))) (some (zE (xG rs j))) #[↑0],S++[.lst ps],0]:=by unfold gG;exists 7,Zn Ro u,h,o
 have p:(S++[MO.lst ps])[↑0]? =#[ps,2]:=by simp
 have y:gH (P7 ts rls rs lr i j (some (zE (xG rs i))) (some (zE (xG rs j))) #[↑0]) (S++[.lst ps])=#[P7 ts rls rs lr i j (some (zE (xG rs i))) (some (zE (xG rs j))) #[↑0],S++[.lst ((QI ts rls rs i j).map Mb)],0]:=by
  unfold gH
  cases b:ZR ts (xG rs i) (xG rs j)with
  |false=>
   have e:(QI ts rls rs i j).map Mb=ps:=by unfold QI;rw[b,iN xF0,aN,û, <-a];rfl
   rw[e];simp? [Rm,Ha c,Ha d,HA c d,b];rfl
  |true=>
   have e:(QI ts rls rs i j).map Mb=ps++[Mb (Zp,[i,j])]:=by unfold QI;rw[b,iP rfl,Ć,û, <-a];rfl
   rw[e];simp? [Rm,Ha c,Ha d,HA c d,b,nL p,tup3,mH p #[]];rw[show List.set (S++[MO.lst ps]) ↑0 _=S++[MO.lst (ps++[Mb (Zp,[i,j])])] by simp[Mb,Zp]]
 refine NU (T:=[.lst ((QI ts rls rs i j).map Mb)]) rfl rfl ?_ (.inr ⟨_,rfl,à _,by simp⟩) (zBX _ _);show zP (dA (P7 ts rls rs lr i j none none none) S)=_;unfold dA;rw[zB e1,zB e2,zB z,zB y];rfl
end
noncomputable def IV(a:Db)(k:Nat):Nat:=(a[k]?).getD 0
def Ln{β:Type}(g:α->List β)(l:List α): ∀(b:List β),l.foldl (λb i=>b++g i) b=b++l.flatMap g:=by
 induction l with
 |nil=>intro b;simp
 |cons x l ih=>intro b;rw[ď,ih,flatMap_cons,aA]
noncomputable def jG:List Nat->List (Nat×Nat)
 |[]=>[]
 |x::t=>t.map (λj=>(x,j))++jG t
theorem ZS: ∀(a:Db),(List.range a.length).flatMap (λp=>(a.drop (p+1)).map λj=>(IV a p,j))=jG a
 |[]=>rfl
 |x::t=>by rw[lC,List.range_succ_eq_map,flatMap_cons,List.flatMap_map];show t.map (λj=>_)++_=_;rw[show jG _=t.map (λj=>_)++jG t from rfl, <-ZS t];rfl
theorem pairs_len: ∀(a:Db),(jG a).length<=a.length * a.length
 |[]=>à _
 |x::t=>by
  have b:=pairs_len t;rw[show jG _=t.map (λj=>_)++jG t from rfl,lA,lM,lC];rw[Nat.add_mul,Nat.mul_add]
  lia
theorem SK: ∀{a:Db}{p:Nat×Nat},p∈jG a->p.1∈a/\p.2∈a
 |x::t,p,h=>by
  rcases æ.mp h with h|h
  .obtain⟨j,b,rfl⟩:=mM.mp h;exact⟨mF0,mO _ b⟩
  .have:=SK h;exact⟨mO _ this.1,mO _ this.2⟩
def VO(p:Nat×Nat):MV:=.tup [zA p.1,zA p.2]
abbrev G4(a:Db)(l:Nat)(x y:V0):Rho:=[#[a.map zA,3],#[l],x,y]
theorem Zq{a:Db}(C:a.length<=200)(S:Sto):zH 1 uR [#[a.map zA,6]] S=#[(jG a).map VO,S,2]:=by
 have e1:oZ [#[a.map zA,3],none,none,none] S=#[G4 a ↑0 none none,S++[.lst []],0]:=by unfold oZ;exists 7,rfl
 obtain⟨ρ',S',f,⟨x,y,c⟩,n,_⟩:=mQ (gf:=HM 2 (zR (zY 2) (zR (zY 3) gA))) (body:=oY) (gs:=[]) (λk (b:List (Nat×Nat)) ρ S'=>(∃x y,ρ=G4 a ↑0 x y)/\S'=S++[.lst (b.map VO)]/\b.length<=k * 200) (λb p=>b++(a.drop (p+1)).map λj=>(IV a p,j)) (ds:=List.range a.length) 0 (λj p B b ρ S1 ⟨⟨x,y,c⟩,r,w⟩=>by
  subst c r;obtain⟨o,m⟩:=gS.mp B;rw[è]at o;rw[getElem_range]at m;subst m;have u:(S++[MO.lst (b.map VO)])[↑0]? =#[b.map VO,2]:=by simp
  have z:zV (zY 0) qK aT [none,some (zA (IV a j))] [] ((a.drop (j+1)).map zA) (S++[.lst (b.map VO)])=.ok ((a.drop (j+1)).map λq=>VO (IV a j,q)) (S++[.lst (b.map VO)]):=xX (yP _) λq _=>⟨_,rfl,rfl,by unfold aT;simp? [tup2];rfl⟩
  have i:cQ (a.map zA) (some ((j:Nat)+1)) none=(a.drop (j+1)).map zA:=by rw[MN,show((j:Nat):Int)+1=((j+1:Nat):Int)from rfl,SF]
  have A:((a.drop (j+1)).map λq=>VO (IV a j,q)).length<=200:=by rw[lM,Đ];omega
  refine⟨G4 a ↑0 (some (zA j)) (some (zA (IV a j))),_,?_,yP _,⟨_,_,rfl⟩,rfl,by rw[lA,lM,Đ];rw[show(0+j+1) * 200=(0+j) * 200+200 by lia];omega⟩;rw[show HM 2 (zR (zY 2) (zR (zY 3) gA)) (.tup [zA j,zA (IV a j)]) (G4 a ↑0 x y) (S++[.lst (b.map VO)])=.ok _ (S++[.lst (b.map VO)])from rfl,xQ];unfold oY qL;simp? [nL u,show∀S,wK (.val (zA j)) #[1,5] S=.ok #[(j:Nat)+1,5] S from λ_=>rfl,Gx,i,cC,show(((a.drop (j+1)).map zA).length<1000000)=True from eq_true (by rw[lM,Đ];omega),show AB 1 [3] (G4 a ↑0 (some (zA j)) (some (zA (IV a j))))=[none,some (zA (IV a j))]from rfl,z,Zm (zs:=(a.drop (j+1)).map λq=>VO (IV a j,q)) u (by rw[lM (as:=b)];lia)];rw[Ć,û];rw[show List.set (S++[MO.lst (b.map VO)]) ↑0 _=S++[MO.lst (b.map VO++(a.drop (j+1)).map λq=>VO (IV a j,q))] by simp];rfl) [] (G4 a ↑0 none none) (S++[.lst []]) ⟨⟨_,_,rfl⟩,rfl,zero_le _⟩
 subst c n;rw[Ln,List.nil_append,ZS]at f;have e2:pA (G4 a ↑0 none none) (S++[.lst []])=#[G4 a ↑0 x y,S++[.lst ((jG a).map VO)],0]:=by unfold pA;simp? [Zo (f:=zA) (l:=a) (g:=IV a) (λk h=>by unfold IV;rw[gE h];rfl)];exact f
 refine NU (T:=[.lst ((jG a).map VO)]) (S2:=S) rfl rfl ?_ (.inr ⟨↑0,rfl,à _,by simp⟩) (yD λd v=>by obtain⟨p,_,rfl⟩:=mM.mp v;exact yO (yD λe s=>by simp only[mC,nM,or_false]at s;rcases s with rfl|rfl<;>exact xD _ _));show zP (uQ [#[a.map zA,3],none,none,none] S)=_;unfold uQ;rw[zB e1,zB e2];rfl
abbrev kd(K:Db):List (MV×MV):=K.map λi=>(zA i,MV.bl true)
theorem He(k:Nat)(K:Db):kd (k::K)=(zA k,.bl true)::kd K:=rfl
def zBY(A B:Db):kd (A++B)=kd A++kd B:=Ć
theorem Zr(K:Db):(kd K).map (·.1)=K.map zA:=by rw[û];rfl
theorem ky(i:Nat):DA (zA i)=true:=rfl
def CV{a b:Nat}(h:zA a=zA b):a=b:=by
 unfold zA at h;injection h with h
 omega
theorem kd_all(K:Db):(kd K).all (λp=>DA p.1)=true:=by rw[ø];intro p a;obtain⟨i,_,rfl⟩:=mM.mp a;rfl
def Hf{l:Nat}{K:Db}(h:S[l]? =#[kd K,7]):EF S #[l,1]=some (l,kd K):=by unfold EF;dsimp only;rw[h];exact iP (kd_all K)
theorem VR: ∀(K:Db)(i:Nat),look (kd K) (zA i)=if i∈K then some (.bl true)else none
 |[],i=>by rw[iN (by simp)];rfl
 |k::K,i=>by
  rw[He,CD];by_cases h:k=i
  .subst h;rw[iP rfl,iP (by simp)]
  .rw[iN (λz=>h (CV z)),VR K i];by_cases a:i∈K
   .rw[iP a,iP (mO _ a)]
   .rw[iN a,iN (λz=>(mC.mp z).elim (λe=>h e.symm) a)]
theorem ZT(K:Db)(i:Nat):(look (kd K) (zA i)).isSome=decide (i∈K):=by
 rw[VR];by_cases h:i∈K
 .rw[iP h,dT0 h];rfl
 .rw[iN h,dF0 h];rfl
def Hg{l:Nat}{K:Db}(h:S[l]? =#[kd K,7])(a:Bool)(i:Nat):MZ a (.val (zA i)) #[l,1] S=#[.bl (if a=true then !decide (i∈K)else decide (i∈K)),S,1]:=by unfold MZ;rw[Hf h];show(if DA _=true then _ else _)=_;rw[iP (ky i),ZT]
theorem zBZ(K:Db)(i:Nat):putK (kd K) (zA i) (.bl true)=kd (if i∈K then K else K++[i]):=by
 unfold putK;rw[ZT];by_cases h:i∈K
 .rw[dT0 h,iP h];show _=_;rw[û];refine List.map_congr_left λk _=>?_;show(if zA k=zA i then _ else _)=_;split<;>rfl
 .rw[dF0 h,iN h,zBY];rfl
def zCA(K:Db)(i:Nat):Qk (kd K) (zA i)=kd (K.filter λk=>!decide (k=i)):=by
 unfold Qk;show _=_;rw[List.filter_map];congr 1;refine filter_congr λk _=>?_;show(!decide _)=_;by_cases h:k=i
 .subst h;rw[dT0 rfl,dT0 rfl]
 .rw[dF0 h,dF0 λz=>h (CV z)]
def set_same{l:Nat}{o:MO}(h:S[l]? =some o):S.set l o=S:=by obtain⟨a,rfl⟩:=gS.mp h;exact List.set_getElem_self a
def zCB{l:Nat}{K:Db}(h:S[l]? =#[kd K,7])(i:Nat): ∃d,RT #[l,1] [.val (zA i),.val .non] S=#[d,S.set l (.dic (kd (K.filter λk=>!decide (k=i)))),1]:=by
 unfold RT;rw[Hf h];show∃d,(if DA _=true then _ else _)=_;rw[VR,zCA];by_cases hi:i∈K
 .rw[iP hi];exact⟨_,rfl⟩
 .rw[iN hi];have e:(K.filter λk=>!decide _)=K:=filter_eq_self.mpr λk a=>by rw[dF0 (show¬k=i from λz=>hi (z▸a))];rfl
  rw[e,set_same h];exact⟨_,rfl⟩
theorem Zs{l:Nat}{K:Db}(h:S[l]? =#[kd K,7]):NB #[l,1] S=true:=by unfold NB;rw[Hf h];rfl
theorem ZU: ∀(K:Db),uI (K.map λi=>.tup [zA i,.bl true])=some (kd K)
 |[]=>rfl
 |k::K=>by rw[ê];unfold uI;rw[ZU K];rfl
theorem Hh: ∀(K A:Db),(A++K).Nodup->(kd K).foldl (λa p=>putK a p.1 p.2) (kd A)=kd (A++K)
 |[],A,_=>by rw[aN];rfl
 |k::K,A,h=>by
  rw[He,ď];show(kd K).foldl _ _=_;have b:=λc=>by have:=(ģ.mp h).2.2 k c k mF0;exact this rfl
  rw[zBZ,iN b,Hh K _ (by rw[aA];exact h),aA];rfl
theorem zCC{K:Db}(h:K.Nodup)(S:Sto):Fy [.new (K.map λi=>.tup [zA i,.bl true])] S=.ok #[S.length,1] (S++[.dic (kd K)]):=by show(match (kS S _).bind uI with |some kvs=>R.ok _ _|none=>.no)=_;rw[show(kS S (.new _)).bind uI=some _ from ZU K];show R.ok _ _=_;unfold G9;rw[show((kd K).foldl (λa p=>putK a p.1 p.2) [])=kd _ from Hh K [] (by simpa using h)];rfl
def zCD{l:Nat}{K:Db}(h:S[l]? =#[kd K,7]):RV [#[l,1]] S=.ok #[K.map zA,6] S:=by unfold RV;dsimp only;rw[Hf h];show R.ok _ S=_;rw[Zr]
theorem HB: ∀(K:Db),intsOf (K.map zA)=some (K.map Int.ofNat)
 |[]=>rfl
 |k::K=>by show(intsOf _).map _=_;rw[HB K];rfl
section
variable{rls:List Rule}{rs:List Row}
def Zt(rls:List Rule)(rs:List Row)(a:Db):Bool:=a.any λi=>rls.any λr=>BM r (xG rs i) || nT r (xG rs i) (a.map (xG rs))
end
theorem CW(h: ∀(m:Nat)(o:MO),S[m]? =some o->S'[m]? =some o):↑0<=S'.length:=by
 by_cases z:↑0=0
 .lia
 .have a:↑0 - 1<S.length:=by lia
  have:=(gS.mp (h _ _ (gE a))).1
  lia
def VS(h: ∀(m:Nat)(o:MO),S[m]? =some o->S'[m]? =some o):FK S S':=⟨CW h,λl a=>.inl (by rw[h l _ (gE a),gE a])⟩
def Rp(h: ∀(m:Nat)(o:MO),S[m]? =some o->S'[m]? =some o): ∀(m:Nat)(o:MO),S[m]? =some o->(S'.take ↑0)[m]? =some o:=λm o a=>by rw[ĸ (gS.mp a).1];exact h m o a
abbrev Old(S S':Sto):Prop:= ∀(m:Nat)(o:MO),S[m]? =some o->S'[m]? =some o
def Old.app(S T:Sto):Old S (S++T):=λm o h=>by rw[ç (gS.mp h).1];exact h
theorem Old.set(h:Old S S'){l:Nat}(b:↑0<=l)(o:MO):Old S (S'.set l o):=λm u a=>by have:=(gS.mp a).1;rw[í #[]];exact h m u a
def Old.trans{a:Sto}(h:Old S S')(h':Old S' a):Old S a:=λm o e=>h' m o (h m o e)
theorem Old.is(h:Old S S'): ∃T,S'=S++T:=by
 refine⟨S'.drop ↑0,?_⟩
 have e:S'.take ↑0=S:=by
  apply Ń;intro m;by_cases a:m<↑0
  .rw[ĸ a,h m _ (gE a),gE a]
  .rw[đ (by rw[lT];lia),đ #[]]
 conv=>lhs;rw[<-List.take_append_drop ↑0 S',e]
inductive TsAt(S:Sto):List MV->List (Nat×List Nat)->Prop
 |nil:TsAt S [] []
 |cons {p i:Nat} {srv:Db} {ms:U0} {tk:List (Nat×List Nat)}:S[p]? =#[srv.map zA,2]->srv.length<=100->TsAt S ms tk->TsAt S (.tup [zA i,.loc p]::ms) ((i,srv)::tk)
def TsAt.mono(h:TsAt S ms tk)(o: ∀(m:Nat)(ds:U0),S[m]? =#[ds,2]->(∃i,MV.tup [i,.loc m]∈ms)->S'[m]? =#[ds,2]):TsAt S' ms tk:=by
 induction h with
 |nil=>exact .nil
 |@cons p i srv ms tk h1 h2 _ ih=>exact .cons (o _ _ h1 ⟨_,mF0⟩) h2 (ih λm ds e ⟨j,a⟩=>o m ds e ⟨j,mO _ a⟩)
def TsAt.snoc(h:TsAt S ms tk){p i:Nat}{a:Db}(b:S[p]? =#[a.map zA,2])(c:a.length<=100):TsAt S (ms++[.tup [zA i,.loc p]]) (tk++[(i,a)]):=by
 induction h with
 |nil=>exact .cons b c .nil
 |cons h1 h2 _ ih=>exact .cons h1 h2 ih
def TsAt.length(h:TsAt S ms tk):ms.length=tk.length:=by
 induction h with
 |nil=>rfl
 |cons _ _ _ ih=>rw[lC,lC,ih]
def TsAt.shape(h:TsAt S ms tk): ∀d∈ms, ∃i p,d=.tup [zA i,.loc p]:=by
 induction h with
 |nil=>intro d a;cases a
 |@cons p i srv ms tk h1 h2 _ ih=>intro d a;rcases mC.mp a with e|e;(· exact⟨i,p,e⟩);(· exact ih d e)
section
variable{ts:Tk}{rls:List Rule}{rs:List Row}
theorem Lo:QC (rs.map zE)=(List.range ↑4).map λi=>.tup [zA i,zE (xG rs i)]:=by
 unfold QC;apply Ń;intro m;by_cases a:m<↑4
 .simp only[ð,List.getElem?_zipIdx,getElem?_range a,Option.map_some,ĩ];unfold xG;rw[gE a];rfl
 .rw[đ (by rw[lM,length_zipIdx,lM];lia),đ (by rw[lM,è];lia)]
def Rq(b:↑25){r:Rule}(i:r∈rls){a:Row}(d:aD ts a){os:List Row}(h: ∀o∈os,aD ts o)(e:os.length<1000)(S:Sto):
  ∃F,UO "lacks" mN (.val (qZ r))=some F/\zH 3 F [.val (qZ r),.val (zE a),.new (os.map zE)] S=#[.bl (nT r a os),S,1]:=by
 have g:(S++[MO.lst (os.map zE)])[↑0]? =#[os.map zE,2]:=by simp
 obtain⟨F,h1,⟨T,c⟩,_⟩:=ZO (b r i) d h e g g;exact⟨F,h1,VM rfl (by show F [qZ r,zE a,.loc ↑0] (S++[.lst _])=_;rw[c,aA])⟩
def QJ(rs:List Row)(r:Rule)(i:Nat):List Nat:=(List.range ↑4).filter λj=>!nT r (xG rs i) [xG rs j]
def VT(rs:List Row)(r:Rule)(i:Nat):List (Nat×List Nat):=if nT r (xG rs i) []=true then [(i,QJ rs r i)]else []
end
section
variable{ts:Tk}{rls:List Rule}{rs:List Row}
structure TI(S0:Sto)(tk:List (Nat×List Nat))(c:Nat)(S':Sto):Prop where
 ex: ∃ms,S'[S0.length]? =#[ms,2]/\TsAt S' ms tk/\ ∀p i,MV.tup [i,.loc p]∈ms->S0.length<p
 old:Old S0 S'
 len:tk.length<=c
noncomputable abbrev T5(b:MV)(l:Nat)(x y z:V0):Rho:=[some b,#[l],x,y,z]
def ZV(S:Sto):Pn [#[rs.map zE,6]] S=.ok ⟨(List.range ↑4).map λi=>.tup [zA i,zE (xG rs i)],[]⟩ S:=by show R.ok _ S=_;rw[Lo]
def Rr(a:↑25)(c:↑30){r:Rule}(k:r∈rls){i:Nat}(hi:i<↑4)(S:Sto):
  zV (HM 2 (zR (zY 0) (zR (zY 1) gA))) fX sR [none,none,some (qZ r),some (zE (xG rs i))] [] ((List.range ↑4).map λi=>.tup [zA i,zE (xG rs i)]) S=.ok ((QJ rs r i).map zA) S:=
 EU (yP _) λj d=>by rw[ò]at d;obtain⟨F,h1,e⟩:=Rq a k (c _ (eY hi)) (os:=[xG rs j]) (λo h=>by rw[mS.mp h];exact c _ (eY d)) (show 1<1000 by decide) S;refine⟨_,rfl,?_,rfl⟩;have b:zH 3 F [.val _,.val _,.new [zE _]] S=.ok _ S:=e;unfold fX;simp? [Xc,h1,b]
theorem Rt(d:↑25)(w:↑30)(B:↑4<=100){r:Rule}(y:r∈rls){i:Nat}(hi:i<↑4){c:Nat}(D:c<100000)(h:TI S0 tk c S):
  ∃S',nW (T5 ↑3 S0.length (some (qZ r)) (some (zA i)) (some (zE (xG rs i)))) S=#[T5 ↑3 S0.length (some (qZ r)) (some (zA i)) (some (zE (xG rs i))),S',0]/\TI S0 (tk++VT rs r i) (c+1) S':=by
 obtain⟨F,h1,A⟩:=Rq d y (w _ (eY hi)) (os:=[]) (λo h=>by cases h) ↑7 S;have a:zH 3 F [.val (qZ r),.val (zE (xG rs i)),.new []] S=.ok _ S:=A;unfold VT
 cases v:nT r (xG rs i) []with
 |false=>
  rw[v]at a;refine⟨S,?_,by rw[iN xF0,aN];exact⟨h.ex,h.old,by have:=h.len;lia⟩⟩;unfold nW fY;simp? [Pm,h1,a];rfl
 |true=>
  rw[v]at a;rw[iP rfl];obtain⟨ms,s,g2,z⟩:=h.ex;have q:S0.length<S.length:=(gS.mp s).1;have k:(QJ rs r i).length<=100:=ì (ï _ _) (by rw[è];exact B);have n:(S++[MO.lst ((QJ rs r i).map zA)])[S0.length]? =#[ms,2]:=by rw[ç q];exact s
  refine⟨(S++[MO.lst ((QJ rs r i).map zA)]).set S0.length (.lst (ms++[.tup [zA i,.loc ↑0]])),?_,?_⟩
  .unfold nW fY;simp? [Pm,h1,a,nL s,sH,ZV,show(((List.range ↑4).map λi=>MV.tup [zA i,zE (xG rs i)]).length<1000000)=True from eq_true (by rw[lM,è];lia),show AB 2 [2,4] (T5 ↑3 S0.length (some (qZ r)) (some (zA i)) _)=[none,none,some (qZ r),some (zE (xG rs i))]from rfl,Rr d w y hi];rw[show wM [.val (zA i),.new _] S=.ok #[[zA i,.loc ↑0],6] (S++[.lst ((QJ rs r i).map zA)])from pZ (by simp)];simp? [mH n (by rw[g2.length];have:=h.len;lia)]
  .have u:Old S (S++[MO.lst ((QJ rs r i).map zA)]):=Old.app _ _;refine⟨⟨_,ô (by rw[lA];lia),?_,λp j b=>?_⟩,(h.old.trans u).set (à _) _,by rw[lA,lS];have:=h.len;lia⟩
   .refine TsAt.snoc (g2.mono λm ds e ⟨j,C⟩=>?_) ?_ k
    .rw[í (by have:=z m j C;lia)];exact u m _ e
    .rw[í #[]];simp
   .rcases æ.mp b with b|b
    .exact z p j b
    .have:=mS.mp b;injection this with this
     injection this with _ this
     injection this with this _
     injection this with this
     lia
end
section
variable{ts:Tk}{rls:List Rule}{rs:List Row}
def eZ(rls:List Rule)(rs:List Row):List (Nat×List Nat):=rls.foldl (λb r=>(List.range ↑4).foldl (λb i=>b++VT rs r i) b) []
def J6(S:Sto)(r:Er)(tk:List (Nat×List Nat)):Prop:=(r=.new []/\tk=[])\/ ∃l ms,r=#[l,1]/\S[l]? =#[ms,2]/\TsAt S ms tk
theorem Ru(s:↑25)(P:↑30)(C:↑4<=100)(D:rls.length<=100)(S:Sto):
  ∃r S',zH 1 bL [.val ↑3] S=.ok r S'/\Old S S'/\J6 S' r (eZ rls rs)/\(eZ rls rs).length<=100000:=by
 have e1:rV [some ↑3,none,none,none,none] S=#[T5 ↑3 ↑0 none none none,S++[.lst []],0]:=by unfold rV;exists 7,rfl
 have q: ∀{r:Rule},r∈rls-> ∀(c:Nat),c<=50000-> ∀(b:List (Nat×List Nat))(ρ:Rho)(S1:Sto),_/\TI S b c S1->
   ∃ρ' S',cF _ nW [] _ ρ S1=#[ρ',S',0]/\_/\TI S _ (c+↑4) S':=λ{r} B c U b ρ S1 h=>by
  have:=mQ (gf:=HM 2 (zR (zY 3) (zR (zY 4) gA))) (gs:=[]) (λk b ρ S1=>(∃y z,ρ=T5 ↑3 ↑0 (some (qZ r)) y z)/\TI S b k S1) (λb i=>b++VT rs r i) c (λj i w b ρ S1 ⟨⟨y,z,a⟩,A⟩=>by subst a;obtain⟨o,u⟩:=gS.mp w;rw[è]at o;rw[getElem_range]at u;subst u;obtain⟨S',M,Q⟩:=Rt s P C B o #[] A;refine⟨T5 ↑3 ↑0 (some (qZ r)) (some (zA j)) (some (zE (xG rs j))),S',?_,yP _,⟨_,_,rfl⟩,Q⟩;rw[show HM 2 _ (.tup [zA j,zE (xG rs j)]) _ S1=.ok _ S1 from rfl,xQ];exact M) b ρ S1 h;obtain⟨ρ',S',f1,f2,e⟩:=this;rw[è]at e;exact⟨ρ',S',f1,f2,e⟩
 obtain⟨ρ',S',f1,⟨x,y,z,a⟩,e⟩:=mQ (gf:=zY 2) (body:=rS) (λk b ρ S1=>(∃x y z,ρ=T5 ↑3 ↑0 x y z)/\TI S b (k * ↑4) S1) (λb r=>(List.range ↑4).foldl (λb i=>b++VT rs r i) b) 0 (λj r w b ρ S1 ⟨⟨x,y,z,a⟩,A⟩=>by subst a;have B:r∈rls:=ñ w;have o:=(gS.mp w).1;have I:(0+j) * ↑4<=50000:=ì (mul_le_mul (show 0+j<=100 by lia) C) ↑7;obtain⟨ρ',S',f1,⟨T,J,rfl⟩,e⟩:=q B ((0+j) * ↑4) I b _ S1 ⟨⟨_,_,rfl⟩,A⟩;refine⟨T5 ↑3 ↑0 (some (qZ r)) T J,S',?_,yP _,⟨_,_,_,rfl⟩,by rw[show(0+j+1) * ↑4=(0+j) * ↑4+↑4 by rw[Nat.add_mul,Nat.one_mul]];exact e⟩;rw[show zY 2 (qZ r) (T5 ↑3 ↑0 x y z) S1=.ok _ S1 from rfl,xQ];unfold rS sS;simp? [sH,ZV];exact f1) [] _ (S++[.lst []]) ⟨⟨_,_,_,rfl⟩,⟨⟨[],by simp,.nil,λp i h=>by cases h⟩,Old.app _ _,zero_le _⟩⟩;subst a;have e2:rW (T5 ↑3 ↑0 none none none) (S++[.lst []])=#[T5 ↑3 ↑0 x y z,S',0]:=by unfold rW;simp? [VN s D,show∀ds S,AA (.new ds) S=.ok ⟨ds,[]⟩ S from λ_ _=>rfl];exact f1
 have O:rX (T5 ↑3 ↑0 x y z) S'=.ok (.ret #[↑0,1]) S':=by unfold rX;exists 7,rfl
 have N:bL [zD ts rls rs] S=.ok #[↑0,1] S':=by show zP (CL [some ↑3,none,none,none,none] S)=_;unfold CL;rw[zB e1,zB e2,O];rfl
 have m:(eZ rls rs).length<=100000:=ì e.len (ì (mul_le_mul (show 0+rls.length<=100 by lia) C) ↑7);obtain⟨ms,G,g2,L⟩:=e.ex;have n:zH 1 bL [.val ↑3] S=gV S #[↑0,1] S':=by unfold zH;rw[iP (show [Er.val ↑3].length=1 from rfl)];show((noX (bL [zD ts rls rs] S)).bind λr S2=>gV S r S2)=_;rw[N,yC,xQ]
 rw[n];unfold gV;rw[iP (VS e.old)];dsimp only;rw[iN (ĕ _),G];dsimp only;by_cases F:ms=[]
 .subst F;refine⟨.new [],_,by rw[iP (yD λd H=>by cases H)],Rp e.old,.inl ⟨rfl,?_⟩,m⟩;have:=g2.length;exact List.eq_nil_of_length_eq_zero this.symm
 .refine⟨_,S',by
   rw[iN];intro v
   cases ms with
   |nil=>exact F rfl
   |cons d r=>
    obtain⟨i,p,rfl⟩:=g2.shape d mF0;have W:=L p _ mF0;unfold HN at v;have h1:=v.1;unfold lo at h1;unfold HN at h1;have E:=h1.2;unfold HN at E;have K:=E.1;unfold lo at K
    lia,e.old,.inr ⟨↑0,ms,rfl,G,g2⟩,m⟩
end
def PK(tk:List (Nat×List Nat))(K:Db):List Nat:=(tk.filter λt=>decide (t.1∈K)&& !t.2.any λj=>decide (j∈K)).map (·.1)
theorem zHB{p:Nat}{K a:Db}(e:S[lk]? =#[kd K,7])(d:S[p]? =#[a.map zA,2]):zH 2 pC [#[lk,1],#[p,1]] S=#[.bl (a.any λj=>decide (j∈K)),S,1]:=by
 refine xS rfl ?_;show zP (pB [some _,some _,none] S)=_
 obtain⟨k,b⟩:=tX (p:=λj=>decide (j∈K)) (gf:=zY 2) (body:=gZ) (λρ=> ∃y,ρ=[#[lk],#[p],y]) (yQ d) (λj _ ρ ⟨y,c⟩=>by
  subst c;refine⟨[some _,some _,some (zA j)],rfl,λh=>?_,λh=>⟨[some _,some _,some (zA j)],⟨_,rfl⟩,?_⟩⟩
  .unfold gZ bM;simp? [Hg e,h];rfl
  .unfold gZ bM;simp? [Hg e,h];rfl) [some _,some _,none] ⟨_,rfl⟩
 unfold pB
 cases i:a.any λj=>decide (j∈K)with
 |true=>
  have e1:kH [#[lk],#[p],none] S=.ok (.ret (.val (.bl true))) S:=by unfold kH;simp? [yV d];exact k i
  rw[yG e1];rfl
 |false=>
  obtain⟨ρ',_,b⟩:=b i;have e1:kH [#[lk],#[p],none] S=#[ρ',S,0]:=by unfold kH;exists 7,yV d,b
  rw[zB e1];rfl
def Zu{K:Db}(b:S[lk]? =#[kd K,7]){gs:Z0}(hs:stay gs S)(h:TsAt S ms tk):
  zV (HM 2 (zR (zY 0) (zR (zY 1) gA))) xR kT [none,none,#[lk]] gs ms S=.ok ((PK tk K).map zA) S:=by
 induction h with
 |nil=>rfl
 |@cons p i srv ms tk h1 h2 _ ih=>
  have d:HM 2 (zR (zY 0) (zR (zY 1) gA)) (.tup [zA i,.loc p]) [none,none,some _] S=.ok [some _,some _,#[lk]] S:=rfl
  have c:xR [some (zA i),#[p],#[lk]] S=.ok (decide (i∈K)&& !srv.any λj=>decide (j∈K)) S:=by
   unfold xR
   cases hi:decide (i∈K)with
   |false=>simp? [Hg b,hi];rfl
   |true=>
    simp? [Hg b,hi,zHB b h1];rfl
  unfold PK at ih ⊢;unfold zV
  cases a:(decide (i∈K)&& !srv.any λj=>decide (j∈K))with
  |true=>
   rw[d,yC,xQ,c,yC,xQ,a,show kT [some _,some _,some _] S=.ok _ S from rfl,yC,xQ];unfold wI;rw[xQ,iP hs,ih,Ŀ (by exact a)];rfl
  |false=>
   rw[d,yC,xQ,c,yC,xQ,a,iN xF0,iP hs,ih,ŀ (by rw[a];exact xF0)]
def ZW{lt:Nat}{K:Db}(b:S[lk]? =#[kd K,7])(a:S[lt]? =#[ms,2])(h:TsAt S ms tk)(c:tk.length<=100000):zH 2 bA [#[lt,1],#[lk,1]] S=#[(PK tk K).map zA,S,2]:=aK rfl (by
 show zP (aU [some _,some _] S)=_;have e1:bN [#[lt],#[lk]] S=.ok (.ret (.new ((PK tk K).map zA))) S:=by unfold bN;exists 7,yV a,show(ms.length<1000000)=True from eq_true (by rw[h.length];omega),Zu b (yQ a) h
 unfold aU;rw[e1,aN];rfl) (sG _ _)
def Dg{K:Db}{i:Nat}:i∈PK tk K↔i∈K/\ ∃a,(i,a)∈tk/\ ∀j∈a,j∉K:=by
 unfold PK;rw[mM];constructor
 .rintro⟨⟨k,a⟩,b,rfl⟩;rw[å,aE,ë,ą,ý]at b;exact⟨b.2.1,a,b.1,λj c=>by have:=b.2.2 j c;rwa [ë]at this⟩
 .rintro⟨hi,a,b,hs⟩;refine⟨(i,a),?_,rfl⟩;rw[å,aE,ë,ą,ý];exact⟨b,hi,λj c=>by rw[ë];exact hs j c⟩
noncomputable abbrev W5(a b:MV)(lk:Nat)(u x:V0):Rho:=[some a,some b,#[lk],u,x]
theorem zHC{a b:MV}{lk c:Nat}{U:Db}(i:lk≠c): ∀(us:Db)(K:Db)(S:Sto)(x:V0),S[lk]? =#[kd K,7]->S[c]? =#[U.map zA,2]->
  ∃j,cF (zY 4) jK [(c,U.map zA)] (us.map zA) (W5 a b lk #[c] x) S=#[W5 a b lk #[c] j,S.set lk (.dic (kd (K.filter λk=>!decide (k∈us)))),0]
 |[],K,S,x,hk,hu=>by
  refine⟨x,?_⟩;have e:(K.filter λk=>!decide (k∈([]:Db)))=K:=filter_eq_self.mpr λk _=>by simp
  rw[e,set_same hk];rfl
 |u::us,K,S,x,hk,hu=>by
  obtain⟨d,o⟩:=zCB hk u;have p:jK (W5 a b lk #[c] (some (zA u))) S=#[W5 a b lk #[c] (some (zA u)),S.set lk (.dic (kd (K.filter λk=>!decide (k=u)))),0]:=by unfold jK aW;exists 7,Zs hk,o
  have m:(S.set lk _)[lk]? =some (.dic (kd (K.filter λk=>!decide (k=u)))):=get_set hk;have h:(S.set lk (.dic (kd (K.filter λk=>!decide (k=u)))))[c]? =#[U.map zA,2]:=by rw[yI i];exact hu
  obtain⟨j,h'⟩:=zHC i us _ _ _ m h;refine⟨j,?_⟩;rw[ê,jI rfl p (yQ h),h',č,filter_filter];congr 5;funext k;by_cases h1:k=u
  .subst h1;simp
  .by_cases n:k∈us<;>simp[h1,n]
def bF(tk:List (Nat×List Nat))(A K:Db):Prop:=(∃p,K=A.filter p)/\PK tk K=[]/\ ∀P:Nat->Prop,(∀i,P i->i∈A)->(∀t∈tk,P t.1-> ∃j∈t.2,P j)-> ∀i,P i->i∈K
def Zv{l:Nat}{ds:U0}(h:S[l]? =#[ds,2]):mX #[l,1] S=.ok (!ds.isEmpty) S:=by unfold mX;dsimp only;rw[h]
theorem Lp{S3:Sto}{lt:Nat}{b:MV}(F:S3[lt]? =#[ms,2])(hT:TsAt S3 ms tk)(hl:tk.length<=100000):
  ∀(n:Nat)(K:Db)(S:Sto)(d:Nat)(x:V0),K.length<n->Old S3 S->S[S3.length]? =#[kd K,7]->S3.length<d->S[d]? =#[(PK tk K).map zA,2]->
   ∃y N r S',pX bO jL n (W5 (.loc lt) b S3.length #[d] x) S=#[W5 (.loc lt) b S3.length N r,S',0]/\Old S3 S'/\S'[S3.length]? =#[kd y,7]/\bF tk K y:=by
 intro n
 induction n with
 |zero=>intro K S d x h;lia
 |succ n ih=>
  intro K S d x hn U C W M;have w:bO (W5 (.loc lt) b S3.length #[d] x) S=.ok (!((PK tk K).map zA).isEmpty) S:=by unfold bO;exists 7,Zv M
  cases v:PK tk K with
  |nil=>
   rw[v]at w;refine⟨K,_,x,S,Jt w,U,C,⟨λ_=>true,(filter_eq_self.mpr λ_ _=>rfl).symm⟩,v,λP h1 _ i hi=>h1 i hi⟩
  |cons u us=>
   rw[v]at w;obtain⟨r,J⟩:=zHC #[] (PK tk K) K S x C M;have c:(S.set S3.length (.dic (kd (K.filter λk=>!decide (k∈PK tk K)))))[S3.length]? =some _:=get_set C;have a:Old S3 (S.set S3.length (.dic (kd (K.filter λk=>!decide (k∈PK tk K))))):=U.set (à _) _;generalize o:(K.filter λk=>!decide (k∈PK tk K))=K1 at J c a;generalize Y:S.set S3.length (.dic (kd K1))=S1 at J c a;have z:=a _ _ F;have H:TsAt S1 ms tk:=hT.mono λm ds e _=>a m _ e;have b1:gK (W5 (.loc lt) b S3.length #[d] x) S=#[W5 (.loc lt) b S3.length #[d] r,S1,0]:=by unfold gK;exists 7,yV M,J
   have X:gM (W5 (.loc lt) b S3.length #[d] r) S1=#[W5 (.loc lt) b S3.length #[S1.length] r,S1++[.lst ((PK tk K1).map zA)],0]:=by unfold gM;exists 7,ZW c z H hl
   have hB:jL (W5 (.loc lt) b S3.length #[d] x) S=#[W5 (.loc lt) b S3.length #[S1.length] r,S1++[.lst ((PK tk K1).map zA)],0]:=by unfold jL;rw[zB b1,X]
   have s:S3.length<S1.length:=(gS.mp c).1;have I: ∀i∈PK tk K,i∈K:=λi hi=>(Dg.mp hi).1
   have Q:K1.length<K.length:=by
    rw[<-o];have L:u∈K:=I u (by rw[v];exact mF0);have G:u∈PK tk K:=by rw[v];exact mF0
    refine Nat.lt_of_le_of_ne (ï _ _) λe=>?_;have:=List.length_filter_eq_length_iff.mp e u L;rw[dT0 G]at this;cases this
   obtain⟨y,N,A,S',w1,w2,w3,⟨p,B⟩,w5,w6⟩:=ih K1 (S1++[.lst ((PK tk K1).map zA)]) S1.length r #[] (a.trans (Old.app _ _)) (Old.app _ _ _ _ c) s (by simp);refine⟨y,N,A,S',?_,w2,w3,⟨λk=>(!decide (k∈PK tk K))&&p k,?_⟩,w5,λP h1 O i hi=>w6 P (λj T=>?_) O i hi⟩
   .rw[Bv w hB];exact w1
   .rw[B, <-o,filter_filter];congr 1;funext k;exact Bool.and_comm _ _
   .rw[<-o,å];refine⟨h1 j T,?_⟩;rw[ą,decide_eq_false_iff_not];intro hm;obtain⟨_,D,F,hs⟩:=Dg.mp hm;obtain⟨q,Z,E⟩:=O (j,D) F T;exact hs q Z (h1 q E)
theorem OD{S3:Sto}{lt la:Nat}{A:Db}(n:S3[lt]? =#[ms,2])(h:TsAt S3 ms tk)(k:tk.length<=100000)(d:S3[la]? =#[A.map zA,2])(v:A.Nodup)(p:A.length<=100):
  ∃K T,yN [.loc lt,.loc la] S3=.ok #[K.map zA,6] (S3++T)/\bF tk A K:=by
 have o:zV (zY 0) aV gI [none] [(la,A.map zA)] (A.map zA) S3=.ok (A.map λi=>.tup [zA i,.bl true]) S3:=xX (yQ d) λi _=>⟨_,rfl,rfl,by unfold gI;exists 7,show∀a b S,wM [.val a,.val b] S=.ok #[[a,b],6] S from λa b S=>pZ (by simp)⟩
 have e1:dC [#[lt],#[la],none,none,none] S3=#[W5 (.loc lt) (.loc la) S3.length none none,S3++[.dic (kd A)],0]:=by unfold dC;simp? [yV d,show((A.map zA).length<1000000)=True from eq_true (by rw[lM];lia),show AB 1 [] [#[lt],#[la],none,none,none]=[none]from rfl,o,zCC v]
 have c:Old S3 (S3++[.dic (kd A)]):=Old.app _ _;have j:(S3++[MO.dic (kd A)])[S3.length]? =#[kd A,7]:=by simp
 have e2:dD (W5 (.loc lt) (.loc la) S3.length none none) (S3++[.dic (kd A)])=#[W5 (.loc lt) (.loc la) S3.length #[(S3++[MO.dic (kd A)]).length] none,S3++[.dic (kd A)]++[.lst ((PK tk A).map zA)],0]:=by unfold dD;exists 7,ZW j (c _ _ n) (h.mono λm ds e _=>c m _ e) k
 obtain⟨K,y,w,S',s,q,z,u⟩:=Lp n h k 10000 A (S3++[.dic (kd A)]++[.lst ((PK tk A).map zA)]) (S3++[MO.dic (kd A)]).length none #[] (c.trans (Old.app _ _)) (Old.app _ _ _ _ j) (by rw[lA];exact ė _) (by simp);obtain⟨T,rfl⟩:=q.is;refine⟨K,T,?_,u⟩;show zP (fZ [#[lt],#[la],none,none,none] S3)=_;have r:dE (W5 (.loc lt) (.loc la) S3.length y w) (S3++T)=.ok (.ret #[K.map zA,6]) (S3++T):=by unfold dE;exists 7,zCD z
 unfold fZ;rw[zB e1,zB e2,zB (show oA _ _=_ from s),r];rfl
def zCE{r:Er}{la:Nat}{A:Db}(i:J6 S r tk)(h:tk.length<=100000)(d:S[la]? =#[A.map zA,2])(e:A.Nodup)(a:A.length<=100):
  ∃K,zH 2 yN [r,#[la,1]] S=.ok #[K.map zA,6] S/\bF tk A K:=by
 have b: ∀K:List Nat,lo ↑0 (.tup (K.map zA)):=λK=>yO (sG K _);rcases i with⟨rfl,rfl⟩|⟨l,ms,rfl,g1,g2⟩
 .obtain⟨K,T,h1,c⟩:=OD (S3:=S++[.lst []]) (lt:=↑0) (la:=la) (A:=A) (ms:=[]) (by simp) .nil (zero_le _) (Old.app _ _ _ _ d) e a;refine⟨K,yT (T:=[.lst []]++T) rfl ?_ (b K) (λl=>by simp),c⟩;show yN [.loc ↑0,.loc la] (S++[.lst []])=_;rw[h1,aA]
 .obtain⟨K,T,h1,c⟩:=OD g1 g2 h d e a;exact⟨K,yT (T:=T) rfl h1 (b K) (λl=>by simp),c⟩
theorem VU(f:α->Bool)(xs:List α)(S:Sto):Bq [.new (xs.map λx=>.bl (f x))] S=#[.bl (xs.any f),S,1]:=by
 have h: ∀xs:List α,rF (xs.map λx=>.bl (f x))=some (xs.map f):=by
  intro xs
  induction xs with
  |nil=>rfl
  |cons x xs ih=>rw[ê];unfold rF;rw[ih];rfl
 show(match (some _).bind rF with |some bs=>R.ok _ S|none=>.no)=_;rw[show(some _).bind rF=some _ from h xs];show R.ok _ S=_;rw[List.any_map];rfl
section
variable{ts:Tk}{rls:List Rule}{rs:List Row}
def cY(rls:List Rule)(rs:List Row)(some:Db):List Nat:=some.filter λi=>!rls.any λr=>BM r (xG rs i)
noncomputable abbrev U4(b m:MV)(x y:V0):Rho:=[some b,some m,x,y]
theorem Dh(c:↑25)(j:↑30)(z:↑4<=100)(e:rls.length<=100){a:Db}(hs: ∀i∈a,i<↑4)(u:a.Nodup)(C:a.length<=100)(S:Sto):
  ∃K,zH 2 IG [.val ↑3,#[a.map zA,6]] S=.ok #[K.map zA,6] S/\bF (eZ rls rs) (cY rls rs a) K:=by
 have e1:GK (U4 ↑3 (.tup (a.map zA)) none none) S=#[U4 ↑3 (.tup (a.map zA)) #[↑0] none,S++[.lst (rls.map qZ)],0]:=by unfold GK;simp? [VN c e]
 have m:(S++[MO.lst (rls.map qZ)])[↑0]? =#[rls.map qZ,2]:=by simp
 have d: ∀{i:Nat},i<↑4->zV (zY 0) EI uS [none,some (zA i),some ↑3] [(↑0,rls.map qZ)] (rls.map qZ) (S++[.lst (rls.map qZ)])=.ok (rls.map λr=>.bl (BM r (xG rs i))) (S++[.lst (rls.map qZ)]):=λ{i} hi=>
  xX (yQ m) λr D=>by obtain⟨F,h1,n,_⟩:=Gz (c r D) (j _ (eY hi)) (S++[.lst (rls.map qZ)]);refine⟨_,rfl,rfl,?_⟩;unfold uS;simp? [sH,tB hi,h1,n]
 have b:zV (zY 0) uT EK [none,some ↑3,#[↑0]] [] (a.map zA) (S++[.lst (rls.map qZ)])=.ok ((cY rls rs a).map zA) (S++[.lst (rls.map qZ)]):=xT (yP _) λi hi=>by refine⟨_,rfl,?_,rfl⟩;unfold uT;exists 7,yV m,show((rls.map qZ).length<1000000)=True from eq_true (by rw[lM];omega),d (hs i hi),VU
 have e2:GL (U4 ↑3 (.tup (a.map zA)) #[↑0] none) (S++[.lst (rls.map qZ)])=#[U4 ↑3 (.tup (a.map zA)) #[↑0] #[(S++[MO.lst (rls.map qZ)]).length],S++[.lst (rls.map qZ)]++[.lst ((cY rls rs a).map zA)],0]:=by unfold GL;exists 7,cC,show((a.map zA).length<1000000)=True from eq_true (by rw[lM];omega),b
 generalize h:S++[.lst (rls.map qZ)]++[.lst ((cY rls rs a).map zA)]=S2 at e2;have A:Old S S2:=by rw[<-h,aA];exact Old.app _ _
 have B:S2[(S++[MO.lst (rls.map qZ)]).length]? =#[(cY rls rs a).map zA,2]:=by rw[<-h];simp
 obtain⟨r,S3,s,k,q,p⟩:=Ru c j z e S2;obtain⟨K,o,v⟩:=zCE q p (k _ _ B) (u.sublist List.filter_sublist) (ì (ï _ _) C);obtain⟨T,w⟩:=(A.trans k).is;have y:GM (U4 ↑3 (.tup (a.map zA)) #[↑0] #[(S++[MO.lst (rls.map qZ)]).length]) S2=.ok (.ret #[K.map zA,6]) S3:=by unfold GM;exists 7,s,o
 refine⟨K,yT (T:=T) rfl ?_ (yO (sG K _)) (λl=>by simp),v⟩;show zP (UU (U4 ↑3 (.tup (a.map zA)) none none) S)=_;unfold UU;rw[zB e1,zB e2,y,w];rfl
theorem Hi{t:Nat×List Nat}:t∈eZ rls rs↔ ∃r∈rls, ∃i,i<↑4/\nT r (xG rs i) []=true/\t=(i,QJ rs r i):=by
 have f1: ∀{α β:Type}(g:α->List β)(l:List α)(b:List β),l.foldl (λb i=>b++g i) b=b++l.flatMap g:=by
  intro α β g l
  induction l with
  |nil=>intro b;simp
  |cons x l ih=>intro b;rw[ď,ih,flatMap_cons,aA]
 have e:eZ rls rs=rls.flatMap λr=>(List.range ↑4).flatMap (VT rs r):=by unfold eZ;rw[show(λ(b:List _) r=>(List.range ↑4).foldl (λb i=>b++VT rs r i) b)=λb r=>b++(List.range ↑4).flatMap _ from funext λb=>funext λr=>f1 _ _ _,f1];rfl
 rw[e,mem_flatMap];constructor
 .rintro⟨r,c,h⟩;obtain⟨i,hi,h⟩:=mem_flatMap.mp h;rw[ò]at hi;unfold VT at h;split at h
  .rename_i a;exact⟨r,c,i,hi,a,mS.mp h⟩
  .cases h
 .rintro⟨r,c,i,hi,a,rfl⟩;refine⟨r,c,mem_flatMap.mpr ⟨i,ò.mpr hi,?_⟩⟩;unfold VT;rw[iP a];exact mS.mpr rfl
def Rv(r:Rule)(a:Row):nT r a []=Gy r a:=by unfold nT;simp
def Hj{r:Rule}{i:Nat}(h:Gy r (xG rs i)=true):j∈QJ rs r i↔j<↑4/\J5 r (xG rs i) (xG rs j)=true:=by unfold QJ nT;rw[å,h];simp
def Rw{a:Db}(n: ∀i∈a,i<↑4):Zt rls rs a=false↔(∀i∈a,(rls.any λr=>BM r (xG rs i))=false)/\ ∀t∈eZ rls rs,t.1∈a-> ∃j∈t.2,j∈a:=by
 unfold Zt;rw[ý];constructor
 .intro h;have h': ∀i∈a, ∀r∈rls,BM r _=false/\nT r _ _=false:=λi hi r b=>by have:=h i hi;rw[Ę,ý]at this;have:=this r b;rw[Ę,Bool.or_eq_false_iff]at this;exact this
  refine⟨λi hi=>ý.mpr λr b=>by rw[(h' i hi r b).1];exact xF0,λt p e=>?_⟩;obtain⟨r,b,i,hi,c,rfl⟩:=Hi.mp p;rw[Rv]at c;have m:=(h' i e r b).2;unfold nT at m;rw[c,Ĥ,Bool.not_eq_false',List.any_map,ü]at m;obtain⟨j,d,hs⟩:=m;exact⟨j,(Hj c).mpr ⟨n j d,hs⟩,d⟩
 .rintro⟨h1,o⟩ i hi;rw[Ę,ý];intro r b;rw[Ę,Bool.or_eq_false_iff];refine⟨by have:=ý.mp (h1 i hi) r b;rwa [Ę]at this,?_⟩;unfold nT
  cases c:Gy r _ with
  |false=>rfl
  |true=>
   rw[Ĥ,Bool.not_eq_false',List.any_map,ü];obtain⟨j,d,k⟩:=o _ (Hi.mpr ⟨r,b,i,n i hi,by rw[Rv];exact c,rfl⟩) hi;exact⟨j,k,((Hj c).mp d).2⟩
end
def zHD(f:Nat->Nat->Bool)(R:Db):Prop:= ∀i∈R, ∀j∈R,f i j=false
noncomputable def vQ(f:Nat->Nat->Bool)(R kn:Db):Bool:=kn.all λi=>decide (i∈R) || R.any λj=>f i j
noncomputable def vX(l:Ch)(x:Db):List (List Nat):=if x∈l then l else l++[x]
noncomputable def bG(f:Nat->Nat->Bool)(n:Nat)(R:Db):List Nat:=R.filter λi=>!f n i
def ZX(f:Nat->Nat->Bool)(kn:Db)(n:Nat)(b:Ch)(R:Db):List (List Nat):=
 let a:=if bG f n R≠R then vX b R else b
 if vQ f (bG f n R++[n]) (kn++[n])=true then vX a (bG f n R++[n])else a
def grow(f:Nat->Nat->Bool)(kn:Db)(n:Nat)(told:Ch):List (List Nat):=told.foldl (ZX f kn n) []
def tY{l:Ch}{x y:Db}:y∈vX l x↔y∈l\/y=x:=by
 unfold vX;split
 .rename_i h;exact⟨.inl,λz=>z.elim id λz=>z▸h⟩
 .rw[æ,mS]
theorem tZ(l:Ch)(x:Db):(vX l x).length<=l.length+1:=by
 unfold vX;split
 .lia
 .rw[lA];simp
theorem Zw{kn:Db}{n:Nat}{a:Ch}{R y:Db}:y∈ZX f kn n a R↔y∈a\/(bG f n R≠R/\y=R)\/(vQ f (bG f n R++[n]) (kn++[n])=true/\y=bG f n R++[n]):=by
 unfold ZX;by_cases h1:bG f n R≠R<;>by_cases b:vQ f (bG f n R++[n]) (kn++[n])=true
 .rw[iP h1,iP b,tY,tY];grind
 .rw[iP h1,iN b,tY];grind
 .rw[iP b,tY];grind
 .rw[iN b];grind
theorem ZY{f:Nat->Nat->Bool}{kn:Db}{n:Nat}{y:Db}: ∀{told a:Ch},y∈told.foldl (ZX f kn n) a↔y∈a\/ ∃R∈told,(bG f n R≠R/\y=R)\/(vQ f (bG f n R++[n]) (kn++[n])=true/\y=bG f n R++[n])
 |[],a=>by simp
 |R::told,a=>by
  rw[ď,ZY,Zw]
  grind
theorem OE{f:Nat->Nat->Bool}{kn:Db}{n:Nat}: ∀(told a:Ch),(told.foldl (ZX f kn n) a).length<=a.length+2 * told.length
 |[],a=>by simp
 |R::told,a=>by
  rw[ď];have h:=OE (f:=f) (kn:=kn) (n:=n) told (ZX f kn n a R);have c:(ZX f kn n a R).length<=a.length+2:=by unfold ZX;have d:=tZ a R;have b:=tZ (if bG f n R≠R then vX a R else a) (bG f n R++[n]);split<;>split at b<;>grind
  rw[lC]
  lia
def cZ{R kn:Db}:vQ f R kn=true↔ ∀i∈kn,i∈R\/ ∃j∈R,f i j=true:=by unfold vQ;simp[ü]
theorem Di{f:Nat->Nat->Bool}(a: ∀i,f i i=false)(b: ∀i j,f i j=f j i): ∀(m P:Db),zHD f P-> ∃Q,(∀i∈P,i∈Q)/\(∀i∈Q,i∈P\/i∈m)/\zHD f Q/\vQ f Q m=true
 |[],P,h=>⟨P,λ_ h=>h,λ_ h=>.inl h,h,rfl⟩
 |k::m,P,h=>by
  by_cases c: ∃j∈P,f k j=true
  .obtain⟨Q,d,o,q,p⟩:=Di a b m P h;refine⟨Q,d,λi hi=>(o i hi).imp id λz=>.tail _ z,q,cZ.mpr λi hi=>?_⟩;rcases mC.mp hi with rfl|hi
   .obtain⟨j,n,e⟩:=c;exact .inr ⟨j,d j n,e⟩
   .exact cZ.mp p i hi
  .have r: ∀j∈P,f k j=false:=λj n=>by
    cases e:f k j with
    |false=>rfl
    |true=>exact absurd ⟨j,n,e⟩ c
   obtain⟨Q,d,o,q,p⟩:=Di a b m (k::P) (λi hi j n=>by
    rcases mC.mp hi with e1|h1<;>rcases mC.mp n with e2|h2
    .rw[e1,e2];exact a _
    .rw[e1];exact r j h2
    .rw[e2,b];exact r i h1
    .exact h i h1 j h2)
   refine⟨Q,λi hi=>d i (.tail _ hi),λi hi=>?_,q,cZ.mpr λi hi=>?_⟩
   .rcases o i hi with z|z
    .rcases mC.mp z with rfl|z
     .exact .inr (.head _)
     .exact .inl z
    .exact .inr (.tail _ z)
   .rcases mC.mp hi with rfl|hi
    .exact .inl (d _ (.head _))
    .exact cZ.mp p i hi
structure Pc(f:Nat->Nat->Bool)(kn:Db)(told:Ch):Prop where
 sub: ∀R∈told,R.Sublist kn
 ind: ∀R∈told,zHD f R
 full: ∀R∈told,vQ f R kn=true
 cov: ∀P:List Nat,(∀i∈P,i∈kn)->zHD f P-> ∃R∈told, ∀i∈P,i∈R
def zCF(f:Nat->Nat->Bool):Pc f [] [[]] where
 sub:=λR h=>by rw[mS.mp h];exact .refl _
 ind:=λR h=>by rw[mS.mp h];exact λi hi=>by cases hi
 full:=λR h=>rfl
 cov:=λP h _=>⟨[],.head _,λi hi=>h i hi⟩
def Zx(o: ∀i,f i i=false)(p: ∀i j,f i j=f j i){kn:Db}(h:Pc f kn told)(n:Nat):Pc f (kn++[n]) (grow f kn n told):=by
 have q: ∀R:List Nat,(bG f n R).Sublist R:=λR=>List.filter_sublist;have a: ∀(R:Db)(i:Nat),i∈bG f n R↔i∈R/\f n i=false:=λR i=>by unfold bG;rw[å,ą]
 have r: ∀y,y∈grow f kn n told↔ ∃R∈told,(bG f n R≠R/\y=R)\/(vQ f (bG f n R++[n]) (kn++[n])=true/\y=bG f n R++[n]):=λy=>by unfold grow;rw[ZY];simp
 have k: ∀R∈told,zHD f _:=λR d i hi j b=>by
  rcases æ.mp hi with hi|hi<;>rcases æ.mp b with b|b
  .exact h.ind R d i ((a R i).mp hi).1 j ((a R j).mp b).1
  .rw[mS.mp b,p];exact((a R i).mp hi).2
  .rw[mS.mp hi];exact((a R j).mp b).2
  .rw[mS.mp hi,mS.mp b];exact o n
 refine⟨λy m=>?_,λy m=>?_,λy m=>?_,λP F D=>?_⟩
 .obtain⟨R,d,⟨_,rfl⟩|⟨_,rfl⟩⟩:=(r y).mp m
  .exact(h.sub _ d).trans (List.sublist_append_left _ _)
  .exact((q R).trans (h.sub R d)).append (.refl _)
 .obtain⟨R,d,⟨_,rfl⟩|⟨_,rfl⟩⟩:=(r y).mp m
  .exact h.ind _ d
  .exact k R d
 .obtain⟨R,d,⟨c,rfl⟩|⟨c,rfl⟩⟩:=(r y).mp m
  .refine cZ.mpr λi hi=>?_;rcases æ.mp hi with hi|hi
   .exact cZ.mp (h.full _ d) i hi
   .rw[mS.mp hi]
    have: ∃j∈y,f n j=true:=by
     refine ċ λz=>c (filter_eq_self.mpr λj b=>?_)
     cases e:f n j with
     |false=>rfl
     |true=>exact absurd ⟨j,b,e⟩ z
    exact .inr this
  .exact c
 .obtain⟨Q,w,C,v,A⟩:=Di o p _ P D;have B: ∀i∈Q,i∈kn++[n]:=λi hi=>(C i hi).elim (F i) id;by_cases u:n∈Q
  .obtain⟨R,d,hs⟩:=h.cov _ (λi hi=>ó (å.mp hi).2) λi hi j b=>v i (å.mp hi).1 j (å.mp b).1
   have qs: ∀i∈Q,i∈bG f n R++[n]:=λi hi=>by
    by_cases e:i=n
    .rw[e];simp
    .have s:i∈kn:=by
      rcases æ.mp (B i hi)with z|z
      .exact z
      .exact absurd (mS.mp z) e
     exact Ď _ ((a R i).mpr ⟨hs i (å.mpr ⟨hi,dT0 s⟩),v n u i hi⟩)
   refine⟨_,(r _).mpr ⟨R,d,.inr ⟨cZ.mpr λi hi=>?_,rfl⟩⟩,λi hi=>qs i (w i hi)⟩;exact(cZ.mp A i hi).imp (qs i) λ⟨j,b,e⟩=>⟨j,qs j b,e⟩
  .have s: ∀i∈Q,i∈kn:=λi hi=>by
    rcases æ.mp (B i hi)with z|z
    .exact z
    .rw[mS.mp z]at hi;exact absurd hi u
   obtain⟨R,d,hs⟩:=h.cov Q s v;have E: ∃j∈Q,f n j=true:=(cZ.mp A n (by simp)).resolve_left u;refine⟨R,(r R).mpr ⟨R,d,.inl ⟨λz=>?_,rfl⟩⟩,λi hi=>hs i (w i hi)⟩;obtain⟨j,b,e⟩:=E;have:=hs j b;rw[<-z,a,e]at this;exact absurd this.2 ↑7
noncomputable def IW(o b:Nat):Bool:=decide (o &&& b=b)
def Mc(g:Nat->Bool):Nat->List Nat->List Nat
 |0,fd=>fd
 |t+1,fd=>Mc g t (if fd.any (λo=>IW o t)=true then fd else if g t=true then fd.filter (λo=>!IW t o)++[t]else fd)
theorem OG{o b:Nat}:IW o b=true↔ ∀i,b.testBit i=true->o.testBit i=true:=by
 unfold IW;rw[ë];constructor
 .intro h i a;rw[<-h,Nat.testBit_and,aE]at a;exact a.1
 .intro h;refine Nat.eq_of_testBit_eq λi=>?_;rw[Nat.testBit_and]
  cases e:b.testBit i with
  |false=>rw[Bool.and_false]
  |true=>rw[h i e];rfl
def J7{o b:Nat}(h:IW o b=true):b<=o:=by rw[<-ó h];exact Nat.and_le_left
def Rx{a b c:Nat}(h:IW a b=true)(k:IW b c=true):IW a c=true:=OG.mpr λi z=>OG.mp h i (OG.mp k i z)
def Zy(a:Nat):IW a a=true:=OG.mpr λ_ z=>z
structure Gr(g:Nat->Bool)(N t:Nat)(fd:Db):Prop where
 ok: ∀o∈fd,t<=o/\o<N/\g o=true
 mx: ∀o∈fd, ∀x,x<N->g x=true->IW x o=true->x=o
 cov: ∀b,t<=b->b<N->g b=true-> ∃o∈fd,IW o b=true
 nd:fd.Nodup
theorem VV{g:Nat->Bool}{N:Nat}: ∀{t:Nat}{fd:Db},t<=N->Gr g N t fd->Gr g N 0 (Mc g t fd)
 |0,fd,_,h=>h
 |t+1,fd,ht,h=>by
  unfold Mc;by_cases c:fd.any (λo=>IW o t)=true
  .rw[iP c];refine VV (le_of_succ_le ht) ⟨λo d=>⟨le_of_succ_le (h.ok o d).1,(h.ok o d).2⟩,h.mx,λb n m i=>?_,h.nd⟩;by_cases e:b=t
   .rw[e];obtain⟨o,d,k⟩:=ü.mp c;exact⟨o,d,k⟩
   .exact h.cov b #[] m i
  .rw[iN c];by_cases j:g t=true
   .rw[iP j]
    have u:fd.filter (λo=>!IW t o)=fd:=filter_eq_self.mpr λo d=>by
     cases e:IW t o with
     |false=>rfl
     |true=>have:=J7 e;have:=(h.ok o d).1;lia
    rw[u];have v:=λo d z=>c (ü.mpr ⟨o,d,z⟩);refine VV (le_of_succ_le ht) ⟨λo d=>?_,λo d x r i k=>?_,λb n m i=>?_,ģ.mpr ⟨h.nd,by simp,λa s b n z=>?_⟩⟩
    .rcases æ.mp d with d|d
     .exact⟨le_of_succ_le (h.ok o d).1,(h.ok o d).2⟩
     .rw[mS.mp d];exact⟨à _,ht,j⟩
    .rcases æ.mp d with d|d
     .exact h.mx o d x r i k
     .rw[mS.mp d]at k ⊢;have h1:=J7 k;by_cases e:x=t
      .exact e
      .obtain⟨o',q,p⟩:=h.cov x #[] r i;exact absurd (Rx p k) (v o' q)
    .by_cases e:b=t
     .exact⟨t,by simp,e▸Zy t⟩
     .obtain⟨o,d,k⟩:=h.cov b #[] m i;exact⟨o,Ď _ d,k⟩
    .rw[mS.mp n]at z;have:=(h.ok a s).1
     lia
   .rw[iN j];refine VV (le_of_succ_le ht) ⟨λo d=>⟨le_of_succ_le (h.ok o d).1,(h.ok o d).2⟩,h.mx,λb n m i=>?_,h.nd⟩;by_cases e:b=t
    .rw[e]at i;exact absurd i j
    .exact h.cov b #[] m i
theorem zHE(g:Nat->Bool)(N:Nat):Gr g N 0 (Mc g N []):=VV (à _) ⟨λo h=>(nomatch h),λo h=>(nomatch h),λb h1 a=>by lia,nodup_nil⟩
noncomputable def xV(m b:Nat):List Nat:=(List.range m).filter λi=>b.testBit i
def rB{m b i:Nat}:i∈xV m b↔i<m/\b.testBit i=true:=by unfold xV;rw[å,ò]
noncomputable def OH(p:Nat->Bool):Nat->Nat
 |0=>0
 |m+1=>if p m=true then 2 ^ m+OH p m else OH p m
theorem VW(p:Nat->Bool): ∀m,OH p m<2 ^ m
 |0=>Nat.one_pos
 |m+1=>by have:=VW p m;unfold OH;split<;>omega
theorem LL(p:Nat->Bool): ∀m i,(OH p m).testBit i=(decide (i<m)&&p i)
 |0,i=>by simp[OH]
 |m+1,i=>by
  have a:=VW p m;unfold OH;by_cases c:p m=true
  .rw[iP c];by_cases e:i=m
   .rw[e,Nat.testBit_two_pow_add_eq,ł a,c];simp
   .by_cases l:i<m
    .rw[Nat.testBit_two_pow_add_gt l,LL p m i,dT0 l,dT0 #[]]
    .rw[ł (é (show 2 ^ m+OH p m<2 ^ (m+1) by rw[Nat.pow_succ];lia) (pow_le_pow_right ↑7 #[])),dF0 #[]];rfl
  .rw[iN c,LL p m i];by_cases e:i=m
   .rw[e,(Ę _▸c:p m=false),Bool.and_false,Bool.and_false]
   .congr 1;exact ġ.mpr #[]
def Ry{m:Nat}(p:Nat->Bool):xV m (OH p m)=(List.range m).filter p:=by refine filter_congr λi hi=>?_;rw[LL,dT0 (ò.mp hi),Ĥ]
theorem Rz{m a b:Nat}(c:a<2 ^ m)(d:b<2 ^ m)(h: ∀i,i∈xV m a↔i∈xV m b):a=b:=by
 refine Nat.eq_of_testBit_eq λi=>?_;by_cases l:i<m
 .have:=h i;rw[rB,rB]at this;rw[Ā];exact⟨λz=>(this.mp ⟨l,z⟩).2,λz=>(this.mpr ⟨l,z⟩).2⟩
 .have:=pow_le_pow_right (show 0<2 by decide) (show m<=i by lia);rw[ł #[],ł #[]]
theorem Hk{m o b:Nat}(a:b<2 ^ m):IW o b=true↔ ∀i∈xV m b,i∈xV m o:=by
 rw[OG];constructor
 .intro h i hi;rw[rB]at hi ⊢;exact⟨hi.1,h i hi.2⟩
 .intro h i hi;have l:i<m:=by refine ċ λz=>?_;have:=pow_le_pow_right (show 0<2 by decide) (show m<=i by lia);rw[ł #[]]at hi;cases hi
  exact(rB.mp (h i (rB.mpr ⟨l,hi⟩))).2
def Dj(m:Nat)(K:Db):Prop:=K=(List.range m).filter λi=>decide (i∈K)
def OJ(m b:Nat):Dj m (xV m b):=by refine filter_congr λi hi=>?_;rw[Ā,ë,rB];exact⟨λz=>⟨ò.mp hi,z⟩,λz=>z.2⟩
def Zz{m:Nat}{A B:Db}(a:Dj m A)(b:Dj m B)(h: ∀i,i∈A↔i∈B):A=B:=by rw[a,b];refine filter_congr λi _=>ġ.mpr (h i)
def Sa{m:Nat}{A:Db}(h:Dj m A):A.Nodup:=by rw[h];exact nodup_range.filter _
def Hl{m:Nat}{K:Db}(h:Dj m K):xV m (OH (λi=>decide (i∈K)) m)=K:=(Ry _).trans h.symm
noncomputable def EV(O K:Db):Bool:=decide (K.length<O.length)&&K.all λi=>decide (i∈O)
def VX{O K:Db}:EV O K=true↔K.length<O.length/\ ∀i∈K,i∈O:=by unfold EV;simp
def VY{m:Nat}{k:List Nat->Bool}{fd:Db}(G:Gr (λb=>k (xV m b)) (2 ^ m) 0 fd)(n: ∀K∈Ks,Dj m K)(p: ∀K∈Ks,k K=true)
  (hcov: ∀P,Dj m P->k P=true-> ∃K∈Ks, ∀i∈P,i∈K) (K:Db):(K∈Ks/\Ks.any (λO=>EV O K)=false)↔ ∃b∈fd,xV m b=K:=by
 have h: ∀K,Dj m K->k K=true-> ∃b,b<2 ^ m/\k (xV m b)=true/\xV m b=K:=λK d p=>⟨_,VW _ m,by rw[Hl d];exact p,Hl d⟩
 constructor
 .rintro⟨d,M⟩;obtain⟨b,e,N,H⟩:=h K (n K d) (p K d);obtain⟨o,E,A⟩:=G.cov b (zero_le _) e N;obtain⟨_,J,r⟩:=G.ok o E;obtain⟨u,a,hs⟩:=hcov _ (OJ m o) r;have s:=λi hi=>(Hk e).mp A i (H▸hi);have L:=λz=>by have:=ý.mp M u a;exact this (VX.mpr ⟨z,λi hi=>hs i (s i hi)⟩)
  refine⟨o,E,Zz (OJ m o) (n K d) λi=>⟨λhi=>?_,s i⟩⟩;refine ċ λz=>L ?_
  have:=(nodup_cons.mpr ⟨z,Sa (n K d)⟩).length_le_of_subset λj y=>by
   rcases mC.mp y with rfl|y
   .exact hs _ hi
   .exact hs _ (s _ y)
  exact this
 .rintro⟨b,e,rfl⟩;obtain⟨_,B,w⟩:=G.ok b e;have C: ∀O∈Ks,_->O=xV m b:=λO q hs=>by obtain⟨c,v,I,D⟩:=h O (n O q) (p O q);have:=G.mx b e c v I ((Hk B).mpr (by rw[D];exact hs));rw[<-D,this]
  obtain⟨u,a,hs⟩:=hcov _ (OJ m b) w;refine⟨C u a hs▸a,ý.mpr λO q z=>?_⟩;obtain⟨h1,F⟩:=VX.mp z;rw[C O q F]at h1;exact ĕ _ h1
def QK{m:Nat}{d:List Nat->Bool}{fd:Db}(G:Gr (λb=>d (xV m b)) (2 ^ m) 0 fd)(h: ∀K∈Ks,Dj m K)(k: ∀K∈Ks,d K=true)
  (hcov: ∀P,Dj m P->d P=true-> ∃K∈Ks, ∀i∈P,i∈K) (nd:Ks.Nodup):(Ks.filter λK=>!Ks.any λO=>EV O K).Perm (fd.map (xV m)):=by
 have n:(fd.map (xV m)).Nodup:=by refine Ġ.mpr (ķ (λ{a b} j o c e=>c ?_) G.nd);exact Rz (G.ok a j).2.1 (G.ok b o).2.1 λi=>by rw[e]
 have p: ∀K,K∈(Ks.filter λK=>!Ks.any λO=>EV O K)↔K∈fd.map _:=λK=>by rw[å,ą,VY G h k hcov K,mM]
 exact(ĭ (nd.filter _) n).mpr p
def yS{F G:AY}{ρ':Rho}{r:R Fl}(h:F ρ S=#[ρ',S',0])(k:G ρ' S'=r):zI F G ρ S=r:=(zB h).trans k
theorem EW{X:R Fl}{r:Er}(h:X=.ok (.ret r) S):zP X=.ok r S:=by rw[h];rfl
def sI{A K:Db}(h:bF tk A K):(∀i∈K,i∈A)/\ ∀t∈tk,t.1∈K-> ∃j∈t.2,j∈K:=by obtain⟨⟨p,e⟩,b,_⟩:=h;refine⟨λi hi=>by rw[e]at hi;exact(å.mp hi).1,λt k c=>?_⟩;refine ċ λz=>?_;have:=Dg.mpr ⟨c,t.2,k,λj d a=>z ⟨j,d,a⟩⟩;rw[b]at this;cases this
def IX{A K a:Db}(h:bF tk A K)(h':bF tk A a):K=a:=by
 have c: ∀i,i∈K↔i∈a:=λi=>⟨h'.2.2 (λi=>i∈K) (sI h).1 (sI h).2 i,h.2.2 (λi=>i∈a) (sI h').1 (sI h').2 i⟩
 obtain⟨⟨p,e⟩,_⟩:=h;obtain⟨⟨d,b⟩,_⟩:=h';rw[e,b];refine filter_congr λi hi=>?_;have:=c i;rw[e,b,å,å]at this;rw[Ā];exact⟨λz=>(this.mp ⟨hi,z⟩).2,λz=>(this.mpr ⟨hi,z⟩).2⟩
section
variable{ts:Tk}{rls:List Rule}{rs:List Row}
theorem Sb(a:↑4<=100)(S:Sto):zH 1 fI [.val ↑3] S=.ok #[(List.range ↑4).map zA,6] S:=by refine yT (T:=[]) rfl ?_ (yO (sG _ _)) (λl=>by simp);show zP (uP [some _] S)=_;unfold uP uO;simp? [sH,vG,lM];unfold YJ;dsimp only;rw[iP #[],aN];unfold Xq;rw[û];rfl
def J8(ts:Tk)(rls:List Rule)(rs:List Row)(p:Nat×Nat):Bool:=!(QI ts rls rs p.1 p.2).isEmpty
theorem Lq(a:↑25)(s:↑30)(j:↑4<=100)(c:rls.length<=100)(k:bF (eZ rls rs) (cY rls rs (List.range ↑4)) Hd)(S:Sto):
  zH 1 CO [.val ↑3] S=#[((jG Hd).filter (J8 ts rls rs)).map VO,S,2]:=by
 have b: ∀i∈Hd,i<rs.length:=λi hi=>ò.mp (å.mp ((sI k).1 i hi)).1;have m:Hd.Nodup:=by obtain⟨⟨p,e⟩,_⟩:=k;rw[e];exact(nodup_range.filter _).filter _
 have h:Hd.length<=100:=ì (m.length_le_of_subset λi hi=>ò.mpr (b i hi)) (by rw[è];exact j);refine aK (T:=[.lst (rls.map qZ)]) rfl ?_ (yD λd y=>?_)
 .show zP (CN [some ↑3,none] S)=_;unfold CN;refine EW (yS (ρ':=[some ↑3,#[↑0]]) (S':=S++[.lst (rls.map qZ)]) ?_ ?_)
  .unfold AW;simp? [VN a c]
  .have A:(S++[MO.lst (rls.map qZ)])[↑0]? =#[rls.map qZ,2]:=by simp
   obtain⟨K,n,z⟩:=Dh a s j c (λi hi=>ò.mp hi) nodup_range (by rw[è];exact j) (S++[.lst (rls.map qZ)]);rw[IX z k]at n
   have u:zV (HM 2 (zR (zY 0) (zR (zY 1) gA))) iA iB [none,none,some ↑3,#[↑0]] [] _ (S++[.lst (rls.map qZ)])=.ok (((jG Hd).filter (J8 ts rls rs)).map VO) _:=xT (yP _) λp w=>by
    have q:=SK w;refine⟨_,rfl,?_,?_⟩
    .unfold iA;simp? [zHA a s c (b _ q.1) (b _ q.2) A];unfold J8;cases QI ts rls rs p.1 p.2<;>rfl
    .unfold iB;exists 7,rfl
   have v:=pairs_len Hd;have B:Hd.length * Hd.length<=100 * 100:=mul_le_mul h h;unfold BA;simp? [Sb j,n,Zq (show Hd.length<=200 by lia)];rw[show AA _ _=.ok ⟨_,[]⟩ _ from rfl,xQ];dsimp only;rw[iP (by rw[lM];lia),show AB 2 [0,1] [some ↑3,some (MV.loc ↑0)]=[none,none,some ↑3,#[↑0]]from rfl,u];rfl
 .obtain⟨p,_,rfl⟩:=mM.mp y;exact yO (yD λe o=>by simp only[mC,nM,or_false]at o;rcases o with rfl|rfl<;>exact xD _ _)
end
abbrev VZ(F:↑11):List (MV×MV):=F.map λx=>(zA x.1,MV.loc x.2.1)
def zCG(F:↑11)(a b:Nat):Prop:= ∃x∈F,x.1=a/\b∈x.2.2
structure FoeAt(S0:Sto)(l:Nat)(F:List (Nat×Nat×List Nat))(S:Sto):Prop where
 dic:S[l]? =#[VZ F,7]
 pl: ∀x∈F,S[x.2.1]? =#[x.2.2.map zA,2]
 pn:F.Pairwise λx y=>x.2.1≠y.2.1
 kn:F.Pairwise λx y=>x.1≠y.1
 lo:S0.length<=l/\ ∀x∈F,S0.length<=x.2.1
 old:Old S0 S
theorem Hm{β:Type}{g:β->Nat}: ∀{F:List β},F.Pairwise (λx y=>g x≠g y)-> ∀x∈F, ∀y∈F,g x=g y->x=y
 |[],_,x,hx,_,_,_=>by cases hx
 |a::F,h,x,hx,y,hy,e=>by
  obtain⟨h1,b⟩:=pairwise_cons.mp h;rcases mC.mp hx with e1|hx'<;>rcases mC.mp hy with e2|hy'
  .rw[e1,e2]
  .rw[e1]at e;exact absurd e (h1 y hy')
  .rw[e2]at e;exact absurd e.symm (h1 x hx')
  .exact Hm b x hx' y hy' e
theorem zCH(F:↑11):(VZ F).all (λp=>DA p.1)=true:=by rw[ø];intro p a;obtain⟨x,_,rfl⟩:=mM.mp a;rfl
def EX{l:Nat}{F:↑11}(h:S[l]? =#[VZ F,7]):EF S #[l,1]=some (l,VZ F):=by unfold EF;dsimp only;rw[h];exact iP (zCH F)
def SO{F:↑11}(kn:F.Pairwise λx y=>x.1≠y.1){x:Nat×Nat×List Nat}(a:x∈F):look (VZ F) (zA x.1)=#[x.2.1]:=by
 induction F with
 |nil=>cases a
 |cons y F ih=>
  obtain⟨h1,b⟩:=pairwise_cons.mp kn;unfold look at ih ⊢;rw[show VZ _=_::VZ F from rfl,find?_cons];rcases mC.mp a with rfl|a
  .rw[dT0 rfl];rfl
  .rw[dF0 λz=>h1 x a (CV z)];exact ih b a
def IY{F:↑11}{i:Nat}(h: ∀x∈F,x.1≠i):look (VZ F) (zA i)=none:=by
 unfold look;rw[List.find?_eq_none.mpr]
 .rfl
 .intro p b;obtain⟨x,a,rfl⟩:=mM.mp b;rw[ë];exact λz=>h x a (CV z)
theorem Hn{l:Nat}{F:↑11}(h:FoeAt S0 l F S)(L:F.length<1000)(K: ∀x∈F,x.2.2.length<1000)(i j:Nat):
  ∃p S1 S2 u ds,Ck #[l,1] [.val (zA i),.new []] S=.ok #[p,1] S1/\S1[p]? =#[ds,2]/\FR #[p,1] [.val (zA j)] S1=#[.non,S2,1]/\FoeAt S0 l u S2/\(∀a b,zCG u a b↔zCG F a b\/(a=i/\b=j))/\
   u.length<=F.length+1/\(∀x∈u,x.2.2≠[]\/x∈F)/\ ∀x∈u,x.2.2.length<=1\/ ∃y∈F,x.2.2.length<=y.2.2.length+1:=by
 have o:Old S (S++[.lst []]):=Old.app _ _;have C:EF (S++[.lst []]) #[l,1]=some (l,VZ F):=EX (o _ _ h.dic);have v:DA (zA i)=true/\(VZ F).length<1000000:=⟨rfl,by rw[lM];lia⟩
 by_cases c: ∃x∈F,x.1=i
 .obtain⟨x,n,rfl⟩:=c;have B:(S++[MO.lst []])[x.2.1]? =#[x.2.2.map zA,2]:=o _ _ (h.pl x n);have J:x.2.1≠l:=λz=>by have:=h.pl x n;rw[z,h.dic]at this;cases this
  have H:=K x n;refine⟨x.2.1,_,_,F.map λy=>if y.1=x.1 then(y.1,y.2.1,y.2.2++[j])else y,_,?_,B,mH B (by rw[lM];lia),?_,?_,by rw[lM];lia,?_,?_⟩
  .unfold Ck wI;dsimp only;rw[xQ];unfold Kw;rw[C];dsimp only;rw[iP v,SO h.kn n]
  .have I: ∀y∈F,y.1=x.1->y=x:=λy d e=>Hm h.kn y d x n e;have G: ∀y∈F,y.2.1=x.2.1->y=x:=λy d e=>Hm h.pn y d x n e;have r: ∀y:Nat×Nat×List Nat,(if y.1=x.1 then(y.1,y.2.1,y.2.2++[j])else y).1=y.1/\(if y.1=x.1 then(y.1,y.2.1,y.2.2++[j])else y).2.1=y.2.1:=λy=>by split<;>exact⟨rfl,rfl⟩
   refine⟨?_,λy d=>?_,?_,?_,⟨h.lo.1,λy d=>?_⟩,?_⟩
   .rw[í J,o _ _ h.dic];unfold VZ;rw[û];congr 2;exact List.map_congr_left λy _=>by show _=(zA _,MV.loc _);rw[(r y).1,(r y).2]
   .obtain⟨z,m,rfl⟩:=mM.mp d;by_cases e:z.1=x.1
    .rw[iP e];cases I z m e;show _[x.2.1]? =_;rw[ô (gS.mp B).1,Ć];rfl
    .rw[iN e,í λq=>e (by rw[G z m q.symm])];exact o _ _ (h.pl z m)
   .exact Ġ.mpr (h.pn.imp λ{a b} q=>by rw[(r a).2,(r b).2];exact q)
   .exact Ġ.mpr (h.kn.imp λ{a b} q=>by rw[(r a).1,(r b).1];exact q)
   .obtain⟨z,m,rfl⟩:=mM.mp d;rw[(r z).2];exact h.lo.2 z m
   .exact(h.old.trans o).set (h.lo.2 x n) _
  .intro a b;constructor
   .rintro⟨y,d,rfl,k⟩;obtain⟨z,m,rfl⟩:=mM.mp d;by_cases e:z.1=x.1
    .rw[iP e]at k ⊢;rcases æ.mp k with k|k
     .exact .inl ⟨z,m,rfl,k⟩
     .exact .inr ⟨e,mS.mp k⟩
    .rw[iN e]at k ⊢;exact .inl ⟨z,m,rfl,k⟩
   .rintro(⟨z,m,rfl,k⟩|⟨rfl,rfl⟩)
    .refine⟨_,mM.mpr ⟨z,m,rfl⟩,?_,?_⟩
     .split<;>rfl
     .split
      .exact Ď _ k
      .exact k
    .refine⟨_,mM.mpr ⟨x,n,rfl⟩,?_,?_⟩
     .rw[iP rfl]
     .rw[iP rfl];exact õ _ (.head _)
  .intro y d;obtain⟨z,m,rfl⟩:=mM.mp d;split
   .exact .inl (by simp)
   .exact .inr m
  .intro y d;obtain⟨z,m,rfl⟩:=mM.mp d;refine .inr ⟨z,m,?_⟩;split
   .rw[lA];simp
   .lia
 .have A: ∀x∈F,x.1≠i:=λx n e=>c ⟨x,n,e⟩;have M:l<S.length:=(gS.mp h.dic).1;have E: ∀x∈F,x.2.1<S.length:=λx n=>(gS.mp (h.pl x n)).1;have s:S0.length<=S.length:=CW h.old;have D:((S++[MO.lst []]).set l (.dic (VZ F++[(zA i,.loc ↑0)])))[↑0]? =#[[],2]:=by rw[í #[]];simp
  refine⟨_,_,_,F++[(i,↑0,[j])],[],?_,D,mH D ↑7,?_,?_,by rw[lA];simp,?_,?_⟩
  .unfold Ck wI;dsimp only;rw[xQ];unfold Kw;rw[C];dsimp only;rw[iP v,IY A];unfold putK;rw[IY A];rfl
  .refine⟨?_,λy d=>?_,?_,?_,⟨h.lo.1,λy d=>?_⟩,?_⟩
   .rw[í #[],ô (by rw[lA];simp;lia)];unfold VZ;rw[Ć];rfl
   .rcases æ.mp d with d|d
    .have:=E y d;rw[í #[],í λz=>by have:=h.pl y d;rw[<-z,h.dic]at this;cases this];exact o _ _ (h.pl y d)
    .rw[mS.mp d];show(List.set _ ↑0 _)[↑0]? =_;rw[ô (by rw[ù,lA];simp)];rfl
   .exact List.pairwise_append.mpr ⟨h.pn,pairwise_singleton _ _,λa w b k=>by rw[mS.mp k];have:=E a w;show a.2.1≠↑0;lia⟩
   .exact List.pairwise_append.mpr ⟨h.kn,pairwise_singleton _ _,λa w b k=>by rw[mS.mp k];exact A a w⟩
   .rcases æ.mp d with d|d
    .exact h.lo.2 y d
    .rw[mS.mp d];exact s
   .exact((h.old.trans o).set h.lo.1 _).set s _
  .intro a b;unfold zCG;constructor
   .rintro⟨y,d,rfl,k⟩;rcases æ.mp d with d|d
    .exact .inl ⟨y,d,rfl,k⟩
    .rw[mS.mp d]at k ⊢;exact .inr ⟨rfl,mS.mp k⟩
   .rintro(⟨y,d,rfl,k⟩|⟨rfl,rfl⟩)
    .exact⟨y,Ď _ d,rfl,k⟩
    .exact⟨_,õ _ (.head _),rfl,.head _⟩
  .intro y d;rcases æ.mp d with d|d
   .exact .inr d
   .rw[mS.mp d];exact .inl (by simp)
  .intro y d;rcases æ.mp d with d|d
   .exact .inr ⟨y,d,by lia⟩
   .rw[mS.mp d];exact .inl (à _)
section
variable{ts:Tk}{rls:List Rule}{rs:List Row}
noncomputable abbrev zCI(b:MV)(l:Nat)(x y:V0):Rho:=[some b,#[l],x,y]
structure FoI(S0:Sto)(k:Nat)(done:List (Nat×Nat))(S:Sto)(F:List (Nat×Nat×List Nat)):Prop where
 at':FoeAt S0 S0.length F S
 fr: ∀a b,zCG F a b↔(a,b)∈done\/(b,a)∈done
 ne: ∀x∈F,x.2.2≠[]
 len:F.length<=2 * k
 ll: ∀x∈F,x.2.2.length<=2 * k
theorem Sd{k:Nat}{d:List (Nat×Nat)}{F:↑11}(h:FoI S0 k d S F)(N:k<450)(p:Nat×Nat)(b:MV):
  ∃S' w,rZ (zCI b S0.length (some (zA p.1)) (some (zA p.2))) S=#[zCI b S0.length (some (zA p.1)) (some (zA p.2)),S',0]/\FoI S0 (k+1) (d++[p]) S' w:=by
 obtain⟨P,S1,S2,C,H,n,v,r,i,D,Q,o,K⟩:=Hn h.at' (by have:=h.len;lia) (λx c=>by have:=h.ll x c;lia) p.1 p.2
 have e: ∀x∈C,x.2.2.length<=2 * k+1:=λx c=>by
  rcases K x c with z|⟨y,hy,z⟩
  .lia
  .have:=h.ll y hy;lia
 obtain⟨M,S3,s,I,m,A,j,E,J,q,O,u,B⟩:=Hn i (by have:=h.len;lia) (λx c=>by have:=e x c;lia) p.2 p.1;have G:NB #[S0.length,1] S=true:=by unfold NB;rw[EX h.at'.dic];rfl
 have L:NB #[S0.length,1] S2=true:=by unfold NB;rw[EX i.dic];rfl
 refine⟨s,I,?_,⟨J,λa b=>?_,λx c=>?_,by have:=h.len;lia,λx c=>?_⟩⟩
 .unfold rZ;refine yS (ρ':=zCI b S0.length (some (zA p.1)) (some (zA p.2))) (S':=S2) ?_ ?_
  .unfold sT;exists 7,G,n,nL v,r
  .unfold sU;exists 7,L,A,nL j,E
 .rw[q,D,h.fr,æ,æ,mS,mS];obtain⟨p1,p2⟩:=p
  grind
 .rcases u x c with z|z
  .exact z
  .rcases o x z with z|z
   .exact z
   .exact h.ne x z
 .rcases B x c with z|⟨y,hy,z⟩
  .lia
  .have:=e y hy;lia
theorem zCJ(n:↑25)(I:↑30)(H:↑4<=20)(v:rls.length<=100)(u:bF (eZ rls rs) (cY rls rs (List.range ↑4)) Hd)(S:Sto):
  ∃F S',zH 1 pV [.val ↑3] S=.ok #[↑0,1] S'/\FoI S 400 ((jG Hd).filter (J8 ts rls rs)) S' F:=by
 generalize m:(jG Hd).filter (J8 ts rls rs)=cl
 have B:cl.length<=400:=by
  have h1:=pairs_len Hd;have o: ∀i∈Hd,i<rs.length:=λi hi=>ò.mp (å.mp ((sI u).1 i hi)).1;have w:Hd.Nodup:=by obtain⟨⟨p,e⟩,_⟩:=u;rw[e];exact(nodup_range.filter _).filter _
  have z:Hd.length<=20:=ì (w.length_le_of_subset λi hi=>ò.mpr (o i hi)) (by rw[è];exact H);have L:Hd.length * Hd.length<=20 * 20:=mul_le_mul z z;have D:=ï (J8 ts rls rs) (jG Hd);rw[m]at D
  lia
 obtain⟨ρ',S',f1,⟨x,y,rfl⟩,F,d⟩:=mQ (gf:=HM 2 (zR (zY 2) (zR (zY 3) gA))) (λk h ρ S1=>(∃x y,ρ=zCI (zD ts rls rs) S.length x y)/\ ∃F,FoI S k h S1 F) (λh p=>h++[p]) (ds:=cl) 0 (λj p K h ρ S1 ⟨⟨x,y,q⟩,F,s⟩=>by subst q;have A:=(gS.mp K).1;obtain⟨S',G,E,J⟩:=Sd s #[] p (zD ts rls rs);refine⟨zCI (zD ts rls rs) S.length (some (zA p.1)) (some (zA p.2)),S',?_,yP _,⟨_,_,rfl⟩,G,J⟩;rw[show HM 2 _ (VO p) _ S1=.ok _ S1 from rfl,xQ];exact E) [] _ (S++[.dic []]) ⟨⟨_,_,rfl⟩,[],⟨⟨by simp,λx c=>(nomatch c),.nil,.nil,⟨à _,λx c=>(nomatch c)⟩,Old.app _ _⟩,λa b=>by unfold zCG;simp,λx c=>(nomatch c),zero_le _,λx c=>(nomatch c)⟩⟩
 have C: ∀(l b:List (Nat×Nat)),l.foldl (λh p=>h++[p]) b=b++l:=λl=>by
  induction l with
  |nil=>intro b;simp
  |cons a l ih=>intro b;rw[ď,ih,aA];rfl
 rw[C,List.nil_append]at d;refine⟨F,S',?_,⟨d.at',d.fr,d.ne,by have:=d.len;lia,λx c=>by have:=d.ll x c;lia⟩⟩
 have s:pV [zD ts rls rs] S=.ok #[↑0,1] S':=by
  show zP _=_;unfold IH;refine EW (yS (ρ':=zCI ↑3 ↑0 none none) (S':=S++[.dic []]) ?_ (yS (ρ':=zCI ↑3 ↑0 x y) (S':=S') ?_ ?_))
  .unfold BB;simp? [xQ];rfl
  .unfold BC;simp? [Lq n I #[] v u,m,show∀ds S,AA (.new ds) S=.ok ⟨ds,[]⟩ S from λ_ _=>rfl];exact f1
  .unfold BD;simp? [xQ]
 unfold zH;rw[iP (show [Er.val ↑3].length=1 from rfl)];show((noX (pV [zD ts rls rs] S)).bind λr S2=>gV S r S2)=_;rw[s,yC,xQ];unfold gV;rw[iP (VS d.at'.old)];dsimp only;rw[iN (ĕ _),d.at'.dic]
end
def Ho{i:Nat}{R:Db}:zA i∈R.map zA↔i∈R:=⟨λh=>by obtain⟨j,a,e⟩:=mM.mp h;exact CV e▸a,λh=>mM.mpr ⟨i,h,rfl⟩⟩
def Hq{R:Db}: ∀y∈R.map zA,pd y=true/\LE y<40:=λy a=>by obtain⟨i,_,rfl⟩:=mM.mp a;exact⟨rfl,by show LE (MV.int _)<40;unfold LE;decide⟩
def HC{l:Nat}{R:Db}(a:Bool)(h:S[l]? =#[R.map zA,2])(i:Nat):UG a (.val (zA i)) #[l,1] S=#[.bl (if a=true then !decide (i∈R)else decide (i∈R)),S,1]:=by rw[Gh a h rfl Hq,ġ.mpr (Ho)]
def Hr(a:Bool)(i:Nat)(R:Db)(S:Sto):UG a (.val (zA i)) #[R.map zA,6] S=#[.bl (if a=true then !decide (i∈R)else decide (i∈R)),S,1]:=by
 have:=HC (S:=[.lst _]) (l:=0) (R:=R) a rfl i;show AO a (.val _) #[_,6] S=_;unfold AO;rw[show itemsOf S _=some _ from rfl];dsimp only;rw[GT rfl Hq];dsimp only;have b:((R.map zA).map λy=>decide (y=zA i)).any id=decide (i∈R):=by rw[List.any_map,Ā,ü,ë, <-Ho];exact⟨λ⟨y,d,e⟩=>by have:y=zA i:=ó e;exact this▸d,λc=>⟨_,c,dT0 rfl⟩⟩
 rw[b]
noncomputable def Dk(F:↑11)(i:Nat):List Nat:=((F.find? λx=>decide (x.1=i)).map (·.2.2)).getD []
def fB(F:↑11)(i j:Nat):Bool:=decide (j∈Dk F i)
theorem Se{F:↑11}(kn:F.Pairwise λx y=>x.1≠y.1){x:Nat×Nat×List Nat}(a:x∈F):Dk F x.1=x.2.2:=by
 unfold Dk
 cases e:F.find? λy=>decide (y.1=x.1)with
 |none=>exact absurd (dT0 rfl) (List.find?_eq_none.mp e x a)
 |some y=>
  have h1:=List.find?_some e;rw[Hm kn y (List.mem_of_find?_eq_some e) x a (ó h1)];rfl
def Dl{F:↑11}(kn:F.Pairwise λx y=>x.1≠y.1){i:Nat}:fB F i j=true↔zCG F i j:=by
 unfold fB zCG;rw[ë];constructor
 .intro h;unfold Dk at h
  cases e:F.find? λy=>decide (y.1=i)with
  |none=>rw[e]at h;cases h
  |some y=>
   rw[e]at h;have h1:=List.find?_some e;exact⟨y,List.mem_of_find?_eq_some e,ó h1,h⟩
 .rintro⟨x,b,rfl,a⟩;rw[Se kn b];exact a
def Hs{l:Nat}{F:↑11}(h:FoeAt S0 l F S){i:Nat}(hi:i∈F.map (·.1)): ∃p,UR #[l,1] (.val (zA i)) S=.ok #[p,1] S/\S[p]? =#[(Dk F i).map zA,2]:=by obtain⟨x,a,rfl⟩:=mM.mp hi;refine⟨_,?_,by rw[Se h.kn a];exact h.pl x a⟩;unfold UR;rw[EX h.dic];dsimp only;rw[iP (show DA _=true from rfl),SO h.kn a]
def Sf(A B:Db):(A.any λj=>decide (j∈B))=B.any λj=>decide (j∈A):=by rw[Ā,ü,ü];exact⟨λ⟨j,h,e⟩=>⟨j,ó e,dT0 h⟩,λ⟨j,h,e⟩=>⟨j,ó e,dT0 h⟩⟩
theorem zCK{l:Nat}{F:↑11}(h:FoeAt S0 l F S)(q: ∀x∈F,x.2.2.length<=800){kn:Db}(d:S[lk]? =#[kn.map zA,2])(n:kn.length<=1000)(a: ∀i∈kn,i∈F.map (·.1))(R:Db):
  zH 3 CQ [#[R.map zA,6],#[lk,1],#[l,1]] S=#[.bl (vQ (fB F) R kn),S,1]:=by
 refine yT (T:=[]) rfl ?_ (ML _ _) (λl=>by simp);show zP (CP [#[R.map zA,3],#[lk],#[l]] S)=_;unfold CP BE
 have e:zV (zY 0) sV iG [none,some _,#[l]] [(lk,kn.map zA)] (kn.map zA) S=.ok (kn.map λi=>.bl (decide (i∈R) || R.any λj=>fB F i j)) S:=xX (yQ d) λi hi=>by
  refine⟨[some (zA i),#[R.map zA,3],#[l]],rfl,rfl,?_⟩;obtain⟨p,p1,p2⟩:=Hs h (a i hi);have m:(Dk F i).length<=800:=by obtain⟨x,c,rfl⟩:=mM.mp (a i hi);rw[Se h.kn c];exact q x c
  have b:zV (zY 0) iE cV [none,#[R.map zA,3]] [_] _ S=.ok ((Dk F i).map λj=>.bl (decide (j∈R))) S:=xX (yQ p2) λj s=>by refine⟨[some (zA j),some _],rfl,rfl,?_⟩;unfold cV;simp? [Hr];rfl
  unfold iG;simp? [Hr]
  cases r:decide (i∈R)with
  |true=>rfl
  |false=>
   rw[show AB 1 [1] [some (zA i),some _,#[l]]=[none,some _]from rfl];show((((UR _ (Er.val (zA i)) S).bind AA).bind λk S=>if k.ds.length<1000000 then(zV (zY 0) iE cV [none,some _] k.gs k.ds S).bind λo S=>.ok (Er.new o) S else .no).bind λp S=>.ok [p] S).bind Bq=_;rw[p1,xQ,yV p2,xQ];dsimp only;rw[iP (by rw[lM];lia),b,xQ,xQ,xQ,VU,Sf];rfl
 simp? [yV d,show((kn.map zA).length<1000000)=True from eq_true (by rw[lM];lia),show AB 1 [0,2] [#[R.map zA,3],#[lk],#[l]]=[none,#[R.map zA,3],#[l]]from rfl,e,Gq];rw[aN];rfl
abbrev xF(R:Db):MV:=.tup (R.map zA)
def cO(A:Ch):List (MV×MV):=A.map λR=>(xF R,MV.bl true)
def Ht{A B:Db}(h:xF A=xF B):A=B:=by
 have h:=by injection h
 exact(List.map_inj_right λa b e=>CV e).mp h
theorem WA: ∀R:List Nat,cE (R.map zA)=some (R.map λi:Nat=>NK.key (some (Sum.inl (i:Int))))/\DE (R.map λi:Nat=>NK.key (some (Sum.inl (i:Int))))=0
 |[]=>⟨CC,rfl⟩
 |i::R=>by obtain⟨h1,a⟩:=WA R;rw[ê,qC,show kM (zA i)=some _ from qA _,h1];refine⟨rfl,?_⟩;show max 0 _=0;rw[a];rfl
theorem A1(R:Db):keyOk (xF R)=true:=by unfold keyOk;rw[qB,(WA R).1];show(true&&decide _)=true;rw[show AK _=DE _+1 from rfl,(WA R).2];rfl
theorem WB{l:Nat}{A:Ch}(h:S[l]? =#[cO A,7]):FV S #[l,1]=some (l,cO A):=by unfold FV;dsimp only;rw[h];refine iP (ø.mpr λp a=>?_);obtain⟨R,_,rfl⟩:=mM.mp a;rfl
def Sh(A:Ch)(R:Db):(look (cO A) (xF R)).isSome=decide (R∈A):=by
 induction A with
 |nil=>rfl
 |cons a A ih=>
  unfold look at ih ⊢;rw[show cO _=_::cO A from rfl,find?_cons];by_cases e:a=R
  .rw[dT0 (by rw[e]),dT0 (by rw[e];exact .head _)];rfl
  .rw[dF0 λz=>e (Ht z)];rw[ih];exact ġ.mpr ⟨λz=>.tail _ z,λz=>(mC.mp z).resolve_left λy=>e y.symm⟩
theorem A2(A:Ch)(R:Db):putK (cO A) (xF R) (.bl true)=cO (vX A R):=by
 unfold putK vX;rw[Sh];by_cases h:R∈A
 .rw[iP (dT0 h),iP h];unfold cO;rw[û];refine List.map_congr_left λB _=>?_;show _=_;exact ite_self _
 .rw[iN (by rw[ë];exact h),iN h];unfold cO;rw[Ć];rfl
def LM{l:Nat}{A:Ch}(h:S[l]? =#[cO A,7])(a:A.length<1000000)(R:Db)(ρ:Rho):DG #[l,1] (.val (xF R)) (.bl true) ρ S=.ok ρ (S.set l (.dic (cO (vX A R)))):=by unfold DG;rw[WB h];dsimp only;rw[iP ⟨A1 R,by unfold cO;rw[lM];exact a⟩,A2]
theorem Si{l:Nat}{A:Ch}(h:S[l]? =#[cO A,7]):IF [#[l,1]] S=#[A.map xF,S,2]:=by unfold IF;dsimp only;rw[WB h];dsimp only;unfold cO;rw[û];rfl
def ZZ{l:Nat}{A:Ch}(h:S[l]? =#[cO A,7]):NL #[l,1] S=.ok ⟨A.map xF,[]⟩ (S.set l (.fdc (cO A))):=by unfold NL;rw[WB h];dsimp only;rw[show(cO A).map (·.1)=A.map xF by unfold cO;rw[û];rfl]
def Aa{l:Nat}{A:Ch}(h:S[l]? =some (.fdc (cO A))):NL #[l,1] S=.ok ⟨A.map xF,[]⟩ S:=by unfold NL;rw[show FV S _=none by unfold FV;dsimp only;rw[h]];rw[show Gd S _=some _ by unfold Gd;dsimp only;rw[h]];dsimp only;rw[show(cO A).map (·.1)=A.map xF by unfold cO;rw[û];rfl]
abbrev Sj(lf lk:Nat)(a:V0)(n:Nat)(lg:Nat)(x y:V0):Rho:=[#[lf],#[lk],a,some (zA n),#[lg],x,y]
theorem Hu(R:Db):pd (xF R)=true/\LE (xF R)<40:=by
 have h: ∀R:List Nat,Ct (R.map zA)=true/\GQ (R.map zA)<=0:=λR=>by
  induction R with
  |nil=>exact⟨rfl,à _⟩
  |cons i R ih=>
   rw[ê];exact⟨by unfold Ct;rw[ih.1];rfl,by unfold GQ;rw[show LE _=0 from rfl];have:=ih.2;lia⟩
 exact⟨by show Ct _=true;exact(h R).1,by have:=(h R).2;show GQ _+1<40;lia⟩
theorem J9(A B:Db)(S:Sto):HV (.val (xF A)) (.val (xF B)) S=#[.bl (decide (A≠B)),S,1]:=by
 rw[sP (qY _ (Hu A).1 (Hu B).1 (by have:=(Hu A).2;unfold zQ;lia))];by_cases e:A=B
 .rw[dT0 (by rw[e]),dF0 (λz=>z e)];rfl
 .rw[dF0 (λz=>e (Ht z)),dT0 e];rfl
def FoeAt.setG{lg:Nat}{F:↑11}{kv:zA0}(h:FoeAt S0 lf F S)(hg:S[lg]? =#[kv,7])(hne:lg≠lf)(hl:S0.length<=lg)(o:MO):FoeAt S0 lf F (S.set lg o) where
 dic:=by rw[í hne];exact h.dic
 pl:=λx hx=>by rw[í λz=>by have:=h.pl x hx;rw[<-z,hg]at this;cases this];exact h.pl x hx
 pn:=h.pn
 kn:=h.kn
 lo:=h.lo
 old:=h.old.set hl _
theorem Lr{F:↑11}(h:FoeAt S0 lf F S){n:Nat}(a:n∈F.map (·.1))(R:Db):
  zV (zY 0) wR cG [none,#[lf],some (zA n)] [] (R.map zA) S=.ok ((bG (fB F) n R).map zA) S:=xT (yP _) λi hi=>by
 obtain⟨p,p1,p2⟩:=Hs h a;refine⟨_,rfl,?_,rfl⟩;unfold wR;simp? [p1,HC true p2];rfl
theorem zHF{lg n:Nat}{F:↑11}(h:FoeAt S0 lf F S)(r: ∀x∈F,x.2.2.length<=800){kn:Db}(k:S[lk]? =#[(kn++[n]).map zA,2])(u:kn.length<=900)(a: ∀i∈kn++[n],i∈F.map (·.1))
  {acc:Ch} (hg:S[lg]? =#[cO acc,7]) (hal:acc.length<=900000) (hlg:lg≠lf) (hl0:S0.length<=lg) (R:Db) (hR:R.length<=1000) (td y:V0):
  wC (Sj lf lk td n lg (some (xF R)) y) S=#[Sj lf lk td n lg (some (xF R)) (some (xF (bG (fB F) n R))),S.set lg (.dic (cO (ZX (fB F) kn n acc R))),0]:=by
 have q:n∈F.map (·.1):=a n (by simp);generalize b:bG (fB F) n R=A;have s:A.length<=1000:=by rw[<-b];exact ì (ï _ _) hR
 have d:lg<S.length:=(gS.mp hg).1;unfold wC;refine yS (ρ':=Sj lf lk td n lg (some (xF R)) (some (xF A))) (S':=S) ?_ ?_
 .unfold cH;simp? [cC,show((R.map zA).length<1000000)=True from eq_true (by rw[lM];lia),show AB 1 [0,3] (Sj lf lk td n lg (some (xF R)) y)=[none,#[lf],some (zA n)]from rfl,Lr h q R,b,IS]
 .refine yS (ρ':=Sj lf lk td n lg (some (xF R)) (some (xF A))) (S':=S.set lg (.dic (cO (if A≠R then vX acc R else acc)))) ?_ ?_
  .unfold cI;by_cases e:A≠R
   .rw[iP e];simp? [J9,dT0 e];show((DG _ (.val (xF R)) (.bl true) _ S).bind λρ S=>.ok (Fl.next ρ) S)=_;rw[LM hg #[]];rfl
   .rw[iN e,set_same hg];simp? [J9,dF0 e];rfl
  .generalize m:(if A≠R then vX acc R else acc)=B;have c:B.length<1000000:=by rw[<-m];have:=tZ acc R;split<;>lia
   have p:(S.set lg _)[lg]? =#[cO B,7]:=ô d;have h1:FoeAt S0 lf F (S.set lg (.dic (cO B))):=h.setG hg hlg hl0 _;have o:(S.set lg (MO.dic (cO B)))[lk]? =#[(kn++[n]).map zA,2]:=by rw[í λz=>by rw[z,k]at hg;cases hg];exact k
   have j: ∀S,wK (.val (xF A)) #[[zA n],6] S=#[xF (A++[n]),S,1]:=λS=>by rw[Ws (fits (by rw[lM];simp;lia)),show xF (A++[n])=.tup (A.map zA++[zA n]) by unfold xF;rw[Ć];rfl]
   unfold cJ;simp? [show∀S,wM [.val (zA n)] S=.ok _ S from λS=>pZ (by simp),j,zCK h1 r o (by rw[lA];simp;lia) a (A++[n])];have es:ZX (fB F) kn n acc R=if vQ (fB F) (A++[n]) (kn++[n])=true then vX B (A++[n])else B:=by unfold ZX;rw[b,m]
   rw[es]
   cases v:vQ (fB F) (A++[n]) (kn++[n])with
   |true=>
    rw[iP rfl,iP rfl];unfold XN wI;simp? [show∀S,wM [.val (zA n)] S=.ok _ S from λS=>pZ (by simp),j,LM p c,č]
   |false=>rfl
def A3(f:Nat->Nat->Bool)(kn:Db)(n:Nat)(a:Ch)(R:Db):(ZX f kn n a R).length<=a.length+2:=by have:=OE (f:=f) (kn:=kn) (n:=n) [R] a;simpa using this
theorem Hv{S0:Sto}{lf lk lg n:Nat}{F:↑11}(u: ∀x∈F,x.2.2.length<=800){kn:Db}(e:kn.length<=900)(j: ∀i∈kn++[n],i∈F.map (·.1))(c:lg≠lf)(b:S0.length<=lg)(k:V0){gs:Z0}:
  ∀(d a:Ch)(S:Sto)(x y:V0),FoeAt S0 lf F S->S[lk]? =#[(kn++[n]).map zA,2]->S[lg]? =#[cO a,7]->a.length+2 * d.length<=900000->(∀R∈d,R.length<=1000)->(∀o,stay gs (S.set lg o))->
   ∃p q,cF (zY 5) wC gs (d.map xF) (Sj lf lk k n lg x y) S=#[Sj lf lk k n lg p q,S.set lg (.dic (cO (d.foldl (ZX (fB F) kn n) a))),0]
 |[],a,S,x,y,h,hk,hg,hl,hR,hs=>⟨x,y,by rw[List.foldl_nil,set_same hg];rfl⟩
 |R::d,a,S,x,y,h,hk,hg,hl,hR,hs=>by
  rw[lC]at hl;have r:=(gS.mp hg).1;have s:=zHF h u hk e j hg #[] c b R (hR R (.head _)) k y;have m:=A3 (fB F) kn n a R;generalize w:ZX _ kn n a R=B at s m
  obtain⟨p,q,f⟩:=Hv u e j c b k d B _ _ _ (h.setG hg c b _)
   (by rw[í λz=>by rw[z,hk]at hg;cases hg];exact hk) (ô r) #[] (λQ v=>hR Q (.tail _ v)) (λo=>by rw[č];exact hs o)
  refine⟨p,q,?_⟩;rw[ê,jI rfl s (hs _),f,č,ď,w]
theorem Ls{l:Za}:rK l=0↔l=[]:=by
 constructor
 .intro h
  cases l with
  |nil=>rfl
  |cons y l=>
   have:_∈oV _ (y::l).length:=YY.mpr ⟨y,.head _,rfl⟩;rw[List.length_eq_zero_iff.mp h]at this;cases this
 .rintro rfl;rfl
def A4(l:Za):rK l<=l.length:=UM _ _
def A5{l:Za}(h:l.Nodup):l.length<=rK l:=by
 have a:(l.map (Sum.inl:Int->Key)).Nodup:=Ġ.mpr (h.imp λq e=>q (Sum.inl.inj e));have:=a.length_le_of_subset λk c=>by obtain⟨y,b,rfl⟩:=mM.mp c;exact YY.mpr ⟨y,b,rfl⟩
 rw[lM]at this;exact this
theorem zCL{O K:Db}(A:O.Nodup)(h1:O.length<=1000)(k:K.length<=1000)(S:Sto):zH 2 kW [.val (xF O),.val (xF K)] S=#[.bl (EV O K),S,1]:=by
 have b: ∀R:List Nat,R.length<=1000->Cr [.val (xF R)]=some (R.map Int.ofNat):=λR h=>by show(intsOf (R.map zA)).bind _=_;rw[HB];exact iP (by rw[lM];lia)
 have a:K.length<O.length->zH 2 tQ [.val (xF O),.val (xF K)] S=#[.bl (K.all λi=>decide (i∈O)),S,1]:=λv=>by
  refine yT (T:=[]) rfl ?_ (ML _ _) (λl=>by simp);show zP (CS [some (xF O),some (xF K)] S)=_;unfold CS BF
  have p: ¬rK (K.map Int.ofNat) / 4>rK (O.map Int.ofNat):=by
   have u:=A4 (K.map Int.ofNat);have o:=A5 (Ġ.mpr (A.imp λq e=>q (Int.ofNat.inj e)));rw[lM]at u o
   lia
  have hs:zGR (yJ (vJ 1) wJ) (yJ (vJ 0) wJ) [some (xF O),some (xF K)] S=.ok #[(rK (DH (K.map Int.ofNat) (O.map Int.ofNat)):Nat),5] S:=by unfold zGR;simp? [b K k,b O h1];show YZ _ _ S=_;unfold YZ;rw[iP p]
  have m:decide ((rK (DH (K.map Int.ofNat) (O.map Int.ofNat)):Int)=0)=K.all λi=>decide (i∈O):=by
   rw[Ā,ë,ø,Int.natCast_eq_zero,Ls];constructor
   .intro h i hi;refine dT0 (ċ λz=>?_);have:Int.ofNat i∈DH _ (O.map Int.ofNat):=GC.mpr ⟨mM.mpr ⟨i,hi,rfl⟩,λq=>z (by obtain⟨j,w,e⟩:=mM.mp q;exact Int.ofNat.inj e▸w)⟩;rw[h]at this;cases this
   .intro h;refine List.eq_nil_iff_forall_not_mem.mpr λy s=>?_;obtain⟨n,d⟩:=GC.mp s;obtain⟨i,hi,rfl⟩:=mM.mp n;exact d (mM.mpr ⟨i,ó (h i hi),rfl⟩)
  simp? [hs,eq_int,m];rw[aN];rfl
 refine yT (T:=[]) rfl ?_ (ML _ _) (λl=>by simp);show zP (kU [some (xF O),some (xF K)] S)=_;unfold kU bB;simp? [vG,lM];unfold EV;rw[aN];by_cases c:K.length<O.length
 .rw[dT0 (Int.ofNat_lt.mpr c),dT0 c];show zP ((zH 2 tQ [Er.val (xF O),Er.val (xF K)] S).bind λr S=>.ok (Fl.ret r) S)=_;rw[a c];rfl
 .rw[dF0 (λz=>c (Int.ofNat_lt.mp z)),dF0 c];rfl
theorem A6{l:Nat}{F:↑11}(h:S[l]? =#[VZ F,7])(i:F.length<64)(d:L.Perm (F.map (·.1)))(hs:L.Pairwise (· <=·)):RW [#[l,1]] S=#[L.map zA,S,2]:=by
 unfold RW;dsimp only;rw[EX h];dsimp only;have j:(VZ F).map (·.1)=(F.map (·.1)).map zA:=by unfold VZ;rw[û,û];rfl
 rw[iP (by rw[lM];exact i),j,HB];have e:L.map Int.ofNat=PySem.W.sortI _:=PySem.W.eq_sortI (d.map _) (Ġ.mpr (hs.imp λ{a b} c=>Int.ofNat_le.mpr c));show R.ok _ S=_;rw[<-e,û];rfl
def LN{l:Ch}(h:l.Nodup)(x:Db):(vX l x).Nodup:=by
 unfold vX;split
 .exact h
 .rename_i c;exact ģ.mpr ⟨h,by simp,λa d b i e=>c (by rw[mS.mp i]at e;exact e▸d)⟩
theorem Hw{f:Nat->Nat->Bool}{kn:Db}{n:Nat}: ∀(told:Ch){a:Ch},a.Nodup->(told.foldl (ZX f kn n) a).Nodup
 |[],a,h=>h
 |R::told,a,h=>by refine Hw told ?_;unfold ZX;split<;>split<;>first |exact LN (LN h _) _|exact LN h _|exact h
structure PcN(f:Nat->Nat->Bool)(kn:Db)(told:Ch):Prop where
 pc:Pc f kn told
 nd:told.Nodup
 le:told.length<=2 ^ kn.length
abbrev psS(f:Nat->Nat->Bool)(b:List Nat×List (List Nat))(n:Nat):List Nat×List (List Nat):=(b.1++[n],grow f b.1 n b.2)
theorem Sk(a: ∀i,f i i=false)(b: ∀i j,f i j=f j i){kn:Db}(h:PcN f kn told)(n:Nat):PcN f (kn++[n]) (grow f kn n told):=
 ⟨Zx a b h.pc n,Hw told .nil,by
  have h1:(grow f kn n told).length<=_:=OE told [];have c:=h.le;rw[lA,lS];rw[ĉ]at h1
  lia⟩
def Hx{L:List α}(k:L.Nodup)(c:α->Nat)(inj: ∀a∈L, ∀b∈L,c a=c b->a=b){M:Db}(j: ∀a∈L,c a∈M):L.length<=M.length:=by
 have h:(L.map c).Nodup:=Ġ.mpr (ķ (λ{a b} d m i e=>i (inj a d b m e)) k);have h:=h.length_le_of_subset λx n=>by obtain⟨a,d,rfl⟩:=mM.mp n;exact j a d
 rwa [lM]at h
theorem zCM{A B:Db}(c:A.Pairwise (· <·))(d:B.Pairwise (· <·))(h: ∀i,i∈A↔i∈B):A=B:=
 List.Perm.eq_of_pairwise (λa b _ _ h1 e=>by lia) c d ((ĭ (c.imp â) (d.imp â)).mpr h)
noncomputable def zHV:List Nat->Nat
 |[]=>8
 |[a]=>9 * a
 |a::b::_=>8 * a+b
theorem few(G: ∀i j,f i j=f j i){kn:Db}(h:PcN f kn told)(hs:kn.Pairwise (· <·))(F: ∀i∈kn,i<8):told.length<64:=by
 have pw: ∀S∈told,S.Pairwise (· <·):=λS d=>hs.sublist (h.pc.sub S d);have u: ∀S∈told, ∀i∈S,i<8:=λS d i hi=>F i ((h.pc.sub S d).subset hi);by_cases c: ∃I∈told,3<=I.length
 .obtain⟨I,B,o⟩:=c;have r: ∀i,i∈(List.range 8).filter (λi=>!decide (i∈I))↔i<8/\i∉I:=λi=>by simp
  have w:((List.range 8).filter (λi=>!decide (i∈I))).length<=5:=by
   have:(I++(List.range 8).filter (λi=>!decide (i∈I))).length<=(List.range 8).length:=List.Nodup.length_le_of_subset (ģ.mpr ⟨(pw I B).imp â,nodup_range.filter _,λa n b s e=>((r b).mp s).2 (e▸n)⟩) λi hi=>by
    rcases æ.mp hi with hi|hi
    .exact ò.mpr (u I B i hi)
    .exact ò.mpr ((r i).mp hi).1
   rw[lA,è]at this
   lia
  generalize (List.range 8).filter (λi=>!decide (i∈I))=O at r w
  have one: ∀S∈told, ∀S'∈told,(∀i∈O,i∈S↔i∈S')-> ∀i∈S',i∈S:=λS d S' m e i hi=>by
   by_cases p:i∈I
   .refine ċ λz=>?_;obtain⟨j,D,q⟩:=(cZ.mp (h.pc.full S d) i ((h.pc.sub S' m).subset hi)).resolve_left z;have C:j∈O:=(r j).mpr ⟨u S d j D,λy=>by have:=h.pc.ind I B i p j y;rw[q]at this;cases this⟩;have:=h.pc.ind S' m i hi j ((e j C).mp D);rw[q]at this;cases this
   .exact(e i ((r i).mpr ⟨u S' m i hi,p⟩)).mpr hi
  have:=Hx h.nd (λS=>OH (λk=>decide ((O[k]?).getD 8∈S)) 5) (λS d S' m e=>by
   have e2: ∀i∈O,i∈S↔i∈S':=λi hi=>by obtain⟨k,E,rfl⟩:=ń hi;have:=congrArg (λx=>Nat.testBit x k) e;simp only[LL,gE E,dT0 (show k<5 by lia),Ĥ,Option.getD_some,ġ]at this;exact this
   exact zCM (pw S d) (pw S' m) λi=>⟨one S' m S d (λi hi=>(e2 i hi).symm) i,one S d S' m e2 i⟩) λS _=>ò.mpr (VW _ 5)
  rw[è]at this
  lia
 .have H: ∀S∈told,↑0<=2:=λS d=>Nat.le_of_not_lt λz=>c ⟨S,d,z⟩
  have v: ∀S∈told,S=[]\/(∃a,S=[a]/\a<8)\/ ∃a b,S=[a,b]/\a<b/\b<8:=λS d=>by
   have h1:=H S d;have A:=pw S d;have o:=u S d
   match S,h1,A,o with
   |[],_,_,_=>exact .inl rfl
   |[a],_,_,o=>exact .inr (.inl ⟨a,rfl,o a (.head _)⟩)
   |[a,b],_,A,o=>exact .inr (.inr ⟨a,b,rfl,by simpa using A,o b (by simp)⟩)
   |_::_::_::_,h1,_,_=>simp at h1
  have:=Hx h.nd zHV (λS d S' m e=>by
   rcases v S d with rfl|⟨a,rfl,n⟩|⟨a,b,rfl,n,s⟩<;>rcases v S' m with rfl|⟨a',rfl,ha'⟩|⟨a',b',rfl,ha',hb'⟩<;>simp only[zHV]at e
   .rfl
   .lia
   .lia
   .lia
   .rw[show a=a' by lia]
   .lia
   .lia
   .lia
   .rw[show a=a' by lia,show b=b' by lia]) (M:=(List.range 64).erase 16) λS d=>(List.mem_erase_of_ne (by rcases v S d with rfl|⟨a,rfl,n⟩|⟨a,b,rfl,n,s⟩<;>simp only[zHV]<;>lia)).mpr (ò.mpr (by rcases v S d with rfl|⟨a,rfl,n⟩|⟨a,b,rfl,n,s⟩<;>simp only[zHV]<;>lia))
  rw[List.length_erase_of_mem (ò.mpr ↑7),è]at this
  lia
def FoeAt.mono{l:Nat}{F:↑11}(h:FoeAt S0 l F S)(o:Old S S'):FoeAt S0 l F S':=⟨o _ _ h.dic,λx a=>o _ _ (h.pl x a),h.pn,h.kn,h.lo,h.old.trans o⟩
def WC(A:Ch)(n:Nat):HN n (A.map xF):=yD λd a=>by obtain⟨R,_,rfl⟩:=mM.mp a;exact yO (sG R n)
noncomputable abbrev Tj(lf lk lt:Nat)(n g x y:V0):Rho:=[#[lf],#[lk],#[lt],n,g,x,y]
def PsJ(F:↑11)(lf:Nat)(S:Sto)(L:Db)(k:Nat)(b:List Nat×List (List Nat))(ρ:Rho)(S':Sto):Prop:=
 ∃lt n g x y,ρ=Tj lf ↑0 lt n g x y/\Old S S'/\S'[↑0]? =#[b.1.map zA,2]/\↑0<lt/\S'[lt]? =#[b.2.map xF,2]/\b.1=L.take k/\PcN (fB F) b.1 b.2
theorem A7{F:↑11}(h:FoeAt S0 lf F S)(z: ∀i,fB F i i=false)(A: ∀i j,fB F i j=fB F j i)(U: ∀x∈F,x.2.2.length<=800)(hl:L.length<=8)(W: ∀i∈L,i∈F.map (·.1)){n:Nat}(C:L[j]? =some n){b:List Nat×List (List Nat)}(J:PsJ F lf S L j b ρ S'):
  ∃ρ' d,((zY 3 (zA n) ρ S').bind λu S0=>gN u S0)=#[ρ',d,0]/\PsJ F lf S L (j+1) (psS (fB F) b n) ρ' d:=by
 obtain⟨lt,n0,g,x,y,rfl,o,e,N,T,r,P⟩:=J;have ae:j<L.length:=(gS.mp C).1;have s:b.1.length<=8:=by rw[r,lT];lia
 have ab:b.2.length<=256:=ì P.le (pow_le_pow_right ↑7 s);have aa:↑0<S'.length:=(gS.mp e).1;have H:lf<S.length:=(gS.mp h.dic).1;have O:S0.length<=S.length:=CW h.old
 have Q: ∀i∈b.1++[n],i∈L:=λi hi=>by
  rcases æ.mp hi with hi|hi
  .rw[r]at hi;exact mem_of_mem_take hi
  .rw[mS.mp hi];exact ñ C
 have v:(S'.set ↑0 (.lst ((b.1++[n]).map zA)))[↑0]? =#[(b.1++[n]).map zA,2]:=get_set e;have k:(S'.set ↑0 (.lst ((b.1++[n]).map zA)))[lt]? =#[b.2.map xF,2]:=by rw[yI #[]];exact T
 have w:Old S (S'.set ↑0 (.lst ((b.1++[n]).map zA))):=o.set (à _) _;have e1:wU (Tj lf ↑0 lt (some (zA n)) g x y) S'=#[Tj lf ↑0 lt (some (zA n)) g x y,S'.set ↑0 (.lst ((b.1++[n]).map zA)),0]:=by unfold wU;simp? [nL e,mH e (by rw[lM];lia)];rw[Ć];rfl
 generalize I:S'.set S.length (.lst ((b.1++[n]).map zA))=S1 at v k w e1;have K:lt<S1.length:=(gS.mp k).1;have e2:wV (Tj lf ↑0 lt (some (zA n)) g x y) S1=#[Sj lf ↑0 #[lt] n S1.length x y,S1++[MO.dic []],0]:=by unfold wV;simp? [xQ];rfl
 have a:Old S1 (S1++[MO.dic []]):=Old.app _ _;have g2:(S1++[MO.dic []])[S1.length]? =#[cO [],7]:=by simp[cO]
 obtain⟨m,q,B⟩:=Hv U #[] (λi hi=>W i (Q i hi)) #[] #[] #[lt] (gs:=[(lt,b.2.map xF)]) b.2 [] (S1++[MO.dic []]) x y (h.mono (w.trans a)) (a _ _ v) g2 (by rw[ĉ];lia) (λR Y=>by have:=(P.pc.sub R Y).length_le;lia) (λo=>yQ (by rw[yI #[]];exact a _ _ k));rw[show b.2.foldl (ZX (fB F) b.1 n) []=grow (fB F) b.1 n b.2 from rfl]at B;generalize X:grow (fB F) b.1 n b.2=G at B;have c:wW (Sj lf ↑0 #[lt] n S1.length x y) (S1++[MO.dic []])=#[Sj lf ↑0 #[lt] n S1.length m q,(S1++[MO.dic []]).set S1.length (MO.dic (cO G)),0]:=by unfold wW;exists 7,yV (a _ _ k),B
 have E:((S1++[MO.dic []]).set S1.length (MO.dic (cO G)))[S1.length]? =#[cO G,7]:=get_set g2;have p:Old S1 ((S1++[MO.dic []]).set S1.length (MO.dic (cO G))):=a.set (à _) _;generalize Z:(S1++[MO.dic []]).set S1.length (MO.dic (cO G))=S3 at c E p;have M:wX (Sj lf ↑0 #[lt] n S1.length m q) S3=#[Tj lf ↑0 S3.length (some (zA n)) #[S1.length] m q,S3++[.lst (G.map xF)],0]:=by unfold wX;exists 7,Si E
 have D:Old S3 (S3++[.lst (G.map xF)]):=Old.app _ _;refine⟨Tj lf ↑0 S3.length (some (zA n)) #[S1.length] m q,_,?_,_,_,_,_,_,rfl,w.trans (p.trans D),D _ _ (p _ _ v),?_,?_,?_,?_⟩
 .rw[show zY 3 (zA n) (Tj lf ↑0 lt n0 g x y) S'=.ok (Tj lf ↑0 lt (some (zA n)) g x y) S' from rfl,xQ];unfold gN;rw[zB e1,zB e2,zB c,M]
 .have:=CW p;lia
 .show _=some (MO.lst ((grow (fB F) b.1 n b.2).map xF));rw[X];simp
 .show b.1++[n]=_;rw[r,List.take_add_one,C];rfl
 .exact Sk z A P n
theorem A8{F:↑11}(h:FoeAt S0 lf F S)(k: ∀i,fB F i i=false)(m: ∀i j,fB F i j=fB F j i)(B: ∀x∈F,x.2.2.length<=800)(A:F.length<=8)(d:L.Perm (F.map (·.1)))(hs:L.Pairwise (· <=·)):
  ∃told,PcN (fB F) L told/\zH 1 dG [#[lf,1]] S=#[told.map xF,S,2]:=by
 have C:L.length<=8:=by rw[d.length_eq,lM];exact A
 generalize a:S++[.lst []]++[.lst [.tup []]]=S2;have q:Old S S2:=by rw[<-a,aA];exact Old.app _ _
 obtain⟨ρ',S',e,lt,n,g,x,y,rfl,o,w,z,u,c,P⟩:=mQ (PsJ F lf S L) (psS (fB F)) 0 (λj n D b ρ S' J=>by rw[ĩ]at J ⊢;obtain⟨ρ',p,e,v⟩:=A7 h k m B C (λi hi=>d.mem_iff.mp hi) D J;exact⟨ρ',p,e,yP _,v⟩) ([],[[]]) _ S2 ⟨↑0+1,_,_,_,_,rfl,q,by rw[<-a];simp,by lia,by rw[<-a];simp,rfl,zCF _,by simp,by simp⟩;generalize E:L.foldl (psS (fB F)) ([],[[]])=r at w u c P;rw[ĩ,List.take_length]at c;refine⟨r.2,c▸P,?_⟩;obtain⟨T,s⟩:=o.is;refine XS rfl ?_ #[] (s▸u) (WC _ _);rw[<-s];show zP (dF [#[lf],none,none,none,none,none,none] S)=_;unfold dF;refine EW (yS (ρ':=[#[lf],#[↑0],none,none,none,none,none]) (S':=S++[.lst []]) ?_ (yS (ρ':=Tj lf ↑0 (↑0+1) none none none none) (S':=S2) ?_ (yS (ρ':=Tj lf ↑0 lt n g x y) (S':=S') ?_ ?_)))
 .unfold aX;exists 7,rfl
 .unfold aY;simp? [show∀S,wM [] S=.ok _ S from λS=>rfl,show∀S,kR [#[[],6]] S=.ok _ S from λS=>rfl];rw[a,lA];rfl
 .unfold aZ;exists 7,A6 (q _ _ h.dic) (by omega) d hs,show∀ds S,AA (.new ds) S=.ok ⟨ds,[]⟩ S from λ_ _=>rfl,e
 .unfold eA;exists 7,rfl
def zHG(S:Sto)(a b:Db):LA S zQ (xF a) (xF b)=some (decide (a<b)):=ZQ (n:=38) a b
def Dm(T:Ch):List (List Nat):=T.mergeSort λa b=>decide (a<=b)
def CY(T:Ch):(Dm T).Perm T:=List.mergeSort_perm _ _
def WD(T:Ch):(Dm T).Pairwise λa b=>a<=b:=by have:=List.pairwise_mergeSort (le:=λa b:List Nat=>decide (a<=b)) (λa b c h1 d=>dT0 (List.le_trans (ó h1) (ó d))) (λa b=>by rw[ī,decide_eq_true_iff,decide_eq_true_iff];exact List.le_total _ _) T;exact this.imp λh=>ó h
def SQ{T R:Ch}(p:R.Perm T)(q:R.Pairwise λa b=>a<=b):R=Dm T:=
 List.Perm.eq_of_pairwise (λa b _ _ h1 c=>List.le_antisymm h1 c) q (WD T) (p.trans (CY T).symm)
def Sl{T:Ch}(J:T.length<64)(I:2<=T.length->[]∉T)(S:Sto):JQ [.new (T.map xF)] S=#[(Dm T).map xF,S,2]:=by
 have mem: ∀k∈T.map xF, ∃t∈T,k=xF t:=λk E=>by obtain⟨t,h1,e⟩:=mM.mp E;exact⟨t,h1,e.symm⟩
 have at': ∀{m:Nat}{k:MV},_[m]? =some k-> ∃t,T[m]? =some t/\k=xF t:=λh=>by rw[ð]at h;obtain⟨t,h1,e⟩:=Option.map_eq_some_iff.mp h;exact⟨t,h1,e.symm⟩
 have ok:SrtJ S (T.map xF):=by
  refine⟨by rw[lM];exact J,λd w=>?_,λe d w=>?_,⟨λa n b o=>?_,λa n b o c s h1 e=>?_,λa n b o h1=>?_⟩⟩
  .obtain⟨t,r,rfl⟩:=mem d w;unfold xF rG;exact SJ λx H=>by obtain⟨y,_,rfl⟩:=mM.mp H;unfold zA rG;rfl
  .obtain⟨t,r,rfl⟩:=mem d w;rw[lM]at e
   cases t with
   |nil=>exact absurd r (I e)
   |cons x t=>exact⟨_,_,rfl⟩
  .obtain⟨t,r,rfl⟩:=mem a n;obtain⟨u,D,rfl⟩:=mem b o;exact⟨_,zHG S t u⟩
  .obtain⟨t,r,rfl⟩:=mem a n;obtain⟨u,D,rfl⟩:=mem b o;obtain⟨v,K,rfl⟩:=mem c s;rw[zHG]at h1 e ⊢;have h1:=of_decide_eq_false (ã h1);have e:=of_decide_eq_false (ã e);rw[dF0 (List.not_lt.mpr (List.le_trans (List.not_lt.mp h1) (List.not_lt.mp e)))]
  .obtain⟨t,r,rfl⟩:=mem a n;obtain⟨u,D,rfl⟩:=mem b o;rw[zHG]at h1 ⊢;rw[dF0 (List.not_lt.mpr (List.le_of_lt (ó (ã h1))))]
 refine Ya rfl ok (λL h=>?_) ?_
 .obtain⟨idx,p,q,rfl⟩:=h;rw[lM]at p;rw[<-SQ (R:=idx.filterMap _) (by have:=p.filterMap (T[·]?);rwa [OB]at this) (by rw[List.pairwise_filterMap];refine q.imp λ{i j} h b o c s=>?_;have h':=h _ _ (by rw[ð,o];rfl) (by rw[ð,s];rfl);rw[zHG]at h';exact List.not_lt.mp (of_decide_eq_false (ã h'))),List.map_filterMap];congr 1;funext i;rw[ð]
 .obtain⟨idx,B,A⟩:=RN (CY T).symm (g:=λi=>(T[i]?).getD []) _ (by rw[MS λi hi=>ò.mp hi,OB]);have G: ∀i,i∈idx->i<T.length:=λi hi=>ò.mp (B.mem_iff.mp hi);refine⟨idx,by rw[lM];exact B,?_,?_⟩
  .have C:=WD T;rw[<-A,Ġ]at C;refine ķ (λ{i j} hi M h a c n s=>?_) C;obtain⟨t,z,rfl⟩:=at' n;obtain⟨u,F,rfl⟩:=at' s;rw[z,F]at h;rw[zHG,dF0 (List.not_lt.mpr (show t<=u from h))]
  .rw[<-A,MS G,List.map_filterMap];congr 1;funext i;rw[ð]
theorem IZ: ∀{c:Db},c.Pairwise (· <·)-> ∀{a b:Nat},(a,b)∈jG c↔a∈c/\b∈c/\a<b
 |[],_,a,b=>by simp[jG]
 |x::c,h,a,b=>by
  obtain⟨h1,n⟩:=pairwise_cons.mp h;unfold jG;rw[æ,IZ n,mM,mC,mC];constructor
  .rintro(⟨j,m,e⟩|⟨d,k,i⟩)
   .cases e;exact⟨.inl rfl,.inr m,h1 _ m⟩
   .exact⟨.inr d,.inr k,i⟩
  .rintro⟨rfl|d,rfl|k,i⟩
   .exact absurd i (ĕ _)
   .exact .inl ⟨b,k,rfl⟩
   .exact absurd (h1 _ d) #[]
   .exact .inr ⟨d,k,i⟩
section
variable{ts:Tk}{rls:List Rule}{rs:List Row}
def WF(ts:Tk)(rls:List Rule)(rs:List Row)(i j:Nat):Bool:=ZR ts (xG rs i) (xG rs j) || rls.any λr=>rA r (xG rs i) (xG rs j)
def A9(p:Rule->Bool):((List.range rls.length).filter λk=>p (Ti rls k)).isEmpty= !rls.any p:=by
 rw[Ā,List.isEmpty_iff,ą,ý,List.filter_eq_nil_iff];constructor
 .intro h r b;obtain⟨k,a,rfl⟩:=ń b;rw[<-Ro k a];exact h k (ò.mpr a)
 .intro h k a;exact h _ (Hb (ò.mp a))
def K2(i j:Nat):J8 ts rls rs (i,j)=WF ts rls rs i j:=by
 unfold J8 QI WF
 cases ZR ts _ _ with
 |true=>simp
 |false=>rw[iN xF0,aN,List.isEmpty_map,A9 λr=>rA r _ _,Bool.not_not,Bool.false_or]
def Lu(r:Rule)(a b:Row):rA r a b=rA r b a:=by
 cases r with
 |never t qs=>rfl
 |tie t cs u ds=>rfl
 |apart t u qs=>exact Bool.or_comm _ _
def JA(i j:Nat):WF ts rls rs i j=WF ts rls rs j i:=by unfold WF ZR;rw[show(λr=>rA r _ _)=λr=>rA r _ _ from funext λr=>Lu r _ _,ġ.mpr (eq_comm)]
def Me(ts:Tk)(rls:List Rule)(rs:List Row)(P:Db):Bool:=(P.all λi=>P.all λj=>!(decide (i<j)&&WF ts rls rs i j))&& !Zt rls rs P
def Sm{P:Db}(a: ∀i∈P,i<↑4):Me ts rls rs P=true↔(∀i∈P, ∀j∈P,i<j->WF ts rls rs i j=false)/\(∀i∈P,(rls.any λr=>BM r (xG rs i))=false)/\ ∀t∈eZ rls rs,t.1∈P-> ∃j∈t.2,j∈P:=by unfold Me;rw[aE,ą,Rw a];refine and_congr ?_ Iff.rfl;rw[ø];refine forall_congr' λi=>forall_congr' λhi=>?_;rw[ø];refine forall_congr' λj=>forall_congr' λb=>?_;by_cases h:i<j<;>simp[h]
structure Md(ts:Tk)(rls:List Rule)(rs:List Row)(Hd:Db)(f:Nat->Nat->Bool)(C:Db)(told:Ch):Prop where
 h:bF (eZ rls rs) (cY rls rs (List.range ↑4)) Hd
 fi: ∀i j,f i j=true↔i∈Hd/\j∈Hd/\i≠j/\WF ts rls rs i j=true
 c: ∀i,i∈C↔ ∃j,f i j=true
 pc:Pc f (Hd.filter λi=>decide (i∈C)) told
noncomputable def Mf(Hd C R:Db):List Nat:=Hd.filter λi=>!decide (i∈C) || decide (i∈R)
def K4(h:bF (eZ rls rs) (cY rls rs (List.range ↑4)) Hd):Hd.Pairwise (· <·)/\ ∀i∈Hd,i<↑4/\(rls.any λr=>BM r (xG rs i))=false:=by
 refine⟨?_,λi hi=>?_⟩
 .obtain⟨⟨p,rfl⟩,_⟩:=h;exact(List.pairwise_lt_range.filter _).filter _
 .have:=å.mp ((sI h).1 i hi);exact⟨ò.mp this.1,by simpa using this.2⟩
def zCN{R K:Db}(M:Md ts rls rs Hd f C told)(a:bF (eZ rls rs) (Mf Hd C R) K):Dj ↑4 K:=by
 have e: ∃p,K=(List.range ↑4).filter p:=by obtain⟨⟨p,e⟩,_⟩:=a;obtain⟨⟨q,e2⟩,_⟩:=M.h;rw[e,Mf,e2,cY,filter_filter,filter_filter,filter_filter];exact⟨_,rfl⟩
 obtain⟨p,e⟩:=e;rw[e];refine filter_congr λi hi=>?_;rw[Ā,ë,å];exact⟨λz=>⟨hi,z⟩,λz=>z.2⟩
def OL{R:Db}{i:Nat}:i∈Mf Hd C R↔i∈Hd/\(i∈C->i∈R):=by unfold Mf;by_cases h:i∈C<;>simp[h]
def B1{R K:Db}(M:Md ts rls rs Hd f C told)(o:R∈told)(p:bF (eZ rls rs) (Mf Hd C R) K):Me ts rls rs K=true:=by
 obtain⟨b,n⟩:=sI p;have m:=(K4 M.h).2;have a:=λi hi=>(OL.mp (b i hi)).1;refine(Sm λi hi=>(m i (a i hi)).1).mpr ⟨λi hi j d k=>?_,λi hi=>(m i (a i hi)).2,n⟩
 cases e:WF ts rls rs i j with
 |false=>rfl
 |true=>
  have f1:=(M.fi i j).mpr ⟨a i hi,a j d,â k,e⟩;have f2:=(M.fi j i).mpr ⟨a j d,a i hi,(â k).symm,by rw[JA];exact e⟩;have:=M.pc.ind R o i ((OL.mp (b i hi)).2 ((M.c i).mpr ⟨j,f1⟩)) j ((OL.mp (b j d)).2 ((M.c j).mpr ⟨i,f2⟩));rw[f1]at this;cases this
def zCO{P:Db}(M:Md ts rls rs Hd f C told)(q:Dj ↑4 P)(o:Me ts rls rs P=true): ∃R∈told, ∀K,bF (eZ rls rs) (Mf Hd C R) K-> ∀i∈P,i∈K:=by
 have lt: ∀i∈P,i<rs.length:=λi hi=>by rw[q]at hi;exact ò.mp (å.mp hi).1
 obtain⟨d,g2,k⟩:=(Sm lt).mp o;have c:=M.h.2.2 (λi=>i∈P) (λi hi=>å.mpr ⟨ò.mpr (lt i hi),by rw[g2 i hi];rfl⟩) k
 obtain⟨R,s,hs⟩:=M.pc.cov _ (λi hi=>by
  obtain⟨h1,n⟩:=å.mp hi
  exact å.mpr ⟨c i h1,n⟩) λi hi j b=>by
   have hi:=(å.mp hi).1;have b:=(å.mp b).1
   cases e:f i j with
   |false=>rfl
   |true=>
    obtain⟨_,_,r,a⟩:=(M.fi i j).mp e;rcases Nat.lt_or_gt_of_ne r with z|z
    .rw[d i hi j b z]at a;cases a
    .rw[JA,d j b i hi z]at a;cases a
 exact⟨R,s,λK p=>p.2.2 (λi=>i∈P) (λi hi=>OL.mpr ⟨c i hi,λm=>hs i (å.mpr ⟨hi,dT0 m⟩)⟩) k⟩
end
theorem Sn(F:↑11)(i:Nat):(look (VZ F) (zA i)).isSome=decide (i∈F.map (·.1)):=by
 by_cases c: ∃x∈F,x.1=i
 .obtain⟨x,a,rfl⟩:=c;rw[dT0 (mem_map_of_mem a)];unfold look;rw[Option.isSome_map,List.find?_isSome];exact⟨_,mem_map_of_mem a,dT0 rfl⟩
 .rw[IY λx a e=>c ⟨x,a,e⟩,dF0 λh=>by obtain⟨x,a,e⟩:=mM.mp h;exact c ⟨x,a,e⟩];rfl
def zCP{l:Nat}{F:↑11}(h:S[l]? =#[VZ F,7])(a:Bool)(i:Nat):MZ a (.val (zA i)) #[l,1] S=#[.bl (if a=true then !decide (i∈F.map (·.1))else decide (i∈F.map (·.1))),S,1]:=by unfold MZ;rw[EX h];show(if DA _=true then _ else _)=_;rw[iP (ky i),Sn]
theorem B2{l:Nat}{F:↑11}(h:S[l]? =#[VZ F,7])(a:F.length<=8):zH 1 iD [#[l,1]] S=#[.non,S,1]:=by
 have e:YQ [#[l,1]] S=.ok #[(F.length:Nat),5] S:=by unfold YQ;dsimp only;rw[EX h];show R.ok _ S=_;rw[lM]
 refine yT (T:=[]) rfl ?_ (by unfold lo;trivial) (λl=>by simp);show zP (iC [some _] S)=_;unfold iC oB;simp? [e,show∀(i j:Int) _,zFN #[i,5] #[j,5] S=.ok _ S from λ_ _ _=>rfl,dF0 (show¬(15:Int)<(F.length:Nat) by lia)];rw[aN];rfl
def Hy{lt:Nat}{A:Db}(d:S[lt]? =#[ms,2])(e:TsAt S ms tk)(c:tk.length<=100000)(i:A.Nodup)(a:A.length<=100):
  ∃K,zH 2 yN [#[lt,1],.new (A.map zA)] S=#[xF K,S,1]/\bF tk A K:=by
 obtain⟨K,T,h1,b⟩:=OD (S3:=S++[.lst (A.map zA)]) (la:=↑0) (A:=A) (Old.app _ _ _ _ d) (e.mono λm ds h _=>Old.app _ _ _ _ h) c (by simp) i a;refine⟨K,yT (T:=[.lst (A.map zA)]++T) rfl ?_ (yO (sG K _)) (λl=>by simp),b⟩;show yN [.loc lt,.loc ↑0] (S++[.lst (A.map zA)])=_;rw[h1,aA]
theorem B3{T:Db}(d:L.Perm T)(hs:L.Pairwise (· <=·))(h:T.length<64)(S:Sto):YH [.new (T.map zA)] S=#[L.map zA,S,2]:=by show(if(T.map zA).length<64 then(match intsOf _ with |some ns=>R.ok _ S|none=>.no)else .no)=_;rw[iP (by rw[lM];exact h),HB];have e:L.map Int.ofNat=PySem.W.sortI _:=PySem.W.eq_sortI (d.map _) (Ġ.mpr (hs.imp λ{a b} c=>Int.ofNat_le.mpr c));show R.ok _ S=_;rw[<-e,û];rfl
noncomputable abbrev Ar(b:MV)(f u t g x:V0):Rho:=[some b,f,u,t,g,x]
theorem Hz{tk:List (Nat×List Nat)}(G:tk.length<=100000){Hd C:Db}(p:Hd.Pairwise (· <·))(F:Hd.length<=8){b:MV}{f:V0}{m lt lg:Nat}{ms:U0}(q:m≠lg)(u:lt≠lg):
  ∀(n d:Ch)(S:Sto)(x:V0),S[m]? =some (.lst ((Hd.filter λi=>!decide (i∈C)).map zA))->S[lt]? =#[ms,2]->(∀o,TsAt (S.set lg o) ms tk)->S[lg]? =#[cO d,7]->d.length+n.length<=1000->d.Nodup->(∀R∈n,R.Sublist (Hd.filter λi=>decide (i∈C)))->
   ∃A j,cF (zY 5) qM [] (n.map xF) (Ar b f #[m] #[lt] #[lg] x) S=#[Ar b f #[m] #[lt] #[lg] A,S.set lg (.dic (cO j)),0]/\j.Nodup/\j.length<=d.length+n.length/\ ∀K,K∈j↔K∈d\/ ∃R∈n,bF tk (Mf Hd C R) K
 |[],d,S,x,_,_,_,hg,_,hn,_=>⟨x,d,by rw[set_same hg];rfl,hn,à _,λK=>by simp⟩
 |R::n,d,S,x,hu,ht,hT,hg,hal,hn,hR=>by
  rw[lC]at hal;have s:=hR R (.head _)
  have y:(Mf Hd C R).Perm ((Hd.filter λi=>!decide (i∈C))++R):=by
   have O:R.Nodup:=(p.imp â).sublist (s.trans List.filter_sublist);have E: ∀i∈R,i∈Hd/\i∈C:=λi hi=>by simpa using å.mp (s.subset hi)
   refine(ĭ ((p.imp â).filter _) (ģ.mpr ⟨(p.imp â).filter _,O,λa H c J e=>?_⟩)).mpr λi=>?_
   .have:=(å.mp H).2;rw[e,dT0 (E c J).2]at this;cases this
   .show i∈Mf Hd C R↔_;rw[OL,æ,å];constructor
    .rintro⟨h1,k⟩;by_cases h:i∈C
     .exact .inr (k h)
     .exact .inl ⟨h1,by simp[h]⟩
    .rintro(⟨h1,k⟩|h)
     .exact⟨h1,λz=>by rw[dT0 z]at k;cases k⟩
     .exact⟨(E i h).1,λ_=>h⟩
  have B:(Mf Hd C R).length<=8:=ì (ï _ _) F;have r:(Mf Hd C R).Pairwise (· <·):=p.filter _;have w:TsAt S ms tk:=by have:=hT (.dic (cO d));rwa [set_same hg]at this
  obtain⟨K,L,D⟩:=Hy ht w G (r.imp â) #[]
  have N:qM (Ar b f #[m] #[lt] #[lg] (some (xF R))) S=#[Ar b f #[m] #[lt] #[lg] (some (xF R)),S.set lg (.dic (cO (vX d K))),0]:=by
   have M:wK #[m,1] (.new (R.map zA)) S=#[((Hd.filter λi=>!decide (i∈C))++R).map zA,S,2]:=by
    rw[Ć];refine Pk (by unfold Wb;dsimp only;rw[hu]) rfl (fits ?_);have:=y.length_eq;rw[lA]at this;rw[lM,lM]
    lia
   unfold qM uV EJ XN wI;simp? [Rh,M,B3 y (r.imp le_of_lt) (by rw[<-y.length_eq];lia),L,LM hg #[]]
  obtain⟨A,j,f1,f2,T,I⟩:=Hz G p F q u n (vX d K) _ (some (xF R)) (by rw[yI q.symm];exact hu) (by rw[yI u.symm];exact ht) (λo=>by rw[č];exact hT o) (get_set hg) (by have:=tZ d K;lia) (LN hn K) (λQ P=>hR Q (.tail _ P));refine⟨A,j,?_,f2,by have:=tZ d K;rw[lC];lia,λQ=>?_⟩
  .rw[ê,jI rfl N (yP _),f1,č]
  .rw[I,tY];constructor
   .rintro((h|rfl)|⟨v,h1,k⟩)
    .exact .inl h
    .exact .inr ⟨R,.head _,D⟩
    .exact .inr ⟨v,.tail _ h1,k⟩
   .rintro(h|⟨v,h1,k⟩)
    .exact .inl (.inl h)
    .rcases mC.mp h1 with rfl|h1
     .exact .inl (.inr (IX k D))
     .exact .inr ⟨v,h1,k⟩
section
variable{ts:Tk}{rls:List Rule}{rs:List Row}
def So(p:Ks.Nodup):2<=(Ks.filter λK=>!Ks.any λO=>EV O K).length->[]∉Ks.filter λK=>!Ks.any λO=>EV O K:=λj d=>by
 generalize n:(Ks.filter λK=>!Ks.any λO=>EV O K)=T at j d;have b:T.Nodup:=by rw[<-n];exact p.filter _
 have o: ∃K∈T,K≠[]:=by
  match T,j,b with
  |a::c::T,_,b=>
   by_cases e:a=[]
   .exact⟨c,by simp,λz=>by rw[e,z]at b;simp at b⟩
   .exact⟨a,.head _,e⟩
 obtain⟨K,k,h⟩:=o;rw[<-n]at d k;have m:=(å.mp d).2;rw[ą,ý]at m;exact m K (å.mp k).1 (VX.mpr ⟨by rw[ĉ];exact List.length_pos_iff.mpr h,λi hi=>(nomatch hi)⟩)
theorem zCQ(o: ∀K∈Ks,K.Nodup)(h: ∀K∈Ks,K.length<=1000)(n:Ks.length<64)(m:Ks.Nodup){b:MV}{f u t x:V0}{lg:Nat}(c:S[lg]? =#[cO Ks,7]):
  vA (Ar b f u t #[lg] x) S=.ok (.ret (.new ((Dm (Ks.filter λK=>!Ks.any λO=>EV O K)).map xF))) (S.set lg (.fdc (cO Ks))):=by
 have d:(S.set lg _)[lg]? =some (.fdc (cO Ks)):=get_set c;have e:=ZZ c;generalize S.set lg _=S1 at d e ⊢;have lk:((Ks.map xF).length<1000000)=True:=eq_true (by rw[lM];lia)
 have j:zV (zY 0) pF uX [none,some _] [] _ S1=.ok ((Ks.filter λK=>!Ks.any λO=>EV O K).map xF) S1:=xT (yP _) λK k=>by
  refine⟨_,rfl,?_,rfl⟩;have a:zV (zY 0) uW pE [none,some (xF K)] [] _ S1=.ok (Ks.map λO=>.bl (EV O K)) S1:=xX (yP _) λO i=>by refine⟨[some (xF O),some (xF K)],rfl,rfl,?_⟩;unfold pE;simp? [zCL (o O i) (h O i) (h K k)]
  unfold pF;exists 7,Aa d,lk,a,VU
 unfold vA;simp? [e,lk,show AB 1 [4] (Ar b f u t _ x)=[none,some _]from rfl,j];rw[Sl (lt_of_le_of_lt (ï _ _) n) (So m)];rfl
def B4(a:↑25)(i:↑30)(k:↑4<=100)(b:rls.length<=100)(S:Sto)(f u:V0):
  ∃lt ms S',qN (Ar ↑3 f u none none none) S=#[Ar ↑3 f u #[lt] none none,S',0]/\Old S S'/\S'[lt]? =#[ms,2]/\TsAt S' ms (eZ rls rs)/\(eZ rls rs).length<=100000:=by
 obtain⟨r,S1,h,c,j,d⟩:=Ru a i k b S;rcases j with⟨rfl,e⟩|⟨l,ms,rfl,g1,g2⟩
 .refine⟨S1.length,[],S1++[.lst []],?_,c.trans (Old.app _ _),by simp,by rw[e];exact .nil,d⟩;unfold qN;exists 7,h
 .refine⟨l,ms,S1,?_,c,g1,g2,d⟩;unfold qN;exists 7,h
theorem Sq(v:↑25)(hR:↑30)(hn:↑4<=8)(w:rls.length<=100)(S:Sto):
  ∃Ks:List (List Nat),Ks.Nodup/\(∀K∈Ks,Dj ↑4 K)/\(∀K∈Ks,Me ts rls rs K=true)/\(∀P,Dj ↑4 P->Me ts rls rs P=true-> ∃K∈Ks, ∀i∈P,i∈K)/\Ks.length<64/\
   zH 1 qO [.val ↑3] S=#[(Dm (Ks.filter λK=>!Ks.any λO=>EV O K)).map xF,S,2]:=by
 obtain⟨Hd,ai,hH⟩:=Dh v hR (show ↑4<=100 by lia) w (λi hi=>ò.mp hi) nodup_range (by rw[è];lia) [];obtain⟨p,H⟩:=K4 hH;have B:Hd.Nodup:=p.imp â;have af:Hd.length<=8:=ì (B.length_le_of_subset λi hi=>ò.mpr (H i hi).1) (by rw[è];exact hn);obtain⟨F,S1,f1,n⟩:=zCJ v hR (show ↑4<=20 by lia) w hH S
 have L: ∀i j,fB F i j=true↔i∈Hd/\j∈Hd/\i≠j/\WF ts rls rs i j=true:=λi j=>by
  rw[Dl n.at'.kn,n.fr,å,å,IZ p,IZ p,K2,K2,JA (ts:=ts) j i];constructor
  .rintro(⟨⟨h1,k,U⟩,E⟩|⟨⟨h1,k,U⟩,E⟩)
   .exact⟨h1,k,â U,E⟩
   .exact⟨k,h1,(â U).symm,E⟩
  .rintro⟨h1,k,U,E⟩;rcases Nat.lt_or_gt_of_ne U with z|z
   .exact .inl ⟨⟨h1,k,z⟩,E⟩
   .exact .inr ⟨⟨k,h1,z⟩,E⟩
 have ab: ∀i,fB F i i=false:=λi=>by
  cases e:fB F i i with
  |false=>rfl
  |true=>exact absurd rfl ((L i i).mp e).2.2.1
 have X: ∀i j,fB F i j=fB F j i:=λi j=>by rw[Ā,L,L,JA (ts:=ts) j i];exact⟨λ⟨a,b,c,d⟩=>⟨b,a,c.symm,d⟩,λ⟨a,b,c,d⟩=>⟨b,a,c.symm,d⟩⟩
 generalize G:F.map (·.1)=C
 have hc: ∀i,i∈C↔ ∃j,fB F i j=true:=λi=>by
  rw[<-G];constructor
  .intro h;obtain⟨x,Z,rfl⟩:=mM.mp h;obtain⟨j,Y⟩:=List.exists_mem_of_ne_nil _ (n.ne x Z);exact⟨j,(Dl n.at'.kn).mpr ⟨x,Z,rfl,Y⟩⟩
  .rintro⟨j,Y⟩;obtain⟨x,Z,rfl,_⟩:=(Dl n.at'.kn).mp Y;exact mem_map_of_mem Z
 have ch: ∀i∈C,i∈Hd:=λi hi=>by obtain⟨j,Y⟩:=(hc i).mp hi;exact((L i j).mp Y).1
 have W:C.Nodup:=by rw[<-G];exact Ġ.mpr n.at'.kn
 have pL:(Hd.filter λi=>decide (i∈C)).Perm (F.map (·.1)):=by rw[G];refine(ĭ (B.filter _) W).mpr λi=>?_;rw[å,ë];exact⟨λh=>h.2,λh=>⟨ch i h,h⟩⟩
 have J:F.length<=8:=by
  have:=W.length_le_of_subset ch;rw[<-G,lM]at this
  lia
 have N:(Hd.filter λi=>decide (i∈C)).Pairwise (· <·):=p.filter _;have ah:↑0<S1.length:=(gS.mp n.at'.dic).1;generalize D:S1++[.lst ((Hd.filter λi=>!decide (i∈C)).map zA)]=S2;have y:Old S1 S2:=by rw[<-D];exact Old.app _ _
 have u2:S2[S1.length]? =some (.lst ((Hd.filter λi=>!decide (i∈C)).map zA)):=by rw[<-D];simp
 have e3:uY (Ar ↑3 #[↑0] none none none none) S1=#[Ar ↑3 #[↑0] #[S1.length] none none none,S2,0]:=by
  obtain⟨K,k1,k2⟩:=Dh v hR (show ↑4<=100 by lia) w (λi hi=>ò.mp hi) nodup_range (by rw[è];lia) S1;rw[IX k2 hH]at k1;have ag:zV (zY 0) pD uU [none,#[↑0]] [] (Hd.map zA) S1=.ok ((Hd.filter λi=>!decide (i∈C)).map zA) S1:=xT (yP _) λi hi=>by refine⟨_,rfl,?_,rfl⟩;unfold pD;simp? [zCP n.at'.dic,G]
  unfold uY;simp? [Sb (show ↑4<=100 by lia),k1,cC,show((Hd.map zA).length<1000000)=True from eq_true (by rw[lM];lia),show AB 1 [1] (Ar ↑3 #[↑0] none none none none)=[none,#[↑0]]from rfl,ag];rw[D]
 obtain⟨lt,ms,S3,e4,u,t3,T3,I⟩:=B4 v hR (show ↑4<=100 by lia) w S2 #[↑0] #[S1.length];have q:Old S3 (S3++[MO.dic []]):=Old.app _ _;have e5:uZ (Ar ↑3 #[↑0] #[S1.length] #[lt] none none) S3=#[Ar ↑3 #[↑0] #[S1.length] #[lt] #[S3.length] none,S3++[MO.dic []],0]:=by unfold uZ;simp? [xQ];rfl
 obtain⟨told,P,p1⟩:=A8 (n.at'.mono (y.trans (u.trans q))) ab X n.ll J pL (N.imp le_of_lt);have g4:(S3++[MO.dic []])[S3.length]? =#[cO [],7]:=by simp[cO]
 have tl:told.length<64:=few X P N λi hi=>by have:=(H i (å.mp hi).1).1;lia
 have u3:=u _ _ u2;have ul:=(gS.mp u3).1;have ae:=(gS.mp t3).1;obtain⟨x',Ks,q1,q2,q3,q4⟩:=Hz I p af (lt:=lt) (lg:=S3.length) (ms:=ms) (C:=C) (â ul) (â ae) told [] (S3++[MO.dic []]) none (q _ _ u3) (q _ _ t3) (λo=>T3.mono λm ds h _=>by have hm:=(gS.mp h).1;rw[yI #[]];exact q _ _ h) g4 (by rw[ĉ];lia) .nil P.pc.sub;rw[ĉ,ĩ]at q3;have kk: ∀K,K∈Ks↔ ∃R∈told,bF (eZ rls rs) (Mf Hd C R) K:=λK=>by rw[q4];simp
 have M:Md ts rls rs Hd (fB F) C told:=⟨hH,L,hc,P.pc⟩
 have A: ∀K∈Ks,Dj ↑4 K:=λK s=>by obtain⟨R,_,h⟩:=(kk K).mp s;exact zCN M h
 refine⟨Ks,q2,A,λK s=>by obtain⟨R,h1,k⟩:=(kk K).mp s;exact B1 M h1 k,λQ h1 k=>?_,by lia,?_⟩
 .obtain⟨R,aa,hs⟩:=zCO M h1 k;obtain⟨K,_,s⟩:=Hy t3 T3 I (B.filter _) (ì (ï _ _) #[]);exact⟨K,(kk K).mpr ⟨R,aa,s⟩,hs K s⟩
 .have o4:Old S ((S3++[MO.dic []]).set S3.length (.fdc (cO Ks))):=(n.at'.old.trans (y.trans (u.trans q))).set (by have:=CW y;have:=CW u;lia) _;obtain⟨T,hT⟩:=o4.is;refine aK (T:=T) rfl ?_ (WC _ _);rw[<-hT];show zP (GN (Ar ↑3 none none none none none) S)=_;unfold GN;refine EW (yS (ρ':=Ar ↑3 #[↑0] none none none none) (S':=S1) ?_ (yS (S':=S1) ?_ (yS e3 (yS e4 (yS e5 (yS (ρ':=Ar ↑3 #[↑0] #[S1.length] #[lt] #[S3.length] x') (S':=(S3++[MO.dic []]).set S3.length (.dic (cO Ks))) ?_ ?_))))))
  .unfold EL;exists 7,f1
  .unfold EM;exists 7,B2 n.at'.dic J
  .unfold EN;exists 7,p1,show∀ds S,AA (.new ds) S=.ok ⟨ds,[]⟩ S from λ_ _=>rfl,q1
  .rw[zCQ (λK s=>Sa (A K s)) (λK s=>?_) #[] q2 (get_set g4),č];have:=congrArg List.length (A K s);have k:=ï (λi=>decide (i∈K)) (List.range ↑4);rw[è]at k
   lia
end
theorem JB{α β:Type}{step:List β->α->List β}{Q:α->Prop}{y:β}(h: ∀b a,y∈step b a↔y∈b\/Q a): ∀{l:List α}{b:List β},y∈l.foldl step b↔y∈b\/ ∃a∈l,Q a
 |[],b=>by simp
 |a::l,b=>by rw[ď,JB h,h];simp only[mC,exists_eq_or_imp,or_assoc]
theorem Ia{l:Nat}{ds:U0}(h:S[l]? =#[ds,2]):HV #[l,1] (.new []) S=#[.bl !ds.isEmpty,S,1]:=by
 have a:ME S #[l,1]=some (.ls ds):=by show(kS S _).map Vw.ls=_;rw[aL h];rfl
 unfold HV FL;rw[a];cases ds<;>rfl
theorem zCR{n:Nat}(h:n<=1000)(S:Sto):cR [.val (zA n)] S=.ok ⟨(List.range n).map zA,[]⟩ S:=by show cR [#[_,5]] S=_;rw[fH #[]];rfl
section
variable{ts:Tk}{rls:List Rule}{rs:List Row}
def zCS(ts:Tk)(rls:List Rule)(rs:List Row)(i:Nat)(b:Ch)(j:Nat):List (List Nat):=if WF ts rls rs i j=true then vX b [j,i]else b
def vY(ts:Tk)(rls:List Rule)(rs:List Row):List (List Nat):=(List.range ↑4).foldl (λb i=>(List.range i).foldl (zCS ts rls rs i) b) []
def WG{R:Db}:R∈vY ts rls rs↔ ∃i,i<↑4/\ ∃j,j<i/\WF ts rls rs i j=true/\R=[j,i]:=by
 unfold vY;rw[JB (Q:=λi=> ∃j∈List.range i,WF ts rls rs i j=true/\R=[j,i])]
 .simp
 .intro b i;refine JB λb j=>?_;unfold zCS;by_cases h:WF ts rls rs i j=true
  .rw[iP h,tY];simp[h]
  .rw[iN h];simp[h]
noncomputable abbrev Mg(b:MV)(l:Nat)(i j x y:V0):Rho:=[some b,#[l],i,j,x,y]
def LpJ(b:MV)(S:Sto)(i:V0)(c:Nat)(a:Ch)(ρ:Rho)(S':Sto):Prop:=(∃j x y,ρ=Mg b ↑0 i j x y)/\Old S S'/\S'[↑0]? =#[cO a,7]/\a.length<=c
theorem B5(s:↑25)(b:↑30)(E:rls.length<=100){i:Nat}(hi:i<↑4)(e:j<↑4){c:Nat}(H:c<1000){a:Ch}(J:LpJ ↑3 S (some (zA i)) c a ρ S'):
  ∃ρ' h,((zY 3 (zA j) ρ S').bind λv S0=>eP v S0)=#[ρ',h,0]/\LpJ ↑3 S (some (zA i)) (c+1) (zCS ts rls rs i a j) ρ' h:=by
 obtain⟨⟨G,x,y,rfl⟩,o,B,I⟩:=J;have k:=b _ (eY hi);have m:=b _ (eY e);generalize d:rls.filter (λr=>rA r (xG rs i) (xG rs j))=pt;have e1:bW (Mg ↑3 ↑0 (some (zA i)) (some (zA j)) x y) S'=#[Mg ↑3 ↑0 (some (zA i)) (some (zA j)) #[[zE (xG rs i),zE (xG rs j)],3] y,S',0]:=by unfold bW;simp? [sH,tB hi,tB e,tup2]
 have w:zV (zY 0) bV fM [none,#[[zE (xG rs i),zE (xG rs j)],3]] [] (rls.map zF) S'=.ok (pt.map zF) S':=by
  rw[<-d];refine xT (yP _) λr C=>⟨_,rfl,?_,rfl⟩
  obtain⟨_,_,_,F⟩:=ZP (s r C) k m S';unfold bV;exists 7,ix_tup rfl,ix_tup rfl,F
 have e2:bX (Mg ↑3 ↑0 (some (zA i)) (some (zA j)) #[[zE (xG rs i),zE (xG rs j)],3] y) S'=#[Mg ↑3 ↑0 (some (zA i)) (some (zA j)) #[[zE (xG rs i),zE (xG rs j)],3] #[S'.length],S'++[.lst (pt.map zF)],0]:=by unfold bX;exists 7,book1,cC,show((rls.map zF).length<1000000)=True from eq_true (by rw[lM];omega),w
 have p:Old S' (S'++[.lst (pt.map zF)]):=Old.app _ _;have g2:(S'++[MO.lst (pt.map zF)])[S'.length]? =#[pt.map zF,2]:=by simp
 have n:=p _ _ B;generalize S'++[MO.lst (pt.map zF)]=S2 at e2 p g2 n;have q:WF ts rls rs i j=(ZR ts (xG rs i) (xG rs j) || !pt.isEmpty):=by unfold WF;rw[<-d];congr 1;rw[Ā,ü,ą,List.isEmpty_eq_false_iff_exists_mem];simp[å]
 refine⟨Mg ↑3 ↑0 (some (zA i)) (some (zA j)) #[[zE (xG rs i),zE (xG rs j)],3] #[S'.length],_,?_,⟨_,_,_,rfl⟩,(o.trans p).set (à _) _,get_set n,?_⟩
 .rw[show zY 3 (zA j) _ S'=.ok (Mg ↑3 ↑0 (some (zA i)) (some (zA j)) x y) S' from rfl,xQ];unfold eP;rw[zB e1,zB e2];unfold fO zCS;rw[q];have sd:=LM n #[] [j,i] (Mg ↑3 ↑0 (some (zA i)) (some (zA j)) #[[zE (xG rs i),zE (xG rs j)],3] #[S'.length]);have A:(pt.map zF).isEmpty=pt.isEmpty:=by cases pt<;>rfl
  have D:S2.set ↑0 (.dic (cO a))=S2:=set_same n
  cases u:ZR ts (xG rs i) (xG rs j)with
  |true=>
   simp? [IU b hi,IU b e,HA k m,u,Bool.true_or];unfold XN wI;simp? [tup2];exact(by rw[show MV.tup [zA j,zA i]=xF [j,i]from rfl,sd];rfl)
  |false=>
   cases z:pt.isEmpty with
   |true=>
    simp? [IU b hi,IU b e,HA k m,u,Ia g2,A,z,Bool.not_true,Bool.or_self,fT0,iF,D]
   |false=>
    simp? [IU b hi,IU b e,HA k m,u,Ia g2,A,z,Ĳ,Bool.or_true];unfold XN wI;simp? [tup2,fT0,iF];exact(by rw[show MV.tup [zA j,zA i]=xF [j,i]from rfl,sd];rfl)
 .unfold zCS;split
  .have:=tZ a [j,i];lia
  .lia
theorem Ss(q:↑25)(E:↑30)(K:↑4<=8)(z:rls.length<=100)(S:Sto): ∃S',zH 1 bY [.val ↑3] S=.ok #[↑0,1] S'/\Old S S'/\S'[↑0]? =#[cO (vY ts rls rs),7]:=by
 obtain⟨ρ',S',e,⟨i,⟨j,x,y,rfl⟩⟩,o,p,_⟩:=mQ (gf:=zY 2) (body:=eQ) (λk a ρ S'=>(∃i, ∃j x y,ρ=Mg ↑3 ↑0 i j x y)/\Old S S'/\S'[↑0]? =#[cO a,7]/\a.length<=8 * k) (λb i=>(List.range i).foldl (zCS ts rls rs i) b) 0 (λk i C a ρ S' ⟨⟨I,j,x,y,u⟩,o,p,L⟩=>by subst u;obtain⟨m,h⟩:=gS.mp C;rw[è]at m;rw[getElem_range]at h;subst h;obtain⟨ρ',d,e,⟨A,F,H,rfl⟩,o',s,v⟩:=mQ (λc a ρ S'=>LpJ ↑3 S (some (zA k)) (8 * k+c) a ρ S') (zCS ts rls rs k) (ds:=List.range k) 0 (λc j G a ρ S' J=>by obtain⟨w,n⟩:=gS.mp G;rw[è]at w;rw[getElem_range]at n;subst n;obtain⟨ρ',d,e,B⟩:=B5 q E z m (show c<↑4 by lia) #[] J;exact⟨ρ',d,e,yP _,B⟩) a _ S' ⟨⟨_,_,_,rfl⟩,o,p,by lia⟩;rw[è]at v;refine⟨Mg ↑3 ↑0 (some (zA k)) A F H,d,?_,yP _,⟨_,_,_,_,rfl⟩,o',s,by lia⟩;rw[show zY 2 (zA k) _ S'=.ok _ S' from rfl,xQ];unfold eQ fP;simp? [zCR (show k<=1000 by lia)];exact e) [] _ (S++[MO.dic []]) ⟨⟨_,_,_,_,rfl⟩,Old.app _ _,by simp[cO],à _⟩;refine⟨S',?_,o,p⟩
 have D:bY [zD ts rls rs] S=.ok #[↑0,1] S':=by
  show zP _=_;unfold vD;refine EW (yS (ρ':=Mg ↑3 ↑0 none none none none) (S':=S++[MO.dic []]) ?_ (yS (ρ':=Mg ↑3 ↑0 i j x y) (S':=S') ?_ ?_))
  .unfold qT;simp? [xQ];rfl
  .unfold qU;simp? [sH,vG,lM];rw[show(MV.int (rs.length:Nat))=zA ↑4 from rfl,zCR #[]];exact e
  .unfold qV;simp? [xQ]
 unfold zH;rw[iP (show [Er.val ↑3].length=1 from rfl)];show((noX (bY [zD ts rls rs] S)).bind λr S2=>gV S r S2)=_;rw[D,yC,xQ];unfold gV;rw[iP (VS o)];dsimp only;rw[iN (ĕ _),p]
end
def Lv(S:Sto)(l:Nat)(A:Ch):Prop:=S[l]? =#[cO A,7]\/S[l]? =some (.fdc (cO A))
def B6{l:Nat}{A:Ch}(h:Lv S l A):NL #[l,1] S=.ok ⟨A.map xF,[]⟩ (S.set l (.fdc (cO A))):=by
 rcases h with h|h
 .exact ZZ h
 .rw[set_same h];exact Aa h
theorem B7{n:Nat}{F:↑8}{b:Bool}{l:Nat}{A:Ch}(j:↑4=n)(i:F (zO rs S).1 (zO rs S).2=#[.bl b,S.set l (.fdc (cO A))++T,1]):zH n F rs S=#[.bl b,S.set l (.fdc (cO A)),1]:=by
 unfold zH;rw[iP j,i,yC,xQ];have a:(S.set l (.fdc (cO A))).length=S.length:=ù
 have d:FK S (S.set l (.fdc (cO A))++T):=by
  refine⟨by rw[lA];lia,λm c=>?_⟩;rw[ç (by rw[a];exact c)];by_cases e:l=m
  .subst e;exact .inr ⟨_,ô c,λp h=>by obtain⟨R,_,rfl⟩:=mM.mp h;exact⟨yO (sG R _),ML _ _⟩⟩
  .exact .inl (í e)
 unfold gV;rw[iP d];dsimp only;rw[iP (ML _ _),show(S.set l _++T).take ↑0=S.set l (.fdc (cO A)) by rw[<-a];simp]
section
variable{ts:Tk}{rls:List Rule}{rs:List Row}
noncomputable abbrev As(b:MV)(lp la:Nat)(x w y z:V0):Rho:=[some b,#[lp],#[la],x,w,y,z]
def zCT{P:Db}(c: ∀i∈P,i<↑4):(vY ts rls rs).any (λR=>decide (R.getD 0 0∈P)&&decide (R.getD 1 0∈P))= !(P.all λi=>P.all λj=>!(decide (i<j)&&WF ts rls rs i j)):=by
 rw[Ā,ü,ą, <-Ę,ø];constructor
 .rintro⟨R,b,h⟩ z;obtain⟨i,hi,j,a,e,rfl⟩:=WG.mp b;rw[aE,ë,ë]at h;have:=ø.mp (z j h.1) i h.2;rw[JA]at e;rw[e,dT0 a]at this;cases this
 .intro z;refine ċ λn=>z λi hi=>ø.mpr λj a=>?_;by_cases l:i<j
  .cases e:WF ts rls rs i j with
   |false=>simp
   |true=>exact absurd ⟨_,WG.mpr ⟨j,c j a,i,l,by rw[JA];exact e,rfl⟩,by simp[hi,a]⟩ n
  .simp[l]
theorem B8(k:↑25)(v:↑30){P:Db}(u: ∀i∈P,i<↑4)(hl:P.length<=100)(h:Lv S lp (vY ts rls rs)):
  zH 3 bE [.val ↑3,#[lp,1],.new (P.map zA)] S=#[.bl (Me ts rls rs P),S.set lp (.fdc (cO (vY ts rls rs))),1]:=by
 have J:lp<S.length:=by rcases h with h|h<;>exact(gS.mp h).1
 have h':Lv (S++[.lst (P.map zA)]) lp (vY ts rls rs):=h.imp (Old.app _ _ _ _) (Old.app _ _ _ _);have H:=B6 h';rw[show(S++[MO.lst (P.map zA)]).set lp (.fdc (cO (vY ts rls rs)))=S.set lp (.fdc (cO (vY ts rls rs)))++[.lst (P.map zA)]from Ł _ _ J]at H;generalize Q:S.set lp (.fdc (cO (vY ts rls rs)))=G at H;have b:G.length=S.length:=by rw[<-Q];exact ù
 have m:(G++[MO.lst (P.map zA)])[↑0]? =#[P.map zA,2]:=by rw[<-b];simp
 have D: ∃T,bE [zD ts rls rs,.loc lp,.loc ↑0] (S++[.lst (P.map zA)])=#[.bl (Me ts rls rs P),G++T,1]:=by
  show∃T,zP (eR (As ↑3 lp ↑0 none none none none) (S++[.lst (P.map zA)]))=_;unfold eR
  obtain⟨B,n⟩:=tX (f:=xF) (p:=λR=>decide (R.getD 0 0∈P)&&decide (R.getD 1 0∈P)) (gf:=zY 3) (body:=xN) (gs:=[]) (S:=G++[.lst (P.map zA)]) (r:=.val (.bl false)) (λρ=> ∃x,ρ=As ↑3 lp ↑0 x none none none) (yP _) (ds:=vY ts rls rs) (λR v ρ ⟨x,a⟩=>by
   subst a;obtain⟨i,hi,j,hj,_,rfl⟩:=WG.mp v;have E: ∀S,zU (.val (xF [j,i])) #[0,5] S=#[zA j,S,1]:=λS=>ix_tup rfl;have I: ∀S,zU (.val (xF [j,i])) #[1,5] S=#[zA i,S,1]:=λS=>ix_tup rfl;refine⟨_,rfl,λq=>?_,λq=>⟨As ↑3 lp ↑0 (some (xF [j,i])) none none none,⟨_,rfl⟩,?_⟩⟩
   .have q:decide (j∈P)=true/\decide (i∈P)=true:=Bool.and_eq_true_iff.mp q;unfold xN jB;simp? [E,I,HC false m,q.1,q.2];rfl
   .have q:(decide (j∈P)&&decide (i∈P))=false:=q;unfold xN jB
    cases F:decide (j∈P)with
    |false=>simp? [E,I,HC false m,F];rfl
    |true=>
     rw[F,Ĥ]at q;simp? [E,I,HC false m,F,q];rfl) (As ↑3 lp ↑0 none none none none) ⟨_,rfl⟩
  rw[zCT u]at B n;have f1:bZ (As ↑3 lp ↑0 none none none none) (S++[.lst (P.map zA)])=cF (zY 3) xN [] ((vY ts rls rs).map xF) (As ↑3 lp ↑0 none none none none) (G++[.lst (P.map zA)]):=by unfold bZ;exists 7,H
  unfold Me
  cases N:(P.all λi=>P.all λj=>!(decide (i<j)&&WF ts rls rs i j))with
  |false=>
   rw[N]at B;rw[yG (f1.trans (B rfl))];exact⟨_,rfl⟩
  |true=>
   rw[N]at n;obtain⟨ρ',⟨x,rfl⟩,n⟩:=n rfl;rw[zB (f1.trans n)];have W:zV (zY 0) nS jC [none,some ↑3] [(↑0,P.map zA)] (P.map zA) (G++[.lst (P.map zA)])=.ok (P.map λi=>zE (xG rs i)) (G++[.lst (P.map zA)]):=xX (yQ m) λi hi=>⟨[some (zA i),some ↑3],rfl,rfl,by unfold jC;simp? [sH,tB (u i hi)]⟩
   have e2:cA (As ↑3 lp ↑0 x none none none) (G++[.lst (P.map zA)])=#[As ↑3 lp ↑0 x #[↑0+1] none none,G++[.lst (P.map zA),.lst ((P.map (xG rs)).map zE)],0]:=by unfold cA;simp? [yV m,show((P.map zA).length<1000000)=True from eq_true (by rw[lM];lia),show AB 1 [0] (As ↑3 lp ↑0 x none none none)=[none,some ↑3]from rfl,W];rw[lA,b,û,aA];rfl
   rw[zB e2];have g2:(G++[MO.lst (P.map zA),.lst ((P.map (xG rs)).map zE)])[↑0]? =#[P.map zA,2]:=by rw[<-b];simp
   have w:(G++[MO.lst (P.map zA),.lst ((P.map (xG rs)).map zE)])[↑0+1]? =#[(P.map (xG rs)).map zE,2]:=by rw[<-b];simp
   generalize C:[MO.lst (P.map zA),.lst ((P.map (xG rs)).map zE)]=T at g2 w;generalize U:S.length+1=l4 at w;have Y: ∀o∈P.map (xG rs),aD ts o:=λo h=>by obtain⟨i,hi,rfl⟩:=mM.mp h;exact v _ (eY (u i hi))
   have c: ∀{i:Nat},i<↑4-> ∀ρ,_->
     ((rls.any λr=>BM r (xG rs i) || nT r (xG rs i) (P.map (xG rs)))=true->cF (zY 6) kL [] (rls.map zF) ρ (G++T)=.ok ↑34 (G++T))/\
     _:=λ{i} hi=>by
    refine tX (λρ=> ∃y,ρ=As ↑3 lp ↑0 x #[l4] (some (zA i)) y) (yP _) λr O ρ ⟨y,a⟩=>?_;subst a;have K:aD ts (xG rs i):=v _ (eY hi);obtain⟨_,_,_,d⟩:=Gz (k r O) K (G++T);obtain⟨_,_,_,s⟩:=ZO (k r O) K Y (by rw[lM];lia) w w;refine⟨_,rfl,λh=>?_,λh=>⟨_,⟨some (zF r),rfl⟩,?_⟩⟩
    .unfold kL jD
     cases h1:BM r (xG rs i)with
     |true=>rw[h1]at d;simp? [sH,tB hi,d]
     |false=>
      rw[h1,Bool.false_or]at h;rw[h1]at d;rw[h]at s;simp? [sH,tB hi,d,s];rfl
    .rw[Bool.or_eq_false_iff]at h;rw[h.1]at d;rw[h.2]at s;unfold kL jD;simp? [sH,tB hi,d,s];rfl
   obtain⟨X,A⟩:=tX (f:=zA) (gf:=zY 5) (body:=xO) (gs:=[(↑0,P.map zA)]) (S:=G++T) (r:=.val (.bl false)) (λρ=> ∃y z,ρ=As ↑3 lp ↑0 x #[l4] y z) (yQ g2) (ds:=P) (λi hi ρ ⟨y,z,a⟩=>by
    subst a;obtain⟨p1,p2⟩:=c (u i hi) (As ↑3 lp ↑0 x #[l4] (some (zA i)) z) ⟨z,rfl⟩;refine⟨_,rfl,λh=>?_,λh=>?_⟩
    .unfold xO jE;simp? [book1,cC];exact p1 h
    .obtain⟨ρ',⟨Z,rfl⟩,e⟩:=p2 h;refine⟨As ↑3 lp ↑0 x #[l4] (some (zA i)) Z,⟨_,_,rfl⟩,?_⟩;unfold xO jE;simp? [book1,cC];exact e) (As ↑3 lp ↑0 x #[l4] none none) ⟨_,_,rfl⟩
   have L:cB (As ↑3 lp ↑0 x #[l4] none none) (G++T)=cF (zY 5) xO [(↑0,P.map zA)] (P.map zA) (As ↑3 lp ↑0 x #[l4] none none) (G++T):=by unfold cB;exists 7,yV g2
   unfold Zt
   cases M:P.any λi=>rls.any λr=>BM r (xG rs i) || nT r (xG rs i) (P.map (xG rs))with
   |true=>
    rw[yG (L.trans (X M))];exact⟨_,rfl⟩
   |false=>
    obtain⟨ρ',_,A⟩:=A M;rw[zB (L.trans A)];exact⟨_,rfl⟩
 obtain⟨T,C⟩:=D;rw[<-Q]at C ⊢;exact B7 rfl C
end
theorem C1(c k:Nat)(S:Sto):zBB (.val (zA c)) (.val (zA k)) S=#[zA (c / 2 ^ k),S,1]:=by show(if Yj (c:Int) (k:Int)then R.ok (Er.val (.int (_ / 2 ^ (_:Int).toNat))) S else .no)=_;rw[iP (show Yj _ _ from Int.natCast_nonneg k)];unfold zA;rfl
theorem Ab(a b:Nat)(S:Sto):Gb (.val (zA a)) (.val (zA b)) S=#[zA (a &&& b),S,1]:=by show(if True then R.ok (Er.val (.int (Builtin.bitAnd _ _))) S else .no)=_;unfold Builtin.bitAnd;rfl
theorem zCU(a b:Nat)(S:Sto):fD (.val (zA a)) (.val (zA b)) S=#[.bl (decide (a=b)),S,1]:=by unfold zA;exact congrArg (λx=>R.ok (Er.val _) S) (dec_is #[])
theorem zCV(a b:Nat)(S:Sto):HV (.val (zA a)) (.val (zA b)) S=#[.bl (!decide (a=b)),S,1]:=by unfold zA;rw[sP (CB zQ _ _),dec_is (show(a:Int)=b↔a=b by lia)]
theorem Do(b:Nat){m:Nat}(d:m<=8)(S:Sto):zH 2 qX [.val (zA b),.val (zA m)] S=#[(xV m b).map zA,S,2]:=by
 refine aK (T:=[]) rfl ?_ (sG _ _);show zP (vF [some _,some _] S)=_;unfold vF vE;have a:zV (zY 0) eS qW [none,some (zA b)] [] _ S=.ok ((xV m b).map zA) S:=xT (yP _) λk c=>by refine⟨_,rfl,?_,rfl⟩;unfold eS;simp? [C1];unfold zA;simp? [mod_lit (show _<2 by decide)];congr 1;rw[Nat.testBit_eq_decide_div_mod_eq];exact dec_is #[]
 simp? [zCR (show m<=1000 by lia),show(((List.range m).map zA).length<1000000)=True from eq_true (by rw[lM,è];lia),show AB 1 [0] [some _,some _]=[none,some _]from rfl,a];rw[aN];rfl
section
variable{ts:Tk}{rls:List Rule}{rs:List Row}
abbrev gB(ts:Tk)(rls:List Rule)(rs:List Row)(b:Nat):Bool:=Me ts rls rs (xV rs.length b)
def QL(ts:Tk)(rls:List Rule)(rs:List Row):List (List Nat):=Dm ((Mc (gB ts rls rs) (2 ^ ↑4) []).map (xV ↑4))
abbrev K6(b:MV)(lp m lf:Nat)(x:V0):Rho:=[some b,#[lp],some (zA m),#[lf],x]
theorem C4(m:↑25)(A:↑30)(v:↑4<=8)(o:Old S0 S)(s:Lv S S0.length (vY ts rls rs)){fd:Db}(b:S[lf]? =#[fd.map zA,2])(d:S0.length<lf)(B:fd.length<=500)(t:Nat)(x:V0):
  ∃a S',wG (K6 ↑3 S0.length ↑4 lf (some (zA t))) S=#[K6 ↑3 S0.length ↑4 a (some (zA t)),S',0]/\Old S0 S'/\Lv S' S0.length (vY ts rls rs)/\S0.length<a/\S'[a]? =some (.lst ((if fd.any (λo=>IW o t)=true then fd else if gB ts rls rs t=true then fd.filter (λo=>!IW t o)++[t]else fd).map zA)):=by
 have lk:((fd.map zA).length<1000000)=True:=eq_true (by rw[lM];lia);have bk:AB 1 [4] (K6 ↑3 S0.length ↑4 lf (some (zA t)))=[none,some (zA t)]:=rfl;have q:zV (zY 0) wY cK [none,some (zA t)] [(lf,fd.map zA)] (fd.map zA) S=.ok ((fd.filter λo=>IW o t).map zA) S:=xT (yQ b) λo _=>by refine⟨_,rfl,?_,rfl⟩;unfold wY;exists 7,Ab,zCU
 have k:((fd.filter λo=>IW o t).map zA).isEmpty= !fd.any λo=>IW o t:=by rw[List.isEmpty_map,Ā,List.isEmpty_iff,ą,ý,List.filter_eq_nil_iff]
 unfold wG cM
 cases h1:fd.any λo=>IW o t with
 |true=>
  refine⟨lf,S,?_,o,s,d,by rw[iP rfl];exact b⟩;simp? [yV b,lk,bk,q,LK,k,h1,Bool.not_true];rfl
 |false=>
  rw[iN xF0];have z: ∀i∈xV ↑4 t,i<rs.length:=λi hi=>(rB.mp hi).1;have n:(xV ↑4 t).length<=100:=ì (ï _ _) (by rw[è];lia);have c:=B8 m A z n s;have p:S0.length<S.length:=by rcases s with h|h<;>exact(gS.mp h).1
  have j:Old S0 (S.set S0.length (.fdc (cO (vY ts rls rs)))):=o.set (à _) _;have e:(S.set S0.length (.fdc (cO (vY ts rls rs))))[S0.length]? =some _:=ô p;have f1:(S.set S0.length (.fdc (cO (vY ts rls rs))))[lf]? =#[fd.map zA,2]:=by rw[yI #[]];exact b
  generalize S.set S0.length _=S1 at c j e f1
  cases u:gB ts rls rs t with
  |false=>
   rw[iN xF0];rw[show Me ts rls rs (xV ↑4 t)=false from u]at c;refine⟨lf,S1,?_,j,.inr e,d,f1⟩;simp? [yV b,lk,bk,q,LK,k,h1,Ĳ,Do t v,c];rfl
  |true=>
   rw[iP rfl];rw[show Me ts rls rs (xV ↑4 t)=true from u]at c;have y:zV (zY 0) wZ cL [none,some (zA t)] [(lf,fd.map zA)] (fd.map zA) S1=.ok ((fd.filter λo=>!IW t o).map zA) S1:=xT (yQ f1) λo _=>by refine⟨_,rfl,?_,rfl⟩;unfold wZ;simp? [Ab,zCV];unfold IW;rw[Nat.and_comm]
   have w: ∀S,wK (.new _) (.new [zA t]) S=#[(fd.filter (λo=>!IW t o)++[t]).map zA,S,2]:=λS=>by
    rw[Ć];refine Pk rfl rfl (fits ?_);have:=ï (λo=>!IW t o) fd;rw[lM];simp
    lia
   refine⟨S1.length,S1++[.lst ((fd.filter (λo=>!IW t o)++[t]).map zA)],?_,j.trans (Old.app _ _),.inr (Old.app _ _ _ _ e),by have:=(gS.mp e).1;lia,by simp⟩;simp? [yV b,lk,bk,q,LK,k,h1,Ĳ,Do t v,c,yV f1,y,Xc,w]
theorem Ib(b:↑25)(k:↑30)(j:↑4<=8){S0:Sto}: ∀(t:Nat)(fd:Db)(S:Sto)(lf:Nat)(x:V0),Old S0 S->Lv S S0.length (vY ts rls rs)->S[lf]? =#[fd.map zA,2]->S0.length<lf->fd.length+t<=500->
  ∃a S' p,cF (zY 4) wG [] ((List.range t).reverse.map zA) (K6 ↑3 S0.length ↑4 lf x) S=#[K6 ↑3 S0.length ↑4 a p,S',0]/\Old S0 S'/\S'[a]? =#[(Mc (gB ts rls rs) t fd).map zA,2]
 |0,fd,S,lf,x,o,hz,hf,hlf,hl=>⟨lf,S,x,rfl,o,hf⟩
 |t+1,fd,S,lf,x,o,hz,hf,hlf,hl=>by
  obtain⟨a,S',e,o',h,c,d⟩:=C4 b k j o hz hf hlf #[] t x
  obtain⟨i,S2,n,e2,m,f2⟩:=Ib b k j t _ S' a _ o' h d c (by
   split
   .lia
   .split
    .have:=ï (λo=>!IW t o) fd;rw[lA,lS];lia
    .lia)
  refine⟨i,S2,n,?_,m,f2⟩;rw[List.range_succ,List.reverse_append,List.reverse_singleton,List.singleton_append,ê,jI rfl e (yP _),e2]
theorem OM(b:↑25)(h:↑30)(n:↑4<=8)(a:rls.length<=100)(S:Sto): ∃Ks:List (List Nat),Ks.Nodup/\Ks.length<64/\(Ks.filter λK=>!Ks.any λO=>EV O K).Perm ((Mc (gB ts rls rs) (2 ^ ↑4) []).map (xV ↑4))/\zH 1 qO [.val ↑3] S=#[(QL ts rls rs).map xF,S,2]:=by obtain⟨Ks,d,e,m,j,i,k⟩:=Sq b h n a S;have c:=QK (zHE _ _) e m j d;refine⟨Ks,d,i,c,?_⟩;rw[k,SQ ((CY _).trans c) (WD _)];rfl
theorem Dp(a:↑25)(h:↑30)(c:↑4<=8)(d:rls.length<=100)(S:Sto):zH 1 nK [.val ↑3] S=#[(QL ts rls rs).map xF,S,2]:=by
 obtain⟨S1,p1,p2,p3⟩:=Ss a h c d S;have s:2 ^ ↑4<=256:=pow_le_pow_right ↑7 c;obtain⟨lf,S2,x,e,p,f2⟩:=Ib a h c (2 ^ ↑4) [] (S1++[.lst []]) S1.length none (p2.trans (Old.app _ _)) (.inl (Old.app _ _ _ _ p3)) (by simp) (gS.mp p3).1 (by rw[ĉ];lia);obtain⟨Ks,u,o,i,_⟩:=OM a h c d [];obtain⟨T,w⟩:=p.is;refine aK (T:=T) rfl ?_ (WC _ _);rw[<-w];show zP (nI [some ↑3,none,none,none,none] S)=_;unfold nI;refine EW (yS (ρ':=[some ↑3,#[↑0],none,none,none]) (S':=S1) ?_ (yS (ρ':=[some ↑3,#[↑0],some (zA ↑4),none,none]) (S':=S1) ?_ (yS (ρ':=K6 ↑3 ↑0 ↑4 S1.length none) (S':=S1++[.lst []]) ?_ (yS (ρ':=K6 ↑3 ↑0 ↑4 lf x) (S':=S2) ?_ ?_))))
 .unfold eT;exists 7,p1
 .unfold eU;simp? [sH,vG,lM];rfl
 .unfold eV;exists 7,rfl
 .unfold eW;have hs: ∀S,Y3 #[1,5] (.val (zA ↑4)) S=.ok #[((2 ^ rs.length:Nat):Int),5] S:=λS=>by show(if Y2 1 (rs.length:Int)then R.ok (Er.val (.int (1 * 2 ^ ((rs.length:Nat):Int).toNat))) S else .no)=_;rw[iP ⟨by lia,by lia,by decide⟩,Int.one_mul,ē,Int.natCast_pow];rfl
  have y: ∀S,YW [#[((2 ^ rs.length:Nat):Int) - 1,5],#[-1,5],#[-1,5]] S=.ok ⟨(List.range (2 ^ ↑4)).reverse.map zA,[]⟩ S:=λS=>by
   generalize 2 ^ rs.length=N at s;have v:((List.range N).map λk:Nat=>MV.int ((N:Int) - 1 - (k:Nat)))=(List.range N).reverse.map zA:=List.ext_getElem (by simp) λk h1 j=>by rw[lM,è]at h1;simp only[List.getElem_map,getElem_range,List.getElem_reverse,è];unfold zA;rw[show(N:Int) - 1 - (k:Nat)=((N - 1 - k:Nat):Int) by lia]
   show(if(-1:Int)= -1/\ -(2 ^ 62)<=(N:Int) - 1/\(N:Int) - 1<2 ^ 62/\ -(2 ^ 62)<=(-1:Int)/\(-1:Int)<2 ^ 62 then R.ok _ S else .no)=_;rw[iP ⟨rfl,by lia,by lia,by decide,by decide⟩,show((N:Int) - 1 - -1).toNat=N by lia,v]
  exists 7,hs,y,e
 .have n:zV (zY 0) cN kC [none,some (zA ↑4)] [_] _ S2=.ok (((Mc (gB ts rls rs) (2 ^ ↑4) []).map λb=>xF (xV ↑4 b))) S2:=xX (yQ f2) λb _=>by refine⟨[some (zA b),some (zA ↑4)],rfl,rfl,?_⟩;unfold kC;simp? [Do b c,IS]
  have m:((Mc (gB ts rls rs) (2 ^ ↑4) []).map (xV ↑4)).length<64:=by rw[<-i.length_eq];exact lt_of_le_of_lt (ï _ _) o
  unfold eX;simp? [yV f2,show(((Mc (gB ts rls rs) (2 ^ ↑4) []).map zA).length<1000000)=True from eq_true (by rw[lM]at m ⊢; lia),show AB 1 [2] (K6 ↑3 ↑0 ↑4 lf x)=[none,some (zA ↑4)]from rfl,n];rw[show((Mc (gB ts rls rs) (2 ^ ↑4) []).map λb=>xF (xV ↑4 b))=((Mc (gB ts rls rs) (2 ^ ↑4) []).map (xV ↑4)).map xF by rw[û];rfl,Sl m λj q=>So u (by rw[i.length_eq];exact j) (i.mem_iff.mpr q)];rfl
end
theorem Su{l:Nat}{ds:U0}(h:S[l]? =#[ds,2]):oS [#[l,1],.val (.typ "list")] S=#[.bl true,S,1]:=by
 have e:HX S #[l,1]=some "list":=by unfold HX;dsimp only;rw[aL h];rfl
 unfold oS;dsimp only;rw[e];rfl
def zCW{u n k:Nat}{ds:U0}(i:S[u]? =#[ds,2])(m:S[n]? =#[ds,2])(a: ∀d∈ds,pd d=true/\LE d<k):eqv S (k+1) (.loc u) (.loc n)=some true:=by
 have e: ∀l,S[l]? =some _->ME S #[l,1]=some (.ls ds):=λl h=>by show(kS S _).map Vw.ls=_;rw[aL h];rfl
 obtain⟨bs,h1,b⟩:=GS λd c f j=>qY k (a d c).1 (a f j).1 (a d c).2;rw[dT0 rfl,aE]at b;unfold eqv;rw[e u i,e n m];show(if ↑23=↑23 then(KL _ ds ds).map λbs=>bs.all id else some false)=_;rw[iP rfl,h1];show some (bs.all id)=_;rw[b.1]
theorem C5(ds:U0)(S:Sto):HV (.new ds) (.new []) S=#[.bl !ds.isEmpty,S,1]:=by cases ds<;>rfl
def C6{l:Nat}{ds:U0}(a:S[l]? =#[ds,2]):Pa #[l,1] [] S=#[.non,S.set l (.lst []),1]:=by unfold Pa HY;dsimp only;rw[a]
section
variable{ts:Tk}{rls:List Rule}{rs:List Row}
def zCX{K:Db}(a:↑4<=8)(h:K∈QL ts rls rs):K.length<=8:=by obtain⟨b,_,rfl⟩:=mM.mp ((CY _).mem_iff.mp h);exact ì (ï _ _) (by rw[è];exact a)
noncomputable abbrev Tl(q b:MV)(l:Nat)(t f s m:V0):Rho:=[some q,some b,#[l],t,f,s,m]
theorem Ac(e:↑25)(z:↑30)(n:↑4<=8)(m:rls.length<=100){q:MV}{l:Nat}(h:S[l]? =#[(QL ts rls rs).map xF,2])(t f s:V0):
  ∃A s' S',GO (Tl q ↑3 l t f s none) S=#[Tl q ↑3 l t A s' none,S',0]/\S'[l]? =#[(QL ts rls rs).map xF,2]:=by
 obtain⟨_,_,_,_,o⟩:=OM e z n m S;generalize w:QL ts rls rs=D at h o;have C:l<S.length:=(gS.mp h).1;have a:(S++[MO.lst (D.map xF)])[↑0]? =#[D.map xF,2]:=by simp
 have g2:(S++[MO.lst (D.map xF)])[l]? =#[D.map xF,2]:=Old.app _ _ _ _ h
 obtain⟨_,b⟩:=tX (f:=xF) (p:=λ_=>false) (gf:=zY 5) (body:=LD) (r:=.val (.bl false)) (λρ=> ∃s,ρ=Tl q ↑3 l t #[↑0] s none) (yQ a) (ds:=D) (λK v ρ ⟨y,i⟩=>by
  subst i;have B:=zCX n (w▸v);refine⟨_,rfl,λh=>(nomatch h),λ_=>⟨Tl q (zD ts rls rs) l t #[S.length] (some (xF K)) none,⟨_,rfl⟩,?_⟩⟩;have u:zV (zY 0) CT II [none] [] (K.map zA) (S++[.lst (D.map xF)])=.ok [] (S++[.lst (D.map xF)]):=RK (yP _) λd c=>by obtain⟨k,_,rfl⟩:=mM.mp c;refine⟨[some (zA k)],rfl,?_⟩;unfold CT;exists 7,show∀T,oS [.val (zA k),.val (.typ "bool")] T=#[.bl false,T,1] from λ_=>rfl
  unfold LD IK;simp? [show∀T,oS [.val (xF K),.val (.typ "tuple")] T=#[.bl true,T,1] from λ_=>rfl,cC,show((K.map zA).length<1000000)=True from eq_true (by rw[lM];lia),show AB 1 [] _=[none]from rfl,u,Pm,C5];rfl) _ ⟨_,rfl⟩
 obtain⟨ρ',⟨s',rfl⟩,b⟩:=b (by simp);refine⟨#[↑0],s',(S++[MO.lst (D.map xF)]).set ↑0 (.lst []),?_,by rw[yI #[]];exact g2⟩;unfold GO;refine yS (ρ':=Tl q ↑3 l t #[↑0] s none) (S':=S++[.lst (D.map xF)]) ?_ (yS (ρ':=Tl q ↑3 l t #[↑0] s none) (S':=S++[.lst (D.map xF)]) ?_ (yS (ρ':=Tl q ↑3 l t #[↑0] s' none) (S':=S++[.lst (D.map xF)]) ?_ ?_))
 .unfold IL;exists 7,o
 .have j:HV #[↑0,1] #[l,1] (S++[.lst (D.map xF)])=#[.bl false,S++[.lst (D.map xF)],1]:=sP (zCW a g2 λd c=>by obtain⟨K,_,rfl⟩:=mM.mp c;exact Hu K);unfold IM;simp? [Su a,j];rfl
 .unfold IO;exists 7,yV a,b
 .unfold IP;exists 7,nL a,C6 a
end
theorem Sv(c:Za)(h:c.length<=63): ∃S,ZD [.scr (c.map MV.int)] []=#[.bl true,S,1]:=by
 obtain⟨ts,rls,rs,y,b,e,d,a,n⟩:=Zl c h;have a:rls.length<=100:=by lia
 have w:=Dp b e d a [];obtain⟨f1,s,S1,m,o⟩:=Ac b e d a (l:=0) (S:=[.lst _]) rfl #[0,0] none none;obtain⟨f2,i,S2,u,g2⟩:=Ac b e d a o #[1,0] f1 s;obtain⟨_,_,_,_,k⟩:=OM b e d a S2;have p:zH 1 iI [.val ↑3] S2=.ok #[(QL ts rls rs).length,5] S2:=by refine yT (T:=[]) rfl ?_ (xD _ _) (λl=>by simp);show zP (iH [some ↑3] S2)=_;unfold iH oC;simp? [k];rw[show∀ds S,cS [.new ds] S=.ok _ S from λ_ _=>rfl,lM,aN];rfl
 refine⟨S2,?_⟩;show zP (Ge [some _,none,none,none,none,none,none] [])=_;unfold Ge;refine EW (yS (ρ':=[some (.scr (c.map MV.int)),some ↑3,none,none,none,none,none]) (S':=[]) ?_ (yS (ρ':=Tl (.scr (c.map MV.int)) ↑3 0 none none none none) (S':=[.lst ((QL ts rls rs).map xF)]) ?_ (yS (ρ':=Tl (.scr (c.map MV.int)) ↑3 0 #[1,0] f2 i none) (S':=S2) ?_ (yS (ρ':=Tl (.scr (c.map MV.int)) ↑3 0 #[1,0] f2 i #[(QL ts rls rs).length,0]) (S':=S2) ?_ ?_))))
 .unfold UV;exists 7,n
 .unfold UW;exists 7,w
 .unfold UX;simp? [fH (j:=2) ⟨by decide,by decide⟩];show cF (zY 3) GO [] [.int 0,.int 1] _ _=_;rw[jI rfl m (yP _),jI rfl u (yP _)];rfl
 .unfold UY;exists 7,p
 .unfold UZ;have v:cS [#[0,1]] S2=.ok #[(QL ts rls rs).length,5] S2:=by rw[SqM.len (.inr ⟨0,rfl,g2⟩),lM]
  simp? [zBT,zBU];show((cS [Er.val (MV.loc 0)] S2).bind λq S=>fD _ q S).bind (λr S=>R.ok (Fl.ret r) S)=_;rw[v,xQ,eq_int,dT0 rfl];rfl
section
variable{P:ň}{w:World}{K:Q0}{mg:L0}{base:Heap}
noncomputable def top(i:Nat):Stmt:=PySem.Challenge.pw_mendsure_k20_all_mended_books.main.body.getD i (.Pass ⟨0,0,0,0⟩)
set_option bootstrap.genMatcherCode true in
local macro_rules
 | `(tactic|exists 1,$t)=>`(tactic|with_reducible show $t)
 | `(tactic|exists 7,$t)=>`(tactic|exists 1,zN _ _ _ $t)
 | `(tactic|exists 8,$t)=>`(tactic|exists 1,UB _ _ _ _ (bJ _ $t))
 | `(tactic|exists 3,$t)=>`(tactic|exists 1,zN _ _ (.Call (.Name $t _) _ _ _) _)
 | `(tactic|exists 4,$t)=>`(tactic|exists 1,zN _ _ (.Call (.Attribute _ $t _) _ _ _) _)
 | `(tactic|exists 5,$t)=>`(tactic|exists 1,zN _ _ (.BinOp _ $t _ _) _)
 | `(tactic|exists 6,$t)=>`(tactic|exists 1,zN _ _ (.Compare _ [$t] _ _) _)
 | `(tactic|and_intros)=>`(tactic|repeat' (first |(exists 1,PX _ _ _ (λ_ _=>R.no);exact Od)|(exists 1,FH _ _ [_] _;refine Bj ?_)|(exists 1,FH _ _ (_::_) _;refine UA ?_ ?_)|(exists 1,FH _ _ [] _;exact W1)|(exists 1,PX _ _ (.Assign _ (.ListComp _ _ _ _) _) _;refine Qp ‹_› ?_ (λ_ _ _ _ _=>?_) (λ_ _ _ _=>?_) (λ_ _ _ _=>?_))|(exists 1,PX _ _ (.Assign [.Name _ _] _ _) _;refine W6 _ ‹_› ?_)|(exists 1,PX _ _ (.Assign _ _ _) _;refine W8 ?_ ?_)|(exists 1,PX _ _ (.Return _ _) _;refine W2 ?_)|(exists 1,PX _ _ (.For _ _ _ _ _) _;refine X1 PassesOwn.never rfl ?_ ?_ ?_)|(exists 1,PX _ _ (.If _ _ _ _) _;refine zFE ?_ ?_ ?_)|(exists 1,PX _ _ (.Expr _ _) _;refine Vj ?_)|(exists 1,PX _ _ (.While _ _ _ _) _;refine Og _ PassesOwn.never ?_ ?_)|(exists 1,zN _ _ (.Name _ _) _;first |(exists 1,zN _ _ (.Name _ _) (vJ _);exact U3 _)|exact XJ rfl ‹_› Wn|exact XJ rfl ‹_› Z5|exact XJ rfl ‹_› Z6|exact XJ rfl ‹_› UI|exact XJ rfl ‹_› FQ|exact Ve rfl ‹_›)|(exists 1,zN _ _ (.Constant _ _ _) _;first |exact U5|exact zFA|exact U7 _|exact U6)|(exists 1,zN _ _ (.UnaryOp _ _ _) _;first |exact U8|refine V3 ?_)|(exists 1,zN _ _ (.List _ _) _;refine V9 ?_)|(exists 1,zN _ _ (.Tuple _ _ _) _;refine V8 ?_)|(exists 1,zN _ _ (.BinOp _ _ _ _) _;first |(exists 5,.Add;refine Y5 ?_ ?_)|(exists 5,.Mult;refine Y6 ?_ ?_)|(exists 5,.Mod;refine X8 ?_ ?_)|(exists 5,.Sub;refine X6 ?_ ?_)|(exists 5,.FloorDiv;refine X7 ?_ ?_)|(exists 5,.Pow;refine Y1 ?_ ?_)|(exists 5,.BitAnd;refine Yo ?_ ?_)|(exists 5,.RShift;refine zBC ?_ ?_)|(exists 5,.LShift;refine Y4 ?_ ?_))|(exists 1,zN _ _ (.Compare _ _ _ _) _;first |(exists 6,.Eq;refine zFH (Room.units ‹_›) ?_ ?_)|(exists 6,.In;refine zFS (Room.units ‹_›) ?_ ?_)|(exists 6,.NotEq;refine zFJ (Room.units ‹_›) ?_ ?_)|(exists 6,.Lt;refine zFL (Room.units ‹_›) ?_ ?_)|(exists 6,.Gt;refine zFO ?_ ?_))|(exists 1,zN _ _ (.Subscript _ _ _) _;first |(exists 1,zN _ _ (.Subscript _ _ _) (dJ zU _ _);refine zFR ?_ ?_)|(exists 1,zN _ _ (.Subscript _ _ _) (tJ EC _ _ _);refine Y7 ?_ ?_ ?_)|(exists 1,zN _ _ (.Subscript _ _ _) (dJ UR _ _);refine zBG ?_ ?_))|(exists 1,zN (zM _ _ _ _ _ _ _ _) _ (.ListComp _ _ _ _) _;refine Qs ‹_› ?_ (λ_ _ _ _ _=>?_) (λ_ _ _ _=>?_) (λ_ _ _ _=>?_))|(exists 1,zN _ _ (.ListComp _ _ _ _) _;refine Qo ‹_› ?_ (λ_ _ _ _ _=>?_) (λ_ _ _ _=>?_) (λ_ _ _ _=>?_))|(exists 1,zN _ _ (.Attribute _ _ _) _;refine Xs ‹_› ?_)|(exists 1,zN _ _ (.Dict _ _ _) _;exact Pp)|(exists 1,zN _ _ (.BoolOp _ _ _) _;first |refine V2 ?_ ?_|refine V1 ?_|refine zFB ?_ ?_)|(exists 1,zN _ _ (.Call (.Attribute _ _ _) _ _ _) _;first |(exists 4,"append";refine Js ?_ ?_)|(exists 4,"parts_in_turn";refine GA ‹_› (Room.mono ‹_› (by decide)) ?_ ?_)|(exists 4,"lacks";refine GA ‹_› (Room.mono ‹_› (by decide)) ?_ ?_)|(exists 4,"setdefault";refine zBF ?_ ?_)|(exists 4,"clear";refine Pd ?_)|(exists 4,"extend";refine Ke ?_ ?_)|(exists 4,"parts_them";refine GA ‹_› (Room.mono ‹_› (by decide)) ?_ ?_)|(exists 4,"pop";refine Yg ?_ ?_)|(exists 4,"bars";refine GA ‹_› (Room.mono ‹_› (by decide)) ?_ ?_)|(exists 4,"join";refine Xw ?_ ?_))|(exists 1,zN _ _ (.Call (.Name _ _) _ _ _) _;first |(exists 3,"len";refine aG Jq Y9 rfl ‹_› Br ?_)|(exists 3,"isinstance";refine aG Oy Z2 rfl ‹_› QB ?_)|(exists 3,"tuple";refine tL PN Oz rfl ‹_› FQ ?_)|(exists 3,"any";refine aG UP (zBA rfl) rfl ‹_› Z4 ?_)|(exists 3,"all";refine aG TU (Z1 rfl) rfl ‹_› Z3 ?_)|(exists 1,zN _ _ (.Call (.Name "list" _) _ _ _) (bJ _ RH);refine tL TL Wm rfl ‹_› UI ?_)|(exists 1,zN _ _ (.Call (.Name "sorted" _) _ _ _) (bJ _ JQ);refine aG (Kg (Room.u128 ‹_›)) Yb rfl ‹_› EE ?_)|(exists 3,"Never";refine MY ‹_› (Room.mono ‹_› (by decide)) rfl ?_)|(exists 3,"Apart";refine MY ‹_› (Room.mono ‹_› (by decide)) rfl ?_)|(exists 3,"Tie";refine MY ‹_› (Room.mono ‹_› (by decide)) rfl ?_)|(exists 1,zN _ _ (.Call (.Name "tuple" _) _ _ _) (bJ _ YJ);refine Xr rfl rfl ‹_› rfl ‹_› ?_)|(exists 3,"dict";refine tL Kr (Ym rfl) rfl ‹_› Yl ?_)|(exists 1,zN _ _ (.Call (.Name "tuple" _) _ _ _) (bJ _ RV);refine tL Ko (Yh rfl) rfl ‹_› FQ ?_)|(exists 3,"len";refine aG Kt Yn rfl ‹_› Br ?_)|(exists 1,zN _ _ (.Call (.Name "sorted" _) _ _ _) (bJ _ RW);refine aG Kp (Yi rfl) rfl ‹_› EE ?_)|(exists 1,zN _ _ (.Call (.Name "list" _) _ _ _) (bJ _ IF);refine tL Cm (Qn rfl) rfl ‹_› UI ?_)|(exists 1,zN _ _ (.Call (.Name "len" _) _ _ _) (zGR _ _);refine Yt rfl rfl ‹_› rfl ‹_› ?_ ?_)|(exists 1,zN _ _ (.Call (.Name "sorted" _) _ _ _) (bJ _ YH);refine aG Ka Xp rfl ‹_› EE ?_)|(exists 3,"min";refine aG (Iq rfl) zAS rfl ‹_› zAT ?_)|refine Qf ‹_› (Room.mono ‹_› (by decide)) rfl ?_)|(exists 1,BV _ _ (.Compare _ _ _ _) _;first |(exists 1,BV _ _ (.Compare _ [.Eq] _ _) _;refine zFI (Room.units ‹_›) ?_ ?_)|(exists 1,BV _ _ (.Compare _ [.NotEq] _ _) _;refine zFK (Room.units ‹_›) ?_ ?_)|(exists 1,BV _ _ (.Compare _ [.NotIn] _ _) _;refine Ow (Room.units ‹_›) ?_ ?_)|(exists 1,BV _ _ (.Compare _ [.In] _ _) _;refine zAZ ?_ ?_)|(exists 1,BV _ _ (.Compare _ [.Lt] _ _) _;refine zFM (Room.units ‹_›) ?_ ?_)|(exists 1,BV _ _ (.Compare _ [.In] _ _) _;refine zFT (Room.units ‹_›) ?_ ?_)|(exists 1,BV _ _ (.Compare _ [.Gt] _ _) _;refine zFP ?_ ?_)|(exists 1,BV _ _ (.Compare _ [.NotIn] _ _) _;refine Kl ?_ ?_)|(exists 1,BV _ _ (.Compare _ [.GtE] _ _) _;refine zFQ ?_ ?_))|(exists 1,BV _ _ (.UnaryOp _ _ _) _;refine V6 ?_)|(exists 1,BV _ _ (.BoolOp _ _ _) _;refine zFD ?_)|(exists 1,BV _ _ _ _;refine Nz ?_)|(exists 1,F3 _ _ _ _;first |refine zFC ?_ ?_|refine V4 ?_|refine V5 ?_ ?_|refine Vf ?_)|(exists 1,LY _ _ _ _;first |refine Vg ?_ ?_|exact V7)|(exists 1,T9 _ _ _ _;first |refine Vi ?_|exact Vh)|(exists 1,UC _ _ _ _;first |exact Vs|refine Vt ?_)|(exists 1,UB _ _ _ _ _;first |(exists 8,AA;refine Vo ?_)|(exists 8,cR;refine Jk rfl ‹_› ?_)|(exists 8,XO;refine W9 ?_)|(exists 8,Pn;refine Xe rfl ‹_› ?_)|(exists 8,NL;refine Yv ?_)|(exists 8,YW;refine Lb rfl ‹_› ?_))|(exists 1,Oe _ _ (.Name _ _) _;exact Vk _ ‹_›)|(exists 1,Oe _ _ _ _;first |refine W4 rfl ?_|(exists 1,Oe _ _ _ (DJ DG _ _);refine Xh (Room.units ‹_›) ?_ ?_)|(exists 1,Oe _ _ _ (DJ RI _ _);refine Z7 ?_ ?_))|(exists 1,Of _ _ _ _;first |refine Vm ?_ ?_|exact W3)|(exists 1,Oh _ _ _ (.Name _ _) _;exact Vq _ ‹_›)|(exists 1,Oh _ _ _ _ _;refine X3 rfl ?_)|(exists 1,Oi _ _ _ _ _;first |refine Vr ?_ ?_|exact X2)))
 | `(tactic|exists 2,$f:ident,$xs:ident,*)=>`(tactic|(refine okA $f ‹_› (λ_ _ _ _ _ _ _ _ _ _=>?_);delta $f $xs*; (first |refine Bj ?_|refine UA ?_ ?_);and_intros))
 | `(tactic|exists 0,$f:ident,$xs:ident,*)=>`(tactic|(refine okL $f ‹_› (λ_ _ _ _ _ _ _ _ _=>?_);delta $f $xs*; (first |refine Bj ?_|refine UA ?_ ?_);and_intros))
def Sw:FnScope ["self","parts"] ["self","parts"] (zK (inClass (top 7) 0)):=fsK (by decide+kernel)
def Ad(D:DefM K mg "is_whole" (top 1))(b:mg "int"=none)(c:mg "isinstance"=none)(a:mg "bool"=none):Qd P w K mg base "is_whole" 1 1 ["thing"] qD:=by exists 2,NP,GE
def QM(D:DefM K mg "side_value" (top 3)):Qd P w K mg base "side_value" 1 2 ["side","looked_at"] aO:=by exists 2,oW,kE,aM
def Dq(D:DefM K mg "fulfils" (top 4))(b:Qd P w K mg base "side_value" 1 2 ["side","looked_at"] aO)(a:Qd P w K mg base "is_whole" 1 1 ["thing"] qD):Qd P w K mg base "fulfils" 2 2 ["looked_at","test"] CI:=by exists 2,CG,rL,rM,rN,rO,rP
def OO(D:DefM K mg "fulfils_all" (top 5))(a:Qd P w K mg base "fulfils" 2 2 ["looked_at","test"] CI)(b:mg "all"=none):Qd P w K mg base "fulfils_all" 3 2 ["looked_at","tests"] xK:=by exists 2,fU,mY,aP,gC
def Ae(D:DefM K mg "cells_in" (top 6)):Qd P w K mg base "cells_in" 1 2 ["row","columns"] qF:=by exists 2,uM,uL,qE,aQ
abbrev Af:Stmt:=inClass (top 7) 1
def WH{f:Addr}(F:Fun K "bars" "Rule.bars" Af f fd):FnOk P w K mg base BS 1 f fd ["self","row"] (PY ⟨K,mg,P,w⟩ 2 mL):=by exists 0,yW,DL
abbrev HE:Stmt:=inClass (top 7) 2
def EY{f:Addr}(F:Fun K "parts_them" "Rule.parts_them" HE f fd):FnOk P w K mg base BS 1 f fd ["self","row","other"] (PY ⟨K,mg,P,w⟩ 3 wA):=by exists 0,zT,oP
abbrev WI:Stmt:=inClass (top 7) 3
def QN{f:Addr}(F:Fun K "lacks" "Rule.lacks" WI f fd):FnOk P w K mg base BS 1 f fd ["self","row","rows"] (PY ⟨K,mg,P,w⟩ 3 aR):=by exists 0,yR,AT
abbrev WJ:Stmt:=inClass (top 8) 0
def QO{f:Addr}(F:Fun K "bars" "Never.bars" WJ f fd)(a:zHS K ZC "parts")(b:Qd P w K mg base "fulfils_all" 3 2 ["looked_at","tests"] xK):FnOk P w K mg base BS 4 f fd ["self","row"] (PY ⟨K,mg,P,w⟩ 2 GF):=by exists 0,xH,qG
abbrev vZ:Stmt:=inClass (top 9) 0
def vK{f:Addr}(F:Fun K "parts_in_turn" "Apart.parts_in_turn" vZ f fd)(a:zHS K ZC "parts")(b:Qd P w K mg base "fulfils_all" 3 2 ["looked_at","tests"] xK):FnOk P w K mg base BS 4 f fd ["self","row","other"] (PY ⟨K,mg,P,w⟩ 3 xU):=by exists 0,zS,xA,kG
abbrev EZ:Stmt:=inClass (top 9) 1
def DB{f:Addr}(F:Fun K "parts_them" "Apart.parts_them" EZ f fd)(a:G7 P w K mg base "parts_in_turn" 4 3 xM):FnOk P w K mg base BS 5 f fd ["self","row","other"] (PY ⟨K,mg,P,w⟩ 3 qH):=by exists 0,yA,gX
abbrev Ag:Stmt:=inClass (top 10) 0
def WK{f:Addr}(F:Fun K "lacks" "Tie.lacks" Ag f fd)(a:zHS K ZC "parts")(b:Qd P w K mg base "cells_in" 1 2 ["row","columns"] qF):FnOk P w K mg base BS 2 f fd ["self","row","rows"] (PY ⟨K,mg,P,w⟩ 3 rQ):=by exists 0,yX,jP,fV,fW,DM,cU,mZ
def Dr(D:DefM K mg "rule_of" (top 11))(b:G6 P w K mg base "Never" "parts")(a:G6 P w K mg base "Apart" "parts")(c:G6 P w K mg base "Tie" "parts"):Qd P w K mg base "rule_of" 3 1 ["parts"] CK:=by exists 2,pU,kN,nV,JY
def Ah(D:DefM K mg "rules_of" (top 13))(a:Qd P w K mg base "rule_of" 3 1 ["parts"] CK):Qd P w K mg base "rules_of" 4 1 ["book"] gY:=by exists 2,uN,oX,qI,aS
def Ai(D:DefM K mg "all_rows" (top 14))(a:mg "len"=none)(c:mg "tuple"=none)(b:mg "range"=none):Qd P w K mg base "all_rows" 1 1 ["book"] fI:=by exists 2,uP,uO
def Aj(D:DefM K mg "pairs_of" (top 15))(a:mg "enumerate"=none):Qd P w K mg base "pairs_of" 1 1 ["rows"] uR:=by exists 2,uQ,oZ,pA,GH,oY,qL,qK,aT
def Lw(D:DefM K mg "key_of" (top 16)):Qd P w K mg base "key_of" 1 2 ["tables","row"] AU:=by exists 2,GI,EH
def JC(D:DefM K mg "breaks_of_two" (top 17))(c:mg "enumerate"=none)(a:G7 P w K mg base "parts_them" 5 3 xL)(b:Qd P w K mg base "key_of" 1 2 ["tables","row"] AU):Qd P w K mg base "breaks_of_two" 6 4 ["book","rules","i","j"] dB:=by exists 2,dA,gD,gF,gG,gH,rR,wO,wQ
def Ds(D:DefM K mg "ties_of" (top 18))(c:Qd P w K mg base "rules_of" 4 1 ["book"] gY)(b:mg "enumerate"=none)(a:G7 P w K mg base "lacks" 2 3 mN):Qd P w K mg base "ties_of" 5 1 ["book"] bL:=by exists 2,CL,rV,rW,rX,rS,sS,nW,fY,fX,sR
def QP(D:DefM K mg "has_one_of" (top 19)):Qd P w K mg base "has_one_of" 1 2 ["kept","some"] pC:=by exists 2,pB,kH,AV,gZ,bM
def KQ(D:DefM K mg "untied_among" (top 20))(a:Qd P w K mg base "has_one_of" 1 2 ["kept","some"] pC):Qd P w K mg base "untied_among" 2 2 ["ties","kept"] bA:=by exists 2,aU,bN,xR,kT
def OT(D:DefM K mg "tied_within" (top 21))(a:mg "dict"=none)(b:Qd P w K mg base "untied_among" 2 2 ["ties","kept"] bA)(c:mg "tuple"=none):Qd P w K mg base "tied_within" 3 2 ["ties","rows"] yN:=by exists 2,fZ,dC,dD,oA,dE,aV,gI,jL,gK,gM,jK,aW
def C7(D:DefM K mg "held" (top 22))(e:Qd P w K mg base "rules_of" 4 1 ["book"] gY)(a:G7 P w K mg base "bars" 4 2 rY)(c:mg "any"=none)(b:Qd P w K mg base "tied_within" 3 2 ["ties","rows"] yN)(d:Qd P w K mg base "ties_of" 5 1 ["book"] bL):Qd P w K mg base "held" 6 2 ["book","rows"] IG:=by exists 2,UU,GK,GL,GM,uT,EK,EI,uS
def Dt(D:DefM K mg "clashes" (top 23))(e:Qd P w K mg base "rules_of" 4 1 ["book"] gY)(b:Qd P w K mg base "pairs_of" 1 1 ["rows"] uR)(a:Qd P w K mg base "held" 6 2 ["book","rows"] IG)(c:Qd P w K mg base "all_rows" 1 1 ["book"] fI)(d:Qd P w K mg base "breaks_of_two" 6 4 ["book","rules","i","j"] dB):Qd P w K mg base "clashes" 7 1 ["book"] CO:=by exists 2,CN,AW,BA,iA,iB
def Du(D:DefM K mg "foes_of" (top 29))(a:Qd P w K mg base "clashes" 7 1 ["book"] CO):Qd P w K mg base "foes_of" 8 1 ["book"] pV:=by exists 2,IH,BB,BC,BD,rZ,sT,sU
def OU(D:DefM K mg "check_width" (top 30))(c:mg "len"=none){a:Tok}(b:mg "MOST_CLASHING"=some (.int (15) a)):Qd P w K mg base "check_width" 1 1 ["foes"] iD:=by exists 2,iC,oB
def Dv(D:DefM K mg "is_full" (top 31))(b:mg "any"=none)(a:mg "all"=none):Qd P w K mg base "is_full" 1 3 ["rows","known","foes"] CQ:=by exists 2,CP,BE,sV,iG,iE,cV
def JD(D:DefM K mg "peaceful_sets" (top 32))(b:mg "sorted"=none)(d:mg "tuple"=none)(a:Qd P w K mg base "is_full" 1 3 ["rows","known","foes"] CQ)(c:mg "list"=none):Qd P w K mg base "peaceful_sets" 2 1 ["foes"] dG:=by exists 2,dF,aX,aY,aZ,eA,gN,wU,wV,wW,wX,wC,cH,cI,cJ,wR,cG
def Dw(D:DefM K mg "has_all" (top 33))(a:mg "len"=none)(b:mg "set"=none):Qd P w K mg base "has_all" 1 2 ["rows","some"] tQ:=by exists 2,CS,BF
def DC(D:DefM K mg "has_all_and_more" (top 34))(b:mg "len"=none)(a:Qd P w K mg base "has_all" 1 2 ["rows","some"] tQ):Qd P w K mg base "has_all_and_more" 2 2 ["rows","some"] kW:=by exists 2,kU,bB
def Lx(D:DefM K mg "mended" (top 35))(a:Qd P w K mg base "foes_of" 8 1 ["book"] pV)(j:Qd P w K mg base "check_width" 1 1 ["foes"] iD)(b:Qd P w K mg base "held" 6 2 ["book","rows"] IG)(k:Qd P w K mg base "all_rows" 1 1 ["book"] fI)(i:Qd P w K mg base "ties_of" 5 1 ["book"] bL)(m:Qd P w K mg base "peaceful_sets" 2 1 ["foes"] dG)(c:Qd P w K mg base "tied_within" 3 2 ["ties","rows"] yN)(e:mg "list"=none)(d:mg "sorted"=none)(n:Qd P w K mg base "has_all_and_more" 2 2 ["rows","some"] kW)(h:mg "any"=none):Qd P w K mg base "mended" 9 1 ["book"] qO:=by exists 2,GN,EL,EM,uY,qN,uZ,EN,vA,pD,uU,qM,pF,uX,uV,uW,pE
def OV(D:DefM K mg "many_mended" (top 36))(b:Qd P w K mg base "mended" 9 1 ["book"] qO)(a:mg "len"=none):Qd P w K mg base "many_mended" 10 1 ["book"] iI:=by exists 2,iH,oC
def KR(D:DefM K mg "_law_cell_at" (top 38))(a:mg "len"=none):Qd P w K mg base "_law_cell_at" 1 2 ["_law_script","_law_k"] zW:=by exists 2,eB,bP,tR
def Am(D:DefM K mg "_law_mix" (top 39)):Qd P w K mg base "_law_mix" 1 2 ["_law_cell","_law_k"] kX:=by exists 2,EO,pG,pH,pI
def WL(D:DefM K mg "_law_take" (top 40)):Qd P w K mg base "_law_take" 1 2 ["_law_well_here","_law_many"] zC:=by exists 2,sB,jQ,jR,DO
def WM(D:DefM K mg "_law_well" (top 41))(b:mg "range"=none)(a:Qd P w K mg base "_law_mix" 1 2 ["_law_cell","_law_k"] kX):Qd P w K mg base "_law_well" 2 2 ["_law_cell","_law_k"] yF:=by exists 2,sC,iL,sW,iM,iO,iK,oE
def WN(D:DefM K mg "_law_word" (top 42))(e:mg "str"=none)(c:mg "isinstance"=none)(h:mg "range"=none)(a:↑16)(d:mg "len"=none)(b:mg "min"=none):Qd P w K mg base "_law_word" 2 2 ["_law_well_here","_law_pool_here"] bC:=by exists 2,nY,sX,iQ,iR,iS,iT,iU,iV,iW,dH,oF,oG,dI
def WO(D:DefM K mg "_law_pool" (top 43))(a:Qd P w K mg base "_law_well" 2 2 ["_law_cell","_law_k"] yF)(d:mg "range"=none)(c:↑16)(b:Qd P w K mg base "_law_word" 2 2 ["_law_well_here","_law_pool_here"] bC):Qd P w K mg base "_law_pool" 3 1 ["_law_cell"] nZ:=by exists 2,BG,iY,iZ,lB,lD,cW,dL,dM,jM,jN,dN
def OX(D:DefM K mg "_law_tables" (top 44))(a:Qd P w K mg base "_law_well" 2 2 ["_law_cell","_law_k"] yF)(c:mg "range"=none)(b:↑16)(d:mg "tuple"=none):Qd P w K mg base "_law_tables" 3 1 ["_law_cell"] jS:=by exists 2,sY,dP,dQ,dR,dS,dO,gO,gP,gQ
def An(D:DefM K mg "_law_row" (top 45))(b:Qd P w K mg base "_law_well" 2 2 ["_law_cell","_law_k"] yF)(a:↑16)(c:mg "len"=none)(d:mg "range"=none)(e:mg "tuple"=none):Qd P w K mg base "_law_row" 3 3 ["_law_cell","_law_tables_here","_law_pool_here"] fK:=by exists 2,EQ,pK,pM,pN,qP,eC
def WP(D:DefM K mg "_law_rows" (top 46))(a:Qd P w K mg base "_law_row" 3 3 ["_law_cell","_law_tables_here","_law_pool_here"] fK)(b:mg "len"=none)(c:mg "tuple"=none):Qd P w K mg base "_law_rows" 4 4 ["_law_cells","_law_tables_here","_law_pool_here","_law_most"] aB:=by exists 2,BH,lE,lF,lG,wL,dU,xE
def WQ(D:DefM K mg "_law_side" (top 47))(b:↑16)(a:mg "len"=none):Qd P w K mg base "_law_side" 2 4 ["_law_well_here","_law_there","_law_tables_here","_law_pool_here"] wD:=by exists 2,sD,jT,lH,lI
def QQ(D:DefM K mg "_law_tests" (top 48))(c:mg "range"=none)(a:↑16)(b:Qd P w K mg base "_law_side" 2 4 ["_law_well_here","_law_there","_law_tables_here","_law_pool_here"] wD)(d:mg "tuple"=none):Qd P w K mg base "_law_tests" 3 4 ["_law_well_here","_law_there","_law_tables_here","_law_pool_here"] xI:=by exists 2,vB,eE,eF,eG,bD,bQ,bR,bS
def WR(D:DefM K mg "_law_rule" (top 49))(b:Qd P w K mg base "_law_well" 2 2 ["_law_cell","_law_k"] yF)(a:↑16)(d:mg "len"=none)(c:Qd P w K mg base "_law_tests" 3 4 ["_law_well_here","_law_there","_law_tables_here","_law_pool_here"] xI)(e:mg "range"=none)(h:mg "tuple"=none):Qd P w K mg base "_law_rule" 4 3 ["_law_cell","_law_tables_here","_law_pool_here"] wF:=by exists 2,mP,lK,lL,lN,lO,jU,jV,lP,lQ,lR,eH,oH,dW,oI,dX
def WS(D:DefM K mg "_law_book" (top 50))(i:Qd P w K mg base "_law_pool" 3 1 ["_law_cell"] nZ)(c:Qd P w K mg base "_law_cell_at" 1 2 ["_law_script","_law_k"] zW)(d:Qd P w K mg base "_law_tables" 3 1 ["_law_cell"] jS)(j:↑16)(e:Qd P w K mg base "_law_well" 2 2 ["_law_cell","_law_k"] yF)(m:mg "range"=none)(b:Qd P w K mg base "_law_rule" 4 3 ["_law_cell","_law_tables_here","_law_pool_here"] wF)(n:mg "tuple"=none)(h:mg "list"=none)(a:Qd P w K mg base "_law_mix" 1 2 ["_law_cell","_law_k"] kX)(k:Qd P w K mg base "_law_rows" 4 4 ["_law_cells","_law_tables_here","_law_pool_here","_law_most"] aB):Qd P w K mg base "_law_book" 5 3 ["_law_script","_law_most","_law_room"] aC:=by exists 2,BI,lV,lW,lX,lY,lZ,mB,mE,oK,dY,lU,oM
def QR(D:DefM K mg "_law_value" (top 51)):Qd P w K mg base "_law_value" 1 2 uK eK:=by exists 2,pO,kI,eI
def WT(D:DefM K mg "_law_hold" (top 52))(a:Qd P w K mg base "_law_value" 1 2 uK eK)(b:mg "str"=none)(c:mg "isinstance"=none):Qd P w K mg base "_law_hold" 2 2 ["_law_tests_here","_law_rows_here"] kO:=by exists 2,sE,mG,DP,cX,dZ,nA,nB,nE
def OZ(D:DefM K mg "_law_barred" (top 53))(a:Qd P w K mg base "_law_hold" 2 2 ["_law_tests_here","_law_rows_here"] kO):Qd P w K mg base "_law_barred" 3 2 sQ jX:=by exists 2,jW,nF
def PB(D:DefM K mg "_law_parted" (top 54))(a:Qd P w K mg base "_law_hold" 2 2 ["_law_tests_here","_law_rows_here"] kO):Qd P w K mg base "_law_parted" 3 3 ["_law_rule_here","_law_row_here","_law_other"] jZ:=by exists 2,jY,xW,nH,vP,nG,eM
def KS(D:DefM K mg "_law_lacking" (top 55)):Qd P w K mg base "_law_lacking" 1 3 ["_law_rule_here","_law_row_here","_law_rows_here"] eO:=by exists 2,yY,yM,bT,bU,qQ,kY,jA,nQ,nP,kZ
def Ao(D:DefM K mg "_law_key" (top 56)):Qd P w K mg base "_law_key" 1 2 ["_law_book_here","_law_i"] qS:=by exists 2,vC,pP,pQ
def QS(D:DefM K mg "_law_pairs" (top 57))(b:mg "range"=none)(c:mg "len"=none)(d:Qd P w K mg base "_law_parted" 3 3 ["_law_rule_here","_law_row_here","_law_other"] jZ)(a:Qd P w K mg base "_law_key" 1 2 ["_law_book_here","_law_i"] qS):Qd P w K mg base "_law_pairs" 4 1 ["_law_book_here"] bY:=by exists 2,vD,qT,qU,qV,eQ,fP,eP,bW,bX,fO,bV,fM
def KU(D:DefM K mg "_law_is_good" (top 58))(b:Qd P w K mg base "_law_barred" 3 2 sQ jX)(a:Qd P w K mg base "_law_lacking" 1 3 ["_law_rule_here","_law_row_here","_law_rows_here"] eO):Qd P w K mg base "_law_is_good" 4 3 ["_law_book_here","_law_pairs_here","_law_some"] bE:=by exists 2,eR,bZ,cA,cB,tS,xN,nS,jC,xO,jB,jE,kL,jD
def Ap(D:DefM K mg "_law_set" (top 59))(a:mg "range"=none):Qd P w K mg base "_law_set" 1 2 EG qX:=by exists 2,vF,vE,eS,qW
def JE(D:DefM K mg "_law_greatest" (top 60))(b:Qd P w K mg base "_law_pairs" 4 1 ["_law_book_here"] bY)(d:mg "len"=none)(e:mg "range"=none)(h:Qd P w K mg base "_law_is_good" 4 3 ["_law_book_here","_law_pairs_here","_law_some"] bE)(a:Qd P w K mg base "_law_set" 1 2 EG qX)(i:mg "tuple"=none)(c:mg "sorted"=none):Qd P w K mg base "_law_greatest" 5 1 ["_law_book_here"] nK:=by exists 2,nI,eT,eU,eV,eW,eX,wG,cN,kC,cM,wY,cK,wZ,cL
def zCY{f:Addr}(F:Fun K "law" "law" (top 61) f fd)(a:Qd P w K mg base "_law_book" 5 3 ["_law_script","_law_most","_law_room"] aC)(e:Qd P w K mg base "_law_greatest" 5 1 ["_law_book_here"] nK)(m:mg "range"=none)(c:Qd P w K mg base "mended" 9 1 ["book"] qO)(d:mg "list"=none)(h:mg "isinstance"=none)(n:mg "tuple"=none)(k:mg "bool"=none)(b:Qd P w K mg base "many_mended" 10 1 ["book"] iI)(j:mg "int"=none)(i:mg "len"=none):FnOk P w K mg base BS 11 f fd ["_law_script"] (PY ⟨K,mg,P,w⟩ 1 ZD):=by exists 0,Ge,UV,UW,UX,UY,UZ,GO,IL,IM,IO,IP,LD,IK,CT,II
end
abbrev mgN:=@PySem.W.mg_none_of
abbrev nNo(K:PySem.W.Frag)(x:Str):Prop:=PySem.W.nsIn K mainGlobals x=some none
def all_mk{l:PySem.W.OpenLaw}{w:World}{K:Q0}{h:Heap}{mg:L0}{fa:Addr}(X:K.In h)(GG:h.Ns mainGlobals mg)(bu:mg "law"=some (.ref fa))(D0:DefM K mg "is_whole" (top 1))(D1:DefM K mg "side_value" (top 3))(D2:DefM K mg "fulfils" (top 4))(D3:DefM K mg "fulfils_all" (top 5))(D4:DefM K mg "cells_in" (top 6))(D12:DefM K mg "rule_of" (top 11))(D13:DefM K mg "rules_of" (top 13))(D14:DefM K mg "all_rows" (top 14))(D15:DefM K mg "pairs_of" (top 15))(D16:DefM K mg "key_of" (top 16))(D17:DefM K mg "breaks_of_two" (top 17))(D18:DefM K mg "ties_of" (top 18))(D19:DefM K mg "has_one_of" (top 19))(D20:DefM K mg "untied_among" (top 20))(D21:DefM K mg "tied_within" (top 21))(D22:DefM K mg "held" (top 22))(D23:DefM K mg "clashes" (top 23))(D24:DefM K mg "foes_of" (top 29))(D25:DefM K mg "check_width" (top 30))(D26:DefM K mg "is_full" (top 31))(D27:DefM K mg "peaceful_sets" (top 32))(D28:DefM K mg "has_all" (top 33))(D29:DefM K mg "has_all_and_more" (top 34))(D30:DefM K mg "mended" (top 35))(D31:DefM K mg "many_mended" (top 36))(D32:DefM K mg "_law_cell_at" (top 38))(D33:DefM K mg "_law_mix" (top 39))(D34:DefM K mg "_law_take" (top 40))(D35:DefM K mg "_law_well" (top 41))(D36:DefM K mg "_law_word" (top 42))(D37:DefM K mg "_law_pool" (top 43))(D38:DefM K mg "_law_tables" (top 44))(D39:DefM K mg "_law_row" (top 45))(D40:DefM K mg "_law_rows" (top 46))(D41:DefM K mg "_law_side" (top 47))(D42:DefM K mg "_law_tests" (top 48))(D43:DefM K mg "_law_rule" (top 49))(D44:DefM K mg "_law_book" (top 50))(D45:DefM K mg "_law_value" (top 51))(D46:DefM K mg "_law_hold" (top 52))(D47:DefM K mg "_law_barred" (top 53))(D48:DefM K mg "_law_parted" (top 54))(D49:DefM K mg "_law_lacking" (top 55))(D50:DefM K mg "_law_key" (top 56))(D51:DefM K mg "_law_pairs" (top 57))(D52:DefM K mg "_law_is_good" (top 58))(D53:DefM K mg "_law_set" (top 59))(D54:DefM K mg "_law_greatest" (top 60))(D55:DefM K mg "law" (top 61))
  {q0d:Addr} (q4m:PySem.W.nsIn K mainGlobals "Rule"=some (some (.ref q0d)))
  {q0c:Addr} (q4j:PySem.W.nsIn K mainGlobals "Never"=some (some (.ref q0c)))
  {q0b:Addr} (q4k:PySem.W.nsIn K mainGlobals "Apart"=some (some (.ref q0b)))
  {q0e:Addr} (q4n:PySem.W.nsIn K mainGlobals "Tie"=some (some (.ref q0e)))
  (q4q:(PySem.W.clsIn K q0d).map (·.name)=some "Rule") (zDE:Cls K q0d)
  (Sz:NoAttr K q0d "parts") (q4u:OI K q0d)
  (q4o:(PySem.W.clsIn K q0c).map (·.name)=some "Never") (D7:Cls K q0c)
  (Ic:NoAttr K q0c "parts") (q4s:OI K q0c)
  (q4p:(PySem.W.clsIn K q0b).map (·.name)=some "Apart") (D8:Cls K q0b)
  (Id:NoAttr K q0b "parts") (q4t:OI K q0b)
  (q4r:(PySem.W.clsIn K q0e).map (·.name)=some "Tie") (zHI:Cls K q0e)
  (K8:NoAttr K q0e "parts") (q4v:OI K q0e)
  {q0a:Addr} {q1x q1y:Option Addr} {q1z:Array (Option ņ)} {q2a q2b q2c q2d q0i q2e:ņ}
  (zDD:Mk K q0d q0a)
  (C8:Mk K q0c q0a)
  (D9:Mk K q0b q0a)
  (zHH:Mk K q0e q0a)
  (q2g:K.lookup q0a=some ⟨q2a,q1x,.func (PySem.W.fnOf "__init__" "Rule.__init__" (kP (inClass (top 7) 0)) (yZ (inClass (top 7) 0)) (zK (inClass (top 7) 0)) .none q2b q2c q2d q1y q0i q2e),q1z⟩) (q2h:PySem.W.codeIn K q0i "Rule.__init__"=true) (q2i:PySem.W.keepIn K (.ref q0a)=true)
  {yW:Addr} {q3a q3b:Option Addr} {q3c:Array (Option ņ)} {q3d q3e q3f q3g q1f q3h:ņ}
  (q4h:Meth K q0d "bars" yW)
  (q3y:Meth K q0b "bars" yW)
  (q4l:Meth K q0e "bars" yW)
  (q3z:K.lookup yW=some ⟨q3d,q3a,.func (PySem.W.fnOf "bars" "Rule.bars" (kP (inClass (top 7) 1)) (yZ (inClass (top 7) 1)) (zK (inClass (top 7) 1)) .none q3e q3f q3g q3b q1f q3h),q3c⟩) (q4a:PySem.W.codeIn K q1f "Rule.bars"=true) (q4b:PySem.W.keepIn K (.ref yW)=true)
  {zT:Addr} {q1h q1i:Option Addr} {q1j:Array (Option ņ)} {q1k q1l q1m q1n q0h q1o:ņ}
  (q2f:Meth K q0d "parts_them" zT)
  (q1s:Meth K q0c "parts_them" zT)
  (q2j:Meth K q0e "parts_them" zT)
  (q1t:K.lookup zT=some ⟨q1k,q1h,.func (PySem.W.fnOf "parts_them" "Rule.parts_them" (kP (inClass (top 7) 2)) (yZ (inClass (top 7) 2)) (zK (inClass (top 7) 2)) .none q1l q1m q1n q1i q0h q1o),q1j⟩) (q1u:PySem.W.codeIn K q0h "Rule.parts_them"=true) (q1v:PySem.W.keepIn K (.ref zT)=true)
  {yR:Addr} {q2k q2l:Option Addr} {q2m:Array (Option ņ)} {q2n q2o q2p q2q q0u q2r:ņ}
  (q4c:Meth K q0d "lacks" yR)
  (q3i:Meth K q0c "lacks" yR)
  (q3j:Meth K q0b "lacks" yR)
  (q3k:K.lookup yR=some ⟨q2n,q2k,.func (PySem.W.fnOf "lacks" "Rule.lacks" (kP (inClass (top 7) 3)) (yZ (inClass (top 7) 3)) (zK (inClass (top 7) 3)) .none q2o q2p q2q q2l q0u q2r),q2m⟩) (q3l:PySem.W.codeIn K q0u "Rule.lacks"=true) (q3m:PySem.W.keepIn K (.ref yR)=true)
  {xH:Addr} {q2s q2t:Option Addr} {q2u:Array (Option ņ)} {q2v q2w q2x q2y q0v q2z:ņ}
  (q4d:Meth K q0c "bars" xH)
  (q3n:K.lookup xH=some ⟨q2v,q2s,.func (PySem.W.fnOf "bars" "Never.bars" (kP (inClass (top 8) 0)) (yZ (inClass (top 8) 0)) (zK (inClass (top 8) 0)) .none q2w q2x q2y q2t q0v q2z),q2u⟩) (q3o:PySem.W.codeIn K q0v "Never.bars"=true) (q3p:PySem.W.keepIn K (.ref xH)=true)
  {zS:Addr} {q0j q0k:Option Addr} {q0l:Array (Option ņ)} {q0m q0n q0o q0p q0f q0q:ņ}
  (q0w:Meth K q0b "parts_in_turn" zS)
  (q0r:K.lookup zS=some ⟨q0m,q0j,.func (PySem.W.fnOf "parts_in_turn" "Apart.parts_in_turn" (kP (inClass (top 9) 0)) (yZ (inClass (top 9) 0)) (zK (inClass (top 9) 0)) .none q0n q0o q0p q0k q0f q0q),q0l⟩) (q0s:PySem.W.codeIn K q0f "Apart.parts_in_turn"=true) (q0t:PySem.W.keepIn K (.ref zS)=true)
  {yA:Addr} {q0x q0y:Option Addr} {q0z:Array (Option ņ)} {q1a q1b q1c q1d q0g q1e:ņ}
  (q1w:Meth K q0b "parts_them" yA)
  (q1p:K.lookup yA=some ⟨q1a,q0x,.func (PySem.W.fnOf "parts_them" "Apart.parts_them" (kP (inClass (top 9) 1)) (yZ (inClass (top 9) 1)) (zK (inClass (top 9) 1)) .none q1b q1c q1d q0y q0g q1e),q0z⟩) (q1q:PySem.W.codeIn K q0g "Apart.parts_them"=true) (q1r:PySem.W.keepIn K (.ref yA)=true)
  {yX:Addr} {q3q q3r:Option Addr} {q3s:Array (Option ņ)} {q3t q3u q3v q3w q1g q3x:ņ}
  (q4i:Meth K q0e "lacks" yX)
  (q4e:K.lookup yX=some ⟨q3t,q3q,.func (PySem.W.fnOf "lacks" "Tie.lacks" (kP (inClass (top 10) 0)) (yZ (inClass (top 10) 0)) (zK (inClass (top 10) 0)) .none q3u q3v q3w q3r q1g q3x),q3s⟩) (q4f:PySem.W.codeIn K q1g "Tie.lacks"=true) (q4g:PySem.W.keepIn K (.ref yX)=true)
  {oN:Tok} (vU:PySem.W.nsIn K mainGlobals "MOST_CLASHING"=some (some (.int (15) oN)))
  (Tb:nNo K "all")
  (Ie:nNo K "any")
  (Dx:nNo K "bool")
  (Th:nNo K "dict")
  (sM:nNo K "enumerate")
  (Td:nNo K "int")
  (fC:nNo K "isinstance")
  (rD:nNo K "len")
  (PH:nNo K "list")
  (L9:nNo K "min")
  (gT:nNo K "range")
  (L5:nNo K "set")
  (HL:nNo K "sorted")
  (Tf:nNo K "str")
  (nN:nNo K "tuple")
  : ∃fd:FuncData,(∀(s:Ņ)(v:ņ),BindsTo s fd ⟨[v],[]⟩ [("_law_script",v)])/\ ∀base:Heap,K.In base->base.Ns mainGlobals mg->FnOk l.prog w K mg base BS 11 fa fd ["_law_script"] (RJ K ZD):=by
 have av:=mgN X GG Tb;have ar:=mgN X GG Ie;have au:=mgN X GG Dx;have a4:=mgN X GG Th;have I:=mgN X GG sM;have ax:=mgN X GG Td;have m:=mgN X GG fC;have k:=mgN X GG rD;have ae:=mgN X GG PH;have a7:=mgN X GG L9;have a:=mgN X GG gT;have a5:=mgN X GG L5;have aa:=mgN X GG HL;have aw:=mgN X GG Tf;have d:=mgN X GG nN;have Y:=PySem.W.mg_of X GG vU;have y:=uB (st:=inClass (top 7) 0) q2g q2h q2i;have b:=y.binds (ps:=["self","parts"]) λ_ _ _ _ _ _ us hl=>match us,hl with |[_,_],_=>rfl
 have Q:=uB (st:=inClass (top 7) 1) q3z q4a q4b;have z:=Q.binds (ps:=["self","row"]) λ_ _ _ _ _ _ us hl=>match us,hl with |[_,_],_=>rfl
 have o:=uB (st:=inClass (top 7) 2) q1t q1u q1v;have e:=o.binds (ps:=["self","row","other"]) λ_ _ _ _ _ _ us hl=>match us,hl with |[_,_,_],_=>rfl
 have M:=uB (st:=inClass (top 7) 3) q3k q3l q3m;have u:=M.binds (ps:=["self","row","rows"]) λ_ _ _ _ _ _ us hl=>match us,hl with |[_,_,_],_=>rfl
 have O:=uB (st:=inClass (top 8) 0) q3n q3o q3p;have ag:=O.binds (ps:=["self","row"]) λ_ _ _ _ _ _ us hl=>match us,hl with |[_,_],_=>rfl
 have j:=uB (st:=inClass (top 9) 0) q0r q0s q0t;have G:=j.binds (ps:=["self","row","other"]) λ_ _ _ _ _ _ us hl=>match us,hl with |[_,_,_],_=>rfl
 have n:=uB (st:=inClass (top 9) 1) q1p q1q q1r;have L:=n.binds (ps:=["self","row","other"]) λ_ _ _ _ _ _ us hl=>match us,hl with |[_,_,_],_=>rfl
 have S:=uB (st:=inClass (top 10) 0) q4e q4f q4g;have ah:=S.binds (ps:=["self","row","rows"]) λ_ _ _ _ _ _ us hl=>match us,hl with |[_,_,_],_=>rfl
 have N:OC K "Rule" q0d:=⟨q4m,q4q,zDE⟩
 have C:OC K "Never" q0c:=⟨q4j,q4o,D7⟩
 have p:OC K "Apart" q0b:=⟨q4k,q4p,D8⟩
 have T:OC K "Tie" q0e:=⟨q4n,q4r,zHI⟩
 have ab:zHS K ZC "parts":=λc hc=>by
  simp only[ZC,mC,nM,or_false]at hc;rcases hc with rfl|rfl|rfl|rfl
  .exact⟨q0d,N,Sz⟩
  .exact⟨q0c,C,Ic⟩
  .exact⟨q0b,p,Id⟩
  .exact⟨q0e,T,K8⟩
 refine zAR D55 bu (λ_ _ _ _ _ _ s v=>.of_eq rfl) λbase f fd F=>?_;have U:FnOk l.prog w K mg base BS 1 q0a _ ["self","parts"] (zGJ K "parts"):=Xx y Sw λcu A bh s H E=>Ec (Q9 (pv 0) (pv 1) rfl);have a8:G6 l.prog w K mg base "Rule" "parts":=⟨q0d,q0a,_,"parts",N,Sz,zDD,U,b,PySem.W.mg_of X GG q4m⟩
 have aq:G6 l.prog w K mg base "Never" "parts":=⟨q0c,q0a,_,"parts",C,Ic,C8,U,b,PySem.W.mg_of X GG q4j⟩
 have ao:G6 l.prog w K mg base "Apart" "parts":=⟨q0b,q0a,_,"parts",p,Id,D9,U,b,PySem.W.mg_of X GG q4k⟩
 have az:G6 l.prog w K mg base "Tie" "parts":=⟨q0e,q0a,_,"parts",T,K8,zHH,U,b,PySem.W.mg_of X GG q4n⟩
 have G0:=Ad (P:=l.prog) (w:=w) (base:=base) D0 ax m au;have G1:=QM (P:=l.prog) (w:=w) (base:=base) D1;have G2:=Dq D2 G1 G0;have G3:=OO D3 G2 av;have G4:=Ae (P:=l.prog) (w:=w) (base:=base) D4;have B:=WH (P:=l.prog) (w:=w) (mg:=mg) (base:=base) Q;have i:=EY (P:=l.prog) (w:=w) (mg:=mg) (base:=base) o;have r:=QN (P:=l.prog) (w:=w) (mg:=mg) (base:=base) M;have af:=QO (P:=l.prog) (w:=w) (mg:=mg) (base:=base) O ab G3;have D:=vK (P:=l.prog) (w:=w) (mg:=mg) (base:=base) j ab G3
 have Z:G7 l.prog w K mg base "parts_in_turn" 4 3 xM:=λq hq=>by
  simp only[xM,mC,nM,or_false]at hq;rcases hq with rfl
  .exact⟨q0b,zS,_,_,p,q0w,D.mono ↑7,G⟩
 have J:=DB (P:=l.prog) (w:=w) (mg:=mg) (base:=base) n Z;have aj:=WK (P:=l.prog) (w:=w) (mg:=mg) (base:=base) S ab G4;have bz:=Dr (P:=l.prog) (w:=w) (base:=base) D12 aq ao az;have a6:=Ah (P:=l.prog) (w:=w) (base:=base) D13 bz;have bg:=Ai (P:=l.prog) (w:=w) (base:=base) D14 k d a;have bt:=Aj (P:=l.prog) (w:=w) (base:=base) D15 I;have cp:=Lw (P:=l.prog) (w:=w) (base:=base) D16
 have ai:G7 l.prog w K mg base "parts_them" 5 3 xL:=λq hq=>by
  simp only[xL,mC,nM,or_false]at hq;rcases hq with rfl|rfl|rfl|rfl
  .exact⟨q0d,zT,_,_,N,q2f,i.mono ↑7,e⟩
  .exact⟨q0c,zT,_,_,C,q1s,i.mono ↑7,e⟩
  .exact⟨q0b,yA,_,_,p,q1w,J.mono ↑7,L⟩
  .exact⟨q0e,zT,_,_,T,q2j,i.mono ↑7,e⟩
 have cf:=JC (P:=l.prog) (w:=w) (base:=base) D17 I ai cp
 have ay:G7 l.prog w K mg base "lacks" 2 3 mN:=λq hq=>by
  simp only[mN,mC,nM,or_false]at hq;rcases hq with rfl|rfl|rfl|rfl
  .exact⟨q0d,yR,_,_,N,q4c,r.mono ↑7,u⟩
  .exact⟨q0c,yR,_,_,C,q3i,r.mono ↑7,u⟩
  .exact⟨q0b,yR,_,_,p,q3j,r.mono ↑7,u⟩
  .exact⟨q0e,yX,_,_,T,q4i,aj.mono ↑7,ah⟩
 have bb:=Ds (P:=l.prog) (w:=w) (base:=base) D18 a6 I ay;have b9:=QP (P:=l.prog) (w:=w) (base:=base) D19;have b2:=KQ (P:=l.prog) (w:=w) (base:=base) D20 b9;have a':=OT (P:=l.prog) (w:=w) (base:=base) D21 a4 b2 d
 have a3:G7 l.prog w K mg base "bars" 4 2 rY:=λq hq=>by
  simp only[rY,mC,nM,or_false]at hq;rcases hq with rfl|rfl|rfl|rfl
  .exact⟨q0d,yW,_,_,N,q4h,B.mono ↑7,z⟩
  .exact⟨q0c,xH,_,_,C,q4d,af.mono ↑7,ag⟩
  .exact⟨q0b,yW,_,_,p,q3y,B.mono ↑7,z⟩
  .exact⟨q0e,yW,_,_,T,q4l,B.mono ↑7,z⟩
 have a9:=C7 (P:=l.prog) (w:=w) (base:=base) D22 a6 a3 ar a' bb;have bw:=Dt (P:=l.prog) (w:=w) (base:=base) D23 a6 bt a9 bg cf;have bl:=Du (P:=l.prog) (w:=w) (base:=base) D24 bw;have cb:=OU (P:=l.prog) (w:=w) (base:=base) D25 k Y;have cq:=Dv (P:=l.prog) (w:=w) (base:=base) D26 ar av;have b0:=JD (P:=l.prog) (w:=w) (base:=base) D27 aa d cq ae;have b5:=Dw (P:=l.prog) (w:=w) (base:=base) D28 k a5;have b6:=DC (P:=l.prog) (w:=w) (base:=base) D29 k b5;have bc:=Lx (P:=l.prog) (w:=w) (base:=base) D30 bl cb a9 bg bb b0 a' ae aa b6 ar;have ck:=OV (P:=l.prog) (w:=w) (base:=base) D31 bc k;have bx:=KR (P:=l.prog) (w:=w) (base:=base) D32 k;have ba:=Am (P:=l.prog) (w:=w) (base:=base) D33;have ak:=WL (P:=l.prog) (w:=w) (base:=base) D34;have a0:=WM (P:=l.prog) (w:=w) (base:=base) D35 a ba;have cm:=WN (P:=l.prog) (w:=w) (base:=base) D36 aw m a ak k a7;have bH:=WO (P:=l.prog) (w:=w) (base:=base) D37 a0 a ak cm;have cg:=OX (P:=l.prog) (w:=w) (base:=base) D38 a0 a ak d;have b1:=An (P:=l.prog) (w:=w) (base:=base) D39 a0 ak k a d;have b7:=WP (P:=l.prog) (w:=w) (base:=base) D40 b1 k d;have ct:=WQ (P:=l.prog) (w:=w) (base:=base) D41 ak k;have cj:=QQ (P:=l.prog) (w:=w) (base:=base) D42 a ak ct d;have bp:=WR (P:=l.prog) (w:=w) (base:=base) D43 a0 ak k cj a d;have bo:=WS (P:=l.prog) (w:=w) (base:=base) D44 bH bx cg ak a0 a bp d ae ba b7;have bq:=QR (P:=l.prog) (w:=w) (base:=base) D45;have bf:=WT (P:=l.prog) (w:=w) (base:=base) D46 bq aw m;have br:=OZ (P:=l.prog) (w:=w) (base:=base) D47 bf;have b':=PB (P:=l.prog) (w:=w) (base:=base) D48 bf;have b3:=KS (P:=l.prog) (w:=w) (base:=base) D49;have cc:=Ao (P:=l.prog) (w:=w) (base:=base) D50;have b4:=QS (P:=l.prog) (w:=w) (base:=base) D51 a k b' cc;have b8:=KU (P:=l.prog) (w:=w) (base:=base) D52 br b3;have cn:=Ap (P:=l.prog) (w:=w) (base:=base) D53 a;have bj:=JE (P:=l.prog) (w:=w) (base:=base) D54 b4 k a b8 cn d aa;exact zCY (P:=l.prog) (w:=w) (base:=base) F bo bj a bc ae m d au ck ax k
def walk{l:PySem.W.OpenLaw}{q:ň}{b:K0}{p:(Str->Option ņ)->Heap->Prop}{i:World->Heap->Prop}{d:DefRec}{K:Params->PySem.W.Frag}(j:l.most=some 63)(c:d.params.defaults=[])
  (hY: ∀(w:World)(h:Heap),i w h->(K w.params).In h)
  (F: ∀(w:World)(mg:L0)(e:Addr)(h:Heap),(K w.params).In h->h.Ns mainGlobals mg->mg d.name=some (.ref e)->
   ∃fd:FuncData,(∀(s:Ņ)(u:ņ),BindsTo s fd ⟨[u],[]⟩ [("_law_script",u)])/\ ∀base:Heap,(K w.params).In base->base.Ns mainGlobals mg->FnOk l.prog w (K w.params) mg base BS 11 e fd ["_law_script"] (RJ (K w.params) ZD)):
  PySem.W.WalkO q b p i l.row.toRowW d [] (λf vs=>PySem.call f vs):=
 L2.walk_of (n:=63) (k:=11) (x:="_law_script") (CX:=λ_=>BS) (sp:=λw=>RJ (K w.params) ZD) j ↑7 c ⟨rfl,by decide,by decide⟩ hY F
  (λw H a o r v m=>Pg v m (Sv o r)) λ_ _ _ _ _ z=>z
end My
end M
end L2
namespace PySem.W.Fast
def tw14679033603392956125:=0
theorem te14679033603392956125:tw14679033603392956125=0:=rfl
def tw11495369188981787949:=0
theorem te11495369188981787949:tw11495369188981787949=0:=rfl
def tw17492508383494048668:=0
theorem te17492508383494048668:tw17492508383494048668=0:=rfl
def tw12795032983272375849:=0
theorem te12795032983272375849:tw12795032983272375849=0:=rfl
def tw18194968788521723048:=0
theorem te18194968788521723048:tw18194968788521723048=0:=rfl
def tw17447049454098058568:=0
theorem te17447049454098058568:tw17447049454098058568=0:=rfl
def tw8092000570756187930:=0
theorem te8092000570756187930:tw8092000570756187930=0:=rfl
def tw17570791904347494853:=0
theorem te17570791904347494853:tw17570791904347494853=0:=rfl
def tw15488412224067173887:=0
theorem te15488412224067173887:tw15488412224067173887=0:=rfl
def tw13987241516787587860:=0
theorem te13987241516787587860:tw13987241516787587860=0:=rfl
def tw7592375417437397349:=0
theorem te7592375417437397349:tw7592375417437397349=0:=rfl
def tw655236556515885994:=0
theorem te655236556515885994:tw655236556515885994=0:=rfl
def tw13568265232560183183:=0
theorem te13568265232560183183:tw13568265232560183183=0:=rfl
def tw10610726968357601613:=0
theorem te10610726968357601613:tw10610726968357601613=0:=rfl
def tw1663679443214016736:=0
theorem te1663679443214016736:tw1663679443214016736=0:=rfl
def tw10607864731966686886:=0
theorem te10607864731966686886:tw10607864731966686886=0:=rfl
def tw2998037917304006786:=0
theorem te2998037917304006786:tw2998037917304006786=0:=rfl
def tw708610799818325248:=0
theorem te708610799818325248:tw708610799818325248=0:=rfl
def tw2839619121638765971:=0
theorem te2839619121638765971:tw2839619121638765971=0:=rfl
def tw16934992173663600623:=0
theorem te16934992173663600623:tw16934992173663600623=0:=rfl
def tw822763845312527805:=0
theorem te822763845312527805:tw822763845312527805=0:=rfl
def tw1599988138785484114:=0
theorem te1599988138785484114:tw1599988138785484114=0:=rfl
def tw4716982464795348767:=0
theorem te4716982464795348767:tw4716982464795348767=0:=rfl
def tw1431964342654035113:=0
theorem te1431964342654035113:tw1431964342654035113=0:=rfl
def tw5529964640046317055:=0
theorem te5529964640046317055:tw5529964640046317055=0:=rfl
def tw17394410104538890400:=0
theorem te17394410104538890400:tw17394410104538890400=0:=rfl
def tw7032161018451248384:=0
theorem te7032161018451248384:tw7032161018451248384=0:=rfl
def tw11415554430139389774:=0
theorem te11415554430139389774:tw11415554430139389774=0:=rfl
def tw10781101694570134694:=0
theorem te10781101694570134694:tw10781101694570134694=0:=rfl
def tw11183373940024719596:=0
theorem te11183373940024719596:tw11183373940024719596=0:=rfl
def tw12110291047391170248:=0
theorem te12110291047391170248:tw12110291047391170248=0:=rfl
end PySem.W.Fast
open PySem PySem.W PyProof.Rows
set_option maxRecDepth 100000 in
set_option maxHeartbeats 0 in
theorem PySem.Challenge.cw_mendsure_k20_all_mended_books_holds : PySem.Challenge.rw_mendsure_k20_all_mended_books.Holds := by
  w_on; o_law; k_head; (case hw => w_witness2)
  k_fill
  refine L2.M.My.walk (l := PySem.Challenge.rw_mendsure_k20_all_mended_books) rfl rfl (fun w h Y => PySem.W.kIn_of Y) ?F
  case F =>
    intro w mg b h KX G a
    refine' L2.M.My.all_mk KX G a ?_ ?_ ?_ ?_ ?_ ?_ ?_ ?_ ?_ ?_ ?_ ?_ ?_ ?_ ?_ ?_ ?_ ?_ ?_ ?_ ?_ ?_ ?_ ?_ ?_ ?_ ?_ ?_ ?_ ?_ ?_ ?_ ?_ ?_ ?_ ?_ ?_ ?_ ?_ ?_ ?_ ?_ ?_ ?_ ?_ ?_ ?_ ?_ ?_ ?_ ?_ ?_ ?_ ?_ ?_ ?_ ?_ ?_ ?_ ?_ ?_ ?_ ?_ ?_ ?_ ?_ ?_ ?_ ?_ ?_ ?_ ?_ ?_ ?_ ?_ ?_ ?_ ?_ ?_ ?_ ?_ ?_ ?_ ?_ ?_ ?_ ?_ ?_ ?_ ?_ ?_ ?_ ?_ ?_ ?_ ?_ ?_ ?_ ?_ ?_ ?_ ?_ ?_ ?_ ?_ ?_ ?_ ?_ ?_ ?_ ?_ ?_ ?_ ?_ ?_ ?_ ?_ ?_ ?_ ?_ ?_ ?_ ?_ ?_ ?_ ?_
    any_goals first | (exact L2.M.def_mk (by k_is) (by k_is) (by k_is) (by k_is) KX G) | (k_is) | (exact L2.M.nm_of (by k_is) (by rfl)) | (exact ⟨by k_is, by k_is, by k_is, by k_is⟩) | (show PySem.W.findIn _ _ _ = _; k_is) | (exact ⟨by k_is, by k_is, by k_is⟩) | (show PySem.W.nsIn _ _ _ = _; k_is)
