import PyProof.Rows.All
import Wide.All
import OpenK.AllK
import Wide.FinOn
import Lean
import PyProof.EqAt
import PyProof.EqKinds
import PyProof.TupleCall
import PySem.Challenge.RW_mendsure_k13_rows_that_clash
set_option Elab.async false
set_option linter.all false
set_option hygiene false
set_option compiler.extract_closed false
local macro_rules|`(↑0)=>`(S.length)
local macro_rules|`(↑1)=>`(s.heap.objs.size)
local macro_rules|`(↑2)=>`(Inv X pins σ H s)
local macro_rules|`(↑3)=>`(.tup (ts.map tbl))
local macro_rules|`(↑4)=>`(by decide)
local macro_rules|`(↑5)=>`(model X.prog X.w)
set_option maxRecDepth 100000
noncomputable section
set_option bootstrap.genMatcherCode false
open List (all_map all_toArray cons_lt_cons_iff drop_eq_getElem_cons drop_length drop_of_length_le ext_getElem? filterMap_cons filterMap_cons_some filter_cons_of_neg filter_cons_of_pos find?_cons flatMap_cons flatten_cons forIn_cons getD_eq_getElem?_getD getElem?_append_left getElem?_append_right getElem?_drop getElem?_eq_none getElem?_map getElem?_of_mem getElem?_range getElem?_set_ne getElem?_set_self getElem?_take_of_lt getElem_drop getElem_inj getElem_mem getElem_of_mem getElem_range getElem_take le_antisymm le_of_lt length_range length_zip length_zipIdx lookup_cons lt_asymm lt_irrefl map_drop map_filterMap map_take mem_append_left mem_filterMap mem_flatMap mem_of_getElem? mem_of_mem_drop mem_of_mem_take mem_range nodup_append nodup_cons nodup_range of_mem_zip pairwise_append pairwise_cons pairwise_iff_getElem pairwise_map perm_append_comm replicate_succ reverse_cons set_append_left take_add take_append_drop take_length take_of_length_le zipIdx_cons zipIdx_nil zip_cons_cons zip_nil_left)
open Nat (add_assoc add_comm le_of_eq le_of_lt le_of_lt_succ le_of_not_lt le_succ lt_irrefl lt_of_le_of_lt lt_trans min_eq_left mod_lt mul_le_mul not_lt_zero pow_succ sub_self succ_add zero_le)
abbrev à:=@Nat.le_refl
abbrev á:=@List.mem_of_getElem?
abbrev â:=@PySem.Heap.lt_size
abbrev ã:=@Option.some.inj
abbrev ä:=@Array.length_toList
abbrev å:=@PySem.Heap.get?_push_size
abbrev æ:=@List.getElem?_append_left
abbrev ç:=@List.pairwise_append
abbrev è:=@Nat.ne_of_lt
abbrev é:=@List.mem_append
abbrev ê:=@List.map_cons
abbrev ë:=@Nat.lt_of_lt_of_le
abbrev ì:=@List.getElem?_map
abbrev í:=@Array.getElem?_toList
abbrev î:=@List.length_range
abbrev ï:=@Nat.le_trans
abbrev ð:=@List.getElem?_append_right
abbrev ñ:=@List.mem_append_right
abbrev ò:=@Classical.choose_spec
abbrev ó:=@List.length_drop
abbrev ô:=@decide_eq_true_eq
abbrev õ:=@PySem.Heap.get?_update_other
abbrev ö:=@PySem.wpAny_call_entry
abbrev ø:=@PySem.Heap.get?_update_self
abbrev ù:=@Array.toList_append
abbrev ú:=@PySem.wpAny_mono
abbrev û:=@PySem.wpAny_callSpecial?_slot
abbrev ü:=@List.mem_filter
abbrev ý:=@List.mem_range
abbrev þ:=@List.length_set
abbrev ÿ:=@PySem.wpAny_newObj_type
abbrev Ā:=@PySem.Around.under_plainId
abbrev ā:=@List.not_lt
abbrev Ă:=@PySem.wpAny_holding
abbrev ă:=@List.take_of_length_le
abbrev Ą:=@PySem.wpAny_setState_of
abbrev ą:=@Array.getElem?_eq_getElem
abbrev Ć:=@List.getElem?_set_ne
abbrev ć:=@Nat.lt_succ_self
abbrev Ĉ:=@Option.isSome_iff_exists
abbrev ĉ:=@PyProof.Rows.wpS_forRange
abbrev Ċ:=@List.getElem?_take_of_lt
abbrev ċ:=@PySem.Heap.SameBut.update
abbrev Č:=@List.length_filter_le
abbrev č:=@List.getElem?_set_self
abbrev Ď:=@PySem.sizeLine_eq
abbrev ď:=@Nat.zero_add
abbrev Đ:=@PySem.codeAny_builtin
abbrev đ:=@List.map_append
abbrev Ē:=@List.all_eq_true
abbrev ē:=@List.getElem?_eq_none
abbrev Ĕ:=@Int.toNat_natCast
abbrev ĕ:=@Nat.ne_of_gt
abbrev Ė:=@PySem.Heap.size_push
abbrev ė:=@List.getD_eq_getElem?_getD
abbrev Ę:=@PySem.wpAny_askSetting
abbrev ę:=@List.map_map
abbrev Ě:=@List.filterMap_cons
abbrev ě:=@PySem.wpAny_truthy_bool
abbrev Ĝ:=@List.mem_append_left
abbrev ĝ:=@List.getElem?_of_mem
abbrev Ğ:=@List.length_replicate
abbrev ğ:=@Nat.lt_irrefl
abbrev Ġ:=@List.flatMap_cons
abbrev ġ:=@PySem.wpAny_field
abbrev Ģ:=@List.lookup_cons
abbrev ģ:=@List.zip_cons_cons
abbrev Ĥ:=@beq_iff_eq
abbrev ĥ:=@List.foldl_cons
abbrev Ħ:=@List.nil_append
abbrev ħ:=@PySem.wpAny_typeOf
abbrev Ĩ:=@PySem.plainId_quiet
abbrev ĩ:=@PyProof.Rows.slot_tuple_getitem
abbrev Ī:=@List.drop_eq_getElem_cons
abbrev ī:=@List.mem_of_mem_take
abbrev Ĭ:=@Array.size_push
abbrev ĭ:=@List.pairwise_cons
abbrev Į:=@PySem.wpAny_forIn_list
abbrev į:=@PySem.wpAny_setField
abbrev İ:=@List.take_append_drop
abbrev ı:=@PySem.wpAny_rule
abbrev Ĳ:=@Option.map_eq_some_iff
abbrev ĳ:=@PyProof.Rows.callWith_type1
abbrev Ĵ:=@PySem.codeAny_mono
abbrev ĵ:=@List.filter_cons_of_pos
abbrev Ķ:=@List.filter_cons_of_neg
abbrev ķ:=@PySem.wpAny_passesOwn
abbrev ĸ:=@PySem.wpAny_specialOf
abbrev Ĺ:=@List.length_nil
abbrev ĺ:=@PySem.F.slot_tuple_iterator_next
abbrev Ļ:=@Array.perm_iff_toList_perm
abbrev ļ:=@List.any_cons
abbrev Ľ:=@List.map_filterMap
abbrev ľ:=@PySem.wpAny_pyIter_list
abbrev Ŀ:=@of_decide_eq_true
abbrev ŀ:=@List.getElem?_eq_none_iff
abbrev Ł:=@List.pairwise_iff_getElem
abbrev ł:=@List.getElem_mem
abbrev Ń:=@Nat.add_assoc
abbrev ń:=@PySem.wpAny_isInstance
abbrev Ņ:=@List.filterMap_cons_none
abbrev ņ:=@List.pairwise_map
abbrev Ň:=@List.Pairwise.imp_of_mem
abbrev ň:=@Nat.succ_pos
abbrev ŉ:=@List.set_set
abbrev Ŋ:=@beq_eq_false_iff_ne
abbrev ŋ:=@List.filterMap_cons_some
abbrev Ō:=@PySem.wpAny_setEntries_of
abbrev ō:=@PySem.wpAny_getItem_str_slice
abbrev Ŏ:=@Int.eq_ofNat_of_zero_le
abbrev ŏ:=@decide_eq_false_iff_not
abbrev Ő:=@PySem.wpAny_attempt
abbrev ő:=@Bool.true_and
abbrev Œ:=@PySem.wpAny_setField_rec
abbrev œ:=@List.drop_of_length_le
abbrev Ŕ:=@List.ext_getElem?
abbrev ŕ:=@List.replicate_succ
abbrev Ŗ:=PySem.Shared
abbrev ŗ:=PySem.Value
abbrev Ř:=PySem.Program
def q0{n:Nat}:n<=n:=Nat.le_refl n
def xF0:¬(false=true):=Bool.false_ne_true
abbrev dF0:=@decide_eq_false
abbrev dT0:=@decide_eq_true
abbrev iP:=@if_pos
abbrev iN:=@if_neg
abbrev mC:=@List.mem_cons
abbrev lC:=@List.length_cons
abbrev mO:=@List.mem_cons_of_mem
abbrev lM:=@List.length_map
abbrev nM:=@List.not_mem_nil
abbrev mS:=@List.mem_singleton
abbrev mF0:=@List.mem_cons_self
abbrev fT0:=@Bool.false_eq_true
abbrev sA0:=@List.size_toArray
abbrev lS:=@List.length_singleton
abbrev eL:=@Int.emod_lt_of_pos
abbrev eN0:=@Int.emod_nonneg
abbrev aE:=@Bool.and_eq_true
abbrev iF:=@if_false
abbrev aN:=@List.append_nil
abbrev lA:=@List.length_append
abbrev gS:=@List.getElem?_eq_some_iff
abbrev gE:=@List.getElem?_eq_getElem
abbrev wB:=@PySem.wpAny_bind
abbrev wP:=@PySem.wpAny_pure
abbrev hP0:=@PySem.Heap.get?_push_of_some
abbrev mM:=@List.mem_map
abbrev lT:=@List.length_take
abbrev aA:=@List.append_assoc
abbrev VP:=PySem.Value->PySem.Shared->Prop
abbrev Q0:=PySem.W.Frag
abbrev P0:=List PySem.Expr
abbrev O0:=Option Int
abbrev N0:=List Bool
abbrev M0:=List (PySem.Addr×PySem.Obj)
abbrev L1:=Array (Int×PySem.Value)
abbrev L0:=PySem.Str->Option PySem.Value
abbrev K0:=List PySem.Str
abbrev B9:=List PySem.Addr
abbrev B0:=Array PySem.Value
abbrev A0:=List PySem.Value
abbrev Za:=List Int
abbrev Tk:=List (Int×Int)
abbrev Db:=List Nat
set_option bootstrap.genMatcherCode true in
local macro_rules
 |`(#[0])=>`(by lia)
abbrev ř:="_law_well_here"
abbrev Ś:="_law_pool_here"
abbrev ś:="_law_tables_here"
abbrev Ŝ:="_law_cell"
abbrev ŝ:="_law_script"
abbrev Ş:="_law_k"
abbrev ş:="_law_rows_here"
abbrev Š:="_law_many"
abbrev š:="_law_rule_here"
abbrev Ţ:="_law_take"
abbrev ţ:="_law_row_here"
abbrev Ť:="_law_book_here"
abbrev ť:="_law_well"
abbrev Ŧ:="_law_tests_here"
abbrev ŧ:="_law_there"
abbrev Ũ:="_law_most"
abbrev ũ:="_law_cell_at"
abbrev Ū:="_law_cells"
abbrev ū:="_law_mix"
abbrev Ŭ:="_law_lacking"
abbrev ŭ:="_law_hold"
abbrev Ů:="_law_tables"
abbrev ů:="_law_barred"
abbrev Ű:="_law_parted"
abbrev ű:="_law_breaks"
abbrev Ų:="_law_other"
abbrev ų:="_law_tests"
abbrev Ŵ:="_law_value"
abbrev ŵ:="_law_word"
abbrev Ŷ:="_law_pool"
abbrev ŷ:="_law_rows"
abbrev Ÿ:="_law_side"
abbrev Ź:="_law_rule"
abbrev ź:="_law_book"
abbrev Ż:="_law_row"
abbrev ż:="_law_key"
abbrev Ž:="_law_found"
abbrev ž:="_law_room"
abbrev ſ:="_law_some"
namespace L2
open PySem PySem.Spec PyProof.Rows
abbrev Key:=Sum Int Str
noncomputable def vR:Key->ŗ->Bool
 |.inl k,v=>Value.isInt k v
 |.inr x,v=>Value.isStrOf x v
noncomputable def L4(w:World):Key->Int
 |.inl k=>hashInt k
 |.inr x=>hashStr w x
def yG: ∀{k}{v},vR k v=true->(∃i t,k=Sum.inl i/\v=Value.int i t)\/(∃x t,k=Sum.inr x/\v=Value.str x t)
 |.inl i,v,h=>by obtain⟨t,e⟩:=Value.isInt_shape h;exact .inl ⟨i,t,rfl,e⟩
 |.inr x,v,h=>by obtain⟨t,e⟩:=Value.isStrOf_shape h;exact .inr ⟨x,t,rfl,e⟩
def Ut(a b):decide ((Sum.inl a:Key)=Sum.inl b)=(a==b):=by
 by_cases e:a=b
 .subst e;simp
 .have h: ¬(Sum.inl a:Key)=Sum.inl b:=λq=>e (Sum.inl.inj q);rw[dF0 h];exact(Ŋ.mpr e).symm
def Uu(a b):decide ((Sum.inr a:Key)=Sum.inr b)=decide (a=b):=by
 by_cases e:a=b
 .subst e;simp
 .have h: ¬(Sum.inr a:Key)=Sum.inr b:=λq=>e (Sum.inr.inj q);rw[dF0 h,dF0 e]
def Uv(a)(b):decide ((Sum.inl a:Key)=Sum.inr b)=false:=dF0 (λq=>nomatch q)
def Uw(a)(b):decide ((Sum.inr a:Key)=Sum.inl b)=false:=dF0 (λq=>nomatch q)
def cZ(prog)(w):PySem.KeyKind prog w Key where
 is:=vR
 hash:=L4 w
 inj:=λv a b ha hb=>by
  rcases yG ha with⟨i,t,rfl,rfl⟩|⟨x,t,rfl,rfl⟩
  .rcases yG hb with⟨j,u,rfl,e⟩|⟨y,u,rfl,e⟩
   .injection e with e1 _;rw[e1]
   .exact nomatch e
  .rcases yG hb with⟨j,u,rfl,e⟩|⟨y,u,rfl,e⟩
   .exact nomatch e
   .injection e with e1 _;rw[e1]
 byValue:=λk v h=>by rcases yG h with⟨i,t,rfl,rfl⟩|⟨x,t,rfl,rfl⟩<;>rfl
 pyHash:=λhv h=>by
  rcases yG hv with⟨i,t,rfl,rfl⟩|⟨x,t,rfl,rfl⟩
  .exact wpAny_pyHash_int h
  .exact wpAny_pyHash_str h
 eqBool:=λhu hv h=>by
  rcases yG hu with⟨i,t,rfl,rfl⟩|⟨x,t,rfl,rfl⟩
  .rcases yG hv with⟨j,u,rfl,rfl⟩|⟨y,u,rfl,rfl⟩
   .rw[Ut]at h;exact wpAny_eqBool_int h
   .rw[Uv]at h;exact SeqAt.EqAt.int_str i t y u _ _ _ _ h
  .rcases yG hv with⟨j,u,rfl,rfl⟩|⟨y,u,rfl,rfl⟩
   .rw[Uw]at h;exact SeqAt.EqAt.str_int x t j u _ _ _ _ h
   .rw[Uu]at h;exact wpAny_eqBool_str h
 «strs»:=λk x t v h=>by
  rcases yG h with⟨i,u,rfl,e⟩|⟨y,u,rfl,e⟩
  .exact nomatch e
  .injection e with e1 _
   subst e1;cases v<;>rfl
def EE(prog)(w)(i)(t):(cZ prog w).is (.inl i) (.int i t)=true:=(show vR (.inl i) (.int i t)=true by simp[vR,Value.isInt])
def sE(prog)(w)(x)(t):(cZ prog w).is (.inr x) (.str x t)=true:=(show vR (.inr x) (.str x t)=true by simp[vR,Value.isStrOf])
inductive V where
 |non|bl (b:Bool)|int (i:Int)|str (x:Str)|byt (b:Array UInt8)|flt (b:UInt64)|ref (a:Addr)|ty (n:String)
 deriving DecidableEq
def RelV:V->ŗ->Prop
 |.non,u=>u=Value.none
 |.bl b,u=>u=Value.bool b
 |.int i,u=> ∃t,u=Value.int i t
 |.str x,u=> ∃t,u=Value.str x t
 |.byt b,u=> ∃t,u=Value.bytes b t
 |.flt b,u=> ∃t,u=Value.float b t
 |.ref a,u=>u=Value.ref a
 |.ty n,u=>u=Value.type n
abbrev Vals:List V->List Value->Prop:=Paired RelV
def Vals.length(r:Vals xs us):xs.length=us.length:=Paired.length r
theorem Vals.get: ∀{xs}{d}{i:Nat}{x},Vals xs d->xs[i]? =some x-> ∃u,d[i]? =some u/\RelV x u
 |_,_,_,_,.nil,e=>by simp at e
 |_,_,0,_,.cons r _,e=>by simp at e;subst e;exact⟨_,rfl,r⟩
 |_,_,i+1,x,.cons _ t,e=>by obtain⟨u,m,j⟩:=Vals.get t (by simpa using e);exact⟨u,by simpa using m,j⟩
theorem Vals.set(r:RelV x u): ∀{xs}{d} i ,Vals xs d->Vals (xs.set i x) (d.set i u)
 |_,_,_,.nil=>.nil
 |_,_,0,.cons _ t=>.cons r t
 |_,_,i+1,.cons q t=>.cons q (Vals.set r i t)
def Vals.append: ∀{xs j}{d ws},Vals xs d->Vals j ws->Vals (xs++j) (d++ws):=λa=>by
 induction a with
 |nil=>exact(λs=>s)
 |cons r t ih=>exact(λs=>.cons r (ih s))
theorem Vals.take: ∀{xs}{d} n ,Vals xs d->Vals (xs.take n) (d.take n)
 |_,_,0,_=>.nil
 |_,_,_+1,.nil=>.nil
 |_,_,n+1,.cons r t=>.cons r (Vals.take n t)
theorem Vals.drop: ∀{xs}{d} n ,Vals xs d->Vals (xs.drop n) (d.drop n)
 |_,_,0,r=>r
 |_,_,_+1,.nil=>.nil
 |_,_,n+1,.cons _ t=>Vals.drop n t
theorem Vals.none_of: ∀{xs}{d}{i:Nat},Vals xs d->xs[i]? =none->d[i]? =none:=λ{xs d i} r e=>by have a:=r.length;have b:=ŀ.mp e;exact ŀ.mpr #[0]
def RelO:Option V->Option ŗ->Prop
 |some v,some u=>RelV v u
 |none,none=>True
 |_,_=>False
def KV{a:Type}:List (a×V)->List (a×ŗ)->Prop:=Paired λ(p:a×V) (q:a×ŗ)=>p.1=q.1/\RelV p.2 q.2
noncomputable def kV:Key->V
 |.inl i=>.int i
 |.inr x=>.str x
inductive HO where
 |lst (xs:List V)
 |tup (xs:List V)
 |dK (kvs:List (Key×V))|dT (kvs:List (List Key×V))
 |set (S:Int->Bool) (n:Nat)
 |ins (C dx:Addr) (fs:List (Str×V))
 |own (x:Addr)
 |xd (fs:List (Str×V))
 |met (f x:Addr)
 |rng (lo hi:Int)
 |frz (o:Obj) (u:HO)
 |tbl (ps:B0)
 |ext (φ:Heap->Prop)
abbrev Hp:=Addr->Option HO
noncomputable def wG(H:Hp)(a:Addr)(o:HO):Hp:=λb=>if b=a then some o else H b
def yN:wG H a o a=some o:=by unfold wG;rw[iP rfl]
def zO(h:b≠a):wG H a o b=H b:=by unfold wG;rw[iN h]
theorem XZ:wG (wG H a o) a u=wG H a u:=by funext b;unfold wG;split<;>rfl
def yA{H:Hp}(h:H a=some o)(h':H b=none):a≠b:=by intro e;subst e;rw[h]at h';cases h'
section
variable(P:Ř)(w:World)
def ObjOk(H:Hp)(h:Heap)(a:Addr):HO->Prop
 |.lst xs=>xs.length<=sizeLine/\ ∃(its:A0)(n:Nat),Vals xs its/\h.get? a=some {cls:=.type "list",data:=.seq its.toArray n}
 |.tup xs=>xs.length<=sizeLine/\ ∃its:List ŗ,Vals xs its/\IsTup h a its.toArray
 |.dK kvs=>kvs.length<=sizeLine/\(a==sysModules)=false/\ ∃vs,KV kvs vs/\h.DictOf (cZ P w) a vs
 |.dT kvs=>kvs.length<=sizeLine/\(a==sysModules)=false/\ ∃xs:List (List Key×Addr×ŗ),
   Paired (λ(p:List Key×V) (q:List Key×Addr×ŗ)=>p.1=q.1/\H q.2.1=some (.tup (p.1.map kV))/\RelV p.2 q.2.2) kvs xs/\
   ∃o es y,h.get? a=some o/\o.ExactDict/\o.data=.dict es y/\es.toList=xs.map (entryOfKey (tupleKind (cZ P w)))/\(xs.map (·.1)).Nodup
 |.set S n=>h.SetOf (intKind P w) a S n
 |.ins C dx fs=>H dx=some (.own a)/\fs.length<=1000/\dx≠a/\h.get? a=some (PySem.W.instObj C dx)/\
   ∃d,h.Ns1 dx d/\(∀f,RelO (fs.lookup f) (d f))/\PySem.Within d (fs.map (·.1))
 |.own _=> ∃o,h.get? a=some o
 |.xd fs=> ∃d,h.Ns1 a d/\ ∀f,RelO (fs.lookup f) (d f)
 |.rng lo hi=> ∃t u v,h.get? a=some {cls:=.type "range",data:=.fields #[.int lo t,.int hi u,.int 1 v]}
 |.frz o u=>h.get? a=some o/\ObjOk H h a u
 |.tbl ps=>h.get? a=some {cls:=.none,data:=.fields ps}
 |.met f x=>h.get? a=some (PySem.W.methodObj (.ref f) (.ref x))
 |.ext φ=>φ h/\(∃o,h.get? a=some o)/\ ∀m j:Heap,φ m->(∀o,m.get? a=some o->j.get? a=some o)->φ j
def HOk(H:Hp)(h:Heap):Prop:= ∀a o,H a=some o->ObjOk P w H h a o
end
section
variable{a:Addr}{o:HO}
def ObjOk.lt(x:ObjOk P w H h a o):a<h.objs.size:=by
 cases o with
 |lst xs=>obtain⟨_,_,_,_,e⟩:=x;exact â e
 |tup xs=>obtain⟨_,_,_,p⟩:=x;exact p.lt
 |dK kvs=>obtain⟨_,_,_,_,o,_,_,e,_⟩:=x;exact â e
 |dT kvs=>obtain⟨_,_,_,_,o,_,_,e,_⟩:=x;exact â e
 |set S n=>obtain⟨o,_,_,_,e,_⟩:=x;exact â e
 |ins C dx fs=>obtain⟨_,_,_,e,_⟩:=x;exact â e
 |own y=>obtain⟨_,e⟩:=x;exact â e
 |xd fs=>obtain⟨_,⟨_,_,_,e,_⟩,_⟩:=x;exact â e
 |rng lo hi=>obtain⟨_,_,_,e⟩:=x;exact â e
 |frz ob u=>obtain⟨e,_⟩:=x;exact â e
 |tbl ps=>exact â x
 |met f y=>exact â x
 |ext φ=>obtain⟨_,⟨_,e⟩,_⟩:=x;exact â e
def Paired.mapP: ∀{d}{j:List β},Paired F d j->(∀a b,F a b->G a b)->Paired G d j:=λc=>by
 induction c with
 |nil=>exact(λ_=>.nil)
 |cons r t ih=>exact(λf=>.cons (f _ _ r) (ih f))
def ObjOk.stay(x:ObjOk P w H h a o)(k: ∀b u,(b=a\/H b=some (.own a))->h.get? b=some u->h'.get? b=some u)
  (ho: ∀b,H b=some (.own a)->H' b=some (.own a)) (ht: ∀b xs,H b=some (.tup xs)->H' b=some (.tup xs)):ObjOk P w H' h' a o:=by
 induction o with
 |lst xs=>obtain⟨z,j,n,r,e⟩:=x;exact⟨z,j,n,r,k _ _ (.inl rfl) e⟩
 |tup xs=>obtain⟨z,j,r,ob,e,c⟩:=x;exact⟨z,j,r,ob,k _ _ (.inl rfl) e,c⟩
 |dK kvs=>obtain⟨z,y,A,r,ob,es,i,e,c⟩:=x;exact⟨z,y,A,r,ob,es,i,k _ _ (.inl rfl) e,c⟩
 |dT kvs=>
  obtain⟨z,y,xs,r,ob,es,i,e,c⟩:=x;exact⟨z,y,xs,Paired.mapP r λp q z=>⟨z.1,ht _ _ z.2.1,z.2.2⟩,ob,es,i,k _ _ (.inl rfl) e,c⟩
 |set S n=>obtain⟨ob,es,i,t,e,c⟩:=x;exact⟨ob,es,i,t,k _ _ (.inl rfl) e,c⟩
 |ins C dx fs=>
  obtain⟨d,z,ne,e,m,⟨s,es,i,B,c⟩,r⟩:=x;exact⟨ho _ d,z,ne,k _ _ (.inl rfl) e,m,⟨s,es,i,k _ _ (.inr d) B,c⟩,r⟩
 |own y=>obtain⟨ob,e⟩:=x;exact⟨ob,k _ _ (.inl rfl) e⟩
 |xd fs=>obtain⟨m,⟨s,es,i,e,c⟩,r⟩:=x;exact⟨m,⟨s,es,i,k _ _ (.inl rfl) e,c⟩,r⟩
 |rng lo hi=>obtain⟨t,u,v,e⟩:=x;exact⟨t,u,v,k _ _ (.inl rfl) e⟩
 |frz ob u ih=>obtain⟨e,q⟩:=x;exact⟨k _ _ (.inl rfl) e,ih q⟩
 |tbl ps=>
  have e:=x;exact k a _ (.inl rfl) e
 |met f y=>
  have e:h.get? a=some _:=x;show h'.get? a=some _;exact k a _ (.inl rfl) e
 |ext φ=>obtain⟨p,⟨o,e⟩,st⟩:=x;exact⟨st _ _ p λo q=>k _ _ (.inl rfl) q,⟨o,k _ _ (.inl rfl) e⟩,st⟩
def HOk.lt(x:HOk P w H h)(e:H a=some o):a<h.objs.size:=(x a o e).lt
def HOk.fresh(x:HOk P w H h)(e:h.objs.size<=a):H a=none:=by
 cases q:H a with
 |none=>rfl
 |some u=>exact absurd (ë (x.lt q) e) (ğ _)
def HOk.kept(x:HOk P w H h)(k: ∀b u,h.get? b=some u->h'.get? b=some u):HOk P w H h':=λa o e=>
 (x a o e).stay (λb u _ q=>k b u q) (λ_ q=>q) λ_ _ q=>q
def HOk.laid(x:HOk P w H h)(k: ∀b u,h.get? b=some u->h'.get? b=some u)(j:h.objs.size<=a)(new:ObjOk P w (wG H a o) h' a o):HOk P w (wG H a o) h':=λb u e=>by
 have d:=x.fresh j;by_cases i:b=a
 .subst i;rw[yN]at e;cases e;exact new
 .rw[zO i]at e;exact(x b u e).stay (λc v _ q=>k c v q) (λc q=>by rw[zO (yA q d)];exact q) λc xs q=>by rw[zO (yA q d)];exact q
end
def Rd(H:Hp)(a:Addr)(u:HO):Prop:=H a=some u\/ ∃o,H a=some (.frz o u)
def Rd.ok(r:Rd H a u)(x:HOk P w H h):ObjOk P w H h a u:=by
 rcases r with r|⟨o,r⟩
 .exact x a u r
 .obtain⟨_,q⟩:=x a _ r;exact q
def L9:Option HO->Prop
 |some (.lst _)=>True
 |some (.dK _)=>True
 |some (.dT _)=>True
 |some (.set _ _)=>True
 |some (.ins _ _ _)=>True
 |some (.ext _)=>True
 |_=>False
section
theorem HOk.write(ok:HOk P w H h)(i:L9 (H x))(p:e=x\/H e=some (.own x))(k: ∀b u,b≠e->h.get? b=some u->h'.get? b=some u)(n: ∃u,h'.get? e=some u)
  (new:ObjOk P w (wG H x o') h' x o'):HOk P w (wG H x o') h':=λb u q=>by
 have d: ∀c y,H c=some (.own y)->c≠x:=λc y r z=>by subst z;rw[r]at i;exact i
 by_cases m:b=x
 .subst m;rw[yN]at q;cases q;exact new
 .rw[zO m]at q;by_cases a:b=e
  .have o:H b=some (.own x):=by
    rcases p with z|z
    .exact absurd (a.trans z) m
    .rw[a];exact z
   rw[q]at o;cases o;obtain⟨v,s⟩:=n;exact⟨v,by rw[a];exact s⟩
  .refine(ok b u q).stay (λc v j r=>k c v ?_ r) (λc r=>by rw[zO (d c b r)];exact r) λc xs r=>by rw[zO ((λc xs r z=>by subst z;rw[r]at i;exact i) c xs r)];exact r
   rcases j with rfl|j
   .exact a
   .rintro rfl;rcases p with z|z
    .exact d c b j z
    .rw[j]at z;cases z;exact m rfl
end
structure Un(fs ex:B9)(H H':Hp)(h h':Heap):Prop where
 keep: ∀b o,h.get? b=some o->H b=none->b∉fs->b∉ex->h'.get? b=some o
 slot: ∀b o,h.get? b=some o->H b=none->b∈fs->b∉ex-> ∃sl,h'.get? b=some {o with slots:=sl}
 free: ∀b o,h.get? b=some o->H b=none->b∉ex->H' b=none
 there: ∀b o,h.get? b=some o->b∉ex-> ∃o',h'.get? b=some o'
 tups: ∀b xs,H b=some (.tup xs)->H' b=some (.tup xs)
 frzs: ∀b o u,H b=some (.frz o u)->H' b=some (.frz o u)
 tbls: ∀b ps,H b=some (.tbl ps)-> ∃more,H' b=some (.tbl (ps++more))
section
variable{h:Heap}{a:Addr}
def Un.any(u:Un fs ex H H1 h h1)(q:h.get? b=some ob)(n:H b=none)(hx:b∉ex): ∃sl,h1.get? b=some {ob with slots:=sl}:=by
 by_cases a:b∈fs
 .exact u.slot b ob q n a hx
 .exact⟨_,u.keep b ob q n a hx⟩
def Un.kept(k: ∀b u,h.get? b=some u->h'.get? b=some u):Un fs ex H H h h':=
 ⟨λb ob q _ _ _=>k b ob q,λb ob q _ _ _=>⟨_,k b ob q⟩,λ_ _ _ n _=>n,λb ob q _=>⟨ob,k b ob q⟩,λ_ _ q=>q,λ_ _ _ q=>q,λ_ ps q=>⟨#[],by rw[q];simp⟩⟩
def Un.refl:Un fs ex H H h h:=Un.kept λ_ _ q=>q
def Un.laid(k: ∀b u,h.get? b=some u->h'.get? b=some u)(hp:h.objs.size<=a)(hn:H a=none):Un fs ex H (wG H a o) h h' where
 keep:=λb u q _ _ _=>k b u q
 slot:=λb u q _ _ _=>⟨_,k b u q⟩
 free:=λb u q n _=>by rw[zO (è (ë (â q) hp))];exact n
 there:=λb u q _=>⟨u,k b u q⟩
 tups:=λb xs q=>by rw[zO (yA q hn)];exact q
 frzs:=λb u xs q=>by rw[zO (yA q hn)];exact q
 tbls:=λb ps q=>⟨#[],by rw[zO (yA q hn),q];simp⟩
def Un.write(c:L9 (H x))(s:e=x\/H e=some (.own x))(k: ∀b u,b≠e->h.get? b=some u->h'.get? b=some u)(d: ∃u,h'.get? e=some u):Un fs ex H (wG H x o) h h':=by
 have j: ∀b,H b=none->b≠x:=λb n z=>by subst z;rw[n]at c;exact c
 have m: ∀b,H b=none->b≠e:=λb n z=>by
  subst z;rcases s with r|r
  .exact j b n r
  .rw[n]at r;cases r
 have i: ∀b u,H b=some u-> ¬L9 (some u)->b≠x:=λb u q p z=>by subst z;rw[q]at c;exact p c
 refine⟨λb u q n _ _=>k b u (m b n) q,λb u q n _ _=>⟨_,k b u (m b n) q⟩,λb u q n _=>by rw[zO (j b n)];exact n,λb u q _=>?_,
  λb xs q=>by rw[zO (i b _ q λz=>z)];exact q,λb u xs q=>by rw[zO (i b _ q λz=>z)];exact q,λb ps q=>⟨#[],by rw[zO (i b _ q λz=>z),q];simp⟩⟩
 by_cases a:b=e
 .subst a;exact d
 .exact⟨u,k b u a q⟩
end
noncomputable def trk(h:Heap)(H:Hp):List Addr:=(List.range h.objs.size).filter λa=>(H a).isSome
def Bp(h:Heap)(H:Hp):Heap:=PySem.W.hideAll h (trk h H)
def Ln(e:(Bp h H).get? b=some o):h.get? b=some o/\H b=none:=by
 have a:=PySem.W.of_hideAll _ e;refine⟨a,?_⟩
 cases q:H b with
 |none=>rfl
 |some x=>
  have z:(Bp h H).get? b=none:=PySem.W.hideAll_none _ (ü.mpr ⟨ý.mpr (â a),by simp[q]⟩);rw[z]at e;cases e
noncomputable def Lo(g h:Heap)(L:Addr):List (Addr×Obj):=(List.range h.objs.size).filterMap λa=>if a=L\/(g.get? a).isSome=true then none else(h.get? a).map λo=>(a,o)
def rest(g h:Heap)(L d:Addr):List (Addr×Obj):=(Lo g h L).filter λp=>decide (p.1≠d)
structure Mod(K:Q0)(mg:L0)(base:Heap):Prop where
 kin:K.In base
 glob:base.Ns mainGlobals mg
 blt: ∃mb,base.Ns builtinsNs mb/\ ∀x:Str,x≠"__name__"->mb x=bootBuiltins x
 nolimit:base.NoLimit
structure Cx where
 prog:Ř
 w:World
 K:PySem.W.Frag
 mg:Str->Option ŗ
 base:Heap
 A:Around
 N:List Str
 s₀:Ŗ
 H₀:Hp
 env:Env
 outer:List Env
 stack:List Env
 ex:List Addr
 fn:Str->Bool
 calm:Bool
 pn:List (Addr×Obj)
 xe:VP
noncomputable def Ex(l:List Env):List Addr:=l.filterMap (·.frame)
abbrev Cx.fs(X:Cx):List Addr:=Ex X.outer
def Z4(a:Scope)(x:Str):Prop:=a.names.lookup x=some .local\/a.names.lookup x=some .cell\/a.names.lookup x=some .free
def Loc(a:Scope)(x:Str):Prop:=a.names.lookup x=some .local\/a.names.lookup x=some .cell
def Look(a:Env)(h:Heap)(m:L0)(x:Str)(u:ŗ):Prop:=
 (a.kindOf x=some .local/\m x=some u)\/((a.kindOf x=some .cell\/a.kindOf x=some .free)/\ ∃c,a.cells.lookup x=some c/\h.IsCell c (some u))
structure Cx.Ok(X:Cx):Prop where
 mod:Mod X.K X.mg X.base
 kind:X.env.scope.kind=.function
 glob:X.env.globals=mainGlobals
 blt:X.env.builtins=builtinsNs
 above:X.s₀.heap.objs.size<=X.env.locals
 inj: ∀x y c,X.env.cells.lookup x=some c->X.env.cells.lookup y=some c->x=y
 has: ∀x,(X.env.kindOf x=some .cell\/X.env.kindOf x=some .free)-> ∃c,X.env.cells.lookup x=some c
 cab: ∀x c,X.fn x=true->X.env.cells.lookup x=some c->X.s₀.heap.objs.size<=c
 hd:X.calm=true->X.A.handled=none
 frames:X.A.frames=some X.stack
 stk:X.stack=X.outer\/(X.stack=X.env::X.outer/\X.env.frame=some X.env.locals)
 exf: ∀b∈X.ex,b≠X.env.locals/\ ∀x c,X.env.cells.lookup x=some c->c≠b
 bs: ∀b o,X.base.get? b=some o->X.s₀.heap.get? b=some o/\X.H₀ b=none
 bsz:X.base.objs.size<=X.s₀.heap.objs.size
 noex: ∀b o,X.base.get? b=some o->b∉X.ex
 exfs: ∀b∈X.ex,b∉X.fs
 funs:X.s₀.heap.FunFrames X.base X.outer
 frf: ∀b∈X.fs,X.H₀ b=none
structure Inv(X:Cx)(pins:M0)(σ:List (Option V))(H:Hp)(s:Ŗ):Prop where
 ok:X.Ok
 os:s.os=X.s₀.os
 bare:AllBare s.gens
 base:Un X.fs X.ex X.H₀ H X.s₀.heap s.heap
 loc: ∃m,s.heap.Ns X.env.locals m/\ ∀(i:Nat)(x:Str)(v:V),X.N[i]? =some x->σ[i]? =some (some v)->Z4 X.env.scope x-> ∃u,RelV v u/\Look X.env s.heap m x u
 cell: ∀x c,X.env.cells.lookup x=some c-> ∃v,s.heap.IsCell c v
 free:H X.env.locals=none
 freeC: ∀x c,X.env.cells.lookup x=some c->H c=none
 pin: ∀p∈X.pn++pins,s.heap.get? p.1=some p.2/\H p.1=none/\p.1≠X.env.locals/\p.1∉X.fs/\ ∀v,p.2.data≠.cell v
 hok:HOk X.prog X.w H s.heap
 len:σ.length=X.N.length
section
variable{X:Cx}{h':Heap}
def Cx.Ok.nofr(ok:X.Ok)(e:X.base.get? b=some o):b∉X.fs:=λa=>by have:=(ok.funs.mem a).1;rw[e]at this;cases this
def Inv.bs(I:↑2): ∀b o,X.base.get? b=some o->s.heap.get? b=some o/\H b=none:=λb o e=>
 ⟨I.base.keep b o (I.ok.bs b o e).1 (I.ok.bs b o e).2 (I.ok.nofr e) (I.ok.noex b o e),I.base.free b o (I.ok.bs b o e).1 (I.ok.bs b o e).2 (I.ok.noex b o e)⟩
def Inv.bk(I:↑2): ∀b o,X.base.get? b=some o->s.heap.get? b=some o:=λb o e=>(I.bs b o e).1
def Inv.mod(I:↑2):Mod X.K X.mg X.base:=I.ok.mod
def Inv.kIn(I:↑2):X.K.In s.heap:=I.ok.mod.kin.keeps I.bk
def Inv.lt(I:↑2):X.env.locals<s.heap.objs.size:=let ⟨_,a,_⟩:=I.loc;a.lt
def Inv.sz(I:↑2):X.s₀.heap.objs.size<=s.heap.objs.size:=ï I.ok.above (le_of_lt I.lt)
def Inv.nofs(I:↑2){a:Addr}(h:↑1<=a):a∉X.fs:=λb=>by obtain⟨_,o,c,_⟩:=I.ok.funs.mem b;exact absurd (ë (â c) (ï I.sz h)) (ğ _)
def Inv.cne(I:↑2): ∀x c,X.env.cells.lookup x=some c->c≠X.env.locals:=λx c e z=>by obtain⟨v,o,h,d⟩:=I.cell x c e;obtain⟨m,⟨j,es,i,b,a,_⟩,_⟩:=I.loc;rw[z,b]at h;cases h;rw[a]at d;cases d
def Inv.funs(I:↑2):s.heap.FunFrames X.base X.outer:=by
 have all: ∀(l:List Env),(∀b∈Ex l,b∈X.fs)->X.s₀.heap.FunFrames X.base l->s.heap.FunFrames X.base l:=by
  intro l
  induction l with
  |nil=>intro _ _;trivial
  |cons env r ih=>
   intro hs m;obtain⟨j,⟨L,o,c,h,n,k⟩,i⟩:=m;have a:=hs L (by unfold Ex;rw[Ě,c];exact mF0);obtain⟨sl,e⟩:=I.base.slot L o n (I.ok.frf L a) a λz=>I.ok.exfs L z a;exact⟨j,⟨L,_,c,h,e,k⟩,ih (λb d=>hs b (by unfold Ex;rw[Ě,c];exact mO _ d)) i⟩
 exact all X.outer (λ_ d=>d) I.ok.funs
def Inv.stack(I:↑2):s.heap.FunFrames X.base X.stack:=by
 rcases I.ok.stk with e|⟨e,hf⟩
 .rw[e];exact I.funs
 .rw[e];obtain⟨m,a,_⟩:=I.loc;refine .cons (by rw[I.ok.kind];decide) hf a ?_ I.funs;exact Heap.get?_none_of_le (ï I.ok.bsz I.ok.above)
def Inv.stkSub(I:↑2): ∀b∈Ex X.stack,b∈X.env.locals::X.fs:=λb a=>by
 rcases I.ok.stk with e|⟨e,hf⟩
 .rw[e]at a;exact mO _ a
 .rw[e]at a;unfold Ex at a;rw[Ě,hf]at a;exact a
def Inv.stkFree(I:↑2): ∀b∈Ex X.stack,H b=none:=λb a=>by
 rcases mC.mp (I.stkSub b a)with e|a
 .rw[e];exact I.free
 .obtain⟨_,o,c,_⟩:=I.ok.funs.mem a;exact I.base.free b o c (I.ok.frf b a) λz=>I.ok.exfs b z a
def Inv.step{ch:B9}(I:↑2)
  (hch: ∀b∈ch,(b∈X.ex\/X.s₀.heap.objs.size<=b)/\b≠X.env.locals/\(∀x c,X.env.cells.lookup x=some c->c≠b)/\ ∀p∈X.pn++pins,p.1≠b)
  (keep: ∀b o,b≠X.env.locals->b∉X.fs->b∉ch->s.heap.get? b=some o->H b=none->h'.get? b=some o)
  (slot: ∀b o,b≠X.env.locals->b∈X.fs->b∉ch->s.heap.get? b=some o->H b=none-> ∃sl,h'.get? b=some {o with slots:=sl}) (free: ∀b o,b∉ch->s.heap.get? b=some o->H b=none->H' b=none)
  (there: ∀b o,b∉ch->s.heap.get? b=some o-> ∃o',h'.get? b=some o')
  (tups: ∀b xs,H b=some (.tup xs)->H' b=some (.tup xs)) (frzs: ∀b o u,H b=some (.frz o u)->H' b=some (.frz o u)) (tbls: ∀b ps,H b=some (.tbl ps)-> ∃G,H' b=some (.tbl (ps++G)))
  (ns: ∀m,s.heap.Ns X.env.locals m->h'.Ns X.env.locals m) (hok:HOk X.prog X.w H' h') (hg:AllBare g'):
  Inv X pins σ H' {s with heap:=h',gens:=g',drawn:=d',toks:=t'}:=by
 have D: ∀b o,X.s₀.heap.get? b=some o->b≠X.env.locals:=λb o e=>è (ë (â e) I.ok.above)
 have A: ∀b o,X.s₀.heap.get? b=some o->b∉X.ex->b∉ch:=λb o e a B=>by
  rcases (hch b B).1 with z|z
  .exact a z
  .exact absurd (ë (â e) z) (ğ _)
 have j: ∀x c,X.env.cells.lookup x=some c-> ∀v,s.heap.IsCell c v->h'.IsCell c v:=λx c e v ⟨o,C,J⟩=>by
  have h:=λz=>(hch c z).2.2.1 x c e rfl;by_cases L:c∈X.fs
  .obtain⟨sl,q⟩:=slot c o (I.cne x c e) L h C (I.freeC x c e);exact⟨_,q,J⟩
  .exact⟨o,keep c o (I.cne x c e) L h C (I.freeC x c e),J⟩
 refine⟨I.ok,I.os,hg,⟨λb o e n B a=>?_,λb o e n B a=>?_,λb o e n a=>?_,λb o e a=>?_,λb xs e=>tups b xs (I.base.tups b xs e),λb o xs e=>frzs b o xs (I.base.frzs b o xs e),λb ps e=>?_⟩,?_,λx c e=>?_,?_,λx c e=>?_,λp K=>?_,hok,I.len⟩
 .exact keep b o (D b o e) B (A b o e a) (I.base.keep b o e n B a) (I.base.free b o e n a)
 .obtain⟨sl,y⟩:=I.base.slot b o e n B a;obtain⟨F,E⟩:=slot b _ (D b o e) B (A b o e a) y (I.base.free b o e n a);exact⟨F,E⟩
 .obtain⟨o',y⟩:=I.base.there b o e a;exact free b o' (A b o e a) y (I.base.free b o e n a)
 .obtain⟨o',y⟩:=I.base.there b o e a;exact there b o' (A b o e a) y
 .obtain⟨Q,y⟩:=I.base.tbls b ps e;obtain⟨P,E⟩:=tbls b _ y;exact⟨_,by rw[E,Array.append_assoc]⟩
 .obtain⟨m,M,N⟩:=I.loc;refine⟨m,ns m M,λi x v y E O=>?_⟩;obtain⟨u,r,l⟩:=N i x v y E O;refine⟨u,r,?_⟩;rcases l with l|⟨k,c,e,z⟩
  .exact .inl l
  .exact .inr ⟨k,c,e,j x c e _ z⟩
 .obtain⟨v,z⟩:=I.cell x c e;exact⟨v,j x c e v z⟩
 .obtain⟨m,⟨o,_,_,C,_⟩,_⟩:=I.loc;exact free _ o (λz=>(hch _ z).2.1 rfl) C I.free
 .obtain⟨v,o,C,J⟩:=I.cell x c e;exact free c o (λz=>(hch c z).2.2.1 x c e rfl) C (I.freeC x c e)
 .obtain⟨e,n,ne,nf,d⟩:=I.pin p K;have h:=λz=>(hch p.1 z).2.2.2 p K rfl;exact⟨keep p.1 p.2 ne nf h e n,free p.1 p.2 h e n,ne,nf,d⟩
def Inv.un(I:Inv X pins σ H s)(u:Un X.fs [] H H' s.heap h')(d:HOk X.prog X.w H' h'):Inv X pins σ H' {s with heap:=h',toks:=t'}:=by obtain⟨m,⟨o,es,y,j,r⟩,_⟩:=id I.loc;obtain⟨sl,k⟩:=u.any j I.free (by simp);exact I.step (ch:=[]) (λ_ z=>nomatch z) (λb o _ i _ e n=>u.keep b o e n i (by simp)) (λb o _ i _ e n=>u.slot b o e n i (by simp)) (λb o _ e n=>u.free b o e n (by simp)) (λb o _ e=>u.there b o e (by simp)) u.tups u.frzs u.tbls (λv q=>by obtain⟨A,h,c,a,p⟩:=q;rw[j]at a;cases a;exact⟨_,h,c,k,p⟩) d I.bare
def Inv.call(I:↑2)(u:Un (Ex X.stack) ch H H' s.heap h')(j:HOk X.prog X.w H' h')(v:AllBare g')
  (hch: ∀b∈ch,(b∈X.ex\/X.s₀.heap.objs.size<=b)/\b≠X.env.locals/\(∀x c,X.env.cells.lookup x=some c->c≠b)/\ ∀p∈X.pn++pins,p.1≠b):
  Inv X pins σ H' {s with heap:=h',gens:=g',drawn:=d',toks:=t'}:=by
 obtain⟨m,⟨o,es,D,q,r⟩,_⟩:=id I.loc;obtain⟨sl,i⟩:=u.any q I.free λz=>(hch _ z).2.1 rfl;exact I.step hch (λb o i y a e n=>u.keep b o e n (λz=>(mC.mp (I.stkSub b z)).elim i y) a) (λb o _ _ a e n=>u.any e n a) (λb o a e n=>u.free b o e n a) (λb o a e=>u.there b o e a) u.tups u.frzs u.tbls (λC B=>by obtain⟨E,k,h,d,A⟩:=B;rw[q]at d;cases d;exact⟨_,k,h,i,A⟩) j v
def Inv.turned(I:↑2)(k: ∀b o,b≠it->s.heap.get? b=some o->h'.get? b=some o)(i:H it=none)(h:it≠X.env.locals)
  (h1:it∈X.ex\/X.s₀.heap.objs.size<=it) (h2: ∀x c,X.env.cells.lookup x=some c->c≠it) (h3: ∀p∈X.pn++pins,p.1≠it):Inv X pins σ H {s with heap:=h',toks:=t'}:=by
 have d: ∀b u,H b=some u->b≠it:=λb u e z=>by rw[z,i]at e;cases e
 refine I.step (ch:=[it]) (λb w=>?_) (λb o _ _ a e _=>k b o (λz=>a (by simp[z])) e) (λb o _ _ a e _=>⟨_,k b o (λz=>a (by simp[z])) e⟩) (λ_ _ _ _ n=>n)
  (λb o a e=>⟨o,k b o (λz=>a (by simp[z])) e⟩) (λ_ _ e=>e) (λ_ _ _ e=>e) (λb ps e=>⟨#[],by rw[e];simp⟩) (λm A=>?_) (λb u e=>?_) I.bare
 .have e:=by simpa using w
  subst e;exact⟨h1,h,h2,h3⟩
 .obtain⟨o,es,j,y,r⟩:=A;exact⟨o,es,j,k _ o (Ne.symm h) y,r⟩
 .refine(I.hok b u e).stay (λc v a q=>k c v ?_ q) (λ_ q=>q) λ_ _ q=>q;rcases a with z|z
  .rw[z];exact d b u e
  .exact d c _ z
def Inv.tok(I:↑2)(t):Inv X pins σ H {s with toks:=t}:=I.un Un.refl I.hok
def Inv.kept(I:↑2)(k: ∀b u,s.heap.get? b=some u->h'.get? b=some u):Inv X pins σ H {s with heap:=h',toks:=t'}:=I.un (Un.kept k) (I.hok.kept k)
def Inv.laid{a:Addr}(I:↑2)(k: ∀b u,s.heap.get? b=some u->h'.get? b=some u)(c:↑1<=a)(new:ObjOk X.prog X.w (wG H a o) h' a o):
  Inv X pins σ (wG H a o) {s with heap:=h',toks:=t'}:=I.un (Un.laid k c (I.hok.fresh c)) (I.hok.laid k c new)
def Inv.write(I:↑2)(d:L9 (H x))(c:e=x\/H e=some (.own x))(k: ∀b u,b≠e->s.heap.get? b=some u->h'.get? b=some u)(a: ∃u,h'.get? e=some u)
  (new:ObjOk X.prog X.w (wG H x o) h' x o):Inv X pins σ (wG H x o) {s with heap:=h',toks:=t'}:=I.un (Un.write d c k a) (I.hok.write d c k a new)
def Inv.pins_of(I:↑2)(h: ∀p∈pins',s.heap.get? p.1=some p.2/\H p.1=none/\p.1≠X.env.locals/\p.1∉X.fs/\ ∀v,p.2.data≠.cell v):Inv X pins' σ H s:=
 ⟨I.ok,I.os,I.bare,I.base,I.loc,I.cell,I.free,I.freeC,λp a=>(é.mp a).elim (λz=>I.pin p (Ĝ _ z)) (h p),I.hok,I.len⟩
def RE{N:K0}(d:N.Nodup){i:Nat}(a:N[i]? =some x)(b:N[j]? =some x):i=j:=by obtain⟨k,c⟩:=gS.mp a;obtain⟨h,e⟩:=gS.mp b;exact(getElem_inj d).mp (c.trans e.symm)
abbrev z0(X:Cx)(x:Str):Prop:=X.fn x=true\/X.env.scope.names.lookup x=some .local
def LQ(I:↑2)(hN:X.N.Nodup)(hi:X.N[i]? =some x)(hx:Loc X.env.scope x)(r:RelV v u)
  (h: ∀s',Inv X pins (σ.set i (some v)) H s'->(∃a,Heap.SameBut a s.heap s'.heap/\(a=X.env.locals\/X.env.cells.lookup x=some a))->Q () s') (hf:z0 X x:=by first |exact .inl rfl|exact .inr rfl|assumption):wpAny M A (storeName X.env x u) Q E s:=by
 obtain⟨m,Z,hl⟩:=id I.loc;have J:i<σ.length:=by rw[I.len];exact(gS.mp hi).1
 have cne:=I.cne
 have B: ∀{a:Addr}{h':Heap},(∃o,s.heap.get? a=some o/\H a=none)->Heap.SameBut a s.heap h'->HOk X.prog X.w H h':=λ{a h'} ha hs b ob e=>by
  obtain⟨_,_,F⟩:=ha;refine(I.hok b ob e).stay (λc Y D q=>(hs.2 c ?_).trans q) (λ_ q=>q) λ_ _ q=>q;rintro rfl;rcases D with rfl|D
  .rw[F]at e;cases e
  .rw[F]at D;cases D
 rcases hx with hk|hk
 .refine wpAny_storeName_local hk Z (λh' ab hs=>?_) (by rw[I.ok.kind];rfl);obtain⟨oL,_,_,aa,_⟩:=id Z;refine h _ ⟨I.ok,I.os,I.bare,⟨λb o e n O hx=>?_,λb o e n O hx=>?_,I.base.free,λb o e hx=>?_,I.base.tups,I.base.frzs,I.base.tbls⟩,⟨_,ab,λj y v' C G e3=>?_⟩,λy c e=>?_,I.free,I.freeC,λp hp=>?_,B ⟨oL,aa,I.free⟩ hs,by simpa using I.len⟩ ⟨_,hs,.inl rfl⟩
  .exact(hs.2 b (è (ë (â e) I.ok.above))).trans (I.base.keep b o e n O hx)
  .obtain⟨sl,C⟩:=I.base.slot b o e n O hx;exact⟨sl,(hs.2 b (è (ë (â e) I.ok.above))).trans C⟩
  .obtain⟨o',C⟩:=I.base.there b o e hx;exact⟨o',(hs.2 b (è (ë (â e) I.ok.above))).trans C⟩
  .by_cases L:j=i
   .subst L;rw[hi]at C;cases C;rw[č J]at G;cases G;exact⟨u,r,.inl ⟨hk,by simp⟩⟩
   .rw[Ć (Ne.symm L)]at G;obtain⟨u',r',q⟩:=hl j y v' C G e3;refine⟨u',r',?_⟩;rcases q with⟨k,e⟩|⟨k,c,e,z⟩
    .refine .inl ⟨k,?_⟩;have:y≠x:=λe=>L (RE hN C (e▸hi));simp[this,e]
    .exact .inr ⟨k,c,e,z.sameBut hs (cne y c e)⟩
  .obtain⟨Y,z⟩:=I.cell y c e;exact⟨Y,z.sameBut hs (cne y c e)⟩
  .obtain⟨e,n,ne,nf,d⟩:=I.pin p hp;exact⟨(hs.2 p.1 ne).trans e,n,ne,nf,d⟩
 .have K:X.fn x=true:=by
   rcases hf with z|z
   .exact z
   .rw[z]at hk;cases hk
  obtain⟨c,D⟩:=I.ok.has x (.inl hk);obtain⟨Y,z⟩:=I.cell x c D;refine wpAny_storeName_cell I.ok.kind hk D z (λh' U hs=>?_);obtain⟨oc,T,S⟩:=id z;refine h {s with heap:=h'} ⟨I.ok,I.os,I.bare,⟨λb o e n O hx=>?_,λb o e n O hx=>?_,I.base.free,λb o e hx=>?_,I.base.tups,I.base.frzs,I.base.tbls⟩,⟨m,Z.sameBut hs (Ne.symm (cne x c D)),λj y v' C G e3=>?_⟩,λy W e=>?_,I.free,I.freeC,λp hp=>?_,B ⟨oc,T,I.freeC x c D⟩ hs,by simpa using I.len⟩ ⟨c,hs,.inr D⟩
  .exact(hs.2 b (è (ë (â e) (I.ok.cab x c K D)))).trans (I.base.keep b o e n O hx)
  .obtain⟨sl,C⟩:=I.base.slot b o e n O hx;exact⟨sl,(hs.2 b (è (ë (â e) (I.ok.cab x c K D)))).trans C⟩
  .obtain⟨o',C⟩:=I.base.there b o e hx;exact⟨o',(hs.2 b (è (ë (â e) (I.ok.cab x c K D)))).trans C⟩
  .by_cases L:j=i
   .subst L;rw[hi]at C;cases C;rw[č J]at G;cases G;exact⟨u,r,.inr ⟨.inl hk,c,D,U⟩⟩
   .rw[Ć (Ne.symm L)]at G;obtain⟨u',r',q⟩:=hl j y v' C G e3;refine⟨u',r',?_⟩;rcases q with q|⟨k,W,e,z'⟩
    .exact .inl q
    .refine .inr ⟨k,W,e,z'.sameBut hs ?_⟩;rintro rfl;exact L (RE hN C (I.ok.inj _ _ _ e D▸hi))
  .by_cases P:W=c
   .subst P;exact⟨_,U⟩
   .obtain⟨w2,z2⟩:=I.cell y W e;exact⟨w2,z2.sameBut hs P⟩
  .obtain⟨e,n,ne,nf,d⟩:=I.pin p hp;refine⟨(hs.2 p.1 ?_).trans e,n,ne,nf,d⟩;intro q;rw[q,T]at e;exact d Y (by rw[<-(ã e)];exact S)
def RF(I:↑2)(a:X.N.Nodup)(hi:X.N[i]? =some x)(hx:Loc X.env.scope x)(r:RelV v u)
  (h: ∀d,Inv X pins (σ.set i (some v)) H d->Q () d) (hf:z0 X x:=by first |exact .inl rfl|exact .inr rfl|assumption):wpAny M A (storeName X.env x u) Q E s:=
 LQ I a hi hx r (λd b _=>h d b) hf
def Inv.call'(I:↑2)(e:s'.os=s.os)(u:Un (Ex X.stack) ch H H' s.heap s'.heap)(a:HOk X.prog X.w H' s'.heap)(d:AllBare s'.gens)
  (hch: ∀b∈ch,(b∈X.ex\/X.s₀.heap.objs.size<=b)/\b≠X.env.locals/\(∀x c,X.env.cells.lookup x=some c->c≠b)/\ ∀p∈X.pn++pins,p.1≠b):Inv X pins σ H' s':=by
 obtain⟨h',i,h,j,k⟩:=s';subst e;exact I.call u a d hch
end
abbrev XK:=Value->Option Addr->Hp->Prop
abbrev St:=List (Option V)
abbrev VK:=V->Hp->Prop
abbrev TE:=St->Hp->VK->Prop
abbrev TT:=St->Hp->(Bool->Hp->Prop)->Prop
abbrev TA:=St->Hp->(List V->Hp->Prop)->Prop
structure Ends where
 nx:St->Hp->Prop
 rt:VK
 bk:St->Hp->Prop:=λ_ _=>False
 ct:St->Hp->Prop:=λ_ _=>False
abbrev TS:=Ends->St->Hp->Prop
def EP(X:Cx)(pins:M0)(σ:St)(Q:VK)(u:ŗ)(a:Ŗ):Prop:= ∃v H',Inv X pins σ H' a/\RelV v u/\Q v H'
def TP(X:Cx)(pins:M0)(σ:St)(Q:Bool->Hp->Prop)(b:Bool)(a:Ŗ):Prop:= ∃H',Inv X pins σ H' a/\Q b H'
def AP(X:Cx)(pins:M0)(σ:St)(Q:List V->Hp->Prop)(c:A0)(b:Ŗ):Prop:= ∃a H',Inv X pins σ H' b/\Vals a c/\Q a H'
def SP(X:Cx)(pins:M0)(D:Ends)(f:Flow)(b:Ŗ):Prop:=
 match f with
 |.next=> ∃a H',Inv X pins a H' b/\D.nx a H'
 |.brk=> ∃a H',Inv X pins a H' b/\D.bk a H'
 |.cont=> ∃a H',Inv X pins a H' b/\D.ct a H'
 |.ret u=> ∃v a H',Inv X pins a H' b/\RelV v u/\D.rt v H'
def PE(X:Cx)(e:Expr)(t:TE):Prop:=
 ∀(pins:M0)(s:Ŗ)(σ:St)(H:Hp)(Q:VK),Inv X pins σ H s->t σ H Q->wpAny ↑5 X.A (eval e X.env) (EP X pins σ Q) X.xe s
def PT(X:Cx)(e:Expr)(t:TT):Prop:=
 ∀(pins:M0)(s:Ŗ)(σ:St)(H:Hp)(Q:Bool->Hp->Prop),Inv X pins σ H s->t σ H Q->wpAny ↑5 X.A (isTrue e X.env (eval e X.env)) (TP X pins σ Q) X.xe s
def PW(X:Cx)(e:Expr)(t:TT):Prop:=
 ∀(a:Sem ŗ)(pins:M0)(s:Ŗ)(σ:St)(H:Hp)(Q:Bool->Hp->Prop),Inv X pins σ H s->t σ H Q->wpAny ↑5 X.A (isTrue e X.env a) (TP X pins σ Q) X.xe s
def PW.pt(h:PW X e t):PT X e t:=h _
def PA(X:Cx)(es:P0)(t:TA):Prop:=
 ∀(pos:Pos)(pins:M0)(s:Ŗ)(σ:St)(H:Hp)(Q:List V->Hp->Prop),Inv X pins σ H s->t σ H Q->wpAny ↑5 X.A (spliced (backTo pos (starEach es X.env))) (AP X pins σ Q) X.xe s
def PS(X:Cx)(st:Stmt)(t:TS):Prop:=
 ∀(pins:M0)(s:Ŗ)(σ:St)(H:Hp)(D:Ends),Inv X pins σ H s->t D σ H->wpAny ↑5 X.A (exec st X.env) (SP X pins D) X.xe s
def PSs(X:Cx)(st:List Stmt)(t:TS):Prop:=
 ∀(pins:M0)(s:Ŗ)(σ:St)(H:Hp)(D:Ends),Inv X pins σ H s->t D σ H->wpAny ↑5 X.A (execs st X.env) (SP X pins D) X.xe s
def jU(h:wpAny M A t Q E s)(b: ∀a s,Q a s->Q' a s):wpAny M A t Q' E s:=ú h b λ_ _ x=>x
section
variable{X:Cx}
def M1(i:Nat):TE:=λσ H Q=> ∃v,σ[i]? =some (some v)/\Q v H
def tC(v:V):TE:=λ_ H Q=>Q v H
def Fi:PE X (.Constant (.int i) j pos) (tC (.int i)):=λ_ _ _ H _ I h=>wpAny_Constant_int ⟨.int i,H,I.tok _,⟨_,rfl⟩,h⟩
def M2:PE X (.Constant (.bool b) j pos) (tC (.bl b)):=λ_ _ _ H _ I h=>Constant_bool ⟨.bl b,H,I,rfl,h⟩
def Gl(X:Cx)(x:Str):Prop:=X.env.kindOf x=some .globalImplicit
def YA(I:↑2)(b:Gl X x)(a:X.mg x=some u)(h:Q u s)
  (hd:(x==("__debug__"))=false:=by decide):wpAny ↑5 X.A (eval (.Name x pos) X.env) Q E s:=
 Calls.Name_function_global I.ok.kind b (Calls.loadGlobal_global (by rw[I.ok.glob];exact I.mod.glob.keeps I.bk) a h) hd
def CG{E:VP}{pos:Pos}(I:↑2)(b:Gl X x)(e:X.mg x=none)(d:bootBuiltins x=some u)(h:Q u s)
  (hn:x≠"__name__":=by decide) (hd:(x==("__debug__"))=false:=by decide):wpAny ↑5 X.A (eval (.Name x pos) X.env) Q E s:=by
 obtain⟨i,c,a⟩:=I.mod.blt;exact Calls.Name_function_global I.ok.kind b (Calls.loadGlobal_builtin (by rw[I.ok.glob];exact I.mod.glob.keeps I.bk) e (by rw[I.ok.blt];exact c.keeps I.bk) ((a x hn).trans d) h) hd
variable{rest:P0}
def tAnd(t u:TT):TT:=λσ H Q=>t σ H λc a=>if c=true then u σ a Q else Q false a
def tOr(t u:TT):TT:=λσ H Q=>t σ H λc a=>if c=true then Q true a else u σ a Q
def tNot(t:TT):TT:=λσ H Q=>t σ H λc a=>Q (!c) a
def Lq(b:PT X a tA):PW X (.BoolOp .And [a] pos) tA:=by
 intro d pins s σ H Q I h;refine isTrue_and (jU (b pins s σ H Q I h) λc i e=>?_)
 cases c with
 |true=>exact isTrue_and_nil e
 |false=>exact e
def Va(b:PT X a tA):PW X (.BoolOp .Or [a] pos) tA:=by
 intro d pins s σ H Q I h;refine isTrue_or (jU (b pins s σ H Q I h) λc i e=>?_)
 cases c with
 |false=>exact isTrue_or_nil e
 |true=>exact e
def Vb(k:PT X a tA)(m:PW X (.BoolOp .And (b::rest) pos) tB'):PW X (.BoolOp .And (a::b::rest) pos) (tAnd tA tB'):=by
 intro i pins s σ H Q I h;refine isTrue_and (jU (k pins s σ H _ I h) λc j ⟨d,I1,e⟩=>?_)
 cases c with
 |true=>exact m i pins j σ d Q I1 e
 |false=>exact⟨d,I1,e⟩
def M3(k:PT X a tA)(m:PW X (.BoolOp .Or (b::rest) pos) tB'):PW X (.BoolOp .Or (a::b::rest) pos) (tOr tA tB'):=by
 intro i pins s σ H Q I h;refine isTrue_or (jU (k pins s σ H _ I h) λc j ⟨d,I1,e⟩=>?_)
 cases c with
 |true=>exact⟨d,I1,e⟩
 |false=>exact m i pins j σ d Q I1 e
def M4(b d:TE):TE:=λσ H Q=>b σ H λx a=> ∃c,x=.bl c/\if c=true then d σ a Q else Q (.bl false) a
def tOrV(b d:TE):TE:=λσ H Q=>b σ H λx a=> ∃c,x=.bl c/\if c=true then Q (.bl true) a else d σ a Q
def M5(a:TE):TE:=λσ H Q=>a σ H λx b=> ∃c,x=.bl c/\Q (.bl (!c)) b
def Ve(k:PE X a ta)(m:PE X (.BoolOp .And (b::rest) pos) tb):PE X (.BoolOp .And (a::b::rest) pos) (M4 ta tb):=by
 intro pins s σ H Q I h;refine BoolOp_and (jU (k pins s σ H _ I h) λv j ⟨x,e,I1,i,d⟩=>?_);obtain⟨c,rfl,d⟩:=d;cases i;refine ě ?_
 cases c with
 |true=>exact m pins j σ e Q I1 d
 |false=>exact⟨.bl false,e,I1,rfl,d⟩
def M6(k:PE X a ta)(m:PE X (.BoolOp .Or (b::rest) pos) tb):PE X (.BoolOp .Or (a::b::rest) pos) (tOrV ta tb):=by
 intro pins s σ H Q I h;refine BoolOp_or (jU (k pins s σ H _ I h) λv j ⟨x,e,I1,i,d⟩=>?_);obtain⟨c,rfl,d⟩:=d;cases i;refine ě ?_
 cases c with
 |false=>exact m pins j σ e Q I1 d
 |true=>exact⟨.bl true,e,I1,rfl,d⟩
end
def SqL(K:Q0)(H:Hp)(a:Addr)(xs:List V):Prop:=
 Rd H a (.lst xs)\/
  ∃(o:Obj)(its:B0)(n:Nat),K.lookup a=some o/\o.cls=.type "list"/\o.dict=none/\o.data=.seq its n/\its.size<=sizeLine/\Vals xs its.toList
def SqT(K:Q0)(H:Hp)(a:Addr)(xs:List V):Prop:=
 Rd H a (.tup xs)\/
  ∃(o:Obj)(its:B0)(n:Nat),K.lookup a=some o/\o.cls=.type "tuple"/\o.data=.seq its n/\its.size<=sizeLine/\Vals xs its.toList
noncomputable def absV:ŗ->Option V
 |.none=>some .non
 |.bool b=>some (.bl b)
 |.int i _=>some (.int i)
 |.str x _=>some (.str x)
 |.bytes b _=>some (.byt b)
 |.float b _=>some (.flt b)
 |.ref a=>some (.ref a)
 |.type n=>some (.ty n)
 |_=>none
theorem RelV.abs(r:RelV x u):absV u=some x:=by
 cases x with
 |non=>cases r;rfl
 |bl _=>cases r;rfl
 |int _=>obtain⟨t,rfl⟩:=r;rfl
 |str _=>obtain⟨t,rfl⟩:=r;rfl
 |byt _=>obtain⟨t,rfl⟩:=r;rfl
 |flt _=>obtain⟨t,rfl⟩:=r;rfl
 |ref _=>cases r;rfl
 |ty _=>cases r;rfl
def RelV.inj(r:RelV x u)(q:RelV y u):x=y:=ã (r.abs.symm.trans q.abs)
theorem Vals.inj: ∀{xs d}{j},Vals xs j->Vals d j->xs=d
 |_,_,_,.nil,.nil=>rfl
 |_,_,_,.cons r t,.cons r' t'=>by rw[r.inj r',Vals.inj t t']
section
def SqL.of{K:Q0}(h:H a=some (.lst xs)):SqL K H a xs:=.inl (.inl h)
def SqT.of{K:Q0}(h:H a=some (.tup xs)):SqT K H a xs:=.inl (.inl h)
theorem Inv.list(I:↑2)(h:SqL X.K H a xs): ∃its:List ŗ,Vals xs its/\PlainL s.heap a its.toArray/\xs.length<=sizeLine:=by
 rcases h with h|⟨o,its,n,hk,hc,hd,hs,hz,r⟩
 .obtain⟨z,its,n,r,e⟩:=h.ok I.hok;exact⟨its,r,⟨_,n,e,rfl,rfl,rfl⟩,z⟩
 .refine⟨_,r,⟨o,n,I.kIn a o hk,hc,hd,by simpa using hs⟩,?_⟩;have e:=r.length;simp only[ä]at e
  lia
theorem Inv.tuple(I:↑2)(h:SqT X.K H a xs): ∃its:List ŗ,Vals xs its/\IsTup s.heap a its.toArray/\xs.length<=sizeLine:=by
 rcases h with h|⟨o,its,n,hk,hc,hs,hz,r⟩
 .obtain⟨z,its,r,p⟩:=h.ok I.hok;exact⟨its,r,p,z⟩
 .refine⟨_,r,⟨o,I.kIn a o hk,hc,n,by simpa using hs⟩,?_⟩;have e:=r.length;simp only[ä]at e
  lia
def Inv.list_inj(I:↑2)(h:SqL X.K H a xs)(h':SqL X.K H a ys):xs=ys:=by
 obtain⟨k,r,⟨o,n,e,_,_,d⟩,_⟩:=I.list h;obtain⟨b,j,⟨p,m,i,_,_,c⟩,_⟩:=I.list h';rw[e]at i;cases i;rw[d]at c;injection c with d1 _
 have:=by simpa using congrArg Array.toList d1
 subst this;exact r.inj j
def Inv.tuple_inj(I:↑2)(h:SqT X.K H a xs)(h':SqT X.K H a ys):xs=ys:=by
 obtain⟨k,r,⟨o,e,_,n,d⟩,_⟩:=I.tuple h;obtain⟨b,j,⟨p,i,_,m,c⟩,_⟩:=I.tuple h';rw[e]at i;cases i;rw[d]at c;injection c with d1 _
 have:=by simpa using congrArg Array.toList d1
 subst this;exact r.inj j
end
abbrev Cx.wish(X:Cx)(E:VP):Cx:={X with xe:=E}
abbrev Cx.nox(X:Cx):Cx:=X.wish λ_ _=>False
def Cx.Ok.wish{X:Cx}(ok:X.Ok)(E):(X.wish E).Ok:=
 ⟨ok.mod,ok.kind,ok.glob,ok.blt,ok.above,ok.inj,ok.has,ok.cab,ok.hd,ok.frames,ok.stk,ok.exf,ok.bs,ok.bsz,ok.noex,ok.exfs,ok.funs,ok.frf⟩
def Cx.Ok.unwish{X:Cx}(ok:(X.wish E).Ok):X.Ok:=
 ⟨ok.mod,ok.kind,ok.glob,ok.blt,ok.above,ok.inj,ok.has,ok.cab,ok.hd,ok.frames,ok.stk,ok.exf,ok.bs,ok.bsz,ok.noex,ok.exfs,ok.funs,ok.frf⟩
section
variable{pins:M0}{σ:St}{H:Hp}{s:Ŗ}
def Inv.wish(I:↑2)(E):Inv (X.wish E) pins σ H s:=⟨I.ok.wish E,I.os,I.bare,I.base,I.loc,I.cell,I.free,I.freeC,I.pin,I.hok,I.len⟩
def Inv.unwish(I:Inv (X.wish E) pins σ H s):Inv X pins σ H s:=⟨I.ok.unwish,I.os,I.bare,I.base,I.loc,I.cell,I.free,I.freeC,I.pin,I.hok,I.len⟩
def SP.unwish(h:SP (X.wish E) pins D f s'):SP X pins D f s':=by
 cases f with
 |next=>obtain⟨a,H',I,q⟩:=h;exact⟨a,H',I.unwish,q⟩
 |brk=>obtain⟨a,H',I,q⟩:=h;exact⟨a,H',I.unwish,q⟩
 |cont=>obtain⟨a,H',I,q⟩:=h;exact⟨a,H',I.unwish,q⟩
 |ret u=>obtain⟨v,a,H',I,r,q⟩:=h;exact⟨v,a,H',I.unwish,r,q⟩
def PSs.nox{st:List Stmt}(h:PSs X.nox st t):PSs X st t:=λpins s σ H D I hw=>
 ú (h pins s σ H D (I.wish _) hw) (λ_ _ q=>q.unwish) λ_ _ z=>False.elim z
end
section
variable{st:Stmt}{rest:List Stmt}
def M7:TS:=λD σ H=>D.nx σ H
def tSeq(t u:TS):TS:=λD σ H=>t {D with nx:=u D} σ H
def YB(a:PS X st t):PSs X [st] t:=by
 intro pins s σ H D I h;refine wpAny_execs_cons (jU (a pins s σ H D I h) λf b q=>?_)
 cases f with
 |next=>exact wpAny_execs_nil q
 |ret v=>exact q
 |brk=>exact q
 |cont=>exact q
def Inv.quiet(I:↑2):interactive X.env=false:=by simp[interactive,I.ok.kind]
def M8(a:TE):TS:=λD σ H=>a σ H λ_ b=>D.nx σ b
def tRet(a:TE):TS:=λD σ H=>a σ H D.rt
def tIfS(c:TT)(t u:TS):TS:=λD σ H=>c σ H λb a=>if b=true then t D σ a else u D σ a
def M9(n:PT X c tc)(m:PSs X a t)(k:PSs X b u):PS X (.If c a b pos) (tIfS tc t u):=by
 intro pins s σ H D I h;refine wpAny_If (jU (n pins s σ H _ I h) λd j ⟨e,I1,i⟩=>?_)
 cases d with
 |true=>exact m pins j σ e D I1 i
 |false=>exact k pins j σ e D I1 i
end
abbrev TG:=V->St->Hp->(St->Hp->Prop)->Prop
abbrev Vh:=List V->St->Hp->(St->Hp->Prop)->Prop
def PG(X:Cx)(a:Expr)(t:TG):Prop:=
 ∀(pins:M0)(s:Ŗ)(σ:St)(H:Hp)(v:V)(u:ŗ)(Q:St->Hp->Prop),Inv X pins σ H s->RelV v u->t v σ H Q->
  wpAny ↑5 X.A (assign a X.env u) (λ_ c=> ∃b H',Inv X pins b H' c/\Q b H') X.xe s
def J9(X:Cx)(ts:P0)(t:Vh):Prop:=
 ∀(pins:M0)(s:Ŗ)(σ:St)(H:Hp)(vs:List V)(b:A0)(Q:St->Hp->Prop),Inv X pins σ H s->Vals vs b->t vs σ H Q->
  wpAny ↑5 X.A (assignInOrder ((assignEach ts X.env).map (·.2)) b) (λ_ c=> ∃a H',Inv X pins a H' c/\Q a H') X.xe s
abbrev TSet:=V->V->V->Hp->(Hp->Prop)->Prop
def N1(X:Cx)(t:TSet):Prop:=
 ∀(pins:M0)(s:Ŗ)(σ:St)(H:Hp)(o i v:V)(b a u:ŗ)(Q:Hp->Prop),Inv X pins σ H s->RelV o b->RelV i a->RelV v u->t o i v H Q->
  wpAny ↑5 X.A (setItem b a u) (λ_ c=> ∃H',Inv X pins σ H' c/\Q H') X.xe s
section
variable{pos:Pos}
def Fk(i:Nat):TG:=λv σ H Q=>Q (σ.set i (some v)) H
def YC(b:X.N.Nodup)(hi:X.N[i]? =some x)(hx:Loc X.env.scope x)(a:z0 X x:=by first |exact .inl rfl|exact .inr rfl|assumption):PG X (.Name x pos) (Fk i):=by intro pins s σ H v u Q I r h;exact wpAny_assign_Name (RF I b hi hx r (λd c=>⟨_,H,c,h⟩) a)
def gNil:Vh:=λa σ H Q=>a=[]/\Q σ H
def N2(t:TG)(u:Vh):Vh:=λb σ H Q=> ∃v r,b=v::r/\t v σ H λa H'=>u r a H' Q
def YD:J9 X [] gNil:=by intro pins s σ H b a Q I r h;obtain⟨e,h⟩:=h;subst e;exact assignInOrder_nil ⟨σ,H,I,h⟩
def RG(d:PG X e t)(b:J9 X es u)
  (hs:(assignEach (e::es) X.env).map (·.2)=assign e X.env::(assignEach es X.env).map (·.2):=by rfl):J9 X (e::es) (N2 t u):=by
 intro pins s σ H n m Q I r h;obtain⟨v,o,i,h⟩:=h;subst i
 cases r with
 |cons r rr=>
  rw[hs];refine assignInOrder_cons (jU (d pins s σ H _ _ _ I r h) λ_ k ⟨a,j,I1,c⟩=>?_);exact b pins k a j _ _ Q I1 rr c
def gTup(K:Q0)(n:Nat)(t:Vh):TG:=λv σ H Q=> ∃a xs,v=.ref a/\SqT K H a xs/\xs.length=n/\t xs σ H Q
def Fm{k:Nat}(q:X.calm=true)(h:J9 X es t)
  (hn:(assignEach es X.env).length=n:=by rfl) (hst:(assignEach es X.env).findIdx? (·.1)=none:=by rfl):PG X (.Tuple es k pos) (gTup X.K n t):=by
 intro pins s σ H v u Q I r hw;obtain⟨a,xs,p,j,w,hw⟩:=hw;subst p;cases r;obtain⟨m,c,i,y⟩:=I.tuple j;refine assign_Tuple_tuple (I.ok.hd q) i (by simp[hn, <-w,c.length]) hst λh' d=>?_;exact h pins _ σ H xs _ Q (I.kept λb o e=>d b o (è (â e)) e) (by simpa using c) hw
def gSub(to a:TE)(t:TSet):TG:=λv σ H Q=>to σ H λo b=>a σ b λi c=>t o i v c λd=>Q σ d
def Vi(z:PE X o to)(hi:PE X i ti)(hs:N1 X t)
  (ha: ∀v,assign (.Subscript o i pos) X.env v=(do
   let d <-holding [v] (eval o X.env);let j <-holding [v,d] (eval i X.env)
   standAt pos
   holding [v,d,j] (setItem d j v)
   release [v,d,j] []):=by intro _;rfl):PG X (.Subscript o i pos) (gSub to ti t):=by
 intro pins s σ H v u Q I r h;refine wB (Ă (jU (z pins s σ H _ I h) λd q ⟨x,n,I1,c,b⟩=>?_));refine wB (Ă (jU (hi pins q σ n _ I1 b) λj k ⟨y,A,e,w,a⟩=>?_));refine wB (wpAny_standAt (wB (Ă (jU (hs pins k σ A x y v d j u _ e c w r a) λ_ C ⟨B,m,p⟩=>?_))));exact wpAny_release ⟨σ,B,m,p⟩
def Vj(a:TE)(g:TG):TS:=λD σ H=>a σ H λx b=>g x σ b D.nx
def Vk(j:PE X e te)(c:PG X tg g)(hs:swapsWithSole [tg] e pos.line X.env=pure false:=by rfl)(hw:swappedStores [tg] e X.env=pure none:=by rfl)
  (h1:(assignEach [tg] X.env).map (·.2)=[assign tg X.env]:=by rfl):PS X (.Assign [tg] e pos) (Vj te g):=by
 intro pins s σ H D I h;refine wpAny_Assign_stores (jU (j pins s σ H _ I h) λv i ⟨x,d,I1,b,a⟩=>?_) hs hw;rw[h1];exact jU (c pins i σ d x v _ I1 b a) λ_ k q=>q
def Vm(j:X.N.Nodup)(hi:X.N[i]? =some x)(hx:Loc X.env.scope x)(m:PE X e te)(hs:swapsWith e (some (.Name x pos')) pos.line X.env=pure false:=by rfl)(a:z0 X x:=by first |exact .inl rfl|exact .inr rfl|assumption):
  PS X (.Assign [.Name x pos'] e pos) (Vj te (Fk i)):=by
 intro pins s σ H D I h;refine wpAny_Assign_Name (jU (m pins s σ H _ I h) λv o ⟨y,k,I1,c,b⟩=>?_) hs;exact RF I1 j hi hx c (λn d=>⟨_,k,d,b⟩) a
end
section
def Vn(c:TT)(h:TS):TS:=λD σ H=> ∃W:Nat->St->Hp->Prop,(∃m,W m σ H)/\ ∀m σ H,W m σ H->
 c σ H λb e=>if b=true then∃N:St->Hp->Prop,(∀a H',N a H'-> ∃d,d<m/\W d a H')/\h {D with nx:=N,ct:=N,bk:=D.nx} σ e else D.nx σ e
def Fn(z:PassesOwn ↑5 X.A X.env X.xe)(G:PT X c tc)(P:PSs X body tb):PS X (.While c body [] pos) (Vn tc tb):=by
 intro pins s σ H D I h;obtain⟨W,⟨L,F⟩,j⟩:=h;refine wpAny_While (codeAny_whileLoop (λn J=> ∃i H',Inv X pins i H' J/\W n i H') ?_ L ⟨σ,H,I,F⟩);rintro n O ⟨d,B,I1,K⟩;refine ķ z (jU (G pins O d B _ I1 (j n d B K)) λb M ⟨C,E,k⟩=>?_)
 cases b with
 |true=>
  obtain⟨N,y,k⟩:=k;refine ķ z (jU (P pins M d C _ E k) λf Q m=>?_)
  cases f with
  |next=>
   obtain⟨a,e,r,o⟩:=m;obtain⟨p,u,q⟩:=y a e o;exact⟨p,u,a,e,r,q⟩
  |cont=>
   obtain⟨a,e,r,o⟩:=m;obtain⟨p,u,q⟩:=y a e o;exact⟨p,u,a,e,r,q⟩
  |brk=>exact m
  |ret v=>exact m
 |false=>
  exact wpAny_execs_nil ⟨d,C,E,k⟩
end
structure It where
 go:Nat->Hp->Prop
 yld:Nat->Hp->V->Hp->Prop
 stop:Nat->Hp->Prop
def uW(X:Cx)(pins:M0)(H:Hp)(b:Addr):Prop:=
 H b=none/\b≠X.env.locals/\b∉X.fs/\(b∈X.ex\/X.s₀.heap.objs.size<=b)/\(∀x c,X.env.cells.lookup x=some c->c≠b)/\ ∀p∈X.pn++pins,p.1≠b
def Inv.fpOk{b:Addr}(I:↑2)(a:↑1<=b)(d:H' b=none):uW X pins H' b:=by
 refine⟨d,ĕ (ë I.lt a),I.nofs a,.inr (ï I.sz a),λx c e z=>?_,λp h z=>?_⟩
 .obtain⟨v,q⟩:=I.cell x c e;exact absurd (ë q.lt (by rw[z];exact a)) (ğ _)
 .exact absurd (ë (â (I.pin p h).1) (by rw[z];exact a)) (ğ _)
abbrev Vo(X:Cx):Prop:=X.calm=true
structure TurnC(C:Cx->Prop)(P:Ř)(w:World)(K:Q0)(tg:Expr)(J:It)(fp:B9)(it:Addr)(tn:Nat->Heap->Prop):Prop where
 mem:it∈fp
 obj: ∀i h,tn i h-> ∀b∈fp, ∃o,h.get? b=some o/\ ∀v,o.data≠.cell v
 keep: ∀i h h',tn i h->(∀b∈fp, ∀o,h.get? b=some o->h'.get? b=some o)->tn i h'
 item: ∀(X:Cx),X.prog=P->X.w=w->X.K=K->C X-> ∀(i:Nat)(pins:M0)(s:Ŗ)(σ:St)(H:Hp)(E:VP),Inv X pins σ H s->(∀b∈fp,uW X pins H b)->tn i s.heap->J.go i H->
  wpAny (model P w) X.A (pyNext (.ref it)) (λr s1=> ∃u,r=some u/\
   wpAny (model P w) X.A (letOwnedTupleGo tg (.ref it) u) (λ_ s2=> ∃x H',Inv X pins σ H' s2/\RelV x u/\J.yld i H x H'/\tn (i+1) s2.heap/\ ∀b∈fp,H' b=none) E s1) E s
 done: ∀(X:Cx),X.prog=P->X.w=w->X.K=K->C X-> ∀(i:Nat)(pins:M0)(s:Ŗ)(σ:St)(H:Hp)(E:VP),Inv X pins σ H s->(∀b∈fp,uW X pins H b)->tn i s.heap->J.stop i H->
  wpAny (model P w) X.A (pyNext (.ref it)) (λr s1=>r=none/\Inv X pins σ H s1) E s
 self: ∀(A:Around)(i:Nat)(s:Ŗ)(Q:VP)(E:VP),tn i s.heap->Q (.ref it) s->wpAny (model P w) A (pyIter (.ref it)) Q E s
abbrev Turn:=TurnC Vo
abbrev TI:=St->Hp->(It->Hp->Prop)->Prop
def N3(C:Cx->Prop)(X:Cx)(pins:M0)(σ:St)(tg:Expr)(R:It->Hp->Prop)(a:ŗ)(e:Ŗ):Prop:=
 ∃(d:Addr)(fp:B9)(c:Nat->Heap->Prop)(J:It)(H':Hp),a=.ref d/\Inv X pins σ H' e/\TurnC C X.prog X.w X.K tg J fp d c/\c 0 e.heap/\(∀b∈fp,uW X pins H' b)/\R J H'
abbrev PIE:=N3 Vo
def N4(C:Cx->Prop)(X:Cx)(tg iter:Expr)(a:TI):Prop:=
 ∀(pins:M0)(s:Ŗ)(σ:St)(H:Hp)(R:It->Hp->Prop),Inv X pins σ H s->a σ H R->
  wpAny ↑5 X.A (eval iter X.env) (λv b=>wpAny ↑5 X.A (pyIter v) (N3 C X pins σ tg R) X.xe b) X.xe s
abbrev PI:=N4 Vo
def Fo(a:s.heap.get? it=some o)(c:o.cls=.type n)(b:o.data=.fields vs)
  (hn:["enumerate","zip","dict_itemiterator","dict_reverseitemiterator","odict_iterator","itertools.zip_longest","itertools.pairwise"].contains n=false) (hQ:Q () s):wpAny M A (letOwnedTupleGo tg (.ref it) u) Q E s:=by
 cases tg<;>first
  |exact wP hQ
  |(cases u<;>first
    |exact wP hQ
    |(refine wB (wpAny_load a ?_)
      rw[c,b];show wpAny M A (if _=true then _ else _) Q E s;rw[iN (by intro h;rw[hn]at h;cases h)];exact wP hQ))
noncomputable def Itl(K:Q0)(a:Addr):It:=
 ⟨λi H=> ∃xs x,SqL K H a xs/\xs[i]? =some x,λi H x H'=>H'=H/\ ∀xs,SqL K H a xs->xs[i]? =some x,λi H=> ∃xs,SqL K H a xs/\xs.length<=i⟩
noncomputable def Itt(K:Q0)(a:Addr):It:=
 ⟨λi H=> ∃xs x,SqT K H a xs/\xs[i]? =some x,λi H x H'=>H'=H/\ ∀xs,SqT K H a xs->xs[i]? =some x,λi H=> ∃xs,SqT K H a xs/\xs.length<=i⟩
noncomputable def Z5(lo:Int)(n:Nat):It:=⟨λi _=>i<n,λi H x H'=>H'=H/\x=.int (lo+i),λi _=>n<=i⟩
theorem Br{K:Q0}(a it):Turn P w K tg (Itl K a) [it] it (λi h=>h.IsListIter it a i) where
 mem:=by simp
 obj:=λi h st b hb=>by
  have e:=by simpa using hb
  subst e;obtain⟨o,e,c,d⟩:=st;exact⟨o,e,λv z=>by rw[d]at z;cases z⟩
 keep:=λi h h' st k=>st.at λo e=>k it (by simp) o e
 item:=by intro X hP hw hK hc i pins s σ H E I hf st hg;subst hP hw hK;obtain⟨xs,x,hq,hx⟩:=hg;obtain⟨its,rv,p,hz⟩:=I.list hq;obtain⟨u,hu,ru⟩:=rv.get hx;obtain⟨f0,f1,f2,f3,f4,f5⟩:=hf it (by simp);refine wpAny_pyNext_list_item st p.isList (by simpa using hu) λh' st' sb=>?_;obtain⟨o,e,c,d⟩:=id st';exact⟨u,rfl,Fo e c d ↑4 ⟨x,H,(I.turned (λb o hb e=>(sb.2 b hb).trans e) f0 f1 f3 f4 f5),ru,⟨rfl,λys hy=>by rw[I.list_inj hy hq];exact hx⟩,st',λb hb=>(hf b hb).1⟩⟩
 done:=by intro X hP hw hK hc i pins s σ H E I hf st hg;subst hP hw hK;obtain⟨xs,hq,hx⟩:=hg;obtain⟨its,rv,p,hz⟩:=I.list hq;obtain⟨f0,f1,f2,f3,f4,f5⟩:=hf it (by simp);have hl:=rv.length;exact wpAny_pyNext_list_end (I.ok.hd hc) st p.isList (by simp;lia) λh' eb=>⟨rfl,I.turned (λb o hb e=>eb b o hb e) f0 f1 f3 f4 f5⟩
 self:=λ_ _ _ _ _ st h=>wpAny_pyIter_listiter st h
theorem VD{K:Q0}(a it):Turn P w K tg (Itt K a) [it] it (λi h=>h.IsTupleIter it a i) where
 mem:=by simp
 obj:=λi h st b hb=>by
  have e:=by simpa using hb
  subst e;obtain⟨o,e,c,d⟩:=st;exact⟨o,e,λv z=>by rw[d]at z;cases z⟩
 keep:=λi h h' st k=>st.at λo e=>k it (by simp) o e
 item:=by intro X hP hw hK hc i pins s σ H E I hf st hg;subst hP hw hK;obtain⟨xs,x,hq,hx⟩:=hg;obtain⟨its,rv,p,hz⟩:=I.tuple hq;obtain⟨u,hu,ru⟩:=rv.get hx;obtain⟨f0,f1,f2,f3,f4,f5⟩:=hf it (by simp);refine wpAny_pyNext_tuple_item st p (by simpa using hu) λh' st' sb=>?_;obtain⟨o,e,c,d⟩:=id st';exact⟨u,rfl,Fo e c d ↑4 ⟨x,H,(I.turned (λb o hb e=>(sb.2 b hb).trans e) f0 f1 f3 f4 f5),ru,⟨rfl,λys hy=>by rw[I.tuple_inj hy hq];exact hx⟩,st',λb hb=>(hf b hb).1⟩⟩
 done:=by intro X hP hw hK hc i pins s σ H E I hf st hg;subst hP hw hK;obtain⟨xs,hq,hx⟩:=hg;obtain⟨its,rv,p,hz⟩:=I.tuple hq;obtain⟨f0,f1,f2,f3,f4,f5⟩:=hf it (by simp);have hl:=rv.length;exact wpAny_pyNext_tuple_end (I.ok.hd hc) st p (by simp;lia) λh' eb=>⟨rfl,I.turned (λb o hb e=>eb b o hb e) f0 f1 f3 f4 f5⟩
 self:=λ_ _ _ _ _ st h=>wpAny_pyIter_tupleiter st h
theorem VE{K:Q0}(it)(lo)(n):Turn P w K tg (Z5 lo n) [it] it (λi h=>IsRangeIter h it (lo+ i  * 1) ( n  -  i ) 1) where
 mem:=by simp
 obj:=λi h st b hb=>by
  have e:=by simpa using hb
  subst e;exact⟨_,st,λv z=>by cases z⟩
 keep:=λi h h' st k=>k it (by simp) _ st
 item:=by intro X hP hw hK hc i pins s σ H E I hf st hg;subst hP hw hK;obtain⟨f0,f1,f2,f3,f4,f5⟩:=hf it (by simp);refine(Walks.range (prog:=X.prog) (w:=X.w) (I.ok.hd hc) it lo 1 n).item i s _ _ hg st λv h' tk hv st' kk=>?_;obtain⟨t,rfl⟩:=hv;refine⟨_,rfl,Fo st' rfl rfl ↑4 ⟨.int _,H,(I.turned (λb o hb e=>kk b o (by simpa using hb) e) f0 f1 f3 f4 f5),⟨t,?_⟩,⟨rfl,rfl⟩,st',λb hb=>(hf b hb).1⟩⟩;rw[Int.mul_one]
 done:=by intro X hP hw hK hc i pins s σ H E I hf st hg;obtain⟨f0,f1,f2,f3,f4,f5⟩:=hf it (by simp);exact wpAny_pyNext_range_end (I.ok.hd hc) st (by have:n<=i:=hg;lia) λh' eb=>⟨rfl,I.turned (λb o hb e=>eb b o hb e) f0 f1 f3 f4 f5⟩
 self:=λ_ _ _ _ _ st h=>wpAny_pyIter_rangeiter st h
section
def N5(K:Q0)(c:TE):TI:=λσ H R=>c σ H λx b=> ∃a,x=.ref a/\(∃xs,SqL K b a xs)/\R (Itl K a) b
def iTup(K:Q0)(c:TE):TI:=λσ H R=>c σ H λx b=> ∃a,x=.ref a/\(∃xs,SqT K b a xs)/\R (Itt K a) b
def Lu(c:PE X l tl):PI X tg l (N5 X.K tl):=by
 intro pins s σ H R I h;refine jU (c pins s σ H _ I h) λv u ⟨x,m,I1,i,d⟩=>?_;obtain⟨a,e,⟨xs,j⟩,q⟩:=d;subst e;cases i;obtain⟨k,w,p,r⟩:=I1.list j;refine ľ p.isList ?_;refine⟨_,_,_,_,m,rfl,I1.kept λb o e=>hP0 _ e,Br a _,⟨_,å _ rfl,rfl,rfl⟩,λb n=>?_,q⟩;have e:=by simpa using n
 subst e;exact I1.fpOk (à _) (I1.hok.fresh (à _))
def Vq(c:PE X l tl):PI X tg l (iTup X.K tl):=by
 intro pins s σ H R I h;refine jU (c pins s σ H _ I h) λv u ⟨x,m,I1,i,d⟩=>?_;obtain⟨a,e,⟨xs,j⟩,q⟩:=d;subst e;cases i;obtain⟨k,w,p,r⟩:=I1.tuple j;refine wpAny_pyIter_tuple p ?_;refine⟨_,_,_,_,m,rfl,I1.kept λb o e=>hP0 _ e,VD a _,⟨_,å _ rfl,rfl,rfl⟩,λb n=>?_,q⟩;have e:=by simpa using n
 subst e;exact I1.fpOk (à _) (I1.hok.fresh (à _))
theorem Fp{lo:Int}(I:↑2)(j: -(2 ^ 62)<=lo)(a:lo<2 ^ 62)(d: -(2 ^ 62)<=hi)(h:hi<2 ^ 62)
  (q:R (Z5 lo (hi - lo).toNat) H):wpAny ↑5 X.A (pyIter (.ref ↑1)) (PIE X pins σ tg R) E {s with heap:=s.heap.push {cls:=.type "range",data:=.fields #[.int lo t,.int hi u,.int 1 v]},toks:=tk}:=by
 refine wpAny_pyIter_range (IsRange.new ..) (small_one j a d h) ?_;have I1:Inv X pins σ H {s with heap:=s.heap.push {cls:=.type "range",data:=.fields #[.int lo t,.int hi u,.int 1 v]},toks:=tk}:=I.kept λb o e=>hP0 _ e
 refine⟨_,_,_,_,H,rfl,
  I1.kept λb o e=>hP0 _ e,VE _ lo (hi - lo).toNat,?_,λb i=>?_,q⟩
 .have c:lo+((0:Nat):Int) * 1=lo:=by simp
  have k:(((hi - lo).toNat:Nat):Int) - ((0:Nat):Int)=Builtin.Range.rangeSize lo hi 1:=by rw[rangeSize_one];split<;>lia
  show IsRangeIter _ _ _ _ 1;rw[c,k];exact å _ rfl
 .have e:b=(s.heap.push {cls:=.type "range",data:=.fields #[.int lo t,.int hi u,.int 1 v]}).objs.size:=by simpa using i
  subst e;exact I1.fpOk (à _) (I1.hok.fresh (à _))
def N8(a:TA):TI:=λσ H R=>a σ H λb c=> ∃j:Int,b=[.int j]/\ -(2 ^ 62)<=j/\j<2 ^ 62/\R (Z5 0 j.toNat) c
theorem Bs(i:Gl X "range")(m:X.mg "range"=none)(k:PA X [a] ta)(hs:starEach [a] X.env=[(false,eval a X.env)]:=by rfl):PI X tg (.Call (.Name "range" p) [a] [] pos) (N8 ta):=by
 intro pins s σ H R I h;refine Call_ (CG I i m boot_range (ĳ (jU (k pos pins s σ H _ I h) λn v ⟨o,u,I1,d,b⟩=>?_) hs rfl));obtain⟨j,e,b,c,q⟩:=b;subst e
 cases d with
 |cons r rr=>
  cases rr;obtain⟨t,rfl⟩:=r;exact call_range_1 (Fp I1 #[0] #[0] b c (by simpa using q))
def tFor(d:TI)(g:TG)(j:TS):TS:=λD σ H=>d σ H λJ e=> ∃W:Nat->Nat->St->Hp->Prop,(∃m,W 0 m σ e)/\ ∀i m σ H,W i m σ H->
 (J.stop i H/\D.nx σ H)\/(J.go i H/\ ∃N:St->Hp->Prop,(∀a H',N a H'-> ∃c,c<m/\W (i+1) c a H')/\ ∀x H',J.yld i H x H'->g x σ H' λb h=>j {D with nx:=N,ct:=N,bk:=D.nx} b h)
noncomputable def GP(fp:B9)(h:Heap):List (Addr×Obj):=fp.filterMap λb=>(h.get? b).map λo=>(b,o)
def uX(a:b∈fp)(e:h.get? b=some o):(b,o)∈GP fp h:=mem_filterMap.mpr ⟨b,a,by rw[e];rfl⟩
def Bt(d:p∈GP fp h):p.1∈fp/\h.get? p.1=some p.2:=by
 obtain⟨b,c,e⟩:=mem_filterMap.mp d
 cases q:h.get? b with
 |none=>rw[q]at e;cases e
 |some o=>
  rw[q]at e;have a:_=p:=ã e;subst a;exact⟨c,q⟩
def Inv.pinned(I:↑2)(i: ∀b∈fp,uW X pins H b)(n: ∀b∈fp, ∃o,s.heap.get? b=some o/\ ∀v,o.data≠.cell v):Inv X (pins++GP fp s.heap) σ H s:=
 I.pins_of λp m=>(é.mp m).elim (λz=>I.pin p (ñ _ z)) λz=>by obtain⟨a,e⟩:=Bt z;obtain⟨k,j,h,_⟩:=i p.1 a;obtain⟨o,c,d⟩:=n p.1 a;rw[e]at c;cases c;exact⟨e,k,j,h,d⟩
def Inv.unpinned(I:Inv X (pins++pl) σ H s):Inv X pins σ H s:=I.pins_of λp a=>I.pin p (ñ _ (Ĝ _ a))
def Vr(K:PassesOwn ↑5 X.A X.env X.xe)(Y:X.calm=true)(hi:PI X tg iter wi)(hg:PG X tg g)(j:PSs X body tb)
  (hs: ∀x,foldedSetIterable iter X.env x=pure x:=by intro _;rfl):PS X (.For tg iter body [] pos) (tFor wi g tb):=by
 intro pins s σ H D I h;refine wpAny_For (jU (hi pins s σ H _ I h) λv s1 h1=>jU h1 λaa s2 h2=>?_) hs;obtain⟨it,fp,tn,J,H2,e,I2,T,Q,Z,W,⟨m0,w0⟩,F⟩:=h2;subst e;have c: ∀{H':Hp},(∀b∈fp,H' b=none)-> ∀b∈fp,uW X pins H' b:=λhn b j=>⟨hn b j,(Z b j).2⟩
 refine codeAny_forLoop_any (λn s'=> ∃i q H',Inv X pins q H' s'/\tn i s'.heap/\(∀b∈fp,H' b=none)/\W i n q H') ?_ m0 ⟨0,σ,H2,I2,Q,λb j=>(Z b j).1,w0⟩;rintro n U ⟨i,p,L,I3,G,E,w3⟩;rcases F i n p L w3 with⟨stop,qn⟩|⟨go,N,hN,step⟩
 .refine ķ K (jU (T.done X rfl rfl rfl Y i pins U p L X.xe I3 (c E) G stop) λr s4 ⟨P,I4⟩=>?_);subst P;exact wpAny_execs_nil ⟨p,L,I4,qn⟩
 .refine ķ K (jU (T.item X rfl rfl rfl Y i pins U p L X.xe I3 (c E) G go) λr s4 ⟨u,P,h4⟩=>?_);subst P;refine ķ K (jU h4 λ_ s5 ⟨x,H5,I5,r5,y5,B,S⟩=>?_);refine ķ K (jU (hg _ s5 p H5 x u _ (I5.pinned (c S) (T.obj _ _ B)) r5 (step x H5 y5)) λ_ s6 ⟨M,H6,I6,q6⟩=>?_);refine ķ K (jU (j _ s6 M H6 _ I6 q6) λf O z=>?_);have y: ∀{a:St}{H7:Hp},Inv X _ a H7 O->N a H7-> ∃m,m<n/\ ∃i q H',Inv X pins q H' O/\tn i O.heap/\(∀b∈fp,H' b=none)/\W i m q H':=λ{a H7} k C=>by obtain⟨m',hm,w7⟩:=hN a H7 C;refine⟨m',hm,_,a,H7,k.unpinned,T.keep _ _ _ B λb j o e=>(k.pin _ (ñ _ (ñ _ (uX j e)))).1,λb j=>?_,w7⟩;obtain⟨o,e,d⟩:=T.obj _ _ B b j;exact(k.pin _ (ñ _ (ñ _ (uX j e)))).2.1
  cases f with
  |next=>obtain⟨a,H7,k,C⟩:=z;exact y k C
  |cont=>obtain⟨a,H7,k,C⟩:=z;exact y k C
  |brk=>obtain⟨a,H7,k,z⟩:=z;exact⟨a,H7,k.unpinned,z⟩
  |ret v=>obtain⟨x7,a,H7,k,r7,z⟩:=z;exact⟨x7,a,H7,k.unpinned,r7,z⟩
end
abbrev R2:=V->V->Hp->VK->Prop
def OpR(X:Cx)(f:ŗ->ŗ->Sem ŗ)(r:R2):Prop:=
 ∀(pins:M0)(s:Ŗ)(σ:St)(H:Hp)(x y:V)(v u:ŗ)(Q:VK),Inv X pins σ H s->RelV x v->RelV y u->r x y H Q->
  wpAny ↑5 X.A (f v u) (EP X pins σ Q) X.xe s
def UnR(X:Cx)(f:ŗ->Sem ŗ)(r:V->Hp->VK->Prop):Prop:=
 ∀(pins:M0)(s:Ŗ)(σ:St)(H:Hp)(x:V)(v:ŗ)(Q:VK),Inv X pins σ H s->RelV x v->r x H Q->
  wpAny ↑5 X.A (f v) (EP X pins σ Q) X.xe s
def CallR(X:Cx)(f:ŗ)(r:List V->Hp->VK->Prop):Prop:=
 ∀(pins:M0)(s:Ŗ)(σ:St)(H:Hp)(xs:List V)(a:A0)(Q:VK),Inv X pins σ H s->Vals xs a->r xs H Q->
  wpAny ↑5 X.A (call f a) (EP X pins σ Q) X.xe s
def TruR(X:Cx)(r:V->Hp->(Bool->Hp->Prop)->Prop):Prop:=
 ∀(pins:M0)(s:Ŗ)(σ:St)(H:Hp)(x:V)(v:ŗ)(Q:Bool->Hp->Prop),Inv X pins σ H s->RelV x v->r x H Q->
  wpAny ↑5 X.A (truthy v) (TP X pins σ Q) X.xe s
noncomputable def Z6(r:R2)(c b:TE):TE:=λσ H Q=>c σ H λx a=>b σ a λy d=>r x y d Q
def tUn(r:V->Hp->VK->Prop)(a:TE):TE:=λσ H Q=>a σ H λx b=>r x b Q
def rI(C:Int->Int->Prop)(g:Int->Int->V):R2:=λx y H Q=> ∃i j,x=.int i/\y=.int j/\C i j/\Q (g i j) H
def Vs(g:Int->Int->V):R2:=λx y H Q=> ∃i j,x=.int i/\y=.int j/\Q (g i j) H
def rU(g:Int->V):V->Hp->VK->Prop:=λx H Q=> ∃i,x=.int i/\Q (g i) H
section
def Vt(n:PE X a ta)(r:PE X b tb){R:V->V->Hp->Prop}(I:↑2)
  (h:ta σ H λx z=>tb σ z λy d=>R x y d)  {f:ŗ->ŗ->Sem ŗ}
  (hf: ∀v u q x y d,Inv X pins σ d q->RelV x v->RelV y u->R x y d->wpAny ↑5 X.A (f v u) Q X.xe q):
  wpAny ↑5 X.A (eval a X.env) (λv m=>wpAny ↑5 X.A (eval b X.env) (λu j=>wpAny ↑5 X.A (f v u) Q X.xe j) X.xe m) X.xe s:=by
 refine jU (n pins s σ H _ I h) λv o ⟨x,z,I1,i,e⟩=>?_;refine jU (r pins o σ z _ I1 e) λu q ⟨y,d,k,p,c⟩=>?_;exact hf v u q x y d k i p c
def O2(j:UnR X (unaryOp op) r)(i:PE X a ta):PE X (.UnaryOp op a pos) (tUn r ta):=by intro pins s σ H Q I h;exact UnaryOp_ (jU (i pins s σ H _ I h) λv d ⟨x,b,I1,c,e⟩=>j pins d σ b x v Q I1 c e)
def Z7{g:Int->Int->Int}
  (rule: ∀ i j  t u  s  Q  E ,C i j->Q (.int (g i j) s.toks) {s with toks:=s.toks+1}->wpAny ↑5 X.A (f (.int i t) (.int j u)) Q E s):
  OpR X f (rI C λi j=>.int (g i j)):=by
 intro pins s σ H x y v u Q I b a h;obtain⟨i,j,rfl,rfl,d,q⟩:=h;obtain⟨t,rfl⟩:=b;obtain⟨c,rfl⟩:=a;exact rule i j t c s _ _ d ⟨.int _,H,I.tok _,⟨_,rfl⟩,q⟩
def O3{g:Int->Int->Int}
  (rule: ∀ i j  t u  s  Q  E ,Q (.int (g i j) s.toks) {s with toks:=s.toks+1}->wpAny ↑5 X.A (f (.int i t) (.int j u)) Q E s):
  OpR X f (Vs λi j=>.int (g i j)):=by
 intro pins s σ H x y v u Q I b a h;obtain⟨i,j,rfl,rfl,q⟩:=h;obtain⟨t,rfl⟩:=b;obtain⟨c,rfl⟩:=a;exact rule i j t c s _ _ ⟨.int _,H,I.tok _,⟨_,rfl⟩,q⟩
def opB0{g:Int->Int->Bool}
  (rule: ∀ i j  t u  s  Q  E ,Q (.bool (g i j)) s->wpAny ↑5 X.A (f (.int i t) (.int j u)) Q E s):
  OpR X f (Vs λi j=>.bl (g i j)):=by
 intro pins s σ H x y v u Q I b a h;obtain⟨i,j,rfl,rfl,q⟩:=h;obtain⟨t,rfl⟩:=b;obtain⟨c,rfl⟩:=a;exact rule i j t c s _ _ ⟨.bl _,H,I,rfl,q⟩
def CMul(i j:Int):Prop:=(-(2 ^ 64)<i/\i<2 ^ 64)\/(-(2 ^ 64)<j/\j<2 ^ 64)
def CMul.ok(h:CMul i j):IntMulOk i j:=by
 rcases h with⟨h1,h2⟩|⟨h1,h2⟩
 .exact .of_left (intBits_le_64 h1 h2)
 .exact .of_right (intBits_le_64 h1 h2)
def Vu:OpR X (binaryOp .Add) (Vs λi j=>.int (i+j)):=O3 λ_ _ _ _ _ _ _ q=>add_int q
def unI{g:Int->Int}
  (rule: ∀ i  t  s  Q  E ,Q (.int (g i) s.toks) {s with toks:=s.toks+1}->wpAny ↑5 X.A (f (.int i t)) Q E s):
  UnR X f (rU λi=>.int (g i)):=by
 intro pins s σ H x v Q I a h;obtain⟨i,rfl,q⟩:=h;obtain⟨t,rfl⟩:=a;exact rule i t s _ _ ⟨.int (g i),H,I.tok _,⟨_,rfl⟩,q⟩
end
section
variable{b:Expr}
def Fq(I:↑2)(q:Q (.bl k) H)(e:k=k'):EP X pins σ Q (.bool k') s:=by subst e;exact⟨.bl k,H,I,rfl,q⟩
def Bu:OpR X (compareOp .In) (λx y H Q=> ∃i j,x=.str i/\y=.str j/\Q (.bl (!(Builtin.Str.occurrences j i 0 j.length 1).isEmpty)) H):=by intro pins s σ H x y v u Q I b a h;obtain⟨i,j,rfl,rfl,q⟩:=h;obtain⟨t,rfl⟩:=b;obtain⟨c,rfl⟩:=a;exact in_str (Fq I q rfl)
def NN:OpR X (compareOp .NotIn) (λx y H Q=> ∃i j,x=.str i/\y=.str j/\Q (.bl (!(!(Builtin.Str.occurrences j i 0 j.length 1).isEmpty))) H):=by intro pins s σ H x y v u Q I b a h;obtain⟨i,j,rfl,rfl,q⟩:=h;obtain⟨t,rfl⟩:=b;obtain⟨c,rfl⟩:=a;exact notIn_str (Fq I q rfl)
def OpR.or(h:OpR X f r)(h':OpR X f r'):OpR X f (λx y H Q=>r x y H Q\/r' x y H Q):=by
 intro pins s σ H x y v u Q I b a q;rcases q with q|q
 .exact h pins s σ H x y v u Q I b a q
 .exact h' pins s σ H x y v u Q I b a q
def Fs(b)(h:op≠.In:=by decide)(a:op≠.NotIn:=by decide):behindInMarks op b=false:=by
 have c:(op==CmpOp.In)=false:=by cases op<;>first |rfl|exact absurd rfl h
 have d:(op==CmpOp.NotIn)=false:=by cases op<;>first |rfl|exact absurd rfl a
 cases b<;>simp[behindInMarks,c,d]
def O5(t:TE):TT:=λσ H Q=>t σ H λx H'=> ∃k,x=.bl k/\Q k H'
def Vz(K:Q0)(x:V)(H:Hp)(k:Bool):Prop:=
 match x with
 |.non=>k=false
 |.bl b=>k=b
 |.int i=>k=(i !=0)
 |.str y=>y.length<=sizeLine/\k=((y.length:Int) !=0)
 |.byt y=>y.size<=sizeLine/\k=((y.size:Int) !=0)
 |.ref p=>(∃xs,SqL K H p xs/\k= !xs.isEmpty)\/(∃xs,SqT K H p xs/\k= !xs.isEmpty)\/ ∃a,H p=some (.dK a)/\k= !a.isEmpty
 |_=>False
def GQ(r:Vals xs its):(!its.toArray.isEmpty)= !xs.isEmpty:=by cases r<;>simp
def CI: sizeLine <2 ^ 63:=by rw[Ď];decide
theorem Wa:TruR X (λx H Q=> ∃k,Vz X.K x H k/\Q k H):=by
 intro pins s σ H x v Q I d h;obtain⟨k,e,q⟩:=h;have hs:=Ď
 cases x with
 |non=>
  cases d;have a:=e;subst a;exact truthy_none ⟨H,I,q⟩
 |bl b=>
  cases d;have a:=e;subst a;exact ě ⟨H,I,q⟩
 |int i=>
  obtain⟨t,rfl⟩:=d;have a:=e;subst a;exact PySem.P.truthy_int ⟨H,I,q⟩
 |str y=>
  obtain⟨t,rfl⟩:=d;obtain⟨z,a⟩:y.length<=sizeLine/\k=_:=e;subst a;exact PySem.P.truthy_str #[0] ⟨H,I.tok _,q⟩
 |byt y=>
  obtain⟨t,rfl⟩:=d;obtain⟨z,a⟩:y.size<=sizeLine/\k=_:=e;subst a;exact PySem.W.truthy_bytes #[0] ⟨H,I.tok _,q⟩
 |ref p=>
  cases d;have a:=e;rcases a with⟨xs,hx,a⟩|⟨xs,hx,a⟩|⟨kvs,hx,a⟩
  .subst a;obtain⟨n,r,o,u⟩:=I.list hx;have c:=r.length;exact wpAny_truthy_list o.isList (by simp only[sA0];lia) ⟨H,I.tok _,by rw[GQ r];exact q⟩
  .subst a;obtain⟨n,r,o,u⟩:=I.tuple hx;have c:=r.length;exact truthy_tuple o (by simp only[sA0];lia) ⟨H,I.tok _,by rw[GQ r];exact q⟩
  .subst a;obtain⟨u,w,j,r,m⟩:kvs.length<=sizeLine/\_=false/\ ∃j,KV kvs j/\s.heap.DictOf _ p j:=I.hok p _ hx;have c:=Paired.length r;exact wpAny_truthy_dict w m #[0] ⟨H,I.tok _,by rw[(show (!j.isEmpty)= !kvs.isEmpty by cases r<;>rfl)];exact q⟩
 |_=>exact e.elim
def VG:OpR X (binaryOp .Add) (λx y H Q=> ∃i j,x=.str i/\y=.str j/\i.length+j.length<=sizeLine/\Q (.str (i++j)) H):=by intro pins s σ H x y v u Q I c b h;obtain⟨i,j,rfl,rfl,a,q⟩:=h;obtain⟨t,rfl⟩:=c;obtain⟨d,rfl⟩:=b;exact add_str (λd e=>⟨.str _,H,I.tok _,⟨_,rfl⟩,q⟩) a
def vals1(r:Vals [x] us): ∃u,us=[u]/\RelV x u:=by
 cases r with
 |cons r1 r2=>cases r2;exact⟨_,rfl,r1⟩
def vals2(r:Vals [x,y] us): ∃u d,us=[u,d]/\RelV x u/\RelV y d:=by
 cases r with
 |cons r1 r2=>
  cases r2 with
  |cons r3 r4=>cases r4;exact⟨_,_,rfl,r1,r3⟩
def Bv(b:X.calm=true):CallR X (.builtin "min") (λxs H Q=> ∃i j,xs=[.int i,.int j]/\Q (.int (if j<i then j else i)) H):=by
 intro pins s σ H xs c Q I r h;obtain⟨i,j,rfl,q⟩:=h;obtain⟨u,e,rfl,⟨t,rfl⟩,⟨m,rfl⟩⟩:=vals2 r;refine min_two_ints (I.ok.hd b) λh' d k=>⟨_,H,I.kept k,?_,q⟩
 by_cases a:j<i
 .rw[iP a,iP a];exact⟨_,rfl⟩
 .rw[iN a,iN a];exact⟨_,rfl⟩
end
structure ObjM(h:Heap)(x dx C:Addr)(mA:L0):Prop where
 obj:h.get? x=some (PySem.W.instObj C dx)
 ns:h.Ns1 dx mA
 ne:dx≠x
def ObjM.look(I:ObjM h x dx C mA): ∃d,PySem.W.InstAt h x (PySem.W.instObj C dx) C (some d)/\ ∀name,PySem.W.lookIn name d=some (mA name):=
 let ⟨d,c,n⟩:=(show ∃d,h.get? dx=some d/\ ∀name,PySem.W.lookIn name d=some (mA name) by
   obtain⟨o,es,r,c,m,j,_,p⟩:=(I.ns);refine⟨o,c,λname=>?_⟩;have e:=p name;unfold nsFind findBy at e;rw[<-Array.find?_toList]at e;unfold PySem.W.lookIn;rw[m];dsimp only;split
   .rename_i y q;rw[q]at e;exact congrArg some e
   .rename_i q;rw[q]at e;have a:es.toList.any (·.refKey)=false:=by rw[List.any_eq_false];intro y i;obtain⟨z,t,b⟩:=j y (Array.mem_toList_iff.mp i);simp[DictEntry.refKey,b]
    have k: ¬es.toList.any (·.refKey)=true:=by rw[a];exact xF0
    rw[iN k];exact congrArg some e)
 ⟨d,⟨I.obj,rfl,rfl,c⟩,n⟩
section
variable{s:Ŗ}{K:Q0}
def Fv(X:K.In s.heap)(I:ObjM s.heap x dx C mA)(a:PySem.W.plainGet K C name=true)
  (hf:PySem.W.findIn K (.ref C) name=some (some (.ref f))) (ht:PySem.W.isFn K (.ref f)=true) (hv:mA name=none) (h:Q (.ref f,[.ref x]) s):
  wpAny (model prog w) A (getMethod (.ref x) name pl) Q E s:=by
 obtain⟨b,J,c⟩:=I.look;exact PySem.W.method_fn X J (PySem.W.plainGet_of a).1 (PySem.W.plainGet_of a).2 hf (Ĥ.mp ht) (by show(PySem.W.lookIn name b).map _=some false;rw[c,hv];rfl) h
theorem Ly(X:K.In s.heap)(I:ObjM s.heap x dx C mA)
  (hs:PySem.W.findIn K (.ref C) "__setattr__"=some (some (.builtin "object.__setattr__"))) (hp:PySem.W.plainOver K C=true) (ht:PySem.W.takerIn K C name=some none) (hh:PySem.W.hasDictIn K C=true)
  (hw:PySem.Within mA ns) (hsz:ns.length<=sizeLine)
  (h: ∀h',ObjM h' x dx C (λy=>if y=name then some v else mA y)->Heap.SameBut dx s.heap h'->Q () {s with heap:=h',toks:=s.toks+2}):
  wpAny (model prog w) A (setAttr (.ref x) name v) Q E s:=by
 obtain⟨r,J,u⟩:=I.look;refine PySem.W.set_plain X J hs (PySem.W.osa_open X J hp ht λb=>?_);obtain⟨q,o,e⟩:=PySem.W.any_some hh;have k:=I.obj;refine wB (wP (wB (wB (wpAny_loadPart k (wB (PySem.W.Looks.here (PySem.W.looks_clsIn X o) ?_))))));rw[e];refine wP (wB (wP (wB ?_)));refine wpAny_nsSet1 I.ns λh' c a=>?_;obtain⟨p,n,m,i,j,d⟩:=c.count (PySem.Within.cons name v hw);refine wB (wpAny_lookBehind i (by rw[j];exact pastItsLine_dict (ï d (by rw[lC];lia))) ?_);exact wP (h _ ⟨(a.2 _ (Ne.symm I.ne)).trans I.obj,c,I.ne⟩ a)
def Fw(X:K.In s.heap)(b:PySem.W.makesIn K C=true)
  (hi:PySem.W.findIn K (.ref C) "__init__"=some (some (.ref f))) (hf:PySem.W.typeIn K (.ref f)=some (.type "function"))
  (h:codeAny (model prog w) (A.under (.builtin "type.__call__" ⟨.ref C::vs,kw⟩)) (.call (.ref f) ⟨.ref (↑1+1)::vs,kw⟩) (PySem.W.InitBack (↑1+1) R)
   {s with heap:=(s.heap.push PySem.W.emptyDict).push (PySem.W.instObj C ↑1)}):
  codeAny (model prog w) A (.call (.ref C) ⟨vs,kw⟩) R s:=by
 exact PySem.W.make_core (PySem.W.makes_of X b) (PySem.W.looks_findIn X hi) (λa=>PySem.W.bind_fn X a hf) (.inl rfl) h
end
noncomputable def uC(f:Str)(v:V):List (Str×V)->List (Str×V)
 |[]=>[(f,v)]
 |(g,x)::r=>if g=f then(g,v)::r else(g,x)::uC f v r
theorem EF(f g)(v): ∀fs:List (Str×V),(uC f v fs).lookup g=if g=f then some v else fs.lookup g
 |[]=>by
  show List.lookup g [_]=_;by_cases h:g=f
  .have d:_=true:=Ĥ.mpr h;simp only[List.lookup,d,iP h]
  .have d:_=false:=Ŋ.mpr h;simp only[List.lookup,d,iN h]
 |(k,x)::r=>by
  have b:=EF f g v r;rw[show uC f v _=(if k=f then _::r else _::uC f v r)from rfl];by_cases a:k=f
  .rw[iP a];by_cases h:g=k
   .have d:_=true:=Ĥ.mpr h;simp only[List.lookup,d,iP (h.trans a)]
   .have d:_=false:=Ŋ.mpr h;simp only[List.lookup,d,iN (λe:g=f=>h (e.trans a.symm))]
  .rw[iN a];by_cases h:g=k
   .have d:_=true:=Ĥ.mpr h;simp only[List.lookup,d,iN (λe:g=f=>a (h.symm.trans e))]
   .have d:_=false:=Ŋ.mpr h;simp only[List.lookup,d];exact b
theorem CK(f)(v): ∀fs:List (Str×V),f∈(uC f v fs).map (·.1)/\ ∀g,g∈fs.map (·.1)->g∈(uC f v fs).map (·.1)
 |[]=>⟨by simp[uC],λg h=>by simp at h⟩
 |(k,x)::r=>by
  obtain⟨d,j⟩:=CK f v r;rw[show uC f v _=(if k=f then _::r else _::uC f v r)from rfl];by_cases a:k=f
  .rw[iP a];subst a;exact⟨by simp,λg h=>by simpa using h⟩
  .rw[iN a];refine⟨?_,λg h=>?_⟩
   .rw[ê];exact mO _ d
   .rw[ê]at h ⊢;rcases mC.mp h with e|e
    .exact mC.mpr (.inl e)
    .exact mO _ (j g e)
theorem EG(f)(v): ∀fs:List (Str×V),(uC f v fs).length<=fs.length+1
 |[]=>by simp[uC]
 |(k,x)::r=>by
  have d:=EG f v r;rw[show uC f v _=(if k=f then _::r else _::uC f v r)from rfl];by_cases a:k=f
  .rw[iP a,lC,lC];lia
  .rw[iN a,lC,lC];lia
def RelO.some_of(r:RelO (some v) o): ∃u,o=some u/\RelV v u:=by
 cases o with
 |none=>exact r.elim
 |some u=>exact⟨u,rfl,r⟩
def RelO.none_of(r:RelO none o):o=none:=by
 cases o with
 |none=>rfl
 |some u=>exact r.elim
section
def Ma(b:HOk P w H h)(e:H a=some (.ins C dx fs)): ∃j,ObjM h a dx C j/\(∀f,RelO (fs.lookup f) (j f))/\PySem.Within j (fs.map (·.1))/\fs.length<=1000/\H dx=some (.own a):=by
 obtain⟨d,z,ne,ob,j,n,r,q⟩:=(b a _ e)
 exact⟨j,⟨ob,n,ne⟩,r,q,z,d⟩
end
structure Cls(K:Q0)(C:Addr):Prop where
 pg:PySem.W.plainGet K C Str.empty=true
 hd:PySem.W.hasDictIn K C=true
 po:PySem.W.plainOver K C=true
 sa:PySem.W.findIn K (.ref C) "__setattr__"=some (some (.builtin "object.__setattr__"))
def Cls.get{K:Q0}(c:Cls K C)(f):PySem.W.plainGet K C f=true:=c.pg
def NoAttr(K:Q0)(C:Addr)(f:Str):Prop:=PySem.W.findIn K (.ref C) f=some none
theorem NoAttr.taker{K:Q0}(n:NoAttr K C f):PySem.W.takerIn K C f=some none:=by unfold PySem.W.takerIn;rw[show PySem.W.findIn K _ f=some none from n];rfl
structure Meth(K:Q0)(C:Addr)(m:Str)(f:Addr):Prop where
 at_:PySem.W.findIn K (.ref C) m=some (some (.ref f))
 fn:PySem.W.isFn K (.ref f)=true
 kp:PySem.W.keepIn K (.ref f)=true
section
theorem VH(I:↑2)(e:H a=some (.ins C dx fs))(c:Cls X.K C)(n:NoAttr X.K C f)(J:fs.length<1000)(p:RelV y u)
  (h: ∀j,Inv X pins σ (wG H a (.ins C dx (uC f y fs))) j->Q () j):wpAny ↑5 A (setAttr (.ref a) f u) Q E s:=by
 obtain⟨F,O,r,i,_,k⟩:=Ma I.hok e;have m:(fs.map (·.1)).length<=sizeLine:=by rw[lM,Ď];lia
 refine Ly I.kIn O c.sa c.po n.taker c.hd i m λh' d sb=>h _ ?_;have D: ∃o,h'.get? dx=some o:=let ⟨o,_,_,v,_⟩:=d.ns;⟨o,v⟩;refine I.write (by rw[e];exact True.intro) (.inr k) (λb q G z=>(sb.2 b G).trans z) D ?_;refine⟨by rw[zO O.ne];exact k,?_,O.ne,d.obj,_,d.ns,λg=>?_,λg B=>?_⟩
 .have:=EG f y fs;lia
 .show RelO _ _;rw[EF];by_cases q:g=f
  .rw[iP q,iP q];exact p
  .rw[iN q,iN q];exact r g
 .by_cases q:g=f
  .rw[q];exact(CK f y fs).1
  .refine(CK f y fs).2 g (i g λz=>B ?_);show(if g=f then some u else F g)=none;rw[iN q];exact z
def Inv.made(I:↑2):Inv X pins σ (wG (wG H ↑1 (.own (↑1+1))) (↑1+1) (.ins C ↑1 []))
  {s with heap:=(s.heap.push PySem.W.emptyDict).push (PySem.W.instObj C ↑1)}:=by
 have a:(s.heap.push PySem.W.emptyDict).get? ↑1=some PySem.W.emptyDict:=å s.heap rfl;have i:=by have:=å (s.heap.push PySem.W.emptyDict) (o:=PySem.W.instObj C ↑1) rfl;rwa [Ė]at this
 have c:(s.heap.push PySem.W.emptyDict).Ns ↑1 (λ_=>none):=⟨_,#[],_,a,rfl,(λe d=>absurd d (by simp)),λ_=>rfl⟩
 have I1:=I.laid (o:=.own (↑1+1)) (t':=s.toks) (λb u q=>hP0 _ q) (à _) ⟨_,a⟩;refine I1.laid (λb u q=>hP0 _ q) (le_of_eq (Ė _ _)) ?_;have ne:↑1≠↑1+1:=è (ć _);refine⟨by rw[zO ne,yN],zero_le _,ne,i,λ_=>none,(Heap.Ns1.of_empty c).at λo q=>hP0 _ q,λ_=>True.intro,λy h=>absurd rfl h⟩
end
def O6(K:Q0)(e h:TE)(f:Str):TS:=λD σ H=>h σ H λy d=>e σ d λx c=> ∃a C b fs,x=.ref a/\c a=some (.ins C b fs)/\Cls K C/\NoAttr K C f/\fs.length<1000/\
 D.nx σ (wG c a (.ins C b (uC f y fs)))
section
def Wb(v:PE X o ta)(p:PE X value tv)(hs:swapsWith value (some (.Attribute o f pos')) pos.line X.env=pure false):PS X (.Assign [.Attribute o f pos'] value pos) (O6 X.K ta tv f):=by intro pins s σ H D I h;refine plainObj_wpAny_Assign_Attribute (jU (p pins s σ H _ I h) λu w ⟨y,e,I1,j,q⟩=>jU (v pins w σ e _ I1 q) λz E ⟨x,B,k,m,a,C,F,fs,d,b,c,n,l,i⟩=>?_) hs;subst d;obtain rfl:z=Value.ref a:=m;exact VH k b c n l j λA r=>⟨σ,_,r,i⟩
end
section
variable{H:Hp}
inductive AO(K:Q0)(H:Hp):V->ŗ->Prop where
 |non:AO K H .non (.type "NoneType")
 |bl (x:Bool):AO K H (.bl x) (.type "bool")
 |int (i:Int):AO K H (.int i) (.type "int")
 |str (x:Str):AO K H (.str x) (.type "str")
 |flt (x:UInt64):AO K H (.flt x) (.type "float")
 |lst {a:Addr} {xs:List V} (e:H a=some (.lst xs)):AO K H (.ref a) (.type "list")
 |frz {a:Addr} {o:Obj} {xs:List V} (e:H a=some (.frz o (.lst xs))):AO K H (.ref a) (.type "list")
 |tup {a:Addr} {xs:List V} (e:H a=some (.tup xs)):AO K H (.ref a) (.type "tuple")
 |dK {a:Addr} {kvs:List (Key×V)} (e:H a=some (.dK kvs)):AO K H (.ref a) (.type "dict")
 |dT {a:Addr} {kvs:List (List Key×V)} (e:H a=some (.dT kvs)):AO K H (.ref a) (.type "dict")
 |ins {a C dx:Addr} {fs:List (Str×V)} (e:H a=some (.ins C dx fs)) (cl:Cls K C) (ha:PySem.W.findIn K (.ref C) "__class__"=some (some (.builtin "object.__class__")))
   (hn:PySem.W.specialIn K (.builtin "object.__class__") "__get__"=some (some (.builtin "getset_descriptor.__get__"))) (htk:PySem.W.takesIn K (.builtin "object.__class__")=some true)
   (hm:PySem.W.mroIn K C (.type "object")=some true):AO K H (.ref a) (.ref C)
end
structure Room(k:Nat)(A:Around):Prop where
 hd:A.handled=none
 dp:A.depth+3 * k+5<recursionLimit
 un:A.units+16 * k+200<cLine
 gd:A.guards=some []
theorem Room.mono(r:Room k A)(h:j<=k):Room j A:=⟨r.hd,by have:=r.dp;lia,by have:=r.un;lia,r.gd⟩
theorem Room.deeper(r:Room (k+1) A)(env):Room k (A.deeper env):=
 ⟨r.hd,by have:=r.dp;show A.depth+1+3 * k+5<_;lia,by have:=r.un;show A.units+3+16 * k+200<_;lia,r.gd⟩
def VJ{A:Around}:(A.under (.builtin "type.__call__" ⟨.ref C::us,kw⟩)).units=A.units+1:=by
 first |rfl|simp[Code.cUnits]
theorem Room.make(r:Room (k+1) A)(C)(us)(kw):Room k (A.under (.builtin "type.__call__" ⟨.ref C::us,kw⟩)):=
 ⟨r.hd,by have:=r.dp;rw[(show (A.under (.builtin "type.__call__" ⟨.ref C::us,kw⟩)).depth=A.depth+1 by
   first |rfl|simp[Code.weight])];lia,by have:=r.un;rw[VJ];lia,by unfold Around.under;dsimp only;rw[r.gd];first |rfl|simp[Code.guards,Code.isGuard,pushGuards]⟩
def Room.depth(r:Room k A):A.depth<recursionLimit:=by have:=r.dp;omega
def Room.units(r:Room k A):A.units+64<cLine:=by have:=r.un;omega
noncomputable def O7:TA:=λ_ H Q=>Q [] H
def Sx(b:TE)(tr:TA):TA:=λσ H Q=>b σ H λx a=>tr σ a λxs c=>Q (x::xs) c
section
variable{e:Expr}{pos:Pos}
def NO:PA X [] O7:=λ_ _ _ _ H Q I h=>Calls.spliced_nil ⟨[],H,I,.nil,h⟩
abbrev q8(X:Cx)(e:Expr)(es:List Expr):Prop:=starEach (e::es) X.env=(false,eval e X.env)::starEach es X.env
def FV(k:PE X e te)(i:PA X es t)(hs:q8 X e es:=by rfl):PA X (e::es) (Sx te t):=by intro pos pins s σ H Q I h;rw[hs];show wpAny _ _ _ _ _ s;refine Calls.spliced_cons (jU (k pins s σ H _ I h) λu m ⟨x,j,I1,c,b⟩=>?_);exact jU (i pos pins m σ j _ I1 b) λp q ⟨xs,o,d,n,a⟩=>⟨_,o,d,.cons c n,a⟩
def tTup(t:TA):TE:=λσ H Q=>t σ H λxs a=>xs.length<=sizeLine/\ ∀p,a p=none->Q (.ref p) (wG a p (.tup xs))
def tLst(t:TA):TE:=λσ H Q=>t σ H λxs a=>xs.length<=sizeLine/\ ∀p,a p=none->Q (.ref p) (wG a p (.lst xs))
end
abbrev Sp:=List V->Hp->VK->XK->Prop
abbrev YE:=List Env->Hp->Shared->XK->VP
structure Env0(P:Ř)(w:World)(K:Q0)(mg:L0)(base:Heap)(A:Around)(outer:List Env)(s:Ŗ)(H:Hp):Prop where
 frames:A.frames=some outer
 mod:Mod K mg base
 bs: ∀b o,base.get? b=some o->s.heap.get? b=some o/\H b=none
 bsz:base.objs.size<=↑1
 funs:s.heap.FunFrames base outer
 frf: ∀b∈Ex outer,H b=none
 hok:HOk P w H s.heap
 bare:AllBare s.gens
def CE(a:List Env)(P:Ř)(w:World)(H:Hp)(s:Ŗ)(Q:VK)(u:ŗ)(b:Ŗ):Prop:=
 ∃v H',b.os=s.os/\AllBare b.gens/\Un (Ex a) [] H H' s.heap b.heap/\HOk P w H' b.heap/\RelV v u/\Q v H'
def CR(CX:YE)(a:List Env)(P:Ř)(w:World)(H:Hp)(s:Ŗ)(Q:VK)(E:XK)(r:Result)(b:Ŗ):Prop:=
 match r with
 |.ok (.ret u)=>CE a P w H s Q u b
 |.ok _=>False
 |.error e=>CX a H s E e b
structure FnOk(P:Ř)(w:World)(K:Q0)(mg:L0)(base:Heap)(CX:YE)(k:Nat)(f:Addr)(fd:FuncData)(ps:K0)(sp:Sp):Prop where
 len: ∀vs H Q E,sp vs H Q E->vs.length=ps.length
 run: ∀(A:Around)(outer:List Env)(s:Ŗ)(H:Hp)(args:Args)(us:A0)(vs:List V)(Q:VK)(E:XK),Room k A->Env0 P w K mg base A outer s H->BindsTo s fd args (ps.zip us)->Vals vs us->sp vs H Q E->
  codeAny (model P w) A (.call (.ref f) args) (CR CX outer P w H s Q E) s
def FnOk.mono{K:Q0}(F:FnOk P w K mg base CX j f fd ps sp)(h:j<=k):
  FnOk P w K mg base CX k f fd ps sp:=⟨F.len,λA a s H b c d Q E e=>F.run A a s H b c d Q E (e.mono h)⟩
def FnOk.imp{K:Q0}(F:FnOk P w K mg base CX k f fd ps sp)
  (h: ∀vs H Q E,sp' vs H Q E->sp vs H Q E):FnOk P w K mg base CX k f fd ps sp':=
 ⟨λvs H Q E q=>F.len vs H Q E (h _ _ _ _ q),λA a s H b c vs Q E e i d j hs=>F.run A a s H b c vs Q E e i d j (h _ _ _ _ hs)⟩
def Env0.make{K:Q0}(e:Env0 P w K mg base A outer s H)(C)(us)(kw):
  Env0 P w K mg base (A.under (.builtin "type.__call__" ⟨.ref C::us,kw⟩)) outer s H:=⟨by first |exact e.frames|(simpa [Around.under,Code.envs,Code.isFrame,pushEnvs]using e.frames),e.mod,e.bs,e.bsz,e.funs,e.frf,e.hok,e.bare⟩
section
def Inv.env0(I:↑2):Env0 X.prog X.w X.K X.mg X.base X.A X.stack s H:=
 ⟨I.ok.frames,I.ok.mod,I.bs,ï I.ok.bsz I.sz,I.stack,I.stkFree,I.hok,I.bare⟩
def Inv.after(I:↑2)(h:CE X.stack X.prog X.w H s Q u s'):EP X pins σ Q u s':=by obtain⟨v,H',i,a,un,e,r,q⟩:=h;obtain⟨j,g,d,t,c⟩:=s';obtain rfl:c=s.os:=i;exact⟨v,H',I.call un e a (λb z=>absurd z (by simp)),r,q⟩
end
def O8(sp:Sp)(a:List V)(E:XK)(t:TA):TE:=λσ H Q=>t σ H λb c=>sp (b++a) c Q E
def Sy(C:Addr)(sp:Sp)(c:List V)(E:XK)(t:TA):TE:=λσ H Q=>t σ H λd b=> ∀x a,b x=none->b a=none->a≠x->
 sp (.ref x::(d++c)) (wG (wG b a (.own x)) x (.ins C a [])) (λv e=>v=.non/\Q (.ref x) e) E
def Binds(K:Q0)(b:FuncData)(ps:K0)(ds:A0):Prop:=
 ∀(s:Ŗ)(a:A0),K.In s.heap->(a++ds).length=ps.length->BindsTo s b ⟨a,[]⟩ (ps.zip (a++ds))
def Binds.all{K:Q0}(h: ∀d:List ŗ,d.length=ps.length->bindArgs fd ⟨d,[]⟩=pure (ps.zip d)):Binds K fd ps []:=λs d _ a=>by rw[aN]at a ⊢;exact .of_eq (h d a)
def GR(CX:YE)(X:Cx)(E:XK):Prop:= ∀(pins:M0)(σ:St)(H:Hp)(s:Ŗ)(e:ŗ)(a:Ŗ),Inv X pins σ H s->CX X.stack H s E e a->X.xe e a
section
variable{f C:Addr}{p pos:Pos}{e:Expr}
def Fx(F:FnOk X.prog X.w X.K X.mg X.base CX k f fd ps sp)(i:Room k X.A)(j:Binds X.K fd ps ds)(d:Vals dvs ds)(hx:GR CX X E)
  (I:↑2) (r:Vals vs us) (h:sp (vs++dvs) H Q E):wpAny ↑5 X.A (call (.ref f) us) (EP X pins σ Q) X.xe s:=by
 have b:Vals _ _:=r.append d;refine wpAny_call (Ĵ (F.run X.A X.stack s H ⟨us,[]⟩ _ _ Q E i I.env0 (j s us I.kIn (by rw[<-b.length];exact F.len _ _ _ _ h)) b h) λr c a=>?_)
 cases r with
 |error e=>exact hx pins σ H s e c I a
 |ok fl=>
  cases fl with
  |ret u=>exact I.after a
  |next=>exact False.elim a
  |brk=>exact False.elim a
  |cont=>exact False.elim a
abbrev q9(X:Cx)(p:Pos)(es:List Expr):Prop:=(backTo p (starEach es X.env)).any (·.1)=false
def Mc(F:FnOk X.prog X.w X.K X.mg X.base CX k f fd ps sp)(a:Room k X.A)(c:Gl X x)(j:X.mg x=some (.ref f))(b:PySem.W.keepIn X.K (.ref f)=true)(i:Binds X.K fd ps ds)(d:Vals dvs ds)(hx:GR CX X E)
  (ha:PA X (e::es) t) (hdb:(x==("__debug__"))=false:=by decide) (he:q8 X e es:=by rfl) (hpl:q9 X pos es:=by rfl):
  PE X (.Call (.Name x p) (e::es) [] pos) (O8 sp dvs E t):=by
 intro pins s σ H Q I h;refine wpAny_Call_Name_kw (YA I c j ?_ hdb);refine PySem.W.callWith_K I.ok.mod.kin b (jU (ha pos pins s σ H _ I h) λm u ⟨n,o,I1,r,q⟩=>⟨I1.kIn,?_⟩) he hpl;exact Fx F a i d hx I1 r q
structure Mk(K:Q0)(C f:Addr):Prop where
 makes:PySem.W.makesIn K C=true
 init:PySem.W.findIn K (.ref C) "__init__"=some (some (.ref f))
 fn:PySem.W.isFn K (.ref f)=true
 kp:PySem.W.keepIn K (.ref C)=true
def Fy(M:Mk X.K C f)(F:FnOk X.prog X.w X.K X.mg X.base CX k f fd ps sp)(m:Room (k+1) X.A)(n:Binds X.K fd ps ds)(p:Vals dvs ds)
  (hx:GR CX X E) (I:↑2) (r:Vals vs us)
  (h: ∀x d,H x=none->H d=none->d≠x->sp (.ref x::(vs++dvs)) (wG (wG H d (.own x)) x (.ins C d [])) (λv q=>v=.non/\Q (.ref x) q) E):
  wpAny ↑5 X.A (call (.ref C) us) (EP X pins σ Q) X.xe s:=by
 have c:=h _ ↑1 (I.hok.fresh (le_succ _)) (I.hok.fresh (à _)) (è (ć _));have b:=Inv.made (C:=C) I;have i:Vals (V.ref (↑1+1)::_) _:=.cons rfl (r.append p);have B:=by have e:=i.length;rw[F.len _ _ _ _ c]at e;exact e.symm
 refine wpAny_call (Fw I.kIn M.makes M.init (Ĥ.mp M.fn) (Ĵ (F.run _ X.stack _ _ ⟨_,[]⟩ _ _ _ E (m.make C us [])
  (b.env0.make C us []) (n _ _ b.kIn B) i c) λr j a=>?_))
 cases r with
 |error e=>exact hx pins σ _ _ e j b a
 |ok fl=>
  cases fl with
  |ret u=>
   obtain⟨v,H',o,D,z,y⟩:=b.after a;subst z;exact⟨D,⟨V.ref _,H',o,rfl,y⟩⟩
  |next=>exact False.elim a
  |brk=>exact False.elim a
  |cont=>exact False.elim a
def Md(M:Mk X.K C f)(F:FnOk X.prog X.w X.K X.mg X.base CX k f fd ps sp)(a:Room (k+1) X.A)(b:Gl X x)(i:X.mg x=some (.ref C))(d:Binds X.K fd ps ds)(c:Vals dvs ds)(hx:GR CX X E)
  (ha:PA X (e::es) t) (hdb:(x==("__debug__"))=false:=by decide) (he:q8 X e es:=by rfl) (hpl:q9 X pos es:=by rfl):
  PE X (.Call (.Name x p) (e::es) [] pos) (Sy C sp dvs E t):=by
 intro pins s σ H Q I h;refine wpAny_Call_Name_kw (YA I b i ?_ hdb);refine PySem.W.callWith_K I.ok.mod.kin M.kp (jU (ha pos pins s σ H _ I h) λj o ⟨m,n,I1,r,q⟩=>⟨I1.kIn,?_⟩) he hpl;exact Fy M F a d c hx I1 r q
end
structure FnScope(N P:K0)(sc:Scope):Prop where
 kind:sc.kind=.function
 co:sc.isCoroutine=false
 gen:sc.isGenerator=false
 nd:N.Nodup
 pre:N.take P.length=P
 par: ∀x∈P,sc.names.lookup x=some .local\/sc.names.lookup x=some .cell
 nofree: ∀y∈sc.names,y.2≠.free
def fsK{N:K0}{d:Scope}(h:N.Nodup/\N.take P.length=P/\(∀x∈P,d.names.lookup x=some .local\/d.names.lookup x=some .cell)/\∀y∈d.names,y.2≠.free)(a:d.kind=.function:=by rfl)(b:d.isCoroutine=false:=by rfl)(c:d.isGenerator=false:=by rfl):FnScope N P d:=⟨a,b,c,h.1,h.2.1,h.2.2.1,h.2.2.2⟩
theorem LR{a:Str->Option NameKind}: ∀{binds}{m},(∀v,(x,v)∉binds)->bindL a binds m x=m x
 |[],_,_=>rfl
 |(n,v)::r,m,h=>by
  unfold bindL;rw[LR λw hw=>h w (mO _ hw)];split
  .have:x≠n:=by rintro rfl;exact h v mF0
   simp[this]
  .rfl
theorem LS{a:Str->Option NameKind}: ∀{binds}{m},(∀v,(x,v)∉binds)->bindC a binds m x=m x
 |[],_,_=>rfl
 |(n,v)::r,m,h=>by
  unfold bindC;rw[LS λw hw=>h w (mO _ hw)];split
  .rfl
  .have:x≠n:=by rintro rfl;exact h v mF0
   simp[this]
theorem LT{a:Str->Option NameKind}: ∀{P:K0}{vs}{i:Nat}{m},P.Nodup->P[i]? =some x->vs[i]? =some v->a x=some .local->
  bindL a (P.zip vs) m x=some v
 |[],_,_,_,_,h,_,_=>by simp at h
 |_::_,[],_,_,_,_,h,_=>by simp at h
 |p::P,w::vs,0,m,nd,h1,h2,hk=>by simp at h1 h2;subst h1;subst h2;show bindL a (_::P.zip vs) m p=_;unfold bindL;rw[LR λv d=>(nodup_cons.mp nd).1 (of_mem_zip d).1,iP hk];simp
 |p::P,w::vs,i+1,m,nd,h1,h2,hk=>by show bindL a _ m x=_;unfold bindL;exact LT (nodup_cons.mp nd).2 (by simpa using h1) (by simpa using h2) hk
theorem LU{a:Str->Option NameKind}: ∀{P:K0}{vs}{i:Nat}{m},P.Nodup->P[i]? =some x->vs[i]? =some v->a x≠some .local->
  bindC a (P.zip vs) m x=some v
 |[],_,_,_,_,h,_,_=>by simp at h
 |_::_,[],_,_,_,_,h,_=>by simp at h
 |p::P,w::vs,0,m,nd,h1,h2,hk=>by simp at h1 h2;subst h1;subst h2;show bindC a (_::P.zip vs) m p=_;unfold bindC;rw[LS λv d=>(nodup_cons.mp nd).1 (of_mem_zip d).1,iN hk];simp
 |p::P,w::vs,i+1,m,nd,h1,h2,hk=>by show bindC a _ m x=_;unfold bindC;exact LU (nodup_cons.mp nd).2 (by simpa using h1) (by simpa using h2) hk
noncomputable def start(N:K0)(vs:List V):St:=vs.map some++List.replicate (N.length - vs.length) none
noncomputable def NP(CX:YE)(P:Ř)(w:World)(K:Q0)(mg:L0)(base:Heap)(N:K0)(qual:Str)(scope:Scope)(f:Addr)(cd:ŗ)(A:Around)(outer:List Env)(s:Ŗ)(H:Hp)(E:XK):Cx where
 prog:=P
 w:=w
 K:=K
 mg:=mg
 base:=base
 A:=A.deeper (envOfC qual scope ↑1 f cd)
 N:=N
 s₀:=s
 H₀:=H
 env:=envOfC qual scope ↑1 f cd
 outer:=outer
 stack:=envOfC qual scope ↑1 f cd::outer
 ex:=[]
 calm:=true
 fn:=λ_=>true
 pn:=[]
 xe:=λe s'=>wpAny (model P w) (A.deeper (envOfC qual scope ↑1 f cd)) (leaving (envOfC qual scope ↑1 f cd) e) (λ_ s''=>CX outer H s E e s'') (λe' s''=>CX outer H s E e' s'') s'
def RH{a:Scope}(h:a.names.lookup x=some .cell): ∃c,(cellsFrom n a.names []).lookup x=some c:=by exact Ĉ.mp (PySem.W.cellsFrom_some a.names n [] (.inl h))
theorem By{K:Q0}
  (S:FnScope N ps scope) (hd:A.handled=none) (e0:Env0 P w K mg base A outer s H) (hl:vs.length=ps.length) (r:Vals vs us)
  (x:InCallC s ↑1 (bindL (envOfC qual scope ↑1 f cd).kindOf (ps.zip us) λ_=>none) (cellsFrom (↑1+1) scope.names []) (bindC (envOfC qual scope ↑1 f cd).kindOf (ps.zip us) λ_=>none) s1):
  Inv (NP CX P w K mg base N qual scope f cd A outer s H E) [] (start N vs) H s1:=by
 have I:=by have:=congrArg List.length S.pre;rw[lT]at this;omega
 obtain⟨B,L,rfl,D⟩:=x.done;have m: ∀b:Addr,b∉(NP CX P w K mg base N qual scope f cd A outer s H E).ex:=λb z=>absurd (show b∈([]:B9)from z) (by simp)
 refine⟨⟨e0.mod,S.kind,rfl,rfl,à _,λy z c B d=>?_,λy j=>?_,λy c _ h=>?_,λ_=>hd,Around.frames_deeper e0.frames,.inr ⟨rfl,rfl⟩,λb z=>absurd z (m b),e0.bs,e0.bsz,λb _ _=>m b,λb z=>absurd z (m b),e0.funs,e0.frf⟩,
  rfl,e0.bare,Un.kept D,⟨_,x.toInCall.ns,λi y v B d J=>?_⟩,λy c h=>⟨_,x.cell y c h⟩,e0.hok.fresh (à _),λy c h=>?_,λp n=>absurd (show p∈([]:List _)from n) (by simp),e0.hok.kept D,?_⟩
 .exact name_of_addr x.apart (PySem.mem_of_lookup B) (PySem.mem_of_lookup d)
 .have j:=j;rcases j with j|j
  .exact RH j
  .exact absurd rfl (S.nofree _ (PySem.mem_of_lookup j))
 .exact le_of_lt (x.above y c (PySem.mem_of_lookup h))
 .have hi:i<vs.length:=by
   unfold start at d;by_cases hi:i<vs.length
   .exact hi
   .rw[ð (by simpa using hi)]at d;rw[List.getElem?_replicate]at d;split at d<;>cases d
  have F:vs[i]? =some v:=by
   unfold start at d;rw[æ (by simpa using hi),ì]at d
   cases e:vs[i]? with
   |none=>rw[e]at d;cases d
   |some a=>rw[e]at d;cases d;rfl
  obtain⟨u,C,G⟩:=r.get F;have n:ps[i]? =some y:=by rw[<-S.pre,Ċ (by omega)];exact B
  have o:ps.Nodup:=by rw[<-S.pre];exact S.nd.sublist (List.take_sublist _ _)
  refine⟨u,G,?_⟩;rcases S.par y (á n)with k|k
  .exact .inl ⟨k,LT o n C k⟩
  .obtain⟨c,e⟩:=RH k;refine .inr ⟨.inl k,c,e,?_⟩;have q:=x.cell y c e;rw[LU o n C (by show scope.names.lookup y≠_;rw[k];decide)]at q;exact q
 .exact e0.hok.fresh (le_of_lt (x.above y c (PySem.mem_of_lookup h)))
 .unfold start;show _=N.length;rw[lA,lM,Ğ]
  lia
def O9{K:Q0}{kV:ŗ}
     (lk:K.lookup f=some ⟨oc,od,.func (PySem.W.fnOf name qual params body scope dV kV doc pm an cdv ct),osl⟩) (hcd:PySem.W.codeIn K cdv qual=true) (S:FnScope N ps scope)
  (len: ∀vs H Q E,sp vs H Q E->vs.length=ps.length)
  (hbody: ∀ A  d  s  H  vs  Q  E ,Room k (A.deeper (envOfC qual scope ↑1 f cdv))->sp vs H Q E->
   ∃t,PSs (NP CX P w K mg base N qual scope f cdv A d s H E) body t/\t {nx:=λ_ H'=>Q .non H',rt:=Q} (start N vs) H):
  FnOk P w K mg base CX (k+1) f (PySem.W.fnOf name qual params body scope dV kV doc pm an cdv ct) ps sp:=by
 refine⟨len,λA d s H z C vs Q E p h O r i=>?_⟩;have KX:=h.mod.kin.keeps λb o e=>(h.bs b o e).1
 have c: ∀y∈ps.zip C,scope.names.lookup y.1=some .local\/(scope.names.lookup y.1=some .cell/\((cellsFrom (↑1+1) scope.names []).lookup y.1).isSome=true):=λ⟨n,v⟩ F=>by
  rcases S.par n (of_mem_zip F).1 with q|q
  .exact .inl q
  .exact .inr ⟨q,PySem.W.cellsFrom_some _ _ _ (.inl q)⟩
 refine codeAny_call_function p.depth (KX _ _ lk) rfl S.co S.gen rfl (PySem.W.codeRec_of KX hcd) (O _ _ _ _ ?_);refine wpAny_newFunctionEnv_cells S.kind c λD L M x=>?_;subst L;refine⟨(h.mod.nolimit.keeps λb o e=>(h.bs b o e).1).keeps x.toInCall.keep,codeAny_func ?_⟩;obtain⟨t,B,G⟩:=hbody A d s H vs Q E (p.deeper _) i;refine ú (B [] M _ H _ (By S p.hd h (len _ _ _ _ i) r x) G) (λI m hs=>?_) λe m hs=>hs
 have fin: ∀{a:St}{H':Hp}{v:V}{u:ŗ},Inv (NP CX P w K mg base N qual scope f cdv A d s H E) [] a H' m->RelV v u->Q v H'->CE d P w H s Q u m:=
  λ{a H' v u} J j q=>⟨v,H',J.os,J.bare,J.base,J.hok,j,q⟩
 cases I with
 |ret u=>
  obtain⟨v,a,H',J,j,q⟩:=hs;exact fin J j q
 |next=>
  obtain⟨a,H',J,q⟩:=hs;exact fin (v:=V.non) J rfl q
 |brk=>
  obtain⟨_,_,_,q⟩:=hs;exact False.elim q
 |cont=>
  obtain⟨_,_,_,q⟩:=hs;exact False.elim q
section
variable{p pos:Pos}{id:String}
def tCB(r:List V->Hp->VK->Prop)(t:TA):TE:=λσ H Q=>t σ H λa b=>r a b Q
def RI(u:CallR X (.builtin id) r)(m:Gl X x)(v:X.mg x=none)(k:bootBuiltins x=some (.builtin id))(o:PA X (e::es) t)(b:x≠"__name__":=by decide)(a:(x==("__debug__"))=false:=by decide)
  (he:q8 X e es:=by rfl) (hpl:q9 X pos es:=by rfl):PE X (.Call (.Name x p) (e::es) [] pos) (tCB r t):=by
 intro pins s σ H Q I h;refine wpAny_Call_Name_kw (CG I m v k ?_ b a);exact PyProof.Rows.callWith_builtin1 (jU (o pos pins s σ H _ I h) λc q ⟨d,n,I1,j,i⟩=>u pins q σ n d c Q I1 j i) he hpl
def CL(u:CallR X (.type T) r)(m:Gl X x)(v:X.mg x=none)(k:bootBuiltins x=some (.type T))(o:PA X (e::es) t)(b:x≠"__name__":=by decide)(a:(x==("__debug__"))=false:=by decide)
  (he:q8 X e es:=by rfl) (hpl:q9 X pos es:=by rfl):PE X (.Call (.Name x p) (e::es) [] pos) (tCB r t):=by
 intro pins s σ H Q I h;refine wpAny_Call_Name_kw (CG I m v k ?_ b a);exact ĳ (jU (o pos pins s σ H _ I h) λc q ⟨d,n,I1,j,i⟩=>u pins q σ n d c Q I1 j i) he hpl
end
end L2
namespace HT
open PySem PyProof.Rows
section
def cat_tup(q:IsTup s.heap t vs.toArray)(r:IsTup s.heap b ws.toArray)(k:vs≠[])
  (h1:ws=[]->Q (.ref t) s) (h2:ws≠[]->Q (.ref ↑1) {s with heap:=s.heap.push {cls:=.type "tuple",data:=.seq (vs++ws).toArray}})
  (hsz:vs.length+ws.length<=sizeLine):wpAny (model prog w) A (binaryOp .Add (.ref t) (.ref b)) Q E s:=by
 obtain⟨⟨cls,o,data,sl⟩,h,v,n,u⟩:=id q;obtain⟨⟨m,d,_,c⟩,a,i,p,j⟩:=id r;subst v u i j;have e:vs.toArray++ws.toArray=(vs++ws).toArray:=by simp
 by_cases hw:ws=[]
 .exact concat_meets ⟨_,h,rfl⟩ ⟨_,a,rfl⟩ noFill_tuple_add seq_tuple_add PySem.F.slot_tuple_add PySem.F.entry_tuple_add (PySem.F.args_tuple_add_2 _ _)
   (tuple_addW1 t b vs.toArray ws.toArray n p o d sl c (by simpa using k) (by simp[hw])) ⟨h,a,h1 hw⟩
 .refine concat_meets ⟨_,h,rfl⟩ ⟨_,a,rfl⟩ noFill_tuple_add seq_tuple_add PySem.F.slot_tuple_add PySem.F.entry_tuple_add (PySem.F.args_tuple_add_2 _ _)
   (tuple_addW2 t b vs.toArray ws.toArray n p o d sl c (by simpa using k) (by simpa using hw) (by rw[sA0];exact hsz)) ⟨h,a,?_⟩
  rw[e];exact h2 hw
noncomputable def sIx(n d:Nat):Option Int->Nat
 |none=>d
 |some v=>if v<0 then(v+(n:Int)).toNat else min v.toNat n
theorem sIx_nat(n d k:Nat):sIx n d (some  k )=min k n:=by show(if(k:Int)<0 then((k:Int)+(n:Int)).toNat else min (k:Int).toNat n)=min k n;rw[iN #[0],Ĕ]
theorem sIx_le(n d)(b:d<=n)(o):sIx n d o<=n:=by
 cases o with
 |none=>exact b
 |some v=>
  show(if v<0 then(v+_).toNat else min v.toNat n)<=n;by_cases a:v<0
  .rw[iP a];lia
  .rw[iN a];exact Nat.min_le_right _ _
theorem YF(v)(n d:Nat):(if v<0 then max (v+(n:Int)) 0 else min v  n )=((sIx n d (some v):Nat)):=by
 show _=(((if v<0 then(v+_).toNat else min v.toNat n):Nat):Int)
 by_cases a:v<0
 .simp only[iP a];lia
 .simp only[iN a];lia
theorem VM(i j:Nat):Builtin.Slice.slicePlaces  i   j  1=j - i:=by
 unfold Builtin.Slice.slicePlaces;have a:(1:Int)>0:=by lia
 split<;>lia
def GS(p:IsPart v o)(h:Q o s):wpAny (model prog w) A (Builtin.Slice.slicePartIndex v) Q E s:=by
 cases p with
 |none=>exact slicePart_none h
 |int i t=>exact slicePart_int h
def sliceApplied_gen{lo:O0}{Q:Int×Int×Nat->Ŗ->Prop}(hs:s.heap.IsSliceOf sl vl vu .none)(d:IsPart vl lo)(c:IsPart vu hi)
  (h:Q (((sIx n 0 lo:Nat)),1,sIx n n hi - sIx n 0 lo) s):wpAny (model prog w) A (Builtin.Slice.sliceApplied (.ref sl) (pure  n )) Q E s:=by
 obtain⟨i,a,e,b⟩:=id hs;refine wB (wB (ġ a b rfl (wB (ġ a b rfl (wB (ġ a b rfl (wP ?_)))))));refine wB (slicePart_none ?_);show wpAny _ _ _ _ _ s;refine wB (GS d (wB (GS c (wB (wP ?_)))));show wpAny _ _ (match Builtin.Slice.sliceAdjust lo hi 1 _ with |(lo,hi)=>pure (lo,_,Builtin.Slice.slicePlaces lo hi 1)) _ _ s;rw[(show Builtin.Slice.sliceAdjust lo hi 1  n =(((sIx n 0 lo):Int),((sIx n n hi):Int)) by
   have j: ¬((1:Int)<0):=by lia
   unfold Builtin.Slice.sliceAdjust;refine Prod.ext ?_ ?_
   .cases lo with
    |none=>rfl
    |some v=>exact YF v n 0
   .cases hi with
    |none=>rfl
    |some v=>exact YF v n n)];show wpAny _ _ (pure _) _ _ s;rw[VM];exact wP h
theorem Fz(xs:B0)(i k:Nat):((List.range k).filterMap λ(m:Nat)=>xs[( i +(m:Int) * 1).toNat]?).toArray=((xs.toList.drop i).take k).toArray:=by
 have e:(λ(m:Nat)=>xs[((i:Int)+(m:Int) * 1).toNat]?)=λm=>xs[i+m]? :=by
  funext m;have:((i:Int)+(m:Int) * 1).toNat=i+m:=by lia
  rw[this]
 rw[e];have:=pick_run xs i k;rw[List.filterMap_map]at this;have a:((λx=>xs[x]?)∘λx=>i+x)=λm=>xs[i+m]? :=rfl;rw[a]at this;rw[this]
def getItem_tuple_cut{lo:O0}(b:IsTup s.heap t items)(hs:s.heap.IsSliceOf sl vl vu .none)(n:IsPart vl lo)(j:IsPart vu hi)
  (hw: ¬(sIx items.size 0 lo=0/\sIx items.size items.size hi=items.size))
  (h:Q (.ref ↑1) {s with heap:=s.heap.push {cls:=.type "tuple",data:=.seq ((items.toList.drop (sIx items.size 0 lo)).take (sIx items.size items.size hi - sIx items.size 0 lo)).toArray}})
  (hsz:items.size<=sizeLine):wpAny (model prog w) A (getItem (.ref t) (.ref sl)) Q E s:=by
 have a:sizeOk (.seq ((items.toList.drop (sIx items.size 0 lo)).take (sIx items.size items.size hi - sIx items.size 0 lo)).toArray):=by show((items.toList.drop _).take _).toArray.size<=sizeLine;rw[sA0,lT,ó,ä];omega
 obtain⟨m,c,i,k⟩:=id hs;have e:s.TypeIs (.ref sl) "slice":=⟨m,c,i⟩
 unfold getItem
 try with_reducible refine Ă ?_
 first |refine wB _|skip
 refine wB (wpAny_sequenceKey b.typeIs ↑4 ?_)
 refine wB (û b.typeIs ĩ
  (ö ĩ b.typeIs entry_tuple_getitem ?_ (args_tuple_getitem _ _)))
 show wpAny _ _ (Builtin.Tuple.tupleItemsOf _ >>= _) _ _ s;refine wB (tupleItemsOf_ b ?_);refine wB (ħ e ?_);refine wB (sliceApplied_gen hs n j ?_);have d: ¬((((sIx items.size 0 lo:Nat):Int)==0&&(1:Int)==1&&(sIx items.size items.size hi - sIx items.size 0 lo)==items.size)=true):=by intro q;rw[aE,aE]at q;have p:(_:Int)=0:=eq_of_beq q.1.1;have o:=eq_of_beq q.2;exact hw ⟨by omega,by omega⟩
 show wpAny _ _ (if _=true then _ else _) _ _ s;rw[iN d,Fz]
 first
  |exact wB (ÿ (wP ⟨_,rfl,wP h⟩) a)
  |exact wB _
  |exact wB _
  |exact wB _
end
end HT
namespace L2
open PySem PySem.Spec PyProof.Rows
abbrev TO:=St->Hp->(Option Int->Hp->Prop)->Prop
def PO(X:Cx)(e:Option Expr)(t:TO):Prop:=
 ∀(pins:M0)(s:Ŗ)(σ:St)(H:Hp)(Q:Option Int->Hp->Prop),Inv X pins σ H s->t σ H Q->
  wpAny ↑5 X.A (evalPart e X.env) (λu a=> ∃o H',Inv X pins σ H' a/\IsPart u o/\Q o H') X.xe s
def Me:TO:=λ_ H Q=>Q none H
def P2(t:TE):TO:=λσ H Q=>t σ H λx a=> ∃i,x=.int i/\Q (some i) a
section
variable{lo hi:Option Expr}{p2:Pos}
def Mg(h:PE X e te):PO X (some e) (P2 te):=by intro pins s σ H Q I hw;refine jU (h pins s σ H _ I hw) λu d ⟨x,c,I1,b,a⟩=>?_;obtain⟨i,rfl,q⟩:=a;obtain⟨t,rfl⟩:=b;exact⟨_,c,I1,.int i t,q⟩
def SlR(X:Cx)(r:V->Option Int->Option Int->Hp->VK->Prop):Prop:=
 ∀(pins:M0)(s:Ŗ)(σ:St)(H:Hp)(x:V)(v b a:ŗ)(lo hi:O0)(sl:Addr)(Q:VK),Inv X pins σ H s->RelV x v->s.heap.IsSliceOf sl b a .none->IsPart b lo->IsPart a hi->r x lo hi H Q->
  ∃T id,typeLookup (.type T) "__getitem__"=pure (some (.builtin id))/\s.TypeIs v T/\wpAny ↑5 X.A (getItem v (.ref sl)) (EP X pins σ Q) X.xe s
def SlR.or(h:SlR X r)(h':SlR X r'):SlR X (λx lo hi H Q=>r x lo hi H Q\/r' x lo hi H Q):=by
 intro pins s σ H x v b a lo hi sl Q I c hs e d q;rcases q with q|q
 .exact h pins s σ H x v b a lo hi sl Q I c hs e d q
 .exact h' pins s σ H x v b a lo hi sl Q I c hs e d q
def tSl(r:V->Option Int->Option Int->Hp->VK->Prop)(c:TE)(a th:TO):TE:=λσ H Q=>c σ H λx b=>a σ b λl d=>th σ d λu e=>r x l u e Q
def Ga(E:SlR X r)(w:PE X e te)(p:PO X lo tl)(m:PO X hi th):PE X (.Subscript e (.Slice lo hi none p2) pos) (tSl r te tl th):=by intro pins s σ H Q I h;refine Subscript_ (jU (w pins s σ H _ I h) λv L ⟨x,o,I1,k,j⟩=>?_);refine wpAny_Slice (jU (p pins L σ o _ I1 j) λd F ⟨l,y,D,M,B⟩=>jU (m pins F σ y _ D B) λc a ⟨u,z,J,n,K⟩=>?_);refine wP ?_;obtain⟨T,id,C,i,G⟩:=E pins {a with heap:=a.heap.push {cls:=.type "slice",data:=.fields #[d,c,.none]}} σ z x v d c l u a.heap.objs.size Q (J.kept λb ob q=>hP0 _ q) k (Heap.IsSliceOf.new ..) M n K;show wpAny _ X.A _ _ X.xe {a with heap:=a.heap.push {cls:=.type "slice",data:=.fields #[d,c,.none]}};exact tail_any i C G (by with_unfolding_all rfl)
def Bz(xs:List V)(lo hi:O0):List V:=(xs.drop (HT.sIx xs.length 0 lo)).take (HT.sIx xs.length xs.length hi - HT.sIx xs.length 0 lo)
theorem EH(xs)(lo hi):(Bz xs lo hi).length<=xs.length:=by
 unfold Bz;rw[lT,ó]
 lia
def rSlT(K:Q0):V->Option Int->Option Int->Hp->VK->Prop:=λx lo hi H Q=> ∃a xs,x=.ref a/\SqT K H a xs/\
 ¬(HT.sIx xs.length 0 lo=0/\HT.sIx xs.length xs.length hi=xs.length)/\ ∀p,H p=none->Q (.ref p) (wG H p (.tup (Bz xs lo hi)))
def Wf:SlR X (rSlT X.K):=by
 intro pins s σ H x v p o lo hi sl Q I k hs n m h;obtain⟨a,xs,rfl,j,hw,q⟩:=h;cases k;obtain⟨d,r,e,i⟩:=I.tuple j;have c:d.toArray.size=xs.length:=by rw[sA0];exact r.length.symm
 refine⟨_,_,PyProof.Rows.slot_tuple_getitem.lookup,e.typeIs,?_⟩;refine HT.getItem_tuple_cut e hs n m (by rw[c];exact hw) ?_ (by rw[c];exact i);rw[c];refine⟨.ref ↑1,_,I.laid (λb ob q=>hP0 _ q) (à _) ?_,rfl,q _ (I.hok.fresh (à _))⟩;exact⟨ï (EH xs lo hi) i,_,(r.drop _).take _,IsTup.new _ _⟩
def P4(K:Q0):R2:=λx y H Q=> ∃a b xs c,x=.ref a/\y=.ref b/\SqT K H a xs/\SqT K H b c/\xs≠[]/\xs.length+c.length<=sizeLine/\
 (c=[]->Q (.ref a) H)/\(c≠[]-> ∀p,H p=none->Q (.ref p) (wG H p (.tup (xs++c))))
def Vals.nil_iff(r:Vals xs us):us=[]↔xs=[]:=by
 cases r with
 |nil=>simp
 |cons _ _=>simp
def Mh:OpR X (binaryOp .Add) (P4 X.K):=by intro pins s σ H x y v u Q I p o h;obtain⟨a,b,xs,B,rfl,rfl,r,A,j,e,k,n⟩:=h;cases p;cases o;obtain⟨m,d,p1,_⟩:=I.tuple r;obtain⟨i,c,p2,_⟩:=I.tuple A;refine HT.cat_tup p1 p2 (λz=>j (d.nil_iff.mp z)) (λz=>⟨.ref a,H,I,rfl,k (c.nil_iff.mp z)⟩) (λz=>?_) (by rw[<-d.length, <-c.length];exact e);refine⟨.ref ↑1,_,I.laid (λb ob q=>hP0 _ q) (à _) ?_,rfl,n (λw=>z (c.nil_iff.mpr w)) _ (I.hok.fresh (à _))⟩;exact⟨by rw[lA];exact e,_,d.append c,IsTup.new _ _⟩
end
noncomputable def RJ(n:Nat)(i:Int):Option Nat:=if 0<=i then(if i<n then some i.toNat else none)else if -(n:Int)<=i then some (i+n).toNat else none
def qN{α:Type}(xs:List α)(i:Int):Option α:=(RJ xs.length i).bind λj=>xs[j]?
theorem YG(h:RJ n i=some j):seqIndex? i n=some j/\j<n/\ - n <=i/\i<n:=by
 unfold RJ at h;by_cases b:0<=i
 .rw[iP b]at h;by_cases a:i<n
  .rw[iP a]at h;exact⟨by rw[seqIndex_of b a,(ã h)],by lia,by lia,a⟩
  .rw[iN a]at h;cases h
 .rw[iN b]at h;by_cases a: -(n:Int)<=i
  .rw[iP a]at h;exact⟨by rw[seqIndex_neg #[0] a,(ã h)],by lia,a,by lia⟩
  .rw[iN a]at h;cases h
def NQ(h:qN xs i=some v): ∃j,seqIndex? i xs.length=some j/\xs[j]? =some v/\j<xs.length/\ - xs.length <=i/\i<xs.length:=by
 unfold qN at h
 cases e:RJ xs.length i with
 |none=>rw[e]at h;cases h
 |some j=>
  rw[e]at h;obtain⟨d,b,a,c⟩:=YG e;exact⟨j,d,h,b,a,c⟩
def NS(b:Expr):Prop:= ∀o i,subscripted b false o i=operate [o,i] (getItem o i)
def IxR(X:Cx)(r:R2):Prop:=
 ∀(b a:Expr)(pins:M0)(s:Ŗ)(σ:St)(H:Hp)(x y:V)(v u:ŗ)(Q:VK),Inv X pins σ H s->RelV x v->RelV y u->r x y H Q->
  subscripted a false v u=operate [v,u] (getItem v u)->wpAny ↑5 X.A (subscriptTail b a v u) (EP X pins σ Q) X.xe s
def Wg(X:Cx)(id:String)(r:V->List V->Hp->VK->Prop):Prop:=
 ∀(pins:M0)(s:Ŗ)(σ:St)(H:Hp)(x:V)(xs:List V)(v:ŗ)(a:A0)(Q:VK),Inv X pins σ H s->RelV x v->Vals xs a->r x xs H Q->
  wpAny ↑5 X.A (call (.builtin id) (v::a)) (EP X pins σ Q) X.xe s
section
variable{a b:Expr}
def IxR.or(h:IxR X r)(h':IxR X r'):IxR X (λx y H Q=>r x y H Q\/r' x y H Q):=by
 intro a b pins s σ H x y v u Q I d c q hs;rcases q with q|q
 .exact h a b pins s σ H x y v u Q I d c q hs
 .exact h' a b pins s σ H x y v u Q I d c q hs
def P8(K:Q0):R2:=λx y H Q=> ∃p xs i v,x=.ref p/\y=.int i/\SqL K H p xs/\qN xs i=some v/\Q v H
def P9(K:Q0):R2:=λx y H Q=> ∃p xs i v,x=.ref p/\y=.int i/\SqT K H p xs/\qN xs i=some v/\Q v H
def Q1:R2:=λx y H Q=> ∃z i c,x=.str z/\y=.int i/\z.length<=sizeLine/\qN z.cps.toList i=some c/\Q (.str ⟨#[c]⟩) H
theorem Mi:IxR X (P8 X.K):=by
 intro d e pins s σ H x y v u Q I J E h hs;obtain⟨p,xs,i,z,rfl,rfl,A,B,q⟩:=h;cases J;obtain⟨t,rfl⟩:=E;obtain⟨b,r,m,M⟩:=I.list A;obtain⟨j,a,D,N,F,G⟩:=NQ B;obtain⟨w,o,c⟩:=r.get D;have C:=r.length;have L:=CI;have fin:EP X pins σ Q w s:=⟨z,H,I,c,q⟩
 by_cases n:0<=i
 .have k:=by rw[seqIndex_of n G]at a;exact ã a
  exact item_listR m.isList n #[0] (by rw[k];simpa using o) fin hs
 .have k:(i+(b.toArray.size:Int)).toNat=j:=by rw[seqIndex_neg #[0] F]at a;rw[sA0, <-C];exact ã a
  exact subscriptTail_builtinR m.isList.typeIs slot_list_getitem.lookup
   (wpAny_getItem_list_neg m.isList #[0] (by rw[sA0]<;>lia) #[0] (by rw[k];simpa using o) ⟨rfl,fin⟩) hs
theorem ix_tup:IxR X (P9 X.K):=by
 intro b c pins s σ H x y v u Q I C A h hs;obtain⟨p,xs,i,z,rfl,rfl,k,n,q⟩:=h;cases C;obtain⟨t,rfl⟩:=A;obtain⟨m,r,d,E⟩:=I.tuple k;obtain⟨j,e,o,F,G,J⟩:=NQ n;obtain⟨w,B,a⟩:=r.get o;have D:=CI
 exact subscriptTail_builtinR d.typeIs slot_tuple_getitem.lookup
  (getItem_tuple d #[0] #[0] (by rw[sA0, <-(r.length)];exact e) (by simpa using B) ⟨rfl,(⟨z,H,I,a,q⟩)⟩) hs
theorem ix_str:IxR X Q1:=by
 intro a b pins s σ H x y v u Q I r n h hs;obtain⟨z,i,c,rfl,rfl,A,e,q⟩:=h;obtain⟨t,rfl⟩:=r;obtain⟨C,rfl⟩:=n;obtain⟨j,d,m,B,o,p⟩:=NQ e;have k:z.cps.toList.length=z.length:=by simp[Str.length]
 rw[k]at d o p;have w:=CI;exact tail_any (typeIs_str s z t) slot_str_getitem.lookup (getItem_str (by rw[(dF0 #[0]),(dF0 #[0]),Bool.or_false]) (by rw[d];simpa using m) ⟨.str ⟨#[c]⟩,H,I.tok _,⟨_,rfl⟩,q⟩) hs
def rIx(K:Q0):R2:=λx y H Q=>P8 K x y H Q\/P9 K x y H Q\/Q1 x y H Q
def VN(its:A0)(n j)(u):Obj.mapSeq (·.setIfInBounds j u) {cls:=.type "list",data:=.seq its.toArray n}={cls:=.type "list",data:=.seq (its.set j u).toArray n}:=by simp[Obj.mapSeq]
def Inv.lst(I:↑2)(h:H p=some (.lst xs)):
  ∃(its:A0)(n:Nat),Vals xs its/\s.heap.get? p=some {cls:=.type "list",data:=.seq its.toArray n}/\xs.length<=sizeLine:=by
 obtain⟨z,its,n,r,e⟩:=I.hok p _ h;exact⟨its,n,r,e,z⟩
def Inv.lstUpd{its:A0}(I:↑2)(h:H p=some (.lst xs))
  (ho:s.heap.get? p=some {cls:=.type "list",data:=.seq its.toArray n}) (hf:f {cls:=.type "list",data:=.seq its.toArray n}={cls:=.type "list",data:=.seq its'.toArray n'}) (r:Vals ys its') (hz:ys.length<=sizeLine) (t):
  Inv X pins σ (wG H p (.lst ys)) {s with heap:=s.heap.update p f,toks:=t}:=by
 have e:(s.heap.update p f).get? p=some {cls:=.type "list",data:=.seq its'.toArray n'}:=by rw[ø f ho (by rw[hf]<;>rfl),hf]
 refine I.write (by rw[h];trivial) (.inl rfl) (λb u a q=>(õ _ _ (Ne.symm a)).trans q) ⟨_,e⟩ ?_;exact⟨hz,its',n',r,e⟩
def Q2:V->V->V->Hp->(Hp->Prop)->Prop:=λo i v H Q=> ∃p xs k j,o=.ref p/\i=.int k/\H p=some (.lst xs)/\RJ xs.length k=some j/\Q (wG H p (.lst (xs.set j v)))
theorem NT(lo hi)(n):(sliceBounds lo hi none n).1=((HT.sIx n 0 lo:Nat))/\(sliceBounds lo hi none n).2.1=((HT.sIx n n hi:Nat))/\(sliceBounds lo hi none n).2.2=1:=by
 refine⟨?_,?_,rfl⟩
 .cases lo with
  |none=>simp[sliceBounds,HT.sIx]
  |some i=>
   simp only[sliceBounds,HT.sIx,Option.getD_none,if_true];by_cases h:i<0
   .simp only[h,if_true]<;>lia
   .simp only[h,iF]<;>lia
 .cases hi with
  |none=>simp[sliceBounds,HT.sIx]
  |some i=>
   simp only[sliceBounds,HT.sIx,Option.getD_none,if_true];by_cases h:i<0
   .simp only[h,if_true]<;>lia
   .simp only[h,iF]<;>lia
theorem KQ(its:A0)(lo hi):slicePick its.toArray lo hi none=((its.drop (HT.sIx its.length 0 lo)).take (HT.sIx its.length its.length hi - HT.sIx its.length 0 lo)).toArray:=by obtain⟨a,c,b⟩:=NT lo hi its.toArray.size;unfold slicePick;rw[a,c,b];simp only[sliceRange_one,pick_run]<;>rfl
def rSlL(K:Q0):V->Option Int->Option Int->Hp->VK->Prop:=λx lo hi H Q=> ∃a xs,x=.ref a/\SqL K H a xs/\ ∀p,H p=none->Q (.ref p) (wG H p (.lst (Bz xs lo hi)))
theorem Mj:SlR X (rSlL X.K):=by intro pins s σ H x v p o lo hi sl Q I j hs n m h;obtain⟨a,xs,rfl,e,q⟩:=h;cases j;obtain⟨k,r,d,i⟩:=I.list e;have c:=r.length;refine⟨_,_,slot_list_getitem.lookup,d.isList.typeIs,?_⟩;refine wpAny_getItem_list_slice d.isList hs n m .none (by simp) ?_ (by rw[sA0]<;>lia);rw[KQ, <-c];refine⟨.ref ↑1,_,I.laid (λb ob q=>hP0 _ q) (à _) ?_,rfl,q _ (I.hok.fresh (à _))⟩;exact⟨ï (EH xs lo hi) i,_,0,(r.drop _).take _,å _ rfl⟩
noncomputable def pS:V->Bool
 |.non=>true
 |.bl _=>true
 |.int _=>true
 |.str _=>true
 |_=>false
noncomputable def eqV:V->V->Bool
 |.non,.non=>true
 |.bl a,.bl b=>a==b
 |.bl a,.int b=>(if a then 1 else 0)==b
 |.int a,.bl b=>a==(if b then 1 else 0)
 |.int a,.int b=>a==b
 |.str a,.str b=>a==b
 |_,_=>false
def Wi(h:RelV y u)(c:RelV x v)(i:pS y=true)(e:pS x=true):SeqAt.EqAt A s u v (eqV y x):=by
 cases y with
 |non=>
  cases h
  cases x with
  |non=>cases c;exact SeqAt.EqAt.same _
  |bl b=>cases c;exact SeqAt.EqAt.none_bool b
  |int b=>obtain⟨t,rfl⟩:=c;exact SeqAt.EqAt.none_int b t
  |str b=>obtain⟨t,rfl⟩:=c;exact SeqAt.EqAt.none_str b t
  |_=>exact absurd e xF0
 |bl a=>
  cases h
  cases x with
  |non=>cases c;exact SeqAt.EqAt.bool_none a
  |bl b=>cases c;exact SeqAt.EqAt.bool_bool a b
  |int b=>obtain⟨t,rfl⟩:=c;exact SeqAt.EqAt.bool_int a b t
  |str b=>obtain⟨t,rfl⟩:=c;exact SeqAt.EqAt.bool_str a b t
  |_=>exact absurd e xF0
 |int a=>
  obtain⟨d,rfl⟩:=h
  cases x with
  |non=>cases c;exact SeqAt.EqAt.int_none a d
  |bl b=>cases c;exact SeqAt.EqAt.int_bool a d b
  |int b=>obtain⟨t,rfl⟩:=c;exact SeqAt.EqAt.int_int a d b t
  |str b=>obtain⟨t,rfl⟩:=c;exact SeqAt.EqAt.int_str a d b t
  |_=>exact absurd e xF0
 |str a=>
  obtain⟨d,rfl⟩:=h
  cases x with
  |non=>cases c;exact SeqAt.EqAt.str_none a d
  |bl b=>cases c;exact SeqAt.EqAt.str_bool a d b
  |int b=>obtain⟨t,rfl⟩:=c;exact SeqAt.EqAt.str_int a d b t
  |str b=>obtain⟨t,rfl⟩:=c;exact SeqAt.EqAt.str_str a d b t
  |_=>exact absurd e xF0
 |_=>exact absurd i xF0
theorem NV:CallR X (.builtin "len") (λxs H Q=> ∃z,xs=[.str z]/\z.length<=sizeLine/\Q (.int z.length) H):=by intro pins s σ H xs b Q I r h;obtain⟨z,rfl,c,q⟩:=h;obtain⟨u,rfl,t,rfl⟩:=vals1 r;have a:=CI;exact len_str #[0] ⟨.int z.length,H,I.tok _,⟨_,rfl⟩,q⟩
def CallR.or(h:CallR X f r)(h':CallR X f r'):CallR X f (λxs H Q=>r xs H Q\/r' xs H Q):=by
 intro pins s σ H xs a Q I b q;rcases q with q|q
 .exact h pins s σ H xs a Q I b q
 .exact h' pins s σ H xs a Q I b q
theorem NW:CallR X (.type "list") (λxs H Q=> ∃p d,xs=[.ref p]/\(SqL X.K H p d\/SqT X.K H p d)/\ ∀l,H l=none->Q (.ref l) (wG H l (.lst d))):=by
 intro pins s σ H xs B Q I r h;obtain⟨p,d,rfl,i,q⟩:=h;obtain⟨u,rfl,A⟩:=vals1 r;cases A
 have fin: ∀(its:A0),Vals d its->d.length<=sizeLine-> ∀(h':Heap)(a:Nat),_->
   h'.get? ↑1=some {cls:=.type "list",dict:=none,data:=.seq its.toArray a,slots:=#[]}->EP X pins σ Q _ {s with heap:=h'}:=λits b c h' a j e=>
  ⟨.ref ↑1,_,I.laid j (à _) (show ObjOk X.prog X.w _ h' _ (.lst d)from⟨c,its,a,b,e⟩),rfl,q _ (I.hok.fresh (à _))⟩
 rcases i with i|i
 .obtain⟨its,b,z,c⟩:=I.list i;have k:=b.length;obtain⟨o,v,m,n,y⟩:=z.isList;exact call_list_seq p (.inl rfl) v m y (λh' a j e=>fin its b c h' a j e) (by simp only[sA0]<;>lia)
 .obtain⟨its,b,z,c⟩:=I.tuple i;have k:=b.length;obtain⟨o,v,m,n,y⟩:=z;exact call_list_seq p (.inr rfl) v m y (λh' a j e=>fin its b c h' a j e) (by simp only[sA0]<;>lia)
theorem KR:CallR X (.type "tuple") (λxs H Q=> ∃p d,xs=[.ref p]/\((SqL X.K H p d/\ ∀l,H l=none->Q (.ref l) (wG H l (.tup d)))\/(SqT X.K H p d/\Q (.ref p) H))):=by
 intro pins s σ H xs w Q I r h;obtain⟨p,d,rfl,h⟩:=h;obtain⟨u,rfl,v⟩:=vals1 r;cases v;rcases h with⟨hq,q⟩|⟨hq,q⟩
 .obtain⟨a,c,i,j⟩:=I.list hq;have k:=c.length;refine call_tuple_list i.isList (λh' n=>?_) (by simp only[sA0]<;>lia);have I1:Inv X pins σ H {s with heap:=h'}:=I.kept n
  have m:Inv X pins σ (wG H h'.objs.size (.tup d)) {s with heap:=h'.push {cls:=.type "tuple",data:=.seq a.toArray}}:=
   I1.laid (λb o e=>hP0 _ e) (à _) (⟨j,a,c,IsTup.new _ _⟩)
  exact⟨.ref h'.objs.size,_,m,rfl,q _ (I1.hok.fresh (à _))⟩
 .obtain⟨a,c,i,j⟩:=I.tuple hq;exact call_tuple_same i ⟨.ref p,H,I,rfl,q⟩
def Z8(K:Q0)(T:String)(x:V)(H:Hp):Prop:=match x with
 |.str _=>T="str"
 |.int _=>T="int"
 |.ref p=>(T="list"/\ ∃xs,SqL K H p xs)\/(T="tuple"/\ ∃o,K.lookup p=some o/\o.cls=.type "tuple"/\o.dict=none)\/
   (T="dict"/\((∃a,H p=some (.dK a))\/ ∃a,H p=some (.dT a)))\/(T="set"/\ ∃S n,H p=some (.set S n))
 |_=>False
def Gb(I:↑2)(r:RelV x v)(d:Z8 X.K T x H):
  s.TypeIs v T/\ ∀a,v=.ref a-> ∃ob,s.heap.get? a=some ob/\ob.dict=none:=by
 cases x with
 |str z=>
  obtain⟨t,rfl⟩:=r;cases d;exact⟨typeIs_str s z t,λ_ e=>nomatch e⟩
 |int i=>
  obtain⟨t,rfl⟩:=r;cases d;exact⟨typeIs_int s i t,λ_ e=>nomatch e⟩
 |ref p=>
  cases r;rcases d with⟨rfl,xs,hq⟩|⟨rfl,o,hk,hc,h⟩|⟨rfl,hk⟩|⟨rfl,S,n,hk⟩
  .obtain⟨m,_,k,_⟩:=I.list hq;refine⟨k.isList.typeIs,λa e=>?_⟩;cases e;obtain⟨o,n,e,c,h,_⟩:=k;exact⟨o,e,h⟩
  .refine⟨⟨o,I.kIn p o hk,hc⟩,λa e=>?_⟩;cases e;exact⟨o,I.kIn _ o hk,h⟩
  .have z: ∃o,s.heap.get? p=some o/\o.ExactDict:=by
    rcases hk with⟨kvs,hk⟩|⟨kvs,hk⟩
    .obtain⟨_,_,_,_,o,_,_,e,b,_⟩:=I.hok p _ hk;exact⟨o,e,b⟩
    .obtain⟨_,_,_,_,o,_,_,e,b,_⟩:=I.hok p _ hk;exact⟨o,e,b⟩
   obtain⟨o,e,b⟩:=z;refine⟨⟨o,e,b.1⟩,λa j=>?_⟩;cases j;exact⟨o,e,b.2.1⟩
  .obtain⟨o,_,_,_,e,b,_⟩:=I.hok p _ hk;refine⟨⟨o,e,b.1⟩,λa j=>?_⟩;cases j;exact⟨o,e,b.2.1⟩
 |_=>exact False.elim d
def tBM0(K:Q0)(T:String)(r:V->List V->Hp->VK->Prop)(to:TE):TE:=λσ H Q=>to σ H λx a=>Z8 K T x a/\r x [] a Q
def tBM(K:Q0)(T:String)(r:V->List V->Hp->VK->Prop)(to:TE)(t:TA):TE:=λσ H Q=>to σ H λx a=>Z8 K T x a/\t σ a λxs b=>r x xs b Q
variable{apos cpos:Pos}{id:String}
def Wj(j:PlainAttrs T)(a:Slot T name id)(b:typeOf (.builtin id)=pure (.type "method_descriptor"))(q:Wg X id r)(p:PE X o to)
  (hbase:attributeBase o name X.env (eval o X.env)=eval o X.env:=by rfl) (hline:(apos.endLine==cpos.line)=true:=by rfl):PE X (.Call (.Attribute o name apos) [] [] cpos) (tBM0 X.K T r to):=by
 intro pins s σ H Q I h;refine wpAny_Call_method0_late hbase hline (jU (p pins s σ H _ I h) λv n ⟨x,m,I1,c,e,i⟩=>?_);obtain⟨k,d⟩:=Gb I1 c e;exact⟨T,id,j,a,b,k,d,Calls.callWith_builtin rfl (PySem.evalArgs_none (q pins n σ m x [] v [] Q I1 c .nil i))⟩
def Q3(u:PlainAttrs T)(a:Slot T name id)(b:typeOf (.builtin id)=pure (.type "method_descriptor"))(F:Wg X id r)(D:PE X o to)(A:PA X (e::es) t)
  (hbase:attributeBase o name X.env (eval o X.env)=eval o X.env:=by rfl)
  (hfew:((backTo cpos (starEach (e::es) X.env)).all (λx=>!x.1)&&(backToKw cpos (keywordEach [] X.env)).all (λx=>x.1.isSome)
   &&decide ((e::es).length+([]:List Keyword).length+(if([]:List Keyword).isEmpty then 0 else 1)<30))=true:=by rfl)
  (hline:(apos.endLine==cpos.line)=true:=by rfl) (hs:q8 X e es:=by rfl) (hplain:(backTo cpos (starEach es X.env)).any (·.1)=false:=by rfl):
  PE X (.Call (.Attribute o name apos) (e::es) [] cpos) (tBM X.K T r to t):=by
 intro pins s σ H Q I h;refine wpAny_Call_method_late hbase hfew hline rfl (jU (D pins s σ H _ I h) λv B ⟨x,z,I1,c,p,n⟩=>?_);obtain⟨w,j⟩:=Gb I1 c p;refine⟨T,id,u,a,b,w,j,?_⟩;have d:=A cpos pins B σ z _ I1 n;rw[hs]at d ⊢;refine Calls.callWith_builtin (by show(false || (backTo cpos _).any (·.1))=false;rw[hplain]<;>rfl) (Calls.evalArgs_plain ?_);exact jU d λk y ⟨m,E,q,C,i⟩=>F pins y σ E x m v k Q q c C i
end
def MtM(X:Cx)(id:String)(r:V->List V->Hp->VK->Prop):Prop:=
 ∀(pins:M0)(s:Ŗ)(σ:St)(H:Hp)(x:V)(xs:List V)(v:ŗ)(a:A0)(Q:VK),Inv X pins σ H s->RelV x v->Vals xs a->r x xs H Q->
  wpAny ↑5 X.A (call (.builtin id) (v::a)) (EP X pins σ Q) X.xe s
def Vals.one: ∀{x}{d},Vals [x] d-> ∃u,d=[u]/\RelV x u
 |_,_,.cons r .nil=>⟨_,rfl,r⟩
theorem Vals.zero: ∀{d},Vals [] d->d=[]
 |_,.nil=>rfl
def Vals.reverse(h:Vals xs us):Vals xs.reverse us.reverse:=by
 induction h with
 |nil=>exact .nil
 |cons r t ih=>rw[reverse_cons,reverse_cons];exact Vals.append ih (.cons r .nil)
theorem Vals.rep(h:Vals xs us): ∀k:Nat,Vals (List.replicate k xs).flatten (List.replicate k us).flatten
 |0=>.nil
 |k+1=>by exact Vals.append h (Vals.rep h k)
theorem foldl_rep(its): ∀ k (d:A0),
  List.foldl (λj m=>j++m) d.toArray (List.replicate k its.toArray)=(d++(List.replicate k its).flatten).toArray
 |0,d=>by simp
 |k+1,d=>by
  have e:d.toArray++its.toArray=(d++its).toArray:=by simp
  have a:(d++its)++(List.replicate k its).flatten=d++(List.replicate (k+1) its).flatten:=by rw[ŕ,flatten_cons,aA]
  rw[<-a, <-foldl_rep its k _, <-e,ŕ,ĥ]
section
def Inv.lset{its:A0}(I:↑2)(b:H l=some (.lst xs))
  (e:s.heap.get? l=some {cls:=.type "list",data:=.seq its.toArray n}) (hf:f its.toArray=its'.toArray) (hv:Vals ys its') (hz:ys.length<=sizeLine):
  Inv X pins σ (wG H l (.lst ys)) {s with heap:=s.heap.update l (Obj.mapSeq f),toks:=t'}:=by
 have q:=PySem.IsL.update e f;rw[hf]at q;refine I.write (by rw[b];exact trivial) (.inl rfl) (λd u a c=>(õ s.heap _ (Ne.symm a)).trans c) ⟨_,q⟩ ?_;exact⟨hz,its',_,hv,q⟩
def Inv.lnew(I:↑2)(a:Vals ys its)(hz:ys.length<=sizeLine):
  Inv X pins σ (wG H ↑1 (.lst ys)) {s with heap:=s.heap.push {cls:=.type "list",data:=.seq its.toArray},toks:=t'}:=
 I.laid (λ_ _ q=>hP0 _ q) (à _) ⟨hz,its,0,a,å _ rfl⟩
def Inv.fresh(I:↑2):H ↑1=none:=I.hok.fresh (à _)
def Inv.lstM(I:↑2)(a:H l=some (.lst xs)):xs.length<=sizeLine/\ ∃(its:A0)(n:Nat),Vals xs its/\xs.length=its.length/\s.heap.get? l=some {cls:=.type "list",data:=.seq its.toArray n}:=by obtain⟨z,its,n,r,e⟩:=I.hok l _ a;exact⟨z,its,n,r,r.length,e⟩
theorem RK(h:n<=sizeLine):Builtin.List.listTooLong n=false:=by exact dF0 #[0]
end
section
def YH:V->List V->Hp->VK->Prop:=λx a H Q=> ∃l xs y,x=.ref l/\a=[y]/\H l=some (.lst xs)/\xs.length<sizeLine/\Q .non (wG H l (.lst (xs++[y])))
def YI:V->List V->Hp->VK->Prop:=λx c H Q=> ∃l b xs a,x=.ref l/\c=[.ref b]/\H l=some (.lst xs)/\H b=some (.lst a)/\xs.length+a.length<=sizeLine/\Q .non (wG H l (.lst (xs++a)))
def RL:V->List V->Hp->VK->Prop:=λx a H Q=> ∃l xs,x=.ref l/\a=[]/\H l=some (.lst xs)/\Q .non (wG H l (.lst xs.reverse))
def rCat:R2:=λx y H Q=> ∃l b xs a,x=.ref l/\y=.ref b/\H l=some (.lst xs)/\H b=some (.lst a)/\xs.length+a.length<=sizeLine/\ ∀p,H p=none->Q (.ref p) (wG H p (.lst (xs++a)))
theorem Wm:OpR X (binaryOp .Add) rCat:=by
 intro pins s σ H x y v u Q I p o h;obtain⟨l,b,xs,B,rfl,rfl,j,k,A,q⟩:=h;cases p;cases o;obtain⟨z,c,n,r,C,e⟩:=I.lstM j;obtain⟨E,a,D,w,d,m⟩:=I.lstM k;refine PySem.P.add_list e m ?_ (by rw[sA0,sA0];lia);have i:c.toArray++a.toArray=(c++a).toArray:=by simp
 rw[i];exact⟨.ref _,_,I.lnew (r.append w) (by rw[lA];lia),rfl,q _ I.fresh⟩
def rRep:R2:=λx y H Q=> ∃l k xs,x=.ref l/\y=.int k/\H l=some (.lst xs)/\ -(2 ^ 63)<=k/\k<2 ^ 63/\xs.length * k.toNat<=sizeLine/\
 ∀p,H p=none->Q (.ref p) (wG H p (.lst (List.replicate k.toNat xs).flatten))
def len_rep{α:Type}(xs:List α)(k):(List.replicate k xs).flatten.length=k * xs.length:=by
 induction k with
 |zero=>simp
 |succ k ih=>rw[ŕ,flatten_cons,lA,ih,Nat.succ_mul,add_comm]
theorem Wn:OpR X (binaryOp .Mult) rRep:=by
 intro pins s σ H x y v u Q I K J h;obtain⟨l,k,xs,rfl,rfl,C,B,G,A,q⟩:=h;cases K;obtain⟨t,rfl⟩:=J;obtain⟨z,b,n,r,D,e⟩:=I.lstM C;have j:b.toArray.size * k.toNat<=sizeLine:=by rw[sA0, <-D];exact A
 have d: ¬b.toArray.size * k.toNat>(2 ^ 63 - 1) / 8:=by
  have:(sizeLine:Nat)<=(2 ^ 63 - 1) / 8:=by decide
  lia
 have i: ¬(!Builtin.List.listFitsIndex k)=true:=by rw[fitsIndex_both B G];exact xF0
 have c: ¬Builtin.List.listTooLong (b.toArray.size * k.toNat)=true:=by rw[RK j];exact xF0
 have o:List.foldl (λw p=>w++p) #[] (List.replicate (if b.toArray.isEmpty=true then 0 else k.toNat) b.toArray)=(List.replicate k.toNat b).flatten.toArray:=by
  have L: ∀m:Nat,List.foldl (λw p=>w++p) #[] _=(List.replicate m b).flatten.toArray:=λm=>by have:=foldl_rep b m [];exact this
  rw[L]
  cases b with
  |nil=>simp
  |cons a r'=>rw[iN (by simp)]
 refine wpAny_binaryOp_repeat_ref ↑4 ⟨_,e,rfl⟩ (λE=>typeIs_int E k t) noFill_list_mul F.fills_int_mul F.slot_int_rmul repeat_list F.slot_int_index.lookup
  (call_meets F.slot_int_rmul (typeIs_int s k t) F.entry_int_rmul (F.args_int_rmul_2 _ _) (int___rmul___int_list k t l b.toArray n)
   ⟨e,rfl,⟨_,e,rfl⟩,call_meets F.slot_list_mul ⟨_,e,rfl⟩ F.entry_list_mul (F.args_list_mul_2 _ _) (AutoListH.list___mul___list_int_3 l b.toArray n k t i d c) ⟨e,?_⟩⟩)
 rw[o];exact⟨.ref _,_,I.lnew (r.rep k.toNat) (by rw[len_rep,Nat.mul_comm];exact A),rfl,q _ I.fresh⟩
end
end L2
namespace Att
open PySem PySem.W PySem.Calls PyProof.Rows
def FM: ∀ ns  vs ,WellAll P h vs (ns.map WData.int)->IntsAre vs ns:=by
 intro ns
 induction ns with
 |nil=>
  intro vs w;cases w;exact .nil
 |cons n ns ih=>
  intro vs w
  cases w with
  |cons a b=>
   cases a;exact .cons _ _ (ih _ b)
theorem Cc{l:OpenLaw}(k:l.most=some n)
  (hpre:l.row.toRowW.claim.pre args=true) (hwl:WellAll P h vals args):
  ∃a vs ns,vals=[Value.ref a]/\args=[WData.list (ns.map WData.int)]/\h.get? a=some {cls:=.type "list",data:=.seq vs.toArray}/\IntsAre vs ns/\ns.length<=n:=by
 have i:=(pre_splitW hpre).1;have s:l.pre.holds [] {args:=args}=true:=(pre_splitW hpre).2;obtain⟨d,r,rfl,o,j⟩:=hasAllW_cons i;obtain rfl:=hasAllW_nil j;obtain⟨xs,rfl,m⟩:=hasW_list o;obtain⟨ns,rfl⟩:=items_int m
 have b:ns.length<=n:=by
  have c:=by have c:=(holds_andW s).1;rw[k]at c;exact c
  have e:=condW_of c (w_not (w_lt w_lit (w_len_list (w_arg rfl))));refine le_of_not_lt λq=>?_;have p:=by omega
  first
   |(rw[dT0 p]at e;exact absurd e (by decide))
   |(simp at e;lia)
 cases hwl with
 |cons w1 w2=>
  cases w2
  cases w1 with
  |list ho hall=>exact⟨_,_,ns,rfl,rfl,ho,FM ns _ hall,b⟩
def attach_call{l:OpenLaw}
  (hn:l.most=some n) (hdf:d.params.defaults=[])
  (call: ∀ w  m j  mg B  v  o  I y u  a  vs  ns ,
   Ground q loose [] XP w m mg B j.heap->YP w j.heap->
   j.heap.get? v=some o->o.data=.func (docDef d.name d.params d.body d.scope I y u)->j.heap.CodeRec y d.name->mg d.name=some (.ref v)->
   j.heap.get? a=some {cls:=.type "list",data:=.seq vs.toArray}->IntsAre vs ns->ns.length<=n->j.gens=#[]->
   codeAny (model l.prog w) callerA (.call (.ref v) ⟨[.ref a],[]⟩) (λr z=>r=.ok (.ret (.bool true))/\OldK j.heap z.heap/\z.os=j.os/\AllBare z.gens) j):
  WalkO q loose XP YP l.row.toRowW d [] (λf vs=>PySem.call f vs):=by
 intro w m j mg B G Y v o I y u K kV J P i A p N D s as e C H k O;obtain rfl:K=.none:=Dflts.none A hdf;obtain rfl:kV=.none:=Dflts.noKw A;obtain⟨a,vs,ns,rfl,rfl,c,b,h⟩:=Cc hn e k;refine enter_call (Ĵ (call w m j mg B v o I y u a vs ns G Y J (fd_plain P) i p c b h N) λr z F=>?_);obtain⟨rfl,L,E,M⟩:=F;exact⟨.inl ⟨_,_,[],rfl,λ_=>rfl,.bool true,(postW_of
    (by first |rfl|decide|simp[WShape.has,WShape.arms,WShape.armsAll])
    (w_eq_bool (w_res rfl) w_lit) rfl),λ_=>⟨List.Pairwise.nil,λ_ Q=>(nomatch Q)⟩⟩,L,E,M⟩
end Att
namespace L2
open PySem PySem.Spec PyProof.Rows
def Ce: ∀{vs}{ns},IntsAre vs ns->Vals (ns.map V.int) vs:=λa=>by
 induction a with
 |nil=>exact .nil
 |cons n t h ih=>exact .cons ⟨t,rfl⟩ (ih)
def Gc(H:Hp):Prop:= ∀b,H b=none\/ ∃o xs,H b=some (.frz o (.lst xs))
def Gd{K:Q0}
  (KX:K.In s₁.heap) (hns:s₁.heap.Ns mainGlobals mg) (j:s₁.heap.Ns builtinsNs mb) (hbb: ∀x:Str,x≠"__name__"->mb x=bootBuiltins x) (hlim:s₁.heap.NoLimit) (hg:s₁.gens=#[])
  (ha:s₁.heap.get? a=some {cls:=.type "list",data:=.seq vs.toArray}) (hi:IntsAre vs ns) (hl:ns.length<=sizeLine) (hr:Room k callerA)
  (F: ∀base:Heap,K.In base->base.Ns mainGlobals mg->FnOk P w K mg base CX k fa fd [x] sp) (hbind: ∀ s  u ,BindsTo s fd ⟨[u],[]⟩ [(x,u)])
  (hsp: ∀H:Hp,Gc H->SqL K H a (ns.map V.int)->sp [.ref a] H (λv _=>v=.bl true) λ_ _ _=>False)
  (hCX: ∀H e y,CX [] H s₁ (λ_ _ _=>False) e y->False):
  codeAny (model P w) callerA (.call (.ref fa) ⟨[.ref a],[]⟩) (λr y=>r=.ok (.ret (.bool true))/\OldK s₁.heap y.heap/\y.os=s₁.os/\AllBare y.gens) s₁:=by
 have N:=Ce hi
 have p: ∀H:Hp,Gc H->SqL K H a (ns.map V.int)->HOk P w H s₁.heap->(∀b,H b≠none->b=a)->(H a≠none->K.lookup a=none)->
   codeAny (model P w) callerA (.call (.ref fa) ⟨[.ref a],[]⟩) (λr y=>r=.ok (.ret (.bool true))/\OldK s₁.heap y.heap/\y.os=s₁.os/\AllBare y.gens) s₁:=by
  intro H M S C O hK;have c: ∀{b:Addr}{o:Obj},s₁.heap.get? b=some o->H b=none->(Bp s₁.heap H).get? b=some o:=λe n=>(PySem.W.hideAll_get _ e λhm=>by have q:=(ü.mp hm).2;rw[n]at q;simp at q)
  have J: ∀{b:Addr}{o:Obj}{es:Array DictEntry}{G:Nat},s₁.heap.get? b=some o->o.data=.dict es G->H b=none:=λ{b o es G} e d=>by
   cases q:H b with
   |none=>rfl
   |some u=>
    have L:=O b (by rw[q];simp);subst L;rw[ha]at e;cases e;cases d
  have i: ∀{b:Addr}{m:L0},s₁.heap.Ns b m->(Bp s₁.heap H).Ns b m:=λ{b m} ⟨o,es,G,e,d,r⟩=>⟨o,es,G,c e (J e d),d,r⟩
  have D:=λb o e=>c (KX b o e) (by
   cases q:H b with
   |none=>rfl
   |some u=>
    have L:=O b (by rw[q];simp);subst L;rw[hK (by rw[q];simp)]at e;cases e)
  refine Ĵ ((F _ D (i hns)).run callerA [] s₁ H ⟨_,[]⟩ [.ref a] [.ref a] _ _ hr (⟨rfl,(⟨D,i hns,⟨mb,i j,hbb⟩,let ⟨U,T,h2⟩:=hlim;⟨U,i T,h2⟩⟩),λb o e=>Ln e,le_of_eq ((PySem.W.hideAll_size _ _)),trivial,λb j=>absurd (show b∈([]:B9)from j) (by simp),C,.of_eq hg⟩) (hbind s₁ _) (.cons rfl .nil) (hsp H M S)) λr y h=>?_
  cases r with
  |error e=>exact(hCX H e y h).elim
  |ok fl=>
   cases fl with
   |next=>exact False.elim h
   |brk=>exact False.elim h
   |cont=>exact False.elim h
   |ret u=>
    obtain⟨v,H',os,E,un,B,X,q⟩:=h;subst q;obtain rfl:u=Value.bool true:=X;refine⟨rfl,OldK.of_keep λb o e=>?_,os,E⟩
    cases q:H b with
    |none=>exact un.keep b o e q (by intro z;exact absurd (show b∈([]:B9)from z) (by simp)) (by simp)
    |some u=>
     rcases M b with z|⟨ob,xs,z⟩
     .rw[q]at z;cases z
     .have Y:=un.frzs b ob _ z;obtain⟨Q,_⟩:=C b _ z;obtain⟨Z,_⟩:=B b _ Y;rw[e]at Q;cases Q;exact Z
 cases I:K.lookup a with
 |some o=>
  have e:=KX a o I;rw[ha]at e;cases e;refine p (λ_=>none) (λ_=>.inl rfl) (.inr ⟨_,_,_,I,rfl,rfl,rfl,by rw[sA0,(hi.length)];exact hl,by simpa using N⟩) (λb u z=>by have A:_=some u:=z;cases A) (λb z=>absurd rfl z) λz=>absurd rfl z
 |none=>
  refine p (λb=>if b=a then some _ else none) (λb=>?_) (.inl (.inr ⟨{cls:=.type "list",data:=.seq vs.toArray},iP rfl⟩)) (λb u z=>?_) (λb z=>?_) λ_=>I
  .by_cases j:b=a
   .exact .inr ⟨_,_,iP j⟩
   .exact .inl (iN j)
  .by_cases j:b=a
   .have A:=(iP j).symm.trans z;cases A;subst j;exact⟨ha,by rw[lM];exact hl,vs,_,N,ha⟩
   .have A:=(iN j).symm.trans z;cases A
  .by_cases j:b=a
   .exact j
   .exact absurd (iN j) z
def walk_of{l:PySem.W.OpenLaw}{K:Params->PySem.W.Frag}{CX:World->YE}{sp:World->Sp}
  (hn:l.most=some n) (hn2:n<=sizeLine) (hdf:d.params.defaults=[]) (hr:Room k callerA)
  (hY: ∀ w  h ,YP w h->(K w.params).In h)
  (F: ∀ w  mg  y  h ,(K w.params).In h->h.Ns mainGlobals mg->mg d.name=some (.ref y)->
   ∃B:FuncData,(∀ s  u ,BindsTo s B ⟨[u],[]⟩ [(x,u)])/\
    ∀base:Heap,(K w.params).In base->base.Ns mainGlobals mg->FnOk l.prog w (K w.params) mg base (CX w) k y B [x] (sp w))
  (hsp: ∀ w  H  a (ns:Za),ns.length<=n->Gc H->SqL (K w.params) H a (ns.map V.int)->sp w [.ref a] H (λv _=>v=.bl true) λ_ _ _=>False)
  (hCX: ∀ w  H  s  e  z ,CX w [] H s (λ_ _ _=>False) e z->False):
  PySem.W.WalkO q loose XP YP l.row.toRowW d [] (λf vs=>PySem.call f vs):=by
 refine Att.attach_call hn hdf λw r m mg M y o P N C a vs ns G Y O Q E p j i c J=>?_;have KX:=hY w _ Y;obtain⟨B,L,I⟩:=F w mg y _ KX G.T.g p;exact Gd KX G.T.g G.T.b G.T.builtins G.T.nolimit J j i (ï c hn2) hr I L (λH D A=>hsp w H a ns c D A) λH e z=>hCX w H m e z
noncomputable def inClass(s:Stmt)(j:Nat):Stmt:=match s with
 |.ClassDef _ _ _ body _ _ _ _ _ _ _=>body.getD j (.Pass ⟨0,0,0,0⟩)
 |_=>.Pass ⟨0,0,0,0⟩
noncomputable def wM(s:Stmt):Arguments:=match s with
 |.FunctionDef _ a _ _ _ _ _ _ _ _=>a
 |_=>{posonlyargs:=[],args:=[],vararg:=none,kwonlyargs:=[],kw_defaults:=[],kwarg:=none,defaults:=[]}
noncomputable def yT(s:Stmt):List Stmt:=match s with
 |.FunctionDef _ _ b _ _ _ _ _ _ _=>b
 |_=>[]
noncomputable def zK(s:Stmt):Scope:=match s with
 |.FunctionDef _ _ _ _ _ _ sc _ _ _=>sc
 |_=>{kind:=.function,names:=[],isGenerator:=false,isCoroutine:=false}
abbrev sF:YE:=λ_ _ _ _ _ _=>False
abbrev E0:XK:=λ_ _ _=>False
def Ge:GR sF X E0:=λ_ _ _ _ _ _ _ h=>h.elim
structure Fun(K:Q0)(x qual:Str)(st:Stmt)(f:Addr)(fd:FuncData):Prop where
 ex: ∃(oc:ŗ)(od:Option Addr)(kV doc pm:ŗ)(an:Option Addr)(cdv ct:ŗ)(osl:Array (Option ŗ)),
  fd=PySem.W.fnOf x qual (wM st) (yT st) (zK st) .none kV doc pm an cdv ct/\K.lookup f=some ⟨oc,od,.func fd,osl⟩/\PySem.W.codeIn K cdv qual=true
 kp:PySem.W.keepIn K (.ref f)=true
section
variable{K:Q0}
def Fun.ok{st:Stmt}(F:Fun K x qual st f fd)(S:FnScope N ps (zK st))(len: ∀vs H Q E,sp vs H Q E->vs.length=ps.length)
  (hbody: ∀ j  A  d  s  H  vs  Q  E ,Room k (A.deeper (envOfC qual (zK st) ↑1 f j))->sp vs H Q E->
   ∃t,PSs (NP sF P w K mg base N qual (zK st) f j A d s H E).nox (yT st) t/\t {nx:=λ_ H'=>Q .non H',rt:=Q} (start N vs) H):FnOk P w K mg base sF (k+1) f fd ps sp:=by
 obtain⟨p,u,kV,i,n,r,j,o,c,rfl,m,a⟩:=F.ex;refine O9 m a S len λA d s H vs Q E e b=>?_;obtain⟨t,h,q⟩:=hbody j A d s H vs Q E e b;exact⟨t,h.nox,q⟩
def Fun.binds{st:Stmt}(F:Fun K x qual st f fd)
  (h: ∀ kV d q  u  j ct  m ,m.length=ps.length->bindArgs (PySem.W.fnOf x qual (wM st) (yT st) (zK st) .none kV d q u j ct) ⟨m,[]⟩=pure (ps.zip m)):Binds K fd ps []:=by
 obtain⟨c,e,kV,d,q,u,j,ct,b,rfl,i,a⟩:=F.ex;exact .all (h kV d q u j ct)
def qO{st:Stmt}{kV:ŗ}(l:K.lookup f=some ⟨oc,od,.func (PySem.W.fnOf x qual (wM st) (yT st) (zK st) .none kV doc pm an cdv ct),osl⟩)
  (c:PySem.W.codeIn K cdv qual=true) (k:PySem.W.keepIn K (.ref f)=true):Fun K x qual st f (PySem.W.fnOf x qual (wM st) (yT st) (zK st) .none kV doc pm an cdv ct):=⟨⟨oc,od,kV,doc,pm,an,cdv,ct,osl,rfl,l,c⟩,k⟩
end
section
variable{X:Cx}
def pv(i){pos:Pos}(d:X.N[i]? =some x:=by rfl)(j:Z4 X.env.scope x:=by first |exact Or.inl rfl|exact Or.inr (Or.inl rfl)|exact Or.inr (Or.inr rfl))(a:(x==("__debug__"))=false:=by decide)
  (hcd:(x==("__classdict__"))=false:=by decide):PE X (.Name x pos) (M1 i):=(by
    intro pins s σ H Q I h;obtain⟨v,e,h⟩:=h;obtain⟨m,b,k⟩:=I.loc;obtain⟨u,r,l⟩:=k i x v d e j;have fin:EP X pins σ Q u s:=⟨v,H,I,r,h⟩
    rcases l with⟨hk,hm⟩|⟨hk,c,hc,hcell⟩
    .exact wpAny_Name (wpAny_loadName_local I.ok.kind hk b hm fin) a
    .rcases hk with hk|hk
     .exact wpAny_Name (wpAny_loadName_cell I.ok.kind hk hc hcell fin) a
     .exact wpAny_Name (wpAny_loadName_free I.ok.kind hk hc hcell fin hcd) a)
end
end L2
set_option maxHeartbeats 4000000
namespace L2
open PySem PySem.Spec PyProof.Rows
noncomputable def uH(a:Env)(l:List (Str×NameKind))(b:List (Str×Addr)):List (Str×Addr):=
 l.foldl (λc y=>if y.2==.free then(y.1,(a.cells.lookup y.1).getD 0)::c else c) b
def NY{α:Type}{l:List α}{f:α->β->Sem (ForInStep β)}{g:β->α->β}: ∀ c ,(∀x∈l, ∀c,f x c=pure (.yield (g c x)))->
  forIn l c f=pure (l.foldl g c):=by
 induction l with
 |nil=>intro c _;rfl
 |cons x l ih=>
  intro c h;rw[forIn_cons,h x mF0];exact ih _ λy a=>h y (mO _ a)
def KS(h: ∀y∈scope.names,y.2=.free-> ∃c,env.cells.lookup y.1=some c):closureFor scope env=pure (uH env scope.names []):=by
 unfold closureFor uH;dsimp only;rw[NY [] ?_]
 .rfl
 .intro y i c;obtain⟨n,k⟩:=y;by_cases b:k=.free
  .subst b;obtain⟨a,d⟩:=h _ i rfl;simp[cellOf,d]
  .have e:=by simpa using b
   simp[e]
theorem EI: ∀ l  d ,(∀y∈l,y.2=.free-> ∃c,env.cells.lookup y.1=some c)->(∀p∈d,env.cells.lookup p.1=some p.2)->
  ∀p∈uH env l d,env.cells.lookup p.1=some p.2
 |[],_,_,h=>h
 |(n,k)::l,d,hl,h=>by
  refine EI l _ (λy u=>hl y (mO _ u)) λp j=>?_;by_cases m:k=.free
  .subst m;obtain⟨c,q⟩:=hl _ mF0 rfl;have a:p∈_::d:=j;rcases mC.mp a with rfl|j
   .show env.cells.lookup n=some _;rw[q];rfl
   .exact h p j
  .have a:p∈(if _=true then _::d else d):=j;rw[iN (by simpa using m)]at a;exact h p a
theorem GT: ∀ l  d  p ,p∈d->p∈uH env l d
 |[],_,_,h=>h
 |_::l,d,p,h=>by
  refine GT l _ p ?_;show p∈(if _=true then _::d else d);split
  .exact mO _ h
  .exact h
theorem sG: ∀ l  d  n ,(n,NameKind.free)∈l-> ∃c,(n,c)∈uH env l d
 |[],_,_,h=>nomatch h
 |(m,k)::l,d,n,h=>by
  rcases mC.mp h with e|h
  .have j:=congrArg Prod.fst e;have a:=congrArg Prod.snd e;subst j a;exact⟨_,GT l _ _ mF0⟩
  .exact sG l _ n h
theorem gW{β:Type}: ∀{l:List (Str×β)}{n},(∃c,(n,c)∈l)-> ∃c,l.lookup n=some c
 |[],_,h=>let ⟨_,z⟩:=h;nomatch z
 |(m,b)::l,n,h=>by
  by_cases e:n=m
  .subst e;exact⟨b,by simp[Ģ]⟩
  .obtain⟨c,a⟩:=h;rcases mC.mp a with z|z
   .cases z;exact absurd rfl e
   .obtain⟨d,h'⟩:=gW ⟨c,z⟩;refine⟨d,?_⟩;have i:(n==m)=false:=by simpa using e
    simp[Ģ,i,h']
noncomputable def Ml(a b:Scope):List (Str×NameKind):=a.names.map λ(n,k)=>if(k==.free&&b.kind==.function&&b.names.lookup n==some .cell)then(n,.cell)else(n,k)
noncomputable def sH(a:Scope)(N:K0)(b:Scope)(c:Db):Bool:=
 decide (b.kind=.function)&&b.names.all (λy=>decide (b.names.lookup y.1=some y.2))&&
 b.names.all (λy=>decide (y.2≠.free) || decide (a.names.lookup y.1=some .cell) || decide (a.names.lookup y.1=some .free))&&
 c.all (λi=>match N[i]? with
  |some y=>(decide (a.names.lookup y=some .cell) || decide (a.names.lookup y=some .free))&&decide (b.names.lookup y=some .free)
  |none=>false)
def rlS(b a:Scope):Scope:={b with names:=Ml b a}
abbrev Ey(a:Env)(b:Scope)(C:Addr):List (Str×Addr):=cellsFrom (C+1) b.names (uH a b.names [])
theorem xY: ∀ l  n  d ,cellsFrom n l d=cellsFrom n l []++d
 |[],n,d=>rfl
 |_::l,n,d=>by
  unfold cellsFrom;split
  .rw[xY l _ _,xY l _ [_],aA];rfl
  .exact xY l n d
theorem vS: ∀ l  n {x}{c},(x,c)∈cellsFrom n l []->(x,NameKind.cell)∈l/\n<=c
 |[],n,x,c,h=>nomatch h
 |(y,k)::l,n,x,c,h=>by
  unfold cellsFrom at h;split at h
  .rename_i m;rw[xY]at h;rcases é.mp h with h|h
   .obtain⟨d,j⟩:=vS l _ h;exact⟨mO _ d,by lia⟩
   .have e:=mS.mp h;cases e;have a:=by simpa using m
    subst a;exact⟨mF0,à _⟩
  .obtain⟨d,j⟩:=vS l n h;exact⟨mO _ d,j⟩
def uY(h:(x,c)∈cellsFrom (C+1) l [])(a:n<=C):n<c:=lt_of_le_of_lt a (vS l _ h).2
theorem tP: ∀ l  n {x},(x,NameKind.cell)∈l-> ∃c,(x,c)∈cellsFrom n l []
 |[],n,x,h=>nomatch h
 |(y,k)::l,n,x,h=>by
  unfold cellsFrom;rcases mC.mp h with e|h
  .cases e;rw[xY];exact⟨n,ñ _ mF0⟩
  .split
   .obtain⟨c,d⟩:=tP l _ h;rw[xY];exact⟨c,Ĝ _ d⟩
   .exact tP l n h
theorem own_apart: ∀ l  n ,(cellsFrom n l []).Pairwise λx y=>x.2≠y.2
 |[],n=>List.Pairwise.nil
 |_::l,n=>by
  unfold cellsFrom;split
  .rw[xY];refine ç.mpr ⟨own_apart l _,List.pairwise_singleton _ _,λa d b j e=>?_⟩;rw[mS.mp j]at e;have:=(vS l _ d).2;exact ĕ this e
  .exact own_apart l n
theorem qP{β:Type}(x): ∀(l m:List (Str×β)),(l++m).lookup x=(l.lookup x).or (m.lookup x)
 |[],m=>rfl
 |(y,b)::l,m=>by
  rw[List.cons_append,Ģ,Ģ]
  cases x==y with
  |true=>rfl
  |false=>exact qP x l m
theorem LV{β:Type}: ∀{l:List (Str×β)},(∀c,(x,c)∉l)->l.lookup x=none
 |[],_=>rfl
 |(y,b)::l,h=>by
  rw[Ģ]
  cases e:x==y with
  |true=>rw[Ĥ.mp e]at h;exact absurd mF0 (h b)
  |false=>exact LV λc d=>h c (mO _ d)
def lV(e:(Ey env sc C).lookup x=some c):(x,c)∈cellsFrom (C+1) sc.names []\/(uH env sc.names []).lookup x=some c:=by
 unfold Ey at e;rw[xY,qP]at e
 cases z:(cellsFrom _ sc.names []).lookup x with
 |some c'=>rw[z]at e;cases e;exact .inl (PySem.mem_of_lookup z)
 |none=>rw[z]at e;exact .inr e
def Wo(h:(x,NameKind.cell)∈sc.names)(e:(Ey env sc C).lookup x=some c):(x,c)∈cellsFrom (C+1) sc.names []:=by unfold Ey at e;rw[xY,qP]at e;obtain⟨a,h'⟩:=gW (tP sc.names _ h);rw[h']at e;cases e;exact PySem.mem_of_lookup h'
theorem Mm(h:(x,NameKind.cell)∉sc.names):(Ey env sc C).lookup x=(uH env sc.names []).lookup x:=by unfold Ey;rw[xY,qP,LV λc a=>h (vS _ _ a).1];rfl
noncomputable def CN(σ:St)(a:Db):St:=a.map λi=>(σ[i]?).join
def oC(σ)(idx):(CN σ idx).length=idx.length:=by unfold CN;rw[lM]
def zN(X:Cx)(sc:Scope)(T:K0)(idx:Db)(C:Addr)(s₂:Ŗ)(H1:Hp)(fp:B9):Cx where
 prog:=X.prog
 w:=X.w
 K:=X.K
 mg:=X.mg
 base:=X.base
 A:=X.A
 N:=T++idx.map λi=>(X.N[i]?).getD Str.empty
 s₀:=s₂
 H₀:=H1
 env:=compEnvC sc (Ey X.env sc C) C X.env
 outer:=X.stack
 stack:=X.stack
 ex:=fp
 fn:=λx=>sc.names.lookup x==some .cell
 calm:=X.calm
 pn:=[]
 xe:=λ_ _=>False
def Gf(q:TI)(g:TG)(p:Addr->Ŗ->Hp->List Addr->TT)(s:Addr->Ŗ->Hp->List Addr->TE)(nt:Nat)(k:Db):TE:=λσ H Q=>q σ H λJ n=> ∃W:Nat->Nat->List V->Hp->Prop,(∃m,W 0 m [] n)/\ ∀i m d e,W i m d e->d.length<=sizeLine/\
 ((J.stop i e/\ ∀D,e D=none->Q (.ref D) (wG e D (.lst d)))\/
   (J.go i e/\d.length<sizeLine/\ ∀x o,J.yld i e x o-> ∀τ:St,τ.length=nt->g x (τ++CN σ k) o λc r=>(∃j,c=j++CN σ k/\j.length=nt)/\
    ∀C a fp,p C a n fp c r λb H5=>if b=true then s C a n fp c H5 λy H6=> ∃h,h<m/\W (i+1) h (d++[y]) H6 else∃h,h<m/\W (i+1) h d H5))
section
def NZ(I:Nat->Ŗ->Prop)
  (turn: ∀n s,I n s->wpAny (model prog w) A (pyNext it) (λr j=>match r with
   |none=>R (.ok .next) j
   |some v=>wpAny (model prog w) A (letOwnedTupleGo target it v) (λ_ d=>wpAny (model prog w) A (assign target env v) (λ_ B=>
     wpAny (model prog w) A (forIn ifs true λc r=>if r=true then do let ok <-isTrue c env (eval c env);pure (ForInStep.yield ok)else pure (ForInStep.yield r)) (λok q=>
      if ok=true then wpAny (model prog w) A (eval elt env) (λx u=>
       wpAny (model prog w) A (call (.builtin "list.append") [acc,x]) (λ_ y=> ∃m,m<n/\I m y) (λ_ _=>False) u) (λ_ _=>False) q
      else∃m,m<n/\I m q) (λ_ _=>False) B) (λ_ _=>False) d) (λ_ _=>False) j) (λ_ _=>False) s)
  (n) (h:I n s):codeAny (model prog w) A (.compLoop (.ListComp elt [⟨target,iter,ifs,0⟩] scope pos) 0 it acc env) R s:=by
 refine codeAny_loop rfl I (λn s D=>?_) n h;refine wpAny_noted ?_;have i: ∀{E:VP}(v:ŗ)(C:Ŗ),False->E v C:=λ_ _ z=>z.elim;refine wB (wpAny_standAt (wB (ú (turn n s D) (λr j b=>?_) (i))))
 cases r with
 |none=>exact wP b
 |some v=>
  refine wB (ú b (λ_ d e=>wB (ú e (λ_ B k=>wB (ú k (λok q a=>?_) i)) i)) i)
  cases ok with
  |false=>exact wP ⟨rfl,a⟩
  |true=>
   exact wB (wB (ú a (λx u p=>wB (ú p (λ_ y o=>wP (wP ⟨rfl,o⟩)) i)) i))
end
def Cf(X:Cx)(a:P0)(t:TT):Prop:=
 ∀(pins:M0)(s:Ŗ)(σ:St)(H:Hp)(Q:Bool->Hp->Prop),Inv X pins σ H s->t σ H Q->
  wpAny ↑5 X.A (forIn a true λc r=>if r=true then do let ok <-isTrue c X.env (eval c X.env);pure (ForInStep.yield ok)else pure (ForInStep.yield r)) (TP X pins σ Q) X.xe s
def Q4:TT:=λ_ H Q=>Q true H
structure CompF(osc:Scope)(N:K0)(sc:Scope)(idx:Db):Prop where
 kind:sc.kind=.function
 uni: ∀y∈sc.names,sc.names.lookup y.1=some y.2
 frees: ∀y∈sc.names,y.2=.free->osc.names.lookup y.1=some .cell\/osc.names.lookup y.1=some .free
 cap: ∀i∈idx, ∃y,N[i]? =some y/\(osc.names.lookup y=some .cell\/osc.names.lookup y=some .free)/\sc.names.lookup y=some .free
def CompF.locs(F:CompF osc N sc idx): ∀y∈sc.names,y.2=.local->sc.names.lookup y.1=some .local:=λy a e=>by rw[F.uni y a,e]
def Mn(h:sH osc N sc idx=true):CompF osc N sc idx:=by
 unfold sH at h;simp only[aE,Ē,ô,Bool.or_eq_true]at h;obtain⟨⟨⟨j,b⟩,d⟩,c⟩:=h;refine⟨j,λy a=>b y a,λy a e=>?_,λi hi=>?_⟩
 .rcases d y a with(z|z)|z
  .exact absurd e z
  .exact .inl z
  .exact .inr z
 .have q:=c i hi
  cases e:N[i]? with
  |none=>rw[e]at q;cases q
  |some y=>
   rw[e]at q;simp only[aE,ô,Bool.or_eq_true]at q;exact⟨y,rfl,q.1,q.2⟩
def Gi(h:(Ml sc osc).lookup x=some .cell\/(Ml sc osc).lookup x=some .free):(x,NameKind.free)∈sc.names\/(x,NameKind.cell)∈sc.names:=by
 have a: ∀b,(b=.cell\/b=.free)->(x,b)∈Ml sc osc->(x,NameKind.free)∈sc.names\/(x,NameKind.cell)∈sc.names:=by
  intro b c j;obtain⟨⟨n,k⟩,d,e⟩:=mM.mp j;dsimp only at e;split at e
  .rename_i i;cases e;rw[aE,aE]at i;have:=by simpa using i.1.1
   subst this;exact .inl d
  .cases e;rcases c with rfl|rfl
   .exact .inr d
   .exact .inl d
 rcases h with h|h
 .exact a _ (.inl rfl) (PySem.mem_of_lookup h)
 .exact a _ (.inr rfl) (PySem.mem_of_lookup h)
theorem LW{a:Scope}{x:Str}: ∀{l:List (Str×NameKind)},l.lookup x=some .free->(l.map λ(n,k)=>if(k==NameKind.free&&a.kind==.function&&a.names.lookup n==some .cell)then(n,NameKind.cell)else(n,k)).lookup x=some .cell\/(l.map λ(n,k)=>if(k==NameKind.free&&a.kind==.function&&a.names.lookup n==some .cell)then(n,NameKind.cell)else(n,k)).lookup x=some .free
 |[],h=>by simp at h
 |(n,k)::l,h=>by
  have d:=@LW a x l;rw[Ģ]at h;rw[ê];by_cases c:(k==NameKind.free&&a.kind==.function&&a.names.lookup n==some .cell)=true
  .dsimp only;rw[iP c,Ģ]
   cases b:x==n with
   |true=>exact .inl rfl
   |false=>rw[b]at h;exact d h
  .dsimp only;rw[iN c,Ģ]
   cases b:x==n with
   |true=>rw[b]at h;exact .inr h
   |false=>rw[b]at h;exact d h
section
variable{C:Addr}{fp:B9}
def RM(I:Inv X pins σ H1 s₂)(F:CompF X.env.scope X.N sc idx): ∀y∈sc.names,y.2=.free-> ∃c,X.env.cells.lookup y.1=some c:=
 λy a e=>I.ok.has y.1 (F.frees y a e)
def gF(I:Inv X pins σ H1 s₂)(F:CompF X.env.scope X.N sc idx)(e:(uH X.env sc.names []).lookup x=some c):X.env.cells.lookup x=some c:=
 EI sc.names [] (RM I F) (λ_ z=>nomatch z) _ (PySem.mem_of_lookup e)
def Mo(I:Inv X pins σ H1 s₂)(F:CompF X.env.scope X.N sc idx)(hx:(x,NameKind.free)∈sc.names)(e:X.env.cells.lookup x=some c):(uH X.env sc.names []).lookup x=some c:=by obtain⟨a,h'⟩:=gW (sG sc.names [] x hx);rw[h'];rw[gF I F h']at e;exact e
def Cg(I:Inv X pins σ H1 s₂)(F:CompF X.env.scope X.N sc idx)(hC:s₂.heap.objs.size<=C)(hfp: ∀b∈fp,uW X pins H1 b)(hlt: ∀b∈fp,b<s₂.heap.objs.size):(zN X sc T idx C s₂ H1 fp).Ok where
 mod:=I.ok.mod
 kind:=F.kind
 glob:=I.ok.glob
 blt:=I.ok.blt
 above:=hC
 inj:=λx y c h1 h2=>by
  have low:=λz h=>let ⟨v,q⟩:=I.cell z c (gF I F h);q.lt;rcases lV h1 with z1|z1<;>rcases lV h2 with z2|z2
  .exact PySem.name_of_addr (own_apart sc.names _) z1 z2
  .exact absurd (low y z2) (Nat.not_lt.mpr (le_of_lt (uY z1 hC)))
  .exact absurd (low x z1) (Nat.not_lt.mpr (le_of_lt (uY z2 hC)))
  .exact I.ok.inj x y c (gF I F z1) (gF I F z2)
 has:=λx hx=>by
  show∃c,(Ey X.env sc C).lookup x=some c;unfold Ey;rw[xY];rcases Gi hx with z|z
  .obtain⟨c,hc⟩:=sG sc.names [] x z;exact gW ⟨c,ñ _ hc⟩
  .obtain⟨c,hc⟩:=tP sc.names _ z;exact gW ⟨c,Ĝ _ hc⟩
 cab:=λx c h e=>by exact le_of_lt (uY (Wo (PySem.mem_of_lookup (Ĥ.mp h)) e) hC)
 hd:=I.ok.hd
 frames:=I.ok.frames
 stk:=.inl rfl
 exf:=λb hb=>⟨è (ë (hlt b hb) hC),λx c e=>by
  rcases lV e with z|z
  .exact ĕ (lt_trans (hlt b hb) (uY z hC))
  .exact(hfp b hb).2.2.2.2.1 x c (gF I F z)⟩
 bs:=I.bs
 bsz:=ï I.ok.bsz I.sz
 noex:=λb o e hb=>by
  rcases (hfp b hb).2.2.2.1 with z|z
  .exact I.ok.noex b o e z
  .exact absurd (ë (â e) (ï I.ok.bsz z)) (ğ _)
 exfs:=λb hb z=>by
  rcases mC.mp (I.stkSub b z)with e|e
  .exact(hfp b hb).2.1 e
  .exact(hfp b hb).2.2.1 e
 funs:=I.stack
 frf:=I.stkFree
theorem VR(I:Inv X pins σ H1 s₂)(F:CompF X.env.scope X.N sc idx)(A:s₂.heap.objs.size<=C)(D: ∀b∈fp,uW X pins H1 b)(w: ∀b∈fp,b<s₂.heap.objs.size)
  (kp: ∀b o,s₂.heap.get? b=some o->s₄.heap.get? b=some o) (ho:s₄.os=s₂.os) (hg:s₄.gens=s₂.gens) (hn:s₄.heap.Ns C m) (hcl: ∀x c,(x,c)∈cellsFrom (C+1) sc.names []->s₄.heap.IsCell c none):
  Inv (zN X sc T idx C s₂ H1 fp) [] (T.map (λ_=>none)++CN σ idx) H1 s₄:=by
 have h: ∀c v,s₂.heap.IsCell c v->s₄.heap.IsCell c v:=λc v ⟨o,J,P⟩=>⟨o,kp c o J,P⟩
 refine⟨Cg I F A D w,ho,by rw[hg];exact I.bare,Un.kept kp,⟨m,hn,λi x v Q d Y=>?_⟩,λx c e=>?_,I.hok.fresh A,λx c e=>?_,λp K=>absurd (show p∈([]:List _)from K) (by simp),I.hok.kept kp,?_⟩
 .have k:(T++idx.map λi=>(X.N[i]?).getD Str.empty)[i]? =some x:=Q;by_cases hi:i<T.length
  .rw[æ (by simpa using hi),ì]at d
   cases z:T[i]? with
   |none=>rw[z]at d;cases d
   |some y=>rw[z]at d;cases d
  .rw[ð (by simpa using hi)]at d;rw[ð #[0]]at k;rw[lM]at d;unfold CN at d;rw[ì]at k d
   cases z:idx[i - T.length]? with
   |none=>rw[z]at d;cases d
   |some j=>
    rw[z]at k d;obtain⟨y,E,H,B⟩:=F.cap j (á z);have L:=by have q:(X.N[j]?).getD Str.empty=x:=ã k;rw[E]at q;exact q
    subst L
    have M:σ[j]? =some (some v):=by
     have q:(σ[j]?).join=some v:=ã d
     cases G:σ[j]? with
     |none=>rw[G]at q;cases q
     |some a=>rw[G]at q;have S:a=some v:=q;rw[S]
    obtain⟨W,U,s⟩:=I.loc;obtain⟨u,r,l⟩:=s j y v E M (H.elim (λz=>.inr (.inl z)) λz=>.inr (.inr z));refine⟨u,r,?_⟩;rcases l with⟨kl,_⟩|⟨_,c,hc,q⟩
    .have n:X.env.scope.names.lookup y=some .local:=kl;rcases H with z|z<;>rw[z]at n<;>cases n
    .have O:(y,NameKind.cell)∉sc.names:=λz=>by have:=F.uni _ z;rw[B]at this;cases this
     refine .inr ⟨LW B,c,?_,h c _ q⟩;show(Ey X.env sc C).lookup y=some c;rw[Mm O];exact Mo I F (PySem.mem_of_lookup B) hc
 .rcases lV e with z|z
  .exact⟨none,hcl x c z⟩
  .obtain⟨v,q⟩:=I.cell x c (gF I F z);exact⟨v,h c v q⟩
 .rcases lV e with z|z
  .exact I.hok.fresh (le_of_lt (uY z A))
  .exact I.freeC x c (gF I F z)
 .show(T.map (λ_=>_)++CN σ idx).length=(T++idx.map λi=>(X.N[i]?).getD Str.empty).length;rw[lA,lA,lM,lM,oC]
def VS{D:Addr}(I:Inv X pins σ H1 s₂)(w:s₂.heap.objs.size<=C)(i: ∀b∈fp,uW X pins H1 b)
  (J:Inv (zN X sc T idx C s₂ H1 fp) [] σ1 H' s') (hs:Heap.SameBut C s'.heap h') (hD:s₂.heap.objs.size<=D) (hDC:D≠C) (eD:s'.heap.get? D=some {cls:=.type "list",data:=.seq its.toArray n}) (nD:H' D=none) (r:Vals ys its) (hz:ys.length<=sizeLine):
  Inv X pins σ (wG H' D (.lst ys)) {s' with heap:=h'}:=by
 have h: ∀b o,s₂.heap.get? b=some o->b≠C/\b≠D:=λb o e=>⟨è (ë (â e) w),è (ë (â e) hD)⟩
 have d: ∀b u,H1 b=some u->b≠D:=λb u e=>è (ë (I.hok.lt e) hD);have p:=J.free;have B:=J.base;have k: ∀b o,b≠C->s'.heap.get? b=some o->h'.get? b=some o:=λb o a e=>(hs.2 b a).trans e;refine I.call' J.os ⟨λb o e q a j=>?_,λb o e q a j=>?_,λb o e q j=>?_,λb o e j=>?_,λb xs e=>?_,λb o u e=>?_,λb ps e=>?_⟩ ?_ J.bare λb a=>⟨(i b a).2.2.2.1,(i b a).2.1,(i b a).2.2.2.2.1,(i b a).2.2.2.2.2⟩
 .exact k b o (h b o e).1 (B.keep b o e q a j)
 .obtain⟨sl,z⟩:=B.slot b o e q a j;exact⟨sl,k b _ (h b o e).1 z⟩
 .rw[zO (h b o e).2];exact B.free b o e q j
 .obtain⟨s,z⟩:=B.there b o e j;exact⟨s,k b s (h b o e).1 z⟩
 .rw[zO (d b _ e)];exact B.tups b xs e
 .rw[zO (d b _ e)];exact B.frzs b o u e
 .obtain⟨m,z⟩:=B.tbls b ps e;exact⟨m,by rw[zO (d b _ e)];exact z⟩
 .intro b u e;by_cases a:b=D
  .subst a;rw[yN]at e;cases e;exact⟨hz,its,n,r,k b _ hDC eD⟩
  .rw[zO a]at e;refine(J.hok b u e).stay (λc v y q=>k c v ?_ q) (λc q=>by rw[zO (yA q nD)];exact q) λc xs q=>by rw[zO (yA q nD)];exact q
   rcases y with z|z
   .rw[z];exact yA e p
   .exact yA z p
end
section
def KU
  (d:Q (newEnv scope ↑1 globals (cellsFrom (↑1+1) scope.names closure) qual none .none (some outer) builtinsNs) {s with heap:=pushCells (s.heap.push {cls:=.type "dict",data:=.dict #[]}) scope.names}):
  wpAny M A (newFunctionEnv scope globals closure [] qual none .none (some outer)) Q E s:=by
 simp only[newFunctionEnv,Option.isSome_some,if_true];refine wB (wpAny_alloc ?_);refine wB (wpAny_layCells _ (λc kind b=>by cases a:kind==NameKind.cell<;>simp[a]) _ _ _ _ ?_);rw[show({s with heap:=s.heap.push {cls:=.type "dict",data:=.dict #[]}}:Ŗ).heap.objs.size=↑1+1 from Ė ..];exact wB (wP (wP d))
theorem RN(T)(idx)
  (hi:N4 C X tg iter wi) (hCx: ∀c j G fp pins σ,Inv X pins σ G j->C (zN X sc T idx c j G fp)) (hB:sH X.env.scope X.N sc idx=true)
  (hg: ∀C j H1 fp,PG (zN X sc T idx C j H1 fp) tg g)
  (hc: ∀C j H1 fp,Cf (zN X sc T idx C j H1 fp) ifs (tc C j H1 fp))
  (he: ∀C j H1 fp,PE (zN X sc T idx C j H1 fp) elt (te C j H1 fp))
  (hs: ∀x,foldedSetIterable iter X.env x=pure x:=by intro _;rfl)
         (I:↑2) (h:Gf wi g tc te T.length idx σ H Q)
  (fin: ∀ D C  O  H'  r ,(∀h',Heap.SameBut C O.heap h'->Inv X pins σ H' {O with heap:=h'})->uW X pins H' C->(∃m,O.heap.Ns C m)->Q (.ref D) H'->
   compPost ↑5 X.A X.xe use Q' (.ref D) C (.ok r) O):
  wpAny ↑5 X.A (comprehension (.ListComp elt [⟨tg,iter,ifs,0⟩] sc pos) sc X.env (firstIterPos [⟨tg,iter,ifs,0⟩] pos) (newList []) false (eval iter X.env) use) Q' X.xe s:=by
 have cf:=Mn hB;refine wpAny_comprehension_free rfl hs (KS (RM I cf)) cf.kind cf.locs ?_;refine jU (hi pins s σ H _ I h) λv s1 h1=>jU h1 λa7 a h2=>?_;obtain⟨it,fp,tn,J,G,e,S,K,ak,f2,W,⟨m0,w0⟩,ar⟩:=h2;subst e;have Z: ∀b∈fp,b<a.heap.objs.size:=λb B=>let ⟨o,e,_⟩:=K.obj _ _ ak b B;â e;refine ÿ (KU ?_);dsimp only;generalize aa:a.heap.push {cls:=.type "list",dict:=none,data:=.seq ([]:A0).toArray}=HH;generalize ae:pushCells _ sc.names=h₁;have hC:HH.objs.size=a.heap.objs.size+1:=by rw[<-aa,Ė]
 have U:a.heap.objs.size≠HH.objs.size:=by rw[hC];exact è (ć _)
 have E:a.heap.objs.size<=HH.objs.size:=by rw[hC];exact le_succ _
 have aw: ∀b o,HH.get? b=some o->h₁.get? b=some o:=λb o e=>ae▸pushCells_keeps _ _ b o (hP0 _ e);have af: ∀b o,a.heap.get? b=some o->h₁.get? b=some o:=λb o e=>aw b o (aa▸hP0 _ e);have az: ∀x c,(x,c)∈cellsFrom (HH.objs.size+1) sc.names []->h₁.IsCell c none:=λx c hm=>by have ok:=cellsFrom_ok sc.names (HH.push {cls:=.type "dict",data:=.dict #[]}) 0 [] ⟨λ_ _ hm=>(nomatch hm),List.Pairwise.nil⟩ (zero_le _);rw[Ė,ae]at ok;exact(ok.empty x c hm).1
 have cD: ∀x c,(Ey X.env sc HH.objs.size).lookup x=some c->c≠a.heap.objs.size:=λx c e=>by
  rcases lV e with z|z
  .exact ĕ (uY z E)
  .obtain⟨v,q⟩:=S.cell x c (gF S cf z);exact è q.lt
 have Y: ∀O:Ŗ,O={a with heap:=h₁}->
   codeAny ↑5 X.A (.compLoop (.ListComp elt [⟨tg,iter,ifs,0⟩] sc pos) 0 (.ref it) (.ref a.heap.objs.size) (compEnvC sc (Ey X.env sc HH.objs.size) HH.objs.size X.env))
    (compPost ↑5 X.A X.xe use Q' (.ref a.heap.objs.size) HH.objs.size) O:=by
  rintro O rfl
  have J0:Inv _ [] (T.map (λ_=>none)++CN σ idx) G {a with heap:=h₁}:=
   VR S cf E f2 Z af rfl rfl (ae▸(Heap.Ns.new HH (.type "dict")).keeps (pushCells_keeps _ _)) az
  refine NZ (λk s'=> ∃(i:Nat)(ys:List V)(its:A0)(n:Nat)(H':Hp)(τ:St),Inv _ [] (τ++CN σ idx) H' s'/\τ.length=T.length/\tn i s'.heap/\(∀b∈fp,H' b=none)/\
   s'.heap.get? a.heap.objs.size=some {cls:=.type "list",data:=.seq its.toArray n}/\H' a.heap.objs.size=none/\Vals ys its/\W i k ys H') ?_ m0
   ⟨0,[],[],0,G,_,J0,by rw[lM],K.keep _ _ _ ak λb _ o e=>af b o e,λb B=>(f2 b B).1,(aw _ _ (aa▸å _ rfl)),(S.hok.fresh (à _)),.nil,w0⟩
  rintro k s3 ⟨i,ys,its,n,H3,τ,I3,a5,au,aq,ay,ag,r3,w3⟩;obtain⟨hz,a4⟩:=ar i k ys H3 w3;have av:a.heap.objs.size∉(zN X sc T idx HH.objs.size a G fp).fs:=λz=>by obtain⟨_,o,ho,_⟩:=S.stack.mem z;exact absurd (â ho) (ğ _)
  have ao: ∀{H':Hp}{s':Ŗ},s'.heap.get? a.heap.objs.size=some {cls:=.type "list",data:=.seq its.toArray n}->H' a.heap.objs.size=none->
    ∀p∈[(a.heap.objs.size,_)],s'.heap.get? p.1=some p.2/\H' p.1=none/\p.1≠(zN X sc T idx HH.objs.size a G fp).env.locals/\p.1∉(zN X sc T idx HH.objs.size a G fp).fs/\ ∀v,p.2.data≠.cell v:=
   λ{H' s'} e1 e2 p M=>by
    have ep:p=(a.heap.objs.size,{cls:=.type "list",data:=.seq its.toArray n}):=by simpa using M
    subst ep;exact⟨e1,e2,U,av,λv z=>by cases z⟩
  have P3:Inv _ [_] (τ++CN σ idx) H3 s3:=I3.pins_of (ao ay ag)
  have L: ∀{H':Hp},(∀b∈fp,H' b=none)-> ∀b∈fp,uW _ [_] H' b:=λ{H'} hn b B=>by
   have ah:=Z b B;refine⟨hn b B,è (ë ah E),I3.ok.exfs b B,.inl B,λx c e=>?_,λp M=>?_⟩
   .rcases lV e with z|z
    .exact ĕ (lt_trans ah (uY z E))
    .exact(f2 b B).2.2.2.2.1 x c (gF S cf z)
   have ep:p=(a.heap.objs.size,({cls:=.type "list",data:=.seq its.toArray n}:Obj)):=by simpa [zN]using M
   subst ep;exact ĕ ah
  rcases a4 with⟨stop,q⟩|⟨go,hl2,step⟩
  .refine jU (K.done (zN X sc T idx HH.objs.size a G fp) rfl rfl rfl (hCx _ _ _ _ _ _ S) i _ s3 _ H3 (λ_ _=>False) P3 (L aq) au stop) λr O ⟨hr,I4⟩=>?_;subst hr;obtain⟨m,hn,_⟩:=id I4.loc;exact fin _ _ O _ _ (λh' a0=>VS S E f2 (I4.pins_of (λp M=>nomatch M)) a0 (à _) U ((I4.pin (a.heap.objs.size,{cls:=.type "list",data:=.seq its.toArray n}) (by simp)).1) ag r3 hz) (S.fpOk E (by rw[zO (Ne.symm U)];exact I4.free)) ⟨m,hn⟩ (q _ ag)
  .refine jU (K.item (zN X sc T idx HH.objs.size a G fp) rfl rfl rfl (hCx _ _ _ _ _ _ S) i _ s3 _ H3 (λ_ _=>False) P3 (L aq) au go) λr O ⟨u,hr,h4⟩=>?_;subst hr;refine jU h4 λ_ s5 ⟨x,H5,I5,r5,y5,P,a3⟩=>?_;refine jU (hg HH.objs.size a G fp _ s5 _ H5 x u _ (I5.pinned (L a3) (K.obj _ _ P)) r5 (step x H5 y5 τ a5)) λ_ s6 ⟨a6,H6,I6,⟨ai,e6,l6⟩,q6⟩=>?_;subst e6;refine jU (hc HH.objs.size a G fp _ s6 _ H6 _ I6 (q6 HH.objs.size a fp)) λok s7 ⟨H7,I7,q7⟩=>?_
   have mD:(a.heap.objs.size,({cls:=.type "list",data:=.seq its.toArray n}:Obj))∈(zN X sc T idx HH.objs.size a G fp).pn++([(a.heap.objs.size,{cls:=.type "list",data:=.seq its.toArray n})]++GP fp s5.heap):=
    ñ _ (Ĝ _ (by simp))
   have mF: ∀b∈fp, ∀o,s5.heap.get? b=some o->(b,o)∈(zN X sc T idx HH.objs.size a G fp).pn++([(a.heap.objs.size,{cls:=.type "list",data:=.seq its.toArray n})]++GP fp s5.heap):=λb B o e=>
    ñ _ (ñ _ (uX B e))
   cases ok with
   |false=>
    rw[iN xF0]at q7 ⊢;obtain⟨m',aj,w7⟩:=q7;refine⟨m',aj,i+1,ys,its,n,H7,ai,I7.pins_of (λp M=>nomatch M),l6,K.keep _ _ _ P λb B o e=>(I7.pin _ (mF b B o e)).1,λb B=>?_,(I7.pin _ mD).1,(I7.pin _ mD).2.1,r3,w7⟩;obtain⟨o,e,d⟩:=K.obj _ _ P b B;exact(I7.pin _ (mF b B o e)).2.1
   |true=>
    rw[iP rfl]at q7 ⊢;refine jU (he HH.objs.size a G fp _ s7 _ H7 _ I7 q7) λy s8 ⟨yv,H8,I8,r8,m',aj,w8⟩=>?_;have ab:=(I8.pin _ mD).1;have ax:=(I8.pin _ mD).2.1;have hl:=r3.length;have q:=PySem.IsL.update ab (λz=>z.push y);rw[show its.toArray.push y=(its++[y]).toArray by simp]at q;refine call_meets PySem.F.slot_list_append ⟨_,ab,rfl⟩ PySem.F.entry_list_append (PySem.F.args_list_append_2 _ _) (PySem.list_append a.heap.objs.size its.toArray n y (by rw[sA0];lia)) ⟨ab,?_⟩;have I9:Inv _ [] (ai++CN σ idx) H8 s8:=I8.pins_of (λp M=>nomatch M);have up: ∀b o,b≠a.heap.objs.size->s8.heap.get? b=some o->(s8.heap.update a.heap.objs.size (Obj.mapSeq λz=>z.push y)).get? b=some o:=λb o B e=>(õ s8.heap _ (Ne.symm B)).trans e;refine⟨m',aj,i+1,_,_,_,H8,ai,I9.turned up ax U (.inr (à _)) cD (λp M=>nomatch M),l6,?_,λb B=>?_,q,ax,r3.append (.cons r8 .nil),w8⟩
    .exact K.keep _ _ _ P λb B o e=>up b o (è (Z b B)) (I8.pin _ (mF b B o e)).1
    .obtain⟨o,e,d⟩:=K.obj _ _ P b B;exact(I8.pin _ (mF b B o e)).2.1
 exact codeAny_compStart_list (Y _ rfl) (K.self X.A 0 _ _ _ (K.keep _ _ _ ak λb _ o e=>af b o e) (Y _ rfl))
def Mp(T)(idx)
  (hi:N4 C X tg iter wi) (hCx: ∀c d u fp pins σ,Inv X pins σ u d->C (zN X sc T idx c d u fp)) (hB:sH X.env.scope X.N sc idx=true)
  (hg: ∀C d j fp,PG (zN X sc T idx C d j fp) tg g)
  (hc: ∀C d j fp,Cf (zN X sc T idx C d j fp) ifs (tc C d j fp))
  (he: ∀C d j fp,PE (zN X sc T idx C d j fp) elt (te C d j fp))
  (hs: ∀x,foldedSetIterable iter X.env x=pure x:=by intro _;rfl):
  PE X (.ListComp elt [⟨tg,iter,ifs,0⟩] sc pos) (Gf wi g tc te T.length idx):=by
 intro pins s σ H Q I h;exact RN T idx hi hCx hB hg hc he hs I h λD C e H' r J _ ⟨m,b⟩ q=>⟨m,b,λh' a=>⟨.ref D,H',J h' a,rfl,q⟩⟩
end
noncomputable def nL(x:Db):Str:=⟨x.toArray⟩
def bD(x):(nL x).length=x.length:=by simp[nL,Str.length]
def OA(x):(nL x).cps.toList=x:=by simp[nL]
def FW(h:nL x=nL y):x=y:=by have:=congrArg (λs=>s.cps.toList) h;simpa [nL]using this
def OB(x y):nL x++nL y=nL (x++y):=by show Str.append _ _=_;simp[Str.append,nL]
theorem Mq(c):(⟨#[c]⟩)=nL [c]:=rfl
def gX{α:Type}(xs:List α)(lo hi:O0):List α:=(xs.drop (HT.sIx xs.length 0 lo)).take (HT.sIx xs.length xs.length hi - HT.sIx xs.length 0 lo)
theorem strIdx(lo hi)(n):Builtin.Str.strSliceIndices lo hi 1 n=(List.range (HT.sIx n n hi - HT.sIx n 0 lo)).map (HT.sIx n 0 lo+·):=by
 have a:(match lo with |none=>(if(1:Int)>0 then(0:Int)else(n:Int) - 1)|some i=>if(1:Int)>0 then max 0 (min (if i<0 then i+(n:Int)else i) (n:Int))else max (-1) (min (if i<0 then i+(n:Int)else i) ((n:Int) - 1)))=((HT.sIx n 0 lo:Nat):Int):=by
  cases lo with
  |none=>simp[HT.sIx]
  |some i=>
   simp only[HT.sIx,show(1:Int)>0 by decide,if_true];by_cases h:i<0
   .simp only[h,if_true];lia
   .simp only[h,iF];lia
 have b:(match hi with |none=>(if(1:Int)>0 then(n:Int)else -1)|some i=>if(1:Int)>0 then max 0 (min (if i<0 then i+(n:Int)else i) (n:Int))else max (-1) (min (if i<0 then i+(n:Int)else i) ((n:Int) - 1)))=((HT.sIx n n hi:Nat):Int):=by
  cases hi with
  |none=>simp[HT.sIx]
  |some i=>
   simp only[HT.sIx,show(1:Int)>0 by decide,if_true];by_cases h:i<0
   .simp only[h,if_true];lia
   .simp only[h,iF];lia
 rw[<-sliceRange_one];unfold Builtin.Str.strSliceIndices;rw[<-a, <-b];cases lo<;>cases hi<;>rfl
theorem Ci(x)(lo hi):Txt.slice (nL x) lo hi=nL (gX x lo hi):=by
 unfold Txt.slice;rw[strIdx,bD];have c:=by have:=pick_run (nL x).cps (HT.sIx x.length 0 lo) (HT.sIx x.length x.length hi - HT.sIx x.length 0 lo);exact this
 rw[c];split
 .rename_i a;rw[aE]at a;have b:=by simpa using a.2
  have h:HT.sIx x.length x.length hi<=x.length:=HT.sIx_le _ _ (à _) _;have d:HT.sIx x.length 0 lo<=x.length:=HT.sIx_le _ _ (zero_le _) _;have e:HT.sIx x.length 0 lo=0:=by lia
  unfold gX;rw[b,e];simp
 .rfl
section
def rSlS:V->Option Int->Option Int->Hp->VK->Prop:=λx lo hi H Q=> ∃a,x=.str (nL a)/\a.length<=sizeLine/\Q (.str (nL (gX a lo hi))) H
def Wp:SlR X rSlS:=by
 intro pins s σ H x v z y lo hi sl Q I p hs w m h;obtain⟨r,rfl,n,q⟩:=h;obtain⟨t,rfl⟩:=p;have c:(Txt.slice (nL r) lo hi).length<=sizeLine:=ï (Txt.slice_le _ _ _) (by rw[bD];exact n);rw[<-Ci]at q;refine⟨"str",_,slot_str_getitem.lookup,typeIs_str _ _ _,?_⟩;obtain⟨o,d,b,a⟩:=hs
 cases w with
 |none=>
  cases m with
  |none=>exact ō (l:=none) (u:=none) (st:=none) ⟨o,d,b,a⟩ rfl (post_val_or_str ⟨c,λe k=>⟨.str _,H,I.tok _,⟨_,rfl⟩,q⟩⟩)
  |int j uj=>exact ō (l:=none) (u:=some (j,uj)) (st:=none) ⟨o,d,b,a⟩ rfl (post_val_or_str ⟨c,λe k=>⟨.str _,H,I.tok _,⟨_,rfl⟩,q⟩⟩)
 |int i ui=>
  cases m with
  |none=>exact ō (l:=some (i,ui)) (u:=none) (st:=none) ⟨o,d,b,a⟩ rfl (post_val_or_str ⟨c,λe k=>⟨.str _,H,I.tok _,⟨_,rfl⟩,q⟩⟩)
  |int j uj=>exact ō (l:=some (i,ui)) (u:=some (j,uj)) (st:=none) ⟨o,d,b,a⟩ rfl (post_val_or_str ⟨c,λe k=>⟨.str _,H,I.tok _,⟨_,rfl⟩,q⟩⟩)
noncomputable def OD(a:Db)(k:Int):List Nat:=(List.replicate k.toNat a).flatten
theorem CO(cs): ∀ k (d:Db),List.foldl (λm j=>m++j) d.toArray (List.replicate k cs.toArray)=(d++(List.replicate k cs).flatten).toArray
 |0,d=>by simp
 |k+1,d=>by rw[ŕ,ŕ,flatten_cons, <-aA, <-CO cs k _];simp
theorem VT:OpR X (binaryOp .Mult) (λx y H Q=> ∃d k,x=.str (nL d)/\y=.int k/\0<=k/\k<1000/\d.length<=1000/\Q (.str (nL (OD d k))) H):=by
 intro pins s σ H x y v u Q I r p h;obtain⟨d,k,rfl,rfl,E,B,o,q⟩:=h;obtain⟨t,rfl⟩:=r;obtain⟨C,rfl⟩:=p;have hs:=Ď;have i:d.length * k.toNat<=1000 * 1000:=mul_le_mul o #[0];refine PySem.P.mul_str (by rw[dF0 #[0],dF0 #[0]];rfl) (λD _=>?_) (λ_ _=>?_) ?_
 .rw[bD]
  have:(1000:Int)<=(2 ^ 63 - 1) / k:=by
   rw[Int.le_ediv_iff_mul_le #[0]]
   lia
  lia
 .rw[bD];exact dF0 #[0]
 .have made: ∀(z:Str),z=nL _->z.length<=sizeLine->(Made.str z).post (EP X pins σ Q) s:=λz A m=>⟨m,by rw[A];exact⟨.str _,H,I.tok _,⟨_,rfl⟩,q⟩⟩
  have b:(OD d k).length=k.toNat * d.length:=by unfold OD;rw[len_rep]
  by_cases j:k<1
  .rw[iP j];have n:k.toNat=0:=by lia
   refine made _ ?_ ↑4;unfold OD;rw[n];rfl
  .rw[iN j];by_cases a:(k==1 || (nL d).length==0)=true
   .rw[iP a];refine⟨.str _,H,I,⟨_,rfl⟩,?_⟩
    have:OD d k=d:=by
     unfold OD;rw[Bool.or_eq_true]at a;rcases a with a|a
     .have:=by simpa using a
      subst this;simp
     .rw[bD]at a;have:d=[]:=by cases d with |nil=>rfl|cons _ _=>simp at a
      subst this;simp
    rw[this]at q;exact q
   .rw[iN a];refine made _ ?_ ?_
    .unfold OD nL;have:=CO d k.toNat [];rw[Ħ]at this;exact congrArg Str.mk this
    .have w:(List.foldl (λe c=>e++c) #[] (List.replicate k.toNat (nL d).cps))=(OD d k).toArray:=by have:=CO d k.toNat [];rw[Ħ]at this;exact this
     show(List.foldl (λe c=>e++c) #[] _).size<=sizeLine;rw[w,sA0,b,Nat.mul_comm]
     lia
def OE:CallR X (.builtin "all") (λxs H Q=> ∃(a:Addr)(bs:N0),xs=[.ref a]/\SqL X.K H a (bs.map V.bl)/\X.calm=true/\Q (.bl (bs.all id)) H):=by
 intro pins s σ H xs M Q I r h;obtain⟨a,bs,rfl,C,D,q⟩:=h;obtain⟨u,rfl,J⟩:=vals1 r;cases J;obtain⟨j,A,z,N⟩:=I.list C;have c:j.length=bs.length:=by rw[<-A.length,lM]
 refine PySem.call_all_walk (ľ z.isList ?_);have F:a≠s.heap.objs.size:=by obtain⟨o,E,_⟩:=z.isList;exact è (â E)
 have I1: ∀(h':Heap)(p:Nat),(∀b o,b∉[↑1]->(s.heap.push {cls:=.type "list_iterator",data:=.fields #[.ref a,.int 0 0]}).get? b=some o->h'.get? b=some o)->Inv X pins σ H {s with heap:=h',toks:=p}:=λh' p k=>
  I.kept λb o e=>k b o (by simpa using è (â e)) (hP0 _ e)
 refine⟨_,_,_,_,_,_,λi=>bs.getD i false,rfl,PySem.Walks.list (by first |exact I.ok.hd D|exact _) _ a F j.toArray,⟨⟨_,å _ rfl,rfl,rfl⟩,z.isList.at λo e=>hP0 _ e⟩,?_,λh' p k=>?_⟩
 .intro i v P T S G w;have n:=by simpa using G
  have hi:i<bs.length:=by rw[<-c];exact(gS.mp n).1
  have L:(bs.map V.bl)[i]? =some (V.bl (bs.getD i false)):=by simp[hi]
  obtain⟨O,d,y⟩:=A.get L;rw[n]at d;cases d;cases y;exact ě w
 .refine⟨_,H,I1 h' p k,?_,q⟩;congr 1;rw[sA0,c]
  have: ∀(l:N0),(List.range l.length).all (λi=>l.getD i false)=l.all id:=by
   intro l;rw[Bool.eq_iff_iff,Ē,Ē];constructor
   .intro h x B;obtain⟨i,hi,rfl⟩:=getElem_of_mem B;have:=h i (ý.mpr hi);simpa [ė,hi]using this
   .intro h i hi;have m:=ý.mp hi;have:=h l[i] (ł m);simpa [ė,m]using this
  exact this bs
end
section
def PU(X:Cx)(e:Expr)(t:TE):Prop:= ∀(i:Nat)(x:Str)(a pos:Pos),X.N.Nodup->X.N[i]? =some x->Loc X.env.scope x->(X.fn x=true\/X.env.scope.names.lookup x=some .local)->
 swapsWith e (some (.Name x a)) pos.line X.env=pure true->PS X (.Assign [.Name x a] e pos) (Vj t (Fk i))
def Mr(T)(idx)
  (hi:N4 C X tg iter wi) (hCx: ∀c d B fp pins σ,Inv X pins σ B d->C (zN X sc T idx c d B fp)) (hB:sH X.env.scope X.N sc idx=true)
  (hg: ∀C d u fp,PG (zN X sc T idx C d u fp) tg g)
  (hc: ∀C d u fp,Cf (zN X sc T idx C d u fp) ifs (tc C d u fp))
  (he: ∀C d u fp,PE (zN X sc T idx C d u fp) elt (te C d u fp))
  (hs: ∀x,foldedSetIterable iter X.env x=pure x:=by intro _;rfl):
  PU X (.ListComp elt [⟨tg,iter,ifs,0⟩] sc pos) (Gf wi g tc te T.length idx):=by
 intro i x z A J w E F v pins s σ H D I h;rw[exec_Assign_Name_used _ _ _ _ v];refine wB (wpAny_standAt (wB ?_));refine wB (jU (RN T idx hi hCx hB hg hc he hs I h λG C K H' _ Q j y q=>?_) λ_ M L=>wP (wP L));refine wpAny_assign_Name (LQ (Q K.heap (Heap.SameBut.refl _ _)) J w E (show RelV (.ref G) _ from rfl) (λM O ⟨a,p,n⟩=>?_) F);obtain⟨m,y⟩:=y
 have r:C≠a:=by
  rintro rfl;rcases n with n|n
  .exact j.2.1 n
  .exact j.2.2.2.2.1 x _ n rfl
 refine⟨m,y.sameBut p r,λh' k=>⟨_,H',?_,q⟩⟩;exact O.turned (λb o P e=>(k.2 b P).trans e) j.1 j.2.1 j.2.2.2.1 j.2.2.2.2.1 j.2.2.2.2.2
end
end L2
namespace L2
namespace M
open PySem PySem.Spec PyProof.Rows
def Gj(h:RelV y u)(d:RelV x v)(i:pS y=true)(e:pS x=true):SeqAt.RcAt A s u v (eqV y x)/\SeqAt.RcNeAt A s u v (!eqV y x):=by
 cases y with
 |non=>
  cases h
  cases x with
  |non=>cases d;exact⟨.none_none,.none_none⟩
  |bl b=>cases d;exact⟨.none_bool b,.none_bool b⟩
  |int b=>obtain⟨t,rfl⟩:=d;exact⟨.none_int b t,.none_int b t⟩
  |str b=>obtain⟨t,rfl⟩:=d;exact⟨.none_str b t,.none_str b t⟩
  |_=>cases e
 |bl a=>
  cases h
  cases x with
  |non=>cases d;exact⟨.bool_none a,.bool_none a⟩
  |bl b=>cases d;exact⟨.bool_bool a b,.bool_bool a b⟩
  |int b=>obtain⟨t,rfl⟩:=d;exact⟨.bool_int a b t,.bool_int a b t⟩
  |str b=>obtain⟨t,rfl⟩:=d;exact⟨.bool_str a b t,.bool_str a b t⟩
  |_=>cases e
 |int a=>
  obtain⟨c,rfl⟩:=h
  cases x with
  |non=>cases d;exact⟨.int_none a c,.int_none a c⟩
  |bl b=>cases d;exact⟨.int_bool a c b,.int_bool a c b⟩
  |int b=>obtain⟨t,rfl⟩:=d;exact⟨.int_int a c b t,.int_int a c b t⟩
  |str b=>obtain⟨t,rfl⟩:=d;exact⟨.int_str a c b t,.int_str a c b t⟩
  |_=>cases e
 |str a=>
  obtain⟨c,rfl⟩:=h
  cases x with
  |non=>cases d;exact⟨.str_none a c,.str_none a c⟩
  |bl b=>cases d;exact⟨.str_bool a c b,.str_bool a c b⟩
  |int b=>obtain⟨t,rfl⟩:=d;exact⟨.str_int a c b t,.str_int a c b t⟩
  |str b=>obtain⟨t,rfl⟩:=d;exact⟨.str_str a c b t,.str_str a c b t⟩
  |_=>cases e
 |_=>cases i
abbrev Six(A:Around)(s:Shared)(u v:Value):Prop:=SeqAt.EqAt A s u v false/\SeqAt.EqAt A s v u false/\SeqAt.RcAt A s u v false/\SeqAt.RcAt A s v u false/\SeqAt.RcNeAt A s u v true/\SeqAt.RcNeAt A s v u true
def LX(d:RelV x v)(e:pS x=true)(c:s.heap.IsList l items)(a:A.units<cLine):Six A s (.ref l) v:=by
 cases x with
 |non=>cases d;exact⟨.list_none c a,.none_list c a,.list_none c a,.none_list c a,.list_none c a,.none_list c a⟩
 |bl b=>cases d;exact⟨.list_bool b c a,.bool_list b c a,.list_bool b c a,.bool_list b c a,.list_bool b c a,.bool_list b c a⟩
 |int b=>obtain⟨t,rfl⟩:=d;exact⟨.list_int b t c a,.int_list b t c a,.list_int b t c a,.int_list b t c a,.list_int b t c a,.int_list b t c a⟩
 |str b=>obtain⟨t,rfl⟩:=d;exact⟨.list_str b t c a,.str_list b t c a,.list_str b t c a,.str_list b t c a,.list_str b t c a,.str_list b t c a⟩
 |_=>cases e
def EK(d:RelV x v)(e:pS x=true)(c:s.heap.IsTuple l items)(a:A.units<cLine):Six A s (.ref l) v:=by
 cases x with
 |non=>cases d;exact⟨.tuple_none c a,.none_tuple c a,.tuple_none c a,.none_tuple c a,.tuple_none c a,.none_tuple c a⟩
 |bl b=>cases d;exact⟨.tuple_bool b c a,.bool_tuple b c a,.tuple_bool b c a,.bool_tuple b c a,.tuple_bool b c a,.bool_tuple b c a⟩
 |int b=>obtain⟨t,rfl⟩:=d;exact⟨.tuple_int b t c a,.int_tuple b t c a,.tuple_int b t c a,.int_tuple b t c a,.tuple_int b t c a,.int_tuple b t c a⟩
 |str b=>obtain⟨t,rfl⟩:=d;exact⟨.tuple_str b t c a,.str_tuple b t c a,.tuple_str b t c a,.str_tuple b t c a,.tuple_str b t c a,.str_tuple b t c a⟩
 |_=>cases e
def Gk(h:pS y=true):eqV y y=true:=by cases y<;>first |rfl|(simp[eqV];done)|exact absurd h xF0
abbrev K3:=Option Key
inductive NK where
 |key (k:K3)|tup (ks:List NK)
instance:DecidableEq NK:=λ_ _=>Classical.propDecidable _
section
variable(knd:KeyKind prog w K3)
mutual
def LY(h:Heap):NK->ŗ->Prop
 |.key k,v=>knd.is k v=true
 |.tup ks,v=> ∃a o d n,v=.ref a/\h.get? a=some o/\o.cls=.type "tuple"/\o.data=.seq d n/\uD h ks d.toList
def uD(h:Heap):List NK->List ŗ->Prop
 |[],vs=>vs=[]
 |k::ks,vs=> ∃v r,vs=v::r/\LY h k v/\uD h ks r
end
mutual
def EL:NK->Int
 |.key k=>knd.hash k
 |.tup ks=>reduceHash (Builtin.Tuple.tupleHashOf (GU ks))
def GU:List NK->List Int
 |[]=>[]
 |k::ks=>EL k::GU ks
end
mutual
def GV:NK->Nat
 |.key _=>1
 |.tup ks=>nP ks+1
def nP:List NK->Nat
 |[]=>0
 |k::ks=>GV k+nP ks
end
mutual
def GW:NK->Nat
 |.key _=>0
 |.tup ks=>EM ks+1
def EM:List NK->Nat
 |[]=>0
 |k::ks=>max (GW k) (EM ks)
end
variable{knd}
theorem bE:LY knd h (.key k) v↔knd.is k v=true:=by unfold LY;exact Iff.rfl
def wN:LY knd h (.tup ks) v↔ ∃a o d n,v=.ref a/\h.get? a=some o/\o.cls=.type "tuple"/\o.data=.seq d n/\uD knd h ks d.toList:=by
 conv=>lhs;unfold LY
theorem jV:uD knd h [] vs↔vs=[]:=by unfold uD;exact Iff.rfl
def yU:uD knd h (k::ks) vs↔ ∃v r,vs=v::r/\LY knd h k v/\uD knd h ks r:=by
 conv=>lhs;unfold uD
mutual
theorem OG{h:Heap}: ∀{x y:NK}{v:ŗ},LY knd h x v->LY knd h y v->x=y
 |.key k,.key k',v,hx,hy=>by rw[knd.inj v k k' (bE.mp hx) (bE.mp hy)]
 |.key k,.tup ks,v,hx,hy=>by obtain⟨a,o,d,n,rfl,_⟩:=wN.mp hy;have:=knd.byValue _ _ (bE.mp hx);simp[carriedByValue]at this
 |.tup ks,.key k,v,hx,hy=>by obtain⟨a,o,d,n,rfl,_⟩:=wN.mp hx;have:=knd.byValue _ _ (bE.mp hy);simp[carriedByValue]at this
 |.tup ks,.tup ks',v,hx,hy=>by
  obtain⟨a,o,d,n,e,q,_,p,hi⟩:=wN.mp hx;obtain⟨u,r,c,s,m,j,_,b,i⟩:=wN.mp hy;rw[e]at m;cases m;obtain rfl:o=r:=ã (q.symm.trans j);rw[p]at b;injection b with h1 _
  subst h1;rw[RO hi i]
theorem RO{h:Heap}: ∀{xs d:List NK}{vs:A0},uD knd h xs vs->uD knd h d vs->xs=d
 |[],[],_,_,_=>rfl
 |[],y::d,vs,hx,hy=>by obtain⟨v,r,e,_⟩:=yU.mp hy;rw[jV.mp hx]at e;cases e
 |x::xs,[],vs,hx,hy=>by obtain⟨v,r,e,_⟩:=yU.mp hx;rw[jV.mp hy]at e;cases e
 |x::xs,y::d,vs,hx,hy=>by obtain⟨v,r,e,j,i⟩:=yU.mp hx;obtain⟨k,m,c,b,a⟩:=yU.mp hy;rw[e]at c;cases c;rw[OG j b,RO i a]
end
mutual
theorem RP{h h':Heap}(m: ∀a o d n,h.get? a=some o->o.data=.seq d n->h'.get? a=some o): ∀{x:NK}{v:ŗ},LY knd h x v->LY knd h' x v
 |.key k,v,hx=>bE.mpr (bE.mp hx)
 |.tup ks,v,hx=>by obtain⟨a,o,d,n,e,u,q,j,hi⟩:=wN.mp hx;exact wN.mpr ⟨a,o,d,n,e,m a o d n u j,q,j,LZ m hi⟩
theorem LZ{h h':Heap}(m: ∀a o d n,h.get? a=some o->o.data=.seq d n->h'.get? a=some o): ∀{xs:List NK}{vs:A0},uD knd h xs vs->uD knd h' xs vs
 |[],vs,hx=>jV.mpr (jV.mp hx)
 |x::xs,vs,hx=>by obtain⟨v,r,e,q,j⟩:=yU.mp hx;exact yU.mpr ⟨v,r,e,RP m q,LZ m j⟩
end
theorem GX: ∀d:List NK,GU knd d=d.map (EL knd)
 |[]=>by unfold GU;rfl
 |k::d=>by unfold GU;rw[GX d];rfl
def GY:nP []=0:=by rw[nP]
def sI(k)(ks):nP (k::ks)=GV k+nP ks:=by rw[nP]
def GZ(k)(ks):EM (k::ks)=max (GW k) (EM ks):=by rw[EM]
def pT(ks):GW (.tup ks)=EM ks+1:=by rw[GW]
theorem uI: ∀ xs d ,nP (xs++d)=nP xs+nP d
 |[],d=>by rw[GY,Ħ,ď]
 |x::xs,d=>by rw[List.cons_append,sI,sI,uI xs d];lia
def vT{s:Ŗ}(h:LY knd s.heap (.tup ks) (.ref a)):s.TypeIs (.ref a) "tuple":=by obtain⟨d,o,_,n,e,c,b,_⟩:=wN.mp h;cases e;exact⟨o,c,b⟩
theorem RQ: ∀ n {A}{E}{s}{k}{v}{Q},GW k<=n->A.units+n<cLine->LY knd s.heap k v->Q (EL knd k) {s with toks:=s.toks+GV k}->wpAny (model prog w) A (pyHash v) Q E s
 |n,A,E,s,.key k,v,Q,_,_,d,h=>knd.pyHash (bE.mp d) (by rw[GV]at h;exact h)
 |0,A,E,s,.tup j,v,Q,z,_,_,_=>by rw[pT]at z;lia
 |n+1,A,E,s,.tup j,v,Q,hdep,hu,d,h=>by
  obtain⟨a,o,_,m,rfl,G,I,z,hi⟩:=wN.mp d;have p:s.TypeIs (.ref a) "tuple":=⟨o,G,I⟩
  rw[pT]at hdep
  have u:=by
   have: ∀j:List NK,EM j<=n-> ∀k∈j,GW k<=n:=by
    intro j
    induction j with
    |nil=>intro _ k d;simp at d
    |cons x xs ih=>
     intro D k d;rw[GZ]at D;rcases mC.mp d with rfl|d
     .lia
     .exact ih #[0] k d
   exact this j #[0]
  rw[EL,GV,GX]at h
  first |refine wB (wpAny_cRoomFor_or (.inr #[0]) ?_)|skip
  refine wB (ĸ p F.slot_tuple_hash.lookup ?_);refine wB (ĸ p F.slot_tuple_hash.lookup ?_);refine wB (wpAny_callSpecialIfBoundUnlessNone?_slot p F.slot_tuple_hash (ö F.slot_tuple_hash p F.entry_tuple_hash ?_ (F.args_tuple_hash_1 _)));show wpAny _ _ (Builtin.Tuple.tupleItemsOf _ >>= _) _ _ s;refine wB (wpAny_tupleItemsOf G z ?_);refine wB ?_;rw[<-Array.forIn_toList]
  refine Į _
   (λrest (b:Array Int) y=> ∃c left,j=c++left/\uD knd s.heap left rest/\b.toList=c.map (EL knd)/\y={s with toks:=s.toks+nP c})
   _ ?_ ?_ _ _ ⟨[],j,rfl,hi,rfl,by rw[GY];rfl⟩
  .rintro x rest b y ⟨c,left,rfl,i,B,rfl⟩
   cases left with
   |nil=>rw[jV]at i;cases i
   |cons k ks'=>
    obtain⟨v,r,e,H,C⟩:=yU.mp i;cases e;refine wB (RQ n (u k (by simp)) #[0] H ?_);have J:nP (c++[k])=nP c+GV k:=by rw[uI,sI];rfl
    first
     |exact wP ⟨c++[k],ks',by simp,C,by simp[B],by simp[Ń,J]⟩
     |exact wB _
  .rintro b y ⟨c,left,rfl,i,B,rfl⟩
   cases left with
   |cons k ks'=>obtain⟨v,r,e,_⟩:=yU.mp i;cases e
   |nil=>
    rw[aN]at h;show wpAny _ _ (retInt _) _ _ _;rw[B];refine wpAny_ret_mkInt ?_;show wpAny _ _ (if _=true then _ else _) Q E _;unfold reduceHash at h;by_cases q:(decide (-(2:Int) ^ 63<=Builtin.Tuple.tupleHashOf (c.map (EL knd)))&&decide (Builtin.Tuple.tupleHashOf (c.map (EL knd))<2 ^ 63))=true
    .rw[iP q];rw[iP q]at h;exact wP (by simpa [Ń]using h)
    .rw[iN q];rw[iN q]at h;exact wB (ı (wP (by simpa [Ń]using h)))
end
section
def Cj(h:Q 0xFCA86420 {s with toks:=s.toks+1}):wpAny (model prog w) A (pyHash .none) Q E s:=by
 refine wB ?_;rw[cRoomFor];refine wP ?_;refine wB (ĸ (typeIs_none s) F.slot_NoneType_hash.lookup ?_);refine wB (ĸ (typeIs_none s) F.slot_NoneType_hash.lookup ?_)
 refine wB (wpAny_callSpecialIfBoundUnlessNone?_slot (typeIs_none s) F.slot_NoneType_hash
  (ö F.slot_NoneType_hash (typeIs_none s) F.entry_NoneType_hash
   (wpAny_ret_mkInt ?_) (F.args_NoneType_hash_1 _)))
 show wpAny _ _ _ Q E _;exact wP h
def Q5:K3->ŗ->Bool
 |some k,v=>vR k v
 |none,v=>v==.none
def pU: ∀{k}{v},Q5 k v=true->(∃i t,k=some (.inl i)/\v=Value.int i t)\/(∃x t,k=some (.inr x)/\v=Value.str x t)\/(k=none/\v=.none)
 |some k,v,h=>by
  rcases yG h with⟨i,t,rfl,e⟩|⟨x,t,rfl,e⟩
  .exact .inl ⟨i,t,rfl,e⟩
  .exact .inr (.inl ⟨x,t,rfl,e⟩)
 |none,v,h=>.inr (.inr ⟨rfl,eq_of_beq h⟩)
def mk(prog)(w):KeyKind prog w K3 where
 is:=Q5
 hash:=λ|some k=>L4 w k|none=>0xFCA86420
 inj:=λv a b ha hb=>by rcases pU ha with⟨i,t,rfl,rfl⟩|⟨x,t,rfl,rfl⟩|⟨rfl,rfl⟩<;>rcases pU hb with⟨j,u,rfl,e⟩|⟨y,u,rfl,e⟩|⟨rfl,e⟩<;>first |(injection e with e1 _;rw[e1];done)|rfl|exact nomatch e
 byValue:=λk v h=>by rcases pU h with⟨i,t,rfl,rfl⟩|⟨x,t,rfl,rfl⟩|⟨rfl,rfl⟩<;>rfl
 pyHash:=λhv h=>by
  rcases pU hv with⟨i,t,rfl,rfl⟩|⟨x,t,rfl,rfl⟩|⟨rfl,rfl⟩
  .exact wpAny_pyHash_int h
  .exact wpAny_pyHash_str h
  .exact Cj h
 eqBool:=λ{A} {E} {s} {a} {b} {u} {v} {Q} hu hv h=>by
  cases a with
  |some a=>
   cases b with
   |some b=>exact(cZ prog w).eqBool hu hv (by rw[show decide (some a=some b)=decide (a=b)from by simp]at h;exact h)
   |none=>
    cases eq_of_beq hv;rw[show decide (some a=none)=false from dF0 λz=>nomatch z]at h;rcases yG (show vR a u=true from hu)with⟨i,t,rfl,rfl⟩|⟨x,t,rfl,rfl⟩
    .exact SeqAt.EqAt.int_none i t _ _ _ _ h
    .exact SeqAt.EqAt.str_none x t _ _ _ _ h
  |none=>
   cases eq_of_beq hu
   cases b with
   |some b=>
    rw[show decide (none=some b)=false from dF0 λz=>nomatch z]at h;rcases yG (show vR b v=true from hv)with⟨i,t,rfl,rfl⟩|⟨x,t,rfl,rfl⟩
    .exact SeqAt.EqAt.none_int i t _ _ _ _ h
    .exact SeqAt.EqAt.none_str x t _ _ _ _ h
   |none=>
    cases eq_of_beq hv;rw[show decide ((none:K3)=none)=true from dT0 rfl]at h;exact SeqAt.EqAt.same _ _ _ _ _ h
 «strs»:=λk x t v h=>by
  rcases pU h with⟨i,u,rfl,e⟩|⟨y,u,rfl,e⟩|⟨rfl,e⟩
  .exact nomatch e
  .injection e with e1 _
   subst e1;cases v<;>rfl
  .exact nomatch e
def Ms(a b):decide (NK.key a=NK.key b)=decide (a=b):=by
 by_cases h:a=b
 .subst h;simp
 .rw[dF0 h,dF0 λz=>h (NK.key.inj z)]
def Wq(a)(b):decide (NK.key a=NK.tup b)=false:=dF0 λz=>nomatch z
def Wr(a)(b):decide (NK.tup b=NK.key a)=false:=dF0 λz=>nomatch z
def Ws(a b):decide (NK.tup a=NK.tup b)=decide (a=b):=by
 by_cases h:a=b
 .subst h;simp
 .rw[dF0 h,dF0 λz=>h (NK.tup.inj z)]
def RR(h:(mk prog w).is k v=true): ∃x:V,RelV x v/\pS x=true:=by
 rcases pU h with⟨i,t,rfl,rfl⟩|⟨x,t,rfl,rfl⟩|⟨rfl,rfl⟩
 .exact⟨.int i,⟨t,rfl⟩,rfl⟩
 .exact⟨.str x,⟨t,rfl⟩,rfl⟩
 .exact⟨.non,rfl,rfl⟩
def Ck
  (he: ∀I∈x, ∀G u v  Q ,LY (mk prog w) s.heap I u->LY (mk prog w) s.heap G v->Q (decide (I=G)) s->wpAny (model prog w) A (eqBool u v) Q E s)
  (hx:LY (mk prog w) s.heap (.tup x) (.ref a)) (hy:LY (mk prog w) s.heap (.tup y) (.ref b)) (h:P (.done (.ret (.bool (decide (x=y))))) s):
  wpAny (model prog w) A (Builtin.«tuple.__eq__» ⟨[.ref a,.ref b],[]⟩) P E s:=by
 obtain⟨_,oa,xs,na,e,O,_,L,N⟩:=wN.mp hx;cases e;obtain⟨_,ob,Y,nb,e,U,_,T,S⟩:=wN.mp hy;cases e;show wpAny _ _ (isInstance _ _ >>= _) _ _ s;refine wB (ń (vT hy) isSubtype_tuple_tuple ?_);refine wB (wpAny_tupleItemsOf O L ?_);refine wB (wpAny_tupleItemsOf U T ?_);refine wB ?_
 refine Į _
  (λrest r K=>r.1=none/\K=s/\ ∃F C o m,rest=List.zip o m/\(∀k∈F,k∈x)/\uD _ s.heap F o/\uD _ s.heap C m/\decide (F=C)=decide _/\(o.length==m.length)=(xs.size==Y.size))
  _ ?_ ?_ _ _ ⟨rfl,rfl,x,y,_,_,rfl,λk D=>D,N,S,rfl,by simp⟩
 .rintro⟨u,v⟩ rest r K ⟨Z,rfl,F,C,o,m,B,W,i,c,d,p⟩
  cases F with
  |nil=>rw[jV.mp i]at B;simp at B
  |cons I x''=>
   cases C with
   |nil=>rw[jV.mp c]at B;simp at B
   |cons G y''=>
    obtain⟨u',z,rfl,X,q⟩:=yU.mp i;obtain⟨v',n,rfl,M,j⟩:=yU.mp c;obtain⟨⟨rfl,rfl⟩,rfl⟩:=B;refine wB (he I (W I mF0) G _ _ _ X M ?_);by_cases D:I=G
    .subst D;simp only[fT0];refine wP ⟨rfl,rfl,x'',y'',z,n,rfl,λk D=>W k (mO _ D),q,j,?_,by simpa using p⟩;rw[<-d];by_cases J:x''=y''
     .simp[J]
     .simp[J]
    .rw[dF0 D];have hf:decide (x=y)=false:=by rw[<-d];simp[D]
     rw[hf]at h;exact wB (wP (wP (wP h)))
 .rintro⟨r1,r2⟩ K ⟨Z,rfl,F,C,o,m,B,W,i,c,d,p⟩;subst Z;refine wP ?_
  have H:(xs.size==Y.size)=decide (x=y):=by
   rw[<-d, <-p]
   cases F with
   |nil=>
    rw[jV.mp i]
    cases C with
    |nil=>rw[jV.mp c];simp
    |cons G y''=>obtain⟨v',n,rfl,M,j⟩:=yU.mp c;simp
   |cons I x''=>
    obtain⟨u',z,rfl,X,q⟩:=yU.mp i
    cases C with
    |nil=>rw[jV.mp c];simp
    |cons G y''=>obtain⟨v',n,rfl,M,j⟩:=yU.mp c;simp at B
  show P (.done (.ret (.bool _))) K;rw[H];exact h
theorem HA: ∀{d},EM d<=n-> ∀k∈d,GW k<=n
 |[],_,k,hk=>by simp at hk
 |x::xs,hx,k,hk=>by
  rw[GZ]at hx;rcases mC.mp hk with rfl|hk
  .lia
  .exact HA #[0] k hk
theorem RS: ∀ n {A}{E}{s}{x y}{u v}{Q},GW x<=n->A.units+n<cLine->LY (mk prog w) s.heap x u->LY (mk prog w) s.heap y v->Q (decide (x=y)) s->wpAny (model prog w) A (eqBool u v) Q E s
 |n,A,E,s,.key a,.key b,u,v,Q,_,_,hx,hy,h=>(mk prog w).eqBool (bE.mp hx) (bE.mp hy) (by rw[Ms]at h;exact h)
 |n,A,E,s,.key a,.tup b,u,v,Q,_,hu,hx,hy,h=>by obtain⟨z,q,j⟩:=RR (bE.mp hx);obtain⟨l,o,_,m,rfl,p,i,c,_⟩:=wN.mp hy;rw[Wq]at h;exact(EK q j ⟨o,p,i,m,c⟩ #[0]).2.1 prog w E Q h
 |n,A,E,s,.tup a,.key b,u,v,Q,_,hu,hx,hy,h=>by obtain⟨z,q,j⟩:=RR (bE.mp hy);obtain⟨l,o,_,m,rfl,p,i,c,_⟩:=wN.mp hx;rw[Wr]at h;exact(EK q j ⟨o,p,i,m,c⟩ #[0]).1 prog w E Q h
 |0,A,E,s,.tup a,.tup b,u,v,Q,c,_,hx,hy,h=>by rw[pT]at c;lia
 |n+1,A,E,s,.tup x,.tup y,u,v,Q,c,hu,hx,hy,h=>by
  obtain⟨a,_,_,_,B,_⟩:=wN.mp hx;obtain⟨b,_,_,_,G,_⟩:=wN.mp hy;subst B G;rw[pT]at c;rw[Ws]at h;unfold eqBool
  try with_reducible refine Ă ?_
  by_cases d:(Value.ref a==Value.ref b)=true
  .rw[iP d];have e:=by have:=eq_of_beq d;injection this
   subst e;have:=NK.tup.inj (OG hx hy);subst this;exact wB (ı (wP (by simpa using h)))
  .rw[iN d]
   refine wB (wpAny_richCompare_same_room (vT hx) (vT hy) F.slot_tuple_eq
    (ö F.slot_tuple_eq (vT hx) F.entry_tuple_eq (Ck (λH k I u v Q D r C=>RS n (HA #[0] H k) #[0] D r C) hx hy ⟨_,rfl,(λe=>nomatch e),ě h⟩) (F.args_tuple_eq_2 _ _)) #[0])
theorem YJ: ∀ n m {A}{E}{s}{x}{u}{Q},GW x<=n->n<m->LY (mk prog w) s.heap x u->Q true s->wpAny (model prog w) A (eqIsQuiet m u) Q E s
 |n,m,A,E,s,.key k,u,Q,_,_,hx,h=>by rw[eqIsQuiet_byValue m ((mk prog w).byValue _ _ (bE.mp hx))];exact wP h
 |0,m,A,E,s,.tup ks,u,Q,d,_,hx,h=>by rw[pT]at d;lia
 |n+1,0,A,E,s,.tup ks,u,Q,d,hm,hx,h=>by lia
 |n+1,m+1,A,E,s,.tup ks,u,Q,hdp,hm,hx,h=>by
  obtain⟨a,o,_,j,rfl,q,G,d,hi⟩:=wN.mp hx;have y:s.TypeIs (.ref a) "tuple":=⟨o,q,G⟩
  rw[pT]at hdp;unfold eqIsQuiet;refine wB (ĸ y F.slot_tuple_eq.lookup ?_);refine wB (ń y isSubtype_tuple_tuple ?_);refine wB (wpAny_seqItems q d ?_);refine wB ?_;rw[<-Array.forIn_toList];refine Į _ (λrest r p=>r.1=none/\p=s/\ ∃left,(∀k∈left,k∈ks)/\uD _ s.heap left rest) _ ?_ ?_ _ _ ⟨rfl,rfl,ks,λk c=>c,hi⟩
  .rintro v rest r p ⟨z,rfl,left,b,i⟩
   cases left with
   |nil=>rw[jV]at i;cases i
   |cons k left=>
    obtain⟨I,H,e,B,C⟩:=yU.mp i;cases e;refine wB (YJ n m (HA #[0] k (b k mF0)) #[0] B ?_);exact wP ⟨rfl,rfl,left,λk c=>b k (mO _ c),C⟩
  .rintro⟨D,J⟩ p ⟨z,rfl,_⟩;subst z;exact wP h
end
def Gn(prog)(w):HeapKind prog w NK where
 is:=λh k a=>LY (mk prog w) h k (.ref a)/\GW k<=4
 hash:=EL (mk prog w)
 draws:=GV
 room:=λA=>A.units+4<cLine
 inj:=λhx hy=>OG hx.1 hy.1
 keeps:=λx ho hd hs=>⟨RP (λa o' items n e q=>(hs.2 a λz=>by subst z;rw[ho]at e;cases e;rw[hd]at q;cases q).trans e) x.1,x.2⟩
 pyHash:=λhu hk h=>RQ 4 hk.2 hu hk.1 h
 eqBool:=λhu hx hy h=>RS 4 hx.2 hu hx.1 hy.1 h
 quiet:=λhk h=>YJ 4 8 hk.2 ↑4 hk.1 h
noncomputable def DN(P:Ř)(w:World)(a:Addr)(xs:List (NK×Addr×ŗ)):HO:=
 .ext λh=>xs.length<=sizeLine/\(a==sysModules)=false/\ ∃o es b,h.get? a=some o/\o.ExactDict/\o.data=.dict es b/\es.toList=xs.map (entryOfKey (Gn P w))/\(xs.map (·.1)).Nodup
end M
end L2
namespace L2
open PySem PySem.Spec PyProof.Rows
def Fly(h:Heap)(e T:Addr)(cls:ŗ)(d:Option Addr)(j:ŗ):Prop:=
 ∃a b i c,h.get? e=some a/\a.cls=cls/\a.dict=d/\a.data=.fields b/\b[1]? =some (.ref T)/\T≠e/\h.get? T=some i/\i.data=.fields c/\c[3]? =some j/\b[2]? =some .none
structure Mvd(fs:B9)(e T:Addr)(h h':Heap):Prop where
 keep: ∀b o,b≠e->b≠T->b∉fs->h.get? b=some o->h'.get? b=some o
 slot: ∀b o,b≠e->b≠T->h.get? b=some o-> ∃sl,h'.get? b=some {o with slots:=sl}
 there: ∀b o,h.get? b=some o-> ∃o',h'.get? b=some o'
def Mvd.new(a:Mvd fs e T h d)(n:h.get? T'=none)(b:Mvd fs e T' d j):Mvd fs e T h j:=by
 have ne: ∀c o,h.get? c=some o->c≠T':=λc o q z=>by rw[z,n]at q;cases q
 exact⟨λc o d j m q=>b.keep c o d (ne c o q) m (a.keep c o d j m q),λc o d j q=>by obtain⟨sl,i⟩:=a.slot c o d j q;obtain⟨k,r⟩:=b.slot c _ d (ne c o q) i;exact⟨k,r⟩,λc o q=>let ⟨p,i⟩:=a.there c o q;b.there c p i⟩
def CXe(P:Ř)(w:World):YE:=λa H s E x b=> ∃e T C d H',x=.ref e/\b.os=s.os/\AllBare b.gens/\Un (Ex a) [] H H' s.heap b.heap/\HOk P w H' b.heap/\Fly b.heap e T (.ref C) d .none/\
 s.heap.get? e=none/\s.heap.get? T=none/\H' e=none/\H' T=none/\E (.ref C) d H'
noncomputable abbrev Z9:List Value:=[.type "ValueError",.type "Exception",.type "BaseException",.type "object"]
noncomputable def qn:List Str:=["__class__","__getattribute__","__getattr__","__setattr__","place","ring"]
end L2
namespace L2
namespace M
open PySem PySem.Spec PyProof.Rows
inductive MV where
 |non|bl (b:Bool)|int (i:Int)|str (x:Db)|tup (ds:List MV)|scr (ds:List MV)|loc (l:Nat)|typ (n:String)|obj (c:Str) (ns:K0) (ds:List MV)
abbrev U0:=List MV
abbrev V0:=Option MV
abbrev Z0:=List (Nat×List MV)
abbrev zA0:=List (MV×MV)
instance:Inhabited MV:=⟨.non⟩
inductive MO where
 |lst (ds:U0)|dic (kvs:zA0)|ins (c:Str) (fs:List (Str×MV))|rcd (c:Str) (fs:List (Str×MV))|fdc (kvs:zA0)
abbrev Sto:=List MO
def SqF(K:Q0)(H:Hp)(a:Addr)(xs:List V):Prop:=
 (∃o,H a=some (.frz o (.lst xs)))\/
  ∃(o:Obj)(its:B0)(n:Nat),K.lookup a=some o/\o.cls=.type "list"/\o.dict=none/\o.data=.seq its n/\its.size<=sizeLine/\Vals xs its.toList
def SqF.l{K:Q0}(h:SqF K H a xs):SqL K H a xs:=by
 rcases h with⟨o,h⟩|h
 .exact .inl (.inr ⟨o,h⟩)
 .exact .inr h
mutual
def Den(K:Q0)(α:B9)(H:Hp):MV->V->Prop
 |.non,v=>v=.non
 |.bl b,v=>v=.bl b
 |.int i,v=>v=.int i
 |.str x,v=>v=.str (nL x)
 |.tup ds,v=> ∃a vs,v=.ref a/\SqT K H a vs/\DenL K α H ds vs
 |.scr ds,v=> ∃a vs,v=.ref a/\SqF K H a vs/\DenL K α H ds vs
 |.loc l,v=> ∃a,v=.ref a/\α[l]? =some a
 |.typ n,v=>v=.ty n
 |.obj c ns ds,v=> ∃a C d vs o,v=.ref a/\H a=some (.frz o (.ins C d (ns.zip vs)))/\PySem.W.nsIn K mainGlobals c=some (some (.ref C))/\(PySem.W.clsIn K C).map (·.name)=some c/\ns.length=vs.length/\DenL K α H ds vs
def DenL(K:Q0)(α:B9)(H:Hp):List MV->List V->Prop
 |[],vs=>vs=[]
 |d::ds,vs=> ∃v r,vs=v::r/\Den K α H d v/\DenL K α H ds r
end
structure Ex0(α:B9)(H:Hp)(α':B9)(H':Hp):Prop where
 pre: ∃t,α'=α++t
 tup: ∀b xs,H b=some (.tup xs)->H' b=some (.tup xs)
 frz: ∀b o u,H b=some (.frz o u)->H' b=some (.frz o u)
structure Ext(α:B9)(H:Hp)(α':B9)(H':Hp):Prop extends Ex0 α H α' H' where
 new: ∀b∈α',b∈α\/H b=none
 keep: ∀b o,H b=some o->b∉α->H' b=some o
 has: ∀b o,H b=some o-> ∃o',H' b=some o'
section
variable{K:Q0}{α α':B9}{H H':Hp}
def Ext.refl(α)(H):Ext α H α H:=⟨⟨⟨[],by simp⟩,λ_ _ h=>h,λ_ _ _ h=>h⟩,λb h=>.inl h,λ_ _ h _=>h,λ_ o h=>⟨o,h⟩⟩
def Ex0.grow(α t)(H):Ex0 α H (α++t) H:=⟨⟨t,rfl⟩,λ_ _ h=>h,λ_ _ _ h=>h⟩
def Ext.free(x:Ext α H α' H')(h:H' b=none):H b=none:=by
 cases e:H b with
 |none=>rfl
 |some o=>obtain⟨a,h'⟩:=x.has b o e;rw[h]at h';cases h'
def Ext.out(x:Ext α H α' H')(h:H b=some o)(n:b∉α):b∉α':=λz=>by
 rcases x.new b z with z|z
 .exact n z
 .rw[h]at z;cases z
def Ext.trans(x:Ext α H α' H')(y:Ext α' H' α'' H''):Ext α H α'' H'' where
 pre:=by obtain⟨t,rfl⟩:=x.pre;obtain⟨u,rfl⟩:=y.pre;exact⟨_,by rw[aA]⟩
 new:=λb h=>(y.new b h).elim (x.new b) λz=>.inr (x.free z)
 keep:=λb o h n=>y.keep b o (x.keep b o h n) (x.out h n)
 has:=λb o h=>let ⟨o',h'⟩:=x.has b o h;y.has b o' h'
 tup:=λb xs h=>y.tup b xs (x.tup b xs h)
 frz:=λb o u h=>y.frz b o u (x.frz b o u h)
def Ex0.at(x:Ex0 α H α' H'){l:Nat}(h:α[l]? =some a):α'[l]? =some a:=by obtain⟨t,rfl⟩:=x.pre;rw[æ (gS.mp h).1];exact h
def Ex0.sqT(x:Ex0 α H α' H')(q:SqT K H a vs):SqT K H' a vs:=by
 rcases q with(q|⟨o,q⟩)|q
 .exact .inl (.inl (x.tup a vs q))
 .exact .inl (.inr ⟨o,x.frz a o _ q⟩)
 .exact .inr q
def Ex0.sqF(x:Ex0 α H α' H')(q:SqF K H a vs):SqF K H' a vs:=by
 rcases q with⟨o,q⟩|q
 .exact .inl ⟨o,x.frz a o _ q⟩
 .exact .inr q
mutual
theorem Den.ex0(x:Ex0 α H α' H'): ∀{d:MV}{v:V},Den K α H d v->Den K α' H' d v
 |.non,_,q=>by unfold Den at q ⊢; exact q
 |.bl _,_,q=>by unfold Den at q ⊢; exact q
 |.int _,_,q=>by unfold Den at q ⊢; exact q
 |.str _,_,q=>by unfold Den at q ⊢; exact q
 |.typ _,_,q=>by unfold Den at q ⊢; exact q
 |.obj c ns ds,_,q=>by unfold Den at q ⊢;obtain⟨a,C,m,vs,o,e,h,j,u,y,l⟩:=q;exact⟨a,C,m,vs,o,e,x.frz a _ _ h,j,u,y,DenL.ex0 x l⟩
 |.loc _,_,q=>by unfold Den at q ⊢;obtain⟨a,e,h⟩:=q;exact⟨a,e,x.at h⟩
 |.tup ds,_,q=>by unfold Den at q ⊢;obtain⟨a,vs,e,s,l⟩:=q;exact⟨a,vs,e,x.sqT s,DenL.ex0 x l⟩
 |.scr ds,_,q=>by unfold Den at q ⊢;obtain⟨a,vs,e,s,l⟩:=q;exact⟨a,vs,e,x.sqF s,DenL.ex0 x l⟩
theorem DenL.ex0(x:Ex0 α H α' H'): ∀{ds:U0}{vs:List V},DenL K α H ds vs->DenL K α' H' ds vs
 |[],_,q=>by unfold DenL at q ⊢; exact q
 |d::ds,_,q=>by unfold DenL at q ⊢;obtain⟨v,r,e,a,l⟩:=q;exact⟨v,r,e,Den.ex0 x a,DenL.ex0 x l⟩
end
def Den.ext(x:Ext α H α' H')(q:Den K α H d v):Den K α' H' d v:=q.ex0 x.toEx0
def DenL.ext(x:Ext α H α' H')(q:DenL K α H d v):DenL K α' H' d v:=q.ex0 x.toEx0
theorem FX:Den K α H .non .non:=by unfold Den;rfl
theorem cM(b):Den K α H (.bl b) (.bl b):=by unfold Den;rfl
theorem kX(i):Den K α H (.int i) (.int i):=by unfold Den;rfl
theorem oE(x):Den K α H (.str x) (.str (nL x)):=by unfold Den;rfl
theorem YK(n):Den K α H (.typ n) (.ty n):=by unfold Den;rfl
def qQ(s:SqT K H a vs)(l:DenL K α H ds vs):Den K α H (.tup ds) (.ref a):=by unfold Den;exact⟨a,vs,rfl,s,l⟩
def YL(s:SqF K H a vs)(l:DenL K α H ds vs):Den K α H (.scr ds) (.ref a):=by unfold Den;exact⟨a,vs,rfl,s,l⟩
def FY(h:α[l]? =some a):Den K α H (.loc l) (.ref a):=by unfold Den;exact⟨a,rfl,h⟩
def lW(d:Den K α H .non v):v=.non:=by unfold Den at d;exact d
def pV(d:Den K α H (.bl b) v):v=.bl b:=by unfold Den at d;exact d
def xH(d:Den K α H (.int i) v):v=.int i:=by unfold Den at d;exact d
def xI(d:Den K α H (.str x) v):v=.str (nL x):=by unfold Den at d;exact d
def YM(h:H a=some (.frz o (.ins C dx (ns.zip vs))))(b:PySem.W.nsIn K mainGlobals c=some (some (.ref C)))(d:(PySem.W.clsIn K C).map (·.name)=some c)(e:ns.length=vs.length)(l:DenL K α H ds vs):Den K α H (.obj c ns ds) (.ref a):=by unfold Den;exact⟨a,C,dx,vs,o,rfl,h,b,d,e,l⟩
def nQ(d:Den K α H (.obj c ns ds) v): ∃a C j vs o,v=.ref a/\H a=some (.frz o (.ins C j (ns.zip vs)))/\PySem.W.nsIn K mainGlobals c=some (some (.ref C))/\(PySem.W.clsIn K C).map (·.name)=some c/\ns.length=vs.length/\DenL K α H ds vs:=by unfold Den at d;exact d
def fU(d:Den K α H (.typ n) v):v=.ty n:=by unfold Den at d;exact d
def yY(d:Den K α H (.tup ds) v): ∃a vs,v=.ref a/\SqT K H a vs/\DenL K α H ds vs:=by unfold Den at d;exact d
def nR(d:Den K α H (.scr ds) v): ∃a vs,v=.ref a/\SqF K H a vs/\DenL K α H ds vs:=by unfold Den at d;exact d
def dA(d:Den K α H (.loc l) v): ∃a,v=.ref a/\α[l]? =some a:=by unfold Den at d;exact d
theorem yK:DenL K α H [] []:=by unfold DenL;rfl
def yE(a:Den K α H d v)(l:DenL K α H ds vs):DenL K α H (d::ds) (v::vs):=by unfold DenL;exact⟨v,vs,rfl,a,l⟩
def DenL.uncons(l:DenL K α H (d::ds) vs): ∃v r,vs=v::r/\Den K α H d v/\DenL K α H ds r:=by unfold DenL at l;exact l
def DenL.isnil(l:DenL K α H [] vs):vs=[]:=by unfold DenL at l;exact l
theorem DenL.length: ∀{ds}{vs},DenL K α H ds vs->vs.length=ds.length
 |[],_,q=>by rw[q.isnil];rfl
 |d::ds,_,q=>by obtain⟨v,r,rfl,_,l⟩:=q.uncons;rw[lC,lC,DenL.length l]
theorem DenL.append: ∀{ds es}{vs j},DenL K α H ds vs->DenL K α H es j->DenL K α H (ds++es) (vs++j)
 |[],_,_,_,q,l=>by rw[q.isnil];exact l
 |d::ds,_,_,_,q,l=>by obtain⟨v,r,rfl,a,l'⟩:=q.uncons;exact yE a (DenL.append l' l)
theorem DenL.drop: ∀{ds}{vs} n ,DenL K α H ds vs->DenL K α H (ds.drop n) (vs.drop n)
 |_,_,0,q=>q
 |[],_,n+1,q=>by rw[q.isnil];exact yK
 |d::ds,_,n+1,q=>by obtain⟨v,r,rfl,_,l⟩:=q.uncons;exact DenL.drop n l
theorem DenL.take: ∀{ds}{vs} n ,DenL K α H ds vs->DenL K α H (ds.take n) (vs.take n)
 |_,_,0,q=>yK
 |[],_,n+1,q=>by rw[q.isnil];exact yK
 |d::ds,_,n+1,q=>by obtain⟨v,r,rfl,a,l⟩:=q.uncons;exact yE a (DenL.take n l)
theorem DenL.reverse: ∀{ds}{vs},DenL K α H ds vs->DenL K α H ds.reverse vs.reverse
 |[],_,q=>by rw[q.isnil];exact yK
 |d::ds,_,q=>by obtain⟨v,r,rfl,a,l⟩:=q.uncons;rw[reverse_cons,reverse_cons];exact(DenL.reverse l).append (yE a yK)
theorem DenL.set(a:Den K α H d v): ∀{ds}{vs} n ,DenL K α H ds vs->DenL K α H (ds.set n d) (vs.set n v)
 |[],_,_,q=>by rw[q.isnil];exact yK
 |e::ds,_,0,q=>by obtain⟨m,r,rfl,j,l⟩:=q.uncons;exact yE a l
 |e::ds,_,n+1,q=>by obtain⟨m,r,rfl,j,l⟩:=q.uncons;exact yE j (DenL.set a n l)
theorem DenL.get: ∀{ds}{vs}{i:Nat}{v},DenL K α H ds vs->vs[i]? =some v-> ∃d,ds[i]? =some d/\Den K α H d v
 |[],_,_,_,q,e=>by rw[q.isnil]at e;simp at e
 |d::ds,_,0,_,q,e=>by obtain⟨v,r,rfl,a,l⟩:=q.uncons;simp at e;subst e;exact⟨d,rfl,a⟩
 |d::ds,_,i+1,_,q,e=>by obtain⟨v,r,rfl,a,l⟩:=q.uncons;obtain⟨c,h,b⟩:=DenL.get l (by simpa using e);exact⟨c,by simpa using h,b⟩
def DenL.at{i:Nat}(q:DenL K α H ds vs)(e:ds[i]? =some d): ∃v,vs[i]? =some v/\Den K α H d v:=by
 have b:i<vs.length:=by rw[q.length];exact((gS.mp e).1)
 obtain⟨h,a,c⟩:=q.get (gE b);rw[e]at a;cases a;exact⟨_,gE b,c⟩
def DenL.cut(q:DenL K α H ds vs)(lo hi):DenL K α H (gX ds lo hi) (Bz vs lo hi):=by unfold gX Bz;rw[q.length];exact(q.drop _).take _
theorem CP: ∀(ns:Za),DenL K α H (ns.map MV.int) (ns.map V.int)
 |[]=>yK
 |b::bs=>yE (kX b) (CP bs)
end
structure Gm where
 K:PySem.W.Frag
 mg:Str->Option ŗ
 P:Ř
 w:World
abbrev _root_.L2.Cx.g(X:Cx):Gm:=⟨X.K,X.mg,X.prog,X.w⟩
inductive DenF(K:Q0)(α:B9)(H:Hp):List (Str×MV)->List (Str×V)->Prop
 |nil:DenF K α H [] []
 |cons {x:Str} {d:MV} {v:V} {fs gs}:Den K α H d v->DenF K α H fs gs->DenF K α H ((x,d)::fs) ((x,v)::gs)
def DenF.ex0{K:Q0}(x:Ex0 α H α' H'): ∀{fs gs},DenF K α H fs gs->DenF K α' H' fs gs:=λb=>by
 induction b with
 |nil=>exact .nil
 |cons a l ih=>exact .cons (a.ex0 x) (ih)
def KeyD:MV->Key->Prop
 |.int i,k=>k=.inl i
 |.str x,k=>k=.inr (nL x)
 |_,_=>False
inductive DenK(K:Q0)(α:B9)(H:Hp):List (MV×MV)->List (Key×V)->Prop
 |nil:DenK K α H [] []
 |cons {k:MV} {k':Key} {d:MV} {v:V} {fs gs}:KeyD k k'->Den K α H d v->DenK K α H fs gs->DenK K α H ((k,d)::fs) ((k',v)::gs)
def DenK.ex0{K:Q0}(x:Ex0 α H α' H'): ∀{fs gs},DenK K α H fs gs->DenK K α' H' fs gs:=λb=>by
 induction b with
 |nil=>exact .nil
 |cons k a l ih=>exact .cons k (a.ex0 x) (ih)
mutual
def Q6:MV->Option NK
 |.non=>some (.key none)
 |.int i=>some (.key (some (.inl i)))
 |.str x=>some (.key (some (.inr (nL x))))
 |.tup ds=>(Sz ds).map .tup
 |_=>none
def Sz:List MV->Option (List NK)
 |[]=>some []
 |d::ds=>(Q6 d).bind λk=>(Sz ds).map (k::·)
end
inductive DenN(K:Q0)(α:B9)(H:Hp):List (MV×MV)->List (NK×Addr×ŗ)->Prop
 |nil:DenN K α H [] []
 |cons {k:MV} {nk:NK} {a:Addr} {d:MV} {v:V} {u:ŗ} {fs xs}:Q6 k=some nk->GW nk<=4->Den K α H k (.ref a)->Den K α H d v->RelV v u->DenN K α H fs xs->DenN K α H ((k,d)::fs) ((nk,a,u)::xs)
def DenN.ex0{K:Q0}(x:Ex0 α H α' H'): ∀{fs xs},DenN K α H fs xs->DenN K α' H' fs xs:=λb=>by
 induction b with
 |nil=>exact .nil
 |cons k e a d r l ih=>exact .cons k e (a.ex0 x) (d.ex0 x) r (ih)
def ObD(g:Gm)(α:B9)(H:Hp)(a:Addr):MO->Prop
 |.lst ds=> ∃vs,H a=some (.lst vs)/\DenL g.K α H ds vs
 |.dic kvs=>(∃m,H a=some (.dK m)/\DenK g.K α H kvs m)\/ ∃xs,H a=some (DN g.P g.w a xs)/\DenN g.K α H kvs xs
 |.ins c fs=> ∃C gs,g.mg c=some (.ref C)/\DenF g.K α H fs gs/\
   ∃d,H a=some (.frz d (.ext λh=>h.get? a=some d))/\d.cls=.ref C/\(fs=[]\/ ∃j q,d.dict=some j/\H j=some (.frz q (.xd gs))/\ ∃vs,d.data=.fields vs)
 |.rcd c fs=> ∃C j gs,PySem.W.nsIn g.K mainGlobals c=some (some (.ref C))/\H a=some (.ins C j gs)/\DenF g.K α H fs gs
 |.fdc kvs=> ∃d xs,H a=some (.frz d (DN g.P g.w a xs))/\DenN g.K α H kvs xs
def ObD.there(h:ObD g α H a o): ∃d,H a=some d/\(∀xs,d≠.tup xs)/\ ∀ob u,d=.frz ob u-> ∃j,u=.ext j:=by
 cases o with
 |lst ds=>obtain⟨b,h,_⟩:=h;exact⟨_,h,(λxs z=>by cases z),λ_ _ z=>by cases z⟩
 |dic ds=>
  rcases h with⟨b,h,_⟩|⟨b,h,_⟩
  .exact⟨_,h,(λxs z=>by cases z),λ_ _ z=>by cases z⟩
  .exact⟨_,h,(λxs z=>by cases z),λ_ _ z=>by cases z⟩
 |ins c ds=>
  obtain⟨_,_,_,_,_,h,_⟩:=h;exact⟨_,h,(λxs z=>by cases z),λ_ _ z=>by cases z;exact⟨_,rfl⟩⟩
 |rcd c ds=>obtain⟨_,_,_,_,h,_⟩:=h;exact⟨_,h,(λxs z=>by cases z),λ_ _ z=>by cases z⟩
 |fdc kvs=>obtain⟨_,_,h,_⟩:=h;exact⟨_,h,(λxs z=>by cases z),λ_ _ z=>by cases z;exact⟨_,rfl⟩⟩
def ObD.move(h:ObD g α H a o)(x:Ex0 α H α' H')(e:H' a=H a):ObD g α' H' a o:=by
 cases o with
 |lst ds=>obtain⟨b,h,l⟩:=h;exact⟨b,e.trans h,l.ex0 x⟩
 |dic ds=>
  rcases h with⟨b,h,l⟩|⟨b,h,l⟩
  .exact .inl ⟨b,e.trans h,l.ex0 x⟩
  .exact .inr ⟨b,e.trans h,l.ex0 x⟩
 |ins c ds=>
  obtain⟨C,d,m,l,j,h,q,n⟩:=h;exact⟨C,d,m,l.ex0 x,j,e.trans h,q,n.imp id λ⟨i,r,s,k,p⟩=>⟨i,r,s,x.frz _ _ _ k,p⟩⟩
 |rcd c ds=>obtain⟨C,i,d,m,h,l⟩:=h;exact⟨C,i,d,m,e.trans h,l.ex0 x⟩
 |fdc kvs=>obtain⟨j,xs,h,l⟩:=h;exact⟨j,xs,e.trans h,l.ex0 x⟩
structure Wd(g:Gm)(α:B9)(S:Sto)(H:Hp):Prop where
 len:α.length=↑0
 nd:α.Nodup
 obj: ∀(l:Nat)(a:Addr)(o:MO),α[l]? =some a->S[l]? =some o->ObD g α H a o
section
variable{H:Hp}
def Wd.at(w:Wd g α S H){l:Nat}(h:S[l]? =some o): ∃a,α[l]? =some a/\ObD g α H a o:=by
 have b:l<α.length:=by rw[w.len];exact(gS.mp h).1
 exact⟨α[l],gE b,w.obj l _ o (gE b) h⟩
def Wd.of(w:Wd g α S H){l:Nat}(h:α[l]? =some a): ∃o,S[l]? =some o/\ObD g α H a o:=by
 have b:l<S.length:=by rw[<-w.len];exact(gS.mp h).1
 exact⟨S[l],gE b,w.obj l a _ h (gE b)⟩
def Wd.mem(w:Wd g α S H)(h:a∈α): ∃d,H a=some d/\(∀xs,d≠.tup xs)/\ ∀ob u,d=.frz ob u-> ∃j,u=.ext j:=by obtain⟨l,b⟩:=ĝ h;obtain⟨o,_,q⟩:=w.of b;exact q.there
def Wd.newx(w:Wd g α S H)(hp:H p=none):Ext α H α (wG H p o) where
 pre:=⟨[],by simp⟩
 new:=λb h=>.inl h
 keep:=λb o h _=>by rw[zO (yA h hp)];exact h
 has:=λb o h=>⟨o,by rw[zO (yA h hp)];exact h⟩
 tup:=λb o h=>by rw[zO (yA h hp)];exact h
 frz:=λb o u h=>by rw[zO (yA h hp)];exact h
def Wd.fresh(w:Wd g α S H)(a:H p=none):p∉α:=λz=>by obtain⟨_,h,_⟩:=w.mem z;rw[a]at h;cases h
def Wd.new(w:Wd g α S H)(c:H p=none):Wd g α S (wG H p o):=
 ⟨w.len,w.nd,λl a ob b d=>(w.obj l a ob b d).move (w.newx c).toEx0 (zO λz=>w.fresh c (by rw[<-z];exact á b))⟩
def Ta(h:H a=some ho)(n: ∀ob u,ho≠.frz ob u:=by intro _ _ z;cases z): ∀ob u,H a≠some (.frz ob u):=λob u z=>n ob u (ã (h.symm.trans z))
def Wd.writex(w:Wd g α S H){l:Nat}(h:α[l]? =some a)(nf: ∀ob u,H a≠some (.frz ob u)):Ext α H α (wG H a o) where
 pre:=⟨[],by simp⟩
 new:=λb h=>.inl h
 keep:=λb o e n=>by rw[zO λz=>n (by rw[z];exact á h)];exact e
 has:=λb o e=>by
  by_cases z:b=a
  .subst z;exact⟨_,yN⟩
  .exact⟨o,by rw[zO z];exact e⟩
 tup:=λb xs e=>by obtain⟨ho,h1,h2,_⟩:=w.mem (á h);rw[zO λz=>h2 xs (by subst z;rw[e]at h1;exact(ã h1).symm)];exact e
 frz:=λb ob u e=>by rw[zO λz=>nf ob u (by rw[<-z];exact e)];exact e
def Wd.ne(w:Wd g α S H){l:Nat}(h:α[l]? =some a)(h':α[m]? =some b)(n:l≠m):a≠b:=by rintro rfl;obtain⟨i,c⟩:=gS.mp h;obtain⟨e,d⟩:=gS.mp h';exact n ((getElem_inj w.nd).mp (c.trans d.symm))
def Wd.write(w:Wd g α S H)(h:α[l]? =some a)(nf: ∀ob u,H a≠some (.frz ob u))(q:ObD g α (wG H a o) a ob):Wd g α (S.set l ob) (wG H a o) where
 len:=by rw[þ];exact w.len
 nd:=w.nd
 obj:=λm b ob' h1 h2=>by
  by_cases e:l=m
  .subst e;rw[h]at h1;rw[č (by rw[<-w.len];exact(gS.mp h).1)]at h2;rw[<-ã h1, <-ã h2];exact q
  .rw[Ć e]at h2;exact(w.obj m b ob' h1 h2).move (w.writex h nf).toEx0 (zO (w.ne h1 h λz=>e z.symm))
def Wd.enterx(w:Wd g α S H)(x:Ext α0 H0 α H)(h0:H0 b=none)(n:b∉α):Ext α0 H0 (α++[b]) H where
 pre:=let ⟨t,e⟩:=x.pre;⟨_,by rw[e,aA]⟩
 new:=λc hc=>(é.mp hc).elim (x.new c) λz=>.inr (by rw[mS.mp z];exact h0)
 keep:=x.keep
 has:=x.has
 tup:=x.tup
 frz:=x.frz
theorem Wd.enter(w:Wd g α S H)(h:H b=some (.lst vs))(n:b∉α)(l:DenL g.K α H ds vs):Wd g (α++[b]) (S++[.lst ds]) H where
 len:=by rw[lA,lA,w.len];rfl
 nd:=nodup_append.mpr ⟨w.nd,by simp,λa ha c hc=>by rw[mS.mp hc];rintro rfl;exact n ha⟩
 obj:=λm a o h1 h2=>by
  by_cases hm:m<α.length
  .rw[æ hm]at h1;rw[æ (by rw[<-w.len];exact hm)]at h2;exact(w.obj m a o h1 h2).move (Ex0.grow α [b] H) rfl
  .have hm':m=α.length:=by
    have:=(gS.mp h1).1;rw[lA,lS]at this
    lia
   subst hm';rw[ð (à _),sub_self]at h1;rw[ð (by rw[w.len];exact à _),w.len,sub_self]at h2;cases h1;cases h2;exact⟨vs,h,l.ex0 (Ex0.grow α [b] H)⟩
end
inductive R(β:Type) where
 |ok (b:β) (S:Sto)|exc (c:Str) (fs:List (Str×MV)) (S:Sto)|no
def R.bind:R β->(β->Sto->R γ)->R γ
 |.ok b S,k=>k b S
 |.exc c fs S,_=>.exc c fs S
 |.no,_=>.no
theorem R.bind_ok(b)(S)(k:β->Sto->R γ):(R.ok b S).bind k=k b S:=rfl
inductive Er where
 |val (d:MV)|new (ds:U0)
instance:Inhabited Er:=⟨.val .non⟩
def DenX(K:Q0)(α:B9)(H:Hp):Er->V->Prop
 |.val d,v=>Den K α H d v
 |.new ds,v=> ∃b vs,v=.ref b/\H b=some (.lst vs)/\b∉α/\DenL K α H ds vs
def DenE(K:Q0)(H:Hp)(α':B9)(H':Hp)(r:Er)(v:V):Prop:=DenX K α' H' r v/\match r with |.new _=> ∀a,v=.ref a->H a=none|_=>True
section
variable{K:Q0}
def DenX.ext(x:Ext α H α' H'): ∀{r}{v},DenX K α H r v->DenX K α' H' r v
 |.val d,_,q=>Den.ext x q
 |.new ds,_,⟨b,vs,e,h,n,l⟩=>⟨b,vs,e,x.keep b _ h n,x.out h n,l.ext x⟩
def DenE.val(q:Den K α' H' d v):DenE K H α' H' (.val d) v:=⟨q,trivial⟩
def DenE.back(c: ∀b,H b=none->H0 b=none)(q:DenE K H α' H' r v):DenE K H0 α' H' r v:=by
 refine⟨q.1,?_⟩
 cases r with
 |new ds=>exact λa e=>c a (q.2 a e)
 |_=>trivial
def DenE.ext(x:Ext α' H' α'' H'')(q:DenE K H α' H' r v):DenE K H α'' H'' r v:=⟨q.1.ext x,q.2⟩
end
section
variable{K:Q0}
def VU(d:DenX K α H (.val .non) v):v=.non:=lW (K:=K) (α:=α) (H:=H) d
def EN(d:DenX K α H (.val (.bl b)) v):v=.bl b:=pV (K:=K) (α:=α) (H:=H) d
def yZ(d:DenX K α H (.val (.int b)) v):v=.int b:=xH (K:=K) (α:=α) (H:=H) d
def nS(d:DenX K α H (.val (.str b)) v):v=.str (nL b):=xI (K:=K) (α:=α) (H:=H) d
def Wt(d:DenX K α H (.val (.typ b)) v):v=.ty b:=fU (K:=K) (α:=α) (H:=H) d
def Gp(d:DenX K α H (.val (.obj c ns ds)) v): ∃a C j vs o,v=.ref a/\H a=some (.frz o (.ins C j (ns.zip vs)))/\PySem.W.nsIn K mainGlobals c=some (some (.ref C))/\(PySem.W.clsIn K C).map (·.name)=some c/\ns.length=vs.length/\DenL K α H ds vs:=nQ d
def lX(d:DenX K α H (.val (.tup ds)) v): ∃a vs,v=.ref a/\SqT K H a vs/\DenL K α H ds vs:=yY d
def OH(d:DenX K α H (.val (.scr ds)) v): ∃a vs,v=.ref a/\SqF K H a vs/\DenL K α H ds vs:=nR d
def sK(d:DenX K α H (.val (.loc l)) v): ∃a,v=.ref a/\α[l]? =some a:=dA (K:=K) (H:=H) d
end
noncomputable def EO:List Er->List V->List Addr
 |.new _::rs,.ref b::vs=>b::EO rs vs
 |_::rs,_::vs=>EO rs vs
 |_,_=>[]
inductive ArgsE(K:Q0)(H:Hp)(α':B9)(H':Hp):List Er->List V->Prop
 |nil:ArgsE K H α' H' [] []
 |cons {r v rs vs}:DenE K H α' H' r v->(∀ds b,r=.new ds->v=.ref b->b∉EO rs vs)->ArgsE K H α' H' rs vs->ArgsE K H α' H' (r::rs) (v::vs)
theorem ArgsE.nones{K:Q0}: ∀{rs vs},ArgsE K H α' H' rs vs-> ∀b∈EO rs vs,H b=none
 |_,_,.nil=>λb h=>by simp[EO]at h
 |.val d::_,v::_,.cons a n l=>λb h=>ArgsE.nones l b (by simpa [EO]using h)
 |.new ds::_,v::_,.cons a n l=>λb h=>by
  obtain⟨c,vs,rfl,_⟩:=a.1;rcases mC.mp h with rfl|h
  .exact a.2 _ rfl
  .exact ArgsE.nones l b h
def ArgsE.back{K:Q0}(c: ∀b,H b=none->H0 b=none): ∀{rs vs},ArgsE K H α' H' rs vs->ArgsE K H0 α' H' rs vs:=λd=>by
 induction d with
 |nil=>exact .nil
 |cons a n l ih=>exact .cons (a.back c) n (ih)
def ArgsE.length{K:Q0}: ∀{rs vs},ArgsE K H α' H' rs vs->vs.length=rs.length:=λa=>by
 induction a with
 |nil=>exact rfl
 |cons _ _ l ih=>exact by rw[lC,lC,ih]
class Dn (β:Type) (τ:outParam Type) where
 d:Gm->Hp->List Addr->Sto->Hp->β->τ->Prop
 back: ∀{g:Gm}{H H0:Hp}{α':B9}{S':Sto}{H':Hp}{b:β}{u:τ},(∀b,H b=none->H0 b=none)->d g H α' S' H' b u->d g H0 α' S' H' b u
instance:Dn Er V:=⟨λg H α' _ H' r v=>DenE g.K H α' H' r v,λa q=>q.back a⟩
instance:Dn Bool Bool:=⟨λ_ _ _ _ _ b u=>u=b,λ_ q=>q⟩
instance:Dn (List Er) (List V):=⟨λg H α' _ H' r v=>ArgsE g.K H α' H' r v,λa q=>q.back a⟩
instance:Dn (Option Int) (Option Int):=⟨λ_ _ _ _ _ b u=>u=b,λ_ q=>q⟩
abbrev XW:=Str->List (Str×MV)->Sto->List Addr->Hp->Prop
abbrev W0:XW:=λ_ _ _ _ _=>False
def Post[Dn β τ](g:Gm)(W:XW)(α:B9)(H:Hp):R β->(τ->Hp->Prop)->Prop
 |.ok b S,Q=> ∀u α' H',Ext α H α' H'->Wd g α' S H'->Dn.d g H α' S H' b u->Q u H'
 |.exc c fs S,_=> ∀α' H',Ext α H α' H'->Wd g α' S H'->W c fs S α' H'
 |.no,_=>False
section
variable[Dn β τ][Dn γ υ]
def Post.shift(x:Ext α H α' H'): ∀{m:R β}{Q},Post g W α H m Q->Post g W α' H' m Q
 |.ok b S,Q,q=>λu d y v j z=>q u d y (x.trans v) j (Dn.back (λb h=>x.free h) z)
 |.exc c fs S,_,q=>λd y v j=>q d y (x.trans v) j
 |.no,_,q=>q
def Post.bind{k:β->Sto->R γ}(q:Post g W α H (m.bind k) Q)
  (f: ∀u b y j v,m=.ok b y->Ext α H j v->Wd g j y v->Dn.d g H j y v b u->Post g W α H (k b y) Q->Q' u v):Post g W α H m Q':=by
 cases m with
 |ok b S=>exact λu j v x w d=>f u b S j v rfl x w d q
 |exc c fs S=>exact q
 |no=>exact q
def Post.here{b:β}(q:Post g W α H (.ok b S) Q)(w:Wd g α S H)(d:Dn.d g H α S H b u):Q u H:=q u α H (Ext.refl α H) w d
end
def Post.val(q:Post g W α H (.ok (Er.val d) S) Q)(w:Wd g α S H)(k:Den g.K α H d v):Q v H:=q.here w (DenE.val k)
def Post.newl(q:Post g W α H (.ok (Er.new ds) S) Q)(w:Wd g α S H)(b:H p=none)(l:DenL g.K α H ds vs):Q (.ref p) (wG H p (.lst vs)):=
 q _ α _ (w.newx b) (w.new b) ⟨⟨p,vs,rfl,yN,w.fresh b,l.ext (w.newx b)⟩,λa e=>by cases e;exact b⟩
def Post.newt(q:Post g W α H (.ok (Er.val (.tup ds)) S) Q)(w:Wd g α S H)(a:H p=none)(l:DenL g.K α H ds vs):Q (.ref p) (wG H p (.tup vs)):=
 q _ α _ (w.newx a) (w.new a) (.val (qQ (.of yN) (l.ext (w.newx a))))
abbrev Rho:=List (Option MV)
structure Slots(K:Q0)(α:B9)(H:Hp)(ρ:Rho)(σ:St):Prop where
 len:σ.length=ρ.length
 slot: ∀(i:Nat)(d:MV),ρ[i]? =some (some d)-> ∃v,σ[i]? =some (some v)/\Den K α H d v
section
variable{K:Q0}
def Slots.ex0(q:Slots K α H ρ σ)(x:Ex0 α H α' H'):Slots K α' H' ρ σ:=⟨q.len,λi d e=>let ⟨v,b,a⟩:=q.slot i d e;⟨v,b,a.ex0 x⟩⟩
def Slots.ext(q:Slots K α H ρ σ)(x:Ext α H α' H'):Slots K α' H' ρ σ:=q.ex0 x.toEx0
theorem Mt{α:Type}{l:List α}{x y:α}(h:(l.set i x)[j]? =some y):(j=i/\y=x/\i<l.length)\/(j≠i/\l[j]? =some y):=by
 by_cases a:i=j
 .subst a;by_cases b:i<l.length
  .rw[č b]at h;exact .inl ⟨rfl,(ã h).symm,b⟩
  .rw[ē (by rw[þ];lia)]at h;cases h
 .rw[Ć a]at h;exact .inr ⟨λz=>a z.symm,h⟩
def Slots.set(q:Slots K α H ρ σ)(h:Den K α H d v):Slots K α H (ρ.set i (some d)) (σ.set i (some v)):=by
 refine⟨by rw[þ,þ];exact q.len,λj e z=>?_⟩;rcases Mt z with⟨rfl,e',hl⟩|⟨hj,e'⟩
 .cases e';exact⟨v,by rw[č (by rw[q.len];exact hl)],h⟩
 .obtain⟨u,b,a⟩:=q.slot j e e';exact⟨u,by rw[Ć (Ne.symm hj)];exact b,a⟩
end
def Jd(X:Cx)(W:XW)[Dn β τ](P:(St->Hp->(τ->Hp->Prop)->Prop)->Prop)(f:Rho->Sto->R β):Prop:=
 ∃t,P t/\ ∀α a S σ H Q,Wd X.g α S H->Slots X.K α H a σ->Post X.g W α H (f a S) Q->t σ H Q
abbrev zT(X:Cx)(W:XW)(e:Expr)(f:Rho->Sto->R Er):Prop:=Jd X W (PE X e) f
abbrev vQ(X:Cx)(W:XW)(e:Expr)(f:Rho->Sto->R Bool):Prop:=Jd X W (PT X e) f
abbrev Tb(X:Cx)(W:XW)(e:Expr)(f:Rho->Sto->R Bool):Prop:=Jd X W (PW X e) f
abbrev MA(X:Cx)(W:XW)(es:P0)(f:Rho->Sto->R (List Er)):Prop:=Jd X W (PA X es) f
abbrev Wu(X:Cx)(W:XW)(e:Option Expr)(f:Rho->Sto->R (Option Int)):Prop:=Jd X W (PO X e) f
section
variable{X:Cx}{W:XW}{b c:Expr}{f g:Rho->Sto->R Er}{pos:Pos}
noncomputable def Mu:Option (Option MV)->Sto->R Er
 |some (some d),S=>.ok (.val d) S
 |_,_=>.no
def Wv(i:Nat)(e:X.N[i]? =some x:=by rfl)(k:Z4 X.env.scope x:=by first |exact Or.inl rfl|exact Or.inr (Or.inl rfl)|exact Or.inr (Or.inr rfl))(c:(x==("__debug__"))=false:=by decide)
  (hcd:(x==("__classdict__"))=false:=by decide):zT X W (.Name x pos) (λj S=>Mu (j[i]?) S):=by
 refine⟨_,pv i e k c hcd,λα j S σ H Q b sl q=>?_⟩;dsimp only at q
 cases z:j[i]? with
 |none=>rw[z]at q;exact q.elim
 |some o=>
  cases o with
  |none=>rw[z]at q;exact q.elim
  |some d=>
   rw[z]at q;obtain⟨v,h,a⟩:=sl.slot i d z;exact⟨v,h,Post.val q b a⟩
def Ww:zT X W (.Constant (.int i) j pos) (λ_ S=>.ok (.val (.int i)) S):=⟨_,Fi,λα b S σ H Q a sl q=>Post.val q a (kX i)⟩
def Q7:zT X W (.Constant (.bool i) j pos) (λ_ S=>.ok (.val (.bl i)) S):=⟨_,M2,λα b S σ H Q a sl q=>Post.val q a (cM i)⟩
def Wx:zT X W (.Constant .none j pos) (λ_ S=>.ok (.val .non) S):=⟨_,(λ_ _ _ H _ I h=>Constant_none ⟨.non,H,I,rfl,h⟩),λα b S σ H Q a sl q=>Post.val q a FX⟩
def Wy(cs)(hx:x=nL cs:=by rfl):zT X W (.Constant (.str x) j pos) (λ_ S=>.ok (.val (.str cs)) S):=
 ⟨_,(λ_ _ _ H _ I h=>Calls.Constant_str ⟨.str x,H,I.tok _,⟨_,rfl⟩,h⟩),λα b S σ H Q a sl q=>Post.val q a (by rw[hx];exact oE cs)⟩
def RT(b:Gl X x)(i:X.mg x=none)(e:bootBuiltins x=some (.type T))(a:x≠"__name__":=by decide)(d:(x==("__debug__"))=false:=by decide):zT X W (.Name x pos) (λ_ S=>.ok (.val (.typ T)) S):=
 ⟨_,(λ_ _ _ H _ I h=>CG I b i e ⟨(.ty T),H,I,rfl,h⟩ a d),λα j S σ H Q c sl q=>Post.val q c (YK T)⟩
def Wz:zT X W (.UnaryOp .USub (.Constant (.int i) j p3) pos) (λ_ S=>.ok (.val (.int (-i))) S):=
 ⟨_,O2 (unI λ_ _ _ _ _ q=>neg_int q) Fi,λα b S σ H Q a sl q=>⟨i,rfl,Post.val q a (kX (-i))⟩⟩
def Cm(X:Cx)(W:XW)(r:R2)(F:Er->Er->Sto->R Er):Prop:= ∀p q x y α S H Q,Wd X.g α S H->DenX X.K α H p x->DenX X.K α H q y->Post X.g W α H (F p q S) Q->r x y H Q
def two(w:Cm X W r F){c i:TE}(B: ∀α d S σ H Q,Wd X.g α S H->Slots X.K α H d σ->Post X.g W α H (f d S) Q->c σ H Q)
  (fb: ∀α d S σ H Q,Wd X.g α S H->Slots X.K α H d σ->Post X.g W α H (g d S) Q->i σ H Q)       (wd:Wd X.g α S H) (sl:Slots X.K α H d σ)
  (q:Post X.g W α H ((f d S).bind λp v=>(g d v).bind λq S2=>F p q S2) Q):c σ H λx j=>i σ j λy m=>r x y m Q:=
 B α d S σ H _ wd sl (q.bind λu p v a j D e o C n=>fb a d v σ j _ o (sl.ext e) ((n.shift e).bind λs p2 S2 b m E h A z k=>
  w p p2 u s b S2 m Q A (C.1.ext h) z.1 (k.shift h)))
def MB(B:OpR X (binaryOp op) r)(m:Cm X W r F)(c:zT X W a f)(e:zT X W b g):zT X W (.BinOp a op b pos) (λd S=>(f d S).bind λp z=>(g d z).bind λq S2=>F p q S2):=by obtain⟨C,c,A⟩:=c;obtain⟨D,e,fb⟩:=e;exact⟨_,(by intro pins s σ H Q I h;exact wpAny_BinOp (Vt c e I h λv u o x y w k n i q=>B pins o σ w x y v u Q k n i q)),λα d S σ H Q j sl q=>two m A fb j sl q⟩
def VV(B:OpR X (compareOp op) r)(m:Cm X W r F)(c:zT X W a f)(e:zT X W b g)(C:behindInMarks op b=false:=by first |exact Fs _|with_unfolding_all rfl):
  zT X W (.Compare a [op] [b] pos) (λd S=>(f d S).bind λp z=>(g d z).bind λq S2=>F p q S2):=by
 obtain⟨D,c,A⟩:=c;obtain⟨E,e,fb⟩:=e;exact⟨_,(by intro pins s σ H Q I h;exact wpAny_Compare1 (Vt c e I h λv u o x y w k n i q=>B pins o σ w x y v u Q k n i q) C),λα d S σ H Q j sl q=>two m A fb j sl q⟩
def Q8(j:IxR X r)(o:Cm X W r F)(c:zT X W a f)(e:zT X W b g)(hs:NS b:=by exact λ_ _=>rfl):
  zT X W (.Subscript a b pos) (λd S=>(f d S).bind λp B=>(g d B).bind λq S2=>F p q S2):=by
 obtain⟨C,c,A⟩:=c;obtain⟨D,e,fb⟩:=e;exact⟨_,(by intro pins s σ H Q I h;exact Subscript_ (Vt c e I h λv u z x y k n w m q=>j a b pins z σ k x y v u Q n w m q (hs _ _))),λα d S σ H Q i sl q=>two o A fb i sl q⟩
noncomputable def gV:Er->Sto->R Bool
 |.val (.bl b),S=>.ok b S
 |_,_=>.no
def Gq(q:Post X.g W α H (gV p S) Q): ∃k,p=.val (.bl k)/\Post X.g W α H (.ok k S) Q:=by
 unfold gV at q;split at q
 .exact⟨_,rfl,q⟩
 .exact q.elim
def HB[Dn β τ]{k:Bool->Sto->R β}(q:Post X.g W α H ((gV p S).bind k) Q): ∃c,p=.val (.bl c)/\Post X.g W α H (k c S) Q:=by
 unfold gV at q;split at q
 .exact⟨_,rfl,q⟩
 .exact q.elim
def uZ(J:OpR X (compareOp op) r)(T:Cm X W r F)(m:zT X W a f)(n:zT X W b g)(hm:behindInMarks op b=false:=by first |exact Fs _|with_unfolding_all rfl):
  vQ X W (.Compare a [op] [b] pos) (λj S=>((f j S).bind λp B=>(g j B).bind λq S2=>F p q S2).bind gV):=by
 obtain⟨C,m,fa⟩:=m;obtain⟨L,n,fb⟩:=n;refine⟨_,(show PT X (.Compare a [op] [b] pos) (O5 (Z6 r C L)) by
   intro pins s σ H Q I h
   refine wpAny_isTrue_Compare1 (jU (m pins s σ H _ I h) λv s1 ⟨x,o,I1,A,d⟩=>jU (n pins s1 σ o _ I1 d) λu U ⟨y,K,O,r2,i⟩=>
    jU (J pins U σ K x y v u _ O A r2 i) λc s3 ⟨z,M,Y,E,k,e,Z⟩=>?_) hm
   subst e;cases E;exact ě ⟨M,Y,Z⟩),λα j S σ H Q D sl q=>?_⟩;refine two T fa fb D sl (q.bind λu p B w o e1 P N G d=>?_);obtain⟨k,rfl,i⟩:=Gq (d.shift P);exact⟨k,EN G.1,i.here N rfl⟩
def chF(F G:Er->Er->Sto->R Er)(p q:Er)(S:Sto)(k:Sto->R Er):R Er:=(F p q S).bind λz d=>(gV z d).bind λc a=>if c=true then(k a).bind λr b=>G q r b else .ok (.val (.bl false)) a
noncomputable def oB:Er->Sto->R Bool
 |.val .non,S=>.ok false S
 |.val (.bl b),S=>.ok b S
 |.val (.int i),S=>.ok (i !=0) S
 |.val (.str x),S=>if x.length<=sizeLine then .ok (!x.isEmpty) S else .no
 |.val (.tup ds),S=>.ok (!ds.isEmpty) S
 |.val (.scr ds),S=>.ok (!ds.isEmpty) S
 |.val (.loc l),S=>match S[l]? with
  |some (.lst ds)=>.ok (!ds.isEmpty) S
  |_=>.no
 |.val (.typ _),_=>.no
 |.val (.obj _ _ _),_=>.no
 |.new ds,S=>.ok (!ds.isEmpty) S
def tQ{K:Q0}(l:DenL K α H ds vs):(!vs.isEmpty)= !ds.isEmpty:=by have:=l.length;cases ds<;>cases vs<;>simp_all
theorem Gr(j:Wd X.g α S H)(d:DenX X.K α H p x)(q:Post X.g W α H (oB p S) Q): ∃k,Vz X.K x H k/\Q k H:=by
 match p,d,q with
 |.val .non,d,q=>cases VU d;exact⟨_,rfl,q.here j rfl⟩
 |.val (.bl b),d,q=>cases EN d;exact⟨_,rfl,q.here j rfl⟩
 |.val (.int i),d,q=>cases yZ d;exact⟨_,rfl,q.here j rfl⟩
 |.val (.typ n),d,q=>exact q.elim
 |.val (.obj _ _ _),d,q=>exact q.elim
 |.val (.str z),d,q=>
  cases nS d;have e:Post X.g W α H (if z.length<=sizeLine then R.ok _ S else R.no) Q:=q;split at e
  .rename_i w;refine⟨_,⟨by rw[bD];exact w,?_⟩,e.here j rfl⟩;rw[bD]
   cases z with
   |nil=>rfl
   |cons c r=>
    have v:((r.length:Int)+1)≠0:=by lia
    simp[v]
  .exact e.elim
 |.val (.tup ds),d,q=>
  obtain⟨a,m,rfl,s,l⟩:=lX d;exact⟨_,.inr (.inl ⟨m,s,(tQ l).symm⟩),q.here j rfl⟩
 |.val (.scr ds),d,q=>
  obtain⟨a,m,rfl,s,l⟩:=OH d;exact⟨_,.inl ⟨m,s.l,(tQ l).symm⟩,q.here j rfl⟩
 |.val (.loc n),d,q=>
  obtain⟨a,rfl,h⟩:=sK d;obtain⟨o,A,u⟩:=j.of h;have e:Post X.g W α H (match S[n]? with |some (.lst ds)=>R.ok _ S|_=>R.no) Q:=q;rw[A]at e
  cases o with
  |lst ds=>
   obtain⟨m,y,l⟩:=u;exact⟨_,.inl ⟨m,.of y,(tQ l).symm⟩,e.here j rfl⟩
  |dic ds=>exact e.elim
  |ins c fs=>exact e.elim
  |rcd c fs=>exact e.elim
  |fdc _=>exact e.elim
 |.new ds,⟨a,m,ex,s,n,l⟩,q=>subst ex;exact⟨_,.inl ⟨m,.of s,(tQ l).symm⟩,q.here j rfl⟩
def Gs(c:zT X W a f)(n: ∀d,isTrue a X.env d=(do let v <-d;standAt a.pos;holding [v] (truthy v)):=by intro _;rfl):vQ X W a (λj S=>(f j S).bind oB):=by obtain⟨A,c,y⟩:=c;exact⟨_,(by
  intro pins s σ H Q I h;exact isTrue_plain (jU (c pins s σ H _ I h) λv w ⟨x,e,I1,k,b⟩=>Wa pins w σ e x v Q I1 k b) (n _)),λα j S σ H Q m sl q=>y α j S σ H _ m sl (q.bind λu p C i e B r o z b=>Gr o z.1 (b.shift r))⟩
end
section
variable{c:Expr}{h:Rho->Sto->R Er}
def VW(p:Er)(S:Sto)(k:Sto->R Er):R Er:=(gV p S).bind λc a=>if c=true then k a else .ok (.val (.bl false)) a
def orF(p:Er)(S:Sto)(k:Sto->R Er):R Er:=(gV p S).bind λc a=>if c=true then .ok (.val (.bl true)) a else k a
def Xa(b:zT X W a f):zT X W (.BoolOp op [a] pos) f:=let ⟨t,h,k⟩:=b;⟨t,(λpins s σ H Q I hw=>BoolOp_one (h pins s σ H Q I hw)),k⟩
def Xb(h:zT X W a f)(i:zT X W (.BoolOp .And (b::es) pos) g):zT X W (.BoolOp .And (a::b::es) pos) (λd S=>(f d S).bind λp j=>VW p j λS2=>g d S2):=by
 obtain⟨y,h,v⟩:=h;obtain⟨A,i,fb⟩:=i;refine⟨_,Ve h i,λα d S σ H Q r sl q=>v α d S σ H _ r sl (q.bind λu p j e s z n m w o=>?_)⟩;obtain⟨k,rfl,c⟩:=HB (o.shift n);refine⟨k,EN w.1,?_⟩
 cases k with
 |true=>rw[iP rfl]at c ⊢; exact fb e d j σ s _ m (sl.ext n) c
 |false=>rw[iN xF0]at c ⊢; exact Post.val c m (cM false)
def Q9(h:zT X W a f)(i:zT X W (.BoolOp .Or (b::es) pos) g):zT X W (.BoolOp .Or (a::b::es) pos) (λd S=>(f d S).bind λp j=>orF p j λS2=>g d S2):=by
 obtain⟨y,h,v⟩:=h;obtain⟨A,i,fb⟩:=i;refine⟨_,M6 h i,λα d S σ H Q r sl q=>v α d S σ H _ r sl (q.bind λu p j e s z n m w o=>?_)⟩;obtain⟨k,rfl,c⟩:=HB (o.shift n);refine⟨k,EN w.1,?_⟩
 cases k with
 |true=>rw[iP rfl]at c ⊢; exact Post.val c m (cM true)
 |false=>rw[iN xF0]at c ⊢; exact fb e d j σ s _ m (sl.ext n) c
def Xc(e:zT X W a f):zT X W (.UnaryOp .Not a pos) (λd S=>(f d S).bind λp j=>(gV p j).bind λk S2=>.ok (.val (.bl !k)) S2):=by obtain⟨o,e,B⟩:=e;refine⟨_,(show PE X (.UnaryOp .Not a pos) (M5 o) by intro pins s σ H Q I h;refine UnaryOp_ (jU (e pins s σ H _ I h) λv D ⟨x,i,I1,n,b⟩=>?_);obtain⟨c,rfl,b⟩:=b;cases n;exact not_of (ě ⟨.bl (!c),i,I1,rfl,b⟩)),λα d S σ H Q r sl q=>B α d S σ H _ r sl (q.bind λu p j m i C A z w b=>?_)⟩;obtain⟨k,rfl,y⟩:=HB (b.shift A);exact⟨k,EN w.1,Post.val y z (cM _)⟩
def Mv(b:vQ X W a tf):Tb X W (.BoolOp .And [a] pos) tf:=let ⟨t,h,k⟩:=b;⟨t,Lq h,k⟩
def Xd(b:vQ X W a tf):Tb X W (.BoolOp .Or [a] pos) tf:=let ⟨t,h,k⟩:=b;⟨t,Va h,k⟩
theorem Xe(i:vQ X W a tf)(m:Tb X W (.BoolOp .And (b::es) pos) tg):Tb X W (.BoolOp .And (a::b::es) pos) (λd S=>(tf d S).bind λk j=>if k=true then tg d j else .ok false j):=by
 obtain⟨w,i,v⟩:=i;obtain⟨z,m,fb⟩:=m;refine⟨_,Vb i m,λα d S σ H Q o sl q=>v α d S σ H _ o sl (q.bind λu p j e r y h n s c=>?_)⟩;cases s
 cases u with
 |true=>rw[iP rfl]at c ⊢; exact fb e d j σ r _ n (sl.ext h) (c.shift h)
 |false=>rw[iN xF0]at c ⊢; exact(c.shift h).here n rfl
def R1(i:vQ X W a tf)(m:Tb X W (.BoolOp .Or (b::es) pos) tg):Tb X W (.BoolOp .Or (a::b::es) pos) (λd S=>(tf d S).bind λk j=>if k=true then .ok true j else tg d j):=by
 obtain⟨w,i,v⟩:=i;obtain⟨z,m,fb⟩:=m;refine⟨_,M3 i m,λα d S σ H Q o sl q=>v α d S σ H _ o sl (q.bind λu p j e r y h n s c=>?_)⟩;cases s
 cases u with
 |true=>rw[iP rfl]at c ⊢; exact(c.shift h).here n rfl
 |false=>rw[iN xF0]at c ⊢; exact fb e d j σ r _ n (sl.ext h) (c.shift h)
def R3(h:Tb X W a tf):vQ X W a tf:=let ⟨t,h,k⟩:=h;⟨t,h.pt,k⟩
theorem Xf(b:vQ X W a tf):vQ X W (.UnaryOp .Not a pos) (λd S=>(tf d S).bind λk j=>.ok (!k) j):=by obtain⟨y,b,w⟩:=b;refine⟨_,(by intro pins s σ H Q I h;exact isTrue_not (b pins s σ H (λc e=>Q (!c) e) I h)),λα d S σ H Q n sl q=>w α d S σ H _ n sl (q.bind λu p j i e z r o v m=>?_)⟩;cases v;exact(m.shift r).here o rfl
end
section
variable{K:Q0}
noncomputable def zM:List Er->Sto->List MV×Sto
 |[],S=>([],S)
 |.val d::rs,S=>((d::(zM rs S).1),(zM rs S).2)
 |.new xs::rs,S=>((.loc S.length::(zM rs (S++[.lst xs])).1),(zM rs (S++[.lst xs])).2)
def ArgsE.grow(q:ArgsE K H0 α H rs vs)(n:b∉EO rs vs):ArgsE K H0 (α++[b]) H rs vs:=by
 induction q with
 |nil=>exact .nil
 |@cons r v rs vs a m l ih=>
  cases r with
  |val d=>exact .cons ⟨Den.ex0 (Ex0.grow α [b] H) a.1,trivial⟩ m (ih (by simpa [EO]using n))
  |new ds=>
   obtain⟨⟨c,i,rfl,o,h,j⟩,k⟩:=a;have e:=n;refine .cons ⟨⟨c,i,rfl,o,λz=>?_,j.ex0 (Ex0.grow α [b] H)⟩,k⟩ m (ih λz=>e (mO _ z));rcases é.mp z with z|z
   .exact h z
   .exact e (by rw[mS.mp z];exact mF0)
theorem sM: ∀{rs}{vs}{α}{S},Wd g α S H->Ext α0 H0 α H->ArgsE g.K H0 α H rs vs->
  ∃α',Ext α0 H0 α' H/\Ex0 α H α' H/\Wd g α' (zM rs S).2 H/\DenL g.K α' H (zM rs S).1 vs
 |_,_,α,S,w,x,.nil=>⟨α,x,⟨⟨[],by simp⟩,λ_ _ h=>h,λ_ _ _ h=>h⟩,w,yK⟩
 |.val d::rs,v::vs,α,S,w,x,.cons a n l=>by obtain⟨α',q,j,m,l'⟩:=sM w x l;exact⟨α',q,j,m,yE (Den.ex0 j a.1) l'⟩
 |.new ds::rs,v::vs,α,S,w,x,.cons a n l=>by
  obtain⟨⟨c,p,rfl,o,b,i⟩,k⟩:=a;obtain⟨α',q,j,m,l'⟩:=sM (w.enter o b i) (w.enterx x (k c rfl) b) (l.grow (n ds c rfl rfl));refine⟨α',q,⟨?_,j.tup,j.frz⟩,m,yE (FY (j.at ?_)) l'⟩
  .obtain⟨t,e⟩:=j.pre;exact⟨_,by rw[e,aA]⟩
  .rw[<-w.len,ð (à _),sub_self];rfl
theorem CQ: ∀ rs  S ,(zM rs S).1.length=rs.length
 |[],S=>rfl
 |.val d::rs,S=>by show(d::(zM rs S).1).length=_;rw[lC,CQ rs S];rfl
 |.new ds::rs,S=>by show(_::(zM rs _).1).length=_;rw[lC,CQ rs _];rfl
end
section
variable{a b c:Expr}{g h:Rho->Sto->R Er}{pos:Pos}
def Xg:MA X W [] (λ_ S=>.ok [] S):=⟨_,NO,λα b S σ H Q a sl q=>q.here a .nil⟩
def Mw(v:zT X W a f)(s:MA X W es af)(hs:q8 X a es:=by rfl):MA X W (a::es) (λj S=>(f j S).bind λp m=>(af j m).bind λps S2=>.ok (p::ps) S2):=by
 obtain⟨N,v,L⟩:=v;obtain⟨U,s,F⟩:=s;refine⟨_,FV v s hs,λα j S σ H Q B sl q=>L α j S σ H _ B sl (q.bind λu p m n E T k G w A=>F n j m σ E _ G (sl.ext k) ?_)⟩;have d:Post X.g W α H _ Q:=A
 cases z:af j m with
 |ok ps S2=>
  rw[z]at d;intro P e r i o y;refine d _ e r (k.trans i) o (ArgsE.cons (DenE.ext i w) (λO b I J K=>?_) (ArgsE.back (λb h=>k.free h) y));subst I J;obtain⟨⟨c,M,C,D,_⟩,_⟩:=w;cases C;have:=ArgsE.nones y _ K;rw[D]at this;cases this
 |exc c fs S2=>rw[z]at d;exact λe r i o=>d e r (k.trans i) o
 |no=>rw[z]at d;exact d
def wH(rs:List Er)(S:Sto):R Er:=if rs.length<=sizeLine then .ok (.val (.tup (zM rs S).1)) (zM rs S).2 else .no
def cN(rs:List Er)(S:Sto):R Er:=if rs.length<=sizeLine then .ok (.new (zM rs S).1) (zM rs S).2 else .no
def Xh(h:MA X W es af):zT X W (.Tuple es d pos) (λj S=>(af j S).bind wH):=by
 obtain⟨t,h,k⟩:=h;refine⟨_,(show PE X (.Tuple es d pos) (tTup t) by intro pins s σ H Q I A;refine wpAny_Tuple_spliced (jU (h pos pins s σ H _ I A) λn J ⟨xs,C,I1,r,z,q⟩=>⟨by rw[<-r.length];exact z,?_⟩);refine⟨.ref J.heap.objs.size,_,I1.laid (λb u e=>hP0 _ e) (à _) ?_,rfl,q _ (I1.hok.fresh (à _))⟩;exact⟨z,n,r,⟨_,å _ rfl,rfl,_,rfl⟩⟩),λα j S σ H Q w sl q=>k α j S σ H _ w sl (q.bind λL c K m C N d F i v=>?_)⟩;have a:Post X.g W α H (if c.length<=sizeLine then R.ok _ (zM c K).2 else R.no) Q:=v;split at a
 .rename_i o;obtain⟨y,E,M,D,G⟩:=sM F d i;exact⟨by rw[ArgsE.length i];exact o,λp B=>(a.shift E).newt D B G⟩
 .exact a.elim
def Xi(h:MA X W es af):zT X W (.List es pos) (λd S=>(af d S).bind cN):=by
 obtain⟨t,h,k⟩:=h;refine⟨_,(show PE X (.List es pos) (tLst t) by intro pins s σ H Q I y;refine wpAny_List_spliced (jU (h pos pins s σ H _ I y) λm J ⟨xs,B,I1,r,z,q⟩=>⟨by rw[<-r.length];exact z,?_⟩);refine⟨.ref J.heap.objs.size,_,I1.laid (λb u e=>hP0 _ e) (à _) ?_,rfl,q _ (I1.hok.fresh (à _))⟩;exact⟨z,m,0,r,å _ rfl⟩),λα d S σ H Q v sl q=>k α d S σ H _ v sl (q.bind λL c K j B N F E i o=>?_)⟩;have a:Post X.g W α H (if c.length<=sizeLine then R.ok _ (zM c K).2 else R.no) Q:=o;split at a
 .rename_i n;obtain⟨w,D,M,C,G⟩:=sM E F i;exact⟨by rw[ArgsE.length i];exact n,λp A=>(a.shift D).newl C A G⟩
 .exact a.elim
inductive ArgsX(K:Q0)(α:B9)(H:Hp):List Er->List V->Prop
 |nil:ArgsX K α H [] []
 |cons {r v rs vs}:DenX K α H r v->ArgsX K α H rs vs->ArgsX K α H (r::rs) (v::vs)
def ArgsE.x{K:Q0}: ∀{rs vs},ArgsE K H0 α H rs vs->ArgsX K α H rs vs:=λb=>by
 induction b with
 |nil=>exact .nil
 |cons a _ l ih=>exact .cons a.1 (ih)
def rR(X:Cx)(W:XW)(r:List V->Hp->VK->Prop)(F:List Er->Sto->R Er):Prop:= ∀b a α S H Q,Wd X.g α S H->ArgsX X.K α H b a->Post X.g W α H (F b S) Q->r a H Q
def pX{id:String}{p:Pos}(z:CallR X (.builtin id) r)(n:rR X W r F)(s:Gl X x)(A:X.mg x=none)(o:bootBuiltins x=some (.builtin id))(b:MA X W (e::es) af)
  (hn:x≠"__name__":=by decide) (hdb:(x==("__debug__"))=false:=by decide)
  (he:q8 X e es:=by rfl) (hpl:q9 X pos es:=by rfl):zT X W (.Call (.Name x p) (e::es) [] pos) (λd S=>(af d S).bind F):=by
 obtain⟨t,b,k⟩:=b;exact⟨_,RI z s A o b hn hdb he hpl,λα d S σ H Q i sl q=>k α d S σ H _ i sl (q.bind λc w y a u B m j v h=>n w c a y u Q j (ArgsE.x v) (h.shift m))⟩
def tR{p:Pos}(z:CallR X (.type T) r)(n:rR X W r F)(s:Gl X x)(A:X.mg x=none)(o:bootBuiltins x=some (.type T))(b:MA X W (e::es) af)
  (hn:x≠"__name__":=by decide) (hdb:(x==("__debug__"))=false:=by decide)
  (he:q8 X e es:=by rfl) (hpl:q9 X pos es:=by rfl):zT X W (.Call (.Name x p) (e::es) [] pos) (λd S=>(af d S).bind F):=by
 obtain⟨t,b,k⟩:=b;exact⟨_,CL z s A o b hn hdb he hpl,λα d S σ H Q i sl q=>k α d S σ H _ i sl (q.bind λc w y a u B m j v h=>n w c a y u Q j (ArgsE.x v) (h.shift m))⟩
def VX(X:Cx)(W:XW)(r:V->List V->Hp->VK->Prop)(F:Er->List Er->Sto->R Er):Prop:= ∀p d x c α S b H Q a,Wd X.g α S H->Ext a b α H->DenX X.K α H p x->ArgsE X.K b α H d c->Post X.g W a b (F p d S) Q->r x c H Q
def TyM(X:Cx)(T:String)(a:Er->Sto->Bool):Prop:= ∀p x α S H,Wd X.g α S H->DenX X.K α H p x->a p S=true->Z8 X.K T x H
def OJ{id:String}{apos:Pos}(C:PlainAttrs T)(c:Slot T name id)(m:typeOf (.builtin id)=pure (.type "method_descriptor"))(N:Wg X id r)(M:VX X W r F)(K:TyM X T ty)
  (v:zT X W a f) (y:MA X W (e::es) af)
  (hbase:attributeBase a name X.env (eval a X.env)=eval a X.env:=by rfl)
  (hfew:((backTo pos (starEach (e::es) X.env)).all (λx=>!x.1)&&(backToKw pos (keywordEach [] X.env)).all (λx=>x.1.isSome)
   &&decide ((e::es).length+([]:List Keyword).length+(if([]:List Keyword).isEmpty then 0 else 1)<30))=true:=by rfl)
  (hline:(apos.endLine==pos.line)=true:=by rfl) (hs:q8 X e es:=by rfl) (hplain:q9 X pos es:=by rfl):
  zT X W (.Call (.Attribute a name apos) (e::es) [] pos) (λd S=>(f d S).bind λp j=>if ty p j=true then(af d j).bind λrs S2=>F p rs S2 else .no):=by
 obtain⟨to,v,D⟩:=v;obtain⟨t,y,k⟩:=y;refine⟨_,Q3 C c m N v y hbase hfew hline hs hplain,λα d S σ H Q B sl q=>D α d S σ H _ B sl (q.bind λu p j b n P z w o h=>?_)⟩;split at h
 .rename_i A;exact⟨K p u b j n w o.1 A,k b d j σ n _ w (sl.ext z) ((h.shift z).bind λL rs S2 i I O s G E J=>M p rs u L i S2 n I Q b G s (o.1.ext s) E J)⟩
 .exact h.elim
def Mx:Wu X W none (λ_ S=>.ok none S):=⟨_,(by intro pins s σ H Q I h;exact wP ⟨none,H,I,.none,h⟩),λα b S σ H Q a sl q=>q.here a rfl⟩
noncomputable def Co:Er->Sto->R (Option Int)
 |.val (.int i),S=>.ok (some i) S
 |_,_=>.no
def Mz(c:zT X W a f):Wu X W (some a) (λd S=>(f d S).bind Co):=by
 obtain⟨n,c,m⟩:=c;refine⟨_,Mg c,λα d S σ H Q h sl q=>m α d S σ H _ h sl (q.bind λu p s e r o j i k b=>?_)⟩;unfold Co at b;split at b
 .exact⟨_,yZ k.1,(b.shift j).here i rfl⟩
 .exact b.elim
def Sl3(X:Cx)(W:XW)(r:V->Option Int->Option Int->Hp->VK->Prop)(F:Er->Option Int->Option Int->Sto->R Er):Prop:= ∀p lo hi x α S H Q,Wd X.g α S H->DenX X.K α H p x->Post X.g W α H (F p lo hi S) Q->r x lo hi H Q
def Gu{lo:Option Expr}(O:SlR X r)(N:Sl3 X W r F)(n:zT X W a f)(h:Wu X W lo lf)(c:Wu X W hi hf):
  zT X W (.Subscript a (.Slice lo hi none p2) pos) (λd S=>(f d S).bind λp v=>(lf d v).bind λl S2=>(hf d S2).bind λu S3=>F p l u S3):=by
 obtain⟨Y,n,U⟩:=n;obtain⟨tl,h,y⟩:=h;obtain⟨Z,c,D⟩:=c
 refine⟨_,Ga O n h c,λα d S σ H Q s sl q=>U α d S σ H _ s sl (q.bind λu p v b z e1 k K A w=>y b d v σ z _ K (sl.ext k) ((w.shift k).bind λL l S2 e E e2 j B C I=>
  D e d S2 σ E _ B ((sl.ext k).ext j) ((I.shift j).bind λM m S3 i G e3 o J P T=>?_)))⟩
 cases C;cases P;exact N p L M u i S3 G Q J ((A.1.ext j).ext o) (T.shift o)
end
inductive Fl where
 |next (ρ:Rho)|ret (r:Er)|brk (ρ:Rho)|cont (ρ:Rho)
abbrev AX:=Rho->Sto->R Er
abbrev AY:=Rho->Sto->R Fl
abbrev AZ:=Rho->Sto->R Bool
def PostS(g:Gm)(W:XW)(α:B9)(H:Hp)(D:Ends):R Fl->Prop
 |.ok (.next ρ) S=> ∀σ α' H',Ext α H α' H'->Wd g α' S H'->Slots g.K α' H' ρ σ->D.nx σ H'
 |.ok (.ret r) S=> ∀v α' H',Ext α H α' H'->Wd g α' S H'->DenE g.K H α' H' r v->D.rt v H'
 |.ok (.brk ρ) S=> ∀σ α' H',Ext α H α' H'->Wd g α' S H'->Slots g.K α' H' ρ σ->D.bk σ H'
 |.ok (.cont ρ) S=> ∀σ α' H',Ext α H α' H'->Wd g α' S H'->Slots g.K α' H' ρ σ->D.ct σ H'
 |.exc c fs S=> ∀α' H',Ext α H α' H'->Wd g α' S H'->W c fs S α' H'
 |.no=>False
section
def PostS.shift(x:Ext α H α' H'): ∀{m},PostS g W α H D m->PostS g W α' H' D m
 |.ok (.next ρ) S,q=>λσ d y u j z=>q σ d y (x.trans u) j z
 |.ok (.ret r) S,q=>λv d y u j B=>q v d y (x.trans u) j (B.back λb h=>x.free h)
 |.ok (.brk ρ) S,q=>λσ d y u j z=>q σ d y (x.trans u) j z
 |.ok (.cont ρ) S,q=>λσ d y u j z=>q σ d y (x.trans u) j z
 |.exc c fs S,q=>λd y u j=>q d y (x.trans u) j
 |.no,q=>q
def PostS.expr[Dn β τ]{k:β->Sto->R Fl}(q:PostS g W α H D (m.bind k))
  (f: ∀u b y j v,m=.ok b y->Ext α H j v->Wd g j y v->Dn.d g H j y v b u->PostS g W α H D (k b y)->Q' u v):Post g W α H m Q':=by
 cases m with
 |ok b S=>exact λu j v x w d=>f u b S j v rfl x w d q
 |exc c fs S=>exact q
 |no=>exact q
def PostS.stmt(q:PostS g W α H D (m.bind k))
  (hn: ∀y S σ j u,m=.ok (.next y) S->Ext α H j u->Wd g j S u->Slots g.K j u y σ->PostS g W α H D (k (.next y) S)->D'.nx σ u)
  (hr: ∀r S v j u,m=.ok (.ret r) S->Ext α H j u->Wd g j S u->DenE g.K H j u r v->PostS g W α H D (k (.ret r) S)->D'.rt v u)
  (hb: ∀y S σ j u,m=.ok (.brk y) S->Ext α H j u->Wd g j S u->Slots g.K j u y σ->PostS g W α H D (k (.brk y) S)->D'.bk σ u)
  (hc: ∀y S σ j u,m=.ok (.cont y) S->Ext α H j u->Wd g j S u->Slots g.K j u y σ->PostS g W α H D (k (.cont y) S)->D'.ct σ u):PostS g W α H D' m:=by
 cases m with
 |ok fl S=>
  cases fl with
  |next y=>exact λσ j u x w s=>hn y S σ j u rfl x w s q
  |ret r=>exact λv j u x w d=>hr r S v j u rfl x w d q
  |brk y=>exact λσ j u x w s=>hb y S σ j u rfl x w s q
  |cont y=>exact λσ j u x w s=>hc y S σ j u rfl x w s q
 |exc c fs S=>exact q
 |no=>exact q
end
def OL(X:Cx)(W:XW)(st:Stmt)(F:AY):Prop:=
 ∃t,PS X st t/\ ∀α a S σ H D,Wd X.g α S H->Slots X.K α H a σ->PostS X.g W α H D (F a S)->t D σ H
def vU(X:Cx)(W:XW)(st:List Stmt)(F:AY):Prop:=
 ∃t,PSs X st t/\ ∀α a S σ H D,Wd X.g α S H->Slots X.K α H a σ->PostS X.g W α H D (F a S)->t D σ H
noncomputable def zL(F G:AY):AY:=λc S=>(F c S).bind λb a=>match b with
 |.next ρ'=>G ρ' a
 |.ret r=>.ok (.ret r) a
 |.brk ρ'=>.ok (.brk ρ') a
 |.cont ρ'=>.ok (.cont ρ') a
section
variable{X:Cx}{W:XW}{st:Stmt}{as:List Stmt}{F:AY}{g:AX}{e c:Expr}{pos:Pos}
def Xj:vU X W [] (λd S=>.ok (.next d) S):=⟨_,(λ_ _ σ H _ I h=>wpAny_execs_nil ⟨σ,H,I,h⟩),λα d S σ H D a sl q=>q σ α H (Ext.refl α H) a sl⟩
def VY(h:OL X W st F):vU X W [st] F:=let ⟨t,h,k⟩:=h;⟨t,YB h,k⟩
def OM(o:OL X W st F)(p:vU X W sts G):vU X W (st::sts) (zL F G):=by
 obtain⟨t,o,C⟩:=o;obtain⟨u,p,z⟩:=p;refine⟨_,(by
   intro pins s σ H D I h;refine wpAny_execs_cons (jU (o pins s σ H {D with nx:=u D} I h) λf m q=>?_)
   cases f with
   |next=>
    obtain⟨w,H',A,q⟩:=q;exact p pins m w H' D A q
   |ret v=>exact q
   |brk=>exact q
   |cont=>exact q),λα B S σ H D y sl q=>C α B S σ H _ y sl (q.stmt ?_ ?_ ?_ ?_)⟩
 .intro i n b a d e k j m c;exact z a i n b d D j m (PostS.shift k c)
 .intro r n v a d e k j E c;exact c v a d k j E
 .intro i n b a d e k j m c;exact c b a d k j m
 .intro i n b a d e k j m c;exact c b a d k j m
def Xk(i:zT X W e f):OL X W (.Return (some e) pos) (λd S=>(f d S).bind λr j=>.ok (.ret r) j):=by obtain⟨t,i,k⟩:=i;exact⟨_,(by intro pins s σ H D I h;exact wpAny_Return_some (jU (i pins s σ H _ I h) λv y ⟨x,c,I1,m,b⟩=>⟨x,σ,c,I1,m,b⟩)),λα d S σ H D n sl q=>k α d S σ H _ n sl (q.expr λu r j a c e p o w b=>b u a c p o w)⟩
def Na(i:zT X W e f)(hs:swapsWith e none pos.line X.env=pure false:=by rfl):OL X W (.Expr e pos) (λd S=>(f d S).bind λ_ m=>.ok (.next d) m):=by obtain⟨t,i,k⟩:=i;exact⟨_,(by intro pins s σ H D I h;exact wpAny_Expr_any (jU (i pins s σ H _ I h) λv w ⟨x,c,I1,p,b⟩=>⟨σ,c,I1,b⟩) I.quiet hs),λα d S σ H D n sl q=>k α d S σ H _ n sl (q.expr λu r m a c e j o y b=>b σ a c j o (sl.ext j))⟩
def R4(m:vQ X W c tf)(i:vU X W as F)(n:vU X W bs G):OL X W (.If c as bs pos) (λd S=>(tf d S).bind λk j=>if k=true then F d j else G d j):=by
 obtain⟨B,m,v⟩:=m;obtain⟨A,i,y⟩:=i;obtain⟨C,n,s⟩:=n;refine⟨_,M9 m i n,λα d S σ H D w sl q=>v α d S σ H _ w sl (q.expr λu p j a r e h o z b=>?_)⟩;cases z
 cases u with
 |true=>rw[iP rfl]at b ⊢; exact y a d j σ r D o (sl.ext h) (PostS.shift h b)
 |false=>rw[iN xF0]at b ⊢; exact s a d j σ r D o (sl.ext h) (PostS.shift h b)
instance:Dn Rho St:=⟨λg _ α' _ H' a σ=>Slots g.K α' H' a σ,λ_ q=>q⟩
def Nb(X:Cx)(W:XW)(tg:Expr)(gf:MV->Rho->Sto->R Rho):Prop:=
 ∃t,PG X tg t/\ ∀α a S σ H d v Q,Wd X.g α S H->Slots X.K α H a σ->Den X.K α H d v->Post X.g W α H (gf d a S) Q->t v σ H Q
def Gv(X:Cx)(W:XW)(a:P0)(gf:List MV->Rho->Sto->R Rho):Prop:=
 ∃t,J9 X a t/\ ∀α c S σ H d b Q,Wd X.g α S H->Slots X.K α H c σ->DenL X.K α H d b->Post X.g W α H (gf d c S) Q->t b σ H Q
noncomputable def yF(i:Nat):MV->Rho->Sto->R Rho:=λd a S=>.ok (a.set i (some d)) S
def Nc(i)(e:X.N.Nodup)(hi:X.N[i]? =some x:=by rfl)(hx:Loc X.env.scope x:=by first |exact Or.inl rfl|exact Or.inr rfl)(a:z0 X x:=by first |exact .inl rfl|exact .inr rfl|assumption):
  Nb X W (.Name x pos) (yF i):=⟨_,YC e hi hx a,λα h S σ H d v Q c sl b q=>Post.here q c (sl.set b)⟩
noncomputable def xR:List MV->Rho->Sto->R Rho
 |[],ρ,S=>.ok ρ S
 |_,_,_=>.no
noncomputable def zI(a:MV->Rho->Sto->R Rho)(b:List MV->Rho->Sto->R Rho):List MV->Rho->Sto->R Rho
 |d::ds,ρ,S=>(a d ρ S).bind λj m=>b ds j m
 |_,_,_=>.no
def Xl:Gv X W [] xR:=⟨_,YD,λα h S σ H a e Q c sl b q=>by
 cases a with
 |nil=>exact⟨b.isnil,Post.here q c sl⟩
 |cons d a=>exact q.elim⟩
def Nd(c:Nb X W e g1)(i:Gv X W es g2)(hs:(assignEach (e::es) X.env).map (·.2)=assign e X.env::(assignEach es X.env).map (·.2):=by rfl):Gv X W (e::es) (zI g1 g2):=by
 obtain⟨D,c,A⟩:=c;obtain⟨C,i,s⟩:=i;refine⟨_,RG c i hs,λα y S σ H h E Q m sl w q=>?_⟩
 cases h with
 |nil=>exact q.elim
 |cons d h=>
  obtain⟨v,r,rfl,a,l⟩:=w.uncons;refine⟨v,r,rfl,A α y S σ H d v _ m sl a (Post.bind q λu p z b n e j o B k=>s b p z u n h r Q o B (l.ext j) (k.shift j))⟩
noncomputable def uK(n:Nat)(a:List MV->Rho->Sto->R Rho):MV->Rho->Sto->R Rho
 |.tup ds,ρ,S=>if ds.length=n then a ds ρ S else .no
 |_,_,_=>.no
def Xm{k:Nat}(j:X.calm=true)(h:Gv X W es g2)
  (hn:(assignEach es X.env).length=n:=by rfl) (hst:(assignEach es X.env).findIdx? (·.1)=none:=by rfl):Nb X W (.Tuple es k pos) (uK n g2):=by
 obtain⟨t,h,k⟩:=h;refine⟨_,Fm j h hn hst,λα i S σ H d v Q c sl e q=>?_⟩;unfold uK at q;split at q
 .split at q
  .rename_i m;obtain⟨a,b,rfl,s,l⟩:=yY e;exact⟨a,b,rfl,s,by rw[l.length];exact m,k α i S σ H _ b Q c sl l q⟩
  .exact q.elim
 .exact q.elim
noncomputable def nT(r:Er)(S:Sto):R MV:=match r with
 |.val d=>.ok d S
 |.new ds=>.ok (.loc S.length) (S++[.lst ds])
def pY{g:Gm}(w:Wd g α S H)(x:Ext α0 H0 α H)(d:DenE g.K H0 α H r v):
  ∃d' S' α',nT r S=.ok d' S'/\Ext α0 H0 α' H/\Ex0 α H α' H/\Wd g α' S' H/\Den g.K α' H d' v:=by
 cases r with
 |val d'=>exact⟨d',S,α,rfl,x,⟨⟨[],by simp⟩,λ_ _ h=>h,λ_ _ _ h=>h⟩,w,d.1⟩
 |new ds=>
  obtain⟨⟨c,j,rfl,i,a,b⟩,e⟩:=d;exact⟨_,_,_,rfl,w.enterx x (e c rfl) a,Ex0.grow α [c] H,w.enter i a b,FY (by rw[<-w.len,ð (à _),sub_self];rfl)⟩
def HC(a:Rho)(i:Nat)(r:Er)(S:Sto):R Fl:=(nT r S).bind λd b=>.ok (.next (a.set i (some d))) b
def Xn(i){a:Pos}(p:X.N.Nodup)(c:zT X W e f)(hi:X.N[i]? =some x:=by rfl)(hx:Loc X.env.scope x:=by first |exact Or.inl rfl|exact Or.inr rfl)
  (hs:swapsWith e (some (.Name x a)) pos.line X.env=pure false:=by rfl) (hf:z0 X x:=by first |exact .inl rfl|exact .inr rfl|assumption):
  OL X W (.Assign [.Name x a] e pos) (λd S=>(f d S).bind (HC d i)):=by
 obtain⟨t,c,k⟩:=c;refine⟨_,Vm p hi hx c hs hf,λα d S σ H D n sl q=>k α d S σ H _ n sl (q.expr λu r E j z e h o A b=>?_)⟩;obtain⟨B,C,α',v,w,m,s,y⟩:=pY o h A;unfold HC at b;rw[v]at b;exact b _ α' z w s (((sl.ext h).ex0 m).set y)
def Nf(gf:MV->Rho->Sto->R Rho)(b:Rho)(r:Er)(S:Sto):R Fl:=(nT r S).bind λd c=>(gf d b c).bind λa e=>.ok (.next a) e
def Xo(c:zT X W e f)(i:Nb X W tg gf)(hs:swapsWithSole [tg] e pos.line X.env=pure false:=by rfl)(hw:swappedStores [tg] e X.env=pure none:=by rfl)
  (h1:(assignEach [tg] X.env).map (·.2)=[assign tg X.env]:=by rfl):OL X W (.Assign [tg] e pos) (λd S=>(f d S).bind (Nf gf d)):=by
 obtain⟨t,c,k⟩:=c;obtain⟨y,i,I⟩:=i;refine⟨_,Vk c i hs hw h1,λα d S σ H D v sl q=>k α d S σ H _ v sl (q.expr λu r Q p A e n G O a=>?_)⟩;obtain⟨j,m,α',L,z,s,J,M⟩:=pY G n O;unfold Nf at a;rw[L]at a;have a:PostS X.g W α H D ((gf j d m).bind λw o=>.ok _ o):=a;exact I α' d m σ A j u _ J ((sl.ext n).ex0 s) M ((PostS.shift z a).expr λh N o b E P C B K F=>F h b E C B K)
structure Wk where
 ds:List MV
 gs:List (Nat×List MV)
def stay(gs:Z0)(S:Sto):Prop:= ∀p∈gs,S[p.1]? =some (.lst p.2)
def zAA(g:Gm)(J:It)(P:List Addr->Sto->Hp->Prop)(ds:U0):Prop:= ∀i α S H,P α S H->Wd g α S H->(i<ds.length->J.go i H/\ ∀x H',J.yld i H x H'->Ext α H α H'/\Wd g α S H'/\P α S H'/\ ∃d,ds[i]? =some d/\Den g.K α H' d x)/\(ds.length<=i->J.stop i H)
structure WkD(g:Gm)(α:B9)(S:Sto)(H:Hp)(k:Wk)(J:It)(P:List Addr->Sto->Hp->Prop):Prop where
 it:zAA g J P k.ds
 here:P α S H
 stays: ∀α1 S1 H1 α2 S2 H2,P α1 S1 H1->Ext α1 H1 α2 H2->Wd g α2 S2 H2->stay k.gs S2->P α2 S2 H2
 st:stay k.gs S
instance:Dn Wk It:=⟨λg _ α S H k J=> ∃P,WkD g α S H k J P,λ_ q=>q⟩
abbrev VZ(X:Cx)(W:XW)(tg iter:Expr)(f:Rho->Sto->R Wk):Prop:=Jd X W (PI X tg iter) f
variable{tg iter:Expr}
theorem HD:zAA X.g (Itl X.K a) (λα S H=> ∃vs,SqL X.K H a vs/\DenL X.K α H ds vs) ds:=by intro i α S H ⟨vs,s,l⟩ w;have e:=l.length;refine⟨λhi=>?_,λhi=>⟨vs,s,by lia⟩⟩;refine⟨⟨vs,_,s,gE #[0]⟩,λx H' y=>?_⟩;obtain⟨rfl,y⟩:=y;obtain⟨d,c,b⟩:=l.get (y vs s);exact⟨Ext.refl _ _,w,⟨vs,s,l⟩,d,c,b⟩
noncomputable def HE:Er->Sto->R Wk
 |.new ds,S=>.ok ⟨ds,[]⟩ S
 |.val (.scr ds),S=>.ok ⟨ds,[]⟩ S
 |.val (.loc l),S=>match S[l]? with
  |some (.lst ds)=>.ok ⟨ds,[(l,ds)]⟩ S
  |_=>.no
 |_,_=>.no
def fM:stay [] S:=λp h=>by simp at h
def Nh(T:zT X W iter f):VZ X W tg iter (λρ S=>(f ρ S).bind HE):=by
 obtain⟨t,T,k⟩:=T;refine⟨_,Lu T,λα ρ S σ H Rc wd sl q=>k α ρ S σ H _ wd sl (q.bind λu p S1 ab H1 e x1 Q U z=>?_)⟩
 replace z:=z.shift x1
 unfold HE at z;split at z
 .rename_i S0 D;obtain⟨⟨b,r,rfl,E,Y,P⟩,h4⟩:=U;refine⟨b,rfl,⟨r,.of E⟩,z.here Q ⟨λd A m=> ∃r,SqL X.K m b r/\DenL X.K d m D r/\m b=some (.lst r)/\b∉d,?_,⟨r,.of E,P,E,Y⟩,?_,fM⟩⟩
  .intro i d A m ⟨j,B,w,v,M⟩ O;obtain⟨C,I⟩:=HD i d A m ⟨j,B,w⟩ O;refine⟨λhi=>⟨(C hi).1,λx H' y=>?_⟩,I⟩;obtain⟨F,N,j3,G⟩:=(C hi).2 x H' y;obtain⟨rfl,_⟩:=y;exact⟨F,N,⟨j,B,w,v,M⟩,G⟩
  .intro d A m J S3 H3 ⟨j,B,w,v,M⟩ x Z _;exact⟨j,.of (x.keep b _ v M),w.ext x,x.keep b _ v M,x.out v M⟩
 .rename_i S0 D;obtain⟨a,r,rfl,s,l⟩:=OH U.1;refine⟨a,rfl,⟨r,s.l⟩,z.here Q ⟨λd A m=> ∃r,SqL X.K m a r/\DenL X.K d m D r/\SqF X.K m a r,?_,⟨r,s.l,l,s⟩,?_,fM⟩⟩
  .intro i d A m ⟨j,B,w,v⟩ O;obtain⟨C,I⟩:=HD i d A m ⟨j,B,w⟩ O;refine⟨λhi=>⟨(C hi).1,λx H' y=>?_⟩,I⟩;obtain⟨F,N,j3,G⟩:=(C hi).2 x H' y;obtain⟨rfl,_⟩:=y;exact⟨F,N,⟨j,B,w,v⟩,G⟩
  .intro d A m J S3 H3 ⟨j,B,w,v⟩ x Z _;exact⟨j,(x.sqF v).l,w.ext x,x.sqF v⟩
 .rename_i S0 n;obtain⟨a,rfl,h⟩:=sK U.1;obtain⟨o,E,Y⟩:=Q.of h;rw[E]at z
  cases o with
  |lst D=>
   obtain⟨r,P,l⟩:=Y;refine⟨a,rfl,⟨r,.of P⟩,Post.here z Q ⟨λd A m=> ∃r,SqL X.K m a r/\DenL X.K d m D r/\d[n]? =some a,?_,⟨r,.of P,l,h⟩,?_,?_⟩⟩
   .intro i d A m ⟨j,B,w,v⟩ O;obtain⟨C,I⟩:=HD i d A m ⟨j,B,w⟩ O;refine⟨λhi=>⟨(C hi).1,λx H' y=>?_⟩,I⟩;obtain⟨F,N,j3,G⟩:=(C hi).2 x H' y;obtain⟨rfl,_⟩:=y;exact⟨F,N,⟨j,B,w,v⟩,G⟩
   .intro d A m J S3 H3 ⟨j,B,w,v⟩ x Z hs;have L:=x.at v;have:=Z.obj n a _ L (hs (n,D) (by simp));obtain⟨aa,b1,b2⟩:=this;exact⟨aa,.of b1,b2,L⟩
   .intro p hp;have:=by simpa using hp
    subst this;exact E
  |dic D=>exact z.elim
  |ins c fs=>exact z.elim
  |rcd c fs=>exact z.elim
  |fdc _=>exact z.elim
 .exact z.elim
noncomputable def VC:Er->Sto->R Wk
 |.val (.tup ds),S=>.ok ⟨ds,[]⟩ S
 |_,_=>.no
def Xp(h:zT X W iter f):VZ X W tg iter (λj S=>(f j S).bind VC):=by
 obtain⟨t,h,k⟩:=h;refine⟨_,Vq h,λα j S σ H T r sl q=>k α j S σ H _ r sl (q.bind λu p U o I e E D G c=>?_)⟩
 replace c:=c.shift E
 unfold VC at c;split at c
 .rename_i O n;obtain⟨a,b,rfl,s,l⟩:=lX G.1;exact⟨a,rfl,⟨b,s⟩,c.here D ⟨_,(show zAA X.g (Itt X.K a) (λα S H=> ∃b,SqT X.K H a b/\DenL X.K α H n b) n by intro i α S H ⟨b,s,l⟩ w;have L:=l.length;refine⟨λhi=>?_,λhi=>⟨b,s,by lia⟩⟩;refine⟨⟨b,_,s,gE #[0]⟩,λx H' y=>?_⟩;obtain⟨rfl,y⟩:=y;obtain⟨d,z,C⟩:=l.get (y b s);exact⟨Ext.refl _ _,w,⟨b,s,l⟩,d,z,C⟩),⟨b,s,l⟩,λv Q M B J N ⟨m,F,A⟩ x P _=>⟨m,x.sqT F,A.ext x⟩,fM⟩⟩
 .exact c.elim
noncomputable def iI:List Er->Sto->R Wk
 |[.val (.int j)],S=>if -(2 ^ 62)<=j/\j<2 ^ 62 then .ok ⟨(List.range j.toNat).map λk=>.int (k:Nat),[]⟩ S else .no
 |_,_=>.no
variable{p:Pos}{a:Expr}
def MC{K:Q0}(d:ArgsE K H0 α H [r] vs): ∃v,vs=[v]/\DenX K α H r v:=by
 cases d with
 |cons a n l=>cases l;exact⟨_,rfl,a.1⟩
def Cq(u:Gl X "range")(A:X.mg "range"=none)(c:MA X W [a] af)(hs:starEach [a] X.env=[(false,eval a X.env)]:=by rfl):VZ X W tg (.Call (.Name "range" p) [a] [] pos) (λd S=>(af d S).bind iI):=by
 obtain⟨t,c,k⟩:=c;refine⟨_,Bs u A c hs,λα d S σ H F o sl q=>k α d S σ H _ o sl (q.bind λE C G m B e s r z b=>?_)⟩
 replace b:=b.shift s
 unfold iI at b;split at b
 .split at b
  .rename_i D j h;obtain⟨v,rfl,n⟩:=MC z;cases yZ n;have:=(show zAA X.g (Z5 0 (j.toNat)) (λ_ _ _=>True) ((List.range (j.toNat)).map λk=>.int (0+(k:Nat))) by intro i α S H _ w;refine⟨λhi=>⟨show i<(j.toNat) by simpa using hi,λv H' y=>?_⟩,λhi=>by show (j.toNat)<=i;simpa using hi⟩;obtain⟨rfl,y⟩:=y;refine⟨Ext.refl _ _,w,trivial,_,by rw[ì,getElem?_range (by simpa using hi)];rfl,?_⟩;rw[y];exact kX _);simp only[Int.zero_add]at this;exact⟨j,rfl,h.1,h.2,b.here r ⟨_,this,trivial,λ_ _ _ _ _ _ _ _ _ _=>trivial,fM⟩⟩
  .exact b.elim
 .exact b.elim
open Classical in
noncomputable def nU(gf:MV->Rho->Sto->R Rho)(body:AY)(gs:Z0):List MV->AY
 |[],ρ,S=>.ok (.next ρ) S
 |d::ds,ρ,S=>(gf d ρ S).bind λm u=>(body m u).bind λq j=>match q with
  |.next ρ'=>if stay gs j then nU gf body gs ds ρ' j else .no
  |.cont ρ'=>if stay gs j then nU gf body gs ds ρ' j else .no
  |.brk ρ'=>.ok (.next ρ') j
  |.ret r=>.ok (.ret r) j
open Classical in
def Xq{Z:Rho->Sto->R Wk}{gf:MV->Rho->Sto->R Rho}(hp:PassesOwn ↑5 X.A X.env X.xe)(hc:X.calm=true)(hi:VZ X W tg iter Z)(hg:Nb X W tg gf)(hb:vU X W as F)
  (hs: ∀y,foldedSetIterable iter X.env y=pure y:=by intro _;rfl):OL X W (.For tg iter as [] pos) (λρ S=>(Z ρ S).bind λk S1=>nU gf F k.gs k.ds ρ S1):=by
 obtain⟨wi,hi,ki⟩:=hi;obtain⟨ah,hg,kg⟩:=hg;obtain⟨tb,hb,kb⟩:=hb;refine⟨_,Vr hp hc hi hg hb hs,λα ρ S σ H D wd sl q=>ki α ρ S σ H _ wd sl (q.expr λJ k S1 ab H1 e x1 w1 d1 q1=>?_)⟩;obtain⟨P,hP⟩:=d1;have af:=sl.ext x1
 replace q1:=PostS.shift x1 q1
 refine⟨λn m B I=>m=k.ds.length - n/\n<=k.ds.length/\ ∃b E Q,Wd X.g b Q I/\Slots X.K b I E B/\P b Q I/\PostS X.g W b I D (nU gf F k.gs (k.ds.drop n) E Q),⟨_,rfl,zero_le _,ab,ρ,S1,w1,af,hP.here,by simpa using q1⟩,?_⟩;rintro n m B I ⟨rfl,hn,b,E,Q,w2,Y,p2,N⟩;obtain⟨i1,i2⟩:=hP.it n b Q I p2 w2;by_cases s:n<k.ds.length
 .obtain⟨go,yl⟩:=i1 s;refine .inr ⟨go,λaa u=> ∃j C U,Wd X.g j U u/\Slots X.K j u C aa/\P j U u/\PostS X.g W j u D (nU gf F k.gs (k.ds.drop (n+1)) C U),λaa u ⟨j,C,U,h3⟩=>⟨k.ds.length - (n+1),by omega,rfl,s,j,C,U,h3⟩,λv u y=>?_⟩;obtain⟨x3,w3,p3,d,hd,dv⟩:=yl v u y;have M:k.ds.drop n=d::k.ds.drop (n+1):=by rw[Ī s];have:=gE s;rw[hd]at this;rw[<-ã this]
  rw[M]at N;unfold nU at N
  replace N:=PostS.shift x3 N
  refine kg b E Q B u d v _ w3 (Y.ext x3) dv (N.expr λag ae S4 z H4 e4 x4 w4 s4 q4=>?_);have p4: ∀a c H5,Ext z H4 a H5->Wd X.g a c H5->stay k.gs c->P a c H5:=λa c H5 o p G=>hP.stays b Q u a c H5 p3 (x4.trans o) p G;refine kb z ae S4 ag H4 _ w4 s4 ((PostS.shift x4 q4).stmt ?_ ?_ ?_ ?_)
  .intro i c T a H5 e5 o p G O;have h:PostS X.g W z H4 D (if stay k.gs c then nU gf F k.gs (k.ds.drop (n+1)) i c else .no):=O;split at h
   .rename_i L;exact⟨a,i,c,p,G,p4 a c H5 o p L,PostS.shift o h⟩
   .exact h.elim
  .intro r c v5 a H5 e5 o p d5 O;exact O v5 a H5 o p d5
  .intro i c T a H5 e5 o p G O;exact O T a H5 o p G
  .intro i c T a H5 e5 o p G O;have h:PostS X.g W z H4 D (if stay k.gs c then nU gf F k.gs (k.ds.drop (n+1)) i c else .no):=O;split at h
   .rename_i L;exact⟨a,i,c,p,G,p4 a c H5 o p L,PostS.shift o h⟩
   .exact h.elim
 .have e:n=k.ds.length:=by omega
  subst e;refine .inl ⟨i2 (à _),?_⟩;rw[drop_length]at N;exact N B b I (Ext.refl _ _) w2 Y
noncomputable def lY(t:AZ)(b:AY):Nat->AY
 |0,_,_=>.no
 |n+1,ρ,S=>(t ρ S).bind λk d=>if k=true then(b ρ d).bind λj S2=>match j with
   |.next ρ'=>lY t b n ρ' S2
   |.cont ρ'=>lY t b n ρ' S2
   |.brk ρ'=>.ok (.next ρ') S2
   |.ret r=>.ok (.ret r) S2
  else .ok (.next ρ) d
def Gw(N)(hp:PassesOwn ↑5 X.A X.env X.xe)(I:vQ X W c tf)(M:vU X W as F):OL X W (.While c as [] pos) (λL S=>lY tf F N L S):=by
 obtain⟨tc,I,Y⟩:=I;obtain⟨tb,M,U⟩:=M;refine⟨_,Fn hp I M,λα L S σ H D Z sl q=>⟨λm e z=> ∃b d G,Wd X.g b G z/\Slots X.K b z d e/\PostS X.g W b z D (lY tf F m d G),⟨N,α,L,S,Z,sl,q⟩,?_⟩⟩;rintro m e z ⟨b,d,G,w1,o,P⟩
 cases m with
 |zero=>exact P.elim
 |succ n=>
  refine Y b d G e z _ w1 o (P.expr λu p S2 y T e2 J Q d2 B=>?_);cases d2
  replace B:=PostS.shift J B
  cases u with
  |false=>rw[iN xF0]at B ⊢; exact B e y T (Ext.refl _ _) Q (o.ext J)
  |true=>
   refine⟨λaa H3=> ∃ae af S3,_,λab H' h=>⟨n,ć n,h⟩,U y d S2 e T _ Q (o.ext J) (B.stmt ?_ ?_ ?_ ?_)⟩
   .intro i E v a H5 O j k C s;exact⟨a,i,E,k,C,PostS.shift j s⟩
   .intro r E v5 a H5 O j k d5 s;exact s v5 a H5 j k d5
   .intro i E v a H5 O j k C s;exact s v a H5 j k C
   .intro i E v a H5 O j k C s;exact⟨a,i,E,k,C,PostS.shift j s⟩
end
noncomputable def noX:R β->R β
 |.ok b S=>.ok b S
 |_=>.no
theorem yC(b:β)(S):noX (R.ok b S)=.ok b S:=rfl
def Post.bindY[Dn β τ][Dn γ υ]{g:Gm}{W:XW}{α α':B9}{H H':Hp}(x:Ext α H α' H'){m:R β}{k:β->Sto->R γ}{Q:υ->Hp->Prop}{a:τ->Hp->Prop}(q:Post g W α H ((noX m).bind k) Q)
  (f: ∀u b y j v,m=.ok b y->Ext α' H' j v->Wd g j y v->Dn.d g H' j y v b u->Post g W α H (k b y) Q->a u v):Post g W0 α' H' m a:=by
 cases m with
 |ok b S=>exact λu j v x w d=>f u b S j v rfl x w d q
 |exc c fs S=>exact q.elim
 |no=>exact q
theorem R.bind_assoc(m:R β)(k1)(a:γ->Sto->R δ):(m.bind k1).bind a=m.bind λb S=>(k1 b S).bind a:=by cases m<;>rfl
noncomputable def CF(nt:Nat)(a:Db)(b:Rho):Rho:=List.replicate nt none++a.map λi=>(b[i]?).join
open Classical in
def yD(gf:MV->Rho->Sto->R Rho)(cf:AZ)(ef:AX)(ρb:Rho)(gs:Z0):List MV->Sto->R (List MV)
 |[],S=>.ok [] S
 |d::ds,S=>(noX (gf d ρb S)).bind λj u=>(noX (cf j u)).bind λk m=>
  if k=true then(noX (ef j m)).bind λr S2=>(nT r S2).bind λy S3=>if stay gs S3 then(yD gf cf ef ρb gs ds S3).bind λout q=>.ok (y::out) q else .no
  else if stay gs m then yD gf cf ef ρb gs ds m else .no
theorem Cr{K:Q0}(q:Slots K α H ρ σ)(nt)(idx)(τ)(a:τ.length=nt):Slots K α H (CF nt idx ρ) (τ++CN σ idx):=by
 refine⟨by unfold CF;rw[lA,lA,oC,lM,Ğ,a],λi d e=>?_⟩;unfold CF at e;by_cases hi:i<nt
 .rw[æ (by rw[Ğ];exact hi),List.getElem?_replicate]at e;split at e<;>cases e
 .rw[ð (by rw[Ğ];lia),Ğ,ì]at e
  cases z:idx[i - nt]? with
  |none=>rw[z]at e;cases e
  |some k=>
   rw[z]at e;have b:(ρ[k]?).join=some d:=ã e
   cases c:ρ[k]? with
   |none=>rw[c]at b;cases b
   |some o=>
    rw[c]at b;subst b;obtain⟨v,j,h⟩:=q.slot k d c;refine⟨v,?_,h⟩;rw[ð #[0],a];unfold CN;rw[ì,z];show some (σ[k]?).join=some _;rw[j];rfl
def Keeps(nt:Nat)(σ:St)(Q:St->Hp->Prop):St->Hp->Prop:=λa H'=>a.length=σ.length->(∀j,nt<=j->a[j]? =σ[j]?)->Q a H'
def Gx(nt:Nat)(X:Cx)(W:XW)(tg:Expr)(gf:MV->Rho->Sto->R Rho):Prop:=
 ∃t,PG X tg t/\ ∀α a S σ H d v Q,Wd X.g α S H->Slots X.K α H a σ->Den X.K α H d v->Post X.g W α H (gf d a S) (Keeps nt σ Q)->t v σ H Q
def Gy(nt:Nat)(X:Cx)(W:XW)(a:P0)(gf:List MV->Rho->Sto->R Rho):Prop:=
 ∃t,J9 X a t/\ ∀α c S σ H d b Q,Wd X.g α S H->Slots X.K α H c σ->DenL X.K α H d b->Post X.g W α H (gf d c S) (Keeps nt σ Q)->t b σ H Q
section
variable{X:Cx}{W:XW}{pos:Pos}{nt:Nat}
theorem Ni(i)(e:X.N.Nodup)(hi:X.N[i]? =some x:=by rfl)(hx:Loc X.env.scope x:=by first |exact Or.inl rfl|exact Or.inr rfl)(b:z0 X x:=by first |exact .inl rfl|exact .inr rfl|assumption)(a:i<nt:=by decide):
  Gx nt X W (.Name x pos) (yF i):=⟨_,YC e hi hx b,λα k S σ H d v Q c sl h q=>Post.here q c (sl.set h) (by rw[þ]) λj m=>by rw[Ć #[0]]⟩
def Xr:Gy nt X W [] xR:=⟨_,YD,λα h S σ H a e Q c sl b q=>by
 cases a with
 |nil=>exact⟨b.isnil,Post.here q c sl rfl λ_ _=>rfl⟩
 |cons d a=>exact q.elim⟩
def Post.keeps{m:R Rho}(n:σ1.length=σ.length)(h: ∀j,nt<=j->σ1[j]? =σ[j]?)(q:Post g W α H m (Keeps nt σ Q)):Post g W α H m (Keeps nt σ1 Q):=by
 cases m with
 |ok b S=>exact λu a i x w d o k=>q u a i x w d (o.trans n) λj e=>(k j e).trans (h j e)
 |exc c fs S=>exact q
 |no=>exact q
def Nj(c:Gx nt X W e g1)(i:Gy nt X W es g2)(hs:(assignEach (e::es) X.env).map (·.2)=assign e X.env::(assignEach es X.env).map (·.2):=by rfl):Gy nt X W (e::es) (zI g1 g2):=by
 obtain⟨E,c,k⟩:=c;obtain⟨D,i,y⟩:=i;refine⟨_,RG c i hs,λα A S σ H h F Q o sl z q=>?_⟩
 cases h with
 |nil=>exact q.elim
 |cons d h=>
  obtain⟨v,r,rfl,a,l⟩:=z.uncons;refine⟨v,r,rfl,k α A S σ H d v _ o sl a (Post.bind q λu p B b s e m w C n k j=>y b p B u s h r Q w C (l.ext m) (Post.keeps k j (n.shift m)))⟩
def Xs{k:Nat}(j:X.calm=true)(h:Gy nt X W es g2)
  (hn:(assignEach es X.env).length=n:=by rfl) (hst:(assignEach es X.env).findIdx? (·.1)=none:=by rfl):Gx nt X W (.Tuple es k pos) (uK n g2):=by
 obtain⟨t,h,k⟩:=h;refine⟨_,Fm j h hn hst,λα i S σ H d v Q c sl e q=>?_⟩;unfold uK at q;split at q
 .split at q
  .rename_i m;obtain⟨a,b,rfl,s,l⟩:=yY e;exact⟨a,b,rfl,s,by rw[l.length];exact m,k α i S σ H _ b Q c sl l q⟩
  .exact q.elim
 .exact q.elim
end
abbrev ON(X:Cx)(W:XW)(a:P0)(f:AZ):Prop:=Jd X W (Cf X a) f
section
variable{X:Cx}{W:XW}{iter:Expr}{c:Expr}{pos:Pos}
def Nk:ON X W [] (λ_ S=>.ok true S):=⟨_,(λ_ _ _ H _ I h=>wpAny_tests_nil ⟨H,I,h⟩),λα b S σ H Q a sl q=>q.here a rfl⟩
def Nl(h:vQ X W c tf):ON X W [c] tf:=let ⟨t,h,k⟩:=h;⟨t,(λpins s σ H Q I q=>wpAny_tests_one (h pins s σ H Q I q)),k⟩
open Classical in
def YN{C:Cx->Prop}{aa tg:Expr}{ae:P0}{sc:Scope}{ak:Rho->Sto->R Wk}{cf:AZ}{ef:AX}{gf:MV->Rho->Sto->R Rho}(ah:Scope)(N:K0)(T:K0)(a:Db)
  (hi:Jd X W (N4 C X tg iter) ak) (hCx: ∀c z O fp pins σ,Inv X pins σ O z->C (zN X sc T a c z O fp))
  (hg: ∀C z B fp,([]++T++a.map λi=>(N[i]?).getD Str.empty).Nodup->Gx T.length (zN X sc T a C z B fp) W0 tg gf)
  (hc: ∀C z B fp,ON (zN X sc T a C z B fp) W0 ae cf) (he: ∀C z B fp,zT (zN X sc T a C z B fp) W0 aa ef)
  (e1:X.env.scope=ah:=by rfl) (e2:X.N=N:=by rfl) (hB:sH ah N sc a=true:=by decide+kernel) (hN:([]++T++a.map λi=>(N[i]?).getD Str.empty).Nodup:=by decide+kernel)
  (hs: ∀y,foldedSetIterable iter X.env y=pure y:=by intro _;rfl):
  Jd (β:=Er) (τ:=V) X W (λt=>PE X (.ListComp aa [⟨tg,iter,ae,0⟩] sc pos) t/\PU X (.ListComp aa [⟨tg,iter,ae,0⟩] sc pos) t) (λG S=>(ak G S).bind λk S1=>if k.ds.length<1000000 then(yD gf cf ef (CF T.length a G) k.gs k.ds S1).bind λout S2=>.ok (.new out) S2 else .no):=by
 obtain⟨wi,hi,ki⟩:=hi;subst e1 e2;have aw:(1000000:Nat)<sizeLine:=by rw[Ď];decide
 have aq: ∃t,(∀C z B fp,PG (zN X sc T a C z B fp) tg t)/\ ∀α G S σ H d v Q,Wd X.g α S H->Slots X.K α H G σ->Den X.K α H d v->Post X.g W0 α H (gf d G S) (Keeps T.length σ Q)->t v σ H Q:=by refine⟨λv σ H Q=> ∃α G S d,Wd X.g α S H/\Slots X.K α H G σ/\Den X.K α H d v/\Post X.g W0 α H (gf d G S) (Keeps T.length σ Q),λC z B fp pins s σ H v u Q I r ⟨α,G,S,d,h1,h2,h3,h4⟩=>?_,λα G S σ H d v Q h1 h2 h3 h4=>⟨α,G,S,d,h1,h2,h3,h4⟩⟩;obtain⟨t,ht,kt⟩:=hg C z B fp hN;exact ht pins s σ H v u Q I r (kt α G S σ H d v Q h1 h2 h3 h4)
 obtain⟨ax,aj,kg⟩:=aq;refine⟨_,⟨Mp T a hi hCx hB aj (λC z B fp=>(ò (hc C z B fp)).1) (λC z B fp=>(ò (he C z B fp)).1) hs,Mr T a hi hCx hB aj (λC z B fp=>(ò (hc C z B fp)).1) (λC z B fp=>(ò (he C z B fp)).1) hs⟩,λα G S σ H Q wd sl q=>ki α G S σ H _ wd sl (q.bind λJ k S1 ar B e1 x1 w1 d1 q1=>?_)⟩;obtain⟨P,hP⟩:=d1;split at q1
 .rename_i av
  refine⟨λn m ys O=>m=k.ds.length - n/\n<=k.ds.length/\ys.length<=n/\ ∃w S2,Ext α H w O/\Wd X.g w S2 O/\P w S2 O/\ ∃h,DenL X.K w O h ys/\Post X.g W α H ((yD gf cf ef (CF T.length a G) k.gs (k.ds.drop n) S2).bind λo A=>.ok (Er.new (h++o)) A) Q,
   ⟨_,rfl,zero_le _,à _,ar,S1,x1,w1,hP.here,[],yK,by simpa using q1⟩,?_⟩
  rintro n m ys O ⟨rfl,hn,hy,w,S2,x2,w2,p2,h,l,q2⟩;obtain⟨i1,i2⟩:=hP.it n w S2 O p2 w2;refine⟨by omega,?_⟩;by_cases E:n<k.ds.length
  .obtain⟨go,yl⟩:=i1 E;refine .inr ⟨go,by omega,λv H3 y τ M=>?_⟩;obtain⟨x3,w3,p3,d,hd,dv⟩:=yl v H3 y;have af:k.ds.drop n=d::k.ds.drop (n+1):=by rw[Ī E];have:=gE E;rw[hd]at this;rw[<-ã this]
   rw[af]at q2;unfold yD at q2;have ao:=Cr (sl.ext (x2.trans x3)) T.length a τ M;refine kg w (CF T.length a G) S2 _ H3 d v _ w3 ao dv ?_;rw[R.bind_assoc]at q2;refine q2.bindY (x2.trans x3) λY ai S4 ag H4 e4 x4 w4 s4 q4 Z au=>⟨⟨Y.take T.length,?_,?_⟩,λC z fp=>?_⟩
   .refine Ŕ λj=>?_;have ay:Y.length=T.length+a.length:=by rw[Z,lA,oC,M]
    by_cases hj:j<T.length
    .rw[æ (by rw[lT];omega),Ċ hj]
    .rw[au j (by omega),ð (by omega),ð (by rw[lT];omega),M,lT,min_eq_left (by omega)]
   .rw[lT,Z,lA,oC,M];omega
   have U:Ext α H ag H4:=(x2.trans x3).trans x4;have p4: ∀p L H5,Ext ag H4 p H5->Wd X.g p L H5->stay k.gs L->P p L H5:=λp L H5 F w5 s5=>hP.stays w S2 H3 p L H5 p3 (x4.trans F) w5 s5;rw[R.bind_assoc]at q4;refine(ò (hc C z B fp)).2 ag ai S4 Y H4 _ w4 s4 (q4.bindY U λb5 az L p H5 e5 F w5 d5 q5=>?_);cases d5
   cases b5 with
   |false=>
    rw[iN xF0]at q5 ⊢;split at q5
    .rename_i ab;exact⟨k.ds.length - (n+1),by omega,rfl,E,by omega,p,L,U.trans F,w5,p4 p L H5 F w5 ab,h,(l.ext (x3.trans x4)).ext F,q5⟩
    .exact q5.elim
   |true=>
    rw[iP rfl,R.bind_assoc]at q5;rw[iP rfl];refine(ò (he C z B fp)).2 p ai L Y H5 _ w5 (s4.ext F) (q5.bindY (U.trans F) λy6 r6 S6 a0 H6 e6 x6 w6 d6 q6=>?_);obtain⟨d',A,α',e7,x7,y7,w7,de⟩:=pY w6 x6 d6;rw[e7]at q6;have q6:Post X.g W α H ((if stay k.gs A then(yD gf cf ef (CF T.length a G) k.gs (k.ds.drop (n+1)) A).bind λout S4=>.ok (d'::out) S4 else .no).bind λo A=>.ok (Er.new (h++o)) A) Q:=q6;split at q6
    .rename_i ab;refine⟨k.ds.length - (n+1),by omega,rfl,E,by rw[lA,lS];omega,α',A,(U.trans F).trans x7,w7,p4 α' A H6 (F.trans x7) w7 ab,h++[d'],((l.ext (x3.trans x4)).ext (F.trans x7)).append (yE de yK),?_⟩;rw[R.bind_assoc]at q6;have e8:(λ(o:U0) (A:Sto)=>R.ok (Er.new ((h++[d'])++o)) A)=(λ(b:U0) S=>(R.ok (d'::b) S).bind λo A=>.ok (Er.new (h++o)) A):=by funext o A;show _=R.ok (Er.new (h++(d'::o))) A;rw[aA];rfl
     rw[e8];exact q6
    .exact q6.elim
  .have e:n=k.ds.length:=by omega
   subst e;rw[drop_length]at q2;have q3:Post X.g W α H (.ok (Er.new (h++[])) S2) Q:=q2;rw[aN]at q3;exact .inl ⟨i2 (à _),λD hD=>(q3.shift x2).newl w2 hD l⟩
 .exact q1.elim
open Classical in
def YO{m tg:Expr}{c:P0}{e:Scope}{n:Rho->Sto->R Wk}{cf:AZ}{ef:AX}{gf:MV->Rho->Sto->R Rho}(b:Scope)(N:K0)(T:K0)(a:Db)
  (hi:VZ X W tg iter n) (hcalm:X.calm=true)
  (hg: ∀C d j fp,([]++T++a.map λi=>(N[i]?).getD Str.empty).Nodup->Gx T.length (zN X e T a C d j fp) W0 tg gf)
  (hc: ∀C d j fp,ON (zN X e T a C d j fp) W0 c cf) (he: ∀C d j fp,zT (zN X e T a C d j fp) W0 m ef)
  (e1:X.env.scope=b:=by rfl) (e2:X.N=N:=by rfl) (hB:sH b N e a=true:=by decide+kernel) (hN:([]++T++a.map λi=>(N[i]?).getD Str.empty).Nodup:=by decide+kernel)
  (hs: ∀y,foldedSetIterable iter X.env y=pure y:=by intro _;rfl):
  zT X W (.ListComp m [⟨tg,iter,c,0⟩] e pos) (λq S=>(n q S).bind λk u=>if k.ds.length<1000000 then(yD gf cf ef (CF T.length a q) k.gs k.ds u).bind λout S2=>.ok (.new out) S2 else .no):=let ⟨t,h,k⟩:=(YN b N T a hi (λ_ _ _ _ _ _ _=>hcalm) hg hc he e1 e2 hB hN hs);⟨t,h.1,k⟩
open Classical in
def Nn{x:Str}{b c:Pos}(i:Nat)(z:X.N.Nodup){n tg:Expr}{j:P0}{p:Scope}{s:Rho->Sto->R Wk}{cf:AZ}{ef:AX}{gf:MV->Rho->Sto->R Rho}(o:Scope)(N:K0)(T:K0)(a:Db)
  (hi:VZ X W tg iter s) (hcalm:X.calm=true)
  (hg: ∀C d m fp,([]++T++a.map λi=>(N[i]?).getD Str.empty).Nodup->Gx T.length (zN X p T a C d m fp) W0 tg gf)
  (hc: ∀C d m fp,ON (zN X p T a C d m fp) W0 j cf) (he: ∀C d m fp,zT (zN X p T a C d m fp) W0 n ef)
  (B:X.env.scope=o:=by rfl) (e2:X.N=N:=by rfl) (hB:sH o N p a=true:=by decide+kernel) (hN:([]++T++a.map λi=>(N[i]?).getD Str.empty).Nodup:=by decide+kernel)
  (hs: ∀y,foldedSetIterable iter X.env y=pure y:=by intro _;rfl)
  (hi2:X.N[i]? =some x:=by rfl) (hx:Loc X.env.scope x:=by first |exact Or.inl rfl|exact Or.inr rfl)
  (hsw:swapsWith (.ListComp n [⟨tg,iter,j,0⟩] p pos) (some (.Name x b)) c.line X.env=pure true:=by with_unfolding_all rfl) (hf:z0 X x:=by first |exact .inl rfl|exact .inr rfl|assumption):
  OL X W (.Assign [.Name x b] (.ListComp n [⟨tg,iter,j,0⟩] p pos) c) (λv S=>((s v S).bind λk G=>if k.ds.length<1000000 then(yD gf cf ef (CF T.length a v) k.gs k.ds G).bind λout S2=>.ok (.new out) S2 else .no).bind (HC v i)):=by
 obtain⟨t,h,k⟩:=(YN o N T a hi (λ_ _ _ _ _ _ _=>hcalm) hg hc he B e2 hB hN hs)
 refine⟨_,h.2 i x b c z hi2 hx hf hsw,λα v S σ H D F sl q=>k α v S σ H _ F sl (q.expr λu r G E m e A L K w=>?_)⟩;obtain⟨P,Q,α',B,J,I,M,O⟩:=pY L A K;unfold HC at w;rw[B]at w;exact w _ α' m J M (((sl.ext A).ex0 I).set O)
end
mutual
def lo(n:Nat):MV->Prop
 |.loc l=>l<n
 |.tup ds=>CS n ds
 |.scr ds=>CS n ds
 |.obj _ _ ds=>CS n ds
 |_=>True
def CS(n:Nat):List MV->Prop
 |[]=>True
 |d::ds=>lo n d/\CS n ds
end
def loO(n:Nat):MO->Prop
 |.lst ds=>CS n ds
 |.dic kvs=> ∀p∈kvs,lo n p.1/\lo n p.2
 |.ins _ fs=> ∀p∈fs,lo n p.2
 |.rcd _ fs=> ∀p∈fs,lo n p.2
 |.fdc kvs=> ∀p∈kvs,lo n p.1/\lo n p.2
section
variable{K:Q0}{α t:B9}{H:Hp}
mutual
theorem Den.back: ∀{d:MV}{v:V},Den K (α++t) H d v->lo α.length d->Den K α H d v
 |.non,_,q,_=>by cases lW q;exact FX
 |.bl _,_,q,_=>by cases pV q;exact cM _
 |.int _,_,q,_=>by cases xH q;exact kX _
 |.str _,_,q,_=>by cases xI q;exact oE _
 |.typ _,_,q,_=>by cases fU q;exact YK _
 |.obj c ns ds,_,q,h=>by obtain⟨a,C,y,vs,o,rfl,e,m,u,j,l⟩:=nQ q;exact YM e m u j (DenL.back l (by unfold lo at h;exact h))
 |.loc l,_,q,h=>by
  obtain⟨a,rfl,e⟩:=dA q;have j:l<α.length:=by unfold lo at h;exact h
  rw[æ j]at e;exact FY e
 |.tup ds,_,q,h=>by obtain⟨a,vs,rfl,s,l⟩:=yY q;exact qQ s (DenL.back l (by unfold lo at h;exact h))
 |.scr ds,_,q,h=>by obtain⟨a,vs,rfl,s,l⟩:=nR q;exact YL s (DenL.back l (by unfold lo at h;exact h))
theorem DenL.back: ∀{ds:U0}{vs:List V},DenL K (α++t) H ds vs->CS α.length ds->DenL K α H ds vs
 |[],_,q,_=>by rw[q.isnil];exact yK
 |d::ds,_,q,h=>by obtain⟨v,r,rfl,a,l⟩:=q.uncons;unfold CS at h;exact yE (Den.back a h.1) (DenL.back l h.2)
end
mutual
theorem Den.lo: ∀{d:MV}{v:V},Den K α H d v->lo α.length d
 |.non,_,q=>by unfold M.lo;trivial
 |.bl _,_,q=>by unfold M.lo;trivial
 |.int _,_,q=>by unfold M.lo;trivial
 |.str _,_,q=>by unfold M.lo;trivial
 |.typ _,_,q=>by unfold M.lo;trivial
 |.obj c ns ds,_,q=>by obtain⟨a,C,m,vs,o,rfl,e,j,u,y,l⟩:=nQ q;unfold M.lo;exact DenL.lo l
 |.loc l,_,q=>by obtain⟨a,rfl,e⟩:=dA q;unfold M.lo;exact(gS.mp e).1
 |.tup ds,_,q=>by obtain⟨a,vs,rfl,s,l⟩:=yY q;unfold M.lo;exact DenL.lo l
 |.scr ds,_,q=>by obtain⟨a,vs,rfl,s,l⟩:=nR q;unfold M.lo;exact DenL.lo l
theorem DenL.lo: ∀{ds:U0}{vs:List V},DenL K α H ds vs->CS α.length ds
 |[],_,q=>by unfold CS;trivial
 |d::ds,_,q=>by obtain⟨v,r,rfl,a,l⟩:=q.uncons;unfold CS;exact⟨Den.lo a,DenL.lo l⟩
end
def DenK.back: ∀{fs gs},DenK K (α++t) H fs gs->(∀p∈fs,M.lo α.length p.1/\M.lo α.length p.2)->DenK K α H fs gs:=λc=>by
 induction c with
 |nil=>exact(λ_=>.nil)
 |cons k a l ih=>exact(λh=>.cons k (a.back (h _ mF0).2) (ih λp b=>h p (mO _ b)))
def KeyD.lo(h:KeyD k k'):M.lo n k:=by
 unfold KeyD at h;split at h
 .unfold M.lo;trivial
 .unfold M.lo;trivial
 .exact h.elim
def DenK.lo: ∀{fs gs},DenK K α H fs gs-> ∀p∈fs,M.lo α.length p.1/\M.lo α.length p.2:=λb=>by
 induction b with
 |nil=>exact λp h=>by simp at h
 |cons k a l ih=>exact λp h=>(mC.mp h).elim (λe=>by subst e;exact⟨k.lo,a.lo⟩) (ih p)
def DenN.back: ∀{fs xs},DenN K (α++t) H fs xs->(∀p∈fs,M.lo α.length p.1/\M.lo α.length p.2)->DenN K α H fs xs:=λc=>by
 induction c with
 |nil=>exact(λ_=>.nil)
 |cons k e a d r l ih=>exact(λh=>.cons k e (a.back (h _ mF0).1) (d.back (h _ mF0).2) r (ih λp b=>h p (mO _ b)))
def DenN.lo: ∀{fs xs},DenN K α H fs xs-> ∀p∈fs,M.lo α.length p.1/\M.lo α.length p.2:=λb=>by
 induction b with
 |nil=>exact λp h=>by simp at h
 |cons k e a d r l ih=>exact λp h=>(mC.mp h).elim (λz=>by subst z;exact⟨a.lo,d.lo⟩) (ih p)
def DenF.back: ∀{fs gs},DenF K (α++t) H fs gs->(∀p∈fs,M.lo α.length p.2)->DenF K α H fs gs:=λc=>by
 induction c with
 |nil=>exact(λ_=>.nil)
 |cons a l ih=>exact(λh=>.cons (a.back (h _ mF0)) (ih λp b=>h p (mO _ b)))
def DenF.lo: ∀{fs gs},DenF K α H fs gs-> ∀p∈fs,M.lo α.length p.2:=λb=>by
 induction b with
 |nil=>exact λp h=>by simp at h
 |cons a l ih=>exact λp h=>(mC.mp h).elim (λe=>by subst e;exact a.lo) (ih p)
def ObD.back(q:ObD g (α++t) H a o)(h:loO α.length o):ObD g α H a o:=by
 cases o with
 |lst ds=>obtain⟨d,b,l⟩:=q;exact⟨d,b,l.back h⟩
 |dic ds=>
  rcases q with⟨d,b,l⟩|⟨d,b,l⟩
  .exact .inl ⟨d,b,l.back h⟩
  .exact .inr ⟨d,b,l.back h⟩
 |ins c fs=>obtain⟨C,e,m,l,r⟩:=q;exact⟨C,e,m,l.back h,r⟩
 |rcd c fs=>obtain⟨C,i,e,m,b,l⟩:=q;exact⟨C,i,e,m,b,l.back h⟩
 |fdc kvs=>obtain⟨j,xs,b,l⟩:=q;exact⟨j,xs,b,l.back h⟩
def ObD.lo(q:ObD g α H a o):loO α.length o:=by
 cases o with
 |lst ds=>obtain⟨d,b,l⟩:=q;exact l.lo
 |dic ds=>
  rcases q with⟨d,b,l⟩|⟨d,b,l⟩
  .exact l.lo
  .exact l.lo
 |ins c fs=>obtain⟨C,e,m,l,r⟩:=q;exact l.lo
 |rcd c fs=>obtain⟨C,h,e,m,b,l⟩:=q;exact l.lo
 |fdc kvs=>obtain⟨i,xs,b,l⟩:=q;exact l.lo
end
def EQ(S S2:Sto):Prop:=↑0<=S2.length/\ ∀l,l<↑0->S2[l]? =S[l]? \/ ∃o,S2[l]? =some o/\loO ↑0 o
open Classical in
noncomputable def nN(S:Sto)(r:Er)(S2:Sto):R Er:=
 if EQ S S2 then match r with
  |.val (.loc l)=>if l<S.length then .ok r (S2.take S.length)else match S2[l]? with
   |some (.lst ds)=>if CS S.length ds then .ok (.new ds) (S2.take S.length)else .ok r S2
   |_=>.ok r S2
  |.val d=>if lo S.length d then .ok r (S2.take S.length)else .ok r S2
  |.new ds=>if CS S.length ds then .ok r (S2.take S.length)else .ok r S2
 else .ok r S2
theorem Np(G:Ext α H α1 H1)(M:Wd g α1 S1 H1)(N: ∃t,α2=α1++t)(X:Ext α H α2 H1)(S:Ext α2 H1 α3 H3)(n:Wd g α3 S3 H3)(d:DenE g.K H1 α3 H3 r v):
  ∃Q S' α',nN S1 r S3=.ok Q S'/\Ext α H α' H3/\Wd g α' S' H3/\DenE g.K H α' H3 Q v:=by
 have i:=X.trans S;have c:=d.back λb h=>G.free h;unfold nN;by_cases F:EQ S1 S3
 .rw[iP F];obtain⟨t,B⟩: ∃t,α3=α1++t:=by obtain⟨t,e⟩:=N;obtain⟨u,e'⟩:=S.pre;exact⟨_,by rw[e',e,aA]⟩
  have A:=M.len;have p:Ext α H α1 H3:=⟨⟨G.pre,i.tup,i.frz⟩,G.new,i.keep,i.has⟩
  have s:Wd g α1 (S3.take S1.length) H3:=by
   refine⟨by rw[lT,A,min_eq_left F.1],M.nd,λl a o C y=>?_⟩;have j:l<S1.length:=by rw[<-A];exact(gS.mp C).1
   rw[Ċ j]at y;have q:=n.obj l a o (by rw[B,æ (by rw[A];exact j)];exact C) y;rw[B]at q;refine q.back ?_;rcases F.2 l j with e|⟨o',e,lo'⟩
   .rw[e]at y;exact(M.obj l a o C y).lo
   .rw[y]at e;cases e;rw[A];exact lo'
  have k: ∀d,lo S1.length d->Den g.K α3 H3 d v->DenE g.K H α1 H3 _ v:=λd hd q=>.val ((B▸q:Den g.K _ H3 d v).back (by rw[A];exact hd))
  cases r with
  |new J=>
   dsimp only;split
   .rename_i j;obtain⟨⟨b,E,rfl,C,y,W⟩,Z⟩:=c;exact⟨_,_,α1,rfl,p,s,⟨b,E,rfl,C,λz=>y (by rw[B];exact Ĝ _ z),(B▸W:DenL g.K _ H3 J E).back (by rw[A];exact j)⟩,Z⟩
   .exact⟨_,_,α3,rfl,i,n,c⟩
  |val mv=>
   have w:Den g.K α3 H3 mv v:=c.1
   cases mv with
   |loc l=>
    dsimp only;split
    .rename_i j;exact⟨_,_,α1,rfl,p,s,k _ (by unfold lo;exact j) w⟩
    .rename_i j;obtain⟨a,rfl,P⟩:=dA w;split
     .rename_i J U;split
      .rename_i O;obtain⟨E,C,y⟩:=n.obj l a _ P U
       have D:a∉α1:=λz=>by
        obtain⟨m,T⟩:=ĝ z;have I:=(gS.mp T).1;have L:α3[m]? =some a:=by rw[B,æ I];exact T
        obtain⟨u1,e1⟩:=gS.mp L;obtain⟨u2,Y⟩:=gS.mp P;have:=(getElem_inj n.nd).mp (e1.trans Y.symm)
        lia
       refine⟨_,_,α1,rfl,p,s,⟨a,E,rfl,C,D,(B▸y:DenL g.K _ H3 J E).back (by rw[A];exact O)⟩,λb e=>?_⟩;cases e;rcases i.new a (á P)with z|z
       .obtain⟨u,eu⟩:=G.pre;exact absurd (by rw[eu];exact Ĝ _ z) D
       .exact z
      .exact⟨_,_,α3,rfl,i,n,c⟩
     .exact⟨_,_,α3,rfl,i,n,c⟩
   |non=>dsimp only;split;(· rename_i j;exact⟨_,_,α1,rfl,p,s,k _ j w⟩);(· exact⟨_,_,α3,rfl,i,n,c⟩)
   |bl b=>dsimp only;split;(· rename_i j;exact⟨_,_,α1,rfl,p,s,k _ j w⟩);(· exact⟨_,_,α3,rfl,i,n,c⟩)
   |int b=>dsimp only;split;(· rename_i j;exact⟨_,_,α1,rfl,p,s,k _ j w⟩);(· exact⟨_,_,α3,rfl,i,n,c⟩)
   |str b=>dsimp only;split;(· rename_i j;exact⟨_,_,α1,rfl,p,s,k _ j w⟩);(· exact⟨_,_,α3,rfl,i,n,c⟩)
   |typ b=>dsimp only;split;(· rename_i j;exact⟨_,_,α1,rfl,p,s,k _ j w⟩);(· exact⟨_,_,α3,rfl,i,n,c⟩)
   |obj b b' b''=>dsimp only;split;(· rename_i j;exact⟨_,_,α1,rfl,p,s,k _ j w⟩);(· exact⟨_,_,α3,rfl,i,n,c⟩)
   |tup b=>dsimp only;split;(· rename_i j;exact⟨_,_,α1,rfl,p,s,k _ j w⟩);(· exact⟨_,_,α3,rfl,i,n,c⟩)
   |scr b=>dsimp only;split;(· rename_i j;exact⟨_,_,α1,rfl,p,s,k _ j w⟩);(· exact⟨_,_,α3,rfl,i,n,c⟩)
 .rw[iN F];exact⟨_,_,α3,rfl,i,n,c⟩
def KM(g:Gm)(n:Nat)(F:List MV->Sto->R Er):Sp:=λb H Q _=> ∃α S a,Wd g α S H/\DenL g.K α H a b/\a.length=n/\Post g W0 α H (F a S) Q
def zG(n:Nat)(F:List MV->Sto->R Er)(rs:List Er)(S:Sto):R Er:=if rs.length=n then(noX (F (zM rs S).1 (zM rs S).2)).bind λr a=>nN S r a else .no
section
variable{X:Cx}{pos:Pos}
def MD(d:Ext α H α1 H1)(b:Wd X.g α1 S1 H1)(u:ArgsE X.K H α1 H1 rs vs)(q:Post X.g W α H (zG n F rs S1) Q):
  KM X.g n F vs H1 Q E0:=by
 unfold zG at q;split at q
 .rename_i e;obtain⟨a,A,o,w,p⟩:=sM b d u;refine⟨a,_,_,w,p,by rw[CQ];exact e,?_⟩
  cases z:F (zM rs S1).1 (zM rs S1).2 with
  |ok r S3=>
   rw[z]at q;intro v y B C h k;obtain⟨E,D,α',m,s,j,i⟩:=Np d b o.pre A C h k;have q:Post X.g W α H (nN S1 r S3) Q:=q;rw[m]at q;exact q v α' B s j i
  |exc c fs S3=>rw[z]at q;exact q.elim
  |no=>rw[z]at q;exact q.elim
 .exact q.elim
end
noncomputable def zF(N:K0)(ds:U0):Rho:=ds.map some++List.replicate (N.length - ds.length) none
noncomputable def zU:R Fl->R Er
 |.ok (.next _) S=>.ok (.val .non) S
 |.ok (.ret r) S=>.ok r S
 |.exc c fs S=>.exc c fs S
 |_=>.no
section
variable{K:Q0}
def okM{st:Stmt}(Fb)(F:Fun K x qual st f fd)(G:FnScope N ps (zK st))
  (hbody: ∀ m  A  j  s  H  E ,Room k (A.deeper (envOfC qual (zK st) ↑1 f m))->
   vU (NP sF P w K mg base N qual (zK st) f m A j s H E).nox W0 (yT st) Fb):
  FnOk P w K mg base sF (k+1) f fd ps (KM ⟨K,mg,P,w⟩ ps.length λds S=>zU (Fb (zF N ds) S)):=by
 refine F.ok G (λu H Q E h=>?_) (λm A j s H u Q E J h=>?_)
 .obtain⟨α,S,ds,_,l,p,_⟩:=h;rw[l.length,p]
 .obtain⟨α,S,ds,B,l,p,q⟩:=h;obtain⟨t,y,D⟩:=hbody m A j s H E J;refine⟨t,y,D α _ S _ H _ B ((show Slots K α H (zF N ds) (start N u) by
   have a:=l.length;refine⟨?_,λi d e=>?_⟩
   .unfold start zF;rw[lA,lA,lM,lM,Ğ,Ğ,a]
   .unfold zF at e;by_cases hi:i<ds.length
    .rw[æ (by simpa using hi),ì]at e
     cases z:ds[i]? with
     |none=>rw[z]at e;cases e
     |some o=>
      rw[z]at e;obtain⟨v,C,I⟩:=l.at z;have L:=ã (ã e);subst L;refine⟨v,?_,I⟩;unfold start;rw[æ (by rw[lM,a];exact hi),ì,C];rfl
    .rw[ð (by simpa using hi),List.getElem?_replicate]at e;split at e<;>cases e)) ?_⟩;dsimp only at q
  cases z:Fb _ S with
  |ok fl S'=>
   rw[z]at q
   cases fl with
   |next ρ=>exact λσ α' H' b n M=>q .non α' H' b n (DenE.val FX)
   |ret r=>exact λv α' H' b n o=>q v α' H' b n o
   |brk ρ=>exact q.elim
   |cont ρ=>exact q.elim
  |exc c fs S'=>rw[z]at q;exact λα' H' b n=>q α' H' b n
  |no=>rw[z]at q;exact q
end
inductive Vw where
 |fl (v:V)|tp (ds:U0)|ls (ds:U0)
noncomputable def wI(S:Sto):Er->Option (List MV)
 |.new ds=>some ds
 |.val (.scr ds)=>some ds
 |.val (.loc l)=>match S[l]? with
  |some (.lst ds)=>some ds
  |_=>none
 |_=>none
def KN(S:Sto):Er->Option Vw
 |.val .non=>some (.fl .non)
 |.val (.bl b)=>some (.fl (.bl b))
 |.val (.int i)=>some (.fl (.int i))
 |.val (.str x)=>some (.fl (.str (nL x)))
 |.val (.tup ds)=>some (.tp ds)
 |.val (.typ _)=>none
 |.val (.obj _ _ _)=>none
 |r=>(wI S r).map .ls
noncomputable def FN(e:MV->MV->Option Bool):List MV->List MV->Option (List Bool)
 |d::ds,f::fs=>(e d f).bind λk=>(FN e ds fs).map (k::·)
 |_,_=>some []
def Tc(e:MV->MV->Option Bool):Vw->Vw->Option Bool
 |.fl x,.fl y=>some (eqV x y)
 |.tp ds,.tp es=>(FN e ds es).map λbs=>bs.all id&&ds.length==es.length
 |.ls ds,.ls es=>if ds.length=es.length then(FN e ds es).map λbs=>bs.all id else some false
 |_,_=>some false
theorem WA(e)(ds es):Tc e (.tp ds) (.tp es)=(FN e ds es).map λbs=>bs.all id&&ds.length==es.length:=rfl
theorem OO(e)(ds es):Tc e (.ls ds) (.ls es)=if ds.length=es.length then(FN e ds es).map λbs=>bs.all id else some false:=rfl
def eqv(S:Sto):Nat->MV->MV->Option Bool
 |0,_,_=>none
 |n+1,a,b=>(KN S (.val a)).bind λx=>(KN S (.val b)).bind λy=>Tc (eqv S n) x y
def CT(S:Sto)(n:Nat)(a b:Er):Option Bool:=(KN S a).bind λx=>(KN S b).bind λy=>Tc (eqv S n) x y
section
variable{X:Cx}{α:B9}{S:Sto}{H:Hp}
def pZ{K:Q0}(j:g.K=K)(i:Wd g α S H)(e:wI S r=some ds)(d:DenX K α H r x): ∃a vs,x=.ref a/\SqL K H a vs/\DenL K α H ds vs:=by
 subst j;unfold wI at e;split at e
 .cases e;obtain⟨b,vs,rfl,h,_,l⟩:=d;exact⟨b,vs,rfl,.of h,l⟩
 .cases e;obtain⟨a,vs,rfl,s,l⟩:=OH d;exact⟨a,vs,rfl,s.l,l⟩
 .rename_i n;obtain⟨a,rfl,h⟩:=sK d;split at e
  .rename_i es c;cases e;obtain⟨vs,k,l⟩:=i.obj n a _ h c;exact⟨a,vs,rfl,.of k,l⟩
  .cases e
 .cases e
def rS(e:KN S r=some (.fl y))(d:DenX X.K α H r x):x=y/\pS y=true:=by
 unfold KN at e;split at e
 .cases e;exact⟨VU d,rfl⟩
 .cases e;exact⟨EN d,rfl⟩
 .cases e;exact⟨yZ d,rfl⟩
 .cases e;exact⟨nS d,rfl⟩
 .cases e
 .cases e
 .cases e
 .cases z:wI S r<;>rw[z]at e<;>cases e
def rV(e:KN S r=some (.tp ds))(d:DenX X.K α H r x): ∃a vs,x=.ref a/\SqT X.K H a vs/\DenL X.K α H ds vs:=by
 unfold KN at e;split at e
 .cases e
 .cases e
 .cases e
 .cases e
 .cases e;exact lX d
 .cases e
 .cases e
 .cases z:wI S r<;>rw[z]at e<;>cases e
def rW(b:Wd X.g α S H)(e:KN S r=some (.ls ds))(d:DenX X.K α H r x): ∃a vs,x=.ref a/\SqL X.K H a vs/\DenL X.K α H ds vs:=by
 unfold KN at e;split at e
 .cases e
 .cases e
 .cases e
 .cases e
 .cases e
 .cases e
 .cases e
 .cases z:wI S r with
  |none=>rw[z]at e;cases e
  |some es=>rw[z]at e;cases e;exact pZ rfl b z d
theorem tS: ∀{ds es}{bs},FN e ds es=some bs->bs.length=min ds.length es.length
 |[],_,_,h=>by simp[FN]at h;subst h;simp
 |_::_,[],_,h=>by simp[FN]at h;subst h;simp
 |d::ds,f::fs,bs,h=>by
  unfold FN at h
  cases z:e d f with
  |none=>rw[z]at h;cases h
  |some k=>
   rw[z]at h
   cases j:FN e ds fs with
   |none=>simp[j]at h
   |some cs=>
    simp[j]at h;subst h;simp[tS j]
theorem OP: ∀{ds es}{bs}{j}{d f},FN e ds es=some bs->ds[j]? =some d->es[j]? =some f->e d f=some (bs.getD j true)
 |[],_,_,_,_,_,h,h1,_=>by simp at h1
 |_::_,[],_,_,_,_,h,_,h2=>by simp at h2
 |d::ds,f::fs,bs,j,d',f',h,h1,h2=>by
  unfold FN at h
  cases z:e d f with
  |none=>rw[z]at h;cases h
  |some k=>
   rw[z]at h
   cases m:FN e ds fs with
   |none=>simp[m]at h
   |some cs=>
    simp[m]at h;subst h
    cases j with
    |zero=>simp at h1 h2;subst h1 h2;simpa using z
    |succ j=>simpa using OP m (by simpa using h1) (by simpa using h2)
def range_all{bs:N0}(h:bs.length=n):(List.range n).all (λj=>bs.getD j true)=bs.all id:=by
 subst h;rw[Bool.eq_iff_iff,Ē,Ē];constructor
 .intro h x b;obtain⟨i,hi,rfl⟩:=getElem_of_mem b;have:=h i (ý.mpr hi);simpa [ė,hi]using this
 .intro h i hi;have a:=ý.mp hi;have:=h bs[i] (ł a);simpa [ė,a]using this
variable{pins:M0}{σ:St}{s:Ŗ}
def vW(I:↑2)(h:SqL X.K H a xs)(h':SqT X.K H a ys):False:=by obtain⟨_,_,i,_⟩:=I.list h;obtain⟨_,_,pt,_⟩:=I.tuple h';obtain⟨o,n,e,c,_,_⟩:=i;obtain⟨j,d,b,_⟩:=pt;rw[e]at d;cases d;rw[c]at b;exact absurd b (by simp)
theorem Gz(I:↑2)(r:Wd X.g α S H)(L: ∀d f v k,Den X.K α H d v->Den X.K α H f v->e d f=some k->k=true)
  (ha:KN S a=some p) (hb:KN S b=some q) (da:DenX X.K α H a x) (db:DenX X.K α H b x) (h:Tc e p q=some k):k=true:=by
 have D: ∀{ds es:U0}{vs:List V}{bs:N0},DenL X.K α H ds vs->DenL X.K α H es vs->FN e ds es=some bs->bs.all id=true:=by
  intro ds es vs bs n c z;rw[Ē];intro k J;obtain⟨i,hi,rfl⟩:=getElem_of_mem J;have P:=tS z;have C:i<ds.length:=by lia
  have F:i<es.length:=by lia
  obtain⟨v,M,O⟩:=n.at (gE C);obtain⟨Q,E,G⟩:=c.at (gE F);rw[M]at E;cases E;have:=L _ _ _ _ O G (OP z (gE C) (gE F));simpa [ė,hi]using this
 cases p with
 |fl y=>
  obtain⟨rfl,B⟩:=rS ha da
  cases q with
  |fl z=>obtain⟨rfl,u⟩:=rS hb db;cases h;exact Gk B
  |tp ds=>obtain⟨a,vs,rfl,_⟩:=rV hb db;exact absurd B xF0
  |ls ds=>obtain⟨a,vs,rfl,_⟩:=rW r hb db;exact absurd B xF0
 |tp ds=>
  obtain⟨N,vs,rfl,o,n⟩:=rV ha da
  cases q with
  |fl z=>obtain⟨rfl,u⟩:=rS hb db;exact absurd u xF0
  |tp es=>
   obtain⟨A,w,j,m,c⟩:=rV hb db;cases j;cases I.tuple_inj o m;rw[WA]at h
   cases z:FN e ds es with
   |none=>rw[z]at h;cases h
   |some bs=>
    rw[z]at h;cases h;show(bs.all id&&ds.length==es.length)=true;rw[D n c z, <-n.length, <-c.length];simp
  |ls es=>obtain⟨A,w,j,m,c⟩:=rW r hb db;cases j;exact(vW I m o).elim
 |ls ds=>
  obtain⟨N,vs,rfl,o,n⟩:=rW r ha da
  cases q with
  |fl z=>obtain⟨rfl,u⟩:=rS hb db;exact absurd u xF0
  |tp es=>obtain⟨A,w,j,m,c⟩:=rV hb db;cases j;exact(vW I o m).elim
  |ls es=>
   obtain⟨A,w,j,m,c⟩:=rW r hb db;cases j;cases I.list_inj o m;rw[OO]at h;rw[iP (by rw[<-n.length, <-c.length])]at h
   cases z:FN e ds es with
   |none=>rw[z]at h;cases h
   |some bs=>rw[z]at h;cases h;exact D n c z
theorem HF(I:↑2)(a:Wd X.g α S H): ∀ n  d f  v  k ,Den X.K α H d v->Den X.K α H f v->eqv S n d f=some k->k=true
 |0,_,_,_,_,_,_,h=>by cases h
 |n+1,d,f,v,k,h1,h2,h=>by
  unfold eqv at h
  cases j:KN S _ with
  |none=>rw[j]at h;cases h
  |some p=>
   cases m:KN S _ with
   |none=>rw[j,m]at h;cases h
   |some q=>
    rw[j,m]at h;exact Gz I a (HF I a n) j m h1 h2 h
def vX(B: ∀d f x y u v k,Den X.K α H d x->Den X.K α H f y->RelV x u->RelV y v->e d f=some k->SeqAt.EqAt A s u v k)
      (l1:DenL X.K α H ds vs) (l2:DenL X.K α H es us) (r1:Vals vs its) (r2:Vals us its2) (z:FN e ds es=some bs):
  ∀j  q  (m:j<its2.toArray.size),SeqAt.EqAt A s its.toArray[j] its2.toArray[j] (bs.getD j true):=by
 intro j q m;have a:j<vs.length:=by rw[r1.length];simpa using q
 have b:j<us.length:=by rw[r2.length];simpa using m
 obtain⟨d,C,r⟩:=l1.get (gE a);obtain⟨f,p,i⟩:=l2.get (gE b);obtain⟨u,o,c⟩:=r1.get (gE a);obtain⟨v,w,h⟩:=r2.get (gE b);have n:its.toArray[j]=u:=by have:its[j]? =some (its[j]'(by simpa using q)):=gE _;rw[o]at this;simpa using(ã this).symm
 have D:its2.toArray[j]=v:=by have:its2[j]? =some (its2[j]'(by simpa using m)):=gE _;rw[w]at this;simpa using(ã this).symm
 rw[n,D];exact B d f _ _ u v _ r i c h (OP z C p)
theorem sN(I:↑2)(G:Wd X.g α S H): ∀ n  A  d f  x y  u v  k ,A.units+n<cLine->Den X.K α H d x->Den X.K α H f y->RelV x u->RelV y v->eqv S n d f=some k->SeqAt.EqAt A s u v k
 |0,_,_,_,_,_,_,_,_,_,_,_,_,_,h=>by cases h
 |n+1,A,d,f,x,y,u,v,k,hu,h1,h2,rx,ry,h=>by
  have j:A.units<cLine:=by lia
  have w:=h;unfold eqv at h
  cases M:KN S _ with
  |none=>rw[M]at h;cases h
  |some p=>
   cases o:KN S _ with
   |none=>rw[M,o]at h;cases h
   |some q=>
    rw[M,o]at h;have h:Tc _ p q=some k:=h;have W:=λd f x y u v k a b c Y e=>sN I G n A.in1 d f x y u v k #[0] a b c Y e
    cases p with
    |fl x'=>
     obtain⟨rfl,Q⟩:=rS M h1
     cases q with
     |fl y'=>obtain⟨rfl,P⟩:=rS o h2;cases h;exact Wi rx ry Q P
     |tp es=>
      obtain⟨b,N,rfl,r,B⟩:=rV o h2;cases ry;cases h;obtain⟨C,_,pt,_⟩:=I.tuple r;exact(EK rx Q pt j).2.1
     |ls es=>
      obtain⟨b,N,rfl,r,B⟩:=rW G o h2;cases ry;cases h;obtain⟨C,_,F,_⟩:=I.list r;exact(LX rx Q F.isList j).2.1
    |tp ds=>
     obtain⟨a,Z,rfl,U,E⟩:=rV M h1;cases rx;obtain⟨C,D,pt,_⟩:=I.tuple U
     cases q with
     |fl y'=>obtain⟨rfl,P⟩:=rS o h2;cases h;exact(EK ry P pt j).1
     |tp es=>
      obtain⟨b,N,rfl,r,B⟩:=rV o h2;cases ry;by_cases m:a=b
      .subst m;rw[HF I G _ d f _ k h1 h2 w];exact SeqAt.EqAt.same _
      .obtain⟨i,L,T,_⟩:=I.tuple r;rw[WA]at h
       cases z:FN _ ds es with
       |none=>rw[z]at h;cases h
       |some bs=>
        rw[z]at h;cases h;have:=SeqAt.RcAt.tuples pt T j (vX W E B D L z);have J:=tS z;rw[range_all (by rw[J];simp[<-D.length, <-L.length,E.length,B.length])]at this;have e3:(C.toArray.size==i.toArray.size)=(ds.length==es.length):=by simp[<-D.length, <-L.length,E.length,B.length]
        rw[e3]at this;exact SeqAt.EqAt.of_refs m this
     |ls es=>
      obtain⟨b,N,rfl,r,B⟩:=rW G o h2;cases ry;cases h;obtain⟨i,_,F,_⟩:=I.list r;exact SeqAt.EqAt.tuple_list pt F.isList j
    |ls ds=>
     obtain⟨a,Z,rfl,U,E⟩:=rW G M h1;cases rx;obtain⟨C,D,F,_⟩:=I.list U
     cases q with
     |fl y'=>obtain⟨rfl,P⟩:=rS o h2;cases h;exact(LX ry P F.isList j).1
     |tp es=>
      obtain⟨b,N,rfl,r,B⟩:=rV o h2;cases ry;cases h;obtain⟨i,_,pt,_⟩:=I.tuple r;exact SeqAt.EqAt.list_tuple F.isList pt j
     |ls es=>
      obtain⟨b,N,rfl,r,B⟩:=rW G o h2;cases ry;by_cases m:a=b
      .subst m;rw[HF I G _ d f _ k h1 h2 w];exact SeqAt.EqAt.same _
      .obtain⟨i,L,O,_⟩:=I.list r;rw[OO]at h;by_cases J:ds.length=es.length
       .rw[iP J]at h
        cases z:FN _ ds es with
        |none=>rw[z]at h;cases h
        |some bs=>
         rw[z]at h;cases h;have:=SeqAt.RcAt.lists F.isList O.isList (by simp[<-D.length, <-L.length,E.length,B.length,J]) j (vX W E B D L z);rw[range_all (by rw[(tS z)];simp[<-D.length,E.length,J])]at this;exact SeqAt.EqAt.of_refs m this
       .rw[iN J]at h;cases h;exact SeqAt.EqAt.of_refs m (SeqAt.RcAt.lists_lengths F.isList O.isList (by simpa [<-D.length, <-L.length,E.length,B.length]using J) j)
theorem Td{w:Around->Ŗ->ŗ->ŗ->Bool->Prop}{tr:Bool->Bool}
  (hff: ∀x y u v,RelV x u->RelV y v->pS x=true->pS y=true->w A s u v (tr (eqV x y)))
  (hfl: ∀x v l B,RelV x v->pS x=true->s.heap.IsList l B->A.units<cLine->w A s v (.ref l) (tr false)/\w A s (.ref l) v (tr false))
  (hft: ∀x v l B,RelV x v->pS x=true->s.heap.IsTuple l B->A.units<cLine->w A s v (.ref l) (tr false)/\w A s (.ref l) v (tr false))
  (hlt: ∀l b B m,s.heap.IsList l B->s.heap.IsTuple b m->A.units<cLine->w A s (.ref l) (.ref b) (tr false)/\w A s (.ref b) (.ref l) (tr false))
  (htt: ∀ l b  B m  e ,s.heap.IsTuple l B->s.heap.IsTuple b m->A.units<cLine->(∀j  Q  (G:j<m.size),SeqAt.EqAt A.in1 s B[j] m[j] (e j))->w A s (.ref l) (.ref b) (tr ((List.range (min B.size m.size)).all e&&B.size==m.size)))
  (hll: ∀ l b  B m  e ,s.heap.IsList l B->s.heap.IsList b m->B.size=m.size->A.units<cLine->(∀j  Q  (G:j<m.size),SeqAt.EqAt A.in1 s B[j] m[j] (e j))->w A s (.ref l) (.ref b) (tr ((List.range B.size).all e)))
  (hln: ∀ l b  B m ,s.heap.IsList l B->s.heap.IsList b m->(B.size !=m.size)=true->A.units<cLine->w A s (.ref l) (.ref b) (tr false))
  (I:↑2) (wd:Wd X.g α S H) (n)     (hu:A.units+(n+1)<cLine) (Q:DenX X.K α H a x) (G:DenX X.K α H b y) (rx:RelV x u) (ry:RelV y v) (h:CT S n a b=some k):w A s u v (tr k):=by
 have i:A.units<cLine:=by lia
 unfold CT at h
 cases O:KN S a with
 |none=>rw[O]at h;cases h
 |some p=>
  cases r:KN S b with
  |none=>rw[O,r]at h;cases h
  |some q=>
   rw[O,r]at h;have h:Tc _ p q=some k:=h;have he:=λd f x y u v k a b c d' e=>sN I wd n A.in1 d f x y u v k #[0] a b c d' e
   cases p with
   |fl x'=>
    obtain⟨rfl,W⟩:=rS O Q
    cases q with
    |fl y'=>obtain⟨rfl,U⟩:=rS r G;cases h;exact hff _ _ _ _ rx ry W U
    |tp es=>
     obtain⟨b,P,rfl,C,D⟩:=rV r G;cases ry;cases h;obtain⟨E,_,pt,_⟩:=I.tuple C;exact(hft _ _ _ _ rx W pt i).1
    |ls es=>
     obtain⟨b,P,rfl,C,D⟩:=rW wd r G;cases ry;cases h;obtain⟨E,_,L,_⟩:=I.list C;exact(hfl _ _ _ _ rx W L.isList i).1
   |tp ds=>
    obtain⟨a,vs,rfl,Z,J⟩:=rV O Q;cases rx;obtain⟨E,F,pt,_⟩:=I.tuple Z
    cases q with
    |fl y'=>obtain⟨rfl,U⟩:=rS r G;cases h;exact(hft _ _ _ _ ry U pt i).2
    |tp es=>
     obtain⟨b,P,rfl,C,D⟩:=rV r G;cases ry;obtain⟨o,N,Y,_⟩:=I.tuple C;rw[WA]at h
     cases z:FN _ ds es with
     |none=>rw[z]at h;cases h
     |some bs=>
      rw[z]at h;cases h;have:=htt _ _ _ _ _ pt Y i (vX he J D F N z);have M:=tS z;rw[range_all (by rw[M];simp[<-F.length, <-N.length,J.length,D.length])]at this;have e3:(E.toArray.size==o.toArray.size)=(ds.length==es.length):=by simp[<-F.length, <-N.length,J.length,D.length]
      rw[e3]at this;exact this
    |ls es=>
     obtain⟨b,P,rfl,C,D⟩:=rW wd r G;cases ry;cases h;obtain⟨o,_,L,_⟩:=I.list C;exact(hlt _ _ _ _ L.isList pt i).2
   |ls ds=>
    obtain⟨a,vs,rfl,Z,J⟩:=rW wd O Q;cases rx;obtain⟨E,F,L,_⟩:=I.list Z
    cases q with
    |fl y'=>obtain⟨rfl,U⟩:=rS r G;cases h;exact(hfl _ _ _ _ ry U L.isList i).2
    |tp es=>
     obtain⟨b,P,rfl,C,D⟩:=rV r G;cases ry;cases h;obtain⟨o,_,pt,_⟩:=I.tuple C;exact(hlt _ _ _ _ L.isList pt i).1
    |ls es=>
     obtain⟨b,P,rfl,C,D⟩:=rW wd r G;cases ry;obtain⟨o,N,T,_⟩:=I.list C;rw[OO]at h;by_cases M:ds.length=es.length
     .rw[iP M]at h
      cases z:FN _ ds es with
      |none=>rw[z]at h;cases h
      |some bs=>
       rw[z]at h;cases h;have:=hll _ _ _ _ _ L.isList T.isList (by simp[<-F.length, <-N.length,J.length,D.length,M]) i (vX he J D F N z);rw[range_all (by rw[(tS z)];simp[<-F.length,J.length,M])]at this;exact this
     .rw[iN M]at h;cases h;exact hln _ _ _ _ L.isList T.isList (by simpa [<-F.length, <-N.length,J.length,D.length]using M) i
def Xt(I:↑2)(m:Wd X.g α S H)(n)(o:A.units+(n+1)<cLine)(q:DenX X.K α H a x)(i:DenX X.K α H b y)(p:RelV x u)(j:RelV y v)(h:CT S n a b=some k):SeqAt.RcAt A s u v k:=
 Td (tr:=id) (λ_ _ _ _ a b c d=>(Gj a b c d).1) (λ_ _ _ _ a b c d=>⟨(LX a b c d).2.2.2.1,(LX a b c d).2.2.1⟩) (λ_ _ _ _ a b c d=>⟨(EK a b c d).2.2.2.1,(EK a b c d).2.2.1⟩)
  (λ_ _ _ _ a b c=>⟨SeqAt.RcAt.list_tuple a b c,SeqAt.RcAt.tuple_list b a c⟩) (λ_ _ _ _ _ a b c d=>SeqAt.RcAt.tuples a b c d) (λ_ _ _ _ _ a b c d e=>SeqAt.RcAt.lists a b c d e) (λ_ _ _ _ a b c d=>SeqAt.RcAt.lists_lengths a b c d)
  I m n o q i p j h
def Xu(I:↑2)(m:Wd X.g α S H)(n)(o:A.units+(n+1)<cLine)(q:DenX X.K α H a x)(i:DenX X.K α H b y)(p:RelV x u)(j:RelV y v)(h:CT S n a b=some k):SeqAt.RcNeAt A s u v (!k):=
 Td (λ_ _ _ _ a b c d=>(Gj a b c d).2) (λ_ _ _ _ a b c d=>⟨(LX a b c d).2.2.2.2.2,(LX a b c d).2.2.2.2.1⟩) (λ_ _ _ _ a b c d=>⟨(EK a b c d).2.2.2.2.2,(EK a b c d).2.2.2.2.1⟩)
  (λ_ _ _ _ a b c=>⟨SeqAt.RcNeAt.list_tuple a b c,SeqAt.RcNeAt.tuple_list b a c⟩) (λ_ _ _ _ _ a b c d=>SeqAt.RcNeAt.tuples a b c d) (λ_ _ _ _ _ a b c d e=>SeqAt.RcNeAt.lists a b c d e) (λ_ _ _ _ a b c d=>SeqAt.RcNeAt.lists_lengths a b c d)
  I m n o q i p j h
theorem YQ{α β:Type}: ∀{a c:List α}{b d:List β},a.length=b.length->c.length=d.length->a.zip b=c.zip d->a=c/\b=d
 |[],[],[],[],_,_,_=>⟨rfl,rfl⟩
 |[],_::_,[],_::_,_,_,e=>by simp at e
 |_::_,[],_::_,[],_,_,e=>by simp at e
 |x::a,y::c,z::b,w::d,h1,h2,e=>by simp only[ģ,List.cons.injEq,Prod.mk.injEq]at e;obtain⟨rfl,rfl⟩:=YQ (by simpa using h1) (by simpa using h2) e.2;exact⟨by rw[e.1.1],by rw[e.1.2]⟩
mutual
theorem Den.inj(I:↑2)(y:Wd X.g α S H): ∀{d f:MV}{v:V},Den X.K α H d v->Den X.K α H f v->d=f
 |.non,f,v,h,h'=>by cases lW h;cases f<;>first |rfl|(have:=pV h';cases this;done)|(have:=xH h';cases this;done)|(have:=xI h';cases this;done)|(have:=fU h';cases this;done)|(obtain⟨_,_,e,_⟩:=yY h';cases e;done)|(obtain⟨_,_,e,_⟩:=nR h';cases e;done)|(obtain⟨_,e,_⟩:=dA h';cases e;done)|(obtain⟨_,_,_,_,_,e,_⟩:=nQ h';cases e;done)
 |.bl b,f,v,h,h'=>by cases pV h;cases f<;>first |(have:=pV h';cases this;rfl;done)|(have:=lW h';cases this;done)|(have:=xH h';cases this;done)|(have:=xI h';cases this;done)|(have:=fU h';cases this;done)|(obtain⟨_,_,e,_⟩:=yY h';cases e;done)|(obtain⟨_,_,e,_⟩:=nR h';cases e;done)|(obtain⟨_,e,_⟩:=dA h';cases e;done)|(obtain⟨_,_,_,_,_,e,_⟩:=nQ h';cases e;done)
 |.int b,f,v,h,h'=>by cases xH h;cases f<;>first |(have:=xH h';cases this;rfl;done)|(have:=lW h';cases this;done)|(have:=pV h';cases this;done)|(have:=xI h';cases this;done)|(have:=fU h';cases this;done)|(obtain⟨_,_,e,_⟩:=yY h';cases e;done)|(obtain⟨_,_,e,_⟩:=nR h';cases e;done)|(obtain⟨_,e,_⟩:=dA h';cases e;done)|(obtain⟨_,_,_,_,_,e,_⟩:=nQ h';cases e;done)
 |.str b,f,v,h,h'=>by cases xI h;cases f<;>first |(have:=xI h';rw[FW (V.str.inj this)];done)|(have:=lW h';cases this;done)|(have:=pV h';cases this;done)|(have:=xH h';cases this;done)|(have:=fU h';cases this;done)|(obtain⟨_,_,e,_⟩:=yY h';cases e;done)|(obtain⟨_,_,e,_⟩:=nR h';cases e;done)|(obtain⟨_,e,_⟩:=dA h';cases e;done)|(obtain⟨_,_,_,_,_,e,_⟩:=nQ h';cases e;done)
 |.typ b,f,v,h,h'=>by cases fU h;cases f<;>first |(have:=fU h';cases this;rfl;done)|(have:=lW h';cases this;done)|(have:=pV h';cases this;done)|(have:=xH h';cases this;done)|(have:=xI h';cases this;done)|(obtain⟨_,_,e,_⟩:=yY h';cases e;done)|(obtain⟨_,_,e,_⟩:=nR h';cases e;done)|(obtain⟨_,e,_⟩:=dA h';cases e;done)|(obtain⟨_,_,_,_,_,e,_⟩:=nQ h';cases e;done)
 |.tup ds,f,v,h,h'=>by
  obtain⟨a,vs,rfl,j,G⟩:=yY h
  cases f with
  |tup es=>
   obtain⟨p,r,i,A,u⟩:=yY h';cases i;cases I.tuple_inj j A;rw[DenL.inj I y G u]
  |scr es=>obtain⟨p,r,i,A,u⟩:=nR h';cases i;exact(vW I A.l j).elim
  |loc l=>
   obtain⟨p,i,k⟩:=dA h';cases i;obtain⟨N,q,F,w⟩:=y.mem (á k);rcases j with(j|⟨o,j⟩)|⟨o,its,n,j,_⟩
   .rw[q]at j;exact absurd (ã j) (F _)
   .rw[q]at j;exact(let ⟨_,z⟩:=w _ _ (ã j);by cases z)
   .have:=(I.bs a o (I.mod.kin a o j)).2;rw[q]at this;cases this
  |non=>cases lW h'
  |bl b=>cases pV h'
  |int b=>cases xH h'
  |str b=>cases xI h'
  |typ b=>cases fU h'
  |obj c ns es=>
   obtain⟨p,C,O,r,M,i,k,_⟩:=nQ h';cases i;rcases j with(j|⟨o,j⟩)|⟨o,its,n,j,_⟩
   .rw[k]at j;cases j
   .rw[k]at j;cases j
   .have:=(I.bs a o (I.mod.kin a o j)).2;rw[k]at this;cases this
 |.scr ds,f,v,h,h'=>by
  obtain⟨a,vs,rfl,j,G⟩:=nR h
  cases f with
  |scr es=>
   obtain⟨p,r,i,A,u⟩:=nR h';cases i;cases I.list_inj j.l A.l;rw[DenL.inj I y G u]
  |tup es=>obtain⟨p,r,i,A,u⟩:=yY h';cases i;exact(vW I j.l A).elim
  |loc l=>
   obtain⟨p,i,k⟩:=dA h';cases i;obtain⟨N,q,F,w⟩:=y.mem (á k);rcases j with⟨o,j⟩|⟨o,its,n,j,_⟩
   .rw[q]at j;exact(let ⟨_,z⟩:=w _ _ (ã j);by cases z)
   .have:=(I.bs a o (I.mod.kin a o j)).2;rw[q]at this;cases this
  |non=>cases lW h'
  |bl b=>cases pV h'
  |int b=>cases xH h'
  |str b=>cases xI h'
  |typ b=>cases fU h'
  |obj c ns es=>
   obtain⟨p,C,O,r,M,i,k,_⟩:=nQ h';cases i;rcases j with⟨o,j⟩|⟨o,its,n,j,_⟩
   .rw[k]at j;cases j
   .have:=(I.bs a o (I.mod.kin a o j)).2;rw[k]at this;cases this
 |.loc l,f,v,h,h'=>by
  obtain⟨a,rfl,J⟩:=dA h;obtain⟨N,q,F,w⟩:=y.mem (á J)
  cases f with
  |loc m=>
   obtain⟨p,i,k⟩:=dA h';cases i;by_cases E:l=m
   .rw[E]
   .exact absurd rfl (y.ne J k E)
  |tup es=>
   obtain⟨p,r,i,j,u⟩:=yY h';cases i;rcases j with(j|⟨o,j⟩)|⟨o,its,n,j,_⟩
   .rw[q]at j;exact absurd (ã j) (F _)
   .rw[q]at j;exact(let ⟨_,z⟩:=w _ _ (ã j);by cases z)
   .have:=(I.bs a o (I.mod.kin a o j)).2;rw[q]at this;cases this
  |scr es=>
   obtain⟨p,r,i,j,u⟩:=nR h';cases i;rcases j with⟨o,j⟩|⟨o,its,n,j,_⟩
   .rw[q]at j;exact(let ⟨_,z⟩:=w _ _ (ã j);by cases z)
   .have:=(I.bs a o (I.mod.kin a o j)).2;rw[q]at this;cases this
  |non=>cases lW h'
  |bl b=>cases pV h'
  |int b=>cases xH h'
  |str b=>cases xI h'
  |typ b=>cases fU h'
  |obj c ns es=>
   obtain⟨p,C,O,r,M,i,k,_⟩:=nQ h';cases i;rw[q]at k;exact(let ⟨_,z⟩:=w _ _ (ã k);by cases z)
 |.obj c ns ds,f,v,h,h'=>by
  obtain⟨a,C,O,r,M,rfl,k,Y,P,Q,G⟩:=nQ h
  cases f with
  |obj c' ns' es=>
   obtain⟨p,C2,T,U,Z,i,B,W,D,L,u⟩:=nQ h';cases i;rw[k]at B;injection B with B
   injection B with _ B
   injection B with e1 i e3
   subst e1;rw[P]at D;cases D;obtain⟨rfl,rfl⟩:=YQ Q L e3;rw[DenL.inj I y G u]
  |tup es=>
   obtain⟨p,r,i,j,u⟩:=yY h';cases i;rcases j with(j|⟨o,j⟩)|⟨o,its,n,j,_⟩
   .rw[k]at j;cases j
   .rw[k]at j;cases j
   .have:=(I.bs a o (I.mod.kin a o j)).2;rw[k]at this;cases this
  |scr es=>
   obtain⟨p,r,i,j,u⟩:=nR h';cases i;rcases j with⟨o,j⟩|⟨o,its,n,j,_⟩
   .rw[k]at j;cases j
   .have:=(I.bs a o (I.mod.kin a o j)).2;rw[k]at this;cases this
  |loc l=>
   obtain⟨p,i,J⟩:=dA h';cases i;obtain⟨N,q,F,w⟩:=y.mem (á J);rw[q]at k;exact(let ⟨_,z⟩:=w _ _ (ã k);by cases z)
  |non=>cases lW h'
  |bl b=>cases pV h'
  |int b=>cases xH h'
  |str b=>cases xI h'
  |typ b=>cases fU h'
theorem DenL.inj(I:↑2)(b:Wd X.g α S H): ∀{ds fs:U0}{vs:List V},DenL X.K α H ds vs->DenL X.K α H fs vs->ds=fs
 |[],fs,vs,h,h'=>by
  cases h.isnil
  cases fs with
  |nil=>rfl
  |cons f fs=>obtain⟨_,_,e,_⟩:=h'.uncons;cases e
 |d::ds,fs,vs,h,h'=>by
  obtain⟨v,r,rfl,a,l⟩:=h.uncons
  cases fs with
  |nil=>cases h'.isnil
  |cons f fs=>
   obtain⟨j,k,e,c,i⟩:=h'.uncons;cases e;rw[Den.inj I b a c,DenL.inj I b l i]
end
end
inductive LexR(A:Around)(s:Ŗ):List ŗ->List ŗ->Bool->Prop
 |nn:LexR A s [] [] false
 |nc (x xs):LexR A s [] (x::xs) true
 |cn (y ys):LexR A s (y::ys) [] false
 |eq {y x ys xs k}:SeqAt.EqAt A s y x true->LexR A s ys xs k->LexR A s (y::ys) (x::xs) k
 |ne {y x ys xs k}:SeqAt.EqAt A s y x false->(∀(prog:Ř)(w:World)(E Q:VP),Q (.bool k) s->wpAny (model prog w) A (richCompare .Lt y x) Q E s)->LexR A s (y::ys) (x::xs) k
section
open PySem.SeqAt
open PySem.AutoSeq1 (wpAny_loadPart')
open PySem.MeetsSeq PySem.MeetsSeq2 PySem.MeetsSeq3
end
def Ha(p:IsTup s.heap l its)(u:IsTup s.heap b its2)(hx:LexR A.in1 s its.toList its2.toList k)(H:A.units<cLine)(prog)(w)(E Q)(h:Q (.bool k) s):
  wpAny (model prog w) A (richCompare .Lt (.ref l) (.ref b)) Q E s:=by
 obtain⟨⟨cls,M,data,sl⟩,C,I,n,L⟩:=id p;obtain⟨⟨B,r,_,o⟩,j,m,J,v⟩:=id u;subst I L m v
 exact richCompare_meets_room ⟨_,C,rfl⟩ ⟨_,j,rfl⟩ PySem.F.slot_tuple_lt PySem.F.entry_tuple_lt (PySem.F.args_tuple_lt_2 _ _) ((show Meets (Builtin.«tuple.__lt__» ⟨[.ref l,.ref b],[]⟩)
   (λA R s=>s.heap.get? l=some {cls:=.type "tuple",dict:=M,data:=.seq its n,slots:=sl}/\s.heap.get? b=some {cls:=.type "tuple",dict:=r,data:=.seq its2 J,slots:=o}/\
    LexR A.in1 s its.toList its2.toList k/\R (.ok (.ret (.bool k))) s) from .of_wp λprog w A R s h=>by
    obtain⟨z,g,d,D,G⟩:=s;obtain⟨p,u,hx,h⟩:=h;have N:=AutoSeq1.sub_tuple_tuple
    wp_walk using wpAny_loadPart' p,wpAny_loadPart' u,Į _ (λrest b q=>b.1=none/\q=⟨z,g,d,D,G⟩/\ ∃(vs ws:A0),rest=vs.zip ws/\
     LexR A.in1 ⟨z,g,d,D,G⟩ vs ws k/\vs.length+its2.size=ws.length+its.size) _
    case turn=>
     rintro⟨y,x⟩ rest b q ⟨i,rfl,vs,ws,c,e,a⟩
     cases e with
     |nn=>rw[zip_nil_left]at c;cases c
     |nc x xs=>rw[zip_nil_left]at c;cases c
     |cn y ys=>rw[List.zip_nil_right]at c;cases c
     |@eq y' x' ys xs k' he hr=>
      rw[ģ]at c;injection c with hyx hrest
      injection hyx with hy hx
      subst hy hx;simp only[lC]at a;refine wB (he prog w _ _ ?_)
      wp_walk
      exact⟨rfl,rfl,_,_,hrest,hr,by lia⟩
     |@ne y' x' ys xs k' he hr=>
      rw[ģ]at c;injection c with hyx hrest
      injection hyx with hy hx
      subst hy hx;refine wB (he prog w _ _ ?_)
      wp_walk using(hr prog w)
      exact⟨_,rfl,by simpa using h⟩
    case fin=>
     rintro⟨O,P⟩ q ⟨i,rfl,vs,ws,c,e,a⟩;simp only at i;subst i
     have K:k=decide (its.size<its2.size):=by
      cases e with
      |nn=>simp only[Ĺ]at a;exact(dF0 #[0]).symm
      |nc x xs=>simp only[Ĺ,lC]at a;exact(dT0 #[0]).symm
      |cn y ys=>simp only[Ĺ,lC]at a;exact(dF0 #[0]).symm
      |eq he hr=>rw[ģ]at c;cases c
      |ne he hr=>rw[ģ]at c;cases c
     rw[K]at h
     wp_walk
     exact⟨_,rfl,by simpa [Builtin.Tuple.tupleCompareSizes]using h⟩
    case h=>
     exact⟨rfl,rfl,_,_,rfl,hx,by simp;lia⟩))
  ⟨C,j,hx,show Value.bool k≠Value.notImplemented/\Q _ s from⟨(λx=>nomatch x),h⟩⟩ H
noncomputable def FO(e l:MV->MV->Option Bool):List MV->List MV->Option Bool
 |[],[]=>some false
 |[],_::_=>some true
 |_::_,[]=>some false
 |d::ds,f::fs=>(e d f).bind λk=>if k=true then FO e l ds fs else l d f
def qS(S:Sto):Nat->MV->MV->Option Bool
 |0,_,_=>none
 |n+1,.int i,.int j=>some (decide (i<j))
 |n+1,.str x,.str y=>some (decide (x<y))
 |n+1,.tup ds,.tup es=>FO (eqv S n) (qS S n) ds es
 |_,_,_=>none
section
variable{X:Cx}
theorem YR(m: ∀d f x y u v k,Den X.K α H d x->Den X.K α H f y->RelV x u->RelV y v->e d f=some k->SeqAt.EqAt A s u v k)
  (hl: ∀d f x y u v k,Den X.K α H d x->Den X.K α H f y->RelV x u->RelV y v->l d f=some k-> ∀ prog  w  E Q ,Q (.bool k) s->wpAny (model prog w) A (richCompare .Lt u v) Q E s):
  ∀{ds fs}{vs q}{its j}{k},DenL X.K α H ds vs->DenL X.K α H fs q->Vals vs its->Vals q j->FO e l ds fs=some k->LexR A s its j k
 |[],[],_,_,_,_,k,l1,l2,r1,r2,h=>by cases l1.isnil;cases l2.isnil;cases r1;cases r2;cases h;exact .nn
 |[],f::fs,_,_,_,_,k,l1,l2,r1,r2,h=>by
  cases l1.isnil;obtain⟨v,r,rfl,a,l⟩:=l2.uncons;cases r1
  cases r2 with
  |cons a b=>cases h;exact .nc _ _
 |d::ds,[],_,_,_,_,k,l1,l2,r1,r2,h=>by
  cases l2.isnil;obtain⟨v,r,rfl,a,l⟩:=l1.uncons;cases r2
  cases r1 with
  |cons a b=>cases h;exact .cn _ _
 |d::ds,f::fs,_,_,_,_,k,l1,l2,r1,r2,h=>by
  obtain⟨v,r,rfl,a,n⟩:=l1.uncons;obtain⟨o,p,rfl,c,i⟩:=l2.uncons
  cases r1 with
  |cons b1 c1=>
   cases r2 with
   |cons b2 c2=>
    unfold FO at h
    cases z:e d f with
    |none=>rw[z]at h;cases h
    |some kk=>
     rw[z]at h;have h:_=some k:=h
     cases kk with
     |true=>
      exact .eq (m d f _ _ _ _ _ a c b1 b2 z) (YR m hl n i c1 c2 h)
     |false=>
      exact .ne (m d f _ _ _ _ _ a c b1 b2 z) (hl d f _ _ _ _ _ a c b1 b2 h)
theorem OQ(I:↑2)(o:Wd X.g α S H): ∀ n  A  d f  x y  u v  k ,A.units+n<cLine->Den X.K α H d x->Den X.K α H f y->RelV x u->RelV y v->qS S n d f=some k->
  ∀ prog  w  E Q ,Q (.bool k) s->wpAny (model prog w) A (richCompare .Lt u v) Q E s
 |0,_,_,_,_,_,_,_,_,_,_,_,_,_,h=>by cases h
 |n+1,A,d,f,x,y,u,v,k,hu,h1,h2,rx,ry,h=>by
  intro prog w E Q j;unfold qS at h;split at h
  .cases h
  .cases h;cases xH h1;cases xH h2;obtain⟨t,rfl⟩:=rx;obtain⟨B,rfl⟩:=ry;exact(PyProof.Rows.lt_int j:wpAny _ A _ Q E s)
  .cases h;cases xI h1;cases xI h2;obtain⟨t,rfl⟩:=rx;obtain⟨B,rfl⟩:=ry;refine(PySem.P.lt_str ?_:wpAny _ A _ Q E s);exact j
  .rename_i M N es q;obtain⟨a,O,rfl,G,F⟩:=yY h1;obtain⟨b,L,rfl,C,D⟩:=yY h2;cases rx;cases ry;obtain⟨z,r,pt,_⟩:=I.tuple G;obtain⟨p,J,m,_⟩:=I.tuple C;cases q;refine Ha pt m ?_ #[0] prog w E Q j
   exact YR (λd f x y u v k a b c i e=>sN I o n A.in1 d f x y u v k (show A.units+1+n<cLine by lia) a b c i e)
    (λd f x y u v k a b c i e=>OQ I o n A.in1 d f x y u v k (show A.units+1+n<cLine by lia) a b c i e) F D r J h
  .cases h
end
section
variable{X:Cx}{b c e:Expr}{es:P0}{f h:AX}
noncomputable def Te(C:Int->Int->Prop)[∀i j,Decidable (C i j)](g:Int->Int->Int):Er->Er->Sto->R Er
 |.val (.int i),.val (.int j),S=>if C i j then .ok (.val (.int (g i j))) S else .no
 |_,_,_=>.no
noncomputable def zAB(g:Int->Int->Bool):Er->Er->Sto->R Er
 |.val (.int i),.val (.int j),S=>.ok (.val (.bl (g i j))) S
 |_,_,_=>.no
def WC[∀i j,Decidable (C i j)]{g:Int->Int->Int}(h: ∀i j,C i j->C' i j):Cm X W (rI C' λi j=>.int (g i j)) (Te C g):=by
 intro p q x y α S H Q c b e a;unfold Te at a;split at a
 .split at a
  .rename_i d;exact⟨_,_,yZ b,yZ e,h _ _ d,Post.val a c (kX _)⟩
  .exact a.elim
 .exact a.elim
def Nr{g:Int->Int->Int}:Cm X W (Vs λi j=>.int (g i j)) (Te (λ_ _=>True) g):=by
 intro p q x y α S H Q c b d a;unfold Te at a;split at a
 .rw[iP trivial]at a;exact⟨_,_,yZ b,yZ d,Post.val a c (kX _)⟩
 .exact a.elim
def Xv{g:Int->Int->Bool}:Cm X W (Vs λi j=>.bl (g i j)) (zAB g):=by
 intro p q x y α S H Q c b d a;unfold zAB at a;split at a
 .exact⟨_,_,yZ b,yZ d,Post.val a c (cM _)⟩
 .exact a.elim
abbrev Hb:=Te (λ_ _=>True) λi j=>i - j
def Xw(c:zT X W a f)(e:zT X W b g):zT X W (.BinOp a .Sub b pos) (λd S=>(f d S).bind λp j=>(g d j).bind λq S2=>Hb p q S2):=MB (O3 λ_ _ _ _ _ _ _ q=>sub_int q) Nr c e
def Nt(_ j:Int):Prop:=0<j/\j.natAbs.log2<9000
instance(i j:Int):Decidable (Nt i j):=inferInstanceAs (Decidable (_/\_))
abbrev KW:=Te Nt λi j=>i / j
def Xx(k:zT X W a f)(e:zT X W b g):zT X W (.BinOp a .FloorDiv b pos) (λd S=>(f d S).bind λp m=>(g d m).bind λq S2=>KW p q S2):=MB (Z7 λi j _ _ _ _ _ c q=>by refine floordiv_int (by have:=c.1;lia) ?_ (.inl (PyProof.noPylong_of_log2 c.2));rw[(Int.fdiv_eq_ediv_of_nonneg i (Int.le_of_lt c.1))];exact q) (WC λi j h=>h) k e
abbrev FP:=Te (λ_ j=>0<j) λi j=>i % j
def Xy(e:zT X W a f)(c:zT X W b g):zT X W (.BinOp a .Mod b pos) (λd S=>(f d S).bind λp m=>(g d m).bind λq S2=>FP p q S2):=MB (Z7 λi j _ _ _ _ _ k q=>by have n:_<j:=k;exact mod_int' #[0] (by rw[Int.fmod_eq_emod_of_nonneg i #[0]];exact q)) (WC λi j h=>h) e c
def Xz(i j:Int):Prop:=0<=j/\(Builtin.Int.intBits i:Int) * j<=2 ^ 27
instance(i j:Int):Decidable (Xz i j):=inferInstanceAs (Decidable (_/\_))
abbrev Nu:=Te Xz λi j=>i ^ j.toNat
def Ya(k:zT X W a f)(e:zT X W b g):zT X W (.BinOp a .Pow b pos) (λd S=>(f d S).bind λp m=>(g d m).bind λq S2=>Nu p q S2):=MB (Z7 λ_ _ _ _ _ _ _ c q=>pow_int c.1 c.2 q) (WC λi j h=>h) k e
def shlC(i j:Int):Prop:=0<=j/\j<=1000000/\i.natAbs<2 ^ 64
instance(i j:Int):Decidable (shlC i j):=inferInstanceAs (Decidable (_/\_/\_))
noncomputable def Yb(S:Sto):Er->Option (List MV)
 |.new ds=>some ds
 |.val (.loc l)=>match S[l]? with
  |some (.lst ds)=>some ds
  |_=>none
 |_=>none
def OR(i:Wd X.g α S H)(e:Yb S r=some ds)(d:DenX X.K α H r x): ∃a vs,x=.ref a/\H a=some (.lst vs)/\DenL X.K α H ds vs:=by
 unfold Yb at e;split at e
 .cases e;obtain⟨b,vs,rfl,h,_,l⟩:=d;exact⟨b,vs,rfl,h,l⟩
 .rename_i n;obtain⟨a,rfl,h⟩:=sK d;split at e
  .rename_i es c;cases e;obtain⟨vs,j,l⟩:=i.obj n a _ h c;exact⟨a,vs,rfl,j,l⟩
  .cases e
 .cases e
def Tf(p q:Er)(S:Sto):R Er:=match Yb S p,Yb S q with
 |some x,some y=>if x.length+y.length<=sizeLine then .ok (.new (x++y)) S else .no
 |_,_=>.no
def gT:Er->Er->Sto->R Er
 |.val (.int i),.val (.int j),S=>.ok (.val (.int (i+j))) S
 |.val (.str x),.val (.str y),S=>if x.length+y.length<=sizeLine then .ok (.val (.str (x++y))) S else .no
 |.val (.tup x),.val (.tup y),S=>if x.length+y.length<=sizeLine then .ok (.val (.tup (x++y))) S else .no
 |p,q,S=>Tf p q S
def He:OpR X (binaryOp .Add) (λx y H Q=> ∃a b z,x=.ref a/\y=.ref b/\SqT X.K H a []/\SqT X.K H b z/\Q (.ref b) H):=by
 intro pins s σ H x y v u Q I G E h;obtain⟨a,b,z,rfl,rfl,L,N,q⟩:=h;cases G;cases E;obtain⟨w,r,p1,_⟩:=I.tuple L;obtain⟨p,O,p2,_⟩:=I.tuple N;have D:=r.nil_iff.mpr rfl;subst D;obtain⟨⟨A,M,k,sl⟩,o,B,n,J⟩:=id p1;obtain⟨⟨m,i,_,e⟩,c,d,C,j⟩:=id p2;subst B J d j
 exact concat_meets ⟨_,o,rfl⟩ ⟨_,c,rfl⟩ noFill_tuple_add seq_tuple_add PySem.F.slot_tuple_add PySem.F.entry_tuple_add (PySem.F.args_tuple_add_2 _ _)
  (tuple_addW0 a b _ _ n C M i sl e rfl) ⟨o,c,⟨.ref b,H,I,rfl,q⟩⟩
def Yc(K:zT X W a f)(M:zT X W b g):zT X W (.BinOp a .Add b pos) (λG S=>(f G S).bind λp L=>(g G L).bind λq S2=>gT p q S2):=by
 refine MB (Vu.or (VG.or (Wm.or (Mh.or He)))) ?_ K M;intro p q x y α S H Q d r o c;unfold gT at c;split at c
 .exact .inl ⟨_,_,yZ r,yZ o,Post.val c d (kX _)⟩
 .split at c
  .rename_i i;refine .inr (.inl ⟨_,_,nS r,nS o,by rw[bD];exact i,?_⟩);rw[OB];exact Post.val c d (oE _)
  .exact c.elim
 .split at c
  .rename_i B A i;obtain⟨s,n,rfl,z,h⟩:=lX r;obtain⟨m,j,rfl,w,e⟩:=lX o;by_cases C:n=[]
   .subst C;have v:=h.length;refine .inr (.inr (.inr (.inr ⟨s,m,j,rfl,rfl,z,w,?_⟩)));have:B=[]:=by cases B with |nil=>rfl|cons _ _=>simp at v
    subst this;exact Post.val c d (qQ w e)
   .refine .inr (.inr (.inr (.inl ⟨s,m,n,j,rfl,rfl,z,w,C,by rw[h.length,e.length];exact i,λk=>?_,λk p u=>Post.newt c d u (h.append e)⟩)));subst k;have v:=e.length;have:A=[]:=by cases A with |nil=>rfl|cons _ _=>simp at v
    subst this;rw[aN]at c;exact Post.val c d (qQ z h)
  .exact c.elim
 .unfold Tf at c;split at c
  .rename_i I D J E;split at c
   .rename_i i;obtain⟨s,n,rfl,k,h⟩:=OR d J r;obtain⟨m,j,rfl,F,e⟩:=OR d E o;exact .inr (.inr (.inl ⟨s,m,n,j,rfl,rfl,k,F,by rw[h.length,e.length];exact i,λp u=>Post.newl c d u (h.append e)⟩))
   .exact c.elim
  .exact c.elim
def mulC(i j:Int):Prop:=(-(2 ^ 64)<i/\i<2 ^ 64)\/(-(2 ^ 64)<j/\j<2 ^ 64)\/(i.natAbs.log2<4000/\j.natAbs.log2<4000)
theorem YS(h:i.natAbs.log2<4000):Builtin.Int.intBits i<=2 ^ 20:=by unfold Builtin.Int.intBits;split<;>lia
def mulC.ok(h:mulC i j):IntMulOk i j:=by
 rcases h with h|h|⟨h1,h2⟩
 .exact CMul.ok (.inl h)
 .exact CMul.ok (.inr h)
 .exact .of_bits (YS h1) (YS h2)
def Nx:OpR X (binaryOp .Mult) (rI mulC λi j=>.int (i * j)):=Z7 λ_ _ _ _ _ _ _ a q=>mul_int q a.ok
instance(i j:Int):Decidable (mulC i j):=inferInstanceAs (Decidable (_\/_\/_))
def Tg(p:Er)(k:Int)(S:Sto):R Er:=match Yb S p with
 |some x=>if 0<=k/\k<100000/\x.length * k.toNat<=sizeLine then .ok (.new (List.replicate k.toNat x).flatten) S else .no
 |none=>.no
def qA:Er->Er->Sto->R Er
 |.val (.int i),.val (.int j),S=>if mulC i j then .ok (.val (.int (i * j))) S else .no
 |.val (.str x),.val (.int k),S=>if 0<=k/\k<1000/\x.length<=1000 then .ok (.val (.str (OD x k))) S else .no
 |p,.val (.int k),S=>Tg p k S
 |_,_,_=>.no
theorem DenL.rep{K:Q0}(l:DenL K α H ds vs): ∀k:Nat,DenL K α H (List.replicate k ds).flatten (List.replicate k vs).flatten
 |0=>yK
 |k+1=>by rw[ŕ];exact l.append (DenL.rep l k)
theorem Yd(u:zT X W a f)(w:zT X W b g):zT X W (.BinOp a .Mult b pos) (λj S=>(f j S).bind λp v=>(g j v).bind λq S2=>qA p q S2):=by
 refine MB (Nx.or (VT.or Wn)) ?_ u w;intro p q x y α S H Q e i h c;unfold qA at c;split at c
 .split at c
  .rename_i d;exact .inl ⟨_,_,yZ i,yZ h,d,Post.val c e (kX _)⟩
  .exact c.elim
 .split at c
  .rename_i d;exact .inr (.inl ⟨_,_,nS i,yZ h,d.1,d.2.1,d.2.2,Post.val c e (oE _)⟩)
  .exact c.elim
 .unfold Tg at c;split at c
  .rename_i z r;split at c
   .rename_i d;obtain⟨s,m,rfl,n,k⟩:=OR e r i;exact .inr (.inr ⟨s,_,m,rfl,yZ h,n,by lia,by lia,by rw[k.length];exact d.2.2,λp o=>Post.newl c e o (k.rep _)⟩)
   .exact c.elim
  .exact c.elim
 .exact c.elim
noncomputable def zH:Nat:=40
def iK(p q:Er)(S:Sto):R Er:=match CT S zH p q with
 |some k=>.ok (.val (.bl k)) S
 |none=>.no
def ME(p q:Er)(S:Sto):R Er:=match CT S zH p q with
 |some k=>.ok (.val (.bl !k)) S
 |none=>.no
theorem Hf(m:X.A.units+64<cLine):OpR X (compareOp .Eq) (λx y H Q=> ∃α S p q k,Wd X.g α S H/\DenX X.K α H p x/\DenX X.K α H q y/\CT S zH p q=some k/\Q (.bl k) H):=by intro pins s σ H x y v u Q I d a h;obtain⟨α,S,p,q,k,b,j,c,e,i⟩:=h;exact Xt I b zH (by unfold zH;lia) j c d a e X.prog X.w _ _ ⟨.bl k,H,I,rfl,i⟩
theorem Hg(m:X.A.units+64<cLine):OpR X (compareOp .NotEq) (λx y H Q=> ∃α S p q k,Wd X.g α S H/\DenX X.K α H p x/\DenX X.K α H q y/\CT S zH p q=some k/\Q (.bl (!k)) H):=by intro pins s σ H x y v u Q I d a h;obtain⟨α,S,p,q,k,b,j,c,e,i⟩:=h;exact Xu I b zH (by unfold zH;lia) j c d a e X.prog X.w _ _ ⟨.bl (!k),H,I,rfl,i⟩
def YT:Cm X W (λx y H Q=> ∃α S p q k,Wd X.g α S H/\DenX X.K α H p x/\DenX X.K α H q y/\CT S zH p q=some k/\Q (.bl k) H) iK:=by
 intro p q x y α S H Q b c d a;unfold iK at a;split at a
 .rename_i k e;exact⟨α,S,p,q,k,b,c,d,e,Post.val a b (cM _)⟩
 .exact a.elim
def YU:Cm X W (λx y H Q=> ∃α S p q k,Wd X.g α S H/\DenX X.K α H p x/\DenX X.K α H q y/\CT S zH p q=some k/\Q (.bl (!k)) H) ME:=by
 intro p q x y α S H Q b c d a;unfold ME at a;split at a
 .rename_i k e;exact⟨α,S,p,q,k,b,c,d,e,Post.val a b (cM _)⟩
 .exact a.elim
def R5(c:X.A.units+64<cLine)(e:zT X W a f)(h:zT X W b g):zT X W (.Compare a [.Eq] [b] pos) (λd S=>(f d S).bind λp j=>(g d j).bind λq S2=>iK p q S2):=VV (Hf c) YT e h
def R8(c:X.A.units+64<cLine)(e:zT X W a f)(h:zT X W b g):vQ X W (.Compare a [.Eq] [b] pos) (λd S=>((f d S).bind λp j=>(g d j).bind λq S2=>iK p q S2).bind gV):=uZ (Hf c) YT e h
def R9(c:X.A.units+64<cLine)(e:zT X W a f)(h:zT X W b g):zT X W (.Compare a [.NotEq] [b] pos) (λd S=>(f d S).bind λp j=>(g d j).bind λq S2=>ME p q S2):=VV (Hg c) YU e h
def S8(c:X.A.units+64<cLine)(e:zT X W a f)(h:zT X W b g):vQ X W (.Compare a [.NotEq] [b] pos) (λd S=>((f d S).bind λp j=>(g d j).bind λq S2=>ME p q S2).bind gV):=uZ (Hg c) YU e h
def WD:Er->Er->Sto->R Er
 |.val d,.val f,S=>match qS S zH d f with
  |some k=>.ok (.val (.bl k)) S
  |none=>.no
 |_,_,_=>.no
theorem Hh(n:X.A.units+64<cLine):OpR X (compareOp .Lt) (λx y H Q=> ∃α S d f k,Wd X.g α S H/\Den X.K α H d x/\Den X.K α H f y/\qS S zH d f=some k/\Q (.bl k) H):=by intro pins s σ H x y v u Q I i a h;obtain⟨α,S,d,f,k,b,m,c,e,j⟩:=h;exact OQ I b zH X.A d f x y v u k (by unfold zH;lia) m c i a e X.prog X.w _ _ ⟨.bl k,H,I,rfl,j⟩
def YV:Cm X W (λx y H Q=> ∃α S d f k,Wd X.g α S H/\Den X.K α H d x/\Den X.K α H f y/\qS S zH d f=some k/\Q (.bl k) H) WD:=by
 intro p q x y α S H Q b h c a;unfold WD at a;split at a
 .split at a
  .rename_i k e;exact⟨α,S,_,_,k,b,h,c,e,Post.val a b (cM _)⟩
  .exact a.elim
 .exact a.elim
def S9(c:X.A.units+64<cLine)(e:zT X W a f)(h:zT X W b g):zT X W (.Compare a [.Lt] [b] pos) (λd S=>(f d S).bind λp j=>(g d j).bind λq S2=>WD p q S2):=VV (Hh c) YV e h
def T3(c:X.A.units+64<cLine)(e:zT X W a f)(h:zT X W b g):vQ X W (.Compare a [.Lt] [b] pos) (λd S=>((f d S).bind λp j=>(g d j).bind λq S2=>WD p q S2).bind gV):=uZ (Hh c) YV e h
abbrev geF:=zAB λi j=>decide (j<=i)
def T4(c:zT X W a f)(e:zT X W b g):vQ X W (.Compare a [.GtE] [b] pos) (λd S=>((f d S).bind λp j=>(g d j).bind λq S2=>geF p q S2).bind gV):=uZ (opB0 λ_ _ _ _ _ _ _ q=>ge_int q) Xv c e
def getL(ds:U0):Er->Sto->R Er
 |.val (.int i),S=>match qN ds i with |some d=>.ok (.val d) S|none=>.no
 |_,_=>.no
def zV:Er->Er->Sto->R Er
 |.val (.str x),.val (.int i),S=>if x.length<=sizeLine then match qN x i with |some c=>.ok (.val (.str [c])) S|none=>.no else .no
 |.val (.tup ds),q,S=>getL ds q S
 |p,q,S=>match wI S p with |some ds=>getL ds q S|none=>.no
def Ny{K:Q0}(l:DenL K α H ds vs)(e:qN ds i=some d): ∃v,qN vs i=some v/\Den K α H d v:=by
 unfold qN at e ⊢;rw[l.length]
 cases z:RJ ds.length i with
 |none=>rw[z]at e;cases e
 |some j=>
  rw[z]at e;obtain⟨v,b,a⟩:=l.at e;exact⟨v,b,a⟩
def T7(C:zT X W a f)(D:zT X W b g)(hs:NS b:=by exact λ_ _=>rfl):zT X W (.Subscript a b pos) (λz S=>(f z S).bind λp G=>(g z G).bind λq S2=>zV p q S2):=by
 refine Q8 (Mi.or (ix_tup.or ix_str)) ?_ C D hs;intro p q x y α S H Q m o n c;have h: ∀{ds:U0}{vs:List V}{i:Int}{d:MV},DenL X.K α H ds vs->qN ds i=some d->Post X.g W α H _ Q-> ∃v,qN vs i=some v/\Q v H:=λl e c=>by obtain⟨v,j,k⟩:=Ny l e;exact⟨v,j,Post.val c m k⟩
 unfold zV at c;split at c
 .split at c
  .rename_i A;split at c
   .rename_i w e;refine .inr (.inr ⟨_,_,w,nS o,yZ n,by rw[bD];exact A,by rw[OA];exact e,?_⟩);exact Post.val c m (oE [w])
   .exact c.elim
  .exact c.elim
 .unfold getL at c;split at c
  .split at c
   .rename_i d e;obtain⟨r,vs,rfl,u,s⟩:=lX o;obtain⟨v,j,k⟩:=h s e c;exact .inr (.inl ⟨r,vs,_,v,rfl,yZ n,u,j,k⟩)
   .exact c.elim
  .exact c.elim
 .split at c
  .rename_i ds B;unfold getL at c;split at c
   .split at c
    .rename_i d e;obtain⟨r,vs,rfl,u,s⟩:=pZ rfl m B o;obtain⟨v,j,k⟩:=h s e c;exact .inl ⟨r,vs,_,v,rfl,yZ n,u,j,k⟩
    .exact c.elim
   .exact c.elim
  .exact c.elim
end
def KY{lo:O0}(d:IsTup s.heap t its)(hs:s.heap.IsSliceOf sl vl vu .none)(j:IsPart vl lo)(e:IsPart vu hi)
  (h0:HT.sIx its.size 0 lo=0) (h1:HT.sIx its.size its.size hi=its.size) (h:Q (.ref t) s):wpAny (model prog w) A (getItem (.ref t) (.ref sl)) Q E s:=by
 have a:=d.typeIs;unfold getItem
 try with_reducible refine Ă ?_
 first |refine wB _|skip
 refine wB (wpAny_sequenceKey a ↑4 ?_);refine wB (û a ĩ (ö ĩ a entry_tuple_getitem ?_ (args_tuple_getitem _ _)));show wpAny _ _ (Builtin.Tuple.tupleItemsOf _ >>= _) _ _ s;refine wB (tupleItemsOf_ d (wB (ħ (by obtain⟨i,b,c,_⟩:=id hs;exact⟨i,b,c⟩) ?_)));refine wB (HT.sliceApplied_gen hs j e ?_);show wpAny _ _ (if _=true then _ else _) _ _ s;rw[iP (by rw[h0,h1];simp)];refine wB (wB (ħ a (wP ?_)));refine wB (ı ?_)
 first
  |exact wP ⟨_,rfl,wP h⟩
  |exact wB _
  |exact wB _
section
variable{e:Expr}{h:AX}
def Nz:SlR X (λx lo hi H Q=> ∃a xs,x=.ref a/\SqT X.K H a xs/\HT.sIx xs.length 0 lo=0/\HT.sIx xs.length xs.length hi=xs.length/\Q (.ref a) H):=by
 intro pins s σ H x v u p lo hi sl Q I j hs n m h;obtain⟨a,xs,rfl,e,i,k,q⟩:=h;cases j;obtain⟨c,r,d,o⟩:=I.tuple e;have b:c.toArray.size=xs.length:=by rw[sA0];exact r.length.symm
 exact⟨_,_,PyProof.Rows.slot_tuple_getitem.lookup,d.typeIs,KY d hs n m (by rw[b];exact i) (by rw[b];exact k) ⟨.ref a,H,I,rfl,q⟩⟩
def uE:Er->Option Int->Option Int->Sto->R Er
 |.val (.str x),lo,hi,S=>if x.length<=sizeLine then .ok (.val (.str (gX x lo hi))) S else .no
 |.val (.tup ds),lo,hi,S=>.ok (.val (.tup (gX ds lo hi))) S
 |p,lo,hi,S=>match wI S p with |some ds=>.ok (.new (gX ds lo hi)) S|none=>.no
def Cs{lo:O0}(b:HT.sIx ds.length 0 lo=0)(a:HT.sIx ds.length ds.length hi=ds.length):gX ds lo hi=ds:=by unfold gX;rw[b,a];simp
def Ye{lo:Option Expr}(s:zT X W a f)(w:Wu X W lo lf)(o:Wu X W hi hf):zT X W (.Subscript a (.Slice lo hi none p2) pos) (λq S=>(f q S).bind λp y=>(lf q y).bind λl S2=>(hf q S2).bind λu S3=>uE p l u S3):=by
 refine Gu (Wp.or (Mj.or (Wf.or Nz))) ?_ s w o;intro p lo hi x α S H Q h m b;unfold uE at b;split at b
 .split at b
  .rename_i n;exact .inl ⟨_,nS m,n,Post.val b h (oE _)⟩
  .exact b.elim
 .rename_i _ _ _ v;obtain⟨j,c,rfl,i,d⟩:=lX m;by_cases hw:HT.sIx c.length 0 lo=0/\HT.sIx c.length c.length hi=c.length
  .have e:=Cs (by rw[<-d.length];exact hw.1) (by rw[<-d.length];exact hw.2);rw[e]at b;exact .inr (.inr (.inr ⟨j,c,rfl,i,hw.1,hw.2,Post.val b h (qQ i d)⟩))
  .exact .inr (.inr (.inl ⟨j,c,rfl,i,hw,λp k=>Post.newt b h k (d.cut lo hi)⟩))
 .split at b
  .rename_i v r;obtain⟨j,c,rfl,i,d⟩:=pZ rfl h r m;exact .inr (.inl ⟨j,c,rfl,i,λp k=>Post.newl b h k (d.cut lo hi)⟩)
  .exact b.elim
theorem DenL.pick{K:Q0}(l:DenL K α H ds vs): ∀j:List Nat,DenL K α H (j.filterMap (ds[·]?)) (j.filterMap (vs[·]?))
 |[]=>yK
 |i::j=>by
  cases z:ds[i]? with
  |none=>
   rw[Ņ z,Ņ (by rw[ŀ,l.length];exact ŀ.mp z)];exact DenL.pick l j
  |some d=>
   obtain⟨v,q,m⟩:=l.at z;rw[ŋ z,ŋ q];exact yE m (DenL.pick l j)
theorem Vals.pick(r:Vals xs us): ∀j:List Nat,Vals (j.filterMap (xs[·]?)) (j.filterMap (us[·]?))
 |[]=>.nil
 |i::j=>by
  cases z:xs[i]? with
  |none=>rw[Ņ z,Ņ (r.none_of z)];exact Vals.pick r j
  |some d=>
   obtain⟨v,q,m⟩:=r.get z;rw[ŋ z,ŋ q];exact .cons m (Vals.pick r j)
end
section
variable{X:Cx}{W:XW}{a b c e:Expr}{g h:AX}
def RV(S:Sto)(n:Nat)(d:MV):List MV->Option (List Bool)
 |[]=>some []
 |y::ys=>(eqv S n y d).bind λk=>(RV S n d ys).map (k::·)
section
variable{α:B9}{S:Sto}{H:Hp}{pins:M0}{σ:St}{s:Ŗ}
def Oa(X:Cx)(α:B9)(S:Sto)(H:Hp)(n:Nat)(d:MV)(u:ŗ):Bool:=open Classical in decide (∃y x,Den X.K α H y x/\RelV x u/\eqv S n y d=some true)
open Classical in
def Ob(I:↑2)(h:Wd X.g α S H){n:Nat}{d y:MV}{x:V}{u:ŗ}{k:Bool}(c:Den X.K α H y x)(r:RelV x u)(e:eqv S n y d=some k):Oa X α S H n d u=k:=by
 unfold Oa
 cases k with
 |true=>exact dT0 ⟨y,x,c,r,e⟩
 |false=>
  refine dF0 λ⟨m,o,a,j,b⟩=>?_;have i:=r.inj j;subst i;rw[c.inj I h a]at e;rw[e]at b;cases b
theorem vY(I:↑2)(c:Wd X.g α S H)(b:A.units+n<cLine)(p:Den X.K α H d x)(o:RelV x v): ∀{j}{vs}{m}{bs},DenL X.K α H j vs->Vals vs m->RV S n d j=some bs->
  m.map (Oa X α S H n d)=bs/\ ∀u∈m,SeqAt.EqAt A s u v (Oa X α S H n d u)
 |[],_,_,bs,l,r,e=>by cases l.isnil;cases r;cases e;exact⟨rfl,λu b=>by cases b⟩
 |y::j,_,_,bs,l,r,e=>by
  obtain⟨G,J,rfl,q,l'⟩:=l.uncons
  cases r with
  |cons r1 r2=>
   unfold RV at e
   cases z:eqv S n y d with
   |none=>rw[z]at e;cases e
   |some k=>
    rw[z]at e
    cases h:RV S n d j with
    |none=>simp[h]at e
    |some cs=>
     simp[h]at e;subst e;obtain⟨B,w⟩:=vY I c b p o l' r2 h;have i:=Ob I c q r1 z;refine⟨by rw[ê,B,i],λu a=>?_⟩;rcases mC.mp a with rfl|a
     .rw[i];exact sN I c n A y d _ _ _ _ k b q p r1 o z
     .exact w u a
end
theorem any_map{a:A0}{f:ŗ->Bool}(h:a.map f=bs):a.toArray.any f=bs.any id:=by subst h;simp[List.any_map]
def itemsOf(S:Sto):Er->Option (List MV)
 |.val (.tup ds)=>some ds
 |r=>wI S r
def vZ(b:Wd X.g α S H)(e:itemsOf S r=some ds)(d:DenX X.K α H r x): ∃a vs,x=.ref a/\(SqL X.K H a vs\/SqT X.K H a vs)/\DenL X.K α H ds vs:=by
 unfold itemsOf at e;split at e
 .cases e;obtain⟨a,vs,rfl,s,l⟩:=lX d;exact⟨a,vs,rfl,.inr s,l⟩
 .obtain⟨a,vs,rfl,s,l⟩:=pZ rfl b e d;exact⟨a,vs,rfl,.inl s,l⟩
def CU(a:Bool)(p q:Er)(S:Sto):R Er:=match p with
 |.val d=>match itemsOf S q with
  |some ys=>match RV S zH d ys with
   |some bs=>.ok (.val (.bl (if a=true then !bs.any id else bs.any id))) S
   |none=>.no
  |none=>.no
 |.new _=>.no
def Ez(a:Bool):Er->Er->Sto->R Er
 |.val (.str [c]),.val (.str y),S=>.ok (.val (.bl (if a=true then !decide (c∈y)else decide (c∈y)))) S
 |p,q,S=>CU a p q S
abbrev Hi(X:Cx)(a:Bool):R2:=λx y H Q=> ∃α S d q b bs,Wd X.g α S H/\Den X.K α H d x/\DenX X.K α H q y/\itemsOf S q=some b/\RV S zH d b=some bs/\Q (.bl (if a=true then !bs.any id else bs.any id)) H
theorem Yf(D:X.A.units+64<cLine):OpR X (compareOp .In) (Hi X false):=by
 intro pins s σ H x y v u Q I o z h;obtain⟨α,S,d,q,E,bs,c,p,B,C,m,n⟩:=h;obtain⟨a,F,rfl,b,l⟩:=vZ c C B;cases z;rcases b with b|b
 .obtain⟨i,r,k,_⟩:=I.list b;obtain⟨e,j⟩:=vY I c (A:=X.A.in1) (by show X.A.units+1+zH<cLine;unfold zH;lia) p o l r m;refine SeqAt.in_listAt _ k.isList (λw hw=>j w (by simpa using hw)) ⟨.bl _,H,I,rfl,?_⟩;rw[any_map e];exact n
 .obtain⟨i,r,k,_⟩:=I.tuple b;obtain⟨e,j⟩:=vY I c (A:=X.A.in1) (by show X.A.units+1+zH<cLine;unfold zH;lia) p o l r m;refine SeqAt.in_tupleAt _ k (λw hw=>j w (by simpa using hw)) ⟨.bl _,H,I,rfl,?_⟩;rw[any_map e];exact n
theorem Ct(D:X.A.units+64<cLine):OpR X (compareOp .NotIn) (Hi X true):=by
 intro pins s σ H x y v u Q I o z h;obtain⟨α,S,d,q,E,bs,c,p,B,C,m,n⟩:=h;obtain⟨a,F,rfl,b,l⟩:=vZ c C B;cases z;rcases b with b|b
 .obtain⟨i,r,k,_⟩:=I.list b;obtain⟨e,j⟩:=vY I c (A:=X.A.in1) (by show X.A.units+1+zH<cLine;unfold zH;lia) p o l r m;refine SeqAt.notIn_listAt _ k.isList (λw hw=>j w (by simpa using hw)) ⟨.bl _,H,I,rfl,?_⟩;rw[any_map e];exact n
 .obtain⟨i,r,k,_⟩:=I.tuple b;obtain⟨e,j⟩:=vY I c (A:=X.A.in1) (by show X.A.units+1+zH<cLine;unfold zH;lia) p o l r m;refine SeqAt.notIn_tupleAt _ k (λw hw=>j w (by simpa using hw)) ⟨.bl _,H,I,rfl,?_⟩;rw[any_map e];exact n
def YW:Cm X W (λx y H Q=>(∃i j,x=.str i/\y=.str j/\Q (.bl (if neg=true then !(!(Builtin.Str.occurrences j i 0 j.length 1).isEmpty)else !(Builtin.Str.occurrences j i 0 j.length 1).isEmpty)) H)\/Hi X neg x y H Q) (Ez neg):=by
 intro p q x y α S H Q b e c a;unfold Ez at a;split at a
 .refine .inl ⟨_,_,nS e,nS c,?_⟩;rw[<-Mq,PySem.StrLaws.found_one];exact Post.val a b (cM _)
 .unfold CU at a;split at a
  .rename_i d _;split at a
   .rename_i h m;split at a
    .rename_i bs k;exact .inr ⟨α,S,_,q,h,bs,b,e,c,m,k,Post.val a b (cM _)⟩
    .exact a.elim
   .exact a.elim
  .exact a.elim
def OpR.imp{f:ŗ->ŗ->Sem ŗ}(h:OpR X f r)(i: ∀x y H Q,r' x y H Q->r x y H Q):OpR X f r':=λpins s σ H x y v u Q I b a q=>h pins s σ H x y v u Q I b a (i x y H Q q)
def T9(e:X.A.units+64<cLine)(h:zT X W a f)(c:zT X W b g)(i:behindInMarks .In b=false:=by with_unfolding_all rfl):vQ X W (.Compare a [.In] [b] pos) (λd S=>((f d S).bind λp j=>(g d j).bind λq S2=>Ez false p q S2).bind gV):=uZ ((OpR.imp (Bu.or (Yf e)) λx y H Q q=>q.imp (λq=>q) λq=>q)) YW h c i
def Hj(e:X.A.units+64<cLine)(h:zT X W a f)(c:zT X W b g)(i:behindInMarks .NotIn b=false:=by with_unfolding_all rfl):vQ X W (.Compare a [.NotIn] [b] pos) (λd S=>((f d S).bind λp j=>(g d j).bind λq S2=>Ez true p q S2).bind gV):=uZ ((OpR.imp (NN.or (Ct e)) λx y H Q q=>q.imp (λq=>q) λq=>q)) YW h c i
def sO{K:Q0}(d:ArgsX K α H [r] vs): ∃v,vs=[v]/\DenX K α H r v:=by
 cases d with
 |cons a l=>cases l;exact⟨_,rfl,a⟩
def Th{K:Q0}(d:ArgsX K α H [r,r'] vs): ∃v u,vs=[v,u]/\DenX K α H r v/\DenX K α H r' u:=by
 cases d with
 |cons a l=>obtain⟨u,rfl,b⟩:=sO l;exact⟨_,u,rfl,a,b⟩
def iQ:List Er->Sto->R Er
 |[.val (.str x)],S=>if x.length<=sizeLine then .ok (.val (.int x.length)) S else .no
 |[r],S=>match itemsOf S r with |some ds=>.ok (.val (.int ds.length)) S|none=>.no
 |_,_=>.no
def Yh:rR X W (λxs H Q=>(∃z,xs=[.str z]/\z.length<=sizeLine/\Q (.int z.length) H)\/ ∃p j,xs=[.ref p]/\(SqL X.K H p j\/SqT X.K H p j)/\Q (.int j.length) H) iQ:=by
 intro q n α S H Q h d b;unfold iQ at b;split at b
 .split at b
  .rename_i i;obtain⟨v,rfl,c⟩:=sO d;cases nS c;refine .inl ⟨_,rfl,by rw[bD];exact i,?_⟩;exact Post.val b h (kX _)
  .exact b.elim
 .split at b
  .rename_i o e;obtain⟨v,rfl,c⟩:=sO d;obtain⟨a,k,rfl,m,l⟩:=vZ h e c;refine .inr ⟨a,k,rfl,m,?_⟩;rw[l.length];exact Post.val b h (kX _)
  .exact b.elim
 .exact b.elim
def Cv:CallR X (.builtin "len") (λxs H Q=>(∃z,xs=[.str z]/\z.length<=sizeLine/\Q (.int z.length) H)\/ ∃p d,xs=[.ref p]/\(SqL X.K H p d\/SqT X.K H p d)/\Q (.int d.length) H):=NV.or (by
  intro pins s σ H xs n Q I r h;obtain⟨p,d,rfl,b,q⟩:=h;obtain⟨u,rfl,k⟩:=vals1 r;cases k;have m:=CI;rcases b with b|b
  .obtain⟨c,e,i,j⟩:=I.list b;have a:=e.length;exact Calls.call_len_list i.isList (by simp only[sA0]<;>lia) ⟨.int d.length,H,I.tok _,⟨_,by rw[sA0,a]⟩,q⟩
  .obtain⟨c,e,i,j⟩:=I.tuple b;have a:=e.length;exact len_tuple i (by simp only[sA0]<;>lia) ⟨.int d.length,H,I.tok _,⟨_,by rw[sA0,a]⟩,q⟩)
noncomputable def oF:List MV->Option (List Bool)
 |[]=>some []
 |.bl b::r=>(oF r).map (b::·)
 |_::_=>none
theorem CV{K:Q0}: ∀{ds}{bs}{vs},oF ds=some bs->DenL K α H ds vs->vs=bs.map V.bl
 |[],_,_,e,l=>by cases e;exact l.isnil
 |d::r,bs,_,e,l=>by
  cases d with
  |bl b=>
   unfold oF at e
   cases z:oF r with
   |none=>rw[z]at e;cases e
   |some cs=>
    rw[z]at e;cases e;obtain⟨v,m,rfl,j,l'⟩:=l.uncons;rw[pV j,CV z l'];rfl
  |_=>cases e
def Oc:List Er->Sto->R Er
 |[r],S=>match (wI S r).bind oF with |some bs=>.ok (.val (.bl (bs.all id))) S|none=>.no
 |_,_=>.no
def Od:List Er->Sto->R Er
 |[r],S=>match (wI S r).bind oF with |some bs=>.ok (.val (.bl (bs.any id))) S|none=>.no
 |_,_=>.no
def Yi(j:X.calm=true):rR X W (λxs H Q=> ∃(a:Addr)(bs:N0),xs=[.ref a]/\SqL X.K H a (bs.map V.bl)/\X.calm=true/\Q (.bl (bs.all id)) H) Oc:=by
 intro n m α S H Q c d b;unfold Oc at b;split at b
 .split at b
  .rename_i bs e;obtain⟨v,rfl,h⟩:=sO d
   cases z:wI S _ with
   |none=>rw[z]at e;cases e
   |some ds=>
    rw[z]at e;obtain⟨i,k,rfl,s,l⟩:=pZ rfl c z h;refine⟨i,bs,rfl,?_,j,Post.val b c (cM _)⟩;rw[<-CV e l];exact s
  .exact b.elim
 .exact b.elim
def CW(S:Sto):Er->Option String
 |.val .non=>some "NoneType"
 |.val (.bl _)=>some "bool"
 |.val (.int _)=>some "int"
 |.val (.str _)=>some "str"
 |.val (.tup _)=>some "tuple"
 |.val (.typ _)=>none
 |.val (.obj _ _ _)=>none
 |r=>(wI S r).map λ_=>"list"
noncomputable def Oe(t T:String):Bool:=t==T || (t=="bool"&&T=="int")
noncomputable def known(T:String):Bool:=T=="int" || T=="bool" || T=="str" || T=="tuple" || T=="list"
def qT:List Er->Sto->R Er
 |[r,.val (.typ T)],S=>match CW S r with
  |some t=>if known T=true then .ok (.val (.bl (Oe t T))) S else .no
  |none=>.no
 |_,_=>.no
theorem lR(K)(c:t="NoneType"\/t="bool"\/t="int"\/t="str"\/t="tuple"\/t="list")(a:known T=true):PySem.W.kitOne K (.type t) (.type T)=some (Oe t T):=by
 have b:T="int"\/T="bool"\/T="str"\/T="tuple"\/T="list":=by
  unfold known at a;simp only[Bool.or_eq_true,Ĥ]at a;rcases a with(((h|h)|h)|h)|h
  .exact .inl h
  .exact .inr (.inl h)
  .exact .inr (.inr (.inl h))
  .exact .inr (.inr (.inr (.inl h)))
  .exact .inr (.inr (.inr (.inr h)))
 rcases c with rfl|rfl|rfl|rfl|rfl|rfl<;>rcases b with rfl|rfl|rfl|rfl|rfl<;>kernel_rfl
def Hk:CallR X (.builtin "isinstance") (λxs H Q=> ∃α S r x t T,xs=[x,.ty T]/\Wd X.g α S H/\DenX X.K α H r x/\CW S r=some t/\known T=true/\Q (.bl (Oe t T)) H):=by
 intro pins s σ H xs B Q I p h;obtain⟨α,S,r,x,t,T,rfl,v,d,b,c,q⟩:=h;obtain⟨u,C,rfl,e,A⟩:=vals2 p;cases A;have fin: ∀n,EP X pins σ Q _ {s with toks:=n}:=λn=>⟨.bl _,H,I.tok _,rfl,q⟩
 unfold CW at b;split at b
 .cases b;cases VU d;cases e;exact PySem.W.kia_one PySem.W.kitx_none I.kIn True.intro (lR X.K (.inl rfl) c) (λz=>nomatch z) fin
 .cases b;cases EN d;cases e;exact PySem.W.kia_one PySem.W.kitx_bool I.kIn True.intro (lR X.K (.inr (.inl rfl)) c) (λz=>nomatch z) fin
 .cases b;cases yZ d;obtain⟨t,rfl⟩:=e;exact PySem.W.kia_one PySem.W.kitx_int I.kIn True.intro (lR X.K (.inr (.inr (.inl rfl))) c) (λz=>nomatch z) fin
 .cases b;cases nS d;obtain⟨t,rfl⟩:=e;exact PySem.W.kia_one PySem.W.kitx_str I.kIn True.intro (lR X.K (.inr (.inr (.inr (.inl rfl)))) c) (λz=>nomatch z) fin
 .cases b;obtain⟨a,y,rfl,m,l⟩:=lX d;cases e;obtain⟨j,w,p1,_⟩:=I.tuple m;obtain⟨o,i,k,_⟩:=p1;exact PySem.W.kia_one PySem.W.kitx_tuple I.kIn ⟨o,i,k⟩ (lR X.K (.inr (.inr (.inr (.inr (.inl rfl))))) c) (λz=>nomatch z) fin
 .cases b
 .cases b
 .cases z:wI S r with
  |none=>rw[z]at b;cases b
  |some ds=>
   rw[z]at b;cases b;obtain⟨a,y,rfl,m,l⟩:=pZ rfl v z d;cases e;obtain⟨j,w,p1,_⟩:=I.list m;obtain⟨o,i,k,_⟩:=p1.isList;exact PySem.W.kia_one PySem.W.kitx_list I.kIn ⟨o,i,k⟩ (lR X.K (.inr (.inr (.inr (.inr (.inr rfl))))) c) (λz=>nomatch z) fin
def Yj:rR X W (λxs H Q=> ∃α S r x t T,xs=[x,.ty T]/\Wd X.g α S H/\DenX X.K α H r x/\CW S r=some t/\known T=true/\Q (.bl (Oe t T)) H) qT:=by
 intro k j α S H Q b d a;unfold qT at a;split at a
 .split at a
  .rename_i t e;split at a
   .rename_i c;obtain⟨v,u,rfl,i,h⟩:=Th d;cases Wt h;exact⟨α,S,_,v,t,_,rfl,b,i,e,c,Post.val a b (cM _)⟩
   .exact a.elim
  .exact a.elim
 .exact a.elim
def fV:List Er->Sto->R Er
 |[.val (.tup ds)],S=>.ok (.val (.tup ds)) S
 |[r],S=>match wI S r with |some ds=>.ok (.val (.tup ds)) S|none=>.no
 |_,_=>.no
def Hl:rR X W (λxs H Q=> ∃p j,xs=[.ref p]/\((SqL X.K H p j/\ ∀l,H l=none->Q (.ref l) (wG H l (.tup j)))\/(SqT X.K H p j/\Q (.ref p) H))) fV:=by
 intro q n α S H Q k d b;unfold fV at b;split at b
 .obtain⟨v,rfl,i⟩:=sO d;obtain⟨a,h,rfl,c,l⟩:=lX i;exact⟨a,h,rfl,.inr ⟨c,Post.val b k (qQ c l)⟩⟩
 .split at b
  .rename_i o e;obtain⟨v,rfl,i⟩:=sO d;obtain⟨a,h,rfl,c,l⟩:=pZ rfl k e i;exact⟨a,h,rfl,.inl ⟨c,λp m=>Post.newt b k m l⟩⟩
  .exact b.elim
 .exact b.elim
def YX:List Er->Sto->R Er
 |[r],S=>match itemsOf S r with |some ds=>.ok (.new ds) S|none=>.no
 |_,_=>.no
def Of:rR X W (λxs H Q=> ∃p j,xs=[.ref p]/\(SqL X.K H p j\/SqT X.K H p j)/\ ∀l,H l=none->Q (.ref l) (wG H l (.lst j))) YX:=by
 intro q n α S H Q c d b;unfold YX at b;split at b
 .split at b
  .rename_i o e;obtain⟨v,rfl,i⟩:=sO d;obtain⟨a,h,rfl,k,l⟩:=vZ c e i;exact⟨a,h,rfl,k,λp m=>Post.newl b c m l⟩
  .exact b.elim
 .exact b.elim
def Yk:bootBuiltins "len"=some (.builtin "len"):=by decide+kernel
def Yl:bootBuiltins "all"=some (.builtin "all"):=by decide+kernel
def Ym:bootBuiltins "any"=some (.builtin "any"):=by decide+kernel
def KZ:bootBuiltins "isinstance"=some (.builtin "isinstance"):=by decide+kernel
def Yn:bootBuiltins "int"=some (.type "int"):=by decide+kernel
def Og:bootBuiltins "bool"=some (.type "bool"):=by decide+kernel
def Yo:bootBuiltins "str"=some (.type "str"):=by decide+kernel
def AA:bootBuiltins "tuple"=some (.type "tuple"):=by decide+kernel
def YY:bootBuiltins "list"=some (.type "list"):=by decide+kernel
end
section
variable{X:Cx}{a o:Expr}{es:P0}{g h:AX}{pos apos:Pos}
noncomputable def HG:Er->Sto->Bool
 |.val (.str _),_=>true
 |_,_=>false
def gY(p:Er)(S:Sto):Bool:=(wI S p).isSome
def WF:TyM X "list" gY:=by
 intro p x α S H c d h;unfold gY at h
 cases z:wI S p with
 |none=>rw[z]at h;cases h
 |some ds=>
  obtain⟨a,b,rfl,s,l⟩:=pZ rfl c z d;exact .inl ⟨rfl,b,s⟩
def strIdx(x y:Db):Option Nat:=(Builtin.Str.occurrences (nL x) (nL y) 0 (nL x).length 1).head?
noncomputable def CY(p:Er)(S:Sto)(G:List MV->Option (List MV)):R Er:=match p with
 |.val (.loc l)=>match S[l]? with
  |some (.lst ds)=>match G ds with
   |some es=>.ok (.val .non) (S.set l (.lst es))
   |none=>.no
  |_=>.no
 |_=>.no
def CZ(e:Wd X.g α S H)(n:Ext α0 H0 α H)(q:DenX X.K α H p x)(b:Post X.g W α0 H0 (CY p S G) Q):
  ∃a vs ds es,x=.ref a/\H a=some (.lst vs)/\DenL X.K α H ds vs/\G ds=some es/\ ∀d,DenL X.K α H es d->Q .non (wG H a (.lst d)):=by
 unfold CY at b;split at b
 .rename_i l;obtain⟨a,rfl,h⟩:=sK q;obtain⟨ob,m,j⟩:=e.of h;rw[m]at b
  cases ob with
  |lst ds=>
   obtain⟨vs,c,r⟩:=j;have b:Post X.g W α0 H0 (match G ds with |some es=>R.ok _ _|none=>R.no) Q:=b;split at b
   .rename_i es k;refine⟨a,vs,ds,es,rfl,c,r,k,λd s=>?_⟩;have i:=e.writex h (Ta c) (o:=.lst d);exact(b.shift (n.trans i)).val (e.write h (Ta c) ⟨d,yN,s.ext i⟩) FX
   .exact b.elim
  |dic _=>exact b.elim
  |ins _ _=>exact b.elim
  |rcd _ _=>exact b.elim
  |fdc _=>exact b.elim
 .exact b.elim
def vA:Er->List Er->Sto->R Er
 |p,[r],S=>(nT r S).bind λy d=>CY p d λds=>if ds.length<sizeLine then some (ds++[y])else none
 |_,_,_=>.no
def Cw:VX X W YH vA:=by
 intro p B x M α S A H Q c v D F i b
 match B,i,b with
 |[],_,b=>exact b.elim
 |_::_::_,_,b=>exact b.elim
 |[r],i,b=>
  cases i with
  |cons d n l=>
   cases l;obtain⟨J,L,α',E,z,u,C,G⟩:=pY v D d;have b:Post X.g W c A ((nT r S).bind λy I=>CY p I λe=>if e.length<sizeLine then some _ else none) Q:=b;rw[E]at b
   have j:DenX X.K α' H p x:=by
    cases p with
    |val m=>exact Den.ex0 u F
    |new e=>exact b.elim
   obtain⟨a,q,e,es,rfl,w,o,h,k⟩:=CZ C z j b;split at h
   .rename_i s;cases h;exact⟨a,q,_,rfl,rfl,w,by rw[o.length];exact s,k _ (o.append (yE G yK))⟩
   .cases h
def Cy(i:zT X W a f)(o:MA X W (e::es) af)
  (hbase:attributeBase a "append" X.env (eval a X.env)=eval a X.env:=by rfl)
  (hfew:((backTo pos (starEach (e::es) X.env)).all (λx=>!x.1)&&(backToKw pos (keywordEach [] X.env)).all (λx=>x.1.isSome)
   &&decide ((e::es).length+([]:List Keyword).length+(if([]:List Keyword).isEmpty then 0 else 1)<30))=true:=by rfl)
  (hline:(apos.endLine==pos.line)=true:=by rfl) (hs:q8 X e es:=by rfl) (hplain:q9 X pos es:=by rfl):
  zT X W (.Call (.Attribute a "append" apos) (e::es) [] pos) (λd S=>(f d S).bind λp j=>if gY p j=true then(af d j).bind λrs S2=>vA p rs S2 else .no):=
 OJ PySem.F.plainAttrs_list PySem.F.slot_list_append PySem.F.type_list_append (by
   intro pins s σ H x D v A Q I m k h;obtain⟨l,xs,y,rfl,rfl,c,B,q⟩:=h;cases m;obtain⟨u,rfl,w⟩:=k.one;obtain⟨z,b,n,r,C,e⟩:=I.lstM c;refine call_meets F.slot_list_append ⟨_,e,rfl⟩ F.entry_list_append (F.args_list_append_2 _ _) (PySem.list_append l b.toArray n u (by rw[sA0];lia)) ⟨e,?_⟩;refine⟨.non,_,I.lset c e (by simp) (r.append (.cons w .nil)) ?_,rfl,q⟩;rw[lA,lS]
   lia) Cw WF i o hbase hfew hline hs hplain
def Hm:Er->List Er->Sto->R Er
 |p,[],S=>CY p S λds=>some ds.reverse
 |_,_,_=>.no
def WG:VX X W RL Hm:=by
 intro p s x u α S r H Q c i m n o b
 match s,o,b with
 |_::_,_,b=>exact b.elim
 |[],.nil,b=>
  have b:Post X.g W c r (CY p S λd=>some d.reverse) Q:=b;obtain⟨a,e,d,es,rfl,j,q,h,k⟩:=CZ i m n b;cases h;exact⟨a,e,rfl,rfl,j,k _ q.reverse⟩
def WH(w:zT X W a f)(c:attributeBase a "reverse" X.env (eval a X.env)=eval a X.env:=by rfl)(d:(apos.endLine==pos.line)=true:=by rfl):
  zT X W (.Call (.Attribute a "reverse" apos) [] [] pos) (λy S=>(f y S).bind λp j=>if gY p j=true then Hm p [] j else .no):=
 (by
   obtain⟨to,w,G⟩:=w;refine⟨_,Wj (PySem.F.plainAttrs_list) (PySem.F.slot_list_reverse) (PySem.F.type_list_reverse) (show MtM X "list.reverse" RL by intro pins s σ H x O v M Q I L J h;obtain⟨l,xs,rfl,rfl,A,q⟩:=h;cases L;have m:=J.zero;subst m;obtain⟨z,i,n,r,N,e⟩:=I.lstM A;refine call_meets F.slot_list_reverse ⟨_,e,rfl⟩ F.entry_list_reverse (F.args_list_reverse_1 _) (AutoSeq1.list_reverse_list_0 l i.toArray n (by rw[sA0];omega)) ⟨e,?_⟩;refine⟨.non,_,I.lset (its':=i.reverse) A e (by simp) r.reverse ?_,rfl,q⟩;rw[List.length_reverse];omega) w c d,λα y S σ H Q E sl q=>G α y S σ H _ E sl (q.bind λu p j b o P K B C k=>?_)⟩;split at k
   .rename_i D;exact⟨WF p u b j o B C.1 D,WG p [] u [] b j o o Q b B (Ext.refl _ _) C.1 .nil (k.shift K)⟩
   .exact k.elim)
def MF(p q:Er)(d:MV)(a:Rho)(S:Sto):R Rho:=match p,q with
 |.val (.loc l),.val (.int k)=>match S[l]? with
  |some (.lst ds)=>match RJ ds.length k with
   |some j=>.ok a (S.set l (.lst (ds.set j d)))
   |none=>.no
  |_=>.no
 |_,_=>.no
def Yp(c:zT X W o f)(hi:zT X W i g)
  (ha: ∀v,assign (.Subscript o i pos) X.env v=(do
   let z <-holding [v] (eval o X.env);let B <-holding [v,z] (eval i X.env)
   standAt pos
   holding [v,z,B] (setItem z B v)
   release [v,z,B] []):=by intro _;rfl):Nb X W (.Subscript o i pos) (λd m S=>(f m S).bind λp G=>(g m G).bind λq S2=>MF p q d m S2):=by
 obtain⟨to,c,fo⟩:=c;obtain⟨ti,hi,fi⟩:=hi;refine⟨_,Vi c hi (show N1 X Q2 by
   intro pins s σ H o i v z B u Q I ro ri rv h;obtain⟨p,xs,k,j,rfl,rfl,P,hj,q⟩:=h;cases ro;obtain⟨t,rfl⟩:=ri;obtain⟨y,n,r,c,Z⟩:=I.lst P;obtain⟨e,T,w,U⟩:=YG hj;have L:=r.length;have hn:=CI
   have O:Inv X pins σ _ {s with heap:=s.heap.update p _}:=
    I.lstUpd P c (VN y n j u) (r.set rv j) (by rw[þ];exact Z) s.toks
   by_cases M:0<=k
   .have F:=by rw[seqIndex_of M U]at e;exact ã e
    exact PySem.W.ki_setAt c M #[0] (by rw[sA0, <-L];exact U) (by rw[F];exact⟨_,O,q⟩)
   .have F:(k+(y.toArray.size:Int)).toNat=j:=by rw[seqIndex_neg #[0] w]at e;rw[sA0, <-L];exact ã e
    exact PySem.W.ki_setBack c #[0] (by rw[sA0, <-L];exact w) #[0] (by rw[F];exact⟨_,O,q⟩)) ha,λα m S σ H d v Q wd sl de q=>fo α m S σ H _ wd sl (q.bind λu p G E H1 e1 C w1 d1 q1=>fi E m G σ H1 _ w1 (sl.ext C) ((q1.shift C).bind λu2 p2 S2 A H2 e2 D K d2 b=>?_))⟩
 replace b:=b.shift D
 unfold MF at b;split at b
 .rename_i l k;obtain⟨a,rfl,h⟩:=sK (DenX.ext D d1.1);cases yZ d2.1;obtain⟨ob,e,T⟩:=K.of h;rw[e]at b
  cases ob with
  |lst ds=>
   obtain⟨N,w,Y⟩:=T;have b:Post X.g W A H2 (match RJ ds.length k with |some j=>R.ok m _|none=>R.no) Q:=b;split at b
   .rename_i j ej;have J:=K.writex h (Ta w) (o:=.lst (N.set j v));exact⟨a,N,k,j,rfl,rfl,w,by rw[Y.length];exact ej,b σ A _ J (K.write h (Ta w) ⟨_,yN,(Y.set ((de.ext C).ext D) j).ext J⟩) (((sl.ext C).ext D).ext J)⟩
   .exact b.elim
  |dic _=>exact b.elim
  |ins _ _=>exact b.elim
  |rcd _ _=>exact b.elim
  |fdc _=>exact b.elim
 .exact b.elim
end
def _root_.L2.Inv.turnedL{fp:B9}(I:↑2)(k: ∀b o,b∉fp->s.heap.get? b=some o->h'.get? b=some o)
  (hf: ∀b∈fp,uW X pins H b):Inv X pins σ H {s with heap:=h',toks:=t'}:=by
 have d: ∀b u,H b=some u->b∉fp:=λb u e z=>by rw[(hf b z).1]at e;cases e
 refine I.step (λb h=>⟨(hf b h).2.2.2.1,(hf b h).2.1,(hf b h).2.2.2.2.1,(hf b h).2.2.2.2.2⟩) (λb o _ _ a e _=>k b o a e) (λb o _ _ a e _=>⟨_,k b o a e⟩) (λ_ _ _ _ n=>n)
  (λb o a e=>⟨o,k b o a e⟩) (λ_ _ e=>e) (λ_ _ _ e=>e) (λb ps e=>⟨#[],by rw[e];simp⟩) (λm p=>?_) (λb u e=>?_) I.bare
 .obtain⟨o,es,i,j,r⟩:=p;exact⟨o,es,i,k _ o (λz=>(hf _ z).2.1 rfl) j,r⟩
 .refine(I.hok b u e).stay (λc v a q=>k c v ?_ q) (λ_ q=>q) λ_ _ q=>q;rcases a with z|z
  .rw[z];exact d b u e
  .exact d c _ z
def IsSub(k:Bool)(h:Heap)(a l:Addr)(i:Nat):Prop:=if k=true then h.IsListIter a l i else h.IsTupleIter a l i
def HI(k:Bool)(h:Heap)(l:Addr)(its:B0):Prop:=if k=true then h.IsList l its else h.IsTuple l its
noncomputable def OS(k:Bool)(l:Addr):Obj:={cls:=.type (if k=true then "list_iterator" else "tuple_iterator"),data:=.fields #[.ref l,.int 0 0]}
def IsSub.mk'(e:h.get? it=some (OS k l)):IsSub k h it l 0:=by
 cases k with
 |true=>exact⟨_,e,rfl,rfl⟩
 |false=>exact⟨_,e,rfl,rfl⟩
def IsSub.there(x:IsSub k h it l i): ∃o,h.get? it=some o/\ ∀v,o.data≠.cell v:=by
 cases k with
 |true=>obtain⟨o,e,_,d⟩:=(x:h.IsListIter it l i);exact⟨o,e,λv z=>by rw[d]at z;cases z⟩
 |false=>obtain⟨o,e,_,d⟩:=(x:h.IsTupleIter it l i);exact⟨o,e,λv z=>by rw[d]at z;cases z⟩
def IsSub.move(x:IsSub k h it l i)(f: ∀o,h.get? it=some o->h'.get? it=some o):IsSub k h' it l i:=by
 cases k with
 |true=>obtain⟨o,e,r⟩:=(x:h.IsListIter it l i);exact⟨o,f o e,r⟩
 |false=>obtain⟨o,e,r⟩:=(x:h.IsTupleIter it l i);exact⟨o,f o e,r⟩
section
def HK(a:HI k s.heap l its)(h:Q (.ref ↑1) {s with heap:=s.heap.push (OS k l)}):wpAny (model prog w) A (pyIter (.ref l)) Q E s:=by
 cases k with
 |true=>exact ľ a h
 |false=>exact wpAny_pyIter_tuple a h
def Hn(b:IsSub k s.heap it l i)(j:HI k s.heap l its)(hx:its[i]? =some x)
  (hQ: ∀h',IsSub k h' it l (i+1)->Heap.SameBut it s.heap h'->Q x {s with heap:=h'}):wpAny (model prog w) A (Builtin.SmallTypes.nextOf (.ref it)) Q E s:=by
 cases k with
 |true=>exact wpAny_nextOf_list_item b j hx hQ
 |false=>
  have a:=b;obtain⟨o,d,m,c⟩:=id a;obtain⟨n,h,_,p,e⟩:=(j:s.heap.IsTuple l its)
  refine wB (û a.typeIs ĺ (ö ĺ a.typeIs F.entry_tuple_iterator_next ?_ (F.args_tuple_iterator_next_1 _)));show wpAny _ _ (field _ 0 >>= _) _ _ s;refine wB (ġ d c rfl ?_);refine wB (ġ d c rfl ?_);refine wB (wpAny_seqItems h e ?_);simp only[Ĕ,hx];refine wB (į d c (by simp) (wP ⟨x,rfl,wP (hQ _ ?_ (ċ ..))⟩));exact⟨_,ø _ d (Obj.isFreed_of_fields (Obj.data_mapFields c _)),(Obj.cls_mapFields ..).trans m,by rw[Obj.data_mapFields c];simp[rawInt]⟩
def Oh(h:A.handled=none)(b:IsSub k s.heap it l i)(n:HI k s.heap l its)(hx:its[i]? =none)
  (hE: ∀h' e,Heap.ExtBut it s.heap h'->(∃o,h'.get? e=some o/\o.cls=.type "StopIteration")->E (.ref e) {s with heap:=h'}):wpAny (model prog w) A (Builtin.SmallTypes.nextOf (.ref it)) Q E s:=by
 cases k with
 |true=>exact wpAny_nextOf_list_end h b n hx hE
 |false=>
  have a:=b;obtain⟨o,m,q,d⟩:=id a;obtain⟨p,j,_,r,c⟩:=(n:s.heap.IsTuple l its)
  refine wB (û a.typeIs ĺ (ö ĺ a.typeIs F.entry_tuple_iterator_next ?_ (F.args_tuple_iterator_next_1 _)));show wpAny _ _ (field _ 0 >>= _) _ _ s;refine wB (ġ m d (x:=.ref l) rfl ?_);refine wB (ġ m d rfl ?_);refine wB (wpAny_seqItems j c ?_);simp only[Ĕ,hx];refine wB (ı (wB (į m d (by simp) ?_)));refine wB ?_;refine wB (ÿ ?_ (by size_fits));refine wB (wpAny_of_eq (by first |rfl|(simp only[firstArgMember];rfl)) ?_);refine ÿ ?_ (by size_fits);simp only[raiseNew];refine wB (wpAny_handled ?_)
  first |rw[show A.in1.handled=none from h]|rw[h]
  refine wB (wP (wpAny_throw ?_));exact hE _ _ (((ċ ..).extBut.push _).push _) ⟨_,å _ rfl,rfl⟩
end
def Ti(k:Bool)(K:Q0)(H:Hp)(a:Addr)(xs:List V):Prop:=if k=true then SqL K H a xs else SqT K H a xs
section
def _root_.L2.Inv.seqK(I:↑2)(h:Ti k X.K H a xs): ∃its:List ŗ,Vals xs its/\HI k s.heap a its.toArray/\xs.length<=sizeLine:=by
 cases k with
 |true=>obtain⟨its,r,p,z⟩:=I.list h;exact⟨its,r,p.isList,z⟩
 |false=>obtain⟨its,r,p,z⟩:=I.tuple h;exact⟨its,r,p,z⟩
def _root_.L2.Inv.seqK_inj(I:↑2)(h:Ti k X.K H a xs)(h':Ti k X.K H a ys):xs=ys:=by
 cases k with
 |true=>exact I.list_inj h h'
 |false=>exact I.tuple_inj h h'
end
structure Sr where
 k:Bool
 ds:List MV
 gs:List (Nat×List MV)
noncomputable def srcOf(S:Sto):Er->Option Sr
 |.val (.tup ds)=>some ⟨false,ds,[]⟩
 |.new ds=>some ⟨true,ds,[]⟩
 |.val (.scr ds)=>some ⟨true,ds,[]⟩
 |.val (.loc l)=>match S[l]? with
  |some (.lst ds)=>some ⟨true,ds,[(l,ds)]⟩
  |_=>none
 |_=>none
structure SrcD(X:Cx)(q:Sr)(l:Addr)(P:List Addr->Sto->Hp->Prop):Prop where
 get: ∀α S H,P α S H-> ∃vs,Ti q.k X.K H l vs/\DenL X.K α H q.ds vs
 stays: ∀α1 S1 H1 α2 S2 H2,P α1 S1 H1->Ext α1 H1 α2 H2->Wd X.g α2 S2 H2->stay q.gs S2->P α2 S2 H2
 st: ∀α S H,P α S H->stay q.gs S
def Yq(F:Wd X.g α S H)(e:srcOf S r=some q)(d:DenX X.K α H r x): ∃l P,x=.ref l/\P α S H/\SrcD X q l P:=by
 unfold srcOf at e;split at e
 .rename_i o;cases e;obtain⟨a,c,rfl,s,l⟩:=lX d;exact⟨a,λα S H=> ∃c,_,rfl,⟨c,s,l⟩,λα S H h=>h,λk z v m A y ⟨c,i,j⟩ x w _=>⟨c,x.sqT i,j.ext x⟩,λ_ _ _ _=>fM⟩
 .rename_i o;cases e;obtain⟨b,c,rfl,h,n,l⟩:=d
  exact⟨b,λα S H=> ∃c,H b=some (.lst c)/\b∉α/\DenL X.K α H o c,rfl,⟨c,h,n,l⟩,λα S H ⟨c,i,_,j⟩=>⟨c,(SqL.of i:SqL X.K H b c),j⟩,
   λk z v m A y ⟨c,i,j,G⟩ x w _=>⟨c,x.keep b _ i j,x.out i j,G.ext x⟩,λ_ _ _ _=>fM⟩
 .rename_i o;cases e;obtain⟨a,c,rfl,s,l⟩:=OH d;exact⟨a,λα S H=> ∃c,SqF X.K H a c/\DenL X.K α H o c,rfl,⟨c,s,l⟩,λα S H ⟨c,i,j⟩=>⟨c,i.l,j⟩,λk z v m A y ⟨c,i,j⟩ x w _=>⟨c,x.sqF i,j.ext x⟩,λ_ _ _ _=>fM⟩
 .rename_i n;split at e
  .rename_i o B;cases e;obtain⟨a,rfl,h⟩:=sK d;obtain⟨c,i,j⟩:=F.obj n a _ h B;refine⟨a,λα S H=> ∃c,H a=some (.lst c)/\DenL X.K α H o c/\α[n]? =some a/\S[n]? =some _,rfl,⟨c,i,j,h,B⟩,λα S H ⟨c,i,j,_⟩=>⟨c,(SqL.of i:SqL X.K H a c),j⟩,?_,?_⟩
   .intro k z v m A y ⟨c,N,M,D,C⟩ x w hs;have u:=hs (n,o) (by simp);obtain⟨E,J,L⟩:=w.obj n a _ (x.at D) u;exact⟨E,J,L,x.at D,u⟩
   .intro α S H ⟨c,_,_,_,C⟩ p I;have:=by simpa using I
    subst this;exact C
  .cases e
 .cases e
noncomputable def pairs(xs a:U0):List MV:=List.zipWith (λx y=>.tup [x,y]) xs a
structure EnSt(k:Bool)(e it l:Addr)(i:Nat)(h:Heap):Prop where
 e: ∃old,IsEnum h e it i old
 s:IsSub k h it l i
section
variable{prog:Ř}{w:World}{A:Around}{i:Nat}
def Oj{Q:VP}(M:IsEnum s.heap e it i old)(H:IsSub k s.heap it l i)(Y:HI k s.heap l its)(hx:its[i]? =some x)(a:e≠it)
  (hQ: ∀h',IsEnumOut h' e it ( i +1) x ↑1->IsSub k h' it l (i+1)->h'.get? ↑1=some {cls:=.type "tuple",data:=.seq #[.int i s.toks,x]}->
   (∀b o,b≠e->b≠it->s.heap.get? b=some o->h'.get? b=some o)->Q (.ref ↑1) {s with heap:=h',toks:=s.toks+1}):
  wpAny (model prog w) A (Builtin.«enumerate.__next__» ⟨[.ref e],[]⟩) (λfin Z=> ∃v,fin=.done (.ret v)/\Q v Z) E s:=by
 obtain⟨r,g,d,m,os⟩:=s;show wpAny _ _ (field _ 2 >>= _) _ _ _;refine wB (ġ M rfl rfl (wB (Hn H Y hx λha K p=>?_)));have F:=(p.2 e a).trans M;refine wB (ġ F rfl rfl ?_);refine wB (ġ F rfl rfl ?_);show wpAny _ _ _ _ _ ⟨ha,g,d,m,os⟩;refine wB (wpAny_mkInt ?_);refine wB (Œ F (by simp) λhb S c=>?_)
 replace S:IsEnum hb e it _ old:=S
 refine wB (Œ S (by simp) λj D h=>?_)
 replace D:IsEnum j e it _ old:=D
 refine wB (wpAny_newTuple ?_);have y:j.objs.size=r.objs.size:=by rw[h.1,c.1,p.1]
 have B:IsEnum (j.push {cls:=.type "tuple",data:=.seq #[.int i m,x]}) e it _ old:=hP0 _ D;have U:(j.push {cls:=.type "tuple",data:=.seq #[.int i m,x]}).get? r.objs.size=some {cls:=.type "tuple",data:=.seq #[.int i m,x]}:=by rw[<-y];exact å _ rfl
 have kd: ∀b o,b≠e->b≠it->r.get? b=some o->(j.push {cls:=.type "tuple",data:=.seq #[.int i m,x]}).get? b=some o:=λb o z L q=>
  hP0 _ (h.extBut b o z (c.extBut b o z (p.extBut b o L q)))
 have W:IsSub k (j.push {cls:=.type "tuple",data:=.seq #[.int i m,x]}) it l _:=K.move λo q=>hP0 _ (h.extBut _ o (Ne.symm a) (c.extBut _ o (Ne.symm a) q));generalize j.push {cls:=.type "tuple",data:=.seq #[.int i m,x]}=hd at B U kd W ⊢;rw[y];refine wB ?_;refine wB (ġ B rfl rfl (wP ?_));refine wB (ı (wB (ġ B rfl rfl (wB (Œ B (by simp) λX C N=>?_)))))
 replace C:IsEnum X e it _ x:=C
 refine wB ?_;refine wB (Œ C (by simp) λG O J=>?_)
 replace O:IsEnumOut G e it _ x r.objs.size:=O
 refine Œ O (by simp) λu I P=>?_
 replace I:IsEnumOut u e it _ x r.objs.size:=I
 have T:=λb o n q=>P.extBut b o n (J.extBut b o n (N.extBut b o n q));exact wB (wpAny_letGo (wP ⟨_,rfl,hQ u I (W.move λo q=>T _ o (Ne.symm a) q) (T _ _ (ĕ (â M)) U) λb o z L q=>T b o z (kd b o z L q)⟩))
end
def MG(K:Q0)(F:List MV->Sto->R Er):Sp:=λb H Q _=> ∃a,DenL K [] H a b/\a.length=1/\ ∀g:Gm,g.K=K->Post g W0 [] H (F a []) Q
def Ho: ∀vs H Q E,MG g.K F vs H Q E->KM g 1 F vs H Q E:=λvs H Q E ⟨b,l,c,q⟩=>⟨[],[],b,⟨rfl,by simp,λl a o h=>by simp at h⟩,l,c,q g rfl⟩
def Yr{K:Q0}(b:Gc H)(h:SqL K H a xs):SqF K H a xs:=by
 rcases h with(h|⟨o,h⟩)|h
 .rcases b a with z|⟨o,ys,z⟩
  .rw[z]at h;cases h
  .rw[z]at h;cases h
 .exact .inl ⟨o,h⟩
 .exact .inr h
theorem wV(b)(S)(k:β->Sto->R γ):(R.ok b S).bind k=k b S:=by exact Eq.trans (R.bind_ok b S k) rfl
theorem Ol(d)(S):Mu (some (some d)) S=.ok (.val d) S:=rfl
theorem HL:EQ S (S++T):=⟨by rw[lA];lia,λl a=>.inl (æ a)⟩
def xA(n)(i):lo n (.int i):=by unfold lo;trivial
def pE(n)(i):lo n (.str i):=by unfold lo;trivial
def Tj(n)(i):lo n (.bl i):=by unfold lo;trivial
def yP(h:CS n ds):lo n (.tup ds):=by unfold lo;exact h
theorem yB: ∀{ds},(∀d∈ds,lo n d)->CS n ds
 |[],_=>by unfold CS;trivial
 |d::ds,h=>by unfold CS;exact⟨h d mF0,yB λe j=>h e (mO _ j)⟩
theorem Ht(b:↑0<=l)(a:(S++T)[l]? =some (.lst ds))(h:CS ↑0 ds):nN S (.val (.loc l)) (S++T)=.ok (.new ds) S:=by
 unfold nN;rw[iP HL];have e:(S++T).take ↑0=S:=by simp
 dsimp only;rw[iN #[0],a];dsimp only;rw[iP h,e]
def wW(a:rs.length=n)(b:F (zM rs S).1 (zM rs S).2=.ok (.val d) (S++T))(h:lo ↑0 d)(c: ∀l,d≠.loc l):zG n F rs S=.ok (.val d) S:=by unfold zG;rw[iP a,b];exact (show nN S (.val d) (S++T)=.ok (.val d) S by
  unfold nN;rw[iP HL];have e:(S++T).take ↑0=S:=by simp
  cases d with
  |loc l=>exact absurd rfl (c l)
  |_=>dsimp only;rw[iP h,e])
def lZ(a:rs.length=n)(b:F (zM rs S).1 (zM rs S).2=.ok (.new ds) (S++T))(h:CS ↑0 ds):zG n F rs S=.ok (.new ds) S:=by unfold zG;rw[iP a,b];exact (show nN S (.new ds) (S++T)=.ok (.new ds) S by
  unfold nN;rw[iP HL];have e:(S++T).take ↑0=S:=by simp
  dsimp only;rw[iP h,e])
def cQ(a:rs.length=n)(b:F (zM rs S).1 (zM rs S).2=.ok (.val d) S)(h:lo ↑0 d)(c: ∀l,d≠.loc l):zG n F rs S=.ok (.val d) S:=wW a (by rw[aN];exact b) h c
theorem RW{L:U0}(I:Nat->Rho->Sto->Prop)
  (st: ∀i d,L[i]? =some d-> ∀j S,I i j S-> ∃ρ' S',((gf d j S).bind λm q=>body m q)=.ok (.next ρ') S'/\stay gs S'/\I (i+1) ρ' S'):
  ∀ n i {j}{S},n+i=L.length->I i j S-> ∃ρ' S',nU gf body gs (L.drop i) j S=.ok (.next ρ') S'/\I L.length ρ' S'
 |0,i,j,S,hn,h=>by
  have e:i=L.length:=by lia
  subst e;rw[drop_length];exact⟨j,S,rfl,h⟩
 |n+1,i,j,S,hn,h=>by
  have hi:i<L.length:=by lia
  obtain⟨p,r,e,hs,o⟩:=st i L[i] (gE hi) j S h;obtain⟨a,k,s,b⟩:=RW I st n _ #[0] o;refine⟨a,k,?_,b⟩;rw[Ī hi];unfold nU
  cases z:gf L[i] j S with
  |ok m q=>
   rw[z]at e;have e:body m q=.ok _ r:=e;show(body m q).bind _=_;rw[e,wV];dsimp only;rw[iP hs];exact s
  |exc c fs q=>rw[z]at e;cases e
  |no=>rw[z]at e;cases e
theorem vB(I:Nat->Rho->Sto->Prop)
  (st: ∀i d,L[i]? =some d-> ∀j S,I i j S-> ∃ρ' S',((gf d j S).bind λm q=>body m q)=.ok (.next ρ') S'/\stay gs S'/\I (i+1) ρ' S')   (h:I 0 j S):
  ∃ρ' S',nU gf body gs L j S=.ok (.next ρ') S'/\I L.length ρ' S':=RW I st L.length 0 #[0] h
section
theorem U3(b)(S):gV (.val (.bl b)) S=.ok b S:=rfl
theorem as_int(i)(S):Co (.val (.int i)) S=.ok (some i) S:=rfl
theorem Ys(b)(S):oB (.val (.bl b)) S=.ok b S:=rfl
theorem add_int(i j)(S):gT (.val (.int i)) (.val (.int j)) S=.ok (.val (.int (i+j))) S:=rfl
theorem sub_int(i j)(S):Hb (.val (.int i)) (.val (.int j)) S=.ok (.val (.int (i - j))) S:=rfl
def add_str(h:x.length+y.length<=sizeLine):gT (.val (.str x)) (.val (.str y)) S=.ok (.val (.str (x++y))) S:=iP h
theorem Yt(i j)(S):zAB g (.val (.int i)) (.val (.int j)) S=.ok (.val (.bl (g i j))) S:=rfl
def Om(i j):eqV (.int i) (.int j)=decide (i=j):=by
 show(i==j)=_;by_cases h:i=j
 .subst h;simp
 .rw[dF0 h];simpa using h
def On(x y):eqV (.str (nL x)) (.str (nL y))=decide (x=y):=by
 show(nL x==nL y)=_;by_cases h:x=y
 .subst h;simp
 .rw[dF0 h];have:=λz=>h (FW z);simpa using this
theorem AB(n)(i j):eqv S (n+1) (.int i) (.int j)=some (decide (i=j)):=by rw[<-Om];rfl
theorem iR(n)(x y):eqv S (n+1) (.str x) (.str y)=some (decide (x=y)):=by rw[<-On];rfl
theorem Yu(n)(x)(y):eqv S (n+1) (.int x) (.str y)=some false:=rfl
theorem Yv(n)(x)(y):eqv S (n+1) (.str x) (.int y)=some false:=rfl
theorem Oo(d f):iK (.val d) (.val f) S=match eqv S (zH+1) d f with |some k=>.ok (.val (.bl k)) S|none=>.no:=rfl
theorem Oq(d f):ME (.val d) (.val f) S=match eqv S (zH+1) d f with |some k=>.ok (.val (.bl !k)) S|none=>.no:=rfl
def WJ(h:eqv S (zH+1) d f=some k):iK (.val d) (.val f) S=.ok (.val (.bl k)) S:=by rw[Oo,h]
def sP(h:eqv S (zH+1) d f=some k):ME (.val d) (.val f) S=.ok (.val (.bl !k)) S:=by rw[Oq,h]
def eq_int(i j)(S):iK (.val (.int i)) (.val (.int j)) S=.ok (.val (.bl (decide (i=j)))) S:=WJ (AB _ i j)
def ne_int(i j)(S):ME (.val (.int i)) (.val (.int j)) S=.ok (.val (.bl (!decide (i=j)))) S:=sP (AB _ i j)
theorem lt_int(i j)(S):WD (.val (.int i)) (.val (.int j)) S=.ok (.val (.bl (decide (i<j)))) S:=rfl
theorem lt_str(i j)(S):WD (.val (.str i)) (.val (.str j)) S=.ok (.val (.bl (decide (i<j)))) S:=rfl
theorem AC(h:0<b)(d:b<1073741824)(a)(S):KW (.val (.int a)) (.val (.int b)) S=.ok (.val (.int (a / b))) S:=by
 refine iP ⟨h,?_⟩;have c:b.natAbs<2 ^ 30:=by omega
 have:=(Nat.log2_lt (by omega:b.natAbs≠0)).mpr c
 lia
def mod_lit(h:0<b)(a)(S):FP (.val (.int a)) (.val (.int b)) S=.ok (.val (.int (a % b))) S:=iP h
def YZ(h: -(2 ^ 64)<b/\b<2 ^ 64)(a)(S):qA (.val (.int a)) (.val (.int b)) S=.ok (.val (.int (a * b))) S:=iP (Or.inr (Or.inl h))
def AD(h: -(2 ^ 64)<a/\a<2 ^ 64)(b)(S):qA (.val (.int a)) (.val (.int b)) S=.ok (.val (.int (a * b))) S:=iP (Or.inl h)
theorem Os(ρ)(i)(d)(S):HC ρ i (.val d) S=.ok (.next (ρ.set i (some d))) S:=rfl
theorem Ot(ρ)(i)(ds)(S):HC ρ i (.new ds) S=.ok (.next (ρ.set i (some (.loc ↑0)))) (S++[.lst ds]):=rfl
theorem Ou(S):zM [] S=([],S):=rfl
theorem Ov(d)(rs)(S):zM (.val d::rs) S=(d::(zM rs S).1,(zM rs S).2):=rfl
theorem zA(h:F ρ S=.ok (.next ρ') S'):zL F G ρ S=G ρ' S':=by unfold zL;rw[h];rfl
theorem yI(h:F ρ S=.ok (.ret r) S'):zL F G ρ S=.ok (.ret r) S':=by unfold zL;rw[h];rfl
def xO(S):stay [] S:=fM
def mE(a:gf d ρ S=.ok ρ0 S0)(h:b ρ0 S0=.ok (.next ρ') S')(hs:stay gs S'):nU gf b gs (d::ds) ρ S=nU gf b gs ds ρ' S':=by
 conv=>lhs;unfold nU
 rw[a,wV,h,wV];dsimp only;rw[iP hs]
def AG(a:gf d ρ S=.ok ρ0 S0)(h:b ρ0 S0=.ok (.ret r) S'):nU gf b gs (d::ds) ρ S=.ok (.ret r) S':=by
 conv=>lhs;unfold nU
 rw[a,wV,h,wV]
def WK(a:t ρ S=.ok true S1)(c:b ρ S1=.ok (.next ρ') S2):lY t b (n+1) ρ S=lY t b n ρ' S2:=by
 conv=>lhs;unfold lY
 rw[a,wV,iP rfl,c,wV]
def Cz(a:t ρ S=.ok false S1):lY t b (n+1) ρ S=.ok (.next ρ) S1:=by
 conv=>lhs;unfold lY
 rw[a,wV,iN xF0]
theorem nZ(b:0<=i)(a:i<xs.length): ∃c,qN xs i=some c:=by refine⟨xs[i.toNat]'#[0],?_⟩;unfold qN RJ;rw[iP b,iP a];exact gE _
theorem Ow(b: - xs.length <=i)(a:i<xs.length): ∃c,qN xs i=some c:=by
 by_cases h:0<=i
 .exact nZ h a
 .refine⟨xs[(i+xs.length).toNat]'#[0],?_⟩;unfold qN RJ;rw[iN h,iP b];exact gE _
def aB{P:α->Prop}(h: ∀e∈xs,P e)(z:qN xs i=some e):P e:=by
 unfold qN at z
 cases q:RJ xs.length i with
 |none=>rw[q]at z;cases z
 |some j=>rw[q]at z;exact h e (á z)
def ix_str(h:x.length<=sizeLine)(a:qN x i=some c):zV (.val (.str x)) (.val (.int i)) S=.ok (.val (.str [c])) S:=by show(if x.length<=sizeLine then match qN x i with |some c=>R.ok _ S|none=>.no else .no)=_;rw[iP h,a]
def ix_tup(a:qN ds i=some d):zV (.val (.tup ds)) (.val (.int i)) S=.ok (.val d) S:=by show(match qN ds i with |some d=>R.ok _ S|none=>.no)=_;rw[a]
def HM(a:qN ds i=some d):zV (.new ds) (.val (.int i)) S=.ok (.val d) S:=by show(match qN ds i with |some d=>R.ok _ S|none=>.no)=_;rw[a]
def sQ(a:S[l]? =some (.lst ds))(b:qN ds i=some d):zV (.val (.loc l)) (.val (.int i)) S=.ok (.val d) S:=by
 have e:wI S (.val (.loc l))=some ds:=by unfold wI;dsimp only;rw[a]
 show(match wI S _ with |some ds=>getL ds _ S|none=>.no)=_;rw[e];show(match qN ds i with |some d=>R.ok _ S|none=>.no)=_;rw[b]
def ZA(a:S[l]? =some (.lst ds)):iQ [.val (.loc l)] S=.ok (.val (.int ds.length)) S:=by
 have b:itemsOf S (.val (.loc l))=some ds:=by unfold itemsOf;exact(by unfold wI;dsimp only;rw[a])
 show(match itemsOf S _ with |some ds=>R.ok _ S|none=>.no)=_;rw[b]
def dB(a:S[l]? =some (.lst ds)):wI S (.val (.loc l))=some ds:=by unfold wI;dsimp only;rw[a]
def dC(a:S[l]? =some (.lst ds)):HE (.val (.loc l)) S=.ok ⟨ds,[(l,ds)]⟩ S:=by unfold HE;dsimp only;rw[a]
def jW(a:S[l]? =some (.lst ds)):stay [(l,ds)] S:=λp b=>by
 have:=by simpa using b
 subst this;exact a
def fW(h: -(2 ^ 62)<=j/\j<2 ^ 62):iI [.val (.int j)] S=.ok ⟨(List.range j.toNat).map λk=>.int (k:Nat),[]⟩ S:=iP h
def cut_str(h:x.length<=sizeLine)(lo hi):uE (.val (.str x)) lo hi S=.ok (.val (.str (gX x lo hi))) S:=iP h
def RX{lo:O0}(h:a∈gX x lo hi):a∈x:=mem_of_mem_drop (ī h)
def HN(f:α->β)(x)(lo hi):gX (x.map f) lo hi=(gX x lo hi).map f:=by unfold gX;rw[lM,map_take,map_drop]
def fits(h:n<=1000000):n<=sizeLine:=by rw[Ď];exact ï h ↑4
def vC(h:rs.length<=1000000):cN rs S=.ok (.new (zM rs S).1) (zM rs S).2:=iP (fits h)
def qU(h:rs.length<=1000000):wH rs S=.ok (.val (.tup (zM rs S).1)) (zM rs S).2:=iP (fits h)
def Da(S):cN [] S=.ok (.new []) S:=vC (by simp)
def Yw(a)(S):cN [.val a] S=.ok (.new [a]) S:=vC (by simp)
def U5(a b)(S):cN [.val a,.val b] S=.ok (.new [a,b]) S:=vC (by simp)
def U6(a b c)(S):cN [.val a,.val b,.val c] S=.ok (.new [a,b,c]) S:=vC (by simp)
def lst6(a b c d e f)(S):cN [.val a,.val b,.val c,.val d,.val e,.val f] S=.ok (.new [a,b,c,d,e,f]) S:=vC (by simp)
def tup2(a b)(S):wH [.val a,.val b] S=.ok (.val (.tup [a,b])) S:=qU (by simp)
def tup3(a b c)(S):wH [.val a,.val b,.val c] S=.ok (.val (.tup [a,b,c])) S:=qU (by simp)
theorem Yx(i)(S):qT [.val (.int i),.val (.typ "str")] S=.ok (.val (.bl false)) S:=rfl
theorem Yy(i)(S):qT [.val (.str i),.val (.typ "str")] S=.ok (.val (.bl true)) S:=rfl
theorem Yz(i)(S):qT [.val (.int i),.val (.typ "tuple")] S=.ok (.val (.bl false)) S:=rfl
theorem Zb(i)(S):qT [.val (.str i),.val (.typ "tuple")] S=.ok (.val (.bl false)) S:=rfl
theorem Zc(i)(S):qT [.val (.tup i),.val (.typ "tuple")] S=.ok (.val (.bl true)) S:=rfl
theorem Zd(i)(S):qT [.val (.bl i),.val (.typ "bool")] S=.ok (.val (.bl true)) S:=rfl
theorem RY{P:MV->Prop}(hs:stay gs S):
  ∀{ds},(∀d∈ds, ∃j y,gf d ρb S=.ok j S/\cf j S=.ok true S/\ef j S=.ok (.val y) S/\P y)-> ∃out,yD gf cf ef ρb gs ds S=.ok out S/\out.length=ds.length/\ ∀o∈out,P o
 |[],_=>⟨[],rfl,rfl,λo h=>by simp at h⟩
 |d::ds,st=>by obtain⟨j,y,v,m,q,u⟩:=st d mF0;obtain⟨out,e,c,a⟩:=RY hs λd b=>st d (mO _ b);refine⟨_,?_,by rw[lC,lC,c],λo i=>(mC.mp i).elim (λz=>z▸u) (a o)⟩;unfold yD;rw[v,yC,wV,m,yC,wV,q,yC,wV];unfold nT;rw[wV,iP hs,e];rfl
theorem MH(hs:stay gs S):
  ∀{ds},(∀d∈ds, ∃j,gf d ρb S=.ok j S/\cf j S=.ok false S)->yD gf cf ef ρb gs ds S=.ok [] S
 |[],_=>rfl
 |d::ds,st=>by obtain⟨j,q,m⟩:=st d mF0;have e:=MH hs (ef:=ef) λd a=>st d (mO _ a);unfold yD;rw[q,yC,wV,m,yC,wV,iN xF0,iP hs,e]
def Nm(x:Db):Prop:=1<=x.length/\x.length<=8/\ ∀c∈x,97<=c/\c<=122
def Vl:MV->Prop
 |.int i=> -(10 ^ 30)<i/\i<10 ^ 30
 |.str x=>Nm x
 |_=>False
def Vl.cases(h:Vl d):(∃i,d=.int i/\ -(10 ^ 30)<i/\i<10 ^ 30)\/ ∃x,d=.str x/\Nm x:=by
 cases d with
 |int i=>exact .inl ⟨i,rfl,h⟩
 |str x=>exact .inr ⟨x,rfl,h⟩
 |_=>exact h.elim
def Vl.lo(h:Vl d)(n):lo n d:=by
 rcases h.cases with⟨i,rfl,_⟩|⟨x,rfl,_⟩
 .exact xA n i
 .exact pE n x
end
def Ite(K:Q0)(k:Bool)(l:Addr):It:=
 ⟨λi H=> ∃xs x,Ti k K H l xs/\xs[i]? =some x,
   λi H v H'=> ∃p x,H p=none/\v=.ref p/\H'=wG H p (.tup [.int (i:Nat),x])/\(∀xs,Ti k K H l xs->xs[i]? =some x),
   λi H=> ∃xs,Ti k K H l xs/\xs.length<=i⟩
section
variable{s:Ŗ}
def Dc(j:HI k s.heap l its)
  (h: ∀h',EnSt k (↑1+1) ↑1 l 0 h'->(∀c o,s.heap.get? c=some o->h'.get? c=some o)->Q (.ref (↑1+1)) {s with heap:=h'}):
  wpAny (model prog w) A (call (.type "enumerate") [.ref l]) Q E s:=by
 refine callType_new F.called_enumerate ↑4 (F.typeCall_enumerate_1 _) (F.newCall_enumerate_1 _) (λi=>F.args_object_init_2 i _) F.entry_enumerate_new ((show Meets (Builtin.«enumerate.__new__» ⟨[.type "enumerate",.ref l],[]⟩) (λ_ R s=>HI k s.heap l its/\
   R (.ok (.ret (.ref (↑1+1)))) {s with heap:=(s.heap.push (OS k l)).push {cls:=.type "enumerate",data:=.fields #[.none,.bool false,.ref ↑1,rawInt 0,.none,.none]}}) from .of_wp λprog w A R s h=>by
    obtain⟨q,g,d,p,r⟩:=s;obtain⟨j,h⟩:=h;have m:=sub_enumerate;have e:=j;have a: ∀(h:Heap)(o:Obj),(h.push o).objs.size=h.objs.size+1:=λh o=>Ė ..
    wp_walk
    refine wpAny_stack_any λst=>wP ?_;split
    .rename_i c _ _ _ _ _;cases (c==Value.type "enumerate")
     .wp_walk using HK e
      exact⟨_,rfl,by simp only[a];exact h⟩
     .wp_walk using HK e
      exact⟨_,rfl,by simp only[a];exact h⟩
    .wp_walk using HK e
     exact⟨_,rfl,by simp only[a];exact h⟩)) ⟨j,?_⟩;have n:=by have:=å (s.heap.push (OS k l)) (o:={cls:=.type "enumerate",data:=.fields #[.none,.bool false,.ref ↑1,rawInt 0,.none,.none]}) rfl;rw[(Ė ..)]at this;exact this
 refine⟨⟨_,n,rfl⟩,h _ ⟨⟨_,n⟩,IsSub.mk' (hP0 _ (å _ rfl))⟩ λb o x=>hP0 _ (hP0 _ x)⟩
end
theorem De{K:Q0}(hne:e≠it):
  Turn P w K (.Tuple elts kt pt) (Ite K k l) [e,it] e (λi h=>EnSt k e it l i h) where
 mem:=by simp
 obj:=λi h st b hb=>by
  obtain⟨⟨old,he⟩,hs⟩:=st;rcases (by simpa using hb)with rfl|rfl
  .exact⟨_,he,λv q=>by cases q⟩
  .exact hs.there
 keep:=λi h h' st kk=>by obtain⟨⟨old,he⟩,hs⟩:=st;exact⟨⟨old,kk e (by simp) _ he⟩,hs.move λo q=>kk it (by simp) o q⟩
 item:=by
  intro X hP hw hK hc i pins s σ H E I hf st hg;subst hP hw hK;obtain⟨xs,x,q1,hx⟩:=hg;obtain⟨its,r1,p1,_⟩:=I.seqK q1;obtain⟨u,hu,ru⟩:=r1.get hx;obtain⟨⟨old,he⟩,hs⟩:=st;have hT:s.TypeIs (.ref e) "enumerate":=⟨_,he,rfl⟩
  refine wB (Ő (û hT F.slot_enumerate_next (ö F.slot_enumerate_next hT F.entry_enumerate_next
   (Oj he hs p1 (by simpa using hu) hne λh' a1 a2 a3 a4=>wP ⟨_,rfl,?_⟩) (F.args_enumerate_next_1 _))))
  refine wpAny_letOwnedTupleGo_enum a1 λh2 z2 sb2=>?_
  have I0:Inv X pins σ _ {s with heap:=s.heap.push {cls:=.type "tuple",data:=.seq #[.int i s.toks,u]},toks:=s.toks+1}:=
   I.laid (o:=.tup [.int _,x]) (λb o e=>hP0 _ e) (à _) ⟨by show 2<=sizeLine;decide,_,.cons ⟨_,rfl⟩ (.cons ru .nil),⟨_,å _ rfl,rfl,_,rfl⟩⟩
  have lt: ∀b∈[e,it],b<s.heap.objs.size:=λb hb=>by
   rcases (by simpa using hb)with rfl|rfl
   .exact â he
   .obtain⟨o,eo,_⟩:=hs.there;exact â eo
  have fr: ∀b∈[e,it],wG H ↑1 (.tup [.int (i:Nat),x]) b=none:=λb hb=>by rw[zO (è (lt b hb))];exact(hf b hb).1
  have mv: ∀b o,b∉[e,it]->(s.heap.push {cls:=.type "tuple",data:=.seq #[.int i s.toks,u]}).get? b=some o->h2.get? b=some o:=λb o hb eo=>by
   simp only[mC,nM,or_false,not_or]at hb;refine sb2.extBut _ _ hb.1 ?_;by_cases hbs:b=↑1
   .subst hbs;rw[å _ rfl]at eo;cases eo;exact a3
   .rw[Heap.get?_push_ne _ _ _ hbs]at eo;exact a4 b o hb.1 hb.2 eo
  refine⟨.ref ↑1,_,(I0.turnedL (t':=s.toks+1) mv λb hb=>let ⟨_,c2,c3,c4,c5,c6⟩:=hf b hb;⟨fr b hb,c2,c3,c4,c5,c6⟩),rfl,⟨_,x,(I.hok.fresh (à _)),rfl,rfl,λzs hz=>?_⟩,⟨⟨u,?_⟩,?_⟩,fr⟩
  .rw[I.seqK_inj hz q1];exact hx
  .simpa using z2
  .exact a2.move λo eo=>sb2.extBut _ _ (Ne.symm hne) eo
 done:=by
  intro X hP hw hK hc i pins s σ H E I hf st hg;subst hP hw hK;obtain⟨xs,q1,hx⟩:=hg;obtain⟨its,r1,p1,_⟩:=I.seqK q1;obtain⟨⟨old,he⟩,hs⟩:=st;have hT:s.TypeIs (.ref e) "enumerate":=⟨_,he,rfl⟩
  have e1:=r1.length;refine wB (Ő (û hT F.slot_enumerate_next (ö F.slot_enumerate_next hT F.entry_enumerate_next ?_ (F.args_enumerate_next_1 _))));show wpAny _ _ (field _ 2 >>= _) _ _ _;refine wB (ġ he rfl rfl ?_);refine wB (Oh (I.ok.hd hc) hs p1 (by simp;lia) λh' x hk hx'=>?_);obtain⟨o,ho,hcl⟩:=hx';refine wB (ń ⟨o,ho,hcl⟩ isSubtype_stop (wP ⟨rfl,?_⟩));refine I.turnedL (λb o hb eo=>?_) hf;simp only[mC,nM,or_false,not_or]at hb;exact hk b o hb.2 eo
 self:=λ_ _ _ _ _ st h=>let ⟨⟨_,he⟩,_⟩:=st;wpAny_pyIter_enum he h
def U7(K:Q0)(c:TA):TI:=λσ H R=>c σ H λb a=> ∃k l,b=[.ref l]/\(∃xs,Ti k K a l xs)/\R (Ite K k l) a
section
variable{a:Expr}{p:Pos}
def Ox(o:Gl X "enumerate")(z:X.mg "enumerate"=none)(v:PA X [a] ta)(hs:starEach [a] X.env=[(false,eval a X.env)]:=by rfl):
  PI X (.Tuple elts kt pt) (.Call (.Name "enumerate" p) [a] [] pos) (U7 X.K ta):=by
 intro pins s σ H R I h;refine Call_ (CG I o z (show bootBuiltins "enumerate"=some (.type "enumerate") by decide+kernel) (ĳ (jU (v pos pins s σ H _ I h) λA w ⟨B,u,I1,e,d⟩=>?_) (by rw[hs];rfl) (by rfl)));obtain⟨k,l,rfl,⟨xs,i⟩,q⟩:=d
 cases e with
 |cons r rr=>
  cases rr;cases r;obtain⟨m,C,p1,_⟩:=I1.seqK i;refine Dc p1 λh' st j=>let ⟨⟨_,y⟩,_⟩:=id st;wpAny_pyIter_enum y ?_;refine⟨_,_,_,_,u,rfl,(I1.kept j),De (ĕ (ć _)),st,λb n=>?_,q⟩;have c:w.heap.objs.size<=b:=by rcases (by simpa using n)with h|h<;>rw[h]<;>(first |exact à _|exact Nat.le_add_right _ _)
  exact I1.fpOk c (I1.hok.fresh c)
noncomputable def RZ(xs:U0):List MV:=xs.zipIdx.map λp=>.tup [.int (p.2:Nat),p.1]
def ZC(rs:List Er)(S:Sto):R Wk:=match rs with
 |[p]=>match srcOf S p with
  |some a=>.ok ⟨RZ a.ds,a.gs⟩ S
  |none=>.no
 |_=>.no
theorem Oy(Q:Gl X "enumerate")(hm:X.mg "enumerate"=none)(y:MA X W [a] af)(hs:starEach [a] X.env=[(false,eval a X.env)]:=by rfl):
  VZ X W (.Tuple elts kt pt) (.Call (.Name "enumerate" p) [a] [] pos) (λv S=>(af v S).bind ZC):=by
 obtain⟨t,y,k⟩:=y;refine⟨_,Ox Q hm y hs,λα v S σ H Rc K sl q=>k α v S σ H _ K sl (q.bind λvs rs S1 j L e N E d1 b=>?_)⟩
 replace b:=b.shift N
 unfold ZC at b;split at b
 .rename_i r1;split at b
  .rename_i z P;obtain⟨u,rfl,J⟩:=MC d1;obtain⟨T,Y,rfl,p1,c⟩:=Yq E P J;have G:(RZ z.ds).length=z.ds.length:=by unfold RZ;rw[lM,length_zipIdx]
   refine⟨z.k,T,rfl,⟨_,(c.get _ _ _ p1).choose_spec.1⟩,b.here E ⟨λα S H=>Y α S H,?_,p1,?_,?_⟩⟩
   .intro i n O M h C;obtain⟨m,r,B⟩:=c.get _ _ _ h;have hl:=B.length;refine⟨λhi=>?_,λhi=>?_⟩
    .have hi:=hi;refine⟨⟨m,_,r,gE #[0]⟩,?_⟩;rintro x H' ⟨pp,D,A,rfl,rfl,I⟩;obtain⟨d,U,Z⟩:=B.get (I m r);have s:=C.newx (o:=.tup [.int (i:Nat),D]) A;have F:=C.new (o:=.tup [.int (i:Nat),D]) A;refine⟨s,F,c.stays _ _ _ _ _ _ h s F (c.st _ _ _ h),.tup [.int (i:Nat),d],?_,?_⟩
     .unfold RZ;rw[ì,List.getElem?_zipIdx,U];simp
     .exact qQ (.of yN) (yE (kX _) (yE (Z.ext s) yK))
    .have hi:=hi;exact⟨m,r,by lia⟩
   .intro j S1 L n O M h x w hs;exact c.stays _ _ _ _ _ _ h x w hs
   .exact c.st _ _ _ p1
  .exact b.elim
 .exact b.elim
end
instance:DecidableEq MV:=λ_ _=>Classical.propDecidable _
def look(a:zA0)(k:MV):Option MV:=(a.find? λp=>decide (p.1=k)).map (·.2)
def putK(a:zA0)(k d:MV):List (MV×MV):=if(look a k).isSome=true then a.map (λp=>if p.1=k then(p.1,d)else p)else a++[(k,d)]
section
def DD(X:Cx)(H:Hp)(d:Addr)(xs:List (NK×Addr×ŗ)):Prop:=H d=some (DN X.prog X.w d xs)\/(xs=[]/\H d=some (.dK []))
def DD.nf(h:DD X H d xs): ∀ob u,H d≠some (.frz ob u):=h.elim (λz=>Ta z) λz=>by first |exact Ta z.2|exact z.elim
def DA(p)(kvs)(k):look (p::kvs) k=if p.1=k then some p.2 else look kvs k:=by
 unfold look;rw[find?_cons];by_cases h:p.1=k
 .rw[dT0 h,iP h];rfl
 .rw[dF0 h,iN h]
end
section
variable{X:Cx}
theorem Wd.put(w:Wd gg α S H)(i:H p=none)(q:ObD gg (α++[p]) (wG H p ho) p m):Ext α H (α++[p]) (wG H p ho)/\Wd gg (α++[p]) (S++[m]) (wG H p ho):=by
 have x:=w.newx (o:=ho) i;refine⟨⟨⟨⟨[p],rfl⟩,x.tup,x.frz⟩,λb s=>?_,x.keep,x.has⟩,⟨?_,?_,λl c ob d e=>?_⟩⟩
 .rcases é.mp s with h|h
  .exact .inl h
  .rw[mS.mp h];exact .inr i
 .rw[lA,lA,w.len];rfl
 .exact nodup_append.mpr ⟨w.nd,by simp,λa n c r=>by rw[mS.mp r];rintro rfl;exact(w.fresh i) n⟩
 .by_cases k:l<α.length
  .rw[æ k]at d;rw[æ (by rw[<-w.len];exact k)]at e;exact((w.new (o:=ho) i).obj l c ob d e).move (Ex0.grow α [p] _) rfl
  .have j:l=α.length:=by
    have:=(gS.mp d).1;rw[lA,lS]at this
    lia
   subst j;rw[ð (à _),sub_self]at d;rw[ð (by rw[w.len];exact à _),w.len,sub_self]at e;cases d;cases e;exact q
noncomputable def U8(S:Sto):R Er:=.ok (.val (.loc ↑0)) (S++[.dic []])
def DenN.length: ∀{d xs},DenN X.K α H d xs->xs.length=d.length:=λa=>by
 induction a with
 |nil=>exact rfl
 |cons _ _ _ _ _ l ih=>exact by rw[lC,lC,ih]
end
def FsD(g:Gm)(α:B9)(H:Hp)(d:Option Addr)(fs:List (Str×MV)):Prop:=fs=[]\/ ∃b a c,d=some b/\H b=some (.frz c (.xd a))/\DenF g.K α H fs a
abbrev WE(g:Gm)(E:XK):XW:=λc fs _ α H=> ∀C d,g.mg c=some (.ref C)->FsD g α H d fs->E (.ref C) d H
noncomputable def Zf:MV->Bool
 |.non=>true
 |.bl _=>true
 |.int _=>true
 |.str _=>true
 |_=>false
def Post.wmono[Dn β τ](f: ∀c fs S α' H',W c fs S α' H'->W' c fs S α' H'): ∀{m:R β}{Q},Post g W α H m Q->Post g W' α H m Q
 |.ok b S,Q,q=>q
 |.exc c fs S,_,q=>λα' H' x w=>f _ _ _ _ _ (q α' H' x w)
 |.no,_,q=>q
def XCl(K:Q0)(C:Addr)(d:A0)(a:Option ŗ):Prop:=
 ∃k q N bs c i sub j b p o r e m h,K.lookup C=some (excClassObj k q C N bs d c i sub j b p o r e m h "ValueError.__new__")/\PySem.W.nsOkIn K N=true/\PySem.W.nsIn K N "__init__"=some a/\(∀n∈qn,PySem.W.nsIn K N n=some none)/\c=true
def XEach(K:Q0)(mg:L0)(M:Addr):List (Str×Addr)->Prop
 |[]=>True
 |(c,C)::r=>(mg c=some (.ref C)/\ ∃i,XCl K C (.ref M::Z9) i)/\XEach K mg M r
theorem XEach.at{K:Q0}: ∀{d},XEach K mg M d-> ∀{c C},(c,C)∈d->mg c=some (.ref C)/\ ∃i,XCl K C (.ref M::Z9) i
 |_::r,h,c',C',z=>by
  rcases mC.mp z with z|z
  .cases z;exact h.1
  .exact XEach.at h.2 z
def zAC(g:Gm)(n:Nat)(F:List MV->Sto->R Er):Sp:=λb H Q E=> ∃α S a,Wd g α S H/\DenL g.K α H a b/\a.length=n/\Post g (WE g E) α H (F a S) Q
def ZD(n:Nat)(F:List MV->Sto->R Er)(rs:List Er)(S:Sto):R Er:=if rs.length=n then(match F (zM rs S).1 (zM rs S).2 with
 |.ok r S2=>nN S r S2
 |.exc c fs S2=>if fs.all (λp=>Zf p.2)=true then(nN S (.val .non) S2).bind λ_ a=>.exc c fs a else .exc c fs S2
 |.no=>.no)else .no
section
variable{K:Q0}
def _root_.L2.FnOk.noX(G:FnOk P w K mg base (CXe P w) k f fd ps (zAC g n F)):FnOk P w K mg base sF k f fd ps (KM g n F):=by
 have d: ∀{vs H Q}, ∀{E},KM g n F vs H Q E->zAC g n F vs H Q E0:=λ⟨α,S,y,u,i,o,p⟩=>⟨α,S,y,u,i,o,p.wmono λ_ _ _ _ _ z=>z.elim⟩
 refine⟨λvs H Q E h=>G.len vs H Q E0 (d h),λA a s H b m vs Q E q j B v h=>Ĵ (G.run A a s H b m vs Q E0 q j B v (d h)) λr C c=>?_⟩
 cases r with
 |error e=>
  obtain⟨_,_,_,_,_,_,_,_,_,_,_,_,_,_,_,z⟩:=c;exact z
 |ok fl=>cases fl<;>exact c
end
end M
end L2
namespace L2
open PySem PySem.Spec PyProof.Rows
structure Out(X:Cx)(pins:M0)(H:Hp)(s:Ŗ)(b:Addr):Prop where
 s0:X.s₀.heap.get? b=none
 h:H b=none
 pin: ∀p∈X.pn++pins,p.1≠b
 fld: ∃o vs,s.heap.get? b=some o/\o.data=.fields vs
section
variable{e:Addr}
def Out.ne(o:Out X pins H s b)(a:s.heap.get? c=some oc)(nf: ∀vs,oc.data≠.fields vs):c≠b:=λz=>by obtain⟨ob,vs,e,d⟩:=o.fld;rw[z,e]at a;cases a;exact nf vs d
def Out.loc(o:Out X pins H s b)(I:↑2):X.env.locals≠b:=by obtain⟨m,⟨h,es,d,c,a,_⟩,_⟩:=I.loc;exact o.ne c λe z=>by rw[a]at z;cases z
def HdA(A:Around)(H:Hp):Prop:= ∃e ob u,A.handled=some (.ref e)/\H e=some (.frz ob u)/\ ∃a,ob.data=.fields a/\a[2]? =some .none
end
end L2
namespace L2
namespace M
open PySem PySem.Spec PyProof.Rows
noncomputable def endF(i:Nat):Fl->Sto->R Fl
 |.next ρ,S=>.ok (.next (ρ.set i none)) S
 |.ret r,S=>.ok (.ret r) S
 |.brk ρ,S=>.ok (.brk (ρ.set i none)) S
 |.cont ρ,S=>.ok (.cont (ρ.set i none)) S
def Zg(ns:K0)(i:Nat)(d:Er->Sto->R Fl)(a:AY)(b:Rho):R Er->R Fl
 |.ok r S=>d r S
 |.exc c fs S=>if c∈ns then(noX (a (b.set i (some (.loc S.length))) (S++[.ins c fs]))).bind (endF i)else .no
 |.no=>.no
end M
end L2
namespace Srt
open PySem PyProof.Rows
def iS:Bool->Keyed->Array Keyed->Nat->Nat->Nat->StateT SortSt Sem (Option Nat):=sortPriv% PySem.Builtin.gallop
def gZ:Nat->StateT SortSt Sem Unit:=sortPriv% PySem.Builtin.setMinGallop
def HP:Array Keyed->Array Keyed->StateT SortSt Sem (Array Keyed):=sortPriv% PySem.Builtin.mergeLo
def HQ:Array Keyed->Array Keyed->StateT SortSt Sem (Array Keyed):=sortPriv% PySem.Builtin.mergeHi
section
def Oz{st:σ}(h:Q ⟨⟩ x):wpS M A E s (set x) Q st:=by unfold wpS;rw[StateT.run_set];exact wP ⟨rfl,h⟩
def qB{st:σ}(h:Q () st):wpS M A E s (liftM (rule x)) Q st:=wpS_lift (ı ⟨rfl,h⟩)
end
end Srt
namespace Srt
variable{β:Type}{le:β->β->Prop}
structure Two(le:β->β->Prop)(T out xs ys:List β):Prop where
 hx:(out++xs).Pairwise le
 hy:(out++ys).Pairwise le
 pm:(out++(xs++ys)).Perm T
def Two.movexs(h:Two le T out (zs++xs) ys)(i: ∀z,z∈zs-> ∀y,y∈ys->le z y):Two le T (out++zs) xs ys:=by
 refine⟨by simpa only[aA]using h.hx,?_,by simpa only[aA]using h.pm⟩;have a:=ç.mp h.hx;have b:=ç.mp h.hy;have c:=ç.mp a.2.1;refine ç.mpr ⟨ç.mpr ⟨a.1,c.1,λx e y d=>a.2.2 x e y (Ĝ _ d)⟩,b.2.1,λx e y d=>?_⟩
 cases é.mp e with
 |inl q=>exact b.2.2 x q y d
 |inr q=>exact i x q y d
def Two.swap(h:Two le T out xs ys):Two le T out ys xs:=
 ⟨h.hy,h.hx,(List.Perm.append_left out perm_append_comm).trans h.pm⟩
def Two.moveys(h:Two le T out xs (zs++ys))(a: ∀z,z∈zs-> ∀x,x∈xs->le z x):Two le T (out++zs) xs ys:=
 (h.swap.movexs a).swap
def Two.fin(h:Two le T out xs ys)(e: ∀x,x∈xs-> ∀y,y∈ys->le x y):(out++xs++ys).Pairwise le/\(out++xs++ys).Perm T:=by
 have a:=ç.mp h.hx;have b:=ç.mp h.hy;refine⟨ç.mpr ⟨h.hx,b.2.1,λx d y c=>?_⟩,by rw[aA];exact h.pm⟩
 cases é.mp d with
 |inl q=>exact b.2.2 x q y c
 |inr q=>exact e x q y c
structure TwoR(le:β->β->Prop)(T xs ys R:List β):Prop where
 hx:(xs++R).Pairwise le
 hy:(ys++R).Pairwise le
 pm:(xs++ys++R).Perm T
def TwoR.swap(h:TwoR le T xs ys R):TwoR le T ys xs R:=
 ⟨h.hy,h.hx,(List.Perm.append_right R perm_append_comm).trans h.pm⟩
def TwoR.moveys(h:TwoR le T xs (ys++zs) R)(j: ∀x,x∈xs-> ∀z,z∈zs->le x z):TwoR le T xs ys (zs++R):=by
 refine⟨?_,by simpa only[aA]using h.hy,by simpa only[aA]using h.pm⟩;have a:=ç.mp h.hx;have b:=ç.mp h.hy;have c:=ç.mp b.1;refine ç.mpr ⟨a.1,ç.mpr ⟨c.2.1,a.2.1,λz i y d=>b.2.2 z (ñ _ i) y d⟩,λx e y d=>?_⟩
 cases é.mp d with
 |inl q=>exact j x e y q
 |inr q=>exact a.2.2 x e y q
def TwoR.movexs(h:TwoR le T (xs++zs) ys R)(a: ∀y,y∈ys-> ∀z,z∈zs->le y z):TwoR le T xs ys (zs++R):=
 (h.swap.moveys a).swap
def TwoR.fin(h:TwoR le T xs ys R)(e: ∀x,x∈xs-> ∀y,y∈ys->le x y):(xs++ys++R).Pairwise le/\(xs++ys++R).Perm T:=by
 have a:=ç.mp h.hx;have b:=ç.mp h.hy;refine⟨ç.mpr ⟨ç.mpr ⟨a.1,b.1,e⟩,a.2.1,λx d y c=>?_⟩,h.pm⟩
 cases é.mp d with
 |inl q=>exact a.2.2 x q y c
 |inr q=>exact b.2.2 x q y c
def HR(l:List β)(i k):l.drop i=(l.drop i).take k++l.drop (i+k):=by rw[<-List.drop_drop,İ]
def SD(l:List β)(i k)(h:i<=k):l.take k=l.take i++(l.take k).drop i:=by have:=İ i (l.take k);rw[List.take_take,min_eq_left h]at this;exact this.symm
end Srt
namespace Srt
open PySem PyProof.Rows
abbrev SM:=StateT SortSt Sem
def bey(a:Bool)(x:Keyed)(v:Array Keyed)(b i:Nat):SM (Option Bool):=
 elem' v (b+i) >>= λy=>if a=true then lt' y x else lt' x y >>= λr=>pure (r.map λq=>!q)
abbrev G3:=Option (Option Nat)×Nat×Nat
def gUp(f:Nat->SM (Option Bool))(n m h:Nat):SM G3:=
 forIn [0:n] ((none,0,1):G3) λ_ c=>
  if c.2.2>=m then pure (.done (none,c.2.1,c.2.2))else f (h+c.2.2) >>= λo=>match o with
   |some q=>if(!q)=true then pure (.done (none,c.2.1,c.2.2))else pure (.yield (none,c.2.2,2 * c.2.2+1))
   |_=>pure (.done (some none,c.2.1,c.2.2))
def gDn(f:Nat->SM (Option Bool))(n m h:Nat):SM G3:=
 forIn [0:n] ((none,0,1):G3) λ_ c=>
  if c.2.2>=m then pure (.done (none,c.2.1,c.2.2))else f (h - c.2.2) >>= λo=>match o with
   |some q=>if q=true then pure (.done (none,c.2.1,c.2.2))else pure (.yield (none,c.2.2,2 * c.2.2+1))
   |_=>pure (.done (some none,c.2.1,c.2.2))
def gBin(f:Nat->SM (Option Bool))(n lo hi:Nat):SM G3:=
 forIn [0:n] ((none,lo,hi):G3) λ_ c=>
  if c.2.1>=c.2.2 then pure (.done (none,c.2.1,c.2.2))else f (c.2.1+(c.2.2 - c.2.1) / 2) >>= λo=>match o with
   |some q=>if q=true then pure (.yield (none,c.2.1+(c.2.2 - c.2.1) / 2+1,c.2.2))else pure (.yield (none,c.2.1,c.2.1+(c.2.2 - c.2.1) / 2))
   |_=>pure (.done (some none,c.2.1,c.2.2))
def Zh(f:Nat->SM (Option Bool))(n lo hi:Nat):SM (Option Nat):=
 gBin f n lo hi >>= λc=>match c.1 with
  |some r=>pure r
  |none=>pure (some c.2.2)
def gal(f:Nat->SM (Option Bool))(n h:Nat):SM (Option Nat):=
 f h >>= λo=>match o with
  |some q=>if q=true then gUp f n (n - h) h >>= λc=>(match c.1 with
     |some r=>pure r
     |none=>Zh f n (h+c.2.1+1) (h+min c.2.2 (n - h)))
    else gDn f n (h+1) h >>= λc=>(match c.1 with
     |some r=>pure r
     |none=>Zh f n (h+1 - min c.2.2 (h+1)) (h - c.2.1))
  |_=>pure none
theorem HS(lf)(x)(v)(b n h):iS lf x v b n h=gal (bey lf x v b) n h:=by kernel_rfl
section
def Tells(M:Model)(A:Around)(E:VP)(s:Ŗ)(st:SortSt)(f:Nat->SM (Option Bool))(p:Nat->Bool)(n:Nat):Prop:=
 ∀i,i<n-> ∀Q:Option Bool->SortSt->Prop,Q (some (p i)) st->wpS M A E s (f i) Q st
variable{st:SortSt}
theorem Zi(m:Tells M A E s st f p n)(u:h<n)(k:p h=true)
  (hq: ∀l o,l<o->h+l<n->p (h+l)=true->(n - h<=o\/(h+o<n/\p (h+o)=false))->Q (none,l,o) st):
  wpS M A E s (gUp f n (n - h) h) Q st:=by
 refine ĉ (I:=λx c a=>a=st/\ ∃l o,c=(none,l,o)/\x+1<=o/\l<o/\h+l<n/\p (h+l)=true) ?_ ?_ ⟨rfl,0,1,rfl,by lia,by lia,by lia,k⟩
 .rintro x c a _ r ⟨rfl,l,o,rfl,q,d,e,i⟩;dsimp only;by_cases b:o>=n - h
  .rw[iP b];exact wpS_pure (hq l o d e i (.inl b))
  .rw[iN b];refine wpS_bind (m _ #[0] _ ?_)
   cases j:p _ with
   |false=>exact wpS_pure (hq l o d e i (.inr ⟨by lia,j⟩))
   |true=>exact wpS_pure ⟨rfl,o,2 * o+1,rfl,by lia,by lia,by lia,j⟩
 .rintro c a ⟨rfl,l,o,rfl,q,d,e,i⟩;exact hq l o d e i (.inl #[0])
theorem Zj(m:Tells M A E s st f p n)(u:h<n)(k:p h=false)
  (hq: ∀l o,l<o->l<=h->p (h - l)=false->(h+1<=o\/(o<=h/\p (h - o)=true))->Q (none,l,o) st):
  wpS M A E s (gDn f n (h+1) h) Q st:=by
 refine ĉ (I:=λx c a=>a=st/\ ∃l o,c=(none,l,o)/\x+1<=o/\l<o/\l<=h/\p (h - l)=false) ?_ ?_ ⟨rfl,0,1,rfl,by lia,by lia,by lia,k⟩
 .rintro x c a _ r ⟨rfl,l,o,rfl,q,d,e,i⟩;by_cases b:o>=h+1
  .rw[iP b];exact wpS_pure (hq l o d e i (.inl b))
  .rw[iN b];refine wpS_bind (m _ #[0] _ ?_)
   cases j:p _ with
   |true=>exact wpS_pure (hq l o d e i (.inr ⟨by lia,j⟩))
   |false=>exact wpS_pure ⟨rfl,o,2 * o+1,rfl,by lia,by lia,by lia,j⟩
 .rintro c a ⟨rfl,l,o,rfl,q,d,e,i⟩;exact hq l o d e i (.inl #[0])
theorem ZE{lo:Nat}(v:Tells M A E s st f p n)(u: ∀i j,i<=j->j<n->p j=true->p i=true)
  (h1:lo<=hi) (h2:hi<=n) (h3: ∀i,i<lo->p i=true) (h4: ∀i,hi<=i->i<n->p i=false)
  (hq: ∀r,r<=n->(∀i,i<r->p i=true)->(∀i,r<=i->i<n->p i=false)->Q (some r) st):
  wpS M A E s (Zh f n lo hi) Q st:=by
 refine wpS_bind (wpS_mono (ĉ (I:=λx c a=>a=st/\ ∃l r,c=(none,l,r)/\l<=r/\r<=n/\r - l<=n - x/\(∀i,i<l->p i=true)/\(∀i,r<=i->i<n->p i=false))
  (Q:=λc a=>a=st/\ ∃l r,c=(none,l,r)/\r<=n/\(∀i,i<r->p i=true)/\(∀i,r<=i->i<n->p i=false)) ?_ ?_ ⟨rfl,lo,hi,rfl,h1,h2,by lia,h3,h4⟩) ?_)
 .rintro x c a _ z ⟨rfl,l,r,rfl,y,d,w,e,b⟩;by_cases h:l>=r
  .rw[iP h];have:l=r:=by lia
   subst this;exact wpS_pure ⟨rfl,l,l,rfl,d,e,b⟩
  .rw[iN h];refine wpS_bind (v _ #[0] _ ?_)
   cases o:p _ with
   |true=>exact wpS_pure ⟨rfl,_,r,rfl,by lia,d,by lia,λi hi=>u i _ #[0] #[0] o,b⟩
   |false=>
    refine wpS_pure ⟨rfl,l,_,rfl,by lia,by lia,by lia,e,λi k m=>?_⟩
    cases q:p i with
    |false=>rfl
    |true=>rw[u _ i k m q]at o;cases o
 .rintro c a ⟨rfl,l,r,rfl,y,d,w,e,b⟩;have:l=r:=by lia
  subst this;exact⟨rfl,l,l,rfl,d,e,b⟩
 .rintro c a ⟨rfl,l,r,rfl,d,e,b⟩;exact wpS_pure (hq r d e b)
theorem Hw(c:Tells M A E s st f p n)(d: ∀i j,i<=j->j<n->p j=true->p i=true)(m:h<n)
  (hq: ∀r,r<=n->(∀i,i<r->p i=true)->(∀i,r<=i->i<n->p i=false)->Q (some r) st):
  wpS M A E s (gal f n h) Q st:=by
 have u: ∀i j,i<=j->j<n->p i=false->p j=false:=by
  intro i j q e b
  cases y:p j with
  |false=>rfl
  |true=>rw[d i j q e y]at b;cases b
 refine wpS_bind (c h m _ ?_)
 cases w:p h with
 |true=>
  refine wpS_bind (Zi c m w λl o q e b a=>?_);dsimp only;refine ZE c d (by omega) (by omega) (λi hi=>d i _ #[0] e b) (λi v k=>?_) hq;rcases a with a|⟨a,h7⟩
  .omega
  .exact u _ i (by omega) k h7
 |false=>
  refine wpS_bind (Zj c m w λl o q e b a=>?_);dsimp only;refine ZE c d (by omega) (by omega) (λi hi=>?_) (λi v k=>u _ i v k b) hq;rcases a with a|⟨a,h7⟩
  .omega
  .exact d i _ (by omega) (by omega) h7
end
end Srt
namespace Srt
open PySem PyProof.Rows
def cR{β:Type}{l:List β}{z:β}(h:z∈l.drop i): ∃j,i+j<l.length/\l[i+j]? =some z:=by obtain⟨j,a,e⟩:=List.mem_iff_getElem.mp h;rw[ó]at a;refine⟨j,by omega,?_⟩;rw[getElem_drop]at e;rw[<-e,gE (by omega)]
def jX{β:Type}{l:List β}{z:β}(h:z∈(l.drop i).take k): ∃j,j<k/\i+j<l.length/\l[i+j]? =some z:=by obtain⟨j,a,e⟩:=List.mem_iff_getElem.mp h;rw[lT,ó]at a;refine⟨j,by omega,by omega,?_⟩;rw[getElem_take,getElem_drop]at e;rw[<-e,gE (by omega)]
theorem sR{β:Type}{l:List β}{z:β}(h:z∈l.take k): ∃j,j<k/\j<l.length/\l[j]? =some z:=by obtain⟨j,a,e⟩:=List.mem_iff_getElem.mp h;rw[lT]at a;refine⟨j,by lia,by lia,?_⟩;rw[getElem_take]at e;rw[<-e,gE #[0]]
section
variable{M:Model}{A:Around}{E:VP}{s:Ŗ}
structure Cmp(M:Model)(A:Around)(E:VP)(s:Ŗ)(kd:SortKind)(D:Keyed->Prop)(lt:Keyed->Keyed->Bool):Prop where
 go: ∀x y,D x->D y-> ∀st:SortSt,kindOf st=kd-> ∀Q:Option Bool->SortSt->Prop,Q (some (lt x y)) st->wpS M A E s (lt' x y) Q st
 tr: ∀x y z,lt y x=false->lt z y=false->lt z x=false
 as: ∀x y,lt x y=true->lt y x=false
abbrev Le(lt:Keyed->Keyed->Bool)(x y:Keyed):Prop:=lt y x=false
def Cmp.rf(C:Cmp M A E s kd D lt)(x):Le lt x x:=by
 show lt x x=false
 cases h:lt x x with
 |false=>rfl
 |true=>exact absurd h (by rw[C.as x x h];simp)
def SL(lt:Keyed->Keyed->Bool)(l:List Keyed)(b n:Nat):Prop:= ∀i j x y,i<=j->j<n->l[b+i]? =some x->l[b+j]? =some y->lt y x=false
def yL{st:SortSt}(e:v.toList[i]? =some x)(h:Q x st):wpS M A E s (elem' v i) Q st:=by
 rw[elem'_eq];have:v[i]? =some x:=by rw[<-í];exact e
 rw[this];exact wpS_pure h
def kY{v:Array Keyed}(h:i<v.size): ∃x,v.toList[i]? =some x:=⟨v.toList[i]'(by simpa using h),gE _⟩
noncomputable def pB(lt:Keyed->Keyed->Bool)(a:Bool)(x:Keyed)(l:List Keyed)(b i:Nat):Bool:=(l[b+i]?).elim false λy=>if a=true then lt y x else !lt x y
theorem tells(C:Cmp M A E s kd D lt){st:SortSt}(e:kindOf st=kd)(h: ∀y,y∈v.toList->D y)(hx:D x)(j:b+n<=v.size)(lf):
  Tells M A E s st (bey lf x v b) (pB lt lf x v.toList b) n:=by
 intro i hi Q c;obtain⟨y,d⟩:=kY (v:=v) (i:=b+i) #[0];have a:=h y (á d);unfold pB at c;rw[d]at c;refine wpS_bind (yL d ?_)
 cases lf with
 |true=>exact C.go y x a hx st e _ c
 |false=>
  show wpS M A E s _ Q st;exact wpS_bind (C.go x y hx a st e _ (wpS_pure c))
theorem OT(C:Cmp M A E s kd D lt){st:SortSt}(F:kindOf st=kd)(B: ∀y,y∈v.toList->D y)(hx:D x)(u:b+n<=v.size)(w:h<n)
  (hs:SL lt v.toList b n) 
  (hq: ∀r,r<=n->(∀i y,i<r->v.toList[b+i]? =some y->lt x y=false)->(∀i y,r<=i->i<n->v.toList[b+i]? =some y->lt x y=true)->Q (some r) st):
  wpS M A E s (iS false x v b n h) Q st:=by
 rw[HS];refine Hw (tells C F B hx u false) (λi j m d a=>?_) w (λr m d a=>hq r m (λi y c k=>?_) (λi y c k q=>?_))
 .obtain⟨y,p⟩:=kY (v:=v) (i:=b+i) #[0];obtain⟨z,o⟩:=kY (v:=v) (i:=b+j) #[0];unfold pB at a ⊢;rw[o]at a;rw[p];have e:_=true:=a;show(!lt x y)=true;have:=hs i j y z m d p o;have c:=by simpa using e
  rw[C.tr y z x this c];rfl
 .have:=d i c;unfold pB at this;rw[k]at this;have h':_=true:=this;simpa using h'
 .have:=a i c k;unfold pB at this;rw[q]at this;have h':_=false:=this;simpa using h'
theorem OU(C:Cmp M A E s kd D lt){st:SortSt}(G:kindOf st=kd)(F: ∀y,y∈v.toList->D y)(hx:D x)(w:b+n<=v.size)(B:h<n)
  (hs:SL lt v.toList b n) 
  (hq: ∀r,r<=n->(∀i y,i<r->v.toList[b+i]? =some y->lt y x=true)->(∀i y,r<=i->i<n->v.toList[b+i]? =some y->lt y x=false)->Q (some r) st):
  wpS M A E s (iS true x v b n h) Q st:=by
 rw[HS];refine Hw (tells C G F hx w true) (λi j m c a=>?_) B (λr m c a=>hq r m (λi y k e=>?_) (λi y k e u=>?_))
 .obtain⟨y,q⟩:=kY (v:=v) (i:=b+i) #[0];obtain⟨z,p⟩:=kY (v:=v) (i:=b+j) #[0];unfold pB at a ⊢;rw[p]at a;rw[q];have d:lt z x=true:=a;show lt y x=true;have:=hs i j y z m c q p
  cases o:lt y x with
  |true=>rfl
  |false=>exact absurd d (by rw[C.tr x y z o this];simp)
 .have:=c i k;unfold pB at this;rw[e]at this;exact this
 .have:=a i k e;unfold pB at this;rw[u]at this;exact this
end
end Srt
namespace Srt
open PySem PyProof.Rows
abbrev V:=Array Keyed
abbrev L5:=Option V×V×Nat×Nat×Nat
abbrev L6:=Option V×V×Nat×Nat×Nat×Nat
abbrev L7:=Option V×V×Nat×Nat×Nat×Nat×Nat
noncomputable abbrev Fa(a b o:V)(i j:Nat):V:=o++a.extract i a.size++b.extract j b.size
noncomputable abbrev K2(a b o:V)(i j:Nat):V:=o++b.extract j b.size++a.extract i a.size
def V1(a b:V)(g:Nat)(c:L6):SM (ForInStep L6):=
 elem' b c.2.2.2.1 >>= λy=>elem' a c.2.2.1 >>= λx=>lt' y x >>= λr=>match r with
  |some q=>if q=true then elem' b c.2.2.2.1 >>= λy=>
     if(c.2.2.2.1+1==b.size)=true then pure (.done (some (Fa a b (c.2.1.push y) c.2.2.1 (c.2.2.2.1+1)),c.2.1.push y,c.2.2.1,c.2.2.2.1+1,0,c.2.2.2.2.2+1))
     else if c.2.2.2.2.2+1>=g then pure (.done (none,c.2.1.push y,c.2.2.1,c.2.2.2.1+1,0,c.2.2.2.2.2+1))
     else pure (.yield (none,c.2.1.push y,c.2.2.1,c.2.2.2.1+1,0,c.2.2.2.2.2+1))
    else elem' a c.2.2.1 >>= λx=>
     if(c.2.2.1+1+1==a.size)=true then pure (.done (some (K2 a b (c.2.1.push x) (c.2.2.1+1) c.2.2.2.1),c.2.1.push x,c.2.2.1+1,c.2.2.2.1,c.2.2.2.2.1+1,0))
     else if c.2.2.2.2.1+1>=g then pure (.done (none,c.2.1.push x,c.2.2.1+1,c.2.2.2.1,c.2.2.2.2.1+1,0))
     else pure (.yield (none,c.2.1.push x,c.2.2.1+1,c.2.2.2.1,c.2.2.2.2.1+1,0))
  |_=>pure (.done (some (Fa a b c.2.1 c.2.2.1 c.2.2.2.1),c.2.1,c.2.2.1,c.2.2.2.1,c.2.2.2.2.1,c.2.2.2.2.2))
def in1(a b:V)(t g:Nat)(c:L6):SM L6:=forIn [0:t] c λ_ c=>V1 a b g c
def Zk(a b o:V)(i j g p q:Nat):SM (ForInStep L7):=
 elem' a i >>= λx=>if(i+1+1==a.size)=true then pure (.done (some (K2 a b (o.push x) (i+1) j),o.push x,i+1,j,g,p,q))
  else if(decide (p<7)&&decide (q<7))=true then pure (.done (none,o.push x,i+1,j,g,p,q))else pure (.yield (none,o.push x,i+1,j,g,p,q))
def Zl(a b o:V)(i j g p q:Nat):SM (ForInStep L7):=
 elem' b j >>= λy=>if(j+1==b.size)=true then pure (.done (some (Fa a b (o.push y) i (j+1)),o.push y,i,j+1,g,p,q))
  else elem' a i >>= λx=>iS true x b (j+1) (b.size - (j+1)) 0 >>= λr=>match r with
   |some k=>if k>0 then
      if(j+1+k==b.size)=true then pure (.done (some (Fa a b (o.push y++b.extract (j+1) (j+1+k)) i (j+1+k)),o.push y++b.extract (j+1) (j+1+k),i,j+1+k,g,p,k))
      else Zk a b (o.push y++b.extract (j+1) (j+1+k)) i (j+1+k) g p k
     else Zk a b (o.push y) i (j+1) g p k
   |_=>pure (.done (some (Fa a b (o.push y) i (j+1)),o.push y,i,j+1,g,p,q))
def Zm(a b o:V)(i j g p q:Nat):SM (ForInStep L7):=
 gZ g >>= λ_=>elem' b j >>= λy=>iS false y a i (a.size - i) 0 >>= λr=>match r with
  |some k=>if k>0 then
     if(i+k+1==a.size)=true then pure (.done (some (K2 a b (o++a.extract i (i+k)) (i+k) j),o++a.extract i (i+k),i+k,j,g,k,q))
     else if(i+k==a.size)=true then pure (.done (some (Fa a b (o++a.extract i (i+k)) (i+k) j),o++a.extract i (i+k),i+k,j,g,k,q))
     else Zl a b (o++a.extract i (i+k)) (i+k) j g k q
    else Zl a b o i j g k q
  |_=>pure (.done (some (Fa a b o i j),o,i,j,g,p,q))
def in2(a b:V)(t:Nat)(c:L7):SM L7:=forIn [0:t] c λ_ c=>
 if c.2.2.2.2.1>1 then Zm a b c.2.1 c.2.2.1 c.2.2.2.1 (c.2.2.2.2.1 - 1) c.2.2.2.2.2.1 c.2.2.2.2.2.2
 else Zm a b c.2.1 c.2.2.1 c.2.2.2.1 c.2.2.2.2.1 c.2.2.2.2.2.1 c.2.2.2.2.2.2
def V2(a b:V)(t:Nat)(c:L5):SM L5:=forIn [0:t] c λ_ c=>
 in1 a b t c.2.2.2.2 (none,c.2.1,c.2.2.1,c.2.2.2.1,0,0) >>= λd=>match d.1 with
  |some r=>pure (.done (some r,d.2.1,d.2.2.1,d.2.2.2.1,c.2.2.2.2))
  |none=>liftM (rule "list.sort.gallop") >>= λ_=>in2 a b t (none,d.2.1,d.2.2.1,d.2.2.2.1,c.2.2.2.2+1,d.2.2.2.2.1,d.2.2.2.2.2) >>= λe=>match e.1 with
   |some r=>pure (.done (some r,e.2.1,e.2.2.1,e.2.2.2.1,e.2.2.2.2.1))
   |none=>gZ (e.2.2.2.2.1+1) >>= λ_=>pure (.yield (none,e.2.1,e.2.2.1,e.2.2.2.1,e.2.2.2.2.1+1))
def mLo(a b:V):SM V:=
 liftM (rule "list.sort.merge-lo") >>= λ_=>elem' b 0 >>= λy=>if(1==b.size)=true then pure (Fa a b #[y] 0 1)
  else if(0+1==a.size)=true then pure (K2 a b #[y] 0 1)
  else get >>= λst=>V2 a b (a.size+b.size) (none,#[y],0,1,gallopOf st) >>= λc=>match c.1 with
   |some r=>pure r
   |none=>liftM (unsupported "internal:list.sort.merge-bound")
theorem SE(a b):HP a b=mLo a b:=by kernel_rfl
end Srt
namespace Srt
open PySem PyProof.Rows
def DB(v:V)(i):(v.extract i v.size).toList=v.toList.drop i:=by rw[Array.toList_extract];exact ă (by simp)
def OV(v:V)(i k):(v.extract i (i+k)).toList=(v.toList.drop i).take k:=by rw[Array.toList_extract,List.extract_eq_take_drop,Nat.add_sub_cancel_left]
def Sg(st a:SortSt):Prop:= ∃g,a=SortSt.mk' (kindOf st) (arrOf st) (pendingOf st) g (failedOf st)
def Sg.refl(st):Sg st st:=⟨gallopOf st,rfl⟩
theorem Sg.kind{st:SortSt}(h:Sg st st'):kindOf st'=kindOf st:=by obtain⟨g,rfl⟩:=h;rfl
section
variable{M:Model}{A:Around}{E:VP}{s:Ŗ}{kd:SortKind}{D:Keyed->Prop}{lt:Keyed->Keyed->Bool}{a b:V}
def FZ{st:SortSt}(h:Sg st d)(a: ∀d,Sg st d->Q () d):wpS M A E s (gZ g) Q d:=by obtain⟨b,rfl⟩:=h;exact wpS_modify (a _ ⟨g,rfl⟩)
abbrev TwoA(lt:Keyed->Keyed->Bool)(a b o:V)(i j:Nat):Prop:=Two (Le lt) (a.toList++b.toList) o.toList (a.toList.drop i) (b.toList.drop j)
def FinA(lt:Keyed->Keyed->Bool)(a b r:V):Prop:=r.toList.Pairwise (Le lt)/\r.toList.Perm (a.toList++b.toList)
def OW{β:Type}{l:List β}{x:β}(h:l[i]? =some x):l.drop i=x::l.drop (i+1):=by obtain⟨hi,e⟩:=gS.mp h;rw[<-e];exact Ī hi
def heads{β:Type}{le:β->β->Prop}(rf: ∀x,le x x){l:List β}{x:β}(h:(l.drop i).Pairwise le)(e:l[i]? =some x): ∀z,z∈l.drop i->le x z:=by
 rw[OW e]at h ⊢;intro z a
 cases a with
 |head=>exact rf x
 |tail _ a=>exact(ĭ.mp h).1 z a
def TwoA.sa(h:TwoA lt a b o i j):(a.toList.drop i).Pairwise (Le lt):=(ç.mp h.hx).2.1
def TwoA.sb(h:TwoA lt a b o i j):(b.toList.drop j).Pairwise (Le lt):=(ç.mp h.hy).2.1
theorem ZF(h:(l.drop i).Pairwise (Le lt))(rf: ∀x,Le lt x x):SL lt l i n:=by
 intro p q x y o j b a;by_cases e:p=q
 .subst e;rw[b]at a;cases a;exact rf x
 .obtain⟨k,c⟩:=gS.mp b;obtain⟨m,d⟩:=gS.mp a;have:=Ł.mp h p q (by rw[ó];lia) (by rw[ó];lia) #[0];rw[getElem_drop,getElem_drop,c,d]at this;exact this
def TwoA.pushB(h:TwoA lt a b o i j)(e:b.toList[j]? =some y)(k: ∀x,x∈a.toList.drop i->Le lt y x):TwoA lt a b (o.push y) i (j+1):=by
 have h':Two (Le lt) (a.toList++b.toList) o.toList (a.toList.drop i) ([y]++b.toList.drop (j+1)):=by rw[show [y]++b.toList.drop _=b.toList.drop j from(OW e).symm];exact h
 have:=h'.moveys λz d x c=>by rw[mS.mp d];exact k x c
 show Two _ _ (o.push y).toList _ _;rw[Array.toList_push];exact this
def TwoA.pushA(h:TwoA lt a b o i j)(e:a.toList[i]? =some x)(d: ∀y,y∈b.toList.drop j->Le lt x y):TwoA lt a b (o.push x) (i+1) j:=by
 have h':Two (Le lt) (a.toList++b.toList) o.toList ([x]++a.toList.drop (i+1)) (b.toList.drop j):=by rw[show [x]++a.toList.drop _=a.toList.drop i from(OW e).symm];exact h
 have:=h'.movexs λz c y k=>by rw[mS.mp c];exact d y k
 show Two _ _ (o.push x).toList _ _;rw[Array.toList_push];exact this
def TwoA.cutA(h:TwoA lt a b o i j)(e: ∀n z,n<k->a.toList[i+n]? =some z-> ∀y,y∈b.toList.drop j->Le lt z y):TwoA lt a b (o++a.extract i (i+k)) (i+k) j:=by
 have h':Two (Le lt) (a.toList++b.toList) o.toList ((a.toList.drop i).take k++a.toList.drop (i+k)) (b.toList.drop j):=by rw[<-HR];exact h
 have:=h'.movexs λz d y p=>by obtain⟨n,m,_,c⟩:=jX d;exact e n z m c y p
 show Two _ _ (o++a.extract i _).toList _ _;rw[ù,OV];exact this
def TwoA.cutB(h:TwoA lt a b o i j)(e: ∀n z,n<k->b.toList[j+n]? =some z-> ∀x,x∈a.toList.drop i->Le lt z x):TwoA lt a b (o++b.extract j (j+k)) i (j+k):=by
 have h':Two (Le lt) (a.toList++b.toList) o.toList (a.toList.drop i) ((b.toList.drop j).take k++b.toList.drop (j+k)):=by rw[<-HR];exact h
 have:=h'.moveys λz d y p=>by obtain⟨n,m,_,c⟩:=jX d;exact e n z m c y p
 show Two _ _ (o++b.extract j _).toList _ _;rw[ù,OV];exact this
def TwoA.dnB(h:TwoA lt a b o i j)(d:b.size<=j):FinA lt a b (Fa a b o i j):=by
 have e:(Fa a b o i j).toList=o.toList++a.toList.drop i++b.toList.drop j:=by rw[ù,ù,DB,DB]
 unfold FinA;rw[e];exact h.fin λx _ y c=>by rw[œ (by simpa using d)]at c;cases c
def TwoA.dnA(h:TwoA lt a b o i j)(hi:a.size<=i):FinA lt a b (Fa a b o i j):=by
 have e:(Fa a b o i j).toList=o.toList++a.toList.drop i++b.toList.drop j:=by rw[ù,ù,DB,DB]
 unfold FinA;rw[e];exact h.fin λx c y _=>by rw[œ (by simpa using hi)]at c;cases c
theorem TwoA.la(h:TwoA lt a b o i j)(hi:i+1=a.size)(hz: ∀x y,a.toList[a.size - 1]? =some x->y∈b.toList->Le lt y x):FinA lt a b (K2 a b o i j):=by
 have e:(K2 a b o i j).toList=o.toList++b.toList.drop j++a.toList.drop i:=by rw[ù,ù,DB,DB]
 unfold FinA;rw[e];refine h.swap.fin λy k x c=>?_;obtain⟨n,p,d⟩:=cR c;have m:a.toList.length=a.size:=by simp
 exact hz x y (by rw[show a.size - 1=i+n by lia];exact d) (mem_of_mem_drop k)
def TwoA.len(h:TwoA lt a b o i j):o.size+((a.size - i)+(b.size - j))=a.size+b.size:=by have:=h.pm.length_eq;simpa [lA,ó]using this
def I1(lt:Keyed->Keyed->Bool)(a b o:V)(i j:Nat):Prop:=i+1<a.size/\j<b.size/\TwoA lt a b o i j
structure Set2(M:Model)(A:Around)(E:VP)(s:Ŗ)(kd:SortKind)(D:Keyed->Prop)(lt:Keyed->Keyed->Bool)(a b:V):Prop where
 C:Cmp M A E s kd D lt
 da: ∀x,x∈a.toList->D x
 db: ∀x,x∈b.toList->D x
 lst: ∀x y,a.toList[a.size - 1]? =some x->y∈b.toList->Le lt y x
def N6(lt:Keyed->Keyed->Bool)(a b:V)(n:Nat)(c:L6):Prop:= ∃o i j p q,c=(none,o,i,j,p,q)/\I1 lt a b o i j/\n<=o.size
def P6(lt:Keyed->Keyed->Bool)(a b:V)(n:Nat)(c:L6):Prop:=(∃r e,c=(some r,e)/\FinA lt a b r)\/N6 lt a b n c
def N7(lt:Keyed->Keyed->Bool)(a b:V)(n:Nat)(c:L7):Prop:= ∃o i j g p q,c=(none,o,i,j,g,p,q)/\I1 lt a b o i j/\n<=o.size
def P7(lt:Keyed->Keyed->Bool)(a b:V)(n:Nat)(c:L7):Prop:=(∃r e,c=(some r,e)/\FinA lt a b r)\/N7 lt a b n c
theorem Pa(Z:Set2 M A E s kd D lt a b){st:SortSt}(G:kindOf st=kd)(h:I1 lt a b o i j)
  (hd: ∀c,P6 lt a b (o.size+1) c->Q (.done c) st) (hy: ∀c,N6 lt a b (o.size+1) c->Q (.yield c) st):wpS M A E s (V1 a b g (none,o,i,j,p,q)) Q st:=by
 obtain⟨F,B,u⟩:=h;obtain⟨y,n⟩:=kY B;obtain⟨x,r⟩:=kY (v:=a) (i:=i) #[0];have I:=heads Z.C.rf u.sb n;have H:=heads Z.C.rf u.sa r;refine wpS_bind (yL n (wpS_bind (yL r (wpS_bind (Z.C.go y x (Z.db y (á n)) (Z.da x (á r)) st G _ ?_)))))
 cases e:lt y x with
 |true=>
  have k:=u.pushB n λz w=>Z.C.tr y x z (Z.C.as y x e) (H z w);have hs:(o.push y).size=o.size+1:=Ĭ ..;refine wpS_bind (yL n ?_);by_cases d:j+1=b.size
  .rw[iP (by simpa using d)];exact wpS_pure (hd _ (.inl ⟨_,_,rfl,k.dnB #[0]⟩))
  .rw[iN (by simpa using d)];have m:I1 lt a b _ i _:=⟨F,by lia,k⟩
   split
   .exact wpS_pure (hd _ (.inr ⟨_,_,_,_,_,rfl,m,by lia⟩))
   .exact wpS_pure (hy _ ⟨_,_,_,_,_,rfl,m,by lia⟩)
 |false=>
  have k:=u.pushA r λz w=>Z.C.tr x y z e (I z w);have hs:(o.push x).size=o.size+1:=Ĭ ..;refine wpS_bind (yL r ?_);by_cases d:i+1+1=a.size
  .rw[iP (by simpa using d)];exact wpS_pure (hd _ (.inl ⟨_,_,rfl,k.la d Z.lst⟩))
  .rw[iN (by simpa using d)];have m:I1 lt a b _ _ j:=⟨by lia,B,k⟩
   split
   .exact wpS_pure (hd _ (.inr ⟨_,_,_,_,_,rfl,m,by lia⟩))
   .exact wpS_pure (hy _ ⟨_,_,_,_,_,rfl,m,by lia⟩)
theorem N6.mono(h:N6 lt a b n c)(e:m<=n):N6 lt a b m c:=by obtain⟨o,i,j,p,q,k,d,r⟩:=h;exact⟨o,i,j,p,q,k,d,by lia⟩
def P6.mono(h:P6 lt a b n c)(e:m<=n):P6 lt a b m c:=h.imp id λh=>h.mono e
theorem Zn(Z:Set2 M A E s kd D lt a b){st:SortSt}(m:kindOf st=kd)(q:1<=t)(h:I1 lt a b o i j)
  (hq: ∀c,P6 lt a b (o.size+1) c->Q c st):wpS M A E s (in1 a b t g (none,o,i,j,0,0)) Q st:=by
 refine ĉ (I:=λx c d=>d=st/\N6 lt a b (o.size+x) c) ?_ ?_ ⟨rfl,o,i,j,0,0,rfl,h,by lia⟩
 .rintro x c d _ _ ⟨rfl,w,u,p,v,r,rfl,h',n⟩;refine Pa Z m h' (λc e=>hq c (e.mono #[0])) (λc e=>⟨rfl,e.mono #[0]⟩)
 .rintro c d ⟨rfl,k⟩;exact hq c (.inr (k.mono #[0]))
theorem ZG(Z:Set2 M A E s kd D lt a b){st:SortSt}(u:i+1<a.size)(m:j<b.size)(r:TwoA lt a b o i j)
  (hl: ∀x,a.toList[i]? =some x-> ∀y,y∈b.toList.drop j->Le lt x y)  (hn:n<=o.size) 
  (hd: ∀c,P7 lt a b n c->Q (.done c) st) (hy: ∀c,N7 lt a b n c->Q (.yield c) st):wpS M A E s (Zk a b o i j g p q) Q st:=by
 obtain⟨x,d⟩:=kY (v:=a) (i:=i) #[0];have h:=r.pushA d (hl x d);have hs:(o.push x).size=o.size+1:=Ĭ ..;refine wpS_bind (yL d ?_);by_cases e:i+1+1=a.size
 .rw[iP (by simpa using e)];exact wpS_pure (hd _ (.inl ⟨_,_,rfl,h.la e Z.lst⟩))
 .rw[iN (by simpa using e)];have k:I1 lt a b _ _ j:=⟨by lia,m,h⟩
  split
  .exact wpS_pure (hd _ (.inr ⟨_,_,_,_,_,_,rfl,k,by lia⟩))
  .exact wpS_pure (hy _ ⟨_,_,_,_,_,_,rfl,k,by lia⟩)
theorem ZH(Z:Set2 M A E s kd D lt a b){st:SortSt}(W:kindOf st=kd)(K:i+1<a.size)(S:j<b.size)(I:TwoA lt a b o i j)
  (hl: ∀y,b.toList[j]? =some y-> ∀x,x∈a.toList.drop i->Le lt y x)  (hn:n<=o.size) 
  (hd: ∀c,P7 lt a b n c->Q (.done c) st) (hy: ∀c,N7 lt a b n c->Q (.yield c) st):wpS M A E s (Zl a b o i j g p q) Q st:=by
 obtain⟨y,F⟩:=kY S;obtain⟨x,h⟩:=kY (v:=a) (i:=i) #[0];have r:=I.pushB F (hl y F);have hs:(o.push y).size=o.size+1:=Ĭ ..;have X:=heads Z.C.rf I.sa h;refine wpS_bind (yL F ?_);by_cases H:j+1=b.size
 .rw[iP (by simpa using H)];exact wpS_pure (hd _ (.inl ⟨_,_,rfl,r.dnB #[0]⟩))
 .rw[iN (by simpa using H)];refine wpS_bind (yL h (wpS_bind (OU Z.C W Z.db (Z.da x (á h)) #[0] #[0] (ZF r.sb Z.C.rf) λk k1 U N=>?_)));dsimp only;by_cases O:k>0
  .rw[iP O];have J:=r.cutB λm z Y T u d=>Z.C.tr z x u (Z.C.as z x (U m z Y T)) (X u d);have P:(o.push y++b.extract (j+1) (j+1+k)).size>=o.size+1:=by rw[Array.size_append];lia
   by_cases L:j+1+k=b.size
   .rw[iP (by simpa using L)];exact wpS_pure (hd _ (.inl ⟨_,_,rfl,J.dnB #[0]⟩))
   .rw[iN (by simpa using L)];refine ZG Z K #[0] J (λu d B e=>?_) #[0] hd hy;rw[h]at d;cases d;obtain⟨m,G,w⟩:=cR e;rw[ä]at G;exact N (k+m) B #[0] #[0] (by rw[<-Ń];exact w)
  .rw[iN O];refine ZG Z K #[0] r (λu d B e=>?_) #[0] hd hy;rw[h]at d;cases d;obtain⟨m,G,w⟩:=cR e;rw[ä]at G;exact N m B #[0] #[0] w
theorem ZI(Z:Set2 M A E s kd D lt a b){st:SortSt}(hg:Sg st0 st)(Y:kindOf st0=kd)(h:I1 lt a b o i j)(U:n<=o.size)
   (hd: ∀c st,Sg st0 st->P7 lt a b n c->Q (.done c) st) (hy: ∀c st,Sg st0 st->N7 lt a b n c->Q (.yield c) st):
  wpS M A E s (Zm a b o i j g p q) Q st:=by
 obtain⟨X,H,F⟩:=h;obtain⟨y,w⟩:=kY H;have hb:=heads Z.C.rf F.sb w;refine wpS_bind (FZ hg λaa d=>?_);have u:=d.kind.trans Y;refine wpS_bind (yL w (wpS_bind (OT Z.C u Z.da (Z.db y (á w)) #[0] #[0] (ZF F.sa Z.C.rf) λk k1 W O=>?_)));dsimp only;by_cases P:k>0
 .rw[iP P];have J:=F.cutA λm z hm T B e=>Z.C.tr z y B (W m z hm T) (hb B e);have S:(o++a.extract i (i+k)).size>=o.size:=by rw[Array.size_append];lia
  by_cases I:i+k+1=a.size
  .rw[iP (by simpa using I)];exact wpS_pure (hd _ _ d (.inl ⟨_,_,rfl,J.la I Z.lst⟩))
  .rw[iN (by simpa using I)];by_cases N:i+k=a.size
   .rw[iP (by simpa using N)];exact wpS_pure (hd _ _ d (.inl ⟨_,_,rfl,J.dnA #[0]⟩))
   .rw[iN (by simpa using N)];refine ZH Z u #[0] H J (λB e K r=>?_) #[0] (λc v=>hd c _ d v) (λc v=>hy c _ d v);rw[w]at e;cases e;obtain⟨m,L,G⟩:=cR r;rw[ä]at L;exact Z.C.as _ _ (O (k+m) K #[0] #[0] (by rw[<-Ń];exact G))
 .rw[iN P];refine ZH Z u X H F (λB e K r=>?_) U (λc v=>hd c _ d v) (λc v=>hy c _ d v);rw[w]at e;cases e;obtain⟨m,L,G⟩:=cR r;rw[ä]at L;exact Z.C.as _ _ (O m K #[0] #[0] G)
def Zo(Z:Set2 M A E s kd D lt a b){st:SortSt}(w:Sg st0 st)(r:kindOf st0=kd)(h:I1 lt a b o i j)(u:n<=o.size)
   (hq: ∀c st,Sg st0 st->P7 lt a b n c->Q c st):wpS M A E s (in2 a b t (none,o,i,j,g,p,q)) Q st:=by
 refine ĉ (I:=λx c e=>Sg st0 e/\N7 lt a b n c) ?_ ?_ ⟨w,o,i,j,g,p,q,rfl,h,u⟩
 .rintro x c e _ _ ⟨d,G,y,B,F,z,C,rfl,h',m⟩;split
  .exact ZI Z d r h' m (λc st hs k=>hq c st hs k) (λc st hs k=>⟨hs,k⟩)
  .exact ZI Z d r h' m (λc st hs k=>hq c st hs k) (λc st hs k=>⟨hs,k⟩)
 .rintro c e ⟨d,v⟩;exact hq c e d (.inr v)
theorem Zp(Z:Set2 M A E s kd D lt a b){st:SortSt}(H:kindOf st=kd)(sa:a.toList.Pairwise (Le lt))(sb:b.toList.Pairwise (Le lt))(W:1<=a.size)(X:1<=b.size)
  (h0: ∀x y,a.toList[0]? =some x->b.toList[0]? =some y->Le lt y x)
   (hq: ∀r m,Sg st m->FinA lt a b r->Q r m):wpS M A E s (HP a b) Q st:=by
 rw[SE];refine wpS_bind (qB ?_);obtain⟨y,u⟩:=kY (v:=b) (i:=0) #[0];obtain⟨x,J⟩:=kY (v:=a) (i:=0) #[0];have L:TwoA lt a b #[] 0 0:=⟨by simpa using sa,by simpa using sb,by simp⟩
 have G:=heads Z.C.rf L.sa J;have B:=L.pushB u λz O=>Z.C.tr y x z (h0 x y J u) (G z O);refine wpS_bind (yL u ?_);by_cases K:1=b.size
 .rw[iP (by simpa using K)];exact wpS_pure (hq _ _ (Sg.refl st) (B.dnB #[0]))
 .rw[iN (by simpa using K)];by_cases w:0+1=a.size
  .rw[iP (by simpa using w)];exact wpS_pure (hq _ _ (Sg.refl st) (B.la w Z.lst))
  .rw[iN (by simpa using w)];refine wpS_bind (wpS_get ?_);refine wpS_bind (wpS_mono (Q:=λc m=>Sg st m/\ ∃r e,c=(some r,e)/\FinA lt a b r) ?_ ?_)
   .unfold V2;refine ĉ (I:=λx c m=>Sg st m/\ ∃o i j g,c=(none,o,i,j,g)/\I1 lt a b o i j/\x+1<=o.size) ?_ ?_ ⟨Sg.refl st,_,_,_,_,rfl,⟨by lia,by lia,B⟩,by simp⟩
    .rintro n c m _ _ ⟨h,o,i,j,g,rfl,F,N⟩;refine wpS_bind (Zn Z (h.kind.trans H) #[0] F λd T=>?_);rcases T with⟨r,e,rfl,k⟩|⟨o',i',j',p',q',rfl,hI',hn'⟩
     .exact wpS_pure ⟨h,r,_,rfl,k⟩
     .dsimp only;refine wpS_bind (qB ?_);refine wpS_bind (Zo Z h H hI' hn' λe S p P=>?_);rcases P with⟨r,e,rfl,k⟩|⟨o2,i2,j2,g2,p2,q2,rfl,hI2,hn2⟩
      .exact wpS_pure ⟨p,r,_,rfl,k⟩
      .dsimp only;refine wpS_bind (FZ p λU q=>?_);exact wpS_pure ⟨q,o2,i2,j2,_,rfl,hI2,by lia⟩
    .rintro c m ⟨h,o,i,j,g,rfl,F,N⟩;have:=F.2.2.len
     lia
   .rintro c m ⟨h,r,e,rfl,k⟩;exact wpS_pure (hq r m h k)
end
end Srt
namespace Srt
open PySem PyProof.Rows
abbrev H5:=Option V×Nat×Nat×V×Nat
abbrev H6:=Option V×Nat×Nat×V×Nat×Nat
abbrev H7:=Option V×Nat×Nat×V×Nat×Nat×Nat
noncomputable abbrev Lh(a b o:V)(i j:Nat):V:=a.extract 0 i++b.extract 0 j++o.reverse
noncomputable abbrev K4(a b o:V)(i j:Nat):V:=b.extract 0 j++a.extract 0 i++o.reverse
def Zq(a b:V)(g:Nat)(c:H6):SM (ForInStep H6):=
 elem' b (c.2.2.1 - 1) >>= λy=>elem' a (c.2.1 - 1) >>= λx=>lt' y x >>= λr=>match r with
  |some q=>if q=true then elem' a (c.2.1 - 1) >>= λx=>
     if(c.2.1 - 1==0)=true then pure (.done (some (Lh a b (c.2.2.2.1.push x) (c.2.1 - 1) c.2.2.1),c.2.1 - 1,c.2.2.1,c.2.2.2.1.push x,c.2.2.2.2.1+1,0))
     else if c.2.2.2.2.1+1>=g then pure (.done (none,c.2.1 - 1,c.2.2.1,c.2.2.2.1.push x,c.2.2.2.2.1+1,0))
     else pure (.yield (none,c.2.1 - 1,c.2.2.1,c.2.2.2.1.push x,c.2.2.2.2.1+1,0))
    else elem' b (c.2.2.1 - 1) >>= λy=>
     if(c.2.2.1 - 1==1)=true then pure (.done (some (K4 a b (c.2.2.2.1.push y) c.2.1 (c.2.2.1 - 1)),c.2.1,c.2.2.1 - 1,c.2.2.2.1.push y,0,c.2.2.2.2.2+1))
     else if c.2.2.2.2.2+1>=g then pure (.done (none,c.2.1,c.2.2.1 - 1,c.2.2.2.1.push y,0,c.2.2.2.2.2+1))
     else pure (.yield (none,c.2.1,c.2.2.1 - 1,c.2.2.2.1.push y,0,c.2.2.2.2.2+1))
  |_=>pure (.done (some (Lh a b c.2.2.2.1 c.2.1 c.2.2.1),c.2.1,c.2.2.1,c.2.2.2.1,c.2.2.2.2.1,c.2.2.2.2.2))
def V3(a b:V)(t g:Nat)(c:H6):SM H6:=forIn [0:t] c λ_ c=>Zq a b g c
def zAD(a b o:V)(i j g p q:Nat):SM (ForInStep H7):=
 elem' a (i - 1) >>= λx=>if(i - 1==0)=true then pure (.done (some (Lh a b (o.push x) (i - 1) j),i - 1,j,o.push x,g,p,q))
  else if(decide (p<7)&&decide (q<7))=true then pure (.done (none,i - 1,j,o.push x,g,p,q))else pure (.yield (none,i - 1,j,o.push x,g,p,q))
def K6(a b o:V)(i j g p q:Nat):SM (ForInStep H7):=
 elem' b (j - 1) >>= λy=>if(j - 1==1)=true then pure (.done (some (K4 a b (o.push y) i (j - 1)),i,j - 1,o.push y,g,p,q))
  else elem' a (i - 1) >>= λx=>iS true x b 0 (j - 1) (j - 1 - 1) >>= λr=>match r with
   |some k=>if j - 1 - k>0 then
      if(k==1)=true then pure (.done (some (K4 a b (o.push y++(b.extract k (j - 1)).reverse) i k),i,k,o.push y++(b.extract k (j - 1)).reverse,g,p,j - 1 - k))
      else if(k==0)=true then pure (.done (some (Lh a b (o.push y++(b.extract k (j - 1)).reverse) i k),i,k,o.push y++(b.extract k (j - 1)).reverse,g,p,j - 1 - k))
      else zAD a b (o.push y++(b.extract k (j - 1)).reverse) i k g p (j - 1 - k)
     else zAD a b (o.push y) i (j - 1) g p (j - 1 - k)
   |_=>pure (.done (some (Lh a b (o.push y) i (j - 1)),i,j - 1,o.push y,g,p,q))
def Zr(a b o:V)(i j g p q:Nat):SM (ForInStep H7):=
 gZ g >>= λ_=>elem' b (j - 1) >>= λy=>iS false y a 0 i (i - 1) >>= λr=>match r with
  |some k=>if i - k>0 then
     if(k==0)=true then pure (.done (some (Lh a b (o++(a.extract k i).reverse) k j),k,j,o++(a.extract k i).reverse,g,i - k,q))
     else K6 a b (o++(a.extract k i).reverse) k j g (i - k) q
    else K6 a b o i j g (i - k) q
  |_=>pure (.done (some (Lh a b o i j),i,j,o,g,p,q))
def Pb(a b:V)(t:Nat)(c:H7):SM H7:=forIn [0:t] c λ_ c=>
 if c.2.2.2.2.1>1 then Zr a b c.2.2.2.1 c.2.1 c.2.2.1 (c.2.2.2.2.1 - 1) c.2.2.2.2.2.1 c.2.2.2.2.2.2
 else Zr a b c.2.2.2.1 c.2.1 c.2.2.1 c.2.2.2.2.1 c.2.2.2.2.2.1 c.2.2.2.2.2.2
def V4(a b:V)(t:Nat)(c:H5):SM H5:=forIn [0:t] c λ_ c=>
 V3 a b t c.2.2.2.2 (none,c.2.1,c.2.2.1,c.2.2.2.1,0,0) >>= λd=>match d.1 with
  |some r=>pure (.done (some r,d.2.1,d.2.2.1,d.2.2.2.1,c.2.2.2.2))
  |none=>liftM (rule "list.sort.gallop") >>= λ_=>Pb a b t (none,d.2.1,d.2.2.1,d.2.2.2.1,c.2.2.2.2+1,d.2.2.2.2.1,d.2.2.2.2.2) >>= λe=>match e.1 with
   |some r=>pure (.done (some r,e.2.1,e.2.2.1,e.2.2.2.1,e.2.2.2.2.1))
   |none=>gZ (e.2.2.2.2.1+1) >>= λ_=>pure (.yield (none,e.2.1,e.2.2.1,e.2.2.2.1,e.2.2.2.2.1+1))
def mHi(a b:V):SM V:=
 liftM (rule "list.sort.merge-hi") >>= λ_=>elem' a (a.size - 1) >>= λx=>if(a.size - 1==0)=true then pure (Lh a b #[x] (a.size - 1) b.size)
  else if(b.size==1)=true then pure (K4 a b #[x] (a.size - 1) b.size)
  else get >>= λst=>V4 a b (a.size+b.size) (none,a.size - 1,b.size,#[x],gallopOf st) >>= λc=>match c.1 with
   |some r=>pure r
   |none=>liftM (unsupported "internal:list.sort.merge-bound")
theorem SF(a b):HQ a b=mHi a b:=by kernel_rfl
theorem OX(v:V)(i):(v.extract 0 i).toList=v.toList.take i:=by rw[Array.toList_extract];rfl
def Zs(v:V)(t i):(v.extract t i).toList=(v.toList.take i).drop t:=by rw[Array.toList_extract,List.drop_take]
theorem HU{β:Type}{l:List β}{z:β}(h:z∈(l.take i).drop t): ∃n,t<=n/\n<i/\l[n]? =some z:=by obtain⟨j,b,a⟩:=cR h;rw[lT]at b;rw[Ċ #[0]]at a;exact⟨t+j,by lia,by lia,a⟩
def GA{β:Type}{l:List β}{x:β}(h:l[i]? =some x):l.take (i+1)=l.take i++[x]:=by obtain⟨hi,e⟩:=gS.mp h;rw[<-e];exact(List.take_append_getElem hi).symm
def ZJ{β:Type}{le:β->β->Prop}(rf: ∀x,le x x){l:List β}{x:β}(h:(l.take (i+1)).Pairwise le)(e:l[i]? =some x): ∀z,z∈l.take (i+1)->le z x:=by
 rw[GA e]at h ⊢;intro z a;rcases é.mp a with q|q
 .exact(ç.mp h).2.2 z q x (mS.mpr rfl)
 .rw[mS.mp q];exact rf x
section
variable{M:Model}{A:Around}{E:VP}{s:Ŗ}{kd:SortKind}{D:Keyed->Prop}{lt:Keyed->Keyed->Bool}{a b:V}
theorem ZK(h:(l.take n).Pairwise (Le lt))(rf: ∀x,Le lt x x):SL lt l 0 n:=by
 intro p q x y m i b a;rw[ď]at b a;by_cases e:p=q
 .subst e;rw[b]at a;cases a;exact rf x
 .obtain⟨j,c⟩:=gS.mp b;obtain⟨k,d⟩:=gS.mp a;have:=Ł.mp h p q (by rw[lT];lia) (by rw[lT];lia) #[0];rw[getElem_take,getElem_take,c,d]at this;exact this
abbrev TwoH(lt:Keyed->Keyed->Bool)(a b o:V)(i j:Nat):Prop:=TwoR (Le lt) (a.toList++b.toList) (a.toList.take i) (b.toList.take j) o.toList.reverse
def TwoH.sa(h:TwoH lt a b o i j):(a.toList.take i).Pairwise (Le lt):=(ç.mp h.hx).1
def TwoH.sb(h:TwoH lt a b o i j):(b.toList.take j).Pairwise (Le lt):=(ç.mp h.hy).1
def TwoH.pushA(h:TwoH lt a b o (i+1) j)(e:a.toList[i]? =some x)(d: ∀y,y∈b.toList.take j->Le lt y x):TwoH lt a b (o.push x) i j:=by
 have h':TwoR (Le lt) (a.toList++b.toList) (a.toList.take i++[x]) (b.toList.take j) o.toList.reverse:=by rw[<-GA e];exact h
 have:=h'.movexs λy k z c=>by rw[mS.mp c];exact d y k
 show TwoR _ _ _ _ (o.push x).toList.reverse;rw[Array.toList_push,List.reverse_append];exact this
def TwoH.pushB(h:TwoH lt a b o i (j+1))(e:b.toList[j]? =some y)(k: ∀x,x∈a.toList.take i->Le lt x y):TwoH lt a b (o.push y) i j:=by
 have h':TwoR (Le lt) (a.toList++b.toList) (a.toList.take i) (b.toList.take j++[y]) o.toList.reverse:=by rw[<-GA e];exact h
 have:=h'.moveys λx c z d=>by rw[mS.mp d];exact k x c
 show TwoR _ _ _ _ (o.push y).toList.reverse;rw[Array.toList_push,List.reverse_append];exact this
def ZL(o v:V)(t i):(o++(v.extract t i).reverse).toList.reverse=(v.toList.take i).drop t++o.toList.reverse:=by rw[ù,List.reverse_append,Array.toList_reverse,List.reverse_reverse,Zs]
def TwoH.cutA(d:t<=i)(h:TwoH lt a b o i j)(m: ∀n z,t<=n->n<i->a.toList[n]? =some z-> ∀y,y∈b.toList.take j->Le lt y z):TwoH lt a b (o++(a.extract t i).reverse) t j:=by
 have h':TwoR (Le lt) (a.toList++b.toList) (a.toList.take t++(a.toList.take i).drop t) (b.toList.take j) o.toList.reverse:=by rw[<-SD _ t i d];exact h
 have:=h'.movexs λy q z e=>by obtain⟨n,p,c,k⟩:=HU e;exact m n z p c k y q
 show TwoR _ _ _ _ (o++(a.extract t i).reverse).toList.reverse;rw[ZL];exact this
def TwoH.cutB(e:t<=j)(h:TwoH lt a b o i j)(p: ∀n z,t<=n->n<j->b.toList[n]? =some z-> ∀x,x∈a.toList.take i->Le lt x z):TwoH lt a b (o++(b.extract t j).reverse) i t:=by
 have h':TwoR (Le lt) (a.toList++b.toList) (a.toList.take i) (b.toList.take t++(b.toList.take j).drop t) o.toList.reverse:=by rw[<-SD _ t j e];exact h
 have:=h'.moveys λx c z k=>by obtain⟨n,q,d,m⟩:=HU k;exact p n z q d m x c
 show TwoR _ _ _ _ (o++(b.extract t j).reverse).toList.reverse;rw[ZL];exact this
def TwoH.dn(h:TwoH lt a b o i j)(hz:i=0\/j=0):FinA lt a b (Lh a b o i j):=by
 have e:(Lh a b o i j).toList=a.toList.take i++b.toList.take j++o.toList.reverse:=by rw[ù,ù,OX,OX,Array.toList_reverse]
 unfold FinA;rw[e];refine h.fin λx c y d=>?_;rcases hz with rfl|rfl
 .cases c
 .cases d
theorem TwoH.fb(h:TwoH lt a b o i 1)(hz: ∀x y,x∈a.toList->b.toList[0]? =some y->Le lt y x):FinA lt a b (K4 a b o i 1):=by
 have e:(K4 a b o i 1).toList=b.toList.take 1++a.toList.take i++o.toList.reverse:=by rw[ù,ù,OX,OX,Array.toList_reverse]
 unfold FinA;rw[e];refine h.swap.fin λy j x c=>?_;obtain⟨n,m,k,d⟩:=sR j;exact hz x y (ī c) (by rw[show 0=n by lia];exact d)
theorem TwoH.len(h:TwoH lt a b o i j)(c:i<=a.size)(d:j<=b.size):o.size+(i+j)=a.size+b.size:=by
 have:=h.pm.length_eq;simp only[lA,lT,List.length_reverse,ä]at this
 lia
def J1(lt:Keyed->Keyed->Bool)(a b o:V)(i j:Nat):Prop:=1<=i/\i<=a.size/\2<=j/\j<=b.size/\TwoH lt a b o i j
structure Set3(M:Model)(A:Around)(E:VP)(s:Ŗ)(kd:SortKind)(D:Keyed->Prop)(lt:Keyed->Keyed->Bool)(a b:V):Prop extends Set2 M A E s kd D lt a b where
 fst: ∀x y,x∈a.toList->b.toList[0]? =some y->Le lt y x
def R6(lt:Keyed->Keyed->Bool)(a b:V)(n:Nat)(c:H6):Prop:= ∃i j o p q,c=(none,i,j,o,p,q)/\J1 lt a b o i j/\n<=o.size
def S6(lt:Keyed->Keyed->Bool)(a b:V)(n:Nat)(c:H6):Prop:=(∃r e,c=(some r,e)/\FinA lt a b r)\/R6 lt a b n c
def R7(lt:Keyed->Keyed->Bool)(a b:V)(n:Nat)(c:H7):Prop:= ∃i j o g p q,c=(none,i,j,o,g,p,q)/\J1 lt a b o i j/\n<=o.size
def S7(lt:Keyed->Keyed->Bool)(a b:V)(n:Nat)(c:H7):Prop:=(∃r e,c=(some r,e)/\FinA lt a b r)\/R7 lt a b n c
theorem R6.mono(h:R6 lt a b n c)(e:m<=n):R6 lt a b m c:=by obtain⟨o,i,j,p,q,k,d,r⟩:=h;exact⟨o,i,j,p,q,k,d,by lia⟩
def S6.mono(h:S6 lt a b n c)(e:m<=n):S6 lt a b m c:=h.imp id λh=>h.mono e
theorem Pc(Z:Set3 M A E s kd D lt a b){st:SortSt}(J:kindOf st=kd)(h:J1 lt a b o i j)
  (hd: ∀c,S6 lt a b (o.size+1) c->Q (.done c) st) (hy: ∀c,R6 lt a b (o.size+1) c->Q (.yield c) st):wpS M A E s (Zq a b g (none,i,j,o,p,q)) Q st:=by
 obtain⟨I,F,G,H,w⟩:=h;obtain⟨i,rfl⟩: ∃k,i=k+1:=⟨i - 1,by lia⟩
 obtain⟨j,rfl⟩: ∃k,j=k+1:=⟨j - 1,by lia⟩
 obtain⟨y,n⟩:=kY (v:=b) (i:=j) #[0];obtain⟨x,u⟩:=kY (v:=a) (i:=i) #[0];have L:=ZJ Z.C.rf w.sb n;have K:=ZJ Z.C.rf w.sa u;unfold Zq;refine wpS_bind (yL n (wpS_bind (yL u (wpS_bind (Z.C.go y x (Z.db y (á n)) (Z.da x (á u)) st J _ ?_)))))
 cases e:lt y x with
 |true=>
  have m:=w.pushA u λz B=>Z.C.tr z y x (L z B) (Z.C.as y x e);have hs:(o.push x).size=o.size+1:=Ĭ ..;refine wpS_bind (yL u ?_);by_cases d:i=0
  .rw[iP (by simpa using d)];exact wpS_pure (hd _ (.inl ⟨_,_,rfl,m.dn (.inl d)⟩))
  .rw[iN (by simpa using d)];have r:J1 lt a b _ i _:=⟨by lia,by lia,G,H,m⟩
   split
   .exact wpS_pure (hd _ (.inr ⟨_,_,_,_,_,rfl,r,by lia⟩))
   .exact wpS_pure (hy _ ⟨_,_,_,_,_,rfl,r,by lia⟩)
 |false=>
  have m:=w.pushB n λz B=>Z.C.tr z x y (K z B) e;have hs:(o.push y).size=o.size+1:=Ĭ ..;refine wpS_bind (yL n ?_);by_cases d:j=1
  .rw[iP (by simpa using d)];subst d;exact wpS_pure (hd _ (.inl ⟨_,_,rfl,m.fb Z.fst⟩))
  .rw[iN (by simpa using d)];have r:J1 lt a b _ _ j:=⟨I,F,by lia,by lia,m⟩
   split
   .exact wpS_pure (hd _ (.inr ⟨_,_,_,_,_,rfl,r,by lia⟩))
   .exact wpS_pure (hy _ ⟨_,_,_,_,_,rfl,r,by lia⟩)
theorem Pd(Z:Set3 M A E s kd D lt a b){st:SortSt}(m:kindOf st=kd)(q:1<=t)(h:J1 lt a b o i j)
  (hq: ∀c,S6 lt a b (o.size+1) c->Q c st):wpS M A E s (V3 a b t g (none,i,j,o,0,0)) Q st:=by
 refine ĉ (I:=λx c d=>d=st/\R6 lt a b (o.size+x) c) ?_ ?_ ⟨rfl,i,j,o,0,0,rfl,h,by lia⟩
 .rintro x c d _ _ ⟨rfl,u,p,w,v,r,rfl,h',n⟩;refine Pc Z m h' (λc e=>hq c (e.mono #[0])) (λc e=>⟨rfl,e.mono #[0]⟩)
 .rintro c d ⟨rfl,k⟩;exact hq c (.inr (k.mono #[0]))
theorem Hx(Z:Set3 M A E s kd D lt a b){st:SortSt}(w:i+1<=a.size)(r:2<=j)(h:j<=b.size)(u:TwoH lt a b o (i+1) j)
  (hl: ∀x,a.toList[i]? =some x-> ∀y,y∈b.toList.take j->Le lt y x)  (hn:n<=o.size) 
  (hd: ∀c,S7 lt a b n c->Q (.done c) st) (hy: ∀c,R7 lt a b n c->Q (.yield c) st):wpS M A E s (zAD a b o (i+1) j g p q) Q st:=by
 obtain⟨x,d⟩:=kY (v:=a) (i:=i) #[0];have k:=u.pushA d (hl x d);have hs:(o.push x).size=o.size+1:=Ĭ ..;unfold zAD;refine wpS_bind (yL d ?_);by_cases e:i=0
 .rw[iP (by simpa using e)];exact wpS_pure (hd _ (.inl ⟨_,_,rfl,k.dn (.inl e)⟩))
 .rw[iN (by simpa using e)];have m:J1 lt a b _ i j:=⟨by lia,by lia,r,h,k⟩
  split
  .exact wpS_pure (hd _ (.inr ⟨_,_,_,_,_,_,rfl,m,by lia⟩))
  .exact wpS_pure (hy _ ⟨_,_,_,_,_,_,rfl,m,by lia⟩)
theorem Hy(Z:Set3 M A E s kd D lt a b){st:SortSt}(W:kindOf st=kd)(P:i+1<=a.size)(h2:1<=j)(aa:j+1<=b.size)(O:TwoH lt a b o (i+1) (j+1))
  (hl: ∀y,b.toList[j]? =some y-> ∀x,x∈a.toList.take (i+1)->Le lt x y)  (hn:n<=o.size) 
  (hd: ∀c,S7 lt a b n c->Q (.done c) st) (hy: ∀c,R7 lt a b n c->Q (.yield c) st):wpS M A E s (K6 a b o (i+1) (j+1) g p q) Q st:=by
 obtain⟨y,G⟩:=kY (v:=b) (i:=j) #[0];obtain⟨x,r⟩:=kY (v:=a) (i:=i) #[0];have B:=O.pushB G (hl y G);have hs:(o.push y).size=o.size+1:=Ĭ ..;have ha:=ZJ Z.C.rf O.sa r;unfold K6;simp only[Nat.add_sub_cancel];refine wpS_bind (yL G ?_);by_cases J:j=1
 .rw[iP (by simpa using J)];subst J;exact wpS_pure (hd _ (.inl ⟨_,_,rfl,B.fb Z.fst⟩))
 .rw[iN (by simpa using J)];refine wpS_bind (yL r (wpS_bind (OU Z.C W Z.db (Z.da x (á r)) #[0] #[0] (ZK B.sb Z.C.rf) λk k1 k2 k3=>?_)));dsimp only;have u: ∀h,h∈b.toList.take k->Le lt h x:=by intro h e;obtain⟨m,Y,m2,X⟩:=sR e;exact Z.C.as _ _ (k2 m h Y (by rw[ď];exact X))
  by_cases S:j - k>0
  .rw[iP S];have L:=B.cutB k1 λm z K F U w d=>Z.C.tr w x z (ha w d) (k3 m z K F (by rw[ď];exact U));have T:(o.push y++(b.extract k j).reverse).size>=o.size+1:=by rw[Array.size_append];lia
   by_cases H:k=1
   .rw[iP (by simpa using H)];subst H;exact wpS_pure (hd _ (.inl ⟨_,_,rfl,L.fb Z.fst⟩))
   .rw[iN (by simpa using H)];by_cases N:k=0
    .rw[iP (by simpa using N)];exact wpS_pure (hd _ (.inl ⟨_,_,rfl,L.dn (.inr N)⟩))
    .rw[iN (by simpa using N)];refine Hx Z P #[0] #[0] L (λw d h e=>?_) #[0] hd hy;rw[r]at d;cases d;exact u h e
  .rw[iN S];have I:k=j:=by lia
   subst I;refine Hx Z P #[0] #[0] B (λw d h e=>?_) #[0] hd hy;rw[r]at d;cases d;exact u h e
theorem Hz(Z:Set3 M A E s kd D lt a b){st:SortSt}(hg:Sg st0 st)(W:kindOf st0=kd)(h:J1 lt a b o i j)(T:n<=o.size)
   (hd: ∀c st,Sg st0 st->S7 lt a b n c->Q (.done c) st) (hy: ∀c st,Sg st0 st->R7 lt a b n c->Q (.yield c) st):
  wpS M A E s (Zr a b o i j g p q) Q st:=by
 obtain⟨h1,h2,h3,h4,I⟩:=h;obtain⟨j,rfl⟩: ∃k,j=k+1:=⟨j - 1,by lia⟩
 obtain⟨y,F⟩:=kY (v:=b) (i:=j) #[0];have hb:=ZJ Z.C.rf I.sb F;refine wpS_bind (FZ hg λaa e=>?_);have B:=e.kind.trans W;refine wpS_bind (yL F (wpS_bind (OT Z.C B Z.da (Z.db y (á F)) #[0] #[0] (ZK I.sa Z.C.rf) λk k1 k2 k3=>?_)));dsimp only;have G: ∀u,u∈a.toList.take k->Le lt u y:=by intro u r;obtain⟨m,Y,m2,X⟩:=sR r;exact k2 m u Y (by rw[ď];exact X)
 by_cases O:i - k>0
 .rw[iP O];have P:=I.cutA k1 λm z L J U H d=>Z.C.tr H y z (hb H d) (Z.C.as _ _ (k3 m z L J (by rw[ď];exact U)));have S:(o++(a.extract k i).reverse).size>=o.size:=by rw[Array.size_append];lia
  by_cases K:k=0
  .rw[iP (by simpa using K)];exact wpS_pure (hd _ _ e (.inl ⟨_,_,rfl,P.dn (.inl K)⟩))
  .rw[iN (by simpa using K)];obtain⟨k,rfl⟩: ∃m,k=m+1:=⟨k - 1,by lia⟩
   refine Hy Z B #[0] #[0] #[0] P (λH d u r=>?_) #[0] (λc w=>hd c _ e w) (λc w=>hy c _ e w);rw[F]at d;cases d;exact G u r
 .rw[iN O];have N:k=i:=by lia
  subst N;obtain⟨k,rfl⟩: ∃m,k=m+1:=⟨k - 1,by lia⟩
  refine Hy Z B #[0] #[0] #[0] I (λH d u r=>?_) T (λc w=>hd c _ e w) (λc w=>hy c _ e w);rw[F]at d;cases d;exact G u r
def Pe(Z:Set3 M A E s kd D lt a b){st:SortSt}(w:Sg st0 st)(r:kindOf st0=kd)(h:J1 lt a b o i j)(u:n<=o.size)
   (hq: ∀c st,Sg st0 st->S7 lt a b n c->Q c st):wpS M A E s (Pb a b t (none,i,j,o,g,p,q)) Q st:=by
 refine ĉ (I:=λx c e=>Sg st0 e/\R7 lt a b n c) ?_ ?_ ⟨w,i,j,o,g,p,q,rfl,h,u⟩
 .rintro x c e _ _ ⟨d,y,B,G,F,z,C,rfl,h',m⟩;split
  .exact Hz Z d r h' m (λc st hs k=>hq c st hs k) (λc st hs k=>⟨hs,k⟩)
  .exact Hz Z d r h' m (λc st hs k=>hq c st hs k) (λc st hs k=>⟨hs,k⟩)
 .rintro c e ⟨d,v⟩;exact hq c e d (.inr v)
theorem Zt(Z:Set3 M A E s kd D lt a b){st:SortSt}(F:kindOf st=kd)(sa:a.toList.Pairwise (Le lt))(sb:b.toList.Pairwise (Le lt))(H:1<=a.size)(S:1<=b.size)
   (hq: ∀r m,Sg st m->FinA lt a b r->Q r m):wpS M A E s (HQ a b) Q st:=by
 rw[SF];refine wpS_bind (qB ?_);obtain⟨x,B⟩:=kY (v:=a) (i:=a.size - 1) #[0]
 have P:TwoH lt a b #[] (a.size - 1+1) b.size:=by
  rw[Nat.sub_add_cancel H];refine⟨?_,?_,?_⟩
  .rw[ă (by simp)];simpa using sa
  .rw[ă (by simp)];simpa using sb
  .rw[ă (by simp),ă (by simp)];simp
 have u:=P.pushA B λy K=>Z.lst x y B (ī K);refine wpS_bind (yL B ?_);by_cases z:a.size - 1=0
 .rw[iP (by simpa using z)];exact wpS_pure (hq _ _ (Sg.refl st) (u.dn (.inl z)))
 .rw[iN (by simpa using z)];by_cases C:b.size=1
  .rw[iP (by simpa using C)];rw[C]at u ⊢;exact wpS_pure (hq _ _ (Sg.refl st) (u.fb Z.fst))
  .rw[iN (by simpa using C)];refine wpS_bind (wpS_get ?_);refine wpS_bind (wpS_mono (Q:=λc m=>Sg st m/\ ∃r e,c=(some r,e)/\FinA lt a b r) ?_ ?_)
   .unfold V4;refine ĉ (I:=λx c m=>Sg st m/\ ∃i j o g,c=(none,i,j,o,g)/\J1 lt a b o i j/\x+1<=o.size) ?_ ?_ ⟨Sg.refl st,_,_,_,_,rfl,⟨by lia,by lia,by lia,by lia,u⟩,by simp⟩
    .rintro n c m _ _ ⟨h,i,j,o,g,rfl,k,G⟩;refine wpS_bind (Pd Z (h.kind.trans F) #[0] k λd N=>?_);rcases N with⟨r,e,rfl,p⟩|⟨i',j',o',p',q',rfl,hI',hn'⟩
     .exact wpS_pure ⟨h,r,_,rfl,p⟩
     .dsimp only;refine wpS_bind (qB ?_);refine wpS_bind (Pe Z h F hI' hn' λe L q O=>?_);rcases O with⟨r,e,rfl,p⟩|⟨i2,j2,o2,g2,p2,q2,rfl,hI2,hn2⟩
      .exact wpS_pure ⟨q,r,_,rfl,p⟩
      .dsimp only;refine wpS_bind (FZ q λJ w=>?_);exact wpS_pure ⟨w,i2,j2,o2,_,rfl,hI2,by lia⟩
    .rintro c m ⟨h,i,j,o,g,rfl,k,G⟩;have:=k.2.2.2.2.len k.2.1 k.2.2.2.1
     lia
   .rintro c m ⟨h,r,e,rfl,p⟩;exact wpS_pure (hq r m h p)
end
end Srt
namespace Srt
open PySem PyProof.Rows
abbrev C2:=Option (Option Nat)×Nat
abbrev C3:=Option (Option Nat)×Nat×Nat
def Zu(lo a n:Nat):SM C2:=forIn [a:n] ((none,a):C2) λ_ c=>ltAt' (lo+c.2) (lo+c.2 - 1) >>= λo=>match o with
 |some q=>if q=true then pure (.done (none,c.2))else pure (.yield (none,c.2+1))
 |_=>pure (.done (some none,c.2))
def tl3(lo m n:Nat):SM (Option Nat):=reverseSlice' lo (lo+m) >>= λ_=>Zu lo m n >>= λc=>match c.1 with
 |some r=>pure r
 |none=>pure (some c.2)
noncomputable def V5(lo a n:Nat):SM C3:=forIn [a:n] ((none,a,0):C3) λ_ c=>ltAt' (lo+c.2.1) (lo+c.2.1 - 1) >>= λo=>match o with
 |some q=>if q=true then
    if c.2.2>0 then reverseSlice' (lo+c.2.1 - (c.2.2+1)) (lo+c.2.1) >>= λ_=>pure (.yield (none,c.2.1+1,0))else pure (.yield (none,c.2.1+1,0))
   else ltAt' (lo+c.2.1 - 1) (lo+c.2.1) >>= λo=>match o with
    |some q=>if q=true then pure (.done (none,c.2.1,c.2.2))else pure (.yield (none,c.2.1+1,c.2.2+1))
    |_=>pure (.done (some none,c.2.1,c.2.2))
 |_=>pure (.done (some none,c.2.1,c.2.2))
def Zv(lo m n:Nat):SM (Option Nat):=liftM (rule "list.sort.descending-run") >>= λ_=>V5 lo (m+1) n >>= λc=>match c.1 with
 |some r=>pure r
 |none=>if c.2.2>0 then reverseSlice' (lo+c.2.1 - (c.2.2+1)) (lo+c.2.1) >>= λ_=>tl3 lo c.2.1 n else tl3 lo c.2.1 n
def cntR(lo n:Nat):SM (Option Nat):=Zu lo 1 n >>= λc=>match c.1 with
 |some r=>pure r
 |none=>if(c.2==n)=true then pure (some c.2)else if c.2>1 then ltAt' lo (lo+c.2 - 1) >>= λo=>(match o with
    |some q=>if q=true then pure (some c.2)else reverseSlice' lo (lo+c.2) >>= λ_=>Zv lo c.2 n
    |_=>pure none)
   else Zv lo c.2 n
theorem LA(lo n):countRun' lo n=cntR lo n:=by kernel_rfl
def binI(lo k:Nat):SM (Option Bool×Nat×Nat):=forIn [0:k] ((none,0,k):Option Bool×Nat×Nat) λ_ c=>
 if c.2.1>=c.2.2 then pure (.done (none,c.2.1,c.2.2))else ltAt' (lo+k) (lo+(c.2.1+c.2.2) / 2) >>= λo=>match o with
  |some q=>if q=true then pure (.yield (none,c.2.1,(c.2.1+c.2.2) / 2))else pure (.yield (none,(c.2.1+c.2.2) / 2+1,c.2.2))
  |_=>pure (.done (some false,c.2.1,c.2.2))
def V6(lo n ok:Nat):SM Bool:=(forIn [max ok 1:n] ((none,()):Option Bool×Unit) λk _=>binI lo k >>= λc=>match c.1 with
  |some r=>pure (.done (some r,()))
  |none=>moveDown' (lo+k) (lo+c.2.1) >>= λ_=>pure (.yield (none,()))) >>= λc=>match c.1 with
 |some r=>pure r
 |none=>pure true
theorem FQ(lo n ok):binarySort' lo n ok=V6 lo n ok:=by kernel_rfl
noncomputable def Kx(d:Keyed)(v:V)(i:Nat):Keyed:=(v[i]?).getD d
def sS(h:v[i]? =u[j]?):Kx d v i=Kx d u j:=by unfold Kx;rw[h]
def DC(b:j<=v.size)(k):Kx d (mirror v i j ((j - i) / 2)) k=if i<=k/\k<j then Kx d v (i+j - 1 - k)else Kx d v k:=by
 have e:=getElem?_mirror_all (i:=i) b k;by_cases a:i<=k/\k<j
 .rw[iP a]at e ⊢; exact sS e
 .rw[iN a]at e ⊢; exact sS e
def MI(hs:src<v.size)(c:m<=src)(k):
  Kx d (bubble v src m) k=if k=src - m then Kx d v src else if src - m<k/\k<=src then Kx d v (k - 1)else Kx d v k:=by
 have e:=getElem?_bubble hs m c k;by_cases b:k=src - m
 .rw[iP b]at e ⊢; exact sS e
 .rw[iN b]at e ⊢;by_cases a:src - m<k/\k<=src
  .rw[iP a]at e ⊢; exact sS e
  .rw[iN a]at e ⊢; exact sS e
structure SB(a₀:V)(kd:SortKind)(pd:Array (Nat×Nat×Nat))(f:V)(lo:Nat)(st:SortSt):Prop where
 pm:(arrOf st).Perm a₀
 kind:kindOf st=kd
 fl:failedOf st=none
 pd:pendingOf st=pd
 fx: ∀i,i<lo->(arrOf st)[i]? =f[i]?
section
variable{pd:Array (Nat×Nat×Nat)}{lo:Nat}{st:SortSt}
def SB.size(h:SB a₀ kd pd f lo st):(arrOf st).size=a₀.size:=h.pm.size_eq
theorem SB.rev(h:SB a₀ kd pd f lo st)(hi:lo<=i)(a:j<=a₀.size):SB a₀ kd pd f lo (setArr st (mirror (arrOf st) i j ((j - i) / 2))):=
 ⟨(mirror_perm _ _ _ _).trans h.pm,h.kind,h.fl,h.pd,λk b=>by rw[getElem?_mirror_all (by rw[h.size];exact a),iN #[0]];exact h.fx k b⟩
theorem SB.bub(h:SB a₀ kd pd f lo st)(hi:lo+m<=i)(a:i<a₀.size):SB a₀ kd pd f lo (setArr st (bubble (arrOf st) i m)):=
 ⟨(bubble_perm _ _ _).trans h.pm,h.kind,h.fl,h.pd,λk b=>by rw[getElem?_bubble (by rw[h.size];exact a) _ #[0],iN #[0],iN #[0]];exact h.fx k b⟩
def AH(C:Cmp M A E s kd D lt)(h:SB a₀ kd pd f lo st)(c: ∀x,x∈a₀.toList->D x)(hi:i<a₀.size)(k:j<a₀.size)
  (hq:Q (some (lt (Kx d (arrOf st) i) (Kx d (arrOf st) j))) st):wpS M A E s (ltAt' i j) Q st:=by
 obtain⟨x,a⟩:=kY (by rw[h.size];exact hi);obtain⟨y,b⟩:=kY (by rw[h.size];exact k);have m:=(Ļ.mp h.pm).mem_iff.mp (á a);have n:=(Ļ.mp h.pm).mem_iff.mp (á b);have e:Kx d (arrOf st) i=x:=by unfold Kx;rw[<-í,a];rfl
 have o:Kx d (arrOf st) j=y:=by unfold Kx;rw[<-í,b];rfl
 rw[e,o]at hq;refine wpS_bind (wpS_get ?_);exact wpS_bind (yL a (wpS_bind (yL b (C.go x y (c x m) (c y n) st h.kind _ hq))))
def OY(h:Q () (setArr st (mirror (arrOf st) i j ((j - i) / 2)))):wpS M A E s (reverseSlice' i j) Q st:=by rw[reverseSlice'_eq];exact wpS_modify h
def Up(lt:Keyed->Keyed->Bool)(d:Keyed)(v:V)(lo n:Nat):Prop:= ∀i j,i<=j->j<n->Le lt (Kx d v (lo+i)) (Kx d v (lo+j))
def Dn(lt:Keyed->Keyed->Bool)(d:Keyed)(v:V)(lo n:Nat):Prop:= ∀i j,i<=j->j<n->Le lt (Kx d v (lo+j)) (Kx d v (lo+i))
theorem Up.step(C:Cmp M A E s kd D lt)(hs:Up lt d v lo x)(hx:1<=x)(h:lt (Kx d v (lo+x)) (Kx d v (lo+x - 1))=false):Up lt d v lo (x+1):=by
 intro i j e k;by_cases b:j<x
 .exact hs i j e b
 .have a:j=x:=by lia
  subst a;by_cases c:i=j
  .subst c;exact C.rf _
  .have:=hs i (j - 1) #[0] #[0];rw[show lo+(j - 1)=lo+j - 1 by lia]at this;exact C.tr _ _ _ this h
theorem ZM(C:Cmp M A E s kd D lt)(o: ∀x,x∈a₀.toList->D x)(h:SB a₀ kd pd f lo st)(q:lo+n<=a₀.size)(r:1<=a)(i:a<=n)(hs:Up lt d (arrOf st) lo a)
  (hq: ∀m,a<=m->m<=n->Up lt d (arrOf st) lo m->(m=n\/lt (Kx d (arrOf st) (lo+m)) (Kx d (arrOf st) (lo+m - 1))=true)->Q (none,m) st):wpS M A E s (Zu lo a n) Q st:=by
 refine ĉ (I:=λx c e=>e=st/\c=(none,x)/\Up lt d _ lo x) ?_ ?_ ⟨rfl,rfl,hs⟩
 .rintro x c e j p ⟨rfl,rfl,b⟩;refine wpS_bind (AH (d:=d) C h o #[0] #[0] ?_)
  cases k:lt _ _ with
  |true=>exact wpS_pure (hq x j #[0] b (.inr k))
  |false=>exact wpS_pure ⟨rfl,rfl,b.step C #[0] k⟩
 .rintro c e ⟨rfl,rfl,b⟩;rw[show max a n=n by lia]at b ⊢;exact hq n i (à _) b (.inl rfl)
theorem Up.of_mirror(h:SB a₀ kd pd f lo st)(a:lo+m<=a₀.size)(hs:Dn lt d (arrOf st) lo m):Up lt d (mirror (arrOf st) lo (lo+m) ((lo+m - lo) / 2)) lo m:=by intro i j b c;rw[DC (by rw[h.size];exact a),DC (by rw[h.size];exact a),iP #[0],iP #[0]];have:=hs (m - 1 - j) (m - 1 - i) (by omega) (by omega);rw[show lo+(m - 1 - j)=lo+(lo+m) - 1 - (lo+j) by omega,show lo+_=lo+(lo+m) - 1 - (lo+i) by omega]at this;exact this
theorem Ia(C:Cmp M A E s kd D lt)(c: ∀x,x∈a₀.toList->D x)(h:SB a₀ kd pd f lo st)(a:lo+n<=a₀.size)(i:1<=m)(o:m<=n)(hs:Dn lt d (arrOf st) lo m)
  (hq: ∀m q,SB a₀ kd pd f lo q->1<=m->m<=n->Up lt d (arrOf q) lo m->Q (some m) q):wpS M A E s (tl3 lo m n) Q st:=by
 refine wpS_bind (OY ?_);have h':=h.rev (j:=lo+m) (à _) #[0];exact wpS_bind (ZM C c h' a i o (Up.of_mirror h #[0] hs) λk p b e _=>wpS_pure (hq k _ h' #[0] b e))
def V7(lt:Keyed->Keyed->Bool)(d:Keyed)(v:V)(i j:Nat):Prop:= ∀k l,i<=k->k<j->i<=l->l<j->Le lt (Kx d v k) (Kx d v l)
def Dn.mirror(C:Cmp M A E s kd D lt)(h:SB a₀ kd pd f lo st)(e:j<=a₀.size)(c:V7 lt d (arrOf st) i j)(hs:Dn lt d (arrOf st) lo n):Dn lt d (mirror (arrOf st) i j ((j - i) / 2)) lo n:=by
 have a: ∀k,Le lt (Kx d (PyProof.Rows.mirror (arrOf st) i j ((j - i) / 2)) k) (Kx d (arrOf st) k)/\Le lt (Kx d (arrOf st) k) (Kx d (PyProof.Rows.mirror (arrOf st) i j ((j - i) / 2)) k):=by
  intro k;rw[DC (by rw[h.size];exact e)];split
  .exact⟨c _ _ (by omega) (by omega) (by omega) (by omega),c _ _ (by omega) (by omega) (by omega) (by omega)⟩
  .exact⟨C.rf _,C.rf _⟩
 intro p q b m;exact C.tr _ _ _ (a _).1 (C.tr _ _ _ (hs p q b m) (a _).2)
theorem Pf(C:Cmp M A E s kd D lt)(K: ∀x,x∈a₀.toList->D x)(h:SB a₀ kd pd f lo st)(X:lo+n<=a₀.size)(G:1<=a)(B:a<=n)(hs:Dn lt d (arrOf st) lo a)
  (hq: ∀m e q,SB a₀ kd pd f lo q->a<=m->m<=n->Dn lt d (arrOf q) lo m->e+1<=m->V7 lt d (arrOf q) (lo+m - (e+1)) (lo+m)->Q (none,m,e) q):wpS M A E s (V5 lo a n) Q st:=by
 refine ĉ (I:=λx c q=> ∃e,c=(none,x,e)/\SB a₀ kd pd f lo q/\Dn lt d (arrOf q) lo x/\e+1<=x/\V7 lt d (arrOf q) (lo+x - (e+1)) (lo+x)) ?_ ?_
  ⟨0,rfl,h,hs,by lia,λk l G S O T=>by rw[show k=l by lia];exact C.rf _⟩
 .rintro x c q F U ⟨e,rfl,o,b,p,r⟩;have one: ∀v:V,V7 lt d v (lo+(x+1) - (0+1)) (lo+(x+1)):=λv k l G S O T=>by rw[show k=l by lia];exact C.rf _
  refine wpS_bind (AH (d:=d) C o K #[0] #[0] ?_)
  cases J:lt _ _ with
  |true=>
   have H:Dn lt d (arrOf q) lo (x+1):=by
    intro i j z W;by_cases u:j<x
    .exact b i j z u
    .have w:j=x:=by lia
     subst w;by_cases y:i=j
     .subst y;exact C.rf _
     .have:=b i (j - 1) #[0] #[0];rw[show lo+_=lo+j - 1 by lia]at this;exact C.tr _ _ _ (C.as _ _ J) this
   dsimp only;rw[iP rfl];by_cases N:e>0
   .rw[iP N];refine wpS_bind (OY (wpS_pure ⟨0,rfl,o.rev #[0] #[0],H.mirror C o #[0] r,by lia,one _⟩))
   .rw[iN N];exact wpS_pure ⟨0,rfl,o,H,by lia,one _⟩
  |false=>
   dsimp only;rw[iN (by simp)];refine wpS_bind (AH (d:=d) C o K #[0] #[0] ?_)
   cases L:lt _ _ with
   |true=>exact wpS_pure (hq x e q o F #[0] b p r)
   |false=>
    refine wpS_pure ⟨_,rfl,o,λi j z W=>?_,by lia,λk l k1 Z k3 Y=>?_⟩
    .by_cases u:j<x
     .exact b i j z u
     .have w:j=x:=by lia
      subst w;by_cases y:i=j
      .subst y;exact C.rf _
      .have:=b i (j - 1) #[0] #[0];rw[show lo+_=lo+j - 1 by lia]at this;exact C.tr _ _ _ L this
    .by_cases P:k=lo+x
     .subst P;by_cases cl:l=lo+x
      .subst cl;exact C.rf _
      .exact C.tr _ _ _ L (r _ _ #[0] #[0] #[0] #[0])
     .by_cases cl:l=lo+x
      .subst cl;exact C.tr _ _ _ (r k _ #[0] #[0] #[0] #[0]) J
      .exact r _ _ #[0] #[0] #[0] #[0]
 .rintro c q ⟨e,rfl,o,b,p,r⟩;rw[show max a n=n by lia]at b p r ⊢;exact hq n e q o B (à _) b p r
theorem ZN(C:Cmp M A E s kd D lt)(b: ∀x,x∈a₀.toList->D x)(h:SB a₀ kd pd f lo st)(a:lo+n<=a₀.size)(r:m+1<=n)(hs:Dn lt d (arrOf st) lo (m+1))
  (hq: ∀m j,SB a₀ kd pd f lo j->1<=m->m<=n->Up lt d (arrOf j) lo m->Q (some m) j):wpS M A E s (Zv lo m n) Q st:=by
 refine wpS_bind (qB ?_);refine wpS_bind (Pf C b h a #[0] r hs λk e j c u i o v q=>?_);by_cases p:e>0
 .rw[iP p];exact wpS_bind (OY (Ia C b (c.rev #[0] #[0]) a #[0] i (o.mirror C c #[0] q) hq))
 .rw[iN p];exact Ia C b c a #[0] i o hq
theorem Pg(C:Cmp M A E s kd D lt)(e: ∀x,x∈a₀.toList->D x)(h:SB a₀ kd pd f lo st)(o:lo+n<=a₀.size)(I:1<=n)
  (hq: ∀m q,SB a₀ kd pd f lo q->1<=m->m<=n->Up lt d (arrOf q) lo m->Q (some m) q):wpS M A E s (countRun' lo n) Q st:=by
 rw[LA];refine wpS_bind (ZM (d:=d) C e h o (à 1) I (λi j c y=>by rw[show i=j by lia];exact C.rf _) λm F v hs p=>?_);by_cases u:m=n
 .rw[iP (by simpa using u)];exact wpS_pure (hq m st h F v hs)
 .rw[iN (by simpa using u)];have b:=p.resolve_left u;by_cases B:m>1
  .rw[iP B];refine wpS_bind (AH (d:=d) C h e #[0] #[0] ?_)
   cases H:lt _ _ with
   |true=>exact wpS_pure (hq m st h F v hs)
   |false=>
    have all:V7 lt d (arrOf st) lo (lo+m):=by intro k l L J K N;have z:=hs 0 (l - lo) #[0] #[0];have w:=hs (k - lo) (m - 1) #[0] #[0];rw[show lo+0=lo by lia,show lo+_=l by lia]at z;rw[show lo+_=k by lia,show lo+_=lo+m - 1 by lia]at w;exact C.tr _ _ _ w (C.tr _ _ _ H z)
    have dn:Dn lt d (arrOf st) lo (m+1):=by
     intro i j c y;by_cases G:j<m
     .exact all _ _ #[0] #[0] #[0] #[0]
     .have r:j=m:=by lia
      subst r;by_cases a:i=j
      .subst a;exact C.rf _
      .exact C.tr _ _ _ (C.as _ _ b) (all _ _ #[0] #[0] #[0] #[0])
    dsimp only;exact wpS_bind (OY (ZN C e (h.rev (à _) #[0]) o #[0] (dn.mirror C h #[0] all) hq))
  .rw[iN B];have:m=1:=by lia
   subst this;refine ZN C e h o #[0] (λi j c y=>?_) hq;by_cases a:i=j
   .subst a;exact C.rf _
   .rw[show i=0 by lia,show j=1 by lia];exact C.as _ _ b
theorem Ph(C:Cmp M A E s kd D lt)(J: ∀x,x∈a₀.toList->D x)(h:SB a₀ kd pd f lo st)(U:lo+n<=a₀.size)(K:ok<=n)(hs:Up lt d (arrOf st) lo ok)
  (hq: ∀m,SB a₀ kd pd f lo m->Up lt d (arrOf m) lo n->Q true m):wpS M A E s (binarySort' lo n ok) Q st:=by
 rw[FQ];unfold V6
 refine wpS_bind (wpS_mono (ĉ (I:=λk c m=>c=(none,())/\SB a₀ kd pd f lo m/\Up lt d (arrOf m) lo (min k n))
  (Q:=λc m=>c=(none,())/\SB a₀ kd pd f lo m/\Up lt d (arrOf m) lo n) ?_ ?_ ?_) ?_)
 .rintro k c m L P ⟨rfl,q,b⟩;rw[show min k n=k by lia]at b;unfold binI
  refine wpS_bind (wpS_mono (ĉ (I:=λx c a=>a=m/\ ∃l r,c=(none,l,r)/\l<=r/\r<=k/\r - l<=k - x/\
    (∀i,i<l->Le lt (Kx d (arrOf m) (lo+i)) (Kx d (arrOf m) (lo+k)))/\(∀i,r<=i->i<k->Le lt (Kx d (arrOf m) (lo+k)) (Kx d (arrOf m) (lo+i))))
   (Q:=λc a=>a=m/\ ∃l r,c=(none,l,r)/\l<=k/\
    (∀i,i<l->Le lt (Kx d (arrOf m) (lo+i)) (Kx d (arrOf m) (lo+k)))/\(∀i,l<=i->i<k->Le lt (Kx d (arrOf m) (lo+k)) (Kx d (arrOf m) (lo+i)))) ?_ ?_ ?_) ?_)
  .rintro x c a _ N ⟨rfl,l,r,rfl,B,p,T,o,e⟩;dsimp only;by_cases w:l>=r
   .rw[iP w];have:l=r:=by lia
    subst this;exact wpS_pure ⟨rfl,l,l,rfl,p,o,e⟩
   .rw[iN w];refine wpS_bind (AH (d:=d) C q J #[0] #[0] ?_)
    cases G:lt _ _ with
    |true=>exact wpS_pure ⟨rfl,l,_,rfl,by lia,by lia,by lia,o,λi z F=>C.tr _ _ _ (C.as _ _ G) (b _ _ z F)⟩
    |false=>exact wpS_pure ⟨rfl,_,r,rfl,by lia,by lia,by lia,λi z=>C.tr _ _ _ (b i _ #[0] #[0]) G,e⟩
  .rintro c a ⟨rfl,l,r,rfl,B,p,T,o,e⟩;have:l=r:=by lia
   subst this;exact⟨rfl,l,l,rfl,p,o,e⟩
  .exact⟨rfl,0,k,rfl,by lia,by lia,by lia,λi hi=>by lia,λi z F=>by lia⟩
  .rintro c a ⟨rfl,l,r,rfl,H,o,e⟩;dsimp only;rw[moveDown'_eq];have v:lo+k<(arrOf a).size:=by rw[q.size];lia
   refine wpS_bind (wpS_modify (wpS_pure ⟨rfl,?_,?_⟩))
   .exact q.bub #[0] #[0]
   .rw[show min _ n=k+1 by lia];intro i j y O;show Le lt _ _;rw[MI v #[0],MI v #[0],show lo+k - _=lo+l by lia];have u: ∀i,1<=i->lo+i - 1=lo+(i - 1):=λi hi=>by lia
    repeat' split
    all_goals first
     |(exfalso;lia)
     |exact C.rf _
     |exact o _ #[0]
     |(rw[u _ #[0]];exact e _ #[0] #[0])
     |exact e _ #[0] #[0]
     |exact b _ _ #[0] #[0]
     |(rw[u i #[0]];exact b _ _ #[0] #[0])
     |(rw[u j #[0]];exact b _ _ #[0] #[0])
     |(rw[u i #[0],u j #[0]];exact b _ _ #[0] #[0])
     |(rw[u i #[0]];exact o _ #[0])
 .rintro c m ⟨S,q,b⟩;refine⟨S,q,?_⟩;rwa [show min _ n=n by lia]at b
 .refine⟨rfl,h,λi j y O=>?_⟩;by_cases z:ok=0
  .rw[show i=j by lia];exact C.rf _
  .exact hs i j y #[0]
 .rintro c m ⟨rfl,q,b⟩;exact wpS_pure (hq m q b)
end
end Srt
namespace Srt
open PySem PyProof.Rows
noncomputable abbrev putAll(w:V)(p:Nat)(v:V):V:=w.toList.zipIdx.foldl (λa (x,j)=>a.setIfInBounds (p+j) x) v
def Ib(p:Nat)(w:V):SM Bool:=(modify λs=>setArr s (putAll w p (arrOf s))) >>= λ_=>get >>= λs=>pure (failedOf s).isNone
def mAt(i:Nat):SM Bool:=get >>= λst=>match (pendingOf st)[i]?,(pendingOf st)[i+1]? with
 |some (sa,na,pw),some (sb,nb,_)=>set (setPending st (((pendingOf st).setIfInBounds i (sa,na+nb,pw)).eraseIdxIfInBounds (i+1))) >>= λ_=>
  elem' (arrOf st) sb >>= λy=>iS false y (arrOf st) sa na 0 >>= λr=>(match r with
   |some k=>if(na - k==0)=true then pure true else elem' (arrOf st) (sa+k+(na - k) - 1) >>= λx=>iS true x (arrOf st) sb nb (nb - 1) >>= λr=>(match r with
    |some m=>if(m==0)=true then pure true
      else if na - k<=m then HP ((arrOf st).extract (sa+k) sb) ((arrOf st).extract sb (sb+m)) >>= λw=>Ib (sa+k) w
      else HQ ((arrOf st).extract (sa+k) sb) ((arrOf st).extract sb (sb+m)) >>= λw=>Ib (sa+k) w
    |_=>pure false)
   |_=>pure false)
 |_,_=>liftM (unsupported "internal:list.sort.pending")
theorem SH(i):mergeAt' i=mAt i:=by kernel_rfl
theorem ER(p): ∀ ws  k (v:V),p+k+ws.length<=v.size->
  ((ws.zipIdx k).foldl (λa (x,j)=>a.setIfInBounds (p+j) x) v).toList=v.toList.take (p+k)++ws++v.toList.drop (p+k+ws.length)
 |[],k,v,_=>by simp
 |x::t,k,v,h=>by
  rw[zipIdx_cons,ĥ];have d:p+(k+1)+t.length<=(v.setIfInBounds (p+k) x).size:=by rw[Array.size_setIfInBounds];simp only[lC]at h;lia
  rw[ER p t _ _ d];simp only[lC]at h ⊢;have e:(v.setIfInBounds (p+k) x).toList=v.toList.set _ x:=Array.toList_setIfInBounds ..;rw[e]
  have c:(v.toList.set (p+k) x).take (p+(k+1))=v.toList.take (p+k)++[x]:=by
   rw[show p+_=p+k+1 by lia];have b:(v.toList.set (p+k) x)[p+k]? =some x:=by rw[č];simp;lia
   rw[GA b,List.take_set_of_le (à _)]
  rw[c,List.drop_set_of_lt #[0]];rw[show p+_+t.length=p+k+(t.length+1) by lia];simp only[aA,List.cons_append,Ħ]
section
variable{kd:SortKind}{lt:Keyed->Keyed->Bool}{a₀:V}{pd:Array (Nat×Nat×Nat)}{lo:Nat}{st:SortSt}
def Up.sl(h:Up lt d v lo n):SL lt v.toList lo n:=by
 intro i j x y e a b k;have c:Kx d v (lo+i)=x:=by unfold Kx;rw[<-í,b];rfl
 have m:Kx d v (lo+j)=y:=by unfold Kx;rw[<-í,k];rfl
 have:=h i j e a;rw[c,m]at this;exact this
theorem SL.pw(h:SL lt l lo n):((l.drop lo).take n).Pairwise (Le lt):=by rw[Ł];intro i j hi a b;rw[lT]at hi a;rw[getElem_take,getElem_take,getElem_drop,getElem_drop];exact h i j _ _ #[0] #[0] (gE _) (gE _)
def four{β:Type}{le:β->β->Prop}{A1 A2 B1 B2 W:List β}(h:(A1++A2).Pairwise le)(i:(B1++B2).Pairwise le)(e: ∀z,z∈A1-> ∀w,w∈B1++B2->le z w)(d: ∀z,z∈A1++A2-> ∀w,w∈B2->le z w)
  (hW:W.Pairwise le) (pW:W.Perm (A2++B1)):(A1++W++B2).Pairwise le/\(A1++W++B2).Perm (A1++(A2++(B1++B2))):=by
 have a:=ç.mp h;have b:=ç.mp i;refine⟨ç.mpr ⟨ç.mpr ⟨a.1,hW,λz c w hw=>?_⟩,b.2.1,λz c w hw=>?_⟩,?_⟩
 .rcases é.mp (pW.mem_iff.mp hw)with q|q
  .exact a.2.2 z c w q
  .exact e z c w (Ĝ _ q)
 .rcases é.mp c with q|q
  .exact d z (Ĝ _ q) w hw
  .rcases é.mp (pW.mem_iff.mp q)with r|r
   .exact d z (ñ _ r) w hw
   .exact b.2.2 z r w hw
 .rw[<-aA A2 B1 B2, <-aA];exact(pW.append_left A1).append_right B2
structure Out(a₀:V)(kd:SortKind)(lt:Keyed->Keyed->Bool)(n:Nat)(st:SortSt):Prop where
 pm:(arrOf st).toList.Perm a₀.toList
 kind:kindOf st=kd
 fl:failedOf st=none
 pd: ∃w,pendingOf st=#[(0,n,w)]
 so:(arrOf st).toList.Pairwise (Le lt)
end
end Srt
namespace Srt
open PySem PyProof.Rows
abbrev U2:=Option Unit×Nat
abbrev U1:=Option Unit×Unit
def zAE(lo n:Nat):SM (ForInStep U2):=(modify λs=>setPending s ((pendingOf s).push (lo,n,0))) >>= λ_=>pure (.yield (none,lo+n))
def zAF(N lo n:Nat):SM (ForInStep U2):=get >>= λst=>match (pendingOf st).back? with
 |some (a,b,_)=>(forIn [0:N] ((none,()):U1) λ_ _=>get >>= λst=>(match (if(pendingOf st).size>1 then(pendingOf st)[(pendingOf st).size - 2]? else none)with
   |some (_,_,z)=>if z<=power' N (2 * a+b) (2 * a+b+b+n) N then pure (.done (none,()))else mergeAt' ((pendingOf st).size - 2) >>= λq=>if(!q)=true then pure (.done (some (),()))else pure (.yield (none,()))
   |_=>pure (.done (none,())))) >>= λc=>(match c.1 with
  |some r=>pure (.done (some r,lo))
  |none=>(modify λs=>setPending s ((pendingOf s).modify ((pendingOf s).size - 1) λ(u,v,_)=>(u,v,power' N (2 * a+b) (2 * a+b+b+n) N))) >>= λ_=>zAE lo n)
 |_=>zAE lo n
def runs(N r:Nat):SM U2:=forIn [0:N] ((none,0):U2) λ_ c=>if c.2>=N then pure (.done (none,c.2))else countRun' c.2 (N - c.2) >>= λo=>match o with
 |some m=>if m<r then liftM (rule "list.sort.binary-insertion") >>= λ_=>binarySort' c.2 (min (N - c.2) r) m >>= λq=>if(!q)=true then pure (.done (some (),c.2))else zAF N c.2 (min (N - c.2) r)
   else zAF N c.2 m
 |_=>pure (.done (some (),c.2))
def Zw(N:Nat):SM U1:=forIn [0:N] ((none,()):U1) λ_ _=>get >>= λst=>if(pendingOf st).size<=1 then pure (.done (none,()))else
 mergeAt' (if Option.any (λx=>decide (x<((pendingOf st)[(pendingOf st).size - 2+1]?).elim 0 λx=>x.2.1)) (if(pendingOf st).size - 2>0 then Option.map (λx=>x.2.1) (pendingOf st)[(pendingOf st).size - 2 - 1]? else none)=true
  then(pendingOf st).size - 2 - 1 else(pendingOf st).size - 2) >>= λq=>if(!q)=true then pure (.done (some (),()))else pure (.yield (none,()))
def V8:SM Unit:=get >>= λst=>runs (arrOf st).size (minRun' (arrOf st).size (arrOf st).size 0) >>= λc=>match c.1 with
 |some r=>pure r
 |none=>Zw (arrOf st).size >>= λc=>match c.1 with
  |some r=>pure r
  |none=>pure ()
section
variable{lo:Nat}{st:SortSt}
def zAG(a₀:V)(lt:Keyed->Keyed->Bool)(st:SortSt):Prop:=(arrOf st).toList.Perm a₀.toList/\failedOf st=none/\(arrOf st).toList.Pairwise (Le lt)
end
end Srt
namespace Srt
open PySem PyProof.Rows
def GB{β:Type}(l:List β)(p m n):(l.drop p).take (m+n)=(l.drop p).take m++(l.drop (p+m)).take n:=by rw[take_add,List.drop_drop]
def SI{β:Type}(l:List β)(p k):l.take (p+k)=l.take p++(l.drop p).take k:=by rw[take_add]
theorem erS{β:Type}(A B)(x y z:β):((A++x::y::B).toArray.setIfInBounds A.length z).eraseIdxIfInBounds (A.length+1)=(A++z::B).toArray:=by
 have a:(A++x::y::B).toArray.setIfInBounds A.length z=(A++z::y::B).toArray:=by apply Array.toList_inj.mp;rw[Array.toList_setIfInBounds];simp
 rw[a];unfold Array.eraseIdxIfInBounds;rw[dif_pos (by simp)];apply Array.toList_inj.mp;rw[Array.toList_eraseIdx];show(A++z::y::B).eraseIdx (A.length+1)=A++z::B;rw[List.eraseIdx_append_of_length_le (by omega)];rw[show A.length+1 - A.length=1 by omega];rfl
section
variable{kd:SortKind}{lt:Keyed->Keyed->Bool}{a₀:V}{pd:Array (Nat×Nat×Nat)}{st:SortSt}
def Tl(rf: ∀x,Le lt x x)(h:((l.drop p).take n).Pairwise (Le lt)):SL lt l p n:=by
 intro i j x y r k b a;rcases Nat.lt_or_ge i j with h'|h'
 .have c:((l.drop p).take n)[i]? =some x:=by rw[Ċ (by omega),getElem?_drop];exact b
  have q:((l.drop p).take n)[j]? =some y:=by rw[Ċ k,getElem?_drop];exact a
  obtain⟨d,m⟩:=gS.mp c;obtain⟨e,o⟩:=gS.mp q;have:=Ł.mp h i j d e h';rw[m,o]at this;exact this
 .have:i=j:=by omega
  subst this;rw[b]at a;cases a;exact rf x
structure OutG(a₀:V)(kd:SortKind)(lt:Keyed->Keyed->Bool)(l:List Keyed)(p n:Nat)(rs:List (Nat×Nat×Nat))(st:SortSt):Prop where
 pm:(arrOf st).toList.Perm a₀.toList
 kind:kindOf st=kd
 fl:failedOf st=none
 pd:pendingOf st=rs.toArray
 so:SL lt (arrOf st).toList p n
 ot: ∀j,j<p\/p+n<=j->(arrOf st).toList[j]? =l[j]?
def Ic(h:kindOf st=kd)(b:failedOf st=none)(c:pendingOf st=rs.toArray)
  (hl:q+w.size<=(arrOf st).size) (e:(arrOf st).toList.take q++w.toList++(arrOf st).toList.drop (q+w.size)=l') (h1:SL lt l' p n) (h2:l'.Perm a₀.toList) (h3: ∀j,j<p\/p+n<=j->l'[j]? =l[j]?)
   (hq: ∀d,OutG a₀ kd lt l p n rs d->Q true d):wpS M A E s (Ib q w) Q st:=by
 have a:(putAll w q (arrOf st)).toList=l':=by have:=ER q w.toList 0 (arrOf st) (by simpa using hl);rw[Nat.add_zero]at this;exact this.trans (by simpa using e)
 unfold Ib;refine wpS_bind (wpS_modify (wpS_bind (wpS_get ?_)));have O:OutG a₀ kd lt l p n rs (setArr st (putAll w q (arrOf st))):=⟨by show(putAll w q (arrOf st)).toList.Perm _;rw[a];exact h2,h,b,c,by show SL lt (putAll w q (arrOf st)).toList p n;rw[a];exact h1,by show∀j,_->(putAll w q (arrOf st)).toList[j]? =_;rw[a];exact h3⟩
 have:(failedOf (setArr st (putAll w q (arrOf st)))).isNone=true:=by rw[O.fl];rfl
 rw[this];exact wpS_pure (hq _ O)
def Pi(C:Cmp M A E s kd D lt)(hD: ∀x,x∈a₀.toList->D x)(h1:1<=n1)(h2:1<=n2)(I:(arrOf st).toList.Perm a₀.toList)(hk:kindOf st=kd)(hf:failedOf st=none)
  (hp:pendingOf st=(Rs++(p,n1,pw)::(p+n1,n2,pw2)::Ts).toArray) (hz:p+n1+n2<=(arrOf st).size) (hA:SL lt (arrOf st).toList p n1) (hB:SL lt (arrOf st).toList (p+n1) n2)
   (hq: ∀N,OutG a₀ kd lt (arrOf st).toList p (n1+n2) (Rs++(p,n1+n2,pw)::Ts) N->Q true N):wpS M A E s (mergeAt' Rs.length) Q st:=by
 rw[SH];unfold mAt;refine wpS_bind (wpS_get ?_);rw[hp];have e0:(Rs++(p,n1,pw)::(p+n1,n2,pw2)::Ts).toArray[Rs.length]? =some (p,n1,pw):=by simp
 have e1:(Rs++(p,n1,pw)::(p+n1,n2,pw2)::Ts).toArray[Rs.length+1]? =some (p+n1,n2,pw2):=by simp
 rw[e0,e1];dsimp only;refine wpS_bind (Oz ?_);rw[erS];generalize H:setPending st (Rs++(p,n1+n2,pw)::Ts).toArray=st1;have K:kindOf st1=kd:=by rw[<-H];exact hk
 have f1:failedOf st1=none:=by rw[<-H];exact hf
 have p1:pendingOf st1=(Rs++(p,n1+n2,pw)::Ts).toArray:=by rw[<-H]
 have L:arrOf st1=arrOf st:=by rw[<-H]
 have h: ∀x,x∈(arrOf st).toList->D x:=λx hx=>hD x (I.mem_iff.mp hx);generalize hv:arrOf st=v at *;obtain⟨y,ey⟩:=kY (v:=v) (i:=p+n1) (by omega);obtain⟨x,X⟩:=kY (v:=v) (i:=p+n1 - 1) (by omega);have hl:v.toList.length=v.size:=by simp
 have S:=hA.pw;have pB:=hB.pw;have ae: ∀w,w∈(v.toList.drop (p+n1)).take n2->Le lt y w:=λw hw=>by obtain⟨i,u,_,q⟩:=jX hw;exact hB 0 i y w (zero_le _) u (by rw[Nat.add_zero];exact ey) q
 have aa: ∀z,z∈(v.toList.drop p).take n1->Le lt z x:=λz c=>by obtain⟨i,u,_,q⟩:=jX c;exact hA i (n1 - 1) z x (by omega) (by omega) q (by rw[show p+(n1 - 1)=p+n1 - 1 by omega];exact X)
 refine wpS_bind (yL ey (wpS_bind (OT C K h (h y (á ey)) (by omega) (by omega) hA λk ka kb kc=>?_)));dsimp only;have g1: ∀z,z∈(v.toList.drop p).take k-> ∀w,w∈(v.toList.drop (p+n1)).take n2->Le lt z w:=by intro z c w hw;obtain⟨i,u,q,i3⟩:=jX c;exact C.tr _ _ _ (kb i z u i3) (ae w hw)
 have B:((v.toList.drop p).take n1++(v.toList.drop (p+n1)).take n2).Pairwise (Le lt)->OutG a₀ kd lt v.toList p (n1+n2) (Rs++(p,n1+n2,pw)::Ts) st1:=λhp=>⟨by rw[L];exact I,K,f1,p1,by rw[L];exact Tl C.rf (by rw[GB];exact hp),λj _=>by rw[L]⟩
 by_cases c1:n1 - k=0
 .rw[iP (by simpa using c1)];refine wpS_pure (hq _ (B ?_));have af:k=n1:=by omega
  subst af;exact ç.mpr ⟨S,pB,g1⟩
 .rw[iN (by simpa using c1)];have ab:v.toList[p+k+(n1 - k) - 1]? =some x:=by rw[show p+k+(n1 - k) - 1=p+n1 - 1 by omega];exact X
  refine wpS_bind (yL ab (wpS_bind (OU C K h (h x (á X)) (by omega) (by omega) hB λm ma mb mc=>?_)));dsimp only;have g2: ∀z,z∈(v.toList.drop p).take n1-> ∀w,w∈(v.toList.drop (p+n1+m)).take (n2 - m)->Le lt z w:=by intro z c w hw;obtain⟨i,u,_,q⟩:=jX hw;exact C.tr _ _ _ (aa z c) (mc (m+i) w (by omega) (by omega) (by rw[<-Ń];exact q))
  by_cases c2:m=0
  .rw[iP (by simpa using c2)];refine wpS_pure (hq _ (B ?_));subst c2;exact ç.mpr ⟨S,pB,λz c w hw=>g2 z c w (by rw[Nat.add_zero,Nat.sub_zero];exact hw)⟩
  .rw[iN (by simpa using c2)];generalize ha:v.extract (p+k) (p+n1)=a;generalize hb:v.extract (p+n1) (p+n1+m)=b;have la:a.toList=(v.toList.drop (p+k)).take (n1 - k):=by rw[<-ha,show p+n1=p+k+(n1 - k) by omega,OV]
   have Y:b.toList=(v.toList.drop (p+n1)).take m:=by rw[<-hb,OV]
   have za:a.size=n1 - k:=by rw[<-ä,la,lT,ó];omega
   have zb:b.size=m:=by rw[<-ä,Y,lT,ó];omega
   have U:(v.toList.drop p).take n1=(v.toList.drop p).take k++a.toList:=by rw[la, <-GB];congr 1;omega
   have eB:(v.toList.drop (p+n1)).take n2=b.toList++(v.toList.drop (p+n1+m)).take (n2 - m):=by rw[Y, <-GB];congr 1;omega
   have mA: ∀z,z∈a.toList-> ∃i,k<=i/\i<n1/\v.toList[p+i]? =some z:=by intro z c;rw[la]at c;obtain⟨i,u,_,q⟩:=jX c;exact⟨k+i,by omega,by omega,by rw[<-Ń];exact q⟩
   have mB: ∀z,z∈b.toList-> ∃i,i<m/\v.toList[p+n1+i]? =some z:=by intro z c;rw[Y]at c;obtain⟨i,u,_,q⟩:=jX c;exact⟨i,u,q⟩
   have Z:Set3 M A E s kd D lt a b:={
    C:=C
    da:=λz c=>by obtain⟨i,_,_,e⟩:=mA z c;exact h z (á e)
    db:=λz c=>by obtain⟨i,_,e⟩:=mB z c;exact h z (á e)
    lst:=λP O d o=>by rw[la,Ċ (by omega),getElem?_drop,show p+k+(a.size - 1)=p+n1 - 1 by omega,X]at d;cases d;obtain⟨i,u,e⟩:=mB O o;exact C.as _ _ (mb i O u e)
    fst:=λP O d o=>by rw[Y,Ċ (by omega),getElem?_drop,Nat.add_zero,ey]at o;cases o;obtain⟨i,u,q,e⟩:=mA P d;exact C.as _ _ (kc i P u q e)}
   have sA:a.toList.Pairwise (Le lt):=by rw[U]at S;exact(ç.mp S).2.1
   have sB:b.toList.Pairwise (Le lt):=by rw[eB]at pB;exact(ç.mp pB).1
   have fin: ∀r J,Sg st1 J->FinA lt a b r->wpS M A E s (Ib (p+k) r) Q J:=by
    rintro r J ⟨g,rfl⟩ ⟨fa,fb⟩;have zr:r.size=n1 - k+m:=by have:=fb.length_eq;simp only[lA,ä]at this;omega
    have F:=four (W:=r.toList) (A1:=(v.toList.drop p).take k) (A2:=a.toList) (B1:=b.toList) (B2:=(v.toList.drop (p+n1+m)).take (n2 - m)) (by rw[<-U];exact S) (by rw[<-eB];exact pB)
     (λz c w hw=>g1 z c w (by rw[eB];exact hw)) (λz c w hw=>g2 z (by rw[U];exact c) w hw) fa fb
    have T:=F.2;rw[<-eB, <-aA, <-U, <-GB]at T
    have eN:v.toList.take (p+k)++r.toList++v.toList.drop (p+n1+m)=v.toList.take p++((v.toList.drop p).take k++r.toList++(v.toList.drop (p+n1+m)).take (n2 - m))++v.toList.drop (p+n1+n2):=by
     have hd:=HR v.toList (p+n1+m) (n2 - m);rw[show p+n1+m+(n2 - m)=p+n1+n2 by omega]at hd;rw[SI]
     conv=>lhs;rw[hd]
     simp only[aA]
    have eO:v.toList=v.toList.take p++(v.toList.drop p).take (n1+n2)++v.toList.drop (p+n1+n2):=by rw[<-SI, <-Ń,İ]
    generalize hG:(v.toList.drop p).take k++r.toList++(v.toList.drop (p+n1+m)).take (n2 - m)=G at F T eN;have lG:G.length=n1+n2:=by have:=T.length_eq;rw[lT,ó]at this;omega
    have lP:(v.toList.take p).length=p:=by rw[lT];omega
    have dG:(((v.toList.take p++G++v.toList.drop (p+n1+n2)).drop p).take (n1+n2))=G:=by rw[aA,List.drop_append_of_le_length (by omega),œ (by omega),Ħ,List.take_append_of_le_length (by omega),ă (by omega)]
    refine Ic (st:=SortSt.mk' (kindOf st1) (arrOf st1) (pendingOf st1) g (failedOf st1)) (l:=v.toList) (l':=v.toList.take p++G++v.toList.drop (p+n1+n2)) (p:=p) (n:=n1+n2) K f1 p1 ?_ ?_ (Tl C.rf (by rw[dG];exact F.1)) ?_ ?_ hq
    .show p+k+r.size<=(arrOf st1).size;rw[L];omega
    .show(arrOf st1).toList.take (p+k)++r.toList++(arrOf st1).toList.drop (p+k+r.size)=_;rw[L,zr,show p+k+(n1 - k+m)=p+n1+m by omega,eN]
    .refine List.Perm.trans ?_ I
     conv=>rhs;rw[eO]
     exact(T.append_left _).append_right _
    .intro j hj;rcases hj with hj|hj
     .rw[aA,æ (by omega)]
      conv=>rhs;rw[eO,aA,æ (by omega)]
     .rw[ð (by rw[lA];omega),lA,lP,lG,getElem?_drop];congr 1;omega
   split
   .exact wpS_bind (Zp Z.toSet2 K sA sB (by omega) (by omega) (λP O d o=>Z.fst P O (á d) o) fin)
   .exact wpS_bind (Zt Z K sA sB (by omega) (by omega) fin)
end
end Srt
namespace Srt
open PySem PyProof.Rows
abbrev Rn:=Nat×Nat×Nat
def RunsOk(lt:Keyed->Keyed->Bool)(l:List Keyed):Nat->List Rn->Nat->Prop
 |p,[],q=>p=q
 |p,r::rs,q=>r.1=p/\1<=r.2.1/\SL lt l p r.2.1/\RunsOk lt l (p+r.2.1) rs q
section
def SL.congr(h:SL lt l p n)(e: ∀j,p<=j->j<p+n->l'[j]? =l[j]?):SL lt l' p n:=λi j x y c a b d=>h i j x y c a (by rw[<-e (p+i) (by omega) (by omega)];exact b) (by rw[<-e (p+j) (by omega) (by omega)];exact d)
theorem RunsOk.le: ∀{rs}{p q},RunsOk lt l p rs q->p+rs.length<=q
 |[],p,q,h=>by cases h;exact à _
 |r::rs,p,q,h=>by
  have:=RunsOk.le h.2.2.2;have:=h.2.1;rw[lC]
  lia
theorem RunsOk.congr: ∀{rs}{p q},RunsOk lt l p rs q->(∀j,p<=j->j<q->l'[j]? =l[j]?)->RunsOk lt l' p rs q
 |[],p,q,h,_=>h
 |r::rs,p,q,h,e=>by have:=RunsOk.le h.2.2.2;exact⟨h.1,h.2.1,h.2.2.1.congr λj b a=>e j b (by omega),RunsOk.congr h.2.2.2 λj b a=>e j (by omega) a⟩
theorem RunsOk.split: ∀{A B}{p q},RunsOk lt l p (A++B) q-> ∃m,RunsOk lt l p A m/\RunsOk lt l m B q
 |[],B,p,q,h=>⟨p,rfl,h⟩
 |r::A,B,p,q,h=>by obtain⟨m,j,d⟩:=RunsOk.split h.2.2.2;exact⟨m,⟨h.1,h.2.1,h.2.2.1,j⟩,d⟩
theorem RunsOk.join: ∀{A B}{p m q},RunsOk lt l p A m->RunsOk lt l m B q->RunsOk lt l p (A++B) q
 |[],B,p,m,q,h,h'=>by cases h;exact h'
 |r::A,B,p,m,q,h,h'=>⟨h.1,h.2.1,h.2.2.1,RunsOk.join h.2.2.2 h'⟩
end
section
variable{kd:SortKind}{lt:Keyed->Keyed->Bool}{a₀ f:V}{lo:Nat}{st:SortSt}
structure ST(a₀:V)(kd:SortKind)(lt:Keyed->Keyed->Bool)(rs:List Rn)(q:Nat)(st:SortSt):Prop where
 pm:(arrOf st).toList.Perm a₀.toList
 kind:kindOf st=kd
 fl:failedOf st=none
 pd:pendingOf st=rs.toArray
 ok:RunsOk lt (arrOf st).toList 0 rs q
 le:q<=a₀.size
def ST.size(h:ST a₀ kd lt rs q st):(arrOf st).size=a₀.size:=by have:=h.pm.length_eq;simpa using this
def ZO(C:Cmp M A E s kd D lt)(T: ∀x,x∈a₀.toList->D x)(h:ST a₀ kd lt rs q st)(hi:i+1<rs.length)
  (hq: ∀u d,ST a₀ kd lt u q d->u.length+1=rs.length->(∀j,q<=j->(arrOf d).toList[j]? =(arrOf st).toList[j]?)->Q true d):wpS M A E s (mergeAt' i) Q st:=by
 obtain⟨a,c,r,b,e,N⟩: ∃a c r b,rs=a++c::r::b/\a.length=i:=⟨rs.take i,rs[i],rs[i+1],rs.drop (i+2),by rw[<-Ī, <-Ī,İ],by rw[lT];omega⟩
 subst e N;obtain⟨m,K,I⟩:=h.ok.split;obtain⟨p,n,pw⟩:=c;obtain⟨p2,k,L⟩:=r;obtain⟨F,w,H,y,G,B,o⟩:=I;dsimp only at F w H y G B o;subst F y;have S:=o.le;have P:=h.size;have v:=h.le;refine Pi C T w G h.pm h.kind h.fl h.pd (by omega) H B λd O=>hq (a++(p,n+k,pw)::b) d ⟨O.pm,O.kind,O.fl,O.pd,?_,h.le⟩ (by simp only[lA,lC];omega) λj U=>O.ot j (.inr (by omega));refine RunsOk.join (K.congr λj J z=>O.ot j (.inl z)) ⟨rfl,by show 1<=n+k;omega,O.so,?_⟩;show RunsOk lt _ (p+(n+k)) b q;rw[<-Ń];exact o.congr λj J z=>O.ot j (.inr (by omega))
def ZP(h:ST a₀ kd lt rs lo st)(a:1<=n)(hs:SL lt (arrOf st).toList lo n)(hz:lo+n<=a₀.size)(b: ∀j d,ST a₀ kd lt j (lo+n) d->Q (.yield (none,lo+n)) d):wpS M A E s (zAE lo n) Q st:=by refine (wpS_bind (wpS_modify (wpS_pure (b (rs++[(lo,n,0)]) _ ⟨h.pm,h.kind,h.fl,?_,RunsOk.join h.ok ⟨rfl,a,hs,rfl⟩,hz⟩))));show(pendingOf st).push _=_;rw[h.pd];simp
def Id(C:Cmp M A E s kd D lt)(X: ∀x,x∈a₀.toList->D x)(h:ST a₀ kd lt rs lo st)(H:1<=n)(hs:SL lt (arrOf st).toList lo n)(hz:lo+n<=a₀.size)(O: ∀q y,ST a₀ kd lt q (lo+n) y->Q (.yield (none,lo+n)) y):
  wpS M A E s (zAF a₀.size lo n) Q st:=by
 unfold zAF;refine wpS_bind (wpS_get ?_);rcases List.eq_nil_or_concat rs with rfl|⟨A',⟨a,b,w⟩,rfl⟩
 .have L:(pendingOf st).back? =none:=by rw[h.pd];rfl
  rw[L];exact ZP h H hs hz O
 .have L:(pendingOf st).back? =some (a,b,w):=by rw[h.pd];simp
  rw[L];dsimp only;generalize power' a₀.size (2 * a+b) (2 * a+b+b+n) a₀.size=pw;refine wpS_bind (wpS_mono (ĉ (I:=λ_ c d=>c=((none,()):U1)/\ ∃rs,rs≠[]/\ST a₀ kd lt rs lo d/\SL lt (arrOf d).toList lo n) (Q:=λc d=>c=((none,()):U1)/\ ∃rs,rs≠[]/\ST a₀ kd lt rs lo d/\SL lt (arrOf d).toList lo n) ?_ (λ_ _ T=>T) ⟨rfl,_,by simp,h,hs⟩) ?_)
  .rintro x c d _ _ ⟨rfl,rs,o,i,k⟩;refine wpS_bind (wpS_get ?_);have W:(pendingOf d).size=rs.length:=by rw[i.pd];simp
   by_cases S:(pendingOf d).size>1
   .rw[iP S]
    cases Y:(pendingOf d)[(pendingOf d).size - 2]? with
    |none=>exact wpS_pure ⟨rfl,rs,o,i,k⟩
    |some r=>
     obtain⟨Z,r2,z⟩:=r;dsimp only;by_cases P:z<=pw
     .rw[iP P];exact wpS_pure ⟨rfl,rs,o,i,k⟩
     .rw[iN P];refine wpS_bind (ZO C X i (by omega) λq y N F K=>?_);rw[iN (by simp)];exact wpS_pure ⟨rfl,q,λe=>by rw[e,Ĺ]at F;omega,N,k.congr λj H _=>K j H⟩
   .rw[iN S];exact wpS_pure ⟨rfl,rs,o,i,k⟩
  .rintro c d ⟨rfl,rs,o,i,k⟩;dsimp only;refine wpS_bind (wpS_modify ?_);rcases List.eq_nil_or_concat rs with rfl|⟨B,⟨u,v,w'⟩,rfl⟩
   .exact absurd rfl o
   .rw[List.concat_eq_append]at i
    have p:(pendingOf d).modify ((pendingOf d).size - 1) (λx=>(x.fst,x.2.fst,pw))=(B++[(u,v,pw)]).toArray:=by
     rw[i.pd];apply Array.toList_inj.mp;rw[Array.toList_modify];have e:(B++[(u,v,w')]).toArray.size - 1=B.length:=by simp
     rw[e];show(B++[(u,v,w')]).modify B.length _=B++[(u,v,pw)]
     have J: ∀(B:List Rn)(x:Rn)(f:Rn->Rn),(B++[x]).modify B.length f=B++[f x]:=by
      intro B
      induction B with
      |nil=>intro x f;rfl
      |cons b B ih=>intro x f;show b::(B++[x]).modify B.length f=_;rw[ih];rfl
     rw[J]
    refine ZP (st:=setPending d ((pendingOf d).modify ((pendingOf d).size - 1) λx=>(x.fst,x.2.fst,pw))) (rs:=B++[(u,v,pw)]) ⟨i.pm,i.kind,i.fl,?_,?_,i.le⟩ H k hz O
    .rw[<-p]
    .obtain⟨m,U,G⟩:=i.ok.split;exact RunsOk.join U ⟨G.1,G.2.1,G.2.2.1,G.2.2.2⟩
def Ie(C:Cmp M A E s kd D lt)(u: ∀x,x∈a₀.toList->D x)(d:Keyed)(h:ST a₀ kd lt [] 0 st)
  (hq: ∀rs q,ST a₀ kd lt rs a₀.size q->Q (none,a₀.size) q):wpS M A E s (runs a₀.size r) Q st:=by
 unfold runs;refine ĉ (I:=λx c q=> ∃lo rs,c=((none,lo):U2)/\x<=lo/\ST a₀ kd lt rs lo q) ?_ ?_ ⟨0,[],rfl,à _,h⟩
 .rintro x c b _ O ⟨lo,rs,rfl,y,i⟩;dsimp only;have v:=i.le;by_cases F:lo>=a₀.size
  .rw[iP F];have e:lo=a₀.size:=by omega
   subst e;exact wpS_pure (hq rs b i)
  .rw[iN F];have N:SB a₀ kd rs.toArray (arrOf b) lo b:=⟨Ļ.mpr i.pm,i.kind,i.fl,i.pd,λ_ _=>rfl⟩
   have back: ∀{k:SortSt},SB a₀ kd rs.toArray (arrOf b) lo k->ST a₀ kd lt rs lo k:=λ{k} a=>⟨Ļ.mp a.pm,a.kind,a.fl,a.pd,i.ok.congr λj _ K=>by rw[í,a.fx j K, <-í],i.le⟩
   refine wpS_bind (Pg (d:=d) C u N (n:=a₀.size - lo) (by omega) (by omega) λm k a J H B=>?_);dsimp only;by_cases G:m<r
   .rw[iP G];refine wpS_bind (qB ?_);refine wpS_bind (Ph C u a (n:=min (a₀.size - lo) r) (by omega) (by omega) B λL z w=>?_);rw[iN (by simp)];exact Id C u (back z) (by omega) w.sl (by omega) λo q p=>⟨_,o,rfl,by omega,p⟩
   .rw[iN G];exact Id C u (back a) (by omega) B.sl (by omega) λo q p=>⟨_,o,rfl,by omega,p⟩
 .rintro c b ⟨lo,rs,rfl,y,i⟩;have v:=i.le;have e:lo=a₀.size:=by omega
  subst e;exact hq rs b i
def Ig(d:2<=a₀.size)(h:ST a₀ kd lt rs a₀.size st)(c:rs.length<=1):zAG a₀ lt st:=by
 refine⟨h.pm,h.fl,?_⟩
 match rs,c,h.ok with
 |[],_,o=>exact absurd (show 0=a₀.size from o) (by omega)
 |[r],_,o=>
  obtain⟨e,i,a,b⟩:=o;have j:0+r.2.1=a₀.size:=b;have:=a.pw;rwa [List.drop_zero,ă (by rw[ä,h.size];omega)]at this
def Ih(C:Cmp M A E s kd D lt)(y: ∀x,x∈a₀.toList->D x)(q:2<=a₀.size)(h:ST a₀ kd lt rs a₀.size st)(u: ∀d,zAG a₀ lt d->Q (none,()) d):wpS M A E s (Zw a₀.size) Q st:=by
 unfold Zw;have w:=h.ok.le;refine ĉ (I:=λx c d=>c=((none,()):U1)/\ ∃rs,ST a₀ kd lt rs a₀.size d/\(rs.length<=1\/rs.length+x<=a₀.size)) ?_ ?_ ⟨rfl,rs,h,.inr (by omega)⟩
 .rintro x c a _ z ⟨rfl,rs,b,e⟩;refine wpS_bind (wpS_get ?_);have j:(pendingOf a).size=rs.length:=by rw[b.pd];simp
  by_cases r:(pendingOf a).size<=1
  .rw[iP r];exact wpS_pure (u a (Ig q b (by omega)))
  .rw[iN r]
   generalize hi:(if Option.any (λx=>decide (x<((pendingOf a)[(pendingOf a).size - 2+1]?).elim 0 λx=>x.2.1)) (if(pendingOf a).size - 2>0 then Option.map (λx=>x.2.1) (pendingOf a)[(pendingOf a).size - 2 - 1]? else none)=true
      then(pendingOf a).size - 2 - 1 else(pendingOf a).size - 2)=i
   have k:i+1<rs.length:=by
    have o: ∀(P:Prop)[Decidable P](n:Nat),2<=n->(if P then n - 2 - 1 else n - 2)+1<n:=by
     intro P _ n B;by_cases c:P
     .rw[iP c];omega
     .rw[iN c];omega
    rw[<-hi, <-j];exact o _ _ (by omega)
   refine wpS_bind (ZO C y b k λm d p v _=>?_);rw[iN (by simp)];exact wpS_pure ⟨rfl,m,p,by omega⟩
 .rintro c a ⟨rfl,rs,b,e⟩;refine u a (Ig q b ?_);rcases e with e|e
  .exact e
  .omega
def OZ(C:Cmp M A E s kd D lt)(b: ∀x,x∈(arrOf st).toList->D x)(d:Keyed)(c:2<=(arrOf st).size)(n:kindOf st=kd)(m:pendingOf st=#[])(h:failedOf st=none)
   (hq: ∀j,zAG (arrOf st) lt j->Q () j):wpS M A E s sortRuns' Q st:=by
 rw[(show sortRuns'=V8 by kernel_rfl)];unfold V8;refine wpS_bind (wpS_get ?_);refine wpS_bind (Ie C b d ⟨List.Perm.refl _,n,h,m,rfl,zero_le _⟩ λo i e=>?_);dsimp only;refine wpS_bind (Ih C b c e λa k=>?_);exact wpS_pure (hq a k)
end
end Srt
namespace Srt
open PySem PyProof.Rows
section
def AI{α:Type}{f:α->Sem β}{g:α->β}{l:List α}(h: ∀x,x∈l->wpAny M A (f x) (λr d=>d=s/\r=g x) E s):wpAny M A (l.toArray.mapM f) (λr d=>d=s/\r=(l.map g).toArray) E s:=by rw[List.mapM_toArray];refine wB (ú ((show wpAny M A (l.mapM f) (λr d=>d=s/\r=l.map g) E s by
  induction l with
  |nil=>rw[List.mapM_nil];exact wP ⟨rfl,rfl⟩
  |cons x l ih=>
   rw[List.mapM_cons];refine wB (ú (h x mF0) (λr d a=>?_) λ_ _ e=>e);rw[a.1,a.2];refine wB (ú (ih λy b=>h y (mO _ b)) (λr d a=>?_) λ_ _ e=>e);rw[a.1,a.2];exact wP ⟨rfl,rfl⟩)) (λr d a=>?_) λ_ _ e=>e);obtain⟨rfl,rfl⟩:=a;exact wP ⟨rfl,rfl⟩
def TupAt(h:Heap)(a:Addr)(its:A0):Prop:= ∃o n,h.get? a=some o/\o.cls=.type "tuple"/\o.data=.seq its.toArray n
def SJ(h:TupAt s.heap a its):wpAny M A (firstOfTuple' (.ref a)) (λr d=>d=s/\r=its[0]?) E s:=by obtain⟨o,n,b,e,c⟩:=h;refine wB (ħ ⟨o,b,e⟩ ?_);refine wB (listItems_at b c ?_);exact wP ⟨rfl,by simp⟩
end
end Srt
namespace Srt
open PySem PyProof.Rows
inductive LexS(A:Around)(s:Ŗ):List ŗ->List ŗ->Bool->Prop
 |nn:LexS A s [] [] false
 |nc (x xs):LexS A s [] (x::xs) true
 |cn (y ys):LexS A s (y::ys) [] false
 |eq {y x ys xs k}:SeqAt.EqAt A s y x true->LexS A s ys xs k->LexS A s (y::ys) (x::xs) k
 |ne {y x ys xs k}:SeqAt.EqAt A s y x false->(∀(prog:Ř)(w:World)(E Q:VP),Q (.bool k) s->wpAny (model prog w) A (richCompare .Lt y x) Q E s)->LexS A s (y::ys) (x::xs) k
section
theorem Zy(c)(x y):keyLt' (tuples' c) x y=(Builtin.List.listItems x >>= λxs=>Builtin.List.listItems y >>= λd=>
  (forIn (xs.toList.zip d.toList).zipIdx ((none,())) λz _=>eqBool z.1.1 z.1.2 >>= λe=>if(!e)=true then oneLt' (c&&z.2==0) z.1.1 z.1.2 >>= λr=>pure (.done (some r,()))else pure (.yield (none,()))) >>= λr=>
  match r.1 with
  |some r=>pure r
  |none=>pure (decide (xs.size<d.size))):=by kernel_rfl
def wp_lt{st:SortSt}(b:kindOf st=kd)(h: ∀ E  Q ,Q k s->wpAny (model prog w) A (keyLt' kd x.1 y.1) Q E s)(a:Q (some k) st):
  wpS (model prog w) A E s (lt' x y) Q st:=by
 rw[lt'_eq];refine wpS_bind (wpS_get ?_);rw[b];refine wpS_bind (wpS_lift (Ő (h _ _ ⟨rfl,?_⟩)));exact wpS_pure a
end
end Srt
namespace Srt
open PySem PyProof.Rows
section
def SK(k:l≠[])(h: ∀x,x∈l-> ∃z j,x=.str z j):wpAny M A (oneTypeOnly' l.toArray) (λr d=>d=s/\r=some (.type "str")) E s:=by
 rw[oneTypeOnly'_eq];refine wB (ú (AI (g:=λ_=>Value.type "str") λx b=>?_) (λr d i=>?_) λ_ _ e=>e)
 .obtain⟨z,j,rfl⟩:=h x b;exact wP ⟨rfl,rfl⟩
 .obtain⟨rfl,rfl⟩:=i
  match l,k with
  |x::l,_=>
   have c:(List.map (λ_=>Value.type "str") (x::l)).toArray[0]? =some (Value.type "str"):=by simp
   have a:((List.map (λ_=>Value.type "str") (x::l)).toArray.all λx=>x==Value.type "str")=true:=by simp only[all_toArray,all_map,Ē];intro _ _;rfl
   rw[c];dsimp only;rw[a];exact wP ⟨rfl,rfl⟩
def wp_kindS(B:keys≠[])(h: ∀x,x∈keys-> ∃a its z j r,x=.ref a/\TupAt s.heap a its/\its=.str z j::r):
  wpAny M A (keyKind' keys.toArray) (λk m=>m=s/\k=tuples' true) E s:=by
 rw[keyKind'_eq]
 have o: ∀x, ∃y:Option ŗ,x∈keys->(∃z j,y=some (.str z j))/\ ∀M:Model,wpAny M A (firstOfTuple' x) (λr m=>m=s/\r=y) E s:=by
  intro x;by_cases c:x∈keys
  .obtain⟨a,its,z,j,r,rfl,u,rfl⟩:=h x c;exact⟨some (.str z j),λ_=>⟨⟨z,j,rfl⟩,λM=>SJ u⟩⟩
  .exact⟨none,λz=>absurd z c⟩
 let g:=λx=>Classical.choose (o x);have i: ∀x,x∈keys->(∃z j,g x=some (.str z j))/\ ∀M:Model,wpAny M A (firstOfTuple' x) (λr m=>m=s/\r=g x) E s:=λx c=>ò (o x) c;refine wB (ú (AI (g:=g) λx c=>(i x c).2 M) (λr m n=>?_) λ_ _ e=>e);obtain⟨rfl,rfl⟩:=n;rw[iP (by simp only[all_toArray,all_map,Ē];intro x c;obtain⟨⟨b,d,e⟩,_⟩:=i x c;show(g x).isSome=true;rw[e];rfl)];refine wB (ı ?_);have p:(keys.map g).toArray.filterMap id=((keys.map g).filterMap id).toArray:=by simp
 rw[p];refine wB (ú (SK (l:=(keys.map g).filterMap id) ?_ ?_) (λr m n=>?_) λ_ _ e=>e)
 .match keys,B,i with
  |x::l,_,i=>
   obtain⟨⟨b,d,e⟩,_⟩:=i x mF0;rw[ê,e];simp
 .intro x c;obtain⟨y,v,e⟩:=mem_filterMap.mp c;obtain⟨z,q,w⟩:=mM.mp v;obtain⟨⟨b,d,C⟩,_⟩:=i z q;have:some x=some (Value.str b d):=by rw[<-C,w];exact e.symm
  cases this;exact⟨b,d,rfl⟩
 .obtain⟨rfl,rfl⟩:=n;refine wP ⟨rfl,?_⟩;have:((some (Value.type "str")).any λx=>x !=Value.type "tuple")=true:=by rfl
  rw[this]
end
end Srt
namespace Srt
open PySem PyProof.Rows
section
theorem SO(vs ws)(i)(hx:LexS A s vs ws k):1<=i->vs.length+n=ws.length+m->
   wpAny (model prog w) A (forIn ((vs.zip ws).zipIdx i) ((none,())) λz _=>eqBool z.1.1 z.1.2 >>= λe=>if(!e)=true then oneLt' (true&&z.2==0) z.1.1 z.1.2 >>= λr=>pure (.done (some r,()))else pure (.yield (none,())))
    (λr d=>d=s/\(r=(some k,())\/(r=(none,())/\k=decide (m<n)))) E s:=by
 induction hx generalizing i with
 |nn=>intro hi h;rw[zip_nil_left,zipIdx_nil];exact wP ⟨rfl,.inr ⟨rfl,(dF0 (by simp at h;lia)).symm⟩⟩
 |nc x xs=>intro hi h;rw[zip_nil_left,zipIdx_nil];exact wP ⟨rfl,.inr ⟨rfl,(dT0 (by simp at h;lia)).symm⟩⟩
 |cn y ys=>intro hi h;rw[List.zip_nil_right,zipIdx_nil];exact wP ⟨rfl,.inr ⟨rfl,(dF0 (by simp at h;lia)).symm⟩⟩
 |eq he hr ih=>
  intro hi h;rw[ģ,zipIdx_cons,forIn_cons];refine wB (wB (he prog w E _ ?_));exact wP (ih _ #[0] (by simpa using(by simp at h;lia)))
 |ne he hr=>
  intro hi h;refine wB (wB (he prog w E _ ?_));simp only[ő];rw[show(i==0)=false by simp;lia];refine wB (wB (hr prog w E _ ((ě ?_))));exact wP (wP ⟨rfl,.inl rfl⟩)
def wp_keyLtS(j:TupAt s.heap l (.str x t::r))(a:TupAt s.heap b (.str y u::r2))(o:SeqAt.EqAt A s (.str x t) (.str y u) e)
  (hx:if e=true then LexS A s r r2 k else k=decide (x.cps.toList<y.cps.toList)) (hq:Q k s):
  wpAny (model prog w) A (keyLt' (tuples' true) (.ref l) (.ref b)) Q E s:=by
 obtain⟨C,B,d,_,p⟩:=j;obtain⟨D,z,i,_,c⟩:=a;rw[Zy];refine wB (listItems_at d p (wB (listItems_at i c ?_)));simp only[sA0];refine wB ?_;rw[ģ,zipIdx_cons,forIn_cons];refine wB (wB (o prog w E _ ?_))
 cases e with
 |true=>
  rw[iP rfl]at hx;rw[iN (by simp)];refine wP ?_;refine ú (SO r r2 1 hx (m:=(Value.str x t::r).length) (n:=(Value.str y u::r2).length) (à _) (by simp only[lC];omega)) (λq v h=>?_) λ_ _ e=>e;obtain⟨rfl,rfl|⟨rfl,e⟩⟩:=h
  .exact wP hq
  .dsimp only;rw[<-e];exact wP hq
 |false=>
  rw[iN xF0]at hx;subst hx;rw[iP (by simp)];refine wB (oneLt_str ?_);exact wP (wP (wP hq))
end
end Srt
namespace Srt
open PySem PyProof.Rows
section
def sort_plain{vs:A0}(n:s.heap.get? a=some (seqObj "list" vs.toArray n0))(hl:vs.length<1000000)
  (hk: ∀d:Ŗ,d={s with heap:=((s.heap.update a (Obj.mapSeq λ_=>#[])).push (seqObj "tuple" vs.toArray 0)).push (seqObj "list" #[] 0)}-> ∃(kd:SortKind)(D:Keyed->Prop)(lt:Keyed->Keyed->Bool),
   (2<=vs.length->wpAny (model prog w) A (keyKind' vs.toArray) (λk G=>G=d/\k=kd) E d/\Cmp (model prog w) A E d kd D lt/\ ∀p,p∈vs.zip vs->D p)/\
   ∀out:List Keyed,out.Perm (vs.zip vs)->out.Pairwise (Le lt)->P (.done (.ret .none)) {d with heap:=d.heap.update a (Obj.mapSeq λ_=>(out.map (·.2)).toArray)}):
  wpAny (model prog w) A (Builtin.«list.sort» ⟨[.ref a],[]⟩) P E s:=by
 unfold Builtin.«list.sort»;dsimp only;rw[iN (by simp),iN (by simp)];rw[List.forIn_nil];refine wB (wP ?_);have S:List.lookup (Str.ofString "key") ([]:List (Str×ŗ))=none:=rfl;have L:List.lookup (Str.ofString "reverse") ([]:List (Str×ŗ))=none:=rfl;rw[S,L];refine wB (wP ?_);have ha:a<s.heap.objs.size:=â n;refine wB (listItems_at n rfl ?_);refine wB (listUpdate_at n rfl ?_);obtain⟨q,v⟩: ∃q,(s.heap.update a (Obj.mapSeq λ_=>#[])).get? a=some (seqObj "list" #[] q):=⟨_,get?_update_seq n (λ_=>#[])⟩
 dsimp only;refine wB (seqEpoch_at v rfl ?_);refine wB (wpAny_newTuple ?_);refine wB (wpAny_newList ?_);refine Ă ?_;rw[iN (by simp)];dsimp only;generalize i:({s with heap:=((s.heap.update a (Obj.mapSeq λ_=>#[])).push (seqObj "tuple" vs.toArray 0)).push (seqObj "list" #[] 0)}:Ŗ)=d;have C:d.heap.get? a=some (seqObj "list" #[] q):=by rw[<-i];exact hP0 _ (hP0 _ v)
 obtain⟨kd,D,lt,I,W⟩:=hk d i.symm;rw[iN (by simp)];refine wB (wP ?_);rw[iN (by simp)]
 have fin: ∀st:SortSt,failedOf st=none->(arrOf st).toList.Perm (vs.zip vs)->(arrOf st).toList.Pairwise (Le lt)->
   wpAny (model prog w) A (do
    let e <-seqEpoch a
    Builtin.List.listUpdate (.ref a) λ_=>(arrOf st).map (·.2)
    if(e !=q)=true then rule "list.sort.modified" >>= λ_=>raiseErrorWords "ValueError" "list modified during sort" >>= λ(_:Unit)=>ret .none else ret .none) P E d:=by
  intro st Y j hs;refine wB (seqEpoch_at C rfl ?_);have m:((arrOf st).map (·.2)).size<=sizeLine+1:=by rw[Array.size_map, <-ä,j.length_eq,length_zip];have:=Ď;omega
  refine wB (listUpdate_at C rfl ?_ (hsz2:=m));rw[iN (by simp)];have T:(arrOf st).map (·.2)=((arrOf st).toList.map (·.2)).toArray:=by rw[<-Array.toList_map]
  rw[T];exact wP (W _ j hs)
 by_cases b:vs.toArray.size<2
 .rw[iP b,iP b];refine wB (wP ?_);rw[StateT.run_pure];refine wB (wP ?_);rw[iN (by simp)];have H:(vs.zip vs).length<=1:=by rw[length_zip];simp at b;omega
  refine fin (SortSt.mk' general' (vs.toArray.zip vs.toArray) #[] 7 none) rfl ?_ ?_
  .show(vs.toArray.zip vs.toArray).toList.Perm _;simp
  .show(vs.toArray.zip vs.toArray).toList.Pairwise _;have:(vs.toArray.zip vs.toArray).toList=vs.zip vs:=by simp
   rw[this]
   match vs.zip vs,H with
   |[],_=>exact .nil
   |[x],_=>exact List.pairwise_singleton _ _
   |x::y::r,h=>simp at h
 .rw[iN b,iN b];obtain⟨K,M,U⟩:=I (by simp at b;omega);refine wB (ú K (λk G u=>?_) λ_ _ e=>e);obtain⟨rfl,rfl⟩:=u;have o:(arrOf (SortSt.mk' k (vs.toArray.zip vs.toArray) #[] 7 none)).toList=vs.zip vs:=by show(vs.toArray.zip vs.toArray).toList=_;simp
  have J:(arrOf (SortSt.mk' k (vs.toArray.zip vs.toArray) #[] 7 none)).size=vs.length:=by rw[<-ä,o,length_zip,Nat.min_self]
  refine wB (ú (OZ (st:=SortSt.mk' k (vs.toArray.zip vs.toArray) #[] 7 none) M (λp j=>U p (by rw[o]at j;exact j)) (.none,.none) (by rw[J];simp at b;omega) rfl rfl rfl
   (Q:=λ_ c=>zAG (arrOf (SortSt.mk' k (vs.toArray.zip vs.toArray) #[] 7 none)) lt c) λc h=>h) (λr Z N=>?_) λ_ _ e=>e)
  obtain⟨⟨⟩,c⟩:=r;obtain⟨rfl,X,z,O⟩:=N;dsimp only;rw[iN (by simp)];have F:=fin c z (by rw[<-o];exact X) O;have B:failedOf c=none:=z;unfold failedOf at B;rw[B];exact F
end
end Srt
namespace Srt
open PySem PyProof.Rows
section
def SQ(k:l≠[])(h: ∀x,x∈l-> ∃z j,x=.int z j):wpAny M A (oneTypeOnly' l.toArray) (λr d=>d=s/\r=some (.type "int")) E s:=by
 refine wB (ú (AI (g:=λ_=>Value.type "int") λx b=>?_) (λr d i=>?_) λ_ _ e=>e)
 .obtain⟨z,j,rfl⟩:=h x b;exact wP ⟨rfl,rfl⟩
 .obtain⟨rfl,rfl⟩:=i
  match l,k with
  |x::l,_=>
   have c:(List.map (λ_=>Value.type "int") (x::l)).toArray[0]? =some (Value.type "int"):=by simp
   have a:((List.map (λ_=>Value.type "int") (x::l)).toArray.all λx=>x==Value.type "int")=true:=by simp only[all_toArray,all_map,Ē];intro _ _;rfl
   rw[c];dsimp only;rw[a];exact wP ⟨rfl,rfl⟩
def wp_kindI(B:keys≠[])(h: ∀x,x∈keys-> ∃a its z m r,x=.ref a/\TupAt s.heap a its/\its=.int z m::r):
  wpAny M A (keyKind' keys.toArray) (λk j=>j=s/\k=tuples' true) E s:=by
 have o: ∀x, ∃y:Option ŗ,x∈keys->(∃z m,y=some (.int z m))/\ ∀M:Model,wpAny M A (firstOfTuple' x) (λr j=>j=s/\r=y) E s:=by
  intro x;by_cases c:x∈keys
  .obtain⟨a,its,z,m,r,rfl,u,rfl⟩:=h x c;exact⟨some _,λ_=>⟨⟨z,m,rfl⟩,λM=>SJ u⟩⟩
  .exact⟨none,λz=>absurd z c⟩
 let g:=λx=>Classical.choose (o x);have i: ∀x,x∈keys->(∃z m,g x=some _)/\ ∀M:Model,wpAny M A _ (λr j=>j=s/\r=g x) E s:=λx c=>ò (o x) c;refine wB (ú (AI λx c=>(i x c).2 M) (λr j n=>?_) λ_ _ e=>e);obtain⟨rfl,rfl⟩:=n;rw[iP (by simp only[all_toArray,all_map,Ē];intro x c;obtain⟨⟨b,d,e⟩,_⟩:=i x c;show(g x).isSome=true;rw[e];rfl)];refine wB (ı ?_);have p:(keys.map g).toArray.filterMap id=((keys.map g).filterMap id).toArray:=by simp
 rw[p];refine wB (ú (SQ ?_ ?_) (λr j n=>?_) λ_ _ e=>e)
 .match keys,B,i with
  |x::l,_,i=>
   obtain⟨⟨b,d,e⟩,_⟩:=i x mF0;rw[ê,e];simp
 .intro x c;obtain⟨y,v,e⟩:=mem_filterMap.mp c;obtain⟨z,q,w⟩:=mM.mp v;obtain⟨⟨b,d,C⟩,_⟩:=i z q;have:some x=some (Value.int b d):=by rw[<-C,w];exact e.symm
  cases this;exact⟨b,d,rfl⟩
 .obtain⟨rfl,rfl⟩:=n;refine wP ⟨rfl,?_⟩;have:((some (Value.type "int")).any λx=>x !=Value.type "tuple")=true:=by rfl
  rw[this]
end
end Srt
namespace Srt
open PySem PyProof.Rows
section
theorem wp_keyLtI(j:TupAt s.heap l (.int x t::r))(a:TupAt s.heap b (.int y u::r2))(o:SeqAt.EqAt A s (.int x t) (.int y u) e)
  (hx:if e=true then LexS A s r r2 k else k=decide (x<y)) (hq:Q k s):
  wpAny (model prog w) A (keyLt' (tuples' true) (.ref l) (.ref b)) Q E s:=by
 obtain⟨C,B,d,_,p⟩:=j;obtain⟨D,z,i,_,c⟩:=a;refine wB (listItems_at d p (wB (listItems_at i c ?_)));simp only[sA0];refine wB ?_;rw[ģ,zipIdx_cons,forIn_cons];refine wB (wB (o prog w E _ ?_))
 cases e with
 |true=>
  refine wP ?_;refine ú (SO r r2 1 hx (m:=(Value.int x t::r).length) (n:=(Value.int y u::r2).length) (à _) (by simp only[lC];lia)) (λq v h=>?_) λ_ _ e=>e;obtain⟨rfl,rfl|⟨rfl,e⟩⟩:=h
  .exact wP hq
  .dsimp only;rw[<-e];exact wP hq
 |false=>
  subst hx;refine wB (oneLt_int ?_);exact wP (wP (wP hq))
end
end Srt
namespace L2
namespace M
open PySem PySem.Spec PyProof.Rows
mutual
def nO:MV->Bool
 |.int _=>true
 |.str _=>true
 |.tup ds=>AK ds
 |_=>false
def AK:List MV->Bool
 |[]=>true
 |d::ds=>nO d&&AK ds
end
def tT{α β:Type}{g:α->β}{p m:List β}(h:p.Perm m): ∀l:List α,l.map g=p-> ∃l':List α,l'.Perm l/\l'.map g=m:=by
 induction h with
 |nil=>intro l e;exact⟨l,.refl _,e⟩
 |cons x _ ih=>
  intro l e
  cases l with
  |nil=>cases e
  |cons a l=>
   injection e with e1 e2
   obtain⟨l',n,d⟩:=ih l e2;exact⟨_,n.cons a,by rw[ê,e1,d]⟩
 |swap x y t=>
  intro l e
  match l,e with
  |a::b::l,e=>
   injection e with e1 e2
   injection e2 with e2 e3
   exact⟨_,.swap _ _ _,by rw[ê,ê,e1,e2,e3]⟩
 |trans _ _ ih1 ih2=>
  intro l e;obtain⟨k,p1,j⟩:=ih1 l e;obtain⟨i,p2,c⟩:=ih2 k j;exact⟨i,p2.trans p1,c⟩
section
variable{X:Cx}{α:B9}{H:Hp}{pins:M0}{σ:St}{s:Ŗ}
mutual
theorem ZQ(I:↑2): ∀{d d':MV}{v:V},nO d=true->nO d'=true->Den X.K α H d v->Den X.K α H d' v->d=d'
 |.int i,d',v,_,h',q,q'=>by
  cases xH q
  cases d' with
  |int j=>cases xH q';rfl
  |str x=>cases xI q'
  |tup ds=>obtain⟨a,vs,e,_⟩:=yY q';cases e
  |_=>simp[nO]at h'
 |.str x,d',v,_,h',q,q'=>by
  have e:=xI q
  cases d' with
  |int j=>rw[xH q']at e;cases e
  |str y=>rw[xI q']at e;injection e with e;rw[FW e]
  |tup ds=>obtain⟨a,vs,b,_⟩:=yY q';rw[b]at e;cases e
  |_=>simp[nO]at h'
 |.tup ds,d',v,h,h',q,q'=>by
  obtain⟨a,vs,e,t,l⟩:=yY q
  cases d' with
  |int j=>rw[xH q']at e;cases e
  |str y=>rw[xI q']at e;cases e
  |tup es=>
   obtain⟨n,k,b,c,m⟩:=yY q';rw[e]at b;cases b;have:=I.tuple_inj t c;subst this;rw[SR I (by unfold nO at h;exact h) (by unfold nO at h';exact h') l m]
  |_=>simp[nO]at h'
theorem SR(I:↑2): ∀{ds es:U0}{vs:List V},AK ds=true->AK es=true->DenL X.K α H ds vs->DenL X.K α H es vs->ds=es
 |[],[],_,_,_,_,_=>rfl
 |[],e::es,_,_,_,q,q'=>by obtain⟨v,r,e,_⟩:=q'.uncons;rw[q.isnil]at e;cases e
 |d::ds,[],_,_,_,q,q'=>by obtain⟨v,r,e,_⟩:=q.uncons;rw[q'.isnil]at e;cases e
 |d::ds,e::es,_,h,h',q,q'=>by obtain⟨v,r,rfl,a,l⟩:=q.uncons;obtain⟨j,k,i,b,c⟩:=q'.uncons;cases i;unfold AK at h h';rw[aE]at h h';rw[ZQ I h.1 h'.1 a b,SR I h.2 h'.2 l c]
end
def To(h:LexR A s xs ys k):Srt.LexS A s xs ys k:=by
 induction h with
 |nn=>exact .nn
 |nc x xs=>exact .nc x xs
 |cn x xs=>exact .cn x xs
 |eq a _ ih=>exact .eq a ih
 |ne a b=>exact .ne a b
def DE(I:↑2)(d:Den X.K α H (.tup ds) x)(r:RelV x u): ∃a vs its,u=.ref a/\DenL X.K α H ds vs/\Vals vs its/\Srt.TupAt s.heap a its/\IsTup s.heap a its.toArray:=by obtain⟨a,vs,rfl,t,l⟩:=yY d;cases r;obtain⟨its,c,pt,_⟩:=I.tuple t;obtain⟨o,h,b,n,e⟩:=id pt;exact⟨a,vs,its,rfl,l,c,⟨o,n,h,b,e⟩,pt⟩
end
structure OrdD(S:Sto)(ks:U0):Prop where
 any: ∀a,a∈ks-> ∀b,b∈ks-> ∃t,qS S zH a b=some t
 tr: ∀a,a∈ks-> ∀b,b∈ks-> ∀c,c∈ks->qS S zH b a=some false->qS S zH c b=some false->qS S zH c a=some false
 as: ∀a,a∈ks-> ∀b,b∈ks->qS S zH a b=some true->qS S zH b a=some false
section
variable{ps:K0}
def MK(J:↑2)(f:uW X pins H e)(k:X.s₀.heap.objs.size<=e)(A:s.heap.get? e=some (seqObj "list" its.toArray n))(v:Vals ys its)(hz:ys.length<=sizeLine):Inv X pins σ (wG H e (.lst ys)) s:=by
 refine⟨J.ok,J.os,J.bare,⟨J.base.keep,J.base.slot,λb a q n j=>?_,J.base.there,λb xs q=>?_,λb i u q=>?_,λb ps q=>?_⟩,J.loc,J.cell,?_,λx c h=>?_,λp d=>?_,λb u q=>?_,J.len⟩
 .rw[zO λz=>(λo z=>absurd (ë (â z) k) (ğ _)) a (by rw[<-z];exact q)];exact J.base.free b a q n j
 .rw[zO (yA (J.base.tups b xs q) f.1)];exact J.base.tups b xs q
 .rw[zO (yA (J.base.frzs b i u q) f.1)];exact J.base.frzs b i u q
 .obtain⟨m,z⟩:=J.base.tbls b ps q;exact⟨m,by rw[zO (yA z f.1)];exact z⟩
 .rw[zO (Ne.symm f.2.1)];exact J.free
 .rw[zO (f.2.2.2.2.1 x c h)];exact J.freeC x c h
 .obtain⟨w,n,ne,nf,y⟩:=J.pin p d;exact⟨w,by rw[zO (f.2.2.2.2.2 p d)];exact n,ne,nf,y⟩
 .by_cases z:b=e
  .subst z;rw[yN]at q;cases q;exact⟨hz,its,n,v,A⟩
  .rw[zO z]at q;exact(J.hok b u q).stay (λ_ _ _ r=>r) (λc r=>by rw[zO (yA r f.1)];exact r) λc xs r=>by rw[zO (yA r f.1)];exact r
def PB(K:Q0)(α:B9)(H:Hp)(a:U0)(u:ŗ):MV:=
 open Classical in if h: ∃d v,d∈a/\Den K α H d v/\RelV v u then Classical.choose h else a.headD .non
def ltV(K:Q0)(α:B9)(H:Hp)(S:Sto)(a:U0)(p q:Keyed):Bool:=(qS S zH (PB K α H a p.1) (PB K α H a q.1)).getD false
def xB{K:Q0}(a:kds≠[])(u):PB K α H kds u∈kds:=by
 unfold PB;split
 .rename_i h;obtain⟨v,b,_⟩:=ò h;exact b
 .match kds,a with
  |x::l,_=>exact mF0
def sT{K:Q0}(h: ∃d v,d∈kds/\Den K α H d v/\RelV v u): ∃v,Den K α H (PB K α H kds u) v/\RelV v u:=by unfold PB;rw[dif_pos h];obtain⟨v,_,a,b⟩:=ò h;exact⟨v,a,b⟩
def PC(I:↑2)(c: ∀d,d∈kds->nO d=true)(o:DenL X.K α H kds kvs)(p:Vals kvs ks){i:Nat}(m:ks[i]? =some u)(k:kds[i]? =some a):
  PB X.K α H kds u=a:=by
 obtain⟨v,n,j⟩:=o.at k;obtain⟨w,b,r⟩:=p.get n;rw[m]at b;cases b;have e:=á k;have ne:kds≠[]:=λz=>by rw[z]at e;cases e
 obtain⟨y,h,q⟩:=sT ⟨a,v,e,j,r⟩;rw[q.inj r]at h;exact ZQ I (c _ (xB ne u)) (c a e) h j
end
theorem ML{a its:A0}(c:a.length=N)(b:its.length=N):(List.range N).map (λi=>((a[i]?).getD .none,(its[i]?).getD .none))=a.zip its:=by
 apply Ŕ;intro i;rw[ì];by_cases hi:i<N
 .have e:(a.zip its)[i]? =some (a[i]'#[0],its[i]'#[0]):=by rw[List.getElem?_zip_eq_some];exact⟨gE _,gE _⟩
  rw[getElem?_range hi,e];show some ((a[i]?).getD .none,(its[i]?).getD .none)=_;rw[gE #[0],gE #[0]];rfl
 .rw[ē (by rw[î];lia),ē (by rw[length_zip];lia)];rfl
theorem AM{β:Type}{l:List β}{d:β}{a:Db}(h: ∀i,i∈a->i<l.length):a.map (λi=>(l[i]?).getD d)=a.filterMap (l[·]?):=by
 induction a with
 |nil=>rfl
 |cons i a ih=>
  have hi:=h i mF0;rw[ê,ŋ (gE hi),ih λj b=>h j (mO _ b),gE hi];rfl
def ZR(S:Sto)(ds d r:U0):Prop:= ∃b:List Nat,b.Perm (List.range ds.length)/\b.Pairwise (λi j=> ∀a c,d[i]? =some a->d[j]? =some c->qS S zH c a=some false)/\r=b.filterMap (ds[·]?)
open Classical in
open Classical in
section
variable{X:Cx}{a o i:Expr}
noncomputable def HV(a:List (Key×V))(k:Key)(v:V):List (Key×V):=if(a.any λb=>decide (b.1=k))=true then a.map (λb=>if b.1=k then(b.1,v)else b)else a++[(k,v)]
def Pk(r:KV kvs vs)(k:Key)(a:RelV y u):KV (kvs.map λd=>if d.1=k then(d.1,y)else d) (vs.map λd=>if d.1=k then(d.1,u)else d):=by
 induction r with
 |nil=>exact .nil
 |@cons p q ps qs h t ih=>
  rw[ê,ê];refine .cons ?_ ih;by_cases e:p.1=k
  .rw[iP e,iP (h.1.symm.trans e)];exact⟨h.1,a⟩
  .rw[iN e,iN λz=>e (h.1.trans z)];exact h
def Pl(r:KV kvs vs){q:Key×ŗ}(h:p.1=q.1/\RelV p.2 q.2):KV (kvs++[p]) (vs++[q]):=by
 induction r with
 |nil=>exact .cons h .nil
 |cons h' t ih=>exact .cons h' ih
def A3(r:KV kvs vs)(k)(b:RelV y u):KV (HV kvs k y) (stored vs k u):=by
 unfold HV stored;rw[(show (kvs.any λa=>decide (a.1=k))=vs.any λa=>decide (a.1=k) by
   induction r with
   |nil=>rfl
   |cons h t ih=>rw[ļ,ļ,ih,h.1])];by_cases e:(vs.any λa=>decide (a.1=k))=true
 .rw[iP e,iP e];exact Pk r k b
 .rw[iN e,iN e];exact Pl r ⟨rfl,b⟩
def GC{a b:Key}(h:KeyD k a)(h':KeyD k b):a=b:=by
 cases k with
 |int i=>exact Eq.trans h h'.symm
 |str x=>exact Eq.trans h h'.symm
 |_=>exact False.elim h
def AN{a:Key}(h:KeyD k a)(h':KeyD k' a):k=k':=by
 cases k with
 |int i=>
  subst h
  cases k' with
  |int j=>have b:(Sum.inl i:Key)=.inl j:=h';cases b;rfl
  |str y=>have b:(Sum.inl i:Key)=.inr _:=h';cases b
  |_=>exact False.elim h'
 |str x=>
  subst h
  cases k' with
  |int j=>have b:(Sum.inr _:Key)=.inl j:=h';cases b
  |str y=>
   have b:=h';injection b with b
   rw[FW b]
  |_=>exact False.elim h'
 |_=>exact False.elim h
theorem SS: ∀{d}{j}{k}{k'},DenK X.K α H d j->KeyD k k'->(j.any λq=>decide (q.1=k'))=(look d k).isSome
 |_,_,k,k',.nil,hk=>rfl
 |_,_,k,k',.cons (k:=c) (k':=c') hc a l,hk=>by
  rw[DA,ļ];by_cases h:c=k
  .subst h;rw[iP rfl,dT0 (GC hc hk)];rfl
  .have m: ¬c'=k':=λz=>h (AN hc (z.symm▸hk));rw[iN h,dF0 m];exact SS l hk
theorem HW: ∀{j}{q}{k d}{k'}{v},DenK X.K α H j q->KeyD k k'->Den X.K α H d v->DenK X.K α H (j.map λp=>if p.1=k then(p.1,d)else p) (q.map λm=>if m.1=k' then(m.1,v)else m)
 |_,_,k,d,k',v,.nil,hk,hd=>.nil
 |_,_,k,d,k',v,.cons (k:=c) (k':=c') hc a l,hk,hd=>by
  rw[ê,ê];by_cases h:c=k
  .subst h;rw[iP rfl,iP (GC hc hk)];exact .cons hc hd (HW l hk hd)
  .have u: ¬c'=k':=λz=>h (AN hc (z.symm▸hk));rw[iN h,iN u];exact .cons hc a (HW l hk hd)
def DenK.append: ∀{m d}{xs j},DenK X.K α H m xs->DenK X.K α H d j->DenK X.K α H (m++d) (xs++j):=λb=>by
 induction b with
 |nil=>exact(λh=>h)
 |cons hk a l ih=>exact(λh=>.cons hk a (ih h))
def DenK.length: ∀{d}{xs},DenK X.K α H d xs->xs.length=d.length:=λa=>by
 induction a with
 |nil=>exact rfl
 |cons _ _ l ih=>exact by rw[lC,lC,ih]
def Ij(l:DenK X.K α H kvs ks)(a:KeyD k k')(b:Den X.K α H d v):DenK X.K α H (putK kvs k d) (HV ks k' v):=by
 unfold putK HV;rw[SS l a];by_cases h:(look kvs k).isSome=true
 .rw[iP h,iP h];exact HW l a b
 .rw[iN h,iN h];exact l.append (.cons a b .nil)
def DK(X:Cx)(H:Hp)(d:Addr)(a:List (Key×V)):Prop:=H d=some (.dK a)\/(a=[]/\H d=some (DN X.prog X.w d []))
def DK.nf(h:DK X H d ks): ∀ob u,H d≠some (.frz ob u):=h.elim (λz=>Ta z) λz=>by first |exact Ta z.2|exact z.elim
def GD(I:↑2)(h:DK X H d ks):ks.length<=sizeLine/\(d==sysModules)=false/\ ∃vs,KV ks vs/\s.heap.DictOf (cZ X.prog X.w) d vs:=by
 rcases h with h|⟨rfl,h⟩
 .exact(I.hok d _ h)
 .obtain⟨⟨p,hs,o,es,c,m,j,i,k,n⟩,_⟩:=(I.hok d _ h)
  have a:=k;refine⟨zero_le _,hs,[],.nil,o,es,c,m,j,i,λe b=>?_,by rw[a];exact .nil,List.nodup_nil⟩;rw[<-Array.mem_toList_iff,a]at b;exact absurd b (by simp)
theorem MM: ∀{d}{j},DenK X.K α H d j->DenL X.K α H (d.map (·.1)) (j.map λp=>kV p.1)
 |_,_,.nil=>yK
 |_,_,.cons (k:=c) (k':=c') hc a l=>by
  refine yE ?_ (MM l)
  cases c with
  |int i=>rw[show c'=.inl i from hc];exact kX i
  |str x=>rw[show c'=.inr _ from hc];exact oE x
  |_=>exact False.elim hc
end
def StrAt(val:Nat->Key)(i:Nat)(v:ŗ):Prop:=(∃x t,val i=.inr x/\v=.str x t)\/ ∃x t,val i=.inl x/\v=.int x t
def StrAt.is(h:StrAt val i v):(cZ P w).is (val i) v=true/\v.scannable=true:=by
 rcases h with⟨x,t,e,rfl⟩|⟨x,t,e,rfl⟩<;>rw[e]
 .exact⟨sE P w x t,rfl⟩
 .exact⟨EE P w x t,rfl⟩
noncomputable abbrev xZ(led:Bool):Obj:={cls:=.type "set",dict:=none,data:=.set #[] 0 (.fresh 0 0 led)}
section
variable{id:String}
def AO(X:Cx)(T:String)(b:V->Hp->Prop):Prop:= ∀(pins:M0)(s:Ŗ)(σ:St)(H:Hp)(x:V)(v:ŗ),Inv X pins σ H s->RelV x v->b x H->s.TypeIs v T/\ ∀a,v=.ref a-> ∃ob,s.heap.get? a=some ob/\ob.dict=none
def A5(b:AO X T TY)(z:PlainAttrs T)(a:Slot T name id)(c:typeOf (.builtin id)=pure (.type "method_descriptor"))(F:Wg X id r)(E:PE X o to)(C:PA X (e::es) t)
  (hbase:attributeBase o name X.env (eval o X.env)=eval o X.env)
  (hfew:((backTo pos (starEach (e::es) X.env)).all (λx=>!x.1)&&(backToKw pos (keywordEach [] X.env)).all (λx=>x.1.isSome)
   &&decide ((e::es).length+([]:List Keyword).length+(if([]:List Keyword).isEmpty then 0 else 1)<30))=true)
  (hline:(apos.endLine==pos.line)=true) (hs:starEach (e::es) X.env=(false,eval e X.env)::starEach es X.env) (hplain:(backTo pos (starEach es X.env)).any (·.1)=false):
  PE X (.Call (.Attribute o name apos) (e::es) [] pos) (λσ H Q=>to σ H λx d=>TY x d/\t σ d λvs j=>r x vs j Q):=by
 intro pins s σ H Q I h;refine wpAny_Call_method_late hbase hfew hline rfl (jU (E pins s σ H _ I h) λv m ⟨x,d,I1,i,w,u⟩=>?_);obtain⟨A,p⟩:=b pins m σ d x v I1 i w;refine⟨T,id,z,a,c,A,p,?_⟩;have k:=C pos pins m σ d _ I1 u;rw[hs]at k ⊢;refine Calls.callWith_builtin (by show(false || (backTo pos _).any (·.1))=false;rw[hplain]<;>rfl) (Calls.evalArgs_plain ?_);exact jU k λq B ⟨vs,j,y,D,n⟩=>F pins B σ j x vs v q Q y i D n
end
def VAt(d:Addr)(a:A0)(b:Nat)(h:Heap):Prop:= ∃o es,h.get? d=some o/\o.ExactDict/\o.data=.dict es b/\es.toList.map (·.val)=a
def VAt.at(x:VAt d us ep h)(m: ∀o,h.get? d=some o->h'.get? d=some o):VAt d us ep h':=let ⟨o,es,a,r⟩:=x;⟨o,es,m o a,r⟩
theorem VAt.size(x:VAt d us ep h): ∃o es,h.get? d=some o/\o.ExactDict/\o.data=.dict es ep/\es.size=us.length/\ ∀i (hi:i<es.size),us[i]? =some es[i].val:=by obtain⟨o,es,c,b,a,e⟩:=x;refine⟨o,es,c,b,a,by rw[<-e,lM,ä],λi hi=>?_⟩;rw[<-e,ì,í,ą hi];rfl
end M
end L2
namespace L2
open PySem PySem.Spec PyProof.Rows
open Builtin Builtin.ObjectAttr
section
def SetAt(h h':Heap)(x:Addr)(o:Obj)(name:Str)(v:ŗ)(a:Addr):Prop:=
 h.get? a=none/\a≠x/\h'.get? x=some {cls:=o.cls,dict:=some a,data:=o.data,slots:=o.slots}/\h'.Ns1 a (λy=>if y=name then some v else none)/\ ∀b ob,b≠x->h.get? b=some ob->h'.get? b=some ob
end
noncomputable abbrev BIG:Nat:=10 ^ 100
section
variable{σ:St}{H:Hp}
def tJ(i:Nat):TE:=λσ H Q=> ∃n,σ[i]? =some (some (.int n))/\n.natAbs<BIG/\ ∀y:Str,Q (.str y) H
end
namespace M
structure XIn(K:Q0)(M C f:Addr):Prop where
 ex: ∃nm q N bs sn sub ab col dd k0 k1 k2 k3 k5,K.lookup C=some (excClassObj nm q C N bs (.ref M::Z9) true sn sub ab col dd k0 k1 k2 k3 k5 "ValueError.__new__")/\PySem.W.nsOkIn K N=true/\PySem.W.nsIn K N "__init__"=some (some (.ref f))/\ ∀n∈qn,PySem.W.nsIn K N n=some none
 fo: ∃o,K.lookup f=some o/\o.cls=.type "function"
def XIn.cl{K:Q0}(x:XIn K M C f):XCl K C (.ref M::Z9) (some (.ref f)):=by obtain⟨m,q,N,bs,j,sub,k,e,p,o,r,h,n,i,a,b,c,d⟩:=x.ex;exact⟨m,q,N,bs,true,j,sub,k,e,p,o,r,h,n,i,a,b,c,d,rfl⟩
structure DefM(K:Q0)(mg:L0)(x:Str)(st:Stmt):Prop where
 ex: ∃f fd,mg x=some (.ref f)/\Fun K x x st f fd
def def_mk{K:Q0}{st:Stmt}{kV:ŗ}(a:PySem.W.nsIn K mainGlobals x=some (some (.ref g)))
  (l:K.lookup g=some ⟨oc,od,.func (PySem.W.fnOf x x (wM st) (yT st) (zK st) .none kV dc pm an cd ct),sl⟩) (c:PySem.W.codeIn K cd x=true) (k:PySem.W.keepIn K (.ref g)=true) (X:K.In h) (GG:h.Ns mainGlobals mg):DefM K mg x st:=⟨_,_,PySem.W.mg_of X GG a,qO l c k⟩
structure Cal(P:Ř)(w:World)(K:Q0)(mg:L0)(base:Heap)(CX:YE)(x:Str)(k:Nat)(ps:K0)(sp:Sp):Prop where
 ex: ∃fa fd,FnOk P w K mg base CX k fa fd ps sp/\mg x=some (.ref fa)/\PySem.W.keepIn K (.ref fa)=true/\Binds K fd ps []
abbrev Ik(P:Program)(w:World)(K:Q0)(mg:L0)(base:Heap)(x:Str)(k n:Nat)(ps:K0)(F:List MV->Sto->R Er):Prop:=Cal P w K mg base sF x k ps (KM ⟨K,mg,P,w⟩ n F)
abbrev V9(P:Program)(w:World)(K:Q0)(mg:L0)(base:Heap)(x:Str)(k n:Nat)(ps:K0)(F:List MV->Sto->R Er):Prop:=Cal P w K mg base (CXe P w) x k ps (zAC ⟨K,mg,P,w⟩ n F)
section
variable{K:Q0}{st:Stmt}
abbrev Il(x:Str)(st:Stmt)(ps:K0):Prop:= ∀(kV a d:Value)(e:Option Addr)(c ct:Value)(b:A0),b.length=ps.length->bindArgs (PySem.W.fnOf x x (wM st) (yT st) (zK st) .none kV a d e c ct) ⟨b,[]⟩=pure (ps.zip b)
def Cal.noX(G:V9 P w K mg base x k n ps F):Ik P w K mg base x k n ps F:=let ⟨d,a,G,m,c,b⟩:=G.ex;⟨d,a,G.noX,m,c,b⟩
def A6{l:PySem.W.OpenLaw}(D:DefM K mg x st)(a:mg x=some (.ref fa))(e: ∀ kV j u  y  q ct  s  v ,BindsTo s (PySem.W.fnOf x x (wM st) (yT st) (zK st) .none kV j u y q ct) ⟨[v],[]⟩ [(p,v)])
  (h: ∀base f d,Fun K x x st f d->FnOk l.prog w K mg base sF k f d [p] (KM ⟨K,mg,l.prog,w⟩ 1 F)):
  ∃d:FuncData,(∀ s  v ,BindsTo s d ⟨[v],[]⟩ [(p,v)])/\ ∀base:Heap,K.In base->base.Ns mainGlobals mg->FnOk l.prog w K mg base sF k fa d [p] (MG K F):=by
 obtain⟨f,d,m,b⟩:=D.ex;rw[a]at m;cases m;refine⟨d,?_,λbase _ _=>(h base fa d b).imp λc H Q E=>Ho (g:=⟨K,mg,_,w⟩) c H Q E⟩;obtain⟨_,_,_,_,_,_,_,_,_,rfl,_,_⟩:=b.ex;exact e _ _ _ _ _ _
end
section
variable{p pos:Pos}
def Im(G:Ik X.prog X.w X.K X.mg X.base x k n ps F)(v:Room k X.A)(z:Gl X x)(a:MA X W (e::es) af)(c:(x==("__debug__"))=false:=by decide)
  (he:q8 X e es:=by rfl) (hpl:q9 X pos es:=by rfl):zT X W (.Call (.Name x p) (e::es) [] pos) (λd S=>(af d S).bind λrs j=>zG n F rs j):=
 let ⟨_,_,G,m,s,b⟩:=G.ex;(by
   obtain⟨t,a,y⟩:=a;refine⟨_,Mc G v z m s b .nil Ge a c he hpl,λα d S σ H Q o sl q=>y α d S σ H _ o sl (q.bind λC rs j h E D u r B i=>?_)⟩;rw[aN];exact MD u r B i)
end
end M
end L2
namespace L2
open PySem PySem.Spec PyProof.Rows
structure RoomH(k:Nat)(A:Around):Prop where
 dp:A.depth+3 * k+5<recursionLimit
 un:A.units+16 * k+200<cLine
def RoomH.depth(r:RoomH k A):A.depth<recursionLimit:=by have:=r.dp;omega
def RoomH.units(r:RoomH k A):A.units+64<cLine:=by have:=r.un;omega
structure FnOkH(P:Ř)(w:World)(K:Q0)(mg:L0)(base:Heap)(k:Nat)(f:Addr)(fd:FuncData)(ps:K0)(sp:Sp):Prop where
 len: ∀vs H Q E,sp vs H Q E->vs.length=ps.length
 run: ∀(A:Around)(outer:List Env)(s:Ŗ)(H:Hp)(args:Args)(us:A0)(vs:List V)(Q:VK)(E:XK),RoomH k A->HdA A H->Env0 P w K mg base A outer s H->BindsTo s fd args (ps.zip us)->Vals vs us->sp vs H Q E->
  codeAny (model P w) A (.call (.ref f) args) (CR sF outer P w H s Q E) s
namespace M
section
variable{P:Ř}{w:World}{K:Q0}{mg:L0}{base:Heap}{x:Str}{ps:K0}{k n:Nat}{F:List MV->Sto->R Er}
structure CalH(P:Ř)(w:World)(K:Q0)(mg:L0)(base:Heap)(x:Str)(k n:Nat)(ps:K0)(F:List MV->Sto->R Er):Prop where
 ex: ∃fa fd,FnOkH P w K mg base k fa fd ps (KM ⟨K,mg,P,w⟩ n F)/\mg x=some (.ref fa)/\PySem.W.keepIn K (.ref fa)=true/\Binds K fd ps []
end
noncomputable def Pm:List Er->Sto->R Er
 |[.val (.int i),.val (.int j)],S=>.ok (.val (.int (if j<i then j else i))) S
 |_,_=>.no
section
def A7:rR X W (λxs H Q=> ∃i j,xs=[.int i,.int j]/\Q (.int (if j<i then j else i)) H) Pm:=by
 intro k h α S H Q e d a;unfold Pm at a;split at a
 .obtain⟨v,u,rfl,b,c⟩:=Th d;cases yZ b;cases yZ c;exact⟨_,_,rfl,Post.val a e (kX _)⟩
 .exact a.elim
end
def A8:bootBuiltins "min"=some (.builtin "min"):=by decide+kernel
noncomputable def W1(a:zA0)(S:Sto):R Er:=.ok (.val (.loc ↑0)) (S++[.dic a])
section
variable{X:Cx}{o e:Expr}{es:P0}
noncomputable def mG(a:List (Key×V))(k:Key):Option V:=(a.find? λp=>decide (p.1=k)).map (·.2)
theorem PD: ∀{d}{vs}(r:KV d vs) k ,(∀v,mG d k=some v-> ∃u,valueAt vs k=some u/\RelV v u)/\(mG d k=none->valueAt vs k=none)
 |_,_,.nil,k=>⟨λv h=>(nomatch h),λ_=>rfl⟩
 |(a,x)::d,(b,u)::vs,.cons ⟨h1,h2⟩ l,k=>by
  cases h1;unfold mG valueAt;by_cases c:a=k
  .simp only[find?_cons,c];exact⟨λv h=>⟨u,rfl,by cases h;exact h2⟩,λh=>nomatch h⟩
  .simp only[find?_cons,c];exact(PD l k)
theorem DF: ∀{j}{m}{k}{k'},DenK X.K α H j m->KeyD k k'->(∀d,look j k=some d-> ∃v,mG m k'=some v/\Den X.K α H d v)/\(look j k=none->mG m k'=none)
 |_,_,_,_,.nil,_=>⟨λd h=>(nomatch h),λ_=>rfl⟩
 |_,_,k,k',.cons (k:=k0) (k':=k0') (v:=v0) h1 h2 l,hk=>by
  rw[DA];unfold mG;by_cases c:k0=k
  .subst c;have:=GC h1 hk;simp only[find?_cons,this];exact⟨λd h=>⟨v0,rfl,by cases h;exact h2⟩,λh=>nomatch h⟩
  .have a: ¬k0'=k':=λz=>c (AN h1 (z▸hk));simp only[find?_cons,a,iN c];exact(DF l hk)
def TyK(X:Cx)(x:V)(H:Hp):Prop:= ∃d a,x=.ref d/\DK X H d a
def Io:AO X "dict" (TyK X):=by intro pins s σ H x v I h ⟨d,n,e,i⟩;subst e;cases h;obtain⟨_,hs,k,m,o,es,j,c,b,_⟩:=GD I i;exact⟨⟨o,c,b.1⟩,λa e=>by cases e;exact⟨o,c,b.2.1⟩⟩
end
section
def vJ(i:Nat)(a:Rho)(S:Sto):R Er:=Mu (a[i]?) S
noncomputable def kJ(d:MV)(_:Rho)(S:Sto):R Er:=.ok (.val d) S
noncomputable def bJ(f:Rho->Sto->R α)(F:α->Sto->R β)(a:Rho)(S:Sto):R β:=(f a S).bind F
noncomputable def dJ(F:Er->Er->Sto->R Er)(f g:AX)(a:Rho)(S:Sto):R Er:=(f a S).bind λp S=>(g a S).bind λq S=>F p q S
def nJ(f:AX)(a:Rho)(S:Sto):R Er:=(f a S).bind λp S=>(gV p S).bind λk S=>.ok (.val (.bl !k)) S
def aJ(f g:AX)(a:Rho)(S:Sto):R Er:=(f a S).bind λp S=>VW p S λS=>g a S
def oJ(f g:AX)(a:Rho)(S:Sto):R Er:=(f a S).bind λp S=>orF p S λS=>g a S
noncomputable def iJ(c:AZ)(f g:Rho->Sto->R α)(a:Rho)(S:Sto):R α:=(c a S).bind λk S=>if k=true then f a S else g a S
noncomputable def mJ(_:Rho)(S:Sto):R (Option Int):=.ok none S
noncomputable def tJ(F:Er->Option Int->Option Int->Sto->R Er)(f:AX)(g h:Rho->Sto->R (Option Int))(a:Rho)(S:Sto):R Er:=(f a S).bind λp S=>(g a S).bind λl S=>(h a S).bind λu S=>F p l u S
def lJ(k:zA0)(_:Rho)(S:Sto):R Er:=W1 k S
def zJ(_:Rho)(S:Sto):R Er:=U8 S
def fJ(n:Nat)(F:List MV->Sto->R Er)(a:Rho->Sto->R (List Er))(b:Rho)(S:Sto):R Er:=(a b S).bind λr S=>zG n F r S
def xJ(n:Nat)(F:List MV->Sto->R Er)(a:Rho->Sto->R (List Er))(b:Rho)(S:Sto):R Er:=(a b S).bind λr S=>ZD n F r S
def hJ(F:List MV->Sto->R Er)(_:Rho)(S:Sto):R Er:=zG 0 F [] S
noncomputable def eJ(t:Er->Sto->Bool)(F:Er->List Er->Sto->R Er)(f:AX)(a:Rho->Sto->R (List Er))(b:Rho)(S:Sto):R Er:=(f b S).bind λp S=>if t p S=true then(a b S).bind λr S=>F p r S else .no
noncomputable def gJ(t:Er->Sto->Bool)(F:Er->List Er->Sto->R Er)(f:AX)(a:Rho)(S:Sto):R Er:=(f a S).bind λp S=>if t p S=true then F p [] S else .no
noncomputable def uJ(_:Rho)(S:Sto):R Bool:=.ok true S
def pJ(i:Rho->Sto->R Wk)(g:MV->Rho->Sto->R Rho)(c:AZ)(e:AX)(n:Nat)(I:Db)(a:Rho)(S:Sto):R Er:=(i a S).bind λk S=>if k.ds.length<1000000 then(yD g c e (CF n I a) k.gs k.ds S).bind λo S=>.ok (.new o) S else .no
def jJ(F G:Er->Er->Sto->R Er)(f g h:AX)(a:Rho)(S:Sto):R Er:=(f a S).bind λp S=>(g a S).bind λq S=>chF F G p q S λS=>h a S
noncomputable def qJ(f:AZ)(a:Rho)(S:Sto):R Bool:=(f a S).bind λk S=>.ok (!k) S
noncomputable def rJ(f g:AZ)(a:Rho)(S:Sto):R Bool:=(f a S).bind λk S=>if k=true then g a S else .ok false S
noncomputable def sJ(f g:AZ)(a:Rho)(S:Sto):R Bool:=(f a S).bind λk S=>if k=true then .ok true S else g a S
noncomputable def wJ(_:Rho)(S:Sto):R (List Er):=.ok [] S
noncomputable def yJ(f:AX)(g:Rho->Sto->R (List Er))(a:Rho)(S:Sto):R (List Er):=(f a S).bind λp S=>(g a S).bind λl S=>.ok (p::l) S
noncomputable def AJ(f:AX)(a:Rho)(S:Sto):R Fl:=(f a S).bind λr S=>.ok (.ret r) S
noncomputable def BJ(f:AX)(a:Rho)(S:Sto):R Fl:=(f a S).bind λ_ S=>.ok (.next a) S
def CJ(f:AX)(i:Nat)(a:Rho)(S:Sto):R Fl:=(f a S).bind (HC a i)
noncomputable def DJ(F:Er->Er->MV->Rho->Sto->R Rho)(f g:AX)(d:MV)(a:Rho)(S:Sto):R Rho:=(f a S).bind λp S=>(g a S).bind λq S=>F p q d a S
def EJ(f:AX)(g:MV->Rho->Sto->R Rho)(a:Rho)(S:Sto):R Fl:=(f a S).bind (Nf g a)
def FJ(i:Rho->Sto->R Wk)(g:MV->Rho->Sto->R Rho)(b:AY)(a:Rho)(S:Sto):R Fl:=(i a S).bind λk S=>nU g b k.gs k.ds a S
noncomputable def GJ(a:Rho->Sto->R (List Er))(c:Str)(b:Rho)(S:Sto):R Fl:=(a b S).bind λr S=>if r.length<=10 then .exc c [] S else .no
def HJ(c:K0)(i:Nat)(h:AY)(n:Nat)(F:List MV->Sto->R Er)(a:Rho->Sto->R (List Er))(b:Rho)(S:Sto):R Fl:=(noX (a b S)).bind λr S=>Zg c i (λ_ S=>.ok (.next b) S) h b (ZD n F r S)
def IJ(c:K0)(i j:Nat)(h:AY)(n:Nat)(F:List MV->Sto->R Er)(a:Rho->Sto->R (List Er))(b:Rho)(S:Sto):R Fl:=(noX (a b S)).bind λr S=>Zg c i (HC b j) h b (ZD n F r S)
noncomputable def JJ(a:Rho)(S:Sto):R Fl:=.ok (.next a) S
end
section
variable{p:Pos}
def augF(F:Er->Er->Sto->R Er)(i:Nat)(f:AX)(a:Rho)(S:Sto):R Fl:=(Mu (a[i]?) S).bind λp b=>(f a b).bind λq c=>(F p q c).bind (HC a i)
def HX:bootBuiltins "sorted"=some (.builtin "sorted"):=by decide+kernel
end
def KJ(n:Nat)(F:List MV->Sto->R Er)(a:Rho->Sto->R (List Er))(b:Rho)(S:Sto):R Er:=(noX (a b S)).bind λr S=>ZD n F r S
def LJ(c:AZ)(f g:AX)(a:Rho)(S:Sto):R Er:=(noX (c a S)).bind λk S=>if k=true then f a S else g a S
def MJ(b:K0)(i:Nat)(h:AY)(f:AX)(a:Rho)(S:Sto):R Fl:=Zg b i (λ_ S=>.ok (.next a) S) h a (f a S)
section
noncomputable def Ip(r:Addr)(j:Int):HO:=.ext λh=> ∃t u v,IsRange h r 0 j 1 t u v
def A9(w:Gl X "range")(z:X.mg "range"=none)(y:PA X [a] ta)(hs:starEach [a] X.env=[(false,eval a X.env)]:=by rfl):
  PE X (.Call (.Name "range" p3) [a] [] pos2) (λσ H Q=>ta σ H λvs d=> ∃j:Int,vs=[.int j]/\ ∀r,d r=none->Q (.ref r) (wG d r (Ip r j))):=by
 intro pins s σ H Q I h;refine Call_ (CG I w z boot_range (ĳ (jU (y pos2 pins s σ H _ I h) λB i ⟨vs,d,I1,m,k⟩=>?_) hs rfl));obtain⟨j,rfl,q⟩:=k;obtain⟨u,rfl,t,rfl⟩:=vals1 m;refine call_range_1 ?_;have c:=I1.hok.fresh (à _);refine⟨.ref i.heap.objs.size,_,I1.laid (o:=Ip i.heap.objs.size j) (λb o e=>hP0 _ e) (à _) ⟨⟨_,_,_,IsRange.new ..⟩,⟨_,å _ rfl⟩,?_⟩,rfl,q _ c⟩;rintro C A ⟨t,u,v,p⟩ n;exact⟨t,u,v,n _ p⟩
def LC{a:Int}{n:Nat}(K:A.handled=none)(G:IsRange s.heap r a b c t u v)(m:Builtin.Range.small a b c=true)
  (hn:Builtin.Range.rangeSize a b c=n) (hlen:n<=2 ^ 24) (hQ: ∀h' j d,(∀b o,s.heap.get? b=some o->h'.get? b=some o)->ItemsOf (λi v=> ∃t,v=.int (a+i * c) t) d n->Q d.toList {s with heap:=h',toks:=j}):
  wpAny (model prog w) A (collect (.ref r)) Q E s:=by
 unfold collect;refine wB (wpAny_runValue (Đ F.entry_proto_collect ?_));rw[Ā F.plain_proto_collect _];show wpAny _ A.in1 _ _ _ s;refine wB (ÿ ?_);refine wP ⟨Ĩ F.plain_list_iadd _,Đ F.entry_list_iadd ?_⟩;rw[Ā F.plain_list_iadd _];show wpAny _ A.in1 _ _ _ _;have I:(s.heap.push {cls:=.type "list",data:=.seq ([]:A0).toArray}).get? ↑1=some {cls:=.type "list",data:=.seq #[] 0}:=å _ rfl
 have p: ∀h' j d k,(∀b o,b≠↑1->(s.heap.push {cls:=.type "list",data:=.seq ([]:A0).toArray}).get? b=some o->h'.get? b=some o)->h'.get? ↑1=some {cls:=.type "list",dict:=none,data:=.seq d k,slots:=#[]}->ItemsOf (λi v=> ∃t,v=.int (a+i * c) t) d n->
   wpAny (model prog w) A (match Value.ref s.heap.objs.size with
   |Value.ref a=>do
    match (<-load a).data with
     |Data.seq xs _=>pure xs.toList
     |_=>unsupported "internal:collect"
   |_=>unsupported "internal:collect") Q E {s with heap:=h',toks:=j}:=by
  intro h' j d k L H B;show wpAny _ A _ _ _ _;refine wB (wpAny_load H ?_);refine wP ?_;exact hQ h' j d (λb o e=>L b o (è (â e)) (hP0 _ e)) B
 refine ú (wpAny_extend_range (R:=λD C=>D=.ok _/\ ∃h' j d k,C={s with heap:=h',toks:=j}/\(∀b o,b≠↑1->(s.heap.push {cls:=.type "list",data:=.seq ([]:A0).toArray}).get? b=some o->h'.get? b=some o)/\h'.get? ↑1=some {cls:=.type "list",dict:=none,data:=.seq d k,slots:=#[]}/\ItemsOf (λi v=> ∃t,v=.int (a+i * c) t) d n)
  K (hP0 _ G) m hn hlen ↑1 (.ref ↑1) 0 I λh' j d k z q y=>⟨rfl,h',j,d,k,rfl,z,q,y⟩) (λfin C h=>?_) (λe C h=>?_)
 .cases fin with
  |done f=>
   obtain⟨e,h',j,d,k,rfl,z,q,y⟩:=h;cases e;exact p h' j d k z q y
  |again k=>exact⟨h.1,Ĵ h.2 λr J G=>by obtain⟨rfl,h',j,d,k,rfl,z,q,y⟩:=G;exact p h' j d k z q y⟩
 .exact absurd h.1 (by simp)
end
section
variable{n:Nat}
def SU(D:A.handled=none)(z:IsRange s.heap r a b c t u v)(j:Builtin.Range.small a b c=true)(C:Builtin.Range.rangeSize a b c=n)(m:n<=2 ^ 24)
  (h: ∀(h':Heap) q  acc' ,(∀b o,s.heap.get? b=some o->h'.get? b=some o)->ItemsOf (λi v=> ∃t,v=.int (a+i * c) t) acc' n->Q₁ (.ref h'.objs.size) {s with heap:=h'.push {cls:=.type "tuple",data:=.seq acc'},toks:=q}):
  codeAny (model prog w) A (.call (.builtin "tuple.__new__") ⟨[.type "tuple",.ref r],[]⟩) (wants Q₁ E) s:=by
 refine codeAny_of_tree ?_;show wpAny _ A.in1 _ _ _ s;refine wB (wpAny_of_eq (F.newCall_tuple_1 _) (wP ⟨Ĩ F.plain_tuple_new _,Đ F.entry_tuple_new ?_⟩));rw[Ā F.plain_tuple_new _];have B:=sub_tuple_self;have y:=init_tuple_lookup;have H:=madeHere_tuple;have p:s.TypeIs (.ref r) "range":=⟨_,z,rfl⟩
 wp_walk using ħ p,LC (A:=A.in1) D z j C m
 intro h' q d G k;show wpAny _ _ (Builtin.Tuple.tupleExact d.toList.toArray >>= λv=>ret v) _ _ _;unfold Builtin.Tuple.tupleExact;refine wB (ÿ ?_ (by show d.toList.toArray.size<=sizeLine;simp only[Array.toArray_toList];rw[k.1,Ď];omega));refine wP ?_;have e:d.toList.toArray=d:=by simp
 rw[e];exact h h' q d G k
def DG(z:A.handled=none)(B:IsRange s.heap r a b c t u v)(h:Builtin.Range.small a b c=true)(y:Builtin.Range.rangeSize a b c=n)(m:n<=2 ^ 24)
  (hQ: ∀(h':Heap) q  acc' ,(∀b o,s.heap.get? b=some o->h'.get? b=some o)->ItemsOf (λi v=> ∃t,v=.int (a+i * c) t) acc' n->Q (.ref h'.objs.size) {s with heap:=h'.push {cls:=.type "tuple",data:=.seq acc'},toks:=q}):
  wpAny (model prog w) A (call (.type "tuple") [.ref r]) Q E s:=by
 refine callType_codes (Q₁:=λj d=>d.TypeIs j "tuple"/\Q j d) F.called_tuple (F.typeCall_tuple_1 _) F.entry_object_init
  (SU z B h y m λh' q p C k=>⟨⟨_,å _ rfl,rfl⟩,hQ h' q p C k⟩) λj d e=>?_
 exact⟨e.1,F.args_object_init_2 j _,object_init_meets F.called_tuple.init.lookup F.called_tuple.made ↑4 prog w A.in1 _ d ⟨e.1,rfl,e.2⟩⟩
end
section
variable{pos pos2 p2 p3:Pos}
noncomputable abbrev Iq(j:Int):List Int:=(List.range j.toNat).map Int.ofNat
theorem Df:CallR X (.type "tuple") (λxs H Q=> ∃r j,xs=[.ref r]/\H r=some (Ip r j)/\ -1000000<=j/\j<=1000000/\X.calm=true/\ ∀p,H p=none->Q (.ref p) (wG H p (.tup ((Iq j).map V.int)))):=by
 intro pins s σ H xs L Q I r h;obtain⟨y,j,rfl,G,M,K,D,q⟩:=h;obtain⟨_,rfl,J⟩:=vals1 r;cases J;obtain⟨⟨t,u,v,C⟩,_⟩:=(I.hok y _ G)
 refine DG (I.ok.hd D) C (small_one ↑4 ↑4 #[0] #[0]) (show Builtin.Range.rangeSize 0 j 1=j.toNat by rw[rangeSize_one];split<;>omega) #[0] λh' w a A c=>?_;have I1:Inv X pins σ H {s with heap:=h',toks:=w}:=I.kept A
 have F:Inv X pins σ (wG H h'.objs.size (.tup _)) {s with heap:=h'.push {cls:=.type "tuple",data:=.seq a},toks:=w}:=
  I1.laid (λb o e=>hP0 _ e) (à _) (⟨?_,_,(by
    obtain⟨z,E⟩:=c;refine ?_
    have d: ∀(l:A0)(k:Nat),(∀i v,l[i]? =some v-> ∃t,v=Value.int ((k+i:Nat):Int) t)->Vals (((List.range' k l.length).map Int.ofNat).map V.int) l:=by
     intro l
     induction l with
     |nil=>intro k _;exact .nil
     |cons x l ih=>
      intro k n;obtain⟨t,rfl⟩:=n 0 x rfl;refine .cons ⟨t,rfl⟩ (ih _ λi v m=>?_);obtain⟨B,e⟩:=n (i+1) v m;exact⟨B,by rw[e,show k+_=k+1+i by lia]⟩
    have:=d a.toList 0 λi v m=>by
     obtain⟨t,e⟩:=E i v (by rw[<-í];exact m);refine⟨t,e.trans ?_⟩;congr 1
     lia
    rw[ä,z, <-List.range_eq_range']at this;exact this),?_⟩)
 .exact⟨.ref h'.objs.size,_,F,rfl,q _ (I1.hok.fresh (à _))⟩
 .rw[lM,lM,î,Ď]
  lia
 .have:=IsTup.new h' a;simpa using this
def ES(rs:List Er)(S:Sto):R Er:=match rs with
 |[.val (.int j)]=>if -1000000<=j/\j<=1000000 then .ok (.val (.tup ((Iq j).map MV.int))) S else .no
 |_=>.no
def Pn(z:X.calm=true)(D:Gl X "tuple")(F:X.mg "tuple"=none)(d:Gl X "range")(c:X.mg "range"=none)(e:MA X W [a] af)(hs:starEach [a] X.env=[(false,eval a X.env)]:=by rfl)
  (he1:starEach [.Call (.Name "range" p3) [a] [] pos2] X.env=(false,eval (.Call (.Name "range" p3) [a] [] pos2) X.env)::starEach [] X.env:=by rfl) (hpl1:(backTo pos (starEach [] X.env)).any (·.1)=false:=by rfl):
  zT X W (.Call (.Name "tuple" p2) [.Call (.Name "range" p3) [a] [] pos2] [] pos) (λm S=>(af m S).bind ES):=by
 obtain⟨t,e,k⟩:=e;refine⟨_,CL Df D F AA (FV (A9 d c e hs) NO he1) ↑4 ↑4 he1 hpl1,λα m S σ H Q w sl q=>k α m S σ H _ w sl (q.bind λJ I L r G K B h E b=>?_)⟩
 replace b:=b.shift B
 unfold ES at b;split at b
 .split at b
  .rename_i j n;obtain⟨u,rfl,s⟩:=MC E;cases yZ s;refine⟨j,rfl,λv i=>?_⟩;have C:=h.newx (o:=Ip v j) i;have A:=h.new (o:=Ip v j) i;exact⟨v,j,rfl,yN,n.1,n.2,z,λp y=>(b.shift C).newt A y (CP _)⟩
  .exact b.elim
 .exact b.elim
end
end M
end L2
namespace L2
open PySem PySem.Spec PyProof.Rows
section
def ZS(I:↑2)(e:H a=some (.frz o (.ins C dx fs))): ∃j,ObjM s.heap a dx C j/\ ∀f,RelO (fs.lookup f) (j f):=by
 obtain⟨_,d,z,ne,ob,j,n,r,q⟩:=(I.hok a _ e)
 exact⟨j,⟨ob,n,ne⟩,r⟩
def SV(I:↑2)(e:H a=some (.frz o (.ins C dx fs)))(c:Cls X.K C)(n:NoAttr X.K C f)(l:fs.lookup f=some v)
  (h: ∀u j,Inv X pins σ H j->RelV v u->Q u j):wpAny ↑5 A (getAttr (.ref a) f b) Q E s:=by
 obtain⟨p,O,r⟩:=ZS I e;obtain⟨u,k,d⟩:=RelO.some_of (by rw[<-l];exact r f);exact (by
   obtain⟨q,J,m⟩:=O.look;exact PySem.W.get_value (I.kIn) J (PySem.W.plainGet_of (c.get f)).1 (PySem.W.findObj_own (c.hd) n rfl (by rw[m,k])) ((by
     cases v with
     |non=>cases d;rfl
     |bl b=>cases d;rfl
     |int i=>obtain⟨t,e⟩:=d;cases e;rfl
     |str x=>obtain⟨t,e⟩:=d;cases e;rfl
     |byt b=>obtain⟨t,e⟩:=d;cases e;rfl
     |flt b=>obtain⟨t,e⟩:=d;cases e;rfl
     |ref a=>cases d;rfl
     |ty n=>cases d;rfl)) (h u _ (I.tok _) d))
def SW(I:↑2)(e:H a=some (.frz o (.ins C dx fs)))(c:Cls X.K C)(k:Meth X.K C m g)(l:fs.lookup m=none)
  (h:Q (.ref g,[.ref a]) s):wpAny ↑5 A (getMethod (.ref a) m pl) Q E s:=by
 obtain⟨d,O,r⟩:=ZS I e;have b:=RelO.none_of (by rw[<-l];exact r m);exact Fv I.kIn O (c.get m) k.at_ k.fn b h
def Inv.freeze(I:↑2)(e:H a=some (.ins C dx fs)):Inv X pins σ (wG H a (.frz (PySem.W.instObj C dx) (.ins C dx fs))) s:=by
 obtain⟨d,z,ne,ob,b,n,r,q⟩:=(I.hok a _ e)
 exact I.write (by rw[e];exact True.intro) (.inl rfl) (λ_ _ _ q=>q) ⟨_,ob⟩ ⟨ob,by rw[zO ne];exact d,z,ne,ob,b,n,r,q⟩
end
namespace M
structure OC(K:Q0)(c:Str)(C:Addr):Prop where
 ns:PySem.W.nsIn K mainGlobals c=some (some (.ref C))
 nm:(PySem.W.clsIn K C).map (·.name)=some c
 cl:Cls K C
theorem OC.eq{K:Q0}(o:OC K c C)(h:PySem.W.nsIn K mainGlobals c=some (some (.ref C'))):C'=C:=by have:=o.ns;rw[h]at this;cases this;rfl
section
variable{W:XW}{a:Expr}{g:AX}{pos apos p:Pos}
noncomputable def oG(b:K0)(a:Str):Er->Sto->R Er
 |.val (.obj c ns ds),S=>if c∈b then(match (ns.zip ds).lookup a with |some d=>.ok (.val d) S|none=>.no)else .no
 |_,_=>.no
theorem HY{K:Q0}: ∀{ns:K0}{ds}{vs},DenL K α H ds vs->(ns.zip ds).lookup fld=some d-> ∃v,(ns.zip vs).lookup fld=some v/\Den K α H d v
 |[],_,_,_,h=>by simp at h
 |n::ns,[],_,_,h=>by simp at h
 |n::ns,x::ds,vs,l,h=>by
  obtain⟨v,r,rfl,a,l'⟩:=l.uncons;rw[ģ,Ģ]at h;rw[ģ];by_cases e:fld==n
  .rw[e]at h;cases h;exact⟨v,by rw[Ģ,e],a⟩
  .have e:(fld==n)=false:=by simpa using e
   rw[e]at h;obtain⟨w,c,b⟩:=HY l' h;exact⟨w,by rw[Ģ,e];exact c,b⟩
def Po(T: ∀c∈cs, ∃C,OC X.K c C/\NoAttr X.K C fld)(m:zT X W e f)(hb:attributeBase e fld X.env (eval e X.env)=eval e X.env:=by rfl):zT X W (.Attribute e fld pos) (λy S=>(f y S).bind (oG cs fld)):=by
 obtain⟨t,m,k⟩:=m;refine⟨λσ H Q=>t σ H λx i=> ∃a o C j fs v,x=.ref a/\i a=some (.frz o (.ins C j fs))/\Cls X.K C/\NoAttr X.K C fld/\fs.lookup fld=some v/\Q v i,λpins s σ H Q I h=>?_,λα y S σ H Q A sl q=>k α y S σ H _ A sl (q.bind λu r S1 w i e1 M J d1 b=>?_)⟩
 .refine (Attribute_any_ (jU (m pins s σ H _ I h) λu s1 ⟨x,i,I1,N,a,o,C,j,fs,v,E,B,c,n,l,q⟩=>?_) (by rw[arm_eval_Attribute,hb]));subst E;obtain rfl:u=Value.ref a:=N;exact SV I1 B c n l λu' s2 L Z=>⟨v,i,L,Z,q⟩
 .replace b:=b.shift M
  unfold oG at b;split at b
  .rename_i c ns ds;split at b
   .rename_i F;split at b
    .rename_i d U;obtain⟨a,C,j,vs,o,rfl,D,G,h3,h4,O⟩:=Gp d1.1;obtain⟨C',p,z⟩:=T c F;cases p.eq G;obtain⟨v,Y,P⟩:=HY O U;exact⟨a,o,C,j,_,v,rfl,D,p.cl,z,Y,Post.val b J P⟩
    .exact b.elim
   .exact b.elim
  .exact b.elim
def W2(K:Q0)(a:Str):Sp:=λc H Q _=> ∃x C b fs v,c=[.ref x,v]/\H x=some (.ins C b fs)/\Cls K C/\NoAttr K C a/\fs.length<1000/\Q .non (wG H x (.ins C b (uC a v fs)))
noncomputable def Dg(c a:Str):Er->Sto->R Er
 |.val d,S=>.ok (.val (.obj c [a] [d])) S
 |_,_=>.no
def PF(m:Str)(l:List (Str×(List MV->Sto->R Er))):Er->Option (List MV->Sto->R Er)
 |.val (.obj c ns _)=>if m∈ns then none else l.lookup c
 |_=>none
noncomputable def NJ(m:Str)(n:Nat)(l:List (Str×(List MV->Sto->R Er)))(f:AX)(b:Rho->Sto->R (List Er))(a:Rho)(S:Sto):R Er:=(f a S).bind λp S=>match PF m l p with
 |some F=>(b a S).bind λr S=>zG n F (p::r) S
 |none=>.no
theorem lookup_mem{β:Type}{b:β}: ∀{l:List (Str×β)},l.lookup c=some b->(c,b)∈l
 |[],h=>by simp at h
 |(d,x)::l,h=>by
  rw[Ģ]at h;by_cases e:c==d
  .rw[e]at h;cases h;have:=by simpa using e
   rw[this];exact mF0
  .have e:(c==d)=false:=by simpa using e
   rw[e]at h;exact mO _ (lookup_mem h)
theorem HZ{β:Type}: ∀{ns:K0}{vs:List β},m∉ns->(ns.zip vs).lookup m=none
 |[],_,_=>by simp
 |n::ns,[],_=>by simp
 |n::ns,v::vs,h=>by
  rw[ģ,Ģ];have e:(m==n)=false:=by have:m≠n:=λz=>h (by rw[z];exact mF0);simpa using this
  rw[e];exact HZ λz=>h (mO _ z)
def MtOk(X:Cx)(m:Str)(k n:Nat)(c:Str)(F:List MV->Sto->R Er):Prop:= ∃C b a ps,OC X.K c C/\Meth X.K C m b/\FnOk X.prog X.w X.K X.mg X.base sF k b a ps (KM X.g n F)/\Binds X.K a ps []
def AQ{pl:Sem Bool}(T: ∀q∈l,MtOk X m k n q.1 q.2)(hr:Room k X.A)(E:zT X W o f)(J:MA X W (e::es) af)
  (hst:q8 X e es:=by rfl) (hpl:q9 X pos es:=by rfl)
  (ht:eval (.Call (.Attribute o m apos) (e::es) [] pos) X.env=(do
   let Y <-eval o X.env
   standAt apos.atName
   let (f,first) <-holding [Y] (getMethod Y m pl)
   callWith pos f first (backTo pos (starEach (e::es) X.env)) (backToKw pos (keywordEach [] X.env))):=by rfl):
  zT X W (.Call (.Attribute o m apos) (e::es) [] pos) (NJ m n l f af):=by
 obtain⟨to,E,ko⟩:=E;obtain⟨ta,J,ka⟩:=J;refine⟨λσ H Q=>to σ H λx p=> ∃a ob C y fs g v ps N,x=.ref a/\p a=some (.frz ob (.ins C y fs))/\Cls X.K C/\Meth X.K C m g/\fs.lookup m=none/\FnOk X.prog X.w X.K X.mg X.base sF k g v ps N/\Binds X.K v ps []/\ta σ p λvs G=>N (x::vs) G Q E0,λpins s σ H Q I h=>?_,λα ρ S σ H Q wd sl q=>ko α ρ S σ H _ wd sl (Post.bind q λu r S1 D p e1 P w1 U i=>?_)⟩
 .refine PySem.W.methodCall_KW (jU (E pins s σ H _ I h) λu s1 ⟨x,p,I1,rx,a,ob,C,y,fs,g,v,ps,N,ex,ea,c,B,l,F,L,q⟩=>?_) ht;subst ex;obtain rfl:u=Value.ref a:=rx;refine SW I1 ea c B l ?_;refine PySem.W.callWith_K I.ok.mod.kin B.kp (jU (J pos pins s1 σ p _ I1 q) λus s2 ⟨vs,G,I2,r,M⟩=>⟨I2.kIn,?_⟩) hst hpl;exact Fx (vs:=.ref a::vs) F hr L .nil Ge I2 (.cons rfl r) (by rw[aN];exact M)
 .unfold PF at i
  cases r with
  |new O=>exact i.elim
  |val d=>
   cases d with
   |obj c ns O=>
    dsimp only at i;by_cases j:m∈ns
    .rw[iP j]at i;exact i.elim
    .rw[iN j]at i
     cases z:l.lookup c with
     |none=>rw[z]at i;exact i.elim
     |some F=>
      rw[z]at i;dsimp only at i;obtain⟨a,C,y,vs,ob,rfl,h1,h2,h3,h4,h5⟩:=Gp U.1;obtain⟨C',g,v,ps,Z,B,hF,L⟩:=T _ (lookup_mem z);cases Z.eq h2;refine⟨a,ob,C,y,_,g,v,ps,_,rfl,h1,Z.cl,B,HZ j,hF,L,ka D ρ S1 σ p _ w1 (sl.ext P) ?_⟩;refine(Post.shift P i).bind λus rs S2 aa G e2 x2 w2 d2 M=>?_;exact MD x2 w2 (ArgsE.cons (DenE.val (U.1.ext x2)) (λO b er=>by cases er) d2) M
   |_=>exact i.elim
structure OI(K:Q0)(C:Addr):Prop where
 ha:PySem.W.findIn K (.ref C) "__class__"=some (some (.builtin "object.__class__"))
 hn:PySem.W.specialIn K (.builtin "object.__class__") "__get__"=some (some (.builtin "getset_descriptor.__get__"))
 htk:PySem.W.takesIn K (.builtin "object.__class__")=some true
 hm:PySem.W.mroIn K C (.type "object")=some true
end
noncomputable def rX(y:Db):List (List Nat)->List Nat
 |[]=>[]
 |[x]=>x
 |x::r=>x++y++rX y r
theorem SX(y): ∀zs:List (List Nat),Str.join (nL y) (zs.map nL)=nL (rX y zs)
 |[]=>rfl
 |[x]=>rfl
 |x::z::r=>by show nL x++nL y++Str.join _ _=nL (x++y++rX y _);rw[SX y _,OB,OB]
theorem ZT{y:Str}: ∀(l:K0) n k ,(∀z∈l,z.length+y.length<=1000)->l.length<=k->l.foldl (λa z=>a+z.length+y.length) n<=n+1000 * k
 |[],n,k,_,_=>Nat.le_add_right _ _
 |z::l,n,0,_,h=>by simp at h
 |z::l,n,k+1,hz,h=>by
  rw[ĥ];have d:=ZT l (n+z.length+y.length) k (λw hw=>hz w (mO _ hw)) (by simpa using h);have b:=hz z mF0
  lia
theorem joinOk_of{zs:List (List Nat)}(d:y.length<=100)(c:zs.length<=1000)(a: ∀z∈zs,z.length<=900):JoinOk (nL y) (zs.map nL)=true:=by
 unfold JoinOk;rw[Bool.not_eq_true'];unfold Builtin.Str.tooLong;rw[List.foldl_toArray]
 have:=ZT (y:=nL y) (zs.map nL) 0 1000 (λz b=>by
  obtain⟨w,hw,rfl⟩:=mM.mp b;have:=a w hw;rw[bD,bD]
  lia) (by rw[lM];exact c)
 rw[Ď]
 lia
noncomputable def qV:List MV->Option (List (List Nat))
 |[]=>some []
 |.str x::ds=>(qV ds).map (x::·)
 |_::_=>none
theorem ZU{K:Q0}: ∀{ds}{zs}{vs}{j},qV ds=some zs->DenL K α H ds vs->Vals vs j-> ∃l:List (Str×Tok),j=strValues l/\l.map (·.1)=zs.map nL
 |[],zs,vs,j,e,d,r=>by cases e;rw[d.isnil]at r;cases r;exact⟨[],rfl,rfl⟩
 |x::ds,zs,vs,j,e,d,r=>by
  obtain⟨v,u,rfl,q,m⟩:=d.uncons
  cases r with
  |cons a b=>
   cases x<;>first |(cases e)|skip
   rename_i i;unfold qV at e
   cases z:qV ds with
   |none=>rw[z]at e;cases e
   |some ms=>
    rw[z]at e;cases e;cases xI q;obtain⟨t,rfl⟩:=a;obtain⟨l,rfl,c⟩:=ZU z m b;exact⟨(nL i,t)::l,rfl,by rw[ê,c];rfl⟩
section
variable{e:Expr}{apos pos:Pos}
open Classical in
def MN:Er->List Er->Sto->R Er
 |.val (.str y),[r],S=>match wI S r with
  |some ds=>match qV ds with
   |some zs=>if y.length<=100/\zs.length<=1000/\ ∀z∈zs,z.length<=900 then .ok (.val (.str (rX y zs))) S else .no
   |none=>.no
  |none=>.no
 |_,_,_=>.no
def Pr:VX X W (λx xs H Q=> ∃y l vs ds zs α,x=.str (nL y)/\xs=[.ref l]/\SqL X.K H l vs/\qV ds=some zs/\DenL X.K α H ds vs/\(y.length<=100/\zs.length<=1000/\ ∀z∈zs,z.length<=900)/\Q (.str (nL (rX y zs))) H) MN:=by
 intro p s x vs α S r H Q c b m n o a
 replace a:=a.shift m
 unfold MN at a;split at a
 .split at a
  .rename_i ds e;split at a
   .rename_i zs h;split at a
    .rename_i q;obtain⟨v,rfl,i⟩:=MC o;obtain⟨l,j,rfl,k,d⟩:=pZ rfl b e i;exact⟨_,l,j,ds,zs,α,nS n,rfl,k,h,d,q,Post.val a b (oE _)⟩
    .exact a.elim
   .exact a.elim
  .exact a.elim
 .exact a.elim
def Ps(z:zT X W a f)(D:MA X W (e::es) af)
  (hbase:attributeBase a "join" X.env (eval a X.env)=eval a X.env:=by rfl)
  (hfew:((backTo pos (starEach (e::es) X.env)).all (λx=>!x.1)&&(backToKw pos (keywordEach [] X.env)).all (λx=>x.1.isSome)
   &&decide ((e::es).length+([]:List Keyword).length+(if([]:List Keyword).isEmpty then 0 else 1)<30))=true:=by rfl)
  (hline:(apos.endLine==pos.line)=true:=by rfl) (hs:q8 X e es:=by rfl) (hplain:q9 X pos es:=by rfl):
  zT X W (.Call (.Attribute a "join" apos) (e::es) [] pos) (λj S=>(f j S).bind λp m=>if HG p m=true then(af j m).bind λrs S2=>MN p rs S2 else .no):=
 OJ PySem.F.plainAttrs_str PySem.F.slot_str_join PySem.F.type_str_join (by
   intro pins s σ H x xs v E Q I B rs h;obtain⟨y,l,L,K,J,α,rfl,rfl,w,i,C,b,q⟩:=h;obtain⟨t,rfl⟩:=B;obtain⟨u,rfl,n⟩:=vals1 rs;cases n;obtain⟨r,A,p,_⟩:=I.list w;obtain⟨ps,rfl,o⟩:=ZU i C A;refine PySem.SC.join p.isList o (joinOk_of b.1 b.2.1 b.2.2) λc k=>⟨.str _,H,I.tok _,⟨c,?_⟩,q⟩
   show Value.str (Builtin.Str.glued _ _) c=_;rw[StrLaws.glued_eq_join,SX]) Pr (by
     intro p x α S H G d h;unfold HG at h;split at h
     .cases nS d;rfl
     .cases h) z D hbase hfew hline hs hplain
end
section
variable(P:Ř)(w:World)(K:Q0)(mg:L0)(base:Heap)
def Tp(x b:Str):Prop:= ∃C d c a,OC K x C/\NoAttr K C b/\Mk K C d/\FnOk P w K mg base sF 1 d c ["self",a] (W2 K b)/\Binds K c ["self",a] []/\mg x=some (.ref C)
def Tq(m:Str)(k n:Nat)(l:List (Str×(List MV->Sto->R Er))):Prop:= ∀q∈l, ∃C b a ps,OC K q.1 C/\Meth K C m b/\FnOk P w K mg base sF k b a ps (KM ⟨K,mg,P,w⟩ n q.2)/\Binds K a ps []
def zAH(b:K0)(a:Str):Prop:= ∀c∈b, ∃C,OC K c C/\NoAttr K C a
end
section
variable{pos p:Pos}{x:Str}
def IA(B:Tp X.prog X.w X.K X.mg X.base x fld)(hr:Room 2 X.A)(hg:Gl X x)(k:zT X W e f)(D:(x==("__debug__"))=false:=by decide)
  (hs:starEach [e] X.env=(false,eval e X.env)::starEach [] X.env:=by rfl) (hpl:(backTo pos (starEach [] X.env)).any (·.1)=false:=by rfl):zT X W (.Call (.Name x p) [e] [] pos) (λz S=>(f z S).bind (Dg x fld)):=by
 obtain⟨C,fi,fd,aa,j,N,mk,F,hb,hm⟩:=B;exact (by
   obtain⟨t,k,T⟩:=k;refine⟨λσ H Q=>Sy C (W2 X.K fld) [] E0 (Sx t O7) σ H λy m=> ∃x a v,y=.ref x/\m x=some (.ins C a [(fld,v)])/\Q (.ref x) (wG m x (.frz (PySem.W.instObj C a) (.ins C a [(fld,v)]))),λpins s σ H Q I h=>?_,λα z S σ H Q O sl q=>T α z S σ H _ O sl (q.bind λu r S1 M Y e1 x1 L Z b=>?_)⟩
   .refine jU (Md mk F hr hg hm hb .nil Ge (FV k NO hs) D hs hpl pins s σ H _ I h) λu s' ⟨y,m,I2,ry,x,a,v,U,e,q⟩=>?_;subst U;exact⟨_,_,I2.freeze e,ry,q⟩
   .replace b:=b.shift x1
    unfold Dg at b;split at b
    .rename_i d;intro y a P i n;refine⟨y,C,a,[],u,rfl,yN,j.cl,N,by decide,rfl,y,a,u,rfl,yN,?_⟩;rw[XZ,XZ];have G:=L.newx (o:=.own y) i;have J:=L.new (o:=.own y) i;have c:(wG Y a (.own y)) y=none:=by rw[zO (Ne.symm n)];exact P
     have E:=J.newx (o:=.frz (PySem.W.instObj C a) (.ins C a [(fld,u)])) c;have wb:=J.new (o:=.frz (PySem.W.instObj C a) (.ins C a [(fld,u)])) c;exact Post.val (b.shift (G.trans E)) wb (YM yN j.ns j.nm rfl (yE ((Z.1.ext G).ext E) yK))
    .exact b.elim)
def Pt{K:Q0}{st:Stmt}{f:Addr}(F:Fun K "__init__" qual st f fd)(m:FnScope ["self",par] ["self",par] (zK st))
  (hbody: ∀ j  A  d  s  H  E ,PSs (NP sF P w K mg base ["self",par] qual (zK st) f j A d s H E).nox (yT st) (O6 K (λσ H Q=> ∃v,σ[0]? =some (some v)/\Q v H) (λσ H Q=> ∃v,σ[1]? =some (some v)/\Q v H) fld)):
  FnOk P w K mg base sF 1 f fd ["self",par] (W2 K fld):=by
 refine F.ok m (λb H Q E h=>?_) λj A d s H b Q E n h=>?_
 .obtain⟨_,_,_,_,_,rfl,_⟩:=h;rfl
 .obtain⟨x,C,k,fs,v,rfl,i,a,c,e,q⟩:=h;exact⟨_,hbody j A d s H E,v,rfl,_,rfl,x,C,k,fs,rfl,i,a,c,e,q⟩
end
def nm_of{K:Q0}(e:PySem.W.clsIn K C=some cd)(h:cd.name=c):(PySem.W.clsIn K C).map (·.name)=some c:=by rw[e];exact congrArg some h
section
variable{es:P0}{pos apos:Pos}
def Pu:Er->List Er->Sto->R Er
 |p,[r],S=>match Yb S r with
  |some zs=>CY p S λds=>if ds.length+zs.length<=sizeLine then some (ds++zs)else none
  |none=>.no
 |_,_,_=>.no
def Dh:VX X W YI Pu:=by
 intro p z x F α S y H Q d j C D h a
 match z,h,a with
 |[],_,a=>exact a.elim
 |_::_::_,_,a=>exact a.elim
 |[r],h,a=>
  have a:Post X.g W d y (match Yb S r with |some m=>CY p S λn=>if n.length+m.length<=sizeLine then some _ else none|none=>.no) Q:=a;split at a
  .rename_i m q;obtain⟨v,rfl,s⟩:=MC h;obtain⟨b,u,rfl,E,i⟩:=OR j q s;obtain⟨c,A,n,es,rfl,w,o,e,k⟩:=CZ j C D a;split at e
   .rename_i B;cases e;exact⟨c,b,A,u,rfl,rfl,w,E,by rw[o.length,i.length];exact B,k _ (o.append i)⟩
   .cases e
  .exact a.elim
def Di(A:zT X W a f)(G:MA X W (e::es) af)
  (hbase:attributeBase a "extend" X.env (eval a X.env)=eval a X.env:=by rfl)
  (hfew:((backTo pos (starEach (e::es) X.env)).all (λx=>!x.1)&&(backToKw pos (keywordEach [] X.env)).all (λx=>x.1.isSome)
   &&decide ((e::es).length+([]:List Keyword).length+(if([]:List Keyword).isEmpty then 0 else 1)<30))=true:=by rfl)
  (hline:(apos.endLine==pos.line)=true:=by rfl) (hs:q8 X e es:=by rfl) (hplain:q9 X pos es:=by rfl):
  zT X W (.Call (.Attribute a "extend" apos) (e::es) [] pos) (λm S=>(f m S).bind λp y=>if gY p y=true then(af m y).bind λrs S2=>Pu p rs S2 else .no):=
 OJ PySem.F.plainAttrs_list PySem.F.slot_list_extend PySem.F.type_list_extend (by
   intro pins s σ H x T v L Q I E B h;obtain⟨l,b,xs,N,rfl,rfl,k,C,M,q⟩:=h;cases E;obtain⟨u,rfl,J⟩:=B.one;cases J;obtain⟨z,d,n,r,O,e⟩:=I.lstM k;obtain⟨P,c,w,K,o,D⟩:=I.lstM C;have j:d.toArray.size+c.toArray.size<=sizeLine:=by rw[sA0,sA0];lia
   have i: ¬(!d.toArray.isEmpty&&Builtin.List.listTooLong (d.toArray.size+c.toArray.size))=true:=by rw[RK j,Bool.and_false];exact xF0
   refine call_meets F.slot_list_extend ⟨_,e,rfl⟩ F.entry_list_extend (F.args_list_extend_2 _ _)
    (AutoSeq1.list_extend_list_list_0 l d.toArray n b c.toArray w i (by rw[sA0];lia) #[0]) ⟨e,D,?_⟩
   refine⟨.non,_,I.lset k e (by simp) (r.append K) ?_,rfl,q⟩;rw[lA]
   lia) Dh WF A G hbase hfew hline hs hplain
end
section
def IB(d:MV):Prop:= ∃x r,d=.tup (.str x::r)
def Pw(I:↑2)(o:Wd X.g α S H)(hu:A.units+64<cLine){k:Bool}(kd:IB d)(P:IB f)(O:Den X.K α H d x)(Y:Den X.K α H f y)(rx:RelV x u)(Z:RelV y v)
  (h:qS S zH d f=some k) (prog) (w) (E) (Q) (hq:Q k s):wpAny (model prog w) A (keyLt' (tuples' true) u v) Q E s:=by
 obtain⟨j,p,rfl⟩:=kd;obtain⟨i,D,rfl⟩:=P;obtain⟨a1,J,z,rfl,l1,v1,T,_⟩:=DE I O rx;obtain⟨a2,aa,B,rfl,l2,v2,N,_⟩:=DE I Y Z;obtain⟨w1,q1,rfl,F,W⟩:=l1.uncons;obtain⟨w2,q2,rfl,q,G⟩:=l2.uncons
 cases v1 with
 |@cons _ u1 _ us1 rv1 rr1=>
  cases v2 with
  |@cons _ u2 _ us2 rv2 rr2=>
   have h':(eqv S 39 (.str j) (.str i)).bind (λk=>if k=true then FO (eqv S 39) (qS S 39) p D else qS S 39 (.str j) (.str i))=some k:=h;have r:eqv S 39 (.str j) (.str i)=some (decide (j=i)):=iR 38 j i;have M:=sN I o 39 A _ _ _ _ _ _ _ (by omega) F q rv1 rv2 r;cases xI F;cases xI q;obtain⟨L,rfl⟩:=rv1;obtain⟨U,rfl⟩:=rv2;rw[r]at h';refine Srt.wp_keyLtS T N M ?_ hq
   cases C:decide (j=i)with
   |true=>
    rw[C]at h';rw[iP rfl];have m:FO (eqv S 39) (qS S 39) p D=some k:=h'
    exact To (YR (λd f x y u v k a b c n e=>sN I o 39 A d f x y u v k (by omega) a b c n e)
     (λd f x y u v k a b c n e=>OQ I o 39 A d f x y u v k (by omega) a b c n e) W G rr1 rr2 m)
   |false=>
    rw[C]at h';rw[iN xF0];have m:(some (decide (j<i)):Option Bool)=some k:=h';cases m;rw[OA,OA]
theorem W3(I:↑2)(wd:Wd X.g α S H)(hu:A.units+64<cLine)(hne:kds≠[])(hkind: ∀d,d∈kds->IB d)(ho:OrdD S kds):
  Srt.Cmp ↑5 A E' s (tuples' true) (λp=> ∃d v,d∈kds/\Den X.K α H d v/\RelV v p.1) (ltV X.K α H S kds) where
 go x y hx hy st hk Q hq:=by
  obtain⟨v1,d1,r1⟩:=sT hx;obtain⟨v2,d2,r2⟩:=sT hy;obtain⟨t,ht⟩:=ho.any _ (xB (K:=X.K) (α:=α) (H:=H) hne x.1) _ (xB (K:=X.K) (α:=α) (H:=H) hne y.1);have e:ltV X.K α H S kds x y=t:=by unfold ltV;rw[ht];rfl
  rw[e]at hq;exact Srt.wp_lt hk (λE Q hq=>Pw I wd hu (hkind _ (xB hne x.1)) (hkind _ (xB hne y.1)) d1 d2 r1 r2 ht X.prog X.w E Q hq) hq
 tr x y z h1 h2:=by unfold ltV at h1 h2 ⊢;have mx:=xB (K:=X.K) (α:=α) (H:=H) hne x.1;have my:=xB (K:=X.K) (α:=α) (H:=H) hne y.1;have mz:=xB (K:=X.K) (α:=α) (H:=H) hne z.1;obtain⟨t1,e1⟩:=ho.any _ my _ mx;obtain⟨t2,e2⟩:=ho.any _ mz _ my;rw[e1]at h1;rw[e2]at h2;have h1:t1=false:=h1;have h2:t2=false:=h2;subst h1 h2;rw[ho.tr _ mx _ my _ mz e1 e2];rfl
 as x y h:=by unfold ltV at h ⊢;have mx:=xB (K:=X.K) (α:=α) (H:=H) hne x.1;have my:=xB (K:=X.K) (α:=α) (H:=H) hne y.1;obtain⟨t1,e1⟩:=ho.any _ mx _ my;rw[e1]at h;have h:t1=true:=h;subst h;rw[ho.as _ mx _ my e1];rfl
def B3(I:↑2)(j:kds≠[])(b: ∀d,d∈kds->IB d)(m:DenL X.K α H kds kvs)(k:Vals kvs ks):
  wpAny ↑5 A (keyKind' ks.toArray) (λq G=>G=s/\q=tuples' true) E' s:=by
 have ne:ks≠[]:=λz=>by have c:=k.length;have h:=m.length;rw[z]at c;exact j (List.length_eq_zero_iff.mp (by rw[<-h,c];rfl))
 have all: ∀u,u∈ks-> ∃d v,d∈kds/\Den X.K α H d v/\RelV v u:=by
  intro u e;obtain⟨i,hi⟩:=ĝ e;have n:i<kvs.length:=by rw[k.length];exact(gS.mp hi).1
  obtain⟨L,c,r⟩:=k.get (gE n);rw[hi]at c;cases c;obtain⟨d,h,o⟩:=m.get (gE n);exact⟨d,_,á h,o,r⟩
 refine Srt.wp_kindS ne λu e=>?_;obtain⟨d,v,C,E,r⟩:=all u e;obtain⟨x,F,rfl⟩:=b d C;obtain⟨a,M,p,rfl,l,y,t,_⟩:=DE I E r;obtain⟨N,J,rfl,B,_⟩:=l.uncons
 cases y with
 |@cons _ u1 _ us1 rv rr'=>
  cases xI B;obtain⟨D,rfl⟩:=rv;exact⟨a,_,_,D,us1,rfl,t,rfl⟩
end
section
theorem args_sorted1(a):argsOk "sorted" ⟨[a],[]⟩:=by unfold argsOk;kernel_rfl
theorem IC(a):argsOk "list.sort" ⟨[a],[]⟩:=by unfold argsOk;kernel_rfl
def Iu(hu:X.A.units+128<cLine)(I:↑2)(wd:Wd X.g α S H)(hl:SqL X.K H l xs)(E:DenL X.K α H ds xs)
  (hlen:ds.length<1000000) (hpu: ∀d,d∈ds->nO d=true) (hkind: ∀d,d∈ds->IB d) (hord:OrdD S ds) 
  (hQ: ∀(y:Db) p  ys ,y.Perm (List.range ds.length)->y.Pairwise (λi j=> ∀a c,ds[i]? =some a->ds[j]? =some c->qS S zH c a=some false)->H p=none->
   DenL X.K α H (y.filterMap (ds[·]?)) ys->Q (.ref p) (wG H p (.lst ys))):wpAny ↑5 X.A (call (.builtin "sorted") [.ref l]) (EP X pins σ Q) X.xe s:=by
 obtain⟨its,C,⟨o,n0,e0,P,_,U⟩,_⟩:=I.list hl;have T:s.heap.IsList l its.toArray:=⟨o,e0,P,n0,U⟩
 have k:its.length=ds.length:=by rw[<-C.length,E.length]
 have ah:=Ď;refine call_function_entry_kw kind_sorted plain_sorted entry_sorted (args_sorted1 _) ?_;unfold Builtin.«sorted»;refine wB (m:=checkCount "sorted" 1 1 _) (wP ?_);refine wB (collect_list T ?_ (by omega));refine wB (wpAny_newList ?_);generalize G:(s.heap.push (seqObj "list" #[] 0)).update s.heap.objs.size (Obj.mapSeq (· ++its.toArray))=h1;have ag:h1.objs.size=↑1+1:=by rw[<-G,Heap.size_update,size_push']
 have k1: ∀b u,s.heap.get? b=some u->h1.get? b=some u:=λb u e=>by rw[<-G,õ _ _ (ĕ (â e))];exact hP0 _ e
 have D:(h1.push (seqObj "list" its.toArray 0)).get? h1.objs.size=some (seqObj "list" its.toArray 0):=å _ rfl;show wpAny _ _ _ _ _ {s with heap:=h1.push (seqObj "list" its.toArray 0)};dsimp only;generalize hL:h1.objs.size=L at *;have M:↑1<=L:=by omega
 refine wB (Ă (wpAny_call_entry_kw slot_list_sort ⟨_,D,rfl⟩ entry_list_sort (Srt.sort_plain D (by omega) λB n=>?_) (IC _)));dsimp only at n;generalize Y:h1.push (seqObj "list" its.toArray 0)=h2 at *;have fL:uW X pins H L:=I.fpOk M (I.hok.fresh M);have k3: ∀b u,s.heap.get? b=some u->B.heap.get? b=some u:=λb u e=>by rw[n];refine hP0 _ (hP0 _ ?_);rw[õ _ _ (ĕ (ë (â e) M)), <-Y];exact hP0 _ (k1 b u e)
 have N:Inv X pins σ H B:=by have:=I.kept (h':=B.heap) (t':=s.toks) k3;rw[n]at this ⊢;exact this
 have aa:X.A.in1.in1.units+64<cLine:=by show X.A.units+1+1+64<cLine;omega
 obtain⟨q,gL⟩: ∃q,B.heap.get? L=some (seqObj "list" #[] q):=by rw[n];exact⟨_,hP0 _ (hP0 _ (get?_update_seq D (λ_=>#[])))⟩
 refine⟨tuples' true,(λp=> ∃d v,d∈ds/\Den X.K α H d v/\RelV v p.1),ltV X.K α H S ds,λO=>?_,λout op os=>?_⟩
 .have ne:ds≠[]:=λz=>by rw[k,z]at O;exact absurd O ↑4
  refine⟨B3 N ne hkind E C,W3 N wd aa ne hkind hord,λp hp=>?_⟩;have ab:p.1∈its:=(of_mem_zip hp).1;obtain⟨i,hi⟩:=ĝ ab;have J:i<xs.length:=by rw[C.length];exact(gS.mp hi).1
  obtain⟨u',F,r⟩:=C.get (gE J);rw[hi]at F;cases F;obtain⟨d,Z,ae⟩:=E.get (gE J);exact⟨d,_,á Z,ae,r⟩
 .obtain⟨y,ip,ie⟩:=tT op.symm (List.range ds.length) (ML k k);have W: ∀i,i∈y->i<ds.length:=λi hi=>ý.mp (ip.mem_iff.mp hi);have eo:out.map (·.2)=y.filterMap (its[·]?):=by rw[<-ie,ę];exact AM λi hi=>by rw[k];exact W i hi
  have po:y.Pairwise (λi j=> ∀a c,ds[i]? =some a->ds[j]? =some c->qS S zH c a=some false):=by rw[<-ie,ņ]at os;refine Ň (λ{i j} hi hj h a c ha hc=>?_) os;have ui:its[i]? =some (its[i]'(by rw[k];exact W i hi)):=gE _;have uj:its[j]? =some (its[j]'(by rw[k];exact W j hj)):=gE _;have h':(qS S zH (PB X.K α H ds ((its[j]?).getD .none)) (PB X.K α H ds ((its[i]?).getD .none))).getD false=false:=h;rw[ui,uj]at h';simp only[Option.getD_some]at h';rw[PC N hpu E C ui ha,PC N hpu E C uj hc]at h';obtain⟨t,ht⟩:=hord.any c (á hc) a (á ha);rw[ht]at h';have h':t=false:=h';rw[ht,h']
  have vy:=Vals.pick C y;refine⟨_,rfl,wP ⟨_,rfl,.ref L,wG H L (.lst (y.filterMap (xs[·]?))),?_,rfl,hQ y L _ ip po (I.hok.fresh M) (E.pick y)⟩⟩;obtain⟨f0,f1,f2,f3,f4,f5⟩:=fL
  have I6:Inv X pins σ H {B with heap:=B.heap.update L (Obj.mapSeq λ_=>(out.map (·.2)).toArray)}:=
   N.turned (t':=B.toks) (λb o hb e=>(õ _ _ (Ne.symm hb)).trans e) f0 f1 f3 f4 f5
  obtain⟨n',af⟩: ∃n',(B.heap.update L (Obj.mapSeq λ_=>(out.map (·.2)).toArray)).get? L=some (seqObj "list" (y.filterMap (its[·]?)).toArray n'):=⟨_,by have:=get?_update_seq gL (λ_=>(out.map (·.2)).toArray);rw[eo]at this ⊢;exact this⟩
  refine MK (its:=y.filterMap (its[·]?)) I6 ⟨f0,f1,f2,f3,f4,f5⟩ (ï I.sz M) af vy ?_
  .have:=List.length_filterMap_le (xs[·]?) y;have h3:=ip.length_eq;rw[î]at h3;omega
end
structure SrtS(S:Sto)(ds:U0):Prop where
 len:ds.length<1000000
 pu: ∀d,d∈ds->nO d=true
 kind: ∀d,d∈ds->IB d
 ord:OrdD S ds
open Classical in
def MP(rs:List Er)(S:Sto):R Er:=match rs with
 |[p]=>match wI S p with
  |some ds=>if h: ∃r,SrtS S ds/\ ∀a,ZR S ds ds a->a=r then .ok (.new (Classical.choose h)) S else .no
  |none=>.no
 |_=>.no
def ZV(e:wI S p=some ds)(ok:SrtS S ds)(u: ∀d,ZR S ds ds d->d=r)(a:ZR S ds ds r):MP [p] S=.ok (.new r) S:=by
 unfold MP;dsimp only;rw[e];dsimp only;have h: ∃r,SrtS S ds/\ ∀d,ZR S ds ds d->d=r:=⟨r,ok,u⟩
 rw[dif_pos h];obtain⟨_,b⟩:=ò h;rw[<-b r a]
def _root_.L2.Room.u128(r:Room k A):A.units+128<cLine:=by have:=r.un;omega
section
def Dj(k:X.A.units+128<cLine):CallR X (.builtin "sorted") (λxs H Q=> ∃α S l vs ds,xs=[.ref l]/\Wd X.g α S H/\SqL X.K H l vs/\DenL X.K α H ds vs/\SrtS S ds/\
  ∀(d:Db) p  ys ,d.Perm (List.range ds.length)->d.Pairwise (λi j=> ∀a c,ds[i]? =some a->ds[j]? =some c->qS S zH c a=some false)->H p=none->DenL X.K α H (d.filterMap (ds[·]?)) ys->Q (.ref p) (wG H p (.lst ys))):=by
 intro pins s σ H xs o Q I r h;obtain⟨α,S,l,vs,ds,rfl,e,n,b,ok,q⟩:=h;obtain⟨u,rfl,m⟩:=vals1 r;cases m;exact Iu k I e n b ok.len ok.pu ok.kind ok.ord q
def Px:rR X W (λxs H Q=> ∃α S l vs ds,xs=[.ref l]/\Wd X.g α S H/\SqL X.K H l vs/\DenL X.K α H ds vs/\SrtS S ds/\
  ∀(m:Db) p  q ,m.Perm (List.range ds.length)->m.Pairwise (λi j=> ∀a c,ds[i]? =some a->ds[j]? =some c->qS S zH c a=some false)->H p=none->DenL X.K α H (m.filterMap (ds[·]?)) q->Q (.ref p) (wG H p (.lst q))) MP:=by
 intro C vs α S H Q k d b;unfold MP at b;split at b
 .split at b
  .rename_i ds e;split at b
   .rename_i h;obtain⟨v,rfl,r⟩:=sO d;obtain⟨l,o,rfl,s,z⟩:=pZ rfl k e r;obtain⟨ok,u⟩:=ò h;refine⟨α,S,l,o,ds,rfl,k,s,z,ok,λm p q A y w n=>?_⟩;have B:=u _ ⟨m,A,y,rfl⟩;rw[B]at n;exact Post.newl b k w n
   .exact b.elim
  .exact b.elim
 .exact b.elim
end
section
def SY(d:MV):Prop:= ∃x r,d=.tup (.int x::r)
theorem Py(I:↑2)(m:Wd X.g α S H)(hu:A.units+64<cLine){k:Bool}(kd:SY d)(P:SY f)(O:Den X.K α H d x)(Y:Den X.K α H f y)(rx:RelV x u)(Z:RelV y v)
  (h:qS S zH d f=some k) (prog) (w) (E) (Q) (hq:Q k s):wpAny (model prog w) A (keyLt' (tuples' true) u v) Q E s:=by
 obtain⟨o,p,rfl⟩:=kd;obtain⟨n,D,rfl⟩:=P;obtain⟨a1,J,z,rfl,l1,v1,T,_⟩:=DE I O rx;obtain⟨a2,aa,B,rfl,l2,v2,N,_⟩:=DE I Y Z;obtain⟨w1,q1,rfl,F,W⟩:=l1.uncons;obtain⟨w2,q2,rfl,q,G⟩:=l2.uncons
 cases v1 with
 |@cons _ u1 _ us1 rv1 rr1=>
  cases v2 with
  |@cons _ u2 _ us2 rv2 rr2=>
   have h':(eqv S 39 (.int o) (.int n)).bind (λk=>if k=true then FO _ _ p D else qS S 39 _ _)=some k:=h;have r:eqv S 39 _ _=some _:=AB 38 o n;have M:=sN I m 39 A _ _ _ _ _ _ _ #[0] F q rv1 rv2 r;cases xH F;cases xH q;obtain⟨L,rfl⟩:=rv1;obtain⟨U,rfl⟩:=rv2;rw[r]at h';refine Srt.wp_keyLtI T N M ?_ hq
   cases C:decide (o=n)with
   |true=>
    rw[C]at h';have i:FO _ _ p D=some k:=h'
    exact To (YR (λd f x y u v k a b c j e=>sN I m 39 A d f x y u v k #[0] a b c j e)
     (λd f x y u v k a b c j e=>OQ I m 39 A d f x y u v k #[0] a b c j e) W G rr1 rr2 i)
   |false=>
    rw[C]at h';have i:_=some k:=h';cases i;rfl
theorem W4(I:↑2)(wd:Wd X.g α S H)(hu:A.units+64<cLine)(hne:kds≠[])(hkind: ∀d,d∈kds->SY d)(ho:OrdD S kds):
  Srt.Cmp ↑5 A E' s (tuples' true) (λp=> ∃d v,d∈kds/\Den X.K α H d v/\RelV v p.1) (ltV X.K α H S kds) where
 go x y hx hy st hk Q hq:=by
  obtain⟨v1,d1,r1⟩:=sT hx;obtain⟨v2,d2,r2⟩:=sT hy;obtain⟨t,ht⟩:=ho.any _ (xB hne x.1) _ (xB hne y.1);have e:ltV X.K α H S kds x y=t:=by unfold ltV;rw[ht];rfl
  rw[e]at hq;exact Srt.wp_lt hk (λE Q hq=>Py I wd hu (hkind _ (xB hne x.1)) (hkind _ (xB hne y.1)) d1 d2 r1 r2 ht X.prog X.w E Q hq) hq
 tr x y z h1 h2:=by unfold ltV at h1 h2 ⊢;have mx:=xB (K:=X.K) (α:=α) (H:=H) hne x.1;have my:=xB (K:=X.K) (α:=α) (H:=H) hne y.1;have mz:=xB (K:=X.K) (α:=α) (H:=H) hne z.1;obtain⟨t1,e1⟩:=ho.any _ my _ mx;obtain⟨t2,e2⟩:=ho.any _ mz _ my;rw[e1]at h1;rw[e2]at h2;have h1:=h1;have h2:=h2;subst h1 h2;rw[ho.tr _ mx _ my _ mz e1 e2];rfl
 as x y h:=by unfold ltV at h ⊢;have mx:=xB (K:=X.K) (α:=α) (H:=H) hne x.1;have my:=xB (K:=X.K) (α:=α) (H:=H) hne y.1;obtain⟨t1,e1⟩:=ho.any _ mx _ my;rw[e1]at h;have h:=h;subst h;rw[ho.as _ mx _ my e1];rfl
def B4(I:↑2)(j:kds≠[])(b: ∀d,d∈kds->SY d)(m:DenL X.K α H kds kvs)(k:Vals kvs ks):
  wpAny ↑5 A (keyKind' ks.toArray) (λq G=>G=s/\q=tuples' true) E' s:=by
 have ne:ks≠[]:=λz=>by have c:=k.length;have h:=m.length;rw[z]at c;exact j (List.length_eq_zero_iff.mp (by rw[<-h,c];rfl))
 have all: ∀u,u∈ks-> ∃d v,d∈kds/\Den X.K α H d v/\RelV v u:=by
  intro u e;obtain⟨i,hi⟩:=ĝ e;have n:i<kvs.length:=by rw[k.length];exact(gS.mp hi).1
  obtain⟨L,c,r⟩:=k.get (gE n);rw[hi]at c;cases c;obtain⟨d,h,o⟩:=m.get (gE n);exact⟨d,_,á h,o,r⟩
 refine Srt.wp_kindI ne λu e=>?_;obtain⟨d,v,C,E,r⟩:=all u e;obtain⟨x,F,rfl⟩:=b d C;obtain⟨a,M,p,rfl,l,y,t,_⟩:=DE I E r;obtain⟨N,J,rfl,B,_⟩:=l.uncons
 cases y with
 |@cons _ u1 _ us1 rv rr'=>
  cases xH B;obtain⟨D,rfl⟩:=rv;exact⟨a,_,_,D,us1,rfl,t,rfl⟩
end
section
variable{X:Cx}{a i e:Expr}{α:B9}{H:Hp}{pins:M0}{σ:St}{s:Ŗ}
def B5:MV->Option Key
 |.int i=>some (.inl i)
 |.str x=>some (.inr (nL x))
 |_=>none
def B6: ∀{k}{k'},B5 k=some k'->KeyD k k'
 |.int i,_,h=>by cases h;exact rfl
 |.str x,_,h=>by cases h;exact rfl
 |.non,_,h=>nomatch h
 |.bl _,_,h=>nomatch h
 |.tup _,_,h=>nomatch h
 |.scr _,_,h=>nomatch h
 |.loc _,_,h=>nomatch h
 |.typ _,_,h=>nomatch h
 |.obj _ _ _,_,h=>nomatch h
def Pz: ∀{k}{k'}{v},B5 k=some k'->Den X.K α H k v->v=kV k'
 |.int i,_,_,h,d=>by cases h;exact xH d
 |.str x,_,_,h,d=>by cases h;exact xI d
 |.non,_,_,h,_=>nomatch h
 |.bl _,_,_,h,_=>nomatch h
 |.tup _,_,_,h,_=>nomatch h
 |.scr _,_,_,h,_=>nomatch h
 |.loc _,_,_,h,_=>nomatch h
 |.typ _,_,_,h,_=>nomatch h
 |.obj _ _ _,_,_,h,_=>nomatch h
def Iv: ∀{k}{u},RelV (kV k) u->(cZ X.prog X.w).is k u=true
 |.inl i,_,h=>by obtain⟨t,rfl⟩:=(h: ∃t,_=_);exact EE _ _ i t
 |.inr x,_,h=>by obtain⟨t,rfl⟩:=(h: ∃t,_=_);exact sE _ _ x t
theorem Qa: ∀{k}{u},RelV (kV k) u->(keyPart u).isSome=true
 |.inl i,_,h=>by obtain⟨t,rfl⟩:=(h: ∃t,_=_);rfl
 |.inr x,_,h=>by obtain⟨t,rfl⟩:=(h: ∃t,_=_);rfl
def LD(k:MV):Bool:=(B5 k).isSome
def W6(ob:ObD X.g α H d (.dic kvs))(c:kvs.all (λp=>LD p.1)=true): ∃j,DK X H d j/\DenK X.K α H kvs j:=by
 rcases ob with⟨j,h,l⟩|⟨xs,h,l⟩
 .exact⟨j,.inl h,l⟩
 .cases l with
  |nil=>exact⟨[],.inr ⟨rfl,h⟩,.nil⟩
  |@cons k nk a d v u fs xs hn e ha hd r l=>
   rw[List.all_cons,aE]at c;obtain⟨i,b⟩:=Ĉ.mp c.1;have:=Pz b ha;cases i<;>cases this
def SZ(S:Sto):Er->Option (Nat×List (MV×MV))
 |.val (.loc l)=>match S[l]? with
  |some (.dic kvs)=>if kvs.all (λp=>LD p.1)=true then some (l,kvs)else none
  |_=>none
 |_=>none
def zAI(i:Wd X.g α S H)(e:SZ S r=some (l,kvs))(d:DenX X.K α H r x):
  ∃c j,x=.ref c/\α[l]? =some c/\S[l]? =some (.dic kvs)/\DK X H c j/\DenK X.K α H kvs j/\kvs.all (λp=>LD p.1)=true:=by
 unfold SZ at e;split at e
 .rename_i n;obtain⟨c,rfl,h⟩:=sK d;split at e
  .rename_i j a;split at e
   .rename_i b;obtain⟨rfl,rfl⟩:=Prod.mk.inj (ã e);obtain⟨xs,k,l⟩:=W6 (i.obj _ c _ h a) b;exact⟨c,xs,rfl,h,a,k,l,b⟩
   .cases e
  .cases e
 .cases e
abbrev W8(X:Cx)(b:Bool):R2:=λx y H Q=> ∃(a:List (Key×V))(d:Addr)(k:Key),x=kV k/\y=.ref d/\DK X H d a/\
 Q (.bl (if b=true then !(mG a k).isSome else(mG a k).isSome)) H
theorem look_same(r:KV ks vs)(k):(valueAt vs k).isSome=(mG ks k).isSome:=by
 obtain⟨a,b⟩:=PD r k
 cases h:mG ks k with
 |none=>rw[b h];rfl
 |some v=>obtain⟨u,e,_⟩:=a v h;rw[e];rfl
def WN(a:Bool)(p q:Er)(S:Sto):R Er:=match p with
 |.val k=>match SZ S q with
  |some (_,kvs)=>if LD k=true then .ok (.val (.bl (if a=true then !(look kvs k).isSome else(look kvs k).isSome))) S else .no
  |none=>.no
 |_=>.no
def Qb:Cm X W (W8 X neg) (WN neg):=by
 intro p q x y α S H Q i s o a;unfold WN at a;split at a
 .rename_i k;split at a
  .rename_i l d e;split at a
   .rename_i r;obtain⟨c,j,rfl,_,_,z,n,_⟩:=zAI i e o;obtain⟨m,b⟩:=Ĉ.mp r;refine⟨j,c,m,Pz b s,rfl,z,?_⟩;rw[(show (mG j m).isSome=(look d k).isSome by
     obtain⟨A,w⟩:=DF n (B6 b)
     cases h:look d k with
     |none=>rw[w h];rfl
     |some v=>obtain⟨u,e,_⟩:=A v h;rw[e];rfl)];exact Post.val a i (cM _)
   .exact a.elim
  .exact a.elim
 .exact a.elim
def C1(o:zT X W a f)(w:zT X W b g)(A:behindInMarks .In b=false:=by with_unfolding_all rfl):vQ X W (.Compare a [.In] [b] pos) (λj S=>((f j S).bind λp B=>(g j B).bind λq S2=>WN false p q S2).bind gV):=uZ (by intro pins s σ H x y v u Q I m e h;obtain⟨n,d,k,rfl,rfl,r,q⟩:=h;cases e;obtain⟨_,hs,C,c,i⟩:=GD I r;refine wpAny_in_of (Iv m) hs i.mapOf ?_;rw[look_same c k];exact⟨.bl (mG n k).isSome,H,I.kept (λ_ _ z=>z),rfl,q⟩) Qb o w A
end
section
variable{X:Cx}{a b o i e:Expr}{apos pos:Pos}{α:B9}{H:Hp}{σ:St}
noncomputable def IE(a:List (Key×V))(k:Key):List (Key×V):=a.filter λb=>decide (b.1≠k)
theorem ZW: ∀{j}{vs},KV j vs-> ∀ k ,KV (IE j k) (without vs k)
 |_,_,.nil,k=>.nil
 |(a,x)::j,(b,u)::vs,.cons ⟨h1,h2⟩ l,k=>by
  cases h1;have d:=ZW l k;unfold IE without at d ⊢;by_cases c:a=k
  .simp only[List.filter_cons,c,ne_eq];exact d
  .simp only[List.filter_cons,c,ne_eq,if_true];exact .cons ⟨rfl,h2⟩ d
def Iw(a:zA0)(k:MV):List (MV×MV):=a.filter λp=>!decide (p.1=k)
theorem MQ: ∀{d}{m}{k}{k'},DenK X.K α H d m->KeyD k k'->DenK X.K α H (Iw d k) (IE m k')
 |_,_,_,_,.nil,_=>.nil
 |_,_,k,k',.cons (k:=k0) (k':=k0') h1 h2 l,hk=>by
  have j:=MQ l hk;unfold Iw IE at j ⊢;by_cases c:k0=k
  .subst c;have e:=GC h1 hk;simp only[List.filter_cons,e,ne_eq];exact j
  .have a: ¬k0'=k':=λz=>c (AN h1 (z▸hk));simp only[List.filter_cons,c,a,ne_eq,if_true];exact .cons h1 h2 j
def Tr(X:Cx):V->List V->Hp->VK->Prop:=λx b H Q=> ∃(a:List (Key×V))(d:Addr)(k:Key)(y:V),x=.ref d/\b=[kV k,y]/\DK X H d a/\
 (∀v,mG a k=some v->Q v (wG H d (.dK (IE a k))))/\(mG a k=none->Q y H)
theorem Qc:Wg X "dict.pop" (Tr X):=by
 intro pins s σ H x D v us Q I S L h;obtain⟨i,d,k,y,rfl,rfl,B,G,N⟩:=h;obtain⟨u1,P,rfl,C,Y⟩:=vals2 L;cases S;have O:s.TypeIs _ "dict":=(Io pins s σ H (.ref d) _ I rfl ⟨d,i,rfl,B⟩).1;obtain⟨z,hs,D,p,o⟩:=GD I B;have hl:i.length=D.length:=Paired.length p;obtain⟨U,T⟩:=PD p k;have a:=Iv (X:=X) C;have c:=Qa C;refine ö PySem.F.slot_dict_pop O PySem.F.entry_dict_pop ?_ (PySem.F.args_dict_pop_3 _ _ _);unfold Builtin.«dict.pop»;refine wB ?_;unfold Builtin.Dict.keyAndDefault;refine wB (wpAny_notOrdered_dict o.typeIs ?_);show wpAny _ _ _ _ _ s;refine wP ?_;simp only[c,if_true];refine wB (wP ?_);simp only[fT0,iF]
 cases n:mG i k with
 |some v=>
  obtain⟨u,e,W⟩:=U v n;refine wB (wpAny_takeOut_pairs a o (λE=>by rw[E]at e;exact nomatch e) λM _ m h' j w=>?_);have A:M.val=u:=by rw[e]at m;injection m with m;exact m.symm
  simp only[Option.isNone_some,fT0,iF];refine wB (wpAny_letGo (wP ⟨_,rfl,v,_,?_,by rw[A];exact W,G v n⟩));have r: ∃q,h'.get? d=some q:=let ⟨q,_,_,J,_⟩:=j;⟨q,J⟩;exact I.write ((by rcases B with z|⟨_,z⟩<;>rw[z]<;>exact trivial)) (.inl rfl) (λb uo Z K=>(w.2 b Z).trans K) r ⟨by have:=(show (IE i k).length<=i.length from Č _ _);lia,hs,_,ZW p k,j⟩
 |none=>
  have e:=T n;refine wB (wpAny_takeOut_pairs_none a o e ?_);simp only[Option.isNone_none,if_true];refine wB (wpAny_missedRemoval_other hs ?_);exact wB (ı (wP ⟨P,rfl,y,H,I.tok _,Y,N n⟩))
def MR(p:Er)(rs:List Er)(S:Sto):R Er:=match rs with
 |[.val k,.val y]=>match SZ S p with
  |some (l,kvs)=>if LD k=true then(match look kvs k with |some d=>.ok (.val d) (S.set l (.dic (Iw kvs k)))|none=>.ok (.val y) S)else .no
  |none=>.no
 |_=>.no
def Qd:VX X W (Tr X) MR:=by
 intro p O x P α S N H Q E m D I K a;unfold MR at a;split at a
 .rename_i k y
  cases K with
  |cons dk n1 l1=>
   cases l1 with
   |cons dy n2 l2=>
    cases l2;split at a
    .rename_i l j G;split at a
     .rename_i r;obtain⟨c,u,rfl,w,M,b,C,_⟩:=zAI m G I;obtain⟨z,i⟩:=Ĉ.mp r;have s:=B6 i;obtain⟨A,L⟩:=DF C s;have F:=Pz i dk.1;subst F;refine⟨u,c,z,_,rfl,rfl,b,λv e=>?_,λe=>?_⟩
      .cases h:look j k with
       |some d=>
        obtain⟨J,q,B⟩:=A d h;rw[q]at e;cases e;rw[h]at a;have n:=m.writex w b.nf (o:=.dK (IE u z));exact(Post.shift (D.trans n) a).val (m.write w b.nf (.inl ⟨_,yN,(MQ C s).ex0 n.toEx0⟩)) (B.ext n)
       |none=>rw[L h]at e;cases e
      .cases h:look j k with
       |some d=>obtain⟨J,q,B⟩:=A d h;rw[q]at e;cases e
       |none=>
        rw[h]at a;exact(Post.shift D a).val m dy.1
     .exact a.elim
    .exact a.elim
 .exact a.elim
def Qe(p:Er)(S:Sto):Bool:=(SZ S p).isSome
def Qf(m:zT X W o f)(n:MA X W (e::es) af)
  (hbase:attributeBase o "pop" X.env (eval o X.env)=eval o X.env:=by rfl)
  (hfew:((backTo pos (starEach (e::es) X.env)).all (λx=>!x.1)&&(backToKw pos (keywordEach [] X.env)).all (λx=>x.1.isSome)
   &&decide ((e::es).length+([]:List Keyword).length+(if([]:List Keyword).isEmpty then 0 else 1)<30))=true:=by rfl)
  (hline:(apos.endLine==pos.line)=true:=by rfl) (hs:q8 X e es:=by rfl) (hplain:q9 X pos es:=by rfl):
  zT X W (.Call (.Attribute o "pop" apos) (e::es) [] pos) (λd S=>(f d S).bind λp j=>if Qe p j=true then(af d j).bind λrs S2=>MR p rs S2 else .no):=by
 obtain⟨to,m,A⟩:=m;obtain⟨t,n,k⟩:=n;refine⟨_,A5 Io PySem.F.plainAttrs_dict PySem.F.slot_dict_pop PySem.F.type_dict_pop Qc m n hbase hfew hline hs hplain,λα d S σ H Q z sl q=>A α d S σ H _ z sl (q.bind λu p j a r L y w s h=>?_)⟩;split at h
 .rename_i b;obtain⟨⟨l,J⟩,b⟩:=Ĉ.mp b;obtain⟨c,xs,rfl,_,_,I,_⟩:=zAI w b s.1;exact⟨⟨c,xs,rfl,I⟩,k a d j σ r _ w (sl.ext y) ((h.shift y).bind λG rs S2 i D K v C B E=>Qd p rs _ G i S2 r D Q a C v (s.1.ext v) B E)⟩
 .exact h.elim
def Dm: ∀{d},KV ks vs->d.length=vs.length->(∀(j:Nat) v ,d[j]? =some v-> ∃(k:Key)(x:ŗ),vs[j]? =some (k,x)/\(cZ X.prog X.w).is k v=true)->Vals (ks.map λp=>kV p.1) d:=by
 intro d n
 induction n generalizing d with
 |nil=>intro c _;cases d with
  |nil=>exact .nil
  |cons a b=>simp at c
 |@cons p q ps qs h t ih=>
  intro c m
  cases d with
  |nil=>simp at c
  |cons a b=>
   obtain⟨k,x,e,hi⟩:=m 0 a rfl;simp only[List.getElem?_cons_zero,Option.some.injEq]at e;subst e;rw[ê];refine .cons ?_ (ih (by simpa using c) λj v o=>by simpa using m (j+1) v (by simpa using o));rw[h.1];rcases yG hi with⟨i,t,e1,e2⟩|⟨i,t,e1,e2⟩
   .subst e2;rw[show k=.inl i from e1];exact⟨t,rfl⟩
   .subst e2;rw[show k=.inr i from e1];exact⟨t,rfl⟩
end
section
def Do(K:PySem.W.KdlSrc prog w "dict" r d n P OK)(z:A.handled=none)(i:OK s.heap)(p:n<=sizeLine)
  (h: ∀(h':Heap) m  acc' ,(∀b o,s.heap.get? b=some o->h'.get? b=some o)->ItemsOf P acc' n->Q₁ (.ref h'.objs.size) {s with heap:=h'.push {cls:=.type "tuple",data:=.seq acc'},toks:=m}):
  codeAny (model prog w) A (.call (.builtin "tuple.__new__") ⟨[.type "tuple",.ref r],[]⟩) (wants Q₁ E) s:=by
 refine codeAny_of_tree ?_;show wpAny _ A.in1 _ _ _ s;refine wB (wpAny_of_eq (F.newCall_tuple_1 _) (wP ⟨Ĩ F.plain_tuple_new _,Đ F.entry_tuple_new ?_⟩));rw[Ā F.plain_tuple_new _];have q:=sub_tuple_self;have k:=init_tuple_lookup;have y:=madeHere_tuple;have j:s.TypeIs (.ref r) "dict":=K.type s i
 wp_walk using ħ j,PySem.W.kdu_collect (A:=A.in1) K z i p
 intro h' m a u c;show wpAny _ _ (Builtin.Tuple.tupleExact a.toList.toArray >>= λv=>ret v) _ _ _;unfold Builtin.Tuple.tupleExact;refine wB (ÿ ?_ (by show a.toList.toArray.size<=sizeLine;simp only[Array.toArray_toList];rw[c.1];exact p));refine wP ?_;have e:a.toList.toArray=a:=by simp
 rw[e];exact h h' m a u c
def IF(K:PySem.W.KdlSrc prog w "dict" r d n P OK)(p:A.handled=none)(k:OK s.heap)(m:n<=sizeLine)
  (hQ: ∀(h':Heap) j  acc' ,(∀b o,s.heap.get? b=some o->h'.get? b=some o)->ItemsOf P acc' n->Q (.ref h'.objs.size) {s with heap:=h'.push {cls:=.type "tuple",data:=.seq acc'},toks:=j}):
  wpAny (model prog w) A (call (.type "tuple") [.ref r]) Q E s:=by
 refine callType_codes (Q₁:=λe a=>a.TypeIs e "tuple"/\Q e a) F.called_tuple (F.typeCall_tuple_1 _) F.entry_object_init
  (Do K p k m λh' j i q h=>⟨⟨_,å _ rfl,rfl⟩,hQ h' j i q h⟩) λe a c=>?_
 exact⟨c.1,F.args_object_init_2 e _,object_init_meets F.called_tuple.init.lookup F.called_tuple.made ↑4 prog w A.in1 _ a ⟨c.1,rfl,c.2⟩⟩
end
section
variable{α:B9}
theorem Dp:CallR X (.type "tuple") (λxs H Q=> ∃d m,xs=[.ref d]/\DK X H d m/\X.calm=true/\ ∀l,H l=none->Q (.ref l) (wG H l (.tup (m.map λp=>kV p.1)))):=by
 intro pins s σ H xs G Q I r h;obtain⟨d,m,rfl,F,A,q⟩:=h;obtain⟨u,rfl,D⟩:=vals1 r;cases D;obtain⟨z,E,K,i,w⟩:=GD I F;obtain⟨L,k⟩:=w.dictAt;have J:=Paired.length i;refine IF (PySem.W.kdl_dict E) (I.ok.hd A) k #[0] λh' n c y a=>?_;have B:Vals _ c.toList:=Dm i (by rw[ä];exact a.1) λj v e=>a.2 j v (by rw[<-í];exact e);have I1:Inv X pins σ H {s with heap:=h',toks:=n}:=I.kept y
 have C:Inv X pins σ (wG H h'.objs.size (.tup _)) {s with heap:=h'.push {cls:=.type "tuple",data:=.seq c},toks:=n}:=
  I1.laid (λb o e=>hP0 _ e) (à _) (⟨by rw[lM];exact z,_,B,by have:=IsTup.new h' c;simpa using this⟩)
 exact⟨.ref h'.objs.size,_,C,rfl,q _ (I1.hok.fresh (à _))⟩
def MS:List Er->Sto->R Er
 |[r],S=>match SZ S r with |some (_,kvs)=>.ok (.val (.tup (kvs.map (·.1)))) S|none=>.no
 |_,_=>.no
def Qg(o:X.calm=true):rR X W (λxs H Q=> ∃d j,xs=[.ref d]/\DK X H d j/\X.calm=true/\ ∀l,H l=none->Q (.ref l) (wG H l (.tup (j.map λp=>kV p.1)))) MS:=by
 intro w s α S H Q b d a;unfold MS at a;split at a
 .split at a
  .rename_i n q e;obtain⟨v,rfl,h⟩:=sO d;obtain⟨c,j,rfl,u,r,k,i,_⟩:=zAI b e h;exact⟨c,j,rfl,k,o,λl m=>Post.newt a b m (MM i)⟩
  .exact a.elim
 .exact a.elim
def C4(j:X.calm=true):rR X W (λxs H Q=> ∃(a:Addr)(bs:N0),xs=[.ref a]/\SqL X.K H a (bs.map V.bl)/\X.calm=true/\Q (.bl (bs.any id)) H) Od:=by
 intro n m α S H Q c d b;unfold Od at b;split at b
 .split at b
  .rename_i bs e;obtain⟨v,rfl,h⟩:=sO d
   cases z:wI S _ with
   |none=>rw[z]at e;cases e
   |some ds=>
    rw[z]at e;obtain⟨i,k,rfl,s,l⟩:=pZ rfl c z h;refine⟨i,bs,rfl,?_,j,Post.val b c (cM _)⟩;rw[<-CV e l];exact s
  .exact b.elim
 .exact b.elim
end
section
variable{b:Expr}
def PH:CallR X (.builtin "any") (λxs H Q=> ∃(a:Addr)(bs:N0),xs=[.ref a]/\SqL X.K H a (bs.map V.bl)/\X.calm=true/\Q (.bl (bs.any id)) H):=by
 intro pins s σ H xs M Q I r h;obtain⟨a,bs,rfl,D,A,q⟩:=h;obtain⟨u,rfl,J⟩:=vals1 r;cases J;obtain⟨d,B,z,N⟩:=I.list D;have c:d.length=bs.length:=by rw[<-B.length,lM]
 refine PySem.call_any_walk (ľ z.isList ?_);have F:a≠s.heap.objs.size:=by obtain⟨o,E,_⟩:=z.isList;exact è (â E)
 have I1: ∀(h':Heap)(p:Nat),(∀b o,b∉[↑1]->(s.heap.push {cls:=.type "list_iterator",data:=.fields #[.ref a,.int 0 0]}).get? b=some o->h'.get? b=some o)->Inv X pins σ H {s with heap:=h',toks:=p}:=λh' p k=>
  I.kept λb o e=>k b o (by simpa using è (â e)) (hP0 _ e)
 refine⟨↑1,[↑1,a],[↑1],d.toArray.size,_,_,λi=>bs.getD i false,rfl,PySem.Walks.list (by first |exact I.ok.hd A|exact(I.ok.hd A)) _ a F d.toArray,⟨⟨_,å _ rfl,rfl,rfl⟩,z.isList.at λo e=>hP0 _ e⟩,?_,λh' p k=>?_⟩
 .intro i v P T S G w;have n:=by simpa using G
  have hi:i<bs.length:=by rw[<-c];exact(gS.mp n).1
  have L:(bs.map V.bl)[i]? =some (V.bl (bs.getD i false)):=by simp[ė,hi]
  obtain⟨O,j,y⟩:=B.get L;rw[n]at j;cases j;cases y;exact ě w
 .refine⟨.bl _,H,I1 h' p k,?_,q⟩;congr 1;rw[sA0,c]
  have: ∀(l:N0),(List.range l.length).any (λi=>l.getD i false)=l.any id:=by
   intro l;rw[Bool.eq_iff_iff,List.any_eq_true,List.any_eq_true];constructor
   .rintro⟨i,hi,h⟩;have m:=ý.mp hi;exact⟨l[i],ł m,by simpa [ė,m]using h⟩
   .rintro⟨x,C,h⟩;obtain⟨i,hi,rfl⟩:=getElem_of_mem C;exact⟨i,ý.mpr hi,by simpa [ė,hi]using h⟩
  exact this bs
def shrC(i j:Int):Prop:=0<=j
instance(i j:Int):Decidable (shrC i j):=inferInstanceAs (Decidable (_<=_))
end
end M
end L2
namespace PySem
def getAttr?_miss_list
  (hx:s.heap.get? a=some o) (v:o.cls=.type "list") (i:o.data=.seq xs k) (r:o.dict=none) (j:typeLookup (.type "list") name=pure none) (m:(["__module__","__name__","__qualname__","__doc__","__annotations__"]:K0).contains name=false) (B:A.handled=none)
  (h: ∀h' u,(∀b o,s.heap.get? b=some o->h'.get? b=some o)->Q none {s with heap:=h',toks:=u}) (hsz:name.length+100<=sizeLine:=by size_fits):
  wpAny (model prog w) A (getAttr? (.ref a) name) Q E s:=by
 obtain⟨c,y,D,sl⟩:=o;simp only at v i r;subst v i r;obtain⟨z,g,d,u,C⟩:=s;have q: ∀n,(⟨z,g,d,n,C⟩:Ŗ).TypeIs (.ref a) "list":=λ_=>⟨_,hx,rfl⟩
 have J:=sub_AttributeError;have K:=F.slot_list_getattribute.lookup;have I:=F.slot_list_getattribute.bind (.ref a);have H:=am_list_getattr_none;unfold getAttr? getAttrBy? getAttrBy
 repeat (any_goals (first |assumption|exact q _|((with_reducible show wpAny _ _ (call _ _ _) _ _ _);refine call_meets F.slot_list_getattribute (q _) am_entry_list_getattribute (F.args_list_getattribute_2 _ _) (meets_getattribute_miss_list a xs k sl name _ j m hsz) ⟨hx,B,λh' n e p=>?_⟩)|wp_step))
 obtain⟨L,G,M⟩:=p.there;show wpAny _ _ _ _ _ _;unfold getattributeRaised
 repeat (any_goals (first |assumption|wp_step))
 exact h _ _ p.keeps
namespace F
def entry_dict_update_loop:entryFor table "dict.update.loop"=some Builtin.«dict.update.loop»:=entryFor_of_tree (by kernel_rfl)
def plain_dict_update_loop:plainId "dict.update.loop"=true:=by decide+kernel
end F
open PyProof.Rows
section
variable{K:Type}[DecidableEq K]{knd:KeyKind prog w K}
def WO(knd:KeyKind prog w K)(h:Heap)(c:K×ŗ)(v:ŗ):Prop:= ∃a b,v=.ref a/\IsTup h a #[b,c.2]/\knd.is c.1 b=true
theorem AR{St:Nat->Heap->Prop}(W:Walks prog w A.in1 I fp [I] n P St)(G:D∉fp)(kvs)(Y:kvs.length=n)(hz:n<=sizeLine)
  (hP: ∀i v,P i v-> ∃N,kvs[i]? =some N/\WO knd h₀ N v) (hI:h₀.get? I=none) (hD:h₀.get? D=none):
  ∀ k i  j  s ,n - i=k->i<=n->St i s.heap->s.heap.DictOf knd D (merged [] (kvs.take i))->(∀b o,h₀.get? b=some o->s.heap.get? b=some o)->
   (∀h' B,(∀b o,h₀.get? b=some o->h'.get? b=some o)->h'.DictOf knd D (merged [] kvs)->R (.ok (.ret .none)) {s with heap:=h',toks:=B})->
   codeAny (model prog w) A (.builtin "dict.update.loop" ⟨[.ref D,.ref I,rawInt j,.none],[]⟩) R s:=by
 have z:D≠I:=λe=>G (e▸W.sub _ (mS.mpr rfl));intro k
 induction k with
 |zero=>
  intro i j s hk hi q J c Q;have T:i=n:=by lia
  subst T;refine Đ F.entry_dict_update_loop ?_;rw[Ā F.plain_dict_update_loop _];show wpAny _ A.in1 _ _ _ s;refine wB (W.done s _ _ q λh' B m=>?_);show wpAny _ A.in1 _ _ _ _;refine wB (wP ?_);rw[<-Y,take_length]at J;refine wP (Q h' B (λb o e=>?_) ?_)
  .exact m b o (λh=>by rw[mS.mp h,hI]at e;cases e) (c b o e)
  .obtain⟨o,es,S,r,rest⟩:=J;exact⟨o,es,S,m D o (λh=>z (mS.mp h)) r,rest⟩
 |succ k ih=>
  intro i j s hk hi q J c Q;have y:i<n:=by lia
  refine Đ F.entry_dict_update_loop ?_;rw[Ā F.plain_dict_update_loop _];show wpAny _ A.in1 (pyNext (.ref I) >>= _) _ _ s;refine wB (W.item i s _ _ y q λv h' B O E m=>?_);obtain⟨N,M,a,ab,rfl,hT,H⟩:=hP i v O;have d: ∀b o,h₀.get? b=some o->h'.get? b=some o:=λb o e=>m b o (λh=>by rw[mS.mp h,hI]at e;cases e) (c b o e);have L:h'.DictOf knd D (merged [] (kvs.take i)):=by obtain⟨o,es,S,r,rest⟩:=J;exact⟨o,es,S,m D o (λh=>z (mS.mp h)) r,rest⟩
  obtain⟨o,r,hc,nn,C⟩:=hT.keeps d;have K:Shared.TypeIs {s with heap:=h',toks:=B} (.ref a) "tuple":=⟨o,r,hc⟩
  refine wB (Ă ?_);refine wB (wpAny_tryCatch ?_);unfold Builtin.Dict.pairItems;refine wB (ħ K ?_);rw[iP ↑4];refine wB ?_;show wpAny _ _ _ _ _ _;refine wB (wpAny_load r ?_);rw[C];refine wP (wP ?_);show wpAny _ _ _ _ _ _;refine Ă ?_;have Z:=merged_length_le [] (kvs.take i);have aa:(kvs.take i).length<=n:=by rw[<-Y];exact List.length_take_le' i kvs
  refine wpAny_dictSet_pairs H L λh2 U u=>?_;have p: ∀b o,h₀.get? b=some o->h2.get? b=some o:=λb o e=>by rw[u.2 b (λh=>by rw[h,hD]at e;cases e)];exact d b o e
  refine wP ⟨Ĩ F.plain_dict_update_loop _,ih (i+1) (j+1) _ #[0] y (W.frame _ _ _ E λb hb o e=>?_) ?_ p λh3 X k3 d3=>Q h3 X k3 d3⟩
  .rw[u.2 b (λh=>G (h▸hb))];exact e
  .rw[merged_take_succ _ _ _ _ M];exact U
def FR(H:A.handled=none)(I:s.heap.get? l=some o)(z:o.cls=.type "list")(O:o.dict=none)(d:o.data=.seq its c)(u:its.size=kvs.length)(hz:its.size<=sizeLine)
  (hP: ∀(i:Nat) v,its[i]? =some v-> ∃J,kvs[i]? =some J/\WO knd s.heap J v)
  (h: ∀h' G,(∀b o,s.heap.get? b=some o->h'.get? b=some o)->h'.DictOf knd ↑1 (merged [] kvs)->Q (.ref ↑1) {s with heap:=h',toks:=G}):
  wpAny (model prog w) A (call (.type "dict") [.ref l]) Q E s:=by
 refine callType_codes (Q₁:=λr j=>r=.ref ↑1/\j={s with heap:=s.heap.push {cls:=.type "dict",data:=.dict #[]}}) F.kt_called_dict (F.kt_typeCall_dict_1 _) F.entry_dict_init (kt_code_dict_new _ ⟨rfl,rfl⟩) ?_;rintro r j ⟨rfl,rfl⟩;have a:(s.heap.push {cls:=.type "dict",data:=.dict #[]}).DictOf knd ↑1 []:=Heap.DictOf.new s.heap;have n:(s.heap.push {cls:=.type "dict",data:=.dict #[]}).get? l=some o:=hP0 _ I;have C:=â I;refine⟨a.typeIs,F.args_dict_init_2 _ _,?_⟩;unfold Builtin.«dict.__init__»;refine wB ?_;unfold Builtin.Dict.selfAndRest;refine wB (wpAny_notOrdered_dict a.typeIs ?_);show wpAny _ _ _ _ _ _;refine wP ?_;show wpAny _ _ (Builtin.Dict.updateFrom "dict.__init__" ↑1 (.ref l) [] .none) _ _ _;unfold Builtin.Dict.updateFrom;refine wB (ħ ⟨o,n,z⟩ ?_);rw[iP ↑4];refine wB (getAttr?_miss_list n z d O (am_miss_of_fast (by decide+kernel)) (by decide+kernel) H (λy L B=>?_) (by decide+kernel));rw[iP (show(none:Option ŗ).isNone=true from rfl)];refine wB (ı ?_);have k:=B l o n;refine wB (ľ ⟨o,k,z,c,d⟩ ?_);have M:l≠y.objs.size:=è (â k);have p:↑1<y.objs.size:=by obtain⟨q,_,_,m,_⟩:=a;exact â (B _ _ m)
 refine wP ⟨Ĩ F.plain_dict_update_loop _,AR (Walks.list (by first |exact H|exact H) y.objs.size l M its) ?_ kvs u.symm hz hP ?_ ?_ _ 0 0 _ rfl (zero_le _) ⟨⟨_,å _ rfl,rfl,rfl⟩,⟨o,hP0 _ k,z,c,d⟩⟩ ?_ ?_ λh' G N D=>?_⟩
 .rw[mC,mS];rintro(e|e)
  .exact è p e
  .exact è C e.symm
 .cases m:s.heap.get? y.objs.size with
  |none=>rfl
  |some q=>exact absurd (â m) (Nat.lt_asymm p)
 .cases m:s.heap.get? ↑1 with
  |none=>rfl
  |some q=>exact absurd (â m) (ğ _)
 .obtain⟨q,es,K,m,rest⟩:=a;exact⟨q,es,K,hP0 _ (B _ _ m),rest⟩
 .intro b q e;exact hP0 _ (B _ _ (hP0 _ e))
 .exact⟨rfl,h h' G N D⟩
end
end PySem
namespace L2
namespace M
open PySem PySem.Spec PyProof.Rows
section
variable{X:Cx}{α:B9}{H:Hp}
def TB(ps:List (Key×V)):List (Key×V):=ps.foldl (λa p=>HV a p.1 p.2) []
inductive PairsV(K:Q0)(H:Hp):List V->List (Key×V)->Prop
 |nil:PairsV K H [] []
 |cons {a:Addr} {k:Key} {v:V} {vs ps}:SqT K H a [kV k,v]->PairsV K H vs ps->PairsV K H (.ref a::vs) ((k,v)::ps)
def Qh(r:KV ps qs): ∀{as}{bs},KV as bs->KV (ps.foldl (λd p=>HV d p.1 p.2) as) (merged bs qs):=by
 induction r with
 |nil=>intro as bs h;exact h
 |@cons p q ps qs h t ih=>
  intro as bs a;rw[ĥ];show KV _ _;rw[h.1];exact ih (A3 a _ h.2)
def pairs_of(I:↑2)(r:PairsV X.K H vs ps): ∀{d},Vals vs d-> ∃qs:List (Key×ŗ),KV ps qs/\qs.length=d.length/\ ∀(i:Nat) v,d[i]? =some v-> ∃j,qs[i]? =some j/\WO (cZ X.prog X.w) s.heap j v:=by
 induction r with
 |nil=>intro d h;cases h;exact⟨[],.nil,rfl,λi v h=>by simp at h⟩
 |@cons a k v vs ps hq t ih=>
  intro d h
  cases h with
  |@cons _ u _ d ru rt=>
   cases ru;obtain⟨qs,o,c,n⟩:=ih rt;obtain⟨p,y,z,A⟩:=I.tuple hq;obtain⟨q,m,rfl,e,b⟩:=vals2 y;refine⟨(k,m)::qs,.cons ⟨rfl,b⟩ o,by rw[lC,lC,c],λi w hw=>?_⟩
   cases i with
   |zero=>
    cases hw;exact⟨_,rfl,a,q,rfl,z,Iv e⟩
   |succ i=>exact n i w hw
theorem Dq(ps):(TB ps).length<=ps.length:=by
 have: ∀(ps as:List (Key×V)),(ps.foldl (λa p=>HV a p.1 p.2) as).length<=as.length+ps.length:=by
  intro ps
  induction ps with
  |nil=>intro as;exact à _
  |cons p ps ih=>
   intro as;rw[ĥ,lC];have:=ih (HV as p.1 p.2);have:=(show (HV as (p.1) (p.2)).length<=as.length+1 by
     unfold HV;split
     .rw[lM];exact le_succ _
     .rw[lA];exact à _)
   lia
 have:=this ps [];rw[Ĺ,ď]at this;exact this
def WP{K:Q0}(r:PairsV K H vs ps):ps.length=vs.length:=by
 induction r with
 |nil=>rfl
 |cons _ _ ih=>rw[lC,lC,ih]
theorem Dr:CallR X (.type "dict") (λxs H Q=> ∃l vs ps,xs=[.ref l]/\SqL X.K H l vs/\PairsV X.K H vs ps/\X.calm=true/\ ∀d,H d=none->Q (.ref d) (wG H d (.dK (TB ps)))):=by intro pins s σ H xs J Q I r h;obtain⟨l,vs,ps,rfl,y,j,B,q⟩:=h;obtain⟨u,rfl,E⟩:=vals1 r;cases E;obtain⟨A,k,⟨o,n,C,b,F,a⟩,L⟩:=I.list y;obtain⟨P,p,D,m⟩:=pairs_of I j k;have N:=k.length;refine FR (I.ok.hd B) C b F a (by rw[sA0,D]) (by rw[sA0];lia) (λi v e=>m i v (by simpa using e)) λh' O z c=>?_;have G:=WP j;have M:=Dq ps;refine⟨.ref ↑1,_,I.laid z (à _) (show ObjOk X.prog X.w _ h' _ (.dK (TB ps))from⟨by lia,Ŋ.mpr (Ne.symm (è ((lt_trans ↑4 ((I.mod.glob.keeps I.bk).lt))))),_,Qh p .nil,c⟩),rfl,q _ (I.hok.fresh (à _))⟩
def qW:List MV->Option (List (MV×MV))
 |[]=>some []
 |.tup [k,v]::r=>if LD k=true then(qW r).map ((k,v)::·)else none
 |_::_=>none
def Tt(ps:zA0):List (MV×MV):=ps.foldl (λa p=>putK a p.1 p.2) []
theorem IG{K:Q0}: ∀{ds}{j}{vs},qW ds=some j->DenL X.K α H ds vs-> ∃ps,PairsV X.K H vs ps/\DenK X.K α H j ps
 |[],j,vs,e,l=>by cases e;rw[l.isnil];exact⟨[],.nil,.nil⟩
 |d::ds,j,vs,e,l=>by
  obtain⟨v,r,rfl,m,l'⟩:=l.uncons;unfold qW at e;split at e
  .cases (by assumption:d::ds=[])
  .rename_i k y C q;obtain⟨rfl,rfl⟩:=List.cons.inj q;split at e
   .rename_i c
    cases z:qW ds with
    |none=>rw[z]at e;cases e
    |some ms=>
     rw[z]at e;cases e;obtain⟨ps,p1,p2⟩:=IG (K:=K) z l';obtain⟨a,w,rfl,hs,i⟩:=yY m;obtain⟨F,A,rfl,u,s⟩:=i.uncons;obtain⟨D,E,rfl,h,p⟩:=s.uncons;have n:=p.isnil;subst n;obtain⟨B,b⟩:=Ĉ.mp c;have o:=Pz b u;subst o;exact⟨_,.cons hs p1,.cons (B6 b) h p2⟩
   .cases e
  .cases e
theorem MT: ∀{j}{ps},DenK X.K α H j ps-> ∀{as}{bs},DenK X.K α H as bs->DenK X.K α H (j.foldl (λd p=>putK d p.1 p.2) as) (ps.foldl (λd p=>HV d p.1 p.2) bs)
 |_,_,.nil,as,bs,h=>h
 |_,_,.cons hk a l,as,bs,h=>by exact MT l (Ij h hk a)
def ZX:List Er->Sto->R Er
 |[r],S=>match (wI S r).bind qW with |some kvs=>.ok (.val (.loc S.length)) (S++[.dic (Tt kvs)])|none=>.no
 |_,_=>.no
def Qi:bootBuiltins "dict"=some (.type "dict"):=by decide+kernel
def Qj(r:X.calm=true):rR X W (λxs H Q=> ∃l vs ps,xs=[.ref l]/\SqL X.K H l vs/\PairsV X.K H vs ps/\X.calm=true/\ ∀d,H d=none->Q (.ref d) (wG H d (.dK (TB ps)))) ZX:=by
 intro u vs α S H Q b d a;unfold ZX at a;split at a
 .split at a
  .rename_i s e;obtain⟨v,rfl,j⟩:=sO d
   cases z:wI S _ with
   |none=>rw[z]at e;cases e
   |some ds=>
    rw[z]at e;obtain⟨q,i,rfl,k,l⟩:=pZ rfl b z j;obtain⟨ps,p1,p2⟩:=IG (K:=X.K) e l;refine⟨q,i,ps,rfl,k,p1,r,λp c=>?_⟩;have h:=b.newx (o:=.dK (TB ps)) c;obtain⟨x,n⟩:=b.put (m:=.dic _) c (.inl ⟨_,yN,(MT p2 .nil).ex0 ⟨⟨[p],rfl⟩,h.tup,h.frz⟩⟩);exact a _ _ _ x n (DenE.val (FY (by rw[<-b.len,ð (à _),sub_self];rfl)))
  .exact a.elim
 .exact a.elim
end
section
variable{K:Type}[DecidableEq K]
def TSet(knd:KeyKind prog w K)(h:Heap)(a:Addr)(S:K->Bool)(n:Nat)(b:Bool):Prop:=
 ∃o es c t,h.get? a=some o/\o.ExactSet/\o.data=.set es c t/\ElemsOf knd es.toList/\(∀k,S k=true↔ ∃e∈es.toList,knd.is k e.2=true)
  /\es.size<scanBound/\t.fits es.size=true/\es.size=n/\t.led=b/\(es.size=0\/t.plain=false)/\(es.toList.map (·.2)).Pairwise (λx y=> ∀k,knd.is k x=true-> ¬knd.is k y=true)
end
noncomputable abbrev DH(w:World):Bool:=w.params.followText "set-order"
def StrT(val:Nat->Key)(i:Nat)(v:ŗ):Prop:= ∃x t,val i=.inr x/\v=.str x t
def StrT.is(h:StrT val i v):(cZ P w).is (val i) v=true/\v.scannable=true/\plainKind v=false:=by obtain⟨x,t,e,rfl⟩:=h;rw[e];exact⟨sE P w x t,rfl,rfl⟩
section
def LE(a)
  (h:Q₁ (.ref ↑1) {s with heap:=s.heap.push (xZ (!DH w))}):
  codeAny (model P w) A (.call (.builtin "set.__new__") ⟨[.type "set",a],[]⟩) (wants Q₁ E) s:=by
 refine codeAny_of_tree ?_;show wpAny _ A.in1 (do checkBuiltinCall "set.__new__" ⟨[.type "set",a],[]⟩;again (.builtin "set.__new__" ⟨[.type "set",a],[]⟩)) _ _ s;refine wB (wpAny_of_eq (F.newCall_set_1 a) (wP ⟨Ĩ F.plain_set_new _,Đ F.entry_set_new ?_⟩));rw[Ā F.plain_set_new _];unfold Builtin.«set.__new__» Builtin.Frozenset.newClass;have b:=sub_set_self;obtain⟨i,g,d,c,e⟩:=s;dsimp only
 wp_walk
 refine Ę (wP ?_);dsimp only;simp only[newObj];refine wB (wpAny_alloc (wP ?_));exact wP h
end
end M
end L2
namespace PySem.F
def slot_seti_next:Slot "set_iterator" "__next__" "set_iterator.__next__":=
 .of (owner:="set_iterator") (n:="__next__") (by rw[typeLookup_type,builtinLookup_eq_fast];kernel_rfl) (by decide+kernel) (by decide+kernel) (by decide+kernel)
  (by first |exact .inl (by decide+kernel)|exact .inr (by decide+kernel)) (by rw[isSubtype_type];kernel_rfl)
def entry_seti_next:entryFor table "set_iterator.__next__"=some Builtin.«set_iterator.__next__»:=entryFor_of_tree (by kernel_rfl)
def entry_set_iter':entryFor table "set.__iter__"=some Builtin.«frozenset.__iter__»:=entryFor_alias (id':="frozenset.__iter__") (by kernel_rfl) rfl (by decide+kernel) (by kernel_rfl)
theorem IH:Manifest.owners.lookup (String.ofList ['r', 'o', 't', 'a', 'r', 'e', 't', 'i', '_', 't', 'e', 's'].reverse)=some Manifest.sig_set_iterator:=by kernel_rfl
theorem args_seti_next(a):argsOk "set_iterator.__next__" ⟨[a],[]⟩:=by unfold argsOk;rw[signature?_of (id:="set_iterator.__next__") (n:=['_', '_', 't', 'x', 'e', 'n', '_', '_']) (o:=['r', 'o', 't', 'a', 'r', 'e', 't', 'i', '_', 't', 'e', 's']) (by kernel_rfl) IH];kernel_rfl
end PySem.F
namespace L2
namespace M
open PySem PySem.Spec PyProof.Rows
section
variable{α:Type}
theorem II: ∀(l:List α) i  hi ,(l[i]::l.eraseIdx i).Perm l
 |x::l,0,_=>.refl _
 |x::l,i+1,hi=>by
  have d:=by simpa using hi
  have:=II l i d;exact(List.Perm.swap x l[i] _).trans (this.cons x)
def SetAt(h:Heap)(D:Addr)(es:L1)(a:Nat)(t:SetTable):Prop:= ∃o,h.get? D=some o/\o.ExactSet/\o.data=.set es a t/\t.fits es.size=true
abbrev iT(h:Heap)(a:Addr)(first:Value)(i n b:Nat)(D:Addr):Prop:=h.get? a=some {cls:=.type "set_iterator",dict:=none,data:=.fields #[first,rawInt i,.ref D,rawInt n,rawInt b],slots:=#[]}
end
theorem ZY(next): ∀ d k  left (out:Array α),left.length=d->(pickOrder.go next d k left out).toList.Perm (out.toList++left)
 |0,k,left,out,h=>by have e:=List.eq_nil_of_length_eq_zero h;subst e;unfold pickOrder.go;rw[aN]
 |d+1,k,left,out,h=>by
  have hi:next k % left.length<left.length:=mod_lt _ #[0]
  unfold pickOrder.go;rw[gE hi];refine(ZY next d _ _ _ (by rw[List.length_eraseIdx_of_lt hi,h];rfl)).trans ?_;rw[Array.toList_push,aA];exact(II left _ hi).append_left out.toList
def tU(next)(xs:Array α):(pickOrder next xs).toList.Perm xs.toList:=by
 have:=ZY next xs.size 0 xs.toList #[] (by simp)
 simpa [pickOrder]using this
section
theorem Ds(h:DH w=true)(a:iT s.heap it (rawInt 0) i n ep D)(j:SetAt s.heap D es ep t)(k:es.size=n)
  (he:(pickOrder (w.params.setOrder D ep) es)[i]? =some (hx,x))
  (hQ: ∀h',iT h' it (rawInt 0) (i+1) n ep D->Heap.SameBut it s.heap h'->Q (some x) {s with heap:=h'}):
  wpAny (model prog w) A (pyNext (.ref it)) Q E s:=by
 have b:s.TypeIs (.ref it) "set_iterator":=⟨_,a,rfl⟩
 obtain⟨o,e,m,d,c⟩:=j;unfold pyNext
 refine wB (Ő (û (name:=Str.ofString "__next__") b F.slot_seti_next
  (ö F.slot_seti_next b F.entry_seti_next ?_ (F.args_seti_next _))))
 unfold Builtin.«set_iterator.__next__» slotArgs;refine wB (wP ?_);refine wB (wpAny_fieldsOf a rfl ?_);dsimp only;refine wB (Ō e d c ?_);rw[iN (by simp[k])];dsimp only[rawInt];refine wB ?_;unfold setNext setsByText;refine wB (Ą e d c ?_);dsimp only;refine wB (wB (Ę (wP ?_)));dsimp only;rw[iP (show(model prog w).w.params.followText "set-order"=true from h),iN (by simp)];refine wB ?_;unfold setWalk setsByText;refine wB (Ą e d c ?_);dsimp only;refine wB (wB (Ę (wP ?_)));dsimp only;rw[iP (show(model prog w).w.params.followText "set-order"=true from h)];refine wB (Ę (wP ?_));refine wP ?_;dsimp only;rw[Ĕ,show(pickOrder ((model prog w).w.params.setOrder D ep) es)[i]? =some (hx,x)from he];dsimp only[Option.map];refine wB (į a rfl (by simp) ?_);refine wB (į (ø _ a rfl) rfl (by simp) ?_);refine wP ⟨_,rfl,wP (hQ _ ?_ ((ċ ..).trans (ċ ..)))⟩;exact ø _ (ø _ a rfl) rfl
def LF(u:A.handled=none)(k:DH w=true)(c:iT s.heap it (rawInt 0) i n ep D)(p:SetAt s.heap D es ep t)(q:es.size=n)
  (he:(pickOrder (w.params.setOrder D ep) es)[i]? =none)
  (hQ: ∀h',Heap.ExtBut it s.heap h'->Q none {s with heap:=h'}):wpAny (model prog w) A (pyNext (.ref it)) Q E s:=by
 have d:s.TypeIs (.ref it) "set_iterator":=⟨_,c,rfl⟩
 obtain⟨o,j,r,h,e⟩:=p;unfold pyNext
 refine wB (Ő (û (name:=Str.ofString "__next__") d F.slot_seti_next
  (ö F.slot_seti_next d F.entry_seti_next ?_ (F.args_seti_next _))))
 unfold Builtin.«set_iterator.__next__» slotArgs;refine wB (wP ?_);refine wB (wpAny_fieldsOf c rfl ?_);dsimp only;refine wB (Ō j h e ?_);rw[iN (by simp[q])];dsimp only[rawInt];refine wB ?_;unfold setNext setsByText;refine wB (Ą j h e ?_);dsimp only;refine wB (wB (Ę (wP ?_)));dsimp only;rw[iP (show(model prog w).w.params.followText "set-order"=true from k),iN (by simp)];refine wB ?_;unfold setWalk setsByText;refine wB (Ą j h e ?_);dsimp only;refine wB (wB (Ę (wP ?_)));dsimp only;rw[iP (show(model prog w).w.params.followText "set-order"=true from k)];refine wB (Ę (wP ?_));refine wP ?_;dsimp only;rw[Ĕ,show(pickOrder ((model prog w).w.params.setOrder D ep) es)[i]? =none from he];dsimp only[Option.map];refine wB (į c rfl (by simp) ?_);show wpAny _ _ (newExc (.type "StopIteration") [] >>= _) _ _ _;refine wB ?_;simp only[newExc,newTuple];refine wB (ÿ ?_ (by size_fits));refine wB (m:=firstArgMember _ _) (wpAny_of_eq (a:=Value.none) (by first |rfl|(simp only[firstArgMember];rfl)) ?_);refine ÿ ?_ (by size_fits);simp only[raiseNew];refine wB (wpAny_handled ?_);rw[show A.in1.handled=none from u];refine wB (wP (wpAny_throw ?_));refine wB (ń (T:="StopIteration") (b:=true) ⟨_,å _ rfl,rfl⟩ isSubtype_stop ?_);exact wP (hQ _ (((ċ ..).extBut.push _).push _))
end
noncomputable abbrev C5(first:Value)(n a:Nat)(D:Addr):Obj:={cls:=.type "set_iterator",dict:=none,data:=.fields #[first,rawInt (0:Nat),.ref D,rawInt n,rawInt a],slots:=#[]}
end M
end L2
namespace PySem.F
def slot_seti_iter:Slot "set_iterator" "__iter__" "set_iterator.__iter__":=
 .of (owner:="set_iterator") (n:="__iter__") (by rw[typeLookup_type,builtinLookup_eq_fast];kernel_rfl) (by decide+kernel) (by decide+kernel) (by decide+kernel)
  (by first |exact .inl (by decide+kernel)|exact .inr (by decide+kernel)) (by rw[isSubtype_type];kernel_rfl)
def entry_seti_iter:entryFor table "set_iterator.__iter__"=some Builtin.«dict_keyiterator.__iter__»:=entryFor_alias (id':="dict_keyiterator.__iter__") (by kernel_rfl) rfl (by decide+kernel) (by kernel_rfl)
theorem args_seti_iter(a):argsOk "set_iterator.__iter__" ⟨[a],[]⟩:=by unfold argsOk;rw[signature?_of (id:="set_iterator.__iter__") (n:=['_', '_', 'r', 'e', 't', 'i', '_', '_']) (o:=['r', 'o', 't', 'a', 'r', 'e', 't', 'i', '_', 't', 'e', 's']) (by kernel_rfl) IH];kernel_rfl
end PySem.F
namespace L2
namespace M
open PySem PySem.Spec PyProof.Rows
section
variable{E:VP}{s:Ŗ}
def MU(b:iT s.heap it first i n ep D)(c:Q (.ref it) s):wpAny (model prog w) A (pyIter (.ref it)) Q E s:=by
 have a:s.TypeIs (.ref it) "set_iterator":=⟨_,b,rfl⟩
 refine wpAny_pyIter_slot a F.slot_seti_iter (ö F.slot_seti_iter a F.entry_seti_iter ?_ (F.args_seti_iter _));unfold Builtin.«dict_keyiterator.__iter__» slotArgs;refine wB (wP ?_);exact wP ⟨_,rfl,"set_iterator",_,a,F.slot_seti_next.lookup,c⟩
def SetAt.keep(x:SetAt h D es ep t)(m: ∀o,h.get? D=some o->h'.get? D=some o):SetAt h' D es ep t:=by obtain⟨o,a,r⟩:=x;exact⟨o,m o a,r⟩
def Dt(hh:A.handled=none)(hb:DH w=true)(hDI:D≠I):
  Walks prog w A I [I,D] [I] es.size (λi v=> ∃e,(pickOrder (w.params.setOrder D ep) es)[i]? =some e/\v=e.2) (λi h=>iT h I (rawInt 0) i es.size ep D/\SetAt h D es ep t) where
 sub:=λb hb=>by simp at hb;simp[hb]
 frame:=λi h h' st hk=>⟨hk I (by simp) _ st.1,st.2.keep λo e=>hk D (by simp) o e⟩
 item:=λi s Q E hi st hQ=>by
  have hlen:(pickOrder (w.params.setOrder D ep) es).size=es.size:=by rw[<-ä,(tU _ es).length_eq,ä]
  have he:(pickOrder (w.params.setOrder D ep) es)[i]? =some ((pickOrder (w.params.setOrder D ep) es)[i]'(by omega)):=ą _;refine Ds (x:=((pickOrder (w.params.setOrder D ep) es)[i]'(by omega)).2) (hx:=((pickOrder (w.params.setOrder D ep) es)[i]'(by omega)).1) hb st.1 st.2 rfl he λh' hit' hs'=>?_;refine hQ _ h' s.toks ⟨_,he,rfl⟩ ⟨hit',st.2.keep λo e=>hs'.extBut D o hDI e⟩ λb o hb e=>hs'.extBut b o (λz=>hb (by simp[z])) e
 done:=λs Q E st hQ=>by
  have hlen:(pickOrder (w.params.setOrder D ep) es).size=es.size:=by rw[<-ä,(tU _ es).length_eq,ä]
  exact LF hh hb st.1 st.2 rfl (Array.getElem?_eq_none (by omega)) λh' he'=>hQ h' s.toks λb o hb e=>he' b o (λz=>hb (by simp[z])) e
 self:=λi s Q E st hQ=>MU st.1 hQ
end
section
variable{E:VP}
def Iy(d:s.TypeIs (.ref r) "set")(h:Q false s):wpAny (model prog w) A (Builtin.List.listLengthHint (.ref r)) Q E s:=by
 unfold Builtin.List.listLengthHint;refine wB (ĸ d PySem.F.slot_set_len.lookup ?_);generalize c:("set.__len__":String)=id0
 wp_delta
 rw[show splitId id0=some ("set","__len__")from by subst c;decide+kernel];subst c;refine wB (ń (T:="set") (b:=true) d (by rw[isSubtype_type];kernel_rfl) ?_);refine wpAny_ite_split (λa=>absurd a ↑4) (λ_=>?_);refine wpAny_ite_split (λ_=>?_) (λa=>absurd (by decide+kernel) a);refine wB (ħ d ?_);exact wP h
def Iz(h:ItemsOf P acc n)(b:l.length=n)(a: ∀i v,P i v->l[i]? =some v):acc.toList=l:=by
 refine Ŕ λi=>?_;by_cases hi:i<acc.size
 .have e:acc[i]? =some acc[i]:=ą hi;have:=a i _ (h.2 i _ e);rw[this,í,e]
 .have c:=h.1;rw[ē (by rw[ä];omega),ē (by omega)]
abbrev W9(prog:Program)(w:World)(A:Around)(r:Addr)(s:Shared)(S:Addr)(n:Nat)(G:Array Value->Prop):Prop:=
 ∀(E:VP)(Q:VP),(∀(h':Heap)(d':Drawn)(I:Addr)(fp c:B9)(P:Nat->ŗ->Prop)(St:Nat->Heap->Prop),Walks prog w A I fp c n P St->St 0 h'->S∉fp->(∀b∈c,↑1<=b)->(∀b o,s.heap.get? b=some o->h'.get? b=some o)->(∀a,ItemsOf P a n->G a)->Q (.ref I) {s with heap:=h',drawn:=d'})->wpAny (model prog w) A (pyIter (.ref r)) Q E s
end
section
noncomputable def WR{R:Result->Ŗ->Prop}(M:W9 prog w A.in1 r s S n G)(O:s.TypeIs (.ref r) "set")(K:S≠r)(res)(c₀)(U:s.heap.get? S=some {cls:=.type "list",data:=.seq #[] c₀})(X:n<=sizeLine)
  (hR: ∀h' J d' d y,(∀b o,b≠S->s.heap.get? b=some o->h'.get? b=some o)->h'.get? S=some {cls:=.type "list",dict:=none,data:=.seq d y,slots:=#[]}->G d->R (.ok (.ret res)) {s with heap:=h',toks:=J,drawn:=d'}):
  wpAny (model prog w) A.in1 (Builtin.List.listExtendWith (.ref S) (.ref r) res)
   (λfin q=>match fin with |.done f=>R (.ok f) q|.again y=>y.quiet=true/\codeAny (model prog w) A y R q) (λe q=>R (.error e) q) s:=by
 unfold Builtin.List.listExtendWith;refine wB (ħ (T:="set") O ?_);have Z:Builtin.List.listSameRef (.ref S) (.ref r)=false:=by simp[Builtin.List.listSameRef,K]
 have h2:(Value.type "set"==Value.type "list")=false:=by decide
 have Y:(Value.type "set"==Value.type "tuple")=false:=by decide
 simp only[Z,h2,Y,Bool.or_false,fT0,iF];refine wB (M _ _ λE j I fp wr P St W st z N c hG=>?_)
 have C: ∀(h:Heap)(m J:Nat),St 0 h->(∀b o,b≠S->s.heap.get? b=some o->h.get? b=some o)->
   h.get? S=some {cls:=.type "list",data:=.seq #[] m}->codeAny (model prog w) A (.builtin "list.extend.loop" ⟨[.ref S,.ref I,res],[]⟩) R {s with heap:=h,toks:=J,drawn:=j}:=by
  intro h m J L hk a;refine codeAny_extend_loopS W.toS X S z res n 0 _ #[] m rfl (zero_le _) L a (ItemsOf.nil _) λq d y Q H D=>?_;rw[Moved.eq_with Q];refine hR q.heap q.toks j d y (λb o v e=>Q.heap b o (λk=>?_) (hk b o v e)) H (hG _ D);rcases mC.mp k with e'|k
  .exact v e'
  .exact absurd (â e) (Nat.not_lt.mpr (N b k))
 have a:=c S _ U;have p:Shared.TypeIs {s with heap:=E,drawn:=j} (.ref r) "set":=by obtain⟨o,ho,hc⟩:=O;exact⟨o,c r o ho,hc⟩
 refine wB (Ă (Iy p ?_));refine wpAny_ite_split (λ_=>?_) (λ_=>wP ⟨Ĩ PySem.F.plain_extend_loop _,C _ c₀ _ st (λb o _ e=>c b o e) a⟩);refine wB (ı ?_);refine wB ?_;show wpAny _ _ (updateSeq S (·.push .none) >>= λ_=>updateSeq S (·.pop)) _ _ _;refine wB (wpAny_updateSeq a rfl ?_);have i:=ø (Obj.mapSeq (·.push Value.none)) a rfl;refine wpAny_updateSeq (hz:=by seq_fits) i rfl ?_;have u:=ø (Obj.mapSeq (·.pop)) i rfl;refine wP ⟨Ĩ PySem.F.plain_extend_loop _,C _ _ _ ?_ (λb o v e=>?_) u⟩
 .refine W.frame 0 _ _ st λb v o e=>?_;have B:b≠S:=λh=>z (h▸v);exact(õ _ _ (Ne.symm B)).trans ((õ _ _ (Ne.symm B)).trans e)
 .exact(õ _ _ (Ne.symm v)).trans ((õ _ _ (Ne.symm v)).trans (c b o e))
end
end M
end L2
namespace L2
open PySem PySem.Spec PyProof.Rows
def Inv.unD(I:Inv X pins σ H s)(u:Un X.fs [] H H' s.heap h')(d:HOk X.prog X.w H' h'):Inv X pins σ H' {s with heap:=h',toks:=t',drawn:=d'}:=by obtain⟨m,⟨o,es,v,j,r⟩,_⟩:=id I.loc;obtain⟨sl,k⟩:=u.any j I.free (by simp);exact I.step (g':=s.gens) (d':=d') (ch:=[]) (λ_ z=>nomatch z) (λb o _ i _ e n=>u.keep b o e n i (by simp)) (λb o _ i _ e n=>u.slot b o e n i (by simp)) (λb o _ e n=>u.free b o e n (by simp)) (λb o _ e=>u.there b o e (by simp)) u.tups u.frzs u.tbls (λm q=>by obtain⟨y,h,c,a,p⟩:=q;rw[j]at a;cases a;exact⟨_,h,c,k,p⟩) d I.bare
def Inv.keptD(I:↑2)(k: ∀b u,s.heap.get? b=some u->h'.get? b=some u):Inv X pins σ H {s with heap:=h',toks:=t',drawn:=d'}:=I.unD (Un.kept k) (I.hok.kept k)
end L2
namespace L2
namespace M
open PySem PySem.Spec PyProof.Rows
section
variable{C:Addr}
def DenF.len{K:Q0}: ∀{fs gs},DenF K α H fs gs->gs.length=fs.length:=λa=>by
 induction a with
 |nil=>exact rfl
 |cons b l ih=>exact by rw[lC,lC,ih]
def RMt(P:Ř)(w:World)(K:Q0)(mg:L0)(base:Heap)(m:Str)(k n:Nat)(c:Str)(F:List MV->Sto->R Er):Prop:= ∃C b a ps,OC K c C/\Meth K C m b/\FnOk P w K mg base sF k b a ps (KM ⟨K,mg,P,w⟩ n F)/\Binds K a ps []
end
def KX(l:Bool)(K:Q0)(α:B9)(H:Hp)(d:MV)(v:V):Prop:=if l=true then∃es a b,d=.tup es/\v=.ref a/\H a=some (.lst b)/\a∉α/\DenL K α H es b else Den K α H d v
inductive KXL(l:Bool)(K:Q0)(α:B9)(H:Hp):List MV->List V->Prop
 |nil:KXL l K α H [] []
 |cons {d v ds vs}:KX l K α H d v->KXL l K α H ds vs->KXL l K α H (d::ds) (v::vs)
section
variable{K:Q0}
def KXL.length: ∀{ds}{vs},KXL l K α H ds vs->vs.length=ds.length:=λa=>by
 induction a with
 |nil=>exact rfl
 |cons h t ih=>exact by rw[lC,lC,ih]
theorem KXL.at: ∀{ds}{vs}{i:Nat}{d},KXL l K α H ds vs->ds[i]? =some d-> ∃v,vs[i]? =some v/\KX l K α H d v
 |_,_,0,_,.cons h t,e=>by cases e;exact⟨_,rfl,h⟩
 |_,_,i+1,_,.cons h t,e=>KXL.at (i:=i) t e
end
open Classical in
def KAt(d:Addr)(a:A0)(b:Nat)(h:Heap):Prop:= ∃o es,h.get? d=some o/\o.ExactDict/\o.data=.dict es b/\es.toList.map (·.key)=a
def KAt.at(x:KAt d us ep h)(m: ∀o,h.get? d=some o->h'.get? d=some o):KAt d us ep h':=let ⟨o,es,a,r⟩:=x;⟨o,es,m o a,r⟩
theorem KAt.size(x:KAt d us ep h): ∃o es,h.get? d=some o/\o.ExactDict/\o.data=.dict es ep/\es.size=us.length/\ ∀i (hi:i<es.size),us[i]? =some es[i].key:=by obtain⟨o,es,c,b,a,e⟩:=x;refine⟨o,es,c,b,a,by rw[<-e,lM,ä],λi hi=>?_⟩;rw[<-e,ì,í,ą hi];rfl
mutual
def KO:Expr->List Str
 |.Name x _=>[x]
 |.Tuple es _ _=>X1 es
 |_=>[]
def X1:List Expr->List Str
 |[]=>[]
 |e::es=>KO e++X1 es
end
section
variable{pos:Pos}
noncomputable abbrev gnN(T:K0)(N:K0)(a:Db):List Str:=[]++T++a.map λi=>(N[i]?).getD Str.empty
def Ja(a:FnScope N ps osc)
  (hi:VZ X W tg iter itf) (hg: ∀C d j fp,(gnN (KO tg) N idx).Nodup->Gx (KO tg).length (zN X sc (KO tg) idx C d j fp) W0 tg gf)
  (hc: ∀C d j fp,ON (zN X sc (KO tg) idx C d j fp) W0 ifs cf) (he: ∀C d j fp,zT (zN X sc (KO tg) idx C d j fp) W0 elt ef)
  (hcalm:X.calm=true:=by rfl) (e1:X.env.scope=osc:=by rfl) (e2:X.N=N:=by rfl) (hB:sH osc N sc idx=true:=by decide+kernel) (hN:(gnN (KO tg) N idx).Nodup:=by decide+kernel)
  (hs: ∀y,foldedSetIterable iter X.env y=pure y:=by intro _;rfl):
  zT X W (.ListComp elt [⟨tg,iter,ifs,0⟩] sc pos) (λm S=>(itf m S).bind λk q=>if k.ds.length<1000000 then(yD gf cf ef (CF (KO tg).length idx m) k.gs k.ds q).bind λout S2=>.ok (.new out) S2 else .no):=YO osc N _ idx hi hcalm hg hc he e1 e2 hB hN hs
def Jb{x:Str}{a b:Pos}{i:Nat}(c:FnScope N ps osc)
  (hi:VZ X W tg iter itf) (hg: ∀C d j fp,(gnN (KO tg) N idx).Nodup->Gx (KO tg).length (zN X sc (KO tg) idx C d j fp) W0 tg gf)
  (hc: ∀C d j fp,ON (zN X sc (KO tg) idx C d j fp) W0 ifs cf) (he: ∀C d j fp,zT (zN X sc (KO tg) idx C d j fp) W0 elt ef)
  (hcalm:X.calm=true:=by rfl) (e1:X.env.scope=osc:=by rfl) (e2:X.N=N:=by rfl) (hB:sH osc N sc idx=true:=by decide+kernel) (hN:(gnN (KO tg) N idx).Nodup:=by decide+kernel)
  (hs: ∀y,foldedSetIterable iter X.env y=pure y:=by intro _;rfl)
  (hi2:X.N[i]? =some x:=by rfl) (hx:Loc X.env.scope x:=by first |exact Or.inl rfl|exact Or.inr rfl)
  (hsw:swapsWith (.ListComp elt [⟨tg,iter,ifs,0⟩] sc pos) (some (.Name x a)) b.line X.env=pure true:=by with_unfolding_all rfl) (hf:z0 X x:=by first |exact .inl rfl|exact .inr rfl|assumption):
  OL X W (.Assign [.Name x a] (.ListComp elt [⟨tg,iter,ifs,0⟩] sc pos) b) (λm S=>((itf m S).bind λk q=>if k.ds.length<1000000 then(yD gf cf ef (CF (KO tg).length idx m) k.gs k.ds q).bind λout S2=>.ok (.new out) S2 else .no).bind (HC m i)):=Nn i (by rw[e2];exact c.nd) osc N _ idx hi hcalm hg hc he e1 e2 hB hN hs hi2 hx hsw hf
end
section
variable{K:Q0}{x:Str}{st:Stmt}
abbrev ScK(N ps:K0)(a:Scope):Prop:=N.Nodup/\N.take ps.length=ps/\(∀x∈ps,a.names.lookup x=some .local\/a.names.lookup x=some .cell)/\ ∀y∈a.names,y.2≠.free
def okL(Fb)(F:Fun K x qual st f fd)
  (h: ∀ j  A  d  s  H  E ,N.Nodup->FnScope N ps (zK st)->Room k (A.deeper (envOfC qual (zK st) ↑1 f j))->vU (NP sF P w K mg base N qual (zK st) f j A d s H E).nox W0 (yT st) Fb)
  (h4:ScK N ps (zK st):=by decide+kernel) (a:(zK st).kind=.function:=by rfl) (b:(zK st).isCoroutine=false:=by rfl) (c:(zK st).isGenerator=false:=by rfl):
  FnOk P w K mg base sF (k+1) f fd ps (KM ⟨K,mg,P,w⟩ ps.length λds S=>zU (Fb (zF N ds) S)):=
 have e:=⟨a,b,c,h4.1,h4.2.1,h4.2.2.1,h4.2.2.2⟩
 okM Fb F e λj A d s H E i=>h j A d s H E e.nd e i
def C6:Nat->(List ŗ->Prop)->Prop
 |0,p=>p []
 |n+1,p=> ∀a,C6 n λl=>p (a::l)
theorem X2: ∀ d {p},C6 d.length p->p d
 |[],_,h=>h
 |a::l,_,h=>X2 l (h a)
def forN(h:C6 n p)(us)(e:us.length=n):p us:=X2 us (e▸h)
def okA(Fb)(D:DefM K mg x st)
  (h: ∀ f  j  A  d  s  H  E ,N.Nodup->FnScope N ps (zK st)->Room k (A.deeper (envOfC x (zK st) ↑1 f j))->vU (NP sF P w K mg base N x (zK st) f j A d s H E).nox W0 (yT st) Fb)
  (hb:Il x st ps:=by exact λ_ _ _ _ _ _=>forN (by(repeat intro _);rfl))
  (h4:ScK N ps (zK st):=by decide+kernel) (a:(zK st).kind=.function:=by rfl) (b:(zK st).isCoroutine=false:=by rfl) (c:(zK st).isGenerator=false:=by rfl):
  Ik P w K mg base x (k+1) ps.length ps λds S=>zU (Fb (zF N ds) S):=
 (let ⟨f,i,m,e⟩:=D.ex;⟨f,i,(λf _ F=>okL Fb F (h f) h4 a b c) f i e,m,e.kp,e.binds hb⟩)
end
section
variable{pos:Pos}
def Jc(a:FnScope N ps osc)
  (hi:VZ (zN X0 sc0 T0 idx0 C0 s0 H0 fp0) W tg iter itf) (hg: ∀C d j fp,(gnN (KO tg) (gnN T0 N idx0) idx).Nodup->Gx (KO tg).length (zN (zN X0 sc0 T0 idx0 C0 s0 H0 fp0) sc (KO tg) idx C d j fp) W0 tg gf)
  (hc: ∀C d j fp,ON (zN (zN X0 sc0 T0 idx0 C0 s0 H0 fp0) sc (KO tg) idx C d j fp) W0 ifs cf) (he: ∀C d j fp,zT (zN (zN X0 sc0 T0 idx0 C0 s0 H0 fp0) sc (KO tg) idx C d j fp) W0 elt ef)
  (hcalm:X0.calm=true:=by rfl) (e1:X0.env.scope=osc:=by rfl) (e2:X0.N=N:=by rfl) (hB:sH (rlS sc0 osc) (gnN T0 N idx0) sc idx=true:=by decide+kernel) (hN:(gnN (KO tg) (gnN T0 N idx0) idx).Nodup:=by decide+kernel)
  (hs: ∀y,foldedSetIterable iter (zN X0 sc0 T0 idx0 C0 s0 H0 fp0).env y=pure y:=by intro _;rfl):
  zT (zN X0 sc0 T0 idx0 C0 s0 H0 fp0) W (.ListComp elt [⟨tg,iter,ifs,0⟩] sc pos) (λm S=>(itf m S).bind λk q=>if k.ds.length<1000000 then(yD gf cf ef (CF (KO tg).length idx m) k.gs k.ds q).bind λout S2=>.ok (.new out) S2 else .no):=by
 subst e1 e2;exact YO _ _ _ idx hi hcalm hg hc he rfl rfl hB hN hs
end
def RMtX(P:Ř)(w:World)(K:Q0)(mg:L0)(base:Heap)(m:Str)(k n:Nat)(c:Str)(F:List MV->Sto->R Er):Prop:= ∃C b a ps,OC K c C/\Meth K C m b/\FnOk P w K mg base (CXe P w) k b a ps (zAC ⟨K,mg,P,w⟩ n F)/\Binds K a ps []
def RMtX.noX{K:Q0}(T:RMtX P w K mg base m k n c F):RMt P w K mg base m k n c F:=let ⟨C,d,a,ps,h,e,G,b⟩:=T;⟨C,d,a,ps,h,e,G.noX,b⟩
end M
end L2
namespace L2
namespace M
open PySem PySem.Spec PyProof.Rows
noncomputable def WS:Nat->Nat->Nat
 |0,x=>x
 |n+1,x=>WS n (5 * x+1)
theorem PK: ∀ m n x ,WS (m+n) x=WS n (WS m x)
 |0,n,x=>by rw[ď];rfl
 |m+1,n,x=>by rw[succ_add];exact PK m n _
theorem ZZ: ∀k, ∃c d, ∀x,WS (2 ^ k) x=(1+2 ^ k * (4 * c)) * x+2 ^ k * (1+2 * d)
 |0=>⟨1,0,λx=>by show 5 * x+1=_;lia⟩
 |k+1=>by
  obtain⟨c,d,h⟩:=ZZ k;refine⟨c+2 ^ k * (2 * c * c),d+2 ^ k * c * (1+2 * d),λx=>?_⟩;rw[pow_succ,Nat.mul_two,PK]
  grind
theorem Aa(m): ∀n x y:Nat,x % m=y % m->WS n x % m=WS n y % m
 |0,x,y,h=>h
 |n+1,x,y,h=>Aa m n _ _ (by rw[Nat.add_mod,Nat.mul_mod,h, <-Nat.mul_mod, <-Nat.add_mod])
theorem Ab: ∀ k x y ,y<2 ^ k-> ∃l,l<2 ^ k/\WS l x % 2 ^ k=y
 |0,x,y,h=>⟨0,by simp,by simp at h;subst h;simp[Nat.mod_one]⟩
 |k+1,x,y,h=>by
  obtain⟨l,u,e⟩:=Ab k x _ (mod_lt _ (Nat.two_pow_pos k));obtain⟨c,d,m⟩:=ZZ k;have j:2 ^ _=2 ^ k * 2:=pow_succ ..;have a:=Nat.two_pow_pos k;rw[j]at h ⊢;have b:y=y % 2 ^ k+2 ^ k * (y / 2 ^ k % 2):=by rw[<-Nat.mod_mul];exact(Nat.mod_eq_of_lt h).symm
  have i: ∀z,z % (2 ^ k * 2)=z % 2 ^ k+2 ^ k * _:=λz=>Nat.mod_mul;by_cases q:WS l x / 2 ^ k % 2=y / 2 ^ k % 2
  .exact⟨l,by lia,by rw[i,e,q];exact b.symm⟩
  .refine⟨l+2 ^ k,by lia,?_⟩;rw[PK,m]
   have n:(1+2 ^ k * (4 * c)) * WS l x+2 ^ k * (1+2 * d)=WS l x+2 ^ k+2 ^ k * 2 * (2 * c * WS l x+d):=by
    grind
   rw[n,Nat.add_mul_mod_self_left,i,Nat.add_mod_right,Nat.add_div_right _ a,e];have:(WS l x / 2 ^ k+1) % 2=y / 2 ^ k % 2:=by lia
   rw[this];exact b.symm
theorem Ac(h):SetTable.bits h<2 ^ 64:=by
 unfold SetTable.bits;have:=eL h (show _<2 ^ 64 by decide)
 lia
noncomputable def lp(a:Nat):Nat->Nat×Nat->Nat×Nat
 |0,q=>q
 |n+1,q=>lp a n (SetTable.leap a q.1 q.2)
theorem Je(mask): ∀ m n (q),lp mask (m+n) q=lp mask n (lp mask m q)
 |0,n,q=>by rw[ď];rfl
 |m+1,n,q=>by rw[succ_add];exact Je mask m n _
theorem Ad(mask): ∀ m (q),(lp mask m q).2=q.2 / 32 ^ m
 |0,q=>by simp[lp]
 |m+1,q=>by show(lp mask m _).2=_;rw[Ad mask m];show q.2 / 32 / 32 ^ m=_;rw[Nat.div_div_eq_div_mul,pow_succ,Nat.mul_comm]
theorem Ae(mask): ∀ m i ,(lp mask m (i,0)).1 % (mask+1)=WS m i % (mask+1)
 |0,i=>rfl
 |m+1,i=>by show(lp mask m (_ % _,0 / 32)).1 % _=WS m _ % _;rw[Nat.zero_div,Ae mask m,Nat.mul_comm];exact Aa _ m _ _ (Nat.mod_mod _ _)
theorem Tu(mask): ∀ m  q ,q.1<mask+1->(lp mask m q).1<mask+1
 |0,q,h=>h
 |m+1,q,h=>Tu mask m _ (mod_lt _ (ň _))
theorem TC(b:mask+1=2 ^ e)(hi:i<mask+1)(h:p<2 ^ 64)(m:j<mask+1): ∃l,l<mask+14/\(lp mask l (i,p)).1=j:=by
 obtain⟨l,n,k⟩:=Ab e (lp mask 13 _).1 j #[0];have c:(lp mask 13 (i,p)).2=0:=by rw[Ad];exact Nat.div_eq_of_lt (ë h ↑4)
 have d:lp mask 13 (i,p)=((lp mask 13 (i,p)).1,0):=by rw[<-c]
 have a:=Ae mask l (lp mask 13 (i,p)).1;rw[<-d, <-Je,b,k, <-b,Nat.mod_eq_of_lt (Tu mask _ _ hi)]at a;exact⟨13+l,by lia,a⟩
noncomputable def ad(t:SetTable):Nat->SetTable.Probe->SetTable.Probe
 |0,p=>p
 |n+1,p=>ad t n (t.advance p)
theorem DI(t): ∀ m n (p),ad t (m+n) p=ad t n (ad t m p)
 |0,n,p=>by rw[ď];rfl
 |m+1,n,p=>by rw[succ_add];exact DI t m n _
noncomputable abbrev sU(t:SetTable)(q:Nat×Nat):SetTable.Probe:=⟨q.1,SetTable.runEnd t.mask q.1 - q.1,q.1,q.2,none⟩
theorem WT(t)(i pt): ∀ m j ,ad t m ⟨j,m,i,pt,none⟩=⟨j+m,0,i,pt,none⟩
 |0,j=>rfl
 |m+1,j=>by show ad t m _=_;unfold SetTable.advance;refine(WT t i pt m _).trans ?_;rw[Ń,add_comm 1 m]
theorem Tv(t): ∀ l  q , ∃c,c<=10 * l/\ad t c (sU t q)=sU t (lp t.mask l q)
 |0,q=>⟨0,by lia,rfl⟩
 |l+1,q=>by obtain⟨c,j,e⟩:=(show ∃c,c<=10/\ad t c (sU t q)=sU t (SetTable.leap t.mask q.1 q.2) by refine⟨SetTable.runEnd t.mask q.1 - q.1+1,by unfold SetTable.runEnd;split<;>lia,?_⟩;rw[DI,WT];rfl);obtain⟨d,a,f⟩:=Tv t l _;exact⟨c+d,by lia,by rw[DI,e,f];rfl⟩
theorem IK(t): ∀ n  p ,p.dummy=none->(ad t n p).dummy=none
 |0,p,h=>h
 |n+1,p,h=>IK t n _ (by unfold SetTable.advance;split<;>exact h)
def Fc(xs:Array Nat):Prop:= ∀i j (a:j<xs.size) (hi:i<j),xs[i]<xs[j]
theorem IL(a:Fc xs)(j): ∀ f lo hi ,hi - lo<=f->lo<=hi->hi<=xs.size->(∀i  h ,i<lo->xs[i]<j)->(∀i  h ,hi<=i->j<=xs[i])->
  (SetTable.below.go xs j f lo hi<=xs.size/\(∀i  h ,i<SetTable.below.go xs j f lo hi->xs[i]<j)/\ ∀i  h ,SetTable.below.go xs j f lo hi<=i->j<=xs[i])
 |0,lo,hi,h1,h2,h3,h4,h5=>by
  have:lo=hi:=by lia
  subst this;exact⟨h3,h4,h5⟩
 |f+1,lo,hi,h1,h2,h3,h4,h5=>by
  unfold SetTable.below.go;by_cases c:lo<hi
  .rw[iP c];dsimp only;have e:(lo+hi) / 2<xs.size:=by lia
   rw[show xs.getD _ j=xs[_ / 2] by simp[e]];by_cases d:xs[_ / 2]<j
   .rw[iP d];refine IL a j f _ _ #[0] #[0] h3 (λi h b=>?_) h5;by_cases g:i=(lo+hi) / 2
    .subst g;exact d
    .exact lt_trans (a i _ e #[0]) d
   .rw[iN d];refine IL a j f _ _ #[0] #[0] #[0] h4 (λi h b=>?_);by_cases g:i=(lo+hi) / 2
    .subst g;lia
    .exact ï (le_of_not_lt d) (le_of_lt (a _ i h #[0]))
  .rw[iN c];have:lo=hi:=by lia
   subst this;exact⟨h3,h4,h5⟩
theorem AS(a:Fc xs)(j):SetTable.below xs j<=xs.size/\(∀i  h ,i<SetTable.below xs j->xs[i]<j)/\ ∀i  h ,SetTable.below xs j<=i->j<=xs[i]:=
 IL a j xs.size 0 xs.size #[0] (zero_le _) (à _) (λi h z=>absurd z (not_lt_zero _)) (λi h z=>by lia)
theorem Jg(d:Fc xs)(hq):SetTable.below xs xs[q]=q:=by
 obtain⟨a,b,c⟩:=AS d xs[q];generalize SetTable.below xs xs[q]=z at *;rcases Nat.lt_trichotomy z q with h|h|h
 .have:=c z #[0] (à _);have:=d z q hq h
  lia
 .exact h
 .exact absurd (b q hq h) (ğ _)
theorem WU(d:Fc xs)(hq):SetTable.below xs (xs[q]+1)=q+1:=by
 obtain⟨a,b,c⟩:=AS d _;generalize SetTable.below xs _=z at *;rcases Nat.lt_trichotomy z (q+1)with h|h|h
 .have:=c q hq #[0]
  lia
 .exact h
 .have i:=b _ #[0] h;have e:=d q (q+1) #[0] (ć q)
  lia
def MW{t:SetTable}(a:Fc t.place)(hq):t.slot t.place[q]=.live q:=by unfold SetTable.slot;dsimp only;rw[Jg a hq,ą hq,iP (beq_self_eq_true _)]
def WV{t:SetTable}(b:t.dummies=#[])(a:j∉t.place):t.slot j=.empty:=by unfold SetTable.slot;rw[iN,b,iN (by simp[SetTable.has])];intro z;exact a (Array.mem_of_getElem? (Ĥ.mp z))
def Du{t:SetTable}(h:t.slot j=.live i):t.place[i]? =some j:=by
 unfold SetTable.slot at h;dsimp only at h;split at h
 .rename_i c;cases h;exact Ĥ.mp c
 .split at h<;>cases h
theorem Jh: ∀ n (l:Db),(∀j,j<n->j∈l)->n<=l.length
 |0,l,h=>zero_le _
 |n+1,l,h=>by
  have d:=h n (ć n);have:=Jh n (l.erase n) λj a=>(List.mem_erase_of_ne #[0]).mpr (h j #[0]);rw[List.length_erase_of_mem d]at this;have:=List.length_pos_of_mem d
  lia
def Way(t:SetTable)(a:Nat->Prop)(h:Int)(j:Nat):Prop:= ∃n,(ad t n (t.probeStart h)).j=j/\ ∀m,m<n->a (ad t m (t.probeStart h)).j
theorem TD(o:Fc t.place)(q:t.dummies=#[])(ha)(h): ∀ f  p ,p.dummy=none->(∃n,n<f/\(ad t n p).j∉t.place)->
  ∃n,(∀m,m<n-> ∃i,t.place[i]? =some (ad t m p).j/\ha i≠h)/\(((ad t n p).j∉t.place/\SetTable.probe.go t ha h f p=some (.empty (ad t n p).j none))\/ ∃i,t.place[i]? =some (ad t n p).j/\ha i=h/\SetTable.probe.go t ha h f p=some (.candidate (ad t n p).j i (ad t (n+1) p)))
 |0,p,hp,⟨n,hn,_⟩=>absurd hn (not_lt_zero _)
 |f+1,p,hp,⟨n,hn,he⟩=>by
  by_cases c:p.j∈t.place
  .obtain⟨i,hi,e⟩:=Array.mem_iff_getElem.mp c;have hs:t.slot p.j=.live i:=by rw[<-e];exact MW o hi
   have a:=Du hs;unfold SetTable.probe.go;rw[hs];dsimp only;by_cases d:ha i=h
   .refine⟨0,λm b=>absurd b (not_lt_zero _),.inr ⟨i,a,d,?_⟩⟩;rw[iP (Ĥ.mpr d)];rfl
   .rw[iN (by simpa using d)];have r:n≠0:=by rintro rfl;exact he c
    obtain⟨v,rfl⟩:=Nat.exists_eq_succ_of_ne_zero r;obtain⟨k,u,s⟩:=TD o q ha h f _ (IK t 1 p hp) ⟨v,by lia,he⟩;refine⟨k+1,λm b=>?_,s⟩
    cases m with
    |zero=>exact⟨i,a,d⟩
    |succ m=>exact u m #[0]
  .refine⟨0,λm b=>absurd b (not_lt_zero _),.inl ⟨c,?_⟩⟩;unfold SetTable.probe.go;rw[WV q c,hp];rfl
end M
end L2
namespace L2
namespace M
open PySem PySem.Spec PyProof.Rows
theorem Ql(xs):Fc xs↔xs.toList.Pairwise (· <·):=by rw[Ł];exact⟨λh i j hi b a=>h i j (by simpa using b) a,λh i j b hi=>h i j (by simp;lia) (by simpa using b) hi⟩
def Ji{t t':SetTable}(h:t.mask=t'.mask)(p):t.advance p=t'.advance p:=by unfold SetTable.advance;rw[h]
theorem PL(h:t.mask=t'.mask): ∀ n  p ,ad t n p=ad t' n p
 |0,p=>rfl
 |n+1,p=>by show ad t n _=ad t' n _;rw[Ji h,PL h n]
def IM{t t':SetTable}(h:t.mask=t'.mask)(x):t.probeStart x=t'.probeStart x:=by unfold SetTable.probeStart;rw[h]
def Way.to{t t':SetTable}(h:t.mask=t'.mask){d c:Nat->Prop}(e: ∀j,d j->c j){x:Int}{j:Nat}(w:Way t d x j):Way t' c x j:=by obtain⟨n,a,b⟩:=w;refine⟨n,by rw[<-IM h, <-PL h];exact a,λm i=>?_⟩;rw[<-IM h, <-PL h];exact e _ (b m i)
theorem Af(t)(i pt): ∀ m k j ,ad t m ⟨j,m+k,i,pt,none⟩=⟨j+m,k,i,pt,none⟩
 |0,k,j=>by rw[ď];rfl
 |m+1,k,j=>by show ad t m _=_;unfold SetTable.advance;rw[iP (show m+1+k>0 by lia),show m+1+k - 1=m+k by lia];refine(Af t i pt m k _).trans ?_;rw[Ń,add_comm 1 m]
theorem WW(h:i<=mask):i<=SetTable.runEnd mask i/\SetTable.runEnd mask i<=mask:=by unfold SetTable.runEnd;split<;>lia
theorem Tw(t): ∀ n  p ,p.j+p.more<=t.mask->(ad t n p).j+(ad t n p).more<=t.mask
 |0,p,h=>h
 |n+1,p,h=>Tw t n _ (by
  unfold SetTable.advance;split
  .show p.j+1+(p.more - 1)<=_;lia
  .have:=WW (i:=(SetTable.leap t.mask p.i p.perturb).1) (le_of_lt_succ (mod_lt _ (ň _)));show(SetTable.leap t.mask p.i p.perturb).1+(SetTable.runEnd t.mask (SetTable.leap t.mask p.i p.perturb).1 - (SetTable.leap t.mask p.i p.perturb).1)<=_
   lia)
theorem TF(t)(h)(n):(ad t n (t.probeStart h)).j<=t.mask:=by
 have:=WW (i:=SetTable.bits h % (t.mask+1)) (le_of_lt_succ (mod_lt _ (ň _)));have:=Tw t n (t.probeStart h) (by show SetTable.bits h % _+(SetTable.runEnd t.mask _ - SetTable.bits h % _)<=_;omega)
 lia
theorem Ag(t)(ow): ∀ f i pt ,i<=t.mask->(∃l,l<f/\(ow.getD (lp t.mask l (i,pt)).1 (some 0)).isNone=true)->
  ∃n,SetTable.layClean.free t.mask ow f i pt=some (ad t n (sU t (i,pt))).j/\(ad t n (sU t (i,pt))).j<=t.mask/\(ow.getD (ad t n (sU t (i,pt))).j (some 0)).isNone=true/\ ∀m,m<n->(ow.getD (ad t m (sU t (i,pt))).j (some 0)).isSome=true
 |0,i,pt,hi,⟨l,hl,_⟩=>absurd hl (not_lt_zero _)
 |f+1,i,pt,hi,⟨l,hl,hz⟩=>by
  have B:=WW hi;have e: ∀k,k<=SetTable.runEnd t.mask i - i->(ad t k _).j=i+k:=λk q=>by show(ad t k ⟨i,SetTable.runEnd t.mask i - i,i,pt,none⟩).j=_;rw[show SetTable.runEnd t.mask i - i=k+(SetTable.runEnd t.mask i - i - k) by omega,Af]
  unfold SetTable.layClean.free;split
  .rename_i k q;obtain⟨y,u,w⟩:=List.find?_range_eq_some.mp q;have p:k<=SetTable.runEnd t.mask i - i:=by have:=ý.mp u;omega
   refine⟨k,by rw[e k p],by rw[e k p];omega,by rw[e k p];exact y,λm s=>?_⟩;rw[e m (by omega)];have:=w m s;simpa using this
  .rename_i q;have o:=List.find?_range_eq_none.mp q;have v:l≠0:=by rintro rfl;have:=o 0 (by omega);rw[Nat.add_zero]at this;have r:(ow.getD i _).isNone=true:=hz;rw[r]at this;exact absurd this ↑4
   obtain⟨z,rfl⟩:=Nat.exists_eq_succ_of_ne_zero v;obtain⟨n,a,b,c,d⟩:=Ag t ow f (SetTable.leap t.mask i pt).1 (SetTable.leap t.mask i pt).2 (le_of_lt_succ (mod_lt _ (ň _))) ⟨z,by omega,hz⟩;have h: ∀m,ad t (SetTable.runEnd t.mask i - i+1+m) (sU t (i,pt))=ad t m (sU t (SetTable.leap t.mask i pt)):=λm=>by rw[DI,DI,WT];rfl
   refine⟨SetTable.runEnd t.mask i - i+1+n,by rw[h];exact a,by rw[h];exact b,by rw[h];exact c,λm s=>?_⟩;by_cases g:m<=SetTable.runEnd t.mask i - i
   .rw[e m g];have:=o m (by omega);simpa using this
   .rw[show m=SetTable.runEnd t.mask i - i+1+(m - (SetTable.runEnd t.mask i - i+1)) by omega,h];exact d _ (by omega)
theorem Jj{k:Nat}(n:f j=none)(m:g j=some k)(hs: ∀i,i≠j->g i=f i): ∀(l:Db),l.Nodup->(j∈l->(l.filterMap g).Perm (k::l.filterMap f))/\(j∉l->l.filterMap g=l.filterMap f)
 |[],_=>⟨λh=>absurd h (by simp),λ_=>rfl⟩
 |i::l,hn=>by
  obtain⟨u,q⟩:=nodup_cons.mp hn;obtain⟨a,b⟩:=Jj n m hs l q;by_cases c:i=j
  .subst c;refine⟨λ_=>?_,λz=>absurd (mF0 ..) z⟩;rw[Ě,Ě,m,n,b u]
  .refine⟨λz=>?_,λz=>?_⟩
   .have d:=(mC.mp z).resolve_left (λe=>c e.symm);rw[Ě,Ě,hs i c]
    cases f i with
    |none=>exact a d
    |some v=>exact((a d).cons v).trans (.swap ..)
   .rw[Ě,Ě,hs i c,b λy=>z (mO _ y)]
theorem Jk{f:Nat->Option Nat}: ∀(l:Db),(∀j∈l,(f j).isSome=true)->(l.filterMap f).length=l.length
 |[],_=>rfl
 |i::l,h=>by obtain⟨v,e⟩:=Ĉ.mp (h i (mF0 ..));rw[Ě,e];exact congrArg (· +1) (Jk l λj a=>h j (mO _ a))
structure Lay(t:SetTable)(hs:Za)(ow:Array (Option Nat))(k:Nat):Prop where
 sz:ow.size=t.mask+1
 wy: ∀j v,ow.getD j none=some v-> ∃h,hs[v]? =some h/\Way t (λi=>(ow.getD i none).isSome=true) h j
 pm:((List.range (t.mask+1)).filterMap λj=>ow.getD j none).Perm (List.range k)
def getD_in{a:Array (Option Nat)}(h)(d):a.getD j d=a[j]:=by simp[h]
theorem Jl(E:t.mask+1=2 ^ e)(K:k<=t.mask)(D:hs[k]? =some h)(L:Lay t hs ow k):
  ∃j,SetTable.layClean.free t.mask ow (SetTable.turns t.mask) (SetTable.bits h % (t.mask+1)) (SetTable.bits h)=some j/\Lay t hs (ow.setIfInBounds j (some k)) (k+1):=by
 obtain⟨I,s,C⟩: ∃j,j<t.mask+1/\ow.getD j none=none:=by
  by_cases c: ∃j,j<t.mask+1/\ow.getD j none=none
  .exact c
  .have:=Jk (f:=λj=>ow.getD j none) _ λj w=>by
    cases d:ow.getD j none with
    |some v=>rfl
    |none=>exact absurd ⟨j,ý.mp w,d⟩ c
   rw[L.pm.length_eq,î,î]at this
   lia
 obtain⟨l,M,f⟩:=TC E (mod_lt _ (ň _)) (Ac h) s;have r: ∀j,j<t.mask+1-> ∀d,ow.getD j d=ow.getD j none:=λj w d=>by rw[getD_in (L.sz▸w),getD_in (L.sz▸w)]
 obtain⟨n,a,b,c,d⟩:=Ag t ow (SetTable.turns t.mask) _ _ (le_of_lt_succ (mod_lt _ (ň _))) ⟨l,by unfold SetTable.turns;lia,by rw[f,r _ s,C];rfl⟩;have Pb: ∀j,(ow.getD j (some 0)).isSome=true->j<t.mask+1->(ow.getD j none).isSome=true:=λj x y=>by rw[<-r j y (some 0)];exact x
 refine⟨_,a,?_⟩;generalize hJ:(ad t n _).j=J at a b c;have A:ow.getD J none=none:=by rw[<-r J #[0] (some 0)];exact Option.isNone_iff_eq_none.mp c
 have B:J<ow.size:=by rw[L.sz];lia
 have o: ∀i,(ow.setIfInBounds J (some k)).getD i none=if i=J then some k else ow.getD i none:=λi=>by
  simp only[Array.getD_eq_getD_getElem?,Array.getElem?_setIfInBounds];by_cases q:i=J
  .subst q;simp[B]
  .rw[iN q,iN (λz=>q z.symm)]
 have p: ∀i,(ow.getD i none).isSome=true->((ow.setIfInBounds J (some k)).getD i none).isSome=true:=λi x=>by
  rw[o];split
  .rfl
  .exact x
 refine⟨by rw[Array.size_setIfInBounds,L.sz],λj v u=>?_,?_⟩
 .rw[o]at u;split at u
  .rename_i q;cases u;refine⟨h,D,n,hJ.trans q.symm,λm H=>p _ ?_⟩;exact Pb _ (d m H) (Nat.lt_succ_of_le (TF t h m))
  .obtain⟨h',G,F⟩:=L.wy j v u;exact⟨h',G,F.to rfl p⟩
 .refine((Jj (j:=J) (k:=k) A (by rw[o,iP rfl]) (λi hi=>by rw[o,iN hi]) _ nodup_range).1 (ý.mpr #[0])).trans ?_;refine(L.pm.cons k).trans ?_;rw[List.range_succ];exact(List.perm_append_singleton k (List.range k)).symm
end M
end L2
namespace L2
namespace M
open PySem PySem.Spec PyProof.Rows
abbrev En:=Nat×Int×Value
structure STI(t:SetTable)(L:List En):Prop where
 pl:t.place.toList=L.map (·.1)
 so:(L.map (·.1)).Pairwise (· <·)
 dm:t.dummies=#[]
 pw: ∃e,t.mask+1=2 ^ e
 od:t.mask % 2=1
 mx:t.mask<=8191
 wy: ∀q∈L,q.1<=t.mask/\Way t (· ∈L.map (·.1)) q.2.1 q.1
 fl:L.length * 5<t.mask * 3
section
def STI.ris(x:STI t L):Fc t.place:=(Ql _).mpr (x.pl▸x.so)
def STI.sz(x:STI t L):t.place.size=L.length:=by rw[<-ä,x.pl,lM]
theorem STI.fits(x:STI t L):t.fits L.length=true:=by have:=x.fl;simp only[SetTable.fits,SetTable.fill,x.sz,x.dm,aE,Ĥ];exact⟨trivial,by simp;lia⟩
def STI.mem(x:STI t L):j∈t.place↔j∈L.map (·.1):=by rw[<-Array.mem_toList_iff,x.pl]
def STI.at(x:STI t L){i:Nat}(h:t.place[i]? =some j): ∃q,L[i]? =some q/\q.1=j:=by rw[<-í,x.pl,ì]at h;exact Ĳ.mp h
theorem STI.free(x:STI t L)(h): ∃n,n<10 * SetTable.turns t.mask/\(ad t n (t.probeStart h)).j∉t.place:=by
 obtain⟨e,k⟩:=x.pw;by_cases c: ∀j,j<t.mask+1->j∈L.map (·.1)
 .have:=Jh _ _ c;have:=x.fl;rw[lM]at *
  lia
 .simp only[Classical.not_forall]at c;obtain⟨j,i,d⟩:=c;obtain⟨n,a,b⟩:=(show ∃n,n<10 * SetTable.turns t.mask/\(ad t n (t.probeStart h)).j=j by obtain⟨l,m,f⟩:=TC k (mod_lt _ (ň _)) (Ac h) i;obtain⟨c,o,g⟩:=Tv t l _;exact⟨c,by unfold SetTable.turns;lia,by rw[show t.probeStart h=sU t (SetTable.bits h % _,SetTable.bits h)from rfl,g];exact f⟩);exact⟨n,a,by rw[b,x.mem];exact d⟩
theorem WX(x:STI t L)(w:SetTable.probe t ha h (ad t n (t.probeStart h))=P)(p: ∀i q,L[i]? =some q->ha i=q.2.1)(C: ∀m,m<n->(ad t m (t.probeStart h)).j∈L.map (·.1)):
  ∃d,n<=d/\d<10 * SetTable.turns t.mask/\(∀m,n<=m->m<d-> ∃q∈L,q.1=(ad t m (t.probeStart h)).j/\q.2.1≠h)/\
   (((ad t d (t.probeStart h)).j∉L.map (·.1)/\P=some (.empty (ad t d (t.probeStart h)).j none))\/
    ∃i q,L[i]? =some q/\q.1=(ad t d (t.probeStart h)).j/\q.2.1=h/\P=some (.candidate q.1 i (ad t (d+1) (t.probeStart h)))):=by
 obtain⟨N,D,s⟩:=x.free h;have B:=le_of_not_lt λz=>s (x.mem.mpr (C N z));have c: ∀m,ad t m _=ad t _ (t.probeStart h):=λm=>(DI t n m _).symm;obtain⟨k,v,u⟩:=TD x.ris x.dm ha h (10 * SetTable.turns t.mask) _ (IK t n _ rfl) ⟨N - n,by omega,by rw[c,show n+_=N by omega];exact s⟩;have y:=le_of_not_lt λz=>by obtain⟨i,hi,_⟩:=v (N - n) (by omega);rw[c,show n+_=N by lia]at hi;exact s (Array.mem_of_getElem? hi)
 refine⟨n+k,by lia,by omega,λm E A=>?_,?_⟩
 .obtain⟨i,hi,r⟩:=v (m - n) (by omega);rw[c,show n+_=m by lia]at hi;obtain⟨q,o,e⟩:=x.at hi;exact⟨q,á o,e,by rw[<-p i q o];exact r⟩
 .rw[c,c]at u;rcases u with⟨a,b⟩|⟨i,hi,r,b⟩
  .exact .inl ⟨λz=>a (x.mem.mpr z),w.symm.trans b⟩
  .obtain⟨q,o,e⟩:=x.at hi;exact .inr ⟨i,q,o,e,by rw[<-p i q o];exact r,by rw[e];exact w.symm.trans b⟩
theorem STI.put(x:STI t L)(E:j<=t.mask)(w:j∉L.map (·.1))(hw:Way t (· ∈L.map (·.1)) h j):
  ∃p,(t.put j).2=p/\(t.put j).1={t with place:=SetTable.insertAt t.place p j}/\p<=L.length/\
   (SetTable.insertAt t.place p j).toList=(L.take p++(j,h,v)::L.drop p).map (·.1)/\((L.take p++(j,h,v)::L.drop p).map (·.1)).Pairwise (· <·)/\
   ∀q∈L.take p++(j,h,v)::L.drop p,q.1<=t.mask/\Way t (· ∈(L.take p++(j,h,v)::L.drop p).map (·.1)) q.2.1 q.1:=by
 obtain⟨B,D,A⟩:=AS x.ris j;have d:t.put j=({t with place:=SetTable.insertAt t.place (SetTable.below t.place j) j},SetTable.below t.place j):=by unfold SetTable.put;rw[show SetTable.has t.dummies j=false by rw[x.dm];rfl];rfl
 have sub: ∀i,i∈L.map (·.1)->i∈(L.take (SetTable.below t.place j)++(j,h,v)::L.drop (SetTable.below t.place j)).map (·.1):=λi hi=>by obtain⟨q,n,e⟩:=mM.mp hi;rw[<-İ (SetTable.below t.place j) L]at n;exact mM.mpr ⟨q,by rcases é.mp n with z|z<;>simp[z],e⟩
 refine⟨SetTable.below t.place j,by rw[d],by rw[d],by rw[<-x.sz];exact B,?_,?_,λq n=>?_⟩
 .rw[SetTable.toList_insertAt,x.pl];simp
 .rw[đ,ê,ç,ĭ,map_take,map_drop];have c: ∀i y,(L.map (·.1))[i]? =some y-> ∃hi:i<t.place.size,t.place[i]=y:=λi y e=>by rw[<-x.pl,í]at e;exact Array.getElem?_eq_some_iff.mp e
  have m: ∀y,y∈(L.map (·.1)).take _->y<j:=λy o=>by
   obtain⟨i,hi⟩:=ĝ o;rw[List.getElem?_take]at hi;split at hi
   .obtain⟨hs,rfl⟩:=c i y hi;exact D i hs (by assumption)
   .cases hi
  have k: ∀y,y∈(L.map (·.1)).drop (SetTable.below t.place j)->j<y:=λy o=>by
   obtain⟨i,hi⟩:=ĝ o;rw[getElem?_drop]at hi;obtain⟨hs,e⟩:=c _ y hi;have:=A _ hs #[0];rw[e]at this;have C:j≠y:=by rintro rfl;exact w (á hi)
   lia
  refine⟨x.so.sublist (List.take_sublist ..),⟨k,x.so.sublist (List.drop_sublist ..)⟩,λa u b r=>?_⟩;rcases mC.mp r with rfl|r
  .exact m a u
  .exact lt_trans (m a u) (k b r)
 .have s:q∈L\/q=(j,h,v):=by
   rcases é.mp n with z|z
   .exact .inl (ī z)
   .rcases mC.mp z with z|z
    .exact .inr z
    .exact .inl (mem_of_mem_drop z)
  rcases s with z|rfl
  .exact⟨(x.wy q z).1,(x.wy q z).2.to rfl sub⟩
  .exact⟨E,hw.to rfl sub⟩
end
end M
end L2
namespace L2
namespace M
open PySem PySem.Spec PyProof.Rows
theorem TH: ∀ f n e ,n<8192->e<=13->n<2 ^ e * 2 ^ f-> ∃j,e<=j/\j<=13/\SetTable.sizeAbove.go n f (2 ^ e)=2 ^ j/\n<2 ^ j
 |0,n,e,h1,h2,h3=>⟨e,à _,h2,rfl,by simpa using h3⟩
 |f+1,n,e,h1,h2,h3=>by
  unfold SetTable.sizeAbove.go;by_cases c:2 ^ e<=n
  .rw[iP c];have m:e<13:=(Nat.pow_lt_pow_iff_right ↑4).mp (lt_of_le_of_lt c h1);obtain⟨j,a,b,d⟩:=TH f n _ h1 m (by rw[pow_succ,Nat.mul_assoc,Nat.mul_comm 2];exact h3);exact⟨j,by lia,b,d⟩
  .rw[iN c];exact⟨e,à _,h2,rfl,by lia⟩
theorem Jm(h:n<8192): ∃e,3<=e/\e<=13/\SetTable.sizeAbove n=2 ^ e/\n<2 ^ e:=TH 64 n 3 h ↑4 #[0]
theorem TJ(c:t.mask+1=2 ^ e)(n:hs.length<=t.mask+1)
  (hf: ∀d k h j,SetTable.layClean.free t.mask d (SetTable.turns t.mask) (SetTable.bits h % (t.mask+1)) (SetTable.bits h)=some j->f (some (d,k)) h=some (d.setIfInBounds j (some k),k+1)):
  ∀(rest:Za) k  d ,k+rest.length=hs.length->(∀i,rest[i]? =hs[k+i]?)->Lay t hs d k-> ∃m,rest.foldl f (some (d,k))=some (m,hs.length)/\Lay t hs m hs.length
 |[],k,d,h1,h2,l=>by
  have:=by simpa using h1
  subst this;exact⟨d,rfl,l⟩
 |h::rest,k,d,h1,h2,l=>by rw[lC]at h1;obtain⟨j,a,b⟩:=Jl c #[0] (by have:=h2 0;simpa using this.symm) l;rw[ĥ,hf _ _ _ _ a];exact TJ c n hf rest _ _ #[0] (λi=>by have:=h2 (i+1);rw[List.getElem?_cons_succ]at this;rw[this];congr 1;lia) b
theorem Qm(P:3<=e)(C:e<=13)(fi mo)(b)(es:L1)(hn:1<=es.size)(hw:es.size * 4<2 ^ e):
  ∃t or L,SetTable.laid (2 ^ e - 1) fi mo b true (es.map (·.1))=some (t,or)/\(or.filterMap (es[·]?)).toList=L.map (·.2)/\(L.map (·.2)).Perm es.toList/\STI t L/\t.led=b/\t.plain=true:=by
 have F:2 ^ e - 1+1=2 ^ e:=Nat.sub_add_cancel (Nat.one_le_two_pow);have h8:2 ^ 3<=2 ^ e:=Nat.pow_le_pow_right ↑4 P;have h9:2 ^ e<=2 ^ 13:=Nat.pow_le_pow_right ↑4 C;generalize hM:2 ^ e - 1=mask at F;let y:SetTable:={mask,place:=#[],dummies:=#[],finger:=fi,led:=b,moves:=mo,plain:=true}
 have s:(es.toList.map (·.1)).length=es.size:=by simp
 obtain⟨d,Q,A⟩:=TJ (t:=y) F (hs:=es.toList.map (·.1)) (by rw[s];show _<=mask+1;lia)
  (f:=λD h=>do
   let (owner,k) <-D;let j <-SetTable.layClean.free mask owner (SetTable.turns mask) (SetTable.bits h % (mask+1)) (SetTable.bits h)
   pure (owner.setIfInBounds j (some k),k+1)) (λd k h j I=>by show(Option.bind _ λj=>some (d.setIfInBounds j (some k),k+1))=_;rw[show SetTable.layClean.free mask d (SetTable.turns mask) (SetTable.bits h % (mask+1)) (SetTable.bits h)=some j from I];rfl) (es.toList.map (·.1)) 0 _ (by simp) (λi=>by rw[ď]) ((show Lay y _ (Array.replicate (y.mask+1) none) 0 by
     have M: ∀j,(Array.replicate (y.mask+1) (none:Option Nat)).getD j none=none:=λj=>by simp only[Array.getD_eq_getD_getElem?,Array.getElem?_replicate];split<;>rfl
     refine⟨by simp,λj v p=>(by rw[M]at p;cases p),?_⟩;rw[show(λj=>(Array.replicate _ _).getD j none)=λ_=>none from funext M];simp))
 have m:SetTable.layClean mask (es.map (·.1))=some d:=by unfold SetTable.layClean;rw[<-Array.foldl_toList,Array.toList_map];exact congrArg (Option.map (·.1)) Q
 rw[s]at A;have o: ∀j v,d.getD j none=some v-> ∃x,es[v]? =some x:=λj v p=>by obtain⟨h,u,_⟩:=A.wy j v p;rw[ì,í]at u;obtain⟨x,n,_⟩:=Ĳ.mp u;exact⟨x,n⟩
 let g:Nat->Option En:=λj=>(d.getD j none).bind λk=>(es[k]?).map λx=>(j,x)
 have B: ∀j,(g j).map (·.1)=((d.getD j none).map λk=>(j,k)).map (·.1)/\(g j).map (·.2)=(d.getD j none).bind (es[·]?)/\ ∀q,g j=some q->q.1=j/\ ∃k,d.getD j none=some k/\es[k]? =some q.2:=λj=>by
  show((d.getD j none).bind λk=>(es[k]?).map λx=>(j,x)).map (·.1)=_/\((d.getD j none).bind λk=>(es[k]?).map λx=>(j,x)).map (·.2)=_/\ ∀q,((d.getD j none).bind λk=>(es[k]?).map λx=>(j,x))=some q->_
  cases O:d.getD j none with
  |none=>exact⟨rfl,rfl,λq z=>nomatch z⟩
  |some v=>
   obtain⟨x,n⟩:=o j v O;refine⟨?_,?_,λq z=>?_⟩
   .show((es[v]?).map λx=>(j,x)).map (·.1)=_;rw[n];rfl
   .show((es[v]?).map λx=>(j,x)).map (·.2)=es[v]?;rw[n];rfl
   .have z:(es[v]?).map (λx=>(j,x))=some q:=z;rw[n]at z;cases z;exact⟨rfl,v,rfl,n⟩
 have Y:((List.range (mask+1)).filterMap λj=>(d.getD j none).map λk=>(j,k)).map (·.1)=((List.range (mask+1)).filterMap g).map (·.1):=by rw[Ľ,Ľ];exact congrArg (λf=>List.filterMap f _) (funext λj=>(B j).1.symm)
 have K:(((List.range (mask+1)).filterMap λj=>(d.getD j none).map λk=>(j,k)).map (·.2)).filterMap (es[·]?)=((List.range (mask+1)).filterMap g).map (·.2):=by rw[Ľ,Ľ,List.filterMap_filterMap];refine congrArg (λf=>List.filterMap f _) (funext λj=>?_);rw[(B j).2.1];cases d.getD j none<;>rfl
 have Z:((List.range (mask+1)).filterMap λj=>(d.getD j none).map λk=>(j,k)).map (·.2)=(List.range (mask+1)).filterMap λj=>d.getD j none:=by rw[Ľ];refine congrArg (λf=>List.filterMap f _) (funext λj=>?_);cases d.getD j none<;>rfl
 have N:(((List.range (mask+1)).filterMap g).map (·.2)).Perm es.toList:=by rw[<-K,Z];refine(A.pm.filterMap _).trans ?_;rw[filterMap_getElem?_range]
 have U:(((List.range (mask+1)).filterMap g).map (·.1)).Pairwise (· <·):=by rw[Ľ,List.pairwise_filterMap];refine Ň (λ{i j} _ _ J a ha c W=>?_) List.pairwise_lt_range;obtain⟨q,w,rfl⟩:=Ĳ.mp (Option.mem_def.mp ha);obtain⟨r,X,rfl⟩:=Ĳ.mp (Option.mem_def.mp W);rw[((B i).2.2 q w).1,((B j).2.2 r X).1];exact J
 have T:((List.range (mask+1)).filterMap g).length=es.size:=by rw[<-lM (f:=(·.2)),N.length_eq,ä]
 refine⟨{mask,place:=(((List.range (mask+1)).filterMap λj=>(d.getD j none).map λk=>(j,k)).map (·.1)).toArray,dummies:=#[],finger:=fi,led:=b,moves:=mo,plain:=true},(((List.range (mask+1)).filterMap λj=>(d.getD j none).map λk=>(j,k)).map (·.2)).toArray,(List.range (mask+1)).filterMap g,?_,?_,N,⟨Y,U,rfl,⟨e,F⟩,?_,?_,λq w=>?_,?_⟩,rfl,rfl⟩
 .unfold SetTable.laid;rw[m];rfl
 .rw[Array.toList_filterMap];exact K
 .have:2 ^ e=2 * 2 ^ (e - 1):=by rw[<-Nat.pow_succ'];congr 1;lia
  show mask % 2=1
  lia
 .show mask<=8191
  lia
 .obtain⟨j,I,w⟩:=mem_filterMap.mp w;obtain⟨a,k,S,n⟩:=(B j).2.2 q w;obtain⟨h,u,G⟩:=A.wy j k S;rw[ì,í,n]at u;cases u;refine⟨by rw[a];have:=ý.mp I;show j<=mask;lia,?_⟩;rw[a];refine @Way.to y _ ?_ _ _ (λi hi=>?_) _ _ G
  .rfl
  obtain⟨v,p⟩:=Ĉ.mp hi;obtain⟨x,E⟩:=o i v p
  have H:i<mask+1:=by
   have:=A.sz;by_cases c:i<d.size
   .rw[this]at c;exact c
   .simp[Array.getD,c]at p
  refine mM.mpr ⟨(i,x),mem_filterMap.mpr ⟨i,ý.mpr H,?_⟩,rfl⟩;show((d.getD i none).bind λk=>(es[k]?).map λx=>(i,x))=_;rw[p];show(es[v]?).map (λx=>(i,x))=_;rw[E];rfl
 .rw[T];show es.size * 5<mask * 3
  lia
end M
end L2
namespace L2
namespace M
open PySem PySem.Spec PyProof.Rows
section
variable{prog:Ř}{w:World}{KK:Type}[DecidableEq KK]{knd:HeapKind prog w KK}{A:Around}{E:VP}{s:Ŗ}{a:Addr}{k:KK}
def X3(knd:HeapKind prog w KK)(h:Heap)(q:En):Prop:= ∃k b,q.2.2=.ref b/\knd.is h k b/\q.2.1=knd.hash k
def Dv(knd:HeapKind prog w KK)(h:Heap)(k:KK)(q:En):Prop:= ∃b,q.2.2=.ref b/\knd.is h k b
structure Flat(knd:HeapKind prog w KK)(h:Heap):Prop where
 cls: ∀{k a},knd.is h k a-> ∀{A:Around}{E:VP}{s:Ŗ}{Q:Bool->Ŗ->Prop},s.heap=h->Q false s->wpAny (model prog w) A (ofAClassStatement 8 (.ref a)) Q E s
 val: ∀{k a},knd.is h k a-> ∀{A:Around}{E:VP}{s:Ŗ}{Q:Bool->Ŗ->Prop},s.heap=h->Q true s->wpAny (model prog w) A (hashByValue 8 (.ref a)) Q E s
def Qn(o:Flat knd s.heap)(n:knd.is s.heap k a){c:A0}(j: ∀v∈c, ∃k' b,v=.ref b/\knd.is s.heap k' b)(h:Q false s):wpAny (model prog w) A (searchCouldBeSeen (.ref a) c) Q E s:=by
 refine wB ?_;refine Į _ (λrest r i=>i=s/\r.1=none/\ ∀v∈rest, ∃k' b,v=.ref b/\knd.is s.heap k' b) _ ?_ ?_ _ _ ⟨rfl,rfl,j⟩
 .rintro x rest ⟨q,y⟩ i ⟨rfl,e,m⟩;obtain⟨k',b,rfl,p⟩:=m x mF0;have d:=λv u=>m v (mO _ u);dsimp only;split
  .exact wP ⟨rfl,rfl,d⟩
  .refine wB (knd.quiet n ?_);refine wB (knd.quiet p ?_);refine wB (o.cls n rfl ?_);refine wB (o.cls p rfl ?_);exact wP ⟨rfl,rfl,d⟩
 .rintro⟨q,y⟩ i ⟨rfl,e,_⟩;subst e;exact wP h
theorem ET(fl:Flat knd s.heap)(hu:knd.room A)(ho:s.heap.get? D=some o)(hd:o.data=.set es ep t)(M:es.toList=L.map (·.2))(G:STI t L)(hk:knd.is s.heap k a)(hL: ∀q∈L,X3 knd s.heap q)
  (h1:(∃q∈L,Dv knd s.heap k q)->Q (.there none) s)
  (h2: ∀j,j<=t.mask->j∉L.map (·.1)->Way t (· ∈L.map (·.1)) (knd.hash k) j->(∀q∈L, ¬Dv knd s.heap k q)->Q (.free j false) s):
  ∀ u n  z ,z.getD (t.probeStart (knd.hash k))=ad t n (t.probeStart (knd.hash k))->10 * SetTable.turns t.mask<n+u->(∀m,m<n-> ∃q∈L,q.1=(ad t m (t.probeStart (knd.hash k))).j/\ ¬Dv knd s.heap k q)->
   wpAny (model prog w) A (setSearchFrom D (.ref a) (knd.hash k) true u z) Q E s
 |0,n,z,e,hf,hb=>by exfalso;obtain⟨N,hN,hz⟩:=G.free (knd.hash k);obtain⟨q,d,I,_⟩:=hb N #[0];exact hz (G.mem.mpr (mM.mpr ⟨q,d,I⟩))
 |u+1,n,z,e,hf,hb=>by
  have af:es.size=L.length:=by rw[<-ä,M,lM]
  have W: ∀i (q:En),L[i]? =some q->es[i]? =some q.2:=λi q d=>by rw[<-í,M,ì,d];rfl
  have T:t.fits es.size=true:=by rw[af];exact G.fits
  unfold setSearchFrom;refine wB (Ą ho hd T ?_);dsimp only;rw[show t.gaveWay=false by unfold SetTable.gaveWay;rw[G.od];rfl];simp only[fT0,iF];rw[e];generalize hP:SetTable.probe t _ (knd.hash k) _=P;obtain⟨S,hn,ao,hm,hz⟩:=WX G hP (λi q d=>by show((es[i]?).map (·.1)).getD 0=_;rw[W i q d];rfl) (λm hm=>by obtain⟨q,d,I,_⟩:=hb m hm;exact mM.mpr ⟨q,d,I⟩)
  have H: ∀m,m<S-> ∃q∈L,q.1=(ad t m _).j/\ ¬Dv knd s.heap k q:=λm h=>by
   by_cases c:m<n
   .exact hb m c
   .obtain⟨q,d,I,O⟩:=hm m #[0] h;refine⟨q,d,I,λ⟨b,K,C⟩=>?_⟩;obtain⟨Y,b',p,B,eh⟩:=hL q d;rw[K]at p;cases p;rw[knd.inj C B]at O;exact O eh
  have aa: ∀q r:En,q∈L->r∈L->q.1=r.1->q=r:=λq r d hr I=>by
   obtain⟨i,hi⟩:=ĝ d;obtain⟨j,hj⟩:=ĝ hr;have a1:(L.map (·.1))[i]? =some q.1:=by rw[ì,hi];rfl
   have a2:(L.map (·.1))[j]? =some q.1:=by rw[ì,hj,I];rfl
   have:=(List.getElem?_inj (gS.mp a1).1 (G.so.imp λh=>è h)).mp (a1.trans a2.symm);subst this;rw[hi]at hj;exact ã hj
  rcases hz with⟨hfree,rfl⟩|⟨i,q,d,eq,ehash,rfl⟩
  .dsimp only;refine wP (h2 _ ?_ hfree ⟨S,rfl,λm h=>?_⟩ λq d ai=>?_)
   .exact TF t _ _
   .obtain⟨q,d,I,_⟩:=H m h;exact mM.mpr ⟨q,d,I⟩
   .obtain⟨b,K,C⟩:=ai;obtain⟨Y,b',p,B,eh⟩:=hL q d;rw[K]at p;cases p;have ae:=knd.inj B C;subst ae;obtain⟨_,nq,ej,U⟩:=G.wy q d;rw[eh]at ej U;rcases Nat.lt_trichotomy nq S with c|c|c
    .obtain⟨r,hr,I,O⟩:=H nq c;rw[aa q r d hr (ej.symm.trans I.symm)]at K;exact O ⟨b,K,C⟩
    .subst c;exact hfree (by rw[ej];exact mM.mpr ⟨q,d,rfl⟩)
    .exact hfree (U S c)
  .have Z:=á d;obtain⟨Y,b,K,B,eh⟩:=hL q Z;dsimp only
   have F: ∀(Q':SetFound->Ŗ->Prop),Q'=Q->wpAny (model prog w) A (do
     let some (_,y):=es[i]? |unsupported "internal:set-entry"
     let J <-holding [y] (eqBool y (.ref a));let (es',_,t') <-setState D
     if true&&J then return .there none
     let some same:=t'.sameMemory t.moves t.mask|unsupported "set.changed-during-lookup:is-the-new-block-at-the-old-address"
     let X <-match (if same then t'.slot q.1 else .empty)with
      |.live i'=>match es'[i']? with
       |some (_,y')=>do pure (if <-isSame y' y then some i' else none)
       |none=>pure none
      |_=>pure none
     match X with
     |none=>rule "set.search.anew";setSearchFrom D (.ref a) (knd.hash k) true u none
     |some i'=>if J then return .there (some i')else setSearchFrom D (.ref a) (knd.hash k) true u (some (ad t (S+1) (t.probeStart (knd.hash k))))) Q' E s:=by
    rintro _ rfl;rw[W i q d];dsimp only;rw[K];refine wB (Ă (knd.eqBool hu B hk ?_));refine wB (Ą ho hd T ?_);dsimp only;by_cases c:Y=k
    .subst c;rw[dT0 rfl];simp only[Bool.and_self,if_true];exact wP (h1 ⟨q,Z,b,K,B⟩)
    .rw[dF0 c];simp only[Bool.and_false,fT0,iF];rw[show t.sameMemory t.moves t.mask=some true by unfold SetTable.sameMemory;simp];dsimp only;have hi:i<t.place.size:=by rw[G.sz];exact(gS.mp d).1
     have ah:t.place[i]=q.1:=by
      have:t.place[i]? =some q.1:=by rw[<-í,G.pl,ì,d];rfl
      rw[ą hi]at this;exact ã this
     rw[show t.slot q.1=.live i by rw[<-ah];exact MW G.ris hi];simp only[if_true];rw[W i q d];dsimp only;rw[K];refine wB (wpAny_isSame_ref_self (wB (wP ?_)));simp only[if_true];refine ET fl hu ho hd M G hk hL h1 h2 u (S+1) _ rfl #[0] λm ak=>?_;by_cases g:m<S
     .exact H m g
     .have:m=S:=by lia
      subst this;exact⟨q,Z,eq,λ⟨b',p,C⟩=>by rw[K]at p;cases p;exact c (knd.inj B C)⟩
   have ag: ∀v∈((es.filter (·.1==knd.hash k)).toList.map (·.2)), ∃Y b,v=.ref b/\knd.is s.heap Y b:=λv hv=>by
    obtain⟨x,hx,rfl⟩:=mM.mp hv;have ab:x∈es.toList:=by rw[Array.toList_filter]at hx;exact(ü.mp hx).1
    rw[M]at ab;obtain⟨r,hr,rfl⟩:=mM.mp ab;obtain⟨Y,b,e1,e2,_⟩:=hL r hr;exact⟨Y,b,e1,e2⟩
   cases aj:t.led with
   |true=>
    simp only[Bool.not_true,fT0,iF];exact F Q rfl
   |false=>
    simp only[Bool.not_false,if_true];refine wB (Qn fl hk ag ?_);simp only[fT0,iF];exact F Q rfl
end
end M
end L2
namespace L2
namespace M
open PySem PySem.Spec PyProof.Rows
def SetP(h:Heap)(D:Addr)(L:List En)(b:Bool):Prop:= ∃o es a t,h.get? D=some o/\o.ExactSet/\o.data=.set es a t/\es.toList=L.map (·.2)/\STI t L/\t.led=b/\t.plain=true
section
variable{KK:Type}[DecidableEq KK]{knd:HeapKind prog w KK}
theorem Jn(fl:Flat knd s.heap)(hu:knd.room A)(hS:SetP s.heap D L b)(hL: ∀q∈L,X3 knd s.heap q)(hk:knd.is s.heap k a)(hn:L.length<2000)
  (h1:(∃q∈L,Dv knd s.heap k q)->Q false s)
  (h2: ∀h' L',(∀q∈L, ¬Dv knd s.heap k q)->Heap.SameBut D s.heap h'->SetP h' D L' b->(L'.map (·.2)).Perm ((knd.hash k,.ref a)::L.map (·.2))->Q true {s with heap:=h'}):
  wpAny (model prog w) A (setAddHashed D (.ref a) (knd.hash k)) Q E s:=by
 obtain⟨o,es,ep,t,M,P,J,I,i,B,ab⟩:=hS;have N:es.size=L.length:=by rw[<-ä,I,lM]
 have y:t.fits es.size=true:=by rw[N];exact i.fits
 have Y:=i.mx;have af:=i.fl;have aa:=i.od;unfold setAddHashed setAddHashedIn;refine Ă (wB (Ą M J y ?_));dsimp only;rw[show byScan (.ref a) es=false from rfl];simp only[fT0,iF];unfold setSearch;refine wB (ET fl hu M J I i hk hL ?_ ?_ 100000 0 none rfl (by unfold SetTable.turns;lia) λm hm=>absurd hm (not_lt_zero _))
 .intro z;exact wP (h1 z)
 .intro j hj hf hw T;dsimp only;refine wB (Ą M J y ?_);dsimp only;obtain⟨p,e1,e2,hp,e3,e4,e5⟩:=i.put (v:=.ref a) hj hf hw;rw[show t.put j=({t with place:=SetTable.insertAt t.place p j},p)from Prod.ext e2 e1];dsimp only;rw[ab];simp only[if_true];refine wB (fl.val hk rfl ?_);simp only[if_true];have d:(SetTable.insertAt es p (knd.hash k,.ref a)).toList=(L.take p++(j,knd.hash k,Value.ref a)::L.drop p).map (·.2):=by rw[SetTable.toList_insertAt,I];simp
  have c:(L.take p++(j,knd.hash k,Value.ref a)::L.drop p).length=L.length+1:=by
   simp
   lia
  have h:(SetTable.insertAt es p (knd.hash k,Value.ref a)).size=L.length+1:=by rw[<-ä,d,lM,c]
  have u:(SetTable.insertAt t.place p j).size=L.length+1:=by rw[<-ä,e3,lM,c]
  have G:((L.take p++(j,knd.hash k,Value.ref a)::L.drop p).map (·.2)).Perm ((knd.hash k,.ref a)::L.map (·.2)):=by refine(List.perm_middle.map _).trans ?_;rw[İ];exact .refl _
  refine wB (wpAny_storeSet_of M J ?_ (by rw[h,Ď];lia));have r:(s.heap.update D (Obj.putSet (SetTable.insertAt es p (knd.hash k,.ref a)) {t with place:=SetTable.insertAt t.place p j,plain:=true})).get? D=some {o with data:=.set (SetTable.insertAt es p (knd.hash k,.ref a)) (ep+1) {t with place:=SetTable.insertAt t.place p j,plain:=true}}:=by have:=ø (Obj.putSet (SetTable.insertAt es p (knd.hash k,.ref a)) {t with place:=SetTable.insertAt t.place p j,plain:=true}) M (by rw[putSet_of _ _ J];rfl);rw[putSet_of _ _ J]at this;exact this
  have F:=ċ s.heap D (Obj.putSet (SetTable.insertAt es p (knd.hash k,.ref a)) {t with place:=SetTable.insertAt t.place p j,plain:=true});split
  .refine wB ?_;unfold setRelay;have W:({t with place:=SetTable.insertAt t.place p j,plain:=true}:SetTable).fits (SetTable.insertAt es p (knd.hash k,Value.ref a)).size=true:=by simp only[SetTable.fits,SetTable.fill,u,h,i.dm,aE,Ĥ,ô];exact⟨trivial,by simp;lia⟩
   refine wB (Ą r rfl W ?_);dsimp only;have X:SetTable.grown (es.size+1)=(L.length+1) * 4:=by unfold SetTable.grown;rw[iN #[0],N]
   rw[X];obtain⟨e,Z,H,S,ae⟩:=Jm (n:=(L.length+1) * 4) #[0];have h9:2 ^ e<=2 ^ 13:=Nat.pow_le_pow_right ↑4 H;rw[iN (by rw[S,Ď];lia)];obtain⟨U,or,L2,a1,a2,a3,a4,a5,a6⟩:=Qm Z H t.finger _ t.led (SetTable.insertAt es p (knd.hash k,.ref a)) #[0] #[0];have K:SetTable.relaid {t with place:=SetTable.insertAt t.place p j,plain:=true} ((SetTable.insertAt es p (knd.hash k,Value.ref a)).map (·.1)) ((L.length+1) * 4)=some (U,or):=by unfold SetTable.relaid;rw[S];exact a1
   rw[K];have C:(or.filterMap ((SetTable.insertAt es p (knd.hash k,Value.ref a))[·]?)).size=(SetTable.insertAt es p (knd.hash k,Value.ref a)).size:=by rw[<-ä,a2,a3.length_eq,ä]
   refine wB (wpAny_of_eq (iN (by rw[C];simp)) ?_);refine wpAny_storeSet_of r rfl ?_ (by rw[C,h,Ď];lia);refine wP (h2 _ L2 T (F.trans (ċ _ D _)) ⟨{o with data:=.set _ (ep+1+1) U},_,_,U,?_,P,rfl,a2,a4,a5.trans B,a6⟩ ?_)
   .have:=ø (Obj.putSet (or.filterMap ((SetTable.insertAt es p (knd.hash k,Value.ref a))[·]?)) U) r (by rw[putSet_of _ _ rfl];rfl);rw[putSet_of _ _ rfl]at this;exact this
   .rw[d]at a3;exact a3.trans G
  .rename_i O;refine wP (h2 _ (L.take p++(j,knd.hash k,Value.ref a)::L.drop p) T F ⟨_,_,_,{t with place:=SetTable.insertAt t.place p j,plain:=true},r,P,rfl,d,⟨e3,e4,i.dm,i.pw,aa,Y,λq hq=>⟨(e5 q hq).1,@Way.to t {t with place:=SetTable.insertAt t.place p j,plain:=true} rfl _ _ (λ_ z=>z) _ _ (e5 q hq).2⟩,?_⟩,B,rfl⟩ G);simp only[SetTable.tooFull,SetTable.fill,u,i.dm,Bool.not_false,ő,ô,Nat.not_le]at O;rw[c];simpa using O
end
noncomputable abbrev Dw(P)(w):HeapKind P w (List Int):=tupleKind (intKind P w)
def TL(h:ItemsAre (intKind P w) ks vs): ∀v∈vs, ∃i t,v=.int i t:=by
 induction h with
 |nil=>intro v b;simp at b
 |@cons k v ks vs h1 _ ih=>
  intro u a;rcases mC.mp a with rfl|a
  .cases u<;>first |exact absurd h1 xF0|exact⟨_,_,rfl⟩
  .exact ih u a
def Qo(P)(w)(h):Flat (Dw P w) h where
 cls:=by
  intro k a hk A E s Q e hQ;subst e;have hT:=IsTupleKey.typeIs hk;obtain⟨o,items,n,ho,_,hd,hi⟩:=hk;have hall:=TL hi;unfold ofAClassStatement;refine wB (ħ hT ?_);dsimp only;rw[iP ↑4];refine wB (wP ?_);refine wB (wpAny_seqItems ho hd ?_);refine wB ?_;rw[<-Array.forIn_toList];refine Į _ (λrest r s'=>r.1=none/\s'=s/\ ∀v∈rest, ∃i t,v=Value.int i t) _ ?_ ?_ _ _ ⟨rfl,rfl,hall⟩
  .rintro v rest r s' ⟨hr,rfl,hv⟩;obtain⟨i,t,rfl⟩:=hv v mF0;refine wB (wP ?_);exact wP ⟨rfl,rfl,λu hu=>hv u (mO _ hu)⟩
  .rintro⟨r1,r2⟩ s' ⟨hr,rfl,_⟩;subst hr;exact wP hQ
 val:=by
  intro k a hk A E s Q e hQ;subst e;have hT:=IsTupleKey.typeIs hk;obtain⟨o,items,n,ho,_,hd,hi⟩:=hk;have hall:=TL hi;refine wB (ĸ hT F.slot_tuple_hash.lookup ?_);refine wB (wpAny_seqItems ho hd ?_);refine wB ?_;show wpAny _ _ _ _ _ s;rw[<-Array.forIn_toList];refine Į _ (λrest r s'=>r.1=none/\s'=s/\ ∀v∈rest, ∃i t,v=Value.int i t) _ ?_ ?_ _ _ ⟨rfl,rfl,hall⟩
  .rintro v rest r s' ⟨hr,rfl,hv⟩;obtain⟨i,t,rfl⟩:=hv v mF0;refine wB (wP ?_);exact wP ⟨rfl,rfl,λu hu=>hv u (mO _ hu)⟩
  .rintro⟨r1,r2⟩ s' ⟨hr,rfl,_⟩;subst hr;exact wP hQ
def Ah(x:(Dw P w).is h k a)(m: ∀o,h.get? a=some o->h'.get? a=some o):(Dw P w).is h' k a:=by obtain⟨o,b,n,c,r⟩:=x;exact⟨o,b,n,m o c,r⟩
def SetP.move(x:SetP h D L b)(m: ∀o,h.get? D=some o->h'.get? D=some o):SetP h' D L b:=by obtain⟨o,es,c,t,a,r⟩:=x;exact⟨o,es,c,t,m o a,r⟩
noncomputable def LG(M:List (List Int×Addr))(x:List Int×Addr):List (List Int×Addr):=if x.1∈M.map (·.1)then M else x::M
def mH(xs:List (List Int×Addr)):List (List Int×Addr):=xs.foldl LG []
theorem WY{xs:List (List Int×Addr)}(h:xs[i]? =some x):mH (xs.take (i+1))=LG (mH (xs.take i)) x:=by unfold mH;rw[List.take_add_one,h,List.foldl_append];rfl
theorem IO: ∀(xs M:List (List Int×Addr)),(M.map (·.1)).Nodup->((xs.foldl LG M).map (·.1)).Nodup/\(∀x,x∈xs.foldl LG M->x∈M\/x∈xs)/\ ∀k,k∈(xs.foldl LG M).map (·.1)↔k∈M.map (·.1)\/k∈xs.map (·.1)
 |[],M,h=>⟨h,λx hx=>.inl hx,λk=>by simp⟩
 |y::xs,M,h=>by
  rw[ĥ];by_cases c:y.1∈M.map (·.1)
  .rw[show LG M y=M from iP c];obtain⟨a,b,d⟩:=IO xs M h;refine⟨a,λx hx=>(b x hx).imp id (mO _),λk=>?_⟩;rw[d,ê,mC];exact⟨λz=>z.imp id .inr,λz=>z.elim .inl λz=>z.elim (λe=>.inl (e▸c)) .inr⟩
  .rw[show LG M y=y::M from iN c];obtain⟨a,b,d⟩:=IO xs _ (by rw[ê,nodup_cons];exact⟨c,h⟩);refine⟨a,λx hx=>?_,λk=>?_⟩
   .rcases b x hx with z|z
    .rcases mC.mp z with rfl|z
     .exact .inr mF0
     .exact .inl z
    .exact .inr (mO _ z)
   .rw[d,ê,mC,ê,mC,or_assoc,or_left_comm]
def IP(xs):((mH xs).map (·.1)).Nodup/\(∀x,x∈mH xs->x∈xs)/\ ∀k,k∈(mH xs).map (·.1)↔k∈xs.map (·.1):=by obtain⟨a,b,d⟩:=IO xs [] List.nodup_nil;exact⟨a,λx c=>(b x c).resolve_left (by simp),λk=>(d k).trans (by simp)⟩
def Dx{xs:List (List Int×Addr)}{C:List (List Int)}(h: ∀x∈xs,x.1∈C)(i):(mH (xs.take i)).length<=C.length:=by obtain⟨a,b,_⟩:=IP _;rw[<-lM];refine a.length_le_of_subset λk d=>?_;obtain⟨x,c,rfl⟩:=mM.mp d;exact h x (ī (b x c))
noncomputable def hsT(a:Za):Int:=reduceHash (Builtin.Tuple.tupleHashOf (a.map hashInt))
def SetM(h:Heap)(D:Addr)(M:List (List Int×Addr))(b:Bool):Prop:= ∃L,SetP h D L b/\(L.map (·.2)).Perm (M.map λx=>(hsT x.1,Value.ref x.2))
def SetM.move(x:SetM h D M b)(m: ∀o,h.get? D=some o->h'.get? D=some o):SetM h' D M b:=by obtain⟨L,a,r⟩:=x;exact⟨L,a.move m,r⟩
def X4(z:A.units<cLine)(k:SetM s.heap D M b)(n: ∀x∈M,(Dw P w).is s.heap x.1 x.2)(B:(Dw P w).is s.heap x.1 x.2)(v:M.length<2000)
  (h: ∀c h',Heap.SameBut D s.heap h'->SetM h' D (LG M x) b->Q c {s with heap:=h'}):wpAny (model P w) A (setAddHashed D (.ref x.2) ((Dw P w).hash x.1)) Q E s:=by
 obtain⟨L,k,j⟩:=k;have i: ∀q∈L, ∃y∈M,q.2=_:=λq d=>by have:=j.mem_iff.mp (mM.mpr ⟨q,d,rfl⟩);obtain⟨y,a,e⟩:=mM.mp this;exact⟨y,a,e.symm⟩
 refine Jn (Qo P w s.heap) z k (λq d=>?_) B (by rw[<-lM,j.length_eq,lM];exact v) (λ⟨q,d,J,u,I⟩=>?_) λh' F m sb p o=>?_
 .obtain⟨y,a,e⟩:=i q d;exact⟨y.1,y.2,by rw[e],n y a,by rw[e];rfl⟩
 .obtain⟨y,a,e⟩:=i q d;rw[e]at u;cases u;have r:=IsTupleKey.inj (n y a) I;have e:s={s with heap:=s.heap}:=by cases s;rfl
  refine h _ s.heap (Heap.SameBut.refl D s.heap) ?_;rw[show LG M x=M from iP (mM.mpr ⟨y,a,r⟩)];exact⟨L,k,j⟩
 .refine h _ h' sb ?_;have G:x.1∉M.map (·.1):=λH=>by obtain⟨y,a,e⟩:=mM.mp H;have:=j.mem_iff.mpr (mM.mpr ⟨y,a,rfl⟩);obtain⟨q,d,C⟩:=mM.mp this;exact m q d ⟨y.2,by rw[C],e▸n y a⟩
  rw[show LG M x=x::M from iN G];exact⟨F,p,o.trans (j.cons _)⟩
section
variable{R:Result->Ŗ->Prop}{St:Nat->Ŗ->Prop}{xs:List (List Int×Addr)}
theorem IQ(W:PySem.WalksS P w A.in1 I fp wr G n Pv St)(C:D∉fp)(E:A.in1.units<cLine)(M: ∀i v,Pv i v-> ∃x,xs[i]? =some x/\v=.ref x.2)(j: ∀x∈xs,(Dw P w).is h₀ x.1 x.2)(h: ∀i,(mH (xs.take i)).length<2000)(u:h₀.get? D=none)(B: ∀b∈wr,h₀.get? b=none):
  ∀ k i  s ,i+k=n->St i s->SetM s.heap D (mH (xs.take i)) (!DH w)->(∀b o,h₀.get? b=some o->s.heap.get? b=some o)->
   (∀d,PySem.Moved (D::wr) G s d->SetM d.heap D (mH (xs.take n)) (!DH w)->R (.ok (.ret .none)) d)->codeAny (model P w) A (.builtin "set.update.loop" ⟨[.ref D,.ref I],[]⟩) R s
 |0,i,s,hk,st,hs,hkp,q=>by have e:i=n:=hk;subst e;refine Đ F.entry_set_update_loop ?_;rw[Ā F.plain_set_update_loop _];show wpAny _ A.in1 _ _ _ s;refine wB (W.done s _ _ st λd m=>?_);exact wP (q d (m.mono λb h=>.tail _ h) (hs.move λo=>m.heap D o λz=>C (W.sub _ z)))
 |k+1,i,s,hk,st,hs,hkp,q=>by
  refine Đ F.entry_set_update_loop ?_;rw[Ā F.plain_set_update_loop _];show wpAny _ A.in1 _ _ _ s;refine wB (W.item i s _ _ #[0] st λv d S J m=>?_);obtain⟨x,L,rfl⟩:=M i v S;have K:SetM d.heap D (mH (xs.take i)) (!DH w):=hs.move λo=>m.heap D o λz=>C (W.sub _ z);have a: ∀b o,h₀.get? b=some o->d.heap.get? b=some o:=λb o e=>m.heap b o (λz=>by rw[B b z]at e;cases e) (hkp b o e);have r:(Dw P w).is d.heap x.1 x.2:=Ah (j x (á L)) λo e=>a _ o e;show wpAny _ A.in1 _ _ _ d;refine wB (Ă ?_);unfold setAdd;refine Ă (wB ((Dw P w).pyHash E r ?_));refine X4 (s:={d with toks:=d.toks+(Dw P w).draws x.1}) E K (λy O=>Ah (j y (ī ((IP _).2.1 y O))) λo e=>a _ o e) r (h i) λc T sb p=>?_;rw[<-WY L]at p;refine wP ⟨Ĩ F.plain_set_update_loop _,IQ W C E M j h u B k (i+1) _ #[0] (W.frame _ d _ _ J (Nat.le_add_right _ _) λb h o e=>?_) p (λb o e=>?_) λQ N H=>?_⟩
  .rw[sb.2 b λz=>C (z▸h)];exact e
  .rw[sb.2 b λz=>by rw[z,u]at e;cases e];exact a b o e
  .refine q Q (PySem.Moved.trans W.gtrans ((m.mono λb h=>.tail _ h).then_heap (Nat.le_add_right _ _) λb o h e=>?_) N) H;rw[sb.2 b λz=>h (by rw[z];exact .head _)];exact e
end
def get?_big{h:Heap}{b:Addr}(a:h.objs.size<=b):h.get? b=none:=by
 cases e:h.get? b with
 |none=>rfl
 |some o=>exact absurd (â e) (Nat.not_lt.mpr a)
def X5(c:h.get? a=some (xZ b)):SetM h a [] b:=
 ⟨[],⟨xZ b,#[],0,_,c,⟨rfl,rfl,rfl⟩,rfl,rfl,⟨rfl,.nil,rfl,⟨3,rfl⟩,(show 7 % 2=1 from rfl),(show 7<=8191 by decide),λq d=>absurd d (by simp),(show 0 * 5<7 * 3 by decide)⟩,rfl,rfl⟩,.refl _⟩
section
def IR(hh:A.handled=none)(hu:A.units+8<cLine)(U:s.heap.IsList l items)(X:items.toList=xs.map λx=>Value.ref x.2)(y: ∀x∈xs,(Dw P w).is s.heap x.1 x.2)(N: ∀i,(mH (xs.take i)).length<2000)
  (h: ∀ h'  q ,SetM h' ↑1 (mH xs) (!DH w)->(∀b o,s.heap.get? b=some o->h'.get? b=some o)->Q (.ref ↑1) {s with heap:=h',toks:=q}):
  wpAny (model P w) A (call (.type "set") [.ref l]) Q E s:=by
 obtain⟨c,tl,Y⟩:=F.called_set.mro;have C:=F.called_set.made;have S:=F.called_set.sub;refine wpAny_call (codeAny_of_tree ?_);show wpAny _ _ (callAny (.type "set") _) _ _ _;refine wP ⟨Code.quiet_builtin _ (by decide+kernel),Đ F.entry_type_call ?_⟩;rw[Around.under_plain (weight_type_call_type "set" [.ref l] []) rfl];have h1:=F.called_set.notType;have h2:=F.called_set.canCreate;have ae:=F.typeCall_set_1 (.ref l)
 repeat (any_goals (first |assumption|wp_step))
 refine Ĵ (LE (.ref l) (E:=E) (Q₁:=λob s1=>ob=.ref ↑1/\s1={s with heap:=s.heap.push (xZ (!DH w))}) ⟨rfl,rfl⟩) λr s1 K=>?_
 cases r with
 |error e=>exact K
 |ok fl=>
  cases fl with
  |ret ob=>
   obtain⟨rfl,rfl⟩:=K;have g0:(s.heap.push (xZ (!DH w))).get? ↑1=some (xZ (!DH w)):=å _ rfl;have hT:Shared.TypeIs {s with heap:=s.heap.push (xZ (!DH w))} (.ref ↑1) "set":=⟨_,g0,rfl⟩
   have aa:=F.called_set.init.lookup;have af:=F.called_set.init.bind (.ref ↑1)
   repeat (any_goals (first |assumption|wp_step))
   refine Ĵ (codeAny_call_builtin (R:=wants (λr Z=>r=.none/\ ∃h' q,Z={s with heap:=h',toks:=q}/\SetM h' ↑1 (mH xs) (!DH w)/\ ∀b o,s.heap.get? b=some o->h'.get? b=some o) E)
    F.called_set.init.plain F.entry_set_init (check_set_init_1 hT ?_)) λr2 Z d=>?_
   .have k:(s.heap.push (xZ (!DH w))).IsList l items:=U.push _;obtain⟨⟨oc,od,ab,os⟩,j,B,nl,H⟩:=U;cases B;cases H;have T:(s.heap.push (xZ (!DH w))).get? l=some {cls:=.type "list",dict:=od,data:=.seq items nl,slots:=os}:=hP0 _ j;have W:=PySem.F.sub_list_set;have O:=PySem.F.sub_list_frozenset;have ag:(Value.type "list"==Value.type "dict")=false:=by decide
    have lt:l<s.heap.objs.size:=â j;unfold Builtin.«set.__init__» noKeywords Builtin.Frozenset.updateFrom;generalize L:pyIter=PI
    wp_walk
    subst L;refine ľ k ?_;refine wB (wpAny_runValue ?_);have h3:A.in1.in1.in1.handled=none:=by simp[hh]
    have J:l<(s.heap.push (xZ (!DH w))).objs.size:=by rw[Ė];exact Nat.lt_succ_of_lt lt
    have out:↑1∉[(s.heap.push (xZ (!DH w))).objs.size,l]:=by
     rw[Ė];intro z;rcases mC.mp z with z|z
     .exact absurd z (è (ć _))
     .exact absurd (mS.mp z) (ĕ lt)
    refine IQ ((Walks.list h3 _ l (è J) items).toS) (D:=↑1) (h₀:=s.heap) (xs:=xs) out (show A.in1.in1.in1.units<cLine by show A.units+1+1+1<cLine;omega) (λi v p=>by rw[<-í,X,ì]at p;obtain⟨x,hx,e⟩:=Ĳ.mp p;exact⟨x,hx,e.symm⟩) y N (get?_big (à _)) (λb N=> ?hwr) items.size 0 _ (ď _) ⟨⟨_,å _ rfl,rfl,rfl⟩,k.push _⟩ ?hS0 (λb o e=>hP0 _ (hP0 _ e)) ?hR
    case hS0=>
     have gg:((s.heap.push (xZ (!DH w))).push {cls:=.type "list_iterator",data:=.fields #[.ref l,.int 0 0]}).get? ↑1=some (xZ (!DH w)):=hP0 _ g0;exact X5 gg
    case hwr=>
     rw[mS.mp N,Ė];exact get?_big (le_succ _)
    case hR=>
     intro s' m a;have I:items.size=xs.length:=by rw[<-ä,X,lM]
     rw[I,take_length]at a;obtain⟨h',g',d',u,G⟩:=s';have e1:g'=s.gens:=m.gens;have e2:d'=s.drawn:=m.drawn;have e3:G=s.os:=m.os;subst e1;subst e2;subst e3;show wpAny _ _ _ _ _ _;refine wP ?_;show wpAny _ _ (ret Value.none) _ _ _;refine wP ⟨rfl,h',u,rfl,a,λb o e=>?_⟩;have n:=â e;refine m.heap b o (λz=>?_) (hP0 _ (hP0 _ e));rcases mC.mp z with z|z
     .exact absurd z (è n)
     .rw[Ė]at z;exact absurd (mS.mp z) (è (Nat.lt_succ_of_lt n))
   .cases r2 with
    |error e=>exact d
    |ok fl2=>
     cases fl2 with
     |ret r=>
      obtain⟨rfl,h',q,rfl,a,M⟩:=d
      repeat (any_goals (first |assumption|wp_step))
      exact h _ _ a M
     |_=>exact d.elim
  |_=>exact K.elim
end
section
variable{E:VP}
theorem WZ{sl:Nat}(p:DH w=false)(a:iT s.heap it (rawInt  sl ) i n ep D)(k:SetAt s.heap D es ep t)(m:es.size=n)(c:t.plain=true)(r:t.led=true)
  (he:es[SetTable.below t.place sl]? =some (hx,x)) (hj:t.place[SetTable.below t.place sl]? =some j)
  (hQ: ∀h',iT h' it (rawInt ((j+1:Nat))) (i+1) n ep D->Heap.SameBut it s.heap h'->Q (some x) {s with heap:=h'}):
  wpAny (model prog w) A (pyNext (.ref it)) Q E s:=by
 have b:s.TypeIs (.ref it) "set_iterator":=⟨_,a,rfl⟩
 obtain⟨o,h,q,e,d⟩:=k
 refine wB (Ő (û b F.slot_seti_next
  (ö F.slot_seti_next b F.entry_seti_next ?_ (F.args_seti_next _))))
 unfold Builtin.«set_iterator.__next__» slotArgs;refine wB (wP ?_);refine wB (wpAny_fieldsOf a rfl ?_);dsimp only;refine wB (Ō h e d ?_);rw[iN (by simp[m])];dsimp only[rawInt];refine wB ?_;unfold setNext setsByText;refine wB (Ą h e d ?_);dsimp only;refine wB (wB (Ę (wP ?_)));dsimp only;rw[iN (show¬(model prog w).w.params.followText "set-order"=true by rw[show(model prog w).w.params.followText "set-order"=false from p];exact xF0)];show wpAny _ _ (if(!t.plain&&decide _)=true then _ else _) _ _ _;rw[iN (by rw[c];exact xF0)];show wpAny _ _ ((if _=true then unsupported "set:maker-not-led" else pure ()) >>= _) _ _ _;rw[iN (by rw[r];exact xF0)];refine wB (wP ?_);refine wP ?_;rw[Ĕ,he,hj];dsimp only;refine wB (į a rfl (by simp) ?_);refine wB (į (ø _ a rfl) rfl (by simp) ?_);refine wP ⟨_,rfl,wP (hQ _ ?_ ((ċ ..).trans (ċ ..)))⟩;exact ø _ (ø _ a rfl) rfl
def IS{sl:Nat}(r:A.handled=none)(p:DH w=false)(a:iT s.heap it (rawInt  sl ) i n ep D)(k:SetAt s.heap D es ep t)(m:es.size=n)(d:t.plain=true)(u:t.led=true)
  (he:es[SetTable.below t.place sl]? =none)
  (hQ: ∀h',Heap.ExtBut it s.heap h'->Q none {s with heap:=h'}):wpAny (model prog w) A (pyNext (.ref it)) Q E s:=by
 have c:s.TypeIs (.ref it) "set_iterator":=⟨_,a,rfl⟩
 obtain⟨o,j,q,h,e⟩:=k;unfold pyNext
 refine wB (Ő (û c F.slot_seti_next
  (ö F.slot_seti_next c F.entry_seti_next ?_ (F.args_seti_next _))))
 unfold Builtin.«set_iterator.__next__» slotArgs;refine wB (wP ?_);refine wB (wpAny_fieldsOf a rfl ?_);dsimp only;refine wB (Ō j h e ?_);rw[iN (by simp[m])];dsimp only[rawInt];refine wB ?_;unfold setNext setsByText;refine wB (Ą j h e ?_);dsimp only;refine wB (wB (Ę (wP ?_)));dsimp only;rw[iN (show¬(model prog w).w.params.followText "set-order"=true by rw[show(model prog w).w.params.followText "set-order"=false from p];exact xF0)];show wpAny _ _ (if(!t.plain&&decide (es.size>1))=true then _ else _) _ _ _;rw[iN (by rw[d];exact xF0)];show wpAny _ _ ((if _=true then unsupported "set:maker-not-led" else pure ()) >>= _) _ _ _;rw[iN (by rw[u];exact xF0)];refine wB (wP ?_);refine wP ?_;rw[Ĕ,he];dsimp only;refine wB (į a rfl (by simp) ?_);show wpAny _ _ _ _ _ _;refine wB ?_;simp only[newExc,newTuple];refine wB (ÿ ?_ (by size_fits));refine wB (wpAny_of_eq (by first |rfl|(simp only[firstArgMember];rfl)) ?_);refine ÿ ?_ (by size_fits);simp only[raiseNew];refine wB (wpAny_handled ?_);rw[show A.in1.handled=none from r];refine wB (wP (wpAny_throw ?_));refine wB (ń (b:=true) ⟨_,å _ rfl,rfl⟩ isSubtype_stop ?_);exact wP (hQ _ (((ċ ..).extBut.push _).push _))
def IT(i:SetAt s.heap D es ep t)(d:t.plain=true)
  (hQ:Q (.ref ↑1) {s with heap:=s.heap.push (C5 (rawInt 0) es.size ep D)}):wpAny (model prog w) A (pyIter (.ref D)) Q E s:=by
 obtain⟨o,a,c,e,b⟩:=i;have h:s.TypeIs (.ref D) "set":=⟨o,a,c.1⟩
 refine wpAny_pyIter_slot h F.slot_set_iter (ö F.slot_set_iter h F.entry_set_iter' ?_ (F.args_set_iter_1 _));refine wB (wB (wP ?_));refine wP ?_;refine wB ?_;refine wB (Ō a e b (wP ?_));refine wB (wB (Ą a e b ?_));refine wB (wB (Ę (wP ?_)));refine wP ?_;show wpAny _ _ (if(!(model prog w).w.params.followText "set-order"&&(!t.plain&&decide _))=true then _ else _) _ _ _;rw[iN (by rw[d];cases (model prog w).w.params.followText "set-order"<;>exact xF0)];refine wB (wP ?_);refine wB (wpAny_setEpoch_of a e b ?_);refine wB (ÿ ?_ (by size_fits));refine wP ⟨_,rfl,"set_iterator",_,⟨_,å _ rfl,rfl⟩,F.slot_seti_next.lookup,hQ⟩
theorem Qp(d:Fc xs):SetTable.below xs 0=0:=by
 obtain⟨a,b,c⟩:=AS d 0;generalize SetTable.below xs 0=z at *;rcases Nat.eq_zero_or_pos z with h|h
 .exact h
 .exact absurd (b 0 #[0] h) (not_lt_zero _)
theorem XA(hh:A.handled=none)(hb:DH w=false)(hDI:D≠I)(hpl:t.plain=true)(hl:t.led=true)(hri:Fc t.place)(hfit:t.fits es.size=true):
  Walks prog w A I [I,D] [I] es.size (λi v=> ∃e,es[i]? =some e/\v=e.2) (λi h=>(∃sl:Nat,iT h I (rawInt  sl ) i es.size ep D/\SetTable.below t.place sl=i)/\SetAt h D es ep t) where
 sub:=λb hb=>by simp at hb;simp[hb]
 frame:=λi h h' st hk=>⟨by obtain⟨sl,h1,h2⟩:=st.1;exact⟨sl,hk I (by simp) _ h1,h2⟩,st.2.keep λo e=>hk D (by simp) o e⟩
 item:=λi s Q E hi st hQ=>by
  obtain⟨⟨sl,hit,hbl⟩,hS⟩:=st;have hps:=(by simp only[SetTable.fits,aE,Ĥ,ô]at hfit;exact hfit.1);have hip:i<t.place.size:=by lia
  have he:=ą hi;refine WZ hb hit hS rfl hpl hl (by rw[hbl];exact he) (by rw[hbl];exact ą hip) λh' hit' hs'=>?_;exact hQ _ h' s.toks ⟨_,he,rfl⟩ ⟨⟨t.place[i]+1,hit',WU hri hip⟩,hS.keep λo e=>hs'.extBut D o hDI e⟩ λb o hb e=>hs'.extBut b o (λz=>hb (by simp[z])) e
 done:=λs Q E st hQ=>by obtain⟨⟨sl,hit,hbl⟩,hS⟩:=st;exact IS hh hb hit hS rfl hpl hl (by rw[hbl];exact Array.getElem?_eq_none (à _)) λh' he'=>hQ h' s.toks λb o hb e=>he' b o (λz=>hb (by simp[z])) e
 self:=λi s Q E st hQ=>by obtain⟨⟨sl,hit,hbl⟩,hS⟩:=st;exact MU hit hQ
def XB(B:A.handled=none)(c:SetAt s.heap D es ep t)(z:t.led= !DH w)(y:t.plain=true)(k:Fc t.place)(r:S≠D)(u:S<↑1):
  W9 prog w A D s S es.size (λd=>d.toList.Perm (es.toList.map (·.2))):=by
 intro E Q C;have m:D<s.heap.objs.size:=by obtain⟨o,G,_⟩:=c;exact â G
 obtain⟨n⟩:Nonempty _:=by obtain⟨o,_,_,_,F⟩:=c;exact⟨F⟩
 have j:S∉[↑1,D]:=by simp only[mC,nM,or_false,not_or];exact⟨è u,r⟩
 have h: ∀b∈[↑1],↑1<=b:=by intro b q;rw[mS.mp q];exact à _
 cases q:DH w with
 |true=>
  refine IT c y (C _ s.drawn _ _ _ _ _ (Dt B q (è m)) ⟨å _ rfl,c.keep λo e=>hP0 _ e⟩ j h (λb o e=>hP0 _ e) λd a=>?_);have p:(pickOrder (w.params.setOrder D ep) es).toList.length=es.size:=by rw[(tU _ es).length_eq,ä]
  show d.toList.Perm _;rw[Iz (l:=(pickOrder _ es).toList.map (·.2)) a (by rw[lM,p]) λi v ⟨e,j,h⟩=>by rw[ì,í,j,h];rfl];exact(tU _ es).map _
 |false=>
  rw[q]at z;refine IT c y (C _ s.drawn _ _ _ _ _ (XA B q (è m) y z k n) ⟨⟨0,å _ rfl,Qp k⟩,c.keep λo e=>hP0 _ e⟩ j h (λb o e=>hP0 _ e) λd a=>?_);show d.toList.Perm _;rw[Iz (l:=es.toList.map (·.2)) a (by simp) λi v ⟨e,j,h⟩=>by rw[ì,í,j,h];rfl]
theorem PM{R:List ŗ->Ŗ->Prop}(J:A.handled=none)(G:SetAt s.heap D es ep t)(L:t.led= !DH w)(K:t.plain=true)(z:Fc t.place)(hz:es.size<4096)
  (h: ∀ h'  j  d' (m:B0),(∀b o,s.heap.get? b=some o->h'.get? b=some o)->m.toList.Perm (es.toList.map (·.2))->R m.toList {s with heap:=h',toks:=j,drawn:=d'}):
  wpAny (model prog w) A (collect (.ref D)) R E s:=by
 have r:D<s.heap.objs.size:=by obtain⟨o,C,_⟩:=G;exact â C
 have p:=G.keep (h':=s.heap.push {cls:=.type "list",data:=.seq ([]:A0).toArray}) λo e=>hP0 _ e;have I:Shared.TypeIs {s with heap:=s.heap.push {cls:=.type "list",data:=.seq ([]:A0).toArray}} (.ref D) "set":=by obtain⟨o,C,B,_⟩:=p;exact⟨o,C,B.1⟩
 unfold collect;refine wB (wpAny_runValue (Đ entry_proto_collect' ?_));rw[Ā PySem.F.plain_proto_collect _];show wpAny _ A.in1 _ _ _ s;refine wB (ÿ ?_);refine wP ⟨Ĩ PySem.F.plain_list_iadd _,Đ entry_list_iadd' ?_⟩;rw[Ā PySem.F.plain_list_iadd _];have i:(s.heap.push {cls:=.type "list",data:=.seq ([]:A0).toArray}).get? ↑1=some {cls:=.type "list",data:=.seq #[]}:=å _ rfl;show wpAny _ A.in1 _ _ _ _
 have v:=WR (prog:=prog) (w:=w) (A:=A)
  (R:=λ(q:Result) (u:Ŗ)=> ∃(h':Heap)(j:Nat)(d':Drawn)(a:B0)(k:Nat),q=.ok _/\u={s with heap:=h',toks:=j,drawn:=d'}/\
   (∀b o,s.heap.get? b=some o->h'.get? b=some o)/\h'.get? ↑1=some {cls:=.type "list",dict:=none,data:=.seq a k,slots:=#[]}/\a.toList.Perm _)
  (XB (prog:=prog) (w:=w) (A:=A.in1) J p L K z (ĕ r) (by show ↑1<(s.heap.push _).objs.size;rw[Ė];exact ć _)) I (ĕ r) (.ref ↑1) 0 i (by rw[Ď];lia)
  (λh' j d' a k n d c=>⟨h',j,d',a,k,rfl,rfl,λb o e=>n b o (è (â e)) (hP0 _ e),d,c⟩)
 refine ú v (λfin u x=>?_) λe u x=>?_
 .cases fin with
  |done f=>
   obtain⟨h',j,d',a,k,e,rfl,n,d,c⟩:=x;cases e;show wpAny _ A _ _ _ _;refine wB (wpAny_load d ?_);exact wP (h h' j d' a n c)
  |again c₁=>
   refine⟨x.1,Ĵ x.2 λq H y=>?_⟩;obtain⟨h',j,d',a,k,rfl,rfl,n,d,c⟩:=y;show wpAny _ A _ _ _ _;refine wB (wpAny_load d ?_);exact wP (h h' j d' a n c)
 .obtain⟨h',j,d',a,k,e,_⟩:=x;cases e
end
noncomputable abbrev GE(k:Za):MV:=.tup (k.map .int)
def Jo(w:World)(l:Addr)(M:List (List Int×Addr)):HO:=.ext λh=>SetM h l M (!DH w)
section
variable{X:Cx}{pins:M0}{σ:St}{s:Ŗ}
theorem TN: ∀{k}{vs}{its},DenL X.K α H (k.map .int) vs->Vals vs its->ItemsAre (intKind P w) k its
 |[],vs,its,l,r=>by cases l.isnil;cases r;exact .nil
 |i::k,vs,its,l,r=>by
  obtain⟨v,j,rfl,d,l'⟩:=l.uncons;cases xH d
  cases r with
  |cons r1 r2=>
   obtain⟨t,rfl⟩:=r1;exact .cons (by simp[intKind,Value.isInt]) (TN l' r2)
def X6(I:↑2)(d:Den X.K α H (GE k) x)(r:RelV x u): ∃a,x=.ref a/\u=.ref a/\(Dw X.prog X.w).is s.heap k a:=by obtain⟨a,j,rfl,t,l⟩:=yY d;cases r;obtain⟨b,e,pt,_⟩:=I.tuple t;obtain⟨o,i,c,n,h⟩:=pt;exact⟨a,rfl,rfl,o,b.toArray,n,i,c,h,TN l e⟩
theorem Ai(I:↑2): ∀{j}{vs}{its},DenL X.K α H (j.map GE) vs->Vals vs its->
  ∃xs:List (List Int×Addr),xs.map (·.1)=j/\its=xs.map (λx=>Value.ref x.2)/\ ∀x∈xs,(Dw X.prog X.w).is s.heap x.1 x.2/\Den X.K α H (GE x.1) (.ref x.2)
 |[],vs,its,l,r=>by cases l.isnil;cases r;exact⟨[],rfl,rfl,λx hx=>absurd hx (by simp)⟩
 |k::j,vs,its,l,r=>by
  obtain⟨v,m,rfl,d,l'⟩:=l.uncons
  cases r with
  |cons r1 r2=>
   obtain⟨xs,a,b,c⟩:=Ai I l' r2;obtain⟨p,rfl,rfl,h⟩:=X6 I d r1;refine⟨(k,p)::xs,by rw[ê,a],by rw[ê,b],λx hx=>?_⟩;rcases mC.mp hx with rfl|hx
   .exact⟨h,d⟩
   .exact c x hx
def Dy:CallR X (.type "set") (λxs H Q=> ∃(α:B9)(a:Addr)(vs:List V)(d C:List (List Int)),xs=[.ref a]/\SqL X.K H a vs/\DenL X.K α H (d.map GE) vs/\C.length<2000/\(∀k∈d,k∈C)/\X.calm=true/\X.A.units+8<cLine/\
  ∀l  M ,H l=none->(M.map (·.1)).Nodup->(∀k,k∈M.map (·.1)↔k∈d)->(∀x∈M,Den X.K α H (GE x.1) (.ref x.2))->M.length<2000->Q (.ref l) (wG H l (Jo X.w l M))):=by
 intro pins s σ H xs W Q I r h;obtain⟨α,a,vs,d,C,rfl,y,O,D,e,F,n,q⟩:=h;obtain⟨u,rfl,U⟩:=vals1 r;cases U;obtain⟨B,J,p,Y⟩:=I.list y;obtain⟨xs,j,N,m⟩:=Ai I O J;have b: ∀i,(mH _).length<2000:=λi=>lt_of_le_of_lt (Dx (λx c=>e _ (j▸mM.mpr ⟨x,c,rfl⟩)) i) D;refine IR (I.ok.hd F) n p.isList (by rw[<-N]) (λx c=>(m x c).1) b λh' tk hs S=>?_;obtain⟨E,v,P⟩:=IP xs;refine⟨.ref ↑1,_,I.laid (o:=Jo X.w ↑1 _) S (à _) ⟨hs,?_,λZ h2 z T=>z.move T⟩,rfl,q _ _ (I.hok.fresh (à _)) E (λk=>by rw[P,j]) (λx c=>(m x (v x c)).2) ?_⟩
 .obtain⟨L,⟨o,_,_,_,G,_⟩,_⟩:=hs;exact⟨o,G⟩
 .have:=b xs.length;rw[take_length]at this;exact this
def Qq(k):nO (GE k)=true:=by
 show AK _=true
 induction k with
 |nil=>rfl
 |cons i k ih=>exact ih
def OrdD.sub(h:OrdD S ds)(hs: ∀d,d∈es->d∈ds):OrdD S es:=
 ⟨λa e b i=>h.any a (hs a e) b (hs b i),λa e b i c j=>h.tr a (hs a e) b (hs b i) c (hs c j),λa e b i=>h.as a (hs a e) b (hs b i)⟩
theorem MX: ∀M:List (List Int×Addr),Vals (M.map λx=>V.ref x.2) (M.map λx=>Value.ref x.2)
 |[]=>.nil
 |x::M=>.cons rfl (MX M)
theorem TQ: ∀{M:List (List Int×Addr)},(∀x∈M,Den X.K α H (GE x.1) (.ref x.2))->DenL X.K α H (M.map λx=>GE x.1) (M.map λx=>V.ref x.2)
 |[],_=>yK
 |x::M,h=>yE (h x mF0) (TQ λy d=>h y (mO _ d))
theorem Jp(Z:X.calm=true)(hu:X.A.units+128<cLine)(I:↑2)(wd:Wd X.g α S H)(hS:SetM s.heap D M (!DH X.w))(hM: ∀x∈M,Den X.K α H (GE x.1) (.ref x.2))
  (hlen:M.length<2000) (hne: ∀x∈M,x.1≠[]) (hord:OrdD S (M.map λx=>GE x.1)) 
  (hQ: ∀ r  p  ys ,r.Perm (M.map λx=>GE x.1)->r.Pairwise (λa c=>qS S zH c a=some false)->H p=none->DenL X.K α H r ys->Q (.ref p) (wG H p (.lst ys))):
  wpAny ↑5 X.A (call (.builtin "sorted") [.ref D]) (EP X pins σ Q) X.xe s:=by
 obtain⟨L,⟨o,es,ep,t,ho,au,O,ah,ti,ae,a0⟩,ag⟩:=hS;have ao:es.size=L.length:=by rw[<-ä,ah,lM]
 have a5:L.length=M.length:=by rw[<-lM (f:=(·.2)),ag.length_eq,lM]
 have a4:=Ď;refine call_function_entry_kw kind_sorted plain_sorted entry_sorted (args_sorted1 _) ?_;unfold Builtin.«sorted»;refine wB (m:=checkCount "sorted" 1 1 _) (wP ?_);refine wB (PM (A:=X.A.in1) (I.ok.hd Z) ⟨o,ho,au,O,by rw[ao];exact ti.fits⟩ ae a0 ti.ris #[0] λJ tk d' U k1 ab=>?_);have T:U.toList.Perm (M.map λx=>Value.ref x.2):=by refine ab.trans ?_;rw[ah];have:=ag.map (·.2);rw[ę (l:=M)]at this;exact this
 have I1:Inv X pins σ H {s with heap:=J,toks:=tk,drawn:=d'}:=I.keptD k1;obtain⟨M',pM,eM⟩:=tT T.symm M rfl;have E:M'.length=M.length:=pM.length_eq;have⟨y,G⟩: ∃y,y=M'.map λx=>GE x.1:=⟨_,rfl⟩
 have⟨xs,ai⟩: ∃xs,xs=M'.map λx=>V.ref x.2:=⟨_,rfl⟩
 have av: ∀x∈M',Den X.K α H (GE x.1) (.ref x.2):=λx hx=>hM x (pM.mem_iff.mp hx);have P:Vals xs U.toList:=by rw[ai, <-eM];exact MX M'
 have dl:DenL X.K α H y xs:=by rw[G,ai];exact TQ av
 have Y: ∀d,d∈y->d∈M.map λx=>GE x.1:=λd O=>by rw[G]at O;exact(pM.map _).mem_iff.mp O
 have aj: ∀d,d∈y->nO d=true:=λd O=>by obtain⟨x,_,rfl⟩:=mM.mp (Y d O);exact Qq _
 have C: ∀d,d∈y->SY d:=λd O=>by obtain⟨x,hx,rfl⟩:=mM.mp (Y d O);obtain⟨i,k,e⟩:=List.exists_cons_of_ne_nil (hne x hx);exact⟨i,k.map .int,by rw[e];rfl⟩
 replace hord:OrdD S y:=hord.sub Y
 have a3:y.length=M.length:=by rw[G,lM,E]
 generalize U.toList=its at *;have B:its.length=y.length:=by rw[<-P.length,dl.length]
 refine wB (wpAny_newList ?_);have W:(J.push (seqObj "list" its.toArray 0)).get? J.objs.size=some (seqObj "list" its.toArray 0):=å _ rfl;show wpAny _ _ _ _ _ {s with heap:=J.push (seqObj "list" its.toArray 0),toks:=tk,drawn:=d'};dsimp only;generalize hL:J.objs.size=Lz at *;have sL:J.objs.size<=Lz:=le_of_eq hL;refine wB (Ă (wpAny_call_entry_kw slot_list_sort ⟨_,W,rfl⟩ entry_list_sort (Srt.sort_plain W #[0] λN F=>?_) (IC _)));dsimp only at F;generalize aq:J.push (seqObj "list" its.toArray 0)=h2 at *;have fL:uW X pins H Lz:=I1.fpOk sL (I1.hok.fresh sL);have k3: ∀b u,J.get? b=some u->N.heap.get? b=some u:=λb u e=>by rw[F];refine hP0 _ (hP0 _ ?_);rw[õ _ _ (ĕ (ë (â e) sL)), <-aq];exact hP0 _ e
 have I3:Inv X pins σ H N:=by have:=I1.kept (h':=N.heap) (t':=tk) k3;rw[F]at this ⊢;exact this
 have aw:X.A.in1.in1.units+64<cLine:=by show X.A.units+1+1+64<cLine;lia
 obtain⟨q,gL⟩: ∃q,N.heap.get? Lz=some (seqObj "list" #[] q):=by rw[F];exact⟨_,hP0 _ (hP0 _ (get?_update_seq W (λ_=>#[])))⟩
 refine⟨tuples' true,(λp=> ∃d v,d∈y/\Den X.K α H d v/\RelV v p.1),ltV X.K α H S y,λak=>?_,λout op os=>?_⟩
 .have ne:y≠[]:=λz=>by rw[B,z]at ak;exact absurd ak ↑4
  refine⟨B4 I3 ne C dl P,W4 I3 wd aw ne C hord,λp hp=>?_⟩;have ax:p.1∈its:=(of_mem_zip hp).1;obtain⟨i,hi⟩:=ĝ ax;have af:i<xs.length:=by rw[P.length];exact(gS.mp hi).1
  obtain⟨u',aa,r⟩:=P.get (gE af);rw[hi]at aa;cases aa;obtain⟨d,ar,ay⟩:=dl.get (gE af);exact⟨d,_,á ar,ay,r⟩
 .obtain⟨n,ip,ie⟩:=tT op.symm (List.range y.length) (ML B B);have ib: ∀i,i∈n->i<y.length:=λi hi=>ý.mp (ip.mem_iff.mp hi);have eo:out.map (·.2)=n.filterMap (its[·]?):=by rw[<-ie,ę];exact AM λi hi=>by rw[B];exact ib i hi
  have po:n.Pairwise (λi j=> ∀a c,y[i]? =some a->y[j]? =some c->qS S zH c a=some false):=by rw[<-ie,ņ]at os;refine Ň (λ{i j} hi hj h a c ha Z=>?_) os;have ui:its[i]? =some (its[i]'(by rw[B];exact ib i hi)):=gE _;have uj:its[j]? =some (its[j]'(by rw[B];exact ib j hj)):=gE _;have h':(qS S zH _ _).getD false=false:=h;rw[ui,uj]at h';simp only[Option.getD_some]at h';rw[PC I3 aj dl P ui ha,PC I3 aj dl P uj Z]at h';obtain⟨t,ht⟩:=hord.any c (á Z) a (á ha);rw[ht]at h';have h':t=false:=h';rw[ht,h']
  have vy:=Vals.pick P n;have rp:(n.filterMap (y[·]?)).Perm y:=by refine(ip.filterMap _).trans ?_;rw[List.filterMap_getElem?_range_length]
  have rs:(n.filterMap (y[·]?)).Pairwise (λa c=>qS S zH c a=some false):=by rw[List.pairwise_filterMap];exact po.imp λ{i j} h a ha c Z=>h a c ha Z
  refine⟨_,rfl,wP ⟨_,rfl,.ref Lz,wG H Lz (.lst (n.filterMap (xs[·]?))),?_,rfl,hQ _ Lz _ (rp.trans (G▸pM.map _)) rs (I1.hok.fresh sL) (dl.pick n)⟩⟩;obtain⟨f0,f1,f2,f3,f4,f5⟩:=fL
  have I6:Inv X pins σ H {N with heap:=N.heap.update Lz (Obj.mapSeq λ_=>(out.map (·.2)).toArray)}:=
   I3.turned (t':=N.toks) (λb o hb e=>(õ _ _ (Ne.symm hb)).trans e) f0 f1 f3 f4 f5
  obtain⟨n',az⟩: ∃n',(N.heap.update Lz (Obj.mapSeq λ_=>(out.map (·.2)).toArray)).get? Lz=some _:=⟨_,by have:=get?_update_seq gL (λ_=>(out.map (·.2)).toArray);rw[eo]at this ⊢;exact this⟩
  refine MK (its:=n.filterMap (its[·]?)) I6 ⟨f0,f1,f2,f3,f4,f5⟩ (ï I1.sz sL) az vy ?_
  .have:=List.length_filterMap_le (xs[·]?) n;have h3:=ip.length_eq;rw[î]at h3
   lia
end
structure SetOk(S:Sto)(ds:U0):Prop where
 tn: ∃kss C:List (List Int),ds=kss.map GE/\(∀k∈kss,k≠[])/\C.length<2000/\ ∀k∈kss,k∈C
 ord:OrdD S ds
def Aj(S:Sto)(ds r:U0):Prop:=(∀d,d∈r↔d∈ds)/\r.Nodup/\r.Pairwise (λa c=>qS S zH c a=some false)
open Classical in
def IU(rs:List Er)(S:Sto):R Er:=match rs with
 |[p]=>match wI S p with
  |some ds=>if h: ∃r,SetOk S ds/\ ∀a,Aj S ds a->a=r then .ok (.new (Classical.choose h)) S else .no
  |none=>.no
 |_=>.no
def Qr(e:wI S p=some ds)(ok:SetOk S ds)(u: ∀d,Aj S ds d->d=r)(a:Aj S ds r):IU [p] S=.ok (.new r) S:=by
 unfold IU;dsimp only;rw[e];dsimp only;have h: ∃r,SetOk S ds/\ ∀d,Aj S ds d->d=r:=⟨r,ok,u⟩
 rw[dif_pos h];obtain⟨_,b⟩:=ò h;rw[<-b r a]
section
variable{p1 p2 pos1 pos2:Pos}
theorem Qs(hu:X.A.units+128<cLine)(F:X.calm=true)(hg:Gl X "sorted")(v:X.mg "sorted"=none)(Z:Gl X "set")(P:X.mg "set"=none)(O:MA X W [e] af)
  (he:starEach [e] X.env=(false,eval e X.env)::starEach [] X.env:=by rfl) (hpl:(backTo pos2 (starEach [] X.env)).any (·.1)=false:=by rfl)
  (he1:starEach [.Call (.Name "set" p2) [e] [] pos2] X.env=(false,eval (.Call (.Name "set" p2) [e] [] pos2) X.env)::starEach [] X.env:=by rfl) (hpl1:(backTo pos1 (starEach [] X.env)).any (·.1)=false:=by rfl):
  zT X W (.Call (.Name "sorted" p1) [.Call (.Name "set" p2) [e] [] pos2] [] pos1) (λρ S=>(af ρ S).bind IU):=by
 obtain⟨t,O,k⟩:=O;refine⟨_,RI ((show CallR X (.builtin "sorted") (λxs H Q=> ∃(α:B9)(S:Sto)(l:Addr)(M:List (List Int×Addr)),xs=[.ref l]/\H l=some (Jo X.w l M)/\Wd X.g α S H/\(∀x∈M,Den X.K α H (GE x.1) (.ref x.2))/\M.length<2000/\(∀x∈M,x.1≠[])/\OrdD S (M.map λx=>GE x.1)/\X.calm=true/\
  ∀ r  p  J ,r.Perm (M.map λx=>GE x.1)->r.Pairwise (λa c=>qS S zH c a=some false)->H p=none->DenL X.K α H r J->Q (.ref p) (wG H p (.lst J))) by
   intro pins s σ H xs us Q I r h;obtain⟨α,S,l,M,rfl,o,T,hM,hn,n,ho,F,q⟩:=h;obtain⟨u,rfl,rx⟩:=vals1 r;cases rx;obtain⟨hs,_⟩:=(I.hok l _ o)
   exact Jp F hu I T hs hM hn n ho q)) hg v HX (FV (CL Dy Z P (by decide+kernel) O ↑4 ↑4 he hpl) NO he1) ↑4 ↑4 he1 hpl1,λα ρ S σ H Q T sl q=>k α ρ S σ H _ T sl (q.bind λvs rs S1 y H1 e1 x1 D d1 i=>?_)⟩
 replace i:=i.shift x1
 unfold IU at i;split at i
 .rename_i r;split at i
  .rename_i ds e1;split at i
   .rename_i h;obtain⟨⟨⟨L,C,m,n,hC,aa⟩,E⟩,un⟩:=ò h;obtain⟨u,rfl,du⟩:=MC d1;obtain⟨l1,us,rfl,c1,c2⟩:=pZ rfl D e1 du;refine⟨y,l1,us,L,C,rfl,c1,m▸c2,hC,aa,F,by lia,λl M o nd v hd B=>⟨y,S1,l,M,rfl,yN,D.new o,λx j=>(hd x j).ext (D.newx o),B,λx j=>n _ ((v _).mp (mM.mpr ⟨x,j,rfl⟩)),E.sub λd N=>?_,F,λr p J hp hs Y z=>?_⟩⟩
    .obtain⟨x,j,rfl⟩:=mM.mp N;rw[m];exact mM.mpr ⟨_,(v _).mp (mM.mpr ⟨x,j,rfl⟩),rfl⟩
    .have G: ∀d,d∈M.map (λx=>GE x.1)↔d∈ds:=λd=>by
      rw[m,mM,mM];constructor
      .rintro⟨x,j,rfl⟩;exact⟨x.1,(v _).mp (mM.mpr ⟨x,j,rfl⟩),rfl⟩
      .rintro⟨k,hk,rfl⟩;obtain⟨x,j,rfl⟩:=mM.mp ((v _).mpr hk);exact⟨x,j,rfl⟩
     have U:(M.map λx=>GE x.1).Nodup:=by
      have:(M.map λx=>GE x.1)=(M.map (·.1)).map GE:=by rw[ę];rfl
      rw[this];unfold List.Nodup;rw[ņ];exact nd.imp λ{a b} ab e=>ab ((by
        injection e with e
        exact(List.map_inj_right λ_ _ h=>by injection h).mp e))
     have er:=un r ⟨λd=>hp.mem_iff.trans (G d),hp.nodup_iff.mpr U,hs⟩;rw[er]at z;exact Post.newl (i.shift (D.newx o)) (D.new o) Y z
   .exact i.elim
  .exact i.elim
 .exact i.elim
end
end M
end L2
namespace L2
namespace M
namespace My
open PySem PySem.Spec PyProof.Rows
set_option bootstrap.genMatcherCode true in
local macro_rules
 | `(tactic|simp? [$xs,*] $[$l:location]?)=>`(tactic|simp only[List.getElem?_cons_zero,List.getElem?_cons_succ,Ol,wV,as_int,U3,Ys,add_int,sub_int,eq_int,Yt,Da,Yw,U5,U6,lst6,tup2,tup3,Yx,Yy,Yz,Zb,Zc,Zd,Os,Ot,List.set_cons_zero,List.set_cons_succ,if_true,Ov,Ou,vJ,kJ,bJ,dJ,nJ,aJ,oJ,iJ,mJ,tJ,fJ,eJ,gJ,uJ,pJ,qJ,rJ,sJ,wJ,yJ,AJ,BJ,CJ,DJ,EJ,FJ,JJ,NJ,$xs,*] $[$l:location]?)
set_option bootstrap.genMatcherCode true in
local macro_rules
 |`(#[$x])=>`(some (.loc $x))
 |`(#[$x,0])=>`(some (.int $x))
 |`(#[$x,1])=>`(.val (.loc $x))
 |`(#[$x,2])=>`(some (.lst $x))
 |`(#[$x,3])=>`(some (.tup $x))
 |`(#[$x,4])=>`(some (.str $x))
 |`(#[$x,5])=>`(.val (.int $x))
 |`(#[$x,6])=>`(.val (.tup $x))
 |`(#[$x,7])=>`(some (.dic $x))
 |`(#[$x,8])=>`(($x).map MV.str)
 |`(#[])=>`(by lia)
 |`(#[$x,$s,0])=>`(.ok (.next $x) $s)
 |`(#[$x,$s,1])=>`(.ok (.val $x) $s)
 |`(#[$x,$s,2])=>`(.ok (.new $x) $s)
abbrev IV:List Str:=[Ŝ,Ş,"_law_number"]
abbrev sV:List Str:=[ř,Š,Ž]
abbrev EU:List Str:=[Ŝ,Ş,Ž,"_law_j"]
abbrev EV:List Str:=[ř,Ś,"_law_letters","_law_names","_law_word_here","_law_way","_law_at"]
abbrev EW:List Str:=[Ŝ,ř,Ś,Ş,"_law_way","_law_value_here"]
abbrev uL:List Str:=[Ŝ,ř,ś,Ş,"_law_wide","_law_key_here"]
abbrev IW:List Str:=[Ŝ,ś,Ś,ř,"_law_t"]
abbrev EX:List Str:=[Ū,ś,Ś,Ũ,ş,Ŝ,ţ]
abbrev EY:List Str:=[ř,ŧ,ś,Ś,Ş]
abbrev AT:List Str:=[ř,ŧ,ś,Ś,Ŧ,Ş,"_law_left","_law_right"]
abbrev EZ:List Str:=[Ŝ,ś,Ś,ř,"_law_way","_law_t","_law_u",Š,"_law_columns","_law_others"]
abbrev FA:List Str:=[ŝ,Ũ,ž,Ś,ś,Š,"_law_rules",Ū,Ş]
abbrev qX:List Str:=["_law_side_here",ş]
abbrev pG:List Str:=[š,ţ]
noncomputable abbrev TR:List Str:=["Rule","Never","Apart","Tie"]
abbrev AF:=AY
abbrev AE:=AX
def AU:AF:=(AJ (aJ (bJ (yJ (vJ 0) (yJ (kJ (.typ "int")) wJ)) qT) (nJ (bJ (yJ (vJ 0) (yJ (kJ (.typ "bool")) wJ)) qT))))
def IX:AF:=(AU)
def mI(ds:U0)(S:Sto):R Er:=zU (IX (zF ["thing"] ds) S)
def wA:AF:=(iJ (bJ (dJ iK (dJ zV (vJ 0) (kJ (.int 0))) (kJ (.str [105,115]))) gV) ((AJ (dJ zV (vJ 0) (kJ (.int 1))))) (JJ))
def dD:AF:=(AJ (dJ zV (dJ zV (dJ zV (vJ 1) (dJ zV (vJ 0) (kJ (.int 1)))) (kJ (.int 1))) (dJ zV (vJ 0) (kJ (.int 2)))))
def iU:AF:=zL (wA) ((dD))
def dE(ds:U0)(S:Sto):R Er:=zU (iU (zF ["side","looked_at"] ds) S)
def oH:AF:=(CJ (fJ 2 dE (yJ (dJ zV (vJ 1) (kJ (.int 0))) (yJ (vJ 0) wJ))) 2)
def oI:AF:=(CJ (fJ 2 dE (yJ (dJ zV (vJ 1) (kJ (.int 2))) (yJ (vJ 0) wJ))) 3)
def oK:AF:=(iJ (bJ (dJ iK (dJ zV (vJ 1) (kJ (.int 1))) (kJ (.str [115,97,109,101]))) gV) ((AJ (dJ iK (vJ 2) (vJ 3)))) (JJ))
def oM:AF:=(iJ (bJ (dJ iK (dJ zV (vJ 1) (kJ (.int 1))) (kJ (.str [117,110,108,105,107,101]))) gV) ((AJ (dJ ME (vJ 2) (vJ 3)))) (JJ))
def oN:AF:=(AJ (aJ (fJ 1 mI (yJ (vJ 2) wJ)) (aJ (fJ 1 mI (yJ (vJ 3) wJ)) (dJ WD (vJ 2) (vJ 3)))))
def tV:AF:=zL (oH) (zL (oI) (zL (oK) (zL (oM) ((oN)))))
def tW(ds:U0)(S:Sto):R Er:=zU (tV (zF ["looked_at","test","left","right"] ds) S)
def dF:AZ:=uJ
def kZ:AE:=(fJ 2 tW (yJ (vJ 1) (yJ (vJ 0) wJ)))
def fX:AF:=(AJ (bJ (yJ (pJ (bJ (vJ 1) VC) (yF 0) (dF) (kZ) 1 [0]) wJ) Oc))
def aC:AF:=(fX)
def xE(ds:U0)(S:Sto):R Er:=zU (aC (zF ["looked_at","tests"] ds) S)
def mK:AZ:=uJ
def dH:AE:=(dJ zV (dJ zV (vJ 1) (kJ (.int 1))) (vJ 0))
def qY:AF:=(AJ (pJ (bJ (vJ 1) VC) (yF 0) (mK) (dH) 1 [0]))
def qZ:AF:=(qY)
def mL(ds:U0)(S:Sto):R Er:=zU (qZ (zF ["row","columns"] ds) S)
def uM:AF:=(AJ (kJ (.bl false)))
def yQ:AF:=(uM)
def fO(ds:U0)(S:Sto):R Er:=zU (yQ (zF ["self","row"] ds) S)
def iL:AF:=(AJ (kJ (.bl false)))
def zS:AF:=(iL)
def xS(ds:U0)(S:Sto):R Er:=zU (zS (zF ["self","row","other"] ds) S)
def sW:AF:=(AJ (kJ (.bl false)))
def yM:AF:=(sW)
def dI(ds:U0)(S:Sto):R Er:=zU (yM (zF ["self","row","rows"] ds) S)
def mN:AF:=(AJ (aJ (dJ iK (dJ zV (vJ 1) (kJ (.int 0))) (dJ zV (bJ (vJ 0) (oG TR "parts")) (kJ (.int 1)))) (fJ 2 xE (yJ (bJ (yJ (vJ 1) wJ) cN) (yJ (dJ zV (bJ (vJ 0) (oG TR "parts")) (kJ (.int 2))) wJ)))))
def xC:AF:=(mN)
def AV(ds:U0)(S:Sto):R Er:=zU (xC (zF ["self","row"] ds) S)
def yV:AF:=(iJ (sJ (bJ (dJ ME (dJ zV (vJ 1) (kJ (.int 0))) (dJ zV (bJ (vJ 0) (oG TR "parts")) (kJ (.int 1)))) gV) (bJ (dJ ME (dJ zV (vJ 2) (kJ (.int 0))) (dJ zV (bJ (vJ 0) (oG TR "parts")) (kJ (.int 2)))) gV)) ((AJ (kJ (.bl false)))) (JJ))
def wC:AF:=(AJ (fJ 2 xE (yJ (bJ (yJ (vJ 1) (yJ (vJ 2) wJ)) cN) (yJ (dJ zV (bJ (vJ 0) (oG TR "parts")) (kJ (.int 3))) wJ))))
def zR:AF:=zL (yV) ((wC))
def xN(ds:U0)(S:Sto):R Er:=zU (zR (zF ["self","row","other"] ds) S)
def xG:List (Str×(List MV->Sto->R Er)):=[("Apart",xN)]
def jY:AF:=(AJ (oJ (NJ "parts_in_turn" 3 xG (vJ 0) (yJ (vJ 1) (yJ (vJ 2) wJ))) (NJ "parts_in_turn" 3 xG (vJ 0) (yJ (vJ 2) (yJ (vJ 1) wJ)))))
def zW:AF:=(jY)
def mP(ds:U0)(S:Sto):R Er:=zU (zW (zF ["self","row","other"] ds) S)
def fY:AY:=(iJ (rJ (bJ (dJ iK (dJ zV (vJ 4) (kJ (.int 0))) (dJ zV (bJ (vJ 0) (oG TR "parts")) (kJ (.int 3)))) gV) (bJ (dJ iK (fJ 2 mL (yJ (vJ 4) (yJ (dJ zV (bJ (vJ 0) (oG TR "parts")) (kJ (.int 4))) wJ))) (vJ 3)) gV)) ((AJ (kJ (.bl false)))) (JJ))
def bA:AY:=(fY)
def kI:AF:=(iJ (bJ (dJ ME (dJ zV (vJ 1) (kJ (.int 0))) (dJ zV (bJ (vJ 0) (oG TR "parts")) (kJ (.int 1)))) gV) ((AJ (kJ (.bl false)))) (JJ))
def aD:AF:=(CJ (fJ 2 mL (yJ (vJ 1) (yJ (dJ zV (bJ (vJ 0) (oG TR "parts")) (kJ (.int 2))) wJ))) 3)
def aF:AF:=(FJ (bJ (vJ 2) HE) (yF 4) (bA))
def uN:AF:=(AJ (kJ (.bl true)))
def yR:AF:=zL (kI) (zL (aD) (zL (aF) ((uN))))
def oO(ds:U0)(S:Sto):R Er:=zU (yR (zF ["self","row","rows","asked","other"] ds) S)
def wK:AF:=(iJ (bJ (dJ iK (dJ zV (vJ 0) (kJ (.int 0))) (kJ (.str [110,101,118,101,114]))) gV) ((AJ (bJ (vJ 0) (Dg "Never" "parts")))) (JJ))
def cS:AF:=(iJ (bJ (dJ iK (dJ zV (vJ 0) (kJ (.int 0))) (kJ (.str [97,112,97,114,116]))) gV) ((AJ (bJ (vJ 0) (Dg "Apart" "parts")))) (JJ))
def FB:AF:=(AJ (bJ (vJ 0) (Dg "Tie" "parts")))
def lU:AF:=zL (wK) (zL (cS) ((FB)))
def tX(ds:U0)(S:Sto):R Er:=zU (lU (zF ["parts"] ds) S)
def mQ:AZ:=uJ
def dL:AE:=(fJ 1 tX (yJ (vJ 0) wJ))
def iV:AF:=(AJ (pJ (bJ (dJ zV (vJ 0) (kJ (.int 1))) VC) (yF 0) (mQ) (dL) 1 []))
def rA:AF:=(iV)
def jZ(ds:U0)(S:Sto):R Er:=zU (rA (zF ["book"] ds) S)
def rB:AF:=(AJ (bJ (yJ (bJ (yJ (dJ zV (vJ 0) (kJ (.int 2))) wJ) iQ) wJ) ES))
def rC:AF:=(rB)
def rD(ds:U0)(S:Sto):R Er:=zU (rC (zF ["book"] ds) S)
def mR:AZ:=uJ
def dM:AE:=(bJ (yJ (vJ 1) (yJ (vJ 0) wJ)) wH)
def mT:AY:=(BJ (eJ gY Pu (vJ 1) (yJ (pJ (bJ (tJ uE (vJ 0) (bJ (dJ gT (vJ 2) (kJ (.int 1))) Co) mJ) VC) (yF 0) (mR) (dM) 1 [3]) wJ)))
def iW:AY:=(mT)
def iY:AF:=(CJ (bJ wJ cN) 1)
def iZ:AF:=(FJ (bJ (yJ (vJ 0) wJ) ZC) (uK 2 (zI (yF 2) (zI (yF 3) xR))) (iW))
def AW:AF:=(AJ (vJ 1))
def rE:AF:=zL (iY) (zL (iZ) ((AW)))
def rF(ds:U0)(S:Sto):R Er:=zU (rE (zF ["rows","pairs","place","i"] ds) S)
def vD:AF:=(AJ (bJ (yJ (dJ zV (vJ 1) (kJ (.int 0))) (yJ (tJ uE (dJ zV (vJ 1) (kJ (.int 1))) mJ (bJ (dJ zV (dJ zV (vJ 0) (dJ zV (vJ 1) (kJ (.int 0)))) (kJ (.int 1))) Co)) wJ)) wH))
def BA:AF:=(vD)
def sX(ds:U0)(S:Sto):R Er:=zU (BA (zF ["tables","row"] ds) S)
def xF:List (Str×(List MV->Sto->R Er)):=[("Rule",xS),("Never",xS),("Apart",mP),("Tie",xS)]
def xW:AZ:=(bJ (NJ "parts_them" 3 xF (vJ 1) (yJ (vJ 4) (yJ (vJ 5) wJ))) oB)
def xX:AE:=(bJ (yJ (kJ (.str [97,112,97,114,116])) (yJ (vJ 2) (yJ (vJ 3) (yJ (vJ 0) wJ)))) wH)
def jA:AF:=(CJ (dJ zV (dJ zV (vJ 0) (kJ (.int 2))) (vJ 2)) 4)
def jB:AF:=(CJ (dJ zV (dJ zV (vJ 0) (kJ (.int 2))) (vJ 3)) 5)
def jC:AF:=(CJ (pJ (bJ (yJ (vJ 1) wJ) ZC) (uK 2 (zI (yF 0) (zI (yF 1) xR))) (xW) (xX) 2 [2,3,4,5]) 6)
def jD:AF:=(iJ (bJ (dJ iK (fJ 2 sX (yJ (dJ zV (vJ 0) (kJ (.int 0))) (yJ (vJ 4) wJ))) (fJ 2 sX (yJ (dJ zV (vJ 0) (kJ (.int 0))) (yJ (vJ 5) wJ)))) gV) ((BJ (eJ gY vA (vJ 6) (yJ (bJ (yJ (kJ (.str [107,101,121])) (yJ (vJ 2) (yJ (vJ 3) wJ))) wH) wJ)))) (JJ))
def oP:AF:=(AJ (vJ 6))
def bF:AF:=zL (jA) (zL (jB) (zL (jC) (zL (jD) ((oP)))))
def bG(ds:U0)(S:Sto):R Er:=zU (bF (zF ["book","rules","i","j","row","other","parted"] ds) S)
def fP:List (Str×(List MV->Sto->R Er)):=[("Rule",dI),("Never",dI),("Apart",dI),("Tie",oO)]
def aG:AZ:=(qJ (bJ (NJ "lacks" 3 fP (vJ 2) (yJ (vJ 3) (yJ (bJ (yJ (vJ 1) wJ) cN) wJ))) oB))
def pH:AE:=(vJ 0)
def aH:AY:=(iJ (bJ (NJ "lacks" 3 fP (vJ 2) (yJ (vJ 4) (yJ (bJ wJ cN) wJ))) oB) ((BJ (eJ gY vA (vJ 1) (yJ (bJ (yJ (vJ 3) (yJ (pJ (bJ (yJ (dJ zV (vJ 0) (kJ (.int 2))) wJ) ZC) (uK 2 (zI (yF 0) (zI (yF 1) xR))) (aG) (pH) 2 [2,4]) wJ)) wH) wJ)))) (JJ))
def cT:AY:=(aH)
def pI:AY:=(FJ (bJ (yJ (dJ zV (vJ 0) (kJ (.int 2))) wJ) ZC) (uK 2 (zI (yF 3) (zI (yF 4) xR))) (cT))
def oQ:AY:=(pI)
def oR:AF:=(CJ (bJ wJ cN) 1)
def oS:AF:=(FJ (bJ (fJ 1 jZ (yJ (vJ 0) wJ)) HE) (yF 2) (oQ))
def oU:AF:=(AJ (vJ 1))
def tY:AF:=zL (oR) (zL (oS) ((oU)))
def nV(ds:U0)(S:Sto):R Er:=zU (tY (zF ["book","ties","rule","i","row"] ds) S)
def gG:AY:=(iJ (bJ (dJ (WN false) (vJ 2) (vJ 0)) gV) ((AJ (kJ (.bl true)))) (JJ))
def hX:AY:=(gG)
def wD:AF:=(FJ (bJ (vJ 1) HE) (yF 2) (hX))
def sY:AF:=(AJ (kJ (.bl false)))
def lB:AF:=zL (wD) ((sY))
def lD(ds:U0)(S:Sto):R Er:=zU (lB (zF ["kept","some","number"] ds) S)
def xK:AZ:=(rJ (bJ (dJ (WN false) (vJ 0) (vJ 2)) gV) (qJ (bJ (fJ 2 lD (yJ (vJ 2) (yJ (vJ 1) wJ))) oB)))
def wO:AE:=(vJ 0)
def gH:AF:=(AJ (pJ (bJ (vJ 0) HE) (uK 2 (zI (yF 0) (zI (yF 1) xR))) (xK) (wO) 2 [1]))
def dN:AF:=(gH)
def hZ(ds:U0)(S:Sto):R Er:=zU (dN (zF ["ties","kept"] ds) S)
def dO:AZ:=uJ
def jE:AE:=(bJ (yJ (vJ 0) (yJ (kJ (.bl true)) wJ)) wH)
def dP:AY:=(BJ (eJ Qe MR (vJ 2) (yJ (vJ 4) (yJ (kJ .non) wJ))))
def wX:AY:=(dP)
def jF:AY:=(FJ (bJ (vJ 3) HE) (yF 4) (wX))
def jG:AY:=(CJ (fJ 2 hZ (yJ (vJ 0) (yJ (vJ 2) wJ))) 3)
def wY:AY:=zL (jF) ((jG))
def gI:AZ:=(bJ (vJ 3) oB)
def bH:AF:=(CJ (bJ (yJ (pJ (bJ (vJ 1) HE) (yF 0) (dO) (jE) 1 []) wJ) ZX) 2)
def bI:AF:=(CJ (fJ 2 hZ (yJ (vJ 0) (yJ (vJ 2) wJ))) 3)
def fZ:AF:=(λa S=>lY (gI) (wY) 10000 a S)
def bK:AF:=(AJ (bJ (yJ (vJ 2) wJ) MS))
def aI:AF:=zL (bH) (zL (bI) (zL (fZ) ((bK))))
def kL(ds:U0)(S:Sto):R Er:=zU (aI (zF ["ties","rows","kept","untied","i"] ds) S)
def oV:List (Str×(List MV->Sto->R Er)):=[("Rule",fO),("Never",AV),("Apart",fO),("Tie",fO)]
def vE:AZ:=uJ
def rG:AE:=(NJ "bars" 2 oV (vJ 0) (yJ (dJ zV (dJ zV (vJ 2) (kJ (.int 2))) (vJ 1)) wJ))
def rH:AZ:=(qJ (bJ (bJ (yJ (pJ (bJ (vJ 2) HE) (yF 0) (vE) (rG) 1 [0,1]) wJ) Od) oB))
def vF:AE:=(vJ 0)
def BB:AF:=(CJ (fJ 1 jZ (yJ (vJ 0) wJ)) 2)
def BC:AF:=(CJ (pJ (bJ (vJ 1) VC) (yF 0) (rH) (vF) 1 [0,2]) 3)
def BD:AF:=(AJ (fJ 2 kL (yJ (fJ 1 nV (yJ (vJ 0) wJ)) (yJ (vJ 3) wJ))))
def PN:AF:=zL (BB) (zL (BC) ((BD)))
def DL(ds:U0)(S:Sto):R Er:=zU (PN (zF ["book","rows","rules","allowed"] ds) S)
def aK:AZ:=(bJ (fJ 4 bG (yJ (vJ 2) (yJ (vJ 3) (yJ (vJ 0) (yJ (vJ 1) wJ))))) oB)
def aL:AE:=(bJ (yJ (vJ 0) (yJ (vJ 1) wJ)) wH)
def sZ:AF:=(CJ (fJ 1 jZ (yJ (vJ 0) wJ)) 1)
def tB:AF:=(AJ (pJ (bJ (fJ 1 rF (yJ (fJ 2 DL (yJ (vJ 0) (yJ (fJ 1 rD (yJ (vJ 0) wJ)) wJ))) wJ)) HE) (uK 2 (zI (yF 0) (zI (yF 1) xR))) (aK) (aL) 2 [0,1]))
def tZ:AF:=zL (sZ) ((tB))
def qC(ds:U0)(S:Sto):R Er:=zU (tZ (zF ["book","rules"] ds) S)
def gK:AF:=(iJ (bJ (dJ WD (vJ 1) (bJ (yJ (vJ 0) wJ) iQ)) gV) ((AJ (dJ zV (vJ 0) (vJ 1)))) (JJ))
def qD:AF:=(AJ (kJ (.int 0)))
def dQ:AF:=zL (gK) ((qD))
def zP(ds:U0)(S:Sto):R Er:=zU (dQ (zF [ŝ,Ş] ds) S)
def lE:AF:=(CJ (dJ FP (dJ gT (dJ gT (dJ gT (dJ FP (vJ 0) (kJ (.int 2147483647))) (dJ qA (dJ qA (kJ (.int 7919)) (vJ 1)) (vJ 1))) (dJ qA (kJ (.int 101)) (vJ 1))) (kJ (.int 11))) (kJ (.int 2147483647))) 2)
def lF:AF:=(CJ (dJ FP (dJ gT (dJ gT (dJ qA (vJ 2) (vJ 2)) (dJ qA (kJ (.int 48271)) (vJ 2))) (kJ (.int 13))) (kJ (.int 2147483647))) 2)
def lH:AF:=(AJ (dJ FP (dJ gT (dJ gT (dJ qA (vJ 2) (vJ 2)) (dJ qA (kJ (.int 69621)) (vJ 2))) (kJ (.int 7))) (kJ (.int 2147483629))))
def vG:AF:=zL (lE) (zL (lF) ((lH)))
def xL(ds:U0)(S:Sto):R Er:=zU (vG (zF IV ds) S)
def kM:AF:=(CJ (dJ FP (dJ zV (vJ 0) (kJ (.int 0))) (vJ 1)) 2)
def kN:AF:=(EJ (dJ KW (dJ zV (vJ 0) (kJ (.int 0))) (vJ 1)) (DJ MF (vJ 0) (kJ (.int 0))))
def uO:AF:=(AJ (vJ 2))
def oW:AF:=zL (kM) (zL (kN) ((uO)))
def zC(ds:U0)(S:Sto):R Er:=zU (oW (zF sV ds) S)
def iA:AY:=(CJ (dJ gT (dJ qA (vJ 2) (kJ (.int 2147483629))) (fJ 2 xL (yJ (dJ KW (vJ 0) (kJ (.int 2))) (yJ (dJ gT (dJ gT (kJ (.int 100)) (dJ qA (kJ (.int 6)) (vJ 1))) (vJ 3)) wJ)))) 2)
def aM:AY:=(iA)
def aO:AF:=(iJ (bJ (dJ iK (dJ FP (vJ 0) (kJ (.int 2))) (kJ (.int 0))) gV) ((AJ (bJ (yJ (dJ KW (vJ 0) (kJ (.int 2))) wJ) cN))) (JJ))
def pK:AF:=(CJ (kJ (.int 0)) 2)
def aP:AF:=(FJ (bJ (yJ (kJ (.int 6)) wJ) iI) (yF 3) (aM))
def aQ:AF:=(AJ (bJ (yJ (vJ 2) wJ) cN))
def oX:AF:=zL (aO) (zL (pK) (zL (aP) ((aQ))))
def zZ(ds:U0)(S:Sto):R Er:=zU (oX (zF EU ds) S)
def bL:AZ:=(bJ (bJ (yJ (vJ 0) (yJ (kJ (.typ "str")) wJ)) qT) oB)
def iB:AE:=(vJ 0)
def iC:AZ:=uJ
def bM:AE:=(dJ zV (vJ 2) (fJ 2 zC (yJ (vJ 1) (yJ (kJ (.int 26)) wJ))))
def pL:AF:=(CJ (kJ (.str [97,98,99,100,101,102,103,104,105,106,107,108,109,110,111,112,113,114,115,116,117,118,119,120,121,122])) 2)
def aR:AF:=(CJ (pJ (bJ (vJ 1) HE) (yF 0) (bL) (iB) 1 []) 3)
def aS:AF:=(CJ (eJ HG MN (kJ (.str [])) (yJ (pJ (bJ (yJ (dJ gT (kJ (.int 1)) (fJ 2 zC (yJ (vJ 0) (yJ (kJ (.int 8)) wJ)))) wJ) iI) (yF 0) (iC) (bM) 1 [0,2]) wJ)) 4)
def aT:AF:=(CJ (fJ 2 zC (yJ (vJ 0) (yJ (kJ (.int 3)) wJ))) 5)
def aU:AF:=(iJ (sJ (bJ (dJ iK (vJ 5) (kJ (.int 0))) gV) (bJ (dJ iK (vJ 3) (bJ wJ cN)) gV)) ((AJ (vJ 4))) (JJ))
def aV:AF:=(iJ (bJ (dJ iK (vJ 5) (kJ (.int 1))) gV) ((AJ (tJ uE (dJ gT (dJ zV (vJ 3) (kJ (.int (-1)))) (vJ 4)) mJ (bJ (bJ (yJ (kJ (.int 8)) (yJ (dJ gT (bJ (yJ (dJ zV (vJ 3) (kJ (.int (-1)))) wJ) iQ) (kJ (.int 1))) wJ)) Pm) Co)))) (JJ))
def aW:AF:=(CJ (fJ 2 zC (yJ (vJ 0) (yJ (bJ (yJ (dJ zV (vJ 3) (kJ (.int (-1)))) wJ) iQ) wJ))) 6)
def aX:AF:=(AJ (dJ gT (dJ gT (tJ uE (dJ zV (vJ 3) (kJ (.int (-1)))) mJ (bJ (vJ 6) Co)) (dJ zV (vJ 4) (kJ (.int 0)))) (tJ uE (dJ zV (vJ 3) (kJ (.int (-1)))) (bJ (dJ gT (vJ 6) (kJ (.int 1))) Co) mJ)))
def cU:AF:=zL (pL) (zL (aR) (zL (aS) (zL (aT) (zL (aU) (zL (aV) (zL (aW) ((aX))))))))
def gA(ds:U0)(S:Sto):R Er:=zU (cU (zF EV ds) S)
def bN:AY:=(CJ (fJ 2 zC (yJ (vJ 1) (yJ (kJ (.int 4)) wJ))) 4)
def bO:AY:=(CJ (dJ Hb (fJ 2 zC (yJ (vJ 1) (yJ (kJ (.int 9)) wJ))) (kJ (.int 4))) 5)
def wZ:AY:=(iJ (bJ (dJ iK (vJ 4) (kJ (.int 0))) gV) ((CJ (dJ gT (dJ Hb (fJ 2 zC (yJ (vJ 1) (yJ (dJ Hb (dJ qA (kJ (.int 2)) (dJ Nu (kJ (.int 10)) (kJ (.int 30)))) (kJ (.int 1))) wJ))) (dJ Nu (kJ (.int 10)) (kJ (.int 30)))) (kJ (.int 1))) 5)) (JJ))
def kC:AY:=(iJ (sJ (bJ (dJ iK (vJ 4) (kJ (.int 1))) gV) (bJ (dJ iK (vJ 4) (kJ (.int 2))) gV)) ((CJ (fJ 2 gA (yJ (vJ 1) (yJ (vJ 2) wJ))) 5)) (JJ))
def bP:AY:=(iJ (bJ (dJ (Ez true) (vJ 5) (vJ 2)) gV) ((BJ (eJ gY vA (vJ 2) (yJ (vJ 5) wJ)))) (JJ))
def bB:AY:=zL (bN) (zL (bO) (zL (wZ) (zL (kC) ((bP)))))
def aY:AF:=(CJ (fJ 2 zZ (yJ (vJ 0) (yJ (kJ (.int 1)) wJ))) 1)
def aZ:AF:=(CJ (bJ wJ cN) 2)
def eC:AF:=(FJ (bJ (yJ (dJ gT (kJ (.int 2)) (fJ 2 zC (yJ (vJ 1) (yJ (kJ (.int 3)) wJ)))) wJ) iI) (yF 3) (bB))
def eE:AF:=(AJ (vJ 2))
def tD:AF:=zL (aY) (zL (aZ) (zL (eC) ((eE))))
def cV(ds:U0)(S:Sto):R Er:=zU (tD (zF EW ds) S)
def jH:AY:=(CJ (dJ gT (kJ (.int 1)) (fJ 2 zC (yJ (vJ 1) (yJ (kJ (.int 4)) wJ)))) 4)
def jI:AY:=(CJ (dJ zV (bJ (yJ (kJ (.int 0)) (yJ (kJ (.int 1)) (yJ (kJ (.int 1)) (yJ (vJ 4) (yJ (fJ 2 zC (yJ (vJ 1) (yJ (dJ gT (vJ 4) (kJ (.int 1))) wJ))) wJ))))) cN) (fJ 2 zC (yJ (vJ 1) (yJ (kJ (.int 5)) wJ)))) 5)
def jK:AY:=(BJ (eJ gY vA (vJ 2) (yJ (bJ (yJ (vJ 4) (yJ (vJ 5) wJ)) wH) wJ)))
def bQ:AY:=zL (jH) (zL (jI) ((jK)))
def bR:AF:=(CJ (fJ 2 zZ (yJ (vJ 0) (yJ (kJ (.int 2)) wJ))) 1)
def bS:AF:=(CJ (bJ wJ cN) 2)
def bT:AF:=(FJ (bJ (yJ (dJ gT (kJ (.int 1)) (fJ 2 zC (yJ (vJ 1) (yJ (kJ (.int 4)) wJ)))) wJ) iI) (yF 3) (bQ))
def bU:AF:=(AJ (bJ (yJ (vJ 2) wJ) fV))
def pN:AF:=zL (bR) (zL (bS) (zL (bT) ((bU))))
def kO(ds:U0)(S:Sto):R Er:=zU (pN (zF uL ds) S)
def mU:AZ:=uJ
def dR:AE:=(dJ zV (vJ 1) (fJ 2 zC (yJ (vJ 2) (yJ (bJ (yJ (vJ 1) wJ) iQ) wJ))))
def lI:AF:=(CJ (fJ 2 zZ (yJ (vJ 0) (yJ (kJ (.int 3)) wJ))) 3)
def lK:AF:=(CJ (fJ 2 zC (yJ (vJ 3) (yJ (bJ (yJ (vJ 1) wJ) iQ) wJ))) 4)
def lL:AF:=(AJ (bJ (yJ (vJ 4) (yJ (bJ (yJ (pJ (bJ (yJ (dJ zV (dJ zV (vJ 1) (vJ 4)) (kJ (.int 0))) wJ) iI) (yF 0) (mU) (dR) 1 [2,3]) wJ) fV) wJ)) wH))
def vH:AF:=zL (lI) (zL (lK) ((lL)))
def nW(ds:U0)(S:Sto):R Er:=zU (vH (zF IW ds) S)
def bV:AY:=(CJ (fJ 3 nW (yJ (vJ 5) (yJ (vJ 1) (yJ (vJ 2) wJ)))) 6)
def yW:AY:=(iJ (rJ (bJ (dJ (Ez true) (vJ 6) (vJ 4)) gV) (bJ (dJ WD (bJ (yJ (vJ 4) wJ) iQ) (vJ 3)) gV)) ((BJ (eJ gY vA (vJ 4) (yJ (vJ 6) wJ)))) (JJ))
def xV:AY:=zL (bV) ((yW))
def eF:AF:=(CJ (bJ wJ cN) 4)
def eG:AF:=(FJ (bJ (vJ 0) HE) (yF 5) (xV))
def eH:AF:=(AJ (bJ (yJ (vJ 4) wJ) fV))
def tE:AF:=zL (eF) (zL (eG) ((eH)))
def cW(ds:U0)(S:Sto):R Er:=zU (tE (zF EX ds) S)
def kP:AF:=(iJ (bJ (dJ iK (fJ 2 zC (yJ (vJ 0) (yJ (kJ (.int 3)) wJ))) (kJ (.int 0))) gV) ((AJ (bJ (yJ (kJ (.str [105,115])) (yJ (dJ zV (vJ 3) (fJ 2 zC (yJ (vJ 0) (yJ (bJ (yJ (vJ 3) wJ) iQ) wJ)))) wJ)) wH))) (JJ))
def eI:AF:=(CJ (fJ 2 zC (yJ (vJ 0) (yJ (bJ (yJ (vJ 1) wJ) iQ) wJ))) 4)
def eK:AF:=(AJ (bJ (yJ (kJ (.str [99,101,108,108])) (yJ (vJ 4) (yJ (fJ 2 zC (yJ (vJ 0) (yJ (dJ zV (dJ zV (vJ 2) (dJ zV (vJ 1) (vJ 4))) (kJ (.int 0))) wJ))) wJ))) wH))
def oY:AF:=zL (kP) (zL (eI) ((eK)))
def xT(ds:U0)(S:Sto):R Er:=zU (oY (zF EY ds) S)
def gM:AY:=(CJ (fJ 4 xT (yJ (vJ 0) (yJ (vJ 1) (yJ (vJ 2) (yJ (vJ 3) wJ))))) 6)
def gN:AY:=(CJ (fJ 4 xT (yJ (vJ 0) (yJ (vJ 1) (yJ (vJ 2) (yJ (vJ 3) wJ))))) 7)
def gO:AY:=(BJ (eJ gY vA (vJ 4) (yJ (bJ (yJ (vJ 6) (yJ (dJ zV (bJ (yJ (kJ (.str [115,97,109,101])) (yJ (kJ (.str [117,110,108,105,107,101])) (yJ (kJ (.str [108,101,115,115])) (yJ (kJ (.str [115,97,109,101])) wJ)))) cN) (fJ 2 zC (yJ (vJ 0) (yJ (kJ (.int 4)) wJ)))) (yJ (vJ 7) wJ))) wH) wJ)))
def gB:AY:=zL (gM) (zL (gN) ((gO)))
def dS:AF:=(CJ (bJ wJ cN) 4)
def dU:AF:=(FJ (bJ (yJ (dJ zV (bJ (yJ (kJ (.int 1)) (yJ (kJ (.int 1)) (yJ (kJ (.int 2)) (yJ (kJ (.int 3)) wJ)))) cN) (fJ 2 zC (yJ (vJ 0) (yJ (kJ (.int 4)) wJ)))) wJ) iI) (yF 5) (gB))
def dW:AF:=(AJ (bJ (yJ (vJ 4) wJ) fV))
def rK:AF:=zL (dS) (zL (dU) ((dW)))
def xD(ds:U0)(S:Sto):R Er:=zU (rK (zF AT ds) S)
def iD:AZ:=uJ
def bW:AE:=(fJ 2 zC (yJ (vJ 2) (yJ (dJ zV (dJ zV (vJ 1) (vJ 3)) (kJ (.int 0))) wJ)))
def iE:AZ:=uJ
def bX:AE:=(fJ 2 zC (yJ (vJ 2) (yJ (dJ zV (dJ zV (vJ 1) (vJ 3)) (kJ (.int 0))) wJ)))
def eP:AF:=(CJ (fJ 2 zZ (yJ (vJ 0) (yJ (kJ (.int 4)) wJ))) 3)
def eQ:AF:=(CJ (fJ 2 zC (yJ (vJ 3) (yJ (kJ (.int 3)) wJ))) 4)
def eR:AF:=(CJ (fJ 2 zC (yJ (vJ 3) (yJ (bJ (yJ (vJ 1) wJ) iQ) wJ))) 5)
def eS:AF:=(CJ (fJ 2 zC (yJ (vJ 3) (yJ (bJ (yJ (vJ 1) wJ) iQ) wJ))) 6)
def kQ:AF:=(iJ (bJ (dJ iK (vJ 4) (kJ (.int 0))) gV) ((AJ (bJ (yJ (kJ (.str [110,101,118,101,114])) (yJ (vJ 5) (yJ (fJ 4 xD (yJ (vJ 3) (yJ (bJ (yJ (vJ 5) wJ) wH) (yJ (vJ 1) (yJ (vJ 2) wJ))))) wJ))) wH))) (JJ))
def kR:AF:=(iJ (bJ (dJ iK (vJ 4) (kJ (.int 1))) gV) ((AJ (bJ (yJ (kJ (.str [97,112,97,114,116])) (yJ (vJ 5) (yJ (vJ 6) (yJ (fJ 4 xD (yJ (vJ 3) (yJ (bJ (yJ (vJ 5) (yJ (vJ 6) wJ)) wH) (yJ (vJ 1) (yJ (vJ 2) wJ))))) wJ)))) wH))) (JJ))
def eT:AF:=(CJ (dJ zV (bJ (yJ (kJ (.int 1)) (yJ (kJ (.int 2)) (yJ (kJ (.int 1)) (yJ (kJ (.int 3)) (yJ (kJ (.int 1)) wJ))))) cN) (fJ 2 zC (yJ (vJ 3) (yJ (kJ (.int 5)) wJ)))) 7)
def eU:AF:=(CJ (bJ (yJ (pJ (bJ (yJ (vJ 7) wJ) iI) (yF 0) (iD) (bW) 1 [1,3,5]) wJ) fV) 8)
def eV:AF:=(CJ (bJ (yJ (pJ (bJ (yJ (vJ 7) wJ) iI) (yF 0) (iE) (bX) 1 [1,3,6]) wJ) fV) 9)
def dX:AF:=(AJ (bJ (yJ (kJ (.str [116,105,101])) (yJ (vJ 5) (yJ (vJ 8) (yJ (vJ 6) (yJ (vJ 9) wJ))))) wH))
def fQ:AF:=zL (eP) (zL (eQ) (zL (eR) (zL (eS) (zL (kQ) (zL (kR) (zL (eT) (zL (eU) (zL (eV) ((dX))))))))))
def xU(ds:U0)(S:Sto):R Er:=zU (fQ (zF EZ ds) S)
def iG:AZ:=uJ
def bY:AE:=(fJ 3 xU (yJ (fJ 2 zP (yJ (vJ 1) (yJ (dJ gT (kJ (.int 3)) (vJ 0)) wJ))) (yJ (vJ 3) (yJ (vJ 2) wJ))))
def iH:AY:=(BJ (eJ gY vA (vJ 7) (yJ (dJ gT (kJ (.int 1)) (dJ qA (kJ (.int 2)) (fJ 2 xL (yJ (fJ 2 zP (yJ (vJ 0) (yJ (kJ (.int 2)) wJ))) (yJ (dJ gT (kJ (.int 30)) (vJ 8)) wJ))))) wJ)))
def eW:AY:=(iH)
def eX:AF:=(CJ (fJ 1 cV (yJ (fJ 2 zP (yJ (vJ 0) (yJ (kJ (.int 0)) wJ))) wJ)) 3)
def eY:AF:=(CJ (fJ 1 kO (yJ (fJ 2 zP (yJ (vJ 0) (yJ (kJ (.int 1)) wJ))) wJ)) 4)
def eZ:AF:=(CJ (fJ 2 zC (yJ (fJ 2 zZ (yJ (fJ 2 zP (yJ (vJ 0) (yJ (kJ (.int 2)) wJ))) (yJ (kJ (.int 5)) wJ))) (yJ (dJ zV (bJ (yJ (kJ (.int 2)) (yJ (kJ (.int 3)) (yJ (kJ (.int 5)) (yJ (kJ (.int 7)) wJ)))) cN) (vJ 2)) wJ))) 5)
def fB:AF:=(CJ (bJ (yJ (pJ (bJ (yJ (vJ 5) wJ) iI) (yF 0) (iG) (bY) 1 [0,3,4]) wJ) fV) 6)
def fC:AF:=(CJ (bJ (yJ (tJ uE (vJ 0) (bJ (dJ gT (kJ (.int 3)) (vJ 5)) Co) mJ) wJ) YX) 7)
def fD:AF:=(FJ (bJ (yJ (dJ FP (fJ 2 xL (yJ (fJ 2 zP (yJ (vJ 0) (yJ (kJ (.int 2)) wJ))) (yJ (kJ (.int 6)) wJ))) (dJ gT (vJ 1) (kJ (.int 1)))) wJ) iI) (yF 8) (eW))
def fE:AF:=(AJ (bJ (yJ (vJ 4) (yJ (vJ 6) (yJ (fJ 4 cW (yJ (tJ uE (vJ 7) mJ (bJ (dJ qA (kJ (.int 2)) (vJ 1)) Co)) (yJ (vJ 4) (yJ (vJ 3) (yJ (vJ 1) wJ))))) wJ))) wH))
def tF:AF:=zL (eX) (zL (eY) (zL (eZ) (zL (fB) (zL (fC) (zL (fD) ((fE)))))))
def cX(ds:U0)(S:Sto):R Er:=zU (tF (zF FA ds) S)
def wF:AF:=(iJ (bJ (dJ iK (dJ zV (vJ 0) (kJ (.int 0))) (kJ (.str [105,115]))) gV) ((AJ (dJ zV (vJ 0) (kJ (.int 1))))) (JJ))
def dY:AF:=(AJ (dJ zV (dJ zV (dJ zV (vJ 1) (dJ zV (vJ 0) (kJ (.int 1)))) (kJ (.int 1))) (dJ zV (vJ 0) (kJ (.int 2)))))
def lN:AF:=zL (wF) ((dY))
def dZ(ds:U0)(S:Sto):R Er:=zU (lN (zF qX ds) S)
def bZ:AY:=(CJ (fJ 2 dZ (yJ (vJ 2) (yJ (vJ 1) wJ))) 5)
def cA:AY:=(CJ (fJ 2 dZ (yJ (vJ 4) (yJ (vJ 1) wJ))) 6)
def cB:AY:=(iJ (sJ (rJ (bJ (dJ iK (vJ 3) (kJ (.str [115,97,109,101]))) gV) (bJ (dJ ME (vJ 5) (vJ 6)) gV)) (rJ (bJ (dJ iK (vJ 3) (kJ (.str [117,110,108,105,107,101]))) gV) (bJ (dJ iK (vJ 5) (vJ 6)) gV))) ((AJ (kJ (.bl false)))) (JJ))
def cC:AY:=(iJ (rJ (bJ (dJ iK (vJ 3) (kJ (.str [108,101,115,115]))) gV) (sJ (bJ (bJ (yJ (vJ 5) (yJ (kJ (.typ "str")) wJ)) qT) oB) (sJ (bJ (bJ (yJ (vJ 6) (yJ (kJ (.typ "str")) wJ)) qT) oB) (bJ (dJ geF (vJ 5) (vJ 6)) gV)))) ((AJ (kJ (.bl false)))) (JJ))
def bC:AY:=zL (bZ) (zL (cA) (zL (cB) ((cC))))
def fF:AF:=(FJ (bJ (vJ 0) VC) (uK 3 (zI (yF 2) (zI (yF 3) (zI (yF 4) xR)))) (bC))
def uP:AF:=(AJ (kJ (.bl true)))
def oZ:AF:=zL (fF) ((uP))
def wL(ds:U0)(S:Sto):R Er:=zU (oZ (zF [Ŧ,ş,"_law_left","_law_word_here","_law_right","_law_one",Ų] ds) S)
def cE:AF:=(AJ (aJ (dJ iK (dJ zV (vJ 0) (kJ (.int 0))) (kJ (.str [110,101,118,101,114]))) (aJ (dJ iK (dJ zV (vJ 1) (kJ (.int 0))) (dJ zV (vJ 0) (kJ (.int 1)))) (fJ 2 wL (yJ (dJ zV (vJ 0) (kJ (.int 2))) (yJ (bJ (yJ (vJ 1) wJ) wH) wJ))))))
def kS:AF:=(cE)
def kT(ds:U0)(S:Sto):R Er:=zU (kS (zF pG ds) S)
def nA:AY:=(iJ (rJ (bJ (dJ iK (dJ zV (vJ 3) (kJ (.int 0))) (dJ zV (vJ 0) (kJ (.int 1)))) gV) (rJ (bJ (dJ iK (dJ zV (vJ 4) (kJ (.int 0))) (dJ zV (vJ 0) (kJ (.int 2)))) gV) (bJ (fJ 2 wL (yJ (dJ zV (vJ 0) (kJ (.int 3))) (yJ (bJ (yJ (vJ 3) (yJ (vJ 4) wJ)) wH) wJ))) oB))) ((AJ (kJ (.bl true)))) (JJ))
def cF:AY:=(nA)
def xP:AF:=(iJ (bJ (dJ ME (dJ zV (vJ 0) (kJ (.int 0))) (kJ (.str [97,112,97,114,116]))) gV) ((AJ (kJ (.bl false)))) (JJ))
def cG:AF:=(FJ (bJ (bJ (yJ (bJ (yJ (vJ 1) (yJ (vJ 2) wJ)) wH) (yJ (bJ (yJ (vJ 2) (yJ (vJ 1) wJ)) wH) wJ)) cN) HE) (uK 2 (zI (yF 3) (zI (yF 4) xR))) (cF))
def rY:AF:=(AJ (kJ (.bl false)))
def kU:AF:=zL (xP) (zL (cG) ((rY)))
def kW(ds:U0)(S:Sto):R Er:=zU (kU (zF [š,ţ,Ų,"_law_one","_law_two"] ds) S)
def mV:AZ:=uJ
def wQ:AE:=(dJ zV (dJ zV (vJ 1) (kJ (.int 1))) (vJ 0))
def cO:AZ:=uJ
def wR:AE:=(dJ zV (dJ zV (vJ 1) (kJ (.int 1))) (vJ 0))
def wU:AZ:=(rJ (bJ (dJ iK (dJ zV (vJ 0) (kJ (.int 0))) (dJ zV (vJ 1) (kJ (.int 3)))) gV) (bJ (dJ iK (pJ (bJ (dJ zV (vJ 1) (kJ (.int 4))) VC) (yF 0) (cO) (wR) 1 [0]) (vJ 2)) gV))
def cP:AE:=(vJ 0)
def yH:AF:=(iJ (sJ (bJ (dJ ME (dJ zV (vJ 0) (kJ (.int 0))) (kJ (.str [116,105,101]))) gV) (bJ (dJ ME (dJ zV (vJ 1) (kJ (.int 0))) (dJ zV (vJ 0) (kJ (.int 1)))) gV)) ((AJ (kJ (.bl false)))) (JJ))
def gP:AF:=(CJ (pJ (bJ (dJ zV (vJ 0) (kJ (.int 2))) VC) (yF 0) (mV) (wQ) 1 [1]) 3)
def gQ:AF:=(AJ (dJ iK (pJ (bJ (vJ 2) HE) (yF 0) (wU) (cP) 1 [0,3]) (bJ wJ cN)))
def yS:AF:=zL (yH) (zL (gP) ((gQ)))
def nB(ds:U0)(S:Sto):R Er:=zU (yS (zF [š,ţ,ş,"_law_due"] ds) S)
def lO:AF:=(EJ (dJ zV (dJ zV (vJ 0) (kJ (.int 2))) (vJ 1)) (uK 2 (zI (yF 2) (zI (yF 3) xR))))
def lQ:AF:=(AJ (bJ (yJ (vJ 2) (yJ (tJ uE (vJ 3) mJ (bJ (dJ zV (dJ zV (dJ zV (vJ 0) (kJ (.int 0))) (vJ 2)) (kJ (.int 1))) Co)) wJ)) wH))
def rL:AF:=zL (lO) ((lQ))
def mW(ds:U0)(S:Sto):R Er:=zU (rL (zF [Ť,"_law_i","_law_t",Ū] ds) S)
def nE:AZ:=uJ
def jL:AE:=(dJ zV (dJ zV (vJ 1) (kJ (.int 2))) (vJ 0))
def jM:AY:=(iJ (bJ (fJ 2 kT (yJ (vJ 6) (yJ (dJ zV (dJ zV (vJ 0) (kJ (.int 2))) (vJ 4)) wJ))) oB) ((BJ (eJ gY vA (vJ 3) (yJ (bJ (yJ (kJ (.str [110,101,118,101,114])) (yJ (vJ 4) (yJ (vJ 5) wJ))) wH) wJ)))) (JJ))
def jN:AY:=(iJ (bJ (fJ 3 nB (yJ (vJ 6) (yJ (dJ zV (dJ zV (vJ 0) (kJ (.int 2))) (vJ 4)) (yJ (vJ 2) wJ)))) oB) ((BJ (eJ gY vA (vJ 3) (yJ (bJ (yJ (kJ (.str [116,105,101])) (yJ (vJ 4) (yJ (vJ 5) wJ))) wH) wJ)))) (JJ))
def xQ:AY:=zL (jM) ((jN))
def nF:AY:=(iJ (rJ (bJ (dJ WD (vJ 4) (vJ 7)) gV) (bJ (fJ 3 kW (yJ (vJ 6) (yJ (dJ zV (dJ zV (vJ 0) (kJ (.int 2))) (vJ 4)) (yJ (dJ zV (dJ zV (vJ 0) (kJ (.int 2))) (vJ 7)) wJ)))) oB)) ((BJ (eJ gY vA (vJ 3) (yJ (bJ (yJ (kJ (.str [97,112,97,114,116])) (yJ (vJ 4) (yJ (vJ 7) (yJ (vJ 5) wJ)))) wH) wJ)))) (JJ))
def kD:AY:=(nF)
def jO:AY:=(iJ (rJ (bJ (dJ WD (vJ 4) (vJ 7)) gV) (bJ (dJ iK (fJ 2 mW (yJ (vJ 0) (yJ (vJ 4) wJ))) (fJ 2 mW (yJ (vJ 0) (yJ (vJ 7) wJ)))) gV)) ((BJ (eJ gY vA (vJ 3) (yJ (bJ (yJ (kJ (.str [107,101,121])) (yJ (vJ 4) (yJ (vJ 7) wJ))) wH) wJ)))) (JJ))
def jP:AY:=(FJ (bJ (yJ (dJ zV (vJ 0) (kJ (.int 1))) wJ) ZC) (uK 2 (zI (yF 5) (zI (yF 6) xR))) (kD))
def kE:AY:=zL (jO) ((jP))
def jQ:AY:=(FJ (bJ (yJ (dJ zV (vJ 0) (kJ (.int 1))) wJ) ZC) (uK 2 (zI (yF 5) (zI (yF 6) xR))) (xQ))
def jR:AY:=(FJ (bJ (vJ 1) VC) (yF 7) (kE))
def kG:AY:=zL (jQ) ((jR))
def cH:AF:=(CJ (pJ (bJ (vJ 1) VC) (yF 0) (nE) (jL) 1 [0]) 2)
def cI:AF:=(CJ (bJ wJ cN) 3)
def cJ:AF:=(FJ (bJ (vJ 1) VC) (yF 4) (kG))
def cK:AF:=(AJ (bJ (yJ (vJ 3) wJ) MP))
def fG:AF:=zL (cH) (zL (cI) (zL (cJ) ((cK))))
def fH(ds:U0)(S:Sto):R Er:=zU (fG (zF [Ť,ſ,ş,"_law_due","_law_i",Ş,š,"_law_j"] ds) S)
def DM:AZ:=(bJ (dJ (Ez false) (dJ zV (vJ 0) (kJ (.int 0))) (bJ (yJ (kJ (.str [107,101,121])) (yJ (kJ (.str [97,112,97,114,116])) wJ)) wH)) gV)
def DO:AE:=(tJ uE (vJ 0) (bJ (kJ (.int 1)) Co) (bJ (kJ (.int 3)) Co))
def DP:AZ:=(bJ (bJ (yJ (vJ 0) (yJ (kJ (.typ "bool")) wJ)) qT) oB)
def DQ:AE:=(vJ 0)
def DR:AY:=(iJ (sJ (qJ (bJ (bJ (yJ (vJ 7) (yJ (kJ (.typ "tuple")) wJ)) qT) oB)) (bJ (dJ ME (pJ (bJ (vJ 7) VC) (yF 0) (DP) (DQ) 1 []) (bJ wJ cN)) gV)) ((AJ (kJ (.bl false)))) (JJ))
def GF:AY:=(DR)
def DS:AY:=(CJ (fJ 1 qC (yJ (vJ 2) wJ)) 6)
def DT:AY:=(iJ (sJ (qJ (bJ (bJ (yJ (vJ 6) (yJ (kJ (.typ "list")) wJ)) qT) oB)) (bJ (dJ ME (vJ 6) (vJ 4)) gV)) ((AJ (kJ (.bl false)))) (JJ))
def DU:AY:=(FJ (bJ (vJ 6) HE) (yF 7) (GF))
def DV:AY:=(BJ (gJ gY Hm (vJ 6)))
def DW:AY:=(BJ (eJ gY vA (vJ 6) (yJ (bJ (yJ (kJ (.int 0)) (yJ (kJ (.int 0)) wJ)) wH) wJ)))
def BE:AY:=zL (DS) (zL (DT) (zL (DU) (zL (DV) ((DW)))))
def Ak:AF:=(CJ (kJ (.int 14)) 1)
def BF:AF:=(iJ (bJ (dJ iK (dJ FP (fJ 2 xL (yJ (fJ 2 zP (yJ (vJ 0) (yJ (kJ (.int 2)) wJ))) (yJ (kJ (.int 6)) wJ))) (kJ (.int 8))) (kJ (.int 3))) gV) ((CJ (kJ (.int 60)) 1)) (JJ))
def PQ:AF:=(CJ (fJ 3 cX (yJ (vJ 0) (yJ (vJ 1) (yJ (kJ (.int 3)) wJ)))) 2)
def PR:AF:=(CJ (fJ 2 DL (yJ (vJ 2) (yJ (bJ (yJ (bJ (yJ (dJ zV (vJ 2) (kJ (.int 2))) wJ) iQ) wJ) ES) wJ))) 3)
def PV:AF:=(CJ (bJ (yJ (pJ (bJ (fJ 2 fH (yJ (vJ 2) (yJ (vJ 3) wJ))) HE) (yF 0) (DM) (DO) 1 []) wJ) IU) 4)
def PX:AF:=(FJ (bJ (yJ (kJ (.int 2)) wJ) iI) (yF 5) (BE))
def Al:AF:=(AJ (kJ (.bl true)))
def Jq:AF:=zL (Ak) (zL (BF) (zL (PQ) (zL (PR) (zL (PV) (zL (PX) ((Al)))))))
def TU(ds:U0)(S:Sto):R Er:=zU (Jq (zF [ŝ,Ũ,Ť,ŧ,"_law_due","_law_turn",Ž,"_law_pair"] ds) S)
section
variable{r:R α}
theorem ev_v(e:ρ[i]? =some (some d)):vJ i ρ S=#[d,S,1]:=by unfold vJ;rw[e];rfl
def ev_b{f:Rho->Sto->R β}(e:f ρ S=.ok a S1)(k:F a S1=r):bJ f F ρ S=r:=by unfold bJ;rw[e];exact k
def ev_d(e:f ρ S=.ok p S1)(a:g ρ S1=.ok q S2)(k:F p q S2=z):dJ F f g ρ S=z:=by unfold dJ;rw[e,wV,a];exact k
def ev_i{f g:Rho->Sto->R α}(e:c ρ S=.ok k S1)(h:(if k=true then f ρ S1 else g ρ S1)=r):iJ c f g ρ S=r:=by unfold iJ;rw[e];exact h
def ev_t{g h:Rho->Sto->R (Option Int)}(e:f ρ S=.ok p S1)(d:g ρ S1=.ok a S2)(c:h ρ S2=.ok b S3)(k:F p a b S3=z):tJ F f g h ρ S=z:=by unfold tJ;rw[e,wV,d,wV,c];exact k
def ev_f(e:a ρ S=.ok rs S1)(k:zG n F rs S1=z):fJ n F a ρ S=z:=by unfold fJ;rw[e];exact k
def ev_e(e:f ρ S=.ok p S1)(c:t p S1=true)(b:a ρ S1=.ok rs S2)(k:F p rs S2=z):eJ t F f a ρ S=z:=by unfold eJ;rw[e,wV,iP c,b];exact k
def ev_p{g:MV->Rho->Sto->R Rho}(e:i ρ S=.ok k S1)(a:k.ds.length<1000000)(b:yD g c f (CF n I ρ) k.gs k.ds S1=.ok o S2)(h:#[o,S2,2]=z):pJ i g c f n I ρ S=z:=by unfold pJ;rw[e,wV,iP a,b];exact h
theorem ev_q{f:AZ}(e:f ρ S=.ok k S1):qJ f ρ S=.ok (!k) S1:=by unfold qJ;rw[e];rfl
theorem ev_y{g:Rho->Sto->R (List Er)}(e:f ρ S=.ok p S1)(a:g ρ S1=.ok l S2):yJ f g ρ S=.ok (p::l) S2:=by unfold yJ;rw[e,wV,a];rfl
def ev_A(e:f ρ S=.ok p S1)(k:.ok (.ret p) S1=y):AJ f ρ S=y:=by unfold AJ;rw[e];exact k
def ev_B(e:f ρ S=.ok p S1)(k:#[ρ,S1,0]=y):BJ f ρ S=y:=by unfold BJ;rw[e];exact k
def ev_C(e:f ρ S=.ok p S1)(k:HC ρ i p S1=y):CJ f i ρ S=y:=by unfold CJ;rw[e];exact k
def ev_D{r:R Rho}(e:f ρ S=.ok p S1)(a:g ρ S1=.ok q S2)(k:F p q d ρ S2=r):DJ F f g d ρ S=r:=by unfold DJ;rw[e,wV,a];exact k
def ev_E{g:MV->Rho->Sto->R Rho}(e:f ρ S=#[d,S1,1])(k:g d ρ S1=.ok ρ' S2)(h:#[ρ',S2,0]=y):EJ f g ρ S=y:=by unfold EJ;rw[e];show(g d ρ S1).bind _=_;rw[k];exact h
def ev_F{g:MV->Rho->Sto->R Rho}(e:i ρ S=.ok k S1)(h:nU g b k.gs k.ds ρ S1=y):FJ i g b ρ S=y:=by unfold FJ;rw[e];exact h
end
section
def modA(h:0<b:=by first |decide|omega):FP #[a,5] #[b,5] S=.ok #[a % b,5] S:=mod_lit h a S
def divA(h:0<b/\b<1073741824:=by first |decide|omega):KW #[a,5] #[b,5] S=.ok #[a / b,5] S:=AC h.1 h.2 a S
def mulA(h: -(2 ^ 64)<a/\a<2 ^ 64:=by decide):qA #[a,5] #[b,5] S=.ok #[a * b,5] S:=AD h b S
def mulB(h:0<=b/\b<4294967296:=by first |exact mdl|decide|omega):qA #[a,5] #[b,5] S=.ok #[a * b,5] S:=YZ ⟨by omega,by omega⟩ a S
end
set_option bootstrap.genMatcherCode true in
local macro_rules
 | `(tactic|exists 7,$[$hs],*)=>`(tactic|first
  |(with_reducible first $[|exact $hs ..]*)
  |((with_reducible first |apply ev_v|apply ev_b|apply ev_d|apply ev_y|apply ev_f|apply ev_C|apply ev_A|apply ev_i|apply ite_t|apply ite_f|apply ev_F|apply ev_p|apply ev_e|apply ev_B|apply ev_r|apply ev_s|apply ev_q|apply ev_a|apply ev_o|apply ev_n|apply ev_t|apply ev_g|apply ev_E|apply ev_D)<;>exists 7,$[$hs],*)
  |(with_reducible first |exact eq_int .. |exact tup2 .. |exact tup3 .. |exact Da .. |exact Yw .. |exact U5 .. |exact U6 ..)
  |(with_reducible show FP _ _ _=_);exact modA
  |(with_reducible show KW _ _ _=_);exact divA
  |(with_reducible show qA _ _ _=_);(first |exact mulA|exact mulB)
  |(with_reducible show iI _ _=_);exact fW (by omega)
  |(with_reducible show yD _ _ _ _ _ _ _=_);(first $[|exact $hs]*)
  |(with_reducible show nU _ _ _ _ _ _=_);(first $[|exact $hs]*)
  |(with_reducible first $[|exact of_eq_true $hs]* $[|refine ite_d $hs ?_]* $[|refine ite_n $hs ?_]* $[|refine(iP $hs).trans ?_]* $[|refine(iN $hs).trans ?_]*)<;>exists 7,$[$hs],*
  |exact rfl)
def cL(a:S[l]? =#[ds,2])(hz:ds.length<1000000):vA #[l,1] [.val d] S=#[.non,S.set l (.lst (ds++[d])),1]:=by show CY #[l,1] S (λds=>if ds.length<sizeLine then some _ else none)=_;unfold CY;dsimp only;rw[a];dsimp only;rw[iP (ë hz (fits (à _)))]
theorem jS(a:S[l]? =#[ds,2]):gY #[l,1] S=true:=by unfold gY;rw[dB a];rfl
def TV(a:S[l]? =#[ds,2])(b:RJ ds.length k=some j):MF #[l,1] #[k,5] d ρ S=.ok ρ (S.set l (.lst (ds.set j d))):=by unfold MF;dsimp only;rw[a];dsimp only;rw[b]
def get_set{S:Sto}(h:S[l]? =some o):(S.set l o')[l]? =some o':=č (gS.mp h).1
def gC{S:Sto}(h:l≠m):(S.set l o')[m]? =S[m]? :=Ć h
def DX(a:S[l]? =#[ds,2]):fV [#[l,1]] S=.ok #[ds,6] S:=by show(match wI S _ with |some ds=>R.ok _ S|none=>.no)=_;rw[dB a]
theorem BG(ds)(S):iQ [#[ds,6]] S=.ok #[ds.length,5] S:=rfl
theorem PY(gf)(ρ)(d)(S):Nf gf ρ (.val d) S=(gf d ρ S).bind λρ' S2=>#[ρ',S2,0]:=rfl
def IY(a:rs.length=n)(i:F (zM rs S).1 (zM rs S).2=#[d,S.set l (.lst [.int x]),1])(h:lo ↑0 d)(b: ∀l,d≠.loc l):zG n F rs S=#[d,S.set l (.lst [.int x]),1]:=by
 unfold zG;rw[iP a,i,yC,wV]
 have c:EQ S (S.set l (.lst [.int x])):=by
  refine⟨by rw[þ];exact à _,λm k=>?_⟩;by_cases e:l=m
  .subst e;exact .inr ⟨_,č k,yB λe j=>by rw[mS.mp j];exact xA _ _⟩
  .exact .inl (Ć e)
 unfold nN;rw[iP c];have e:(S.set l (.lst [.int x])).take ↑0=S.set l (.lst [.int x]):=by rw[ă (by rw[þ];exact à _)]
 cases d with
 |loc m=>exact absurd rfl (b m)
 |_=>dsimp only;rw[iP h,e]
theorem pp30(S):Nu #[10,5] #[30,5] S=.ok #[10 ^ 30,5] S:=rfl
def Qt(h:Nt 0 b)(a)(S):KW #[a,5] #[b,5] S=.ok #[a / b,5] S:=iP h
theorem TX(b:S[l]? =#[[.int x],2])(d:0<n)(h: ∀ a  S ,KW #[a,5] #[n,5] S=.ok #[a / n,5] S):zG 2 zC [#[l,1],#[n,5]] S=.ok #[x % n,5] (S.set l (.lst [.int (x / n)])):=by
 have hs:zF sV [.loc l,.int n]=[some _,some _,none]:=rfl;have c:qN [MV.int x] 0=some _:=rfl;have e:kM [#[l],#[n,0],none] S=#[[#[l],#[n,0],#[x % n,0]],S,0]:=by unfold kM;exists 7,sQ b c,mod_lit d
 have i:kN [#[l],#[n,0],#[x % n,0]] S=#[[#[l],#[n,0],#[x % n,0]],S.set l (.lst [.int (x / n)]),0]:=by unfold kN;exists 7,sQ b c,h,PY,TV b (show RJ [MV.int x].length 0=some 0 from rfl)
 refine IY rfl ?_ (xA _ _) (λl=>by simp);show zC [.loc l,.int n] S=_;unfold zC oW;rw[hs,zA e,zA i];rfl
def pC(b:S[l]? =#[[.int x],2])(a:0<n)(c:n<1073741824):zG 2 zC [#[l,1],#[n,5]] S=.ok #[x % n,5] (S.set l (.lst [.int (x / n)])):=TX b a (AC a c)
theorem PZ(c k)(q:0<=k/\k<100000)(S): ∃n,0<=n/\zG 2 xL [#[c,5],#[k,5]] S=.ok #[n,5] S:=by
 have hs:zF IV [.int c,.int k]=[#[c,0],#[k,0],none]:=rfl;have a:0<=k/\k<4294967296:=⟨q.1,by omega⟩
 have e:lE [#[c,0],#[k,0],none] S=#[[#[c,0],#[k,0],#[(c % 2147483647+7919 * k * k+101 * k+11) % 2147483647,0]],S,0]:=by unfold lE;exists 7,mod_lit (show _<2147483647 by decide),mul_31 a
 have d:0<=(c % 2147483647+7919 * k * k+101 * k+11) % 2147483647:=eN0 _ ↑4;have o:(c % 2147483647+7919 * k * k+101 * k+11) % 2147483647<2147483647:=eL _ ↑4;generalize (c % 2147483647+7919 * k * k+101 * k+11) % 2147483647=m at d o e;have h:lF [#[c,0],#[k,0],#[m,0]] S=#[[#[c,0],#[k,0],#[(m * m+48271 * m+13) % 2147483647,0]],S,0]:=by unfold lF;exists 7,mod_lit (show _<2147483647 by decide),mul_31 ⟨d,by omega⟩
 have b:0<=(m * m+48271 * m+13) % 2147483647:=eN0 _ ↑4;have j:(m * m+48271 * m+13) % 2147483647<2147483647:=eL _ ↑4;generalize (m * m+48271 * m+13) % 2147483647=p at b j h;have i:lH [#[c,0],#[k,0],#[p,0]] S=.ok (.ret #[(p * p+69621 * p+7) % 2147483629,5]) S:=by unfold lH;exists 7,mod_lit (show _<2147483629 by decide),mul_31 ⟨b,by omega⟩
 refine⟨(p * p+69621 * p+7) % 2147483629,eN0 _ ↑4,cQ rfl ?_ (xA _ _) (λl=>by simp)⟩;show xL [.int c,.int k] S=_;unfold xL vG;rw[hs,zA e,zA h,i];rfl
theorem BH(c k)(y:0<=k/\k<100)(S): ∃t,zG 2 zZ [#[c,5],#[k,5]] S=#[[.int t],S,2]:=by
 have hs:zF EU [.int c,.int k]=[#[c,0],#[k,0],none,none]:=rfl;have o:aO [#[c,0],#[k,0],none,none] S=if decide (c % 2=0)=true then .ok (.ret (.new [.int (c / 2)])) S else #[[#[c,0],#[k,0],none,none],S,0]:=by unfold aO;exists 7,mod_lit (show(0:Int)<2 by decide),AC (show(0:Int)<2 by decide) ↑4
 have fin: ∀t,zZ [.int c,.int k] S=#[[.int t],S,2]-> ∃t,zG 2 zZ [#[c,5],#[k,5]] S=#[[.int t],S,2]:=λt h=>⟨t,lZ rfl (by rw[aN];exact h) (yB λe C=>by rw[mS.mp C];exact xA _ _)⟩
 cases s:decide (c % 2=0)with
 |true=>
  rw[s,iP rfl]at o;refine fin (c / 2) ?_;unfold zZ oX;rw[hs,yI o];rfl
 |false=>
  rw[s,iN xF0]at o;have D:pK [#[c,0],#[k,0],none,none] S=#[[#[c,0],#[k,0],#[0,0],none],S,0]:=rfl
  obtain⟨w,b,e,t,m,a,r⟩:=vB (L:=(List.range 6).map λk=>MV.int (k:Nat)) (gf:=yF 3) (body:=aM)
   (λi u b=> ∃(t:Int)(m:V0),u=[#[c,0],#[k,0],#[t,0],m]/\b=S) (λi d hi u p ⟨t,m,a,q⟩=>by subst a q;obtain⟨j,B,rfl⟩:=mM.mp (á hi);rw[ý]at B;obtain⟨n,_,v⟩:=PZ (c / 2) (100+6 * k+(j:Nat)) ⟨by omega,by omega⟩ p;refine⟨[#[c,0],#[k,0],#[t * 2147483629+n,0],#[(j:Nat),0]],p,?_,xO _,_,_,rfl,rfl⟩;rw[show yF 3 _ [#[c,0],#[k,0],#[t,0],m] p=.ok [#[c,0],#[k,0],#[t,0],some _] p from rfl,wV];unfold aM iA;exists 7,YZ (show -(2 ^ 64)<(2147483629:Int)/\_<2 ^ 64 by decide),AC (show(0:Int)<2 by decide) ↑4,mul_31 ⟨y.1,by omega⟩,v) ⟨_,_,rfl,rfl⟩
  subst a r;have z:aP [#[c,0],#[k,0],#[0,0],none] b=#[[#[c,0],#[k,0],#[t,0],m],b,0]:=by unfold aP;simp? [fW (j:=6) ↑4];exact e
  have A:aQ [#[c,0],#[k,0],#[t,0],m] b=.ok (.ret (.new [.int t])) b:=by unfold aQ;exists 7,rfl
  refine fin t ?_;unfold zZ oX;rw[hs,zA o,zA D,zA z,A];rfl
mutual
def pd:MV->Bool
 |.int _=>true
 |.str _=>true
 |.tup ds=>Fe ds
 |_=>false
def Fe:List MV->Bool
 |[]=>true
 |d::ds=>pd d&&Fe ds
end
mutual
def MY:MV->Nat
 |.tup ds=>IZ ds+1
 |_=>0
def IZ:List MV->Nat
 |[]=>0
 |d::ds=>max (MY d) (IZ ds)
end
def JA(ds):pd (.tup ds)=Fe ds:=by rw[pd]
def qE(d)(ds):Fe (d::ds)=(pd d&&Fe ds):=by rw[Fe]
def BI(ds):MY (.tup ds)=IZ ds+1:=by rw[MY]
def qF(d)(ds):IZ (d::ds)=max (MY d) (IZ ds):=by rw[IZ]
def JB:IZ []=0:=by rw[IZ]
def QA(i):MY (.int i)=0:=by simp[MY]
theorem QB: ∀{ds},(∀d∈ds,pd d=true)->Fe ds=true
 |[],_=>(by rw[Fe])
 |d::ds,h=>by rw[qE,h d mF0,QB λe j=>h e (mO _ j)];rfl
theorem QC: ∀{ds},Fe ds=true-> ∀d∈ds,pd d=true
 |[],_,d,h=>by simp at h
 |e::ds,hp,d,h=>by
  rw[qE,aE]at hp;rcases mC.mp h with rfl|h
  .exact hp.1
  .exact QC hp.2 d h
theorem QD: ∀{ds}{n},(∀d∈ds,MY d<=n)->IZ ds<=n
 |[],n,_=>by rw[JB];exact zero_le _
 |d::ds,n,h=>by
  rw[qF];have j:=h d mF0;have b:=QD λe a=>h e (mO _ a)
  lia
theorem TZ: ∀{ds}, ∀d∈ds,MY d<=IZ ds
 |[],d,h=>by simp at h
 |e::ds,d,h=>by
  rcases mC.mp h with rfl|h
  .exact Nat.le_max_left _ _
  .exact ï (TZ d h) (Nat.le_max_right _ _)
def UA(h:pd d=true):(∃i,d=.int i)\/(∃x,d=.str x)\/ ∃ds,d=.tup ds/\Fe ds=true:=by
 cases d with
 |int i=>exact .inl ⟨i,rfl⟩
 |str x=>exact .inr (.inl ⟨x,rfl⟩)
 |tup ds=>exact .inr (.inr ⟨ds,rfl,by rw[<-JA];exact h⟩)
 |_=>rw[pd]at h<;>first |cases h|(intros;simp)
def dec_is[Decidable p][Decidable q](h:p↔q):decide p=decide q:=by
 by_cases a:q
 .rw[dT0 a,dT0 (h.mpr a)]
 .rw[dF0 a,dF0 λz=>a (h.mp z)]
theorem BK: ∀{ds es},(∀d∈ds, ∀f∈es,e d f=some (decide (d=f)))-> ∃bs,FN e ds es=some bs/\(bs.all id&&ds.length==es.length)=decide (ds=es)
 |[],[],_=>⟨[],rfl,by simp⟩
 |[],_::_,_=>⟨[],rfl,by simp⟩
 |_::_,[],_=>⟨[],rfl,by simp⟩
 |d::ds,f::es,h=>by
  obtain⟨bs,m,j⟩:=BK λa i b k=>h a (mO _ i) b (mO _ k);refine⟨decide (d=f)::bs,?_,?_⟩
  .unfold FN;rw[h d mF0 f mF0,m];rfl
  .by_cases c:d=f
   .subst c;rw[List.all_cons,dT0 rfl];simp only[id,ő,lC];rw[show(ds.length+1==es.length+1)=(ds.length==es.length) by simp,j];exact dec_is (by simp)
   .rw[dF0 c];rw[dF0 (λz=>c (List.cons.inj z).1)];rfl
theorem qG: ∀ n {d e},pd d=true->pd e=true->MY d<n->eqv S n d e=some (decide (d=e))
 |0,d,e,_,_,h=>by lia
 |n+1,d,e,hd,he,h=>by
  rcases UA hd with⟨i,rfl⟩|⟨x,rfl⟩|⟨ds,rfl,pds⟩<;>rcases UA he with⟨j,rfl⟩|⟨y,rfl⟩|⟨es,rfl,pes⟩
  .rw[AB];exact congrArg some (dec_is (by simp))
  .rw[Yu,dF0 (by simp)]
  .rw[dF0 (by simp)];rfl
  .rw[Yv,dF0 (by simp)]
  .rw[iR];exact congrArg some (dec_is (by simp))
  .rw[dF0 (by simp)];rfl
  .rw[dF0 (by simp)];rfl
  .rw[dF0 (by simp)];rfl
  .rw[BI]at h;obtain⟨bs,q,m⟩:=BK λa c b k=>qG n (QC pds a c) (QC pes b k) (by have:=TZ a c;lia);show((FN _ ds es).map λbs=>bs.all id&&ds.length==es.length)=_;rw[q];show some (bs.all id&&ds.length==es.length)=_;rw[m];exact congrArg some (dec_is (by simp))
theorem Am(b:pd d=true)(a:pd e=true)(h:MY d<40):iK (.val d) (.val e) S=#[.bl (decide (d=e)),S,1]:=WJ (qG _ b a (by unfold zH;lia))
theorem JC(a:pd d=true): ∀{j},(∀y∈j,pd y=true/\MY y<40)->RV S zH d j=some (j.map λy=>decide (y=d))
 |[],_=>rfl
 |y::j,h=>by have m:=h y mF0;unfold RV;rw[qG zH m.1 a (by unfold zH;exact m.2),JC a λz b=>h z (mO _ b)];rfl
def XC(b:S[l]? =#[ys,2])(e:pd d=true)(hs: ∀x,d≠.str x)(h: ∀y∈ys,pd y=true/\MY y<40):Ez true (.val d) #[l,1] S=#[.bl (!decide (d∈ys)),S,1]:=by
 have c:itemsOf S #[l,1]=some ys:=by unfold itemsOf;exact dB b
 have j:CU true (.val d) #[l,1] S=#[.bl (!decide (d∈ys)),S,1]:=by
  unfold CU;rw[c];dsimp only;rw[JC e h];dsimp only;rw[iP rfl];congr 4;rw[List.any_map];by_cases a:d∈ys
  .rw[dT0 a,List.any_eq_true];exact⟨d,a,by simp⟩
  .rw[dF0 a];rw[List.any_eq_false];intro y i;simp only[Function.comp,id,ô];rintro rfl;exact a i
 cases d with
 |str x=>exact absurd rfl (hs x)
 |_=>exact j
theorem Ea(c:rs.length=n)(k:F (zM rs S).1 (zM rs S).2=#[d,S.set l (.lst [.int x])++T,1])(h:lo ↑0 d)(i: ∀l,d≠.loc l):zG n F rs S=#[d,S.set l (.lst [.int x]),1]:=by
 unfold zG;rw[iP c,k,yC,wV];have a:(S.set l (.lst [.int x])).length=S.length:=þ
 have j:EQ S (S.set l (.lst [.int x])++T):=by
  refine⟨by rw[lA];lia,λm b=>?_⟩;rw[æ (by rw[a];exact b)];by_cases e:l=m
  .subst e;exact .inr ⟨_,č b,yB λe o=>by rw[mS.mp o];exact xA _ _⟩
  .exact .inl (Ć e)
 unfold nN;rw[iP j];have e:(S.set l (.lst [.int x])++T).take ↑0=S.set l (.lst [.int x]):=by rw[<-a];simp
 cases d with
 |loc m=>exact absurd rfl (i m)
 |_=>dsimp only;rw[iP h,e]
theorem GH{P:MV->Prop}{I:Sto->Prop}:
  ∀{ds}{S},(∀d∈ds, ∀S,I S-> ∃j y S',gf d ρb S=.ok j S/\cf j S=.ok true S/\ef j S=#[y,S',1]/\P y/\I S'/\stay gs S')->I S-> ∃out S',yD gf cf ef ρb gs ds S=.ok out S'/\I S'/\out.length=ds.length/\ ∀o∈out,P o
 |[],S,_,h=>⟨[],S,rfl,h,rfl,λo h=>by simp at h⟩
 |d::ds,S,st,h=>by obtain⟨j,y,J,G,m,u,B,v,q⟩:=st d mF0 S h;obtain⟨out,a,e,c,k,b⟩:=GH (λd i=>st d (mO _ i)) v;refine⟨_,a,?_,c,by rw[lC,lC,k],λo n=>(mC.mp n).elim (λz=>z▸B) (b o)⟩;unfold yD;rw[G,yC,wV,m,yC,wV,u,yC,wV];unfold nT;rw[wV,iP q,e];rfl
noncomputable abbrev SN(S:Sto)(x:Int):Sto:=S++[MO.lst [.int x]]
def An(S)(x):(SN S x)[↑0]? =#[[.int x],2]:=by simp
def QE(S)(x y):List.set (SN S x) ↑0 (MO.lst [.int y])=SN S y:=by simp
def rM(S)(x)(b:0<n)(a:n<1073741824):zG 2 zC [#[↑0,1],#[n,5]] (SN S x)=.ok #[x % n,5] (SN S (x / n)):=by have:=pC (An S x) b a;rw[QE]at this;exact this
theorem qH(x){n:Nat}(h:0<n): ∃t:Nat,x % (n:Int)=t/\t<n:=by have a:0<=x % (n:Int):=eN0 _ #[];have c:x % _<n:=eL _ #[];obtain⟨t,b⟩:=Ŏ a;exact⟨t,b,by lia⟩
theorem BL(hs:stay gs S):
  ∀{ds},(∀d∈ds, ∃j,gf d ρb S=.ok j S/\cf j S=.ok (p d) S/\ef j S=#[d,S,1])->yD gf cf ef ρb gs ds S=.ok (ds.filter p) S
 |[],_=>rfl
 |d::ds,st=>by
  obtain⟨j,q,m,u⟩:=st d mF0;have e:=BL hs λd b=>st d (mO _ b);unfold yD
  cases a:p d with
  |true=>
   rw[q,yC,wV,m,yC,wV,a,u,yC,wV];unfold nT;rw[wV,iP hs,e,ĵ a];rfl
  |false=>
   rw[q,yC,wV,m,yC,wV,a,iN xF0,iP hs,e,Ķ (by rw[a];exact xF0)]
theorem Qw(neg)(p)(l)(S):Ez neg p #[l,1] S=CU neg p #[l,1] S:=by
 unfold Ez;split
 .rename_i h;cases h
 .rfl
def Qx(neg)(c:S[l]? =#[ys,2])(j:pd d=true)(h: ∀y∈ys,pd y=true/\MY y<40):Ez neg (.val d) #[l,1] S=#[.bl (if neg=true then !decide (d∈ys)else decide (d∈ys)),S,1]:=by
 have e:itemsOf S #[l,1]=some ys:=by unfold itemsOf;exact dB c
 rw[Qw];unfold CU;rw[e];dsimp only;rw[JC j h];dsimp only
 have b:(ys.map λy=>decide (y=d)).any id=decide (d∈ys):=by
  rw[List.any_map];by_cases a:d∈ys
  .rw[dT0 a,List.any_eq_true];exact⟨d,a,by simp⟩
  .rw[dF0 a];rw[List.any_eq_false];intro y i;simp only[Function.comp,id,ô];rintro rfl;exact a i
 rw[b]
theorem XD(h:S[l]? =#[ds,2]):iK #[l,1] (.new []) S=#[.bl ds.isEmpty,S,1]:=by
 have a:KN S #[l,1]=some (.ls ds):=by show(wI S _).map Vw.ls=_;rw[dB h];rfl
 unfold iK CT;rw[a];cases ds<;>rfl
theorem MZ(ds:List α)(j:Nat):gX ds none (some  j )=ds.take j:=by
 unfold gX;rw[HT.sIx_nat,show HT.sIx ds.length 0 none=0 from rfl,List.drop_zero,Nat.sub_zero];by_cases h:j<=ds.length
 .rw[min_eq_left h]
 .rw[Nat.min_eq_right #[],ă (à _),ă #[]]
theorem NA(ds:List α)(j:Nat):gX ds (some  j ) none=ds.drop j:=by
 unfold gX;rw[HT.sIx_nat];by_cases h:j<=ds.length
 .rw[min_eq_left h,ă (by rw[ó];exact à _)]
 .rw[Nat.min_eq_right #[],œ (à _),œ #[],List.take_nil]
noncomputable abbrev Wl(S:Sto)(l:Nat)(x:Int):Sto:=S.set l (.lst [.int x])
def XE(h:l<↑0)(x):(Wl S l x)[l]? =#[[.int x],2]:=č h
def Jr(h:l≠m)(x):(Wl S l x)[m]? =S[m]? :=Ć h
def Js(S)(l)(x y):(Wl S l x).set l (.lst [.int y])=Wl S l y:=ŉ ..
def rN(S)(l)(x):(Wl S l x).length=S.length:=þ ..
def Ao(S)(x):S++[.lst [.int x]]=Wl (S++[.lst []]) ↑0 x:=by simp[Wl]
def DY(h:l<↑0)(x)(T):Wl S l x++T=Wl (S++T) l x:=by unfold Wl;rw[set_append_left _ _ h]
theorem Jt(h:l<↑0)(x)(o o'):(Wl (S++[o]) l x).set ↑0 o'=Wl (S++[o']) l x:=by unfold Wl;rw[set_append_left _ _ h,set_append_left _ _ h];rw[List.set_append_right _ _ (by rw[þ];exact à _),þ,sub_self];rfl
def GI(h:l<↑0)(x)(o):(Wl (S++[o]) l x)[↑0]? =some o:=by rw[Jr (è h)];simp
def D6(x)(T):EQ S (Wl S l x++T):=by
 refine⟨by rw[lA,rN];exact Nat.le_add_right _ _,λm a=>?_⟩;rw[æ (by rw[rN];exact a)];by_cases e:l=m
 .subst e;exact .inr ⟨_,XE a x,yB λe b=>by rw[mS.mp b];exact xA _ _⟩
 .exact .inl (Jr e x)
def Qz(S)(l)(x)(T)(h:n=↑0):(Wl S l x++T).take n=Wl S l x:=by rw[h,List.take_append_of_le_length (by rw[rN];exact à _),ă (by rw[rN];exact à _)]
def Ra(a:rs.length=n)(b:F (zM rs (Wl S l x)).1 (zM rs (Wl S l x)).2=#[d,Wl S l y++T,1])(h:lo ↑0 d)(c: ∀l,d≠.loc l):zG n F rs (Wl S l x)=#[d,Wl S l y,1]:=by
 unfold zG;rw[iP a,b,yC,wV];unfold nN;rw[iP ((by have:=D6 (S:=Wl S l x) (l:=l) y T;rw[show Wl _ l y=Wl S l y from Js S l x y]at this;exact this))];have e:=Qz S l y T (rN S l x);have h':lo (Wl S l x).length d:=by rw[rN];exact h
 cases d with
 |loc m=>exact absurd rfl (c m)
 |_=>dsimp only;rw[iP h',e]
def JD(b:rs.length=n)(e:zM rs S=(as,S2))(c:F as S2=.ok r (S++T))(d:r=.new ds\/ ∃l,r=#[l,1]/\↑0<=l/\(S++T)[l]? =#[ds,2])(h:CS ↑0 ds):zG n F rs S=#[ds,S,2]:=by
 have a:F (zM rs S).1 (zM rs S).2=.ok r (S++T):=by rw[e];exact c
 rcases d with rfl|⟨l,rfl,h1,h2⟩
 .exact lZ b a h
 .exact (by unfold zG;rw[iP b,a];exact Ht h1 h2 h)
def tG(c:l<↑0)(b:0<n)(a:n<1073741824):zG 2 zC [#[l,1],#[n,5]] (Wl S l x)=.ok #[x % n,5] (Wl S l (x / n)):=by have:=pC (XE c x) b a;rw[Js]at this;exact this
noncomputable def abc:List Nat:=[97,98,99,100,101,102,103,104,105,106,107,108,109,110,111,112,113,114,115,116,117,118,119,120,121,122]
def iM(h:Vl d):pd d=true/\MY d=0:=by
 rcases h.cases with⟨i,rfl,_⟩|⟨x,rfl,_⟩
 .exact⟨(by rw[pd]),QA i⟩
 .exact⟨(by rw[pd]),(by simp[MY])⟩
theorem len_str(h:x.length<=1000)(S):iQ [.val (.str x)] S=.ok #[x.length,5] S:=iP (fits #[])
theorem adds(h:x.length+y.length<=1000)(S):gT (.val (.str x)) (.val (.str y)) S=#[.str (x++y),S,1]:=add_str (fits #[])
def JE(x)(r):rX [] (x::r)=x++rX [] r:=by
 cases r with
 |nil=>show x=x++[];rw[aN]
 |cons y r=>show x++[]++rX [] _=_;rw[aN]
theorem Ap: ∀{ds},(∀d∈ds, ∃c,d=MV.str [c]/\97<=c/\c<=122)-> ∃zs,qV ds=some zs/\zs.length=ds.length/\(∀z∈zs,z.length=1)/\(rX [] zs).length=ds.length/\ ∀c∈rX [] zs,97<=c/\c<=122
 |[],_=>⟨[],rfl,rfl,by simp,rfl,by intro c j;simp[rX]at j⟩
 |d::ds,h=>by
  obtain⟨c,rfl,j⟩:=h d mF0;obtain⟨zs,o,i,k,m,n⟩:=Ap λe a=>h e (mO _ a);refine⟨[c]::zs,?_,by rw[lC,lC,i],λz b=>?_,by rw[JE,lA,m];simp[add_comm],λe a=>?_⟩
  .unfold qV;rw[o];rfl
  .rcases mC.mp b with rfl|b
   .rfl
   .exact k z b
  .rw[JE]at a;rcases é.mp a with a|a
   .rw[mS.mp a];exact j
   .exact n e a
theorem Rb(h: ∀d∈ds, ∃c,d=MV.str [c]/\97<=c/\c<=122)(m:ds.length<=8)(S): ∃w:List Nat,w.length=ds.length/\(∀c∈w,97<=c/\c<=122)/\MN (.val (.str [])) [.new ds] S=#[.str w,S,1]:=by obtain⟨n,j,k,b,i,e⟩:=Ap h;refine⟨_,i,e,?_⟩;unfold MN;dsimp only;rw[show wI S _=some ds from rfl];dsimp only;rw[j];dsimp only;rw[iP ⟨by show 0<=100;decide,by lia,λz a=>by rw[b z a];decide⟩]
noncomputable def D8:MV->Bool
 |.str _=>true
 |_=>false
abbrev W7(l lp:Nat)(b d a c x6:V0):Rho:=[#[l],#[lp],b,d,a,c,x6]
def Re{lp:Nat}(K:l<↑0)(N:l≠lp)(hV: ∀d∈vs,Vl d)(aa:vs.length<1000)(hP:S[lp]? =#[vs,2]):
  ∃y L,Nm y/\zG 2 gA [#[l,1],#[lp,1]] (Wl S l x)=#[.str y,Wl S l L,1]:=by
 have hs:zF EV [.loc l,.loc lp]=W7 l lp none none none none none:=rfl;have B:(Wl S l x)[lp]? =#[vs,2]:=by rw[Jr N];exact hP
 have O:pL (W7 l lp none none none none none) (Wl S l x)=#[W7 l lp #[abc,4] none none none none,Wl S l x,0]:=rfl;have o:yD (yF 0) bL iB [none] [(lp,vs)] vs (Wl S l x)=.ok (vs.filter D8) (Wl S l x):=BL (jW B) λd s=>⟨[some d],rfl,by unfold bL;rcases (hV d s).cases with⟨i,rfl,_⟩|⟨y,rfl,_⟩<;>(simp? [wV];rfl),rfl⟩
 have W: ∀d∈vs.filter D8, ∃q,d=.str q/\Nm q:=λd s=>by
  have hm:=ü.mp s;rcases (hV d hm.1).cases with⟨i,rfl,_⟩|⟨y,rfl,J⟩
  .have:=hm.2;cases this
  .exact⟨y,rfl,J⟩
 generalize vs.filter D8=ns at W o;have m:l<(S++[MO.lst ns]).length:=by rw[lA];omega
 have M:aR (W7 l lp #[abc,4] none none none none) (Wl S l x)=#[W7 l lp #[abc,4] #[↑0] none none none,Wl (S++[.lst ns]) l x,0]:=by unfold aR;simp? [dC B,show(vs.length<1000000)=True from eq_true (by omega),show CF 1 [] (W7 l lp #[abc,4] none none none none)=[none]from rfl,o,rN,DY K]
 have C: ∀z,(Wl (S++[MO.lst ns]) l z)[↑0]? =#[ns,2]:=λz=>GI K z _;have ab:0<=x % 8:=eN0 _ ↑4;have af:x % 8<8:=eL _ ↑4;obtain⟨out,X,e,⟨b,rfl⟩,G,H⟩:=GH (gf:=yF 0) (cf:=iC) (ef:=bM) (ρb:=[none,#[l],#[abc,4]]) (gs:=[]) (P:=λy=> ∃c,y=MV.str [c]/\97<=c/\c<=122) (I:=λX=> ∃z,X=Wl (S++[.lst ns]) l z) (ds:=(List.range (1+x % 8).toNat).map λk=>MV.int (k:Nat)) (S:=Wl (S++[.lst ns]) l (x / 8)) (λd s S1 ⟨z,hz⟩=>by subst hz;obtain⟨k,Z⟩:=nZ (xs:=abc) (i:=z % 26) (eN0 _ ↑4) (by have:=eL z (show(0:Int)<26 by decide);show z % 26<26;exact this);refine⟨[some d,#[l],#[abc,4]],.str [k],Wl (S++[.lst ns]) l (z / 26),rfl,rfl,?_,⟨k,rfl,aB (P:=λk=>97<=k/\k<=122) ↑4 Z⟩,⟨_,rfl⟩,xO _⟩;unfold bM;exists 7,tG m (show(0:Int)<26 by decide) ↑4,ix_str (show abc.length<=sizeLine by rw[Ď];decide) Z) ⟨_,rfl⟩;rw[lM,î]at G;obtain⟨w,ag,Zr,K6⟩:=Rb H (by omega) (Wl (S++[.lst ns]) l b);have r:Nm w:=⟨by omega,by omega,Zr⟩
 have Q:aS (W7 l lp #[abc,4] #[↑0] none none none) (Wl (S++[.lst ns]) l x)=#[W7 l lp #[abc,4] #[↑0] #[w,4] none none,Wl (S++[.lst ns]) l b,0]:=by unfold aS;exists 7,(λx S=>rfl),tG m (show(0:Int)<8 by decide) ↑4,fW (S:=Wl (S++[.lst ns]) l (x / 8)) (j:=1+x % 8) (by omega),show(((List.range (1+x % 8).toNat).map λk=>MV.int (k:Nat)).length<1000000)=True from eq_true (by rw[lM,î];omega),e,K6
 have U:aT (W7 l lp #[abc,4] #[↑0] #[w,4] none none) (Wl (S++[.lst ns]) l b)=#[W7 l lp #[abc,4] #[↑0] #[w,4] #[b % 3,0] none,Wl (S++[.lst ns]) l (b / 3),0]:=by unfold aT;exists 7,tG m (show(0:Int)<3 by decide) ↑4
 have E:aU (W7 l lp #[abc,4] #[↑0] #[w,4] #[b % 3,0] none) (Wl (S++[.lst ns]) l (b / 3))=if(decide (b % 3=0) || ns.isEmpty)=true then .ok (.ret (.val (.str w))) (Wl (S++[.lst ns]) l (b / 3))else #[W7 l lp #[abc,4] #[↑0] #[w,4] #[b % 3,0] none,Wl (S++[.lst ns]) l (b / 3),0]:=by unfold aU;cases u:decide (b % 3=0)<;>cases hn:ns.isEmpty<;>(simp? [u,XD (C _),hn];rfl)
 have fin: ∀y z,Nm y->cU (W7 l lp none none none none none) (Wl S l x)=.ok (.ret (.val (.str y))) (Wl (S++[.lst ns]) l z)-> ∃y L,Nm y/\zG 2 gA [#[l,1],#[lp,1]] (Wl S l x)=#[.str y,Wl S l L,1]:=λy z J h=>by refine⟨y,z,J,Ra (T:=[.lst ns]) rfl ?_ (pE _ _) (λl=>by simp)⟩;show gA [.loc l,.loc lp] (Wl S l x)=_;unfold gA;rw[hs,h,DY K];rfl
 cases u:(decide (b % 3=0) || ns.isEmpty)with
 |true=>
  rw[u,iP rfl]at E;refine fin w (b / 3) r ?_;unfold cU;rw[zA O,zA M,zA Q,zA U,yI E]
 |false=>
  rw[u,iN xF0]at E;have A:ns≠[]:=λz=>by rw[z]at u;simp at u
  obtain⟨d,s⟩:=Ow (xs:=ns) (i:= -1) (by have:=List.length_pos_iff.mpr A;omega) (by omega);obtain⟨q,rfl,v⟩:=aB (P:=λd=> ∃q,d=MV.str q/\Nm q) W s;have q1:=v.1;have q2:=v.2.1;have w1:=r.1;have w2:=r.2.1;have p: ∀z,zV #[↑0,1] #[-1,5] (Wl (S++[MO.lst ns]) l z)=#[.str q,Wl (S++[MO.lst ns]) l z,1]:=λz=>sQ (C z) s;have lq: ∀S,iQ [.val (.str q)] S=.ok #[q.length,5] S:=len_str (by omega);have D: ∀S,Pm [#[8,5],#[(q.length:Int)+1,5]] S=.ok #[(min 8 (q.length+1):Nat),5] S:=λS=>by show R.ok (Er.val (.int (if(q.length:Int)+1<8 then(q.length:Int)+1 else 8))) S=_;congr 3;split<;>omega
  have F:aV (W7 l lp #[abc,4] #[↑0] #[w,4] #[b % 3,0] none) (Wl (S++[.lst ns]) l (b / 3))=if decide (b % 3=1)=true then .ok (.ret (.val (.str ((q++w).take (min 8 (q.length+1)))))) (Wl (S++[.lst ns]) l (b / 3))else #[W7 l lp #[abc,4] #[↑0] #[w,4] #[b % 3,0] none,Wl (S++[.lst ns]) l (b / 3),0]:=by unfold aV;simp? [p,adds (x:=q) (y:=w) (by omega),lq,D,cut_str (S:=Wl (S++[MO.lst ns]) l (b / 3)) (fits (show(q++w).length<=1000000 by rw[lA];omega)),MZ]
  cases Y:decide (b % 3=1)with
  |true=>
   rw[Y,iP rfl]at F;refine fin ((q++w).take (min 8 (q.length+1))) (b / 3) ⟨?_,?_,λc o=>?_⟩ ?_
   .rw[lT,lA];omega
   .rw[lT];omega
   .rcases é.mp (ī o)with h|h
    .exact v.2.2 c h
    .exact Zr c h
   .unfold cU;rw[zA O,zA M,zA Q,zA U,zA E,yI F]
  |false=>
   rw[Y,iN xF0]at F;obtain⟨t,ht,ae⟩:=qH (b / 3) (n:=q.length) (by omega);have e7:aW (W7 l lp #[abc,4] #[↑0] #[w,4] #[b % 3,0] none) (Wl (S++[.lst ns]) l (b / 3))=#[W7 l lp #[abc,4] #[↑0] #[w,4] #[b % 3,0] #[(t:Nat),0],Wl (S++[.lst ns]) l (b / 3 / (q.length:Int)),0]:=by unfold aW;simp? [p,lq,tG (x:=b / 3) m (show(0:Int)<(q.length:Int) by omega) (by omega),ht]
   obtain⟨c,o⟩:=nZ (xs:=w) (i:=0) ↑4 (by omega);have e8:aX (W7 l lp #[abc,4] #[↑0] #[w,4] #[b % 3,0] #[(t:Nat),0]) (Wl (S++[.lst ns]) l (b / 3 / (q.length:Int)))=.ok (.ret (.val (.str (q.take t++[c]++q.drop (t+1))))) (Wl (S++[.lst ns]) l (b / 3 / (q.length:Int))):=by have c2:gX q (some ((t:Int)+1)) none=q.drop (t+1):=NA q (t+1);unfold aX;simp? [p,cut_str (fits (show q.length<=1000000 by omega)),MZ,c2,ix_str (S:=Wl (S++[MO.lst ns]) l (b / 3 / (q.length:Int))) (fits (show w.length<=1000000 by omega)) o,adds (x:=q.take t) (y:=[c]) (by rw[lT,lS];omega),adds (x:=q.take t++[c]) (y:=q.drop (t+1)) (by rw[lA,lT,ó,lS];omega)]
   refine fin (q.take t++[c]++q.drop (t+1)) (b / 3 / (q.length:Int)) ⟨?_,?_,λa ha=>?_⟩ ?_
   .simp only[lA,lS];omega
   .simp only[lA,lS,lT,ó];omega
   .rcases é.mp ha with h|h
    .rcases é.mp h with h|h
     .exact v.2.2 a (ī h)
     .rw[mS.mp h];exact aB (P:=λk=>97<=k/\k<=122) Zr o
    .exact v.2.2 a (mem_of_mem_drop h)
   .unfold cU;rw[zA O,zA M,zA Q,zA U,zA E,zA F,zA e7,e8]
theorem Ju(S)(a b:MO):(S++[a,b])[↑0+1]? =some b:=by rw[ð #[],show ↑0+1 - ↑0=1 by lia];rfl
noncomputable abbrev PP(c:MV)(l m:Nat)(k w v:V0):Rho:=[some c,#[l],#[m],k,w,v]
section
theorem po3{v:Int}(a:l<↑0)(b:Vl (.int v)): ∃d z,Vl (.int d)/\wZ (PP c l m k #[n,0] #[v,0]) (Wl S l x)=#[PP c l m k #[n,0] #[d,0],Wl S l z,0]:=by
 have i:x % _<2 * 10 ^ 30 - 1:=eL _ ↑4;have e:wZ (PP c l m k #[n,0] #[v,0]) (Wl S l x)=if decide (n=0)=true then #[PP c l m k #[n,0] #[x % (2 * 10 ^ 30 - 1) - 10 ^ 30+1,0],Wl S l (x / (2 * 10 ^ 30 - 1)),0]else #[PP c l m k #[n,0] #[v,0],Wl S l x,0]:=by unfold wZ;simp? [pp30,AD (show -_<(2:Int)/\_<2 ^ 64 by decide),(by have:=TX (XE a x) (show _<2 * 10 ^ 30 - 1 by decide) (Qt (by decide+kernel));rw[Js]at this;exact this)]
 by_cases h:n=0
 .rw[dT0 h]at e;exact⟨_,_,⟨by lia,by lia⟩,e⟩
 .rw[dF0 h]at e;exact⟨v,x,b,e⟩
def po4{v:MV}(s:l<↑0)(b:l≠m)(o: ∀d∈vs,Vl d)(a:vs.length<1000)(p:S[m]? =#[vs,2])(q:Vl v): ∃j z,Vl j/\kC (PP c l m k #[n,0] (some v)) (Wl S l x)=#[PP c l m k #[n,0] (some j),Wl S l z,0]:=by
 obtain⟨y,z,w,r⟩:=Re (x:=x) s b o a p;have e:kC (PP c l m k #[n,0] (some v)) (Wl S l x)=if(decide (n=1) || decide (n=2))=true then #[PP c l m k #[n,0] #[y,4],Wl S l z,0]else #[PP c l m k #[n,0] (some v),Wl S l x,0]:=by unfold kC;cases u:decide (n=1)<;>cases i:decide (n=2)<;>(simp? [u,i,r,fT0,iF];try rfl)
 cases h:(decide (n=1) || decide (n=2))with
 |true=>
  rw[h]at e;exact⟨_,_,show Vl (.str y)from w,e⟩
 |false=>
  rw[h]at e;exact⟨v,x,q,e⟩
theorem Eb(r:l<↑0)(i: ∀d∈vs,Vl d)(H:vs.length<100): ∃j G I z,(∀d∈j,Vl d)/\j.length<=vs.length+1/\1<=j.length/\bB (PP c l ↑0 k w v) (Wl (S++[.lst vs]) l x)=#[PP c l ↑0 k G I,Wl (S++[.lst j]) l z,0]:=by
 have a:l<(S++[MO.lst vs]).length:=by rw[lA];lia
 have s:Vl (.int (x / 4 % 9 - 4)):=by have J:0<=x / 4 % 9:=eN0 _ ↑4;have K:x / 4 % 9<9:=eL _ ↑4;exact⟨by lia,by lia⟩
 have B:bN (PP c l ↑0 k w v) (Wl (S++[.lst vs]) l x)=#[PP c l ↑0 k #[x % 4,0] v,Wl (S++[.lst vs]) l (x / 4),0]:=by unfold bN;exists 7,tG a (show(0:Int)<4 by decide) ↑4
 have E:bO (PP c l ↑0 k #[x % 4,0] v) (Wl (S++[.lst vs]) l (x / 4))=#[PP c l ↑0 k #[x % 4,0] #[x / 4 % 9 - 4,0],Wl (S++[.lst vs]) l (x / 4 / 9),0]:=by unfold bO;exists 7,tG a (show(0:Int)<9 by decide) ↑4
 obtain⟨L,F,u,C⟩:=po3 (c:=c) (k:=k) (n:=x % 4) a s;obtain⟨b,e,m,D⟩:=po4 (c:=c) (k:=k) (n:=x % 4) (x:=F) (vs:=vs) a (è r) i #[] (by simp) u;have q:(Wl (S++[.lst vs]) l e)[↑0]? =#[vs,2]:=GI r e _;have p:bP (PP c l ↑0 k #[x % 4,0] (some b)) (Wl (S++[.lst vs]) l e)=if(!decide (b∈vs))=true then #[PP c l ↑0 k #[x % 4,0] (some b),Wl (S++[.lst (vs++[b])]) l e,0]else #[PP c l ↑0 k #[x % 4,0] (some b),Wl (S++[.lst vs]) l e,0]:=by unfold bP;simp? [Qx true q (iM m).1 λy A=>⟨(iM (i y A)).1,by rw[(iM (i y A)).2];decide⟩,jS q,cL q (show vs.length<1000000 by lia),Jt r]
 by_cases h:b∈vs
 .rw[dT0 h,Bool.not_true,iN xF0]at p;refine⟨vs,#[x % 4,0],some b,e,i,le_succ _,List.length_pos_of_mem h,?_⟩;unfold bB;rw[zA B,zA E,zA C,zA D,p]
 .rw[dF0 h,Bool.not_false,iP rfl]at p;refine⟨vs++[b],#[x % 4,0],some b,e,λd o=>?_,by rw[lA];exact à _,by rw[lA];exact Nat.le_add_left _ _,?_⟩
  .rcases é.mp o with o|o
   .exact i d o
   .rw[mS.mp o];exact m
  .unfold bB;rw[zA B,zA E,zA C,zA D,p]
end
def Tx(vs:U0):Prop:=1<=vs.length/\vs.length<=4/\ ∀d∈vs,Vl d
theorem Rf(q)(S): ∃vs,Tx vs/\zG 1 cV [#[q,5]] S=#[vs,S,2]:=by
 obtain⟨t,hw⟩:=BH q 1 ⟨by decide,by decide⟩ S;have m:↑0<(S++[MO.lst []]).length:=by rw[lA];exact ć _
 have I:0<=t % 3:=eN0 _ ↑4;have N:t % 3<3:=eL _ ↑4;have hs:zF EW [.int q]=[#[q,0],none,none,none,none,none]:=rfl;have Q:aY [#[q,0],none,none,none,none,none] S=#[[#[q,0],#[↑0],none,none,none,none],Wl (S++[.lst []]) ↑0 t,0]:=by unfold aY;simp? [hw];rw[Ao]
 have M:aZ [#[q,0],#[↑0],none,none,none,none] (Wl (S++[.lst []]) ↑0 t)=#[PP (.int q) ↑0 (↑0+1) none none none,Wl (S++[.lst []]++[.lst []]) ↑0 t,0]:=by unfold aZ;simp? [rN,DY m];rw[lA];rfl
 have n:((List.range (2+t % 3).toNat).map λk=>MV.int (k:Nat)).length=(2+t % 3).toNat:=by rw[lM,î]
 obtain⟨G,B,e,vs,z,k',a,b,h,r,o,C,D⟩:=vB (L:=(List.range (2+t % 3).toNat).map λk=>MV.int (k:Nat)) (gf:=yF 3) (gs:=[])
  (λi F B=> ∃(vs:U0)(z:Int)(k' a b:V0),F=PP (.int q) ↑0 (↑0+1) k' a b/\B=Wl (S++[.lst []]++[.lst vs]) ↑0 z/\(∀d∈vs,Vl d)/\vs.length<=i/\(i=0\/1<=vs.length)) (λi d hi F Y ⟨vs,z,k',a,b,h,s,o,C,D⟩=>by
   subst h s;have X:i<5:=by have:=(gS.mp hi).1;omega
   obtain⟨A,J,O,K,p,H,y,E⟩:=Eb (c:=.int q) (l:=↑0) (x:=z) (vs:=vs) (k:=some d) (w:=a) (v:=b) m o #[];rw[lA]at E;refine⟨_,_,?_,xO _,A,K,some d,J,O,rfl,rfl,p,by lia,.inr y⟩;rw[show yF 3 d (PP (.int q) ↑0 (↑0+1) k' a b) (Wl (S++[.lst []]++[.lst vs]) ↑0 z)=.ok (PP (.int q) ↑0 (↑0+1) (some d) a b) (Wl (S++[.lst []]++[.lst vs]) ↑0 z)from rfl,wV];exact E) ⟨[],t / 3,none,none,none,rfl,rfl,by simp,à _,.inl rfl⟩
 subst h r;rw[n]at C D;have u:↑0<(S++[MO.lst []]++[MO.lst []]).length:=by simp only[lA,lC,Ĺ];lia
 have T:eC (PP (.int q) ↑0 (↑0+1) none none none) (Wl (S++[.lst []]++[.lst []]) ↑0 t)=#[PP (.int q) ↑0 (↑0+1) k' a b,Wl (S++[.lst []]++[.lst vs]) ↑0 z,0]:=by unfold eC;exists 7,tG u (show(0:Int)<3 by decide) ↑4,fW (j:=2+t % 3) (by omega),e
 have U:eE (PP (.int q) ↑0 (↑0+1) k' a b) (Wl (S++[.lst []]++[.lst vs]) ↑0 z)=.ok (.ret #[↑0+1,1]) (Wl (S++[.lst []]++[.lst vs]) ↑0 z):=by unfold eE;exists 7,rfl
 have P:cV [.int q] S=.ok #[↑0+1,1] (S++[.lst [.int z],.lst vs]):=by unfold cV tD;rw[hs,zA Q,zA M,zA T,U];show R.ok _ _=_;congr 1;rw[<-DY m, <-Ao,aA];rfl
 refine⟨vs,⟨by lia,by lia,o⟩,JD rfl (show zM [#[q,5]] S=([.int q],S)from rfl) P (.inr ⟨_,rfl,le_succ _,?_⟩) (yB λd W=>(o d W).lo _)⟩;exact Ju S _ _
noncomputable def tbl(p:Int×Int):MV:=.tup [.int p.1,.int p.2]
def Jv(ts:Tk):Prop:=1<=ts.length/\ts.length<=4/\ ∀p∈ts,1<=p.1/\p.1<=4/\0<=p.2/\p.2<=p.1
def X7(a b c d e)(S):cN [.val a,.val b,.val c,.val d,.val e] S=#[[a,b,c,d,e],S,2]:=vC (by simp)
noncomputable abbrev T6(c:MV)(l m:Nat)(k w y:V0):Rho:=[some c,#[l],#[m],k,w,y]
theorem Jw(j:l<↑0)(D:ts.length<1000):
  ∃p v u z,(1<=p.1/\p.1<=4/\0<=p.2/\p.2<=p.1)/\bQ (T6 c l ↑0 k w y) (Wl (S++[.lst (ts.map tbl)]) l x)=#[T6 c l ↑0 k v u,Wl (S++[.lst ((ts++[p]).map tbl)]) l z,0]:=by
 have b:l<(S++[MO.lst (ts.map tbl)]).length:=by rw[lA];lia
 have C:0<=x % 4:=eN0 _ ↑4;have F:x % 4<4:=eL _ ↑4;have m:(0:Int)<1+x % 4+1:=by omega
 have B:0<=x / 4 % (1+x % 4+1):=eN0 _ (by omega);have E:x / 4 % (1+x % 4+1)<1+x % 4+1:=eL _ m;have r:jH (T6 c l ↑0 k w y) (Wl (S++[.lst (ts.map tbl)]) l x)=#[T6 c l ↑0 k #[1+x % 4,0] y,Wl (S++[.lst (ts.map tbl)]) l (x / 4),0]:=by unfold jH;exists 7,tG b (show(0:Int)<4 by decide) ↑4
 have h: ∀z,(Wl (S++[.lst (ts.map tbl)]) l z)[↑0]? =#[ts.map tbl,2]:=λz=>GI j z _;obtain⟨d,o⟩:=nZ (xs:=[MV.int 0,.int 1,.int 1,.int (1+x % 4),.int (x / 4 % (1+x % 4+1))]) (i:=x / 4 / (1+x % 4+1) % 5) (eN0 _ ↑4) (eL _ ↑4);obtain⟨a,rfl,n⟩: ∃a,d=.int a/\0<=a/\a<=1+x % 4:=aB (P:=λd=> ∃a,d=MV.int a/\0<=a/\a<=1+x % 4) (λe q=>by simp only[mC,nM,or_false]at q;rcases q with rfl|rfl|rfl|rfl|rfl<;>exact⟨_,rfl,by omega,by omega⟩) o;have A:jI (T6 c l ↑0 k #[1+x % 4,0] y) (Wl (S++[.lst (ts.map tbl)]) l (x / 4))=#[T6 c l ↑0 k #[1+x % 4,0] #[a,0],Wl (S++[.lst (ts.map tbl)]) l (x / 4 / (1+x % 4+1) / 5),0]:=by unfold jI;exists 7,tG (x:=x / 4) b m (by omega),X7,tG b (show(0:Int)<5 by decide) ↑4,HM o
 have s:jK (T6 c l ↑0 k #[1+x % 4,0] #[a,0]) (Wl (S++[.lst (ts.map tbl)]) l (x / 4 / (1+x % 4+1) / 5))=#[T6 c l ↑0 k #[1+x % 4,0] #[a,0],Wl (S++[.lst ((ts++[(1+x % 4,a)]).map tbl)]) l (x / 4 / (1+x % 4+1) / 5),0]:=by unfold jK;simp? [jS (h (x / 4 / (1+x % 4+1) / 5)),cL (h (x / 4 / (1+x % 4+1) / 5)) (by rw[lM];lia),Jt j];rw[đ];rfl
 refine⟨(1+x % 4,a),#[1+x % 4,0],#[a,0],x / 4 / (1+x % 4+1) / 5,⟨by show 1<=1+x % 4;omega,by show 1+x % 4<=4;omega,n.1,n.2⟩,?_⟩;unfold bQ;rw[zA r,zA A,s]
def Jx{ts:Tk}(n):lo n ↑3:=yP (yB λd b=>by obtain⟨p,_,rfl⟩:=mM.mp b;exact yP (yB λe a=>by simp at a;rcases a with rfl|rfl<;>exact xA _ _))
theorem Ec(q)(S): ∃ts,Jv ts/\zG 1 kO [#[q,5]] S=.ok #[ts.map tbl,6] S:=by
 obtain⟨t,hw⟩:=BH q 2 ⟨by decide,by decide⟩ S;have a:↑0<(S++[MO.lst []]).length:=by rw[lA];exact ć _
 have I:0<=t % 4:=eN0 _ ↑4;have N:t % 4<4:=eL _ ↑4;have hs:zF uL [.int q]=[#[q,0],none,none,none,none,none]:=rfl;have P:bR [#[q,0],none,none,none,none,none] S=#[[#[q,0],#[↑0],none,none,none,none],Wl (S++[.lst []]) ↑0 t,0]:=by unfold bR;simp? [hw];rw[Ao]
 have M:bS [#[q,0],#[↑0],none,none,none,none] (Wl (S++[.lst []]) ↑0 t)=#[T6 (.int q) ↑0 (↑0+1) none none none,Wl (S++[.lst []]++[.lst []]) ↑0 t,0]:=by unfold bS;simp? [rN,DY a];rw[lA];rfl
 have o:((List.range (1+t % 4).toNat).map λk=>MV.int (k:Nat)).length=(1+t % 4).toNat:=by rw[lM,î]
 obtain⟨F,C,e,ts,z,k',m,b,n,s,v,r⟩:=vB (L:=(List.range (1+t % 4).toNat).map λk=>MV.int (k:Nat)) (gf:=yF 3) (gs:=[])
  (λi E C=> ∃(ts:Tk)(z:Int)(k' m b:V0),E=T6 (.int q) ↑0 (↑0+1) k' m b/\C=Wl (S++[.lst []]++[.lst (ts.map tbl)]) ↑0 z/\(∀p∈ts,1<=p.1/\p.1<=4/\0<=p.2/\p.2<=p.1)/\ts.length=i) (λi d hi E X ⟨ts,z,k',m,b,n,A,v,r⟩=>by
   subst n A;have W:i<5:=by have:=(gS.mp hi).1;omega
   obtain⟨p,J,O,K,G,D⟩:=Jw (S:=S++[.lst []]) (l:=↑0) (x:=z) (c:=.int q) (ts:=ts) (k:=some d) (w:=m) (y:=b) a #[];rw[lA]at D;refine⟨_,_,?_,xO _,ts++[p],K,some d,J,O,rfl,rfl,λq H=>?_,by rw[lA,r];rfl⟩
   .rw[show yF 3 d (T6 (.int q) ↑0 (↑0+1) k' m b) (Wl (S++[.lst []]++[.lst (ts.map tbl)]) ↑0 z)=.ok (T6 (.int q) ↑0 (↑0+1) (some d) m b) (Wl (S++[.lst []]++[.lst (ts.map tbl)]) ↑0 z)from rfl,wV];exact D
   .rcases é.mp H with h|h
    .exact v q h
    .rw[mS.mp h];exact G) ⟨[],t / 4,none,none,none,rfl,rfl,by simp,rfl⟩
 subst n s;rw[o]at r;have B:↑0<(S++[MO.lst []]++[MO.lst []]).length:=by simp only[lA,lC,Ĺ];lia
 have Q:bT (T6 (.int q) ↑0 (↑0+1) none none none) (Wl (S++[.lst []]++[.lst []]) ↑0 t)=#[T6 (.int q) ↑0 (↑0+1) k' m b,Wl (S++[.lst []]++[.lst (ts.map tbl)]) ↑0 z,0]:=by unfold bT;exists 7,tG B (show(0:Int)<4 by decide) ↑4,fW (j:=1+t % 4) (by omega),e
 have u:(Wl (S++[.lst []]++[.lst (ts.map tbl)]) ↑0 z)[↑0+1]? =#[ts.map tbl,2]:=by have:=GI (l:=↑0) a z (.lst (ts.map tbl));rw[lA]at this;exact this
 have U:bU (T6 (.int q) ↑0 (↑0+1) k' m b) (Wl (S++[.lst []]++[.lst (ts.map tbl)]) ↑0 z)=.ok (.ret #[ts.map tbl,6]) (Wl (S++[.lst []]++[.lst (ts.map tbl)]) ↑0 z):=by unfold bU;exists 7,DX u
 refine⟨ts,⟨by lia,by lia,v⟩,wW (T:=[.lst [.int z],.lst (ts.map tbl)]) rfl ?_ (Jx _) (λl=>by simp)⟩;show kO [.int q] S=_;unfold kO pN;rw[hs,zA P,zA M,zA Q,U];show R.ok _ _=_;congr 1;rw[<-DY a, <-Ao,aA];rfl
noncomputable def zD(r:Nat×List MV):MV:=.tup [.int r.1,.tup r.2]
def iO(ts:Tk)(r:Nat×List MV):Prop:= ∃p,ts[r.1]? =some p/\(r.2.length:Int)=p.1/\ ∀d∈r.2,Vl d
theorem Jy(h:iO ts r):pd (zD r)=true/\MY (zD r)<=2:=by
 obtain⟨p,_,_,b⟩:=h;have c:=QB λd a=>(iM (b d a)).1;have e:=QD λd a=>by rw[(iM (b d a)).2];exact à _
 unfold zD;refine⟨by rw[JA,qE,qE,JA,c];rfl,?_⟩;rw[BI,qF,qF,JB,QA,BI]
 lia
theorem Jz(h:zD r=zD q):r=q:=by
 injection h with h
 injection h with h1 h2
 injection h2 with h2 _
 injection h1 with h1
 injection h2 with h2
 exact Prod.ext #[] h2
def XF(h:iO ts r)(n):lo n (zD r):=by
 obtain⟨p,_,_,c⟩:=h;refine yP (yB λd a=>?_);simp only[mC,nM,or_false]at a;rcases a with rfl|rfl
 .exact xA _ _
 .exact yP (yB λe b=>(c e b).lo n)
theorem Ka{ts:Tk}{t:Nat}(h:ts[t]? =some p):qN (ts.map tbl)  t =some (tbl p):=by have a:=(gS.mp h).1;unfold qN RJ;rw[iP #[],iP (by rw[lM];lia)];show _[(t:Int).toNat]? =_;rw[Ĕ,ì,h];rfl
def SqM(S:Sto)(m:MV)(ds:U0):Prop:=m=.tup ds\/ ∃l,m=.loc l/\S[l]? =#[ds,2]
def SqM.ix(h:SqM S m ds)(a:qN ds i=some d):zV (.val m) #[i,5] S=#[d,S,1]:=by
 rcases h with rfl|⟨l,rfl,hS⟩
 .exact ix_tup a
 .exact sQ hS a
def SqM.len(h:SqM S m ds):iQ [.val m] S=.ok #[ds.length,5] S:=by
 rcases h with rfl|⟨l,rfl,hS⟩
 .rfl
 .exact ZA hS
noncomputable def vI(ts:Tk)(t:Nat):Int:=((ts[t]?).map (·.1)).getD 0
theorem pO(h:ts[t]? =some p):vI ts t=p.1:=by unfold vI;rw[h];rfl
def XG(a:Jv ts)(h:t<ts.length):1<=vI ts t/\vI ts t<=4:=by have:=a.2.2 ts[t] (ł h);rw[pO (gE h)];exact⟨this.1,this.2.1⟩
def QF(b:t<ts.length)(S): ∃e,zV #[ts.map tbl,6] #[(t:Nat),5] S=#[e,S,1]/\zV (.val e) #[0,5] S=.ok #[vI ts t,5] S:=by have a:=gE b;exact⟨_,ix_tup (Ka a),by rw[pO a];rfl⟩
abbrev R7(lc:Nat)(b:MV)(lp:Nat)(w:Int)(lr:Nat)(a x6:V0):Rho:=[#[lc],some b,#[lp],#[w,0],#[lr],a,x6]
theorem Ed(W:Jv ts){lp:Nat}{rs:Z0}(U:Tx vs)(Z:S[lp]? =#[vs,2])(D:S[lr]? =#[rs.map zD,2])
  (hR: ∀r∈rs,iO ts r) (J:rs.Nodup) (hl:(rs.length:Int)<=w) (h9:w<=900): ∃(B:V0)(m:Z0),xV (R7 lc ↑3 lp w lr #[c,0] x6) S=#[R7 lc ↑3 lp w lr #[c,0] B,S.set lr (.lst (m.map zD)),0]/\(∀r∈m,iO ts r)/\m.Nodup/\ m.length <=w:=by
 obtain⟨r,G,C⟩:=(show ∃r,iO ts r/\zG 3 nW [#[c,5],#[ts.map tbl,6],#[lp,1]] S=#[zD r,S,1] by
   obtain⟨n,J⟩:=BH c 3 ⟨by decide,by decide⟩ S;have X:lp<S.length:=(gS.mp Z).1;have E: ∀x,(SN S x)[lp]? =#[vs,2]:=λx=>by rw[æ X];exact Z
   have hp:0<ts.length:=W.1;have ae:=W.2.1;have aa:=U.1;have ab:=U.2.1;have b: ∀S,iQ [#[ts.map tbl,6]] S=.ok #[ts.length,5] S:=λS=>by rw[BG,lM]
   have hs:zF IW [.int c,.tup (ts.map tbl),.loc lp]=[#[c,0],#[ts.map tbl,3],#[lp],none,none]:=rfl;have M:lI [#[c,0],#[ts.map tbl,3],#[lp],none,none] S=#[[#[c,0],#[ts.map tbl,3],#[lp],#[↑0],none],SN S n,0]:=by unfold lI;exists 7,J
   obtain⟨t,ht,p⟩:=qH n hp;have F:lK [#[c,0],#[ts.map tbl,3],#[lp],#[↑0],none] (SN S n)=#[[#[c,0],#[ts.map tbl,3],#[lp],#[↑0],#[(t:Nat),0]],SN S (n / ts.length),0]:=by unfold lK;simp? [b,rM S n (n:=(ts.length:Int)) (by omega) (by omega)];rw[ht]
   have hw:=XG W p;obtain⟨out,Y,e,⟨K,rfl⟩,N,O⟩:=GH (gf:=yF 0) (cf:=mU) (ef:=dR) (ρb:=[none,#[lp],#[↑0]]) (gs:=[]) (P:=Vl) (I:=λY=> ∃y,Y=SN S y) (λd hd S1 ⟨y,Q⟩=>by subst Q;obtain⟨v,hv⟩:=nZ (xs:=vs) (i:=y % (vs.length:Int)) (eN0 _ (by omega)) (eL _ (by omega));refine⟨_,v,SN S (y / (vs.length:Int)),rfl,rfl,?_,aB U.2.2 hv,⟨_,rfl⟩,xO _⟩;unfold dR;simp? [SqM.len (S:=SN S y) (.inr ⟨lp,rfl,E y⟩),rM S y (n:=(vs.length:Int)) (by omega) (by omega),sQ (E _) hv]) ⟨_,rfl⟩;rw[lM,î]at N;have e3:lL [#[c,0],#[ts.map tbl,3],#[lp],#[↑0],#[(t:Nat),0]] (SN S (n / ts.length))=.ok (.ret (.val (zD (t,out)))) (SN S K):=by obtain⟨e',i1,i2⟩:=QF p (SN S (n / ts.length));unfold lL;exists 7,i1,i2,fW (j:=vI ts t) (by omega),show(((List.range (vI ts t).toNat).map λk=>MV.int (k:Nat)).length<1000000)=True from eq_true (by rw[lM,î];omega),e,show fV [.new out] (SN S K)=.ok #[out,6] (SN S K)from rfl
   have G:iO ts (t,out):=⟨ts[t],gE p,by have:=pO (gE p);show(out.length:Int)=_;omega,O⟩
   refine⟨(t,out),G,wW (T:=[.lst [.int K]]) rfl ?_ (XF G _) (λl=>by unfold zD;simp)⟩;show nW [.int c,.tup (ts.map tbl),.loc lp] S=_;unfold nW vH;rw[hs,zA M,zA F,e3];rfl);have M:bV (R7 lc ↑3 lp w lr #[c,0] x6) S=#[R7 lc ↑3 lp w lr #[c,0] (some (zD r)),S,0]:=by unfold bV;exists 7,C
 have A:Ez true (.val (zD r)) _ S=.ok _ S:=XC D (Jy G).1 (λx=>by unfold zD;simp) λy Q=>by obtain⟨q,s,rfl⟩:=mM.mp Q;have:=Jy (hR q s);exact⟨this.1,by lia⟩
 have b:iQ [#[lr,1]] S=.ok _ S:=SqM.len (.inr ⟨lr,rfl,D⟩);have o:zD r∈rs.map zD↔r∈rs:=⟨λh=>by obtain⟨q,s,e⟩:=mM.mp h;rw[<-Jz e];exact s,λh=>List.mem_map_of_mem h⟩
 have u:yW _ S=.ok _ S-> ∃(B:V0)(m:List _),xV _ S=#[R7 lc ↑3 lp w lr #[c,0] B,S.set lr (.lst (m.map zD)),0]/\(∀r∈m,iO ts r)/\m.Nodup/\(m.length:Int)<=w:=λF=>by
  refine⟨some (zD r),rs,?_,hR,J,hl⟩;unfold xV;rw[zA M,F]
  have H:S.set lr (.lst (rs.map zD))=S:=by
   refine Ŕ λj=>?_;by_cases e:lr=j
   .subst e;rw[get_set D,D]
   .rw[gC e]
  rw[H]
 by_cases L:r∈rs
 .refine u ?_;unfold yW;simp? [A,dT0 (o.mpr L)];rfl
 .by_cases hw:((rs.map zD).length:Int)<w
  .have F:yW (R7 lc ↑3 lp w lr #[c,0] (some (zD r))) S=#[R7 lc ↑3 lp w lr #[c,0] (some (zD r)),S.set lr (.lst ((rs++[r]).map zD)),0]:=by unfold yW;simp? [A,dF0 (λz=>L (o.mp z)),b,lt_int,dT0 hw,Bool.not_false,jS D,cL D (by rw[lM];lia)];rw[đ];rfl
   refine⟨some (zD r),rs++[r],?_,?_,?_,?_⟩
   .unfold xV;rw[zA M,F]
   .intro q s;rw[é,mS]at s;rcases s with s|rfl
    .exact hR q s
    .exact G
   .exact nodup_append.mpr ⟨J,by simp,λa ha c hc=>by rw[mS.mp hc];rintro rfl;exact L ha⟩
   .rw[lM]at hw;rw[lA,lS];lia
  .refine u ?_;unfold yW;simp? [A,dF0 (λz=>L (o.mp z)),b,lt_int,dF0 hw,Bool.not_false];rfl
def Rg(G:Jv ts)(is:Za)(hw:0<=w/\w<=900){lp:Nat}(F:Tx vs)(B:S[lp]? =#[vs,2]):
  ∃rs:List (Nat×List MV),(∀r∈rs,iO ts r)/\rs.Nodup/\(rs.length:Int)<=w/\zG 4 cW [.new (is.map MV.int),#[ts.map tbl,6],#[lp,1],#[w,5]] S=.ok #[rs.map zD,6] S:=by
 have u:lp<S.length:=(gS.mp B).1;have hs:zF EX [.loc ↑0,.tup (ts.map tbl),.loc lp,.int w]=[#[↑0],#[ts.map tbl,3],#[lp],#[w,0],none,none,none]:=rfl;have H:eF [#[↑0],#[ts.map tbl,3],#[lp],#[w,0],none,none,none] (S++[.lst (is.map MV.int)])=#[R7 ↑0 ↑3 lp w (↑0+1) none none,S++[.lst (is.map MV.int)]++[.lst []],0]:=by unfold eF;simp? [wV];rw[lA];rfl
 obtain⟨D,A,e,h,x6,rs,b,p,k,o,q⟩:=vB (L:=is.map MV.int) (gf:=yF 5) (body:=xV) (gs:=[(↑0,is.map MV.int)]) (S:=S++[.lst (is.map MV.int)]++[.lst []])
  (λi C A=> ∃(h x6:V0)(rs:Z0),C=R7 ↑0 ↑3 lp w (↑0+1) h x6/\A=S++[.lst (is.map MV.int)]++[.lst (rs.map zD)]/\(∀r∈rs,iO ts r)/\rs.Nodup/\(rs.length:Int)<=w) (λi d hi C M ⟨h,x6,rs,b,s,k,o,q⟩=>by
   subst b s;obtain⟨c,_,rfl⟩:=mM.mp (á hi);obtain⟨m,a,K,y,n,z⟩:=Ed G (c:=c) (w:=w) (lc:=↑0) (lp:=lp) (lr:=↑0+1) (S:=S++[.lst (is.map MV.int)]++[.lst (rs.map zD)]) (x6:=x6) (rs:=rs) F (by rw[aA,æ u];exact B) (by simp) k o q hw.2;refine⟨_,S++[.lst (is.map MV.int)]++[.lst (a.map zD)],?_,jW (by simp),#[c,0],m,a,rfl,rfl,y,n,z⟩;rw[show yF 5 (.int c) (R7 ↑0 ↑3 lp w (↑0+1) h x6) (S++[.lst (is.map MV.int)]++[.lst (rs.map zD)])=.ok (R7 ↑0 ↑3 lp w (↑0+1) #[c,0] x6) (S++[.lst (is.map MV.int)]++[.lst (rs.map zD)])from rfl,wV,K];have j:List.set (S++[MO.lst (is.map MV.int)]++[MO.lst (rs.map zD)]) (↑0+1) (MO.lst (a.map zD))=S++[MO.lst (is.map MV.int)]++[MO.lst (a.map zD)]:=by simp
   rw[j])
  ⟨none,none,[],rfl,rfl,λr v=>by simp at v,by simp,hw.1⟩
 subst b p;have E:eG (R7 ↑0 ↑3 lp w (↑0+1) none none) (S++[.lst (is.map MV.int)]++[.lst []])=#[R7 ↑0 ↑3 lp w (↑0+1) h x6,S++[.lst (is.map MV.int)]++[.lst (rs.map zD)],0]:=by unfold eG;exists 7,dC (S:=S++[.lst (is.map MV.int)]++[.lst []]) (l:=↑0) (ds:=is.map MV.int) (by simp),e
 have I:eH (R7 ↑0 ↑3 lp w (↑0+1) h x6) (S++[.lst (is.map MV.int)]++[.lst (rs.map zD)])=.ok (.ret #[rs.map zD,6]) (S++[.lst (is.map MV.int)]++[.lst (rs.map zD)]):=by unfold eH;exists 7,DX (S:=S++[.lst (is.map MV.int)]++[.lst (rs.map zD)]) (l:=↑0+1) (ds:=rs.map zD) (by simp)
 refine⟨rs,k,o,q,wW (T:=[.lst (is.map MV.int),.lst (rs.map zD)]) rfl ?_ (yP (yB λd J=>?_)) (λl=>by simp)⟩
 .show cW [.loc ↑0,.tup (ts.map tbl),.loc lp,.int w] (S++[.lst (is.map MV.int)])=_;unfold cW tE;rw[hs,zA H,zA E,I];rw[aA];rfl
 .obtain⟨r,v,rfl⟩:=mM.mp J;exact XF (k r v) _
def E2(a b c d)(S):cN [.val a,.val b,.val c,.val d] S=#[[a,b,c,d],S,2]:=vC (by simp)
inductive Side where
 |isv (v:MV)|cell (k j:Nat)
noncomputable def sIs:List Nat:=[105,115]
noncomputable def X8:List Nat:=[99,101,108,108]
def zY:Side->MV
 |.isv v=>.tup [.str sIs,v]
 |.cell k j=>.tup [.str X8,.int k,.int j]
def QG(ws:Za):Side->Prop
 |.isv v=>Vl v
 |.cell k j=> ∃w,ws[k]? =some w/\(j:Int)<w
noncomputable def zB(t:Nat):MV:=.int (t:Nat)
def E3(ts:Tk)(th:Db):Prop:=1<=th.length/\th.length<=2/\ ∀t∈th,t<ts.length
def GK(h:QG ws sd)(n):lo n (zY sd):=by
 cases sd with
 |isv v=>exact yP (yB λe a=>by simp at a;rcases a with rfl|rfl;(exact pE _ _);exact Vl.lo h n)
 |cell k j=>exact yP (yB λe a=>by simp at a;rcases a with rfl|rfl|rfl<;>first |exact pE _ _|exact xA _ _)
def JF(sd)(l):zY sd≠.loc l:=by cases sd<;>(intro h;cases h)
abbrev D5(l:Nat)(th b:MV)(lp:Nat)(a:V0):Rho:=[#[l],some th,some b,#[lp],a]
theorem Aq(L:Jv ts)(b:E3 ts th){lp:Nat}(p:l≠lp)(i:Tx vs)(D:S[lp]? =#[vs,2])(s:S[l]? =#[[.int x],2]):
  ∃sd I,QG (th.map (vI ts)) sd/\zG 4 xT [#[l,1],#[th.map zB,6],#[ts.map tbl,6],#[lp,1]] S=#[zY sd,S.set l (.lst [.int I]),1]:=by
 have hs:zF EY [.loc l,.tup (th.map zB),.tup (ts.map tbl),.loc lp]=D5 l (.tup (th.map zB)) ↑3 lp none:=rfl;have C:=pC (n:=3) s ↑4 ↑4;have m:=get_set (o':=.lst [.int (x / 3)]) s;have w:(S.set l (.lst [.int (x / 3)]))[lp]? =#[vs,2]:=by rw[gC p];exact D
 cases G:decide (x % 3=0)with
 |true=>
  have e:=pC (n:=(vs.length:Int)) m (by have:=i.1;lia) (by have:=i.2.1;lia);rw[ŉ]at e;have z:(S.set l (.lst [.int (x / 3 / (vs.length:Int))]))[lp]? =#[vs,2]:=by rw[gC p];exact D
  obtain⟨v,o⟩:=nZ (xs:=vs) (eN0 _ (by have:=i.1;lia)) (eL _ (by have:=i.1;lia));have F:=aB i.2.2 o;refine⟨.isv v,x / 3 / (vs.length:Int),F,IY rfl ?_ (GK (ws:=[]) (sd:=.isv v) F _) (JF _)⟩;have y:kP (D5 l (.tup (th.map zB)) ↑3 lp none) S=.ok (.ret (.val (zY (.isv v)))) (S.set l (.lst [.int (x / 3 / (vs.length:Int))])):=by unfold kP;exists 7,C,G,ZA w,e,sQ z o
  show xT [.loc l,.tup (th.map zB),.tup (ts.map tbl),.loc lp] S=_;unfold xT oY;rw[hs,yI y];rfl
 |false=>
  have y:kP (D5 l (.tup (th.map zB)) ↑3 lp none) S=#[D5 l (.tup (th.map zB)) ↑3 lp none,S.set l (.lst [.int (x / 3)]),0]:=by unfold kP;simp? [C,G];rfl
  have B:(0:Int)<(th.length:Int):=by have:=b.1;lia
  have q: ∀S,iQ [#[th.map zB,6]] S=.ok #[th.length,5] S:=λS=>by rw[BG,lM]
  have e:=pC m B (by have:=b.2.1;lia);rw[ŉ]at e;have K:0<=x / 3 % (th.length:Int):=eN0 _ #[];have P:x / 3 % (th.length:Int)<th.length:=eL _ B;obtain⟨k,H⟩:=Ŏ K;have r:k<th.length:=by lia
  have J:eI (D5 l (.tup (th.map zB)) ↑3 lp none) (S.set l (.lst [.int (x / 3)]))=#[D5 l (.tup (th.map zB)) ↑3 lp #[(k:Nat),0],S.set l (.lst [.int (x / 3 / th.length)]),0]:=by unfold eI;simp? [q,e];rw[H]
  have a:th[k]? =some th[k]:=gE r;have d:=b.2.2 th[k] (ł r);generalize th[k]=t at a d;have c:ts[t]? =some ts[t]:=gE d;have u:=XG L d;rw[pO c]at u;have A:=get_set (o':=.lst [.int (x / 3 / th.length)]) s;have E:=pC (n:=ts[t].1) A #[] #[];rw[ŉ]at E;have O:0<=x / 3 / th.length % ts[t].1:=eN0 _ #[];have T:x / 3 / th.length % ts[t].1<ts[t].1:=eL _ #[];obtain⟨j,N⟩:=Ŏ O;have h:QG (th.map (vI ts)) (.cell k j):=⟨_,by rw[ì,a];show some (vI ts t)=_;rw[pO c],by lia⟩
  refine⟨_,x / 3 / th.length / ts[t].1,h,IY rfl ?_ (GK h _) (JF _)⟩;have M:eK (D5 l (.tup (th.map zB)) ↑3 lp #[(k:Nat),0]) (S.set l (.lst [.int (x / 3 / th.length)]))=.ok (.ret (.val (zY (.cell k j)))) (S.set l (.lst [.int (x / 3 / th.length / ts[t].1)])):=by unfold eK;simp? [ix_tup (show qN (th.map zB) (k:Int)=#[t,0]from (by have Q:=(gS.mp a).1;unfold qN RJ;rw[iP #[],iP (by rw[lM];lia)];show _[(k:Int).toNat]? =_;rw[Ĕ,ì,a];rfl)),ix_tup (Ka c)];rw[show zV (.val (tbl ts[t])) #[0,5] _=#[.int ts[t].1,_,1] from rfl];simp? [E];rw[N];rfl
  show xT [.loc l,.tup (th.map zB),.tup (ts.map tbl),.loc lp] S=_;unfold xT oY;rw[hs,zA y,zA J,M];rfl
structure Test where
 l:Side
 w:List Nat
 r:Side
noncomputable def QH:List (List Nat):=[[115,97,109,101],[117,110,108,105,107,101],[108,101,115,115]]
def testM(t:Test):MV:=.tup [zY t.l,.str t.w,zY t.r]
def JG(ws:Za)(t:Test):Prop:=QG ws t.l/\t.w∈QH/\QG ws t.r
def QI(h:JG ws t)(n):lo n (testM t):=yP (yB λe a=>by
 simp only[mC,nM,or_false]at a;rcases a with rfl|rfl|rfl
 .exact GK h.1 n
 .exact pE _ _
 .exact GK h.2.2 n)
abbrev T8(l:Nat)(th b:MV)(lp lt:Nat)(a x6 x7:V0):Rho:=[#[l],some th,some b,#[lp],#[lt],a,x6,x7]
theorem Ee(z:Jv ts)(h:E3 ts th){lp:Nat}(b:l≠lp)(c:l≠lt)(y:Tx vs)(B:S[lp]? =#[vs,2])(k:S[l]? =#[[.int x],2])
  (hQ:S[lt]? =#[qs.map testM,2]) (hql:qs.length<1000): ∃(q:Test)(J:Int)(L G:V0),JG (th.map (vI ts)) q/\gB (T8 l (.tup (th.map zB)) ↑3 lp lt x5 x6 x7) S=#[T8 l (.tup (th.map zB)) ↑3 lp lt x5 L G,(S.set l (.lst [.int J])).set lt (.lst ((qs++[q]).map testM)),0]:=by
 obtain⟨sa,j,o,K⟩:=Aq z h b y B k;have p:=get_set (o':=.lst [.int j]) k;have s:(S.set l (.lst [.int j]))[lp]? =#[vs,2]:=by rw[gC b];exact B
 have H:gM (T8 l (.tup (th.map zB)) ↑3 lp lt x5 x6 x7) S=#[T8 l (.tup (th.map zB)) ↑3 lp lt x5 (some (zY sa)) x7,S.set l (.lst [.int j]),0]:=by unfold gM;exists 7,K
 obtain⟨sb,a,u,E⟩:=Aq z h b y s p;rw[ŉ]at E;have v:=get_set (o':=.lst [.int a]) k;have F:gN (T8 l (.tup (th.map zB)) ↑3 lp lt x5 (some (zY sa)) x7) (S.set l (.lst [.int j]))=#[T8 l (.tup (th.map zB)) ↑3 lp lt x5 (some (zY sa)) (some (zY sb)),S.set l (.lst [.int a]),0]:=by unfold gN;exists 7,E
 have A:=pC (n:=4) v ↑4 ↑4;rw[ŉ]at A;obtain⟨d,C⟩:=nZ (xs:=[MV.str [115,97,109,101],MV.str [117,110,108,105,107,101],MV.str [108,101,115,115],MV.str [115,97,109,101]]) (i:=a % 4) (eN0 _ ↑4) (eL _ ↑4);obtain⟨w,rfl,hw⟩: ∃w,d=.str w/\w∈QH:=aB (P:=λd=> ∃w,d=MV.str w/\w∈QH) (λe D=>by simp only[mC,nM,or_false]at D;rcases D with rfl|rfl|rfl|rfl<;>exact⟨_,rfl,by decide⟩) C;have r:(S.set l (.lst [.int a]))[lt]? =#[qs.map testM,2]:=by rw[gC c];exact hQ
 have m:(S.set l (.lst [.int (a / 4)]))[lt]? =#[qs.map testM,2]:=by rw[gC c];exact hQ
 have I:gO (T8 l (.tup (th.map zB)) ↑3 lp lt x5 (some (zY sa)) (some (zY sb))) (S.set l (.lst [.int a]))=#[T8 l (.tup (th.map zB)) ↑3 lp lt x5 (some (zY sa)) (some (zY sb)),(S.set l (.lst [.int (a / 4)])).set lt (.lst ((qs++[Test.mk sa w sb]).map testM)),0]:=by unfold gO;simp? [jS r,E2,A,HM C,cL m (by rw[lM];lia)];rw[đ];rfl
 refine⟨⟨sa,w,sb⟩,a / 4,some (zY sa),some (zY sb),⟨o,hw,u⟩,?_⟩;unfold gB;rw[zA H,zA F,I]
theorem UB(hT:Jv ts)(F:E3 ts th){lp:Nat}(u:l≠lp)(hV:Tx vs)(Q:S[lp]? =#[vs,2])(D:S[l]? =#[[.int x],2]):
  ∃(qs:List Test)(j:Int),1<=qs.length/\qs.length<=3/\(∀q∈qs,JG (th.map (vI ts)) q)/\zG 4 xD [#[l,1],#[th.map zB,6],#[ts.map tbl,6],#[lp,1]] S=.ok #[qs.map testM,6] (S.set l (.lst [.int j])):=by
 have C:l<S.length:=(gS.mp D).1;have K:lp<S.length:=(gS.mp Q).1;have hs:zF AT [.loc l,.tup (th.map zB),.tup (ts.map tbl),.loc lp]=[#[l],#[th.map zB,3],#[ts.map tbl,3],#[lp],none,none,none,none]:=rfl;have e1:dS [#[l],#[th.map zB,3],#[ts.map tbl,3],#[lp],none,none,none,none] S=#[T8 l (.tup (th.map zB)) ↑3 lp ↑0 none none none,S++[.lst []],0]:=by unfold dS;exists 7,rfl
 have M:(S++[MO.lst []])[l]? =#[[.int x],2]:=by rw[æ C];exact D
 have O:=pC (n:=4) M ↑4 ↑4;have w: ∀(y:Int)(zs:List Test),List.set (S++[MO.lst (zs.map testM)]) l (MO.lst [.int y])=S.set l (.lst [.int y])++[.lst (zs.map testM)]:=λy zs=>set_append_left _ _ C;rw[show S++[MO.lst []]=S++[MO.lst (([]:List Test).map testM)]from rfl,w]at O;obtain⟨m,Y⟩:=nZ (xs:=[MV.int 1,MV.int 1,MV.int 2,MV.int 3]) (i:=x % 4) (eN0 _ ↑4) (by have:=eL x (show(0:Int)<4 by decide);show x % 4<4;exact this);obtain⟨E,rfl,m1,m3⟩: ∃v,m=.int v/\1<=v/\v<=3:=aB (P:=λe=> ∃v,e=.int v/\(1:Int)<=v/\v<=3) (by intro e U;simp only[mC,nM,or_false]at U;rcases U with rfl|rfl|rfl|rfl<;>exact⟨_,rfl,by decide,by decide⟩) Y;have A:((List.range E.toNat).map λk=>MV.int (k:Nat)).length=E.toNat:=by rw[lM,î]
 obtain⟨Z,N,e,r,x6,x7,j,qs,o,H,h,c⟩:=vB (L:=(List.range E.toNat).map λk=>MV.int (k:Nat)) (gf:=yF 5) (body:=gB) (gs:=[])
  (λi X N=> ∃(r x6 x7:V0)(j:Int)(qs:List Test),X=T8 l (.tup (th.map zB)) ↑3 lp ↑0 r x6 x7/\N=S.set l (.lst [.int j])++[.lst (qs.map testM)]/\qs.length=i/\ ∀q∈qs,JG (th.map (vI ts)) q) (λi d hi X S1 ⟨r,x6,x7,j,qs,o,J,h,c⟩=>by
   subst o J;have aa:i<4:=by have:=(gS.mp hi).1;lia
   have a:(S.set l (.lst [.int j])).length=S.length:=þ;have a1:(S.set l (.lst [.int j])++[MO.lst (qs.map testM)])[lp]? =#[vs,2]:=by rw[æ (by rw[a];exact K),gC u];exact Q
   have a2:(S.set l (.lst [.int j])++[MO.lst (qs.map testM)])[l]? =#[[.int j],2]:=by rw[æ (by rw[a];exact C)];exact get_set D
   have a3:(S.set l (.lst [.int j])++[MO.lst (qs.map testM)])[↑0]? =#[qs.map testM,2]:=by rw[<-a];simp
   obtain⟨q,b,y6,y7,G,W⟩:=Ee hT F (x6:=x6) (x7:=x7) (qs:=qs) u #[] hV a1 a2 a3 #[];have s:List.set (List.set (S.set l (.lst [.int j])++[MO.lst (qs.map testM)]) l (MO.lst [.int b])) ↑0 (MO.lst ((qs++[q]).map testM))=S.set l (.lst [.int b])++[.lst ((qs++[q]).map testM)]:=by rw[set_append_left _ _ (by rw[a];exact C),ŉ];have I:(S.set l (.lst [.int b])).length=S.length:=þ;rw[<-I];simp
   rw[s]at W;refine⟨_,_,?_,xO _,some d,y6,y7,b,qs++[q],rfl,rfl,by rw[lA,h];rfl,?_⟩
   .rw[show yF 5 d _ _=.ok (T8 l (.tup (th.map zB)) ↑3 lp ↑0 (some d) x6 x7) (S.set l (.lst [.int j])++[MO.lst (qs.map testM)])from rfl,wV,W]
   .intro z B;rw[é,mS]at B;rcases B with B|rfl
    .exact c z B
    .exact G) ⟨none,none,none,x / 4,[],rfl,rfl,rfl,λp hp=>by simp at hp⟩
 subst o H;rw[A]at h;have e2:dU (T8 l (.tup (th.map zB)) ↑3 lp ↑0 none none none) (S++[MO.lst []])=#[T8 l (.tup (th.map zB)) ↑3 lp ↑0 r x6 x7,S.set l (.lst [.int j])++[.lst (qs.map testM)],0]:=by unfold dU;rw[show S++[MO.lst []]=S++[MO.lst (([]:List Test).map testM)]from rfl];simp? [E2,O,HM Y];rw[fW #[],wV];exact e
 have a:(S.set l (.lst [.int j])).length=S.length:=þ;have e3:dW (T8 l (.tup (th.map zB)) ↑3 lp ↑0 r x6 x7) (S.set l (.lst [.int j])++[.lst (qs.map testM)])=.ok (.ret #[qs.map testM,6]) (S.set l (.lst [.int j])++[.lst (qs.map testM)]):=by unfold dW;exists 7,DX (ds:=qs.map testM) (by rw[<-a];simp)
 refine⟨qs,j,by lia,by lia,c,Ea (T:=[.lst (qs.map testM)]) rfl ?_ (yP (yB λd hd=>?_)) (λl=>by simp)⟩
 .show xD [.loc l,.tup (th.map zB),.tup (ts.map tbl),.loc lp] S=_;unfold xD rK;rw[hs,zA e1,zA e2,e3];rfl
 .obtain⟨q,G,rfl⟩:=mM.mp hd;exact QI (c q G) _
inductive Rule where
 |never (t:Nat) (qs:List Test)|apart (t u:Nat) (qs:List Test)|tie (t:Nat) (cs:Db) (u:Nat) (ds:Db)
noncomputable def DZ:List Nat:=[110,101,118,101,114]
noncomputable def rO:List Nat:=[97,112,97,114,116]
noncomputable def LH:List Nat:=[116,105,101]
def zE:Rule->MV
 |.never t qs=>.tup [.str DZ,.int (t:Nat),.tup (qs.map testM)]
 |.apart t u qs=>.tup [.str rO,.int (t:Nat),.int (u:Nat),.tup (qs.map testM)]
 |.tie t cs u ds=>.tup [.str LH,.int (t:Nat),.tup (cs.map zB),.int (u:Nat),.tup (ds.map zB)]
def nG(ts:Tk):Rule->Prop
 |.never t qs=>t<ts.length/\1<=qs.length/\qs.length<=3/\ ∀q∈qs,JG [vI ts t] q
 |.apart t u qs=>t<ts.length/\u<ts.length/\1<=qs.length/\qs.length<=3/\ ∀q∈qs,JG [vI ts t,vI ts u] q
 |.tie t cs u ds=>t<ts.length/\u<ts.length/\1<=cs.length/\cs.length<=3/\ds.length=cs.length/\(∀c∈cs,(c:Int)<vI ts t)/\ ∀d∈ds,(d:Int)<vI ts u
def GL(h:nG ts r)(n):lo n (zE r):=by
 have i: ∀(b:Db),lo n (.tup (b.map zB)):=λb=>yP (yB λe a=>by obtain⟨c,_,rfl⟩:=mM.mp a;exact xA _ _)
 cases r with
 |never t qs=>
  refine yP (yB λe a=>?_);simp only[mC,nM,or_false]at a;rcases a with rfl|rfl|rfl
  .exact pE _ _
  .exact xA _ _
  .exact yP (yB λe a=>by obtain⟨q,d,rfl⟩:=mM.mp a;exact QI (h.2.2.2 q d) n)
 |apart t u qs=>
  refine yP (yB λe a=>?_);simp only[mC,nM,or_false]at a;rcases a with rfl|rfl|rfl|rfl
  .exact pE _ _
  .exact xA _ _
  .exact xA _ _
  .exact yP (yB λe a=>by obtain⟨q,d,rfl⟩:=mM.mp a;exact QI (h.2.2.2.2 q d) n)
 |tie t b u ds=>
  refine yP (yB λe a=>?_);simp only[mC,nM,or_false]at a;rcases a with rfl|rfl|rfl|rfl|rfl
  .exact pE _ _
  .exact xA _ _
  .exact i b
  .exact xA _ _
  .exact i ds
abbrev U9(c:MV)(d:MV)(lp l:Nat)(k t u:V0)(x7 b a:V0):Rho:=[some c,some d,#[lp],#[l],k,t,u,x7,b,a]
def X9(a)(S):wH [.val a] S=.ok #[[a],6] S:=qU (by simp)
def E5(a b c d)(S):wH [.val a,.val b,.val c,.val d] S=.ok #[[a,b,c,d],6] S:=qU (by simp)
def tup5(a b c d e)(S):wH [.val a,.val b,.val c,.val d,.val e] S=.ok #[[a,b,c,d,e],6] S:=qU (by simp)
theorem Ar(v:Jv ts)(u:t<ts.length){mi:Int}
  (hef: ∀ d  y ,ef (ρb.set 0 (some d)) (SN S y)=zG 2 zC [#[↑0,1],#[vI ts t,5]] (SN S y)): ∃(j:Db)(q:Int),yD (yF 0) (λz S=>(R.ok true S)) ef ρb [] ((List.range mi.toNat).map λk=>MV.int (k:Nat)) (SN S x)=.ok (j.map zB) (SN S q)/\j.length=mi.toNat/\ ∀c∈j, c <vI ts t:=by
 have hw:=XG v u;obtain⟨out,n,e,⟨q,rfl⟩,r,w⟩:=GH (gf:=yF 0) (cf:=λz S=>(R.ok true S)) (ef:=ef) (P:=λy=> ∃c:Nat,y=zB c/\(c:Int)<vI ts t) (I:=λn=> ∃y,n=SN S y) (λd p B ⟨y,m⟩=>by subst m;have s:0<=y % vI ts t:=eN0 _ #[];have A:y % vI ts t<vI ts t:=eL _ #[];obtain⟨c,i⟩:=Ŏ s;refine⟨_,.int (y % vI ts t),SN S (y / vI ts t),rfl,rfl,?_,⟨c,by rw[i];rfl,by lia⟩,⟨_,rfl⟩,xO _⟩;rw[hef,rM S y #[] #[]]) ⟨x,rfl⟩
 have: ∀(o:U0),(∀y∈o, ∃c:Nat,y=zB c/\(c:Int)<vI ts t)-> ∃j:List Nat,o=j.map zB/\ ∀c∈j,(c:Int)<vI ts t:=by
  intro o
  induction o with
  |nil=>exact λ_=>⟨[],rfl,λc i=>by simp at i⟩
  |cons a o ih=>
   intro h;obtain⟨c,rfl,i⟩:=h a mF0;obtain⟨j,rfl,b⟩:=ih λy m=>h y (mO _ m);exact⟨_,rfl,λd p=>(mC.mp p).elim (λe=>e▸i) (b d)⟩
 obtain⟨j,rfl,b⟩:=this out w;exact⟨j,q,e,by rw[lM,lM,î]at r;exact r,b⟩
theorem Rh(w:Jv ts)(c){lp:Nat}(hV:Tx vs)(hP:S[lp]? =#[vs,2]):
  ∃r,nG ts r/\zG 3 xU [#[c,5],#[ts.map tbl,6],#[lp,1]] S=#[zE r,S,1]:=by
 obtain⟨n,hn⟩:=BH c 4 ⟨by decide,by decide⟩ S;have ab:lp<S.length:=(gS.mp hP).1;have E:↑0≠lp:=by omega
 have D: ∀x,(SN S x)[lp]? =#[vs,2]:=λx=>by rw[æ ab];exact hP
 have hp:0<ts.length:=w.1;have ai:=w.2.1;have j: ∀S,iQ [#[ts.map tbl,6]] S=.ok #[ts.length,5] S:=λS=>by rw[BG,lM]
 have fin: ∀(r:Rule)(x:Int),nG ts r->xU [.int c,.tup (ts.map tbl),.loc lp] S=#[zE r,SN S x,1]-> ∃r,nG ts r/\zG 3 xU [#[c,5],#[ts.map tbl,6],#[lp,1]] S=#[zE r,S,1]:=
  λr x hr h=>⟨r,hr,wW (T:=[.lst [.int x]]) rfl h (GL hr _) ((λl=>by cases r<;>(intro h;cases h)))⟩
 have hs:zF EZ [.int c,.tup (ts.map tbl),.loc lp]=[#[c,0],#[ts.map tbl,3],#[lp],none,none,none,none,none,none,none]:=rfl;have Q:eP [#[c,0],#[ts.map tbl,3],#[lp],none,none,none,none,none,none,none] S=#[U9 (.int c) ↑3 lp ↑0 none none none none none none,SN S n,0]:=by unfold eP;exists 7,hn
 have Y:eQ (U9 (.int c) ↑3 lp ↑0 none none none none none none) (SN S n)=#[U9 (.int c) ↑3 lp ↑0 #[n % 3,0] none none none none none,SN S (n / 3),0]:=by unfold eQ;exists 7,rM S n (n:=3) ↑4 ↑4
 obtain⟨t,ht,a⟩:=qH (n / 3) hp;have e3:eR (U9 (.int c) ↑3 lp ↑0 #[n % 3,0] none none none none none) (SN S (n / 3))=#[U9 (.int c) ↑3 lp ↑0 #[n % 3,0] #[(t:Nat),0] none none none none,SN S (n / 3 / ts.length),0]:=by unfold eR;simp? [j,rM S (n / 3) (n:=(ts.length:Int)) (by omega) (by omega)];rw[ht]
 obtain⟨u,hu,b⟩:=qH (n / 3 / ts.length) hp;have K:eS (U9 (.int c) ↑3 lp ↑0 #[n % 3,0] #[(t:Nat),0] none none none none) (SN S (n / 3 / ts.length))=#[U9 (.int c) ↑3 lp ↑0 #[n % 3,0] #[(t:Nat),0] #[(u:Nat),0] none none none,SN S (n / 3 / ts.length / ts.length),0]:=by unfold eS;simp? [j,rM S (n / 3 / ts.length) (n:=(ts.length:Int)) (by omega) (by omega)];rw[hu]
 generalize n / 3 / ts.length / ts.length=x4 at K
 cases hb:decide (n % 3=0)with
 |true=>
  obtain⟨o,p,W,Z,U,A⟩:=UB w (th:=[t]) ⟨by simp,by simp,λz F=>by rw[mS.mp F];exact a⟩ E hV (D x4) (An S x4);rw[QE]at A;have J:kQ (U9 (.int c) ↑3 lp ↑0 #[n % 3,0] #[(t:Nat),0] #[(u:Nat),0] none none none) (SN S x4)=.ok (.ret (.val (zE (.never t o)))) (SN S p):=by unfold kQ;have q:zG 4 xD [#[↑0,1],#[[.int (t:Nat)],6],#[ts.map tbl,6],#[lp,1]] (SN S x4)=.ok #[o.map testM,6] (SN S p):=A;exists 7,hb,X9,q
  refine fin (.never t o) p ⟨a,W,Z,U⟩ ?_;unfold xU fQ;rw[hs,zA Q,zA Y,zA e3,zA K,yI J];rfl
 |false=>
  have J:kQ (U9 (.int c) ↑3 lp ↑0 #[n % 3,0] #[(t:Nat),0] #[(u:Nat),0] none none none) (SN S x4)=#[U9 (.int c) ↑3 lp ↑0 #[n % 3,0] #[(t:Nat),0] #[(u:Nat),0] none none none,SN S x4,0]:=by unfold kQ;simp? [hb];rfl
  cases C:decide (n % 3=1)with
  |true=>
   obtain⟨o,p,W,Z,U,A⟩:=UB w (th:=[t,u]) ⟨by simp,by simp,λz F=>by simp at F;rcases F with rfl|rfl;(exact a);exact b⟩ E hV (D x4) (An S x4);rw[QE]at A;have X:kR (U9 (.int c) (.tup (ts.map tbl)) lp ↑0 #[n % 3,0] #[(t:Nat),0] #[(u:Nat),0] none none none) (SN S x4)=.ok (.ret (.val (zE (.apart t u o)))) (SN S p):=by unfold kR;have q:zG 4 xD [#[↑0,1],#[[.int (t:Nat),.int (u:Nat)],6],#[ts.map tbl,6],#[lp,1]] (SN S x4)=.ok #[o.map testM,6] (SN S p):=A;exists 7,C,E5,q
   refine fin (.apart t u o) p ⟨a,b,W,Z,U⟩ ?_;unfold xU fQ;rw[hs,zA Q,zA Y,zA e3,zA K,zA J,yI X];rfl
  |false=>
   have X:kR (U9 (.int c) ↑3 lp ↑0 #[n % 3,0] #[(t:Nat),0] #[(u:Nat),0] none none none) (SN S x4)=#[U9 (.int c) ↑3 lp ↑0 #[n % 3,0] #[(t:Nat),0] #[(u:Nat),0] none none none,SN S x4,0]:=by unfold kR;simp? [C];rfl
   obtain⟨m,hm⟩:=nZ (xs:=[MV.int 1,MV.int 2,MV.int 1,MV.int 3,MV.int 1]) (i:=x4 % 5) (eN0 _ ↑4) (by have:=eL x4 (show(0:Int)<5 by decide);show x4 % 5<5;exact this);obtain⟨mi,rfl,m1,m3⟩: ∃v,m=.int v/\1<=v/\v<=3:=aB (P:=λe=> ∃v,e=.int v/\(1:Int)<=v/\v<=3) (by intro e he;simp only[mC,nM,or_false]at he;rcases he with rfl|rfl|rfl|rfl|rfl<;>exact⟨_,rfl,by decide,by decide⟩) hm;have e7:eT (U9 (.int c) (.tup (ts.map tbl)) lp ↑0 #[n % 3,0] #[(t:Nat),0] #[(u:Nat),0] none none none) (SN S x4)=#[U9 (.int c) ↑3 lp ↑0 #[n % 3,0] #[(t:Nat),0] #[(u:Nat),0] #[mi,0] none none,SN S (x4 / 5),0]:=by unfold eT;exists 7,X7,rM S x4 (n:=5) ↑4 ↑4,HM hm
   obtain⟨s,G,O,ah,ae⟩:=Ar w a (ρb:=[none,#[ts.map tbl,3],#[↑0],#[(t:Nat),0]]) (S:=S) (x:=x4 / 5) (mi:=mi) (λd y=>by obtain⟨e,M,L⟩:=QF a (SN S y);show bW [some d,#[ts.map tbl,3],#[↑0],#[(t:Nat),0]] (SN S y)=_;unfold bW;exists 7,M,L);have B:((List.range mi.toNat).map λk=>MV.int (k:Nat)).length<1000000:=by rw[lM,î];omega
   have e8:eU (U9 (.int c) ↑3 lp ↑0 #[n % 3,0] #[(t:Nat),0] #[(u:Nat),0] #[mi,0] none none) (SN S (x4 / 5))=#[U9 (.int c) ↑3 lp ↑0 #[n % 3,0] #[(t:Nat),0] #[(u:Nat),0] #[mi,0] #[s.map zB,3] none,SN S G,0]:=by unfold eU;simp? [fW (S:=SN S (x4 / 5)) (show -(2 ^ 62)<=mi/\mi<2 ^ 62 by omega)];rw[iP B];rw[show CF 1 [1,3,5] _=[none,#[ts.map tbl,3],#[↑0],#[(t:Nat),0]]from rfl];rw[show iD=(λρ S=>(R.ok true S))from rfl,O];rfl
   obtain⟨H,I,af,ag,aa⟩:=Ar w b (ρb:=[none,#[ts.map tbl,3],#[↑0],#[(u:Nat),0]]) (S:=S) (x:=G) (mi:=mi) (λd y=>by obtain⟨e,M,L⟩:=QF b (SN S y);show bX [some d,#[ts.map tbl,3],#[↑0],#[(u:Nat),0]] (SN S y)=_;unfold bX;exists 7,M,L);have e9:eV (U9 (.int c) ↑3 lp ↑0 #[n % 3,0] #[(t:Nat),0] #[(u:Nat),0] #[mi,0] #[s.map zB,3] none) (SN S G)=#[U9 (.int c) ↑3 lp ↑0 #[n % 3,0] #[(t:Nat),0] #[(u:Nat),0] #[mi,0] #[s.map zB,3] #[H.map zB,3],SN S I,0]:=by unfold eV;simp? [fW (S:=SN S G) (show -(2 ^ 62)<=mi/\mi<2 ^ 62 by omega)];rw[iP B];rw[show CF 1 [1,3,6] _=[none,#[ts.map tbl,3],#[↑0],#[(u:Nat),0]]from rfl];rw[show iE=(λρ S=>(R.ok true S))from rfl,af];rfl
   have N:dX (U9 (.int c) ↑3 lp ↑0 #[n % 3,0] #[(t:Nat),0] #[(u:Nat),0] #[mi,0] #[s.map zB,3] #[H.map zB,3]) (SN S I)=.ok (.ret (.val (zE (.tie t s u H)))) (SN S I):=by unfold dX;simp? [tup5];rfl
   refine fin (.tie t s u H) I ⟨a,b,by omega,by omega,by omega,ae,aa⟩ ?_;unfold xU fQ;rw[hs,zA Q,zA Y,zA e3,zA K,zA J,zA X,zA e7,zA e8,zA e9,N];rfl
noncomputable def jT(rs:Z0):Side->MV
 |.isv v=>v
 |.cell k j=>((rs[k]?).bind λr=>r.2[j]?).getD .non
def JH(ws:Za)(rs:Z0):Prop:= ∀(k:Nat)(w:Int),ws[k]? =some w-> ∃r:Nat×List MV,rs[k]? =some r/\(r.2.length:Int)=w/\ ∀d∈r.2,Vl d
theorem fI{k:Nat}(h:xs[k]? =some x):qN xs  k =some x:=by have a:=(gS.mp h).1;unfold qN RJ;rw[iP #[],iP #[]];show xs[(k:Int).toNat]? =_;rw[Ĕ,h]
theorem QJ(d:JH ws rs)(h:QG ws (.cell k j)): ∃(r:Nat×List MV)(v:MV),rs[k]? =some r/\r.2[j]? =some v/\Vl v/\jT rs (.cell k j)=v:=by
 obtain⟨w,e,i⟩:=h;obtain⟨r,b,m,c⟩:=d k w e;have a:j<r.2.length:=by lia
 refine⟨r,_,b,gE a,c _ (ł a),?_⟩;show((rs[k]?).bind λr=>r.2[j]?).getD .non=_;rw[b];show(r.2[j]?).getD .non=_;rw[gE a];rfl
def qI(c:JH ws rs)(h:QG ws sd):Vl (jT rs sd):=by
 cases sd with
 |isv v=>exact h
 |cell k j=>obtain⟨r,v,_,_,a,b⟩:=QJ c h;rw[b];exact a
def UC(h:Vl d)(l):d≠.loc l:=by rcases h.cases with⟨i,rfl,_⟩|⟨x,rfl,_⟩<;>simp
def RD(x y)(S):iK (.val (.str x)) (.val (.str y)) S=#[.bl (decide (x=y)),S,1]:=WJ (iR _ x y)
def eqV(c:Vl a)(d:Vl b)(S):iK (.val a) (.val b) S=#[.bl (decide (a=b)),S,1]:=Am (iM c).1 (iM d).1 (by rw[(iM c).2];decide)
def neV(c:Vl a)(d:Vl b)(S):ME (.val a) (.val b) S=#[.bl (!decide (a=b)),S,1]:=sP (qG _ (iM c).1 (iM d).1 (by rw[(iM c).2];exact ň _))
theorem BM(b:JH ws rs)(h:QG ws sd)(e:SqM S m (rs.map zD)):zG 2 dE [.val (zY sd),.val m] S=#[jT rs sd,S,1]:=by
 have c:=qI b h;refine cQ rfl ?_ (c.lo _) (UC c);show zU (iU [some _,some m] S)=_;unfold iU
 cases sd with
 |isv v=>
  have a:wA [some (zY (.isv v)),some m] S=.ok (.ret (.val v)) S:=by unfold wA;exists 7,ix_tup rfl,ix_tup rfl,RD
  rw[yI a];rfl
 |cell k j=>
  obtain⟨r,v,n,d,q,i⟩:=QJ b h;have a:wA [some (zY (.cell k j)),some m] S=#[[some (zY (.cell k j)),some m],S,0]:=by unfold wA;exists 7,ix_tup rfl,RD
  have o:qN _ _=some (zD r):=fI (by rw[ì,n];rfl);have p:dD [some (zY (.cell k j)),some m] S=.ok (.ret (.val v)) S:=by unfold dD;exists 7,show zV (.val (zY (.cell k j))) #[1,5] S=.ok _ S from ix_tup rfl,show zV (.val (zY (.cell k j))) #[2,5] S=.ok _ S from ix_tup rfl,e.ix o,show zV (.val (zD r)) #[1,5] S=.ok _ S from ix_tup rfl,ix_tup (fI d)
  rw[zA a,p,i];rfl
theorem BN(b:JH ws rs)(h:QG ws sd)(e:SqM S m (rs.map zD)):zG 2 dZ [.val (zY sd),.val m] S=#[jT rs sd,S,1]:=by
 have c:=qI b h;refine cQ rfl ?_ (c.lo _) (UC c);show zU (lN [some _,some m] S)=_;unfold lN
 cases sd with
 |isv v=>
  have a:wF [some (zY (.isv v)),some m] S=.ok (.ret (.val v)) S:=by unfold wF;exists 7,ix_tup rfl,ix_tup rfl,RD
  rw[yI a];rfl
 |cell k j=>
  obtain⟨r,v,n,d,q,i⟩:=QJ b h;have a:wF [some (zY (.cell k j)),some m] S=#[[some (zY (.cell k j)),some m],S,0]:=by unfold wF;exists 7,ix_tup rfl,RD
  have o:qN _ (k:Int)=some (zD r):=fI (by rw[ì,n];rfl);have p:dY [some (zY (.cell k j)),some m] S=.ok (.ret (.val v)) S:=by unfold dY;exists 7,show zV (.val (zY (.cell k j))) #[1,5] S=.ok _ S from ix_tup rfl,show zV (.val (zY (.cell k j))) #[2,5] S=.ok _ S from ix_tup rfl,e.ix o,show zV (.val (zD r)) #[1,5] S=.ok _ S from ix_tup rfl,ix_tup (fI d)
  rw[zA a,p,i];rfl
noncomputable def ltV:MV->MV->Bool
 |.int i,.int j=>decide (i<j)
 |_,_=>false
noncomputable def NB:List Nat:=[115,97,109,101]
noncomputable def BO:List Nat:=[117,110,108,105,107,101]
def kH(rs:Z0)(q:Test):Bool:=if q.w=NB then decide (jT rs q.l=jT rs q.r)else if q.w=BO then !decide (jT rs q.l=jT rs q.r)else ltV (jT rs q.l) (jT rs q.r)
def QK(a:rs.length=n)(c:F (zM rs S).1 (zM rs S).2=#[.bl b,S++T,1]):zG n F rs S=#[.bl b,S,1]:=wW a c (Tj _ _) (λl=>by simp)
def xM(a:rs.length=n)(c:F (zM rs S).1 (zM rs S).2=#[.bl b,S,1]):zG n F rs S=#[.bl b,S,1]:=cQ a c (Tj _ _) (λl=>by simp)
def As(h:Vl d)(S):zG 1 mI [.val d] S=#[.bl (match d with |.int _=>true|_=>false),S,1]:=xM rfl (by
 rcases h.cases with⟨i,rfl,_⟩|⟨x,rfl,_⟩
 .show zU _=_;rfl
 .show zU _=_;rfl)
def Ef(o:JH ws rs)(h:JG ws q)(v:SqM S m (rs.map zD)):zG 2 tW [.val m,.val (testM q)] S=#[.bl (kH rs q),S,1]:=xM rfl (by
 have c:=qI o h.1;have d:=qI o h.2.2;have B: ∀S,zV (.val (testM q)) #[0,5] S=.ok _ S:=λS=>ix_tup rfl;have z: ∀S,zV (.val (testM q)) #[1,5] S=.ok _ S:=λS=>ix_tup rfl;have C: ∀S,zV (.val (testM q)) #[2,5] S=.ok _ S:=λS=>ix_tup rfl;show zU (tV [some m,some _,none,none] S)=_;have u:oH [some m,some (testM q),none,none] S=#[[some m,some (testM q),some (jT rs q.l),none],S,0]:=by unfold oH;simp? [B,BM o h.1 v]
 have s:oI [some m,some (testM q),some (jT rs q.l),none] S=#[[some m,some (testM q),some (jT rs q.l),some (jT rs q.r)],S,0]:=by unfold oI;simp? [C,BM o h.2.2 v]
 unfold kH;generalize jT rs q.l=a at c u s;generalize jT rs q.r=b at d s;have k:oK [some m,some (testM q),some a,some b] S=if decide (q.w=NB)=true then .ok (.ret (.val (.bl (decide (a=b))))) S else #[[some m,some (testM q),some a,some b],S,0]:=by unfold oK;simp? [z,RD,eqV c d];rfl
 have n:oM [some m,some (testM q),some a,some b] S=if decide (q.w=BO)=true then .ok (.ret (.val (.bl (!decide (a=b))))) S else #[[some m,some (testM q),some a,some b],S,0]:=by unfold oM;simp? [z,RD,neV c d];rfl
 have A:oN [some m,some (testM q),some a,some b] S=.ok (.ret (.val (.bl (ltV a b)))) S:=by unfold oN;rcases c.cases with⟨i,rfl,_⟩|⟨x,rfl,_⟩<;>rcases d.cases with⟨j,rfl,_⟩|⟨y,rfl,_⟩<;>(simp? [As c,As d,VW,lt_int];rfl)
 unfold tV;rw[zA u,zA s];by_cases p:q.w=NB
 .rw[dT0 p,iP rfl]at k;rw[yI k,iP p];rfl
 .rw[dF0 p,iN xF0]at k;rw[zA k,iN p];by_cases e:q.w=BO
  .rw[dT0 e,iP rfl]at n;rw[yI n,iP e];rfl
  .rw[dF0 e,iN xF0]at n;rw[zA n,iN e,A];rfl)
theorem cY{α:Type}{f g:α->MV}(hs:stay gs S):
  ∀{ds:List α},(∀d∈ds, ∃j,gf (f d) ρb S=.ok j S/\cf j S=.ok true S/\ef j S=#[g d,S,1])->yD gf cf ef ρb gs (ds.map f) S=.ok (ds.map g) S
 |[],_=>rfl
 |d::ds,st=>by obtain⟨j,u,m,q⟩:=st d mF0;have e:=cY hs λd a=>st d (mO _ a);rw[ê];unfold yD;rw[u,yC,wV,m,yC,wV,q,yC,wV];unfold nT;rw[wV,iP hs,e];rfl
theorem Ri{α:Type}(f)(xs:List α)(S):Oc [.new (xs.map λx=>.bl (f x))] S=#[.bl (xs.all f),S,1]:=by
 have h: ∀xs:List α,oF (xs.map λx=>.bl (f x))=some (xs.map f):=by
  intro xs
  induction xs with
  |nil=>rfl
  |cons x xs ih=>rw[ê];unfold oF;rw[ih];rfl
 show(match (some _).bind oF with |some bs=>R.ok _ S|none=>.no)=_;rw[show(some _).bind oF=some _ from h xs];show R.ok _ S=_;rw[all_map];rfl
theorem nH(ds)(S):VC #[ds,6] S=.ok ⟨ds,[]⟩ S:=rfl
theorem Tz(a:JH ws rs){qs:List Test}(e:qs.length<=3)(h: ∀q∈qs,JG ws q)(S):zG 2 xE [.new (rs.map zD),#[qs.map testM,6]] S=#[.bl (qs.all (kH rs)),S,1]:=QK rfl (by
 show zU (aC [#[↑0],#[qs.map testM,3]] (S++[.lst (rs.map zD)]))=_;have d:SqM (S++[.lst (rs.map zD)]) (.loc ↑0) (rs.map zD):=.inr ⟨_,rfl,by simp⟩;have b:yD (yF 0) dF kZ [none,#[↑0]] [] (qs.map testM) _=.ok (qs.map λq=>.bl (kH rs q)) (S++[.lst (rs.map zD)]):=cY (xO _) λq c=>⟨_,rfl,rfl,by unfold kZ;exists 7,Ef a (h q c) d⟩
 unfold aC fX;simp? [nH,show((qs.map testM).length<1000000)=True from eq_true (by rw[lM];lia),show CF 1 [0] [#[↑0],#[qs.map testM,3]]=[none,#[↑0]]from rfl,b,Ri];rfl)
theorem ge_int(i j)(S):geF #[i,5] #[j,5] S=#[.bl (decide (j<=i)),S,1]:=rfl
noncomputable abbrev H7(ts rw:MV)(a b c d e:V0):Rho:=[some ts,some rw,a,b,c,d,e]
theorem Eg(o:JH ws rs)(h:JG ws q)(u:SqM S m (rs.map zD)): ∃d' B,bC (H7 ts m (some (zY q.l)) #[q.w,4] (some (zY q.r)) d e) S=if kH rs q=true then #[H7 ts m (some (zY q.l)) #[q.w,4] (some (zY q.r)) d' B,S,0] else .ok (.ret (.val (.bl false))) S:=by
 have n:=qI o h.1;have p:=qI o h.2.2;have v:bZ (H7 ts m (some (zY q.l)) #[q.w,4] (some (zY q.r)) d e) S=#[H7 ts m (some (zY q.l)) #[q.w,4] (some (zY q.r)) (some (jT rs q.l)) e,S,0]:=by unfold bZ;simp? [BN o h.1 u]
 have A:cA (H7 ts m (some (zY q.l)) #[q.w,4] (some (zY q.r)) (some (jT rs q.l)) e) S=#[H7 ts m (some (zY q.l)) #[q.w,4] (some (zY q.r)) (some (jT rs q.l)) (some (jT rs q.r)),S,0]:=by unfold cA;simp? [BN o h.2.2 u]
 refine⟨some (jT rs q.l),some (jT rs q.r),?_⟩;unfold bC;rw[zA v,zA A];unfold kH;generalize jT rs q.l=a at n;generalize jT rs q.r=b at p;have hw:=h.2.1;generalize q.w=w at hw;simp only[QH,mC,nM,or_false]at hw;have c:cB (H7 ts m (some (zY q.l)) #[w,4] (some (zY q.r)) (some a) (some b)) S=if((decide (w=[115,97,109,101])&& !decide (a=b)) || (decide (w=[117,110,108,105,107,101])&&decide (a=b)))=true then .ok (.ret (.val (.bl false))) S else #[H7 ts m (some (zY q.l)) #[w,4] (some (zY q.r)) (some a) (some b),S,0]:=by unfold cB;simp? [RD,neV n p,eqV n p];cases decide (w=[115,97,109,101])<;>cases decide (w=[117,110,108,105,107,101])<;>cases decide (a=b)<;>rfl
 have s:cC (H7 ts m (some (zY q.l)) #[w,4] (some (zY q.r)) (some a) (some b)) S=if(decide (w=[108,101,115,115])&& !ltV a b)=true then .ok (.ret (.val (.bl false))) S else #[H7 ts m (some (zY q.l)) #[w,4] (some (zY q.r)) (some a) (some b),S,0]:=by
  unfold cC
  cases k:decide (w=[108,101,115,115])with
  |false=>simp? [RD,k];rfl
  |true=>
   rcases n.cases with⟨i,rfl,_⟩|⟨x,rfl,_⟩<;>rcases p.cases with⟨j,rfl,_⟩|⟨y,rfl,_⟩
   .simp? [RD,k,ge_int,fT0,iF];by_cases z:i<j
    .rw[dF0 #[],show ltV (.int i) (.int j)=true from dT0 z];rfl
    .rw[dT0 #[],show ltV (.int i) (.int j)=false from dF0 z];rfl
   all_goals (simp? [RD,k,fT0,iF];rfl)
 rcases hw with rfl|rfl|rfl
 .rw[iP (show [115,97,109,101]=NB from rfl)]
  cases k:decide (a=b)with
  |true=>
   rw[k]at c;rw[zA c,s];rfl
  |false=>
   rw[k]at c;rw[yI c];rfl
 .rw[iN (show¬[117,110,108,105,107,101]=NB by decide),iP (show [117,110,108,105,107,101]=BO from rfl)]
  cases k:decide (a=b)with
  |false=>
   rw[k]at c;rw[zA c,s];rfl
  |true=>
   rw[k]at c;rw[yI c];rfl
 .rw[iN (show¬[108,101,115,115]=NB by decide),iN (show¬[108,101,115,115]=BO by decide)];rw[zA c,s];cases ltV a b<;>rfl
theorem NC(n:JH ws rs)(o:SqM S m (rs.map zD)): ∀(qs:List Test) a b c d e ,(∀q∈qs,JG ws q)-> ∃u,nU (uK 3 (zI (yF 2) (zI (yF 3) (zI (yF 4) xR)))) bC [] (qs.map testM) (H7 ts m a b c d e) S=if qs.all (kH rs)=true then #[u,S,0] else .ok (.ret (.val (.bl false))) S
 |[],a,b,c,d,e,_=>⟨_,rfl⟩
 |q::qs,a,b,c,d,e,h=>by
  obtain⟨d',v,j⟩:=Eg n (h q mF0) o;have k:uK 3 (zI (yF 2) (zI (yF 3) (zI (yF 4) xR))) (testM q) (H7 ts m a b c d e) S=.ok _ S:=rfl
  cases i:kH rs q with
  |true=>
   rw[i]at j;obtain⟨u,r⟩:=NC n o qs _ _ _ d' v λz p=>h z (mO _ p);refine⟨u,?_⟩;rw[ê,mE k j (xO S),r,List.all_cons,i,ő]
  |false=>
   rw[i]at j;refine⟨H7 ts m a b c d e,?_⟩;rw[ê,AG k j,List.all_cons,i,Bool.false_and,iN xF0]
def Kb(c:JH ws rs){qs:List Test}(h: ∀q∈qs,JG ws q)(S):zG 2 wL [#[qs.map testM,6],#[rs.map zD,6]] S=#[.bl (qs.all (kH rs)),S,1]:=xM rfl (by
 obtain⟨e,d⟩:=NC c (.inl rfl) qs none none none none none h;show zU (oZ (H7 _ _ none none none none none) S)=_;have a:fF (H7 (.tup (qs.map testM)) (.tup (rs.map zD)) none none none none none) S=if qs.all (kH rs)=true then #[e,S,0] else .ok (.ret (.val (.bl false))) S:=by unfold fF;exact d
 unfold oZ
 cases b:qs.all _ with
 |true=>rw[b]at a;rw[zA a];rfl
 |false=>rw[b]at a;rw[yI a];rfl)
def rs1(h:iO ts a)(e:a.1=t):JH [vI ts t] [a]:=λk w b=>by
 obtain⟨p,i,c,d⟩:=h
 match k,b with
 |0,b=>
  cases b;subst e;exact⟨a,rfl,by rw[pO i];exact c,d⟩
def rs2(i:iO ts a)(o:iO ts b)(n:a.1=t)(m:b.1=u):JH [vI ts t,vI ts u] [a,b]:=λk w c=>by
 obtain⟨p,r,d,j⟩:=i;obtain⟨q,s,h,e⟩:=o
 match k,c with
 |0,c=>
  cases c;subst n;exact⟨a,rfl,by rw[pO r];exact d,j⟩
 |1,c=>
  cases c;subst m;exact⟨b,rfl,by rw[pO s];exact h,e⟩
noncomputable abbrev ob(c:Str)(d:MV):MV:=.obj c ["parts"] [d]
theorem tH(a)(S):zV (.val (zD a)) #[0,5] S=.ok #[a.1,5] S:=ix_tup rfl
theorem E6(a)(S):zV (.val (zD a)) #[1,5] S=.ok #[a.2,6] S:=ix_tup rfl
theorem fN(d)(S):oG TR "parts" (.val (ob "Never" d)) S=#[d,S,1]:=rfl
theorem fA(d)(S):oG TR "parts" (.val (ob "Apart" d)) S=#[d,S,1]:=rfl
theorem fT(d)(S):oG TR "parts" (.val (ob "Tie" d)) S=#[d,S,1]:=rfl
abbrev Eh(m:Str)(n:Nat)(c:List (Str×(List MV->Sto->R Er)))(G:List MV->Sto->R Er)(d a:MV)(xs:List Er)(b:Bool)(S:Sto):Prop:=
 ∃F,PF m c (.val d)=some F/\zG n F (.val d::xs) S=#[.bl b,S,1]/\zG n G (.val a::xs) S=#[.bl b,S,1]
theorem Au(hs:PF "bars" oV (.val (ob c (.tup (.str x::more))))=some fO)(b: ∃y ms,rl=.tup (.str y::ms)/\y≠DZ)(a)(S):Eh "bars" 2 oV kT (ob c (.tup (.str x::more))) rl [.val a] false S:=by obtain⟨y,ms,rfl,d⟩:=b;refine⟨_,hs,xM rfl rfl,xM rfl ?_⟩;show zU (kS [some _,some a] S)=_;unfold kS cE;simp? [ix_tup (ds:=.str y::ms) (i:=0) (fI rfl),RD,show decide (y=[110,101,118,101,114])=false from dF0 d];rfl
theorem Av(h:nG ts (.apart t u qs))(j:iO ts a)(o:iO ts b)(S):zG 3 xN [.val (ob "Apart" (zE (.apart t u qs))),.val (zD a),.val (zD b)] S=#[.bl (decide ((a.1:Int)=t)&&decide ((b.1:Int)=u)&&qs.all (kH [a,b])),S,1]:=xM rfl (by
 have i: ∀S,zV (.val (zE (.apart t u qs))) #[1,5] S=.ok _ S:=λS=>ix_tup rfl;have m: ∀S,zV (.val (zE (.apart t u qs))) #[2,5] S=.ok _ S:=λS=>ix_tup rfl;have k: ∀S,zV (.val (zE (.apart t u qs))) #[3,5] S=.ok _ S:=λS=>ix_tup rfl;show zU (zR [some _,some _,some _] S)=_;have d:yV [some (ob "Apart" (zE (.apart t u qs))),some (zD a),some (zD b)] S=if(decide ((a.1:Int)=t)&&decide ((b.1:Int)=u))=true then #[[some (ob "Apart" (zE (.apart t u qs))),some (zD a),some (zD b)],S,0] else .ok (.ret (.val (.bl false))) S:=by unfold yV;cases c:decide ((a.1:Int)=t)<;>cases e:decide ((b.1:Int)=u)<;>(simp? [tH,fA,i,m,ne_int,c,e];rfl)
 unfold zR
 cases c:(decide ((a.1:Int)=t)&&decide ((b.1:Int)=u))with
 |false=>rw[c,iN xF0]at d;rw[yI d];rfl
 |true=>
  rw[c,iP rfl]at d;rw[zA d];rw[aE,ô,ô]at c;have n:zG 2 xE [.new [zD a,zD b],.val _] S=.ok _ S:=Tz (rs2 j o #[] #[]) h.2.2.2.1 h.2.2.2.2 S;unfold wC;simp? [fA,k,n];rfl)
theorem UD(h:nG ts (.apart t u qs))(n:iO ts a)(o:iO ts b)(S):Eh "parts_them" 3 xF kW (ob "Apart" (zE (.apart t u qs))) (zE (.apart t u qs)) [.val (zD a),.val (zD b)] ((decide ((a.1:Int)=t)&&decide ((b.1:Int)=u)&&qs.all (kH [a,b])) || (decide ((b.1:Int)=t)&&decide ((a.1:Int)=u)&&qs.all (kH [b,a]))) S:=by
 have C: ∀S,zV (.val (zE (.apart t u qs))) #[0,5] S=#[.str rO,S,1]:=λS=>ix_tup rfl;have v: ∀S,zV (.val (zE (.apart t u qs))) #[1,5] S=.ok #[(t:Nat),5] S:=λS=>ix_tup rfl;have B: ∀S,zV (.val (zE (.apart t u qs))) #[2,5] S=.ok #[(u:Nat),5] S:=λS=>ix_tup rfl;have F: ∀S,zV (.val (zE (.apart t u qs))) #[3,5] S=.ok #[qs.map testM,6] S:=λS=>ix_tup rfl;refine⟨_,rfl,xM rfl ?_,xM rfl ?_⟩
 .show zU (zW [some (ob "Apart" (zE (.apart t u qs))),some (zD a),some (zD b)] S)=_;unfold zW jY;have hs:PF "parts_in_turn" xG (.val (ob "Apart" (zE (.apart t u qs))))=some xN:=rfl;cases i:(decide ((a.1:Int)=t)&&decide ((b.1:Int)=u)&&qs.all (kH [a,b]))<;>(simp? [hs,Av h n o,Av h o n,i,orF];rfl)
 .show zU (kU [some (zE (.apart t u qs)),some (zD a),some (zD b),none,none] S)=_;have D:xP [some (zE (.apart t u qs)),some (zD a),some (zD b),none,none] S=#[[some (zE (.apart t u qs)),some (zD a),some (zD b),none,none],S,0]:=by unfold xP;exists 7,C,sP (iR _ rO [97,112,97,114,116])
  have e: ∀{c d:Nat×List MV}{p q:MV},iO ts c->iO ts d->cF [some (zE (.apart t u qs)),some p,some q,some (zD c),some (zD d)] S=if(decide ((c.1:Int)=t)&&decide ((d.1:Int)=u)&&qs.all (kH [c,d]))=true then .ok (.ret (.val (.bl true))) S else .ok _ S:=λ{c d p q} G E=>by
   unfold cF nA
   cases k:decide ((c.1:Int)=t)with
   |false=>simp? [tH,v,k];rfl
   |true=>
    cases s:decide ((d.1:Int)=u)with
    |false=>simp? [tH,v,B,k,s];rfl
    |true=>
     rw[ô]at k s;have w:zG 2 wL [#[qs.map testM,6],#[[zD c,zD d],6]] S=#[.bl (qs.all (kH [c,d])),S,1]:=Kb (rs2 G E #[] #[]) h.2.2.2.2 S;simp? [tH,v,B,F,dT0 k,dT0 s,w];cases qs.all (kH [c,d])<;>rfl
  have g: ∀(c d:Nat×List MV)(p q:MV)(x y:V0),uK 2 (zI (yF 3) (zI (yF 4) xR)) (.tup [zD c,zD d]) [some (zE (.apart t u qs)),some p,some q,x,y] S=.ok [some (zE (.apart t u qs)),some p,some q,some (zD c),some (zD d)] S:=λc d p q x y=>rfl
  have r:cG [some (zE (.apart t u qs)),some (zD a),some (zD b),none,none] S=if((decide ((a.1:Int)=t)&&decide ((b.1:Int)=u)&&qs.all (kH [a,b])) || (decide ((b.1:Int)=t)&&decide ((a.1:Int)=u)&&qs.all (kH [b,a])))=true then .ok (.ret (.val (.bl true))) S else #[[some (zE (.apart t u qs)),some (zD a),some (zD b),some (zD b),some (zD a)],S,0]:=by
   have m:=e (p:=zD a) (q:=zD b) n o;have j:=e (p:=zD a) (q:=zD b) o n;unfold cG;simp? [show∀A S,HE (.new A) S=.ok ⟨A,[]⟩ S from λ_ _=>rfl]
   cases i:(decide ((a.1:Int)=t)&&decide ((b.1:Int)=u)&&qs.all (kH [a,b]))with
   |true=>rw[i,iP rfl]at m;rw[AG (g a b _ _ none none) m];rfl
   |false=>
    rw[i,iN xF0]at m;rw[mE (g a b _ _ none none) m (xO S)]
    cases z:(decide ((b.1:Int)=t)&&decide ((a.1:Int)=u)&&qs.all (kH [b,a]))with
    |true=>rw[z,iP rfl]at j;rw[AG (g b a _ _ _ _) j];rfl
    |false=>rw[z,iN xF0]at j;rw[mE (g b a _ _ _ _) j (xO S)];rfl
  unfold kU;rw[zA D]
  cases i:(_ || _)with
  |true=>rw[i,iP rfl]at r;rw[yI r];rfl
  |false=>rw[i,iN xF0]at r;rw[zA r];rfl
theorem UE(hs:PF "parts_them" xF (.val (ob c (.tup (.str x::more))))=some xS)(d: ∃y ms,rl=.tup (.str y::ms)/\y≠rO)(a b)(S):Eh "parts_them" 3 xF kW (ob c (.tup (.str x::more))) rl [.val a,.val b] false S:=by
 obtain⟨y,ms,rfl,h⟩:=d;refine⟨_,hs,xM rfl rfl,xM rfl ?_⟩;show zU (kU [some _,some a,some b,none,none] S)=_;have e:xP [#[(.str y::ms),3],some a,some b,none,none] S=.ok (.ret (.val (.bl false))) S:=by unfold xP;simp? [ix_tup (ds:=.str y::ms) (i:=0) (fI rfl),sP (iR _ y [97,112,97,114,116]),show decide (y=[97,112,97,114,116])=false from dF0 h];rfl
 unfold kU;rw[yI e];rfl
def UF(i:S[l]? =#[ys,2])(hx: ∀d∈xs,Vl d)(k: ∀d∈ys,Vl d):iK (.new xs) #[l,1] S=#[.bl (decide (xs=ys)),S,1]:=by
 have o:KN S #[l,1]=some (.ls ys):=by show(wI S _).map Vw.ls=_;rw[dB i];rfl
 have e:CT S zH (.new xs) #[l,1]=some (decide (xs=ys)):=by
  unfold CT;rw[o,show KN S _=some _ from rfl];show Tc _ (.ls xs) (.ls ys)=_;obtain⟨bs,n,j⟩:=BK λa h b m=>qG zH (iM (hx a h)).1 (iM (k b m)).1 (by rw[(iM (hx a h)).2];decide);rw[OO];by_cases c:xs.length=ys.length
  .rw[iP c,n];show some _=_;rw[<-j,c];simp
  .rw[iN c,dF0 λz=>c (by rw[z])]
 unfold iK;rw[e]
noncomputable def zX(a:Nat×List MV)(b:Db):List MV:=b.map λc=>(a.2[c]?).getD .non
def Aw{a:Nat×List MV}(b: ∀d∈a.2,Vl d)(h:c<a.2.length):qN a.2  c =some ((a.2[c]?).getD .non)/\Vl ((a.2[c]?).getD .non):=by have e:=gE h;rw[e];exact⟨fI e,b _ (ł h)⟩
def BP(e: ∀d∈a.2,Vl d)(h: ∀c∈cs,c<a.2.length): ∀d∈zX a cs,Vl d:=λd i=>by obtain⟨c,b,rfl⟩:=mM.mp i;exact(Aw e (h c b)).2
def vK(j: ∀d∈a.2,Vl d)(h: ∀c∈cs,c<a.2.length)(S)(e:cf=λ_ S=>.ok true S)(b: ∀ c ,ef [some (zB c),some (zD a)] S=zV #[a.2,6] (.val (zB c)) S):yD (yF 0) cf ef [none,some (zD a)] [] (cs.map zB) S=.ok (zX a cs) S:=cY (xO S) λc i=>⟨[some _,some _],rfl,by rw[e],by rw[b];exact ix_tup (Aw j (h c i)).1⟩
theorem Ax(b: ∀d∈a.2,Vl d)(j:cs.length<=3)(h: ∀c∈cs,c<a.2.length)(S):zG 2 mL [.val (zD a),#[cs.map zB,6]] S=#[zX a cs,S,2]:=lZ rfl (by
 show zU (qZ [some _,some _] S)=_;have e:=vK b h S (cf:=mK) (ef:=dH) rfl λc=>by unfold dH;exists 7,E6
 unfold qZ qY;simp? [nH,show((cs.map zB).length<1000000)=True from eq_true (by rw[lM];lia),show CF 1 [0] [some _,some _]=[none,some _]from rfl,e];rw[aN];rfl) (yB λd i=>(BP b h d i).lo _)
theorem mX{α:Type}{f g:α->MV}{p:α->Bool}(hs:stay gs S):
  ∀{ds:List α},(∀d∈ds, ∃j,gf (f d) ρb S=.ok j S/\cf j S=.ok (p d) S/\ef j S=#[g d,S,1])->yD gf cf ef ρb gs (ds.map f) S=.ok ((ds.filter p).map g) S
 |[],_=>rfl
 |d::ds,st=>by
  obtain⟨j,q,m,u⟩:=st d mF0;have e:=mX hs λd b=>st d (mO _ b);rw[ê];unfold yD
  cases a:p d with
  |true=>
   rw[q,yC,wV,m,yC,wV,a,u,yC,wV];unfold nT;rw[wV,iP hs,e,ĵ a];rfl
  |false=>
   rw[q,yC,wV,m,yC,wV,a,iN xF0,iP hs,e,Ķ (by rw[a];exact xF0)]
theorem Rj(ds)(S):iK (.new ds) (.new []) S=#[.bl ds.isEmpty,S,1]:=by cases ds<;>rfl
section
theorem JI(h:nG ts (.tie t cs u ds))(i:iO ts a):(a.1=t-> ∀c∈cs,c<a.2.length)/\(a.1=u-> ∀c∈ds,c<a.2.length):=by
 obtain⟨p,d,j,_⟩:=i;refine⟨λe c b=>?_,λe c b=>?_⟩
 .have:=h.2.2.2.2.2.1 c b;rw[<-e,pO d]at this
  lia
 .have:=h.2.2.2.2.2.2 c b;rw[<-e,pO d]at this
  lia
def Kc(u:Nat)(ds:Db)(a:U0)(o:Nat×List MV):Bool:=decide ((o.1:Int)=u)&&decide (zX o ds=a)
abbrev LkB(d c a:MV)(h e:Nat)(b:Bool)(S:Sto):Prop:=
 ∃F,PF "lacks" fP (.val d)=some F/\(∃T,F [d,a,.loc h] S=#[.bl b,S++T,1])/\zG 3 nB [.val c,.val a,#[e,1]] S=#[.bl b,S,1]
noncomputable abbrev K5(d a:MV)(l:Nat)(x y:V0):Rho:=[some d,some a,#[l],x,y]
theorem Ei(h:nG ts (.tie t cs u ds))(I:iO ts a){os:Z0}(ho: ∀o∈os,iO ts o)(aa:os.length<1000)(s:S[l1]? =#[os.map zD,2])(C:S[l2]? =#[os.map zD,2]):
  LkB (ob "Tie" (zE (.tie t cs u ds))) (zE (.tie t cs u ds)) (zD a) l1 l2 (decide ((a.1:Int)=t)&& !os.any (Kc u ds (zX a cs))) S:=by
 have r0: ∀S,zV (.val (zE (.tie t cs u ds))) #[0,5] S=#[.str LH,S,1]:=λS=>ix_tup rfl;have E: ∀S,zV (.val (zE (.tie t cs u ds))) #[1,5] S=.ok #[(t:Nat),5] S:=λS=>ix_tup rfl;have r2: ∀S,zV (.val (zE (.tie t cs u ds))) #[2,5] S=.ok #[cs.map zB,6] S:=λS=>ix_tup rfl;have G: ∀S,zV (.val (zE (.tie t cs u ds))) #[3,5] S=.ok #[(u:Nat),5] S:=λS=>ix_tup rfl;have Y: ∀S,zV (.val (zE (.tie t cs u ds))) #[4,5] S=.ok #[ds.map zB,6] S:=λS=>ix_tup rfl;have n: ∀{o:Nat×List MV},iO ts o-> ∀d∈o.2,Vl d:=λ⟨_,_,_,z⟩=>z;have L:cs.length<=3:=h.2.2.2.1;have O:ds.length<=3:=by have:=h.2.2.2.2.1;omega
 have U:l1<S.length:=(gS.mp s).1;have K:l2<S.length:=(gS.mp C).1
 cases B:decide ((a.1:Int)=t)with
 |false=>
  rw[Bool.false_and];refine⟨oO,rfl,⟨[],?_⟩,xM rfl ?_⟩
  .rw[aN];show zU (yR (K5 (ob "Tie" (zE (.tie t cs u ds))) (zD a) l1 none none) S)=_;have q:kI (K5 (ob "Tie" (zE (.tie t cs u ds))) (zD a) l1 none none) S=.ok (.ret (.val (.bl false))) S:=by unfold kI;simp? [tH,fT,E,ne_int,B];rfl
   unfold yR;rw[yI q];rfl
  .show zU (yS [some (zE (.tie t cs u ds)),some (zD a),#[l2],none] S)=_;have q:yH [some (zE (.tie t cs u ds)),some (zD a),#[l2],none] S=.ok (.ret (.val (.bl false))) S:=by unfold yH;simp? [r0,E,tH,sP (S:=S) (iR _ LH [116,105,101]),ne_int,B];rfl
   unfold yS;rw[yI q];rfl
 |true=>
  have ea:a.1=t:=by have:=Ŀ B;omega
  have k:=(JI h I).1 ea;have i:=BP (n I) k;have Z:(S++[MO.lst (zX a cs)])[l1]? =#[os.map zD,2]:=by rw[æ U];exact s
  have g2:(S++[MO.lst (zX a cs)])[l2]? =#[os.map zD,2]:=by rw[æ K];exact C
  have gd:(S++[MO.lst (zX a cs)])[↑0]? =#[zX a cs,2]:=by simp
  rw[ő];refine⟨oO,rfl,⟨[.lst (zX a cs)],?_⟩,QK (T:=[.lst (zX a cs)]) rfl ?_⟩
  .show zU (yR (K5 (ob "Tie" (zE (.tie t cs u ds))) (zD a) l1 none none) S)=_;have q:kI (K5 (ob "Tie" (zE (.tie t cs u ds))) (zD a) l1 none none) S=#[K5 (ob "Tie" (zE (.tie t cs u ds))) (zD a) l1 none none,S,0]:=by unfold kI;simp? [tH,fT,E,ne_int,B];rfl
   have Q:aD (K5 (ob "Tie" (zE (.tie t cs u ds))) (zD a) l1 none none) S=#[K5 (ob "Tie" (zE (.tie t cs u ds))) (zD a) l1 #[↑0] none,S++[.lst (zX a cs)],0]:=by unfold aD;simp? [fT,r2,Ax (n I) L k]
   have w: ∀{o:Nat×List MV},iO ts o->bA (K5 (ob "Tie" (zE (.tie t cs u ds))) (zD a) l1 #[↑0] (some (zD o))) (S++[.lst (zX a cs)])=if Kc u ds (zX a cs) o=true then .ok (.ret (.val (.bl false))) (S++[.lst (zX a cs)])else .ok _ (S++[.lst (zX a cs)]):=λ{o} m=>by
    unfold bA fY Kc
    cases j:decide ((o.1:Int)=u)with
    |false=>simp? [tH,fT,G,j];rfl
    |true=>
     have P:o.1=u:=by have:=Ŀ j;omega
     have b:=(JI h m).2 P;simp? [tH,fT,G,j,Y,Ax (n m) O b,UF gd (BP (n m) b) i];cases decide (zX o ds=zX a cs)<;>rfl
   have v: ∀(l:Z0)(y:V0),(∀o∈l,iO ts o)-> ∃A,nU (yF 4) bA [(l1,os.map zD)] (l.map zD) (K5 (ob "Tie" (zE (.tie t cs u ds))) (zD a) l1 #[↑0] y) (S++[.lst (zX a cs)])=if l.any (Kc u ds (zX a cs))=true then .ok (.ret (.val (.bl false))) (S++[.lst (zX a cs)])else #[A,S++[.lst (zX a cs)],0]:=by
    intro l
    induction l with
    |nil=>exact λy _=>⟨_,rfl⟩
    |cons o l ih=>
     intro y H;have D:=w (H o mF0)
     cases e:Kc u ds (zX a cs) o with
     |true=>
      rw[e,iP rfl]at D;refine⟨[],?_⟩;rw[ê,AG rfl D,ļ,e,Bool.true_or,iP rfl]
     |false=>
      rw[e,iN xF0]at D;obtain⟨A,N⟩:=ih (some (zD o)) λz hz=>H z (mO _ hz);refine⟨A,?_⟩;rw[ê,mE rfl D (jW Z),N,ļ,e,Bool.false_or]
   obtain⟨A,H⟩:=v os none ho;have r:aF (K5 (ob "Tie" (zE (.tie t cs u ds))) (zD a) l1 #[↑0] none) (S++[.lst (zX a cs)])=if os.any (Kc u ds (zX a cs))=true then .ok (.ret (.val (.bl false))) (S++[.lst (zX a cs)])else #[A,S++[.lst (zX a cs)],0]:=by unfold aF;exists 7,dC Z,H
   unfold yR;rw[zA q,zA Q]
   cases X:os.any (Kc u ds (zX a cs))with
   |true=>rw[X,iP rfl]at r;rw[yI r];rfl
   |false=>rw[X,iN xF0]at r;rw[zA r];rfl
  .show zU (yS [some (zE (.tie t cs u ds)),some (zD a),#[l2],none] S)=_;have q:yH [some (zE (.tie t cs u ds)),some (zD a),#[l2],none] S=#[[some (zE (.tie t cs u ds)),some (zD a),#[l2],none],S,0]:=by unfold yH;simp? [r0,E,tH,sP (S:=S) (iR _ LH [116,105,101]),ne_int,B];rfl
   have M:=vK (n I) k S (ef:=wQ) rfl λc=>by unfold wQ;exists 7,E6
   have Q:gP [some (zE (.tie t cs u ds)),some (zD a),#[l2],none] S=#[[some (zE (.tie t cs u ds)),some (zD a),#[l2],#[↑0]],S++[.lst (zX a cs)],0]:=by unfold gP;exists 7,r2,nH,show((cs.map zB).length<1000000)=True from eq_true (by rw[lM];omega),M
   have W:yD (yF 0) wU cP [none,some (zE (.tie t cs u ds)),#[↑0]] [(l2,os.map zD)] (os.map zD) (S++[.lst (zX a cs)])=.ok ((os.filter (Kc u ds (zX a cs))).map zD) (S++[.lst (zX a cs)]):=mX (jW g2) λo hm=>⟨_,rfl,by
    unfold wU Kc;have m:=ho o hm
    cases j:decide ((o.1:Int)=u)with
    |false=>simp? [tH,G,j];rfl
    |true=>
     have P:o.1=u:=by have:=Ŀ j;omega
     have b:=(JI h m).2 P;have J:=vK (n m) b (S++[.lst (zX a cs)]) (cf:=cO) (ef:=wR) rfl λc=>by unfold wR;simp? [E6]
     simp? [tH,G,j,Y,nH,show((ds.map zB).length<1000000)=True from eq_true (by rw[lM];omega),show CF 1 [0] [some (zD o),some (zE (.tie t cs u ds)),#[↑0]]=[none,some (zD o)]from rfl,J,UF gd (BP (n m) b) i];cases decide (zX o ds=zX a cs)<;>rfl,rfl⟩
   have he: ∀(l:Z0)(p:(Nat×List MV)->Bool),((l.filter p).map zD).isEmpty= !l.any p:=λl p=>by
    induction l with
    |nil=>rfl
    |cons o l ih=>
     cases F:p o with
     |true=>rw[ĵ F,ļ,F];rfl
     |false=>rw[Ķ (by rw[F];exact xF0),ļ,F,Bool.false_or];exact ih
   have r:gQ [some (zE (.tie t cs u ds)),some (zD a),#[l2],#[↑0]] (S++[.lst (zX a cs)])=.ok (.ret (.val (.bl (!os.any (Kc u ds (zX a cs)))))) (S++[.lst (zX a cs)]):=by unfold gQ;simp? [dC g2,show((os.map zD).length<1000000)=True from eq_true (by rw[lM];omega),show CF 1 [0,3] [some (zE (.tie t cs u ds)),some (zD a),#[l2],#[↑0]]=[none,some (zE (.tie t cs u ds)),#[↑0]]from rfl,W,Rj,he]
   unfold yS;rw[zA q,zA Q,r];rfl
end
theorem UG(hs:PF "lacks" fP (.val (ob c (.tup (.str x::more))))=some dI)(b: ∃y ms,rl=.tup (.str y::ms)/\y≠LH)(a)(l1 l2)(S):
  LkB (ob c (.tup (.str x::more))) rl a l1 l2 false S:=by
 obtain⟨y,ms,rfl,e⟩:=b;refine⟨_,hs,⟨[],by rw[aN];rfl⟩,xM rfl ?_⟩;show zU (yS [some _,some a,some _,none] S)=_;have d:yH [#[(.str y::ms),3],some a,#[l2],none] S=.ok (.ret (.val (.bl false))) S:=by unfold yH;simp? [ix_tup (ds:=.str y::ms) (i:=0) (fI rfl),sP (iR _ y [116,105,101]),show decide (y=[116,105,101])=false from dF0 e];rfl
 unfold yS;rw[yI d];rfl
theorem rP(ns:Za)(k)(n:0<=k)(S): ∃c,zG 2 zP [.val (.scr (ns.map MV.int)),#[k,5]] S=.ok #[c,5] S:=by
 have b:iQ [.val (.scr (ns.map MV.int))] S=.ok #[ns.length,5] S:=by show R.ok _ S=_;rw[lM]
 have i:gK [some (.scr (ns.map MV.int)),#[k,0]] S=if decide (k<ns.length)=true then(zV (.val (.scr (ns.map MV.int))) #[k,5] S).bind λr o=>.ok (.ret r) o else #[[some (.scr (ns.map MV.int)),#[k,0]],S,0]:=by unfold gK;exists 7,b,lt_int
 have fin: ∀c,zP [.scr (ns.map MV.int),.int k] S=.ok _ S-> ∃c,zG 2 zP [.val _,.val _] S=#[_,S,1]:=λc h=>⟨c,cQ rfl h (xA _ _) (λl=>by simp)⟩
 have hs:zF [ŝ,Ş] [.scr (ns.map MV.int),.int k]=[some _,some _]:=rfl;by_cases a:k<ns.length
 .obtain⟨d,m⟩:=nZ (xs:=ns.map MV.int) n (by rw[lM];exact a);obtain⟨c,rfl⟩: ∃c,d=.int c:=aB (P:=λd=> ∃c,d=.int c) (λe p=>by obtain⟨c,_,rfl⟩:=mM.mp p;exact⟨c,rfl⟩) m;have j:zV (.val (.scr (ns.map MV.int))) #[k,5] S=.ok #[c,5] S:=by show(match qN _ k with |some d=>R.ok (Er.val d) S|none=>.no)=_;rw[m]
  refine fin c ?_;rw[dT0 a,iP rfl,j,wV]at i;unfold zP dQ;rw[hs,yI i];rfl
 .refine fin 0 ?_;rw[dF0 a,iN xF0]at i;unfold zP dQ;rw[hs,zA i];rfl
noncomputable def Y1:Rule->Str
 |.never _ _=>"Never"
 |.apart _ _ _=>"Apart"
 |.tie _ _ _ _=>"Tie"
def Ua(h:lo n d):lo n (ob c d):=by exact yB λe a=>by rw[mS.mp a];exact h
theorem made(h:nG ts r)(S):zG 1 tX [.val (zE r)] S=#[ob (Y1 r) (zE r),S,1]:=by
 refine cQ rfl ?_ (Ua (GL h _)) (λl=>by simp)
 .show zU (lU [some _] S)=_
  cases r with
  |never t qs=>
   have a: ∀S,zV (.val (zE (.never t qs))) #[0,5] S=.ok _ S:=λS=>ix_tup rfl;have b:wK [some (zE (.never t qs))] S=.ok (.ret (.val (ob "Never" (zE (.never t qs))))) S:=by unfold wK;exists 7,a,RD
   unfold lU;rw[yI b];rfl
  |apart t u qs=>
   have a: ∀S,zV (.val (zE (.apart t u qs))) #[0,5] S=.ok _ S:=λS=>ix_tup rfl;have b:wK [some (zE (.apart t u qs))] S=#[[some (zE (.apart t u qs))],S,0]:=by unfold wK;exists 7,a,RD
   have c:cS [some (zE (.apart t u qs))] S=.ok (.ret (.val (ob "Apart" (zE (.apart t u qs))))) S:=by unfold cS;exists 7,a,RD
   unfold lU;rw[zA b,yI c];rfl
  |tie t cs u ds=>
   have a: ∀S,zV (.val (zE (.tie t cs u ds))) #[0,5] S=.ok _ S:=λS=>ix_tup rfl;have b:wK [some (zE (.tie t cs u ds))] S=#[[some (zE (.tie t cs u ds))],S,0]:=by unfold wK;exists 7,a,RD
   have c:cS [some (zE (.tie t cs u ds))] S=#[[some (zE (.tie t cs u ds))],S,0]:=by unfold cS;exists 7,a,RD
   unfold lU;rw[zA b,zA c];rfl
theorem Ay(ds)(a b)(S):uE #[ds,6] a b S=.ok #[gX ds a b,6] S:=rfl
abbrev Row:=Nat×List MV
def BQ:Rule->Row->Bool
 |.never t qs,a=>decide ((a.1:Int)=t)&&qs.all (kH [a])
 |_,_=>false
noncomputable def Y2:Rule->Row->Bool
 |.tie t _ _ _,a=>decide ((a.1:Int)=t)
 |_,_=>false
def Y3:Rule->Row->Row->Bool
 |.tie _ cs u ds,a,o=>Kc u ds (zX a cs) o
 |_,_,_=>false
def pP(r:Rule)(a:Row)(os:List Row):Bool:=Y2 r a&& !os.any (Y3 r a)
abbrev mY(r:Rule):MV:=ob (Y1 r) (zE r)
def Az(h:nG ts r)(j:iO ts a)(S):Eh "bars" 2 oV kT (mY r) (zE r) [.val (zD a)] (BQ r a) S:=by
 cases r with
 |never t qs=>exact (show Eh "bars" 2 oV kT (ob "Never" (zE (.never t qs))) (zE (.never t qs)) [.val (zD a)] (decide ((a.1:Int)=t)&&qs.all (kH [a])) S by
   have i: ∀S,zV (.val (zE (.never t qs))) #[0,5] S=.ok _ S:=λS=>ix_tup rfl;have c: ∀S,zV (.val (zE (.never t qs))) #[1,5] S=.ok _ S:=λS=>ix_tup rfl;have k: ∀S,zV (.val (zE (.never t qs))) #[2,5] S=.ok _ S:=λS=>ix_tup rfl;refine⟨_,rfl,xM rfl ?_,xM rfl ?_⟩
   .show zU (xC [some _,some (zD a)] S)=_;unfold xC mN
    cases b:decide ((a.1:Int)=t)with
    |false=>simp? [tH,fN,c,b,VW];rfl
    |true=>
     have e:a.1=t:=by have:=Ŀ b;lia
     have d:zG 2 xE [.new [zD a],.val _] S=.ok _ S:=Tz (rs1 j e) h.2.2.1 h.2.2.2 S;simp? [tH,fN,c,b,VW,k,d];rfl
   .show zU (kS [some _,some (zD a)] S)=_;unfold kS cE
    cases b:decide ((a.1:Int)=t)with
    |false=>simp? [tH,i,c,RD,b,VW];rfl
    |true=>
     have e:a.1=t:=by have:=Ŀ b;lia
     have d:zG 2 wL [.val _,#[[zD a],6]] S=.ok _ S:=Kb (rs1 j e) h.2.2.2 S;simp? [tH,i,c,k,RD,b,VW,X9,d];rfl)
 |apart t u qs=>exact Au rfl ⟨_,_,rfl,by decide⟩ _ S
 |tie t cs u ds=>exact Au rfl ⟨LH,_,rfl,by decide⟩ _ S
def UH(h:nG ts r)(e:iO ts a){os:List Row}(i: ∀o∈os,iO ts o)(d:os.length<1000)(b:S[l1]? =#[os.map zD,2])(c:S[l2]? =#[os.map zD,2]):
  LkB (mY r) (zE r) (zD a) l1 l2 (pP r a os) S:=by
 cases r with
 |never t qs=>exact UG rfl ⟨_,_,rfl,by decide⟩ _ l1 l2 S
 |apart t u qs=>exact UG rfl ⟨_,_,rfl,by decide⟩ _ l1 l2 S
 |tie t cs u ds=>exact Ei h e i d b c
def vL:Rule->Row->Row->Bool
 |.apart t u qs,a,b=>(decide ((a.1:Int)=t)&&decide ((b.1:Int)=u)&&qs.all (kH [a,b])) || (decide ((b.1:Int)=t)&&decide ((a.1:Int)=u)&&qs.all (kH [b,a]))
 |_,_,_=>false
def UI(h:nG ts r)(c:iO ts a)(d:iO ts b)(S):Eh "parts_them" 3 xF kW (mY r) (zE r) [.val (zD a),.val (zD b)] (vL r a b) S:=by
 cases r with
 |never t qs=>exact UE rfl ⟨_,_,rfl,by decide⟩ _ _ S
 |apart t u qs=>exact UD h c d S
 |tie t cs u ds=>exact UE rfl ⟨LH,_,rfl,by decide⟩ _ _ S
theorem Kd(S)(x)(c:0<n)(e:n<1073741824):zG 2 zC [.new [.int x],#[n,5]] S=.ok #[x % n,5] S:=by
 have a:=An S x;have hs:zF sV [.loc ↑0,.int n]=[some _,some _,none]:=rfl;have b:qN [MV.int x] 0=some _:=rfl;have d:kM [#[↑0],#[n,0],none] (SN S x)=#[[#[↑0],#[n,0],#[x % n,0]],SN S x,0]:=by unfold kM;exists 7,sQ a b,mod_lit c
 have h:kN [#[↑0],#[n,0],#[x % n,0]] (SN S x)=#[[#[↑0],#[n,0],#[x % n,0]],SN S (x / n),0]:=by unfold kN;simp? [sQ a b,AC c e,PY,TV a (show RJ [MV.int x].length 0=some 0 from rfl)];rw[QE]
 refine wW (T:=[.lst [.int (x / n)]]) rfl ?_ (xA _ _) (λl=>by simp);show zC [.loc ↑0,.int n] (SN S x)=_;unfold zC oW;rw[hs,zA d,zA h];rfl
def zQ(ts:Tk)(rls:List Rule)(rs:List Row):MV:=.tup [.tup (ts.map tbl),.tup (rls.map zE),.tup (rs.map zD)]
theorem BR: ∀{ts}{o},(∀d∈o, ∃r,nG ts r/\d=zE r)-> ∃rls:List Rule,o=rls.map zE/\ ∀r∈rls,nG ts r
 |ts,[],_=>⟨[],rfl,λr h=>by simp at h⟩
 |ts,d::o,h=>by obtain⟨r,j,rfl⟩:=h d mF0;obtain⟨rls,rfl,b⟩:=BR λe a=>h e (mO _ a);exact⟨_,rfl,λq c=>(mC.mp c).elim (λe=>e▸j) (b q)⟩
def Rk{rs:List Row}(h: ∀r∈rs,iO ts r)(n):lo n (.tup (rs.map zD)):=yP (yB λd b=>by obtain⟨r,a,rfl⟩:=mM.mp b;exact XF (h r a) _)
def Ke{rls:List Rule}(h: ∀r∈rls,nG ts r)(n):lo n (.tup (rls.map zE)):=yP (yB λd b=>by obtain⟨r,a,rfl⟩:=mM.mp b;exact GL (h r a) _)
theorem Ej(ds)(S):fV [.new ds] S=.ok #[ds,6] S:=rfl
noncomputable abbrev N9(mo:Nat)(q:MV)(d a c x6 x7 b:V0):Rho:=[some q,#[(mo:Nat),0],#[3,0],d,a,c,x6,x7,b]
def tup3(a b c)(S):wH [.val a,.val b,.val c] S=.ok #[[a,b,c],6] S:=qU (by simp)
theorem Rm(ns:Za)(h:ns.length<=63)(mo)(af:mo<=60): ∃ts rls rs,Jv ts/\(∀r∈rls,nG ts r)/\(∀r∈rs,iO ts r)/\rs.length<=60/\rls.length<=6/\
  zG 3 cX [.val (.scr (ns.map MV.int)),#[(mo:Nat),5],#[3,5]] []=#[zQ ts rls rs,[],1]:=by
 have hs:zF FA [.scr (ns.map MV.int),.int (mo:Nat),.int 3]=N9 mo (.scr (ns.map MV.int)) none none none none none none:=rfl;obtain⟨c0,h0⟩:=rP ns 0 ↑4 [];obtain⟨e,N,hp⟩:=Rf c0 [];have e1:eX (N9 mo (.scr (ns.map MV.int)) none none none none none none) []=#[N9 mo (.scr (ns.map MV.int)) #[0] none none none none none,[.lst e],0]:=by unfold eX;exists 7,h0,hp
 obtain⟨c1,X⟩:=rP ns 1 ↑4 [.lst e];obtain⟨ts,G,ht⟩:=Ec c1 [.lst e];have e2:eY (N9 mo (.scr (ns.map MV.int)) #[0] none none none none none) [.lst e]=#[N9 mo (.scr (ns.map MV.int)) #[0] #[ts.map tbl,3] none none none none,[.lst e],0]:=by unfold eY;exists 7,X,ht
 obtain⟨c2,h2⟩:=rP ns 2 ↑4 [.lst e];obtain⟨t,hw⟩:=BH c2 5 ⟨by decide,by decide⟩ [.lst e];obtain⟨m,U,ab⟩:=qH t (n:=7) ↑4;have p:=Kd [.lst e] t (n:=7) ↑4 ↑4;rw[show((7:Nat):Int)=7 from rfl]at U;rw[U]at p;have e3:eZ (N9 mo (.scr (ns.map MV.int)) #[0] #[ts.map tbl,3] none none none none) [.lst e]=#[N9 mo (.scr (ns.map MV.int)) #[0] #[ts.map tbl,3] #[(m:Nat),0] none none none,[.lst e],0]:=by unfold eZ;exists 7,h2,hw,E2,HM (S:=[.lst e]) (i:=3) (d:=.int 7) rfl,p
 obtain⟨out,q1,q2,q3⟩:=RY (gf:=yF 0) (cf:=iG) (ef:=bY) (ρb:=[none,some (.scr (ns.map MV.int)),#[0],#[ts.map tbl,3]]) (gs:=[]) (S:=[.lst e]) (P:=λy=> ∃r,nG ts r/\y=zE r) (xO _) (ds:=(List.range m).map λk=>MV.int (k:Nat)) (λd v=>by obtain⟨k,I,rfl⟩:=mM.mp v;obtain⟨c,D⟩:=rP ns (3+(k:Nat)) #[] [.lst e];obtain⟨r,u,C⟩:=Rh G c (lp:=0) (S:=[.lst e]) N rfl;refine⟨_,zE r,rfl,rfl,?_,r,u,rfl⟩;unfold bY;exists 7,D,C);obtain⟨rls,rfl,s⟩:=BR q3;rw[lM,lM,î]at q2;have e4:fB (N9 mo (.scr (ns.map MV.int)) #[0] #[ts.map tbl,3] #[(m:Nat),0] none none none) [.lst e]=#[N9 mo (.scr (ns.map MV.int)) #[0] #[ts.map tbl,3] #[(m:Nat),0] #[rls.map zE,3] none none,[.lst e],0]:=by unfold fB;simp? [fW (S:=[.lst e]) (j:=(m:Nat)) ⟨by lia,by lia⟩,show(((List.range m).map λk=>MV.int (k:Nat)).length<1000000)=True from eq_true (by rw[lM,î];lia),show CF 1 [0,3,4] (N9 mo (.scr (ns.map MV.int)) #[0] #[ts.map tbl,3] #[(m:Nat),0] none none none)=[none,some (.scr (ns.map MV.int)),#[0],#[ts.map tbl,3]]from rfl,show((m:Nat):Int).toNat=m from rfl,q1,Ej]
 have cs: ∀(a b:O0)(S:Sto),uE (.val (.scr (ns.map MV.int))) a b S=#[(gX ns a b).map MV.int,S,2]:=λa b S=>by rw[<-HN];rfl
 have cl: ∀(a b:O0),(gX ns a b).length<=63:=λa b=>ï ((by
   unfold gX;rw[lT,ó]
   lia)) h;have K:fC (N9 mo (.scr (ns.map MV.int)) #[0] #[ts.map tbl,3] #[(m:Nat),0] #[rls.map zE,3] none none) [.lst e]=#[N9 mo (.scr (ns.map MV.int)) #[0] #[ts.map tbl,3] #[(m:Nat),0] #[rls.map zE,3] #[1] none,[.lst e,.lst ((gX ns (some (3+(m:Nat))) none).map MV.int)],0]:=by unfold fC;exists 7,cs
 generalize z:gX ns (some (3+(m:Nat))) none=cc at K;have J:cc.length<=63:=by rw[<-z];exact cl _ _
 obtain⟨d2,F⟩:=rP ns 2 ↑4 [.lst e,.lst (cc.map MV.int)];obtain⟨n6,ah,H⟩:=PZ d2 6 ⟨by decide,by decide⟩ [.lst e,.lst (cc.map MV.int)];obtain⟨j,O,aa⟩:=qH n6 (n:=mo+1) #[];rw[Int.natCast_add,show((1:Nat):Int)=1 from rfl]at O
 obtain⟨W,L,A,q,is,o,B,ag⟩:=vB (gf:=yF 8) (body:=eW) (gs:=[])
  (λi Q L=> ∃(q:V0)(is:Za),Q=N9 mo (.scr (ns.map MV.int)) #[0] #[ts.map tbl,3] #[(m:Nat),0] #[rls.map zE,3] #[1] q/\L=[.lst e,.lst (is.map MV.int)]/\is.length<=63+i) (λi d hi Q S1 ⟨q,is,o,E,hl⟩=>by
   subst o E;obtain⟨k,I,rfl⟩:=mM.mp (á hi);rw[ý]at I;have Y:i<j:=by have:=(gS.mp hi).1;rw[lM,î]at this;exact this
   obtain⟨c,D⟩:=rP ns 2 ↑4 [.lst e,.lst (is.map MV.int)];obtain⟨y,_,hy⟩:=PZ c (30+(k:Nat)) ⟨by lia,by lia⟩ [.lst e,.lst (is.map MV.int)];refine⟨_,_,?_,xO _,#[(k:Nat),0],is++[1+2 * y],rfl,rfl,by rw[lA,lS];lia⟩;rw[show yF 8 (.int (k:Nat)) _ [.lst e,.lst (is.map MV.int)]=.ok _ [.lst e,.lst (is.map MV.int)]from rfl,wV];unfold eW iH;simp? [D,hy,AD (show -(2 ^ 64)<(2:Int)/\(2:Int)<2 ^ 64 by decide),jS (S:=[.lst e,.lst (is.map MV.int)]) (l:=1) (ds:=is.map MV.int) rfl,cL (S:=[.lst e,.lst (is.map MV.int)]) (l:=1) (ds:=is.map MV.int) rfl (by rw[lM];lia)];rw[đ];rfl) ⟨none,cc,rfl,rfl,by lia⟩
 subst o B;have e6:fD (N9 mo (.scr (ns.map MV.int)) #[0] #[ts.map tbl,3] #[(m:Nat),0] #[rls.map zE,3] #[1] none) [.lst e,.lst (cc.map MV.int)]=#[N9 mo (.scr (ns.map MV.int)) #[0] #[ts.map tbl,3] #[(m:Nat),0] #[rls.map zE,3] #[1] q,[.lst e,.lst (is.map MV.int)],0]:=by unfold fD;simp? [F,H,mod_lit (show(0:Int)<(mo:Nat)+1 by lia),O,fW (S:=[.lst e,.lst (cc.map MV.int)]) (j:=(j:Nat)) ⟨by lia,by lia⟩,show((j:Nat):Int).toNat=j from rfl];exact A
 obtain⟨rs,M,_,ae,u⟩:=Rg G (gX is none (some (2 * (mo:Nat)))) (w:=(mo:Nat)) ⟨by lia,by lia⟩ (lp:=0) (S:=[.lst e,.lst (is.map MV.int)]) N rfl;have Z:fE (N9 mo (.scr (ns.map MV.int)) #[0] #[ts.map tbl,3] #[(m:Nat),0] #[rls.map zE,3] #[1] q) [.lst e,.lst (is.map MV.int)]=.ok (.ret (.val (zQ ts rls rs))) [.lst e,.lst (is.map MV.int)]:=by rw[<-HN]at u;unfold fE;exists 7,AD (show -(2 ^ 64)<(2:Int)/\(2:Int)<2 ^ 64 by decide),show uE #[1,1] none (some (2 * (mo:Nat):Int)) [.lst e,.lst (is.map MV.int)]=#[gX (is.map MV.int) none (some (2 * (mo:Nat))),[.lst e,.lst (is.map MV.int)],2]from rfl,u
 refine⟨ts,rls,rs,G,s,M,by lia,by lia,wW (T:=[.lst e,.lst (is.map MV.int)]) rfl ?_ ((yP (yB λd v=>by
   simp only[mC,nM,or_false]at v;rcases v with rfl|rfl|rfl
   .exact Jx _
   .exact Ke s _
   .exact Rk M _))) (λl=>by simp[zQ])⟩
 .show cX [.scr (ns.map MV.int),.int (mo:Nat),.int 3] []=_;unfold cX tF;rw[hs,zA e1,zA e2,zA e3,zA e4,zA K,zA e6,Z];rfl
theorem tI{α:Type}{le:α->α->Prop}: ∀{d j:List α},d.Perm j->d.Pairwise le->j.Pairwise le->(∀a∈d, ∀b∈d,le a b->le b a->a=b)->d=j
 |[],j,p,_,_,_=>p.nil_eq
 |a::d,[],p,_,_,_=>by have:=p.length_eq;simp at this
 |a::d,b::j,p,h1,h2,u=>by
  have c:=ĭ.mp h1;have h:=ĭ.mp h2
  have e:a=b:=by
   rcases mC.mp (p.mem_iff.mp (mF0 (a:=a) (l:=d)))with e|m2
   .exact e
   .rcases mC.mp (p.mem_iff.mpr (mF0 (a:=b) (l:=j)))with e|m1
    .exact e.symm
    .exact u a mF0 b (mO _ m1) (c.1 b m1) (h.1 a m2)
  subst e;rw[tI (p.cons_inv) c.2 h.2 λx i y k=>u x (mO _ i) y (mO _ k)]
def JK{β:Type}(T:List β):(List.range T.length).filterMap (T[·]?)=T:=by
 induction T with
 |nil=>rfl
 |cons t T ih=>
  rw[lC,List.range_succ_eq_map,Ě,List.filterMap_map];show t::List.filterMap (λi=>_[i+1]?) _=_;simp only[List.getElem?_cons_succ];rw[ih]
theorem ND: ∀{ds},(∀d∈ds,nO d=true)->AK ds=true
 |[],_=>by unfold AK;rfl
 |d::ds,h=>by unfold AK;rw[h d mF0,ND λx hx=>h x (mO _ hx)];rfl
structure OrdB{β:Type}(f:β->MV)(lt:β->β->Bool):Prop where
 kind: ∀a,IB (f a)
 pu: ∀a,nO (f a)=true
 is: ∀S a b,qS S zH (f a) (f b)=some (lt a b)
 tr: ∀a b c,lt b a=false->lt c b=false->lt c a=false
 as: ∀a b,lt a b=true->lt b a=false
 tri: ∀a b,lt a b=false->lt b a=false->a=b
section
variable{lt:β->β->Bool}
theorem Ba(O:OrdB f lt)(t): ∀{R},R.Pairwise (λa b=>lt b a=false)-> ∃j:List β,j.Perm (t::R)/\j.Pairwise (λa b=>lt b a=false)
 |[],_=>⟨[t],.refl _,List.pairwise_singleton _ _⟩
 |a::l,hp=>by
  have c:=ĭ.mp hp
  cases z:lt a t with
  |false=>
   refine⟨t::a::l,.refl _,ĭ.mpr ⟨λx d=>?_,hp⟩⟩;rcases mC.mp d with e|d
   .rw[e];exact z
   .exact O.tr t a x z (c.1 x d)
  |true=>
   obtain⟨j,p,q⟩:=Ba O t c.2;refine⟨a::j,(p.cons a).trans (.swap _ _ _),ĭ.mpr ⟨λx d=>?_,q⟩⟩;rcases mC.mp (p.mem_iff.mp d)with e|d
   .rw[e];exact O.as a t z
   .exact c.1 x d
theorem Bb(O:OrdB f lt): ∀ T , ∃R:List β,R.Perm T/\R.Pairwise (λa b=>lt b a=false)
 |[]=>⟨[],.refl _,.nil⟩
 |t::T=>by obtain⟨R,p,q⟩:=Bb O T;obtain⟨c,e,d⟩:=Ba O t q;exact⟨c,e.trans (p.cons t),d⟩
def Ro(O:OrdB f lt){R:List β}(B:R.Perm T)(A:R.Pairwise (λa b=>lt b a=false))(J:T.length<1000000)(G:wI S p=some (T.map f)):MP [p] S=#[R.map f,S,2]:=by
 cases L:T with
 |nil=>
  subst L;have e:R=[]:=B.eq_nil;subst e;refine ZV G ⟨by simp,λd q=>by simp at q,λd q=>by simp at q,⟨λa n=>by simp at n,λa n=>by simp at n,λa n=>by simp at n⟩⟩ (λK h=>?_) ⟨[],by simp,.nil,rfl⟩;obtain⟨m,z,_,rfl⟩:=h;have:=z.length_eq;have y:m=[]:=List.eq_nil_of_length_eq_zero (by simpa using this);rw[y];rfl
 |cons t0 T0=>
 have mem: ∀k∈T.map f, ∃t,k=f t:=λk I=>by obtain⟨t,_,w⟩:=mM.mp I;exact⟨t,w.symm⟩
 have ok:SrtS S (T.map f):=by
  refine⟨by rw[lM];exact J,λd q=>?_,λd q=>?_,⟨λa n b r=>?_,λa n b r c s o w=>?_,λa n b r o=>?_⟩⟩
  .obtain⟨t,rfl⟩:=mem d q;exact O.pu t
  .obtain⟨t,rfl⟩:=mem d q;exact O.kind t
  .obtain⟨t,rfl⟩:=mem a n;obtain⟨u,rfl⟩:=mem b r;exact⟨_,O.is S t u⟩
  .obtain⟨t,rfl⟩:=mem a n;obtain⟨u,rfl⟩:=mem b r;obtain⟨v,rfl⟩:=mem c s;rw[O.is]at o w ⊢;rw[O.tr t u v (ã o) (ã w)]
  .obtain⟨t,rfl⟩:=mem a n;obtain⟨u,rfl⟩:=mem b r;rw[O.is]at o ⊢;rw[O.as t u (ã o)]
 refine ZV G ok (λK h=>?_) ?_
 .obtain⟨m,E,P,rfl⟩:=h;rw[lM]at E;have M:(m.filterMap (T[·]?)).Perm T:=by have:=E.filterMap (T[·]?);rwa [JK]at this
  have y:(m.filterMap (T[·]?)).Pairwise (λa b=>lt b a=false):=by rw[List.pairwise_filterMap];refine P.imp λ{i j} h b r c s=>?_;have h':=h (f b) (f c) (by rw[ì,r];rfl) (by rw[ì,s];rfl);rw[O.is]at h';exact ã h'
  have N:m.filterMap ((T.map f)[·]?)=(m.filterMap (T[·]?)).map f:=by rw[Ľ];congr 1;funext i;rw[ì]
  rw[N,tI (M.trans B.symm) y A λa _ b _ o w=>O.tri a b w o]
 .have g:(List.range T.length).map (λi=>(T[i]?).getD t0)=T:=by rw[AM λi hi=>ý.mp hi,JK]
  obtain⟨m,z,D⟩:=tT B.symm (List.range T.length) g;have C: ∀i,i∈m->i<T.length:=λi hi=>ý.mp (z.mem_iff.mp hi);refine⟨m,by rw[lM];exact z,?_,?_⟩
  .rw[<-D,ņ]at A;refine Ň (λ{i j} hi Q h a c n s=>?_) A;have F:T[i]? =some (T[i]'(C i hi)):=gE _;have H:T[j]? =some (T[j]'(C j Q)):=gE _;rw[ì,F]at n;rw[ì,H]at s;cases n;cases s;rw[F,H]at h;rw[O.is];exact congrArg some h
  .have y:m.map (λi=>(T[i]?).getD t0)=m.filterMap (T[·]?):=AM C;rw[<-D,y,Ľ];congr 1;funext i;rw[ì]
end
abbrev Bk:=List Nat×List Nat
def rZ(b:Bk):MV:=.tup (.str b.1::b.2.map zB)
noncomputable def Ek(a b:Bk):Bool:=decide (a.1<b.1) || (decide (a.1=b.1)&&decide (a.2<b.2))
theorem JL: ∀(d ms:Db),FO (eqv S (n+1)) (qS S (n+1)) (d.map zB) (ms.map zB)=some (decide (d<ms))
 |[],[]=>rfl
 |[],m::ms=>by rw[dT0 (List.nil_lt_cons m ms)];rfl
 |k::d,[]=>by rw[dF0 (List.not_lt_nil _)];rfl
 |k::d,m::ms=>by
  show((eqv S _ _ _).bind λz=>if z=true then FO _ _ _ _ else qS S _ _ _)=_;rw[show eqv S _ (zB k) (zB m)=some _ from AB n k m];show(if decide _=true then _ else _)=_;rw[decide_eq_decide.mpr cons_lt_cons_iff];by_cases h:k=m
  .subst h;rw[JL d ms];simp
  .rw[iN (by rw[ô];lia)];show some _=_;congr 1;exact dec_is #[]
def Kf:OrdB rZ Ek where
 kind:=λa=>⟨a.1,a.2.map zB,rfl⟩
 pu:=λa=>by
  unfold rZ nO
  exact ND λx hx=>by
   rcases mC.mp hx with rfl|hx
   .unfold nO;rfl
   .obtain⟨i,_,rfl⟩:=mM.mp hx;unfold zB nO;rfl
 is:=λS a b=>by
  have e:zH=38+1+1:=rfl;rw[e];show FO (eqv S (38+1)) (qS S (38+1)) (.str a.1::a.2.map zB) (.str b.1::b.2.map zB)=_;show((eqv S (38+1) (.str a.1) (.str b.1)).bind λz=>if z=true then FO (eqv S (38+1)) (qS S (38+1)) (a.2.map zB) (b.2.map zB)else qS S (38+1) (.str a.1) (.str b.1))=_;rw[iR,JL];unfold Ek;show(if decide (a.1=b.1)=true then _ else _)=_;by_cases h:a.1=b.1
  .rw[iP (by simpa using h),dT0 h,h,dF0 (show¬b.1<b.1 from List.lt_irrefl b.1)];rfl
  .rw[iN (by simpa using h),dF0 h];show some (decide (a.1<b.1))=_;simp
 tr:=λa b c h1 h2=>by
  unfold Ek at *;simp only[Bool.or_eq_false_iff,Bool.and_eq_false_iff,ŏ]at *
  have t1: ¬c.1<a.1:=λh=>by
   rcases Classical.em (b.1<a.1)with h'|h'
   .exact h1.1 h'
   .rcases Classical.em (c.1<b.1)with h''|h''
    .exact h2.1 h''
    .exact ā.mpr (List.le_trans (ā.mp h') (ā.mp h'')) h
  refine⟨t1,?_⟩;by_cases e:c.1=a.1
  .refine .inr λh=>?_;have e1:b.1=a.1:=le_antisymm (by rw[<-e];exact ā.mp h2.1) (ā.mp h1.1);have e2:c.1=b.1:=by rw[e1,e]
   have g1: ¬b.2<a.2:=h1.2.resolve_left (λz=>z e1);have g2: ¬c.2<b.2:=h2.2.resolve_left (λz=>z e2);exact ā.mpr (List.le_trans (ā.mp g1) (ā.mp g2)) h
  .exact .inl e
 as:=λa b h=>by
  unfold Ek at *;simp only[Bool.or_eq_true,aE,ô,Bool.or_eq_false_iff,Bool.and_eq_false_iff,ŏ]at *;rcases h with h|⟨e,h⟩
  .exact⟨lt_asymm h,.inl λe=>by rw[e]at h;exact List.lt_irrefl _ h⟩
  .exact⟨by rw[e];exact List.lt_irrefl _,.inr (lt_asymm h)⟩
 tri:=λa b h1 h2=>by unfold Ek at *;simp only[Bool.or_eq_false_iff,Bool.and_eq_false_iff,ŏ]at *;have e:a.1=b.1:=le_antisymm (ā.mp h2.1) (ā.mp h1.1);have e2:a.2=b.2:=le_antisymm (ā.mp (h2.2.resolve_left (λz=>z e.symm))) (ā.mp (h1.2.resolve_left (λz=>z e)));exact Prod.ext e e2
theorem JM{α:Type}{f:α->MV}{p:α->Bool}(I:Rho->Prop)(hs:stay gs S):
  ∀{ds:List α},(∀d∈ds, ∀j,I j-> ∃m,gf (f d) j S=.ok m S/\(p d=true->body m S=.ok (.ret r) S)/\(p d=false-> ∃ρ',I ρ'/\body m S=#[ρ',S,0]))-> ∀j,I j->
   (ds.any p=true->nU gf body gs (ds.map f) j S=.ok (.ret r) S)/\(ds.any p=false-> ∃ρ',I ρ'/\nU gf body gs (ds.map f) j S=#[ρ',S,0])
 |[],_,j,h=>⟨(λz=>nomatch z),λ_=>⟨j,h,rfl⟩⟩
 |d::ds,st,j,h=>by
  obtain⟨m,g,y,n⟩:=st d mF0 j h;rw[ļ,ê]
  cases a:p d with
  |true=>exact⟨λ_=>AG g (y a),λz=>nomatch z⟩
  |false=>
   obtain⟨ρ',h',b⟩:=n a;rw[mE g b hs];exact JM I hs (λd c=>st d (mO _ c)) ρ' h'
theorem fR{α β:Type}{f:α->MV}(J:Nat->β->Rho->Sto->Prop)(step):
  ∀{ds:List α} k ,(∀j d,ds[j]? =some d-> ∀b m S,J (k+j) b m S-> ∃ρ' S',((gf (f d) m S).bind λu v=>body u v)=#[ρ',S',0]/\stay gs S'/\J (k+j+1) (step b d) ρ' S')-> ∀b m S,J k b m S->
   ∃ρ' S',nU gf body gs (ds.map f) m S=#[ρ',S',0]/\J (k+ds.length) (ds.foldl step b) ρ' S'
 |[],k,_,b,m,S,h=>⟨m,S,rfl,h⟩
 |d::ds,k,st,b,m,S,h=>by
  obtain⟨y,I,q,G,B⟩:=st 0 d rfl b m S h;obtain⟨a,i,r,o⟩:=fR J step _ (λj e p b m S n=>by have:=st (j+1) e p b m S (by rw[show k+_=k+1+j by lia];exact n);rw[show k+_=k+1+j by lia]at this;exact this) _ y I B;refine⟨a,i,?_,by rw[lC,show k+_=k+1+ds.length by lia];exact o⟩;rw[ê]
  cases z:gf (f d) m S with
  |ok u v=>
   rw[z,wV]at q;rw[mE z q G,r]
  |exc c fs v=>rw[z]at q;cases q
  |no=>rw[z]at q;cases q
theorem vM{α:Type}{f g:α->MV}{p:α->Bool}(hs:stay gs S):
  ∀{ds:List α},(∀d∈ds, ∃j,gf (f d) ρb S=.ok j S/\cf j S=.ok (p d) S/\ef j S=#[g d,S,1])->yD gf cf ef ρb gs (ds.map f) S=.ok ((ds.filter p).map g) S
 |[],_=>rfl
 |d::ds,st=>by
  obtain⟨j,q,m,u⟩:=st d mF0;have e:=vM hs λd b=>st d (mO _ b);rw[ê];unfold yD
  cases a:p d with
  |true=>
   rw[q,yC,wV,m,yC,wV,a,u,yC,wV];unfold nT;rw[wV,iP hs,e,ĵ a];rfl
  |false=>
   rw[q,yC,wV,m,yC,wV,a,iN xF0,iP hs,e,Ķ (by rw[a];exact xF0)]
def GM(K:Db)(n):CS n (K.map zB):=yB λd a=>by obtain⟨i,_,rfl⟩:=mM.mp a;exact xA _ _
section
variable{rls:List Rule}
noncomputable def yX(rs:List Row)(i:Nat):Row:=(rs[i]?).getD (0,[])
def gR(h:i<rs.length):yX rs i∈rs:=by unfold yX;rw[gE h];exact ł h
def nY(h:i<rs.length)(S):zV #[rs.map zD,6] (.val (zB i)) S=#[zD (yX rs i),S,1]:=ix_tup (fI (by unfold yX;rw[ì,gE h];rfl))
theorem book1(S):zV (.val (zQ ts rls rs)) #[1,5] S=.ok #[rls.map zE,6] S:=ix_tup rfl
theorem mZ(S):zV (.val (zQ ts rls rs)) #[2,5] S=.ok #[rs.map zD,6] S:=ix_tup rfl
def QL(h: ∀r∈rls,nG ts r)(i:rls.length<=100)(S):zG 1 jZ [.val (zQ ts rls rs)] S=#[rls.map mY,S,2]:=lZ rfl (by
 show zU (rA [some _] S)=_;have c:yD (yF 0) mQ dL [none] [] _ S=.ok (rls.map mY) S:=cY (xO _) λr a=>⟨[some (zE r)],rfl,rfl,by unfold dL;simp? [made (h r a)]⟩
 have b:iV [some (zQ ts rls rs)] S=.ok (.ret (.new (rls.map mY))) S:=by unfold iV;exists 7,book1,nH,show((rls.map zE).length<1000000)=True from eq_true (by rw[lM];omega),c
 unfold rA;rw[b,aN];rfl) ((yB λd e=>by obtain⟨r,a,rfl⟩:=mM.mp e;exact Ua (GL (h r a) _)))
noncomputable def zAJ(ts:Tk)(t:Nat):Int:=((ts[t]?).getD (0,0)).2
def EA(ts:Tk)(a:Row):MV:=.tup [zB a.1,.tup (gX a.2 none (some (zAJ ts a.1)))]
theorem XJ(h:iO ts a):pd (EA ts a)=true/\MY (EA ts a)<=2:=by
 obtain⟨p,_,_,i⟩:=h;have c: ∀d∈gX a.2 none (some (zAJ ts a.1)),Vl d:=λd b=>i d (RX b);have e:Fe _=true:=QB λd b=>(iM (c d b)).1;have j:IZ _<=0:=QD λd b=>by rw[(iM (c d b)).2];exact à _
 unfold EA zB;refine⟨by rw[JA,qE,qE,JA,e];rfl,?_⟩;rw[BI,qF,qF,JB,QA,BI]
 lia
def Kg(h:iO ts a)(n):lo n (EA ts a):=yP (yB λd b=>by
 obtain⟨p,_,_,c⟩:=h;simp only[mC,nM,or_false]at b;rcases b with rfl|rfl
 .exact xA _ _
 .exact yP (yB λd b=>by
   have:=c d (RX b);rcases this.cases with⟨i,rfl,_⟩|⟨x,rfl,_⟩
   .exact xA _ _
   .exact pE _ _))
theorem Kh(h:iO ts a)(S):zV #[ts.map tbl,6] #[a.1,5] S=.ok #[[.int ((ts[a.1]?).getD (0,0)).1,.int (zAJ ts a.1)],6] S:=by obtain⟨p,b,_,_⟩:=h;refine ix_tup (fI ?_);rw[ì];unfold zAJ;rw[b];rfl
theorem Ki(S):zV (.val (zQ ts rls rs)) #[0,5] S=.ok #[ts.map tbl,6] S:=ix_tup rfl
def tup2(a b)(S):wH [.val a,.val b] S=.ok #[[a,b],6] S:=qU (by simp)
theorem Bc(h:iO ts a)(S):zG 2 sX [#[ts.map tbl,6],.val (zD a)] S=#[EA ts a,S,1]:=by refine cQ rfl ?_ (Kg h _) (λl=>by simp[EA]);show zU (BA [some _,some _] S)=_;unfold BA vD;simp? [tH,Kh h,ix_tup (ds:=[.int ((ts[a.1]?).getD _).1,.int _]) (i:=1) rfl,tup2];rfl
theorem QM(b: ∀r∈rs,iO ts r)(hi:i<rs.length)(S):zG 2 mW [.val (zQ ts rls rs),.val (zB i)] S=#[EA ts (yX rs i),S,1]:=by
 have h:=b _ (gR hi);refine cQ rfl ?_ (Kg h _) (λl=>by simp[EA]);show zU (rL [some _,some _,none,none] S)=_;have a:lO [some (zQ ts rls rs),some (zB i),none,none] S=#[[some (zQ ts rls rs),some (zB i),#[((yX rs i).1:Nat),0],#[(yX rs i).2,3]],S,0]:=by unfold lO;simp? [mZ,nY hi,PY];rfl
 have c:lQ [some (zQ ts rls rs),some (zB i),#[((yX rs i).1:Nat),0],#[(yX rs i).2,3]] S=.ok (.ret (.val (EA ts (yX rs i)))) S:=by unfold lQ;simp? [Ki,Kh h,ix_tup (ds:=[.int ((ts[(yX rs i).1]?).getD _).1,.int _]) (i:=1) rfl,Ay,tup2];rfl
 unfold rL;rw[zA a,c];rfl
def Kj(ts:Tk)(a b:Row):Bool:=decide (EA ts a=EA ts b)
theorem GN(c:iO ts a)(d:iO ts b)(S):iK (.val (EA ts a)) (.val (EA ts b)) S=#[.bl (Kj ts a b),S,1]:=Am (XJ c).1 (XJ d).1 (by have:=(XJ c).2;lia)
noncomputable def pQ(rls:List Rule)(k:Nat):Rule:=(rls[k]?).getD (.tie 0 [] 0 [])
def GO(h:k<rls.length):pQ rls k∈rls:=by unfold pQ;rw[gE h];exact ł h
theorem Bd{α:Type}(f)(l:List α)(g:Nat->α)(b: ∀k  h ,g k=l[k]):RZ (l.map f)=(List.range l.length).map λi=>.tup [zB i,f (g i)]:=by
 unfold RZ;apply Ŕ;intro m;by_cases a:m<l.length
 .simp only[ì,List.getElem?_zipIdx,getElem?_range a,Option.map_some,gE a,ď];rw[b m a];rfl
 .rw[ē (by rw[lM,length_zipIdx,lM];lia),ē (by rw[lM,î];lia)]
theorem Kk(k)(h):pQ rls k=rls[k]:=by unfold pQ;rw[gE h];rfl
end
def Rp(a:S[l]? =#[ds,2])(hz:ds.length+zs.length<=1000000):Pu #[l,1] [.new zs] S=#[.non,S.set l (.lst (ds++zs)),1]:=by show _=_;show CY #[l,1] S (λds=>if ds.length+zs.length<=sizeLine then some _ else none)=_;unfold CY;dsimp only;rw[a];dsimp only;rw[iP (fits hz)]
def Kl(l:List Bk)(n):CS n (l.map rZ):=yB λd a=>by obtain⟨b,_,rfl⟩:=mM.mp a;exact (yP (yB λd a=>by
  rcases mC.mp a with rfl|a
  .exact pE _ _
  .obtain⟨i,_,rfl⟩:=mM.mp a;exact xA _ _))
def Rq{α:Type}{f:α->MV}{l:List α}{g:Nat->α}(a: ∀k  h ,g k=l[k])(h:S[p]? =#[l.map f,2]):ZC [#[p,1]] S=.ok ⟨(List.range l.length).map λi=>.tup [zB i,f (g i)],[(p,l.map f)]⟩ S:=by
 have e:srcOf S #[p,1]=some ⟨true,l.map f,[(p,l.map f)]⟩:=by unfold srcOf;dsimp only;rw[h]
 unfold ZC;dsimp only;rw[e];show R.ok _ S=_;rw[Bd f l g a]
def Be{α:Type}{f:α->MV}{l:List α}{g:Nat->α}(a: ∀k  h ,g k=l[k])(S):ZC [#[l.map f,6]] S=.ok ⟨(List.range l.length).map λi=>.tup [zB i,f (g i)],[]⟩ S:=by show R.ok _ S=_;rw[Bd f l g a]
noncomputable def El:List Nat:=[107,101,121]
section
def XM(rls:List Rule)(rs:List Row)(a:Db)(i:Nat):List Bk:=((List.range rls.length).filter λk=>BQ (pQ rls k) (yX rs i)).map (λk=>(DZ,[i,k]))++((List.range rls.length).filter λk=>pP (pQ rls k) (yX rs i) (a.map (yX rs))).map λk=>(LH,[i,k])
def qK(ts:Tk)(rls:List Rule)(rs:List Row)(i j:Nat):List Bk:=((List.range rls.length).filter λk=>vL (pQ rls k) (yX rs i) (yX rs j)).map (λk=>(rO,[i,j,k]))++if Kj ts (yX rs i) (yX rs j)=true then [(El,[i,j])]else []
def Rt(i j):(qK ts rls rs i j).length<=rls.length+1:=by
 unfold qK;rw[lA,lM];have a:=Č (λk=>vL (pQ rls k) (yX rs i) (yX rs j)) (List.range rls.length);rw[î]at a;split
 .simp;omega
 .simp;omega
abbrev P7(ts:Tk)(rls:List Rule)(rs:List Row)(lr i j:Nat)(x y z:V0):Rho:=[some (zQ ts rls rs),#[lr],some (zB i),some (zB j),x,y,z]
theorem Y5(n: ∀r∈rls,nG ts r)(s: ∀r∈rs,iO ts r)(m:rls.length<=100)(hi:i<rs.length)(p:j<rs.length)(o:S[lr]? =#[rls.map mY,2]):
  zG 4 bG [.val (zQ ts rls rs),#[lr,1],.val (zB i),.val (zB j)] S=#[(qK ts rls rs i j).map rZ,S,2]:=by
 have d:=s _ (gR hi);have h:=s _ (gR p);have y:jA (P7 ts rls rs lr i j none none none) S=#[P7 ts rls rs lr i j (some (zD (yX rs i))) none none,S,0]:=by unfold jA;simp? [mZ,nY hi]
 have C:jB (P7 ts rls rs lr i j (some (zD (yX rs i))) none none) S=#[P7 ts rls rs lr i j (some (zD (yX rs i))) (some (zD (yX rs j))) none,S,0]:=by unfold jB;simp? [mZ,nY p]
 have c:(((List.range rls.length).map λk=>MV.tup [zB k,mY (pQ rls k)]).length<1000000)=True:=eq_true (by rw[lM,î];lia)
 have u:yD (uK 2 (zI (yF 0) (zI (yF 1) xR))) xW xX [none,none,some (zB i),some (zB j),some (zD (yX rs i)),some (zD (yX rs j))] [(lr,rls.map mY)] ((List.range rls.length).map λk=>MV.tup [zB k,mY (pQ rls k)]) S=.ok (((List.range rls.length).filter λk=>vL (pQ rls k) (yX rs i) (yX rs j)).map λk=>rZ (rO,[i,j,k])) S:=vM (jW o) λk b=>by
  rw[ý]at b;obtain⟨F,w,v,_⟩:=UI (n _ (GO b)) d h S;refine⟨_,rfl,?_,?_⟩
  .unfold xW;simp? [w,v]
  .unfold xX;exists 7,E5
 generalize a:(((List.range rls.length).filter λk=>vL (pQ rls k) (yX rs i) (yX rs j)).map λk=>rZ (rO,[i,j,k]))=ps at u;have B:ps.length<=100:=by rw[<-a,lM];exact ï (Č _ _) (by rw[î];exact m)
 have z:jC (P7 ts rls rs lr i j (some (zD (yX rs i))) (some (zD (yX rs j))) none) S=#[P7 ts rls rs lr i j (some (zD (yX rs i))) (some (zD (yX rs j))) #[↑0],S++[.lst ps],0]:=by unfold jC;exists 7,Rq Kk o,c,u
 have q:(S++[MO.lst ps])[↑0]? =#[ps,2]:=by simp
 have A:jD (P7 ts rls rs lr i j (some (zD (yX rs i))) (some (zD (yX rs j))) #[↑0]) (S++[.lst ps])=#[P7 ts rls rs lr i j (some (zD (yX rs i))) (some (zD (yX rs j))) #[↑0],S++[.lst ((qK ts rls rs i j).map rZ)],0]:=by
  unfold jD
  cases b:Kj ts (yX rs i) (yX rs j)with
  |false=>
   have e:(qK ts rls rs i j).map rZ=ps:=by unfold qK;rw[b,iN xF0,aN,ę, <-a];rfl
   rw[e];simp? [Ki,Bc d,Bc h,GN d h,b];rfl
  |true=>
   have e:(qK ts rls rs i j).map rZ=ps++[rZ (El,[i,j])]:=by unfold qK;rw[b,iP rfl,đ,ę, <-a];rfl
   rw[e];simp? [Ki,Bc d,Bc h,GN d h,b,jS q,tup3,cL q #[]];rw[show List.set (S++[MO.lst ps]) ↑0 _=S++[MO.lst (ps++[rZ (El,[i,j])])] by simp[rZ,El]]
 refine JD (T:=[.lst ((qK ts rls rs i j).map rZ)]) rfl rfl ?_ (.inr ⟨_,rfl,à _,by simp⟩) (Kl _ _);show zU (bF (P7 ts rls rs lr i j none none none) S)=_;unfold bF;rw[zA y,zA C,zA z,zA A];rfl
end
noncomputable def EB(a:Db)(k:Nat):Nat:=(a[k]?).getD 0
def qL{α β:Type}(g)(l:List α): ∀(b:List β),l.foldl (λb i=>b++g i) b=b++l.flatMap g:=by
 induction l with
 |nil=>intro b;simp
 |cons x l ih=>intro b;rw[ĥ,ih,Ġ,aA]
noncomputable def yO:List Nat->List (Nat×Nat)
 |[]=>[]
 |x::t=>t.map (λj=>(x,j))++yO t
theorem UJ: ∀ d ,(List.range d.length).flatMap (λp=>(d.drop (p+1)).map λj=>(EB d p,j))=yO d
 |[]=>rfl
 |x::t=>by rw[lC,List.range_succ_eq_map,Ġ,List.flatMap_map];show t.map (λj=>_)++_=_;rw[show yO _=t.map (λj=>_)++yO t from rfl, <-UJ t];rfl
theorem pairs_len: ∀ d ,(yO d).length<=d.length * d.length
 |[]=>à _
 |x::t=>by
  have m:=pairs_len t;rw[show yO _=t.map (λj=>_)++yO t from rfl,lA,lM,lC];rw[Nat.add_mul,Nat.mul_add]
  lia
theorem EC: ∀{d}{p},p∈yO d->p.1∈d/\p.2∈d
 |x::t,p,h=>by
  rcases é.mp h with h|h
  .obtain⟨j,m,rfl⟩:=mM.mp h;exact⟨mF0,mO _ m⟩
  .have:=EC h;exact⟨mO _ this.1,mO _ this.2⟩
def gU(p:Nat×Nat):MV:=.tup [zB p.1,zB p.2]
abbrev G4(a:Db)(l:Nat)(x y:V0):Rho:=[#[a.map zB,3],#[l],x,y]
theorem Ru(G:sm.length<=200)(S):zG 1 rF [#[sm.map zB,6]] S=#[(yO sm).map gU,S,2]:=by
 have D:iY [#[sm.map zB,3],none,none,none] S=#[G4 sm ↑0 none none,S++[.lst []],0]:=by unfold iY;exists 7,rfl
 obtain⟨w,r,f,⟨x,y,a⟩,m,_⟩:=fR (gf:=uK 2 (zI (yF 2) (zI (yF 3) xR))) (body:=iW) (gs:=[]) (λk (b:List (Nat×Nat)) v r=>(∃x y,v=G4 sm ↑0 x y)/\r=S++[.lst (b.map gU)]/\b.length<=k * 200) (λb p=>b++(sm.drop (p+1)).map λj=>(EB sm p,j)) (ds:=List.range sm.length) 0 (λj p E b v H ⟨⟨x,y,a⟩,o,C⟩=>by
  subst a o;obtain⟨n,c⟩:=gS.mp E;rw[î]at n;rw[getElem_range]at c;subst c;have s:(S++[MO.lst (b.map gU)])[↑0]? =#[b.map gU,2]:=by simp
  have A:yD (yF 0) mR dM [none,some (zB (EB sm j))] [] ((sm.drop (j+1)).map zB) (S++[.lst (b.map gU)])=.ok ((sm.drop (j+1)).map λq=>gU (EB sm j,q)) (S++[.lst (b.map gU)]):=cY (xO _) λq _=>⟨_,rfl,rfl,by unfold dM;simp? [tup2];rfl⟩
  have i:gX (sm.map zB) (some ((j:Nat)+1)) none=(sm.drop (j+1)).map zB:=by rw[HN,show((j:Nat):Int)+1=((j+1:Nat):Int)from rfl,NA]
  have z:((sm.drop (j+1)).map λq=>gU (EB sm j,q)).length<=200:=by rw[lM,ó];omega
  refine⟨G4 sm ↑0 (some (zB j)) (some (zB (EB sm j))),_,?_,xO _,⟨_,_,rfl⟩,rfl,by rw[lA,lM,ó];rw[show(0+j+1) * 200=(0+j) * 200+200 by lia];omega⟩;rw[show uK 2 (zI (yF 2) (zI (yF 3) xR)) (.tup [zB j,zB (EB sm j)]) (G4 sm ↑0 x y) (S++[.lst (b.map gU)])=.ok _ (S++[.lst (b.map gU)])from rfl,wV];unfold iW mT;simp? [jS s,show∀S,gT (.val (zB j)) #[1,5] S=.ok #[(j:Nat)+1,5] S from λ_=>rfl,Ay,i,nH,show(((sm.drop (j+1)).map zB).length<1000000)=True from eq_true (by rw[lM,ó];omega),show CF 1 [3] (G4 sm ↑0 (some (zB j)) (some (zB (EB sm j))))=[none,some (zB (EB sm j))]from rfl,A,Rp (zs:=(sm.drop (j+1)).map λq=>gU (EB sm j,q)) s (by rw[lM (as:=b)];lia)];rw[đ,ę];rw[show List.set (S++[MO.lst (b.map gU)]) ↑0 _=S++[MO.lst (b.map gU++(sm.drop (j+1)).map λq=>gU (EB sm j,q))] by simp];rfl) [] (G4 sm ↑0 none none) (S++[.lst []]) ⟨⟨_,_,rfl⟩,rfl,zero_le _⟩
 subst a m;rw[qL,Ħ,UJ]at f;have B:iZ (G4 sm ↑0 none none) (S++[.lst []])=#[G4 sm ↑0 x y,S++[.lst ((yO sm).map gU)],0]:=by unfold iZ;simp? [Be (f:=zB) (l:=sm) (g:=EB sm) (λk h=>by unfold EB;rw[gE h];rfl)];exact f
 refine JD (T:=[.lst ((yO sm).map gU)]) (S2:=S) rfl rfl ?_ (.inr ⟨↑0,rfl,à _,by simp⟩) (yB λd F=>by obtain⟨p,_,rfl⟩:=mM.mp F;exact yP (yB λe u=>by simp only[mC,nM,or_false]at u;rcases u with rfl|rfl<;>exact xA _ _));show zU (rE [#[sm.map zB,3],none,none,none] S)=_;unfold rE;rw[zA D,zA B];rfl
section
def JN(ts:Tk)(rls:List Rule)(rs:List Row)(a:Db):List Bk:=a.flatMap (XM rls rs a)++(yO a).flatMap λp=>qK ts rls rs p.1 p.2
end
abbrev kd(K:Db):List (MV×MV):=K.map λi=>(zB i,MV.bl true)
theorem Bf(k)(K):kd (k::K)=(zB k,.bl true)::kd K:=rfl
def E9(A B):kd (A++B)=kd A++kd B:=đ
theorem Rv(K):(kd K).map (·.1)=K.map zB:=by rw[ę];rfl
def Bg(h:zB a=zB b):a=b:=by
 unfold zB at h;injection h with h
 omega
def Bh{K:Db}(h:S[l]? =#[kd K,7]):SZ S #[l,1]=some (l,kd K):=by unfold SZ;dsimp only;rw[h];exact iP ((by rw[Ē];intro p a;obtain⟨i,_,rfl⟩:=mM.mp a;rfl))
theorem QN: ∀ K  i ,look (kd K) (zB i)=if i∈K then some (.bl true)else none
 |[],i=>by rw[iN (by simp)];rfl
 |k::K,i=>by
  rw[Bf,DA];by_cases h:k=i
  .subst h;rw[iP rfl,iP (by simp)]
  .rw[iN (λz=>h (Bg z)),QN K i];by_cases d:i∈K
   .rw[iP d,iP (mO _ d)]
   .rw[iN d,iN (λz=>(mC.mp z).elim (λe=>h e.symm) d)]
theorem UK(K)(i):(look (kd K) (zB i)).isSome=decide (i∈K):=by
 rw[QN];by_cases h:i∈K
 .rw[iP h,dT0 h];rfl
 .rw[iN h,dF0 h];rfl
def Bi{K:Db}(h:S[l]? =#[kd K,7])(neg)(i):WN neg (.val (zB i)) #[l,1] S=#[.bl (if neg=true then !decide (i∈K)else decide (i∈K)),S,1]:=by unfold WN;rw[Bh h];show(if LD _=true then _ else _)=_;rw[iP ((show LD (zB i)=true from rfl)),UK]
theorem F1(K)(i):putK (kd K) (zB i) (.bl true)=kd (if i∈K then K else K++[i]):=by
 unfold putK;rw[UK];by_cases h:i∈K
 .rw[dT0 h,iP h];show _=_;rw[ę];refine List.map_congr_left λk _=>?_;show(if zB k=zB i then _ else _)=_;split<;>rfl
 .rw[dF0 h,iN h,E9];rfl
def F3(K)(i):Iw (kd K) (zB i)=kd (K.filter λk=>!decide (k=i)):=by
 unfold Iw;show _=_;rw[List.filter_map];congr 1;refine List.filter_congr λk _=>?_;show(!decide _)=_;by_cases h:k=i
 .subst h;rw[dT0 rfl,dT0 rfl]
 .rw[dF0 h,dF0 λz=>h (Bg z)]
def set_same{S:Sto}(h:S[l]? =some o):S.set l o=S:=by obtain⟨a,rfl⟩:=gS.mp h;exact List.set_getElem_self a
def F4{K:Db}(h:S[l]? =#[kd K,7])(i): ∃d,MR #[l,1] [.val (zB i),.val .non] S=#[d,S.set l (.dic (kd (K.filter λk=>!decide (k=i)))),1]:=by
 unfold MR;rw[Bh h];show∃d,(if LD _=true then _ else _)=_;rw[QN,F3];by_cases hi:i∈K
 .rw[iP hi];exact⟨_,rfl⟩
 .rw[iN hi];have e:(K.filter λk=>!decide _)=K:=List.filter_eq_self.mpr λk a=>by rw[dF0 (show¬k=i from λz=>hi (z▸a))];rfl
  rw[e,set_same h];exact⟨_,rfl⟩
theorem Rw{K:Db}(h:S[l]? =#[kd K,7]):Qe #[l,1] S=true:=by unfold Qe;rw[Bh h];rfl
theorem UL: ∀ K ,qW (K.map λi=>.tup [zB i,.bl true])=some (kd K)
 |[]=>rfl
 |k::K=>by rw[ê];unfold qW;rw[UL K];rfl
theorem Bj: ∀ K A ,(A++K).Nodup->(kd K).foldl (λd p=>putK d p.1 p.2) (kd A)=kd (A++K)
 |[],A,_=>by rw[aN];rfl
 |k::K,A,h=>by
  rw[Bf,ĥ];show(kd K).foldl _ _=_;have j:=λa=>by have:=(nodup_append.mp h).2.2 k a k mF0;exact this rfl
  rw[F1,iN j,Bj K _ (by rw[aA];exact h),aA];rfl
theorem F5{K:Db}(h:K.Nodup)(S):ZX [.new (K.map λi=>.tup [zB i,.bl true])] S=.ok #[S.length,1] (S++[.dic (kd K)]):=by show(match (wI S _).bind qW with |some kvs=>R.ok _ _|none=>.no)=_;rw[show(wI S (.new _)).bind qW=some _ from UL K];show R.ok _ _=_;unfold Tt;rw[show((kd K).foldl (λa p=>putK a p.1 p.2) [])=kd _ from Bj K [] (by simpa using h)];rfl
def F6{K:Db}(h:S[l]? =#[kd K,7]):MS [#[l,1]] S=.ok #[K.map zB,6] S:=by unfold MS;dsimp only;rw[Bh h];show R.ok _ S=_;rw[Rv]
theorem Rx{S S':Sto}(h: ∀(m:Nat) o ,S[m]? =some o->S'[m]? =some o):↑0<=S'.length:=by
 by_cases z:↑0=0
 .lia
 .have a:↑0 - 1<S.length:=by lia
  have:=(gS.mp (h _ _ (gE a))).1
  lia
abbrev Old(S S':Sto):Prop:= ∀(m:Nat)(o:MO),S[m]? =some o->S'[m]? =some o
def Old.app(S T):Old S (S++T):=λm o h=>by rw[æ (gS.mp h).1];exact h
theorem Old.set(h:Old S S')(b:↑0<=l)(o):Old S (S'.set l o):=λm u a=>by have:=(gS.mp a).1;rw[Ć #[]];exact h m u a
def Old.trans(h:Old S S')(h':Old S' S''):Old S S'':=λm o e=>h' m o (h m o e)
theorem Old.is(h:Old S S'): ∃T,S'=S++T:=by
 refine⟨S'.drop ↑0,?_⟩
 have e:S'.take ↑0=S:=by
  apply Ŕ;intro m;by_cases a:m<↑0
  .rw[Ċ a,h m _ (gE a),gE a]
  .rw[ē (by rw[lT];lia),ē #[]]
 conv=>lhs;rw[<-İ ↑0 S',e]
inductive TsAt(S:Sto):List MV->List (Nat×List Nat)->Prop
 |nil:TsAt S [] []
 |cons {p i:Nat} {srv:Db} {ms:U0} {tk:List (Nat×List Nat)}:S[p]? =#[srv.map zB,2]->srv.length<=100->TsAt S ms tk->TsAt S (.tup [zB i,.loc p]::ms) ((i,srv)::tk)
def TsAt.mono(h:TsAt S ms tk)(o: ∀ m  ds ,S[m]? =#[ds,2]->(∃i,MV.tup [i,.loc m]∈ms)->S'[m]? =#[ds,2]):TsAt S' ms tk:=by
 induction h with
 |nil=>exact .nil
 |@cons p i srv ms tk h1 h2 _ ih=>exact .cons (o _ _ h1 ⟨_,mF0⟩) h2 (ih λm ds e ⟨j,a⟩=>o m ds e ⟨j,mO _ a⟩)
def TsAt.snoc(h:TsAt S ms tk)(b:S[p]? =#[srv.map zB,2])(a:srv.length<=100):TsAt S (ms++[.tup [zB i,.loc p]]) (tk++[(i,srv)]):=by
 induction h with
 |nil=>exact .cons b a .nil
 |cons h1 h2 _ ih=>exact .cons h1 h2 ih
def TsAt.length(h:TsAt S ms tk):ms.length=tk.length:=by
 induction h with
 |nil=>rfl
 |cons _ _ _ ih=>rw[lC,lC,ih]
def TsAt.shape(h:TsAt S ms tk): ∀d∈ms, ∃i p,d=.tup [zB i,.loc p]:=by
 induction h with
 |nil=>intro d a;cases a
 |@cons p i srv ms tk h1 h2 _ ih=>intro d a;rcases mC.mp a with e|e;(· exact⟨i,p,e⟩);(· exact ih d e)
section
variable{rls:List Rule}
def Kn(b: ∀r∈rls,nG ts r)(e:r∈rls)(d:iO ts a){os:List Row}(j: ∀o∈os,iO ts o)(h:os.length<1000)(S):
  ∃F,PF "lacks" fP (.val (mY r))=some F/\zG 3 F [.val (mY r),.val (zD a),.new (os.map zD)] S=#[.bl (pP r a os),S,1]:=by
 have g:(S++[MO.lst (os.map zD)])[↑0]? =#[os.map zD,2]:=by simp
 obtain⟨F,i,⟨T,c⟩,_⟩:=UH (b r e) d j h g g;exact⟨F,i,QK rfl (by show F [mY r,zD a,.loc ↑0] (S++[.lst _])=_;rw[c,aA])⟩
def XN(rs:List Row)(r:Rule)(i:Nat):List Nat:=(List.range rs.length).filter λj=>!pP r (yX rs i) [yX rs j]
def Ko(rs:List Row)(r:Rule)(i:Nat):List (Nat×List Nat):=if pP r (yX rs i) []=true then [(i,XN rs r i)]else []
end
section
variable{rls:List Rule}
structure TI(S0:Sto)(tk:List (Nat×List Nat))(c:Nat)(S':Sto):Prop where
 ex: ∃ms,S'[S0.length]? =#[ms,2]/\TsAt S' ms tk/\ ∀p i,MV.tup [i,.loc p]∈ms->S0.length<p
 old:Old S0 S'
 len:tk.length<=c
noncomputable abbrev T5(b:MV)(l:Nat)(x y z:V0):Rho:=[some b,#[l],x,y,z]
def UM(S):ZC [#[rs.map zD,6]] S=.ok ⟨(List.range rs.length).map λi=>.tup [zB i,zD (yX rs i)],[]⟩ S:=by show R.ok _ S=_;rw[(show RZ (rs.map zD)=(List.range rs.length).map λi=>.tup [zB i,zD (yX rs i)] by
  unfold RZ;apply Ŕ;intro m;by_cases a:m<rs.length
  .simp only[ì,List.getElem?_zipIdx,getElem?_range a,Option.map_some,ď];unfold yX;rw[gE a];rfl
  .rw[ē (by rw[lM,length_zipIdx,lM];lia),ē (by rw[lM,î];lia)])]
def Kp(b: ∀r∈rls,nG ts r)(d: ∀r∈rs,iO ts r)(k:r∈rls)(hi:i<rs.length)(S):
  yD (uK 2 (zI (yF 0) (zI (yF 1) xR))) aG pH [none,none,some (mY r),some (zD (yX rs i))] [] ((List.range rs.length).map λi=>.tup [zB i,zD (yX rs i)]) S=.ok ((XN rs r i).map zB) S:=
 vM (xO _) λj c=>by rw[ý]at c;obtain⟨F,m,e⟩:=Kn b k (d _ (gR hi)) (os:=[yX rs j]) (λo h=>by rw[mS.mp h];exact d _ (gR c)) (show 1<1000 by decide) S;refine⟨_,rfl,?_,rfl⟩;have a:zG 3 F [.val _,.val _,.new [zD _]] S=.ok _ S:=e;unfold aG;simp? [Yw,m,a]
theorem Kq(b: ∀r∈rls,nG ts r)(A: ∀r∈rs,iO ts r)(E:rs.length<=100)(w:r∈rls)(hi:i<rs.length)(I:c<100000)(h:TI S0 tk c S):
  ∃S',cT (T5 (zQ ts rls rs) S0.length (some (mY r)) (some (zB i)) (some (zD (yX rs i)))) S=#[T5 (zQ ts rls rs) S0.length (some (mY r)) (some (zB i)) (some (zD (yX rs i))),S',0]/\TI S0 (tk++Ko rs r i) (c+1) S':=by
 obtain⟨F,v,D⟩:=Kn b w (A _ (gR hi)) (os:=[]) (λo h=>by cases h) ↑4 S;have a:zG 3 F [.val (mY r),.val (zD (yX rs i)),.new []] S=.ok _ S:=D;unfold Ko
 cases B:pP r (yX rs i) []with
 |false=>
  rw[B]at a;refine⟨S,?_,by rw[iN xF0,aN];exact⟨h.ex,h.old,by have:=h.len;lia⟩⟩;unfold cT aH;simp? [Da,v,a];rfl
 |true=>
  rw[B]at a;rw[iP rfl];obtain⟨u,s,z,C⟩:=h.ex;have k:S0.length<S.length:=(gS.mp s).1;have n:(XN rs r i).length<=100:=ï (Č _ _) (by rw[î];exact E);have q:(S++[MO.lst ((XN rs r i).map zB)])[S0.length]? =#[u,2]:=by rw[æ k];exact s
  refine⟨(S++[MO.lst ((XN rs r i).map zB)]).set S0.length (.lst (u++[.tup [zB i,.loc ↑0]])),?_,?_⟩
  .unfold cT aH;simp? [Da,v,a,jS s,mZ,UM,show(((List.range rs.length).map λi=>MV.tup [zB i,zD (yX rs i)]).length<1000000)=True from eq_true (by rw[lM,î];lia),show CF 2 [2,4] (T5 (zQ ts rls rs) S0.length (some (mY r)) (some (zB i)) _)=[none,none,some (mY r),some (zD (yX rs i))]from rfl,Kp b A w hi];rw[show wH [.val (zB i),.new _] S=.ok #[[zB i,.loc ↑0],6] (S++[.lst ((XN rs r i).map zB)])from qU (by simp)];simp? [cL q (by rw[z.length];have:=h.len;lia)]
  .have y:Old S (S++[MO.lst ((XN rs r i).map zB)]):=Old.app _ _;refine⟨⟨_,č (by rw[lA];lia),?_,λp j d=>?_⟩,(h.old.trans y).set (à _) _,by rw[lA,lS];have:=h.len;lia⟩
   .refine TsAt.snoc (z.mono λm H e ⟨j,G⟩=>?_) ?_ n
    .rw[Ć (by have:=C m j G;lia)];exact y m _ e
    .rw[Ć #[]];simp
   .rcases é.mp d with d|d
    .exact C p j d
    .have:=mS.mp d;injection this with this
     injection this with _ this
     injection this with this _
     injection this with this
     lia
end
section
def UN(rls:List Rule)(rs:List Row):List (Nat×List Nat):=rls.foldl (λb r=>(List.range rs.length).foldl (λb i=>b++Ko rs r i) b) []
def Ub(S:Sto)(r:Er)(a:List (Nat×List Nat)):Prop:=(r=.new []/\a=[])\/ ∃l b,r=#[l,1]/\S[l]? =#[b,2]/\TsAt S b a
theorem F7(C: ∀r∈rls,nG ts r)(hR: ∀r∈rs,iO ts r)(H:rs.length<=100)(M:rls.length<=100)(S):
  ∃r S',zG 1 nV [.val (zQ ts rls rs)] S=.ok r S'/\Old S S'/\Ub S' r (UN rls rs)/\(UN rls rs).length<=100000:=by
 have e1:oR [some (zQ ts rls rs),none,none,none,none] S=#[T5 (zQ ts rls rs) ↑0 none none none,S++[.lst []],0]:=by unfold oR;exists 7,rfl
 have w: ∀{r:Rule},r∈rls-> ∀(c:Nat),c<=50000-> ∀(b:List (Nat×List Nat))(s:Rho)(a:Sto),_/\TI S b c a->
   ∃e S',nU _ cT [] _ s a=#[e,S',0]/\_/\TI S _ (c+rs.length) S':=λ{r} L c hc b s a h=>by
  have:=fR (gf:=uK 2 (zI (yF 3) (zI (yF 4) xR))) (gs:=[]) (λk b s a=>(∃y z,s=T5 (zQ ts rls rs) ↑0 (some (mY r)) y z)/\TI S b k a) (λb i=>b++Ko rs r i) c (λj i G b s a ⟨⟨y,z,n⟩,K⟩=>by subst n;obtain⟨v,B⟩:=gS.mp G;rw[î]at v;rw[getElem_range]at B;subst B;obtain⟨S',Z,X⟩:=Kq C hR H L v #[] K;refine⟨T5 (zQ ts rls rs) ↑0 (some (mY r)) (some (zB j)) (some (zD (yX rs j))),S',?_,xO _,⟨_,_,rfl⟩,X⟩;rw[show uK 2 _ (.tup [zB j,zD (yX rs j)]) _ a=.ok _ a from rfl,wV];exact Z) b s a h;obtain⟨e,S',E,f2,q⟩:=this;rw[î]at q;exact⟨e,S',E,f2,q⟩
 obtain⟨e,S',E,⟨x,y,z,n⟩,q⟩:=fR (gf:=yF 2) (body:=oQ) (λk b s a=>(∃x y z,s=T5 (zQ ts rls rs) ↑0 x y z)/\TI S b (k * rs.length) a) (λb r=>(List.range rs.length).foldl (λb i=>b++Ko rs r i) b) 0 (λj r G b s a ⟨⟨x,y,z,n⟩,K⟩=>by subst n;have L:r∈rls:=á G;have v:=(gS.mp G).1;have hb:(0+j) * rs.length<=50000:=ï (mul_le_mul (show 0+j<=100 by lia) H) ↑4;obtain⟨e,S',E,⟨U,W,rfl⟩,q⟩:=w L ((0+j) * rs.length) hb b _ a ⟨⟨_,_,rfl⟩,K⟩;refine⟨T5 (zQ ts rls rs) ↑0 (some (mY r)) U W,S',?_,xO _,⟨_,_,_,rfl⟩,by rw[show(0+j+1) * rs.length=(0+j) * rs.length+rs.length by rw[Nat.add_mul,Nat.one_mul]];exact q⟩;rw[show yF 2 (mY r) (T5 (zQ ts rls rs) ↑0 x y z) a=.ok _ a from rfl,wV];unfold oQ pI;simp? [mZ,UM];exact E) [] _ (S++[.lst []]) ⟨⟨_,_,_,rfl⟩,⟨⟨[],by simp,.nil,λp i h=>by cases h⟩,Old.app _ _,zero_le _⟩⟩;subst n;have e2:oS (T5 (zQ ts rls rs) ↑0 none none none) (S++[.lst []])=#[T5 (zQ ts rls rs) ↑0 x y z,S',0]:=by unfold oS;simp? [QL C M,show∀O S,HE (.new O) S=.ok ⟨O,[]⟩ S from λ_ _=>rfl];exact E
 have e3:oU (T5 (zQ ts rls rs) ↑0 x y z) S'=.ok (.ret #[↑0,1]) S':=by unfold oU;exists 7,rfl
 have hF:nV [zQ ts rls rs] S=.ok #[↑0,1] S':=by show zU (tY [some (zQ ts rls rs),none,none,none,none] S)=_;unfold tY;rw[zA e1,zA e2,e3];rfl
 have u:(UN rls rs).length<=100000:=ï q.len (ï (mul_le_mul (show 0+rls.length<=100 by lia) H) ↑4);obtain⟨I,Q,N,g3⟩:=q.ex;have A:zG 1 nV [.val (zQ ts rls rs)] S=nN S #[↑0,1] S':=by unfold zG;rw[iP (show [Er.val (zQ ts rls rs)].length=1 from rfl)];show((noX (nV [zQ ts rls rs] S)).bind λr S2=>nN S r S2)=_;rw[hF,yC,wV]
 rw[A];unfold nN;rw[iP ((⟨Rx (q.old),λl P=>.inl (by rw[(q.old) l _ (gE P),gE P])⟩))];dsimp only;rw[iN (ğ _),Q];dsimp only;by_cases F:I=[]
 .subst F;refine⟨.new [],_,by rw[iP (yB λd hd=>by cases hd)],(λm o F=>by rw[Ċ (gS.mp F).1];exact (q.old) m o F),.inl ⟨rfl,?_⟩,u⟩;have:=N.length;exact List.eq_nil_of_length_eq_zero this.symm
 .refine⟨_,S',by
   rw[iN];intro D
   cases I with
   |nil=>exact F rfl
   |cons d r=>
    obtain⟨i,p,rfl⟩:=N.shape d mF0;have hp:=g3 p _ mF0;unfold CS at D;have J:=D.1;unfold lo at J;unfold CS at J;have T:=J.2;unfold CS at T;have Y:=T.1;unfold lo at Y
    lia,q.old,.inr ⟨↑0,I,rfl,Q,N⟩,u⟩
end
def KP(a:List (Nat×List Nat))(K:Db):List Nat:=(a.filter λt=>decide (t.1∈K)&& !t.2.any λj=>decide (j∈K)).map (·.1)
def Rz{K:Db}(b:S[lk]? =#[kd K,7])(hs:stay gs S)(h:TsAt S ms tk):
  yD (uK 2 (zI (yF 0) (zI (yF 1) xR))) xK wO [none,none,#[lk]] gs ms S=.ok ((KP tk K).map zB) S:=by
 induction h with
 |nil=>rfl
 |@cons p i srv ms tk h1 h2 _ ih=>
  have m:uK 2 (zI (yF 0) (zI (yF 1) xR)) (.tup [zB i,.loc p]) [none,none,some _] S=.ok [some _,some _,#[lk]] S:=rfl
  have o:xK [some (zB i),#[p],#[lk]] S=.ok (decide (i∈K)&& !srv.any λj=>decide (j∈K)) S:=by
   unfold xK
   cases hi:decide (i∈K)with
   |false=>simp? [Bi b,hi];rfl
   |true=>
    simp? [Bi b,hi,(show zG 2 lD [#[lk,1],#[p,1]] S=#[.bl (srv.any λj=>decide (j∈K)),S,1] by
      refine xM rfl ?_;show zU (lB [some _,some _,none] S)=_
      obtain⟨q,k⟩:=JM (p:=λj=>decide (j∈K)) (gf:=yF 2) (body:=hX) (λn=> ∃y,n=[#[lk],#[p],y]) (jW h1) (λj _ n ⟨y,d⟩=>by
       subst d;refine⟨[some _,some _,some (zB j)],rfl,λh=>?_,λh=>⟨[some _,some _,some (zB j)],⟨_,rfl⟩,?_⟩⟩
       .unfold hX gG;simp? [Bi b,h];rfl
       .unfold hX gG;simp? [Bi b,h];rfl) [some _,some _,none] ⟨_,rfl⟩
      unfold lB
      cases a:srv.any λj=>decide (j∈K)with
      |true=>
       have c:wD [#[lk],#[p],none] S=.ok (.ret (.val (.bl true))) S:=by unfold wD;simp? [dC h1];exact q a
       rw[yI c];rfl
      |false=>
       obtain⟨e,_,k⟩:=k a;have c:wD [#[lk],#[p],none] S=#[e,S,0]:=by unfold wD;exists 7,dC h1,k
       rw[zA c];rfl)];rfl
  unfold KP at ih ⊢;unfold yD
  cases a:(decide (i∈K)&& !srv.any λj=>decide (j∈K))with
  |true=>
   rw[m,yC,wV,o,yC,wV,a,show wO [some _,some _,some _] S=.ok _ S from rfl,yC,wV];unfold nT;rw[wV,iP hs,ih,ĵ (by exact a)];rfl
  |false=>
   rw[m,yC,wV,o,yC,wV,a,iN xF0,iP hs,ih,Ķ (by rw[a];exact xF0)]
def UO{K:Db}(c:S[lk]? =#[kd K,7])(a:S[lt]? =#[ms,2])(h:TsAt S ms tk)(d:tk.length<=100000):zG 2 hZ [#[lt,1],#[lk,1]] S=#[(KP tk K).map zB,S,2]:=lZ rfl (by
 show zU (dN [some _,some _] S)=_;have b:gH [#[lt],#[lk]] S=.ok (.ret (.new ((KP tk K).map zB))) S:=by unfold gH;exists 7,dC a,show(ms.length<1000000)=True from eq_true (by rw[h.length];omega),Rz c (jW a) h
 unfold dN;rw[b,aN];rfl) (GM _ _)
def XO{K:Db}:i∈KP tk K↔i∈K/\ ∃d,(i,d)∈tk/\ ∀j∈d,j∉K:=by
 unfold KP;rw[mM];constructor
 .rintro⟨⟨k,d⟩,a,rfl⟩;rw[ü,aE,ô,Bool.not_eq_true',List.any_eq_false]at a;exact⟨a.2.1,d,a.1,λj b=>by have:=a.2.2 j b;rwa [ô]at this⟩
 .rintro⟨hi,d,a,hs⟩;refine⟨(i,d),?_,rfl⟩;rw[ü,aE,ô,Bool.not_eq_true',List.any_eq_false];exact⟨a,hi,λj b=>by rw[ô];exact hs j b⟩
noncomputable abbrev W5(a b:MV)(c:Nat)(u x:V0):Rho:=[some a,some b,#[c],u,x]
theorem Y7{U:Db}(h:lk≠lu): ∀(j:Db) K  S  x ,S[lk]? =#[kd K,7]->S[lu]? =#[U.map zB,2]->
  ∃m,nU (yF 4) wX [(lu,U.map zB)] (j.map zB) (W5 a b lk #[lu] x) S=#[W5 a b lk #[lu] m,S.set lk (.dic (kd (K.filter λk=>!decide (k∈j)))),0]
 |[],K,S,x,hk,hu=>by
  refine⟨x,?_⟩;have e:(K.filter λk=>!decide (k∈([]:Db)))=K:=List.filter_eq_self.mpr λk _=>by simp
  rw[e,set_same hk];rfl
 |u::j,K,S,x,hk,hu=>by
  obtain⟨d,p⟩:=F4 hk u;have q:wX (W5 a b lk #[lu] (some (zB u))) S=#[W5 a b lk #[lu] (some (zB u)),S.set lk (.dic (kd (K.filter λk=>!decide (k=u)))),0]:=by unfold wX dP;exists 7,Rw hk,p
  have i:(S.set lk _)[lk]? =some (.dic (kd (K.filter λk=>!decide (k=u)))):=get_set hk;have c:(S.set lk (.dic (kd (K.filter λk=>!decide (k=u)))))[lu]? =#[U.map zB,2]:=by rw[gC h];exact hu
  obtain⟨m,h'⟩:=Y7 h j _ _ _ i c;refine⟨m,?_⟩;rw[ê,mE rfl q (jW c),h',ŉ,List.filter_filter];congr 5;funext k;by_cases n:k=u
  .subst n;simp
  .by_cases o:k∈j<;>simp[n,o]
def tK(a:List (Nat×List Nat))(A K:Db):Prop:=(∃p,K=A.filter p)/\KP a K=[]/\ ∀P:Nat->Prop,(∀i,P i->i∈A)->(∀t∈a,P t.1-> ∃j∈t.2,P j)-> ∀i,P i->i∈K
theorem Eo(B:S3[lt]? =#[ms,2])(hT:TsAt S3 ms tk)(hl:tk.length<=100000):
  ∀ n  K  S  d  x ,K.length<n->Old S3 S->S[S3.length]? =#[kd K,7]->S3.length<d->S[d]? =#[(KP tk K).map zB,2]->
   ∃y G v S',lY gI wY n (W5 (.loc lt) b S3.length #[d] x) S=#[W5 (.loc lt) b S3.length G v,S',0]/\Old S3 S'/\S'[S3.length]? =#[kd y,7]/\tK tk K y:=by
 intro n
 induction n with
 |zero=>intro K S d x h;lia
 |succ n ih=>
  intro K S d x hn Q F Z C;have z:gI (W5 (.loc lt) b S3.length #[d] x) S=.ok (!((KP tk K).map zB).isEmpty) S:=by unfold gI;exists 7,(by unfold oB;dsimp only;rw[C])
  cases r:KP tk K with
  |nil=>
   rw[r]at z;refine⟨K,_,x,S,Cz z,Q,F,⟨λ_=>true,(List.filter_eq_self.mpr λ_ _=>rfl).symm⟩,r,λP w _ i hi=>w i hi⟩
  |cons u us=>
   rw[r]at z;obtain⟨v,E⟩:=Y7 #[] (KP tk K) K S x F C;have c:(S.set S3.length (.dic (kd (K.filter λk=>!decide (k∈KP tk K)))))[S3.length]? =some _:=get_set F;have a:Old S3 (S.set S3.length (.dic (kd (K.filter λk=>!decide (k∈KP tk K))))):=Q.set (à _) _;generalize o:(K.filter λk=>!decide (k∈KP tk K))=K1 at E c a;generalize aa:S.set S3.length (.dic (kd K1))=S1 at E c a;have A:=a _ _ B;have L:TsAt S1 ms tk:=hT.mono λm ds e _=>a m _ e;have b1:jF (W5 (.loc lt) b S3.length #[d] x) S=#[W5 (.loc lt) b S3.length #[d] v,S1,0]:=by unfold jF;exists 7,dC C,E
   have b2:jG (W5 (.loc lt) b S3.length #[d] v) S1=#[W5 (.loc lt) b S3.length #[S1.length] v,S1++[.lst ((KP tk K1).map zB)],0]:=by unfold jG;exists 7,UO c A L hl
   have hB:wY (W5 (.loc lt) b S3.length #[d] x) S=#[W5 (.loc lt) b S3.length #[S1.length] v,S1++[.lst ((KP tk K1).map zB)],0]:=by unfold wY;rw[zA b1,b2]
   have s:S3.length<S1.length:=(gS.mp c).1;have I: ∀i∈KP tk K,i∈K:=λi hi=>(XO.mp hi).1
   have U:K1.length<K.length:=by
    rw[<-o];have N:u∈K:=I u (by rw[r];exact mF0);have M:u∈KP tk K:=by rw[r];exact mF0
    refine Nat.lt_of_le_of_ne (Č _ _) λe=>?_;have:=List.length_filter_eq_length_iff.mp e u N;rw[dT0 M]at this;cases this
   obtain⟨y,G,D,S',w1,w2,w3,⟨p,J⟩,w5,X⟩:=ih K1 (S1++[.lst ((KP tk K1).map zB)]) S1.length v #[] (a.trans (Old.app _ _)) (Old.app _ _ _ _ c) s (by simp);refine⟨y,G,D,S',?_,w2,w3,⟨λk=>(!decide (k∈KP tk K))&&p k,?_⟩,w5,λP w T i hi=>X P (λj W=>?_) T i hi⟩
   .rw[WK z hB];exact w1
   .rw[J, <-o,List.filter_filter];congr 1;funext k;exact Bool.and_comm _ _
   .rw[<-o,ü];refine⟨w j W,?_⟩;rw[Bool.not_eq_true',ŏ];intro hm;obtain⟨_,O,B,hs⟩:=XO.mp hm;obtain⟨q,Y,H⟩:=T (j,O) B W;exact hs q Y (w q H)
theorem UP(d:S3[lt]? =#[ms,2])(h:TsAt S3 ms tk)(n:tk.length<=100000)(k:S3[la]? =#[A.map zB,2])(o:A.Nodup)(u:A.length<=100):
  ∃K T,kL [.loc lt,.loc la] S3=.ok #[K.map zB,6] (S3++T)/\tK tk A K:=by
 have z:yD (yF 0) dO jE [none] [(la,A.map zB)] (A.map zB) S3=.ok (A.map λi=>.tup [zB i,.bl true]) S3:=cY (jW k) λi _=>⟨_,rfl,rfl,by unfold jE;exists 7,show∀a b S,wH [.val a,.val b] S=.ok #[[a,b],6] S from λa b S=>qU (by simp)⟩
 have v:bH [#[lt],#[la],none,none,none] S3=#[W5 (.loc lt) (.loc la) S3.length none none,S3++[.dic (kd A)],0]:=by unfold bH;simp? [dC k,show((A.map zB).length<1000000)=True from eq_true (by rw[lM];lia),show CF 1 [] [#[lt],#[la],none,none,none]=[none]from rfl,z,F5 o]
 have c:Old S3 (S3++[.dic (kd A)]):=Old.app _ _;have j:(S3++[MO.dic (kd A)])[S3.length]? =#[kd A,7]:=by simp
 have C:bI (W5 (.loc lt) (.loc la) S3.length none none) (S3++[.dic (kd A)])=#[W5 (.loc lt) (.loc la) S3.length #[(S3++[MO.dic (kd A)]).length] none,S3++[.dic (kd A)]++[.lst ((KP tk A).map zB)],0]:=by unfold bI;exists 7,UO j (c _ _ d) (h.mono λm E e _=>c m _ e) n
 obtain⟨K,s,w,D,q,B,p,r⟩:=Eo d h n 10000 A (S3++[.dic (kd A)]++[.lst ((KP tk A).map zB)]) (S3++[MO.dic (kd A)]).length none #[] (c.trans (Old.app _ _)) (Old.app _ _ _ _ j) (by rw[lA];exact ć _) (by simp);obtain⟨T,rfl⟩:=B.is;refine⟨K,T,?_,r⟩;show zU (aI [#[lt],#[la],none,none,none] S3)=_;have y:bK (W5 (.loc lt) (.loc la) S3.length s w) (S3++T)=.ok (.ret #[K.map zB,6]) (S3++T):=by unfold bK;exists 7,F6 p
 unfold aI;rw[zA v,zA C,zA (show fZ _ _=_ from q),y];rfl
def F8(i:Ub S r tk)(j:tk.length<=100000)(h:S[la]? =#[A.map zB,2])(e:A.Nodup)(b:A.length<=100):
  ∃K,zG 2 kL [r,#[la,1]] S=.ok #[K.map zB,6] S/\tK tk A K:=by
 have a: ∀K:List Nat,lo ↑0 (.tup (K.map zB)):=λK=>yP (GM K _);rcases i with⟨rfl,rfl⟩|⟨l,ms,rfl,g1,g2⟩
 .obtain⟨K,T,d,c⟩:=UP (S3:=S++[.lst []]) (lt:=↑0) (la:=la) (A:=A) (ms:=[]) (by simp) .nil (zero_le _) (Old.app _ _ _ _ h) e b;refine⟨K,wW (T:=[.lst []]++T) rfl ?_ (a K) (λl=>by simp),c⟩;show kL [.loc ↑0,.loc la] (S++[.lst []])=_;rw[d,aA]
 .obtain⟨K,T,d,c⟩:=UP g1 g2 j h e b;exact⟨K,wW (T:=T) rfl d (a K) (λl=>by simp),c⟩
theorem Sb{α:Type}(f)(xs:List α)(S):Od [.new (xs.map λx=>.bl (f x))] S=#[.bl (xs.any f),S,1]:=by
 have h: ∀xs:List α,oF (xs.map λx=>.bl (f x))=some (xs.map f):=by
  intro xs
  induction xs with
  |nil=>rfl
  |cons x xs ih=>rw[ê];unfold oF;rw[ih];rfl
 show(match (some _).bind oF with |some bs=>R.ok _ S|none=>.no)=_;rw[show(some _).bind oF=some _ from h xs];show R.ok _ S=_;rw[List.any_map];rfl
section
def qM(rls:List Rule)(rs:List Row)(some:Db):List Nat:=some.filter λi=>!rls.any λr=>BQ r (yX rs i)
noncomputable abbrev U4(b m:MV)(x y:V0):Rho:=[some b,some m,x,y]
theorem Kr(a: ∀r∈rls,nG ts r)(k: ∀r∈rs,iO ts r)(o:rs.length<=100)(d:rls.length<=100)(hs: ∀i∈sm,i<rs.length)(C:sm.Nodup)(s:sm.length<=100)(S):
  ∃K,zG 2 DL [.val (zQ ts rls rs),#[sm.map zB,6]] S=.ok #[K.map zB,6] S/\tK (UN rls rs) (qM rls rs sm) K:=by
 have A:BB (U4 (zQ ts rls rs) (.tup (sm.map zB)) none none) S=#[U4 (zQ ts rls rs) (.tup (sm.map zB)) #[↑0] none,S++[.lst (rls.map mY)],0]:=by unfold BB;simp? [QL a d]
 have j:(S++[MO.lst (rls.map mY)])[↑0]? =#[rls.map mY,2]:=by simp
 have c: ∀{i:Nat},i<rs.length->yD (yF 0) vE rG [none,some (zB i),some (zQ ts rls rs)] [(↑0,rls.map mY)] (rls.map mY) (S++[.lst (rls.map mY)])=.ok (rls.map λr=>.bl (BQ r (yX rs i))) (S++[.lst (rls.map mY)]):=λ{i} hi=>
  cY (jW j) λr v=>by obtain⟨F,w,n,_⟩:=Az (a r v) (k _ (gR hi)) (S++[.lst (rls.map mY)]);refine⟨_,rfl,rfl,?_⟩;unfold rG;simp? [mZ,nY hi,w,n]
 have b:yD (yF 0) rH vF [none,some (zQ ts rls rs),#[↑0]] [] (sm.map zB) (S++[.lst (rls.map mY)])=.ok ((qM rls rs sm).map zB) (S++[.lst (rls.map mY)]):=mX (xO _) λi hi=>by refine⟨_,rfl,?_,rfl⟩;unfold rH;exists 7,dC j,show((rls.map mY).length<1000000)=True from eq_true (by rw[lM];omega),c (hs i hi),Sb
 have m:BC (U4 (zQ ts rls rs) (.tup (sm.map zB)) #[↑0] none) (S++[.lst (rls.map mY)])=#[U4 (zQ ts rls rs) (.tup (sm.map zB)) #[↑0] #[(S++[MO.lst (rls.map mY)]).length],S++[.lst (rls.map mY)]++[.lst ((qM rls rs sm).map zB)],0]:=by unfold BC;exists 7,nH,show((sm.map zB).length<1000000)=True from eq_true (by rw[lM];omega),b
 generalize e:S++[.lst (rls.map mY)]++[.lst ((qM rls rs sm).map zB)]=S2 at m;have H:Old S S2:=by rw[<-e,aA];exact Old.app _ _
 have E:S2[(S++[MO.lst (rls.map mY)]).length]? =#[(qM rls rs sm).map zB,2]:=by rw[<-e];simp
 obtain⟨r,G,y,h,p,D⟩:=F7 a k o d S2;obtain⟨K,z,u⟩:=F8 p D (h _ _ E) (C.sublist List.filter_sublist) (ï (Č _ _) s);obtain⟨T,q⟩:=(H.trans h).is;have B:BD (U4 (zQ ts rls rs) (.tup (sm.map zB)) #[↑0] #[(S++[MO.lst (rls.map mY)]).length]) S2=.ok (.ret #[K.map zB,6]) G:=by unfold BD;exists 7,y,z
 refine⟨K,wW (T:=T) rfl ?_ (yP (GM K _)) (λl=>by simp),u⟩;show zU (PN (U4 (zQ ts rls rs) (.tup (sm.map zB)) none none) S)=_;unfold PN;rw[zA A,zA m,B,q];rfl
end
def oA(h:F ρ S=#[ρ',S',0])(k:G ρ' S'=r):zL F G ρ S=r:=(zA h).trans k
theorem Ks(h:X=.ok (.ret r) S):zU X=.ok r S:=by rw[h];rfl
def BS{K:Db}(h:tK tk A K):(∀i∈K,i∈A)/\ ∀t∈tk,t.1∈K-> ∃j∈t.2,j∈K:=by obtain⟨⟨p,e⟩,b,_⟩:=h;refine⟨λi hi=>by rw[e]at hi;exact(ü.mp hi).1,λt c k=>?_⟩;refine Classical.byContradiction λz=>?_;have:=XO.mpr ⟨k,t.2,c,λj d a=>z ⟨j,d,a⟩⟩;rw[b]at this;cases this
def Ep{K:Db}(h:tK tk A K)(h':tK tk A K'):K=K':=by
 have b: ∀i,i∈K↔i∈K':=λi=>⟨h'.2.2 (λi=>i∈K) (BS h).1 (BS h).2 i,h.2.2 (λi=>i∈K') (BS h').1 (BS h').2 i⟩
 obtain⟨⟨p,e⟩,_⟩:=h;obtain⟨⟨c,a⟩,_⟩:=h';rw[e,a];refine List.filter_congr λi hi=>?_;have:=b i;rw[e,a,ü,ü]at this;rw[Bool.eq_iff_iff];exact⟨λz=>(this.mp ⟨hi,z⟩).2,λz=>(this.mpr ⟨hi,z⟩).2⟩
section
theorem F9(a:rs.length<=100)(S):zG 1 rD [.val (zQ ts rls rs)] S=.ok #[(List.range rs.length).map zB,6] S:=by refine wW (T:=[]) rfl ?_ (yP (GM _ _)) (λl=>by simp);show zU (rC [some _] S)=_;unfold rC rB;simp? [mZ,BG,lM];unfold ES;dsimp only;rw[iP #[],aN];unfold Iq;rw[ę];rfl
def Sd(ts:Tk)(rls:List Rule)(rs:List Row)(p:Nat×Nat):Bool:=!(qK ts rls rs p.1 p.2).isEmpty
theorem Es(c: ∀r∈rls,nG ts r)(n: ∀r∈rs,iO ts r)(j:rs.length<=100)(b:rls.length<=100)(k:tK (UN rls rs) (qM rls rs (List.range rs.length)) Hd)(S):
  zG 1 qC [.val (zQ ts rls rs)] S=#[((yO Hd).filter (Sd ts rls rs)).map gU,S,2]:=by
 have a: ∀i∈Hd,i<rs.length:=λi hi=>ý.mp (ü.mp ((BS k).1 i hi)).1;have m:Hd.Nodup:=by obtain⟨⟨p,e⟩,_⟩:=k;rw[e];exact(nodup_range.filter _).filter _
 have h:Hd.length<=100:=ï (m.length_le_of_subset λi hi=>ý.mpr (a i hi)) (by rw[î];exact j);refine lZ (T:=[.lst (rls.map mY)]) rfl ?_ (yB λd y=>?_)
 .show zU (tZ [some (zQ ts rls rs),none] S)=_;unfold tZ;refine Ks (oA (ρ':=[some (zQ ts rls rs),#[↑0]]) (S':=S++[.lst (rls.map mY)]) ?_ ?_)
  .unfold sZ;simp? [QL c b]
  .have w:(S++[MO.lst (rls.map mY)])[↑0]? =#[rls.map mY,2]:=by simp
   obtain⟨K,q,u⟩:=Kr c n j b (λi hi=>ý.mp hi) nodup_range (by rw[î];exact j) (S++[.lst (rls.map mY)]);rw[Ep u k]at q
   have z:yD (uK 2 (zI (yF 0) (zI (yF 1) xR))) aK aL [none,none,some (zQ ts rls rs),#[↑0]] [] _ (S++[.lst (rls.map mY)])=.ok (((yO Hd).filter (Sd ts rls rs)).map gU) _:=mX (f:=gU) (xO _) λp v=>by
    have s:=EC v;refine⟨_,rfl,?_,?_⟩
    .unfold aK;simp? [Y5 c n b (a _ s.1) (a _ s.2) w];unfold Sd;cases qK ts rls rs p.1 p.2<;>rfl
    .unfold aL;exists 7,rfl
   have A:=pairs_len Hd;have B:Hd.length * Hd.length<=100 * 100:=mul_le_mul h h;unfold tB;simp? [F9 j,q,Ru (show Hd.length<=200 by lia)];rw[show HE _ _=.ok ⟨_,[]⟩ _ from rfl,wV];dsimp only;rw[iP (by rw[lM];lia),show CF 2 [0,1] [some (zQ ts rls rs),some (MV.loc ↑0)]=[none,none,some (zQ ts rls rs),#[↑0]]from rfl,z];rfl
 .obtain⟨p,_,rfl⟩:=mM.mp y;exact yP (yB λe o=>by simp only[mC,nM,or_false]at o;rcases o with rfl|rfl<;>exact xA _ _)
end
section
def vN(rls:List Rule)(rs:List Row)(a:Db)(i k:Nat):List Bk:=(if BQ (pQ rls k) (yX rs i)=true then [(DZ,[i,k])]else [])++if pP (pQ rls k) (yX rs i) (a.map (yX rs))=true then [(LH,[i,k])]else []
def uF(ts:Tk)(rs:List Row)(i j:Nat):List Bk:=if(decide (i<j)&&Kj ts (yX rs i) (yX rs j))=true then [(El,[i,j])]else []
def BU(rls:List Rule)(rs:List Row)(i j k:Nat):List Bk:=if(decide (i<j)&&vL (pQ rls k) (yX rs i) (yX rs j))=true then [(rO,[i,j,k])]else []
def QO(ts:Tk)(rls:List Rule)(rs:List Row)(a:Db):List Bk:=a.flatMap λi=>(List.range rls.length).flatMap (vN rls rs a i)++a.flatMap λj=>uF ts rs i j++(List.range rls.length).flatMap (BU rls rs i j)
theorem JO{α β:Type}(f g:α->List β): ∀(l:List α),(l.flatMap λx=>f x++g x).Perm (l.flatMap f++l.flatMap g)
 |[]=>.nil
 |x::l=>by rw[Ġ,Ġ,Ġ];have d:=JO f g l;have a:(f x++g x++_).Perm _:=d.append_left _;refine a.trans ?_;rw[aA,aA];refine List.Perm.append_left _ ?_;rw[<-aA, <-aA];exact perm_append_comm.append_right _
theorem uA{α β:Type}{f g:α->List β}: ∀{l:List α},(∀x∈l,(f x).Perm (g x))->(l.flatMap f).Perm (l.flatMap g)
 |[],_=>.nil
 |x::l,h=>by exact(h x mF0).append (uA λy d=>h y (mO _ d))
theorem uB{α β:Type}(p)(f:α->β): ∀(l:List α),(l.filter p).map f=l.flatMap λx=>if p x=true then [f x]else []
 |[]=>rfl
 |x::l=>by
  rw[Ġ, <-uB p f l]
  cases h:p x with
  |true=>rw[ĵ h];rfl
  |false=>rw[Ķ (by rw[h];exact xF0)];rfl
def Kt{α β:Type}{f:α->List β}{l:List α}(h: ∀x∈l,f x=[]):l.flatMap f=[]:=by rw[List.flatMap_eq_nil_iff];exact h
def JP{α β:Type}{f g:α->List β}{l:List α}(h: ∀x∈l,f x=g x):l.flatMap f=l.flatMap g:=by
 induction l with
 |nil=>rfl
 |cons x l ih=>rw[Ġ,Ġ,h x mF0,ih λy a=>h y (mO _ a)]
theorem JQ{β:Type}(F:Nat->Nat->List β): ∀{d},d.Pairwise (· <·)->(d.flatMap λi=>d.flatMap λj=>if i<j then F i j else [])=(yO d).flatMap λp=>F p.1 p.2
 |[],_=>rfl
 |x::t,h=>by
  rw[ĭ]at h;rw[Ġ,Ġ,iN (ğ x)];rw[show yO _=t.map (λj=>_)++yO t from rfl,List.flatMap_append,List.flatMap_map, <-JQ F h.2];congr 1
  .exact JP λj m=>by rw[iP (h.1 j m)]
  .exact JP λi hi=>by rw[Ġ,iN (by have:=h.1 i hi;lia),Ħ]
def Ku(h:sm.Pairwise (· <·)):(QO ts rls rs sm).Perm (JN ts rls rs sm):=by
 refine(JO _ _ sm).trans (List.Perm.append ?_ ?_)
 .refine uA λi _=>?_;unfold XM vN;rw[uB,uB];exact JO _ _ _
 .rw[<-JQ (λi j=>qK ts rls rs i j) h];refine uA λi _=>uA λj _=>?_;unfold uF BU qK;by_cases a:i<j
  .rw[iP a,dT0 a];rw[uB];exact perm_append_comm
  .rw[iN a,dF0 a];simp only[Bool.false_and,fT0,iF,Ħ];rw[Kt λ_ _=>rfl]
abbrev Sw(S:Sto)(rs:List Row)(a:Db)(b:List Bk):Sto:=S++[.lst ((a.map (yX rs)).map zD),.lst (b.map rZ)]
abbrev L8(ts:Tk)(rls:List Rule)(rs:List Row)(c:Db)(l:Nat)(a b x6 x7:V0):Rho:=[some (zQ ts rls rs),#[c.map zB,3],#[l],#[l+1],a,b,x6,x7]
theorem Et(P: ∀r∈rls,nG ts r)(E: ∀r∈rs,iO ts r)(ag:rls.length<=6)(hs: ∀i∈sm,i<rs.length)(hl:sm.length<=120){R:List Bk}(pR:R.Perm (QO ts rls rs sm))(qR:R.Pairwise λa b=>Ek b a=false)(S):
  zG 2 fH [.val (zQ ts rls rs),#[sm.map zB,6]] S=#[R.map rZ,S,2]:=by
 have ab:yD (yF 0) nE jL [none,some (zQ ts rls rs)] [] (sm.map zB) S=.ok ((sm.map (yX rs)).map zD) S:=by rw[ę];exact cY (g:=λj=>zD (yX rs j)) (xO _) λj v=>⟨[some (zB j),some (zQ ts rls rs)],rfl,rfl,by unfold jL;simp? [mZ,nY (hs j v)]⟩
 have e1:cH [some (zQ ts rls rs),#[sm.map zB,3],none,none,none,none,none,none] S=#[[some (zQ ts rls rs),#[sm.map zB,3],#[↑0],none,none,none,none,none],S++[.lst ((sm.map (yX rs)).map zD)],0]:=by unfold cH;exists 7,nH,show((sm.map zB).length<1000000)=True from eq_true (by rw[lM];omega),ab
 have e2:cI [some (zQ ts rls rs),#[sm.map zB,3],#[↑0],none,none,none,none,none] (S++[.lst ((sm.map (yX rs)).map zD)])=#[L8 ts rls rs sm ↑0 none none none none,S++[.lst ((sm.map (yX rs)).map zD),.lst []],0]:=by unfold cI;simp? [Da];rw[lA,aA];rfl
 have gw: ∀ds,(S++[MO.lst ((sm.map (yX rs)).map zD),MO.lst ds])[↑0]? =#[(sm.map (yX rs)).map zD,2]:=λds=>by simp
 have gf: ∀ds,(S++[MO.lst ((sm.map (yX rs)).map zD),MO.lst ds])[↑0+1]? =#[ds,2]:=λds=>Ju S _ _;have F: ∀ds es,List.set (S++[MO.lst ((sm.map (yX rs)).map zD),MO.lst ds]) (↑0+1) (MO.lst es)=S++[MO.lst ((sm.map (yX rs)).map zD),MO.lst es]:=λds es=>by simp
 have ho: ∀o∈sm.map (yX rs),iO ts o:=λo h=>by obtain⟨j,v,rfl⟩:=mM.mp h;exact E _ (gR (hs j v))
 have W: ∀{i k:Nat},i<rs.length->k<rls.length-> ∀(b:List Bk)(x7:V0),b.length<900000->
   xQ (L8 ts rls rs sm ↑0 (some (zB i)) (some (zB k)) (some (zE (pQ rls k))) x7) (Sw S rs sm b)=#[L8 ts rls rs sm ↑0 (some (zB i)) (some (zB k)) (some (zE (pQ rls k))) x7,Sw S rs sm (b++vN rls rs sm i k),0]:=λ{i k} hi J b x7 u=>by
  have Q:=E _ (gR hi);obtain⟨_,_,_,H⟩:=Az (P _ (GO J)) Q (Sw S rs sm b)
  have s1:jM (L8 ts rls rs sm ↑0 (some (zB i)) (some (zB k)) (some (zE (pQ rls k))) x7) (Sw S rs sm b)=#[L8 ts rls rs sm ↑0 (some (zB i)) (some (zB k)) (some (zE (pQ rls k))) x7,Sw S rs sm (b++if BQ (pQ rls k) (yX rs i)=true then [(DZ,[i,k])]else []),0]:=by
   unfold jM
   cases A:BQ (pQ rls k) (yX rs i)with
   |false=>
    rw[A]at H;rw[iN xF0,aN];simp? [mZ,nY hi,H];rfl
   |true=>
    rw[A]at H;rw[iP rfl];simp? [mZ,nY hi,H,jS (gf (b.map rZ)),tup3,cL (gf (b.map rZ)) (by rw[lM];omega)];rw[F];unfold Sw;rw[đ];rfl
  generalize Z:(b++if BQ (pQ rls k) (yX rs i)=true then [(DZ,[i,k])]else [])=b2 at s1;have af:b2.length<900001:=by rw[<-Z,lA];split<;>simp<;>omega
  obtain⟨_,_,_,c2⟩:=UH (P _ (GO J)) Q ho (by rw[lM];omega) (gw (b2.map rZ)) (gw (b2.map rZ))
  have s2:jN (L8 ts rls rs sm ↑0 (some (zB i)) (some (zB k)) (some (zE (pQ rls k))) x7) (Sw S rs sm b2)=#[L8 ts rls rs sm ↑0 (some (zB i)) (some (zB k)) (some (zE (pQ rls k))) x7,Sw S rs sm (b2++if pP (pQ rls k) (yX rs i) (sm.map (yX rs))=true then [(LH,[i,k])]else []),0]:=by
   unfold jN
   cases A:pP (pQ rls k) (yX rs i) (sm.map (yX rs))with
   |false=>
    rw[A]at c2;rw[iN xF0,aN];simp? [mZ,nY hi,c2];rfl
   |true=>
    rw[A]at c2;rw[iP rfl];simp? [mZ,nY hi,c2,jS (gf (b2.map rZ)),tup3,cL (gf (b2.map rZ)) (by rw[lM];omega)];rw[F];unfold Sw;rw[đ];rfl
  unfold xQ;rw[zA s1,s2, <-Z,aA];rfl
 have K: ∀{i j k:Nat},i<rs.length->j<rs.length->k<rls.length-> ∀(b:List Bk),b.length<900000->
   kD (L8 ts rls rs sm ↑0 (some (zB i)) (some (zB k)) (some (zE (pQ rls k))) (some (zB j))) (Sw S rs sm b)=#[L8 ts rls rs sm ↑0 (some (zB i)) (some (zB k)) (some (zE (pQ rls k))) (some (zB j)),Sw S rs sm (b++BU rls rs i j k),0]:=λ{i j k} hi v J b u=>by
  have Q:=E _ (gR hi);have G:=E _ (gR v);obtain⟨_,_,_,H⟩:=UI (P _ (GO J)) Q G (Sw S rs sm b);have w: ∀T,WD (.val (zB i)) (.val (zB j)) T=#[.bl (decide (i<j)),T,1]:=λT=>by show WD #[(i:Nat),5] #[(j:Nat),5] T=_;rw[lt_int];congr 3;exact dec_is (by omega)
  unfold kD nF BU
  cases D:decide (i<j)with
  |false=>
   rw[Bool.false_and,iN xF0,aN];simp? [w,D];rfl
  |true=>
   rw[ő]
   cases A:vL (pQ rls k) (yX rs i) (yX rs j)with
   |false=>
    rw[A]at H;rw[iN xF0,aN];simp? [w,D,mZ,nY hi,nY v,H];rfl
   |true=>
    rw[A]at H;rw[iP rfl];simp? [w,D,mZ,nY hi,nY v,H,jS (gf (b.map rZ)),E5,cL (gf (b.map rZ)) (by rw[lM];omega)];rw[F];unfold Sw;rw[đ];rfl
 have U: ∀{i j:Nat},i<rs.length->j<rs.length-> ∀(b:List Bk)(d x6:V0),b.length<900000->
   jO (L8 ts rls rs sm ↑0 (some (zB i)) d x6 (some (zB j))) (Sw S rs sm b)=#[L8 ts rls rs sm ↑0 (some (zB i)) d x6 (some (zB j)),Sw S rs sm (b++uF ts rs i j),0]:=λ{i j} hi v b d x6 u=>by
  have Q:=E _ (gR hi);have G:=E _ (gR v);have w: ∀T,WD (.val (zB i)) (.val (zB j)) T=#[.bl (decide (i<j)),T,1]:=λT=>by show WD #[(i:Nat),5] #[(j:Nat),5] T=_;rw[lt_int];congr 3;exact dec_is (by omega)
  unfold jO uF
  cases D:decide (i<j)with
  |false=>
   rw[Bool.false_and,iN xF0,aN];simp? [w,D];rfl
  |true=>
   rw[ő]
   cases A:Kj ts (yX rs i) (yX rs j)with
   |false=>
    rw[iN xF0,aN];simp? [w,D,QM E hi,QM E v,GN Q G,A];rfl
   |true=>
    rw[iP rfl];simp? [w,D,QM E hi,QM E v,GN Q G,A,jS (gf (b.map rZ)),tup3,cL (gf (b.map rZ)) (by rw[lM];omega)];rw[F];unfold Sw;rw[đ];rfl
 have Y: ∀T,ZC [#[rls.map zE,6]] T=.ok ⟨(List.range rls.length).map λk=>.tup [zB k,zE (pQ rls k)],[]⟩ T:=λT=>Be (g:=pQ rls) Kk T;have rk: ∀{j k:Nat},(List.range rls.length)[j]? =some k->j=k/\k<rls.length:=λ{j k} h=>by obtain⟨D,h2⟩:=gS.mp h;rw[î]at D;rw[getElem_range]at h2;exact⟨h2,h2▸D⟩
 have X: ∀{i:Nat},i<rs.length-> ∀(c:Nat)(b:List Bk)(d x6 x7:V0),b.length<=c->c<=800000->
   ∃m n,nU (uK 2 (zI (yF 5) (zI (yF 6) xR))) xQ [] ((List.range rls.length).map λk=>.tup [zB k,zE (pQ rls k)]) (L8 ts rls rs sm ↑0 (some (zB i)) d x6 x7) (Sw S rs sm b)=#[L8 ts rls rs sm ↑0 (some (zB i)) m n x7,Sw S rs sm (b++(List.range rls.length).flatMap (vN rls rs sm i)),0]/\(b++(List.range rls.length).flatMap (vN rls rs sm i)).length<=c+12:=λ{i} hi c b d x6 x7 A hc=>by
  obtain⟨L,B,f,⟨m,n,e⟩,y,s⟩:=fR (f:=λk=>MV.tup [zB k,zE (pQ rls k)]) (gf:=uK 2 (zI (yF 5) (zI (yF 6) xR))) (body:=xQ) (gs:=[]) (λk (b:List Bk) C B=>(∃d x6,C=L8 ts rls rs sm ↑0 (some (zB i)) d x6 x7)/\B=S++[.lst ((sm.map (yX rs)).map zD),.lst (b.map rZ)]/\b.length<=c+k * 2) (λb k=>b++vN rls rs sm i k) (ds:=List.range rls.length) 0 (λj k v b C S1 ⟨⟨d,x6,e⟩,z,u⟩=>by
   subst e z;obtain⟨rfl,J⟩:=rk v;have ae:(vN rls rs sm i j).length<=2:=by unfold vN;rw[lA];split<;>split<;>simp
   refine⟨L8 ts rls rs sm ↑0 (some (zB i)) (some (zB j)) (some (zE (pQ rls j))) x7,_,?_,xO _,⟨_,_,rfl⟩,rfl,by rw[lA];omega⟩;rw[show uK 2 (zI (yF 5) (zI (yF 6) xR)) (.tup [zB j,zE (pQ rls j)]) (L8 ts rls rs sm ↑0 (some (zB i)) d x6 x7) (Sw S rs sm b)=.ok (L8 ts rls rs sm ↑0 (some (zB i)) (some (zB j)) (some (zE (pQ rls j))) x7) (Sw S rs sm b)from rfl,wV];exact W hi J b x7 (by omega)) b (L8 ts rls rs sm ↑0 (some (zB i)) d x6 x7) (Sw S rs sm b) ⟨⟨_,_,rfl⟩,rfl,by omega⟩
  subst e y;rw[qL]at f s;rw[î]at s;exact⟨m,n,f,by omega⟩
 have O: ∀{i j:Nat},i<rs.length->j<rs.length-> ∀(c:Nat)(b:List Bk)(d x6:V0),b.length<=c->c<=800000->
   ∃m n,kE (L8 ts rls rs sm ↑0 (some (zB i)) d x6 (some (zB j))) (Sw S rs sm b)=#[L8 ts rls rs sm ↑0 (some (zB i)) m n (some (zB j)),Sw S rs sm (b++(uF ts rs i j++(List.range rls.length).flatMap (BU rls rs i j))),0]/\(b++(uF ts rs i j++(List.range rls.length).flatMap (BU rls rs i j))).length<=c+7:=λ{i j} hi v c b d x6 A hc=>by
  have ah:(uF ts rs i j).length<=1:=by unfold uF;split<;>simp
  have k1:=U hi v b d x6 (by omega)
  obtain⟨L,B,f,⟨m,n,e⟩,y,s⟩:=fR (f:=λk=>MV.tup [zB k,zE (pQ rls k)]) (gf:=uK 2 (zI (yF 5) (zI (yF 6) xR))) (body:=kD) (gs:=[]) (λk (b:List Bk) C B=>(∃d x6,C=L8 ts rls rs sm ↑0 (some (zB i)) d x6 (some (zB j)))/\B=S++[.lst ((sm.map (yX rs)).map zD),.lst (b.map rZ)]/\b.length<=c+1+k) (λb k=>b++BU rls rs i j k) (ds:=List.range rls.length) 0 (λq k M b C S1 ⟨⟨d,x6,e⟩,z,u⟩=>by
   subst e z;obtain⟨rfl,J⟩:=rk M;have ae:(BU rls rs i j q).length<=1:=by unfold BU;split<;>simp
   refine⟨L8 ts rls rs sm ↑0 (some (zB i)) (some (zB q)) (some (zE (pQ rls q))) (some (zB j)),_,?_,xO _,⟨_,_,rfl⟩,rfl,by rw[lA];omega⟩;rw[show uK 2 (zI (yF 5) (zI (yF 6) xR)) (.tup [zB q,zE (pQ rls q)]) (L8 ts rls rs sm ↑0 (some (zB i)) d x6 (some (zB j))) (Sw S rs sm b)=.ok (L8 ts rls rs sm ↑0 (some (zB i)) (some (zB q)) (some (zE (pQ rls q))) (some (zB j))) (Sw S rs sm b)from rfl,wV];exact K hi v J b (by omega)) (b++uF ts rs i j) (L8 ts rls rs sm ↑0 (some (zB i)) d x6 (some (zB j))) (Sw S rs sm (b++uF ts rs i j)) ⟨⟨_,_,rfl⟩,rfl,by rw[lA];omega⟩
  subst e y;rw[qL,aA]at f s;rw[î]at s;refine⟨m,n,?_,by omega⟩;have k2:jP (L8 ts rls rs sm ↑0 (some (zB i)) d x6 (some (zB j))) (Sw S rs sm (b++uF ts rs i j))=#[L8 ts rls rs sm ↑0 (some (zB i)) m n (some (zB j)),Sw S rs sm (b++(uF ts rs i j++(List.range rls.length).flatMap (BU rls rs i j))),0]:=by unfold jP;simp? [book1,Y];exact f
  unfold kE;rw[zA k1,k2]
 have N: ∀{i:Nat},i<rs.length-> ∀(c:Nat)(b:List Bk)(d x6 x7:V0),b.length<=c->c<=700000->
   ∃m n I,kG (L8 ts rls rs sm ↑0 (some (zB i)) d x6 x7) (Sw S rs sm b)=#[L8 ts rls rs sm ↑0 (some (zB i)) m n I,_,0]/\(b++((List.range rls.length).flatMap (vN rls rs sm i)++sm.flatMap λj=>uF ts rs i j++(List.range rls.length).flatMap (BU rls rs i j))).length<=c+852:=λ{i} hi c b d x6 x7 A hc=>by
  obtain⟨a5,a6,f1,l1⟩:=X hi c b d x6 x7 A (by omega);obtain⟨L,B,f,⟨m,n,I,e⟩,y,s⟩:=fR (f:=zB) (gf:=yF 7) (body:=kE) (gs:=[]) (λk (b:List Bk) C B=>(∃d x6 x7,C=L8 ts rls rs sm ↑0 (some (zB i)) d x6 x7)/\B=S++[.lst ((sm.map (yX rs)).map zD),.lst (b.map rZ)]/\b.length<=c+12+k * 7) (λb j=>b++(uF ts rs i j++(List.range rls.length).flatMap (BU rls rs i j))) (ds:=sm) 0 (λq j M b C S1 ⟨⟨d,x6,x7,e⟩,z,u⟩=>by subst e z;have aa:=(gS.mp M).1;obtain⟨m,n,t1,t2⟩:=O hi (hs j (á M)) (c+12+(0+q) * 7) b d x6 u (by omega);refine⟨L8 ts rls rs sm ↑0 (some (zB i)) m n (some (zB j)),_,?_,xO _,⟨_,_,_,rfl⟩,rfl,by omega⟩;rw[show yF 7 (zB j) (L8 ts rls rs sm ↑0 (some (zB i)) d x6 x7) (Sw S rs sm b)=.ok (L8 ts rls rs sm ↑0 (some (zB i)) d x6 (some (zB j))) (Sw S rs sm b)from rfl,wV];exact t1) (b++(List.range rls.length).flatMap (vN rls rs sm i)) (L8 ts rls rs sm ↑0 (some (zB i)) a5 a6 x7) (Sw S rs sm (b++(List.range rls.length).flatMap (vN rls rs sm i))) ⟨⟨_,_,_,rfl⟩,rfl,by omega⟩;subst e y;rw[qL,aA]at f s;refine⟨m,n,I,?_,by omega⟩;have k1:jQ (L8 ts rls rs sm ↑0 (some (zB i)) d x6 x7) (Sw S rs sm b)=#[L8 ts rls rs sm ↑0 (some (zB i)) a5 a6 x7,Sw S rs sm (b++(List.range rls.length).flatMap (vN rls rs sm i)),0]:=by unfold jQ;simp? [book1,Y];exact f1
  have k2:jR (L8 ts rls rs sm ↑0 (some (zB i)) a5 a6 x7) (Sw S rs sm (b++(List.range rls.length).flatMap (vN rls rs sm i)))=#[L8 ts rls rs sm ↑0 (some (zB i)) m n I,Sw S rs sm (b++((List.range rls.length).flatMap (vN rls rs sm i)++sm.flatMap λj=>uF ts rs i j++(List.range rls.length).flatMap (BU rls rs i j))),0]:=by unfold jR;simp? [nH];exact f
  unfold kG;rw[zA k1,k2]
 obtain⟨L,B,f,⟨y4,m,n,I,e⟩,y,s⟩:=fR (f:=zB) (gf:=yF 4) (body:=kG) (gs:=[]) (λk (b:List Bk) C B=>(∃x4 d x6 x7,C=L8 ts rls rs sm ↑0 x4 d x6 x7)/\B=S++[.lst ((sm.map (yX rs)).map zD),.lst (b.map rZ)]/\b.length<=k * 852) (λb i=>b++((List.range rls.length).flatMap (vN rls rs sm i)++sm.flatMap λj=>uF ts rs i j++(List.range rls.length).flatMap (BU rls rs i j))) (ds:=sm) 0 (λq i M b C S1 ⟨⟨x4,d,x6,x7,e⟩,z,u⟩=>by subst e z;have aa:=(gS.mp M).1;obtain⟨m,n,I,t1,t2⟩:=N (hs i (á M)) ((0+q) * 852) b d x6 x7 u (by omega);refine⟨L8 ts rls rs sm ↑0 (some (zB i)) m n I,_,?_,xO _,⟨_,_,_,_,rfl⟩,rfl,by omega⟩;rw[show yF 4 (zB i) (L8 ts rls rs sm ↑0 x4 d x6 x7) (Sw S rs sm b)=.ok (L8 ts rls rs sm ↑0 (some (zB i)) d x6 x7) (Sw S rs sm b)from rfl,wV];exact t1) [] (L8 ts rls rs sm ↑0 none none none none) (S++[.lst ((sm.map (yX rs)).map zD),.lst []]) ⟨⟨_,_,_,_,rfl⟩,rfl,zero_le _⟩;subst e y;rw[qL,Ħ]at f s;have e3:cJ (L8 ts rls rs sm ↑0 none none none none) (S++[.lst ((sm.map (yX rs)).map zD),.lst []])=#[L8 ts rls rs sm ↑0 y4 m n I,Sw S rs sm (QO ts rls rs sm),0]:=by unfold cJ;simp? [nH];exact f
 have e4:cK (L8 ts rls rs sm ↑0 y4 m n I) (Sw S rs sm (QO ts rls rs sm))=.ok (.ret (.new (R.map rZ))) (Sw S rs sm (QO ts rls rs sm)):=by have:=Ro Kf pR qR (by unfold QO;omega) (p:=#[↑0+1,1]) (S:=S++[.lst ((sm.map (yX rs)).map zD),.lst ((QO ts rls rs sm).map rZ)]) (dB (gf _));unfold cK;simp? [this]
 refine lZ (T:=[.lst ((sm.map (yX rs)).map zD),.lst ((QO ts rls rs sm).map rZ)]) rfl ?_ (Kl _ _);show zU (fG [some (zQ ts rls rs),#[sm.map zB,3],none,none,none,none,none,none] S)=_;unfold fG;rw[zA e1,zA e2,zA e3,e4];rfl
end
theorem Kv(h:S[l]? =#[ds,2]):qT [#[l,1],.val (.typ "list")] S=#[.bl true,S,1]:=by
 have e:CW S #[l,1]=some "list":=by unfold CW;dsimp only;rw[dB h];rfl
 unfold qT;dsimp only;rw[e];rfl
def G5(m:S[u]? =#[ds,2])(i:S[n]? =#[ds,2])(a: ∀d∈ds,pd d=true/\MY d<k):eqv S (k+1) (.loc u) (.loc n)=some true:=by
 have e: ∀l,S[l]? =some _->KN S #[l,1]=some (.ls ds):=λl h=>by show(wI S _).map Vw.ls=_;rw[dB h];rfl
 obtain⟨bs,o,b⟩:=BK λd c f j=>qG k (a d c).1 (a f j).1 (a d c).2;rw[dT0 rfl,aE]at b;unfold eqv;rw[e u m,e n i];show(if ds.length=ds.length then(FN _ ds ds).map λbs=>bs.all id else some false)=_;rw[iP rfl,o];show some (bs.all id)=_;rw[b.1]
theorem Se(ds)(S):ME (.new ds) (.new []) S=#[.bl !ds.isEmpty,S,1]:=by cases ds<;>rfl
section
theorem Eu(j:rls.length<=6)(d:sm.length<=120):(JN ts rls rs sm).length<=200000:=by
 have a: ∀{α β:Type}(g:α->List β)(c:Nat)(l:List α),(∀x,(g x).length<=c)->(l.flatMap g).length<=l.length * c:=λ{α β} g c l h=>by
  induction l with
  |nil=>simp
  |cons x l ih=>
   rw[Ġ,lA,lC,Nat.add_mul];have:=h x
   lia
 unfold JN;rw[lA];have e:=a (XM rls rs sm) 12 sm λi=>ï ((show (XM rls rs sm i).length<=2 * rls.length by unfold XM;rw[lA,lM,lM];have e:=Č (λk=>BQ (pQ rls k) (yX rs i)) (List.range rls.length);have b:=Č (λk=>pP (pQ rls k) (yX rs i) (sm.map (yX rs))) (List.range rls.length);rw[î]at e b;omega)) #[];have b:=a (λp:Nat×Nat=>qK ts rls rs p.1 p.2) 7 (yO sm) λp=>ï (Rt p.1 p.2) #[];have m:(yO sm).length<=14400:=ï (pairs_len sm) (ï (mul_le_mul d d) ↑4)
 lia
end
def Uc(S)(p q):qS S zH (gU p) (gU q)=some (decide ([p.1,p.2]<[q.1,q.2])):=JL [p.1,p.2] [q.1,q.2]
noncomputable def kOf:MV->List Int
 |.tup [.int a,.int b]=>[a,b]
 |_=>[]
def Sf{T:List (Nat×Nat)}(w:T.Pairwise λp q=>[p.1,p.2]<[q.1,q.2])(D:T.length<2000)(A: ∀d,d∈ds↔d∈T.map gU)(F:wI S p=some ds):IU [p] S=#[T.map gU,S,2]:=by
 have i: ∀d∈ds, ∃q∈T,d=gU q:=λd o=>by obtain⟨q,y,e⟩:=mM.mp ((A d).mp o);exact⟨q,y,e.symm⟩
 have v: ∀{a b},a∈ds->b∈ds-> ∃q r:Nat×Nat,a=gU q/\b=gU r/\qS S zH a b=some (decide ([q.1,q.2]<[r.1,r.2])):=λ{a b} m n=>by obtain⟨q,_,rfl⟩:=i a m;obtain⟨r,_,rfl⟩:=i b n;exact⟨q,r,rfl,rfl,Uc S q r⟩
 have s:(T.map gU).Nodup:=by refine ņ.mpr (w.imp λ{a b} h e=>?_);have:=Uc S a b;rw[e,Uc,dT0 h,dF0 (List.lt_irrefl _)]at this;cases this
 refine Qr F ⟨⟨ds.map kOf,T.map λq=>[(q.1:Int),(q.2:Int)],?_,λk z=>?_,by rw[lM];exact D,λk z=>?_⟩,⟨λa m b n=>?_,λa m b n c G j u=>?_,λa m b n j=>?_⟩⟩ (λH h=>?_) ⟨λd=>(A d).symm,s,?_⟩
 .rw[ę];refine((List.map_congr_left λd o=>?_).trans (List.map_id _)).symm;obtain⟨q,_,rfl⟩:=i d o;rfl
 .obtain⟨d,o,rfl⟩:=mM.mp z;obtain⟨q,_,rfl⟩:=i d o;exact List.cons_ne_nil _ _
 .obtain⟨d,o,rfl⟩:=mM.mp z;obtain⟨q,y,rfl⟩:=i d o;exact mM.mpr ⟨q,y,rfl⟩
 .obtain⟨q,r,_,_,e⟩:=v m n;exact⟨_,e⟩
 .obtain⟨q,_,rfl⟩:=i a m;obtain⟨r,_,rfl⟩:=i b n;obtain⟨t,_,rfl⟩:=i c G;rw[Uc]at j u ⊢;rw[dF0 (ā.mpr (List.le_trans (ā.mp (of_decide_eq_false (ã j))) (ā.mp (of_decide_eq_false (ã u)))))]
 .obtain⟨q,_,rfl⟩:=i a m;obtain⟨r,_,rfl⟩:=i b n;rw[Uc]at j ⊢;rw[dF0 (ā.mpr (le_of_lt (Ŀ (ã j))))]
 .obtain⟨j,u,E⟩:=h;refine tI ((List.perm_ext_iff_of_nodup u s).mpr λd=>(j d).trans (A d)) E (ņ.mpr (w.imp λ{a b} h=>?_)) λa m b n B C=>?_
  .rw[Uc,dF0 (ā.mpr (le_of_lt h))]
  .obtain⟨q,_,rfl⟩:=i a ((j a).mp m);obtain⟨r,_,rfl⟩:=i b ((j b).mp n);rw[Uc]at B C;have:=le_antisymm (ā.mp (of_decide_eq_false (ã B))) (ā.mp (of_decide_eq_false (ã C)));simp only[List.cons.injEq,and_true]at this;unfold gU;rw[this.1,this.2]
 .exact ņ.mpr (w.imp λ{a b} h=>by rw[Uc,dF0 (ā.mpr (le_of_lt h))])
theorem NF: ∀{l},l.Pairwise (· <·)->(yO l).Pairwise λp q=>[p.1,p.2]<[q.1,q.2]
 |[],_=>.nil
 |x::t,h=>by
  obtain⟨m,d⟩:=ĭ.mp h;refine ç.mpr ⟨ņ.mpr (d.imp λh=>?_),NF d,λp b q a=>?_⟩
  .exact cons_lt_cons_iff.mpr (.inr ⟨rfl,cons_lt_cons_iff.mpr (.inl h)⟩)
  .obtain⟨j,_,rfl⟩:=mM.mp b;exact cons_lt_cons_iff.mpr (.inl (m _ (EC a).1))
theorem JR: ∀l:List Nat,(yO l).length * 2<=l.length * l.length
 |[]=>à _
 |x::t=>by
  have:=JR t;rw[show yO _=t.map (λj=>_)++yO t from rfl,lA,lM,lC]
  lia
def Y8(b:Bk):Bool:=decide (b.1=El) || decide (b.1=rO)
def Sh(b:Bk):MV:=.tup ((b.2.take 2).map zB)
section
def XQ(h:b∈qK ts rls rs i j):Y8 b=true/\Sh b=gU (i,j):=by
 rcases é.mp h with h|h
 .obtain⟨k,_,rfl⟩:=mM.mp h;exact⟨rfl,rfl⟩
 .split at h
  .rw[mS.mp h];exact⟨rfl,rfl⟩
  .cases h
def G6(h:b∈XM rls rs sm i):Y8 b=false:=by rcases é.mp h with h|h<;>(obtain⟨k,_,rfl⟩:=mM.mp h;rfl)
end
abbrev E8(ns:Za)(mo:Nat)(ts:Tk)(rls:List Rule)(rs:List Row)(Hd:Db)(a x6 x7:V0):Rho:=[some (.scr (ns.map MV.int)),#[(mo:Nat),0],some (zQ ts rls rs),#[Hd.map zB,3],#[0],a,x6,x7]
def Sj(a:S[l]? =#[ds,2]):Hm #[l,1] [] S=#[.non,S.set l (.lst ds.reverse),1]:=by unfold Hm CY;dsimp only;rw[a]
section
variable{T:List (Nat×Nat)}
theorem Kw(n: ∀S,zG 1 qC [.val (zQ ts rls rs)] S=#[T.map gU,S,2])(w:T.length<2000)(a:S[0]? =#[T.map gU,2])(x5 x6 x7):
  ∃u j S',BE (E8 ns mo ts rls rs Hd x5 x6 x7) S=#[E8 ns mo ts rls rs Hd x5 u j,S',0]/\S'[0]? =#[T.map gU,2]:=by
 have e:0<S.length:=(gS.mp a).1;have c:(S++[MO.lst (T.map gU)])[↑0]? =#[T.map gU,2]:=by simp
 have v:(S++[MO.lst (T.map gU)])[0]? =#[T.map gU,2]:=by rw[æ e];exact a
 have k:ME #[↑0,1] #[0,1] (S++[.lst (T.map gU)])=#[.bl false,S++[.lst (T.map gU)],1]:=sP (G5 c v λd a=>by obtain⟨b,_,rfl⟩:=mM.mp a;have:=(show pd (gU b)=true/\MY (gU b)<=1 from ⟨rfl,à _⟩);exact⟨this.1,lt_of_le_of_lt this.2 ↑4⟩)
 obtain⟨_,i⟩:=JM (f:=gU) (p:=λ_=>false) (gf:=yF 7) (body:=GF) (gs:=[(↑0,T.map gU)]) (S:=S++[.lst (T.map gU)]) (r:=.val (.bl false)) (λo=> ∃y,o=E8 ns mo ts rls rs Hd x5 #[↑0] y) (jW c) (ds:=T) (λb s o ⟨y,m⟩=>by
  subst m;refine⟨E8 ns mo ts rls rs Hd x5 #[S.length] (some (gU b)),rfl,λh=>(nomatch h),λ_=>⟨E8 ns mo ts rls rs Hd x5 #[S.length] (some (gU b)),⟨_,rfl⟩,?_⟩⟩;have n:yD (yF 0) DP DQ [none] [] [zB b.1,zB b.2] (S++[.lst (T.map gU)])=.ok [] (S++[.lst (T.map gU)]):=MH (xO _) λd a=>by simp only[mC,nM,or_false]at a;rcases a with rfl|rfl<;>exact⟨_,rfl,rfl⟩
  unfold GF DR;simp? [show∀T,qT [.val (gU b),.val (.typ "tuple")] T=#[.bl true,T,1] from λ_=>rfl,show gU b=.tup [zB b.1,zB b.2]from rfl,nH,show(([zB b.1,zB b.2]:U0).length<1000000)=True from eq_true (show 2<1000000 by decide),show CF 1 [] _=[none]from rfl,n,Da,Se];rfl) (E8 ns mo ts rls rs Hd x5 #[↑0] x7) ⟨_,rfl⟩
 obtain⟨ρ',⟨j,rfl⟩,i⟩:=i (by simp);refine⟨#[↑0],j,S++[.lst ((T.map gU).reverse++[.tup [.int 0,.int 0]])],?_,by rw[æ e];exact a⟩;unfold BE;refine oA (ρ':=E8 ns mo ts rls rs Hd x5 #[↑0] x7) (S':=S++[.lst (T.map gU)]) ?_ (oA (ρ':=E8 ns mo ts rls rs Hd x5 #[↑0] x7) (S':=S++[.lst (T.map gU)]) ?_ (oA (ρ':=E8 ns mo ts rls rs Hd x5 #[↑0] j) (S':=S++[.lst (T.map gU)]) ?_ (oA (ρ':=E8 ns mo ts rls rs Hd x5 #[↑0] j) (S':=S++[.lst (T.map gU).reverse]) ?_ ?_)))
 .unfold DS;exists 7,n
 .unfold DT;simp? [Kv c,k];rfl
 .unfold DU;exists 7,dC c,i
 .unfold DV;simp? [jS c,Sj c];rw[show List.set (S++[MO.lst (T.map gU)]) ↑0 (MO.lst (T.map gU).reverse)=S++[MO.lst (T.map gU).reverse] by simp]
 .have q:(S++[MO.lst (T.map gU).reverse])[↑0]? =#[(T.map gU).reverse,2]:=by simp
  unfold DW;simp? [jS q,tup2,cL q (by rw[List.length_reverse,lM];lia)];rw[show List.set (S++[MO.lst (T.map gU).reverse]) ↑0 (MO.lst ((T.map gU).reverse++[.tup [.int 0,.int 0]]))=S++[MO.lst ((T.map gU).reverse++[.tup [.int 0,.int 0]])] by simp]
end
theorem Ky(ns:Za)(h:ns.length<=63): ∃S,TU [.scr (ns.map MV.int)] []=#[.bl true,S,1]:=by
 obtain⟨c2,X⟩:=rP ns 2 ↑4 [];obtain⟨n2,_,D⟩:=PZ c2 6 ⟨by decide,by decide⟩ []
 obtain⟨mo,o,L⟩: ∃mo:Nat,mo<=60/\BF [some (.scr (ns.map MV.int)),#[14,0],none,none,none,none,none,none] []=#[[some (.scr (ns.map MV.int)),#[(mo:Nat),0],none,none,none,none,none,none],[],0]:=by
  by_cases W:n2 % 8=3
  .refine⟨60,à _,?_⟩;unfold BF;simp? [X,D,mod_lit (show(0:Int)<8 by decide),dT0 W];rfl
  .refine⟨14,by decide,?_⟩;unfold BF;simp? [X,D,mod_lit (show(0:Int)<8 by decide),dF0 W];rfl
 obtain⟨ts,rls,rs,hT,r,N,Z,B,n⟩:=Rm ns h mo o;obtain⟨Hd,k1,Q⟩:=Kr r N #[] #[] (λi hi=>ý.mp hi) nodup_range (by rw[î];lia) [];have u:=Es r N #[] #[] Q;have m:Hd.Sublist (List.range rs.length):=by obtain⟨⟨p,e⟩,_⟩:=Q;rw[e];exact List.filter_sublist.trans List.filter_sublist
 have C:Hd.Pairwise (· <·):=List.pairwise_lt_range.sublist m;have J: ∀i∈Hd,i<rs.length:=λi hi=>ý.mp (m.subset hi);have F:Hd.length<=60:=ï m.length_le (by rw[î];exact Z);obtain⟨R,P,qR⟩:=Bb Kf (QO ts rls rs Hd);have I:=P.trans (Ku C)
 have s:((yO Hd).filter (Sd ts rls rs)).length<2000:=by
  have a:=Č (Sd ts rls rs) (yO Hd);have b:=JR Hd;have c:=mul_le_mul F F
  lia
 have A:=λS=>Sf ((NF C).filter _) s ((λd=>by
   rw[mM,mM];constructor
   .rintro⟨b,n,rfl⟩;obtain⟨n,v⟩:=ü.mp n;rcases é.mp (I.mem_iff.mp n)with h|h
    .obtain⟨i,_,h⟩:=mem_flatMap.mp h;rw[G6 h]at v;cases v
    .obtain⟨p,M,h⟩:=mem_flatMap.mp h;refine⟨p,ü.mpr ⟨M,?_⟩,(XQ h).2.symm⟩;unfold Sd
     cases e:qK ts rls rs p.1 p.2 with
     |nil=>rw[e]at h;cases h
     |cons _ _=>rfl
   .rintro⟨p,v,rfl⟩;obtain⟨v,u⟩:=ü.mp v;unfold Sd at u
    cases e:qK ts rls rs p.1 p.2 with
    |nil=>rw[e]at u;cases u
    |cons b l=>
     have n:b∈qK ts rls rs p.1 p.2:=by rw[e];exact mF0
     exact⟨b,ü.mpr ⟨I.mem_iff.mpr (ñ _ (mem_flatMap.mpr ⟨p,v,n⟩)),(XQ n).1⟩,(XQ n).2⟩)) (p:=.new ((R.filter Y8).map Sh)) (S:=S) rfl;generalize (yO Hd).filter (Sd ts rls rs)=T at u s A
 have E:(R.map rZ).length<1000000:=by
  have a:=I.length_eq;have b:=Eu (ts:=ts) (rls:=rls) (rs:=rs) B (show Hd.length<=120 by lia);rw[lM]
  lia
 have y:yD (yF 0) DM DO [none] [] (R.map rZ) []=.ok ((R.filter Y8).map Sh) []:=mX (xO _) λb O=>by
  refine⟨[some (rZ b)],rfl,?_⟩;have U:=I.mem_iff.mp O;unfold JN XM qK at U;rcases é.mp U with z|z
  .obtain⟨i,_,z⟩:=mem_flatMap.mp z;rcases é.mp z with z|z<;>(obtain⟨k,_,rfl⟩:=mM.mp z;exact⟨rfl,rfl⟩)
  .obtain⟨p,_,z⟩:=mem_flatMap.mp z;rcases é.mp z with z|z
   .obtain⟨k,_,rfl⟩:=mM.mp z;exact⟨rfl,rfl⟩
   .split at z
    .cases mS.mp z;exact⟨rfl,rfl⟩
    .cases z
 have ht:ES [#[((rs.map zD).length:Nat),5]] []=.ok #[(List.range rs.length).map zB,6] []:=by unfold ES;dsimp only;rw[iP (by rw[lM];lia),lM];unfold Iq;rw[ę];rfl
 obtain⟨ρ',S',f,H,w,G,q,aa⟩:=vB (gf:=yF 5) (body:=BE) (gs:=[]) (S:=[.lst (T.map gU)])
  (λ_ Y S'=> ∃H w G,Y=E8 ns mo ts rls rs Hd H w G/\S'[0]? =#[T.map gU,2]) (λi d _ Y S1 ⟨H,w,G,q,K⟩=>by subst q;obtain⟨y6,y7,S2,e,g⟩:=Kw (ns:=ns) (mo:=mo) (Hd:=Hd) u s K (some d) w G;exact⟨_,S2,e,xO _,_,_,_,rfl,g⟩) ⟨none,none,none,rfl,rfl⟩
 subst q;refine⟨S',?_⟩;show zU _=_;unfold Jq;refine Ks (oA (S':=[]) rfl (oA L (oA (ρ':=[some (.scr (ns.map MV.int)),#[(mo:Nat),0],some (zQ ts rls rs),none,none,none,none,none]) (S':=[]) ?_ (oA (ρ':=[some (.scr (ns.map MV.int)),#[(mo:Nat),0],some (zQ ts rls rs),#[Hd.map zB,3],none,none,none,none]) (S':=[]) ?_ (oA (ρ':=E8 ns mo ts rls rs Hd none none none) (S':=[.lst (T.map gU)]) ?_ (oA (ρ':=E8 ns mo ts rls rs Hd H w G) (S':=S') ?_ rfl))))))
 .unfold PQ;exists 7,n
 .unfold PR;exists 7,mZ,BG,ht,k1
 .unfold PV;simp? [Et r N B J (show Hd.length<=120 by lia) P qR []];rw[show HE (.new (R.map rZ)) []=.ok ⟨R.map rZ,[]⟩ []from rfl,wV];dsimp only;rw[iP E,show CF 1 [] [some (.scr (ns.map MV.int)),#[(mo:Nat),0],some (zQ ts rls rs),#[Hd.map zB,3],none,none,none,none]=[none]from rfl,y];simp? [A];rfl
 .unfold PX;exists 7,fW (S:=[.lst (T.map gU)]) (j:=2) ↑4,show(2:Int).toNat=2 from rfl,f
section
variable{K:Q0}
def top(i:Nat):Stmt:=PySem.Challenge.pw_mendsure_k13_rows_that_clash.main.body.getD i (.Pass ⟨0,0,0,0⟩)
set_option bootstrap.genMatcherCode true in
local macro_rules
 | `(tactic|exists 1,$t)=>`(tactic|with_reducible show $t)
 | `(tactic|exists 7,$t)=>`(tactic|exists 1,zT _ _ _ $t)
 | `(tactic|exists 8,$t)=>`(tactic|exists 1,VZ _ _ _ _ (bJ _ $t))
 | `(tactic|exists 3,$t)=>`(tactic|exists 1,zT _ _ (.Call (.Name $t _) _ _ _) _)
 | `(tactic|exists 4,$t)=>`(tactic|exists 1,zT _ _ (.Call (.Attribute _ $t _) _ _ _) _)
 | `(tactic|exists 5,$t)=>`(tactic|exists 1,zT _ _ (.BinOp _ $t _ _) _)
 | `(tactic|exists 6,$t)=>`(tactic|exists 1,zT _ _ (.Compare _ [$t] _ _) _)
 | `(tactic|and_intros)=>`(tactic|repeat' (first |(exists 1,vU _ _ [_] _;refine VY ?_)|(exists 1,vU _ _ (_::_) _;refine OM ?_ ?_)|(exists 1,vU _ _ [] _;exact Xj)|(exists 1,OL _ _ (.Assign _ (.ListComp _ _ _ _) _) _;refine Jb ‹_› ?_ (λ_ _ _ _ _=>?_) (λ_ _ _ _=>?_) (λ_ _ _ _=>?_))|(exists 1,OL _ _ (.Assign [.Name _ _] _ _) _;refine Xn _ ‹_› ?_)|(exists 1,OL _ _ (.Assign _ _ _) _;refine Xo ?_ ?_)|(exists 1,OL _ _ (.Return _ _) _;refine Xk ?_)|(exists 1,OL _ _ (.For _ _ _ _ _) _;refine Xq PassesOwn.never rfl ?_ ?_ ?_)|(exists 1,OL _ _ (.If _ _ _ _) _;refine R4 ?_ ?_ ?_)|(exists 1,OL _ _ (.Expr _ _) _;refine Na ?_)|(exists 1,OL _ _ (.While _ _ _ _) _;refine Gw _ PassesOwn.never ?_ ?_)|(exists 1,zT _ _ (.Name _ _) _;first |(exists 1,zT _ _ (.Name _ _) (vJ _);exact Wv _)|exact RT rfl ‹_› Og|exact RT rfl ‹_› Yo|exact RT rfl ‹_› YY|exact RT rfl ‹_› AA|exact RT rfl ‹_› Yn)|(exists 1,zT _ _ (.Constant _ _ _) _;first |exact Ww|exact Wy _|exact Q7|exact Wx)|(exists 1,zT _ _ (.UnaryOp _ _ _) _;first |exact Wz|refine Xc ?_)|(exists 1,zT _ _ (.List _ _) _;refine Xi ?_)|(exists 1,zT _ _ (.Tuple _ _ _) _;refine Xh ?_)|(exists 1,zT _ _ (.BinOp _ _ _ _) _;first |(exists 5,.Add;refine Yc ?_ ?_)|(exists 1,zT _ _ (.BinOp _ .Mult _ _) (dJ qA _ _);refine Yd ?_ ?_)|(exists 5,.Mod;refine Xy ?_ ?_)|(exists 5,.FloorDiv;refine Xx ?_ ?_)|(exists 5,.Sub;refine Xw ?_ ?_)|(exists 5,.Pow;refine Ya ?_ ?_))|(exists 1,zT _ _ (.Compare _ _ _ _) _;first |(exists 6,.Eq;refine R5 (Room.units ‹_›) ?_ ?_)|(exists 6,.NotEq;refine R9 (Room.units ‹_›) ?_ ?_)|(exists 6,.Lt;refine S9 (Room.units ‹_›) ?_ ?_))|(exists 1,zT _ _ (.Subscript _ _ _) _;first |(exists 1,zT _ _ (.Subscript _ _ _) (dJ zV _ _);refine T7 ?_ ?_)|(exists 1,zT _ _ (.Subscript _ _ _) (tJ uE _ _ _);refine Ye ?_ ?_ ?_))|(exists 1,zT (zN _ _ _ _ _ _ _ _) _ (.ListComp _ _ _ _) _;refine Jc ‹_› ?_ (λ_ _ _ _ _=>?_) (λ_ _ _ _=>?_) (λ_ _ _ _=>?_))|(exists 1,zT _ _ (.ListComp _ _ _ _) _;refine Ja ‹_› ?_ (λ_ _ _ _ _=>?_) (λ_ _ _ _=>?_) (λ_ _ _ _=>?_))|(exists 1,zT _ _ (.Attribute _ _ _) _;refine Po ‹_› ?_)|(exists 1,zT _ _ (.BoolOp _ _ _) _;first |refine Xb ?_ ?_|refine Xa ?_|refine Q9 ?_ ?_)|(exists 1,zT _ _ (.Call (.Attribute _ _ _) _ _ _) _;first |(exists 4,"append";refine Cy ?_ ?_)|(exists 4,"parts_in_turn";refine AQ ‹_› (Room.mono ‹_› (by decide)) ?_ ?_)|(exists 4,"lacks";refine AQ ‹_› (Room.mono ‹_› (by decide)) ?_ ?_)|(exists 4,"reverse";refine WH ?_)|(exists 4,"extend";refine Di ?_ ?_)|(exists 4,"parts_them";refine AQ ‹_› (Room.mono ‹_› (by decide)) ?_ ?_)|(exists 4,"pop";refine Qf ?_ ?_)|(exists 4,"bars";refine AQ ‹_› (Room.mono ‹_› (by decide)) ?_ ?_)|(exists 4,"join";refine Ps ?_ ?_))|(exists 1,zT _ _ (.Call (.Name _ _) _ _ _) _;first |(exists 3,"len";refine pX Cv Yh rfl ‹_› Yk ?_)|(exists 3,"isinstance";refine pX Hk Yj rfl ‹_› KZ ?_)|(exists 3,"tuple";refine tR KR Hl rfl ‹_› AA ?_)|(exists 1,zT _ _ (.Call (.Name "tuple" _) _ _ _) (bJ _ ES);refine Pn rfl rfl ‹_› rfl ‹_› ?_)|(exists 1,zT _ _ (.Call (.Name "sorted" _) _ _ _) (bJ _ IU);refine Qs (Room.u128 ‹_›) rfl rfl ‹_› rfl ‹_› ?_)|(exists 3,"all";refine pX OE (Yi rfl) rfl ‹_› Yl ?_)|(exists 3,"Never";refine IA ‹_› (Room.mono ‹_› (by decide)) rfl ?_)|(exists 3,"Apart";refine IA ‹_› (Room.mono ‹_› (by decide)) rfl ?_)|(exists 3,"Tie";refine IA ‹_› (Room.mono ‹_› (by decide)) rfl ?_)|(exists 3,"dict";refine tR Dr (Qj rfl) rfl ‹_› Qi ?_)|(exists 1,zT _ _ (.Call (.Name "tuple" _) _ _ _) (bJ _ MS);refine tR Dp (Qg rfl) rfl ‹_› AA ?_)|(exists 3,"any";refine pX PH (C4 rfl) rfl ‹_› Ym ?_)|(exists 3,"min";refine pX (Bv rfl) A7 rfl ‹_› A8 ?_)|(exists 1,zT _ _ (.Call (.Name "list" _) _ _ _) (bJ _ YX);refine tR NW Of rfl ‹_› YY ?_)|(exists 3,"sorted";refine pX (Dj (Room.u128 ‹_›)) Px rfl ‹_› HX ?_)|refine Im ‹_› (Room.mono ‹_› (by decide)) rfl ?_)|(exists 1,vQ _ _ (.Compare _ _ _ _) _;first |(exists 1,vQ _ _ (.Compare _ [.Eq] _ _) _;refine R8 (Room.units ‹_›) ?_ ?_)|(exists 1,vQ _ _ (.Compare _ [.NotEq] _ _) _;refine S8 (Room.units ‹_›) ?_ ?_)|(exists 1,vQ _ _ (.Compare _ [.Lt] _ _) _;refine T3 (Room.units ‹_›) ?_ ?_)|(exists 1,vQ _ _ (.Compare _ [.In] _ _) _;refine C1 ?_ ?_)|(exists 1,vQ _ _ (.Compare _ [.NotIn] _ _) _;refine Hj (Room.units ‹_›) ?_ ?_)|(exists 1,vQ _ _ (.Compare _ [.In] _ _) _;refine T9 (Room.units ‹_›) ?_ ?_)|(exists 1,vQ _ _ (.Compare _ [.GtE] _ _) _;refine T4 ?_ ?_))|(exists 1,vQ _ _ (.UnaryOp _ _ _) _;refine Xf ?_)|(exists 1,vQ _ _ (.BoolOp _ _ _) _;refine R3 ?_)|(exists 1,vQ _ _ _ _;refine Gs ?_)|(exists 1,Tb _ _ _ _;first |refine R1 ?_ ?_|refine Xe ?_ ?_|refine Xd ?_|refine Mv ?_)|(exists 1,MA _ _ _ _;first |refine Mw ?_ ?_|exact Xg)|(exists 1,Wu _ _ _ _;first |refine Mz ?_|exact Mx)|(exists 1,ON _ _ _ _;first |exact Nk|refine Nl ?_)|(exists 1,VZ _ _ _ _ _;first |(exists 8,HE;refine Nh ?_)|(exists 8,VC;refine Xp ?_)|(exists 8,iI;refine Cq rfl ‹_› ?_)|(exists 8,ZC;refine Oy rfl ‹_› ?_))|(exists 1,Nb _ _ (.Name _ _) _;exact Nc _ ‹_›)|(exists 1,Nb _ _ _ _;first |refine Xm rfl ?_|(exists 1,Nb _ _ _ (DJ MF _ _);refine Yp ?_ ?_))|(exists 1,Gv _ _ _ _;first |refine Nd ?_ ?_|exact Xl)|(exists 1,Gx _ _ _ (.Name _ _) _;exact Ni _ ‹_›)|(exists 1,Gx _ _ _ _ _;refine Xs rfl ?_)|(exists 1,Gy _ _ _ _ _;first |refine Nj ?_ ?_|exact Xr)))
 | `(tactic|exists 2,$f:ident,$xs:ident,*)=>`(tactic|(refine okA $f ‹_› (λ_ _ _ _ _ _ _ _ _ _=>?_);delta $f $xs*; (first |refine VY ?_|refine OM ?_ ?_);and_intros))
 | `(tactic|exists 0,$f:ident,$xs:ident,*)=>`(tactic|(refine okL $f ‹_› (λ_ _ _ _ _ _ _ _ _=>?_);delta $f $xs*; (first |refine VY ?_|refine OM ?_ ?_);and_intros))
def Kz:FnScope ["self","parts"] ["self","parts"] (zK (inClass (top 7) 0)):=fsK (by decide+kernel)
def UQ(D:DefM K mg "is_whole" (top 1))(a:mg "int"=none)(b:mg "isinstance"=none)(c:mg "bool"=none):Ik P w K mg base "is_whole" 1 1 ["thing"] mI:=by exists 2,IX,AU
def LI(D:DefM K mg "side_value" (top 3)):Ik P w K mg base "side_value" 1 2 ["side","looked_at"] dE:=by exists 2,iU,wA,dD
def XR(D:DefM K mg "fulfils" (top 4))(a:Ik P w K mg base "side_value" 1 2 ["side","looked_at"] dE)(b:Ik P w K mg base "is_whole" 1 1 ["thing"] mI):Ik P w K mg base "fulfils" 2 2 ["looked_at","test"] tW:=by exists 2,tV,oH,oI,oK,oM,oN
def JT(D:DefM K mg "fulfils_all" (top 5))(b:Ik P w K mg base "fulfils" 2 2 ["looked_at","test"] tW)(a:mg "all"=none):Ik P w K mg base "fulfils_all" 3 2 ["looked_at","tests"] xE:=by exists 2,aC,fX,dF,kZ
def UR(D:DefM K mg "cells_in" (top 6)):Ik P w K mg base "cells_in" 1 2 ["row","columns"] mL:=by exists 2,qZ,qY,mK,dH
abbrev US:Stmt:=inClass (top 7) 1
def QP(F:Fun K "bars" "Rule.bars" US f fd):FnOk P w K mg base sF 1 f fd ["self","row"] (KM ⟨K,mg,P,w⟩ 2 fO):=by exists 0,yQ,uM
abbrev BW:Stmt:=inClass (top 7) 2
def vO(F:Fun K "parts_them" "Rule.parts_them" BW f fd):FnOk P w K mg base sF 1 f fd ["self","row","other"] (KM ⟨K,mg,P,w⟩ 3 xS):=by exists 0,zS,iL
abbrev QQ:Stmt:=inClass (top 7) 3
def LK(F:Fun K "lacks" "Rule.lacks" QQ f fd):FnOk P w K mg base sF 1 f fd ["self","row","rows"] (KM ⟨K,mg,P,w⟩ 3 dI):=by exists 0,yM,sW
abbrev QR:Stmt:=inClass (top 8) 0
def LL(F:Fun K "bars" "Never.bars" QR f fd)(a:zAH K TR "parts")(b:Ik P w K mg base "fulfils_all" 3 2 ["looked_at","tests"] xE):FnOk P w K mg base sF 4 f fd ["self","row"] (KM ⟨K,mg,P,w⟩ 2 AV):=by exists 0,xC,mN
abbrev sD:Stmt:=inClass (top 9) 0
def rQ(F:Fun K "parts_in_turn" "Apart.parts_in_turn" sD f fd)(a:zAH K TR "parts")(b:Ik P w K mg base "fulfils_all" 3 2 ["looked_at","tests"] xE):FnOk P w K mg base sF 4 f fd ["self","row","other"] (KM ⟨K,mg,P,w⟩ 3 xN):=by exists 0,zR,yV,wC
abbrev vP:Stmt:=inClass (top 9) 1
def uG(F:Fun K "parts_them" "Apart.parts_them" vP f fd)(a:Tq P w K mg base "parts_in_turn" 4 3 xG):FnOk P w K mg base sF 5 f fd ["self","row","other"] (KM ⟨K,mg,P,w⟩ 3 mP):=by exists 0,zW,jY
abbrev UT:Stmt:=inClass (top 10) 0
def QS(F:Fun K "lacks" "Tie.lacks" UT f fd)(a:zAH K TR "parts")(b:Ik P w K mg base "cells_in" 1 2 ["row","columns"] mL):FnOk P w K mg base sF 2 f fd ["self","row","rows"] (KM ⟨K,mg,P,w⟩ 3 oO):=by exists 0,yR,kI,aD,aF,uN,bA,fY
def XS(D:DefM K mg "rule_of" (top 11))(b:Tp P w K mg base "Never" "parts")(a:Tp P w K mg base "Apart" "parts")(c:Tp P w K mg base "Tie" "parts"):Ik P w K mg base "rule_of" 3 1 ["parts"] tX:=by exists 2,lU,wK,cS,FB
def UU(D:DefM K mg "rules_of" (top 13))(a:Ik P w K mg base "rule_of" 3 1 ["parts"] tX):Ik P w K mg base "rules_of" 4 1 ["book"] jZ:=by exists 2,rA,iV,mQ,dL
def UV(D:DefM K mg "all_rows" (top 14))(b:mg "len"=none)(a:mg "tuple"=none)(c:mg "range"=none):Ik P w K mg base "all_rows" 1 1 ["book"] rD:=by exists 2,rC,rB
def UW(D:DefM K mg "pairs_of" (top 15))(a:mg "enumerate"=none):Ik P w K mg base "pairs_of" 1 1 ["rows"] rF:=by exists 2,rE,iY,iZ,AW,iW,mT,mR,dM
def Ew(D:DefM K mg "key_of" (top 16)):Ik P w K mg base "key_of" 1 2 ["tables","row"] sX:=by exists 2,BA,vD
def ED(D:DefM K mg "breaks_of_two" (top 17))(b:mg "enumerate"=none)(a:Tq P w K mg base "parts_them" 5 3 xF)(c:Ik P w K mg base "key_of" 1 2 ["tables","row"] sX):Ik P w K mg base "breaks_of_two" 6 4 ["book","rules","i","j"] bG:=by exists 2,bF,jA,jB,jC,jD,oP,xW,xX
def XT(D:DefM K mg "ties_of" (top 18))(c:Ik P w K mg base "rules_of" 4 1 ["book"] jZ)(b:mg "enumerate"=none)(a:Tq P w K mg base "lacks" 2 3 fP):Ik P w K mg base "ties_of" 5 1 ["book"] nV:=by exists 2,tY,oR,oS,oU,oQ,pI,cT,aH,aG,pH
def LM(D:DefM K mg "has_one_of" (top 19)):Ik P w K mg base "has_one_of" 1 2 ["kept","some"] lD:=by exists 2,lB,wD,sY,hX,gG
def FS(D:DefM K mg "untied_among" (top 20))(a:Ik P w K mg base "has_one_of" 1 2 ["kept","some"] lD):Ik P w K mg base "untied_among" 2 2 ["ties","kept"] hZ:=by exists 2,dN,gH,xK,wO
def JY(D:DefM K mg "tied_within" (top 21))(b:mg "dict"=none)(c:Ik P w K mg base "untied_among" 2 2 ["ties","kept"] hZ)(a:mg "tuple"=none):Ik P w K mg base "tied_within" 3 2 ["ties","rows"] kL:=by exists 2,aI,bH,bI,fZ,bK,dO,jE,wY,jF,jG,wX,dP
def Sk(D:DefM K mg "held" (top 22))(e:Ik P w K mg base "rules_of" 4 1 ["book"] jZ)(a:Tq P w K mg base "bars" 4 2 oV)(b:mg "any"=none)(d:Ik P w K mg base "tied_within" 3 2 ["ties","rows"] kL)(c:Ik P w K mg base "ties_of" 5 1 ["book"] nV):Ik P w K mg base "held" 6 2 ["book","rows"] DL:=by exists 2,PN,BB,BC,BD,rH,vF,vE,rG
def XU(D:DefM K mg "clashes" (top 23))(d:Ik P w K mg base "rules_of" 4 1 ["book"] jZ)(a:Ik P w K mg base "pairs_of" 1 1 ["rows"] rF)(c:Ik P w K mg base "held" 6 2 ["book","rows"] DL)(b:Ik P w K mg base "all_rows" 1 1 ["book"] rD)(e:Ik P w K mg base "breaks_of_two" 6 4 ["book","rules","i","j"] bG):Ik P w K mg base "clashes" 7 1 ["book"] qC:=by exists 2,tZ,sZ,tB,aK,aL
def FT(D:DefM K mg ũ (top 25))(a:mg "len"=none):Ik P w K mg base ũ 1 2 [ŝ,Ş] zP:=by exists 2,dQ,gK,qD
def UY(D:DefM K mg ū (top 26)):Ik P w K mg base ū 1 2 [Ŝ,Ş] xL:=by exists 2,vG,lE,lF,lH
def QT(D:DefM K mg Ţ (top 27)):Ik P w K mg base Ţ 1 2 [ř,Š] zC:=by exists 2,oW,kM,kN,uO
def QU(D:DefM K mg ť (top 28))(b:mg "range"=none)(a:Ik P w K mg base ū 1 2 [Ŝ,Ş] xL):Ik P w K mg base ť 2 2 [Ŝ,Ş] zZ:=by exists 2,oX,aO,pK,aP,aQ,aM,iA
def QV(D:DefM K mg ŵ (top 29))(h:mg "str"=none)(e:mg "isinstance"=none)(d:mg "range"=none)(a:Ik P w K mg base Ţ 1 2 [ř,Š] zC)(b:mg "len"=none)(c:mg "min"=none):Ik P w K mg base ŵ 2 2 [ř,Ś] gA:=by exists 2,cU,pL,aR,aS,aT,aU,aV,aW,aX,bL,iB,iC,bM
def QW(D:DefM K mg Ŷ (top 30))(d:Ik P w K mg base ť 2 2 [Ŝ,Ş] zZ)(c:mg "range"=none)(a:Ik P w K mg base Ţ 1 2 [ř,Š] zC)(b:Ik P w K mg base ŵ 2 2 [ř,Ś] gA):Ik P w K mg base Ŷ 3 1 [Ŝ] cV:=by exists 2,tD,aY,aZ,eC,eE,bB,bN,bO,wZ,kC,bP
def KA(D:DefM K mg Ů (top 31))(d:Ik P w K mg base ť 2 2 [Ŝ,Ş] zZ)(b:mg "range"=none)(a:Ik P w K mg base Ţ 1 2 [ř,Š] zC)(c:mg "tuple"=none):Ik P w K mg base Ů 3 1 [Ŝ] kO:=by exists 2,pN,bR,bS,bT,bU,bQ,jH,jI,jK
def UZ(D:DefM K mg Ż (top 32))(e:Ik P w K mg base ť 2 2 [Ŝ,Ş] zZ)(a:Ik P w K mg base Ţ 1 2 [ř,Š] zC)(b:mg "len"=none)(c:mg "range"=none)(d:mg "tuple"=none):Ik P w K mg base Ż 3 3 [Ŝ,ś,Ś] nW:=by exists 2,vH,lI,lK,lL,mU,dR
def QX(D:DefM K mg ŷ (top 33))(b:Ik P w K mg base Ż 3 3 [Ŝ,ś,Ś] nW)(c:mg "len"=none)(a:mg "tuple"=none):Ik P w K mg base ŷ 4 4 [Ū,ś,Ś,Ũ] cW:=by exists 2,tE,eF,eG,eH,xV,bV,yW
def QY(D:DefM K mg Ÿ (top 34))(a:Ik P w K mg base Ţ 1 2 [ř,Š] zC)(b:mg "len"=none):Ik P w K mg base Ÿ 2 4 [ř,ŧ,ś,Ś] xT:=by exists 2,oY,kP,eI,eK
def LN(D:DefM K mg ų (top 35))(b:mg "range"=none)(a:Ik P w K mg base Ţ 1 2 [ř,Š] zC)(c:Ik P w K mg base Ÿ 2 4 [ř,ŧ,ś,Ś] xT)(d:mg "tuple"=none):Ik P w K mg base ų 3 4 [ř,ŧ,ś,Ś] xD:=by exists 2,rK,dS,dU,dW,gB,gM,gN,gO
def QZ(D:DefM K mg Ź (top 36))(h:Ik P w K mg base ť 2 2 [Ŝ,Ş] zZ)(a:Ik P w K mg base Ţ 1 2 [ř,Š] zC)(b:mg "len"=none)(c:Ik P w K mg base ų 3 4 [ř,ŧ,ś,Ś] xD)(d:mg "range"=none)(e:mg "tuple"=none):Ik P w K mg base Ź 4 3 [Ŝ,ś,Ś] xU:=by exists 2,fQ,eP,eQ,eR,eS,kQ,kR,eT,eU,eV,dX,iD,bW,iE,bX
def RA(D:DefM K mg ź (top 37))(i:Ik P w K mg base Ŷ 3 1 [Ŝ] cV)(j:Ik P w K mg base ũ 1 2 [ŝ,Ş] zP)(b:Ik P w K mg base Ů 3 1 [Ŝ] kO)(a:Ik P w K mg base Ţ 1 2 [ř,Š] zC)(n:Ik P w K mg base ť 2 2 [Ŝ,Ş] zZ)(d:mg "range"=none)(k:Ik P w K mg base Ź 4 3 [Ŝ,ś,Ś] xU)(e:mg "tuple"=none)(c:mg "list"=none)(h:Ik P w K mg base ū 1 2 [Ŝ,Ş] xL)(m:Ik P w K mg base ŷ 4 4 [Ū,ś,Ś,Ũ] cW):Ik P w K mg base ź 5 3 [ŝ,Ũ,ž] cX:=by exists 2,tF,eX,eY,eZ,fB,fC,fD,fE,iG,bY,eW,iH
def LO(D:DefM K mg Ŵ (top 38)):Ik P w K mg base Ŵ 1 2 qX dZ:=by exists 2,lN,wF,dY
def RB(D:DefM K mg ŭ (top 39))(b:Ik P w K mg base Ŵ 1 2 qX dZ)(c:mg "str"=none)(a:mg "isinstance"=none):Ik P w K mg base ŭ 2 2 [Ŧ,ş] wL:=by exists 2,oZ,fF,uP,bC,bZ,cA,cB,cC
def KC(D:DefM K mg ů (top 40))(a:Ik P w K mg base ŭ 2 2 [Ŧ,ş] wL):Ik P w K mg base ů 3 2 pG kT:=by exists 2,kS,cE
def KD(D:DefM K mg Ű (top 41))(a:Ik P w K mg base ŭ 2 2 [Ŧ,ş] wL):Ik P w K mg base Ű 3 3 [š,ţ,Ų] kW:=by exists 2,kU,xP,cG,rY,cF,nA
def FU(D:DefM K mg Ŭ (top 42)):Ik P w K mg base Ŭ 1 3 [š,ţ,ş] nB:=by exists 2,yS,yH,gP,gQ,mV,wQ,wU,cP,cO,wR
def VA(D:DefM K mg ż (top 43)):Ik P w K mg base ż 1 2 [Ť,"_law_i"] mW:=by exists 2,rL,lO,lQ
def KF(D:DefM K mg ű (top 44))(h:mg "enumerate"=none)(a:Ik P w K mg base ů 3 2 pG kT)(d:Ik P w K mg base Ŭ 1 3 [š,ţ,ş] nB)(b:Ik P w K mg base ż 1 2 [Ť,"_law_i"] mW)(e:Ik P w K mg base Ű 3 3 [š,ţ,Ų] kW)(c:mg "sorted"=none):Ik P w K mg base ű 4 2 [Ť,ſ] fH:=by exists 2,fG,cH,cI,cJ,cK,nE,jL,kG,jQ,jR,xQ,kE,jM,jN,jO,jP,kD,nF
def G7(F:Fun K "law" "law" (top 45) f fd)(k:Ik P w K mg base ū 1 2 [Ŝ,Ş] xL)(o:Ik P w K mg base ũ 1 2 [ŝ,Ş] zP)(m:Ik P w K mg base ź 5 3 [ŝ,Ũ,ž] cX)(p:Ik P w K mg base "held" 6 2 ["book","rows"] DL)(n:mg "len"=none)(h:mg "tuple"=none)(d:mg "range"=none)(a:Ik P w K mg base ű 4 2 [Ť,ſ] fH)(e:mg "sorted"=none)(c:mg "set"=none)(b:Ik P w K mg base "clashes" 7 1 ["book"] qC)(i:mg "list"=none)(j:mg "isinstance"=none)(q:mg "bool"=none):FnOk P w K mg base sF 8 f fd [ŝ] (KM ⟨K,mg,P,w⟩ 1 TU):=by exists 0,Jq,Ak,BF,PQ,PR,PV,PX,Al,DM,DO,BE,DS,DT,DU,DV,DW,GF,DR,DP,DQ
end
abbrev mgN:=@PySem.W.mg_none_of
abbrev nNo(K:PySem.W.Frag)(x:Str):Prop:=PySem.W.nsIn K mainGlobals x=some none
def all_mk{l:PySem.W.OpenLaw}{K:Q0}(X:K.In h)(GG:h.Ns mainGlobals mg)(bo:mg "law"=some (.ref fa))(D0:DefM K mg "is_whole" (top 1))(D1:DefM K mg "side_value" (top 3))(D2:DefM K mg "fulfils" (top 4))(D3:DefM K mg "fulfils_all" (top 5))(D4:DefM K mg "cells_in" (top 6))(D12:DefM K mg "rule_of" (top 11))(D13:DefM K mg "rules_of" (top 13))(D14:DefM K mg "all_rows" (top 14))(D15:DefM K mg "pairs_of" (top 15))(D16:DefM K mg "key_of" (top 16))(D17:DefM K mg "breaks_of_two" (top 17))(D18:DefM K mg "ties_of" (top 18))(D19:DefM K mg "has_one_of" (top 19))(D20:DefM K mg "untied_among" (top 20))(D21:DefM K mg "tied_within" (top 21))(D22:DefM K mg "held" (top 22))(D23:DefM K mg "clashes" (top 23))(D24:DefM K mg ũ (top 25))(D25:DefM K mg ū (top 26))(D26:DefM K mg Ţ (top 27))(D27:DefM K mg ť (top 28))(D28:DefM K mg ŵ (top 29))(D29:DefM K mg Ŷ (top 30))(D30:DefM K mg Ů (top 31))(D31:DefM K mg Ż (top 32))(D32:DefM K mg ŷ (top 33))(D33:DefM K mg Ÿ (top 34))(D34:DefM K mg ų (top 35))(D35:DefM K mg Ź (top 36))(D36:DefM K mg ź (top 37))(D37:DefM K mg Ŵ (top 38))(D38:DefM K mg ŭ (top 39))(D39:DefM K mg ů (top 40))(D40:DefM K mg Ű (top 41))(D41:DefM K mg Ŭ (top 42))(D42:DefM K mg ż (top 43))(D43:DefM K mg ű (top 44))(D44:DefM K mg "law" (top 45))
   (q2y:PySem.W.nsIn K mainGlobals "Rule"=some (some (.ref q0d)))
   (q2f:PySem.W.nsIn K mainGlobals "Never"=some (some (.ref q0c)))
   (q2g:PySem.W.nsIn K mainGlobals "Apart"=some (some (.ref q0b)))
   (q3h:PySem.W.nsIn K mainGlobals "Tie"=some (some (.ref q0e)))
  (q4q:(PySem.W.clsIn K q0d).map (·.name)=some "Rule") (J6:Cls K q0d)
  (Lb:NoAttr K q0d "parts") (q4u:OI K q0d)
  (q3i:(PySem.W.clsIn K q0c).map (·.name)=some "Never") (Sv:Cls K q0c)
  (Bm:NoAttr K q0c "parts") (q4s:OI K q0c)
  (q3j:(PySem.W.clsIn K q0b).map (·.name)=some "Apart") (Su:Cls K q0b)
  (Bl:NoAttr K q0b "parts") (q4t:OI K q0b)
  (q4r:(PySem.W.clsIn K q0e).map (·.name)=some "Tie") (Z1:Cls K q0e)
  (Uk:NoAttr K q0e "parts") (q4v:OI K q0e)
     
  (J2:Mk K q0d q0a)
  (Sq:Mk K q0c q0a)
  (Sn:Mk K q0b q0a)
  (Z2:Mk K q0e q0a)
  (q0w:K.lookup q0a=some ⟨q2z,q3a,.func (PySem.W.fnOf "__init__" "Rule.__init__" (wM (inClass (top 7) 0)) (yT (inClass (top 7) 0)) (zK (inClass (top 7) 0)) .none q3b q3c q3d q3e q0u q3f),q3g⟩) (q0x:PySem.W.codeIn K q0u "Rule.__init__"=true) (q0y:PySem.W.keepIn K (.ref q0a)=true)
  {yQ:Addr}   
  (q2d:Meth K q0d "bars" yQ)
  (q1m:Meth K q0b "bars" yQ)
  (q2h:Meth K q0e "bars" yQ)
  (q1n:K.lookup yQ=some ⟨q4a,q4b,.func (PySem.W.fnOf "bars" "Rule.bars" (wM (inClass (top 7) 1)) (yT (inClass (top 7) 1)) (zK (inClass (top 7) 1)) .none q4c q4d q4e q4f q1c q4g),q4h⟩) (q1o:PySem.W.codeIn K q1c "Rule.bars"=true) (q1p:PySem.W.keepIn K (.ref yQ)=true)
  {zS:Addr}   
  (q0v:Meth K q0d "parts_them" zS)
  (q0p:Meth K q0c "parts_them" zS)
  (q0z:Meth K q0e "parts_them" zS)
  (q0q:K.lookup zS=some ⟨q2q,q2r,.func (PySem.W.fnOf "parts_them" "Rule.parts_them" (wM (inClass (top 7) 2)) (yT (inClass (top 7) 2)) (zK (inClass (top 7) 2)) .none q2s q2t q2u q2v q0l q2w),q2x⟩) (q0r:PySem.W.codeIn K q0l "Rule.parts_them"=true) (q0s:PySem.W.keepIn K (.ref zS)=true)
  {yM:Addr}   
  (q1q:Meth K q0d "lacks" yM)
  (q1d:Meth K q0c "lacks" yM)
  (q1e:Meth K q0b "lacks" yM)
  (q1f:K.lookup yM=some ⟨q3k,q3l,.func (PySem.W.fnOf "lacks" "Rule.lacks" (wM (inClass (top 7) 3)) (yT (inClass (top 7) 3)) (zK (inClass (top 7) 3)) .none q3m q3n q3o q3p q1a q3q),q3r⟩) (q1g:PySem.W.codeIn K q1a "Rule.lacks"=true) (q1h:PySem.W.keepIn K (.ref yM)=true)
  {xC:Addr}   
  (q1r:Meth K q0c "bars" xC)
  (q1i:K.lookup xC=some ⟨q3s,q3t,.func (PySem.W.fnOf "bars" "Never.bars" (wM (inClass (top 8) 0)) (yT (inClass (top 8) 0)) (zK (inClass (top 8) 0)) .none q3u q3v q3w q3x q1b q3y),q3z⟩) (q1j:PySem.W.codeIn K q1b "Never.bars"=true) (q1k:PySem.W.keepIn K (.ref xC)=true)
  {zR:Addr}   
  (q0j:Meth K q0b "parts_in_turn" zR)
  (q0g:K.lookup zR=some ⟨q1v,q1w,.func (PySem.W.fnOf "parts_in_turn" "Apart.parts_in_turn" (wM (inClass (top 9) 0)) (yT (inClass (top 9) 0)) (zK (inClass (top 9) 0)) .none q1x q1y q1z q2a q0f q2b),q2c⟩) (q0h:PySem.W.codeIn K q0f "Apart.parts_in_turn"=true) (q0i:PySem.W.keepIn K (.ref zR)=true)
  {zW:Addr}   
  (q0t:Meth K q0b "parts_them" zW)
  (q0m:K.lookup zW=some ⟨q2i,q2j,.func (PySem.W.fnOf "parts_them" "Apart.parts_them" (wM (inClass (top 9) 1)) (yT (inClass (top 9) 1)) (zK (inClass (top 9) 1)) .none q2k q2l q2m q2n q0k q2o),q2p⟩) (q0n:PySem.W.codeIn K q0k "Apart.parts_them"=true) (q0o:PySem.W.keepIn K (.ref zW)=true)
  {yR:Addr}   
  (q2e:Meth K q0e "lacks" yR)
  (q1s:K.lookup yR=some ⟨q4i,q4j,.func (PySem.W.fnOf "lacks" "Tie.lacks" (wM (inClass (top 10) 0)) (yT (inClass (top 10) 0)) (zK (inClass (top 10) 0)) .none q4k q4l q4m q4n q1l q4o),q4p⟩) (q1t:PySem.W.codeIn K q1l "Tie.lacks"=true) (q1u:PySem.W.keepIn K (.ref yR)=true)
  (Uj:nNo K "all")
  (Uq:nNo K "any")
  (XX:nNo K "bool")
  (Ld:nNo K "dict")
  (fS:nNo K "enumerate")
  (Um:nNo K "int")
  (nI:nNo K "isinstance")
  (CD:nNo K "len")
  (XY:nNo K "list")
  (Ue:nNo K "min")
  (nK:nNo K "range")
  (Ur:nNo K "set")
  (KH:nNo K "sorted")
  (Lc:nNo K "str")
  (fK:nNo K "tuple")
  : ∃fd:FuncData,(∀ s  v ,BindsTo s fd ⟨[v],[]⟩ [(ŝ,v)])/\ ∀base:Heap,K.In base->base.Ns mainGlobals mg->FnOk l.prog w K mg base sF 8 fa fd [ŝ] (MG K TU):=by
 have az:=mgN X GG Uj;have a3:=mgN X GG Uq;have ao:=mgN X GG XX;have ax:=mgN X GG Ld;have o:=mgN X GG fS;have a7:=mgN X GG Um;have k:=mgN X GG nI;have N:=mgN X GG CD;have aq:=mgN X GG XY;have a0:=mgN X GG Ue;have e:=mgN X GG nK;have a6:=mgN X GG Ur;have ah:=mgN X GG KH;have aw:=mgN X GG Lc;have j:=mgN X GG fK;have y:=qO (st:=inClass (top 7) 0) q0w q0x q0y;have a:=y.binds (ps:=["self","parts"]) λ_ _ _ _ _ _ us hl=>match us,hl with |[_,_],_=>rfl
 have Q:=qO (st:=inClass (top 7) 1) q1n q1o q1p;have z:=Q.binds (ps:=["self","row"]) λ_ _ _ _ _ _ us hl=>match us,hl with |[_,_],_=>rfl
 have n:=qO (st:=inClass (top 7) 2) q0q q0r q0s;have d:=n.binds (ps:=["self","row","other"]) λ_ _ _ _ _ _ us hl=>match us,hl with |[_,_,_],_=>rfl
 have O:=qO (st:=inClass (top 7) 3) q1f q1g q1h;have u:=O.binds (ps:=["self","row","rows"]) λ_ _ _ _ _ _ us hl=>match us,hl with |[_,_,_],_=>rfl
 have J:=qO (st:=inClass (top 8) 0) q1i q1j q1k;have ab:=J.binds (ps:=["self","row"]) λ_ _ _ _ _ _ us hl=>match us,hl with |[_,_],_=>rfl
 have i:=qO (st:=inClass (top 9) 0) q0g q0h q0i;have C:=i.binds (ps:=["self","row","other"]) λ_ _ _ _ _ _ us hl=>match us,hl with |[_,_,_],_=>rfl
 have m:=qO (st:=inClass (top 9) 1) q0m q0n q0o;have L:=m.binds (ps:=["self","row","other"]) λ_ _ _ _ _ _ us hl=>match us,hl with |[_,_,_],_=>rfl
 have S:=qO (st:=inClass (top 10) 0) q1s q1t q1u;have ae:=S.binds (ps:=["self","row","rows"]) λ_ _ _ _ _ _ us hl=>match us,hl with |[_,_,_],_=>rfl
 have I:OC K "Rule" q0d:=⟨q2y,q4q,J6⟩
 have D:OC K "Never" q0c:=⟨q2f,q3i,Sv⟩
 have p:OC K "Apart" q0b:=⟨q2g,q3j,Su⟩
 have T:OC K "Tie" q0e:=⟨q3h,q4r,Z1⟩
 have Z:zAH K TR "parts":=λc hc=>by
  simp only[TR,mC,nM,or_false]at hc;rcases hc with rfl|rfl|rfl|rfl
  .exact⟨q0d,I,Lb⟩
  .exact⟨q0c,D,Bm⟩
  .exact⟨q0b,p,Bl⟩
  .exact⟨q0e,T,Uk⟩
 refine A6 D44 bo (λ_ _ _ _ _ _ s v=>.of_eq rfl) λbase f fd F=>?_;have U:FnOk l.prog w K mg base sF 1 q0a _ ["self","parts"] (W2 K "parts"):=Pt y Kz λcb A bg s H E=>YB (Wb (pv 0) (pv 1) rfl);have a8:Tp l.prog w K mg base "Rule" "parts":=⟨q0d,q0a,_,"parts",I,Lb,J2,U,a,PySem.W.mg_of X GG q2y⟩
 have ak:Tp l.prog w K mg base "Never" "parts":=⟨q0c,q0a,_,"parts",D,Bm,Sq,U,a,PySem.W.mg_of X GG q2f⟩
 have aj:Tp l.prog w K mg base "Apart" "parts":=⟨q0b,q0a,_,"parts",p,Bl,Sn,U,a,PySem.W.mg_of X GG q2g⟩
 have av:Tp l.prog w K mg base "Tie" "parts":=⟨q0e,q0a,_,"parts",T,Uk,Z2,U,a,PySem.W.mg_of X GG q3h⟩
 have G0:=UQ (P:=l.prog) (w:=w) (base:=base) D0 a7 k ao;have G1:=LI (P:=l.prog) (w:=w) (base:=base) D1;have G2:=XR D2 G1 G0;have G3:=JT D3 G2 az;have G4:=UR (P:=l.prog) (w:=w) (base:=base) D4;have B:=QP (P:=l.prog) (w:=w) (mg:=mg) (base:=base) Q;have b:=vO (P:=l.prog) (w:=w) (mg:=mg) (base:=base) n;have r:=LK (P:=l.prog) (w:=w) (mg:=mg) (base:=base) O;have aa:=LL (P:=l.prog) (w:=w) (mg:=mg) (base:=base) J Z G3;have G:=rQ (P:=l.prog) (w:=w) (mg:=mg) (base:=base) i Z G3
 have Y:Tq l.prog w K mg base "parts_in_turn" 4 3 xG:=λq hq=>by
  simp only[xG,mC,nM,or_false]at hq;rcases hq with rfl
  .exact⟨q0b,zR,_,_,p,q0j,G.mono ↑4,C⟩
 have M:=uG (P:=l.prog) (w:=w) (mg:=mg) (base:=base) m Y;have af:=QS (P:=l.prog) (w:=w) (mg:=mg) (base:=base) S Z G4;have bq:=XS (P:=l.prog) (w:=w) (base:=base) D12 ak aj av;have a5:=UU (P:=l.prog) (w:=w) (base:=base) D13 bq;have bp:=UV (P:=l.prog) (w:=w) (base:=base) D14 N j e;have b6:=UW (P:=l.prog) (w:=w) (base:=base) D15 o;have b3:=Ew (P:=l.prog) (w:=w) (base:=base) D16
 have ag:Tq l.prog w K mg base "parts_them" 5 3 xF:=λq hq=>by
  simp only[xF,mC,nM,or_false]at hq;rcases hq with rfl|rfl|rfl|rfl
  .exact⟨q0d,zS,_,_,I,q0v,b.mono ↑4,d⟩
  .exact⟨q0c,zS,_,_,D,q0p,b.mono ↑4,d⟩
  .exact⟨q0b,zW,_,_,p,q0t,M.mono ↑4,L⟩
  .exact⟨q0e,zS,_,_,T,q0z,b.mono ↑4,d⟩
 have b8:=ED (P:=l.prog) (w:=w) (base:=base) D17 o ag b3
 have au:Tq l.prog w K mg base "lacks" 2 3 fP:=λq hq=>by
  simp only[fP,mC,nM,or_false]at hq;rcases hq with rfl|rfl|rfl|rfl
  .exact⟨q0d,yM,_,_,I,q1q,r.mono ↑4,u⟩
  .exact⟨q0c,yM,_,_,D,q1d,r.mono ↑4,u⟩
  .exact⟨q0b,yM,_,_,p,q1e,r.mono ↑4,u⟩
  .exact⟨q0e,yR,_,_,T,q2e,af.mono ↑4,ae⟩
 have bh:=XT (P:=l.prog) (w:=w) (base:=base) D18 a5 o au;have bt:=LM (P:=l.prog) (w:=w) (base:=base) D19;have bb:=FS (P:=l.prog) (w:=w) (base:=base) D20 bt;have bu:=JY (P:=l.prog) (w:=w) (base:=base) D21 ax bb j
 have ay:Tq l.prog w K mg base "bars" 4 2 oV:=λq hq=>by
  simp only[oV,mC,nM,or_false]at hq;rcases hq with rfl|rfl|rfl|rfl
  .exact⟨q0d,yQ,_,_,I,q2d,B.mono ↑4,z⟩
  .exact⟨q0c,xC,_,_,D,q1r,aa.mono ↑4,ab⟩
  .exact⟨q0b,yQ,_,_,p,q1m,B.mono ↑4,z⟩
  .exact⟨q0e,yQ,_,_,T,q2h,B.mono ↑4,z⟩
 have a':=Sk (P:=l.prog) (w:=w) (base:=base) D22 a5 ay a3 bu bh;have b4:=XU (P:=l.prog) (w:=w) (base:=base) D23 a5 b6 a' bp b8;have a9:=FT (P:=l.prog) (w:=w) (base:=base) D24 N;have a4:=UY (P:=l.prog) (w:=w) (base:=base) D25;have ai:=QT (P:=l.prog) (w:=w) (base:=base) D26;have ar:=QU (P:=l.prog) (w:=w) (base:=base) D27 e a4;have b':=QV (P:=l.prog) (w:=w) (base:=base) D28 aw k e ai N a0;have b2:=QW (P:=l.prog) (w:=w) (base:=base) D29 ar e ai b';have b7:=KA (P:=l.prog) (w:=w) (base:=base) D30 ar e ai j;have bl:=UZ (P:=l.prog) (w:=w) (base:=base) D31 ar ai N e j;have bc:=QX (P:=l.prog) (w:=w) (base:=base) D32 bl N j;have bj:=QY (P:=l.prog) (w:=w) (base:=base) D33 ai N;have b5:=LN (P:=l.prog) (w:=w) (base:=base) D34 e ai bj j;have bz:=QZ (P:=l.prog) (w:=w) (base:=base) D35 ar ai N b5 e j;have br:=RA (P:=l.prog) (w:=w) (base:=base) D36 b2 a9 b7 ai ar e bz j aq a4 bc;have b9:=LO (P:=l.prog) (w:=w) (base:=base) D37;have ba:=RB (P:=l.prog) (w:=w) (base:=base) D38 b9 aw k;have bf:=KC (P:=l.prog) (w:=w) (base:=base) D39 ba;have bx:=KD (P:=l.prog) (w:=w) (base:=base) D40 ba;have bw:=FU (P:=l.prog) (w:=w) (base:=base) D41;have b0:=VA (P:=l.prog) (w:=w) (base:=base) D42;have b1:=KF (P:=l.prog) (w:=w) (base:=base) D43 o bf bw b0 bx ah;exact G7 (P:=l.prog) (w:=w) (base:=base) F a4 a9 br a' N j e b1 ah a6 b4 aq k ao
def walk{l:PySem.W.OpenLaw}{K:Params->PySem.W.Frag}(i:l.most=some 63)(b:d.params.defaults=[])
  (hY: ∀ w  h ,YP w h->(K w.params).In h)
  (F: ∀ w  mg  m  h ,(K w.params).In h->h.Ns mainGlobals mg->mg d.name=some (.ref m)->
   ∃j:FuncData,(∀ s  u ,BindsTo s j ⟨[u],[]⟩ [(ŝ,u)])/\ ∀base:Heap,(K w.params).In base->base.Ns mainGlobals mg->FnOk l.prog w (K w.params) mg base sF 8 m j [ŝ] (MG (K w.params) TU)):
  PySem.W.WalkO q loose XP YP l.row.toRowW d [] (λf vs=>PySem.call f vs):=
 L2.walk_of (n:=63) (k:=8) (x:=ŝ) (CX:=λ_=>sF) (sp:=λw=>MG (K w.params) TU) i ↑4 b ⟨rfl,by decide,by decide,rfl⟩ hY F
  (λw H a c o p e=>(by have h:=(Ky c o);obtain⟨S,h⟩:=h;refine⟨_,yE (YL (Yr p e) (CP c)) yK,rfl,λg _=>?_⟩;rw[h];exact λv α' H' x w d=>EN d.1)) λ_ _ _ _ _ z=>z
end My
end M
end L2
namespace PySem.W.Fast
def tw12775116520739959693:=0
theorem te12775116520739959693:tw12775116520739959693=0:=rfl
def tw13122512395589024865:=0
theorem te13122512395589024865:tw13122512395589024865=0:=rfl
def tw746885545684938101:=0
theorem te746885545684938101:tw746885545684938101=0:=rfl
def tw9762525938854194288:=0
theorem te9762525938854194288:tw9762525938854194288=0:=rfl
def tw9825161030458717980:=0
theorem te9825161030458717980:tw9825161030458717980=0:=rfl
def tw12651538042815577246:=0
theorem te12651538042815577246:tw12651538042815577246=0:=rfl
def tw8798792233498139415:=0
theorem te8798792233498139415:tw8798792233498139415=0:=rfl
def tw15663735790257758688:=0
theorem te15663735790257758688:tw15663735790257758688=0:=rfl
def tw3768083908665808566:=0
theorem te3768083908665808566:tw3768083908665808566=0:=rfl
def tw14911892168213654871:=0
theorem te14911892168213654871:tw14911892168213654871=0:=rfl
def tw9182708852455640350:=0
theorem te9182708852455640350:tw9182708852455640350=0:=rfl
def tw15988811654348612466:=0
theorem te15988811654348612466:tw15988811654348612466=0:=rfl
def tw12727997244369187245:=0
theorem te12727997244369187245:tw12727997244369187245=0:=rfl
def tw6978668707676145247:=0
theorem te6978668707676145247:tw6978668707676145247=0:=rfl
def tw8961740044251515286:=0
theorem te8961740044251515286:tw8961740044251515286=0:=rfl
def tw6694150566302358944:=0
theorem te6694150566302358944:tw6694150566302358944=0:=rfl
def tw9705051217093606860:=0
theorem te9705051217093606860:tw9705051217093606860=0:=rfl
def tw7148285734342155169:=0
theorem te7148285734342155169:tw7148285734342155169=0:=rfl
def tw10227640495190255262:=0
theorem te10227640495190255262:tw10227640495190255262=0:=rfl
def tw16172926336693712365:=0
theorem te16172926336693712365:tw16172926336693712365=0:=rfl
def tw16837030649442621908:=0
theorem te16837030649442621908:tw16837030649442621908=0:=rfl
def tw5700127882193794046:=0
theorem te5700127882193794046:tw5700127882193794046=0:=rfl
def tw6692771685750343570:=0
theorem te6692771685750343570:tw6692771685750343570=0:=rfl
def tw1833633642625871218:=0
theorem te1833633642625871218:tw1833633642625871218=0:=rfl
def tw4560377460904923273:=0
theorem te4560377460904923273:tw4560377460904923273=0:=rfl
def tw1171049828323483180:=0
theorem te1171049828323483180:tw1171049828323483180=0:=rfl
def tw15547300881412820037:=0
theorem te15547300881412820037:tw15547300881412820037=0:=rfl
def tw13011606035814757299:=0
theorem te13011606035814757299:tw13011606035814757299=0:=rfl
def tw13554752294344168686:=0
theorem te13554752294344168686:tw13554752294344168686=0:=rfl
end PySem.W.Fast
open PySem PySem.W PyProof.Rows
set_option maxRecDepth 100000 in
set_option maxHeartbeats 0 in
theorem PySem.Challenge.cw_mendsure_k13_rows_that_clash_holds : PySem.Challenge.rw_mendsure_k13_rows_that_clash.Holds := by
  w_on; o_law; k_head; (case hw => w_witness2)
  k_fill
  refine L2.M.My.walk (l := PySem.Challenge.rw_mendsure_k13_rows_that_clash) rfl rfl (fun w h Y => PySem.W.kIn_of Y) ?F
  case F =>
    intro w mg b h KX G a
    refine' L2.M.My.all_mk KX G a ?_ ?_ ?_ ?_ ?_ ?_ ?_ ?_ ?_ ?_ ?_ ?_ ?_ ?_ ?_ ?_ ?_ ?_ ?_ ?_ ?_ ?_ ?_ ?_ ?_ ?_ ?_ ?_ ?_ ?_ ?_ ?_ ?_ ?_ ?_ ?_ ?_ ?_ ?_ ?_ ?_ ?_ ?_ ?_ ?_ ?_ ?_ ?_ ?_ ?_ ?_ ?_ ?_ ?_ ?_ ?_ ?_ ?_ ?_ ?_ ?_ ?_ ?_ ?_ ?_ ?_ ?_ ?_ ?_ ?_ ?_ ?_ ?_ ?_ ?_ ?_ ?_ ?_ ?_ ?_ ?_ ?_ ?_ ?_ ?_ ?_ ?_ ?_ ?_ ?_ ?_ ?_ ?_ ?_ ?_ ?_ ?_ ?_ ?_ ?_ ?_ ?_ ?_ ?_ ?_ ?_ ?_ ?_ ?_ ?_ ?_ ?_ ?_ ?_
    any_goals first | (exact L2.M.def_mk (by k_is) (by k_is) (by k_is) (by k_is) KX G) | (k_is) | (exact L2.M.nm_of (by k_is) (by rfl)) | (exact ⟨by k_is, by k_is, by k_is, by k_is⟩) | (show PySem.W.findIn _ _ _ = _; k_is) | (exact ⟨by k_is, by k_is, by k_is⟩) | (show PySem.W.nsIn _ _ _ = _; k_is)
